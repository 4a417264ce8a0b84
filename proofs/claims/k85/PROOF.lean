import PyProof.Rows.All
import Wide.FinOn
import KE.KNestM
import KE.KIsAll
import KE.KxText
import KE.KIntText
import KE.KUnpack
import KE.KItem
import KE.BitLaws
import KE.IntBitsLaws
import PyProof.EqAt
import PyProof.EqKinds
import PyProof.TupleCall
import KE.KLam
import KE.KMinKey
import PySem.Challenge.RW_shadowpost_k85_whole_wants_kept_dark
set_option Elab.async false
set_option linter.all false
set_option bootstrap.genMatcherCode false
set_option backward.eqns.nonrecursive false
set_option genSizeOf false
set_option compiler.extract_closed false
set_option maxRecDepth 100000
set_option maxHeartbeats 4000000
set_option autoImplicit true
set_option hygiene false in
local macro_rules|`(command|#where)=>do
 let f(s:String)(l:List Nat):=l.mapM λi=>let x:=Lean.mkIdent ((`PySem.W.Fast).str ("tw"++toString ((`Tp).str (s++toString i)).hash));`(theorem $x:ident :True:=trivial)
 return Lean.mkNullNode ((<-f "o_" (List.range' 43 1172))++(<-f "tree_" [47,102,117,132,154,176,198,213,261,342,419,459,515,593,647,669,691,713,733,783,860,929,1012,1076,1113,1166,1214])++(<-f "sts_" [49,103,118,133,155,177,199,214,262,343,420,460,516,594,648,670,692,714,734,784,861,930,1013,1077,1116,1167])++(<-f "heap_" [39,46,1215])++(<-f "view_" [39])++(<-f "env_" [41])).toArray
#where
theorem PySem.W.Fast.tw4880313722706065043:True:=trivial
theorem PySem.W.Fast.tw9851551349302445305:True:=trivial
set_option maxHeartbeats 0 in
open_top Tp for PySem.Challenge.rw_shadowpost_k85_whole_wants_kept_dark
noncomputable section
set_option tactic.hygienic false
open Array renaming length_toList->cY
open Bool renaming and_eq_true->ă,false_ne_true->bE,or_false->wS,false_eq_true->oj,eq_iff_iff->jO,or_eq_true->om,false_or->wT,true_and->rE
open Char renaming toNat->aJ
open Classical renaming choose->BQ,byContradiction->BR
open False renaming elim->aK
open ForInStep renaming yield->g_
open Function renaming comp_def->wU
open Inhabited renaming default->ô
open Int renaming natCast_nonneg->wV,fdiv_eq_ediv_of_nonneg->rG,fmod_eq_emod_of_nonneg->wW,toNat_natCast->wX,le_ediv_iff_mul_le->BS,le_refl->wY,fmod_nonneg_of_pos->BU,natAbs_mul->rH,eq_ofNat_of_zero_le->rJ,natCast_mul->wZ
open List renaming range->Ô,mem_filter->lP,mem_range->ϑ,filterMap_cons->rK,mem_cons_self->Ş,mem_cons_of_mem->þ,mem_cons->û,mem_append->ź,mem_append_left->on,getElem?_eq_some_iff->aL,getElem?_set_self->oo,getElem?_set_ne->lQ,mem_filterMap->w_,mem_append_right->aM,size_toArray->Ģ,length_cons->ĝ,length_nil->xa,lookup->eC,map_cons->à,length_map->Ğ,append_nil->fO,nodup_cons->cZ,of_mem_zip->rM,replicate->á,length->cq,length_take->rN,getElem?_append_right->cr,getElem?_replicate->hU,getElem?_append_left->ϧ,getElem?_map->Ł,mem_of_getElem?->xb,length_append->Ϲ,map_nil->Ů,all_eq_true->c_,lookup_cons->ş,forIn_cons->oq,nil_append->Š,append_assoc->lR,forIn_nil->xf,mem_iff_getElem->xg,getD_eq_getElem?_getD->fP,getElem?_eq_getElem->œ,getElem_mem->ϒ,length_range->xh,drop_zero->rP,take_of_length_le->xi,eq_nil_of_length_eq_zero->BV,replicate_succ->BW,foldl_cons->eD,map_map->ķ,map_congr_left->xj,cons_append->eE,mem_singleton->cu,set_set->xk,drop_eq_getElem_cons->lS,drop_eq_nil_of_le->jP,getElem?_range->BX,getElem?_eq_none->BY,length_eq_zero_iff->rQ,contains_cons->xl,getElem?_cons_succ->rS,not_mem_nil->cw,any_cons->eG,findSome?_cons->lU,map_append->Ŕ,getElem?_of_mem->BZ,mem_map->ģ,nodup_append->xm,range'->hV,range'_succ->rT,take_succ_cons->B_,getElem_of_mem->B1,find?_cons->xn,set_cons_succ->rW,set_cons_zero->rX,flatMap_cons->ou,forall_mem_cons->B2,length_pos_iff->B3,mem_of_getLast?->B4,range_eq_range'->xp,filter_cons_of_pos->B5,length_filter_le->B6,getD_cons_zero->xq,getD_cons_succ->oy
open List.Pairwise renaming nil->B7
open MonadExcept renaming tryCatch->lV
open Nat renaming lt_of_lt_of_le->š,lt_irrefl->aN,ne_of_lt->İ,le_trans->Ţ,le_of_lt->jQ,ne_of_gt->cx,le_refl->ö,le_of_eq->rY,lt_succ_self->rZ,zero_le->da,lt_succ_of_lt->oz,mul_le_mul->eI,le_succ->xr,add_comm->r_,zero_add->se,one_mul->xt,testBit_mul_two_pow->B8,pow_le_pow_right->lW,add_mul->sf,mod_eq_sub_div_mul->B9,mul_comm->xu,testBit_or->xv,testBit_lt_two_pow->xw,toDigits->Ϩ,min_eq_left->xx
open Ne renaming symm->Ė
open OfNat renaming ofNat->Ż
open Option renaming isSome_iff_exists->Ca,map_eq_some_iff->h_,bind_eq_some_iff->oA,isNone_iff_eq_none->Cb
open Option.some renaming inj->ı
open Or renaming inl->ϓ,inr->jR
open Pure renaming pure->î
open PyProof.Rows renaming AllBare->fQ,callWith_type1->si,envOfC->ŕ,IntsAre->lX,recsOf->sj,ext_toList->Cc,seqObj->fR,boot_abs->sk,boot_str->Cd,boot_list->cy,boot_sum->oB,boot_max->xy,boot_min->xz,boot_all->jS,boot_tuple->xA,boot_int->Cf,boot_isinstance->sq,boot_divmod->Cg
open PySem renaming Value->Á,World->â,Program->ë,Addr->À,Heap->Ò,sysModules->oC,Within->xB,mainGlobals->ē,bootBuiltins->eJ,Around->ê,Shared->Ã,Scope->ú,Model->fT,wpAny->Ï,Expr->Ç,model->Ø,backTo->ÿ,starEach->Ð,Stmt->è,wpAny_mono->ϔ,wpAny_execs_nil->oE,swapsWith->Ŗ,assign->db,assignEach->ϕ,Operator->oG,holding->ϖ,standAt->de,wpAny_bind->Ñ,wpAny_holding->eK,wpAny_standAt->lY,swapsWithSole->xC,swappedStores->xD,PassesOwn->oH,wpAny_passesOwn->jT,pyNext->aO,letOwnedTupleGo->sr,pyIter->ia,wpAny_pure->Ą,rawInt->aP,foldedSetIterable->df,binaryOp->ň,compareOp->ĭ,CmpOp->fU,behindInMarks->lZ,sizeLine_eq->eL,wpAny_truthy_bool->eM,getMethod->ib,codeAny->dg,attributeBase->eN,recursionLimit->su,cLine->ż,FuncData->Ć,BindsTo->fV,bindArgs->dh,Keyword->aQ,NameKind->cz,cellsFrom->ţ,mem_of_lookup->jU,Arguments->ie,wpAny_Call_Name_kw->ig,typeIs_str->l_,sliceBounds->jV,backToKw->aR,keywordEach->aS,call_meets->oI,Params->ii,callerA->ij,call->sv,codeAny_mono->mj,DictEntry->ik,PyData->aT,wpAny_newObj_type->xE,wpAny_pyIter_list->jW,wpAny_call->sw,codeAny_builtin->sx,seqItems?->im,wpAny_seqItems->di,wpAny_tryCatch->mq,wpAny_updateSeq->xF,wpAny_letGo->io,plainId_quiet->sy,eval->xG,wpAny_pyIter_tuple->xH,callWith->eO,ExceptHandler->oJ,nums_intItems->sA,intItems->ip,numAt->dm,Builtin->my,IsEnum->bF,field->cA,wpAny_field->Ž,wpAny_setField_rec->dq,wpAny_rule->sB,wpAny_attempt->sC,wpAny_callSpecial?_slot->mz,wpAny_call_entry->mB,wpAny_pyIter_enum->xI,Draws->eP,IsZip->ϩ,IsPair->ŗ,wpAny_onRaise->sD,wpAny_updateSeq_pair->xJ,boot_len->Ę,Str->aU,intText?->oK
open PySem.Around renaming under->xK,frames_deeper->Cj,under_plainId->xL
open PySem.Builtin renaming bitAnd->eQ,bitOr->mD,bitNot->mE
open PySem.Builtin.Builtins renaming bindParams->Ck
open PySem.Builtin.Int renaming intBits->sE
open PySem.Builtin.List renaming listTooLong->xM
open PySem.Builtin.SmallTypes renaming ownedTupleIsFree->mF,ownedTupleHandOut->sG,nextOf->iq
open PySem.Builtin.Str renaming strSliceIndices->mG,occurrences->jX,strKind->mH
open PySem.Calls renaming Name_function_global->Cm
open PySem.Code renaming isFrame->xN
open PySem.Data renaming fields->xO,cell->oM
open PySem.F renaming slot_list_append->bG,slot_list_extend->xP,entry_min_loop->xQ,plain_min_loop->jY,called_enumerate->xR,slot_enumerate_next->sI,entry_enumerate_next->Cn,args_enumerate_next_1->Co,slot_tuple_iterator_next->sJ,entry_tuple_iterator_next->Cp,args_tuple_iterator_next_1->Cr,slot_zip_next->sK,plainAttrs_list->aV,type_list_append->cB,slot_str_split->ir,entry_str_split->xS,args_str_split_2->xT,plainAttrs_str->dr,slot_str_join->sM,type_str_join->sN,type_list_extend->Cs,slot_str_startswith->Ct,type_str_startswith->Cu,type_str_split->oN
open PySem.Heap renaming lt_size->ü,SameBut->ŧ,get?_push_of_some->ø,get?_push_size->Ĥ,size_push->Ϫ,get?_update_self->Cw,get?_update_other->Cy,ExtBut->sO
open PySem.Heap.SameBut renaming update->oO
open PySem.NameKind renaming free->cC,cell->iu
open PySem.Obj renaming mapSeq->eR
open PySem.PassesOwn renaming leaving->ĥ
open PySem.PyData renaming eqv->ł,strOk->ę,canLay0->xU,canLayAll0->jZ,eqvAll->oP
open PySem.Shared renaming heap->xV
open PySem.Str renaming length->cD,ofString->Ì,ext'->j_
open PySem.Value renaming isStrOf->fW,int->mJ,str->mK,bool->eS,float->xW,ref->Ń,type->xX
open PySem.Value.type renaming inj->sP
open PySem.W renaming instObj->fX,methodObj->xY,Frag->Î,tabIn->Ũ,CodeHd->xZ,lookIn->sQ,plainGet->oQ,hasDictIn->sR,findIn->ů,handedIn->Cz,plainGet_of->x_,isFn->oR,plainOver->ya,takerIn->yb,makesIn->yc,emptyDict->eU,keepIn->ϫ,kitOne->oS,kia_one->bI,kitx_list->yf,kitx_tuple->CA,kitx_dict->CB,cellsFrom_some->CC,fnOf->ŉ,codeIn->fY,OpenLaw->mL,WalkO->sS,noTabs->sT,kla_obj->oU,envX->sU,kla_fn->yg,callWith_K->ka,methodCall_KW->yi,nsIn->aW,mg_of->oV
open PySem.W.KIN renaming val_back->CD
open PySem.Walks renaming list->sW
open Sum renaming inl->kb,inr->kc
open ToString renaming toString->bJ
namespace L2
open PySem PySem.Spec PyProof.Rows
abbrev Key:=Sum Int Str
noncomputable def JR:Key->Á->Bool
 |.inl k,v=>Value.isInt k v|.inr x,v=>fW x v
noncomputable def Tu(w:â):Key->Int
 |.inl k=>hashInt k|.inr x=>hashStr w x
theorem ϗ:∀{k:Key}{v:Á},JR k v=true->(∃i t,k=kb i/\v=mJ i t)\/(∃x t,k=kc x/\v=mK x t)
 |.inl i,v,h=>by obtain⟨t,e⟩:=Value.isInt_shape (k:=i) (v:=v) h;exact .inl ⟨i,t,rfl,e⟩|.inr x,v,h=>by obtain⟨t,e⟩:=Value.isStrOf_shape (x:=x) (v:=v) h;exact .inr ⟨x,t,rfl,e⟩
def KG(a b:Int):decide ((kb a:Key)=kb b)=(a==b):=by
 by_cases e:a=b
 ·subst e;simp
 ·have h:¬(kb a:Key)=kb b:=λq=>e<|Sum.inl.inj q;rw[decide_eq_false h];exact(beq_eq_false_iff_ne.mpr e).symm
def KH(a b:Str):decide ((kc a:Key)=kc b)=decide (a=b):=by
 by_cases e:a=b
 ·subst e;simp
 ·have h:¬(kc a:Key)=kc b:=λq=>e<|Sum.inr.inj q;rw[decide_eq_false h,decide_eq_false e]
def KI(a:Int)(b:Str):decide ((kb a:Key)=kc b)=false:=decide_eq_false<|λq=>nomatch q
def KJ(a:Str)(b:Int):decide ((kc a:Key)=kb b)=false:=decide_eq_false<|λq=>nomatch q
def yj(prog:ë)(w:â):PySem.KeyKind prog w Key where
 is:=JR
 hash:=Tu w
 inj:=λv a b ha hb=>by
  rcases ϗ ha with⟨i,t,rfl,rfl⟩|⟨x,t,rfl,rfl⟩
  ·rcases ϗ hb with⟨j,u,rfl,e⟩|⟨y,u,rfl,e⟩
   ·injection e with e1 _;rw[e1]
   ·exact nomatch e
  ·rcases ϗ hb with⟨j,u,rfl,e⟩|⟨y,u,rfl,e⟩
   ·exact nomatch e
   ·injection e with e1 _;rw[e1]
 byValue:=λk v h=>by rcases ϗ h with⟨i,t,rfl,rfl⟩|⟨x,t,rfl,rfl⟩<;>rfl
 pyHash:=λhv h=>by
  rcases ϗ hv with⟨i,t,rfl,rfl⟩|⟨x,t,rfl,rfl⟩
  ·exact wpAny_pyHash_int h
  ·exact wpAny_pyHash_str h
 eqBool:=λhu hv h=>by
  rcases ϗ hu with⟨i,t,rfl,rfl⟩|⟨x,t,rfl,rfl⟩
  ·rcases ϗ hv with⟨j,u,rfl,rfl⟩|⟨y,u,rfl,rfl⟩
   ·rw[KG]at h;exact wpAny_eqBool_int h
   ·rw[KI]at h;exact SeqAt.EqAt.int_str i t y u _ _ _ _ h
  ·rcases ϗ hv with⟨j,u,rfl,rfl⟩|⟨y,u,rfl,rfl⟩
   ·rw[KJ]at h;exact SeqAt.EqAt.str_int x t j u _ _ _ _ h
   ·rw[KH]at h;exact wpAny_eqBool_str h
 «strs» :=fun k x t v h=>by
   rcases ϗ h with⟨i,u,rfl,e⟩|⟨y,u,rfl,e⟩
   ·exact nomatch e
   ·injection e with e1 _
    subst e1;cases v<;>rfl
inductive V where
 |non|bl (b:Bool)|int (i:Int)|str (x:Str)|JS (b:Array UInt8)|flt (b:UInt64)|ref (a:À)|ty (n:String)
 deriving DecidableEq
def RelV:V->Á->Prop
 |.non,u=>u=Value.none|.bl b,u=>u=eS b|.int i,u=>∃t,u=mJ i t|.str x,u=>∃t,u=mK x t|.JS b,u=>∃t,u=Value.bytes b t|.flt b,u=>∃t,u=xW b t|.ref a,u=>u=Ń a|.ty n,u=>u=xX n
abbrev Ō:List V->List Á->Prop:=Paired RelV
theorem Ō.length(r:Ō xs us):xs.length=us.length:=Paired.length r
theorem Ō.get:∀{xs:List V}{us:List Á}{i:Nat}{x:V},Ō xs us->xs[i]?=some x->∃u,us[i]?=some u/\RelV x u
 |_,_,_,_,.nil,e=>by simp at e|_,_,0,_,.cons r _,e=>by simp at e;subst e;exact⟨_,rfl,r⟩|_,_,i+1,x,.cons _ t,e=>by obtain⟨u,h1,h2⟩:=Ō.get (i:=i) (x:=x) t (by simpa using e);exact⟨u,by simpa using h1,h2⟩
theorem Ō.set(r:RelV x u):∀{xs:List V}{us:List Á} (i:Nat),Ō xs us->Ō (xs.set i x) (us.set i u)
 |_,_,_,.nil=>.nil|_,_,0,.cons _ t=>.cons r t|_,_,i+1,.cons q t=>.cons q<|Ō.set r i t
theorem Ō.append:∀{xs ys:List V}{us ws:List Á},Ō xs us->Ō ys ws->Ō (xs++ys) (us++ws)
 |_,_,_,_,.nil,s=>s|_,_,_,_,.cons r t,s=>.cons r<|Ō.append t s
theorem Ō.take:∀{xs:List V}{us:List Á} (n:Nat),Ō xs us->Ō (xs.take n) (us.take n)
 |_,_,0,_=>.nil|_,_,_+1,.nil=>.nil|_,_,n+1,.cons r t=>.cons r<|Ō.take n t
theorem Ō.drop:∀{xs:List V}{us:List Á} (n:Nat),Ō xs us->Ō (xs.drop n) (us.drop n)
 |_,_,0,r=>r|_,_,_+1,.nil=>.nil|_,_,n+1,.cons _ t=>Ō.drop n t
def vi:Option V->Option Á->Prop
 |some v,some u=>RelV v u|none,none=>True|_,_=>False
def KV{κ:Type}:List (κ×V)->List (κ×Á)->Prop:=Paired λ(p:κ×V) (q:κ×Á)=>p.1=q.1/\RelV p.2 q.2
noncomputable def kV:Key->V
 |.inl i=>.int i|.inr x=>.str x
inductive HO where
 |lst (xs:List V)
 |tup (xs:List V)
 |dK (aj:List (Key×V))|dT (aj:List (List Key×V))
 |set (S:Int->Bool) (n:Nat)
 |ins (C dx:À) (fs:List (Str×V))
 |own (x:À)
 |xd (fs:List (Str×V))
 |met (f x:À)
 |rng (lo hi:Int)
 |fg (o:Obj) (u:HO)
 |ai (q:Str)
 |D5 (q:Str)
 |ext (φ:Ò->Prop)
abbrev Hp:=À->Option HO
noncomputable def upd(H:Hp)(a:À)(o:HO):Hp:=λb=>if b=a then some o else H b
def Ā:upd H a o a=some o:=by unfold upd;rw[if_pos rfl]
def ñ(h:b≠a):upd H a o b=H b:=by unfold upd;rw[if_neg h]
def č{H:Hp}(h:H a=some o)(h':H b=none):a≠b:=by intro e;subst e;rw[h]at h';cases h'
section
variable(P:ë)(w:â)
def cM(H:Hp)(h:Ò)(a:À):HO->Prop
 |.lst xs=>xs.length<=sizeLine/\∃(Ē:List Á) (n:Nat),Ō xs Ē/\h.get? a=some {cls:=.type "list",data:=.seq Ē.toArray n}|.tup xs=>xs.length<=sizeLine/\∃Ē:List Á,Ō xs Ē/\IsTup h a Ē.toArray|.dK aj=>aj.length<=sizeLine/\(a==oC)=false/\∃vs,KV aj vs/\h.DictOf (yj P w) a vs|.dT aj=>aj.length≤sizeLine∧(a==oC)=false∧∃xs:List (List Key×À×Á),
     Paired (λ(p:List Key×V) (q:List Key×À×Á)=>p.1=q.1/\H q.2.1=some (.tup<|p.1.map kV)/\RelV p.2 q.2.2) aj xs/\
     ∃o es ep,h.get? a=some o/\o.ExactDict/\o.data=.dict es ep/\es.toList=xs.map (entryOfKey<|tupleKind<|yj P w)/\(xs.map (·.1)).Nodup
 |.set S n=>h.SetOf (intKind P w) a S n|.ins C dx fs=>H dx=some (.own a)∧fs.length≤1000∧dx≠a∧h.get? a=some (fX C dx)∧
     ∃mA,h.Ns1 dx mA/\(∀f,vi (fs.lookup f)<|mA f)/\xB mA (fs.map (·.1))
 |.own _=>∃o,h.get? a=some o|.xd fs=>∃mA,h.Ns1 a mA/\∀f,vi (fs.lookup f)<|mA f|.rng lo hi=>∃t u v,h.get? a=some {cls:=.type "range",data:=.fields #[.int lo t,.int hi u,.int 1 v]}|.fg o u=>h.get? a=some o/\cM H h a u|.ai q=>∃ps:Array Á,h.get? a=some {cls:=.none,data:=.fields ps}/\TriplesOk ps.toList/\∀pos cv,codeAmong pos ps.toList=some cv->∃c,cv=.ref c/\H c=some (.D5 q)|.D5 q=>h.CodeRec (.ref a) q|.met f x=>h.get? a=some (xY (.ref f)<|.ref x)|.ext φ=>φ h/\(∃o,h.get? a=some o)/\∀h1 h2:Ò,φ h1->(∀o,h1.get? a=some o->h2.get? a=some o)->φ h2
def oh(H:Hp)(h:Ò):Prop:=∀a o,H a=some o->cM P w H h a o
end
section
variable{P:ë}{w:â}{H H':Hp}{h h':Ò}{a:À}{o:HO}
theorem cM.lt(x:cM P w H h a o):a<h.objs.size:=by
 cases o with
 |lst xs=>obtain⟨_,_,_,_,e⟩:=x;exact ü e|tup xs=>obtain⟨_,_,_,p⟩:=x;exact p.lt|dK aj=>obtain⟨_,_,_,_,o,_,_,e,_⟩:=x;exact ü e|dT aj=>obtain⟨_,_,_,_,o,_,_,e,_⟩:=x;exact ü e|set S n=>obtain⟨o,_,_,_,e,_⟩:=x;exact ü e|ins C dx fs=>obtain⟨_,_,_,e,_⟩:=x;exact ü e|own y=>obtain⟨_,e⟩:=x;exact ü e|xd fs=>obtain⟨_,⟨_,_,_,e,_⟩,_⟩:=x;exact ü e|rng lo hi=>obtain⟨_,_,_,e⟩:=x;exact ü e|fg ob u=>obtain⟨e,_⟩:=x;exact ü e|ai q=>obtain⟨_,e,_⟩:=x;exact ü e|D5 q=>obtain⟨c,o,_,_,z,e,_⟩:=x;cases z;exact ü e|met f y=>exact ü<|show h.get? a=some _ from x|ext φ=>obtain⟨_,⟨_,e⟩,_⟩:=x;exact ü e
theorem Paired.KL{α β:Type}{F G:α->β->Prop}:∀{l₁:List α}{l₂:List β},Paired F l₁ l₂->(∀a b,F a b->G a b)->Paired G l₁ l₂
 |_,_,.nil,_=>.nil|_,_,.cons r t,f=>.cons (f _ _ r)<|Paired.KL t f
def cM.stay(x:cM P w H h a o)(k:∀b u,(b=a\/H b=some (.own a))->h.get? b=some u->h'.get? b=some u)
 (ho:∀b,H b=some (.own a)->H' b=some (.own a))(ht:∀b xs,H b=some (.tup xs)->H' b=some (.tup xs))(hc:∀b q,H b=some (.D5 q)->H' b=some (.D5 q):=by exact λg g z=>z):cM P w H' h' a o:=by
 induction o with
 |lst xs=>obtain⟨z,Ē,n,r,e⟩:=x;exact⟨z,Ē,n,r,k _ _ (.inl rfl) e⟩|tup xs=>obtain⟨z,Ē,r,ob,e,c⟩:=x;exact⟨z,Ē,r,ob,k _ _ (.inl rfl) e,c⟩|dK aj=>obtain⟨z,y,vs,r,ob,es,ep,e,c⟩:=x;exact⟨z,y,vs,r,ob,es,ep,k _ _ (.inl rfl) e,c⟩|dT aj=>obtain⟨z,y,xs,r,ob,es,ep,e,c⟩:=x;exact⟨z,y,xs,Paired.KL r λp q z=>⟨z.1,ht _ _ z.2.1,z.2.2⟩,ob,es,ep,k _ _ (.inl rfl) e,c⟩
 |set S n=>obtain⟨ob,es,ep,t,e,c⟩:=x;exact⟨ob,es,ep,t,k _ _ (.inl rfl) e,c⟩|ins C dx fs=>obtain⟨d,z,ne,e,mA,⟨od,es,ep,e2,c⟩,r⟩:=x;exact⟨ho _ d,z,ne,k _ _ (.inl rfl) e,mA,⟨od,es,ep,k _ _ (.inr d) e2,c⟩,r⟩|own y=>obtain⟨ob,e⟩:=x;exact⟨ob,k _ _ (.inl rfl) e⟩|xd fs=>obtain⟨mA,⟨od,es,ep,e,c⟩,r⟩:=x;exact⟨mA,⟨od,es,ep,k _ _ (.inl rfl) e,c⟩,r⟩|rng lo hi=>obtain⟨t,u,v,e⟩:=x;exact⟨t,u,v,k _ _ (.inl rfl) e⟩|fg ob u ih=>obtain⟨e,q⟩:=x;exact⟨k _ _ (.inl rfl) e,ih q⟩|ai q=>obtain⟨ps,e,t,r⟩:=x;exact⟨ps,k a _ (.inl rfl) e,t,λpos cv z=>let ⟨c,z1,z2⟩:=r pos cv z;⟨c,z1,hc c q z2⟩⟩
 |D5 q=>obtain⟨c,o,vs,t,z,e,r⟩:=x;cases z;exact⟨a,o,vs,t,rfl,k a _ (.inl rfl) e,r⟩|met f y=>have e:h.get? a=some (xY (.ref f)<|.ref y):=x;show h'.get? a=some (xY (.ref f)<|.ref y);exact k a _ (.inl rfl) e|ext φ=>obtain⟨p,⟨o,e⟩,st⟩:=x;exact⟨st _ _ p λo q=>k _ _ (.inl rfl) q,⟨o,k _ _ (.inl rfl) e⟩,st⟩
theorem oh.lt(x:oh P w H h)(e:H a=some o):a<h.objs.size:=(x a o e).lt
def oh.fresh(x:oh P w H h)(e:h.objs.size<=a):H a=none:=by
 cases q:H a with
 |none=>rfl|some u=>exact absurd (š (x.lt q) e)<|aN _
def oh.kept(x:oh P w H h)(k:∀b u,h.get? b=some u->h'.get? b=some u):oh P w H h':=λa o e=>
 (x a o e).stay (λb u y q=>k b u q) (λy q=>q) λy y q=>q
def oh.laid(x:oh P w H h)(k:∀b u,h.get? b=some u->h'.get? b=some u)(hp:h.objs.size<=a)(new:cM P w (upd H a o) h' a o):oh P w (upd H a o) h':=λb u e=>by
 have hn:=x.fresh hp;by_cases hb:b=a
 ·subst hb;rw[Ā]at e;cases e;exact new
 ·rw[ñ hb]at e;exact(x b u e).stay (λc v y q=>k c v q) (λc q=>by rw[ñ<|č q hn];exact q) (λc xs q=>by rw[ñ<|č q hn];exact q) λc xs q=>by rw[ñ<|č q hn];exact q
end
def Rd(H:Hp)(a:À)(u:HO):Prop:=H a=some u\/∃o,H a=some (.fg o u)
def Rd.ok(r:Rd H a u)(x:oh P w H h):cM P w H h a u:=by
 rcases r with r|⟨o,r⟩
 ·exact x a u r
 ·obtain⟨_,q⟩:=x a _ r;exact q
def Rj:Option HO->Prop
 |some (.lst _)=>True|some (.dK _)=>True|some (.dT _)=>True|some (.set _ _)=>True|some (.ins _ _ _)=>True|some (.ext _)=>True|some (.xd _)=>True|_=>False
section
variable{P:ë}{w:â}{H:Hp}{h h':Ò}{x e:À}{o':HO}
def oh.write(ok:oh P w H h)(mu:Rj (H x))(he:e=x\/H e=some (.own x))(k:∀b u,b≠e->h.get? b=some u->h'.get? b=some u)(NO:∃u,h'.get? e=some u)
 (new:cM P w (upd H x o') h' x o'):oh P w (upd H x o') h':=λb u q=>by
 have NW:∀c y,H c=some (.own y)->c≠x:=λc y r z=>by subst z;rw[r]at mu;exact mu
 have Tw:∀c xs,H c=some (.tup xs)->c≠x:=λc xs r z=>by subst z;rw[r]at mu;exact mu
 have Tx:∀c q,H c=some (.D5 q)->c≠x:=λc xs r z=>by subst z;rw[r]at mu;exact mu
 by_cases hb:b=x
 ·subst hb;rw[Ā]at q;cases q;exact new
 ·rw[ñ hb]at q;by_cases zH:b=e
  ·have q':H b=some (.own x):=by
    rcases he with z|z
    ·exact absurd (zH.trans z) hb
    ·rw[zH];exact z
   rw[q]at q';cases q';obtain⟨v,hv⟩:=NO;exact⟨v,by rw[zH];exact hv⟩
  ·refine(ok b u q).stay (λc v hc r=>k c v ?_ r) (λc r=>by rw[ñ<|NW c b r];exact r) (λc xs r=>by rw[ñ<|Tw c xs r];exact r) λc xs r=>by rw[ñ<|Tx c xs r];exact r
   rcases hc with rfl|hc
   ·exact zH
   ·rintro rfl;rcases he with z|z
    ·exact NW c b hc z
    ·rw[hc]at z;cases z;exact hb rfl
end
structure Un(fs ex:List À)(H H':Hp)(h h':Ò):Prop where
 keep:∀b o,h.get? b=some o->H b=none->b∉fs->b∉ex->h'.get? b=some o
 slot:∀b o,h.get? b=some o->H b=none->b∈fs->b∉ex->∃sl,h'.get? b=some {o with slots:=sl}
 free:∀b o,h.get? b=some o->H b=none->b∉ex->H' b=none
 there:∀b o,h.get? b=some o->b∉ex->∃o',h'.get? b=some o'
 tups:∀b xs,H b=some (.tup xs)->H' b=some (.tup xs)
 vj:∀b o u,H b=some (.fg o u)->H' b=some (.fg o u)
 q_:∀b q,H b=some (.ai q)->H' b=some (.ai q)
section
variable{fs ex:List À}{H H1:Hp}{h h1 h':Ò}{a x e:À}{o:HO}
def Un.any(u:Un fs ex H H1 h h1)(q:h.get? b=some ob)(n:H b=none)(hx:b∉ex):∃sl,h1.get? b=some {ob with slots:=sl}:=by
 by_cases hb:b∈fs
 ·exact u.slot b ob q n hb hx
 ·exact⟨ob.slots,u.keep b ob q n hb hx⟩
def Un.kept(k:∀b u,h.get? b=some u->h'.get? b=some u):Un fs ex H H h h':=
 ⟨λb ob q x x x=>k b ob q,λb ob q x x x=>⟨ob.slots,k b ob q⟩,λx x x n x=>n,λb ob q x=>⟨ob,k b ob q⟩,λx x q=>q,λx x x q=>q,λx x q=>q⟩
def Un.refl:Un fs ex H H h h:=Un.kept λx x q=>q
def Un.laid(k:∀b u,h.get? b=some u->h'.get? b=some u)(hp:h.objs.size<=a)(hn:H a=none):Un fs ex H (upd H a o) h h' where
 keep:=λb u q x x x=>k b u q
 slot:=λb u q x x x=>⟨u.slots,k b u q⟩
 free:=λb u q n x=>by rw[ñ<|İ<|š (ü q) hp];exact n
 there:=λb u q x=>⟨u,k b u q⟩
 tups:=λb xs q=>by rw[ñ<|č q hn];exact q
 vj:=λb u xs q=>by rw[ñ<|č q hn];exact q
 q_:=λb ps q=>by rw[ñ<|č q hn];exact q
def Un.write(mu:Rj (H x))(he:e=x\/H e=some (.own x))(k:∀b u,b≠e->h.get? b=some u->h'.get? b=some u)(NO:∃u,h'.get? e=some u):Un fs ex H (upd H x o) h h':=by
 have hx:∀b,H b=none->b≠x:=λb n z=>by subst z;rw[n]at mu;exact mu
 have hb:∀b,H b=none->b≠e:=λb n z=>by
  subst z;rcases he with r|r
  ·exact hx b n r
  ·rw[n]at r;cases r
 have hm:∀b u,H b=some u->¬Rj (some u)->b≠x:=λb u q nm z=>by subst z;rw[q]at mu;exact nm mu
 refine⟨λb u q n y y=>k b u (hb b n) q,λb u q n y y=>⟨u.slots,k b u (hb b n) q⟩,λb u q n y=>by rw[ñ<|hx b n];exact n,λb u q y=>?_,
  λb xs q=>by rw[ñ<|hm b _ q λz=>z];exact q,λb u xs q=>by rw[ñ<|hm b _ q λz=>z];exact q,λb ps q=>by rw[ñ<|hm b _ q λz=>z];exact q⟩
 by_cases zH:b=e
 ·subst zH;exact NO
 ·exact⟨u,k b u zH q⟩
end
noncomputable def Rk(h:Ò)(H:Hp):List À:=(Ô h.objs.size).filter λa=>(H a).isSome
def vk(h:Ò)(H:Hp):Ò:=PySem.W.hideAll h<|Rk h H
def D6(h:Ò)(H:Hp):(vk h H).objs.size=h.objs.size:=PySem.W.hideAll_size _ _
def E8(e:h.get? b=some o)(n:H b=none):(vk h H).get? b=some o:=
 PySem.W.hideAll_get _ e λhm=>by have q:(H b).isSome=true:=(lP.mp hm).2;rw[n]at q;simp at q
def HI(e:(vk h H).get? b=some o):h.get? b=some o/\H b=none:=by
 have e':h.get? b=some o:=PySem.W.of_hideAll (Rk h H) e;refine⟨e',?_⟩;cases q:H b with
 |none=>rfl|some x=>have hm:b∈Rk h H:=lP.mpr ⟨ϑ.mpr<|ü e',by simp[q]⟩;have z:(vk h H).get? b=none:=PySem.W.hideAll_none (Rk h H) hm;rw[z]at e;cases e
noncomputable def HJ(g h:Ò)(L:À):List (À×Obj):=(Ô h.objs.size).filterMap λa=>if a=L\/(g.get? a).isSome=true then none else(h.get? a).map λo=>(a,o)
def rest(g h:Ò)(L d:À):List (À×Obj):=(HJ g h L).filter λp=>decide<|p.1≠d
structure Mod(K:Î)(mg:Str->Option Á)(base:Ò):Prop where
 Hq:K.In base
 glob:base.Ns ē mg
 blt:∃mb,base.Ns builtinsNs mb/\∀x:Str,x≠"__name__" ->mb x=eJ x
 nolimit:base.NoLimit
noncomputable def lams:List Str:=["cheapest"]
noncomputable abbrev gp(x:Str):Str:=(x++".<locals>.")++"<lambda>"
def zt(K:Î)(mg:Str->Option Á)(base:Ò)(H:Hp):Prop:=∀x c P,x∈lams->Ũ K x=some (c,P)->xZ base c P/\H P=some (.ai<|gp x)/\base.BuiltinsAt mg P
structure Cx where
 prog:ë
 w:â
 K:Î
 mg:Str->Option Á
 base:Ò
 A:ê
 N:List Str
 s₀:Ã
 H₀:Hp
 env:Env
 outer:List Env
 stack:List Env
 ex:List À
 fn:Str->Bool
 calm:Bool
 pn:List (À×Obj)
 xe:Á->Ã->Prop
noncomputable def G8(l:List Env):List À:=l.filterMap (·.frame)
abbrev Cx.fs(X:Cx):List À:=G8 X.outer
def KN(sc:ú)(x:Str):Prop:=sc.names.lookup x=some .local\/sc.names.lookup x=some .cell\/sc.names.lookup x=some .free
def Loc(sc:ú)(x:Str):Prop:=sc.names.lookup x=some .local\/sc.names.lookup x=some .cell
noncomputable def KO(sc:ú)(x:Str):Bool:=(sc.names.lookup x).any λk=>decide<|k=.local\/k=.cell\/k=.free
def KP(h:KO sc x=true):KN sc x:=by
 unfold KO at h;unfold KN;cases e:sc.names.lookup x with
 |none=>rw[e]at h;cases h|some k=>rw[e]at h;rcases of_decide_eq_true h with rfl|rfl|rfl<;>simp
noncomputable def NX(sc:ú)(x:Str):Bool:=(sc.names.lookup x).any λk=>decide<|k=.local\/k=.cell
def tK(h:NX sc x=true):Loc sc x:=by
 unfold NX at h;unfold Loc;cases e:sc.names.lookup x with
 |none=>rw[e]at h;cases h|some k=>rw[e]at h;rcases of_decide_eq_true h with rfl|rfl<;>simp
def Look(env:Env)(h:Ò)(m:Str->Option Á)(x:Str)(u:Á):Prop:=
 (env.kindOf x=some .local/\m x=some u)\/((env.kindOf x=some .cell\/env.kindOf x=some .free)/\∃c,env.cells.lookup x=some c/\h.IsCell c (some u))
structure Cx.Ok(X:Cx):Prop where
 mod:Mod X.K X.mg X.base
 kind:X.env.scope.kind=.function
 glob:X.env.globals=ē
 blt:X.env.builtins=builtinsNs
 above:X.s₀.heap.objs.size<=X.env.locals
 inj:∀x y c,X.env.cells.lookup x=some c->X.env.cells.lookup y=some c->x=y
 has:∀x,(X.env.kindOf x=some .cell\/X.env.kindOf x=some .free)->∃c,X.env.cells.lookup x=some c
 cab:∀x c,X.fn x=true->X.env.cells.lookup x=some c->X.s₀.heap.objs.size<=c
 hd:X.calm=true->X.A.handled=none
 frames:X.A.frames=some X.stack
 stk:X.stack=X.outer\/(X.stack=X.env::X.outer/\X.env.frame=some X.env.locals)
 Rl:∀b∈X.ex,b≠X.env.locals/\∀x c,X.env.cells.lookup x=some c->c≠b
 bs:∀b o,X.base.get? b=some o->X.s₀.heap.get? b=some o/\X.H₀ b=none
 EY:X.base.objs.size<=X.s₀.heap.objs.size
 zK:∀b o,X.base.get? b=some o->b∉X.ex
 D7:∀b∈X.ex,b∉X.fs
 oW:X.s₀.heap.FunFrames X.base X.outer
 HK:∀b∈X.fs,X.H₀ b=none
 tb:zt X.K X.mg X.base X.H₀
structure Inv(X:Cx)(Å:List (À×Obj))(σ:List (Option V))(H:Hp)(s:Ã):Prop where
 ok:X.Ok
 os:s.os=X.s₀.os
 bare:fQ s.gens
 base:Un X.fs X.ex X.H₀ H X.s₀.heap s.heap
 loc:∃m,s.heap.Ns X.env.locals m/\∀(i:Nat) (x:Str) (v:V),X.N[i]?=some x->σ[i]?=some (some v)->KN X.env.scope x->∃u,RelV v u/\Look X.env s.heap m x u
 cell:∀x c,X.env.cells.lookup x=some c->∃v,s.heap.IsCell c v
 free:H X.env.locals=none
 jf:∀x c,X.env.cells.lookup x=some c->H c=none
 pin:∀p∈X.pn++Å,s.heap.get? p.1=some p.2/\H p.1=none/\p.1≠X.env.locals/\p.1∉X.fs/\∀v,p.2.data≠.cell v
 hok:oh X.prog X.w H s.heap
 len:σ.length=X.N.length
section
variable{X:Cx}{Å:List (À×Obj)}{σ:List (Option V)}{H H':Hp}{s:Ã}{h':Ò}
def Cx.Ok.Tz(ok:X.Ok)(e:X.base.get? b=some o):b∉X.fs:=λhb=>by have:=(ok.oW.mem hb).1;rw[e]at this;cases this
theorem Inv.bs(I:Inv X Å σ H s):∀b o,X.base.get? b=some o->s.heap.get? b=some o/\H b=none:=λb o e=>
 ⟨I.base.keep b o (I.ok.bs b o e).1 (I.ok.bs b o e).2 (I.ok.Tz e) (I.ok.zK b o e),I.base.free b o (I.ok.bs b o e).1 (I.ok.bs b o e).2 (I.ok.zK b o e)⟩
def Inv.bk(I:Inv X Å σ H s):∀b o,X.base.get? b=some o->s.heap.get? b=some o:=λb o e=>(I.bs b o e).1
theorem Inv.tb(I:Inv X Å σ H s):zt X.K X.mg X.base H:=λx c P hx e=>⟨(I.ok.tb x c P hx e).1,I.base.q_ _ _ (I.ok.tb x c P hx e).2.1,(I.ok.tb x c P hx e).2.2⟩
theorem Inv.mod(I:Inv X Å σ H s):Mod X.K X.mg X.base:=I.ok.mod
def Inv.nj(I:Inv X Å σ H s):X.K.In s.heap:=I.ok.mod.Hq.keeps I.bk
theorem Inv.nolimit(I:Inv X Å σ H s):s.heap.NoLimit:=I.ok.mod.nolimit.keeps I.bk
theorem Inv.lt(I:Inv X Å σ H s):X.env.locals<s.heap.objs.size:=let ⟨_,hn,_⟩:=I.loc;hn.lt
def Inv.sz(I:Inv X Å σ H s):X.s₀.heap.objs.size<=s.heap.objs.size:=Ţ I.ok.above<|jQ I.lt
def Inv.TB(I:Inv X Å σ H s){a:À}(h:s.heap.objs.size<=a):a∉X.fs:=λhb=>by obtain⟨_,o,ho,_⟩:=I.ok.oW.mem hb;exact absurd (š (ü ho)<|Ţ I.sz h)<|aN _
def Inv.KQ(I:Inv X Å σ H s):∀x c,X.env.cells.lookup x=some c->c≠X.env.locals:=λx c e z=>by obtain⟨v,o,ho,hd⟩:=I.cell x c e;obtain⟨m,⟨o',es,ep,BK,MX,_⟩,_⟩:=I.loc;rw[z,BK]at ho;cases ho;rw[MX]at hd;cases hd
theorem Inv.oW(I:Inv X Å σ H s):s.heap.FunFrames X.base X.outer:=by
 have all:∀(l:List Env),(∀b∈G8 l,b∈X.fs)->X.s₀.heap.FunFrames X.base l->s.heap.FunFrames X.base l:=by
  intro l
  induction l with
  |nil=>intro _ _;trivial|cons env r ih=>intro hs hl;obtain⟨hk,⟨L,o,hf,hn,ho,hd⟩,hr⟩:=hl;have hL:L∈X.fs:=hs L (by unfold G8;rw[rK,hf];exact Ş);obtain⟨sl,e⟩:=I.base.slot L o ho (I.ok.HK L hL) hL λz=>I.ok.D7 L z hL;exact⟨hk,⟨L,_,hf,hn,e,hd⟩,ih (λb hb=>hs b (by unfold G8;rw[rK,hf];exact þ _ hb)) hr⟩
 exact all X.outer (λx hb=>hb) I.ok.oW
theorem Inv.stack(I:Inv X Å σ H s):s.heap.FunFrames X.base X.stack:=by
 rcases I.ok.stk with e|⟨e,hf⟩
 ·rw[e];exact I.oW
 ·rw[e];obtain⟨m,hn,_⟩:=I.loc;refine .cons (by rw[I.ok.kind];decide) hf hn ?_ I.oW;exact Heap.get?_none_of_le<|Ţ I.ok.EY I.ok.above
def Inv.yk(I:Inv X Å σ H s):∀b∈G8 X.stack,b∈X.env.locals::X.fs:=λb hb=>by
 rcases I.ok.stk with e|⟨e,hf⟩
 ·rw[e]at hb;exact þ _ hb
 ·rw[e]at hb;unfold G8 at hb;rw[rK,hf]at hb;exact hb
def Inv.yl(I:Inv X Å σ H s):∀b∈G8 X.stack,H b=none:=λb hb=>by
 rcases û.mp (I.yk b hb)with e|hb
 ·rw[e];exact I.free
 ·obtain⟨_,o,ho,_⟩:=I.ok.oW.mem hb;exact I.base.free b o ho (I.ok.HK b hb) λz=>I.ok.D7 b z hb
def Inv.step{ch:List À}(I:Inv X Å σ H s)
 (E3:∀b∈ch,(b∈X.ex\/X.s₀.heap.objs.size<=b)/\b≠X.env.locals/\(∀x c,X.env.cells.lookup x=some c->c≠b)/\∀p∈X.pn++Å,p.1≠b)
 (keep:∀b o,b≠X.env.locals->b∉X.fs->b∉ch->s.heap.get? b=some o->H b=none->h'.get? b=some o)
 (slot:∀b o,b≠X.env.locals->b∈X.fs->b∉ch->s.heap.get? b=some o->H b=none->∃sl,h'.get? b=some {o with slots:=sl})(free:∀b o,b∉ch->s.heap.get? b=some o->H b=none->H' b=none)
 (there:∀b o,b∉ch->s.heap.get? b=some o->∃o',h'.get? b=some o')
 (tups:∀b xs,H b=some (.tup xs)->H' b=some (.tup xs))(vj:∀b o u,H b=some (.fg o u)->H' b=some (.fg o u))(q_:∀b q,H b=some (.ai q)->H' b=some (.ai q))
 (ns:∀m,s.heap.Ns X.env.locals m->h'.Ns X.env.locals m)(hok:oh X.prog X.w H' h')(hg:fQ g'):
 Inv X Å σ H' {s with heap:=h',gens:=g',drawn:=d',toks:=t'}:=by
 have XM:∀b o,X.s₀.heap.get? b=some o->b≠X.env.locals:=λb o e=>İ<|š (ü e) I.ok.above;have Rm:∀b o,X.s₀.heap.get? b=some o->b∉X.ex->b∉ch:=λb o e hx hb=>by
  rcases(E3 b hb).1 with z|z
  ·exact hx z
  ·exact absurd (š (ü e) z)<|aN _
 have Ks:∀x c,X.env.cells.lookup x=some c->∀v,s.heap.IsCell c v->h'.IsCell c v:=by
  rintro x c e v ⟨o,ho,hd⟩;have NY:c∉ch:=λz=>(E3 c z).2.2.1 x c e rfl;by_cases hc:c∈X.fs
  ·obtain⟨sl,q⟩:=slot c o (I.KQ x c e) hc NY ho<|I.jf x c e;exact⟨_,q,hd⟩
  ·exact⟨o,keep c o (I.KQ x c e) hc NY ho<|I.jf x c e,hd⟩
 refine⟨I.ok,I.os,hg,⟨λb o e n hb hx=>?_,λb o e n hb hx=>?_,λb o e n hx=>?_,λb o e hx=>?_,λb xs e=>tups b xs<|I.base.tups b xs e,λb o xs e=>vj b o xs<|I.base.vj b o xs e,λb ps e=>?_⟩,?_,λx c e=>?_,?_,λx c e=>?_,λp hp=>?_,hok,I.len⟩
 ·exact keep b o (XM b o e) hb (Rm b o e hx) (I.base.keep b o e n hb hx)<|I.base.free b o e n hx
 ·obtain⟨sl,e1⟩:=I.base.slot b o e n hb hx;obtain⟨sl',e2⟩:=slot b _ (XM b o e) hb (Rm b o e hx) e1<|I.base.free b o e n hx;exact⟨sl',e2⟩
 ·obtain⟨o',e1⟩:=I.base.there b o e hx;exact free b o' (Rm b o e hx) e1<|I.base.free b o e n hx
 ·obtain⟨o',e1⟩:=I.base.there b o e hx;exact there b o' (Rm b o e hx) e1
 ·exact q_ b ps<|I.base.q_ b ps e
 ·obtain⟨m,hn,hl⟩:=I.loc;refine⟨m,ns m hn,λi x v e1 e2 e3=>?_⟩;obtain⟨u,r,l⟩:=hl i x v e1 e2 e3;refine⟨u,r,?_⟩;rcases l with l|⟨k,c,e,z⟩
  ·exact .inl l
  ·exact .inr ⟨k,c,e,Ks x c e _ z⟩
 ·obtain⟨v,z⟩:=I.cell x c e;exact⟨v,Ks x c e v z⟩
 ·obtain⟨m,⟨o,_,_,ho,_⟩,_⟩:=I.loc;exact free _ o (λz=>(E3 _ z).2.1 rfl) ho I.free
 ·obtain⟨v,o,ho,hd⟩:=I.cell x c e;exact free c o (λz=>(E3 c z).2.2.1 x c e rfl) ho<|I.jf x c e
 ·obtain⟨e,n,ne,nf,d⟩:=I.pin p hp;have NY:p.1∉ch:=λz=>(E3 p.1 z).2.2.2 p hp rfl;exact⟨keep p.1 p.2 ne nf NY e n,free p.1 p.2 NY e n,ne,nf,d⟩
def Inv.un(I:Inv X Å σ H s)(u:Un X.fs [] H H' s.heap h')(hok:oh X.prog X.w H' h'):Inv X Å σ H' {s with heap:=h',toks:=t'}:=by obtain⟨m,⟨o,es,ep,ho,r⟩,_⟩:=id I.loc;obtain⟨sl,hL⟩:=u.any ho I.free (by simp);exact I.step (g':=s.gens) (d':=s.drawn) (ch:=[]) (λx z=>nomatch z) (λb o x hb x e n=>u.keep b o e n hb<|by simp) (λb o x hb x e n=>u.slot b o e n hb<|by simp) (λb o x e n=>u.free b o e n<|by simp) (λb o x e=>u.there b o e<|by simp) u.tups u.vj u.q_ (λm' hm=>by obtain⟨o',WX,WY,BK,r'⟩:=hm;rw[ho]at BK;cases BK;exact⟨_,WX,WY,hL,r'⟩) hok I.bare
def Inv.call(I:Inv X Å σ H s)(u:Un (G8 X.stack) ch H H' s.heap h')(hok:oh X.prog X.w H' h')(hg:fQ g')
 (E3:∀b∈ch,(b∈X.ex\/X.s₀.heap.objs.size<=b)/\b≠X.env.locals/\(∀x c,X.env.cells.lookup x=some c->c≠b)/\∀p∈X.pn++Å,p.1≠b):
 Inv X Å σ H' {s with heap:=h',gens:=g',drawn:=d',toks:=t'}:=by
 obtain⟨m,⟨o,es,ep,ho,r⟩,_⟩:=id I.loc;obtain⟨sl,hL⟩:=u.any ho I.free λz=>(E3 _ z).2.1 rfl;exact I.step (ch:=ch) E3 (λb o hL hb hc e n=>u.keep b o e n (λz=>(û.mp<|I.yk b z).elim hL hb) hc) (λb o y y hc e n=>u.any e n hc) (λb o hc e n=>u.free b o e n hc) (λb o hc e=>u.there b o e hc) u.tups u.vj u.q_ (λm' hm=>by obtain⟨o',WX,WY,BK,r'⟩:=hm;rw[ho]at BK;cases BK;exact⟨_,WX,WY,hL,r'⟩) hok hg
def Inv.turned(I:Inv X Å σ H s)(k:∀b o,b≠it->s.heap.get? b=some o->h'.get? b=some o)(hn:H it=none)(hL:it≠X.env.locals)
 (h1:it∈X.ex\/X.s₀.heap.objs.size<=it)(h2:∀x c,X.env.cells.lookup x=some c->c≠it)(h3:∀p∈X.pn++Å,p.1≠it):Inv X Å σ H {s with heap:=h',toks:=t'}:=by
 have NZ:∀b u,H b=some u->b≠it:=λb u e z=>by rw[z,hn]at e;cases e
 refine I.step (g':=s.gens) (d':=s.drawn) (ch:=[it]) (λb hb=>?_) (λb o y y hc e y=>k b o (λz=>hc<|by simp[z]) e) (λb o y y hc e y=>⟨o.slots,k b o (λz=>hc<|by simp[z]) e⟩) (λy y y y n=>n)
  (λb o hc e=>⟨o,k b o (λz=>hc<|by simp[z]) e⟩) (λy y e=>e) (λy y y e=>e) (λy y e=>e) (λm hm=>?_) (λb u e=>?_) I.bare
 ·have e:b=it:=by simpa using hb
  subst e;exact⟨h1,hL,h2,h3⟩
 ·obtain⟨o,es,ep,ho,r⟩:=hm;exact⟨o,es,ep,k _ o (Ė hL) ho,r⟩
 ·refine(I.hok b u e).stay (λc v hc q=>k c v ?_ q) (λy q=>q) λy y q=>q;rcases hc with z|z
  ·rw[z];exact NZ b u e
  ·exact NZ c _ z
def Inv.tok(I:Inv X Å σ H s)(t:Nat):Inv X Å σ H {s with toks:=t}:=I.un (h':=s.heap) (t':=t) Un.refl I.hok
theorem Inv.kept(I:Inv X Å σ H s)(k:∀b u,s.heap.get? b=some u->h'.get? b=some u):Inv X Å σ H {s with heap:=h',toks:=t'}:=I.un (Un.kept k)<|I.hok.kept k
theorem Inv.laid{a:À}(I:Inv X Å σ H s)(k:∀b u,s.heap.get? b=some u->h'.get? b=some u)(hp:s.heap.objs.size<=a)(new:cM X.prog X.w (upd H a o) h' a o):
 Inv X Å σ (upd H a o) {s with heap:=h',toks:=t'}:=I.un (Un.laid k hp<|I.hok.fresh hp)<|I.hok.laid k hp new
theorem Inv.write(I:Inv X Å σ H s)(mu:Rj (H x))(he:e=x\/H e=some (.own x))(k:∀b u,b≠e->s.heap.get? b=some u->h'.get? b=some u)(NO:∃u,h'.get? e=some u)
 (new:cM X.prog X.w (upd H x o) h' x o):Inv X Å σ (upd H x o) {s with heap:=h',toks:=t'}:=I.un (Un.write mu he k NO)<|I.hok.write mu he k NO new
def Inv.CG(I:Inv X Å σ H s)(h:∀p∈iw,s.heap.get? p.1=some p.2/\H p.1=none/\p.1≠X.env.locals/\p.1∉X.fs/\∀v,p.2.data≠.cell v):Inv X iw σ H s:=
 ⟨I.ok,I.os,I.bare,I.base,I.loc,I.cell,I.free,I.jf,λp hp=>(ź.mp hp).elim (λz=>I.pin p<|on _ z) (h p),I.hok,I.len⟩
def zL{N:List Str}(hN:N.Nodup){i j:Nat}(a:N[i]?=some x)(b:N[j]?=some x):i=j:=by obtain⟨h1,e1⟩:=aL.mp a;obtain⟨h2,e2⟩:=aL.mp b;exact(List.getElem_inj hN).mp (e1.trans e2.symm)
def vC{M:fT}{A:ê}{E:Á->Ã->Prop}{i:Nat}{x:Str}{v:V}{u:Á}{Q:Unit->Ã->Prop}(I:Inv X Å σ H s)(hN:X.N.Nodup)(hi:X.N[i]?=some x)(hx:Loc X.env.scope x)(r:RelV v u)
 (h:∀s',Inv X Å (σ.set i<|some v) H s'->(∃a,ŧ a s.heap s'.heap/\(a=X.env.locals\/X.env.cells.lookup x=some a))->Q () s')(hf:X.fn x=true\/X.env.scope.names.lookup x=some .local:=by first|exact .inl rfl|exact .inr rfl|assumption):Ï M A (storeName X.env x u) Q E s:=by
 obtain⟨m,hn,hl⟩:=id I.loc;have WZ:(X.env.scope.kind==.class||(X.env.scope.kind==.module&&X.env.locals !=X.env.globals))=false:=by rw[I.ok.kind];rfl
 have XN:i<σ.length:=by rw[I.len];exact(aL.mp hi).1
 have KQ:=I.KQ;have DU:∀{a:À}{h':Ò},(∃o,s.heap.get? a=some o/\H a=none)->ŧ a s.heap h'->oh X.prog X.w H h':=fun{a h'} ha hs b ob e=>by
  obtain⟨_,_,hfree⟩:=ha;refine(I.hok b ob e).stay (λc w' hc q=>(hs.2 c ?_).trans q) (λf q=>q) λf f q=>q;rintro rfl;rcases hc with rfl|hc
  ·rw[hfree]at e;cases e
  ·rw[hfree]at hc;cases hc
 rcases hx with hk|hk
 ·refine wpAny_storeName_local hk hn (λh' Tf hs=>?_) WZ;obtain⟨oL,_,_,hoL,_⟩:=id hn;refine h _ ⟨I.ok,I.os,I.bare,⟨λb o e n hb hx=>?_,λb o e n hb hx=>?_,I.base.free,λb o e hx=>?_,I.base.tups,I.base.vj,I.base.q_⟩,⟨_,Tf,λj y v' e1 e2 e3=>?_⟩,λy c e=>?_,I.free,I.jf,λp hp=>?_,DU ⟨oL,hoL,I.free⟩ hs,by simpa using I.len⟩ ⟨_,hs,.inl rfl⟩
  ·exact(hs.2 b<|İ<|š (ü e) I.ok.above).trans (I.base.keep b o e n hb hx)
  ·obtain⟨sl,e1⟩:=I.base.slot b o e n hb hx;exact⟨sl,(hs.2 b<|İ<|š (ü e) I.ok.above).trans e1⟩
  ·obtain⟨o',e1⟩:=I.base.there b o e hx;exact⟨o',(hs.2 b<|İ<|š (ü e) I.ok.above).trans e1⟩
  ·by_cases hj:j=i
   ·subst hj;rw[hi]at e1;cases e1;rw[oo XN]at e2;cases e2;exact⟨u,r,.inl ⟨hk,by simp⟩⟩
   ·rw[lQ<|Ė hj]at e2;obtain⟨u',r',q⟩:=hl j y v' e1 e2 e3;refine⟨u',r',?_⟩;rcases q with⟨k,e⟩|⟨k,c,e,z⟩
    ·refine .inl ⟨k,?_⟩;have:y≠x:=λe=>hj<|zL hN e1<|e▸hi;simp[this,e]
    ·exact .inr ⟨k,c,e,z.sameBut hs<|KQ y c e⟩
  ·obtain⟨w',z⟩:=I.cell y c e;exact⟨w',z.sameBut hs<|KQ y c e⟩
  ·obtain⟨e,n,ne,nf,d⟩:=I.pin p hp;exact⟨(hs.2 p.1 ne).trans e,n,ne,nf,d⟩
 ·have W_:X.fn x=true:=by
   rcases hf with z|z
   ·exact z
   ·rw[z]at hk;cases hk
  obtain⟨c,hc⟩:=I.ok.has x<|.inl hk;obtain⟨w',z⟩:=I.cell x c hc;refine wpAny_storeName_cell I.ok.kind hk hc z<|λh' wL hs=>?_;obtain⟨oc,MY,TC⟩:=id z;refine h {s with heap:=h'} ⟨I.ok,I.os,I.bare,⟨λb o e n hb hx=>?_,λb o e n hb hx=>?_,I.base.free,λb o e hx=>?_,I.base.tups,I.base.vj,I.base.q_⟩,⟨m,hn.sameBut hs<|Ė<|KQ x c hc,λj y v' e1 e2 e3=>?_⟩,λy c' e=>?_,I.free,I.jf,λp hp=>?_,DU ⟨oc,MY,I.jf x c hc⟩ hs,by simpa using I.len⟩ ⟨c,hs,.inr hc⟩
  ·exact(hs.2 b<|İ<|š (ü e)<|I.ok.cab x c W_ hc).trans (I.base.keep b o e n hb hx)
  ·obtain⟨sl,e1⟩:=I.base.slot b o e n hb hx;exact⟨sl,(hs.2 b<|İ<|š (ü e)<|I.ok.cab x c W_ hc).trans e1⟩
  ·obtain⟨o',e1⟩:=I.base.there b o e hx;exact⟨o',(hs.2 b<|İ<|š (ü e)<|I.ok.cab x c W_ hc).trans e1⟩
  ·by_cases hj:j=i
   ·subst hj;rw[hi]at e1;cases e1;rw[oo XN]at e2;cases e2;exact⟨u,r,.inr ⟨.inl hk,c,hc,wL⟩⟩
   ·rw[lQ<|Ė hj]at e2;obtain⟨u',r',q⟩:=hl j y v' e1 e2 e3;refine⟨u',r',?_⟩;rcases q with q|⟨k,c',e,z'⟩
    ·exact .inl q
    ·refine .inr ⟨k,c',e,z'.sameBut hs ?_⟩;rintro rfl;exact hj<|zL hN e1<|I.ok.inj _ _ _ e hc▸hi
  ·by_cases Ti:c'=c
   ·subst Ti;exact⟨_,wL⟩
   ·obtain⟨w2,z2⟩:=I.cell y c' e;exact⟨w2,z2.sameBut hs Ti⟩
  ·obtain⟨e,n,ne,nf,d⟩:=I.pin p hp;refine⟨(hs.2 p.1 ?_).trans e,n,ne,nf,d⟩;intro q;rw[q,MY]at e;have q':oc=p.2:=ı e;exact d w' (by rw[<-q'];exact TC)
def tM{M:fT}{A:ê}{E:Á->Ã->Prop}{i:Nat}{x:Str}{v:V}{u:Á}{Q:Unit->Ã->Prop}(I:Inv X Å σ H s)(hN:X.N.Nodup)(hi:X.N[i]?=some x)(hx:Loc X.env.scope x)(r:RelV v u)
 (h:∀s',Inv X Å (σ.set i<|some v) H s'->Q () s')(hf:X.fn x=true\/X.env.scope.names.lookup x=some .local:=by first|exact .inl rfl|exact .inr rfl|assumption):Ï M A (storeName X.env x u) Q E s:=
 vC I hN hi hx r (λs' I' y=>h s' I') hf
def Inv.call'(I:Inv X Å σ H s)(ho:s'.os=s.os)(u:Un (G8 X.stack) ch H H' s.heap s'.heap)(hok:oh X.prog X.w H' s'.heap)(hg:fQ s'.gens)
 (E3:∀b∈ch,(b∈X.ex\/X.s₀.heap.objs.size<=b)/\b≠X.env.locals/\(∀x c,X.env.cells.lookup x=some c->c≠b)/\∀p∈X.pn++Å,p.1≠b):Inv X Å σ H' s':=by
 obtain⟨h',g',d',t',o'⟩:=s';have e:o'=s.os:=ho;subst e;exact I.call (g':=g') (t':=t') (d':=d') u hok hg E3
end
abbrev XK:=Á->Option À->Hp->Prop
abbrev St:=List<|Option V
abbrev ć:=St
abbrev VK:=V->Hp->Prop
abbrev TE:=St->Hp->VK->Prop
abbrev TT:=St->Hp->(Bool->Hp->Prop)->Prop
abbrev TA:=St->Hp->(List V->Hp->Prop)->Prop
structure Ends where
 nx:St->Hp->Prop
 rt:VK
 bk:St->Hp->Prop:=λx x=>False
 ct:St->Hp->Prop:=λx x=>False
abbrev TS:=Ends->St->Hp->Prop
def EP(X:Cx)(Å:List (À×Obj))(a:St)(Q:VK)(u:Á)(s':Ã):Prop:=∃v H',Inv X Å a H' s'/\RelV v u/\Q v H'
def TP(X:Cx)(Å:List (À×Obj))(a:St)(Q:Bool->Hp->Prop)(b:Bool)(s':Ã):Prop:=∃H',Inv X Å a H' s'/\Q b H'
def AP(X:Cx)(Å:List (À×Obj))(a:St)(Q:List V->Hp->Prop)(us:List Á)(s':Ã):Prop:=∃vs H',Inv X Å a H' s'/\Ō vs us/\Q vs H'
def SP(X:Cx)(Å:List (À×Obj))(D:Ends)(f:Flow)(s':Ã):Prop:=
 match f with
 |.next=>∃a H',Inv X Å a H' s'/\D.nx a H'|.brk=>∃a H',Inv X Å a H' s'/\D.bk a H'|.cont=>∃a H',Inv X Å a H' s'/\D.ct a H'|.ret u=>∃v a H',Inv X Å a H' s'/\RelV v u/\D.rt v H'
def PE(X:Cx)(e:Ç)(t:TE):Prop:=
 ∀(Å:List (À×Obj)) (s:Ã) (a:St) (H:Hp) (Q:VK),Inv X Å a H s->t a H Q->Ï (Ø X.prog X.w) X.A (eval e X.env) (EP X Å a Q) X.xe s
def PT(X:Cx)(e:Ç)(t:TT):Prop:=
 ∀(Å:List (À×Obj)) (s:Ã) (a:St) (H:Hp) (Q:Bool->Hp->Prop),Inv X Å a H s->t a H Q->Ï (Ø X.prog X.w) X.A (isTrue e X.env<|eval e X.env) (TP X Å a Q) X.xe s
def PW(X:Cx)(e:Ç)(t:TT):Prop:=
 ∀(whole:Sem Á) (Å:List (À×Obj)) (s:Ã) (a:St) (H:Hp) (Q:Bool->Hp->Prop),Inv X Å a H s->t a H Q->Ï (Ø X.prog X.w) X.A (isTrue e X.env whole) (TP X Å a Q) X.xe s
def PW.pt(h:PW X e t):PT X e t:=h _
def PA(X:Cx)(es:List Ç)(t:TA):Prop:=
 ∀(pos:Pos) (Å:List (À×Obj)) (s:Ã) (a:St) (H:Hp) (Q:List V->Hp->Prop),Inv X Å a H s->t a H Q->Ï (Ø X.prog X.w) X.A (spliced<|ÿ pos<|Ð es X.env) (AP X Å a Q) X.xe s
def PS(X:Cx)(st:è)(t:TS):Prop:=
 ∀(Å:List (À×Obj)) (s:Ã) (a:St) (H:Hp) (D:Ends),Inv X Å a H s->t D a H->Ï (Ø X.prog X.w) X.A (exec st X.env) (SP X Å D) X.xe s
def bC(X:Cx)(st:List è)(t:TS):Prop:=
 ∀(Å:List (À×Obj)) (s:Ã) (a:St) (H:Hp) (D:Ends),Inv X Å a H s->t D a H->Ï (Ø X.prog X.w) X.A (execs st X.env) (SP X Å D) X.xe s
def ώ{α:Type}{t:Sem α}{Q Q':α->Ã->Prop}(h:Ï M A t Q E s)(hQ:∀a s,Q a s->Q' a s):Ï M A t Q' E s:=ϔ h hQ λy y x=>x
section
variable{X:Cx}
def iS(i:Nat):TE:=λa H Q=>∃v,a[i]?=some (some v)/\Q v H
def tC(v:V):TE:=λx H Q=>Q v H
def KR{i:Nat}{x:Str}{pos:Pos}(hN:X.N[i]?=some x)(hv:KN X.env.scope x)(hd:(x==("__debug__":Str))=false:=by kernel_rfl)(wM:(x==("__classdict__":Str))=false:=by kernel_rfl):PE X (.Name x pos) (iS i):=by
 intro Å s a H Q I h;obtain⟨v,e,h⟩:=h;obtain⟨m,hn,hl⟩:=I.loc;obtain⟨u,r,l⟩:=hl i x v hN e hv;have n_:EP X Å a Q u s:=⟨v,H,I,r,h⟩;rcases l with⟨hk,hm⟩|⟨hk,c,hc,hcell⟩
 ·exact wpAny_Name (wpAny_loadName_local I.ok.kind hk hn hm n_) hd
 ·rcases hk with hk|hk
  ·exact wpAny_Name (wpAny_loadName_cell I.ok.kind hk hc hcell n_) hd
  ·exact wpAny_Name (wpAny_loadName_free I.ok.kind hk hc hcell n_ wM) hd
def D8(X:Cx)(i:Nat)(x:Str):Bool:=decide (X.N[i]?=some x)&&(KO X.env.scope x&&(!(x==("__debug__":Str))&&!(x==("__classdict__":Str))))
def nq(h:D8 X i x=true):PE X (.Name x pos) (iS i):=by unfold D8 at h;rw[ă,ă,ă,Bool.not_eq_true',Bool.not_eq_true',decide_eq_true_eq]at h;exact KR h.1 (KP h.2.1) h.2.2.1 h.2.2.2
def ym{i j pos}:PE X (.Constant (.int i) j pos) (tC<|.int i):=λx x x H x I h=>wpAny_Constant_int ⟨.int i,H,I.tok _,⟨_,rfl⟩,h⟩
def N_{b j pos}:PE X (.Constant (.bool b) j pos) (tC<|.bl b):=λx x x H x I h=>Constant_bool ⟨.bl b,H,I,rfl,h⟩
def KU{j pos}:PE X (.Constant .none j pos) (tC .non):=λx x x H x I h=>Constant_none ⟨.non,H,I,rfl,h⟩
def KW{x j pos}:PE X (.Constant (.str x) j pos) (tC<|.str x):=λy y y H y I h=>Calls.Constant_str ⟨.str x,H,I.tok _,⟨_,rfl⟩,h⟩
abbrev Gl(X:Cx)(x:Str):Prop:=X.env.kindOf x=some .globalImplicit
def oX{E:Á->Ã->Prop}{Å:List (À×Obj)}{s:Ã}{a:St}{H:Hp}{x:Str}{u:Á}{pos:Pos}{Q:Á->Ã->Prop}(I:Inv X Å a H s)(hg:Gl X x)(hm:X.mg x=some u)(h:Q u s)
 (hd:(x==("__debug__":Str))=false:=by kernel_rfl):Ï (Ø X.prog X.w) X.A (eval (.Name x pos) X.env) Q E s:=
 Cm I.ok.kind hg (Calls.loadGlobal_global (by rw[I.ok.glob];exact I.mod.glob.keeps I.bk) hm h) hd
def kY{E:Á->Ã->Prop}{Å:List (À×Obj)}{s:Ã}{a:St}{H:Hp}{x:Str}{u:Á}{pos:Pos}{Q:Á->Ã->Prop}(I:Inv X Å a H s)(hg:Gl X x)(hm:X.mg x=none)(hv:eJ x=some u)(h:Q u s)
 (hn:x≠"__name__":=by decide)(hd:(x==("__debug__":Str))=false:=by kernel_rfl):Ï (Ø X.prog X.w) X.A (eval (.Name x pos) X.env) Q E s:=by
 obtain⟨mb,h1,h2⟩:=I.mod.blt;exact Cm I.ok.kind hg (Calls.loadGlobal_builtin (by rw[I.ok.glob];exact I.mod.glob.keeps I.bk) hm (by rw[I.ok.blt];exact h1.keeps I.bk) ((h2 x hn).trans hv) h) hd
def yn{x:Str}{v:V}{u:Á}{pos:Pos}(hg:Gl X x)(hm:X.mg x=some u)(r:RelV v u)(hd:(x==("__debug__":Str))=false:=by kernel_rfl):PE X (.Name x pos) (tC v):=
 λy y y H y I h=>oX I hg hm ⟨v,H,I,r,h⟩ hd
def sX{x:Str}{v:V}{u:Á}{pos:Pos}(hg:Gl X x)(hm:X.mg x=none)(hv:eJ x=some u)(r:RelV v u)(hn:x≠"__name__":=by decide)(hd:(x==("__debug__":Str))=false:=by kernel_rfl):PE X (.Name x pos) (tC v):=
 λy y y H y I h=>kY I hg hm hv ⟨v,H,I,r,h⟩ hn hd
variable{a b:Ç}{ta tb:TE}{pos:Pos}
variable{tA N1:TT}{rest:List Ç}
def TD(t u:TT):TT:=λd H Q=>t d H λc H1=>if c=true then u d H1 Q else Q false H1
def tOr(t u:TT):TT:=λd H Q=>t d H λc H1=>if c=true then Q true H1 else u d H1 Q
def TF(t:TT):TT:=λd H Q=>t d H λc H1=>Q (!c) H1
def HL(ha:PT X a tA):PW X (.BoolOp .And [a] pos) tA:=by
 intro wh Å s d H Q I h;refine isTrue_and<|ώ (ha Å s d H Q I h) λc s1 e=>?_;cases c with
 |true=>exact isTrue_and_nil e|false=>exact e
def KY(ha:PT X a tA):PW X (.BoolOp .Or [a] pos) tA:=by
 intro wh Å s d H Q I h;refine isTrue_or<|ώ (ha Å s d H Q I h) λc s1 e=>?_;cases c with
 |false=>exact isTrue_or_nil e|true=>exact e
def KZ(ha:PT X a tA)(hb:PW X (.BoolOp .And (b::rest) pos) N1):PW X (.BoolOp .And (a::b::rest) pos) (TD tA N1):=by
 intro wh Å s d H Q I h;refine isTrue_and<|ώ (ha Å s d H _ I h) λc s1 zz=>?_;obtain⟨H1,I1,q1⟩:=zz;cases c with
 |true=>exact hb wh Å s1 d H1 Q I1 q1|false=>exact⟨H1,I1,q1⟩
def N2(ha:PT X a tA)(hb:PW X (.BoolOp .Or (b::rest) pos) N1):PW X (.BoolOp .Or (a::b::rest) pos) (tOr tA N1):=by
 intro wh Å s d H Q I h;refine isTrue_or<|ώ (ha Å s d H _ I h) λc s1 zz=>?_;obtain⟨H1,I1,q1⟩:=zz;cases c with
 |true=>exact⟨H1,I1,q1⟩|false=>exact hb wh Å s1 d H1 Q I1 q1
def K_(ha:PT X a tA):PT X (.UnaryOp .Not a pos) (TF tA):=λÅ s d H Q I h=>isTrue_not<|ha Å s d H (λc H1=>Q (!c) H1) I h
def K0{op}(h:PE X a t):PE X (.BoolOp op [a] pos) t:=λÅ s c H Q I hw=>BoolOp_one<|h Å s c H Q I hw
def tIf(t:TT)(ta tb:TE):TE:=λd H Q=>t d H λc H1=>if c=true then ta d H1 Q else tb d H1 Q
def E9(hc:PT X c tA)(ha:PE X a ta)(hb:PE X b tb):PE X (.IfExp c a b pos) (tIf tA ta tb):=by
 intro Å s e H Q I h;refine wpAny_IfExp<|ώ (hc Å s e H _ I h) λd s1 zz=>?_;obtain⟨H1,I1,q1⟩:=zz;cases d with
 |true=>exact ha Å s1 e H1 Q I1 q1|false=>exact hb Å s1 e H1 Q I1 q1
end
def Ϧ(K:Î)(H:Hp)(a:À)(xs:List V):Prop:=
 Rd H a (.lst xs)\/
  ∃(o:Obj) (Ē:Array Á) (n:Nat),K.lookup a=some o/\o.cls=.type "list"/\o.dict=none/\o.data=.seq Ē n/\Ē.size<=sizeLine/\Ō xs Ē.toList
def gj(K:Î)(H:Hp)(a:À)(xs:List V):Prop:=
 Rd H a (.tup xs)\/
  ∃(o:Obj) (Ē:Array Á) (n:Nat),K.lookup a=some o/\o.cls=.type "tuple"/\o.data=.seq Ē n/\Ē.size<=sizeLine/\Ō xs Ē.toList
noncomputable def TJ:Á->Option V
 |.none=>some .non|.bool b=>some<|.bl b|.int i _=>some<|.int i|.str x _=>some<|.str x|.bytes b _=>some<|.JS b|.float b _=>some<|.flt b|.ref a=>some<|.ref a|.type n=>some<|.ty n|_=>none
def RelV.abs(r:RelV x u):TJ u=some x:=by
 cases x with
 |non=>cases r;rfl|bl _=>cases r;rfl|int _=>obtain⟨t,rfl⟩:=r;rfl|str _=>obtain⟨t,rfl⟩:=r;rfl|JS _=>obtain⟨t,rfl⟩:=r;rfl|flt _=>obtain⟨t,rfl⟩:=r;rfl|ref _=>cases r;rfl|ty _=>cases r;rfl
def RelV.inj(r:RelV x u)(q:RelV y u):x=y:=ı<|r.abs.symm.trans q.abs
theorem Ō.inj:∀{xs ys:List V}{us:List Á},Ō xs us->Ō ys us->xs=ys:=by
 intro xs ys us h g
 induction h generalizing ys with
 |nil=>cases g;rfl|cons r t ih=>
  cases g with
  |cons r2 t2=>rw[r.inj r2,ih t2]
section
variable{X:Cx}{Å:List (À×Obj)}{σ:St}{H:Hp}{s:Ã}{a:À}{xs ys:List V}
def Ϧ.of{K:Î}(h:H a=some (.lst xs)):Ϧ K H a xs:=.inl<|.inl h
def gj.of{K:Î}(h:H a=some (.tup xs)):gj K H a xs:=.inl<|.inl h
def Inv.list(I:Inv X Å σ H s)(h:Ϧ X.K H a xs):∃Ē:List Á,Ō xs Ē/\PlainL s.heap a Ē.toArray/\xs.length<=sizeLine:=by
 rcases h with h|⟨o,Ē,n,hk,hc,hd,hs,hz,r⟩
 ·obtain⟨z,Ē,n,r,e⟩:=h.ok I.hok;exact⟨Ē,r,⟨_,n,e,rfl,rfl,rfl⟩,z⟩
 ·refine⟨Ē.toList,r,⟨o,n,I.nj a o hk,hc,hd,by simpa using hs⟩,?_⟩;have e:=r.length;simp only[cY]at e;lia
def Inv.tuple(I:Inv X Å σ H s)(h:gj X.K H a xs):∃Ē:List Á,Ō xs Ē/\IsTup s.heap a Ē.toArray/\xs.length<=sizeLine:=by
 rcases h with h|⟨o,Ē,n,hk,hc,hs,hz,r⟩
 ·obtain⟨z,Ē,r,p⟩:=h.ok I.hok;exact⟨Ē,r,p,z⟩
 ·refine⟨Ē.toList,r,⟨o,I.nj a o hk,hc,n,by simpa using hs⟩,?_⟩;have e:=r.length;simp only[cY]at e;lia
def Inv.tN(I:Inv X Å σ H s)(h:Ϧ X.K H a xs)(h':Ϧ X.K H a ys):xs=ys:=by
 obtain⟨Ē,r,⟨o,n,e,_,_,d⟩,_⟩:=I.list h;obtain⟨its',r',⟨o',n',e',_,_,d'⟩,_⟩:=I.list h';rw[e]at e';cases e';rw[d]at d';injection d' with d1 _
 have:Ē=its':=by simpa using congrArg Array.toList d1
 subst this;exact r.inj r'
def Inv.vD(I:Inv X Å σ H s)(h:gj X.K H a xs)(h':gj X.K H a ys):xs=ys:=by
 obtain⟨Ē,r,⟨o,e,_,n,d⟩,_⟩:=I.tuple h;obtain⟨its',r',⟨o',e',_,n',d'⟩,_⟩:=I.tuple h';rw[e]at e';cases e';rw[d]at d';injection d' with d1 _
 have:Ē=its':=by simpa using congrArg Array.toList d1
 subst this;exact r.inj r'
end
noncomputable abbrev Cx.wish(X:Cx)(E:Á->Ã->Prop):Cx:={X with xe:=E}
abbrev Cx.Ϭ(X:Cx):Cx:=X.wish λx x=>False
theorem Cx.Ok.wish{X:Cx}(ok:X.Ok)(E:Á->Ã->Prop):(X.wish E).Ok:=
 ⟨ok.mod,ok.kind,ok.glob,ok.blt,ok.above,ok.inj,ok.has,ok.cab,ok.hd,ok.frames,ok.stk,ok.Rl,ok.bs,ok.EY,ok.zK,ok.D7,ok.oW,ok.HK,ok.tb⟩
def Cx.Ok.ke{X:Cx}(ok:(X.wish E).Ok):X.Ok:=
 ⟨ok.mod,ok.kind,ok.glob,ok.blt,ok.above,ok.inj,ok.has,ok.cab,ok.hd,ok.frames,ok.stk,ok.Rl,ok.bs,ok.EY,ok.zK,ok.D7,ok.oW,ok.HK,ok.tb⟩
section
variable{X:Cx}{Å:List (À×Obj)}{σ:St}{H:Hp}{s:Ã}{E:Á->Ã->Prop}
theorem Inv.wish(I:Inv X Å σ H s)(E:Á->Ã->Prop):Inv (X.wish E) Å σ H s:=⟨I.ok.wish E,I.os,I.bare,I.base,I.loc,I.cell,I.free,I.jf,I.pin,I.hok,I.len⟩
theorem Inv.ke(I:Inv (X.wish E) Å σ H s):Inv X Å σ H s:=⟨I.ok.ke,I.os,I.bare,I.base,I.loc,I.cell,I.free,I.jf,I.pin,I.hok,I.len⟩
theorem SP.ke(h:SP (X.wish E) Å D f s'):SP X Å D f s':=by
 cases f with
 |next=>obtain⟨a,H',I,q⟩:=h;exact⟨a,H',I.ke,q⟩|brk=>obtain⟨a,H',I,q⟩:=h;exact⟨a,H',I.ke,q⟩|cont=>obtain⟨a,H',I,q⟩:=h;exact⟨a,H',I.ke,q⟩|ret u=>obtain⟨v,a,H',I,r,q⟩:=h;exact⟨v,a,H',I.ke,r,q⟩
theorem PE.Ϭ(h:PE X.Ϭ e t):PE X e t:=λÅ s σ H Q I hw=>
 ϔ (h Å s σ H Q (I.wish _) hw) (λx x ⟨v,H',I',r,q⟩=>⟨v,H',I'.ke,r,q⟩) λx x z=>aK z
end
section
variable{X:Cx}{st:è}{rest:List è}{t u:TS}{e:Ç}{te:TE}{pos:Pos}
def N3:TS:=λD a H=>D.nx a H
def TK(t u:TS):TS:=λD a H=>t {D with nx:=u D} a H
def CH:bC X [] N3:=λx x a H x I h=>oE ⟨a,H,I,h⟩
def gq(h1:PS X st t)(h2:bC X rest u):bC X (st::rest) (TK t u):=by
 intro Å s b H D I h;refine wpAny_execs_cons<|ώ (h1 Å s b H {D with nx:=u D} I h) λf s1 q=>?_;cases f with
 |next=>obtain⟨a,H',I',q⟩:=q;exact h2 Å s1 a H' D I' q|ret v=>exact q|brk=>exact q|cont=>exact q
def kf(h1:PS X st t):bC X [st] t:=by
 intro Å s a H D I h;refine wpAny_execs_cons<|ώ (h1 Å s a H D I h) λf s1 q=>?_;cases f with
 |next=>exact oE q|ret v=>exact q|brk=>exact q|cont=>exact q
def Inv.quiet{a:St}(I:Inv X Å a H s):interactive X.env=false:=by simp[interactive,I.ok.kind]
def tQ(te:TE):TS:=λD a H=>te a H λx H1=>D.nx a H1
def ž(he:PE X e te)(hs:Ŗ e none pos.line X.env=î false:=by kernel_rfl):PS X (.Expr e pos) (tQ te):=λÅ s a H D I h=>wpAny_Expr_any (ώ (he Å s a H _ I h) λv s1 ⟨x,H1,I1,r1,q1⟩=>⟨a,H1,I1,q1⟩) I.quiet hs
def TL(te:TE):TS:=λD a H=>te a H D.rt
def K1(he:PE X e te):PS X (.Return (some e) pos) (TL te):=λÅ s a H D I h=>wpAny_Return_some<|ώ (he Å s a H _ I h) λv s1 ⟨x,H1,I1,r1,q1⟩=>⟨x,a,H1,I1,r1,q1⟩
def TM(c:TT)(t u:TS):TS:=λD a H=>c a H λb H1=>if b=true then t D a H1 else u D a H1
def Fa(hc:PT X c tc)(ha:bC X a t)(hb:bC X b u):PS X (.If c a b pos) (TM tc t u):=by
 intro Å s f H D I h;refine wpAny_If<|ώ (hc Å s f H _ I h) λd s1 zz=>?_;obtain⟨H1,I1,q1⟩:=zz;cases d with
 |true=>exact ha Å s1 f H1 D I1 q1|false=>exact hb Å s1 f H1 D I1 q1
def K2:TS:=λx x x=>False
def Fb:PS X st K2:=λx x x x x x h=>h.elim
end
abbrev TG:=V->St->Hp->(St->Hp->Prop)->Prop
abbrev Fc:=List V->St->Hp->(St->Hp->Prop)->Prop
def PG(X:Cx)(target:Ç)(t:TG):Prop:=
 ∀(Å:List (À×Obj)) (s:Ã) (b:St) (H:Hp) (v:V) (u:Á) (Q:St->Hp->Prop),Inv X Å b H s->RelV v u->t v b H Q->
  Ï (Ø X.prog X.w) X.A (db target X.env u) (λx s'=>∃a H',Inv X Å a H' s'/\Q a H') X.xe s
def AH(X:Cx)(ts:List Ç)(t:Fc):Prop:=
 ∀(Å:List (À×Obj)) (s:Ã) (b:St) (H:Hp) (vs:List V) (us:List Á) (Q:St->Hp->Prop),Inv X Å b H s->Ō vs us->t vs b H Q->
  Ï (Ø X.prog X.w) X.A (assignInOrder ((ϕ ts X.env).map (·.2)) us) (λx s'=>∃a H',Inv X Å a H' s'/\Q a H') X.xe s
abbrev K3:=V->V->V->Hp->(Hp->Prop)->Prop
def N4(X:Cx)(t:K3):Prop:=
 ∀(Å:List (À×Obj)) (s:Ã) (a:St) (H:Hp) (o i v:V) (ov iv u:Á) (Q:Hp->Prop),Inv X Å a H s->RelV o ov->RelV i iv->RelV v u->t o i v H Q->
  Ï (Ø X.prog X.w) X.A (setItem ov iv u) (λx s'=>∃H',Inv X Å a H' s'/\Q H') X.xe s
abbrev Rn:=V->V->Hp->VK->Prop
def XO(X:Cx)(op:oG)(t:Rn):Prop:=
 ∀(Å:List (À×Obj)) (s:Ã) (a:St) (H:Hp) (x y:V) (v u:Á) (Q:VK),Inv X Å a H s->RelV x v->RelV y u->t x y H Q->
  Ï (Ø X.prog X.w) X.A (inplaceOp op v u) (EP X Å a Q) X.xe s
section
variable{X:Cx}{pos:Pos}
def tU(i:Nat):TG:=λv a H Q=>Q (a.set i<|some v) H
def mM{i:Nat}{x:Str}(hN:X.N.Nodup)(hi:X.N[i]?=some x)(hx:Loc X.env.scope x)(hf:X.fn x=true\/X.env.scope.names.lookup x=some .local:=by first|exact .inl rfl|exact .inr rfl|assumption):PG X (.Name x pos) (tU i):=λÅ s a H v u Q I r h=>wpAny_assign_Name<|tM I hN hi hx r (λs' I'=>⟨_,H,I',h⟩) hf
def N5:Fc:=λvs a H Q=>vs=[]/\Q a H
def Fd(t:TG)(u:Fc):Fc:=λvs b H Q=>∃v r,vs=v::r/\t v b H λa H'=>u r a H' Q
def yo:AH X [] N5:=by intro Å s a H vs us Q I r h;obtain⟨e,h⟩:=h;subst e;cases r;exact assignInOrder_nil ⟨a,H,I,h⟩
def jg{e:Ç}{es:List Ç}{t:TG}{u:Fc}(h1:PG X e t)(h2:AH X es u)
 (hs:(ϕ (e::es) X.env).map (·.2)=db e X.env::(ϕ es X.env).map (·.2):=by rfl):AH X (e::es) (Fd t u):=by
 intro Å s b H vs us Q I r h;obtain⟨v,vr,e1,h⟩:=h;subst e1;cases r with
 |cons r rr=>rw[hs];refine assignInOrder_cons<|ώ (h1 Å s b H _ _ _ I r h) λx s1 zz=>?_;obtain⟨a,H1,I1,q1⟩:=zz;exact h2 Å s1 a H1 _ _ Q I1 rr q1
def N6(K:Î)(n:Nat)(t:Fc):TG:=λv b H Q=>∃a xs,v=.ref a/\gj K H a xs/\xs.length=n/\t xs b H Q
def yq{es:List Ç}{k:Nat}{t:Fc}{n:Nat}(hc:X.calm=true)(h:AH X es t)
 (hn:(ϕ es X.env).length=n:=by rfl)(jN:(ϕ es X.env).findIdx? (·.1)=none:=by rfl):PG X (.Tuple es k pos) (N6 X.K n t):=by
 intro Å s c H v u Q I r hw;obtain⟨a,xs,e1,hq,hl,hw⟩:=hw;subst e1;cases r;obtain⟨Ē,rv,ht,hz⟩:=I.tuple hq;refine assign_Tuple_tuple (I.ok.hd hc) ht (by simp[hn,<-hl,rv.length]) jN λh' hx=>?_;have I1:Inv X Å c H {s with heap:=h'}:=I.kept (t':=s.toks) λb o e=>hx b o (İ<|ü e) e;exact h Å _ c H xs _ Q I1 (by simpa using rv) hw
def TN(to ti:TE)(t:K3):TG:=λv a H Q=>to a H λo H1=>ti a H1 λi H2=>t o i v H2 λH3=>Q a H3
def K4{o i:Ç}{to ti:TE}{t:K3}(ho:PE X o to)(hi:PE X i ti)(hs:N4 X t)
 (ha:∀v,db (.Subscript o i pos) X.env v=(do
   let ov<-ϖ [v] (eval o X.env)
   let iv<-ϖ [v,ov] (eval i X.env)
   de pos
   ϖ [v,ov,iv] (setItem ov iv v)
   release [v,ov,iv] []):=by intro _;rfl):PG X (.Subscript o i pos) (TN to ti t):=by
 intro Å s a H v u Q I r h;rw[ha];refine Ñ<|eK<|ώ (ho Å s a H _ I h) λov s1 zz=>?_;obtain⟨x,H1,I1,r1,q1⟩:=zz;refine Ñ<|eK<|ώ (hi Å s1 a H1 _ I1 q1) λiv s2 zz=>?_;obtain⟨y,H2,I2,r2,q2⟩:=zz;refine Ñ<|lY<|Ñ<|eK<|ώ (hs Å s2 a H2 x y v ov iv u _ I2 r1 r2 r q2) λz s3 zz=>?_;obtain⟨H3,I3,q3⟩:=zz;exact wpAny_release ⟨a,H3,I3,q3⟩
def HM(te:TE)(g:TG):TS:=λD a H=>te a H λx H1=>g x a H1 D.nx
def Fe{tg e:Ç}{te:TE}{g:TG}(he:PE X e te)(hg:PG X tg g)(hs:xC [tg] e pos.line X.env=î false:=by rfl)(hw:xD [tg] e X.env=î none:=by rfl)
 (h1:(ϕ [tg] X.env).map (·.2)=[db tg X.env]:=by rfl):PS X (.Assign [tg] e pos) (HM te g):=by
 intro Å s a H D I h;refine wpAny_Assign_stores (ώ (he Å s a H _ I h) λv s1 zz=>?_) hs hw;obtain⟨x,H1,I1,r1,q1⟩:=zz;rw[h1];exact ώ (hg Å s1 a H1 x v _ I1 r1 q1) λy s2 q=>q
def tX{i:Nat}{x:Str}{e:Ç}{te:TE}{bh:Pos}(hN:X.N.Nodup)(hi:X.N[i]?=some x)(hx:Loc X.env.scope x)(he:PE X e te)(hs:Ŗ e (some<|.Name x bh) pos.line X.env=î false:=by kernel_rfl)(hf:X.fn x=true\/X.env.scope.names.lookup x=some .local:=by first|exact .inl rfl|exact .inr rfl|assumption):
 PS X (.Assign [.Name x bh] e pos) (HM te<|tU i):=by
 intro Å s a H D I h;refine wpAny_Assign_Name (ώ (he Å s a H _ I h) λv s1 zz=>?_) hs;obtain⟨y,H1,I1,r1,q1⟩:=zz;exact tM I1 hN hi hx r1 (λs2 I2=>⟨_,H1,I2,q1⟩) hf
def TQ(i:Nat)(te:TE)(ti:Rn):TS:=λD a H=>∃x,a[i]?=some (some x)/\te a H λy H1=>ti x y H1 λz H2=>D.nx (a.set i<|some z) H2
def K5{i:Nat}{x:Str}{e:Ç}{te:TE}{op:oG}{ti:Rn}{bh:Pos}(hN:X.N.Nodup)(hi:X.N[i]?=some x)(hx:Loc X.env.scope x)(he:PE X e te)(ho:XO X op ti)(hf:X.fn x=true\/X.env.scope.names.lookup x=some .local:=by first|exact .inl rfl|exact .inr rfl|assumption):
 PS X (.AugAssign (.Name x bh) op e pos) (TQ i te ti):=by
 intro Å s a H D I h;obtain⟨v,e1,h⟩:=h;obtain⟨m,hn,hl⟩:=I.loc;have vis:KN X.env.scope x:=by rcases hx with k|k;exact .inl k;exact .inr<|.inl k
 obtain⟨u,r,l⟩:=hl i x v hi e1 vis;refine wpAny_AugAssign_Name ?_;have go:Ï (Ø X.prog X.w) X.A (eval e X.env) (λw s₂=>Ï (Ø X.prog X.w) X.A (inplaceOp op u w) (λr s₃=>Ï (Ø X.prog X.w) X.A (storeName X.env x r) (λz=>SP X Å D .next) X.xe s₃) X.xe s₂) X.xe s:=by refine ώ (he Å s a H _ I h) λw s1 zz=>?_;obtain⟨y,H1,I1,r1,q1⟩:=zz;refine ώ (ho Å s1 a H1 v y u w _ I1 r r1 q1) λz s2 zz=>?_;obtain⟨zv,H2,I2,r2,q2⟩:=zz;exact tM I2 hN hi hx r2 (λs3 I3=>⟨_,H2,I3,q2⟩) hf
 rcases l with⟨hk,hm⟩|⟨hk,c,hc,hcell⟩
 ·exact wpAny_loadName_local I.ok.kind hk hn hm go
 ·rcases hk with hk|hk
  ·exact wpAny_loadName_cell I.ok.kind hk hc hcell go
  ·rcases hx with k|k
   ·have:X.env.scope.names.lookup x=some .free:=hk;rw[k]at this;cases this
   ·have:X.env.scope.names.lookup x=some .free:=hk;rw[k]at this;cases this
def ipI(f:Int->Int->Int):Rn:=λx y H Q=>∃i j,x=.int i/\y=.int j/\Q (.int<|f i j) H
end
section
variable{X:Cx}{pos:Pos}
def K6(c:TT)(tb:TS):TS:=λD a H=>∃W:Nat->St->Hp->Prop,(∃m,W m a H)/\∀m a H,W m a H->
 c a H λb H1=>if b=true then ∃N:St->Hp->Prop,(∀d H',N d H'->∃m',m'<m/\W m' d H')/\tb {D with nx:=N,ct:=N,bk:=D.nx} a H1 else D.nx a H1
def Ff(hp:oH (Ø X.prog X.w) X.A X.env X.xe)(hc:PT X c tc)(hb:bC X body tb):PS X (.While c body [] pos) (K6 tc tb):=by
 intro Å s g H D I h;obtain⟨W,⟨m0,w0⟩,turn⟩:=h;refine wpAny_While<|codeAny_whileLoop (λn s'=>∃e H',Inv X Å e H' s'/\W n e H') ?_ m0 ⟨g,H,I,w0⟩;rintro n s1 ⟨d,H1,I1,w1⟩;refine jT hp<|ώ (hc Å s1 d H1 _ I1<|turn n d H1 w1) λb s2 zz=>?_;obtain⟨H2,I2,q2⟩:=zz;cases b with
 |true=>
  obtain⟨N,hN,q2⟩:=q2;rw[if_pos rfl];refine jT hp<|ώ (hb Å s2 d H2 _ I2 q2) λf s3 q3=>?_;cases f with
  |next=>obtain⟨a,H3,I3,n3⟩:=q3;obtain⟨m',hm,w3⟩:=hN a H3 n3;exact⟨m',hm,a,H3,I3,w3⟩|cont=>obtain⟨a,H3,I3,n3⟩:=q3;obtain⟨m',hm,w3⟩:=hN a H3 n3;exact⟨m',hm,a,H3,I3,w3⟩|brk=>exact q3|ret v=>exact q3
 |false=>rw[if_neg bE];exact oE ⟨d,H2,I2,q2⟩
end
structure It where
 go:Nat->Hp->Prop
 N7:Nat->Hp->V->Hp->Prop
 stop:Nat->Hp->Prop
def fZ(X:Cx)(Å:List (À×Obj))(H:Hp)(b:À):Prop:=
 H b=none/\b≠X.env.locals/\b∉X.fs/\(b∈X.ex\/X.s₀.heap.objs.size<=b)/\(∀x c,X.env.cells.lookup x=some c->c≠b)/\∀p∈X.pn++Å,p.1≠b
def Inv.tY{a:St}{b:À}(I:Inv X Å a H s)(hb:s.heap.objs.size<=b)(hn:H' b=none):fZ X Å H' b:=by
 refine⟨hn,cx<|š I.lt hb,I.TB hb,.inr<|Ţ I.sz hb,λx c e z=>?_,λp hp z=>?_⟩
 ·obtain⟨v,q⟩:=I.cell x c e;exact absurd (š q.lt (by rw[z];exact hb))<|aN _
 ·exact absurd (š (ü (I.pin p hp).1) (by rw[z];exact hb))<|aN _
structure BL(P:ë)(w:â)(K:Î)(tg:Ç)(J:It)(fp:List À)(it:À)(tn:Nat->Ò->Prop):Prop where
 mem:it∈fp
 obj:∀i h,tn i h->∀b∈fp,∃o,h.get? b=some o/\∀v,o.data≠.cell v
 keep:∀i h h',tn i h->(∀b∈fp,∀o,h.get? b=some o->h'.get? b=some o)->tn i h'
 item:∀(X:Cx),X.prog=P->X.w=w->X.K=K->X.calm=true->∀(i:Nat) (Å:List (À×Obj)) (s:Ã) (σ:St) (H:Hp) (E:Á->Ã->Prop),Inv X Å σ H s->(∀b∈fp,fZ X Å H b)->tn i s.heap->J.go i H->
  Ï (Ø P w) X.A (aO<|.ref it) (λr s1=>∃u,r=some u/\
   Ï (Ø P w) X.A (sr tg (.ref it) u) (λy s2=>∃x H',Inv X Å σ H' s2/\RelV x u/\J.N7 i H x H'/\tn (i+1) s2.heap/\∀b∈fp,H' b=none) E s1) E s
 done:∀(X:Cx),X.prog=P->X.w=w->X.K=K->X.calm=true->∀(i:Nat) (Å:List (À×Obj)) (s:Ã) (σ:St) (H:Hp) (E:Á->Ã->Prop),Inv X Å σ H s->(∀b∈fp,fZ X Å H b)->tn i s.heap->J.stop i H->
  Ï (Ø P w) X.A (aO<|.ref it) (λr s1=>r=none/\Inv X Å σ H s1) E s
 self:∀(A:ê) (i:Nat) (s:Ã) (Q:Á->Ã->Prop) (E:Á->Ã->Prop),tn i s.heap->Q (.ref it) s->Ï (Ø P w) A (ia<|.ref it) Q E s
abbrev TI:=St->Hp->(It->Hp->Prop)->Prop
def Tj(X:Cx)(Å:List (À×Obj))(a:St)(tg:Ç)(R:It->Hp->Prop)(W0:Á)(s2:Ã):Prop:=
 ∃(it:À) (fp:List À) (tn:Nat->Ò->Prop) (J:It) (H':Hp),W0=.ref it/\Inv X Å a H' s2/\BL X.prog X.w X.K tg J fp it tn/\tn 0 s2.heap/\(∀b∈fp,fZ X Å H' b)/\R J H'
def PI(X:Cx)(tg iter:Ç)(wi:TI):Prop:=
 ∀(Å:List (À×Obj)) (s:Ã) (a:St) (H:Hp) (R:It->Hp->Prop),Inv X Å a H s->wi a H R->
  Ï (Ø X.prog X.w) X.A (eval iter X.env) (λv s1=>Ï (Ø X.prog X.w) X.A (ia v) (Tj X Å a tg R) X.xe s1) X.xe s
def CI(ho:s.heap.get? it=some o)(hc:o.cls=.type n)(hd:o.data=.fields vs)
 (hn:["enumerate","zip","dict_itemiterator","dict_reverseitemiterator","odict_iterator","itertools.zip_longest","itertools.pairwise"].contains n=false)(hQ:Q () s):Ï M A (sr tg (.ref it) u) Q E s:=by
 unfold sr;cases tg<;>first
  |exact Ą hQ
  |(cases u<;>first
     |exact Ą hQ
     |(refine Ñ<|wpAny_load ho ?_
       rw[hc,hd];show Ï M A (if(["enumerate","zip","dict_itemiterator","dict_reverseitemiterator","odict_iterator","itertools.zip_longest","itertools.pairwise"].contains n&&vs[0]?==some (aP _))=true then _ else _) Q E s;rw[if_neg (by intro h;rw[hn,Bool.false_and]at h;cases h)];exact Ą hQ))
noncomputable def JT(K:Î)(a:À):It:=
 ⟨λi H=>∃xs x,Ϧ K H a xs/\xs[i]?=some x,λi H x H'=>H'=H/\∀xs,Ϧ K H a xs->xs[i]?=some x,λi H=>∃xs,Ϧ K H a xs/\xs.length<=i⟩
noncomputable def N8(K:Î)(a:À):It:=
 ⟨λi H=>∃xs x,gj K H a xs/\xs[i]?=some x,λi H x H'=>H'=H/\∀xs,gj K H a xs->xs[i]?=some x,λi H=>∃xs,gj K H a xs/\xs.length<=i⟩
noncomputable def Ro(lo:Int)(n:Nat):It:=⟨λi y=>i<n,λi H x H'=>H'=H/\x=.int (lo+i),λi y=>n<=i⟩
def D9{K:Î}(a it:À):BL P w K tg (JT K a) [it] it (λi h=>h.IsListIter it a i) where
 mem:=by simp
 obj:=λi h st b hb=>by
  have e:b=it:=by simpa using hb
  subst e;obtain⟨o,e,c,d⟩:=st;exact⟨o,e,λv z=>by rw[d]at z;cases z⟩
 keep:=λi h h' st k=>st.at λo e=>k it (by simp) o e
 item:=by intro X hP hw hK hc i Å s f H E I hf st hg;subst hP hw hK;obtain⟨xs,x,hq,hx⟩:=hg;obtain⟨Ē,rv,p,hz⟩:=I.list hq;obtain⟨u,hu,ru⟩:=rv.get hx;obtain⟨f0,f1,f2,f3,f4,f5⟩:=hf it (by simp);refine wpAny_pyNext_list_item st p.isList (x:=u) (by simpa using hu) λh' ER sb=>?_;have I1:Inv X Å f H {s with heap:=h'}:=I.turned (t':=s.toks) (λb o hb e=>(sb.2 b hb).trans e) f0 f1 f3 f4 f5;obtain⟨o,e,c,d⟩:=id ER;exact⟨u,rfl,CI (s:={s with heap:=h'}) e c d (by decide) ⟨x,H,I1,ru,⟨rfl,λys hy=>by rw[I.tN hy hq];exact hx⟩,ER,λb hb=>(hf b hb).1⟩⟩
 done:=by intro X hP hw hK hc i Å s f H E I hf st hg;subst hP hw hK;obtain⟨xs,hq,hx⟩:=hg;obtain⟨Ē,rv,p,hz⟩:=I.list hq;obtain⟨f0,f1,f2,f3,f4,f5⟩:=hf it (by simp);have hl:=rv.length;exact wpAny_pyNext_list_end (I.ok.hd hc) st p.isList (by simp;lia) λh' eb=>⟨rfl,I.turned (t':=s.toks) (λb o hb e=>eb b o hb e) f0 f1 f3 f4 f5⟩
 self:=λy y y y y st h=>wpAny_pyIter_listiter st h
def AT{K:Î}(a it:À):BL P w K tg (N8 K a) [it] it (λi h=>h.IsTupleIter it a i) where
 mem:=by simp
 obj:=λi h st b hb=>by
  have e:b=it:=by simpa using hb
  subst e;obtain⟨o,e,c,d⟩:=st;exact⟨o,e,λv z=>by rw[d]at z;cases z⟩
 keep:=λi h h' st k=>st.at λo e=>k it (by simp) o e
 item:=by intro X hP hw hK hc i Å s f H E I hf st hg;subst hP hw hK;obtain⟨xs,x,hq,hx⟩:=hg;obtain⟨Ē,rv,p,hz⟩:=I.tuple hq;obtain⟨u,hu,ru⟩:=rv.get hx;obtain⟨f0,f1,f2,f3,f4,f5⟩:=hf it (by simp);refine wpAny_pyNext_tuple_item st (show s.heap.IsTuple a Ē.toArray from p) (x:=u) (by simpa using hu) λh' ER sb=>?_;have I1:Inv X Å f H {s with heap:=h'}:=I.turned (t':=s.toks) (λb o hb e=>(sb.2 b hb).trans e) f0 f1 f3 f4 f5;obtain⟨o,e,c,d⟩:=id ER;exact⟨u,rfl,CI (s:={s with heap:=h'}) e c d (by decide) ⟨x,H,I1,ru,⟨rfl,λys hy=>by rw[I.vD hy hq];exact hx⟩,ER,λb hb=>(hf b hb).1⟩⟩
 done:=by intro X hP hw hK hc i Å s f H E I hf st hg;subst hP hw hK;obtain⟨xs,hq,hx⟩:=hg;obtain⟨Ē,rv,p,hz⟩:=I.tuple hq;obtain⟨f0,f1,f2,f3,f4,f5⟩:=hf it (by simp);have hl:=rv.length;exact wpAny_pyNext_tuple_end (I.ok.hd hc) st (show s.heap.IsTuple a Ē.toArray from p) (by simp;lia) λh' eb=>⟨rfl,I.turned (t':=s.toks) (λb o hb e=>eb b o hb e) f0 f1 f3 f4 f5⟩
 self:=λy y y y y st h=>wpAny_pyIter_tupleiter st h
def AU{K:Î}(it:À)(lo:Int)(n:Nat):BL P w K tg (Ro lo n) [it] it (λi h=>IsRangeIter h it (lo+(i:Nat)*1) ((n:Int)-(i:Nat)) 1) where
 mem:=by simp
 obj:=λi h st b hb=>by
  have e:b=it:=by simpa using hb
  subst e;exact⟨_,st,λv z=>by have z':xO _=oM v:=z;cases z'⟩
 keep:=λi h h' st k=>k it (by simp) _ st
 item:=by intro X hP hw hK hc i Å s a H E I hf st hg;subst hP hw hK;obtain⟨f0,f1,f2,f3,f4,f5⟩:=hf it (by simp);have W:=Walks.range (prog:=X.prog) (w:=X.w) (I.ok.hd hc) it lo 1 n;refine W.item i s _ _ hg st λv h' tk hv ER kk=>?_;obtain⟨t,rfl⟩:=hv;have I1:Inv X Å a H {s with heap:=h',toks:=tk}:=I.turned (λb o hb e=>kk b o (by simpa using hb) e) f0 f1 f3 f4 f5;refine⟨_,rfl,CI (s:={s with heap:=h',toks:=tk}) (n:="range_iterator") ER rfl rfl (by decide) ⟨.int<|lo+i,H,I1,⟨t,?_⟩,⟨rfl,rfl⟩,ER,λb hb=>(hf b hb).1⟩⟩;rw[Int.mul_one]
 done:=by intro X hP hw hK hc i Å s a H E I hf st hg;subst hP hw hK;obtain⟨f0,f1,f2,f3,f4,f5⟩:=hf it (by simp);exact wpAny_pyNext_range_end (I.ok.hd hc) st (by have:n<=i:=hg;lia) λh' eb=>⟨rfl,I.turned (t':=s.toks) (λb o hb e=>eb b o hb e) f0 f1 f3 f4 f5⟩
 self:=λx x x x x st h=>wpAny_pyIter_rangeiter st h
section
variable{X:Cx}{tg:Ç}
def Fg{a:St}{lo hi:Int}(I:Inv X Å a H s)(h1: -(2^62)<=lo)(h2:lo<2^62)(h3: -(2^62)<=hi)(h4:hi<2^62)
 (q:R (Ro lo (hi-lo).toNat) H):Ï (Ø X.prog X.w) X.A (ia<|.ref s.heap.objs.size) (Tj X Å a tg R) E {s with heap:=s.heap.push {cls:=.type "range",data:=.fields #[.int lo t,.int hi u,.int 1 v]},toks:=tk}:=by
 refine wpAny_pyIter_range (IsRange.new ..) (small_one h1 h2 h3 h4) ?_;have I1:Inv X Å a H {s with heap:=s.heap.push {cls:=.type "range",data:=.fields #[.int lo t,.int hi u,.int 1 v]},toks:=tk}:=I.kept λb o e=>ø _ e;refine⟨(s.heap.push {cls:=.type "range",data:=.fields #[.int lo t,.int hi u,.int 1 v]}).objs.size,[(s.heap.push {cls:=.type "range",data:=.fields #[.int lo t,.int hi u,.int 1 v]}).objs.size],_,_,H,rfl,
  I1.kept (t':=tk) λb o e=>ø _ e,AU _ lo (hi-lo).toNat,?_,λb hb=>?_,q⟩
 ·have e1:lo+((0:Nat):Int)*1=lo:=by simp
  have e2:(((hi-lo).toNat:Nat):Int)-((0:Nat):Int)=Builtin.Range.rangeSize lo hi 1:=by rw[rangeSize_one];split<;>lia
  show IsRangeIter _ _ (lo+((0:Nat):Int)*1) ((((hi-lo).toNat:Nat):Int)-((0:Nat):Int)) 1;rw[e1,e2];exact Ĥ _ rfl
 ·have e:b=(s.heap.push {cls:=.type "range",data:=.fields #[.int lo t,.int hi u,.int 1 v]}).objs.size:=by simpa using hb
  subst e;exact I1.tY (ö _)<|I1.hok.fresh<|ö _
def N9(ta:TA):TI:=λa H R=>ta a H λvs H1=>∃j:Int,vs=[.int j]/\ -(2^62)<=j/\j<2^62/\R (Ro 0 j.toNat) H1
def Ea{a:Ç}{ta:TA}{p pos:Pos}(hg:Gl X "range")(hm:X.mg "range"=none)(ha:PA X [a] ta)(hs:Ð [a] X.env=[(false,eval a X.env)]:=by rfl):PI X tg (.Call (.Name "range" p) [a] [] pos) (N9 ta):=by
 intro Å s b H R I h;refine Call_<|kY I hg hm boot_range<|si (ώ (ha pos Å s b H _ I h) λus s1 zz=>?_) hs rfl;obtain⟨vs,H1,I1,r1,q1⟩:=zz;obtain⟨j,e,q1,q2,q⟩:=q1;subst e;cases r1 with
 |cons r rr=>cases rr;obtain⟨t,rfl⟩:=r;exact call_range_1 (Fg I1 (by lia) (by lia) q1 q2<|by simpa using q)
def TR(wi:TI)(g:TG)(tb:TS):TS:=λD a H=>wi a H λJ H1=>∃W:Nat->Nat->St->Hp->Prop,(∃m,W 0 m a H1)/\∀i m a H,W i m a H->
 (J.stop i H/\D.nx a H)\/(J.go i H/\∃N:St->Hp->Prop,(∀b H',N b H'->∃m',m'<m/\W (i+1) m' b H')/\∀x H',J.N7 i H x H'->g x a H' λc H2=>tb {D with nx:=N,ct:=N,bk:=D.nx} c H2)
noncomputable def tZ(fp:List À)(h:Ò):List (À×Obj):=fp.filterMap λb=>(h.get? b).map λo=>(b,o)
def d_(hb:b∈fp)(e:h.get? b=some o):(b,o)∈tZ fp h:=w_.mpr ⟨b,hb,by rw[e];rfl⟩
def Eb(hp:p∈tZ fp h):p.1∈fp/\h.get? p.1=some p.2:=by
 obtain⟨b,hb,e⟩:=w_.mp hp;cases q:h.get? b with
 |none=>rw[q]at e;cases e|some o=>rw[q]at e;have e':(b,o)=p:=ı e;subst e';exact⟨hb,q⟩
def Inv.pinned{a:St}(I:Inv X Å a H s)(hf:∀b∈fp,fZ X Å H b)(ho:∀b∈fp,∃o,s.heap.get? b=some o/\∀v,o.data≠.cell v):Inv X (Å++tZ fp s.heap) a H s:=
 I.CG fun p hp=>(ź.mp hp).elim (fun z=>I.pin p<|aM _ z) fun z=>by obtain⟨hb,e⟩:=Eb z;obtain⟨f0,f1,f2,_⟩:=hf p.1 hb;obtain⟨o,e',d⟩:=ho p.1 hb;rw[e]at e';cases e';exact⟨e,f0,f1,f2,d⟩
def Inv.kZ{a:St}(I:Inv X (Å++pl) a H s):Inv X Å a H s:=I.CG λp hp=>I.pin p<|aM _<|on _ hp
def Fh{iter:Ç}{body:List è}{wi:TI}{g:TG}{tb:TS}{pos:Pos}(hp:oH (Ø X.prog X.w) X.A X.env X.xe)(hc:X.calm=true)(hi:PI X tg iter wi)(hg:PG X tg g)(hb:bC X body tb)
 (hs:∀x,df iter X.env x=î x:=by intro _;rfl):PS X (.For tg iter body [] pos) (TR wi g tb):=by
 intro Å s l H D I h;refine wpAny_For (ώ (hi Å s l H _ I h) λv s1 h1=>ώ h1 λW0 s2 h2=>?_) hs;obtain⟨it,fp,tn,J,H2,e,I2,T,HD,f2,W,⟨m0,w0⟩,turn⟩:=h2;subst e;have stat:∀{H':Hp},(∀b∈fp,H' b=none)->∀b∈fp,fZ X Å H' b:=λhn b hb=>⟨hn b hb,(f2 b hb).2⟩;refine codeAny_forLoop_any (λn s'=>∃i c H',Inv X Å c H' s'/\tn i s'.heap/\(∀b∈fp,H' b=none)/\W i n c H') ?_ m0 ⟨0,l,H2,I2,HD,λb hb=>(f2 b hb).1,w0⟩;rintro n s3 ⟨i,j,H3,I3,st3,XQ,w3⟩;rcases turn i n j H3 w3 with⟨stop,qn⟩|⟨go,N,hN,step⟩
 ·refine jT hp<|ώ (T.done X rfl rfl rfl hc i Å s3 j H3 X.xe I3 (stat XQ) st3 stop) λr s4 ⟨hr,I4⟩=>?_;subst hr;exact oE ⟨j,H3,I4,qn⟩
 ·refine jT hp<|ώ (T.item X rfl rfl rfl hc i Å s3 j H3 X.xe I3 (stat XQ) st3 go) λr s4 ⟨u,hr,h4⟩=>?_;subst hr;refine jT hp<|ώ h4 λy s5 zz=>?_;obtain⟨x,H5,I5,r5,y5,Nn,Rq⟩:=zz;have I5':=I5.pinned (stat Rq)<|T.obj _ _ Nn;refine jT hp<|ώ (hg _ s5 j H5 x u _ I5' r5<|step x H5 y5) λy s6 zz=>?_;obtain⟨k,H6,I6,q6⟩:=zz;refine jT hp<|ώ (hb _ s6 k H6 _ I6 q6) λf s7 q7=>?_;have again:∀{a:St}{H7:Hp},Inv X (Å++tZ fp s5.heap) a H7 s7->N a H7->∃m,m<n/\∃i c H',Inv X Å c H' s7/\tn i s7.heap/\(∀b∈fp,H' b=none)/\W i m c H':=fun{a H7} I7 n7=>by
   obtain⟨m',hm,w7⟩:=hN a H7 n7;refine⟨m',hm,i+1,a,H7,I7.kZ,T.keep _ _ _ Nn λb hb o e=>(I7.pin (b,o)<|aM _<|aM _<|d_ hb e).1,λb hb=>?_,w7⟩;obtain⟨o,e,d⟩:=T.obj _ _ Nn b hb;exact(I7.pin (b,o)<|aM _<|aM _<|d_ hb e).2.1
  cases f with
  |next=>obtain⟨a,H7,I7,n7⟩:=q7;exact again I7 n7|cont=>obtain⟨a,H7,I7,n7⟩:=q7;exact again I7 n7|brk=>obtain⟨a,H7,I7,q7⟩:=q7;exact⟨a,H7,I7.kZ,q7⟩|ret v=>obtain⟨x7,a,H7,I7,r7,q7⟩:=q7;exact⟨x7,a,H7,I7.kZ,r7,q7⟩
end
abbrev R2:=V->V->Hp->VK->Prop
def aF(X:Cx)(f:Á->Á->Sem Á)(r:R2):Prop:=
 ∀(Å:List (À×Obj)) (s:Ã) (a:St) (H:Hp) (x y:V) (v u:Á) (Q:VK),Inv X Å a H s->RelV x v->RelV y u->r x y H Q->
  Ï (Ø X.prog X.w) X.A (f v u) (EP X Å a Q) X.xe s
def HN(X:Cx)(f:Á->Sem Á)(r:V->Hp->VK->Prop):Prop:=
 ∀(Å:List (À×Obj)) (s:Ã) (a:St) (H:Hp) (x:V) (v:Á) (Q:VK),Inv X Å a H s->RelV x v->r x H Q->
  Ï (Ø X.prog X.w) X.A (f v) (EP X Å a Q) X.xe s
def Ř(X:Cx)(f:Á)(r:List V->Hp->VK->Prop):Prop:=
 ∀(Å:List (À×Obj)) (s:Ã) (a:St) (H:Hp) (xs:List V) (us:List Á) (Q:VK),Inv X Å a H s->Ō xs us->r xs H Q->
  Ï (Ø X.prog X.w) X.A (call f us) (EP X Å a Q) X.xe s
def TU(X:Cx)(r:V->Hp->(Bool->Hp->Prop)->Prop):Prop:=
 ∀(Å:List (À×Obj)) (s:Ã) (a:St) (H:Hp) (x:V) (v:Á) (Q:Bool->Hp->Prop),Inv X Å a H s->RelV x v->r x H Q->
  Ï (Ø X.prog X.w) X.A (truthy v) (TP X Å a Q) X.xe s
def JU(r:R2)(ta tb:TE):TE:=λa H Q=>ta a H λx H1=>tb a H1 λy H2=>r x y H2 Q
def XR(r:V->Hp->VK->Prop)(ta:TE):TE:=λa H Q=>ta a H λx H1=>r x H1 Q
def rI(C:Int->Int->Prop)(g:Int->Int->V):R2:=λx y H Q=>∃i j,x=.int i/\y=.int j/\C i j/\Q (g i j) H
def Hr(g:Int->Int->V):R2:=λx y H Q=>∃i j,x=.int i/\y=.int j/\Q (g i j) H
def rU(g:Int->V):V->Hp->VK->Prop:=λx H Q=>∃i,x=.int i/\Q (g i) H
section
variable{X:Cx}{a b:Ç}{ta tb:TE}{pos:Pos}
def K7(ha:PE X a ta)(hb:PE X b tb){c:St}{R:V->V->Hp->Prop}(I:Inv X Å c H s)
 (h:ta c H λx H1=>tb c H1 λy H2=>R x y H2){f:Á->Á->Sem Á}
 (hf:∀v u s2 x y H2,Inv X Å c H2 s2->RelV x v->RelV y u->R x y H2->Ï (Ø X.prog X.w) X.A (f v u) Q X.xe s2):
 Ï (Ø X.prog X.w) X.A (eval a X.env) (λv s₁=>Ï (Ø X.prog X.w) X.A (eval b X.env) (λu s₂=>Ï (Ø X.prog X.w) X.A (f v u) Q X.xe s₂) X.xe s₁) X.xe s:=by
 refine ώ (ha Å s c H _ I h) λv s1 zz=>?_;obtain⟨x,H1,I1,r1,q1⟩:=zz;refine ώ (hb Å s1 c H1 _ I1 q1) λu s2 zz=>?_;obtain⟨y,H2,I2,r2,q2⟩:=zz;exact hf v u s2 x y H2 I2 r1 r2 q2
def JW(ho:aF X (ň op) r)(ha:PE X a ta)(hb:PE X b tb):PE X (.BinOp a op b pos) (JU r ta tb):=λÅ s c H Q I h=>wpAny_BinOp<|K7 ha hb I h λv u s2 x y H2 I2 rx ry q=>ho Å s2 c H2 x y v u Q I2 rx ry q
def JX(ho:HN X (unaryOp op) r)(ha:PE X a ta):PE X (.UnaryOp op a pos) (XR r ta):=λÅ s c H Q I h=>UnaryOp_<|ώ (ha Å s c H _ I h) λv s1 ⟨x,H1,I1,r1,q1⟩=>ho Å s1 c H1 x v Q I1 r1 q1
def CJ{g:Int->Int->Int}
 (rule:∀(i j:Int) (t u:Tok) (s:Ã) (Q:Á->Ã->Prop) (E:Á->Ã->Prop),C i j->Q (.int (g i j) s.toks) {s with toks:=s.toks+1}->Ï (Ø X.prog X.w) X.A (f (.int i t)<|.int j u) Q E s):
 aF X f (rI C λi j=>.int<|g i j):=by
 intro Å s c H x y v u Q I rx ry h;obtain⟨i,j,rfl,rfl,hc,q⟩:=h;obtain⟨t,rfl⟩:=rx;obtain⟨t',rfl⟩:=ry;exact rule i j t t' s _ _ hc ⟨.int<|g i j,H,I.tok _,⟨_,rfl⟩,q⟩
def zM{g:Int->Int->Int}
 (rule:∀(i j:Int) (t u:Tok) (s:Ã) (Q:Á->Ã->Prop) (E:Á->Ã->Prop),Q (.int (g i j) s.toks) {s with toks:=s.toks+1}->Ï (Ø X.prog X.w) X.A (f (.int i t)<|.int j u) Q E s):
 aF X f (Hr λi j=>.int<|g i j):=by
 intro Å s c H x y v u Q I rx ry h;obtain⟨i,j,rfl,rfl,q⟩:=h;obtain⟨t,rfl⟩:=rx;obtain⟨t',rfl⟩:=ry;exact rule i j t t' s _ _ ⟨.int<|g i j,H,I.tok _,⟨_,rfl⟩,q⟩
def HP{g:Int->Int->Bool}
 (rule:∀(i j:Int) (t u:Tok) (s:Ã) (Q:Á->Ã->Prop) (E:Á->Ã->Prop),Q (.bool<|g i j) s->Ï (Ø X.prog X.w) X.A (f (.int i t)<|.int j u) Q E s):
 aF X f (Hr λi j=>.bl<|g i j):=by
 intro Å s c H x y v u Q I rx ry h;obtain⟨i,j,rfl,rfl,q⟩:=h;obtain⟨t,rfl⟩:=rx;obtain⟨t',rfl⟩:=ry;exact rule i j t t' s _ _ ⟨.bl<|g i j,H,I,rfl,q⟩
def Oa(i j:Int):Prop:=0<j/\j<1073741824
def Ec(i j:Int):Prop:=0<=j/\j<=1000000/\i.natAbs<2^64
def K8(i j:Int):Prop:=(-(2^64)<i/\i<2^64)\/(-(2^64)<j/\j<2^64)
def K8.ok(h:K8 i j):IntMulOk i j:=by
 rcases h with⟨h1,h2⟩|⟨h1,h2⟩
 ·exact .of_left<|intBits_le_64 h1 h2
 ·exact .of_right<|intBits_le_64 h1 h2
def AV(k:Nat):(0:Int)<=2^k:=by rw[two_pow_cast];exact wV _
def K9:aF X (ň .Add) (Hr λi j=>.int<|i+j):=zM λx x x x x x x q=>add_int q
def La:aF X (ň .Sub) (Hr λi j=>.int<|i-j):=zM λx x x x x x x q=>sub_int q
def HQ:aF X (ň .Mod) (rI (λx j=>j≠0) λi j=>.int<|i.fmod j):=CJ λx x x x x x x hc q=>mod_int' hc q
def Lb:aF X (ň .Pow) (rI Ec λi j=>.int<|i^j.toNat):=CJ λx x x x x x x hc q=>pow_int_small hc.1 hc.2.1 hc.2.2 q
def Lc:aF X (ň .LShift) (rI Ec λi j=>.int<|i*2^j.toNat):=CJ λx x x x x x x hc q=>lshift_int_small hc.1 hc.2.1 hc.2.2 q
def Ld:aF X (ň .RShift) (rI (λx j=>0<=j) λi j=>.int<|i/2^j.toNat):=CJ λi j x x x x x hc q=>
 rshift_int hc (by rw[rG i<|AV _];exact q)
def Le:aF X (ň .BitAnd) (Hr λi j=>.int<|eQ i j):=zM λx x x x x x x q=>and_int q
def unI{g:Int->Int}
 (rule:∀(i:Int) (t:Tok) (s:Ã) (Q:Á->Ã->Prop) (E:Á->Ã->Prop),Q (.int (g i) s.toks) {s with toks:=s.toks+1}->Ï (Ø X.prog X.w) X.A (f<|.int i t) Q E s):
 HN X f (rU λi=>.int<|g i):=by
 intro Å s c H x v Q I rx h;obtain⟨i,rfl,q⟩:=h;obtain⟨t,rfl⟩:=rx;exact rule i t s _ _ ⟨.int<|g i,H,I.tok _,⟨_,rfl⟩,q⟩
def Fi:HN X (unaryOp .USub) (rU λi=>.int<|-i):=unI λx x x x x q=>neg_int q
end
section
variable{X:Cx}{a b:Ç}{ta tb:TE}{pos:Pos}
def Fj{c:St}(I:Inv X Å c H s)(q:Q (.bl k) H)(e:k=k'):EP X Å c Q (.bool k') s:=by subst e;exact⟨.bl k,H,I,rfl,q⟩
def Ob:aF X (ĭ .Lt) (Hr λi j=>.bl<|decide<|i<j):=HP λx x x x x x x q=>lt_int q
def Oc:aF X (ĭ .LtE) (Hr λi j=>.bl<|decide<|i<=j):=HP λx x x x x x x q=>le_int q
def Od:aF X (ĭ .Gt) (Hr λi j=>.bl<|decide<|j<i):=HP λx x x x x x x q=>gt_int q
def Oe:aF X (ĭ .GtE) (Hr λi j=>.bl<|decide<|j<=i):=HP λx x x x x x x q=>ge_int q
def kg:aF X (ĭ .Is) (λx y H Q=>y=.non/\Q (.bl<|decide<|x=.non) H):=by
 intro Å s c H x y v u Q I rx ry h;obtain⟨rfl,q⟩:=h;cases ry;refine is_none_gen<|Fj I q ?_;cases x<;>first
  |(cases rx;rfl)
  |(obtain⟨t,rfl⟩:=rx;rfl)
def yr:aF X (ĭ .IsNot) (λx y H Q=>y=.non/\Q (.bl<|!decide (x=.non)) H):=by
 intro Å s c H x y v u Q I rx ry h;obtain⟨rfl,q⟩:=h;cases ry;refine isnot_none_gen<|Fj I q ?_;cases x<;>first
  |(cases rx;rfl)
  |(obtain⟨t,rfl⟩:=rx;rfl)
def aF.or(h:aF X f r)(h':aF X f r'):aF X f (λx y H Q=>r x y H Q\/r' x y H Q):=by
 intro Å s c H x y v u Q I rx ry q;rcases q with q|q
 ·exact h Å s c H x y v u Q I rx ry q
 ·exact h' Å s c H x y v u Q I rx ry q
def Ĳ(b:Ç){op:fU}(h:op≠.In:=by decide)(h2:op≠.NotIn:=by decide):lZ op b=false:=by
 have e1:(op==CmpOp.In)=false:=by cases op<;>first|rfl|exact absurd rfl h
 have e2:(op==CmpOp.NotIn)=false:=by cases op<;>first|rfl|exact absurd rfl h2
 cases b<;>simp[lZ,e1,e2]
def HR(ho:aF X (ĭ op) r)(ha:PE X a ta)(hb:PE X b tb)(hm:lZ op b=false):PE X (.Compare a [op] [b] pos) (JU r ta tb):=λÅ s c H Q I h=>wpAny_Compare1 (K7 ha hb I h λv u s2 x y H2 I2 rx ry q=>ho Å s2 c H2 x y v u Q I2 rx ry q) hm
def Lf(K:Î)(x:V)(H:Hp)(k:Bool):Prop:=
 match x with
 |.non=>k=false|.bl b=>k=b|.int i=>k=(i !=0)|.str y=>y.length<=sizeLine/\k=((y.length:Int) !=0)|.JS y=>y.size<=sizeLine/\k=((y.size:Int) !=0)|.ref p=>(∃xs,Ϧ K H p xs/\k=!xs.isEmpty)\/(∃xs,gj K H p xs/\k=!xs.isEmpty)\/∃aj,H p=some (.dK aj)/\k=!aj.isEmpty|_=>False
def AW{κ:Type}{aj:List (κ×V)}{vs:List (κ×Á)}(r:KV aj vs):(!vs.isEmpty)=!aj.isEmpty:=by cases r<;>rfl
def t_(r:Ō xs Ē):(!Ē.toArray.isEmpty)=!xs.isEmpty:=by cases r<;>simp
def qg:(sizeLine:Nat)<2^63:=by rw[eL];decide
def Lg:TU X (λx H Q=>∃k,Lf X.K x H k/\Q k H):=by
 intro Å s c H x v Q I rx h;obtain⟨k,e,q⟩:=h;have hl:=qg;have hs:sizeLine=16777216:=eL;cases x with
 |non=>cases rx;have e':k=false:=e;subst e';exact truthy_none ⟨H,I,q⟩|bl b=>cases rx;have e':k=b:=e;subst e';exact eM ⟨H,I,q⟩|int i=>obtain⟨t,rfl⟩:=rx;have e':k=(i !=0):=e;subst e';exact PySem.P.truthy_int ⟨H,I,q⟩|str y=>obtain⟨t,rfl⟩:=rx;obtain⟨hy,e'⟩:y.length<=sizeLine/\k=((y.length:Int) !=0):=e;subst e';exact PySem.P.truthy_str (by lia) ⟨H,I.tok _,q⟩|JS y=>obtain⟨t,rfl⟩:=rx;obtain⟨hy,e'⟩:y.size<=sizeLine/\k=((y.size:Int) !=0):=e;subst e';exact PySem.W.truthy_bytes (by lia) ⟨H,I.tok _,q⟩|ref p=>
  cases rx;have e':(∃xs,Ϧ X.K H p xs/\k=!xs.isEmpty)\/(∃xs,gj X.K H p xs/\k=!xs.isEmpty)\/∃aj,H p=some (.dK aj)/\k=!aj.isEmpty:=e;rcases e' with⟨xs,hx,e'⟩|⟨xs,hx,e'⟩|⟨aj,hx,e'⟩
  ·subst e';obtain⟨Ē,r,pl,hz⟩:=I.list hx;have hlen:=r.length;exact wpAny_truthy_list pl.isList (by simp only[Ģ];lia) ⟨H,I.tok _,by rw[t_ r];exact q⟩
  ·subst e';obtain⟨Ē,r,pl,hz⟩:=I.tuple hx;have hlen:=r.length;exact truthy_tuple pl (by simp only[Ģ];lia) ⟨H,I.tok _,by rw[t_ r];exact q⟩
  ·subst e';obtain⟨hz,hS,vs,r,m⟩:aj.length<=sizeLine/\(p==oC)=false/\∃vs,KV aj vs/\s.heap.DictOf (yj X.prog X.w) p vs:=I.hok p _ hx;have hlen:aj.length=vs.length:=Paired.length r;exact wpAny_truthy_dict hS m (by lia) ⟨H,I.tok _,by rw[AW r];exact q⟩
 |_=>exact(show False from e).elim
def Fk(ha:PE X a ta)(he:∀whole,isTrue a X.env whole=(do let v<-whole;de a.pos;ϖ [v] (truthy v))):
 PT X a (λc H Q=>ta c H λx H'=>∃k,Lf X.K x H' k/\Q k H'):=by
 intro Å s c H Q I h;exact isTrue_plain (ώ (ha Å s c H _ I h) λv s1 ⟨x,H1,I1,r1,q1⟩=>Lg Å s1 c H1 x v Q I1 r1 q1)<|he _
def AX:aF X (ň .Add) (λx y H Q=>∃i j,x=.str i/\y=.str j/\i.length+j.length<=sizeLine/\Q (.str<|i++j) H):=by intro Å s c H x y v u Q I rx ry h;obtain⟨i,j,rfl,rfl,hz,q⟩:=h;obtain⟨t,rfl⟩:=rx;obtain⟨t',rfl⟩:=ry;exact add_str (λt' tk=>⟨.str<|i++j,H,I.tok _,⟨_,rfl⟩,q⟩) hz
def vals1(r:Ō [x] us):∃u,us=[u]/\RelV x u:=by
 cases r with
 |cons r1 r2=>cases r2;exact⟨_,rfl,r1⟩
def vals2(r:Ō [x,y] us):∃u w',us=[u,w']/\RelV x u/\RelV y w':=by
 cases r with
 |cons r1 r2=>
  cases r2 with
  |cons r3 r4=>cases r4;exact⟨_,_,rfl,r1,r3⟩
def Fm:Ř X (.builtin "abs") (λxs H Q=>∃i,xs=[.int i]/\Q (.int<|if i<0then -i else i) H):=by intro Å s c H xs us Q I r h;obtain⟨i,rfl,q⟩:=h;obtain⟨u,rfl,t,rfl⟩:=vals1 r;exact call_abs_int λu tk=>⟨.int<|if i<0then -i else i,H,I.tok _,⟨_,rfl⟩,q⟩
def Ed(hc:X.calm=true):Ř X (.builtin "max") (λxs H Q=>∃i j,xs=[.int i,.int j]/\Q (.int<|if j>i then j else i) H):=by
 intro Å s c H xs us Q I r h;obtain⟨i,j,rfl,q⟩:=h;obtain⟨u,w',rfl,⟨t,rfl⟩,⟨t',rfl⟩⟩:=vals2 r;refine max_two_ints (I.ok.hd hc) λh' tk k=>⟨_,H,I.kept k,?_,q⟩;by_cases hj:j>i
 ·rw[if_pos hj,if_pos hj];exact⟨_,rfl⟩
 ·rw[if_neg hj,if_neg hj];exact⟨_,rfl⟩
def Ee(hc:X.calm=true):Ř X (.builtin "min") (λxs H Q=>∃i j,xs=[.int i,.int j]/\Q (.int<|if j<i then j else i) H):=by
 intro Å s c H xs us Q I r h;obtain⟨i,j,rfl,q⟩:=h;obtain⟨u,w',rfl,⟨t,rfl⟩,⟨t',rfl⟩⟩:=vals2 r;refine min_two_ints (I.ok.hd hc) λh' tk k=>⟨_,H,I.kept k,?_,q⟩;by_cases hj:j<i
 ·rw[if_pos hj,if_pos hj];exact⟨_,rfl⟩
 ·rw[if_neg hj,if_neg hj];exact⟨_,rfl⟩
def Ef:Ř X (.type "int") (λxs H Q=>(∃i,xs=[.int i]/\Q (.int i) H)\/∃k,xs=[.bl k]/\Q (.int<|if k then 1 else 0) H):=by
 intro Å s c H xs us Q I r h;rcases h with⟨i,rfl,q⟩|⟨k,rfl,q⟩
 ·obtain⟨u,rfl,t,rfl⟩:=vals1 r;exact call_int_int ⟨.int i,H,I,⟨_,rfl⟩,q⟩
 ·obtain⟨u,rfl,r1⟩:=vals1 r;cases r1;exact call_int_bool ⟨.int<|if k then 1 else 0,H,I.tok _,⟨_,rfl⟩,q⟩
def yu:Ř X (.type "str") (λxs H Q=>∃i,xs=[.int i]/\i.natAbs.log2<1920/\Q (.str<|bJ i) H):=by intro Å s c H xs us Q I r h;obtain⟨i,rfl,hz,q⟩:=h;obtain⟨u,rfl,t,rfl⟩:=vals1 r;exact PySem.P.str_of_int hz ⟨.str _,H,I.tok _,⟨_,rfl⟩,q⟩
def TY(K:Î)(x:V)(H:Hp)(n:Nat):Prop:=
 match x with
 |.str y=>y.length<=sizeLine/\n=y.length|.JS y=>y.size<=sizeLine/\n=y.size|.ref p=>(∃xs,Ϧ K H p xs/\n=xs.length)\/∃xs,gj K H p xs/\n=xs.length|_=>False
def Fn:Ř X (.builtin "len") (λxs H Q=>∃x n,xs=[x]/\TY X.K x H n/\Q (.int n) H):=by
 intro Å s c H xs us Q I r h;obtain⟨x,n,rfl,e,q⟩:=h;obtain⟨u,rfl,rx⟩:=vals1 r;have hl:=qg;have hs:sizeLine=16777216:=eL;cases x with
 |str y=>obtain⟨t,rfl⟩:=rx;obtain⟨hy,e'⟩:y.length<=sizeLine/\n=y.length:=e;subst e';exact len_str (by lia) ⟨.int _,H,I.tok _,⟨_,rfl⟩,q⟩|JS y=>obtain⟨t,rfl⟩:=rx;obtain⟨hy,e'⟩:y.size<=sizeLine/\n=y.size:=e;subst e';exact PySem.W.len_bytes (by lia) ⟨.int _,H,I.tok _,⟨_,rfl⟩,q⟩|ref p=>
  cases rx;have e':(∃xs,Ϧ X.K H p xs/\n=xs.length)\/∃xs,gj X.K H p xs/\n=xs.length:=e;rcases e' with⟨xs,hx,e'⟩|⟨xs,hx,e'⟩
  ·subst e';obtain⟨Ē,r',pl,hz⟩:=I.list hx;have hlen:=r'.length;exact Calls.call_len_list pl.isList (by simp only[Ģ];lia) ⟨.int xs.length,H,I.tok _,⟨_,by simp only[Ģ];rw[hlen]⟩,q⟩
  ·subst e';obtain⟨Ē,r',pl,hz⟩:=I.tuple hx;have hlen:=r'.length;exact len_tuple pl (by simp only[Ģ];lia) ⟨.int xs.length,H,I.tok _,⟨_,by simp only[Ģ];rw[hlen]⟩,q⟩
 |_=>exact(show False from e).elim
def zN:Ř X (.builtin "divmod") (λxs H Q=>∃i j,xs=[.int i,.int j]/\Oa i j/\∀p,H p=none->Q (.ref p) (upd H p<|.tup [.int<|i/j,.int<|i%j])):=by intro Å s c H xs us Q I r h;obtain⟨i,j,rfl,⟨h1,h2⟩,q⟩:=h;obtain⟨u,w',rfl,⟨t,rfl⟩,⟨t',rfl⟩⟩:=vals2 r;refine divmod_int (by lia) ?_ (.inl<|PyProof.noPylong_small<|by lia);rw[rG i (by lia),wW i<|by lia];have hn:H s.heap.objs.size=none:=I.hok.fresh<|ö _;refine⟨.ref s.heap.objs.size,_,?_,rfl,q _ hn⟩;refine I.laid (λb o e=>ø _ e) (ö _) ⟨by simp only[ĝ,xa];rw[eL];decide,[.int (i/j) s.toks,.int (i%j)<|s.toks+1],.cons ⟨_,rfl⟩<|.cons ⟨_,rfl⟩ .nil,?_⟩;exact⟨_,Ĥ s.heap rfl,rfl,0,rfl⟩
end
structure AY(h:Ò)(x dx C:À)(mA:Str->Option Á):Prop where
 obj:h.get? x=some (fX C dx)
 ns:h.Ns1 dx mA
 ne:dx≠x
set_option tactic.hygienic true in
def Eg{h:Ò}(n:h.Ns1 dx mA):∃od,h.get? dx=some od/\∀name,sQ name od=some (mA name):=by
 obtain⟨o,es,ep,ho,hd,hk,_,hm⟩:=n;refine⟨o,ho,λname=>?_⟩;have e:=hm name;unfold nsFind findBy at e;rw[<-Array.find?_toList]at e;unfold sQ;rw[hd];dsimp only;split
 ·rename_i y q;rw[q]at e;exact congrArg some e
 ·rename_i q;rw[q]at e;have a:es.toList.any (·.refKey)=false:=by
   rw[List.any_eq_false];intro y hy;obtain⟨z,t,W1⟩:=hk y<|Array.mem_toList_iff.mp hy;simp[DictEntry.refKey,W1]
  have a':¬es.toList.any (·.refKey)=true:=by rw[a];exact bE
  rw[if_neg a'];exact congrArg some e
def AY.look(I:AY h x dx C mA):∃od,PySem.W.InstAt h x (fX C dx) C (some od)/\∀name,sQ name od=some (mA name):=
 let ⟨od,ho,hl⟩:=Eg I.ns
 ⟨od,⟨I.obj,rfl,rfl,ho⟩,hl⟩
section
variable{prog:ë}{w:â}{A:ê}{E:Á->Ã->Prop}{s:Ã}{K:Î}{x dx C f:À}{mA:Str->Option Á}{name:Str}{v:Á}
def JF(X:K.In s.heap)(I:AY s.heap x dx C mA)(hg:oQ K C name=true)(hh:sR K C=true)
 (ha:ů K (.ref C) name=some none)(hv:mA name=some v)(BM:Cz v=true)(h:Q v {s with toks:=s.toks+1}):
 Ï (Ø prog w) A (getAttr (.ref x) name expr) Q E s:=by
 obtain⟨od,J,hl⟩:=I.look;exact PySem.W.get_value X J (x_ hg).1 (PySem.W.findObj_own hh ha rfl<|by rw[hl,hv]) BM h
def Fo(X:K.In s.heap)(I:AY s.heap x dx C mA)(hg:oQ K C name=true)
 (hf:ů K (.ref C) name=some (some<|.ref f))(ht:oR K (.ref f)=true)(hv:mA name=none)(h:Q (.ref f,[.ref x]) s):
 Ï (Ø prog w) A (ib (.ref x) name pl) Q E s:=by
 obtain⟨od,J,hl⟩:=I.look;exact PySem.W.method_fn X J (x_ hg).1 (x_ hg).2 hf (beq_iff_eq.mp ht) (by show(sQ name od).map (·.isSome)=some false;rw[hl,hv];rfl) h
def HS(X:K.In s.heap)(I:AY s.heap x dx C mA)
 (hs:ů K (.ref C) "__setattr__"=some (some<|.builtin "object.__setattr__"))(hp:ya K C=true)(ht:yb K C name=some none)(hh:sR K C=true)
 (hw:xB mA ns)(kW:ns.length<=sizeLine)
 (h:∀h',AY h' x dx C (λy=>if y=name then some v else mA y)->ŧ dx s.heap h'->Q () {s with heap:=h',toks:=s.toks+2}):
 Ï (Ø prog w) A (setAttr (.ref x) name v) Q E s:=by
 obtain⟨od,J,hl⟩:=I.look;refine PySem.W.set_plain X J hs<|PySem.W.osa_open (s:={s with toks:=s.toks+1}) (r:=none) X J hp ht λb=>?_;obtain⟨cd,hc,MX⟩:=PySem.W.any_some hh;have hx:s.heap.get? x=some ⟨.ref C,some dx,.plain,#[]⟩:=I.obj;refine Ñ<|Ą<|Ñ<|Ñ<|wpAny_loadPart hx<|Ñ<|PySem.W.Looks.here (s:={s with toks:=s.toks+1}) (PySem.W.looks_clsIn X hc) ?_;rw[MX];refine Ą (a:=some dx)<|Ñ<|Ą<|Ñ ?_;refine wpAny_nsSet1 (s:={s with toks:=s.toks+1}) I.ns λh' Tk uY=>?_;obtain⟨oD,esD,epD,hoD,hdD,hcD⟩:=Tk.count<|PySem.Within.cons name v hw;refine Ñ (wpAny_lookBehind hoD (by rw[hdD];exact pastItsLine_dict<|Ţ hcD (by rw[ĝ];lia)) ?_);exact Ą<|h _ ⟨(uY.2 _<|Ė I.ne).trans I.obj,Tk,I.ne⟩ uY
def Fp(X:K.In s.heap)(hm:yc K C=true)
 (hi:ů K (.ref C) "__init__"=some (some<|.ref f))(hf:PySem.W.typeIn K (.ref f)=some (.type "function"))
 (h:dg (Ø prog w) (A.under<|.builtin "type.__call__" ⟨.ref C::vs,kw⟩) (.call (.ref f) ⟨.ref (s.heap.objs.size+1)::vs,kw⟩) (PySem.W.InitBack (s.heap.objs.size+1) R)
   {s with heap:=(s.heap.push eU).push (fX C s.heap.objs.size)}):
 dg (Ø prog w) A (.call (.ref C) ⟨vs,kw⟩) R s:=by
 obtain⟨hh,g,d,t,os⟩:=s;exact PySem.W.make_core (PySem.W.makes_of X hm) (PySem.W.looks_findIn X hi) (λself=>PySem.W.bind_fn X self hf) (.inl rfl) h
end
noncomputable def kh(f:Str)(v:V):List (Str×V)->List (Str×V)
 |[]=>[(f,v)]|(g,x)::r=>if g=f then(g,v)::r else(g,x)::kh f v r
theorem qJ(f g:Str)(v:V):∀fs:List (Str×V),(kh f v fs).lookup g=if g=f then some v else fs.lookup g
 |[]=>by
   show eC g [(f,v)]=_;by_cases h:g=f
   ·have hb:(g==f)=true:=beq_iff_eq.mpr h;simp only[eC,hb,if_pos h]
   ·have hb:(g==f)=false:=beq_eq_false_iff_ne.mpr h;simp only[eC,hb,if_neg h]
 |(k,x)::r=>by
  have ih:=qJ f g v r;rw[show kh f v ((k,x)::r)=(if k=f then(k,v)::r else(k,x)::kh f v r)from rfl];by_cases hk:k=f
  ·rw[if_pos hk];by_cases h:g=k
   ·have hb:(g==k)=true:=beq_iff_eq.mpr h;simp only[eC,hb,if_pos<|h.trans hk]
   ·have hb:(g==k)=false:=beq_eq_false_iff_ne.mpr h;simp only[eC,hb,if_neg (λe:g=f=>h<|e.trans hk.symm)]
  ·rw[if_neg hk];by_cases h:g=k
   ·have hb:(g==k)=true:=beq_iff_eq.mpr h;simp only[eC,hb,if_neg (λe:g=f=>hk<|h.symm.trans e)]
   ·have hb:(g==k)=false:=beq_eq_false_iff_ne.mpr h;simp only[eC,hb];exact ih
theorem qh(f:Str)(v:V):∀fs:List (Str×V),f∈(kh f v fs).map (·.1)/\∀g,g∈fs.map (·.1)->g∈(kh f v fs).map (·.1)
 |[]=>⟨by simp[kh],λg h=>by simp at h⟩
 |(k,x)::r=>by
  obtain⟨i1,i2⟩:=qh f v r;rw[show kh f v ((k,x)::r)=(if k=f then(k,v)::r else(k,x)::kh f v r)from rfl];by_cases hk:k=f
  ·rw[if_pos hk];subst hk;exact⟨by simp,λg h=>by simpa using h⟩
  ·rw[if_neg hk];refine⟨?_,λg h=>?_⟩
   ·rw[à];exact þ _ i1
   ·rw[à]at h⊢;rcases û.mp h with e|e
    ·exact û.mpr<|.inl e
    ·exact þ _<|i2 g e
theorem qK(f:Str)(v:V):∀fs:List (Str×V),(kh f v fs).length<=fs.length+1
 |[]=>by simp[kh]|(k,x)::r=>by
  have ih:=qK f v r;rw[show kh f v ((k,x)::r)=(if k=f then(k,v)::r else(k,x)::kh f v r)from rfl];by_cases hk:k=f
  ·rw[if_pos hk,ĝ,ĝ];lia
  ·rw[if_neg hk,ĝ,ĝ];lia
def vi.some_of(r:vi (some v) o):∃u,o=some u/\RelV v u:=by
 cases o with
 |none=>exact(show False from r).elim|some u=>exact⟨u,rfl,r⟩
def vi.none_of(r:vi none o):o=none:=by
 cases o with
 |none=>rfl|some u=>exact(show False from r).elim
def Eh(r:RelV v u):Cz u=true:=by
 cases v with
 |non=>cases(show u=Value.none from r);rfl|bl b=>cases(show u=eS b from r);rfl|int i=>obtain⟨t,e⟩:=(show ∃t,u=mJ i t from r);cases e;rfl|str x=>obtain⟨t,e⟩:=(show ∃t,u=mK x t from r);cases e;rfl|JS b=>obtain⟨t,e⟩:=(show ∃t,u=Value.bytes b t from r);cases e;rfl|flt b=>obtain⟨t,e⟩:=(show ∃t,u=xW b t from r);cases e;rfl|ref a=>cases(show u=Ń a from r);rfl|ty n=>cases(show u=xX n from r);rfl
section
variable{P:ë}{w:â}{H:Hp}{h:Ò}{a C dx:À}{fs:List (Str×V)}
def sY(hok:oh P w H h)(e:H a=some (.ins C dx fs)):∃mA,AY h a dx C mA/\(∀f,vi (fs.lookup f)<|mA f)/\xB mA (fs.map (·.1))/\fs.length<=1000/\H dx=some (.own a):=by obtain⟨d,z,ne,ob,mA,n,r,q⟩:=(show cM P w H h a (.ins C dx fs)from hok a _ e);exact⟨mA,⟨ob,n,ne⟩,r,q,z,d⟩
end
structure zu(K:Î)(C:À):Prop where
 pg:oQ K C Str.empty=true
 hd:sR K C=true
 po:ya K C=true
 sa:ů K (.ref C) "__setattr__"=some (some<|.builtin "object.__setattr__")
def zu.get{K:Î}(c:zu K C)(f:Str):oQ K C f=true:=c.pg
def fw(K:Î)(C:À)(f:Str):Prop:=ů K (.ref C) f=some none
def fw.taker{K:Î}(n:fw K C f):yb K C f=some none:=by unfold yb;rw[show ů K (.ref C) f=some none from n];rfl
structure zw(K:Î)(C:À)(m:Str)(f:À):Prop where
 at_:ů K (.ref C) m=some (some<|.ref f)
 fn:oR K (.ref f)=true
 kp:ϫ K (.ref f)=true
section
variable{X:Cx}{Å:List (À×Obj)}{σ:St}{H:Hp}{s:Ã}{a C dx:À}{fs:List (Str×V)}{f:Str}{v:V}{A:ê}{E:Á->Ã->Prop}
def AZ(I:Inv X Å σ H s)(e:H a=some (.ins C dx fs))(c:zu X.K C)(n:fw X.K C f)(l:fs.lookup f=some v)
 (h:∀u s',Inv X Å σ H s'->RelV v u->Q u s'):Ï (Ø X.prog X.w) A (getAttr (.ref a) f b) Q E s:=by
 obtain⟨mA,O,r,_,_,_⟩:=sY I.hok e;obtain⟨u,hu,ru⟩:=vi.some_of (v:=v) (o:=mA f) (by rw[<-l];exact r f);exact JF I.nj O (c.get f) c.hd n hu (Eh ru)<|h u _ (I.tok _) ru
def nJ(I:Inv X Å σ H s)(e:H a=some (.ins C dx fs))(c:zu X.K C)(k:zw X.K C m g)(l:fs.lookup m=none)
 (h:Q (.ref g,[.ref a]) s):Ï (Ø X.prog X.w) A (ib (.ref a) m pl) Q E s:=by
 obtain⟨mA,O,r,_,_,_⟩:=sY I.hok e;have hn:mA m=none:=vi.none_of (by rw[<-l];exact r m);exact Fo I.nj O (c.get m) k.at_ k.fn hn h
def A_(I:Inv X Å σ H s)(e:H a=some (.ins C dx fs))(c:zu X.K C)(n:fw X.K C f)(hl:fs.length<1000)(ry:RelV y u)
 (h:∀s',Inv X Å σ (upd H a<|.ins C dx<|kh f y fs) s'->Q () s'):Ï (Ø X.prog X.w) A (setAttr (.ref a) f u) Q E s:=by
 obtain⟨mA,O,r,wi,_,ho⟩:=sY I.hok e;have hz:(fs.map (·.1)).length<=sizeLine:=by rw[Ğ,eL];lia
 refine HS I.nj O c.sa c.po n.taker c.hd wi hz λh' O' sb=>h _ ?_;have hd:∃o,h'.get? dx=some o:=let ⟨o,_,_,e',_⟩:=O'.ns;⟨o,e'⟩;refine I.write (x:=a) (e:=dx) (by rw[e];exact True.intro) (.inr ho) (λb q hb z=>(sb.2 b hb).trans z) hd ?_;refine⟨by rw[ñ O.ne];exact ho,?_,O.ne,O'.obj,_,O'.ns,λg=>?_,λg hg=>?_⟩
 ·have:=qK f y fs;lia
 ·show vi ((kh f y fs).lookup g) (if g=f then some u else mA g);rw[qJ];by_cases q:g=f
  ·rw[if_pos q,if_pos q];exact ry
  ·rw[if_neg q,if_neg q];exact r g
 ·by_cases q:g=f
  ·rw[q];exact(qh f y fs).1
  ·refine(qh f y fs).2 g (wi g λz=>hg ?_);show(if g=f then some u else mA g)=none;rw[if_neg q];exact z
def Inv.made(I:Inv X Å σ H s):Inv X Å σ (upd (upd H s.heap.objs.size<|.own<|s.heap.objs.size+1) (s.heap.objs.size+1)<|.ins C s.heap.objs.size [])
 {s with heap:=(s.heap.push eU).push (fX C s.heap.objs.size)}:=by
 have e1:(s.heap.push eU).get? s.heap.objs.size=some eU:=Ĥ s.heap rfl;have e2:((s.heap.push eU).push (fX C s.heap.objs.size)).get? (s.heap.objs.size+1)=some (fX C s.heap.objs.size):=by
  have:=Ĥ (s.heap.push eU) (o:=fX C s.heap.objs.size) rfl
  rwa [Ϫ]at this
 have e3:(s.heap.push eU).Ns s.heap.objs.size (λx=>none):=⟨eU,#[],_,e1,rfl,(λe he=>absurd he<|by simp),λx=>rfl⟩;have I1:=I.laid (a:=s.heap.objs.size) (o:=.own<|s.heap.objs.size+1) (h':=s.heap.push eU) (t':=s.toks) (λb u q=>ø _ q) (ö _) ⟨_,e1⟩;refine I1.laid (a:=s.heap.objs.size+1) (o:=.ins C s.heap.objs.size []) (t':=s.toks) (λb u q=>ø _ q) (rY<|Ϫ _ _) ?_;have ne:s.heap.objs.size≠s.heap.objs.size+1:=İ<|rZ _;refine⟨by rw[ñ ne,Ā],da _,ne,e2,λx=>none,(Heap.Ns1.of_empty e3).at λo q=>ø _ q,λx=>True.intro,λy hy=>absurd rfl hy⟩
def HU(hb:eN e f env (eval e env)=eval e env)
 (h:Ï (Ø prog w) A (eval e env) (λo s₁=>Ï (Ø prog w) A (getAttr o f true) Q E s₁) E s):Ï (Ø prog w) A (eval (.Attribute e f pos) env) Q E s:=
 Attribute_any_ h (by rw[arm_eval_Attribute,hb])
end
def TZ(K:Î)(ta:TE)(f:Str):TE:=λb H Q=>ta b H λx H1=>∃a C dx fs v,x=.ref a/\H1 a=some (.ins C dx fs)/\zu K C/\fw K C f/\fs.lookup f=some v/\Q v H1
def T_(K:Î)(ta tv:TE)(f:Str):TS:=λD b H=>tv b H λy H1=>ta b H1 λx H2=>∃a C dx fs,x=.ref a/\H2 a=some (.ins C dx fs)/\zu K C/\fw K C f/\fs.length<1000/\
 D.nx b (upd H2 a<|.ins C dx<|kh f y fs)
section
variable{X:Cx}{o e value:Ç}{f:Str}{pos bh:Pos}{ta tv:TE}
def Li(he:PE X e ta)(hb:eN e f X.env (eval e X.env)=eval e X.env):PE X (.Attribute e f pos) (TZ X.K ta f):=by intro Å s b H Q I h;refine HU hb<|ώ (he Å s b H _ I h) λu s1 zz=>?_;obtain⟨x,H1,I1,rx,a,C,dx,fs,v,ex,ea,c,n,l,q⟩:=zz;subst ex;obtain rfl:u=Ń a:=rx;exact AZ I1 ea c n l λu' s2 I2 ru=>⟨v,H1,I2,ru,q⟩
def Lj(ha:PE X o ta)(hv:PE X value tv)(hs:Ŗ value (some<|.Attribute o f bh) pos.line X.env=î false):PS X (.Assign [.Attribute o f bh] value pos) (T_ X.K ta tv f):=by intro Å s b H D I h;refine plainObj_wpAny_Assign_Attribute (ώ (hv Å s b H _ I h) λu s1 ⟨y,H1,I1,ry,q⟩=>ώ (ha Å s1 b H1 _ I1 q) λov s2 zz=>?_) hs;obtain⟨x,H2,I2,rx,a,C,dx,fs,ex,ea,c,n,l,q2⟩:=zz;subst ex;obtain rfl:ov=Ń a:=rx;exact A_ I2 ea c n l ry λs3 I3=>⟨b,_,I3,q2⟩
end
section
variable{X:Cx}{Å:List (À×Obj)}{σ:St}{H:Hp}{s:Ã}{A:ê}{E:Á->Ã->Prop}{Q:Á->Ã->Prop}{c:Á}{b:Bool}
inductive qi(K:Î)(H:Hp):V->Á->Prop where
 |non:qi K H .non (.type "NoneType")
 |bl (x:Bool):qi K H (.bl x) (.type "bool")
 |int (i:Int):qi K H (.int i) (.type "int")
 |str (x:Str):qi K H (.str x) (.type "str")
 |flt (x:UInt64):qi K H (.flt x) (.type "float")
 |lst {a:À}{xs:List V} (e:H a=some (.lst xs)):qi K H (.ref a) (.type "list")
 |fg {a:À}{o:Obj}{xs:List V} (e:H a=some (.fg o<|.lst xs)):qi K H (.ref a) (.type "list")
 |tup {a:À}{xs:List V} (e:H a=some (.tup xs)):qi K H (.ref a) (.type "tuple")
 |dK {a:À}{aj:List (Key×V)} (e:H a=some (.dK aj)):qi K H (.ref a) (.type "dict")
 |dT {a:À}{aj:List (List Key×V)} (e:H a=some (.dT aj)):qi K H (.ref a) (.type "dict")
 |ins {a C dx:À}{fs:List (Str×V)} (e:H a=some (.ins C dx fs)) (cl:zu K C) (ha:ů K (.ref C) "__class__"=some (some<|.builtin "object.__class__"))
   (hn:PySem.W.specialIn K (.builtin "object.__class__") "__get__"=some (some<|.builtin "getset_descriptor.__get__")) (htk:PySem.W.takesIn K (.builtin "object.__class__")=some true)
   (hm:PySem.W.mroIn K C (.type "object")=some true):qi K H (.ref a) (.ref C)
def jh(I:Inv X Å σ H s)(rx:RelV x u)(ty:qi X.K H x t)(e:oS X.K t c=some b)(h:∀tk,Q (.bool b) {s with toks:=tk}):
 Ï (Ø X.prog X.w) A (call (.builtin "isinstance") [u,c]) Q E s:=by
 cases ty with
 |non=>cases(show u=Value.none from rx);exact bI PySem.W.kitx_none I.nj True.intro e (λz=>nomatch z) h
 |bl y=>cases(show u=eS y from rx);exact bI PySem.W.kitx_bool I.nj True.intro e (λz=>nomatch z) h
 |int i=>obtain⟨t,q⟩:=(show ∃t,u=mJ i t from rx);cases q;exact bI PySem.W.kitx_int I.nj True.intro e (λz=>nomatch z) h
 |str y=>obtain⟨t,q⟩:=(show ∃t,u=mK y t from rx);cases q;exact bI PySem.W.kitx_str I.nj True.intro e (λz=>nomatch z) h
 |flt y=>obtain⟨t,q⟩:=(show ∃t,u=xW y t from rx);cases q;exact bI PySem.W.kitx_float I.nj True.intro e (λz=>nomatch z) h
 |@lst a xs ea=>cases(show u=Ń a from rx);obtain⟨_,_,n,_,h1⟩:=(show cM X.prog X.w H s.heap a (.lst xs)from I.hok a _ ea);exact bI yf I.nj ⟨_,h1,rfl⟩ e (λz=>nomatch z) h
 |@fg a ob xs ea=>cases(show u=Ń a from rx);obtain⟨_,_,_,n,_,h1⟩:=(show cM X.prog X.w H s.heap a (.fg ob<|.lst xs)from I.hok a _ ea);exact bI yf I.nj ⟨_,h1,rfl⟩ e (λz=>nomatch z) h
 |@tup a xs ea=>cases(show u=Ń a from rx);obtain⟨_,_,_,p⟩:=(show cM X.prog X.w H s.heap a (.tup xs)from I.hok a _ ea);obtain⟨o,h1,h2,_⟩:=p;exact bI CA I.nj ⟨o,h1,h2⟩ e (λz=>nomatch z) h
 |@dK a aj ea=>cases(show u=Ń a from rx);obtain⟨_,_,vs,_,p⟩:=(show cM X.prog X.w H s.heap a (.dK aj)from I.hok a _ ea);obtain⟨o,es,ep,h1,h2,_⟩:=p;exact bI CB I.nj ⟨o,h1,h2.1⟩ e (λz=>nomatch z) h
 |@dT a aj ea=>cases(show u=Ń a from rx);obtain⟨_,_,xs,_,o,es,ep,h1,h2,_⟩:=(show cM X.prog X.w H s.heap a (.dT aj)from I.hok a _ ea);exact bI CB I.nj ⟨o,h1,h2.1⟩ e (λz=>nomatch z) h
 |@ins a C dx fs ea cl ha hn htk hm=>cases(show u=Ń a from rx);obtain⟨mA,O,_⟩:=sY I.hok ea;obtain⟨od,J,_⟩:=O.look;exact bI (PySem.W.kitx_own (cl.get _) cl.hd ha hn htk hm) I.nj J e (λz=>nomatch z) h
end
structure ő(k:Nat)(A:ê):Prop where
 hd:A.handled=none
 dp:A.depth+3*k+5<su
 un:A.units+16*k+200<ż
def ő.mono(r:ő k A)(h:j<=k):ő j A:=⟨r.hd,by have:=r.dp;lia,by have:=r.un;lia⟩
theorem ő.deeper(r:ő (k+1) A)(env:Env):ő k (A.deeper env):=
 ⟨r.hd,by have:=r.dp;show A.depth+1+3*k+5<_;lia,by have:=r.un;show A.units+3+16*k+200<_;lia⟩
theorem ő.in1(r:ő (k+1) A):ő k A.in1:=
 ⟨r.hd,by have:=r.dp;show A.depth+3*k+5<_;lia,by have:=r.un;show A.units+1+16*k+200<_;lia⟩
def A0{A:ê}:(A.under<|.builtin "type.__call__" ⟨.ref C::us,kw⟩).depth=A.depth+1:=by first|rfl|simp[xK,Code.weight,Code.isCreation,Code.isGuard,Code.isCaller,Code.frames,xN,guardIds]
def A1{A:ê}:(A.under<|.builtin "type.__call__" ⟨.ref C::us,kw⟩).units=A.units+1:=by first|rfl|simp[xK,Code.cUnits,Code.frames,xN]
def ő.make(r:ő (k+1) A)(C:À)(us:List Á)(kw:List (Str×Á)):ő k (A.under<|.builtin "type.__call__" ⟨.ref C::us,kw⟩):=
 ⟨r.hd,by have:=r.dp;rw[A0];lia,by have:=r.un;rw[A1];lia⟩
theorem ő.depth(r:ő k A):A.depth<su:=by have:=r.dp;lia
theorem ő.units(r:ő k A):A.units+64<ż:=by have:=r.un;lia
def Fq:TA:=λx H Q=>Q [] H
def Fs(ta:TE)(tr:TA):TA:=λa H Q=>ta a H λx H1=>tr a H1 λxs H2=>Q (x::xs) H2
section
variable{X:Cx}{e:Ç}{es:List Ç}{te:TE}{t:TA}{pos:Pos}
def cG:PA X [] Fq:=λx x x x H Q I h=>Calls.spliced_nil ⟨[],H,I,.nil,h⟩
def ϭ(ha:PE X e te)(hr:PA X es t)(hs:Ð (e::es) X.env=(false,eval e X.env)::Ð es X.env:=by rfl):PA X (e::es) (Fs te t):=by intro pos Å s a H Q I h;rw[hs];show Ï _ _ (spliced ((false,eval e X.env)::ÿ pos (Ð es X.env))) _ _ s;refine Calls.spliced_cons<|ώ (ha Å s a H _ I h) λu s1 zz=>?_;obtain⟨x,H1,I1,r1,q1⟩:=zz;exact ώ (hr pos Å s1 a H1 _ I1 q1) λus s2 ⟨xs,H2,I2,r2,q2⟩=>⟨x::xs,H2,I2,.cons r1 r2,q2⟩
def T1(t:TA):TE:=λa H Q=>t a H λxs H1=>xs.length<=sizeLine/\∀p,H1 p=none->Q (.ref p) (upd H1 p<|.tup xs)
def Lk(t:TA):TE:=λa H Q=>t a H λxs H1=>xs.length<=sizeLine/\∀p,H1 p=none->Q (.ref p) (upd H1 p<|.lst xs)
def Ft{x1}(h:PA X es t):PE X (.Tuple es x1 pos) (T1 t):=by intro Å s a H Q I hq;refine wpAny_Tuple_spliced (ώ (h pos Å s a H _ I hq) λus s1 ⟨xs,H1,I1,r,z,q⟩=>⟨by rw[<-r.length];exact z,?_⟩);have hf:H1 s1.heap.objs.size=none:=I1.hok.fresh<|ö _;refine⟨.ref s1.heap.objs.size,upd H1 s1.heap.objs.size<|.tup xs,I1.laid (t':=s1.toks) (λb u e=>ø _ e) (ö _) ?_,rfl,q _ hf⟩;exact⟨z,us,r,⟨_,Ĥ _ rfl,rfl,_,rfl⟩⟩
def A2(h:PA X es t):PE X (.List es pos) (Lk t):=by intro Å s a H Q I hq;refine wpAny_List_spliced (ώ (h pos Å s a H _ I hq) λus s1 ⟨xs,H1,I1,r,z,q⟩=>⟨by rw[<-r.length];exact z,?_⟩);have hf:H1 s1.heap.objs.size=none:=I1.hok.fresh<|ö _;refine⟨.ref s1.heap.objs.size,upd H1 s1.heap.objs.size<|.lst xs,I1.laid (t':=s1.toks) (λb u e=>ø _ e) (ö _) ?_,rfl,q _ hf⟩;exact⟨z,us,0,r,Ĥ _ rfl⟩
end
abbrev Sp:=List V->Hp->VK->XK->Prop
abbrev iy:=List Env->Hp->Ã->XK->Á->Ã->Prop
structure zO(P:ë)(w:â)(K:Î)(mg:Str->Option Á)(base:Ò)(A:ê)(outer:List Env)(s:Ã)(H:Hp):Prop where
 frames:A.frames=some outer
 mod:Mod K mg base
 bs:∀b o,base.get? b=some o->s.heap.get? b=some o/\H b=none
 EY:base.objs.size<=s.heap.objs.size
 oW:s.heap.FunFrames base outer
 HK:∀b∈G8 outer,H b=none
 hok:oh P w H s.heap
 bare:fQ s.gens
 tb:zt K mg base H
def CE(outer:List Env)(P:ë)(w:â)(H:Hp)(s:Ã)(Q:VK)(u:Á)(s':Ã):Prop:=
 ∃v H',s'.os=s.os/\fQ s'.gens/\Un (G8 outer) [] H H' s.heap s'.heap/\oh P w H' s'.heap/\RelV v u/\Q v H'
def CR(CX:iy)(outer:List Env)(P:ë)(w:â)(H:Hp)(s:Ã)(Q:VK)(E:XK)(r:Result)(s':Ã):Prop:=
 match r with
 |.ok (.ret u)=>CE outer P w H s Q u s'|.ok _=>False|.error e=>CX outer H s E e s'
structure ϯ(P:ë)(w:â)(K:Î)(mg:Str->Option Á)(base:Ò)(CX:iy)(k:Nat)(f:À)(fd:Ć)(ps:List Str)(sp:Sp):Prop where
 len:∀vs H Q E,sp vs H Q E->vs.length=ps.length
 run:∀(A:ê) (outer:List Env) (s:Ã) (H:Hp) (args:Args) (us:List Á) (vs:List V) (Q:VK) (E:XK),ő k A->zO P w K mg base A outer s H->fV s fd args (ps.zip us)->Ō vs us->sp vs H Q E->
  dg (Ø P w) A (.call (.ref f) args) (CR CX outer P w H s Q E) s
theorem ϯ.mono{K:Î}(F:ϯ P w K mg base CX j f fd ps sp)(h:j<=k):
 ϯ P w K mg base CX k f fd ps sp:=⟨F.len,λA outer s H args us vs Q E hr=>F.run A outer s H args us vs Q E<|hr.mono h⟩
def ϯ.imp{K:Î}(F:ϯ P w K mg base CX k f fd ps sp)
 (h:∀vs H Q E,XT vs H Q E->sp vs H Q E):ϯ P w K mg base CX k f fd ps XT:=
 ⟨λvs H Q E q=>F.len vs H Q E<|h _ _ _ _ q,λA outer s H args us vs Q E hr he hb hv hs=>F.run A outer s H args us vs Q E hr he hb hv<|h _ _ _ _ hs⟩
def zO.make{K:Î}(e:zO P w K mg base A outer s H)(C:À)(us:List Á)(kw:List (Str×Á)):
 zO P w K mg base (A.under<|.builtin "type.__call__" ⟨.ref C::us,kw⟩) outer s H:=⟨by first|exact e.frames|(simpa[xK,Code.envs,xN,pushEnvs]using e.frames),e.mod,e.bs,e.EY,e.oW,e.HK,e.hok,e.bare,e.tb⟩
section
variable{X:Cx}{Å:List (À×Obj)}{σ:St}{H:Hp}{s s':Ã}
def Inv.env0(I:Inv X Å σ H s):zO X.prog X.w X.K X.mg X.base X.A X.stack s H:=
 ⟨I.ok.frames,I.ok.mod,I.bs,Ţ I.ok.EY I.sz,I.stack,I.yl,I.hok,I.bare,I.tb⟩
def Inv.after(I:Inv X Å σ H s)(h:CE X.stack X.prog X.w H s Q u s'):EP X Å σ Q u s':=by obtain⟨v,H',os,bare,un,hok,r,q⟩:=h;obtain⟨hh,g,d,t,os'⟩:=s';obtain rfl:os'=s.os:=os;exact⟨v,H',I.call (h':=hh) (g':=g) (d':=d) (t':=t) (ch:=[]) un hok bare (λb z=>absurd z<|by simp),r,q⟩
end
def Binds(K:Î)(fd:Ć)(ps:List Str)(ds:List Á):Prop:=
 ∀(s:Ã) (us:List Á),K.In s.heap->(us++ds).length=ps.length->fV s fd ⟨us,[]⟩ (ps.zip<|us++ds)
def Binds.all{K:Î}(h:∀us:List Á,us.length=ps.length->dh fd ⟨us,[]⟩=î (ps.zip us)):Binds K fd ps []:=λs us x hl=>by rw[fO]at hl⊢;exact .of_eq<|h us hl
section
variable{f C:À}
structure Mk(K:Î)(C f:À):Prop where
 makes:yc K C=true
 init:ů K (.ref C) "__init__"=some (some<|.ref f)
 fn:oR K (.ref f)=true
 kp:ϫ K (.ref C)=true
end
structure ĸ(N P:List Str)(sc:ú):Prop where
 kind:sc.kind=.function
 co:sc.isCoroutine=false
 gen:sc.isGenerator=false
 nd:N.Nodup
 pre:N.take P.length=P
 par:∀x∈P,sc.names.lookup x=some .local\/sc.names.lookup x=some .cell
 Ll:∀y∈sc.names,y.2≠.free
theorem vE{kindOf:Str->Option cz}:∀{binds:List (Str×Á)}{m:Str->Option Á},(∀v,(x,v)∉binds)->bindL kindOf binds m x=m x
 |[],_,_=>rfl|(n,v)::r,m,h=>by
  unfold bindL;rw[vE λw hw=>h w<|þ _ hw];split
  ·have:x≠n:=by rintro rfl;exact h v Ş
   simp[this]
  ·rfl
theorem vF{kindOf:Str->Option cz}:∀{binds:List (Str×Á)}{m:Str->Option Á},(∀v,(x,v)∉binds)->bindC kindOf binds m x=m x
 |[],_,_=>rfl|(n,v)::r,m,h=>by
  unfold bindC;rw[vF λw hw=>h w<|þ _ hw];split
  ·rfl
  ·have:x≠n:=by rintro rfl;exact h v Ş
   simp[this]
theorem vG{kindOf:Str->Option cz}:∀{P:List Str}{vs:List Á}{i:Nat}{m:Str->Option Á},P.Nodup->P[i]?=some x->vs[i]?=some v->kindOf x=some .local->
 bindL kindOf (P.zip vs) m x=some v
 |[],_,_,_,_,h,_,_=>by simp at h|_::_,[],_,_,_,_,h,_=>by simp at h|p::P,w::vs,0,m,nd,h1,h2,hk=>by simp at h1 h2;subst h1;subst h2;show bindL kindOf ((p,w)::P.zip vs) m p=_;unfold bindL;rw[vE λv hv=>(cZ.mp nd).1 (rM hv).1,if_pos hk];simp
 |p::P,w::vs,i+1,m,nd,h1,h2,hk=>by show bindL kindOf ((p,w)::P.zip vs) m x=_;unfold bindL;exact vG (i:=i) (cZ.mp nd).2 (by simpa using h1) (by simpa using h2) hk
theorem vH{kindOf:Str->Option cz}:∀{P:List Str}{vs:List Á}{i:Nat}{m:Str->Option Á},P.Nodup->P[i]?=some x->vs[i]?=some v->kindOf x≠some .local->
 bindC kindOf (P.zip vs) m x=some v
 |[],_,_,_,_,h,_,_=>by simp at h|_::_,[],_,_,_,_,h,_=>by simp at h|p::P,w::vs,0,m,nd,h1,h2,hk=>by simp at h1 h2;subst h1;subst h2;show bindC kindOf ((p,w)::P.zip vs) m p=_;unfold bindC;rw[vF λv hv=>(cZ.mp nd).1 (rM hv).1,if_neg hk];simp
 |p::P,w::vs,i+1,m,nd,h1,h2,hk=>by show bindC kindOf ((p,w)::P.zip vs) m x=_;unfold bindC;exact vH (i:=i) (cZ.mp nd).2 (by simpa using h1) (by simpa using h2) hk
noncomputable def start(N:List Str)(vs:List V):St:=vs.map some++á (N.length-vs.length) none
noncomputable def nK(CX:iy)(P:ë)(w:â)(K:Î)(mg:Str->Option Á)(base:Ò)(N:List Str)(qual:Str)(scope:ú)(f:À)(cd:Á)(A:ê)(outer:List Env)(s:Ã)(H:Hp)(E:XK):Cx where
 prog:=P
 w:=w
 K:=K
 mg:=mg
 base:=base
 A:=A.deeper (ŕ qual scope s.heap.objs.size f cd)
 N:=N
 s₀:=s
 H₀:=H
 env:=ŕ qual scope s.heap.objs.size f cd
 outer:=outer
 stack:=ŕ qual scope s.heap.objs.size f cd::outer
 ex:=[]
 calm:=true
 fn:=λx=>true
 pn:=[]
 xe:=λe s'=>Ï (Ø P w) (A.deeper<|ŕ qual scope s.heap.objs.size f cd) (leaving (ŕ qual scope s.heap.objs.size f cd) e) (λx W2=>CX outer H s E e W2) (λe' W2=>CX outer H s E e' W2) s'
def oY{sc:ú}(h:sc.names.lookup x=some .cell):∃c,(ţ n sc.names []).lookup x=some c:=by have q:=CC sc.names n [] (.inl h);exact Ca.mp q
def Ei{K:Î}
 (S:ĸ N ps scope)(hd:A.handled=none)(e0:zO P w K mg base A outer s H)(hl:vs.length=ps.length)(r:Ō vs us)
 (x:InCallC s s.heap.objs.size (bindL (ŕ qual scope s.heap.objs.size f cd).kindOf (ps.zip us) λd=>none) (ţ (s.heap.objs.size+1) scope.names []) (bindC (ŕ qual scope s.heap.objs.size f cd).kindOf (ps.zip us) λd=>none) s1):
 Inv (nK CX P w K mg base N qual scope f cd A outer s H E) [] (start N vs) H s1:=by
 have hpl:ps.length<=N.length:=by have:=congrArg cq S.pre;rw[rN]at this;lia
 obtain⟨h1,tk,rfl,hk⟩:=x.done;have Of:∀b:À,b∉(nK CX P w K mg base N qual scope f cd A outer s H E).ex:=λb z=>absurd (show b∈([]:List À)from z) (by simp);refine⟨⟨e0.mod,S.kind,rfl,rfl,ö _,λy z c h1 h2=>?_,λy hy=>?_,λy c d h=>?_,λd=>hd,Cj e0.frames,.inr ⟨rfl,rfl⟩,λb z=>absurd z<|Of b,e0.bs,e0.EY,λb d d=>Of b,λb z=>absurd z<|Of b,e0.oW,e0.HK,e0.tb⟩,
  rfl,e0.bare,Un.kept hk,⟨_,x.toInCall.ns,λi y v h1 h2 h3=>?_⟩,λy c h=>⟨_,x.cell y c h⟩,e0.hok.fresh<|ö _,λy c h=>?_,λp hp=>absurd (show p∈([]:List (À×Obj))from hp) (by simp),e0.hok.kept hk,?_⟩
 ·exact name_of_addr x.apart (jU h1)<|jU h2
 ·have hy:scope.names.lookup y=some .cell\/scope.names.lookup y=some .free:=hy;rcases hy with hy|hy
  ·exact oY hy
  ·exact absurd rfl<|S.Ll _<|jU hy
 ·exact jQ<|x.above y c<|jU h
 ·have hi:i<vs.length:=by
   unfold start at h2;by_cases hi:i<vs.length
   ·exact hi
   ·rw[cr<|by simpa using hi]at h2;rw[hU]at h2;split at h2<;>cases h2
  have ha:vs[i]?=some v:=by
   unfold start at h2;rw[ϧ (by simpa using hi),Ł]at h2;cases e:vs[i]?with
   |none=>rw[e]at h2;cases h2|some a=>rw[e]at h2;cases h2;rfl
  obtain⟨u,hu,rv⟩:=r.get ha;have hp:ps[i]?=some y:=by rw[<-S.pre,List.getElem?_take_of_lt<|by lia];exact h1
  have XV:ps.Nodup:=by rw[<-S.pre];exact S.nd.sublist<|List.take_sublist _ _
  refine⟨u,rv,?_⟩;rcases S.par y (xb hp)with k|k
  ·exact .inl ⟨k,vG XV hp hu k⟩
  ·obtain⟨c,e⟩:=oY (n:=s.heap.objs.size+1) k;refine .inr ⟨.inl k,c,e,?_⟩;have q:=x.cell y c e;rw[vH XV hp hu (by show scope.names.lookup y≠_;rw[k];decide)]at q;exact q
 ·exact e0.hok.fresh<|jQ<|x.above y c<|jU h
 ·unfold start;show _=N.length;rw[Ϲ,Ğ,List.length_replicate];lia
def vI{K:Î}{dV kV doc pm cdv ct oc:Á}
 (lk:K.lookup f=some ⟨oc,od,.func<|ŉ name qual params body scope dV kV doc pm an cdv ct,zx⟩)(wM:fY K cdv qual=true)(S:ĸ N ps scope)
 (len:∀vs H Q E,sp vs H Q E->vs.length=ps.length)
 (fv:∀(A:ê) (outer:List Env) (s:Ã) (H:Hp) (vs:List V) (Q:VK) (E:XK),ő k (A.deeper<|ŕ qual scope s.heap.objs.size f cdv)→sp vs H Q E→
   ∃t,bC (nK CX P w K mg base N qual scope f cdv A outer s H E) body t/\t {nx:=λz H'=>Q .non H',rt:=Q} (start N vs) H):
 ϯ P w K mg base CX (k+1) f (ŉ name qual params body scope dV kV doc pm an cdv ct) ps sp:=by
 refine⟨len,λA outer s H args us vs Q E hr e0 hb r zI=>?_⟩;have hl:=len _ _ _ _ zI;have KX:K.In s.heap:=e0.mod.Hq.keeps λb o e=>(e0.bs b o e).1;have lim:s.heap.NoLimit:=e0.mod.nolimit.keeps λb o e=>(e0.bs b o e).1;have QK:∀y∈ps.zip us,scope.names.lookup y.1=some .local\/(scope.names.lookup y.1=some .cell/\((ţ (s.heap.objs.size+1) scope.names []).lookup y.1).isSome=true):=by
  rintro ⟨n,v⟩ hy;rcases S.par n (rM hy).1 with q|q
  ·exact .inl q
  ·exact .inr ⟨q,CC _ _ _<|.inl q⟩
 refine codeAny_call_function hr.depth (KX _ _ lk) rfl S.co S.gen rfl (PySem.W.codeRec_of KX wM)<|hb _ _ _ _ ?_;refine wpAny_newFunctionEnv_cells S.kind QK λenv he s1 x=>?_;subst he;refine⟨lim.keeps x.toInCall.keep,codeAny_func ?_⟩;obtain⟨t,ht,hq⟩:=fv A outer s H vs Q E (hr.deeper _) zI;have I:Inv (nK CX P w K mg base N qual scope f cdv A outer s H E) [] (start N vs) H s1:=Ei S hr.hd e0 hl r x;refine ϔ (ht [] s1 (start N vs) H _ I hq) (λfl s' hs=>?_) λe s' hs=>hs;have n_:∀{a:St}{H':Hp}{v:V}{u:Á},Inv (nK CX P w K mg base N qual scope f cdv A outer s H E) [] a H' s'->RelV v u->Q v H'->CE outer P w H s Q u s':=
  fun{a H' v u} J rv q=>⟨v,H',J.os,J.bare,J.base,J.hok,rv,q⟩
 cases fl with
 |ret u=>obtain⟨v,a,H',J,rv,q⟩:=hs;exact n_ J rv q|next=>obtain⟨a,H',J,q⟩:=hs;exact n_ (v:=V.non) (u:=Value.none) J rfl q|brk=>obtain⟨_,_,_,q⟩:=hs;exact aK q|cont=>obtain⟨_,_,_,q⟩:=hs;exact aK q
section
variable{X:Cx}{x:Str}{p pos:Pos}{e:Ç}{es:List Ç}{t:TA}{id T:String}{r:List V->Hp->VK->Prop}
def Rr(r:List V->Hp->VK->Prop)(t:TA):TE:=λa H Q=>t a H λvs H1=>r vs H1 Q
def ua(hc:Ř X (.builtin id) r)(hg:Gl X x)(hm:X.mg x=none)(hv:eJ x=some (.builtin id))(ha:PA X (e::es) t)(hn:x≠"__name__":=by decide)(lK:(x==("__debug__":Str))=false:=by kernel_rfl)
 (he:Ð (e::es) X.env=(false,eval e X.env)::Ð es X.env:=by rfl)(hpl:(ÿ pos<|Ð es X.env).any (·.1)=false:=by kernel_rfl):PE X (.Call (.Name x p) (e::es) [] pos) (Rr r t):=by
 intro Å s a H Q I h;refine ig<|kY I hg hm hv ?_ hn lK;exact PyProof.Rows.callWith_builtin1 (ώ (ha pos Å s a H _ I h) λus s1 ⟨vs,H1,I1,r1,q1⟩=>hc Å s1 a H1 vs us Q I1 r1 q1) he hpl
def vJ(hc:Ř X (.type T) r)(hg:Gl X x)(hm:X.mg x=none)(hv:eJ x=some (.type T))(ha:PA X (e::es) t)(hn:x≠"__name__":=by decide)(lK:(x==("__debug__":Str))=false:=by kernel_rfl)
 (he:Ð (e::es) X.env=(false,eval e X.env)::Ð es X.env:=by rfl)(hpl:(ÿ pos<|Ð es X.env).any (·.1)=false:=by kernel_rfl):PE X (.Call (.Name x p) (e::es) [] pos) (Rr r t):=by
 intro Å s a H Q I h;refine ig<|kY I hg hm hv ?_ hn lK;exact si (ώ (ha pos Å s a H _ I h) λus s1 ⟨vs,H1,I1,r1,q1⟩=>hc Å s1 a H1 vs us Q I1 r1 q1) he hpl
end
end L2
namespace HT
open PySem PyProof.Rows
section
open PySem.SeqAt
open PySem.AutoSeq1 (wpAny_loadPart')
open PySem.MeetsSeq PySem.MeetsSeq2 PySem.MeetsSeq3
end
noncomputable def mN(n d:Nat):Option Int->Nat
 |none=>d|some v=>if v<0then(v+(n:Int)).toNat else min v.toNat n
def Fu(n d:Nat):mN n d none=d:=rfl
def yx(n d k:Nat):mN n d (some (k:Int))=min k n:=by show(if(k:Int)<0then((k:Int)+(n:Int)).toNat else min (k:Int).toNat n)=min k n;rw[if_neg (by lia),wX]
def Fv(n d:Nat)(hd:d<=n)(o:Option Int):mN n d o<=n:=by
 cases o with
 |none=>exact hd|some v=>
  show(if v<0then(v+(n:Int)).toNat else min v.toNat n)<=n;by_cases hv:v<0
  ·rw[if_pos hv];lia
  ·rw[if_neg hv];exact Nat.min_le_right _ _
end HT
namespace L2
open PySem PySem.Spec PyProof.Rows
abbrev TO:=St->Hp->(Option Int->Hp->Prop)->Prop
def PO(X:Cx)(e:Option Ç)(t:TO):Prop:=
 ∀(Å:List (À×Obj)) (s:Ã) (a:St) (H:Hp) (Q:Option Int->Hp->Prop),Inv X Å a H s->t a H Q->
  Ï (Ø X.prog X.w) X.A (evalPart e X.env) (λu s'=>∃o H',Inv X Å a H' s'/\IsPart u o/\Q o H') X.xe s
def HV:TO:=λx H Q=>Q none H
section
variable{X:Cx}{e:Ç}{te:TE}{lo hi:Option Ç}{tl th:TO}{pos p2:Pos}
def HW:PO X none HV:=by intro Å s a H Q I h;rw[evalPart_none];exact Ą ⟨none,H,I,.none,h⟩
def CK(X:Cx)(r:V->Option Int->Option Int->Hp->VK->Prop):Prop:=
 ∀(Å:List (À×Obj)) (s:Ã) (a:St) (H:Hp) (x:V) (v vl vu:Á) (lo hi:Option Int) (sl:À) (Q:VK),Inv X Å a H s->RelV x v->s.heap.IsSliceOf sl vl vu .none->IsPart vl lo->IsPart vu hi->r x lo hi H Q->
  ∃T id,typeLookup (.type T) "__getitem__"=î (some<|.builtin id)/\s.TypeIs v T/\Ï (Ø X.prog X.w) X.A (getItem v<|.ref sl) (EP X Å a Q) X.xe s
def CK.or(h:CK X r)(h':CK X r'):CK X (λx lo hi H Q=>r x lo hi H Q\/r' x lo hi H Q):=by
 intro Å s a H x v vl vu lo hi sl Q I rx hs pl pu q;rcases q with q|q
 ·exact h Å s a H x v vl vu lo hi sl Q I rx hs pl pu q
 ·exact h' Å s a H x v vl vu lo hi sl Q I rx hs pl pu q
def tSl(r:V->Option Int->Option Int->Hp->VK->Prop)(te:TE)(tl th:TO):TE:=λa H Q=>te a H λx H1=>tl a H1 λl H2=>th a H2 λu H3=>r x l u H3 Q
def Fw(hr:CK X r)(he:PE X e te)(hl:PO X lo tl)(hu:PO X hi th):PE X (.Subscript e (.Slice lo hi none p2) pos) (tSl r te tl th):=by intro Å s a H Q I h;refine Subscript_<|ώ (he Å s a H _ I h) λv s1 zz=>?_;obtain⟨x,H1,I1,r1,q1⟩:=zz;refine wpAny_Slice<|ώ (hl Å s1 a H1 _ I1 q1) λvl s2 ⟨l,H2,I2,pl,q2⟩=>ώ (hu Å s2 a H2 _ I2 q2) λvu s3 zz=>?_;obtain⟨u,H3,I3,pu,q3⟩:=zz;rw[evalPart_none];refine Ą ?_;have I4:Inv X Å a H3 {s3 with heap:=s3.heap.push {cls:=.type "slice",data:=.fields #[vl,vu,.none]}}:=I3.kept (t':=s3.toks) λb ob q=>ø _ q;obtain⟨T,id,hT,ht,hg⟩:=hr Å {s3 with heap:=s3.heap.push {cls:=.type "slice",data:=.fields #[vl,vu,.none]}} a H3 x v vl vu l u s3.heap.objs.size Q I4 r1 (Heap.IsSliceOf.new ..) pl pu q3;show Ï (Ø X.prog X.w) X.A (subscriptTail e (.Slice lo hi none p2) v<|.ref s3.heap.objs.size) (EP X Å a Q) X.xe {s3 with heap:=s3.heap.push {cls:=.type "slice",data:=.fields #[vl,vu,.none]}};exact tail_any (ops:=[.ref s3.heap.objs.size,v]) ht hT hg (by with_unfolding_all rfl)
def zP(xs:List V)(lo hi:Option Int):List V:=(xs.drop<|HT.mN xs.length 0 lo).take (HT.mN xs.length xs.length hi-HT.mN xs.length 0 lo)
def zQ(xs:List V)(lo hi:Option Int):(zP xs lo hi).length<=xs.length:=by unfold zP;rw[rN,List.length_drop];lia
end
noncomputable def CL(n:Nat)(i:Int):Option Nat:=if 0<=i then(if i<n then some i.toNat else none)else if -(n:Int)<=i then some (i+n).toNat else none
def nr{α:Type}(xs:List α)(i:Int):Option α:=(CL xs.length i).bind λj=>xs[j]?
def CM(h:CL n i=some j):seqIndex? i n=some j/\j<n/\ -(n:Int)<=i/\i<n:=by
 unfold CL at h;by_cases h0:0<=i
 ·rw[if_pos h0]at h;by_cases h1:i<n
  ·rw[if_pos h1]at h;have e:i.toNat=j:=ı h;exact⟨by rw[seqIndex_of h0 h1,e],by lia,by lia,h1⟩
  ·rw[if_neg h1]at h;cases h
 ·rw[if_neg h0]at h;by_cases h1: -(n:Int)<=i
  ·rw[if_pos h1]at h;have e:(i+n).toNat=j:=ı h;exact⟨by rw[seqIndex_neg (by lia) h1,e],by lia,h1,by lia⟩
  ·rw[if_neg h1]at h;cases h
def yy{α:Type}{xs:List α}{v:α}(h:nr xs i=some v):∃j,seqIndex? i xs.length=some j/\xs[j]?=some v/\j<xs.length/\ -(xs.length:Int)<=i/\i<xs.length:=by
 unfold nr at h;cases e:CL xs.length i with
 |none=>rw[e]at h;cases h|some j=>rw[e]at h;obtain⟨h1,h2,h3,h4⟩:=CM e;exact⟨j,h1,h,h2,h3,h4⟩
def sZ(b:Ç):Prop:=∀o i,subscripted b false o i=operate [o,i] (getItem o i)
def AI(X:Cx)(r:R2):Prop:=
 ∀(value slice:Ç) (Å:List (À×Obj)) (s:Ã) (a:St) (H:Hp) (x y:V) (v u:Á) (Q:VK),Inv X Å a H s->RelV x v->RelV y u->r x y H Q->
  subscripted slice false v u=operate [v,u] (getItem v u)->Ï (Ø X.prog X.w) X.A (subscriptTail value slice v u) (EP X Å a Q) X.xe s
def No(X:Cx)(id:String)(r:V->List V->Hp->VK->Prop):Prop:=
 ∀(Å:List (À×Obj)) (s:Ã) (a:St) (H:Hp) (x:V) (xs:List V) (v:Á) (us:List Á) (Q:VK),Inv X Å a H s->RelV x v->Ō xs us->r x xs H Q->
  Ï (Ø X.prog X.w) X.A (call (.builtin id) (v::us)) (EP X Å a Q) X.xe s
section
variable{X:Cx}{a b:Ç}{ta tb:TE}{pos:Pos}
def AI.or(h:AI X r)(h':AI X r'):AI X (λx y H Q=>r x y H Q\/r' x y H Q):=by
 intro value slice Å s c H x y v u Q I rx ry q hs;rcases q with q|q
 ·exact h value slice Å s c H x y v u Q I rx ry q hs
 ·exact h' value slice Å s c H x y v u Q I rx ry q hs
def Fx(hr:AI X r)(ha:PE X a ta)(hb:PE X b tb)(hs:sZ b):PE X (.Subscript a b pos) (JU r ta tb):=λÅ s c H Q I h=>Subscript_<|K7 ha hb I h λv u s2 x y H2 I2 rx ry q=>hr a b Å s2 c H2 x y v u Q I2 rx ry q<|hs _ _
def Og(K:Î):R2:=λx y H Q=>∃p xs i v,x=.ref p/\y=.int i/\Ϧ K H p xs/\nr xs i=some v/\Q v H
def Oh(K:Î):R2:=λx y H Q=>∃p xs i v,x=.ref p/\y=.int i/\gj K H p xs/\nr xs i=some v/\Q v H
def Oi:R2:=λx y H Q=>∃z i c,x=.str z/\y=.int i/\z.length<=sizeLine/\nr z.cps.toList i=some c/\Q (.str ⟨#[c]⟩) H
def HX:AI X (Og X.K):=by
 intro value slice Å s c H x y v u Q I rx ry h hs;obtain⟨p,xs,i,z,rfl,rfl,hq,he,q⟩:=h;cases rx;obtain⟨t,rfl⟩:=ry;obtain⟨Ē,r,pl,hz⟩:=I.list hq;obtain⟨j,h1,h2,h3,h4,h5⟩:=yy he;obtain⟨w,ew,Oj⟩:=r.get h2;have hl:=r.length;have hn:=qg;have n_:EP X Å c Q w s:=⟨z,H,I,Oj,q⟩;by_cases h0:0<=i
 ·have hj:i.toNat=j:=by
   rw[seqIndex_of h0 h5]at h1;exact ı h1
  exact item_listR pl.isList h0 (by lia) (by rw[hj];simpa using ew) n_ hs
 ·have hj:(i+(Ē.toArray.size:Int)).toNat=j:=by
   rw[seqIndex_neg (by lia) h4]at h1;rw[Ģ,<-hl];exact ı h1
  exact subscriptTail_builtinR (x:=w) pl.isList.typeIs slot_list_getitem.lookup
   (wpAny_getItem_list_neg (Q:=λr s'=>r=w/\EP X Å c Q r s') pl.isList (by lia) (by rw[Ģ]<;>lia) (by lia) (by rw[hj];simpa using ew) ⟨rfl,n_⟩) hs
def Lm:AI X (Oh X.K):=by
 intro value slice Å s c H x y v u Q I rx ry h hs;obtain⟨p,xs,i,z,rfl,rfl,hq,he,q⟩:=h;cases rx;obtain⟨t,rfl⟩:=ry;obtain⟨Ē,r,pl,hz⟩:=I.tuple hq;obtain⟨j,h1,h2,h3,h4,h5⟩:=yy he;obtain⟨w,ew,Oj⟩:=r.get h2;have hl:=r.length;have hn:=qg;have n_:EP X Å c Q w s:=⟨z,H,I,Oj,q⟩;exact subscriptTail_builtinR (x:=w) pl.typeIs slot_tuple_getitem.lookup
  (getItem_tuple (j:=j) (Q:=λr s'=>r=w/\EP X Å c Q r s') pl (by lia) (by lia) (by rw[Ģ,<-hl];exact h1) (by simpa using ew) ⟨rfl,n_⟩) hs
def Lo:AI X Oi:=by
 intro value slice Å s d H x y v u Q I rx ry h hs;obtain⟨z,i,c,rfl,rfl,hz,he,q⟩:=h;obtain⟨t,rfl⟩:=rx;obtain⟨t',rfl⟩:=ry;obtain⟨j,h1,h2,h3,h4,h5⟩:=yy he;have hl:z.cps.toList.length=z.length:=by simp[cD]
 rw[hl]at h1 h4 h5;have hn:=qg;exact tail_any (l_ s z t) slot_str_getitem.lookup (getItem_str (c:=c) (by
  have e1:decide (i< -(2^63:Int))=false:=decide_eq_false (by lia);have e2:decide (i>=2^63)=false:=decide_eq_false (by lia);rw[e1,e2,wS]) (by rw[h1];simpa using h2) ⟨.str ⟨#[c]⟩,H,I.tok _,⟨_,rfl⟩,q⟩) hs
def T2(K:Î):R2:=λx y H Q=>Og K x y H Q\/Oh K x y H Q\/Oi x y H Q
def A3:AI X (T2 X.K):=HX.or<|Lm.or Lo
def A4(Ē:List Á)(n j:Nat)(u:Á):eR (·.setIfInBounds j u) {cls:=.type "list",data:=.seq Ē.toArray n}={cls:=.type "list",data:=.seq (Ē.set j u).toArray n}:=by simp[eR]
theorem Inv.lst{c:St}(I:Inv X Å c H s)(h:H p=some (.lst xs)):
 ∃(Ē:List Á) (n:Nat),Ō xs Ē/\s.heap.get? p=some {cls:=.type "list",data:=.seq Ē.toArray n}/\xs.length<=sizeLine:=by
 obtain⟨z,Ē,n,r,e⟩:=I.hok p _ h;exact⟨Ē,n,r,e,z⟩
def Inv.Lp{c:St}{Ē its':List Á}(I:Inv X Å c H s)(h:H p=some (.lst xs))
 (ho:s.heap.get? p=some {cls:=.type "list",data:=.seq Ē.toArray n})(hf:f {cls:=.type "list",data:=.seq Ē.toArray n}={cls:=.type "list",data:=.seq its'.toArray n'})(r:Ō ys its')(hz:ys.length<=sizeLine)(t:Nat):
 Inv X Å c (upd H p<|.lst ys) {s with heap:=s.heap.update p f,toks:=t}:=by
 have e:(s.heap.update p f).get? p=some {cls:=.type "list",data:=.seq its'.toArray n'}:=by rw[Cw f ho (by rw[hf]<;>rfl),hf]
 refine I.write (x:=p) (e:=p) (by rw[h];trivial) (.inl rfl) (λb u hb q=>(Cy _ _<|Ė hb).trans q) ⟨_,e⟩ ?_;exact⟨hz,its',n',r,e⟩
def Ol:V->V->V->Hp->(Hp->Prop)->Prop:=λo i v H Q=>∃p xs k j,o=.ref p/\i=.int k/\H p=some (.lst xs)/\CL xs.length k=some j/\Q (upd H p<|.lst<|xs.set j v)
def Ha:N4 X Ol:=by
 intro Å s c H o i v ov iv u Q I ro ri rv h;obtain⟨p,xs,k,j,rfl,rfl,hp,hj,q⟩:=h;cases ro;obtain⟨t,rfl⟩:=ri;obtain⟨Ē,n,r,ho,hz⟩:=I.lst hp;obtain⟨h1,h2,h3,h4⟩:=CM hj;have hl:=r.length;have hn:=qg;have I':Inv X Å c (upd H p<|.lst<|xs.set j v) {s with heap:=s.heap.update p (eR (·.setIfInBounds j u))}:=
  I.Lp hp ho (A4 Ē n j u) (r.set rv j) (by rw[List.length_set];exact hz) s.toks
 by_cases h0:0<=k
 ·have hk:k.toNat=j:=by
   rw[seqIndex_of h0 h4]at h1;exact ı h1
  exact PySem.W.ki_setAt ho h0 (by lia) (by rw[Ģ,<-hl];exact h4) (by rw[hk];exact⟨_,I',q⟩)
 ·have hk:(k+(Ē.toArray.size:Int)).toNat=j:=by
   rw[seqIndex_neg (by lia) h3]at h1;rw[Ģ,<-hl];exact ı h1
  exact PySem.W.ki_setBack ho (by lia) (by rw[Ģ,<-hl];exact h3) (by lia) (by rw[hk];exact⟨_,I',q⟩)
def yz(lo hi:Option Int)(n:Nat):(jV lo hi none n).1=((HT.mN n 0 lo:Nat):Int)/\(jV lo hi none n).2.1=((HT.mN n n hi:Nat):Int)/\(jV lo hi none n).2.2=1:=by
 refine⟨?_,?_,rfl⟩
 ·cases lo with
  |none=>simp[jV,HT.mN]|some i=>
   simp only[jV,HT.mN,Option.getD_none,show(1:Int)>0 by decide,if_true];by_cases h:i<0
   ·simp only[h,if_true]<;>lia
   ·simp only[h,if_false]<;>lia
 ·cases hi with
  |none=>simp[jV,HT.mN]|some i=>
   simp only[jV,HT.mN,Option.getD_none,show(1:Int)>0 by decide,if_true];by_cases h:i<0
   ·simp only[h,if_true]<;>lia
   ·simp only[h,if_false]<;>lia
def vm(Ē:List Á)(lo hi:Option Int):slicePick Ē.toArray lo hi none=((Ē.drop<|HT.mN Ē.length 0 lo).take (HT.mN Ē.length Ē.length hi-HT.mN Ē.length 0 lo)).toArray:=by obtain⟨h1,h2,h3⟩:=yz lo hi Ē.toArray.size;unfold slicePick;rw[h1,h2,h3];simp only[sliceRange_one,pick_run,Ģ]<;>rfl
def T3(K:Î):V->Option Int->Option Int->Hp->VK->Prop:=λx lo hi H Q=>∃a xs,x=.ref a/\Ϧ K H a xs/\∀p,H p=none->Q (.ref p) (upd H p<|.lst<|zP xs lo hi)
def HY:CK X (T3 X.K):=by intro Å s c H x v vl vu lo hi sl Q I rx hs pl pu h;obtain⟨a,xs,rfl,hx,q⟩:=h;cases rx;obtain⟨Ē,r,ht,hz⟩:=I.list hx;have hlen:=r.length;refine⟨"list",_,slot_list_getitem.lookup,ht.isList.typeIs,?_⟩;refine wpAny_getItem_list_slice ht.isList hs pl pu .none (by simp) ?_ (by rw[Ģ]<;>lia);rw[vm,<-hlen];refine⟨.ref s.heap.objs.size,_,I.laid (t':=s.toks) (o:=.lst<|zP xs lo hi) (λb ob q=>ø _ q) (ö _) ?_,rfl,q _<|I.hok.fresh<|ö _⟩;exact⟨Ţ (zQ xs lo hi) hz,_,0,(r.drop<|HT.mN xs.length 0 lo).take (HT.mN xs.length xs.length hi-HT.mN xs.length 0 lo),Ĥ _ rfl⟩
def yA:Ř X (.type "list") (λxs H Q=>∃p ys,xs=[.ref p]/\(Ϧ X.K H p ys\/gj X.K H p ys)/\∀l,H l=none->Q (.ref l) (upd H l<|.lst ys)):=by
 intro Å s c H xs us Q I r h;obtain⟨p,ys,rfl,hq,q⟩:=h;obtain⟨u,rfl,rx⟩:=vals1 r;cases rx;have n_:∀(Ē:List Á),Ō ys Ē->ys.length<=sizeLine->∀(h':Ò) (c':Nat),(∀b o',s.heap.get? b=some o'->h'.get? b=some o')->
  h'.get? s.heap.objs.size=some {cls:=.type "list",dict:=none,data:=.seq Ē.toArray c',slots:=#[]}->EP X Å c Q (.ref s.heap.objs.size) {s with heap:=h'}:=λĒ r' hz h' c' kp e=>
  ⟨.ref s.heap.objs.size,_,I.laid (t':=s.toks) kp (ö _)<|show cM X.prog X.w _ h' _ (.lst ys)from⟨hz,Ē,c',r',e⟩,rfl,q _<|I.hok.fresh<|ö _⟩
 rcases hq with hq|hq
 ·obtain⟨Ē,r',pl,hz⟩:=I.list hq;have hlen:=r'.length;obtain⟨o,ho,hc,n,hd⟩:=pl.isList;exact call_list_seq p (.inl rfl) ho hc hd (λh' c' kp e=>n_ Ē r' hz h' c' kp e) (by simp only[Ģ]<;>lia)
 ·obtain⟨Ē,r',pl,hz⟩:=I.tuple hq;have hlen:=r'.length;obtain⟨o,ho,hc,n,hd⟩:=pl;exact call_list_seq p (.inr rfl) ho hc hd (λh' c' kp e=>n_ Ē r' hz h' c' kp e) (by simp only[Ģ]<;>lia)
def vn:Ř X (.type "tuple") (λxs H Q=>∃p ys,xs=[.ref p]/\((Ϧ X.K H p ys/\∀l,H l=none->Q (.ref l) (upd H l<|.tup ys))\/(gj X.K H p ys/\Q (.ref p) H))):=by
 intro Å s c H xs us Q I r h;obtain⟨p,ys,rfl,h⟩:=h;obtain⟨u,rfl,rx⟩:=vals1 r;cases rx;rcases h with⟨hq,q⟩|⟨hq,q⟩
 ·obtain⟨Ē,r',pl,hz⟩:=I.list hq;have hlen:=r'.length;refine call_tuple_list pl.isList (λh' kp=>?_) (by simp only[Ģ]<;>lia);have I1:Inv X Å c H {s with heap:=h'}:=I.kept (t':=s.toks) kp;have I2:Inv X Å c (upd H h'.objs.size<|.tup ys) {s with heap:=h'.push {cls:=.type "tuple",data:=.seq Ē.toArray}}:=
   I1.laid (t':=s.toks) (λb o e=>ø _ e) (ö _) (show cM X.prog X.w _ _ _ (.tup ys)from⟨hz,Ē,r',IsTup.new _ _⟩)
  exact⟨.ref h'.objs.size,_,I2,rfl,q _<|I1.hok.fresh<|ö _⟩
 ·obtain⟨Ē,r',pl,hz⟩:=I.tuple hq;exact call_tuple_same pl ⟨.ref p,H,I,rfl,q⟩
def XW(K:Î)(T:String)(x:V)(H:Hp):Prop:=match x with
 |.str _=>T="str"|.int _=>T="int"|.ref p=>(T="list"∧∃xs,Ϧ K H p xs)∨(T="tuple"∧∃o,K.lookup p=some o∧o.cls=.type "tuple"∧o.dict=none)∨
     (T="dict"/\((∃aj,H p=some (.dK aj))\/∃aj,H p=some (.dT aj)))\/(T="set"/\∃S n,H p=some (.set S n))
 |_=>False
def Lq{d:St}(I:Inv X Å d H s)(r:RelV x v)(ty:XW X.K T x H):
 s.TypeIs v T/\∀a,v=.ref a->∃ob,s.heap.get? a=some ob/\ob.dict=none:=by
 cases x with
 |str z=>obtain⟨t,rfl⟩:=r;cases(show T="str"from ty);exact⟨l_ s z t,λy e=>nomatch e⟩
 |int i=>obtain⟨t,rfl⟩:=r;cases(show T="int"from ty);exact⟨typeIs_int s i t,λy e=>nomatch e⟩
 |ref p=>
  cases r;rcases ty with⟨rfl,xs,hq⟩|⟨rfl,o,hk,hc,hd⟩|⟨rfl,hk⟩|⟨rfl,S,n,hk⟩
  ·obtain⟨Ē,_,pl,_⟩:=I.list hq;refine⟨pl.isList.typeIs,λa e=>?_⟩;cases e;obtain⟨o,n,e,c,hd,_⟩:=pl;exact⟨o,e,hd⟩
  ·refine⟨⟨o,I.nj p o hk,hc⟩,λa e=>?_⟩;cases e;exact⟨o,I.nj _ o hk,hd⟩
  ·have z:∃o,s.heap.get? p=some o∧o.ExactDict:=by
    rcases hk with⟨aj,hk⟩|⟨aj,hk⟩
    ·obtain⟨_,_,_,_,o,_,_,e,ex,_⟩:=I.hok p _ hk;exact⟨o,e,ex⟩
    ·obtain⟨_,_,_,_,o,_,_,e,ex,_⟩:=I.hok p _ hk;exact⟨o,e,ex⟩
   obtain⟨o,e,ex⟩:=z;refine⟨⟨o,e,ex.1⟩,λa e2=>?_⟩;cases e2;exact⟨o,e,ex.2.1⟩
  ·obtain⟨o,_,_,_,e,ex,_⟩:=I.hok p _ hk;refine⟨⟨o,e,ex.1⟩,λa e2=>?_⟩;cases e2;exact⟨o,e,ex.2.1⟩
 |_=>exact aK ty
def Np(K:Î)(T:String)(r:V->List V->Hp->VK->Prop)(to:TE)(t:TA):TE:=λc H Q=>to c H λx H1=>XW K T x H1/\t c H1 λxs H2=>r x xs H2 Q
variable{o e:Ç}{es:List Ç}{to:TE}{t:TA}{name:Str}{aI gi:Pos}{T id:String}{r:V->List V->Hp->VK->Prop}
def fG(pa:PlainAttrs T)(slot:Slot T name id)(lL:typeOf (.builtin id)=î (.type "method_descriptor"))(hm:No X id r)(ho:PE X o to)(ha:PA X (e::es) t)
 (lM:eN o name X.env (eval o X.env)=eval o X.env:=by kernel_rfl)
 (uZ:((ÿ gi<|Ð (e::es) X.env).all (fun x=>!x.1)&&(aR gi<|aS [] X.env).all (fun x=>x.1.isSome)
   &&decide ((e::es).length+([]:List aQ).length+(if([]:List aQ).isEmpty then 0 else 1)<30))=true:=by rfl)
 (lN:(aI.endLine==gi.line)=true:=by rfl)(hs:Ð (e::es) X.env=(false,eval e X.env)::Ð es X.env:=by rfl)(oa:(ÿ gi<|Ð es X.env).any (·.1)=false:=by kernel_rfl):
 PE X (.Call (.Attribute o name aI) (e::es) [] gi) (Np X.K T r to t):=by
 intro Å s c H Q I h;refine wpAny_Call_method_late lM uZ lN rfl<|ώ (ho Å s c H _ I h) λv s1 zz=>?_;obtain⟨x,H1,I1,r1,ty,q1⟩:=zz;obtain⟨h1,h2⟩:=Lq I1 r1 ty;refine⟨T,id,pa,slot,lL,h1,h2,?_⟩;have hA:=ha gi Å s1 c H1 _ I1 q1;rw[hs]at hA⊢;refine Calls.callWith_builtin (by show(false||(ÿ gi<|Ð es X.env).any (·.1))=false;rw[oa]<;>rfl)<|Calls.evalArgs_plain ?_;exact ώ hA λus s2 ⟨vs,H2,I2,r2,q2⟩=>hm Å s2 c H2 x vs v us Q I2 r1 r2 q2
end
def XX(X:Cx)(id:String)(r:V->List V->Hp->VK->Prop):Prop:=
 ∀(Å:List (À×Obj)) (s:Ã) (a:St) (H:Hp) (x:V) (xs:List V) (v:Á) (us:List Á) (Q:VK),Inv X Å a H s->RelV x v->Ō xs us->r x xs H Q->
  Ï (Ø X.prog X.w) X.A (call (.builtin id) (v::us)) (EP X Å a Q) X.xe s
def Ō.one:∀{x:V}{us:List Á},Ō [x] us->∃u,us=[u]/\RelV x u:=by
 intro x us h;cases h with
 |cons r t=>cases t;exact⟨_,rfl,r⟩
section
variable{X:Cx}{Å:List (À×Obj)}{σ:St}{H:Hp}{s:Ã}{l:À}{xs ys:List V}
def Inv.Om{Ē its':List Á}(I:Inv X Å σ H s)(hH:H l=some (.lst xs))
 (e:s.heap.get? l=some {cls:=.type "list",data:=.seq Ē.toArray n})(hf:f Ē.toArray=its'.toArray)(hv:Ō ys its')(hz:ys.length<=sizeLine):
 Inv X Å σ (upd H l<|.lst ys) {s with heap:=s.heap.update l<|eR f,toks:=t'}:=by
 have q:=PySem.IsL.update e f;rw[hf]at q;refine I.write (x:=l) (e:=l) (by rw[hH];exact trivial) (.inl rfl) (λb' u hb hu=>(Cy s.heap (eR f)<|Ė hb).trans hu) ⟨_,q⟩ ?_;exact⟨hz,its',_,hv,q⟩
def Inv.T4(I:Inv X Å σ H s)(hv:Ō ys Ē)(hz:ys.length<=sizeLine):
 Inv X Å σ (upd H s.heap.objs.size<|.lst ys) {s with heap:=s.heap.push {cls:=.type "list",data:=.seq Ē.toArray},toks:=t'}:=
 I.laid (λx x q=>ø _ q) (ö _) ⟨hz,Ē,0,hv,Ĥ _ rfl⟩
theorem Inv.fresh(I:Inv X Å σ H s):H s.heap.objs.size=none:=I.hok.fresh<|ö _
def Inv.Lr(I:Inv X Å σ H s)(hH:H l=some (.lst xs)):xs.length<=sizeLine/\∃(Ē:List Á) (n:Nat),Ō xs Ē/\xs.length=Ē.length/\s.heap.get? l=some {cls:=.type "list",data:=.seq Ē.toArray n}:=by obtain⟨z,Ē,n,r,e⟩:=I.hok l _ hH;exact⟨z,Ē,n,r,r.length,e⟩
def Fy(h:n<=sizeLine):xM n=false:=by unfold xM;exact decide_eq_false (by lia)
end
section
variable{X:Cx}
def oZ:V->List V->Hp->VK->Prop:=λx vs H Q=>∃l xs y,x=.ref l/\vs=[y]/\H l=some (.lst xs)/\xs.length<sizeLine/\Q .non (upd H l<|.lst<|xs++[y])
def ŵ:XX X "list.append" oZ:=by intro Å s a H x vs v us Q I rx rv h;obtain⟨l,xs,y,rfl,rfl,hH,hz,q⟩:=h;cases rx;obtain⟨u,rfl,ru⟩:=rv.one;obtain⟨z,Ē,n,r,hl,e⟩:=I.Lr hH;refine oI bG ⟨_,e,rfl⟩ F.entry_list_append (F.args_list_append_2 _ _) (PySem.list_append l Ē.toArray n u (by rw[Ģ];lia)) ⟨e,?_⟩;refine⟨.non,_,I.Om (its':=Ē++[u]) hH e (by simp) (r.append<|.cons ru .nil) ?_,rfl,q⟩;rw[Ϲ,List.length_singleton];lia
def CN:V->List V->Hp->VK->Prop:=λx vs H Q=>∃l b xs zs,x=.ref l/\vs=[.ref b]/\H l=some (.lst xs)/\H b=some (.lst zs)/\xs.length+zs.length<=sizeLine/\Q .non (upd H l<|.lst<|xs++zs)
def vK:XX X "list.extend" CN:=by
 intro Å s a H x vs v us Q I rx rv h;obtain⟨l,b,xs,zs,rfl,rfl,hH,hB,hz,q⟩:=h;cases rx;obtain⟨u,rfl,ru⟩:=rv.one;cases ru;obtain⟨z,Ē,n,r,hl,e⟩:=I.Lr hH;obtain⟨z2,gZ,n2,r2,DW,e2⟩:=I.Lr hB;have kW:Ē.toArray.size+gZ.toArray.size<=sizeLine:=by rw[Ģ,Ģ];lia
 have On:¬(!Ē.toArray.isEmpty&&xM (Ē.toArray.size+gZ.toArray.size))=true:=by rw[Fy kW,Bool.and_false];exact bE
 refine oI xP ⟨_,e,rfl⟩ F.entry_list_extend (F.args_list_extend_2 _ _)
  (AutoSeq1.list_extend_list_list_0 l Ē.toArray n b gZ.toArray n2 On (by rw[Ģ];lia)<|by lia) ⟨e,e2,?_⟩
 refine⟨.non,_,I.Om (its':=Ē++gZ) hH e (by simp) (r.append r2) ?_,rfl,q⟩;rw[Ϲ];lia
end
end L2
namespace Rt
open PySem PySem.W PySem.Calls PyProof.Rows
def re:∀(ns:List Int) (vs:List Á),WellAll P h vs (ns.map WData.int)->lX vs ns:=by
 intro ns
 induction ns with
 |nil=>intro vs w;rw[Ů]at w;cases w;exact .nil|cons n ns ih=>
  intro vs w;rw[à]at w;cases w with
  |cons a b=>cases a;exact .cons _ _<|ih _ b
def Ej{l:mL}(hn:l.most=some n)
 (JG:l.row.toRowW.claim.pre args=true)(W3:WellAll P h MZ args):
 ∃a vs ns,MZ=[Ń a]/\args=[WData.list<|ns.map WData.int]/\h.get? a=some {cls:=.type "list",data:=.seq vs.toArray}/\lX vs ns/\ns.length<=n:=by
 have Tl:WShape.hasAll [] args [.list .int]=true:=(pre_splitW JG).1;have hc:l.pre.holds [] {args:=args}=true:=(pre_splitW JG).2;obtain⟨d,r,rfl,h1,h2⟩:=hasAllW_cons Tl;obtain rfl:=hasAllW_nil h2;obtain⟨xs,rfl,h3⟩:=hasW_list h1;obtain⟨ns,rfl⟩:=items_int h3;have hlen:ns.length<=n:=by
  unfold OpenLaw.pre at hc;have h4:(WTm.not<|.lt (.lit<|.int (n:Int))<|.len<|.arg 0).holds [] {args:=[.list<|ns.map .int]}=true:=by have h4:=(holds_andW hc).1;rw[hn]at h4;exact h4
  have h5:=condW_of h4<|w_not<|w_lt w_lit<|w_len_list<|w_arg rfl;rw[Ğ]at h5;refine Nat.le_of_not_lt λq=>?_;have q':(n:Int)<((ns.length:Nat):Int):=by lia
  first
   |(rw[decide_eq_true q']at h5;exact absurd h5<|by decide)
   |(simp at h5;lia)
 cases W3 with
 |cons w1 w2=>
  cases w2;cases w1 with
  |list ho hall=>exact⟨_,_,ns,rfl,rfl,ho,re ns _ hall,hlen⟩
def Ek(l:mL)(args:List WData):l.row.toRowW.claim.post args (.bool true) args=true:=
 postW_of (r:=l.row.toRowW) (X:=(true==true))
  (show WShape.has [] (.bool true) .bool=true by first|rfl|decide|simp[WShape.has,WShape.arms,WShape.armsAll])
  (show(WTm.eq .res<|.lit<|.bool true).value [] {args:=args,res:=some<|.bool true,after:=args}=some (.bool<|true==true)from w_eq_bool (w_res rfl) w_lit) rfl
def zR{l:mL}
 (hn:l.most=some n)(M_:d.params.defaults=[])
 (call:∀(w:â) (s₀ s₁:Ã) (mg mb:Str→Option Á) (fa:À) (o:Obj) (pm cd doc:Á) (a:À) (vs:List Á) (ns:List Int),
   Ground q nI [] XP w s₀ mg mb s₁.heap->YP w s₁.heap->
   s₁.heap.get? fa=some o->o.data=.func (docDef d.name d.params d.body d.scope pm cd doc)->s₁.heap.CodeRec cd d.name->mg d.name=some (.ref fa)->
   s₁.heap.get? a=some {cls:=.type "list",data:=.seq vs.toArray}->lX vs ns->ns.length<=n->s₁.gens= #[]->
   dg (Ø l.prog w) ij (.call (.ref fa) ⟨[.ref a],[]⟩) (λr s'=>r=.ok (.ret<|.bool true)/\OldK s₁.heap s'.heap/\s'.os=s₁.os/\fQ s'.gens) s₁):
 sS q nI XP YP l.row.toRowW d [] (λf vs=>sv f vs):=by
 intro w s₀ s₁ mg mb G Y fa o pm cd doc dV kV ho hd wM hD QL hg args MZ as JG Zah hrd W3 hlo;obtain rfl:dV=.none:=Dflts.none hD M_;obtain rfl:kV=.none:=Dflts.noKw hD;obtain⟨a,vs,ns,rfl,rfl,M0,Hb,hlen⟩:=Ej hn JG W3;refine enter_call<|mj (call w s₀ s₁ mg mb fa o pm cd doc a vs ns G Y ho (fd_plain hd) wM QL M0 Hb hlen hg) λr s' hq=>?_;obtain⟨rfl,h2,h3,h4⟩:=hq;exact⟨.inl ⟨.bool true,.bool true,[],rfl,λx=>rfl,.bool true,Ek l _,λx=>⟨B7,λx hm=>(nomatch hm)⟩⟩,h2,h3,h4⟩
end Rt
namespace L2
open PySem PySem.Spec PyProof.Rows
theorem cP:∀{vs:List Á}{ns:List Int},lX vs ns->Ō (ns.map V.int) vs
 |_,_,.nil=>.nil|_,_,.cons n t h=>.cons ⟨t,rfl⟩<|cP h
def M1(H:Hp):Prop:=∀b,H b=none\/(∃o xs,H b=some (.fg o<|.lst xs))\/∃q,H b=some (.ai q)
noncomputable def k_(K:Î):List Str->Hp
 |[]=>λx=>none
 |y::r=>λb=>match Ũ K y with
  |some (_,P)=>if b=P then some (.ai<|gp y)else k_ K r b|none=>k_ K r b
theorem iz{K:Î}:∀{l:List Str}{b:À}{u:HO},k_ K l b=some u->∃y c,y∈l/\Ũ K y=some (c,b)/\u=.ai (gp y)
 |[],_,_,h=>by cases(show(none:Option HO)=some _ from h)|y::r,b,u,h=>by
  have h':(match Ũ K y with
   |some (_,P)=>if b=P then some (.ai<|gp y)else k_ K r b|none=>k_ K r b)=some u:=h
  have rc:k_ K r b=some u->∃z c,z∈y::r/\Ũ K z=some (c,b)/\u=.ai (gp z):=λq=>
   let ⟨z,c,h1,h2,h3⟩:=iz q
   ⟨z,c,þ _ h1,h2,h3⟩
  cases e:Ũ K y with
  |none=>rw[e]at h';exact rc h'|some p=>
   obtain⟨c,P⟩:=p;rw[e]at h';have h2:(if b=P then some (HO.ai<|gp y)else k_ K r b)=some u:=h';by_cases hb:b=P
   ·rw[if_pos hb]at h2;cases h2;exact⟨y,c,Ş,by rw[hb];exact e,rfl⟩
   ·rw[if_neg hb]at h2;exact rc h2
theorem CO{K:Î}(e:Ũ K y=some (c,P)):∀{l:List Str},(∀z∈l,z=y)->y∈l->k_ K l P=some (.ai<|gp y)
 |[],_,h=>by cases h|z::r,h1,_=>by
  have hz:=h1 z Ş;subst hz;show(match Ũ K z with
   |some (_,Q)=>if P=Q then some (HO.ai<|gp z)else k_ K r P|none=>k_ K r P)=_
  rw[e];exact if_pos rfl
def Fz{P:ë}{w:â}{K:Î}{mg mb:Str->Option Á}{CX:iy}{k:Nat}{fa a:À}{fd:Ć}{x:Str}{sp:Sp}{s₁:Ã}{vs:List Á}{ns:List Int}
 (KX:K.In s₁.heap)(zy:s₁.heap.Ns ē mg)(hb:s₁.heap.Ns builtinsNs mb)(hbb:∀x:Str,x≠"__name__" ->mb x=eJ x)(W4:s₁.heap.NoLimit)(hg:s₁.gens= #[])
 (ha:s₁.heap.get? a=some {cls:=.type "list",data:=.seq vs.toArray})(hi:lX vs ns)(hl:ns.length<=sizeLine)(hr:ő k ij)
 (F:∀base:Ò,K.In base->base.Ns ē mg->ϯ P w K mg base CX k fa fd [x] sp)(u_:∀(s:Ã) (u:Á),fV s fd ⟨[u],[]⟩ [(x,u)])
 (zI:∀H:Hp,M1 H->Ϧ K H a (ns.map V.int)->sp [.ref a] H (λv f=>v=.bl true) λf f f=>False)
 (Oo:∀H e s',CX [] H s₁ (λf f f=>False) e s'->False)
 (hnt:lams≠[]->sT K=true)(ET:∀y z,y∈lams->z∈lams->y=z)(zA:∀y c Pt,y∈lams->Ũ K y=some (c,Pt)->xZ s₁.heap c Pt/\s₁.heap.get? Pt=some (PySem.W.tabObj #[])/\s₁.heap.BuiltinsAt mg Pt):
 dg (Ø P w) ij (.call (.ref fa) ⟨[.ref a],[]⟩) (λr s'=>r=.ok (.ret<|.bool true)/\OldK s₁.heap s'.heap/\s'.os=s₁.os/\fQ s'.gens) s₁:=by
 have rv:=cP hi;have W5:=hi.length;have JH:∀H:Hp,M1 H->Ϧ K H a (ns.map V.int)->oh P w H s₁.heap->(∀b,H b≠none->b=a\/∃y c,y∈lams/\Ũ K y=some (c,b))->(H a≠none->K.lookup a=none)->(∀y c Pt,y∈lams->Ũ K y=some (c,Pt)->H Pt=some (.ai<|gp y))->
  dg (Ø P w) ij (.call (.ref fa) ⟨[.ref a],[]⟩) (λr s'=>r=.ok (.ret<|.bool true)/\OldK s₁.heap s'.heap/\s'.os=s₁.os/\fQ s'.gens) s₁:=by
  intro H hO hS hok hA hK hT;have s_:∀{b:À}{o:Obj},s₁.heap.get? b=some o->H b=none->(vk s₁.heap H).get? b=some o:=λe n=>E8 e n;have Of:∀{b:À}{o:Obj}{es:Array ik}{ep:Nat},s₁.heap.get? b=some o->o.data=.dict es ep->H b=none:=fun{b o es ep} e d=>by
   cases q:H b with
   |none=>rfl|some u=>
    rcases hA b (by rw[q];simp)with e'|⟨y,c,hy,lL⟩
    ·subst e';rw[ha]at e;cases e;have d':Data.seq vs.toArray _=Data.dict es ep:=d;cases d'
    ·have e2:=(zA y c b hy lL).2.1;rw[e]at e2;cases e2;cases d
  have Ru:∀{b:À}{m:Str->Option Á},s₁.heap.Ns b m->(vk s₁.heap H).Ns b m:=fun{b m} ⟨o,es,ep,e,d,r⟩=>⟨o,es,ep,s_ e<|Of e d,d,r⟩;have XY:K.In (vk s₁.heap H):=λb o e=>s_ (KX b o e) (by
   cases q:H b with
   |none=>rfl|some u=>
    rcases hA b (by rw[q];simp)with e'|⟨y,c,hy,lL⟩
    ·subst e';rw[hK (by rw[q];simp)]at e;cases e
    ·have e2:=(zA y c b hy lL).2.1;rw[KX b o e]at e2;cases e2;have h2:=c_.mp (hnt (λz=>by rw[z]at hy;cases hy)) (b,_)<|PySem.W.mem_of_lookupK e;exact absurd (show false=true from h2) bE)
  have hM:Mod K mg (vk s₁.heap H):=⟨XY,Ru zy,⟨mb,Ru hb,hbb⟩,let ⟨mc,h1,h2⟩:=W4;⟨mc,Ru h1,h2⟩⟩;have hTB:zt K mg (vk s₁.heap H) H:=λy c Pt hy lL=>by
   obtain⟨⟨o,us,file,tf,Kt,tg,inF,text,tt,e1,r1,r2⟩,_,bm,ob,b1,b2,b3,b4,b5,b6,b7⟩:=zA y c Pt hy lL;refine⟨⟨o,us,file,tf,Kt,tg,inF,text,tt,s_ e1 ?_,r1,r2⟩,hT y c Pt hy lL,bm,ob,b1,b2,b3,b4,s_ b5 ?_,b6,b7⟩
   rotate_left
   ·cases q:H bm with
    |none=>rfl|some u=>
     rcases hA bm (by rw[q];simp)with e'|⟨z,c2,hz,T5⟩
     ·rw[e',ha]at b5;cases b5;exact absurd (sP b6) (by decide)
     ·have e2:=(zA z c2 bm hz T5).2.1;rw[b5]at e2;cases e2;cases b6
   cases q:H c with
   |none=>rfl|some u=>
    rcases hA c (by rw[q];simp)with e'|⟨z,c2,hz,T5⟩
    ·rw[e',ha]at e1;cases e1;exact absurd (sP r1) (by decide)
    ·have e2:=(zA z c2 c hz T5).2.1;rw[e1]at e2;cases e2;cases r1
  have e0:zO P w K mg (vk s₁.heap H) ij [] s₁ H:=⟨rfl,hM,λb o e=>HI e,rY<|D6 _ _,trivial,λb hb=>absurd (show b∈([]:List À)from hb) (by simp),hok,.of_eq hg,hTB⟩;refine mj ((F _ XY<|Ru zy).run ij [] s₁ H ⟨[.ref a],[]⟩ [.ref a] [.ref a] _ _ hr e0 (u_ s₁<|.ref a) (.cons rfl .nil) (zI H hO hS)) λr s' h=>?_;cases r with
  |error e=>exact(Oo H e s' h).elim|ok fl=>
   cases fl with
   |next=>exact aK h|brk=>exact aK h|cont=>exact aK h|ret u=>
    obtain⟨v,H',os,bare,un,M6,r',q⟩:=h;have q':v=.bl true:=q;subst q';obtain rfl:u=eS true:=r';have oi:∀b o,s₁.heap.get? b=some o->(∀t,H b≠some (.ai t))->s'.heap.get? b=some o:=?_
    ·refine⟨rfl,⟨λb o e=>?_,λb o e=>?_⟩,os,bare⟩
     ·by_cases ht:∃t,H b=some (.ai t)
      ·obtain⟨t,ht⟩:=ht;obtain⟨ps,e1,_⟩:=M6 b _<|un.q_ b t ht;rcases hA b (by rw[ht];simp)with e'|⟨y,c,hy,lL⟩
       ·subst e';obtain⟨ps2,e3,_⟩:=hok b _ ht;rw[ha]at e3;cases e3
       ·obtain⟨⟨o2,us,file,tf,Kt,tg,inF,text,tt,f1,f2,f3,f4,_⟩,e2,_⟩:=zA y c b hy lL;rw[e]at e2;cases e2;exact .inr (.inl ⟨⟨c,o2,us,f1,f2,f3,f4⟩,rfl,#[],ps,rfl,by rw[e1];simp⟩)
      ·exact .inl<|oi b o e λt z=>ht ⟨t,z⟩
     ·by_cases ht:∃t,H b=some (.ai t)
      ·obtain⟨t,ht⟩:=ht;obtain⟨ps,e1,_⟩:=M6 b _<|un.q_ b t ht;exact⟨_,e1⟩
      ·exact⟨o,oi b o e λt z=>ht ⟨t,z⟩⟩
    intro b o e nt;cases q:H b with
    |none=>exact un.keep b o e q (by intro z;exact absurd (show b∈([]:List À)from z)<|by simp) (by simp)|some u=>
     rcases hO b with z|⟨ob,xs,z⟩|⟨t,z⟩
     ·rw[q]at z;cases z
     rotate_left
     ·exact absurd z<|nt t
     ·have z2:=un.vj b ob _ z;obtain⟨e1,_⟩:=hok b _ z;obtain⟨e2,_⟩:=M6 b _ z2;rw[e]at e1;cases e1;exact e2
 cases hk:K.lookup a with
 |some o=>
  have e:=KX a o hk;rw[ha]at e;cases e;refine JH (k_ K lams) (λb=>?_) (.inr ⟨_,vs.toArray,_,hk,rfl,rfl,rfl,by rw[Ģ,W5];exact hl,by simpa using rv⟩) (λb u z=>?_) (λb z=>?_) (λz=>?_) λy c Pt hy lL=>CO lL (λz hz=>ET z y hz hy) hy
  ·cases q:k_ K lams b with
   |none=>exact .inl rfl|some u=>obtain⟨y,c,_,_,rfl⟩:=iz q;exact .inr<|.inr ⟨_,rfl⟩
  ·obtain⟨y,c,hy,lL,rfl⟩:=iz z;exact⟨#[],(zA y c b hy lL).2.1,trivial,λpos cv z=>by cases z⟩
  ·cases q:k_ K lams b with
   |none=>exact absurd q z|some u=>obtain⟨y,c,hy,lL,_⟩:=iz q;exact .inr ⟨y,c,hy,lL⟩
  ·cases q:k_ K lams a with
   |none=>exact absurd q z|some u=>obtain⟨y,c,hy,lL,_⟩:=iz q;have e2:=(zA y c a hy lL).2.1;rw[ha]at e2;cases e2
 |none=>
  refine JH (λb=>if b=a then some (.fg {cls:=.type "list",data:=.seq vs.toArray} (.lst<|ns.map V.int))else k_ K lams b) (λb=>?_) (.inl<|.inr ⟨{cls:=.type "list",data:=.seq vs.toArray},if_pos rfl⟩) (λb u z=>?_) (λb z=>?_) (λf=>hk) λy c Pt hy lL=>?_
  ·by_cases hb:b=a
   ·exact .inr<|.inl ⟨_,_,if_pos hb⟩
   ·cases q:k_ K lams b with
    |none=>exact .inl<|(if_neg hb).trans q|some u=>obtain⟨y,c,_,_,rfl⟩:=iz q;exact .inr<|.inr ⟨_,(if_neg hb).trans q⟩
  ·by_cases hb:b=a
   ·have z':=(if_pos hb).symm.trans z;cases z';subst hb;exact⟨ha,by rw[Ğ];exact hl,vs,_,rv,ha⟩
   ·have z':=(if_neg hb).symm.trans z;obtain⟨y,c,hy,lL,rfl⟩:=iz z';exact⟨#[],(zA y c b hy lL).2.1,trivial,λpos cv z=>by cases z⟩
  ·by_cases hb:b=a
   ·exact .inl hb
   ·cases q:k_ K lams b with
    |none=>exact absurd ((if_neg hb).trans q) z|some u=>obtain⟨y,c,hy,lL,_⟩:=iz q;exact .inr ⟨y,c,hy,lL⟩
  ·have ne:Pt≠a:=fun z=>by
    subst z;have e2:=(zA y c _ hy lL).2.1;rw[ha]at e2;cases e2
   exact(if_neg ne).trans (CO lL (λz hz=>ET z y hz hy) hy)
def H_{K:Î}(T:Top p nI W6 mg mb h)(X:K.In h)(hr:(sj p).find? (λe=>e.name==x)=some d)(ht:Ũ K x=some (c,P)):
 xZ h c P/\h.get? P=some (PySem.W.tabObj #[])/\h.BuiltinsAt mg P:=by
 obtain⟨h1,h2⟩:=PySem.W.tab_of T X hr ht;obtain⟨bm,ob,b1,b2,b3,b4,b5,b6⟩:=T.bmain;have Tn:bm≠P:=λq=>by rw[q,h2]at b3;cases b3;cases b4
 have hbG:bm≠ē:=λq=>by obtain⟨o,es,ep,e,hd,_⟩:=T.g;rw[q,e]at b3;cases b3;rw[hd]at b6;cases b6
 exact⟨h1,h2,bm,ob,b1,b2,hbG,Tn,b3,b4,b5,b6⟩
def H0{l:mL}{n k:Nat}{q:ë}{nI:List Str}{XP:(Str->Option Á)->Ò->Prop}{YP:â->Ò->Prop}{d:DefRec}{K:ii->Î}{CX:â->iy}{sp:â->Sp}{x:Str}
 (hn:l.most=some n)(Tk:n<=sizeLine)(M_:d.params.defaults=[])(hr:ő k ij)
 (hY:∀(w:â) (h:Ò),YP w h->(K w.params).In h)
 (F:∀(w:â) (mg:Str→Option Á) (fa:À) (h:Ò),(K w.params).In h→h.Ns ē mg→mg d.name=some (.ref fa)→
   ∃fd:Ć,(∀(s:Ã) (u:Á),fV s fd ⟨[u],[]⟩ [(x,u)])/\
    ∀base:Ò,(K w.params).In base->base.Ns ē mg->ϯ l.prog w (K w.params) mg base (CX w) k fa fd [x] (sp w))
 (zI:∀(w:â) (H:Hp) (a:À) (ns:List Int),ns.length<=n->M1 H->Ϧ (K w.params) H a (ns.map V.int)->sp w [.ref a] H (λv i=>v=.bl true) λi i i=>False)
 (Oo:∀(w:â) (H:Hp) (s:Ã) (e:Á) (s':Ã),CX w [] H s (λi i i=>False) e s'->False)
 (hnt:lams≠[]->∀w:â,sT (K w.params)=true:=by intro z;exact absurd rfl z)(ET:∀y z,y∈lams->z∈lams->y=z:=by simp[lams])(hrec:∀y,y∈lams->∃d,(sj q).find? (λe=>e.name==y)=some d:=by simp[lams]):
 sS q nI XP YP l.row.toRowW d [] (λf vs=>sv f vs):=by
 refine Rt.zR hn M_ λw s₀ s₁ mg mb fa o pm cd doc a vs ns G Y ho hd wM QL M0 Hb hlen hg=>?_;have KX:=hY w _ Y;obtain⟨fd,hb,hF⟩:=F w mg fa _ KX G.T.g QL;exact Fz KX G.T.g G.T.b G.T.builtins G.T.nolimit hg M0 Hb (Ţ hlen Tk) hr hF hb (λH hO hS=>zI w H a ns hlen hO hS) (λH e s'=>Oo w H s₁ e s') (λz=>hnt z w) ET λy c Pt hy lL=>let ⟨_,hr'⟩:=hrec y hy;H_ G.T KX hr' lL
noncomputable def Ϯ(s:è)(j:Nat):è:=match s with
 |.ClassDef _ _ _ body _ _ _ _ _ _ _=>body.getD j<|.Pass ⟨0,0,0,0⟩|_=>.Pass ⟨0,0,0,0⟩
noncomputable def ŏ(s:è):ie:=match s with
 |.FunctionDef _ a _ _ _ _ _ _ _ _=>a|_=>{posonlyargs:=[],args:=[],vararg:=none,kwonlyargs:=[],kw_defaults:=[],kwarg:=none,defaults:=[]}
noncomputable def ğ(s:è):List è:=match s with
 |.FunctionDef _ _ b _ _ _ _ _ _ _=>b|_=>[]
noncomputable def ç(s:è):ú:=match s with
 |.FunctionDef _ _ _ _ _ _ sc _ _ _=>sc|_=>{kind:=.function,names:=[],isGenerator:=false,isCoroutine:=false}
abbrev AJ:iy:=λx x x x x x=>False
structure El(K:Î)(x qual:Str)(st:è)(f:À)(fd:Ć):Prop where
 ex:∃(oc:Á) (od:Option À) (kV doc pm:Á) (an:Option À) (cdv ct:Á) (zx:Array (Option Á)),
   fd=ŉ x qual (ŏ st) (ğ st) (ç st) .none kV doc pm an cdv ct/\K.lookup f=some ⟨oc,od,.func fd,zx⟩/\fY K cdv qual=true
 kp:ϫ K (.ref f)=true
section
variable{K:Î}
def El.binds{st:è}(F:El K x qual st f fd)
 (h:∀(kV doc pm:Á) (an:Option À) (cdv ct:Á) (us:List Á),us.length=ps.length->dh (ŉ x qual (ŏ st) (ğ st) (ç st) .none kV doc pm an cdv ct) ⟨us,[]⟩=î (ps.zip us)):Binds K fd ps []:=by
 obtain⟨oc,od,kV,doc,pm,an,cdv,ct,zx,rfl,lk,wM⟩:=F.ex;exact .all<|h kV doc pm an cdv ct
def FA{st:è}{kV doc pm cdv ct:Á}(l:K.lookup f=some ⟨oc,od,.func<|ŉ x qual (ŏ st) (ğ st) (ç st) .none kV doc pm an cdv ct,zx⟩)
 (c:fY K cdv qual=true)(k:ϫ K (.ref f)=true):El K x qual st f (ŉ x qual (ŏ st) (ğ st) (ç st) .none kV doc pm an cdv ct):=⟨⟨oc,od,kV,doc,pm,an,cdv,ct,zx,rfl,l,c⟩,k⟩
end
section
variable{X:Cx}
def pv(i:Nat){x:Str}{pos:Pos}(hk:D8 X i x=true:=by kernel_rfl):PE X (.Name x pos) (iS i):=nq hk
end
def Ú(H H':Hp):Prop:=∀b o,H b=some o->H' b=some o
def Ú.refl(H:Hp):Ú H H:=λx x h=>h
def Đ:Ú H H:=Ú.refl H
def Ú.trans(a:Ú H H1)(b:Ú H1 H2):Ú H H2:=λc o h=>b c o<|a c o h
def Ú.free(e:Ú H H')(h:H' l=Option.none):H l=Option.none:=by
 cases q:H l with
 |none=>rfl|some o=>rw[e l o q]at h;cases h
def Ú.seq{K:Î}(e:Ú H H')(h:Ϧ K H a xs):Ϧ K H' a xs:=by
 rcases h with(h|⟨o,h⟩)|h
 ·exact .inl<|.inl<|e _ _ h
 ·exact .inl<|.inr ⟨o,e _ _ h⟩
 ·exact .inr h
end L2
namespace M2
open PySem PySem.Spec PyProof.Rows L2
section
variable{X:Cx}{a b c e:Ç}{ta tb tc te:TE}{pos:Pos}
def PE.wk(h:PE X e t)(i:∀d H Q,t' d H Q->t d H Q):PE X e t':=λÅ s d H Q I q=>h Å s d H Q I<|i d H Q q
def PS.wk{st:è}(h:PS X st t)(i:∀D d H,t' D d H->t D d H):PS X st t':=λÅ s d H D I q=>h Å s d H D I<|i D d H q
def aF.wk(h:aF X f r)(i:∀x y H Q,r' x y H Q->r x y H Q):aF X f r':=λÅ s d H x y v u Q I rx ry q=>h Å s d H x y v u Q I rx ry<|i x y H Q q
def HN.wk(h:HN X f r)(i:∀x H Q,r' x H Q->r x H Q):HN X f r':=λÅ s d H x v Q I rx q=>h Å s d H x v Q I rx<|i x H Q q
def Ř.wk(h:Ř X f r)(i:∀xs H Q,r' xs H Q->r xs H Q):Ř X f r':=λÅ s d H xs us Q I r q=>h Å s d H xs us Q I r<|i xs H Q q
def AI.wk(h:AI X r)(i:∀x y H Q,r' x y H Q->r x y H Q):AI X r':=λva sl Å s d H x y v u Q I rx ry q=>h va sl Å s d H x y v u Q I rx ry<|i x y H Q q
def CK.wk(h:CK X r)(i:∀x lo hi H Q,r' x lo hi H Q->r x lo hi H Q):CK X r':=λÅ s d H x v vl vu lo hi sl Q I rx hs pl pu q=>h Å s d H x v vl vu lo hi sl Q I rx hs pl pu<|i x lo hi H Q q
def Ls(i:Nat):TE:=λd H Q=>match d[i]?with
 |some (some v)=>Q v H|_=>False
def Ia{d:ć}(h:Ls i d H Q):iS i d H Q:=by
 unfold Ls at h;split at h
 ·exact⟨_,by assumption,h⟩
 ·exact h.elim
def mv(i:Nat){x:Str}{pos:Pos}(hk:D8 X i x=true:=by kernel_rfl):PE X (.Name x pos) (Ls i):=PE.wk (nq hk) λy y y h=>Ia h
def Nq(x:V)(k:Bool->Prop):Prop:=match x with
 |.bl c=>k c|_=>False
def nL(h:Nq x k):∃c,x=.bl c/\k c:=by
 cases x with
 |bl c=>exact⟨c,rfl,h⟩|_=>exact h.elim
def FC(t:TE):TT:=λd H Q=>t d H λx H1=>Nq x λc=>Q c H1
def Lu(ho:aF X (ĭ op) r)(ha:PE X a ta)(hb:PE X b tb)(hm:lZ op b=false):PT X (.Compare a [op] [b] pos) (FC<|JU r ta tb):=by
 intro Å s d H Q I h;refine wpAny_isTrue_Compare1 (ώ (ha Å s d H _ I h) λv s1 ⟨x,H1,I1,r1,q1⟩=>ώ (hb Å s1 d H1 _ I1 q1) λu s2 ⟨y,H2,I2,r2,q2⟩=>
  ώ (ho Å s2 d H2 x y v u _ I2 r1 r2 q2) λc s3 ⟨z,H3,I3,r3,q3⟩=>?_) hm
 obtain⟨k,e,q3⟩:=nL q3;subst e;cases r3;exact eM ⟨H3,I3,q3⟩
def A5(r r':R2)(ta tb tc:TE):TE:=λd H Q=>ta d H λx H1=>tb d H1 λy H2=>r x y H2 λz H3=>Nq z λk=>
 (if k=true then tc d H3 λw' H4=>r' y w' H4 Q else Q (.bl false) H3)
def FD{op BP:fU}{r r':R2}(ho:aF X (ĭ op) r)(BK:aF X (ĭ BP) r')(ha:PE X a ta)(hb:PE X b tb)(hc:PE X c tc)
 (hm:lastMarks [op,BP] [b,c]=false:=by with_unfolding_all rfl):PE X (.Compare a [op,BP] [b,c] pos) (A5 r r' ta tb tc):=by
 intro Å s f H Q I h;refine Compare_chain (ώ (ha Å s f H _ I h) λv s1 ⟨x,H1,I1,r1,q1⟩=>chain_link (ώ (hb Å s1 f H1 _ I1 q1) λu s2 ⟨y,H2,I2,r2,q2⟩=>
  ώ (ho Å s2 f H2 x y v u _ I2 r1 r2 q2) λd s3 ⟨z,H3,I3,r3,q3⟩=>?_)) hm
 obtain⟨k,e,q3⟩:=nL q3;subst e;cases r3;refine eM ?_;cases k with
 |false=>exact ite_ff ⟨.bl false,H3,I3,rfl,q3⟩|true=>exact ite_tt<|chain_last<|ώ (hc Å s3 f H3 _ I3 q3) λw' s4 ⟨z',H4,I4,r4,q4⟩=>BK Å s4 f H4 y z' u w' Q I4 r2 r4 q4
def FE{op BP:fU}{r r':R2}(ho:aF X (ĭ op) r)(BK:aF X (ĭ BP) r')(ha:PE X a ta)(hb:PE X b tb)(hc:PE X c tc)
 (hm:lastMarks [op,BP] [b,c]=false:=by with_unfolding_all rfl):PT X (.Compare a [op,BP] [b,c] pos) (FC<|A5 r r' ta tb tc):=by
 intro Å s f H Q I h;refine isTrue_chain (ώ (ha Å s f H _ I h) λv s1 ⟨x,H1,I1,r1,q1⟩=>test_link (ώ (hb Å s1 f H1 _ I1 q1) λu s2 ⟨y,H2,I2,r2,q2⟩=>
  ώ (ho Å s2 f H2 x y v u _ I2 r1 r2 q2) λd s3 ⟨z,H3,I3,r3,q3⟩=>?_)) hm
 obtain⟨k,e,q3⟩:=nL q3;subst e;cases r3;refine eM ?_;cases k with
 |false=>exact ite_ff ⟨H3,I3,q3⟩|true=>refine ite_tt<|test_last<|ώ (hc Å s3 f H3 _ I3 q3) λw' s4 ⟨z',H4,I4,r4,q4⟩=>ώ (BK Å s4 f H4 y z' u w' _ I4 r2 r4 q4) λd' s5 zz=>?_;obtain⟨z2,H5,I5,r5,q5⟩:=zz;obtain⟨k2,e2,q5⟩:=nL q5;subst e2;cases r5;exact eM ⟨H5,I5,q5⟩
def Op(ta tb:TE):TE:=λd H Q=>ta d H λx H1=>Nq x λc=>if c=true then tb d H1 Q else Q (.bl false) H1
def T6(ta tb:TE):TE:=λd H Q=>ta d H λx H1=>Nq x λc=>if c=true then Q (.bl true) H1 else tb d H1 Q
def Oq(ta:TE):TE:=λd H Q=>ta d H λx H1=>Nq x λc=>Q (.bl<|!c) H1
variable{rest:List Ç}
def Lv(ha:PE X a ta)(hb:PE X (.BoolOp .And (b::rest) pos) tb):PE X (.BoolOp .And (a::b::rest) pos) (Op ta tb):=by
 intro Å s d H Q I h;refine BoolOp_and<|ώ (ha Å s d H _ I h) λv s1 zz=>?_;obtain⟨x,H1,I1,r1,q1⟩:=zz;obtain⟨c,rfl,q1⟩:=nL q1;cases r1;refine eM ?_;cases c with
 |true=>exact hb Å s1 d H1 Q I1 q1|false=>exact⟨.bl false,H1,I1,rfl,q1⟩
def Ot(ha:PE X a ta)(hb:PE X (.BoolOp .Or (b::rest) pos) tb):PE X (.BoolOp .Or (a::b::rest) pos) (T6 ta tb):=by
 intro Å s d H Q I h;refine BoolOp_or<|ώ (ha Å s d H _ I h) λv s1 zz=>?_;obtain⟨x,H1,I1,r1,q1⟩:=zz;obtain⟨c,rfl,q1⟩:=nL q1;cases r1;refine eM ?_;cases c with
 |false=>exact hb Å s1 d H1 Q I1 q1|true=>exact⟨.bl true,H1,I1,rfl,q1⟩
def Lw(ha:PE X a ta):PE X (.UnaryOp .Not a pos) (Oq ta):=by intro Å s d H Q I h;refine UnaryOp_<|ώ (ha Å s d H _ I h) λv s1 zz=>?_;obtain⟨x,H1,I1,r1,q1⟩:=zz;obtain⟨c,rfl,q1⟩:=nL q1;cases r1;exact not_of<|eM ⟨.bl<|!c,H1,I1,rfl,q1⟩
def mI(C:Int->Int->Prop)(g:Int->Int->V):R2:=λx y H Q=>match x,y with
 |.int i,.int j=>C i j/\Q (g i j) H|_,_=>False
def A6(g:Int->Int->V):R2:=λx y H Q=>match x,y with
 |.int i,.int j=>Q (g i j) H|_,_=>False
def vL(x y:V)(H:Hp)(Q:VK)(h:mI C g x y H Q):rI C g x y H Q:=by
 cases x with
 |int i=>
  cases y with
  |int j=>exact⟨i,j,rfl,rfl,h.1,h.2⟩|_=>exact h.elim
 |_=>exact h.elim
def qj(x y:V)(H:Hp)(Q:VK)(h:A6 g x y H Q):Hr g x y H Q:=by
 cases x with
 |int i=>
  cases y with
  |int j=>exact⟨i,j,rfl,rfl,h⟩|_=>exact h.elim
 |_=>exact h.elim
def Ou:R2:=λx y H Q=>match x,y with
 |.int i,.int j=>Q (.int<|i+j) H|.str i,.str j=>i.length+j.length<=sizeLine/\Q (.str<|i++j) H|_,_=>False
def Lx:aF X (ň .Add) Ou:=aF.wk (K9.or AX) λx y H Q h=>by
 cases x with
 |int i=>
  cases y with
  |int j=>exact .inl ⟨i,j,rfl,rfl,h⟩|_=>exact h.elim
 |str i=>
  cases y with
  |str j=>exact .inr ⟨i,j,rfl,rfl,h.1,h.2⟩|_=>exact h.elim
 |_=>exact h.elim
def Ly:aF X (ň .Sub) (A6 λi j=>.int<|i-j):=aF.wk La qj
def vM(i j:Int):Prop:=K8 i j\/(sE i<=1048576/\sE j<=1048576)
theorem vM.ok(h:vM i j):IntMulOk i j:=by
 rcases h with h|⟨h1,h2⟩
 ·exact h.ok
 ·exact IntMulOk.of_le h1 h2 (by decide)
def Lz:aF X (ň .Mult) (mI vM λi j=>.int<|i*j):=aF.wk (CJ (C:=vM) (g:=λi j=>i*j) λx x x x x x x hc q=>mul_int q hc.ok) vL
def Em(_ j:Int):Prop:=j≠0/\sE j<=8000
def Em.py(h:Em i j):Builtin.divisionGoesByPylong i j=false:=by
 refine PyProof.noPylong_of_log2 ?_;have hb:=intBits_le_iff.mp h.2;have h0:j.natAbs≠0:=by have:=h.1;lia
 exact š ((Nat.log2_lt h0).mpr hb) (by decide)
def Ib:aF X (ň .FloorDiv) (mI Em λi j=>.int<|i.fdiv j):=aF.wk (CJ (C:=Em) (g:=λi j=>i.fdiv j) λx x x x x x x hc q=>floordiv_int hc.1 q<|.inl hc.py) vL
def LA:aF X (ň .Mod) (mI (λx j=>j≠0) λi j=>.int<|i.fmod j):=aF.wk HQ vL
def A7:aF X (ň .Pow) (mI Ec λi j=>.int<|i^j.toNat):=aF.wk Lb vL
def gt:aF X (ĭ .Lt) (A6 λi j=>.bl<|decide<|i<j):=aF.wk Ob qj
def aX:aF X (ĭ .LtE) (A6 λi j=>.bl<|decide<|i<=j):=aF.wk Oc qj
def FF:aF X (ĭ .Gt) (A6 λi j=>.bl<|decide<|j<i):=aF.wk Od qj
def Ov:aF X (ĭ .GtE) (A6 λi j=>.bl<|decide<|j<=i):=aF.wk Oe qj
def mU(g:Int->V):V->Hp->VK->Prop:=λx H Q=>match x with
 |.int i=>Q (g i) H|_=>False
def iU:HN X (unaryOp .USub) (mU λi=>.int<|-i):=HN.wk Fi λx H Q h=>by
 cases x with
 |int i=>exact⟨i,rfl,h⟩|_=>exact h.elim
def M7:List V->Hp->VK->Prop:=λxs H Q=>match xs with
 |[.int i]=>Q (.int<|if i<0then -i else i) H|_=>False
def yB:Ř X (.builtin "abs") M7:=Ř.wk Fm λxs H Q h=>by
 unfold M7 at h;split at h
 ·exact⟨_,rfl,h⟩
 ·exact h.elim
def FG:List V->Hp->VK->Prop:=λxs H Q=>match xs with
 |[.int i,.int j]=>Q (.int<|if j<i then j else i) H|_=>False
def Ic(hc:X.calm=true):Ř X (.builtin "min") FG:=Ř.wk (Ee hc) λxs H Q h=>by
 unfold FG at h;split at h
 ·exact⟨_,_,rfl,h⟩
 ·exact h.elim
def FH:List V->Hp->VK->Prop:=λxs H Q=>match xs with
 |[.int i,.int j]=>Q (.int<|if j>i then j else i) H|_=>False
def Ie(hc:X.calm=true):Ř X (.builtin "max") FH:=Ř.wk (Ed hc) λxs H Q h=>by
 unfold FH at h;split at h
 ·exact⟨_,_,rfl,h⟩
 ·exact h.elim
def LB(K:Î):List V->Hp->VK->Prop:=λxs H Q=>match xs with
 |[.str y]=>y.length<=sizeLine/\Q (.int (y.length:Int)) H|[.ref p]=>∃ys,(Ϧ K H p ys\/gj K H p ys)/\Q (.int (ys.length:Int)) H|_=>False
def ĳ:Ř X (.builtin "len") (LB X.K):=Ř.wk Fn λxs H Q h=>by
 unfold LB at h;split at h
 ·exact⟨_,_,rfl,⟨h.1,rfl⟩,h.2⟩
 ·obtain⟨ys,h1,h2⟩:=h;refine⟨_,ys.length,rfl,?_,h2⟩;rcases h1 with h1|h1
  ·exact .inl ⟨ys,h1,rfl⟩
  ·exact .inr ⟨ys,h1,rfl⟩
 ·exact h.elim
def XZ(K:Î):R2:=λx y H Q=>match x,y with
 |.ref p,.int i=>∃xs v,(Ϧ K H p xs\/gj K H p xs)/\nr xs i=some v/\Q v H|.str z,.int i=>∃c,z.length<=sizeLine/\nr z.cps.toList i=some c/\Q (.str ⟨#[c]⟩) H|_,_=>False
def Ow:AI X (XZ X.K):=AI.wk A3 λx y H Q h=>by
 cases x with
 |ref p=>
  cases y with
  |int i=>
   obtain⟨xs,v,h1,h2,h3⟩:=h;rcases h1 with h1|h1
   ·exact .inl ⟨p,xs,i,v,rfl,rfl,h1,h2,h3⟩
   ·exact .inr<|.inl ⟨p,xs,i,v,rfl,rfl,h1,h2,h3⟩
  |_=>exact h.elim
 |str z=>
  cases y with
  |int i=>obtain⟨c,h1,h2,h3⟩:=h;exact .inr<|.inr ⟨z,i,c,rfl,rfl,h1,h2,h3⟩|_=>exact h.elim
 |_=>exact h.elim
def iOf(x:V)(k:Int->Prop):Prop:=match x with
 |.int i=>k i|_=>False
def Ox(t:TE):TO:=λd H Q=>t d H λx H1=>iOf x λi=>Q (some i) H1
def FI(h:PE X e te):PO X (some e) (Ox te):=by
 intro Å s d H Q I hw;rw[evalPart_some];refine ώ (h Å s d H _ I hw) λu s1 zz=>?_;obtain⟨x,H1,I1,r1,q1⟩:=zz;cases x with
 |int i=>obtain⟨t,rfl⟩:=r1;exact⟨some i,H1,I1,.int i t,q1⟩|_=>exact q1.elim
def T7(K:Î):V->Option Int->Option Int->Hp->VK->Prop:=λx lo hi H Q=>match x with
 |.ref a=>∃xs,Ϧ K H a xs/\∀p,H p=none->Q (.ref p) (upd H p<|.lst<|zP xs lo hi)|_=>False
def FJ:CK X (T7 X.K):=CK.wk HY λx lo hi H Q h=>by
 cases x with
 |ref a=>obtain⟨xs,h1,h2⟩:=h;exact⟨a,xs,rfl,h1,h2⟩|_=>exact h.elim
end
mutual
def Rp(K:Î)(H:Hp):aT->V->Prop
 |.none,v=>v=.non|.bool b,v=>v=.bl b|.int i,v=>v=.int i|.str x,v=>v=.str x|.tuple ds,v=>∃a xs,v=.ref a/\gj K H a xs/\o_ K H ds xs|.list ds,v=>∃a xs,v=.ref a/\Ϧ K H a xs/\o_ K H ds xs|.dict _,_=>False
def o_(K:Î)(H:Hp):List aT->List V->Prop
 |[],xs=>xs=[]|d::ds,xs=>∃x r,xs=x::r/\Rp K H d x/\o_ K H ds r
end
def Ú.tup{K:Î}(e:Ú H H')(h:gj K H a xs):gj K H' a xs:=by
 rcases h with(h|⟨o,h⟩)|h
 ·exact .inl<|.inl<|e _ _ h
 ·exact .inl<|.inr ⟨o,e _ _ h⟩
 ·exact .inr h
theorem Ú.upd(h:H p=none):Ú H (upd H p o):=λb u e=>by rw[ñ<|č e h];exact e
mutual
theorem Rp.same{K:Î}{H H':Hp}(e:Ú H H'):∀(d:aT) (v:V),Rp K H d v->Rp K H' d v
 |.none,_,h=>by unfold Rp at h⊢;exact h|.bool _,_,h=>by unfold Rp at h⊢;exact h|.int _,_,h=>by unfold Rp at h⊢;exact h|.str _,_,h=>by unfold Rp at h⊢;exact h|.tuple ds,_,h=>by unfold Rp at h⊢;obtain⟨a,xs,h1,h2,h3⟩:=h;exact⟨a,xs,h1,Ú.tup e h2,o_.same e ds xs h3⟩|.list ds,_,h=>by unfold Rp at h⊢;obtain⟨a,xs,h1,h2,h3⟩:=h;exact⟨a,xs,h1,e.seq h2,o_.same e ds xs h3⟩|.dict _,_,h=>by unfold Rp at h;exact h.elim
theorem o_.same{K:Î}{H H':Hp}(e:Ú H H'):∀(ds:List aT) (xs:List V),o_ K H ds xs->o_ K H' ds xs
 |[],_,h=>by unfold o_ at h⊢;exact h|d::ds,_,h=>by unfold o_ at h⊢;obtain⟨x,r,h1,h2,h3⟩:=h;exact⟨x,r,h1,Rp.same e d x h2,o_.same e ds r h3⟩
end
section
variable{X:Cx}{Å:List (À×Obj)}{σ:ć}{H:Hp}{s:Ã}
mutual
theorem Rp.reads(I:Inv X Å σ H s):∀(d:aT) (v:V) (u:Á),Rp X.K H d v->RelV v u->∃as,Reads s.heap u d as
 |.none,v,u,h,r=>by unfold Rp at h;subst h;cases r;exact⟨_,.none⟩|.bool b,v,u,h,r=>by unfold Rp at h;subst h;cases r;exact⟨_,.bool b⟩|.int i,v,u,h,r=>by unfold Rp at h;subst h;obtain⟨t,rfl⟩:=r;exact⟨_,.int i t⟩|.str x,v,u,h,r=>by unfold Rp at h;subst h;obtain⟨t,rfl⟩:=r;exact⟨_,.str x t⟩|.tuple ds,v,u,h,r=>by unfold Rp at h;obtain⟨a,xs,h1,h2,h3⟩:=h;subst h1;cases r;obtain⟨Ē,rv,⟨o,e,hc,n,hd⟩,hz⟩:=I.tuple h2;obtain⟨as,ra⟩:=o_.reads I ds xs Ē h3 rv;exact⟨_,.tuple e hc hd<|by simpa using ra⟩|.list ds,v,u,h,r=>by unfold Rp at h;obtain⟨a,xs,h1,h2,h3⟩:=h;subst h1;cases r;obtain⟨Ē,rv,⟨o,n,e,hc,hdd,hd⟩,hz⟩:=I.list h2;obtain⟨as,ra⟩:=o_.reads I ds xs Ē h3 rv;exact⟨_,.list e hc hd<|by simpa using ra⟩|.dict _,_,_,h,_=>by unfold Rp at h;exact h.elim
theorem o_.reads(I:Inv X Å σ H s):∀(ds:List aT) (xs:List V) (us:List Á),o_ X.K H ds xs->Ō xs us->∃as,ReadsAll s.heap us ds as
 |[],xs,us,h,r=>by unfold o_ at h;subst h;cases r;exact⟨_,.nil⟩|d::ds,xs,us,h,r=>by
  unfold o_ at h;obtain⟨x,q,h1,h2,h3⟩:=h;subst h1;cases r with
  |cons r1 r2=>obtain⟨as,ra⟩:=Rp.reads I d x _ h2 r1;obtain⟨bs,rb⟩:=o_.reads I ds q _ h3 r2;exact⟨_,.cons ra rb⟩
end
end
def Ig(K:Î)(JI:Bool):R2:=λx y H Q=>∃d e,Rp K H d x/\Rp K H e y/\d.canLay0=true/\e.canLay0=true/\min d.depth e.depth<=60/\Q (.bl<|if JI then !PyData.eqv d e else ł d e) H
section
variable{X:Cx}
def FK(hu:X.A.units+64<ż):aF X (ĭ .Eq) (Ig X.K false):=by intro Å s a H x y v u Q I rx ry h;obtain⟨d,e,h1,h2,h3,h4,h5,q⟩:=h;obtain⟨as,ra⟩:=Rp.reads I d x v h1 rx;obtain⟨bs,rb⟩:=Rp.reads I e y u h2 ry;exact SeqAt.compareEq_reads ra rb h3 h4 (by lia) ⟨.bl _,H,I,rfl,q⟩
def A8(hu:X.A.units+64<ż):aF X (ĭ .NotEq) (Ig X.K true):=by intro Å s a H x y v u Q I rx ry h;obtain⟨d,e,h1,h2,h3,h4,h5,q⟩:=h;obtain⟨as,ra⟩:=Rp.reads I d x v h1 rx;obtain⟨bs,rb⟩:=Rp.reads I e y u h2 ry;exact SeqAt.compareNe_reads ra rb h3 h4 (by lia) ⟨.bl _,H,I,rfl,q⟩
end
end M2
namespace M3
open PySem PySem.Spec PyProof.Rows L2 M2
def CP(x:oh P w H h)(hC:H C=none)(k:∀b u,b≠C->h.get? b=some u->h'.get? b=some u):oh P w H h':=λa o e=>
 (x a o e).stay (fun b u hb q=>k b u (by
   rcases hb with hb|hb
   ·rw[hb];exact č e hC
   ·exact č hb hC) q) (λy q=>q) λy y q=>q
theorem nM:∀(ns:List (Str×cz)) (cs:List (Str×À)),(∀y∈ns,y.2=.free->∃c,env.cells.lookup y.1=some c)->(∀x c,cs.lookup x=some c->env.cells.lookup x=some c)->
 ∃cl,(forIn ns cs (λ(x:Str×cz) r=>if(x.2==.free)=true then(do let c<-cellOf env x.1;î (g_ ((x.1,c)::r)))else î (g_ r)):Sem (List<|Str×À))=î cl/\
  (∀x c,cl.lookup x=some c->env.cells.lookup x=some c)/\(∀x,(∃c,cs.lookup x=some c)->∃c,cl.lookup x=some c)/\∀y∈ns,y.2=.free->∃c,cl.lookup y.1=some c
 |[],cs,_,h2=>⟨cs,rfl,h2,λu z=>z,λu z=>nomatch z⟩
 |(n,k)::ns,cs,h1,h2=>by
  by_cases hk:k=.free
  ·subst hk;obtain⟨c,hc⟩:=h1 (n,.free) Ş rfl;have e:cellOf env n=î c:=by unfold cellOf;rw[hc]
   have M8:∀x d,((n,c)::cs).lookup x=some d->env.cells.lookup x=some d:=λx d q=>by
    rw[ş]at q;cases hx:x==n with
    |true=>rw[hx]at q;have:x=n:=eq_of_beq hx;subst this;cases q;exact hc|false=>rw[hx]at q;exact h2 x d q
   obtain⟨cl,q1,q2,q3,q4⟩:=nM ns ((n,c)::cs) (λy hy=>h1 y<|þ _ hy) M8;refine⟨cl,?_,q2,λx ⟨d,hd⟩=>q3 x ?_,λy hy hf=>?_⟩
   ·rw[oq];simp only[beq_self_eq_true,if_true,e,pure_bind];exact q1
   ·rw[ş];cases hx:x==n with
    |true=>exact⟨c,rfl⟩|false=>exact⟨d,hd⟩
   ·rcases û.mp hy with rfl|hy
    ·exact q3 n ⟨c,by rw[ş,beq_self_eq_true]⟩
    ·exact q4 y hy hf
  ·have hb:(k==cC)=false:=by simpa using hk
   obtain⟨cl,q1,q2,q3,q4⟩:=nM ns cs (λy hy=>h1 y<|þ _ hy) h2;refine⟨cl,?_,q2,q3,λy hy hf=>?_⟩
   ·rw[oq];simp only[hb,oj,if_false,pure_bind];exact q1
   ·rcases û.mp hy with rfl|hy
    ·exact absurd hf hk
    ·exact q4 y hy hf
def pb(h:∀y∈scope.names,y.2=.free->∃c,env.cells.lookup y.1=some c):
 ∃cl,closureFor scope env=î cl/\(∀x c,cl.lookup x=some c->env.cells.lookup x=some c)/\∀y∈scope.names,y.2=.free->∃c,cl.lookup y.1=some c:=by
 obtain⟨cl,q1,q2,_,q4⟩:=nM (env:=env) scope.names [] h (λx c z=>by simp at z);refine⟨cl,?_,q2,q4⟩;unfold closureFor;have e:(forIn scope.names [] (λ(x:Str×cz) (r:List (Str×À))=>match x with
  |(name,kind)=>if(kind==.free)=true then(do let a<-cellOf env name;î (g_ ((name,a)::r)))else î (g_ r)):Sem (List<|Str×À))=î cl:=q1
 first
  |(simp only[bind_pure];exact q1)
  |(rw[show ∀(t:Sem (List<|Str×À)),(do let r<-t;î r)=t from λt=>by simp];exact q1)|(simp only[q1,pure_bind])
noncomputable def jd(X:Cx)(N':List Str)(scope:ú)(cl:List (Str×À))(C:À)(s:Ã)(H:Hp)(fp:List À):Cx where
 prog:=X.prog
 w:=X.w
 K:=X.K
 mg:=X.mg
 base:=X.base
 A:=X.A
 N:=N'
 s₀:=s
 H₀:=H
 env:=compEnvC scope cl C X.env
 outer:=X.stack
 stack:=X.stack
 ex:=fp
 fn:=λx=>scope.names.lookup x==some .cell
 calm:=X.calm
 pn:=[]
 xe:=λy y=>False
def gu(X:Cx)(sc scope:ú):List Str->List Nat->Prop
 |x::xs,j::js=>X.N[j]?=some x/\(scope.names.lookup x=some .free/\(sc.names.lookup x=some .cell\/sc.names.lookup x=some .free))/\gu X sc scope xs js|_,[]=>True|[],_::_=>False
noncomputable def ji(js:List Nat)(nl:Nat)(σ:ć):ć:=js.map (λj:Nat=>(σ[j]?).getD none)++á nl none
theorem qk:∀{N':List Str}{js:List Nat}{i:Nat}{x:Str}{v:V},gu X sc scope N' js->N'[i]?=some x->(ji js nl a)[i]?=some (some v)->
 ∃j:Nat,X.N[j]?=some x/\a[j]?=some (some v)/\scope.names.lookup x=some .free/\(sc.names.lookup x=some .cell\/sc.names.lookup x=some .free)
 |N',[],i,x,v,_,_,h=>by unfold ji at h;rw[Ů,Š,hU]at h;split at h<;>cases h|[],_::_,_,_,_,c,_,_=>c.elim|y::N',j::js,0,x,v,c,h1,h2=>by
  obtain⟨c1,c2,_⟩:=c;simp at h1;subst h1;have e:(a[j]?).getD none=some v:=by simpa[ji]using h2
  refine⟨j,c1,?_,c2⟩;cases q:a[j]?with
  |none=>rw[q]at e;cases e|some o=>rw[q]at e;exact congrArg some e
 |y::N',j::js,i+1,x,v,c,h1,h2=>by exact qk (N':=N') (js:=js) (i:=i) c.2.2 (by simpa using h1) (by simpa[ji]using h2)
theorem yC(I:Nat->Ã->Prop)(turn:∀n s,I n s->Ï (Ø prog w) A (aO it) (λr s₁=>match r with
 |none=>R (.ok .next) s₁|some v=>Ï (Ø prog w) A (sr target it v) (fun _ Zaa=>Ï (Ø prog w) A (db target env v) (fun _ s₂=>
   Ï (Ø prog w) A (forIn ifs true λc r=>if r=true then do let ok<-isTrue c env (eval c env);î (g_ ok)else î (g_ r)) (λok s₃=>
    if ok=true then Ï (Ø prog w) A (eval elt env) (λx s₄=>
     Ï (Ø prog w) A (call (.builtin "list.append") [acc,x]) (λy s₅=>∃m,m<n/\I m s₅) (λy y=>False) s₄) (λy y=>False) s₃
    else ∃m,m<n/\I m s₃) (λy y=>False) s₂) (λy y=>False) Zaa) (λy y=>False) s₁) (λy y=>False) s)(n:Nat)(h:I n s):
 dg (Ø prog w) A (.compLoop (.ListComp elt [⟨target,iter,ifs,0⟩] scope pos) 0 it acc env) R s:=by
 refine codeAny_loop rfl I (λn s hI=>?_) n h;show Ï _ A ((compTurn (.ListComp elt [⟨target,iter,ifs,0⟩] scope pos) 0 it acc env).onRaise (λx=>do noteFrame x env;theTreesLotGoes x)) _ _ s;refine wpAny_noted<|wpAny_noRaise ?_;rw[compTurn_list];refine Ñ<|lY<|Ñ<|ϔ (turn n s hI) (λr s₁ h₁=>?_) λy y h'=>h';cases r with
 |none=>exact Ą h₁|some v=>
  refine Ñ<|ϔ h₁ (λy Zaa Zai=>?_) λy y h'=>h';refine Ñ<|ϔ Zai (λy s₂ h₂=>Ñ<|ϔ h₂ (λok s₃ h₃=>?_) λy y h'=>h') λy y h'=>h';cases ok with
  |false=>exact Ą ⟨rfl,h₃⟩|true=>exact Ñ<|Ñ<|ϔ h₃ (λx s₄ h₄=>Ñ<|ϔ h₄ (λy s₅ h₅=>Ą<|Ą ⟨rfl,h₅⟩) λy y h'=>h') λy y h'=>h'
def CQ(X:Cx)(ifs:List Ç)(t:TT):Prop:=
 ∀(Å:List (À×Obj)) (s:Ã) (a:ć) (H:Hp) (Q:Bool->Hp->Prop),Inv X Å a H s->t a H Q->
  Ï (Ø X.prog X.w) X.A (forIn ifs true λc r=>if r=true then do let ok<-isTrue c X.env (eval c X.env);î (g_ ok)else î (g_ r)) (TP X Å a Q) X.xe s
def T8:TT:=λx H Q=>Q true H
def Ih:CQ X [] T8:=λx x x H x I h=>wpAny_tests_nil ⟨H,I,h⟩
def Ii(h:PT X c t):CQ X [c] t:=λÅ s a H Q I hw=>wpAny_tests_one<|h Å s a H Q I hw
def vN(js:List Nat)(nl:Nat)(wi:TI)(g:TG)(tt:TT)(te:TE):TE:=λd H Q=>wi d H λJ H1=>∀D,H1 D=none->
 ∃W:Nat->Nat->ć->Hp->Prop,(∃m,W 0 m (ji js nl d)<|upd H1 D<|.lst [])/\∀i m b H',W i m b H'->
  (J.stop i H'∧Q (.ref D) H')∨(J.go i H'∧∃N:ć→Hp→Prop,(∀a H2,N a H2→∃m',m'<m∧W (i+1) m' a H2)∧∀x H2,J.N7 i H' x H2→g x b H2 fun a H3=>tt a H3 fun c H4=>
    if c=true then te a H4 λy H5=>∃ys,H5 D=some (.lst ys)/\ys.length<sizeLine/\N a (upd H5 D<|.lst<|ys++[y])else N a H4)
theorem ki{env:Env}:∀{names:List (Str×cz)}{x:Str}{k:cz},(k=.cell\/k=.free)->
 (names.map λ(n,k)=>if(k==cC&&env.scope.kind==.function&&env.kindOf n==some .cell)then(n,iu)else(n,k)).lookup x=some k->(x,cC)∈names\/(x,iu)∈names
 |[],x,k,_,h=>by simp at h|(n,q)::r,x,k,hk,h=>by
  have ih:=@ki env r x k hk;rw[à]at h;by_cases hx:x=n
  ·subst hx;by_cases hf:q=.free
   ·subst hf;exact .inl Ş
   ·have hb:(q==cC)=false:=by simpa using hf
    have e:(if(q==cC&&env.scope.kind==.function&&env.kindOf x==some .cell)=true then(x,iu)else(x,q))=(x,q):=by rw[hb];rfl
    have h2:=h;simp only[e,ş,beq_self_eq_true]at h2;have:q=k:=ı h2;rcases hk with hk|hk
    ·rw[this,hk];exact .inr Ş
    ·exact absurd (this.trans hk) hf
  ·have hn:(x==n)=false:=by simpa using hx
   have h3:(x,cC)∈r\/(x,iu)∈r:=ih (by
    by_cases c:(q==cC&&env.scope.kind==.function&&env.kindOf n==some .cell)=true
    ·simp only[c,if_true,ş,hn]at h;exact h
    ·simp only[c,if_false,oj,ş,hn]at h;exact h)
   rcases h3 with h3|h3
   ·exact .inl<|þ _ h3
   ·exact .inr<|þ _ h3
theorem az:∀(names:List (Str×cz)) (n:Nat) (acc:List (Str×À)),ţ n names acc=ţ n names []++acc
 |[],_,_=>rfl|(x,k)::r,n,acc=>by
  unfold ţ;split
  ·rw[az r (n+1) ((x,n)::acc),az r (n+1) [(x,n)],lR];rfl
  ·exact az r n acc
theorem kj:∀(names:List (Str×cz)) (n:Nat) {x:Str}{c:À},(x,c)∈ţ n names []->(x,iu)∈names
 |[],_,_,_,h=>by simp[ţ]at h|(y,k)::r,n,x,c,h=>by
  unfold ţ at h;split at h
  ·rename_i hk;rw[az r (n+1) [(y,n)]]at h;rcases ź.mp h with h|h
   ·exact þ _<|kj r _ h
   ·have e:(x,c)=(y,n):=by simpa using h
    cases e;rw[beq_iff_eq.mp hk];exact Ş
  ·exact þ _<|kj r _ h
structure Blk(X:Cx)(scope:ú)(n:Nat)(h:Ò)(cl:List (Str×À)):Prop where
 at_:∀x c,cl.lookup x=some c->(X.env.cells.lookup x=some c/\scope.names.lookup x≠some .cell)\/(n<c/\h.IsCell c none/\scope.names.lookup x=some .cell)
 inj:∀x y c,cl.lookup x=some c->cl.lookup y=some c->n<c->x=y
 has:∀x,((x,cC)∈scope.names\/(x,iu)∈scope.names)->∃c,cl.lookup x=some c
def LC{X:Cx}{n:Nat}(hcell:∀y∈scope.names,y.2=.cell->scope.names.lookup y.1=some .cell)(h1:∀x c,cl.lookup x=some c->X.env.cells.lookup x=some c)(h2:∀y∈scope.names,y.2=.free->∃c,cl.lookup y.1=some c)(kX:∀x c,X.env.cells.lookup x=some c->c<n)(ok:CellsOk h (n+1) (ţ (n+1) scope.names [])):Blk X scope n h (ţ (n+1) scope.names cl):=by
 have sp:∀x c,(ţ (n+1) scope.names cl).lookup x=some c->(cl.lookup x=some c/\(ţ (n+1) scope.names []).lookup x=none)\/(ţ (n+1) scope.names []).lookup x=some c:=λx c e=>by
  rw[az,List.lookup_append]at e;cases q:(ţ (n+1) scope.names []).lookup x with
  |none=>rw[q]at e;exact .inl ⟨by simpa using e,rfl⟩|some d=>rw[q]at e;exact .inr (by simpa using e)
 refine⟨λx c e=>?_,λx y c e1 e2 hc=>?_,λx hx=>?_⟩
 ·rcases sp x c e with⟨e,q⟩|e
  ·refine .inl ⟨h1 x c e,λz=>?_⟩;obtain⟨d,hd⟩:=oY (sc:=scope) (n:=n+1) z;rw[hd]at q;cases q
  ·have m:=mem_of_lookup e;exact .inr ⟨(ok.empty x c m).2,(ok.empty x c m).1,hcell _ (kj _ _ m) rfl⟩
 ·have nw:∀z,(ţ (n+1) scope.names cl).lookup z=some c→(ţ (n+1) scope.names []).lookup z=some c:=fun z e=>by
   rcases sp z c e with⟨e,q⟩|e
   ·exact absurd (kX z c<|h1 z c e)<|Nat.lt_asymm hc
   ·exact e
  exact name_of_addr ok.apart (mem_of_lookup<|nw x e1)<|mem_of_lookup<|nw y e2
 ·rw[az,List.lookup_append];rcases hx with hx|hx
  ·obtain⟨c,hc⟩:=h2 _ hx rfl;cases q:(ţ (n+1) scope.names []).lookup x with
   |none=>exact⟨c,by simpa using hc⟩|some d=>exact⟨d,rfl⟩
  ·obtain⟨d,hd⟩:=oY (sc:=scope) (n:=n+1)<|hcell _ hx rfl;rw[hd];exact⟨d,rfl⟩
def vo{code:Á}(hQ:∀h',h'.Ns s.heap.objs.size (λx=>none)->(∀b o,s.heap.get? b=some o->h'.get? b=some o)->CellsOk h' (s.heap.objs.size+1) (ţ (s.heap.objs.size+1) scope.names [])->
 Q (newEnv scope s.heap.objs.size globals (ţ (s.heap.objs.size+1) scope.names DX) qual func code (some env0) builtins) {s with heap:=h'}):
 Ï M A (newFunctionEnv scope globals DX [] qual func code (some env0) builtins) Q E s:=by
 simp only[newFunctionEnv,Option.isSome_some,if_true];refine Ñ<|wpAny_alloc ?_;refine Ñ (wpAny_layCells _ (λname kind cells=>by cases hkc:kind==iu<;>simp[hkc]) _ _ _ _ ?_);have ok:=cellsFrom_ok scope.names (s.heap.push {cls:=.type "dict",data:=.dict #[]}) (s.heap.objs.size+1) [] ⟨λx x hm=>(nomatch hm),B7⟩ (by rw[Ϫ];exact ö _);rw[Ϫ]at ok;rw[show({s with heap:=s.heap.push {cls:=.type "dict",data:=.dict #[]}}:Ã).heap.objs.size=s.heap.objs.size+1from Ϫ ..];refine Ñ ?_;rw[xf];exact Ą<|Ą<|hQ _ ((Heap.Ns.new s.heap<|.type "dict").keeps (pushCells_keeps _ _)) (λb o e=>pushCells_keeps _ _ b o<|ø _ e) ok
theorem pc{env:Env}:∀{names:List (Str×cz)}{x:Str},names.lookup x=some .free->
 ¬(names.map λ(n,k)=>if(k==cC&&env.scope.kind==.function&&env.kindOf n==some .cell)then(n,iu)else(n,k)).lookup x=some .local
 |[],x,h=>by simp at h|(n,q)::r,x,h=>by
  intro h2;rw[à]at h2;rw[ş]at h;cases hx:x==n with
  |true=>
   rw[hx]at h;cases h;by_cases c:(cC==cC&&env.scope.kind==.function&&env.kindOf n==some .cell)=true
   ·simp only[c,if_true,ş,hx]at h2;cases h2
   ·simp only[c,if_false,oj,ş,hx]at h2;cases h2
  |false=>
   rw[hx]at h;have ih:=pc (env:=env) h;by_cases c:(q==cC&&env.scope.kind==.function&&env.kindOf n==some .cell)=true
   ·simp only[c,if_true,ş,hx]at h2;exact ih h2
   ·simp only[c,if_false,oj,ş,hx]at h2;exact ih h2
def En{fp:List À}(qI:X.env.scope=sc)(hk:scope.kind=.function)(hcap:gu X sc scope N' js)(hlen:js.length+nl=N'.length)(B:Blk X scope s.heap.objs.size h' cl)(I:Inv X Å a H s)(hf:∀b∈fp,fZ X Å H b)(kX:∀b∈fp,b<s.heap.objs.size)(hn:h'.Ns s.heap.objs.size (λw=>none))(kp:∀b o,s.heap.get? b=some o->h'.get? b=some o):
 Inv (jd X N' scope cl s.heap.objs.size s H fp) [] (ji js nl a) H {s with heap:=h',toks:=tk}:=by
 have FL:∀x,((jd X N' scope cl s.heap.objs.size s H fp).env.kindOf x=some .cell\/(jd X N' scope cl s.heap.objs.size s H fp).env.kindOf x=some .free)->∃c,cl.lookup x=some c:=λx hx=>by
  rcases hx with hx|hx
  ·exact B.has x<|ki (.inl rfl) hx
  ·exact B.has x<|ki (.inr rfl) hx
 have lt:∀x c,X.env.cells.lookup x=some c->c<s.heap.objs.size:=λx c e=>by obtain⟨v,o,ho,_⟩:=I.cell x c e;exact ü ho
 have inj:∀x y c,cl.lookup x=some c->cl.lookup y=some c->x=y:=λx y c e1 e2=>by
  rcases B.at_ x c e1 with⟨q1,_⟩|⟨q1,_⟩
  ·rcases B.at_ y c e2 with⟨q2,_⟩|⟨q2,_⟩
   ·exact I.ok.inj x y c q1 q2
   ·exact absurd (lt x c q1)<|Nat.lt_asymm q2
  ·exact B.inj x y c e1 e2 q1
 refine⟨⟨I.ok.mod,hk,I.ok.glob,I.ok.blt,ö _,inj,FL,λx c z e=>by
  rcases B.at_ x c e with⟨_,q⟩|⟨q,_⟩
  ·exact absurd (beq_iff_eq.mp z) q
  ·exact jQ q,I.ok.hd,I.ok.frames,.inl rfl,λb hb=>⟨İ<|kX b hb,λx c e=>by
  rcases B.at_ x c e with⟨q,_⟩|⟨q,_⟩
  ·exact(hf b hb).2.2.2.2.1 x c q
  ·exact cx<|Nat.lt_trans (kX b hb) q⟩,
  I.bs,Ţ I.ok.EY I.sz,fun b o e hb=>?_,fun b hb hz=>?_,I.stack,I.yl,I.tb⟩,rfl,I.bare,Un.kept kp,⟨_,hn,fun i x v e1 e2 e3=>?_⟩,fun x c e=>?_,I.hok.fresh<|ö _,fun x c e=>by
    rcases B.at_ x c e with⟨q,_⟩|⟨q,_⟩
    ·exact I.jf x c q
    ·exact I.hok.fresh<|jQ q,λp hp=>?_,I.hok.kept kp,?_⟩
 ·rcases(hf b hb).2.2.2.1 with z|z
  ·exact I.ok.zK b o e z
  ·exact absurd (š (ü e)<|Ţ I.ok.EY z)<|aN _
 ·rcases û.mp (I.yk b hz)with z|z
  ·exact(hf b hb).2.1 z
  ·exact(hf b hb).2.2.1 z
 ·obtain⟨j,q1,q2,q0,q3⟩:=qk hcap e1 e2;obtain⟨m,hm,hl⟩:=I.loc;have LD:KN X.env.scope x:=by
   rw[qI];rcases q3 with q3|q3
   ·exact .inr<|.inl q3
   ·exact .inr<|.inr q3
  obtain⟨u,ru,lk⟩:=hl j x v q1 q2 LD;refine⟨u,ru,?_⟩;rcases lk with⟨k1,_⟩|⟨k1,c,hc,ic⟩
  ·exfalso;have W7:sc.names.lookup x=some .local:=by rw[<-qI];exact k1
   rcases q3 with q3|q3<;>(rw[W7]at q3;cases q3)
  ·have e3':(jd X N' scope cl s.heap.objs.size s H fp).env.kindOf x=some .local\/(jd X N' scope cl s.heap.objs.size s H fp).env.kindOf x=some .cell\/(jd X N' scope cl s.heap.objs.size s H fp).env.kindOf x=some .free:=e3;rcases e3' with z|z
   ·exact absurd z<|pc (env:=X.env) q0
   ·obtain⟨d,hd⟩:=FL x z;have:d=c:=by
     rcases B.at_ x d hd with⟨q,_⟩|⟨_,_,q⟩
     ·rw[hc]at q;exact(ı q).symm
     ·rw[q0]at q;cases q
    subst this;exact .inr ⟨z,d,hd,by
     obtain⟨o,ho,MX⟩:=ic;exact⟨o,kp _ _ ho,MX⟩⟩
 ·rcases B.at_ x c e with⟨q,_⟩|⟨_,q,_⟩
  ·obtain⟨v,o,ho,hd⟩:=I.cell x c q;exact⟨v,o,kp _ _ ho,hd⟩
  ·exact⟨none,q⟩
 ·exact absurd hp (by simp[jd])
 ·show _=N'.length;rw[<-hlen];simp[ji]
def A9(I:Inv X Å a H s)(hf:∀b∈fp,fZ X Å H b)(J:Inv (jd X N' scope cl s.heap.objs.size s H fp) [] c H' s')(kp:∀b u,b≠s.heap.objs.size->s'.heap.get? b=some u->h'.get? b=some u):Inv X Å a H' {s' with heap:=h'}:=by
 have ne:∀{b:À}{o:Obj},s.heap.get? b=some o->b≠s.heap.objs.size:=λe=>İ<|ü e;have u:=J.base;refine I.call' (ch:=fp) J.os ⟨λb o e n hb hx=>kp b o (ne e)<|u.keep b o e n hb hx,λb o e n hb hx=>?_,λb o e n hx=>u.free b o e n hx,λb o e hx=>?_,u.tups,u.vj,u.q_⟩ (CP J.hok J.free kp) J.bare λb hb=>?_
 ·obtain⟨sl,q⟩:=u.slot b o e n hb hx;exact⟨sl,kp b _ (ne e) q⟩
 ·obtain⟨o',q⟩:=u.there b o e hx;exact⟨o',kp b _ (ne e) q⟩
 ·exact⟨(hf b hb).2.2.2.1,(hf b hb).2.1,(hf b hb).2.2.2.2.1,(hf b hb).2.2.2.2.2⟩
def vO{X:Cx}{elt tg iter:Ç}{ifs:List Ç}{scope:ú}{pos:Pos}{wi:TI}{g:TG}{tt:TT}{te:TE}{use:Option (Á->Sem Unit)}{QQ:Á->Ã->Prop}{KV:V->Hp->Prop}{Å:List (À×Obj)}{s:Ã}{j:ć}{H:Hp}{pp:Pos}(N':List Str)(js:List Nat)(nl:Nat)(sc:ú)(qI:X.env.scope=sc)(hcalm:X.calm=true)(hi:PI X.Ϭ tg iter wi)(hg:∀cl C s H fp,PG (jd X.Ϭ N' scope cl C s H fp) tg g)(ht:∀cl C s H fp,CQ (jd X.Ϭ N' scope cl C s H fp) ifs tt)(he:∀cl C s H fp,PE (jd X.Ϭ N' scope cl C s H fp) elt te)(hcap:gu X.Ϭ sc scope N' js)(hlen:js.length+nl=N'.length)(hk:scope.kind=.function)(hcell:∀y∈scope.names,y.2=.cell->scope.names.lookup y.1=some .cell)(hnames:∀y∈scope.names,y.2=.local->scope.names.lookup y.1=some .local)(hfree:∀y∈scope.names,y.2=.free->(sc.names.lookup y.1=some .cell\/sc.names.lookup y.1=some .free))(hs:∀x,df iter X.env x=î x)(I:Inv X.Ϭ Å j H s)(h:vN js nl wi g tt te j H KV)
 (n_:∀(D C:À) (m:Str->Option Á) (s6:Ã) (H5:Hp),s6.heap.Ns C m->(∀h',(∀b o,b≠C->s6.heap.get? b=some o->h'.get? b=some o)->Inv X.Ϭ Å j H5 {s6 with heap:=h'})->C≠X.Ϭ.env.locals->(∀x c,X.Ϭ.env.cells.lookup x=some c->c≠C)->(∀p∈X.Ϭ.pn++Å,p.1≠C)->H5 C=none->X.Ϭ.s₀.heap.objs.size<=C->KV (.ref D) H5->∀r,compPost (Ø X.prog X.w) X.A X.Ϭ.xe use QQ (.ref D) C (.ok r) s6):
 Ï (Ø X.prog X.w) X.A (comprehension (.ListComp elt [⟨tg,iter,ifs,0⟩] scope pos) scope X.Ϭ.env pp (newList []) false (eval iter X.Ϭ.env) use) QQ X.Ϭ.xe s:=by
 obtain⟨X_,c1,c2,c3⟩:=pb (scope:=scope) (env:=X.Ϭ.env) λy hy hf=>I.ok.has y.1 (by
  have:=hfree y hy hf;rw[<-qI]at this;exact this)
 refine wpAny_comprehension_free (use:=use) rfl hs c1 hk hnames<|ώ (hi Å s j H _ I h) λv s1 h1=>ώ h1 λW0 s2 h2=>?_;obtain⟨it,fp,tn,J,H2,e,I2,T,HD,f2,q2⟩:=h2;subst e;refine xE<|vo<|λh₁ M9 oi T9=>?_;dsimp only at M9 oi T9⊢;generalize Ua:s2.heap.push {cls:=.type "list",dict:=none,data:=.seq ([]:List Á).toArray}=vP at M9 oi T9⊢;have hD:H2 s2.heap.objs.size=none:=I2.hok.fresh<|ö _;have I3:Inv X.Ϭ Å j (upd H2 s2.heap.objs.size<|.lst []) {s2 with heap:=vP}:=by rw[<-Ua];exact I2.laid (t':=s2.toks) (λb u e=>ø _ e) (ö _) ⟨da _,[],0,.nil,Ĥ _ rfl⟩
 have Nr:∀b∈fp,b<s2.heap.objs.size:=λb hb=>by obtain⟨o,ho,_⟩:=T.obj 0 _ HD b hb;exact ü ho
 have Ub:vP.objs.size=s2.heap.objs.size+1:=by rw[<-Ua,Ϫ]
 have f3:∀b∈fp,fZ X.Ϭ Å (upd H2 s2.heap.objs.size<|.lst []) b:=λb hb=>by obtain⟨g0,g1⟩:=f2 b hb;exact⟨by rw[ñ<|İ<|Nr b hb];exact g0,g1⟩
 have B:=LC (X:=X.Ϭ) (cl:=X_) hcell c2 c3 (λx c e=>by obtain⟨v,o,ho,_⟩:=I3.cell x c e;exact ü ho) T9;generalize ţ (vP.objs.size+1) scope.names X_=cl at B⊢;obtain⟨W,⟨m0,w0⟩,turn⟩:=q2 s2.heap.objs.size hD;have I4:=En (X:=X.Ϭ) (N':=N') (js:=js) (nl:=nl) (sc:=sc) (scope:=scope) (cl:=cl) (fp:=fp) (h':=h₁) (tk:=s2.toks) qI hk hcap hlen B I3 f3 (λb hb=>by show b<vP.objs.size;rw[Ub];exact oz<|Nr b hb) M9 oi;have X0:tn 0 h₁:=T.keep 0 _ _ HD λb hb o e=>oi b o (by rw[<-Ua];exact ø _ e);have fr4:∀b∈fp,(upd H2 s2.heap.objs.size<|.lst []) b=none:=λb hb=>(f3 b hb).1;have stat:∀{H':Hp},(∀b∈fp,H' b=none)->∀b∈fp,fZ (jd X.Ϭ N' scope cl vP.objs.size {s2 with heap:=vP} (upd H2 s2.heap.objs.size<|.lst []) fp) [] H' b:=fun{H'} hn b hb=>by
  obtain⟨g0,g1,g2,g3,g4,g5⟩:=f3 b hb;refine⟨hn b hb,İ (by show b<vP.objs.size;rw[Ub];exact oz<|Nr b hb),λz=>?_,.inl hb,λx c e=>by
   rcases B.at_ x c e with⟨q,_⟩|⟨q,_⟩
   ·exact g4 x c q
   ·exact cx (Nat.lt_trans (by show b<vP.objs.size;rw[Ub];exact oz<|Nr b hb) q),λp hp=>absurd hp<|by simp[jd]⟩
  rcases û.mp (I3.yk b z)with z|z
  ·exact g1 z
  ·exact g2 z
 have loop:∀s₃:Ã,s₃={s2 with heap:=h₁}->
  dg (Ø X.prog X.w) X.A (.compLoop (.ListComp elt [⟨tg,iter,ifs,0⟩] scope pos) 0 (.ref it) (.ref s2.heap.objs.size)<|compEnvC scope cl vP.objs.size X.Ϭ.env)
   (compPost (Ø X.prog X.w) X.A X.Ϭ.xe use QQ (.ref s2.heap.objs.size) vP.objs.size) s₃:=by
  rintro s₃ rfl;refine yC (λn s'=>∃i l H',Inv (jd X.Ϭ N' scope cl vP.objs.size {s2 with heap:=vP} (upd H2 s2.heap.objs.size<|.lst []) fp) [] l H' s'/\tn i s'.heap/\(∀b∈fp,H' b=none)/\W i n l H') ?_ m0 ⟨0,_,_,I4,X0,fr4,w0⟩;rintro n s5 ⟨i,f,H5,I5,Nn,Rq,w5⟩;rcases turn i n f H5 w5 with⟨stop,qn⟩|⟨go,N,hN,step⟩
  ·refine ώ (T.done (jd X.Ϭ N' scope cl vP.objs.size {s2 with heap:=vP} (upd H2 s2.heap.objs.size<|.lst []) fp) rfl rfl rfl hcalm i [] s5 f H5 (λt t=>False) I5 (stat Rq) Nn stop) λr s6 ⟨hr,I6⟩=>?_;subst hr;obtain⟨m,hm,_⟩:=I6.loc;exact n_ _ _ m s6 H5 hm (λh' k=>A9 I3 f3 I6 k) (cx I3.lt) (λx c e z=>by
    obtain⟨v,o,ho,_⟩:=I3.cell x c e;exact absurd (ü ho) (by rw[z];exact aN _)) (λp hp z=>by
    have:=ü (I3.pin p hp).1;rw[z]at this;exact aN _ this) I6.free I3.sz qn _
  ·refine ώ (T.item (jd X.Ϭ N' scope cl vP.objs.size {s2 with heap:=vP} (upd H2 s2.heap.objs.size<|.lst []) fp) rfl rfl rfl hcalm i [] s5 f H5 (λt t=>False) I5 (stat Rq) Nn go) λr s6 ⟨u,hr,h6⟩=>?_;subst hr;refine ώ h6 λt s7 zz=>?_;obtain⟨x,H7,I7,r7,y7,Uc,fr7⟩:=zz;have I7':=I7.pinned (stat fr7)<|T.obj _ _ Uc;have again:∀{s8:Ã}{a:ć}{H8:Hp},Inv (jd X.Ϭ N' scope cl vP.objs.size {s2 with heap:=vP} (upd H2 s2.heap.objs.size<|.lst []) fp) ([]++tZ fp s7.heap) a H8 s8->
    Inv (jd X.Ϭ N' scope cl vP.objs.size {s2 with heap:=vP} (upd H2 s2.heap.objs.size<|.lst []) fp) [] a H8 s8/\tn (i+1) s8.heap/\∀b∈fp,H8 b=none:=fun{s8 a H8} I8=>by
    refine⟨I8.kZ,T.keep _ _ _ Uc λb hb o e=>(I8.pin (b,o)<|aM _<|aM _<|d_ hb e).1,λb hb=>?_⟩;obtain⟨o,e,d⟩:=T.obj _ _ Uc b hb;exact(I8.pin (b,o)<|aM _<|aM _<|d_ hb e).2.1
   refine ώ (hg cl _ _ _ fp _ s7 f H7 x u _ I7' r7<|step x H7 y7) λt s8 zz=>?_;obtain⟨a,H8,I8,q8⟩:=zz;refine ώ (ht cl _ _ _ fp _ s8 a H8 _ I8 q8) λc s9 zz=>?_;obtain⟨H9,I9,q9⟩:=zz;cases c with
   |false=>rw[if_neg bE]at q9⊢;obtain⟨m',W8,w9⟩:=hN _ _ q9;obtain⟨a1,a2,a3⟩:=again I9;exact⟨m',W8,i+1,a,H9,a1,a2,a3,w9⟩|true=>rw[if_pos rfl]at q9⊢;refine ώ (he cl _ _ _ fp _ s9 a H9 _ I9 q9) λyv zS zz=>?_;obtain⟨y,H10,I10,r10,ys,e10,l10,w10⟩:=zz;refine ώ (ŵ _ zS a H10 (.ref s2.heap.objs.size) [y] (.ref s2.heap.objs.size) [yv] (λt Ud=>N a Ud) I10 rfl (.cons r10 .nil) ⟨_,ys,y,rfl,rfl,e10,l10,w10⟩) λt FM zz=>?_;obtain⟨v11,Ud,I11,_,W9⟩:=zz;obtain⟨a1,a2,a3⟩:=again I11;obtain⟨m',W8,W9⟩:=hN _ _ W9;exact⟨m',W8,i+1,a,Ud,a1,a2,a3,W9⟩
 exact codeAny_compStart_list (loop _ rfl)<|T.self _ 0 _ _ _ X0<|loop _ rfl
def CT{X:Cx}{elt tg iter:Ç}{ifs:List Ç}{scope:ú}{pos:Pos}{wi:TI}{g:TG}{tt:TT}{te:TE}(N':List Str)(js:List Nat)(nl:Nat)(sc:ú)(qI:X.env.scope=sc)(hcalm:X.calm=true)(hi:PI X.Ϭ tg iter wi)(hg:∀cl C s H fp,PG (jd X.Ϭ N' scope cl C s H fp) tg g)(ht:∀cl C s H fp,CQ (jd X.Ϭ N' scope cl C s H fp) ifs tt)(he:∀cl C s H fp,PE (jd X.Ϭ N' scope cl C s H fp) elt te)(hcap:gu X.Ϭ sc scope N' js)(hlen:js.length+nl=N'.length:=by rfl)(hk:scope.kind=.function:=by rfl)(hcell:∀y∈scope.names,y.2=.cell->scope.names.lookup y.1=some .cell:=by decide+kernel)(hnames:∀y∈scope.names,y.2=.local->scope.names.lookup y.1=some .local:=by decide+kernel)(hfree:∀y∈scope.names,y.2=.free->(sc.names.lookup y.1=some .cell\/sc.names.lookup y.1=some .free):=by decide+kernel)(hs:∀x,df iter X.env x=î x:=by intro _;rfl):
 PE X.Ϭ (.ListComp elt [⟨tg,iter,ifs,0⟩] scope pos) (vN js nl wi g tt te):=by
 intro Å s a H Q I h;rw[eval_ListComp];exact vO N' js nl sc qI hcalm hi hg ht he hcap hlen hk hcell hnames hfree hs I h λD C m s6 H5 hm kp z z z z z q r=>⟨m,hm,λh' HE=>⟨.ref D,H5,kp h'<|λb u hb e=>HE.extBut b u hb e,rfl,q⟩⟩
def Its(z:Str):It:=⟨λi y=>i<z.cps.size,λi H x H'=>H'=H/\∃c,z.cps.toList[i]?=some c/\x=.str ⟨#[c]⟩,λi y=>i=z.cps.size⟩
def Eo{K:Î}(it:À)(z:Str)(t:Tok)(ty:String)(hW:∀A:ê,A.handled=none->Walks P w A it [it] [it] z.cps.size (SignAt z) (λi h=>h.IsStrIter it ty z t i))(hS:∀(A:ê) (i:Nat) (s:Ã) (Q:Á->Ã->Prop) (E:Á->Ã->Prop),s.heap.IsStrIter it ty z t i->Q (.ref it) s->Ï (Ø P w) A (ia<|.ref it) Q E s)(lL:["enumerate","zip","dict_itemiterator","dict_reverseitemiterator","odict_iterator","itertools.zip_longest","itertools.pairwise"].contains ty=false):BL P w K tg (Its z) [it] it (λi h=>h.IsStrIter it ty z t i) where
 mem:=by simp
 obj:=λi h st b hb=>by
  have e:b=it:=by simpa using hb
  subst e;obtain⟨o,e,c,d⟩:=st;exact⟨o,e,λv z=>by rw[d]at z;cases z⟩
 keep:=λi h h' st k=>by obtain⟨o,e,c,d⟩:=st;exact⟨o,k it (by simp) o e,c,d⟩
 item:=by intro X hP hw hK hc i Å s a H E I hf st hg;subst hP hw hK;obtain⟨f0,f1,f2,f3,f4,f5⟩:=hf it (by simp);refine(hW X.A<|I.ok.hd hc).item i s _ _ hg st λv h' tk hv ER kk=>?_;obtain⟨c,u,hcu,rfl⟩:=hv;have I1:Inv X Å a H {s with heap:=h',toks:=tk}:=I.turned (λb o hb e=>kk b o (by simpa using hb) e) f0 f1 f3 f4 f5;obtain⟨o,e,cl,d⟩:=id ER;exact⟨_,rfl,CI (s:={s with heap:=h',toks:=tk}) e cl d lL ⟨.str ⟨#[c]⟩,H,I1,⟨u,rfl⟩,⟨rfl,c,by simpa using hcu,rfl⟩,ER,λb hb=>(hf b hb).1⟩⟩
 done:=by intro X hP hw hK hc i Å s a H E I hf st hg;subst hP hw hK;obtain⟨f0,f1,f2,f3,f4,f5⟩:=hf it (by simp);have e:i=z.cps.size:=hg;subst e;exact(hW X.A<|I.ok.hd hc).done s _ _ st λh' tk kk=>⟨rfl,I.turned (λb o hb e=>kk b o (by simpa using hb) e) f0 f1 f3 f4 f5⟩
 self:=hS
end M3
namespace M4
open PySem PySem.Spec PyProof.Rows L2 M2 M3
def Ij{bs:List Bool}:∀{us:List Á},Ō (bs.map V.bl) us->us=bs.map eS:=by
 induction bs with
 |nil=>intro us r;rw[Ů]at r;cases r;rfl|cons b bs ih=>
  intro us r;rw[à]at r;cases r with
  |cons r1 r2=>cases r1;rw[ih r2];rfl
def all_range(bs:List Bool):(Ô (bs.map eS).toArray.size).all (λi=>bs.getD i false)=bs.all id:=by
 have e:(bs.map eS).toArray.size=bs.length:=by simp
 rw[e,jO];simp only[c_,ϑ,id];constructor
 ·intro h b hb;obtain⟨i,hi,rfl⟩:=xg.mp hb;have:=h i hi;rw[fP,œ hi]at this;exact this
 ·intro h i hi;rw[fP,œ hi];exact h _<|ϒ hi
def zT(bs:List Bool):TruthOf prog w A (λi v=>(bs.map eS).toArray[i]?=some v) (λi=>bs.getD i false):=by
 intro i v s Q E hv hq;have BM:bs[i]?.map eS=some v:=by rw[<-Ł];simpa using hv
 cases hb:bs[i]?with
 |none=>rw[hb]at BM;cases BM|some b=>rw[hb]at BM;cases BM;dsimp only at hq;rw[fP,hb]at hq;exact eM hq
def LF(K:Î):List V->Hp->VK->Prop:=λxs H Q=>match xs with
 |[.ref p]=>∃bs:List Bool,Ϧ K H p (bs.map V.bl)/\Q (.bl<|bs.all id) H|_=>False
set_option tactic.hygienic true in
def nN(hc:X.calm=true):Ř X (.builtin "all") (LF X.K):=by
 intro Å s a H xs us Q I r h;unfold LF at h;split at h
 ·rename_i p;obtain⟨bs,hS,q⟩:=h;obtain⟨u,rfl,ru⟩:=vals1 r;cases ru;obtain⟨Ē,rv,pl,hz⟩:=I.list hS;have e:=Ij rv;subst e;have hp:p≠s.heap.objs.size:=by
   obtain⟨o,n,e,_⟩:=pl;exact İ<|ü e
  refine call_all_walk<|jW pl.isList ?_;refine⟨s.heap.objs.size,_,_,_,_,_,_,rfl,sW (A:=X.A.in1) (show X.A.in1.handled=none from I.ok.hd hc) s.heap.objs.size p hp (bs.map eS).toArray,⟨⟨_,Ĥ _ rfl,rfl,rfl⟩,pl.isList.at λo e=>ø _ e⟩,zT bs,λh' tk k=>?_⟩;rw[all_range];exact⟨.bl _,H,I.kept λb o e=>k b o (by simpa using İ (ü e))<|ø _ e,rfl,q⟩
 ·exact h.elim
noncomputable abbrev S(l:List Nat):Str:=⟨l.toArray⟩
def LG(z:Str):S z.cps.toList=z:=by cases z;simp
def JY(l:List Nat):(S l).length=l.length:=by simp[cD]
def qL(z:Str):z.cps.toList.length=z.length:=by simp[cD]
def JZ(a b:List Nat):S a++S b=S (a++b):=by refine Cc ?_;rw[PySem.W.KT.app_list]
def yD(xs:List Nat)(lo hi:Option Int):List Nat:=(xs.drop<|HT.mN xs.length 0 lo).take (HT.mN xs.length xs.length hi-HT.mN xs.length 0 lo)
def Hd(z:Str)(lo hi:Option Int):mG lo hi 1 z.length=(Ô<|HT.mN z.length z.length hi-HT.mN z.length 0 lo).map (HT.mN z.length 0 lo+·):=by
 have hc:∀(o:Option Int) (d:Nat),d<=z.length->(match o with|none=>((d:Nat):Int)|some i=>max 0<|min (if i<0then i+(z.length:Int)else i) (z.length:Int))=((HT.mN z.length d o:Nat):Int):=by
  intro o d hd;cases o with
  |none=>rfl|some i=>
   show max 0 (min (if i<0then i+(z.length:Int)else i) (z.length:Int))=((if i<0then(i+(z.length:Int)).toNat else min i.toNat z.length:Nat):Int);by_cases h:i<0
   ·rw[if_pos h,if_pos h];lia
   ·rw[if_neg h,if_neg h];lia
 have e:mG lo hi 1 z.length=sliceRange ((HT.mN z.length 0 lo:Nat):Int) ((HT.mN z.length z.length hi:Nat):Int) 1:=by have h1:=hc lo 0<|da _;have h2:=hc hi z.length<|ö _;unfold mG;simp only[show(1:Int)>0 by decide,if_true];rw[<-h1,<-h2];cases lo<;>cases hi<;>rfl
 rw[e,sliceRange_one]
def Ik(z:Str)(lo hi:Option Int):(mG lo hi 1 z.length).filterMap (z.cps[·]?)=yD z.cps.toList lo hi:=by rw[Hd,pick_run];unfold yD;rw[qL]
def Il(xs:List Nat)(lo hi:Option Int):(yD xs lo hi).length<=xs.length:=by unfold yD;rw[rN,List.length_drop];lia
def FN(hz:z.length<=sizeLine)(h:∀t' k,Q (.str (S<|yD z.cps.toList (l.map (·.1))<|u.map (·.1)) t') {s with toks:=k}):(sliceMade z t l u none).post Q s:=by
 have e:=Ik z (l.map (·.1))<|u.map (·.1);unfold sliceMade;have ep:slicePicked z l u none=mG (l.map (·.1)) (u.map (·.1)) 1 z.length:=rfl;rw[ep];split
 ·rename_i hc;have hl:(mG (l.map (·.1)) (u.map (·.1)) 1 z.length).length=z.length:=by simpa using hc
  have hz2:yD z.cps.toList (l.map (·.1)) (u.map (·.1))=z.cps.toList:=by
   rw[Hd,Ğ,xh]at hl;have hi:=HT.Fv z.length 0 (da _)<|l.map (·.1);have hj:=HT.Fv z.length z.length (ö _)<|u.map (·.1);unfold yD;rw[qL];have DW:=qL z;have a0:HT.mN z.length 0 (l.map (·.1))=0\/z.length=0:=by lia
   rcases a0 with a0|a0
   ·rw[a0]at hl⊢;rw[rP];exact xi (by lia)
   ·have:z.cps.toList=[]:=BV (by lia);rw[this];simp
  have:=h t s.toks;rw[hz2,LG]at this;exact this
 ·rw[e];exact⟨by rw[JY];have:=Il z.cps.toList (l.map (·.1))<|u.map (·.1);rw[qL]at this;lia,h _ _⟩
def Ue:V->Option Int->Option Int->Hp->VK->Prop:=λx lo hi H Q=>match x with
 |.str z=>z.length<=sizeLine/\Q (.str<|S<|yD z.cps.toList lo hi) H|_=>False
def Im:CK X Ue:=by
 intro Å s a H x v vl vu lo hi sl Q I rx hs pl pu h;cases x with
 |str z=>
  obtain⟨t,rfl⟩:=rx;obtain⟨hz,q⟩:=h;obtain⟨l,el,el2⟩:∃l:Option (Int×Tok),partValue l=vl/\l.map (·.1)=lo:=by
   cases pl with
   |none=>exact⟨none,rfl,rfl⟩|int i t=>exact⟨some (i,t),rfl,rfl⟩
  obtain⟨u,eu,eu2⟩:∃u:Option (Int×Tok),partValue u=vu/\u.map (·.1)=hi:=by
   cases pu with
   |none=>exact⟨none,rfl,rfl⟩|int i t=>exact⟨some (i,t),rfl,rfl⟩
  subst el el2 eu eu2;exact⟨"str",_,F.slot_str_getitem.lookup,l_ s z t,wpAny_getItem_str_slice (l:=l) (u:=u) (st:=none) hs rfl<|FN hz λt' k=>⟨.str _,H,I.tok _,⟨_,rfl⟩,q⟩⟩
 |_=>exact h.elim
def Uf(K:Î):V->Option Int->Option Int->Hp->VK->Prop:=λx lo hi H Q=>match x with
 |.ref a=>∃xs,Ϧ K H a xs/\∀p,H p=none->Q (.ref p) (upd H p<|.lst<|zP xs lo hi)|.str z=>z.length<=sizeLine/\Q (.str<|S<|yD z.cps.toList lo hi) H|_=>False
def slm:CK X (Uf X.K):=CK.wk (FJ.or Im) λx lo hi H Q h=>by
 cases x with
 |ref a=>exact .inl h|str z=>exact .inr h|_=>exact h.elim
def Ep(z y:Str):Txt.startswith z y=decide (z.cps.toList.take y.cps.toList.length=y.cps.toList):=by
 unfold Txt.startswith;rw[StrLaws.subAt_eq,rP,qL,jO];simp only[ă,decide_eq_true_eq,beq_iff_eq];constructor
 ·exact λh=>h.2
 ·intro h;refine⟨?_,h⟩;have h2:=congrArg cq h;rw[rN,qL,qL]at h2;lia
def yE:V->List V->Hp->VK->Prop:=λx vs H Q=>match x,vs with
 |.str z,[.str y]=>Q (.bl<|decide<|z.cps.toList.take y.cps.toList.length=y.cps.toList) H|_,_=>False
def vQ:No X "str.startswith" yE:=by
 intro Å s a H x xs v us Q I rx rs h;unfold yE at h;split at h
 ·obtain⟨t,rfl⟩:=rx;obtain⟨u,rfl,t',rfl⟩:=vals1 rs;exact SC.startswith ⟨.bl _,H,I,rfl,by rw[Ep];exact h⟩
 ·exact h.elim
def Nc(z:Str)(h:0<=n):Txt.mul z n=S (á n.toNat z.cps.toList).flatten:=by
 have key:∀(k:Nat) (acc:Array Nat),((á k z.cps).foldl (·++·) acc).toList=acc.toList++(á k z.cps.toList).flatten:=by
  intro k
  induction k with
  |zero=>intro acc;simp|succ k ih=>intro acc;rw[BW,eD,ih,BW,List.flatten_cons];simp
 unfold Txt.mul;refine Cc ?_;by_cases h1:n<1
 ·rw[if_pos h1];have:n.toNat=0:=by lia
  rw[this];simp[Str.empty]
 ·rw[if_neg h1];split
  ·rename_i hc;rw[om]at hc;rcases hc with hc|hc
   ·have:n=1:=by simpa using hc
    subst this;simp
   ·have h0:z.cps.toList=[]:=BV (by rw[qL];simpa using hc);rw[h0];simp
  ·rw[key];simp
def FO(z:Str)(n:Int):Prop:=0<=n/\n<=1000/\z.length<=1000
def FO.ok(h:FO z n):MulOk z n:=by
 obtain⟨h0,h1,h2⟩:=h;refine⟨?_,λhn x=>?_,λhn x=>?_⟩
 ·rw[decide_eq_false (by lia),decide_eq_false<|by lia];rfl
 ·have:(9000000000000000:Int)≤(2^63-1)/n:=by
   rw[BS<|by lia];lia
  lia
 ·have:z.length*n.toNat<=1000*1000:=eI h2 (by lia);unfold Builtin.Str.tooLong;simp;rw[eL];lia
def FP:R2:=λx y H Q=>match x,y with
 |.int i,.int j=>vM i j/\Q (.int<|i*j) H|.str z,.int n=>FO z n/\Q (.str<|S (á n.toNat z.cps.toList).flatten) H|_,_=>False
def Io:aF X (ň .Mult) FP:=by
 intro Å s a H x y v u Q I rx ry h;unfold FP at h;split at h
 ·exact Lz Å s a H _ _ v u Q I rx ry h
 ·obtain⟨t,rfl⟩:=rx;obtain⟨t',rfl⟩:=ry;exact SB.mul h.1.ok λt' k=>⟨.str _,H,I.tok _,⟨_,by rw[Nc _ h.1.1]⟩,h.2⟩
 ·exact h.elim
noncomputable def Ŝ(sep:List Nat):List (List Nat)->List Nat
 |[]=>[]|[x]=>x|x::y::r=>x++sep++Ŝ sep (y::r)
theorem DZ(sep:Str):∀ys:List (List Nat),Str.join sep (ys.map S)=S (Ŝ sep.cps.toList ys)
 |[]=>rfl|[x]=>rfl|x::y::r=>by have ih:=DZ sep (y::r);show S x++sep++Str.join sep ((y::r).map S)=_;have e:Ŝ sep.cps.toList (x::y::r)=x++sep.cps.toList++Ŝ sep.cps.toList (y::r):=rfl;rw[ih,e,<-JZ,<-JZ,LG]
def Ip{ys:List (List Nat)}:∀{us:List Á},Ō (ys.map λl=>V.str<|S l) us->StrsAre us (ys.map S):=by
 induction ys with
 |nil=>intro us r;rw[Ů]at r;cases r;exact .nil|cons y ys ih=>
  intro us r;rw[à]at r;cases r with
  |cons r1 r2=>obtain⟨t,rfl⟩:=r1;exact .cons _ t<|ih r2
def FQ(K:Î):V->List V->Hp->VK->Prop:=λx vs H Q=>match x,vs with
 |.str z,[.ref p]=>∃ys:List (List Nat),Ϧ K H p (ys.map λl=>V.str<|S l)/\(ys.map cq).sum+ys.length*z.length<=16777216/\Q (.str<|S<|Ŝ z.cps.toList ys) H
 |_,_=>False
def tj:No X "str.join" (FQ X.K):=by
 intro Å s a H x xs v us Q I rx rs h;unfold FQ at h;split at h
 ·obtain⟨ys,hS,hz,q⟩:=h;obtain⟨t,rfl⟩:=rx;obtain⟨u,rfl,ru⟩:=vals1 rs;cases ru;obtain⟨Ē,rv,pl,_⟩:=I.list hS;refine join_list pl.isList (by simpa using Ip rv) ?_ λt' k=>⟨.str _,H,I.tok _,⟨t',?_⟩,q⟩
  ·have e1:((ys.map S).map (·.length))=ys.map cq:=by
    rw[ķ];exact xj λl y=>JY l
   rw[e1,Ğ];exact hz
  ·unfold Txt.join;rw[StrLaws.glued_eq_join,DZ]
 ·exact h.elim
end M4
namespace M5
open PySem PySem.Spec PyProof.Rows L2 M2 M3
def Ba(l:List Á)(h:TriplesOk l)(e:codeAmong p2 (l++[aP a,aP b,c])=some cv):codeAmong p2 l=some cv\/cv=c:=by
 fun_induction TriplesOk l with
 |case1=>
  right
  simp only[Š,codeAmong,aP]at e;split at e
  ·exact(ı e).symm
  ·cases e
 |case2 a' t b' u x rest ih=>
  simp only[eE,codeAmong]at e⊢;split at e
  ·rename_i hc;rw[if_pos hc];exact .inl e
  ·rename_i hc;rw[if_neg hc];exact ih h e
 |case3 l h1 h2=>exact h.elim
section
variable{X:Cx}{Å:List (À×Obj)}{σ:ć}{H:Hp}{s:Ã}{x:Str}{c P:À}{params:ie}{body:Ç}{scope:ú}{pos:Pos}{cl:List (Str×À)}
def FS(I:Inv X Å σ H s)(hx:x∈lams)(ht:Ũ X.K x=some (c,P))(wN:X.env.code=.ref c)(hq:X.env.qual=x++".<locals>.")(He:defaultsOf params X.env=([],[]))(To:closureFor scope X.env=î cl)(h:∀f c' pm AQ H' s',Inv X Å σ H' s'->(∀a,H a=none->H' a=none\/a=c')->Ú H H'->H' c'=some (.D5<|gp x)->s'.heap.get? f=some (oU "<lambda>" (gp x) params body scope cl pm c' AQ)->fZ X Å H' f->Q (.ref f) s'):
 Ï (Ø X.prog X.w) X.A (eval (.Lambda params body scope pos) X.env) Q E s:=by
 obtain⟨C,hT,hB⟩:=I.tb x c P hx ht;obtain⟨ps,hP,tr,ent⟩:=I.hok P _ hT;have hg:=I.ok.mod.glob.keeps I.bk;have hgP:ē≠P:=λq=>by obtain⟨o,es,ep,e,hd,_⟩:=hg;rw[q,hP]at e;cases e;cases hd
 have hB':s.heap.BuiltinsAt X.mg P:=by obtain⟨bm,ob,b1,b2,b3,b4,b5,b6⟩:=hB;exact⟨bm,ob,b1,b2,b3,b4,I.bk _ _ b5,b6⟩
 refine PySem.W.kla_eval He ?_;rw[hq];cases hf:codeAmong pos ps.toList with
 |none=>
  refine PySem.W.kla_makeFunction (mg:=X.mg) To I.ok.glob hg wN (C.keeps I.bk) hP tr hf hgP hB' λc' AQ h' tk hxb Xa kX hrec zA=>?_;have wL:H c'=none:=I.hok.fresh Xa;have hcP:c'≠P:=λz=>by rw[z,hT]at wL;cases wL
  have X1:∀b,H b=none->b≠P:=λb n z=>by rw[z,hT]at n;cases n
  have oi:∀b o,b≠P->s.heap.get? b=some o->(h'.push<|oU "<lambda>" (gp x) params body scope cl ((X.mg "__name__").getD .none) c' AQ).get? b=some o:=λb o hb e=>ø _<|hxb b o hb e;have u:Un X.fs [] H (upd H c'<|.D5<|gp x) s.heap (h'.push<|oU "<lambda>" (gp x) params body scope cl ((X.mg "__name__").getD .none) c' AQ):=by
   refine⟨λb o e n y y=>oi b o (X1 b n) e,λb o e n y y=>⟨o.slots,oi b o (X1 b n) e⟩,λb o e n y=>?_,λb o e y=>?_,λb xs e=>by rw[ñ<|č e wL];exact e,λb o u e=>by rw[ñ<|č e wL];exact e,λb q e=>by rw[ñ<|č e wL];exact e⟩
   ·rw[ñ<|İ<|š (ü e) Xa];exact n
   ·by_cases hb:b=P
    ·exact⟨_,by rw[hb];exact ø _ zA⟩
    ·exact⟨o,oi b o hb e⟩
  have hok:oh X.prog X.w (upd H c'<|.D5<|gp x) (h'.push<|oU "<lambda>" (gp x) params body scope cl ((X.mg "__name__").getD .none) c' AQ):=λb v e=>by
   by_cases hb:b=c'
   ·subst hb;rw[Ā]at e;cases e;obtain⟨c2,o,vs,t,z,e1,r⟩:=hrec;exact⟨c2,o,vs,t,z,ø _ e1,r⟩
   ·rw[ñ hb]at e;by_cases Tn:b=P
    ·subst Tn;rw[hT]at e;cases e;refine⟨_,ø _ zA,?_,λp2 cv z=>?_⟩
     ·have:=TriplesOk_snoc pos.line pos.col (.ref c') ps.toList tr;simpa using this
     ·rcases Ba (a:=pos.line) (b:=pos.col) (c:=.ref c') ps.toList tr (by simpa using z)with z|z
      ·obtain⟨d,z1,z2⟩:=ent p2 cv z;exact⟨d,z1,by rw[ñ<|č z2 wL];exact z2⟩
      ·exact⟨c',z,Ā⟩
    ·exact(I.hok b v e).stay (fun b2 o Xb q=>oi b2 o (by
      rcases Xb with z|z
      ·rw[z];exact Tn
      ·intro z2;rw[z2,hT]at z;cases z) q) (λd q=>by rw[ñ<|č q wL];exact q) (λd xs q=>by rw[ñ<|č q wL];exact q) λd xs q=>by rw[ñ<|č q wL];exact q
  have hfz:s.heap.objs.size<=h'.objs.size:=jQ<|Nat.lt_of_le_of_lt Xa kX;refine h h'.objs.size c' _ AQ (upd H c'<|.D5<|gp x) _ (I.un (t':=tk) u hok) (λa n=>?_) (λb v e=>by rw[ñ<|č e wL];exact e) Ā (Ĥ _ rfl) (I.tY hfz (by rw[ñ<|cx kX];exact I.hok.fresh hfz));by_cases ha:a=c'
  ·exact .inr ha
  ·exact .inl (by rw[ñ ha];exact n)
 |some cv=>obtain⟨c',rfl,Ti⟩:=ent pos cv hf;refine PySem.W.kla_makeFunctionHit (mg:=X.mg) To I.ok.glob hg wN (C.keeps I.bk) hP tr hf hB' λAQ h' tk hk kW=>?_;exact h h'.objs.size c' _ AQ H _ (I.kept (t':=tk) λb o e=>ø _<|hk b o e) (λy n=>.inl n) (Ú.refl H) Ti (Ĥ _ rfl)<|I.tY kW<|I.hok.fresh kW
end
noncomputable def EZ(X:Cx)(N':List Str)(qual:Str)(scope:ú)(cl:List (Str×À))(f:À)(c':À)(A:ê)(s:Ã)(H:Hp):Cx where
 prog:=X.prog
 w:=X.w
 K:=X.K
 mg:=X.mg
 base:=X.base
 A:=A.deeper (sU qual scope s.heap.objs.size f (.ref c') cl)
 N:=N'
 s₀:=s
 H₀:=H
 env:=sU qual scope s.heap.objs.size f (.ref c') cl
 outer:=X.stack
 stack:=sU qual scope s.heap.objs.size f (.ref c') cl::X.stack
 ex:=[]
 fn:=λx=>false
 calm:=true
 pn:=[]
 xe:=λx x=>False
noncomputable def jj(js:List Nat)(σ:ć)(v:V):ć:=js.map (λj:Nat=>(σ[j]?).getD none)++[some v]
section
variable{X:Cx}{Å:List (À×Obj)}{σ:ć}{H:Hp}{s:Ã}{params:ie}{body:Ç}{scope sc:ú}{cl:List (Str×À)}{N0:List Str}{js:List Nat}{qual px:Str}{f c':À}{A:ê}
def Iq(qI:X.env.scope=sc)(hk:scope.kind=.function)(hcap:gu X sc scope N0 js)(hlen:js.length=N0.length)(hcell:∀y∈scope.names,y.2≠.cell)(E4:scope.names.lookup px=some .local)(hA:A.frames=some X.stack)(JJ:A.handled=none)(c2:∀x c,cl.lookup x=some c->X.env.cells.lookup x=some c)(c3:∀y∈scope.names,y.2=.free->∃c,cl.lookup y.1=some c)(I:Inv X Å σ H s)(r:RelV v u)(hn:h'.Ns s.heap.objs.size (λy=>[(px,u)].reverse.lookup y))(kp:∀b o,s.heap.get? b=some o->h'.get? b=some o):
 Inv (EZ X (N0++[px]) qual scope cl f c' A s H) [] (jj js σ v) H {s with heap:=h',toks:=tk}:=by
 have has:∀y,(scope.names.lookup y=some .cell\/scope.names.lookup y=some .free)->∃c,cl.lookup y=some c:=λy hy=>by
  rcases hy with hy|hy
  ·exact absurd rfl<|hcell _<|jU hy
  ·exact c3 _ (jU hy) rfl
 refine⟨⟨I.ok.mod,hk,rfl,rfl,ö _,λx y c e1 e2=>I.ok.inj x y c (c2 x c e1)<|c2 y c e2,has,(λa a z a=>absurd (show false=true from z) bE),λa=>JJ,Cj hA,.inr ⟨rfl,rfl⟩,λb hb=>absurd hb (by simp[EZ]),
  I.bs,Ţ I.ok.EY I.sz,λb a a hb=>absurd hb (by simp[EZ]),λb hb=>absurd hb (by simp[EZ]),I.stack,I.yl,I.tb⟩,rfl,I.bare,Un.kept kp,⟨_,hn,λi x w e1 e2 e3=>?_⟩,λx c e=>?_,I.hok.fresh<|ö _,λx c e=>I.jf x c<|c2 x c e,λp hp=>absurd hp (by simp[EZ]),I.hok.kept kp,?_⟩
 ·by_cases hi:i<js.length
  ·have QM:N0[i]?=some x:=by
    have:=e1
    rwa [show(EZ X (N0++[px]) qual scope cl f c' A s H).N=N0++[px]from rfl,ϧ<|by lia]at this
   have e2':(ji js 0 σ)[i]?=some (some w):=by unfold ji;unfold jj at e2;rw[ϧ<|by simpa using hi]at e2⊢;exact e2
   obtain⟨j,q1,q2,q0,q3⟩:=qk hcap QM e2';obtain⟨m,hm,hl⟩:=I.loc;have LD:KN X.env.scope x:=by
    rw[qI];rcases q3 with q3|q3
    ·exact .inr<|.inl q3
    ·exact .inr<|.inr q3
   obtain⟨u',ru,lk⟩:=hl j x w q1 q2 LD;refine⟨u',ru,?_⟩;rcases lk with⟨k1,_⟩|⟨k1,c,hc,ic⟩
   ·exfalso;have W7:sc.names.lookup x=some .local:=by rw[<-qI];exact k1
    rcases q3 with q3|q3<;>(rw[W7]at q3;cases q3)
   ·obtain⟨d,hd⟩:=has x<|.inr q0;have:d=c:=by
     have:=c2 x d hd;rw[hc]at this;exact(ı this).symm
    subst this;exact .inr ⟨.inr q0,d,hd,by
     obtain⟨o,ho,MX⟩:=ic;exact⟨o,kp _ _ ho,MX⟩⟩
  ·have QN:i=js.length:=by
    have l2:=(aL.mp e2).1;unfold jj at l2;simp at l2;lia
   subst QN;unfold jj at e2;rw[cr<|by simp]at e2;have ev:v=w:=by simpa using e2
   subst ev;have ex:px=x:=by have:=e1;rw[show(EZ X (N0++[px]) qual scope cl f c' A s H).N=N0++[px]from rfl,cr (by lia),hlen]at this;simpa using this
   subst ex;exact⟨u,r,.inl ⟨E4,by simp[eC]⟩⟩
 ·obtain⟨w,o,ho,hd⟩:=I.cell x c<|c2 x c e;exact⟨w,o,kp _ _ ho,hd⟩
 ·show _=(N0++[px]).length;unfold jj;simp[hlen]
def FT(qI:X.env.scope=sc)(hk:scope.kind=.function)(hcap:gu X sc scope N0 js)(hlen:js.length=N0.length)(hcell:∀y∈scope.names,y.2≠.cell)(E4:scope.names.lookup px=some .local)(QO:scope.isCoroutine=false)(Hf:scope.isGenerator=false)(hA:A.frames=some X.stack)(JJ:A.handled=none)(LH:A.depth<su)(c2:∀x c,cl.lookup x=some c->X.env.cells.lookup x=some c)(c3:∀y∈scope.names,y.2=.free->∃c,cl.lookup y.1=some c)(u_:∀u:Á,dh (yg "<lambda>" qual params body scope cl pm (.ref c') AQ) ⟨[u],[]⟩=î [(px,u)])(he:∀s H,PE (EZ X (N0++[px]) qual scope cl f c' A s H) body te)(I:Inv X Å σ H s)(hf:s.heap.get? f=some (oU "<lambda>" qual params body scope cl pm c' AQ))(hc:H c'=some (.D5 qual))(r:RelV v u)(h:te (jj js σ v) H Q):
 Ï (Ø X.prog X.w) A (call (.ref f) [u]) (EP X Å σ Q) E s:=by
 refine sw<|PySem.W.kla_callFunE LH hf rfl QO Hf rfl (I.hok c' _ hc) ?_;rw[u_ u];refine Ą (wpAny_newFunctionEnv hcell (λy hy=>by rw[cu.mp hy];exact E4) (λh₁ zy hsb=>⟨(I.nolimit).fresh _ hsb,?_⟩) hk);have kp:∀b o,s.heap.get? b=some o->h₁.get? b=some o:=λb o e=>hsb.extBut b o (İ<|ü e)<|ø _ e;have J:=Iq (qual:=qual) (f:=f) (c':=c') (tk:=s.toks+[(px,u)].length) qI hk hcap hlen hcell E4 hA JJ c2 c3 I r zy kp;show dg _ _ (.expr body<|sU qual scope s.heap.objs.size f (.ref c') cl) _ _;refine PySem.W.kla_codeExpr<|ϔ (he s H [] _ _ H Q J h) (λy s' hy=>?_) λa a z=>z.elim;obtain⟨w,H',J',Oj,q⟩:=hy;exact I.after ⟨w,H',J'.os,J'.bare,J'.base,J'.hok,Oj,q⟩
end
section
variable{X:Cx}{Å:List (À×Obj)}{σ:ć}{H:Hp}{s:Ã}
def vR{fp:List À}(I:Inv X Å σ H s)(hf:∀b∈fp,fZ X Å H b)(ho:∀b∈fp,∃o,s.heap.get? b=some o/\∀v,o.data≠.cell v)(run:∀iw,Inv X iw σ H s->Ï (Ø X.prog X.w) A t (EP X iw σ Qv) (λx x=>False) s)(k:∀y u H2 s2,Inv X Å σ H2 s2->RelV y u->Qv y H2->(∀b∈fp,fZ X Å H2 b)->(∀b∈fp,∀o,s.heap.get? b=some o->s2.heap.get? b=some o)->R u s2):Ï (Ø X.prog X.w) A t R (λx x=>False) s:=by refine ϔ (run _<|I.pinned hf ho) (λu s2 zz=>?_) λx x z=>z;obtain⟨y,H2,I2,r,q⟩:=zz;refine k y u H2 s2 I2.kZ r q (λb hb=>?_) λb hb o e=>(I2.pin (b,o)<|aM _<|aM _<|d_ hb e).1;obtain⟨o,e,_⟩:=ho b hb;exact⟨(I2.pin (b,o)<|aM _<|aM _<|d_ hb e).2.1,(hf b hb).2⟩
def eh(I:Inv X Å σ H s)(hf:fZ X Å H b)(k:∀c o,c≠b->s.heap.get? c=some o->h'.get? c=some o):Inv X Å σ H {s with heap:=h',toks:=t'}:=
 let ⟨f0,f1,_,f3,f4,f5⟩:=hf
 I.turned k f0 f1 f3 f4 f5
variable{R:Result->Ã->Prop}{f l S It:À}{oF:Obj}{xs:List V}(ks:Nat->Int)(W:Nat->Hp->Prop)
def CU{h:Ò}(hl:h.IsList l Ē)(jM:h.IsListIter It l i):l≠It:=λz=>by obtain⟨o,e,c,_⟩:=hl;obtain⟨o',e',c',_⟩:=jM;rw[z,e']at e;cases e;rw[c]at c';exact absurd (sP c') (by decide)
def Bb{h:Ò}(hS:h.get? S=some (fR "list" vs n))(jM:h.IsListIter It l i):S≠It:=λz=>by obtain⟨o',e',c',_⟩:=jM;rw[z,e']at hS;cases hS;exact absurd (sP c') (by decide)
def Er(hh:X.A.handled=none)(hl:∀k H,W k H->Ϧ X.K H l xs)(Rv:∀v,oF.data≠.cell v)(Rx:f≠S)(Ry:f≠It)
 (turn:∀k v,xs[k]?=some v->∀Å H s u,Inv X Å σ H s->W k H->RelV v u->s.heap.get? f=some oF->Ï (Ø X.prog X.w) X.A.in1 (call (.ref f) [u]) (EP X Å σ λy H'=>y=.int (ks k)/\W (k+1) H') (λx x=>False) s)
 (hR:∀i v u H s,xs[i]?=some v->RelV v u->(∀j,j<xs.length->ks i<=ks j/\(j<i->ks i<ks j))->Inv X Å σ H s->W xs.length H->R (.ok<|.ret u) s):
 ∀(r j i:Nat) (H:Hp) (s:Ã) (vb:Á) (tb:Tok) (c:Nat) (v:V),xs.length-(j+1)=r->j+1<=xs.length->Inv X Å σ H s->W (j+1) H->
  s.heap.get? S=some (fR "list" #[vb,.int (ks i) tb] c)->s.heap.IsListIter It l (j+1)->s.heap.get? f=some oF->(∀b∈[S,It,f],fZ X Å H b)->xs[i]?=some v->RelV v vb->i<=j->(∀j',j'<=j->ks i<=ks j'/\(j'<i->ks i<ks j'))->
  dg (Ø X.prog X.w) X.A (.builtin "min.loop" ⟨[.ref It,.ref f,.ref S],[]⟩) R s:=by
 have AF:(bJ "min"++bJ ".loop":String)="min.loop":=by decide
 intro r
 induction r with
 |zero=>
  intro j i H s vb tb c v hr hj I w hS jM hF LI hv rv Xc wO;have QP:j+1=xs.length:=by lia
  obtain⟨Ē,ri,pl,_⟩:=I.list<|hl _ _ w;have kW:Ē.toArray.size=xs.length:=by rw[Ģ,ri.length]
  have W':=sW (prog:=X.prog) (w:=X.w) (A:=X.A.in1) hh It l (CU pl.isList jM) Ē.toArray;refine sx xQ ?_;rw[xL jY _];show Ï _ X.A.in1 (im (.ref S)>>=_) _ _ _;refine Ñ<|di hS rfl ?_;show Ï _ X.A.in1 (lV (aO<|.ref It) _>>=_) _ _ _;refine Ñ (mq<|W'.done _ _ _ ⟨by rw[kW,<-QP];exact jM,pl.isList⟩ λh' Ku E5=>?_);have I1:=eh (h':=h') (t':=Ku) I (LI It<|by simp) λb o hb e=>E5 b o (by simpa using hb) e;have hS':=E5 S _ (by simpa using Bb hS jM) hS;have s1:=oO h' S<|eR λx=>(#[]:Array Á);show Ï _ X.A.in1 (updateSeq S (λx=> #[])>>=_) _ _ _;refine Ñ ?_;refine xF hS' rfl<|Ñ<|io<|Ą ?_;exact hR i v vb H _ hv rv (λj' Xd=>wO j'<|by lia) (eh (t':=Ku) I1 (LI S<|by simp) λb o hb e=>(s1.2 b hb).trans e)<|QP▸w
 |succ r ih=>
  intro j i H s vb tb c v hr hj I w hS jM hF LI hv rv Xc wO;have kX:j+1<xs.length:=by lia
  obtain⟨Ē,ri,pl,_⟩:=I.list<|hl _ _ w;have kW:Ē.toArray.size=xs.length:=by rw[Ģ,ri.length]
  have W':=sW (prog:=X.prog) (w:=X.w) (A:=X.A.in1) hh It l (CU pl.isList jM) Ē.toArray;refine sx xQ ?_;rw[xL jY _];show Ï _ X.A.in1 (im (.ref S)>>=_) _ _ _;refine Ñ<|di hS rfl ?_;show Ï _ X.A.in1 (lV (aO<|.ref It) _>>=_) _ _ _;refine Ñ (mq<|W'.item (j+1) _ _ _ (by rw[kW];exact kX) ⟨jM,pl.isList⟩ λu h' Ku hP Nd E5=>?_);have hu:Ē[j+1]?=some u:=by simpa using hP
  have QR:xs[j+1]?=some xs[j+1]:=œ kX;have ru:RelV xs[j+1] u:=by obtain⟨u2,h2,r2⟩:=ri.get QR;rw[hu]at h2;cases h2;exact r2
  obtain⟨NP,Hg,MY,NQ⟩:=id Nd.1;have I1:=eh (h':=h') (t':=Ku) I (LI It<|by simp) λb o hb e=>E5 b o (by simpa using hb) e;have QT:=E5 S _ (by simpa using Bb hS jM) hS;have LJ:=E5 f _ (by simpa using Ry) hF;show Ï _ X.A.in1 (lV (ϖ [u] (call (.ref f) [u])) _>>=_) _ _ _;refine Ñ<|mq<|eK<|ϔ (vR (fp:=[S,It,f]) I1 LI (λb hb=>?_) (λiw I'=>turn (j+1) _ QR iw H _ u I' w ru LJ) λy u2 H2 s2 I2 ry ⟨ey,w2⟩ Es LK=>?_) (λx x z=>z) λx x hF=>hF.elim
  ·rcases û.mp hb with rfl|hb
   ·exact⟨_,QT,λv z=>by cases z⟩
   ·rcases û.mp hb with rfl|hb
    ·exact⟨NP,Hg,λv z=>by rw[NQ]at z;cases z⟩
    ·rw[cu.mp hb];exact⟨oF,LJ,Rv⟩
  ·subst ey;obtain⟨t2,rfl⟩:=ry;have Nf:=LK S (by simp) _ QT;have Rz:=LK It (by simp) _ Hg;have RA:=LK f (by simp) _ LJ;have QU:s2.heap.IsListIter It l (j+1+1):=⟨NP,Rz,MY,NQ⟩;show Ï _ X.A.in1 (lV (ϖ [u,.int (ks<|j+1) t2] (richCompare .Lt (.int (ks<|j+1) t2) (.int (ks i) tb)>>=_)) _>>=_) _ _ _;refine Ñ<|mq<|eK<|Ñ<|CmpOf.ints_lt (prog:=X.prog) (w:=X.w) (A:=X.A.in1) (P:=λi v=>∃t,v=.int (ks i) t) ks (λi v h=>h) (j+1) i _ _ _ _ _ ⟨t2,rfl⟩ ⟨tb,rfl⟩ ?_;refine Ñ<|eK<|eM ?_;refine Ñ<|io<|Ą ?_;by_cases E6:ks (j+1)<ks i
   ·have s1:=oO s2.heap S<|eR λx=> #[u,.int (ks<|j+1) t2];obtain⟨cc,Hh⟩:∃cc,(s2.heap.update S<|eR λx=> #[u,.int (ks<|j+1) t2]).get? S=some (fR "list" #[u,.int (ks<|j+1) t2] cc):=⟨_,get?_update_seq Nf λx=> #[u,.int (ks<|j+1) t2]⟩;simp only[E6,decide_true,if_true];refine Ñ ?_;refine xF Nf rfl<|Ñ<|io ?_;rw[AF];have nIS:=Bb Nf QU;refine Ą ⟨sy jY _,ih (j+1) (j+1) H2 _ u t2 cc _ (by lia) kX (eh (t':=s2.toks) I2 (Es S<|by simp) λb o hb e=>(s1.2 b hb).trans e) w2 Hh ⟨NP,(s1.2 It nIS.symm).trans Rz,MY,NQ⟩ ((s1.2 f Rx).trans RA) Es QR ru (ö _) λj' Xd=>?_⟩;by_cases e:j'=j+1
    ·subst e;exact⟨by lia,λx=>by lia⟩
    ·have Xe:=wO j' (by lia);have Xb:=Xe.1;exact⟨by lia,λx=>by lia⟩
   ·simp only[E6,decide_false,oj,if_false];refine Ñ<|io ?_;rw[AF];refine Ą ⟨sy jY _,ih (j+1) i H2 s2 vb tb c v (by lia) kX I2 w2 Nf QU RA Es hv rv (by lia) λj' Xd=>?_⟩;by_cases e:j'=j+1
    ·subst e;exact⟨by lia,λx=>by lia⟩
    ·exact wO j' (by lia)
def Eu(hh:X.A.handled=none)(hl:∀k H,W k H->Ϧ X.K H l xs)(Rv:∀v,oF.data≠.cell v)(fN:0<xs.length)
 (turn:∀k v,xs[k]?=some v->∀Å H s u,Inv X Å σ H s->W k H->RelV v u->s.heap.get? f=some oF->Ï (Ø X.prog X.w) X.A.in1 (call (.ref f) [u]) (EP X Å σ λy H'=>y=.int (ks k)/\W (k+1) H') (λx x=>False) s)
 (hQ:∀i v u H s,xs[i]?=some v->RelV v u->(∀j,j<xs.length->ks i<=ks j/\(j<i->ks i<ks j))->Inv X Å σ H s->W xs.length H->Q u s)
 (I:Inv X Å σ H s)(w0:W 0 H)(hF:s.heap.get? f=some oF)(Tp:fZ X Å H f):
 Ï (Ø X.prog X.w) X.A (call (.builtin "min") [.ref l] [(Ì "key",.ref f)]) Q E s:=by
 have AF:(bJ "min"++bJ ".loop":String)="min.loop":=by decide
 obtain⟨Ē,ri,pl,_⟩:=I.list<|hl _ _ w0;have Tq:=pl.isList;obtain⟨ol,Hi,_⟩:=id Tq;have hll:l<s.heap.objs.size:=ü Hi;refine kmk_tree PySem.F.kind_min PySem.F.plain_min PySem.F.entry_min (kmk_min_key _ _) ?_;show Ï _ X.A.in1 (Ck "min" ["key","default"] 0 ⟨[],[(Ì "key",.ref f)]⟩>>=_) _ _ s;refine Ñ<|wpAny_of_eq (show Ck "min" ["key","default"] 0 ⟨[],[(Ì "key",.ref f)]⟩=î [some<|.ref f,none]from rfl) ?_;refine Ñ<|Ą ?_;refine Ñ<|jW Tq ?_;refine Ñ<|wpAny_newList ?_ (da _);rw[AF];have hS:(s.heap.push {cls:=.type "list_iterator",data:=.fields #[.ref l,.int 0 0]}).objs.size=s.heap.objs.size+1:=size_push' ..;generalize hSd:(s.heap.push {cls:=.type "list_iterator",data:=.fields #[.ref l,.int 0 0]}).objs.size=S at hS⊢;refine Ą ⟨sy jY _,?_⟩;have k0:∀b o,s.heap.get? b=some o->((s.heap.push {cls:=.type "list_iterator",data:=.fields #[.ref l,.int 0 0]}).push (fR "list" #[] 0)).get? b=some o:=λb o e=>ø _<|ø _ e;have gI:((s.heap.push {cls:=.type "list_iterator",data:=.fields #[.ref l,.int 0 0]}).push (fR "list" #[] 0)).get? s.heap.objs.size=some {cls:=.type "list_iterator",data:=.fields #[.ref l,.int 0 0]}:=
  ø _ (Ĥ _ rfl)
 have gS:((s.heap.push {cls:=.type "list_iterator",data:=.fields #[.ref l,.int 0 0]}).push (fR "list" #[] 0)).get? S=some (fR "list" #[] 0):=by rw[<-hSd];exact Ĥ _ rfl
 have I0:Inv X Å σ H {s with heap:=(s.heap.push {cls:=.type "list_iterator",data:=.fields #[.ref l,.int 0 0]}).push (fR "list" #[] 0)}:=I.kept (t':=s.toks) k0;have fI:fZ X Å H s.heap.objs.size:=I.tY (ö _)<|I.hok.fresh<|ö _;have fS:fZ X Å H S:=I.tY (by lia) (I.hok.fresh<|by lia);have X2:f<s.heap.objs.size:=ü hF;have Ry:f≠s.heap.objs.size:=İ X2;have Rx:f≠S:=İ (by rw[hS];exact oz X2);have hSI:S≠s.heap.objs.size:=by lia
 have LI:∀b∈[S,s.heap.objs.size,f],fZ X Å H b:=λb hb=>by
  rcases û.mp hb with rfl|hb
  ·exact fS
  ·rcases û.mp hb with rfl|hb
   ·exact fI
   ·rw[cu.mp hb];exact Tp
 obtain⟨LM,X3,pl0,_⟩:=I0.list<|hl _ _ w0;have kW:LM.toArray.size=xs.length:=by rw[Ģ,X3.length]
 have W':=sW (prog:=X.prog) (w:=X.w) (A:=X.A.in1) hh s.heap.objs.size l (İ hll) LM.toArray;refine sx xQ ?_;rw[xL jY _];show Ï _ X.A.in1 (im (.ref _)>>=_) _ _ _;refine Ñ<|di gS rfl ?_;show Ï _ X.A.in1 (lV (aO<|.ref s.heap.objs.size) _>>=_) _ _ _;refine Ñ (mq<|W'.item 0 _ _ _ (by rw[kW];exact fN) ⟨⟨_,gI,rfl,rfl⟩,pl0.isList⟩ λu h' Ku hP Nd E5=>?_);have hu:LM[0]?=some u:=by simpa using hP
 have Xf:xs[0]?=some xs[0]:=œ fN;have ru:RelV xs[0] u:=by obtain⟨u2,h2,r2⟩:=X3.get Xf;rw[hu]at h2;cases h2;exact r2
 obtain⟨NP,Hg,MY,NQ⟩:=id Nd.1;have I1:=eh (h':=h') (t':=Ku) I0 fI λb o hb e=>E5 b o (by simpa using hb) e;have QT:=E5 S _ (by simpa using hSI) gS;have LJ:=E5 f _ (by simpa using Ry)<|k0 _ _ hF;show Ï _ X.A.in1 (lV (ϖ [u] (call (.ref f) [u])) _>>=_) _ _ _;refine Ñ<|mq<|eK<|ϔ (vR (fp:=[S,s.heap.objs.size,f]) I1 LI (λb hb=>?_) (λiw I'=>turn 0 _ Xf iw H _ u I' w0 ru LJ) λy u2 H2 s2 I2 ry ⟨ey,w2⟩ Es LK=>?_) (λx x z=>z) λx x hF=>hF.elim
 ·rcases û.mp hb with rfl|hb
  ·exact⟨_,QT,λv z=>by cases z⟩
  ·rcases û.mp hb with rfl|hb
   ·exact⟨NP,Hg,λv z=>by rw[NQ]at z;cases z⟩
   ·rw[cu.mp hb];exact⟨oF,LJ,Rv⟩
 ·subst ey;obtain⟨t2,rfl⟩:=ry;have Nf:=LK S (by simp) _ QT;have Rz:=LK s.heap.objs.size (by simp) _ Hg;have RA:=LK f (by simp) _ LJ;have s1:=oO s2.heap S<|eR λx=> #[u,.int (ks 0) t2];obtain⟨cc,Hh⟩:∃cc,(s2.heap.update S<|eR λx=> #[u,.int (ks 0) t2]).get? S=some (fR "list" #[u,.int (ks 0) t2] cc):=⟨_,get?_update_seq Nf λx=> #[u,.int (ks 0) t2]⟩;show Ï _ X.A.in1 (updateSeq S (λx=> #[u,.int (ks 0) t2])>>=_) _ _ _;refine Ñ ?_;refine xF Nf rfl ?_;rw[AF];refine Ą ⟨sy jY _,Er ks W hh hl Rv Rx Ry turn (λi v u' H' s' a1 a2 a3 a4 a5=>hQ i v u' H' s' a1 a2 a3 a4 a5) _ 0 0 H2 _ u t2 cc _ rfl fN (eh (t':=s2.toks) I2 (Es S<|by simp) λb o hb e=>(s1.2 b hb).trans e) w2 Hh ⟨NP,(s1.2 _ hSI.symm).trans Rz,MY,NQ⟩ ((s1.2 f Rx).trans RA) Es Xf ru (ö _) λj' Xd=>?_⟩;have e:j'=0:=by lia
  subst e;exact⟨by lia,λh=>absurd h<|aN _⟩
end
def Oy(K:Î)(ta:TA)(js:List Nat)(te:TE):TE:=λb H Q=>ta b H λvs H1=>∃l xs,vs=[.ref l]/\Ϧ K H1 l xs/\0<xs.length/\∀c q H2,Ú H1 H2->H2 c=some (.D5 q)->(∀a,H1 a=none->H2 a=none\/a=c)->
 ∃(ks:Nat->Int) (W:Nat->Hp->Prop),W 0 H2/\(∀k H,W k H->Ú H2 H)/\(∀k v H,xs[k]?=some v->W k H->te (jj js b v) H λy H'=>y=.int (ks k)/\W (k+1) H')/\
  ∀i v H,xs[i]?=some v->(∀j,j<xs.length->ks i<=ks j/\(j<i->ks i<ks j))->W xs.length H->Q v H
section
variable{X:Cx}{x px:Str}{c P:À}{params:ie}{body e:Ç}{scope:ú}{p pos Ev BO:Pos}{ta:TA}{te:TE}
def Ir(N0:List Str)(js:List Nat)(sc:ú)(qI:X.env.scope=sc)(hcalm:X.calm=true)(LH:X.A.depth<su)(hx:x∈lams)(ht:Ũ X.K x=some (c,P))(wN:X.env.code=.ref c)(hq:X.env.qual=x++".<locals>.")(hg:Gl X "min")(hm:X.mg "min"=none)(ha:PA X [e] ta)(he:∀cl f c' s H,PE (EZ X (N0++[px]) (gp x) scope cl f c' X.A.in1 s H) body te)(hcap:gu X sc scope N0 js)(hlen:js.length=N0.length:=by rfl)(u_:∀(cl:List (Str×À)) (pm AQ:Á) (c':À) (u:Á),dh (yg "<lambda>" (gp x) params body scope cl pm (.ref c') AQ) ⟨[u],[]⟩=î [(px,u)]:=by intros;rfl)(hk:scope.kind=.function:=by rfl)(hcell:∀y∈scope.names,y.2≠.cell:=by decide+kernel)(E4:scope.names.lookup px=some .local:=by rfl)(QO:scope.isCoroutine=false:=by rfl)(Hf:scope.isGenerator=false:=by rfl)(hfree:∀y∈scope.names,y.2=.free->(sc.names.lookup y.1=some .cell\/sc.names.lookup y.1=some .free):=by decide+kernel)(He:defaultsOf params X.env=([],[]):=by rfl)(jN:Ð [e] X.env=[(false,eval e X.env)]:=by rfl)(hpl:(ÿ pos<|Ð [e] X.env).any (·.1)=false:=by kernel_rfl):
 PE X (.Call (.Name "min" p) [e] [⟨some "key",.Lambda params body scope Ev,BO⟩] pos) (Oy X.K ta js te):=by
 intro Å s d H Q I h;obtain⟨cl,c1,c2,c3⟩:=pb (scope:=scope) (env:=X.env) λy hy hf=>I.ok.has y.1 (by
  have:=hfree y hy hf;rw[<-qI]at this;exact this)
 have hh:=I.ok.hd hcalm;refine ig (kY I hg hm (show eJ "min"=some (.builtin "min") by kernel_rfl) ?_ (by decide) (by decide));refine callWith_kw (ώ (ha pos Å s d H _ I h) λus s1 zz=>?_) (by rw[jN];rfl) hpl rfl rfl;obtain⟨vs,H1,I1,r1,q1⟩:=zz;obtain⟨l,xs,rfl,QV,fN,q1⟩:=q1;have eus:us=[.ref l]:=by
  cases r1 with
  |cons a b=>cases b;exact congrArg (λz=>[z])<|show _=Ń l from a
 subst eus;show Ï _ _ (evalAll ((do let v<-eval (.Lambda params body scope Ev) X.env;de pos;î v)::[])) _ _ s1;refine wpAny_evalAll_cons<|Ñ<|FS I1 hx ht wN hq He c1 λf c' pm AQ H2 s2 I2 nw sm hc hf fo=>Ñ<|lY<|Ą ?_;refine wpAny_evalAll_nil ?_;obtain⟨ks,W,w0,wm,wt,wq⟩:=q1 c' _ H2 sm hc nw;refine Eu (xs:=xs) ks W hh (λk H w=>(wm k H w).seq (sm.seq QV)) (λv z=>by cases z) fN (λk v hv iw H' s' u I' w ru hf'=>?_) (λi v u H' s' hv ru hb I' w=>⟨v,H',I',ru,wq i v H' hv hb w⟩) I2 w0 hf fo;exact FT (A:=X.A.in1) (te:=te) (N0:=N0) (js:=js) qI hk hcap hlen hcell E4 QO Hf I.ok.frames hh LH c2 c3 (u_ cl pm AQ c') (λs H=>he cl f c' s H) I' hf' (wm k H' w c' _ hc) ru<|wt k v H' hv w
end
end M5
namespace P
noncomputable def Ug:Ç->Bool
 |.Starred .. =>false|_=>true
def Ĺ(h:Ug e=true):Ð (e::es) env=(false,xG e env)::Ð es env:=by cases e<;>first|rfl|cases h
def FU(h:Ug a=true)(h2:Ug b=true):Ð [a,b] env=[(false,xG a env),(false,xG b env)]:=by rw[Ĺ h,Ĺ h2];rfl
open PySem PySem.Spec PyProof.Rows L2 M2
structure KK where
 K:Î
 cm:String->À
noncomputable abbrev kk(X:Cx)(cm:String->À):KK:=⟨X.K,cm⟩
inductive PV where
 |non|bl (b:Bool)|int (i:Int)|str (x:Str)|tup (xs:List PV)|lst (xs:List PV)
 |ins (C:String) (ns:List Str) (xs:List PV)|xc (C:String) (ns:List Str) (xs:List PV)|ty (n:String)|cls (C:String)|E_ (ks:List Str) (xs:List PV)
noncomputable def xo(a C:À)(d:Option À):HO:=.ext λh=>∃o vs,h.get? a=some o/\o.cls=.ref C/\o.dict=d/\o.data=.fields vs
def zU(F:Hp)(d:Option À)(fs:List (Str×V)):Prop:=(d=none/\fs=[])\/∃a,d=some a/\F a=some (.xd fs)
mutual
def Ċ(K:KK)(F:Hp):PV->V->Prop
 |.non,v=>v=.non|.bl b,v=>v=.bl b|.int i,v=>v=.int i|.str x,v=>v=.str x|.tup ps,v=>∃a xs,v=.ref a/\gj K.K F a xs/\é K F ps xs|.lst ps,v=>∃a xs,v=.ref a/\Ϧ K.K F a xs/\é K F ps xs|.ins C ns ps,v=>∃a dx fs,v=.ref a/\F a=some (.ins (K.cm C) dx fs)/\fs.map (·.1)=ns/\é K F ps (fs.map (·.2))|.xc C ns ps,v=>∃a d fs,v=.ref a/\F a=some (xo a (K.cm C) d)/\zU F d fs/\fs.map (·.1)=ns/\é K F ps (fs.map (·.2))|.ty n,v=>v=.ty n|.cls C,v=>v=.ref (K.cm C)|.E_ ks ps,v=>∃a us,v=.ref a/\F a=some (.dK us)/\us.map (·.1)=ks.map .inr/\é K F ps (us.map (·.2))
def é(K:KK)(F:Hp):List PV->List V->Prop
 |[],xs=>xs=[]|p::ps,xs=>∃x r,xs=x::r/\Ċ K F p x/\é K F ps r
end
section
variable{K:KK}{F F':Hp}
def zU.same(e:Ú F F')(h:zU F d fs):zU F' d fs:=by
 rcases h with h|⟨a,h1,h2⟩
 ·exact .inl h
 ·exact .inr ⟨a,h1,e _ _ h2⟩
mutual
theorem Ċ.same(e:Ú F F'):∀(p:PV) (v:V),Ċ K F p v->Ċ K F' p v
 |.non,_,h=>by unfold Ċ at h⊢;exact h|.bl _,_,h=>by unfold Ċ at h⊢;exact h|.int _,_,h=>by unfold Ċ at h⊢;exact h|.str _,_,h=>by unfold Ċ at h⊢;exact h|.ty _,_,h=>by unfold Ċ at h⊢;exact h|.cls _,_,h=>by unfold Ċ at h⊢;exact h|.tup ps,_,h=>by unfold Ċ at h⊢;obtain⟨a,xs,h1,h2,h3⟩:=h;exact⟨a,xs,h1,Ú.tup e h2,é.same e ps xs h3⟩|.lst ps,_,h=>by unfold Ċ at h⊢;obtain⟨a,xs,h1,h2,h3⟩:=h;exact⟨a,xs,h1,e.seq h2,é.same e ps xs h3⟩|.ins C ns ps,_,h=>by unfold Ċ at h⊢;obtain⟨a,dx,fs,h1,h2,h3,h4⟩:=h;exact⟨a,dx,fs,h1,e _ _ h2,h3,é.same e ps _ h4⟩|.xc C ns ps,_,h=>by unfold Ċ at h⊢;obtain⟨a,d,fs,h1,h2,hd,h3,h4⟩:=h;exact⟨a,d,fs,h1,e _ _ h2,hd.same e,h3,é.same e ps _ h4⟩|.E_ ks ps,_,h=>by unfold Ċ at h⊢;obtain⟨a,us,h1,h2,h3,h4⟩:=h;exact⟨a,us,h1,e _ _ h2,h3,é.same e ps _ h4⟩
theorem é.same(e:Ú F F'):∀(ps:List PV) (xs:List V),é K F ps xs->é K F' ps xs
 |[],_,h=>by unfold é at h⊢;exact h|p::ps,_,h=>by unfold é at h⊢;obtain⟨x,r,h1,h2,h3⟩:=h;exact⟨x,r,h1,Ċ.same e p x h2,é.same e ps r h3⟩
end
theorem é.pr:∀{ps:List PV}{vs:List V},é K F ps vs->Paired (Ċ K F) ps vs
 |[],_,h=>by unfold é at h;subst h;exact .nil|p::ps,_,h=>by unfold é at h;obtain⟨x,r,rfl,h2,h3⟩:=h;exact .cons h2<|é.pr h3
theorem é.of:∀{ps:List PV}{vs:List V},Paired (Ċ K F) ps vs->é K F ps vs
 |[],_,.nil=>by unfold é;rfl|p::ps,_,.cons h t=>by unfold é;exact⟨_,_,rfl,h,é.of t⟩
theorem é.nil:é K F [] []:=é.of .nil
theorem é.cons(h:Ċ K F p v)(t:é K F ps vs):é K F (p::ps) (v::vs):=é.of<|.cons h t.pr
theorem é.length(h:é K F ps vs):ps.length=vs.length:=Paired.length h.pr
theorem bT{α β:Type}{G:α->β->Prop}:∀{l:List α}{m:List β}{i:Nat}{x:α},Paired G l m->l[i]?=some x->∃y,m[i]?=some y/\G x y
 |_,_,_,_,.nil,e=>by simp at e|_,_,0,_,.cons r _,e=>by simp at e;subst e;exact⟨_,rfl,r⟩|_,_,i+1,x,.cons _ t,e=>by obtain⟨y,h1,h2⟩:=bT (i:=i) (x:=x) t (by simpa using e);exact⟨y,by simpa using h1,h2⟩
theorem CW{α β:Type}{G:α->β->Prop}:∀{l:List α}{m:List β}{i:Nat}{y:β},Paired G l m->m[i]?=some y->∃x,l[i]?=some x/\G x y
 |_,_,_,_,.nil,e=>by simp at e|_,_,0,_,.cons r _,e=>by simp at e;subst e;exact⟨_,rfl,r⟩|_,_,i+1,y,.cons _ t,e=>by obtain⟨x,h1,h2⟩:=CW (i:=i) (y:=y) t (by simpa using e);exact⟨x,by simpa using h1,h2⟩
theorem yF{α β:Type}{G:α->β->Prop}:∀{l l2:List α}{m m2:List β},Paired G l m->Paired G l2 m2->Paired G (l++l2) (m++m2)
 |_,_,_,_,.nil,t=>t|_,_,_,_,.cons r s,t=>.cons r<|yF s t
theorem FV{α β:Type}{G:α->β->Prop}{x:α}{y:β}(r:G x y):∀{l:List α}{m:List β} (i:Nat),Paired G l m->Paired G (l.set i x) (m.set i y)
 |_,_,_,.nil=>.nil|_,_,0,.cons _ t=>.cons r t|_,_,i+1,.cons q t=>.cons q<|FV r i t
theorem CY{α β:Type}{G:α->β->Prop}:∀{l:List α}{m:List β} (n:Nat),Paired G l m->Paired G (l.take n) (m.take n)
 |_,_,0,_=>.nil|_,_,_+1,.nil=>.nil|_,_,n+1,.cons r t=>.cons r<|CY n t
theorem CZ{α β:Type}{G:α->β->Prop}:∀{l:List α}{m:List β} (n:Nat),Paired G l m->Paired G (l.drop n) (m.drop n)
 |_,_,0,h=>h|_,_,_+1,.nil=>.nil|_,_,n+1,.cons _ t=>CZ n t
def é.append(h:é K F ps vs)(t:é K F qs us):é K F (ps++qs) (vs++us):=é.of<|yF h.pr t.pr
end
inductive Slot where
 |no|sh (p:PV)|ow (ps:List PV)|bw (ps:List PV)|rc (C:String) (ns:List Str) (ps:List PV)|ot (ps qs rs:List PV)|ol (nO:List (List PV))|fr (nO:List (List PV))|bn (qs rows:List PV)|dw (gv:List (List PV×List PV))|pw (ps:List PV)|pin
abbrev Ĉ:=List Slot
abbrev ť:=Slot
noncomputable def Slot.own:Slot->Bool
 |.ow _=>true|.rc _ _ _=>true|.ot _ _ _=>true|.ol _=>true|.fr _=>true|.pw _=>true|.pin=>true|_=>false
structure Ctx where
 B:Hp
 F₀:Hp
 L:Hp
 S:À->À->String->Prop
noncomputable def J_(F:Hp)(a b:À):Hp:=λx=>if x=a\/x=b then none else F x
def nP(K:KK)(B F:Hp)(t:Bool)(ps qs rows:List PV)(v:V):Prop:=∃a b ys vs,F a=some (.lst (.ref b::ys))/\F b=some (.lst vs)/\B a=none/\B b=none/\a≠b/\é K (J_ F a b) qs vs/\é K (J_ F a b) rows ys/\((t=false/\ps=[]/\v=.ref a)\/t=true/\∃p xs,v=.ref p/\F p=some (.tup<|xs++[.ref a])/\é K (J_ F a b) ps xs)
def ū(K:KK)(c:Ctx)(F H:Hp)(o:Option V):Slot->Prop
 |.no=>True|.sh p=>∃v,o=some v/\Ċ K F p v|.ow ps=>∃a vs,o=some (.ref a)/\H a=some (.lst vs)/\F a=none/\c.B a=none/\é K F ps vs|.bw ps=>∃a vs,o=some (.ref a)/\c.L a=some (.lst vs)/\é K F ps vs|.rc C ns ps=>∃a dx fs,o=some (.ref a)/\H a=some (.ins (K.cm C) dx fs)/\F a=none/\c.B a=none/\fs.map (·.1)=ns/\é K F ps (fs.map (·.2))/\c.S a dx C|.ot ps qs rs=>∃p a xs vs ys,o=some (.ref p)/\F p=some (.tup (xs++.ref a::ys))/\é K F ps xs/\H a=some (.lst vs)/\F a=none/\c.B a=none/\é K F qs vs/\é K F rs ys|.ol nO=>∃(p:À) (as:List À),o=some (.ref p)/\F p=some (.lst<|as.map V.ref)/\as.Nodup/\Paired (λ(a:À) (ps:List PV)=>∃vs,H a=some (.lst vs)/\F a=none/\c.B a=none/\é K F ps vs) as nO
 |.fr nO=>∃(p:À) (as:List À),o=some (.ref p)/\H p=some (.lst<|as.map V.ref)/\F p=none/\c.B p=none/\as.Nodup/\Paired (λ(a:À) (ps:List PV)=>∃vs,F a=some (.lst vs)/\c.B a=none/\é K F ps vs) as nO
 |.bn qs rows=>∃v,o=some v/\nP K c.B F false [] qs rows v|.pw ps=>∃a vs,o=some (.ref a)/\H a=some (.lst vs)/\F a=none/\c.B a=none/\é K F ps vs/\c.S a a ""|.pin=>∃a,o=some (.ref a)/\c.S a a "#"|.dw gv=>∃(a:À) (ts:List À),o=some (.ref a)/\c.L a=some (.lst<|ts.map V.ref)/\Paired (λ(t:À) (d:List PV×List PV)=>∃xs b vs,F t=some (.tup<|xs++[.ref b])/\é K F d.1 xs/\c.L b=some (.lst vs)/\é K F d.2 vs) ts gv
def Slot.at_(F:Hp)(x:V)(a:À):Slot->Prop
 |.ot ps _ _=>∃p xs ys,x=.ref p/\F p=some (.tup (xs++.ref a::ys))/\xs.length=ps.length|.ol _=>∃(p:À) (as:List À),x=.ref p/\F p=some (.lst<|as.map V.ref)/\a∈as|.ow _=>x=.ref a|.fr _=>x=.ref a|.pw _=>x=.ref a|.rc _ _ _=>x=.ref a|_=>False
def ĵ(F:Hp)(b:ć)(U:Ĉ)(i:Nat)(a:À):Prop:=∃s x,U[i]?=some s/\b[i]?=some (some x)/\s.at_ F x a
structure Ĕ(K:KK)(c:Ctx)(F H:Hp)(σ:ć)(U:Ĉ):Prop where
 sub:Ú F H
 base:Ú c.B H
 f0:Ú c.F₀ F
 fg:∀a,c.B a≠none->c.F₀ a=none->F a=none
 lent:∀a u,c.L a=some u->H a=some u/\F a=none
 lb:∀a,c.B a=none->c.L a=none
 len:σ.length=U.length
 slot:∀(i:Nat) s,U[i]?=some s->ū K c F H ((σ[i]?).getD none) s
 sep:∀i j a,ĵ F σ U i a->ĵ F σ U j a->i=j
def jk(F:Hp)(b:ć)(U:Ĉ)(a:À):Prop:=∀i,¬ĵ F b U i a
section
variable{K:KK}{c:Ctx}{F F' H H':Hp}{σ:ć}{U:Ĉ}{a:À}{o:HO}
def iV{s:Slot}(h:s.at_ F x a):s.own=true:=by cases s<;>first|rfl|exact h.elim
def Iu{s:Slot}(e:Ú F F')(h:s.at_ F x a):s.at_ F' x a:=by
 cases s with
 |ot ps qs rs=>obtain⟨p,xs,ys,h1,h2,h3⟩:=h;exact⟨p,xs,ys,h1,e _ _ h2,h3⟩|ol nO=>obtain⟨p,as,h1,h2,h3⟩:=h;exact⟨p,as,h1,e _ _ h2,h3⟩|_=>exact h
theorem ub:∀{as bs:List À},as.map V.ref=bs.map V.ref->as=bs
 |[],[],_=>rfl|[],_::_,h=>by cases h|_::_,[],h=>by cases h|a::as,b::bs,h=>by
  injection h with h1 h2
  injection h1 with h1
  rw[h1,ub h2]
def pd(h:(Slot.ot ps qs rs).at_ F x a)(h':(Slot.ot ps qs rs).at_ F x b):a=b:=by
 obtain⟨p,xs,us,h1,h2,l1⟩:=h;obtain⟨q,ys,ws,h3,h4,l2⟩:=h';rw[h1]at h3;cases h3;rw[h2]at h4;have e:xs++V.ref a::us=ys++V.ref b::ws:=by
  injection h4 with h4
  injection h4
 have e2:=(List.append_inj e<|by lia).2;injection e2 with e2
 injection e2
theorem FX{α β:Type}{G:α->β->Prop}:∀{l:List α}{m:List β}{x:α},Paired G l m->x∈l->∃y,y∈m/\G x y
 |_,_,_,.nil,h=>by simp at h|_,_,x,.cons r t,h=>by
  rcases û.mp h with rfl|h
  ·exact⟨_,Ş,r⟩
  ·obtain⟨y,h1,h2⟩:=FX t h;exact⟨y,þ _ h1,h2⟩
theorem iA{α β:Type}{G G':α->β->Prop}:∀{l:List α}{m:List β},Paired G l m->(∀x y,x∈l->G x y->G' x y)->Paired G' l m
 |_,_,.nil,_=>.nil|_,_,.cons r t,h=>.cons (h _ _ Ş r)<|iA t λx y hx=>h x y<|þ _ hx
def uc(e:Ú F F'):Ú (J_ F a b) (J_ F' a b):=λx u h=>by
 unfold J_ at h⊢;split at h
 ·cases h
 ·rename_i n;rw[if_neg n];exact e x u h
def yG:Ú (J_ F a b) F:=λx u h=>by
 unfold J_ at h;split at h
 ·cases h
 ·exact h
theorem nP.same(h:nP K B F t ps qs rows v)(e:Ú F F'):nP K B F' t ps qs rows v:=by obtain⟨a,b,ys,vs,h1,h2,h3,h4,h5,h6,h7,h8⟩:=h;refine⟨a,b,ys,vs,e _ _ h1,e _ _ h2,h3,h4,h5,h6.same (uc e) qs vs,h7.same (uc e) rows ys,h8.imp id λ⟨z,p,xs,q1,q2,q3⟩=>⟨z,p,xs,q1,e _ _ q2,q3.same (uc e) ps xs⟩⟩
def nP.base(h:nP K B F t ps qs rows v)(e:Ú B' B):nP K B' F t ps qs rows v:=by obtain⟨a,b,ys,vs,h1,h2,h3,h4,h5,h6,h7,h8⟩:=h;exact⟨a,b,ys,vs,h1,h2,e.free h3,e.free h4,h5,h6,h7,h8⟩
noncomputable def RC(t:Bool)(ps qs rows:List PV):PV:=if t then .tup (ps++[.lst (.lst qs::rows)])else .lst (.lst qs::rows)
def nP.rep(h:nP K B F t ps qs rows v):Ċ K F (RC t ps qs rows) v:=by
 obtain⟨a,b,ys,vs,h1,h2,h3,h4,h5,h6,h7,h8⟩:=h;have e1:Ċ K F (.lst qs) (.ref b):=by unfold Ċ;exact⟨b,vs,rfl,Ϧ.of h2,h6.same yG qs vs⟩
 have e2:Ċ K F (.lst (.lst qs::rows)) (.ref a):=by unfold Ċ;exact⟨a,_,rfl,Ϧ.of h1,é.cons e1<|h7.same yG rows ys⟩
 rcases h8 with⟨rfl,rfl,rfl⟩|⟨rfl,p,xs,rfl,q2,q3⟩
 ·exact e2
 ·show Ċ K F (.tup<|ps++[.lst (.lst qs::rows)]) (.ref p);unfold Ċ;exact⟨p,_,rfl,gj.of q2,é.append (q3.same yG ps xs)<|é.cons e2 é.nil⟩
def ū.grow(h:ū K c F H x s)(eF:Ú F F')(eH:∀b vs,(∃y,x=some y/\s.at_ F y b)->H b=some vs->F b=none->c.B b=none->H' b=some vs/\F' b=none):ū K c F' H' x s:=by
 cases s with
 |no=>trivial|sh p=>obtain⟨v,h1,h2⟩:=h;exact⟨v,h1,h2.same eF p v⟩|ow ps=>obtain⟨b,vs,h1,h2,h3,h4,h5⟩:=h;obtain⟨e1,e2⟩:=eH b _ ⟨_,h1,rfl⟩ h2 h3 h4;exact⟨b,vs,h1,e1,e2,h4,h5.same eF ps vs⟩|bw ps=>obtain⟨b,vs,h1,h2,h3⟩:=h;exact⟨b,vs,h1,h2,h3.same eF ps vs⟩|rc C ns ps=>obtain⟨b,dx,fs,h1,h2,h3,h4,h5,h6⟩:=h;obtain⟨e1,e2⟩:=eH b _ ⟨_,h1,rfl⟩ h2 h3 h4;exact⟨b,dx,fs,h1,e1,e2,h4,h5,h6.1.same eF ps _,h6.2⟩|ot ps qs rs=>obtain⟨p,b,xs,vs,ys,h1,h2,h3,h4,h5,h6,h7,h8⟩:=h;obtain⟨e1,e2⟩:=eH b _ ⟨_,h1,p,xs,ys,rfl,h2,h3.length.symm⟩ h4 h5 h6;exact⟨p,b,xs,vs,ys,h1,eF _ _ h2,h3.same eF ps xs,e1,e2,h6,h7.same eF qs vs,h8.same eF rs ys⟩|ol nO=>obtain⟨p,as,h1,h2,h3,h4⟩:=h;refine⟨p,as,h1,eF _ _ h2,h3,iA h4 λb ps hb zz=>?_⟩;obtain⟨vs,k1,k2,k3,k4⟩:=zz;obtain⟨e1,e2⟩:=eH b _ ⟨_,h1,p,as,rfl,h2,hb⟩ k1 k2 k3;exact⟨vs,e1,e2,k3,k4.same eF ps vs⟩
 |fr nO=>obtain⟨b,as,h1,h2,h3,h4,h5,h6⟩:=h;obtain⟨e1,e2⟩:=eH b _ ⟨_,h1,rfl⟩ h2 h3 h4;exact⟨b,as,h1,e1,e2,h4,h5,iA h6 λd ps z ⟨vs,k1,k2,k3⟩=>⟨vs,eF _ _ k1,k2,k3.same eF ps vs⟩⟩
 |bn qs rows=>obtain⟨v,h1,h2⟩:=h;exact⟨v,h1,h2.same eF⟩|pin=>exact h|pw ps=>obtain⟨b,vs,h1,h2,h3,h4,h5,h6⟩:=h;obtain⟨e1,e2⟩:=eH b _ ⟨_,h1,rfl⟩ h2 h3 h4;exact⟨b,vs,h1,e1,e2,h4,h5.same eF ps vs,h6⟩|dw gv=>obtain⟨a,ts,h1,h2,h3⟩:=h;exact⟨a,ts,h1,h2,iA h3 λt d z ⟨xs,b,vs,k1,k2,k3,k4⟩=>⟨xs,b,vs,eF _ _ k1,k2.same eF d.1 xs,k3,k4.same eF d.2 vs⟩⟩
def ū.owned(h:ū K c F H (some y) s)(ha:s.at_ F y a):∃u,H a=some u/\F a=none/\c.B a=none:=by
 cases s with
 |no=>exact ha.elim|sh p=>exact ha.elim|bw ps=>exact ha.elim|bn qs rows=>exact ha.elim|dw gv=>exact ha.elim|pin=>exact ha.elim|pw ps=>obtain⟨b,vs,h1,h2,h3,h4,h5,h6⟩:=h;rw[show y=.ref a from ha]at h1;cases h1;exact⟨_,h2,h3,h4⟩|fr nO=>obtain⟨b,as,h1,h2,h3,h4,h5,h6⟩:=h;rw[show y=.ref a from ha]at h1;cases h1;exact⟨_,h2,h3,h4⟩|ow ps=>obtain⟨b,vs,h1,h2,h3,h4,h5⟩:=h;rw[show y=.ref a from ha]at h1;cases h1;exact⟨_,h2,h3,h4⟩|rc C ns ps=>obtain⟨b,dx,fs,h1,h2,h3,h4,h5,h6⟩:=h;rw[show y=.ref a from ha]at h1;cases h1;exact⟨_,h2,h3,h4⟩|ot ps qs rs=>obtain⟨p,b,xs,vs,ys,h1,h2,h3,h4,h5,h6,h7,h8⟩:=h;cases h1;cases pd (ps:=ps) (qs:=qs) (rs:=rs) ha ⟨p,xs,ys,rfl,h2,h3.length.symm⟩;exact⟨_,h4,h5,h6⟩|ol nO=>obtain⟨p,as,h1,h2,h3,h4⟩:=h;cases h1;obtain⟨q,bs,e1,e2,e3⟩:=ha;cases e1;rw[h2]at e2;have e:as=bs:=ub (by injection e2 with e2;injection e2);subst e;obtain⟨ps,_,vs,k1,k2,k3,_⟩:=FX h4 e3;exact⟨_,k1,k2,k3⟩
def ū.back(h:ū K c F H (some y) s)(e:Ú F F')(ha:s.at_ F' y a):s.at_ F y a:=by
 cases s with
 |ot ps qs rs=>obtain⟨p,b,xs,vs,ys,h1,h2,h3,h4,h5,h6,h7,h8⟩:=h;cases h1;cases pd (ps:=ps) (qs:=qs) (rs:=rs) ha ⟨p,xs,ys,rfl,e _ _ h2,h3.length.symm⟩;exact⟨p,xs,ys,rfl,h2,h3.length.symm⟩|ol nO=>obtain⟨p,as,h1,h2,h3,h4⟩:=h;cases h1;obtain⟨q,bs,e1,e2,e3⟩:=ha;cases e1;rw[e _ _ h2]at e2;have z:as=bs:=ub (by injection e2 with e2;injection e2);subst z;exact⟨p,as,rfl,h2,e3⟩
 |_=>exact ha
def yH{i:Nat}(e:σ[i]?=some (some x)):(σ[i]?).getD none=some x:=by rw[e];rfl
def yI{i:Nat}(e:(σ[i]?).getD none=some x):σ[i]?=some (some x):=by
 cases q:σ[i]?with
 |none=>rw[q]at e;cases e|some y=>rw[q]at e;exact congrArg some e
theorem Ĕ.owned(r:Ĕ K c F H σ U)(h:ĵ F σ U i a):(∃u,H a=some u)/\F a=none/\c.B a=none:=by obtain⟨s,x,h1,h2,h3⟩:=h;have q:=r.slot i s h1;rw[yH h2]at q;obtain⟨u,q⟩:=q.owned h3;exact⟨⟨u,q.1⟩,q.2⟩
theorem Ĕ.back(r:Ĕ K c F H σ U)(e:Ú F F')(h:ĵ F' σ U i a):ĵ F σ U i a:=by obtain⟨s,x,h1,h2,h3⟩:=h;have q:=r.slot i s h1;rw[yH h2]at q;exact⟨s,x,h1,h2,q.back e h3⟩
def Ĕ.zW(r:Ĕ K c F H σ U)(e:Ú F F'):∀i j a,ĵ F' σ U i a->ĵ F' σ U j a->i=j:=λi j a h1 h2=>r.sep i j a (r.back e h1)<|r.back e h2
def Ĕ.lc(r:Ĕ K c F H σ U)(e:Ú F F')(h:jk F σ U a):jk F' σ U a:=λi q=>h i<|r.back e q
def Ĕ.fresh(r:Ĕ K c F H σ U)(h:H a=none):jk F σ U a:=λi q=>by obtain⟨⟨u,e⟩,_⟩:=r.owned q;rw[h]at e;cases e
def Ĕ.alloc(r:Ĕ K c F H σ U)(h:H a=none):Ĕ K c (upd F a o) (upd H a o) σ U where
 sub:=λb u e=>by
  by_cases hb:b=a
  ·subst hb;rw[Ā]at e⊢;exact e
  ·rw[ñ hb]at e⊢;exact r.sub b u e
 base:=λb u e=>by
  have hb:b≠a:=λz=>by rw[z]at e;rw[r.base _ _ e]at h;cases h
  rw[ñ hb];exact r.base b u e
 f0:=fun b u e=>by
   have hb:b≠a:=λz=>by rw[z]at e;rw[r.sub _ _<|r.f0 _ _ e]at h;cases h
   rw[ñ hb];exact r.f0 b u e
 fg:=λb h1 h2=>by
  have hb:b≠a:=λz=>by
   subst z;cases q:c.B b with
   |none=>exact h1 q|some u=>rw[r.base _ _ q]at h;cases h
  rw[ñ hb];exact r.fg b h1 h2
 lent:=λb u e=>by
  obtain⟨h1,h2⟩:=r.lent b u e;have hb:b≠a:=λz=>by rw[z,h]at h1;cases h1
  rw[ñ hb,ñ hb];exact⟨h1,h2⟩
 lb:=r.lb
 len:=r.len
 slot:=λi s e=>by
  have hF:F a=none:=r.sub.free h;refine(r.slot i s e).grow (Ú.upd hF) λb u x h1 h2 h3=>?_;have hb:b≠a:=λz=>by rw[z,h]at h1;cases h1
  rw[ñ hb,ñ hb];exact⟨h1,h2⟩
 sep:=r.zW<|Ú.upd<|r.sub.free h
def Ĕ.made(r:Ĕ K c F H σ U)(h:H a=none):Ĕ K c F (upd H a o) σ U where
 sub:=r.sub.trans (Ú.upd h)
 base:=r.base.trans (Ú.upd h)
 f0:=r.f0
 fg:=r.fg
 lent:=λb u e=>⟨Ú.upd h b u (r.lent b u e).1,(r.lent b u e).2⟩
 lb:=r.lb
 len:=r.len
 slot:=λi s e=>(r.slot i s e).grow (Ú.refl F) λb u x h1 h2 h3=>⟨Ú.upd h b u h1,h2⟩
 sep:=r.sep
def Ĕ.freeze(r:Ĕ K c F H σ U)(h:H a=some o)(hB:c.B a=none)(hF:F a=none)(hf:jk F σ U a):Ĕ K c (upd F a o) H σ U where
 sub:=λb u e=>by
  by_cases hb:b=a
  ·subst hb;rw[Ā]at e;rw[h];exact e
  ·rw[ñ hb]at e;exact r.sub b u e
 base:=r.base
 f0:=r.f0.trans (Ú.upd hF)
 fg:=λb h1 h2=>by have hb:b≠a:=λz=>h1 (by rw[z];exact hB);rw[ñ hb];exact r.fg b h1 h2
 lent:=λb u e=>by
  have hb:b≠a:=λz=>by rw[z,r.lb a hB]at e;cases e
  rw[ñ hb];exact r.lent b u e
 lb:=r.lb
 len:=r.len
 slot:=λi s e=>(r.slot i s e).grow (Ú.upd hF)<|by
  rintro b' u' ⟨y,QM,ha⟩ h1 h2 h3;have hb:b'≠a:=λz=>by subst z;exact hf i ⟨s,y,e,yI QM,ha⟩
  rw[ñ hb];exact⟨h1,h2⟩
 sep:=r.zW<|Ú.upd hF
def Ϙ{α:Type}{l:List α}{x y:α}(h:(l.set i x)[j]?=some y):(j=i/\y=x/\i<l.length)\/(j≠i/\l[j]?=some y):=by
 by_cases hj:j=i
 ·subst hj;have hl:j<l.length:=by
   have:=(aL.mp h).1;simpa using this
  rw[oo hl]at h;exact .inl ⟨rfl,(ı h).symm,hl⟩
 ·rw[lQ<|Ė hj]at h;exact .inr ⟨hj,h⟩
def FY{l:ć}(h:i<l.length):((l.set i x)[i]?).getD none=x:=by rw[oo h];rfl
def C_{l:ć}(h:j≠i):((l.set i x)[j]?).getD none=(l[j]?).getD none:=by rw[lQ<|Ė h]
def ĵ.off(h:ĵ F (σ.set i x) (U.set i s) j a)(hj:j≠i):ĵ F σ U j a:=by obtain⟨s',y,h1,h2,h3⟩:=h;rw[lQ<|Ė hj]at h1 h2;exact⟨s',y,h1,h2,h3⟩
def Ĕ.put(r:Ĕ K c F H σ U)(hs:s.own=false)(h:ū K c F H x s):Ĕ K c F H (σ.set i x) (U.set i s) where
 sub:=r.sub
 base:=r.base
 f0:=r.f0
 fg:=r.fg
 lent:=r.lent
 lb:=r.lb
 len:=by simpa using r.len
 slot:=λj s' e=>by
  rcases Ϙ e with⟨rfl,rfl,hl⟩|⟨hj,e⟩
  ·rw[FY (by rw[r.len];exact hl)];exact h
  ·rw[C_ hj];exact r.slot j s' e
 sep:=λj k b h1 h2=>by
  have off:∀{j},ĵ F (σ.set i x) (U.set i s) j b->j≠i:=fun{j} q z=>by
   subst z;obtain⟨s',y,q1,_,q2⟩:=q;rcases Ϙ q1 with⟨_,rfl,_⟩|⟨q,_⟩
   ·have:=iV q2;rw[hs]at this;cases this
   ·exact q rfl
  exact r.sep j k b (h1.off<|off h1)<|h2.off<|off h2
def Ĕ.C0(r:Ĕ K c F H σ U)(hs:s.own=false)(h:ū K c F H ((σ[i]?).getD none) s):Ĕ K c F H σ (U.set i s) where
 sub:=r.sub
 base:=r.base
 f0:=r.f0
 fg:=r.fg
 lent:=r.lent
 lb:=r.lb
 len:=by simpa using r.len
 slot:=λj s' e=>by
  rcases Ϙ e with⟨rfl,rfl,hl⟩|⟨hj,e⟩
  ·exact h
  ·exact r.slot j s' e
 sep:=λj k b h1 h2=>by
  have off:∀{j},ĵ F σ (U.set i s) j b->ĵ F σ U j b:=fun{j} ⟨s',y,q1,q3,q2⟩=>by
   rcases Ϙ q1 with⟨_,rfl,_⟩|⟨_,q⟩
   ·have:=iV q2;rw[hs]at this;cases this
   ·exact⟨s',y,q,q3,q2⟩
  exact r.sep j k b (off h1)<|off h2
def Ĕ.Bc(r:Ĕ K c F H σ U)(h:ū K c F H (some x) s)(hf:∀a,s.at_ F x a->jk F σ U a):Ĕ K c F H (σ.set i<|some x) (U.set i s) where
 sub:=r.sub
 base:=r.base
 f0:=r.f0
 fg:=r.fg
 lent:=r.lent
 lb:=r.lb
 len:=by simpa using r.len
 slot:=λj s' e=>by
  rcases Ϙ e with⟨rfl,rfl,hl⟩|⟨hj,e⟩
  ·rw[FY (by rw[r.len];exact hl)];exact h
  ·rw[C_ hj];exact r.slot j s' e
 sep:=λj k b h1 h2=>by
  have LO:∀{j},ĵ F (σ.set i<|some x) (U.set i s) j b->(j=i/\s.at_ F x b)\/(j≠i/\ĵ F σ U j b):=fun{j} q=>by
   by_cases hj:j=i
   ·subst hj;obtain⟨s',y,q1,q2,q3⟩:=q;rcases Ϙ q2 with⟨_,e,_⟩|⟨z,_⟩
    ·cases e;rcases Ϙ q1 with⟨_,e,_⟩|⟨z,_⟩
     ·cases e;exact .inl ⟨rfl,q3⟩
     ·exact absurd rfl z
    ·exact absurd rfl z
   ·exact .inr ⟨hj,q.off hj⟩
  rcases LO h1 with⟨e1,z1⟩|⟨e1,o1⟩
  ·rcases LO h2 with⟨e2,z2⟩|⟨e2,o2⟩
   ·rw[e1,e2]
   ·exact absurd o2<|hf b z1 k
  ·rcases LO h2 with⟨e2,z2⟩|⟨e2,o2⟩
   ·exact absurd o1<|hf b z2 j
   ·exact r.sep j k b o1 o2
def Ĕ.LP(r:Ĕ K c F H σ U)(ho:ĵ F σ U i a)(h:ū K c F (upd H a o) ((σ[i]?).getD none) s)(hs:∀x b,σ[i]?=some (some x)->s.at_ F x b->ĵ F σ U i b):Ĕ K c F (upd H a o) σ (U.set i s) where
 sub:=λb u e=>by
  have hb:b≠a:=λz=>by rw[z,(r.owned ho).2.1]at e;cases e
  rw[ñ hb];exact r.sub b u e
 base:=λb u e=>by
  have hb:b≠a:=λz=>by rw[z,(r.owned ho).2.2]at e;cases e
  rw[ñ hb];exact r.base b u e
 f0:=r.f0
 fg:=r.fg
 lent:=λb u e=>by
  have hb:b≠a:=λz=>by rw[z,r.lb a (r.owned ho).2.2]at e;cases e
  rw[ñ hb];exact r.lent b u e
 lb:=r.lb
 len:=by simpa using r.len
 slot:=λj s' e=>by
  rcases Ϙ e with⟨rfl,rfl,hl⟩|⟨hj,e⟩
  ·exact h
  ·refine(r.slot j s' e).grow (Ú.refl F) λb u ⟨y,e1,e2⟩ h1 h2 h3=>?_;have hb:b≠a:=λz=>by
    subst z;exact hj<|r.sep j i b ⟨s',y,e,yI e1,e2⟩ ho
   exact⟨by rw[ñ hb];exact h1,h2⟩
 sep:=λj k b h1 h2=>by
  have off:∀{j},ĵ F σ (U.set i s) j b->ĵ F σ U j b:=fun{j} ⟨s',y,q1,q3,q2⟩=>by
   rcases Ϙ q1 with⟨e,rfl,_⟩|⟨_,q⟩
   ·subst e;exact hs y b q3 q2
   ·exact⟨s',y,q,q3,q2⟩
  exact r.sep j k b (off h1)<|off h2
def Ĕ.write(r:Ĕ K c F H σ U)(ho:ĵ F σ U i a)(hx:σ[i]?=some (some<|.ref a))(h:ū K c F (upd H a o) (some<|.ref a) s)(hs:∀b,s.at_ F (.ref a) b->b=a):Ĕ K c F (upd H a o) σ (U.set i s):=
 r.LP ho (by rw[hx];exact h) λx b e q=>by rw[hx]at e;cases e;rw[hs b q];exact ho
structure Gr(F H F' H':Hp):Prop where
 h:Ú H H'
 f:Ú F F'
 sub:Ú F' H'
 out:∀a,H a≠none->F a=none->F' a=none
def Ĕ.call(r:Ĕ K c F H σ U)(g:Gr F H F' H'):Ĕ K c F' H' σ U where
 sub:=g.sub
 base:=r.base.trans g.h
 f0:=r.f0.trans g.f
 fg:=λb h1 h2=>by
  refine g.out b (λz=>h1 ?_)<|r.fg b h1 h2;cases q:c.B b with
  |none=>rfl|some u=>rw[r.base _ _ q]at z;cases z
 lent:=λb u e=>⟨g.h b u (r.lent b u e).1,g.out b (by rw[(r.lent b u e).1];intro z;cases z) (r.lent b u e).2⟩
 lb:=r.lb
 len:=r.len
 slot:=λi s e=>(r.slot i s e).grow g.f λb u x h1 h2 h3=>⟨g.h b u h1,g.out b (by rw[h1];intro z;cases z) h2⟩
 sep:=r.zW g.f
noncomputable def cn(F H:Hp):Ctx:=⟨H,F,λa=>match F a with
 |none=>H a|some _=>none,λx x x=>True⟩
def ϰ(h:(cn F H).L a=some u):H a=some u/\F a=none:=by
 unfold cn at h;dsimp only at h;cases q:F a with
 |none=>rw[q]at h;exact⟨h,rfl⟩|some o=>rw[q]at h;cases h
def Ĕ.gr(r:Ĕ K (cn F H) F' H' σ U):Gr F H F' H':=⟨r.base,r.f0,r.sub,r.fg⟩
def du(K:KK)(F H:Hp):Slot->V->Prop
 |.sh p,v=>Ċ K F p v|.bw ps,v=>∃a vs,v=.ref a/\H a=some (.lst vs)/\F a=none/\é K F ps vs|.dw gv,v=>∃(a:À) (ts:List À),v=.ref a/\H a=some (.lst<|ts.map V.ref)/\F a=none/\Paired (λ(t:À) (d:List PV×List PV)=>∃xs b vs,F t=some (.tup<|xs++[.ref b])/\é K F d.1 xs/\(H b=some (.lst vs)/\F b=none)/\é K F d.2 vs) ts gv
 |_,_=>False
def du.slot(h:du K F H s v):ū K (cn F H) F H (some v) s/\s.own=false:=by
 cases s with
 |sh p=>exact⟨⟨v,rfl,h⟩,rfl⟩|bw ps=>obtain⟨a,vs,rfl,h1,h2,h3⟩:=h;refine⟨⟨a,vs,rfl,?_,h3⟩,rfl⟩;show(match F a with|none=>H a|some _=>none)=_;rw[h2];exact h1
 |no=>exact h.elim|ow ps=>exact h.elim|rc C ns ps=>exact h.elim|ot ps qs rs=>exact h.elim|ol nO=>exact h.elim|fr nO=>exact h.elim|pw ps=>exact h.elim|pin=>exact h.elim|bn qs rows=>exact h.elim|dw gv=>
  obtain⟨a,ts,rfl,h1,h2,h3⟩:=h;have lt:∀{x:À}{u:HO},H x=some u->F x=none->(cn F H).L x=some u:=fun{x u} e1 e2=>by show(match F x with|none=>H x|some _=>none)=_;rw[e2];exact e1
  exact⟨⟨a,ts,rfl,lt h1 h2,iA h3 λt d y ⟨xs,b,vs,k1,k2,k3,k4⟩=>⟨xs,b,vs,k1,k2,lt k3.1 k3.2,k4⟩⟩,rfl⟩
noncomputable def ĕ(n:Nat)(as:List Slot):Ĉ:=as++á (n-as.length) .no
theorem Ĕ.start(s:Ú F H)(h:Paired (du K F H) as vs):Ĕ K (cn F H) F H (L2.start N vs) (ĕ N.length as) where
 sub:=s
 base:=Ú.refl H
 f0:=Ú.refl F
 fg:=λx x h=>h
 lent:=λx x e=>ϰ e
 lb:=fun a e=>by
   cases q:(cn F H).L a with
   |none=>rfl|some u=>have e':H a=none:=e;rw[(ϰ q).1]at e';cases e'
 len:=by unfold L2.start ĕ;simp[Paired.length h]
 slot:=λi s' e=>by
  unfold ĕ at e;by_cases hi:i<as.length
  ·rw[ϧ hi]at e;obtain⟨v,h1,h2⟩:=bT h e;have hv:((L2.start N vs)[i]?).getD none=some v:=by
    unfold L2.start;rw[ϧ (by simpa[<-Paired.length h]using hi),Ł,h1];rfl
   rw[hv];exact(du.slot h2).1
  ·rw[cr (by lia),hU]at e;split at e
   ·cases e;trivial
   ·cases e
 sep:=λi j a h1 x=>by
  obtain⟨s',y,h1,_,h2⟩:=h1;have h2:=iV h2;exfalso;unfold ĕ at h1;by_cases hi:i<as.length
  ·rw[ϧ hi]at h1;obtain⟨v,_,h3⟩:=bT h h1;rw[(du.slot h3).2]at h2;cases h2
  ·rw[cr (by lia),hU]at h1;split at h1
   ·cases h1;cases h2
   ·cases h1
end
structure PX where
 C:String
 ns:List Str
 ps:List PV
def yJ(K:KK)(F:Hp)(x:PX)(C:Á)(d:Option À):Prop:=C=.ref (K.cm x.C)/\∃fs,zU F d fs/\fs.map (·.1)=x.ns/\é K F x.ps (fs.map (·.2))/\(x.ns=[]->d=none)
inductive į(α:Type) where
 |ok (a:α) (U:Ĉ)|exc (x:PX) (U:Ĉ)|bad
noncomputable def į.bind{α β:Type}(r:į α)(f:α->Ĉ->į β):į β:=match r with
 |.ok a U=>f a U|.exc x U=>.exc x U|.bad=>.bad
@[simp]theorem į.bK{α β:Type}{a:α}{U:Ĉ}{f:α->Ĉ->į β}:(į.ok a U).bind f=f a U:=rfl
@[simp]theorem į.Oz{α β:Type}{x:PX}{U:Ĉ}{f:α->Ĉ->į β}:(į.exc x U:į α).bind f=.exc x U:=rfl
@[simp]theorem į.OA{α β:Type}{f:α->Ĉ->į β}:(į.bad:į α).bind f=.bad:=rfl
noncomputable def į.zE{α:Type}(o:Option α)(U:Ĉ):į α:=match o with
 |some a=>.ok a U|none=>.bad
@[simp]theorem į.OB{α:Type}{a:α}{U:Ĉ}:į.zE (some a) U=.ok a U:=rfl
@[simp]theorem į.OC{α:Type}{U:Ĉ}:į.zE (none:Option α) U=.bad:=rfl
abbrev M(α:Type):=Ĉ->į α
inductive RV where
 |sh (p:PV)|ow (ps:List PV)|ot (ps qs rs:List PV)|bn (t:Bool) (ps qs rows:List PV)
def RV.val:RV->PV
 |.sh p=>p|.ow ps=>.lst ps|.ot ps qs rs=>.tup (ps++.lst qs::rs)|.bn t ps qs rows=>RC t ps qs rows
def RV.slot:RV->Slot
 |.sh p=>.sh p|.ow ps=>.ow ps|.ot ps qs rs=>.ot ps qs rs|.bn t ps qs rows=>if t then .sh (RC t ps qs rows)else .bn qs rows
abbrev RR(α β:Type):=Ctx->ć->Ĉ->Hp->Hp->α->β->Prop
def rV(K:KK):RR PV V:=λx x x F x p v=>Ċ K F p v
def C1(K:KK)(F H:Hp)(p:PV)(v:V):Prop:=match p with
 |.lst ps=>∃a vs,v=.ref a/\H a=some (.lst vs)/\é K F ps vs|.ins C ns ps=>∃a dx fs,v=.ref a/\H a=some (.ins (K.cm C) dx fs)/\fs.map (·.1)=ns/\é K F ps (fs.map (·.2))|_=>False
def rR(K:KK):RR PV V:=λx x x F H p v=>Ċ K F p v\/C1 K F H p v
def rA(K:KK):RR (List Slot) (List V):=λx x x F H as vs=>Paired (du K F H) as vs
def Hj(K:KK)(c:Ctx)(b:ć)(U:Ĉ)(F H:Hp)(ps:List PV)(v:V):Prop:=∃a vs,v=.ref a/\H a=some (.lst vs)/\F a=none/\c.B a=none/\jk F b U a/\é K F ps vs
def C2(K:KK)(c:Ctx)(b:ć)(U:Ĉ)(F H:Hp)(ps qs rs:List PV)(v:V):Prop:=∃p a xs vs ys,v=.ref p/\F p=some (.tup (xs++.ref a::ys))/\é K F ps xs/\H a=some (.lst vs)/\F a=none/\c.B a=none/\jk F b U a/\é K F qs vs/\é K F rs ys
def rO(K:KK):RR RV V:=λc a U F H r v=>match r with
 |.sh p=>Ċ K F p v|.ow ps=>Hj K c a U F H ps v|.ot ps qs rs=>C2 K c a U F H ps qs rs v|.bn t ps qs rows=>nP K c.B F t ps qs rows v
def rL(K:KK):RR (List PV) (List V):=λx x x F x p v=>é K F p v
def LQ(K:KK):RR (List PV) (List V):=λc a U F H p v=>Paired (rR K c a U F H) p v
def rB:RR Bool Bool:=λx x x x x p v=>p=v
def rI:RR (Option Int) (Option Int):=λx x x x x p v=>p=v
def ak{α β:Type}(K:KK)(E:ć->XK)(R:RR α β)(c:Ctx)(F H:Hp)(a:ć)(Q:β->Hp->Prop):į α->Prop
 |.ok p U'=>∀v F' H',Ĕ K c F' H' a U'->Ú F F'->Ú H H'->R c a U' F' H' p v->Q v H'|.exc x U'=>∀C d F' H',Ĕ K c F' H' a U'->Ú F F'->yJ K F' x C d->E a C d H'|.bad=>False
def tG{α β:Type}(K:KK)(E:ć->XK)(R:RR α β)(m:M α):ć->Hp->(β->Hp->Prop)->Prop:=λa H Q=>∃c F U,Ĕ K c F H a U/\ak K E R c F H a Q (m U)
section
variable{α β α' β':Type}{K:KK}{E:ć->XK}{R:RR α β}{R':RR α' β'}{c:Ctx}{F F1 H H1:Hp}{σ:ć}
def ak.mono(h:ak K E R c F H σ Q r)(sF:Ú F F1)(sH:Ú H H1):ak K E R c F1 H1 σ Q r:=by
 cases r with
 |ok p U'=>exact λv F' H' rel s1 s2 q=>h v F' H' rel (sF.trans s1) (sH.trans s2) q
 |exc x U'=>exact λC d F' H' rel s1 q=>h C d F' H' rel (sF.trans s1) q
 |bad=>exact h
theorem ak.bind(h:ak K E R' c F H σ Q' (r.bind f))
 (k:∀p U1 v F1 H1,Ĕ K c F1 H1 σ U1->Ú F F1->Ú H H1->R c σ U1 F1 H1 p v->ak K E R' c F1 H1 σ Q' (f p U1)->Q v H1):ak K E R c F H σ Q r:=by
 cases r with
 |ok p U'=>exact λv F' H' rel s1 s2 q=>k p U' v F' H' rel s1 s2 q<|ak.mono (show ak K E R' c F H σ Q' (f p U')from h) s1 s2
 |exc x U'=>exact h|bad=>exact h
theorem ak.rel{R2:RR α β}(h:ak K E R c F H σ Q r)(k:∀p U' v F' H',Ĕ K c F' H' σ U'->R2 c σ U' F' H' p v->R c σ U' F' H' p v):ak K E R2 c F H σ Q r:=by
 cases r with
 |ok p U'=>exact λv F' H' rel s1 s2 q=>h v F' H' rel s1 s2<|k p U' v F' H' rel q
 |exc x U'=>exact h|bad=>exact h
end
abbrev tV(K:KK)(E:ć->XK)(m:M PV):TE:=tG K E (rV K) m
abbrev tR(K:KK)(E:ć->XK)(m:M PV):TE:=tG K E (rR K) m
abbrev tO(K:KK)(E:ć->XK)(m:M RV):TE:=tG K E (rO K) m
abbrev tL(K:KK)(E:ć->XK)(m:M (List PV)):TA:=tG K E (rL K) m
abbrev tA(K:KK)(E:ć->XK)(m:M (List Slot)):TA:=tG K E (rA K) m
abbrev FZ(K:KK)(E:ć->XK)(m:M (List PV)):TA:=tG K E (LQ K) m
abbrev tB(K:KK)(E:ć->XK)(m:M Bool):TT:=tG K E rB m
inductive Fl where
 |nx|bk|ct|rt (r:RV)
def ϊ(K:KK)(E:ć->XK)(c:Ctx)(F:Hp)(D:Ends):į Fl->Prop
 |.ok .nx U'=>∀a F' H',Ĕ K c F' H' a U'->Ú F F'->D.nx a H'|.ok .bk U'=>∀a F' H',Ĕ K c F' H' a U'->Ú F F'->D.bk a H'|.ok .ct U'=>∀a F' H',Ĕ K c F' H' a U'->Ú F F'->D.ct a H'|.ok (.rt r) U'=>∀v a F' H',Ĕ K c F' H' a U'->Ú F F'->rO K c a U' F' H' r v->D.rt v H'|.exc x U'=>∀a C d F' H',Ĕ K c F' H' a U'->Ú F F'->yJ K F' x C d->E a C d H'|.bad=>False
def tS(K:KK)(E:ć->XK)(m:M Fl):TS:=λD a H=>∃c F U,Ĕ K c F H a U/\ϊ K E c F D (m U)
section
variable{K:KK}{E:ć->XK}{c:Ctx}{F F1:Hp}{D:Ends}
def ϊ.mono(h:ϊ K E c F D r)(sF:Ú F F1):ϊ K E c F1 D r:=by
 cases r with
 |ok f U'=>
  cases f with
  |rt v=>exact λv a F' H' rel s1 q=>h v a F' H' rel (sF.trans s1) q
  |nx=>exact λa F' H' rel s1=>h a F' H' rel<|sF.trans s1
  |bk=>exact λa F' H' rel s1=>h a F' H' rel<|sF.trans s1
  |ct=>exact λa F' H' rel s1=>h a F' H' rel<|sF.trans s1
 |exc x U'=>exact λa C d F' H' rel s1 q=>h a C d F' H' rel (sF.trans s1) q
 |bad=>exact h
theorem ϊ.bind{α β:Type}{R:RR α β}{Q:β->Hp->Prop}{r:į α}{f:α->Ĉ->į Fl}(h:ϊ K E c F D (r.bind f))
 (k:∀p U1 v F1 H1,Ĕ K c F1 H1 a U1->Ú F F1->R c a U1 F1 H1 p v->ϊ K E c F1 D (f p U1)->Q v H1):ak K E R c F H a Q r:=by
 cases r with
 |ok p U'=>exact λv F' H' rel s1 s2 q=>k p U' v F' H' rel s1 q<|ϊ.mono (show ϊ K E c F D (f p U')from h) s1
 |exc x U'=>exact λC d F' H' rel s1 q=>h a C d F' H' rel s1 q
 |bad=>exact h
end
open PySem PySem.Spec PyProof.Rows L2 M2
noncomputable def ì(i:Nat):M PV:=λU=>match U[i]?with
 |some (.sh p)=>.ok p U|some (.ow ps)=>.ok (.lst ps)<|U.set i<|.sh<|.lst ps|some (.bn qs rows)=>.ok (.lst (.lst qs::rows)) U|_=>.bad
noncomputable def Â(i:Nat):M PV:=λU=>match U[i]?with
 |some (.sh p)=>.ok p U|some (.ow ps)=>.ok (.lst ps) U|some (.bw ps)=>.ok (.lst ps) U|some (.rc C ns ps)=>.ok (.ins C ns ps) U|some (.bn qs rows)=>.ok (.lst (.lst qs::rows)) U|some (.pw ps)=>.ok (.lst ps) U|_=>.bad
noncomputable def bV(i:Nat):M RV:=λU=>match U[i]?with
 |some (.sh p)=>.ok (.sh p) U|some (.ow ps)=>.ok (.ow ps)<|U.set i .no|_=>.bad
@[simp]def mC(p:PV)(U:Ĉ):į PV:=.ok p U
abbrev Æ(i:Int):M PV:=mC (.int i)
@[simp]def Ŋ(m:M PV)(U:Ĉ):į RV:=(m U).bind λp U1=>.ok (.sh p) U1
@[simp]def Ý(m:M RV)(U:Ĉ):į PV:=(m U).bind λr U1=>.ok r.val U1
section
variable{K:KK}{c:Ctx}{F H:Hp}{σ:ć}{U:Ĉ}
def ŀ{i:Nat}(h:(σ[i]?).getD none=some x):σ[i]?=some (some x):=by
 cases q:σ[i]?with
 |none=>rw[q]at h;cases h|some y=>rw[q]at h;exact congrArg some h
theorem Ĕ.ow(r:Ĕ K c F H σ U)(e:U[i]?=some (.ow ps)):∃a vs,σ[i]?=some (some<|.ref a)/\H a=some (.lst vs)/\F a=none/\c.B a=none/\é K F ps vs/\ĵ F σ U i a:=by obtain⟨a,vs,h1,h2,h3,h4,h5⟩:=r.slot i _ e;exact⟨a,vs,ŀ h1,h2,h3,h4,h5,⟨_,_,e,ŀ h1,rfl⟩⟩
def Ĕ.move(r:Ĕ K c F H σ U)(h:ĵ F σ U i a):Ĕ K c F H σ (U.set i .no)/\jk F σ (U.set i .no) a:=by
 refine⟨r.C0 rfl trivial,λj zz=>?_⟩;obtain⟨s,y,q1,q3,q2⟩:=zz;rcases Ϙ q1 with⟨_,rfl,_⟩|⟨hj,q⟩
 ·exact q2.elim
 ·exact hj<|r.sep j i a ⟨s,y,q,q3,q2⟩ h
def Ĕ.share(r:Ĕ K c F H σ U)(e:U[i]?=some (.ow ps)):∃a vs,σ[i]?=some (some<|.ref a)/\F a=none/\Ċ K (upd F a<|.lst vs) (.lst ps) (.ref a)/\Ĕ K c (upd F a<|.lst vs) H σ (U.set i<|.sh<|.lst ps):=by
 obtain⟨a,vs,h1,h2,h3,h4,h5,ho⟩:=r.ow e;obtain⟨m1,m2⟩:=r.move ho;have rp:Ċ K (upd F a<|.lst vs) (.lst ps) (.ref a):=by unfold Ċ;exact⟨a,vs,rfl,Ϧ.of Ā,h5.same (Ú.upd h3) ps vs⟩
 have q:=(m1.freeze h2 h4 h3 m2).C0 (i:=i) (s:=.sh<|.lst ps) rfl (show ū K c _ H _ (.sh<|.lst ps)from⟨.ref a,by rw[h1];rfl,rp⟩);rw[xk]at q;exact⟨a,vs,h1,h3,rp,q⟩
def C1.mono(h:C1 K F H p v)(sF:Ú F F1)(sH:Ú H H1):C1 K F1 H1 p v:=by
 cases p with
 |lst ps=>obtain⟨a,vs,h2,h3,h4⟩:=h;exact⟨a,vs,h2,sH _ _ h3,h4.same sF ps vs⟩|ins C ns ps=>obtain⟨a,dx,fs,h2,h3,h4,h5⟩:=h;exact⟨a,dx,fs,h2,sH _ _ h3,h4,h5.same sF ps _⟩|_=>exact h.elim
theorem rR.mono(h:rR K c σ U F H p v)(sF:Ú F F1)(sH:Ú H H1):rR K c σ U' F1 H1 p v:=by
 rcases h with h|h
 ·exact .inl<|h.same sF p v
 ·exact .inr<|h.mono sF sH
theorem rR.lst(s:Ú F H)(h:rR K c σ U F H (.lst ps) v):∃a vs,v=.ref a/\Ϧ K.K H a vs/\é K F ps vs:=by
 rcases h with h|⟨a,vs,h2,h3,h4⟩
 ·unfold Ċ at h;obtain⟨a,xs,h1,h2,h3⟩:=h;exact⟨a,xs,h1,s.seq h2,h3⟩
 ·exact⟨a,vs,h2,Ϧ.of h3,h4⟩
theorem rR.tup(s:Ú F H)(h:rR K c σ U F H (.tup ps) v):∃a vs,v=.ref a/\gj K.K H a vs/\é K F ps vs:=by
 rcases h with h|h
 ·unfold Ċ at h;obtain⟨a,xs,h1,h2,h3⟩:=h;exact⟨a,xs,h1,Ú.tup s h2,h3⟩
 ·exact h.elim
theorem rR.int(h:rR K c σ U F H (.int i) v):v=.int i:=by
 rcases h with h|h
 ·unfold Ċ at h;exact h
 ·exact h.elim
theorem rR.str(h:rR K c σ U F H (.str i) v):v=.str i:=by
 rcases h with h|h
 ·unfold Ċ at h;exact h
 ·exact h.elim
theorem rR.bl(h:rR K c σ U F H (.bl i) v):v=.bl i:=by
 rcases h with h|h
 ·unfold Ċ at h;exact h
 ·exact h.elim
theorem rR.non(h:rR K c σ U F H .non v):v=.non:=by
 rcases h with h|h
 ·unfold Ċ at h;exact h
 ·exact h.elim
theorem rR.ty(h:rR K c σ U F H (.ty n) v):v=.ty n:=by
 rcases h with h|h
 ·unfold Ċ at h;exact h
 ·exact h.elim
theorem Ċ.int:Ċ K F (.int i) (.int i):=by unfold Ċ;rfl
theorem Ċ.str:Ċ K F (.str i) (.str i):=by unfold Ċ;rfl
theorem Ċ.bl:Ċ K F (.bl i) (.bl i):=by unfold Ċ;rfl
theorem Ċ.non:Ċ K F .non .non:=by unfold Ċ;rfl
end
section
variable{X:Cx}{cm:String->À}{E:ć->XK}{a b e:Ç}{es:List Ç}{pos:Pos}{m ma mb mc:M PV}{mo:M RV}
def PT.wk(h:PT X e t)(i:∀c H Q,t' c H Q->t c H Q):PT X e t':=λÅ s c H Q I q=>h Å s c H Q I<|i c H Q q
def PA.wk(h:PA X es t)(i:∀c H Q,t' c H Q->t c H Q):PA X es t':=λpos Å s c H Q I q=>h pos Å s c H Q I<|i c H Q q
def PW.wk(h:PW X e t)(i:∀c H Q,t' c H Q->t c H Q):PW X e t':=λwh Å s c H Q I q=>h wh Å s c H Q I<|i c H Q q
def bC.wk{st:List è}(h:bC X st t)(i:∀D c H,t' D c H->t D c H):bC X st t':=λÅ s c H D I q=>h Å s c H D I<|i D c H q
set_option tactic.hygienic true
def v_var(i:Nat){x:Str}{pos:Pos}(hk:D8 X i x=true:=by kernel_rfl):PE X (.Name x pos) (tV (kk X cm) E<|ì i):=PE.wk (nq hk)<|by
 rintro d H Q ⟨c,F,U,rel,h⟩;unfold ì at h;split at h
 ·rename_i p e;obtain⟨v,h1,h2⟩:=rel.slot i _ e;exact⟨v,ŀ h1,h v F H rel (Ú.refl F) (Ú.refl H) h2⟩
 ·rename_i ps e;obtain⟨a,vs,h1,h2,h3,h4⟩:=rel.share e;exact⟨.ref a,h1,h _ _ H h4 (Ú.upd h2) (Ú.refl H) h3⟩
 ·rename_i qs rows e;obtain⟨v,h1,h2⟩:=rel.slot i _ e;exact⟨v,ŀ h1,h v F H rel (Ú.refl F) (Ú.refl H) h2.rep⟩
 ·exact h.elim
def Ä(i:Nat){x:Str}{pos:Pos}(hk:D8 X i x=true:=by kernel_rfl):PE X (.Name x pos) (tR (kk X cm) E<|Â i):=PE.wk (nq hk)<|by
 rintro d H Q ⟨c,F,U,rel,h⟩;unfold Â at h;split at h
 ·rename_i p e;obtain⟨v,h1,h2⟩:=rel.slot i _ e;exact⟨v,ŀ h1,h v F H rel (Ú.refl F) (Ú.refl H)<|.inl h2⟩
 ·rename_i ps e;obtain⟨a,vs,h1,h2,h3,h4,h5,_⟩:=rel.ow e;exact⟨.ref a,h1,h _ F H rel (Ú.refl F) (Ú.refl H)<|.inr ⟨a,vs,rfl,h2,h5⟩⟩
 ·rename_i ps e;obtain⟨a,vs,h1,h2,h3⟩:=rel.slot i _ e;exact⟨.ref a,ŀ h1,h _ F H rel (Ú.refl F) (Ú.refl H)<|.inr ⟨a,vs,rfl,(rel.lent a _ h2).1,h3⟩⟩
 ·rename_i C ns ps e;obtain⟨a,dx,fs,h1,h2,h3,h4,h5,h6⟩:=rel.slot i _ e;exact⟨.ref a,ŀ h1,h _ F H rel (Ú.refl F) (Ú.refl H)<|.inr ⟨a,dx,fs,rfl,h2,h5,h6.1⟩⟩
 ·rename_i qs rows e;obtain⟨v,h1,h2⟩:=rel.slot i _ e;exact⟨v,ŀ h1,h v F H rel (Ú.refl F) (Ú.refl H)<|.inl h2.rep⟩
 ·rename_i ps e;obtain⟨a,vs,h1,h2,h3,h4,h5,h6⟩:=rel.slot i _ e;exact⟨.ref a,ŀ h1,h _ F H rel (Ú.refl F) (Ú.refl H)<|.inr ⟨a,vs,rfl,h2,h5⟩⟩
 ·exact h.elim
set_option tactic.hygienic false
def dW(i:Nat){x:Str}{pos:Pos}(hk:D8 X i x=true:=by kernel_rfl):PE X (.Name x pos) (tO (kk X cm) E<|bV i):=PE.wk (nq hk)<|by
 rintro d H Q ⟨c,F,U,rel,h⟩;unfold bV at h;split at h
 ·rename_i p e;obtain⟨v,h1,h2⟩:=rel.slot i _ e;exact⟨v,ŀ h1,h v F H rel (Ú.refl F) (Ú.refl H) h2⟩
 ·rename_i ps e;obtain⟨a,vs,h1,h2,h3,h4,h5,h6⟩:=rel.ow e;obtain⟨m1,m2⟩:=rel.move h6;exact⟨.ref a,h1,h _ F H m1 (Ú.refl F) (Ú.refl H) ⟨a,vs,rfl,h2,h3,h4,m2,h5⟩⟩
 ·exact h.elim
def F_{v:V}(p:PV)(h:PE X e (tC v))(hr:∀F,Ċ (kk X cm) F p v:=by intro _;unfold Ċ;rfl):PE X e (tV (kk X cm) E<|mC p):=PE.wk h λd H Q ⟨c,F,U,rel,h⟩=>h v F H rel (Ú.refl F) (Ú.refl H)<|hr F
def Ġ{i j pos}:PE X (.Constant (.int i) j pos) (tV (kk X cm) E<|mC<|.int i):=F_ _ ym
def yK{i j pos}:PE X (.Constant (.bool i) j pos) (tV (kk X cm) E<|mC<|.bl i):=F_ _ N_
def ud{j pos}:PE X (.Constant .none j pos) (tV (kk X cm) E<|mC .non):=F_ _ KU
def ϶{x j pos}:PE X (.Constant (.str x) j pos) (tV (kk X cm) E<|mC<|.str x):=F_ _ KW
def í(h:PE X e (tV (kk X cm) E m)):PE X e (tR (kk X cm) E m):=PE.wk h λd H Q ⟨c,F,U,rel,h⟩=>⟨c,F,U,rel,h.rel λx x x x x x q=>.inl q⟩
def Ŷ(h:PE X e (tV (kk X cm) E m)):PE X e (tO (kk X cm) E<|Ŋ m):=PE.wk h λd H Q ⟨c,F,U,rel,h⟩=>⟨c,F,U,rel,h.bind λp U1 v F1 H1 ä s1 s2 q h1=>h1 v F1 H1 ä Đ Đ q⟩
def Hj.share{K:KK}(rel:Ĕ K c F H d U)(h:Hj K c d U F H ps v):∃F1,Ú F F1/\Ĕ K c F1 H d U/\Ċ K F1 (.lst ps) v:=by obtain⟨a,vs,rfl,h1,h2,h3,h4,h5⟩:=h;refine⟨_,Ú.upd h2,rel.freeze h1 h3 h2 h4,?_⟩;unfold Ċ;exact⟨a,vs,rfl,Ϧ.of Ā,h5.same (Ú.upd h2) ps vs⟩
def C2.share{K:KK}(rel:Ĕ K c F H d U)(h:C2 K c d U F H ps qs rs v):∃F1,Ú F F1/\Ĕ K c F1 H d U/\Ċ K F1 (.tup (ps++.lst qs::rs)) v:=by
 obtain⟨p,a,xs,vs,ys,rfl,h0,hx,h1,h2,h3,h4,h5,h6⟩:=h;refine⟨_,Ú.upd h2,rel.freeze h1 h3 h2 h4,?_⟩;have ra:Ċ K (upd F a<|.lst vs) (.lst qs) (.ref a):=by unfold Ċ;exact⟨a,vs,rfl,Ϧ.of Ā,h5.same (Ú.upd h2) qs vs⟩
 unfold Ċ;exact⟨p,_,rfl,gj.of<|Ú.upd h2 _ _ h0,é.append (hx.same (Ú.upd h2) ps xs)<|é.cons ra<|h6.same (Ú.upd h2) rs ys⟩
def ò(h:PE X e (tO (kk X cm) E mo)):PE X e (tV (kk X cm) E<|Ý mo):=PE.wk h λd H Q ⟨c,F,U,rel,h⟩=>⟨c,F,U,rel,h.bind λr U1 v F1 H1 ä s1 s2 q h1=>by
 cases r with
 |sh p=>exact h1 v F1 H1 ä Đ Đ q|ow ps=>obtain⟨F2,s3,Ě,rp⟩:=Hj.share ä q;exact h1 v F2 H1 Ě s3 Đ rp|ot ps qs rs=>obtain⟨F2,s3,Ě,rp⟩:=C2.share ä q;exact h1 v F2 H1 Ě s3 Đ rp|bn t ps qs rows=>exact h1 v F1 H1 ä Đ Đ<|nP.rep q⟩
def Ë(f:PV->PV->Option PV)(ma mb:M PV):M PV:=λU=>(ma U).bind λp U1=>(mb U1).bind λq U2=>į.zE (f p q) U2
def ċ(f:PV->PV->Option RV)(ma mb:M PV):M RV:=λU=>(ma U).bind λp U1=>(mb U1).bind λq U2=>į.zE (f p q) U2
def le(K:KK)(r:R2)(f:PV->PV->Option PV):Prop:=∀{c:Ctx}{F H:Hp}{d:ć}{U:Ĉ}{p q pv:PV}{v u:V}{Q:VK},Ĕ K c F H d U->rR K c d U F H p v->rR K c d U F H q u->f p q=some pv->
 (∀z F' H',Ĕ K c F' H' d U->Ú F F'->Ú H H'->Ċ K F' pv z->Q z H')->r v u H Q
def Uh(K:KK)(r:R2)(f:PV->PV->Option RV):Prop:=∀{c:Ctx}{F H:Hp}{d:ć}{U:Ĉ}{p q:PV}{pv:RV}{v u:V}{Q:VK},Ĕ K c F H d U->rR K c d U F H p v->rR K c d U F H q u->f p q=some pv->
 (∀z F' H',Ĕ K c F' H' d U->Ú F F'->Ú H H'->rO K c d U F' H' pv z->Q z H')->r v u H Q
def C3(hf:le (kk X cm) r f){d:ć}(h:tV (kk X cm) E (Ë f ma mb) d H Q):JU r (tR (kk X cm) E ma) (tR (kk X cm) E mb) d H Q:=by
 obtain⟨c,F,U,rel,h⟩:=h;refine⟨c,F,U,rel,h.bind λp U1 v F1 H1 ä x x r1 h1=>⟨c,F1,U1,ä,h1.bind λq U2 u F2 H2 Ě sF sH r2 h2=>?_⟩⟩;cases e:f p q with
 |none=>rw[e]at h2;exact h2.elim|some pv=>rw[e]at h2;exact hf Ě (r1.mono sF sH) r2 e λz F' H' ŷ s1 s2 q'=>h2 z F' H' ŷ s1 s2 q'
def OD(hf:Uh (kk X cm) r f){d:ć}(h:tO (kk X cm) E (ċ f ma mb) d H Q):JU r (tR (kk X cm) E ma) (tR (kk X cm) E mb) d H Q:=by
 obtain⟨c,F,U,rel,h⟩:=h;refine⟨c,F,U,rel,h.bind λp U1 v F1 H1 ä x x r1 h1=>⟨c,F1,U1,ä,h1.bind λq U2 u F2 H2 Ě sF sH r2 h2=>?_⟩⟩;cases e:f p q with
 |none=>rw[e]at h2;exact h2.elim|some pv=>rw[e]at h2;exact hf Ě (r1.mono sF sH) r2 e λz F' H' ŷ s1 s2 q'=>h2 z F' H' ŷ s1 s2 q'
def aY(hf:le (kk X cm) r f)(ho:aF X (ň op) r)(ha:PE X a (tR (kk X cm) E ma))(hb:PE X b (tR (kk X cm) E mb)):PE X (.BinOp a op b pos) (tV (kk X cm) E<|Ë f ma mb):=PE.wk (JW ho ha hb) λx x x h=>C3 hf h
def OE(hf:Uh (kk X cm) r f)(ho:aF X (ň op) r)(ha:PE X a (tR (kk X cm) E ma))(hb:PE X b (tR (kk X cm) E mb)):PE X (.BinOp a op b pos) (tO (kk X cm) E<|ċ f ma mb):=PE.wk (JW ho ha hb) λx x x h=>OD hf h
def jl(hf:le (kk X cm) r f)(ho:aF X (ĭ op) r)(ha:PE X a (tR (kk X cm) E ma))(hb:PE X b (tR (kk X cm) E mb))(hm:lZ op b=false):PE X (.Compare a [op] [b] pos) (tV (kk X cm) E<|Ë f ma mb):=
 PE.wk (HR ho ha hb hm) λx x x h=>C3 hf h
def OF(hf:le (kk X cm) r f)(hr:AI X r)(ha:PE X a (tR (kk X cm) E ma))(hb:PE X b (tR (kk X cm) E mb))(hs:sZ b):PE X (.Subscript a b pos) (tV (kk X cm) E<|Ë f ma mb):=
 PE.wk (Fx hr ha hb hs) λx x x h=>C3 hf h
@[simp]def fA(f:PV->Option PV)(ma:M PV)(U:Ĉ):į PV:=(ma U).bind λp U1=>į.zE (f p) U1
def X4(K:KK)(r:V->Hp->VK->Prop)(f:PV->Option PV):Prop:=∀{c:Ctx}{F H:Hp}{d:ć}{U:Ĉ}{p pv:PV}{v:V}{Q:VK},Ĕ K c F H d U->rR K c d U F H p v->f p=some pv->
 (∀z F' H',Ĕ K c F' H' d U->Ú F F'->Ú H H'->Ċ K F' pv z->Q z H')->r v H Q
def vp(hf:X4 (kk X cm) r f)(ho:HN X (unaryOp op) r)(ha:PE X a (tR (kk X cm) E ma)):PE X (.UnaryOp op a pos) (tV (kk X cm) E<|fA f ma):=PE.wk (JX ho ha) λd H Q ⟨c,F,U,rel,h⟩=>
 ⟨c,F,U,rel,h.bind fun p U1 v F1 H1 ä _ _ r1 h1=>by
   cases e:f p with
   |none=>rw[e]at h1;exact h1.elim|some pv=>rw[e]at h1;exact hf ä r1 e λz F' H' ŷ s1 s2 q'=>h1 z F' H' ŷ s1 s2 q'⟩
noncomputable def Nt:PV->Option Bool
 |.bl b=>some b|.int i=>some<|i !=0|.non=>some false|.str y=>if y.length<=sizeLine then some ((y.length:Int) !=0)else none|.lst ps=>some<|!ps.isEmpty|.tup ps=>some<|!ps.isEmpty|_=>none
@[simp]def bL(m:M PV)(U:Ĉ):į Bool:=(m U).bind λp U1=>į.zE (Nt p) U1
def OG{K:KK}(s:Ú F H)(r:rR K c d U F H p v)(h:Nt p=some k):Lf K.K v H k:=by
 cases p with
 |bl b=>cases r.bl;cases h;rfl|int i=>cases r.int;cases h;rfl|non=>cases r.non;cases h;rfl|str y=>
  cases r.str;have h':(if y.length<=sizeLine then some ((y.length:Int) !=0)else none)=some k:=h;split at h'
  ·rename_i hy;cases h';exact⟨hy,rfl⟩
  ·cases h'
 |lst ps=>
  obtain⟨a,vs,rfl,h1,h2⟩:=r.lst s;cases h;have e:ps.isEmpty=vs.isEmpty:=by cases h2.pr<;>rfl
  exact .inl ⟨vs,h1,by rw[e]⟩
 |tup ps=>
  obtain⟨a,vs,rfl,h1,h2⟩:=r.tup s;cases h;have e:ps.isEmpty=vs.isEmpty:=by cases h2.pr<;>rfl
  exact .inr (.inl ⟨vs,h1,by rw[e]⟩)
 |ins C ns ps=>cases h|xc C ns ps=>cases h|ty n=>cases h|cls C=>cases h|E_ _ _=>cases h
def Ϣ(ha:PE X a (tR (kk X cm) E ma))(he:∀whole,isTrue a X.env whole=(do let v<-whole;de a.pos;ϖ [v] (truthy v)):=by intro _;rfl):PT X a (tB (kk X cm) E<|bL ma):=PT.wk (Fk ha he) λd H Q ⟨c,F,U,rel,h⟩=>
 ⟨c,F,U,rel,h.bind fun p U1 v F1 H1 ä _ _ r1 h1=>by
   cases e:Nt p with
   |none=>rw[e]at h1;exact h1.elim|some k=>rw[e]at h1;exact⟨k,OG ä.sub r1 e,h1 k F1 H1 ä Đ Đ rfl⟩⟩
@[simp]def Ϻ(m:M PV)(U:Ĉ):į Bool:=(m U).bind fun p U1=>match p with
  |.bl b=>.ok b U1|_=>.bad
def J0{d:ć}(h:tB (kk X cm) E (Ϻ m) d H Q):M2.FC (tV (kk X cm) E m) d H Q:=by
 obtain⟨c,F,U,rel,h⟩:=h;refine⟨c,F,U,rel,h.bind λp U1 v F1 H1 ä x x r1 h1=>?_⟩;cases p with
 |bl b=>
  have e:v=.bl b:=by have tJ:Ċ (kk X cm) F1 (.bl b) v:=r1;unfold Ċ at tJ;exact tJ
  subst e;exact h1 b F1 H1 ä Đ Đ rfl
 |_=>exact h1.elim
def Ϸ(hf:le (kk X cm) r f)(ho:aF X (ĭ op) r)(ha:PE X a (tR (kk X cm) E ma))(hb:PE X b (tR (kk X cm) E mb))(hm:lZ op b=false):PT X (.Compare a [op] [b] pos) (tB (kk X cm) E<|Ϻ<|Ë f ma mb):=
 PT.wk (Lu ho ha hb hm) fun d H Q h=>by obtain⟨c,F,U,rel,h⟩:=J0 h;exact C3 hf ⟨c,F,U,rel,h⟩
@[simp]def nk(f g:PV→PV→Option PV)(ma mb mc:M PV)(U:Ĉ):į PV:=(ma U).bind fun p U1=>(mb U1).bind fun q U2=>(į.zE (f p q) U2).bind fun z U3=>match z with
  |.bl true=>(mc U3).bind λw U4=>į.zE (g q w) U4
  |.bl false=>.ok (.bl false) U3|_=>.bad
def J1(hf:le (kk X cm) r f)(hg:le (kk X cm) r' g){d:ć}(h:tV (kk X cm) E (nk f g ma mb mc) d H Q):M2.A5 r r' (tR (kk X cm) E ma) (tR (kk X cm) E mb) (tR (kk X cm) E mc) d H Q:=by
 obtain⟨c,F,U,rel,h⟩:=h;refine⟨c,F,U,rel,h.bind λp U1 v F1 H1 ä y y r1 h1=>⟨c,F1,U1,ä,h1.bind λq U2 u F2 H2 Ě sF sH r2 h2=>?_⟩⟩;cases e:f p q with
 |none=>rw[e]at h2;exact h2.elim|some pv=>
  rw[e]at h2;refine hf Ě (r1.mono sF sH) r2 e λz F' H' ŷ s1 s2 q'=>?_;cases pv with
  |bl k=>
   have ez:z=.bl k:=by unfold Ċ at q';exact q'
   subst ez;cases k with
   |false=>exact h2 _ F' H' ŷ s1 s2 q'|true=>
    refine⟨c,F',U2,ŷ,ak.bind (ak.mono h2 s1 s2) λw U4 x F4 H4 ue s3 s4 r4 h4=>?_⟩;cases e':g q w with
    |none=>rw[e']at h4;exact h4.elim|some pv'=>rw[e']at h4;exact hg ue (r2.mono (s1.trans s3)<|s2.trans s4) r4 e' λz F' H' ŷ s1 s2 q'=>h4 z F' H' ŷ s1 s2 q'
  |_=>exact h2.elim
def pf{op BP:fU}{r r':R2}{f g:PV->PV->Option PV}{c:Ç}(hf:le (kk X cm) r f)(hg:le (kk X cm) r' g)(ho:aF X (ĭ op) r)(BK:aF X (ĭ BP) r')(ha:PE X a (tR (kk X cm) E ma))(hb:PE X b (tR (kk X cm) E mb))(hc:PE X c (tR (kk X cm) E mc))
 (hm:lastMarks [op,BP] [b,c]=false:=by with_unfolding_all rfl):PE X (.Compare a [op,BP] [b,c] pos) (tV (kk X cm) E<|nk f g ma mb mc):=PE.wk (FD ho BK ha hb hc hm) λx x x h=>J1 hf hg h
def C4{op BP:fU}{r r':R2}{f g:PV->PV->Option PV}{c:Ç}(hf:le (kk X cm) r f)(hg:le (kk X cm) r' g)(ho:aF X (ĭ op) r)(BK:aF X (ĭ BP) r')(ha:PE X a (tR (kk X cm) E ma))(hb:PE X b (tR (kk X cm) E mb))(hc:PE X c (tR (kk X cm) E mc))
 (hm:lastMarks [op,BP] [b,c]=false:=by with_unfolding_all rfl):PT X (.Compare a [op,BP] [b,c] pos) (tB (kk X cm) E<|Ϻ<|nk f g ma mb mc):=PT.wk (FE ho BK ha hb hc hm) λd H Q h=>by
 obtain⟨c,F,U,rel,h⟩:=J0 h;exact J1 hf hg ⟨c,F,U,rel,h⟩
@[simp]def gw(m:M Bool)(U:Ĉ):į Bool:=(m U).bind λb U1=>.ok (!b) U1
def iB{m:M Bool}(h:PT X a (tB (kk X cm) E m)):PT X (.UnaryOp .Not a pos) (tB (kk X cm) E<|gw m):=PT.wk (K_ h) λd H Q ⟨c,F,U,rel,h⟩=>
 ⟨c,F,U,rel,h.bind λp U1 v F1 H1 ä x x r1 h1=>h1 _ F1 H1 ä Đ Đ (by have e:p=v:=r1;rw[e];rfl)⟩
@[simp]def nu(ma mb:M Bool)(U:Ĉ):į Bool:=(ma U).bind λb U1=>if b=true then mb U1 else .ok false U1
@[simp]def qm(ma mb:M Bool)(U:Ĉ):į Bool:=(ma U).bind λb U1=>if b=true then .ok true U1 else mb U1
variable{ta tb:M Bool}{rest:List Ç}
def km(h:PT X a (tB (kk X cm) E ta)):PW X (.BoolOp .And [a] pos) (tB (kk X cm) E ta):=HL h
def lf(h:PT X a (tB (kk X cm) E ta)):PW X (.BoolOp .Or [a] pos) (tB (kk X cm) E ta):=KY h
def w_and(ha:PT X a (tB (kk X cm) E ta))(hb:PW X (.BoolOp .And (b::rest) pos) (tB (kk X cm) E tb)):PW X (.BoolOp .And (a::b::rest) pos) (tB (kk X cm) E<|nu ta tb):=PW.wk (KZ ha hb) λd H Q ⟨c,F,U,rel,h⟩=>
 ⟨c,F,U,rel,h.bind fun p U1 v F1 H1 ä _ _ r1 h1=>by
   have e:p=v:=r1;subst e;cases p with
   |true=>exact⟨c,F1,U1,ä,h1⟩|false=>exact h1 false F1 H1 ä Đ Đ rfl⟩
def w_or(ha:PT X a (tB (kk X cm) E ta))(hb:PW X (.BoolOp .Or (b::rest) pos) (tB (kk X cm) E tb)):PW X (.BoolOp .Or (a::b::rest) pos) (tB (kk X cm) E<|qm ta tb):=PW.wk (N2 ha hb) λd H Q ⟨c,F,U,rel,h⟩=>
 ⟨c,F,U,rel,h.bind fun p U1 v F1 H1 ä _ _ r1 h1=>by
   have e:p=v:=r1;subst e;cases p with
   |false=>exact⟨c,F1,U1,ä,h1⟩|true=>exact h1 true F1 H1 ä Đ Đ rfl⟩
def gW(ma mb:M PV):M PV:=λU=>(ma U).bind λp U1=>match p with
 |.bl true=>mb U1|.bl false=>.ok (.bl false) U1|_=>.bad
def RE(ma mb:M PV):M PV:=λU=>(ma U).bind λp U1=>match p with
 |.bl true=>.ok (.bl true) U1|.bl false=>mb U1|_=>.bad
@[simp]def OH(ma:M PV)(U:Ĉ):į PV:=(ma U).bind fun p U1=>match p with
  |.bl b=>.ok (.bl<|!b) U1|_=>.bad
def uf{K:KK}{b:Bool}(h:Ċ K F (.bl b) v):v=.bl b:=by unfold Ċ at h;exact h
def iC{op}(h:PE X a (tV (kk X cm) E ma)):PE X (.BoolOp op [a] pos) (tV (kk X cm) E ma):=K0 h
def v_and(ha:PE X a (tV (kk X cm) E ma))(hb:PE X (.BoolOp .And (b::rest) pos) (tV (kk X cm) E mb)):PE X (.BoolOp .And (a::b::rest) pos) (tV (kk X cm) E<|gW ma mb):=PE.wk (Lv ha hb) λd H Q ⟨c,F,U,rel,h⟩=>
 ⟨c,F,U,rel,h.bind fun p U1 v F1 H1 ä _ _ r1 h1=>by
   cases p with
   |bl k=>
    cases uf r1;cases k with
    |true=>exact⟨c,F1,U1,ä,h1⟩|false=>exact h1 _ F1 H1 ä Đ Đ r1
   |_=>exact h1.elim⟩
def v_or(ha:PE X a (tV (kk X cm) E ma))(hb:PE X (.BoolOp .Or (b::rest) pos) (tV (kk X cm) E mb)):PE X (.BoolOp .Or (a::b::rest) pos) (tV (kk X cm) E<|RE ma mb):=PE.wk (Ot ha hb) λd H Q ⟨c,F,U,rel,h⟩=>
 ⟨c,F,U,rel,h.bind fun p U1 v F1 H1 ä _ _ r1 h1=>by
   cases p with
   |bl k=>
    cases uf r1;cases k with
    |false=>exact⟨c,F1,U1,ä,h1⟩|true=>exact h1 _ F1 H1 ä Đ Đ r1
   |_=>exact h1.elim⟩
def v_not(ha:PE X a (tV (kk X cm) E ma)):PE X (.UnaryOp .Not a pos) (tV (kk X cm) E<|OH ma):=PE.wk (Lw ha) λd H Q ⟨c,F,U,rel,h⟩=>
 ⟨c,F,U,rel,h.bind fun p U1 v F1 H1 ä _ _ r1 h1=>by
   cases p with
   |bl k=>cases uf r1;exact h1 _ F1 H1 ä Đ Đ Ċ.bl|_=>exact h1.elim⟩
def aZ{α:Type}(t:M Bool)(ma mb:M α):M α:=λU=>(t U).bind λb U1=>if b=true then ma U1 else mb U1
def OI{α:Type}{R:RR α V}{ma mb:M α}(hc:PT X c' (tB (kk X cm) E ta))(ha:PE X a (tG (kk X cm) E R ma))(hb:PE X b (tG (kk X cm) E R mb)):PE X (.IfExp c' a b pos) (tG (kk X cm) E R<|aZ ta ma mb):=PE.wk (E9 hc ha hb) λd H Q ⟨c,F,U,rel,h⟩=>
 ⟨c,F,U,rel,h.bind fun p U1 v F1 H1 ä _ _ r1 h1=>by
   have e:p=v:=r1;subst e;cases p with
   |true=>exact⟨c,F1,U1,ä,h1⟩|false=>exact⟨c,F1,U1,ä,h1⟩⟩
@[simp]def æ(U:Ĉ):į (List PV):=.ok [] U
@[simp]def É(ma:M PV)(mr:M (List PV))(U:Ĉ):į (List PV):=(ma U).bind λp U1=>(mr U1).bind λps U2=>.ok (p::ps) U2
variable{mr:M (List PV)}
def õ:PA X [] (tL (kk X cm) E æ):=PA.wk cG λd H Q ⟨c,F,U,rel,h⟩=>h [] F H rel Đ Đ é.nil
def Í(ha:PE X e (tV (kk X cm) E ma))(hr:PA X es (tL (kk X cm) E mr))(hs:Ð (e::es) X.env=(false,eval e X.env)::Ð es X.env:=by exact Ĺ rfl):PA X (e::es) (tL (kk X cm) E<|É ma mr):=PA.wk (ϭ ha hr hs) λd H Q ⟨c,F,U,rel,h⟩=>
 ⟨c,F,U,rel,h.bind λp U1 v F1 H1 ä x x r1 h1=>⟨c,F1,U1,ä,h1.bind λps U2 vs F2 H2 Ě sF sH r2 h2=>h2 _ F2 H2 Ě Đ Đ<|é.cons (Ċ.same sF p v r1) r2⟩⟩
def ð:PA X [] (FZ (kk X cm) E æ):=PA.wk cG λd H Q ⟨c,F,U,rel,h⟩=>h [] F H rel Đ Đ .nil
def ß(ha:PE X e (tR (kk X cm) E ma))(hr:PA X es (FZ (kk X cm) E mr))(hs:Ð (e::es) X.env=(false,eval e X.env)::Ð es X.env:=by exact Ĺ rfl):PA X (e::es) (FZ (kk X cm) E<|É ma mr):=PA.wk (ϭ ha hr hs) λd H Q ⟨c,F,U,rel,h⟩=>
 ⟨c,F,U,rel,h.bind λp U1 v F1 H1 ä x x r1 h1=>⟨c,F1,U1,ä,h1.bind λps U2 vs F2 H2 Ě sF sH r2 h2=>h2 _ F2 H2 Ě Đ Đ<|.cons (rR.mono r1 sF sH) r2⟩⟩
@[simp]def Ö(U:Ĉ):į (List Slot):=.ok [] U
@[simp]def Þ(ma:M PV)(mr:M (List Slot))(U:Ĉ):į (List Slot):=(ma U).bind λp U1=>(mr U1).bind λas U2=>.ok (.sh p::as) U2
noncomputable def fh:Slot->Option Slot
 |.sh p=>some<|.sh p|.ow ps=>some<|.bw ps|.bw ps=>some<|.bw ps|.bn qs rows=>some<|.sh<|.lst (.lst qs::rows)|.dw gv=>some<|.dw gv|_=>none
@[simp]def È(i:Nat)(mr:M (List Slot))(U:Ĉ):į (List Slot):=match(U[i]?).bind fh with
  |none=>.bad|some _=>(mr U).bind λas U2=>match(U2[i]?).bind fh with
   |some s=>.ok (s::as) U2|none=>.bad
variable{ms:M (List Slot)}
def Õ:PA X [] (tA (kk X cm) E Ö):=PA.wk cG λd H Q ⟨c,F,U,rel,h⟩=>h [] F H rel Đ Đ .nil
def Ù(ha:PE X e (tV (kk X cm) E ma))(hr:PA X es (tA (kk X cm) E ms))(hs:Ð (e::es) X.env=(false,eval e X.env)::Ð es X.env:=by exact Ĺ rfl):PA X (e::es) (tA (kk X cm) E<|Þ ma ms):=PA.wk (ϭ ha hr hs) λd H Q ⟨c,F,U,rel,h⟩=>
 ⟨c,F,U,rel,h.bind λp U1 v F1 H1 ä x x r1 h1=>⟨c,F1,U1,ä,h1.bind λas U2 vs F2 H2 Ě sF sH r2 h2=>h2 _ F2 H2 Ě Đ Đ<|.cons (show du _ _ _ (.sh p) v from Ċ.same sF p v r1) r2⟩⟩
def tq{K:KK}{i:Nat}(rel:Ĕ K c F H f U)(h:(U[i]?).bind fh=some s):∃v,f[i]?=some (some v)/\du K F H s v:=by
 cases e:U[i]?with
 |none=>rw[e]at h;cases h|some sl=>
  rw[e]at h;have h':fh sl=some s:=h;cases sl with
  |sh p=>cases h';obtain⟨v,h1,h2⟩:=rel.slot i _ e;exact⟨v,ŀ h1,h2⟩|ow ps=>cases h';obtain⟨a,vs,h1,h2,h3,h4,h5,_⟩:=rel.ow e;exact⟨.ref a,h1,a,vs,rfl,h2,h3,h5⟩|bw ps=>cases h';obtain⟨a,vs,h1,h2,h3⟩:=rel.slot i _ e;exact⟨.ref a,ŀ h1,a,vs,rfl,(rel.lent a _ h2).1,(rel.lent a _ h2).2,h3⟩|no=>cases h'|rc C ns ps=>cases h'|ot ps qs rs=>cases h'|ol nO=>cases h'|fr nO=>cases h'|pw ps=>cases h'|pin=>cases h'|bn qs rows=>cases h';obtain⟨v,h1,h2⟩:=rel.slot i _ e;exact⟨v,ŀ h1,h2.rep⟩|dw gv=>cases h';obtain⟨a,ts,h1,h2,h3⟩:=rel.slot i _ e;exact⟨.ref a,ŀ h1,a,ts,rfl,(rel.lent a _ h2).1,(rel.lent a _ h2).2,iA h3 λt d x ⟨xs,b,vs,k1,k2,k3,k4⟩=>⟨xs,b,vs,k1,k2,rel.lent b _ k3,k4⟩⟩
def Iv(i:Nat){x:Str}{px:Pos}(hk:D8 X i x=true:=by kernel_rfl)(hr:PA X es (tA (kk X cm) E ms))(hs:Ð (.Name x px::es) X.env=(false,eval (.Name x px) X.env)::Ð es X.env:=by exact Ĺ rfl):PA X (.Name x px::es) (tA (kk X cm) E<|È i ms):=
 PA.wk (ϭ (nq hk) hr hs)<|by
   rintro d H Q ⟨c,F,U,rel,h⟩;unfold È at h;cases e:(U[i]?).bind fh with
   |none=>rw[e]at h;exact h.elim|some s0=>
    rw[e]at h;obtain⟨v,hv,_⟩:=tq rel e;refine⟨v,hv,c,F,U,rel,ak.bind h λas U2 vs F2 H2 Ě sF sH r2 h2=>?_⟩;cases e2:(U2[i]?).bind fh with
    |none=>simp only[e2]at h2;exact h2.elim|some s=>simp only[e2]at h2;obtain⟨v',BM,r1⟩:=tq Ě e2;rw[hv]at BM;cases BM;exact h2 _ F2 H2 Ě Đ Đ<|.cons r1 r2
@[simp]def Ŧ(mr:M (List PV))(U:Ĉ):į PV:=(mr U).bind λps U1=>if ps.length<=16777216then .ok (.tup ps) U1 else .bad
@[simp]def cH(mr:M (List PV))(U:Ĉ):į RV:=(mr U).bind λps U1=>if ps.length<=16777216then .ok (.ow ps) U1 else .bad
def Ĩ:sizeLine=16777216:=eL
def Ņ{x1}(h:PA X es (tL (kk X cm) E mr)):PE X (.Tuple es x1 pos) (tV (kk X cm) E<|Ŧ mr):=PE.wk (Ft h) λd H Q ⟨c,F,U,rel,h⟩=>
 ⟨c,F,U,rel,h.bind fun ps U1 vs F1 H1 ä _ _ r1 h1=>by
   split at h1
   ·rename_i hz;refine⟨by rw[<-é.length r1,Ĩ];exact hz,λp hp=>h1 _ _ _ (ä.alloc hp) (Ú.upd<|ä.sub.free hp) (Ú.upd hp) ?_⟩;show Ċ _ _ _ _;unfold Ċ;exact⟨p,vs,rfl,gj.of Ā,é.same (Ú.upd<|ä.sub.free hp) ps vs r1⟩
   ·exact h1.elim⟩
def jm{K:KK}{a:À}(rel:Ĕ K c F H d U)(ha:H a=none)(r:é K F ps vs):Ĕ K c F (upd H a<|.lst vs) d U/\Hj K c d U F (upd H a<|.lst vs) ps (.ref a):=
 ⟨rel.made ha,a,vs,rfl,Ā,rel.sub.free ha,rel.base.free ha,rel.fresh ha,r⟩
def ϋ(h:PA X es (tL (kk X cm) E mr)):PE X (.List es pos) (tO (kk X cm) E<|cH mr):=PE.wk (A2 h) λd H Q ⟨c,F,U,rel,h⟩=>
 ⟨c,F,U,rel,h.bind fun ps U1 vs F1 H1 ä _ _ r1 h1=>by
   split at h1
   ·rename_i hz;refine⟨by rw[<-é.length r1,Ĩ];exact hz,λp hp=>?_⟩;obtain⟨q1,q2⟩:=jm ä hp r1;exact h1 _ _ _ q1 Đ (Ú.upd hp) q2
   ·exact h1.elim⟩
@[simp]def aG(f:List PV->Option PV)(mr:M (List PV))(U:Ĉ):į PV:=(mr U).bind λps U1=>į.zE (f ps) U1
@[simp]def rh(f:List PV->Option RV)(mr:M (List PV))(U:Ĉ):į RV:=(mr U).bind λps U1=>į.zE (f ps) U1
def dX(K:KK)(r:List V->Hp->VK->Prop)(f:List PV->Option PV):Prop:=∀{c:Ctx}{F H:Hp}{d:ć}{U:Ĉ}{ps:List PV}{pv:PV}{vs:List V}{Q:VK},Ĕ K c F H d U->LQ K c d U F H ps vs->f ps=some pv->
 (∀z F' H',Ĕ K c F' H' d U->Ú F F'->Ú H H'->Ċ K F' pv z->Q z H')->r vs H Q
def F0(K:KK)(r:List V->Hp->VK->Prop)(f:List PV->Option RV):Prop:=∀{c:Ctx}{F H:Hp}{d:ć}{U:Ĉ}{ps:List PV}{pv:RV}{vs:List V}{Q:VK},Ĕ K c F H d U->LQ K c d U F H ps vs->f ps=some pv->
 (∀z F' H',Ĕ K c F' H' d U->Ú F F'->Ú H H'->rO K c d U F' H' pv z->Q z H')->r vs H Q
def OJ(hf:dX (kk X cm) r f){d:ć}(h:tV (kk X cm) E (aG f mr) d H Q):Rr r (FZ (kk X cm) E mr) d H Q:=by
 obtain⟨c,F,U,rel,h⟩:=h;refine⟨c,F,U,rel,h.bind λp U1 v F1 H1 ä x x r1 h1=>?_⟩;cases e:f p with
 |none=>rw[e]at h1;exact h1.elim|some pv=>rw[e]at h1;exact hf ä r1 e λz F' H' ŷ s1 s2 q'=>h1 z F' H' ŷ s1 s2 q'
def Ui(hf:F0 (kk X cm) r f){d:ć}(h:tO (kk X cm) E (rh f mr) d H Q):Rr r (FZ (kk X cm) E mr) d H Q:=by
 obtain⟨c,F,U,rel,h⟩:=h;refine⟨c,F,U,rel,h.bind λp U1 v F1 H1 ä x x r1 h1=>?_⟩;cases e:f p with
 |none=>rw[e]at h1;exact h1.elim|some pv=>rw[e]at h1;exact hf ä r1 e λz F' H' ŷ s1 s2 q'=>h1 z F' H' ŷ s1 s2 q'
end
open M3
@[simp]def bZ(U:Ĉ):į Fl:=.ok .nx U
def å(a b:M Fl):M Fl:=λU=>(a U).bind λf U1=>match f with
 |.nx=>b U1|f=>.ok f U1
@[simp]def ĉ(i:Nat)(m:M RV)(U:Ĉ):į Fl:=(m U).bind λr U1=>.ok .nx<|U1.set i r.slot
@[simp]def ý(m:M RV)(U:Ĉ):į Fl:=(m U).bind λr U1=>.ok (.rt r) U1
@[simp]def qM(m:M PV)(U:Ĉ):į Fl:=(m U).bind λx U1=>.ok .nx U1
section
variable{X:Cx}{cm:String->À}{E:ć->XK}{a b e:Ç}{st:è}{rest:List è}{es:List Ç}{pos:Pos}{m1 m2:M Fl}{mo:M RV}{mv:M PV}
def ą:bC X [] (tS (kk X cm) E bZ):=bC.wk CH λD d H ⟨c,F,U,rel,h⟩=>h d F H rel<|Ú.refl F
def ó(h:PS X st (tS (kk X cm) E m1)):bC X [st] (tS (kk X cm) E m1):=kf h
def Iw(h:ϊ (kk X cm) E c F D (r.bind λf U1=>match f with|.nx=>m2 U1|f=>.ok f U1)):ϊ (kk X cm) E c F {D with nx:=tS (kk X cm) E m2 D} r:=by
 cases r with
 |ok f U1=>
  cases f with
  |nx=>exact λd F' H' ŷ s=>⟨c,F',U1,ŷ,ϊ.mono h s⟩
  |bk=>exact h|ct=>exact h|rt v=>exact h
 |exc x U1=>exact h|bad=>exact h
def Û(h1:PS X st (tS (kk X cm) E m1))(h2:bC X rest (tS (kk X cm) E m2)):bC X (st::rest) (tS (kk X cm) E<|å m1 m2):=bC.wk (gq h1 h2) λD d H ⟨c,F,U,rel,h⟩=>⟨c,F,U,rel,Iw h⟩
def Ĕ.LR{K:KK}(r:Ĕ K c F H d U)(q:nP K c.B F t ps qs rows v):Ĕ K c F H (d.set i<|some v) (U.set i (RV.bn t ps qs rows).slot):=by
 cases t with
 |true=>exact r.put (s:=.sh<|RC true ps qs rows) rfl ⟨v,rfl,nP.rep q⟩|false=>
  have e:ps=[]:=by
   obtain⟨_,_,_,_,_,_,_,_,_,_,_,z⟩:=q;rcases z with⟨_,z,_⟩|⟨z,_⟩
   ·exact z
   ·cases z
  subst e;exact r.put (s:=.bn qs rows) rfl ⟨v,rfl,q⟩
def OK{i:Nat}{x:Str}{bh:Pos}(hN:X.N.Nodup)(hi:X.N[i]?=some x)(hx:Loc X.env.scope x)(he:PE X e (tO (kk X cm) E mo))(hs:Ŗ e (some<|.Name x bh) pos.line X.env=î false:=by kernel_rfl)(hf:X.fn x=true\/X.env.scope.names.lookup x=some .local:=by first|exact .inl rfl|exact .inr rfl|assumption):
 PS X (.Assign [.Name x bh] e pos) (tS (kk X cm) E<|ĉ i mo):=PS.wk (tX hN hi hx he hs hf) λD d H ⟨c,F,U,rel,h⟩=>⟨c,F,U,rel,ϊ.bind h λr U1 v F1 H1 ä s1 q h1=>by
 cases r with
 |sh p=>exact h1 _ F1 H1 (ä.put rfl ⟨v,rfl,q⟩) Đ|ow ps=>obtain⟨a,vs,rfl,q1,q2,q3,q4,q5⟩:=q;exact h1 _ F1 H1 (ä.Bc ⟨a,vs,rfl,q1,q2,q3,q5⟩ λy z=>V.ref.inj z▸q4) Đ
 |ot ps qs rs=>obtain⟨p,a,xs,vs,ys,rfl,q0,qx,q1,q2,q3,q4,q5,q6⟩:=q;exact h1 _ F1 H1 (ä.Bc (s:=.ot ps qs rs) ⟨p,a,xs,vs,ys,rfl,q0,qx,q1,q2,q3,q5,q6⟩ λy z=>pd (ps:=ps) (qs:=qs) (rs:=rs) z ⟨p,xs,ys,rfl,q0,qx.length.symm⟩▸q4) Đ
 |bn t ps qs rows=>exact h1 _ F1 H1 (ä.LR q) Đ⟩
def OL(he:PE X e (tO (kk X cm) E mo)):PS X (.Return (some e) pos) (tS (kk X cm) E<|ý mo):=PS.wk (K1 he) λD d H ⟨c,F,U,rel,h⟩=>⟨c,F,U,rel,ϊ.bind h λr U1 v F1 H1 ä s1 q h1=>h1 v d F1 H1 ä Đ q⟩
def yL(he:PE X e (tV (kk X cm) E mv))(hs:Ŗ e none pos.line X.env=î false:=by kernel_rfl):PS X (.Expr e pos) (tS (kk X cm) E<|qM mv):=PS.wk (ž he hs) λD d H ⟨c,F,U,rel,h⟩=>⟨c,F,U,rel,ϊ.bind h λr U1 v F1 H1 ä s1 q h1=>h1 d F1 H1 ä Đ⟩
def ń(hc:PT X a (tB (kk X cm) E t))(ha:bC X ss (tS (kk X cm) E m1))(hb:bC X QW (tS (kk X cm) E m2)):PS X (.If a ss QW pos) (tS (kk X cm) E<|aZ t m1 m2):=PS.wk (Fa hc ha hb) λD d H ⟨c,F,U,rel,h⟩=>⟨c,F,U,rel,ϊ.bind h λr U1 v F1 H1 ä s1 q h1=>by
 have e:r=v:=q;subst e;cases r with
 |true=>exact⟨c,F1,U1,ä,h1⟩|false=>exact⟨c,F1,U1,ä,h1⟩⟩
noncomputable def dA{α:Type}:M α:=λx=>.bad
def ĺ:PS X st (tS (kk X cm) E dA):=PS.wk Fb λD d H ⟨c,F,U,rel,h⟩=>h
abbrev Tg:=PV->Ĉ->Option Ĉ
abbrev E0:=List PV->Ĉ->Option Ĉ
def LS(K:KK)(c:Ctx)(F H:Hp)(Q:ć->Hp->Prop):Option Ĉ->Prop
 |some U'=>∀d,Ĕ K c F H d U'->Q d H|none=>False
def tT(K:KK)(g:Tg):TG:=λv d H Q=>∃c F U p,Ĕ K c F H d U/\Ċ K F p v/\LS K c F H Q (g p U)
def OM(K:KK)(g:E0):Fc:=λv d H Q=>∃c F U p,Ĕ K c F H d U/\é K F p v/\LS K c F H Q (g p U)
noncomputable def gN(i:Nat):Tg:=λp U=>some<|U.set i<|.sh p
noncomputable def ř:E0:=λps U=>match ps with
 |[]=>some U|_=>none
noncomputable def ï(g:Tg)(gs:E0):E0:=λps U=>match ps with
 |p::ps=>(g p U).bind λU1=>gs ps U1
 |[]=>none
noncomputable def gT(n:Nat)(gs:E0):Tg:=λp U=>match p with
 |.tup ps=>if ps.length=n then gs ps U else none|_=>none
def PG.Uj(h:PG X tg t)(i:∀v c H Q,t' v c H Q->t v c H Q):PG X tg t':=λÅ s c H v u Q I r q=>h Å s c H v u Q I r<|i v c H Q q
def AH.wk(h:AH X tg t)(i:∀v c H Q,t' v c H Q->t v c H Q):AH X tg t':=λÅ s c H v u Q I r q=>h Å s c H v u Q I r<|i v c H Q q
def F7{i:Nat}{x:Str}(hN:X.N.Nodup)(hi:X.N[i]?=some x)(hx:Loc X.env.scope x)(hf:X.fn x=true\/X.env.scope.names.lookup x=some .local:=by first|exact .inl rfl|exact .inr rfl|assumption):PG X (.Name x pos) (tT (kk X cm)<|gN i):=
 PG.Uj (mM hN hi hx hf) λv d H Q ⟨c,F,U,p,rel,rp,h⟩=>h _<|rel.put rfl ⟨v,rfl,rp⟩
def bU:AH X [] (OM (kk X cm) ř):=AH.wk yo<|by
 rintro v d H Q ⟨c,F,U,p,rel,rp,h⟩;cases p with
 |nil=>
  have e:v=[]:=by have:=rp;unfold é at this;exact this
  exact⟨e,h d rel⟩
 |cons _ _=>exact h.elim
def Ď{es:List Ç}{g:Tg}{gs:E0}(h1:PG X e (tT (kk X cm) g))(h2:AH X es (OM (kk X cm) gs))(hs:(ϕ (e::es) X.env).map (·.2)=db e X.env::(ϕ es X.env).map (·.2):=by rfl):AH X (e::es) (OM (kk X cm)<|ï g gs):=
 AH.wk (jg h1 h2 hs)<|by
  rintro v f H Q ⟨c,F,U,p,rel,rp,h⟩;cases p with
  |nil=>exact h.elim|cons p ps=>
   unfold é at rp;obtain⟨x,r,rfl,r1,r2⟩:=rp;refine⟨x,r,rfl,c,F,U,p,rel,r1,?_⟩;unfold ï at h;dsimp only at h;cases eg:g p U with
   |none=>rw[eg]at h;exact h.elim|some U1=>rw[eg]at h;exact λd ŷ=>⟨c,F,U1,ps,ŷ,r2,h⟩
def jo{es:List Ç}{k:Nat}{gs:E0}{n:Nat}(hc:X.calm=true)(h:AH X es (OM (kk X cm) gs))(hn:(ϕ es X.env).length=n:=by rfl)(jN:(ϕ es X.env).findIdx? (·.1)=none:=by rfl):PG X (.Tuple es k pos) (tT (kk X cm)<|gT n gs):=
 PG.Uj (yq hc h hn jN)<|by
   rintro v d H Q ⟨c,F,U,p,rel,rp,h⟩;cases p with
   |tup ps=>
    unfold Ċ at rp;obtain⟨a,xs,h1,h2,h3⟩:=rp;unfold gT at h;dsimp only at h;split at h
    ·rename_i hl;exact⟨a,xs,h1,Ú.tup rel.sub h2,by rw[<-h3.length];exact hl,c,F,U,ps,rel,h3,h⟩
    ·exact h.elim
   |_=>exact h.elim
@[simp]def Ix(g:Tg)(m:M PV)(U:Ĉ):į Fl:=(m U).bind fun p U1=>match g p U1 with
  |some U2=>.ok .nx U2|none=>.bad
def F8{tg:Ç}{g:Tg}(he:PE X e (tV (kk X cm) E mv))(hg:PG X tg (tT (kk X cm) g))(hs:xC [tg] e pos.line X.env=î false:=by rfl)(hw:xD [tg] e X.env=î none:=by rfl)
 (h1:(ϕ [tg] X.env).map (·.2)=[db tg X.env]:=by rfl):PS X (.Assign [tg] e pos) (tS (kk X cm) E<|Ix g mv):=PS.wk (Fe he hg hs hw h1) λD f H ⟨c,F,U,rel,h⟩=>⟨c,F,U,rel,ϊ.bind h λr U1 v F1 H1 ä s1 q h1=>by
 refine⟨c,F1,U1,r,ä,q,?_⟩;cases eg:g r U1 with
 |none=>rw[eg]at h1;exact h1.elim|some U2=>rw[eg]at h1;exact λd ŷ=>h1 d F1 H1 ŷ Đ⟩
@[simp]def F9(i:Nat)(mi:M PV)(m:M PV)(U:Ĉ):į Fl:=(m U).bind fun p U1=>match U1[i]?with
  |some (.ow _)=>(mi U1).bind λq U2=>match U2[i]?,q with
   |some (.ow ps),.int k=>match CL ps.length k with
    |some j=>.ok .nx<|U2.set i<|.ow<|ps.set j p|none=>.bad
   |_,_=>.bad
  |_=>.bad
def Iy{i:Nat}{x:Str}{ix:Ç}{mi:M PV}{px Bd:Pos}(he:PE X e (tV (kk X cm) E mv))(hi:PE X ix (tV (kk X cm) E mi))(ho:PE X (.Name x px) (iS i))
 (JK:∀v,db (.Subscript (.Name x px) ix Bd) X.env v=(do
   let ov<-ϖ [v] (eval (.Name x px) X.env)
   let iv<-ϖ [v,ov] (eval ix X.env)
   de Bd
   ϖ [v,ov,iv] (setItem ov iv v)
   release [v,ov,iv] []):=by intro _;rfl)
 (hs:xC [.Subscript (.Name x px) ix Bd] e pos.line X.env=î false:=by rfl)(hw:xD [.Subscript (.Name x px) ix Bd] e X.env=î none:=by rfl)
 (h1:(ϕ [.Subscript (.Name x px) ix Bd] X.env).map (·.2)=[db (.Subscript (.Name x px) ix Bd) X.env]:=by rfl):
 PS X (.Assign [.Subscript (.Name x px) ix Bd] e pos) (tS (kk X cm) E<|F9 i mi mv):=PS.wk (Fe he (K4 ho hi Ha JK) hs hw h1) λD d H ⟨c,F,U,rel,h⟩=>⟨c,F,U,rel,ϊ.bind h λp U1 v F1 H1 ä s1 q h1=>by
 cases e1:U1[i]?with
 |none=>rw[e1]at h1;exact h1.elim|some sl=>
  rw[e1]at h1;cases sl with
  |ow Uk=>
   obtain⟨a,Ul,z1,_,_,_,_,_⟩:=ä.ow e1;refine⟨.ref a,z1,c,F1,U1,ä,ϊ.bind h1 λq' U2 u F2 H2 Ě s2 r2 h2=>?_⟩;cases e2:U2[i]?with
   |none=>rw[e2]at h2;exact h2.elim|some EU=>
    rw[e2]at h2;cases EU with
    |ow ps=>
     cases q' with
     |int k=>
      have eu:u=.int k:=by have:Ċ (kk X cm) F2 (.int k) u:=r2;unfold Ċ at this;exact this
      subst eu;dsimp only at h2;obtain⟨a2,vs,w1,w2,w3,w4,w5,w6⟩:=Ě.ow e2;rw[z1]at w1;cases w1;cases ej:CL ps.length k with
      |none=>rw[ej]at h2;exact h2.elim|some j=>rw[ej]at h2;refine⟨a,vs,k,j,rfl,rfl,w2,by rw[<-w5.length];exact ej,h2 d F2 _ (Ě.write w6 z1 ⟨a,vs.set j v,rfl,Ā,w3,w4,?_⟩ λy z=>(V.ref.inj z).symm) Đ⟩;exact é.of<|FV (Ċ.same s2 p v q) j w5.pr
     |_=>exact h2.elim
    |_=>exact h2.elim
  |_=>exact h1.elim⟩
@[simp]def ug(i:Nat)(m:M PV)(U:Ĉ):į Fl:=match U[i]?with
  |some (.ow _)=>(m U).bind λp U1=>match U1[i]?with
   |some (.ow ps)=>if ps.length<16777216then .ok .nx (U1.set i<|.ow<|ps++[p])else .bad|_=>.bad
  |_=>.bad
set_option tactic.hygienic true in
def f_{f:ć}(h:tS (kk X cm) E (ug i mv) D f H):tQ (Np X.K "list" oZ (iS i) (tL (kk X cm) E<|É mv æ)) D f H:=by
 obtain⟨c,F,U,rel,h⟩:=h;unfold ug at h;cases e1:U[i]?with
 |none=>rw[e1]at h;exact h.elim|some sl=>
  rw[e1]at h;cases sl with
  |ow Uk=>
   obtain⟨a,Ul,z1,z2,z3,z4,z5,z6⟩:=rel.ow e1;refine⟨.ref a,z1,.inl ⟨rfl,_,Ϧ.of z2⟩,c,F,U,rel,?_⟩;dsimp only at h;unfold É;cases em:mv U with
   |bad=>rw[em]at h;exact h|exc x U1=>rw[em]at h;exact λC d F' H' ŷ s1 q=>h f C d F' H' ŷ s1 q
   |ok p U1=>
    rw[em]at h;intro us F1 H1 ä s1 s2 r1;have tJ:é (kk X cm) F1 [p] us:=r1;cases tJ.pr with
    |cons rp t=>
     rename_i v gU;cases t;cases e2:U1[i]?with
     |none=>simp only[į.bK,e2]at h;exact h.elim|some EU=>
      simp only[į.bK,e2]at h;cases EU with
      |ow ps=>
       obtain⟨a2,vs,w1,w2,w3,w4,w5,w6⟩:=ä.ow e2;rw[z1]at w1;cases w1;dsimp only at h;split at h
       ·rename_i hz;refine⟨a,vs,v,rfl,rfl,w2,by rw[<-w5.length,Ĩ];exact hz,h f F1 _ (ä.write w6 z1 ⟨a,vs++[v],rfl,Ā,w3,w4,é.append w5<|é.cons rp é.nil⟩ λy z=>(V.ref.inj z).symm) s1⟩
       ·exact h.elim
      |_=>exact h.elim
  |_=>exact h.elim
noncomputable def ĩ(mc:M Bool)(mb:M Fl):Nat->Ĉ->į Fl
 |0,_=>.bad|n+1,U=>(mc U).bind λb U1=>if b=true then(mb U1).bind λf U2=>match f with
  |.nx=>ĩ mc mb n U2|.ct=>ĩ mc mb n U2|.bk=>.ok .nx U2|.rt r=>.ok (.rt r) U2 else .ok .nx U1
theorem bi(n:Nat)(U:Ĉ):ĩ mc mb (n+1) U=(mc U).bind λb U1=>if b=true then(mb U1).bind λf U2=>match f with
 |.nx=>ĩ mc mb n U2|.ct=>ĩ mc mb n U2|.bk=>.ok .nx U2|.rt r=>.ok (.rt r) U2 else .ok .nx U1:=rfl
open Classical in
noncomputable def aH(mc:M Bool)(mb:M Fl):M Fl:=λU=>if h:∃n,ĩ mc mb n U≠.bad then ĩ mc mb (BQ h) U else .bad
theorem lh:∀(n:Nat) (U:Ĉ),ĩ mc mb n U≠.bad->ĩ mc mb (n+1) U=ĩ mc mb n U
 |0,U,h=>absurd rfl h|n+1,U,h=>by
  rw[bi]at h;rw[bi<|n+1,bi n];cases e:mc U with
  |bad=>rfl|exc x U1=>rfl|ok b U1=>
   rw[e]at h;simp only[į.bK]at h⊢;cases b with
   |false=>rfl|true=>
    simp only[if_true]at h⊢;cases e2:mb U1 with
    |bad=>rfl|exc x U2=>rfl|ok f U2=>
     rw[e2]at h;simp only[į.bK]at h⊢;cases f with
     |nx=>exact lh n U2 h|ct=>exact lh n U2 h|bk=>rfl|rt r=>rfl
def vS(h:ĩ mc mb n U≠.bad)(hm:n<=m):ĩ mc mb m U=ĩ mc mb n U:=by
 induction hm with
 |refl=>rfl|step _ ih=>rw[lh _ _ (by rw[ih];exact h),ih]
def bM(n:Nat)(h:ĩ mc mb n U≠.bad):aH mc mb U=ĩ mc mb n U:=by
 unfold aH;have hx:∃n,ĩ mc mb n U≠.bad:=⟨n,h⟩;rw[dif_pos hx];have hc:=Classical.choose_spec hx;rcases Nat.le_total n (BQ hx)with hle|hle
 ·exact vS h hle
 ·exact(vS hc hle).symm
theorem cQ:aH mc mb U=(mc U).bind λb U1=>if b=true then(mb U1).bind λf U2=>match f with
 |.nx=>aH mc mb U2|.ct=>aH mc mb U2|.bk=>.ok .nx U2|.rt r=>.ok (.rt r) U2 else .ok .nx U1:=by
 have go:∀U2,aH mc mb U2=.bad\/∃n,aH mc mb U2=ĩ mc mb n U2/\ĩ mc mb n U2≠.bad:=λU2=>by
  by_cases hx:∃n,ĩ mc mb n U2≠.bad
  ·obtain⟨n,h⟩:=hx;exact .inr ⟨n,bM n h,h⟩
  ·left;unfold aH;rw[dif_neg hx]
 have Um:∀U2,aH mc mb U2=.bad->∀n,ĩ mc mb n U2=.bad:=λU2 h n=>by refine BR λz=>?_;rw[bM n z]at h;exact z h
 have n_:∀n,ĩ mc mb (n+1) U≠.bad->aH mc mb U=ĩ mc mb (n+1) U:=λn h=>bM _ h;cases e:mc U with
 |bad=>rcases go U with h|⟨n,h1,h2⟩
       ·rw[h];rfl
       ·cases n with
        |zero=>exact absurd rfl h2|succ n=>rw[bi,e]at h2;exact absurd rfl h2
 |exc x U1=>
  have h:ĩ mc mb 1 U=.exc x U1:=by rw[bi,e];rfl
  rw[bM 1 (by rw[h];intro z;cases z),h];rfl
 |ok b U1=>
  simp only[į.bK];cases b with
  |false=>
   have h:ĩ mc mb 1 U=.ok .nx U1:=by rw[bi,e];rfl
   rw[bM 1 (by rw[h];intro z;cases z),h];rfl
  |true=>
   simp only[if_true];have one:∀n,ĩ mc mb (n+1) U=(mb U1).bind λf U2=>match f with
    |.nx=>ĩ mc mb n U2|.ct=>ĩ mc mb n U2|.bk=>.ok .nx U2|.rt r=>.ok (.rt r) U2:=λn=>by rw[bi,e];rfl
   cases e2:mb U1 with
   |bad=>
    rcases go U with h|⟨n,h1,h2⟩
    ·rw[h];rfl
    ·cases n with
     |zero=>exact absurd rfl h2|succ n=>rw[one,e2]at h2;exact absurd rfl h2
   |exc x U2=>
    have h:ĩ mc mb 1 U=.exc x U2:=by rw[one,e2];rfl
    rw[bM 1 (by rw[h];intro z;cases z),h];rfl
   |ok f U2=>
    have turn:(∀n,ĩ mc mb (n+1) U=ĩ mc mb n U2)->aH mc mb U=aH mc mb U2:=λhn=>by
     rcases go U2 with h|⟨n,h1,h2⟩
     ·rcases go U with h'|⟨n,h1,h2⟩
      ·rw[h,h']
      ·cases n with
       |zero=>exact absurd rfl h2|succ n=>rw[hn,Um U2 h n]at h2;exact absurd rfl h2
     ·rw[h1,<-hn n];exact n_ n (by rw[hn n];exact h2)
    cases f with
    |nx=>exact turn λn=>by rw[one,e2];rfl
    |ct=>exact turn λn=>by rw[one,e2];rfl
    |bk=>
     have h:ĩ mc mb 1 U=.ok .nx U2:=by rw[one,e2];rfl
     rw[bM 1 (by rw[h];intro z;cases z),h];rfl
    |rt r=>
     have h:ĩ mc mb 1 U=.ok (.rt r) U2:=by rw[one,e2];rfl
     rw[bM 1 (by rw[h];intro z;cases z),h];rfl
def C5(hp:oH (Ø X.prog X.w) X.A X.env X.xe)(hc:PT X c (tB (kk X cm) E mc))(hb:bC X body (tS (kk X cm) E mb)):PS X (.While c body [] pos) (tS (kk X cm) E<|aH mc mb):=PS.wk (Ff hp hc hb)<|by
 rintro D i H ⟨c,F,U,rel,h⟩;obtain⟨n,hn⟩:∃n,ϊ (kk X cm) E c F D (ĩ mc mb n U):=by
  by_cases hx:∃n,ĩ mc mb n U≠.bad
  ·obtain⟨n,hn⟩:=hx;rw[bM n hn]at h;exact⟨n,h⟩
  ·unfold aH at h;rw[dif_neg hx]at h;exact h.elim
 refine⟨λm d H'=>∃F2 U2,Ĕ (kk X cm) c F2 H' d U2/\Ú F F2/\ϊ (kk X cm) E c F2 D (ĩ mc mb m U2),⟨n,F,U,rel,Ú.refl _,hn⟩,?_⟩;rintro m g H1 ⟨F1,U1,ä,s1,h1⟩;cases m with
 |zero=>exact h1.elim|succ m=>
  rw[bi]at h1;refine⟨c,F1,U1,ä,ϊ.bind h1 λk U2 v F2 H2 Ě s2 q h2=>?_⟩;have e:k=v:=q;subst e;cases k with
  |false=>rw[if_neg bE];rw[if_neg bE]at h2;exact h2 g F2 H2 Ě Đ|true=>
   rw[if_pos rfl];rw[if_pos rfl]at h2;refine⟨_,λd H' z=>z,c,F2,U2,Ě,?_⟩;have QX:∀{U3:Ĉ},ϊ (kk X cm) E c F2 D (ĩ mc mb m U3)->∀d F' H',Ĕ (kk X cm) c F' H' d U3->Ú F2 F'->∃m',m'<m+1/\∃F2 U2,Ĕ (kk X cm) c F2 H' d U2/\Ú F F2/\ϊ (kk X cm) E c F2 D (ĩ mc mb m' U2):=
    fun{U3} h3 d F' H' ŷ s'=>⟨m,rZ m,F',U3,ŷ,(s1.trans s2).trans s',ϊ.mono h3 s'⟩
   cases e2:mb U2 with
   |bad=>rw[e2]at h2;exact h2|exc x U3=>rw[e2]at h2;exact h2|ok f U3=>
    rw[e2]at h2;cases f with
    |nx=>exact QX h2|ct=>exact QX h2|bk=>exact h2|rt r=>exact h2
def iW(K:KK)(Lh F:Hp)(J:It)(items:List PV):Prop:=∀(c:Ctx) (i:Nat) (F2 H:Hp) (d:ć) (U:Ĉ),Ĕ K c F2 H d U->Ú F F2->Ú Lh H->
 (∀p,items[i]?=some p->J.go i H/\∀x H',J.N7 i H x H'->∃F3,Ĕ K c F3 H' d U/\Ú F2 F3/\Ú H H'/\Ċ K F3 p x)/\(i=items.length->J.stop i H)
def X5(K:KK):RR (List PV) It:=λc x x F x items J=>iW K c.L F J items
abbrev tI(K:KK)(E:ć->XK)(m:M (List PV)):TI:=tG K E (X5 K) m
noncomputable def Ĵ(g:Tg)(mb:M Fl):List PV->M Fl
 |[],U=>.ok .nx U|p::ps,U=>match g p U with
  |none=>.bad|some U1=>(mb U1).bind λf U2=>match f with
   |.nx=>Ĵ g mb ps U2|.ct=>Ĵ g mb ps U2|.bk=>.ok .nx U2|.rt r=>.ok (.rt r) U2
def cW(mi:M (List PV))(g:Tg)(mb:M Fl):M Fl:=λU=>(mi U).bind λitems U1=>Ĵ g mb items U1
def ϣ{iter tg:Ç}{body:List è}{mi:M (List PV)}{g:Tg}{mb:M Fl}(hp:oH (Ø X.prog X.w) X.A X.env X.xe)(hc:X.calm=true)(hi:PI X tg iter (tI (kk X cm) E mi))(hg:PG X tg (tT (kk X cm) g))(hb:bC X body (tS (kk X cm) E mb))
 (hs:∀x,df iter X.env x=î x:=by intro _;rfl):PS X (.For tg iter body [] pos) (tS (kk X cm) E<|cW mi g mb):=PS.wk (Fh hp hc hi hg hb hs) λD l H ⟨c,F,U,rel,h⟩=>⟨c,F,U,rel,ϊ.bind h λitems U1 J F1 H1 ä s1 QY h1=>by
 refine⟨λi m d H'=>∃F2 U2,i<=items.length/\m=items.length-i/\Ĕ (kk X cm) c F2 H' d U2/\Ú F1 F2/\ϊ (kk X cm) E c F2 D (Ĵ g mb (items.drop i) U2),⟨_,F1,U1,da _,rfl,ä,Ú.refl _,h1⟩,?_⟩;rintro i m j H2 ⟨F2,U2,hle,rfl,Ě,s2,h2⟩;obtain⟨go,stop⟩:=QY c i F2 H2 j U2 Ě s2 λb u e=>(Ě.lent b u e).1;by_cases kX:i<items.length
 ·obtain⟨g1,g2⟩:=go items[i] (œ kX);rw[lS kX]at h2;unfold Ĵ at h2;refine .inr ⟨g1,_,λd H' z=>z,λx H3 hy=>?_⟩;obtain⟨F3,gX,s3,_,rp⟩:=g2 x H3 hy;refine⟨c,F3,U2,items[i],gX,rp,?_⟩;cases eg:g items[i] U2 with
  |none=>rw[eg]at h2;exact h2.elim|some U3=>
   rw[eg]at h2;dsimp only at h2;intro k ue;refine⟨c,F3,U3,ue,?_⟩;have QX:∀{U4:Ĉ},ϊ (kk X cm) E c F2 D (Ĵ g mb (items.drop<|i+1) U4)->∀d F' H',Ĕ (kk X cm) c F' H' d U4->Ú F3 F'->∃m',m'<items.length-i/\∃F2 U2,i+1<=items.length/\m'=items.length-(i+1)/\Ĕ (kk X cm) c F2 H' d U2/\Ú F1 F2/\ϊ (kk X cm) E c F2 D (Ĵ g mb (items.drop<|i+1) U2):=
    fun{U4} h3 d F' H' ŷ s'=>⟨items.length-(i+1),by lia,F',U4,kX,rfl,ŷ,(s2.trans s3).trans s',ϊ.mono h3<|s3.trans s'⟩
   have M8:=ϊ.mono h2 s3;cases e2:mb U3 with
   |bad=>rw[e2]at h2;exact h2|exc x U4=>rw[e2]at M8;exact M8|ok f U4=>
    rw[e2]at h2 M8;cases f with
    |nx=>exact QX h2|ct=>exact QX h2|bk=>exact M8|rt r=>exact M8
 ·have e:i=items.length:=by lia
  refine .inl ⟨stop e,?_⟩;rw[jP<|by lia]at h2;unfold Ĵ at h2;exact h2 j F2 H2 Ě Đ⟩
end
inductive FR where
 |ret (r:RV)|exc (x:PX)|bad
abbrev MF:=List Slot->FR
noncomputable def FR.of:į Fl->FR
 |.ok (.rt r) _=>.ret r|.ok .nx _=>.ret<|.sh .non|.exc x _=>.exc x|_=>.bad
def Č(n k:Nat)(mb:M Fl):MF:=λas=>if as.length=n then FR.of (mb<|ĕ k as)else .bad
def rF(K:KK)(H F' H':Hp):RV->V->Prop
 |.sh p,v=>Ċ K F' p v|.ow ps,v=>∃a vs,v=.ref a/\H' a=some (.lst vs)/\F' a=none/\H a=none/\é K F' ps vs|.ot ps qs rs,v=>∃p a xs vs ys,v=.ref p/\F' p=some (.tup (xs++.ref a::ys))/\é K F' ps xs/\H' a=some (.lst vs)/\F' a=none/\H a=none/\é K F' qs vs/\é K F' rs ys|.bn t ps qs rows,v=>nP K H F' t ps qs rows v
def Uo(K:KK)(E:XK)(F H:Hp)(Q:VK):FR->Prop
 |.ret r=>∀v F' H',Gr F H F' H'->rF K H F' H' r v->Q v H'|.exc x=>∀C d F' H',Gr F H F' H'->yJ K F' x C d->E C d H'|.bad=>False
def rj(K:KK)(n:Nat)(mf:MF):Sp:=λvs H Q E=>∃F as,as.length=n/\Ú F H/\Paired (du K F H) as vs/\Uo K E F H Q (mf as)
def a_(CX:iy)(X:Cx)(E:ć->XK):Prop:=∀(Å:List (À×Obj)) (a:ć) (H:Hp) (s:Ã) (e:Á) (s':Ã),Inv X Å a H s->CX X.stack H s (E a) e s'->X.xe e s'
def iX:a_ AJ X E:=λx x x x x x x h=>h.elim
section
variable{P:ë}{w:â}{K:Î}{cm:String->À}{mg:Str->Option Á}{base:Ò}{CX:iy}
def fnP{st:è}(F:El K x qual st f fd)(S:ĸ N ps (ç st))
 (fv:∀(cdv:Á) (A:ê) (outer:List Env) (s:Ã) (H:Hp) (E:XK),ő k (A.deeper<|ŕ qual (ç st) s.heap.objs.size f cdv)→
   bC (nK CX P w K mg base N qual (ç st) f cdv A outer s H E) (ğ st) (tS ⟨K,cm⟩ (λy=>E) mb)):ϯ P w K mg base CX (k+1) f fd ps (rj ⟨K,cm⟩ ps.length<|Č ps.length N.length mb):=by
 obtain⟨oc,od,kV,doc,pm,an,cdv,ct,zx,rfl,lk,wM⟩:=F.ex;refine vI lk wM S (λvs H Q E ⟨F,kU,h1,_,h2,_⟩=>by rw[<-Paired.length h2];exact h1) λA outer s H vs Q E hr zI=>?_;obtain⟨F,kU,h1,h2,h3,h4⟩:=zI;refine⟨_,fv cdv A outer s H E hr,cn F H,F,ĕ N.length kU,Ĕ.start h2 h3,?_⟩;unfold Č at h4;rw[if_pos h1]at h4;cases e:mb (ĕ N.length kU)with
 |bad=>rw[e]at h4;exact h4|exc x U'=>rw[e]at h4;exact λb C d F' H' rel s1 q=>h4 C d F' H' rel.gr q
 |ok fl U'=>
  rw[e]at h4;cases fl with
  |nx=>exact λb F' H' rel s1=>h4 .non F' H' rel.gr<|Ċ.non (K:=⟨K,cm⟩) (F:=F')
  |bk=>exact h4.elim|ct=>exact h4.elim|rt r=>
   intro v b F' H' rel s1 q;refine h4 v F' H' rel.gr ?_;cases r with
   |sh p=>exact q|ow qs=>obtain⟨a,gU,e1,e2,e3,e4,_,e5⟩:=q;exact⟨a,gU,e1,e2,e3,e4,e5⟩|ot qs ts rs=>obtain⟨p,a,xs,gU,ys,e1,e0,ex,e2,e3,e4,_,e5⟩:=q;exact⟨p,a,xs,gU,ys,e1,e0,ex,e2,e3,e4,e5⟩|bn t ps qs rows=>exact q
def fnQ{st:è}(F:El K x qual st f fd)(S:ĸ N ps (ç st))(hn:ps.length=n)(hj:N.length=j)(hf:mf=Č n j mb)
 (fv:∀(cdv:Á) (A:ê) (outer:List Env) (s:Ã) (H:Hp) (E:XK),ő k (A.deeper<|ŕ qual (ç st) s.heap.objs.size f cdv)→
   bC (nK CX P w K mg base N qual (ç st) f cdv A outer s H E) (ğ st) (tS ⟨K,cm⟩ (λy=>E) mb)):ϯ P w K mg base CX (k+1) f fd ps (rj ⟨K,cm⟩ n mf):=by
 subst hn hj hf;exact fnP F S fv
end
@[simp]def Ü(mf:MF)(mr:M (List Slot))(U:Ĉ):į RV:=(mr U).bind fun ps U1=>match mf ps with
  |.ret r=>.ok r U1|.exc x=>.exc x U1|.bad=>.bad
section
variable{X:Cx}{cm:String->À}{E:ć->XK}{CX:iy}{k n:Nat}{f:À}{fd:Ć}{ps:List Str}{mf:MF}{mr:M (List Slot)}{x:Str}{p pos:Pos}{e:Ç}{es:List Ç}
def mO{a:ć}(F:ϯ X.prog X.w X.K X.mg X.base CX k f fd ps sp)(hr:ő k X.A)(hb:Binds X.K fd ps [])(hx:a_ CX X E)
 (I:Inv X Å a H s)(r:Ō vs us)(h:sp vs H Q (E a)):Ï (Ø X.prog X.w) X.A (call (.ref f) us) (EP X Å a Q) X.xe s:=by
 have hl:(us++[]).length=ps.length:=by rw[fO,<-r.length];exact F.len _ _ _ _ h
 have QZ:=hb s us I.nj hl;rw[fO]at QZ;refine sw<|mj (F.run X.A X.stack s H ⟨us,[]⟩ us vs Q (E a) hr I.env0 QZ r h) λr s' hq=>?_;cases r with
 |error e=>exact hx Å a H s e s' I hq|ok fl=>
  cases fl with
  |ret u=>exact I.after hq|next=>exact aK hq|brk=>exact aK hq|cont=>exact aK hq
def uh{Q:VK}{ps:List Slot}(hlen:(∃r,mf ps=r/\∀z,r=z->z≠.bad)->ps.length=n)(ä:Ĕ (kk X cm) c F1 H1 b U1)(r1:Paired (du (kk X cm) F1 H1) ps vs)
 (h:ak (kk X cm) E (rO<|kk X cm) c F1 H1 b Q (match mf ps with|.ret r=>.ok r U1|.exc x=>.exc x U1|.bad=>.bad)):rj (kk X cm) n mf vs H1 Q (E b):=by
 refine⟨F1,ps,?_,ä.sub,r1,?_⟩
 ·refine hlen ⟨_,rfl,λz hz hb=>?_⟩;rw[hz,hb]at h;exact h
 ·cases em:mf ps with
  |bad=>rw[em]at h;exact h|exc x=>rw[em]at h;exact λC d F' H' g rx=>h C d F' H' (ä.call g) g.f rx
  |ret r=>
   rw[em]at h;intro v F' H' g rf;refine h v F' H' (ä.call g) g.f g.h ?_;cases r with
   |sh p=>exact rf|ow qs=>obtain⟨a,gU,e1,e2,e3,e4,e5⟩:=rf;exact⟨a,gU,e1,e2,e3,ä.base.free e4,ä.lc g.f<|ä.fresh e4,e5⟩|ot qs ts rs=>obtain⟨p,a,xs,gU,ys,e1,e0,ex,e2,e3,e4,e5⟩:=rf;exact⟨p,a,xs,gU,ys,e1,e0,ex,e2,e3,ä.base.free e4,ä.lc g.f<|ä.fresh e4,e5⟩|bn t ps qs rows=>exact nP.base rf ä.base
def li{ps:List Slot}(h:∃r,Č n k mb ps=r/\∀z,r=z->z≠.bad):ps.length=n:=by
 obtain⟨r,h1,h2⟩:=h;unfold Č at h1;by_cases hl:ps.length=n
 ·exact hl
 ·rw[if_neg hl]at h1;exact absurd h1.symm (λz=>h2 .bad (by rw[<-h1]) rfl)
def Ga(F:ϯ X.prog X.w X.K X.mg X.base CX k f fd ps (rj (kk X cm) n mf))(hlen:∀{ps:List Slot},(∃r,mf ps=r/\∀z,r=z->z≠.bad)->ps.length=n)(hr:ő k X.A)(hg:Gl X x)(hm:X.mg x=some (.ref f))(hk:ϫ X.K (.ref f)=true)(hb:Binds X.K fd ps [])(hx:a_ CX X E)
 (ha:PA X (e::es) (tA (kk X cm) E mr))(lK:(x==("__debug__":Str))=false:=by kernel_rfl)(he:Ð (e::es) X.env=(false,eval e X.env)::Ð es X.env:=by exact Ĺ rfl)(hpl:(ÿ pos<|Ð es X.env).any (·.1)=false:=by kernel_rfl):
 PE X (.Call (.Name x p) (e::es) [] pos) (tO (kk X cm) E<|Ü mf mr):=by
 intro Å s a H Q I h;obtain⟨c,F,U,rel,h⟩:=h;refine ig<|oX I hg hm ?_ lK;refine ka (h₀:=X.base) I.ok.mod.Hq hk (ώ (ha pos Å s a H (λvs H1=>rj (kk X cm) n mf vs H1 Q<|E a) I ⟨c,F,U,rel,h.bind λkU U1 vs F1 H1 ä y y r1 h1=>uh hlen ä r1 h1⟩) λus s1 ⟨vs,H1,I1,r,q⟩=>⟨I1.nj,?_⟩) he hpl;exact mO (by assumption) hr hb hx I1 r q
end
@[simp]def ϱ(m:M PV)(U:Ĉ):į (List PV):=(m U).bind fun p U1=>match p with
  |.lst ps=>.ok ps U1|.tup ps=>.ok ps U1|.str z=>.ok (z.cps.toList.map λc=>.str ⟨#[c]⟩) U1
  |_=>.bad
section
variable{X:Cx}{cm:String->À}{E:ć->XK}{tg:Ç}
def Up(K:Î)(tl:TE):TI:=λb H R=>tl b H λx H1=>(∃a,x=.ref a/\(∃xs,Ϧ K H1 a xs)/\R (JT K a) H1)\/(∃a,x=.ref a/\(∃xs,gj K H1 a xs)/\R (N8 K a) H1)\/∃z,x=.str z/\R (Its z) H1
def Be(hl:PE X l tl):PI X tg l (Up X.K tl):=by
 intro Å s c H R I h;refine ώ (hl Å s c H _ I h) λv s1 zz=>?_;obtain⟨x,H1,I1,r1,q1⟩:=zz;rcases q1 with⟨a,e,⟨xs,hq⟩,q⟩|⟨a,e,⟨xs,hq⟩,q⟩|⟨z,e,q⟩
 ·subst e;cases r1;obtain⟨Ē,rv,p,hz⟩:=I1.list hq;refine jW p.isList ?_;refine⟨s1.heap.objs.size,[s1.heap.objs.size],_,_,H1,rfl,I1.kept (t':=s1.toks) λb o e=>ø _ e,D9 a _,⟨_,Ĥ _ rfl,rfl,rfl⟩,λb hb=>?_,q⟩;have e:b=s1.heap.objs.size:=by simpa using hb
  subst e;exact I1.tY (ö _)<|I1.hok.fresh<|ö _
 ·subst e;cases r1;obtain⟨Ē,rv,p,hz⟩:=I1.tuple hq;refine xH (show s1.heap.IsTuple a Ē.toArray from p) ?_;refine⟨s1.heap.objs.size,[s1.heap.objs.size],_,_,H1,rfl,I1.kept (t':=s1.toks) λb o e=>ø _ e,AT a _,⟨_,Ĥ _ rfl,rfl,rfl⟩,λb hb=>?_,q⟩;have e:b=s1.heap.objs.size:=by simpa using hb
  subst e;exact I1.tY (ö _)<|I1.hok.fresh<|ö _
 ·subst e;obtain⟨t,rfl⟩:=r1;have n_:∀ty,(∀A:ê,A.handled=none->Walks X.prog X.w A s1.heap.objs.size [s1.heap.objs.size] [s1.heap.objs.size] z.cps.size (SignAt z) (λi h=>h.IsStrIter s1.heap.objs.size ty z t i))->
   (∀(A:ê) (i:Nat) (s:Ã) (Q:Á->Ã->Prop) (E:Á->Ã->Prop),s.heap.IsStrIter s1.heap.objs.size ty z t i->Q (.ref s1.heap.objs.size) s->Ï (Ø X.prog X.w) A (ia<|.ref s1.heap.objs.size) Q E s)->
   (["enumerate","zip","dict_itemiterator","dict_reverseitemiterator","odict_iterator","itertools.zip_longest","itertools.pairwise"].contains ty=false)->
   Tj X Å c tg R (.ref s1.heap.objs.size) {s1 with heap:=s1.heap.push {cls:=.type ty,data:=.fields #[.str z t,.int 0 0]}}:=λty hW hS lL=>by
   refine⟨s1.heap.objs.size,[s1.heap.objs.size],_,_,H1,rfl,I1.kept (t':=s1.toks) λb o e=>ø _ e,Eo _ z t ty hW hS lL,⟨_,Ĥ _ rfl,rfl,rfl⟩,λb hb=>?_,q⟩;have e:b=s1.heap.objs.size:=by simpa using hb
   subst e;exact I1.tY (ö _)<|I1.hok.fresh<|ö _
  cases ha:z.cps.all (·<128)with
  |true=>exact wpAny_pyIter_ascii ha (n_ _ (λA hA=>Walks.strAscii hA _ z t) (λA i s Q E st q=>wpAny_pyIter_striter_ascii st q)<|by decide)
  |false=>exact wpAny_pyIter_wide ha (n_ _ (λA hA=>Walks.strWide hA _ z t) (λA i s Q E st q=>wpAny_pyIter_striter_wide st q)<|by decide)
def gx(hl:PE X l (tV (kk X cm) E m)):PI X tg l (tI (kk X cm) E<|ϱ m):=λÅ s d H R I h=>Be hl Å s d H R I (by
 obtain⟨c,F,U,rel,h⟩:=h;refine⟨c,F,U,rel,h.bind λp U1 v F1 H1 ä s1 s2 q h1=>?_⟩;cases p with
 |lst ps=>have q':Ċ (kk X cm) F1 (.lst ps) v:=q;unfold Ċ at q';obtain⟨a,vs,rfl,e1,e2⟩:=q';refine .inl ⟨a,rfl,⟨vs,ä.sub.seq e1⟩,h1 _ F1 H1 ä Đ Đ ?_⟩;intro c' i F2 H2 b U2 Ě sF _;have hq:Ϧ X.K H2 a vs:=(sF.trans Ě.sub).seq e1;refine⟨λp hp=>?_,λhi=>⟨vs,hq,by rw[hi,e2.length];exact ö _⟩⟩;obtain⟨u,hu,ru⟩:=bT e2.pr hp;refine⟨⟨vs,u,hq,hu⟩,λx H' zz=>?_⟩;obtain⟨hH,hx⟩:=zz;subst hH;have:vs[i]?=some x:=hx vs hq;rw[hu]at this;cases this;exact⟨F2,Ě,Ú.refl _,Ú.refl _,Ċ.same sF p u ru⟩
 |tup ps=>have q':Ċ (kk X cm) F1 (.tup ps) v:=q;unfold Ċ at q';obtain⟨a,vs,rfl,e1,e2⟩:=q';refine .inr<|.inl ⟨a,rfl,⟨vs,Ú.tup ä.sub e1⟩,h1 _ F1 H1 ä Đ Đ ?_⟩;intro c' i F2 H2 b U2 Ě sF _;have hq:gj X.K H2 a vs:=Ú.tup (sF.trans Ě.sub) e1;refine⟨λp hp=>?_,λhi=>⟨vs,hq,by rw[hi,e2.length];exact ö _⟩⟩;obtain⟨u,hu,ru⟩:=bT e2.pr hp;refine⟨⟨vs,u,hq,hu⟩,λx H' zz=>?_⟩;obtain⟨hH,hx⟩:=zz;subst hH;have:vs[i]?=some x:=hx vs hq;rw[hu]at this;cases this;exact⟨F2,Ě,Ú.refl _,Ú.refl _,Ċ.same sF p u ru⟩
 |str z=>
  have q':v=.str z:=by have q':Ċ (kk X cm) F1 (.str z) v:=q;unfold Ċ at q';exact q'
  subst q';refine .inr<|.inr ⟨z,rfl,h1 _ F1 H1 ä Đ Đ ?_⟩;intro c' i F2 H2 b U2 Ě sF _;refine⟨λp hp=>?_,λhi=>by rw[hi,Ğ];show _=_;simp⟩;rw[Ł]at hp;cases ez:z.cps.toList[i]?with
  |none=>rw[ez]at hp;cases hp|some cc=>rw[ez]at hp;cases hp;refine⟨by have:=(aL.mp ez).1;show i<z.cps.size;simpa using this,λx H' ⟨hH,c2,hc,hx⟩=>?_⟩;subst hH hx;rw[ez]at hc;cases hc;exact⟨F2,Ě,Ú.refl _,Ú.refl _,Ċ.str⟩
 |_=>exact h1.elim)
noncomputable def Ķ(i:Nat):M (List PV):=λU=>match U[i]?with
 |some (.bw ps)=>.ok ps U|some (.sh<|.lst ps)=>.ok ps U|some (.sh<|.tup ps)=>.ok ps U|some (.sh<|.str z)=>.ok (z.cps.toList.map λc=>.str ⟨#[c]⟩) U
 |some (.ow ps)=>.ok ps<|U.set i<|.sh<|.lst ps|_=>.bad
def Ť(i:Nat){x:Str}{px:Pos}(hk:D8 X i x=true:=by kernel_rfl):PI X tg (.Name x px) (tI (kk X cm) E<|Ķ i):=λÅ s b H R I h=>by
 obtain⟨c,F,U,rel,h⟩:=h;cases e:U[i]?with
 |none=>unfold Ķ at h;rw[e]at h;exact h.elim|some sl=>
  have Iz:ak (kk X cm) E (X5<|kk X cm) c F H b R (ϱ (ì i) U)->Ï (Ø X.prog X.w) X.A (eval (.Name x px) X.env) (λv s1=>Ï (Ø X.prog X.w) X.A (ia v) (Tj X Å b tg R) X.xe s1) X.xe s:=λh'=>
   gx (v_var i hk) Å s b H R I ⟨c,F,U,rel,h'⟩
  unfold Ķ at h;rw[e]at h;cases sl with
  |no=>exact h.elim|rc C ns ps=>exact h.elim|ot ps qs rs=>exact h.elim|ol nO=>exact h.elim|fr nO=>exact h.elim|pw ps=>exact h.elim|pin=>exact h.elim|bn qs rows=>exact h.elim|dw gv=>exact h.elim|ow ps=>exact Iz (by unfold ϱ ì;rw[e];exact h)|sh p=>
   cases p with
   |lst ps=>exact Iz (by unfold ϱ ì;rw[e];exact h)|tup ps=>exact Iz (by unfold ϱ ì;rw[e];exact h)|str z=>exact Iz (by unfold ϱ ì;rw[e];exact h)|_=>exact h.elim
  |bw ps=>obtain⟨a,vs,h1,h2,h3⟩:=rel.slot i _ e;refine Be (nq hk) Å s b H R I ⟨.ref a,ŀ h1,.inl ⟨a,rfl,⟨vs,Ϧ.of (rel.lent a _ h2).1⟩,h _ F H rel Đ Đ ?_⟩⟩;intro c' j F2 H2 d U2 Ě sF sL;have hq:Ϧ X.K H2 a vs:=Ϧ.of<|sL a _ h2;refine⟨λp hp=>?_,λhi=>⟨vs,hq,by rw[hi,h3.length];exact ö _⟩⟩;obtain⟨u,hu,ru⟩:=bT h3.pr hp;refine⟨⟨vs,u,hq,hu⟩,λx H' zz=>?_⟩;obtain⟨hH,hx⟩:=zz;subst hH;have:vs[j]?=some x:=hx vs hq;rw[hu]at this;cases this;exact⟨F2,Ě,Ú.refl _,Ú.refl _,Ċ.same sF p u ru⟩
noncomputable def lj(lo:Int)(n:Nat)(c:Int):List PV:=(Ô n).map λ(i:Nat)=>.int<|lo+i*c
noncomputable def ui(i:Int):Bool:=decide<|i.natAbs<1152921504606846976
def Ϥ:List PV->Option (List PV)
 |[.int j]=>if ui j=true then some (lj 0 j.toNat 1)else none|_=>none
@[simp]def ύ(f:List PV->Option (List PV))(mr:M (List PV))(U:Ĉ):į (List PV):=(mr U).bind λps U1=>į.zE (f ps) U1
def Bf{lo c:Int}(h:(lj lo n c)[i]?=some p):i<n/\p=.int (lo+i*c):=by
 unfold lj at h;by_cases hn:i<n
 ·rw[Ł,BX hn]at h;exact⟨hn,(ı h).symm⟩
 ·rw[BY<|by simpa using hn]at h;cases h
def Bg{lo c:Int}:(lj lo n c).length=n:=by simp[lj]
def LU{K:KK}(lo:Int)(n:Nat):iW K Lh F (Ro lo n) (lj lo n 1):=λc i F2 H a U rel sF x=>
 ⟨fun p hp=>by obtain⟨h1,rfl⟩:=Bf hp;refine⟨h1,λx H' zz=>?_⟩;obtain⟨e1,e2⟩:=zz;subst e1 e2;exact⟨F2,rel,Ú.refl _,Ú.refl _,by rw[Int.mul_one];exact Ċ.int⟩,λhi=>by rw[Bg]at hi;subst hi;exact ö _⟩
def Ew(h:ui i=true): -(2^60)<=i/\i<2^60:=by unfold ui at h;rw[decide_eq_true_eq]at h;lia
variable{a:Ç}{p pos:Pos}{mr:M (List PV)}
def Gb{K:KK}(h:é K F ps vs):(∀i r,ps=.int i::r->∃r',vs=.int i::r'/\é K F r r')/\(ps=[]->vs=[]):=by
 refine⟨λi r e=>?_,λe=>?_⟩
 ·subst e;unfold é at h;obtain⟨x,r',h1,h2,h3⟩:=h;unfold Ċ at h2;exact⟨r',by rw[h1,h2],h3⟩
 ·subst e;unfold é at h;exact h
set_option tactic.hygienic true in
def Ľ(hg:Gl X "range")(hm:X.mg "range"=none)(ha:PA X [a] (tL (kk X cm) E mr))(hs:Ð [a] X.env=[(false,eval a X.env)]:=by exact Ĺ rfl):PI X tg (.Call (.Name "range" p) [a] [] pos) (tI (kk X cm) E<|ύ Ϥ mr):=
 λÅ s b H R I h=>Ea hg hm ha hs Å s b H R I (by
  obtain⟨c,F,U,rel,h⟩:=h;refine⟨c,F,U,rel,h.bind λps U1 vs F1 H1 ä s1 s2 q h1=>?_⟩;have q':é (kk X cm) F1 ps vs:=q;unfold Ϥ at h1;split at h1
  ·rename_i j;split at h1
   ·rename_i hj;obtain⟨r',e1,e2⟩:=(Gb q').1 _ _ rfl;cases(Gb e2).2 rfl;obtain⟨k1,k2⟩:=Ew hj;exact⟨j,e1,by lia,by lia,h1 _ F1 H1 ä Đ Đ<|LU 0 j.toNat⟩
   ·exact h1.elim
  ·exact h1.elim)
end
noncomputable def gY:Slot->Slot
 |.sh p=>.sh p|.ow ps=>.bw ps|.bw ps=>.bw ps|_=>.no
def iY(js:List Nat)(nl:Nat)(U:Ĉ):Ĉ:=js.map (λ(j:Nat)=>gY<|(U[j]?).getD .no)++á nl .no
noncomputable def ī{α:Type}(g:α->Ĉ->Option Ĉ)(mt:M Bool)(me:M PV):List α->Ĉ->List PV->Option (List PV)
 |[],_,acc=>some acc|p::ps,U,acc=>match g p U with
  |none=>none|some U1=>match mt U1 with
   |.ok true U2=>match me U2 with
     |.ok q U3=>if acc.length<16777216then ī g mt me ps U3 (acc++[q])else none|_=>none
   |.ok false U2=>ī g mt me ps U2 acc|_=>none
@[simp]def Ħ{α:Type}(js:List Nat)(nl:Nat)(mi:M (List α))(g:α→Ĉ→Option Ĉ)(mt:M Bool)(me:M PV)(U:Ĉ):į RV:=(mi U).bind fun items U1=>match ī g mt me items (iY js nl U1) []with
  |some ps=>.ok (.ow ps) U1|none=>.bad
abbrev EF:ć->XK:=λx x x x=>False
@[simp]def ė(U:Ĉ):į Bool:=.ok true U
section
variable{K:KK}{c:Ctx}{F H:Hp}{σ:ć}{U:Ĉ}
def yM(F H H1:Hp):Ctx:=⟨H1,F,(cn F H).L,λx x x=>True⟩
def Ĕ.cap(js:List Nat)(nl:Nat)(rel:Ĕ K c F H σ U)(hD:H D=none):Ĕ K (yM F H<|upd H D o) F (upd H D o) (ji js nl σ) (iY js nl U) where
 sub:=rel.sub.trans (Ú.upd hD)
 base:=Ú.refl _
 f0:=Ú.refl _
 fg:=λx x z=>z
 lent:=λa u e=>⟨Ú.upd hD a u (ϰ e).1,(ϰ e).2⟩
 lb:=fun a e=>by
   cases q:(yM F H<|upd H D o).L a with
   |none=>rfl|some u=>have e':upd H D o a=none:=e;rw[Ú.upd hD a u (ϰ q).1]at e';cases e'
 len:=by simp[ji,iY]
 slot:=λi s e=>by
  unfold iY at e;by_cases hi:i<js.length
  ·rw[ϧ (by simpa using hi),Ł]at e;cases ej:js[i]?with
   |none=>rw[ej]at e;cases e|some j=>
    rw[ej]at e;have e':gY ((U[j]?).getD .no)=s:=ı e;subst e';have hx:((ji js nl σ)[i]?).getD none=(σ[j]?).getD none:=by unfold ji;rw[ϧ (by simpa using hi),Ł,ej];rfl
    rw[hx];cases er:U[j]?with
    |none=>trivial|some sl=>
     have q:=rel.slot j sl er;cases sl with
     |no=>trivial|sh p=>exact q|ow ps=>obtain⟨a,vs,h1,h2,h3,h4,h5⟩:=q;refine⟨a,vs,h1,?_,h5⟩;show(match F a with|none=>H a|some _=>none)=_;rw[h3];exact h2
     |bw ps=>obtain⟨a,vs,h1,h2,h3⟩:=q;obtain⟨l1,l2⟩:=rel.lent a _ h2;refine⟨a,vs,h1,?_,h3⟩;show(match F a with|none=>H a|some _=>none)=_;rw[l2];exact l1
     |rc C ns ps=>trivial|ot ps qs rs=>trivial|ol nO=>trivial|fr nO=>trivial|pw ps=>trivial|pin=>trivial|bn qs rows=>trivial|dw gv=>trivial
  ·rw[cr (by simpa using hi),hU]at e;split at e
   ·cases e;trivial
   ·cases e
 sep:=λi j a h1 x=>by
  exfalso;obtain⟨s,y,h1,_,h2⟩:=h1;have h2:=iV h2;unfold iY at h1;by_cases hi:i<js.length
  ·rw[ϧ (by simpa using hi),Ł]at h1;cases ej:js[i]?with
   |none=>rw[ej]at h1;cases h1|some j=>rw[ej]at h1;have e':gY ((U[j]?).getD .no)=s:=ı h1;subst e';cases q:(U[j]?).getD .no<;>rw[q]at h2<;>cases h2
  ·rw[cr (by simpa using hi),hU]at h1;split at h1
   ·cases h1;cases h2
   ·cases h1
def Ĕ.rebase(hD:H1 D=none)(hF:F1 D=none)(rel:Ĕ K (yM F1 H1<|upd H1 D<|.lst ys) F H σ U):Ĕ K (yM F1 H1<|upd H1 D<|.lst zs) F (upd H D<|.lst zs) σ U:=by
 have fD:F D=none:=rel.fg D (by show upd H1 D _ D≠none;rw[Ā];intro z;cases z) hF;have lD:∀b u,(yM F1 H1<|upd H1 D<|.lst ys).L b=some u->b≠D:=λb u e z=>by have q:=(ϰ (F:=F1) (H:=H1) (a:=b) (u:=u) e).1;rw[z,hD]at q;cases q
 have ne:∀b,(yM F1 H1<|upd H1 D<|.lst ys).B b=none->b≠D:=λb z q=>by subst q;have z':upd H1 b (.lst ys) b=none:=z;rw[Ā]at z';cases z'
 have back:∀b,b≠D->(yM F1 H1<|upd H1 D<|.lst ys).B b=none->(yM F1 H1<|upd H1 D<|.lst zs).B b=none:=λb hb z=>by have z':upd H1 D (.lst ys) b=none:=z;show upd H1 D (.lst zs) b=none;rw[ñ hb]at z'⊢;exact z'
 refine⟨λb u e=>?_,λb u e=>?_,rel.f0,λb h1 h2=>?_,λb u e=>?_,λb e=>?_,rel.len,λi s e=>?_,rel.sep⟩
 ·have hb:b≠D:=λz=>by rw[z,fD]at e;cases e
  rw[ñ hb];exact rel.sub b u e
 ·by_cases hb:b=D
  ·subst hb;have e':upd H1 b (.lst zs) b=some u:=e;rw[Ā]at e'⊢;exact e'
  ·have e':upd H1 D (.lst zs) b=some u:=e;rw[ñ hb]at e'⊢;exact rel.base b u (by show upd H1 D _ b=some u;rw[ñ hb];exact e')
 ·refine rel.fg b (λz=>h1 ?_) h2;exact back b (ne b z) z
 ·rw[ñ<|lD b u e];exact rel.lent b u e
 ·refine rel.lb b ?_;have z':upd H1 D (.lst zs) b=none:=e;have hb:b≠D:=λq=>by rw[q,Ā]at z';cases z'
  show upd H1 D (.lst ys) b=none;rw[ñ hb]at z'⊢;exact z'
 ·have q:=rel.slot i s e;cases s with
  |no=>trivial|sh p=>exact q|bw ps=>exact q|ow ps=>obtain⟨a,vs,q1,q2,q3,q4,q5⟩:=q;have hb:=ne a q4;exact⟨a,vs,q1,by rw[ñ hb];exact q2,q3,back a hb q4,q5⟩|rc C ns ps=>obtain⟨a,dx,fs,q1,q2,q3,q4,q5⟩:=q;have hb:=ne a q4;exact⟨a,dx,fs,q1,by rw[ñ hb];exact q2,q3,back a hb q4,q5⟩|ot ps qs rs=>obtain⟨p,a,xs,vs,ys,q1,q0,qx,q2,q3,q4,q5⟩:=q;have hb:=ne a q4;exact⟨p,a,xs,vs,ys,q1,q0,qx,by rw[ñ hb];exact q2,q3,back a hb q4,q5⟩|ol nO=>obtain⟨p,as,q1,q0,qn,qp⟩:=q;refine⟨p,as,q1,q0,qn,iA qp λa ps x zz=>?_⟩;obtain⟨vs,q2,q3,q4,q5⟩:=zz;have hb:=ne a q4;exact⟨vs,by rw[ñ hb];exact q2,q3,back a hb q4,q5⟩
  |fr nO=>obtain⟨p,as,q1,q2,q3,q4,qn,qp⟩:=q;have hb:=ne p q4;exact⟨p,as,q1,by rw[ñ hb];exact q2,q3,back p hb q4,qn,iA qp λa ps x ⟨vs,k1,k2,k3⟩=>⟨vs,k1,back a (ne a k2) k2,k3⟩⟩
  |dw gv=>exact q|pin=>exact q|pw ps=>obtain⟨a,vs,q1,q2,q3,q4,q5⟩:=q;have hb:=ne a q4;exact⟨a,vs,q1,by rw[ñ hb];exact q2,q3,back a hb q4,q5⟩|bn qs rows=>obtain⟨v,q1,a,b,ys,vs,h1,h2,h3,h4,h5⟩:=q;exact⟨v,q1,a,b,ys,vs,h1,h2,back a (ne a h3) h3,back b (ne b h4) h4,h5⟩
end
section
variable{X:Cx}{cm:String->À}{E:ć->XK}{tg iter:Ç}{mi:M (List PV)}{mt:M Bool}
def Ĭ:CQ X [] (tB (kk X cm) E ė):=λÅ s a H Q I h=>Ih Å s a H Q I (by
 obtain⟨c,F,U,rel,h⟩:=h;exact h true F H rel Đ Đ rfl)
def Bh(h:PT X a (tB (kk X cm) E mt)):CQ X [a] (tB (kk X cm) E mt):=Ii h
def Gd(K:KK):RR (List PV) It:=λx x x F H items J=>iW K (cn F H).L F J items
def Ge{K:KK}(rel:Ĕ K c F H a U)(e:c.L b=some u):(cn F H).L b=some u:=by obtain⟨l1,l2⟩:=rel.lent b u e;show(match F b with|none=>H b|some _=>none)=some u;rw[l2];exact l1
def J2(h:PI X tg iter (tI (kk X cm) E mi)):PI X tg iter (tG (kk X cm) E (Gd<|kk X cm) mi):=λÅ s d H R I ⟨c,F,U,rel,q⟩=>h Å s d H R I ⟨c,F,U,rel,ak.bind (R':=Gd<|kk X cm) (f:=λp U=>.ok p U) (by revert q;cases mi U<;>exact id) λp U1 v F1 H1 ä s1 s2 q h1=>h1 v F1 H1 ä Đ Đ λc' i F2 H2 a U2 Ě sF sL=>q c' i F2 H2 a U2 Ě sF λb u e=>sL b u<|Ge ä e⟩
end
abbrev Nu(α:Type):=Ctx->Hp->α->V->Prop
def ON{α:Type}(K:KK)(RI:Nu α)(Lh F:Hp)(J:It)(items:List α):Prop:=∀(c:Ctx) (i:Nat) (F2 H:Hp) (a:ć) (U:Ĉ),Ĕ K c F2 H a U->Ú F F2->Ú Lh H->Ú Lh c.L->
 (∀p,items[i]?=some p->J.go i H/\∀x H',J.N7 i H x H'->∃F3,Ĕ K c F3 H' a U/\Ú F2 F3/\Ú H H'/\RI c F3 p x)/\(i=items.length->J.stop i H)
def IA{α:Type}(K:KK)(RI:Nu α):RR (List α) It:=λx x x F H items J=>ON K RI (cn F H).L F J items
def RF{α:Type}(K:KK)(RI:Nu α)(g:α->Ĉ->Option Ĉ):TG:=λv a H Q=>∃c F U p,Ĕ K c F H a U/\RI c F p v/\LS K c F H Q (g p U)
section
variable{α:Type}{RI:Nu α}{X:Cx}{cm:String->À}{E:ć->XK}{mi:M (List α)}{g:α->Ĉ->Option Ĉ}{mt:M Bool}{me:M PV}
def vT(hJ:∀{c a U F H items J},RJ c a U F H items J->IA (kk X cm) RI c a U F H items J){a:ć}(h:tO (kk X cm) E (Ħ js nl mi g mt me) a H Q):vN js nl (tG (kk X cm) E RJ mi) (RF (kk X cm) RI g) (tB (kk X cm) EF mt) (tV (kk X cm) EF me) a H Q:=by
 obtain⟨c,F,U,rel,h⟩:=h;refine⟨c,F,U,rel,h.bind λitems U1 J F1 H1 ä s1 s2 QY h1=>?_⟩;intro D hD;have hF:F1 D=none:=ä.sub.free hD;cases ec:ī g mt me items (iY js nl U1) []with
 |none=>rw[ec]at h1;exact h1.elim|some res=>
  rw[ec]at h1;refine⟨λi m d H'=>∃F' U' ys acc,i<=items.length/\m=items.length-i/\Ĕ (kk X cm) (yM F1 H1<|upd H1 D<|.lst ys) F' H' d U'/\é (kk X cm) F' acc ys/\ī g mt me (items.drop i) U' acc=some res,
   ⟨_,F1,_,[],[],da _,rfl,?_,é.nil,ec⟩,?_⟩
  ·exact ä.cap js nl hD
  ·rintro i m j H2 ⟨F2,U2,ys,acc,hle,rfl,Ě,ra,h2⟩;have D_:Ú F1 F2:=Ě.f0;obtain⟨go,stop⟩:=hJ QY _ i F2 H2 j U2 Ě D_ (λb u e=>(Ě.lent b u e).1) Đ;have hH2:H2 D=some (.lst ys):=Ě.base D _ (show upd H1 D _ D=_ from Ā);have fD:F2 D=none:=Ě.fg D (by show upd H1 D _ D≠none;rw[Ā];intro z;cases z) hF;by_cases kX:i<items.length
   ·obtain⟨g1,g2⟩:=go items[i] (œ kX);rw[lS kX]at h2;unfold ī at h2;refine .inr ⟨g1,_,λd H' z=>z,λx H3 hy=>?_⟩;obtain⟨F3,gX,s3,X6,rp⟩:=g2 x H3 hy;refine⟨_,F3,U2,items[i],gX,rp,?_⟩;cases eg:g items[i] U2 with
    |none=>rw[eg]at h2;cases h2|some U3=>
     rw[eg]at h2;dsimp only at h2;intro k ue;refine⟨_,F3,U3,ue,?_⟩;cases em:mt U3 with
     |bad=>rw[em]at h2;cases h2|exc x U4=>rw[em]at h2;cases h2|ok b U4=>
      rw[em]at h2;intro b' F5 H5 Bi s5 E1 eb;have eb':b=b':=eb;subst eb';cases b with
      |false=>rw[if_neg bE];dsimp only at h2;exact⟨items.length-(i+1),by lia,F5,U4,ys,acc,kX,rfl,Bi,é.same (s3.trans s5) acc ys ra,h2⟩|true=>
       rw[if_pos rfl];dsimp only at h2;refine⟨_,F5,U4,Bi,?_⟩;cases ee:me U4 with
       |bad=>rw[ee]at h2;cases h2|exc x U5=>rw[ee]at h2;cases h2|ok q U5=>
        rw[ee]at h2;dsimp only at h2;intro y F6 H6 IB s6 s6' rq;split at h2
        ·rename_i hz;have X7:=é.same ((s3.trans s5).trans s6) acc ys ra;refine⟨ys,IB.base D _<|show upd H1 D _ D=_ from Ā,by rw[<-X7.length,Ĩ];exact hz,?_⟩;exact⟨items.length-(i+1),by lia,F6,U5,ys++[y],acc++[q],kX,rfl,IB.rebase hD hF,é.append X7<|é.cons rq é.nil,h2⟩
        ·cases h2
   ·have e:i=items.length:=by lia
    refine .inl ⟨stop e,?_⟩;rw[jP<|by lia]at h2;unfold ī at h2;cases h2;have gr:Gr F1 H1 F2 H2:=⟨λb u e=>Ě.base b u (by show upd H1 D _ b=_;rw[ñ<|č e hD];exact e),D_,Ě.sub,λb hb hf=>Ě.fg b (by
     show upd H1 D _ b≠none;by_cases hbD:b=D
     ·rw[hbD,Ā];intro z;cases z
     ·rw[ñ hbD];exact hb) hf⟩
    have Uq:=ä.call gr;exact h1 _ F2 H2 Uq D_ gr.h ⟨D,ys,rfl,hH2,fD,ä.base.free hD,ä.lc gr.f<|ä.fresh hD,ra⟩
end
section
variable{X:Cx}{cm:String->À}{E:ć->XK}{elt tg iter:Ç}{ifs:List Ç}{scope:ú}{pos:Pos}{mi:M (List PV)}{g:Tg}{mt:M Bool}{me:M PV}
def zX{d:ć}(h:tO (kk X cm) E (Ħ js nl mi g mt me) d H Q):vN js nl (tG (kk X cm) E (Gd<|kk X cm) mi) (tT (kk X cm) g) (tB (kk X cm) EF mt) (tV (kk X cm) EF me) d H Q:=
 vT (RI:=λx F p v=>Ċ (kk X cm) F p v) (λh c i F2 H d U r a b x=>h c i F2 H d U r a b) h
def IC(N':List Str)(js:List Nat)(nl:Nat)(sc:ú)(qI:X.env.scope=sc)(hcalm:X.calm=true)
 (hi:PI X.Ϭ tg iter (tG (kk X cm) E (Gd<|kk X cm) mi))(hg:∀cl C s H fp,PG (jd X.Ϭ N' scope cl C s H fp) tg<|tT (kk X cm) g)(ht:∀cl C s H fp,CQ (jd X.Ϭ N' scope cl C s H fp) ifs<|tB (kk X cm) EF mt)(he:∀cl C s H fp,PE (jd X.Ϭ N' scope cl C s H fp) elt<|tV (kk X cm) EF me)
 (hcap:gu X.Ϭ sc scope N' js)(hlen:js.length+nl=N'.length:=by rfl)
 (hk:scope.kind=.function:=by rfl)(hcell:∀y∈scope.names,y.2=.cell->scope.names.lookup y.1=some .cell:=by decide+kernel)(hnames:∀y∈scope.names,y.2=.local->scope.names.lookup y.1=some .local:=by decide+kernel)
 (hfree:∀y∈scope.names,y.2=.free->(sc.names.lookup y.1=some .cell\/sc.names.lookup y.1=some .free):=by decide+kernel)
 (hs:∀x,df iter X.env x=î x:=by intro _;rfl):
 PE X (.ListComp elt [⟨tg,iter,ifs,0⟩] scope pos) (tO (kk X cm) E<|Ħ js nl mi g mt me):=
 PE.wk (PE.Ϭ<|CT N' js nl sc qI hcalm hi hg ht he hcap hlen hk hcell hnames hfree hs) λz z z h=>zX h
end
open M4
noncomputable abbrev bits(x:Int):Nat:=sE x
section
variable{X:Cx}{cm:String->À}{K:KK}
def J3(K:Î):R2:=λx y H Q=>∃l b xs zs,x=.ref l/\y=.ref b/\Ϧ K H l xs/\Ϧ K H b zs/\xs.length+zs.length<=sizeLine/\∀p,H p=none->Q (.ref p) (upd H p<|.lst<|xs++zs)
def ID:aF X (ň .Add) (J3 X.K):=by
 intro Å s a H x y v u Q I rx ry h;obtain⟨l,b,xs,zs,rfl,rfl,hH,hB,hz,q⟩:=h;cases rx;cases ry;obtain⟨Ē,r,pl,z⟩:=I.list hH;obtain⟨gZ,r2,Ur,z2⟩:=I.list hB;obtain⟨⟨c1,d1,t1,OQ⟩,n,e,hc,hd,hs⟩:=pl;obtain⟨⟨c2,d2,t2,EU⟩,n2,e2,Hh,Q_,uY⟩:=Ur;simp only at hc hd hs Hh Q_ uY;subst hc hd hs Hh Q_ uY;have hl:=r.length;have DW:=r2.length;have ea:Ē.toArray++gZ.toArray=(Ē++gZ).toArray:=by simp
 refine concat_meets ⟨_,e,rfl⟩ ⟨_,e2,rfl⟩ noFill_list_add seq_list_add PySem.F.slot_list_add PySem.F.entry_list_add (PySem.F.args_list_add_2 _ _) (list_addW l b Ē.toArray gZ.toArray n n2 none none OQ EU (by simp only[Ģ];lia)) ⟨e,e2,?_⟩;rw[ea];exact⟨.ref _,_,I.T4 (t':=s.toks) (r.append r2) (by rw[Ϲ];lia),rfl,q _ I.fresh⟩
def J4(K:Î):R2:=λx y H Q=>∃l b xs zs,x=.ref l/\y=.ref b/\gj K H l xs/\gj K H b zs/\xs≠[]/\zs≠[]/\xs.length+zs.length<=sizeLine/\∀p,H p=none->Q (.ref p) (upd H p<|.tup<|xs++zs)
def IE:aF X (ň .Add) (J4 X.K):=by
 intro Å s a H x y v u Q I rx ry h;obtain⟨l,b,xs,zs,rfl,rfl,hH,hB,nx,nz,hz,q⟩:=h;cases rx;cases ry;obtain⟨Ē,r,pl,z⟩:=I.tuple hH;obtain⟨gZ,r2,Ur,z2⟩:=I.tuple hB;obtain⟨⟨c1,d1,t1,OQ⟩,e,hc,n,hd⟩:=pl;obtain⟨⟨c2,d2,t2,EU⟩,e2,Hh,n2,Q_⟩:=Ur;simp only at hc hd Hh Q_;subst hc hd Hh Q_;have hl:=r.length;have DW:=r2.length;have Hk:Ē≠[]:=λz=>by rw[z]at hl;exact nx<|rQ.mp hl
 have Hl:gZ≠[]:=λz=>by rw[z]at DW;exact nz<|rQ.mp DW
 have ea:Ē.toArray++gZ.toArray=(Ē++gZ).toArray:=by simp
 refine concat_meets ⟨_,e,rfl⟩ ⟨_,e2,rfl⟩ noFill_tuple_add seq_tuple_add PySem.F.slot_tuple_add PySem.F.entry_tuple_add (PySem.F.args_tuple_add_2 _ _) (tuple_addW2 l b Ē.toArray gZ.toArray n n2 d1 d2 OQ EU (by simpa using Hk) (by simpa using Hl) (by simp only[Ģ];lia)) ⟨e,e2,?_⟩;rw[ea];exact⟨.ref _,_,I.laid (o:=.tup<|xs++zs) (t':=s.toks) (λw w q=>ø _ q) (ö _) ⟨by rw[Ϲ];lia,(Ē++gZ),r.append r2,⟨_,Ĥ _ rfl,rfl,_,rfl⟩⟩,rfl,q _ I.fresh⟩
noncomputable def Ă:PV->PV->Option RV
 |.int i,.int j=>some<|.sh<|.int<|i+j|.str i,.str j=>if i.length+j.length<=16777216then some (.sh<|.str<|i++j)else none|.lst ps,.lst qs=>if ps.length+qs.length<=16777216then some (.ow<|ps++qs)else none|.tup (p::ps),.tup (q::qs)=>if(p::ps).length+(q::qs).length<=16777216then some (.sh<|.tup<|(p::ps)++(q::qs))else none|_,_=>none
def J5(K:Î):R2:=λx y H Q=>Ou x y H Q\/(J3 K x y H Q\/J4 K x y H Q)
def LV:aF X (ň .Add) (J5 X.K):=Lx.or<|ID.or IE
def LW:Uh K (J5 K.K) Ă:=by
 intro c F H f U p q pv v u Q rel r1 r2 e k;unfold Ă at e;split at e
 ·cases e;cases r1.int;cases r2.int;exact .inl<|k _ F H rel Đ Đ<|Ċ.int (K:=K) (F:=F)
 ·split at e
  ·rename_i hz;cases e;cases r1.str;cases r2.str;exact .inl ⟨by rw[Ĩ];exact hz,k _ F H rel Đ Đ<|Ċ.str (K:=K) (F:=F)⟩
  ·cases e
 ·split at e
  ·rename_i hz;cases e;obtain⟨a,xs,rfl,h1,h2⟩:=r1.lst rel.sub;obtain⟨b,ys,rfl,h3,h4⟩:=r2.lst rel.sub;refine .inr (.inl ⟨a,b,xs,ys,rfl,rfl,h1,h3,by rw[<-h2.length,<-h4.length,Ĩ];exact hz,λd hd=>?_⟩);obtain⟨q1,q2⟩:=jm rel hd<|é.append h2 h4;exact k _ F _ q1 Đ (Ú.upd hd) q2
  ·cases e
 ·split at e
  ·rename_i hz;cases e;obtain⟨a,xs,rfl,h1,h2⟩:=r1.tup rel.sub;obtain⟨b,ys,rfl,h3,h4⟩:=r2.tup rel.sub;have l1:=h2.length;have l2:=h4.length;refine .inr (.inr ⟨a,b,xs,ys,rfl,rfl,h1,h3,(λz=>by rw[z]at l1;cases l1),(λz=>by rw[z]at l2;cases l2),by rw[<-l1,<-l2,Ĩ];exact hz,λl hl=>k _ _ _ (rel.alloc hl) (Ú.upd<|rel.sub.free hl) (Ú.upd hl) ?_⟩);show Ċ K _ _ _;unfold Ċ;exact⟨l,xs++ys,rfl,gj.of Ā,é.same (Ú.upd<|rel.sub.free hl) _ _<|é.append h2 h4⟩
  ·cases e
 ·cases e
noncomputable def zM(g:Int->Int->Int):PV->PV->Option PV
 |.int i,.int j=>some<|.int<|g i j|_,_=>none
noncomputable def CJ(C:Int->Int->Bool)(g:Int->Int->Int):PV->PV->Option PV
 |.int i,.int j=>if C i j=true then some (.int<|g i j)else none|_,_=>none
noncomputable def Nv(g:Int->Int->Bool):PV->PV->Option PV
 |.int i,.int j=>some<|.bl<|g i j|_,_=>none
def J6:le K (A6 λi j=>.int<|g i j) (zM g):=by
 intro c F H a U p q pv v u Q rel r1 r2 e k;unfold zM at e;split at e
 ·cases e;cases r1.int;cases r2.int;exact k _ F H rel Đ Đ Ċ.int
 ·cases e
def IF:le K (A6 λi j=>.bl<|g i j) (Nv g):=by
 intro c F H a U p q pv v u Q rel r1 r2 e k;unfold Nv at e;split at e
 ·cases e;cases r1.int;cases r2.int;exact k _ F H rel Đ Đ Ċ.bl
 ·cases e
def Gf(hC:∀i j,C i j=true->C' i j):le K (mI C' λi j=>.int<|g i j) (CJ C g):=by
 intro c F H a U p q pv v u Q rel r1 r2 e k;unfold CJ at e;split at e
 ·split at e
  ·rename_i hc;cases e;cases r1.int;cases r2.int;exact⟨hC _ _ hc,k _ F H rel Đ Đ Ċ.int⟩
  ·cases e
 ·cases e
def ŝ:=zM λi j=>i-j
def LX:le K (A6 λi j=>.int<|i-j) ŝ:=J6
def nv(_ j:Int):Bool:=decide (j≠0)&&decide (bits j<=8000)
def dY:=CJ nv λi j=>i.fdiv j
def LY:le K (mI Em λi j=>.int<|i.fdiv j) dY:=Gf λi j h=>by unfold nv at h;simpa[Em]using h
noncomputable def C6(_ j:Int):Bool:=decide<|j≠0
def ħ:=CJ C6 λi j=>i.fmod j
def LZ:le K (mI (λx j=>j≠0) λi j=>.int<|i.fmod j) ħ:=Gf λi j h=>by unfold C6 at h;simpa using h
noncomputable def zY(i j:Int):Bool:=decide (0<=j)&&decide (j.natAbs<=1000000)&&decide (i.natAbs<18446744073709551616)
def vU:=CJ zY λi j=>i^j.toNat
def Bj:le K (mI Ec λi j=>.int<|i^j.toNat) vU:=Gf λi j h=>by unfold zY at h;simp only[ă,decide_eq_true_eq]at h;exact⟨h.1.1,by lia,by have:=h.2;simpa using this⟩
noncomputable def gy(i j:Int):Bool:=decide (0<=j)&&decide (j.natAbs<=1000000)&&decide (i.natAbs<18446744073709551616)
def ph:=CJ gy λi j=>i*2^j.toNat
def nQ:le K (mI Ec λi j=>.int<|i*2^j.toNat) ph:=Gf λi j h=>by unfold gy at h;simp only[ă,decide_eq_true_eq]at h;exact⟨h.1.1,by lia,by have:=h.2;simpa using this⟩
noncomputable def uj(_ j:Int):Bool:=decide<|0<=j
def ll:=CJ uj λi j=>i/2^j.toNat
def uk:le K (mI (λx j=>0<=j) λi j=>.int<|i/2^j.toNat) ll:=Gf λi j h=>by unfold uj at h;simpa using h
def ei:=zM λi j=>eQ i j
def pi:le K (A6 λi j=>.int<|eQ i j) ei:=J6
def nR:aF X (ň .LShift) (mI Ec λi j=>.int<|i*2^j.toNat):=aF.wk Lc vL
def ul:aF X (ň .RShift) (mI (λx j=>0<=j) λi j=>.int<|i/2^j.toNat):=aF.wk Ld vL
def pj:aF X (ň .BitAnd) (A6 λi j=>.int<|eQ i j):=aF.wk Le qj
def lm:=Nv λi j=>decide<|i<j
def fi:=Nv λi j=>decide<|i<=j
def Gg:=Nv λi j=>decide<|j<i
def IG:=Nv λi j=>decide<|j<=i
def gA:le K (A6 λi j=>.bl<|decide<|i<j) lm:=IF
def ba:le K (A6 λi j=>.bl<|decide<|i<=j) fi:=IF
def Gh:le K (A6 λi j=>.bl<|decide<|j<i) Gg:=IF
def OR:le K (A6 λi j=>.bl<|decide<|j<=i) IG:=IF
def ľ(i j:Int):Bool:=decide (i.natAbs<18446744073709551616)||decide (j.natAbs<18446744073709551616)||(decide (bits i<=1048576)&&decide (bits j<=1048576))
def Gj(h:ľ i j=true):vM i j:=by
 unfold ľ at h;simp only[om,ă,decide_eq_true_eq]at h;rcases h with(h|h)|h
 ·exact .inl (.inl ⟨by lia,by lia⟩)
 ·exact .inl (.inr ⟨by lia,by lia⟩)
 ·exact .inr h
def ď:PV->PV->Option PV
 |.int i,.int j=>if ľ i j=true then some (.int<|i*j)else none|.str z,.int n=>if 0<=n/\n<=1000/\z.length<=1000then some (.str<|S (á n.toNat z.cps.toList).flatten)else none|_,_=>none
def L_:le K FP ď:=by
 intro c F H a U p q pv v u Q rel r1 r2 e k;unfold ď at e;split at e
 ·split at e
  ·rename_i hc;cases e;cases r1.int;cases r2.int;exact⟨Gj hc,k _ F H rel Đ Đ Ċ.int⟩
  ·cases e
 ·split at e
  ·rename_i hc;cases e;cases r1.str;cases r2.int;exact⟨hc,k _ F H rel Đ Đ Ċ.str⟩
  ·cases e
 ·cases e
variable{E:ć->XK}{a b e:Ç}{pos:Pos}{ma:M PV}
noncomputable def jp:PV->Option PV
 |.int i=>some<|.int<|-i|_=>none
def iZ:X4 K (mU λi=>.int<|-i) jp:=by
 intro c F H d U p pv v Q rel r1 e k;unfold jp at e;split at e
 ·cases e;cases r1.int;exact k _ F H rel Đ Đ Ċ.int
 ·cases e
mutual
def cK:PV->PV->Bool
 |.non,.non=>true|.bl a,.bl b=>a==b|.bl a,.int j=>(if a then 1 else 0)==j|.int i,.bl b=>i==(if b then 1 else 0)|.int i,.int j=>i==j|.str x,.str y=>x==y|.lst xs,.lst ys=>jq xs ys|.tup xs,.tup ys=>jq xs ys|_,_=>false
def jq:List PV->List PV->Bool
 |[],[]=>true|x::xs,y::ys=>cK x y&&jq xs ys|_,_=>false
end
mutual
def ϝ:PV->Bool
 |.non|.bl _|.int _=>true|.str x=>ę x|.lst xs=>cI xs|.tup xs=>cI xs|_=>false
def cI:List PV->Bool
 |[]=>true|x::xs=>ϝ x&&cI xs
end
mutual
def vg:PV->Nat
 |.lst xs=>pk xs+1|.tup xs=>pk xs+1|_=>0
def pk:List PV->Nat
 |[]=>0|x::xs=>max (vg x)<|pk xs
end
mutual
def je:PV->aT
 |.non=>.none|.bl b=>.bool b|.int i=>.int i|.str x=>.str x|.lst xs=>.list<|jr xs|.tup xs=>.tuple<|jr xs|_=>.none
def jr:List PV->List aT
 |[]=>[]|x::xs=>je x::jr xs
end
mutual
theorem kn:∀p:PV,ϝ p=true->(je p).canLay0=true
 |.non,_=>rfl|.bl _,_=>rfl|.int _,_=>rfl|.str x,h=>by unfold ϝ at h;unfold je xU;exact h|.lst xs,h=>by unfold ϝ at h;unfold je xU;exact lq xs h|.tup xs,h=>by unfold ϝ at h;unfold je xU;exact lq xs h|.ins _ _ _,h=>by simp[ϝ]at h|.xc _ _ _,h=>by simp[ϝ]at h|.ty _,h=>by simp[ϝ]at h|.cls _,h=>by simp[ϝ]at h|.E_ _ _,h=>by simp[ϝ]at h
theorem lq:∀ps:List PV,cI ps=true->jZ (jr ps)=true
 |[],_=>rfl|p::ps,h=>by unfold cI at h;rw[ă]at h;unfold jr jZ;rw[kn p h.1,lq ps h.2];rfl
end
mutual
theorem ko:∀p:PV,(je p).depth=vg p
 |.non=>rfl|.bl _=>rfl|.int _=>rfl|.str x=>rfl|.lst xs=>by unfold je PyData.depth vg;rw[um xs]|.tup xs=>by unfold je PyData.depth vg;rw[um xs]|.ins _ _ _=>rfl|.xc _ _ _=>rfl|.ty _=>rfl|.cls _=>rfl|.E_ _ _=>rfl
theorem um:∀ps:List PV,PyData.depthAll (jr ps)=pk ps
 |[]=>rfl|p::ps=>by unfold jr PyData.depthAll pk;rw[ko p,um ps]
end
mutual
theorem yN:∀p q:PV,ϝ p=true->ϝ q=true->ł (je p) (je q)=cK p q
 |.lst xs,.lst ys,h1,h2=>by unfold ϝ at h1 h2;unfold je cK ł;exact yO xs ys h1 h2|.tup xs,.tup ys,h1,h2=>by unfold ϝ at h1 h2;unfold je cK ł;exact yO xs ys h1 h2|.ins _ _ _,_,h,_=>by simp[ϝ]at h|.xc _ _ _,_,h,_=>by simp[ϝ]at h|.ty _,_,h,_=>by simp[ϝ]at h|.cls _,_,h,_=>by simp[ϝ]at h|.E_ _ _,_,h,_=>by simp[ϝ]at h|.non,q,_,h=>by cases q<;>first|rfl|(simp[ϝ]at h)|(simp[je,cK,ł])
 |.bl _,q,_,h=>by cases q<;>first|rfl|(simp[ϝ]at h)|(simp[je,cK,ł])
 |.int _,q,_,h=>by cases q<;>first|rfl|(simp[ϝ]at h)|(simp[je,cK,ł])
 |.str _,q,_,h=>by cases q<;>first|rfl|(simp[ϝ]at h;done)|(simp[je,cK,ł])
 |.lst _,.non,_,_=>by simp[je,cK,ł]|.lst _,.bl _,_,_=>by simp[je,cK,ł]|.lst _,.int _,_,_=>by simp[je,cK,ł]|.lst _,.str _,_,_=>by simp[je,cK,ł]|.lst _,.tup _,_,_=>by simp[je,cK,ł]|.lst _,.ins _ _ _,_,h=>by simp[ϝ]at h|.lst _,.xc _ _ _,_,h=>by simp[ϝ]at h|.lst _,.ty _,_,h=>by simp[ϝ]at h|.lst _,.cls _,_,h=>by simp[ϝ]at h|.lst _,.E_ _ _,_,h=>by simp[ϝ]at h|.tup _,.non,_,_=>by simp[je,cK,ł]|.tup _,.bl _,_,_=>by simp[je,cK,ł]|.tup _,.int _,_,_=>by simp[je,cK,ł]|.tup _,.str _,_,_=>by simp[je,cK,ł]|.tup _,.lst _,_,_=>by simp[je,cK,ł]|.tup _,.ins _ _ _,_,h=>by simp[ϝ]at h|.tup _,.xc _ _ _,_,h=>by simp[ϝ]at h|.tup _,.ty _,_,h=>by simp[ϝ]at h|.tup _,.cls _,_,h=>by simp[ϝ]at h|.tup _,.E_ _ _,_,h=>by simp[ϝ]at h
theorem yO:∀ps qs:List PV,cI ps=true->cI qs=true->oP (jr ps) (jr qs)=jq ps qs
 |[],[],_,_=>by simp[jr,jq,oP]|[],_::_,_,_=>by simp[jr,jq,oP]|_::_,[],_,_=>by simp[jr,jq,oP]|p::ps,q::qs,h1,h2=>by unfold cI at h1 h2;rw[ă]at h1 h2;unfold jr jq oP;rw[yN p q h1.1 h2.1,yO ps qs h1.2 h2.2]
end
mutual
theorem Gk{F:Hp}:∀(p:PV) (v:V),ϝ p=true->Ċ K F p v->Rp K.K F (je p) v
 |.non,_,_,r=>by unfold Ċ at r;unfold je Rp;exact r|.bl _,_,_,r=>by unfold Ċ at r;unfold je Rp;exact r|.int _,_,_,r=>by unfold Ċ at r;unfold je Rp;exact r|.str _,_,_,r=>by unfold Ċ at r;unfold je Rp;exact r|.lst xs,_,h,r=>by unfold ϝ at h;unfold Ċ at r;unfold je Rp;obtain⟨a,vs,h1,h2,h3⟩:=r;exact⟨a,vs,h1,h2,mQ xs vs h h3⟩|.tup xs,_,h,r=>by unfold ϝ at h;unfold Ċ at r;unfold je Rp;obtain⟨a,vs,h1,h2,h3⟩:=r;exact⟨a,vs,h1,h2,mQ xs vs h h3⟩|.ins _ _ _,_,h,_=>by simp[ϝ]at h|.xc _ _ _,_,h,_=>by simp[ϝ]at h|.ty _,_,h,_=>by simp[ϝ]at h|.cls _,_,h,_=>by simp[ϝ]at h|.E_ _ _,_,h,_=>by simp[ϝ]at h
theorem mQ{F:Hp}:∀(ps:List PV) (vs:List V),cI ps=true->é K F ps vs->o_ K.K F (jr ps) vs
 |[],_,_,r=>by unfold é at r;unfold jr o_;exact r|p::ps,_,h,r=>by unfold cI at h;rw[ă]at h;unfold é at r;unfold jr o_;obtain⟨x,t,h1,h2,h3⟩:=r;exact⟨x,t,h1,Gk p x h.1 h2,mQ ps t h.2 h3⟩
end
def mR{b:ć}(s:Ú F H)(h:ϝ p=true)(r:rR K c b U F H p v):Rp K.K H (je p) v:=by
 rcases r with r|r
 ·exact Rp.same s _ _<|Gk p v h r
 ·cases p with
  |lst ps=>obtain⟨a,vs,rfl,h3,h4⟩:=r;unfold ϝ at h;unfold je Rp;exact⟨a,vs,rfl,Ϧ.of h3,o_.same s _ _<|mQ ps vs h h4⟩|ins C ns ps=>simp[ϝ]at h|_=>exact r.elim
noncomputable def rk(p q:PV):Bool:=ϝ p&&ϝ q&&decide (min (vg p) (vg q)<=60)
def Œ(p q:PV):Option PV:=if rk p q=true then some (.bl<|cK p q)else none
def cX(p q:PV):Option PV:=if rk p q=true then some (.bl<|!cK p q)else none
def J7:le K (Ig K.K false) Œ:=by
 intro c F H a U p q pv v u Q rel r1 r2 e k;unfold Œ at e;split at e
 ·rename_i hz;cases e;unfold rk at hz;simp only[ă,decide_eq_true_eq]at hz;refine⟨je p,je q,mR rel.sub hz.1.1 r1,mR rel.sub hz.1.2 r2,kn p hz.1.1,kn q hz.1.2,by rw[ko,ko];exact hz.2,?_⟩;rw[yN p q hz.1.1 hz.1.2];exact k _ F H rel Đ Đ Ċ.bl
 ·cases e
def Gm:le K (Ig K.K true) cX:=by
 intro c F H a U p q pv v u Q rel r1 r2 e k;unfold cX at e;split at e
 ·rename_i hz;cases e;unfold rk at hz;simp only[ă,decide_eq_true_eq]at hz;refine⟨je p,je q,mR rel.sub hz.1.1 r1,mR rel.sub hz.1.2 r2,kn p hz.1.1,kn q hz.1.2,by rw[ko,ko];exact hz.2,?_⟩;rw[yN p q hz.1.1 hz.1.2];exact k _ F H rel Đ Đ Ċ.bl
 ·cases e
noncomputable def pA:PV->Bool
 |.non=>true|_=>false
def pB(p q:PV):Option PV:=match q with
 |.non=>some<|.bl<|pA p|_=>none
def mS(p q:PV):Option PV:=match q with
 |.non=>some<|.bl<|!pA p|_=>none
def C7{b:ć}(r:rR K c b U F H p v):decide (v=.non)=pA p:=by
 rcases r with r|r
 ·cases p<;>unfold Ċ at r<;>first
   |(subst r;rfl)
   |(obtain⟨a,xs,rfl,_⟩:=r;rfl)
   |(obtain⟨a,xs,ys,rfl,_⟩:=r;rfl)
 ·cases p with
  |lst ps=>obtain⟨a,vs,rfl,_⟩:=r;rfl|ins C ns ps=>obtain⟨a,dx,fs,rfl,_⟩:=r;rfl|_=>exact r.elim
def pC:le K (λx y H Q=>y=.non/\Q (.bl<|decide<|x=.non) H) pB:=by
 intro c F H a U p q pv v u Q rel r1 r2 e k;unfold pB at e;split at e
 ·cases e;refine⟨r2.non,?_⟩;rw[C7 r1];exact k _ F H rel Đ Đ Ċ.bl
 ·cases e
def uo:le K (λx y H Q=>y=.non/\Q (.bl<|!decide (x=.non)) H) mS:=by
 intro c F H a U p q pv v u Q rel r1 r2 e k;unfold mS at e;split at e
 ·cases e;refine⟨r2.non,?_⟩;rw[C7 r1];exact k _ F H rel Đ Đ Ċ.bl
 ·cases e
def ã:PV->PV->Option PV
 |.lst ps,.int i=>nr ps i|.tup ps,.int i=>nr ps i|.str z,.int i=>if z.length<=16777216then(nr z.cps.toList i).map λc=>.str ⟨#[c]⟩else none
 |_,_=>none
def C8(r:é K F ps vs)(h:nr ps i=some p):∃v,nr vs i=some v/\Ċ K F p v:=by
 unfold nr at h⊢;rw[r.length]at h;cases e:CL vs.length i with
 |none=>rw[e]at h;cases h|some j=>rw[e]at h;obtain⟨v,h1,h2⟩:=bT r.pr h;exact⟨v,h1,h2⟩
def OT:le K (XZ K.K) ã:=by
 intro c F H b U p q pv v u Q rel r1 r2 e k;unfold ã at e;split at e
 ·obtain⟨a,vs,rfl,h1,h2⟩:=r1.lst rel.sub;cases r2.int;obtain⟨x,h3,h4⟩:=C8 h2 e;exact⟨vs,x,.inl h1,h3,k _ F H rel Đ Đ h4⟩
 ·obtain⟨a,vs,rfl,h1,h2⟩:=r1.tup rel.sub;cases r2.int;obtain⟨x,h3,h4⟩:=C8 h2 e;exact⟨vs,x,.inr h1,h3,k _ F H rel Đ Đ h4⟩
 ·split at e
  ·rename_i z i hz;cases r1.str;cases r2.int;cases ea:nr z.cps.toList i with
   |none=>rw[ea]at e;cases e|some cc=>rw[ea]at e;cases e;exact⟨cc,by rw[Ĩ];exact hz,ea,k _ F H rel Đ Đ Ċ.str⟩
  ·cases e
 ·cases e
@[simp]def nn(U:Ĉ):į (Option Int):=.ok none U
@[simp]def mP(m:M PV)(U:Ĉ):į (Option Int):=(m U).bind fun p U1=>match p with
  |.int i=>.ok (some i) U1|_=>.bad
abbrev tP(K:KK)(E:ć->XK)(m:M (Option Int)):TO:=tG K E rI m
def fB:PO X none (tP (kk X cm) E nn):=λÅ s a H Q I h=>HW Å s a H Q I (by
 obtain⟨c,F,U,rel,h⟩:=h;exact h none F H rel Đ Đ rfl)
def Ű(ha:PE X e (tV (kk X cm) E ma)):PO X (some e) (tP (kk X cm) E<|mP ma):=λÅ s a H Q I h=>FI ha Å s a H Q I (by
 obtain⟨c,F,U,rel,h⟩:=h;refine⟨c,F,U,rel,h.bind λp U1 v F1 H1 ä x x r1 h1=>?_⟩;cases p with
 |int i=>
  have e:v=.int i:=by have tJ:Ċ (kk X cm) F1 (.int i) v:=r1;unfold Ċ at tJ;exact tJ
  subst e;exact h1 (some i) F1 H1 ä Đ Đ rfl
 |_=>exact h1.elim)
def fC{α:Type}(xs:List α)(lo hi:Option Int):List α:=(xs.drop<|HT.mN xs.length 0 lo).take (HT.mN xs.length xs.length hi-HT.mN xs.length 0 lo)
def OU(p:PV)(lo hi:Option Int):Option RV:=match p with
 |.lst ps=>some<|.ow<|fC ps lo hi|.str z=>if z.length<=16777216then some (.sh<|.str<|S<|fC z.cps.toList lo hi)else none|_=>none
@[simp]def tu(ma:M PV)(ml mh:M (Option Int))(U:Ĉ):į RV:=(ma U).bind λp U1=>(ml U1).bind λlo U2=>(mh U2).bind λhi U3=>į.zE (OU p lo hi) U3
def ſ{lo hi:Option Ç}(ha:PE X a (tR (kk X cm) E ma))(hl:PO X lo (tP (kk X cm) E ml))(hh:PO X hi (tP (kk X cm) E mh)):PE X (.Subscript a (.Slice lo hi none p2) pos) (tO (kk X cm) E<|tu ma ml mh):=
 PE.wk (Fw slm ha hl hh) fun b H Q ⟨c,F,U,rel,h⟩=>⟨c,F,U,rel,h.bind fun p U1 v F1 H1 ä _ _ r1 h1=>⟨c,F1,U1,ä,h1.bind fun lo U2 lo' F2 H2 Ě sF sH r2 h2=>⟨c,F2,U2,Ě,h2.bind fun hi U3 JL F3 H3 gX RH X6 r3 h3=>by
   have e2:lo=lo':=r2;have e3:hi=JL:=r3;subst e2 e3;have tJ:rR (kk X cm) c b U3 F3 H3 p v:=r1.mono (sF.trans RH)<|sH.trans X6;cases p with
   |lst ps=>
    obtain⟨a,vs,rfl,q1,q2⟩:=tJ.lst gX.sub;refine⟨vs,q1,λd hd=>?_⟩;have e:é (kk X cm) F3 (fC ps lo hi) (zP vs lo hi):=by unfold fC zP;rw[q2.length];exact é.of<|CY _<|CZ _ q2.pr
    obtain⟨z1,z2⟩:=jm gX hd e;exact h3 _ F3 _ z1 Đ (Ú.upd hd) z2
   |str z=>
    cases tJ.str;unfold OU at h3;dsimp only at h3;split at h3
    ·rename_i hz;exact⟨by rw[Ĩ];exact hz,h3 _ F3 H3 gX Đ Đ<|Ċ.str (K:=kk X cm) (F:=F3)⟩
    ·exact h3.elim
   |_=>exact h3.elim⟩⟩⟩
def vq{a:ć}(h:LQ K c a U F H [p] vs):∃v,vs=[v]/\rR K c a U F H p v:=by
 cases h with
 |cons r t=>cases t;exact⟨_,rfl,r⟩
def RK{a:ć}(h:LQ K c a U F H [p,q] vs):∃v u,vs=[v,u]/\rR K c a U F H p v/\rR K c a U F H q u:=by
 cases h with
 |cons r t=>
  cases t with
  |cons r' t=>cases t;exact⟨_,_,rfl,r,r'⟩
noncomputable def am:List PV->Option PV
 |[.lst ps]=>some<|.int ps.length|[.tup ps]=>some<|.int ps.length|[.str z]=>if z.length<=16777216then some (.int z.length)else none|_=>none
def Ŀ:dX K (LB K.K) am:=by
 intro c F H b U ps pv vs Q rel r e k;unfold am at e;split at e
 ·cases e;obtain⟨v,rfl,r1⟩:=vq r;obtain⟨a,xs,rfl,h1,h2⟩:=r1.lst rel.sub;refine⟨xs,.inl h1,?_⟩;rw[<-h2.length];exact k _ F H rel Đ Đ Ċ.int
 ·cases e;obtain⟨v,rfl,r1⟩:=vq r;obtain⟨a,xs,rfl,h1,h2⟩:=r1.tup rel.sub;refine⟨xs,.inr h1,?_⟩;rw[<-h2.length];exact k _ F H rel Đ Đ Ċ.int
 ·split at e
  ·rename_i hz;cases e;obtain⟨v,rfl,r1⟩:=vq r;cases r1.str;exact⟨by rw[Ĩ];exact hz,k _ F H rel Đ Đ Ċ.int⟩
  ·cases e
 ·cases e
noncomputable def Bk:List PV->Option PV
 |[.int i]=>some<|.int<|if i<0then -i else i|_=>none
def yP:dX K M7 Bk:=by
 intro c F H a U ps pv vs Q rel r e k;unfold Bk at e;split at e
 ·cases e;obtain⟨v,rfl,r1⟩:=vq r;cases r1.int;exact k _ F H rel Đ Đ Ċ.int
 ·cases e
noncomputable def C9:List PV->Option PV
 |[.int i,.int j]=>some<|.int<|if j<i then j else i|_=>none
noncomputable def Db:List PV->Option PV
 |[.int i,.int j]=>some<|.int<|if j>i then j else i|_=>none
def IH:dX K FG C9:=by
 intro c F H a U ps pv vs Q rel r e k;unfold C9 at e;split at e
 ·cases e;obtain⟨v,u,rfl,r1,r2⟩:=RK r;cases r1.int;cases r2.int;exact k _ F H rel Đ Đ Ċ.int
 ·cases e
def II:dX K FH Db:=by
 intro c F H a U ps pv vs Q rel r e k;unfold Db at e;split at e
 ·cases e;obtain⟨v,u,rfl,r1,r2⟩:=RK r;cases r1.int;cases r2.int;exact k _ F H rel Đ Đ Ċ.int
 ·cases e
noncomputable def iE:List PV->Option RV
 |[.lst ps]=>some<|.ow ps|[.tup ps]=>some<|.ow ps|_=>none
def Dc(K:Î):List V->Hp->VK->Prop:=λxs H Q=>∃p ys,xs=[.ref p]/\(Ϧ K H p ys\/gj K H p ys)/\∀l,H l=none->Q (.ref l) (upd H l<|.lst ys)
def dB:Ř X (.type "list") (Dc X.K):=yA
def dC:F0 K (Dc K.K) iE:=by
 intro c F H b U ps pv vs Q rel r e k;unfold iE at e;split at e
 ·cases e;obtain⟨v,rfl,r1⟩:=vq r;obtain⟨a,xs,rfl,h1,h2⟩:=r1.lst rel.sub;refine⟨a,xs,rfl,.inl h1,λl hl=>?_⟩;obtain⟨q1,q2⟩:=jm rel hl h2;exact k _ F _ q1 Đ (Ú.upd hl) q2
 ·cases e;obtain⟨v,rfl,r1⟩:=vq r;obtain⟨a,xs,rfl,h1,h2⟩:=r1.tup rel.sub;refine⟨a,xs,rfl,.inr h1,λl hl=>?_⟩;obtain⟨q1,q2⟩:=jm rel hl h2;exact k _ F _ q1 Đ (Ú.upd hl) q2
 ·cases e
noncomputable def uq:PV->String->Option Bool
 |.int _,"int"=>some true|.int _,"bool"=>some false|.int _,"str"=>some false|.int _,"tuple"=>some false|.int _,"list"=>some false|.bl _,"int"=>some true|.bl _,"bool"=>some true|.lst _,"list"=>some true|.lst _,"tuple"=>some false|.lst _,"int"=>some false|.lst _,"str"=>some false|.tup _,"tuple"=>some true|.tup _,"list"=>some false|.tup _,"int"=>some false|.tup _,"str"=>some false|.str _,"str"=>some true|.str _,"int"=>some false|.str _,"list"=>some false|.str _,"tuple"=>some false|.non,"int"=>some false|.non,"str"=>some false|.non,"tuple"=>some false|.non,"list"=>some false|_,_=>none
end
theorem zZ{K:KK}:∀ns:List Int,é K F (ns.map .int)<|ns.map V.int
 |[]=>é.nil|n::ns=>é.cons Ċ.int<|zZ ns
def OX(K:Î):Sp:=λvs H Q x=>∃(sa:À) (ns:List Int),vs=[.ref sa]/\Ϧ K H sa (ns.map V.int)/\ns.length<=63/\∀v H',v=.bl true->Q v H'
def Gn{l:mL}{k:Nat}{x:Str}{CX:iy}{m:MF}{q:ë}{nI:List Str}{XP:(Str->Option Á)->Ò->Prop}{YP:â->Ò->Prop}{d:DefRec}{K:ii->Î}(hn:l.most=some 63)(M_:d.params.defaults=[])(hr:ő k ij)
 (hY:∀(w:â) (h:Ò),YP w h->(K w.params).In h)
 (F:∀(w:â) (mg:Str→Option Á) (fa:À) (h:Ò),(K w.params).In h→h.Ns ē mg→mg d.name=some (.ref fa)→
   ∃fd:Ć,(∀(s:Ã) (u:Á),fV s fd ⟨[u],[]⟩ [(x,u)])/\∀base:Ò,(K w.params).In base->base.Ns ē mg->∃cm,ϯ l.prog w (K w.params) mg base CX k fa fd [x] (rj ⟨K w.params,cm⟩ 1 m))
 (ht:∀ns:List Int,ns.length<=63->m [.sh<|.lst<|ns.map .int]=.ret (.sh<|.bl true))
 (Oo:∀(H:Hp) (s:Ã) (e:Á) (s':Ã),CX [] H s (λb b b=>False) e s'->False)
 (hnt:lams≠[]->∀w:â,sT (K w.params)=true:=by intro z;exact absurd rfl z)(ET:∀y z,y∈lams->z∈lams->y=z:=by simp[lams])(hrec:∀y,y∈lams->∃d,(sj q).find? (λe=>e.name==y)=some d:=by simp[lams]):
 sS q nI XP YP l.row.toRowW d [] (λf vs=>sv f vs):=by
 refine L2.H0 (n:=63) (k:=k) (x:=x) (CX:=λb=>CX) (sp:=λw=>OX<|K w.params) hn (by decide) M_ hr hY (λw mg fa h h1 h2 h3=>?_) (λw H a ns hl b hS=>⟨a,ns,rfl,hS,hl,λb b z=>z⟩) (λw H s e s' z=>Oo H s e s' z) hnt ET hrec;obtain⟨fd,hb,hF⟩:=F w mg fa h h1 h2 h3;refine⟨fd,hb,λbase k1 k2=>?_⟩;obtain⟨cm,G⟩:=hF base k1 k2;refine G.imp λvs H Q E hs=>?_;obtain⟨sa,ns,rfl,hS,hl,hq⟩:=hs;refine⟨H,[.sh<|.lst<|ns.map .int],rfl,Ú.refl _,.cons ?_ .nil,?_⟩
 ·show Ċ _ _ _ _;unfold Ċ;exact⟨sa,_,rfl,hS,zZ ns⟩
 ·rw[ht ns hl];intro v F' H' g rf;have e:v=.bl true:=uf (K:=⟨K w.params,cm⟩) (F:=F') rf;exact hq v H' e
section
variable{X:Cx}{K:KK}
def RL(K:Î)(H:Hp)(x:V)(t:Á):Prop:=match x with
 |.non=>t=.type "NoneType"|.bl _=>t=.type "bool"|.int _=>t=.type "int"|.str _=>t=.type "str"|.ref a=>(t=.type "list"/\∃xs,Ϧ K H a xs)\/(t=.type "tuple"/\∃xs,gj K H a xs)\/qi K H (.ref a) t|_=>False
def Go(K:Î):List V->Hp->VK->Prop:=λxs H Q=>match xs with
 |[x,.ty n]=>∃t b,RL K H x t/\oS K t (.type n)=some b/\Q (.bl b) H|[x,.ref C]=>∃t b,RL K H x t/\oS K t (.ref C)=some b/\Q (.bl b) H|_=>False
def Dg{d:ć}(I:Inv X Å d H s)(rx:RelV x u)(ty:RL X.K H x t)(e:oS X.K t c=some b)(h:∀tk,Q (.bool b) {s with toks:=tk}):
 Ï (Ø X.prog X.w) A (call (.builtin "isinstance") [u,c]) Q E s:=by
 cases x with
 |non=>cases(show t=_ from ty);exact jh I rx .non e h|bl y=>cases(show t=_ from ty);exact jh I rx (.bl y) e h|int y=>cases(show t=_ from ty);exact jh I rx (.int y) e h|str y=>cases(show t=_ from ty);exact jh I rx (.str y) e h|ref a=>
  cases(show u=Ń a from rx);rcases ty with⟨rfl,xs,hS⟩|⟨rfl,xs,hS⟩|ty
  ·obtain⟨Ē,r,⟨o,n,h1,h2,_⟩,_⟩:=I.list hS;exact bI yf I.nj ⟨o,h1,h2⟩ e (λz=>nomatch z) h
  ·obtain⟨Ē,r,⟨o,h1,h2,_⟩,_⟩:=I.tuple hS;exact bI CA I.nj ⟨o,h1,h2⟩ e (λz=>nomatch z) h
  ·exact jh I rx ty e h
 |_=>exact ty.elim
def yQ:Ř X (.builtin "isinstance") (Go X.K):=by
 intro Å s a H xs us Q I r h;unfold Go at h;split at h
 ·obtain⟨t,b,h1,h2,h3⟩:=h;obtain⟨u,w',rfl,r1,r2⟩:=vals2 r;cases r2;exact Dg I r1 h1 h2 λtk=>⟨.bl b,H,I.tok _,rfl,h3⟩
 ·obtain⟨t,b,h1,h2,h3⟩:=h;obtain⟨u,w',rfl,r1,r2⟩:=vals2 r;cases r2;exact Dg I r1 h1 h2 λtk=>⟨.bl b,H,I.tok _,rfl,h3⟩
 ·exact h.elim
noncomputable def X8:PV->String
 |.non=>"NoneType"|.bl _=>"bool"|.int _=>"int"|.str _=>"str"|.lst _=>"list"|.tup _=>"tuple"|_=>""
def Gp(h:uq p n=some b):oS F (.type<|X8 p) (.type n)=some b:=by
 unfold uq at h;split at h<;>first
  |(cases h;first|rfl|decide+kernel|kernel_rfl)
  |cases h
def IJ(s:Ú F H)(r:rR K c d U F H p v)(h:∃n b,uq p n=some b):RL K.K H v (.type<|X8 p):=by
 obtain⟨n,b,h⟩:=h;cases p with
 |non=>cases r.non;rfl|bl _=>cases r.bl;rfl|int _=>cases r.int;rfl|str _=>cases r.str;rfl|lst ps=>obtain⟨a,vs,rfl,h1,h2⟩:=r.lst s;exact .inl ⟨rfl,vs,h1⟩|tup ps=>obtain⟨a,vs,rfl,h1,h2⟩:=r.tup s;exact .inr<|.inl ⟨rfl,vs,h1⟩|ins _ _ _=>simp[uq]at h|xc _ _ _=>simp[uq]at h|ty _=>simp[uq]at h|cls _=>simp[uq]at h|E_ _ _=>simp[uq]at h
def rl:List PV->Option PV
 |[p,.ty n]=>(uq p n).map .bl|_=>none
set_option tactic.hygienic true in
def yR:dX K (Go K.K) rl:=by
 intro c F H a U ps pv vs Q rel r e k;unfold rl at e;split at e
 ·rename_i p n;obtain⟨v,u,rfl,r1,r2⟩:=RK r;cases r2.ty;cases eb:uq p n with
  |none=>rw[eb]at e;cases e|some b=>rw[eb]at e;cases e;exact⟨_,b,IJ rel.sub r1 ⟨n,b,eb⟩,Gp eb,k _ F H rel Đ Đ Ċ.bl⟩
 ·cases e
noncomputable def qo:List PV->Option PV
 |[.lst ps]=>some<|.tup ps|[.tup ps]=>some<|.tup ps|_=>none
def Gq(K:Î):List V->Hp->VK->Prop:=λxs H Q=>∃p ys,xs=[.ref p]/\((Ϧ K H p ys/\∀l,H l=none->Q (.ref l) (upd H l<|.tup ys))\/(gj K H p ys/\Q (.ref p) H))
def z_:Ř X (.type "tuple") (Gq X.K):=vn
def Aa:dX K (Gq K.K) qo:=by
 intro c F H b U ps pv vs Q rel r e k;unfold qo at e;split at e
 ·cases e;obtain⟨v,rfl,r1⟩:=vq r;obtain⟨a,xs,rfl,h1,h2⟩:=r1.lst rel.sub;refine⟨a,xs,rfl,.inl ⟨h1,λl hl=>k _ _ _ (rel.alloc hl) (Ú.upd<|rel.sub.free hl) (Ú.upd hl) ?_⟩⟩;unfold Ċ;exact⟨l,xs,rfl,gj.of Ā,é.same (Ú.upd<|rel.sub.free hl) _ _ h2⟩
 ·cases e;obtain⟨v,rfl,r1⟩:=vq r;have tJ:=r1;obtain⟨a,xs,rfl,h1,h2⟩:=r1.tup rel.sub;refine⟨a,xs,rfl,.inr ⟨h1,k _ F H rel Đ Đ ?_⟩⟩;rcases tJ with q|q
  ·exact q
  ·exact q.elim
 ·cases e
noncomputable def dR:List PV->Option (List Bool)
 |[]=>some []|.bl b::ps=>(dR ps).map (b::·)|_::_=>none
theorem vV:∀{ps:List PV}{vs:List V}{bs:List Bool},é K F ps vs->dR ps=some bs->vs=bs.map V.bl
 |[],vs,bs,r,h=>by cases h;have r':=r.pr;cases r';rfl|p::ps,vs,bs,r,h=>by
  cases p with
  |bl b=>
   unfold dR at h;cases eb:dR ps with
   |none=>rw[eb]at h;cases h|some cs=>
    rw[eb]at h;cases h;have r':=r.pr;cases r' with
    |cons r1 t=>rw[uf r1,vV (é.of t) eb];rfl
  |_=>simp[dR]at h
def pE:List PV->Option PV
 |[.lst ps]=>(dR ps).map λbs=>.bl<|bs.all id
 |_=>none
set_option tactic.hygienic true in
def nS:dX K (LF K.K) pE:=by
 intro c F H b U ps pv vs Q rel r e k;unfold pE at e;split at e
 ·rename_i ps;obtain⟨v,rfl,r1⟩:=vq r;obtain⟨a,xs,rfl,h1,h2⟩:=r1.lst rel.sub;cases eb:dR ps with
  |none=>rw[eb]at e;cases e|some bs=>rw[eb]at e;cases e;refine⟨bs,by rw[<-vV h2 eb];exact h1,k _ F H rel Đ Đ Ċ.bl⟩
 ·cases e
noncomputable def Dj(_ j:Int):Bool:=decide (0<j)&&decide (j.natAbs<1073741824)
def iF:List PV->Option PV
 |[.int i,.int j]=>if Dj i j=true then some (.tup [.int<|i/j,.int<|i%j])else none|_=>none
def Dk:List V->Hp->VK->Prop:=λxs H Q=>∃i j,xs=[.int i,.int j]/\Oa i j/\∀p,H p=none->Q (.ref p) (upd H p<|.tup [.int<|i/j,.int<|i%j])
def vW:Ř X (.builtin "divmod") Dk:=zN
set_option tactic.hygienic true in
def vY:dX K Dk iF:=by
 intro c F H a U ps pv vs Q rel r e k;unfold iF at e;split at e
 ·split at e
  ·rename_i i j hd;cases e;obtain⟨v,u,rfl,r1,r2⟩:=RK r;cases r1.int;cases r2.int;unfold Dj at hd;simp only[ă,decide_eq_true_eq]at hd;refine⟨i,j,rfl,⟨hd.1,by lia⟩,λl hl=>k _ _ _ (rel.alloc hl) (Ú.upd<|rel.sub.free hl) (Ú.upd hl) ?_⟩;unfold Ċ;exact⟨l,_,rfl,gj.of Ā,é.cons Ċ.int<|é.cons Ċ.int é.nil⟩
  ·cases e
 ·cases e
end
section
variable{α β:Type}{U:Ĉ}{i j n k:Nat}{p q:PV}{ps:List PV}{ma mb:M PV}{a b:M Fl}{ta:M Bool}{f:PV->PV->Option PV}{fo:PV->PV->Option RV}{g:Tg}{gs:E0}
@[simp]theorem Us:(dA:M α) U=.bad:=rfl
@[simp high]theorem g_0{β:Type _}{z:β}{l:List β}:(z::l)[0]?=some z:=rfl
@[simp high]theorem g_s{β:Type _}{z:β}{l:List β}{n:Nat}:(z::l)[n+1]?=l[n]?:=rfl
@[simp high]theorem lq1{β:Type _}{z:β}:[z].length=1:=rfl
@[simp high]theorem lq2{β:Type _}{y z:β}:[y,z].length=2:=rfl
@[simp high]theorem lq3{β:Type _}{x y z:β}:[x,y,z].length=3:=rfl
@[simp high]theorem lq4{β:Type _}{w x y z:β}:[w,x,y,z].length=4:=rfl
@[simp high]theorem lq5{β:Type _}{v w x y z:β}:[v,w,x,y,z].length=5:=rfl
def L0(r:į Fl)(b:M Fl):į Fl:=r.bind λf U1=>match f with|.nx=>b U1|f=>.ok f U1
@[simp]theorem Ut:å a b U=L0 (a U) b:=rfl
@[simp]theorem X9:L0 (.ok .nx U) b=b U:=rfl
@[simp]theorem Ya{r:RV}:L0 (.ok (.rt r) U) b=.ok (.rt r) U:=rfl
@[simp]theorem Yb:L0 (.ok .bk U) b=.ok .bk U:=rfl
@[simp]theorem Yc:L0 (.ok .ct U) b=.ok .ct U:=rfl
@[simp]theorem Uu:L0 .bad b=.bad:=rfl
@[simp]theorem Uv{x:PX}:L0 (.exc x U) b=.exc x U:=rfl
@[simp]theorem Uw:(RV.sh p).val=p:=rfl
@[simp]theorem Ux:(RV.ow ps).val=.lst ps:=rfl
@[simp]theorem Uy:(RV.sh p).slot=.sh p:=rfl
@[simp]theorem Uz:(RV.ow ps).slot=.ow ps:=rfl
def OY{β:Type}(f:PV->PV->Option β)(p:PV)(r:į PV):į β:=r.bind λq U2=>į.zE (f p q) U2
def OZ{β:Type}(f:PV->PV->Option β)(r:į PV)(mb:M PV):į β:=r.bind λp U1=>OY f p<|mb U1
@[simp]theorem UA:Ë f ma mb U=OZ f (ma U) mb:=rfl
@[simp]theorem Yd{β:Type}{f:PV->PV->Option β}{p:PV}:OZ f (.ok p U) mb=OY f p (mb U):=rfl
@[simp]theorem UB{β:Type}{f:PV->PV->Option β}{p q:PV}:OY f p (.ok q U)=į.zE (f p q) U:=rfl
@[simp]theorem UC{β:Type}{f:PV->PV->Option β}:OZ f .bad mb=.bad:=rfl
@[simp]theorem RM{β:Type}{f:PV->PV->Option β}{p:PV}:OY f p .bad=.bad:=rfl
@[simp]theorem UD{β:Type}{f:PV->PV->Option β}{x:PX}:OZ f (.exc x U) mb=.exc x U:=rfl
@[simp]theorem RN{β:Type}{f:PV->PV->Option β}{p:PV}{x:PX}:OY f p (.exc x U)=.exc x U:=rfl
@[simp]theorem RO:ċ fo ma mb U=OZ fo (ma U) mb:=rfl
@[simp]theorem UE:gW ma mb U=(ma U).bind fun p U1=>match p with|.bl b=>if b=true then mb U1 else .ok (.bl false) U1|_=>.bad:=by
  unfold gW;congr
  funext p U1
  cases p with
  |bl b=>cases b<;>rfl|_=>rfl
@[simp]theorem Ye:RE ma mb U=(ma U).bind fun p U1=>match p with|.bl b=>if b=true then .ok (.bl true) U1 else mb U1|_=>.bad:=by
  unfold RE;congr
  funext p U1
  cases p with
  |bl b=>cases b<;>rfl|_=>rfl
def RP{β:Type}(r:į Bool)(x y:M β):į β:=r.bind λb U1=>if b=true then x U1 else y U1
@[simp]theorem Yf{x y:M α}:aZ ta x y U=RP (ta U) x y:=rfl
@[simp]theorem Yg{x y:M α}{b:Bool}:RP (.ok b U) x y=if b=true then x U else y U:=rfl
@[simp]theorem UF{x y:M α}:RP .bad x y=.bad:=rfl
@[simp]theorem UG{x y:M α}{z:PX}:RP (.exc z U) x y=.exc z U:=rfl
@[simp]theorem Yh:ì i U=(match U[i]?with|some (.sh p)=>.ok p U|some (.ow ps)=>.ok (.lst ps) (U.set i<|.sh<|.lst ps)|some (.bn qs rows)=>.ok (.lst (.lst qs::rows)) U|_=>.bad):=rfl
@[simp]theorem Yi:Â i U=(match U[i]?with|some (.sh p)=>.ok p U|some (.ow ps)=>.ok (.lst ps) U|some (.bw ps)=>.ok (.lst ps) U|some (.rc C ns ps)=>.ok (.ins C ns ps) U|some (.bn qs rows)=>.ok (.lst (.lst qs::rows)) U|some (.pw ps)=>.ok (.lst ps) U|_=>.bad):=rfl
@[simp]theorem Yj:bV i U=(match U[i]?with|some (.sh p)=>.ok (.sh p) U|some (.ow ps)=>.ok (.ow ps) (U.set i .no)|_=>.bad):=rfl
@[simp]theorem Gu:gN i p U=some (U.set i<|.sh p):=rfl
@[simp]theorem O_:ř [] U=some U:=rfl
@[simp]theorem Nw:ï g gs (p::ps) U=(g p U).bind λU1=>gs ps U1:=rfl
@[simp]theorem Yk:gT n gs (.tup ps) U=if ps.length=n then gs ps U else none:=rfl
@[simp]theorem UH{lo hi:Option Int}:OU (.lst ps) lo hi=some (.ow<|fC ps lo hi):=rfl
@[simp]theorem L1{mi:M (List PV)}:cW mi g b U=(mi U).bind λitems U1=>Ĵ g b items U1:=rfl
@[simp]theorem UI{Yl:M Fl}{as:List Slot}:Č n k Yl as=if as.length=n then FR.of (Yl<|ĕ k as)else .bad:=rfl
@[simp]theorem UJ{r:RV}:FR.of (.ok (.rt r) U)=.ret r:=rfl
@[simp]theorem UK:FR.of (.ok .nx U)=.ret (.sh .non):=rfl
@[simp]theorem UL{x:PX}:FR.of (.exc x U)=.exc x:=rfl
@[simp]theorem UM:FR.of .bad=.bad:=rfl
@[simp]theorem O0{as:List Slot}:ĕ k as=as++á (k-as.length) .no:=rfl
@[simp]theorem UN:fh (.sh p)=some (.sh p):=rfl
@[simp]theorem UO:fh (.ow ps)=some (.bw ps):=rfl
@[simp]theorem UP{qs rows:List PV}:fh (.bn qs rows)=some (.sh<|.lst (.lst qs::rows)):=rfl
@[simp]theorem UQ:fh (.bw ps)=some (.bw ps):=rfl
@[simp]theorem UR:gY (.sh p)=.sh p:=rfl
@[simp]theorem US:gY (.ow ps)=.bw ps:=rfl
@[simp]theorem UT:gY (.bw ps)=.bw ps:=rfl
@[simp]theorem UU{js:List Nat}{nl:Nat}:iY js nl U=js.map (λ(j:Nat)=>gY<|(U[j]?).getD .no)++á nl .no:=rfl
@[simp]theorem yS:Ķ i U=(match U[i]?with
  |some (.bw ps)=>.ok ps U|some (.sh<|.lst ps)=>.ok ps U|some (.sh<|.tup ps)=>.ok ps U|some (.sh<|.str z)=>.ok (z.cps.toList.map λc=>.str ⟨#[c]⟩) U
  |some (.ow ps)=>.ok ps<|U.set i<|.sh<|.lst ps|_=>.bad):=rfl
@[simp]theorem RQ{x y:Int}:Ă (.int x) (.int y)=some (.sh<|.int<|x+y):=rfl
@[simp]theorem RS{x y:Int}:ŝ (.int x) (.int y)=some (.int<|x-y):=rfl
@[simp]theorem RT{x y:Int}:ď (.int x) (.int y)=if ľ x y=true then some (.int<|x*y)else none:=rfl
@[simp]theorem RU{x y:Int}:dY (.int x) (.int y)=if nv x y=true then some (.int<|x.fdiv y)else none:=rfl
@[simp]theorem RX{x y:Int}:ħ (.int x) (.int y)=if C6 x y=true then some (.int<|x.fmod y)else none:=rfl
@[simp]theorem Do{x y:Int}:vU (.int x) (.int y)=if zY x y=true then some (.int<|x^y.toNat)else none:=rfl
@[simp]theorem RY{x y:Int}:ph (.int x) (.int y)=if gy x y=true then some (.int<|x*2^y.toNat)else none:=rfl
@[simp]theorem RZ{x y:Int}:ll (.int x) (.int y)=if uj x y=true then some (.int<|x/2^y.toNat)else none:=rfl
@[simp]theorem R_{x:Int}:jp (.int x)=some (.int<|-x):=rfl
@[simp]theorem UV{x y:Int}:lm (.int x) (.int y)=some (.bl<|decide<|x<y):=rfl
@[simp]theorem UW{x y:Int}:fi (.int x) (.int y)=some (.bl<|decide<|x<=y):=rfl
@[simp]theorem UX{x y:Int}:Gg (.int x) (.int y)=some (.bl<|decide<|y<x):=rfl
@[simp]theorem UY{x y:Int}:IG (.int x) (.int y)=some (.bl<|decide<|y<=x):=rfl
@[simp]theorem UZ{x y:Int}:Œ (.int x) (.int y)=some (.bl<|decide<|x=y):=by
  have h:cK (.int x) (.int y)=decide (x=y):=by rw[cK.eq_def];rfl
  rw[<-h];rfl
@[simp]theorem U_{x y:Int}:cX (.int x) (.int y)=some (.bl<|!decide (x=y)):=by
  have h:cK (.int x) (.int y)=decide (x=y):=by rw[cK.eq_def];rfl
  rw[<-h];rfl
@[simp]theorem Qqq0{x y:Bool}:Œ (.bl x) (.bl y)=some (.bl<|x==y):=rfl
@[simp]theorem Qqq1{x y:Bool}:cX (.bl x) (.bl y)=some (.bl<|!(x==y)):=rfl
@[simp]theorem Qqq2{p:PV}:pB p .non=some (.bl<|pA p):=rfl
@[simp]theorem R0{p:PV}:mS p .non=some (.bl<|!pA p):=rfl
@[simp]theorem Bl{x:Int}:ã (.lst ps) (.int x)=nr ps x:=rfl
@[simp]theorem Qqq3{x:Int}:ã (.tup ps) (.int x)=nr ps x:=rfl
@[simp]theorem yU:am [.lst ps]=some (.int ps.length):=rfl
@[simp]theorem R5:am [.tup ps]=some (.int ps.length):=rfl
@[simp]theorem Qqq4{x:Int}:Bk [.int x]=some (.int<|if x<0then -x else x):=rfl
@[simp]theorem Qqq5{x y:Int}:C9 [.int x,.int y]=some (.int<|if y<x then y else x):=rfl
@[simp]theorem Qqq6{x y:Int}:Db [.int x,.int y]=some (.int<|if y>x then y else x):=rfl
@[simp]theorem O3:iE [.lst ps]=some (.ow ps):=rfl
@[simp]theorem O4:iE [.tup ps]=some (.ow ps):=rfl
@[simp]theorem R6:qo [.lst ps]=some (.tup ps):=rfl
@[simp]theorem R7:qo [.tup ps]=some (.tup ps):=rfl
@[simp]theorem Qqq7{t:String}:rl [p,.ty t]=(uq p t).map .bl:=rfl
@[simp]theorem R8{x:Bool}:Nt (.bl x)=some x:=rfl
@[simp]theorem R9{x:Int}:Nt (.int x)=some (x !=0):=rfl
@[simp]theorem Sa:Nt (.lst ps)=some (!ps.isEmpty):=rfl
@[simp]theorem Ab(xs:List α)(n:Nat):nr xs (n:Int)=xs[n]?:=by
  unfold nr CL;rw[if_pos<|by lia];by_cases h:n<xs.length
  ·rw[if_pos<|by lia];simp
  ·rw[if_neg<|by lia];simp;lia
@[simp]theorem Sb(xs:List α)(n:Nat):nr xs (no_index (Ż n):Int)=xs[(no_index (Ż n):Nat)]?:=Ab xs n
@[simp]theorem Nx{x y:Int}:C6 x y=decide (y≠0):=rfl
end
def ό(h1: -(2^64)<x)(h2:x<2^64):ľ x y=true:=by unfold ľ;rw[decide_eq_true (by lia:x.natAbs<18446744073709551616)];rfl
def Kv(h1: -(2^64)<y)(h2:y<2^64):ľ x y=true:=by unfold ľ;rw[decide_eq_true (by lia:y.natAbs<18446744073709551616)];simp
def O5(h1:bits x<=1048576)(h2:bits y<=1048576):ľ x y=true:=by unfold ľ;simp[h1,h2]
def Dp(h1:y≠0)(h2:bits y<=8000):nv x y=true:=by unfold nv;simp[h1,h2]
section
variable{g:Tg}{mb:M Fl}{mc mt:M Bool}{me:M PV}{items:List PV}{U:Ĉ}
def Ac(I:Nat->Ĉ->Prop)(R:į Fl->Prop)(h0:I 0 U)
 (hs:∀i p U,items[i]?=some p->I i U->∃U1,g p U=some U1/\((∃U2,(mb U1=.ok .nx U2\/mb U1=.ok .ct U2)/\I (i+1) U2)\/(∃r U2,mb U1=.ok (.rt r) U2/\R (.ok (.rt r) U2))\/(∃U2,mb U1=.ok .bk U2/\R (.ok .nx U2))\/∃x U2,mb U1=.exc x U2/\R (.exc x U2)))
 (hd:∀U,I items.length U->R (.ok .nx U)):R (Ĵ g mb items U):=by
 induction items generalizing U I with
 |nil=>exact hd U h0|cons p ps ih=>
  obtain⟨U1,e1,h⟩:=hs 0 p U rfl h0;unfold Ĵ;rw[e1];dsimp only;rcases h with⟨U2,e2,h2⟩|⟨r,U2,e2,h2⟩|⟨U2,e2,h2⟩|⟨x,U2,e2,h2⟩
  ·have go:R (Ĵ g mb ps U2):=ih (λi=>I<|i+1) h2 (λi q U e hi=>hs (i+1) q U (by simpa using e) hi) (λU h=>hd U<|by simpa using h);rcases e2 with e2|e2
   ·rw[e2];exact go
   ·rw[e2];exact go
  ·rw[e2];exact h2
  ·rw[e2];exact h2
  ·rw[e2];exact h2
def Ad(I:Nat->Ĉ->Prop)(h0:I 0 U)(hs:∀i p U,items[i]?=some p->I i U->∃U1 U2,g p U=some U1/\mb U1=.ok .nx U2/\I (i+1) U2):∃U',Ĵ g mb items U=.ok .nx U'/\I items.length U':=
 Ac I (λr=>∃U',r=.ok .nx U'/\I items.length U') h0 (λi p U e hi=>by obtain⟨U1,U2,h1,h2,h3⟩:=hs i p U e hi;exact⟨U1,h1,.inl ⟨U2,.inl h2,h3⟩⟩) λU h=>⟨U,rfl,h⟩
theorem đ{α:Type}(c f:α->PV)(I:Ĉ->Prop):∀(xs:List α) (U:Ĉ) (acc:List PV),I U->acc.length+xs.length<=16777216->
 (∀x∈xs,∀U,I U->∃U1 U2 U3,g (c x) U=some U1/\mt U1=.ok true U2/\me U2=.ok (f x) U3/\I U3)->ī g mt me (xs.map c) U acc=some (acc++xs.map f)
 |[],U,acc,_,_,_=>by simp[ī]|x::xs,U,acc,h,hz,hs=>by obtain⟨U1,U2,U3,h1,h2,h3,h4⟩:=hs x Ş U h;rw[à,ī,h1];dsimp only;rw[h2];dsimp only;rw[h3];dsimp only;rw[if_pos (by simp at hz;lia),đ c f I xs U3 (acc++[f x]) h4 (by simp at hz⊢;lia) λy hy=>hs y<|þ _ hy];simp
def Bm{β:Type}(st:β->Ĉ)(I:β->Prop)(μ:β->Nat)(hs:∀b,I b->mc (st b)=.ok false (st b)\/(mc (st b)=.ok true (st b)/\∃b',mb (st b)=.ok .nx (st b')/\I b'/\μ b'<μ b)){b:β}(h0:I b):
 ∃b',aH mc mb (st b)=.ok .nx (st b')/\I b'/\mc (st b')=.ok false (st b'):=by
 have go:∀n b,μ b<=n->I b->∃b',aH mc mb (st b)=.ok .nx (st b')/\I b'/\mc (st b')=.ok false (st b'):=by
  intro n
  induction n with
  |zero=>
   intro b hn hi;rcases hs b hi with e|⟨e,b',_,_,hl⟩
   ·exact⟨b,by rw[cQ,e];rfl,hi,e⟩
   ·lia
  |succ n ih=>
   intro b hn hi;rcases hs b hi with e|⟨e,b',e2,JL,hl⟩
   ·exact⟨b,by rw[cQ,e];rfl,hi,e⟩
   ·obtain⟨b2,q1,q2⟩:=ih b' (by lia) JL;refine⟨b2,?_,q2⟩;rw[cQ,e];simp only[į.bK,if_true,e2];exact q1
 exact go (μ b) b (ö _) h0
end
def Bn(Q:String->Prop):List String->Prop
 |[]=>True|c::cs=>Q c/\Bn Q cs
theorem Bn.get:∀{cs:List String}{C:String},Bn Q cs->cs.contains C=true->Q C
 |[],_,_,h=>by simp at h|c::cs,C,⟨h1,h2⟩,h=>by
  by_cases e:C=c
  ·rw[e];exact h1
  ·refine h2.get ?_;rw[xl]at h;have:(C==c)=false:=by simpa using e
   rw[this,wT]at h;exact h
section
variable{X:Cx}{cm:String->À}{K:KK}{E:ć->XK}{a b e o:Ç}{es:List Ç}{pos aI:Pos}{m mb:M PV}{f:Str}
set_option tactic.hygienic true in
theorem ur:∀{fs:List (Str×V)}{ps:List PV}{p:PV},é K F ps (fs.map (·.2))->((fs.map (·.1)).zip ps).lookup f=some p->∃v,fs.lookup f=some v/\Ċ K F p v
 |[],ps,p,_,h=>by simp at h|(g,v)::fs,ps,p,r,h=>by
  have r':=r.pr;rw[à]at r';cases r' with
  |cons r1 t=>
   rename_i q qs;rw[à,List.zip_cons_cons,ş]at h;rw[ş];cases hg:f==g with
   |true=>simp only[hg]at h;cases h;exact⟨v,rfl,r1⟩|false=>simp only[hg]at h;exact ur (é.of t) h
theorem rR.ins(s:Ú F H)(h:rR K c d U F H (.ins C ns ps) v):∃a dx fs,v=.ref a/\H a=some (.ins (K.cm C) dx fs)/\fs.map (·.1)=ns/\é K F ps (fs.map (·.2)):=by
 rcases h with h|h
 ·unfold Ċ at h;obtain⟨a,dx,fs,h1,h2,h3,h4⟩:=h;exact⟨a,dx,fs,h1,s _ _ h2,h3,h4⟩
 ·exact h
noncomputable def Ś(cs:List String)(f:Str):PV->Option PV
 |.ins C ns ps=>if cs.contains C=true then(ns.zip ps).lookup f else none|_=>none
def O6(cs:List String)(Ng:Bn (λC=>zu X.K (cm C)/\fw X.K (cm C) f) cs)(he:PE X e (tR (kk X cm) E m))(hb:eN e f X.env (eval e X.env)=eval e X.env:=by kernel_rfl):PE X (.Attribute e f pos) (tV (kk X cm) E<|fA (Ś cs f) m):=
 PE.wk (Li he hb) fun d H Q ⟨c,F,U,rel,h⟩=>⟨c,F,U,rel,h.bind fun p U1 v F1 H1 ä _ _ r1 h1=>by
   cases p with
   |ins C ns ps=>
    unfold Ś at h1;dsimp only at h1;split at h1
    ·rename_i hc;obtain⟨a,dx,fs,rfl,q2,q3,q4⟩:=r1.ins ä.sub;cases el:(ns.zip ps).lookup f with
     |none=>rw[el]at h1;exact h1.elim|some q=>rw[el]at h1;subst q3;obtain⟨v,e1,e2⟩:=ur q4 el;obtain⟨k1,k2⟩:=Ng.get hc;exact⟨a,_,dx,fs,v,rfl,q2,k1,k2,e1,h1 v F1 H1 ä Đ Đ e2⟩
    ·exact h1.elim
   |_=>exact h1.elim⟩
def qr(X:Cx)(cm:String->À)(CX:iy)(k n:Nat)(m:Str)(C:String)(mf:MF):Prop:=zu X.K (cm C)/\∃f fd ps,zw X.K (cm C) m f/\ϯ X.prog X.w X.K X.mg X.base CX k f fd ps (rj (kk X cm) n mf)/\Binds X.K fd ps []/\
 ∀{ps:List Slot},(∃r,mf ps=r/\∀z,r=z->z≠.bad)->ps.length=n
def ut(Q:String->MF->Prop):List (String×MF)->Prop
 |[]=>True|(c,mf)::cs=>Q c mf/\ut Q cs
theorem ut.get:∀{cs:List (String×MF)}{C:String}{mf:MF},ut Q cs->cs.lookup C=some mf->Q C mf
 |[],_,_,_,h=>by simp at h|(c,g)::cs,C,mf,⟨h1,h2⟩,h=>by
  rw[ş]at h;cases hc:C==c with
  |true=>
   rw[hc]at h;cases h;have:C=c:=by simpa using hc
   rw[this];exact h1
  |false=>rw[hc]at h;exact h2.get h
def kH(m:Str)(ai:List (String×MF))(mo:M PV)(ms:M (List Slot)):M RV:=λU=>(mo U).bind λp U1=>match p with
 |.ins C ns ps=>match ai.lookup C with
   |some mf=>if ns.contains m=true then .bad else(ms U1).bind λas U2=>match mf (.sh (.ins C ns ps)::as)with
    |.ret r=>.ok r U2|.exc x=>.exc x U2|.bad=>.bad
   |none=>.bad
 |_=>.bad
theorem qt{m:Str}:∀{fs:List (Str×V)},(fs.map (·.1)).contains m=false->fs.lookup m=none
 |[],_=>rfl|(g,v)::fs,h=>by rw[à,xl,Bool.or_eq_false_iff]at h;rw[ş,h.1];exact qt h.2
variable{CX:iy}{k n:Nat}{mT:Str}{ai:List (String×MF)}{ms:M (List Slot)}
def Ae{Q:VK}(rel:Ĕ (kk X cm) c F H d U)(h:ak (kk X cm) E (rO<|kk X cm) c F H d Q (kH mT ai m ms U))(nU:ut (λC mf=>qr X cm CX k n mT C mf) ai):
 ak (kk X cm) E (rV<|kk X cm) c F H d (λx H1=>∃a C dx fs g fd ps mf,x=.ref a/\H1 a=some (.ins C dx fs)/\zu X.K C/\zw X.K C mT g/\fs.lookup mT=none/\ϯ X.prog X.w X.K X.mg X.base CX k g fd ps (rj (kk X cm) n mf)/\Binds X.K fd ps []/\
  tA (kk X cm) E ms d H1 λvs H2=>rj (kk X cm) n mf (.ref a::vs) H2 Q<|E d) (m U):=
 ak.bind h λp U1 v F1 H1 ä y y r1 h1=>by
  cases p with
  |ins C ns ps=>
   dsimp only at h1;cases el:ai.lookup C with
   |none=>rw[el]at h1;exact h1.elim|some mf=>
    rw[el]at h1;dsimp only at h1;split at h1
    ·exact h1.elim
    ·rename_i hn;obtain⟨k1,f,fd,qs,k2,k3,k4,k5⟩:=nU.get el;have tJ:Ċ (kk X cm) F1 (.ins C ns ps) v:=r1;have r2:=tJ;unfold Ċ at r2;obtain⟨a,dx,fs,rfl,q2,q3,q4⟩:=r2;refine⟨a,_,dx,fs,f,fd,qs,mf,rfl,ä.sub _ _ q2,k1,k2,qt (by rw[q3];simpa using hn),k3,k4,c,F1,U1,ä,ak.bind h1 λas U2 vs F2 H2 Ě sF sH r3 h3=>?_⟩;exact uh (vs:=.ref a::vs) k5 Ě (.cons (show du _ _ _ (.sh _) _ from Ċ.same sF _ _ tJ) r3) h3
  |_=>exact h1.elim
def L4{pl:Sem Bool}(nU:ut (λC mf=>qr X cm CX k n mT C mf) ai)(hr:ő k X.A)(hx:a_ CX X E)(he:PE X o (tV (kk X cm) E m))(ha:PA X (e::es) (tA (kk X cm) E ms))
 (jN:Ð (e::es) X.env=(false,eval e X.env)::Ð es X.env:=by exact Ĺ rfl)(hpl:(ÿ pos<|Ð es X.env).any (·.1)=false:=by kernel_rfl)
 (ht:eval (.Call (.Attribute o mT aI) (e::es) [] pos) X.env=(do
   let ov<-eval o X.env
   de aI.atName
   let (f,first)<-ϖ [ov] (ib ov mT pl)
   eO pos f first (ÿ pos<|Ð (e::es) X.env) (aR pos<|aS [] X.env)):=by rfl):
 PE X (.Call (.Attribute o mT aI) (e::es) [] pos) (tO (kk X cm) E<|kH mT ai m ms):=by
 rintro Å s d H Q I ⟨c,F,U,rel,h⟩;refine yi (pl:=pl) (ώ (he Å s d H _ I ⟨c,F,U,rel,Ae rel h nU⟩) λu s1 zz=>?_) ht;obtain⟨x,H1,I1,rx,a,C,dx,fs,g,fd,ps,mf,ex,ea,cl,k2,l,k3,k4,q⟩:=zz;subst ex;obtain rfl:u=Ń a:=rx;refine nJ I1 ea cl k2 l ?_;refine ka (first:=[.ref a]) (h₀:=X.base) I.ok.mod.Hq k2.kp (ώ (ha pos Å s1 d H1 _ I1 q) λus s2 ⟨vs,H2,I2,r,q2⟩=>⟨I2.nj,?_⟩) jN hpl;exact mO (us:=.ref a::us) (vs:=.ref a::vs) k3 hr k4 hx I2 (.cons rfl r) q2
def IK{pl:Sem Bool}(nU:ut (λC mf=>qr X cm CX k n mT C mf) ai)(hr:ő k X.A)(hx:a_ CX X E)(he:PE X o (tV (kk X cm) E m))
 (ht:eval (.Call (.Attribute o mT aI) [] [] pos) X.env=(do
   let ov<-eval o X.env
   de aI.atName
   let (f,first)<-ϖ [ov] (ib ov mT pl)
   eO pos f first (ÿ pos<|Ð [] X.env) (aR pos<|aS [] X.env)):=by rfl):
 PE X (.Call (.Attribute o mT aI) [] [] pos) (tO (kk X cm) E<|kH mT ai m Ö):=by
 rintro Å s d H Q I ⟨c,F,U,rel,h⟩;refine yi (pl:=pl) (ώ (he Å s d H _ I ⟨c,F,U,rel,Ae rel h nU⟩) λu s1 zz=>?_) ht;obtain⟨x,H1,I1,rx,a,C,dx,fs,g,fd,ps,mf,ex,ea,cl,k2,l,k3,k4,q⟩:=zz;subst ex;obtain rfl:u=Ń a:=rx;refine nJ I1 ea cl k2 l ?_;obtain⟨c1,F1,U1,ä,q⟩:=q;exact PySem.W.callWith_K0 (first:=[.ref a]) I1.nj k2.kp<|mO (us:=[.ref a]) (vs:=[.ref a]) k3 hr k4 hx I1 (.cons rfl .nil)<|q [] F1 H1 ä Đ Đ .nil
noncomputable def putN(f:Str):List Str->List Str
 |[]=>[f]|g::r=>if g=f then g::r else g::putN f r
noncomputable def yV(f:Str)(p:PV):List Str->List PV->List PV
 |[],_=>[p]|g::r,q::qs=>if g=f then p::qs else q::yV f p r qs|_::_,[]=>[]
set_option tactic.hygienic true in
theorem Dr(ry:Ċ K F p y):∀{fs:List (Str×V)}{ps:List PV},é K F ps (fs.map (·.2))->(kh f y fs).map (·.1)=putN f (fs.map (·.1))/\é K F (yV f p (fs.map (·.1)) ps) ((kh f y fs).map (·.2))
 |[],ps,r=>⟨rfl,é.cons ry é.nil⟩|(g,v)::fs,ps,r=>by
  have r':=r.pr;rw[à]at r';cases r' with
  |cons r1 t=>
   rename_i q qs;unfold kh;rw[à];unfold putN yV;by_cases hg:g=f
   ·rw[if_pos hg,if_pos hg,if_pos hg];exact⟨rfl,é.cons ry<|é.of t⟩
   ·rw[if_neg hg,if_neg hg,if_neg hg];obtain⟨h1,h2⟩:=Dr ry<|é.of t;exact⟨by rw[à,h1],é.cons r1 h2⟩
@[simp]def fH(i:Nat)(cs:List String)(f:Str)(mv:M PV)(U:Ĉ):į Fl:=(mv U).bind fun p U1=>match U1[i]?with
  |some (.rc C ns ps)=>if cs.contains C=true/\ns.length<1000then .ok .nx (U1.set i<|.rc C (putN f ns)<|yV f p ns ps)else .bad|_=>.bad
def L5{i:Nat}{x:Str}{px bh:Pos}(cs:List String)(Ng:Bn (λC=>zu X.K (cm C)/\fw X.K (cm C) f) cs)(ho:PE X (.Name x px) (iS i))(he:PE X e (tV (kk X cm) E m))(hs:Ŗ e (some<|.Attribute (.Name x px) f bh) pos.line X.env=î false:=by kernel_rfl):
 PS X (.Assign [.Attribute (.Name x px) f bh] e pos) (tS (kk X cm) E<|fH i cs f m):=PS.wk (Lj ho he hs) λD d H ⟨c,F,U,rel,h⟩=>⟨c,F,U,rel,ϊ.bind h λp U1 y F1 H1 ä s1 ry h1=>by
 cases e1:U1[i]?with
 |none=>rw[e1]at h1;exact h1.elim|some sl=>
  rw[e1]at h1;cases sl with
  |rc C ns ps=>
   dsimp only at h1;split at h1
   ·rename_i hc;obtain⟨a,dx,fs,q1,q2,q3,q4,q5,q6,q7⟩:=ä.slot i _ e1;subst q5;obtain⟨k1,k2⟩:=Ng.get hc.1;refine⟨.ref a,ŀ q1,a,_,dx,fs,rfl,q2,k1,k2,by simpa using hc.2,?_⟩;obtain⟨z1,z2⟩:=Dr (f:=f) (p:=p) ry q6;exact h1 d F1 _ (ä.write ⟨_,_,e1,ŀ q1,rfl⟩ (ŀ q1) ⟨a,dx,_,rfl,Ā,q3,q4,z1,z2,q7⟩ λu z=>(V.ref.inj z).symm) Đ
   ·exact h1.elim
  |_=>exact h1.elim⟩
inductive IR where
 |ok (ns:List Str) (ps:List PV)|exc (x:PX)|bad
abbrev MI:=List Slot->IR
noncomputable def IR.of:į Fl->IR
 |.ok .nx (.rc _ ns ps::_)=>.ok ns ps|.exc x _=>.exc x|_=>.bad
def dE(n k:Nat)(C:String)(mb:M Fl):MI:=λas=>if as.length+1=n then IR.of (mb (.rc C [] []::ĕ (k-1) as))else .bad
structure O7(a:À)(F H F' H':Hp):Prop where
 h:∀b u,b≠a->H b=some u->H' b=some u
 f:Ú F F'
 sub:Ú F' H'
 out:∀b,b≠a->H b≠none->F b=none->F' b=none
def Qqq8(K:KK)(E:XK)(F H:Hp)(Q:VK)(a dx:À)(C:String):IR->Prop
 |.ok ns ps=>∀F' H' fs,O7 a F H F' H'->H' a=some (.ins (K.cm C) dx fs)->F' a=none->fs.map (·.1)=ns->é K F' ps (fs.map (·.2))->Q .non H'|.exc x=>∀C' d F' H',O7 a F H F' H'->yJ K F' x C' d->E C' d H'|.bad=>False
def IL(K:KK)(n:Nat)(C:String)(mi:MI):Sp:=λvs H Q E=>∃F a dx gU as,vs=.ref a::gU/\as.length+1=n/\H a=some (.ins (K.cm C) dx [])/\F a=none/\Ú F H/\Paired (du K F H) as gU/\Qqq8 K E F H Q a dx C (mi as)
def IM(a dx:À)(C:String)(F H:Hp):Ctx:=⟨λb=>if b=a then none else H b,F,λb=>if b=a then none else(cn F H).L b,λa' Qqq9 C'=>a'=a/\Qqq9=dx/\C'=C⟩
def Ĕ.Ym{a dx:À}(r:Ĕ K (IM a dx C F H) F' H' c U):O7 a F H F' H':=
 ⟨λb u hb e=>r.base b u (by show(if b=a then none else H b)=_;rw[if_neg hb];exact e),r.f0,r.sub,λb hb h1 h2=>r.fg b (by show(if b=a then none else H b)≠none;rw[if_neg hb];exact h1) h2⟩
def Ĕ.L6{a dx:À}(s:Ú F H)(ha:H a=some (.ins (K.cm C) dx []))(hF:F a=none)(h:Paired (du K F H) as vs):
 Ĕ K (IM a dx C F H) F H (L2.start N (.ref a::vs)) (.rc C [] []::ĕ (N.length-1) as):=by
 have r0:=Ĕ.start (N:=N) (K:=K) s (as:=.sh (.int 0)::as) (vs:=.int 0::vs)<|.cons (Ċ.int (K:=K) (F:=F) (i:=0)) h;have Q0:L2.start N (.ref a::vs)=some (.ref a)::(L2.start N (.int 0::vs)).tail:=by unfold L2.start;simp
 have Va:(L2.start N (V.int 0::vs)).tail.length=(ĕ (N.length-1) as).length:=by unfold L2.start ĕ;simp[Paired.length h];lia
 have tl:∀i:Nat,(L2.start N (.int 0::vs)).tail[i]?=(L2.start N (.int 0::vs))[i+1]?:=λi=>by simp
 have sp:∀i:Nat,(ĕ (N.length-1) as)[i]?=(ĕ N.length (.sh (.int 0)::as))[i+1]?:=λi=>by unfold ĕ;simp only[eE,rS,ĝ];rw[show N.length-1-as.length=N.length-(as.length+1) by lia]
 have qN:∀(i:Nat) (s':Slot),(ĕ (N.length-1) as)[i]?=some s'->s'.own=false:=λi s' e=>by
  unfold ĕ at e;by_cases hi:i<as.length
  ·rw[ϧ hi]at e;obtain⟨v,_,h3⟩:=bT h e;exact(du.slot h3).2
  ·rw[cr (by lia),hU]at e;split at e
   ·cases e;rfl
   ·cases e
 rw[Q0];refine⟨s,λb u e=>?_,Ú.refl _,λw w z=>z,λb u e=>?_,λb e=>?_,?_,λi s' e=>?_,λi j b h1 h2=>?_⟩
 ·have e':(if b=a then none else H b)=some u:=e;split at e'
  ·cases e'
  ·exact e'
 ·have e':(if b=a then none else(cn F H).L b)=some u:=e;split at e'
  ·cases e'
  ·exact ϰ e'
 ·show(if b=a then none else(cn F H).L b)=none;have e':(if b=a then none else H b)=none:=e;split
  ·rfl
  ·rename_i hb;rw[if_neg hb]at e';exact r0.lb b e'
 ·simp[Va]
 ·cases i with
  |zero=>cases e;exact⟨a,dx,[],rfl,ha,hF,by show(if a=a then none else H a)=none;rw[if_pos rfl],rfl,é.nil,rfl,rfl,rfl⟩|succ i=>
   have e':(ĕ (N.length-1) as)[i]?=some s':=by simpa using e
   have q:=r0.slot (i+1) s' (by rw[<-sp];exact e');rw[<-tl]at q;show ū K (IM a dx C F H) F H (((some (V.ref a)::(L2.start N (.int 0::vs)).tail)[i+1]?).getD none) s';rw[rS];cases s' with
   |no=>trivial|sh p=>exact q|bw ps=>obtain⟨b,ws,q1,q2,q3⟩:=q;refine⟨b,ws,q1,?_,q3⟩;show(if b=a then none else(cn F H).L b)=_;rw[if_neg (λz=>by have:=(ϰ q2).1;rw[z,ha]at this;cases this)];exact q2
   |ow ps=>have:=qN i _ e';cases this|rc C ns ps=>have:=qN i _ e';cases this|ot ps qs rs=>have:=qN i _ e';cases this|ol nO=>have:=qN i _ e';cases this|fr nO=>have:=qN i _ e';cases this|pw ps=>have:=qN i _ e';cases this|pin=>have:=qN i _ e';cases this|dw gv=>
    obtain⟨b,ts,q1,q2,q3⟩:=q;have lt:∀{x:À}{u:HO},(cn F H).L x=some u->(∀o,u=.ins (K.cm C) dx o->False)->(if x=a then none else(cn F H).L x)=some u:=fun{x u} e1 e2=>by rw[if_neg (λz=>by have:=(ϰ e1).1;rw[z,ha]at this;cases this;exact e2 _ rfl)];exact e1
    exact⟨b,ts,q1,lt q2 (λw z=>by cases z),iA q3 λt d w ⟨xs,y,vs,k1,k2,k3,k4⟩=>⟨xs,y,vs,k1,k2,lt k3 (λw z=>by cases z),k4⟩⟩
   |bn qs rows=>
    obtain⟨v,q1,q2⟩:=q;refine⟨v,q1,q2.base λb u z=>?_⟩;have z':(if b=a then none else H b)=some u:=z;split at z'
    ·cases z'
    ·exact z'
 ·have Kw:∀{i},ĵ F (some (.ref a)::(L2.start N (.int 0::vs)).tail) (Slot.rc C [] []::ĕ (N.length-1) as) i b→i=0:=fun{i} ⟨s',y,q1,_,q2⟩=>by
   have q2:=iV q2;cases i with
   |zero=>rfl|succ i=>have:=qN i s' (by simpa using q1);rw[this]at q2;cases q2
  rw[Kw h1,Kw h2]
end
section
variable{P:ë}{w:â}{K:Î}{cm:String->À}{mg:Str->Option Á}{base:Ò}{CX:iy}
def fnI{st:è}(F:El K x qual st f fd)(S:ĸ N ps (ç st))(hn:ps.length=n)(hj:N.length=j)(hf:mi=dE n j C mb)
 (fv:∀(cdv:Á) (A:ê) (outer:List Env) (s:Ã) (H:Hp) (E:XK),ő k (A.deeper<|ŕ qual (ç st) s.heap.objs.size f cdv)→
   bC (nK CX P w K mg base N qual (ç st) f cdv A outer s H E) (ğ st) (tS ⟨K,cm⟩ (λy=>E) mb)):ϯ P w K mg base CX (k+1) f fd ps (IL ⟨K,cm⟩ n C mi):=by
 subst hn hj hf;obtain⟨oc,od,kV,doc,pm,an,cdv,ct,zx,rfl,lk,wM⟩:=F.ex;refine vI lk wM S (λvs H Q E ⟨F,a,dx,gU,as,h1,h2,_,_,_,h3,_⟩=>by rw[h1,ĝ,<-Paired.length h3];exact h2) λA outer s H vs Q E hr zI=>?_;obtain⟨F,a,dx,gU,as,rfl,h2,h3,h4,h5,h6,h7⟩:=zI;refine⟨_,fv cdv A outer s H E hr,IM a dx C F H,F,_,Ĕ.L6 h5 h3 h4 h6,?_⟩;unfold dE at h7;rw[if_pos h2]at h7;cases e:mb (.rc C [] []::ĕ (N.length-1) as)with
 |bad=>rw[e]at h7;exact h7|exc x U'=>rw[e]at h7;exact λc C' d F' H' rel s1 q=>h7 C' d F' H' rel.Ym q
 |ok fl U'=>
  rw[e]at h7;cases fl with
  |nx=>
   cases U' with
   |nil=>exact h7.elim|cons sl U'=>
    cases sl with
    |rc C' ns qs=>intro c F' H' rel s1;obtain⟨b,dy,fs,q1,q2,q3,q4,q5,q6,rfl,rfl,rfl⟩:=rel.slot 0 _ rfl;exact h7 F' H' fs rel.Ym q2 q3 q5 q6|_=>exact h7.elim
  |bk=>exact h7.elim|ct=>exact h7.elim|rt r=>exact h7.elim
end
@[simp]def fJ(C:String)(mi:MI)(ms:M (List Slot))(U:Ĉ):į PV:=(ms U).bind fun as U1=>match mi as with
  |.ok ns ps=>.ok (.ins C ns ps) U1|.exc x=>.exc x U1|.bad=>.bad
section
variable{X:Cx}{cm:String->À}{E:ć->XK}{e:Ç}{es:List Ç}{pos p:Pos}{CX:iy}{k n:Nat}{f:À}{fd:Ć}{ps:List Str}{C:String}{mi:MI}{ms:M (List Slot)}{x:Str}
def Gv{Q:VK}(hlen:(∃r,mi as=r/\∀z,r=z->z≠.bad)->as.length+1=n)(ä:Ĕ (kk X cm) c F1 H1 a U1)(r1:Paired (du (kk X cm) F1 H1) as vs)
 (h:ak (kk X cm) E (rV<|kk X cm) c F1 H1 a Q (match mi as with|.ok ns ps=>.ok (.ins C ns ps) U1|.exc x=>.exc x U1|.bad=>.bad)):
 ∀x dx,H1 x=none->H1 dx=none->dx≠x->IL (kk X cm) n C mi (.ref x::vs) (upd (upd H1 dx<|.own x) x<|.ins (cm C) dx []) (λv H2=>v=.non/\Q (.ref x) H2) (E a):=by
 intro x dx hx Xg fN;have up:∀b u,H1 b=some u->upd (upd H1 dx<|.own x) x (.ins (cm C) dx []) b=some u:=λb u e=>by rw[ñ<|č e hx,ñ<|č e Xg];exact e
 have Bo:∀{F' H':Hp},O7 x F1 (upd (upd H1 dx<|.own x) x<|.ins (cm C) dx []) F' H'->Gr F1 H1 F' H':=fun{F' H'} g=>
  ⟨fun b u e=>g.h b u (č e hx)<|up b u e,g.f,g.sub,fun b hb hf=>by
    obtain⟨u,hu⟩:∃u,H1 b=some u:=by
     cases q:H1 b with
     |none=>exact absurd q hb|some u=>exact⟨u,rfl⟩
    exact g.out b (č hu hx) (by rw[up b u hu];intro z;cases z) hf⟩
 refine⟨F1,x,dx,vs,as,rfl,?_,Ā,ä.sub.free hx,λb u e=>up b u<|ä.sub b u e,?_,?_⟩
 ·refine hlen ⟨_,rfl,λz hz hb=>?_⟩;rw[hz,hb]at h;exact h
 ·refine Paired.mono (λs v hs=>?_) r1;cases s with
  |sh p=>exact hs|bw qs=>obtain⟨b,ws,q1,q2,q3,q4⟩:=hs;exact⟨b,ws,q1,up b _ q2,q3,q4⟩|dw gv=>obtain⟨b,ts,q1,q2,q3,q4⟩:=hs;exact⟨b,ts,q1,up b _ q2,q3,iA q4 λt d w ⟨xs,y,ws,k1,k2,k3,k4⟩=>⟨xs,y,ws,k1,k2,⟨up y _ k3.1,k3.2⟩,k4⟩⟩
  |_=>exact hs.elim
 ·cases em:mi as with
  |bad=>rw[em]at h;exact h|exc y=>rw[em]at h;exact λC' d F' H' g rx=>h C' d F' H' (ä.call<|Bo g) g.f rx
  |ok ns qs=>rw[em]at h;intro F' H' fs g NR Q1 hn hr;have r2:=ä.call<|Bo g;have r3:=r2.freeze NR (ä.base.free hx) Q1<|ä.lc (Bo g).f (ä.fresh hx);refine⟨rfl,h _ _ H' r3 (g.f.trans<|Ú.upd Q1) (Bo g).h ?_⟩;show Ċ _ _ _ _;unfold Ċ;exact⟨x,dx,fs,rfl,Ā,hn,é.same (Ú.upd Q1) qs _ hr⟩
def vZ{a:ć}{C:À}(M:Mk X.K C f)(F:ϯ X.prog X.w X.K X.mg X.base CX k f fd ps sp)(hr:ő (k+1) X.A)(hb:Binds X.K fd ps [])
 (hx:a_ CX X E)(I:Inv X Å a H s)(r:Ō vs us)
 (h:∀x dx,H x=none->H dx=none->dx≠x->sp (.ref x::vs) (upd (upd H dx<|.own x) x<|.ins C dx []) (λv H2=>v=.non/\Q (.ref x) H2) (E a)):
 Ï (Ø X.prog X.w) X.A (call (.ref C) us) (EP X Å a Q) X.xe s:=by
 have hq:=h (s.heap.objs.size+1) s.heap.objs.size (I.hok.fresh<|xr _) (I.hok.fresh<|ö _)<|İ<|rZ _;have I2:=Inv.made (C:=C) I;have r2:Ō (V.ref (s.heap.objs.size+1)::vs) (Ń (s.heap.objs.size+1)::us):=.cons rfl r;have hl:(Ń (s.heap.objs.size+1)::us++[]).length=ps.length:=by have e:=r2.length;rw[F.len _ _ _ _ hq]at e;rw[fO];exact e.symm
 have QZ:=hb {s with heap:=(s.heap.push eU).push (fX C s.heap.objs.size)} (Ń (s.heap.objs.size+1)::us) I2.nj hl;rw[fO]at QZ;refine sw<|Fp (f:=f) I.nj M.makes M.init (beq_iff_eq.mp M.fn)<|mj (F.run _ X.stack _ _ ⟨Ń (s.heap.objs.size+1)::us,[]⟩ _ _ _ (E a) (hr.make C us []) (I2.env0.make C us []) QZ r2 hq) λr s' Q2=>?_;cases r with
 |error e=>exact hx Å a _ _ e s' I2 Q2|ok fl=>
  cases fl with
  |ret u=>obtain⟨v,H',I3,rv,ev,q3⟩:=I2.after Q2;subst ev;exact⟨rv,⟨V.ref<|s.heap.objs.size+1,H',I3,rfl,q3⟩⟩|next=>exact aK Q2|brk=>exact aK Q2|cont=>exact aK Q2
def v_(h:∃r,dE n k C mb as=r/\∀z,r=z->z≠.bad):as.length+1=n:=by
 obtain⟨r,h1,h2⟩:=h;unfold dE at h1;by_cases hl:as.length+1=n
 ·exact hl
 ·rw[if_neg hl]at h1;exact absurd h1.symm (λz=>h2 .bad (by rw[<-h1]) rfl)
def L7(M:Mk X.K (cm C) f)(F:ϯ X.prog X.w X.K X.mg X.base CX k f fd ps (IL (kk X cm) n C mi))(hlen:∀{as:List Slot},(∃r,mi as=r/\∀z,r=z->z≠.bad)->as.length+1=n)(hr:ő (k+1) X.A)(hg:Gl X x)(hm:X.mg x=some (.ref<|cm C))(hb:Binds X.K fd ps [])(hx:a_ CX X E)
 (ha:PA X (e::es) (tA (kk X cm) E ms))(lK:(x==("__debug__":Str))=false:=by kernel_rfl)(he:Ð (e::es) X.env=(false,eval e X.env)::Ð es X.env:=by exact Ĺ rfl)(hpl:(ÿ pos<|Ð es X.env).any (·.1)=false:=by kernel_rfl):
 PE X (.Call (.Name x p) (e::es) [] pos) (tV (kk X cm) E<|fJ C mi ms):=by
 rintro Å s a H Q I ⟨c,F',U,rel,h⟩;refine ig<|oX I hg hm ?_ lK;refine ka (h₀:=X.base) I.ok.mod.Hq M.kp (ώ (ha pos Å s a H (λvs H1=>∀x dx,H1 x=none->H1 dx=none->dx≠x->IL (kk X cm) n C mi (.ref x::vs) (upd (upd H1 dx<|.own x) x<|.ins (cm C) dx []) (λv H2=>v=.non/\Q (.ref x) H2) (E a)) I
  ⟨c,F',U,rel,ak.bind h λas U1 vs F1 H1 ä y y r1 h1=>Gv hlen ä r1 h1⟩) λus s1 ⟨vs,H1,I1,r,q⟩=>⟨I1.nj,?_⟩) he hpl
 exact vZ M F hr hb hx I1 r q
end
def oh.sub(x:oh P w H h)(k:∀b o u,H b=some u->h.get? b=some o->B.get? b=some o):oh P w H B:=λa o e=>
 (x a o e).stay (fun b u hb q=>by
   rcases hb with rfl|hb
   ·exact k _ _ _ e q
   ·exact k _ _ _ hb q) (λy q=>q) λy y q=>q
noncomputable def Ey(X:Cx)(xe:Á->Ã->Prop)(Å:List (À×Obj)):Cx:={X with xe:=xe,pn:=X.pn++Å}
section
variable{X:Cx}{Å:List (À×Obj)}{σ:ć}{H:Hp}{s:Ã}{xe:Á->Ã->Prop}
def Inv.O8(I:Inv X Å σ H s):Inv (Ey X xe Å) [] σ H s:=
 ⟨⟨I.ok.mod,I.ok.kind,I.ok.glob,I.ok.blt,I.ok.above,I.ok.inj,I.ok.has,I.ok.cab,I.ok.hd,I.ok.frames,I.ok.stk,I.ok.Rl,I.ok.bs,I.ok.EY,I.ok.zK,I.ok.D7,I.ok.oW,I.ok.HK,I.ok.tb⟩,
   I.os,I.bare,I.base,I.loc,I.cell,I.free,I.jf,λp hp=>I.pin p (by simpa[Ey]using hp),I.hok,I.len⟩
def Inv.wa(I:Inv (Ey X xe Å) iw σ H s):Inv X Å σ H s:=
 ⟨⟨I.ok.mod,I.ok.kind,I.ok.glob,I.ok.blt,I.ok.above,I.ok.inj,I.ok.has,I.ok.cab,I.ok.hd,I.ok.frames,I.ok.stk,I.ok.Rl,I.ok.bs,I.ok.EY,I.ok.zK,I.ok.D7,I.ok.oW,I.ok.HK,I.ok.tb⟩,
   I.os,I.bare,I.base,I.loc,I.cell,I.free,I.jf,λp hp=>I.pin p<|on _ hp,I.hok,I.len⟩
theorem SP.wa(h:SP (Ey X xe Å) iw D f s):SP X Å D f s:=by
 cases f with
 |next=>obtain⟨a,H',I,q⟩:=h;exact⟨a,H',Inv.wa I,q⟩|brk=>obtain⟨a,H',I,q⟩:=h;exact⟨a,H',Inv.wa I,q⟩|cont=>obtain⟨a,H',I,q⟩:=h;exact⟨a,H',Inv.wa I,q⟩|ret u=>obtain⟨v,a,H',I,r,q⟩:=h;exact⟨v,a,H',Inv.wa I,r,q⟩
end
abbrev MH:=PX->Ĉ->į Fl
open Builtin Builtin.ObjectAttr
section
variable{X:Cx}{K:KK}
def Gw:List V->Hp->VK->Prop:=λxs H Q=>(∃i,xs=[.int i]/\Q (.int i) H)\/∃k,xs=[.bl k]/\Q (.int<|if k then 1 else 0) H
def L8:Ř X (.type "int") Gw:=Ef
noncomputable def Gx:List PV->Option PV
 |[.int i]=>some<|.int i|[.bl k]=>some<|.int<|if k then 1 else 0|_=>none
def L9:dX K Gw Gx:=by
 intro c F H a U ps pv vs Q rel r e k;unfold Gx at e;split at e
 ·cases e;obtain⟨v,rfl,r1⟩:=vq r;cases r1.int;exact .inl ⟨_,rfl,k _ F H rel Đ Đ Ċ.int⟩
 ·cases e;obtain⟨v,rfl,r1⟩:=vq r;cases r1.bl;exact .inr ⟨_,rfl,k _ F H rel Đ Đ Ċ.int⟩
 ·cases e
def Gy:List V->Hp->VK->Prop:=λxs H Q=>∃i,xs=[.int i]/\i.natAbs.log2<1920/\Q (.str<|bJ i) H
def Ma:Ř X (.type "str") Gy:=yu
noncomputable def IN:List PV->Option PV
 |[.int i]=>if i.natAbs.log2<1920then some (.str<|bJ i)else none|_=>none
def Mb:dX K Gy IN:=by
 intro c F H a U ps pv vs Q rel r e k;unfold IN at e;split at e
 ·split at e
  ·rename_i hz;cases e;obtain⟨v,rfl,r1⟩:=vq r;cases r1.int;exact⟨_,rfl,hz,k _ F H rel Đ Đ Ċ.str⟩
  ·cases e
 ·cases e
theorem cP:∀{ns:List Int}{Ē:List Á},Ō (ns.map V.int) Ē->lX Ē ns
 |[],Ē,h=>by cases h;exact .nil|n::ns,Ē,h=>by
  cases h with
  |cons r t=>obtain⟨k,e⟩:=(show ∃k,_=mJ n k from r);subst e;exact .cons n k<|cP t
def O9(K:Î):List V->Hp->VK->Prop:=λxs H Q=>∃(p:À) (ns:List Int),xs=[.ref p]/\Ϧ K H p (ns.map V.int)/\Q (.int ns.sum) H
def uu(hc:X.calm=true):Ř X (.builtin "sum") (O9 X.K):=by
 intro Å s a H xs us Q I r h;obtain⟨p,ns,rfl,hS,q⟩:=h;obtain⟨u,rfl,ru⟩:=vals1 r;cases ru;obtain⟨Ē,rv,pl,hz⟩:=I.list hS;have hi:=cP rv;obtain⟨ys,e⟩:=hi.allInts.items;have zy:ns=ys.toList.map (·.1):=by rw[<-hi.numsOf,<-sA,<-e]
 have hl:=pl.isList;rw[e]at hl;refine sum_intListG (show X.A.handled=none from I.ok.hd hc) hl λh' tk t' hk=>?_;refine⟨.int ns.sum,H,I.kept hk,⟨t',?_⟩,q⟩;rw[preSum_eq,xi (by simp),<-zy]
section
variable{prog:ë}{w:â}{A:ê}{E:Á->Ã->Prop}{s:Ã}{l:À}{xs:Array (Int×Tok)}
def Af(hl:s.heap.IsTuple l (ip xs))
 (h:∀s₂:Ã,s₂={s with heap:=s.heap.push {cls:=.type "tuple_iterator",data:=.fields #[.ref l,.int 0 0]}}→
   (s₂.heap.IsTupleIter s.heap.objs.size l 0/\s₂.heap.IsTuple l (ip xs))->(∀b∈[s.heap.objs.size,l],b<s₂.heap.objs.size)->l≠s.heap.objs.size->(∀h':Ò,(∀b o,b∉[s.heap.objs.size]->s₂.heap.get? b=some o->h'.get? b=some o)->∀b o,s.heap.get? b=some o->h'.get? b=some o)->Q (.ref s.heap.objs.size) s₂):
 Ï (Ø prog w) A (ia<|.ref l) Q E s:=by
 have kX:l<s.heap.objs.size:=by obtain⟨_,e,_⟩:=hl;exact ü e
 refine xH hl<|h _ rfl ⟨⟨_,Ĥ _ rfl,rfl,rfl⟩,hl.push _⟩ (λb hb=>?_) (İ kX) λh' hk b o e=>?_
 ·show b<(s.heap.push _).objs.size;rw[Ϫ];rcases û.mp hb with rfl|hb
  ·exact rZ _
  ·rcases û.mp hb with rfl|hb
   ·exact oz kX
   ·cases hb
 ·refine hk b o (λhm=>?_)<|ø _ e;rcases û.mp hm with e1|hm
  ·exact absurd (e1▸ü e)<|aN _
  ·cases hm
def Bp(hh:A.handled=none)(hl:s.heap.IsTuple l (ip xs))(fN:0<xs.size)
 (h:∀v h' tk,(ip xs)[argBest (λi j=>decide<|dm xs i>dm xs j)<|xs.size-1]?=some v->(∀b o,s.heap.get? b=some o->h'.get? b=some o)->Q v {s with heap:=h',toks:=tk}):
 Ï (Ø prog w) A (call (.builtin "max") [.ref l]) Q E s:=by
 refine call_max_walk<|Af hl λs₂ e st hfp hlI hk0=>?_;subst e;refine⟨_,_,_,_,_,_,_,rfl,Walks.tuple (A:=A.in1) hh _ l hlI<|ip xs,st,hfp,by simpa[ip]using fN,CmpOf.ints_gt (dm xs)<|λx x=>intItems_at,λv h' tk hP hk=>?_⟩;exact h v h' tk (by simpa[ip]using hP)<|hk0 h' hk
end
def Pa(K:Î):List V->Hp->VK->Prop:=λxs H Q=>∃(p:À) (ns:List Int),xs=[.ref p]/\(Ϧ K H p (ns.map V.int)\/gj K H p (ns.map V.int))/\0<ns.length/\∀M,M∈ns->(∀a∈ns,a<=M)->Q (.int M) H
def GA(hc:X.calm=true):Ř X (.builtin "max") (Pa X.K):=by
 intro Å s c H xs us Q I r h;obtain⟨p,ns,rfl,hS,fN,q⟩:=h;obtain⟨u,rfl,ru⟩:=vals1 r;cases ru;have n_:∀(ys:Array (Int×Tok)),ns=ys.toList.map (·.1)->0<ys.size->∀v h' tk,(ip ys)[argBest (λi j=>decide<|dm ys i>dm ys j)<|ys.size-1]?=some v->(∀b o,s.heap.get? b=some o->h'.get? b=some o)->EP X Å c Q v {s with heap:=h',toks:=tk}:=by
  intro ys zy kW v h' tk hv hk;obtain⟨t,rfl⟩:=intItems_at hv;obtain⟨h1,h2⟩:=argBest_gt (dm ys)<|ys.size-1;refine⟨.int _,H,I.kept hk,⟨t,rfl⟩,q _ ?_ λa ha=>?_⟩
  ·rw[zy,numAt_eq];have hj:argBest (λi j=>decide<|dm ys i>dm ys j) (ys.size-1)<(ys.toList.map (·.1)).length:=by rw[Ğ,cY];lia
   rw[fP,œ hj];exact ϒ _
  ·rw[zy]at ha;obtain⟨j,hj,rfl⟩:=xg.mp ha;rw[Ğ,cY]at hj;have:=h2 j (by lia);rw[numAt_eq ys j,fP,œ (by rw[Ğ,cY];exact hj)]at this;exact this
 rcases hS with hS|hS
 ·obtain⟨Ē,rv,pl,hz⟩:=I.list hS;have hi:=cP rv;obtain⟨ys,e⟩:=hi.allInts.items;have zy:ns=ys.toList.map (·.1):=by rw[<-hi.numsOf,<-sA,<-e]
  have hl:=pl.isList;rw[e]at hl;have kW:0<ys.size:=by rw[zy,Ğ,cY]at fN;exact fN
  exact max_intList (show X.A.handled=none from I.ok.hd hc) hl kW<|n_ ys zy kW
 ·obtain⟨Ē,rv,pl,hz⟩:=I.tuple hS;have hi:=cP rv;obtain⟨ys,e⟩:=hi.allInts.items;have zy:ns=ys.toList.map (·.1):=by rw[<-hi.numsOf,<-sA,<-e]
  have hl:s.heap.IsTuple p Ē.toArray:=pl;rw[e]at hl;have kW:0<ys.size:=by rw[zy,Ğ,cY]at fN;exact fN
  exact Bp (show X.A.handled=none from I.ok.hd hc) hl kW<|n_ ys zy kW
def Pb(K:Î):List V->Hp->VK->Prop:=λxs H Q=>∃(p:À) (ns:List Int),xs=[.ref p]/\Ϧ K H p (ns.map V.int)/\0<ns.length/\∀M,M∈ns->(∀a∈ns,M<=a)->Q (.int M) H
def GB(hc:X.calm=true):Ř X (.builtin "min") (Pb X.K):=by
 intro Å s b H xs us Q I r h;obtain⟨p,ns,rfl,hS,fN,q⟩:=h;obtain⟨u,rfl,ru⟩:=vals1 r;cases ru;obtain⟨Ē,rv,pl,hz⟩:=I.list hS;have hi:=cP rv;obtain⟨ys,e⟩:=hi.allInts.items;have zy:ns=ys.toList.map (·.1):=by rw[<-hi.numsOf,<-sA,<-e]
 have hl:=pl.isList;rw[e]at hl;have kW:0<ys.size:=by rw[zy,Ğ,cY]at fN;exact fN
 refine min_intList (show X.A.handled=none from I.ok.hd hc) hl kW λv h' tk hv hk=>?_;obtain⟨t,rfl⟩:=intItems_at hv;obtain⟨h1,h2⟩:=argBest_lt (dm ys)<|ys.size-1;refine⟨.int _,H,I.kept hk,⟨t,rfl⟩,q _ ?_ λa ha=>?_⟩
 ·rw[zy,numAt_eq];have hj:argBest (λi j=>decide<|dm ys i<dm ys j) (ys.size-1)<(ys.toList.map (·.1)).length:=by rw[Ğ,cY];lia
  rw[fP,œ hj];exact ϒ _
 ·rw[zy]at ha;obtain⟨j,hj,rfl⟩:=xg.mp ha;rw[Ğ,cY]at hj;have:=h2 j (by lia);rw[numAt_eq ys j,fP,œ (by rw[Ğ,cY];exact hj)]at this;exact this
noncomputable def cL:List PV->Option (List Int)
 |[]=>some []|.int b::ps=>(cL ps).map (b::·)|_::_=>none
@[simp]theorem nV:∀ns:List Int,cL (ns.map PV.int)=some ns
  |[]=>rfl|n::ns=>by rw[à,cL,nV ns];rfl
theorem qb:∀{ps:List PV}{vs:List V}{bs:List Int},é K F ps vs->cL ps=some bs->vs=bs.map V.int
 |[],vs,bs,r,h=>by cases h;cases r.pr;rfl|p::ps,vs,bs,r,h=>by
  cases r.pr with
  |cons r1 t=>
   cases p with
   |int b=>unfold cL at h;obtain⟨cs,e,rfl⟩:=h_.mp h;rw[qb (é.of t) e,show _=V.int b from r1];rfl|_=>cases h
noncomputable def zB(f:Int->Int->Int):List Int->Option Int
 |[]=>none|n::ns=>some<|ns.foldl f n
theorem wP:∀(ns:List Int) (n:Int),ns.foldl max n∈n::ns/\∀a∈n::ns,a<=ns.foldl max n
 |[],n=>by simp|m::ns,n=>by
  obtain⟨h1,h2⟩:=wP ns<|max n m;rw[eD];refine⟨?_,λa ha=>?_⟩
  ·rcases û.mp h1 with e|e
   ·rw[e];by_cases h:n<=m
    ·rw[Int.max_eq_right h];simp
    ·rw[Int.max_eq_left<|by lia];simp
   ·simp[e]
  ·have hm:=h2 (max n m) Ş;rcases û.mp ha with rfl|ha
   ·lia
   ·rcases û.mp ha with rfl|ha
    ·lia
    ·exact h2 a<|þ _ ha
theorem wQ:∀(ns:List Int) (n:Int),ns.foldl min n∈n::ns/\∀a∈n::ns,ns.foldl min n<=a
 |[],n=>by simp|m::ns,n=>by
  obtain⟨h1,h2⟩:=wQ ns<|min n m;rw[eD];refine⟨?_,λa ha=>?_⟩
  ·rcases û.mp h1 with e|e
   ·rw[e];by_cases h:n<=m
    ·rw[Int.min_eq_left h];simp
    ·rw[Int.min_eq_right<|by lia];simp
   ·simp[e]
  ·have hm:=h2 (min n m) Ş;rcases û.mp ha with rfl|ha
   ·lia
   ·rcases û.mp ha with rfl|ha
    ·lia
    ·exact h2 a<|þ _ ha
def rm:List PV->Option PV
 |[.lst ps]=>(cL ps).map λns=>.int ns.sum
 |_=>none
def wb:List PV->Option PV
 |[.lst ps]=>((cL ps).bind (zB max)).map .int|[.tup ps]=>((cL ps).bind (zB max)).map .int|_=>none
def wc:List PV->Option PV
 |[.lst ps]=>((cL ps).bind (zB min)).map .int|_=>none
set_option tactic.hygienic true
def uv:dX K (O9 K.K) rm:=by
 intro c F H b U ps pv vs Q rel r e k;unfold rm at e;split at e
 ·rename_i ps;obtain⟨v,rfl,r1⟩:=vq r;obtain⟨a,xs,rfl,h1,h2⟩:=r1.lst rel.sub;obtain⟨ns,eb,rfl⟩:=h_.mp e;exact⟨a,ns,rfl,by rw[<-qb h2 eb];exact h1,k _ F H rel Đ Đ Ċ.int⟩
 ·cases e
def GC:dX K (Pa K.K) wb:=by
 intro c F H b U ps pv vs Q rel r e k;have n_:∀(ps:List PV) (xs:List V),é K F ps xs->((cL ps).bind (zB max)).map PV.int=some pv->∃ns:List Int,xs=ns.map V.int/\0<ns.length/\∀M,M∈ns->(∀a∈ns,a<=M)->Q (.int M) H:=by
  intro ps xs h2 e;obtain⟨m,em,rfl⟩:=h_.mp e;obtain⟨ns,eb,hb⟩:=oA.mp em;cases ns with
  |nil=>cases hb|cons n ns=>cases hb;obtain⟨z1,z2⟩:=wP ns n;refine⟨n::ns,qb h2 eb,by simp,λM m1 m2=>?_⟩;have:M=ns.foldl max n:=Int.le_antisymm (z2 M m1)<|m2 _ z1;rw[this];exact k _ F H rel Đ Đ Ċ.int
 unfold wb at e;split at e
 ·rename_i ps;obtain⟨v,rfl,r1⟩:=vq r;obtain⟨a,xs,rfl,h1,h2⟩:=r1.lst rel.sub;obtain⟨ns,rfl,hl,hq⟩:=n_ ps xs h2 e;exact⟨a,ns,rfl,.inl h1,hl,hq⟩
 ·rename_i ps;obtain⟨v,rfl,r1⟩:=vq r;obtain⟨a,xs,rfl,h1,h2⟩:=r1.tup rel.sub;obtain⟨ns,rfl,hl,hq⟩:=n_ ps xs h2 e;exact⟨a,ns,rfl,.inr h1,hl,hq⟩
 ·cases e
def GD:dX K (Pb K.K) wc:=by
 intro c F H b U ps pv vs Q rel r e k;unfold wc at e;split at e
 ·rename_i ps;obtain⟨v,rfl,r1⟩:=vq r;obtain⟨a,xs,rfl,h1,h2⟩:=r1.lst rel.sub;obtain⟨m,em,rfl⟩:=h_.mp e;obtain⟨ns,eb,hb⟩:=oA.mp em;cases ns with
  |nil=>cases hb|cons n ns=>cases hb;obtain⟨z1,z2⟩:=wQ ns n;refine⟨a,n::ns,rfl,by rw[<-qb h2 eb];exact h1,by simp,λM m1 m2=>?_⟩;have:M=ns.foldl min n:=Int.le_antisymm (m2 _ z1)<|z2 M m1;rw[this];exact k _ F H rel Đ Đ Ċ.int
 ·cases e
set_option tactic.hygienic false
@[simp]theorem Sc{i:Int}:Gx [.int i]=some (.int i):=rfl
@[simp]theorem Sd{b:Bool}:Gx [.bl b]=some (.int<|if b then 1 else 0):=rfl
@[simp]theorem Se{i:Int}:IN [.int i]=if i.natAbs.log2<1920then some (.str<|bJ i)else none:=rfl
@[simp]theorem mV{ps:List PV}:rm [.lst ps]=(cL ps).map λns=>.int ns.sum:=rfl
@[simp]theorem IP{ps:List PV}:wb [.lst ps]=((cL ps).bind (zB max)).map .int:=rfl
@[simp]theorem IQ{ps:List PV}:wc [.lst ps]=((cL ps).bind (zB min)).map .int:=rfl
@[simp]theorem Sf{f:Int->Int->Int}{n:Int}{ns:List Int}:zB f (n::ns)=some (ns.foldl f n):=rfl
end
noncomputable def Pc(K:Î)(C:À):Bool:=oQ K C Str.empty&&sR K C&&ya K C&&ů K (.ref C) "__setattr__"==some (some<|.builtin "object.__setattr__")
def Mc{K:Î}(h:Pc K C=true):zu K C:=by unfold Pc at h;simp only[ă,beq_iff_eq]at h;exact⟨h.1.1.1,h.1.1.2,h.1.2,h.2⟩
noncomputable def Dt(K:Î)(C:À)(m:Str)(f:À):Bool:=ů K (.ref C) m==some (some<|.ref f)&&oR K (.ref f)&&ϫ K (.ref f)
def Du{K:Î}(h:Dt K C m f=true):zw K C m f:=by unfold Dt at h;simp only[ă,beq_iff_eq]at h;exact⟨h.1.1,h.1.2,h.2⟩
noncomputable def Vb(K:Î)(C f:À):Bool:=yc K C&&ů K (.ref C) "__init__"==some (some<|.ref f)&&oR K (.ref f)&&ϫ K (.ref C)
def Pd{K:Î}(h:Vb K C f=true):Mk K C f:=by unfold Vb at h;simp only[ă,beq_iff_eq]at h;exact⟨h.1.1.1,h.1.1.2,h.1.2,h.2⟩
section
variable{U:Ĉ}{n k:Nat}{C:String}{cs:List String}{f m:Str}{mo:M PV}{ms:M (List Slot)}{mb:M Fl}{ai:List (String×MF)}{as:List Slot}{ns:List Str}{ps:List PV}
@[simp]theorem Sg:dE n k C mb as=if as.length+1=n then IR.of (mb (.rc C [] []::ĕ (k-1) as))else .bad:=rfl
@[simp]theorem Vc{C:String}:IR.of (.ok .nx (.rc C ns ps::U))=.ok ns ps:=rfl
@[simp]theorem Vd:Ś cs f (.ins C ns ps)=if cs.contains C=true then(ns.zip ps).lookup f else none:=rfl
@[simp]theorem IS:kH m ai mo ms U=(mo U).bind fun p U1=>match p with
  |.ins C ns ps=>match ai.lookup C with
    |some mf=>if ns.contains m=true then .bad else(ms U1).bind λas U2=>match mf (.sh (.ins C ns ps)::as)with
     |.ret r=>.ok r U2|.exc x=>.exc x U2|.bad=>.bad
    |none=>.bad
  |_=>.bad:=rfl
end
end P
namespace M3
open PySem PySem.Spec PyProof.Rows L2 M2
section
variable{X:Cx}{elt tg iter:Ç}{ifs:List Ç}{scope:ú}{pos:Pos}{wi:TI}{g:TG}{tt:TT}{te:TE}
def IT{iv:Nat}{y:Str}{py AG:Pos}(hN:X.N.Nodup)(hiN:X.N[iv]?=some y)(hy:X.env.scope.names.lookup y=some .local)(Q6:Ŗ (.ListComp elt [⟨tg,iter,ifs,0⟩] scope pos) (some<|.Name y py) AG.line X.env=î true)(N':List Str)(js:List Nat)(nl:Nat)(sc:ú)(qI:X.env.scope=sc)(hcalm:X.calm=true)
 (hi:PI X.Ϭ tg iter wi)(hg:∀cl C s H fp,PG (jd X.Ϭ N' scope cl C s H fp) tg g)(ht:∀cl C s H fp,CQ (jd X.Ϭ N' scope cl C s H fp) ifs tt)(he:∀cl C s H fp,PE (jd X.Ϭ N' scope cl C s H fp) elt te)
 (hcap:gu X.Ϭ sc scope N' js)(hlen:js.length+nl=N'.length:=by rfl)
 (hk:scope.kind=.function:=by rfl)(hcell:∀y∈scope.names,y.2=.cell->scope.names.lookup y.1=some .cell:=by decide+kernel)(hnames:∀y∈scope.names,y.2=.local->scope.names.lookup y.1=some .local:=by decide+kernel)
 (hfree:∀y∈scope.names,y.2=.free->(sc.names.lookup y.1=some .cell\/sc.names.lookup y.1=some .free):=by decide+kernel)
 (hs:∀x,df iter X.env x=î x:=by intro _;rfl):
 PS X.Ϭ (.Assign [.Name y py] (.ListComp elt [⟨tg,iter,ifs,0⟩] scope pos) AG) (λD a H=>vN js nl wi g tt te a H λv H'=>D.nx (a.set iv<|some v) H'):=by
 intro Å s a H DD I h;rw[exec_Assign_Name_used _ _ _ _<|show Ŗ _ _ _ X.Ϭ.env=î true from Q6];refine Ñ<|lY<|Ñ ?_;show Ï _ X.A (do let _<-comprehension (.ListComp elt [⟨tg,iter,ifs,0⟩] scope pos) scope X.Ϭ.env _ (newList []) false (eval iter X.Ϭ.env) (some<|db (.Name y py) X.Ϭ.env)) _ _ s;refine Ñ<|ϔ (vO (QQ:=λw s'=>SP X.Ϭ Å DD .next s') (use:=some<|db (.Name y py) X.Ϭ.env) N' js nl sc qI hcalm hi hg ht he hcap hlen hk hcell hnames hfree hs I h λD C m s6 H5 hm kp hCL hcC hpC hnC kW qn w=>?_) (λw s' hq=>Ą<|Ą hq) λw w e=>e;have I7:Inv X.Ϭ Å a H5 s6:=kp s6.heap λb u w e=>e;refine wpAny_assign_Name<|vC (X:=X.Ϭ) (i:=iv) I7 hN hiN (.inl hy) (v:=.ref D) rfl (λs8 I8 zz=>?_)<|.inr hy;obtain⟨a8,sb8,Ve⟩:=zz;have ne8:C≠a8:=by
  rcases Ve with rfl|Ve
  ·exact hCL
  ·exact λz=>hcC _ _ Ve z.symm
 refine⟨m,hm.sameBut sb8 ne8,λh' HE=>⟨_,H5,?_,qn⟩⟩;have kp:∀b o,b≠C->s8.heap.get? b=some o->h'.get? b=some o:=λb o hb e=>HE.extBut b o hb e;have Vf:∀b o,b∉[C]->s8.heap.get? b=some o->h'.get? b=some o:=λb o hb e=>kp b o (λz=>hb (by rw[z];exact Ş)) e;refine I8.call' (ch:=[C]) (s':={s8 with heap:=h'}) rfl ⟨λb o e w w hx=>Vf b o hx e,λb o e w w hx=>⟨o.slots,Vf b o hx e⟩,λb o w n w=>n,λb o e hx=>⟨o,Vf b o hx e⟩,λw w q=>q,λw w w q=>q,λw ps q=>q⟩ (CP I8.hok hnC kp) I8.bare λb hb=>?_;cases cu.mp hb;exact⟨.inr kW,hCL,hcC,hpC⟩
end
end M3
namespace P
open PySem PySem.Spec PyProof.Rows L2 M2 M3 M4
section
variable{X:Cx}{cm:String->À}{E:ć->XK}{elt tg iter:Ç}{ifs:List Ç}{scope:ú}{pos:Pos}{mi:M (List PV)}{g:Tg}{mt:M Bool}{me:M PV}
theorem PS.Ϭ{st:è}(h:PS X.Ϭ st t):PS X st t:=λÅ s a H D I hw=>
 ϔ (h Å s a H D (I.wish _) hw) (λx x q=>q.ke) λx x z=>aK z
def Md{i:Nat}{y:Str}{py AG:Pos}(hN:X.N.Nodup)(Xj:X.N[i]?=some y)(hy:X.env.scope.names.lookup y=some .local)(N':List Str)(js:List Nat)(nl:Nat)(sc:ú)(qI:X.env.scope=sc)(hcalm:X.calm=true)
 (hi:PI X.Ϭ tg iter (tI (kk X cm) E mi))(hg:∀cl C s H fp,PG (jd X.Ϭ N' scope cl C s H fp) tg<|tT (kk X cm) g)(ht:∀cl C s H fp,CQ (jd X.Ϭ N' scope cl C s H fp) ifs<|tB (kk X cm) EF mt)(he:∀cl C s H fp,PE (jd X.Ϭ N' scope cl C s H fp) elt<|tV (kk X cm) EF me)
 (hcap:gu X.Ϭ sc scope N' js)(hlen:js.length+nl=N'.length:=by rfl)
 (hk:scope.kind=.function:=by rfl)(hcell:∀y∈scope.names,y.2=.cell->scope.names.lookup y.1=some .cell:=by decide+kernel)(hnames:∀y∈scope.names,y.2=.local->scope.names.lookup y.1=some .local:=by decide+kernel)
 (hfree:∀y∈scope.names,y.2=.free->(sc.names.lookup y.1=some .cell\/sc.names.lookup y.1=some .free):=by decide+kernel)
 (hs:∀x,df iter X.env x=î x:=by intro _;rfl)(Q6:Ŗ (.ListComp elt [⟨tg,iter,ifs,0⟩] scope pos) (some<|.Name y py) AG.line X.env=î true:=by rfl):
 PS X (.Assign [.Name y py] (.ListComp elt [⟨tg,iter,ifs,0⟩] scope pos) AG) (tS (kk X cm) E<|ĉ i<|Ħ js nl mi g mt me):=
 PS.wk (PS.Ϭ<|IT hN Xj hy Q6 N' js nl sc qI hcalm (J2 hi) hg ht he hcap hlen hk hcell hnames hfree hs) fun D b H ⟨c,F,U,rel,h⟩=>zX ⟨c,F,U,rel,ϊ.bind h fun r U1 v F1 H1 ä s1 q h1=>by
   cases r with
   |sh p=>exact h1 _ F1 H1 (ä.put rfl ⟨v,rfl,q⟩) Đ|ow ps=>obtain⟨a,vs,rfl,q1,q2,q3,q4,q5⟩:=q;exact h1 _ F1 H1 (ä.Bc ⟨a,vs,rfl,q1,q2,q3,q5⟩ λu z=>V.ref.inj z▸q4) Đ
   |ot ps qs rs=>obtain⟨p,a,xs,vs,ys,rfl,q0,qx,q1,q2,q3,q4,q5,q6⟩:=q;exact h1 _ F1 H1 (ä.Bc (s:=.ot ps qs rs) ⟨p,a,xs,vs,ys,rfl,q0,qx,q1,q2,q3,q5,q6⟩ λu z=>pd (ps:=ps) (qs:=qs) (rs:=rs) z ⟨p,xs,ys,rfl,q0,qx.length.symm⟩▸q4) Đ
   |bn t ps qs rows=>exact h1 _ F1 H1 (ä.LR q) Đ⟩
end
def Vg(K:KK)(r:V->List V->Hp->VK->Prop)(f:PV->List PV->Option PV):Prop:=∀{c:Ctx}{F H:Hp}{a:ć}{U:Ĉ}{p:PV}{ps:List PV}{pv:PV}{v:V}{vs:List V}{Q:VK},Ĕ K c F H a U->rR K c a U F H p v->LQ K c a U F H ps vs->f p ps=some pv->
 (∀z F' H',Ĕ K c F' H' a U->Ú F F'->Ú H H'->Ċ K F' pv z->Q z H')->r v vs H Q
@[simp]def IU(f:PV→List PV→Option PV)(mo:M PV)(ms:M (List PV))(U:Ĉ):į PV:=(mo U).bind fun p U1=>match p with
  |.str _=>(ms U1).bind λps U2=>į.zE (f p ps) U2
  |_=>.bad
section
variable{X:Cx}{cm:String->À}{K:KK}{E:ć->XK}{o e:Ç}{es:List Ç}{name:Str}{aI gi:Pos}{id:String}{r:V->List V->Hp->VK->Prop}{f:PV->List PV->Option PV}{mo:M PV}{ms:M (List PV)}
def Ez(pa:PlainAttrs "str")(slot:PySem.Slot "str" name id)(lL:typeOf (.builtin id)=î (.type "method_descriptor"))(hf:Vg (kk X cm) r f)(hm:No X id r)(ho:PE X o (tR (kk X cm) E mo))(ha:PA X (e::es) (FZ (kk X cm) E ms))
 (lM:eN o name X.env (eval o X.env)=eval o X.env:=by kernel_rfl)
 (uZ:((ÿ gi<|Ð (e::es) X.env).all (fun x=>!x.1)&&(aR gi<|aS [] X.env).all (fun x=>x.1.isSome)
   &&decide ((e::es).length+([]:List aQ).length+(if([]:List aQ).isEmpty then 0 else 1)<30))=true:=by rfl)
 (lN:(aI.endLine==gi.line)=true:=by rfl)(hs:Ð (e::es) X.env=(false,eval e X.env)::Ð es X.env:=by exact Ĺ rfl)(oa:(ÿ gi<|Ð es X.env).any (·.1)=false:=by kernel_rfl):
 PE X (.Call (.Attribute o name aI) (e::es) [] gi) (tV (kk X cm) E<|IU f mo ms):=
 PE.wk (fG pa slot lL hm ho ha lM uZ lN hs oa) fun a H Q ⟨c,F,U,rel,h⟩=>⟨c,F,U,rel,ak.bind h fun p U1 v F1 H1 ä _ _ r1 h1=>by
   cases p with
   |str z=>
    cases r1.str;refine⟨rfl,c,F1,U1,ä,ak.bind h1 λps U2 vs F2 H2 Ě sF sH r2 h2=>?_⟩;cases ef:f (.str z) ps with
    |none=>rw[ef]at h2;exact h2.elim|some pv=>rw[ef]at h2;exact hf Ě (.inl<|Ċ.str (K:=kk X cm) (F:=F2)) r2 ef λz F' H' ŷ s1 s2 q'=>h2 z F' H' ŷ s1 s2 q'
   |_=>exact h1.elim⟩
noncomputable def lO:List PV->Option (List<|List Nat)
 |[]=>some []|.str z::ps=>(lO ps).map (z.cps.toList::·)|_::_=>none
theorem Ag:∀{ps:List PV}{vs:List V}{bs:List (List Nat)},é K F ps vs->lO ps=some bs->vs=bs.map λl=>V.str<|S l
 |[],vs,bs,r,h=>by cases h;cases r.pr;rfl|p::ps,vs,bs,r,h=>by
  cases r.pr with
  |cons r1 t=>
   cases p with
   |str z=>unfold lO at h;obtain⟨cs,e,rfl⟩:=h_.mp h;rw[Ag (é.of t) e,show _=V.str z from r1,à,LG]|_=>cases h
def jt:PV->List PV->Option PV
 |.str z,[.lst ps]=>(lO ps).bind λys=>if(ys.map cq).sum+ys.length*z.length<=16777216then some (.str<|S<|Ŝ z.cps.toList ys)else none
 |_,_=>none
set_option tactic.hygienic true in
def tw:Vg K (FQ K.K) jt:=by
 intro c F H b U p ps pv v vs Q rel r1 r2 e k;unfold jt at e;split at e
 ·rename_i z qs;cases r1.str;obtain⟨u,rfl,r3⟩:=vq r2;obtain⟨a,xs,rfl,h1,h2⟩:=r3.lst rel.sub;obtain⟨ys,eb,e⟩:=oA.mp e;split at e
  ·rename_i hz;cases e;exact⟨ys,by rw[<-Ag h2 eb];exact h1,hz,k _ F H rel Đ Đ Ċ.str⟩
  ·cases e
 ·cases e
noncomputable def pF:PV->List PV->Option PV
 |.str z,[.str y]=>some<|.bl<|decide<|z.cps.toList.take y.cps.toList.length=y.cps.toList|_,_=>none
def we:Vg K yE pF:=by
 intro c F H a U p ps pv v vs Q rel r1 r2 e k;unfold pF at e;split at e
 ·cases r1.str;obtain⟨u,rfl,r3⟩:=vq r2;cases r3.str;cases e;exact k _ F H rel Đ Đ Ċ.bl
 ·cases e
end
end P
namespace PySem
open AutoSeq1 (wpAny_loadPart')
namespace Sh
def Pe(a:Á)(t:Tok):checkTypeCall "enumerate" ⟨[a],[(Ì "start",.int 1 t)]⟩=î ():=by kernel_rfl
def Pf(a:Á)(t:Tok):checkBuiltinCall "enumerate.__new__" ⟨[.type "enumerate",a],[(Ì "start",.int 1 t)]⟩=î ():=by kernel_rfl
set_option tactic.hygienic true in
def Xk(l:À)(items:Array Á)(n:Nat)(t:Tok)(Xl:Option À)(sl:Array (Option Á)):
 Meets (my.«enumerate.__new__» ⟨[.type "enumerate",.ref l],[(Ì "start",.int 1 t)]⟩) (λx R s=>s.heap.get? l=some {cls:=.type "list",dict:=Xl,data:=.seq items n,slots:=sl}/\
  R (.ok<|.ret<|.ref (s.heap.push {cls:=.type "list_iterator",data:=.fields #[.ref l,.int 0 0]}).objs.size)
    {s with heap:=(s.heap.push {cls:=.type "list_iterator",data:=.fields #[.ref l,.int 0 0]}).push {cls:=.type "enumerate",data:=.fields #[.none,.bool false,.ref s.heap.objs.size,aP 1,.none,.none]}}):=
 .of_wp fun prog w A R s h=>by
   obtain⟨hp,g,d,tk,os⟩:=s;obtain⟨hl,h⟩:=h;have JK:=sub_enumerate;have hL:Heap.IsList (xV ⟨hp,g,d,tk,os⟩) l items:=⟨_,hl,rfl,n,rfl⟩
   wp_walk using wpAny_loadPart' hl
   refine wpAny_stack_any λst=>Ą ?_;split
   ·rename_i c _ _ _ _ _;cases(c==xX "enumerate")
    ·wp_walk using wpAny_loadPart' hl,jW hL
     exact⟨_,rfl,h⟩
    ·wp_walk using wpAny_loadPart' hl,jW hL
     exact⟨_,rfl,h⟩
   ·wp_walk using wpAny_loadPart' hl,jW hL
    exact⟨_,rfl,h⟩
section
variable{prog:ë}{w:â}{A:ê}{E:Á->Ã->Prop}{s:Ã}
def Ph:Meets (my.«object.__init__» ⟨[self,a],[(Ì "start",.int 1 t)]⟩) (λx R s=>s.TypeIs self "enumerate"/\R (.ok<|.ret .none) s):=by
 have hl:=xR.init.lookup;have hm:=xR.made;refine Meets.of_wp λprog w A R s hs=>?_;obtain⟨hT,hq⟩:=hs
 repeat (any_goals (first|assumption|wp_step))
 exact⟨_,rfl,hq⟩
def Pj(a b:Á)(t:Tok):argsOk "object.__init__" ⟨[a,b],[(Ì "start",.int 1 t)]⟩:=by unfold argsOk;kernel_rfl
def Pk(hL:s.heap.IsList l items)
 (h:∀h',bF h' (s.heap.objs.size+1) s.heap.objs.size 1 .none->h'.IsListIter s.heap.objs.size l 0->h'.objs.size=s.heap.objs.size+2->(∀b o,s.heap.get? b=some o->h'.get? b=some o)->Q (.ref<|s.heap.objs.size+1) {s with heap:=h'}):
 Ï (Ø prog w) A (call (.type "enumerate") [.ref l] [(Ì "start",.int 1 t)]) Q E s:=by
 obtain⟨⟨c,Xl,dt,sl⟩,hl,hc,n,hd⟩:=hL
 replace hc:c=.type "list":=hc
 replace hd:dt=.seq items n:=hd
 subst hc hd;have ft:=xR;obtain⟨c,tl,Zal⟩:=ft.mro;have Zab:=ft.made;have JK:=ft.sub;have hct:=Pe (.ref l) t;refine sw<|codeAny_of_tree ?_;show Ï _ _ (callAny (.type "enumerate") _) _ _ _;refine Ą ⟨Code.quiet_builtin _ (by decide+kernel),sx F.entry_type_call ?_⟩;rw[Around.under_plain (weight_type_call_type "enumerate" [.ref l] [(Ì "start",.int 1 t)])<|units_type_call_type "enumerate" [.ref l] [(Ì "start",.int 1 t)]];have h1:=ft.notType;have h2:=ft.canCreate
 repeat (any_goals (first|assumption|wp_step))
 refine mj (codeAny_call_builtin ft.plain F.entry_enumerate_new<|wpAny_of_eq (Pf (.ref l) t)<|Xk l items n t Xl sl prog w A.in1 (wants (λobj s₁=>s₁.TypeIs obj "enumerate"/\Q obj s₁) E) s ⟨hl,?_⟩) λr s₁ hr=>?_
 ·have hz:(s.heap.push {cls:=.type "list_iterator",data:=.fields #[.ref l,.int 0 0]}).objs.size=s.heap.objs.size+1:=Ϫ ..;show _/\_;rw[hz];have he:bF ((s.heap.push {cls:=.type "list_iterator",data:=.fields #[.ref l,.int 0 0]}).push {cls:=.type "enumerate",data:=.fields #[.none,.bool false,.ref s.heap.objs.size,aP 1,.none,.none]}) (s.heap.objs.size+1) s.heap.objs.size 1 .none:=by
   have:=Ĥ (s.heap.push {cls:=.type "list_iterator",data:=.fields #[.ref l,.int 0 0]}) (o:={cls:=.type "enumerate",data:=.fields #[.none,.bool false,.ref s.heap.objs.size,aP 1,.none,.none]}) rfl;rw[hz]at this;exact this
  exact⟨⟨_,he,rfl⟩,h _ he ⟨_,ø _<|Ĥ _ rfl,rfl,rfl⟩ (by rw[Ϫ,hz]) λb o x=>ø _<|ø _ x⟩
 ·cases r with
  |error e=>exact hr|ok fl=>
   cases fl with
   |ret obj=>
    obtain⟨hT,hq⟩:=hr;have hli:=ft.init.lookup;have NS:=ft.init.bind obj
    repeat (any_goals (first|assumption|wp_step))
    refine mj (codeAny_call_builtin ft.init.plain F.entry_object_init<|ft.init.check _ _ _ _ _ _ _ _ hT (Pj _ _ t)<|Ph prog w A.in1 (wants (λr s₂=>r=.none/\Q obj s₂) E) s₁ ⟨hT,rfl,hq⟩) λr₂ s₂ Xm=>?_;cases r₂ with
    |error e=>exact Xm|ok fl₂=>
     cases fl₂ with
     |ret r=>
      obtain⟨rfl,hq⟩:=Xm
      repeat (any_goals (first|assumption|wp_step))
     |_=>exact Xm.elim
   |_=>exact hr.elim
def EV{Q:Á->Ã->Prop}(he:bF s.heap e it k oi)(jM:s.heap.IsListIter it l i)(hl:s.heap.IsList l items)(hx:items[i]?=some x)(fN:e≠it)
 (hQ:∀h',IsEnumOut h' e it (k+1) x s.heap.objs.size->h'.IsListIter it l (i+1)->h'.get? s.heap.objs.size=some {cls:=.type "tuple",data:=.seq #[.int k s.toks,x]}->h'.objs.size=s.heap.objs.size+1->(∀b o,b≠e->b≠it->s.heap.get? b=some o->h'.get? b=some o)->Q (.ref s.heap.objs.size) {s with heap:=h',toks:=s.toks+1}):
 Ï (Ø prog w) A (my.«enumerate.__next__» ⟨[.ref e],[]⟩) (λn_ s'=>∃v,n_=.done (.ret v)/\Q v s') E s:=by
 obtain⟨hp,g,d,tk,os⟩:=s;show Ï _ _ (cA (.ref e) 2>>=_) _ _ _;refine Ñ<|Ž he rfl (x:=.ref it) rfl ?_;refine Ñ (wpAny_nextOf_list_item jM hl hx λha Q7 sa=>?_)
 replace sa:ŧ it hp ha:=sa
 have ea:bF ha e it k oi:=(sa.2 e fN).trans he;show Ï _ _ (cA (.ref e) 3>>=_) _ _ ⟨ha,g,d,tk,os⟩;refine Ñ<|Ž ea rfl (x:=aP k) rfl ?_;show Ï _ _ (cA (.ref e) 4>>=_) _ _ ⟨ha,g,d,tk,os⟩;refine Ñ<|Ž ea rfl (x:=.none) rfl ?_;show Ï _ _ (mkInt k>>=_) _ _ ⟨ha,g,d,tk,os⟩;refine Ñ<|wpAny_mkInt ?_;show Ï _ _ (setField (.ref e) 3 (aP<|k+1)>>=_) _ _ ⟨ha,g,d,tk+1,os⟩;refine Ñ (dq ea (by simp) λhb eb sb=>?_)
 replace sb:ŧ e ha hb:=sb
 replace eb:bF hb e it (k+1) oi:=eb
 show Ï _ _ (setField (.ref e) 4 .none>>=_) _ _ ⟨hb,g,d,tk+1,os⟩;refine Ñ (dq eb (by simp) λhc ec sc=>?_)
 replace sc:ŧ e hb hc:=sc
 replace ec:bF hc e it (k+1) oi:=ec
 show Ï _ _ (newTuple [.int k tk,x]>>=_) _ _ ⟨hc,g,d,tk+1,os⟩;refine Ñ<|wpAny_newTuple ?_;have ed:bF (hc.push {cls:=.type "tuple",data:=.seq #[.int k tk,x]}) e it (k+1) oi:=ø _ ec;generalize JJ:hc.push {cls:=.type "tuple",data:=.seq #[.int k tk,x]}=hd at ed;have kW:hc.objs.size=hp.objs.size:=by rw[sc.1,sb.1,sa.1]
 have Xn:e<hp.objs.size:=ü he;have td:hd.get? hp.objs.size=some {cls:=.type "tuple",data:=.seq #[.int k tk,x]}:=by rw[<-JJ,<-kW];exact Ĥ _ rfl
 have zd:hd.objs.size=hp.objs.size+1:=by rw[<-JJ,Ϫ,kW]
 have kd:∀b o,b≠e->b≠it->hp.get? b=some o->hd.get? b=some o:=λb o zH NS q=>by rw[<-JJ];exact ø _<|sc.extBut b o zH<|sb.extBut b o zH<|sa.extBut b o NS q
 have itd:hd.IsListIter it l (i+1):=by rw[<-JJ];obtain⟨o,ho,r⟩:=(Q7.extBut sb.extBut<|Ė fN).extBut sc.extBut (Ė fN);exact⟨o,ø _ ho,r⟩
 show Ï _ _ (mF (.ref e)>>=_) _ _ ⟨hd,g,d,tk+1,os⟩;rw[kW];clear JJ ec sc eb sb ea sa Q7 kW hc hb ha;refine Ñ ?_
 ·unfold mF;refine Ñ<|Ž ed rfl (x:=.none) rfl<|Ą ?_;simp only[if_true];refine Ñ<|sB ?_;refine Ñ<|Ž ed rfl (x:=oi) rfl ?_;refine Ñ (dq ed (by simp) λh5 e5 s5=>?_)
  replace s5:ŧ e hd h5:=s5
  replace e5:bF h5 e it (k+1) x:=e5
  show Ï _ _ (sG (.ref e) (.ref hp.objs.size)>>=_) _ _ ⟨h5,g,d,tk+1,os⟩;refine Ñ ?_
  ·unfold sG;refine Ñ (dq e5 (by simp) λh6 e6 s6=>?_)
   replace s6:ŧ e h5 h6:=s6
   replace e6:IsEnumOut h6 e it (k+1) x hp.objs.size:=e6
   refine dq e6 (by simp) λh7 e7 s7=>?_
   replace s7:ŧ e h6 h7:=s7
   replace e7:IsEnumOut h7 e it (k+1) x hp.objs.size:=e7
   refine Ñ<|io<|Ą ⟨_,rfl,hQ h7 e7 ?_ ?_ ?_ ?_⟩
   ·exact((itd.extBut s5.extBut<|Ė fN).extBut s6.extBut (Ė fN)).extBut s7.extBut (Ė fN)
   ·exact s7.extBut _ _ (cx Xn)<|s6.extBut _ _ (cx Xn)<|s5.extBut _ _ (cx Xn) td
   ·rw[s7.1,s6.1,s5.1,zd]
   ·exact λb o zH NS q=>s7.extBut b o zH<|s6.extBut b o zH<|s5.extBut b o zH<|kd b o zH NS q
def Me(he:bF s.heap e it k oi)(jM:s.heap.IsListIter it l i)(hl:s.heap.IsList l items)(hx:items[i]?=some x)(fN:e≠it)
 (hQ:∀h',IsEnumOut h' e it (k+1) x s.heap.objs.size->h'.IsListIter it l (i+1)->h'.get? s.heap.objs.size=some {cls:=.type "tuple",data:=.seq #[.int k s.toks,x]}->h'.objs.size=s.heap.objs.size+1->(∀b o,b≠e->b≠it->s.heap.get? b=some o->h'.get? b=some o)->Q (some<|.ref s.heap.objs.size) {s with heap:=h',toks:=s.toks+1}):
 Ï (Ø prog w) A (aO<|.ref e) Q E s:=by
 have hT:s.TypeIs (.ref e) "enumerate":=⟨_,he,rfl⟩;unfold aO;exact Ñ<|sC<|mz (name:=Ì "__next__") hT sI<|mB sI hT Cn (EV he jM hl hx fN λh' a b c d k=>Ą<|hQ h' a b c d k)<|Co _
def Bq(hh:A.handled=none)(he:bF s.heap e it k oi)(jM:s.heap.IsListIter it l i)(hl:s.heap.IsList l items)(hx:items[i]?=none)
 (hQ:∀h',sO it s.heap h'->Q none {s with heap:=h'}):Ï (Ø prog w) A (aO<|.ref e) Q E s:=by
 have hT:s.TypeIs (.ref e) "enumerate":=⟨_,he,rfl⟩;unfold aO;refine Ñ<|sC<|mz (name:=Ì "__next__") hT sI<|mB sI hT Cn ?_ (Co _);show Ï _ _ (cA (.ref e) 2>>=_) _ _ _;refine Ñ<|Ž he rfl (x:=.ref it) rfl ?_;refine Ñ<|wpAny_nextOf_list_end hh jM hl hx λh' x Xo NR=>?_;obtain⟨o,ho,hc⟩:=NR;refine Ñ<|wpAny_isInstance (T:="StopIteration") (b:=true) ⟨o,ho,hc⟩ isSubtype_stop ?_;exact Ą<|hQ _ Xo
end
end Sh
end PySem
namespace P
open PySem PySem.Spec PyProof.Rows L2 M2 M3 M4
section
variable{X:Cx}{Å:List (À×Obj)}{σ:ć}{H:Hp}{s:Ã}{h':Ò}
def turns{fp:List À}(I:Inv X Å σ H s)(k:∀b o,b∉fp->s.heap.get? b=some o->h'.get? b=some o)(hf:∀b∈fp,fZ X Å H b):Inv X Å σ H {s with heap:=h',toks:=t'}:=by
 have NZ:∀b u,H b=some u->b∉fp:=λb u e z=>by rw[(hf b z).1]at e;cases e
 have hL:X.env.locals∉fp:=λz=>(hf _ z).2.1 rfl;refine I.step (g':=s.gens) (d':=s.drawn) (ch:=fp) (λb hb=>?_) (λb o x x hc e x=>k b o hc e) (λb o x x hc e x=>⟨o.slots,k b o hc e⟩) (λx x x x n=>n)
  (λb o hc e=>⟨o,k b o hc e⟩) (λx x e=>e) (λx x x e=>e) (λb ps e=>e) (λm hm=>?_) (λb u e=>?_) I.bare
 ·obtain⟨f0,f1,f2,f3,f4,f5⟩:=hf b hb;exact⟨f3,f1,f4,f5⟩
 ·obtain⟨o,es,ep,ho,r⟩:=hm;exact⟨o,es,ep,k _ o hL ho,r⟩
 ·refine(I.hok b u e).stay (λc v hc q=>k c v ?_ q) (λx q=>q) λx x q=>q;rcases hc with z|z
  ·rw[z];exact NZ b u e
  ·exact NZ c _ z
def Mf(f:fZ X Å H b)(h:b≠a):fZ X Å (upd H a o) b:=⟨by rw[ñ h];exact f.1,f.2⟩
def uw{fp:List À}(I:Inv X Å σ H s)(r1:RelV x1 u1)(r2:RelV x2 u2)(ht:∃o,h'.get? s.heap.objs.size=some o/\o={cls:=.type "tuple",data:=.seq #[u1,u2]})
 (k:∀b o,b∉fp->s.heap.get? b=some o->h'.get? b=some o)(hf:∀b∈fp,fZ X Å H b)(kX:∀b∈fp,b<s.heap.objs.size):
 Inv X Å σ (upd H s.heap.objs.size<|.tup [x1,x2]) {s with heap:=h',toks:=t'}:=by
 have I1:Inv X Å σ (upd H s.heap.objs.size<|.tup [x1,x2]) {s with heap:=s.heap.push {cls:=.type "tuple",data:=.seq #[u1,u2]},toks:=s.toks}:=
  I.laid (t':=s.toks) (λb u e=>ø _ e) (ö _) ⟨by show 2<=sizeLine;decide,[u1,u2],.cons r1<|.cons r2 .nil,⟨_,Ĥ _ rfl,rfl,_,rfl⟩⟩
 refine turns (fp:=fp) (s:={s with heap:=s.heap.push {cls:=.type "tuple",data:=.seq #[u1,u2]},toks:=s.toks}) (h':=h') (t':=t') I1 (λb o hb e=>?_) λb hb=>Mf (hf b hb)<|İ<|kX b hb;rcases Heap.get?_push_cases e with⟨rfl,rfl⟩|e
 ·obtain⟨o,h1,h2⟩:=ht;rw[h1,h2]
 ·exact k b o hb e
end
def IV(z:Nat)(K:Î)(a:À):It:=
 ⟨λi H=>∃xs x,Ϧ K H a xs/\xs[i]?=some x,λi H y H'=>∃x T,(∀xs,Ϧ K H a xs->xs[i]?=some x)/\H T=none/\y=.ref T/\H'=upd H T (.tup [.int ((i+z:Nat):Int),x]),λi H=>∃xs,Ϧ K H a xs/\xs.length<=i⟩
abbrev Ite:=IV 0
def wf(z:Nat){K:Î}(a e it:À)(fN:e≠it):BL P w K (.Tuple elts k pos) (IV z K a) [e,it] e (λi h=>(∃oi,bF h e it (((i+z:Nat):Int)) oi)/\h.IsListIter it a i) where
 mem:=by simp
 obj:=λi h st b hb=>by
  obtain⟨⟨oi,he⟩,jM⟩:=st;rcases û.mp hb with rfl|hb
  ·exact⟨_,he,fun v z=>by have z':xO _=oM v:=z;cases z'⟩
  ·have e':b=it:=by simpa using hb
   subst e';obtain⟨o,e1,c,d⟩:=jM;exact⟨o,e1,λv z=>by rw[d]at z;cases z⟩
 keep:=λi h h' st k=>⟨let ⟨oi,he⟩:=st.1;⟨oi,k e (by simp) _ he⟩,st.2.at λo q=>k it (by simp) o q⟩
 item:=by
  intro X hP hw hK hc i Å s f H E I hf st hg;subst hP hw hK;obtain⟨⟨oi,he⟩,jM⟩:=st;obtain⟨xs,x,hq,hx⟩:=hg;obtain⟨Ē,rv,p,hz⟩:=I.list hq;obtain⟨u,hu,ru⟩:=rv.get hx;have elt:e<s.heap.objs.size:=ü he;have ilt:it<s.heap.objs.size:=by obtain⟨_,q,_⟩:=jM;exact ü q
  refine Sh.Me he jM p.isList (x:=u) (by simpa using hu) fN λh' ho Nh hT kW hk=>?_;refine⟨.ref s.heap.objs.size,rfl,wpAny_letOwnedTupleGo_enum ho λNi Xo HE=>?_⟩;have uY:ŧ e h' Ni:=HE;have kX:∀b∈[e,it],b<s.heap.objs.size:=λb hb=>by
   rcases û.mp hb with rfl|hb
   ·exact elt
   ·have e':b=it:=by simpa using hb
    subst e';exact ilt
  have I2:=uw (fp:=[e,it]) (h':=Ni) (t':=s.toks+1) (x1:=.int<|((i+z:Nat):Int)) I ⟨s.toks,rfl⟩ ru ⟨_,(uY.2 _<|cx elt).trans hT,rfl⟩ (λb o hb q=>by have zH:b≠e:=λz=>hb (by simp[z]);have NS:b≠it:=λz=>hb (by simp[z]);exact(uY.2 b zH).trans (hk b o zH NS q)) hf kX;refine⟨.ref s.heap.objs.size,_,I2,rfl,⟨x,s.heap.objs.size,λys hy=>by rw[I.tN hy hq];exact hx,I.fresh,rfl,rfl⟩,⟨⟨u,?_⟩,Nh.at λo q=>(uY.2 it fN.symm).trans q⟩,λb hb=>?_⟩
  ·have he2:bF Ni e it ((((i+z:Nat):Int))+1) u:=Xo;show bF Ni e it (((i+1+z:Nat):Int)) u;rw[show(((i+1+z:Nat):Int))=((i+z:Nat):Int)+1 by lia];exact he2
  ·rw[ñ<|İ<|kX b hb];exact(hf b hb).1
 done:=by intro X hP hw hK hc i Å s f H E I hf st hg;subst hP hw hK;obtain⟨⟨oi,he⟩,jM⟩:=st;obtain⟨xs,hq,hx⟩:=hg;obtain⟨Ē,rv,p,hz⟩:=I.list hq;have hl:=rv.length;refine Sh.Bq (I.ok.hd hc) he jM p.isList (by simp;lia) λh' eb=>⟨rfl,turns (fp:=[e,it]) (t':=s.toks) I (λb o hb q=>eb b o (λz=>hb<|by simp[z]) q) hf⟩
 self:=λy y y y y st h=>let ⟨_,he⟩:=st.1;xI he h
section
variable{X:Cx}{elts:List Ç}{k:Nat}{tp:Pos}
def Pm(K:Î)(ta:TA):TI:=λb H R=>ta b H λvs H1=>∃a,vs=[.ref a]/\(∃xs,Ϧ K H1 a xs)/\R (Ite K a) H1
def IW{l:Ç}{ta:TA}{p pos:Pos}(hg:Gl X "enumerate")(hm:X.mg "enumerate"=none)(ha:PA X [l] ta)(hs:Ð [l] X.env=[(false,eval l X.env)]:=by exact Ĺ rfl):PI X (.Tuple elts k tp) (.Call (.Name "enumerate" p) [l] [] pos) (Pm X.K ta):=by
 intro Å s c H R I h;refine Call_<|kY I hg hm boot_enumerate<|si (ώ (ha pos Å s c H _ I h) λus s1 zz=>?_) hs rfl;obtain⟨vs,H1,I1,r1,q1⟩:=zz;obtain⟨a,e,⟨xs,hq⟩,q⟩:=q1;subst e;obtain⟨u,rfl,ru⟩:=r1.one;cases ru;obtain⟨Ē,rv,pl,hz⟩:=I1.list hq;refine call_enumerate_list pl.isList λh' he jM kW hk=>?_;have I2:Inv X Å c H1 {s1 with heap:=h'}:=I1.kept (t':=s1.toks) hk;refine xI (s:={s1 with heap:=h'}) he ⟨s1.heap.objs.size+1,[s1.heap.objs.size+1,s1.heap.objs.size],_,_,H1,rfl,I2,wf 0 a _ _<|Nat.succ_ne_self _,⟨⟨_,he⟩,jM⟩,λb hb=>?_,q⟩;have E6:s1.heap.objs.size<=b:=by
  rcases û.mp hb with rfl|hb
  ·exact xr _
  ·have e':b=s1.heap.objs.size:=by simpa using hb
   exact rY e'.symm
 exact I1.tY E6<|I1.hok.fresh E6
end
def Pn(K:KK):RR (List PV) V:=λc x x F H items v=>∃a,v=.ref a/\(∃xs,Ϧ K.K H a xs)/\iW K c.L F (JT K.K a) items
def rTs(K:KK):RR (List PV) V:=λc x x F H items v=>∃a,v=.ref a/\(∃xs,gj K.K H a xs)/\iW K c.L F (N8 K.K a) items
def Si(K:KK):RR (List PV) V:=λc a U F H items v=>Pn K c a U F H items v\/rTs K c a U F H items v
def lr{K:KK}(h:Ċ K F (.lst ps) v):∃a,v=.ref a/\(∃xs,Ϧ K.K F a xs)/\iW K L F (JT K.K a) ps:=by unfold Ċ at h;obtain⟨a,vs,rfl,e1,e2⟩:=h;refine⟨a,rfl,⟨vs,e1⟩,?_⟩;intro c' i F2 H2 b U2 Ě sF _;have hq:Ϧ K.K H2 a vs:=(sF.trans Ě.sub).seq e1;refine⟨λp hp=>?_,λhi=>⟨vs,hq,by rw[hi,e2.length];exact ö _⟩⟩;obtain⟨u,hu,ru⟩:=bT e2.pr hp;refine⟨⟨vs,u,hq,hu⟩,λx H' zz=>?_⟩;obtain⟨hH,hx⟩:=zz;subst hH;have:vs[i]?=some x:=hx vs hq;rw[hu]at this;cases this;exact⟨F2,Ě,Ú.refl _,Ú.refl _,Ċ.same sF p u ru⟩
def GF{K:KK}(h:Ċ K F (.tup ps) v):∃a,v=.ref a/\(∃xs,gj K.K F a xs)/\iW K L F (N8 K.K a) ps:=by unfold Ċ at h;obtain⟨a,vs,rfl,e1,e2⟩:=h;refine⟨a,rfl,⟨vs,e1⟩,?_⟩;intro c' i F2 H2 b U2 Ě sF _;have hq:gj K.K H2 a vs:=Ú.tup (sF.trans Ě.sub) e1;refine⟨λp hp=>?_,λhi=>⟨vs,hq,by rw[hi,e2.length];exact ö _⟩⟩;obtain⟨u,hu,ru⟩:=bT e2.pr hp;refine⟨⟨vs,u,hq,hu⟩,λx H' zz=>?_⟩;obtain⟨hH,hx⟩:=zz;subst hH;have:vs[i]?=some x:=hx vs hq;rw[hu]at this;cases this;exact⟨F2,Ě,Ú.refl _,Ú.refl _,Ċ.same sF p u ru⟩
def wg{K:KK}{c:Ctx}(h2:c.L a=some (.lst vs))(h3:é K F ps vs):iW K c.L F (JT K.K a) ps:=by intro c' j F2 H2 b U2 Ě sF sL;have hq:Ϧ K.K H2 a vs:=Ϧ.of<|sL a _ h2;refine⟨λp hp=>?_,λhi=>⟨vs,hq,by rw[hi,h3.length];exact ö _⟩⟩;obtain⟨u,hu,ru⟩:=bT h3.pr hp;refine⟨⟨vs,u,hq,hu⟩,λx H' zz=>?_⟩;obtain⟨hH,hx⟩:=zz;subst hH;have:vs[j]?=some x:=hx vs hq;rw[hu]at this;cases this;exact⟨F2,Ě,Ú.refl _,Ú.refl _,Ċ.same sF p u ru⟩
def iW.mono{K:KK}(h:iW K L F J ps)(s:Ú F F1):iW K L F1 J ps:=λc i F2 H a U rel sF sL=>h c i F2 H a U rel (s.trans sF) sL
@[simp]def Sj(m:M PV)(U:Ĉ):į (List PV):=(m U).bind fun p U1=>match p with
  |.lst ps=>.ok ps U1|_=>.bad
noncomputable def EA(i:Nat):M (List PV):=λU=>match U[i]?with
 |some (.bw ps)=>.ok ps U|some (.sh<|.lst ps)=>.ok ps U|some (.ow ps)=>.ok ps<|U.set i<|.sh<|.lst ps|_=>.bad
noncomputable def GG(i:Nat):M (List PV):=λU=>match U[i]?with
 |some (.bw ps)=>.ok ps U|some (.sh<|.lst ps)=>.ok ps U|some (.sh<|.tup ps)=>.ok ps U|some (.ow ps)=>.ok ps<|U.set i<|.sh<|.lst ps|_=>.bad
section
variable{X:Cx}{cm:String->À}{E:ć->XK}{e:Ç}{m:M PV}
def Vh(h:PE X e (tV (kk X cm) E m)):PE X e (tG (kk X cm) E (Pn<|kk X cm)<|Sj m):=PE.wk h λb H Q ⟨c,F,U,rel,h⟩=>⟨c,F,U,rel,h.bind λp U1 v F1 H1 ä s1 s2 q h1=>by
 cases p with
 |lst ps=>obtain⟨a,e1,⟨xs,e2⟩,e3⟩:=lr (L:=c.L) (show Ċ (kk X cm) F1 (.lst ps) v from q);exact h1 v F1 H1 ä Đ Đ ⟨a,e1,⟨xs,ä.sub.seq e2⟩,e3⟩|_=>exact h1.elim⟩
def J8(i:Nat){x:Str}{px:Pos}(hk:D8 X i x=true:=by kernel_rfl):PE X (.Name x px) (tG (kk X cm) E (Si<|kk X cm)<|GG i):=PE.wk (nq hk)<|by
 rintro b H Q ⟨c,F,U,rel,h⟩;unfold GG at h;cases e:U[i]?with
 |none=>rw[e]at h;exact h.elim|some sl=>
  rw[e]at h;cases sl with
  |no=>exact h.elim|rc C ns ps=>exact h.elim|ot ps qs rs=>exact h.elim|ol nO=>exact h.elim|fr nO=>exact h.elim|pw ps=>exact h.elim|pin=>exact h.elim|bn qs rows=>exact h.elim|dw gv=>exact h.elim|ow ps=>obtain⟨a,vs,z1,z2,z3,z4⟩:=rel.share e;obtain⟨a',e1,⟨xs,e2⟩,e3⟩:=lr (L:=c.L) z3;cases e1;exact⟨.ref a,z1,h _ _ H z4 (Ú.upd z2) Đ<|.inl ⟨a,rfl,⟨xs,z4.sub.seq e2⟩,e3⟩⟩|bw ps=>obtain⟨a,vs,h1,h2,h3⟩:=rel.slot i _ e;exact⟨.ref a,ŀ h1,h _ F H rel Đ Đ<|.inl ⟨a,rfl,⟨vs,Ϧ.of (rel.lent a _ h2).1⟩,wg h2 h3⟩⟩|sh p=>
   obtain⟨v,h1,h2⟩:=rel.slot i _ e;cases p with
   |lst ps=>obtain⟨a,e1,⟨xs,e2⟩,e3⟩:=lr (L:=c.L) h2;exact⟨v,ŀ h1,h v F H rel Đ Đ<|.inl ⟨a,e1,⟨xs,rel.sub.seq e2⟩,e3⟩⟩|tup ps=>obtain⟨a,e1,⟨xs,e2⟩,e3⟩:=GF (L:=c.L) h2;exact⟨v,ŀ h1,h v F H rel Đ Đ<|.inr ⟨a,e1,⟨xs,Ú.tup rel.sub e2⟩,e3⟩⟩|_=>exact h.elim
def GH(i:Nat){x:Str}{px:Pos}(hk:D8 X i x=true:=by kernel_rfl):PE X (.Name x px) (tG (kk X cm) E (Pn<|kk X cm)<|EA i):=PE.wk (nq hk)<|by
 rintro b H Q ⟨c,F,U,rel,h⟩;unfold EA at h;cases e:U[i]?with
 |none=>rw[e]at h;exact h.elim|some sl=>
  rw[e]at h;cases sl with
  |no=>exact h.elim|rc C ns ps=>exact h.elim|ot ps qs rs=>exact h.elim|ol nO=>exact h.elim|fr nO=>exact h.elim|pw ps=>exact h.elim|pin=>exact h.elim|bn qs rows=>exact h.elim|dw gv=>exact h.elim|ow ps=>obtain⟨a,vs,z1,z2,z3,z4⟩:=rel.share e;obtain⟨a',e1,⟨xs,e2⟩,e3⟩:=lr (L:=c.L) z3;cases e1;exact⟨.ref a,z1,h _ _ H z4 (Ú.upd z2) Đ ⟨a,rfl,⟨xs,z4.sub.seq e2⟩,e3⟩⟩|bw ps=>obtain⟨a,vs,h1,h2,h3⟩:=rel.slot i _ e;exact⟨.ref a,ŀ h1,h _ F H rel Đ Đ ⟨a,rfl,⟨vs,Ϧ.of (rel.lent a _ h2).1⟩,wg h2 h3⟩⟩|sh p=>
   obtain⟨v,h1,h2⟩:=rel.slot i _ e;cases p with
   |lst ps=>obtain⟨a,e1,⟨xs,e2⟩,e3⟩:=lr (L:=c.L) h2;exact⟨v,ŀ h1,h v F H rel Đ Đ ⟨a,e1,⟨xs,rel.sub.seq e2⟩,e3⟩⟩|_=>exact h.elim
noncomputable def b_:Nat->List PV->List PV
 |_,[]=>[]|k,p::ps=>.tup [.int k,p]::b_ (k+1) ps
theorem wj:∀(k:Nat) (ps:List PV),(b_ k ps).length=ps.length
 |_,[]=>rfl|k,_::ps=>congrArg (·+1)<|wj (k+1) ps
theorem wl:∀(k:Nat) (ps:List PV) (i:Nat),(b_ k ps)[i]?=ps[i]?.map λp=>.tup [.int ((k+i:Nat):Int),p]
 |_,[],_=>rfl|k,p::ps,0=>rfl|k,p::ps,i+1=>by show(b_ (k+1) ps)[i]?=_;rw[wl (k+1) ps i,rS,show k+1+i=k+(i+1) by lia]
@[simp]def Dx(m:M (List PV))(U:Ĉ):į (List PV):=(m U).bind λps U1=>.ok (b_ 0 ps) U1
def DA{K:KK}(rel:Ĕ K c F H a U)(hT:H T=none)(r1:Ċ K F p x)(r2:Ċ K F q y):Ĕ K c (upd F T<|.tup [x,y]) (upd H T<|.tup [x,y]) a U/\Ċ K (upd F T<|.tup [x,y]) (.tup [p,q]) (.ref T):=by have hF:=rel.sub.free hT;refine⟨rel.alloc hT,?_⟩;unfold Ċ;exact⟨T,[x,y],rfl,gj.of Ā,é.cons (Ċ.same (Ú.upd hF) p x r1)<|é.cons (Ċ.same (Ú.upd hF) q y r2) é.nil⟩
def ux(z:Nat){K:KK}(h:iW K L F (JT K.K a) ps):iW K L F (IV z K.K a) (b_ z ps):=by
 intro c i F2 H b U rel sF sL;obtain⟨g,st⟩:=h c i F2 H b U rel sF sL;refine⟨λp hp=>?_,λhi=>st<|by rw[hi,wj]⟩;rw[wl,r_ z i]at hp;cases eq:ps[i]?with
 |none=>rw[eq]at hp;cases hp|some q=>rw[eq]at hp;cases hp;obtain⟨⟨xs,x,hq,hx⟩,g2⟩:=g q eq;refine⟨⟨xs,x,hq,hx⟩,λy H' zz=>?_⟩;obtain⟨x',T,h1,hT,ey,eH⟩:=zz;subst ey eH;obtain⟨F3,gX,s3,_,rp⟩:=g2 x' H ⟨rfl,h1⟩;obtain⟨r1,r2⟩:=DA (p:=.int ((i+z:Nat):Int)) (x:=.int ((i+z:Nat):Int)) gX hT (by unfold Ċ;rfl) rp;exact⟨_,r1,s3.trans<|Ú.upd<|gX.sub.free hT,Ú.upd hT,r2⟩
def EB{K:KK}(h:iW K L F (JT K.K a) ps):iW K L F (Ite K.K a) (b_ 0 ps):=ux 0 h
def Br{elts:List Ç}{k:Nat}{tp p pos:Pos}{mi:M (List PV)}(hg:Gl X "enumerate")(hm:X.mg "enumerate"=none)(hl:PE X e (tG (kk X cm) E (Pn<|kk X cm) mi))(hs:Ð [e] X.env=[(false,eval e X.env)]:=by exact Ĺ rfl):
 PI X (.Tuple elts k tp) (.Call (.Name "enumerate" p) [e] [] pos) (tI (kk X cm) E<|Dx mi):=λÅ s b H R I h=>IW hg hm (ϭ hl cG hs) hs Å s b H R I (by
 obtain⟨c,F,U,rel,h⟩:=h;refine⟨c,F,U,rel,h.bind λps U1 v F1 H1 ä s1 s2 q h1=>?_⟩;obtain⟨a,e1,e2,e3⟩:=q;subst e1;exact⟨a,rfl,e2,h1 _ F1 H1 ä Đ Đ<|EB e3⟩)
@[simp]def IX(i:Nat)(mo:M RV)(U:Ĉ):į Fl:=match U[i]?with
  |some (.ow _)=>(mo U).bind λr U1=>match U1[i]?,r with
   |some (.ow ps),.ow qs=>if ps.length+qs.length<=16777216then .ok .nx (U1.set i<|.ow<|ps++qs)else .bad|_,_=>.bad
  |_=>.bad
def DB{d:ć}(h:tS (kk X cm) E (IX i mo) D d H):tQ (Np X.K "list" CN (iS i) (Fs (tO (kk X cm) E mo) Fq)) D d H:=by
 obtain⟨c,F,U,rel,h⟩:=h;unfold IX at h;cases e1:U[i]?with
 |none=>rw[e1]at h;exact h.elim|some sl=>
  rw[e1]at h;cases sl with
  |ow Uk=>
   obtain⟨a,Ul,z1,z2,z3,z4,z5,z6⟩:=rel.ow e1;refine⟨.ref a,z1,.inl ⟨rfl,_,Ϧ.of z2⟩,c,F,U,rel,?_⟩;refine ϊ.bind h λr U1 v F1 H1 ä s1 q h1=>?_;cases e2:U1[i]?with
   |none=>simp only[e2]at h1;exact h1.elim|some EU=>
    simp only[e2]at h1;cases EU with
    |ow ps=>
     cases r with
     |ow qs=>
      obtain⟨b,us,eb,Xe,Xb,hb3,hb4,Yn⟩:=q;subst eb;obtain⟨a2,vs,w1,w2,w3,w4,w5,w6⟩:=ä.ow e2;rw[z1]at w1;cases w1;dsimp only at h1;split at h1
      ·rename_i hz;refine⟨a,b,vs,us,rfl,rfl,w2,Xe,by rw[<-w5.length,<-Yn.length,Ĩ];exact hz,h1 d F1 _ (ä.write w6 z1 ⟨a,vs++us,rfl,Ā,w3,w4,é.append w5 Yn⟩ λx z=>(V.ref.inj z).symm) Đ⟩
      ·exact h1.elim
     |_=>exact h1.elim
    |_=>exact h1.elim
  |_=>exact h.elim
@[simp]theorem Vi{i:Nat}{U:Ĉ}:EA i U=(match U[i]?with
  |some (.bw ps)=>.ok ps U|some (.sh<|.lst ps)=>.ok ps U|some (.ow ps)=>.ok ps<|U.set i<|.sh<|.lst ps|_=>.bad):=rfl
@[simp]theorem Vj{i:Nat}{U:Ĉ}:GG i U=(match U[i]?with
  |some (.bw ps)=>.ok ps U|some (.sh<|.lst ps)=>.ok ps U|some (.sh<|.tup ps)=>.ok ps U|some (.ow ps)=>.ok ps<|U.set i<|.sh<|.lst ps|_=>.bad):=rfl
end
def Po:XO X .BitOr (ipI λi j=>mD i j):=by intro Å s a H x y v u Q I r1 r2 h;obtain⟨i,j,e1,e2,q⟩:=h;subst e1;subst e2;obtain⟨t,rfl⟩:=r1;obtain⟨t',rfl⟩:=r2;exact ior_int ⟨.int _,H,I.tok _,⟨_,rfl⟩,q⟩
@[simp]def wo(i:Nat)(m:M PV)(U:Ĉ):į Fl:=match U[i]?with
  |some (.sh<|.int _)=>(m U).bind λq U1=>match U1[i]?,q with
   |some (.sh<|.int k),.int j=>.ok .nx<|U1.set i<|.sh<|.int<|mD k j|_,_=>.bad
  |_=>.bad
section
variable{X:Cx}{cm:String->À}{E:ć->XK}{e:Ç}{m:M PV}{pos:Pos}
def yW{K:KK}(h:Ċ K F (.int i) v):v=.int i:=by unfold Ċ at h;exact h
def yX{i:Nat}{x:Str}{bh:Pos}(hN:X.N.Nodup)(hi:X.N[i]?=some x)(hx:Loc X.env.scope x)(he:PE X e (tV (kk X cm) E m))(hf:X.fn x=true\/X.env.scope.names.lookup x=some .local:=by first|exact .inl rfl|exact .inr rfl|assumption):
 PS X (.AugAssign (.Name x bh) .BitOr e pos) (tS (kk X cm) E<|wo i m):=PS.wk (K5 hN hi hx he Po hf)<|by
 rintro D a H ⟨c,F,U,rel,h⟩;unfold wo at h;cases e1:U[i]?with
 |none=>rw[e1]at h;exact h.elim|some sl=>
  rw[e1]at h;cases sl with
  |sh p=>
   cases p with
   |int k0=>
    obtain⟨v,h1,h2⟩:=rel.slot i _ e1;cases yW h2;refine⟨.int k0,ŀ h1,c,F,U,rel,ϊ.bind h λq U1 u F1 H1 ä s1 rq vh=>?_⟩;cases e2:U1[i]?with
    |none=>simp only[e2]at vh;exact vh.elim|some EU=>
     simp only[e2]at vh;cases EU with
     |sh p2=>
      cases p2 with
      |int k=>
       cases q with
       |int j=>obtain⟨v2,w1,w2⟩:=ä.slot i _ e2;cases yW w2;rw[h1]at w1;cases w1;cases yW rq;exact⟨k0,j,rfl,rfl,vh _ F1 H1 (ä.put rfl ⟨_,rfl,Ċ.int⟩) Đ⟩|_=>exact vh.elim
      |_=>exact vh.elim
     |_=>exact vh.elim
   |_=>exact h.elim
  |_=>exact h.elim
end
section
variable{prog:ë}{w:â}{A:ê}{E:Á->Ã->Prop}{s:Ã}
def pG{items}(jM:s.heap.IsTupleIter it l i)
 (hl:s.heap.IsTuple l items)(hx:items[i]?=some x)
 (hQ:∀h',h'.IsTupleIter it l (i+1)->ŧ it s.heap h'->Q x {s with heap:=h'}):
 Ï (Ø prog w) A (iq<|.ref it) Q E s:=by
 obtain⟨o,ho,hc,hd⟩:=id jM;obtain⟨ol,Hi,_,nl,Xp⟩:=hl;unfold iq;refine Ñ (mz (name:=Ì "__next__") jM.typeIs sJ
  (mB sJ jM.typeIs Cp ?_ (Cr _)))
 show Ï _ _ (cA (.ref it) 0>>=_) _ _ s;refine Ñ<|Ž ho hd (x:=.ref l) rfl ?_;show Ï _ _ (if(Ń l==Value.none)=true then _ else _) _ _ s;rw[if_neg<|show ¬((Ń l==Value.none)=true)from bE];show Ï _ _ (cA (.ref it) 1>>=_) _ _ s;refine Ñ<|Ž ho hd (x:=.int i 0) rfl ?_;show Ï _ _ (im (.ref l)>>=_) _ _ s;refine Ñ<|di Hi Xp ?_;simp only[wX,hx];refine Ñ (wpAny_setField ho hd (by simp)<|Ą ⟨x,rfl,Ą<|hQ _ ?_ (oO ..)⟩);exact⟨_,Cw _ ho<|Obj.isFreed_of_fields<|Obj.data_mapFields hd _,(Obj.cls_mapFields ..).trans hc,by
  rw[Obj.data_mapFields hd];simp[aP]⟩
def qu{items}(hh:A.handled=none)
 (jM:s.heap.IsTupleIter it l i)(hl:s.heap.IsTuple l items)(hx:items[i]?=none)
 (hE:∀h' e,sO it s.heap h'->(∃o,h'.get? e=some o/\o.cls=.type "StopIteration")->E (.ref e) {s with heap:=h'}):
 Ï (Ø prog w) A (iq<|.ref it) Q E s:=by
 obtain⟨o,ho,hc,hd⟩:=id jM;obtain⟨ol,Hi,_,nl,Xp⟩:=hl;unfold iq;refine Ñ (mz (name:=Ì "__next__") jM.typeIs sJ
  (mB sJ jM.typeIs Cp ?_ (Cr _)))
 show Ï _ _ (cA (.ref it) 0>>=_) _ _ s;refine Ñ<|Ž ho hd (x:=.ref l) rfl ?_;show Ï _ _ (if(Ń l==Value.none)=true then _ else _) _ _ s;rw[if_neg<|show ¬((Ń l==Value.none)=true)from bE];show Ï _ _ (cA (.ref it) 1>>=_) _ _ s;refine Ñ<|Ž ho hd (x:=.int i 0) rfl ?_;show Ï _ _ (im (.ref l)>>=_) _ _ s;refine Ñ<|di Hi Xp ?_;simp only[wX,hx];refine Ñ (sB<|Ñ<|wpAny_setField ho hd (by simp) ?_);show Ï _ _ (newExc (.type "StopIteration") []>>=_) _ _ _;refine Ñ ?_;simp only[newExc,newTuple];refine Ñ (xE ?_ (by size_fits));refine Ñ (m:=firstArgMember _ _) (wpAny_of_eq (a:=Value.none) (by first|rfl|(simp only[firstArgMember];rfl)) ?_);refine xE ?_ (by size_fits);simp only[raiseNew];refine Ñ (wpAny_handled ?_)
 first|rw[show A.in1.handled=none from hh]|rw[hh]
 refine Ñ<|Ą<|wpAny_throw ?_;exact hE _ _ (((oO ..).extBut.push _).push _) ⟨_,Ĥ _ rfl,rfl⟩
end
def Ah(hh:A.handled=none)(it l:À)(fN:l≠it)(items:Array Á):
 eP prog w A it [it,l] items.size (λi v=>items[i]?=some v) (λi h=>h.IsTupleIter it l i/\h.IsTuple l items) where
 live:=λy y st=>let ⟨o,ho,_⟩:=st.1;⟨o,ho⟩
 frame:=λy y y st hk=>⟨let ⟨o,ho,r⟩:=st.1;⟨o,hk it (by simp) o ho,r⟩,let ⟨o,ho,r⟩:=st.2;⟨o,hk l (by simp) o ho,r⟩⟩
 item:=λi s Q E hi st hQ=>by refine pG st.1 st.2 (x:=items[i]) (by simp[hi]) λh' Nh HE=>?_;exact hQ _ h' s.toks (by simp[hi]) ⟨Nh,st.2.extBut HE.extBut fN⟩ HE
 done:=λs Q E st hE=>qu hh st.1 st.2 (by simp) hE
structure Ny(z TI TO i1 i2:À)(f1 f2:List À):Prop where
 TIz:TI≠z
 TOz:TO≠z
 i1z:i1≠z
 i2z:i2≠z
 TITO:TI≠TO
 TIi1:TI≠i1
 TIi2:TI≠i2
 TOi1:TO≠i1
 TOi2:TO≠i2
 i12:i1≠i2
 z1:z∉f1
 z2:z∉f2
 t1:TO∉f1
 t2:TO∉f2
 a1:i1∉f2
 a2:i2∉f1
section
variable{prog:ë}{w:â}{A:ê}{E:Á->Ã->Prop}{s:Ã}
def uy{z TI TO i1 i2:À}{Q:Á->Ã->Prop}(D:Ny z TI TO i1 i2 f1 f2)
 (D1:eP prog w A i1 f1 n1 P1 S1)(D2:eP prog w A i2 f2 n2 P2 S2)
 (hz:ϩ s.heap z TI TO .none)(zC:ŗ s.heap TI (.ref i1) (.ref i2))(zJ:ŗ s.heap TO a b)(h1:S1 k1 s.heap)(h2:S2 k2 s.heap)(Q8:k1<n1)(Xq:k2<n2)
 (hQ:∀x y h' tk,P1 k1 x→P2 k2 y→ϩ h' z TI TO (aP s.heap.objs.size)→ŗ h' TO x y→S1 (k1+1) h'→S2 (k2+1) h'→ŗ h' s.heap.objs.size x y→h'.objs.size=s.heap.objs.size+1→
   (∀c o,c≠z->c≠TO->c≠i1->c≠i2->s.heap.get? c=some o->h'.get? c=some o)->Q (.ref s.heap.objs.size) {s with heap:=h',toks:=tk}):
 Ï (Ø prog w) A (my.«zip.__next__» ⟨[.ref z],[]⟩) (λn_ s'=>∃v,n_=.done (.ret v)/\Q v s') E s:=by
 have J9:∀{b},b∈f1->b≠z/\b≠TO/\b≠i2:=λhb=>⟨λe=>D.z1<|e▸hb,λe=>D.t1<|e▸hb,λe=>D.a2<|e▸hb⟩;have IY:∀{b},b∈f2->b≠z/\b≠TO/\b≠i1:=λhb=>⟨λe=>D.z2<|e▸hb,λe=>D.t2<|e▸hb,λe=>D.a1<|e▸hb⟩;obtain⟨hp,g,d,tk0,os⟩:=s;show Ï _ _ (cA (.ref z) 2>>=_) _ _ _;refine Ñ<|Ž hz rfl (x:=.bool false) rfl ?_;show Ï _ _ (cA (.ref z) 3>>=_) _ _ _;refine Ñ<|Ž hz rfl (x:=.ref TI) rfl ?_;refine Ñ<|di zC rfl ?_;show Ï _ _ (mF (.ref z)>>=_) _ _ _;refine Ñ ?_;unfold mF;refine Ñ<|Ž hz rfl (x:=.none) rfl<|Ą ?_;simp only[if_true];refine Ñ<|sB ?_;refine Ñ<|Ž hz rfl (x:=.ref TO) rfl ?_;refine Ñ (dq hz (by simp) λh₁ Kx AR=>?_)
 replace AR:ŧ z hp h₁:=AR
 replace Kx:ϩ h₁ z TI TO .ellipsis:=Kx
 refine Ñ ?_;simp only[List.zipIdx_cons,List.zipIdx_nil,oq,xf];refine Ñ<|Ñ<|sD ?_;show Ï _ _ (iq (.ref i1)>>=_) _ _ _;refine Ñ (D1.item k1 _ _ _ Q8 (D1.frame _ _ _ h1 λb hb o e=>AR.extBut b o (J9 hb).1 e) λx h₂ tk Tr Zac zD=>Ą ?_)
 replace zD:ŧ i1 h₁ h₂:=zD
 have Hm:ŗ h₂ TO a b:=zD.extBut _ _ D.TOi1<|AR.extBut _ _ D.TOz zJ;refine Ñ<|di Hm rfl ?_;refine Ñ (xJ Hm λh₃ JM AS=>?_)
 replace AS:ŧ TO h₂ h₃:=AS
 replace JM:ŗ h₃ TO x b:=JM
 refine Ñ<|io<|Ą ?_;refine Ñ<|Ñ<|sD ?_;show Ï _ _ (iq (.ref i2)>>=_) _ _ _;refine Ñ (D2.item k2 _ _ _ Xq (D2.frame _ _ _ h2 λb hb o e=>AS.extBut b o (IY hb).2.1 (zD.extBut b o (IY hb).2.2 (AR.extBut b o (IY hb).1 e))) λy h₄ Ku Xr Zam E7=>Ą ?_)
 replace E7:ŧ i2 h₃ h₄:=E7
 have Q9:ŗ h₄ TO x b:=E7.extBut _ _ D.TOi2 JM;refine Ñ<|di Q9 rfl ?_;refine Ñ (xJ Q9 λh₅ JN HF=>?_)
 replace HF:ŧ TO h₄ h₅:=HF
 replace JN:ŗ h₅ TO x y:=JN
 refine Ñ<|io<|Ą<|Ą ?_;refine Ñ<|di JN rfl ?_;refine Ñ<|wpAny_newTuple ?_;have kW:h₅.objs.size=hp.objs.size:=by rw[HF.1,E7.1,AS.1,zD.1,AR.1]
 have Zad:ϩ h₅ z TI TO .ellipsis:=HF.extBut _ _ D.TOz.symm<|E7.extBut _ _ D.i2z.symm<|AS.extBut _ _ D.TOz.symm<|zD.extBut _ _ D.i1z.symm Kx;have Zan:∀c o,c≠z->c≠TO->c≠i1->c≠i2->hp.get? c=some o->h₅.get? c=some o:=λc o c1 c2 c3 c4 e=>
  HF.extBut _ _ c2 (E7.extBut _ _ c4<|AS.extBut _ _ c2<|zD.extBut _ _ c3<|AR.extBut _ _ c1 e)
 have Zao:S1 (k1+1) h₅:=D1.frame _ _ _ Zac λb hb o e=>HF.extBut b o (J9 hb).2.1 (E7.extBut b o (J9 hb).2.2 (AS.extBut b o (J9 hb).2.1 e));have Zap:S2 (k2+1) h₅:=D2.frame _ _ _ Zam λb hb o e=>HF.extBut b o (IY hb).2.1 e;have Ra:z<h₅.objs.size:=ü Zad;show Ï _ _ (sG (.ref z) (.ref h₅.objs.size)>>=_) _ _ _;refine Ñ ?_;unfold sG;have Zaq:ϩ (h₅.push {cls:=.type "tuple",data:=.seq #[x,y]}) z TI TO .ellipsis:=ø _ Zad;refine Ñ (dq Zaq (by simp) λh₇ Xs Xt=>?_)
 replace Xs:ϩ h₇ z TI TO (aP h₅.objs.size):=Xs
 refine dq Xs (by simp) λh₈ Ts Xu=>?_
 replace Ts:ϩ h₈ z TI TO (aP h₅.objs.size):=Ts
 have up:∀c o,c≠z->h₅.get? c=some o->h₈.get? c=some o:=λc o c1 e=>Xu.extBut _ _ c1<|Xt.extBut _ _ c1<|ø _ e;have Zae:ŗ h₈ h₅.objs.size x y:=Xu.extBut _ _ (cx Ra)<|Xt.extBut _ _ (cx Ra)<|Ĥ _ rfl;have hz8:h₈.objs.size=h₅.objs.size+1:=by rw[Xu.1,Xt.1,Ϫ]
 rw[kW]at Ts Zae hz8;refine Ą ⟨_,rfl,?_⟩;show Q (.ref h₅.objs.size) _;rw[kW];exact hQ x y h₈ Ku Tr Xr Ts (up _ _ D.TOz JN) (D1.frame _ _ _ Zao λb hb o e=>up b o (J9 hb).1 e) (D2.frame _ _ _ Zap λb hb o e=>up b o (IY hb).1 e) Zae hz8 λc o c1 c2 c3 c4 e=>up c o c1<|Zan c o c1 c2 c3 c4 e
def vt{z TI TO i1 i2:À}(D:Ny z TI TO i1 i2 f1 f2)
 (D1:eP prog w A i1 f1 n1 P1 S1)(D2:eP prog w A i2 f2 n2 P2 S2)
 (hz:ϩ s.heap z TI TO .none)(zC:ŗ s.heap TI (.ref i1) (.ref i2))(zJ:ŗ s.heap TO a b)(h1:S1 k1 s.heap)(h2:S2 k2 s.heap)(JO:k1=n1\/(k1<n1/\k2=n2))
 (hE:∀h' e tk,(∀c o,c≠z->c≠TO->c≠i1->c≠i2->s.heap.get? c=some o->h'.get? c=some o)->(∃o,h'.get? e=some o/\o.cls=.type "StopIteration")->E (.ref e) {s with heap:=h',toks:=tk}):
 Ï (Ø prog w) A (my.«zip.__next__» ⟨[.ref z],[]⟩) Q E s:=by
 have J9:∀{b},b∈f1->b≠z/\b≠TO/\b≠i2:=λhb=>⟨λe=>D.z1<|e▸hb,λe=>D.t1<|e▸hb,λe=>D.a2<|e▸hb⟩;have IY:∀{b},b∈f2->b≠z/\b≠TO/\b≠i1:=λhb=>⟨λe=>D.z2<|e▸hb,λe=>D.t2<|e▸hb,λe=>D.a1<|e▸hb⟩;obtain⟨hp,g,d,tk0,os⟩:=s;show Ï _ _ (cA (.ref z) 2>>=_) _ _ _;refine Ñ<|Ž hz rfl (x:=.bool false) rfl ?_;show Ï _ _ (cA (.ref z) 3>>=_) _ _ _;refine Ñ<|Ž hz rfl (x:=.ref TI) rfl ?_;refine Ñ<|di zC rfl ?_;show Ï _ _ (mF (.ref z)>>=_) _ _ _;refine Ñ ?_;unfold mF;refine Ñ<|Ž hz rfl (x:=.none) rfl<|Ą ?_;simp only[if_true];refine Ñ<|sB ?_;refine Ñ<|Ž hz rfl (x:=.ref TO) rfl ?_;refine Ñ (dq hz (by simp) λh₁ Kx AR=>?_)
 replace AR:ŧ z hp h₁:=AR
 replace Kx:ϩ h₁ z TI TO .ellipsis:=Kx
 refine Ñ ?_;simp only[List.zipIdx_cons,List.zipIdx_nil,oq,xf];refine Ñ<|Ñ<|sD ?_;show Ï _ _ (iq (.ref i1)>>=_) _ _ _;rcases JO with rfl|⟨Q8,rfl⟩
 ·refine Ñ<|D1.done _ _ _ (D1.frame _ _ _ h1 λb hb o e=>AR.extBut b o (J9 hb).1 e) λh₂ e zD he=>?_;obtain⟨oe,Nj,Rb⟩:=he
  replace zD:sO i1 h₁ h₂:=zD
  have Zaf:ϩ h₂ z TI TO .ellipsis:=zD _ _ D.i1z.symm Kx;have Xv:e≠z:=λx=>by subst x;rw[Zaf]at Nj;cases Nj;simp at Rb
  exact dq Zaf (by simp) λh₃ y AS=>hE h₃ e tk0 (λc o c1 y c3 y x=>AS.extBut _ _ c1<|zD _ _ c3<|AR.extBut _ _ c1 x) ⟨oe,AS.extBut _ _ Xv Nj,Rb⟩
 ·refine Ñ (D1.item k1 _ _ _ Q8 (D1.frame _ _ _ h1 λb hb o e=>AR.extBut b o (J9 hb).1 e) λx h₂ tk Tr Zac zD=>Ą ?_)
  replace zD:ŧ i1 h₁ h₂:=zD
  have Hm:ŗ h₂ TO a b:=zD.extBut _ _ D.TOi1<|AR.extBut _ _ D.TOz zJ;refine Ñ<|di Hm rfl ?_;refine Ñ (xJ Hm λh₃ JM AS=>?_)
  replace AS:ŧ TO h₂ h₃:=AS
  refine Ñ<|io<|Ą ?_;refine Ñ<|Ñ<|sD ?_;show Ï _ _ (iq (.ref i2)>>=_) _ _ _;refine Ñ<|D2.done _ _ _ (D2.frame _ _ _ h2 λb hb o e=>AS.extBut b o (IY hb).2.1 (zD.extBut b o (IY hb).2.2 (AR.extBut b o (IY hb).1 e))) λh₄ e E7 he=>?_;obtain⟨oe,Nj,Rb⟩:=he
  replace E7:sO i2 h₃ h₄:=E7
  have Zag:ϩ h₄ z TI TO .ellipsis:=E7 _ _ D.i2z.symm<|AS.extBut _ _ D.TOz.symm<|zD.extBut _ _ D.i1z.symm Kx;have Xv:e≠z:=λx=>by subst x;rw[Zag]at Nj;cases Nj;simp at Rb
  exact dq Zag (by simp) λh₅ y HF=>hE h₅ e tk (λc o c1 c2 c3 c4 x=>HF.extBut _ _ c1<|E7 _ _ c4<|AS.extBut _ _ c2<|zD.extBut _ _ c3<|AR.extBut _ _ c1 x) ⟨oe,HF.extBut _ _ Xv Nj,Rb⟩
end
section
variable{prog:ë}{w:â}{A:ê}{E:Á->Ã->Prop}{s:Ã}
def qv{z TI TO i1 i2:À}(D:Ny z TI TO i1 i2 f1 f2)
 (D1:eP prog w A.in1 i1 f1 n1 P1 S1)(D2:eP prog w A.in1 i2 f2 n2 P2 S2)
 (hz:ϩ s.heap z TI TO .none)(zC:ŗ s.heap TI (.ref i1) (.ref i2))(zJ:ŗ s.heap TO a b)(h1:S1 k1 s.heap)(h2:S2 k2 s.heap)(Q8:k1<n1)(Xq:k2<n2)
 (hQ:∀x y h' tk,P1 k1 x→P2 k2 y→ϩ h' z TI TO (aP s.heap.objs.size)→ŗ h' TO x y→S1 (k1+1) h'→S2 (k2+1) h'→ŗ h' s.heap.objs.size x y→h'.objs.size=s.heap.objs.size+1→
   (∀c o,c≠z->c≠TO->c≠i1->c≠i2->s.heap.get? c=some o->h'.get? c=some o)->Q (some<|.ref s.heap.objs.size) {s with heap:=h',toks:=tk}):
 Ï (Ø prog w) A (aO<|.ref z) Q E s:=by
 have hT:s.TypeIs (.ref z) "zip":=⟨_,hz,rfl⟩;unfold aO;exact Ñ<|sC (mz (name:=Ì "__next__") hT sK
  (mB sK hT F.entry_zip_next
    (uy D D1 D2 hz zC zJ h1 h2 Q8 Xq λx y h' tk a0 b0 a1 a2 a3 a4 a5 a6 a7=>Ą<|hQ x y h' tk a0 b0 a1 a2 a3 a4 a5 a6 a7) (F.args_zip_next_1 _)))
def rn{z TI TO i1 i2:À}(D:Ny z TI TO i1 i2 f1 f2)
 (D1:eP prog w A.in1 i1 f1 n1 P1 S1)(D2:eP prog w A.in1 i2 f2 n2 P2 S2)
 (hz:ϩ s.heap z TI TO .none)(zC:ŗ s.heap TI (.ref i1) (.ref i2))(zJ:ŗ s.heap TO a b)(h1:S1 k1 s.heap)(h2:S2 k2 s.heap)(JO:k1=n1\/(k1<n1/\k2=n2))
 (hQ:∀h' tk,(∀c o,c≠z->c≠TO->c≠i1->c≠i2->s.heap.get? c=some o->h'.get? c=some o)->Q none {s with heap:=h',toks:=tk}):Ï (Ø prog w) A (aO<|.ref z) Q E s:=by
 have hT:s.TypeIs (.ref z) "zip":=⟨_,hz,rfl⟩;unfold aO;refine Ñ<|sC (mz (name:=Ì "__next__") hT sK
  (mB sK hT F.entry_zip_next (vt D D1 D2 hz zC zJ h1 h2 JO λh' e tk hk he=>?_)<|F.args_zip_next_1 _))
 obtain⟨o,ho,hc⟩:=he;refine Ñ<|wpAny_isInstance (T:="StopIteration") (b:=true) ⟨o,ho,hc⟩ isSubtype_stop ?_;exact Ą<|hQ _ _ hk
end
def vf(K:Î)(b:Bool)(H:Hp)(a:À)(xs:List V):Prop:=if b=true then gj K H a xs else Ϧ K H a xs
def kI(b:Bool)(h:Ò)(it l:À)(i:Nat):Prop:=if b=true then h.IsTupleIter it l i else h.IsListIter it l i
def EC(b:Bool)(h:Ò)(l:À)(Ē:Array Á):Prop:=if b=true then h.IsTuple l Ē else h.IsList l Ē
noncomputable def Nz(b:Bool):String:=if b=true then "tuple_iterator"else "list_iterator"
def tz(b:Bool)(hh:A.handled=none)(it l:À)(fN:l≠it)(items:Array Á):
 eP prog w A it [it,l] items.size (λi v=>items[i]?=some v) (λi h=>kI b h it l i/\EC b h l items):=by
 cases b with
 |true=>exact Ah hh it l fN items|false=>exact Draws.list hh it l fN items
def kI.ex(x:kI b h it l i):∃o,h.get? it=some o/\o.cls=.type (Nz b)/\o.data=.fields #[.ref l,.int i 0]:=by
 cases b with
 |true=>exact x|false=>exact x
def kI.of(h1:h.get? it=some o)(h2:o.cls=.type (Nz b))(h3:o.data=.fields #[.ref l,.int i 0]):kI b h it l i:=by
 cases b with
 |true=>exact⟨o,h1,h2,h3⟩|false=>exact⟨o,h1,h2,h3⟩
def kI.keep(x:kI b h it l i)(k:∀o,h.get? it=some o->h'.get? it=some o):kI b h' it l i:=by obtain⟨o,h1,h2,h3⟩:=x.ex;exact .of (k o h1) h2 h3
def IZ(K:Î)(b:Bool)(H:Hp)(l:À)(i:Nat)(xs:List V):Prop:=xs.length<=i/\∀j,j<i->∃ys y,vf K b H l ys/\ys[j]?=some y
def Vk(K:Î)(b1 b2:Bool)(l1 l2:À):It:=
 ⟨λi H=>(∃xs x,vf K b1 H l1 xs/\xs[i]?=some x)/\∃ys y,vf K b2 H l2 ys/\ys[i]?=some y,
  λi H z H'=>∃x y T,(∀xs,vf K b1 H l1 xs->xs[i]?=some x)/\(∀ys,vf K b2 H l2 ys->ys[i]?=some y)/\H T=none/\z=.ref T/\H'=upd H T (.tup [x,y]),
  λi H=>(∃xs,vf K b1 H l1 xs)/\(∃ys,vf K b2 H l2 ys)/\((∃xs,vf K b1 H l1 xs/\IZ K b1 H l1 i xs)\/((∃xs x,vf K b1 H l1 xs/\xs[i]?=some x)/\∃ys,vf K b2 H l2 ys/\IZ K b2 H l2 i ys))⟩
section
variable{X:Cx}{Å:List (À×Obj)}{σ:ć}{H:Hp}{s:Ã}
def wp(I:Inv X Å σ H s)(h:vf X.K b H a xs):∃Ē:List Á,Ō xs Ē/\EC b s.heap a Ē.toArray/\xs.length<=sizeLine:=by
 cases b with
 |true=>obtain⟨Ē,r,p,z⟩:=I.tuple h;exact⟨Ē,r,p,z⟩|false=>obtain⟨Ē,r,p,z⟩:=I.list h;exact⟨Ē,r,p.isList,z⟩
def wr(I:Inv X Å σ H s)(h:vf X.K b H a xs)(h':vf X.K b H a ys):xs=ys:=by
 cases b with
 |true=>exact I.vD h h'|false=>exact I.tN h h'
def Ka(I:Inv X Å σ H s)(h:vf X.K b H l xs)(q:IZ X.K b H l i xs):xs.length=i:=by
 obtain⟨h1,h2⟩:=q;refine Nat.le_antisymm h1 ?_;cases i with
 |zero=>lia|succ i=>obtain⟨ys,y,e1,e2⟩:=h2 i (by lia);rw[wr I e1 h]at e2;have:=(aL.mp e2).1;lia
def DC(I:Inv X Å σ H s)(f:fZ X Å H b)(h:vf X.K bb H a xs):a≠b:=by
 intro e;subst e;have hk:∀o,X.K.lookup a=some o->False:=λo e=>by
  have hb:=I.ok.mod.Hq a o e;rcases f.2.2.2.1 with z|z
  ·exact I.ok.zK a o hb z
  ·exact absurd (š (ü (I.ok.bs a o hb).1) z)<|aN _
 have hr:∀u,Rd H a u->False:=λu r=>by rcases r with r|⟨o,r⟩<;>(rw[f.1]at r;cases r)
 cases bb with
 |true=>
  have h':gj X.K H a xs:=h;rcases h' with q|⟨o,_,_,q,_⟩
  ·exact hr _ q
  ·exact hk o q
 |false=>
  have h':Ϧ X.K H a xs:=h;rcases h' with q|⟨o,_,_,q,_⟩
  ·exact hr _ q
  ·exact hk o q
end
def GI{K:Î}(b1 b2:Bool)(l1 l2 z TI TO i1 i2:À)(nd:[z,TI,TO,i1,i2].Nodup):
 BL P w K (.Tuple elts k pos) (Vk K b1 b2 l1 l2) [z,TI,TO,i1,i2] z (λi h=>ϩ h z TI TO .none/\ŗ h TI (.ref i1) (.ref i2)/\(∃a b,ŗ h TO a b)/\kI b1 h i1 l1 i/\kI b2 h i2 l2 i) where
 mem:=by simp
 obj:=λi h st b hb=>by
  obtain⟨hz,zC,⟨x,y,zJ⟩,h1,h2⟩:=st;simp only[û,cw,or_false]at hb;rcases hb with rfl|rfl|rfl|rfl|rfl
  ·exact⟨_,hz,λv z=>by have z':xO _=oM v:=z;cases z'⟩
  ·exact⟨_,zC,λv z=>by have z':Data.seq _ _=oM v:=z;cases z'⟩
  ·exact⟨_,zJ,λv z=>by have z':Data.seq _ _=oM v:=z;cases z'⟩
  ·obtain⟨o,e1,c,d⟩:=h1.ex;exact⟨o,e1,λv z=>by rw[d]at z;cases z⟩
  ·obtain⟨o,e1,c,d⟩:=h2.ex;exact⟨o,e1,λv z=>by rw[d]at z;cases z⟩
 keep:=λi h h' st k=>by obtain⟨hz,zC,⟨x,y,zJ⟩,h1,h2⟩:=st;exact⟨k z (by simp) _ hz,k TI (by simp) _ zC,⟨x,y,k TO (by simp) _ zJ⟩,h1.keep λo q=>k i1 (by simp) o q,h2.keep λo q=>k i2 (by simp) o q⟩
 item:=by
  intro X hP hw hK hc i Å s f H E I hf st hg;subst hP hw hK;obtain⟨hz,zC,⟨a,b,zJ⟩,h1,h2⟩:=st;obtain⟨⟨xs,x,HG,hx⟩,ys,y,D0,hy⟩:=hg;obtain⟨Bs,Sk,p1,_⟩:=wp I HG;obtain⟨gZ,Sn,p2,_⟩:=wp I D0;obtain⟨u1,Ky,Vl⟩:=Sk.get hx;obtain⟨u2,Kz,Vm⟩:=Sn.get hy;have Hk:∀b∈[z,TI,TO,i1,i2],l1≠b:=λb hb=>DC I (hf b hb) HG;have Hl:∀b∈[z,TI,TO,i1,i2],l2≠b:=λb hb=>DC I (hf b hb) D0;have hh:X.A.in1.handled=none:=I.ok.hd hc;simp only[cZ,û,cw,or_false,not_or,List.nodup_nil,not_false_eq_true,and_true]at nd;obtain⟨⟨n1,n2,n3,n4⟩,⟨n5,n6,n7⟩,⟨n8,n9⟩,Nk⟩:=nd;have D:Ny z TI TO i1 i2 [i1,l1] [i2,l2]:=by
   refine⟨Ė n1,Ė n2,Ė n3,Ė n4,n5,n6,n7,n8,n9,Nk,?_,?_,?_,?_,?_,?_⟩<;>simp only[û,cw,or_false,not_or]
   ·exact⟨n3,(Hk z<|by simp).symm⟩
   ·exact⟨n4,(Hl z<|by simp).symm⟩
   ·exact⟨n8,(Hk TO<|by simp).symm⟩
   ·exact⟨n9,(Hl TO<|by simp).symm⟩
   ·exact⟨Nk,(Hl i1<|by simp).symm⟩
   ·exact⟨Ė Nk,(Hk i2<|by simp).symm⟩
  have lt1:i<Bs.toArray.size:=by rw[Ģ];exact(aL.mp Ky).1
  have Nr:i<gZ.toArray.size:=by rw[Ģ];exact(aL.mp Kz).1
  have kX:∀b∈[z,TI,TO,i1,i2],b<s.heap.objs.size:=λb hb=>by
   simp only[û,cw,or_false]at hb;rcases hb with rfl|rfl|rfl|rfl|rfl
   ·exact ü hz
   ·exact ü zC
   ·exact ü zJ
   ·obtain⟨o,e1,_⟩:=h1.ex;exact ü e1
   ·obtain⟨o,e1,_⟩:=h2.ex;exact ü e1
  refine qv D (tz (A:=X.A.in1) b1 hh i1 l1 (Hk i1<|by simp) Bs.toArray) (tz (A:=X.A.in1) b2 hh i2 l2 (Hl i2<|by simp) gZ.toArray) hz zC zJ ⟨h1,p1⟩ ⟨h2,p2⟩ lt1 Nr λx' y' h' tk Tr Xr hz' Vn s1 s2 hT kW hk=>?_;have ex:x'=u1:=by have:Bs.toArray[i]?=some x':=Tr;rw[show Bs.toArray[i]?=some u1 by simpa using Ky]at this;exact(ı this).symm
  have ey:y'=u2:=by have:gZ.toArray[i]?=some y':=Xr;rw[show gZ.toArray[i]?=some u2 by simpa using Kz]at this;exact(ı this).symm
  subst ex ey;refine⟨.ref s.heap.objs.size,rfl,wpAny_letOwnedTupleGo_zip hz' λNi Xw HE=>?_⟩;have uY:ŧ z h' Ni:=HE;have I2:=uw (fp:=[z,TI,TO,i1,i2]) (h':=Ni) (t':=tk) I Vl Vm ⟨_,(uY.2 _<|cx<|kX z<|by simp).trans hT,rfl⟩ (λb o hb q=>by have fN:∀c∈[z,TI,TO,i1,i2],b≠c:=λc hc e=>hb<|e▸hc;exact(uY.2 b<|fN z<|by simp).trans (hk b o (fN z<|by simp) (fN TO<|by simp) (fN i1<|by simp) (fN i2<|by simp) q)) hf kX;refine⟨.ref s.heap.objs.size,_,I2,rfl,⟨x,y,s.heap.objs.size,λzs Hn=>by rw[wr I Hn HG];exact hx,λzs Hn=>by rw[wr I Hn D0];exact hy,I.fresh,rfl,rfl⟩,
   ⟨Xw,(uY.2 TI<|Ė n1).trans (hk TI _ (Ė n1) n5 n6 n7 zC),⟨_,_,(uY.2 TO<|Ė n2).trans Vn⟩,s1.1.keep λo q=>(uY.2 i1<|Ė n3).trans q,s2.1.keep λo q=>(uY.2 i2<|Ė n4).trans q⟩,λb hb=>?_⟩
  rw[ñ<|İ<|kX b hb];exact(hf b hb).1
 done:=by
  intro X hP hw hK hc i Å s f H E I hf st hg;subst hP hw hK;obtain⟨hz,zC,⟨a,b,zJ⟩,h1,h2⟩:=st;obtain⟨⟨xs,HG⟩,⟨ys,D0⟩,Rc⟩:=hg;have JO:xs.length=i\/(i<xs.length/\ys.length=i):=by
   rcases Rc with⟨xs',q1,q2⟩|⟨⟨xs',x,q1,q2⟩,ys',q3,q4⟩
   ·left;rw[wr I HG q1];exact Ka I q1 q2
   ·right
    rw[wr I HG q1,wr I D0 q3];exact⟨(aL.mp q2).1,Ka I q3 q4⟩
  obtain⟨Bs,Sk,p1,_⟩:=wp I HG;obtain⟨gZ,Sn,p2,_⟩:=wp I D0;have Ho:=Sk.length;have DW:=Sn.length;have Hk:∀b∈[z,TI,TO,i1,i2],l1≠b:=λb hb=>DC I (hf b hb) HG;have Hl:∀b∈[z,TI,TO,i1,i2],l2≠b:=λb hb=>DC I (hf b hb) D0;have hh:X.A.in1.handled=none:=I.ok.hd hc;simp only[cZ,û,cw,or_false,not_or,List.nodup_nil,not_false_eq_true,and_true]at nd;obtain⟨⟨n1,n2,n3,n4⟩,⟨n5,n6,n7⟩,⟨n8,n9⟩,Nk⟩:=nd;have D:Ny z TI TO i1 i2 [i1,l1] [i2,l2]:=by
   refine⟨Ė n1,Ė n2,Ė n3,Ė n4,n5,n6,n7,n8,n9,Nk,?_,?_,?_,?_,?_,?_⟩<;>simp only[û,cw,or_false,not_or]
   ·exact⟨n3,(Hk z<|by simp).symm⟩
   ·exact⟨n4,(Hl z<|by simp).symm⟩
   ·exact⟨n8,(Hk TO<|by simp).symm⟩
   ·exact⟨n9,(Hl TO<|by simp).symm⟩
   ·exact⟨Nk,(Hl i1<|by simp).symm⟩
   ·exact⟨Ė Nk,(Hk i2<|by simp).symm⟩
  refine rn D (tz (A:=X.A.in1) b1 hh i1 l1 (Hk i1<|by simp) Bs.toArray) (tz (A:=X.A.in1) b2 hh i2 l2 (Hl i2<|by simp) gZ.toArray) hz zC zJ ⟨h1,p1⟩ ⟨h2,p2⟩ ?_ λh' tk hk=>⟨rfl,turns (fp:=[z,TI,TO,i1,i2]) (t':=tk) I (λb o hb q=>?_) hf⟩
  ·rw[Ģ,Ģ];lia
  ·have fN:∀c∈[z,TI,TO,i1,i2],b≠c:=λc hc e=>hb<|e▸hc;exact hk b o (fN z<|by simp) (fN TO<|by simp) (fN i1<|by simp) (fN i2<|by simp) q
 self:=λu u u u u st h=>wpAny_pyIter_zip st.1 h
section
abbrev So(b:Bool)(h:Ò)(l1:À):Ò:=h.push {cls:=.type<|Nz b,data:=.fields #[.ref l1,.int 0 0]}
abbrev Sq(b b':Bool)(h:Ò)(l1 l2:À):Ò:=(So b h l1).push {cls:=.type<|Nz b',data:=.fields #[.ref l2,.int 0 0]}
abbrev Sr(b b':Bool)(h:Ò)(l1 l2:À):Ò:=(Sq b b' h l1 l2).push {cls:=.type "tuple",data:=.seq #[.ref h.objs.size,.ref (So b h l1).objs.size]}
abbrev Ss(b b':Bool)(h:Ò)(l1 l2:À):Ò:=(Sr b b' h l1 l2).push {cls:=.type "tuple",data:=.seq #[.none,.none]}
abbrev Mg(b b':Bool)(h:Ò)(l1 l2:À):Ò:=(Ss b b' h l1 l2).push {cls:=.type "zip",data:=.fields #[.none,.bool false,.bool false,.ref (Sq b b' h l1 l2).objs.size,.ref (Sr b b' h l1 l2).objs.size]}
def Ai(hl:EC b s.heap l Ē)
 (hQ:Q (.ref s.heap.objs.size) {s with heap:=s.heap.push {cls:=.type<|Nz b,data:=.fields #[.ref l,.int 0 0]}}):Ï (Ø prog w) A (ia<|.ref l) Q E s:=by
 cases b with
 |true=>exact xH hl hQ|false=>exact jW hl hQ
theorem EC.push(x:EC b h l Ē)(o:Obj):EC b (h.push o) l Ē:=by
 cases b with
 |true=>exact Heap.IsTuple.push x o|false=>exact Heap.IsList.push x o
def Aj(b b':Bool)(l1 l2:À)(xs ys:Array Á):
 Meets (my.«zip.__new__» ⟨[.type "zip",.ref l1,.ref l2],[]⟩) (λx R s=>EC b s.heap l1 xs/\EC b' s.heap l2 ys/\
  R (.ok<|.ret<|.ref (Ss b b' s.heap l1 l2).objs.size) {s with heap:=Mg b b' s.heap l1 l2}):=
 .of_wp fun prog w A R s h=>by
   obtain⟨hp,g,d,tk,os⟩:=s;obtain⟨Ho,DW,h⟩:=h;have JK:=sub_zip;have hL1:EC b (xV ⟨hp,g,d,tk,os⟩) l1 xs:=Ho;have hL2:EC b' (xV ⟨hp.push {cls:=.type<|Nz b,data:=.fields #[.ref l1,.int 0 0]},g,d,tk,os⟩) l2 ys:=EC.push DW _
   wp_walk using Ai hL1,Ai hL2
   exact⟨_,rfl,h⟩
variable{prog:ë}{w:â}{A:ê}{E:Á->Ã->Prop}{s:Ã}
def Bt(Ho:EC b s.heap l1 xs)(DW:EC b' s.heap l2 ys)
 (h:∀h',ϩ h' (s.heap.objs.size+4) (s.heap.objs.size+2) (s.heap.objs.size+3) .none→ŗ h' (s.heap.objs.size+2) (.ref s.heap.objs.size) (.ref<|s.heap.objs.size+1)→
   ŗ h' (s.heap.objs.size+3) .none .none->kI b h' s.heap.objs.size l1 0->kI b' h' (s.heap.objs.size+1) l2 0->h'.objs.size=s.heap.objs.size+5->
   (∀c o,s.heap.get? c=some o->h'.get? c=some o)->Q (.ref<|s.heap.objs.size+4) {s with heap:=h'}):
 Ï (Ø prog w) A (call (.type "zip") [.ref l1,.ref l2]) Q E s:=by
 refine callType_new F.called_zip (by decide) (F.typeCall_zip_2 _ _) (F.newCall_zip_2 _ _) (λobj=>F.args_object_init_3 obj _ _) F.entry_zip_new
  (Aj b b' l1 l2 xs ys) ⟨Ho,DW,?_⟩
 have z1:(So b s.heap l1).objs.size=s.heap.objs.size+1:=Ϫ ..;have z2:(Sq b b' s.heap l1 l2).objs.size=s.heap.objs.size+2:=by rw[Ϫ,z1]
 have z3:(Sr b b' s.heap l1 l2).objs.size=s.heap.objs.size+3:=by rw[Ϫ,z2]
 have z4:(Ss b b' s.heap l1 l2).objs.size=s.heap.objs.size+4:=by rw[Ϫ,z3]
 have z5:(Mg b b' s.heap l1 l2).objs.size=s.heap.objs.size+5:=by rw[Ϫ,z4]
 have g5:(Mg b b' s.heap l1 l2).get? (Ss b b' s.heap l1 l2).objs.size=some _:=Ĥ _ rfl;have g4:(Mg b b' s.heap l1 l2).get? (Sr b b' s.heap l1 l2).objs.size=some _:=ø _<|Ĥ _ rfl;have g3:(Mg b b' s.heap l1 l2).get? (Sq b b' s.heap l1 l2).objs.size=some _:=ø _<|ø _<|Ĥ _ rfl;have g2:(Mg b b' s.heap l1 l2).get? (So b s.heap l1).objs.size=some _:=ø _<|ø _<|ø _<|Ĥ _ rfl;have g1:(Mg b b' s.heap l1 l2).get? s.heap.objs.size=some _:=ø _<|ø _<|ø _<|ø _<|Ĥ _ rfl;show _/\_;rw[z2,z3,z4]at g5;rw[z1,z2]at g3;rw[z3]at g4;rw[z1]at g2;rw[z4];exact⟨⟨_,g5,rfl⟩,h _ g5 g3 g4 (.of g1 rfl rfl) (.of g2 rfl rfl) z5 λc o x=>
  ø _ (ø _<|ø _<|ø _<|ø _ x)⟩
end
section
variable{X:Cx}{elts:List Ç}{k:Nat}{tp:Pos}
def Vo(K:Î)(ta:TA):TI:=λa H R=>ta a H λvs H1=>∃b1 b2 l1 l2,vs=[.ref l1,.ref l2]/\(∃xs,vf K b1 H1 l1 xs)/\(∃xs,vf K b2 H1 l2 xs)/\R (Vk K b1 b2 l1 l2) H1
def Mh{e1 e2:Ç}{ta:TA}{p pos:Pos}(hg:Gl X "zip")(hm:X.mg "zip"=none)(ha:PA X [e1,e2] ta)(hs:Ð [e1,e2] X.env=[(false,eval e1 X.env),(false,eval e2 X.env)]:=by exact FU rfl rfl)(uY:Ð [e2] X.env=[(false,eval e2 X.env)]:=by exact Ĺ rfl):
 PI X (.Tuple elts k tp) (.Call (.Name "zip" p) [e1,e2] [] pos) (Vo X.K ta):=by
 intro Å s a H R I h;refine Call_ (kY I hg hm boot_zip<|si (ώ (ha pos Å s a H _ I h) λus s1 zz=>?_) (by rw[hs,uY]) (by rw[uY];rfl));obtain⟨vs,H1,I1,r1,q1⟩:=zz;obtain⟨b1,b2,l1,l2,e,⟨xs,HG⟩,⟨ys,D0⟩,q⟩:=q1;subst e;obtain⟨u1,u2,rfl,Vl,Vm⟩:=vals2 r1;cases Vl;cases Vm;obtain⟨Bs,Sk,p1,_⟩:=wp I1 HG;obtain⟨gZ,Sn,p2,_⟩:=wp I1 D0;refine Bt p1 p2 λh' hz zC zJ h1 h2 kW hk=>?_;have I2:Inv X Å a H1 {s1 with heap:=h'}:=I1.kept (t':=s1.toks) hk;refine wpAny_pyIter_zip (s:={s1 with heap:=h'}) hz ⟨s1.heap.objs.size+4,[s1.heap.objs.size+4,s1.heap.objs.size+2,s1.heap.objs.size+3,s1.heap.objs.size,s1.heap.objs.size+1],_,_,H1,rfl,I2,GI b1 b2 l1 l2 _ _ _ _ _ (by simp),⟨hz,zC,⟨_,_,zJ⟩,h1,h2⟩,λb hb=>?_,q⟩;have E6:s1.heap.objs.size<=b:=by simp only[û,cw,or_false]at hb;rcases hb with rfl|rfl|rfl|rfl|rfl<;>lia
 exact I1.tY E6<|I1.hok.fresh E6
end
noncomputable def pH:List PV->List PV->List PV
 |p::ps,q::qs=>.tup [p,q]::pH ps qs|_,_=>[]
theorem Ak:∀(ps qs:List PV) (i:Nat) (r:PV),(pH ps qs)[i]?=some r->∃p q,ps[i]?=some p/\qs[i]?=some q/\r=.tup [p,q]
 |[],_,_,_,h=>by simp[pH]at h|_::_,[],_,_,h=>by simp[pH]at h|p::ps,q::qs,0,r,h=>by have h':some (PV.tup [p,q])=some r:=h;cases h';exact⟨p,q,rfl,rfl,rfl⟩|p::ps,q::qs,i+1,r,h=>Ak ps qs i r h
theorem Al:∀(ps qs:List PV),(pH ps qs).length=min ps.length qs.length
 |[],_=>by simp[pH]|_::_,[]=>by simp[pH]|_::ps,_::qs=>by show(pH ps qs).length+1=_;rw[Al ps qs,ĝ,ĝ];lia
def ED(m1 m2:M (List PV)):M (List PV):=λU=>(m1 U).bind λps U1=>(m2 U1).bind λqs U2=>.ok (pH ps qs) U2
def Pp(K:Î)(b:Bool)(a:À):It:=if b=true then N8 K a else JT K a
def uz{K:KK}(h:iW K L F (Pp K.K b a) ps)(rel:Ĕ K c F2 H d U)(sF:Ú F F2)(sL:Ú L H)(i:Nat)(p:PV)(hp:ps[i]?=some p):
 (∃xs x,vf K.K b H a xs/\xs[i]?=some x)/\∀x,(∀xs,vf K.K b H a xs->xs[i]?=some x)->∃F3,Ĕ K c F3 H d U/\Ú F2 F3/\Ċ K F3 p x:=by
 obtain⟨g,_⟩:=h c i F2 H d U rel sF sL;obtain⟨g1,g2⟩:=g p hp;cases b with
 |true=>exact⟨g1,λx hx=>let ⟨F3,r3,s3,_,rp⟩:=g2 x H ⟨rfl,hx⟩;⟨F3,r3,s3,rp⟩⟩
 |false=>exact⟨g1,λx hx=>let ⟨F3,r3,s3,_,rp⟩:=g2 x H ⟨rfl,hx⟩;⟨F3,r3,s3,rp⟩⟩
def yY{K:KK}(h:iW K L F (Pp K.K b a) ps)(rel:Ĕ K c F2 H d U)(sF:Ú F F2)(sL:Ú L H):
 ∃xs,vf K.K b H a xs/\IZ K.K b H a ps.length xs:=by
 obtain⟨_,st⟩:=h c ps.length F2 H d U rel sF sL;have ER:∃xs,vf K.K b H a xs/\xs.length<=ps.length:=by
  cases b with
  |true=>exact st rfl|false=>exact st rfl
 obtain⟨xs,h1,h2⟩:=ER;exact⟨xs,h1,h2,λj hj=>(uz h rel sF sL j _<|œ hj).1⟩
def GJ{K:KK}(h1:iW K L F (Pp K.K b1 a1) ps)(h2:iW K L F (Pp K.K b2 a2) qs):iW K L F (Vk K.K b1 b2 a1 a2) (pH ps qs):=by
 intro c i F2 H a U rel sF sL;refine⟨λr hr=>?_,λhi=>?_⟩
 ·obtain⟨p,q,hp,hq,rfl⟩:=Ak ps qs i r hr;obtain⟨g1,y1⟩:=uz h1 rel sF sL i p hp;refine⟨⟨g1,(uz h2 rel sF sL i q hq).1⟩,λz H' zz=>?_⟩;obtain⟨x,y,T,e1,e2,hT,ez,eH⟩:=zz;subst ez eH;obtain⟨F3,gX,s3,rp⟩:=y1 x e1;obtain⟨F4,ue,s4,rq⟩:=(uz h2 gX (sF.trans s3) sL i q hq).2 y e2;obtain⟨r1,r2⟩:=DA ue hT (Ċ.same s4 p x rp) rq;exact⟨_,r1,(s3.trans s4).trans (Ú.upd<|ue.sub.free hT),Ú.upd hT,r2⟩
 ·rw[Al]at hi;obtain⟨xs,x1,x2⟩:=yY h1 rel sF sL;obtain⟨ys,y1,y2⟩:=yY h2 rel sF sL;refine⟨⟨xs,x1⟩,⟨ys,y1⟩,?_⟩;by_cases hl:ps.length<=qs.length
  ·left
   have e:i=ps.length:=by lia
   exact⟨xs,x1,e▸x2⟩
  ·right
   have e:i=qs.length:=by lia
   exact⟨(uz h1 rel sF sL i _<|œ<|by lia).1,ys,y1,e▸y2⟩
def Pq{K:KK}(h:Si K c d U F H ps v):∃b a,v=.ref a/\(∃xs,vf K.K b H a xs)/\iW K c.L F (Pp K.K b a) ps:=by
 rcases h with⟨a,e1,e2,e3⟩|⟨a,e1,e2,e3⟩
 ·exact⟨false,a,e1,e2,e3⟩
 ·exact⟨true,a,e1,e2,e3⟩
section
variable{X:Cx}{cm:String->À}{E:ć->XK}{e e2:Ç}
def Pr{elts:List Ç}{k:Nat}{tp p pos:Pos}{m1 m2:M (List PV)}(hg:Gl X "zip")(hm:X.mg "zip"=none)(h1:PE X e (tG (kk X cm) E (Si<|kk X cm) m1))(h2:PE X e2 (tG (kk X cm) E (Si<|kk X cm) m2))
 (hs:Ð [e,e2] X.env=[(false,eval e X.env),(false,eval e2 X.env)]:=by exact FU rfl rfl)(uY:Ð [e2] X.env=[(false,eval e2 X.env)]:=by exact Ĺ rfl):
 PI X (.Tuple elts k tp) (.Call (.Name "zip" p) [e,e2] [] pos) (tI (kk X cm) E<|ED m1 m2):=λÅ s a H R I h=>Mh hg hm (ϭ h1 (ϭ h2 cG uY)<|by rw[hs,uY]) hs uY Å s a H R I (by
 obtain⟨c,F,U,rel,h⟩:=h;refine⟨c,F,U,rel,ak.bind h λps U1 v F1 H1 ä s1 s2 q h1=>⟨c,F1,U1,ä,ak.bind h1 λqs U2 u F2 H2 Ě s3 s4 q2 h2=>?_⟩⟩;obtain⟨b1,a1,e1,_,e3⟩:=Pq q;obtain⟨b2,a2,f1,f2,f3⟩:=Pq q2;subst e1 f1;obtain⟨xs,x1,_⟩:=yY (e3.mono s3) Ě Đ λb u e=>(Ě.lent b u e).1;exact⟨b1,b2,a1,a2,rfl,⟨xs,x1⟩,f2,h2 _ F2 H2 Ě Đ Đ<|GJ (e3.mono s3) f3⟩)
end
def I_(K:Î)(JI:Bool):R2:=λx y H Q=>∃d es a xs,Rp K H d x/\y=.ref a/\(Ϧ K H a xs\/gj K H a xs)/\o_ K H es xs/\d.canLay0=true/\jZ es=true/\d.depth<=60/\Q (.bl<|if JI then !(es.any λe=>ł e d)else es.any λe=>ł e d) H
open Classical in
noncomputable def AK(h:Ò)(d:aT)(y:Á):Bool:=if ∃e as,Reads h y e as/\e.canLay0=true/\ł e d=true then true else false
def GK(r:Reads h y e as)(hc:e.canLay0=true):AK h d y=ł e d:=by
 unfold AK;cases q:ł e d with
 |true=>rw[if_pos ⟨e,as,r,hc,q⟩]|false=>rw[if_neg];rintro ⟨e',as',r',wL,q'⟩;have:=SeqAt.Reads.unique e e' y as as' hc r r';subst this;rw[q]at q';cases q'
theorem pI:∀{us:List Á}{es:List aT}{as:List À},ReadsAll h us es as->jZ es=true->us.any (AK h d)=es.any λe=>ł e d
 |_,_,_,.nil,_=>rfl|_,_,_,.cons r rs,hc=>by unfold jZ at hc;rw[ă]at hc;rw[eG,eG,GK r hc.1,pI rs hc.2]
theorem pJ(rv:Reads s.heap v d bs)(hd:d.canLay0=true)(hu:A.units+d.depth<ż):∀{us:List Á}{es:List aT}{as:List À},ReadsAll s.heap us es as->jZ es=true->∀u∈us,SeqAt.EqAt A s u v<|AK s.heap d u
 |_,_,_,.nil,_=>λu hu=>by cases hu
 |_,_,_,.cons r rs,hc=>λu hm=>by
  unfold jZ at hc;rw[ă]at hc;rcases û.mp hm with rfl|hm
  ·rw[GK r hc.1];exact SeqAt.eqAt_reads _ _ A s _ _ _ _ r rv hc.1 hd (by lia)
  ·exact pJ rv hd hu rs hc.2 u hm
section
variable{X:Cx}
def Mi(hu:X.A.units+64<ż):aF X (ĭ .In) (I_ X.K false):=by
 intro Å s b H x y v u Q I rx ry h;obtain⟨d,es,a,xs,h1,rfl,hq,h3,h4,h5,h6,q⟩:=h;cases ry;obtain⟨as,ra⟩:=Rp.reads I d x v h1 rx;have Ky:X.A.in1.units+d.depth<ż:=by have:X.A.in1.units=X.A.units+1:=rfl;lia
 rcases hq with hq|hq
 ·obtain⟨Ē,r,pl,hz⟩:=I.list hq;obtain⟨bs,rb⟩:=o_.reads I es xs Ē h3 r;refine SeqAt.in_listAt (AK s.heap d) pl.isList (λw hw=>pJ ra h4 Ky rb h5 w<|by simpa using hw) ⟨.bl _,H,I,rfl,?_⟩;rw[show Ē.toArray.any (AK s.heap d)=Ē.any (AK s.heap d) by simp,pI rb h5];exact q
 ·obtain⟨Ē,r,pl,hz⟩:=I.tuple hq;obtain⟨bs,rb⟩:=o_.reads I es xs Ē h3 r;refine SeqAt.in_tupleAt (AK s.heap d) pl (λw hw=>pJ ra h4 Ky rb h5 w<|by simpa using hw) ⟨.bl _,H,I,rfl,?_⟩;rw[show Ē.toArray.any (AK s.heap d)=Ē.any (AK s.heap d) by simp,pI rb h5];exact q
def EE(hu:X.A.units+64<ż):aF X (ĭ .NotIn) (I_ X.K true):=by
 intro Å s b H x y v u Q I rx ry h;obtain⟨d,es,a,xs,h1,rfl,hq,h3,h4,h5,h6,q⟩:=h;cases ry;obtain⟨as,ra⟩:=Rp.reads I d x v h1 rx;have Ky:X.A.in1.units+d.depth<ż:=by have:X.A.in1.units=X.A.units+1:=rfl;lia
 rcases hq with hq|hq
 ·obtain⟨Ē,r,pl,hz⟩:=I.list hq;obtain⟨bs,rb⟩:=o_.reads I es xs Ē h3 r;refine SeqAt.notIn_listAt (AK s.heap d) pl.isList (λw hw=>pJ ra h4 Ky rb h5 w<|by simpa using hw) ⟨.bl _,H,I,rfl,?_⟩;rw[show Ē.toArray.any (AK s.heap d)=Ē.any (AK s.heap d) by simp,pI rb h5];exact q
 ·obtain⟨Ē,r,pl,hz⟩:=I.tuple hq;obtain⟨bs,rb⟩:=o_.reads I es xs Ē h3 r;refine SeqAt.notIn_tupleAt (AK s.heap d) pl (λw hw=>pJ ra h4 Ky rb h5 w<|by simpa using hw) ⟨.bl _,H,I,rfl,?_⟩;rw[show Ē.toArray.any (AK s.heap d)=Ē.any (AK s.heap d) by simp,pI rb h5];exact q
end
noncomputable def D3(JI:Bool)(p q:PV):Option PV:=match q with
 |.lst ps=>if ϝ p&&cI ps&&decide (vg p<=60)then some (.bl<|if JI then !(ps.any λy=>cK y p)else ps.any λy=>cK y p)else none
 |.tup ps=>if ϝ p&&cI ps&&decide (vg p<=60)then some (.bl<|if JI then !(ps.any λy=>cK y p)else ps.any λy=>cK y p)else none
 |_=>none
theorem yZ(h:ϝ p=true):∀{ps:List PV},cI ps=true->(jr ps).any (λe=>ł e<|je p)=ps.any λy=>cK y p
 |[],_=>rfl|y::ps,hp=>by unfold cI at hp;rw[ă]at hp;unfold jr;rw[eG,eG,yN y p hp.1 h,yZ h hp.2]
set_option tactic.hygienic true in
def GL{K:KK}:le K (I_ K.K JI) (D3 JI):=by
 intro c F H b U p q pv v u Q rel r1 r2 e k;unfold D3 at e;split at e
 ·rename_i ps;split at e
  ·rename_i hc;rw[ă,ă,decide_eq_true_eq]at hc;cases e;obtain⟨a,xs,rfl,h1,h2⟩:=r2.lst rel.sub;refine⟨je p,jr ps,a,xs,mR rel.sub hc.1.1 r1,rfl,.inl h1,o_.same rel.sub _ _<|mQ ps xs hc.1.2 h2,kn p hc.1.1,lq ps hc.1.2,by rw[ko];exact hc.2,?_⟩;rw[yZ hc.1.1 hc.1.2];exact k _ F H rel Đ Đ Ċ.bl
  ·cases e
 ·rename_i ps;split at e
  ·rename_i hc;rw[ă,ă,decide_eq_true_eq]at hc;cases e;obtain⟨a,xs,rfl,h1,h2⟩:=r2.tup rel.sub;refine⟨je p,jr ps,a,xs,mR rel.sub hc.1.1 r1,rfl,.inr h1,o_.same rel.sub _ _<|mQ ps xs hc.1.2 h2,kn p hc.1.1,lq ps hc.1.2,by rw[ko];exact hc.2,?_⟩;rw[yZ hc.1.1 hc.1.2];exact k _ F H rel Đ Đ Ċ.bl
  ·cases e
 ·cases e
def tD(h1: -(2^n:Int)<x)(h2:x<2^n):bits x<=n:=by
 refine intBits_le_iff.mpr ?_;have e:((2^n:Nat):Int)=(2:Int)^n:=by simp
 have:((x.natAbs:Nat):Int)<((2^n:Nat):Int):=by rw[e];lia
 lia
def Ps(h:y≠0)(h1: -18446744073709551616<y)(h2:y<18446744073709551616):nv x y=true:=Dp h (Ţ (tD (n:=64) (by lia)<|by lia)<|by decide)
@[simp]theorem Su{x:Int}{n:Nat}(h:n≠0)(h2:n<18446744073709551616):nv x (no_index (Ż n):Int)=true:=by have e:(no_index (Ż n):Int)=(n:Int):=rfl;rw[e];exact Ps (by lia) (by lia) (by lia)
@[simp]theorem Pu{x:Int}{n:Nat}(h:n<18446744073709551616):ľ x (no_index (Ż n):Int)=true:=by have e:(no_index (Ż n):Int)=(n:Int):=rfl;rw[e];exact Kv (by lia) (by lia)
@[simp]theorem Pw{x:Int}{n:Nat}(h:n<18446744073709551616):ľ (no_index (Ż n):Int) x=true:=by have e:(no_index (Ż n):Int)=(n:Int):=rfl;rw[e];exact ό (by lia) (by lia)
@[simp]theorem Sv{m n:Nat}(h:m<18446744073709551616)(h2:n≤1000000):zY (no_index (Ż m):Int) (no_index (Ż n):Int)=true:=by have e:(no_index (Ż m):Int)=(m:Int):=rfl;have e2:(no_index (Ż n):Int)=(n:Int):=rfl;rw[e,e2];unfold zY;simp;lia
@[simp]theorem Px{x:Int}{n:Nat}:x.fdiv (no_index (Ż n):Int)=x/(no_index (Ż n):Int):=rG x<|wV n
@[simp]theorem Py{x:Int}{n:Nat}:x.fmod (no_index (Ż n):Int)=x%(no_index (Ż n):Int):=wW x<|wV n
def vc(h:xs.length+ys.length<=16777216):Ă (.lst xs) (.lst ys)=some (.ow<|xs++ys):=by unfold Ă;simp[h]
def Mj:cK (.tup [.int x,.int y]) (.tup [.int z,.int w])=(decide (x=z)&&decide (y=w)):=by
 rw[cK.eq_def];show jq [.int x,.int y] [.int z,.int w]=_;rw[jq.eq_def];show(cK (.int x) (.int z)&&jq [.int y] [.int w])=_;rw[jq.eq_def];show(cK (.int x) (.int z)&&(cK (.int y) (.int w)&&jq [] []))=_;have h1:cK (.int x) (.int z)=decide (x=z):=by rw[cK.eq_def];rfl
 have h2:cK (.int y) (.int w)=decide (y=w):=by rw[cK.eq_def];rfl
 have h3:jq [] []=true:=by rw[jq.eq_def]
 rw[h1,h2,h3,Bool.and_true]
mutual
theorem uA:∀p:PV,ϝ p=true->cK p p=true
 |.non,_=>by unfold cK;rfl|.bl b,_=>by unfold cK;simp|.int i,_=>by unfold cK;simp|.str x,_=>by unfold cK;simp|.lst xs,h=>by unfold ϝ at h;unfold cK;exact qw xs h|.tup xs,h=>by unfold ϝ at h;unfold cK;exact qw xs h|.ins _ _ _,h=>by simp[ϝ]at h|.xc _ _ _,h=>by simp[ϝ]at h|.ty _,h=>by simp[ϝ]at h|.cls _,h=>by simp[ϝ]at h|.E_ _ _,h=>by simp[ϝ]at h
theorem qw:∀ps:List PV,cI ps=true->jq ps ps=true
 |[],_=>by unfold jq;rfl|p::ps,h=>by unfold cI at h;rw[ă]at h;unfold jq;rw[uA p h.1,qw ps h.2];rfl
end
def EG(h:ϝ p=true)(hd:vg p<=60):Œ p p=some (.bl true):=by unfold Œ rk;rw[h,uA p h,decide_eq_true (by lia:min (vg p) (vg p)<=60)];rfl
def ϙ(ha:ę a=true)(hb:ę b=true):Œ (.str a) (.str b)=some (.bl<|decide<|a=b):=by
 have h:cK (.str a) (.str b)=decide (a=b):=by unfold cK;rfl
 unfold Œ rk;rw[show ϝ (.str a)=true by unfold ϝ;exact ha,show ϝ (.str b)=true by unfold ϝ;exact hb,h];rfl
def GN(ha:ę a=true)(hb:ę b=true):cX (.str a) (.str b)=some (.bl<|!decide (a=b)):=by
 have h:cK (.str a) (.str b)=decide (a=b):=by unfold cK;rfl
 unfold cX rk;rw[show ϝ (.str a)=true by unfold ϝ;exact ha,show ϝ (.str b)=true by unfold ϝ;exact hb,h];rfl
section
variable{g:Tg}{mb:M Fl}{mt:M Bool}{me:M PV}
theorem gm{α β:Type}(c:α->PV)(step:β->α->β)(J:β->Ĉ->Prop):∀(xs:List α),(∀x∈xs,∀b U,J b U->∃U1 U2,g (c x) U=some U1/\mb U1=.ok .nx U2/\J (step b x) U2)->∀b U,J b U->∃U',Ĵ g mb (xs.map c) U=.ok .nx U'/\J (xs.foldl step b) U'
 |[],_,b,U,h=>⟨U,rfl,h⟩|x::xs,hs,b,U,h=>by obtain⟨U1,U2,h1,h2,h3⟩:=hs x (by simp) b U h;obtain⟨U',e,h4⟩:=gm c step J xs (λy hy=>hs y<|þ _ hy) (step b x) U2 h3;refine⟨U',?_,h4⟩;rw[à,Ĵ,h1];dsimp only;rw[h2];exact e
theorem ju{α γ:Type}(c:α->PV)(t:α->Option γ)(v:γ->RV)(J:Ĉ->Prop):∀(xs:List α),(∀x∈xs,∀U,J U->∃U1,g (c x) U=some U1/\((∃r U2,t x=some r/\mb U1=.ok (.rt<|v r) U2)\/(∃U2,t x=none/\mb U1=.ok .nx U2/\J U2)))->∀U,J U->
 (∃r U',xs.findSome? t=some r/\Ĵ g mb (xs.map c) U=.ok (.rt<|v r) U')\/(∃U',xs.findSome? t=none/\Ĵ g mb (xs.map c) U=.ok .nx U'/\J U')
 |[],_,U,h=>.inr ⟨U,rfl,rfl,h⟩|x::xs,hs,U,h=>by
  obtain⟨U1,h1,h2⟩:=hs x (by simp) U h;rcases h2 with⟨r,U2,e1,e2⟩|⟨U2,e1,e2,e3⟩
  ·refine .inl ⟨r,U2,by rw[lU,e1],?_⟩;rw[à,Ĵ,h1];dsimp only;rw[e2];rfl
  ·have hf:List.findSome? t (x::xs)=List.findSome? t xs:=by rw[lU,e1]
   have hl:Ĵ g mb ((x::xs).map c) U=Ĵ g mb (xs.map c) U2:=by rw[à,Ĵ,h1];dsimp only;rw[e2];rfl
   rw[hf,hl];exact ju c t v J xs (λy hy=>hs y<|þ _ hy) U2 e3
theorem dF{α:Type}(c f:α->PV)(q:α->Bool)(I:Ĉ->Prop):∀(xs:List α) (U:Ĉ) (acc:List PV),I U->acc.length+xs.length<=16777216->
 (∀x∈xs,∀U,I U->∃U1 U2,g (c x) U=some U1/\mt U1=.ok (q x) U2/\(q x=false->I U2)/\(q x=true->∃U3,me U2=.ok (f x) U3/\I U3))->ī g mt me (xs.map c) U acc=some (acc++(xs.filter q).map f)
 |[],U,acc,_,_,_=>by simp[ī]|x::xs,U,acc,h,hz,hs=>by
  obtain⟨U1,U2,h1,h2,h3,h4⟩:=hs x Ş U h;cases e:q x with
  |true=>obtain⟨U3,h5,h6⟩:=h4 e;rw[e]at h2;rw[à,ī,h1];dsimp only;rw[h2];dsimp only;rw[h5];dsimp only;rw[if_pos (by simp at hz;lia),dF c f q I xs U3 (acc++[f x]) h6 (by simp at hz⊢;lia) λy hy=>hs y<|þ _ hy];simp[e]
  |false=>rw[e]at h2;rw[à,ī,h1];dsimp only;rw[h2];dsimp only;rw[dF c f q I xs U2 acc (h3 e) (by simp at hz⊢;lia) λy hy=>hs y<|þ _ hy];simp[e]
end
def Vp(K:Î)(n:Nat)(t:Fc):TG:=λv b H Q=>∃a xs,v=.ref a/\Ϧ K H a xs/\xs.length=n/\t xs b H Q
section
variable{X:Cx}{cm:String->À}{pos:Pos}
def Ml{es:List Ç}{k:Nat}{t:Fc}{n:Nat}(hc:X.calm=true)(h:AH X es t)
 (hn:(ϕ es X.env).length=n:=by rfl)(jN:(ϕ es X.env).findIdx? (·.1)=none:=by rfl):PG X (.Tuple es k pos) (Vp X.K n t):=by
 intro Å s c H v u Q I r hw;obtain⟨a,xs,e1,hq,hl,hw⟩:=hw;subst e1;cases r;obtain⟨Ē,rv,ht,hz⟩:=I.list hq;rw[assign_Tuple];refine Ñ<|lY ?_;unfold unpack;rw[show(ϕ es X.env).length=Ē.toArray.size by simp[hn,<-hl,rv.length],jN];refine Ñ<|eK<|PySem.W.kun_itemsOf (I.ok.hd hc) ht.isList λh' hx=>?_;have I1:Inv X Å c H {s with heap:=h'}:=I.kept (t':=s.toks) λb o e=>hx b o (İ<|ü e) e;exact h Å _ c H xs _ Q I1 (by simpa using rv) hw
noncomputable def gS(n:Nat)(gs:E0):Tg:=λp U=>match p with
 |.tup ps=>if ps.length=n then gs ps U else none|.lst ps=>if ps.length=n then gs ps U else none|_=>none
@[simp]theorem Vq{n:Nat}{gs:E0}{ps:List PV}{U:Ĉ}:gS n gs (.tup ps) U=if ps.length=n then gs ps U else none:=rfl
@[simp]theorem Vr{n:Nat}{gs:E0}{ps:List PV}{U:Ĉ}:gS n gs (.lst ps) U=if ps.length=n then gs ps U else none:=rfl
def GO{es:List Ç}{k:Nat}{gs:E0}{n:Nat}(hc:X.calm=true)(h:AH X es (OM (kk X cm) gs))(hn:(ϕ es X.env).length=n:=by rfl)(jN:(ϕ es X.env).findIdx? (·.1)=none:=by rfl):PG X (.Tuple es k pos) (tT (kk X cm)<|gS n gs):=by
 intro Å s b H v u Q I r hw;obtain⟨c,F,U,p,rel,rp,hw⟩:=hw;cases p with
 |tup ps=>
  unfold Ċ at rp;obtain⟨a,xs,h1,h2,h3⟩:=rp;unfold gS at hw;dsimp only at hw;split at hw
  ·rename_i hl;exact yq hc h hn jN Å s b H v u Q I r ⟨a,xs,h1,Ú.tup rel.sub h2,by rw[<-h3.length];exact hl,c,F,U,ps,rel,h3,hw⟩
  ·exact hw.elim
 |lst ps=>
  unfold Ċ at rp;obtain⟨a,xs,h1,h2,h3⟩:=rp;unfold gS at hw;dsimp only at hw;split at hw
  ·rename_i hl;exact Ml hc h hn jN Å s b H v u Q I r ⟨a,xs,h1,rel.sub.seq h2,by rw[<-h3.length];exact hl,c,F,U,ps,rel,h3,hw⟩
  ·exact hw.elim
 |_=>exact hw.elim
end
def Ĕ.keep{K:KK}(r:Ĕ K c F H a U)(e:Ú H H'):Ĕ K c F H' a U:=r.call ⟨e,Ú.refl F,r.sub.trans e,λx x h=>h⟩
def Ĕ.Mm{K:KK}(r:Ĕ K c F H b U)(e:U[i]?=some (.ot ps qs rs)):∃F',Ú F F'/\Ĕ K c F' H b (U.set i<|.sh<|.tup (ps++.lst qs::rs)):=by
 obtain⟨p,a,xs,vs,ys,h1,h2,h3,h4,h5,h6,h7,h8⟩:=r.slot i _ e;obtain⟨m1,m2⟩:=r.move (a:=a) ⟨_,_,e,ŀ h1,p,xs,ys,rfl,h2,h3.length.symm⟩;have ra:Ċ K (upd F a<|.lst vs) (.lst qs) (.ref a):=by unfold Ċ;exact⟨a,vs,rfl,Ϧ.of Ā,h7.same (Ú.upd h5) qs vs⟩
 have rp:Ċ K (upd F a<|.lst vs) (.tup (ps++.lst qs::rs)) (.ref p):=by unfold Ċ;exact⟨p,_,rfl,gj.of<|Ú.upd h5 _ _ h2,é.append (h3.same (Ú.upd h5) ps xs)<|é.cons ra<|h8.same (Ú.upd h5) rs ys⟩
 have q:=(m1.freeze h4 h6 h5 m2).C0 (i:=i) (s:=.sh<|.tup (ps++.lst qs::rs)) rfl (show ū K c _ H _ (.sh<|.tup (ps++.lst qs::rs))from⟨.ref p,by rw[ŀ h1];rfl,rp⟩);rw[xk]at q;exact⟨_,Ú.upd h5,q⟩
noncomputable def Am(i:Nat)(m:M Bool):M Bool:=λU=>match U[i]?with
 |some (.ot ps qs rs)=>match m (U.set i<|.sh<|.tup (ps++.lst qs::rs))with
  |.ok b _=>.ok b U|_=>.bad
 |_=>m U
section
variable{X:Cx}{cm:String->À}{E:ć->XK}{e o:Ç}{es:List Ç}{pos:Pos}{m:M Bool}{mo:M RV}{ma:M PV}
def Mn(i:Nat)(h:PT X e (tB (kk X cm) E m)):PT X e (tB (kk X cm) E<|Am i m):=PT.wk h<|by
 rintro a H Q ⟨c,F,U,rel,h⟩;unfold Am at h;cases e1:U[i]?with
 |none=>rw[e1]at h;exact⟨c,F,U,rel,h⟩|some s=>
  rw[e1]at h;cases s with
  |ot ps qs rs=>
   obtain⟨F',sF,ŷ⟩:=rel.Mm e1;refine⟨c,F',_,ŷ,?_⟩;dsimp only at h;cases em:m (U.set i<|.sh<|.tup (ps++.lst qs::rs))with
   |ok b U1=>rw[em]at h;exact λv F2 H2 r1 s1 s2 q=>h v F H2 (rel.keep s2) Đ s2 q
   |exc x U1=>rw[em]at h;exact h.elim|bad=>rw[em]at h;exact h.elim
  |_=>exact⟨c,F,U,rel,h⟩
structure Mo where
 ps:List PV
 r:RV
 rs:List PV
def Sw(K:KK):RR Mo (List V):=λc a U F H r vs=>∃xs v ys,vs=xs++v::ys/\é K F r.ps xs/\rO K c a U F H r.r v/\é K F r.rs ys
@[simp]def Kb(mo:M RV)(U:Ĉ):į Mo:=(mo U).bind λr U1=>.ok ⟨[],r,[]⟩ U1
@[simp]def Bu(ma:M PV)(mr:M Mo)(U:Ĉ):į Mo:=(ma U).bind λp U1=>(mr U1).bind λr U2=>.ok ⟨p::r.ps,r.r,r.rs⟩ U2
def Mp(he:PE X e (tO (kk X cm) E mo))(hs:Ð [e] X.env=(false,eval e X.env)::Ð [] X.env:=by exact Ĺ rfl):PA X [e] (tG (kk X cm) E (Sw<|kk X cm)<|Kb mo):=
 PA.wk (ϭ he cG hs) λa H Q ⟨c,F,U,rel,h⟩=>⟨c,F,U,rel,h.bind λr U1 v F1 H1 ä x x r1 h1=>h1 _ F1 H1 ä Đ Đ ⟨[],v,[],rfl,é.nil,r1,é.nil⟩⟩
def DE{mr:M Mo}(ha:PE X e (tV (kk X cm) E ma))(hr:PA X es (tG (kk X cm) E (Sw<|kk X cm) mr))(hs:Ð (e::es) X.env=(false,eval e X.env)::Ð es X.env:=by exact Ĺ rfl):PA X (e::es) (tG (kk X cm) E (Sw<|kk X cm)<|Bu ma mr):=
 PA.wk (ϭ ha hr hs) λa H Q ⟨c,F,U,rel,h⟩=>⟨c,F,U,rel,h.bind λp U1 v F1 H1 ä x x r1 h1=>⟨c,F1,U1,ä,h1.bind λr U2 vs F2 H2 Ě sF sH ⟨xs,u,ys,e1,e2,e3,e4⟩ h2=>h2 _ F2 H2 Ě Đ Đ ⟨v::xs,u,ys,by rw[e1];rfl,é.cons (Ċ.same sF p v r1) e2,e3,e4⟩⟩⟩
@[simp]def Kd(mr:M Mo)(U:Ĉ):į RV:=(mr U).bind fun r U1=>if r.ps.length+r.rs.length<16777216then(match r.r with
  |.ow qs=>.ok (.ot r.ps qs r.rs) U1|.sh p=>.ok (.sh<|.tup (r.ps++p::r.rs)) U1|_=>.bad)else .bad
def Mq{x1}(h:PA X es (tG (kk X cm) E (Sw<|kk X cm) mr)):PE X (.Tuple es x1 pos) (tO (kk X cm) E<|Kd mr):=PE.wk (Ft h) λb H Q ⟨c,F,U,rel,h⟩=>
 ⟨c,F,U,rel,h.bind fun r U1 vs F1 H1 ä _ _ ⟨xs,v,ys,e1,e2,e3,e4⟩ h1=>by
   subst e1;split at h1
   ·rename_i hz;refine⟨by rw[Ϲ,<-e2.length,Ĩ];simp only[ĝ,<-e4.length];lia,λp hp=>?_⟩;have Ě:=ä.alloc (o:=.tup (xs++v::ys)) hp;have sF:Ú F1 (upd F1 p<|.tup (xs++v::ys)):=Ú.upd<|ä.sub.free hp;obtain⟨ps,rv,rs⟩:=r;cases rv with
    |sh q=>refine h1 _ _ _ Ě sF (Ú.upd hp) ?_;show Ċ _ _ _ _;unfold Ċ;exact⟨p,_,rfl,gj.of Ā,é.append (e2.same sF ps xs)<|é.cons (Ċ.same sF q v e3)<|e4.same sF rs ys⟩|ow qs=>
     obtain⟨a,vs,rfl,q1,q2,q3,q4,q5⟩:=e3;have na:a≠p:=λz=>by rw[z,hp]at q1;cases q1
     exact h1 _ _ _ Ě sF (Ú.upd hp) ⟨p,a,xs,vs,ys,rfl,Ā,e2.same sF ps xs,by rw[ñ na];exact q1,by rw[ñ na];exact q2,q3,ä.lc sF q4,q5.same sF qs vs,e4.same sF rs ys⟩
    |ot _ _ _=>exact h1.elim|bn _ _ _ _=>exact h1.elim
   ·exact h1.elim⟩
@[simp]theorem Vs{ps qs rs:List PV}:(RV.ot ps qs rs).val=.tup (ps++.lst qs::rs):=rfl
@[simp]theorem Vt{ps qs rs:List PV}:(RV.ot ps qs rs).slot=.ot ps qs rs:=rfl
@[simp]theorem Sx{i:Nat}{U:Ĉ}:Am i m U=(match U[i]?with
  |some (.ot ps qs rs)=>match m (U.set i<|.sh<|.tup (ps++.lst qs::rs))with
   |.ok b _=>.ok b U|_=>.bad
  |_=>m U):=rfl
end
section
variable{K:KK}{c c':Ctx}{F H:Hp}
def ū.ctx(h:ū K c F H x s)(hL:∀a u,c.L a=some u->c'.L a=some u)(hS:∀a d C,c.S a d C->c'.S a d C)(hB:∀b y,x=some y->s.at_ F y b->c.B b=none->c'.B b=none)(hF:∀b u,F b=some u->c.B b=none->c'.B b=none):ū K c' F H x s:=by
 cases s with
 |no=>trivial|sh p=>exact h|bw ps=>obtain⟨b,vs,h1,h2,h3⟩:=h;exact⟨b,vs,h1,hL _ _ h2,h3⟩|ow ps=>obtain⟨b,vs,h1,h2,h3,h4,h5⟩:=h;exact⟨b,vs,h1,h2,h3,hB _ _ h1 rfl h4,h5⟩|rc C ns ps=>obtain⟨b,dx,fs,h1,h2,h3,h4,h5,h6,h7⟩:=h;exact⟨b,dx,fs,h1,h2,h3,hB _ _ h1 rfl h4,h5,h6,hS _ _ _ h7⟩|ot ps qs rs=>obtain⟨p,b,xs,vs,ys,h1,h2,h3,h4,h5,h6,h7⟩:=h;exact⟨p,b,xs,vs,ys,h1,h2,h3,h4,h5,hB _ _ h1 ⟨p,xs,ys,rfl,h2,h3.length.symm⟩ h6,h7⟩|ol nO=>obtain⟨p,as,h1,h2,h3,h4⟩:=h;exact⟨p,as,h1,h2,h3,iA h4 λb ps hb ⟨vs,k1,k2,k3,k4⟩=>⟨vs,k1,k2,hB _ _ h1 ⟨p,as,rfl,h2,hb⟩ k3,k4⟩⟩
 |pw ps=>obtain⟨b,vs,h1,h2,h3,h4,h5,h6⟩:=h;exact⟨b,vs,h1,h2,h3,hB _ _ h1 rfl h4,h5,hS _ _ _ h6⟩|pin=>obtain⟨b,h1,h2⟩:=h;exact⟨b,h1,hS _ _ _ h2⟩|fr nO=>obtain⟨p,as,h1,h2,h3,h4,h5,h6⟩:=h;exact⟨p,as,h1,h2,h3,hB _ _ h1 rfl h4,h5,iA h6 λb ps z ⟨vs,k1,k2,k3⟩=>⟨vs,k1,hF _ _ k1 k2,k3⟩⟩
 |dw gv=>obtain⟨a,ts,h1,h2,h3⟩:=h;exact⟨a,ts,h1,hL _ _ h2,iA h3 λt d z ⟨xs,b,vs,k1,k2,k3,k4⟩=>⟨xs,b,vs,k1,k2,hL _ _ k3,k4⟩⟩
 |bn qs rows=>obtain⟨v,h0,a,b,ys,vs,h1,h2,h3,h4,h5⟩:=h;exact⟨v,h0,a,b,ys,vs,h1,h2,hF _ _ h1 h3,hF _ _ h2 h4,h5⟩
end
open M5
def vA(js:List Nat)(U:Ĉ)(p:PV):Ĉ:=js.map (λ(j:Nat)=>gY<|(U[j]?).getD .no)++[.sh p]
noncomputable def An(js:List Nat)(me:M PV)(U:Ĉ):List PV->Option (List Int)
 |[]=>some []|p::ps=>match me (vA js U p)with
  |.ok (.int k) _=>(An js me U ps).map (k::·)|_=>none
noncomputable def nW(p:PV)(k:Int):List PV->List Int->PV
 |q::qs,m::ms=>if m<k then nW q m qs ms else nW p k qs ms|_,_=>p
def mW:List PV->List Int->Option PV
 |p::ps,k::ks=>some<|nW p k ps ks|_,_=>none
def GP(js:List Nat)(me:M PV)(mr:M (List PV)):M PV:=λU=>(mr U).bind λps U1=>match ps with
 |[.lst items]=>match An js me U1 items with
   |some ks=>į.zE (mW items ks) U1|none=>.bad
 |_=>.bad
set_option tactic.hygienic true in
theorem wu:∀{items:List PV}{ks:List Int},An js me U items=some ks->ks.length=items.length/\∀(k:Nat) (p:PV),items[k]?=some p->∃U',me (vA js U p)=.ok (.int<|ks.getD k 0) U'
 |[],ks,h=>by cases(show some []=some ks from h);exact⟨rfl,λk p z=>by simp at z⟩
 |q::r,ks,h=>by
  have h':(match me (vA js U q)with
   |.ok (.int k) _=>(An js me U r).map (k::·)|_=>none)=some ks:=h
  split at h'
  ·rename_i k U' e;cases e2:An js me U r with
   |none=>rw[e2]at h';cases h'|some ks'=>
    rw[e2]at h';cases(show some (k::ks')=some ks from h');obtain⟨h1,h2⟩:=wu e2;refine⟨by simp[h1],λn p hp=>?_⟩;cases n with
    |zero=>simp at hp;subst hp;exact⟨U',e⟩|succ n=>simp at hp;simpa using h2 n p hp
  ·cases h'
theorem iG:∀{qs:List PV}{ms:List Int}{p:PV}{k:Int}{i:Nat}{x:PV},ms.length=qs.length->(p::qs)[i]?=some x->(∀j,j<(p::qs).length->(k::ms).getD i 0<=(k::ms).getD j 0/\(j<i->(k::ms).getD i 0<(k::ms).getD j 0))->nW p k qs ms=x
 |[],[],p,k,i,x,_,hx,_=>by
   cases i with
   |zero=>simpa[nW]using hx|succ i=>simp at hx
 |[],_::_,_,_,_,_,h,_,_=>by simp at h|_::_,[],_,_,_,_,h,_,_=>by simp at h|q::qs,m::ms,p,k,i,x,hl,hx,hb=>by
  have Rf:ms.length=qs.length:=by simpa using hl
  unfold nW;by_cases hm:m<k
  ·rw[if_pos hm];cases i with
   |zero=>have:=(hb 1<|by simp).1;simp at this;lia|succ i=>refine iG (i:=i) Rf (by simpa using hx) λj hj=>?_;have:=hb (j+1) (by simpa using hj);refine⟨by simpa using this.1,λhji=>by simpa using this.2 (by lia)⟩
  ·rw[if_neg hm];cases i with
   |zero=>
    refine iG (i:=0) Rf (by simpa using hx) λj hj=>?_;cases j with
    |zero=>exact⟨wY _,λz=>absurd z<|aN _⟩
    |succ j=>have:=hb (j+1+1) (by simpa using hj);exact⟨by simpa using this.1,λz=>absurd z<|by lia⟩
   |succ i=>
    cases i with
    |zero=>have:=(hb 0<|by simp).2 (by lia);simp at this;lia|succ i=>
     refine iG (i:=i+1) Rf (by simpa using hx) λj hj=>?_;cases j with
     |zero=>have:=hb 0 (by simp);exact⟨by simpa using this.1,λy=>by simpa using this.2 (by lia)⟩
     |succ j=>have:=hb (j+1+1) (by simpa using hj);exact⟨by simpa using this.1,λz=>by simpa using this.2 (by lia)⟩
def pK(hl:ks.length=items.length)(h:mW items ks=some b)(hx:items[i]?=some x)(hb:∀j,j<items.length->ks.getD i 0<=ks.getD j 0/\(j<i->ks.getD i 0<ks.getD j 0)):b=x:=by
 cases items with
 |nil=>simp at hx|cons p ps=>
  cases ks with
  |nil=>simp at hl|cons k ks=>have h':nW p k ps ks=b:=ı h;rw[<-h'];exact iG (by simpa using hl) hx hb
section
variable{K:KK}{c:Ctx}{F H:Hp}{σ:ć}{U:Ĉ}
theorem Gr.refl(s:Ú F H):Gr F H F H:=⟨Ú.refl _,Ú.refl _,s,λx x z=>z⟩
theorem Gr.trans(a:Gr F H F1 H1)(b:Gr F1 H1 F2 H2):Gr F H F2 H2:=
 ⟨a.h.trans b.h,a.f.trans b.f,b.sub,fun x hx hf=>b.out x (fun z=>by
   cases q:H x with
   |none=>exact hx q|some u=>rw[a.h x u q]at z;cases z)<|a.out x hx hf⟩
def Ĕ.lam(js:List Nat)(rel:Ĕ K c F H σ U)(hp:Ċ K F p v):Ĕ K (cn F H) F H (jj js σ v) (vA js U p) where
 sub:=rel.sub
 base:=Ú.refl _
 f0:=Ú.refl _
 fg:=λx x z=>z
 lent:=λa u e=>ϰ e
 lb:=fun a e=>by
   cases q:(cn F H).L a with
   |none=>rfl|some u=>have e':H a=none:=e;rw[(ϰ q).1]at e';cases e'
 len:=by simp[jj,vA]
 slot:=λi s e=>by
  unfold vA at e;by_cases hi:i<js.length
  ·rw[ϧ (by simpa using hi),Ł]at e;cases ej:js[i]?with
   |none=>rw[ej]at e;cases e|some j=>
    rw[ej]at e;have e':gY ((U[j]?).getD .no)=s:=ı e;subst e';have hx:((jj js σ v)[i]?).getD none=(σ[j]?).getD none:=by unfold jj;rw[ϧ (by simpa using hi),Ł,ej];rfl
    rw[hx];cases er:U[j]?with
    |none=>trivial|some sl=>
     have q:=rel.slot j sl er;cases sl with
     |no=>trivial|sh p=>exact q|ow ps=>obtain⟨a,vs,h1,h2,h3,h4,h5⟩:=q;refine⟨a,vs,h1,?_,h5⟩;show(match F a with|none=>H a|some _=>none)=_;rw[h3];exact h2
     |bw ps=>obtain⟨a,vs,h1,h2,h3⟩:=q;obtain⟨l1,l2⟩:=rel.lent a _ h2;refine⟨a,vs,h1,?_,h3⟩;show(match F a with|none=>H a|some _=>none)=_;rw[l2];exact l1
     |rc C ns ps=>trivial|ot ps qs rs=>trivial|ol nO=>trivial|fr nO=>trivial|pw ps=>trivial|pin=>trivial|bn qs rows=>trivial|dw gv=>trivial
  ·have QN:i=js.length:=by
    have l2:=(aL.mp e).1;simp at l2;lia
   subst QN;rw[cr<|by simp]at e;have e':Slot.sh p=s:=by simpa using e
   subst e';have hx:((jj js σ v)[js.length]?).getD none=some v:=by unfold jj;rw[cr<|by simp];simp
   rw[hx];exact⟨v,rfl,hp⟩
 sep:=λi j a h1 x=>by
  exfalso;obtain⟨s,y,h1,_,h2⟩:=h1;have h2:=iV h2;unfold vA at h1;by_cases hi:i<js.length
  ·rw[ϧ (by simpa using hi),Ł]at h1;cases ej:js[i]?with
   |none=>rw[ej]at h1;cases h1|some j=>
    rw[ej]at h1;have e':gY ((U[j]?).getD .no)=s:=ı h1;subst e';cases er:U[j]?with
    |none=>rw[er]at h2;cases h2|some sl=>rw[er]at h2;cases sl<;>cases h2
  ·have QN:i=js.length:=by
    have l2:=(aL.mp h1).1;simp at l2;lia
   subst QN;rw[cr<|by simp]at h1;have e':Slot.sh p=s:=by simpa using h1
   subst e';cases h2
end
section
variable{X:Cx}{cm:String->À}{E:ć->XK}{x px:Str}{c Pt:À}{params:ie}{body e:Ç}{scope:ú}{p pos Ev BO:Pos}{mr:M (List PV)}{me:M PV}
set_option tactic.hygienic true in
def Mr{k:Nat}(N0:List Str)(js:List Nat)(sc:ú)(hr:ő (k+2) X.A)(qI:X.env.scope=sc)(hcalm:X.calm=true)(hx:x∈lams)(ht:Ũ X.K x=some (c,Pt))(wN:X.env.code=.ref c)(hq:X.env.qual=x++".<locals>.")
 (hg:Gl X "min")(hm:X.mg "min"=none)(ha:PA X [e] (FZ (kk X cm) E mr))(he:∀cl f c' s H,ő k (EZ X (N0++[px]) (gp x) scope cl f c' X.A.in1 s H).A->(EZ X (N0++[px]) (gp x) scope cl f c' X.A.in1 s H).A.units+64<ż->PE (EZ X (N0++[px]) (gp x) scope cl f c' X.A.in1 s H) body (tV (kk X cm) EF me))(hcap:gu X sc scope N0 js)(hlen:js.length=N0.length:=by rfl)
 (u_:∀(cl:List (Str×À)) (pm AQ:Á) (c':À) (u:Á),dh (yg "<lambda>" (gp x) params body scope cl pm (.ref c') AQ) ⟨[u],[]⟩=î [(px,u)]:=by intros;rfl)
 (hk:scope.kind=.function:=by rfl)(hcell:∀y∈scope.names,y.2≠.cell:=by decide+kernel)(E4:scope.names.lookup px=some .local:=by rfl)(QO:scope.isCoroutine=false:=by rfl)(Hf:scope.isGenerator=false:=by rfl)
 (hfree:∀y∈scope.names,y.2=.free->(sc.names.lookup y.1=some .cell\/sc.names.lookup y.1=some .free):=by decide+kernel)(He:defaultsOf params X.env=([],[]):=by rfl)
 (jN:Ð [e] X.env=[(false,eval e X.env)]:=by exact Ĺ rfl)(hpl:(ÿ pos<|Ð [e] X.env).any (·.1)=false:=by kernel_rfl):
 PE X (.Call (.Name "min" p) [e] [⟨some "key",.Lambda params body scope Ev,BO⟩] pos) (tV (kk X cm) E<|GP js me mr):=λÅ s d H Q I h=>
 Ir N0 js sc qI hcalm hr.depth hx ht wN hq hg hm ha (λcl f c' s H=>he cl f c' s H (hr.in1.deeper _) (hr.in1.deeper _).units) hcap hlen u_ hk hcell E4 QO Hf hfree He jN hpl Å s d H Q I (by
  obtain⟨cc,F,U,rel,h⟩:=h;refine⟨cc,F,U,rel,h.bind λps U1 vs F1 H1 ä s1 s2 q h1=>?_⟩;split at h1
  rotate_left
  ·exact h1.elim
  rename_i items;split at h1
  rotate_left
  ·exact h1.elim
  rename_i kl E5;obtain⟨kl1,kl2⟩:=wu E5;cases hb:mW items kl with
  |none=>rw[hb]at h1;exact h1.elim|some b=>
   rw[hb]at h1;have q':Paired (rR (kk X cm) cc d U1 F1 H1) [.lst items] vs:=q;obtain⟨l,xs,rfl,hs,hr⟩:∃l xs,vs=[.ref l]/\Ϧ X.K H1 l xs/\é (kk X cm) F1 items xs:=by
    cases q' with
    |cons a b=>
     cases b;rcases a with a|a
     ·unfold Ċ at a;obtain⟨l,xs,rfl,e1,e2⟩:=a;exact⟨l,xs,rfl,ä.sub.seq e1,e2⟩
     ·obtain⟨l,xs,rfl,e1,e2⟩:=a;exact⟨l,xs,rfl,Ϧ.of e1,e2⟩
   have len:items.length=xs.length:=hr.length;have fN:0<xs.length:=by
    rw[<-len];cases items with
    |nil=>simp[mW]at hb|cons _ _=>simp
   refine⟨l,xs,rfl,hs,fN,λc q H2 sm hc nw=>⟨λk=>kl.getD k 0,λw H=>∃F',Gr F1 H2 F' H,⟨F1,Gr.refl<|ä.sub.trans sm⟩,λk H ⟨F',g⟩=>g.h,λk v H hv ⟨F',g⟩=>?_,λi v H hv wO ⟨F',g⟩=>?_⟩⟩
   ·have Ě:Ĕ (kk X cm) cc F1 H2 d U1:=ä.call ⟨sm,Ú.refl _,ä.sub.trans sm,λw w z=>z⟩;have hki:k<items.length:=by rw[len];exact(aL.mp hv).1
    obtain⟨U',hme⟩:=kl2 k items[k] (œ hki);obtain⟨v',BM,rv⟩:=bT hr.pr<|œ hki;rw[hv]at BM;cases BM;refine⟨cn F' H,F',vA js U1 items[k],(Ě.call g).lam js (Ċ.same g.f _ _ rv),?_⟩;rw[hme];intro y F2 H3 gX _ _ ry;have Yo:Ċ (kk X cm) F2 (.int<|kl.getD k 0) y:=ry;unfold Ċ at Yo;exact⟨Yo,F2,g.trans gX.gr⟩
   ·have Ě:Ĕ (kk X cm) cc F1 H2 d U1:=ä.call ⟨sm,Ú.refl _,ä.sub.trans sm,λw w z=>z⟩;have Yp:i<items.length:=by rw[len];exact(aL.mp hv).1
    obtain⟨v',BM,rv⟩:=bT hr.pr<|œ Yp;rw[hv]at BM;cases BM;have eb:=pK kl1 hb (œ Yp) (λj hj=>wO j (by rw[<-len];exact hj));subst eb;exact h1 v F' H (Ě.call g) g.f (sm.trans g.h)<|Ċ.same g.f _ _ rv)
end
noncomputable def GQ(K:Î)(x:Str)(f:À):Bool:=aW K ē x==some (some<|.ref f)&&(Ũ K x).isSome
section
variable{P:ë}{w:â}{K:Î}{cm:String->À}{mg:Str->Option Á}{base:Ò}{CX:iy}
set_option tactic.hygienic true in
def Ja{st:è}(F:El K x qual st f fd)(h:aW K ē x=some (some<|.ref f))(ht:Ũ K x=some (c,Pt)):fd.code=.ref c:=by
 obtain⟨oc,od,kV,doc,pm,an,cdv,ct,zx,rfl,lk,wM⟩:=F.ex;unfold Ũ at ht;split at ht
 ·rename_i f2 hf;rw[h]at hf;cases hf;split at ht
  ·rename_i Tp;rw[lk]at Tp;cases Tp;split at ht
   ·rename_i c2 hc;split at ht
    ·split at ht
     ·cases ht;exact hc
     ·cases ht
    ·cases ht
   ·cases ht
  ·cases ht
 ·cases ht
def Vu{st:è}(F:El K x qual st f fd)(S:ĸ N ps (ç st))(hn:ps.length=n)(hj:N.length=j)(hf:mf=Č n j mb)(zA:GQ K x f=true)
 (fv:∀(c Pt:À),Ũ K x=some (c,Pt)→∀(A:ê) (outer:List Env) (s:Ã) (H:Hp) (E:XK),ő k (A.deeper<|ŕ qual (ç st) s.heap.objs.size f<|.ref c)→
   bC (nK CX P w K mg base N qual (ç st) f (.ref c) A outer s H E) (ğ st) (tS ⟨K,cm⟩ (λy=>E) mb)):ϯ P w K mg base CX (k+1) f fd ps (rj ⟨K,cm⟩ n mf):=by
 subst hn hj hf;unfold GQ at zA;simp only[ă,beq_iff_eq]at zA;obtain⟨h1,h2⟩:=zA;obtain⟨⟨c,Pt⟩,ht⟩:=Ca.mp h2;have hc:=Ja F h1 ht;obtain⟨oc,od,kV,doc,pm,an,cdv,ct,zx,rfl,lk,wM⟩:=id F.ex;have wL:cdv=.ref c:=hc;subst wL;refine vI lk wM S (λvs H Q E ⟨F,kU,h1,_,h2,_⟩=>by rw[<-Paired.length h2];exact h1) λA outer s H vs Q E hr zI=>?_;obtain⟨F,kU,h1,h2,h3,h4⟩:=zI;refine⟨_,fv c Pt ht A outer s H E hr,cn F H,F,ĕ N.length kU,Ĕ.start h2 h3,?_⟩;unfold Č at h4;rw[if_pos h1]at h4;cases e:mb (ĕ N.length kU)with
 |bad=>rw[e]at h4;exact h4|exc x U'=>rw[e]at h4;exact λb C d F' H' rel s1 q=>h4 C d F' H' rel.gr q
 |ok fl U'=>
  rw[e]at h4;cases fl with
  |nx=>exact λb F' H' rel s1=>h4 .non F' H' rel.gr<|Ċ.non (K:=⟨K,cm⟩) (F:=F')
  |bk=>exact h4.elim|ct=>exact h4.elim|rt r=>
   intro v b F' H' rel s1 q;refine h4 v F' H' rel.gr ?_;cases r with
   |sh p=>exact q|ow qs=>obtain⟨a,gU,e1,e2,e3,e4,_,e5⟩:=q;exact⟨a,gU,e1,e2,e3,e4,e5⟩|ot qs ts rs=>obtain⟨p,a,xs,gU,ys,e1,e0,ex,e2,e3,e4,_,e5⟩:=q;exact⟨p,a,xs,gU,ys,e1,e0,ex,e2,e3,e4,e5⟩|bn t ps qs rows=>exact q
structure Ms(K:Î)(x qual:Str)(st:è)(f:À)(fd:Ć):Prop where
 ex:∃(oc:Á) (od:Option À) (dV kV doc pm:Á) (an:Option À) (cdv ct:Á) (zx:Array (Option Á)),
   fd=ŉ x qual (ŏ st) (ğ st) (ç st) dV kV doc pm an cdv ct/\K.lookup f=some ⟨oc,od,.func fd,zx⟩/\fY K cdv qual=true
 kp:ϫ K (.ref f)=true
def Jb{st:è}{dV kV doc pm cdv ct:Á}(l:K.lookup f=some ⟨oc,od,.func<|ŉ x qual (ŏ st) (ğ st) (ç st) dV kV doc pm an cdv ct,zx⟩)
 (c:fY K cdv qual=true)(k:ϫ K (.ref f)=true):Ms K x qual st f (ŉ x qual (ŏ st) (ğ st) (ç st) dV kV doc pm an cdv ct):=⟨⟨oc,od,dV,kV,doc,pm,an,cdv,ct,zx,rfl,l,c⟩,k⟩
def Vv{st:è}(F:Ms K x qual st f fd)(S:ĸ N ps (ç st))(hn:ps.length=n)(hj:N.length=j)(hf:mf=Č n j mb)
 (fv:∀(cdv:Á) (A:ê) (outer:List Env) (s:Ã) (H:Hp) (E:XK),ő k (A.deeper<|ŕ qual (ç st) s.heap.objs.size f cdv)→
   bC (nK CX P w K mg base N qual (ç st) f cdv A outer s H E) (ğ st) (tS ⟨K,cm⟩ (λy=>E) mb)):ϯ P w K mg base CX (k+1) f fd ps (rj ⟨K,cm⟩ n mf):=by
 subst hn hj hf;obtain⟨oc,od,dV,kV,doc,pm,an,cdv,ct,zx,rfl,lk,wM⟩:=F.ex;refine vI lk wM S (λvs H Q E ⟨F,kU,h1,_,h2,_⟩=>by rw[<-Paired.length h2];exact h1) λA outer s H vs Q E hr zI=>?_;obtain⟨F,kU,h1,h2,h3,h4⟩:=zI;refine⟨_,fv cdv A outer s H E hr,cn F H,F,ĕ N.length kU,Ĕ.start h2 h3,?_⟩;unfold Č at h4;rw[if_pos h1]at h4;cases e:mb (ĕ N.length kU)with
 |bad=>rw[e]at h4;exact h4|exc x U'=>rw[e]at h4;exact λb C d F' H' rel s1 q=>h4 C d F' H' rel.gr q
 |ok fl U'=>
  rw[e]at h4;cases fl with
  |nx=>exact λb F' H' rel s1=>h4 .non F' H' rel.gr<|Ċ.non (K:=⟨K,cm⟩) (F:=F')
  |bk=>exact h4.elim|ct=>exact h4.elim|rt r=>
   intro v b F' H' rel s1 q;refine h4 v F' H' rel.gr ?_;cases r with
   |sh p=>exact q|ow qs=>obtain⟨a,gU,e1,e2,e3,e4,_,e5⟩:=q;exact⟨a,gU,e1,e2,e3,e4,e5⟩|ot qs ts rs=>obtain⟨p,a,xs,gU,ys,e1,e0,ex,e2,e3,e4,_,e5⟩:=q;exact⟨p,a,xs,gU,ys,e1,e0,ex,e2,e3,e4,e5⟩|bn t ps qs rows=>exact q
def Bv{st:è}{kV doc pm:Á}(hT:K.lookup T=some oT)(hs:oT.data=.seq items nT)
 (h:∀us:List Á,us.length=ps.length->∃k:Option (Array Á)->Sem (List<|Str×Á),dh (ŉ x qual (ŏ st) (ğ st) (ç st) (.ref T) kV doc pm an cdv ct) ⟨us,[]⟩=im (.ref T)>>=k/\k (some items)=î (ps.zip us)):
 Binds K (ŉ x qual (ŏ st) (ğ st) (ç st) (.ref T) kV doc pm an cdv ct) ps []:=λs us X hl=>by
 rw[fO]at hl⊢;obtain⟨k,h1,h2⟩:=h us hl;exact PySem.W.binds_K X rfl hT hs h1 h2
end
section
variable{js:List Nat}{me:M PV}{mr:M (List PV)}{U:Ĉ}
theorem Jc:GP js me mr U=(mr U).bind λps U1=>match ps with
 |[.lst items]=>match An js me U1 items with
   |some ks=>į.zE (mW items ks) U1|none=>.bad
 |_=>.bad:=rfl
end
def BN:Nat->(List Á->Prop)->Prop
 |0,p=>p []|n+1,p=>∀u,BN n λus=>p (u::us)
theorem uB:∀{n:Nat}{p:List Á->Prop},BN n p->∀us,us.length=n->p us
 |0,p,h,[],_=>h|0,p,h,_::_,e=>by cases e|n+1,p,h,[],e=>by cases e|n+1,p,h,u::us,e=>uB (h u) us<|Nat.succ.inj e
structure Df(K:Î)(mg:Str->Option Á)(x:Str)(st:è)(ps:List Str)(f:À)(fd:Ć):Prop where
 F:El K x x st f fd
 m:mg x=some (.ref f)
 b:Binds K fd ps []
 bb:∀(s:Ã) (us:List Á),us.length=ps.length->fV s fd ⟨us,[]⟩ (ps.zip us)
structure Dm(K:Î)(C:À)(x q:Str)(st:è)(ps:List Str)(f:À)(fd:Ć):Prop where
 F:El K x q st f fd
 b:Binds K fd ps []
structure Dd(K:Î)(mg:Str->Option Á)(x:Str)(st:è)(ps:List Str)(v:Int)(f:À)(fd:Ć):Prop where
 F:Ms K x x st f fd
 m:mg x=some (.ref f)
 b:Binds K fd ps []
section
variable{K:Î}{h:Ò}{mg:Str->Option Á}{x q:Str}{st:è}{ps:List Str}{f C:À}{oc kV dc pm cd ct:Á}{od an:Option À}{sl:Array (Option Á)}
def Ke(X:K.In h)(G:h.Ns ē mg)(hb:∀(kV dc pm:Á) (an:Option À) (cd ct:Á),BN ps.length λus=>dh (ŉ x x (ŏ st) (ğ st) (ç st) .none kV dc pm an cd ct) ⟨us,[]⟩=î (ps.zip us))
 (a:aW K ē x=some (some<|.ref f))(l:K.lookup f=some ⟨oc,od,.func<|ŉ x x (ŏ st) (ğ st) (ç st) .none kV dc pm an cd ct,sl⟩)(c:fY K cd x=true)(k:ϫ K (.ref f)=true):
 Df K mg x st ps f (ŉ x x (ŏ st) (ğ st) (ç st) .none kV dc pm an cd ct):=
 have F:=FA (st:=st) l c k
 ⟨F,oV X G a,F.binds λkV dc pm an cd ct us hl=>uB (hb kV dc pm an cd ct) us hl,λs us hl=>.of_eq<|uB (hb kV dc pm an cd ct) us hl⟩
def Pz(hb:∀(kV dc pm:Á) (an:Option À) (cd ct:Á),BN ps.length λus=>dh (ŉ x q (ŏ st) (ğ st) (ç st) .none kV dc pm an cd ct) ⟨us,[]⟩=î (ps.zip us))
 (a:ů K (.ref C) x=some (some<|.ref f))(l:K.lookup f=some ⟨oc,od,.func<|ŉ x q (ŏ st) (ğ st) (ç st) .none kV dc pm an cd ct,sl⟩)(c:fY K cd q=true)(k:ϫ K (.ref f)=true):
 Dm K C x q st ps f (ŉ x q (ŏ st) (ğ st) (ç st) .none kV dc pm an cd ct):=
 have F:=FA (st:=st) l c k
 ⟨F,F.binds λkV dc pm an cd ct us hl=>uB (hb kV dc pm an cd ct) us hl⟩
def PC(X:K.In h)(G:h.Ns ē mg)
 (hb:∀(dk:Tok) (kV dc pm:Á) (an:Option À) (cd ct:Á),BN ps.length λus=>∃k:Option (Array Á)->Sem (List<|Str×Á),dh (ŉ x x (ŏ st) (ğ st) (ç st) (.ref T) kV dc pm an cd ct) ⟨us,[]⟩=im (.ref T)>>=k/\k (some #[.int v dk])=î (ps.zip us))
 (a:aW K ē x=some (some<|.ref f))(l:K.lookup f=some ⟨oc,od,.func<|ŉ x x (ŏ st) (ğ st) (ç st) (.ref T) kV dc pm an cd ct,sl⟩)(d:K.lookup T=some ⟨dO,dd,.seq #[.int v dk] dn,ds⟩)(c:fY K cd x=true)(k:ϫ K (.ref f)=true):
 Dd K mg x st ps v f (ŉ x x (ŏ st) (ğ st) (ç st) (.ref T) kV dc pm an cd ct):=
 ⟨Jb (st:=st) l c k,oV X G a,Bv d rfl λus hl=>uB (hb dk kV dc pm an cd ct) us hl⟩
end
def Kf{N ps:List Str}{sc:ú}(h1:sc.kind=.function:=by rfl)(h2:sc.isCoroutine=false:=by rfl)(h3:sc.isGenerator=false:=by rfl)(h4:N.Nodup:=by decide+kernel)(h5:N.take ps.length=ps:=by rfl)(h6:∀x∈ps,sc.names.lookup x=some .local\/sc.names.lookup x=some .cell:=by decide+kernel)
 (h7:∀y∈sc.names,y.2≠.free:=by decide+kernel):ĸ N ps sc:=⟨h1,h2,h3,h4,h5,h6,h7⟩
section
variable{X:Cx}{cm:String->À}{E:ć->XK}{CX:iy}{k j n:Nat}{f:À}{fd:Ć}{ps:List Str}{mf:MF}{mr:M (List Slot)}{x:Str}{st:è}{p pos:Pos}{e:Ç}{es:List Ç}
def Jd(F:ϯ X.prog X.w X.K X.mg X.base CX k f fd ps (rj (kk X cm) n mf))(D:Df X.K X.mg x st ps f fd)(hr:ő j X.A)(hx:a_ CX X E)
 (ha:PA X (e::es) (tA (kk X cm) E mr))(hlen:∀{ps:List Slot},(∃r,mf ps=r/\∀z,r=z->z≠.bad)->ps.length=n:=by exact li)(hg:Gl X x:=by kernel_rfl)(vB:k<=j:=by decide)(lK:(x==("__debug__":Str))=false:=by kernel_rfl)(he:Ð (e::es) X.env=(false,eval e X.env)::Ð es X.env:=by exact Ĺ rfl)(hpl:(ÿ pos<|Ð es X.env).any (·.1)=false:=by kernel_rfl):
 PE X (.Call (.Name x p) (e::es) [] pos) (tO (kk X cm) E<|Ü mf mr):=Ga F hlen (hr.mono vB) hg D.m D.F.kp D.b hx ha lK he hpl
end
section
variable{Pg:ë}{w:â}{K:Î}{mg:Str->Option Á}{base:Ò}{CX:iy}{cm:String->À}
def Mt{x qual:Str}{st:è}{f:À}{fd:Ć}{N ps:List Str}{k n j:Nat}{mb:M Fl}{mf:MF}(F:El K x qual st f fd)(S:ĸ N ps (ç st))
 (fv:∀(cdv:Á) (A:ê) (outer:List Env) (s:Ã) (H:Hp) (E:XK),ő k (A.deeper<|ŕ qual (ç st) s.heap.objs.size f cdv)→(A.deeper<|ŕ qual (ç st) s.heap.objs.size f cdv).units+64<ż→
   bC (nK CX Pg w K mg base N qual (ç st) f cdv A outer s H E) (ğ st) (tS ⟨K,cm⟩ (λy=>E) mb))(hn:ps.length=n:=by rfl)(hj:N.length=j:=by rfl)(hf:mf=Č n j mb:=by rfl):ϯ Pg w K mg base CX (k+1) f fd ps (rj ⟨K,cm⟩ n mf):=
 fnQ F S hn hj hf λcdv A outer s H E hr=>fv cdv A outer s H E hr hr.units
end
noncomputable def tgN:Ç->List Str
 |.Name x _=>[x]|.Tuple es _ _=>es.flatMap fun e=>match e with
   |.Name x _=>[x]|_=>[]
 |_=>[]
def cN(X:Cx)(js:List Nat)(tg:Ç):List Str:=js.map (λ(j:Nat)=>(X.N[j]?).getD "")++tgN tg
def ndB{l:List Str}(h:decide l.Nodup=true):l.Nodup:=of_decide_eq_true h
def frB{a b:ú}(h:(a.names.all λy=>decide<|y.2=.free->(b.names.lookup y.1=some .cell\/b.names.lookup y.1=some .free))=true):∀y∈a.names,y.2=.free->(b.names.lookup y.1=some .cell\/b.names.lookup y.1=some .free):=λy hy=>of_decide_eq_true<|c_.mp h y hy
section
variable{X:Cx}{cm:String->À}{E:ć->XK}{a b e:Ç}{es:List Ç}{ma mb m:M PV}{mo:M RV}{pos p:Pos}
def Ê{i j pos}:PE X (.Constant (.int i) j pos) (tR (kk X cm) E<|mC<|.int i):=í Ġ
def kJ{j pos}:PE X (.Constant .none j pos) (tR (kk X cm) E<|mC .non):=í ud
def ϥ{x j pos}:PE X (.Constant (.str x) j pos) (tR (kk X cm) E<|mC<|.str x):=í ϶
def ō(ha:PE X a (tR (kk X cm) E ma))(hb:PE X b (tR (kk X cm) E mb))(hs:sZ b:=by exact λx x=>rfl):PE X (.Subscript a b pos) (tV (kk X cm) E<|Ë ã ma mb):=OF OT Ow ha hb hs
def ā(ha:PE X a (tR (kk X cm) E ma))(hb:PE X b (tR (kk X cm) E mb))(hs:sZ b:=by exact λx x=>rfl):PE X (.Subscript a b pos) (tR (kk X cm) E<|Ë ã ma mb):=í<|ō ha hb hs
def v_mod(ha:PE X a (tR (kk X cm) E ma))(hb:PE X b (tR (kk X cm) E mb)):PE X (.BinOp a .Mod b pos) (tV (kk X cm) E<|Ë ħ ma mb):=aY LZ LA ha hb
def ũ(ha:PE X a (tR (kk X cm) E ma))(hb:PE X b (tR (kk X cm) E mb)):PE X (.BinOp a .Mod b pos) (tR (kk X cm) E<|Ë ħ ma mb):=í<|v_mod ha hb
def v_mul(ha:PE X a (tR (kk X cm) E ma))(hb:PE X b (tR (kk X cm) E mb)):PE X (.BinOp a .Mult b pos) (tV (kk X cm) E<|Ë ď ma mb):=aY L_ Io ha hb
def ϸ(ha:PE X a (tR (kk X cm) E ma))(hb:PE X b (tR (kk X cm) E mb)):PE X (.BinOp a .Mult b pos) (tR (kk X cm) E<|Ë ď ma mb):=í<|v_mul ha hb
def v_sub(ha:PE X a (tR (kk X cm) E ma))(hb:PE X b (tR (kk X cm) E mb)):PE X (.BinOp a .Sub b pos) (tV (kk X cm) E<|Ë ŝ ma mb):=aY LX Ly ha hb
def pL(ha:PE X a (tR (kk X cm) E ma))(hb:PE X b (tR (kk X cm) E mb)):PE X (.BinOp a .Sub b pos) (tR (kk X cm) E<|Ë ŝ ma mb):=í<|v_sub ha hb
def wv(ha:PE X a (tR (kk X cm) E ma))(hb:PE X b (tR (kk X cm) E mb)):PE X (.BinOp a .FloorDiv b pos) (tV (kk X cm) E<|Ë dY ma mb):=aY LY Ib ha hb
def pM(ha:PE X a (tR (kk X cm) E ma))(hb:PE X b (tR (kk X cm) E mb)):PE X (.BinOp a .FloorDiv b pos) (tR (kk X cm) E<|Ë dY ma mb):=í<|wv ha hb
def jv(ha:PE X a (tR (kk X cm) E ma))(hb:PE X b (tR (kk X cm) E mb)):PE X (.BinOp a .Add b pos) (tO (kk X cm) E<|ċ Ă ma mb):=OE LW LV ha hb
def v_add(ha:PE X a (tR (kk X cm) E ma))(hb:PE X b (tR (kk X cm) E mb)):PE X (.BinOp a .Add b pos) (tV (kk X cm) E<|Ý<|ċ Ă ma mb):=ò<|jv ha hb
def gB(ha:PE X a (tR (kk X cm) E ma))(hb:PE X b (tR (kk X cm) E mb)):PE X (.BinOp a .Add b pos) (tR (kk X cm) E<|Ý<|ċ Ă ma mb):=í<|v_add ha hb
def dS(hu:X.A.units+64<ż)(ha:PE X a (tR (kk X cm) E ma))(hb:PE X b (tR (kk X cm) E mb)):PT X (.Compare a [.Eq] [b] pos) (tB (kk X cm) E<|Ϻ<|Ë Œ ma mb):=Ϸ J7 (FK hu) ha hb<|Ĳ _
def qy(hu:X.A.units+64<ż)(ha:PE X a (tR (kk X cm) E ma))(hb:PE X b (tR (kk X cm) E mb)):PT X (.Compare a [.NotEq] [b] pos) (tB (kk X cm) E<|Ϻ<|Ë cX ma mb):=Ϸ Gm (A8 hu) ha hb<|Ĳ _
def v_eq(hu:X.A.units+64<ż)(ha:PE X a (tR (kk X cm) E ma))(hb:PE X b (tR (kk X cm) E mb)):PE X (.Compare a [.Eq] [b] pos) (tV (kk X cm) E<|Ë Œ ma mb):=jl J7 (FK hu) ha hb<|Ĳ _
def Ĝ(he:PE X e (tO (kk X cm) E mo)):bC X [.Return (some e) pos] (tS (kk X cm) E<|ý mo):=ó<|OL he
def Į(he:PE X e (tV (kk X cm) E m)):bC X [.Return (some e) pos] (tS (kk X cm) E<|ý<|Ŋ m):=Ĝ<|Ŷ he
def Bw{N ps:List Str}{sc:ú}{i:Nat}{x:Str}{bh:Pos}(S:ĸ N ps sc)(he:PE X e (tO (kk X cm) E mo))(hN:X.N=N:=by rfl)(hi:X.N[i]?=some x:=by kernel_rfl)(hx:Loc X.env.scope x:=by exact tK<|by kernel_rfl)(hs:Ŗ e (some<|.Name x bh) pos.line X.env=î false:=by kernel_rfl)(hf:X.fn x=true\/X.env.scope.names.lookup x=some .local:=by first|exact .inl rfl|exact .inr rfl|assumption):
 PS X (.Assign [.Name x bh] e pos) (tS (kk X cm) E<|ĉ i mo):=OK (hN▸S.nd) hi hx he hs hf
def ě{N ps:List Str}{sc:ú}{i:Nat}{x:Str}{bh:Pos}{rest:List è}{m2:M Fl}(S:ĸ N ps sc)(he:PE X e (tO (kk X cm) E mo))(h2:bC X rest (tS (kk X cm) E m2))(hN:X.N=N:=by rfl)(hi:X.N[i]?=some x:=by kernel_rfl)(hx:Loc X.env.scope x:=by exact tK<|by kernel_rfl)(hs:Ŗ e (some<|.Name x bh) pos.line X.env=î false:=by kernel_rfl)(hf:X.fn x=true\/X.env.scope.names.lookup x=some .local:=by first|exact .inl rfl|exact .inr rfl|assumption):
 bC X (.Assign [.Name x bh] e pos::rest) (tS (kk X cm) E<|å (ĉ i mo) m2):=Û (Bw S he hN hi hx hs hf) h2
def Ϟ{N ps:List Str}{sc:ú}{i:Nat}{x:Str}(S:ĸ N ps sc)(hN:X.N=N:=by rfl)(hi:X.N[i]?=some x:=by kernel_rfl)(hx:Loc X.env.scope x:=by exact tK<|by kernel_rfl)(hf:X.fn x=true\/X.env.scope.names.lookup x=some .local:=by first|exact .inl rfl|exact .inr rfl|assumption):PG X (.Name x pos) (tT (kk X cm)<|gN i):=F7 (hN▸S.nd) hi hx hf
def Ÿ{i:Nat}{x:Str}(hN:X.N.Nodup:=by exact ndB<|by kernel_rfl)(hi:X.N[i]?=some x:=by kernel_rfl)(hx:Loc X.env.scope x:=by exact tK<|by kernel_rfl)(hf:X.fn x=true\/X.env.scope.names.lookup x=some .local:=by first|exact .inl rfl|exact .inr rfl):PG X (.Name x pos) (tT (kk X cm)<|gN i):=F7 hN hi hx hf
def Ó(i:Nat){x:Str}{px:Pos}{ms:M (List Slot)}(hr:PA X es (tA (kk X cm) E ms))(hk:D8 X i x=true:=by kernel_rfl)(hs:Ð (.Name x px::es) X.env=(false,eval (.Name x px) X.env)::Ð es X.env:=by exact Ĺ rfl):PA X (.Name x px::es) (tA (kk X cm) E<|È i ms):=Iv i hk hr hs
def Ŏ{id:String}{x:Str}{r:List V->Hp->VK->Prop}{f:List PV->Option PV}{mr:M (List PV)}(hc:Ř X (.builtin id) r)(hf:dX (kk X cm) r f)(hm:X.mg x=none)(hv:eJ x=some (.builtin id))(ha:PA X (e::es) (FZ (kk X cm) E mr))(hg:Gl X x:=by kernel_rfl)(hn:x≠"__name__":=by decide)(lK:(x==("__debug__":Str))=false:=by kernel_rfl)
 (he:Ð (e::es) X.env=(false,eval e X.env)::Ð es X.env:=by rfl)(hpl:(ÿ pos<|Ð es X.env).any (·.1)=false:=by kernel_rfl):PE X (.Call (.Name x p) (e::es) [] pos) (tV (kk X cm) E<|aG f mr):=PE.wk (ua hc hg hm hv ha hn lK he hpl) λy y y h=>OJ hf h
def GR{T:String}{x:Str}{r:List V->Hp->VK->Prop}{f:List PV->Option PV}{mr:M (List PV)}(hc:Ř X (.type T) r)(hf:dX (kk X cm) r f)(hm:X.mg x=none)(hv:eJ x=some (.type T))(ha:PA X (e::es) (FZ (kk X cm) E mr))(hg:Gl X x:=by kernel_rfl)(hn:x≠"__name__":=by decide)(lK:(x==("__debug__":Str))=false:=by kernel_rfl)
 (he:Ð (e::es) X.env=(false,eval e X.env)::Ð es X.env:=by rfl)(hpl:(ÿ pos<|Ð es X.env).any (·.1)=false:=by kernel_rfl):PE X (.Call (.Name x p) (e::es) [] pos) (tV (kk X cm) E<|aG f mr):=PE.wk (vJ hc hg hm hv ha hn lK he hpl) λy y y h=>OJ hf h
def uC{T:String}{x:Str}{r:List V->Hp->VK->Prop}{f:List PV->Option RV}{mr:M (List PV)}(hc:Ř X (.type T) r)(hf:F0 (kk X cm) r f)(hm:X.mg x=none)(hv:eJ x=some (.type T))(ha:PA X (e::es) (FZ (kk X cm) E mr))(hg:Gl X x:=by kernel_rfl)(hn:x≠"__name__":=by decide)(lK:(x==("__debug__":Str))=false:=by kernel_rfl)
 (he:Ð (e::es) X.env=(false,eval e X.env)::Ð es X.env:=by rfl)(hpl:(ÿ pos<|Ð es X.env).any (·.1)=false:=by kernel_rfl):PE X (.Call (.Name x p) (e::es) [] pos) (tO (kk X cm) E<|rh f mr):=PE.wk (vJ hc hg hm hv ha hn lK he hpl) λy y y h=>Ui hf h
end
section
variable{X:Cx}{cm:String->À}{E:ć->XK}{elt tg iter:Ç}{ifs:List Ç}{scope:ú}{pos:Pos}{mi:M (List PV)}{g:Tg}{mt:M Bool}{me:M PV}{js:List Nat}{nl:Nat}
structure CF(X:Cx)(js:List Nat)(nl:Nat)(tg iter:Ç)(scope:ú):Prop where
 hcap:gu X.Ϭ X.env.scope scope (cN X js tg) js
 hcalm:X.calm=true
 hlen:js.length+nl=(cN X js tg).length
 hk:scope.kind=.function
 hcell:∀y∈scope.names,y.2=.cell->scope.names.lookup y.1=some .cell
 hnames:∀y∈scope.names,y.2=.local->scope.names.lookup y.1=some .local
 hfree:∀y∈scope.names,y.2=.free->(X.env.scope.names.lookup y.1=some .cell\/X.env.scope.names.lookup y.1=some .free)
 hs:∀x,df iter X.env x=î x
def cf(hcap:gu X.Ϭ X.env.scope scope (cN X js tg) js:=by repeat' first|exact True.intro|refine⟨rfl,⟨rfl,by first|exact ϓ rfl|exact jR rfl⟩,?_⟩)(hcalm:X.calm=true:=by rfl)(hlen:js.length+nl=(cN X js tg).length:=by rfl)
 (hk:scope.kind=.function:=by rfl)(hcell:∀y∈scope.names,y.2=.cell->scope.names.lookup y.1=some .cell:=by decide+kernel)(hnames:∀y∈scope.names,y.2=.local->scope.names.lookup y.1=some .local:=by decide+kernel)
 (hfree:∀y∈scope.names,y.2=.free->(X.env.scope.names.lookup y.1=some .cell\/X.env.scope.names.lookup y.1=some .free):=by exact frB<|by kernel_rfl)(hs:∀x,df iter X.env x=î x:=by intro _;rfl):CF X js nl tg iter scope:=⟨hcap,hcalm,hlen,hk,hcell,hnames,hfree,hs⟩
def Vw(hi:PI X.Ϭ tg iter (tG (kk X cm) E (Gd<|kk X cm) mi))(hg:∀{cl C s H fp},PG (jd X.Ϭ (cN X js tg) scope cl C s H fp) tg<|tT (kk X cm) g)(ht:∀{cl C s H fp},CQ (jd X.Ϭ (cN X js tg) scope cl C s H fp) ifs<|tB (kk X cm) EF mt)(he:∀{cl C s H fp},PE (jd X.Ϭ (cN X js tg) scope cl C s H fp) elt<|tV (kk X cm) EF me)(h:CF X js nl tg iter scope:=by exact cf):
 PE X (.ListComp elt [⟨tg,iter,ifs,0⟩] scope pos) (tO (kk X cm) E<|Ħ js nl mi g mt me):=IC (cN X js tg) js nl X.env.scope rfl h.hcalm hi (λx x x x x=>hg) (λx x x x x=>ht) (λx x x x x=>he) h.hcap h.hlen h.hk h.hcell h.hnames h.hfree h.hs
def eo(hi:PI X.Ϭ tg iter (tI (kk X cm) E mi))(hg:∀{cl C s H fp},PG (jd X.Ϭ (cN X js tg) scope cl C s H fp) tg<|tT (kk X cm) g)(ht:∀{cl C s H fp},CQ (jd X.Ϭ (cN X js tg) scope cl C s H fp) ifs<|tB (kk X cm) EF mt)(he:∀{cl C s H fp},PE (jd X.Ϭ (cN X js tg) scope cl C s H fp) elt<|tV (kk X cm) EF me)(h:CF X js nl tg iter scope:=by exact cf):
 PE X (.ListComp elt [⟨tg,iter,ifs,0⟩] scope pos) (tO (kk X cm) E<|Ħ js nl mi g mt me):=Vw (J2 hi) hg ht he h
def vv{N ps:List Str}{sc:ú}{i:Nat}{y:Str}{py AG:Pos}(S:ĸ N ps sc)(hi:PI X.Ϭ tg iter (tI (kk X cm) E mi))(hg:∀{cl C s H fp},PG (jd X.Ϭ (cN X js tg) scope cl C s H fp) tg<|tT (kk X cm) g)(ht:∀{cl C s H fp},CQ (jd X.Ϭ (cN X js tg) scope cl C s H fp) ifs<|tB (kk X cm) EF mt)(he:∀{cl C s H fp},PE (jd X.Ϭ (cN X js tg) scope cl C s H fp) elt<|tV (kk X cm) EF me)
 (h:CF X js nl tg iter scope:=by exact cf)(hN:X.N=N:=by rfl)(Xj:X.N[i]?=some y:=by kernel_rfl)(hy:X.env.scope.names.lookup y=some .local:=by rfl)(Q6:Ŗ (.ListComp elt [⟨tg,iter,ifs,0⟩] scope pos) (some<|.Name y py) AG.line X.env=î true:=by rfl):
 PS X (.Assign [.Name y py] (.ListComp elt [⟨tg,iter,ifs,0⟩] scope pos) AG) (tS (kk X cm) E<|ĉ i<|Ħ js nl mi g mt me):=Md (hN▸S.nd) Xj hy (cN X js tg) js nl X.env.scope rfl h.hcalm hi (λx x x x x=>hg) (λx x x x x=>ht) (λx x x x x=>he) h.hcap h.hlen h.hk h.hcell h.hnames h.hfree h.hs Q6
end
end P
namespace M5
open PySem PySem.Spec PyProof.Rows L2 M2 M3
end M5
namespace P
open PySem PySem.Spec PyProof.Rows L2 M2 M3 M5
end P
namespace PySem
namespace F
end F
end PySem
namespace P
open PySem PySem.Spec PyProof.Rows L2 M2 M3 M4
section
variable{α:Type}{RI:Nu α}{X:Cx}{cm:String->À}{E:ć->XK}{elt tg iter:Ç}{ifs:List Ç}{scope:ú}{pos:Pos}{mi:M (List α)}{g:α->Ĉ->Option Ĉ}{mt:M Bool}{me:M PV}
def EH{a:ć}(h:tO (kk X cm) E (Ħ js nl mi g mt me) a H Q):vN js nl (tG (kk X cm) E (IA (kk X cm) RI) mi) (RF (kk X cm) RI g) (tB (kk X cm) EF mt) (tV (kk X cm) EF me) a H Q:=vT (λh=>h) h
def DF(N':List Str)(js:List Nat)(nl:Nat)(sc:ú)(qI:X.env.scope=sc)(hcalm:X.calm=true)
 (hi:PI X.Ϭ tg iter (tG (kk X cm) E (IA (kk X cm) RI) mi))(hg:∀cl C s H fp,PG (jd X.Ϭ N' scope cl C s H fp) tg<|RF (kk X cm) RI g)(ht:∀cl C s H fp,CQ (jd X.Ϭ N' scope cl C s H fp) ifs<|tB (kk X cm) EF mt)(he:∀cl C s H fp,PE (jd X.Ϭ N' scope cl C s H fp) elt<|tV (kk X cm) EF me)
 (hcap:gu X.Ϭ sc scope N' js)(hlen:js.length+nl=N'.length:=by rfl)
 (hk:scope.kind=.function:=by rfl)(hcell:∀y∈scope.names,y.2=.cell->scope.names.lookup y.1=some .cell:=by decide+kernel)(hnames:∀y∈scope.names,y.2=.local->scope.names.lookup y.1=some .local:=by decide+kernel)
 (hfree:∀y∈scope.names,y.2=.free->(sc.names.lookup y.1=some .cell\/sc.names.lookup y.1=some .free):=by decide+kernel)
 (hs:∀x,df iter X.env x=î x:=by intro _;rfl):
 PE X (.ListComp elt [⟨tg,iter,ifs,0⟩] scope pos) (tO (kk X cm) E<|Ħ js nl mi g mt me):=
 PE.wk (PE.Ϭ<|CT N' js nl sc qI hcalm hi hg ht he hcap hlen hk hcell hnames hfree hs) λz z z h=>EH h
end
def PF(K:KK):Nu (List PV×List PV):=λc F d v=>∃t xs b vs,v=.ref t/\F t=some (.tup<|xs++[.ref b])/\é K F d.1 xs/\c.L b=some (.lst vs)/\é K F d.2 vs
noncomputable def qz(i:Nat):M (List<|List PV×List PV):=λU=>match U[i]?with
 |some (.dw gv)=>.ok gv U|_=>.bad
section
variable{X:Cx}{cm:String->À}{E:ć->XK}{tg:Ç}
def PH(i:Nat){x:Str}{px:Pos}(hk:D8 X i x=true:=by kernel_rfl):PI X tg (.Name x px) (tG (kk X cm) E (IA (kk X cm)<|PF<|kk X cm)<|qz i):=λÅ s f H R I h=>by
 obtain⟨c,F,U,rel,h⟩:=h;unfold qz at h;cases e:U[i]?with
 |none=>rw[e]at h;exact h.elim|some sl=>
  rw[e]at h;cases sl with
  |dw gv=>
   obtain⟨a,ts,h1,h2,h3⟩:=rel.slot i _ e;refine Be (nq hk) Å s f H R I ⟨.ref a,ŀ h1,.inl ⟨a,rfl,⟨_,Ϧ.of (rel.lent a _ h2).1⟩,h _ F H rel Đ Đ ?_⟩⟩;intro c' j F2 H2 g U2 Ě sF sL sc;have hq:Ϧ X.K H2 a (ts.map V.ref):=Ϧ.of<|sL a _<|Ge rel h2;refine⟨λd hp=>?_,λhi=>⟨_,hq,by rw[hi,Ğ,Paired.length h3];exact ö _⟩⟩;obtain⟨t,ht,xs,b,vs,k1,k2,k3,k4⟩:=CW h3 hp;have hu:(ts.map V.ref)[j]?=some (.ref t):=by rw[Ł,ht];rfl
   refine⟨⟨_,.ref t,hq,hu⟩,λx H' zz=>?_⟩;obtain⟨hH,hx⟩:=zz;subst hH;have:(ts.map V.ref)[j]?=some x:=hx _ hq;rw[hu]at this;cases this;exact⟨F2,Ě,Ú.refl _,Ú.refl _,t,xs,b,vs,rfl,sF _ _ k1,k2.same sF d.1 xs,sc _ _<|Ge rel k3,k4.same sF d.2 vs⟩
  |_=>exact h.elim
noncomputable def gD(i j k:Nat):(List PV×List PV)->Ĉ->Option Ĉ:=λd U=>match d with
 |([p,q],qs)=>some<|((U.set i<|.sh p).set j (.sh q)).set k (.bw qs)|_=>none
def PJ{i j k:Nat}{x y z:Str}{px py pz pos:Pos}{n:Nat}(hc:X.calm=true)(hN:X.N.Nodup)(hi:X.N[i]?=some x)(hj:X.N[j]?=some y)(hk:X.N[k]?=some z)(hx:Loc X.env.scope x)(hy:Loc X.env.scope y)(hz:Loc X.env.scope z)
 (fx:X.fn x=true\/X.env.scope.names.lookup x=some .local:=by first|exact .inl rfl|exact .inr rfl)(fy:X.fn y=true\/X.env.scope.names.lookup y=some .local:=by first|exact .inl rfl|exact .inr rfl)(fz:X.fn z=true\/X.env.scope.names.lookup z=some .local:=by first|exact .inl rfl|exact .inr rfl):
 PG X (.Tuple [.Name x px,.Name y py,.Name z pz] n pos) (RF (kk X cm) (PF<|kk X cm)<|gD i j k):=
 PG.Uj (yq hc (jg (mM hN hi hx fx) (jg (mM hN hj hy fy) (jg (mM hN hk hz fz) yo rfl) rfl) rfl) rfl rfl)<|by
   rintro v a H Q ⟨c,F,U,d,rel,⟨t,xs,b,vs,hv,k1,k2,k3,k4⟩,h⟩;subst hv;obtain⟨ps,qs⟩:=d;unfold gD at h;rcases ps with _|⟨p,_|⟨q,_|⟨_,_⟩⟩⟩
   ·exact h.elim
   ·exact h.elim
   ·skip
    unfold é at k2;obtain⟨u,r,rfl,r1,k2⟩:=k2;unfold é at k2;obtain⟨w,r',rfl,r2,k2⟩:=k2;unfold é at k2;subst k2;refine⟨t,_,rfl,gj.of<|rel.sub _ _ k1,rfl,u,_,rfl,w,_,rfl,.ref b,_,rfl,rfl,?_⟩;have e1:=rel.put (i:=i) (x:=some u) (s:=.sh p) rfl ⟨u,rfl,r1⟩;have e2:=e1.put (i:=j) (x:=some w) (s:=.sh q) rfl ⟨w,rfl,r2⟩;exact h _<|e2.put (i:=k) (x:=some<|.ref b) (s:=.bw qs) rfl ⟨b,vs,rfl,k3,k4⟩
   ·exact h.elim
end
open M5
def tMk(X:Cx)(cm:String->À)(E:ć->XK)(n:Nat)(C:String)(mi:MI)(ta:TA):TE:=λa H Q=>ta a H λvs H1=>∀x dx,H1 x=none->H1 dx=none->dx≠x->IL (kk X cm) n C mi (.ref x::vs) (upd (upd H1 dx<|.own x) x<|.ins (cm C) dx []) (λv H2=>v=.non/\Q (.ref x) H2) (E a)
section
variable{X:Cx}{cm:String->À}{E:ć->XK}{e:Ç}{es:List Ç}{pos p:Pos}{CX:iy}{k n:Nat}{f:À}{fd:Ć}{ps:List Str}{C:String}{mi:MI}{x:Str}
def PK{ta:TA}(M:Mk X.K (cm C) f)(F:ϯ X.prog X.w X.K X.mg X.base CX k f fd ps (IL (kk X cm) n C mi))(hr:ő (k+1) X.A)(hg:Gl X x)(hm:X.mg x=some (.ref<|cm C))(hb:Binds X.K fd ps [])(hx:a_ CX X E)
 (ha:PA X (e::es) ta)(lK:(x==("__debug__":Str))=false:=by kernel_rfl)(he:Ð (e::es) X.env=(false,eval e X.env)::Ð es X.env:=by exact Ĺ rfl)(hpl:(ÿ pos<|Ð es X.env).any (·.1)=false:=by kernel_rfl):
 PE X (.Call (.Name x p) (e::es) [] pos) (tMk X cm E n C mi ta):=by
 intro Å s a H Q I h;refine ig<|oX I hg hm ?_ lK;refine ka (h₀:=X.base) I.ok.mod.Hq M.kp (ώ (ha pos Å s a H _ I h) λus s1 ⟨vs,H1,I1,r,q⟩=>⟨I1.nj,?_⟩) he hpl;exact vZ M F hr hb hx I1 r q
end
noncomputable def Sy(r:PV):Slot:=.dw [([.str "ab",.int 3],[r,.non]),([.str "a",.int 1],[.non])]
def jw(hs:s.own=false)(h:jk F b U a):jk F (b.set i x) (U.set i s) a:=λj q=>by
 have hj:j≠i:=λz=>by
  subst z;obtain⟨s',y,q1,_,q2⟩:=q;rcases Ϙ q1 with⟨_,rfl,_⟩|⟨q,_⟩
  ·have:=iV q2;rw[hs]at this;cases this
  ·exact q rfl
 exact h j<|q.off hj
noncomputable def Je(i:Nat)(U:Ĉ):Bool:=match U[i]?with
 |some (.dw _)=>true|_=>false
noncomputable def PM(b:Ĉ->Bool)(m1 m2:M RV):M RV:=λU=>if b U=true then m1 U else m2 U
def Vx(b:Ĉ->Bool)(h1:PE X e (tO (kk X cm) E m1))(h2:PE X e (tO (kk X cm) E m2)):PE X e (tO (kk X cm) E<|PM b m1 m2):=by
 rintro Å s a H Q I ⟨c,F,U,rel,h⟩;unfold PM at h;split at h
 ·exact h1 Å s a H Q I ⟨c,F,U,rel,h⟩
 ·exact h2 Å s a H Q I ⟨c,F,U,rel,h⟩
inductive WR where
 |t (i:Nat) (p:PV)|d (i:Nat) (ps:List PV)|l (i:Nat) (p:PV)
def WR.ix:WR->Nat
 |.t i _=>i|.d i _=>i|.l i _=>i
noncomputable def WR.to(j:Nat):WR->WR
 |.t _ p=>.t j p|.d _ ps=>.d j ps|.l _ p=>.l j p
noncomputable def qd(σ:ć)(i:Nat):Option V:=(σ[i]?).getD none
def Ao(K:KK)(L B F' H':Hp)(o:Option V)(H2:Hp):WR->Prop
 |.t _ p=>∃a vs v,o=some (.ref a)/\L a=some (.lst vs)/\Ċ K F' p v/\vs.length<sizeLine/\H2=upd H' a (.lst<|vs++[v])|.d _ ps=>∃a us t xs b,o=some (.ref a)/\L a=some (.lst us)/\F' t=some (.tup<|xs++[.ref b])/\é K F' ps xs/\H' b=some (.lst [])/\F' b=none/\B b=none/\H2=upd H' a (.lst<|us++[.ref t])|.l _ p=>∃a us t xs b vs v,o=some (.ref a)/\L a=some (.lst<|us++[.ref t])/\F' t=some (.tup<|xs++[.ref b])/\L b=some (.lst vs)/\Ċ K F' p v/\H2=upd H' b (.lst<|vs++[v])
theorem Ao.to{K:KK}(h:Ao K L B F' H' o H2 w):Ao K L B F' H' o H2 (w.to j):=by cases w<;>exact h
def Kg{w:WR}:(w.to j).ix=j:=by cases w<;>rfl
def lu(K:KK)(E:ć->XK)(c:Ctx)(F:Hp)(b:ć)(n:Nat)(D:Ends):į WR->Prop
 |.ok w U'=>∀a F' H' H2,Ĕ K c F' H' a U'->Ú F F'->(∀i,i<n->qd a i=qd b i)->Ao K c.L c.B F' H' (qd a w.ix) H2 w->D.nx a H2|.exc x U'=>∀a C d F' H',Ĕ K c F' H' a U'->Ú F F'->yJ K F' x C d->E a C d H'|.bad=>False
def tW(K:KK)(E:ć->XK)(n:Nat)(m:M WR):TS:=λD a H=>∃c F U,Ĕ K c F H a U/\lu K E c F a n D (m U)
section
variable{K:KK}{E:ć->XK}{c:Ctx}{F F1:Hp}{σ:ć}{n:Nat}{D:Ends}
def lu.mono(h:lu K E c F σ n D r)(sF:Ú F F1):lu K E c F1 σ n D r:=by
 cases r with
 |ok w U'=>exact λa F' H' H2 rel s1 e q=>h a F' H' H2 rel (sF.trans s1) e q
 |exc x U'=>exact λa C d F' H' rel s1 q=>h a C d F' H' rel (sF.trans s1) q
 |bad=>exact h
theorem lu.bind{α β:Type}{R:RR α β}{Q:β->Hp->Prop}{r:į α}{f:α->Ĉ->į WR}(h:lu K E c F σ n D (r.bind f))
 (k:∀p U1 v F1 H1,Ĕ K c F1 H1 σ U1->Ú F F1->Ú H H1->R c σ U1 F1 H1 p v->lu K E c F1 σ n D (f p U1)->Q v H1):ak K E R c F H σ Q r:=by
 cases r with
 |ok p U'=>exact λv F' H' rel s1 s2 q=>k p U' v F' H' rel s1 s2 q<|lu.mono (show lu K E c F σ n D (f p U')from h) s1
 |exc x U'=>exact λC d F' H' rel s1 q=>h σ C d F' H' rel s1 q
 |bad=>exact h
end
section
variable{X:Cx}{cm:String->À}{E:ć->XK}{a e:Ç}{pos:Pos}{n:Nat}{mt:M Bool}{mo:M RV}{me:M PV}{mb:M Fl}{mr m1 m2:M WR}{ss rest QW:List è}
@[simp]def uD(mt:M Bool)(mb:M Fl)(mr:M WR)(U:Ĉ):į WR:=(mt U).bind fun b U1=>if b=true then(match mb U1 with
  |.exc x U2=>.exc x U2|_=>.bad)else mr U1
def tE(hc:PT X a (tB (kk X cm) E mt))(hb:bC X ss (tS (kk X cm) E mb))(hr:bC X rest (tW (kk X cm) E n mr)):bC X (.If a ss [] pos::rest) (tW (kk X cm) E n<|uD mt mb mr):=
 bC.wk (gq (Fa hc hb CH) hr) λD d H ⟨c,F,U,rel,h⟩=>⟨c,F,U,rel,lu.bind h λb U1 v F1 H1 ä s1 y q h1=>by
  have e:b=v:=q;subst e;cases b with
  |true=>
   rw[if_pos rfl]at h1⊢;refine⟨c,F1,U1,ä,?_⟩;cases em:mb U1 with
   |exc x U2=>rw[em]at h1;exact h1|ok f U2=>rw[em]at h1;exact h1.elim|bad=>rw[em]at h1;exact h1.elim
  |false=>rw[if_neg bE]at h1⊢;exact⟨c,F1,U1,ä,h1⟩⟩
@[simp]def Mu(mt:M Bool)(m1 m2:M WR)(U:Ĉ):į WR:=(mt U).bind λb U1=>if b=true then m1 U1 else m2 U1
def PN(hc:PT X a (tB (kk X cm) E mt))(h1:bC X ss (tW (kk X cm) E n m1))(h2:bC X QW (tW (kk X cm) E n m2)):bC X [.If a ss QW pos] (tW (kk X cm) E n<|Mu mt m1 m2):=
 bC.wk (kf<|Fa hc h1 h2) λD d H ⟨c,F,U,rel,h⟩=>⟨c,F,U,rel,lu.bind h λb U1 v F1 H1 ä s1 x q h1=>by
  have e:b=v:=q;subst e;cases b with
  |true=>rw[if_pos rfl]at h1⊢;exact⟨c,F1,U1,ä,h1⟩|false=>rw[if_neg bE]at h1⊢;exact⟨c,F1,U1,ä,h1⟩⟩
def tF(h:i≠j):qd (b.set j v) i=qd b i:=by unfold qd;rw[lQ<|Ė h]
@[simp]def Kh(i:Nat)(mo:M RV)(mr:M WR)(U:Ĉ):į WR:=(mo U).bind λr U1=>mr<|U1.set i r.slot
def lu.set{K:KK}(hs:∀i,i<n->qd b i=qd f i)(h:lu K E c F f n D r):lu K E c F b n D r:=by
 cases r with
 |ok w U'=>exact λd F' H' H2 rel s1 e q=>h d F' H' H2 rel s1 (λi hi=>(e i hi).trans (hs i hi)) q
 |exc x U'=>exact h|bad=>exact h
def PP{i:Nat}{x:Str}{bh:Pos}(hN:X.N.Nodup)(hi:X.N[i]?=some x)(hx:Loc X.env.scope x)(he:PE X e (tO (kk X cm) E mo))(hr:bC X rest (tW (kk X cm) E n mr))(hn:n<=i:=by decide)(hs:Ŗ e (some<|.Name x bh) pos.line X.env=î false:=by kernel_rfl)(hf:X.fn x=true\/X.env.scope.names.lookup x=some .local:=by first|exact .inl rfl|exact .inr rfl|assumption):
 bC X (.Assign [.Name x bh] e pos::rest) (tW (kk X cm) E n<|Kh i mo mr):=bC.wk (gq (tX hN hi hx he hs hf) hr) λD b H ⟨c,F,U,rel,h⟩=>⟨c,F,U,rel,lu.bind h λr U1 v F1 H1 ä s1 y q h1=>by
 have h2:lu (kk X cm) E c F1 (b.set i<|some v) n D (mr<|U1.set i r.slot):=lu.set (λj hj=>tF<|by lia) h1;cases r with
 |sh p=>exact⟨c,F1,_,ä.put (s:=.sh p) rfl ⟨v,rfl,q⟩,h2⟩|ow ps=>obtain⟨a,vs,rfl,q1,q2,q3,q4,q5⟩:=q;exact⟨c,F1,_,ä.Bc (s:=.ow ps) ⟨a,vs,rfl,q1,q2,q3,q5⟩ λy z=>V.ref.inj z▸q4,h2⟩
 |ot ps qs rs=>obtain⟨p,a,xs,vs,ys,rfl,q0,qx,q1,q2,q3,q4,q5,q6⟩:=q;exact⟨c,F1,_,ä.Bc (s:=.ot ps qs rs) ⟨p,a,xs,vs,ys,rfl,q0,qx,q1,q2,q3,q5,q6⟩ λy z=>pd (ps:=ps) (qs:=qs) (rs:=rs) z ⟨p,xs,ys,rfl,q0,qx.length.symm⟩▸q4,h2⟩
 |bn t ps qs rows=>exact⟨c,F1,_,ä.LR q,h2⟩⟩
def y_(h:b[i]?=some (some v)):qd b i=some v:=by unfold qd;rw[h];rfl
def Ap(i:Nat)(me:M PV):M WR:=λU=>match U[i]?with
 |some (.bw _)=>(me U).bind λp U1=>match U1[i]?with
  |some (.bw ps)=>if ps.length<16777216then .ok (.t i p) U1 else .bad|_=>.bad
 |_=>.bad
set_option tactic.hygienic true in
def GS{b:ć}(h:tW (kk X cm) E n (Ap i me) D b H):tQ (Np X.K "list" oZ (iS i) (tL (kk X cm) E<|É me æ)) D b H:=by
 obtain⟨c,F,U,rel,h⟩:=h;unfold Ap at h;cases e1:U[i]?with
 |none=>rw[e1]at h;exact h.elim|some sl=>
  rw[e1]at h;cases sl with
  |bw Uk=>
   obtain⟨a,Ul,z1,z2,z3⟩:=rel.slot i _ e1;refine⟨.ref a,ŀ z1,.inl ⟨rfl,_,Ϧ.of (rel.lent a _ z2).1⟩,c,F,U,rel,?_⟩;dsimp only at h;unfold É;cases em:me U with
   |bad=>rw[em]at h;exact h|exc x U1=>rw[em]at h;exact λC d F' H' ŷ s1 q=>h b C d F' H' ŷ s1 q
   |ok p U1=>
    rw[em]at h;intro us F1 H1 ä s1 s2 r1;have tJ:é (kk X cm) F1 [p] us:=r1;cases tJ.pr with
    |cons rp t=>
     rename_i v gU;cases t;cases e2:U1[i]?with
     |none=>simp only[į.bK,e2]at h;exact h.elim|some EU=>
      simp only[į.bK,e2]at h;cases EU with
      |bw ps=>
       obtain⟨a2,vs,w1,w2,w5⟩:=ä.slot i _ e2;rw[z1]at w1;cases w1;dsimp only at h;split at h
       ·rename_i hz;have hl:vs.length<sizeLine:=by rw[<-w5.length,Ĩ];exact hz
        exact⟨a,vs,v,rfl,rfl,(ä.lent a _ w2).1,hl,h b F1 H1 _ ä s1 (λy y=>rfl) ⟨a,vs,v,y_<|ŀ z1,w2,rp,hl,rfl⟩⟩
       ·exact h.elim
      |_=>exact h.elim
  |_=>exact h.elim
def Mv{i:Nat}{x:Str}{px ap cp:Pos}(ho:PE X (.Name x px) (iS i))(he:PE X e (tV (kk X cm) E me))(lM:eN (.Name x px) "append" X.env (eval (.Name x px) X.env)=eval (.Name x px) X.env:=by kernel_rfl)
 (uZ:((ÿ cp<|Ð [e] X.env).all (λx=>!x.1)&&(aR cp<|aS [] X.env).all (λx=>x.1.isSome)&&decide ([e].length+([]:List aQ).length+(if([]:List aQ).isEmpty then 0 else 1)<30))=true:=by rfl)
 (lN:(ap.endLine==cp.line)=true:=by rfl)(jN:Ð [e] X.env=(false,eval e X.env)::Ð [] X.env:=by exact Ĺ rfl)(hpl:(ÿ cp<|Ð [] X.env).any (·.1)=false:=by kernel_rfl)(hs:Ŗ (.Call (.Attribute (.Name x px) "append" ap) [e] [] cp) none pos.line X.env=î false:=by kernel_rfl):
 bC X [.Expr (.Call (.Attribute (.Name x px) "append" ap) [e] [] cp) pos] (tW (kk X cm) E n<|Ap i me):=
 bC.wk (kf<|ž (fG aV bG cB ŵ ho (Í he õ jN) lM uZ lN jN hpl) hs) λy y y h=>GS h
noncomputable def Aq(i j:Nat):M WR:=λU=>match U[i]?,U[j]?with
 |some (.dw gv),some (.ot ps [] [])=>if gv.length<16777216then .ok (.d i ps) (U.set j .no)else .bad|_,_=>.bad
set_option tactic.hygienic true in
def GU{d:ć}(h:tW (kk X cm) E n (Aq i j) D d H):tQ (Np X.K "list" oZ (iS i) (Fs (iS j) Fq)) D d H:=by
 obtain⟨c,F,U,rel,h⟩:=h;unfold Aq at h;split at h
 ·rename_i gv ps e1 e2;split at h
  ·rename_i hz;obtain⟨a,ts,z1,z2,z3⟩:=rel.slot i _ e1;obtain⟨p,b,xs,vs,ys,y1,y2,y3,y4,y5,y6,y7,y8⟩:=rel.slot j _ e2;unfold é at y7 y8;subst y7 y8;have hl:(ts.map V.ref).length<sizeLine:=by rw[Ğ,Paired.length z3,Ĩ];exact hz
   refine⟨.ref a,ŀ z1,.inl ⟨rfl,_,Ϧ.of (rel.lent a _ z2).1⟩,.ref p,ŀ y1,a,_,.ref p,rfl,rfl,(rel.lent a _ z2).1,hl,?_⟩;obtain⟨m1,_⟩:=rel.move ⟨_,_,e2,ŀ y1,⟨p,xs,[],rfl,y2,y3.length.symm⟩⟩;exact h d F H _ m1 Đ (λx x=>rfl) ⟨a,_,p,xs,b,y_<|ŀ z1,z2,y2,y3,y4,y5,y6,rfl⟩
  ·exact h.elim
 ·exact h.elim
def Mw{i j:Nat}{x y:Str}{px py ap cp:Pos}(ho:PE X (.Name x px) (iS i))(he:PE X (.Name y py) (iS j))(lM:eN (.Name x px) "append" X.env (eval (.Name x px) X.env)=eval (.Name x px) X.env:=by kernel_rfl)
 (uZ:((ÿ cp<|Ð [.Name y py] X.env).all (λx=>!x.1)&&(aR cp<|aS [] X.env).all (λx=>x.1.isSome)&&decide ([Expr.Name y py].length+([]:List aQ).length+(if([]:List aQ).isEmpty then 0 else 1)<30))=true:=by rfl)
 (lN:(ap.endLine==cp.line)=true:=by rfl)(jN:Ð [.Name y py] X.env=(false,eval (.Name y py) X.env)::Ð [] X.env:=by exact Ĺ rfl)(hpl:(ÿ cp<|Ð [] X.env).any (·.1)=false:=by kernel_rfl)(hs:Ŗ (.Call (.Attribute (.Name x px) "append" ap) [.Name y py] [] cp) none pos.line X.env=î false:=by kernel_rfl):
 bC X [.Expr (.Call (.Attribute (.Name x px) "append" ap) [.Name y py] [] cp) pos] (tW (kk X cm) E n<|Aq i j):=
 bC.wk (kf<|ž (fG aV bG cB ŵ ho (ϭ he cG jN) lM uZ lN jN hpl) hs) λz z z h=>GU h
def Jf{α:Type}{l:List α}{x:α}:nr (l++[x]) (-1)=some x:=by unfold nr CL;rw[if_neg (by lia),if_pos (by simp;lia)];show(l++[x])[(-1+((l++[x]).length:Int)).toNat]?=some x;rw[show(-1+((l++[x]).length:Int)).toNat=l.length by simp;lia];simp
abbrev PQ(K:Î)(i:Nat):TE:=JU (T2 K) (JU (T2 K) (iS i)<|XR (rU λi=>.int<|-i)<|tC<|.int 1)<|tC<|.int 2
def Ar{α β:Type}{G:α->β->Prop}{l:List α}{m:List β}{d:β}(h:Paired G l m)(e:m.getLast?=some d):∃l0 x,l=l0++[x]/\Paired G l0 m.dropLast/\G x d:=by
 induction h with
 |nil=>cases e|cons r t ih=>
  cases t with
  |nil=>cases e;exact⟨[],_,rfl,.nil,r⟩|cons r' t'=>obtain⟨k,x,e2,g1,g2⟩:=ih (by rw[List.getLast?_cons_cons]at e;exact e);exact⟨_::k,x,by rw[e2];rfl,.cons r g1,g2⟩
def Jg{α β:Type}{G:α->β->Prop}{l:List α}{m:List β}{y:β}(h:Paired G l m)(e:m.getLast?=some y):∃k x,l=k++[x]/\G x y:=
 have⟨k,x,e,_,g⟩:=Ar h e
 ⟨k,x,e,g⟩
def DG{K:KK}{i:Nat}(rel:Ĕ K c F H f U)(e:U[i]?=some (.dw gv))(hd:gv.getLast?=some d):
 ∃a us t xs b vs,f[i]?=some (some<|.ref a)/\c.L a=some (.lst<|us++[.ref t])/\F t=some (.tup<|xs++[.ref b])/\é K F d.1 xs/\c.L b=some (.lst vs)/\é K F d.2 vs:=by
 obtain⟨a,ts,z1,z2,z3⟩:=rel.slot i _ e;obtain⟨k,t,rfl,xs,b,vs,k1,k2,k3,k4⟩:=Jg z3 hd;exact⟨a,k.map V.ref,t,xs,b,vs,ŀ z1,by rw[z2,Ŕ];rfl,k1,k2,k3,k4⟩
def Vy{y:V}(h:xs.length=2):nr (xs++[y]) 2=some y:=by unfold nr CL;rw[if_pos (by lia),if_pos (by simp;lia)];simp[<-h]
def GV{K:Î}{c:ć}{a t b:À}(h1:c[i]?=some (some<|.ref a))(h2:H a=some (.lst<|us++[.ref t]))(h3:H t=some (.tup<|xs++[.ref b]))(hl:xs.length=2)(q:Q (.ref b) H):PQ K i c H Q:=
 ⟨.ref a,h1,1,rfl,.inl ⟨a,_,-1,.ref t,rfl,rfl,Ϧ.of h2,Jf,.inr<|.inl ⟨t,_,2,.ref b,rfl,rfl,gj.of h3,Vy hl,q⟩⟩⟩
def As(i:Nat)(me:M PV):M WR:=λU=>match U[i]?with
 |some (.dw gv)=>match gv.getLast? with
  |some d=>if d.1.length=2/\d.2.length<16777216then(me U).bind λp U1=>.ok (.l i p) U1 else .bad
  |none=>.bad
 |_=>.bad
set_option tactic.hygienic true in
def GW{f:ć}(h:tW (kk X cm) E n (As i me) D f H):tQ (Np X.K "list" oZ (PQ X.K i) (tL (kk X cm) E<|É me æ)) D f H:=by
 obtain⟨c,F,U,rel,h⟩:=h;unfold As at h;split at h
 ·rename_i gv e1;split at h
  ·rename_i d hd;split at h
   ·rename_i hz;obtain⟨a,us,t,xs,b,vs,z1,z2,z3,z4,z5,z6⟩:=DG rel e1 hd;refine GV z1 (rel.lent a _ z2).1 (rel.sub _ _ z3) (by rw[<-z4.length];exact hz.1) ⟨.inl ⟨rfl,_,Ϧ.of (rel.lent b _ z5).1⟩,c,F,U,rel,?_⟩;unfold É;cases em:me U with
    |bad=>rw[em]at h;exact h|exc x U1=>rw[em]at h;exact λC d F' H' ŷ s1 q=>h f C d F' H' ŷ s1 q
    |ok p U1=>
     rw[em]at h;intro ws F1 H1 ä s1 s2 r1;have tJ:é (kk X cm) F1 [p] ws:=r1;cases tJ.pr with
     |cons rp u=>rename_i v gU;cases u;exact⟨b,vs,v,rfl,rfl,(ä.lent b _ z5).1,by rw[<-z6.length,Ĩ];exact hz.2,h f F1 H1 _ ä s1 (λy y=>rfl) ⟨a,us,t,xs,b,vs,v,y_ z1,z2,s1 _ _ z3,z5,rp,rfl⟩⟩
   ·exact h.elim
  ·exact h.elim
 ·exact h.elim
def Mx{i:Nat}{o:Ç}{ap cp:Pos}(ho:PE X o (PQ X.K i))(he:PE X e (tV (kk X cm) E me))(lM:eN o "append" X.env (eval o X.env)=eval o X.env:=by kernel_rfl)
 (uZ:((ÿ cp<|Ð [e] X.env).all (λx=>!x.1)&&(aR cp<|aS [] X.env).all (λx=>x.1.isSome)&&decide ([e].length+([]:List aQ).length+(if([]:List aQ).isEmpty then 0 else 1)<30))=true:=by rfl)
 (lN:(ap.endLine==cp.line)=true:=by rfl)(jN:Ð [e] X.env=(false,eval e X.env)::Ð [] X.env:=by exact Ĺ rfl)(hpl:(ÿ cp<|Ð [] X.env).any (·.1)=false:=by kernel_rfl)(hs:Ŗ (.Call (.Attribute o "append" ap) [e] [] cp) none pos.line X.env=î false:=by kernel_rfl):
 bC X [.Expr (.Call (.Attribute o "append" ap) [e] [] cp) pos] (tW (kk X cm) E n<|As i me):=
 bC.wk (kf<|ž (fG aV bG cB ŵ ho (Í he õ jN) lM uZ lN jN hpl) hs) λy y y h=>GW h
def Mz(ho:PE X (.Name x px) (iS i)):PE X (.Subscript (.Subscript (.Name x px) (.UnaryOp .USub (.Constant (.int 1) j1 p1) p2) p3) (.Constant (.int 2) j2 p4) p5) (PQ X.K i):=
 Fx A3 (Fx A3 ho (JX Fi ym) λy y=>rfl) ym λy y=>rfl
noncomputable def uE(i:Nat):M PV:=λU=>match U[i]?with
 |some (.dw gv)=>.ok (.int gv.length) U|_=>.bad
noncomputable def Au(i:Nat):M PV:=λU=>match U[i]?with
 |some (.dw gv)=>match gv.getLast? with
  |some d=>if d.1.length=2then .ok (.int d.2.length) U else .bad|none=>.bad
 |_=>.bad
end
inductive FW where
 |ok (w:WR)|exc (x:PX)|bad
abbrev MW:=List Slot->FW
def gC(n k:Nat)(mb:M WR):MW:=λas=>if as.length=n then(match mb (ĕ k as)with
 |.ok w _=>if w.ix<n then .ok w else .bad|.exc x _=>.exc x|.bad=>.bad)else .bad
def PU(K:KK)(E:XK)(F H:Hp)(vs:List V)(Q:VK):FW->Prop
 |.ok w=>∀F' H' H2,Gr F H F' H'->Ao K (cn F H).L H F' H' (vs[w.ix]?) H2 w->Q .non H2|.exc x=>∀C d F' H',Gr F H F' H'->yJ K F' x C d->E C d H'|.bad=>False
def PZ(K:KK)(n:Nat)(mf:MW):Sp:=λvs H Q E=>∃F as,as.length=n/\Ú F H/\Paired (du K F H) as vs/\PU K E F H vs Q (mf as)
def EI(h:i<vs.length):qd (L2.start N vs) i=vs[i]?:=by
 unfold qd L2.start;rw[ϧ (by simpa using h),Ł,œ h];rfl
section
variable{Pg:ë}{w:â}{K:Î}{cm:String->À}{mg:Str->Option Á}{base:Ò}{CX:iy}
def fnW{x qual:Str}{st:è}{f:À}{fd:Ć}{N ps:List Str}{k n j:Nat}{mb:M WR}{mf:MW}(F:El K x qual st f fd)(S:ĸ N ps (ç st))
 (fv:∀(cdv:Á) (A:ê) (outer:List Env) (s:Ã) (H:Hp) (E:XK),ő k (A.deeper<|ŕ qual (ç st) s.heap.objs.size f cdv)→(A.deeper<|ŕ qual (ç st) s.heap.objs.size f cdv).units+64<ż→
   bC (nK CX Pg w K mg base N qual (ç st) f cdv A outer s H E) (ğ st) (tW ⟨K,cm⟩ (λy=>E) ps.length mb))(hn:ps.length=n:=by rfl)(hj:N.length=j:=by rfl)(hf:mf=gC n j mb:=by rfl):ϯ Pg w K mg base CX (k+1) f fd ps (PZ ⟨K,cm⟩ n mf):=by
 subst hn hj hf;obtain⟨oc,od,kV,doc,pm,an,cdv,ct,zx,rfl,lk,wM⟩:=F.ex;refine vI lk wM S (λvs H Q E ⟨F,kU,h1,_,h2,_⟩=>by rw[<-Paired.length h2];exact h1) λA outer s H vs Q E hr zI=>?_;obtain⟨F,kU,h1,h2,h3,h4⟩:=zI;refine⟨_,fv cdv A outer s H E hr hr.units,cn F H,F,ĕ N.length kU,Ĕ.start h2 h3,?_⟩;unfold gC at h4;rw[if_pos h1]at h4;cases e:mb (ĕ N.length kU)with
 |bad=>rw[e]at h4;exact h4|exc x U'=>rw[e]at h4;exact λa C d F' H' rel s1 q=>h4 C d F' H' rel.gr q
 |ok w U'=>
  rw[e]at h4;dsimp only at h4;split at h4
  ·rename_i hw;intro a F' H' H2 rel s1 hs q;refine h4 F' H' H2 rel.gr ?_;rw[hs _ hw,EI (by rw[<-Paired.length h3,h1];exact hw)]at q;exact q
  ·exact h4.elim
end
noncomputable def kK(U:Ĉ):List Nat->Option (List Slot)
 |[]=>some []|i::is=>((U[i]?).bind fh).bind λs=>(kK U is).map (s::·)
theorem uF{K:KK}(rel:Ĕ K c F H a U):∀{ns:List Nat}{as:List Slot},kK U ns=some as->∃vs:List V,ns.map (qd a)=vs.map some/\Paired (du K F H) as vs
 |[],as,h=>by cases h;exact⟨[],rfl,.nil⟩|i::ns,as,h=>by unfold kK at h;obtain⟨s,e1,h⟩:=oA.mp h;obtain⟨as',e2,rfl⟩:=h_.mp h;obtain⟨v,v1,v2⟩:=tq rel e1;obtain⟨vs,q1,q2⟩:=uF rel e2;exact⟨v::vs,by rw[à,à,q1,y_ v1],.cons v2 q2⟩
def NA(ns:List Nat):TA:=λa H Q=>∃vs:List V,ns.map (qd a)=vs.map some/\Q vs H
noncomputable def rz:WR->Option Slot->Bool
 |.t _ _,some (.bw _)=>true|.d _ _,some (.dw _)=>true|.l _ _,some (.dw _)=>true|_,_=>false
def ϲ(mf:MW)(ns:List Nat):M WR:=λU=>match kK U ns with
 |none=>.bad|some as=>match mf as with
  |.ok w=>(match ns[w.ix]?with
    |some j=>if rz w U[j]?=true then .ok (w.to j) U else .bad|none=>.bad)
  |.exc x=>.exc x U|.bad=>.bad
section
variable{X:Cx}{cm:String->À}{E:ć->XK}{CX:iy}{k j n m:Nat}{f:À}{fd:Ć}{ps:List Str}{mf:MW}{x:Str}{st:è}{p pos vd:Pos}{e:Ç}{es:List Ç}
def za:PA X [] (NA []):=PA.wk cG<|by
 rintro a H Q ⟨vs,h1,h2⟩;cases vs with
 |nil=>exact h2|cons _ _=>cases h1
def Bx(h:qd a i=some v):a[i]?=some (some v):=ŀ h
def bc(i:Nat){ns:List Nat}{px:Pos}(ho:PE X (.Name x px) (iS i))(hr:PA X es (NA ns))(hs:Ð (.Name x px::es) X.env=(false,eval (.Name x px) X.env)::Ð es X.env:=by exact Ĺ rfl):PA X (.Name x px::es) (NA (i::ns)):=
 PA.wk (ϭ ho hr hs)<|by
   rintro a H Q ⟨vs,h1,h2⟩;cases vs with
   |nil=>cases h1|cons v vs=>
    rw[à,à]at h1;injection h1 with h3 h4
    exact⟨v,Bx h3,vs,h4,h2⟩
def Av{sp:Sp}{ta:TA}(F:ϯ X.prog X.w X.K X.mg X.base CX k f fd ps sp)(hr:ő k X.A)(hg:Gl X x)(hm:X.mg x=some (.ref f))(hk:ϫ X.K (.ref f)=true)(hb:Binds X.K fd ps [])(hx:a_ CX X E)
 (ha:PA X (e::es) ta)(lK:(x==("__debug__":Str))=false:=by kernel_rfl)(he:Ð (e::es) X.env=(false,eval e X.env)::Ð es X.env:=by exact Ĺ rfl)(hpl:(ÿ pos<|Ð es X.env).any (·.1)=false:=by kernel_rfl):
 PE X (.Call (.Name x p) (e::es) [] pos) (λa H Q=>ta a H λvs H1=>sp vs H1 Q<|E a):=by
 intro Å s a H Q I h;refine ig<|oX I hg hm ?_ lK;refine ka (h₀:=X.base) I.ok.mod.Hq hk (ώ (ha pos Å s a H _ I h) λus s1 ⟨vs,H1,I1,r,q⟩=>⟨I1.nj,?_⟩) he hpl;exact mO F hr hb hx I1 r q
def qA{ps:List Slot}(h:gC n k mb ps≠.bad):ps.length=n:=by
 unfold gC at h;by_cases hl:ps.length=n
 ·exact hl
 ·rw[if_neg hl]at h;exact absurd rfl h
def MA{p:PV}(h:rz (.t j p) o=true):∃ps,o=some (.bw ps):=by
 cases o with
 |none=>cases h|some s=>cases s<;>first|exact⟨_,rfl⟩|cases h
def MB{p:List PV}(h:rz (.d j p) o=true):∃ps,o=some (.dw ps):=by
 cases o with
 |none=>cases h|some s=>cases s<;>first|exact⟨_,rfl⟩|cases h
def MC{p:PV}(h:rz (.l j p) o=true):∃ps,o=some (.dw ps):=by
 cases o with
 |none=>cases h|some s=>cases s<;>first|exact⟨_,rfl⟩|cases h
def Aw{F:Hp}(h:F t=some (.tup<|xs++[.ref b]))(h':F t=some (.tup<|ys++[.ref b'])):b=b':=by
 rw[h]at h';injection h' with h'
 injection h' with h'
 have:=(List.append_inj' h' rfl).2;injection this with this
 injection this
def P_{K:KK}(rel:Ĕ K c F H o U)(g:Gr F H F' H')(hs:rz w U[i]?=true)(h:Ao K (cn F H).L H F' H' (qd o i) H2 w):Ao K c.L c.B F' H' (qd o i) H2 w:=by
 have Yq:∀{gv:List (List PV×List PV)}{a:À}{us:List V},U[i]?=some (.dw gv)->qd o i=some (.ref a)->(cn F H).L a=some (.lst us)->c.L a=some (.lst us)/\∃ts:List À,us=ts.map V.ref/\∀t∈ts,∃xs b vs,F t=some (.tup<|xs++[.ref b])/\c.L b=some (.lst vs):=by intro gv a us e h1 h2;obtain⟨a',ts,q1,q2,q3⟩:=rel.slot i _ e;have e2:=ŀ q1;rw[Bx h1]at e2;cases e2;have e3:=(rel.lent a _ q2).1;rw[(ϰ h2).1]at e3;cases e3;refine⟨q2,ts,rfl,λt ht=>?_⟩;obtain⟨j,hj⟩:=BZ ht;obtain⟨d,_,xs,b,vs,k1,_,k3,_⟩:=bT q3 hj;exact⟨xs,b,vs,k1,k3⟩
 cases w with
 |t j p=>obtain⟨ps,e⟩:=MA hs;obtain⟨a,vs,v,h1,h2,h3⟩:=h;obtain⟨a',gU,q1,q2,q3⟩:=rel.slot i _ e;have e2:=ŀ q1;rw[Bx h1]at e2;cases e2;have e3:=(rel.lent a _ q2).1;rw[(ϰ h2).1]at e3;cases e3;exact⟨a,vs,v,h1,q2,h3⟩|d j ps=>obtain⟨gv,e⟩:=MB hs;obtain⟨a,us,t,xs,b,h1,h2,h3,h4,h5,h6,h7,h8⟩:=h;exact⟨a,us,t,xs,b,h1,(Yq e h1 h2).1,h3,h4,h5,h6,rel.base.free h7,h8⟩|l j p=>
  obtain⟨gv,e⟩:=MC hs;obtain⟨a,us,t,xs,b,vs,v,h1,h2,h3,h4,h5⟩:=h;obtain⟨g1,ts,g2,g3⟩:=Yq e h1 h2;have ht:t∈ts:=by
   have:V.ref t∈ts.map V.ref:=by rw[<-g2];simp
   obtain⟨t',m1,m2⟩:=ģ.mp this;injection m2 with m2
   exact m2▸m1
  obtain⟨xs',b',gU,k1,k2⟩:=g3 t ht;have eb:=Aw (g.f _ _ k1) h3;subst eb;have e3:=(rel.lent b' _ k2).1;rw[(ϰ h4).1]at e3;cases e3;exact⟨a,us,t,xs,b',vs,v,h1,g1,h3,k2,h5⟩
def w_call(F:ϯ X.prog X.w X.K X.mg X.base CX k f fd ps (PZ (kk X cm) m mf))(D:Df X.K X.mg x st ps f fd)(hr:ő j X.A)(hx:a_ CX X E){ns:List Nat}(ha:PA X (e::es) (NA ns))
 (hlen:∀{as:List Slot},mf as≠.bad->as.length=m:=by exact qA)(hg:Gl X x:=by kernel_rfl)(vB:k<=j:=by decide)(lK:(x==("__debug__":Str))=false:=by kernel_rfl)(he:Ð (e::es) X.env=(false,eval e X.env)::Ð es X.env:=by exact Ĺ rfl)(hpl:(ÿ pos<|Ð es X.env).any (·.1)=false:=by kernel_rfl)(hs:Ŗ (.Call (.Name x p) (e::es) [] pos) none vd.line X.env=î false:=by kernel_rfl):
 bC X [.Expr (.Call (.Name x p) (e::es) [] pos) vd] (tW (kk X cm) E n<|ϲ mf ns):=
 bC.wk (kf<|ž (Av F (hr.mono vB) hg D.m D.F.kp D.b hx ha lK he hpl) hs)<|by
  rintro D a H ⟨c,F,U,rel,h⟩;unfold ϲ at h;cases el:kK U ns with
  |none=>rw[el]at h;exact h.elim|some as=>
   rw[el]at h;dsimp only at h;obtain⟨vs,v1,v2⟩:=uF rel el;refine⟨vs,v1,F,as,hlen λz=>?_,rel.sub,v2,?_⟩
   ·rw[z]at h;exact h
   ·cases em:mf as with
    |bad=>rw[em]at h;exact h|exc x=>rw[em]at h;exact λC d F' H' g rx=>h a C d F' H' (rel.call g) g.f rx
    |ok w=>
     rw[em]at h;dsimp only at h;cases ej:ns[w.ix]?with
     |none=>rw[ej]at h;exact h.elim|some i=>
      rw[ej]at h;dsimp only at h;split at h
      ·rename_i hok;intro F' H' H2 g hw;have ev:vs[w.ix]?=qd a i:=by
        have:=congrArg (λl=>l[w.ix]?) v1;simp only[Ł,ej,Option.map_some]at this;cases ev:vs[w.ix]?with
        |none=>rw[ev]at this;cases this|some v=>rw[ev]at this;injection this with this;exact this.symm
       rw[ev]at hw;have:=P_ rel g hok hw;refine h a F' H' H2 (rel.call g) g.f (λy y=>rfl) ?_;rw[Kg];exact this.to
      ·exact h.elim
end
section
variable{X:Cx}{cm:String->À}{E:ć->XK}{e:Ç}{p pos:Pos}
set_option tactic.hygienic true
def zb(i:Nat){x:Str}{px:Pos}(hm:X.mg "len"=none)(ho:PE X (.Name x px) (iS i))(hg:Gl X "len":=by kernel_rfl)(he:Ð [.Name x px] X.env=(false,eval (.Name x px) X.env)::Ð [] X.env:=by exact Ĺ rfl)(hpl:(ÿ pos<|Ð [] X.env).any (·.1)=false:=by kernel_rfl):
 PE X (.Call (.Name "len" p) [.Name x px] [] pos) (tV (kk X cm) E<|uE i):=PE.wk (ua ĳ hg hm Ę (ϭ ho cG he) (he:=he) (hpl:=hpl))<|by
 rintro b H Q ⟨c,F,U,rel,h⟩;unfold uE at h;split at h
 ·rename_i gv e;obtain⟨a,ts,z1,z2,z3⟩:=rel.slot i _ e;refine⟨.ref a,ŀ z1,ts.map V.ref,.inl<|Ϧ.of (rel.lent a _ z2).1,h _ F H rel Đ Đ ?_⟩;show Ċ _ _ _ _;unfold Ċ;rw[Ğ,Paired.length z3]
 ·exact h.elim
def GX(i:Nat){o:Ç}(hm:X.mg "len"=none)(ho:PE X o (PQ X.K i))(hg:Gl X "len":=by kernel_rfl)(he:Ð [o] X.env=(false,eval o X.env)::Ð [] X.env:=by exact Ĺ rfl)(hpl:(ÿ pos<|Ð [] X.env).any (·.1)=false:=by kernel_rfl):
 PE X (.Call (.Name "len" p) [o] [] pos) (tV (kk X cm) E<|Au i):=PE.wk (ua ĳ hg hm Ę (ϭ ho cG he) (he:=he) (hpl:=hpl))<|by
 rintro f H Q ⟨c,F,U,rel,h⟩;unfold Au at h;split at h
 ·rename_i gv e;split at h
  ·rename_i d hd;split at h
   ·rename_i hl;obtain⟨a,us,t,xs,b,vs,z1,z2,z3,z4,z5,z6⟩:=DG rel e hd;refine GV z1 (rel.lent a _ z2).1 (rel.sub _ _ z3) (by rw[<-z4.length];exact hl) ⟨vs,.inl<|Ϧ.of (rel.lent b _ z5).1,h _ F H rel Đ Đ ?_⟩;show Ċ _ _ _ _;unfold Ċ;rw[z6.length]
   ·exact h.elim
  ·exact h.elim
 ·exact h.elim
set_option tactic.hygienic false
end
@[simp]theorem Sz{i:Nat}{U:Ĉ}:uE i U=(match U[i]?with
  |some (.dw gv)=>.ok (.int gv.length) U|_=>.bad):=rfl
@[simp]theorem P0{i:Nat}{U:Ĉ}:Au i U=(match U[i]?with
  |some (.dw gv)=>match gv.getLast? with
   |some d=>if d.1.length=2then .ok (.int d.2.length) U else .bad|none=>.bad
  |_=>.bad):=rfl
abbrev DL:=List<|List PV×List PV
noncomputable def dU:Slot->Bool
 |.no=>true|.sh _=>true|.ow _=>true|.bw _=>true|_=>false
def qO(s:Slot):Slot:=(fh s).getD .no
def bj(iT iD:Nat)(T:List PV)(D:DL)(U:Ĉ):Ĉ:=((U.map qO).set iT (.bw T)).set iD (.dw D)
noncomputable def Ax(iT iD:Nat)(w:WR)(T:List PV)(D:DL):Option (List PV×DL):=match w with
 |.t k p=>if k=iT then some (T++[p],D)else none|.d k ps=>if k=iD then some (T,D++[(ps,[])])else none|.l k p=>if k=iD then(match D.getLast? with
   |some d=>some (T,D.dropLast++[(d.1,d.2++[p])])|none=>none)else none
noncomputable def kq(i j iT iD:Nat)(mw:M WR):List PV->Ĉ->List PV->DL->į (List PV×DL)
 |[],U,T,D=>.ok (T,D) U|p::ps,U,T,D=>match p with
  |.tup [q1,q2]=>(match mw (bj iT iD T D<|(U.set i<|.sh q1).set j (.sh q2))with
    |.ok w _=>(match Ax iT iD w T D with
      |some (T',D')=>kq i j iT iD mw ps ((U.set i<|.sh q1).set j (.sh q2)) T' D'|none=>.bad)
    |.exc x _=>.exc x<|(U.set i<|.sh q1).set j (.sh q2)|.bad=>.bad)
  |_=>.bad
def SA(i j iT iD:Nat)(mi:M (List PV))(mw:M WR)(mt:M Fl):M Fl:=fun U=>if U.all dU=true∧iT<U.length∧iD<U.length then
    (match mi ((U.set iT .no).set iD .no)with
    |.ok items U1=>if U1.all dU=true then(kq i j iT iD mw items U1 [] []).bind fun td U2=>(match mt (bj iT iD td.1 td.2 U2)with
      |.ok (.rt<|.sh p) _=>.ok (.rt<|.sh p) U2|.exc x _=>.exc x U2|_=>.bad)else .bad
    |_=>.bad)
 else .bad
def uG(K:KK)(F H:Hp)(x:À×À)(d:List PV×List PV):Prop:=∃xs vs,F x.1=some (.tup<|xs++[.ref x.2])/\é K F d.1 xs/\H x.2=some (.lst vs)/\é K F d.2 vs
def Ex(K:KK)(c:Ctx)(F H:Hp)(b:ć)(U:Ĉ)(iT iD:Nat)(T:List PV)(D:DL)(pT pD:À)(tb:List (À×À)):Prop:=
 qd b iT=some (.ref pT)/\qd b iD=some (.ref pD)/\(∃us,H pT=some (.lst us)/\é K F T us)/\H pD=some (.lst<|tb.map λx=>.ref x.1)/\Paired (uG K F H) tb D/\(pT::pD::tb.map (·.2)).Nodup/\∀a∈pT::pD::tb.map (·.2),F a=none/\c.B a=none/\jk F b U a
section
variable{K:KK}{c:Ctx}{F H F' H':Hp}{σ:ć}{U:Ĉ}{iT iD:Nat}{T:List PV}{D:DL}{pT pD:À}{tb:List (À×À)}
def MD(h:Paired (uG K F H) tb D)(hx:x∈tb.map (·.2)):H x≠none:=by obtain⟨y,hy,rfl⟩:=ģ.mp hx;obtain⟨k,hk⟩:=BZ hy;obtain⟨d,_,xs,vs,_,_,h3,_⟩:=bT h hk;rw[h3];intro z;cases z
def Ex.some(h:Ex K c F H σ U iT iD T D pT pD tb)(ha:a∈pT::pD::tb.map (·.2)):H a≠none:=by
 obtain⟨_,_,⟨us,h1,_⟩,h2,h3,_⟩:=h;rcases û.mp ha with rfl|ha
 ·rw[h1];intro z;cases z
 rcases û.mp ha with rfl|ha
 ·rw[h2];intro z;cases z
 ·exact MD h3 ha
def Ex.call(rel:Ĕ K c F H σ U)(h:Ex K c F H σ U iT iD T D pT pD tb)(g:Gr F H F' H'):Ex K c F' H' σ U iT iD T D pT pD tb:=by have hs:=fun{a}=>h.some (a:=a);obtain⟨k1,k2,⟨us,h1,vh⟩,h2,h3,h4,h5⟩:=h;exact⟨k1,k2,⟨us,g.h _ _ h1,vh.same g.f T us⟩,g.h _ _ h2,Paired.KL h3 λx d ⟨xs,vs,q1,q2,q3,q4⟩=>⟨xs,vs,g.f _ _ q1,q2.same g.f d.1 xs,g.h _ _ q3,q4.same g.f d.2 vs⟩,h4,λa ha=>⟨g.out a (hs ha) (h5 a ha).1,(h5 a ha).2.1,rel.lc g.f (h5 a ha).2.2⟩⟩
def Ĕ.By(r:Ĕ K c F H σ U)(hF:F a=none)(hB:c.B a=none)(hf:jk F σ U a):Ĕ K c F (upd H a o) σ U where
 sub:=λb u e=>by
  have hb:b≠a:=λz=>by rw[z,hF]at e;cases e
  rw[ñ hb];exact r.sub b u e
 base:=λb u e=>by
  have hb:b≠a:=λz=>by rw[z,hB]at e;cases e
  rw[ñ hb];exact r.base b u e
 f0:=r.f0
 fg:=r.fg
 lent:=λb u e=>by
  have hb:b≠a:=λz=>by rw[z,r.lb a hB]at e;cases e
  rw[ñ hb];exact r.lent b u e
 lb:=r.lb
 len:=r.len
 slot:=λj s e=>(r.slot j s e).grow (Ú.refl F)<|by
  rintro b u ⟨y,e1,e2⟩ h1 h2 h3;have hb:b≠a:=λz=>by subst z;exact hf j ⟨s,y,e,yI e1,e2⟩
  exact⟨by rw[ñ hb];exact h1,h2⟩
 sep:=r.sep
def zc{i:Nat}(h:U.all p=true)(e:U[i]?=some s):p s=true:=by rw[c_]at h;exact h s<|xb e
noncomputable def Ctx.vw(c:Ctx)(A:List À)(H:Hp):Ctx:=⟨λb=>if b∈A then H b else c.B b,c.F₀,c.L,c.S⟩
theorem Ĕ.vw(r:Ĕ K c F H σ U)(hA:∀a∈A,H a≠none/\F a=none/\c.B a=none/\jk F σ U a)(hp:U.all dU=true):Ĕ K (c.vw A H) F H σ U where
 sub:=r.sub
 base:=λb u e=>by
  have e':(if b∈A then H b else c.B b)=some u:=e;split at e'
  ·exact e'
  ·exact r.base b u e'
 f0:=r.f0
 fg:=λa h1 h2=>by
  have vh:(if a∈A then H a else c.B a)≠none:=h1;split at vh
  ·rename_i q;exact(hA a q).2.1
  ·exact r.fg a vh h2
 lent:=r.lent
 lb:=fun a h=>by
   have h':(if a∈A then H a else c.B a)=none:=h;split at h'
   ·rename_i q;exact absurd h' (hA a q).1
   ·exact r.lb a h'
 len:=r.len
 slot:=λi s e=>by
  have hs:=zc hp e;have q:=r.slot i s e;cases s with
  |no=>trivial|sh p=>exact q|bw ps=>exact q|ow ps=>obtain⟨a,vs,q1,q2,q3,q4,q5⟩:=q;refine⟨a,vs,q1,q2,q3,?_,q5⟩;show(if a∈A then H a else c.B a)=none;rw[if_neg λz=>(hA a z).2.2.2 i ⟨_,_,e,ŀ q1,rfl⟩];exact q4
  |_=>cases hs
 sep:=r.sep
def Ĕ.GY(r:Ĕ K (c.vw A H₀) F H σ U)(hA:∀a∈A,H₀ a≠none/\c.B a=none)(hl:∀a,c.B a=none->c.L a=none)(hp:U.all dU=true):Ĕ K c F H σ U where
 sub:=r.sub
 base:=λb u e=>r.base b u (by
  show(if b∈A then H₀ b else c.B b)=some u;rw[if_neg λz=>by rw[(hA b z).2]at e;cases e];exact e)
 f0:=r.f0
 fg:=λa h1 h2=>r.fg a (by
  show(if a∈A then H₀ a else c.B a)≠none;rw[if_neg λz=>h1 (hA a z).2];exact h1) h2
 lent:=r.lent
 lb:=hl
 len:=r.len
 slot:=λi s e=>by
  have hs:=zc hp e;have q:=r.slot i s e;cases s with
  |no=>trivial|sh p=>exact q|bw ps=>exact q|ow ps=>
   obtain⟨a,vs,q1,q2,q3,q4,q5⟩:=q;have Yr:(if a∈A then H₀ a else c.B a)=none:=q4;refine⟨a,vs,q1,q2,q3,?_,q5⟩;split at Yr
   ·rename_i z;exact(hA a z).2
   ·exact Yr
  |_=>cases hs
 sep:=r.sep
def Ĕ.lend(r:Ĕ K c F H σ U)(hp:U.all dU=true)(h:Ex K c F H σ U iT iD T D pT pD tb)(n:iT≠iD):Ĕ K (cn F H) F H σ (bj iT iD T D U) where
 sub:=r.sub
 base:=Ú.refl H
 f0:=Ú.refl F
 fg:=λz z h=>h
 lent:=λz z e=>ϰ e
 lb:=fun a e=>by
   cases q:(cn F H).L a with
   |none=>rfl|some u=>have e':H a=none:=e;rw[(ϰ q).1]at e';cases e'
 len:=by unfold bj;simpa using r.len
 slot:=λi s e=>by
  obtain⟨k1,k2,⟨us,h1,vh⟩,h2,h3,h4,h5⟩:=h;have L:∀{a u},H a=some u->F a=none->(cn F H).L a=some u:=fun{a u} e1 e2=>by show(match F a with|none=>H a|some _=>none)=some u;rw[e2];exact e1
  unfold bj at e;rcases Ϙ e with⟨rfl,rfl,_⟩|⟨hj,e⟩
  ·refine⟨pD,tb.map (·.1),k2,L (by rw[h2,ķ];rfl) (h5 pD<|by simp).1,?_⟩;have:∀{EW:List (À×À)}{D':DL},(∀x∈EW,F x.2=none)->Paired (uG K F H) EW D'->Paired (λ(t:À) (d:List PV×List PV)=>∃xs b vs,F t=some (.tup<|xs++[.ref b])/\é K F d.1 xs/\(cn F H).L b=some (.lst vs)/\é K F d.2 vs) (EW.map (·.1)) D':=by
    intro EW D' hn hq
    induction hq with
    |nil=>exact .nil|@cons x d l m q t ih=>obtain⟨xs,vs,q1,q2,q3,q4⟩:=q;exact .cons ⟨xs,x.2,vs,q1,q2,L q3 (hn x<|by simp),q4⟩<|ih λy hy=>hn y<|þ _ hy
   exact this (λx hx=>(h5 x.2<|þ _<|þ _<|ģ.mpr ⟨x,hx,rfl⟩).1) h3
  ·rcases Ϙ e with⟨rfl,rfl,_⟩|⟨hj2,e⟩
   ·exact⟨pT,us,k1,L h1 (h5 pT<|by simp).1,vh⟩
   ·rw[Ł]at e;cases e0:U[i]?with
    |none=>rw[e0]at e;cases e|some s0=>
     rw[e0]at e;have es:qO s0=s:=ı e;subst es;unfold qO;cases el:fh s0 with
     |none=>trivial|some s1=>obtain⟨v,v1,v2⟩:=tq r (show(U[i]?).bind fh=some s1 by rw[e0];exact el);rw[v1];exact(du.slot v2).1
 sep:=λi j a h1 z=>by
  obtain⟨s',y,q1,_,q2⟩:=h1;have q2:=iV q2;exfalso;have:s'.own=false:=by
   unfold bj at q1;rcases Ϙ q1 with⟨_,rfl,_⟩|⟨_,q1⟩
   ·rfl
   ·rcases Ϙ q1 with⟨_,rfl,_⟩|⟨_,q1⟩
    ·rfl
    ·rw[Ł]at q1;cases e0:U[i]?with
     |none=>rw[e0]at q1;cases q1|some s0=>rw[e0]at q1;have es:qO s0=s':=ı q1;subst es;have hs:=zc hp e0;cases s0<;>first|rfl|cases hs
  rw[this]at q2;cases q2
def ww{a b:À}(h:(a::A).Nodup)(hb:b∈A):b≠a:=λz=>(cZ.mp h).1 (z▸hb)
def Bz(hn:∀x∈tb,x.2≠a)(h:Paired (uG K F H) tb D):Paired (uG K F<|upd H a o) tb D:=by
 induction h with
 |nil=>exact .nil|@cons x d l m q t ih=>obtain⟨xs,vs,q1,q2,q3,q4⟩:=q;exact .cons ⟨xs,vs,q1,q2,by rw[ñ<|hn x<|by simp];exact q3,q4⟩<|ih λy hy=>hn y<|þ _ hy
set_option tactic.hygienic true in
def Ex.put(rel:Ĕ K c F H σ U)(h:Ex K c F H σ U iT iD T D pT pD tb)(g:Gr F H F' H')(hw:Ao K (cn F H).L H F' H' (qd σ w.ix) H2 w)(hp:Ax iT iD w T D=Option.some (T',D')):
 Ĕ K c F' H2 σ U/\∃EW,Ex K c F' H2 σ U iT iD T' D' pT pD EW:=by
 have ŷ:=rel.call g;have hs:=fun{a}=>h.some (a:=a);have h0:=h;have h':=Ex.call rel h g;obtain⟨k1,k2,⟨us,h1,vh⟩,h2,h3,h4,h5⟩:=h';cases w with
 |t k p=>
  unfold Ax at hp;dsimp only at hp;split at hp
  ·rename_i ek;subst ek;cases hp;obtain⟨a,vs,v,w1,w2,w3,w4,rfl⟩:=hw;have ea:pT=a:=by
    have:qd σ k=Option.some (.ref a):=w1;rw[k1]at this;injection this with this
    injection this
   subst ea;obtain⟨f1,f2,f3⟩:=h5 pT (by simp);have ev:us=vs:=by have:=g.h _ _ (ϰ w2).1;rw[h1]at this;cases this;rfl
   subst ev;refine⟨ŷ.By f1 f2 f3,tb,k1,k2,⟨us++[v],Ā,é.append vh<|é.cons w3 é.nil⟩,?_,?_,h4,h5⟩
   ·rw[ñ<|ww h4<|by simp];exact h2
   ·exact Bz (λx hx=>ww h4<|þ _<|ģ.mpr ⟨x,hx,rfl⟩) h3
  ·cases hp
 |d k ps=>
  unfold Ax at hp;dsimp only at hp;split at hp
  ·rename_i ek;subst ek;cases hp;obtain⟨a,us',t,xs,b,w1,w2,w3,w4,w5,w6,w7,rfl⟩:=hw;have ea:pD=a:=by
    have:qd σ k=Option.some (.ref a):=w1;rw[k2]at this;injection this with this
    injection this
   subst ea;obtain⟨f1,f2,f3⟩:=h5 pD (by simp);have ev:us'=tb.map λx=>.ref x.1:=by have:=g.h _ _ (ϰ w2).1;rw[h2]at this;cases this;rfl
   subst ev;have hb:∀x∈pT::pD::tb.map (·.2),x≠b:=λx hx z=>hs hx (by rw[z];exact w7);have bD:b≠pD:=λz=>hb pD (by simp) z.symm;refine⟨ŷ.By f1 f2 f3,tb++[(t,b)],k1,k2,⟨us,?_,vh⟩,?_,?_,?_,?_⟩
   ·rw[ñ<|Ė<|ww h4<|by simp];exact h1
   ·rw[Ā,Ŕ];rfl
   ·refine yF (Bz (λx hx=>?_) h3) (.cons ⟨xs,[],w3,w4,by rw[ñ bD];exact w5,é.nil⟩ .nil);exact ww (cZ.mp h4).2 (ģ.mpr ⟨x,hx,rfl⟩)
   ·rw[Ŕ,<-eE,<-eE,xm];refine⟨h4,by simp,λx hx y hy=>?_⟩;have:y=b:=by simpa using hy
    subst this;exact hb x hx
   ·intro x hx;rw[Ŕ,<-eE,<-eE]at hx;rcases ź.mp hx with hx|hx
    ·exact h5 x hx
    ·have:x=b:=by simpa using hx
     subst this;exact⟨w6,rel.base.free w7,rel.lc g.f<|rel.fresh w7⟩
  ·cases hp
 |l k p=>
  unfold Ax at hp;dsimp only at hp;split at hp
  ·rename_i ek;subst ek;split at hp
   ·rename_i d hd;cases hp;obtain⟨a,us',t,xs,b,vs,v,w1,w2,w3,w4,w5,rfl⟩:=hw;have ea:pD=a:=by
     have:qd σ k=Option.some (.ref a):=w1;rw[k2]at this;injection this with this
     injection this
    subst ea;obtain⟨SD,x,rfl,p1,⟨ys,ws,p2,p3,p4,p5⟩⟩:=Ar h3 hd;have et:x.1=t:=by
     have:=g.h _ _ (ϰ w2).1;rw[h2,Ŕ]at this;injection this with this
     injection this with this
     have:=(List.append_inj' this rfl).2;injection this with this
     injection this
    subst et;have eb:=Aw p2 w3;have QR:x.2∈pT::pD::(SD++[x]).map (·.2):=by simp
    obtain⟨f1,f2,f3⟩:=h5 x.2 QR;subst eb;have ev:ws=vs:=by have:=g.h _ _ (ϰ w4).1;rw[p4]at this;cases this;rfl
    subst ev;have n1:=ww h4 (show x.2∈pD::(SD++[x]).map (·.2) by simp);have n2:=ww (cZ.mp h4).2 (show x.2∈(SD++[x]).map (·.2) by simp);refine⟨ŷ.By f1 f2 f3,SD++[x],k1,k2,⟨us,?_,vh⟩,?_,?_,h4,h5⟩
    ·rw[ñ<|Ė n1];exact h1
    ·rw[ñ<|Ė n2];exact h2
    ·refine yF (Bz (λy hy z=>?_) p1)<|.cons ⟨ys,ws++[v],p2,p3,Ā,é.append p5<|é.cons w5 é.nil⟩ .nil;have h6:=(cZ.mp (cZ.mp h4).2).2;rw[Ŕ,xm]at h6;exact h6.2.2 y.2 (ģ.mpr ⟨y,hy,rfl⟩) x.2 (by simp) z
   ·cases hp
  ·cases hp
theorem Ex.vw(h:Ex K c F H σ U iT iD T D pT pD tb)(r:Ĕ K (c.vw (pT::pD::tb.map (·.2)) H) F3 H3 σ U')(s:Ú F F3)(f0:Ú c.F₀ F):Ex K c F3 H3 σ U' iT iD T D pT pD tb:=by
 have hs:=fun{a}=>h.some (a:=a);obtain⟨k1,k2,⟨us,h1,vh⟩,h2,h3,h4,h5⟩:=h;have up:∀a u,a∈pT::pD::tb.map (·.2)->H a=Option.some u->H3 a=Option.some u:=λa u ha e=>r.base a u (by
  show(if a∈pT::pD::tb.map (·.2)then H a else c.B a)=Option.some u;rw[if_pos ha];exact e)
 have bn:∀a,a∈pT::pD::tb.map (·.2)->(c.vw (pT::pD::tb.map (·.2)) H).B a≠none:=λa ha=>by show(if a∈pT::pD::tb.map (·.2)then H a else c.B a)≠none;rw[if_pos ha];exact hs ha
 have go:∀{EW:List (À×À)}{D':DL},(∀x∈EW,x.2∈pT::pD::tb.map (·.2))->Paired (uG K F H) EW D'->Paired (uG K F3 H3) EW D':=by
  intro EW D' hn hq
  induction hq with
  |nil=>exact .nil|@cons x d l m q t ih=>obtain⟨xs,vs,q1,q2,q3,q4⟩:=q;exact .cons ⟨xs,vs,s _ _ q1,q2.same s d.1 xs,up _ _ (hn x<|by simp) q3,q4.same s d.2 vs⟩<|ih λy hy=>hn y<|þ _ hy
 refine⟨k1,k2,⟨us,up _ _ (by simp) h1,vh.same s T us⟩,up _ _ (by simp) h2,go (λx hx=>þ _<|þ _<|ģ.mpr ⟨x,hx,rfl⟩) h3,h4,λa ha=>⟨?_,(h5 a ha).2.1,λi q=>?_⟩⟩
 ·refine r.fg a (bn a ha) ?_;cases q:c.F₀ a with
  |none=>exact q|some u=>have:=f0 _ _ q;rw[(h5 a ha).1]at this;cases this
 ·exact bn a ha (r.owned q).2.2
def ze(h:U.all dU=true)(hs:dU s=true):(U.set i s).all dU=true:=by
 rw[c_]at h⊢;intro x hx;rcases List.mem_or_eq_of_mem_set hx with q|q
 ·exact h x q
 ·rw[q];exact hs
def Ex.sets(h:Ex K c F H σ U iT iD T D pT pD tb)(hs:s.own=false)(n1:iT≠i)(n2:iD≠i):Ex K c F H (σ.set i<|Option.some v) (U.set i s) iT iD T D pT pD tb:=by obtain⟨k1,k2,h1,h2,h3,h4,h5⟩:=h;exact⟨by rw[tF n1];exact k1,by rw[tF n2];exact k2,h1,h2,h3,h4,λa ha=>⟨(h5 a ha).1,(h5 a ha).2.1,jw hs (h5 a ha).2.2⟩⟩
def DH(h:i<σ.length):qd (σ.set i<|Option.some v) i=Option.some v:=by unfold qd;rw[oo h];rfl
def Ex.start(rel:Ĕ K c F H σ U)(lT:iT<U.length)(lD:iD<U.length)(n:iT≠iD)(h1:H pT=none)(h2:upd H pT (.lst []) pD=none):
 Ĕ K c F (upd (upd H pT<|.lst []) pD<|.lst []) ((σ.set iT<|Option.some<|.ref pT).set iD (Option.some<|.ref pD)) ((U.set iT .no).set iD .no)/\Ex K c F (upd (upd H pT<|.lst []) pD<|.lst []) ((σ.set iT<|Option.some<|.ref pT).set iD (Option.some<|.ref pD)) ((U.set iT .no).set iD .no) iT iD [] [] pT pD []:=by
 have hl:=rel.len;have r1:=(rel.made (o:=.lst []) h1).put (i:=iT) (x:=Option.some<|.ref pT) (s:=.no) rfl trivial;have r2:=(r1.made (o:=.lst []) h2).put (i:=iD) (x:=Option.some<|.ref pD) (s:=.no) rfl trivial;have ne:pD≠pT:=λz=>by rw[z,Ā]at h2;cases h2
 have h3:H pD=none:=by rw[ñ ne]at h2;exact h2
 refine⟨r2,?_,?_,⟨[],?_,é.nil⟩,Ā,.nil,?_,λa ha=>?_⟩
 ·rw[tF n];exact DH (by lia)
 ·exact DH (by simp;lia)
 ·rw[ñ<|Ė ne];exact Ā
 ·simp;exact Ė ne
 ·have:a=pT\/a=pD:=by simpa using ha
  rcases this with rfl|rfl
  ·exact⟨rel.sub.free h1,rel.base.free h1,jw rfl<|jw rfl<|rel.fresh h1⟩
  ·exact⟨rel.sub.free h3,rel.base.free h3,jw rfl<|jw rfl<|rel.fresh h3⟩
end
section
variable{X:Cx}{cm:String->À}{E:ć->XK}{pos:Pos}
def Vz{i j iT iD m:Nat}{s1 s2:è}{tg iter:Ç}{body tail:List è}{mi:M (List PV)}{mf:MW}{ns:List Nat}{mt:M Fl}(h1:PS X s1 (HM (Lk Fq)<|tU iT))(h2:PS X s2 (HM (Lk Fq)<|tU iD))
 (hp:oH (Ø X.prog X.w) X.A X.env X.xe)(hc:X.calm=true)(hi:PI X tg iter (tI (kk X cm) E mi))(hg:PG X tg (N6 X.K 2<|Fd (tU i)<|Fd (tU j) N5))(hb:bC X body (tQ λy H Q=>NA ns y H λvs H1=>PZ (kk X cm) m mf vs H1 Q<|E y))
 (ht:bC X tail (tS (kk X cm) E mt))(hE:∀y o,E y=E o)(hlen:∀{as:List Slot},mf as≠.bad->as.length=m:=by exact qA)(n1:iT≠iD:=by decide)(n2:iT≠i:=by decide)(n3:iD≠i:=by decide)(n4:iT≠j:=by decide)(n5:iD≠j:=by decide)
 (hs:∀x,df iter X.env x=î x:=by intro _;rfl):bC X (s1::s2::.For tg iter body [] pos::tail) (tS (kk X cm) E<|SA i j iT iD mi (ϲ mf ns) mt):=
 bC.wk (gq h1<|gq h2<|gq (Fh hp hc hi hg hb hs) ht)<|by
  rintro D y H ⟨c,F,U,rel,h⟩;unfold SA at h;split at h
  ·rename_i Rg;obtain⟨hpl,lT,lD⟩:=Rg;refine⟨da _,λpT hT=>⟨da _,λpD hD=>?_⟩⟩;obtain⟨Ě,SE⟩:=Ex.start rel lT lD n1 hT hD;have VA:((U.set iT .no).set iD .no).all dU=true:=ze (ze hpl rfl) rfl;generalize (U.set iT .no).set iD .no=U2 at*;have pr:∀{F3 H3:Hp}{n:ć}{U3:Ĉ}{T:List PV}{D':DL}{tb:List (À×À)},Ĕ (kk X cm) c F3 H3 n U3->U3.all dU=true->Ex (kk X cm) c F3 H3 n U3 iT iD T D' pT pD tb->Ĕ (kk X cm) (c.vw (pT::pD::tb.map (·.2)) H3) F3 H3 n U3:=λr hp e=>r.vw (λa ha=>⟨e.some ha,e.2.2.2.2.2.2 a ha⟩) hp;refine⟨_,F,U2,pr Ě VA SE,?_⟩;cases em:mi U2 with
   |bad=>rw[em]at h;exact h.elim|exc x U'=>rw[em]at h;exact h.elim|ok items U1=>
    rw[em]at h;dsimp only at h;split at h
    ·rename_i P4;intro J F1 H1 ä Ys _ QY;have ex1:=SE.vw ä Ys Ě.f0;have VB:Ĕ (kk X cm) c F1 H1 _ U1:=ä.GY (λa ha=>⟨SE.some ha,(SE.2.2.2.2.2.2 a ha).2.1⟩) Ě.lb P4;refine⟨λk m' o H'=>∃F2 U' T D' tb,k<=items.length/\m'=items.length-k/\Ĕ (kk X cm) c F2 H' o U'/\Ú F1 F2/\U'.all dU=true/\Ex (kk X cm) c F2 H' o U' iT iD T D' pT pD tb/\
      ϊ (kk X cm) E c F2 D ((kq i j iT iD (ϲ mf ns) (items.drop k) U' T D').bind λtd U2=>(match mt (bj iT iD td.1 td.2 U2)with
       |.ok (.rt<|.sh p) _=>.ok (.rt<|.sh p) U2|.exc x _=>.exc x U2|_=>.bad)),⟨_,F1,U1,[],[],[],da _,rfl,VB,Ú.refl _,P4,ex1,ϊ.mono h Ys⟩,?_⟩
     rintro k m' n H3 ⟨F3,U3,T,D',tb,hle,rfl,gX,RH,Jh,P5,h3⟩;have rp3:=pr gX Jh P5;obtain⟨go,stop⟩:=QY _ k F3 H3 n U3 rp3 RH λb u e=>(gX.lent b u e).1;by_cases kX:k<items.length
     ·obtain⟨g1,g2⟩:=go items[k] (œ kX);rw[lS kX]at h3;unfold kq at h3;refine .inr ⟨g1,_,λo H' z=>z,λx H4 hy=>?_⟩;obtain⟨F4,ue,SF,_,rp⟩:=g2 x H4 hy;have ex4:=P5.vw ue SF gX.f0;have Ki:Ĕ (kk X cm) c F4 H4 n U3:=ue.GY (λa ha=>⟨P5.some ha,(P5.2.2.2.2.2.2 a ha).2.1⟩) gX.lb Jh;cases ep:items[k]with
      |tup qs=>
       rw[ep]at h3 rp;unfold Ċ at rp;obtain⟨t,xs,rfl,ht,rx⟩:=rp
       match qs,rx,h3 with
       |[q1,q2],rx,h3=>
         unfold é at rx;obtain⟨v1,r',rfl,r1,rx⟩:=rx;unfold é at rx;obtain⟨v2,r'',rfl,r2,rx⟩:=rx;unfold é at rx;subst rx;refine⟨t,[v1,v2],rfl,Ú.tup Ki.sub ht,rfl,v1,[v2],rfl,v2,[],rfl,rfl,?_⟩;have Bi:Ĕ (kk X cm) c F4 H4 ((n.set i<|some v1).set j (some v2)) ((U3.set i<|.sh q1).set j (.sh q2)):=(Ki.put (s:=.sh q1) rfl ⟨v1,rfl,r1⟩).put (s:=.sh q2) rfl ⟨v2,rfl,r2⟩;have Yt:=(ex4.sets (i:=i) (v:=v1) (s:=.sh q1) rfl n2 n3).sets (i:=j) (v:=v2) (s:=.sh q2) rfl n4 n5;have P6:((U3.set i<|.sh q1).set j (.sh q2)).all dU=true:=ze (ze Jh rfl) rfl;generalize (n.set i<|some v1).set j (some v2)=B at*;dsimp only at h3;generalize (U3.set i<|.sh q1).set j (.sh q2)=U5 at*;have VC:=Bi.lend P6 Yt n1;unfold ϲ at h3;cases el:kK (bj iT iD T D' U5) ns with
         |none=>rw[el]at h3;exact h3.elim|some as=>
          rw[el]at h3;dsimp only at h3;obtain⟨vs,Yu,v2'⟩:=uF VC el;refine⟨vs,Yu,F4,as,hlen λz=>?_,Bi.sub,v2',?_⟩
          ·rw[z]at h3;exact h3
          ·cases VD:mf as with
           |bad=>rw[VD]at h3;exact h3.elim|exc x=>rw[VD]at h3;exact λC d F' H' g rx=>h3 B C d F' H' (Bi.call g) (SF.trans g.f) rx
           |ok w=>
            rw[VD]at h3;dsimp only at h3;cases ej:ns[w.ix]?with
            |none=>rw[ej]at h3;exact h3.elim|some i'=>
             rw[ej]at h3;dsimp only at h3;by_cases hok:rz w (bj iT iD T D' U5)[i']?=true
             ·rw[if_pos hok]at h3;dsimp only at h3;cases VF:Ax iT iD (w.to i') T D' with
              |none=>rw[VF]at h3;exact h3.elim|some td=>
               rw[VF]at h3;intro F' H' H6 g hw;have ev:vs[w.ix]?=qd B i':=by
                have:=congrArg (λl=>l[w.ix]?) Yu;simp only[Ł,ej,Option.map_some]at this;cases ev:vs[w.ix]?with
                |none=>rw[ev]at this;cases this|some v=>rw[ev]at this;injection this with this;exact this.symm
               rw[ev]at hw;obtain⟨IB,EW,ex6⟩:=Yt.put (w:=w.to i') (T':=td.1) (D':=td.2) Bi g (by rw[Kg];exact hw.to) VF;exact⟨items.length-(k+1),by lia,F',U5,td.1,td.2,EW,kX,rfl,IB,(RH.trans SF).trans g.f,P6,ex6,ϊ.mono h3<|SF.trans g.f⟩
             ·rw[if_neg hok]at h3;exact h3.elim
       |[],_,h3=>exact h3.elim|[_],_,h3=>exact h3.elim|_::_::_::_,_,h3=>exact h3.elim
      |_=>rw[ep]at h3;exact h3.elim
     ·have e:k=items.length:=by lia
      refine .inl ⟨stop e,?_⟩;rw[jP<|by lia]at h3;refine⟨_,F3,_,gX.lend Jh P5 n1,?_⟩;have KA:ϊ (kk X cm) E c F3 D (match mt (bj iT iD T D' U3)with
       |.ok (.rt<|.sh p) _=>.ok (.rt<|.sh p) U3|.exc x _=>.exc x U3|_=>.bad):=h3
      cases VG:mt (bj iT iD T D' U3)with
      |bad=>rw[VG]at KA;exact KA.elim|exc x U6=>rw[VG]at KA;exact λo C d F' H' ŷ s' q=>by rw[hE o n];exact KA n C d F' H' (gX.call ŷ.gr) s' q
      |ok fl U6=>
       rw[VG]at KA;cases fl with
       |rt r=>
        cases r with
        |sh p=>exact λv o F' H' ŷ s' q=>KA v n F' H' (gX.call ŷ.gr) s' q
        |_=>exact KA.elim
       |_=>exact KA.elim
    ·exact h.elim
  ·exact h.elim
end
abbrev VH:=IV 1
section
variable{X:Cx}{elts:List Ç}{k:Nat}{tp:Pos}
def ME(K:Î)(ta:TA):TI:=λb H R=>ta b H λvs H1=>∃a,vs=[.ref a]/\(∃xs,Ϧ K H1 a xs)/\R (VH K a) H1
def P7{M:fT}(oa:args.any (·.1)=false)(hkw:keywords.any (·.1.isNone)=false)
 (h:Ï M A (evalArgs (.type T) true args keywords) (λa s₁=>Ï M A (call (.type T) a.pos a.kw) Q E s₁) E s):Ï M A (eO pos (.type T) [] args keywords) Q E s:=by
 unfold eO;refine Ñ<|eK<|ϔ h (λa s₁ h₁=>Ñ<|lY ?_) λy y x=>x;simp only[oa,hkw,wS];refine Ñ<|Ą ?_;exact Ñ<|ϔ h₁ (λr s₂ hr=>Ñ<|eK<|wpAny_point<|Ą hr) λy y x=>x
def GZ{l:Ç}{ta:TA}{p pos cp kp:Pos}{j:Nat}(hg:Gl X "enumerate")(hm:X.mg "enumerate"=none)(ha:PA X [l] ta)(hs:Ð [l] X.env=[(false,eval l X.env)]:=by exact Ĺ rfl):
 PI X (.Tuple elts k tp) (.Call (.Name "enumerate" p) [l] [⟨some "start",.Constant (.int 1) j cp,kp⟩] pos) (ME X.K ta):=by
 intro Å s c H R I h;refine ig (kY I hg hm boot_enumerate<|P7 (by rw[hs];rfl) rfl ?_);have h':=ha pos Å s c H _ I h;rw[hs]at h'⊢;refine evalArgs_kwB rfl<|ώ h' λus s1 ⟨vs,H1,I1,r1,q1⟩=>kws_cons<|ώ (ym Å s1 c H1 (λx H'=>x=.int 1/\H'=H1) I1 ⟨rfl,rfl⟩) λv s2 ⟨x,H2,I2,r2,e1,e2⟩=>kws_nil ?_;subst e1 e2;obtain⟨t,rfl⟩:=r2;obtain⟨a,e,⟨xs,hq⟩,q⟩:=q1;subst e;obtain⟨u,rfl,ru⟩:=r1.one;cases ru;obtain⟨Ē,rv,pl,hz⟩:=I2.list hq;refine Sh.Pk pl.isList λh' he jM kW hk=>?_;have I3:Inv X Å c H2 {s2 with heap:=h'}:=I2.kept (t':=s2.toks) hk;refine xI (s:={s2 with heap:=h'}) he ⟨s2.heap.objs.size+1,[s2.heap.objs.size+1,s2.heap.objs.size],_,_,H2,rfl,I3,wf 1 a _ _<|Nat.succ_ne_self _,⟨⟨_,he⟩,jM⟩,λb hb=>?_,q⟩;have E6:s2.heap.objs.size<=b:=by
  rcases û.mp hb with rfl|hb
  ·exact xr _
  ·have e':b=s2.heap.objs.size:=by simpa using hb
   exact rY e'.symm
 exact I2.tY E6<|I2.hok.fresh E6
end
@[simp]def BA(m:M (List PV))(U:Ĉ):į (List PV):=(m U).bind λps U1=>.ok (b_ 1 ps) U1
section
variable{X:Cx}{cm:String->À}{E:ć->XK}{e:Ç}
def Ji{elts:List Ç}{k j:Nat}{tp p pos cp kp:Pos}{mi:M (List PV)}(hg:Gl X "enumerate")(hm:X.mg "enumerate"=none)(hl:PE X e (tG (kk X cm) E (Pn<|kk X cm) mi))(hs:Ð [e] X.env=[(false,eval e X.env)]:=by exact Ĺ rfl):
 PI X (.Tuple elts k tp) (.Call (.Name "enumerate" p) [e] [⟨some "start",.Constant (.int 1) j cp,kp⟩] pos) (tI (kk X cm) E<|BA mi):=λÅ s b H R I h=>GZ hg hm (ϭ hl cG hs) hs Å s b H R I (by
 obtain⟨c,F,U,rel,h⟩:=h;refine⟨c,F,U,rel,h.bind λps U1 v F1 H1 ä s1 s2 q h1=>?_⟩;obtain⟨a,e1,e2,e3⟩:=q;subst e1;exact⟨a,rfl,e2,h1 _ F1 H1 ä Đ Đ<|ux 1 e3⟩)
end
end P
namespace Sp
open PySem PySem.Builtin PySem.Builtin.Str PySem.StrLaws
abbrev S(l:List Nat):aU:=⟨l.toArray⟩
noncomputable def ŋ(c:Nat):List Nat->List (List Nat)
 |[]=>[[]]|x::xs=>if x=c then[]::ŋ c xs else(match ŋ c xs with
  |[]=>[[x]]|p::ps=>(x::p)::ps)
theorem wx(c:Nat):∀l,∃p ps,ŋ c l=p::ps
 |[]=>⟨_,_,rfl⟩|x::xs=>by
  unfold ŋ;split
  ·exact⟨_,_,rfl⟩
  ·split<;>exact⟨_,_,rfl⟩
noncomputable def rC(c:Nat):Nat->List Nat->List Nat
 |_,[]=>[]|k,x::xs=>if x=c then k::rC c (k+1) xs else rC c (k+1) xs
theorem zf(x:aU)(c:Nat):∀(m a:Nat) (st:Array Nat×Nat),a+m=x.length+1->st.1.size<=a->st.2<=a->(forIn (hV a m) st<|occBody x (S [c]) x.length<|x.length+1).run.fst.toList=st.1.toList++rC c a (x.cps.toList.drop a)
 |0,a,st,h,_,_=>by have:x.cps.toList.drop a=[]:=jP (by simp[cD]at h⊢;lia);rw[this];simp[rC]|m+1,a,st,h,h1,h2=>by
  rw[rT,oq];unfold occBody;have hl:x.cps.toList.length=x.length:=by simp[cD]
  by_cases ha:a<x.length
  ·have hd:x.cps.toList.drop a=x.cps.toList[a]::x.cps.toList.drop (a+1):=lS (by lia);have hs:subAt x (S [c]) a=decide (x.cps.toList[a]=c):=by
    rw[subAt_eq,hd];show(List.take 1 _==[c])=_;rw[B_,List.take_zero,jO];simp
   by_cases hc:x.cps.toList[a]=c
   ·rw[if_pos ⟨⟨⟨by lia,h2⟩,show a+1<=x.length by lia⟩,by rw[hs];simpa using hc⟩];have ih:=zf x c m (a+1) (st.1.push a,a+1) (by lia) (by simp;lia)<|ö _;refine ih.trans ?_;rw[hd,rC,if_pos hc];simp
   ·rw[if_neg λz=>hc (by have:=z.2;rw[hs]at this;simpa using this)];have ih:=zf x c m (a+1) (st.1,st.2) (by lia) (by show st.1.size<=a+1;lia) (by show st.2<=a+1;lia);refine ih.trans ?_;rw[hd,rC,if_neg hc]
  ·rw[if_neg λz=>ha (by have:=z.1.2;show a<x.length;have e:(S [c]).length=1:=rfl;lia)];have ih:=zf x c m (a+1) (st.1,st.2) (by lia) (by show st.1.size<=a+1;lia) (by show st.2<=a+1;lia);refine ih.trans ?_;have e1:x.cps.toList.drop a=[]:=jP (by lia);have e2:x.cps.toList.drop (a+1)=[]:=jP (by lia);rw[e1,e2];rfl
def MG(x:aU)(c:Nat):jX x (S [c]) 0 x.length (x.length+1)=rC c 0 x.cps.toList:=by rw[occ_eq,zf x c _ 0 _ (by lia) (ö _)<|ö _];simp
def G_(x:aU)(i j:Nat):strSub x i j=S ((x.cps.toList.drop i).take (j-i)):=by apply j_;apply Array.toList_inj.mp;rw[strSub_toList]
theorem uH(x:aU)(c:Nat):∀(m a b:Nat),b+m=x.length->a<=b->∀p ps,ŋ c (x.cps.toList.drop b)=p::ps->partsFrom x 1 a (rC c b<|x.cps.toList.drop b)=S ((x.cps.toList.drop a).take (b-a)++p)::ps.map S
 |0,a,b,h,hab,p,ps,e=>by
  have hl:x.cps.toList.length=x.length:=by simp[cD]
  have:x.cps.toList.drop b=[]:=jP (by lia);rw[this]at e⊢;cases e;show[strSub x a x.length]=_;rw[G_,show x.length=b by lia];simp
 |m+1,a,b,h,hab,p,ps,e=>by
  have hl:x.cps.toList.length=x.length:=by simp[cD]
  have hd:x.cps.toList.drop b=x.cps.toList[b]::x.cps.toList.drop (b+1):=lS (by lia);obtain⟨q,qs,eq⟩:=wx c<|x.cps.toList.drop<|b+1;rw[hd]at e⊢;rw[ŋ]at e;rw[rC];by_cases hc:x.cps.toList[b]=c
  ·rw[if_pos hc]at e⊢;cases e;show strSub x a b::partsFrom x 1 (b+1) (rC c (b+1)<|x.cps.toList.drop<|b+1)=_;rw[uH x c m (b+1) (b+1) (by lia) (ö _) q qs eq,G_,eq];simp
  ·rw[if_neg hc]at e⊢;rw[eq]at e;injection e with e1 e2
   subst e1 e2;rw[uH x c m a (b+1) (by lia) (by lia) q qs eq];congr 2;have:(x.cps.toList.drop a).take (b+1-a)=(x.cps.toList.drop a).take (b-a)++[x.cps.toList[b]]:=by rw[show b+1-a=(b-a)+1 by lia,List.take_succ];congr 1;rw[List.getElem?_drop,show a+(b-a)=b by lia,œ<|by lia];rfl
   rw[this];simp
theorem DI(c:Nat):∀(l:List Nat) (k:Nat),rC c k l=[]->ŋ c l=[l]
 |[],k,_=>rfl|x::xs,k,h=>by
  unfold rC at h;split at h
  ·cases h
  ·rename_i hc;unfold ŋ;rw[if_neg hc,DI c xs (k+1) h]
theorem MJ(c:Nat):∀(l:List Nat),c∉l->ŋ c l=[l]
 |[],_=>rfl|x::xs,h=>by unfold ŋ;rw[if_neg λz=>h (by simp[z]),MJ c xs λz=>h<|þ _ z]
def P8(h:c<256):mH (S [c])=1:=by unfold mH;rw[if_pos<|by simpa using h]
def Jj(x:aU):1<=mH x:=by
 unfold mH;split
 ·lia
 ·split<;>lia
def G0(x:aU)(h:c<256):Txt.split x (S [c])=(ŋ c x.cps.toList).map S:=by
 have hl:x.cps.toList.length=x.length:=by simp[cD]
 have whole:S x.cps.toList=x:=j_ (by simp);have hk:=Jj x;unfold Txt.split;split
 ·rename_i h1;rw[P8 h]at h1;have h0:x.length=0:=by
   simp only[om,decide_eq_true_eq]at h1;have e:(S [c]).length=1:=rfl;lia
  have:x.cps.toList=[]:=rQ.mp (by lia);have e:ŋ c x.cps.toList=[x.cps.toList]:=MJ c _ (by rw[this];simp);rw[e,à,Ů,whole]
 ·rw[MG];split
  ·rename_i h2;rw[DI c _ 0 (by simpa using h2),à,Ů,whole]
  ·obtain⟨p,ps,e⟩:=wx c x.cps.toList;rw[partsBetween_eq];have:=uH x c x.length 0 0 (by lia) (ö _) p ps (by rw[rP];exact e);rw[rP]at this;rw[e];show partsFrom x 1 0 _=_;rw[this];simp
theorem kr(c:Nat):∀(ys:List (List Nat)),ys≠[]->(∀y∈ys,c∉y)->ŋ c (M4.Ŝ [c] ys)=ys
 |[],h,_=>absurd rfl h|[x],_,hn=>MJ c x (hn x<|by simp)|x::y::r,_,hn=>by
  have ih:=kr c (y::r) (by simp) λz hz=>hn z<|þ _ hz;have go:∀(x:List Nat),c∉x->ŋ c (x++[c]++M4.Ŝ [c] (y::r))=x::y::r:=by
   intro x
   induction x with
   |nil=>intro _;show ŋ c (c::M4.Ŝ [c] (y::r))=_;rw[ŋ,if_pos rfl,ih]|cons a x ihx=>intro h;show ŋ c (a::(x++[c]++M4.Ŝ [c] (y::r)))=_;rw[ŋ,if_neg λz=>h (by simp[z]),ihx λz=>h<|þ _ z]
  exact go x (hn x<|by simp)
theorem uI(c:Nat):∀l,(ŋ c l).length<=l.length+1
 |[]=>by simp[ŋ]|x::xs=>by
  have ih:=uI c xs;unfold ŋ;split
  ·simp;lia
  ·split
   ·simp
   ·rename_i e;rw[e]at ih;simp at ih⊢;lia
end Sp
namespace P
open PySem PySem.Spec PyProof.Rows L2 M2 M3 M4 PySem.Builtin PySem.Builtin.Str
section
variable{prog:ë}{w:â}{A:ê}{E:Á->Ã->Prop}{s:Ã}{x y:aU}{t u:Tok}{Q:Á->Ã->Prop}
def Jk(hy:(y.length==0)=false)(hq:∀l k,l.map (·.1)=Txt.split x y->Q (.ref s.heap.objs.size) {s with heap:=s.heap.push {cls:=.type "list",data:=.seq (strValues l).toArray},toks:=k})
 (kW:x.length<=sizeLine)(Xz:(partsBetween x (jX x y 0 x.length<|x.length+1) y.length).length<=sizeLine):Ï (Ø prog w) A (call (.builtin "str.split") [.str x t,.str y u]) Q E s:=by
 cases h1:(decide (x.length<y.length)||decide (mH x<mH y))
 ·cases hf:(jX x y 0 x.length<|x.length+1).isEmpty
  ·refine oI ir (l_ _ _ _) xS (xT _ _) (meets_str_split_sep x y t u h1 hy hf kW Xz) ?_;show wants Q E _ {s with toks:=_,heap:=s.heap.push {cls:=.type "list",data:=.seq (strsFrom s.toks<|partsBetween x (jX x y 0 x.length<|x.length+1) y.length).toArray}};rw[strsFrom_eq];exact hq (numbered s.toks _) _<|(numbered_texts _ _).trans ((if_neg<|ne_true_of_eq_false h1).trans (if_neg<|ne_true_of_eq_false hf)).symm
  ·exact oI ir (l_ _ _ _) xS (xT _ _) (meets_str_split_not_found x y t u h1 hy hf)<|hq [(x,t)] s.toks ((if_neg<|ne_true_of_eq_false h1).trans (if_pos hf)).symm
 ·exact oI ir (l_ _ _ _) xS (xT _ _) (meets_str_split_cannot_occur x y t u h1)<|hq [(x,t)] s.toks (if_pos h1).symm
end
theorem mX:∀(l:List (aU×Tok)) (ys:List (List Nat)),l.map (·.1)=ys.map S->Ō (ys.map λy=>V.str<|S y) (strValues l)
 |[],[],_=>.nil|[],_::_,h=>by cases h|_::_,[],h=>by cases h|(a,t)::l,y::ys,h=>by
  rw[à,à]at h;injection h with h1 h2
  have vh:a=S y:=h1;subst vh;exact .cons ⟨t,rfl⟩<|mX l ys h2
def BB:V->List V->Hp->VK->Prop:=λx xs H Q=>match x,xs with
 |.str z,[.str y]=>∃c,y=S [c]/\c<256/\z.length+2<=16777216/\∀p,H p=none->Q (.ref p) (upd H p<|.lst<|(Sp.ŋ c z.cps.toList).map λl=>.str<|S l)
 |_,_=>False
set_option tactic.hygienic true in
def lv:No X "str.split" BB:=by
 intro Å s a H x xs v us Q I rx rs h;unfold BB at h;split at h
 ·rename_i z y;obtain⟨c,rfl,hc,hz,q⟩:=h;obtain⟨t,rfl⟩:=rx;obtain⟨u,rfl,ru⟩:=vals1 rs;obtain⟨t',rfl⟩:=ru;have hl:z.cps.toList.length=z.length:=by simp[cD]
  refine Jk rfl (λl k e=>?_) (by rw[eL];lia) (by rw[length_partsBetween,eL];have:=StrLaws.occ_length_le z (S [c]) 0 z.length<|z.length+1;lia);rw[Sp.G0 z hc]at e;have hn:(strValues l).length<=sizeLine:=by have:=(mX l _ e).length;rw[<-this,Ğ,eL];have:=Sp.uI c z.cps.toList;lia
  refine⟨.ref s.heap.objs.size,_,I.laid (o:=.lst<|(Sp.ŋ c z.cps.toList).map λl=>.str<|S l) (t':=k) (λb u q=>ø _ q) (ö _) ⟨?_,strValues l,0,mX l _ e,Ĥ _ rfl⟩,rfl,q _ I.fresh⟩;rw[(mX l _ e).length];exact hn
 ·exact h.elim
def Yw(K:KK)(r:V->List V->Hp->VK->Prop)(f:PV->List PV->Option RV):Prop:=∀{c:Ctx}{F H:Hp}{a:ć}{U:Ĉ}{p:PV}{ps:List PV}{pv:RV}{v:V}{vs:List V}{Q:VK},Ĕ K c F H a U->rR K c a U F H p v->LQ K c a U F H ps vs->f p ps=some pv->
 (∀z F' H',Ĕ K c F' H' a U->Ú F F'->Ú H H'->rO K c a U F' H' pv z->Q z H')->r v vs H Q
@[simp]def vx(f:PV→List PV→Option RV)(mo:M PV)(ms:M (List PV))(U:Ĉ):į RV:=(mo U).bind fun p U1=>match p with
  |.str _=>(ms U1).bind λps U2=>į.zE (f p ps) U2
  |_=>.bad
noncomputable def EJ:aU->Option Nat:=λy=>match y.cps.toList with
 |[c]=>some c|_=>none
def cJ:PV->List PV->Option RV
 |.str z,[.str y]=>(EJ y).bind λc=>if c<256/\z.length+2<=16777216then some (.ow<|(Sp.ŋ c z.cps.toList).map λl=>.str<|S l)else none
 |_,_=>none
theorem wy{K:KK}:∀ys:List (List Nat),é K F (ys.map λl=>.str<|S l)<|ys.map λl=>.str<|S l
 |[]=>é.nil|y::ys=>é.cons Ċ.str<|wy ys
set_option tactic.hygienic true in
def lw{K:KK}:Yw K BB cJ:=by
 intro c F H a U p ps pv v vs Q rel r1 r2 e k;unfold cJ at e;split at e
 ·rename_i z y;cases r1.str;obtain⟨u,rfl,r3⟩:=vq r2;cases r3.str;obtain⟨c',ec,e⟩:=oA.mp e;split at e
  ·rename_i hz;cases e;have ey:y=S [c']:=by
    unfold EJ at ec;split at ec
    ·rename_i c2 e2;cases ec;exact j_ (by rw[show y.cps=y.cps.toList.toArray by simp,e2])
    ·cases ec
   refine⟨c',ey,hz.1,hz.2,λq hq=>?_⟩;obtain⟨a1,a2⟩:=jm rel hq<|wy (K:=K) (F:=F)<|Sp.ŋ c' z.cps.toList;exact k _ F _ a1 Đ (Ú.upd hq) a2
  ·cases e
 ·cases e
section
variable{X:Cx}{cm:String->À}{K:KK}{E:ć->XK}{o e:Ç}{es:List Ç}{name:Str}{aI gi:Pos}{id:String}{r:V->List V->Hp->VK->Prop}{f:PV->List PV->Option RV}{mo:M PV}{ms:M (List PV)}
def G1(pa:PlainAttrs "str")(slot:PySem.Slot "str" name id)(lL:typeOf (.builtin id)=î (.type "method_descriptor"))(hf:Yw (kk X cm) r f)(hm:No X id r)(ho:PE X o (tR (kk X cm) E mo))(ha:PA X (e::es) (FZ (kk X cm) E ms))
 (lM:eN o name X.env (eval o X.env)=eval o X.env:=by kernel_rfl)
 (uZ:((ÿ gi<|Ð (e::es) X.env).all (fun x=>!x.1)&&(aR gi<|aS [] X.env).all (fun x=>x.1.isSome)
   &&decide ((e::es).length+([]:List aQ).length+(if([]:List aQ).isEmpty then 0 else 1)<30))=true:=by rfl)
 (lN:(aI.endLine==gi.line)=true:=by rfl)(hs:Ð (e::es) X.env=(false,eval e X.env)::Ð es X.env:=by exact Ĺ rfl)(oa:(ÿ gi<|Ð es X.env).any (·.1)=false:=by kernel_rfl):
 PE X (.Call (.Attribute o name aI) (e::es) [] gi) (tO (kk X cm) E<|vx f mo ms):=
 PE.wk (fG pa slot lL hm ho ha lM uZ lN hs oa) fun a H Q ⟨c,F,U,rel,h⟩=>⟨c,F,U,rel,ak.bind h fun p U1 v F1 H1 ä _ _ r1 h1=>by
   cases p with
   |str z=>
    cases r1.str;refine⟨rfl,c,F1,U1,ä,ak.bind h1 λps U2 vs F2 H2 Ě sF sH r2 h2=>?_⟩;cases ef:f (.str z) ps with
    |none=>rw[ef]at h2;exact h2.elim|some pv=>rw[ef]at h2;exact hf Ě (.inl<|Ċ.str (K:=kk X cm) (F:=F2)) r2 ef λz F' H' ŷ s1 s2 q'=>h2 z F' H' ŷ s1 s2 q'
   |_=>exact h1.elim⟩
end
section
variable{X:Cx}{K:KK}
def Kj:List V->Hp->VK->Prop:=λxs H Q=>Gw xs H Q\/∃z n,xs=[.str z]/\oK z=some n/\z.length<=640/\Q (.int n) H
def Jl:Ř X (.type "int") Kj:=by
 intro Å s a H vs us Q I r h;rcases h with h|⟨z,n,rfl,h1,h2,q⟩
 ·exact L8 Å s a H vs us Q I r h
 ·obtain⟨u,rfl,ru⟩:=vals1 r;obtain⟨t,rfl⟩:=ru;exact PySem.W.KIN.call_text h1 h2 ⟨.int n,H,I.tok _,⟨_,rfl⟩,q⟩
def pN:List PV->Option PV
 |[.str z]=>if z.length<=640then(oK z).map .int else none|ps=>Gx ps
set_option tactic.hygienic true in
def Jm:dX K Kj pN:=by
 intro c F H a U ps pv vs Q rel r e k;unfold pN at e;split at e
 ·rename_i z;split at e
  ·rename_i hz;obtain⟨n,e1,rfl⟩:=h_.mp e;obtain⟨v,rfl,r1⟩:=vq r;cases r1.str;exact .inr ⟨z,n,rfl,e1,hz,k _ F H rel Đ Đ Ċ.int⟩
  ·cases e
 ·exact .inl<|L9 rel r e k
def Kk:List V->Hp->VK->Prop:=λxs H Q=>Gy xs H Q\/∃z,xs=[.str z]/\Q (.str z) H
def DJ:Ř X (.type "str") Kk:=by
 intro Å s a H vs us Q I r h;rcases h with h|⟨z,rfl,q⟩
 ·exact Ma Å s a H vs us Q I r h
 ·obtain⟨u,rfl,ru⟩:=vals1 r;obtain⟨t,rfl⟩:=ru;exact PySem.P.str_of_str ⟨.str z,H,I,⟨t,rfl⟩,q⟩
def jy:List PV->Option PV
 |[.str z]=>some<|.str z|ps=>IN ps
def DK:dX K Kk jy:=by
 intro c F H a U ps pv vs Q rel r e k;unfold jy at e;split at e
 ·cases e;obtain⟨v,rfl,r1⟩:=vq r;cases r1.str;exact .inr ⟨_,rfl,k _ F H rel Đ Đ Ċ.str⟩
 ·exact .inl<|Mb rel r e k
@[simp]theorem P9{z:aU}:pN [.str z]=if z.length<=640then(oK z).map .int else none:=rfl
@[simp]theorem Qa{i:Int}:pN [.int i]=some (.int i):=rfl
@[simp]theorem Qb{i:Bool}:pN [.bl i]=some (.int<|if i then 1 else 0):=rfl
@[simp]theorem Qc{z:aU}:jy [.str z]=some (.str z):=rfl
@[simp]theorem Qd{i:Int}:jy [.int i]=if i.natAbs.log2<1920then some (.str<|bJ i)else none:=rfl
end
noncomputable def DM(mb:M Fl):M Fl:=λU=>match mb U with
 |.ok f U1=>.ok f U1|_=>.bad
@[simp]theorem SH{mb:M Fl}{U:Ĉ}:DM mb U=(match mb U with
  |.ok f U1=>.ok f U1|_=>.bad):=rfl
section
variable{X:Cx}{cm:String->À}{E:ć->XK}
def MK
 (hb:∀(xe:Á->Ã->Prop) (Å:List (À×Obj)) (Et:ć->XK),bC (Ey X xe Å) body<|tS (kk X cm) Et mb):PS X (.Try body (h0::hs) [] [] pos) (tS (kk X cm) E<|DM mb):=by
 rintro Å s a H D I ⟨c,F,U,rel,h⟩;refine wpAny_Try_except ?_;have J:Inv (Ey X (λe s₁=>Ï (Ø X.prog X.w) X.A (noteFrame e X.env) (λy s₂=>Ï (Ø X.prog X.w) X.A (setFlight e none) (λy s₃=>Ï (Ø X.prog X.w) X.A (handleBy e X.env (h0::hs)) (SP X Å D) X.xe s₃) X.xe s₂) X.xe s₁) Å) [] a H s:=Inv.O8 I;refine ώ (hb _ Å (λy y y y=>False) [] s a H D J ⟨c,F,U,rel,?_⟩) λf s1 q=>?_
 ·unfold DM at h;cases em:mb U with
  |bad=>rw[em]at h;exact h|exc x U1=>rw[em]at h;exact h.elim|ok f U1=>rw[em]at h;cases f<;>exact h
 ·have q':=SP.wa q;cases f with
  |next=>exact oE q'|brk=>exact q'|cont=>exact q'|ret u=>exact q'
end
end P
namespace Sp
open PySem PySem.Builtin PySem.Builtin.Str PySem.StrLaws
def Qe(x:aU)(c:Nat):(!(jX x (S [c]) 0 x.length 1).isEmpty)=decide (c∈x.cps.toList):=by
 have hl:x.cps.toList.length=x.length:=by simp[cD]
 have h:=occ_none x (S [c]) x.length (hV 0<|x.length+1) 0<|λy y=>da _;have e:(jX x (S [c]) 0 x.length 1).isEmpty=true↔¬c∈x.cps.toList:=by
  rw[occ_eq];rw[List.isEmpty_iff,Array.toList_eq_nil_iff];refine h.trans ?_;have hs:∀i,(hi:i<x.length)->(subAt x (S [c]) i=true↔x.cps.toList[i]'(by lia)=c):=λi hi=>by rw[subAt_eq,lS<|by lia];show((List.take 1 _==[c])=true)↔_;rw[B_,List.take_zero];simp
  constructor
  ·intro q z;obtain⟨i,hi,e⟩:=B1 z;exact q i (by simp;lia) ⟨show i+1<=x.length by lia,(hs i<|by lia).mpr e⟩
  ·rintro q i _ ⟨z1,z2⟩;have z1':i+1<=x.length:=z1;exact q ((hs i<|by lia).mp z2▸ϒ _)
 cases q:(jX x (S [c]) 0 x.length 1).isEmpty with
 |true=>have:=e.mp q;simp[this]|false=>
  have:c∈x.cps.toList:=BR λz=>by rw[e.mpr z]at q;cases q
  simp[this]
end Sp
namespace P
open PySem PySem.Spec PyProof.Rows L2 M2 M3 M4
def VI:R2:=λx y H Q=>∃c z,x=.str (S [c])/\y=.str z/\Q (.bl<|decide<|c∈z.cps.toList) H
def Hs(p q:PV):Option PV:=match p,q with
 |.str y,.str z=>(EJ y).map λc=>.bl<|decide<|c∈z.cps.toList
 |_,_=>D3 false p q
def Qf(K:Î):R2:=λx y H Q=>VI x y H Q\/I_ K false x y H Q
section
variable{X:Cx}{K:KK}
def BC(hu:X.A.units+64<ż):aF X (ĭ .In) (Qf X.K):=by
 intro Å s a H x y v u Q I rx ry h;rcases h with⟨c,z,rfl,rfl,q⟩|h
 ·obtain⟨t,rfl⟩:=rx;obtain⟨t',rfl⟩:=ry;refine in_str ?_;rw[Sp.Qe z c];exact⟨.bl _,H,I,rfl,q⟩
 ·exact Mi hu Å s a H x y v u Q I rx ry h
set_option tactic.hygienic true in
def BD:le K (Qf K.K) Hs:=by
 intro c F H a U p q pv v u Q rel r1 r2 e k;unfold Hs at e;split at e
 ·rename_i y z;obtain⟨c',ec,rfl⟩:=h_.mp e;cases r1.str;cases r2.str;have ey:y=S [c']:=by
   unfold EJ at ec;split at ec
   ·rename_i c2 e2;cases ec;exact j_ (by rw[show y.cps=y.cps.toList.toArray by simp,e2])
   ·cases ec
  exact .inl ⟨c',z,by rw[ey],rfl,k _ F H rel Đ Đ Ċ.bl⟩
 ·exact .inr<|GL rel r1 r2 e k
end
@[simp]theorem VJ{c:Nat}{z:aU}:Hs (.str ⟨#[c]⟩) (.str z)=some (.bl<|decide<|c∈z.cps.toList):=rfl
@[simp]theorem SI{p:PV}{ps:List PV}:Hs p (.lst ps)=D3 false p (.lst ps):=by cases p<;>rfl
@[simp]theorem SJ{p:PV}{ps:List PV}:Hs p (.tup ps)=D3 false p (.tup ps):=by cases p<;>rfl
mutual
def nX(K:Î)(cm:String->À):PV->Á->Bool
 |.int i,v=>match v with
   |.int j _=>decide<|i=j|_=>false
 |.cls C,v=>match v with
   |.ref a=>decide<|a=cm C|_=>false
 |.tup ps,v=>match v with
   |.ref a=>match K.lookup a with
     |some o=>(match o.cls with
      |.type t=>decide<|t="tuple"|_=>false)&&match o.data with
      |.seq Ē _=>decide (Ē.size<=16777216)&&Ay K cm ps Ē.toList|_=>false
     |none=>false
   |_=>false
 |_,_=>false
def Ay(K:Î)(cm:String->À):List PV->List Á->Bool
 |[],vs=>vs.isEmpty|p::ps,vs=>match vs with
  |v::r=>nX K cm p v&&Ay K cm ps r|[]=>false
end
set_option tactic.hygienic true
mutual
theorem Az{K:KK}:∀(p:PV) (v:Á),nX K.K K.cm p v=true->∃x,RelV x v/\∀F,Ċ K F p x
 |.int i,v,h=>by
   unfold nX at h;split at h
   ·rename_i j t;have:=of_decide_eq_true h;subst this;exact⟨.int i,⟨t,rfl⟩,λF=>by unfold Ċ;rfl⟩
   ·cases h
 |.cls C,v,h=>by
   unfold nX at h;split at h
   ·rename_i a;have:=of_decide_eq_true h;subst this;exact⟨.ref<|K.cm C,rfl,λF=>by unfold Ċ;rfl⟩
   ·cases h
 |.tup ps,v,h=>by
   unfold nX at h;split at h
   ·rename_i a;split at h
    ·rename_i o ho;rw[ă]at h;obtain⟨h1,h2⟩:=h;split at h1
     ·rename_i t ht;have et:=of_decide_eq_true h1;subst et;split at h2
      ·rename_i Ē n hd;rw[ă]at h2;obtain⟨xs,h3,h4⟩:=wz ps Ē.toList h2.2;refine⟨.ref a,rfl,λF=>?_⟩;unfold Ċ;exact⟨a,xs,rfl,.inr ⟨o,Ē,n,ho,ht,hd,by rw[Ĩ];exact of_decide_eq_true h2.1,h3⟩,h4 F⟩
      ·cases h2
     ·cases h1
    ·cases h
   ·cases h
 |.non,_,h=>by unfold nX at h;cases h|.bl _,_,h=>by unfold nX at h;cases h|.str _,_,h=>by unfold nX at h;cases h|.lst _,_,h=>by unfold nX at h;cases h|.ins _ _ _,_,h=>by unfold nX at h;cases h|.xc _ _ _,_,h=>by unfold nX at h;cases h|.ty _,_,h=>by unfold nX at h;cases h|.E_ _ _,_,h=>by unfold nX at h;cases h
theorem wz{K:KK}:∀(ps:List PV) (vs:List Á),Ay K.K K.cm ps vs=true->∃xs,Ō xs vs/\∀F,é K F ps xs
 |[],vs,h=>by
   unfold Ay at h;cases vs with
   |nil=>exact⟨[],.nil,λF=>é.nil⟩
   |cons _ _=>cases h
 |p::ps,vs,h=>by
  unfold Ay at h;cases vs with
  |nil=>cases h|cons v r=>rw[ă]at h;obtain⟨x,h1,h2⟩:=Az p v h.1;obtain⟨xs,h3,h4⟩:=wz ps r h.2;exact⟨x::xs,.cons h1 h3,λF=>é.cons (h2 F)<|h4 F⟩
end
set_option tactic.hygienic false
noncomputable def EK(K:Î)(cm:String->À):List (Str×PV)->List ik->Bool
 |[],es=>es.isEmpty|(x,p)::t,es=>match es with
  |e::r=>fW x e.key&&nX K cm p e.val&&EK K cm t r|[]=>false
theorem uJ{K:Î}(z:Str):∀{ai:List (Str×PV)}{es:List ik},EK K cm ai es=true->(ai.lookup z=none/\(es.find? λe=>fW z e.key)=none)\/∃p e,ai.lookup z=some p/\(es.find? λe=>fW z e.key)=some e/\nX K cm p e.val=true
 |[],es,h=>by
   unfold EK at h;cases es with
   |nil=>exact .inl ⟨rfl,rfl⟩|cons _ _=>cases h
 |(x,p)::t,es,h=>by
  unfold EK at h;cases es with
  |nil=>cases h|cons e r=>
   dsimp only at h;rw[ă,ă]at h;obtain⟨⟨h1,h2⟩,h3⟩:=h;by_cases hz:z=x
   ·subst hz;exact .inr ⟨p,e,by simp,by simp[h1],h2⟩
   ·have n1:fW z e.key=false:=by
     cases q:fW z e.key with
     |false=>rfl|true=>exact absurd (Value.isStrOf_inj _ _ _ q h1) hz
    have n2:(z==x)=false:=by simpa using hz
    rcases uJ z h3 with⟨q1,q2⟩|⟨p',e',q1,q2,q3⟩
    ·exact .inl ⟨by rw[ş,n2];exact q1,by rw[xn,n1];exact q2⟩
    ·exact .inr ⟨p',e',by rw[ş,n2];exact q1,by rw[xn,n1];exact q2,q3⟩
def zg(K:Î)(cm:String->À)(P:ii)(a:À)(ai:List (Str×PV)):Prop:=∃es n,K.lookup a=some ⟨.type "dict",none,.dict es n,#[]⟩/\PySem.W.KeysLit P es.toList/\EK K cm ai es.toList=true/\(a==oC)=false
noncomputable def Jn(nm:String)(ai:List (Str×PV)):PV->PV->Option PV
 |.str z,.cls n=>if n=nm then some (.bl<|!(ai.lookup z).isSome)else none|_,_=>none
noncomputable def Jo(nm:String)(ai:List (Str×PV)):PV->PV->Option PV
 |.cls n,.str z=>if n=nm then ai.lookup z else none|_,_=>none
def Kl(a:À)(ai:List (Str×PV)):R2:=λx y H Q=>∃z,x=.str z/\y=.ref a/\Q (.bl<|!(ai.lookup z).isSome) H
def Km(K:KK)(a:À)(ai:List (Str×PV)):R2:=λx y H Q=>∃z p,x=.ref a/\y=.str z/\ai.lookup z=some p/\∀v,(∀F,Ċ K F p v)->Q v H
def qP(z:Str)(es:Array ik):findBy fW es z=(es.toList.find? λe=>fW z e.key).map (·.val):=by obtain⟨l⟩:=es;unfold findBy;rw[List.find?_toArray]
section
variable{X:Cx}{cm:String->À}{a:À}{ai:List (Str×PV)}{nm:String}
def Jp(h:zg X.K cm X.w.params a ai):aF X (ĭ .NotIn) (Kl a ai):=by
 intro Å s b H x y v u Q I rx ry hq;obtain⟨z,rfl,rfl,q⟩:=hq;obtain⟨t,rfl⟩:=rx;cases ry;obtain⟨es,n,h1,h2,h3,h4⟩:=h;refine wpAny_notIn_of (strKind_is X.prog X.w z t) h4 (PySem.W.mapOf_K (prog:=X.prog) I.nj h1 h2) ⟨.bl _,H,I.tok _,rfl,?_⟩;have e:(findBy fW es z).isSome=(ai.lookup z).isSome:=by rw[qP];rcases uJ z h3 with⟨q1,q2⟩|⟨p,e,q1,q2,q3⟩<;>rw[q1,q2]<;>rfl
 rw[e];exact q
def ML(h:zg X.K cm X.w.params a ai):AI X (Km (kk X cm) a ai):=by
 intro value slice Å s b H x y v u Q I rx ry hq hs;obtain⟨z,p,rfl,rfl,hl,q⟩:=hq;cases rx;obtain⟨t,rfl⟩:=ry;obtain⟨es,n,h1,h2,h3,h4⟩:=h;have hm:=PySem.W.mapOf_K (prog:=X.prog) (w:=X.w) I.nj h1 h2;rcases uJ z h3 with⟨q1,q2⟩|⟨p',e,q1,q2,q3⟩
 ·rw[q1]at hl;cases hl
 ·rw[q1]at hl;cases hl;obtain⟨x,r1,r2⟩:=Az (K:=kk X cm) p e.val q3;refine tail_any hm.typeIs slot_dict_getitem.lookup (wpAny_getItem_of (strKind_is X.prog X.w z t) hm (v:=e.val) ?_ ⟨x,H,I.tok _,r1,q x r2⟩) hs;rw[qP,q2];rfl
set_option tactic.hygienic true
def Jq(ha:cm nm=a):le (kk X cm) (Kl a ai) (Jn nm ai):=by
 intro c F H b U p q pv v u Q rel r1 r2 e k;unfold Jn at e;split at e
 ·rename_i z n;split at e
  ·rename_i hn;subst hn;cases e;cases r1.str;have r2':u=.ref (cm n):=by
    rcases r2 with r2|r2
    ·unfold Ċ at r2;exact r2
    ·exact r2.elim
   subst r2';exact⟨z,rfl,by rw[ha],k _ F H rel Đ Đ (by unfold Ċ;rfl)⟩
  ·cases e
 ·cases e
def Jr(ha:cm nm=a):le (kk X cm) (Km (kk X cm) a ai) (Jo nm ai):=by
 intro c F H b U p q pv v u Q rel r1 r2 e k;unfold Jo at e;split at e
 ·rename_i n z;split at e
  ·rename_i hn;subst hn;cases r2.str;have tJ:v=.ref (cm n):=by
    rcases r1 with r1|r1
    ·unfold Ċ at r1;exact r1
    ·exact r1.elim
   subst tJ;exact⟨z,pv,by rw[ha],rfl,e,λx hx=>k x F H rel Đ Đ<|hx F⟩
  ·cases e
 ·cases e
set_option tactic.hygienic false
end
def DN(X:Cx)(cm:String->À)(CX:iy)(k n:Nat)(C:String)(mf:MF):Prop:=∃fd ps,ϫ X.K (.ref<|cm C)=true/\ϯ X.prog X.w X.K X.mg X.base CX k (cm C) fd ps (rj (kk X cm) n mf)/\Binds X.K fd ps []/\
 ∀{ps:List Slot},(∃r,mf ps=r/\∀z,r=z->z≠.bad)->ps.length=n
@[simp]def Js(ai:List (String×MF))(mo:M PV)(ms:M (List Slot))(U:Ĉ):į RV:=(mo U).bind fun p U1=>match p with
  |.cls C=>(match ai.lookup C with
    |some mf=>(ms U1).bind λas U2=>match mf as with
     |.ret r=>.ok r U2|.exc x=>.exc x U2|.bad=>.bad
    |none=>.bad)
  |_=>.bad
section
variable{X:Cx}{cm:String->À}{E:ć->XK}{CX:iy}{k n:Nat}{ai:List (String×MF)}{m:M PV}{ms:M (List Slot)}{o e:Ç}{es:List Ç}{pos:Pos}
def Jt{Q:VK}(h:ak (kk X cm) E (rO<|kk X cm) c F H a Q (Js ai m ms U))(nU:ut (λC mf=>DN X cm CX k n C mf) ai):
 ak (kk X cm) E (rV<|kk X cm) c F H a (λx H1=>∃g fd ps mf,x=.ref g/\ϫ X.K (.ref g)=true/\ϯ X.prog X.w X.K X.mg X.base CX k g fd ps (rj (kk X cm) n mf)/\Binds X.K fd ps []/\
  tA (kk X cm) E ms a H1 λvs H2=>rj (kk X cm) n mf vs H2 Q<|E a) (m U):=
 ak.bind h λp U1 v F1 H1 ä y y r1 h1=>by
  cases p with
  |cls C=>
   dsimp only at h1;cases el:ai.lookup C with
   |none=>rw[el]at h1;exact h1.elim|some mf=>rw[el]at h1;dsimp only at h1;obtain⟨fd,qs,k2,k3,k4,k5⟩:=nU.get el;have tJ:Ċ (kk X cm) F1 (.cls C) v:=r1;unfold Ċ at tJ;subst tJ;exact⟨_,fd,qs,mf,rfl,k2,k3,k4,c,F1,U1,ä,ak.bind h1 λas U2 vs F2 H2 Ě sF sH r3 h3=>uh k5 Ě r3 h3⟩
  |_=>exact h1.elim
def Qg(nU:ut (λC mf=>DN X cm CX k n C mf) ai)(hr:ő k X.A)(hx:a_ CX X E)(he:PE X o (tV (kk X cm) E m))(ha:PA X (e::es) (tA (kk X cm) E ms))
 (jN:Ð (e::es) X.env=(false,eval e X.env)::Ð es X.env:=by exact Ĺ rfl)(hpl:(ÿ pos<|Ð es X.env).any (·.1)=false:=by kernel_rfl)
 (ht:eval (.Call o (e::es) [] pos) X.env=(do eO pos (<-eval o X.env) [] (ÿ pos<|Ð (e::es) X.env) (aR pos<|aS [] X.env)):=by rfl):
 PE X (.Call o (e::es) [] pos) (tO (kk X cm) E<|Js ai m ms):=by
 rintro Å s a H Q I ⟨c,F,U,rel,h⟩;rw[ht];refine Ñ<|ώ (he Å s a H _ I ⟨c,F,U,rel,Jt h nU⟩) λu s1 zz=>?_;obtain⟨x,H1,I1,rx,g,fd,ps,mf,ex,k2,k3,k4,q⟩:=zz;subst ex;obtain rfl:u=Ń g:=rx;refine ka (h₀:=X.base) I.ok.mod.Hq k2 (ώ (ha pos Å s1 a H1 _ I1 q) λus s2 ⟨vs,H2,I2,r,q2⟩=>⟨I2.nj,?_⟩) jN hpl;exact mO k3 hr k4 hx I2 r q2
end
def VL(a:À)(l:Option À)(b:À):Prop:=b=a\/l=some b
structure Qh(a:À)(l:Option À)(F H F' H':Hp):Prop where
 h:∀b u,¬VL a l b->H b=some u->H' b=some u
 f:Ú F F'
 sub:Ú F' H'
 out:∀b,¬VL a l b->H b≠none->F b=none->F' b=none
def G2(K:KK)(F H:Hp):Option À->Option (List PV)->Prop
 |none,none=>True|some l,some qs=>∃vs,H l=some (.lst vs)/\F l=none/\é K F qs vs|_,_=>False
def AA(K:KK)(F H:Hp)(a dx:À)(C:String)(l:Option À)(ns:List Str)(ps:List PV)(q:Option (List PV)):Prop:=
 (∃fs,H a=some (.ins (K.cm C) dx fs)/\F a=none/\fs.map (·.1)=ns/\é K F ps (fs.map (·.2)))/\G2 K F H l q
inductive MR where
 |ret (p:PV) (ns:List Str) (ps:List PV) (q:Option (List PV))|exc (x:PX) (ns:List Str) (ps:List PV) (q:Option (List PV))|bad
abbrev MM:=List Str->List PV->Option (List PV)->List PV->MR
noncomputable def i_(C:String)(ns:List Str)(ps:List PV):Option (List PV)->Ĉ
 |none=>[.rc C ns ps]|some qs=>[.rc C ns ps,.pw qs]
noncomputable def pO(C:String):Option (List PV)->Ĉ->Option (List Str×List PV×Option (List PV))
 |none,.rc C' ns ps::_=>if C'=C then some (ns,ps,none)else none|some _,.rc C' ns ps::.pw qs::_=>if C'=C then some (ns,ps,some qs)else none|_,_=>none
def MR.of(C:String)(q:Option (List PV)):į Fl->MR
 |.ok (.rt<|.sh p) U=>match pO C q U with
   |some z=>.ret p z.1 z.2.1 z.2.2|none=>.bad
 |.ok .nx U=>match pO C q U with
   |some z=>.ret .non z.1 z.2.1 z.2.2|none=>.bad
 |.exc x U=>match pO C q U with
   |some z=>.exc x z.1 z.2.1 z.2.2|none=>.bad
 |_=>.bad
def uK(n k:Nat)(C:String)(mb:M Fl):MM:=λns ps q as=>if(i_ C ns ps q).length+as.length=n then MR.of C q (mb<|i_ C ns ps q++ĕ (k-(i_ C ns ps q).length) (as.map .sh))else .bad
def Qi(K:KK)(E:XK)(F H:Hp)(Q:VK)(a dx:À)(C:String)(l:Option À):MR->Prop
 |.ret p ns ps q=>∀v F' H',Qh a l F H F' H'->AA K F' H' a dx C l ns ps q->Ċ K F' p v->Q v H'|.exc x ns ps q=>∀C' d F' H',Qh a l F H F' H'->AA K F' H' a dx C l ns ps q->yJ K F' x C' d->E C' d H'|.bad=>False
noncomputable def uL(a:À):Option À->List V
 |none=>[.ref a]|some l=>[.ref a,.ref l]
def Qj(K:KK)(C:String)(mm:MM):Sp:=λvs H Q E=>∃F a dx l ns ps q gU as,vs=uL a l++gU/\Ú F H/\AA K F H a dx C l ns ps q/\é K F as gU/\Qi K E F H Q a dx C l (mm ns ps q as)
noncomputable def vy(a dx:À)(C:String)(l:Option À)(F H:Hp):Ctx:=⟨λb=>if b=a\/l=some b then none else H b,F,λx=>none,λa' Qqq9 C'=>(a'=a/\Qqq9=dx/\C'=C)\/(l=some a'/\C'="")⟩
section
variable{K:KK}{F H F' H':Hp}{a dx:À}{C:String}{l:Option À}{ns:List Str}{ps:List PV}{q:Option (List PV)}{σ:ć}{U:Ĉ}{as:List PV}{gU:List V}
def AA.len(h:AA K F H a dx C l ns ps q):(uL a l).length=(i_ C ns ps q).length:=by
 have h2:=h.2;unfold G2 at h2;cases l with
 |none=>cases q with
  |none=>rfl|some _=>exact h2.elim
 |some _=>cases q with
  |none=>exact h2.elim|some _=>rfl
def DO(h:é K F as gU){n i:Nat}(e:(ĕ n<|as.map .sh)[i]?=some s'):ū K c F H (((gU.map some++á (n-gU.length) none)[i]?).getD none) s'/\s'.own=false:=by
 have hl:=h.length;unfold ĕ at e;by_cases hi:i<as.length
 ·rw[ϧ (by simpa using hi),Ł]at e;obtain⟨p,hp⟩:∃p,as[i]?=some p:=⟨_,œ hi⟩;rw[hp]at e;cases e;obtain⟨v,h1,h2⟩:=bT h.pr hp;rw[ϧ (by simp;lia),Ł,h1];exact⟨⟨v,rfl,h2⟩,rfl⟩
 ·rw[cr (by simp;lia),hU]at e;split at e
  ·cases e;exact⟨trivial,rfl⟩
  ·cases e
def Ĕ.startM(s:Ú F H)(o:AA K F H a dx C l ns ps q)(h:é K F as gU)(hN:(i_ C ns ps q).length<=N.length):
 Ĕ K (vy a dx C l F H) F H (L2.start N<|uL a l++gU) (i_ C ns ps q++ĕ (N.length-(i_ C ns ps q).length) (as.map .sh)):=by
 have hl:=h.length;obtain⟨⟨fs,o1,o2,o3,o4⟩,o5⟩:=o;have gen:∀b,(b=a\/l=some b)->(vy a dx C l F H).B b=none:=λb hb=>by show(if b=a\/l=some b then none else H b)=none;rw[if_pos hb]
 have Yx:ū K (vy a dx C l F H) F H (some<|.ref a) (.rc C ns ps):=⟨a,dx,fs,rfl,o1,o2,gen a<|.inl rfl,o3,o4,.inl ⟨rfl,rfl,rfl⟩⟩;have Yy:Ú (vy a dx C l F H).B H:=λb u e=>by
  have e':(if b=a\/l=some b then none else H b)=some u:=e;split at e'
  ·cases e'
  ·exact e'
 unfold G2 at o5;cases l with
 |none=>
  cases q with
  |some _=>exact o5.elim|none=>
   have Q0:L2.start N (uL a none++gU)=some (.ref a)::(gU.map some++á (N.length-1-gU.length) none):=by unfold L2.start uL;simp;lia
   rw[Q0];refine⟨s,Yy,Ú.refl _,λx x z=>z,λx x e=>(by cases e),λx x=>rfl,?_,λi s' e=>?_,λi j b h1 h2=>?_⟩
   ·simp[i_,ĕ]at hN⊢;lia
   ·cases i with
    |zero=>cases e;exact Yx|succ i=>exact(DO h (n:=N.length-1)<|by simpa[i_]using e).1
   ·have Kw:∀{i},ĵ F (some (.ref a)::(gU.map some++á (N.length-1-gU.length) none)) (i_ C ns ps none++ĕ (N.length-(i_ C ns ps none).length) (as.map .sh)) i b→i=0:=fun{i} ⟨s',y,q1,_,q2⟩=>by
     have q2:=iV q2;cases i with
     |zero=>rfl|succ i=>have:=(DO (K:=K) (H:=H) (c:=vy a dx C none F H) h (n:=N.length-1) (i:=i) (s':=s')<|by simpa[i_]using q1).2;rw[this]at q2;cases q2
    rw[Kw h1,Kw h2]
 |some l=>
  cases q with
  |none=>exact o5.elim|some qs=>
   obtain⟨us,u1,u2,u3⟩:=o5;have Q0:L2.start N (uL a (some l)++gU)=some (.ref a)::some (.ref l)::(gU.map some++á (N.length-2-gU.length) none):=by unfold L2.start uL;simp;lia
   rw[Q0];have OQ:ū K (vy a dx C (some l) F H) F H (some<|.ref l) (.pw qs):=⟨l,us,rfl,u1,u2,gen l<|.inr rfl,u3,.inr ⟨rfl,rfl⟩⟩;have fN:a≠l:=λz=>by rw[z,u1]at o1;cases o1
   refine⟨s,Yy,Ú.refl _,λx x z=>z,λx x e=>(by cases e),λx x=>rfl,?_,λi s' e=>?_,λi j b h1 h2=>?_⟩
   ·simp[i_,ĕ]at hN⊢;lia
   ·cases i with
    |zero=>cases e;exact Yx|succ i=>cases i with
     |zero=>cases e;exact OQ|succ i=>exact(DO h (n:=N.length-2)<|by simpa[i_]using e).1
   ·have Kw:∀{i},ĵ F (some (.ref a)::some (.ref l)::(gU.map some++á (N.length-2-gU.length) none)) (i_ C ns ps (some qs)++ĕ (N.length-(i_ C ns ps<|some qs).length) (as.map .sh)) i b→(i=0∧b=a)∨(i=1∧b=l):=fun{i} ⟨s',y,q1,q3,q2⟩=>by
     cases i with
     |zero=>cases q1;cases q3;exact .inl ⟨rfl,(V.ref.inj q2).symm⟩|succ i=>cases i with
      |zero=>cases q1;cases q3;exact .inr ⟨rfl,(V.ref.inj q2).symm⟩|succ i=>have q2:=iV q2;have:=(DO (K:=K) (H:=H) (c:=vy a dx C none F H) h (n:=N.length-2) (i:=i) (s':=s')<|by simpa[i_]using q1).2;rw[this]at q2;cases q2
    rcases Kw h1 with⟨e1,z1⟩|⟨e1,z1⟩<;>rcases Kw h2 with⟨e2,z2⟩|⟨e2,z2⟩
    ·rw[e1,e2]
    ·exact absurd (z1.symm.trans z2) fN
    ·exact absurd (z2.symm.trans z1) fN
    ·rw[e1,e2]
def Ĕ.VM(r:Ĕ K (vy a dx C l F H) F' H' σ U):Qh a l F H F' H':=
 ⟨λb u hb e=>r.base b u (by show(if b=a\/l=some b then none else H b)=_;rw[if_neg<|show ¬(b=a\/l=some b)from hb];exact e),r.f0,r.sub,λb hb h1 h2=>r.fg b (by show(if b=a\/l=some b then none else H b)≠none;rw[if_neg<|show ¬(b=a\/l=some b)from hb];exact h1) h2⟩
set_option tactic.hygienic true in
def uM(hC:C≠"")(o:G2 K F H l q)(r:Ĕ K (vy a dx C l F H) F' H' σ U)(h:pO C q U=some z):AA K F' H' a dx C l z.1 z.2.1 z.2.2:=by
 have rcs:∀{i:Nat}{wR:List Str}{kU:List PV},U[i]?=some (.rc C wR kU)->∃fs,H' a=some (.ins (K.cm C) dx fs)/\F' a=none/\fs.map (·.1)=wR/\é K F' kU (fs.map (·.2)):=fun{i wR kU} e=>by
  obtain⟨b,dy,fs,q1,q2,q3,q4,q5,q6,q7⟩:=r.slot i _ e;rcases q7 with⟨rfl,rfl,_⟩|⟨_,z⟩
  ·exact⟨fs,q2,q3,q5,q6⟩
  ·exact absurd z hC
 unfold G2 at o;unfold pO at h;split at h
 ·rename_i C' wR kU t;split at h
  ·rename_i e;subst e;cases h;cases l with
   |none=>exact⟨rcs (i:=0) rfl,trivial⟩|some _=>exact o.elim
  ·cases h
 ·rename_i qs0 C' wR kU qs t;split at h
  ·rename_i e;subst e;cases h;cases l with
   |none=>exact o.elim|some l=>
    refine⟨rcs (i:=0) rfl,?_⟩;obtain⟨b,vs,q1,q2,q3,q4,q5,q6⟩:=r.slot 1 _ rfl;rcases q6 with⟨_,_,z⟩|⟨z,_⟩
    ·exact absurd z.symm hC
    ·cases z;exact⟨vs,q2,q3,q5⟩
  ·cases h
 ·cases h
end
section
variable{Pg:ë}{w:â}{K:Î}{cm:String->À}{mg:Str->Option Á}{base:Ò}{CX:iy}
def fnM{x qual:Str}{st:è}{f:À}{fd:Ć}{N ps:List Str}{k n j:Nat}{C:String}{mb:M Fl}{mm:MM}(F:El K x qual st f fd)(S:ĸ N ps (ç st))
 (fv:∀(cdv:Á) (A:ê) (outer:List Env) (s:Ã) (H:Hp) (E:XK),ő k (A.deeper<|ŕ qual (ç st) s.heap.objs.size f cdv)→(A.deeper<|ŕ qual (ç st) s.heap.objs.size f cdv).units+64<ż→
   bC (nK CX Pg w K mg base N qual (ç st) f cdv A outer s H E) (ğ st) (tS ⟨K,cm⟩ (λy=>E) mb))(hn:ps.length=n:=by rfl)(hj:N.length=j:=by rfl)(hf:mm=uK n j C mb:=by rfl)(hle:n<=j:=by decide)(hC:C≠"":=by decide):ϯ Pg w K mg base CX (k+1) f fd ps (Qj ⟨K,cm⟩ C mm):=by
 subst hn hj hf;obtain⟨oc,od,kV,doc,pm,an,cdv,ct,zx,rfl,lk,wM⟩:=F.ex;have key:∀{F H:Hp}{Q:VK}{E:XK}{a dx:À}{l:Option À}{ns:List Str}{qs:List PV}{q:Option (List PV)}{as:List PV},Qi ⟨K,cm⟩ E F H Q a dx C l (uK ps.length N.length C mb ns qs q as)->(i_ C ns qs q).length+as.length=ps.length:=by
  intro F H Q E a dx l ns qs q as h;unfold uK at h;split at h
  ·assumption
  ·exact h.elim
 refine vI lk wM S (λvs H Q E ⟨F,a,dx,l,ns,qs,q,gU,as,h1,_,h2,h3,h4⟩=>by rw[h1,Ϲ,h2.len,<-h3.length];exact key h4) λA outer s H vs Q E hr zI=>?_;obtain⟨F,a,dx,l,ns,qs,q,gU,as,rfl,h2,h3,h4,h5⟩:=zI;have hl:=key h5;refine⟨_,fv cdv A outer s H E hr hr.units,vy a dx C l F H,F,_,Ĕ.startM h2 h3 h4 (by lia),?_⟩;unfold uK at h5;rw[if_pos hl]at h5;cases e:mb (i_ C ns qs q++ĕ (N.length-(i_ C ns qs q).length) (as.map .sh))with
 |bad=>rw[e]at h5;exact h5|exc x U'=>
  rw[e]at h5;unfold MR.of at h5;dsimp only at h5;cases ep:pO C q U' with
  |none=>rw[ep]at h5;exact h5.elim|some z=>rw[ep]at h5;exact λb C' d F' H' rel s1 rx=>h5 C' d F' H' rel.VM (uM hC h3.2 rel ep) rx
 |ok fl U'=>
  rw[e]at h5;unfold MR.of at h5;cases fl with
  |nx=>
   dsimp only at h5;cases ep:pO C q U' with
   |none=>rw[ep]at h5;exact h5.elim|some z=>rw[ep]at h5;exact λb F' H' rel s1=>h5 .non F' H' rel.VM (uM hC h3.2 rel ep)<|Ċ.non (K:=⟨K,cm⟩) (F:=F')
  |bk=>exact h5.elim|ct=>exact h5.elim|rt r=>
   cases r with
   |sh p=>
    dsimp only at h5;cases ep:pO C q U' with
    |none=>rw[ep]at h5;exact h5.elim|some z=>rw[ep]at h5;exact λv b F' H' rel s1 rv=>h5 v F' H' rel.VM (uM hC h3.2 rel ep) rv
   |_=>exact h5.elim
end
def kL{α β:Type}(K:KK)(E:ć->XK)(R:RR α β)(c:Ctx)(F:Hp)(a:ć)(Q:β->Hp->Prop):į α->Prop
 |.ok p U'=>∀v F' H',Ĕ K c F' H' a U'->Ú F F'->R c a U' F' H' p v->Q v H'|.exc x U'=>∀C d F' H',Ĕ K c F' H' a U'->Ú F F'->yJ K F' x C d->E a C d H'|.bad=>False
def VN{α β:Type}(K:KK)(E:ć->XK)(R:RR α β)(m:M α):ć->Hp->(β->Hp->Prop)->Prop:=λa H Q=>∃c F U,Ĕ K c F H a U/\kL K E R c F a Q (m U)
section
variable{α β α' β':Type}{K:KK}{E:ć->XK}{R:RR α β}{R':RR α' β'}{c:Ctx}{F F1 H H1:Hp}{σ:ć}
def kL.mono(h:kL K E R c F σ Q r)(sF:Ú F F1):kL K E R c F1 σ Q r:=by
 cases r with
 |ok p U'=>exact λv F' H' rel s1 q=>h v F' H' rel (sF.trans s1) q
 |exc x U'=>exact λC d F' H' rel s1 q=>h C d F' H' rel (sF.trans s1) q
 |bad=>exact h
def kL.bindG(h:kL K E R' c F σ Q' (r.bind f))
 (k:∀p U1 v F1 H1,Ĕ K c F1 H1 σ U1->Ú F F1->Ú H H1->R c σ U1 F1 H1 p v->kL K E R' c F1 σ Q' (f p U1)->Q v H1):ak K E R c F H σ Q r:=by
 cases r with
 |ok p U'=>exact λv F' H' rel s1 s2 q=>k p U' v F' H' rel s1 s2 q<|kL.mono (show kL K E R' c F σ Q' (f p U')from h) s1
 |exc x U'=>exact h|bad=>exact h
def ϊ.bindM(h:ϊ K E c F D (r.bind f))
 (k:∀p U1 v F1 H1,Ĕ K c F1 H1 σ U1->Ú F F1->R c σ U1 F1 H1 p v->ϊ K E c F1 D (f p U1)->Q v H1):kL K E R c F σ Q r:=by
 cases r with
 |ok p U'=>exact λv F' H' rel s1 q=>k p U' v F' H' rel s1 q<|ϊ.mono (show ϊ K E c F D (f p U')from h) s1
 |exc x U'=>exact λC d F' H' rel s1 q=>h σ C d F' H' rel s1 q
 |bad=>exact h
end
def Ĕ.Qk{K:KK}(r:Ĕ K c F H d U)(ha:ĵ F d U i a)(hx:d[i]?=some (some<|.ref a))(g:Qh a none F H F' H')(h:ū K c F' H' (some<|.ref a) s)(hs:∀b,s.at_ F' (.ref a) b->b=a):Ĕ K c F' H' d (U.set i s):=by
 obtain⟨h1,h2,h3⟩:=r.owned ha;have nx:∀b,b≠a->¬VL a none b:=λb hb z=>by rcases z with z|z;exact hb z;cases z
 refine⟨g.sub,λb u e=>?_,r.f0.trans g.f,λb k1 k2=>?_,λb u e=>?_,r.lb,by simpa using r.len,λj s' e=>?_,λj k b q1 q2=>?_⟩
 ·have hb:b≠a:=λz=>by rw[z,h3]at e;cases e
  exact g.h b u (nx b hb)<|r.base b u e
 ·have hb:b≠a:=λz=>by rw[z]at k1;exact k1 h3
  refine g.out b (nx b hb) (λz=>k1 ?_)<|r.fg b k1 k2;cases q:c.B b with
  |none=>rfl|some u=>rw[r.base _ _ q]at z;cases z
 ·have hb:b≠a:=λz=>by rw[z,r.lb a h3]at e;cases e
  obtain⟨e1,e2⟩:=r.lent b u e;exact⟨g.h b u (nx b hb) e1,g.out b (nx b hb) (by rw[e1];intro z;cases z) e2⟩
 ·rcases Ϙ e with⟨rfl,rfl,hl⟩|⟨hj,e⟩
  ·rw[hx];exact h
  ·refine(r.slot j s' e).grow g.f λb u ⟨y,e1,e2⟩ k1 k2 k3=>?_;have hb:b≠a:=λz=>by
    subst z;exact hj<|r.sep j i b ⟨s',y,e,yI e1,e2⟩ ha
   exact⟨g.h b u (nx b hb) k1,g.out b (nx b hb) (by rw[k1];intro z;cases z) k2⟩
 ·have off:∀{j},ĵ F' d (U.set i s) j b→(j=i∧b=a)∨(j≠i∧ĵ F' d U j b):=fun{j} ⟨s',y,q1,q3,q2⟩=>by
   rcases Ϙ q1 with⟨e,rfl,_⟩|⟨hj,q⟩
   ·subst e;rw[hx]at q3;cases q3;exact .inl ⟨rfl,hs b q2⟩
   ·exact .inr ⟨hj,s',y,q,q3,q2⟩
  have zW:=r.zW g.f;have Rh:ĵ F' d U i a:=by obtain⟨s0,y,z1,z2,z3⟩:=ha;exact⟨s0,y,z1,z2,Iu g.f z3⟩
  rcases off q1 with⟨e1,z1⟩|⟨e1,z1⟩<;>rcases off q2 with⟨e2,z2⟩|⟨e2,z2⟩
  ·rw[e1,e2]
  ·exact absurd (zW k i b z2<|z1▸Rh) e2
  ·exact absurd (zW j i b z1<|z2▸Rh) e1
  ·exact zW j k b z1 z2
@[simp]def BE(i:Nat)(C:String)(mm:MM)(mr:M (List PV))(U:Ĉ):į PV:=match U[i]?with
  |some (.rc _ _ _)=>(mr U).bind λas U1=>match U1[i]?with
   |some (.rc C' ns ps)=>if C'=C then(match mm ns ps none as with
    |.ret p wR kU none=>.ok p<|U1.set i<|.rc C wR kU|.exc x wR kU none=>.exc x<|U1.set i<|.rc C wR kU|_=>.bad)else .bad
   |_=>.bad
  |_=>.bad
@[simp]def zh(i:Nat)(C:String)(mT:Str)(mm:MM)(mr:M (List PV))(U:Ĉ):į PV:=match U[i]?with
  |some (.rc C' ns _)=>if C'=C/\ns.contains mT=false then BE i C mm mr U else .bad|_=>.bad
section
variable{X:Cx}{cm:String->À}{E:ć->XK}{CX:iy}{k:Nat}{f:À}{fd:Ć}{ps:List Str}{mm:MM}{x y:Str}{p pos py:Pos}{e:Ç}{es:List Ç}{C:String}{mr:M (List PV)}{i:Nat}
def Kn{K:KK}{ps:List PV}(rel:Ĕ K c F H b U)(e:U[i]?=some (.rc C ns ps)):∃a dx fs,b[i]?=some (some<|.ref a)/\H a=some (.ins (K.cm C) dx fs)/\F a=none/\c.B a=none/\fs.map (·.1)=ns/\é K F ps (fs.map (·.2))/\c.S a dx C/\ĵ F b U i a:=by obtain⟨a,dx,fs,q1,q2,q3,q4,q5,q6,q7⟩:=rel.slot i _ e;exact⟨a,dx,fs,ŀ q1,q2,q3,q4,q5,q6,q7,_,_,e,ŀ q1,rfl⟩
set_option tactic.hygienic true
def EL{F F1 H H1:Hp}{Q:VK}(hx:j[i]?=some (some<|.ref a))(ä:Ĕ (kk X cm) c F1 H1 j U1)(r1:é (kk X cm) F1 as vs)
 (h:kL (kk X cm) E (rV<|kk X cm) c F1 j Q (match U1[i]?with
 |some (.rc C' ns ps)=>if C'=C then(match mm ns ps none as with
  |.ret p wR kU none=>.ok p<|U1.set i<|.rc C wR kU|.exc x wR kU none=>.exc x<|U1.set i<|.rc C wR kU|_=>.bad)else .bad
 |_=>.bad)):Qj (kk X cm) C mm (.ref a::vs) H1 Q (E j):=by
 split at h
 ·rename_i C' ns ps e;split at h
  ·rename_i hC;subst hC;obtain⟨a2,dx,fs,q1,q2,q3,q4,q5,q6,q7,q8⟩:=Kn ä e;rw[hx]at q1;cases q1;refine⟨F1,a,dx,none,ns,ps,none,vs,as,rfl,ä.sub,⟨⟨fs,q2,q3,q5,q6⟩,trivial⟩,r1,?_⟩;have go:∀{F' H':Hp}{wR:List Str}{kU:List PV},Qh a none F1 H1 F' H'->AA (kk X cm) F' H' a dx C' none wR kU none->Ĕ (kk X cm) c F' H' j (U1.set i<|.rc C' wR kU):=fun{F' H' wR kU} g ⟨⟨QI,o1,o2,o3,o4⟩,_⟩=>
    ä.Qk (s:=.rc C' wR kU) q8 hx g ⟨a,dx,QI,rfl,o1,o2,q4,o3,o4,q7⟩<|λb z=>(V.ref.inj z).symm
   cases em:mm ns ps none as with
   |bad=>rw[em]at h;exact h|ret p wR kU q=>
    rw[em]at h;cases q with
    |none=>exact λv F' H' g o rp=>h v F' H' (go g o) g.f rp
    |some _=>exact h.elim
   |exc x wR kU q=>
    rw[em]at h;cases q with
    |none=>exact λC d F' H' g o rp=>h C d F' H' (go g o) g.f rp
    |some _=>exact h.elim
  ·exact h.elim
 ·exact h.elim
def Ju{pl:Sem Bool}{aI:Pos}{mT:Str}(i:Nat)(hc:zu X.K (cm C))(M:zw X.K (cm C) mT f)(F:ϯ X.prog X.w X.K X.mg X.base CX k f fd ps (Qj (kk X cm) C mm))(hb:Binds X.K fd ps [])(hr:ő k X.A)(hx:a_ CX X E)(ho:PE X (.Name y py) (iS i))(ha:PA X (e::es) (tL (kk X cm) E mr))
 (jN:Ð (e::es) X.env=(false,eval e X.env)::Ð es X.env:=by exact Ĺ rfl)(hpl:(ÿ pos<|Ð es X.env).any (·.1)=false:=by kernel_rfl)
 (ht:eval (.Call (.Attribute (.Name y py) mT aI) (e::es) [] pos) X.env=(do
   let ov<-eval (.Name y py) X.env
   de aI.atName
   let (f,first)<-ϖ [ov] (ib ov mT pl)
   eO pos f first (ÿ pos<|Ð (e::es) X.env) (aR pos<|aS [] X.env)):=by rfl):
 PE X (.Call (.Attribute (.Name y py) mT aI) (e::es) [] pos) (VN (kk X cm) E (rV<|kk X cm)<|zh i C mT mm mr):=by
 rintro Å s b H Q I ⟨c,F',U,rel,h⟩;unfold zh at h;split at h
 ·rename_i C' ns kU e1;split at h
  ·rename_i XA;obtain⟨XA,hn⟩:=XA;subst XA;obtain⟨a,dx,fs,q1,q2,q3,q4,q5,_⟩:=Kn rel e1;unfold BE at h;rw[e1]at h;refine yi (pl:=pl) (ώ (ho Å s b H (λv H1=>v=.ref a/\H1=H) I ⟨.ref a,q1,rfl,rfl⟩) λu s1 zz=>?_) ht;obtain⟨v,H1,I1,rv,ev,eH⟩:=zz;subst ev eH;obtain rfl:u=Ń a:=rv;refine nJ I1 q2 hc M (qt (by rw[q5];exact hn)) ?_;refine ka (first:=[.ref a]) (h₀:=X.base) I.ok.mod.Hq M.kp (ώ (ha pos Å s1 b H1 (λvs H2=>Qj (kk X cm) C' mm (.ref a::vs) H2 Q<|E b) I1 ⟨c,F',U,rel,kL.bindG h λas U1 vs F1 H2 ä s1 s2 r1 h1=>EL (F:=F') (H:=H1) q1 ä r1 h1⟩) λus s2 ⟨vs,H2,I2,r,q2⟩=>⟨I2.nj,?_⟩) jN hpl;exact mO (us:=.ref a::us) (vs:=.ref a::vs) F hr hb hx I2 (.cons rfl r) q2
  ·exact h.elim
 ·exact h.elim
set_option tactic.hygienic false
end
structure Ql(Pg:ë)(w:â)(K:Î)(mg:Str->Option Á)(base:Ò)(CX:iy)(k:Nat)(f:À)(fd:Ć)(ps:List Str)(sp:Sp):Prop where
 len:∀vs H Q E,sp vs H Q E->vs.length=ps.length
 run:∀(A:ê) (outer:List Env) (s:Ã) (H:Hp) (args:Args) (us:List Á) (vs:List V) (Q:VK) (E:XK),0<s.toks->ő k A->zO Pg w K mg base A outer s H->fV s fd args (ps.zip us)->Ō vs us->sp vs H Q E->
  dg (Ø Pg w) A (.call (.ref f) args) (CR CX outer Pg w H s Q E) s
section
variable{Pg:ë}{w:â}{K:Î}{mg:Str->Option Á}{base:Ò}{CX:iy}{k:Nat}{f:À}{fd:Ć}{ps:List Str}{sp:Sp}
def ϯ.pos(F:ϯ Pg w K mg base CX k f fd ps sp):Ql Pg w K mg base CX k f fd ps sp:=⟨F.len,λA outer s H args us vs Q E x=>F.run A outer s H args us vs Q E⟩
end
noncomputable def qB:Slot->Slot
 |.rc _ _ _=>.no|.pw _=>.no|.pin=>.no|s=>s
noncomputable def Qm(c:Ctx):Ctx:=⟨c.B,c.F₀,c.L,λx x x=>True⟩
theorem Ĕ.Qm{K:KK}(r:Ĕ K c F H a U):Ĕ K (Qm c) F H a U:=⟨r.sub,r.base,r.f0,r.fg,r.lent,r.lb,r.len,λi s e=>(r.slot i s e).ctx (λx x z=>z) (λx x x x=>trivial) (λx x x x z=>z) (λx x x z=>z),r.sep⟩
def Ĕ.blank{K:KK}(r:Ĕ K (P.Qm c) F H b U):Ĕ K c F H b (U.map qB) where
 sub:=r.sub
 base:=r.base
 f0:=r.f0
 fg:=r.fg
 lent:=r.lent
 lb:=r.lb
 len:=by rw[Ğ];exact r.len
 slot:=λi s e=>by
  rw[Ł]at e;cases e1:U[i]?with
  |none=>rw[e1]at e;cases e|some t=>rw[e1]at e;have e':qB t=s:=ı e;subst e';have q:=r.slot i t e1;cases t<;>first|exact q|trivial
 sep:=λi j a h1 h2=>by
  have off:∀{i},ĵ F b (U.map qB) i a->ĵ F b U i a:=fun{i} ⟨s,x,q1,q2,q3⟩=>by
   rw[Ł]at q1;cases e1:U[i]?with
   |none=>rw[e1]at q1;cases q1|some t=>rw[e1]at q1;have e':qB t=s:=ı q1;subst e';refine⟨t,x,e1,q2,?_⟩;cases t<;>first|exact q3|exact q3.elim
  exact r.sep i j a (off h1)<|off h2
def zi(i:Nat)(C:String)(mi:MI)(ms:M (List Slot))(m2:M Fl):M Fl:=λU=>(ms U).bind λas U1=>match mi as with
 |.ok ns ps=>(match m2 (U1.set i<|.rc C ns ps)with
   |.ok (.rt<|.sh p) U2=>.ok (.rt<|.sh p)<|U2.map qB|.exc x U2=>.exc x<|U2.map qB|_=>.bad)
 |.exc x=>.exc x U1|.bad=>.bad
section
variable{X:Cx}{cm:String->À}{E:ć->XK}{e:Ç}{es:List Ç}{pos p vd bh:Pos}{CX:iy}{k n:Nat}{f:À}{fd:Ć}{ps:List Str}{C:String}{mi:MI}{ms:M (List Slot)}{x y:Str}{m2:M Fl}{rest:List è}{i:Nat}
def EM{Q:VK}(hlen:(∃r,mi as=r/\∀z,r=z->z≠.bad)->as.length+1=n)(ä:Ĕ (kk X cm) c F1 H1 a U1)(r1:Paired (du (kk X cm) F1 H1) as vs)
 (h:match mi as with
   |.ok ns qs=>∀x dx fs F' H',Gr F1 H1 F' H'->H1 x=none->H' x=some (.ins (cm C) dx fs)->F' x=none->fs.map (·.1)=ns->é (kk X cm) F' qs (fs.map (·.2))->Q (.ref x) H'|.exc y=>∀C' d F' H',Gr F1 H1 F' H'->yJ (kk X cm) F' y C' d->E a C' d H'|.bad=>False):
 ∀x dx,H1 x=none->H1 dx=none->dx≠x->IL (kk X cm) n C mi (.ref x::vs) (upd (upd H1 dx<|.own x) x<|.ins (cm C) dx []) (λv H2=>v=.non/\Q (.ref x) H2) (E a):=by
 intro x dx hx Xg fN;have up:∀b u,H1 b=some u->upd (upd H1 dx<|.own x) x (.ins (cm C) dx []) b=some u:=λb u e=>by rw[ñ<|č e hx,ñ<|č e Xg];exact e
 have Bo:∀{F' H':Hp},O7 x F1 (upd (upd H1 dx<|.own x) x<|.ins (cm C) dx []) F' H'->Gr F1 H1 F' H':=fun{F' H'} g=>
  ⟨fun b u e=>g.h b u (č e hx)<|up b u e,g.f,g.sub,fun b hb hf=>by
    obtain⟨u,hu⟩:∃u,H1 b=some u:=by
     cases q:H1 b with
     |none=>exact absurd q hb|some u=>exact⟨u,rfl⟩
    exact g.out b (č hu hx) (by rw[up b u hu];intro z;cases z) hf⟩
 refine⟨F1,x,dx,vs,as,rfl,?_,Ā,ä.sub.free hx,λb u e=>up b u<|ä.sub b u e,?_,?_⟩
 ·exact hlen ⟨_,rfl,λz hz hb=>by rw[hz,hb]at h;exact h⟩
 ·refine Paired.mono (λs v hs=>?_) r1;cases s with
  |sh p=>exact hs|bw qs=>obtain⟨b,ws,q1,q2,q3,q4⟩:=hs;exact⟨b,ws,q1,up b _ q2,q3,q4⟩|dw gv=>obtain⟨b,ts,q1,q2,q3,q4⟩:=hs;exact⟨b,ts,q1,up b _ q2,q3,iA q4 λt d w ⟨xs,y,ws,k1,k2,k3,k4⟩=>⟨xs,y,ws,k1,k2,⟨up y _ k3.1,k3.2⟩,k4⟩⟩
  |_=>exact hs.elim
 ·cases em:mi as with
  |bad=>rw[em]at h;exact h|exc y=>rw[em]at h;exact λC' d F' H' g rx=>h C' d F' H' (Bo g) rx
  |ok ns qs=>rw[em]at h;exact λF' H' fs g NR Q1 hn hr=>⟨rfl,h x dx fs F' H' (Bo g) hx NR Q1 hn hr⟩
def Jv(hN:X.N.Nodup)(hi:X.N[i]?=some y)(hy:Loc X.env.scope y)(M:Mk X.K (cm C) f)(F:ϯ X.prog X.w X.K X.mg X.base CX k f fd ps (IL (kk X cm) n C mi))(hlen:∀{as:List Slot},(∃r,mi as=r/\∀z,r=z->z≠.bad)->as.length+1=n)(hr:ő (k+1) X.A)(hg:Gl X x)(hm:X.mg x=some (.ref<|cm C))(hb:Binds X.K fd ps [])(hx:a_ CX X E)
 (ha:PA X (e::es) (tA (kk X cm) E ms))(h2:bC X rest (tS (kk X cm) E m2))(lK:(x==("__debug__":Str))=false:=by kernel_rfl)(he:Ð (e::es) X.env=(false,eval e X.env)::Ð es X.env:=by exact Ĺ rfl)(hpl:(ÿ pos<|Ð es X.env).any (·.1)=false:=by kernel_rfl)
 (hs:Ŗ (.Call (.Name x p) (e::es) [] pos) (some<|.Name y bh) vd.line X.env=î false:=by kernel_rfl)(hf:X.fn y=true\/X.env.scope.names.lookup y=some .local:=by first|exact .inl rfl|exact .inr rfl|assumption):
 bC X (.Assign [.Name y bh] (.Call (.Name x p) (e::es) [] pos) vd::rest) (tS (kk X cm) E<|zi i C mi ms m2):=
 bC.wk (gq (tX hN hi hy (PK M F hr hg hm hb hx ha lK he hpl) hs hf) h2) λD j H ⟨c,F,U,rel,h⟩=>⟨c,F,U,rel,ϊ.bind (D:=D) h λas U1 vs F1 H1 ä s1 r1 h1=>EM (C:=C) (Q:=λv H2=>tU i v j H2<|tS (kk X cm) E m2 D) hlen ä r1 (by
  cases em:mi as with
  |bad=>rw[em]at h1;exact h1|exc y=>rw[em]at h1;exact λC' d F' H' g rx=>h1 j C' d F' H' (ä.call g) g.f rx
  |ok ns qs=>
   rw[em]at h1;intro x dx fs F' H' g q1 q2 q3 q4 q5;have r2:=(ä.call g).Qm;show tS (kk X cm) E m2 D (j.set i<|some<|.ref x) H';refine⟨Qm c,F',_,r2.Bc (i:=i) (s:=.rc C ns qs) ⟨x,dx,fs,rfl,q2,q3,ä.base.free q1,q4,q5,trivial⟩ (λb z=>by rw[<-V.ref.inj z];exact ä.lc g.f<|ä.fresh q1),?_⟩;dsimp only at h1;cases e2:m2 (U1.set i<|.rc C ns qs)with
   |bad=>rw[e2]at h1;exact h1|exc x U2=>rw[e2]at h1;exact λa C' d F2 H2 ŷ s2 q=>h1 a C' d F2 H2 ŷ.blank (g.f.trans s2) q
   |ok fl U2=>
    rw[e2]at h1;cases fl with
    |rt r=>
     cases r with
     |sh p=>exact λv a F2 H2 ŷ s2 q=>h1 v a F2 H2 ŷ.blank (g.f.trans s2) q
     |_=>exact h1.elim
    |_=>exact h1.elim)⟩
end
end P
namespace L2
open PySem PySem.Spec PyProof.Rows
section
variable{κ:Type}[DecidableEq κ]
noncomputable def Jw(aj:List (κ×V))(k:κ):Option V:=(aj.find? λkv=>decide<|kv.1=k).map (·.2)
noncomputable def JP(aj:List (κ×V))(k:κ)(v:V):List (κ×V):=
 if(aj.any λkv=>decide<|kv.1=k)=true then aj.map (λkv=>if kv.1=k then(kv.1,v)else kv)else aj++[(k,v)]
end
def Jx(H:Hp)(a:À)(y:V)(r:Option V):Prop:=
 (∃aj k,Rd H a (.dK aj)/\y=kV k/\r=Jw aj k)\/∃aj k b,Rd H a (.dT aj)/\y=.ref b/\H b=some (.tup<|k.map kV)/\r=Jw aj k
def Jy(H:Hp)(a:À)(y v:V)(H':Hp):Prop:=
 (∃aj k,H a=some (.dK aj)/\y=kV k/\aj.length<sizeLine/\H'=upd H a (.dK<|JP aj k v))\/
 ∃aj k b,H a=some (.dT aj)/\y=.ref b/\H b=some (.tup<|k.map kV)/\aj.length<sizeLine/\H'=upd H a (.dT<|JP aj k v)
theorem Jx.k{k:Key}(e:H a=some (.dK aj)):Jx H a (kV k) (Jw aj k):=.inl ⟨aj,k,.inl e,rfl,rfl⟩
def Jx.t{k:List Key}(e:H a=some (.dT aj))(eb:H b=some (.tup<|k.map kV)):Jx H a (.ref b) (Jw aj k):=.inr ⟨aj,k,b,.inl e,rfl,eb,rfl⟩
theorem Jy.k{k:Key}(e:H a=some (.dK aj))(hl:aj.length<sizeLine):Jy H a (kV k) v (upd H a<|.dK<|JP aj k v):=.inl ⟨aj,k,e,rfl,hl,rfl⟩
def Jy.t{k:List Key}(e:H a=some (.dT aj))(eb:H b=some (.tup<|k.map kV))(hl:aj.length<sizeLine):
 Jy H a (.ref b) v (upd H a<|.dT<|JP aj k v):=.inr ⟨aj,k,b,e,rfl,eb,hl,rfl⟩
end L2
namespace Rt
open PySem PySem.W PySem.Calls PyProof.Rows
end Rt
namespace L2
open PySem PySem.Spec PyProof.Rows
section
variable{κ:Type}[DecidableEq κ]
end
end L2
namespace P
open PySem PySem.Spec PyProof.Rows L2 M2 M3 M4
abbrev DS:=List<|Str×List PV
def Ĕ.MN{K:KK}(r:Ĕ K c F H b U)(e:U[i]?=some (.rc C ns ps)):∃F1,Ú F F1/\Ĕ K c F1 H b (U.set i<|.sh<|.ins C ns ps):=by
 obtain⟨a,dx,fs,h1,h2,h3,h4,h5,h6,_⟩:=r.slot i _ e;obtain⟨m1,m2⟩:=r.move (i:=i) (a:=a) ⟨_,_,e,ŀ h1,rfl⟩;have rp:Ċ K (upd F a<|.ins (K.cm C) dx fs) (.ins C ns ps) (.ref a):=by unfold Ċ;exact⟨a,dx,fs,rfl,Ā,h5,h6.same (Ú.upd h3) ps _⟩
 have q:=(m1.freeze h2 h4 h3 m2).C0 (i:=i) (s:=.sh<|.ins C ns ps) rfl (show ū K c _ H _ (.sh<|.ins C ns ps)from⟨.ref a,by rw[ŀ h1];rfl,rp⟩);rw[xk]at q;exact⟨_,Ú.upd h3,q⟩
noncomputable def DP(i:Nat)(m:M Fl):M Fl:=λU=>match U[i]?with
 |some (.rc C ns ps)=>m<|U.set i<|.sh<|.ins C ns ps|_=>.bad
set_option tactic.hygienic true in
def MO{rest:List è}(i:Nat)(h:bC X rest (tS (kk X cm) E m)):bC X rest (tS (kk X cm) E<|DP i m):=
 bC.wk h λD a H ⟨c,F,U,rel,q⟩=>by
  unfold DP at q;split at q
  ·rename_i C ns ps e;obtain⟨F1,s1,ä⟩:=rel.MN e;exact⟨c,F1,_,ä,q.mono s1⟩
  ·exact q.elim
@[simp]theorem SK{i:Nat}{m:M Fl}{U:Ĉ}:DP i m U=(match U[i]?with
  |some (.rc C ns ps)=>m<|U.set i<|.sh<|.ins C ns ps|_=>.bad):=rfl
def Jz{X:Cx}{cm:String->À}{E:ć->XK}{e:Ç}{pos:Pos}{m:M PV}(he:PE X e (VN (kk X cm) E (rV<|kk X cm) m))(hs:Ŗ e none pos.line X.env=î false:=by kernel_rfl):PS X (.Expr e pos) (tS (kk X cm) E<|qM m):=
 PS.wk (ž he hs) fun D a H ⟨c,F,U,rel,h⟩=>⟨c,F,U,rel,ϊ.bindM (f:=fun _ U1=>.ok .nx U1) (by
   revert h
   unfold qM;cases m U<;>exact id) λp U1 v F1 H1 ä s1 q h1=>h1 _ F1 H1 ä Đ⟩
open M5
def E2(st:è):List Str:=(ç st).names.filterMap λy=>match y.2 with
 |.local=>some y.1|.cell=>some y.1|_=>none
def mY(st:è):List Str:=(ŏ st).args.map (·.arg)
set_option genInjectivity false in
set_option genSizeOf false in
structure VE where
 Pg:ë
 w:â
 K:Î
 mg:Str->Option Á
 cm:String->À
abbrev Kc(V:VE)(C:String):Prop:=zu V.K<|V.cm C
abbrev Na(V:VE)(C:String)(f:Str):Prop:=fw V.K (V.cm C) f
structure Gz(mg:Str->Option Á)(x:String):Prop where
 h:mg x=none
structure Gc(V:VE)(C:String):Prop where
 h:V.mg C=some (.ref<|V.cm C)
structure Gi(mg:Str->Option Á)(x:String)(i:Int):Prop where
 ex:∃t,mg x=some (.int i t)
structure Gs(mg:Str->Option Á)(x:String)(z:Str):Prop where
 ex:∃t,mg x=some (.str z t)
structure Dn(V:VE)(x:String)(st:è)(N:List Str)(mf:MF)(k:Nat):Prop where
 ex:∃f fd,Df V.K V.mg x st (mY st) f fd
structure Dw(V:VE)(x:String)(st:è)(N:List Str)(mf:MW)(k:Nat):Prop where
 ex:∃f fd,Df V.K V.mg x st (mY st) f fd
structure Di(V:VE)(C:String)(q:Str)(st:è)(mi:MI)(k:Nat):Prop where
 ex:∃f fd,Mk V.K (V.cm C) f/\Dm V.K (V.cm C) "__init__" q st (mY st) f fd
structure Dh(V:VE)(C y:String)(q:Str)(st:è)(mf:MF)(k:Nat):Prop where
 ex:∃f fd,zw V.K (V.cm C) y f/\Dm V.K (V.cm C) y q st (mY st) f fd
structure Cl(x:String)(k:Nat)(sp:Sp)(V:VE):Prop where
 ex:∃f fd ps st,Df V.K V.mg x st ps f fd/\∀base,ϯ V.Pg V.w V.K V.mg base AJ k f fd ps sp
structure Ci(C:String)(k n:Nat)(mi:MI)(V:VE):Prop where
 ex:∃f fd ps,Mk V.K (V.cm C) f/\Binds V.K fd ps []/\∀base,ϯ V.Pg V.w V.K V.mg base AJ k f fd ps<|IL ⟨V.K,V.cm⟩ n C mi
structure Ch(y:String)(C:String)(k n:Nat)(mf:MF)(V:VE):Prop where
 ex:∃f fd ps,zw V.K (V.cm C) y f/\Binds V.K fd ps []/\∀base,ϯ V.Pg V.w V.K V.mg base AJ k f fd ps<|rj ⟨V.K,V.cm⟩ n mf
noncomputable abbrev vX(X:Cx)(cm:String->À):VE:=⟨X.prog,X.w,X.K,X.mg,cm⟩
section
variable{X:Cx}{cm:String->À}{E:ć->XK}{k j n:Nat}{mf:MF}{mr:M (List Slot)}{x:String}{C:String}{p pos vd:Pos}{e:Ç}{es:List Ç}
def ù(hr:ő j X.A)(ha:PA X (e::es) (tA (kk X cm) E mr))(F:Cl x k (rj (kk X cm) n mf) (vX X cm):=by assumption)(hlen:∀{ps:List Slot},(∃r,mf ps=r/\∀z,r=z->z≠.bad)->ps.length=n:=by exact li)(hg:Gl X x:=by kernel_rfl)(vB:k<=j:=by decide)(lK:((x:Str)==("__debug__":Str))=false:=by kernel_rfl)(he:Ð (e::es) X.env=(false,eval e X.env)::Ð es X.env:=by exact Ĺ rfl)(hpl:(ÿ pos<|Ð es X.env).any (·.1)=false:=by kernel_rfl):
 PE X (.Call (.Name x p) (e::es) [] pos) (tO (kk X cm) E<|Ü mf mr):=by
 obtain⟨_,_,_,_,D,F⟩:=F.ex;exact Jd (F _) D hr iX ha hlen hg vB lK he hpl
def MP{mf:MW}{m:Nat}(hr:ő j X.A){ns:List Nat}(ha:PA X (e::es) (NA ns))(F:Cl x k (PZ (kk X cm) m mf) (vX X cm):=by assumption)(hlen:∀{as:List Slot},mf as≠.bad->as.length=m:=by exact qA)(hg:Gl X x:=by kernel_rfl)(vB:k<=j:=by decide)(lK:((x:Str)==("__debug__":Str))=false:=by kernel_rfl)(he:Ð (e::es) X.env=(false,eval e X.env)::Ð es X.env:=by exact Ĺ rfl)(hpl:(ÿ pos<|Ð es X.env).any (·.1)=false:=by kernel_rfl)(hs:Ŗ (.Call (.Name x p) (e::es) [] pos) none vd.line X.env=î false:=by kernel_rfl):
 bC X [.Expr (.Call (.Name x p) (e::es) [] pos) vd] (tW (kk X cm) E n<|ϲ mf ns):=by
 obtain⟨_,_,_,_,D,F⟩:=F.ex;exact w_call (F _) D hr iX ha hlen hg vB lK he hpl hs
def Qn{sp:Sp}{ta:TA}(hr:ő j X.A)(ha:PA X (e::es) ta)(F:Cl x k sp (vX X cm):=by assumption)(hg:Gl X x:=by kernel_rfl)(vB:k<=j:=by decide)(lK:((x:Str)==("__debug__":Str))=false:=by kernel_rfl)(he:Ð (e::es) X.env=(false,eval e X.env)::Ð es X.env:=by exact Ĺ rfl)(hpl:(ÿ pos<|Ð es X.env).any (·.1)=false:=by kernel_rfl):
 PE X (.Call (.Name x p) (e::es) [] pos) (λa H Q=>ta a H λvs H1=>sp vs H1 Q<|E a):=by
 obtain⟨_,_,_,_,D,F⟩:=F.ex;exact Av (F _) (hr.mono vB) hg D.m D.F.kp D.b iX ha lK he hpl
def AB{mi:MI}{ms:M (List Slot)}(hr:ő j X.A)(ha:PA X (e::es) (tA (kk X cm) E ms))(F:Ci C k n mi (vX X cm):=by assumption)(hm:Gc (vX X cm) C:=by assumption)(hlen:∀{as:List Slot},(∃r,mi as=r/\∀z,r=z->z≠.bad)->as.length+1=n:=by exact v_)(hg:Gl X C:=by kernel_rfl)(vB:k+1<=j:=by decide)(lK:((C:Str)==("__debug__":Str))=false:=by kernel_rfl)(he:Ð (e::es) X.env=(false,eval e X.env)::Ð es X.env:=by exact Ĺ rfl)(hpl:(ÿ pos<|Ð es X.env).any (·.1)=false:=by kernel_rfl):
 PE X (.Call (.Name C p) (e::es) [] pos) (tV (kk X cm) E<|fJ C mi ms):=by
 obtain⟨_,_,_,M,B,F⟩:=F.ex;exact L7 M (F _) hlen (hr.mono vB) hg hm.h B iX ha lK he hpl
def Qo{y:String}(hc:zu X.K (cm C):=by assumption)(F:Ch y C k n mf (vX X cm):=by assumption)(vB:k<=j:=by decide)(hlen:∀{ps:List Slot},(∃r,mf ps=r/\∀z,r=z->z≠.bad)->ps.length=n:=by exact li):qr X cm AJ j n y C mf:=by obtain⟨_,_,_,M,B,F⟩:=F.ex;exact⟨hc,_,_,_,M,(F _).mono vB,B,hlen⟩
def VO(F:Cl C k (rj (kk X cm) n mf) (vX X cm):=by assumption)(hm:Gc (vX X cm) C:=by assumption)(vB:k<=j:=by decide)(hlen:∀{ps:List Slot},(∃r,mf ps=r/\∀z,r=z->z≠.bad)->ps.length=n:=by exact li):DN X cm AJ j n C mf:=by obtain⟨_,_,_,_,D,F⟩:=F.ex;cases D.m.symm.trans hm.h;exact⟨_,_,D.F.kp,(F _).mono vB,D.b,hlen⟩
def ao{f:Str}{cs:List String}{m:M PV}(he:PE X e (tR (kk X cm) E m))(Ng:Bn (λC=>zu X.K (cm C)/\fw X.K (cm C) f) cs:=by repeat' first|assumption|apply And.intro|exact True.intro)(hb:eN e f X.env (eval e X.env)=eval e X.env:=by kernel_rfl):PE X (.Attribute e f pos) (tV (kk X cm) E<|fA (Ś cs f) m):=O6 cs Ng he hb
def kt{i:Nat}{x f:Str}{px bh:Pos}{cs:List String}{m:M PV}(ho:PE X (.Name x px) (iS i))(he:PE X e (tV (kk X cm) E m))(Ng:Bn (λC=>zu X.K (cm C)/\fw X.K (cm C) f) cs:=by repeat' first|assumption|apply And.intro|exact True.intro)(hs:Ŗ e (some<|.Attribute (.Name x px) f bh) pos.line X.env=î false:=by kernel_rfl):
 PS X (.Assign [.Attribute (.Name x px) f bh] e pos) (tS (kk X cm) E<|fH i cs f m):=L5 cs Ng ho he hs
def VP{pl:Sem Bool}{o:Ç}{mT:Str}{aI:Pos}{ai:List (String×MF)}{m:M PV}{ms:M (List Slot)}(hr:ő k X.A)(he:PE X o (tV (kk X cm) E m))(ha:PA X (e::es) (tA (kk X cm) E ms))(nU:ut (λC mf=>qr X cm AJ k n mT C mf) ai:=by repeat' first|exact Qo|apply And.intro|exact True.intro)
 (jN:Ð (e::es) X.env=(false,eval e X.env)::Ð es X.env:=by exact Ĺ rfl)(hpl:(ÿ pos<|Ð es X.env).any (·.1)=false:=by kernel_rfl)
 (ht:eval (.Call (.Attribute o mT aI) (e::es) [] pos) X.env=(do
   let ov<-eval o X.env
   de aI.atName
   let (f,first)<-ϖ [ov] (ib ov mT pl)
   eO pos f first (ÿ pos<|Ð (e::es) X.env) (aR pos<|aS [] X.env)):=by rfl):
 PE X (.Call (.Attribute o mT aI) (e::es) [] pos) (tO (kk X cm) E<|kH mT ai m ms):=L4 nU hr iX he ha jN hpl ht
def Qp{pl:Sem Bool}{o:Ç}{mT:Str}{aI:Pos}{ai:List (String×MF)}{m:M PV}(hr:ő k X.A)(he:PE X o (tV (kk X cm) E m))(nU:ut (λC mf=>qr X cm AJ k n mT C mf) ai:=by repeat' first|exact Qo|apply And.intro|exact True.intro)
 (ht:eval (.Call (.Attribute o mT aI) [] [] pos) X.env=(do
   let ov<-eval o X.env
   de aI.atName
   let (f,first)<-ϖ [ov] (ib ov mT pl)
   eO pos f first (ÿ pos<|Ð [] X.env) (aR pos<|aS [] X.env)):=by rfl):
 PE X (.Call (.Attribute o mT aI) [] [] pos) (tO (kk X cm) E<|kH mT ai m Ö):=IK nU hr iX he ht
def VQ{o:Ç}{ai:List (String×MF)}{m:M PV}{ms:M (List Slot)}(hr:ő k X.A)(he:PE X o (tV (kk X cm) E m))(ha:PA X (e::es) (tA (kk X cm) E ms))(nU:ut (λC mf=>DN X cm AJ k n C mf) ai:=by repeat' first|exact VO|apply And.intro|exact True.intro)
 (jN:Ð (e::es) X.env=(false,eval e X.env)::Ð es X.env:=by exact Ĺ rfl)(hpl:(ÿ pos<|Ð es X.env).any (·.1)=false:=by kernel_rfl)
 (ht:eval (.Call o (e::es) [] pos) X.env=(do eO pos (<-eval o X.env) [] (ÿ pos<|Ð (e::es) X.env) (aR pos<|aS [] X.env)):=by rfl):
 PE X (.Call o (e::es) [] pos) (tO (kk X cm) E<|Js ai m ms):=Qg nU hr iX he ha jN hpl ht
def nY{i:Int}(h:Gi X.mg x i:=by assumption)(hg:Gl X x:=by kernel_rfl)(hd:((x:Str)==("__debug__":Str))=false:=by kernel_rfl):PE X (.Name x pos) (tV (kk X cm) E<|mC<|.int i):=by obtain⟨t,h⟩:=h.ex;exact F_ _<|yn (v:=.int i) hg h ⟨_,rfl⟩ hd
def Qq{z:Str}(h:Gs X.mg x z:=by assumption)(hg:Gl X x:=by kernel_rfl)(hd:((x:Str)==("__debug__":Str))=false:=by kernel_rfl):PE X (.Name x pos) (tV (kk X cm) E<|mC<|.str z):=by obtain⟨t,h⟩:=h.ex;exact F_ _<|yn (v:=.str z) hg h ⟨_,rfl⟩ hd
def Qr(h:Gc (vX X cm) x:=by assumption)(hg:Gl X x:=by kernel_rfl)(hd:((x:Str)==("__debug__":Str))=false:=by kernel_rfl):PE X (.Name x pos) (tV (kk X cm) E<|mC<|.cls x):=
 F_ _ (yn (v:=.ref<|cm x) hg h.h rfl hd)
def gz(h:Gz X.mg x:=by assumption):X.mg x=none:=h.h
end
section
variable{V:VE}{x:String}{q:Str}{st:è}{N:List Str}{k n j:Nat}{mb:M Fl}{mf:MF}{G:Prop}{C y:String}
set_option genInjectivity false in
set_option genSizeOf false in
structure HZ where
 f:À
 base:Ò
 cdv:Á
 A:ê
 outer:List Env
 s:Ã
 H:Hp
 E:XK
abbrev HB(V:VE)(q:Str)(st:è)(N:List Str)(k:Nat)(t:XK->TS):Prop:=ĸ N (mY st) (ç st)->∀z:HZ,ő k (z.A.deeper<|ŕ q (ç st) z.s.heap.objs.size z.f z.cdv)->(z.A.deeper<|ŕ q (ç st) z.s.heap.objs.size z.f z.cdv).units+64<ż->
 bC (nK AJ V.Pg V.w V.K V.mg z.base N q (ç st) z.f z.cdv z.A z.outer z.s z.H z.E) (ğ st) (t z.E)
def ϳ(D:Dn V x st N mf k)(hf:mf=Č n j mb)(hb:HB V x st N k λE=>tS ⟨V.K,V.cm⟩ (λy=>E) mb)(hg:Cl x (k+1) (rj ⟨V.K,V.cm⟩ n mf) V->G)(hn:(mY st).length=n:=by rfl)(hj:N.length=j:=by rfl)(S:ĸ N (mY st) (ç st):=by exact Kf):G:=by obtain⟨f,fd,D⟩:=D.ex;exact hg ⟨f,fd,_,st,D,λbase=>Mt D.F S (λcdv A outer s H E=>hb S ⟨f,base,cdv,A,outer,s,H,E⟩) hn hj hf⟩
def SM{mf:MW}{mb:M WR}(D:Dw V x st N mf k)(hf:mf=gC n j mb)(hb:HB V x st N k λE=>tW ⟨V.K,V.cm⟩ (λy=>E) (mY st).length mb)(hg:Cl x (k+1) (PZ ⟨V.K,V.cm⟩ n mf) V->G)(hn:(mY st).length=n:=by rfl)(hj:N.length=j:=by rfl)(S:ĸ N (mY st) (ç st):=by exact Kf):G:=by obtain⟨f,fd,D⟩:=D.ex;exact hg ⟨f,fd,_,st,D,λbase=>fnW D.F S (λcdv A outer s H E=>hb S ⟨f,base,cdv,A,outer,s,H,E⟩) hn hj hf⟩
def stI{mi:MI}(D:Di V C q st mi k)(hf:mi=dE n n C mb)(hb:HB V q st (mY st) k λE=>tS ⟨V.K,V.cm⟩ (λx=>E) mb)(hg:Ci C (k+1) n mi V->G)(hn:(mY st).length=n:=by rfl)(S:ĸ (mY st) (mY st) (ç st):=by exact Kf):G:=by obtain⟨f,fd,M,D⟩:=D.ex;exact hg ⟨f,fd,_,M,D.b,λbase=>fnI D.F S hn hn hf λcdv A outer s H E hr=>hb S ⟨f,base,cdv,A,outer,s,H,E⟩ hr hr.units⟩
def stH(D:Dh V C y q st mf k)(hf:mf=Č n j mb)(hb:HB V q st (E2 st) k λE=>tS ⟨V.K,V.cm⟩ (λx=>E) mb)(hg:Ch y C (k+1) n mf V->G)(hn:(mY st).length=n:=by rfl)(hj:(E2 st).length=j:=by rfl)(S:ĸ (E2 st) (mY st) (ç st):=by exact Kf):G:=by obtain⟨f,fd,M,D⟩:=D.ex;exact hg ⟨f,fd,_,M,D.b,λbase=>Mt D.F S (λcdv A outer s H E=>hb S ⟨f,base,cdv,A,outer,s,H,E⟩) hn hj hf⟩
abbrev Qs(V:VE)(fa:À)(z:Str)(k:Nat)(mf:MF):Prop:=∃fd:Ć,(∀(s:Ã) (v:Á),fV s fd ⟨[v],[]⟩ [(z,v)])/\∀base:Ò,V.K.In base->base.Ns ē V.mg->∃cm,ϯ V.Pg V.w V.K V.mg base AJ k fa fd [z] (rj ⟨V.K,cm⟩ 1 mf)
def stL{fa:À}{z:Str}(D:Dn V x st N mf k)(hf:mf=Č 1 j mb)(hb:HB V x st N k λE=>tS ⟨V.K,V.cm⟩ (λy=>E) mb)(hm:V.mg x=some (.ref fa):=by assumption)(hn:mY st=[z]:=by rfl)(hj:N.length=j:=by rfl)(S:ĸ N (mY st) (ç st):=by exact Kf):
 Qs V fa z (k+1) mf:=by
 obtain⟨f,fd,D⟩:=D.ex;cases D.m.symm.trans hm;have B:=D.bb;have Q:=λbase=>Mt D.F S (λcdv A outer s H E=>hb S ⟨_,base,cdv,A,outer,s,H,E⟩) (by rw[hn];rfl) hj hf;rw[hn]at B Q;exact⟨fd,λs v=>B s [v] rfl,λbase y y=>⟨_,Q base⟩⟩
end
noncomputable def uN(K:Î)(x:Str):À:=match aW K ē x with
 |some (some<|.ref a)=>a|_=>0
def cmK(K:Î)(s:String):À:=uN K s
noncomputable def wA(K:Î)(C:À)(y:Str):À:=match ů K (.ref C) y with
 |some (some<|.ref a)=>a|_=>0
noncomputable def BF(K:Î)(f:À):Option Ć:=match K.lookup f with
 |some ⟨_,_,.func fd,_⟩=>some fd|_=>none
def Ko(K:Î)(f:À)(x q:Str)(st:è):Ć:=
 let d:=(BF K f).getD ô
 ŉ x q (ŏ st) (ğ st) (ç st) .none d.kwdefaults d.doc d.pyModule d.annotations d.code d.closureTuple
def zj{K:Î}(h:BF K f=some fd):∃oc od sl,K.lookup f=some ⟨oc,od,.func fd,sl⟩:=by
 unfold BF at h;split at h
 ·cases h;exact⟨_,_,_,by assumption⟩
 ·cases h
def EN(K:Î)(f:À)(q:Str):Bool:=fY K ((BF K f).getD ô).code q&&ϫ K (.ref f)
section
variable{V:VE}{h:Ò}{x C y:String}{st:è}{k:Nat}{q:Str}
abbrev Kp(x q:Str)(st:è):Prop:=∀(kV dc pm:Á) (an:Option À) (cd ct:Á),BN (mY st).length λus=>dh (ŉ x q (ŏ st) (ğ st) (ç st) .none kV dc pm an cd ct) ⟨us,[]⟩=î ((mY st).zip us)
def VR(KX:V.K.In h)(G:h.Ns ē V.mg)(e:aW V.K ē x=some none):Gz V.mg x:=⟨PySem.W.mg_none_of KX G e⟩
def VS(KX:V.K.In h)(G:h.Ns ē V.mg)(e:aW V.K ē C=some (some<|.ref<|V.cm C)):Gc V C:=⟨oV KX G e⟩
noncomputable def Yz(K:Î)(x:Str):Tok:=match aW K ē x with
 |some (some<|.int _ t)=>t|some (some<|.str _ t)=>t|_=>0
def VT(KX:V.K.In h)(G:h.Ns ē V.mg)(e:aW V.K ē x=some (some<|.int i<|Yz V.K x)):Gi V.mg x i:=⟨_,oV KX G e⟩
def VU(KX:V.K.In h)(G:h.Ns ē V.mg)(e:aW V.K ē x=some (some<|.str z<|Yz V.K x)):Gs V.mg x z:=⟨_,oV KX G e⟩
def Qt(KX:V.K.In h)(G:h.Ns ē V.mg)(hb:Kp x x st)(a:aW V.K ē x=some (some<|.ref<|uN V.K x))(l:BF V.K (uN V.K x)=some (Ko V.K (uN V.K x) x x st))(c:EN V.K (uN V.K x) x=true):∃f fd,Df V.K V.mg x st (mY st) f fd:=by have c':=c;unfold EN at c';rw[l,ă]at c';obtain⟨_,_,_,l⟩:=zj l;exact⟨_,_,Ke KX G hb a l c'.1 c'.2⟩
def VV(KX:V.K.In h)(G:h.Ns ē V.mg)(hb:Kp x x st)(a:aW V.K ē x=some (some<|.ref<|uN V.K x))(l:BF V.K (uN V.K x)=some (Ko V.K (uN V.K x) x x st))(c:EN V.K (uN V.K x) x=true):Dn V x st N mf k:=⟨Qt KX G hb a l c⟩
def VW(KX:V.K.In h)(G:h.Ns ē V.mg)(hb:Kp x x st)(a:aW V.K ē x=some (some<|.ref<|uN V.K x))(l:BF V.K (uN V.K x)=some (Ko V.K (uN V.K x) x x st))(c:EN V.K (uN V.K x) x=true):Dw V x st N mf k:=⟨Qt KX G hb a l c⟩
def MQ{K:Î}{y q:Str}(hb:Kp y q st)(a:ů K (.ref c) y=some (some<|.ref<|wA K c y))(l:BF K (wA K c y)=some (Ko K (wA K c y) y q st))(b:EN K (wA K c y) q=true):∃fd,Dm K c y q st (mY st) (wA K c y) fd:=by have c':=b;unfold EN at c';rw[l,ă]at c';obtain⟨_,_,_,l⟩:=zj l;exact⟨_,Pz hb a l c'.1 c'.2⟩
def VX(hb:Kp "__init__" q st)(m:Vb V.K (V.cm C) (wA V.K (V.cm C) "__init__")=true)(a:ů V.K (.ref<|V.cm C) "__init__"=some (some<|.ref<|wA V.K (V.cm C) "__init__"))(l:BF V.K (wA V.K (V.cm C) "__init__")=some (Ko V.K (wA V.K (V.cm C) "__init__") "__init__" q st))(b:EN V.K (wA V.K (V.cm C) "__init__") q=true):Di V C q st mi k:=by obtain⟨_,d⟩:=MQ hb a l b;exact⟨_,_,Pd m,d⟩
def VY(hb:Kp y q st)(m:Dt V.K (V.cm C) y (wA V.K (V.cm C) y)=true)(a:ů V.K (.ref<|V.cm C) y=some (some<|.ref<|wA V.K (V.cm C) y))(l:BF V.K (wA V.K (V.cm C) y)=some (Ko V.K (wA V.K (V.cm C) y) y q st))(b:EN V.K (wA V.K (V.cm C) y) q=true):Dh V C y q st mf k:=by obtain⟨_,d⟩:=MQ hb a l b;exact⟨_,_,Du m,d⟩
noncomputable def uO:List ik->List (Str×Tok)
 |[]=>[]|e::r=>match e.key with
  |.str x t=>(x,t)::uO r|_=>uO r
theorem wB:∀l:List ik,(uO l).length<=l.length
 |[]=>ö _|e::r=>by
  have:=wB r;unfold uO;split
  ·exact Nat.succ_le_succ this
  ·exact Nat.le_succ_of_le this
set_option tactic.hygienic true in
theorem DQ:∀{l:List ik},(l.map λe=>(e.key,e.hash))=((uO l).map λx=>(mK x.1 x.2,PyData.keyHash P x.1))->PySem.W.KeysLit P l
 |[],_=>True.intro|e::r,h=>by
  unfold uO at h;split at h
  ·rename_i x t e1;rw[à,à]at h;obtain⟨h1,h2⟩:=List.cons.inj h;exact⟨⟨x,t,e1,congrArg (·.2) h1⟩,DQ h2⟩
  ·have:=congrArg cq h;simp at this;have:=wB r;lia
noncomputable def Qu(K:Î)(a:À):Array ik×Nat:=match K.lookup a with
 |some ⟨_,_,.dict es n,_⟩=>(es,n)|_=>(#[],0)
def MS{K:Î}(h1:K.lookup a=some ⟨.type "dict",none,.dict (Qu K a).1 (Qu K a).2,#[]⟩)(h2:((Qu K a).1.toList.map λe=>(e.key,e.hash))=((uO (Qu K a).1.toList).map λx=>(mK x.1 x.2,PyData.keyHash pm x.1)))(h3:EK K cm ai (Qu K a).1.toList=true)(h4:(a==oC)=false):zg K cm pm a ai:=⟨_,_,h1,DQ h2,h3,h4⟩
end
structure Dq(V:VE)(C y:String)(q:Str)(st:è)(mm:MM)(k:Nat):Prop where
 ex:∃f fd,zw V.K (V.cm C) y f/\Dm V.K (V.cm C) y q st (mY st) f fd
structure Cq(y:String)(C:String)(k:Nat)(mm:MM)(V:VE):Prop where
 ex:∃f fd ps,zw V.K (V.cm C) y f/\Binds V.K fd ps []/\∀base,ϯ V.Pg V.w V.K V.mg base AJ k f fd ps<|Qj ⟨V.K,V.cm⟩ C mm
section
variable{V:VE}{q:Str}{st:è}{k n j:Nat}{mb:M Fl}{mm:MM}{G:Prop}{C y:String}
def stM(D:Dq V C y q st mm k)(hf:mm=uK n j C mb)(hb:HB V q st (E2 st) k λE=>tS ⟨V.K,V.cm⟩ (λx=>E) mb)(hg:Cq y C (k+1) mm V->G)(hn:(mY st).length=n:=by rfl)(hj:(E2 st).length=j:=by rfl)(hle:n<=j:=by decide)(hC:C≠"":=by decide)(S:ĸ (E2 st) (mY st) (ç st):=by exact Kf):G:=by obtain⟨f,fd,M,D⟩:=D.ex;exact hg ⟨f,fd,_,M,D.b,λbase=>fnM D.F S (λcdv A outer s H E=>hb S ⟨f,base,cdv,A,outer,s,H,E⟩) hn hj hf hle hC⟩
def VZ(hb:Kp y q st)(m:Dt V.K (V.cm C) y (wA V.K (V.cm C) y)=true)(a:ů V.K (.ref<|V.cm C) y=some (some<|.ref<|wA V.K (V.cm C) y))(l:BF V.K (wA V.K (V.cm C) y)=some (Ko V.K (wA V.K (V.cm C) y) y q st))(b:EN V.K (wA V.K (V.cm C) y) q=true):Dq V C y q st mm k:=by obtain⟨_,d⟩:=MQ hb a l b;exact⟨_,_,Du m,d⟩
end
section
variable{X:Cx}{cm:String->À}{E:ć->XK}{k j n:Nat}{C:String}{p pos vd bh:Pos}{e:Ç}{es:List Ç}{mm:MM}
def V_{mi:MI}{ms:M (List Slot)}{m2:M Fl}{i:Nat}{y:Str}{rest:List è}{ps:List Str}(S:ĸ X.N ps X.env.scope)(hr:ő j X.A)(hi:X.N[i]?=some y)(ha:PA X (e::es) (tA (kk X cm) E ms))(h2:bC X rest (tS (kk X cm) E m2))(hy:Loc X.env.scope y:=by exact tK<|by kernel_rfl)(F:Ci C k n mi (vX X cm):=by assumption)(hm:Gc (vX X cm) C:=by assumption)(hlen:∀{as:List Slot},(∃r,mi as=r/\∀z,r=z->z≠.bad)->as.length+1=n:=by exact v_)(hg:Gl X C:=by kernel_rfl)(vB:k+1<=j:=by decide)(lK:((C:Str)==("__debug__":Str))=false:=by kernel_rfl)(he:Ð (e::es) X.env=(false,eval e X.env)::Ð es X.env:=by exact Ĺ rfl)(hpl:(ÿ pos<|Ð es X.env).any (·.1)=false:=by kernel_rfl)
 (hs:Ŗ (.Call (.Name C p) (e::es) [] pos) (some<|.Name y bh) vd.line X.env=î false:=by kernel_rfl)(hf:X.fn y=true\/X.env.scope.names.lookup y=some .local:=by first|exact .inl rfl|exact .inr rfl|assumption):
 bC X (.Assign [.Name y bh] (.Call (.Name C p) (e::es) [] pos) vd::rest) (tS (kk X cm) E<|zi i C mi ms m2):=by
 obtain⟨_,_,_,M,B,F⟩:=F.ex;exact Jv S.nd hi hy M (F _) hlen (hr.mono vB) hg hm.h B iX ha h2 lK he hpl hs hf
def V0{pl:Sem Bool}{aI py:Pos}{z:Str}{y:String}{mr:M (List PV)}(i:Nat)(hr:ő j X.A)(ho:PE X (.Name z py) (iS i))(ha:PA X (e::es) (tL (kk X cm) E mr))(hc:zu X.K (cm C):=by assumption)(F:Cq y C k mm (vX X cm):=by assumption)(vB:k<=j:=by decide)
 (jN:Ð (e::es) X.env=(false,eval e X.env)::Ð es X.env:=by exact Ĺ rfl)(hpl:(ÿ pos<|Ð es X.env).any (·.1)=false:=by kernel_rfl)
 (ht:eval (.Call (.Attribute (.Name z py) y aI) (e::es) [] pos) X.env=(do
   let ov<-eval (.Name z py) X.env
   de aI.atName
   let (f,first)<-ϖ [ov] (ib ov y pl)
   eO pos f first (ÿ pos<|Ð (e::es) X.env) (aR pos<|aS [] X.env)):=by rfl):
 PE X (.Call (.Attribute (.Name z py) y aI) (e::es) [] pos) (VN (kk X cm) E (rV<|kk X cm)<|zh i C y mm mr):=by
 obtain⟨_,_,_,M,B,F⟩:=F.ex;exact Ju i hc M (F _) B (hr.mono vB) iX ho ha jN hpl ht
end
structure Dl(V:VE)(x:String)(st:è)(mf:MF)(k:Nat):Prop where
 ex:∃f fd,Df V.K V.mg x st (mY st) f fd/\GQ V.K x f=true
structure De(V:VE)(x:String)(st:è)(N:List Str)(v:Int)(mf:MF)(k:Nat):Prop where
 ex:∃f fd,Dd V.K V.mg x st (mY st) v f fd
structure Ce(x:String)(k:Nat)(sp:Sp)(V:VE):Prop where
 ex:∃f fd ps st v,Dd V.K V.mg x st ps v f fd/\∀base,ϯ V.Pg V.w V.K V.mg base AJ k f fd ps sp
section
variable{V:VE}{x:String}{st:è}{k n j:Nat}{mb:M Fl}{mf:MF}{G:Prop}{v:Int}
def stl(D:Dl V x st mf k)(hf:mf=Č n j mb)(hb:ĸ (E2 st) (mY st) (ç st)->∀(z:HZ) (c Pt:À),Ũ V.K x=some (c,Pt)->ő k (z.A.deeper<|ŕ x (ç st) z.s.heap.objs.size z.f<|.ref c)->
 bC (nK AJ V.Pg V.w V.K V.mg z.base (E2 st) x (ç st) z.f (.ref c) z.A z.outer z.s z.H z.E) (ğ st) (tS ⟨V.K,V.cm⟩ (λy=>z.E) mb))(hg:Cl x (k+1) (rj ⟨V.K,V.cm⟩ n mf) V->G)(hn:(mY st).length=n:=by rfl)(hj:(E2 st).length=j:=by rfl)(S:ĸ (E2 st) (mY st) (ç st):=by exact Kf):G:=by
 obtain⟨f,fd,D,t⟩:=D.ex;exact hg ⟨f,fd,_,st,D,λbase=>Vu D.F S hn hj hf t λc Pt ht A outer s H E hr=>hb S ⟨f,base,.none,A,outer,s,H,E⟩ c Pt ht hr⟩
def stD{N:List Str}(D:De V x st N v mf k)(hf:mf=Č n j mb)(hb:HB V x st N k λE=>tS ⟨V.K,V.cm⟩ (λy=>E) mb)(hg:Ce x (k+1) (rj ⟨V.K,V.cm⟩ n mf) V->G)(hn:(mY st).length=n:=by rfl)(hj:N.length=j:=by rfl)(S:ĸ N (mY st) (ç st):=by exact Kf):G:=by obtain⟨f,fd,D⟩:=D.ex;exact hg ⟨f,fd,_,st,v,D,λbase=>Vv D.F S hn hj hf λcdv A outer s H E hr=>hb S ⟨f,base,cdv,A,outer,s,H,E⟩ hr hr.units⟩
end
section
variable{X:Cx}{cm:String->À}{E:ć->XK}{k j n:Nat}{mf:MF}{mr:M (List Slot)}{x:String}{p pos:Pos}{e:Ç}{es:List Ç}
def V1(hr:ő j X.A)(ha:PA X (e::es) (tA (kk X cm) E mr))(F:Ce x k (rj (kk X cm) n mf) (vX X cm):=by assumption)(hlen:∀{ps:List Slot},(∃r,mf ps=r/\∀z,r=z->z≠.bad)->ps.length=n:=by exact li)(hg:Gl X x:=by kernel_rfl)(vB:k<=j:=by decide)(lK:((x:Str)==("__debug__":Str))=false:=by kernel_rfl)(he:Ð (e::es) X.env=(false,eval e X.env)::Ð es X.env:=by exact Ĺ rfl)(hpl:(ÿ pos<|Ð es X.env).any (·.1)=false:=by kernel_rfl):
 PE X (.Call (.Name x p) (e::es) [] pos) (tO (kk X cm) E<|Ü mf mr):=by
 obtain⟨_,_,_,_,_,D,F⟩:=F.ex;exact Ga (F _) hlen (hr.mono vB) hg D.m D.F.kp D.b iX ha lK he hpl
end
section
variable{V:VE}{h:Ò}{x:String}{st:è}{k:Nat}{mf:MF}{v:Int}
def V2(KX:V.K.In h)(G:h.Ns ē V.mg)(hb:Kp x x st)(t:GQ V.K x (uN V.K x)=true)(l:BF V.K (uN V.K x)=some (Ko V.K (uN V.K x) x x st))(c:EN V.K (uN V.K x) x=true):Dl V x st mf k:=by have c':=c;have a:=t;unfold GQ at a;simp only[ă,beq_iff_eq]at a;unfold EN at c';rw[l,ă]at c';obtain⟨_,_,_,l⟩:=zj l;exact⟨_,_,Ke KX G hb a.1 l c'.1 c'.2,t⟩
def V3(K:Î)(f:À):À:=match((BF K f).getD ô).defaults with
 |.ref a=>a|_=>0
def fdH(K:Î)(f:À)(x q:Str)(st:è):Ć:=
 let d:=(BF K f).getD ô
 ŉ x q (ŏ st) (ğ st) (ç st) (.ref<|V3 K f) d.kwdefaults d.doc d.pyModule d.annotations d.code d.closureTuple
noncomputable def YA(K:Î)(f:À):Option (Array Á):=match K.lookup f with
 |some ⟨_,_,.seq xs _,_⟩=>some xs|_=>none
noncomputable def dkK(K:Î)(f:À):Tok:=match K.lookup f with
 |some ⟨_,_,.seq xs _,_⟩=>(match xs.toList with
  |[mJ _ t]=>t|_=>0)
 |_=>0
abbrev HBd(x:Str)(st:è)(v:Int):Prop:=∀(T:À) (dk:Tok) (kV dc pm:Á) (an:Option À) (cd ct:Á),BN (mY st).length λus=>∃k:Option (Array Á)->Sem (List<|Str×Á),dh (ŉ x x (ŏ st) (ğ st) (ç st) (.ref T) kV dc pm an cd ct) ⟨us,[]⟩=im (.ref T)>>=k/\k (some #[.int v dk])=î ((mY st).zip us)
def V4(KX:V.K.In h)(G:h.Ns ē V.mg)(hb:HBd x st v)(a:aW V.K ē x=some (some<|.ref<|uN V.K x))(l:BF V.K (uN V.K x)=some (fdH V.K (uN V.K x) x x st))(d:YA V.K (V3 V.K<|uN V.K x)=some #[.int v<|dkK V.K<|V3 V.K<|uN V.K x])(c:EN V.K (uN V.K x) x=true):De V x st N v mf k:=by
 have c':=c;unfold EN at c';rw[l,ă]at c';obtain⟨_,_,_,l⟩:=zj l;unfold YA at d;split at d
 ·cases d;exact⟨_,_,PC KX G (hb _) a l (by assumption) c'.1 c'.2⟩
 ·cases d
end
end P
namespace My
noncomputable def gd(a b:Int):Int:=((Int.gcd a b:Nat):Int)
def Z3m(a b:Int):gd b (Int.fmod a b)=gd a b:=by unfold gd;rw[Int.fmod_def,Int.gcd_sub_mul_left_right,Int.gcd_comm]
def Z3n(a:Int)(h:b≠0):(Int.fmod a b).natAbs<b.natAbs:=by
 rcases(by lia:0<b\/b<0)with h|h
 ·have h1:=BU a h;have h2:=Int.fmod_lt_of_pos a h;lia
 ·have e:=Int.neg_fmod_neg a b;have h1:=BU (-a) (show 0< -b by lia);have h2:=Int.fmod_lt_of_pos (-a) (show 0< -b by lia);lia
def Z3o(a:Int):gd a 0=if a<0then -a else a:=by unfold gd;rw[Int.gcd_zero];split<;>lia
def Z3X(a:Int)(h:b≠0):0<gd a b:=by have:=Int.gcd_ne_zero_right (a:=a) h;unfold gd;lia
def Z1Z(a b:Int):0<=gd a b:=by unfold gd;lia
def Z4E(a:Int)(h:b≠0):gd a b<=b.natAbs:=by unfold gd;have:=Int.gcd_dvd_natAbs_right a b;have:=Nat.le_of_dvd (by lia) this;lia
def dv(t b:Int):Int:=if b<0then-gd t b else gd t b
end My
namespace Hu
abbrev Pt:=Int×Int
noncomputable def tn(a b c:Pt):Int:=(b.1-a.1)*(c.2-a.2)-(b.2-a.2)*(c.1-a.1)
abbrev Ln:=Int×Int×Int
noncomputable def hd(l:Ln)(p:Pt):Bool:=decide<|l.1*p.1+l.2.1*p.2<=l.2.2
def Z6(a b:Pt):Ln:=(b.2-a.2,a.1-b.1,(b.2-a.2)*a.1+(a.1-b.1)*a.2)
def YB:hd (Z6 a b) s=true↔0<=tn a b s:=by
 unfold hd Z6;rw[decide_eq_true_iff];have e:tn a b s=((b.2-a.2)*a.1+(a.1-b.1)*a.2)-((b.2-a.2)*s.1+(a.1-b.1)*s.2):=by simp only[tn];grind
 dsimp only;lia
def Z5(S:List Pt):List Pt:=S.foldl (λk x=>if x∈k then k else k++[x]) []
theorem YC(x:Pt):∀(S k:List Pt),x∈S.foldl (λk x=>if x∈k then k else k++[x]) k↔x∈k\/x∈S
 |[],k=>by simp|y::S,k=>by
  rw[eD,YC x S];by_cases h:y∈k
  ·rw[if_pos h];constructor
   ·rintro (q|q)
    ·exact .inl q
    ·exact .inr<|þ _ q
   ·rintro (q|q)
    ·exact .inl q
    ·rcases û.mp q with e|e
     ·exact .inl<|e▸h
     ·exact .inr e
  ·rw[if_neg h];simp only[ź,û,cw,or_false];constructor
   ·rintro ((q|q)|q)
    ·exact .inl q
    ·exact .inr<|.inl q
    ·exact .inr<|.inr q
   ·rintro (q|q|q)
    ·exact .inl<|.inl q
    ·exact .inl<|.inr q
    ·exact .inr q
def Ze:x∈Z5 S↔x∈S:=by unfold Z5;rw[YC];simp
def ZG(S:List Pt):List Ln:=(Z5 S).flatMap λa=>(Z5 S).filterMap λb=>if a≠b/\(Z5 S).all (hd<|Z6 a b)then some (Z6 a b)else none
def Z20:l∈ZG S↔∃a∈S,∃b∈S,a≠b/\(∀s∈S,0<=tn a b s)/\l=Z6 a b:=by
 unfold ZG;simp only[List.mem_flatMap,w_];constructor
 ·rintro ⟨a,ha,b,hb,h⟩;split at h
  ·rename_i hc;refine⟨a,Ze.mp ha,b,Ze.mp hb,hc.1,λs hs=>?_,(ı h).symm⟩;exact YB.mp<|c_.mp hc.2 s<|Ze.mpr hs
  ·cases h
 ·rintro ⟨a,ha,b,hb,h1,h2,rfl⟩;refine⟨a,Ze.mpr ha,b,Ze.mpr hb,?_⟩;rw[if_pos ⟨h1,c_.mpr λs hs=>YB.mpr<|h2 s<|Ze.mp hs⟩]
noncomputable def mx(l:List Int):Int:=l.tail.foldl max<|l.headD 0
noncomputable def mn(l:List Int):Int:=l.tail.foldl min<|l.headD 0
def box(S:List Pt):List Ln:=[(1,0,mx<|S.map (·.1)),(-1,0,-mn (S.map (·.1))),(0,1,mx<|S.map (·.2)),(0,-1,-mn (S.map (·.2)))]
def Zv(S:List Pt):List Ln:=box S++ZG S
def ZD(S:List Pt)(p:Pt):Option Ln:=(Zv S).find? λl=>!hd l p
def NB(a b c p:Pt):List Int:=[tn p b c,tn a p c,tn a b p]
noncomputable def NC(a b p:Pt):List Int:=
 let g:=(b.1-a.1)*(p.1-a.1)+(b.2-a.2)*(p.2-a.2)
 [(b.1-a.1)*(b.1-a.1)+(b.2-a.2)*(b.2-a.2)-g,g]
noncomputable def at_(S:List Pt)(i:Nat):Pt:=S.getD i (0,0)
def Z3Y(h:i<S.length):at_ S i∈S:=by unfold at_;rw[fP,œ h];exact ϒ h
structure Z54(S:List Pt)(p:Pt)(w:List Int)(q:List Nat):Prop where
 len:w.length=q.length
 sum:w.sum≠0
 sign:∀s∈w,0<=s*w.sum
 nd:q.Nodup
 lt:∀i∈q,i<S.length
 x:((w.zip q).map λa=>a.1*(at_ S a.2).1).sum=w.sum*p.1
 y:((w.zip q).map λa=>a.1*(at_ S a.2).2).sum=w.sum*p.2
end Hu
namespace Fr
end Fr
namespace T
open PySem L2 M2 M3 M4 P
noncomputable section
def top(i:Nat):è:=PySem.Challenge.pw_shadowpost_k85_whole_wants_kept_dark.main.body.getD i<|.Pass ⟨0,0,0,0⟩
def ZK:List (Str×PV):=[("show",.tup [.int 0,.int 0,.cls "answer_show"]),("dark",.tup [.int 1,.int 1,.cls "answer_dark"]),("who",.tup [.int 1,.int 3,.cls "answer_who"]),("lit",.tup [.int 1,.int 2,.cls "answer_lit"]),("hours",.tup [.int 0,.int 2,.cls "answer_hours"]),("first",.tup [.int 0,.int 2,.cls "answer_first"]),("walk",.tup [.int 1,.int 4,.cls "answer_walk"]),("dial",.tup [.int 0,.int 3,.cls "answer_dial"])]
def pP:M Fl:=(ý<|Ŋ<|aG Bk<|É (Â 2) æ)
def ku:M Fl:=(å (cW (ϱ<|Ý<|tu (Â 0) (mP<|ì 1)<|mP<|Ý<|ċ Ă (Â 1)<|Æ 1) (gN 2) pP)
 (ý<|Ŋ<|Æ 0))
def ņ:MF:=Č 2 3 ku
def lx:M Fl:=(ý<|Ŋ<|IU jt (mC<|.str " ")<|É (Ý<|Ħ [] 1 (Ķ 0) (gN 0) ė (aG jy<|É (Â 0) æ)) æ)
def ġ:MF:=Č 1 1 lx
def Ū:M Fl:=(aZ (Ϻ<|Ë pB (Â 8)<|mC .non)
 (ug 4<|mC<|.str "night")
 (ug 4<|Ý<|Ü ġ<|Þ (Ý<|ċ Ă (Ý<|cH<|É (mC<|.str "ray") æ)<|Ý<|rh iE<|É (Â 8) æ) Ö))
def be:M Fl:=(å (ug 4<|Ý<|Ü ġ<|Þ (Ý<|cH<|É (mC<|.str "day")<|É (ì 5)<|É (ì 6) æ) Ö)
 (cW (Ķ 7) (gN 8) Ū))
def iH:M Fl:=(å (ĉ 4<|ċ Ă (Ý<|cH<|É (Ý<|Ü ġ<|Þ (Ý<|cH<|É (mC<|.str "yard")<|É (ì 0)<|É (ì 1) æ) Ö) æ)<|Ý<|Ħ [] 1 (Ķ 2) (gN 0) ė (Ý<|Ü ġ<|È 0 Ö))
 (å (cW (Ķ 3) (gT 3<|ï (gN 5)<|ï (gN 6)<|ï (gN 7) ř) be)
 (ý<|Ŋ<|IU jt (mC<|.str "\n")<|É (Â 4) æ)))
def bN:MF:=Č 4 9 iH
def pQ:M Fl:=(ý<|Ŋ<|gW (nk fi lm (Æ 0) (Ë ã (Â 1)<|Æ 0)<|fA (Ś ["Yard"] "width")<|Â 0)<|nk fi lm (Æ 0) (Ë ã (Â 1)<|Æ 1)<|fA (Ś ["Yard"] "height")<|Â 0)
def iI:MF:=Č 2 2 pQ
def ly:M Fl:=(aZ (gw<|bL<|Ý<|Ü iI<|È 0<|È 1 Ö)
 dA
 bZ)
def eV:MF:=Č 2 2 ly
def gE:M Fl:=(ý<|Ŋ<|nk fi lm (Æ 0) (Â 1)<|aG am<|É (fA (Ś ["Yard"] "days")<|Â 0) æ)
def cR:MF:=Č 2 2 gE
def qQ:M Fl:=(ý<|Ŋ<|Ë ã (Ë ã (fA (Ś ["Yard"] "days")<|Â 0)<|Â 1)<|Æ 2)
def ϟ:MF:=Č 2 2 qQ
def ja:M Fl:=(aZ (qm (gw<|bL<|Ý<|Ü cR<|È 0<|È 1 Ö)<|gw<|Ϻ<|nk fi lm (Æ 0) (Â 2)<|aG am<|É (Ý<|Ü ϟ<|È 0<|È 1 Ö) æ)
 dA
 bZ)
def ϻ:MF:=Č 3 3 ja
def dG:M Fl:=(å (qM<|Ý<|Ü eV<|È 0<|È 2 Ö)
 (qM<|Ý<|Ü ϻ<|È 0<|È 3<|È 4 Ö))
def lz:M Fl:=(cW (Ķ 1) (gT 3<|ï (gN 2)<|ï (gN 3)<|ï (gN 4) ř) dG)
def eW:MF:=Č 2 5 lz
def wD:M Fl:=(ý<|Ħ [1] 2 (Dx<|EA 0) (gT 2<|ï (gN 1)<|ï (gN 2) ř) (bL<|Ë ei (Ë ll (Â 0)<|Â 1)<|Æ 1) (ì 2))
def fj:MF:=Č 2 2 wD
def qR:M Fl:=(ý<|Ŋ<|GP [0] (aG rm<|É (Ý<|Ü fj<|È 0<|È 1 Ö) æ) (É (Â 1) æ))
def kx:MF:=Č 2 2 qR
def bO:M Fl:=(aZ (gw<|bL<|Ë ei (Ë ll (Â 0)<|Â 2)<|Æ 1)
 (ý<|bV 2)
 bZ)
def eA:M Fl:=(å (cW (ύ Ϥ<|É (ì 1) æ) (gN 2) bO)
 (ý<|Ŋ<|mC .non))
def Ϗ:MF:=Č 2 3 eA
def qC:M Fl:=(wo 3<|ì 4)
def wE:M Fl:=(å (ĉ 3<|Ŋ<|ì 2)
 (å (cW (ϱ<|Ý<|Ü fj<|È 0<|È 1 Ö) (gN 4) qC)
 (ý<|bV 3)))
def lA:MF:=Č 3 5 wE
def fE:M Fl:=(å (ĉ 4<|Ħ [2,1,3] 1 (ύ Ϥ<|É (Ë ph (Æ 1)<|aG am<|É (Â 0) æ) æ) (gN 3) ė (Ý<|Ü Ϗ<|Þ (Ý<|Ü lA<|È 1<|È 3<|È 2 Ö)<|È 0 Ö))
 (å (aZ (Ϻ<|Ë mS (Ë ã (Â 4)<|fA jp<|Æ 1)<|mC .non)
 (ý<|Ŋ<|Ŧ<|É (mC<|.str "none")<|É (Ë ã (Â 4)<|fA jp<|Æ 1) æ)
 bZ)
 (å (ĉ 5<|Ü kx<|È 0<|Þ (Ý<|Ħ [] 2 (Dx<|EA 4) (gT 2<|ï (gN 0)<|ï (gN 1) ř) (Ϻ<|Ë pB (Â 1)<|mC .non) (ì 0)) Ö)
 (ý<|Ŋ<|Ŧ<|É (mC<|.str "choice")<|É (ì 5)<|É (aG rm<|É (Ý<|Ü fj<|È 0<|È 5 Ö) æ)<|É (ì 4) æ))))
def bo:MF:=Č 4 6 fE
def bp:M Fl:=(aZ (bL<|Â 3)
 (wo 1<|Ë ph (Æ 1)<|Â 2)
 bZ)
def lB:M Fl:=(å (ĉ 1<|Ŋ<|Æ 0)
 (å (cW (Dx<|EA 0) (gT 2<|ï (gN 2)<|ï (gN 3) ř) bp)
 (ý<|bV 1)))
def ca:MF:=Č 1 4 lB
def pR:M Fl:=(å (ĉ 1<|Ħ [] 1 (Ķ 0) (gN 0) ė (Ë ã (Â 0)<|Æ 0))
 (å (ĉ 2<|Ħ [] 1 (Ķ 0) (gN 0) ė (Ë ã (Â 0)<|Æ 1))
 (ý<|cH<|É (Ŧ<|É (Æ 1)<|É (Æ 0)<|É (aG wb<|É (Â 1) æ) æ)<|É (Ŧ<|É (fA jp<|Æ 1)<|É (Æ 0)<|É (fA jp<|aG wc<|É (Â 1) æ) æ)<|É (Ŧ<|É (Æ 0)<|É (Æ 1)<|É (aG wb<|É (Â 2) æ) æ)<|É (Ŧ<|É (Æ 0)<|É (fA jp<|Æ 1)<|É (fA jp<|aG wc<|É (Â 2) æ) æ) æ)))
def iJ:MF:=Č 1 3 pR
def bP:M Fl:=(aZ (Ϻ<|Ë (D3 true) (Â 2)<|Â 1)
 (ug 1<|ì 2)
 bZ)
def pS:M Fl:=(å (ĉ 1<|cH æ)
 (å (cW (Ķ 0) (gN 2) bP)
 (ý<|bV 1)))
def iK:MF:=Č 1 3 pS
def kM:M Fl:=(å (ĉ 2<|Ŋ<|Ë ŝ (Ë ã (Â 1)<|Æ 1)<|Ë ã (Â 0)<|Æ 1)
 (å (ĉ 3<|Ŋ<|Ë ŝ (Ë ã (Â 0)<|Æ 0)<|Ë ã (Â 1)<|Æ 0)
 (ý<|Ŋ<|Ŧ<|É (ì 2)<|É (ì 3)<|É (Ý<|ċ Ă (Ë ď (Â 2)<|Ë ã (Â 0)<|Æ 0)<|Ë ď (Â 3)<|Ë ã (Â 0)<|Æ 1) æ)))
def dH:MF:=Č 2 4 kM
def AC:M Fl:=(ý<|Ŋ<|Ë fi (Ý<|ċ Ă (Ë ď (Ë ã (Â 0)<|Æ 0)<|Ë ã (Â 1)<|Æ 0)<|Ë ď (Ë ã (Â 0)<|Æ 1)<|Ë ã (Â 1)<|Æ 1)<|Ë ã (Â 0)<|Æ 2)
def ky:MF:=Č 2 2 AC
def aA:M Fl:=(å (ĉ 5<|Ü dH<|È 3<|È 4 Ö)
 (aZ (nu (Ϻ<|Ë cX (Â 3)<|Â 4)<|bL<|aG pE<|É (Ý<|Ħ [5] 1 (Ķ 2) (gN 1) ė (Ý<|Ü ky<|È 0<|È 1 Ö)) æ)
 (ug 1<|ì 5)
 bZ))
def eX:M Fl:=(cW (Ķ 2) (gN 4) aA)
def ny:M Fl:=(å (ĉ 1<|cH æ)
 (å (ĉ 2<|Ü iK<|È 0 Ö)
 (å (cW (Ķ 2) (gN 3) eX)
 (ý<|bV 1))))
def ga:MF:=Č 1 6 ny
def lC:M Fl:=(ý<|ċ Ă (Ý<|Ü iJ<|È 0 Ö)<|Ý<|Ü ga<|È 0 Ö)
def cb:MF:=Č 1 1 lC
def cE:M Fl:=(aZ (gw<|bL<|Ý<|Ü ky<|È 2<|È 1 Ö)
 (ý<|bV 2)
 bZ)
def fF:M Fl:=(å (cW (ϱ<|Ý<|Ü cb<|È 0 Ö) (gN 2) cE)
 (ý<|Ŋ<|mC .non))
def bq:MF:=Č 2 3 fF
def dI:M Fl:=(IX 1<|Ħ [2] 1 (ύ Ϥ<|É (ì 2) æ) (gN 1) ė (Ŧ<|É (ì 1)<|É (ì 0) æ))
def lE:M Fl:=(å (ĉ 1<|cH æ)
 (å (cW (ύ Ϥ<|É (ì 0) æ) (gN 2) dI)
 (ý<|bV 1)))
def ci:MF:=Č 1 3 lE
def bQ:M Fl:=(IX 1<|Ħ [2] 1 (ϱ<|Ý<|Ü ci<|È 2 Ö) (gN 1) ė (Ŧ<|É (Ë ã (Â 1)<|Æ 0)<|É (Ë ã (Â 1)<|Æ 1)<|É (ì 0) æ))
def jz:M Fl:=(å (ĉ 1<|cH æ)
 (å (cW (ύ Ϥ<|É (ì 0) æ) (gN 2) bQ)
 (ý<|bV 1)))
def cF:MF:=Č 1 3 jz
def fK:M Fl:=(aH (Ϻ<|Ë cX (Â 1)<|Æ 0)
 (å (ĉ 2<|Ŋ<|Ë ħ (Â 0)<|Â 1)
 (å (ĉ 0<|Ŋ<|ì 1)
 (ĉ 1<|Ŋ<|ì 2))))
def fL:M Fl:=(å fK
 (ý<|Ŋ<|aG Bk<|É (Â 0) æ))
def aa:MF:=Č 2 3 fL
def uP:M Fl:=(å (aZ (Ϻ<|Ë Œ (Â 1)<|Æ 0)
 dA
 bZ)
 (å (ĉ 2<|Ü aa<|È 0<|È 1 Ö)
 (å (aZ (Ϻ<|Ë lm (Â 1)<|Æ 0)
 (ĉ 2<|Ŋ<|fA jp<|Â 2)
 bZ)
 (ý<|Ŋ<|Ŧ<|É (Ë dY (Â 0)<|Â 2)<|É (Ë dY (Â 1)<|Â 2) æ))))
def kz:MF:=Č 2 3 uP
def mZ:M Fl:=(F9 4 (ì 6)<|Ý<|Ü kz<|È 5<|È 3 Ö)
def jA:M Fl:=(å (ĉ 3<|Ŋ<|aG rm<|É (Â 0) æ)
 (å (ĉ 4<|Ħ [3] 1 (ύ Ϥ<|É (ì 2) æ) (gN 1) ė (Ý<|Ü kz<|Þ (Æ 0)<|È 0 Ö))
 (å (cW (ED (GG 0)<|GG 1) (gT 2<|ï (gN 5)<|ï (gN 6) ř) mZ)
 (ý<|bV 4))))
def cj:MF:=Č 3 7 jA
def wF:M Fl:=(å (ĉ 3<|Ŋ<|Ë ď (Ë ŝ (Ë ã (Â 1)<|Æ 0)<|Ë ã (Â 0)<|Æ 0)<|Ë ŝ (Ë ã (Â 2)<|Æ 1)<|Ë ã (Â 0)<|Æ 1)
 (ý<|Ŋ<|Ë ŝ (Â 3)<|Ë ď (Ë ŝ (Ë ã (Â 1)<|Æ 1)<|Ë ã (Â 0)<|Æ 1)<|Ë ŝ (Ë ã (Â 2)<|Æ 0)<|Ë ã (Â 0)<|Æ 0))
def jB:MF:=Č 3 4 wF
def gF:M Fl:=(å (ĉ 2<|Ŋ<|Ë ã (Â 0)<|Æ 0)
 (å (ĉ 3<|Ŋ<|Ë ã (Â 0)<|Æ 1)
 (å (ĉ 4<|Ŋ<|Ë ã (Â 0)<|Æ 2)
 (ý<|cH<|É (Ý<|Ü jB<|È 1<|È 3<|È 4 Ö)<|É (Ý<|Ü jB<|È 2<|È 1<|È 4 Ö)<|É (Ý<|Ü jB<|È 2<|È 3<|È 1 Ö) æ))))
def Ϛ:MF:=Č 2 5 gF
def gG:M Fl:=(å (ĉ 1<|Ŋ<|aG rm<|É (Â 0) æ)
 (ý<|Ŋ<|gW (Ë cX (Â 1)<|Æ 0)<|aG pE<|É (Ý<|Ħ [1] 1 (Ķ 0) (gN 1) ė (Ë IG (Ë ď (Â 1)<|Â 0)<|Æ 0)) æ))
def Ϡ:MF:=Č 1 2 gG
def jC:M Fl:=(å (ĉ 2<|Ŋ<|Ë ŝ (Ë ã (Ë ã (Â 0)<|Æ 1)<|Æ 0)<|Ë ã (Ë ã (Â 0)<|Æ 0)<|Æ 0)
 (å (ĉ 3<|Ŋ<|Ë ŝ (Ë ã (Ë ã (Â 0)<|Æ 1)<|Æ 1)<|Ë ã (Ë ã (Â 0)<|Æ 0)<|Æ 1)
 (å (ĉ 4<|ċ Ă (Ë ď (Â 2)<|Ë ŝ (Ë ã (Â 1)<|Æ 0)<|Ë ã (Ë ã (Â 0)<|Æ 0)<|Æ 0)<|Ë ď (Â 3)<|Ë ŝ (Ë ã (Â 1)<|Æ 1)<|Ë ã (Ë ã (Â 0)<|Æ 0)<|Æ 1)
 (ý<|cH<|É (Ë ŝ (Ý<|ċ Ă (Ë ď (Â 2)<|Â 2)<|Ë ď (Â 3)<|Â 3)<|Â 4)<|É (ì 4) æ))))
def aq:MF:=Č 2 5 jC
def jb:M Fl:=(å (ĉ 4<|Ü aq<|Þ (Ý<|Ħ [0] 1 (Ķ 3) (gN 1) ė (Ë ã (Â 0)<|Â 1))<|È 1 Ö)
 (aZ (bL<|Ý<|Ü Ϡ<|È 4 Ö)
 (ý<|Ü cj<|È 4<|È 3<|È 2 Ö)
 bZ))
def jc:M Fl:=(å (ĉ 4<|Ü Ϛ<|Þ (Ý<|Ħ [0] 1 (Ķ 3) (gN 1) ė (Ë ã (Â 0)<|Â 1))<|È 1 Ö)
 (aZ (bL<|Ý<|Ü Ϡ<|È 4 Ö)
 (ý<|Ü cj<|È 4<|È 3<|È 2 Ö)
 bZ))
def eY:M Fl:=(å (ĉ 2<|Ŋ<|aG am<|É (Â 0) æ)
 (å (cW (ϱ<|Ý<|Ü cF<|È 2 Ö) (gN 3) jc)
 (å (cW (ϱ<|Ý<|Ü ci<|È 2 Ö) (gN 3) jb)
 (ý<|Ü cj<|Þ (Ý<|cH<|É (Æ 1) æ)<|Þ (Ý<|cH<|É (Æ 0) æ)<|È 2 Ö))))
def bR:MF:=Č 2 5 eY
def zk:M Fl:=(å (ĉ 2<|Ü bq<|È 0<|È 1 Ö)
 (å (aZ (Ϻ<|Ë pB (Â 2)<|mC .non)
 (ý<|Ŋ<|Ŧ<|É (mC<|.str "in")<|É (Ý<|Ü bR<|È 0<|È 1 Ö) æ)
 bZ)
 (ý<|Ŋ<|Ŧ<|É (mC<|.str "out")<|É (ì 2) æ)))
def uQ:MF:=Č 2 3 zk
def DR:M Fl:=(ý<|Ŋ<|Ŧ<|É (Ý<|ċ Ă (Ë ď (Ë ã (Â 1)<|Æ 2)<|Ë ã (Â 0)<|Æ 0)<|Ë ď (Ë ã (Â 1)<|Æ 0)<|Ë ã (Â 0)<|Æ 2)<|É (Ý<|ċ Ă (Ë ď (Ë ã (Â 1)<|Æ 2)<|Ë ã (Â 0)<|Æ 1)<|Ë ď (Ë ã (Â 1)<|Æ 1)<|Ë ã (Â 0)<|Æ 2) æ)
def nZ:MF:=Č 2 2 DR
def jD:M Fl:=(ý<|cH<|É (Ŧ<|É (ì 0)<|É (ì 1)<|É (ì 4) æ)<|É (Ŧ<|É (ì 2)<|É (ì 1)<|É (ì 4) æ)<|É (Ŧ<|É (ì 2)<|É (ì 3)<|É (ì 4) æ)<|É (Ŧ<|É (ì 0)<|É (ì 3)<|É (ì 4) æ) æ)
def ϐ:MF:=Č 5 5 jD
def jE:M Fl:=(ý<|ċ Ă (Ý<|Ü ϐ<|È 0<|È 1<|È 2<|È 3<|Þ (Æ 0) Ö)<|Ý<|Ü ϐ<|È 0<|È 1<|È 2<|È 3<|È 4 Ö)
def ar:MF:=Č 5 5 jE
def kN:M Fl:=(å (ĉ 1<|Ŋ<|Ë ď (Æ 2)<|Ë ã (fA (Ś ["Thing","Post","Fence","Sail","Cloth","House"] "numbers")<|Â 0)<|Æ 0)
 (å (ĉ 2<|Ŋ<|Ë ď (Æ 2)<|Ë ã (fA (Ś ["Thing","Post","Fence","Sail","Cloth","House"] "numbers")<|Â 0)<|Æ 1)
 (ý<|Ü ar<|Þ (Ë ŝ (Â 1)<|Æ 1)<|Þ (Ë ŝ (Â 2)<|Æ 1)<|Þ (Ý<|ċ Ă (Â 1)<|Æ 1)<|Þ (Ý<|ċ Ă (Â 2)<|Æ 1)<|Þ (Ë ã (fA (Ś ["Thing","Post","Fence","Sail","Cloth","House"] "numbers")<|Â 0)<|Æ 2) Ö)))
def br:MF:=Č 1 3 kN
def jF:M Fl:=(å (ĉ 1<|Ŋ<|fA (Ś ["Thing","Post","Fence","Sail","Cloth","House"] "numbers")<|Â 0)
 (å (ĉ 2<|Ŋ<|Ŧ<|É (Ë ã (Â 1)<|Æ 0)<|É (Ë ã (Â 1)<|Æ 1) æ)
 (å (ĉ 3<|Ŋ<|Ŧ<|É (Ë ã (Â 1)<|Æ 2)<|É (Ë ã (Â 1)<|Æ 3) æ)
 (ý<|cH<|É (Ý<|ċ Ă (Â 2)<|Ŧ<|É (Æ 0) æ)<|É (Ý<|ċ Ă (Â 3)<|Ŧ<|É (Æ 0) æ)<|É (Ý<|ċ Ă (Â 3)<|Ŧ<|É (Ë ã (Â 1)<|Æ 4) æ)<|É (Ý<|ċ Ă (Â 2)<|Ŧ<|É (Ë ã (Â 1)<|Æ 4) æ) æ))))
def au:MF:=Č 1 4 jF
def kO:M Fl:=(å (ĉ 1<|Ŋ<|fA (Ś ["Thing","Post","Fence","Sail","Cloth","House"] "numbers")<|Â 0)
 (ý<|Ü ϐ<|Þ (Ë ã (Â 1)<|Æ 0)<|Þ (Ë ã (Â 1)<|Æ 1)<|Þ (Ë ã (Â 1)<|Æ 2)<|Þ (Ë ã (Â 1)<|Æ 3)<|Þ (Ë ã (Â 1)<|Æ 4) Ö))
def bt:MF:=Č 1 2 kO
def jG:M Fl:=(ý<|Ħ [0] 1 (ϱ<|Ŧ<|É (Æ 0)<|É (Æ 3)<|É (Æ 6) æ) (gN 1) ė (aG qo<|É (Ý<|tu (fA (Ś ["Thing","Post","Fence","Sail","Cloth","House"] "numbers")<|Â 0) (mP<|ì 1)<|mP<|Ý<|ċ Ă (Â 1)<|Æ 3) æ))
def av:MF:=Č 1 1 jG
def jH:M Fl:=(å (ĉ 1<|Ŋ<|fA (Ś ["Thing","Post","Fence","Sail","Cloth","House"] "numbers")<|Â 0)
 (ý<|Ü ar<|Þ (Ë ã (Â 1)<|Æ 0)<|Þ (Ë ã (Â 1)<|Æ 1)<|Þ (Ë ã (Â 1)<|Æ 2)<|Þ (Ë ã (Â 1)<|Æ 3)<|Þ (Ë ã (Â 1)<|Æ 4) Ö))
def ax:MF:=Č 1 2 jH
def kP:M Fl:=(ý<|Ħ [1] 1 (ϱ<|Ý<|kH "corners" [("Post",br),("Fence",au),("Sail",bt),("Cloth",av),("House",ax)] (ì 0) Ö) (gN 1) ė (Ý<|Ü nZ<|È 1<|È 0 Ö))
def ϴ:MF:=Č 2 2 kP
def nA:M Fl:=(ý<|Ü nZ<|Þ (Ŧ<|É (Ë ď (Æ 2)<|Ë ã (Â 0)<|Æ 0)<|É (Ë ď (Æ 2)<|Ë ã (Â 0)<|Æ 1)<|É (Æ 0) æ)<|È 1 Ö)
def gb:MF:=Č 2 2 nA
def uR:M Fl:=(ý<|Ü uQ<|Þ (Ý<|Ü ϴ<|È 0<|È 2 Ö)<|Þ (Ý<|Ü gb<|È 1<|È 2 Ö) Ö)
def m_:MF:=Č 3 3 uR
def qD:M Fl:=(ý<|Ŋ<|Ë Œ (Ë ã (Ý<|Ü m_<|È 0<|È 1<|È 2 Ö)<|Æ 0)<|mC<|.str "in")
def fk:MF:=Č 3 3 qD
def gH:M Fl:=(ý<|Ŋ<|gW (Ë mS (Â 2)<|mC .non)<|Ý<|Ü fk<|È 0<|È 1<|È 2 Ö)
def aB:MF:=Č 3 3 gH
def kQ:M Fl:=(ý<|Ü ca<|Þ (Ý<|Ħ [1,0] 3 (Ķ 2) (gT 3<|ï (gN 2)<|ï (gN 3)<|ï (gN 4) ř) ė (Ý<|Ü aB<|È 0<|È 2<|Þ (Ë ã (Ý<|Ü ϟ<|È 1<|È 3 Ö)<|Â 4) Ö)) Ö)
def bu:MF:=Č 3 3 kQ
def kA:M Fl:=(aZ (bL<|Ý<|Ü fk<|È 3<|È 2<|È 1 Ö)
 (ý<|Ŋ<|mC<|.bl true)
 bZ)
def kB:M Fl:=(å (aZ (Ϻ<|Ë pB (Â 1)<|mC .non)
 (ý<|Ŋ<|mC<|.bl true)
 bZ)
 (å (cW (ϱ<|fA (Ś ["Yard"] "things")<|Â 0) (gN 3) kA)
 (ý<|Ŋ<|mC<|.bl false)))
def aC:MF:=Č 3 4 kB
def lF:M Fl:=(ý<|Ü ca<|Þ (Ý<|Ħ [0] 3 (Ķ 1) (gT 3<|ï (gN 1)<|ï (gN 2)<|ï (gN 3) ř) ė (Ý<|Ü aC<|È 0<|Þ (Ë ã (Ý<|Ü ϟ<|È 0<|È 2 Ö)<|Â 3)<|È 1 Ö)) Ö)
def eZ:MF:=Č 2 2 lF
def pU:M Fl:=(å (qM<|Ý<|Ü eW<|È 0<|È 2 Ö)
 (å (ĉ 3<|Ħ [] 2 (Ķ 1) (gT 2<|ï (gN 0)<|ï (gN 1) ř) ė (ì 1))
 (å (ĉ 4<|Ħ [0,2] 2 (Ķ 1) (gT 2<|ï (gN 2)<|ï (gN 3) ř) ė (Ý<|Ü bu<|È 0<|È 2<|È 1 Ö))
 (ý<|Ü bo<|È 3<|È 4<|Þ (aG am<|É (Â 2) æ)<|Þ (Ý<|Ü eZ<|È 0<|È 2 Ö) Ö))))
def iL:MF:=Č 3 5 pU
def ű:M Fl:=(å (Ix (gS 3<|ï (gN 3)<|ï (gN 4)<|ï (gN 5) ř)<|Ë ã (Â 1)<|Â 2)
 (aZ (Ϻ<|Ë Œ (Ë ã (Ë ã (Ë ã (Â 0)<|Â 5)<|Ë ã (Â 3)<|Æ 1)<|Ë ã (Â 3)<|Æ 0)<|mC<|.str ".")
 (ý<|bV 2)
 bZ))
def ac:M Fl:=(å (cW (ύ Ϥ<|É (aG am<|É (Â 1) æ) æ) (gN 2) ű)
 (ý<|Ŋ<|mC .non))
def ļ:MF:=Č 2 6 ac
def qS:M Fl:=(ý<|Ŋ<|aG rm<|É (Ý<|Ħ [0,1] 1 (ύ Ϥ<|É (aG am<|É (Â 0) æ) æ) (gN 2) (Ϻ<|Ë Œ (Ë ei (Ë ll (Â 1)<|Â 2)<|Æ 1)<|Æ 1) (Ë ã (Ë ã (Â 0)<|Â 2)<|Æ 1)) æ)
def gJ:MF:=Č 2 2 qS
def e_:M Fl:=(ý<|Ŋ<|gW (nk fi fi (Æ 1) (aG am<|É (Â 0) æ)<|Â 2)<|aG pE<|É (Ý<|Ħ [1] 1 (Ķ 0) (gN 1) ė (Ë Hs (Â 1)<|Â 0)) æ)
def ae:MF:=Č 3 3 e_
def gc:M Fl:=(å (ĉ 1<|aZ (bL<|IU pF (Â 0)<|É (mC<|.str "-") æ) (tu (Â 0) (mP<|Æ 1) nn)<|Ŋ<|ì 0)
 (å (aZ (gw<|bL<|Ý<|Ü ae<|È 1<|Þ (mC<|.str "0123456789")<|Þ (mC<|.int<|10) Ö)
 (ý<|Ŋ<|mC<|.bl false)
 bZ)
 (ý<|Ŋ<|RE (Ë Œ (Â 0)<|mC<|.str "0")<|OH<|IU pF (Â 1)<|É (mC<|.str "0") æ)))
def ϛ:MF:=Č 1 2 gc
def nB:M Fl:=(å (aZ (bL<|aG pE<|É (Ý<|Ħ [] 1 (Ķ 0) (gN 0) ė (Ý<|Ü ϛ<|È 0 Ö)) æ)
 (ý<|Ħ [] 1 (Ķ 0) (gN 0) ė (aG pN<|É (Â 0) æ))
 bZ)
 (ý<|Ŋ<|mC .non))
def dJ:MF:=Č 1 1 nB
def nC:M Fl:=(å (ĉ 2<|Ü dJ<|È 0 Ö)
 (å (aZ (Ϻ<|Ë pB (Â 2)<|mC .non)
 dA
 bZ)
 (ý<|bV 2)))
def af:MF:=Č 2 3 nC
def pV:M Fl:=(å (aZ (qm (Ϻ<|Ë cX (Ë ã (Â 0)<|Æ 0)<|mC<|.str "yard")<|Ϻ<|Ë cX (aG am<|É (Â 0) æ)<|Æ 3)
 dA
 bZ)
 (å (ĉ 2<|Ü af<|Þ (Ý<|tu (Â 0) (mP<|Æ 1) nn)<|È 1 Ö)
 (å (aZ (gw<|bL<|aG pE<|É (Ý<|Ħ [] 1 (Ķ 2) (gN 0) ė (nk fi fi (Æ 1) (Â 0)<|mC<|.int<|20)) æ)
 dA
 bZ)
 (ý<|bV 2))))
def iM:MF:=Č 2 3 pV
def dL:M Fl:=(ý<|Ŋ<|gW (Ë Gg (uE 0)<|Æ 0)<|Ë Œ (Au 0)<|Æ 0)
def Ų:MF:=Č 1 1 dL
def eB:M Fl:=(å (fH 0 ["Yard"] "width" (ì 1))
 (å (fH 0 ["Yard"] "height" (ì 2))
 (å (fH 0 ["Yard"] "things" (Ý<|rh iE<|É (Â 3) æ))
 (fH 0 ["Yard"] "days" (Ý<|PM (Je 4) (Ħ [] 3 (qz 4) (gD 0 1 2) ė (Ŧ<|É (ì 0)<|É (ì 1)<|É (Ý<|rh iE<|É (Â 2) æ) æ))<|Ħ [] 3 (Ķ 4) (gT 3<|ï (gN 0)<|ï (gN 1)<|ï (gN 2) ř) ė (Ŧ<|É (ì 0)<|É (ì 1)<|É (Ý<|rh iE<|É (Â 2) æ) æ))))))
def ge:MI:=dE 5 5 "Yard" eB
def wG:M Fl:=(ý<|Ŋ<|gW (Ë fi (aG Bk<|É (Ë ã (Â 0)<|Æ 0) æ)<|mC<|.int<|1000000)<|gW (Ë fi (aG Bk<|É (Ë ã (Â 0)<|Æ 1) æ)<|mC<|.int<|1000000)<|nk fi fi (Æ 1) (Ë ã (Â 0)<|Æ 2)<|mC<|.int<|1000000)
def pX:MF:=Č 1 1 wG
def kC:M Fl:=(å (aZ (Ϻ<|Ë Œ (Â 0)<|Ý<|cH<|É (mC<|.str "night") æ)
 (ý<|Ŋ<|mC .non)
 bZ)
 (å (aZ (qm (Ϻ<|Ë cX (Ë ã (Â 0)<|Æ 0)<|mC<|.str "ray")<|Ϻ<|Ë cX (aG am<|É (Â 0) æ)<|Æ 4)
 dA
 bZ)
 (å (ĉ 2<|Ŋ<|aG qo<|É (Ý<|Ü af<|Þ (Ý<|tu (Â 0) (mP<|Æ 1) nn)<|È 1 Ö) æ)
 (å (aZ (gw<|bL<|Ý<|Ü pX<|È 2 Ö)
 dA
 bZ)
 (ý<|bV 2)))))
def fq:MF:=Č 2 3 kC
def pY:M WR:=(uD (qm (Ϻ<|Ë Œ (uE 2)<|Æ 0)<|Ϻ<|Ë Œ (Au 2)<|mC<|.int<|24) dA<|As 2<|Ý<|Ü fq<|È 0<|È 1 Ö)
def iN:MW:=gC 3 3 pY
def uS:M Fl:=(ý<|Ü ae<|È 0<|Þ (mC<|.str "abcdefghijklmnopqrstuvwxyz")<|Þ (mC<|.int<|8) Ö)
def nc:MF:=Č 1 1 uS
def qT:M Fl:=(å (aZ (qm (Ϻ<|Ë cX (aG am<|É (Â 0) æ)<|Æ 3)<|gw<|bL<|Ý<|Ü nc<|Þ (Ë ã (Â 0)<|Æ 1) Ö)
 dA
 bZ)
 (å (ĉ 2<|Ŋ<|Ë ã (Ý<|Ü af<|Þ (Ý<|tu (Â 0) (mP<|Æ 2) nn)<|È 1 Ö)<|Æ 0)
 (å (aZ (gw<|Ϻ<|nk fi fi (Æ 1) (Â 2)<|mC<|.int<|1000000000)
 dA
 bZ)
 (ý<|Kd<|Bu (Ë ã (Â 0)<|Æ 1)<|Bu (ì 2)<|Kb<|cH æ))))
def kD:MF:=Č 2 3 qT
def qU:M WR:=(uD (qm (bL<|Ý<|Ü Ų<|È 2 Ö)<|Ϻ<|Ë Œ (uE 2)<|mC<|.int<|12) dA<|Kh 3 (Ü kD<|È 0<|È 1 Ö)<|uD (Am 3<|Ϻ<|Ë Hs (Ë ã (Â 3)<|Æ 0)<|Ý<|Ħ [] 3 (qz 2) (gD 0 1 2) ė (ì 0)) dA<|Aq 2 3)
def kE:MW:=gC 3 4 qU
def qV:M Fl:=(ý<|Ŋ<|nk fi fi (fA jp<|mC<|.int<|1000000000) (Â 0)<|mC<|.int<|1000000000)
def bv:MF:=Č 1 1 qV
def pZ:M Fl:=(ý<|Ŋ<|nk fi fi (Æ 1) (Â 0)<|mC<|.int<|1000000000)
def fu:MF:=Č 1 1 pZ
def nD:M Fl:=(ý<|Ŋ<|gW (Ë Œ (aG am<|É (Â 0) æ)<|Æ 3)<|gW (Ý<|Ü bv<|Þ (Ë ã (Â 0)<|Æ 0) Ö)<|gW (Ý<|Ü bv<|Þ (Ë ã (Â 0)<|Æ 1) Ö)<|Ý<|Ü fu<|Þ (Ë ã (Â 0)<|Æ 2) Ö)
def gf:MF:=Č 1 1 nD
def Ļ:M Fl:=(å (fH 0 ["Thing","Post","Fence","Sail","Cloth","House"] "word" (ì 1))
 (fH 0 ["Thing","Post","Fence","Sail","Cloth","House"] "numbers" (Ý<|rh iE<|É (Â 2) æ)))
def G3:MI:=dE 3 3 "Thing" Ļ
def zl:MI:=dE 3 3 "Post" Ļ
def uT:MI:=dE 3 3 "Fence" Ļ
def zm:MI:=dE 3 3 "Sail" Ļ
def uU:MI:=dE 3 3 "Cloth" Ļ
def uV:MI:=dE 3 3 "House" Ļ
def kR:M Fl:=(ý<|Ŋ<|gW (Ë Œ (aG am<|É (Â 0) æ)<|Æ 5)<|gW (aG pE<|É (Ý<|Ħ [] 1 (ϱ<|Ý<|tu (Â 0) nn<|mP<|Æ 4) (gN 0) ė (Ý<|Ü bv<|È 0 Ö)) æ)<|Ý<|Ü fu<|Þ (Ë ã (Â 0)<|Æ 4) Ö)
def bz:MF:=Č 1 1 kR
def lG:M Fl:=(ý<|Ŋ<|gW (Ý<|Ü bz<|È 0 Ö)<|Ë cX (Ý<|tu (Â 0) nn<|mP<|Æ 2)<|Ý<|tu (Â 0) (mP<|Æ 2)<|mP<|Æ 4)
def fb:MF:=Č 1 1 lG
def dM:M Fl:=(ý<|Ŋ<|gW (Ý<|Ü bz<|È 0 Ö)<|gW (Ë lm (Ë ã (Â 0)<|Æ 0)<|Ë ã (Â 0)<|Æ 2)<|Ë lm (Ë ã (Â 0)<|Æ 1)<|Ë ã (Â 0)<|Æ 3)
def ś:MF:=Č 1 1 dM
def gK:M Fl:=(ý<|Ŋ<|gW (Ý<|Ü bv<|Þ (Ë ã (Â 0)<|Æ 0) Ö)<|gW (Ý<|Ü bv<|Þ (Ë ã (Â 0)<|Æ 1) Ö)<|nk fi fi (Æ 0) (Ë ã (Â 0)<|Æ 2)<|mC<|.int<|1000000000)
def bf:MF:=Č 1 1 gK
def lH:M Fl:=(ý<|Ŋ<|gW (Ë Œ (aG am<|É (Â 0) æ)<|Æ 9)<|aG pE<|É (Ý<|Ħ [0] 1 (ϱ<|Ŧ<|É (Æ 0)<|É (Æ 3)<|É (Æ 6) æ) (gN 1) ė (Ý<|Ü bf<|Þ (Ý<|tu (Â 0) (mP<|ì 1)<|mP<|Ý<|ċ Ă (Â 1)<|Æ 3) Ö)) æ)
def fc:MF:=Č 1 1 lH
def cS:M Fl:=(å (aZ (nu (Ϻ<|Ë Œ (Â 0)<|mC<|.str "post")<|bL<|Ý<|Ü gf<|È 1 Ö)
 (ý<|Ŋ<|fJ "Post" zl (È 0<|È 1 Ö))
 bZ)
 (å (aZ (nu (Ϻ<|Ë Œ (Â 0)<|mC<|.str "fence")<|bL<|Ý<|Ü fb<|È 1 Ö)
 (ý<|Ŋ<|fJ "Fence" uT (È 0<|È 1 Ö))
 bZ)
 (å (aZ (nu (Ϻ<|Ë Œ (Â 0)<|mC<|.str "sail")<|bL<|Ý<|Ü ś<|È 1 Ö)
 (ý<|Ŋ<|fJ "Sail" zm (È 0<|È 1 Ö))
 bZ)
 (å (aZ (nu (Ϻ<|Ë Œ (Â 0)<|mC<|.str "cloth")<|bL<|Ý<|Ü fc<|È 1 Ö)
 (ý<|Ŋ<|fJ "Cloth" uU (È 0<|È 1 Ö))
 bZ)
 (å (aZ (nu (Ϻ<|Ë Œ (Â 0)<|mC<|.str "house")<|bL<|Ý<|Ü ś<|È 1 Ö)
 (ý<|Ŋ<|fJ "House" uV (È 0<|È 1 Ö))
 bZ)
 dA)))))
def Ő:MF:=Č 2 2 cS
def nE:M Fl:=(å (ĉ 2<|Ü af<|Þ (Ý<|tu (Â 0) (mP<|Æ 1) nn)<|È 1 Ö)
 (DM<|ý<|Ü Ő<|Þ (Ë ã (Â 0)<|Æ 0)<|È 2 Ö))
def gh:MF:=Č 2 3 nE
def nF:M WR:=(uD (qm (Ϻ<|Ë Gg (uE 3)<|Æ 0)<|Ϻ<|Ë Œ (aG am<|É (Â 2) æ)<|mC<|.int<|40) dA<|Ap 2<|Ý<|Ü gh<|È 0<|È 1 Ö)
def dN:MW:=gC 4 4 nF
def iO:M WR:=(Mu (Ϻ<|Ë Hs (Ë ã (Â 0)<|Æ 0)<|Ŧ<|É (mC<|.str "ray")<|É (mC<|.str "night") æ) (ϲ iN [0,1,3])<|Mu (Ϻ<|Ë Œ (Ë ã (Â 0)<|Æ 0)<|mC<|.str "day") (ϲ kE [0,1,3])<|ϲ dN [0,1,2,3])
def Ī:MW:=gC 4 4 iO
def p_:M Fl:=(å (ĉ 1<|Ħ [] 1 (ϱ<|Ý<|vx cJ (Â 0)<|É (mC<|.str "\n") æ) (gN 0) ė (Ý<|vx cJ (Â 0)<|É (mC<|.str " ") æ))
 (å (ĉ 2<|Ü iM<|Þ (Ë ã (Â 1)<|Æ 0)<|Þ (Æ 0) Ö)
 (SA 5 6 3 4 (BA<|Sj<|Ý<|tu (Â 1) (mP<|Æ 1) nn) (ϲ Ī [6,5,3,4]) (å (aZ (bL<|Ý<|Ü Ų<|È 4 Ö)
 dA
 bZ)
 (ý<|Ŋ<|fJ "Yard" ge (Þ (Ë ã (Â 2)<|Æ 0)<|Þ (Ë ã (Â 2)<|Æ 1)<|È 3<|È 4 Ö))))))
def cU:MF:=Č 1 7 p_
def jI:M Fl:=(fH 0 ["Desk"] "yard" (Ý<|Ü cU<|È 1 Ö))
def tH:MI:=dE 2 2 "Desk" jI
def iP:M Fl:=(å (ĉ 2<|Ü dJ<|Þ (Ý<|tu (Â 0) (mP<|ì 1) nn) Ö)
 (å (aZ (Ϻ<|Ë pB (Â 2)<|mC .non)
 dA
 bZ)
 (ý<|bV 2)))
def Ň:MF:=Č 2 3 iP
def kF:M Fl:=(å (aZ (Ϻ<|Ë lm (Â 1)<|Â 0)
 (ý<|Ŋ<|Æ 0)
 bZ)
 (ý<|Ŋ<|Ë ŝ (Ë ph (Æ 1)<|Ý<|ċ Ă (Â 1)<|Æ 1)<|Ë ph (Æ 1)<|Â 0))
def cV:MF:=Č 2 2 kF
def Ϝ:M Fl:=(å (ĉ 9<|Ŋ<|Ë ď (Â 6)<|Â 1)
 (å (ĉ 10<|Ŋ<|Ë ŝ (Â 8)<|Ë ď (Ë ď (Â 7)<|Â 1)<|Â 2)
 (aZ (Ϻ<|Ë Gg (Â 9)<|Æ 0)
 (ĉ 5<|Ŋ<|aG C9<|É (Â 5)<|É (Ë dY (Â 10)<|Â 9) æ)
 (aZ (Ϻ<|Ë lm (Â 9)<|Æ 0)
 (ĉ 4<|Ŋ<|aG Db<|É (Â 4)<|É (fA jp<|Ë dY (Â 10)<|fA jp<|Â 9) æ)
 (aZ (Ϻ<|Ë lm (Â 10)<|Æ 0)
 (ý<|Ŋ<|Æ 0)
 bZ)))))
def lI:M Fl:=(å (ĉ 4<|Ŋ<|Æ 0)
 (å (ĉ 5<|Ŋ<|Ë ŝ (Â 3)<|Æ 1)
 (å (cW (Ķ 0) (gT 3<|ï (gN 6)<|ï (gN 7)<|ï (gN 8) ř) Ϝ)
 (ý<|Ü cV<|È 4<|È 5 Ö))))
def gL:MF:=Č 4 11 lI
def kG:M Fl:=(wo 4<|Ë ph (Ý<|Ü gL<|È 3<|Þ (Ë ď (Æ 2)<|Ë ã (Â 2)<|Æ 2)<|È 5<|Þ (fA (Ś ["Yard"] "width")<|Â 0) Ö)<|Ë ď (Â 5)<|fA (Ś ["Yard"] "width")<|Â 0)
def uW:M Fl:=(å (ĉ 3<|Ü cb<|Þ (Ý<|Ü ϴ<|È 1<|È 2 Ö) Ö)
 (å (ĉ 4<|Ŋ<|Æ 0)
 (å (cW (ύ Ϥ<|É (fA (Ś ["Yard"] "height")<|Â 0) æ) (gN 5) kG)
 (ý<|bV 4))))
def gn:MF:=Č 3 6 uW
def gM:M Fl:=(ý<|Ħ [0,1] 1 (ϱ<|fA (Ś ["Yard"] "things")<|Â 0) (gN 2) ė (Ý<|Ü gn<|È 0<|È 2<|È 1 Ö))
def bg:MF:=Č 2 2 gM
def zn:M Fl:=(wo 2<|ì 3)
def zo:M Fl:=(å (aZ (Ϻ<|Ë pB (Â 1)<|mC .non)
 (ý<|Ü cV<|Þ (Æ 0)<|Þ (Ë ŝ (Ë ď (fA (Ś ["Yard"] "width")<|Â 0)<|fA (Ś ["Yard"] "height")<|Â 0)<|Æ 1) Ö)
 bZ)
 (å (ĉ 2<|Ŋ<|Æ 0)
 (å (cW (ϱ<|Ý<|Ü bg<|È 0<|È 1 Ö) (gN 3) zn)
 (ý<|bV 2))))
def qE:MF:=Č 2 4 zo
def lJ:M Fl:=(å (qM<|Ý<|Ü ϻ<|È 0<|Þ (Ë ã (Â 1)<|Æ 0)<|Þ (Ë ã (Â 1)<|Æ 1) Ö)
 (å (ĉ 2<|Ü qE<|È 0<|Þ (Ë ã (Ý<|Ü ϟ<|È 0<|Þ (Ë ã (Â 1)<|Æ 0) Ö)<|Ë ã (Â 1)<|Æ 1) Ö)
 (å (ĉ 3<|Ŋ<|fA (Ś ["Yard"] "width")<|Â 0)
 (å (ĉ 4<|Ħ [2] 1 (ύ Ϥ<|É (Ë ď (Â 3)<|fA (Ś ["Yard"] "height")<|Â 0) æ) (gN 1) ė (aZ (bL<|Ë ei (Ë ll (Â 0)<|Â 1)<|Æ 1) (mC<|.str "#")<|mC<|.str "."))
 (ý<|Ŋ<|IU jt (mC<|.str "/")<|É (Ý<|Ħ [4,3] 1 (ύ Ϥ<|É (fA (Ś ["Yard"] "height")<|Â 0) æ) (gN 2) ė (IU jt (mC<|.str "")<|É (Ý<|tu (Â 0) (mP<|Ë ď (Â 2)<|Â 1)<|mP<|Ý<|ċ Ă (Ë ď (Â 2)<|Â 1)<|Â 1) æ)) æ)))))
def ck:MF:=Č 2 5 lJ
def uX:M Fl:=(ý<|Ŋ<|Ë ã (Ë ã (fA (Ś ["Yard"] "days")<|Â 0)<|Â 1)<|Æ 0)
def nh:MF:=Č 2 2 uX
def aD:M Fl:=(aZ (Ϻ<|Ë Œ (Ý<|Ü nh<|È 0<|È 2 Ö)<|Â 1)
 (ý<|bV 2)
 bZ)
def nG:M Fl:=(å (cW (ύ Ϥ<|É (aG am<|É (fA (Ś ["Yard"] "days")<|Â 0) æ) æ) (gN 2) aD)
 dA)
def bS:MF:=Č 2 3 nG
def wH:M Fl:=(å (aZ (Ϻ<|Ë (Jn "ROWS" ZK) (Ë ã (Â 1)<|Æ 0)<|mC<|.cls "ROWS")
 dA
 bZ)
 (å (ĉ 2<|Ŋ<|Ë (Jo "ROWS" ZK) (mC<|.cls "ROWS")<|Ë ã (Â 1)<|Æ 0)
 (å (ĉ 3<|tu (Â 1) (mP<|Æ 1)<|mP<|Ý<|ċ Ă (Æ 1)<|Ë ã (Â 2)<|Æ 0)
 (å (aZ (Ϻ<|Ë cX (aG am<|É (Â 1) æ)<|Ý<|ċ Ă (Ý<|ċ Ă (Æ 1)<|Ë ã (Â 2)<|Æ 0)<|Ë ã (Â 2)<|Æ 1)
 dA
 bZ)
 (å (ĉ 4<|Ü Ň<|È 1<|Þ (Ý<|ċ Ă (Æ 1)<|Ë ã (Â 2)<|Æ 0) Ö)
 (ý<|Js [("answer_dark",ck)] (Ë ã (Â 2)<|Æ 2) (È 0<|Þ (Ý<|ċ Ă (Ý<|Ħ [0] 1 (Ķ 3) (gN 1) ė (Ý<|Ü bS<|È 0<|È 1 Ö))<|Â 4) Ö)))))))
def jJ:MF:=Č 2 5 wH
def nH:M Fl:=(å (aZ (Ϻ<|Ë lm (aG am<|É (Â 1) æ)<|Æ 2)
 dA
 bZ)
 (å (ĉ 2<|Ü Ň<|È 1<|Þ (Æ 2) Ö)
 (å (aZ (Ϻ<|Ë Œ (aG am<|É (fA (Ś ["Yard"] "things")<|Â 0) æ)<|mC<|.int<|40)
 dA
 bZ)
 (ý<|Ŋ<|fJ "Yard" ge (Þ (fA (Ś ["Yard"] "width")<|Â 0)<|Þ (fA (Ś ["Yard"] "height")<|Â 0)<|Þ (Ý<|ċ Ă (fA (Ś ["Yard"] "things")<|Â 0)<|Ý<|cH<|É (Ý<|Ü Ő<|Þ (Ë ã (Â 1)<|Æ 1)<|È 2 Ö) æ)<|Þ (fA (Ś ["Yard"] "days")<|Â 0) Ö)))))
def dP:MF:=Č 2 3 nH
def qF:M Fl:=(å (aZ (Ϻ<|Ë cX (aG am<|É (Â 1) æ)<|Æ 2)
 dA
 bZ)
 (å (ĉ 2<|Ŋ<|Ë ã (Ý<|Ü Ň<|È 1<|Þ (Æ 1) Ö)<|Æ 0)
 (å (aZ (gw<|Ϻ<|nk fi lm (Æ 0) (Â 2)<|aG am<|É (fA (Ś ["Yard"] "things")<|Â 0) æ)
 dA
 bZ)
 (ý<|Ŋ<|fJ "Yard" ge (Þ (fA (Ś ["Yard"] "width")<|Â 0)<|Þ (fA (Ś ["Yard"] "height")<|Â 0)<|Þ (Ý<|ċ Ă (Ý<|tu (fA (Ś ["Yard"] "things")<|Â 0) nn<|mP<|ì 2)<|Ý<|tu (fA (Ś ["Yard"] "things")<|Â 0) (mP<|Ý<|ċ Ă (Â 2)<|Æ 1) nn)<|Þ (fA (Ś ["Yard"] "days")<|Â 0) Ö)))))
def kS:MF:=Č 2 3 qF
def qW:M Fl:=(å (ĉ 2<|vx cJ (Â 1)<|É (mC<|.str " ") æ)
 (å (aZ (Ϻ<|Ë Œ (Ë ã (Â 2)<|Æ 0)<|mC<|.str "put")
 (å (fH 0 ["Desk"] "yard" (Ý<|Ü dP<|Þ (fA (Ś ["Desk"] "yard")<|Â 0)<|È 2 Ö))
 (ý<|Ŋ<|mC<|.str "ok"))
 bZ)
 (å (aZ (Ϻ<|Ë Œ (Ë ã (Â 2)<|Æ 0)<|mC<|.str "take")
 (å (fH 0 ["Desk"] "yard" (Ý<|Ü kS<|Þ (fA (Ś ["Desk"] "yard")<|Â 0)<|È 2 Ö))
 (ý<|Ŋ<|mC<|.str "ok"))
 bZ)
 (ý<|Ü jJ<|Þ (fA (Ś ["Desk"] "yard")<|Â 0)<|È 2 Ö))))
def gO:MM:=uK 2 3 "Desk" qW
def qa:M Fl:=(å (ĉ 2<|vx cJ (Â 1)<|É (mC<|.str " ") æ)
 (å (aZ (Ϻ<|Ë Œ (Ë ã (Â 2)<|Æ 0)<|mC<|.str "put")
 (å dA
 (ý<|Ŋ<|mC<|.str "ok"))
 bZ)
 (å (aZ (Ϻ<|Ë Œ (Ë ã (Â 2)<|Æ 0)<|mC<|.str "take")
 (å dA
 (ý<|Ŋ<|mC<|.str "ok"))
 bZ)
 (ý<|Ü jJ<|Þ (fA (Ś ["Desk"] "yard")<|Â 0)<|È 2 Ö))))
def ų:MF:=Č 2 3 qa
def ϵ:M Fl:=(aZ (Ϻ<|Ë Œ (Ë ei (Ë ll (Â 2)<|Â 5)<|Æ 1)<|Æ 1)
 (qM<|zh 4 "Desk" "say" gO (É (Ý<|Ü ġ<|Þ (Ý<|ċ Ă (Ý<|cH<|É (mC<|.str "put") æ)<|Ë ã (Ë ã (Â 1)<|Â 5)<|Æ 0) Ö) æ))
 bZ)
def jK:M Fl:=(zi 4 "Desk" tH (È 0 Ö)
 (å (cW (ύ Ϥ<|É (aG am<|É (Â 1) æ) æ) (gN 5) ϵ)
 (DP 4<|ý<|Ŋ<|Ý<|Ħ [4] 1 (ύ Ϥ<|É (ì 3) æ) (gN 1) ė (Ý<|vx cJ (Ý<|kH "say" [("Desk",ų)] (ì 0) (Þ (Ý<|ċ Ă (mC<|.str "dark one ")<|aG jy<|É (Â 1) æ) Ö))<|É (mC<|.str "/") æ))))
def ay:MF:=Č 4 6 jK
def ŭ:M Fl:=(å (ĉ 6<|Ü ļ<|Þ (Ý<|Ü ay<|È 0<|È 1<|È 5<|È 3 Ö)<|È 2 Ö)
 (å (aZ (qm (Ϻ<|Ë cX (Ë ã (Ë ã (Â 4)<|Æ 3)<|Â 5)<|Â 6)<|nu (bL<|aG rl<|É (Â 6)<|É (mC<|.ty "int") æ)<|bL<|aG rl<|É (Ë ã (Ë ã (Â 4)<|Æ 3)<|Â 5)<|É (mC<|.ty "bool") æ)
 (ý<|Ŋ<|mC<|.bl false)
 bZ)
 (å (ĉ 7<|Ü gJ<|È 1<|È 5 Ö)
 (aZ (nu (Ϻ<|Ë pB (Â 6)<|mC .non)<|qm (Ϻ<|Ë lm (Â 7)<|Ë ã (Â 4)<|Æ 2)<|nu (Ϻ<|Ë Œ (Â 7)<|Ë ã (Â 4)<|Æ 2)<|Ϻ<|Ë lm (Â 5)<|Ë ã (Â 4)<|Æ 1)
 (ý<|Ŋ<|mC<|.bl false)
 bZ))))
def fM:M Fl:=(å (aZ (qm (gw<|bL<|aG rl<|É (Ë ã (Â 4)<|Æ 3)<|É (mC<|.ty "list") æ)<|Ϻ<|Ë cX (aG am<|É (Ë ã (Â 4)<|Æ 3) æ)<|Ë ph (Æ 1)<|aG am<|É (Â 1) æ)
 (ý<|Ŋ<|mC<|.bl false)
 bZ)
 (å (cW (ύ Ϥ<|É (aG am<|É (Ë ã (Â 4)<|Æ 3) æ) æ) (gN 5) ŭ)
 (ý<|Ŋ<|gW (Ë pB (Ë ã (Ë ã (Â 4)<|Æ 3)<|Ë ã (Â 4)<|Æ 1)<|mC .non)<|Ë Œ (Ë ã (Â 4)<|Æ 2)<|Ý<|Ü gJ<|È 1<|Þ (Ë ã (Â 4)<|Æ 1) Ö)))
def ag:MF:=Č 5 8 fM
def Ź:M Fl:=(å (Ix (gS 2<|ï (gN 7)<|ï (gN 8) ř)<|aG iF<|É (Â 3)<|É (Æ 4099) æ)
 (ĉ 3<|Ŋ<|Ë ħ (Ý<|ċ Ă (Ý<|ċ Ă (Ý<|ċ Ă (Ë ď (Â 8)<|Æ 240007)<|Ë ď (Â 7)<|Æ 89)<|Ë ď (Æ 1201)<|aG am<|É (Â 2) æ)<|Æ 11)<|Æ 998244353))
def bA:M Fl:=(aH (Ϻ<|Ë lm (aG am<|É (Â 2) æ)<|Â 1)
 (å (cW (ύ Ϥ<|É (Æ 2) æ) (gN 5) Ź)
 (ug 2<|Ë dY (Â 3)<|Æ 5)))
def bB:M Fl:=(å (Ix (gS 2<|ï (gN 3)<|ï (gN 6) ř)<|aG iF<|É (Â 3)<|É (Ë vU (Æ 10)<|Æ 9) æ)
 (ug 2<|ì 6))
def gP:M Fl:=(å (ĉ 2<|cH æ)
 (å (ĉ 3<|Ŋ<|Ë dY (Â 0)<|Æ 2)
 (å (cW (ύ Ϥ<|É (Ë ď (Â 1)<|Ë ŝ (Æ 1)<|Ë ħ (Â 0)<|Æ 2) æ) (gN 4) bB)
 (å (ĉ 3<|ċ Ă (Ë ħ (Â 3)<|Æ 998244341)<|Æ 5)
 (å bA
 (ý<|bV 2))))))
def Ŵ:MF:=Č 2 9 gP
def V5:M Fl:=(å (aZ (Ϻ<|Ë Œ (Ë ħ (Ë ã (Â 3)<|Æ 0)<|Æ 5)<|Æ 0)
 (ý<|cH<|É (mC<|.str "post")<|É (Ë ŝ (Ë ħ (Ë ã (Â 3)<|Æ 1)<|Ý<|ċ Ă (Â 1)<|Æ 2)<|Æ 1)<|É (Ë ŝ (Ë ħ (Ë ã (Â 3)<|Æ 2)<|Ý<|ċ Ă (Â 2)<|Æ 2)<|Æ 1)<|É (ì 8) æ)
 bZ)
 (å (aZ (Ϻ<|Ë Œ (Ë ħ (Ë ã (Â 3)<|Æ 0)<|Æ 5)<|Æ 1)
 (å (ĉ 10<|Ŋ<|Ë ã (Ý<|cH<|É (Ŧ<|É (ì 6)<|É (ì 5) æ)<|É (Ŧ<|É (ì 6)<|É (ì 7) æ)<|É (Ŧ<|É (ì 4)<|É (ì 7) æ)<|É (Ŧ<|É (Ë ŝ (Â 4)<|Æ 2)<|É (ì 7) æ) æ)<|Ë ħ (Ë ã (Â 3)<|Æ 7)<|Æ 4)
 (ý<|cH<|É (mC<|.str "fence")<|É (ì 4)<|É (ì 5)<|É (Ë ã (Â 10)<|Æ 0)<|É (Ë ã (Â 10)<|Æ 1)<|É (ì 8) æ))
 bZ)
 (å (aZ (Ϻ<|Ë Œ (Ë ħ (Ë ã (Â 3)<|Æ 0)<|Æ 5)<|Æ 2)
 (ý<|cH<|É (mC<|.str "sail")<|É (ì 4)<|É (ì 5)<|É (ì 6)<|É (ì 7)<|É (ì 8) æ)
 bZ)
 (å (aZ (Ϻ<|Ë Œ (Ë ħ (Ë ã (Â 3)<|Æ 0)<|Æ 5)<|Æ 3)
 (ý<|cH<|É (mC<|.str "house")<|É (ì 4)<|É (ì 5)<|É (ì 6)<|É (ì 7)<|É (ì 8) æ)
 bZ)
 (å (ĉ 9<|Ŋ<|Ë ď (Ë ħ (Ë ã (Â 3)<|Æ 10)<|Æ 7)<|Ë ħ (Ë ã (Â 3)<|Æ 6)<|Æ 2)
 (ý<|cH<|É (mC<|.str "cloth")<|É (ì 4)<|É (ì 5)<|É (Ë ħ (Ë ã (Â 3)<|Æ 5)<|Æ 7)<|É (ì 6)<|É (Ý<|ċ Ă (Ë ŝ (Â 5)<|Æ 2)<|Ë ħ (Ë ã (Â 3)<|Æ 7)<|Æ 5)<|É (Ë ħ (Ë ã (Â 3)<|Æ 8)<|Æ 7)<|É (Ý<|ċ Ă (Ë ŝ (Â 4)<|Æ 3)<|Ë ħ (Ë ã (Â 3)<|Æ 9)<|Æ 7)<|É (ì 7)<|É (ì 9) æ))))))
def qG:M Fl:=(å (ĉ 3<|Ü Ŵ<|È 0<|Þ (Æ 11) Ö)
 (å (ĉ 4<|Ŋ<|Ë ŝ (Ë ħ (Ë ã (Â 3)<|Æ 1)<|Ý<|ċ Ă (Ë ď (Æ 2)<|Â 1)<|Æ 7)<|Æ 4)
 (å (ĉ 5<|Ŋ<|Ë ŝ (Ë ħ (Ë ã (Â 3)<|Æ 2)<|Ý<|ċ Ă (Ë ď (Æ 2)<|Â 2)<|Æ 7)<|Æ 4)
 (å (ĉ 6<|ċ Ă (Ý<|ċ Ă (Â 4)<|Æ 1)<|Ë ħ (Ë ã (Â 3)<|Æ 3)<|Æ 5)
 (å (ĉ 7<|ċ Ă (Ý<|ċ Ă (Â 5)<|Æ 1)<|Ë ħ (Ë ã (Â 3)<|Æ 4)<|Æ 5)
 (å (ĉ 8<|ċ Ă (Æ 1)<|Ë ħ (Ë ã (Â 3)<|Æ 5)<|Æ 8)
 (å (aZ (Ϻ<|Ë Œ (Ë ħ (Ë ã (Â 3)<|Æ 6)<|Æ 8)<|Æ 5)
 (ĉ 8<|Ŋ<|Ë ŝ (Ë vU (Æ 10)<|Æ 9)<|Ë ħ (Ë ã (Â 3)<|Æ 5)<|Æ 1000)
 bZ)
 V5)))))))
def Ŭ:MF:=Č 3 11 qG
def dQ:M Fl:=(å (ĉ 1<|Ü Ŵ<|È 0<|Þ (Æ 4) Ö)
 (å (aZ (Ϻ<|Ë Œ (Ë ħ (Ë ã (Â 1)<|Æ 3)<|Æ 6)<|Æ 4)
 (ý<|Ŋ<|mC .non)
 bZ)
 (å (aZ (Ϻ<|Ë Œ (Ë ħ (Ë ã (Â 1)<|Æ 3)<|Æ 6)<|Æ 5)
 (ý<|Ŋ<|Ŧ<|É (Ë ŝ (Ë ħ (Ë ã (Â 1)<|Æ 0)<|Æ 2000001)<|Æ 1000000)<|É (Ë ŝ (Ë ħ (Ë ã (Â 1)<|Æ 1)<|Æ 2000001)<|Æ 1000000)<|É (Ý<|ċ Ă (Æ 1)<|Ë ħ (Ë ã (Â 1)<|Æ 2)<|Æ 1000000) æ)
 bZ)
 (ý<|Ŋ<|Ŧ<|É (Ë ŝ (Ë ħ (Ë ã (Â 1)<|Æ 0)<|Æ 7)<|Æ 3)<|É (Ë ŝ (Ë ħ (Ë ã (Â 1)<|Æ 1)<|Æ 7)<|Æ 3)<|É (Ý<|ċ Ă (Æ 1)<|Ë ħ (Ë ã (Â 1)<|Æ 2)<|Æ 3) æ))))
def ϡ:MF:=Č 1 2 dQ
def zp:M Fl:=(å (ĉ 14<|ċ Ă (Ý<|Ü ņ<|È 0<|Þ (Ý<|ċ Ă (Æ 9)<|Â 8) Ö)<|Â 8)
 (ug 9<|Ŧ<|É (Ŧ<|É (Ë ħ (Â 14)<|Â 1)<|É (Ë ħ (Ë dY (Â 14)<|Æ 4)<|Â 2) æ)<|É (Æ 0)<|É (Ë ħ (Ë dY (Â 14)<|Æ 16)<|aG am<|É (Â 5) æ) æ))
def zq:M Fl:=(å (ĉ 14<|ċ Ă (Ý<|Ü ņ<|È 0<|Þ (Ý<|ċ Ă (Æ 4)<|Â 8) Ö)<|Â 8)
 (å (ĉ 15<|Ŋ<|Ë ã (Ý<|cH<|É (Ë ħ (Â 14)<|Æ 21)<|É (Ë ħ (Â 14)<|Æ 21)<|É (Ë ħ (Â 14)<|Ý<|ċ Ă (Ë vU (Æ 10)<|Æ 9)<|Æ 1)<|É (Æ 1) æ)<|Ë ħ (Ë dY (Â 14)<|Æ 21)<|Æ 4)
 (ug 7<|Ŧ<|É (Ý<|Ü Ŭ<|Þ (Ë dY (Â 14)<|Æ 84)<|È 1<|È 2 Ö)<|É (ì 15) æ)))
def BG:M Fl:=(å (ĉ 1<|ċ Ă (Æ 1)<|Ë ħ (Ý<|Ü ņ<|È 0<|Þ (Æ 0) Ö)<|Æ 3)
 (å (ĉ 2<|ċ Ă (Æ 1)<|Ë ħ (Ë dY (Ý<|Ü ņ<|È 0<|Þ (Æ 0) Ö)<|Æ 4)<|Æ 3)
 (å (ĉ 3<|Ü ņ<|È 0<|Þ (Æ 1) Ö)
 (å (ĉ 4<|Ħ [1,2,0] 1 (ύ Ϥ<|É (Ë ħ (Â 3)<|Æ 2) æ) (gN 3) ė (Ý<|Ü Ŭ<|Þ (Ý<|ċ Ă (Ý<|Ü ņ<|È 2<|Þ (Æ 2) Ö)<|Â 3)<|È 0<|È 1 Ö))
 (å (ĉ 5<|Ħ [0] 1 (ύ Ϥ<|É (Ý<|ċ Ă (Æ 1)<|Ë ħ (Ë dY (Â 3)<|Æ 2)<|Æ 3) æ) (gN 1) ė (Ý<|Ü ϡ<|Þ (Ý<|ċ Ă (Ý<|Ü ņ<|È 0<|Þ (Æ 3) Ö)<|Ë ď (Ë ď (Æ 5)<|Â 1)<|Â 1) Ö))
 (å (ĉ 6<|Ü bN<|È 1<|È 2<|È 4<|Þ (Ý<|cH<|É (Ŧ<|É (mC<|.str "one")<|É (Æ 1)<|É (ì 5) æ) æ) Ö)
 (å (ĉ 7<|cH æ)
 (å (cW (ύ Ϥ<|É (Ý<|ċ Ă (Æ 1)<|Ë ħ (Ë dY (Â 3)<|Æ 8)<|Æ 4) æ) (gN 8) zq)
 (å (ĉ 9<|cH æ)
 (å (cW (ύ Ϥ<|É (Ý<|ċ Ă (Æ 1)<|Ë ħ (Ë dY (Â 3)<|Æ 40)<|Æ 6) æ) (gN 8) zp)
 (å (ĉ 10<|Ħ [] 2 (Ķ 7) (gT 2<|ï (gN 0)<|ï (gN 1) ř) ė (Ŧ<|É (Ý<|Ü Ő<|Þ (Ë ã (Â 0)<|Æ 0)<|Þ (Ý<|tu (Â 0) (mP<|Æ 1) nn) Ö)<|É (ì 1) æ))
 (å (ĉ 11<|Ü iL<|Þ (Ý<|Ü cU<|È 6 Ö)<|È 10<|Þ (Ý<|rh iE<|É (Â 9) æ) Ö)
 (å (ĉ 12<|Ŋ<|Ë ŝ (Ë ph (Æ 1)<|aG am<|É (Â 7) æ)<|Æ 1)
 (å (ĉ 13<|Ü ļ<|Þ (Ý<|Ü ay<|È 6<|È 7<|È 12<|Þ (aG am<|É (Â 5) æ) Ö)<|È 9 Ö)
 (å (aZ (Ϻ<|Ë mS (Â 13)<|mC .non)
 (ý<|Ŋ<|Ë Œ (Â 11)<|Ŧ<|É (mC<|.str "none")<|É (ì 13) æ)
 bZ)
 (å (aZ (qm (gw<|bL<|aG rl<|É (Â 11)<|É (mC<|.ty "tuple") æ)<|qm (Ϻ<|Ë cX (aG am<|É (Â 11) æ)<|Æ 4)<|Ϻ<|Ë cX (Ë ã (Â 11)<|Æ 0)<|mC<|.str "choice")
 (ý<|Ŋ<|mC<|.bl false)
 bZ)
 (å (aZ (gw<|Ϻ<|nk fi fi (Æ 0) (Ë ã (Â 11)<|Æ 1)<|Â 12)
 (ý<|Ŋ<|mC<|.bl false)
 bZ)
 (ý<|Ü ag<|È 6<|È 7<|È 9<|Þ (aG am<|É (Â 5) æ)<|È 11 Ö))))))))))))))))))
def AD:MF:=Č 1 16 BG
abbrev Df(V:VE)(i:Nat)(x:String)(mf:MF)(k:Nat):Prop:=Dn V x (top i) (E2<|top i) mf k
abbrev Dv(V:VE)(i:Nat)(x:String)(mf:MW)(k:Nat):Prop:=Dw V x (top i) (E2<|top i) mf k
section
seal PE PT PW PA PS bC PG AH PI CQ
def okL{V:VE}{fa:À}(_:Gz V.mg "abs")(_:Gz V.mg "all")(_:Gz V.mg "bool")(_:Gz V.mg "divmod")(_:Gz V.mg "enumerate")(_:Gz V.mg "int")(_:Gz V.mg "isinstance")(_:Gz V.mg "len")(_:Gz V.mg "list")(_:Gz V.mg "max")(_:Gz V.mg "min")(_:Gz V.mg "range")(_:Gz V.mg "str")(_:Gz V.mg "sum")(_:Gz V.mg "tuple")(_:Gz V.mg "zip")(_:Gc V "Yard")(_:Gc V "Thing")(_:Gc V "Post")(_:Gc V "Fence")(_:Gc V "Sail")(_:Gc V "Cloth")(_:Gc V "House")(_:Gc V "Desk")(_:Gc V "ROWS")(_:Gc V "answer_show")(_:Gc V "answer_who")(_:Gc V "answer_lit")(_:Gc V "answer_hours")(_:Gc V "answer_first")(_:Gc V "answer_walk")(_:Gc V "answer_dial")(_:Gs V.mg "FIGURES" "0123456789")(_:Gs V.mg "LETTERS" "abcdefghijklmnopqrstuvwxyz")(_:Gi V.mg "MOST_DAYS" (12))(_:Gi V.mg "MOST_FIGURES" (10))(_:Gi V.mg "MOST_HEIGHT" (1000000000))(_:Gi V.mg "MOST_LETTERS" (8))(_:Gi V.mg "MOST_PLACE" (1000000000))(_:Gi V.mg "MOST_RAY" (1000000))(_:Gi V.mg "MOST_SIDE" (20))(_:Gi V.mg "MOST_THINGS" (40))(_:Gi V.mg "MOST_TIMES" (1000000000))(_:Gi V.mg "MOST_TURNS" (24))(_:Gc V "answer_dark")(_:Kc V "Yard")(_:Na V "Yard" "width")(_:Na V "Yard" "height")(_:Na V "Yard" "things")(_:Na V "Yard" "days")(_:Kc V "Thing")(_:Na V "Thing" "word")(_:Na V "Thing" "numbers")(_:Kc V "Post")(_:Na V "Post" "word")(_:Na V "Post" "numbers")(_:Kc V "Fence")(_:Na V "Fence" "word")(_:Na V "Fence" "numbers")(_:Kc V "Sail")(_:Na V "Sail" "word")(_:Na V "Sail" "numbers")(_:Kc V "Cloth")(_:Na V "Cloth" "word")(_:Na V "Cloth" "numbers")(_:Kc V "House")(_:Na V "House" "word")(_:Na V "House" "numbers")(_:Kc V "Desk")(_:Na V "Desk" "yard")(_:zg V.K V.cm V.w.params (V.cm "ROWS") ZK)(_:V.mg "law"=some (.ref fa))(d0:Df V 161 "_law_part" ņ 0)
 (d1:Df V 165 "_law_joined" ġ 0)
 (d2:Df V 166 "_law_yard_text" bN 1)
 (d3:Df V 63 "has_stone" iI 0)
 (d4:Df V 66 "check_stone" eV 1)
 (d5:Df V 65 "has_day" cR 0)
 (d6:Df V 64 "turns_of" ϟ 0)
 (d7:Df V 68 "check_turn" ϻ 1)
 (d8:Df V 70 "check_wants" eW 2)
 (d9:Df V 3 "chosen" fj 0)
 (d10:Dl V "cheapest" (top 5) kx 3)
 (d11:Df V 2 "least_missing" Ϗ 0)
 (YD:Df V 4 "met_by" lA 1)
 (YE:De V "least_choice" (top 6) ["prices","covers","many","base","paper","choice"] 0 bo 4)
 (YF:Df V 1 "set_of_true" ca 0)
 (YG:Df V 21 "box_lines" iJ 0)
 (d16:Df V 23 "each_once" iK 0)
 (d17:Df V 22 "line_through" dH 0)
 (d18:Df V 20 "holds" ky 0)
 (d19:Df V 24 "edge_lines" ga 1)
 (d20:Df V 25 "lines_about" cb 2)
 (V6:Df V 26 "parting_line" bq 3)
 (d22:Df V 32 "pairs_below" ci 0)
 (YH:Df V 33 "triples_below" cF 1)
 (YI:Df V 17 "greatest_divisor" aa 0)
 (YJ:Df V 18 "ratio" kz 1)
 (d26:Dn V "spread" (top 31) ["shares","places","many","whole","weights","share","place"] cj 2)
 (d27:Df V 27 "turned" jB 0)
 (d28:Df V 28 "shares_of_three" Ϛ 1)
 (d29:Df V 30 "are_weights" Ϡ 0)
 (d30:Df V 29 "shares_of_two" aq 0)
 (Sy:Df V 34 "weights_of" bR 3)
 (V7:Df V 35 "held" uQ 4)
 (d33:Df V 41 "cast" nZ 0)
 (YK:Df V 86 "level_corners" ϐ 0)
 (YL:Df V 87 "block_corners" ar 1)
 (d36:Dh V "Post" "corners" "Post.corners" (Ϯ (top 89) 0) br 2)
 (d37:Dh V "Fence" "corners" "Fence.corners" (Ϯ (top 90) 0) au 0)
 (d38:Dh V "Sail" "corners" "Sail.corners" (Ϯ (top 91) 0) bt 1)
 (d39:Dh V "Cloth" "corners" "Cloth.corners" (Ϯ (top 92) 0) av 0)
 (d40:Dh V "House" "corners" "House.corners" (Ϯ (top 93) 0) ax 2)
 (V8:Df V 44 "corner_casts" ϴ 3)
 (V9:Df V 42 "stone_cast" gb 1)
 (Wa:Df V 45 "shading" m_ 5)
 (d44:Df V 46 "shades" fk 6)
 (YM:Df V 72 "gives_shade" aB 7)
 (d46:Df V 73 "met_by_thing" bu 8)
 (d47:Df V 53 "is_dark" aC 7)
 (d48:Df V 71 "met_at_once" eZ 8)
 (d49:Df V 74 "keep_dark" iL 9)
 (d50:Df V 167 "_law_first_lit_want" ļ 0)
 (Wb:Df V 169 "_law_sum" gJ 0)
 (Wc:Df V 122 "is_made_of" ae 0)
 (We:Df V 123 "is_number" ϛ 1)
 (Wf:Df V 125 "numbers_of" dJ 2)
 (d55:Df V 127 "numbers_in" af 3)
 (d56:Df V 128 "read_size" iM 4)
 (d57:Df V 132 "lacks_turns" Ų 0)
 (d58:Di V "Yard" "Yard.__init__" (Ϯ (top 62) 0) ge 0)
 (d59:Df V 40 "is_ray" pX 0)
 (d60:Df V 131 "read_turn" fq 4)
 (d61:Dv V 135 "take_turn" iN 5)
 (d62:Df V 124 "is_name" nc 1)
 (d63:Df V 130 "read_day" kD 4)
 (d64:Dv V 134 "take_day" kE 5)
 (d65:Df V 78 "is_place" bv 0)
 (d66:Df V 79 "is_height" fu 0)
 (d67:Df V 81 "makes_post" gf 1)
 (d68:Di V "Thing" "Thing.__init__" (Ϯ (top 88) 0) G3 0)
 (d69:Di V "Post" "Thing.__init__" (Ϯ (top 88) 0) zl 0)
 (d70:Di V "Fence" "Thing.__init__" (Ϯ (top 88) 0) uT 0)
 (d71:Di V "Sail" "Thing.__init__" (Ϯ (top 88) 0) zm 0)
 (d72:Di V "Cloth" "Thing.__init__" (Ϯ (top 88) 0) uU 0)
 (d73:Di V "House" "Thing.__init__" (Ϯ (top 88) 0) uV 0)
 (d74:Df V 82 "has_two_ends" bz 1)
 (d75:Df V 83 "makes_fence" fb 2)
 (d76:Df V 84 "makes_sail_or_house" ś 2)
 (d77:Df V 80 "is_cloth_corner" bf 1)
 (d78:Df V 85 "makes_cloth" fc 2)
 (d79:Df V 94 "thing_of" Ő 3)
 (d80:Df V 129 "read_thing" gh 4)
 (d81:Dv V 133 "take_thing" dN 5)
 (d82:Dv V 136 "take_row" Ī 6)
 (d83:Df V 137 "read_yard" cU 7)
 (d84:Di V "Desk" "Desk.__init__" (Ϯ (top 159) 0) tH 8)
 (gR:Df V 155 "numbers_behind" Ň 3)
 (d86:Df V 48 "span_bits" cV 0)
 (d87:Df V 49 "row_bits" gL 1)
 (d88:Df V 50 "dark_of" gn 4)
 (d89:Df V 51 "darks_of_things" bg 5)
 (d90:Df V 52 "dark" qE 6)
 (d91:Df V 145 "answer_dark" ck 7)
 (d92:Df V 141 "name_of" nh 0)
 (d93:Df V 142 "day_called" bS 1)
 (d94:Df V 156 "answer" jJ 8)
 (d95:Df V 157 "with_thing" dP 4)
 (d96:Df V 158 "without_thing" kS 4)
 (d97:Dq V "Desk" "say" "Desk.say" (Ϯ (top 159) 1) gO 9)
 (d98:Dh V "Desk" "say" "Desk.say" (Ϯ (top 159) 1) ų 9)
 (d99:Df V 168 "_law_pictures" ay 10)
 (Wg:Df V 170 "_law_paper_right" ag 11)
 (Wh:Dn V "_law_spread" (top 162) ["_law_number","_law_many","_law_found","_law_rest","_law_k","_law_turn","_law_digits","_law_upper","_law_lower"] Ŵ 0)
 (Wi:Dn V "_law_thing_by" (top 163) ["_law_number","_law_width","_law_height","_law_xs","_law_x","_law_y","_law_u","_law_v","_law_h","_law_high","_law_end"] Ŭ 1)
 (Wj:Df V 164 "_law_ray_by" ϡ 1)
 (Wk:Dn V "law" (top 171) ["_law_script","_law_width","_law_height","_law_number","_law_things","_law_turns","_law_text","_law_offers","_law_k","_law_wants","_law_handed","_law_found","_law_every","_law_late","_law_cell","_law_price"] AD 12):
 Qs V fa "_law_script" 13 AD:=by
 refine ϳ d0 rfl (λS x hr hu=>Û (ϣ ĥ rfl (gx<|ò<|ſ (Ä 0) (Ű<|v_var 1)<|Ű<|v_add (Ä 1) Ê) (Ϟ S)<|Į<|Ŏ yB yP gz sk<|ß (Ä 2) ð)<|Į Ġ) λx=>?_;refine ϳ d1 rfl (λS x hr hu=>Į<|Ez dr sM sN tw tj ϥ<|ß (í<|ò<|eo (Ť 0) Ÿ Ĭ<|GR DJ DK gz Cd<|ß (Ä 0) ð) ð) λx=>?_;refine ϳ d2 rfl (λS x hr hu=>ě S (jv (í<|ò<|ϋ<|Í (ò<|ù hr<|Ù (ò<|ϋ<|Í ϶<|Í (v_var 0)<|Í (v_var 1) õ) Õ) õ)<|í<|ò<|eo (Ť 2) Ÿ Ĭ<|ò<|ù hr<|Ó 0 Õ)<|Û (ϣ ĥ rfl (Ť 3) (jo rfl<|Ď (Ϟ S)<|Ď (Ϟ S)<|Ď (Ϟ S) bU)<|Û (PS.wk (ž<|fG aV bG cB ŵ (pv 4)<|Í (ò<|ù hr<|Ù (ò<|ϋ<|Í ϶<|Í (v_var 5)<|Í (v_var 6) õ) Õ) õ) λx x x h=>f_ h)<|ó<|ϣ ĥ rfl (Ť 7) (Ϟ S)<|ó<|ń (Ϸ pC kg (Ä 8) kJ<|Ĳ _) (ó<|PS.wk (ž<|fG aV bG cB ŵ (pv 4)<|Í ϶ õ) λx x x h=>f_ h)<|ó<|PS.wk (ž<|fG aV bG cB ŵ (pv 4)<|Í (ò<|ù hr<|Ù (v_add (í<|ò<|ϋ<|Í ϶ õ)<|í<|ò<|uC dB dC gz cy<|ß (Ä 8) ð) Õ) õ) λx x x h=>f_ h)<|Į<|Ez dr sM sN tw tj ϥ<|ß (Ä 4) ð) λx=>?_;refine ϳ d3 rfl (λS x hr hu=>Į<|v_and (pf ba gA aX gt Ê (ā (Ä 1) Ê)<|í<|ao<|Ä 0)<|iC<|pf ba gA aX gt Ê (ā (Ä 1) Ê)<|í<|ao<|Ä 0) λx=>?_;refine ϳ d4 rfl (λS x hr hu=>ó<|ń (iB<|Ϣ<|í<|ò<|ù hr<|Ó 0<|Ó 1 Õ) (ó ĺ) ą) λx=>?_;refine ϳ d5 rfl (λS x hr hu=>Į<|pf ba gA aX gt Ê (Ä 1)<|í<|Ŏ ĳ Ŀ gz Ę<|ß (í<|ao<|Ä 0) ð) λx=>?_;refine ϳ d6 rfl (λS x hr hu=>Į<|ō (ā (í<|ao<|Ä 0)<|Ä 1) Ê) λx=>?_;refine ϳ d7 rfl (λS x hr hu=>ó<|ń (PW.pt<|w_or (iB<|Ϣ<|í<|ò<|ù hr<|Ó 0<|Ó 1 Õ)<|lf<|iB<|C4 ba gA aX gt Ê (Ä 2)<|í<|Ŏ ĳ Ŀ gz Ę<|ß (í<|ò<|ù hr<|Ó 0<|Ó 1 Õ) ð) (ó ĺ) ą) λx=>?_;refine ϳ d8 rfl (λS x hr hu=>ó<|ϣ ĥ rfl (Ť 1) (jo rfl<|Ď (Ϟ S)<|Ď (Ϟ S)<|Ď (Ϟ S) bU)<|Û (yL<|ò<|ù hr<|Ó 0<|Ó 2 Õ)<|ó<|yL<|ò<|ù hr<|Ó 0<|Ó 3<|Ó 4 Õ) λx=>?_;refine ϳ d9 rfl (λS x hr hu=>Ĝ<|eo (Br rfl gz<|GH 0) (jo rfl<|Ď Ÿ<|Ď Ÿ bU) (Bh<|Ϣ<|í<|aY pi pj (í<|aY uk ul (Ä 0)<|Ä 1) Ê)<|v_var 2) λx=>?_;refine stl d10 rfl (λS x x x zA hr=>Į<|Mr (k:=1) ["prices"] [0] (ç<|top 5) (hr.mono<|by decide) rfl rfl (by simp[lams]) zA rfl rfl rfl gz (ß (Ä 1) ð) (λx x x x x hr hu=>Ŏ (uu rfl) uv gz oB<|ß (í<|ò<|ù hr<|Ó 0<|Ó 1 Õ) ð) ⟨rfl,⟨rfl,ϓ rfl⟩,trivial⟩) λx=>?_;refine ϳ d11 rfl (λS x hr hu=>Û (ϣ ĥ rfl (Ľ rfl gz<|Í (v_var 1) õ) (Ϟ S)<|ó<|ń (iB<|Ϣ<|í<|aY pi pj (í<|aY uk ul (Ä 0)<|Ä 2) Ê) (Ĝ<|dW 2) ą)<|Į ud) λx=>?_;refine ϳ YD rfl (λS x hr hu=>ě S (Ŷ<|v_var 2)<|Û (ϣ ĥ rfl (gx<|ò<|ù hr<|Ó 0<|Ó 1 Õ) (Ϟ S)<|ó<|yX (i:=3) S.nd rfl (ϓ rfl)<|v_var 4)<|Ĝ<|dW 3) λx=>?_;refine stD YE rfl (λS x hr hu=>Û (vv S (Ľ rfl gz<|Í (aY nQ nR Ê<|í<|Ŏ ĳ Ŀ gz Ę<|ß (Ä 0) ð) õ) Ÿ Ĭ<|ò<|ù hr<|Ù (ò<|ù hr<|Ó 1<|Ó 3<|Ó 2 Õ)<|Ó 0 Õ)<|Û (ń (Ϸ uo yr (ā (Ä 4)<|í<|vp iZ iU Ê) kJ<|Ĳ _) (Į<|Ņ<|Í ϶<|Í (ō (Ä 4)<|í<|vp iZ iU Ê) õ) ą)<|ě S (ù hr<|Ó 0<|Ù (ò<|eo (Br rfl gz<|GH 4) (jo rfl<|Ď Ÿ<|Ď Ÿ bU) (Bh<|Ϸ pC kg (Ä 1) kJ<|Ĳ _)<|v_var 0) Õ)<|Į<|Ņ<|Í ϶<|Í (v_var 5)<|Í (Ŏ (uu rfl) uv gz oB<|ß (í<|ò<|ù hr<|Ó 0<|Ó 5 Õ) ð)<|Í (v_var 4) õ) λx=>?_;refine ϳ YF rfl (λS x hr hu=>ě S (Ŷ Ġ)<|Û (ϣ ĥ rfl (Br rfl gz<|GH 0) (jo rfl<|Ď (Ϟ S)<|Ď (Ϟ S) bU)<|ó<|ń (Ϣ<|Ä 3) (ó<|yX (i:=1) S.nd rfl (ϓ rfl)<|aY nQ nR Ê<|Ä 2) ą)<|Ĝ<|dW 1) λx=>?_;refine ϳ YG rfl (λS x hr hu=>Û (vv S (Ť 0) Ÿ Ĭ<|ō (Ä 0) Ê)<|Û (vv S (Ť 0) Ÿ Ĭ<|ō (Ä 0) Ê)<|Ĝ<|ϋ<|Í (Ņ<|Í Ġ<|Í Ġ<|Í (Ŏ (GA rfl) GC gz xy<|ß (Ä 1) ð) õ)<|Í (Ņ<|Í (vp iZ iU Ê)<|Í Ġ<|Í (vp iZ iU<|í<|Ŏ (GB rfl) GD gz xz<|ß (Ä 1) ð) õ)<|Í (Ņ<|Í Ġ<|Í Ġ<|Í (Ŏ (GA rfl) GC gz xy<|ß (Ä 2) ð) õ)<|Í (Ņ<|Í Ġ<|Í (vp iZ iU Ê)<|Í (vp iZ iU<|í<|Ŏ (GB rfl) GD gz xz<|ß (Ä 2) ð) õ) õ) λx=>?_;refine ϳ d16 rfl (λS x hr hu=>ě S (ϋ õ)<|Û (ϣ ĥ rfl (Ť 0) (Ϟ S)<|ó<|ń (Ϸ GL (EE hu) (Ä 2) (Ä 1)<|by with_unfolding_all rfl) (ó<|PS.wk (ž<|fG aV bG cB ŵ (pv 1)<|Í (v_var 2) õ) λx x x h=>f_ h) ą)<|Ĝ<|dW 1) λx=>?_;refine ϳ d17 rfl (λS x hr hu=>ě S (Ŷ<|v_sub (ā (Ä 1) Ê)<|ā (Ä 0) Ê)<|ě S (Ŷ<|v_sub (ā (Ä 0) Ê)<|ā (Ä 1) Ê)<|Į<|Ņ<|Í (v_var 2)<|Í (v_var 3)<|Í (v_add (ϸ (Ä 2)<|ā (Ä 0) Ê)<|ϸ (Ä 3)<|ā (Ä 0) Ê) õ) λx=>?_;refine ϳ d18 rfl (λS x hr hu=>Į<|jl ba aX (gB (ϸ (ā (Ä 0) Ê)<|ā (Ä 1) Ê)<|ϸ (ā (Ä 0) Ê)<|ā (Ä 1) Ê) (ā (Ä 0) Ê)<|Ĳ _) λx=>?_;refine ϳ d19 rfl (λS x hr hu=>ě S (ϋ õ)<|ě S (ù hr<|Ó 0 Õ)<|Û (ϣ ĥ rfl (Ť 2) (Ϟ S)<|ó<|ϣ ĥ rfl (Ť 2) (Ϟ S)<|ě S (ù hr<|Ó 3<|Ó 4 Õ)<|ó<|ń (PW.pt<|w_and (qy hu (Ä 3)<|Ä 4)<|km<|Ϣ<|í<|Ŏ (nN rfl) nS gz jS<|ß (í<|ò<|eo (Ť 2) Ÿ Ĭ<|ò<|ù hr<|Ó 0<|Ó 1 Õ) ð) (ó<|PS.wk (ž<|fG aV bG cB ŵ (pv 1)<|Í (v_var 5) õ) λx x x h=>f_ h) ą)<|Ĝ<|dW 1) λx=>?_;refine ϳ d20 rfl (λS x hr hu=>Ĝ<|jv (í<|ò<|ù hr<|Ó 0 Õ)<|í<|ò<|ù hr<|Ó 0 Õ) λx=>?_;refine ϳ V6 rfl (λS x hr hu=>Û (ϣ ĥ rfl (gx<|ò<|ù hr<|Ó 0 Õ) (Ϟ S)<|ó<|ń (iB<|Ϣ<|í<|ò<|ù hr<|Ó 2<|Ó 1 Õ) (Ĝ<|dW 2) ą)<|Į ud) λx=>?_;refine ϳ d22 rfl (λS x hr hu=>ě S (ϋ õ)<|Û (ϣ ĥ rfl (Ľ rfl gz<|Í (v_var 0) õ) (Ϟ S)<|ó<|PS.wk (ž<|fG aV xP Cs vK (pv 1)<|ϭ (eo (Ľ rfl gz<|Í (v_var 2) õ) Ÿ Ĭ<|Ņ<|Í (v_var 1)<|Í (v_var 0) õ) cG) λx x x h=>DB h)<|Ĝ<|dW 1) λx=>?_;refine ϳ YH rfl (λS x hr hu=>ě S (ϋ õ)<|Û (ϣ ĥ rfl (Ľ rfl gz<|Í (v_var 0) õ) (Ϟ S)<|ó<|PS.wk (ž<|fG aV xP Cs vK (pv 1)<|ϭ (eo (gx<|ò<|ù hr<|Ó 2 Õ) Ÿ Ĭ<|Ņ<|Í (ō (Ä 1) Ê)<|Í (ō (Ä 1) Ê)<|Í (v_var 0) õ) cG) λx x x h=>DB h)<|Ĝ<|dW 1) λx=>?_;refine ϳ YI rfl (λS x hr hu=>Û (C5 ĥ (qy hu (Ä 1) Ê)<|ě S (Ŷ<|v_mod (Ä 0)<|Ä 1)<|ě S (Ŷ<|v_var 1)<|ó<|Bw S<|Ŷ<|v_var 2)<|Į<|Ŏ yB yP gz sk<|ß (Ä 0) ð) λx=>?_;refine ϳ YJ rfl (λS x hr hu=>Û (ń (dS hu (Ä 1) Ê) (ó ĺ) ą)<|ě S (ù hr<|Ó 0<|Ó 1 Õ)<|Û (ń (Ϸ gA gt (Ä 1) Ê<|Ĳ _) (ó<|Bw S<|Ŷ<|vp iZ iU<|Ä 2) ą)<|Į<|Ņ<|Í (wv (Ä 0)<|Ä 2)<|Í (wv (Ä 1)<|Ä 2) õ) λx=>?_;refine ϳ d26 rfl (λS x hr hu=>ě S (Ŷ<|Ŏ (uu rfl) uv gz oB<|ß (Ä 0) ð)<|Û (vv S (Ľ rfl gz<|Í (v_var 2) õ) Ÿ Ĭ<|ò<|ù hr<|Ù Ġ<|Ó 0 Õ)<|Û (ϣ ĥ rfl (Pr rfl gz (J8 0)<|J8 1) (jo rfl<|Ď (Ϟ S)<|Ď (Ϟ S) bU)<|ó<|Iy (i:=4) (ò<|ù hr<|Ó 5<|Ó 3 Õ) (v_var 6)<|pv 4)<|Ĝ<|dW 4) λx=>?_;refine ϳ d27 rfl (λS x hr hu=>ě S (Ŷ<|v_mul (pL (ā (Ä 1) Ê)<|ā (Ä 0) Ê)<|pL (ā (Ä 2) Ê)<|ā (Ä 0) Ê)<|Į<|v_sub (Ä 3)<|ϸ (pL (ā (Ä 1) Ê)<|ā (Ä 0) Ê)<|pL (ā (Ä 2) Ê)<|ā (Ä 0) Ê) λx=>?_;refine ϳ d28 rfl (λS x hr hu=>ě S (Ŷ<|ō (Ä 0) Ê)<|ě S (Ŷ<|ō (Ä 0) Ê)<|ě S (Ŷ<|ō (Ä 0) Ê)<|Ĝ<|ϋ<|Í (ò<|ù hr<|Ó 1<|Ó 3<|Ó 4 Õ)<|Í (ò<|ù hr<|Ó 2<|Ó 1<|Ó 4 Õ)<|Í (ò<|ù hr<|Ó 2<|Ó 3<|Ó 1 Õ) õ) λx=>?_;refine ϳ d29 rfl (λS x hr hu=>ě S (Ŷ<|Ŏ (uu rfl) uv gz oB<|ß (Ä 0) ð)<|Į<|v_and (jl Gm (A8 hu) (Ä 1) Ê<|Ĳ _)<|iC<|Ŏ (nN rfl) nS gz jS<|ß (í<|ò<|eo (Ť 0) Ÿ Ĭ<|jl OR Ov (ϸ (Ä 1)<|Ä 0) Ê<|Ĳ _) ð) λx=>?_;refine ϳ d30 rfl (λS x hr hu=>ě S (Ŷ<|v_sub (ā (ā (Ä 0) Ê) Ê)<|ā (ā (Ä 0) Ê) Ê)<|ě S (Ŷ<|v_sub (ā (ā (Ä 0) Ê) Ê)<|ā (ā (Ä 0) Ê) Ê)<|ě S (jv (ϸ (Ä 2)<|pL (ā (Ä 1) Ê)<|ā (ā (Ä 0) Ê) Ê)<|ϸ (Ä 3)<|pL (ā (Ä 1) Ê)<|ā (ā (Ä 0) Ê) Ê)<|Ĝ<|ϋ<|Í (v_sub (gB (ϸ (Ä 2)<|Ä 2)<|ϸ (Ä 3)<|Ä 3)<|Ä 4)<|Í (v_var 4) õ) λx=>?_;refine ϳ Sy rfl (λS x hr hu=>ě S (Ŷ<|Ŏ ĳ Ŀ gz Ę<|ß (Ä 0) ð)<|Û (ϣ ĥ rfl (gx<|ò<|ù hr<|Ó 2 Õ) (Ϟ S)<|ě S (ù hr<|Ù (ò<|eo (Ť 3) Ÿ Ĭ<|ō (Ä 0)<|Ä 1)<|Ó 1 Õ)<|ó<|ń (Ϣ<|í<|ò<|ù hr<|Ó 4 Õ) (Ĝ<|ù hr<|Ó 4<|Ó 3<|Ó 2 Õ) ą)<|Û (ϣ ĥ rfl (gx<|ò<|ù hr<|Ó 2 Õ) (Ϟ S)<|ě S (ù hr<|Ù (ò<|eo (Ť 3) Ÿ Ĭ<|ō (Ä 0)<|Ä 1)<|Ó 1 Õ)<|ó<|ń (Ϣ<|í<|ò<|ù hr<|Ó 4 Õ) (Ĝ<|ù hr<|Ó 4<|Ó 3<|Ó 2 Õ) ą)<|Ĝ<|ù hr<|Ù (ò<|ϋ<|Í Ġ õ)<|Ù (ò<|ϋ<|Í Ġ õ)<|Ó 2 Õ) λx=>?_;refine ϳ V7 rfl (λS x hr hu=>ě S (ù hr<|Ó 0<|Ó 1 Õ)<|Û (ń (Ϸ pC kg (Ä 2) kJ<|Ĳ _) (Į<|Ņ<|Í ϶<|Í (ò<|ù hr<|Ó 0<|Ó 1 Õ) õ) ą)<|Į<|Ņ<|Í ϶<|Í (v_var 2) õ) λx=>?_;refine ϳ d33 rfl (λS x hr hu=>Į<|Ņ<|Í (v_add (ϸ (ā (Ä 1) Ê)<|ā (Ä 0) Ê)<|ϸ (ā (Ä 1) Ê)<|ā (Ä 0) Ê)<|Í (v_add (ϸ (ā (Ä 1) Ê)<|ā (Ä 0) Ê)<|ϸ (ā (Ä 1) Ê)<|ā (Ä 0) Ê) õ) λx=>?_;refine ϳ YK rfl (λS x hr hu=>Ĝ<|ϋ<|Í (Ņ<|Í (v_var 0)<|Í (v_var 1)<|Í (v_var 4) õ)<|Í (Ņ<|Í (v_var 2)<|Í (v_var 1)<|Í (v_var 4) õ)<|Í (Ņ<|Í (v_var 2)<|Í (v_var 3)<|Í (v_var 4) õ)<|Í (Ņ<|Í (v_var 0)<|Í (v_var 3)<|Í (v_var 4) õ) õ) λx=>?_;refine ϳ YL rfl (λS x hr hu=>Ĝ<|jv (í<|ò<|ù hr<|Ó 0<|Ó 1<|Ó 2<|Ó 3<|Ù Ġ Õ)<|í<|ò<|ù hr<|Ó 0<|Ó 1<|Ó 2<|Ó 3<|Ó 4 Õ) λx=>?_;refine stH d36 rfl (λS x hr hu=>ě S (Ŷ<|v_mul Ê<|ā (í<|ao<|Ä 0) Ê)<|ě S (Ŷ<|v_mul Ê<|ā (í<|ao<|Ä 0) Ê)<|Ĝ<|ù hr<|Ù (v_sub (Ä 1) Ê)<|Ù (v_sub (Ä 2) Ê)<|Ù (v_add (Ä 1) Ê)<|Ù (v_add (Ä 2) Ê)<|Ù (ō (í<|ao<|Ä 0) Ê) Õ) λx=>?_;refine stH d37 rfl (λS x hr hu=>ě S (Ŷ<|ao<|Ä 0)<|ě S (Ŷ<|Ņ<|Í (ō (Ä 1) Ê)<|Í (ō (Ä 1) Ê) õ)<|ě S (Ŷ<|Ņ<|Í (ō (Ä 1) Ê)<|Í (ō (Ä 1) Ê) õ)<|Ĝ<|ϋ<|Í (v_add (Ä 2)<|í<|Ņ<|Í Ġ õ)<|Í (v_add (Ä 3)<|í<|Ņ<|Í Ġ õ)<|Í (v_add (Ä 3)<|í<|Ņ<|Í (ō (Ä 1) Ê) õ)<|Í (v_add (Ä 2)<|í<|Ņ<|Í (ō (Ä 1) Ê) õ) õ) λx=>?_;refine stH d38 rfl (λS x hr hu=>ě S (Ŷ<|ao<|Ä 0)<|Ĝ<|ù hr<|Ù (ō (Ä 1) Ê)<|Ù (ō (Ä 1) Ê)<|Ù (ō (Ä 1) Ê)<|Ù (ō (Ä 1) Ê)<|Ù (ō (Ä 1) Ê) Õ) λx=>?_;refine stH d39 rfl (λS x hr hu=>Ĝ<|eo (gx<|Ņ<|Í Ġ<|Í Ġ<|Í Ġ õ) Ÿ Ĭ<|GR z_ Aa gz xA<|ß (í<|ò<|ſ (í<|ao<|Ä 0) (Ű<|v_var 1)<|Ű<|v_add (Ä 1) Ê) ð) λx=>?_;refine stH d40 rfl (λS x hr hu=>ě S (Ŷ<|ao<|Ä 0)<|Ĝ<|ù hr<|Ù (ō (Ä 1) Ê)<|Ù (ō (Ä 1) Ê)<|Ù (ō (Ä 1) Ê)<|Ù (ō (Ä 1) Ê)<|Ù (ō (Ä 1) Ê) Õ) λx=>?_;refine ϳ V8 rfl (λS x hr hu=>Ĝ<|eo (gx<|ò<|Qp hr<|v_var 0) Ÿ Ĭ<|ò<|ù hr<|Ó 1<|Ó 0 Õ) λx=>?_;refine ϳ V9 rfl (λS x hr hu=>Ĝ<|ù hr<|Ù (Ņ<|Í (v_mul Ê<|ā (Ä 0) Ê)<|Í (v_mul Ê<|ā (Ä 0) Ê)<|Í Ġ õ)<|Ó 1 Õ) λx=>?_;refine ϳ Wa rfl (λS x hr hu=>Ĝ<|ù hr<|Ù (ò<|ù hr<|Ó 0<|Ó 2 Õ)<|Ù (ò<|ù hr<|Ó 1<|Ó 2 Õ) Õ) λx=>?_;refine ϳ d44 rfl (λS x hr hu=>Į<|v_eq hu (ā (í<|ò<|ù hr<|Ó 0<|Ó 1<|Ó 2 Õ) Ê) ϥ) λx=>?_;refine ϳ YM rfl (λS x hr hu=>Į<|v_and (jl uo yr (Ä 2) kJ<|Ĳ _)<|iC<|ò<|ù hr<|Ó 0<|Ó 1<|Ó 2 Õ) λx=>?_;refine ϳ d46 rfl (λS x hr hu=>Ĝ<|ù hr<|Ù (ò<|eo (Ť 2) (jo rfl<|Ď Ÿ<|Ď Ÿ<|Ď Ÿ bU) Ĭ<|ò<|ù hr<|Ó 0<|Ó 2<|Ù (ō (í<|ò<|ù hr<|Ó 1<|Ó 3 Õ)<|Ä 4) Õ) Õ) λx=>?_;refine ϳ d47 rfl (λS x hr hu=>Û (ń (Ϸ pC kg (Ä 1) kJ<|Ĳ _) (Į yK) ą)<|Û (ϣ ĥ rfl (gx<|ao<|Ä 0) (Ϟ S)<|ó<|ń (Ϣ<|í<|ò<|ù hr<|Ó 3<|Ó 2<|Ó 1 Õ) (Į yK) ą)<|Į yK) λx=>?_;refine ϳ d48 rfl (λS x hr hu=>Ĝ<|ù hr<|Ù (ò<|eo (Ť 1) (jo rfl<|Ď Ÿ<|Ď Ÿ<|Ď Ÿ bU) Ĭ<|ò<|ù hr<|Ó 0<|Ù (ō (í<|ò<|ù hr<|Ó 0<|Ó 2 Õ)<|Ä 3)<|Ó 1 Õ) Õ) λx=>?_;refine ϳ d49 rfl (λS x hr hu=>Û (yL<|ò<|ù hr<|Ó 0<|Ó 2 Õ)<|Û (vv S (Ť 1) (jo rfl<|Ď Ÿ<|Ď Ÿ bU) Ĭ<|v_var 1)<|Û (vv S (Ť 1) (jo rfl<|Ď Ÿ<|Ď Ÿ bU) Ĭ<|ò<|ù hr<|Ó 0<|Ó 2<|Ó 1 Õ)<|Ĝ<|V1 hr<|Ó 3<|Ó 4<|Ù (Ŏ ĳ Ŀ gz Ę<|ß (Ä 2) ð)<|Ù (ò<|ù hr<|Ó 0<|Ó 2 Õ) Õ) λx=>?_;refine ϳ d50 rfl (λS x hr hu=>Û (ϣ ĥ rfl (Ľ rfl gz<|Í (Ŏ ĳ Ŀ gz Ę<|ß (Ä 1) ð) õ) (Ϟ S)<|Û (F8 (ō (Ä 1)<|Ä 2)<|GO rfl<|Ď (Ϟ S)<|Ď (Ϟ S)<|Ď (Ϟ S) bU)<|ó<|ń (dS hu (ā (ā (ā (Ä 0)<|Ä 5)<|ā (Ä 3) Ê)<|ā (Ä 3) Ê) ϥ) (Ĝ<|dW 2) ą)<|Į ud) λx=>?_;refine ϳ Wb rfl (λS x hr hu=>Į<|Ŏ (uu rfl) uv gz oB<|ß (í<|ò<|eo (Ľ rfl gz<|Í (Ŏ ĳ Ŀ gz Ę<|ß (Ä 0) ð) õ) Ÿ (Bh<|dS hu (í<|aY pi pj (í<|aY uk ul (Ä 1)<|Ä 2) Ê) Ê)<|ō (ā (Ä 0)<|Ä 2) Ê) ð) λx=>?_;refine ϳ Wc rfl (λS x hr hu=>Į<|v_and (pf ba ba aX aX Ê (í<|Ŏ ĳ Ŀ gz Ę<|ß (Ä 0) ð)<|Ä 2)<|iC<|Ŏ (nN rfl) nS gz jS<|ß (í<|ò<|eo (Ť 0) Ÿ Ĭ<|jl BD (BC hu) (Ä 1) (Ä 0)<|by with_unfolding_all rfl) ð) λx=>?_;refine ϳ We rfl (λS x hr hu=>ě S (OI (Ϣ<|í<|Ez dr Ct Cu we vQ (Ä 0)<|ß ϥ ð) (ſ (Ä 0) (Ű Ġ) fB)<|Ŷ<|v_var 0)<|Û (ń (iB<|Ϣ<|í<|ò<|ù hr<|Ó 1<|Ù Qq<|Ù nY Õ) (Į yK) ą)<|Į<|v_or (v_eq hu (Ä 0) ϥ)<|iC<|v_not<|Ez dr Ct Cu we vQ (Ä 1)<|ß ϥ ð) λx=>?_;refine ϳ Wf rfl (λS x hr hu=>Û (ń (Ϣ<|í<|Ŏ (nN rfl) nS gz jS<|ß (í<|ò<|eo (Ť 0) Ÿ Ĭ<|ò<|ù hr<|Ó 0 Õ) ð) (Ĝ<|eo (Ť 0) Ÿ Ĭ<|GR Jl Jm gz Cf<|ß (Ä 0) ð) ą)<|Į ud) λx=>?_;refine ϳ d55 rfl (λS x hr hu=>ě S (ù hr<|Ó 0 Õ)<|Û (ń (Ϸ pC kg (Ä 2) kJ<|Ĳ _) (ó ĺ) ą)<|Ĝ<|dW 2) λx=>?_;refine ϳ d56 rfl (λS x hr hu=>Û (ń (PW.pt<|w_or (qy hu (ā (Ä 0) Ê) ϥ)<|lf<|qy hu (í<|Ŏ ĳ Ŀ gz Ę<|ß (Ä 0) ð) Ê) (ó ĺ) ą)<|ě S (ù hr<|Ù (ò<|ſ (Ä 0) (Ű Ġ) fB)<|Ó 1 Õ)<|Û (ń (iB<|Ϣ<|í<|Ŏ (nN rfl) nS gz jS<|ß (í<|ò<|eo (Ť 2) Ÿ Ĭ<|pf ba ba aX aX Ê (Ä 0)<|í nY) ð) (ó ĺ) ą)<|Ĝ<|dW 2) λx=>?_;refine ϳ d57 rfl (λS x hr hu=>Į<|v_and (jl Gh FF (í<|zb 0 gz<|pv 0) Ê<|Ĳ _)<|iC<|v_eq hu (í<|GX 0 gz<|Mz<|pv 0) Ê) λx=>?_;refine stI d58 rfl (λS x hr hu=>Û (kt (pv 0)<|v_var 1)<|Û (kt (pv 0)<|v_var 2)<|Û (kt (pv 0)<|ò<|uC dB dC gz cy<|ß (Ä 3) ð)<|ó<|kt (pv 0)<|ò<|Vx (Je 4) (DF ["name","times","turns"] [] 3 (ç<|Ϯ (top 62) 0) rfl rfl (PH 4) (λx x x x x=>PJ (i:=0) (j:=1) (k:=2) rfl (show(["name","times","turns"]:List Str).Nodup by decide+kernel) rfl rfl rfl (ϓ rfl) (ϓ rfl) (ϓ rfl) (fx:=jR rfl) (fy:=jR rfl) (fz:=jR rfl)) (λx x x x x=>Ĭ) (λx x x x x=>Ņ<|Í (v_var 0)<|Í (v_var 1)<|Í (ò<|uC dB dC gz cy<|ß (Ä 2) ð) õ) trivial)<|eo (Ť 4) (jo rfl<|Ď Ÿ<|Ď Ÿ<|Ď Ÿ bU) Ĭ<|Ņ<|Í (v_var 0)<|Í (v_var 1)<|Í (ò<|uC dB dC gz cy<|ß (Ä 2) ð) õ) λx=>?_;refine ϳ d59 rfl (λS x hr hu=>Į<|v_and (jl ba aX (í<|Ŏ yB yP gz sk<|ß (ā (Ä 0) Ê) ð) (í nY)<|Ĳ _)<|v_and (jl ba aX (í<|Ŏ yB yP gz sk<|ß (ā (Ä 0) Ê) ð) (í nY)<|Ĳ _)<|iC<|pf ba ba aX aX Ê (ā (Ä 0) Ê)<|í nY) λx=>?_;refine ϳ d60 rfl (λS x hr hu=>Û (ń (dS hu (Ä 0)<|í<|ò<|ϋ<|Í ϶ õ) (Į ud) ą)<|Û (ń (PW.pt<|w_or (qy hu (ā (Ä 0) Ê) ϥ)<|lf<|qy hu (í<|Ŏ ĳ Ŀ gz Ę<|ß (Ä 0) ð) Ê) (ó ĺ) ą)<|ě S (Ŷ<|GR z_ Aa gz xA<|ß (í<|ò<|ù hr<|Ù (ò<|ſ (Ä 0) (Ű Ġ) fB)<|Ó 1 Õ) ð)<|Û (ń (iB<|Ϣ<|í<|ò<|ù hr<|Ó 2 Õ) (ó ĺ) ą)<|Ĝ<|dW 2) λx=>?_;refine SM d61 rfl (λS x hr hu=>tE (PW.pt<|w_or (dS hu (í<|zb 2 gz<|pv 2) Ê)<|lf<|dS hu (í<|GX 2 gz<|Mz<|pv 2)<|í nY) (ó ĺ)<|Mx (Mz<|pv 2)<|ò<|ù hr<|Ó 0<|Ó 1 Õ) λx=>?_;refine ϳ d62 rfl (λS x hr hu=>Ĝ<|ù hr<|Ó 0<|Ù Qq<|Ù nY Õ) λx=>?_;refine ϳ d63 rfl (λS x hr hu=>Û (ń (PW.pt<|w_or (qy hu (í<|Ŏ ĳ Ŀ gz Ę<|ß (Ä 0) ð) Ê)<|lf<|iB<|Ϣ<|í<|ò<|ù hr<|Ù (ō (Ä 0) Ê) Õ) (ó ĺ) ą)<|ě S (Ŷ<|ō (í<|ò<|ù hr<|Ù (ò<|ſ (Ä 0) (Ű Ġ) fB)<|Ó 1 Õ) Ê)<|Û (ń (iB<|C4 ba ba aX aX Ê (Ä 2)<|í nY) (ó ĺ) ą)<|Ĝ<|Mq<|DE (ō (Ä 0) Ê)<|DE (v_var 2)<|Mp<|ϋ õ) λx=>?_;refine SM d64 rfl (λS x hr hu=>tE (PW.pt<|w_or (Ϣ<|í<|ò<|ù hr<|Ó 2 Õ)<|lf<|dS hu (í<|zb 2 gz<|pv 2)<|í nY) (ó ĺ)<|PP (i:=3) S.nd rfl (ϓ rfl) (ù hr<|Ó 0<|Ó 1 Õ)<|tE (Mn 3<|Ϸ BD (BC hu) (ā (Ä 3) Ê) (í<|ò<|DF ["name","times","turns"] [] 3 (ç<|top 134) rfl rfl (PH 2) (λx x x x x=>PJ (i:=0) (j:=1) (k:=2) rfl (show(["name","times","turns"]:List Str).Nodup by decide+kernel) rfl rfl rfl (ϓ rfl) (ϓ rfl) (ϓ rfl) (fx:=jR rfl) (fy:=jR rfl) (fz:=jR rfl)) (λx x x x x=>Ĭ) (λx x x x x=>v_var 0) trivial)<|by with_unfolding_all rfl) (ó ĺ)<|Mw (pv 2)<|pv 3) λx=>?_;refine ϳ d65 rfl (λS x hr hu=>Į<|pf ba ba aX aX (í<|vp iZ iU<|í nY) (Ä 0)<|í nY) λx=>?_;refine ϳ d66 rfl (λS x hr hu=>Į<|pf ba ba aX aX Ê (Ä 0)<|í nY) λx=>?_;refine ϳ d67 rfl (λS x hr hu=>Į<|v_and (v_eq hu (í<|Ŏ ĳ Ŀ gz Ę<|ß (Ä 0) ð) Ê)<|v_and (ò<|ù hr<|Ù (ō (Ä 0) Ê) Õ)<|v_and (ò<|ù hr<|Ù (ō (Ä 0) Ê) Õ)<|iC<|ò<|ù hr<|Ù (ō (Ä 0) Ê) Õ) λx=>?_;refine stI d68 rfl (λS x hr hu=>Û (kt (pv 0)<|v_var 1)<|ó<|kt (pv 0)<|ò<|uC dB dC gz cy<|ß (Ä 2) ð) λx=>?_;refine stI d69 rfl (λS x hr hu=>Û (kt (pv 0)<|v_var 1)<|ó<|kt (pv 0)<|ò<|uC dB dC gz cy<|ß (Ä 2) ð) λx=>?_;refine stI d70 rfl (λS x hr hu=>Û (kt (pv 0)<|v_var 1)<|ó<|kt (pv 0)<|ò<|uC dB dC gz cy<|ß (Ä 2) ð) λx=>?_;refine stI d71 rfl (λS x hr hu=>Û (kt (pv 0)<|v_var 1)<|ó<|kt (pv 0)<|ò<|uC dB dC gz cy<|ß (Ä 2) ð) λx=>?_;refine stI d72 rfl (λS x hr hu=>Û (kt (pv 0)<|v_var 1)<|ó<|kt (pv 0)<|ò<|uC dB dC gz cy<|ß (Ä 2) ð) λx=>?_;refine stI d73 rfl (λS x hr hu=>Û (kt (pv 0)<|v_var 1)<|ó<|kt (pv 0)<|ò<|uC dB dC gz cy<|ß (Ä 2) ð) λx=>?_;refine ϳ d74 rfl (λS x hr hu=>Į<|v_and (v_eq hu (í<|Ŏ ĳ Ŀ gz Ę<|ß (Ä 0) ð) Ê)<|v_and (Ŏ (nN rfl) nS gz jS<|ß (í<|ò<|eo (gx<|ò<|ſ (Ä 0) fB<|Ű Ġ) Ÿ Ĭ<|ò<|ù hr<|Ó 0 Õ) ð)<|iC<|ò<|ù hr<|Ù (ō (Ä 0) Ê) Õ) λx=>?_;refine ϳ d75 rfl (λS x hr hu=>Į<|v_and (ò<|ù hr<|Ó 0 Õ)<|iC<|jl Gm (A8 hu) (í<|ò<|ſ (Ä 0) fB<|Ű Ġ) (í<|ò<|ſ (Ä 0) (Ű Ġ)<|Ű Ġ)<|Ĳ _) λx=>?_;refine ϳ d76 rfl (λS x hr hu=>Į<|v_and (ò<|ù hr<|Ó 0 Õ)<|v_and (jl gA gt (ā (Ä 0) Ê) (ā (Ä 0) Ê)<|Ĳ _)<|iC<|jl gA gt (ā (Ä 0) Ê) (ā (Ä 0) Ê)<|Ĳ _) λx=>?_;refine ϳ d77 rfl (λS x hr hu=>Į<|v_and (ò<|ù hr<|Ù (ō (Ä 0) Ê) Õ)<|v_and (ò<|ù hr<|Ù (ō (Ä 0) Ê) Õ)<|iC<|pf ba ba aX aX Ê (ā (Ä 0) Ê)<|í nY) λx=>?_;refine ϳ d78 rfl (λS x hr hu=>Į<|v_and (v_eq hu (í<|Ŏ ĳ Ŀ gz Ę<|ß (Ä 0) ð) Ê)<|iC<|Ŏ (nN rfl) nS gz jS<|ß (í<|ò<|eo (gx<|Ņ<|Í Ġ<|Í Ġ<|Í Ġ õ) Ÿ Ĭ<|ò<|ù hr<|Ù (ò<|ſ (Ä 0) (Ű<|v_var 1)<|Ű<|v_add (Ä 1) Ê) Õ) ð) λx=>?_;refine ϳ d79 rfl (λS x hr hu=>Û (ń (PW.pt<|w_and (dS hu (Ä 0) ϥ)<|km<|Ϣ<|í<|ò<|ù hr<|Ó 1 Õ) (Į<|AB hr<|Ó 0<|Ó 1 Õ) ą)<|Û (ń (PW.pt<|w_and (dS hu (Ä 0) ϥ)<|km<|Ϣ<|í<|ò<|ù hr<|Ó 1 Õ) (Į<|AB hr<|Ó 0<|Ó 1 Õ) ą)<|Û (ń (PW.pt<|w_and (dS hu (Ä 0) ϥ)<|km<|Ϣ<|í<|ò<|ù hr<|Ó 1 Õ) (Į<|AB hr<|Ó 0<|Ó 1 Õ) ą)<|Û (ń (PW.pt<|w_and (dS hu (Ä 0) ϥ)<|km<|Ϣ<|í<|ò<|ù hr<|Ó 1 Õ) (Į<|AB hr<|Ó 0<|Ó 1 Õ) ą)<|Û (ń (PW.pt<|w_and (dS hu (Ä 0) ϥ)<|km<|Ϣ<|í<|ò<|ù hr<|Ó 1 Õ) (Į<|AB hr<|Ó 0<|Ó 1 Õ) ą)<|ó ĺ) λx=>?_;refine ϳ d80 rfl (λS x hr hu=>ě S (ù hr<|Ù (ò<|ſ (Ä 0) (Ű Ġ) fB)<|Ó 1 Õ)<|ó<|MK<|λx x x=>Ĝ<|ù hr<|Ù (ō (Ä 0) Ê)<|Ó 2 Õ) λx=>?_;refine SM d81 rfl (λS x hr hu=>tE (PW.pt<|w_or (Ϸ Gh FF (í<|zb 3 gz<|pv 3) Ê<|Ĳ _)<|lf<|dS hu (í<|Ŏ ĳ Ŀ gz Ę<|ß (Ä 2) ð)<|í nY) (ó ĺ)<|Mv (pv 2)<|ò<|ù hr<|Ó 0<|Ó 1 Õ) λx=>?_;refine SM d82 rfl (λS x hr hu=>PN (Ϸ BD (BC hu) (ā (Ä 0) Ê) (í<|Ņ<|Í ϶<|Í ϶ õ)<|by with_unfolding_all rfl) (MP hr<|bc 0 (pv 0)<|bc 1 (pv 1)<|bc 3 (pv 3) za)<|PN (dS hu (ā (Ä 0) Ê) ϥ) (MP hr<|bc 0 (pv 0)<|bc 1 (pv 1)<|bc 3 (pv 3) za)<|MP hr<|bc 0 (pv 0)<|bc 1 (pv 1)<|bc 2 (pv 2)<|bc 3 (pv 3) za) λx=>?_;refine ϳ d83 rfl (λS x hr hu=>Û (vv S (gx<|ò<|G1 dr ir oN lw lv (Ä 0)<|ß ϥ ð) Ÿ Ĭ<|ò<|G1 dr ir oN lw lv (Ä 0)<|ß ϥ ð)<|ě S (ù hr<|Ù (ō (Ä 1) Ê)<|Ù Ġ Õ)<|Vz (tX S.nd (i:=3) rfl (ϓ rfl)<|A2 cG) (tX S.nd (i:=4) rfl (ϓ rfl)<|A2 cG) ĥ rfl (Ji rfl gz<|Vh<|ò<|ſ (Ä 1) (Ű Ġ) fB) (yq rfl (jg (mM S.nd (i:=5) rfl<|ϓ rfl) (jg (mM S.nd (i:=6) rfl<|ϓ rfl) yo rfl) rfl) rfl rfl) (kf<|ž<|Qn hr<|bc 6 (pv 6)<|bc 5 (pv 5)<|bc 3 (pv 3)<|bc 4 (pv 4) za) (Û (ń (Ϣ<|í<|ò<|ù hr<|Ó 4 Õ) (ó ĺ) ą)<|Į<|AB hr<|Ù (ō (Ä 2) Ê)<|Ù (ō (Ä 2) Ê)<|Ó 3<|Ó 4 Õ)<|λx x=>rfl) λx=>?_;refine stI d84 rfl (λS x hr hu=>ó<|kt (pv 0)<|ò<|ù hr<|Ó 1 Õ) λx=>?_;refine ϳ gR rfl (λS x hr hu=>ě S (ù hr<|Ù (ò<|ſ (Ä 0) (Ű<|v_var 1) fB) Õ)<|Û (ń (Ϸ pC kg (Ä 2) kJ<|Ĳ _) (ó ĺ) ą)<|Ĝ<|dW 2) λx=>?_;refine ϳ d86 rfl (λS x hr hu=>Û (ń (Ϸ gA gt (Ä 1) (Ä 0)<|Ĳ _) (Į Ġ) ą)<|Į<|v_sub (í<|aY nQ nR Ê<|gB (Ä 1) Ê)<|í<|aY nQ nR Ê<|Ä 0) λx=>?_;refine ϳ d87 rfl (λS x hr hu=>ě S (Ŷ Ġ)<|ě S (Ŷ<|v_sub (Ä 3) Ê)<|Û (ϣ ĥ rfl (Ť 0) (jo rfl<|Ď (Ϟ S)<|Ď (Ϟ S)<|Ď (Ϟ S) bU)<|ě S (Ŷ<|v_mul (Ä 6)<|Ä 1)<|ě S (Ŷ<|v_sub (Ä 8)<|ϸ (ϸ (Ä 7)<|Ä 1)<|Ä 2)<|ó<|ń (Ϸ Gh FF (Ä 9) Ê<|Ĳ _) (ó<|Bw S<|Ŷ<|Ŏ (Ic rfl) IH gz xz<|ß (Ä 5)<|ß (pM (Ä 10)<|Ä 9) ð)<|ó<|ń (Ϸ gA gt (Ä 9) Ê<|Ĳ _) (ó<|Bw S<|Ŷ<|Ŏ (Ie rfl) II gz xy<|ß (Ä 4)<|ß (í<|vp iZ iU<|pM (Ä 10)<|í<|vp iZ iU<|Ä 9) ð)<|ó<|ń (Ϸ gA gt (Ä 10) Ê<|Ĳ _) (Į Ġ) ą)<|Ĝ<|ù hr<|Ó 4<|Ó 5 Õ) λx=>?_;refine ϳ d88 rfl (λS x hr hu=>ě S (ù hr<|Ù (ò<|ù hr<|Ó 1<|Ó 2 Õ) Õ)<|ě S (Ŷ Ġ)<|Û (ϣ ĥ rfl (Ľ rfl gz<|Í (ao<|Ä 0) õ) (Ϟ S)<|ó<|yX (i:=4) S.nd rfl (ϓ rfl)<|aY nQ nR (í<|ò<|ù hr<|Ó 3<|Ù (v_mul Ê<|ā (Ä 2) Ê)<|Ó 5<|Ù (ao<|Ä 0) Õ)<|ϸ (Ä 5)<|í<|ao<|Ä 0)<|Ĝ<|dW 4) λx=>?_;refine ϳ d89 rfl (λS x hr hu=>Ĝ<|eo (gx<|ao<|Ä 0) Ÿ Ĭ<|ò<|ù hr<|Ó 0<|Ó 2<|Ó 1 Õ) λx=>?_;refine ϳ d90 rfl (λS x hr hu=>Û (ń (Ϸ pC kg (Ä 1) kJ<|Ĳ _) (Ĝ<|ù hr<|Ù Ġ<|Ù (v_sub (ϸ (í<|ao<|Ä 0)<|í<|ao<|Ä 0) Ê) Õ) ą)<|ě S (Ŷ Ġ)<|Û (ϣ ĥ rfl (gx<|ò<|ù hr<|Ó 0<|Ó 1 Õ) (Ϟ S)<|ó<|yX (i:=2) S.nd rfl (ϓ rfl)<|v_var 3)<|Ĝ<|dW 2) λx=>?_;refine ϳ d91 rfl (λS x hr hu=>Û (yL<|ò<|ù hr<|Ó 0<|Ù (ō (Ä 1) Ê)<|Ù (ō (Ä 1) Ê) Õ)<|ě S (ù hr<|Ó 0<|Ù (ō (í<|ò<|ù hr<|Ó 0<|Ù (ō (Ä 1) Ê) Õ)<|ā (Ä 1) Ê) Õ)<|ě S (Ŷ<|ao<|Ä 0)<|ě S (eo (Ľ rfl gz<|Í (v_mul (Ä 3)<|í<|ao<|Ä 0) õ) Ÿ Ĭ<|OI (Ϣ<|í<|aY pi pj (í<|aY uk ul (Ä 0)<|Ä 1) Ê) ϶ ϶)<|Į<|Ez dr sM sN tw tj ϥ<|ß (í<|ò<|eo (Ľ rfl gz<|Í (ao<|Ä 0) õ) Ÿ Ĭ<|Ez dr sM sN tw tj ϥ<|ß (í<|ò<|ſ (Ä 0) (Ű<|v_mul (Ä 2)<|Ä 1)<|Ű<|v_add (ϸ (Ä 2)<|Ä 1)<|Ä 1) ð) ð) λx=>?_;refine ϳ d92 rfl (λS x hr hu=>Į<|ō (ā (í<|ao<|Ä 0)<|Ä 1) Ê) λx=>?_;refine ϳ d93 rfl (λS x hr hu=>Û (ϣ ĥ rfl (Ľ rfl gz<|Í (Ŏ ĳ Ŀ gz Ę<|ß (í<|ao<|Ä 0) ð) õ) (Ϟ S)<|ó<|ń (dS hu (í<|ò<|ù hr<|Ó 0<|Ó 2 Õ)<|Ä 1) (Ĝ<|dW 2) ą)<|ó ĺ) λx=>?_;refine ϳ d94 rfl (λS x hr hu=>Û (ń (Ϸ (Jq (nm:="ROWS") rfl) (Jp<|by assumption) (ā (Ä 1) Ê) (í Qr)<|by with_unfolding_all rfl) (ó ĺ) ą)<|ě S (Ŷ<|OF (Jr (nm:="ROWS") rfl) (ML<|by assumption) (í Qr) (ā (Ä 1) Ê)<|λx x=>rfl)<|ě S (ſ (Ä 1) (Ű Ġ)<|Ű<|v_add Ê<|ā (Ä 2) Ê)<|Û (ń (qy hu (í<|Ŏ ĳ Ŀ gz Ę<|ß (Ä 1) ð)<|gB (gB Ê<|ā (Ä 2) Ê)<|ā (Ä 2) Ê) (ó ĺ) ą)<|ě S (ù hr<|Ó 1<|Ù (v_add Ê<|ā (Ä 2) Ê) Õ)<|Ĝ<|VQ hr (ō (Ä 2) Ê)<|Ó 0<|Ù (v_add (í<|ò<|eo (Ť 3) Ÿ Ĭ<|ò<|ù hr<|Ó 0<|Ó 1 Õ)<|Ä 4) Õ) λx=>?_;refine ϳ d95 rfl (λS x hr hu=>Û (ń (Ϸ gA gt (í<|Ŏ ĳ Ŀ gz Ę<|ß (Ä 1) ð) Ê<|Ĳ _) (ó ĺ) ą)<|ě S (ù hr<|Ó 1<|Ù Ġ Õ)<|Û (ń (dS hu (í<|Ŏ ĳ Ŀ gz Ę<|ß (í<|ao<|Ä 0) ð)<|í nY) (ó ĺ) ą)<|Į<|AB hr<|Ù (ao<|Ä 0)<|Ù (ao<|Ä 0)<|Ù (v_add (í<|ao<|Ä 0)<|í<|ò<|ϋ<|Í (ò<|ù hr<|Ù (ō (Ä 1) Ê)<|Ó 2 Õ) õ)<|Ù (ao<|Ä 0) Õ) λx=>?_;refine ϳ d96 rfl (λS x hr hu=>Û (ń (qy hu (í<|Ŏ ĳ Ŀ gz Ę<|ß (Ä 1) ð) Ê) (ó ĺ) ą)<|ě S (Ŷ<|ō (í<|ò<|ù hr<|Ó 1<|Ù Ġ Õ) Ê)<|Û (ń (iB<|C4 ba gA aX gt Ê (Ä 2)<|í<|Ŏ ĳ Ŀ gz Ę<|ß (í<|ao<|Ä 0) ð) (ó ĺ) ą)<|Į<|AB hr<|Ù (ao<|Ä 0)<|Ù (ao<|Ä 0)<|Ù (v_add (í<|ò<|ſ (í<|ao<|Ä 0) fB<|Ű<|v_var 2)<|í<|ò<|ſ (í<|ao<|Ä 0) (Ű<|v_add (Ä 2) Ê) fB)<|Ù (ao<|Ä 0) Õ) λx=>?_;refine stM d97 rfl (λS x hr hu=>ě S (G1 dr ir oN lw lv (Ä 1)<|ß ϥ ð)<|Û (ń (dS hu (ā (Ä 2) Ê) ϥ) (Û (kt (pv 0)<|ò<|ù hr<|Ù (ao<|Ä 0)<|Ó 2 Õ)<|Į ϶) ą)<|Û (ń (dS hu (ā (Ä 2) Ê) ϥ) (Û (kt (pv 0)<|ò<|ù hr<|Ù (ao<|Ä 0)<|Ó 2 Õ)<|Į ϶) ą)<|Ĝ<|ù hr<|Ù (ao<|Ä 0)<|Ó 2 Õ) λx=>?_;refine stH d98 rfl (λS x hr hu=>ě S (G1 dr ir oN lw lv (Ä 1)<|ß ϥ ð)<|Û (ń (dS hu (ā (Ä 2) Ê) ϥ) (Û ĺ<|Į ϶) ą)<|Û (ń (dS hu (ā (Ä 2) Ê) ϥ) (Û ĺ<|Į ϶) ą)<|Ĝ<|ù hr<|Ù (ao<|Ä 0)<|Ó 2 Õ) λx=>?_;refine ϳ d99 rfl (λS x hr hu=>V_ S hr rfl (Ó 0 Õ)<|Û (ϣ ĥ rfl (Ľ rfl gz<|Í (Ŏ ĳ Ŀ gz Ę<|ß (Ä 1) ð) õ) (Ϟ S)<|ó<|ń (dS hu (í<|aY pi pj (í<|aY uk ul (Ä 2)<|Ä 5) Ê) Ê) (ó<|Jz<|V0 4 hr (pv 4)<|Í (ò<|ù hr<|Ù (v_add (í<|ò<|ϋ<|Í ϶ õ)<|ā (ā (Ä 1)<|Ä 5) Ê) Õ) õ) ą)<|MO 4<|Į<|ò<|eo (Ľ rfl gz<|Í (v_var 3) õ) Ÿ Ĭ<|ò<|G1 dr ir oN lw lv (í<|ò<|VP hr (v_var 0)<|Ù (v_add ϥ<|í<|GR DJ DK gz Cd<|ß (Ä 1) ð) Õ)<|ß ϥ ð) λx=>?_;refine ϳ Wg rfl (λS x hr hu=>Û (ń (PW.pt<|w_or (iB<|Ϣ<|í<|Ŏ yQ yR gz sq<|ß (ā (Ä 4) Ê)<|ß (í<|F_ (.ty "list")<|sX (v:=.ty "list") rfl gz cy rfl) ð)<|lf<|qy hu (í<|Ŏ ĳ Ŀ gz Ę<|ß (ā (Ä 4) Ê) ð)<|í<|aY nQ nR Ê<|í<|Ŏ ĳ Ŀ gz Ę<|ß (Ä 1) ð) (Į yK) ą)<|Û (ϣ ĥ rfl (Ľ rfl gz<|Í (Ŏ ĳ Ŀ gz Ę<|ß (ā (Ä 4) Ê) ð) õ) (Ϟ S)<|ě S (ù hr<|Ù (ò<|ù hr<|Ó 0<|Ó 1<|Ó 5<|Ó 3 Õ)<|Ó 2 Õ)<|Û (ń (PW.pt<|w_or (qy hu (ā (ā (Ä 4) Ê)<|Ä 5)<|Ä 6)<|lf<|PW.pt<|w_and (Ϣ<|í<|Ŏ yQ yR gz sq<|ß (Ä 6)<|ß (í<|F_ (.ty "int")<|sX (v:=.ty "int") rfl gz Cf rfl) ð)<|km<|Ϣ<|í<|Ŏ yQ yR gz sq<|ß (ā (ā (Ä 4) Ê)<|Ä 5)<|ß (í<|F_ (.ty "bool")<|sX (v:=.ty "bool") rfl gz PyProof.Rows.boot_bool rfl) ð) (Į yK) ą)<|ě S (ù hr<|Ó 1<|Ó 5 Õ)<|ó<|ń (PW.pt<|w_and (Ϸ pC kg (Ä 6) kJ<|Ĳ _)<|km<|PW.pt<|w_or (Ϸ gA gt (Ä 7) (ā (Ä 4) Ê)<|Ĳ _)<|lf<|PW.pt<|w_and (dS hu (Ä 7)<|ā (Ä 4) Ê)<|km<|Ϸ gA gt (Ä 5) (ā (Ä 4) Ê)<|Ĳ _) (Į yK) ą)<|Į<|v_and (jl pC kg (ā (ā (Ä 4) Ê)<|ā (Ä 4) Ê) kJ<|Ĳ _)<|iC<|v_eq hu (ā (Ä 4) Ê)<|í<|ò<|ù hr<|Ó 1<|Ù (ō (Ä 4) Ê) Õ) λx=>?_;refine ϳ Wh rfl (λS x hr hu=>ě S (ϋ õ)<|ě S (Ŷ<|wv (Ä 0) Ê)<|Û (ϣ ĥ rfl (Ľ rfl gz<|Í (v_mul (Ä 1)<|pL Ê<|ũ (Ä 0) Ê) õ) (Ϟ S)<|Û (F8 (Ŏ vW vY gz Cg<|ß (Ä 3)<|ß (í<|aY Bj A7 Ê Ê) ð)<|GO rfl<|Ď (Ϟ S)<|Ď (Ϟ S) bU)<|ó<|PS.wk (ž<|fG aV bG cB ŵ (pv 2)<|Í (v_var 6) õ) λx x x h=>f_ h)<|ě S (jv (ũ (Ä 3) Ê) Ê)<|Û (C5 ĥ (Ϸ gA gt (í<|Ŏ ĳ Ŀ gz Ę<|ß (Ä 2) ð) (Ä 1)<|Ĳ _)<|Û (ϣ ĥ rfl (Ľ rfl gz<|Í Ġ õ) (Ϟ S)<|Û (F8 (Ŏ vW vY gz Cg<|ß (Ä 3)<|ß Ê ð)<|GO rfl<|Ď (Ϟ S)<|Ď (Ϟ S) bU)<|ó<|Bw S<|Ŷ<|v_mod (gB (gB (gB (ϸ (Ä 8) Ê)<|ϸ (Ä 7) Ê)<|ϸ Ê<|í<|Ŏ ĳ Ŀ gz Ę<|ß (Ä 2) ð) Ê) Ê)<|ó<|PS.wk (ž<|fG aV bG cB ŵ (pv 2)<|Í (wv (Ä 3) Ê) õ) λx x x h=>f_ h)<|Ĝ<|dW 2) λx=>?_;refine ϳ Wi rfl (λS x hr hu=>ě S (ù hr<|Ó 0<|Ù Ġ Õ)<|ě S (Ŷ<|v_sub (ũ (ā (Ä 3) Ê)<|gB (ϸ Ê<|Ä 1) Ê) Ê)<|ě S (Ŷ<|v_sub (ũ (ā (Ä 3) Ê)<|gB (ϸ Ê<|Ä 2) Ê) Ê)<|ě S (jv (gB (Ä 4) Ê)<|ũ (ā (Ä 3) Ê) Ê)<|ě S (jv (gB (Ä 5) Ê)<|ũ (ā (Ä 3) Ê) Ê)<|ě S (jv Ê<|ũ (ā (Ä 3) Ê) Ê)<|Û (ń (dS hu (ũ (ā (Ä 3) Ê) Ê) Ê) (ó<|Bw S<|Ŷ<|v_sub (í<|aY Bj A7 Ê Ê)<|ũ (ā (Ä 3) Ê) Ê) ą)<|Û (ń (dS hu (ũ (ā (Ä 3) Ê) Ê) Ê) (Ĝ<|ϋ<|Í ϶<|Í (v_sub (ũ (ā (Ä 3) Ê)<|gB (Ä 1) Ê) Ê)<|Í (v_sub (ũ (ā (Ä 3) Ê)<|gB (Ä 2) Ê) Ê)<|Í (v_var 8) õ) ą)<|Û (ń (dS hu (ũ (ā (Ä 3) Ê) Ê) Ê) (ě S (Ŷ<|ō (í<|ò<|ϋ<|Í (Ņ<|Í (v_var 6)<|Í (v_var 5) õ)<|Í (Ņ<|Í (v_var 6)<|Í (v_var 7) õ)<|Í (Ņ<|Í (v_var 4)<|Í (v_var 7) õ)<|Í (Ņ<|Í (v_sub (Ä 4) Ê)<|Í (v_var 7) õ) õ)<|ũ (ā (Ä 3) Ê) Ê)<|Ĝ<|ϋ<|Í ϶<|Í (v_var 4)<|Í (v_var 5)<|Í (ō (Ä 10) Ê)<|Í (ō (Ä 10) Ê)<|Í (v_var 8) õ) ą)<|Û (ń (dS hu (ũ (ā (Ä 3) Ê) Ê) Ê) (Ĝ<|ϋ<|Í ϶<|Í (v_var 4)<|Í (v_var 5)<|Í (v_var 6)<|Í (v_var 7)<|Í (v_var 8) õ) ą)<|Û (ń (dS hu (ũ (ā (Ä 3) Ê) Ê) Ê) (Ĝ<|ϋ<|Í ϶<|Í (v_var 4)<|Í (v_var 5)<|Í (v_var 6)<|Í (v_var 7)<|Í (v_var 8) õ) ą)<|ě S (Ŷ<|v_mul (ũ (ā (Ä 3) Ê) Ê)<|ũ (ā (Ä 3) Ê) Ê)<|Ĝ<|ϋ<|Í ϶<|Í (v_var 4)<|Í (v_var 5)<|Í (v_mod (ā (Ä 3) Ê) Ê)<|Í (v_var 6)<|Í (v_add (pL (Ä 5) Ê)<|ũ (ā (Ä 3) Ê) Ê)<|Í (v_mod (ā (Ä 3) Ê) Ê)<|Í (v_add (pL (Ä 4) Ê)<|ũ (ā (Ä 3) Ê) Ê)<|Í (v_var 7)<|Í (v_var 9) õ) λx=>?_;refine ϳ Wj rfl (λS x hr hu=>ě S (ù hr<|Ó 0<|Ù Ġ Õ)<|Û (ń (dS hu (ũ (ā (Ä 1) Ê) Ê) Ê) (Į ud) ą)<|Û (ń (dS hu (ũ (ā (Ä 1) Ê) Ê) Ê) (Į<|Ņ<|Í (v_sub (ũ (ā (Ä 1) Ê) Ê) Ê)<|Í (v_sub (ũ (ā (Ä 1) Ê) Ê) Ê)<|Í (v_add Ê<|ũ (ā (Ä 1) Ê) Ê) õ) ą)<|Į<|Ņ<|Í (v_sub (ũ (ā (Ä 1) Ê) Ê) Ê)<|Í (v_sub (ũ (ā (Ä 1) Ê) Ê) Ê)<|Í (v_add Ê<|ũ (ā (Ä 1) Ê) Ê) õ) λx=>?_;refine stL Wk rfl<|λS x hr hu=>ě S (jv Ê<|ũ (í<|ò<|ù hr<|Ó 0<|Ù Ġ Õ) Ê)<|ě S (jv Ê<|ũ (pM (í<|ò<|ù hr<|Ó 0<|Ù Ġ Õ) Ê) Ê)<|ě S (ù hr<|Ó 0<|Ù Ġ Õ)<|Û (vv S (Ľ rfl gz<|Í (v_mod (Ä 3) Ê) õ) Ÿ Ĭ<|ò<|ù hr<|Ù (v_add (í<|ò<|ù hr<|Ó 2<|Ù Ġ Õ)<|Ä 3)<|Ó 0<|Ó 1 Õ)<|Û (vv S (Ľ rfl gz<|Í (v_add Ê<|ũ (pM (Ä 3) Ê) Ê) õ) Ÿ Ĭ<|ò<|ù hr<|Ù (v_add (í<|ò<|ù hr<|Ó 0<|Ù Ġ Õ)<|ϸ (ϸ Ê<|Ä 1)<|Ä 1) Õ)<|ě S (ù hr<|Ó 1<|Ó 2<|Ó 4<|Ù (ò<|ϋ<|Í (Ņ<|Í ϶<|Í Ġ<|Í (v_var 5) õ) õ) Õ)<|ě S (ϋ õ)<|Û (ϣ ĥ rfl (Ľ rfl gz<|Í (v_add Ê<|ũ (pM (Ä 3) Ê) Ê) õ) (Ϟ S)<|ě S (jv (í<|ò<|ù hr<|Ó 0<|Ù (v_add Ê<|Ä 8) Õ)<|Ä 8)<|ě S (Ŷ<|ō (í<|ò<|ϋ<|Í (v_mod (Ä 14) Ê)<|Í (v_mod (Ä 14) Ê)<|Í (v_mod (Ä 14)<|gB (í<|aY Bj A7 Ê Ê) Ê)<|Í Ġ õ)<|ũ (pM (Ä 14) Ê) Ê)<|ó<|PS.wk (ž<|fG aV bG cB ŵ (pv 7)<|Í (Ņ<|Í (ò<|ù hr<|Ù (wv (Ä 14) Ê)<|Ó 1<|Ó 2 Õ)<|Í (v_var 15) õ) õ) λx x x h=>f_ h)<|ě S (ϋ õ)<|Û (ϣ ĥ rfl (Ľ rfl gz<|Í (v_add Ê<|ũ (pM (Ä 3) Ê) Ê) õ) (Ϟ S)<|ě S (jv (í<|ò<|ù hr<|Ó 0<|Ù (v_add Ê<|Ä 8) Õ)<|Ä 8)<|ó<|PS.wk (ž<|fG aV bG cB ŵ (pv 9)<|Í (Ņ<|Í (Ņ<|Í (v_mod (Ä 14)<|Ä 1)<|Í (v_mod (pM (Ä 14) Ê)<|Ä 2) õ)<|Í Ġ<|Í (v_mod (pM (Ä 14) Ê)<|í<|Ŏ ĳ Ŀ gz Ę<|ß (Ä 5) ð) õ) õ) λx x x h=>f_ h)<|Û (vv S (Ť 7) (jo rfl<|Ď Ÿ<|Ď Ÿ bU) Ĭ<|Ņ<|Í (ò<|ù hr<|Ù (ō (Ä 0) Ê)<|Ù (ò<|ſ (Ä 0) (Ű Ġ) fB) Õ)<|Í (v_var 1) õ)<|ě S (ù hr<|Ù (ò<|ù hr<|Ó 6 Õ)<|Ó 10<|Ù (ò<|uC dB dC gz cy<|ß (Ä 9) ð) Õ)<|ě S (Ŷ<|v_sub (í<|aY nQ nR Ê<|í<|Ŏ ĳ Ŀ gz Ę<|ß (Ä 7) ð) Ê)<|ě S (ù hr<|Ù (ò<|ù hr<|Ó 6<|Ó 7<|Ó 12<|Ù (Ŏ ĳ Ŀ gz Ę<|ß (Ä 5) ð) Õ)<|Ó 9 Õ)<|Û (ń (Ϸ uo yr (Ä 13) kJ<|Ĳ _) (Į<|v_eq hu (Ä 11)<|í<|Ņ<|Í ϶<|Í (v_var 13) õ) ą)<|Û (ń (PW.pt<|w_or (iB<|Ϣ<|í<|Ŏ yQ yR gz sq<|ß (Ä 11)<|ß (í<|F_ (.ty "tuple")<|sX (v:=.ty "tuple") rfl gz xA rfl) ð)<|w_or (qy hu (í<|Ŏ ĳ Ŀ gz Ę<|ß (Ä 11) ð) Ê)<|lf<|qy hu (ā (Ä 11) Ê) ϥ) (Į yK) ą)<|Û (ń (iB<|C4 ba ba aX aX Ê (ā (Ä 11) Ê)<|Ä 12) (Į yK) ą)<|Ĝ<|ù hr<|Ó 6<|Ó 7<|Ó 9<|Ù (Ŏ ĳ Ŀ gz Ę<|ß (Ä 5) ð)<|Ó 11 Õ
end
@[simp high]theorem Z55{a b:PV}:nr [a,b] 0=some a:=rfl
@[simp high]theorem Z56{a b:PV}:nr [a,b] 1=some b:=rfl
@[simp high]theorem Z57{a b c:PV}:nr [a,b,c] 0=some a:=rfl
@[simp high]theorem Z58{a b c:PV}:nr [a,b,c] 1=some b:=rfl
@[simp high]theorem Z59{a b c:PV}:nr [a,b,c] 2=some c:=rfl
def pt(p:Hu.Pt):PV:=.tup [.int p.1,.int p.2]
def iQ(l:Hu.Ln):PV:=.tup [.int l.1,.int l.2.1,.int l.2.2]
def Sm(p:Hu.Pt):Prop:=-100000000000000000<=p.1/\p.1<=100000000000000000/\ -100000000000000000<=p.2/\p.2<=100000000000000000
def JA(l:Hu.Ln):Prop:=-1000000000000000000<=l.1/\l.1<=1000000000000000000/\ -1000000000000000000<=l.2.1/\l.2.1<=1000000000000000000
def YN:cK (pt y) (pt x)=decide (y=x):=by obtain⟨a,b⟩:=x;obtain⟨c,d⟩:=y;unfold pt;rw[Mj,jO];simp
def SN(x:Hu.Pt):ϝ (pt x)=true:=by simp[pt,ϝ,cI]
def Wl(x:Hu.Pt):vg (pt x)=1:=by simp[pt,vg,pk]
def Z3Z(S:List Hu.Pt):cI (S.map pt)=true:=by
 induction S with
 |nil=>simp[cI]|cons p S ih=>simp[cI,SN,ih]
theorem YO(x:Hu.Pt):∀k:List Hu.Pt,(k.map pt).any (λy=>cK y<|pt x)=decide (x∈k)
 |[]=>by simp|y::k=>by
  rw[à,eG,YO x k,YN,jO];simp;constructor
  ·rintro (e|e)
   ·exact .inl e.symm
   ·exact .inr e
  ·rintro (e|e)
   ·exact .inl e.symm
   ·exact .inr e
def YQ(x:Hu.Pt)(k:List Hu.Pt):D3 true (pt x) (.lst<|k.map pt)=some (.bl<|!decide (x∈k)):=by unfold D3;simp only[SN,Z3Z,Wl,YO];rfl
def Wm(x y:Hu.Pt):cX (pt x) (pt y)=some (.bl<|!decide (x=y)):=by unfold cX rk;rw[SN,SN,Wl,Wl,YN];rfl
def Z3p(ha:Sm a)(hb:Sm b):dH [.sh<|pt a,.sh<|pt b]=.ret (.sh<|iQ<|Hu.Z6 a b):=by obtain⟨a1,a2,a3,a4⟩:=ha;obtain⟨b1,b2,b3,b4⟩:=hb;have m1:ľ (b.2-a.2) a.1=true:=ό (by lia) (by lia);have m2:ľ (a.1-b.1) a.2=true:=ό (by lia) (by lia);simp[dH,kM,á,pt,iQ,Hu.Z6,m1,m2]
def YS(hl:JA l)(p:Hu.Pt):ky [.sh<|iQ l,.sh<|pt p]=.ret (.sh<|.bl<|Hu.hd l p):=by obtain⟨a1,a2,a3,a4⟩:=hl;have m1:ľ l.1 p.1=true:=ό (by lia) (by lia);have m2:ľ l.2.1 p.2=true:=ό (by lia) (by lia);simp[ky,AC,pt,iQ,Hu.hd,m1,m2]
def YT(ha:Sm a)(hb:Sm b):JA (Hu.Z6 a b):=by obtain⟨a1,a2,a3,a4⟩:=ha;obtain⟨b1,b2,b3,b4⟩:=hb;simp only[JA,Hu.Z6];lia
def Sl(s:ť)(ps:List PV):Prop:=s=.sh (.lst ps)\/s=.bw ps
def Sl.lend(h:Sl s ps):fh s=some s:=by rcases h with rfl|rfl<;>rfl
def Sl.it(h:Sl s ps){i:Nat}{U:Ĉ}(e:U[i]?=some s):Ķ i U=.ok ps U:=by
 rcases h with rfl|rfl<;>simp[e]
def Z3q{S:List Hu.Pt}(hs:Sl sl (S.map pt))(hl:S.length<=1000):iK [sl]=.ret (.ow<|(Hu.Z5 S).map pt):=by
 have hlen:∀(xs k:List Hu.Pt),(xs.foldl (λk x=>if x∈k then k else k++[x]) k).length<=k.length+xs.length:=by
  intro xs
  induction xs with
  |nil=>intro k;simp|cons x xs ih=>
   intro k;rw[eD];refine Ţ (ih _) ?_;split
   ·simp
   ·simp;lia
 have key:∀(xs:List Hu.Pt) (k:List Hu.Pt) (s2:ť),k.length+xs.length<=1000->∃JQ,Ĵ (gN 2) bP (xs.map pt) [sl,.ow<|k.map pt,s2]=.ok .nx [sl,.ow<|(xs.foldl (λk x=>if x∈k then k else k++[x]) k).map pt,JQ]:=by
  intro xs
  induction xs with
  |nil=>intro k s2 _;exact⟨s2,rfl⟩|cons x xs ih=>
   intro k s2 hk;rw[ĝ]at hk;by_cases hx:x∈k
   ·obtain⟨JQ,e⟩:=ih k (.sh<|pt x) (by lia);refine⟨JQ,?_⟩;have hb:bP [sl,.ow<|k.map pt,.sh<|pt x]=.ok .nx [sl,.ow<|k.map pt,.sh<|pt x]:=by simp[bP,YQ,hx]
    rw[à,eD,if_pos hx,Ĵ];simp[hb,e]
   ·obtain⟨JQ,e⟩:=ih (k++[x]) (.sh<|pt x) (by simp;lia);refine⟨JQ,?_⟩;have h3:k.length<16777216:=by lia
    have hb:bP [sl,.ow<|k.map pt,.sh<|pt x]=.ok .nx [sl,.ow<|(k++[x]).map pt,.sh<|pt x]:=by simp[bP,YQ,hx,h3]
    rw[à,eD,if_neg hx,Ĵ];simp only[Gu,rW,rX,hb,į.bK];exact e
 obtain⟨s2,e⟩:=key S [] .no (by simpa using hl);have jM:=hs.it (i:=0) (U:=[sl,.ow [],.no]) rfl;simp only[Ů]at e;simp[iK,pS,á,-yS,jM,e];rfl
def YU(x:Int)(l:List Int):wb [.lst<|(x::l).map .int]=some (.int<|Hu.mx (x::l)):=by show((cL<|(x::l).map .int).bind (zB max)).map PV.int=_;rw[nV];rfl
def YV(x:Int)(l:List Int):wc [.lst<|(x::l).map .int]=some (.int<|Hu.mn (x::l)):=by show((cL<|(x::l).map .int).bind (zB min)).map PV.int=_;rw[nV];rfl
def Z40{S:List Hu.Pt}(hs:Sl sl (S.map pt))(h0:S≠[])(hl:S.length<=1000):iJ [sl]=.ret (.ow<|(Hu.box S).map iQ):=by
 have c1:ī (gN 0) ė (Ë ã (Â 0)<|Æ 0) (S.map pt) [.no] []=some ((S.map (·.1)).map .int):=by
  have:=đ (g:=gN 0) (mt:=ė) (me:=Ë ã (Â 0)<|Æ 0) pt (λp=>.int p.1) (λU=>∃s,U=[s]) S [.no] [] ⟨_,rfl⟩ (by simp;lia) (by
   rintro x hx U ⟨s,rfl⟩;exact⟨[.sh<|pt x],[.sh<|pt x],[.sh<|pt x],by simp,by simp,by simp[pt],_,rfl⟩)
  rw[this];simp
 have c2:ī (gN 0) ė (Ë ã (Â 0)<|Æ 1) (S.map pt) [.no] []=some ((S.map (·.2)).map .int):=by
  have:=đ (g:=gN 0) (mt:=ė) (me:=Ë ã (Â 0)<|Æ 1) pt (λp=>.int p.2) (λU=>∃s,U=[s]) S [.no] [] ⟨_,rfl⟩ (by simp;lia) (by
   rintro x hx U ⟨s,rfl⟩;exact⟨[.sh<|pt x],[.sh<|pt x],[.sh<|pt x],by simp,by simp,by simp[pt],_,rfl⟩)
  rw[this];simp
 obtain⟨p,R,rfl⟩:=List.exists_cons_of_ne_nil h0;have x1:=YU p.1<|R.map (·.1);have x2:=YV p.1<|R.map (·.1);have x3:=YU p.2<|R.map (·.2);have x4:=YV p.2<|R.map (·.2);have jM:∀s1 s2,Ķ 0 [sl,s1,s2]=.ok ((p::R).map pt) [sl,s1,s2]:=λs1 s2=>hs.it rfl;have b:(Hu.box (p::R)).map iQ=[.tup [.int 1,.int 0,.int<|Hu.mx (p.1::R.map (·.1))],.tup [.int<|-1,.int 0,.int<|-Hu.mn (p.1::R.map (·.1))],.tup [.int 0,.int 1,.int<|Hu.mx (p.2::R.map (·.2))],.tup [.int 0,.int<|-1,.int<|-Hu.mn (p.2::R.map (·.2))]]:=rfl;rw[b];generalize (p::R).map pt=ps at jM c1 c2;rw[à]at c1 c2;generalize (p.1::R.map (·.1)).map PV.int=us at c1 x1 x2;generalize (p.2::R.map (·.2)).map PV.int=vs at c2 x3 x4;simp[iJ,pR,á,-yS,-IP,-IQ,jM,c1,c2,x1,x2,x3,x4]
theorem YW:∀l:List Bool,dR (l.map .bl)=some l
 |[]=>rfl|x::l=>by rw[à,dR,YW l];rfl
def SO(l:List Bool):pE [.lst<|l.map .bl]=some (.bl<|l.all id):=by show(dR<|l.map .bl).map (λbs=>PV.bl<|bs.all id)=_;rw[YW];rfl
def ZO(S:List Hu.Pt):(Hu.Z5 S).length<=S.length:=by
 have:∀(xs k:List Hu.Pt),(xs.foldl (λk x=>if x∈k then k else k++[x]) k).length<=k.length+xs.length:=by
  intro xs
  induction xs with
  |nil=>intro k;simp|cons x xs ih=>
   intro k;rw[eD];refine Ţ (ih _) ?_;split
   ·simp
   ·simp;lia
 have h:=this S [];rw[xa,se]at h;exact h
def Z25{S:List Hu.Pt}(hS:∀p∈S,Sm p)(hl:S.length<=1000)(ha:a∈S)(hb:b∈S)(s0 s5:ť)(L:List Hu.Ln)(hL:L.length<16777216):
 aA [s0,.ow<|L.map iQ,.sh<|.lst<|(Hu.Z5 S).map pt,.sh<|pt a,.sh<|pt b,s5]=.ok .nx [s0,.ow<|(L++(if a≠b/\(Hu.Z5 S).all (Hu.hd<|Hu.Z6 a b)then[Hu.Z6 a b]else[])).map iQ,.sh<|.lst<|(Hu.Z5 S).map pt,.sh<|pt a,.sh<|pt b,.sh<|iQ<|Hu.Z6 a b]:=by
 have hsm:=YT (hS a ha)<|hS b hb;have c1:ī (gN 1) ė (Ý<|Ü ky<|È 0<|È 1 Ö) ((Hu.Z5 S).map pt) [.sh<|iQ<|Hu.Z6 a b,.no] []=some (((Hu.Z5 S).map (Hu.hd<|Hu.Z6 a b)).map .bl):=by
  have hlen:(Hu.Z5 S).length<=16777216:=by have:=ZO S;lia
  have:=đ (g:=gN 1) (mt:=ė) (me:=Ý<|Ü ky<|È 0<|È 1 Ö) pt (λp=>.bl<|Hu.hd (Hu.Z6 a b) p) (λU=>∃s,U=[.sh<|iQ<|Hu.Z6 a b,s]) (Hu.Z5 S) [.sh<|iQ<|Hu.Z6 a b,.no] [] ⟨_,rfl⟩ (by simpa using hlen) (by
   rintro x hx U ⟨s,rfl⟩;exact⟨[.sh<|iQ<|Hu.Z6 a b,.sh<|pt x],[.sh<|iQ<|Hu.Z6 a b,.sh<|pt x],[.sh<|iQ<|Hu.Z6 a b,.sh<|pt x],by simp,by simp,by simp[YS hsm],_,rfl⟩)
  rw[this];simp
 have c2:=SO<|(Hu.Z5 S).map (Hu.hd<|Hu.Z6 a b);have e1:=Z3p (hS a ha)<|hS b hb;have e3:((Hu.Z5 S).map (Hu.hd<|Hu.Z6 a b)).all id=(Hu.Z5 S).all (Hu.hd<|Hu.Z6 a b):=by simp
 rw[e3]at c2;generalize ((Hu.Z5 S).map (Hu.hd<|Hu.Z6 a b)).map PV.bl=bs at c1 c2;by_cases h1:a=b
 ·subst h1;simp[aA,e1,Wm]
 ·by_cases h2:(Hu.Z5 S).all (Hu.hd<|Hu.Z6 a b)=true
  ·rw[h2]at c2;simp[aA,e1,Wm,h1,c1,c2,h2,hL,-c_]
  ·rw[Bool.not_eq_true]at h2;rw[h2]at c2;simp[aA,e1,Wm,h1,c1,c2,h2,-c_,-List.all_eq_false]
def Z2z{S:List Hu.Pt}(hS:∀p∈S,Sm p)(hl:S.length<=1000)(ha:a∈S)(s0:ť):∀(xs:List Hu.Pt) (L:List Hu.Ln) (s4 s5:ť),(∀x∈xs,x∈S)->L.length+xs.length<16777216->
 ∃DT E1,Ĵ (gN 4) aA (xs.map pt) [s0,.ow<|L.map iQ,.sh<|.lst<|(Hu.Z5 S).map pt,.sh<|pt a,s4,s5]=.ok .nx [s0,.ow<|(L++xs.filterMap λb=>if a≠b/\(Hu.Z5 S).all (Hu.hd<|Hu.Z6 a b)then some (Hu.Z6 a b)else none).map iQ,.sh<|.lst<|(Hu.Z5 S).map pt,.sh<|pt a,DT,E1]:=by
 intro xs
 induction xs with
 |nil=>intro L s4 s5 _ _;exact⟨s4,s5,by simp[Ĵ]⟩|cons b xs ih=>
  intro L s4 s5 hx hL;rw[ĝ]at hL;have hb:=Z25 hS hl ha (hx b<|by simp) s0 s5 L (by lia);obtain⟨DT,E1,e⟩:=ih (L++(if a≠b/\(Hu.Z5 S).all (Hu.hd<|Hu.Z6 a b)then[Hu.Z6 a b]else[])) (.sh<|pt b) (.sh<|iQ<|Hu.Z6 a b) (λx h=>hx x<|þ _ h) (by
   rw[Ϲ];split
   ·simp;lia
   ·simp;lia)
  refine⟨DT,E1,?_⟩;rw[à,Ĵ];simp only[Gu,rW,rX,hb,į.bK];rw[e,rK];by_cases hc:a≠b/\(Hu.Z5 S).all (Hu.hd<|Hu.Z6 a b)=true
  ·rw[if_pos hc,if_pos hc];simp only[lR,eE,Š]
  ·rw[if_neg hc,if_neg hc];simp only[fO]
def ZT{α β:Type}(f:α->Option β)(l:List α):(l.filterMap f).length<=l.length:=List.length_filterMap_le ..
def Z2A{S:List Hu.Pt}(hS:∀p∈S,Sm p)(hl:S.length<=1000)(s0:ť):∀(xs:List Hu.Pt) (L:List Hu.Ln) (s3 s4 s5:ť),(∀x∈xs,x∈S)->L.length+xs.length*1000<10000000->
 ∃D4 DT E1,Ĵ (gN 3) eX (xs.map pt) [s0,.ow<|L.map iQ,.sh<|.lst<|(Hu.Z5 S).map pt,s3,s4,s5]=.ok .nx [s0,.ow<|(L++xs.flatMap λa=>(Hu.Z5 S).filterMap λb=>if a≠b/\(Hu.Z5 S).all (Hu.hd<|Hu.Z6 a b)then some (Hu.Z6 a b)else none).map iQ,.sh<|.lst<|(Hu.Z5 S).map pt,D4,DT,E1]:=by
 intro xs
 induction xs with
 |nil=>intro L s3 s4 s5 _ _;exact⟨s3,s4,s5,by simp[Ĵ]⟩|cons a xs ih=>
  intro L s3 s4 s5 hx hL;rw[ĝ]at hL;have ho:=ZO S;obtain⟨a4,a5,e1⟩:=Z2z hS hl (hx a<|by simp) s0 (Hu.Z5 S) L s4 s5 (λx h=>Hu.Ze.mp h) (by lia);have hf:=ZT (λb=>if a≠b/\(Hu.Z5 S).all (Hu.hd<|Hu.Z6 a b)=true then some (Hu.Z6 a b)else none)<|Hu.Z5 S;obtain⟨D4,DT,E1,e2⟩:=ih (L++(Hu.Z5 S).filterMap λb=>if a≠b/\(Hu.Z5 S).all (Hu.hd<|Hu.Z6 a b)=true then some (Hu.Z6 a b)else none) (.sh<|pt a) a4 a5 (λx h=>hx x<|þ _ h) (by rw[Ϲ];lia);refine⟨D4,DT,E1,?_⟩;have hb:eX [s0,.ow<|L.map iQ,.sh<|.lst<|(Hu.Z5 S).map pt,.sh<|pt a,s4,s5]=.ok .nx [s0,.ow<|(L++(Hu.Z5 S).filterMap λb=>if a≠b/\(Hu.Z5 S).all (Hu.hd<|Hu.Z6 a b)=true then some (Hu.Z6 a b)else none).map iQ,.sh<|.lst<|(Hu.Z5 S).map pt,.sh<|pt a,a4,a5]:=by unfold eX;simp only[L1,yS,rS,List.getElem?_cons_zero,į.bK];exact e1
  rw[à,Ĵ];simp only[Gu,rW,rX,hb,į.bK];rw[e2,ou,lR]
def Z2B{S:List Hu.Pt}(hs:Sl sl (S.map pt))(hS:∀p∈S,Sm p)(hl:S.length<=1000):ga [sl]=.ret (.ow<|(Hu.ZG S).map iQ):=by have h1:=Z3q hs hl;have ho:=ZO S;obtain⟨s3,s4,s5,e⟩:=Z2A hS hl sl (Hu.Z5 S) [] .no .no .no (λx h=>Hu.Ze.mp h) (by simp;lia);have he:[]++((Hu.Z5 S).flatMap λa=>(Hu.Z5 S).filterMap λb=>if a≠b/\(Hu.Z5 S).all (Hu.hd<|Hu.Z6 a b)=true then some (Hu.Z6 a b)else none)=Hu.ZG S:=rfl;rw[he]at e;generalize Hu.ZG S=ed at e;generalize (Hu.Z5 S).map pt=os at e h1;simp only[Ů]at e;simp[ga,ny,á,hs.lend,h1,e]
def Z26(S:List Hu.Pt)(hl:S.length<=1000):(Hu.ZG S).length<=1000000:=by
 have ho:=ZO S;have:∀(xs:List Hu.Pt) (f:Hu.Pt->List Hu.Ln),(∀x,(f x).length<=1000)->(xs.flatMap f).length<=xs.length*1000:=by
  intro xs f hf
  induction xs with
  |nil=>simp|cons x xs ih=>rw[ou,Ϲ,ĝ];have:=hf x;lia
 refine Ţ (this (Hu.Z5 S) _ λx=>Ţ (ZT _ _)<|by lia) (by lia)
def YX{S:List Hu.Pt}(hs:Sl sl (S.map pt))(hS:∀p∈S,Sm p)(h0:S≠[])(hl:S.length<=1000):cb [sl]=.ret (.ow<|(Hu.Zv S).map iQ):=by
 have h1:=Z40 hs h0 hl;have h2:=Z2B hs hS hl;have h3:Ă (.lst<|(Hu.box S).map iQ) (.lst<|(Hu.ZG S).map iQ)=some (.ow<|(Hu.Zv S).map iQ):=by rw[vc (by have:=Z26 S hl;simp[Hu.box];lia),<-Ŕ];rfl
 simp[cb,lC,hs.lend,h1,h2,h3]
def YY{S:List Hu.Pt}(h:l∈Hu.Zv S)(hS:∀p∈S,Sm p):JA l:=by
 rcases ź.mp h with h|h
 ·unfold Hu.box at h;simp only[û,cw,or_false]at h;rcases h with e|e|e|e<;>subst e<;>simp only[JA]<;>lia
 ·obtain⟨a,ha,b,hb,_,_,rfl⟩:=Hu.Z20.mp h;exact YT (hS a ha)<|hS b hb
def Z1D(n:Nat):lj 0 n 1=(Ô n).map λ(i:Nat)=>PV.int (i:Int):=by unfold lj;refine xj λi x=>?_;simp
def Zb{n:Nat}(h:n<=1000):Ϥ [.int (n:Int)]=some ((Ô n).map λ(i:Nat)=>PV.int (i:Int)):=by
 have hs:ui (n:Int)=true:=by unfold ui;simp;lia
 unfold Ϥ;simp[hs,Z1D]
def SQ(s:ť)(ps:List PV):Prop:=s=.sh (.lst ps)\/s=.bw ps
def qe(x:Int):Bool:=decide<|-1000000000<=x/\x<=1000000000
def EO(x:Int):Bool:=decide<|1<=x/\x<=1000000000
def JB(x:Int):Bool:=decide<|0<=x/\x<=1000000000
def Zf(h:qe x=true):bv [.sh<|.int x]=.ret (.sh<|.bl true):=by simp[qe]at h;simp[bv,qV,h]
def YZ(h:EO x=true):fu [.sh<|.int x]=.ret (.sh<|.bl true):=by simp[EO]at h;simp[fu,pZ,h]
def Zn:List Int->Bool
 |[p,q,h]=>qe p&&qe q&&EO h|_=>false
def Zo:List Int->Bool
 |[x,y,u,v,h]=>qe x&&qe y&&qe u&&qe v&&EO h|_=>false
def Zg:List Int->Bool
 |[x,y,u,v,h]=>Zo [x,y,u,v,h]&&!(decide (x=u)&&decide (y=v))|_=>false
def Zi:List Int->Bool
 |[x,y,u,v,h]=>Zo [x,y,u,v,h]&&decide (x<u)&&decide (y<v)|_=>false
def Zh:List Int->Bool
 |[a,b,c,d,e,f,g,h,i]=>qe a&&qe b&&JB c&&(qe d&&qe e&&JB f)&&(qe g&&qe h&&JB i)|_=>false
def SR(h:Zn xs=true):∃a b c,xs=[a,b,c]:=by
 unfold Zn at h;split at h
 ·exact⟨_,_,_,rfl⟩
 ·cases h
def SS(h:Zg xs=true):∃a b c d e,xs=[a,b,c,d,e]:=by
 unfold Zg at h;split at h
 ·exact⟨_,_,_,_,_,rfl⟩
 ·cases h
def ND(h:Zi xs=true):∃a b c d e,xs=[a,b,c,d,e]:=by
 unfold Zi at h;split at h
 ·exact⟨_,_,_,_,_,rfl⟩
 ·cases h
def SU(h:Zh xs=true):∃a b c d e f g i j,xs=[a,b,c,d,e,f,g,i,j]:=by
 unfold Zh at h;split at h
 ·exact⟨_,_,_,_,_,_,_,_,_,rfl⟩
 ·cases h
section
variable{xs:List Int}{sl:ť}(hs:SQ sl (xs.map .int))
include hs
def Z4F(h:SQ sl ps):fh sl=some sl:=by rcases h with rfl|rfl<;>rfl
def Z0I(h:Zn xs=true):gf [sl]=.ret (.sh<|.bl true):=by obtain⟨a,b,c,rfl⟩:=SR h;simp only[Zn,ă]at h;rcases hs with rfl|rfl<;>simp[gf,nD,Zf h.1.1,Zf h.1.2,YZ h.2]
set_option tactic.hygienic true in
def Y_(h:Zo xs=true):bz [sl]=.ret (.sh<|.bl true):=by
 unfold Zo at h;split at h
 ·rename_i a b c d e;simp only[ă]at h;obtain⟨⟨⟨⟨h1,h2⟩,h3⟩,h4⟩,h5⟩:=h;have hc:fC ([.int a,.int b,.int c,.int d,.int e]:List PV) none (some 4)=[.int a,.int b,.int c,.int d]:=rfl;have hb:pE [.lst [.bl true,.bl true,.bl true,.bl true]]=some (.bl true):=rfl;rcases hs with rfl|rfl<;>simp[bz,kR,á,Zf h1,Zf h2,Zf h3,Zf h4,YZ h5,hc,ī,hb]
 ·cases h
def Z2C(h:Zg xs=true):fb [sl]=.ret (.sh<|.bl true):=by
 obtain⟨a,b,c,d,e,rfl⟩:=SS h;simp only[Zg,ă]at h;have he:=Y_ hs h.1;have h1:fC ([.int a,.int b,.int c,.int d,.int e]:List PV) none (some 2)=[.int a,.int b]:=rfl;have h2:fC ([.int a,.int b,.int c,.int d,.int e]:List PV) (some 2) (some 4)=[.int c,.int d]:=rfl;have h3:cX (.lst [.int a,.int b]) (.lst [.int c,.int d])=some (.bl true):=by
  have q:cK (.lst [.int a,.int b]) (.lst [.int c,.int d])=false:=by have:=h.2;simp[cK,jq]at this⊢;lia
  unfold cX rk;rw[q];simp[ϝ,cI,vg,pk]
 rcases hs with rfl|rfl<;>simp only[à,Ů]at he<;>simp[fb,lG,he,h1,h2,h3]
def Y0(h:Zi xs=true):ś [sl]=.ret (.sh<|.bl true):=by obtain⟨a,b,c,d,e,rfl⟩:=ND h;simp only[Zi,ă,decide_eq_true_eq]at h;have he:=Y_ hs h.1.1;rcases hs with rfl|rfl<;>simp only[à,Ů]at he<;>simp[ś,dM,he,h.1.2,h.2]
def Z2D(h:Zh xs=true):fc [sl]=.ret (.sh<|.bl true):=by
 have ce:∀{a b c:Int},(qe a=true/\qe b=true)/\JB c=true->bf [.sh<|.lst [.int a,.int b,.int c]]=.ret (.sh<|.bl true):=λh=>by have:=h.2;simp[JB]at this;simp[bf,gK,Zf h.1.1,Zf h.1.2,this]
 obtain⟨a,b,c,d,e,f,g,p,i,rfl⟩:=SU h;simp only[Zh,ă]at h;have h1:fC ([.int a,.int b,.int c,.int d,.int e,.int f,.int g,.int p,.int i]:List PV) (some 0) (some 3)=[.int a,.int b,.int c]:=rfl;have h2:fC ([.int a,.int b,.int c,.int d,.int e,.int f,.int g,.int p,.int i]:List PV) (some 3) (some 6)=[.int d,.int e,.int f]:=rfl;have h3:fC ([.int a,.int b,.int c,.int d,.int e,.int f,.int g,.int p,.int i]:List PV) (some 6) (some 9)=[.int g,.int p,.int i]:=rfl;have hb:pE [.lst [.bl true,.bl true,.bl true]]=some (.bl true):=rfl;rcases hs with rfl|rfl<;>simp[fc,lH,á,ī,h1,h2,h3,ce h.1.1,ce h.1.2,ce h.2,hb]
end
def Za(w:Str):String:=if w="post"then "Post"else if w="fence"then "Fence"else if w="sail"then "Sail"else if w="cloth"then "Cloth"else "House"
def Z7(C:String)(w:Str)(xs:List Int):PV:=.ins C ["word","numbers"] [.str w,.lst<|xs.map .int]
def Z1(w:Str)(xs:List Int):Bool:=if w="post"then Zn xs else if w="fence"then Zg xs else if w="sail"then Zi xs else if w="cloth"then Zh xs else if w="house"then Zi xs else false
def Zr(h:Z1 w xs=true):(w="post"/\Zn xs=true)\/(w="fence"/\Zg xs=true)\/(w="sail"/\Zi xs=true)\/(w="cloth"/\Zh xs=true)\/(w="house"/\Zi xs=true):=by
 unfold Z1 at h
 repeat' split at h
 all_goals simp_all
def wn:((Ì "word")=(Ì "numbers"))=False:=eq_false (by decide+kernel)
def ZL(hC:(["Thing","Post","Fence","Sail","Cloth","House"]:List String).contains C=true)(w:Str){xs:List Int}(hs:SQ sl (xs.map .int)):dE 3 3 C Ļ [.sh<|.str w,sl]=.ok ["word","numbers"] [.str w,.lst<|xs.map .int]:=by rcases hs with rfl|rfl<;>simp[dE,Ļ,fH,IR.of,putN,yV,hC,wn,-List.contains_eq_mem,-xl]
def s1:ę (Ì "post")=true:=by decide+kernel
def s2:ę (Ì "fence")=true:=by decide+kernel
def s3:ę (Ì "sail")=true:=by decide+kernel
def s4:ę (Ì "cloth")=true:=by decide+kernel
def s5:ę (Ì "house")=true:=by decide+kernel
def YD:(Ì "post"=Ì "fence")=False:=eq_false (by decide+kernel)
def YE:(Ì "post"=Ì "sail")=False:=eq_false (by decide+kernel)
def YF:(Ì "post"=Ì "cloth")=False:=eq_false (by decide+kernel)
def YG:(Ì "post"=Ì "house")=False:=eq_false (by decide+kernel)
def V6:(Ì "fence"=Ì "post")=False:=eq_false (by decide+kernel)
def YH:(Ì "fence"=Ì "sail")=False:=eq_false (by decide+kernel)
def YI:(Ì "fence"=Ì "cloth")=False:=eq_false (by decide+kernel)
def YJ:(Ì "fence"=Ì "house")=False:=eq_false (by decide+kernel)
def Sy:(Ì "sail"=Ì "post")=False:=eq_false (by decide+kernel)
def V7:(Ì "sail"=Ì "fence")=False:=eq_false (by decide+kernel)
def YK:(Ì "sail"=Ì "cloth")=False:=eq_false (by decide+kernel)
def YL:(Ì "sail"=Ì "house")=False:=eq_false (by decide+kernel)
def V8:(Ì "cloth"=Ì "post")=False:=eq_false (by decide+kernel)
def V9:(Ì "cloth"=Ì "fence")=False:=eq_false (by decide+kernel)
def Wa:(Ì "cloth"=Ì "sail")=False:=eq_false (by decide+kernel)
def YM:(Ì "cloth"=Ì "house")=False:=eq_false (by decide+kernel)
def Wb:(Ì "house"=Ì "post")=False:=eq_false (by decide+kernel)
def Wc:(Ì "house"=Ì "fence")=False:=eq_false (by decide+kernel)
def We:(Ì "house"=Ì "sail")=False:=eq_false (by decide+kernel)
def Wf:(Ì "house"=Ì "cloth")=False:=eq_false (by decide+kernel)
def cO:Za "post"="Post"/\Za "fence"="Fence"/\Za "sail"="Sail"/\Za "cloth"="Cloth"/\Za "house"="House":=by decide+kernel
def Wn(hg:Z1 w xs=true)(hs:SQ sl (xs.map .int)):Ő [.sh<|.str w,sl]=.ret (.sh<|Z7 (Za w) w xs):=by
 have hle:=Z4F hs hs;rcases Zr hg with⟨rfl,h⟩|⟨rfl,h⟩|⟨rfl,h⟩|⟨rfl,h⟩|⟨rfl,h⟩
 ·have i:zl [.sh<|.str "post",sl]=_:=ZL (by decide) _ hs;simp[Ő,cS,fJ,ϙ,s1,hle,Z0I hs h,i,cO,Z7]
 ·have i:uT [.sh<|.str "fence",sl]=_:=ZL (by decide) _ hs;simp[Ő,cS,fJ,ϙ,s1,s2,V6,hle,Z2C hs h,i,cO,Z7]
 ·have i:zm [.sh<|.str "sail",sl]=_:=ZL (by decide) _ hs;simp[Ő,cS,fJ,ϙ,s1,s2,s3,Sy,V7,hle,Y0 hs h,i,cO,Z7]
 ·have i:uU [.sh<|.str "cloth",sl]=_:=ZL (by decide) _ hs;simp[Ő,cS,fJ,ϙ,s1,s2,s3,s4,V8,V9,Wa,hle,Z2D hs h,i,cO,Z7]
 ·have i:uV [.sh<|.str "house",sl]=_:=ZL (by decide) _ hs;simp[Ő,cS,fJ,ϙ,s1,s2,s3,s4,s5,Wb,Wc,We,Wf,hle,Y0 hs h,i,cO,Z7]
abbrev P3:=Int×Int×Int
def c3(p:P3):PV:=.tup [.int p.1,.int p.2.1,.int p.2.2]
def Zd(x y u v z:Int):List P3:=[(x,y,z),(u,y,z),(u,v,z),(x,v,z)]
def Zy(x y u v h:Int):List P3:=Zd x y u v 0++Zd x y u v h
def Z3(C:String)(xs:List Int):List P3:=
 if C="Post"then(match xs with
  |[p,q,h]=>Zy (2*p-1) (2*q-1) (2*p+1) (2*q+1) h|_=>[])
 else if C="Fence"then(match xs with
  |[x,y,u,v,h]=>[(x,y,0),(u,v,0),(u,v,h),(x,y,h)]|_=>[])
 else if C="Sail"then(match xs with
  |[x,y,u,v,h]=>Zd x y u v h|_=>[])
 else if C="Cloth"then(match xs with
  |[a,b,c,d,e,f,g,h,i]=>[(a,b,c),(d,e,f),(g,h,i)]|_=>[])
 else(match xs with
  |[x,y,u,v,h]=>Zy x y u v h|_=>[])
def Zc(w:Str)(xs:List Int):List P3:=Z3 (Za w) xs
def ZU(hC:(["Thing","Post","Fence","Sail","Cloth","House"]:List String).contains C=true)(w:Str)(xs:List Int):Ś ["Thing","Post","Fence","Sail","Cloth","House"] (Ì "numbers") (Z7 C w xs)=some (.lst<|xs.map .int):=by
 unfold Ś Z7;dsimp only;rw[if_pos hC];have:(Ì "numbers"==Ì "word")=false:=by decide+kernel
 show eC _ [(_,_),(_,_)]=_;rw[ş,this];simp
def Y4(x y u v z:Int):ϐ [.sh<|.int x,.sh<|.int y,.sh<|.int u,.sh<|.int v,.sh<|.int z]=.ret (.ow<|(Zd x y u v z).map c3):=by simp[ϐ,jD,Zd,c3]
def Y5(x y u v h:Int):ar [.sh<|.int x,.sh<|.int y,.sh<|.int u,.sh<|.int v,.sh<|.int h]=.ret (.ow<|(Zy x y u v h).map c3):=by simp[ar,jE,Y4,Zy,Zd,vc]
section
variable{xs:List Int}(w:Str)
def Z41(h:Zn xs=true):br [.sh<|Z7 "Post" w xs]=.ret (.ow<|(Z3 "Post" xs).map c3):=by obtain⟨p,q,z,rfl⟩:=SR h;simp[br,kN,á,ZU (C:="Post") (by decide),Y5,Z3]
def Z3r(h:Zg xs=true):au [.sh<|Z7 "Fence" w xs]=.ret (.ow<|(Z3 "Fence" xs).map c3):=by obtain⟨x,y,u,v,z,rfl⟩:=SS h;simp[au,jF,á,ZU (C:="Fence") (by decide),Z3,c3,Ă]
def Z42(h:Zi xs=true):bt [.sh<|Z7 "Sail" w xs]=.ret (.ow<|(Z3 "Sail" xs).map c3):=by obtain⟨x,y,u,v,z,rfl⟩:=ND h;simp[bt,kO,ZU (C:="Sail") (by decide),Y4,Z3]
def Z3s(h:Zi xs=true):ax [.sh<|Z7 "House" w xs]=.ret (.ow<|(Z3 "House" xs).map c3):=by obtain⟨x,y,u,v,z,rfl⟩:=ND h;simp[ax,jH,ZU (C:="House") (by decide),Y5,Z3]
def Z3t(h:Zh xs=true):av [.sh<|Z7 "Cloth" w xs]=.ret (.ow<|(Z3 "Cloth" xs).map c3):=by obtain⟨a,b,c,d,e,f,g,i,j,rfl⟩:=SU h;simp[av,jG,á,ZU (C:="Cloth") (by decide),Z3,c3,ī,OU,fC];exact⟨rfl,rfl,rfl⟩
end
def qc(r p:P3):Hu.Pt:=(r.2.2*p.1+r.1*p.2.2,r.2.2*p.2.1+r.2.1*p.2.2)
def RB(r:P3):Prop:=-1000000<=r.1/\r.1<=1000000/\ -1000000<=r.2.1/\r.2.1<=1000000/\ -1000000<=r.2.2/\r.2.2<=1000000
def PB(p:P3):Prop:=-10000000000<=p.1/\p.1<=10000000000/\ -10000000000<=p.2.1/\p.2.1<=10000000000/\ -10000000000<=p.2.2/\p.2.2<=10000000000
def Y6(hr:RB r)(p:P3):nZ [.sh<|c3 p,.sh<|c3 r]=.ret (.sh<|pt<|qc r p):=by obtain⟨a1,a2,a3,a4,a5,a6⟩:=hr;have m1:ľ r.2.2 p.1=true:=ό (by lia) (by lia);have m2:ľ r.2.2 p.2.1=true:=ό (by lia) (by lia);have m3:ľ r.1 p.2.2=true:=ό (by lia) (by lia);have m4:ľ r.2.1 p.2.2=true:=ό (by lia) (by lia);simp[nZ,DR,pt,c3,qc,m1,m2,m3,m4]
def Qw(h1: -A<=x)(h2:x<=A)(h3: -B<=y)(h4:y<=B): -(A*B)<=x*y/\x*y<=A*B:=by
 have hA:0<=A:=by lia
 have hB:0<=B:=by lia
 have e:(x*y).natAbs<=A.natAbs*B.natAbs:=by rw[rH];exact eI (by lia) (by lia)
 have e2:((A*B).natAbs)=A.natAbs*B.natAbs:=rH A B;have e3:0<=A*B:=Int.mul_nonneg hA hB;lia
def Wo(hr:RB r)(hp:PB p):Sm (qc r p):=by obtain⟨a1,a2,a3,a4,a5,a6⟩:=hr;obtain⟨b1,b2,b3,b4,b5,b6⟩:=hp;have q1:=Qw a5 a6 b1 b2;have q2:=Qw a5 a6 b3 b4;have q3:=Qw a1 a2 b5 b6;have q4:=Qw a3 a4 b5 b6;simp only[Sm,qc];lia
noncomputable abbrev Y7:List (String×MF):=[("Post",br),("Fence",au),("Sail",bt),("Cloth",av),("House",ax)]
def Z28(hg:Z1 w xs=true){U U1:List ť}(ho:mo U=.ok (Z7 (Za w) w xs) U1):kH (Ì "corners") Y7 mo Ö U=.ok (.ow<|(Zc w xs).map c3) U1:=by
 have hn:(["word","numbers"]:List Str).contains (Ì "corners")=false:=by decide+kernel
 suffices ∃mf,eC (Za w) Y7=some mf/\mf [.sh<|Z7 (Za w) w xs]=.ret (.ow<|(Z3 (Za w) xs).map c3) by
  obtain⟨mf,hl,hf⟩:=this;unfold Zc kH;rw[ho];unfold Z7 at*;simp only[į.bind];rw[hl];dsimp only;rw[if_neg (by rw[hn];decide)];simp only[Ö];rw[hf]
 obtain⟨c1,c2,c3,c4,c5⟩:=cO;rcases Zr hg with⟨rfl,h⟩|⟨rfl,h⟩|⟨rfl,h⟩|⟨rfl,h⟩|⟨rfl,h⟩
 ·rw[c1];exact⟨_,rfl,Z41 _ h⟩
 ·rw[c2];exact⟨_,rfl,Z3r _ h⟩
 ·rw[c3];exact⟨_,rfl,Z42 _ h⟩
 ·rw[c4];exact⟨_,rfl,Z3t _ h⟩
 ·rw[c5];exact⟨_,rfl,Z3s _ h⟩
def Z1E(hr:RB r){L:List P3}(hl:L.length<=100)(s1:ť):ī (gN 1) ė (Ý<|Ü nZ<|È 1<|È 0 Ö) (L.map c3) [.sh<|c3 r,s1] []=some ((L.map<|qc r).map pt):=by
 have:=đ (g:=gN 1) (mt:=ė) (me:=Ý<|Ü nZ<|È 1<|È 0 Ö) c3 (λp=>pt<|qc r p) (λU=>∃s,U=[.sh<|c3 r,s]) L [.sh<|c3 r,s1] [] ⟨_,rfl⟩ (by simp;lia) (by
  rintro p hp U ⟨s,rfl⟩;have e:=Y6 hr p;generalize c3 r=R,c3 p=Q at*;exact⟨[R|> .sh,.sh Q],[.sh R,.sh Q],[.sh R,.sh Q],by simp,by simp,by simp[e],_,rfl⟩)
 rw[this];simp
def Y8(hg:Z1 w xs=true)(hl:(Zc w xs).length<=100)(hr:RB r):ϴ [.sh<|Z7 (Za w) w xs,.sh<|c3 r]=.ret (.ow<|((Zc w xs).map (qc r)).map pt):=by have h1:=Z28 hg (mo:=ì 0) (U:=[.sh<|Z7 (Za w) w xs,.sh<|c3 r]) (U1:=[.sh<|Z7 (Za w) w xs,.sh<|c3 r]) (by simp);have h2:=Z1E hr hl;simp[ϴ,kP,á,h1,h2,-IS]
def zF(s:Hu.Pt):P3:=(2*s.1,2*s.2,0)
def bd(x:Int):Prop:=-10000000000<=x/\x<=10000000000
def XB:bd 0:=⟨by decide,by decide⟩
def G4(a:bd x)(b:bd y)(c:bd z):PB (x,y,z):=⟨a.1,a.2,b.1,b.2,c.1,c.2⟩
def Wp(a:bd x)(b:bd y)(c:bd u)(d:bd v)(e:bd z):∀p∈Zd x y u v z,PB p:=by simp only[Zd,B2];exact⟨G4 a b e,G4 c b e,G4 c d e,G4 a d e,nofun⟩
def Y9(a:bd x)(b:bd y)(c:bd u)(d:bd v)(e:bd z):∀p∈Zy x y u v z,PB p:=λp h=>(ź.mp h).elim (Wp a b c d XB p) (Wp a b c d e p)
def Z_(hg:Z1 w xs=true):(Zc w xs).length<=8/\Zc w xs≠[]/\∀p∈Zc w xs,PB p:=by
 have pl:∀{x},qe x=true->bd x:=λh=>by simp[qe]at h;exact⟨by lia,by lia⟩
 have gl:∀{x},JB x=true->bd x:=λh=>by simp[JB]at h;exact⟨by lia,by lia⟩
 have hl:∀{x},EO x=true->bd x:=λh=>by simp[EO]at h;exact⟨by lia,by lia⟩
 have hp:Zn xs=true->(Z3 "Post" xs).length<=8/\Z3 "Post" xs≠[]/\∀p∈Z3 "Post" xs,PB p:=λh=>by obtain⟨a,b,c,rfl⟩:=SR h;simp only[Zn,qe,ă,decide_eq_true_eq]at h;exact⟨by simp[Z3,Zy,Zd],by simp[Z3,Zy,Zd],by simp only[Z3,if_true];exact Y9 ⟨by lia,by lia⟩ ⟨by lia,by lia⟩ ⟨by lia,by lia⟩ ⟨by lia,by lia⟩<|hl h.2⟩
 have hf:Zg xs=true->(Z3 "Fence" xs).length<=8/\Z3 "Fence" xs≠[]/\∀p∈Z3 "Fence" xs,PB p:=λh=>by obtain⟨a,b,c,d,e,rfl⟩:=SS h;simp only[Zg,Zo,ă]at h;obtain⟨⟨⟨⟨⟨h1,h2⟩,h3⟩,h4⟩,h5⟩,-⟩:=h;exact⟨by simp[Z3],by simp[Z3],by simp[Z3];exact⟨G4 (pl h1) (pl h2) XB,G4 (pl h3) (pl h4) XB,G4 (pl h3) (pl h4)<|hl h5,G4 (pl h1) (pl h2)<|hl h5⟩⟩
 have hs:Zi xs=true->(∀C,C="Sail" \/C="House" ->(Z3 C xs).length<=8/\Z3 C xs≠[]/\∀p∈Z3 C xs,PB p):=λh C hC=>by
  obtain⟨a,b,c,d,e,rfl⟩:=ND h;simp only[Zi,Zo,ă]at h;obtain⟨⟨⟨⟨⟨⟨h1,h2⟩,h3⟩,h4⟩,h5⟩,-⟩,-⟩:=h;rcases hC with rfl|rfl
  ·exact⟨by simp[Z3,Zd],by simp[Z3,Zd],by simp[Z3];simpa using Wp (pl h1) (pl h2) (pl h3) (pl h4) (hl h5)⟩
  ·exact⟨by simp[Z3,Zy,Zd],by simp[Z3,Zy,Zd],by simp[Z3];simpa using Y9 (pl h1) (pl h2) (pl h3) (pl h4) (hl h5)⟩
 have hc:Zh xs=true->(Z3 "Cloth" xs).length<=8/\Z3 "Cloth" xs≠[]/\∀p∈Z3 "Cloth" xs,PB p:=λh=>by obtain⟨a,b,c,d,e,f,g,i,j,rfl⟩:=SU h;simp only[Zh,ă]at h;obtain⟨⟨⟨⟨h1,h2⟩,h3⟩,⟨h4,h5⟩,h6⟩,⟨h7,h8⟩,h9⟩:=h;exact⟨by simp[Z3],by simp[Z3],by simp[Z3];exact⟨G4 (pl h1) (pl h2)<|gl h3,G4 (pl h4) (pl h5)<|gl h6,G4 (pl h7) (pl h8)<|gl h9⟩⟩
 unfold Zc;obtain⟨c1,c2,c3,c4,c5⟩:=cO;rcases Zr hg with⟨rfl,h⟩|⟨rfl,h⟩|⟨rfl,h⟩|⟨rfl,h⟩|⟨rfl,h⟩
 ·rw[c1];exact hp h
 ·rw[c2];exact hf h
 ·rw[c3];exact hs h _<|.inl rfl
 ·rw[c4];exact hc h
 ·rw[c5];exact hs h _<|.inr rfl
def MT(w:Str)(xs:List Int)(s:Hu.Pt)(r:P3):Bool:=(Hu.ZD ((Zc w xs).map (qc r))<|qc r<|zF s).isNone
def Z29(b:Nat):mE (b:Int)= -(b:Int)-1:=rfl
def SV(a b:Nat):mD a b=((a|||b:Nat):Int):=by
 unfold mD eQ;rw[Z29,Z29];have h1:decide (0<= -(a:Int)-1)=false:=by simp;lia
 have h2:decide (0<= -(b:Int)-1)=false:=by simp;lia
 rw[h1,h2];have e1:(mE<|-(a:Int)-1).toNat=a:=by unfold mE;lia
 have e2:(mE<|-(b:Int)-1).toNat=b:=by unfold mE;lia
 simp only[e1,e2];unfold mE;lia
def Z3u(a k:Nat):(a:Int)/2^k=((a>>>k:Nat):Int):=by rw[Nat.shiftRight_eq_div_pow];simp
def Wq(a k:Nat):(a:Int)/2^k%2=if a.testBit k then 1 else 0:=by
 rw[Z3u];have:(a>>>k)%2=if a.testBit k then 1 else 0:=by
  rw[Nat.testBit];have h:1&&&(a>>>k)=(a>>>k)%2:=by rw[Nat.and_comm];exact Nat.and_one_is_mod _
  rw[h];have:(a>>>k)%2=0\/(a>>>k)%2=1:=by lia
  rcases this with e|e<;>simp[e]
 by_cases q:a.testBit k=true
 ·rw[if_pos q]at this⊢;lia
 ·rw[if_neg q]at this⊢;lia
def Wr(a:Int):eQ a 1=a%2:=PyProof.Rows.bitAnd_m1 a
def Z2E(f l k:Nat)(h:f<=l):(2^(l+1)-2^f).testBit k=(decide (f<=k)&&decide (k<=l)):=by
 have e:2^(l+1)-2^f=(2^(l+1-f)-1)*2^f:=by rw[Nat.sub_mul,<-Nat.pow_add,xt];congr 2;lia
 rw[e,B8,Nat.testBit_two_pow_sub_one];by_cases h1:f<=k
 ·simp[h1];by_cases h2:k<=l
  ·simp[h2];lia
  ·simp[h2];lia
 ·simp[h1]
def Z1G(h:∀k,n<=k->a.testBit k=false):a<2^n:=Nat.lt_pow_two_of_testBit a h
def Z43{k:Nat}(h:k<=1000000):gy 1 (k:Int)=true:=by unfold gy;simp;lia
def Z1o{f l:Int}{w:Nat}(hf:0<=f)(hl:l<w)(hw:w<=1000):∃B:Nat,cV [.sh<|.int f,.sh<|.int l]=.ret (.sh<|.int B)/\∀k:Nat,B.testBit k=(decide (f<=k)&&decide ((k:Int)<=l)):=by
 by_cases h:l<f
 ·refine⟨0,by simp[cV,kF,h],λk=>?_⟩;by_cases h1:f<=k
  ·have h2:¬(k:Int)<=l:=by lia
   simp[h2]
  ·simp[h1]
 ·obtain⟨F,rfl⟩:=rJ hf;obtain⟨L,rfl⟩:=rJ (by lia:0<=l);have e1:=Z43 (k:=L+1) (by lia);have e2:=Z43 (k:=F) (by lia);have hp:2^F<=2^(L+1):=lW (by lia) (by lia);refine⟨2^(L+1)-2^F,?_,λk=>?_⟩
  ·have t1:((L:Int)+1).toNat=L+1:=by lia
   have t2:((L:Int)+1)=((L+1:Nat):Int):=by lia
   simp only[Int.natCast_add,Int.cast_ofNat_Int]at e1;have h':¬(L:Int)<F:=h;simp[cV,kF,h',e1,e2,t1];rw[Int.natCast_sub hp];simp
  ·rw[Z2E F L k<|by lia];simp
def inR(L:List Hu.Ln)(u q k:Int):Prop:=∀l∈L,l.1*(u*k)+l.2.1*(u*q)<=l.2.2
def Z1p{a b k:Int}(hb:0<b):k<=a.fdiv b↔k*b<=a:=by rw[rG _<|Int.le_of_lt hb];exact BS hb
def EQ(s0:ť)(u q:Int)(w:Nat)(f la:Int)(r:ť×ť×ť×ť×ť):Ĉ:=[s0,.sh<|.int u,.sh<|.int q,.sh<|.int w,.sh<|.int f,.sh<|.int la,r.1,r.2.1,r.2.2.1,r.2.2.2.1,r.2.2.2.2]
def Ht(l:Hu.Ln)(s9 zS:ť):ť×ť×ť×ť×ť:=(.sh<|.int l.1,.sh<|.int l.2.1,.sh<|.int l.2.2,s9,zS)
def Z2F{w:Nat}(hu:0<u)(Kz:u<=10000000)(hq:0<=q)(D0:q<=1000)(s0:ť)(hl:JA l){f la:Int}(h1:0<=f)(h2:la<w)(s9 zS:ť):
 (∃f' G5 r,Ϝ (EQ s0 u q w f la<|Ht l s9 zS)=.ok .nx (EQ s0 u q w f' G5 r)/\0<=f'/\G5<w/\∀k:Int,(f'<=k/\k<=G5)↔(f<=k/\k<=la/\l.1*(u*k)+l.2.1*(u*q)<=l.2.2))\/
 (∃U',Ϝ (EQ s0 u q w f la<|Ht l s9 zS)=.ok (.rt<|.sh<|.int 0) U'/\∀k:Int,¬l.1*(u*k)+l.2.1*(u*q)<=l.2.2):=by
 have m1:ľ l.1 u=true:=ό (by have:=hl.1;omega) (by have:=hl.2.1;omega);have m2:ľ l.2.1 u=true:=ό (by have:=hl.2.2.1;omega) (by have:=hl.2.2.2;omega);have m3:ľ (l.2.1*u) q=true:=Kv (by omega) (by omega);have bs:=Qw hl.1 hl.2.1 (show -10000000<=u by omega) Kz;have QP:∀k:Int,l.1*(u*k)+l.2.1*(u*q)<=l.2.2↔k*(l.1*u)<=l.2.2-l.2.1*u*q:=λk=>by rw[<-Int.mul_assoc,Int.mul_comm<|l.1*u,<-Int.mul_assoc l.2.1];omega
 generalize jN:l.1*u=st,SW:l.2.2-l.2.1*u*q=ro at*;simp only[QP];clear QP;have dv:∀z,st=z\/st= -z->0<z->nv ro z=true:=λz h1 h2=>Dp (by omega) (Ţ (tD (n:=200) (by omega)<|by omega)<|by decide);by_cases c1:0<st
 ·refine .inl ⟨f,min la<|ro.fdiv st,Ht l (.sh<|.int st)<|.sh<|.int ro,?_,h1,by omega,λk=>?_⟩
  ·simp[EQ,Ht,Ϝ,m1,m2,m3,jN,SW,c1,dv st (.inl rfl) c1];split<;>omega
  ·have:=Z1p (a:=ro) (k:=k) c1;omega
 ·by_cases c2:st<0
  ·refine .inl ⟨max f<|-(ro.fdiv<|-st),la,Ht l (.sh<|.int st)<|.sh<|.int ro,?_,by omega,h2,λk=>?_⟩
   ·simp[EQ,Ht,Ϝ,m1,m2,m3,jN,SW,c1,c2,dv (-st) (.inr<|by omega)<|by omega];split<;>omega
   ·have:=Z1p (a:=ro) (b:=-st) (k:=-k) (by omega);rw[Int.neg_mul_neg]at this;omega
  ·have c0:st=0:=by omega
   subst c0;by_cases c3:ro<0
   ·exact .inr ⟨_,by simp[EQ,Ht,Ϝ,m1,m2,m3,jN,SW,c3];rfl,λk=>by omega⟩
   ·exact .inl ⟨f,la,Ht l (.sh<|.int 0)<|.sh<|.int ro,by simp[EQ,Ht,Ϝ,m1,m2,m3,jN,SW,c3],h1,h2,λk=>by omega⟩
def Z2G{w:Nat}(hu:0<u)(Kz:u<=10000000)(hq:0<=q)(D0:q<=1000)(s0:ť)(hS:∀l∈L,JA l){f la:Int}(r:ť×ť×ť×ť×ť)(h1:0<=f)(h2:la<w):
 (∃f' G5 r',Ĵ (gT 3<|ï (gN 6)<|ï (gN 7)<|ï (gN 8) ř) Ϝ (L.map iQ) (EQ s0 u q w f la r)=.ok .nx (EQ s0 u q w f' G5 r')/\0<=f'/\G5<w/\∀k:Int,(f'<=k/\k<=G5)↔(f<=k/\k<=la/\inR L u q k))\/
 (∃U',Ĵ (gT 3<|ï (gN 6)<|ï (gN 7)<|ï (gN 8) ř) Ϝ (L.map iQ) (EQ s0 u q w f la r)=.ok (.rt<|.sh<|.int 0) U'/\∀k:Int,¬inR L u q k):=by
 induction L generalizing f la r with
 |nil=>exact .inl ⟨f,la,r,rfl,h1,h2,λk=>by simp[inR]⟩
 |cons l L ih=>
  have ic:∀k,inR (l::L) u q k↔l.1*(u*k)+l.2.1*(u*q)<=l.2.2/\inR L u q k:=λk=>B2;have gg:gT 3 (ï (gN 6)<|ï (gN 7)<|ï (gN 8) ř) (iQ l) (EQ s0 u q w f la r)=some (EQ s0 u q w f la<|Ht l r.2.2.2.1 r.2.2.2.2):=rfl;rw[à,Ĵ,gg];dsimp only;simp only[ic];rcases Z2F hu Kz hq D0 s0 (hS l Ş) h1 h2 r.2.2.2.1 r.2.2.2.2 with⟨f1,la1,r1,e,a,b,c⟩|⟨U',e,c⟩
  ·rw[e];rcases ih (λx hx=>hS x<|þ _ hx) r1 a b with⟨f',G5,r',q1,q2,q3,q4⟩|⟨U',q1,q2⟩
   ·exact .inl ⟨f',G5,r',q1,q2,q3,λk=>by rw[q4,<-and_assoc,c];simp only[and_assoc]⟩
   ·exact .inr ⟨U',q1,λk h=>q2 k h.2⟩
  ·rw[e];exact .inr ⟨U',rfl,λk h=>c k h.1⟩
def Z44{w:Nat}(hu:0<u)(Kz:u<=10000000)(hq:0<=q)(D0:q<=1000)(hw:w<=1000)(hS:∀l∈L,JA l)(hs:Sl sl (L.map iQ)):
 ∃B:Nat,gL [sl,.sh<|.int u,.sh<|.int q,.sh<|.int w]=.ret (.sh<|.int B)/\∀k:Nat,B.testBit k=true↔(k<w/\inR L u q k):=by
 rcases Z2G (w:=w) (f:=0) (la:=w-1) hu Kz hq D0 sl hS (.no,.no,.no,.no,.no) (by lia) (by lia)with⟨f',G5,r',q1,q2,q3,q4⟩|⟨U',q1,q2⟩<;>simp only[EQ]at q1
 ·obtain⟨B,b1,b2⟩:=Z1o (f:=f') (l:=G5) q2 q3 hw;refine⟨B,by rcases hs with rfl|rfl<;>simp[gL,lI,á,q1,b1],λk=>?_⟩;rw[b2,ă,decide_eq_true_eq,decide_eq_true_eq,q4 k];constructor
  ·rintro ⟨a,b,c⟩;exact⟨by lia,c⟩
  ·rintro ⟨a,b⟩;exact⟨by lia,by lia,b⟩
 ·refine⟨0,by rcases hs with rfl|rfl<;>simp[gL,lI,á,q1],λk=>?_⟩;simp;exact λx=>q2 k
abbrev Th:=Str×List Int
def dZ(t:Th):PV:=Z7 (Za t.1) t.1 t.2
def aE:Option P3->PV
 |none=>.non|some r=>c3 r
abbrev Dy:=Str×Int×List (Option P3)
def jL(d:Dy):PV:=.tup [.str d.1,.int d.2.1,.lst<|d.2.2.map aE]
def Z0(w h:Int)(T:List Th)(D:List Dy):PV:=.ins "Yard" ["width","height","things","days"] [.int w,.int h,.lst<|T.map dZ,.lst<|D.map jL]
def ywh:(Ì "width"=Ì "height")=False:=eq_false (by decide+kernel)
def ywt:(Ì "width"=Ì "things")=False:=eq_false (by decide+kernel)
def ywd:(Ì "width"=Ì "days")=False:=eq_false (by decide+kernel)
def yht:(Ì "height"=Ì "things")=False:=eq_false (by decide+kernel)
def yhd:(Ì "height"=Ì "days")=False:=eq_false (by decide+kernel)
def ytd:(Ì "things"=Ì "days")=False:=eq_false (by decide+kernel)
def Qx(w h:Int)(T:List Th)(D:List Dy):Ś ["Yard"] (Ì "width") (Z0 w h T D)=some (.int w):=by unfold Ś Z0;simp
def Qy(w h:Int)(T:List Th)(D:List Dy):Ś ["Yard"] (Ì "height") (Z0 w h T D)=some (.int h):=by
 have:(Ì "height"==Ì "width")=false:=by decide+kernel
 unfold Ś Z0;simp[ş,this]
def Ws(w h:Int)(T:List Th)(D:List Dy):Ś ["Yard"] (Ì "things") (Z0 w h T D)=some (.lst<|T.map dZ):=by
 have e1:(Ì "things"==Ì "width")=false:=by decide+kernel
 have e2:(Ì "things"==Ì "height")=false:=by decide+kernel
 unfold Ś Z0;simp[ş,e1,e2]
def NE(w h:Int)(T:List Th)(D:List Dy):Ś ["Yard"] (Ì "days") (Z0 w h T D)=some (.lst<|D.map jL):=by
 have e1:(Ì "days"==Ì "width")=false:=by decide+kernel
 have e2:(Ì "days"==Ì "height")=false:=by decide+kernel
 have e3:(Ì "days"==Ì "things")=false:=by decide+kernel
 unfold Ś Z0;simp[ş,e1,e2,e3]
def Z2a(D:List Dy)(hD:D.length<=100000)(s0 s1 s2:ť):ī (gT 3<|ï (gN 0)<|ï (gN 1)<|ï (gN 2) ř) ė (Ŧ<|É (ì 0)<|É (ì 1)<|É (Ý<|rh iE<|É (Â 2) æ) æ) (D.map jL) [s0,s1,s2] []=some (D.map jL):=by
 have h:=đ (g:=gT 3<|ï (gN 0)<|ï (gN 1)<|ï (gN 2) ř) (mt:=ė) (me:=Ŧ<|É (ì 0)<|É (ì 1)<|É (Ý<|rh iE<|É (Â 2) æ) æ) jL jL (λU=>∃a b c,U=[a,b,c]) D [s0,s1,s2] [] ⟨_,_,_,rfl⟩ (by simp;lia) (by
  rintro d _ U ⟨a,b,c,rfl⟩;refine⟨[.sh<|.str d.1,.sh<|.int d.2.1,.sh<|.lst<|d.2.2.map aE],[.sh<|.str d.1,.sh<|.int d.2.1,.sh<|.lst<|d.2.2.map aE],[.sh<|.str d.1,.sh<|.int d.2.1,.sh<|.lst<|d.2.2.map aE],by simp[jL],rfl,by simp[jL],_,_,_,rfl⟩)
 simpa using h
def Z3v(w h:Int){T:List Th}{D:List Dy}(hT:T.length<=100000)(hD:D.length<=100000){s3 s4:ť}(h3:Sl s3 (T.map dZ))(h4:Sl s4 (D.map jL)):ge [.sh<|.int w,.sh<|.int h,s3,s4]=.ok ["width","height","things","days"] [.int w,.int h,.lst<|T.map dZ,.lst<|D.map jL]:=by have c:=Z2a D hD .no .no .no;rcases h3 with rfl|rfl<;>rcases h4 with rfl|rfl<;>simp[ge,dE,eB,fH,IR.of,á,putN,yV,ywh,ywt,ywd,yht,yhd,ytd,c,PM,Je]
def Z45(hw:0<w):(q*w<=k/\k-q*w<w)↔k/w=q:=by
 constructor
 ·rintro ⟨a,b⟩;exact Nat.div_eq_of_lt_le a (by rw[sf];lia)
 ·rintro rfl;have h1:=Nat.div_mul_le_self k w;have h2:=Nat.mod_lt k hw;have h3:=B9 (x:=k) (k:=w);lia
def Z46{k q w:Nat}(h:k/w=q):k-q*w=k%w:=by subst h;exact(B9).symm
def Z3c(hw:0<w):k/w<h↔k<w*h:=by rw[Nat.div_lt_iff_lt_mul hw,xu]
def qf(w k:Nat):Hu.Pt:=(((k%w:Nat):Int),((k/w:Nat):Int))
def Z3w{S:List Hu.Pt}:inR (Hu.Zv S) (2*r.2.2) q p↔(Hu.ZD S<|qc r<|zF (p,q)).isNone=true:=by
 have e:qc r (zF (p,q))=(2*r.2.2*p,2*r.2.2*q):=by unfold qc zF;simp only[Int.mul_zero,Int.add_zero,Prod.mk.injEq];constructor<;>grind
 rw[e];unfold Hu.ZD inR Hu.hd;rw[Cb,List.find?_eq_none];simp
theorem Wu{α:Type}(y:α):∀(xs b:List α),y∈xs.foldl (λb x=>x::b) b↔(y∈xs\/y∈b)
 |[],b=>by simp|x::xs,b=>by rw[eD,Wu y xs (x::b)];simp;grind
def zr(t:Th)(s:Hu.Pt)(r:P3):Bool:=MT t.1 t.2 s r
def Z2b{w h:Nat}(hw:0<w)(KC:w<=60)(hh:h<=1000)(T:List Th)(Ds:List Dy)(hg:Z1 t.1 t.2=true)(hr:RB r)(hz:0<r.2.2):
 ∃D:Nat,gn [.sh<|Z0 w h T Ds,.sh<|dZ t,.sh<|c3 r]=.ret (.sh<|.int D)/\∀k,D.testBit k=(decide (k<w*h)&&zr t (qf w k) r):=by
 obtain⟨g1,g2,g3⟩:=Z_ hg;have hc:=Y8 hg (by lia) hr;have hS:∀p∈(Zc t.1 t.2).map (qc r),Sm p:=by intro p hp;obtain⟨q,hq,rfl⟩:=ģ.mp hp;exact Wo hr<|g3 q hq
 have hl:=YX (sl:=.sh<|.lst<|((Zc t.1 t.2).map (qc r)).map pt) (.inl rfl) hS (by simpa using g2) (by simp;lia);have Tq:∀l∈Hu.Zv ((Zc t.1 t.2).map (qc r)),JA l:=λl h=>YY h hS;have yw:=Qx w h T Ds;have yh:=Qy w h T Ds;have hv:(2:Int)*r.2.2<=10000000:=by have:=hr.2.2.2.2.2;lia
 generalize hX:Hu.Zv ((Zc t.1 t.2).map (qc r))=X,hY:Z0 w h T Ds=Y at*;have Tt:ã (c3 r) (.int 2)=some (.int r.2.2):=by simp[c3]
 obtain⟨U',e1,D,s5,rfl,hD⟩:=gm (g:=gN 5) (mb:=kG) (λ(q:Nat)=>PV.int q) (λ(b:List Nat) (x:Nat)=>x::b) (λb U=>∃(D:Nat) (s5:ť),U=[.sh Y,.sh<|dZ t,.sh<|c3 r,.ow<|X.map iQ,.sh<|.int D,s5]/\∀k,D.testBit k=true↔(k/w∈b/\zr t (qf w k) r=true)) (Ô h) (by
  rintro q hq b U ⟨D,s5,rfl,hD⟩;have hq:=ϑ.mp hq;obtain⟨B,b1,b2⟩:=Z44 (u:=2*r.2.2) (q:=q) (w:=w) (by lia) hv (by lia) (by lia) (by lia) Tq (sl:=.bw<|X.map iQ)<|.inr rfl;have hB:B<2^w:=Z1G λk hk=>by
   have:=b2 k;cases e:B.testBit k with
   |false=>rfl|true=>have:=(this.mp e).1;lia
  have hB2:B<2^60:=š hB (lW (by lia) KC);have hqw:q*w<=1000*60:=eI (by lia) KC;have so:gy (B:Int) ((q:Int)*(w:Int))=true:=by
   have:((q:Int)*(w:Int))=((q*w:Nat):Int):=by simp
   rw[this];unfold gy;simp;lia
  have mo:ľ (q:Int) (w:Int)=true:=ό (by lia) (by lia);have tn:((q:Int)*(w:Int)).toNat=q*w:=by
   have:((q:Int)*(w:Int))=((q*w:Nat):Int):=by simp
   rw[this];rfl
  obtain⟨Z,hZ⟩:∃Z:Nat,Z=D|||B*2^(q*w):=⟨_,rfl⟩
  have oe:mD (D:Int) ((B:Int)*2^(q*w))=(Z:Int):=by
   have ee:(B:Int)*2^(q*w)=((B*2^(q*w):Nat):Int):=by simp
   rw[ee,SV,hZ]
  have m2:ľ 2 r.2.2=true:=ό (by lia) (by lia);generalize c3 r=R at*;have st:kG [.sh Y,.sh<|dZ t,.sh R,.ow<|X.map iQ,.sh<|.int D,.sh<|.int q]=.ok .nx [.sh Y,.sh<|dZ t,.sh R,.ow<|X.map iQ,.sh<|.int Z,.sh<|.int q]:=by simp[kG,Tt,yw,b1,mo,so,tn,oe]
  refine⟨_,_,rfl,st,_,_,rfl,λk=>?_⟩;rw[hZ,xv,om,hD,B8,ă,decide_eq_true_eq,b2,û,<-hX,Z3w];have key:∀(y:k/w=q),((Hu.ZD ((Zc t.1 t.2).map (qc r))<|qc r<|zF (((k-q*w:Nat):Int),(q:Int))).isNone=true↔zr t (qf w k) r=true):=by intro hk;unfold zr MT qf;rw[Z46 hk,hk]
  have d:=Z45 (k:=k) (q:=q) hw;constructor
  ·rintro (⟨a,b⟩|⟨a,b,c⟩)
   ·exact⟨.inr a,b⟩
   ·have:=d.mp ⟨a,b⟩;exact⟨.inl this,(key this).mp c⟩
  ·rintro ⟨a|a,b⟩
   ·have:=d.mpr a;exact .inr ⟨this.1,this.2,(key a).mpr b⟩
   ·exact .inl ⟨a,b⟩) [] [.sh Y,.sh<|dZ t,.sh<|c3 r,.ow<|X.map iQ,.sh<|.int ((0:Nat):Int),.no] ⟨0,.no,rfl,by simp⟩
 refine⟨D,?_,λk=>?_⟩
 ·have rr:=Zb hh;have wL:ϴ [.sh<|dZ t,.sh<|c3 r]=.ret (.ow<|((Zc t.1 t.2).map (qc r)).map pt):=hc;simp[gn,uW,á,wL,hl,yh,rr,-ķ]at e1⊢;simp[e1]
 ·have:=hD k;rw[Wu,ϑ,Z3c hw]at this;rw[jO,this,ă,decide_eq_true_eq];simp
def Z4:Nat->(Nat->Bool)->Nat
 |0,_=>0|n+1,p=>Z4 n p+if p n then 2^n else 0
theorem ZP(p:Nat->Bool):∀n,Z4 n p<2^n
 |0=>by simp[Z4]|n+1=>by have:=ZP p n;unfold Z4;rw[Nat.pow_succ];split<;>lia
theorem Zl(p:Nat->Bool):∀n k,(Z4 n p).testBit k=(decide (k<n)&&p k)
 |0,k=>by simp[Z4]|n+1,k=>by
  have hl:=ZP p n;unfold Z4;by_cases h:k<n
  ·have ih:=Zl p n k;have h1:k<n+1:=by lia
   split
   ·rw[r_,Nat.testBit_two_pow_add_gt h,ih];simp[h,h1]
   ·rw[Nat.add_zero,ih];simp[h,h1]
  ·by_cases h2:k=n
   ·subst h2;split
    ·rename_i q;rw[r_,Nat.testBit_two_pow_add_eq,xw hl];simp[q]
    ·rename_i q;rw[Nat.add_zero,xw hl];simp[q]
   ·have h3:¬k<n+1:=by lia
    have:Z4 n p+(if p n=true then 2^n else 0)<2^k:=by refine š (ZP p<|n+1) (lW (by lia)<|by lia)
    rw[xw this];simp[h3]
def Wv(h:∀k,D.testBit k=(decide (k<n)&&p k)):D=Z4 n p:=Nat.eq_of_testBit_eq λk=>by rw[h,Zl]
def Qz(w h:Nat)(r:P3)(t:Th):Nat:=Z4 (w*h) λk=>zr t (qf w k) r
def JC(w:Nat)(T:List Th):Option P3->Nat->Bool
 |none,_=>true|some r,k=>T.any λt=>zr t (qf w k) r
def vz(w h:Nat)(T:List Th)(o:Option P3):Nat:=Z4 (w*h)<|JC w T o
def JD(o:Option P3):Prop:=match o with|none=>True|some r=>RB r/\0<r.2.2
def Z1H{w h:Nat}(hw:0<w)(KC:w<=60)(hh:h<=1000)(T:List Th)(Ds:List Dy)(hg:Z1 t.1 t.2=true)(hr:RB r)(hz:0<r.2.2):
 gn [.sh<|Z0 w h T Ds,.sh<|dZ t,.sh<|c3 r]=.ret (.sh<|.int<|Qz w h r t):=by
 obtain⟨D,h1,h2⟩:=Z2b hw KC hh T Ds hg hr hz;rw[h1,Wv h2];rfl
def Z2H{w h:Nat}(hw:0<w)(KC:w<=60)(hh:h<=1000)(hT:T.length<=1000)(Ds:List Dy)(hg:∀t∈T,Z1 t.1 t.2=true)(hr:RB r)(hz:0<r.2.2):
 bg [.sh<|Z0 w h T Ds,.sh<|c3 r]=.ret (.ow<|T.map λt=>.int<|Qz w h r t):=by
 have yt:=Ws w h T Ds;have hc:=đ (g:=gN 2) (mt:=ė) (me:=Ý<|Ü gn<|È 0<|È 2<|È 1 Ö) dZ (λt=>.int<|Qz w h r t) (λU=>∃s,U=[.sh<|Z0 w h T Ds,.sh<|c3 r,s]) T [.sh<|Z0 w h T Ds,.sh<|c3 r,.no] [] ⟨_,rfl⟩ (by simp;lia) (by
  rintro t ht U ⟨s,rfl⟩;have e:=Z1H hw KC hh T Ds (hg t ht) hr hz;generalize Z0 w h T Ds=Y,c3 r=R at*;refine⟨_,_,_,rfl,rfl,by simp[e];rfl,_,rfl⟩)
 simp[bg,gM,á,yt];simp at hc;simp[hc]
def Z3x{w h:Nat}(hw:0<w)(KC:w<=60)(hh:h<=1000)(hwh:w*h<=1000)(hT:T.length<=1000)(Ds:List Dy)(hg:∀t∈T,Z1 t.1 t.2=true)(ho:JD o):
 qE [.sh<|Z0 w h T Ds,.sh<|aE o]=.ret (.sh<|.int<|vz w h T o):=by
 have yw:=Qx w h T Ds;have yh:=Qy w h T Ds;have mo:ľ (w:Int) (h:Int)=true:=ό (by lia) (by lia);cases o with
 |none=>
  obtain⟨B,b1,b2⟩:=Z1o (f:=0) (l:=(w:Int)*h-1) (w:=w*h) (by lia) (by rw[wZ];lia) hwh;have:B=vz w h T none:=Wv λk=>by
   rw[b2];simp[JC];have:((w*h:Nat):Int)=(w:Int)*h:=by simp
   lia
  subst this;generalize Z0 w h T Ds=Y at*;simp[qE,zo,á,aE,yw,yh,mo,b1,pA]
 |some r=>
  have ho:RB r/\0<r.2.2:=ho;have hd:=Z2H hw KC hh hT Ds hg ho.1 ho.2;obtain⟨U',e1,D,s3,rfl,hD⟩:=gm (g:=gN 3) (mb:=zn) (λ(t:Th)=>PV.int<|Qz w h r t) (λ(b:List Th) (x:Th)=>x::b) (λb U=>∃(D:Nat) (s3:ť),U=[.sh<|Z0 w h T Ds,.sh<|c3 r,.sh<|.int D,s3]/\∀k,D.testBit k=true↔(k<w*h/\∃t∈b,zr t (qf w k) r=true)) T (by
   rintro t ht b U ⟨D,s3,rfl,hD⟩;refine⟨_,_,rfl,by simp[zn,SV];exact⟨rfl,rfl⟩,_,_,rfl,λk=>?_⟩;rw[xv,om,hD,Qz,Zl,ă,decide_eq_true_eq];simp;grind) [] [.sh<|Z0 w h T Ds,.sh<|c3 r,.sh<|.int ((0:Nat):Int),.no] ⟨0,.no,rfl,by simp⟩
  have:D=vz w h T (some r):=Wv λk=>by have:=hD k;rw[jO,this];simp only[Wu,JC,cw,or_false,ă,decide_eq_true_eq,List.any_eq_true]
  subst this;have hn:pB (c3 r) .non=some (.bl false):=by simp[c3,pA]
  generalize Z0 w h T Ds=Y at*;show qE [.sh Y,.sh<|c3 r]=_;simp at e1;generalize c3 r=R at*;have hn:pA R=false:=by simpa using hn
  simp[qE,zo,á,hd,hn,e1]
def QA:Option Hu.Ln->PV
 |some l=>iQ l|none=>.non
def Z1I{S:List Hu.Pt}(hs:Sl sl (S.map pt))(hS:∀p∈S,Sm p)(h0:S≠[])(hl:S.length<=1000)(p:Hu.Pt):bq [sl,.sh<|pt p]=.ret (.sh<|QA<|Hu.ZD S p):=by
 have h1:=YX hs hS h0 hl;have e:(Hu.Zv S).findSome? (λl=>if Hu.hd l p=true then none else some l)=Hu.ZD S p:=by
  unfold Hu.ZD;generalize Hu.Zv S=L
  induction L with
  |nil=>rfl|cons l L ih=>
   rw[lU,xn];cases q:Hu.hd l p with
   |true=>simpa using ih|false=>simp
 rcases ju (g:=gN 2) (mb:=cE) iQ (λl=>if Hu.hd l p=true then none else some l) (λl=>.sh<|iQ l) (λU=>∃s2,U=[sl,.sh<|pt p,s2]) (Hu.Zv S) (by
  rintro l hm U ⟨s2,rfl⟩;refine⟨[sl,.sh<|pt p,.sh<|iQ l],by simp,?_⟩;have hh:=YS (YY hm hS) p;cases q:Hu.hd l p with
  |true=>rw[q]at hh;exact .inr ⟨[sl,.sh<|pt p,.sh<|iQ l],by simp,by simp[cE,hh],_,rfl⟩|false=>rw[q]at hh;exact .inl ⟨l,[sl,.sh<|pt p,.sh<|iQ l],by simp,by simp[cE,hh]⟩) [sl,.sh<|pt p,.no] ⟨_,rfl⟩with⟨l,U',q1,q2⟩|⟨U',q1,q2,_⟩
 ·rw[e]at q1;rw[q1];simp[bq,fF,hs.lend,h1,q2,QA]
 ·rw[e]at q1;rw[q1];simp[bq,fF,hs.lend,h1,q2,QA]
def BH(q:Nat×Nat):PV:=.tup [.int q.1,.int q.2]
def Hv(q:Nat×Nat×Nat):PV:=.tup [.int q.1,.int q.2.1,.int q.2.2]
def Z2c(j:Nat)(hj:j<=1000)(acc:List PV)(s0:ť)(ha:acc.length+j<=16777216):dI [s0,.ow acc,.sh<|.int j]=.ok .nx [s0,.ow<|acc++((Ô j).map λi=>(i,j)).map BH,.sh<|.int j]:=by
 have c1:ī (gN 1) ė (Ŧ<|É (ì 1)<|É (ì 0) æ) ((Ô j).map λ(i:Nat)=>PV.int (i:Int)) [.sh<|.int j,.no] []=some (((Ô j).map λi=>(i,j)).map BH):=by
  have:=đ (g:=gN 1) (mt:=ė) (me:=Ŧ<|É (ì 1)<|É (ì 0) æ) (λ(i:Nat)=>PV.int (i:Int)) (λi=>BH (i,j)) (λU=>∃s,U=[.sh<|.int j,s]) (Ô j) [.sh<|.int j,.no] [] ⟨_,rfl⟩ (by simp;lia) (by
   rintro x hx U ⟨s,rfl⟩;exact⟨[.sh<|.int j,.sh<|.int x],[.sh<|.int j,.sh<|.int x],[.sh<|.int j,.sh<|.int x],by simp,by simp,by simp[BH],_,rfl⟩)
  rw[this,ķ];rfl
 have hl:acc.length+(((Ô j).map λi=>(i,j)).map BH).length<=16777216:=by simpa using ha
 generalize ((Ô j).map λi=>(i,j)).map BH=qs at c1 hl;simp[dI,Zb hj,c1,hl]
def Z0Y(h:((Ô n).map λ(i:Nat)=>PV.int (i:Int))[i]?=some p):i<n/\p=.int i:=by
 rw[Ł]at h;by_cases hi:i<n
 ·simp[hi]at h;exact⟨hi,h.symm⟩
 ·simp[hi]at h
def Z0Z(n:Nat)(hn:n<=100):∃L:List (Nat×Nat),ci [.sh<|.int n]=.ret (.ow<|L.map BH)/\L.length<=n*100/\∀q∈L,q.1<n/\q.2<n:=by
 obtain⟨U',e,L,s2,rfl,h1,h2⟩:=Ad (g:=gN 2) (mb:=dI) (items:=(Ô n).map λ(i:Nat)=>PV.int (i:Int)) (U:=[.sh<|.int n,.ow [],.no])
  (λi U=>∃(L:List (Nat×Nat)) (s2:ť),U=[.sh<|.int n,.ow<|L.map BH,s2]/\L.length<=i*100/\∀q∈L,q.1<n/\q.2<n) ⟨[],.no,rfl,by simp,by simp⟩ (by
  rintro i p U hi ⟨L,s2,rfl,h1,h2⟩;obtain⟨Tf,rfl⟩:=Z0Y hi;clear hi;refine⟨_,_,rfl,Z2c i (by lia) (L.map BH) _ (by rw[Ğ];lia),L++(Ô i).map λj=>(j,i),_,by rw[Ŕ],by simp;lia,λq hq=>?_⟩;rcases ź.mp hq with h|h
  ·exact h2 q h
  ·obtain⟨j,hj,rfl⟩:=ģ.mp h;have:=ϑ.mp hj;exact⟨by dsimp only;lia,Tf⟩)
 have hr:=Zb (show n<=1000 by lia);refine⟨L,by simp[ci,lE,á,hr,e],?_,h2⟩;simpa using h1
def Z1g(k:Nat)(hk:k<=100)(acc:List PV)(s0:ť)(ha:acc.length<=10000000):∃L:List (Nat×Nat×Nat),bQ [s0,.ow acc,.sh<|.int k]=.ok .nx [s0,.ow<|acc++L.map Hv,.sh<|.int k]/\L.length<=10000/\∀q∈L,q.1<k/\q.2.1<k/\q.2.2=k:=by
 obtain⟨L,hp,hlen,hL⟩:=Z0Z k hk;have c1:ī (gN 1) ė (Ŧ<|É (Ë ã (Â 1)<|Æ 0)<|É (Ë ã (Â 1)<|Æ 1)<|É (ì 0) æ) (L.map BH) [.sh<|.int k,.no] []=some ((L.map λq=>(q.1,q.2,k)).map Hv):=by
  have:=đ (g:=gN 1) (mt:=ė) (me:=Ŧ<|É (Ë ã (Â 1)<|Æ 0)<|É (Ë ã (Â 1)<|Æ 1)<|É (ì 0) æ) BH (λq=>Hv (q.1,q.2,k)) (λU=>∃s,U=[.sh<|.int k,s]) L [.sh<|.int k,.no] [] ⟨_,rfl⟩ (by simp;lia) (by
   rintro x hx U ⟨s,rfl⟩;exact⟨[.sh<|.int k,.sh<|BH x],_,[.sh<|.int k,.sh<|BH x],by simp,rfl,by simp[BH,Hv],_,rfl⟩)
  rw[this,ķ];rfl
 refine⟨L.map λq=>(q.1,q.2,k),?_,by simp;lia,λq hq=>?_⟩
 ·have hl:acc.length+((L.map λq=>(q.1,q.2,k)).map Hv).length<=16777216:=by simp;lia
  generalize (L.map λq=>(q.1,q.2,k)).map Hv=qs at c1 hl;simp[bQ,hp,c1,hl]
 ·obtain⟨x,hx,rfl⟩:=ģ.mp hq;exact⟨(hL x hx).1,(hL x hx).2,rfl⟩
def Z1J(n:Nat)(hn:n<=100):∃L:List (Nat×Nat×Nat),cF [.sh<|.int n]=.ret (.ow<|L.map Hv)/\∀q∈L,q.1<n/\q.2.1<n/\q.2.2<n:=by
 obtain⟨U',e,L,s2,rfl,h1,h2⟩:=Ad (g:=gN 2) (mb:=bQ) (items:=(Ô n).map λ(i:Nat)=>PV.int (i:Int)) (U:=[.sh<|.int n,.ow [],.no])
  (λi U=>∃(L:List (Nat×Nat×Nat)) (s2:ť),U=[.sh<|.int n,.ow<|L.map Hv,s2]/\L.length<=i*10000/\∀q∈L,q.1<n/\q.2.1<n/\q.2.2<n) ⟨[],.no,rfl,by simp,by simp⟩ (by
  rintro i p U hi ⟨L,s2,rfl,h1,h2⟩;obtain⟨Tf,rfl⟩:=Z0Y hi;clear hi;obtain⟨L',e,h3,h4⟩:=Z1g i (by lia) (L.map Hv) (.sh<|.int n) (by rw[Ğ];lia);refine⟨_,_,rfl,e,L++L',_,by rw[Ŕ],by simp;lia,λq hq=>?_⟩;rcases ź.mp hq with h|h
  ·exact h2 q h
  ·have:=h4 q h;lia)
 have hr:=Zb (show n<=1000 by lia);exact⟨L,by simp[cF,jz,á,hr,e],h2⟩
def W(x:Int):Prop:=-100000000000000000000000000000000000000000000000000<x/\x<100000000000000000000000000000000000000000000000000
theorem W.bits(h:W x):bits x<=200:=tD (n:=200) (by have:=h.1;lia) (by have:=h.2;lia)
def KD(h1: -100000000000000000<=a)(h2:a<=100000000000000000)(h3: -100000000000000000<=b)(h4:b<=100000000000000000): -200000000000000000<=a-b/\a-b<=200000000000000000:=by lia
def NF(h1: -c<=a)(h2:a<=c)(h3: -d<=b)(h4:b<=d)(hc:0<=c)(hd:0<=d): -(c*d)<=a*b/\a*b<=c*d:=by have e1:(a*b).natAbs=a.natAbs*b.natAbs:=rH a b;have e2:a.natAbs*b.natAbs<=c.natAbs*d.natAbs:=eI (by lia) (by lia);have e3:(c*d).natAbs=c.natAbs*d.natAbs:=rH c d;have e4:0<=c*d:=Int.mul_nonneg hc hd;lia
def ZV(ha:Sm a)(hb:Sm b)(hc:Sm c):jB [.sh<|pt a,.sh<|pt b,.sh<|pt c]=.ret (.sh<|.int<|Hu.tn a b c):=by obtain⟨a1,a2,a3,a4⟩:=ha;obtain⟨b1,b2,b3,b4⟩:=hb;obtain⟨c1,c2,c3,c4⟩:=hc;have m1:ľ (b.1-a.1) (c.2-a.2)=true:=ό (by lia) (by lia);have m2:ľ (b.2-a.2) (c.1-a.1)=true:=ό (by lia) (by lia);simp[jB,wF,pt,Hu.tn,m1,m2]
def Ww(ha:Sm a)(hb:Sm b)(hc:Sm c): -80000000000000000000000000000000000<=Hu.tn a b c/\Hu.tn a b c<=80000000000000000000000000000000000:=by obtain⟨a1,a2,a3,a4⟩:=ha;obtain⟨b1,b2,b3,b4⟩:=hb;obtain⟨c1,c2,c3,c4⟩:=hc;obtain⟨x1,x2⟩:=KD b1 b2 a1 a2;obtain⟨y1,y2⟩:=KD c3 c4 a3 a4;obtain⟨z1,z2⟩:=KD b3 b4 a3 a4;obtain⟨w1,w2⟩:=KD c1 c2 a1 a2;obtain⟨p1,p2⟩:=NF x1 x2 y1 y2 (by decide) (by decide);obtain⟨q1,q2⟩:=NF z1 z2 w1 w2 (by decide) (by decide);unfold Hu.tn;lia
def Z2J(ha:Sm a)(hb:Sm b)(hc:Sm c)(hp:Sm p):Ϛ [.sh<|.lst [pt a,pt b,pt c],.sh<|pt p]=.ret (.ow<|(Hu.NB a b c p).map .int):=by simp[Ϛ,gF,á,ZV hp hb hc,ZV ha hp hc,ZV ha hb hp,Hu.NB]
def Z47(ha:Sm a)(hb:Sm b)(hp:Sm p):aq [.sh<|.lst [pt a,pt b],.sh<|pt p]=.ret (.ow<|(Hu.NC a b p).map .int):=by obtain⟨a1,a2,a3,a4⟩:=ha;obtain⟨b1,b2,b3,b4⟩:=hb;obtain⟨c1,c2,c3,c4⟩:=hp;have m1:∀x,ľ (b.1-a.1) x=true:=λx=>ό (by lia) (by lia);have m2:∀x,ľ (b.2-a.2) x=true:=λx=>ό (by lia) (by lia);simp[aq,jC,á,pt,Hu.NC,m1,m2]
def Z4G(ha:Sm a)(hb:Sm b)(hc:Sm c)(hp:Sm p):∀s∈Hu.NB a b c p,-400000000000000000000000000000000000<=s/\s<=400000000000000000000000000000000000:=by have h1:=Ww hp hb hc;have h2:=Ww ha hp hc;have h3:=Ww ha hb hp;intro s hs;simp only[Hu.NB,û,cw,or_false]at hs;rcases hs with e|e|e<;>lia
def Z4H(ha:Sm a)(hb:Sm b)(hp:Sm p):∀s∈Hu.NC a b p,-400000000000000000000000000000000000<=s/\s<=400000000000000000000000000000000000:=by obtain⟨a1,a2,a3,a4⟩:=ha;obtain⟨b1,b2,b3,b4⟩:=hb;obtain⟨c1,c2,c3,c4⟩:=hp;obtain⟨x1,x2⟩:=KD b1 b2 a1 a2;obtain⟨z1,z2⟩:=KD b3 b4 a3 a4;obtain⟨y1,y2⟩:=KD c1 c2 a1 a2;obtain⟨w1,w2⟩:=KD c3 c4 a3 a4;obtain⟨p1,p2⟩:=NF x1 x2 y1 y2 (by decide) (by decide);obtain⟨q1,q2⟩:=NF z1 z2 w1 w2 (by decide) (by decide);obtain⟨r1,r2⟩:=NF x1 x2 x1 x2 (by decide) (by decide);obtain⟨t1,t2⟩:=NF z1 z2 z1 z2 (by decide) (by decide);intro s hs;simp only[Hu.NC,û,cw,or_false]at hs;rcases hs with e|e<;>lia
def MU(w:List Int):Prop:=w.length<=3/\∀s∈w,-400000000000000000000000000000000000<=s/\s<=400000000000000000000000000000000000
theorem MU.sum(h:MU w): -2000000000000000000000000000000000000<=w.sum/\w.sum<=2000000000000000000000000000000000000:=by
 obtain⟨h1,h2⟩:=h
 match w,h1,h2 with
 |[],_,_=>simp|[a],_,h2=>have:=h2 a (by simp);simp;lia|[a,b],_,h2=>have:=h2 a (by simp);have:=h2 b (by simp);simp;lia|[a,b,c],_,h2=>have:=h2 a (by simp);have:=h2 b (by simp);have:=h2 c (by simp);simp;lia
def Wx(h1: -2000000000000000000000000000000000000<=x)(h2:x<=2000000000000000000000000000000000000):bits x<=200:=tD (n:=200) (by lia) (by lia)
def Z4I(h:MU w)(hs:Sl sl (w.map .int)):∃b,Ϡ [sl]=.ret (.sh<|.bl b)/\(b=true->w.sum≠0):=by
 obtain⟨s1,s2⟩:=h.sum;have hb:=Wx s1 s2;have c1:=đ (g:=gN 1) (mt:=ė) (me:=Ë IG (Ë ď (Â 1)<|Â 0)<|Æ 0) PV.int (λs=>.bl<|decide<|0<=s*w.sum) (λU=>∃s,U=[.sh<|.int w.sum,s]) w [.sh<|.int w.sum,.no] [] ⟨_,rfl⟩ (by have:=h.1;simp;lia) (by
  rintro x hx U ⟨s,rfl⟩;have NR:=h.2 x hx;have hm:ľ x w.sum=true:=O5 (Ţ (Wx (by lia)<|by lia)<|by decide) (Ţ hb<|by decide);exact⟨[.sh<|.int w.sum,.sh<|.int x],_,[.sh<|.int w.sum,.sh<|.int x],by simp,rfl,by simp[hm],_,rfl⟩)
 have c2:=SO<|w.map λs=>decide<|0<=s*w.sum;rw[ķ]at c2;change pE [.lst<|w.map λs=>PV.bl<|decide<|0<=s*w.sum]=_ at c2;have rD:rm [.lst<|w.map .int]=some (.int w.sum):=by simp
 unfold Sl at hs;rw[Š]at c1;generalize (w.map λs=>PV.bl<|decide<|0<=s*w.sum)=bs at c1 c2;generalize (w.map λs=>decide<|0<=s*w.sum).all id=q at c2;generalize w.map PV.int=ws at c1 rD hs;generalize w.sum=S at c1 rD;by_cases h0:S=0
 ·subst h0;refine⟨false,?_,nofun⟩;rcases hs with rfl|rfl<;>simp[Ϡ,gG,á,-mV,rD]
 ·refine⟨q,?_,λy=>h0⟩;rcases hs with rfl|rfl<;>simp[Ϡ,gG,á,-mV,rD,c1,c2,h0]
def Z3d(x y:Int):aa [.sh<|.int x,.sh<|.int y]=.ret (.sh<|.int<|My.gd x y):=by
 obtain⟨⟨u,v,r⟩,e1,e2,e3⟩:=Bm (mc:=(Ϻ<|Ë cX (Â 1)<|Æ 0)) (mb:=(å (ĉ 2<|Ŋ<|Ë ħ (Â 0)<|Â 1)<|å (ĉ 0<|Ŋ<|ì 1)<|ĉ 1<|Ŋ<|ì 2))
  (fun b:Int×Int×ť=>[.sh<|.int b.1,.sh<|.int b.2.1,b.2.2]) (fun b=>My.gd b.1 b.2.1=My.gd x y) (fun b=>b.2.1.natAbs) (b:=(x,y,.no)) (by
    rintro ⟨u,v,r⟩ e;by_cases hv:v=0
    ·left;simp[hv]
    ·right;exact⟨by simp[hv],(v,u.fmod v,.sh<|.int<|u.fmod v),by simp[hv],(My.Z3m u v).trans e,My.Z3n u hv⟩) rfl
 have hv:v=0:=by simpa using e3
 subst hv;have QM:fK [.sh<|.int x,.sh<|.int y,.no]=_:=e1;simp[aa,fL,QM,<-e2,My.Z3o]
def Z3y(t:Int)(h:b≠0)(hb:bits b<=n):bits (My.gd t b)<=n:=by refine intBits_le_of_natAbs ?_ hb;have h1:=My.Z4E t h;have h2:=My.Z1Z t b;lia
def rt(t b:Int):Int×Int:=(t.fdiv<|My.dv t b,b.fdiv<|My.dv t b)
def Z10(h:b≠0)(hz:bits b<=8000):kz [.sh<|.int t,.sh<|.int b]=.ret (.sh<|pt<|rt t b):=by
 have g1:=Z3y t h hz;have g0:=My.Z3X t h;by_cases hn:b<0
 ·have e:My.dv t b= -My.gd t b:=if_pos hn;have c:∀i,nv i (-My.gd t b)=true:=λi=>Dp (by lia)<|intBits_neg_le g1;simp[kz,uP,h,Z3d,hn,c,e,pt,rt]
 ·have e:My.dv t b=My.gd t b:=if_neg hn;have c:∀i,nv i (My.gd t b)=true:=λi=>Dp (by lia) g1;simp[kz,uP,h,Z3d,hn,c,e,pt,rt]
def Z0C{q:List Nat}(hw:MU w)(h0:w.sum≠0)(hq:∀i∈q,i<n)(hn:n<=100){s0 s1:ť}(XC:Sl s0 (w.map .int))(QV:s1=.sh (.lst<|q.map λ(i:Nat)=>.int (i:Int))\/s1=.sh (.tup<|q.map λ(i:Nat)=>.int (i:Int))):
 ∃ws,cj [s0,s1,.sh<|.int n]=.ret (.ow ws):=by
 obtain⟨b1,b2⟩:=hw.sum;have hb:=Ţ (Wx b1 b2) (show 200<=8000 by decide);have rD:rm [.lst<|w.map .int]=some (.int w.sum):=by simp
 have c1:=đ (g:=gN 1) (mt:=ė) (me:=Ý<|Ü kz<|Þ (Æ 0)<|È 0 Ö) (λ(i:Nat)=>PV.int (i:Int)) (λy=>pt<|rt 0 w.sum) (λU=>∃s,U=[.sh<|.int w.sum,s]) (Ô n) [.sh<|.int w.sum,.no] [] ⟨_,rfl⟩ (by simp;lia) (by
  rintro x hx U ⟨s,rfl⟩;exact⟨[.sh<|.int w.sum,.sh<|.int x],_,[.sh<|.int w.sum,.sh<|.int x],by simp,rfl,by simp[Z10 h0 hb],_,rfl⟩)
 rw[Š]at c1;have hz:pH (w.map .int) (q.map λ(i:Nat)=>PV.int (i:Int))=(w.zip q).map λa=>.tup [.int a.1,.int (a.2:Int)]:=by
  clear hw h0 hq XC QV rD c1 hb b1 b2
  induction w generalizing q with
  |nil=>simp[pH]|cons x w ih=>
   cases q with
   |nil=>simp[pH]|cons i q=>simp[pH,ih]
 have loop:∀NG NT (zs:List PV),zs.length=n->∃vs s5 s6,Ĵ (gT 2<|ï (gN 5)<|ï (gN 6) ř) mZ ((w.zip q).map λa=>.tup [.int a.1,.int (a.2:Int)]) [NG,NT,.sh<|.int n,.sh<|.int w.sum,.ow zs,.no,.no]=.ok .nx [NG,NT,.sh<|.int n,.sh<|.int w.sum,.ow vs,s5,s6]:=by
  intro NG NT zs Hn;obtain⟨U',e,vs,s5,s6,rfl,_⟩:=gm (g:=gT 2<|ï (gN 5)<|ï (gN 6) ř) (mb:=mZ) (λa:Int×Nat=>.tup [.int a.1,.int (a.2:Int)]) (λ(u:Unit) y=>u)
   (fun _ U=>∃vs s5 s6,U=[NG,NT,.sh<|.int n,.sh<|.int w.sum,.ow vs,s5,s6]∧vs.length=n) (w.zip q) (by
     rintro ⟨x,i⟩ hx _ U ⟨vs,s5,s6,rfl,hlen⟩;have hi:i<n:=hq i (rM hx).2;have hix:CL vs.length (i:Int)=some i:=by unfold CL;rw[if_pos (by lia),if_pos<|by lia];simp
     refine⟨[NG,NT,.sh<|.int n,.sh<|.int w.sum,.ow vs,.sh<|.int x,.sh<|.int i],[NG,NT,.sh<|.int n,.sh<|.int w.sum,.ow<|vs.set i<|pt<|rt x w.sum,.sh<|.int x,.sh<|.int i],by simp,?_,_,_,_,rfl,by simpa using hlen⟩;simp[mZ,Z10 h0 hb,hix]) () _ ⟨zs,_,_,rfl,Hn⟩
  exact⟨_,_,_,e⟩
 have hr:=Zb (show n<=1000 by lia);have Hn:((Ô n).map λy=>pt<|rt 0 w.sum).length=n:=by simp
 generalize ((Ô n).map λy=>pt<|rt 0 w.sum)=zs at c1 Hn;generalize ((w.zip q).map λa=>PV.tup [.int a.1,.int (a.2:Int)])=ls at hz loop;generalize w.map PV.int=ws at XC rD hz;generalize w.sum=S at rD c1 loop;generalize (q.map λ(i:Nat)=>PV.int (i:Int))=qs at hz QV;rcases XC with rfl|rfl<;>rcases QV with rfl|rfl
 ·obtain⟨vs,s5,s6,e⟩:=loop (.sh<|.lst ws) (.sh<|.lst qs) zs Hn;exact⟨vs,by simp[cj,jA,á,-mV,rD,hr,c1,hz,ED,e]⟩
 ·obtain⟨vs,s5,s6,e⟩:=loop (.sh<|.lst ws) (.sh<|.tup qs) zs Hn;exact⟨vs,by simp[cj,jA,á,-mV,rD,hr,c1,hz,ED,e]⟩
 ·obtain⟨vs,s5,s6,e⟩:=loop (.bw ws) (.sh<|.lst qs) zs Hn;exact⟨vs,by simp[cj,jA,á,-mV,rD,hr,c1,hz,ED,e]⟩
 ·obtain⟨vs,s5,s6,e⟩:=loop (.bw ws) (.sh<|.tup qs) zs Hn;exact⟨vs,by simp[cj,jA,á,-mV,rD,hr,c1,hz,ED,e]⟩
def yH{S:List Hu.Pt}(h:i<S.length):(S.map pt)[i]?=some (pt<|Hu.at_ S i):=by unfold Hu.at_;rw[Ł,fP,œ h];rfl
def Sl.cap(h:Sl s ps):gY s=s:=by rcases h with rfl|rfl<;>rfl
def Z48(ha:Sm a)(hb:Sm b)(hc:Sm c)(hp:Sm p):MU (Hu.NB a b c p):=⟨by simp[Hu.NB],Z4G ha hb hc hp⟩
def Z49(ha:Sm a)(hb:Sm b)(hp:Sm p):MU (Hu.NC a b p):=⟨by simp[Hu.NC],Z4H ha hb hp⟩
def bW(m:MF):M Fl:=å (ĉ 4<|Ü m<|Þ (Ý<|Ħ [0] 1 (Ķ 3) (gN 1) ė (Ë ã (Â 0)<|Â 1))<|È 1 Ö)<|aZ (bL<|Ý<|Ü Ϡ<|È 4 Ö) (ý<|Ü cj<|È 4<|È 3<|È 2 Ö) bZ
section
variable{S:List Hu.Pt}{sl:ť}{m:MF}{p:Hu.Pt}
def Z3e(hs:Sl sl (S.map pt))(hl:S.length<=100){q:List Nat}(hq:∀i∈q,i<S.length)(hz:q.length<=3)(hm:m [.sh<|.lst<|q.map λi=>pt<|Hu.at_ S i,.sh<|pt p]=.ret (.ow<|w.map .int))(hb:MU w)(s4:ť):
 (∃ws U,bW m [sl,.sh<|pt p,.sh<|.int S.length,.sh<|.tup<|q.map λ(i:Nat)=>.int (i:Int),s4]=.ok (.rt<|.ow ws) U)\/∃s3 s,bW m [sl,.sh<|pt p,.sh<|.int S.length,.sh<|.tup<|q.map λ(i:Nat)=>.int (i:Int),s4]=.ok .nx [sl,.sh<|pt p,.sh<|.int S.length,s3,s]:=by
 have e0:=đ (g:=gN 1) (mt:=ė) (me:=Ë ã (Â 0)<|Â 1) (λ(i:Nat)=>PV.int (i:Int)) (λi=>pt<|Hu.at_ S i) (λU=>∃s,U=[sl,s]) q [sl,.no] [] ⟨_,rfl⟩ (by simp;lia) (by
  rintro i hi U ⟨s,rfl⟩;exact⟨[sl,.sh<|.int i],_,[sl,.sh<|.int i],by simp,rfl,by rcases hs with rfl|rfl<;>simp[yH<|hq i hi,-Ł],_,rfl⟩)
 obtain⟨b,e2,hw⟩:=Z4I hb (sl:=.bw<|w.map .int)<|.inr rfl;rw[Š]at e0;have e3:=λh=>Z0C (q:=q) (n:=S.length) hb h hq hl (s0:=.bw<|w.map .int) (s1:=.sh<|.tup<|q.map λ(i:Nat)=>.int (i:Int)) (.inr rfl)<|.inr rfl;generalize (q.map λ(i:Nat)=>PV.int (i:Int))=qs,w.map PV.int=ws at*;cases b with
 |true=>obtain⟨vs,e4⟩:=e3<|hw rfl;exact .inl ⟨vs,[sl,.sh<|pt p,.sh<|.int S.length,.sh<|.tup qs,.ow ws],by simp[bW,hs.cap,e0,hm,e2,e4]⟩|false=>exact .inr ⟨.sh<|.tup qs,.ow ws,by simp[bW,hs.cap,e0,hm,e2]⟩
def Z3f{α:Type}{c:α->PV}{L:List α}(h:∀x∈L,∀s4,(∃ws U,bW m [sl,.sh<|pt p,.sh<|.int S.length,.sh<|c x,s4]=.ok (.rt<|.ow ws) U)\/∃s3 s,bW m [sl,.sh<|pt p,.sh<|.int S.length,.sh<|c x,s4]=.ok .nx [sl,.sh<|pt p,.sh<|.int S.length,s3,s])(s3 s4:ť):
 (∃ws U,Ĵ (gN 3) (bW m) (L.map c) [sl,.sh<|pt p,.sh<|.int S.length,s3,s4]=.ok (.rt<|.ow ws) U)\/∃D4 DT,Ĵ (gN 3) (bW m) (L.map c) [sl,.sh<|pt p,.sh<|.int S.length,s3,s4]=.ok .nx [sl,.sh<|pt p,.sh<|.int S.length,D4,DT]:=by
 refine Ac (λy U=>∃s3 s4,U=[sl,.sh<|pt p,.sh<|.int S.length,s3,s4]) (λr=>(∃ws U,r=.ok (.rt<|.ow ws) U)\/∃D4 DT,r=.ok .nx [sl,.sh<|pt p,.sh<|.int S.length,D4,DT]) ⟨_,_,rfl⟩ ?_ (by rintro U ⟨a,b,rfl⟩;exact .inr ⟨_,_,rfl⟩);rintro i v U hi ⟨s3,s4,rfl⟩;rw[Ł]at hi;cases hx:L[i]?with
 |none=>rw[hx]at hi;cases hi|some x=>
  rw[hx]at hi;cases hi;rcases h x (xb hx) s4 with⟨ws,U,e⟩|⟨a,b,e⟩
  ·exact⟨_,rfl,.inr<|.inl ⟨_,_,e,.inl ⟨_,_,rfl⟩⟩⟩
  ·exact⟨_,rfl,.inl ⟨_,.inl e,_,_,rfl⟩⟩
def Z1K(hs:Sl sl (S.map pt))(hS:∀p∈S,Sm p)(h0:S≠[])(hl:S.length<=100)(hp:Sm p):∃ws,bR [sl,.sh<|pt p]=.ret (.ow ws):=by
 have HH:∀i,i<S.length->Sm (Hu.at_ S i):=λi h=>hS _<|Hu.Z3Y h;obtain⟨L3,ht,h3⟩:=Z1J S.length hl;obtain⟨L2,hpr,_,h2⟩:=Z0Z S.length hl;have hlen:am [.lst<|S.map pt]=some (.int S.length):=by simp
 have F3:=Z3f (m:=Ϛ) (c:=Hv) (L:=L3) (p:=p) (λx hx=>by obtain⟨a,b,c⟩:=h3 x hx;exact Z3e hs hl (q:=[x.1,x.2.1,x.2.2]) (by simp[a,b,c]) (by simp) (Z2J (HH _ a) (HH _ b) (HH _ c) hp)<|Z48 (HH _ a) (HH _ b) (HH _ c) hp);have F2:=Z3f (m:=aq) (c:=BH) (L:=L2) (p:=p) (λx hx=>by obtain⟨a,b⟩:=h2 x hx;exact Z3e hs hl (q:=[x.1,x.2]) (by simp[a,b]) (by simp) (Z47 (HH _ a) (HH _ b) hp)<|Z49 (HH _ a) (HH _ b) hp);obtain⟨vs,e1⟩:=Z0C (w:=[1]) (q:=[0]) (n:=S.length) ⟨by simp,by simp⟩ (by simp) (by simpa using B3.mpr h0) hl (s0:=.sh<|.lst [.int 1]) (s1:=.sh<|.lst [.int 0]) (.inl rfl)<|.inl rfl;change ∀s3 s4,(∃ws U,Ĵ (gN 3) jc _ _=_)\/∃D4 DT,Ĵ (gN 3) jc _ _=_ at F3;change ∀s3 s4,(∃ws U,Ĵ (gN 3) jb _ _=_)\/∃D4 DT,Ĵ (gN 3) jb _ _=_ at F2;rcases F3 .no .no with⟨ws,U,q2⟩|⟨s3,s4,q2⟩
 ·exact⟨ws,by rcases hs with rfl|rfl<;>simp[bR,eY,á,-yU,hlen,ht,q2]⟩
 ·rcases F2 s3 s4 with⟨ws,U,q4⟩|⟨D4,DT,q4⟩
  ·exact⟨ws,by rcases hs with rfl|rfl<;>simp[bR,eY,á,-yU,hlen,ht,hpr,q2,q4]⟩
  ·exact⟨vs,by rcases hs with rfl|rfl<;>simp[bR,eY,á,-yU,hlen,ht,hpr,q2,q4,e1]⟩
def Z3z(hs:Sl sl (S.map pt))(hS:∀p∈S,Sm p)(h0:S≠[])(hl:S.length<=100)(hp:Sm p):∃Y,uQ [sl,.sh<|pt p]=.ret (.sh<|.tup [.str<|if(Hu.ZD S p).isNone then "in"else "out",Y]):=by
 have h1:=Z1I hs hS h0 (by lia) p;cases e:Hu.ZD S p with
 |some l=>rw[e]at h1;exact⟨iQ l,by simp[uQ,zk,hs.lend,h1,QA,iQ,pA]⟩|none=>obtain⟨ws,h2⟩:=Z1K hs hS h0 hl hp;rw[e]at h1;exact⟨.lst ws,by simp[uQ,zk,hs.lend,h1,QA,h2,pA]⟩
end
def Z2K(hr:RB r)(s:Hu.Pt):gb [.sh<|pt s,.sh<|c3 r]=.ret (.sh<|pt<|qc r<|zF s):=by have e:=Y6 hr<|zF s;have e':PV.tup [.int<|2*s.1,.int<|2*s.2,.int 0]=c3 (zF s):=rfl;unfold pt;simp[gb,nA,e',e];rfl
def Z1L(hg:Z1 w xs=true)(hr:RB r)(hs:PB (zF s)):∃Y,m_ [.sh<|Z7 (Za w) w xs,.sh<|pt s,.sh<|c3 r]=.ret (.sh<|.tup [.str<|if(Hu.ZD ((Zc w xs).map (qc r))<|qc r<|zF s).isNone then "in"else "out",Y]):=by
 obtain⟨g1,g2,g3⟩:=Z_ hg;have h1:=Y8 hg (by lia) hr;have h2:=Z2K hr s;obtain⟨Y,h3⟩:=Z3z (S:=(Zc w xs).map (qc r)) (sl:=.sh<|.lst<|((Zc w xs).map (qc r)).map pt) (.inl rfl) (by
  intro p hp;obtain⟨q,hq,rfl⟩:=ģ.mp hp;exact Wo hr<|g3 q hq) (by simpa using g2) (by simp;lia) (p:=qc r<|zF s)<|Wo hr hs
 refine⟨Y,?_⟩;generalize ((Zc w xs).map (qc r)).map pt=Z,hp:pt (qc r<|zF s)=p,Z7 (Za w) w xs=v,c3 r=R,pt s=Q at*;simp[m_,uR,h1,h2,h3]
def Wy:ę (Ì "in")=true:=by decide+kernel
def Z4U:ę (Ì "out")=true:=by decide+kernel
def dIO:(Ì "out"=Ì "in")=False:=eq_false (by decide+kernel)
def Z0D(hg:Z1 w xs=true)(hr:RB r)(hs:PB (zF s)):fk [.sh<|Z7 (Za w) w xs,.sh<|pt s,.sh<|c3 r]=.ret (.sh<|.bl<|MT w xs s r):=by
 obtain⟨Y,h1⟩:=Z1L hg hr hs;unfold MT;cases e:Hu.ZD ((Zc w xs).map (qc r)) (qc r<|zF s)with
 |none=>rw[e]at h1;simp[fk,qD,h1,ϙ Wy Wy]|some l=>rw[e]at h1;simp[fk,qD,h1,ϙ Z4U Wy,dIO]
structure Hw(w h:Nat)(T:List Th):Prop where
 w0:0<w
 w1:w<=60
 h1:h<=1000
 wh:w*h<=1000
 tl:T.length<=1000
 tg:∀t∈T,Z1 t.1 t.2=true
def Z4a{w k n:Nat}(hk:k<1000):PB (zF<|qf w k):=by have h1:k%w<=k:=Nat.mod_le k w;have h2:k/w<=k:=Nat.div_le_self k w;unfold PB zF qf;dsimp only;generalize k%w=a,k/w=b at*;lia
def Z2d(Y:Hw w h T)(D:List Dy)(ho:JD o)(hk:k<1000):aC [.sh<|Z0 w h T D,.sh<|aE o,.sh<|pt<|qf w k]=.ret (.sh<|.bl<|JC w T o k):=by
 cases o with
 |none=>generalize Z0 w h T D=Yv at*;simp[aC,kB,aE,pA,JC]|some r=>
  have ho:RB r/\0<r.2.2:=ho;have yt:=Ws w h T D;have e:T.findSome? (λt=>if zr t (qf w k) r=true then some ()else none)=if(T.any λt=>zr t (qf w k) r)=true then some ()else none:=by
   generalize T=T'
   induction T' with
   |nil=>rfl|cons t T' ih=>
    rw[lU,eG];cases q:zr t (qf w k) r with
    |true=>simp|false=>rw[wT,<-ih];simp
  have hn:pA (c3 r)=false:=by simp[c3,pA]
  rcases ju (g:=gN 3) (mb:=kA) dZ (λt=>if zr t (qf w k) r=true then some ()else none) (λx=>.sh<|.bl true) (λU=>∃s,U=[.sh<|Z0 w h T D,.sh<|c3 r,.sh<|pt<|qf w k,s]) T (by
   rintro t ht U ⟨s,rfl⟩;have es:fk [.sh<|dZ t,.sh<|pt<|qf w k,.sh<|c3 r]=.ret (.sh<|.bl<|zr t (qf w k) r):=Z0D (Y.tg t ht) ho.1<|Z4a (n:=0) hk;refine⟨[.sh<|Z0 w h T D,.sh<|c3 r,.sh<|pt<|qf w k,.sh<|dZ t],rfl,?_⟩;generalize Z0 w h T D=Yv,c3 r=R,dZ t=Tv,hP:pt (qf w k)=Pv at*;cases q:zr t (qf w k) r with
   |true=>rw[q]at es;exact .inl ⟨(),[.sh Yv,.sh R,.sh Pv,.sh Tv],by simp,by simp[kA,es]⟩|false=>rw[q]at es;exact .inr ⟨[.sh Yv,.sh R,.sh Pv,.sh Tv],by simp,by simp[kA,es],_,rfl⟩) [.sh<|Z0 w h T D,.sh<|c3 r,.sh<|pt<|qf w k,.no] ⟨_,rfl⟩with⟨_,U',q1,q2⟩|⟨U',q1,q2,_⟩
  ·rw[e]at q1;have hd:JC w T (some r) k=true:=by
    show(T.any λt=>zr t (qf w k) r)=true;cases q:T.any (λt=>zr t (qf w k) r)with
    |true=>rfl|false=>rw[q]at q1;simp at q1
   rw[hd];show aC [_,.sh<|c3 r,_]=_;generalize Z0 w h T D=Yv,c3 r=R,pt (qf w k)=Pv at*;simp[aC,kB,hn,yt,q2]
  ·rw[e]at q1;have hd:JC w T (some r) k=false:=by
    show(T.any λt=>zr t (qf w k) r)=false;cases q:T.any (λt=>zr t (qf w k) r)with
    |false=>rfl|true=>rw[q]at q1;simp at q1
   rw[hd];show aC [_,.sh<|c3 r,_]=_;simp[aC,kB,hn,yt,q2]
def Zz{w h:Nat}{i:Nat}(hi:i<D.length):ϟ [.sh<|Z0 w h T D,.sh<|.int i]=.ret (.sh<|.lst<|D[i].2.2.map aE):=by
 have yd:=NE w h T D;have hx:(D.map jL)[i]?=some (jL D[i]):=by simp[hi]
 simp[ϟ,qQ,yd,hx];simp[jL]
def QB(lg:Nat)(d:Dy):Prop:=(1<=d.2.1/\d.2.1<=1000000000)/\d.2.2.length<=lg/\∀o∈d.2.2,JD o
def Z1q(A k:Nat):ei (.int<|(A:Int)/2^k) (.int 1)=some (.int<|if A.testBit k then 1 else 0):=by show some (PV.int<|eQ ((A:Int)/2^k) 1)=_;rw[Wr,Wq]
def nT(n:Int):List Nat:=(Ì<|bJ n).cps.toList
def Z4b(n:Int):Ì (bJ n)=S (nT n):=j_ (by simp[nT])
def Wz(m:Nat):nT (m:Int)=(Ϩ 10 m).map aJ:=PySem.W.KIN.signs_num m
def Z2e(m:Nat)(h:0<m):nT (-(m:Int))=45::(Ϩ 10 m).map aJ:=by obtain⟨k,rfl⟩:∃k,m=k+1:=⟨m-1,by lia⟩;unfold nT;rw[PyProof.Rows.signs_ofString];show("-"++Nat.repr (k+1)).toList.map aJ=_;rw[String.toList_append,Nat.toList_repr];rfl
def WA(h:c∈(Ϩ 10 m).map aJ):48<=c/\c<=57:=by obtain⟨ch,E3,e⟩:=ģ.mp h;have r:=PyProof.Rows.digit_range (Nat.isDigit_of_mem_toDigits (by decide) (by decide) E3);rw[<-e];exact r
def WB:∀(m:Nat),0<m->∃c r,(Ϩ 10 m).map aJ=c::r/\c≠48:=by
 intro m
 induction m using Nat.strongRecOn with
 |_ m ih=>
  intro h0;by_cases h:m<10
  ·rw[Nat.toDigits_of_lt_base h];exact⟨_,[],rfl,by
    have:∀d:Nat,d<10->0<d->(Nat.digitChar d).toNat≠48:=by decide
    exact this m h h0⟩
  ·have hm:m%10<10:=Nat.mod_lt m (by decide);have t:Ϩ 10 (m/10)++Ϩ 10 (m%10)=Ϩ 10 (10*(m/10)+m%10):=Nat.toDigits_append_toDigits (by decide) (by lia) hm;rw[Nat.div_add_mod]at t;obtain⟨c,r,e,hc⟩:=ih (m/10) (by lia) (by lia);rw[<-t,Ŕ,e];exact⟨c,_,rfl,hc⟩
def ZM(h:m<10^10):1<=((Ϩ 10 m).map aJ).length/\((Ϩ 10 m).map aJ).length<=10:=by
 have h1:=PySem.W.KT.len_num (n:=(m:Int)) (by lia) (by lia);have e:(Ì<|bJ (m:Int)).length=(nT (m:Int)).length:=by simp[nT,cD]
 rw[e,Wz]at h1;refine⟨?_,h1⟩;by_cases h0:m=0
 ·subst h0;decide
 ·obtain⟨c,r,e,_⟩:=WB m (by lia);rw[e];simp
def WC(h1: -10000000000<n)(h2:n<10000000000):∃(b:Bool) (ds:List Nat),nT n=(if b then[45]else[])++ds/\(∀c∈ds,48<=c/\c<=57)/\1<=ds.length/\ds.length<=10/\(nT n=[48]\/∃c r,ds=c::r/\c≠48):=by
 rcases Int.lt_or_le n 0with h|h
 ·obtain⟨m,rfl⟩:∃m:Nat,n= -(m:Int):=⟨(-n).toNat,by lia⟩;obtain⟨l1,l2⟩:=ZM (m:=m) (by lia);exact⟨true,_,Z2e m (by lia),λc hc=>WA hc,l1,l2,.inr<|WB m<|by lia⟩
 ·obtain⟨m,rfl⟩:=rJ h;obtain⟨l1,l2⟩:=ZM (m:=m) (by lia);refine⟨false,_,Wz m,λc hc=>WA hc,l1,l2,?_⟩;by_cases h0:m=0
  ·left
   subst h0;rfl
  ·exact .inr (WB m<|by lia)
def WD(h1: -10000000000<n)(h2:n<10000000000):∀c∈nT n,c=45\/(48<=c/\c<=57):=by
 obtain⟨b,ds,e,hd,_⟩:=WC h1 h2;rw[e];intro c hc;rcases ź.mp hc with hc|hc
 ·cases b
  ·cases hc
  ·left;simpa using hc
 ·exact .inr<|hd c hc
def SX(h1: -10000000000<n)(h2:n<10000000000):1<=(nT n).length/\(nT n).length<=11:=by obtain⟨b,ds,e,_,l1,l2,_⟩:=WC h1 h2;rw[e];cases b<;>simp<;>lia
def Z4c(h1: -10000000000<n)(h2:n<10000000000):oK (S<|nT n)=some n:=by
 have key:∀m:Nat,PySem.NumText.AllDigits ((Ϩ 10 m).map aJ):=λm c hc=>WA hc;have ne:∀m:Nat,m<10^10->(Ϩ 10 m).map aJ≠[]:=λm hm e=>by have:=(ZM hm).1;rw[e]at this;cases this
 rcases Int.lt_or_le n 0with h|h
 ·obtain⟨m,rfl⟩:∃m:Nat,n= -(m:Int):=⟨(-n).toNat,by lia⟩;have l2:=(ZM (m:=m)<|by lia).2;rw[Z2e m<|by lia];have:=PySem.intText_neg (x:=S (45::(Ϩ 10 m).map aJ)) rfl (key m) (ne m<|by lia) (by show(45::(Ϩ 10 m).map aJ).toArray.size<=4300;simp at l2⊢;lia);rw[this,CD]
 ·obtain⟨m,rfl⟩:=rJ h;have l2:=(ZM (m:=m)<|by lia).2;rw[Wz m];have:=PySem.intText_digits (x:=S<|(Ϩ 10 m).map aJ) (key m) (ne m<|by lia) (by show((Ϩ 10 m).map aJ).toArray.size<=4300;simp at l2⊢;lia);rw[this];show some (((PySem.NumText.digitsVal ((Ϩ 10 m).map aJ):Nat)):Int)=_;rw[CD]
def sV(l:List Nat):PV:=.str<|S l
def G6(l:List Nat):Prop:=∀c∈l,c<1000
def G6.ok(h:G6 l):ę (S l)=true:=by
 unfold ę;rw[Array.all_eq_true];intro i hi;have JL:i<l.length:=by simpa using hi
 have:=h l[i] (ϒ JL);simp;lia
def Zp(l:List Nat):(S l).length=l.length:=by simp[cD]
def Z4d(h:l.length<=1000000):am [.str<|S l]=some (.int l.length):=by
 have hz:(S l).length<=16777216:=by rw[Zp];lia
 show(if(S l).length<=16777216then some (PV.int (S l).length)else none)=_;rw[if_pos hz,Zp]
def Z1r(hl:l.length<=100000)(sg:Str)(k:Int):ae [.sh<|sV l,.sh<|.str sg,.sh<|.int k]=.ret (.sh<|.bl<|decide (1<=(l.length:Int))&&decide ((l.length:Int)<=k)&&l.all λc=>decide<|c∈sg.cps.toList):=by
 have c1:ī (gN 1) ė (Ë Hs (Â 1)<|Â 0) (l.map λc=>PV.str ⟨#[c]⟩) [.sh<|.str sg,.no] []=some ((l.map λc=>decide<|c∈sg.cps.toList).map .bl):=by
  have:=đ (g:=gN 1) (mt:=ė) (me:=Ë Hs (Â 1)<|Â 0) (λc=>PV.str ⟨#[c]⟩) (λc=>PV.bl<|decide<|c∈sg.cps.toList) (λU=>∃s,U=[.sh<|.str sg,s]) l [.sh<|.str sg,.no] [] ⟨_,rfl⟩ (by simp;lia) (by
   rintro x hx U ⟨s,rfl⟩;exact⟨[.sh<|.str sg,.sh<|.str ⟨#[x]⟩],_,[.sh<|.str sg,.sh<|.str ⟨#[x]⟩],by simp,rfl,by simp,_,rfl⟩)
  rw[this];simp
 have c2:=SO<|l.map λc=>decide<|c∈sg.cps.toList;have c3:((l.map λc=>decide<|c∈sg.cps.toList).all id)=l.all λc=>decide (c∈sg.cps.toList):=by rw[List.all_map];rfl
 rw[c3]at c2;generalize (l.map λc=>decide<|c∈sg.cps.toList).map PV.bl=bs at c1 c2;have e:(S l).cps.toList=l:=by simp
 have hz:=Z4d (l:=l) (by lia);unfold sV;by_cases h1:1<=(l.length:Int)
 ·by_cases h2:(l.length:Int)<=k
  ·simp[ae,e_,á,hz,h1,h2,c1,c2]
  ·simp[ae,e_,á,hz,h1,h2]
 ·simp[ae,e_,á,hz,h1]
def Z0E(l:List Nat)(c:Nat)(hy:y=S [c]):pF (.str<|S l) [.str y]=some (.bl<|decide<|l.take 1=[c]):=by rw[hy];rfl
def c45:Ì "-"=S [45]:=by decide+kernel
def c48:Ì "0"=S [48]:=by decide+kernel
def SY{α:Type}(xs:List α)(k:Nat)(hk:k<=xs.length):fC xs (some (k:Int)) none=xs.drop k:=by unfold fC;rw[HT.yx,HT.Fu,xx hk];exact xi (by simp)
def Z2f{l:List Nat}{s:Str}(e:s.cps.toList=hV a n)(h:∀c∈l,a<=c/\c<a+n):(l.all λc=>decide<|c∈s.cps.toList)=true:=by rw[c_,e];exact λc hc=>decide_eq_true<|List.mem_range'_1.mpr<|h c hc
def Z3A(h1: -10000000000<n)(h2:n<10000000000):ϛ [.sh<|sV<|nT n]=.ret (.sh<|.bl true):=by
 obtain⟨b,ds,e,hd,l1,l2,h0⟩:=WC h1 h2;have md:=Z1r (l:=ds) (by lia) "0123456789" 10;have al:=Z2f (l:=ds) (s:="0123456789") (a:=48) (n:=10) (by decide+kernel) λc hc=>by have:=hd c hc;lia
 rw[al]at md;have XD:1<=(ds.length:Int):=by lia
 have WE:(ds.length:Int)<=10:=by lia
 simp only[XD,WE,decide_true,Bool.and_self]at md;have pl:G6 (nT n):=λc hc=>by rcases WD h1 h2 c hc with h|h<;>lia
 have h0s:ę (Ì "0")=true:=by decide+kernel
 have Ri:=Z0E (nT n) 45 c45;have HD:=Z0E ds 48 c48;have S_:Œ (.str<|S<|nT n) (.str<|Ì "0")=some (.bl<|decide<|S (nT n)=Ì "0"):=ϙ pl.ok h0s;have nl:=SX h1 h2;have hz:(S<|nT n).length<=16777216:=by rw[Zp];lia
 have tm:nT n=[48]->decide (S (nT n)=Ì "0")=true:=λh=>by rw[h];decide+kernel
 unfold sV at md⊢;cases b with
 |true=>
  have e':nT n=45::ds:=e;have t1:decide ((nT n).take 1=[45])=true:=by rw[e'];simp
  rw[t1]at Ri;have sl:OU (.str<|S<|nT n) (some 1) none=some (.sh<|.str<|S ds):=by show(if(S<|nT n).length<=16777216then some (RV.sh<|.str<|S<|fC (S<|nT n).cps.toList (some 1) none)else none)=_;rw[if_pos hz,e'];have:fC (45::ds) (some 1) none=ds:=SY (45::ds) 1 (by simp);show some (RV.sh<|.str<|S<|fC (45::ds) (some 1) none)=_;rw[this]
  have hh:∃c r,ds=c::r/\c≠48:=by
   rcases h0 with h|h
   ·rw[e']at h;cases h
   ·exact h
  obtain⟨c,r,ec,hc⟩:=hh;have t2:decide (ds.take 1=[48])=false:=by rw[ec];simpa using hc
  rw[t2]at HD;generalize decide (S (nT n)=Ì "0")=qq at*;generalize S (nT n)=N at*;cases qq<;>simp[ϛ,gc,Ri,HD,sl,md,S_]
 |false=>
  have e':nT n=ds:=e;have t1:decide ((nT n).take 1=[45])=false:=by
   rw[e'];cases hds:ds with
   |nil=>rw[hds]at l1;cases l1|cons a r=>have:=hd a (by rw[hds];simp);simp;lia
  rw[t1]at Ri;rw[<-e']at md HD;rcases h0 with h|⟨c,r,ec,hc⟩
  ·rw[tm h]at S_;generalize S (nT n)=N at*;simp[ϛ,gc,Ri,md,S_]
  ·have t2:decide ((nT n).take 1=[48])=false:=by rw[e',ec];simpa using hc
   rw[t2]at HD;generalize decide (S (nT n)=Ì "0")=qq at*;cases qq<;>simp[ϛ,gc,Ri,HD,md,S_]
def Nb(n:Int):Prop:=-10000000000<n/\n<10000000000
def ah(n:Int):PV:=sV<|nT n
def Z1s{ns:List Int}(hn:∀n∈ns,Nb n)(hl:ns.length<=1000)(hs:Sl sl (ns.map ah)):dJ [sl]=.ret (.ow<|ns.map .int):=by
 have c1:ī (gN 0) ė (Ý<|Ü ϛ<|È 0 Ö) (ns.map ah) [.no] []=some ((ns.map λy=>true).map .bl):=by
  have:=đ (g:=gN 0) (mt:=ė) (me:=Ý<|Ü ϛ<|È 0 Ö) ah (λy=>PV.bl true) (λU=>∃s,U=[s]) ns [.no] [] ⟨_,rfl⟩ (by simp;lia) (by
   rintro x hx U ⟨s,rfl⟩;have e:=Z3A (hn x hx).1 (hn x hx).2;change ϛ [.sh<|ah x]=_ at e;exact⟨[.sh<|ah x],_,[.sh<|ah x],by simp,rfl,by simp[e],_,rfl⟩)
  rw[this];simp[wU]
 have c2:ī (gN 0) ė (aG pN<|É (Â 0) æ) (ns.map ah) [.no] []=some (ns.map .int):=by
  have:=đ (g:=gN 0) (mt:=ė) (me:=aG pN<|É (Â 0) æ) ah PV.int (λU=>∃s,U=[s]) ns [.no] [] ⟨_,rfl⟩ (by simp;lia) (by
   rintro x hx U ⟨s,rfl⟩;have e1:=Z4c (hn x hx).1 (hn x hx).2;have e2:=SX (hn x hx).1 (hn x hx).2;have e:pN [ah x]=some (.int x):=by show(if(S<|nT x).length<=640then(oK<|S<|nT x).map PV.int else none)=_;rw[if_pos (by rw[Zp];lia),e1];rfl
   exact⟨[.sh<|ah x],_,[.sh<|ah x],by simp,rfl,by simp[e],_,rfl⟩)
  rw[this];simp
 have c3:=SO<|ns.map λy=>true;have c4:((ns.map λy=>true).all id)=true:=by simp
 rw[c4]at c3;have it:=hs.it (i:=0) (U:=[sl]) rfl;generalize (ns.map λy=>true).map PV.bl=bs,ns.map ah=X at*;simp[dJ,nB,á,-yS,it,c1,c2,c3]
def ZH{ns:List Int}(hn:∀n∈ns,Nb n)(hl:ns.length<=1000)(hs:Sl sl (ns.map ah))(k:Int):af [sl,.sh<|.int k]=.ret (.ow<|ns.map .int):=by have e:=Z1s hn hl hs;simp[af,nC,hs.lend,e,pA]
def QC{α:Type}(x:α)(xs:List α):fC (x::xs) (some 1) none=xs:=SY (x::xs) 1 (by simp)
def Z1t(ha:ę a=true)(hb:ę b=true):cX (.str a) (.str b)=some (.bl<|!decide (a=b)):=by
 have h:cK (.str a) (.str b)=decide (a=b):=by unfold cK;rfl
 unfold cX rk;rw[show ϝ (.str a)=true by unfold ϝ;exact ha,show ϝ (.str b)=true by unfold ϝ;exact hb,h];rfl
def Z3g:ę (Ì "yard")=true:=by decide+kernel
def S0:ę (Ì "ray")=true:=by decide+kernel
def Z4e:ę (Ì "night")=true:=by decide+kernel
def S3:ę (Ì "day")=true:=by decide+kernel
def Z3B(hw:1<=w/\w<=20)(hh:1<=h/\h<=20):iM [.sh<|.lst [.str "yard",ah w,ah h],.sh<|.int 0]=.ret (.sh<|.lst [.int w,.int h]):=by have e:=ZH (ns:=[w,h]) (λn hn=>by simp at hn;unfold Nb;lia) (by simp) (sl:=.sh<|.lst<|[w,h].map ah) (.inl rfl) 0;have ne:=Z1t Z3g Z3g;have c:=QC (PV.str "yard") [ah w,ah h];simp only[à,Ů]at e;simp[iM,pV,á,ne,c,e,ī,hw.1,hw.2,hh.1,hh.2,pE,dR]
def Z2g(hg:Z1 w ns=true)(hw:ę w=true)(hn:∀n∈ns,Nb n)(hl:ns.length<=1000)(k:Int)(hs:Sl sl (.str w::ns.map ah)):gh [sl,.sh<|.int k]=.ret (.sh<|Z7 (Za w) w ns):=by have e:=ZH hn hl (sl:=.sh<|.lst<|ns.map ah) (.inl rfl) k;have t:=Wn hg (sl:=.bw<|ns.map .int)<|.inr rfl;have c:=QC (PV.str w)<|ns.map ah;rcases hs with rfl|rfl<;>simp[gh,nE,c,e,t]
def Z2h(h1:1<=l.length)(h2:l.length<=8)(hc:∀c∈l,97<=c/\c<=122):nc [.sh<|sV l]=.ret (.sh<|.bl true):=by
 have md:=Z1r (l:=l) (by lia) "abcdefghijklmnopqrstuvwxyz" 8;have al:=Z2f (l:=l) (s:="abcdefghijklmnopqrstuvwxyz") (a:=97) (n:=26) (by decide+kernel) λc h=>by have:=hc c h;lia
 rw[al]at md;have XD:1<=(l.length:Int):=by lia
 have WE:(l.length:Int)<=8:=by lia
 simp only[XD,WE,decide_true,Bool.and_self]at md;simp[nc,uS,md]
def Nm(l:List Nat):Prop:=1<=l.length/\l.length<=8/\∀c∈l,97<=c/\c<=122
def Nm.pln(h:Nm l):G6 l:=λc hc=>by have:=h.2.2 c hc;lia
def Z3C(hm:Nm l)(h1:1<=t)(h2:t<=1000000000)(k:Int)(hs:Sl sl [.str "day",sV l,ah t]):kD [sl,.sh<|.int k]=.ret (.ot [sV l,.int t] [] []):=by have e:=ZH (ns:=[t]) (λn hn=>by simp at hn;unfold Nb;lia) (by simp) (sl:=.sh<|.lst<|[t].map ah) (.inl rfl) k;have i:=Z2h hm.1 hm.2.1 hm.2.2;have c:fC [PV.str "day",sV l,ah t] (some 2) none=[ah t]:=SY [PV.str "day",sV l,ah t] 2 (by simp);simp only[à,Ů]at e;rcases hs with rfl|rfl<;>simp[kD,qT,i,c,e,h1,h2]
def NH:Option P3->List PV
 |none=>[.str "night"]|some r=>[.str "ray",ah r.1,ah r.2.1,ah r.2.2]
def QD(r:P3):Prop:=-1000000<=r.1/\r.1<=1000000/\ -1000000<=r.2.1/\r.2.1<=1000000/\1<=r.2.2/\r.2.2<=1000000
def Zk:Option P3->Prop
 |none=>True|some r=>QD r
def Z2L(h:QD r):pX [.sh<|c3 r]=.ret (.sh<|.bl true):=by
 obtain⟨h1,h2,h3,h4,h5,h6⟩:=h;have a1:(if r.1<0then -r.1 else r.1)<=1000000:=by split<;>lia
 have a2:(if r.2.1<0then -r.2.1 else r.2.1)<=1000000:=by split<;>lia
 simp[pX,wG,c3,a1,a2,h5,h6]
def dRN:(Ì "ray"=Ì "night")=False:=eq_false (by decide+kernel)
def WF(h:Nb n):ϝ (ah n)=true:=by
 have pl:G6 (nT n):=λc hc=>by rcases WD h.1 h.2 c hc with h|h<;>lia
 unfold ah sV ϝ;exact pl.ok
def S4(l:List Nat):vg (sV l)=0:=by unfold sV vg;rfl
def Z2M(ha:ę a=true)(hn:¬a=Ì "night")(hw:cI ws=true)(hd:pk ws=0):Œ (.lst (.str a::ws)) (.lst [.str "night"])=some (.bl false):=by
 have h1:cK (.lst (.str a::ws)) (.lst [.str<|Ì "night"])=false:=by
  unfold cK jq;have:cK (.str a) (.str<|Ì "night")=false:=by unfold cK;simpa using hn
  rw[this];rfl
 have h2:ϝ (.lst (.str a::ws))=true:=by unfold ϝ cI;rw[show ϝ (.str a)=true by unfold ϝ;exact ha,hw];rfl
 have h3:ϝ (.lst [.str<|Ì "night"])=true:=by decide+kernel
 have h4:vg (.lst (.str a::ws))=1:=by unfold vg pk;rw[hd];unfold vg;rfl
 unfold Œ rk;rw[h1,h2,h3,h4];rfl
def Z2N(ho:Zk o)(k:Int)(hs:Sl sl (NH o)):fq [sl,.sh<|.int k]=.ret (.sh<|aE o):=by
 cases o with
 |none=>
  have h3:ϝ (.lst [.str<|Ì "night"])=true:=by decide+kernel
  have e:Œ (.lst [.str "night"]) (.lst [.str "night"])=some (.bl true):=by unfold Œ rk;rw[uA _ h3,h3];rfl
  change Sl sl [.str "night"]at hs;rcases hs with rfl|rfl<;>simp[fq,kC,e,aE]
 |some r=>
  obtain⟨h1,h2,h3,h4,h5,h6⟩:=ho;have e:=ZH (ns:=[r.1,r.2.1,r.2.2]) (λn hn=>by simp at hn;unfold Nb;lia) (by simp) (sl:=.sh<|.lst<|[r.1,r.2.1,r.2.2].map ah) (.inl rfl) k;have i:=Z2L (r:=r) ⟨h1,h2,h3,h4,h5,h6⟩;have c:=QC (PV.str "ray") [ah r.1,ah r.2.1,ah r.2.2];have ne:=Z1t S0 S0;simp only[à,Ů]at e;have eq:Œ (.lst [.str "ray",ah r.1,ah r.2.1,ah r.2.2]) (.lst [.str "night"])=some (.bl false):=by
   refine Z2M S0 (by rw[dRN];exact id) ?_ ?_
   ·have b1:=WF (n:=r.1) ⟨by lia,by lia⟩;have b2:=WF (n:=r.2.1) ⟨by lia,by lia⟩;have b3:=WF (n:=r.2.2) ⟨by lia,by lia⟩;unfold cI cI cI cI;rw[b1,b2,b3];rfl
   ·unfold ah pk pk pk pk;rw[S4,S4,S4];rfl
  change Sl sl [.str "ray",ah r.1,ah r.2.1,ah r.2.2]at hs;unfold c3 at i;rcases hs with rfl|rfl<;>simp[fq,kC,eq,ne,c,e,i,aE,c3]
@[simp]theorem Z52{D:List (List PV×List PV)}:fh (.dw D)=some (.dw D):=rfl
abbrev Dz:=List Nat×Int×List (Option P3)
def dD(d:Dz):List PV×List PV:=([sV d.1,.int d.2.1],d.2.2.map aE)
def zV(d:Dz):Dy:=(S d.1,d.2.1,d.2.2)
def S5(D:List Dz):Bool:=match D.getLast? with
 |some d=>decide<|d.2.2.length=0|none=>false
set_option tactic.hygienic true in
def Z13(h0:∀d,D.getLast?=some d->d.2.2.length≠0):S5 D=false:=by
 unfold S5;split
 ·rename_i d e;simpa using h0 d e
 ·rfl
def Z14:Ų [.dw<|D.map dD]=.ret (.sh<|.bl<|S5 D):=by
 unfold S5;cases e:D.getLast? with
 |none=>have:D=[]:=List.getLast?_eq_none_iff.mp e;subst this;simp[Ų,dL]|some d=>
  have hl:0<(D.map dD).length:=by
   have:D≠[]:=λz=>by rw[z]at e;cases e
   have:=B3.mpr this;simp;lia
  have hg:(D.map dD).getLast?=some (dD d):=by rw[List.getLast?_map,e];rfl
  have h2:(dD d).1.length=2:=rfl;have h3:(dD d).2.length=d.2.2.length:=by simp[dD]
  generalize D.map dD=DD at*;by_cases h0:d.2.2.length=0
  ·have:(dD d).2=[]:=rQ.mp (by lia);simp[Ų,dL,hl,hg,h2,this,h0]
  ·have:¬(dD d).2=[]:=λz=>h0 (by rw[<-h3,z];rfl);simp[Ų,dL,hl,hg,h2,this,h0]
def Z2O{D:List Dz}(hd:D.getLast?=some d)(hl:d.2.2.length<24)(ho:Zk o)(k:Int)(hs:Sl sl (NH o)):iN [sl,.sh<|.int k,.dw<|D.map dD]=.ok (.l 2<|aE o):=by
 have e:=Z2N ho k hs;have l0:¬D.map dD=[]:=by
  have:D≠[]:=λz=>by rw[z]at hd;cases hd
  simpa using this
 have hg:(D.map dD).getLast?=some (dD d):=by rw[List.getLast?_map,hd];rfl
 have h2:(dD d).1.length=2:=rfl;have h3:(dD d).2.length=d.2.2.length:=by simp[dD]
 have h4:¬((dD d).2.length:Int)=24:=by lia
 have h5:(dD d).2.length<16777216:=by lia
 generalize D.map dD=DD,dD d=dd at*;simp[iN,pY,gC,ĕ,l0,hg,h2,h4,h5,As,hs.lend,e,WR.ix]
def Z2P(D:List Dz)(hl:D.length<=1000):ī (gD 0 1 2) ė (ì 0) (D.map dD) [.no,.no,.no] []=some (D.map λd=>sV d.1):=by
 have key:∀(D:List Dz) (acc:List PV) (a b c:ť),acc.length+D.length<=1000->ī (gD 0 1 2) ė (ì 0) (D.map dD) [a,b,c] acc=some (acc++D.map λd=>sV d.1):=by
  intro D
  induction D with
  |nil=>intro acc a b c _;simp[ī]|cons d D ih=>
   intro acc a b c hl;rw[ĝ]at hl;have h1:acc.length<16777216:=by lia
   have:=ih (acc++[sV d.1]) (.sh<|sV d.1) (.sh<|.int d.2.1) (.bw<|d.2.2.map aE) (by simp;lia);rw[à,ī];simp[dD,gD,h1,ė];simpa[dD]using this
 simpa using key D [] .no .no .no (by simpa using hl)
def Z4f:S a=S b↔a=b:=by
 constructor
 ·intro h;have:=congrArg (λs=>s.cps.toList) h;simpa using this
 ·intro h;rw[h]
def Z1h(hl:G6 l){D:List Dz}(hD:∀d∈D,G6 d.1)(h:l∉D.map (·.1)):D3 false (sV l) (.lst<|D.map λd=>sV d.1)=some (.bl false):=by
 have h1:ϝ (sV l)=true:=by unfold sV ϝ;exact hl.ok
 have h2:∀D:List Dz,(∀d∈D,G6 d.1)->cI (D.map λd=>sV d.1)=true:=by
  intro D
  induction D with
  |nil=>intro _;rfl|cons d D ih=>
   intro hD;rw[à,cI,ih λx hx=>hD x<|þ _ hx];have:ϝ (sV d.1)=true:=by unfold sV ϝ;exact(hD d<|by simp).ok
   rw[this];rfl
 have h3:((D.map λd=>sV d.1).any λy=>cK y<|sV l)=false:=by rw[List.any_eq_false];intro y hy;obtain⟨d,hd,rfl⟩:=ģ.mp hy;unfold sV cK;intro z;exact h<|ģ.mpr ⟨d,hd,Z4f.mp<|of_decide_eq_true z⟩
 unfold D3;dsimp only;rw[h1,h2 D hD,S4,h3];rfl
def Z3D{D:List Dz}(h0:∀d,D.getLast?=some d->d.2.2.length≠0)(hD:D.length<12)(hp:∀d∈D,G6 d.1)(hm:Nm l)(hn:l∉D.map (·.1))(h1:1<=t)(h2:t<=1000000000)(k:Int)(hs:Sl sl [.str "day",sV l,ah t]):kE [sl,.sh<|.int k,.dw<|D.map dD]=.ok (.d 2 [sV l,.int t]):=by
 have lk:=Z14 (D:=D);rw[Z13 h0]at lk;have rd:=Z3C hm h1 h2 k hs;have cg:=Z2P D (by lia);have ni:=Z1h hm.pln hp hn;have l12:¬((D.map dD).length:Int)=12:=by simp;lia
 have WG:(D.map dD).length<16777216:=by simp;lia
 generalize D.map dD=DD,D.map (λd=>sV d.1)=NN,sV l=L at*;simp[kE,qU,gC,ĕ,á,lk,l12,hs.lend,rd,RV.slot,Am,Ħ,qz,iY,cg,ni,Aq,WG,WR.ix]
def Z2i(hT:T.length<40)(hg:Z1 w ns=true)(hw:ę w=true)(hn:∀n∈ns,Nb n)(hl:ns.length<=1000)(k:Int)(hs:Sl sl (.str w::ns.map ah)):dN [sl,.sh<|.int k,.bw T,.dw []]=.ok (.t 2<|dZ (w,ns)):=by
 have rt:=Z2g hg hw hn hl k hs;have l40:¬(T.length:Int)=40:=by lia
 have WG:T.length<16777216:=by lia
 change _=FR.ret (.sh<|dZ (w,ns))at rt;simp[dN,nF,gC,ĕ,l40,hs.lend,rt,Ap,WG,WR.ix]
def S6(h:Z1 w xs=true):xs.length<=90/\∀n∈xs,-1000000000<=n/\n<=1000000000:=by
 rcases Zr h with⟨-,h⟩|⟨-,h⟩|⟨-,h⟩|⟨-,h⟩|⟨-,h⟩
 ·obtain⟨a,b,c,rfl⟩:=SR h;simp[Zn,qe,EO]at h⊢;omega
 ·obtain⟨a,b,c,d,e,rfl⟩:=SS h;simp[Zg,Zo,qe,EO]at h⊢;omega
 ·obtain⟨a,b,c,d,e,rfl⟩:=ND h;simp[Zi,Zo,qe,EO]at h⊢;omega
 ·obtain⟨a,b,c,d,e,f,g,i,j,rfl⟩:=SU h;simp[Zh,qe,JB]at h⊢;omega
 ·obtain⟨a,b,c,d,e,rfl⟩:=ND h;simp[Zi,Zo,qe,EO]at h⊢;omega
inductive Rw where
 |th (t:Th)|dy (l:List Nat) (t:Int)|tn (o:Option P3)
def Hx:Rw->List PV
 |.th t=>.str t.1::t.2.map ah|.dy l t=>[.str "day",sV l,ah t]|.tn o=>NH o
def ZA(h:Z1 w ns=true):(∀n∈ns,Nb n)/\ns.length<=100:=⟨λn hn=>by have:=(S6 h).2 n hn;unfold Nb;lia,by have:=(S6 h).1;lia⟩
def WH(h:Z1 w xs=true):ę w=true:=by rcases Zr h with⟨rfl,-⟩|⟨rfl,-⟩|⟨rfl,-⟩|⟨rfl,-⟩|⟨rfl,-⟩<;>decide+kernel
def S7(ha:ę a=true):D3 false (.str a) (.tup [.str "ray",.str "night"])=some (.bl<|decide (Ì "ray"=a)||decide (Ì "night"=a)):=by
 have h1:ϝ (.str a)=true:=by unfold ϝ;exact ha
 have h2:cI [.str<|Ì "ray",.str<|Ì "night"]=true:=by decide+kernel
 unfold D3;dsimp only;rw[h1,h2];have h3:vg (.str a)=0:=by unfold vg;rfl
 rw[h3];have e:∀b:Str,cK (.str b) (.str a)=decide (b=a):=λb=>by unfold cK;rfl
 rw[eG,eG,List.any_nil,e,e,wS];rfl
def dWD(h:Z1 w xs=true):¬Ì "ray"=w/\¬Ì "night"=w/\¬w=Ì "day":=by
 rcases Zr h with⟨rfl,-⟩|⟨rfl,-⟩|⟨rfl,-⟩|⟨rfl,-⟩|⟨rfl,-⟩<;>decide+kernel
def Z2Q{D:List Dz}(hd:D.getLast?=some d)(hl:d.2.2.length<24)(ho:Zk o)(k:Int):Ī [.sh<|.lst<|NH o,.sh<|.int k,.bw T,.dw<|D.map dD]=.ok (.l 3<|aE o):=by
 have e:=Z2O hd hl ho k (sl:=.sh<|.lst<|NH o)<|.inl rfl;have i:∃a r,NH o=.str a::r/\D3 false (.str a) (.tup [.str "ray",.str "night"])=some (.bl true):=by
  cases o with
  |none=>exact⟨_,_,rfl,by rw[S7 Z4e];simp⟩|some r=>exact⟨_,_,rfl,by rw[S7 S0];simp⟩
 obtain⟨a,r,e1,e2⟩:=i;rw[e1]at e⊢;simp[Ī,iO,gC,ĕ,e2,ϲ,kK,e,rz,WR.ix,WR.to]
def Z3E{D:List Dz}(h0:∀d,D.getLast?=some d->d.2.2.length≠0)(hD:D.length<12)(hp:∀d∈D,G6 d.1)(hm:Nm l)(hn:l∉D.map (·.1))(h1:1<=t)(h2:t<=1000000000)(k:Int):Ī [.sh<|.lst [.str "day",sV l,ah t],.sh<|.int k,.bw T,.dw<|D.map dD]=.ok (.d 3 [sV l,.int t]):=by
 have e:=Z3D h0 hD hp hm hn h1 h2 k (sl:=.sh<|.lst [.str "day",sV l,ah t])<|.inl rfl;have i:D3 false (.str<|Ì "day") (.tup [.str "ray",.str "night"])=some (.bl false):=by rw[S7 S3,show decide (Ì "ray"=Ì "day")=false by decide+kernel,show decide (Ì "night"=Ì "day")=false by decide+kernel];rfl
 have q:=ϙ S3 S3;simp[Ī,iO,gC,ĕ,i,q,ϲ,kK,e,rz,WR.ix,WR.to]
def Z2j(hT:T.length<40)(hg:Z1 t.1 t.2=true)(k:Int):Ī [.sh<|.lst (.str t.1::t.2.map ah),.sh<|.int k,.bw T,.dw []]=.ok (.t 2<|dZ t):=by have e:=Z2i hT hg (WH hg) (ZA hg).1 (by have:=(ZA hg).2;lia) k (sl:=.sh<|.lst (.str t.1::t.2.map ah)) (.inl rfl);obtain⟨d1,d2,d3⟩:=dWD hg;have i:=S7<|WH hg;have q:=ϙ (WH hg) S3;simp only[d1,d2,decide_false,Bool.or_self]at i;simp only[d3,decide_false]at q;change dN _=FW.ok (.t 2<|dZ t)at e;simp[Ī,iO,gC,ĕ,i,q,ϲ,kK,e,rz,WR.ix,WR.to]
abbrev zG:=kq 5 6 3 4<|ϲ Ī [6,5,3,4]
def Z4J{D:DL}(h:Ī [.sh<|.lst ws,.sh<|.int k,.bw T,.dw D]=.ok (.t 2 p))(ps:List PV)(s0 s1 s2 a b:ť):
 zG (.tup [.int k,.lst ws]::ps) [s0,s1,s2,.no,.no,a,b] T D=zG ps [s0,s1,s2,.no,.no,.sh<|.int k,.sh<|.lst ws] (T++[p]) D:=by
 unfold zG;rw[kq];have e:ϲ Ī [6,5,3,4] (bj 3 4 T D<|(([s0,s1,s2,.no,.no,a,b]:Ĉ).set 5 (.sh<|.int k)).set 6 (.sh<|.lst ws))=.ok (.t 3 p) (bj 3 4 T D<|(([s0,s1,s2,.no,.no,a,b]:Ĉ).set 5 (.sh<|.int k)).set 6 (.sh<|.lst ws)):=by simp[ϲ,bj,kK,qO,h,WR.ix,rz,WR.to]
 rw[e];rfl
def Z4K{D:DL}(h:Ī [.sh<|.lst ws,.sh<|.int k,.bw T,.dw D]=.ok (.d 3 p))(ps:List PV)(s0 s1 s2 a b:ť):
 zG (.tup [.int k,.lst ws]::ps) [s0,s1,s2,.no,.no,a,b] T D=zG ps [s0,s1,s2,.no,.no,.sh<|.int k,.sh<|.lst ws] T (D++[(p,[])]):=by
 unfold zG;rw[kq];have e:ϲ Ī [6,5,3,4] (bj 3 4 T D<|(([s0,s1,s2,.no,.no,a,b]:Ĉ).set 5 (.sh<|.int k)).set 6 (.sh<|.lst ws))=.ok (.d 4 p) (bj 3 4 T D<|(([s0,s1,s2,.no,.no,a,b]:Ĉ).set 5 (.sh<|.int k)).set 6 (.sh<|.lst ws)):=by simp[ϲ,bj,kK,qO,h,WR.ix,rz,WR.to]
 rw[e];rfl
def Z4L{D:DL}(h:Ī [.sh<|.lst ws,.sh<|.int k,.bw T,.dw D]=.ok (.l 3 p))(hd:D.getLast?=some d)(ps:List PV)(s0 s1 s2 a b:ť):
 zG (.tup [.int k,.lst ws]::ps) [s0,s1,s2,.no,.no,a,b] T D=zG ps [s0,s1,s2,.no,.no,.sh<|.int k,.sh<|.lst ws] T (D.dropLast++[(d.1,d.2++[p])]):=by
 unfold zG;rw[kq];have e:ϲ Ī [6,5,3,4] (bj 3 4 T D<|(([s0,s1,s2,.no,.no,a,b]:Ĉ).set 5 (.sh<|.int k)).set 6 (.sh<|.lst ws))=.ok (.l 4 p) (bj 3 4 T D<|(([s0,s1,s2,.no,.no,a,b]:Ĉ).set 5 (.sh<|.int k)).set 6 (.sh<|.lst ws)):=by simp[ϲ,bj,kK,qO,h,WR.ix,rz,WR.to]
 rw[e];have e2:Ax 3 4 (.l 4 p) T D=some (T,D.dropLast++[(d.1,d.2++[p])]):=by unfold Ax;simp[hd]
 dsimp only;rw[e2];rfl
def AL(r:Rw):PV:=.lst<|Hx r
def Z3F:∀(ts:List Th) (T0:List PV) (k:Nat) (rest:List PV) (s0 s1 s2 a b:ť),(∀t∈ts,Z1 t.1 t.2=true)->T0.length+ts.length<=40->
 ∃a' b',zG (b_ k<|ts.map (λt=>AL<|.th t)++rest) [s0,s1,s2,.no,.no,a,b] T0 []=zG (b_ (k+ts.length) rest) [s0,s1,s2,.no,.no,a',b'] (T0++ts.map dZ) []:=by
 intro ts
 induction ts with
 |nil=>intro T0 k rest s0 s1 s2 a b _ _;exact⟨a,b,by simp⟩|cons t ts ih=>intro T0 k rest s0 s1 s2 a b hg hl;rw[ĝ]at hl;have r:=Z2j (T:=T0) (by lia) (hg t<|by simp) (k:Int);obtain⟨a',b',e⟩:=ih (T0++[dZ t]) (k+1) rest s0 s1 s2 (.sh<|.int k) (.sh<|AL<|.th t) (λx hx=>hg x<|þ _ hx) (by simp;lia);refine⟨a',b',?_⟩;rw[à,eE];show zG (.tup [.int k,.lst<|Hx<|.th t]::b_ (k+1) _) _ _ _=_;rw[Z4J<|show Ī [.sh<|.lst<|Hx<|.th t,.sh<|.int k,.bw T0,.dw []]=_ from r];refine e.trans ?_;rw[ĝ,show k+1+ts.length=k+(ts.length+1) by lia];simp
def Z3G:∀(os:List (Option P3)) (T:List PV) (D:List Dz) (d:Dz) (k:Nat) (rest:List PV) (s0 s1 s2 a b:ť),(∀o∈os,Zk o)->d.2.2.length+os.length<=24->
 ∃a' b',zG (b_ k<|os.map (λo=>AL<|.tn o)++rest) [s0,s1,s2,.no,.no,a,b] T ((D++[d]).map dD)=zG (b_ (k+os.length) rest) [s0,s1,s2,.no,.no,a',b'] T ((D++[(d.1,d.2.1,d.2.2++os)]).map dD):=by
 intro os
 induction os with
 |nil=>intro T D d k rest s0 s1 s2 a b _ _;exact⟨a,b,by simp⟩|cons o os ih=>
  intro T D d k rest s0 s1 s2 a b hg hl;rw[ĝ]at hl;have r:=Z2Q (T:=T) (D:=D++[d]) (d:=d) (by simp) (by lia) (hg o<|by simp) (k:Int);obtain⟨a',b',e⟩:=ih T D (d.1,d.2.1,d.2.2++[o]) (k+1) rest s0 s1 s2 (.sh<|.int k) (.sh<|AL<|.tn o) (λx hx=>hg x<|þ _ hx) (by simp;lia);refine⟨a',b',?_⟩;rw[à,eE];show zG (.tup [.int k,.lst<|Hx<|.tn o]::b_ (k+1) _) _ _ _=_;rw[Z4L (d:=dD d) (show Ī [.sh<|.lst<|Hx<|.tn o,.sh<|.int k,.bw T,.dw<|(D++[d]).map dD]=_ from r) (by rw[Ŕ];simp)];have ed:((D++[d]).map dD).dropLast++[((dD d).1,(dD d).2++[aE o])]=(D++[(d.1,d.2.1,d.2.2++[o])]).map dD:=by rw[Ŕ,Ŕ,à,Ů,List.dropLast_concat];simp[dD]
  rw[ed];refine e.trans ?_;rw[ĝ,show k+1+os.length=k+(os.length+1) by lia];simp
def Zs(d:Dz):Prop:=Nm d.1/\1<=d.2.1/\d.2.1<=1000000000/\1<=d.2.2.length/\d.2.2.length<=24/\∀o∈d.2.2,Zk o
def G7(d:Dz):List PV:=AL (.dy d.1 d.2.1)::d.2.2.map λo=>AL<|.tn o
def Z3H:∀(ds:List Dz) (T:List PV) (D:List Dz) (k:Nat) (s0 s1 s2 a b:ť),(∀d∈D++ds,Zs d)->((D++ds).map (·.1)).Nodup->D.length+ds.length<=12->
 ∃a' b',zG (b_ k<|ds.flatMap G7) [s0,s1,s2,.no,.no,a,b] T (D.map dD)=.ok (T,(D++ds).map dD) [s0,s1,s2,.no,.no,a',b']:=by
 intro ds
 induction ds with
 |nil=>intro T D k s0 s1 s2 a b _ _ _;exact⟨a,b,by simp[b_,kq]⟩|cons d ds ih=>
  intro T D k s0 s1 s2 a b hg hn hl;rw[ĝ]at hl;obtain⟨g1,g2,g3,g4,g5,g6⟩:=hg d (by simp);have hn1:d.1∉D.map (·.1):=by rw[Ŕ,à,xm]at hn;intro z;exact hn.2.2 _ z _ (by simp) rfl
  have h0:∀x,D.getLast?=some x->x.2.2.length≠0:=λx hx=>by have:=(hg x<|on _<|B4 hx).2.2.2.1;lia
  have r:=Z3E (T:=T) h0 (by lia) (λx hx=>(hg x<|on _ hx).1.pln) g1 hn1 g2 g3 (k:Int);rw[ou];show ∃a' b',zG (.tup [.int k,.lst<|Hx<|.dy d.1 d.2.1]::b_ (k+1) (d.2.2.map (λo=>AL<|.tn o)++ds.flatMap G7)) _ _ _=_;rw[Z4K<|show Ī [.sh<|.lst<|Hx<|.dy d.1 d.2.1,.sh<|.int k,.bw T,.dw<|D.map dD]=_ from r];have ed:D.map dD++[([sV d.1,.int d.2.1],[])]=(D++[(d.1,d.2.1,[])]).map dD:=by rw[Ŕ];rfl
  rw[ed];obtain⟨a1,b1,e1⟩:=Z3G d.2.2 T D (d.1,d.2.1,[]) (k+1) (ds.flatMap G7) s0 s1 s2 (.sh<|.int k) (.sh<|.lst<|Hx<|.dy d.1 d.2.1) g6 (by simpa using g5);have ed2:(D++[(d.1,d.2.1,[]++d.2.2)])=D++[d]:=by simp
  rw[e1];dsimp only;rw[ed2];have hh:D++[d]++ds=D++d::ds:=by simp
  obtain⟨a2,b2,e2⟩:=ih T (D++[d]) (k+1+d.2.2.length) s0 s1 s2 a1 b1 (by rw[hh];exact hg) (by rw[hh];exact hn) (by simp;lia);rw[hh]at e2;exact⟨a2,b2,e2⟩
def Z4M(D:List Dz)(hl:D.length<=1000)(hd:∀d∈D,d.2.2.length<=1000):ī (gD 0 1 2) ė (Ŧ<|É (ì 0)<|É (ì 1)<|É (Ý<|rh iE<|É (Â 2) æ) æ) (D.map dD) [.no,.no,.no] []=some ((D.map zV).map jL):=by
 have key:∀(D:List Dz) (acc:List PV) (a b c:ť),acc.length+D.length<=1000->(∀d∈D,d.2.2.length<=1000)->ī (gD 0 1 2) ė (Ŧ<|É (ì 0)<|É (ì 1)<|É (Ý<|rh iE<|É (Â 2) æ) æ) (D.map dD) [a,b,c] acc=some (acc++(D.map zV).map jL):=by
  intro D
  induction D with
  |nil=>intro acc a b c _ _;simp[ī]|cons d D ih=>
   intro acc a b c hl hd;rw[ĝ]at hl;have h1:acc.length<16777216:=by lia
   have h2:=hd d (by simp);have:=ih (acc++[jL<|zV d]) (.sh<|sV d.1) (.sh<|.int d.2.1) (.bw<|d.2.2.map aE) (by simp;lia)<|λx hx=>hd x<|þ _ hx;have e:dD d=([sV d.1,.int d.2.1],d.2.2.map aE):=rfl;have e2:jL (zV d)=.tup [sV d.1,.int d.2.1,.lst<|d.2.2.map aE]:=rfl;have hz:(d.2.2.map aE).length<=16777216:=by simp;lia
   rw[à,ī,à,à,e];rw[e2]at this⊢;simp[gD,h1,ė];simpa using this
 simpa using key D [] .no .no .no (by simpa using hl) hd
def Z3I(w h:Int){T:List Th}{D:List Dz}(hT:T.length<=100000)(hD:D.length<=1000)(hd:∀d∈D,d.2.2.length<=1000):ge [.sh<|.int w,.sh<|.int h,.bw<|T.map dZ,.dw<|D.map dD]=.ok ["width","height","things","days"] [.int w,.int h,.lst<|T.map dZ,.lst<|(D.map zV).map jL]:=by have c:=Z4M D hD hd;simp[ge,dE,eB,fH,IR.of,á,putN,yV,ywh,ywt,ywd,yht,yhd,ytd,c,PM,Je,Ħ,qz,iY]
def wC(s:String):List Nat:=(Ì s).cps.toList
def NJ(s:Str):S s.cps.toList=s:=j_ (by simp)
def ff:Rw->List (List Nat)
 |.th t=>t.1.cps.toList::t.2.map nT|.dy l t=>[wC "day",l,nT t]|.tn none=>[wC "night"]|.tn (some r)=>[wC "ray",nT r.1,nT r.2.1,nT r.2.2]
theorem Z3h:∀r:Rw,(ff r).map sV=Hx r
 |.th t=>by unfold ff Hx sV;rw[à,NJ,ķ];rfl|.dy l t=>rfl|.tn none=>rfl|.tn (some r)=>rfl
def Zj(T:List Th)(D:List Dz):List Rw:=T.map .th++D.flatMap λd=>.dy d.1 d.2.1::d.2.2.map .tn
def Z2(ws:List (List Nat)):List Nat:=Ŝ [32] ws
def yT(w h:Int):List (List Nat):=[wC "yard",nT w,nT h]
def JE(w h:Int)(T:List Th)(D:List Dz):List (List Nat):=Z2 (yT w h)::(Zj T D).map λr=>Z2<|ff r
def qX(w h:Int)(T:List Th)(D:List Dz):List Nat:=Ŝ [10] (JE w h T D)
def Wd(l:List Nat):Prop:=l.length<=11/\∀c∈l,33<=c/\c<256
def ZI(h:Nb n):Wd (nT n):=⟨(SX h.1 h.2).2,λc hc=>by rcases WD h.1 h.2 c hc with h|h<;>lia⟩
def Nm.wd(h:Nm l):Wd l:=⟨by have:=h.2.1;lia,λc hc=>by have:=h.2.2 c hc;lia⟩
def NK(h:((wC s).length<=11/\(wC s).all (λc=>decide<|33<=c/\c<256)=true)):Wd (wC s):=⟨h.1,λc hc=>of_decide_eq_true<|c_.mp h.2 c hc⟩
def Z3J(h:Z1 w xs=true):Wd w.cps.toList:=by rcases Zr h with⟨rfl,-⟩|⟨rfl,-⟩|⟨rfl,-⟩|⟨rfl,-⟩|⟨rfl,-⟩<;>exact NK (by decide+kernel)
def S8:Rw->Prop
 |.th t=>Z1 t.1 t.2=true|.dy l t=>Nm l/\1<=t/\t<=1000000000|.tn o=>Zk o
theorem S9:∀{r:Rw},S8 r->(∀x∈ff r,Wd x)/\ff r≠[]/\(ff r).length<=101
 |.th t,h=>by
   have h':Z1 t.1 t.2=true:=h;refine⟨λx hx=>?_,by simp[ff],?_⟩
   ·rcases û.mp hx with rfl|hx
    ·exact Z3J h'
    ·obtain⟨n,hn,rfl⟩:=ģ.mp hx;exact ZI<|(ZA h').1 n hn
   ·have:=(ZA h').2;simp[ff];lia
 |.dy l t,h=>by
   obtain⟨h1,h2,h3⟩:=h;refine⟨λx hx=>?_,by simp[ff],by simp[ff]⟩;have:x=wC "day" \/x=l\/x=nT t:=by simpa[ff]using hx
   rcases this with rfl|rfl|rfl
   ·exact NK (by decide+kernel)
   ·exact h1.wd
   ·exact ZI ⟨by lia,by lia⟩
 |.tn none,_=>by
   refine⟨λx hx=>?_,by simp[ff],by simp[ff]⟩;have:x=wC "night":=by simpa[ff]using hx
   subst this;exact NK (by decide+kernel)
 |.tn (some r),h=>by
   obtain⟨h1,h2,h3,h4,h5,h6⟩:=h;refine⟨λx hx=>?_,by simp[ff],by simp[ff]⟩;have:x=wC "ray" \/x=nT r.1\/x=nT r.2.1\/x=nT r.2.2:=by simpa[ff]using hx
   rcases this with rfl|rfl|rfl|rfl
   ·exact NK (by decide+kernel)
   ·exact ZI ⟨by lia,by lia⟩
   ·exact ZI ⟨by lia,by lia⟩
   ·exact ZI ⟨by lia,by lia⟩
theorem Z15:∀(ys:List (List Nat)) {x:Nat},x∈Ŝ [c] ys->x=c\/∃y∈ys,x∈y
 |[],_,h=>by cases h|[y],_,h=>.inr ⟨y,by simp,h⟩|y::z::r,x,h=>by
  have h':x∈y++[c]++Ŝ [c] (z::r):=h;rcases ź.mp h' with h1|h1
  ·rcases ź.mp h1 with h2|h2
   ·exact .inr ⟨y,by simp,h2⟩
   ·exact .inl (by simpa using h2)
  ·rcases Z15 (z::r) h1 with e|⟨q,hq,e⟩
   ·exact .inl e
   ·exact .inr ⟨q,þ _ hq,e⟩
theorem ZQ:∀(ys:List (List Nat)) (B:Nat),(∀y∈ys,y.length<=B)->(Ŝ [c] ys).length<=ys.length*(B+1)
 |[],B,_=>by simp[Ŝ]|[y],B,h=>by have:=h y (by simp);show y.length<=_;simp;lia|y::z::r,B,h=>by
  have h1:=h y (by simp);have ih:=ZQ (c:=c) (z::r) B λq hq=>h q<|þ _ hq;show(y++[c]++Ŝ [c] (z::r)).length<=_;rw[Ϲ,Ϲ];have e:(y::z::r).length*(B+1)=(z::r).length*(B+1)+(B+1):=by rw[ĝ (a:=y),sf,xt]
  have e1:[c].length=1:=rfl;lia
def ZW(h:∀x∈ws,Wd x)(h0:ws≠[]):Sp.ŋ 32 (Z2 ws)=ws:=Sp.kr 32 ws h0 λy hy z=>by have:=(h y hy).2 32 z;lia
def Z4g(h:∀x∈ws,Wd x):10∉Z2 ws:=λz=>by
 rcases Z15 ws z with e|⟨y,hy,e⟩
 ·cases e
 ·have:=(h y hy).2 10 e;lia
def ZB(h:∀x∈ws,Wd x)(hl:ws.length<=101):(Z2 ws).length<=1212:=by have:=ZQ (c:=32) ws 11 λy hy=>(h y hy).1;unfold Z2;have h2:ws.length*(11+1)<=101*12:=eI hl (by lia);lia
def WI(hw:1<=w/\w<=20)(hh:1<=h/\h<=20):(∀x∈yT w h,Wd x)/\yT w h≠[]/\(yT w h).length<=101:=by
 refine⟨λx hx=>?_,by simp[yT],by simp[yT]⟩;have:x=wC "yard" \/x=nT w\/x=nT h:=by simpa[yT]using hx
 rcases this with rfl|rfl|rfl
 ·exact NK (by decide+kernel)
 ·exact ZI ⟨by lia,by lia⟩
 ·exact ZI ⟨by lia,by lia⟩
def Z2k{W:List (List<|List Nat)}(h0:W≠[])(h:∀ws∈W,∀x∈ws,Wd x):Sp.ŋ 10 (Ŝ [10] (W.map Z2))=W.map Z2:=by refine Sp.kr 10 _ (by simpa using h0) λy hy=>?_;obtain⟨ws,hw,rfl⟩:=ģ.mp hy;exact Z4g<|h ws hw
def Z3K{W:List (List<|List Nat)}(hl:W.length<=1000)(h:∀ws∈W,(∀x∈ws,Wd x)/\ws.length<=101):(Ŝ [10] (W.map Z2)).length<=1213000:=by
 have:=ZQ (c:=10) (W.map Z2) 1212 λy hy=>by obtain⟨ws,hw,rfl⟩:=ģ.mp hy;exact ZB (h ws hw).1 (h ws hw).2
 rw[Ğ]at this;have h2:W.length*(1212+1)<=1000*1213:=eI hl (by lia);lia
def ZE(hc:c<256)(hy:y=S [c])(hl:l.length<=16000000):cJ (sV l) [.str y]=some (.ow<|(Sp.ŋ c l).map sV):=by
 have e:EJ y=some c:=by rw[hy];rfl
 show((EJ y).bind λc=>if c<256/\(S l).length+2<=16777216then some (RV.ow<|(Sp.ŋ c (S l).cps.toList).map λl=>PV.str<|S l)else none)=_;rw[e];show(if c<256/\(S l).length+2<=16777216then some (RV.ow<|(Sp.ŋ c (S l).cps.toList).map λl=>PV.str<|S l)else none)=_;rw[if_pos ⟨hc,by rw[Zp];lia⟩];rfl
def c10:Ì "\n"=S [10]:=by decide+kernel
def Ta:Ì " "=S [32]:=by decide+kernel
def Z2l{W:List (List<|List Nat)}(hl:W.length<=1000)(h:∀ws∈W,(∀x∈ws,Wd x)/\ws≠[]/\ws.length<=101):ī (gN 0) ė (Ý<|vx cJ (Â 0)<|É (mC<|.str " ") æ) ((W.map Z2).map sV) [.no] []=some (W.map λws=>.lst<|ws.map sV):=by
 have:=đ (g:=gN 0) (mt:=ė) (me:=Ý<|vx cJ (Â 0)<|É (mC<|.str " ") æ) (λws=>sV<|Z2 ws) (λws=>PV.lst<|ws.map sV) (λU=>∃s,U=[s]) W [.no] [] ⟨_,rfl⟩ (by simp;lia) (by
  rintro ws hw U ⟨s,rfl⟩;obtain⟨h1,h2,h3⟩:=h ws hw;have e:=ZE (c:=32) (by lia) Ta (l:=Z2 ws) (by have:=ZB h1 h3;lia);rw[ZW h1 h2]at e;refine⟨[.sh<|sV<|Z2 ws],_,[.sh<|sV<|Z2 ws],by simp,rfl,?_,_,rfl⟩;unfold sV at e⊢;simp[e])
 rw[ķ];simpa[wU]using this
def Z1u(hT:∀t∈T,Z1 t.1 t.2=true)(hD:∀d∈D,Zs d):∀r∈Zj T D,S8 r:=by
 intro r hr;rcases ź.mp hr with hr|hr
 ·obtain⟨t,ht,rfl⟩:=ģ.mp hr;exact hT t ht
 ·obtain⟨d,hd,hr⟩:=List.mem_flatMap.mp hr;obtain⟨g1,g2,g3,_,_,g6⟩:=hD d hd;rcases û.mp hr with rfl|hr
  ·exact⟨g1,g2,g3⟩
  ·obtain⟨o,ho,rfl⟩:=ģ.mp hr;exact g6 o ho
def Z16(hT:T.length<=40)(hD:∀d∈D,Zs d)(hl:D.length<=12):(Zj T D).length<=400:=by
 have:∀D:List Dz,(∀d∈D,Zs d)->(D.flatMap λd=>Rw.dy d.1 d.2.1::d.2.2.map Rw.tn).length<=D.length*25:=by
  intro D
  induction D with
  |nil=>intro _;simp|cons d D ih=>intro h;have h1:=ih λx hx=>h x<|þ _ hx;have h2:=(h d<|by simp).2.2.2.2.1;rw[ou,Ϲ,ĝ,ĝ,Ğ];lia
 have:=this D hD;unfold Zj;rw[Ϲ,Ğ];lia
def Z4h(T:List Th)(D:List Dz):((Zj T D).map λr=>PV.lst<|(ff r).map sV)=T.map (λt=>AL<|.th t)++D.flatMap G7:=by
 have e:∀r,PV.lst ((ff r).map sV)=AL r:=λr=>by unfold AL;rw[Z3h]
 unfold Zj;rw[xj λr x=>e r,Ŕ,ķ,List.map_flatMap];congr 1;have:(λd:Dz=>List.map (λr=>AL r) (Rw.dy d.1 d.2.1::d.2.2.map Rw.tn))=G7:=funext λd=>by rw[à,ķ];rfl
 rw[this]
def Z3L(hw:1<=w/\w<=20)(hh:1<=h/\h<=20)(hT:∀t∈T,Z1 t.1 t.2=true)(Kq:T.length<=40)(hD:∀d∈D,Zs d)(Kr:D.length<=12)(hn:(D.map (·.1)).Nodup):cU [.sh<|sV<|qX w h T D]=.ret (.sh<|Z0 w h T<|D.map zV):=by
 obtain⟨y1,y2,y3⟩:=WI hw hh;have hW:∀ws∈yT w h::(Zj T D).map ff,(∀x∈ws,Wd x)/\ws≠[]/\ws.length<=101:=λws hws=>by
  rcases û.mp hws with rfl|hws
  ·exact⟨y1,y2,y3⟩
  ·obtain⟨r,hr,rfl⟩:=ģ.mp hws;exact S9<|Z1u hT hD r hr
 have hWl:(yT w h::(Zj T D).map ff).length<=1000:=by have:=Z16 Kq hD Kr;simp;lia
 have eT:qX w h T D=Ŝ [10] ((yT w h::(Zj T D).map ff).map Z2):=by unfold qX JE;rw[à,ķ];rfl
 have sp:=ZE (c:=10) (by lia) c10 (l:=qX w h T D) (by rw[eT];have:=Z3K hWl λws hws=>⟨(hW ws hws).1,(hW ws hws).2.2⟩;lia);rw[eT,Z2k (by simp) λws hws=>(hW ws hws).1,<-eT]at sp;have rc:=Z2l hWl hW;have er:((yT w h::(Zj T D).map ff).map λws=>PV.lst<|ws.map sV)=PV.lst [.str "yard",ah w,ah h]::(T.map (λt=>AL<|.th t)++D.flatMap G7):=by rw[à,ķ,<-Z4h];rfl
 rw[er]at rc;have sz:=Z3B hw hh;have ct:=QC (PV.lst [.str "yard",ah w,ah h])<|T.map (λt=>AL<|.th t)++D.flatMap G7;obtain⟨a1,b1,e1⟩:=Z3F T [] 1 (D.flatMap G7) (.sh<|sV<|qX w h T D) (.ow (PV.lst [.str "yard",ah w,ah h]::(T.map (λt=>AL<|.th t)++D.flatMap G7))) (.sh<|.lst [.int w,.int h]) .no .no hT (by simpa using Kq);obtain⟨a2,b2,e2⟩:=Z3H D ([]++T.map dZ) [] (1+T.length) (.sh<|sV<|qX w h T D) (.ow (PV.lst [.str "yard",ah w,ah h]::(T.map (λt=>AL<|.th t)++D.flatMap G7))) (.sh<|.lst [.int w,.int h]) a1 b1 (by simpa using hD) (by simpa using hn) (by simpa using Kr);rw[Ů]at e2;have lp:=e1.trans e2;rw[Š,Š]at lp;have lk:=Z14 (D:=D);rw[Z13 λd e=>by have:=(hD d<|B4 e).2.2.2.1;lia]at lk;have yd:=Z3I w h (T:=T) (D:=D) (by lia) (by lia) λd hd=>by have:=(hD d hd).2.2.2.2.1;lia
 have eq:Z0 w h T (D.map zV)=.ins "Yard" ["width","height","things","days"] [.int w,.int h,.lst<|T.map dZ,.lst<|(D.map zV).map jL]:=rfl;rw[eq];generalize (D.map zV).map jL=DY,D.map dD=DD,T.map dZ=TH,T.map (λt=>AL<|.th t)++D.flatMap G7=RR,((yT w h::(Zj T D).map ff).map Z2).map sV=LN,PV.lst [.str "yard",ah w,ah h]=YR,qX w h T D=TX at*;unfold sV at sp lp⊢;generalize S TX=X at*;unfold zG at lp;have pl1:dU (.sh<|.str X)=true:=rfl;simp[cU,p_,á,sp,rc,sz];have em:BA (Sj<|Ý<|tu (Â 1) (mP<|Æ 1) nn) [.sh<|.str X,.ow (YR::RR),.sh<|.lst [.int w,.int h],.no,.no,.no,.no]=.ok (b_ 1 RR) [.sh<|.str X,.ow (YR::RR),.sh<|.lst [.int w,.int h],.no,.no,.no,.no]:=by simp[Sj,ct]
 have tl:(å (aZ (bL<|Ý<|Ü Ų<|È 4 Ö) dA bZ)<|ý<|Ŋ<|fJ "Yard" ge (Þ (Ë ã (Â 2)<|Æ 0)<|Þ (Ë ã (Â 2)<|Æ 1)<|È 3<|È 4 Ö)) (bj 3 4 TH DD [.sh<|.str X,.ow (YR::RR),.sh<|.lst [.int w,.int h],.no,.no,a2,b2])=.ok (.rt<|.sh<|.ins "Yard" ["width","height","things","days"] [.int w,.int h,.lst TH,.lst DY]) (bj 3 4 TH DD [.sh<|.str X,.ow (YR::RR),.sh<|.lst [.int w,.int h],.no,.no,a2,b2]):=by simp[bj,qO,lk,yd]
 have pa:([.sh<|.str X,.ow (YR::RR),.sh<|.lst [.int w,.int h],.no,.no,.no,.no]:Ĉ).all dU=true:=rfl;unfold SA;rw[if_pos ⟨pa,by simp,by simp⟩];simp only[rW,rX,em];rw[if_pos pa,lp];simp only[į.bK,tl];rfl
theorem WJ:∀ys:List (List Nat),lO (ys.map sV)=some ys
 |[]=>rfl|y::ys=>by rw[à];show(lO<|ys.map sV).map ((S y).cps.toList::·)=_;rw[WJ ys];rfl
theorem WK:∀(ys:List (List Nat)) (B:Nat),(∀y∈ys,y.length<=B)->(ys.map cq).sum<=ys.length*B
 |[],_,_=>by simp|y::ys,B,h=>by have h1:=h y (by simp);have ih:=WK ys B λq hq=>h q<|þ _ hq;rw[à,List.sum_cons,ĝ,sf];lia
def WL(hy:y=S [c])(h:∀x∈ys,x.length<=B)(hl:ys.length*(B+1)<=16000000):jt (.str y) [.lst<|ys.map sV]=some (sV<|Ŝ [c] ys):=by rw[hy];show((lO<|ys.map sV).bind λys=>if(ys.map cq).sum+ys.length*(S [c]).length<=16777216then some (PV.str<|S<|Ŝ (S [c]).cps.toList ys)else none)=_;rw[WJ];have h1:=WK ys B h;have h2:(S [c]).length=1:=rfl;show(if(ys.map cq).sum+ys.length*(S [c]).length<=16777216then some (PV.str<|S<|Ŝ [c] ys)else none)=_;rw[h2,if_pos (by rw[Nat.mul_add]at hl;lia)];rfl
def Z2R(h:∀x∈ws,Wd x)(hl:ws.length<=101):jt (.str " ") [.lst<|ws.map sV]=some (sV<|Z2 ws):=
 WL Ta (B:=11) (λx hx=>(h x hx).1) (by have:ws.length*(11+1)<=101*12:=eI hl (by lia);lia)
def Z4i(h:Nb n):n.natAbs.log2<1920:=by
 have:n.natAbs<2^1920:=by
  have h1:n.natAbs<2^34:=by unfold Nb at h;lia
  exact š h1 (lW (by lia)<|by lia)
 by_cases h0:n.natAbs=0
 ·rw[h0];decide
 ·exact(Nat.log2_lt h0).mpr this
def Zm(h:Nb n):jy [.int n]=some (ah n):=by show(if n.natAbs.log2<1920then some (PV.str<|Ì<|bJ n)else none)=_;rw[if_pos<|Z4i h,Z4b];rfl
def Hy(d:Dz):List (List Nat):=Z2 (ff<|.dy d.1 d.2.1)::d.2.2.map λo=>Z2<|ff<|.tn o
def Z3M(h:Zs d):(Hy d).length<=25:=by have:=h.2.2.2.2.1;simp[Hy];lia
def Z4j(w h:Int)(T:List Th)(D:List Dz):JE w h T D=Z2 (yT w h)::(T.map (λt=>Z2<|ff<|.th t)++D.flatMap Hy):=by
 unfold JE Zj;rw[Ŕ,ķ,List.map_flatMap];have:(λd:Dz=>List.map (λr=>Z2<|ff r) (Rw.dy d.1 d.2.1::d.2.2.map Rw.tn))=Hy:=funext λd=>by rw[à,ķ];rfl
 rw[this];rfl
def Z3N(Kq:T.length<=40)(hD:∀d∈D,Zs d)(Kr:D.length<=12):(JE w h T D).length<=401:=by have:=Z16 Kq hD Kr;simp[JE];lia
def Z4k(hw:1<=w/\w<=20)(hh:1<=h/\h<=20)(hT:∀t∈T,Z1 t.1 t.2=true)(hD:∀d∈D,Zs d):∀x∈JE w h T D,x.length<=1212:=λx hx=>by
 rcases û.mp hx with rfl|hx
 ·obtain⟨y1,y2,y3⟩:=WI hw hh;exact ZB y1 y3
 ·obtain⟨r,hr,rfl⟩:=ģ.mp hx;obtain⟨y1,y2,y3⟩:=S9<|Z1u hT hD r hr;exact ZB y1 y3
def Z2S(hw:1<=w/\w<=20)(hh:1<=h/\h<=20)(hT:∀t∈T,Z1 t.1 t.2=true)(Kq:T.length<=40)(hD:∀d∈D,Zs d)(Kr:D.length<=12):jt (.str "\n") [.lst<|(JE w h T D).map sV]=some (sV<|qX w h T D):=
 WL c10 (B:=1212) (Z4k hw hh hT hD) (by have:=Z3N (w:=w) (h:=h) Kq hD Kr;have:(JE w h T D).length*(1212+1)<=401*1213:=eI this (by lia);lia)
def pW:Rw->List (PV×List Nat)
 |.th t=>(.str t.1,t.1.cps.toList)::t.2.map λn=>(.int n,nT n)
 |.dy l t=>[(.str "day",wC "day"),(sV l,l),(.int t,nT t)]|.tn none=>[(.str "night",wC "night")]|.tn (some r)=>[(.str "ray",wC "ray"),(.int r.1,nT r.1),(.int r.2.1,nT r.2.1),(.int r.2.2,nT r.2.2)]
theorem Z4l:∀r:Rw,(pW r).map (·.2)=ff r
 |.th t=>by unfold pW ff;rw[à,ķ];rfl|.dy _ _=>rfl|.tn none=>rfl|.tn (some _)=>rfl
def ZX(s:String):jy [.str s]=some (sV<|wC s):=congrArg (λz=>some<|PV.str z) (NJ _).symm
theorem Z3i:∀{r:Rw},S8 r->∀x∈pW r,jy [x.1]=some (sV x.2)
 |.th t,h=>fun x hx=>by
   have h':Z1 t.1 t.2=true:=h;rcases û.mp hx with rfl|hx
   ·exact congrArg (λz=>some<|PV.str z) (NJ _).symm
   ·obtain⟨n,hn,rfl⟩:=ģ.mp hx;exact Zm<|(ZA h').1 n hn
 |.dy l t,⟨h1,h2,h3⟩=>fun x hx=>by
   have:x=(.str "day",wC "day")\/x=(sV l,l)\/x=(.int t,nT t):=by simpa[pW]using hx
   rcases this with rfl|rfl|rfl
   ·exact ZX _
   ·rfl
   ·exact Zm ⟨by lia,by lia⟩
 |.tn none,_=>fun x hx=>by
   have:x=(.str "night",wC "night"):=by simpa[pW]using hx
   subst this;exact ZX _
 |.tn (some r),⟨h1,h2,h3,h4,h5,h6⟩=>fun x hx=>by
   have:x=(.str "ray",wC "ray")\/x=(.int r.1,nT r.1)\/x=(.int r.2.1,nT r.2.1)\/x=(.int r.2.2,nT r.2.2):=by simpa[pW]using hx
   rcases this with rfl|rfl|rfl|rfl
   ·exact ZX _
   ·exact Zm ⟨by lia,by lia⟩
   ·exact Zm ⟨by lia,by lia⟩
   ·exact Zm ⟨by lia,by lia⟩
def ZY{ws:List (PV×List Nat)}(h:∀x∈ws,jy [x.1]=some (sV x.2))(h1:∀x∈ws,Wd x.2)(hl:ws.length<=101):ġ [.sh<|.lst<|ws.map (·.1)]=.ret (.sh<|sV<|Z2<|ws.map (·.2)):=by
 have c:=đ (g:=gN 0) (mt:=ė) (me:=aG jy<|É (Â 0) æ) (λx:PV×List Nat=>x.1) (λx=>sV x.2) (λU=>∃s,U=[s]) ws [.no] [] ⟨_,rfl⟩ (by simp;lia) (by
  rintro x hx U ⟨s,rfl⟩;have e:=h x hx;refine⟨[.sh x.1],_,[.sh x.1],by simp,rfl,?_,_,rfl⟩;simp[e])
 rw[Š]at c;have j:=Z2R (ws:=ws.map (·.2)) (λy hy=>by obtain⟨x,hx,rfl⟩:=ģ.mp hy;exact h1 x hx) (by simpa using hl);rw[ķ]at j;have ec:(sV ∘ λx:PV×List Nat=>x.2)=λx=>sV x.2:=rfl;rw[ec]at j;simp[ġ,lx,á,c,j]
def ZZ(h:S8 r):ġ [.sh<|.lst<|(pW r).map (·.1)]=.ret (.sh<|sV<|Z2<|ff r):=by obtain⟨h1,h2,h3⟩:=S9 h;rw[<-Z4l]at h1 h3⊢;exact ZY (Z3i h) (λx hx=>h1 _<|ģ.mpr ⟨x,hx,rfl⟩) (by simpa using h3)
def qY(t:Th):PV:=.lst (.str t.1::t.2.map .int)
def Z2m(h:Z1 t.1 t.2=true):ġ [.sh<|qY t]=.ret (.sh<|sV<|Z2<|ff<|.th t):=by
 have:=ZZ (r:=.th t) h;have e:(pW<|.th t).map (·.1)=.str t.1::t.2.map .int:=by unfold pW;rw[à,ķ];rfl
 rw[e]at this;exact this
def Z1i{T:List Th}(hT:∀t∈T,Z1 t.1 t.2=true)(hl:T.length<=1000):ī (gN 0) ė (Ý<|Ü ġ<|È 0 Ö) (T.map qY) [.no] []=some (T.map λt=>sV<|Z2<|ff<|.th t):=by
 have:=đ (g:=gN 0) (mt:=ė) (me:=Ý<|Ü ġ<|È 0 Ö) qY (λt=>sV<|Z2<|ff<|.th t) (λU=>∃s,U=[s]) T [.no] [] ⟨_,rfl⟩ (by simp;lia) (by
  rintro t ht U ⟨s,rfl⟩;have e:=Z2m<|hT t ht;refine⟨[.sh<|qY t],_,[.sh<|qY t],by simp,rfl,?_,_,rfl⟩;simp[e])
 simpa using this
def Z3O(ho:Zk o)(hR:R.length<1000)(s0 s1 s2 s3 s5 s6 s7:ť):Ū [s0,s1,s2,s3,.ow R,s5,s6,s7,.sh<|aE o]=.ok .nx [s0,s1,s2,s3,.ow<|R++[sV<|Z2<|ff<|.tn o],s5,s6,s7,.sh<|aE o]:=by
 have k1:R.length<16777216:=by lia
 cases o with
 |none=>have e:sV (Z2<|ff<|.tn none)=.str "night":=congrArg PV.str<|NJ _;rw[e];simp[Ū,aE,pA,k1]|some r=>
  have j:=ZZ (r:=.tn<|some r) ho;have e:(pW<|.tn<|some r).map (·.1)=[.str "ray",.int r.1,.int r.2.1,.int r.2.2]:=rfl;rw[e]at j;have ad:Ă (.lst [.str "ray"]) (.lst [.int r.1,.int r.2.1,.int r.2.2])=some (.ow [.str "ray",.int r.1,.int r.2.1,.int r.2.2]):=by rw[vc<|by simp];rfl
  simp[Ū,aE,c3,pA,k1,j,ad]
theorem Z18(s0 s1 s2 s3 s5 s6 s7:ť):∀(os:List (Option P3)) (R:List PV) (s8:ť),(∀o∈os,Zk o)->R.length+os.length<=1000->∃WM,Ĵ (gN 8) Ū (os.map aE) [s0,s1,s2,s3,.ow R,s5,s6,s7,s8]=.ok .nx [s0,s1,s2,s3,.ow<|R++os.map λo=>sV<|Z2<|ff<|.tn o,s5,s6,s7,WM]
 |[],R,s8,_,_=>⟨s8,by simp[Ĵ]⟩|o::os,R,s8,h,hl=>by rw[ĝ]at hl;have st:=Z3O (h o<|by simp) (R:=R) (by lia) s0 s1 s2 s3 s5 s6 s7;obtain⟨WM,e⟩:=Z18 s0 s1 s2 s3 s5 s6 s7 os (R++[sV<|Z2<|ff<|.tn o]) (.sh<|aE o) (λx hx=>h x<|þ _ hx) (by simp;lia);refine⟨WM,?_⟩;rw[à,Ĵ];show(Ū [s0,s1,s2,s3,.ow R,s5,s6,s7,.sh<|aE o]).bind _=_;rw[st];refine Eq.trans e ?_;simp
theorem Z1v(s0 s1 s2 s3:ť):∀(D:List Dz) (R:List (List Nat)) (a b c d:ť),(∀d∈D,Zs d)->R.length+25*D.length<=1000->∃a' b' c' d',Ĵ (gT 3<|ï (gN 5)<|ï (gN 6)<|ï (gN 7) ř) be ((D.map zV).map jL) [s0,s1,s2,s3,.ow<|R.map sV,a,b,c,d]=.ok .nx [s0,s1,s2,s3,.ow<|(R++D.flatMap Hy).map sV,a',b',c',d']
 |[],R,a,b,c,d,_,_=>⟨a,b,c,d,by simp[Ĵ]⟩|d::D,R,a,b,c,f,hD,hl=>by
  have hd:=hD d (by simp);obtain⟨g1,g2,g3,g4,g5,g6⟩:=id hd;rw[ĝ]at hl;have hz:=Z3M hd;obtain⟨f1,ef⟩:=Z18 s0 s1 s2 s3 (.sh<|sV d.1) (.sh<|.int d.2.1) (.sh<|.lst<|d.2.2.map aE) d.2.2 (R.map sV++[sV<|Z2<|ff<|.dy d.1 d.2.1]) f g6 (by simp;lia);obtain⟨a',b',c',d',e⟩:=Z1v s0 s1 s2 s3 D (R++Hy d) (.sh<|sV d.1) (.sh<|.int d.2.1) (.sh<|.lst<|d.2.2.map aE) f1 (λx hx=>hD x<|þ _ hx) (by rw[Ϲ];lia);refine⟨a',b',c',d',?_⟩;have e2:jL (zV d)=.tup [sV d.1,.int d.2.1,.lst<|d.2.2.map aE]:=rfl;have hg:gT 3 (ï (gN 5)<|ï (gN 6)<|ï (gN 7) ř) (jL<|zV d) [s0,s1,s2,s3,.ow<|R.map sV,a,b,c,f]=some [s0,s1,s2,s3,.ow<|R.map sV,.sh<|sV d.1,.sh<|.int d.2.1,.sh<|.lst<|d.2.2.map aE,f]:=by rw[e2];rfl
  have st:be [s0,s1,s2,s3,.ow<|R.map sV,.sh<|sV d.1,.sh<|.int d.2.1,.sh<|.lst<|d.2.2.map aE,f]=.ok .nx [s0,s1,s2,s3,.ow<|(R++Hy d).map sV,.sh<|sV d.1,.sh<|.int d.2.1,.sh<|.lst<|d.2.2.map aE,f1]:=by
   have j:=ZZ (r:=.dy d.1 d.2.1) ⟨g1,g2,g3⟩;have ep:(pW<|.dy d.1 d.2.1).map (·.1)=[.str "day",sV d.1,.int d.2.1]:=rfl;rw[ep]at j;have er:(R++Hy d).map sV=R.map sV++[sV<|Z2<|ff<|.dy d.1 d.2.1]++d.2.2.map (λo=>sV<|Z2<|ff<|.tn o):=by unfold Hy;rw[Ŕ,à,ķ];simp[wU]
   have k1:(R.map sV).length<16777216:=by simp;lia
   rw[er];generalize R.map sV=RR,d.2.2.map aE=TT,(d.2.2.map λo=>sV<|Z2<|ff<|.tn o)=OO,sV (Z2<|ff<|.dy d.1 d.2.1)=DD,sV d.1=N at*;rw[<-ef];simp[be,j,k1]
  rw[à,à,Ĵ,hg];dsimp only;rw[st];refine Eq.trans e ?_;rw[ou,lR]
def Z3P(hw:1<=w/\w<=20)(hh:1<=h/\h<=20)(hT:∀t∈T,Z1 t.1 t.2=true)(Kq:T.length<=40)(hD:∀d∈D,Zs d)(Kr:D.length<=12):bN [.sh<|.int w,.sh<|.int h,.bw<|T.map qY,.sh<|.lst<|(D.map zV).map jL]=.ret (.sh<|sV<|qX w h T D):=by
 obtain⟨y1,y2,y3⟩:=WI hw hh;have j0:=ZY (ws:=[(.str "yard",wC "yard"),(.int w,nT w),(.int h,nT h)]) (λx hx=>by
  have:x=(.str "yard",wC "yard")\/x=(.int w,nT w)\/x=(.int h,nT h):=by simpa using hx
  rcases this with rfl|rfl|rfl
  ·exact ZX _
  ·exact Zm ⟨by lia,by lia⟩
  ·exact Zm ⟨by lia,by lia⟩) (λx hx=>y1 _ (by
  have:x=(.str "yard",wC "yard")\/x=(.int w,nT w)\/x=(.int h,nT h):=by simpa using hx
  rcases this with rfl|rfl|rfl<;>simp[yT])) (by simp)
 change ġ [.sh<|.lst [.str "yard",.int w,.int h]]=.ret (.sh<|sV<|Z2<|yT w h)at j0;have c1:=Z1i hT (by lia);obtain⟨a',b',c',d',lp⟩:=Z1v (.sh<|.int w) (.sh<|.int h) (.bw<|T.map qY) (.sh<|.lst<|(D.map zV).map jL) D (Z2 (yT w h)::T.map (λt=>Z2<|ff<|.th t)) .no .no .no .no hD (by simp;lia);have jn:=Z2S hw hh hT Kq hD Kr;rw[Z4j]at jn;rw[eE]at lp;have er:(Z2 (yT w h)::T.map (λt=>Z2<|ff<|.th t)).map sV=sV (Z2<|yT w h)::T.map λt=>sV (Z2<|ff<|.th t):=by rw[à,ķ];rfl
 rw[er]at lp;have ad:Ă (.lst [sV<|Z2<|yT w h]) (.lst<|T.map λt=>sV<|Z2<|ff<|.th t)=some (.ow (sV (Z2<|yT w h)::T.map λt=>sV<|Z2<|ff<|.th t)):=by rw[vc (by simp;lia)];rfl
 generalize T.map qY=TH,(D.map zV).map jL=DY,(T.map λt=>sV<|Z2<|ff<|.th t)=TS,sV (Z2<|yT w h)=Z,(Z2 (yT w h)::(T.map (λt=>Z2<|ff<|.th t)++D.flatMap Hy)).map sV=LL,sV (qX w h T D)=TX at*;simp[bN,iH,á,j0,c1,ad,lp,jn]
@[simp]theorem Z53{x:Int}{n:Nat}(h:n≠0)(h2:n<1073741824):Dj x (no_index (Ż n):Int)=true:=by unfold Dj;have:(no_index (Ż n):Int)=(n:Int):=rfl;rw[this];simp;lia
def WN:vU (.int 10) (.int 9)=some (.int 1000000000):=rfl
def G9(x:Int):Prop:=0<=x/\x<1000000000
theorem Z19(s0 s1 s5 s7 s8:ť):∀(ks:List Nat) (acc:List Int) (n:Int) (s4 s6:ť),acc.length+ks.length<=100->(∀x∈acc,G9 x)->∃(og:List Int) (n':Int) (a b:ť),Ĵ (gN 4) bB (ks.map λ(i:Nat)=>PV.int (i:Int)) [s0,s1,.ow<|acc.map .int,.sh<|.int n,s4,s5,s6,s7,s8]=.ok .nx [s0,s1,.ow<|og.map .int,.sh<|.int n',a,s5,b,s7,s8]/\og.length=acc.length+ks.length/\∀x∈og,G9 x
 |[],acc,n,s4,s6,_,h=>⟨acc,n,s4,s6,rfl,rfl,h⟩|k::ks,acc,n,s4,s6,hl,h=>by
  rw[ĝ]at hl;obtain⟨og,n',a,b,e,e2,e3⟩:=Z19 s0 s1 s5 s7 s8 ks (acc++[n%1000000000]) (n/1000000000) (.sh<|.int k) (.sh<|.int<|n%1000000000) (by simp;lia) (by
   intro x hx;rcases ź.mp hx with hx|hx
   ·exact h x hx
   ·rw[cu.mp hx];unfold G9;lia)
  refine⟨og,n',a,b,?_,by rw[e2];simp;lia,e3⟩;have k1:acc.length<16777216:=by lia
  have hd:iF [.int n,.int 1000000000]=some (.tup [.int<|n/1000000000,.int<|n%1000000000]):=by simp[iF]
  have st:bB [s0,s1,.ow<|acc.map .int,.sh<|.int n,.sh<|.int k,s5,s6,s7,s8]=.ok .nx [s0,s1,.ow<|(acc++[n%1000000000]).map .int,.sh<|.int<|n/1000000000,.sh<|.int k,s5,.sh<|.int<|n%1000000000,s7,s8]:=by simp[bB,WN,hd,k1,-Do]
  rw[à,Ĵ];show(bB [s0,s1,.ow<|acc.map .int,.sh<|.int n,.sh<|.int k,s5,s6,s7,s8]).bind _=_;rw[st];exact e
def Rs(x:Int):Prop:=0<=x/\x<998244353
def Z4V:Ϥ [.int 2]=some [.int 0,.int 1]:=by rfl
def Z1a(s0 s1 s4 s6 s7 s8 k:ť){acc:List Int}(hl:acc.length<=100)(hr:Rs r):∃(r':Int) (a b:ť),Ź [s0,s1,.ow<|acc.map .int,.sh<|.int r,s4,k,s6,s7,s8]=.ok .nx [s0,s1,.ow<|acc.map .int,.sh<|.int r',s4,k,s6,a,b]/\Rs r':=by
 have hd:iF [.int r,.int 4099]=some (.tup [.int<|r/4099,.int<|r%4099]):=by simp[iF]
 obtain⟨h,hh⟩:∃h,r/4099=h:=⟨_,rfl⟩;obtain⟨l,Rf⟩:∃l,r%4099=l:=⟨_,rfl⟩;unfold Rs at hr;have b1:0<=h/\h<18446744073709551616:=by lia
 have b2:0<=l/\l<18446744073709551616:=by lia
 rw[hh,Rf]at hd;obtain⟨S,hS⟩:∃S,l*240007+h*89+1201*(acc.length:Int)+11=S:=⟨_,rfl⟩;refine⟨S%998244353,.sh<|.int h,.sh<|.int l,?_,by unfold Rs;lia⟩;have m1:ľ l 240007=true:=ό (by lia) (by lia);have m2:ľ h 89=true:=ό (by lia) (by lia);have m3:ľ 1201 (acc.length:Int)=true:=ό (by lia) (by lia);simp[Ź,hd,hS]
theorem WO(s0 s4 s6:ť)(hn:n<=100):∀(f:Nat) (acc:List Int) (r:Int) (s5 s7 s8:ť),acc.length+f=n->(∀x∈acc,G9 x)->Rs r->∃(og:List Int) (r':Int) (a b c:ť),bA [s0,.sh<|.int n,.ow<|acc.map .int,.sh<|.int r,s4,s5,s6,s7,s8]=.ok .nx [s0,.sh<|.int n,.ow<|og.map .int,.sh<|.int r',s4,a,s6,b,c]/\og.length=n/\∀x∈og,G9 x
 |0,acc,r,s5,s7,s8,hl,h,hr=>by
  refine⟨acc,r,s5,s7,s8,?_,by lia,h⟩;unfold bA;have hm:¬((acc.length:Int)<(n:Int)):=by lia
  rw[cQ];simp[hm]
 |f+1,acc,r,s5,s7,s8,hl,h,hr=>by
  obtain⟨r1,a1,b1,e1,hr1⟩:=Z1a s0 (.sh<|.int n) s4 s6 s7 s8 (.sh<|.int 0) (acc:=acc) (by lia) hr;obtain⟨r2,a2,b2,e2,Tt⟩:=Z1a s0 (.sh<|.int n) s4 s6 a1 b1 (.sh<|.int 1) (acc:=acc) (by lia) hr1;obtain⟨og,r',a,b,c,e,q1,q2⟩:=WO s0 s4 s6 hn f (acc++[r2/5]) r2 (.sh<|.int 1) a2 b2 (by simp;lia) (by
   intro x hx;rcases ź.mp hx with hx|hx
   ·exact h x hx
   ·rw[cu.mp hx];unfold G9;unfold Rs at Tt;lia) Tt
  refine⟨og,r',a,b,c,?_,q1,q2⟩;have hm:((acc.length:Int)<(n:Int)):=by lia
  have k1:acc.length<16777216:=by lia
  have fr:Ĵ (gN 5) Ź [.int 0,.int 1] [s0,.sh<|.int n,.ow<|acc.map .int,.sh<|.int r,s4,s5,s6,s7,s8]=.ok .nx [s0,.sh<|.int n,.ow<|acc.map .int,.sh<|.int r2,s4,.sh<|.int 1,s6,a2,b2]:=by rw[Ĵ];show(Ź [s0,.sh<|.int n,.ow<|acc.map .int,.sh<|.int r,s4,.sh<|.int 0,s6,s7,s8]).bind _=_;rw[e1];show Ĵ (gN 5) Ź [.int 1] _=_;rw[Ĵ];show(Ź [s0,.sh<|.int n,.ow<|acc.map .int,.sh<|.int r1,s4,.sh<|.int 1,s6,a1,b1]).bind _=_;rw[e2];rfl
  rw[<-e];unfold bA;rw[cQ];simp[hm,Z4V,fr,k1]
def Z0q(c:Int){n:Nat}(hn:n<=100):∃xs:List Int,Ŵ [.sh<|.int c,.sh<|.int n]=.ret (.ow<|xs.map .int)/\xs.length=n/\∀x∈xs,G9 x:=by
 by_cases hc:c%2=0
 ·obtain⟨acc,r,a,b,e,q1,q2⟩:=Z19 (.sh<|.int c) (.sh<|.int n) .no .no .no (Ô n) [] (c/2) .no .no (by simp;lia) (by simp);have rg:=Zb (n:=n) (by lia);rw[Ů]at e;have m1:ľ (n:Int) 1=true:=ό (by lia) (by lia);have q1':acc.length=n:=by simpa using q1
  refine⟨acc,?_,q1',q2⟩;obtain⟨og,r',a2,b2,c2,e2,q3,q4⟩:=WO (.sh<|.int c) a b hn 0 acc (r%998244341+5) .no .no .no (by lia) q2 (by unfold Rs;lia);have:og=acc:=by
   unfold bA at e2;rw[cQ]at e2;have hm:¬((acc.length:Int)<(n:Int)):=by lia
   simp[hm]at e2;have:=e2.1;exact((List.map_inj_right<|λy y h=>by injection h).mp this).symm
  subst this;simp[Ŵ,gP,á,hc,rg,e,e2]
 ·have XE:c%2=1:=by lia
  obtain⟨og,r',a2,b2,c2,e2,q3,q4⟩:=WO (.sh<|.int c) .no .no hn n [] ((c/2)%998244341+5) .no .no .no (by simp) (by simp) (by unfold Rs;lia);rw[Ů]at e2;have m1:ľ (n:Int) 0=true:=ό (by lia) (by lia);have rg:Ϥ [.int 0]=some []:=by rfl
  refine⟨og,?_,q3,q4⟩;simp[Ŵ,gP,á,XE,rg,Ĵ,e2]
theorem Z4N:∀xs:List Int,xs.length=11->∃a b c d e f g h i j k,xs=[a,b,c,d,e,f,g,h,i,j,k]
 |[a,b,c,d,e,f,g,h,i,j,k],_=>⟨a,b,c,d,e,f,g,h,i,j,k,rfl⟩
def AM(h:decide (Ì a=Ì b)=false):¬(Ì a=Ì b):=of_decide_eq_false h
def sm(x:Int):Prop:=-100<=x/\x<=100
def Pl(x:Int):Prop:=-1000000000<=x/\x<=1000000000
def Z4O(a:Pl x)(b:Pl y)(c:1<=h/\h<=1000000000):Z1 "post" [x,y,h]=true:=by unfold Pl at a b;unfold Z1 Zn qe EO;simp;lia
def Z4m(a:sm x)(b:sm y)(a':sm u)(b':sm v)(hn:¬(x=u/\y=v))(c:1<=h/\h<=1000000000):Z1 "fence" [x,y,u,v,h]=true:=by have h1:¬(Ì "fence"=Ì "post"):=AM (by decide+kernel);unfold sm at a b a' b';unfold Z1;rw[if_neg h1,if_pos rfl];unfold Zg Zo qe EO;simp;omega
def Z4W{w:Str}(hw:w="sail" \/w="house")(a:sm x)(b:sm y)(a':sm u)(b':sm v)(h1:x<u)(h2:y<v)(c:1<=h/\h<=1000000000):Z1 w [x,y,u,v,h]=true:=by
 have hb:Zi [x,y,u,v,h]=true:=by unfold sm at a b a' b';unfold Zi Zo qe EO;simp;omega
 unfold Z1;rcases hw with rfl|rfl
 ·rw[if_neg (AM<|by decide+kernel),if_neg (AM<|by decide+kernel),if_pos rfl];exact hb
 ·rw[if_neg (AM<|by decide+kernel),if_neg (AM<|by decide+kernel),if_neg (AM<|by decide+kernel),if_neg (AM<|by decide+kernel),if_pos rfl];exact hb
def Z4n(h1:Pl x)(h2:Pl y)(h3:0<=z/\z<=1000000000)(h4:Pl a)(h5:Pl b)(h6:0<=c/\c<=1000000000)(h7:Pl d)(h8:Pl e)(h9:0<=f/\f<=1000000000):Z1 "cloth" [x,y,z,a,b,c,d,e,f]=true:=by unfold Z1;rw[if_neg (AM<|by decide+kernel),if_neg (AM<|by decide+kernel),if_neg (AM<|by decide+kernel),if_pos rfl];unfold Pl at*;unfold Zh qe JB;simp;omega
def Tb(t:Th):Prop:=(∃x y h,t=(Ì "post",[x,y,h])/\sm x/\sm y/\(1<=h/\h<=1000000000))\/(∃x y z a b c d e f,t=(Ì "cloth",[x,y,z,a,b,c,d,e,f])/\sm x/\sm y/\(0<=z/\z<=100)/\sm a/\sm b/\(0<=c/\c<=100)/\sm d/\sm e/\(0<=f/\f<=100))\/(¬t.1=Ì "post"/\ ¬t.1=Ì "cloth"/\Z1 t.1 t.2=true)
def fm(a:Int)(h:0<b):∃X,a.fmod b=X/\0<=X/\X<b:=⟨_,rfl,by rw[wW _<|by lia];exact⟨Int.emod_nonneg a (by lia),Int.emod_lt_of_pos a h⟩⟩
def Z4o(c:Int)(hw:1<=w/\w<=20)(hh:1<=h/\h<=20):∃x0 x1 x2 x3 x4 x5 x6 x7 x8 x9 Nl X Y H:Int,Ŭ [.sh<|.int c,.sh<|.int w,.sh<|.int h]=FR.of (V5 [.sh<|.int c,.sh<|.int w,.sh<|.int h,.ow [.int x0,.int x1,.int x2,.int x3,.int x4,.int x5,.int x6,.int x7,.int x8,.int x9,.int Nl],.sh<|.int<|X-4,.sh<|.int<|Y-4,.sh<|.int<|X-4+1+x3%5,.sh<|.int<|Y-4+1+x4%5,.sh<|.int H,.no,.no])/\(0<=X/\X<2*w+7)/\(0<=Y/\Y<2*h+7)/\1<=H/\H<=1000000000:=by
 obtain⟨xs,eg,hl,-⟩:=Z0q c (n:=11) (by lia);obtain⟨x0,x1,x2,x3,x4,x5,x6,x7,x8,x9,Nl,rfl⟩:=Z4N xs hl;change Ŵ [.sh<|.int c,.sh<|.int 11]=.ret (.ow [.int x0,.int x1,.int x2,.int x3,.int x4,.int x5,.int x6,.int x7,.int x8,.int x9,.int Nl])at eg;have mw:ľ 2 w=true:=ό (by lia) (by lia);have mh:ľ 2 h=true:=ό (by lia) (by lia);have n1:¬(2*w+7=0):=by lia
 have n2:¬(2*h+7=0):=by lia
 obtain⟨X,f1,bX⟩:=fm x1 (show 0<2*w+7 by lia);obtain⟨Y,f2,bY⟩:=fm x2 (show 0<2*h+7 by lia);have st:Ŭ [.sh<|.int c,.sh<|.int w,.sh<|.int h]=FR.of ((å _<|å _<|å _<|å _<|å _<|å _<|å _ V5) [.sh<|.int c,.sh<|.int w,.sh<|.int h,.no,.no,.no,.no,.no,.no,.no,.no]):=rfl;refine⟨x0,x1,x2,x3,x4,x5,x6,x7,x8,x9,Nl,X,Y,if x6%8=5then 1000000000-x5%1000 else 1+x5%8,?_,bX,bY,by split<;>lia⟩;rw[st];by_cases hb:x6%8=5<;>simp -implicitDefEqProofs [eg,n1,n2,f1,f2,hb,WN,-Do]
abbrev tsM(i:Int)(A B:M Fl):M Fl:=å (aZ (Ϻ<|Ë Œ (Ë ħ (Ë ã (Â 3)<|Æ 0)<|Æ 5)<|mC<|.int i) A bZ) B
def Hz{U:Ĉ}{x i:Int}{xs:List PV}{A B:M Fl}{r:FR}(hk:¬x%5=i)(hB:FR.of (B U)=r)(h:U[3]?=some (.ow (.int x::xs)):=by rfl):FR.of (tsM i A B U)=r:=by rw[<-hB];simp[h,hk]
def Tc{U:Ĉ}{x i:Int}{xs:List PV}{A B:M Fl}{r:FR}(hk:x%5=i)(hB:FR.of (å A B U)=r)(h:U[3]?=some (.ow (.int x::xs)):=by rfl):FR.of (tsM i A B U)=r:=by rw[<-hB];simp[h,hk]
def Z3j(c:Int)(hw:1<=w/\w<=20)(hh:1<=h/\h<=20):∃t:Th,Ŭ [.sh<|.int c,.sh<|.int w,.sh<|.int h]=.ret (.ow (.str t.1::t.2.map .int))/\Tb t:=by
 obtain⟨x0,x1,x2,x3,x4,x5,x6,x7,x8,x9,Nl,X,Y,H,pre,bX,bY,bH⟩:=Z4o c hw hh;rw[pre];clear pre;have s1:sm (X-4):=⟨by lia,by lia⟩;have s2:sm (Y-4):=⟨by lia,by lia⟩;have s3:sm (X-4+1+x3%5):=⟨by lia,by lia⟩;have s4:sm (Y-4+1+x4%5):=⟨by lia,by lia⟩;by_cases k0:x0%5=0
 ·obtain⟨PX,f3,p3⟩:=fm x1 (show 0<w+2 by lia);obtain⟨PY,f4,p4⟩:=fm x2 (show 0<h+2 by lia);have n3:¬(w+2=0):=by lia
  have n4:¬(h+2=0):=by lia
  exact⟨(Ì "post",[PX-1,PY-1,H]),Tc k0 (by simp[n3,n4,f3,f4]),.inl ⟨PX-1,PY-1,H,rfl,⟨by lia,by lia⟩,⟨by lia,by lia⟩,bH⟩⟩
 by_cases k1:x0%5=1
 ·obtain⟨q,hq⟩:∃q,x7%4=q:=⟨_,rfl⟩;have fe:∀u v:Int,sm u->sm v->¬(X-4=u/\Y-4=v)->Tb (Ì "fence",[X-4,Y-4,u,v,H]):=λu v a b n=>.inr (.inr ⟨AM (by decide+kernel),AM (by decide+kernel),Z4m s1 s2 a b n bH⟩);obtain⟨u,v,hi,hf⟩:∃u v:Int,ã (.lst [.tup [.int<|X-4+1+x3%5,.int<|Y-4],.tup [.int<|X-4+1+x3%5,.int<|Y-4+1+x4%5],.tup [.int<|X-4,.int<|Y-4+1+x4%5],.tup [.int<|X-4-2,.int<|Y-4+1+x4%5]]) (.int q)=some (.tup [.int u,.int v])/\Tb (Ì "fence",[X-4,Y-4,u,v,H]):=by
   have hq4:q=0\/q=1\/q=2\/q=3:=by lia
   rcases hq4 with rfl|rfl|rfl|rfl
   ·exact⟨_,_,rfl,fe _ _ s3 s2<|by lia⟩
   ·exact⟨_,_,rfl,fe _ _ s3 s4<|by lia⟩
   ·exact⟨_,_,rfl,fe _ _ s1 s4<|by lia⟩
   ·exact⟨_,_,rfl,fe (X-4-2) _ ⟨by lia,by lia⟩ s4<|by lia⟩
  exact⟨(_,[_,_,_,_,_]),Hz k0 (Tc k1<|by simp[hq,hi]),hf⟩
 have bx:∀s:Str,(s="sail" \/s="house")->Z1 s [X-4,Y-4,X-4+1+x3%5,Y-4+1+x4%5,H]=true:=λs hs=>Z4W hs s1 s2 s3 s4 (by lia) (by lia) bH;by_cases k2:x0%5=2
 ·exact⟨(Ì "sail",[_,_,_,_,_]),Hz k0 (Hz k1<|Tc k2<|by simp),.inr<|.inr ⟨AM (by decide+kernel),AM (by decide+kernel),bx (Ì "sail")<|.inl rfl⟩⟩
 by_cases k3:x0%5=3
 ·exact⟨(Ì "house",[_,_,_,_,_]),Hz k0 (Hz k1<|Hz k2<|Tc k3<|by simp),.inr<|.inr ⟨AM (by decide+kernel),AM (by decide+kernel),bx (Ì "house")<|.inr rfl⟩⟩
 have k4:x0%5=4:=by lia
 have ms:ľ (Nl%7) (x6%2)=true:=ό (by lia) (by lia);obtain⟨C,hC,hCb⟩:∃C:Int,Nl%7*(x6%2)=C/\(0<=C/\C<=100):=by
  refine⟨_,rfl,?_⟩;have:x6%2=0\/x6%2=1:=by lia
  rcases this with h|h<;>rw[h]<;>lia
 exact⟨(Ì "cloth",[X-4,Y-4,x5%7,X-4+1+x3%5,Y-4-2+x7%5,x8%7,X-4-3+x9%7,Y-4+1+x4%5,C]),Hz k0 (Hz k1<|Hz k2<|Hz k3<|by simp[ms,hC]),.inr<|.inl ⟨_,_,_,_,_,_,_,_,_,rfl,s1,s2,⟨by lia,by lia⟩,s3,⟨by lia,by lia⟩,⟨by lia,by lia⟩,⟨by lia,by lia⟩,s4,hCb⟩⟩
def slI(xs:List Int)(lo hi:Option Int):∃ys:List Int,fC (xs.map PV.int) lo hi=ys.map PV.int/\ys.length<=xs.length:=by refine⟨(xs.drop<|HT.mN xs.length 0 lo).take (HT.mN xs.length xs.length hi-HT.mN xs.length 0 lo),?_,by simp;lia⟩;unfold fC;rw[Ğ,List.map_take,List.map_drop]
def ZC(ns:List Int)(k:Int):∃v:Int,ņ [.sh<|.lst<|ns.map .int,.sh<|.int k]=.ret (.sh<|.int v)/\0<=v:=by
 obtain⟨ys,e,_⟩:=slI ns (some k)<|some<|k+1;cases ys with
 |nil=>exact⟨0,by simp[ņ,ku,e,Ĵ],by lia⟩|cons y ys=>exact⟨_,by simp[ņ,ku,e,Ĵ,pP];rfl,by lia⟩
theorem Z4X:∀(xs:List Int),xs.length=4->∃a b c d,xs=[a,b,c,d]
 |[a,b,c,d],_=>⟨a,b,c,d,rfl⟩
def Z2T(c:Int):∃o:Option P3,ϡ [.sh<|.int c]=.ret (.sh<|aE o)/\Zk o:=by
 obtain⟨xs,eg,hl,hx⟩:=Z0q c (n:=4) (by lia);obtain⟨a,b,d,e,rfl⟩:=Z4X xs hl;clear hl hx;have WP:Ŵ [.sh<|.int c,.sh<|.int 4]=.ret (.ow [.int a,.int b,.int d,.int e]):=eg;clear eg;by_cases h4:e%6=4
 ·exact⟨none,by simp[ϡ,dQ,WP,h4,aE],trivial⟩
 ·by_cases h5:e%6=5
  ·exact⟨some (a%2000001-1000000,b%2000001-1000000,1+d%1000000),by simp[ϡ,dQ,WP,h5,aE,c3],by unfold Zk QD;dsimp only;lia⟩
  ·exact⟨some (a%7-3,b%7-3,1+d%3),by simp[ϡ,dQ,WP,h4,h5,aE,c3],by unfold Zk QD;dsimp only;lia⟩
def QE(s:String):PV.str (Ì s)=sV (wC s):=congrArg PV.str (NJ _).symm
def sg(b:Bool):Nat:=if b then 35 else 46
def Z4Y:PV.str (Ì "#")=sV [35]:=by rw[QE];congr 1
def Z4Z:PV.str (Ì ".")=sV [46]:=by rw[QE];congr 1
def Z2U{n A:Nat}(hn:n<=1000):ī (gN 1) ė (aZ (bL<|Ë ei (Ë ll (Â 0)<|Â 1)<|Æ 1) (mC<|.str "#")<|mC<|.str ".") ((Ô n).map λ(i:Nat)=>PV.int (i:Int)) [.sh<|.int A,.no] []=some ((Ô n).map λk=>sV [sg<|A.testBit k]):=by
 have hc:=đ (g:=gN 1) (mt:=ė) (me:=aZ (bL<|Ë ei (Ë ll (Â 0)<|Â 1)<|Æ 1) (mC<|.str "#")<|mC<|.str ".") (λ(i:Nat)=>PV.int (i:Int)) (λk=>sV [sg<|A.testBit k]) (λU=>∃a,U=[.sh<|.int A,a]) (Ô n) [.sh<|.int A,.no] [] ⟨_,rfl⟩ (by simp;lia) (by
  rintro k hk U ⟨a,rfl⟩;have sb:=Z1q A k;have so:uj (A:Int) (k:Int)=true:=by unfold uj;simp
  refine⟨[.sh<|.int A,.sh<|.int k],_,[.sh<|.int A,.sh<|.int k],rfl,rfl,?_,_,rfl⟩;have e1:=Z4Y;have e2:=Z4Z;cases hd:A.testBit k<;>rw[hd]at sb<;>simp at sb<;>simp[so,sb,sg,e1,e2])
 simpa using hc
def Zx(w:Nat)(p:Nat->Bool)(q:Nat):List Nat:=(Ô w).map λx=>sg<|p<|q*w+x
def qH(w h:Nat)(p:Nat->Bool):List (List Nat):=(Ô h).map λq=>Zx w p q
def Z4p{α:Type}(xs:List α)(hb:b<=xs.length)(ha:a<=b):fC xs (some (a:Int)) (some (b:Int))=(xs.drop a).take (b-a):=by unfold fC;rw[HT.yx,HT.yx,xx hb,xx<|by lia]
def Z3Q{α:Type}(f:Nat->α)(hq:q<h):fC ((Ô<|w*h).map f) (some ((q*w:Nat):Int)) (some ((q*w+w:Nat):Int))=(Ô w).map λx=>f (q*w+x):=by
 have hl:q*w+w<=w*h:=by have:=Nat.mul_le_mul_right w (show q+1<=h from hq);rw[sf,xt,xu h w]at this;exact this
 rw[Z4p _ (by simp;exact hl)<|by lia];apply List.ext_getElem
 ·simp;lia
 ·intro n h1 h2;simp
theorem Z2n:∀xs:List Nat,Ŝ [] (xs.map λx=>[x])=xs
 |[]=>rfl|[x]=>rfl|x::y::r=>by have:=Z2n (y::r);rw[à]at this;rw[à,à];show[x]++[]++Ŝ [] ([y]::r.map λx=>[x])=_;rw[this];rfl
def Z2V(hl:xs.length<=1000):jt (.str "") [.lst<|xs.map λx=>sV [x]]=some (sV xs):=by
 have e:(xs.map λx=>sV [x])=(xs.map λx=>[x]).map sV:=by rw[ķ];rfl
 rw[e];show((lO<|(xs.map λx=>[x]).map sV).bind λys=>if(ys.map cq).sum+ys.length*(Ì "").length<=16777216then some (PV.str<|S<|Ŝ (Ì "").cps.toList ys)else none)=_;rw[WJ];have h1:=WK (xs.map λx=>[x]) 1 (λy hy=>by obtain⟨x,_,rfl⟩:=ģ.mp hy;simp);have h2:(Ì "").length=0:=rfl;have h3:(Ì "").cps.toList=[]:=rfl;show(if((xs.map λx=>[x]).map cq).sum+(xs.map λx=>[x]).length*(Ì "").length<=16777216then some (PV.str<|S<|Ŝ (Ì "").cps.toList (xs.map λx=>[x]))else none)=_;rw[Ğ]at h1;rw[h2,h3,Z2n,if_pos<|by lia];rfl
def c47:Ì "/"=S [47]:=by decide+kernel
def ZR(w:Nat)(p:Nat->Bool)(q:Nat):(Zx w p q).length=w:=by unfold Zx;simp
def Z2o{w h A:Nat}(hw:w<=60)(hh:w*h<=1000)(h2:h<=1000):ī (gN 2) ė (IU jt (mC<|.str "")<|É (Ý<|tu (Â 0) (mP<|Ë ď (Â 2)<|Â 1)<|mP<|Ý<|ċ Ă (Ë ď (Â 2)<|Â 1)<|Â 1) æ) ((Ô h).map λ(i:Nat)=>PV.int (i:Int)) [.bw<|(Ô<|w*h).map λk=>sV [sg<|A.testBit k],.sh<|.int w,.no] []=some ((qH w h A.testBit).map sV):=by
 have hc:=đ (g:=gN 2) (mt:=ė) (me:=IU jt (mC<|.str "")<|É (Ý<|tu (Â 0) (mP<|Ë ď (Â 2)<|Â 1)<|mP<|Ý<|ċ Ă (Ë ď (Â 2)<|Â 1)<|Â 1) æ) (λ(i:Nat)=>PV.int (i:Int)) (λq=>sV<|Zx w A.testBit q) (λU=>∃a,U=[.bw<|(Ô<|w*h).map λk=>sV [sg<|A.testBit k],.sh<|.int w,a]) (Ô h) [.bw<|(Ô<|w*h).map λk=>sV [sg<|A.testBit k],.sh<|.int w,.no] [] ⟨_,rfl⟩ (by simp;lia) (by
  rintro q hq U ⟨a,rfl⟩;have hq:=ϑ.mp hq;have ct:=Z3Q (λk=>sV [sg<|A.testBit k]) (w:=w) hq;have j:=Z2V (xs:=Zx w A.testBit q) (by rw[ZR];lia);have e:((Zx w A.testBit q).map λx=>sV [x])=(Ô w).map λx=>sV [sg<|A.testBit<|q*w+x]:=by unfold Zx;rw[ķ];rfl
  rw[e]at j;have m1:ľ (q:Int) (w:Int)=true:=ό (by lia) (by lia);have c1:((q*w:Nat):Int)=(q:Int)*(w:Int):=wZ q w;have c2:((q*w+w:Nat):Int)=(q:Int)*(w:Int)+(w:Int):=by rw[Int.natCast_add,c1]
  rw[c1,c2]at ct;refine⟨_,_,[.bw<|(Ô<|w*h).map λk=>sV [sg<|A.testBit k],.sh<|.int w,.sh<|.int q],rfl,rfl,?_,_,rfl⟩;simp[m1,ct,j])
 have e:(qH w h A.testBit).map sV=(Ô h).map λq=>sV (Zx w A.testBit q):=by unfold qH;rw[ķ];rfl
 rw[e];simpa using hc
def Z2W(hw:w<=60)(hh:h<=1000)(p:Nat->Bool):jt (.str "/") [.lst<|(qH w h p).map sV]=some (sV<|Ŝ [47] (qH w h p)):=WL c47 (B:=60) (λx hx=>by
 obtain⟨q,_,rfl⟩:=ģ.mp hx;rw[ZR];exact hw) (by
 have:(qH w h p).length*61<=1000*61:=eI (by unfold qH;simp;exact hh) (by lia);lia)
def Z2X{w h:Nat}{i j:Nat}(hi:i<D.length)(hj:j<D[i].2.2.length)(hl:D[i].2.2.length<=1000):ϻ [.sh<|Z0 w h T D,.sh<|.int i,.sh<|.int j]=.ret (.sh .non):=by
 have yd:=NE w h T D;have tv:=Zz (w:=w) (h:=h) (T:=T) hi;have Ho:(D.map jL).length=D.length:=by simp
 have a1:(i:Int)<((D.map jL).length:Int):=by lia
 have DW:(D[i].2.2.map aE).length=D[i].2.2.length:=by simp
 have a2:(j:Int)<((D[i].2.2.map aE).length:Int):=by lia
 have a3:(D[i].2.2.map aE).length<=16777216:=by lia
 generalize Z0 w h T D=Yv,D.map jL=DV,D[i].2.2.map aE=TV at*;have hs:cR [.sh Yv,.sh<|.int i]=.ret (.sh<|.bl true):=by simp[cR,gE,yd];lia
 simp[ϻ,ja,hs,tv,a2]
def Z2Y(Y:Hw w h T){i j:Nat}(hi:i<D.length)(hj:j<D[i].2.2.length)(hl:D[i].2.2.length<=1000)(ho:JD D[i].2.2[j]):ck [.sh<|Z0 w h T D,.sh<|.lst [.int i,.int j]]=.ret (.sh<|sV<|Ŝ [47] (qH w h (vz w h T D[i].2.2[j]).testBit)):=by
 have yw:=Qx w h T D;have yh:=Qy w h T D;have ct:=Z2X (w:=w) (h:=h) (T:=T) hi hj hl;have tv:=Zz (w:=w) (h:=h) (T:=T) hi;have dk:=Z3x Y.w0 Y.w1 Y.h1 Y.wh Y.tl D Y.tg ho;have hx:(D[i].2.2.map aE)[j]?=some (aE D[i].2.2[j]):=by simp[hj]
 generalize vz w h T D[i].2.2[j]=A at*;have s1:=Z2U (n:=w*h) (A:=A) Y.wh;have s2:=Z2o (A:=A) Y.w1 Y.wh Y.h1;have s3:=Z2W Y.w1 Y.h1 A.testBit;have r1:=Zb (n:=w*h) (by have:=Y.wh;lia);have r2:=Zb (n:=h) (by have:=Y.h1;lia);have m1:ľ (w:Int) (h:Int)=true:=ό (by have:=Y.w1;lia) (by have:=Y.w1;lia);have c1:((w*h:Nat):Int)=(w:Int)*(h:Int):=wZ w h;rw[c1]at r1;have k1:((D[i].2.2.map aE).length:Int)=D[i].2.2.length:=by simp
 have k2:(j:Int)<((D[i].2.2.map aE).length:Int):=by lia
 simp[ck,lJ,á,ct,tv,hx,dk,yw,yh,m1,r1,r2,iY,s1,s2,s3]
def WQ{j:Nat}(h:j<=100000):Nb (j:Int):=⟨by lia,by lia⟩
def QF{α:Type}{P:α->Prop}{a:α}{l:List α}(h:P a)(t:∀x∈l,P x):∀x∈a::l,P x:=λx hx=>by
 rcases û.mp hx with rfl|hx
 ·exact h
 ·exact t x hx
def al0{α:Type}{P:α->Prop}:∀x∈([]:List α),P x:=λx hx=>by cases hx
def Z3k{W:List PV}{ns:List Int}(hk:k<=W.length)(hW:W.drop k=ns.map ah)(hn:∀n∈ns,Nb n)(hl:ns.length<=1000):Ň [.bw W,.sh<|.int k]=.ret (.ow<|ns.map .int):=by have c:=SY W k hk;rw[hW]at c;have e:=Z1s hn hl (sl:=.sh<|.lst<|ns.map ah)<|.inl rfl;simp[Ň,iP,c,e,pA]
def Z2p{w h:Nat}{i:Nat}(hi:i<D.length):nh [.sh<|Z0 w h T D,.sh<|.int i]=.ret (.sh<|.str D[i].1):=by
 have yd:=NE w h T D;have hx:(D.map jL)[i]?=some (jL D[i]):=by simp[hi]
 simp[nh,uX,yd,hx];simp[jL]
theorem Z1w{w h:Nat}(hi:i<D.length)(hs:∀d∈D,ę d.1=true)(hn:(D.map (·.1)).Nodup):∀(n a:Nat) (s:ť),a<=i->i<a+n->a+n<=D.length->Ĵ (gN 2) aD ((hV a n).map λ(i:Nat)=>PV.int (i:Int)) [.sh<|Z0 w h T D,.sh<|.str D[i].1,s]=.ok (.rt<|.sh<|.int i) [.sh<|Z0 w h T D,.sh<|.str D[i].1,.sh<|.int i]
 |0,a,s,h1,h2,_=>by lia|n+1,a,s,h1,h2,h3=>by
  have ha:a<D.length:=by lia
  have e:=Z2p (w:=w) (h:=h) (T:=T) ha;have q:=ϙ (hs _<|ϒ ha)<|hs _<|ϒ hi;rw[rT,à,Ĵ];by_cases z:a=i
  ·subst z;rw[decide_eq_true rfl]at q;generalize Z0 w h T D=Yv,D[a].1=X at*;simp[aD,e,q]
  ·have ne:¬D[a].1=D[i].1:=fun y=>z (by
    have:=(List.getElem_inj (xs:=D.map (·.1)) (i:=a) (j:=i) (h₀:=by simpa using ha) (h₁:=by simpa using hi) hn).mp (by simpa using y);exact this)
   rw[decide_eq_false ne]at q;have ih:=Z1w (w:=w) (h:=h) (T:=T) hi hs hn n (a+1) (.sh<|.int a) (by lia) (by lia) (by lia);generalize Z0 w h T D=Yv,D[i].1=X at*;have st:aD [.sh Yv,.sh<|.str X,.sh<|.int a]=.ok .nx [.sh Yv,.sh<|.str X,.sh<|.int a]:=by simp[aD,e,q]
   show(aD [.sh Yv,.sh<|.str X,.sh<|.int a]).bind _=_;rw[st];exact ih
def Z2Z{w h:Nat}{i:Nat}(hi:i<D.length)(hs:∀d∈D,ę d.1=true)(hn:(D.map (·.1)).Nodup)(hl:D.length<=1000):bS [.sh<|Z0 w h T D,.sh<|.str D[i].1]=.ret (.sh<|.int i):=by
 have yd:=NE w h T D;have lp:=Z1w (w:=w) (h:=h) (T:=T) hi hs hn D.length 0 .no (by lia) (by lia) (by lia);have rg:=Zb (n:=D.length) (by lia);rw[xp]at rg;have Ho:(D.map jL).length=D.length:=by simp
 have DW:(D.map jL).length<=16777216:=by lia
 rw[<-Ho]at rg;generalize Z0 w h T D=Yv,D[i].1=X at*;rw[Ho]at rg;generalize ((hV 0 D.length).map λ(i:Nat)=>PV.int (i:Int))=RG at*;rw[<-Ho]at rg;generalize D.map jL=DV at*;simp[bS,nG,yd,rg,lp]
def Z4q:List (String×MF):=[("answer_dark",ck)]
def Z50{i:Nat}{ns:List Int}(r1:Jn "ROWS" ZK (.str wd) (.cls "ROWS")=some (.bl false))(r2:Jo "ROWS" ZK (.cls "ROWS") (.str wd)=some (.tup [.int 1,.int ns.length,.cls f]))(dc:bS [.sh Y,.sh x]=.ret (.sh<|.int i))
 (hn:∀n∈ns,Nb n)(hl:ns.length<=100)(hf:Z4q.lookup f=some mf)(ha:mf [.sh Y,.sh<|.lst (.int i::ns.map .int)]=.ret r):jJ [.sh Y,.bw (.str wd::x::ns.map ah)]=.ret r:=by
 have nb:Ň [.bw (.str wd::x::ns.map ah),.sh<|.int 2]=.ret (.ow<|ns.map .int):=Z3k (k:=2) (by simp) rfl hn (by lia);have ct:fC (.str wd::x::ns.map ah) (some 1) (some 2)=[x]:=by have:=Z4p (.str wd::x::ns.map ah) (a:=1) (b:=2) (by simp) (by lia);exact this
 have al:Ă (.lst [.int i]) (.lst<|ns.map .int)=some (.ow (.int i::ns.map .int)):=vc (by simp;lia);have ln:((ns.map ah).length:Int)=ns.length:=by simp
 have l2:(ns.map ah).length<=1000:=by simp;lia
 unfold Z4q at hf;generalize ns.map ah=W at*;have e1:(W.length:Int)+1+1=1+1+(ns.length:Int):=by lia
 have l3:W.length+1+1<=16777216:=by lia
 have e2:(W.length:Int)+1+1=2+(ns.length:Int):=by lia
 simp[jJ,wH,á,r1,r2,ct,e1,nb,iY,ī,dc,al,hf,ha]
def Zq(Y:PV):PV:=.ins "Desk" ["yard"] [Y]
def WS:ę (Ì "put")=true:=by decide+kernel
def Z4P:ę (Ì "take")=true:=by decide+kernel
def Z4r(hs:ę (Ì s)=true)(h1:decide (Ì s=Ì "put")=false)(h2:decide (Ì s=Ì "take")=false)(hW:∀x∈wC s::ws,Wd x)(hl:ws.length<=100)(aw:jJ [.sh Y,.bw (.str s::ws.map sV)]=.ret r):ų [.sh<|Zq Y,.sh<|sV<|Z2 (wC s::ws)]=.ret r:=by
 have sp:=ZE (c:=32) (by lia) Ta (l:=Z2 (wC s::ws)) (by have:=ZB hW (by simp;lia);lia);rw[ZW hW (by simp),à,<-QE]at sp;have q1:=ϙ hs WS;have q2:=ϙ hs Z4P;rw[h1]at q1;rw[h2]at q2;have f:Ś ["Desk"] (Ì "yard") (Zq Y)=some Y:=by unfold Ś Zq;simp
 generalize Zq Y=DV at*;change cJ (.str<|S<|Z2 (wC s::ws)) _=_ at sp;show ų [.sh DV,.sh<|.str<|S<|Z2 (wC s::ws)]=_;simp[ų,qa,sp,q1,q2,f,aw]
structure Ds(w h:Nat)(T:List Th)(D:List Dz):Prop where
 y:Hw w h T
 l:D.length<=3
 d:∀d∈D,Zs d/\d.2.2.length<=4
 n:(D.map (·.1)).Nodup
theorem Z3l:∀{o:Option P3},Zk o->JD o
 |none,_=>trivial|some r,h=>by unfold Zk QD at h;unfold JD RB;lia
theorem Ds.ok(X:Ds w h T D):∀d∈D.map zV,ę d.1=true/\d.1.length<=1000:=λd hd=>by obtain⟨z,hz,rfl⟩:=ģ.mp hd;obtain⟨_,h1,h2⟩:=(X.d z hz).1.1;refine⟨G6.ok λc hc=>by have:=h2 c hc;lia,?_⟩;show(S z.1).length<=1000;rw[Zp];lia
def Ds.nd(X:Ds w h T D):((D.map zV).map (·.1)).Nodup:=by
 have e:(D.map zV).map (·.1)=(D.map (·.1)).map S:=by rw[ķ,ķ];rfl
 rw[e];exact List.pairwise_map.mpr (X.n.imp λh e=>h<|by simpa using congrArg (λz:Str=>z.cps.toList) e)
abbrev WT(w h:Nat)(T:List Th)(D:List Dz):PV:=Z0 w h T<|D.map zV
def Ds.dc(X:Ds w h T D)(hi:i<D.length):bS [.sh<|WT w h T D,.sh<|sV D[i].1]=.ret (.sh<|.int i):=by
 have JL:i<(D.map zV).length:=by simpa using hi
 have:=Z2Z (w:=w) (h:=h) (T:=T) JL (λd hd=>(X.ok d hd).1) X.nd (by have:=X.l;simp;lia);rw[List.getElem_map]at this;exact this
def Ds.nm(X:Ds w h T D)(hi:i<D.length):Wd D[i].1:=(X.d _<|ϒ hi).1.1.wd
def Z51{j:Nat}(h:j<=1000):Wd (nT (j:Int)):=ZI (WQ<|by lia)
def QG(nm:List Nat)(j:Nat):List Nat:=Z2 [wC "dark",nm,nT (j:Int)]
def Z4s{s:String}(h:((wC s).length<=11/\(wC s).all (λc=>decide<|33<=c/\c<256)=true):=by decide+kernel):Wd (wC s):=NK h
def Z32(X:Ds w h T D)(hi:i<D.length)(hj:j<D[i].2.2.length):ų [.sh<|Zq<|WT w h T D,.sh<|sV<|QG D[i].1 j]=.ret (.sh<|sV<|Ŝ [47] (qH w h (vz w h T D[i].2.2[j]).testBit)):=by
 obtain⟨⟨_,_,_,_,_,h3⟩,h4⟩:=X.d _<|ϒ hi;have JL:i<(D.map zV).length:=by simpa using hi
 have eg:(D.map zV)[i].2.2=D[i].2.2:=by rw[List.getElem_map];rfl
 have a:=Z2Y X.y (D:=D.map zV) JL (j:=j) (by rw[eg];exact hj) (by rw[eg];lia) (by simp only[eg];exact Z3l<|h3 _<|ϒ hj);simp only[eg]at a;have b:=Z50 (Y:=WT w h T D) (wd:="dark") (x:=sV D[i].1) (ns:=[(j:Int)]) (f:="answer_dark") (by kernel_rfl) (by kernel_rfl) (X.dc hi) (by simp;exact WQ<|by lia) (by simp) rfl a;exact Z4r (s:="dark") (ws:=[D[i].1,nT (j:Int)]) (by decide+kernel) (by decide+kernel) (by decide+kernel) (QF Z4s<|QF (X.nm hi)<|QF (Z51<|by lia) al0) (by simp) b
def Z3R{w h:Nat}(hT:T.length<40)(hD:D.length<=1000)(hg:Z1 t.1 t.2=true):dP [.sh<|Z0 w h T D,.bw (.str "put"::.str t.1::t.2.map ah)]=.ret (.sh<|Z0 w h (T++[t]) D):=by
 have f1:=Qx w h T D;have f2:=Qy w h T D;have f3:=Ws w h T D;have f4:=NE w h T D;obtain⟨hn,hl⟩:=ZA hg;have nb:Ň [.bw (.str "put"::.str t.1::t.2.map ah),.sh<|.int 2]=.ret (.ow<|t.2.map .int):=Z3k (k:=2) (by simp) rfl hn (by lia);have ht:=Wn hg (sl:=.bw<|t.2.map .int)<|.inr rfl;change Ő _=.ret (.sh<|dZ t)at ht;have ad:Ă (.lst<|T.map dZ) (.lst [dZ t])=some (.ow<|(T++[t]).map dZ):=by rw[vc (by simp;lia),Ŕ];rfl
 have ye:=Z3v w h (T:=T++[t]) (D:=D) (by simp;lia) (by lia) (s3:=.sh<|.lst<|(T++[t]).map dZ) (s4:=.sh<|.lst<|D.map jL) (.inl rfl)<|.inl rfl;have Ho:¬((T.map dZ).length:Int)=40:=by simp;lia
 have DW:(T.map dZ).length<=16777216:=by simp;lia
 have h2:¬((t.2.map ah).length:Int)+1+1<2:=by lia
 have ey:Z0 w h (T++[t]) D=.ins "Yard" ["width","height","things","days"] [.int w,.int h,.lst<|(T++[t]).map dZ,.lst<|D.map jL]:=rfl;rw[ey];generalize Z0 w h T D=Y,(T++[t]).map dZ=TT,T.map dZ=TH,D.map jL=DY,dZ t=tv,t.2.map ah=NV,t.2.map PV.int=NI at*;simp[dP,nH,á,h2,nb,f1,f2,f3,f4,Ho,DW,ht,ad,ye]
def ZS(t:Th):List Nat:=Z2 (wC "put"::ff (.th t))
def Z2q(hg:Z1 t.1 t.2=true):(∀x∈wC "put"::ff (.th t),Wd x)/\(wC "put"::ff (.th t)).length<=101:=by obtain⟨h1,h2,h3⟩:=S9 (r:=.th t) hg;have hl:=(S6 hg).1;refine⟨QF Z4s h1,?_⟩;unfold ff;simp;lia
def Z4t(hg:Z1 t.1 t.2=true)(hw:dP [.sh Y,.bw (.str "put"::.str t.1::t.2.map ah)]=.ret (.sh Y2)):gO ["yard"] [Y] none [sV<|ZS t]=.ret (.str "ok") ["yard"] [Y2] none:=by
 have q:=ϙ WS WS;simp only[decide_true]at q;obtain⟨h1,h2⟩:=Z2q hg;have sp:=ZE (c:=32) (by lia) Ta (l:=ZS t) (by have:=ZB h1 h2;unfold ZS;lia);unfold ZS at sp;rw[ZW h1 (by simp),à,<-QE,Z3h]at sp;change cJ (.str<|S<|ZS t) _=some (.ow (.str "put"::.str t.1::t.2.map ah))at sp;have f:Ś ["Desk"] (Ì "yard") (.ins "Desk" ["yard"] [Y])=some Y:=by unfold Ś;simp
 show gO _ _ _ [.str<|S<|ZS t]=_;generalize S (ZS t)=R,t.2.map ah=NV at*;simp[gO,uK,i_,qW,ĕ,á,sp,q,f,hw,MR.of,pO,fH,putN,yV]
def Z1T(hg:Z1 t.1 t.2=true):ġ [.sh<|.lst (.str "put"::.str t.1::t.2.map .int)]=.ret (.sh<|sV<|ZS t):=by obtain⟨h1,h2⟩:=Z2q hg;have e:=Z4l<|.th t;have j:=ZY (ws:=(.str "put",wC "put")::pW (.th t)) (QF (ZX _)<|Z3i (r:=.th t) hg) (λx hx=>h1 x.2 (by rw[<-e];exact List.mem_map_of_mem (f:=(·.2)) hx)) (by rw[<-e]at h2;simpa using h2);rw[à,à,e]at j;unfold pW at j;rw[à,ķ]at j;exact j
def iR(o:Th×Int):PV:=.tup [qY o.1,.int o.2]
def Z4u(p:Nat->Bool)(hw:0<w)(hk:k<w*h):((qH w h p).map sV)[k/w]?=some (sV<|Zx w p<|k/w)/\(Zx w p<|k/w)[k%w]?=some (sg<|p k):=by
 have h1:=Nat.mod_lt k hw;have h2:=(Z3c (k:=k) (h:=h) hw).mpr hk;refine⟨by unfold qH;simp[h2],?_⟩;unfold Zx;have e:k/w*w+k%w=k:=by rw[xu];exact Nat.div_add_mod k w
 simp[h1,e]
def Z4Q{i c:Nat}(h:l[i]?=some c)(hl:l.length<=100000):ã (sV l) (.int i)=some (sV [c]):=by
 have h1:(S l).length<=16777216:=by rw[Zp];lia
 have h2:(S l).cps.toList=l:=rfl;have h3:i<l.length:=by
  rcases Nat.lt_or_ge i l.length with z|z
  ·exact z
  ·rw[BY z]at h;cases h
 have h4:nr l (i:Int)=some c:=by rw[Ab];exact h
 show(if(S l).length<=16777216then(nr (S l).cps.toList (i:Int)).map λc=>PV.str ⟨#[c]⟩else none)=_;rw[if_pos h1,h2,h4];rfl
def Z4R(b:Bool):Œ (sV [sg b]) (.str ".")=some (.bl<|!b):=by cases b<;>kernel_rfl
def Z33(nm:List Nat)(j:Nat):QG nm j=wC "dark "++nm++[32]++nT (j:Int):=by
 have:wC "dark "=wC "dark"++[32]:=by decide+kernel
 rw[this];show wC "dark"++[32]++(nm++[32]++nT (j:Int))=_;simp
def Z4v(p:Nat->Bool):∀y∈qH w h p,47∉y:=λy hy z=>by obtain⟨q,_,rfl⟩:=ģ.mp hy;obtain⟨x,_,e⟩:=ģ.mp z;unfold sg at e;split at e<;>lia
def Z3S(hw:w<=60)(hh:h<=1000)(p:Nat->Bool):(Ŝ [47] (qH w h p)).length<=61000:=by
 have:=ZQ (c:=47) (qH w h p) 60 (λy hy=>by obtain⟨q,_,rfl⟩:=ģ.mp hy;rw[ZR];exact hw);have l:(qH w h p).length=h:=by unfold qH;simp
 rw[l]at this;lia
def Z4w(ha:a.length<=10000)(hb:b.length<=10000):Ă (sV a) (sV b)=some (.sh<|sV<|a++b):=by
 have l2:(S a).length<=10000:=by rw[Zp];exact ha
 have l3:(S b).length<=10000:=by rw[Zp];exact hb
 unfold sV Ă;simp only;rw[if_pos<|by lia];congr 3;exact j_ (by simp[Str.cps_append])
def Td(i j:Int):ei (.int i) (.int j)=some (.int<|eQ i j):=rfl
def ZN(c k:Nat):uj (c:Int) (k:Int)=true:=by simp[uj]
def wI(O:List (Th×Int))(ks:List Nat)(c:Nat):List Th:=(ks.filter λk=>c.testBit k).map λk=>(O.getD k ô).1
def Z2r(c k:Nat):ei (.int<|(c:Int)/2^k) (.int 1)=some (.int<|if c.testBit k then 1 else 0):=Z1q c k
def nSY:(Ì "say"=Ì "yard")=False:=eq_false (by decide+kernel)
def nYS:(Ì "yard"=Ì "say")=False:=eq_false (by decide+kernel)
section
variable{w h:Nat}{T:List Th}{D:List Dy}(hD:D.length<=1000){O:List (Th×Int)}(hO:∀o∈O,Z1 o.1.1 o.1.2=true)(c:Nat)(s0 s3:ť)
include hD hO
def Z34(hk:k<O.length){S:List Th}(hS:(T++S).length<40):ϵ [s0,.sh<|.lst<|O.map iR,.sh<|.int c,s3,.rc "Desk" ["yard"] [Z0 w h (T++S) D],.sh<|.int k]=.ok .nx [s0,.sh<|.lst<|O.map iR,.sh<|.int c,s3,.rc "Desk" ["yard"] [Z0 w h (T++(S++wI O [k] c)) D],.sh<|.int k]:=by
 have b:=Z2r c k;have hx:(O.map iR)[k]?=some (iR O[k]):=by simp[hk]
 have hg:=hO O[k] (ϒ hk);have gd:O.getD k ô=O[k]:=by simp[hk]
 have so:=ZN c k;cases hb:c.testBit k with
 |false=>
  have e:wI O [k] c=[]:=by simp[wI,hb]
  rw[hb]at b;rw[e,fO];simp[ϵ,b,so]
 |true=>
  have e:wI O [k] c=[O[k].1]:=by unfold wI;rw[B5 hb,List.filter_nil,à,Ů,gd]
  rw[hb]at b;rw[e,<-lR];have jn:=Z1T hg;have pe:=Z4t hg<|Z3R (w:=w) (h:=h) hS hD hg;have ad:Ă (.lst [.str "put"]) (qY O[k].1)=some (.ow (.str "put"::.str O[k].1.1::O[k].1.2.map .int)):=by unfold qY;rw[vc (by have:=(S6 hg).1;simp;lia)];rfl
  generalize Z0 w h (T++S++[O[k].1]) D=Y2,Z0 w h (T++S) D=Y at*;generalize hq:O.map iR=OS at*;generalize sV (ZS O[k].1)=R at*;unfold iR at hx;generalize qY O[k].1=WV,O[k].1.2.map PV.int=NI at*;simp[ϵ,b,so,hx,ad,jn,pe,nYS,nSY,BE]
theorem Z0F:∀(ks:List Nat) (S:List Th) (s5:ť),(∀k∈ks,k<O.length)->(T++S).length+ks.length<=40->∃E1,Ĵ (gN 5) ϵ (ks.map λ(i:Nat)=>PV.int (i:Int)) [s0,.sh<|.lst<|O.map iR,.sh<|.int c,s3,.rc "Desk" ["yard"] [Z0 w h (T++S) D],s5]=.ok .nx [s0,.sh<|.lst<|O.map iR,.sh<|.int c,s3,.rc "Desk" ["yard"] [Z0 w h (T++(S++wI O ks c)) D],E1]
 |[],S,s5,_,_=>⟨s5,by simp[wI,Ĵ]⟩|k::ks,S,s5,hk,hl=>by
  have e:=Z34 hD hO c s0 s3 (hk k Ş) (w:=w) (h:=h) (T:=T) (S:=S) (by simp at hl⊢;lia);have l1:(wI O [k] c).length<=1:=by unfold wI;rw[Ğ];exact B6 _ _
  obtain⟨E1,e2⟩:=Z0F ks (S++wI O [k] c) (.sh<|.int k) (λx hx=>hk x<|þ _ hx) (by simp at hl⊢;lia);have ec:S++wI O (k::ks) c=S++wI O [k] c++wI O ks c:=by rw[lR];congr 1;unfold wI;rw[<-Ŕ,<-List.filter_append];rfl
  refine⟨E1,?_⟩;rw[ec,à,Ĵ];generalize Z0 w h (T++(S++wI O [k] c++wI O ks c)) D=Y3,Z0 w h (T++(S++wI O [k] c)) D=Y2,Z0 w h (T++S) D=Y at*;simp[e];exact e2
end
abbrev Wt:=Int×Int×Int×Int
def gQ(q:Wt):PV:=.tup [.tup [.int q.1,.int q.2.1],.int q.2.2.1,.int q.2.2.2]
def Zt(w h:Nat)(q:Wt):Prop:=(0<=q.1/\q.1<w)/\(0<=q.2.1/\q.2.1<h)
def ZF(D:List Dy)(q:Wt):Prop:=(0<=q.2.2.1/\q.2.2.1<D.length)/\(0<=q.2.2.2/\q.2.2.2<(D.getD q.2.2.1.toNat ô).2.2.length)
def Z1U{w h:Nat}(D:List Dy){x y:Int}(hx:(0<=x/\x<w)/\(0<=y/\y<h)):iI [.sh<|Z0 w h T D,.sh<|.tup [.int x,.int y]]=.ret (.sh<|.bl true):=by have yw:=Qx w h T D;have yh:=Qy w h T D;generalize Z0 w h T D=Yv at*;obtain⟨⟨a1,a2⟩,a3,a4⟩:=hx;simp[iI,pQ,á,yw,yh,a1,a2,a3,a4]
def Z1V{w h:Nat}(D:List Dy){x y:Int}(hx:(0<=x/\x<w)/\(0<=y/\y<h)):eV [.sh<|Z0 w h T D,.sh<|.tup [.int x,.int y]]=.ret (.sh .non):=by have hs:=Z1U (T:=T) D hx;generalize Z0 w h T D=Yv at*;simp[eV,ly,á,hs]
def Z3T{w h:Nat}(d:Int):cR [.sh<|Z0 w h T D,.sh<|.int d]=.ret (.sh<|.bl<|decide<|0<=d/\d<D.length):=by
 have yd:=NE w h T D;have hl:(D.map jL).length=D.length:=by simp
 rw[<-hl];generalize Z0 w h T D=Yv,D.map jL=DV at*;by_cases a1:0<=d
 ·by_cases a2:d<(DV.length:Int)
  ·simp[cR,gE,á,yd,a1,a2]
  ·simp[cR,gE,á,yd,a1,a2]
 ·simp[cR,gE,á,yd,a1]
def Z2s{w h:Nat}(hd:(0<=d/\d<D.length)/\(0<=t/\t<(D.getD d.toNat ô).2.2.length)):ϻ [.sh<|Z0 w h T D,.sh<|.int d,.sh<|.int t]=.ret (.sh .non):=by
 have hd0:=Z3T (w:=w) (h:=h) (T:=T) (D:=D) d;obtain⟨hq,a1,a2⟩:=hd;obtain⟨i,rfl⟩:∃i:Nat,d=(i:Int):=⟨d.toNat,by lia⟩;have hi:i<D.length:=by lia
 have ht:=Zz (w:=w) (h:=h) (T:=T) hi;have hg:D.getD (i:Int).toNat ô=D[i]:=by simp[hi]
 rw[hg]at a2;have hl:(D[i].2.2.map aE).length=D[i].2.2.length:=by simp
 rw[<-hl]at a2;rw[decide_eq_true hq]at hd0;generalize D[i].2.2.map aE=TV,Z0 w h T D=Yv at*;simp[ϻ,ja,á,hd0,ht,a1,a2]
theorem Z1x:∀(qs:List Wt) (z s2 s3 s4:ť),(∀q∈qs,Zt w h q/\ZF D q)->∃a b c:ť,Ĵ (gT 3<|ï (gN 2)<|ï (gN 3)<|ï (gN 4) ř) dG (qs.map gQ) [.sh<|Z0 w h T D,z,s2,s3,s4]=.ok .nx [.sh<|Z0 w h T D,z,a,b,c]
 |[],z,s2,s3,s4,_=>⟨s2,s3,s4,rfl⟩|q::qs,z,s2,s3,s4,hq=>by
  obtain⟨h1,h2⟩:=hq q Ş;have e1:=Z1V (T:=T) D h1;have e2:=Z2s (w:=w) (h:=h) (T:=T) h2;obtain⟨a,b,c,e⟩:=Z1x qs z (.sh<|.tup [.int q.1,.int q.2.1]) (.sh<|.int q.2.2.1) (.sh<|.int q.2.2.2)<|λx hx=>hq x<|þ _ hx;refine⟨a,b,c,?_⟩;generalize Z0 w h T D=Yv at*;have eb:dG [.sh Yv,z,.sh<|.tup [.int q.1,.int q.2.1],.sh<|.int q.2.2.1,.sh<|.int q.2.2.2]=.ok .nx [.sh Yv,z,.sh<|.tup [.int q.1,.int q.2.1],.sh<|.int q.2.2.1,.sh<|.int q.2.2.2]:=by simp[dG,e1,e2]
  rw[à,Ĵ];simp[gQ,eb];exact e
def Z35{qs:List Wt}(hq:∀q∈qs,Zt w h q/\ZF D q):eW [.sh<|Z0 w h T D,.sh<|.lst<|qs.map gQ]=.ret (.sh .non):=by obtain⟨a,b,c,e⟩:=Z1x (T:=T) qs (.sh<|.lst<|qs.map gQ) .no .no .no hq;generalize Z0 w h T D=Yv,qs.map gQ=QS at*;simp[eW,lz,á,e]
theorem Z0G(f:Nat->PV):∀(n a:Nat),b_ a ((hV a n).map f)=(hV a n).map λ(k:Nat)=>PV.tup [.int k,f k]
 |0,a=>rfl|n+1,a=>by rw[rT,à,à];show _::b_ (a+1) _=_;rw[Z0G f n<|a+1]
def WU(f:Nat->PV)(n:Nat):b_ 0 ((Ô n).map f)=(Ô n).map λ(k:Nat)=>PV.tup [.int k,f k]:=by rw[xp];exact Z0G f n 0
def Z36(p:Nat->Bool)(i:Nat):(Z4 i p|||2^i)=Z4 i p+2^i:=by have h:=Nat.two_pow_add_eq_or_of_lt (ZP p i) 1;rw[Nat.mul_one]at h;rw[Nat.or_comm,<-h,r_]
theorem Z1d(f:Nat->Bool):∀(n a:Nat) (z s2 s3:ť),a+n<=1000->∃JQ D4,Ĵ (gT 2<|ï (gN 2)<|ï (gN 3) ř) bp ((hV a n).map λ(k:Nat)=>PV.tup [.int k,.bl<|f k]) [z,.sh<|.int (Z4 a f:Nat),s2,s3]=.ok .nx [z,.sh<|.int (Z4 (a+n) f:Nat),JQ,D4]
 |0,a,z,s2,s3,_=>⟨s2,s3,rfl⟩|n+1,a,z,s2,s3,hn=>by
  obtain⟨JQ,D4,e⟩:=Z1d f n (a+1) z (.sh<|.int a) (.sh<|.bl<|f a) (by lia);refine⟨JQ,D4,?_⟩;have eb:bp [z,.sh<|.int (Z4 a f:Nat),.sh<|.int a,.sh<|.bl<|f a]=.ok .nx [z,.sh<|.int (Z4 (a+1) f:Nat),.sh<|.int a,.sh<|.bl<|f a]:=by
   have po:gy 1 (a:Int)=true:=by simp[gy];lia
   cases hf:f a with
   |false=>simp[bp,Z4,hf]|true=>
    have hb:mD ((Z4 a f:Nat):Int) (2^a)=((Z4 (a+1) f:Nat):Int):=by
     have:=SV (Z4 a f)<|2^a;rw[Z36]at this;have e2:Z4 (a+1) f=Z4 a f+2^a:=by simp[Z4,hf]
     rw[e2];simpa using this
    simp[bp,hb,po]
  rw[rT,à,Ĵ];simp[eb];rw[show a+(n+1)=a+1+n by lia];exact e
def Z2t(f:Nat->Bool)(hn:n<=1000):ca [.sh<|.lst<|(Ô n).map λ(k:Nat)=>PV.bl<|f k]=.ret (.sh<|.int (Z4 n f:Nat)):=by obtain⟨a,b,e⟩:=Z1d f n 0 (.sh<|.lst<|(Ô n).map λ(k:Nat)=>PV.bl<|f k) .no .no (by lia);have en:=WU (λk=>PV.bl<|f k) n;rw[<-xp,se]at e;have z:Z4 0 f=0:=rfl;rw[z]at e;generalize (Ô n).map (λ(k:Nat)=>PV.bl<|f k)=L at*;simp[ca,lB,á,en];simp at e;rw[e];simp
def WW(f:Nat->PV)(hn:n<=1000)(c:Nat):fj [.bw<|(Ô n).map f,.sh<|.int c]=.ret (.ow<|((Ô n).filter λk=>c.testBit k).map f):=by
 have en:=WU f n;have e:=dF (g:=gT 2<|ï (gN 1)<|ï (gN 2) ř) (mt:=bL<|Ë ei (Ë ll (Â 0)<|Â 1)<|Æ 1) (me:=ì 2) (λ(k:Nat)=>PV.tup [.int k,f k]) f (λk=>c.testBit k) (λU=>∃a b,U=[.sh<|.int c,a,b]) (Ô n) [.sh<|.int c,.no,.no] [] ⟨_,_,rfl⟩ (by simp;lia) (by
  rintro k _ U ⟨a,b,rfl⟩;refine⟨[.sh<|.int c,.sh<|.int k,.sh<|f k],[.sh<|.int c,.sh<|.int k,.sh<|f k],by simp,?_,λx=>⟨_,_,rfl⟩,λx=>⟨[.sh<|.int c,.sh<|.int k,.sh<|f k],by simp,_,_,rfl⟩⟩;have h1:=Wq c k;have h2:eQ ((c:Int)/2^k) 1=if c.testBit k then 1 else 0:=by rw[Wr];exact h1
  cases hb:c.testBit k with
  |true=>rw[hb]at h2;simp at h2;simp[h2,ZN,Td]|false=>rw[hb]at h2;simp at h2;simp[h2,ZN,Td])
 rw[Š]at e;generalize (Ô n).map f=L at*;generalize ((Ô n).filter λk=>c.testBit k).map f=R at*;simp[fj,wD,á,iY,gY,en,e]
def Z9(cov:Nat->Nat)(n c base:Nat):Nat:=((Ô n).filter λk=>c.testBit k).foldl (λb k=>b|||cov k) base
def Z37(cov:Nat->Nat)(hn:n<=1000)(c base:Nat):lA [.bw<|(Ô n).map λk=>PV.int (cov k:Nat),.sh<|.int c,.sh<|.int base]=.ret (.sh<|.int (Z9 cov n c base:Nat)):=by
 have e1:=WW (λk=>PV.int (cov k:Nat)) hn c;obtain⟨U',e2,a,rfl⟩:=gm (g:=gN 4) (mb:=qC) (λk=>PV.int (cov k:Nat)) (λ(b:Nat) k=>b|||cov k) (λb U=>∃a,U=[.bw<|(Ô n).map λk=>PV.int (cov k:Nat),.sh<|.int c,.sh<|.int base,.sh<|.int (b:Nat),a]) ((Ô n).filter λk=>c.testBit k) (by
  rintro k _ b U ⟨a,rfl⟩;exact⟨_,_,rfl,by simp[qC,SV];rfl,_,rfl⟩) base [.bw<|(Ô n).map λk=>PV.int (cov k:Nat),.sh<|.int c,.sh<|.int base,.sh<|.int base,.no] ⟨_,rfl⟩
 unfold Z9;generalize ((Ô n).filter λk=>c.testBit k).foldl (λb k=>b|||cov k) base=M at*;generalize ((Ô n).filter λk=>c.testBit k).map (λk=>PV.int (cov k:Nat))=R at*;generalize (Ô n).map (λk=>PV.int (cov k:Nat))=L at*;simp[lA,wE,á,e1,e2]
def qZ(m many:Nat):Option Nat:=(Ô many).findSome? λk=>if m.testBit k then none else some k
def kT:Option Nat->PV
 |some k=>.int k|none=>.non
def Z2u(m:Nat){many:Nat}(hm:many<=1000):Ϗ [.sh<|.int m,.sh<|.int many]=.ret (.sh<|kT<|qZ m many):=by
 have rr:=Zb (n:=many) hm;rcases ju (g:=gN 2) (mb:=bO) (λ(k:Nat)=>PV.int (k:Int)) (λk=>if m.testBit k then none else some k) (λk=>RV.sh<|.int (k:Nat)) (λU=>∃a,U=[.sh<|.int m,.sh<|.int many,a]) (Ô many) (by
  rintro k _ U ⟨a,rfl⟩;refine⟨[.sh<|.int m,.sh<|.int many,.sh<|.int k],rfl,?_⟩;have h1:=Wq m k;have h2:eQ ((m:Int)/2^k) 1=if m.testBit k then 1 else 0:=by rw[Wr];exact h1
  cases hb:m.testBit k with
  |true=>rw[hb]at h2;simp at h2;exact .inr ⟨[.sh<|.int m,.sh<|.int many,.sh<|.int k],by simp,by simp[bO,h2,ZN,Td],_,rfl⟩|false=>rw[hb]at h2;simp at h2;exact .inl ⟨k,[.sh<|.int m,.sh<|.int many,.sh<|.int k],by simp,by simp[bO,h2,ZN,Td]⟩) [.sh<|.int m,.sh<|.int many,.no] ⟨_,rfl⟩with⟨r,U',e1,e2⟩|⟨U',e1,e2,a,rfl⟩
 ·unfold qZ;rw[e1];simp[Ϗ,eA,á,rr,e2,kT]
 ·unfold qZ;rw[e1];simp[Ϗ,eA,á,rr,e2,kT]
def Z8(pr:Nat->Int)(n c:Nat):Int:=(((Ô n).filter λk=>c.testBit k).map pr).sum
theorem Z1y(pr:Nat->Int)(hn:n<=1000)(z:ť):∀cs:List Nat,An [0] (aG rm<|É (Ý<|Ü fj<|È 0<|È 1 Ö) æ) [.bw<|(Ô n).map λk=>PV.int<|pr k,z] (cs.map λ(c:Nat)=>PV.int (c:Int))=some (cs.map<|Z8 pr n)
 |[]=>rfl|c::cs=>by
  have ih:=Z1y pr hn z cs;have e1:=WW (λk=>PV.int<|pr k) hn c;have e2:((Ô n).filter λk=>c.testBit k).map (λk=>PV.int<|pr k)=(((Ô n).filter λk=>c.testBit k).map pr).map PV.int:=by simp
  rw[e2]at e1;rw[à,à,An];have e3:(aG rm<|É (Ý<|Ü fj<|È 0<|È 1 Ö) æ) (vA [0] [.bw<|(Ô n).map λk=>PV.int<|pr k,z] (.int c))=.ok (.int<|Z8 pr n c) [.bw<|(Ô n).map λk=>PV.int<|pr k,.sh<|.int c]:=by unfold Z8;generalize ((Ô n).filter λk=>c.testBit k).map pr=R at*;generalize (Ô n).map (λk=>PV.int<|pr k)=L at*;simp[vA,gY,e1]
  rw[e3];dsimp only;rw[ih];rfl
def Zw{α β:Type}(F:α->β)(d:α)(qs:List α):qs.map F=(Ô qs.length).map λk=>F (qs.getD k d):=by
 refine List.ext_getElem (by simp) λi h1 h2=>?_;have hi:i<qs.length:=by simpa using h1
 simp[hi]
def Z3U(f:Nat->PV)(hn:0<n):ã (.lst<|(Ô n).map f) (.int<|-1)=some (f<|n-1):=by
 show nr _ _=_;unfold nr CL;simp;rw[if_pos<|by lia];have e:(-1+(n:Int)).toNat=n-1:=by lia
 simp[e];exact⟨n-1,by rw[BX<|by lia],rfl⟩
def AE(D:List Dy)(q:Wt):Option P3:=(D.getD q.2.2.1.toNat ô).2.2.getD q.2.2.2.toNat none
def AN(D:List Dy)(t:Th)(q:Wt):Bool:=match AE D q with
 |none=>false|some r=>MT t.1 t.2 (q.1,q.2.1) r
def wJ(T:List Th)(D:List Dy)(q:Wt):Bool:=match AE D q with
 |none=>true|some r=>T.any λt=>MT t.1 t.2 (q.1,q.2.1) r
def Z1z(hw:0<w)(hs:Zt w h q):∃k,k<w*h/\((q.1,q.2.1):Hu.Pt)=qf w k:=by
 obtain⟨⟨b1,b2⟩,b3,b4⟩:=hs;obtain⟨a,ha⟩:∃a:Nat,q.1=(a:Int):=⟨q.1.toNat,by lia⟩;obtain⟨b,hb⟩:∃b:Nat,q.2.1=(b:Int):=⟨q.2.1.toNat,by lia⟩;rw[ha]at b1 b2⊢;rw[hb]at b3 b4⊢;have Rh:a<w:=by lia
 have E6:b<h:=by lia
 refine⟨a+w*b,?_,?_⟩
 ·have:w*(b+1)<=w*h:=Nat.mul_le_mul_left w (by lia);rw[Nat.mul_add]at this;lia
 ·have e1:(a+w*b)%w=a:=by rw[Nat.add_mul_mod_self_left,Nat.mod_eq_of_lt Rh]
  have e2:(a+w*b)/w=b:=by rw[Nat.add_mul_div_left _ _ hw,Nat.div_eq_of_lt Rh,se]
  unfold qf;rw[e1,e2]
def Z1A{w h:Nat}(hD:∀d∈D,QB lg d)(hq:ZF D q):∃TV:List PV,ϟ [.sh<|Z0 w h T D,.sh<|.int q.2.2.1]=.ret (.sh<|.lst TV)/\ã (.lst TV) (.int q.2.2.2)=some (aE<|AE D q)/\JD (AE D q):=by
 obtain⟨⟨a1,a2⟩,a3,a4⟩:=hq;obtain⟨i,hi⟩:∃i:Nat,q.2.2.1=(i:Int):=⟨q.2.2.1.toNat,by lia⟩;obtain⟨j,hj⟩:∃j:Nat,q.2.2.2=(j:Int):=⟨q.2.2.2.toNat,by lia⟩;have XF:i<D.length:=by lia
 have hg:D.getD q.2.2.1.toNat ô=D[i]:=by rw[hi];simp[XF]
 rw[hg]at a4;have XG:j<D[i].2.2.length:=by lia
 have ho:AE D q=D[i].2.2[j]:=by unfold AE;rw[hg,hj];simp[XG]
 refine⟨D[i].2.2.map aE,by rw[hi];exact Zz XF,?_,?_⟩
 ·rw[ho,hj];simp[XG]
 ·rw[ho];exact(hD D[i] (ϒ XF)).2.2 _ (ϒ XG)
def Z38(Y:Hw w h T)(hg:Z1 t.1 t.2=true)(hs:Zt w h q)(ho:JD (AE D q)):aB [.sh<|dZ t,.sh<|.tup [.int q.1,.int q.2.1],.sh<|aE<|AE D q]=.ret (.sh<|.bl<|AN D t q):=by
 unfold AN;have hb:PB (zF ((q.1,q.2.1):Hu.Pt)):=by have w1:=Y.w1;have h1:=Y.h1;obtain⟨⟨b1,b2⟩,b3,b4⟩:=hs;unfold PB zF;dsimp only;lia
 cases e:AE D q with
 |none=>generalize dZ t=V at*;simp[aB,gH,á,aE,pA]|some r=>rw[e]at ho;have Tl:=Z0D hg ho.1 hb;have e1:pt ((q.1,q.2.1):Hu.Pt)=.tup [.int q.1,.int q.2.1]:=rfl;rw[e1]at Tl;have e2:aE (some r)=c3 r:=rfl;rw[e2];have XH:fk [.sh<|dZ t,.sh<|.tup [.int q.1,.int q.2.1],.sh<|c3 r]=.ret (.sh<|.bl<|MT t.1 t.2 (q.1,q.2.1) r):=Tl;have hn:pA (c3 r)=false:=rfl;generalize dZ t=V,PV.tup [.int q.1,.int q.2.1]=Q,c3 r=R at*;simp[aB,gH,á,XH,hn]
def Z1X(Y:Hw w h T)(hs:Zt w h q)(ho:JD (AE D q)):aC [.sh<|Z0 w h T D,.sh<|aE<|AE D q,.sh<|.tup [.int q.1,.int q.2.1]]=.ret (.sh<|.bl<|wJ T D q):=by
 obtain⟨k,hk,e⟩:=Z1z Y.w0 hs;have h1:=Z2d Y D ho (k:=k) (by have:=Y.wh;lia);rw[<-e]at h1;have e1:pt ((q.1,q.2.1):Hu.Pt)=.tup [.int q.1,.int q.2.1]:=rfl;rw[e1]at h1;rw[h1];unfold wJ;cases AE D q with
 |none=>rfl|some r=>unfold JC zr;dsimp only;rw[<-e]
def Z4x(Y:Hw w h T)(hD:∀d∈D,QB lg d)(hg:Z1 t.1 t.2=true){qs:List Wt}(hl:qs.length<=1000)(hq:∀q∈qs,Zt w h q/\ZF D q):
 bu [.sh<|Z0 w h T D,.sh<|dZ t,.sh<|.lst<|qs.map gQ]=.ret (.sh<|.int (Z4 qs.length (λk=>AN D t<|qs.getD k ô):Nat)):=by
 have c1:=đ (g:=gT 3<|ï (gN 2)<|ï (gN 3)<|ï (gN 4) ř) (mt:=ė) (me:=Ý<|Ü aB<|È 0<|È 2<|Þ (Ë ã (Ý<|Ü ϟ<|È 1<|È 3 Ö)<|Â 4) Ö) gQ (λq=>PV.bl<|AN D t q) (λU=>∃a b c,U=[.sh<|dZ t,.sh<|Z0 w h T D,a,b,c]) qs [.sh<|dZ t,.sh<|Z0 w h T D,.no,.no,.no] [] ⟨_,_,_,rfl⟩ (by simp;lia) (by
  rintro q hm U ⟨a,b,c,rfl⟩;obtain⟨hs,ht⟩:=hq q hm;obtain⟨TV,e1,e2,e3⟩:=Z1A (w:=w) (h:=h) (T:=T) hD ht;have e4:=Z38 Y hg hs e3;generalize Z0 w h T D=Yv,dZ t=V,aE (AE D q)=O at*;exact⟨[.sh V,.sh Yv,.sh<|.tup [.int q.1,.int q.2.1],.sh<|.int q.2.2.1,.sh<|.int q.2.2.2],[.sh V,.sh Yv,.sh<|.tup [.int q.1,.int q.2.1],.sh<|.int q.2.2.1,.sh<|.int q.2.2.2],[.sh V,.sh Yv,.sh<|.tup [.int q.1,.int q.2.1],.sh<|.int q.2.2.1,.sh<|.int q.2.2.2],by simp[gQ],by simp,by simp[e1,e2,e4,-Bl],_,_,_,rfl⟩)
 rw[Š,Zw (λq=>PV.bl<|AN D t q) ô qs]at c1;have e:=Z2t (λk=>AN D t<|qs.getD k ô) hl;generalize (Ô qs.length).map (λk=>PV.bl<|AN D t<|qs.getD k ô)=B at*;generalize Z0 w h T D=Yv,dZ t=V,qs.map gQ=QS at*;simp[bu,kQ,á,iY,gY,c1,e]
def Z4y(Y:Hw w h T)(hD:∀d∈D,QB lg d){qs:List Wt}(hl:qs.length<=1000)(hq:∀q∈qs,Zt w h q/\ZF D q):
 eZ [.sh<|Z0 w h T D,.sh<|.lst<|qs.map gQ]=.ret (.sh<|.int (Z4 qs.length (λk=>wJ T D<|qs.getD k ô):Nat)):=by
 have c1:=đ (g:=gT 3<|ï (gN 1)<|ï (gN 2)<|ï (gN 3) ř) (mt:=ė) (me:=Ý<|Ü aC<|È 0<|Þ (Ë ã (Ý<|Ü ϟ<|È 0<|È 2 Ö)<|Â 3)<|È 1 Ö) gQ (λq=>PV.bl<|wJ T D q) (λU=>∃a b c,U=[.sh<|Z0 w h T D,a,b,c]) qs [.sh<|Z0 w h T D,.no,.no,.no] [] ⟨_,_,_,rfl⟩ (by simp;lia) (by
  rintro q hm U ⟨a,b,c,rfl⟩;obtain⟨hs,ht⟩:=hq q hm;obtain⟨TV,e1,e2,e3⟩:=Z1A (w:=w) (h:=h) (T:=T) hD ht;have e4:=Z1X Y hs e3;generalize Z0 w h T D=Yv,aE (AE D q)=O at*;exact⟨[.sh Yv,.sh<|.tup [.int q.1,.int q.2.1],.sh<|.int q.2.2.1,.sh<|.int q.2.2.2],[.sh Yv,.sh<|.tup [.int q.1,.int q.2.1],.sh<|.int q.2.2.1,.sh<|.int q.2.2.2],[.sh Yv,.sh<|.tup [.int q.1,.int q.2.1],.sh<|.int q.2.2.1,.sh<|.int q.2.2.2],by simp[gQ],by simp,by simp[e1,e2,e4,-Bl],_,_,_,rfl⟩)
 rw[Š,Zw (λq=>PV.bl<|wJ T D q) ô qs]at c1;have e:=Z2t (λk=>wJ T D<|qs.getD k ô) hl;generalize (Ô qs.length).map (λk=>PV.bl<|wJ T D<|qs.getD k ô)=B at*;generalize Z0 w h T D=Yv,qs.map gQ=QS at*;simp[eZ,lF,á,iY,gY,c1,e]
theorem Z2v:∀ks:List Int,ks≠[]->∃i,i<ks.length/\∀j,j<ks.length->ks.getD i 0<=ks.getD j 0/\(j<i->ks.getD i 0<ks.getD j 0)
 |[],h=>absurd rfl h|[k],_=>⟨0,by simp,fun j hj=>by
     have:j=0:=by simp at hj;lia
     subst this;exact⟨wY _,λz=>absurd z<|aN _⟩⟩
 |k::m::ks,_=>by
  obtain⟨i,hi,h⟩:=Z2v (m::ks) (by simp);by_cases hk:k<=(m::ks).getD i 0
  ·refine⟨0,by simp,λj hj=>?_⟩;cases j with
   |zero=>exact⟨wY _,λz=>absurd z<|aN _⟩
   |succ j=>have:=(h j<|by simpa using hj).1;exact⟨by simp only[xq,oy];lia,λz=>absurd z<|by lia⟩
  ·refine⟨i+1,by simpa using hi,λj hj=>?_⟩;cases j with
   |zero=>exact⟨by simp only[xq,oy];lia,λx=>by simp only[xq,oy];lia⟩
   |succ j=>have:=h j (by simpa using hj);exact⟨by simp only[oy];exact this.1,λz=>by simp only[oy];exact this.2<|by lia⟩
def Z0y(pr:Nat->Int)(hn:n<=1000)(hc:cs≠[])(hs:cs.Pairwise (·<·)):∃c∈cs,kx [.bw<|(Ô n).map λk=>PV.int<|pr k,.sh<|.lst<|cs.map λ(c:Nat)=>PV.int (c:Int)]=.ret (.sh<|.int (c:Nat))/\∀c'∈cs,Z8 pr n c<=Z8 pr n c'/\(Z8 pr n c'=Z8 pr n c->c<=c'):=by
 have e:=Z1y pr hn (.sh<|.lst<|cs.map λ(c:Nat)=>PV.int (c:Int)) cs;obtain⟨i,hi,hb⟩:=Z2v (cs.map<|Z8 pr n) (by simpa using hc);rw[Ğ]at hi hb;have hx:(cs.map λ(c:Nat)=>PV.int (c:Int))[i]?=some (.int (cs[i]:Nat)):=by simp[hi]
 have gk:∀j (hj:j<cs.length),(cs.map<|Z8 pr n).getD j 0=Z8 pr n cs[j]:=λj hj=>by simp[hj]
 obtain⟨b,hp⟩:∃b,mW (cs.map λ(c:Nat)=>PV.int (c:Int)) (cs.map<|Z8 pr n)=some b:=by
  cases cs with
  |nil=>exact absurd rfl hc|cons a r=>exact⟨_,rfl⟩
 have hbx:=pK (by simp) hp hx (λj hj=>hb j<|by simpa using hj);subst hbx;refine⟨cs[i],ϒ hi,?_,λc' wL=>?_⟩
 ·generalize (cs.map λ(c:Nat)=>PV.int (c:Int))=CS at*;generalize cs.map (Z8 pr n)=KS at*;generalize (Ô n).map (λk=>PV.int<|pr k)=L at*;generalize cs[i]=c at*;simp[kx,qR,á,Jc,e,hp]
 ·obtain⟨j,hj,rfl⟩:=B1 wL;have h1:=hb j hj;rw[gk i hi,gk j hj]at h1;refine⟨h1.1,λhe=>?_⟩;by_cases hji:j<i
  ·have:=h1.2 hji;lia
  ·by_cases Xc:i=j
   ·subst Xc;exact ö _
   ·exact jQ (List.pairwise_iff_getElem.mp hs i j hi hj<|by lia)
def Z1j(pr:Nat->Int)(cov:Nat->Nat){n many:Nat}(hn:n<=9)(hm:many<=1000)(base:Nat):∃v,bo [.bw<|(Ô n).map λk=>PV.int<|pr k,.bw<|(Ô n).map λk=>PV.int (cov k:Nat),.sh<|.int many,.sh<|.int base]=.ret (.sh v)/\
 ((∃k,qZ (Z9 cov n (2^n-1) base) many=some k∧v=.tup [.str "none",.int k])∨
   ∃c,qZ (Z9 cov n (2^n-1) base) many=none/\c<2^n/\qZ (Z9 cov n c base) many=none/\(∀c',c'<2^n->qZ (Z9 cov n c' base) many=none->Z8 pr n c<=Z8 pr n c'/\(Z8 pr n c'=Z8 pr n c->c<=c'))/\
    v=.tup [.str "choice",.int c,.int<|Z8 pr n c,.lst<|(Ô<|2^n).map λc=>kT<|qZ (Z9 cov n c base) many]):=by
 have hp:2^n<=512:=by have:=lW (show 0<2 by lia) hn;simpa using this
 have hp0:0<2^n:=Nat.two_pow_pos n;have rr:=Zb (n:=2^n) (by lia);have hl:((Ô n).map λk=>PV.int<|pr k).length=n:=by simp
 have so:gy 1 (n:Int)=true:=by simp[gy];lia
 have rr':Ϥ [.int<|2^n]=some ((Ô<|2^n).map λ(i:Nat)=>PV.int (i:Int)):=by
  have:((2^n:Nat):Int)=2^n:=by simp
  rw[this]at rr;exact rr
 have c1:=đ (g:=gN 3) (mt:=ė) (me:=Ý<|Ü Ϗ<|Þ (Ý<|Ü lA<|È 1<|È 3<|È 2 Ö)<|È 0 Ö) (λ(c:Nat)=>PV.int (c:Int)) (λc=>kT<|qZ (Z9 cov n c base) many) (λU=>∃a,U=[.sh<|.int many,.bw<|(Ô n).map λk=>PV.int (cov k:Nat),.sh<|.int base,a]) (Ô<|2^n) [.sh<|.int many,.bw<|(Ô n).map λk=>PV.int (cov k:Nat),.sh<|.int base,.no] [] ⟨_,rfl⟩ (by simp;lia) (by
  rintro c _ U ⟨a,rfl⟩;have e1:=Z37 cov (show n<=1000 by lia) c base;have e2:=Z2u (Z9 cov n c base) hm;generalize (Ô n).map (λk=>PV.int (cov k:Nat))=L at*;exact⟨[.sh<|.int many,.bw L,.sh<|.int base,.sh<|.int c],[.sh<|.int many,.bw L,.sh<|.int base,.sh<|.int c],[.sh<|.int many,.bw L,.sh<|.int base,.sh<|.int c],by simp,by simp,by simp[e1,e2],_,rfl⟩)
 rw[Š]at c1;have il:=Z3U (λc=>kT<|qZ (Z9 cov n c base) many) hp0;cases hq:qZ (Z9 cov n (2^n-1) base) many with
 |some k=>refine⟨.tup [.str "none",.int k],?_,.inl ⟨k,rfl,rfl⟩⟩;rw[hq]at il;generalize (Ô<|2^n).map (λc=>kT<|qZ (Z9 cov n c base) many)=PA at*;generalize (Ô n).map (λk=>PV.int (cov k:Nat))=L at*;generalize (Ô n).map (λk=>PV.int<|pr k)=PR at*;simp[bo,fE,á,iY,gY,hl,so,rr',c1,il,kT,pA]
 |none=>
  rw[hq]at il;have c2:=dF (g:=gT 2<|ï (gN 0)<|ï (gN 1) ř) (mt:=Ϻ<|Ë pB (Â 1)<|mC .non) (me:=ì 0) (λ(c:Nat)=>PV.tup [.int c,kT<|qZ (Z9 cov n c base) many]) (λ(c:Nat)=>PV.int (c:Int)) (λc=>(qZ (Z9 cov n c base) many).isNone) (λU=>∃a b,U=[a,b]) (Ô<|2^n) [.no,.no] [] ⟨_,_,rfl⟩ (by simp;lia) (by
   rintro c _ U ⟨a,b,rfl⟩;refine⟨[.sh<|.int c,.sh<|kT<|qZ (Z9 cov n c base) many],[.sh<|.int c,.sh<|kT<|qZ (Z9 cov n c base) many],by simp,?_,λx=>⟨_,_,rfl⟩,λx=>⟨[.sh<|.int c,.sh<|kT<|qZ (Z9 cov n c base) many],by simp,_,_,rfl⟩⟩;cases qZ (Z9 cov n c base) many with
   |none=>simp[kT,pA]|some k=>simp[kT,pA])
  rw[Š]at c2;have en:=WU (λc=>kT<|qZ (Z9 cov n c base) many)<|2^n;obtain⟨c,hcm,c3,EX⟩:=Z0y pr (show n<=1000 by lia) (cs:=(Ô<|2^n).filter λc=>(qZ (Z9 cov n c base) many).isNone) (List.ne_nil_of_mem<|lP.mpr ⟨ϑ.mpr (show 2^n-1<2^n by lia),by rw[hq];rfl⟩)<|List.Pairwise.filter _ List.pairwise_lt_range;obtain⟨XE,Hh⟩:=lP.mp hcm;have c4:=WW (λk=>PV.int<|pr k) (show n<=1000 by lia) c;have e2:((Ô n).filter λk=>c.testBit k).map (λk=>PV.int<|pr k)=(((Ô n).filter λk=>c.testBit k).map pr).map PV.int:=by simp
  rw[e2]at c4;refine⟨.tup [.str "choice",.int c,.int<|Z8 pr n c,.lst<|(Ô<|2^n).map λc=>kT<|qZ (Z9 cov n c base) many],?_,.inr ⟨c,rfl,ϑ.mp XE,Cb.mp Hh,λc' h1 h2=>EX c' (lP.mpr ⟨ϑ.mpr h1,by rw[h2];rfl⟩),rfl⟩⟩;unfold Z8;generalize ((Ô n).filter λk=>c.testBit k).map pr=R at*;generalize ((Ô<|2^n).filter λc=>(qZ (Z9 cov n c base) many).isNone).map (λ(c:Nat)=>PV.int (c:Int))=CS at*;generalize (Ô<|2^n).map (λ(c:Nat)=>PV.tup [.int c,kT<|qZ (Z9 cov n c base) many])=ES at*;generalize (Ô<|2^n).map (λc=>kT<|qZ (Z9 cov n c base) many)=PA at*;generalize (Ô n).map (λk=>PV.int (cov k:Nat))=L at*;generalize (Ô n).map (λk=>PV.int<|pr k)=PR at*;simp[bo,fE,á,iY,gY,hl,so,rr',c1,il,kT,pA,en,c2,c3,c4]
def Z39(cov:Nat->Nat)(n c base j:Nat):(Z9 cov n c base).testBit j=(base.testBit j||(Ô n).any λk=>c.testBit k&&(cov k).testBit j):=by
 unfold Z9;have gen:∀(l:List Nat) (b:Nat),((l.filter λk=>c.testBit k).foldl (λb k=>b|||cov k) b).testBit j=(b.testBit j||l.any λk=>c.testBit k&&(cov k).testBit j):=by
  intro l
  induction l with
  |nil=>intro b;simp|cons k l ih=>
   intro b;cases hk:c.testBit k with
   |true=>rw[B5 hk,eD,ih,xv,eG,hk,rE,Bool.or_assoc]|false=>rw[List.filter_cons_of_neg (by simp[hk]),ih,eG,hk,Bool.false_and,wT]
 exact gen _ base
def cT(O:List (Th×Int))(c:Nat):List Th:=wI O (Ô O.length) c
def HA(o:Th×Int):PV:=.tup [dZ o.1,.int o.2]
theorem Z1e{α β:Type}{f g:α->Option β}:∀{l:List α},(∀x∈l,f x=g x)->l.findSome? f=l.findSome? g
 |[],_=>rfl|x::l,h=>by rw[lU,lU,h x Ş,Z1e λy hy=>h y<|þ _ hy]
def wK(T S:List Th)(D:List Dy)(qs:List Wt):Option Nat:=(Ô qs.length).findSome? λj=>if wJ (T++S) D (qs.getD j ô)then none else some j
def Z3V(T S:List Th)(D:List Dy)(q:Wt):wJ (T++S) D q=(wJ T D q||S.any λt=>AN D t q):=by
 unfold wJ AN;cases AE D q with
 |none=>simp|some r=>simp
def Z4S(O:List (Th×Int))(qs:List Wt)(c:Nat):qZ (Z9 (λk=>Z4 qs.length<|λj=>AN D (O.getD k ô).1 (qs.getD j ô)) O.length c<|Z4 qs.length<|λk=>wJ T D<|qs.getD k ô) qs.length=wK T (cT O c) D qs:=by
 unfold qZ wK;refine Z1e λj hj=>?_;have hj:=ϑ.mp hj;rw[Z39,Zl,decide_eq_true hj,rE,Z3V];have e:((Ô O.length).any λk=>c.testBit k&&(Z4 qs.length<|λj=>AN D (O.getD k ô).1 (qs.getD j ô)).testBit j)=((cT O c).any λt=>AN D t<|qs.getD j ô):=by
  unfold cT wI;rw[List.any_map,List.any_filter];congr 1
  funext k
  rw[Zl,decide_eq_true hj,rE];rfl
 rw[e]
def Z2w(Y:Hw w h T)(hD:∀d∈D,QB lg d)(hO:O.length<=9)(hOg:∀o∈O,Z1 o.1.1 o.1.2=true)(hl:qs.length<=1000)(hq:∀q∈qs,Zt w h q/\ZF D q):
 ∃v,iL [.sh<|Z0 w h T D,.bw<|O.map HA,.sh<|.lst<|qs.map gQ]=.ret (.sh v)/\
  ((∃k,wK T (cT O<|2^O.length-1) D qs=some k∧v=.tup [.str "none",.int k])∨
    ∃c,wK T (cT O<|2^O.length-1) D qs=none/\c<2^O.length/\wK T (cT O c) D qs=none/\(∀c',c'<2^O.length->wK T (cT O c') D qs=none->Z8 (λk=>(O.getD k ô).2) O.length c<=Z8 (λk=>(O.getD k ô).2) O.length c'/\(Z8 (λk=>(O.getD k ô).2) O.length c'=Z8 (λk=>(O.getD k ô).2) O.length c->c<=c'))/\
     v=.tup [.str "choice",.int c,.int<|Z8 (λk=>(O.getD k ô).2) O.length c,.lst<|(Ô<|2^O.length).map λc=>kT<|wK T (cT O c) D qs]):=by
 have k1:=Z35 (T:=T) hq;have c1:=đ (g:=gT 2<|ï (gN 0)<|ï (gN 1) ř) (mt:=ė) (me:=ì 1) HA (λo=>PV.int o.2) (λU=>∃a b,U=[a,b]) O [.no,.no] [] ⟨_,_,rfl⟩ (by simp;lia) (by
  rintro t _ U ⟨a,b,rfl⟩;exact⟨[.sh<|dZ t.1,.sh<|.int t.2],[.sh<|dZ t.1,.sh<|.int t.2],[.sh<|dZ t.1,.sh<|.int t.2],by simp[HA],by simp,by simp,_,_,rfl⟩)
 have c2:=đ (g:=gT 2<|ï (gN 2)<|ï (gN 3) ř) (mt:=ė) (me:=Ý<|Ü bu<|È 0<|È 2<|È 1 Ö) HA (λo=>PV.int (Z4 qs.length (λk=>AN D o.1<|qs.getD k ô):Nat)) (λU=>∃a b,U=[.sh<|Z0 w h T D,.sh<|.lst<|qs.map gQ,a,b]) O [.sh<|Z0 w h T D,.sh<|.lst<|qs.map gQ,.no,.no] [] ⟨_,_,rfl⟩ (by simp;lia) (by
  rintro t ht U ⟨a,b,rfl⟩;have e:=Z4x Y hD (hOg t ht) hl hq;generalize Z0 w h T D=Yv,qs.map gQ=QS at*;exact⟨[.sh Yv,.sh<|.lst QS,.sh<|dZ t.1,.sh<|.int t.2],[.sh Yv,.sh<|.lst QS,.sh<|dZ t.1,.sh<|.int t.2],[.sh Yv,.sh<|.lst QS,.sh<|dZ t.1,.sh<|.int t.2],by simp[HA],by simp,by simp[e],_,_,rfl⟩)
 have k2:=Z4y Y hD hl hq;rw[Š,Zw (λo:Th×Int=>PV.int o.2) ô O]at c1;rw[Š,Zw (λo:Th×Int=>PV.int ((Z4 qs.length (λk=>AN D o.1<|qs.getD k ô):Nat):Int)) ô O]at c2;obtain⟨v,k3,hv⟩:=Z1j (λk=>(O.getD k ô).2) (λk=>Z4 qs.length<|λj=>AN D (O.getD k ô).1 (qs.getD j ô)) (n:=O.length) (many:=qs.length) hO hl<|Z4 qs.length<|λk=>wJ T D<|qs.getD k ô;simp only[Z4S]at hv;have Te:((qs.map gQ).length:Int)=(qs.length:Int):=by simp
 refine⟨v,?_,hv⟩;clear hv;generalize (Ô O.length).map (λk=>PV.int ((Z4 qs.length (λj=>AN D (O.getD k ô).1 (qs.getD j ô)):Nat):Int))=CV at*;generalize (Ô O.length).map (λk=>PV.int (O.getD k ô).2)=PR at*;generalize Z4 qs.length (λk=>wJ T D<|qs.getD k ô)=B0 at*;generalize Z0 w h T D=Yv,qs.map gQ=QS,O.map HA=OS at*;simp[iL,pU,á,iY,gY,k1,c1,c2,k2,k3,Te]
def gR(os:List (Option P3)):List Dz:=[(wC "one",1,os)]
structure AO(w h:Nat)(T:List Th)(os:List (Option P3))(O:List (Th×Int)):Prop where
 w0:1<=w/\w<=3
 h0:1<=h/\h<=3
 tl:T.length<=1
 tg:∀t∈T,Z1 t.1 t.2=true
 o1:1<=os.length/\os.length<=3
 ot:∀o∈os,Zk o
 nl:O.length<=4
 ng:∀o∈O,Z1 o.1.1 o.1.2=true
def Z4z:Nm (wC "one"):=by
 have e:wC "one"=[111,110,101]:=by decide+kernel
 rw[e];refine⟨by simp,by simp,λc hc=>?_⟩;simp at hc;lia
def Z4A(O:List (Th×Int))(c:Nat):(cT O c).length<=O.length:=by unfold cT wI;rw[Ğ];exact Ţ (B6 _ _) (by simp)
def Z3W(h:∀o∈O,Z1 o.1.1 o.1.2=true)(c:Nat):∀t∈cT O c,Z1 t.1 t.2=true:=λt ht=>by
 obtain⟨k,hk,rfl⟩:=ģ.mp ht;have hk:=ϑ.mp (lP.mp hk).1;have:O.getD k ô=O[k]:=by simp[hk]
 rw[this];exact h _<|ϒ hk
section
variable{w h:Nat}{T:List Th}{os:List (Option P3)}{O:List (Th×Int)}(Y:AO w h T os O)
include Y
def AO.dz:∀d∈gR os,Zs d:=λd hd=>by rw[cu.mp hd];exact⟨Z4z,by dsimp only;lia,by dsimp only;lia,Y.o1.1,by have:=Y.o1.2;dsimp only;lia,Y.ot⟩
def AO.wh:w*h<=9:=by have:=eI Y.w0.2 Y.h0.2;lia
def AO.ok(c:Nat):Hw w h (T++cT O c):=by
 have a:=Y.wh;have b:=Y.w0;have e:=Y.h0;have l:=Z4A O c;have n:=Y.nl;have t:=Y.tl;refine⟨by lia,by lia,by lia,by lia,by simp;lia,λt ht=>?_⟩;rcases ź.mp ht with h|h
 ·exact Y.tg t h
 ·exact Z3W Y.ng c t h
def AO.ok0:Hw w h T:=by have a:=Y.wh;have b:=Y.w0;have e:=Y.h0;have t:=Y.tl;exact⟨by lia,by lia,by lia,by lia,by lia,Y.tg⟩
def AO.day:∀d∈(gR os).map zV,QB 4 d:=λd hd=>by rw[cu.mp hd];exact⟨by simp[zV],by have:=Y.o1.2;simp[zV];lia,λo ho=>Z3l<|Y.ot o ho⟩
def AO.ds(c:Nat):Ds w h (T++cT O c) (gR os):=⟨Y.ok c,by simp[gR],λd hd=>⟨Y.dz d hd,by rw[cu.mp hd];have:=Y.o1.2;dsimp only;lia⟩,by simp[gR]⟩
def AO.read:cU [.sh<|sV<|qX w h T<|gR os]=.ret (.sh<|Z0 w h T<|(gR os).map zV):=by have a:=Y.w0;have b:=Y.h0;exact Z3L ⟨by lia,by lia⟩ ⟨by lia,by lia⟩ Y.tg (by have:=Y.tl;lia) Y.dz (by simp[gR]) (by simp[gR])
def AO.desk:tH [.sh<|sV<|qX w h T<|gR os]=.ok ["yard"] [Z0 w h T<|(gR os).map zV]:=by have e:=Y.read;generalize Z0 w h T ((gR os).map zV)=Yv,sV (qX w h T<|gR os)=TX at*;simp[tH,dE,jI,e,fH,putN,yV,ĕ,á]
def Zu(w h:Nat)(T:List Th)(o:Option P3):PV:=.lst<|(qH w h (vz w h T o).testBit).map sV
def AO.comp(c:Nat):ī (gN 1) ė (Ý<|vx cJ (Ý<|kH "say" [("Desk",ų)] (ì 0) (Þ (Ý<|ċ Ă (mC<|.str "dark one ")<|aG jy<|É (Â 1) æ) Ö))<|É (mC<|.str "/") æ) ((Ô os.length).map λ(i:Nat)=>PV.int (i:Int)) [.sh<|Zq<|Z0 w h (T++cT O c)<|(gR os).map zV,.no] []=some (os.map<|Zu w h<|T++cT O c):=by
 have c1:=đ (g:=gN 1) (mt:=ė) (me:=Ý<|vx cJ (Ý<|kH "say" [("Desk",ų)] (ì 0) (Þ (Ý<|ċ Ă (mC<|.str "dark one ")<|aG jy<|É (Â 1) æ) Ö))<|É (mC<|.str "/") æ) (λ(i:Nat)=>PV.int (i:Int)) (λj=>Zu w h (T++cT O c)<|os.getD j none) (λU=>∃a,U=[.sh<|Zq<|Z0 w h (T++cT O c)<|(gR os).map zV,a]) (Ô os.length) [.sh<|Zq<|Z0 w h (T++cT O c)<|(gR os).map zV,.no] [] ⟨_,rfl⟩ (by have:=Y.o1.2;simp;lia) (by
  rintro j hj U ⟨a,rfl⟩;have hj:=ϑ.mp hj;have o1:=Y.o1.2;have sd:=Z32 (Y.ds c) (i:=0) (j:=j) (by simp[gR]) hj;have gd:os.getD j none=os[j]:=by simp[hj]
  rw[gd];change ų [.sh<|Zq<|Z0 w h (T++cT O c)<|(gR os).map zV,.sh<|sV<|QG (wC "one") j]=.ret (.sh<|sV<|Ŝ [47] (qH w h (vz w h (T++cT O c) os[j]).testBit))at sd;have nb:=WQ (show j<=100000 by lia);have nl:=(SX nb.1 nb.2).2;have st:=Zm nb;have dl:(wC "dark one ").length=9:=by decide+kernel
  have a1:=Z4w (a:=wC "dark one ") (b:=nT (j:Int)) (by lia) (by lia);have er:wC "dark one "++nT (j:Int)=QG (wC "one") j:=by rw[Z33];congr 1
  rw[er,<-QE]at a1;change Ă _ (ah (j:Int))=_ at a1;have pl:=Z3S (show w<=60 by have:=Y.w0;lia) (show h<=1000 by have:=Y.h0;lia) (vz w h (T++cT O c) os[j]).testBit;have pe:qH w h (vz w h (T++cT O c) os[j]).testBit≠[]:=λz=>by have q:=congrArg cq z;have:=Y.h0;unfold qH at q;simp at q;lia
  have sp:=ZE (c:=47) (by lia) c47 (l:=Ŝ [47] (qH w h (vz w h (T++cT O c) os[j]).testBit)) (by lia);rw[Sp.kr 47 _ pe<|Z4v _]at sp;unfold Zu;unfold Zq at*;generalize (qH w h (vz w h (T++cT O c) os[j]).testBit).map sV=PL at*;change cJ (.str<|S<|Ŝ [47] (qH w h (vz w h (T++cT O c) os[j]).testBit)) _=_ at sp;change ų _=.ret (.sh<|.str<|S<|Ŝ [47] (qH w h (vz w h (T++cT O c) os[j]).testBit))at sd;generalize S (Ŝ [47] (qH w h (vz w h (T++cT O c) os[j]).testBit))=J,Z0 w h (T++cT O c) ((gR os).map zV)=Yv,sV (QG (wC "one") j)=RD at*;generalize ah (j:Int)=JV at*;exact⟨[.sh<|.ins "Desk" ["yard"] [Yv],.sh<|.int j],_,[.sh<|.ins "Desk" ["yard"] [Yv],.sh<|.int j],rfl,rfl,by simp[st,a1,nSY,nYS,sd,sp],_,rfl⟩)
 rw[Š,<-Zw]at c1;exact c1
def AO.QH(c:Nat):ay [.sh<|sV<|qX w h T<|gR os,.sh<|.lst<|O.map iR,.sh<|.int c,.sh<|.int os.length]=.ret (.sh<|.lst<|os.map<|Zu w h<|T++cT O c):=by
 have n:=Y.nl;have t:=Y.tl;have o1:=Y.o1.2;have dk:=Y.desk;have cp:=Y.comp c;have hl:(O.map iR).length=O.length:=by simp
 have rr:=Zb (n:=O.length) (by lia);have r2:=Zb (n:=os.length) (by lia);obtain⟨s5,lp⟩:=Z0F (w:=w) (h:=h) (T:=T) (D:=(gR os).map zV) (by simp[gR]) Y.ng c (.sh<|sV<|qX w h T<|gR os) (.sh<|.int os.length) (Ô O.length) [] .no (λk hk=>ϑ.mp hk) (by simp;lia);rw[fO,Š]at lp;change Ĵ _ _ _ _=.ok .nx [_,_,_,_,.rc "Desk" ["yard"] [Z0 w h (T++cT O c)<|(gR os).map zV],s5]at lp;unfold Zq at cp;have hi:((O.map iR).length:Int)=O.length:=by rw[hl]
 clear hl;generalize hOS:O.map iR=OS at*;generalize os.map (Zu w h<|T++cT O c)=PS,Z0 w h (T++cT O c) ((gR os).map zV)=Y2,Z0 w h T ((gR os).map zV)=Y1,sV (qX w h T<|gR os)=TX at*;generalize (Ô O.length).map (λ(i:Nat)=>PV.int (i:Int))=R1 at*;generalize (Ô os.length).map (λ(i:Nat)=>PV.int (i:Int))=R2 at*;simp[ay,jK,zi,á,dk,hi,rr,lp,r2,cp,iY,gY]
end
section
variable{w h:Nat}{T:List Th}{os:List (Option P3)}{O:List (Th×Int)}(Y:AO w h T os O)
include Y
abbrev ve(os:List (Option P3)):List Dy:=(gR os).map zV
def AO.first(c:Nat)(hl:qs.length<=1000)(hq:∀q∈qs,Zt w h q/\ZF (ve os) q):ļ [.sh<|.lst<|os.map<|Zu w h<|T++cT O c,.bw<|qs.map gQ]=.ret (.sh<|kT<|wK T (cT O c) (ve os) qs):=by
 have rr:=Zb (n:=qs.length) hl;have Te:((qs.map gQ).length:Int)=(qs.length:Int):=by simp
 have JH:=ju (g:=gN 2) (mb:=ű) (λ(k:Nat)=>PV.int (k:Int)) (λj=>if wJ (T++cT O c) (ve os) (qs.getD j ô)then none else some j) (λk=>RV.sh<|.int (k:Nat)) (λU=>∃a b c' d,U=[.sh<|.lst<|os.map<|Zu w h<|T++cT O c,.bw<|qs.map gQ,a,b,c',d]) (Ô qs.length) (by
  rintro j hj U ⟨a,b,c',d,rfl⟩;have hj:=ϑ.mp hj;have hgd:qs.getD j ô=qs[j]:=by simp[hj]
  obtain⟨jN,htu⟩:=hq qs[j] (ϒ hj);have hx:(qs.map gQ)[j]?=some (gQ qs[j]):=by simp[hj]
  rw[hgd];generalize qs[j]=q at*;have w0:=Y.w0;obtain⟨k,hk,e1⟩:=Z1z (show 0<w by lia) jN;obtain⟨⟨a1,a2⟩,a3,a4⟩:=htu;have l1:(ve os).length=1:=rfl;have hi:q.2.2.1=0:=by lia
  rw[hi]at a4;obtain⟨t,ht⟩:∃t:Nat,q.2.2.2=(t:Int):=⟨q.2.2.2.toNat,by lia⟩;have NU:t<os.length:=by have:q.2.2.2<(os.length:Int):=a4;lia
  have ho:AE (ve os) q=os[t]:=by unfold AE;rw[hi,ht];show os.getD t none=_;simp[NU]
  have ex:q.1=((k%w:Nat):Int):=congrArg Prod.fst e1;have ey:q.2.1=((k/w:Nat):Int):=congrArg Prod.snd e1;obtain⟨p1,p2⟩:=Z4u (h:=h) (vz w h (T++cT O c) os[t]).testBit (show 0<w by lia) hk;have hb:(vz w h (T++cT O c) os[t]).testBit k=wJ (T++cT O c) (ve os) q:=by
   unfold vz;rw[Zl,decide_eq_true hk,rE];unfold wJ;rw[ho];unfold JC;cases os[t]with
   |none=>rfl|some r=>unfold zr;dsimp only;rw[<-e1]
  rw[hb]at p2;have p3:=Z4Q p2 (by rw[ZR];lia);have es:=Z4R<|wJ (T++cT O c) (ve os) q;have px:(os.map<|Zu w h<|T++cT O c)[t]?=some (.lst<|(qH w h (vz w h (T++cT O c) os[t]).testBit).map sV):=by simp[NU];rfl
  generalize os.map (Zu w h<|T++cT O c)=OV,(qH w h (vz w h (T++cT O c) os[t]).testBit).map sV=PL,sV (Zx w (vz w h (T++cT O c) os[t]).testBit (k/w))=RW,sV [sg<|wJ (T++cT O c) (ve os) q]=SG at*;generalize wJ (T++cT O c) (ve os) q=B,qs.map gQ=QS at*;unfold gQ at hx;rw[ex,ey,hi,ht]at hx;generalize k%w=x,k/w=y at*;refine⟨[.sh<|.lst OV,.bw QS,.sh<|.int j,b,c',d],rfl,?_⟩;cases B with
  |true=>exact .inr ⟨[.sh<|.lst OV,.bw QS,.sh<|.int j,.sh<|.tup [.int x,.int y],.sh<|.int 0,.sh<|.int t],by simp,by simp[ű,hx,px,p1,p3,es],_,_,_,_,rfl⟩|false=>exact .inl ⟨j,[.sh<|.lst OV,.bw QS,.sh<|.int j,.sh<|.tup [.int x,.int y],.sh<|.int 0,.sh<|.int t],by simp,by simp[ű,hx,px,p1,p3,es]⟩) [.sh<|.lst<|os.map<|Zu w h<|T++cT O c,.bw<|qs.map gQ,.no,.no,.no,.no] ⟨_,_,_,_,rfl⟩
 unfold wK;generalize os.map (Zu w h<|T++cT O c)=OV,qs.map gQ=QS at*;rcases JH with⟨r,U',e1,e2⟩|⟨U',e1,e2,_⟩
 ·rw[e1];simp[ļ,ac,á,Te,rr,e2,kT]
 ·rw[e1];simp[ļ,ac,á,Te,rr,e2,kT]
end
def Z1B{O:List (Th×Int)}(hO:O.length<=1000)(c:Nat):gJ [.sh<|.lst<|O.map iR,.sh<|.int c]=.ret (.sh<|.int<|Z8 (λk=>(O.getD k ô).2) O.length c):=by
 have rr:=Zb (n:=O.length) hO;have hl:((O.map iR).length:Int)=(O.length:Int):=by simp
 have e:=dF (g:=gN 2) (mt:=Ϻ<|Ë Œ (Ë ei (Ë ll (Â 1)<|Â 2)<|Æ 1)<|Æ 1) (me:=Ë ã (Ë ã (Â 0)<|Â 2)<|Æ 1) (λ(k:Nat)=>PV.int (k:Int)) (λk=>PV.int (O.getD k ô).2) (λk=>c.testBit k) (λU=>∃a,U=[.sh<|.lst<|O.map iR,.sh<|.int c,a]) (Ô O.length) [.sh<|.lst<|O.map iR,.sh<|.int c,.no] [] ⟨_,rfl⟩ (by simp;lia) (by
  rintro k hk U ⟨a,rfl⟩;have hk:=ϑ.mp hk;have hx:(O.map iR)[k]?=some (.tup [qY O[k].1,.int O[k].2]):=by simp[hk,iR]
  have gd:O.getD k ô=O[k]:=by simp[hk]
  rw[gd];have b:=Z2r c k;have so:=ZN c k;generalize O.map iR=OS,qY O[k].1=WV at*;refine⟨[.sh<|.lst OS,.sh<|.int c,.sh<|.int k],[.sh<|.lst OS,.sh<|.int c,.sh<|.int k],by simp,?_,λx=>⟨_,rfl⟩,λx=>⟨[.sh<|.lst OS,.sh<|.int c,.sh<|.int k],by simp[hx],_,rfl⟩⟩;cases hb:c.testBit k<;>rw[hb]at b<;>simp[b,so])
 rw[Š,show(λk=>PV.int (O.getD k ô).2)=PV.int ∘ λk=>(O.getD k ô).2 from rfl,<-ķ]at e;unfold Z8;generalize ((Ô O.length).filter λk=>c.testBit k).map (λk=>(O.getD k ô).2)=R at*;generalize O.map iR=OS at*;simp[gJ,qS,á,iY,gY,hl,rr,e]
def nes(o:Option Nat):cX (kT o) (kT o)=some (.bl false):=by
 cases o with
 |none=>rfl|some k=>simp[kT]
section
variable{w h:Nat}{T:List Th}{os:List (Option P3)}{O:List (Th×Int)}(Y:AO w h T os O)
include Y
def AO.paper(hl:qs.length<=1000)(hq:∀q∈qs,Zt w h q/\ZF (ve os) q)(hc:c<2^O.length)(XI:wK T (cT O c) (ve os) qs=none)
 (EX:∀c',c'<2^O.length->wK T (cT O c') (ve os) qs=none->Z8 (λk=>(O.getD k ô).2) O.length c<=Z8 (λk=>(O.getD k ô).2) O.length c'/\(Z8 (λk=>(O.getD k ô).2) O.length c'=Z8 (λk=>(O.getD k ô).2) O.length c->c<=c')):
 ag [.sh<|sV<|qX w h T<|gR os,.sh<|.lst<|O.map iR,.bw<|qs.map gQ,.sh<|.int os.length,.sh<|.tup [.str "choice",.int c,.int<|Z8 (λk=>(O.getD k ô).2) O.length c,.lst<|(Ô<|2^O.length).map λc=>kT<|wK T (cT O c) (ve os) qs]]=.ret (.sh<|.bl true):=by
 have n:=Y.nl;have hp:2^O.length<=16:=by have:=lW (show 0<2 by lia) n;simpa using this
 have hpi:((2^O.length:Nat):Int)=2^O.length:=by simp
 have rr:=Zb (n:=2^O.length) (by lia);have so:gy 1 (O.length:Int)=true:=by simp[gy];lia
 have Hi:((O.map iR).length:Int)=O.length:=by simp
 have E4:∀d,d<2^O.length->((Ô<|2^O.length).map λc=>kT<|wK T (cT O c) (ve os) qs)[d]?=some (kT<|wK T (cT O d) (ve os) qs):=λd hd=>by simp[hd]
 have hpl:(((Ô<|2^O.length).map λc=>kT<|wK T (cT O c) (ve os) qs).length:Int)=((2^O.length:Nat):Int):=by simp
 have XJ:=E4 c hc;rw[XI]at XJ;have qI:=Z1B (O:=O) (by lia) c;generalize ((Ô<|2^O.length).map λc=>kT<|wK T (cT O c) (ve os) qs)=PA at*;generalize hSC:Z8 (λk=>(O.getD k ô).2) O.length c=sc at*;obtain⟨U',el,a,b,e,rfl⟩:=gm (g:=gN 5) (mb:=ŭ) (λ(k:Nat)=>PV.int (k:Int)) (λ(x:Unit) x=>()) (λx U=>∃a b e,U=[.sh<|sV<|qX w h T<|gR os,.sh<|.lst<|O.map iR,.bw<|qs.map gQ,.sh<|.int os.length,.sh<|.tup [.str "choice",.int c,.int sc,.lst PA],a,b,e]) (Ô<|2^O.length) (by
  rintro d hd _ U ⟨a,b,e,rfl⟩;have hd:=ϑ.mp hd;have ep:=Y.QH d;have ef:=Y.first d hl hq;have es:=Z1B (O:=O) (by lia) d;have hx:=E4 d hd;have hm:=EX d hd;have ne:=nes<|wK T (cT O d) (ve os) qs;refine⟨[.sh<|sV<|qX w h T<|gR os,.sh<|.lst<|O.map iR,.bw<|qs.map gQ,.sh<|.int os.length,.sh<|.tup [.str "choice",.int c,.int sc,.lst PA],.sh<|.int d,b,e],[.sh<|sV<|qX w h T<|gR os,.sh<|.lst<|O.map iR,.bw<|qs.map gQ,.sh<|.int os.length,.sh<|.tup [.str "choice",.int c,.int sc,.lst PA],.sh<|.int d,.sh<|kT<|wK T (cT O d) (ve os) qs,.sh<|.int<|Z8 (λk=>(O.getD k ô).2) O.length d],rfl,?_,_,_,_,rfl⟩;clear E4 EX;generalize Z8 (λk=>(O.getD k ô).2) O.length d=sd at*;generalize wK T (cT O d) (ve os) qs=Qqq,os.map (Zu w h<|T++cT O d)=OV,qs.map gQ=QS,sV (qX w h T<|gR os)=TX,O.map iR=OS at*;cases Qqq with
  |some k=>have i1:rl [.int (k:Int),.ty "int"]=some (.bl true):=rfl;have i2:rl [.int (k:Int),.ty "bool"]=some (.bl false):=rfl;have i3:pA (.int (k:Int))=false:=rfl;simp only[kT]at*;simp[ŭ,ep,ef,es,hx,ne,i1,i2,i3]|none=>
   have i1:rl [.non,.ty "int"]=some (.bl false):=rfl
   replace hm:=hm rfl
   simp only[kT]at*;have n1:¬sd<sc:=by lia
   by_cases n2:sd=sc
   ·have n3:¬(d:Int)<(c:Int):=by have:=hm.2 n2;lia
    subst n2;simp[ŭ,ep,ef,es,hx,ne,i1,pA,n3]
   ·simp[ŭ,ep,ef,es,hx,ne,i1,pA,n1,n2]) () [.sh<|sV<|qX w h T<|gR os,.sh<|.lst<|O.map iR,.bw<|qs.map gQ,.sh<|.int os.length,.sh<|.tup [.str "choice",.int c,.int sc,.lst PA],.no,.no,.no] ⟨_,_,_,rfl⟩
 have i1:rl [.lst PA,.ty "list"]=some (.bl true):=rfl;generalize qs.map gQ=QS,sV (qX w h T<|gR os)=TX at*;generalize (Ô<|2^O.length).map (λ(i:Nat)=>PV.int (i:Int))=RG at*;generalize O.map iR=OS at*;have rr2:=rr;rw[hpi]at rr2;simp only[kT]at XJ;simp[ag,fM,á,i1,hpl,Hi,so,hpi,rr,rr2,el,XJ,pA,qI]
end
def ZJ(h:sm x):Pl x:=⟨by have:=h.1;lia,by have:=h.2;lia⟩
def Z0H(h:Tb t):Z1 t.1 t.2=true:=by
 rcases h with⟨x,y,z,rfl,hx,hy,hz⟩|⟨x,y,z,a,b,c,d,e,f,rfl,h1,h2,h3,h4,h5,h6,h7,h8,h9⟩|⟨_,_,hg⟩
 ·exact Z4O (ZJ hx) (ZJ hy) hz
 ·exact Z4n (ZJ h1) (ZJ h2) (by lia) (ZJ h4) (ZJ h5) (by lia) (ZJ h7) (ZJ h8) (by lia)
 ·exact hg
theorem Z1f(ns:List Int)(hw:1<=w/\w<=20)(hh:1<=h/\h<=20):∀(ks:List Nat) (acc:List PV) (s1:ť),acc.length+ks.length<=1000->∃T:List Th,ī (gN 3) ė (Ý<|Ü Ŭ<|Þ (Ý<|ċ Ă (Ý<|Ü ņ<|È 2<|Þ (Æ 2) Ö)<|Â 3)<|È 0<|È 1 Ö) (ks.map λ(i:Nat)=>PV.int (i:Int)) [.sh<|.int w,.sh<|.int h,.sh<|.lst<|ns.map .int,s1] acc=some (acc++T.map qY)/\T.length=ks.length/\∀t∈T,Z1 t.1 t.2=true
 |[],acc,s1,_=>⟨[],by simp[ī],rfl,by simp⟩|k::ks,acc,s1,hl=>by
  rw[ĝ]at hl;obtain⟨p,e0,_⟩:=ZC ns 2;obtain⟨t,e1,e2⟩:=Z3j (p+k) hw hh;obtain⟨T,q1,q2,q3⟩:=Z1f ns hw hh ks (acc++[qY t]) (.sh<|.int k) (by simp;lia);refine⟨t::T,?_,by simp[q2],?_⟩
  ·have hc:acc.length<16777216:=by lia
   have ew:PV.lst (.str t.1::t.2.map .int)=qY t:=rfl;rw[à,ī,à];generalize ns.map PV.int=L at*;obtain⟨W,hW⟩:∃W,PV.str t.1::t.2.map .int=W:=⟨_,rfl⟩;rw[hW]at e1 ew;generalize T.map qY=TT,qY t=V at*;simp[e0,e1,hc,ew];simpa using q1
  ·intro x hx;rcases û.mp hx with rfl|hx
   ·exact Z0H e2
   ·exact q3 x hx
theorem Z2x(ns:List Int):∀(ks:List Nat),(∀k∈ks,k<=100)->∀(acc:List PV) (s1:ť),acc.length+ks.length<=1000->∃os:List (Option P3),ī (gN 1) ė (Ý<|Ü ϡ<|Þ (Ý<|ċ Ă (Ý<|Ü ņ<|È 0<|Þ (Æ 3) Ö)<|Ë ď (Ë ď (Æ 5)<|Â 1)<|Â 1) Ö) (ks.map λ(i:Nat)=>PV.int (i:Int)) [.sh<|.lst<|ns.map .int,s1] acc=some (acc++os.map aE)/\os.length=ks.length/\∀o∈os,Zk o
 |[],_,acc,s1,_=>⟨[],by simp[ī],rfl,by simp⟩|k::ks,hk,acc,s1,hl=>by
  rw[ĝ]at hl;have k1:=hk k Ş;obtain⟨p,e0,_⟩:=ZC ns 3;have m1:ľ 5 (k:Int)=true:=ό (by lia) (by lia);have m2:ľ (5*(k:Int)) k=true:=ό (by lia) (by lia);obtain⟨o,e1,e2⟩:=Z2T<|p+5*(k:Int)*k;obtain⟨os,q1,q2,q3⟩:=Z2x ns ks (λx hx=>hk x<|þ _ hx) (acc++[aE o]) (.sh<|.int k) (by simp;lia);refine⟨o::os,?_,by simp[q2],?_⟩
  ·have hc:acc.length<16777216:=by lia
   rw[à,ī,à];generalize ns.map PV.int=L,aE o=O at*;simp[e0,e1,hc,m1,m2];simpa using q1
  ·intro x hx;rcases û.mp hx with rfl|hx
   ·exact e2
   ·exact q3 x hx
section
variable(ns:List Int){w h:Nat}(hw:1<=w/\w<=20)(hh:1<=h/\h<=20)(s3 s4 s6 s9 zS FM D_ HC:ť)
include hw hh
def Z1Y(k:Nat)(hO:O.length<=1000)(s5 BI BJ:ť):∃(o:Th×Int) (a b:ť),zq [.sh<|.lst<|ns.map .int,.sh<|.int w,.sh<|.int h,s3,s4,s5,s6,.ow<|O.map iR,.sh<|.int k,s9,zS,FM,D_,HC,BI,BJ]=.ok .nx [.sh<|.lst<|ns.map .int,.sh<|.int w,.sh<|.int h,s3,s4,s5,s6,.ow<|(O++[o]).map iR,.sh<|.int k,s9,zS,FM,D_,HC,a,b]/\Z1 o.1.1 o.1.2=true:=by
 obtain⟨p,e0,_⟩:=ZC ns<|4+k;obtain⟨v,hv⟩:∃v,p+(k:Int)=v:=⟨_,rfl⟩;obtain⟨t,e1,e2⟩:=Z3j (v/84) (w:=(w:Int)) (h:=(h:Int)) (by lia) (by lia);have pr:∃m:Int,ã (.lst [.int<|v%21,.int<|v%21,.int<|v%1000000001,.int 1]) (.int<|v/21%4)=some (.int m):=by
  have hd:v/21%4=0\/v/21%4=1\/v/21%4=2\/v/21%4=3:=by lia
  rcases hd with hd|hd|hd|hd<;>rw[hd]<;>exact⟨_,rfl⟩
 obtain⟨m,pr⟩:=pr;refine⟨(t,m),.sh<|.int v,.sh<|.int m,?_,Z0H e2⟩;have hc:(O.map iR).length<16777216:=by rw[Ğ];lia
 rw[Ŕ];have ho:[((t,m):Th×Int)].map iR=[.tup [qY t,.int m]]:=rfl;have ew:PV.lst (.str t.1::t.2.map .int)=qY t:=rfl;rw[ho];obtain⟨W,hW⟩:∃W,PV.str t.1::t.2.map .int=W:=⟨_,rfl⟩;rw[hW]at e1 ew;generalize O.map iR=OS,qY t=V,ns.map PV.int=L at*;simp[zq,e0,hv,WN,pr,e1,ew,hc,-Bl]
theorem Z09(s5:ť):∀(ks:List Nat) (O:List (Th×Int)) (s8 BI BJ:ť),O.length+ks.length<=1000->(∀o∈O,Z1 o.1.1 o.1.2=true)->∃(O':List (Th×Int)) (a b c:ť),Ĵ (gN 8) zq (ks.map λ(i:Nat)=>PV.int (i:Int)) [.sh<|.lst<|ns.map .int,.sh<|.int w,.sh<|.int h,s3,s4,s5,s6,.ow<|O.map iR,s8,s9,zS,FM,D_,HC,BI,BJ]=.ok .nx [.sh<|.lst<|ns.map .int,.sh<|.int w,.sh<|.int h,s3,s4,s5,s6,.ow<|O'.map iR,a,s9,zS,FM,D_,HC,b,c]/\O'.length=O.length+ks.length/\∀o∈O',Z1 o.1.1 o.1.2=true
 |[],O,s8,BI,BJ,_,hO=>⟨O,s8,BI,BJ,rfl,rfl,hO⟩|k::ks,O,s8,BI,BJ,hn,hO=>by
  simp only[ĝ]at hn;obtain⟨o,a,b,e1,g1⟩:=Z1Y ns hw hh s3 s4 s6 s9 zS FM D_ HC k (O:=O) (by lia) s5 BI BJ;obtain⟨O',c',a',b',e2,l2,g2⟩:=Z09 s5 ks (O++[o]) (.sh<|.int k) a b (by simp;lia) (by
   intro y hy;rcases ź.mp hy with hy|hy
   ·exact hO y hy
   ·rw[cu.mp hy];exact g1)
  refine⟨O',c',a',b',?_,by simp at l2⊢;lia,g2⟩;rw[à,Ĵ];generalize (O++[o]).map iR=O1,O'.map iR=O2,O.map iR=OS,ns.map PV.int=L at*;simp[e1];exact e2
def Z4B(k:Nat){os:List (Option P3)}(ho:1<=os.length)(hQ:Q.length<=1000)(s7 BI BJ:ť):∃(q:Wt) (a:ť),zp [.sh<|.lst<|ns.map .int,.sh<|.int w,.sh<|.int h,s3,s4,.sh<|.lst<|os.map aE,s6,s7,.sh<|.int k,.ow<|Q.map gQ,zS,FM,D_,HC,BI,BJ]=.ok .nx [.sh<|.lst<|ns.map .int,.sh<|.int w,.sh<|.int h,s3,s4,.sh<|.lst<|os.map aE,s6,s7,.sh<|.int k,.ow<|(Q++[q]).map gQ,zS,FM,D_,HC,a,BJ]/\Zt w h q/\ZF (ve os) q:=by
 obtain⟨p,e0,_⟩:=ZC ns<|9+k;obtain⟨v,hv⟩:∃v,p+(k:Int)=v:=⟨_,rfl⟩;obtain⟨x,x1,x2,x3⟩:=fm v (b:=(w:Int)) (by lia);obtain⟨y,y1,y2,y3⟩:=fm (v/4) (b:=(h:Int)) (by lia);have Hi:(os.map aE).length=os.length:=by simp
 obtain⟨z,z1,z2,z3⟩:=fm (v/16) (b:=((os.map aE).length:Int)) (by lia);refine⟨(x,y,0,z),.sh<|.int v,?_,⟨⟨x2,x3⟩,y2,y3⟩,⟨⟨by simp,by simp[gR]⟩,z2,by rw[Hi]at z3;exact z3⟩⟩;have hc:(Q.map gQ).length<16777216:=by rw[Ğ];lia
 rw[Ŕ];have hq:[((x,y,0,z):Wt)].map gQ=[.tup [.tup [.int x,.int y],.int 0,.int z]]:=rfl;rw[hq];have w0:¬w=0:=by lia
 have h0:¬h=0:=by lia
 have o0:¬os=[]:=λz=>by rw[z]at ho;simp at ho
 have o1:¬(os.map aE).length=0:=by lia
 have o2:(os.map aE).length≠0:=o1;generalize Q.map gQ=QS,ns.map PV.int=L,os.map aE=OS at*;have o3:¬OS=[]:=λz=>by rw[z]at o1;simp at o1
 simp[zp,e0,hv,x1,y1,z1,w0,h0,o1,o3,hc]
theorem Z0s{os:List (Option P3)}(ho:1<=os.length)(s7 BJ:ť):∀(ks:List Nat) (Q:List Wt) (s8 BI:ť),Q.length+ks.length<=1000->(∀q∈Q,Zt w h q/\ZF (ve os) q)->∃(Q':List Wt) (a b:ť),Ĵ (gN 8) zp (ks.map λ(i:Nat)=>PV.int (i:Int)) [.sh<|.lst<|ns.map .int,.sh<|.int w,.sh<|.int h,s3,s4,.sh<|.lst<|os.map aE,s6,s7,s8,.ow<|Q.map gQ,zS,FM,D_,HC,BI,BJ]=.ok .nx [.sh<|.lst<|ns.map .int,.sh<|.int w,.sh<|.int h,s3,s4,.sh<|.lst<|os.map aE,s6,s7,a,.ow<|Q'.map gQ,zS,FM,D_,HC,b,BJ]/\Q'.length=Q.length+ks.length/\∀q∈Q',Zt w h q/\ZF (ve os) q
 |[],Q,s8,BI,_,hQ=>⟨Q,s8,BI,rfl,rfl,hQ⟩|k::ks,Q,s8,BI,hn,hQ=>by
  simp only[ĝ]at hn;obtain⟨q,a,e1,g1⟩:=Z4B ns hw hh s3 s4 s6 zS FM D_ HC k ho (Q:=Q) (by lia) s7 BI BJ;obtain⟨Q',c',a',e2,l2,g2⟩:=Z0s ho s7 BJ ks (Q++[q]) (.sh<|.int k) a (by simp;lia) (by
   intro y hy;rcases ź.mp hy with hy|hy
   ·exact hQ y hy
   ·rw[cu.mp hy];exact g1)
  refine⟨Q',c',a',?_,by simp at l2⊢;lia,g2⟩;rw[à,Ĵ];generalize (Q++[q]).map gQ=O1,Q'.map gQ=O2,Q.map gQ=OS,ns.map PV.int=L,os.map aE=TV at*;simp[e1];exact e2
end
def Z2y{O:List (Th×Int)}(hl:O.length<=1000)(hO:∀o∈O,Z1 o.1.1 o.1.2=true):ī (gT 2<|ï (gN 0)<|ï (gN 1) ř) ė (Ŧ<|É (Ý<|Ü Ő<|Þ (Ë ã (Â 0)<|Æ 0)<|Þ (Ý<|tu (Â 0) (mP<|Æ 1) nn) Ö)<|É (ì 1) æ) (O.map iR) [.no,.no] []=some (O.map HA):=by
 have c1:=đ (g:=gT 2<|ï (gN 0)<|ï (gN 1) ř) (mt:=ė) (me:=Ŧ<|É (Ý<|Ü Ő<|Þ (Ë ã (Â 0)<|Æ 0)<|Þ (Ý<|tu (Â 0) (mP<|Æ 1) nn) Ö)<|É (ì 1) æ) iR HA (λU=>∃a b,U=[a,b]) O [.no,.no] [] ⟨_,_,rfl⟩ (by simp;lia) (by
  rintro o ho U ⟨a,b,rfl⟩;have hg:=hO o ho;have e:=Wn hg (sl:=.sh<|.lst<|o.1.2.map .int)<|.inl rfl;change Ő _=.ret (.sh<|dZ o.1)at e;have ct:=QC (PV.str o.1.1)<|o.1.2.map PV.int;unfold iR HA qY;generalize dZ o.1=TV,o.1.2.map PV.int=XS at*;exact⟨[.sh<|.lst (.str o.1.1::XS),.sh<|.int o.2],_,[.sh<|.lst (.str o.1.1::XS),.sh<|.int o.2],by simp,rfl,by simp[ct,e],_,_,rfl⟩)
 rw[Š]at c1;exact c1
def NL(h:A U=.ok .nx U1)(h2:FR.of (B U1)=r):FR.of (å A B U)=r:=by
 have e:å A B U=B U1:=by show(A U).bind _=_;rw[h];rfl
 rw[e];exact h2
def Z4T:å A (å B C)=å (å A B) C:=by
 funext U
 show(A U).bind _=((A U).bind _).bind _;cases A U with
 |ok x U=>cases x<;>rfl|_=>rfl
def Z4C(h:å A (å B<|å C<|å D E) U=.ok .nx U1)(h2:FR.of (F U1)=r):FR.of (å A (å B<|å C<|å D<|å E F) U)=r:=by have:=NL h h2;simp only[Z4T]at this⊢;exact this
def Z3a(ns:List Int)(hn:ns.length<=63):AD [.sh<|.lst<|ns.map .int]=.ret (.sh<|.bl true):=by
 obtain⟨v0,k0,g0⟩:=ZC ns 0;obtain⟨v,k1,g1⟩:=ZC ns 1;obtain⟨w,hw⟩:∃w:Nat,1+v0%3=w:=⟨(1+v0%3).toNat,by lia⟩;obtain⟨h,hh⟩:∃h:Nat,1+v0/4%3=h:=⟨(1+v0/4%3).toNat,by lia⟩;obtain⟨n,hnn⟩:∃n:Nat,v%2=n:=⟨(v%2).toNat,by lia⟩;obtain⟨m,hm⟩:∃m:Nat,1+v/2%3=m:=⟨(1+v/2%3).toNat,by lia⟩;obtain⟨a,ha⟩:∃m:Nat,1+v/8%4=m:=⟨(1+v/8%4).toNat,by lia⟩;obtain⟨b,hb⟩:∃m:Nat,1+v/40%6=m:=⟨(1+v/40%6).toNat,by lia⟩;have w1:1<=w/\w<=3:=by lia
 have h1:1<=h/\h<=3:=by lia
 obtain⟨T,t1,t2,t3⟩:=Z1f ns (w:=w) (h:=h) (by lia) (by lia) (Ô n) [] .no (by simp;lia);obtain⟨os,o1,o2,o3⟩:=Z2x ns (Ô m) (λk hk=>by have:=ϑ.mp hk;lia) [] .no (by simp;lia);rw[Š]at t1 o1;rw[xh]at t2 o2;have dv:((gR os).map zV).map jL=[.tup [.str "one",.int 1,.lst<|os.map aE]]:=by show[PV.tup [.str<|S<|wC "one",.int 1,.lst<|os.map aE]]=_;rw[show S (wC "one")=Ì "one"from NJ _]
 obtain⟨O,x8,x14,MV,l1,l2,l3⟩:=Z09 ns (w:=w) (h:=h) (by lia) (by lia) (.sh<|.int v) (.ow<|T.map qY) (.sh<|sV<|qX w h T<|gR os) .no .no .no .no .no (.sh<|.lst<|os.map aE) (Ô a) [] .no .no .no (by simp;lia) (by simp);obtain⟨qs,z8,NM,q1,q2,q3⟩:=Z0s ns (w:=w) (h:=h) (by lia) (by lia) (.sh<|.int v) (.ow<|T.map qY) (.sh<|sV<|qX w h T<|gR os) .no .no .no .no (os:=os) (by lia) (.ow<|O.map iR) MV (Ô b) [] x8 x14 (by simp;lia) (by simp);rw[Ů]at l1 q1;rw[xh,xa,se]at l2 q2;have Y:AO w h T os O:=⟨w1,h1,by lia,t3,by lia,o3,by lia,l3⟩;have tx:=Z3P (w:=w) (h:=h) (by lia) (by lia) t3 (by lia) (D:=gR os) Y.dz (by simp[gR]);rw[dv]at tx;have hd:=Z2y (by lia) l3;obtain⟨KE,kd,hf⟩:=Z2w Y.ok0 Y.day (by lia) l3 (by lia) q3;have rd:=Y.read;have ep:=Y.QH<|2^O.length-1;have ef:=Y.first (2^O.length-1) (by lia) q3;have r1:=Zb (n:=n) (by lia);have r2:=Zb (n:=m) (by lia);have r3:=Zb (n:=a) (by lia);have r4:=Zb (n:=b) (by lia);have so:gy 1 (O.length:Int)=true:=by simp[gy];lia
 have p0:0<2^O.length:=Nat.two_pow_pos _;have hev:(2:Int)^O.length-1=((2^O.length-1:Nat):Int):=by rw[Int.natCast_sub<|by lia];simp
 have Hi:((O.map iR).length:Int)=O.length:=by simp
 have NU:((os.map aE).length:Int)=os.length:=by simp
 have ql:(qs.map gQ).length<=16777216:=by simp;lia
 have ol:(os.map aE).length<=16777216:=by simp;lia
 have pp:=λc (hc:c<2^O.length)=>Y.paper (by lia) q3 (c:=c) hc;generalize hA:ns.map PV.int=L,hB:T.map qY=TW,hC:os.map aE=OV,hD:sV (qX w h T<|gR os)=TX,hE:O.map iR=OW,hF:O.map HA=OP,hG:qs.map gQ=QS,hH:os.map (Zu w h<|T++cT O (2^O.length-1))=PV1,hI:Z0 w h T ((gR os).map zV)=Yv,hJ:(Ô n).map (λ(i:Nat)=>PV.int (i:Int))=R1,hK:(Ô m).map (λ(i:Nat)=>PV.int (i:Int))=R2,hL:(Ô a).map (λ(i:Nat)=>PV.int (i:Int))=R3,hM:(Ô b).map (λ(i:Nat)=>PV.int (i:Int))=R4 at*;show FR.of (BG _)=_;unfold BG;refine Z4C (U1:=[.sh<|.lst L,.sh<|.int w,.sh<|.int h,.sh<|.int v,.ow TW,.ow OV,.no,.no,.no,.no,.no,.no,.no,.no,.no,.no]) (by simp[ĕ,á,k0,hw,hh,k1,hnn,r1,t1,hm,r2,o1,iY,gY]) ?_;refine Z4C (U1:=[.sh<|.lst L,.sh<|.int w,.sh<|.int h,.sh<|.int v,.ow TW,.sh<|.lst OV,.sh TX,.ow OW,z8,.ow QS,.no,.no,.no,.no,NM,MV]) (by simp[tx,ha,r3,l1,hb,r4,q1]) ?_;refine NL (U1:=[.sh<|.lst L,.sh<|.int w,.sh<|.int h,.sh<|.int v,.ow TW,.sh<|.lst OV,.sh TX,.sh<|.lst OW,z8,.ow QS,.ow OP,.no,.no,.no,NM,MV]) (by simp[hd,iY,gY]) ?_;refine NL (U1:=[.sh<|.lst L,.sh<|.int w,.sh<|.int h,.sh<|.int v,.ow TW,.sh<|.lst OV,.sh TX,.sh<|.lst OW,z8,.ow QS,.ow OP,.sh KE,.no,.no,NM,MV]) (by simp[rd,kd,ql]) ?_;refine NL (U1:=[.sh<|.lst L,.sh<|.int w,.sh<|.int h,.sh<|.int v,.ow TW,.sh<|.lst OV,.sh TX,.sh<|.lst OW,z8,.ow QS,.ow OP,.sh KE,.sh<|.int ((2^O.length-1:Nat):Int),.no,NM,MV]) (by simp[Hi,so,<-hev]) ?_;rcases hf with⟨k,u1,rfl⟩|⟨c,u1,hc,XI,EX,rfl⟩
 ·rw[u1]at ef;refine NL (U1:=[.sh<|.lst L,.sh<|.int w,.sh<|.int h,.sh<|.int v,.ow TW,.sh<|.lst OV,.sh TX,.sh<|.lst OW,z8,.ow QS,.ow OP,.sh<|.tup [.str "none",.int k],.sh<|.int ((2^O.length-1:Nat):Int),.sh<|.int k,NM,MV]) (by generalize ((2^O.length-1:Nat):Int)=ev at*;simp[NU,ep,ef,kT]) ?_;have eq:Œ (.tup [.str "none",.int (k:Int)]) (.tup [.str "none",.int (k:Int)])=some (.bl true):=EG (by simp[ϝ,cI];decide+kernel) (by simp[vg,pk]);have i:pA (.int (k:Int))=false:=rfl;simp[i,eq]
 ·rw[u1]at ef;have pq:=pp c hc XI EX;have To:(c:Int)<=((2^O.length-1:Nat):Int):=by lia
  generalize PV.lst ((Ô<|2^O.length).map λc=>kT<|wK T (cT O c) ((gR os).map zV) qs)=PA at*;refine NL (U1:=[.sh<|.lst L,.sh<|.int w,.sh<|.int h,.sh<|.int v,.ow TW,.sh<|.lst OV,.sh TX,.sh<|.lst OW,z8,.ow QS,.ow OP,.sh<|.tup [.str "choice",.int c,.int<|Z8 (λk=>(O.getD k ô).2) O.length c,PA],.sh<|.int ((2^O.length-1:Nat):Int),.sh .non,NM,MV]) (by generalize ((2^O.length-1:Nat):Int)=ev at*;simp[NU,ep,ef,kT]) ?_;have q:=GN (show ę (Ì "choice")=true by decide+kernel) (show ę (Ì "choice")=true by decide+kernel);generalize Z8 (λk=>(O.getD k ô).2) O.length c=sc at*;have i:rl [.tup [.str "choice",.int c,.int sc,PA],.ty "tuple"]=some (.bl true):=rfl;generalize ((2^O.length-1:Nat):Int)=ev at*;simp[i,q,To,NU,pq,pA]
def Z4D{l:mL}{K:ii->Î}(hn:l.most=some 63)(M_:d.params.defaults=[])
 (hY:∀(w:â) (h:Ò),YP w h->(K w.params).In h)
 (F:∀(w:â) (mg:Str→Option Á) (fa:À) (h:Ò),(K w.params).In h→h.Ns ē mg→mg d.name=some (.ref fa)→
   ∃fd:Ć,(∀(s:Ã) (u:Á),fV s fd ⟨[u],[]⟩ [("_law_script",u)])/\∀base:Ò,(K w.params).In base->base.Ns ē mg->∃cm,ϯ l.prog w (K w.params) mg base AJ 13 fa fd ["_law_script"] (rj ⟨K w.params,cm⟩ 1 AD))
 (hnt:∀w:â,sT (K w.params)=true)(hrec:∀y,y∈lams->∃d,(sj q).find? (λe=>e.name==y)=some d):
 sS q nI XP YP l.row.toRowW d [] (λf vs=>sv f vs):=
 P.Gn (k:=13) (x:="_law_script") (CX:=AJ) (m:=AD) hn M_ ⟨rfl,by decide,by decide⟩ hY F Z3a (λv v v v z=>z) (hnt:=λv=>hnt) (hrec:=hrec)
end
end T
open PySem PySem.W PyProof.Rows
set_option maxRecDepth 100000 in
set_option maxHeartbeats 0 in
set_option tactic.hygienic true in
theorem PySem.Challenge.cw_shadowpost_k85_whole_wants_kept_dark_holds : PySem.Challenge.rw_shadowpost_k85_whole_wants_kept_dark.Holds := by
 refine Tp ?_
 k_fill
 refine T.Z4D (l:=PySem.Challenge.rw_shadowpost_k85_whole_wants_kept_dark) rfl rfl (λw h Y=>by first|exact PySem.W.kIn_of Y|exact PySem.W.km_in_of Y) ?F ?hnt ?hrec
 case hnt=>intro w;kernel_rfl
 case hrec=>
  intro y hy;have e:y=Ì "cheapest":=by simpa[L2.lams]using hy
  subst e;exact⟨_,rfl⟩
 case F=>
  intro w mg fa h KX G QL;apply T.okL (V:=⟨_,w,Tp.heap_39 w.params,mg,P.cmK<|Tp.heap_39 w.params⟩)
  any_goals first|exact QL|apply P.VR KX G|apply P.VS KX G|apply P.VT KX G|apply P.VU KX G|apply P.VV KX G (by (repeat intro _);rfl)|apply P.VW KX G (by (repeat intro _);rfl)|apply P.VX (by (repeat intro _);rfl)|apply P.VY (by (repeat intro _);rfl)|apply P.VZ (by (repeat intro _);rfl)|apply P.V2 KX G (by (repeat intro _);rfl)|apply P.V4 KX G (by (repeat intro _);exact⟨_,rfl,rfl⟩)|apply P.Mc|apply P.MS
  any_goals first|kernel_rfl|(unfold P.Na L2.fw;kernel_rfl)
  all_goals skip
