import PyProof.Rows.All
import Wide.All
import OpenK.AllK
import Wide.FinOn
import Lean
import PyProof.EqAt
import PyProof.EqKinds
import PyProof.TupleCall
import PySem.Challenge.RW_shadowpost_k56_whole_turns_told_apart
set_option Elab.async false
set_option linter.all false
set_option maxRecDepth 100000
set_option maxHeartbeats 4000000
namespace L2
open PySem PySem.Spec PyProof.Rows
abbrev Key:=Sum Int Str
def QB:Key->Value->Bool
 | .inl k,v=>Value.isInt k v
 | .inr x,v=>Value.isStrOf x v
def ZeL(w:World):Key->Int
 | .inl k=>hashInt k
 | .inr x=>hashStr w x
theorem œ:∀{k:Key} {v:Value},QB k v=true->(∃i t,k=Sum.inl i/\v=Value.int i t)\/(∃x t,k=Sum.inr x/\v=Value.str x t)
 | .inl i,v,h=>by
   obtain⟨t,e⟩:=Value.isInt_shape (k:=i) (v:=v) h
   exact .inl ⟨i,t,rfl,e⟩
 | .inr x,v,h=>by
   obtain⟨t,e⟩:=Value.isStrOf_shape (x:=x) (v:=v) h
   exact .inr ⟨x,t,rfl,e⟩
def Ye(a b:Int):decide ((Sum.inl a:Key)=Sum.inl b)=(a== b):=by
 by_cases e:a=b
 ·subst e;simp
 ·have h:¬(Sum.inl a:Key)=Sum.inl b:=λq=>e (Sum.inl.inj q)
  rw[decide_eq_false h]
  exact(beq_eq_false_iff_ne.mpr e).symm
def Yg(a b:Str):decide ((Sum.inr a:Key)=Sum.inr b)=decide (a=b):=by
 by_cases e:a=b
 ·subst e;simp
 ·have h:¬(Sum.inr a:Key)=Sum.inr b:=λq=>e (Sum.inr.inj q)
  rw[decide_eq_false h,decide_eq_false e]
def Yh(a:Int)(b:Str):decide ((Sum.inl a:Key)=Sum.inr b)=false:=decide_eq_false (λq=>nomatch q)
def Yi(a:Str)(b:Int):decide ((Sum.inr a:Key)=Sum.inl b)=false:=decide_eq_false (λq=>nomatch q)
def uL(prog:Program)(w:World):PySem.KeyKind prog w Key where
 is:=QB
 hash:=ZeL w
 inj:=λv a b ha hb=>by
  rcases œ ha with⟨i,t,rfl,rfl⟩|⟨x,t,rfl,rfl⟩
  ·rcases œ hb with⟨j,u,rfl,e⟩|⟨y,u,rfl,e⟩
   ·injection e with e1 _;rw[e1]
   ·exact nomatch e
  ·rcases œ hb with⟨j,u,rfl,e⟩|⟨y,u,rfl,e⟩
   ·exact nomatch e
   ·injection e with e1 _;rw[e1]
 byValue:=λk v h=>by
  rcases œ h with⟨i,t,rfl,rfl⟩|⟨x,t,rfl,rfl⟩<;>rfl
 pyHash:=λhv h=>by
  rcases œ hv with⟨i,t,rfl,rfl⟩|⟨x,t,rfl,rfl⟩
  ·exact wpAny_pyHash_int h
  ·exact wpAny_pyHash_str h
 eqBool:=λhu hv h=>by
  rcases œ hu with⟨i,t,rfl,rfl⟩|⟨x,t,rfl,rfl⟩
  ·rcases œ hv with⟨j,u,rfl,rfl⟩|⟨y,u,rfl,rfl⟩
   ·rw[Ye] at h;exact wpAny_eqBool_int h
   ·rw[Yh] at h;exact SeqAt.EqAt.int_str i t y u _ _ _ _ h
  ·rcases œ hv with⟨j,u,rfl,rfl⟩|⟨y,u,rfl,rfl⟩
   ·rw[Yi] at h;exact SeqAt.EqAt.str_int x t j u _ _ _ _ h
   ·rw[Yg] at h;exact wpAny_eqBool_str h
 «strs» := fun k x t v h=>by
   rcases œ h with⟨i,u,rfl,e⟩|⟨y,u,rfl,e⟩
   ·exact nomatch e
   ·injection e with e1 _
    subst e1
    cases v<;>rfl
end L2
namespace L2
open PySem PySem.Spec PyProof.Rows
inductive V where
 |non|bl (b:Bool)|int (i:Int)|str (x:Str)|QC (b:Array UInt8)|flt (b:UInt64)|ref (a:Addr)|ty (n:String)
 deriving DecidableEq
def RelV:V->Value->Prop
 | .non,u=>u=Value.none
 | .bl b,u=>u=Value.bool b
 | .int i,u=>∃t,u=Value.int i t
 | .str x,u=>∃t,u=Value.str x t
 | .QC b,u=>∃t,u=Value.bytes b t
 | .flt b,u=>∃t,u=Value.float b t
 | .ref a,u=>u=Value.ref a
 | .ty n,u=>u=Value.type n
abbrev Vals:List V->List Value->Prop:=Paired RelV
theorem Vals.length{xs:List V}{us:List Value}(r:Vals xs us):xs.length=us.length:=Paired.length r
theorem Vals.get:∀{xs:List V} {us:List Value} {i:Nat} {x:V},Vals xs us->xs[i]?=some x->∃u,us[i]?=some u/\RelV x u
 |_,_,_,_,.nil,e=>by simp at e
 |_,_,0,_,.cons r _,e=>by simp at e;subst e;exact⟨_,rfl,r⟩
 |_,_,i+1,x,.cons _ t,e=>by
  obtain⟨u,h1,h2⟩:=Vals.get (i:=i) (x:=x) t (by simpa using e)
  exact⟨u,by simpa using h1,h2⟩
theorem Vals.set{x:V}{u:Value}(r:RelV x u):∀{xs:List V} {us:List Value} (i:Nat),Vals xs us->Vals (xs.set i x) (us.set i u)
 |_,_,_,.nil=>.nil
 |_,_,0,.cons _ t=>.cons r t
 |_,_,i+1,.cons q t=>.cons q (Vals.set r i t)
theorem Vals.append:∀{xs ys:List V} {us ws:List Value},Vals xs us->Vals ys ws->Vals (xs++ys) (us++ws)
 |_,_,_,_,.nil,s=>s
 |_,_,_,_,.cons r t,s=>.cons r (Vals.append t s)
theorem Vals.take:∀{xs:List V} {us:List Value} (n:Nat),Vals xs us->Vals (xs.take n) (us.take n)
 |_,_,0,_=>.nil
 |_,_,_+1,.nil=>.nil
 |_,_,n+1,.cons r t=>.cons r (Vals.take n t)
theorem Vals.drop:∀{xs:List V} {us:List Value} (n:Nat),Vals xs us->Vals (xs.drop n) (us.drop n)
 |_,_,0,r=>r
 |_,_,_+1,.nil=>.nil
 |_,_,n+1,.cons _ t=>Vals.drop n t
def rJ:Option V->Option Value->Prop
 |some v,some u=>RelV v u
 |none,none=>True
 |_,_=>False
def KV{κ:Type}:List (κ×V)->List (κ×Value)->Prop:=Paired λ(p:κ×V) (q:κ×Value)=>p.1=q.1/\RelV p.2 q.2
def kV:Key->V
 | .inl i=>.int i
 | .inr x=>.str x
inductive HO where
 /-- a list -/
 |lst (xs:List V)
 /-- a tuple (never changes) -/
 |tup (xs:List V)
 /-- a dict whose keys are ints and texts;one whose keys are tuples of ints and texts (the empty one is both) -/
 |dK (kvs:List (Key×V))|dT (kvs:List (List Key×V))
 /-- a set of ints:its members,its size -/
 |set (S:Int->Bool) (n:Nat)
 /-- an instance of the class at C,its dict at dx,its attributes -/
 |ins (C dx:Addr) (fs:List (Str×V))
 /-- the dict of the instance at x -/
 |own (x:Addr)
 /-- the dict of an exception -/
 |xd (fs:List (Str×V))
 /-- a bound method,f of x -/
 |met (f x:Addr)
 /-- a range object lo,lo+1,.. below hi -/
 |rng (lo hi:Int)
 /-- a thing that is known to the object (the script;a dict while a loop walks it):read,never written while it is so -/
 |dW (o:Obj) (u:HO)
 /-- a code object's table -/
 |iG (q:Str)
 /-- a code made of such a table,by its name -/
 |Fi (q:Str)
 /-- any other thing,by what is true of its one object (a def of one's own:ZgF a S n:=HO.ext λh=>..) -/
 |ext (φ:Heap->Prop)
abbrev Hp:=Addr->Option HO
def upd(H:Hp)(a:Addr)(o:HO):Hp:=λb=>if b=a then some o else H b
def ģ{H:Hp}{a:Addr}{o:HO}:upd H a o a=some o:=by unfold upd;rw[if_pos rfl]
def Ĝ{H:Hp}{a b:Addr}{o:HO}(h:b≠a):upd H a o b=H b:=by unfold upd;rw[if_neg h]
def Ħ{H:Hp}{a b:Addr}{o:HO}(h:H a=some o)(h':H b=none):a≠b:=by
 intro e;subst e;rw[h] at h';cases h'
section
variable(P:Program)(w:World)
def ž(H:Hp)(h:Heap)(a:Addr):HO->Prop
 | .lst xs=>xs.length<=sizeLine/\∃(its:List Value) (n:Nat),Vals xs its/\h.get? a=some {cls:=.type "list",data:=.seq its.toArray n}
 | .tup xs=>xs.length<=sizeLine/\∃its:List Value,Vals xs its/\IsTup h a its.toArray
 | .dK kvs=>kvs.length<=sizeLine/\(a== sysModules)=false/\∃vs,KV kvs vs/\h.DictOf (uL P w) a vs
 | .dT kvs=>kvs.length≤sizeLine∧(a== sysModules)=false∧∃xs:List (List Key×Addr×Value),
     Paired (λ(p:List Key×V) (q:List Key×Addr×Value)=>p.1=q.1/\H q.2.1=some (.tup (p.1.map kV))/\RelV p.2 q.2.2) kvs xs/\
     ∃o es ep,h.get? a=some o/\o.ExactDict/\o.data=.dict es ep/\es.toList=xs.map (entryOfKey (tupleKind (uL P w)))/\(xs.map (·.1)).Nodup
 | .set S n=>h.SetOf (intKind P w) a S n
 | .ins C dx fs=>H dx=some (.own a)∧fs.length≤1000∧dx≠a∧h.get? a=some (PySem.W.instObj C dx)∧
     ∃mA,h.Ns1 dx mA/\(∀f,rJ (fs.lookup f) (mA f))/\PySem.Within mA (fs.map (·.1))
 | .own _=>∃o,h.get? a=some o
 | .xd fs=>∃mA,h.Ns1 a mA/\∀f,rJ (fs.lookup f) (mA f)
 | .rng lo hi=>∃t u v,h.get? a=some {cls:=.type "range",data:=.fields #[.int lo t,.int hi u,.int 1 v]}
 | .dW o u=>h.get? a=some o/\ž H h a u
 | .iG q=>∃ps:Array Value,h.get? a=some {cls:=.none,data:=.fields ps}/\TriplesOk ps.toList/\∀pos cv,codeAmong pos ps.toList=some cv->∃c,cv=.ref c/\H c=some (.Fi q)
 | .Fi q=>h.CodeRec (.ref a) q
 | .met f x=>h.get? a=some (PySem.W.methodObj (.ref f) (.ref x))
 | .ext φ=>φ h/\(∃o,h.get? a=some o)/\∀h1 h2:Heap,φ h1->(∀o,h1.get? a=some o->h2.get? a=some o)->φ h2
def jz(H:Hp)(h:Heap):Prop:=∀a o,H a=some o->ž P w H h a o
end
section
variable{P:Program}{w:World}{H H':Hp}{h h':Heap}{a:Addr}{o:HO}
theorem ž.lt(x:ž P w H h a o):a<h.objs.size:=by
 cases o with
 |lst xs=>obtain⟨_,_,_,_,e⟩:=x;exact Heap.lt_size e
 |tup xs=>obtain⟨_,_,_,p⟩:=x;exact p.lt
 |dK kvs=>obtain⟨_,_,_,_,o,_,_,e,_⟩:=x;exact Heap.lt_size e
 |dT kvs=>obtain⟨_,_,_,_,o,_,_,e,_⟩:=x;exact Heap.lt_size e
 |set S n=>obtain⟨o,_,_,_,e,_⟩:=x;exact Heap.lt_size e
 |ins C dx fs=>obtain⟨_,_,_,e,_⟩:=x;exact Heap.lt_size e
 |own y=>obtain⟨_,e⟩:=x;exact Heap.lt_size e
 |xd fs=>obtain⟨_,⟨_,_,_,e,_⟩,_⟩:=x;exact Heap.lt_size e
 |rng lo hi=>obtain⟨_,_,_,e⟩:=x;exact Heap.lt_size e
 |dW ob u=>obtain⟨e,_⟩:=x;exact Heap.lt_size e
 |iG q=>obtain⟨_,e,_⟩:=x;exact Heap.lt_size e
 |Fi q=>obtain⟨c,o,_,_,z,e,_⟩:=x;cases z;exact Heap.lt_size e
 |met f y=>exact Heap.lt_size (show h.get? a=some _ from x)
 |ext φ=>obtain⟨_,⟨_,e⟩,_⟩:=x;exact Heap.lt_size e
theorem Paired.Zcl{α β:Type}{F G:α->β->Prop}:∀{l₁:List α} {l₂:List β},Paired F l₁ l₂->(∀a b,F a b->G a b)->Paired G l₁ l₂
 |_,_,.nil,_=>.nil
 |_,_,.cons r t,f=>.cons (f _ _ r) (Paired.Zcl t f)
def ž.stay(x:ž P w H h a o)(k:∀b u,(b=a\/H b=some (.own a))->h.get? b=some u->h'.get? b=some u)
 (ho:∀b,H b=some (.own a)->H' b=some (.own a))(ht:∀b xs,H b=some (.tup xs)->H' b=some (.tup xs))(hc:∀b q,H b=some (.Fi q)->H' b=some (.Fi q):=by exact λ_ _ z=>z):ž P w H' h' a o:=by
 induction o with
 |lst xs=>obtain⟨z,its,n,r,e⟩:=x;exact⟨z,its,n,r,k _ _ (.inl rfl) e⟩
 |tup xs=>obtain⟨z,its,r,ob,e,c⟩:=x;exact⟨z,its,r,ob,k _ _ (.inl rfl) e,c⟩
 |dK kvs=>obtain⟨z,y,vs,r,ob,es,ep,e,c⟩:=x;exact⟨z,y,vs,r,ob,es,ep,k _ _ (.inl rfl) e,c⟩
 |dT kvs=>
  obtain⟨z,y,xs,r,ob,es,ep,e,c⟩:=x
  exact⟨z,y,xs,Paired.Zcl r λp q z=>⟨z.1,ht _ _ z.2.1,z.2.2⟩,ob,es,ep,k _ _ (.inl rfl) e,c⟩
 |set S n=>obtain⟨ob,es,ep,t,e,c⟩:=x;exact⟨ob,es,ep,t,k _ _ (.inl rfl) e,c⟩
 |ins C dx fs=>
  obtain⟨d,z,ne,e,mA,⟨od,es,ep,e2,c⟩,r⟩:=x
  exact⟨ho _ d,z,ne,k _ _ (.inl rfl) e,mA,⟨od,es,ep,k _ _ (.inr d) e2,c⟩,r⟩
 |own y=>obtain⟨ob,e⟩:=x;exact⟨ob,k _ _ (.inl rfl) e⟩
 |xd fs=>obtain⟨mA,⟨od,es,ep,e,c⟩,r⟩:=x;exact⟨mA,⟨od,es,ep,k _ _ (.inl rfl) e,c⟩,r⟩
 |rng lo hi=>obtain⟨t,u,v,e⟩:=x;exact⟨t,u,v,k _ _ (.inl rfl) e⟩
 |dW ob u ih=>obtain⟨e,q⟩:=x;exact⟨k _ _ (.inl rfl) e,ih q⟩
 |iG q=>
  obtain⟨ps,e,t,r⟩:=x
  exact⟨ps,k a _ (.inl rfl) e,t,λpos cv z=>let ⟨c,z1,z2⟩:=r pos cv z;⟨c,z1,hc c q z2⟩⟩
 |Fi q=>
  obtain⟨c,o,vs,t,z,e,r⟩:=x
  cases z
  exact⟨a,o,vs,t,rfl,k a _ (.inl rfl) e,r⟩
 |met f y=>
  have e:h.get? a=some (PySem.W.methodObj (.ref f) (.ref y)):=x
  show h'.get? a=some (PySem.W.methodObj (.ref f) (.ref y))
  exact k a _ (.inl rfl) e
 |ext φ=>obtain⟨p,⟨o,e⟩,st⟩:=x;exact⟨st _ _ p λo q=>k _ _ (.inl rfl) q,⟨o,k _ _ (.inl rfl) e⟩,st⟩
theorem jz.lt(x:jz P w H h)(e:H a=some o):a<h.objs.size:=(x a o e).lt
def jz.fresh(x:jz P w H h)(e:h.objs.size<=a):H a=none:=by
 cases q:H a with
 |none=>rfl
 |some u=>exact absurd (Nat.lt_of_lt_of_le (x.lt q) e) (Nat.lt_irrefl _)
def jz.kept(x:jz P w H h)(k:∀b u,h.get? b=some u->h'.get? b=some u):jz P w H h':=λa o e=>
 (x a o e).stay (λb u _ q=>k b u q) (λ_ q=>q) λ_ _ q=>q
def jz.laid(x:jz P w H h)(k:∀b u,h.get? b=some u->h'.get? b=some u)(hp:h.objs.size<=a)(new:ž P w (upd H a o) h' a o):jz P w (upd H a o) h':=λb u e=>by
 have hn:=x.fresh hp
 by_cases hb:b=a
 ·subst hb;rw[ģ] at e;cases e;exact new
 ·rw[Ĝ hb] at e
  exact(x b u e).stay (λc v _ q=>k c v q) (λc q=>by rw[Ĝ (Ħ q hn)];exact q) (λc xs q=>by rw[Ĝ (Ħ q hn)];exact q) λc xs q=>by rw[Ĝ (Ħ q hn)];exact q
end
def Rd(H:Hp)(a:Addr)(u:HO):Prop:=H a=some u\/∃o,H a=some (.dW o u)
def Rd.ok{P:Program}{w:World}{H:Hp}{h:Heap}{a:Addr}{u:HO}(r:Rd H a u)(x:jz P w H h):ž P w H h a u:=by
 rcases r with r|⟨o,r⟩
 ·exact x a u r
 ·obtain⟨_,q⟩:=x a _ r
  exact q
def Mut:Option HO->Prop
 |some (.lst _)=>True
 |some (.dK _)=>True
 |some (.dT _)=>True
 |some (.set _ _)=>True
 |some (.ins _ _ _)=>True
 |some (.ext _)=>True
 |some (.xd _)=>True
 |_=>False
section
variable{P:Program}{w:World}{H:Hp}{h h':Heap}{x e:Addr}{o':HO}
def jz.write(ok:jz P w H h)(mu:Mut (H x))(he:e=x\/H e=some (.own x))(k:∀b u,b≠e->h.get? b=some u->h'.get? b=some u)(heo:∃u,h'.get? e=some u)
 (new:ž P w (upd H x o') h' x o'):jz P w (upd H x o') h':=λb u q=>by
 have Zcm:∀c y,H c=some (.own y)->c≠x:=λc y r z=>by subst z;rw[r] at mu;exact mu
 have ZeM:∀c xs,H c=some (.tup xs)->c≠x:=λc xs r z=>by subst z;rw[r] at mu;exact mu
 have ZeN:∀c q,H c=some (.Fi q)->c≠x:=λc xs r z=>by subst z;rw[r] at mu;exact mu
 by_cases hb:b=x
 ·subst hb;rw[ģ] at q;cases q;exact new
 ·rw[Ĝ hb] at q
  by_cases hbe:b=e
  ·have q':H b=some (.own x):=by
    rcases he with z|z
    ·exact absurd (hbe.trans z) hb
    ·rw[hbe];exact z
   rw[q] at q';cases q'
   obtain⟨v,hv⟩:=heo
   exact⟨v,by rw[hbe];exact hv⟩
  ·refine(ok b u q).stay (λc v hc r=>k c v ?_ r) (λc r=>by rw[Ĝ (Zcm c b r)];exact r) (λc xs r=>by rw[Ĝ (ZeM c xs r)];exact r) λc xs r=>by rw[Ĝ (ZeN c xs r)];exact r
   rcases hc with rfl|hc
   ·exact hbe
   ·rintro rfl
    rcases he with z|z
    ·exact Zcm c b hc z
    ·rw[hc] at z;cases z;exact hb rfl
end
structure Un(fs ex:List Addr)(H H':Hp)(h h':Heap):Prop where
 keep:∀b o,h.get? b=some o->H b=none->b∉fs->b∉ex->h'.get? b=some o
 slot:∀b o,h.get? b=some o->H b=none->b∈fs->b∉ex->∃sl,h'.get? b=some {o with slots:=sl}
 free:∀b o,h.get? b=some o->H b=none->b∉ex->H' b=none
 there:∀b o,h.get? b=some o->b∉ex->∃o',h'.get? b=some o'
 tups:∀b xs,H b=some (.tup xs)->H' b=some (.tup xs)
 rK:∀b o u,H b=some (.dW o u)->H' b=some (.dW o u)
 nD:∀b q,H b=some (.iG q)->H' b=some (.iG q)
section
variable{fs fs' ex ex':List Addr}{H H1 H2:Hp}{h h1 h2 h':Heap}{a x e:Addr}{o:HO}
def Un.any(u:Un fs ex H H1 h h1){b:Addr}{ob:Obj}(q:h.get? b=some ob)(n:H b=none)(hx:b∉ex):∃sl,h1.get? b=some {ob with slots:=sl}:=by
 by_cases hb:b∈fs
 ·exact u.slot b ob q n hb hx
 ·exact⟨ob.slots,u.keep b ob q n hb hx⟩
def Un.kept(k:∀b u,h.get? b=some u->h'.get? b=some u):Un fs ex H H h h':=
 ⟨λb ob q _ _ _=>k b ob q,λb ob q _ _ _=>⟨ob.slots,k b ob q⟩,λ_ _ _ n _=>n,λb ob q _=>⟨ob,k b ob q⟩,λ_ _ q=>q,λ_ _ _ q=>q,λ_ _ q=>q⟩
def Un.refl:Un fs ex H H h h:=Un.kept λ_ _ q=>q
def Un.laid(k:∀b u,h.get? b=some u->h'.get? b=some u)(hp:h.objs.size<=a)(hn:H a=none):Un fs ex H (upd H a o) h h' where
 keep:=λb u q _ _ _=>k b u q
 slot:=λb u q _ _ _=>⟨u.slots,k b u q⟩
 free:=λb u q n _=>by rw[Ĝ (Nat.ne_of_lt (Nat.lt_of_lt_of_le (Heap.lt_size q) hp))];exact n
 there:=λb u q _=>⟨u,k b u q⟩
 tups:=λb xs q=>by rw[Ĝ (Ħ q hn)];exact q
 rK:=λb u xs q=>by rw[Ĝ (Ħ q hn)];exact q
 nD:=λb ps q=>by rw[Ĝ (Ħ q hn)];exact q
def Un.write(mu:Mut (H x))(he:e=x\/H e=some (.own x))(k:∀b u,b≠e->h.get? b=some u->h'.get? b=some u)(heo:∃u,h'.get? e=some u):Un fs ex H (upd H x o) h h':=by
 have hx:∀b,H b=none->b≠x:=λb n z=>by subst z;rw[n] at mu;exact mu
 have hb:∀b,H b=none->b≠e:=λb n z=>by
  subst z
  rcases he with r|r
  ·exact hx b n r
  ·rw[n] at r;cases r
 have hm:∀b u,H b=some u->¬Mut (some u)->b≠x:=λb u q nm z=>by subst z;rw[q] at mu;exact nm mu
 refine⟨λb u q n _ _=>k b u (hb b n) q,λb u q n _ _=>⟨u.slots,k b u (hb b n) q⟩,λb u q n _=>by rw[Ĝ (hx b n)];exact n,λb u q _=>?_,
  λb xs q=>by rw[Ĝ (hm b _ q λz=>z)];exact q,λb u xs q=>by rw[Ĝ (hm b _ q λz=>z)];exact q,λb ps q=>by rw[Ĝ (hm b _ q λz=>z)];exact q⟩
 by_cases hbe:b=e
 ·subst hbe;exact heo
 ·exact⟨u,k b u hbe q⟩
end
def trk(h:Heap)(H:Hp):List Addr:=(List.range h.objs.size).filter λa=>(H a).isSome
def rM(h:Heap)(H:Hp):Heap:=PySem.W.hideAll h (trk h H)
def Fj(h:Heap)(H:Hp):(rM h H).objs.size=h.objs.size:=PySem.W.hideAll_size _ _
def GR{h:Heap}{H:Hp}{b:Addr}{o:Obj}(e:h.get? b=some o)(n:H b=none):(rM h H).get? b=some o:=
 PySem.W.hideAll_get _ e λhm=>by
  have q:(H b).isSome=true:=(List.mem_filter.mp hm).2
  rw[n] at q;simp at q
def Nq{h:Heap}{H:Hp}{b:Addr}{o:Obj}(e:(rM h H).get? b=some o):h.get? b=some o/\H b=none:=by
 have e':h.get? b=some o:=PySem.W.of_hideAll (trk h H) e
 refine⟨e',?_⟩
 cases q:H b with
 |none=>rfl
 |some x=>
  have hm:b∈trk h H:=List.mem_filter.mpr ⟨List.mem_range.mpr (Heap.lt_size e'),by simp[q]⟩
  have z:(rM h H).get? b=none:=PySem.W.hideAll_none (trk h H) hm
  rw[z] at e;cases e
def Nr(g h:Heap)(L:Addr):List (Addr×Obj):=(List.range h.objs.size).filterMap λa=>if a=L\/(g.get? a).isSome=true then none else(h.get? a).map λo=>(a,o)
def rest(g h:Heap)(L d:Addr):List (Addr×Obj):=(Nr g h L).filter λp=>decide (p.1≠d)
end L2
namespace L2
open PySem PySem.Spec PyProof.Rows
structure Mod(K:PySem.W.Frag)(mg:Str->Option Value)(base:Heap):Prop where
 kin:K.In base
 glob:base.Ns mainGlobals mg
 blt:∃mb,base.Ns builtinsNs mb/\∀x:Str,x≠ "__name__" ->mb x=bootBuiltins x
 nolimit:base.NoLimit
def lams:List Str:=["cheapest"]
abbrev bT(x:Str):Str:=(x ++ ".<locals>.") ++ "<lambda>"
def TabsOk(K:PySem.W.Frag)(mg:Str->Option Value)(base:Heap)(H:Hp):Prop:=∀x c P,x∈lams->PySem.W.tabIn K x=some (c,P)->PySem.W.CodeHd base c P/\H P=some (.iG (bT x))/\base.BuiltinsAt mg P
structure Cx where
 prog:Program
 w:World
 K:PySem.W.Frag
 mg:Str->Option Value
 base:Heap
 A:Around
 N:List Str
 s₀:Shared
 H₀:Hp
 env:Env
 outer:List Env
 stack:List Env
 ex:List Addr
 fn:Str->Bool
 calm:Bool
 pn:List (Addr×Obj)
 xe:Value->Shared->Prop
def frs(l:List Env):List Addr:=l.filterMap (·.frame)
abbrev Cx.fs(X:Cx):List Addr:=frs X.outer
def zH(sc:Scope)(x:Str):Prop:=sc.names.lookup x=some .local\/sc.names.lookup x=some .cell\/sc.names.lookup x=some .free
def Loc(sc:Scope)(x:Str):Prop:=sc.names.lookup x=some .local\/sc.names.lookup x=some .cell
def Look(env:Env)(h:Heap)(m:Str->Option Value)(x:Str)(u:Value):Prop:=
 (env.kindOf x=some .local/\m x=some u)\/((env.kindOf x=some .cell\/env.kindOf x=some .free)/\∃c,env.cells.lookup x=some c/\h.IsCell c (some u))
structure Cx.Ok(X:Cx):Prop where
 mod:Mod X.K X.mg X.base
 kind:X.env.scope.kind=.function
 glob:X.env.globals=mainGlobals
 blt:X.env.builtins=builtinsNs
 above:X.s₀.heap.objs.size<=X.env.locals
 inj:∀x y c,X.env.cells.lookup x=some c->X.env.cells.lookup y=some c->x=y
 has:∀x,(X.env.kindOf x=some .cell\/X.env.kindOf x=some .free)->∃c,X.env.cells.lookup x=some c
 cab:∀x c,X.fn x=true->X.env.cells.lookup x=some c->X.s₀.heap.objs.size<=c
 hd:X.calm=true->X.A.handled=none
 frames:X.A.frames=some X.stack
 stk:X.stack=X.outer\/(X.stack=X.env::X.outer/\X.env.frame=some X.env.locals)
 exf:∀b∈X.ex,b≠X.env.locals/\∀x c,X.env.cells.lookup x=some c->c≠b
 bs:∀b o,X.base.get? b=some o->X.s₀.heap.get? b=some o/\X.H₀ b=none
 Ng:X.base.objs.size<=X.s₀.heap.objs.size
 Fo:∀b o,X.base.get? b=some o->b∉X.ex
 Nt:∀b∈X.ex,b∉X.fs
 nF:X.s₀.heap.FunFrames X.base X.outer
 Yj:∀b∈X.fs,X.H₀ b=none
 tb:TabsOk X.K X.mg X.base X.H₀
structure Inv(X:Cx)(pins:List (Addr×Obj))(σ:List (Option V))(H:Hp)(s:Shared):Prop where
 ok:X.Ok
 os:s.os=X.s₀.os
 bare:AllBare s.gens
 base:Un X.fs X.ex X.H₀ H X.s₀.heap s.heap
 loc:∃m,s.heap.Ns X.env.locals m/\∀(i:Nat) (x:Str) (v:V),X.N[i]?=some x->σ[i]?=some (some v)->zH X.env.scope x->∃u,RelV v u/\Look X.env s.heap m x u
 cell:∀x c,X.env.cells.lookup x=some c->∃v,s.heap.IsCell c v
 free:H X.env.locals=none
 fZ:∀x c,X.env.cells.lookup x=some c->H c=none
 pin:∀p∈X.pn++pins,s.heap.get? p.1=some p.2/\H p.1=none/\p.1≠X.env.locals/\p.1∉X.fs/\∀v,p.2.data≠ .cell v
 hok:jz X.prog X.w H s.heap
 len:σ.length=X.N.length
section
variable{X:Cx}{pins:List (Addr×Obj)}{σ:List (Option V)}{H H':Hp}{s:Shared}{h':Heap}
def Cx.Ok.ZeO(ok:X.Ok){b:Addr}{o:Obj}(e:X.base.get? b=some o):b∉X.fs:=λhb=>by
 have:=(ok.nF.mem hb).1
 rw[e] at this;cases this
theorem Inv.bs(I:Inv X pins σ H s):∀b o,X.base.get? b=some o->s.heap.get? b=some o/\H b=none:=λb o e=>
 ⟨I.base.keep b o (I.ok.bs b o e).1 (I.ok.bs b o e).2 (I.ok.ZeO e) (I.ok.Fo b o e),I.base.free b o (I.ok.bs b o e).1 (I.ok.bs b o e).2 (I.ok.Fo b o e)⟩
def Inv.bk(I:Inv X pins σ H s):∀b o,X.base.get? b=some o->s.heap.get? b=some o:=λb o e=>(I.bs b o e).1
theorem Inv.tb(I:Inv X pins σ H s):TabsOk X.K X.mg X.base H:=λx c P hx e=>⟨(I.ok.tb x c P hx e).1,I.base.nD _ _ (I.ok.tb x c P hx e).2.1,(I.ok.tb x c P hx e).2.2⟩
theorem Inv.mod(I:Inv X pins σ H s):Mod X.K X.mg X.base:=I.ok.mod
def Inv.kJ(I:Inv X pins σ H s):X.K.In s.heap:=I.ok.mod.kin.keeps I.bk
theorem Inv.nolimit(I:Inv X pins σ H s):s.heap.NoLimit:=I.ok.mod.nolimit.keeps I.bk
theorem Inv.lt(I:Inv X pins σ H s):X.env.locals<s.heap.objs.size:=let ⟨_,hn,_⟩:=I.loc;hn.lt
def Inv.sz(I:Inv X pins σ H s):X.s₀.heap.objs.size<=s.heap.objs.size:=Nat.le_trans I.ok.above (Nat.le_of_lt I.lt)
def Inv.ZeP(I:Inv X pins σ H s){a:Addr}(h:s.heap.objs.size<=a):a∉X.fs:=λhb=>by
 obtain⟨_,o,ho,_⟩:=I.ok.nF.mem hb
 exact absurd (Nat.lt_of_lt_of_le (Heap.lt_size ho) (Nat.le_trans I.sz h)) (Nat.lt_irrefl _)
def Inv.Yk(I:Inv X pins σ H s):∀x c,X.env.cells.lookup x=some c->c≠X.env.locals:=λx c e z=>by
 obtain⟨v,o,ho,hd⟩:=I.cell x c e
 obtain⟨m,⟨o',es,ep,ho',hd',_⟩,_⟩:=I.loc
 rw[z,ho'] at ho;cases ho;rw[hd'] at hd;cases hd
theorem Inv.nF(I:Inv X pins σ H s):s.heap.FunFrames X.base X.outer:=by
 have all:∀(l:List Env),(∀b∈frs l,b∈X.fs)->X.s₀.heap.FunFrames X.base l->s.heap.FunFrames X.base l:=by
  intro l
  induction l with
  |nil=>intro _ _;trivial
  |cons env r ih=>
   intro hs hl
   obtain⟨hk,⟨L,o,hf,hn,ho,hd⟩,hr⟩:=hl
   have hL:L∈X.fs:=hs L (by unfold frs;rw[List.filterMap_cons,hf];exact List.mem_cons_self)
   obtain⟨sl,e⟩:=I.base.slot L o ho (I.ok.Yj L hL) hL λz=>I.ok.Nt L z hL
   exact⟨hk,⟨L,_,hf,hn,e,hd⟩,ih (λb hb=>hs b (by unfold frs;rw[List.filterMap_cons,hf];exact List.mem_cons_of_mem _ hb)) hr⟩
 exact all X.outer (λ_ hb=>hb) I.ok.nF
theorem Inv.stack(I:Inv X pins σ H s):s.heap.FunFrames X.base X.stack:=by
 rcases I.ok.stk with e|⟨e,hf⟩
 ·rw[e];exact I.nF
 ·rw[e]
  obtain⟨m,hn,_⟩:=I.loc
  refine .cons (by rw[I.ok.kind];decide) hf hn ?_ I.nF
  exact Heap.get?_none_of_le (Nat.le_trans I.ok.Ng I.ok.above)
def Inv.oW(I:Inv X pins σ H s):∀b∈frs X.stack,b∈X.env.locals::X.fs:=λb hb=>by
 rcases I.ok.stk with e|⟨e,hf⟩
 ·rw[e] at hb;exact List.mem_cons_of_mem _ hb
 ·rw[e] at hb
  unfold frs at hb
  rw[List.filterMap_cons,hf] at hb
  exact hb
def Inv.uM(I:Inv X pins σ H s):∀b∈frs X.stack,H b=none:=λb hb=>by
 rcases List.mem_cons.mp (I.oW b hb) with e|hb
 ·rw[e];exact I.free
 ·obtain⟨_,o,ho,_⟩:=I.ok.nF.mem hb
  exact I.base.free b o ho (I.ok.Yj b hb) λz=>I.ok.Nt b z hb
def Inv.step{g':Array GenState}{t':Nat}{d':Drawn}{ch:List Addr}(I:Inv X pins σ H s)
 (hch:∀b∈ch,(b∈X.ex\/X.s₀.heap.objs.size<=b)/\b≠X.env.locals/\(∀x c,X.env.cells.lookup x=some c->c≠b)/\∀p∈X.pn++pins,p.1≠b)
 (keep:∀b o,b≠X.env.locals->b∉X.fs->b∉ch->s.heap.get? b=some o->H b=none->h'.get? b=some o)
 (slot:∀b o,b≠X.env.locals->b∈X.fs->b∉ch->s.heap.get? b=some o->H b=none->∃sl,h'.get? b=some {o with slots:=sl})(free:∀b o,b∉ch->s.heap.get? b=some o->H b=none->H' b=none)
 (there:∀b o,b∉ch->s.heap.get? b=some o->∃o',h'.get? b=some o')
 (tups:∀b xs,H b=some (.tup xs)->H' b=some (.tup xs))(rK:∀b o u,H b=some (.dW o u)->H' b=some (.dW o u))(nD:∀b q,H b=some (.iG q)->H' b=some (.iG q))
 (ns:∀m,s.heap.Ns X.env.locals m->h'.Ns X.env.locals m)(hok:jz X.prog X.w H' h')(hg:AllBare g') :
 Inv X pins σ H' {s with heap:=h',gens:=g',drawn:=d',toks:=t'}:=by
 have neL:∀b o,X.s₀.heap.get? b=some o->b≠X.env.locals:=λb o e=>Nat.ne_of_lt (Nat.lt_of_lt_of_le (Heap.lt_size e) I.ok.above)
 have neC:∀b o,X.s₀.heap.get? b=some o->b∉X.ex->b∉ch:=λb o e hx hb=>by
  rcases(hch b hb).1 with z|z
  ·exact hx z
  ·exact absurd (Nat.lt_of_lt_of_le (Heap.lt_size e) z) (Nat.lt_irrefl _)
 have cellK:∀x c,X.env.cells.lookup x=some c->∀v,s.heap.IsCell c v->h'.IsCell c v:=λx c e v ⟨o,ho,hd⟩=>by
  have nch:c∉ch:=λz=>(hch c z).2.2.1 x c e rfl
  by_cases hc:c∈X.fs
  ·obtain⟨sl,q⟩:=slot c o (I.Yk x c e) hc nch ho (I.fZ x c e)
   exact⟨_,q,hd⟩
  ·exact⟨o,keep c o (I.Yk x c e) hc nch ho (I.fZ x c e),hd⟩
 refine⟨I.ok,I.os,hg,⟨λb o e n hb hx=>?_,λb o e n hb hx=>?_,λb o e n hx=>?_,λb o e hx=>?_,λb xs e=>tups b xs (I.base.tups b xs e),λb o xs e=>rK b o xs (I.base.rK b o xs e),λb ps e=>?_⟩,?_,λx c e=>?_,?_,λx c e=>?_,λp hp=>?_,hok,I.len⟩
 ·exact keep b o (neL b o e) hb (neC b o e hx) (I.base.keep b o e n hb hx) (I.base.free b o e n hx)
 ·obtain⟨sl,e1⟩:=I.base.slot b o e n hb hx
  obtain⟨sl',e2⟩:=slot b _ (neL b o e) hb (neC b o e hx) e1 (I.base.free b o e n hx)
  exact⟨sl',e2⟩
 ·obtain⟨o',e1⟩:=I.base.there b o e hx
  exact free b o' (neC b o e hx) e1 (I.base.free b o e n hx)
 ·obtain⟨o',e1⟩:=I.base.there b o e hx
  exact there b o' (neC b o e hx) e1
 ·exact nD b ps (I.base.nD b ps e)
 ·obtain⟨m,hn,hl⟩:=I.loc
  refine⟨m,ns m hn,λi x v e1 e2 e3=>?_⟩
  obtain⟨u,r,l⟩:=hl i x v e1 e2 e3
  refine⟨u,r,?_⟩
  rcases l with l|⟨k,c,e,z⟩
  ·exact .inl l
  ·exact .inr ⟨k,c,e,cellK x c e _ z⟩
 ·obtain⟨v,z⟩:=I.cell x c e
  exact⟨v,cellK x c e v z⟩
 ·obtain⟨m,⟨o,_,_,ho,_⟩,_⟩:=I.loc
  exact free _ o (λz=>(hch _ z).2.1 rfl) ho I.free
 ·obtain⟨v,o,ho,hd⟩:=I.cell x c e
  exact free c o (λz=>(hch c z).2.2.1 x c e rfl) ho (I.fZ x c e)
 ·obtain⟨e,n,ne,nf,d⟩:=I.pin p hp
  have nch:p.1∉ch:=λz=>(hch p.1 z).2.2.2 p hp rfl
  exact⟨keep p.1 p.2 ne nf nch e n,free p.1 p.2 nch e n,ne,nf,d⟩
def Inv.un{t':Nat}(I:Inv X pins σ H s)(u:Un X.fs [] H H' s.heap h')(hok:jz X.prog X.w H' h'):Inv X pins σ H' {s with heap:=h',toks:=t'}:=by
 obtain⟨m,⟨o,es,ep,ho,r⟩,_⟩:=id I.loc
 obtain⟨sl,hL⟩:=u.any ho I.free (by simp)
 exact I.step (g':=s.gens) (d':=s.drawn) (ch:=[]) (λ_ z=>nomatch z) (λb o _ hb _ e n=>u.keep b o e n hb (by simp)) (λb o _ hb _ e n=>u.slot b o e n hb (by simp)) (λb o _ e n=>u.free b o e n (by simp)) (λb o _ e=>u.there b o e (by simp)) u.tups u.rK u.nD (λm' hm=>by
  obtain⟨o',es',ep',ho',r'⟩:=hm
  rw[ho] at ho';cases ho'
  exact⟨_,es',ep',hL,r'⟩) hok I.bare
def Inv.call{g':Array GenState}{t':Nat}{d':Drawn}{ch:List Addr}(I:Inv X pins σ H s)(u:Un (frs X.stack) ch H H' s.heap h')(hok:jz X.prog X.w H' h')(hg:AllBare g')
 (hch:∀b∈ch,(b∈X.ex\/X.s₀.heap.objs.size<=b)/\b≠X.env.locals/\(∀x c,X.env.cells.lookup x=some c->c≠b)/\∀p∈X.pn++pins,p.1≠b) :
 Inv X pins σ H' {s with heap:=h',gens:=g',drawn:=d',toks:=t'}:=by
 obtain⟨m,⟨o,es,ep,ho,r⟩,_⟩:=id I.loc
 obtain⟨sl,hL⟩:=u.any ho I.free λz=>(hch _ z).2.1 rfl
 exact I.step (ch:=ch) hch (λb o hL hb hc e n=>u.keep b o e n (λz=>(List.mem_cons.mp (I.oW b z)).elim hL hb) hc) (λb o _ _ hc e n=>u.any e n hc) (λb o hc e n=>u.free b o e n hc) (λb o hc e=>u.there b o e hc) u.tups u.rK u.nD (λm' hm=>by
  obtain⟨o',es',ep',ho',r'⟩:=hm
  rw[ho] at ho';cases ho'
  exact⟨_,es',ep',hL,r'⟩) hok hg
def Inv.turned{t':Nat}{it:Addr}(I:Inv X pins σ H s)(k:∀b o,b≠it->s.heap.get? b=some o->h'.get? b=some o)(hn:H it=none)(hL:it≠X.env.locals)
 (h1:it∈X.ex\/X.s₀.heap.objs.size<=it)(h2:∀x c,X.env.cells.lookup x=some c->c≠it)(h3:∀p∈X.pn++pins,p.1≠it):Inv X pins σ H {s with heap:=h',toks:=t'}:=by
 have nit:∀b u,H b=some u->b≠it:=λb u e z=>by rw[z,hn] at e;cases e
 refine I.step (g':=s.gens) (d':=s.drawn) (ch:=[it]) (λb hb=>?_) (λb o _ _ hc e _=>k b o (λz=>hc (by simp[z])) e) (λb o _ _ hc e _=>⟨o.slots,k b o (λz=>hc (by simp[z])) e⟩) (λ_ _ _ _ n=>n)
  (λb o hc e=>⟨o,k b o (λz=>hc (by simp[z])) e⟩) (λ_ _ e=>e) (λ_ _ _ e=>e) (λ_ _ e=>e) (λm hm=>?_) (λb u e=>?_) I.bare
 ·have e:b=it:=by simpa using hb
  subst e
  exact⟨h1,hL,h2,h3⟩
 ·obtain⟨o,es,ep,ho,r⟩:=hm
  exact⟨o,es,ep,k _ o (Ne.symm hL) ho,r⟩
 ·refine(I.hok b u e).stay (λc v hc q=>k c v ?_ q) (λ_ q=>q) λ_ _ q=>q
  rcases hc with z|z
  ·rw[z];exact nit b u e
  ·exact nit c _ z
def Inv.tok(I:Inv X pins σ H s)(t:Nat):Inv X pins σ H {s with toks:=t}:=I.un (h':=s.heap) (t':=t) Un.refl I.hok
theorem Inv.kept{t':Nat}(I:Inv X pins σ H s)(k:∀b u,s.heap.get? b=some u->h'.get? b=some u):Inv X pins σ H {s with heap:=h',toks:=t'}:=I.un (Un.kept k) (I.hok.kept k)
theorem Inv.laid{a:Addr}{o:HO}{t':Nat}(I:Inv X pins σ H s)(k:∀b u,s.heap.get? b=some u->h'.get? b=some u)(hp:s.heap.objs.size<=a)(new:ž X.prog X.w (upd H a o) h' a o) :
 Inv X pins σ (upd H a o) {s with heap:=h',toks:=t'}:=I.un (Un.laid k hp (I.hok.fresh hp)) (I.hok.laid k hp new)
theorem Inv.write{x e:Addr}{o:HO}{t':Nat}(I:Inv X pins σ H s)(mu:Mut (H x))(he:e=x\/H e=some (.own x))(k:∀b u,b≠e->s.heap.get? b=some u->h'.get? b=some u)(heo:∃u,h'.get? e=some u)
 (new:ž X.prog X.w (upd H x o) h' x o):Inv X pins σ (upd H x o) {s with heap:=h',toks:=t'}:=I.un (Un.write mu he k heo) (I.hok.write mu he k heo new)
def Inv.CJ{iH:List (Addr×Obj)}(I:Inv X pins σ H s)(h:∀p∈iH,s.heap.get? p.1=some p.2/\H p.1=none/\p.1≠X.env.locals/\p.1∉X.fs/\∀v,p.2.data≠ .cell v):Inv X iH σ H s:=
 ⟨I.ok,I.os,I.bare,I.base,I.loc,I.cell,I.free,I.fZ,λp hp=>(List.mem_append.mp hp).elim (λz=>I.pin p (List.mem_append_left _ z)) (h p),I.hok,I.len⟩
def wV{N:List Str}(hN:N.Nodup){i j:Nat}{x:Str}(a:N[i]?=some x)(b:N[j]?=some x):i=j:=by
 obtain⟨h1,e1⟩:=List.getElem?_eq_some_iff.mp a
 obtain⟨h2,e2⟩:=List.getElem?_eq_some_iff.mp b
 exact(List.getElem_inj hN).mp (e1.trans e2.symm)
def sU{M:Model}{A:Around}{E:Value->Shared->Prop}{i:Nat}{x:Str}{v:V}{u:Value}{Q:Unit->Shared->Prop}(I:Inv X pins σ H s)(hN:X.N.Nodup)(hi:X.N[i]?=some x)(hx:Loc X.env.scope x)(r:RelV v u)
 (h:∀s',Inv X pins (σ.set i (some v)) H s'->(∃a,Heap.SameBut a s.heap s'.heap/\(a=X.env.locals\/X.env.cells.lookup x=some a))->Q () s')(hf:X.fn x=true\/X.env.scope.names.lookup x=some .local:=by first|exact .inl rfl|exact .inr rfl|assumption):wpAny M A (storeName X.env x u) Q E s:=by
 obtain⟨m,hn,hl⟩:=id I.loc
 have hcls:(X.env.scope.kind== .class || (X.env.scope.kind== .module && X.env.locals != X.env.globals))=false:=by rw[I.ok.kind];rfl
 have Zgs:i < σ.length:=by rw[I.len];exact(List.getElem?_eq_some_iff.mp hi).1
 have Yk:=I.Yk
 have tracked:∀{a:Addr} {h':Heap},(∃o,s.heap.get? a=some o/\H a=none)->Heap.SameBut a s.heap h'->jz X.prog X.w H h':=fun{a h'} ha hs b ob e=>by
  obtain⟨_,_,hfree⟩:=ha
  refine(I.hok b ob e).stay (λc w' hc q=>(hs.2 c ?_).trans q) (λ_ q=>q) λ_ _ q=>q
  rintro rfl
  rcases hc with rfl|hc
  ·rw[hfree] at e;cases e
  ·rw[hfree] at hc;cases hc
 rcases hx with hk|hk
 ·refine wpAny_storeName_local hk hn (λh' hn' hs=>?_) hcls
  obtain⟨oL,_,_,hoL,_⟩:=id hn
  refine h _ ⟨I.ok,I.os,I.bare,⟨λb o e n hb hx=>?_,λb o e n hb hx=>?_,I.base.free,λb o e hx=>?_,I.base.tups,I.base.rK,I.base.nD⟩,⟨_,hn',λj y v' e1 e2 e3=>?_⟩,λy c e=>?_,I.free,I.fZ,λp hp=>?_,tracked ⟨oL,hoL,I.free⟩ hs,by simpa using I.len⟩ ⟨_,hs,.inl rfl⟩
  ·exact(hs.2 b (Nat.ne_of_lt (Nat.lt_of_lt_of_le (Heap.lt_size e) I.ok.above))).trans (I.base.keep b o e n hb hx)
  ·obtain⟨sl,e1⟩:=I.base.slot b o e n hb hx
   exact⟨sl,(hs.2 b (Nat.ne_of_lt (Nat.lt_of_lt_of_le (Heap.lt_size e) I.ok.above))).trans e1⟩
  ·obtain⟨o',e1⟩:=I.base.there b o e hx
   exact⟨o',(hs.2 b (Nat.ne_of_lt (Nat.lt_of_lt_of_le (Heap.lt_size e) I.ok.above))).trans e1⟩
  ·by_cases hj:j=i
   ·subst hj
    rw[hi] at e1;cases e1
    rw[List.getElem?_set_self Zgs] at e2
    cases e2
    exact⟨u,r,.inl ⟨hk,by simp⟩⟩
   ·rw[List.getElem?_set_ne (Ne.symm hj)] at e2
    obtain⟨u',r',q⟩:=hl j y v' e1 e2 e3
    refine⟨u',r',?_⟩
    rcases q with⟨k,e⟩|⟨k,c,e,z⟩
    ·refine .inl ⟨k,?_⟩
     have:y≠x:=λe=>hj (wV hN e1 (e▸hi))
     simp[this,e]
    ·exact .inr ⟨k,c,e,z.sameBut hs (Yk y c e)⟩
  ·obtain⟨w',z⟩:=I.cell y c e
   exact⟨w',z.sameBut hs (Yk y c e)⟩
  ·obtain⟨e,n,ne,nf,d⟩:=I.pin p hp
   exact⟨(hs.2 p.1 ne).trans e,n,ne,nf,d⟩
 ·have hfn:X.fn x=true:=by
   rcases hf with z|z
   ·exact z
   ·rw[z] at hk;cases hk
  obtain⟨c,hc⟩:=I.ok.has x (.inl hk)
  obtain⟨w',z⟩:=I.cell x c hc
  refine wpAny_storeName_cell I.ok.kind hk hc z (λh' hc' hs=>?_)
  obtain⟨oc,hoc,ZeQ⟩:=id z
  refine h {s with heap:=h'} ⟨I.ok,I.os,I.bare,⟨λb o e n hb hx=>?_,λb o e n hb hx=>?_,I.base.free,λb o e hx=>?_,I.base.tups,I.base.rK,I.base.nD⟩,⟨m,hn.sameBut hs (Ne.symm (Yk x c hc)),λj y v' e1 e2 e3=>?_⟩,λy c' e=>?_,I.free,I.fZ,λp hp=>?_,tracked ⟨oc,hoc,I.fZ x c hc⟩ hs,by simpa using I.len⟩ ⟨c,hs,.inr hc⟩
  ·exact(hs.2 b (Nat.ne_of_lt (Nat.lt_of_lt_of_le (Heap.lt_size e) (I.ok.cab x c hfn hc)))).trans (I.base.keep b o e n hb hx)
  ·obtain⟨sl,e1⟩:=I.base.slot b o e n hb hx
   exact⟨sl,(hs.2 b (Nat.ne_of_lt (Nat.lt_of_lt_of_le (Heap.lt_size e) (I.ok.cab x c hfn hc)))).trans e1⟩
  ·obtain⟨o',e1⟩:=I.base.there b o e hx
   exact⟨o',(hs.2 b (Nat.ne_of_lt (Nat.lt_of_lt_of_le (Heap.lt_size e) (I.ok.cab x c hfn hc)))).trans e1⟩
  ·by_cases hj:j=i
   ·subst hj
    rw[hi] at e1;cases e1
    rw[List.getElem?_set_self Zgs] at e2
    cases e2
    exact⟨u,r,.inr ⟨.inl hk,c,hc,hc'⟩⟩
   ·rw[List.getElem?_set_ne (Ne.symm hj)] at e2
    obtain⟨u',r',q⟩:=hl j y v' e1 e2 e3
    refine⟨u',r',?_⟩
    rcases q with q|⟨k,c',e,z'⟩
    ·exact .inl q
    ·refine .inr ⟨k,c',e,z'.sameBut hs ?_⟩
     rintro rfl
     exact hj (wV hN e1 (I.ok.inj _ _ _ e hc▸hi))
  ·by_cases hcc:c'=c
   ·subst hcc;exact⟨_,hc'⟩
   ·obtain⟨w2,z2⟩:=I.cell y c' e
    exact⟨w2,z2.sameBut hs hcc⟩
  ·obtain⟨e,n,ne,nf,d⟩:=I.pin p hp
   refine⟨(hs.2 p.1 ?_).trans e,n,ne,nf,d⟩
   intro q
   rw[q,hoc] at e
   have q':oc=p.2:=Option.some.inj e
   exact d w' (by rw[<-q'];exact ZeQ)
def oX{M:Model}{A:Around}{E:Value->Shared->Prop}{i:Nat}{x:Str}{v:V}{u:Value}{Q:Unit->Shared->Prop}(I:Inv X pins σ H s)(hN:X.N.Nodup)(hi:X.N[i]?=some x)(hx:Loc X.env.scope x)(r:RelV v u)
 (h:∀s',Inv X pins (σ.set i (some v)) H s'->Q () s')(hf:X.fn x=true\/X.env.scope.names.lookup x=some .local:=by first|exact .inl rfl|exact .inr rfl|assumption):wpAny M A (storeName X.env x u) Q E s:=
 sU I hN hi hx r (λs' I' _=>h s' I') hf
def Inv.call'{s':Shared}{ch:List Addr}(I:Inv X pins σ H s)(ho:s'.os=s.os)(u:Un (frs X.stack) ch H H' s.heap s'.heap)(hok:jz X.prog X.w H' s'.heap)(hg:AllBare s'.gens)
 (hch:∀b∈ch,(b∈X.ex\/X.s₀.heap.objs.size<=b)/\b≠X.env.locals/\(∀x c,X.env.cells.lookup x=some c->c≠b)/\∀p∈X.pn++pins,p.1≠b):Inv X pins σ H' s':=by
 obtain⟨h',g',d',t',o'⟩:=s'
 have e:o'=s.os:=ho
 subst e
 exact I.call (g':=g') (t':=t') (d':=d') u hok hg hch
end
abbrev XK:=Value->Option Addr->Hp->Prop
abbrev St:=List (Option V)
abbrev VK:=V->Hp->Prop
abbrev TE:=St->Hp->VK->Prop
abbrev TT:=St->Hp->(Bool->Hp->Prop)->Prop
abbrev TA:=St->Hp->(List V->Hp->Prop)->Prop
structure Ends where
 nx:St->Hp->Prop
 rt:VK
 bk:St->Hp->Prop:=λ_ _=>False
 ct:St->Hp->Prop:=λ_ _=>False
abbrev TS:=Ends->St->Hp->Prop
def EP(X:Cx)(pins:List (Addr×Obj))(σ:St)(Q:VK)(u:Value)(s':Shared):Prop:=∃v H',Inv X pins σ H' s'/\RelV v u/\Q v H'
def TP(X:Cx)(pins:List (Addr×Obj))(σ:St)(Q:Bool->Hp->Prop)(b:Bool)(s':Shared):Prop:=∃H',Inv X pins σ H' s'/\Q b H'
def AP(X:Cx)(pins:List (Addr×Obj))(σ:St)(Q:List V->Hp->Prop)(us:List Value)(s':Shared):Prop:=∃vs H',Inv X pins σ H' s'/\Vals vs us/\Q vs H'
def SP(X:Cx)(pins:List (Addr×Obj))(D:Ends)(f:Flow)(s':Shared):Prop:=
 match f with
 | .next=>∃σ' H',Inv X pins σ' H' s'/\D.nx σ' H'
 | .brk=>∃σ' H',Inv X pins σ' H' s'/\D.bk σ' H'
 | .cont=>∃σ' H',Inv X pins σ' H' s'/\D.ct σ' H'
 | .ret u=>∃v σ' H',Inv X pins σ' H' s'/\RelV v u/\D.rt v H'
def PE(X:Cx)(e:Expr)(t:TE):Prop:=
 ∀(pins:List (Addr×Obj)) (s:Shared) (σ:St) (H:Hp) (Q:VK),Inv X pins σ H s->t σ H Q->wpAny (model X.prog X.w) X.A (eval e X.env) (EP X pins σ Q) X.xe s
def PT(X:Cx)(e:Expr)(t:TT):Prop:=
 ∀(pins:List (Addr×Obj)) (s:Shared) (σ:St) (H:Hp) (Q:Bool->Hp->Prop),Inv X pins σ H s->t σ H Q->wpAny (model X.prog X.w) X.A (isTrue e X.env (eval e X.env)) (TP X pins σ Q) X.xe s
def PW(X:Cx)(e:Expr)(t:TT):Prop:=
 ∀(whole:Sem Value) (pins:List (Addr×Obj)) (s:Shared) (σ:St) (H:Hp) (Q:Bool->Hp->Prop),Inv X pins σ H s->t σ H Q->wpAny (model X.prog X.w) X.A (isTrue e X.env whole) (TP X pins σ Q) X.xe s
def PW.pt{X:Cx}{e:Expr}{t:TT}(h:PW X e t):PT X e t:=h _
def PA(X:Cx)(es:List Expr)(t:TA):Prop:=
 ∀(pos:Pos) (pins:List (Addr×Obj)) (s:Shared) (σ:St) (H:Hp) (Q:List V->Hp->Prop),Inv X pins σ H s->t σ H Q->wpAny (model X.prog X.w) X.A (spliced (backTo pos (starEach es X.env))) (AP X pins σ Q) X.xe s
def PS(X:Cx)(st:Stmt)(t:TS):Prop:=
 ∀(pins:List (Addr×Obj)) (s:Shared) (σ:St) (H:Hp) (D:Ends),Inv X pins σ H s->t D σ H->wpAny (model X.prog X.w) X.A (exec st X.env) (SP X pins D) X.xe s
def iD(X:Cx)(st:List Stmt)(t:TS):Prop:=
 ∀(pins:List (Addr×Obj)) (s:Shared) (σ:St) (H:Hp) (D:Ends),Inv X pins σ H s->t D σ H->wpAny (model X.prog X.w) X.A (execs st X.env) (SP X pins D) X.xe s
def ŕ{α:Type}{t:Sem α}{Q Q':α->Shared->Prop}{M:Model}{A:Around}{E:Value->Shared->Prop}{s:Shared}(h:wpAny M A t Q E s)(hQ:∀a s,Q a s->Q' a s):wpAny M A t Q' E s:=wpAny_mono h hQ λ_ _ x=>x
end L2
namespace L2
open PySem PySem.Spec PyProof.Rows
section
variable{X:Cx}
def zJ(i:Nat):TE:=λσ H Q=>∃v,σ[i]?=some (some v)/\Q v H
def tC(v:V):TE:=λ_ H Q=>Q v H
def dX{i:Nat}{x:Str}{pos:Pos}(hN:X.N[i]?=some x)(hv:zH X.env.scope x)(hd:(x== ("__debug__" :Str))=false:=by decide)(hcd:(x== ("__classdict__" :Str))=false:=by decide):PE X (.Name x pos) (zJ i):=by
 intro pins s σ H Q I h
 obtain⟨v,e,h⟩:=h
 obtain⟨m,hn,hl⟩:=I.loc
 obtain⟨u,r,l⟩:=hl i x v hN e hv
 have fin:EP X pins σ Q u s:=⟨v,H,I,r,h⟩
 rcases l with⟨hk,hm⟩|⟨hk,c,hc,hcell⟩
 ·exact wpAny_Name (wpAny_loadName_local I.ok.kind hk hn hm fin) hd
 ·rcases hk with hk|hk
  ·exact wpAny_Name (wpAny_loadName_cell I.ok.kind hk hc hcell fin) hd
  ·exact wpAny_Name (wpAny_loadName_free I.ok.kind hk hc hcell fin hcd) hd
def Yl{i j pos}:PE X (.Constant (.int i) j pos) (tC (.int i)):=λ_ _ _ H _ I h=>wpAny_Constant_int ⟨.int i,H,I.tok _,⟨_,rfl⟩,h⟩
def Zcn{b j pos}:PE X (.Constant (.bool b) j pos) (tC (.bl b)):=λ_ _ _ H _ I h=>Constant_bool ⟨.bl b,H,I,rfl,h⟩
def Ym{j pos}:PE X (.Constant .none j pos) (tC .non):=λ_ _ _ H _ I h=>Constant_none ⟨.non,H,I,rfl,h⟩
def Yn{x j pos}:PE X (.Constant (.str x) j pos) (tC (.str x)):=λ_ _ _ H _ I h=>Calls.Constant_str ⟨.str x,H,I.tok _,⟨_,rfl⟩,h⟩
def Gl(X:Cx)(x:Str):Prop:=X.env.kindOf x=some .globalImplicit
def ou{E:Value->Shared->Prop}{pins:List (Addr×Obj)}{s:Shared}{σ:St}{H:Hp}{x:Str}{u:Value}{pos:Pos}{Q:Value->Shared->Prop}(I:Inv X pins σ H s)(hg:Gl X x)(hm:X.mg x=some u)(h:Q u s)
 (hd:(x== ("__debug__" :Str))=false:=by decide):wpAny (model X.prog X.w) X.A (eval (.Name x pos) X.env) Q E s:=
 Calls.Name_function_global I.ok.kind hg (Calls.loadGlobal_global (by rw[I.ok.glob];exact I.mod.glob.keeps I.bk) hm h) hd
def gb{E:Value->Shared->Prop}{pins:List (Addr×Obj)}{s:Shared}{σ:St}{H:Hp}{x:Str}{u:Value}{pos:Pos}{Q:Value->Shared->Prop}(I:Inv X pins σ H s)(hg:Gl X x)(hm:X.mg x=none)(hv:bootBuiltins x=some u)(h:Q u s)
 (hn:x≠ "__name__" := by decide)(hd:(x== ("__debug__" :Str))=false:=by decide):wpAny (model X.prog X.w) X.A (eval (.Name x pos) X.env) Q E s:=by
 obtain⟨mb,h1,h2⟩:=I.mod.blt
 exact Calls.Name_function_global I.ok.kind hg (Calls.loadGlobal_builtin (by rw[I.ok.glob];exact I.mod.glob.keeps I.bk) hm (by rw[I.ok.blt];exact h1.keeps I.bk) ((h2 x hn).trans hv) h) hd
def oA{x:Str}{v:V}{u:Value}{pos:Pos}(hg:Gl X x)(hm:X.mg x=some u)(r:RelV v u)(hd:(x== ("__debug__" :Str))=false:=by decide):PE X (.Name x pos) (tC v):=
 λ_ _ _ H _ I h=>ou I hg hm ⟨v,H,I,r,h⟩ hd
def oE{x:Str}{v:V}{u:Value}{pos:Pos}(hg:Gl X x)(hm:X.mg x=none)(hv:bootBuiltins x=some u)(r:RelV v u)(hn:x≠ "__name__" := by decide)(hd:(x== ("__debug__" :Str))=false:=by decide):PE X (.Name x pos) (tC v):=
 λ_ _ _ H _ I h=>gb I hg hm hv ⟨v,H,I,r,h⟩ hn hd
variable{a b:Expr}{ta tb:TE}{pos:Pos}
variable{tA tB':TT}{rest:List Expr}
def ZeR(t u:TT):TT:=λσ H Q=>t σ H λc H1=>if c=true then u σ H1 Q else Q false H1
def tOr(t u:TT):TT:=λσ H Q=>t σ H λc H1=>if c=true then Q true H1 else u σ H1 Q
def ZeS(t:TT):TT:=λσ H Q=>t σ H λc H1=>Q (!c) H1
def Nu(ha:PT X a tA):PW X (.BoolOp .And [a] pos) tA:=by
 intro wh pins s σ H Q I h
 refine isTrue_and (ŕ (ha pins s σ H Q I h) λc s1 e=>?_)
 cases c with
 |true=>exact isTrue_and_nil e
 |false=>exact e
def Yo(ha:PT X a tA):PW X (.BoolOp .Or [a] pos) tA:=by
 intro wh pins s σ H Q I h
 refine isTrue_or (ŕ (ha pins s σ H Q I h) λc s1 e=>?_)
 cases c with
 |false=>exact isTrue_or_nil e
 |true=>exact e
def Yp(ha:PT X a tA)(hb:PW X (.BoolOp .And (b::rest) pos) tB'):PW X (.BoolOp .And (a::b::rest) pos) (ZeR tA tB'):=by
 intro wh pins s σ H Q I h
 refine isTrue_and (ŕ (ha pins s σ H _ I h) λc s1 ⟨H1,I1,q1⟩=>?_)
 cases c with
 |true=>exact hb wh pins s1 σ H1 Q I1 q1
 |false=>exact⟨H1,I1,q1⟩
def Zco(ha:PT X a tA)(hb:PW X (.BoolOp .Or (b::rest) pos) tB'):PW X (.BoolOp .Or (a::b::rest) pos) (tOr tA tB'):=by
 intro wh pins s σ H Q I h
 refine isTrue_or (ŕ (ha pins s σ H _ I h) λc s1 ⟨H1,I1,q1⟩=>?_)
 cases c with
 |true=>exact⟨H1,I1,q1⟩
 |false=>exact hb wh pins s1 σ H1 Q I1 q1
def Yq(ha:PT X a tA):PT X (.UnaryOp .Not a pos) (ZeS tA):=by
 intro pins s σ H Q I h
 exact isTrue_not (ha pins s σ H (λc H1=>Q (!c) H1) I h)
def Yr{op}{t:TE}(h:PE X a t):PE X (.BoolOp op [a] pos) t:=λpins s σ H Q I hw=>BoolOp_one (h pins s σ H Q I hw)
end
end L2
namespace L2
open PySem PySem.Spec PyProof.Rows
def ū(K:PySem.W.Frag)(H:Hp)(a:Addr)(xs:List V):Prop:=
 Rd H a (.lst xs)\/
  ∃(o:Obj) (its:Array Value) (n:Nat),K.lookup a=some o/\o.cls=.type "list" /\o.dict=none/\o.data=.seq its n/\its.size<=sizeLine/\Vals xs its.toList
def bO(K:PySem.W.Frag)(H:Hp)(a:Addr)(xs:List V):Prop:=
 Rd H a (.tup xs)\/
  ∃(o:Obj) (its:Array Value) (n:Nat),K.lookup a=some o/\o.cls=.type "tuple" /\o.data=.seq its n/\its.size<=sizeLine/\Vals xs its.toList
def ZeT:Value->Option V
 | .none=>some .non
 | .bool b=>some (.bl b)
 | .int i _=>some (.int i)
 | .str x _=>some (.str x)
 | .bytes b _=>some (.QC b)
 | .float b _=>some (.flt b)
 | .ref a=>some (.ref a)
 | .type n=>some (.ty n)
 |_=>none
def RelV.abs{x:V}{u:Value}(r:RelV x u):ZeT u=some x:=by
 cases x with
 |non=>cases r;rfl
 |bl _=>cases r;rfl
 |int _=>obtain⟨t,rfl⟩:=r;rfl
 |str _=>obtain⟨t,rfl⟩:=r;rfl
 |QC _=>obtain⟨t,rfl⟩:=r;rfl
 |flt _=>obtain⟨t,rfl⟩:=r;rfl
 |ref _=>cases r;rfl
 |ty _=>cases r;rfl
theorem RelV.inj{x y:V}{u:Value}(r:RelV x u)(q:RelV y u):x=y:=Option.some.inj (r.abs.symm.trans q.abs)
theorem Vals.inj:∀{xs ys:List V} {us:List Value},Vals xs us->Vals ys us->xs=ys
 |_,_,_,.nil,.nil=>rfl
 |_,_,_,.cons r t,.cons r' t'=>by rw[r.inj r',Vals.inj t t']
section
variable{X:Cx}{pins:List (Addr×Obj)}{σ:St}{H:Hp}{s:Shared}{a:Addr}{xs ys:List V}
def ū.of{K:PySem.W.Frag}(h:H a=some (.lst xs)):ū K H a xs:=.inl (.inl h)
def bO.of{K:PySem.W.Frag}(h:H a=some (.tup xs)):bO K H a xs:=.inl (.inl h)
def Inv.list(I:Inv X pins σ H s)(h:ū X.K H a xs):∃its:List Value,Vals xs its/\PlainL s.heap a its.toArray/\xs.length<=sizeLine:=by
 rcases h with h|⟨o,its,n,hk,hc,hd,hs,hz,r⟩
 ·obtain⟨z,its,n,r,e⟩:=h.ok I.hok
  exact⟨its,r,⟨_,n,e,rfl,rfl,rfl⟩,z⟩
 ·refine⟨its.toList,r,⟨o,n,I.kJ a o hk,hc,hd,by simpa using hs⟩,?_⟩
  have e:=r.length
  simp only[Array.length_toList] at e
  omega
def Inv.tuple(I:Inv X pins σ H s)(h:bO X.K H a xs):∃its:List Value,Vals xs its/\IsTup s.heap a its.toArray/\xs.length<=sizeLine:=by
 rcases h with h|⟨o,its,n,hk,hc,hs,hz,r⟩
 ·obtain⟨z,its,r,p⟩:=h.ok I.hok
  exact⟨its,r,p,z⟩
 ·refine⟨its.toList,r,⟨o,I.kJ a o hk,hc,n,by simpa using hs⟩,?_⟩
  have e:=r.length
  simp only[Array.length_toList] at e
  omega
def Inv.oY(I:Inv X pins σ H s)(h:ū X.K H a xs)(h':ū X.K H a ys):xs=ys:=by
 obtain⟨its,r,⟨o,n,e,_,_,d⟩,_⟩:=I.list h
 obtain⟨its',r',⟨o',n',e',_,_,d'⟩,_⟩:=I.list h'
 rw[e] at e';cases e'
 rw[d] at d'
 injection d' with d1 _
 have:its=its':=by simpa using congrArg Array.toList d1
 subst this
 exact r.inj r'
def Inv.sV(I:Inv X pins σ H s)(h:bO X.K H a xs)(h':bO X.K H a ys):xs=ys:=by
 obtain⟨its,r,⟨o,e,_,n,d⟩,_⟩:=I.tuple h
 obtain⟨its',r',⟨o',e',_,n',d'⟩,_⟩:=I.tuple h'
 rw[e] at e';cases e'
 rw[d] at d'
 injection d' with d1 _
 have:its=its':=by simpa using congrArg Array.toList d1
 subst this
 exact r.inj r'
end
abbrev Cx.wish(X:Cx)(E:Value->Shared->Prop):Cx:={X with xe:=E}
abbrev Cx.Ŝ(X:Cx):Cx:=X.wish λ_ _=>False
theorem Cx.Ok.wish{X:Cx}(ok:X.Ok)(E:Value->Shared->Prop):(X.wish E).Ok:=
 ⟨ok.mod,ok.kind,ok.glob,ok.blt,ok.above,ok.inj,ok.has,ok.cab,ok.hd,ok.frames,ok.stk,ok.exf,ok.bs,ok.Ng,ok.Fo,ok.Nt,ok.nF,ok.Yj,ok.tb⟩
def Cx.Ok.dY{X:Cx}{E:Value->Shared->Prop}(ok:(X.wish E).Ok):X.Ok:=
 ⟨ok.mod,ok.kind,ok.glob,ok.blt,ok.above,ok.inj,ok.has,ok.cab,ok.hd,ok.frames,ok.stk,ok.exf,ok.bs,ok.Ng,ok.Fo,ok.Nt,ok.nF,ok.Yj,ok.tb⟩
section
variable{X:Cx}{pins:List (Addr×Obj)}{σ:St}{H:Hp}{s:Shared}{E:Value->Shared->Prop}
theorem Inv.wish(I:Inv X pins σ H s)(E:Value->Shared->Prop):Inv (X.wish E) pins σ H s:=⟨I.ok.wish E,I.os,I.bare,I.base,I.loc,I.cell,I.free,I.fZ,I.pin,I.hok,I.len⟩
theorem Inv.dY(I:Inv (X.wish E) pins σ H s):Inv X pins σ H s:=⟨I.ok.dY,I.os,I.bare,I.base,I.loc,I.cell,I.free,I.fZ,I.pin,I.hok,I.len⟩
theorem SP.dY{D:Ends}{f:Flow}{s':Shared}(h:SP (X.wish E) pins D f s'):SP X pins D f s':=by
 cases f with
 |next=>obtain⟨σ',H',I,q⟩:=h;exact⟨σ',H',I.dY,q⟩
 |brk=>obtain⟨σ',H',I,q⟩:=h;exact⟨σ',H',I.dY,q⟩
 |cont=>obtain⟨σ',H',I,q⟩:=h;exact⟨σ',H',I.dY,q⟩
 |ret u=>obtain⟨v,σ',H',I,r,q⟩:=h;exact⟨v,σ',H',I.dY,r,q⟩
theorem PE.Ŝ{e:Expr}{t:TE}(h:PE X.Ŝ e t):PE X e t:=λpins s σ H Q I hw=>
 wpAny_mono (h pins s σ H Q (I.wish _) hw) (λ_ _ ⟨v,H',I',r,q⟩=>⟨v,H',I'.dY,r,q⟩) λ_ _ z=>False.elim z
end
section
variable{X:Cx}{st:Stmt}{rest:List Stmt}{t u:TS}{e:Expr}{te:TE}{pos:Pos}
def Zcp:TS:=λD σ H=>D.nx σ H
def ZeU(t u:TS):TS:=λD σ H=>t {D with nx:=u D} σ H
def Nv:iD X [] Zcp:=λ_ _ σ H _ I h=>wpAny_execs_nil ⟨σ,H,I,h⟩
def GX(h1:PS X st t)(h2:iD X rest u):iD X (st::rest) (ZeU t u):=by
 intro pins s σ H D I h
 refine wpAny_execs_cons (ŕ (h1 pins s σ H {D with nx:=u D} I h) λf s1 q=>?_)
 cases f with
 |next=>
  obtain⟨σ',H',I',q⟩:=q
  exact h2 pins s1 σ' H' D I' q
 |ret v=>exact q
 |brk=>exact q
 |cont=>exact q
def Nx(h1:PS X st t):iD X [st] t:=by
 intro pins s σ H D I h
 refine wpAny_execs_cons (ŕ (h1 pins s σ H D I h) λf s1 q=>?_)
 cases f with
 |next=>exact wpAny_execs_nil q
 |ret v=>exact q
 |brk=>exact q
 |cont=>exact q
def Inv.quiet{pins:List (Addr×Obj)}{σ:St}{H:Hp}{s:Shared}(I:Inv X pins σ H s):interactive X.env=false:=by simp[interactive,I.ok.kind]
def GZ(te:TE):TS:=λD σ H=>te σ H λ_ H1=>D.nx σ H1
def Ũ(he:PE X e te)(hs:swapsWith e none pos.line X.env=pure false:=by rfl):PS X (.Expr e pos) (GZ te):=by
 intro pins s σ H D I h
 exact wpAny_Expr_any (ŕ (he pins s σ H _ I h) λv s1 ⟨x,H1,I1,r1,q1⟩=>⟨σ,H1,I1,q1⟩) I.quiet hs
def ZeV(te:TE):TS:=λD σ H=>te σ H D.rt
def Ys(he:PE X e te):PS X (.Return (some e) pos) (ZeV te):=by
 intro pins s σ H D I h
 exact wpAny_Return_some (ŕ (he pins s σ H _ I h) λv s1 ⟨x,H1,I1,r1,q1⟩=>⟨x,σ,H1,I1,r1,q1⟩)
def ZeW(c:TT)(t u:TS):TS:=λD σ H=>c σ H λb H1=>if b=true then t D σ H1 else u D σ H1
def Zcq{c:Expr}{a b:List Stmt}{tc:TT}(hc:PT X c tc)(ha:iD X a t)(hb:iD X b u):PS X (.If c a b pos) (ZeW tc t u):=by
 intro pins s σ H D I h
 refine wpAny_If (ŕ (hc pins s σ H _ I h) λd s1 ⟨H1,I1,q1⟩=>?_)
 cases d with
 |true=>exact ha pins s1 σ H1 D I1 q1
 |false=>exact hb pins s1 σ H1 D I1 q1
def Yt:TS:=λ_ _ _=>False
def G_:PS X st Yt:=λ_ _ _ _ _ _ h=>h.elim
end
abbrev TG:=V->St->Hp->(St->Hp->Prop)->Prop
abbrev Hf:=List V->St->Hp->(St->Hp->Prop)->Prop
def PG(X:Cx)(target:Expr)(t:TG):Prop:=
 ∀(pins:List (Addr×Obj)) (s:Shared) (σ:St) (H:Hp) (v:V) (u:Value) (Q:St->Hp->Prop),Inv X pins σ H s->RelV v u->t v σ H Q->
  wpAny (model X.prog X.w) X.A (assign target X.env u) (λ_ s'=>∃σ' H',Inv X pins σ' H' s'/\Q σ' H') X.xe s
def zB(X:Cx)(ts:List Expr)(t:Hf):Prop:=
 ∀(pins:List (Addr×Obj)) (s:Shared) (σ:St) (H:Hp) (vs:List V) (us:List Value) (Q:St->Hp->Prop),Inv X pins σ H s->Vals vs us->t vs σ H Q->
  wpAny (model X.prog X.w) X.A (assignInOrder ((assignEach ts X.env).map (·.2)) us) (λ_ s'=>∃σ' H',Inv X pins σ' H' s'/\Q σ' H') X.xe s
abbrev Yu:=V->V->V->Hp->(Hp->Prop)->Prop
def Zcr(X:Cx)(t:Yu):Prop:=
 ∀(pins:List (Addr×Obj)) (s:Shared) (σ:St) (H:Hp) (o i v:V) (ov iv u:Value) (Q:Hp->Prop),Inv X pins σ H s->RelV o ov->RelV i iv->RelV v u->t o i v H Q->
  wpAny (model X.prog X.w) X.A (setItem ov iv u) (λ_ s'=>∃H',Inv X pins σ H' s'/\Q H') X.xe s
abbrev TIp:=V->V->Hp->VK->Prop
def PIp(X:Cx)(op:Operator)(t:TIp):Prop:=
 ∀(pins:List (Addr×Obj)) (s:Shared) (σ:St) (H:Hp) (x y:V) (v u:Value) (Q:VK),Inv X pins σ H s->RelV x v->RelV y u->t x y H Q->
  wpAny (model X.prog X.w) X.A (inplaceOp op v u) (EP X pins σ Q) X.xe s
section
variable{X:Cx}{pos:Pos}
def QD(i:Nat):TG:=λv σ H Q=>Q (σ.set i (some v)) H
def Ny{i:Nat}{x:Str}(hN:X.N.Nodup)(hi:X.N[i]?=some x)(hx:Loc X.env.scope x)(hf:X.fn x=true\/X.env.scope.names.lookup x=some .local:=by first|exact .inl rfl|exact .inr rfl|assumption):PG X (.Name x pos) (QD i):=by
 intro pins s σ H v u Q I r h
 exact wpAny_assign_Name (oX I hN hi hx r (λs' I'=>⟨_,H,I',h⟩) hf)
def ZeX:Hf:=λvs σ H Q=>vs=[]/\Q σ H
def Zcs(t:TG)(u:Hf):Hf:=λvs σ H Q=>∃v r,vs=v::r/\t v σ H λσ' H'=>u r σ' H' Q
def Nz:zB X [] ZeX:=by
 intro pins s σ H vs us Q I r h
 obtain⟨e,h⟩:=h
 subst e
 cases r
 exact assignInOrder_nil ⟨σ,H,I,h⟩
def Hg{e:Expr}{es:List Expr}{t:TG}{u:Hf}(h1:PG X e t)(h2:zB X es u)
 (hs:(assignEach (e::es) X.env).map (·.2)=assign e X.env::(assignEach es X.env).map (·.2):=by rfl):zB X (e::es) (Zcs t u):=by
 intro pins s σ H vs us Q I r h
 obtain⟨v,vr,e1,h⟩:=h
 subst e1
 cases r with
 |cons r rr=>
  rw[hs]
  refine assignInOrder_cons (ŕ (h1 pins s σ H _ _ _ I r h) λ_ s1 ⟨σ1,H1,I1,q1⟩=>?_)
  exact h2 pins s1 σ1 H1 _ _ Q I1 rr q1
def ZeY(K:PySem.W.Frag)(n:Nat)(t:Hf):TG:=λv σ H Q=>∃a xs,v=.ref a/\bO K H a xs/\xs.length=n/\t xs σ H Q
def Hh{es:List Expr}{k:Nat}{t:Hf}{n:Nat}(hc:X.calm=true)(h:zB X es t)
 (hn:(assignEach es X.env).length=n:=by rfl)(hst:(assignEach es X.env).findIdx? (·.1)=none:=by rfl):PG X (.Tuple es k pos) (ZeY X.K n t):=by
 intro pins s σ H v u Q I r hw
 obtain⟨a,xs,e1,hq,hl,hw⟩:=hw
 subst e1
 cases r
 obtain⟨its,rv,ht,hz⟩:=I.tuple hq
 refine assign_Tuple_tuple (I.ok.hd hc) ht (by simp[hn,<-hl,rv.length]) hst λh' hx=>?_
 have I1:Inv X pins σ H {s with heap:=h'}:=I.kept (t':=s.toks) λb o e=>hx b o (Nat.ne_of_lt (Heap.lt_size e)) e
 exact h pins _ σ H xs _ Q I1 (by simpa using rv) hw
def ZeZ(to ti:TE)(t:Yu):TG:=λv σ H Q=>to σ H λo H1=>ti σ H1 λi H2=>t o i v H2 λH3=>Q σ H3
def Yw{o i:Expr}{to ti:TE}{t:Yu}(ho:PE X o to)(hi:PE X i ti)(hs:Zcr X t)
 (ha:∀v,assign (.Subscript o i pos) X.env v=(do
   let ov <-holding [v] (eval o X.env)
   let iv <-holding [v,ov] (eval i X.env)
   standAt pos
   holding [v,ov,iv] (setItem ov iv v)
   release [v,ov,iv] []):=by intro _;rfl):PG X (.Subscript o i pos) (ZeZ to ti t):=by
 intro pins s σ H v u Q I r h
 rw[ha]
 refine wpAny_bind (wpAny_holding (ŕ (ho pins s σ H _ I h) λov s1 ⟨x,H1,I1,r1,q1⟩=>?_))
 refine wpAny_bind (wpAny_holding (ŕ (hi pins s1 σ H1 _ I1 q1) λiv s2 ⟨y,H2,I2,r2,q2⟩=>?_))
 refine wpAny_bind (wpAny_standAt (wpAny_bind (wpAny_holding (ŕ (hs pins s2 σ H2 x y v ov iv u _ I2 r1 r2 r q2) λ_ s3 ⟨H3,I3,q3⟩=>?_))))
 exact wpAny_release ⟨σ,H3,I3,q3⟩
def Zct(te:TE)(g:TG):TS:=λD σ H=>te σ H λx H1=>g x σ H1 D.nx
def Hi{tg e:Expr}{te:TE}{g:TG}(he:PE X e te)(hg:PG X tg g)(hs:swapsWithSole [tg] e pos.line X.env=pure false:=by rfl)(hw:swappedStores [tg] e X.env=pure none:=by rfl)
 (h1:(assignEach [tg] X.env).map (·.2)=[assign tg X.env]:=by rfl):PS X (.Assign [tg] e pos) (Zct te g):=by
 intro pins s σ H D I h
 refine wpAny_Assign_stores (ŕ (he pins s σ H _ I h) λv s1 ⟨x,H1,I1,r1,q1⟩=>?_) hs hw
 rw[h1]
 exact ŕ (hg pins s1 σ H1 x v _ I1 r1 q1) λ_ s2 q=>q
def Yx{i:Nat}{x:Str}{e:Expr}{te:TE}{pos':Pos}(hN:X.N.Nodup)(hi:X.N[i]?=some x)(hx:Loc X.env.scope x)(he:PE X e te)(hs:swapsWith e (some (.Name x pos')) pos.line X.env=pure false:=by rfl)(hf:X.fn x=true\/X.env.scope.names.lookup x=some .local:=by first|exact .inl rfl|exact .inr rfl|assumption) :
 PS X (.Assign [.Name x pos'] e pos) (Zct te (QD i)):=by
 intro pins s σ H D I h
 refine wpAny_Assign_Name (ŕ (he pins s σ H _ I h) λv s1 ⟨y,H1,I1,r1,q1⟩=>?_) hs
 exact oX I1 hN hi hx r1 (λs2 I2=>⟨_,H1,I2,q1⟩) hf
def Ze0(i:Nat)(te:TE)(ti:TIp):TS:=λD σ H=>∃x,σ[i]?=some (some x)/\te σ H λy H1=>ti x y H1 λz H2=>D.nx (σ.set i (some z)) H2
def Yy{i:Nat}{x:Str}{e:Expr}{te:TE}{op:Operator}{ti:TIp}{pos':Pos}(hN:X.N.Nodup)(hi:X.N[i]?=some x)(hx:Loc X.env.scope x)(he:PE X e te)(ho:PIp X op ti)(hf:X.fn x=true\/X.env.scope.names.lookup x=some .local:=by first|exact .inl rfl|exact .inr rfl|assumption) :
 PS X (.AugAssign (.Name x pos') op e pos) (Ze0 i te ti):=by
 intro pins s σ H D I h
 obtain⟨v,e1,h⟩:=h
 obtain⟨m,hn,hl⟩:=I.loc
 have vis:zH X.env.scope x:=by rcases hx with k|k;exact .inl k;exact .inr (.inl k)
 obtain⟨u,r,l⟩:=hl i x v hi e1 vis
 refine wpAny_AugAssign_Name ?_
 have go:wpAny (model X.prog X.w) X.A (eval e X.env) (λw s₂=>wpAny (model X.prog X.w) X.A (inplaceOp op u w) (λr s₃=>wpAny (model X.prog X.w) X.A (storeName X.env x r) (λ_=>SP X pins D .next) X.xe s₃) X.xe s₂) X.xe s:=by
  refine ŕ (he pins s σ H _ I h) λw s1 ⟨y,H1,I1,r1,q1⟩=>?_
  refine ŕ (ho pins s1 σ H1 v y u w _ I1 r r1 q1) λz s2 ⟨zv,H2,I2,r2,q2⟩=>?_
  exact oX I2 hN hi hx r2 (λs3 I3=>⟨_,H2,I3,q2⟩) hf
 rcases l with⟨hk,hm⟩|⟨hk,c,hc,hcell⟩
 ·exact wpAny_loadName_local I.ok.kind hk hn hm go
 ·rcases hk with hk|hk
  ·exact wpAny_loadName_cell I.ok.kind hk hc hcell go
  ·rcases hx with k|k
   ·have:X.env.scope.names.lookup x=some .free:=hk
    rw[k] at this;cases this
   ·have:X.env.scope.names.lookup x=some .free:=hk
    rw[k] at this;cases this
def ipI(f:Int->Int->Int):TIp:=λx y H Q=>∃i j,x=.int i/\y=.int j/\Q (.int (f i j)) H
end
section
variable{X:Cx}{pos:Pos}
def Yz(c:TT)(tb:TS):TS:=λD σ H=>∃W:Nat->St->Hp->Prop,(∃m,W m σ H)/\∀m σ H,W m σ H->
 c σ H λb H1=>if b=true then ∃N:St->Hp->Prop,(∀σ' H',N σ' H'->∃m',m'<m/\W m' σ' H')/\tb {D with nx:=N,ct:=N,bk:=D.nx} σ H1 else D.nx σ H1
def Hj{c:Expr}{body:List Stmt}{tc:TT}{tb:TS}(hp:PassesOwn (model X.prog X.w) X.A X.env X.xe)(hc:PT X c tc)(hb:iD X body tb):PS X (.While c body [] pos) (Yz tc tb):=by
 intro pins s σ H D I h
 obtain⟨W,⟨m0,w0⟩,turn⟩:=h
 refine wpAny_While (codeAny_whileLoop (λn s'=>∃σ' H',Inv X pins σ' H' s'/\W n σ' H') ?_ m0 ⟨σ,H,I,w0⟩)
 rintro n s1 ⟨σ1,H1,I1,w1⟩
 refine wpAny_passesOwn hp (ŕ (hc pins s1 σ1 H1 _ I1 (turn n σ1 H1 w1)) λb s2 ⟨H2,I2,q2⟩=>?_)
 cases b with
 |true=>
  obtain⟨N,hN,q2⟩:=q2
  rw[if_pos rfl]
  refine wpAny_passesOwn hp (ŕ (hb pins s2 σ1 H2 _ I2 q2) λf s3 q3=>?_)
  cases f with
  |next=>
   obtain⟨σ3,H3,I3,n3⟩:=q3
   obtain⟨m',hm,w3⟩:=hN σ3 H3 n3
   exact⟨m',hm,σ3,H3,I3,w3⟩
  |cont=>
   obtain⟨σ3,H3,I3,n3⟩:=q3
   obtain⟨m',hm,w3⟩:=hN σ3 H3 n3
   exact⟨m',hm,σ3,H3,I3,w3⟩
  |brk=>exact q3
  |ret v=>exact q3
 |false=>
  rw[if_neg Bool.false_ne_true]
  exact wpAny_execs_nil ⟨σ1,H2,I2,q2⟩
end
structure It where
 go:Nat->Hp->Prop
 yld:Nat->Hp->V->Hp->Prop
 stop:Nat->Hp->Prop
def bx(X:Cx)(pins:List (Addr×Obj))(H:Hp)(b:Addr):Prop:=
 H b=none/\b≠X.env.locals/\b∉X.fs/\(b∈X.ex\/X.s₀.heap.objs.size<=b)/\(∀x c,X.env.cells.lookup x=some c->c≠b)/\∀p∈X.pn++pins,p.1≠b
def Inv.rN{X:Cx}{pins:List (Addr×Obj)}{σ:St}{H H':Hp}{s:Shared}{b:Addr}(I:Inv X pins σ H s)(hb:s.heap.objs.size<=b)(hn:H' b=none):bx X pins H' b:=by
 refine⟨hn,Nat.ne_of_gt (Nat.lt_of_lt_of_le I.lt hb),I.ZeP hb,.inr (Nat.le_trans I.sz hb),λx c e z=>?_,λp hp z=>?_⟩
 ·obtain⟨v,q⟩:=I.cell x c e
  exact absurd (Nat.lt_of_lt_of_le q.lt (by rw[z];exact hb)) (Nat.lt_irrefl _)
 ·exact absurd (Nat.lt_of_lt_of_le (Heap.lt_size (I.pin p hp).1) (by rw[z];exact hb)) (Nat.lt_irrefl _)
structure Turn(P:Program)(w:World)(K:PySem.W.Frag)(tg:Expr)(J:It)(fp:List Addr)(it:Addr)(tn:Nat->Heap->Prop):Prop where
 mem:it∈fp
 obj:∀i h,tn i h->∀b∈fp,∃o,h.get? b=some o/\∀v,o.data≠ .cell v
 keep:∀i h h',tn i h->(∀b∈fp,∀o,h.get? b=some o->h'.get? b=some o)->tn i h'
 item:∀(X:Cx),X.prog=P->X.w=w->X.K=K->X.calm=true->∀(i:Nat) (pins:List (Addr×Obj)) (s:Shared) (σ:St) (H:Hp) (E:Value->Shared->Prop),Inv X pins σ H s->(∀b∈fp,bx X pins H b)->tn i s.heap->J.go i H->
  wpAny (model P w) X.A (pyNext (.ref it)) (λr s1=>∃u,r=some u/\
   wpAny (model P w) X.A (letOwnedTupleGo tg (.ref it) u) (λ_ s2=>∃x H',Inv X pins σ H' s2/\RelV x u/\J.yld i H x H'/\tn (i+1) s2.heap/\∀b∈fp,H' b=none) E s1) E s
 done:∀(X:Cx),X.prog=P->X.w=w->X.K=K->X.calm=true->∀(i:Nat) (pins:List (Addr×Obj)) (s:Shared) (σ:St) (H:Hp) (E:Value->Shared->Prop),Inv X pins σ H s->(∀b∈fp,bx X pins H b)->tn i s.heap->J.stop i H->
  wpAny (model P w) X.A (pyNext (.ref it)) (λr s1=>r=none/\Inv X pins σ H s1) E s
 self:∀(A:Around) (i:Nat) (s:Shared) (Q:Value->Shared->Prop) (E:Value->Shared->Prop),tn i s.heap->Q (.ref it) s->wpAny (model P w) A (pyIter (.ref it)) Q E s
abbrev TI:=St->Hp->(It->Hp->Prop)->Prop
def PIE(X:Cx)(pins:List (Addr×Obj))(σ:St)(tg:Expr)(R:It->Hp->Prop)(itv:Value)(s2:Shared):Prop:=
 ∃(it:Addr) (fp:List Addr) (tn:Nat->Heap->Prop) (J:It) (H':Hp),itv=.ref it/\Inv X pins σ H' s2/\Turn X.prog X.w X.K tg J fp it tn/\tn 0 s2.heap/\(∀b∈fp,bx X pins H' b)/\R J H'
def PI(X:Cx)(tg iter:Expr)(wi:TI):Prop:=
 ∀(pins:List (Addr×Obj)) (s:Shared) (σ:St) (H:Hp) (R:It->Hp->Prop),Inv X pins σ H s->wi σ H R->
  wpAny (model X.prog X.w) X.A (eval iter X.env) (λv s1=>wpAny (model X.prog X.w) X.A (pyIter v) (PIE X pins σ tg R) X.xe s1) X.xe s
def CK{M:Model}{A:Around}{E:Value->Shared->Prop}{s:Shared}{tg:Expr}{it:Addr}{u:Value}{o:Obj}{n:String}{vs:Array Value}{Q:Unit->Shared->Prop}(ho:s.heap.get? it=some o)(hc:o.cls=.type n)(hd:o.data=.fields vs)
 (hn:["enumerate","zip","dict_itemiterator","dict_reverseitemiterator","odict_iterator","itertools.zip_longest","itertools.pairwise"].contains n=false)(hQ:Q () s):wpAny M A (letOwnedTupleGo tg (.ref it) u) Q E s:=by
 unfold letOwnedTupleGo
 cases tg<;>first
  |exact wpAny_pure hQ
  |(cases u<;>first
     |exact wpAny_pure hQ
     |(refine wpAny_bind (wpAny_load ho ?_)
       rw[hc,hd]
       show wpAny M A (if(["enumerate","zip","dict_itemiterator","dict_reverseitemiterator","odict_iterator","itertools.zip_longest","itertools.pairwise"].contains n && vs[0]?== some (rawInt _))=true then _ else _) Q E s
       rw[if_neg (by intro h;rw[hn,Bool.false_and] at h;cases h)]
       exact wpAny_pure hQ))
def YB(K:PySem.W.Frag)(a:Addr):It:=
 ⟨λi H=>∃xs x,ū K H a xs/\xs[i]?=some x,λi H x H'=>H'=H/\∀xs,ū K H a xs->xs[i]?=some x,λi H=>∃xs,ū K H a xs/\xs.length<=i⟩
def Itt(K:PySem.W.Frag)(a:Addr):It:=
 ⟨λi H=>∃xs x,bO K H a xs/\xs[i]?=some x,λi H x H'=>H'=H/\∀xs,bO K H a xs->xs[i]?=some x,λi H=>∃xs,bO K H a xs/\xs.length<=i⟩
def Itr(lo:Int)(n:Nat):It:=⟨λi _=>i<n,λi H x H'=>H'=H/\x=.int (lo+i),λi _=>n<=i⟩
def Fp{P:Program}{w:World}{K:PySem.W.Frag}{tg:Expr}(a it:Addr):Turn P w K tg (YB K a) [it] it (λi h=>h.IsListIter it a i) where
 mem:=by simp
 obj:=λi h st b hb=>by
  have e:b=it:=by simpa using hb
  subst e
  obtain⟨o,e,c,d⟩:=st
  exact⟨o,e,λv z=>by rw[d] at z;cases z⟩
 keep:=λi h h' st k=>st.at λo e=>k it (by simp) o e
 item:=by
  intro X hP hw hK hc i pins s σ H E I hf st hg
  subst hP hw hK
  obtain⟨xs,x,hq,hx⟩:=hg
  obtain⟨its,rv,p,hz⟩:=I.list hq
  obtain⟨u,hu,ru⟩:=rv.get hx
  obtain⟨f0,f1,f2,f3,f4,f5⟩:=hf it (by simp)
  refine wpAny_pyNext_list_item st p.isList (x:=u) (by simpa using hu) λh' st' sb=>?_
  have I1:Inv X pins σ H {s with heap:=h'}:=I.turned (t':=s.toks) (λb o hb e=>(sb.2 b hb).trans e) f0 f1 f3 f4 f5
  obtain⟨o,e,c,d⟩:=id st'
  exact⟨u,rfl,CK (s:={s with heap:=h'}) e c d (by decide) ⟨x,H,I1,ru,⟨rfl,λys hy=>by rw[I.oY hy hq];exact hx⟩,st',λb hb=>(hf b hb).1⟩⟩
 done:=by
  intro X hP hw hK hc i pins s σ H E I hf st hg
  subst hP hw hK
  obtain⟨xs,hq,hx⟩:=hg
  obtain⟨its,rv,p,hz⟩:=I.list hq
  obtain⟨f0,f1,f2,f3,f4,f5⟩:=hf it (by simp)
  have hl:=rv.length
  exact wpAny_pyNext_list_end (I.ok.hd hc) st p.isList (by simp;omega) λh' eb=>⟨rfl,I.turned (t':=s.toks) (λb o hb e=>eb b o hb e) f0 f1 f3 f4 f5⟩
 self:=λ_ _ _ _ _ st h=>wpAny_pyIter_listiter st h
def zK{P:Program}{w:World}{K:PySem.W.Frag}{tg:Expr}(a it:Addr):Turn P w K tg (Itt K a) [it] it (λi h=>h.IsTupleIter it a i) where
 mem:=by simp
 obj:=λi h st b hb=>by
  have e:b=it:=by simpa using hb
  subst e
  obtain⟨o,e,c,d⟩:=st
  exact⟨o,e,λv z=>by rw[d] at z;cases z⟩
 keep:=λi h h' st k=>st.at λo e=>k it (by simp) o e
 item:=by
  intro X hP hw hK hc i pins s σ H E I hf st hg
  subst hP hw hK
  obtain⟨xs,x,hq,hx⟩:=hg
  obtain⟨its,rv,p,hz⟩:=I.tuple hq
  obtain⟨u,hu,ru⟩:=rv.get hx
  obtain⟨f0,f1,f2,f3,f4,f5⟩:=hf it (by simp)
  refine wpAny_pyNext_tuple_item st (show s.heap.IsTuple a its.toArray from p) (x:=u) (by simpa using hu) λh' st' sb=>?_
  have I1:Inv X pins σ H {s with heap:=h'}:=I.turned (t':=s.toks) (λb o hb e=>(sb.2 b hb).trans e) f0 f1 f3 f4 f5
  obtain⟨o,e,c,d⟩:=id st'
  exact⟨u,rfl,CK (s:={s with heap:=h'}) e c d (by decide) ⟨x,H,I1,ru,⟨rfl,λys hy=>by rw[I.sV hy hq];exact hx⟩,st',λb hb=>(hf b hb).1⟩⟩
 done:=by
  intro X hP hw hK hc i pins s σ H E I hf st hg
  subst hP hw hK
  obtain⟨xs,hq,hx⟩:=hg
  obtain⟨its,rv,p,hz⟩:=I.tuple hq
  obtain⟨f0,f1,f2,f3,f4,f5⟩:=hf it (by simp)
  have hl:=rv.length
  exact wpAny_pyNext_tuple_end (I.ok.hd hc) st (show s.heap.IsTuple a its.toArray from p) (by simp;omega) λh' eb=>⟨rfl,I.turned (t':=s.toks) (λb o hb e=>eb b o hb e) f0 f1 f3 f4 f5⟩
 self:=λ_ _ _ _ _ st h=>wpAny_pyIter_tupleiter st h
def zL{P:Program}{w:World}{K:PySem.W.Frag}{tg:Expr}(it:Addr)(lo:Int)(n:Nat):Turn P w K tg (Itr lo n) [it] it (λi h=>IsRangeIter h it (lo+(i:Nat)*1) ((n:Int)-(i:Nat)) 1) where
 mem:=by simp
 obj:=λi h st b hb=>by
  have e:b=it:=by simpa using hb
  subst e
  exact⟨_,st,λv z=>by
   have z':Data.fields _=Data.cell v:=z
   cases z'⟩
 keep:=λi h h' st k=>k it (by simp) _ st
 item:=by
  intro X hP hw hK hc i pins s σ H E I hf st hg
  subst hP hw hK
  obtain⟨f0,f1,f2,f3,f4,f5⟩:=hf it (by simp)
  have W:=Walks.range (prog:=X.prog) (w:=X.w) (I.ok.hd hc) it lo 1 n
  refine W.item i s _ _ hg st λv h' tk hv st' kk=>?_
  obtain⟨t,rfl⟩:=hv
  have I1:Inv X pins σ H {s with heap:=h',toks:=tk}:=I.turned (λb o hb e=>kk b o (by simpa using hb) e) f0 f1 f3 f4 f5
  refine⟨_,rfl,CK (s:={s with heap:=h',toks:=tk}) (n:= "range_iterator") st' rfl rfl (by decide) ⟨.int (lo+i),H,I1,⟨t,?_⟩,⟨rfl,rfl⟩,st',λb hb=>(hf b hb).1⟩⟩
  rw[Int.mul_one]
 done:=by
  intro X hP hw hK hc i pins s σ H E I hf st hg
  subst hP hw hK
  obtain⟨f0,f1,f2,f3,f4,f5⟩:=hf it (by simp)
  exact wpAny_pyNext_range_end (I.ok.hd hc) st (by have:n<=i:=hg;omega) λh' eb=>⟨rfl,I.turned (t':=s.toks) (λb o hb e=>eb b o hb e) f0 f1 f3 f4 f5⟩
 self:=λ_ _ _ _ _ st h=>wpAny_pyIter_rangeiter st h
end L2
namespace L2
open PySem PySem.Spec PyProof.Rows
section
variable{X:Cx}{tg:Expr}
def wW{pins:List (Addr×Obj)}{σ:St}{H:Hp}{s:Shared}{R:It->Hp->Prop}{E:Value->Shared->Prop}{lo hi:Int}{t u v:Tok}{tk:Nat}(I:Inv X pins σ H s)(h1: -(2 ^ 62)<=lo)(h2:lo<2 ^ 62)(h3: -(2 ^ 62)<=hi)(h4:hi<2 ^ 62)
 (q:R (Itr lo (hi-lo).toNat) H):wpAny (model X.prog X.w) X.A (pyIter (.ref s.heap.objs.size)) (PIE X pins σ tg R) E {s with heap:=s.heap.push {cls:=.type "range",data:=.fields #[.int lo t,.int hi u,.int 1 v]},toks:=tk}:=by
 refine wpAny_pyIter_range (IsRange.new ..) (small_one h1 h2 h3 h4) ?_
 have I1:Inv X pins σ H {s with heap:=s.heap.push {cls:=.type "range",data:=.fields #[.int lo t,.int hi u,.int 1 v]},toks:=tk}:=I.kept λb o e=>Heap.get?_push_of_some _ e
 refine⟨(s.heap.push {cls:=.type "range",data:=.fields #[.int lo t,.int hi u,.int 1 v]}).objs.size,[(s.heap.push {cls:=.type "range",data:=.fields #[.int lo t,.int hi u,.int 1 v]}).objs.size],_,_,H,rfl,
  I1.kept (t':=tk) λb o e=>Heap.get?_push_of_some _ e,zL _ lo (hi-lo).toNat,?_,λb hb=>?_,q⟩
 ·have e1:lo+((0:Nat):Int)*1=lo:=by simp
  have e2:(((hi-lo).toNat:Nat):Int)-((0:Nat):Int)=Builtin.Range.rangeSize lo hi 1:=by rw[rangeSize_one];split<;>omega
  show IsRangeIter _ _ (lo+((0:Nat):Int)*1) ((((hi-lo).toNat:Nat):Int)-((0:Nat):Int)) 1
  rw[e1,e2]
  exact Heap.get?_push_size _ rfl
 ·have e:b=(s.heap.push {cls:=.type "range",data:=.fields #[.int lo t,.int hi u,.int 1 v]}).objs.size:=by simpa using hb
  subst e
  exact I1.rN (Nat.le_refl _) (I1.hok.fresh (Nat.le_refl _))
def Zcu(ta:TA):TI:=λσ H R=>ta σ H λvs H1=>∃j:Int,vs=[.int j]/\ -(2 ^ 62)<=j/\j<2 ^ 62/\R (Itr 0 j.toNat) H1
def Zcv(ta:TA):TI:=λσ H R=>ta σ H λvs H1=>∃i j:Int,vs=[.int i,.int j]/\(-(2 ^ 62)<=i/\i<2 ^ 62/\ -(2 ^ 62)<=j/\j<2 ^ 62)/\R (Itr i (j-i).toNat) H1
def Fq{a:Expr}{ta:TA}{p pos:Pos}(hg:Gl X "range")(hm:X.mg "range" =none)(ha:PA X [a] ta)(hs:starEach [a] X.env=[(false,eval a X.env)]:=by rfl):PI X tg (.Call (.Name "range" p) [a] [] pos) (Zcu ta):=by
 intro pins s σ H R I h
 refine Call_ (gb I hg hm boot_range (PyProof.Rows.callWith_type1 (ŕ (ha pos pins s σ H _ I h) λus s1 ⟨vs,H1,I1,r1,q1⟩=>?_) hs rfl))
 obtain⟨j,e,q1,q2,q⟩:=q1
 subst e
 cases r1 with
 |cons r rr=>
  cases rr
  obtain⟨t,rfl⟩:=r
  exact call_range_1 (wW I1 (by omega) (by omega) q1 q2 (by simpa using q))
def Ft{a b:Expr}{ta:TA}{p pos:Pos}(hg:Gl X "range")(hm:X.mg "range" =none)(ha:PA X [a,b] ta)(hs:starEach [a,b] X.env=[(false,eval a X.env),(false,eval b X.env)]:=by rfl)(hs2:starEach [b] X.env=[(false,eval b X.env)]:=by rfl) :
 PI X tg (.Call (.Name "range" p) [a,b] [] pos) (Zcv ta):=by
 intro pins s σ H R I h
 refine Call_ (gb I hg hm boot_range (PyProof.Rows.callWith_type1 (ŕ (ha pos pins s σ H _ I h) λus s1 ⟨vs,H1,I1,r1,q1⟩=>?_) (by rw[hs,hs2]) (by rw[hs2];rfl)))
 obtain⟨i,j,e,⟨q1,q2,q3,q4⟩,q⟩:=q1
 subst e
 cases r1 with
 |cons r rr=>
  cases rr with
  |cons r' rr=>
   cases rr
   obtain⟨t,rfl⟩:=r
   obtain⟨t',rfl⟩:=r'
   exact call_range_2 (wW I1 q1 q2 q3 q4 q)
def Ze1(wi:TI)(g:TG)(tb:TS):TS:=λD σ H=>wi σ H λJ H1=>∃W:Nat->Nat->St->Hp->Prop,(∃m,W 0 m σ H1)/\∀i m σ H,W i m σ H->
 (J.stop i H/\D.nx σ H)\/(J.go i H/\∃N:St->Hp->Prop,(∀σ' H',N σ' H'->∃m',m'<m/\W (i+1) m' σ' H')/\∀x H',J.yld i H x H'->g x σ H' λσ2 H2=>tb {D with nx:=N,ct:=N,bk:=D.nx} σ2 H2)
def kZ(fp:List Addr)(h:Heap):List (Addr×Obj):=fp.filterMap λb=>(h.get? b).map λo=>(b,o)
def Ů{fp:List Addr}{h:Heap}{b:Addr}{o:Obj}(hb:b∈fp)(e:h.get? b=some o):(b,o)∈kZ fp h:=List.mem_filterMap.mpr ⟨b,hb,by rw[e];rfl⟩
def Fv{fp:List Addr}{h:Heap}{p:Addr×Obj}(hp:p∈kZ fp h):p.1∈fp/\h.get? p.1=some p.2:=by
 obtain⟨b,hb,e⟩:=List.mem_filterMap.mp hp
 cases q:h.get? b with
 |none=>rw[q] at e;cases e
 |some o=>
  rw[q] at e
  have e':(b,o)=p:=Option.some.inj e
  subst e'
  exact⟨hb,q⟩
def Inv.pinned{pins:List (Addr×Obj)}{σ:St}{H:Hp}{s:Shared}{fp:List Addr}(I:Inv X pins σ H s)(hf:∀b∈fp,bx X pins H b)(ho:∀b∈fp,∃o,s.heap.get? b=some o/\∀v,o.data≠ .cell v):Inv X (pins++kZ fp s.heap) σ H s:=
 I.CJ fun p hp=>(List.mem_append.mp hp).elim (fun z=>I.pin p (List.mem_append_right _ z)) fun z=>by
   obtain⟨hb,e⟩:=Fv z
   obtain⟨f0,f1,f2,_⟩:=hf p.1 hb
   obtain⟨o,e',d⟩:=ho p.1 hb
   rw[e] at e';cases e'
   exact⟨e,f0,f1,f2,d⟩
def Inv.dg{pins pl:List (Addr×Obj)}{σ:St}{H:Hp}{s:Shared}(I:Inv X (pins++pl) σ H s):Inv X pins σ H s:=I.CJ λp hp=>I.pin p (List.mem_append_right _ (List.mem_append_left _ hp))
def YC{iter:Expr}{body:List Stmt}{wi:TI}{g:TG}{tb:TS}{pos:Pos}(hp:PassesOwn (model X.prog X.w) X.A X.env X.xe)(hc:X.calm=true)(hi:PI X tg iter wi)(hg:PG X tg g)(hb:iD X body tb)
 (hs:∀x,foldedSetIterable iter X.env x=pure x:=by intro _;rfl):PS X (.For tg iter body [] pos) (Ze1 wi g tb):=by
 intro pins s σ H D I h
 refine wpAny_For (ŕ (hi pins s σ H _ I h) λv s1 h1=>ŕ h1 λitv s2 h2=>?_) hs
 obtain⟨it,fp,tn,J,H2,e,I2,T,st2,f2,W,⟨m0,w0⟩,turn⟩:=h2
 subst e
 -- what stays true of the iterator's objects through the loop
 have stat:∀{H':Hp},(∀b∈fp,H' b=none)->∀b∈fp,bx X pins H' b:=λhn b hb=>⟨hn b hb,(f2 b hb).2⟩
 refine codeAny_forLoop_any (λn s'=>∃i σ' H',Inv X pins σ' H' s'/\tn i s'.heap/\(∀b∈fp,H' b=none)/\W i n σ' H') ?_ m0 ⟨0,σ,H2,I2,st2,λb hb=>(f2 b hb).1,w0⟩
 rintro n s3 ⟨i,σ3,H3,I3,st3,fr3,w3⟩
 rcases turn i n σ3 H3 w3 with⟨stop,qn⟩|⟨go,N,hN,step⟩
 ·refine wpAny_passesOwn hp (ŕ (T.done X rfl rfl rfl hc i pins s3 σ3 H3 X.xe I3 (stat fr3) st3 stop) λr s4 ⟨hr,I4⟩=>?_)
  subst hr
  exact wpAny_execs_nil ⟨σ3,H3,I4,qn⟩
 ·refine wpAny_passesOwn hp (ŕ (T.item X rfl rfl rfl hc i pins s3 σ3 H3 X.xe I3 (stat fr3) st3 go) λr s4 ⟨u,hr,h4⟩=>?_)
  subst hr
  refine wpAny_passesOwn hp (ŕ h4 λ_ s5 ⟨x,H5,I5,r5,y5,NK,YD⟩=>?_)
  have I5':=I5.pinned (stat YD) (T.obj _ _ NK)
  refine wpAny_passesOwn hp (ŕ (hg _ s5 σ3 H5 x u _ I5' r5 (step x H5 y5)) λ_ s6 ⟨σ6,H6,I6,q6⟩=>?_)
  refine wpAny_passesOwn hp (ŕ (hb _ s6 σ6 H6 _ I6 q6) λf s7 q7=>?_)
  have again:∀{σ7:St} {H7:Hp},Inv X (pins++kZ fp s5.heap) σ7 H7 s7->N σ7 H7->∃m,m<n/\∃i σ' H',Inv X pins σ' H' s7/\tn i s7.heap/\(∀b∈fp,H' b=none)/\W i m σ' H':=fun{σ7 H7} I7 n7=>by
   obtain⟨m',hm,w7⟩:=hN σ7 H7 n7
   refine⟨m',hm,i+1,σ7,H7,I7.dg,T.keep _ _ _ NK λb hb o e=>(I7.pin (b,o) (List.mem_append_right _ (List.mem_append_right _ (Ů hb e)))).1,λb hb=>?_,w7⟩
   obtain⟨o,e,d⟩:=T.obj _ _ NK b hb
   exact(I7.pin (b,o) (List.mem_append_right _ (List.mem_append_right _ (Ů hb e)))).2.1
  cases f with
  |next=>obtain⟨σ7,H7,I7,n7⟩:=q7;exact again I7 n7
  |cont=>obtain⟨σ7,H7,I7,n7⟩:=q7;exact again I7 n7
  |brk=>obtain⟨σ7,H7,I7,q7⟩:=q7;exact⟨σ7,H7,I7.dg,q7⟩
  |ret v=>obtain⟨x7,σ7,H7,I7,r7,q7⟩:=q7;exact⟨x7,σ7,H7,I7.dg,r7,q7⟩
end
end L2
namespace L2
open PySem PySem.Spec PyProof.Rows
abbrev R2:=V->V->Hp->VK->Prop
def ŭ(X:Cx)(f:Value->Value->Sem Value)(r:R2):Prop:=
 ∀(pins:List (Addr×Obj)) (s:Shared) (σ:St) (H:Hp) (x y:V) (v u:Value) (Q:VK),Inv X pins σ H s->RelV x v->RelV y u->r x y H Q->
  wpAny (model X.prog X.w) X.A (f v u) (EP X pins σ Q) X.xe s
def NP(X:Cx)(f:Value->Sem Value)(r:V->Hp->VK->Prop):Prop:=
 ∀(pins:List (Addr×Obj)) (s:Shared) (σ:St) (H:Hp) (x:V) (v:Value) (Q:VK),Inv X pins σ H s->RelV x v->r x H Q->
  wpAny (model X.prog X.w) X.A (f v) (EP X pins σ Q) X.xe s
def ř(X:Cx)(f:Value)(r:List V->Hp->VK->Prop):Prop:=
 ∀(pins:List (Addr×Obj)) (s:Shared) (σ:St) (H:Hp) (xs:List V) (us:List Value) (Q:VK),Inv X pins σ H s->Vals xs us->r xs H Q->
  wpAny (model X.prog X.w) X.A (call f us) (EP X pins σ Q) X.xe s
def Ze2(X:Cx)(r:V->Hp->(Bool->Hp->Prop)->Prop):Prop:=
 ∀(pins:List (Addr×Obj)) (s:Shared) (σ:St) (H:Hp) (x:V) (v:Value) (Q:Bool->Hp->Prop),Inv X pins σ H s->RelV x v->r x H Q->
  wpAny (model X.prog X.w) X.A (truthy v) (TP X pins σ Q) X.xe s
def tOp(r:R2)(ta tb:TE):TE:=λσ H Q=>ta σ H λx H1=>tb σ H1 λy H2=>r x y H2 Q
def tUn(r:V->Hp->VK->Prop)(ta:TE):TE:=λσ H Q=>ta σ H λx H1=>r x H1 Q
def rI(C:Int->Int->Prop)(g:Int->Int->V):R2:=λx y H Q=>∃i j,x=.int i/\y=.int j/\C i j/\Q (g i j) H
def NQ(g:Int->Int->V):R2:=λx y H Q=>∃i j,x=.int i/\y=.int j/\Q (g i j) H
def rU(g:Int->V):V->Hp->VK->Prop:=λx H Q=>∃i,x=.int i/\Q (g i) H
section
variable{X:Cx}{a b c:Expr}{ta tb tc:TE}{pos:Pos}
def YF(ha:PE X a ta)(hb:PE X b tb){pins:List (Addr×Obj)}{s:Shared}{σ:St}{H:Hp}{R:V->V->Hp->Prop}(I:Inv X pins σ H s)
 (h:ta σ H λx H1=>tb σ H1 λy H2=>R x y H2){Q:Value->Shared->Prop}{f:Value->Value->Sem Value}
 (hf:∀v u s2 x y H2,Inv X pins σ H2 s2->RelV x v->RelV y u->R x y H2->wpAny (model X.prog X.w) X.A (f v u) Q X.xe s2) :
 wpAny (model X.prog X.w) X.A (eval a X.env) (λv s₁=>wpAny (model X.prog X.w) X.A (eval b X.env) (λu s₂=>wpAny (model X.prog X.w) X.A (f v u) Q X.xe s₂) X.xe s₁) X.xe s:=by
 refine ŕ (ha pins s σ H _ I h) λv s1 ⟨x,H1,I1,r1,q1⟩=>?_
 refine ŕ (hb pins s1 σ H1 _ I1 q1) λu s2 ⟨y,H2,I2,r2,q2⟩=>?_
 exact hf v u s2 x y H2 I2 r1 r2 q2
def QF{op:Operator}{r:R2}(ho:ŭ X (binaryOp op) r)(ha:PE X a ta)(hb:PE X b tb):PE X (.BinOp a op b pos) (tOp r ta tb):=by
 intro pins s σ H Q I h
 exact wpAny_BinOp (YF ha hb I h λv u s2 x y H2 I2 rx ry q=>ho pins s2 σ H2 x y v u Q I2 rx ry q)
def Zcw{op:UnaryOp}{r:V->Hp->VK->Prop}(ho:NP X (unaryOp op) r)(ha:PE X a ta):PE X (.UnaryOp op a pos) (tUn r ta):=by
 intro pins s σ H Q I h
 exact UnaryOp_ (ŕ (ha pins s σ H _ I h) λv s1 ⟨x,H1,I1,r1,q1⟩=>ho pins s1 σ H1 x v Q I1 r1 q1)
def CN{f:Value->Value->Sem Value}{C:Int->Int->Prop}{g:Int->Int->Int}
 (rule:∀(i j:Int) (t u:Tok) (s:Shared) (Q:Value->Shared->Prop) (E:Value->Shared->Prop),C i j->Q (.int (g i j) s.toks) {s with toks:=s.toks+1}->wpAny (model X.prog X.w) X.A (f (.int i t) (.int j u)) Q E s) :
 ŭ X f (rI C λi j=>.int (g i j)):=by
 intro pins s σ H x y v u Q I rx ry h
 obtain⟨i,j,rfl,rfl,hc,q⟩:=h
 obtain⟨t,rfl⟩:=rx
 obtain⟨t',rfl⟩:=ry
 exact rule i j t t' s _ _ hc ⟨.int (g i j),H,I.tok _,⟨_,rfl⟩,q⟩
def wX{f:Value->Value->Sem Value}{g:Int->Int->Int}
 (rule:∀(i j:Int) (t u:Tok) (s:Shared) (Q:Value->Shared->Prop) (E:Value->Shared->Prop),Q (.int (g i j) s.toks) {s with toks:=s.toks+1}->wpAny (model X.prog X.w) X.A (f (.int i t) (.int j u)) Q E s) :
 ŭ X f (NQ λi j=>.int (g i j)):=by
 intro pins s σ H x y v u Q I rx ry h
 obtain⟨i,j,rfl,rfl,q⟩:=h
 obtain⟨t,rfl⟩:=rx
 obtain⟨t',rfl⟩:=ry
 exact rule i j t t' s _ _ ⟨.int (g i j),H,I.tok _,⟨_,rfl⟩,q⟩
def YG{f:Value->Value->Sem Value}{g:Int->Int->Bool}
 (rule:∀(i j:Int) (t u:Tok) (s:Shared) (Q:Value->Shared->Prop) (E:Value->Shared->Prop),Q (.bool (g i j)) s->wpAny (model X.prog X.w) X.A (f (.int i t) (.int j u)) Q E s) :
 ŭ X f (NQ λi j=>.bl (g i j)):=by
 intro pins s σ H x y v u Q I rx ry h
 obtain⟨i,j,rfl,rfl,q⟩:=h
 obtain⟨t,rfl⟩:=rx
 obtain⟨t',rfl⟩:=ry
 exact rule i j t t' s _ _ ⟨.bl (g i j),H,I,rfl,q⟩
def Zcx(i j:Int):Prop:=0<j/\j<1073741824
def Fw(i j:Int):Prop:=0<=j/\j<=1000000/\i.natAbs<2 ^ 64
def YH(i j:Int):Prop:=(-(2 ^ 64)<i/\i<2 ^ 64)\/(-(2 ^ 64)<j/\j<2 ^ 64)
def YH.ok{i j:Int}(h:YH i j):IntMulOk i j:=by
 rcases h with⟨h1,h2⟩|⟨h1,h2⟩
 ·exact .of_left (intBits_le_64 h1 h2)
 ·exact .of_right (intBits_le_64 h1 h2)
def zM(k:Nat):(0:Int)<=2 ^ k:=by
 rw[two_pow_cast]
 exact Int.natCast_nonneg _
def YJ:ŭ X (binaryOp .Add) (NQ λi j=>.int (i+j)):=wX λ_ _ _ _ _ _ _ q=>add_int q
def YK:ŭ X (binaryOp .Sub) (NQ λi j=>.int (i-j)):=wX λ_ _ _ _ _ _ _ q=>sub_int q
def NT:ŭ X (binaryOp .Mod) (rI (λ_ j=>j≠0) λi j=>.int (i.fmod j)):=CN λ_ _ _ _ _ _ _ hc q=>mod_int' hc q
def YL:ŭ X (binaryOp .Pow) (rI Fw λi j=>.int (i ^ j.toNat)):=CN λ_ _ _ _ _ _ _ hc q=>pow_int_small hc.1 hc.2.1 hc.2.2 q
def YM:ŭ X (binaryOp .LShift) (rI Fw λi j=>.int (i*2 ^ j.toNat)):=CN λ_ _ _ _ _ _ _ hc q=>lshift_int_small hc.1 hc.2.1 hc.2.2 q
def YQ:ŭ X (binaryOp .RShift) (rI (λ_ j=>0<=j) λi j=>.int (i / 2 ^ j.toNat)):=CN λi j _ _ _ _ _ hc q=>
 rshift_int hc (by rw[Int.fdiv_eq_ediv_of_nonneg i (zM _)];exact q)
def YS:ŭ X (binaryOp .BitAnd) (NQ λi j=>.int (Builtin.bitAnd i j)):=wX λ_ _ _ _ _ _ _ q=>and_int q
def unI{f:Value->Sem Value}{g:Int->Int}
 (rule:∀(i:Int) (t:Tok) (s:Shared) (Q:Value->Shared->Prop) (E:Value->Shared->Prop),Q (.int (g i) s.toks) {s with toks:=s.toks+1}->wpAny (model X.prog X.w) X.A (f (.int i t)) Q E s) :
 NP X f (rU λi=>.int (g i)):=by
 intro pins s σ H x v Q I rx h
 obtain⟨i,rfl,q⟩:=h
 obtain⟨t,rfl⟩:=rx
 exact rule i t s _ _ ⟨.int (g i),H,I.tok _,⟨_,rfl⟩,q⟩
def YT:NP X (unaryOp .USub) (rU λi=>.int (-i)):=unI λ_ _ _ _ _ q=>neg_int q
end
section
variable{X:Cx}{a b c:Expr}{ta tb tc:TE}{pos:Pos}
def Hl{pins:List (Addr×Obj)}{σ:St}{H:Hp}{s:Shared}{Q:VK}{k k':Bool}(I:Inv X pins σ H s)(q:Q (.bl k) H)(e:k=k'):EP X pins σ Q (.bool k') s:=by
 subst e
 exact⟨.bl k,H,I,rfl,q⟩
def Zcy:ŭ X (compareOp .Lt) (NQ λi j=>.bl (decide (i<j))):=YG λ_ _ _ _ _ _ _ q=>lt_int q
def Zcz:ŭ X (compareOp .LtE) (NQ λi j=>.bl (decide (i<=j))):=YG λ_ _ _ _ _ _ _ q=>le_int q
def ZcA:ŭ X (compareOp .GtE) (NQ λi j=>.bl (decide (j<=i))):=YG λ_ _ _ _ _ _ _ q=>ge_int q
def k_:ŭ X (compareOp .Is) (λx y H Q=>y=.non/\Q (.bl (decide (x=.non))) H):=by
 intro pins s σ H x y v u Q I rx ry h
 obtain⟨rfl,q⟩:=h
 cases ry
 refine is_none_gen (Hl I q ?_)
 cases x<;>first
  |(cases rx;rfl)
  |(obtain⟨t,rfl⟩:=rx;rfl)
def NZ:ŭ X (compareOp .IsNot) (λx y H Q=>y=.non/\Q (.bl (!decide (x=.non))) H):=by
 intro pins s σ H x y v u Q I rx ry h
 obtain⟨rfl,q⟩:=h
 cases ry
 refine isnot_none_gen (Hl I q ?_)
 cases x<;>first
  |(cases rx;rfl)
  |(obtain⟨t,rfl⟩:=rx;rfl)
def ŭ.or{f:Value->Value->Sem Value}{r r':R2}(h:ŭ X f r)(h':ŭ X f r'):ŭ X f (λx y H Q=>r x y H Q\/r' x y H Q):=by
 intro pins s σ H x y v u Q I rx ry q
 rcases q with q|q
 ·exact h pins s σ H x y v u Q I rx ry q
 ·exact h' pins s σ H x y v u Q I rx ry q
def Ŗ(b:Expr){op:CmpOp}(h:op≠ .In:=by decide)(h2:op≠ .NotIn:=by decide):behindInMarks op b=false:=by
 have e1:(op== CmpOp.In)=false:=by cases op<;>first|rfl|exact absurd rfl h
 have e2:(op== CmpOp.NotIn)=false:=by cases op<;>first|rfl|exact absurd rfl h2
 cases b<;>simp[behindInMarks,e1,e2]
def N_{op:CmpOp}{r:R2}(ho:ŭ X (compareOp op) r)(ha:PE X a ta)(hb:PE X b tb)(hm:behindInMarks op b=false):PE X (.Compare a [op] [b] pos) (tOp r ta tb):=by
 intro pins s σ H Q I h
 exact wpAny_Compare1 (YF ha hb I h λv u s2 x y H2 I2 rx ry q=>ho pins s2 σ H2 x y v u Q I2 rx ry q) hm
def YW(K:PySem.W.Frag)(x:V)(H:Hp)(k:Bool):Prop:=
 match x with
 | .non=>k=false
 | .bl b=>k=b
 | .int i=>k=(i != 0)
 | .str y=>y.length<=sizeLine/\k=((y.length:Int) != 0)
 | .QC y=>y.size<=sizeLine/\k=((y.size:Int) != 0)
 | .ref p=>(∃xs,ū K H p xs/\k=!xs.isEmpty)\/(∃xs,bO K H p xs/\k=!xs.isEmpty)\/∃kvs,H p=some (.dK kvs)/\k=!kvs.isEmpty
 |_=>False
def zN{κ:Type}{kvs:List (κ×V)}{vs:List (κ×Value)}(r:KV kvs vs):(!vs.isEmpty)=!kvs.isEmpty:=by
 cases r<;>rfl
def oZ{xs:List V}{its:List Value}(r:Vals xs its):(!its.toArray.isEmpty)=!xs.isEmpty:=by
 cases r<;>simp
def lq:(sizeLine:Nat)<2 ^ 63:=by rw[sizeLine_eq];decide
def YX:Ze2 X (λx H Q=>∃k,YW X.K x H k/\Q k H):=by
 intro pins s σ H x v Q I rx h
 obtain⟨k,e,q⟩:=h
 have hl:=lq
 have hs:sizeLine=16777216:=sizeLine_eq
 cases x with
 |non=>
  cases rx
  have e':k=false:=e
  subst e'
  exact truthy_none ⟨H,I,q⟩
 |bl b=>
  cases rx
  have e':k=b:=e
  subst e'
  exact wpAny_truthy_bool ⟨H,I,q⟩
 |int i=>
  obtain⟨t,rfl⟩:=rx
  have e':k=(i != 0):=e
  subst e'
  exact PySem.P.truthy_int ⟨H,I,q⟩
 |str y=>
  obtain⟨t,rfl⟩:=rx
  obtain⟨hy,e'⟩:y.length<=sizeLine/\k=((y.length:Int) != 0):=e
  subst e'
  exact PySem.P.truthy_str (by omega) ⟨H,I.tok _,q⟩
 |QC y=>
  obtain⟨t,rfl⟩:=rx
  obtain⟨hy,e'⟩:y.size<=sizeLine/\k=((y.size:Int) != 0):=e
  subst e'
  exact PySem.W.truthy_bytes (by omega) ⟨H,I.tok _,q⟩
 |ref p=>
  cases rx
  have e':(∃xs,ū X.K H p xs/\k=!xs.isEmpty)\/(∃xs,bO X.K H p xs/\k=!xs.isEmpty)\/∃kvs,H p=some (.dK kvs)/\k=!kvs.isEmpty:=e
  rcases e' with⟨xs,hx,e'⟩|⟨xs,hx,e'⟩|⟨kvs,hx,e'⟩
  ·subst e'
   obtain⟨its,r,pl,hz⟩:=I.list hx
   have hlen:=r.length
   exact wpAny_truthy_list pl.isList (by simp only[List.size_toArray];omega) ⟨H,I.tok _,by rw[oZ r];exact q⟩
  ·subst e'
   obtain⟨its,r,pl,hz⟩:=I.tuple hx
   have hlen:=r.length
   exact truthy_tuple pl (by simp only[List.size_toArray];omega) ⟨H,I.tok _,by rw[oZ r];exact q⟩
  ·subst e'
   obtain⟨hz,hS,vs,r,m⟩:kvs.length<=sizeLine/\(p== sysModules)=false/\∃vs,KV kvs vs/\s.heap.DictOf (uL X.prog X.w) p vs:=I.hok p _ hx
   have hlen:kvs.length=vs.length:=Paired.length r
   exact wpAny_truthy_dict hS m (by omega) ⟨H,I.tok _,by rw[zN r];exact q⟩
 |_=>exact(show False from e).elim
def Ho(ha:PE X a ta)(he:∀whole,isTrue a X.env whole=(do let v <-whole;standAt a.pos;holding [v] (truthy v))) :
 PT X a (λσ H Q=>ta σ H λx H'=>∃k,YW X.K x H' k/\Q k H'):=by
 intro pins s σ H Q I h
 exact isTrue_plain (ŕ (ha pins s σ H _ I h) λv s1 ⟨x,H1,I1,r1,q1⟩=>YX pins s1 σ H1 x v Q I1 r1 q1) (he _)
def zO:ŭ X (binaryOp .Add) (λx y H Q=>∃i j,x=.str i/\y=.str j/\i.length+j.length<=sizeLine/\Q (.str (i++j)) H):=by
 intro pins s σ H x y v u Q I rx ry h
 obtain⟨i,j,rfl,rfl,hz,q⟩:=h
 obtain⟨t,rfl⟩:=rx
 obtain⟨t',rfl⟩:=ry
 exact add_str (λt' tk=>⟨.str (i++j),H,I.tok _,⟨_,rfl⟩,q⟩) hz
def vals1{x:V}{us:List Value}(r:Vals [x] us):∃u,us=[u]/\RelV x u:=by
 cases r with
 |cons r1 r2=>cases r2;exact⟨_,rfl,r1⟩
def vals2{x y:V}{us:List Value}(r:Vals [x,y] us):∃u w',us=[u,w']/\RelV x u/\RelV y w':=by
 cases r with
 |cons r1 r2=>
  cases r2 with
  |cons r3 r4=>cases r4;exact⟨_,_,rfl,r1,r3⟩
def Hq:ř X (.builtin "abs") (λxs H Q=>∃i,xs=[.int i]/\Q (.int (if i<0 then -i else i)) H):=by
 intro pins s σ H xs us Q I r h
 obtain⟨i,rfl,q⟩:=h
 obtain⟨u,rfl,t,rfl⟩:=vals1 r
 exact call_abs_int λu tk=>⟨.int (if i<0 then -i else i),H,I.tok _,⟨_,rfl⟩,q⟩
def Fx:ř X (.type "int") (λxs H Q=>(∃i,xs=[.int i]/\Q (.int i) H)\/∃k,xs=[.bl k]/\Q (.int (if k then 1 else 0)) H):=by
 intro pins s σ H xs us Q I r h
 rcases h with⟨i,rfl,q⟩|⟨k,rfl,q⟩
 ·obtain⟨u,rfl,t,rfl⟩:=vals1 r
  exact call_int_int ⟨.int i,H,I,⟨_,rfl⟩,q⟩
 ·obtain⟨u,rfl,r1⟩:=vals1 r
  cases r1
  exact call_int_bool ⟨.int (if k then 1 else 0),H,I.tok _,⟨_,rfl⟩,q⟩
def Ze3(K:PySem.W.Frag)(x:V)(H:Hp)(n:Nat):Prop:=
 match x with
 | .str y=>y.length<=sizeLine/\n=y.length
 | .QC y=>y.size<=sizeLine/\n=y.size
 | .ref p=>(∃xs,ū K H p xs/\n=xs.length)\/∃xs,bO K H p xs/\n=xs.length
 |_=>False
def Hr:ř X (.builtin "len") (λxs H Q=>∃x n,xs=[x]/\Ze3 X.K x H n/\Q (.int n) H):=by
 intro pins s σ H xs us Q I r h
 obtain⟨x,n,rfl,e,q⟩:=h
 obtain⟨u,rfl,rx⟩:=vals1 r
 have hl:=lq
 have hs:sizeLine=16777216:=sizeLine_eq
 cases x with
 |str y=>
  obtain⟨t,rfl⟩:=rx
  obtain⟨hy,e'⟩:y.length<=sizeLine/\n=y.length:=e
  subst e'
  exact len_str (by omega) ⟨.int _,H,I.tok _,⟨_,rfl⟩,q⟩
 |QC y=>
  obtain⟨t,rfl⟩:=rx
  obtain⟨hy,e'⟩:y.size<=sizeLine/\n=y.size:=e
  subst e'
  exact PySem.W.len_bytes (by omega) ⟨.int _,H,I.tok _,⟨_,rfl⟩,q⟩
 |ref p=>
  cases rx
  have e':(∃xs,ū X.K H p xs/\n=xs.length)\/∃xs,bO X.K H p xs/\n=xs.length:=e
  rcases e' with⟨xs,hx,e'⟩|⟨xs,hx,e'⟩
  ·subst e'
   obtain⟨its,r',pl,hz⟩:=I.list hx
   have hlen:=r'.length
   exact Calls.call_len_list pl.isList (by simp only[List.size_toArray];omega) ⟨.int xs.length,H,I.tok _,⟨_,by simp only[List.size_toArray];rw[hlen]⟩,q⟩
  ·subst e'
   obtain⟨its,r',pl,hz⟩:=I.tuple hx
   have hlen:=r'.length
   exact len_tuple pl (by simp only[List.size_toArray];omega) ⟨.int xs.length,H,I.tok _,⟨_,by simp only[List.size_toArray];rw[hlen]⟩,q⟩
 |_=>exact(show False from e).elim
def wY:ř X (.builtin "divmod") (λxs H Q=>∃i j,xs=[.int i,.int j]/\Zcx i j/\∀p,H p=none->Q (.ref p) (upd H p (.tup [.int (i / j),.int (i % j)]))):=by
 intro pins s σ H xs us Q I r h
 obtain⟨i,j,rfl,⟨h1,h2⟩,q⟩:=h
 obtain⟨u,w',rfl,⟨t,rfl⟩,⟨t',rfl⟩⟩:=vals2 r
 refine divmod_int (by omega) ?_ (.inl (PyProof.noPylong_small (by omega)))
 rw[Int.fdiv_eq_ediv_of_nonneg i (by omega),Int.fmod_eq_emod_of_nonneg i (by omega)]
 have hn:H s.heap.objs.size=none:=I.hok.fresh (Nat.le_refl _)
 refine⟨.ref s.heap.objs.size,_,?_,rfl,q _ hn⟩
 refine I.laid (λb o e=>Heap.get?_push_of_some _ e) (Nat.le_refl _) ⟨by simp only[List.length_cons,List.length_nil];rw[sizeLine_eq];decide,[.int (i / j) s.toks,.int (i % j) (s.toks+1)],.cons ⟨_,rfl⟩ (.cons ⟨_,rfl⟩ .nil),?_⟩
 exact⟨_,Heap.get?_push_size s.heap rfl,rfl,0,rfl⟩
end
end L2
namespace L2
open PySem PySem.Spec PyProof.Rows
structure zP(h:Heap)(x dx C:Addr)(mA:Str->Option Value):Prop where
 obj:h.get? x=some (PySem.W.instObj C dx)
 ns:h.Ns1 dx mA
 ne:dx≠x
def Fy{h:Heap}{dx:Addr}{mA:Str->Option Value}(n:h.Ns1 dx mA):∃od,h.get? dx=some od/\∀name,PySem.W.lookIn name od=some (mA name):=by
 obtain⟨o,es,ep,ho,hd,hk,_,hm⟩:=n
 refine⟨o,ho,λname=>?_⟩
 have e:=hm name
 unfold nsFind findBy at e
 rw[<-Array.find?_toList] at e
 unfold PySem.W.lookIn
 rw[hd]
 dsimp only
 split
 ·rename_i y q
  rw[q] at e
  exact congrArg some e
 ·rename_i q
  rw[q] at e
  have a:es.toList.any (·.refKey)=false:=by
   rw[List.any_eq_false]
   intro y hy
   obtain⟨z,t,hkey⟩:=hk y (Array.mem_toList_iff.mp hy)
   simp[DictEntry.refKey,hkey]
  have a':¬es.toList.any (·.refKey)=true:=by rw[a];exact Bool.false_ne_true
  rw[if_neg a']
  exact congrArg some e
def zP.look{h:Heap}{x dx C:Addr}{mA:Str->Option Value}(I:zP h x dx C mA):∃od,PySem.W.InstAt h x (PySem.W.instObj C dx) C (some od)/\∀name,PySem.W.lookIn name od=some (mA name):=
 let ⟨od,ho,hl⟩:=Fy I.ns
 ⟨od,⟨I.obj,rfl,rfl,ho⟩,hl⟩
section
variable{prog:Program}{w:World}{A:Around}{E:Value->Shared->Prop}{s:Shared}{K:PySem.W.Frag}{x dx C f:Addr}{mA:Str->Option Value}{name:Str}{v:Value}
def get_map{expr:Bool}{Q:Value->Shared->Prop}(X:K.In s.heap)(I:zP s.heap x dx C mA)(hg:PySem.W.plainGet K C name=true)(hh:PySem.W.hasDictIn K C=true)
 (ha:PySem.W.findIn K (.ref C) name=some none)(hv:mA name=some v)(hv':PySem.W.handedIn v=true)(h:Q v {s with toks:=s.toks+1}) :
 wpAny (model prog w) A (getAttr (.ref x) name expr) Q E s:=by
 obtain⟨od,J,hl⟩:=I.look
 exact PySem.W.get_value X J (PySem.W.plainGet_of hg).1 (PySem.W.findObj_own hh ha rfl (by rw[hl,hv])) hv' h
def Hs{pl:Sem Bool}{Q:Value×List Value->Shared->Prop}(X:K.In s.heap)(I:zP s.heap x dx C mA)(hg:PySem.W.plainGet K C name=true)
 (hf:PySem.W.findIn K (.ref C) name=some (some (.ref f)))(ht:PySem.W.isFn K (.ref f)=true)(hv:mA name=none)(h:Q (.ref f,[.ref x]) s) :
 wpAny (model prog w) A (getMethod (.ref x) name pl) Q E s:=by
 obtain⟨od,J,hl⟩:=I.look
 exact PySem.W.method_fn X J (PySem.W.plainGet_of hg).1 (PySem.W.plainGet_of hg).2 hf (beq_iff_eq.mp ht) (by show(PySem.W.lookIn name od).map (·.isSome)=some false;rw[hl,hv];rfl) h
def Oa{ns:List Str}{Q:Unit->Shared->Prop}(X:K.In s.heap)(I:zP s.heap x dx C mA)
 (hs:PySem.W.findIn K (.ref C) "__setattr__" =some (some (.builtin "object.__setattr__")))(hp:PySem.W.plainOver K C=true)(ht:PySem.W.takerIn K C name=some none)(hh:PySem.W.hasDictIn K C=true)
 (hw:PySem.Within mA ns)(hsz:ns.length<=sizeLine)
 (h:∀h',zP h' x dx C (λy=>if y=name then some v else mA y)->Heap.SameBut dx s.heap h'->Q () {s with heap:=h',toks:=s.toks+2}) :
 wpAny (model prog w) A (setAttr (.ref x) name v) Q E s:=by
 obtain⟨od,J,hl⟩:=I.look
 refine PySem.W.set_plain X J hs (PySem.W.osa_open (s:={s with toks:=s.toks+1}) (r:=none) X J hp ht λb=>?_)
 obtain⟨cd,hc,hd'⟩:=PySem.W.any_some hh
 have hx:s.heap.get? x=some ⟨.ref C,some dx,.plain,#[]⟩:=I.obj
 refine wpAny_bind (wpAny_pure (wpAny_bind (wpAny_bind (wpAny_loadPart hx (wpAny_bind (PySem.W.Looks.here (s:={s with toks:=s.toks+1}) (PySem.W.looks_clsIn X hc) ?_))))))
 rw[hd']
 refine wpAny_pure (a:=some dx) (wpAny_bind (wpAny_pure (wpAny_bind ?_)))
 refine wpAny_nsSet1 (s:={s with toks:=s.toks+1}) I.ns λh' hn2 hs2=>?_
 obtain⟨oD,esD,epD,hoD,hdD,hcD⟩:=hn2.count (PySem.Within.cons name v hw)
 refine wpAny_bind (wpAny_lookBehind hoD (by rw[hdD];exact pastItsLine_dict (Nat.le_trans hcD (by rw[List.length_cons];omega))) ?_)
 exact wpAny_pure (h _ ⟨(hs2.2 _ (Ne.symm I.ne)).trans I.obj,hn2,I.ne⟩ hs2)
def Ht{R:Result->Shared->Prop}{vs:List Value}{kw:List (Str×Value)}(X:K.In s.heap)(hm:PySem.W.makesIn K C=true)
 (hi:PySem.W.findIn K (.ref C) "__init__" =some (some (.ref f)))(hf:PySem.W.typeIn K (.ref f)=some (.type "function"))
 (h:codeAny (model prog w) (A.under (.builtin "type.__call__" ⟨.ref C::vs,kw⟩)) (.call (.ref f) ⟨.ref (s.heap.objs.size+1)::vs,kw⟩) (PySem.W.InitBack (s.heap.objs.size+1) R)
   {s with heap:=(s.heap.push PySem.W.emptyDict).push (PySem.W.instObj C s.heap.objs.size)}) :
 codeAny (model prog w) A (.call (.ref C) ⟨vs,kw⟩) R s:=by
 obtain⟨hh,g,d,t,os⟩:=s
 exact PySem.W.make_core (PySem.W.makes_of X hm) (PySem.W.looks_findIn X hi) (λself=>PySem.W.bind_fn X self hf) (.inl rfl) h
end
def dZ(f:Str)(v:V):List (Str×V)->List (Str×V)
 | []=>[(f,v)]
 |(g,x)::r=>if g=f then(g,v)::r else(g,x)::dZ f v r
theorem mJ(f g:Str)(v:V):∀fs:List (Str×V),(dZ f v fs).lookup g=if g=f then some v else fs.lookup g
 | []=>by
   show List.lookup g [(f,v)]=_
   by_cases h:g=f
   ·have hb:(g== f)=true:=beq_iff_eq.mpr h
    simp only[List.lookup,hb,if_pos h]
   ·have hb:(g== f)=false:=beq_eq_false_iff_ne.mpr h
    simp only[List.lookup,hb,if_neg h]
 |(k,x)::r=>by
  have ih:=mJ f g v r
  rw[show dZ f v ((k,x)::r)=(if k=f then(k,v)::r else(k,x)::dZ f v r) from rfl]
  by_cases hk:k=f
  ·rw[if_pos hk]
   by_cases h:g=k
   ·have hb:(g== k)=true:=beq_iff_eq.mpr h
    simp only[List.lookup,hb,if_pos (h.trans hk)]
   ·have hb:(g== k)=false:=beq_eq_false_iff_ne.mpr h
    simp only[List.lookup,hb,if_neg (λe:g=f=>h (e.trans hk.symm))]
  ·rw[if_neg hk]
   by_cases h:g=k
   ·have hb:(g== k)=true:=beq_iff_eq.mpr h
    simp only[List.lookup,hb,if_neg (λe:g=f=>hk (h.symm.trans e))]
   ·have hb:(g== k)=false:=beq_eq_false_iff_ne.mpr h
    simp only[List.lookup,hb]
    exact ih
theorem lu(f:Str)(v:V):∀fs:List (Str×V),f∈(dZ f v fs).map (·.1)/\∀g,g∈fs.map (·.1)->g∈(dZ f v fs).map (·.1)
 | []=>⟨by simp[dZ],λg h=>by simp at h⟩
 |(k,x)::r=>by
  obtain⟨i1,i2⟩:=lu f v r
  rw[show dZ f v ((k,x)::r)=(if k=f then(k,v)::r else(k,x)::dZ f v r) from rfl]
  by_cases hk:k=f
  ·rw[if_pos hk]
   subst hk
   exact⟨by simp,λg h=>by simpa using h⟩
  ·rw[if_neg hk]
   refine⟨?_,λg h=>?_⟩
   ·rw[List.map_cons]
    exact List.mem_cons_of_mem _ i1
   ·rw[List.map_cons] at h ⊢
    rcases List.mem_cons.mp h with e|e
    ·exact List.mem_cons.mpr (.inl e)
    ·exact List.mem_cons_of_mem _ (i2 g e)
theorem mK(f:Str)(v:V):∀fs:List (Str×V),(dZ f v fs).length<=fs.length+1
 | []=>by simp[dZ]
 |(k,x)::r=>by
  have ih:=mK f v r
  rw[show dZ f v ((k,x)::r)=(if k=f then(k,v)::r else(k,x)::dZ f v r) from rfl]
  by_cases hk:k=f
  ·rw[if_pos hk,List.length_cons,List.length_cons];omega
  ·rw[if_neg hk,List.length_cons,List.length_cons];omega
def rJ.some_of{v:V}{o:Option Value}(r:rJ (some v) o):∃u,o=some u/\RelV v u:=by
 cases o with
 |none=>exact(show False from r).elim
 |some u=>exact⟨u,rfl,r⟩
def rJ.none_of{o:Option Value}(r:rJ none o):o=none:=by
 cases o with
 |none=>rfl
 |some u=>exact(show False from r).elim
def Fz{v:V}{u:Value}(r:RelV v u):PySem.W.handedIn u=true:=by
 cases v with
 |non=>cases(show u=Value.none from r);rfl
 |bl b=>cases(show u=Value.bool b from r);rfl
 |int i=>obtain⟨t,e⟩:=(show ∃t,u=Value.int i t from r);cases e;rfl
 |str x=>obtain⟨t,e⟩:=(show ∃t,u=Value.str x t from r);cases e;rfl
 |QC b=>obtain⟨t,e⟩:=(show ∃t,u=Value.bytes b t from r);cases e;rfl
 |flt b=>obtain⟨t,e⟩:=(show ∃t,u=Value.float b t from r);cases e;rfl
 |ref a=>cases(show u=Value.ref a from r);rfl
 |ty n=>cases(show u=Value.type n from r);rfl
section
variable{P:Program}{w:World}{H H':Hp}{h h':Heap}{a C dx:Addr}{fs fs':List (Str×V)}
def oG(hok:jz P w H h)(e:H a=some (.ins C dx fs)):∃mA,zP h a dx C mA/\(∀f,rJ (fs.lookup f) (mA f))/\PySem.Within mA (fs.map (·.1))/\fs.length<=1000/\H dx=some (.own a):=by
 obtain⟨d,z,ne,ob,mA,n,r,q⟩:=(show ž P w H h a (.ins C dx fs) from hok a _ e)
 exact⟨mA,⟨ob,n,ne⟩,r,q,z,d⟩
end
structure Cls(K:PySem.W.Frag)(C:Addr):Prop where
 pg:PySem.W.plainGet K C Str.empty=true
 hd:PySem.W.hasDictIn K C=true
 po:PySem.W.plainOver K C=true
 sa:PySem.W.findIn K (.ref C) "__setattr__" =some (some (.builtin "object.__setattr__"))
def Cls.get{K:PySem.W.Frag}{C:Addr}(c:Cls K C)(f:Str):PySem.W.plainGet K C f=true:=c.pg
def ļ(K:PySem.W.Frag)(C:Addr)(f:Str):Prop:=PySem.W.findIn K (.ref C) f=some none
def ļ.taker{K:PySem.W.Frag}{C:Addr}{f:Str}(n:ļ K C f):PySem.W.takerIn K C f=some none:=by
 unfold PySem.W.takerIn
 rw[show PySem.W.findIn K (.ref C) f=some none from n]
 rfl
structure Meth(K:PySem.W.Frag)(C:Addr)(m:Str)(f:Addr):Prop where
 at_:PySem.W.findIn K (.ref C) m=some (some (.ref f))
 fn:PySem.W.isFn K (.ref f)=true
 kp:PySem.W.keepIn K (.ref f)=true
section
variable{X:Cx}{pins:List (Addr×Obj)}{σ:St}{H:Hp}{s:Shared}{a C dx:Addr}{fs:List (Str×V)}{f:Str}{v:V}{A:Around}{E:Value->Shared->Prop}
def zQ{b:Bool}{Q:Value->Shared->Prop}(I:Inv X pins σ H s)(e:H a=some (.ins C dx fs))(c:Cls X.K C)(n:ļ X.K C f)(l:fs.lookup f=some v)
 (h:∀u s',Inv X pins σ H s'->RelV v u->Q u s'):wpAny (model X.prog X.w) A (getAttr (.ref a) f b) Q E s:=by
 obtain⟨mA,O,r,_,_,_⟩:=oG I.hok e
 obtain⟨u,hu,ru⟩:=rJ.some_of (v:=v) (o:=mA f) (by rw[<-l];exact r f)
 exact get_map I.kJ O (c.get f) c.hd n hu (Fz ru) (h u _ (I.tok _) ru)
def zR{m:Str}{g:Addr}{pl:Sem Bool}{Q:Value×List Value->Shared->Prop}(I:Inv X pins σ H s)(e:H a=some (.ins C dx fs))(c:Cls X.K C)(k:Meth X.K C m g)(l:fs.lookup m=none)
 (h:Q (.ref g,[.ref a]) s):wpAny (model X.prog X.w) A (getMethod (.ref a) m pl) Q E s:=by
 obtain⟨mA,O,r,_,_,_⟩:=oG I.hok e
 have hn:mA m=none:=rJ.none_of (by rw[<-l];exact r m)
 exact Hs I.kJ O (c.get m) k.at_ k.fn hn h
def zT{y:V}{u:Value}{Q:Unit->Shared->Prop}(I:Inv X pins σ H s)(e:H a=some (.ins C dx fs))(c:Cls X.K C)(n:ļ X.K C f)(hl:fs.length<1000)(ry:RelV y u)
 (h:∀s',Inv X pins σ (upd H a (.ins C dx (dZ f y fs))) s'->Q () s'):wpAny (model X.prog X.w) A (setAttr (.ref a) f u) Q E s:=by
 obtain⟨mA,O,r,wi,_,ho⟩:=oG I.hok e
 have hz:(fs.map (·.1)).length<=sizeLine:=by rw[List.length_map,sizeLine_eq];omega
 refine Oa I.kJ O c.sa c.po n.taker c.hd wi hz λh' O' sb=>h _ ?_
 have hd:∃o,h'.get? dx=some o:=let ⟨o,_,_,e',_⟩:=O'.ns;⟨o,e'⟩
 refine I.write (x:=a) (e:=dx) (by rw[e];exact True.intro) (.inr ho) (λb q hb z=>(sb.2 b hb).trans z) hd ?_
 refine⟨by rw[Ĝ O.ne];exact ho,?_,O.ne,O'.obj,_,O'.ns,λg=>?_,λg hg=>?_⟩
 ·have:=mK f y fs;omega
 ·show rJ ((dZ f y fs).lookup g) (if g=f then some u else mA g)
  rw[mJ]
  by_cases q:g=f
  ·rw[if_pos q,if_pos q];exact ry
  ·rw[if_neg q,if_neg q];exact r g
 ·by_cases q:g=f
  ·rw[q];exact(lu f y fs).1
  ·refine(lu f y fs).2 g (wi g λz=>hg ?_)
   show(if g=f then some u else mA g)=none
   rw[if_neg q];exact z
def Inv.made(I:Inv X pins σ H s):Inv X pins σ (upd (upd H s.heap.objs.size (.own (s.heap.objs.size+1))) (s.heap.objs.size+1) (.ins C s.heap.objs.size []))
 {s with heap:=(s.heap.push PySem.W.emptyDict).push (PySem.W.instObj C s.heap.objs.size)}:=by
 have e1:(s.heap.push PySem.W.emptyDict).get? s.heap.objs.size=some PySem.W.emptyDict:=Heap.get?_push_size s.heap rfl
 have e2:((s.heap.push PySem.W.emptyDict).push (PySem.W.instObj C s.heap.objs.size)).get? (s.heap.objs.size+1)=some (PySem.W.instObj C s.heap.objs.size):=by
  have:=Heap.get?_push_size (s.heap.push PySem.W.emptyDict) (o:=PySem.W.instObj C s.heap.objs.size) rfl
  rwa [Heap.size_push] at this
 have e3:(s.heap.push PySem.W.emptyDict).Ns s.heap.objs.size (λ_=>none):=⟨PySem.W.emptyDict,#[],_,e1,rfl,(λe he=>absurd he (by simp)),λ_=>rfl⟩
 have I1:=I.laid (a:=s.heap.objs.size) (o:=.own (s.heap.objs.size+1)) (h':=s.heap.push PySem.W.emptyDict) (t':=s.toks) (λb u q=>Heap.get?_push_of_some _ q) (Nat.le_refl _) ⟨_,e1⟩
 refine I1.laid (a:=s.heap.objs.size+1) (o:=.ins C s.heap.objs.size []) (t':=s.toks) (λb u q=>Heap.get?_push_of_some _ q) (Nat.le_of_eq (Heap.size_push _ _)) ?_
 have ne:s.heap.objs.size≠s.heap.objs.size+1:=Nat.ne_of_lt (Nat.lt_succ_self _)
 refine⟨by rw[Ĝ ne,ģ],Nat.zero_le _,ne,e2,λ_=>none,(Heap.Ns1.of_empty e3).at λo q=>Heap.get?_push_of_some _ q,λ_=>True.intro,λy hy=>absurd rfl hy⟩
def Ob{prog:Program}{w:World}{env:Env}{e:Expr}{f:Str}{pos:Pos}{s:Shared}{Q:Value->Shared->Prop}(hb:attributeBase e f env (eval e env)=eval e env)
 (h:wpAny (model prog w) A (eval e env) (λo s₁=>wpAny (model prog w) A (getAttr o f true) Q E s₁) E s):wpAny (model prog w) A (eval (.Attribute e f pos) env) Q E s:=
 Attribute_any_ h (by rw[arm_eval_Attribute,hb])
end
def Ze4(K:PySem.W.Frag)(ta:TE)(f:Str):TE:=λσ H Q=>ta σ H λx H1=>∃a C dx fs v,x=.ref a/\H1 a=some (.ins C dx fs)/\Cls K C/\ļ K C f/\fs.lookup f=some v/\Q v H1
def Ze5(K:PySem.W.Frag)(ta tv:TE)(f:Str):TS:=λD σ H=>tv σ H λy H1=>ta σ H1 λx H2=>∃a C dx fs,x=.ref a/\H2 a=some (.ins C dx fs)/\Cls K C/\ļ K C f/\fs.length<1000/\
 D.nx σ (upd H2 a (.ins C dx (dZ f y fs)))
section
variable{X:Cx}{o e value:Expr}{f:Str}{pos pos' tpos:Pos}{ta tv:TE}
def YZ(he:PE X e ta)(hb:attributeBase e f X.env (eval e X.env)=eval e X.env):PE X (.Attribute e f pos) (Ze4 X.K ta f):=by
 intro pins s σ H Q I h
 refine Ob hb (ŕ (he pins s σ H _ I h) λu s1 ⟨x,H1,I1,rx,a,C,dx,fs,v,ex,ea,c,n,l,q⟩=>?_)
 subst ex
 obtain rfl:u=Value.ref a:=rx
 exact zQ I1 ea c n l λu' s2 I2 ru=>⟨v,H1,I2,ru,q⟩
def Y_(ha:PE X o ta)(hv:PE X value tv)(hs:swapsWith value (some (.Attribute o f pos')) pos.line X.env=pure false):PS X (.Assign [.Attribute o f pos'] value pos) (Ze5 X.K ta tv f):=by
 intro pins s σ H D I h
 refine plainObj_wpAny_Assign_Attribute (ŕ (hv pins s σ H _ I h) λu s1 ⟨y,H1,I1,ry,q⟩=>ŕ (ha pins s1 σ H1 _ I1 q) λov s2 ⟨x,H2,I2,rx,a,C,dx,fs,ex,ea,c,n,l,q2⟩=>?_) hs
 subst ex
 obtain rfl:ov=Value.ref a:=rx
 exact zT I2 ea c n l ry λs3 I3=>⟨σ,_,I3,q2⟩
end
section
variable{X:Cx}{pins:List (Addr×Obj)}{σ:St}{H:Hp}{s:Shared}{A:Around}{E:Value->Shared->Prop}{Q:Value->Shared->Prop}{c:Value}{b:Bool}
inductive lA(K:PySem.W.Frag)(H:Hp):V->Value->Prop where
 |non:lA K H .non (.type "NoneType")
 |bl (x:Bool):lA K H (.bl x) (.type "bool")
 |int (i:Int):lA K H (.int i) (.type "int")
 |str (x:Str):lA K H (.str x) (.type "str")
 |flt (x:UInt64):lA K H (.flt x) (.type "float")
 |lst {a:Addr} {xs:List V} (e:H a=some (.lst xs)):lA K H (.ref a) (.type "list")
 |dW {a:Addr} {o:Obj} {xs:List V} (e:H a=some (.dW o (.lst xs))):lA K H (.ref a) (.type "list")
 |tup {a:Addr} {xs:List V} (e:H a=some (.tup xs)):lA K H (.ref a) (.type "tuple")
 |dK {a:Addr} {kvs:List (Key×V)} (e:H a=some (.dK kvs)):lA K H (.ref a) (.type "dict")
 |dT {a:Addr} {kvs:List (List Key×V)} (e:H a=some (.dT kvs)):lA K H (.ref a) (.type "dict")
 |ins {a C dx:Addr} {fs:List (Str×V)} (e:H a=some (.ins C dx fs)) (cl:Cls K C) (ha:PySem.W.findIn K (.ref C) "__class__" =some (some (.builtin "object.__class__")))
   (hn:PySem.W.specialIn K (.builtin "object.__class__") "__get__" =some (some (.builtin "getset_descriptor.__get__"))) (htk:PySem.W.takesIn K (.builtin "object.__class__")=some true)
   (hm:PySem.W.mroIn K C (.type "object")=some true):lA K H (.ref a) (.ref C)
def dh{x:V}{u t:Value}(I:Inv X pins σ H s)(rx:RelV x u)(ty:lA X.K H x t)(e:PySem.W.kitOne X.K t c=some b)(h:∀tk,Q (.bool b) {s with toks:=tk}) :
 wpAny (model X.prog X.w) A (call (.builtin "isinstance") [u,c]) Q E s:=by
 cases ty with
 |non=>cases(show u=Value.none from rx);exact PySem.W.kia_one PySem.W.kitx_none I.kJ True.intro e (λz=>nomatch z) h
 |bl y=>cases(show u=Value.bool y from rx);exact PySem.W.kia_one PySem.W.kitx_bool I.kJ True.intro e (λz=>nomatch z) h
 |int i=>obtain⟨t,q⟩:=(show ∃t,u=Value.int i t from rx);cases q;exact PySem.W.kia_one PySem.W.kitx_int I.kJ True.intro e (λz=>nomatch z) h
 |str y=>obtain⟨t,q⟩:=(show ∃t,u=Value.str y t from rx);cases q;exact PySem.W.kia_one PySem.W.kitx_str I.kJ True.intro e (λz=>nomatch z) h
 |flt y=>obtain⟨t,q⟩:=(show ∃t,u=Value.float y t from rx);cases q;exact PySem.W.kia_one PySem.W.kitx_float I.kJ True.intro e (λz=>nomatch z) h
 |@lst a xs ea=>
  cases(show u=Value.ref a from rx)
  obtain⟨_,_,n,_,h1⟩:=(show ž X.prog X.w H s.heap a (.lst xs) from I.hok a _ ea)
  exact PySem.W.kia_one PySem.W.kitx_list I.kJ ⟨_,h1,rfl⟩ e (λz=>nomatch z) h
 |@dW a ob xs ea=>
  cases(show u=Value.ref a from rx)
  obtain⟨_,_,_,n,_,h1⟩:=(show ž X.prog X.w H s.heap a (.dW ob (.lst xs)) from I.hok a _ ea)
  exact PySem.W.kia_one PySem.W.kitx_list I.kJ ⟨_,h1,rfl⟩ e (λz=>nomatch z) h
 |@tup a xs ea=>
  cases(show u=Value.ref a from rx)
  obtain⟨_,_,_,p⟩:=(show ž X.prog X.w H s.heap a (.tup xs) from I.hok a _ ea)
  obtain⟨o,h1,h2,_⟩:=p
  exact PySem.W.kia_one PySem.W.kitx_tuple I.kJ ⟨o,h1,h2⟩ e (λz=>nomatch z) h
 |@dK a kvs ea=>
  cases(show u=Value.ref a from rx)
  obtain⟨_,_,vs,_,p⟩:=(show ž X.prog X.w H s.heap a (.dK kvs) from I.hok a _ ea)
  obtain⟨o,es,ep,h1,h2,_⟩:=p
  exact PySem.W.kia_one PySem.W.kitx_dict I.kJ ⟨o,h1,h2.1⟩ e (λz=>nomatch z) h
 |@dT a kvs ea=>
  cases(show u=Value.ref a from rx)
  obtain⟨_,_,xs,_,o,es,ep,h1,h2,_⟩:=(show ž X.prog X.w H s.heap a (.dT kvs) from I.hok a _ ea)
  exact PySem.W.kia_one PySem.W.kitx_dict I.kJ ⟨o,h1,h2.1⟩ e (λz=>nomatch z) h
 |@ins a C dx fs ea cl ha hn htk hm=>
  cases(show u=Value.ref a from rx)
  obtain⟨mA,O,_⟩:=oG I.hok ea
  obtain⟨od,J,_⟩:=O.look
  exact PySem.W.kia_one (PySem.W.kitx_own (cl.get _) cl.hd ha hn htk hm) I.kJ J e (λz=>nomatch z) h
end
end L2
namespace L2
open PySem PySem.Spec PyProof.Rows
structure Ś(k:Nat)(A:Around):Prop where
 hd:A.handled=none
 dp:A.depth+3*k+5<recursionLimit
 un:A.units+16*k+200<cLine
def Ś.mono{j k:Nat}{A:Around}(r:Ś k A)(h:j<=k):Ś j A:=⟨r.hd,by have:=r.dp;omega,by have:=r.un;omega⟩
def Ś.mo{j k:Nat}{A:Around}(r:Ś k A)(h:j<=k:= by decide):Ś j A:= r.mono h
theorem Ś.deeper{k:Nat}{A:Around}(r:Ś (k+1) A)(env:Env):Ś k (A.deeper env):=
 ⟨r.hd,by have:=r.dp;show A.depth+1+3*k+5<_;omega,by have:=r.un;show A.units+3+16*k+200<_;omega⟩
theorem Ś.in1{k:Nat}{A:Around}(r:Ś (k+1) A):Ś k A.in1:=
 ⟨r.hd,by have:=r.dp;show A.depth+3*k+5<_;omega,by have:=r.un;show A.units+1+16*k+200<_;omega⟩
def zU{A:Around}{C:Addr}{us:List Value}{kw:List (Str×Value)}:(A.under (.builtin "type.__call__" ⟨.ref C::us,kw⟩)).depth=A.depth+1:=by
 first|rfl|simp[Around.under,Code.weight,Code.isCreation,Code.isGuard,Code.isCaller,Code.frames,Code.isFrame,guardIds]
def zV{A:Around}{C:Addr}{us:List Value}{kw:List (Str×Value)}:(A.under (.builtin "type.__call__" ⟨.ref C::us,kw⟩)).units=A.units+1:=by
 first|rfl|simp[Around.under,Code.cUnits,Code.frames,Code.isFrame]
def Ś.make{k:Nat}{A:Around}(r:Ś (k+1) A)(C:Addr)(us:List Value)(kw:List (Str×Value)):Ś k (A.under (.builtin "type.__call__" ⟨.ref C::us,kw⟩)):=
 ⟨r.hd,by have:=r.dp;rw[zU];omega,by have:=r.un;rw[zV];omega⟩
theorem Ś.depth{k:Nat}{A:Around}(r:Ś k A):A.depth<recursionLimit:=by have:=r.dp;omega
theorem Ś.units{k:Nat}{A:Around}(r:Ś k A):A.units+64<cLine:=by have:=r.un;omega
def ZcB:TA:=λ_ H Q=>Q [] H
def QG(ta:TE)(tr:TA):TA:=λσ H Q=>ta σ H λx H1=>tr σ H1 λxs H2=>Q (x::xs) H2
section
variable{X:Cx}{e:Expr}{es:List Expr}{te:TE}{t:TA}{pos:Pos}
def eE:PA X [] ZcB:=λ_ _ _ _ H Q I h=>Calls.spliced_nil ⟨[],H,I,.nil,h⟩
def aG(ha:PE X e te)(hr:PA X es t)(hs:starEach (e::es) X.env=(false,eval e X.env)::starEach es X.env:=by rfl):PA X (e::es) (QG te t):=by
 intro pos pins s σ H Q I h
 rw[hs]
 show wpAny _ _ (spliced ((false,eval e X.env)::backTo pos (starEach es X.env))) _ _ s
 refine Calls.spliced_cons (ŕ (ha pins s σ H _ I h) λu s1 ⟨x,H1,I1,r1,q1⟩=>?_)
 exact ŕ (hr pos pins s1 σ H1 _ I1 q1) λus s2 ⟨xs,H2,I2,r2,q2⟩=>⟨x::xs,H2,I2,.cons r1 r2,q2⟩
def Ze6(t:TA):TE:=λσ H Q=>t σ H λxs H1=>xs.length<=sizeLine/\∀p,H1 p=none->Q (.ref p) (upd H1 p (.tup xs))
def Ze7(t:TA):TE:=λσ H Q=>t σ H λxs H1=>xs.length<=sizeLine/\∀p,H1 p=none->Q (.ref p) (upd H1 p (.lst xs))
def Z_{x1}(h:PA X es t):PE X (.Tuple es x1 pos) (Ze6 t):=by
 intro pins s σ H Q I hq
 refine wpAny_Tuple_spliced (ŕ (h pos pins s σ H _ I hq) λus s1 ⟨xs,H1,I1,r,z,q⟩=>⟨by rw[<-r.length];exact z,?_⟩)
 have hf:H1 s1.heap.objs.size=none:=I1.hok.fresh (Nat.le_refl _)
 refine⟨.ref s1.heap.objs.size,upd H1 s1.heap.objs.size (.tup xs),I1.laid (t':=s1.toks) (λb u e=>Heap.get?_push_of_some _ e) (Nat.le_refl _) ?_,rfl,q _ hf⟩
 exact⟨z,us,r,⟨_,Heap.get?_push_size _ rfl,rfl,_,rfl⟩⟩
def Zaa(h:PA X es t):PE X (.List es pos) (Ze7 t):=by
 intro pins s σ H Q I hq
 refine wpAny_List_spliced (ŕ (h pos pins s σ H _ I hq) λus s1 ⟨xs,H1,I1,r,z,q⟩=>⟨by rw[<-r.length];exact z,?_⟩)
 have hf:H1 s1.heap.objs.size=none:=I1.hok.fresh (Nat.le_refl _)
 refine⟨.ref s1.heap.objs.size,upd H1 s1.heap.objs.size (.lst xs),I1.laid (t':=s1.toks) (λb u e=>Heap.get?_push_of_some _ e) (Nat.le_refl _) ?_,rfl,q _ hf⟩
 exact⟨z,us,0,r,Heap.get?_push_size _ rfl⟩
end
abbrev Sp:=List V->Hp->VK->XK->Prop
abbrev lB:=List Env->Hp->Shared->XK->Value->Shared->Prop
structure zW(P:Program)(w:World)(K:PySem.W.Frag)(mg:Str->Option Value)(base:Heap)(A:Around)(outer:List Env)(s:Shared)(H:Hp):Prop where
 frames:A.frames=some outer
 mod:Mod K mg base
 bs:∀b o,base.get? b=some o->s.heap.get? b=some o/\H b=none
 Ng:base.objs.size<=s.heap.objs.size
 nF:s.heap.FunFrames base outer
 Yj:∀b∈frs outer,H b=none
 hok:jz P w H s.heap
 bare:AllBare s.gens
 tb:TabsOk K mg base H
def CE(outer:List Env)(P:Program)(w:World)(H:Hp)(s:Shared)(Q:VK)(u:Value)(s':Shared):Prop:=
 ∃v H',s'.os=s.os/\AllBare s'.gens/\Un (frs outer) [] H H' s.heap s'.heap/\jz P w H' s'.heap/\RelV v u/\Q v H'
def CR(CX:lB)(outer:List Env)(P:Program)(w:World)(H:Hp)(s:Shared)(Q:VK)(E:XK)(r:Result)(s':Shared):Prop:=
 match r with
 | .ok (.ret u)=>CE outer P w H s Q u s'
 | .ok _=>False
 | .error e=>CX outer H s E e s'
structure Ġ(P:Program)(w:World)(K:PySem.W.Frag)(mg:Str->Option Value)(base:Heap)(CX:lB)(k:Nat)(f:Addr)(fd:FuncData)(ps:List Str)(sp:Sp):Prop where
 len:∀vs H Q E,sp vs H Q E->vs.length=ps.length
 run:∀(A:Around) (outer:List Env) (s:Shared) (H:Hp) (args:Args) (us:List Value) (vs:List V) (Q:VK) (E:XK),Ś k A->zW P w K mg base A outer s H->BindsTo s fd args (ps.zip us)->Vals vs us->sp vs H Q E->
  codeAny (model P w) A (.call (.ref f) args) (CR CX outer P w H s Q E) s
theorem Ġ.mono{P:Program}{w:World}{K:PySem.W.Frag}{mg:Str->Option Value}{base:Heap}{CX:lB}{j k:Nat}{f:Addr}{fd:FuncData}{ps:List Str}{sp:Sp}(F:Ġ P w K mg base CX j f fd ps sp)(h:j<=k) :
 Ġ P w K mg base CX k f fd ps sp:=⟨F.len,λA outer s H args us vs Q E hr=>F.run A outer s H args us vs Q E (hr.mono h)⟩
def Ġ.imp{P:Program}{w:World}{K:PySem.W.Frag}{mg:Str->Option Value}{base:Heap}{CX:lB}{k:Nat}{f:Addr}{fd:FuncData}{ps:List Str}{sp sp':Sp}(F:Ġ P w K mg base CX k f fd ps sp)
 (h:∀vs H Q E,sp' vs H Q E->sp vs H Q E):Ġ P w K mg base CX k f fd ps sp':=
 ⟨λvs H Q E q=>F.len vs H Q E (h _ _ _ _ q),λA outer s H args us vs Q E hr he hb hv hs=>F.run A outer s H args us vs Q E hr he hb hv (h _ _ _ _ hs)⟩
def zW.make{P:Program}{w:World}{K:PySem.W.Frag}{mg:Str->Option Value}{base:Heap}{A:Around}{outer:List Env}{s:Shared}{H:Hp}(e:zW P w K mg base A outer s H)(C:Addr)(us:List Value)(kw:List (Str×Value)) :
 zW P w K mg base (A.under (.builtin "type.__call__" ⟨.ref C::us,kw⟩)) outer s H:=⟨by first|exact e.frames|(simpa[Around.under,Code.envs,Code.isFrame,pushEnvs] using e.frames),e.mod,e.bs,e.Ng,e.nF,e.Yj,e.hok,e.bare,e.tb⟩
section
variable{X:Cx}{pins:List (Addr×Obj)}{σ:St}{H:Hp}{s s':Shared}
def Inv.env0(I:Inv X pins σ H s):zW X.prog X.w X.K X.mg X.base X.A X.stack s H:=
 ⟨I.ok.frames,I.ok.mod,I.bs,Nat.le_trans I.ok.Ng I.sz,I.stack,I.uM,I.hok,I.bare,I.tb⟩
def Inv.after{Q:VK}{u:Value}(I:Inv X pins σ H s)(h:CE X.stack X.prog X.w H s Q u s'):EP X pins σ Q u s':=by
 obtain⟨v,H',os,bare,un,hok,r,q⟩:=h
 obtain⟨hh,g,d,t,os'⟩:=s'
 obtain rfl:os'=s.os:=os
 exact⟨v,H',I.call (h':=hh) (g':=g) (d':=d) (t':=t) (ch:=[]) un hok bare (λb z=>absurd z (by simp)),r,q⟩
end
def Binds(K:PySem.W.Frag)(fd:FuncData)(ps:List Str)(ds:List Value):Prop:=
 ∀(s:Shared) (us:List Value),K.In s.heap->(us++ds).length=ps.length->BindsTo s fd ⟨us,[]⟩ (ps.zip (us++ds))
def Binds.all{K:PySem.W.Frag}{fd:FuncData}{ps:List Str}(h:∀us:List Value,us.length=ps.length->bindArgs fd ⟨us,[]⟩=pure (ps.zip us)):Binds K fd ps []:=λs us _ hl=>by
 rw[List.append_nil] at hl ⊢
 exact .of_eq (h us hl)
section
variable{X:Cx}{CX:lB}{k:Nat}{f C:Addr}{fd:FuncData}{ps:List Str}{sp:Sp}{Oc:List V}{ds:List Value}{E:XK}{x m:Str}{p pos apos:Pos}{e o:Expr}{es:List Expr}{ta:TE}{t:TA}
structure Mk(K:PySem.W.Frag)(C f:Addr):Prop where
 makes:PySem.W.makesIn K C=true
 init:PySem.W.findIn K (.ref C) "__init__" =some (some (.ref f))
 fn:PySem.W.isFn K (.ref f)=true
 kp:PySem.W.keepIn K (.ref C)=true
end
section
variable{X:Cx}{CX:lB}{k:Nat}{f C:Addr}{fd:FuncData}{ps ks:List Str}{sp:Sp}{E:XK}{x m:Str}{p pos apos kpos:Pos}{e o:Expr}{es:List Expr}{kws:List Keyword}{te ta:TE}{t tk:TA}{nm:Option Str}
variable{g:List Value->List Value->List Value}{gV:List V->List V->List V}
end
structure Č(N P:List Str)(sc:Scope):Prop where
 kind:sc.kind=.function
 co:sc.isCoroutine=false
 gen:sc.isGenerator=false
 nd:N.Nodup
 pre:N.take P.length=P
 par:∀x∈P,sc.names.lookup x=some .local\/sc.names.lookup x=some .cell
 Zab:∀y∈sc.names,y.2≠ .free
theorem sW{kindOf:Str->Option NameKind}{x:Str}:∀{binds:List (Str×Value)} {m:Str->Option Value},(∀v,(x,v)∉binds)->bindL kindOf binds m x=m x
 | [],_,_=>rfl
 |(n,v)::r,m,h=>by
  unfold bindL
  rw[sW λw hw=>h w (List.mem_cons_of_mem _ hw)]
  split
  ·have:x≠n:=by rintro rfl;exact h v List.mem_cons_self
   simp[this]
  ·rfl
theorem sX{kindOf:Str->Option NameKind}{x:Str}:∀{binds:List (Str×Value)} {m:Str->Option Value},(∀v,(x,v)∉binds)->bindC kindOf binds m x=m x
 | [],_,_=>rfl
 |(n,v)::r,m,h=>by
  unfold bindC
  rw[sX λw hw=>h w (List.mem_cons_of_mem _ hw)]
  split
  ·rfl
  ·have:x≠n:=by rintro rfl;exact h v List.mem_cons_self
   simp[this]
theorem sY{kindOf:Str->Option NameKind}{x:Str}{v:Value}:∀{P:List Str} {vs:List Value} {i:Nat} {m:Str->Option Value},P.Nodup->P[i]?=some x->vs[i]?=some v->kindOf x=some .local->
 bindL kindOf (P.zip vs) m x=some v
 | [],_,_,_,_,h,_,_=>by simp at h
 |_::_,[],_,_,_,_,h,_=>by simp at h
 |p::P,w::vs,0,m,nd,h1,h2,hk=>by
  simp at h1 h2;subst h1;subst h2
  show bindL kindOf ((p,w)::P.zip vs) m p=_
  unfold bindL
  rw[sW λv hv=>(List.nodup_cons.mp nd).1 (List.of_mem_zip hv).1,if_pos hk]
  simp
 |p::P,w::vs,i+1,m,nd,h1,h2,hk=>by
  show bindL kindOf ((p,w)::P.zip vs) m x=_
  unfold bindL
  exact sY (i:=i) (List.nodup_cons.mp nd).2 (by simpa using h1) (by simpa using h2) hk
theorem sZ{kindOf:Str->Option NameKind}{x:Str}{v:Value}:∀{P:List Str} {vs:List Value} {i:Nat} {m:Str->Option Value},P.Nodup->P[i]?=some x->vs[i]?=some v->kindOf x≠some .local->
 bindC kindOf (P.zip vs) m x=some v
 | [],_,_,_,_,h,_,_=>by simp at h
 |_::_,[],_,_,_,_,h,_=>by simp at h
 |p::P,w::vs,0,m,nd,h1,h2,hk=>by
  simp at h1 h2;subst h1;subst h2
  show bindC kindOf ((p,w)::P.zip vs) m p=_
  unfold bindC
  rw[sX λv hv=>(List.nodup_cons.mp nd).1 (List.of_mem_zip hv).1,if_neg hk]
  simp
 |p::P,w::vs,i+1,m,nd,h1,h2,hk=>by
  show bindC kindOf ((p,w)::P.zip vs) m x=_
  unfold bindC
  exact sZ (i:=i) (List.nodup_cons.mp nd).2 (by simpa using h1) (by simpa using h2) hk
def start(N:List Str)(vs:List V):St:=vs.map some++List.replicate (N.length-vs.length) none
def o_(CX:lB)(P:Program)(w:World)(K:PySem.W.Frag)(mg:Str->Option Value)(base:Heap)(N:List Str)(qual:Str)(scope:Scope)(f:Addr)(cd:Value)(A:Around)(outer:List Env)(s:Shared)(H:Hp)(E:XK):Cx where
 prog:=P
 w:=w
 K:=K
 mg:=mg
 base:=base
 A:=A.deeper (envOfC qual scope s.heap.objs.size f cd)
 N:=N
 s₀:= s
 H₀:= H
 env:=envOfC qual scope s.heap.objs.size f cd
 outer:=outer
 stack:=envOfC qual scope s.heap.objs.size f cd::outer
 ex:=[]
 calm:=true
 fn:=λ_=>true
 pn:=[]
 xe:=λe s'=>wpAny (model P w) (A.deeper (envOfC qual scope s.heap.objs.size f cd)) (leaving (envOfC qual scope s.heap.objs.size f cd) e) (λ_ s''=>CX outer H s E e s'') (λe' s''=>CX outer H s E e' s'') s'
def jB{sc:Scope}{n:Nat}{x:Str}(h:sc.names.lookup x=some .cell):∃c,(cellsFrom n sc.names []).lookup x=some c:=by
 have q:=PySem.W.cellsFrom_some sc.names n [] (.inl h)
 exact Option.isSome_iff_exists.mp q
def FJ{CX:lB}{P:Program}{w:World}{K:PySem.W.Frag}{mg:Str->Option Value}{base:Heap}{N ps:List Str}{qual:Str}{scope:Scope}{f:Addr}{cd:Value}{A:Around}{outer:List Env}{s s1:Shared}{H:Hp}{E:XK}{us:List Value}{vs:List V}
 (S:Č N ps scope)(hd:A.handled=none)(e0:zW P w K mg base A outer s H)(hl:vs.length=ps.length)(r:Vals vs us)
 (x:InCallC s s.heap.objs.size (bindL (envOfC qual scope s.heap.objs.size f cd).kindOf (ps.zip us) λ_=>none) (cellsFrom (s.heap.objs.size+1) scope.names []) (bindC (envOfC qual scope s.heap.objs.size f cd).kindOf (ps.zip us) λ_=>none) s1) :
 Inv (o_ CX P w K mg base N qual scope f cd A outer s H E) [] (start N vs) H s1:=by
 have hpl:ps.length<=N.length:=by have:=congrArg List.length S.pre;rw[List.length_take] at this;omega
 obtain⟨h1,tk,rfl,hk⟩:=x.done
 have noA:∀b:Addr,b∉(o_ CX P w K mg base N qual scope f cd A outer s H E).ex:=λb z=>absurd (show b∈([]:List Addr) from z) (by simp)
 refine⟨⟨e0.mod,S.kind,rfl,rfl,Nat.le_refl _,λy z c h1 h2=>?_,λy hy=>?_,λy c _ h=>?_,λ_=>hd,Around.frames_deeper e0.frames,.inr ⟨rfl,rfl⟩,λb z=>absurd z (noA b),e0.bs,e0.Ng,λb _ _=>noA b,λb z=>absurd z (noA b),e0.nF,e0.Yj,e0.tb⟩,
  rfl,e0.bare,Un.kept hk,⟨_,x.toInCall.ns,λi y v h1 h2 h3=>?_⟩,λy c h=>⟨_,x.cell y c h⟩,e0.hok.fresh (Nat.le_refl _),λy c h=>?_,λp hp=>absurd (show p∈([]:List (Addr×Obj)) from hp) (by simp),e0.hok.kept hk,?_⟩
 ·exact name_of_addr x.apart (PySem.mem_of_lookup h1) (PySem.mem_of_lookup h2)
 ·have hy:scope.names.lookup y=some .cell\/scope.names.lookup y=some .free:=hy
  rcases hy with hy|hy
  ·exact jB hy
  ·exact absurd rfl (S.Zab _ (PySem.mem_of_lookup hy))
 ·exact Nat.le_of_lt (x.above y c (PySem.mem_of_lookup h))
 ·have hi:i<vs.length:=by
   unfold start at h2
   by_cases hi:i<vs.length
   ·exact hi
   ·rw[List.getElem?_append_right (by simpa using hi)] at h2
    rw[List.getElem?_replicate] at h2
    split at h2<;>cases h2
  have ha:vs[i]?=some v:=by
   unfold start at h2
   rw[List.getElem?_append_left (by simpa using hi),List.getElem?_map] at h2
   cases e:vs[i]? with
   |none=>rw[e] at h2;cases h2
   |some a=>rw[e] at h2;cases h2;rfl
  obtain⟨u,hu,rv⟩:=r.get ha
  have hp:ps[i]?=some y:=by
   rw[<-S.pre,List.getElem?_take_of_lt (by omega)];exact h1
  have ndP:ps.Nodup:=by rw[<-S.pre];exact S.nd.sublist (List.take_sublist _ _)
  refine⟨u,rv,?_⟩
  rcases S.par y (List.mem_of_getElem? hp) with k|k
  ·exact .inl ⟨k,sY ndP hp hu k⟩
  ·obtain⟨c,e⟩:=jB (n:=s.heap.objs.size+1) k
   refine .inr ⟨.inl k,c,e,?_⟩
   have q:=x.cell y c e
   rw[sZ ndP hp hu (by show scope.names.lookup y≠_;rw[k];decide)] at q
   exact q
 ·exact e0.hok.fresh (Nat.le_of_lt (x.above y c (PySem.mem_of_lookup h)))
 ·unfold start
  show _=N.length
  rw[List.length_append,List.length_map,List.length_replicate]
  omega
def CP{CX:lB}{P:Program}{w:World}{K:PySem.W.Frag}{mg:Str->Option Value}{base:Heap}{k:Nat}{f:Addr}{name qual:Str}{params:Arguments}{body:List Stmt}{scope:Scope}{dV kV doc pm cdv ct oc:Value}{an od:Option Addr}
 {osl:Array (Option Value)}{N ps:List Str}{sp:Sp}(lk:K.lookup f=some ⟨oc,od,.func (PySem.W.fnOf name qual params body scope dV kV doc pm an cdv ct),osl⟩)(hcd:PySem.W.codeIn K cdv qual=true)(S:Č N ps scope)
 (len:∀vs H Q E,sp vs H Q E->vs.length=ps.length)
 (hbody:∀(A:Around) (outer:List Env) (s:Shared) (H:Hp) (vs:List V) (Q:VK) (E:XK),Ś k (A.deeper (envOfC qual scope s.heap.objs.size f cdv))→sp vs H Q E→
   ∃t,iD (o_ CX P w K mg base N qual scope f cdv A outer s H E) body t/\t {nx:=λ_ H'=>Q .non H',rt:=Q} (start N vs) H) :
 Ġ P w K mg base CX (k+1) f (PySem.W.fnOf name qual params body scope dV kV doc pm an cdv ct) ps sp:=by
 refine⟨len,λA outer s H args us vs Q E hr e0 hb r hsp=>?_⟩
 have hl:=len _ _ _ _ hsp
 have KX:K.In s.heap:=e0.mod.kin.keeps λb o e=>(e0.bs b o e).1
 have lim:s.heap.NoLimit:=e0.mod.nolimit.keeps λb o e=>(e0.bs b o e).1
 have hkind:∀y∈ps.zip us,scope.names.lookup y.1=some .local\/(scope.names.lookup y.1=some .cell/\((cellsFrom (s.heap.objs.size+1) scope.names []).lookup y.1).isSome=true):=λ⟨n,v⟩ hy=>by
  rcases S.par n (List.of_mem_zip hy).1 with q|q
  ·exact .inl q
  ·exact .inr ⟨q,PySem.W.cellsFrom_some _ _ _ (.inl q)⟩
 refine codeAny_call_function hr.depth (KX _ _ lk) rfl S.co S.gen rfl (PySem.W.codeRec_of KX hcd) (hb _ _ _ _ ?_)
 refine wpAny_newFunctionEnv_cells S.kind hkind λenv he s1 x=>?_
 subst he
 refine⟨lim.keeps x.toInCall.keep,codeAny_func ?_⟩
 obtain⟨t,ht,hq⟩:=hbody A outer s H vs Q E (hr.deeper _) hsp
 have I:Inv (o_ CX P w K mg base N qual scope f cdv A outer s H E) [] (start N vs) H s1:=FJ S hr.hd e0 hl r x
 refine wpAny_mono (ht [] s1 (start N vs) H _ I hq) (λfl s' hs=>?_) λe s' hs=>hs
 have fin:∀{σ':St} {H':Hp} {v:V} {u:Value},Inv (o_ CX P w K mg base N qual scope f cdv A outer s H E) [] σ' H' s'->RelV v u->Q v H'->CE outer P w H s Q u s':=
  fun{σ' H' v u} J rv q=>⟨v,H',J.os,J.bare,J.base,J.hok,rv,q⟩
 cases fl with
 |ret u=>
  obtain⟨v,σ',H',J,rv,q⟩:=hs
  exact fin J rv q
 |next=>
  obtain⟨σ',H',J,q⟩:=hs
  exact fin (v:=V.non) (u:=Value.none) J rfl q
 |brk=>
  obtain⟨_,_,_,q⟩:=hs
  exact False.elim q
 |cont=>
  obtain⟨_,_,_,q⟩:=hs
  exact False.elim q
end L2
namespace L2
open PySem PySem.Spec PyProof.Rows
section
variable{X:Cx}{x:Str}{p pos:Pos}{e:Expr}{es:List Expr}{t:TA}{id T:String}{r:List V->Hp->VK->Prop}
def tCB(r:List V->Hp->VK->Prop)(t:TA):TE:=λσ H Q=>t σ H λvs H1=>r vs H1 Q
def Hv(hc:ř X (.builtin id) r)(hg:Gl X x)(hm:X.mg x=none)(hv:bootBuiltins x=some (.builtin id))(ha:PA X (e::es) t)(hn:x≠ "__name__" := by decide)(hdb:(x== ("__debug__" :Str))=false:=by decide)
 (he:starEach (e::es) X.env=(false,eval e X.env)::starEach es X.env:=by rfl)(hpl:(backTo pos (starEach es X.env)).any (·.1)=false:=by rfl):PE X (.Call (.Name x p) (e::es) [] pos) (tCB r t):=by
 intro pins s σ H Q I h
 refine wpAny_Call_Name_kw (gb I hg hm hv ?_ hn hdb)
 exact PyProof.Rows.callWith_builtin1 (ŕ (ha pos pins s σ H _ I h) λus s1 ⟨vs,H1,I1,r1,q1⟩=>hc pins s1 σ H1 vs us Q I1 r1 q1) he hpl
def tD(hc:ř X (.type T) r)(hg:Gl X x)(hm:X.mg x=none)(hv:bootBuiltins x=some (.type T))(ha:PA X (e::es) t)(hn:x≠ "__name__" := by decide)(hdb:(x== ("__debug__" :Str))=false:=by decide)
 (he:starEach (e::es) X.env=(false,eval e X.env)::starEach es X.env:=by rfl)(hpl:(backTo pos (starEach es X.env)).any (·.1)=false:=by rfl):PE X (.Call (.Name x p) (e::es) [] pos) (tCB r t):=by
 intro pins s σ H Q I h
 refine wpAny_Call_Name_kw (gb I hg hm hv ?_ hn hdb)
 exact PyProof.Rows.callWith_type1 (ŕ (ha pos pins s σ H _ I h) λus s1 ⟨vs,H1,I1,r1,q1⟩=>hc pins s1 σ H1 vs us Q I1 r1 q1) he hpl
end
end L2
namespace HT
open PySem PyProof.Rows
def lexLt:List Int->List Int->Bool
 | [],[]=>false
 | [],_::_=>true
 |_::_,[]=>false
 |x::xs,y::ys=>if x=y then lexLt xs ys else decide (x<y)
def zX(x y:Int)(xs ys:List Int):lexLt (x::xs) (y::ys)=if x=y then lexLt xs ys else decide (x<y):=rfl
def rP:lexLt [] []=false:=rfl
def pq(y:Int)(ys:List Int):lexLt [] (y::ys)=true:=rfl
def pA(x:Int)(xs:List Int):lexLt (x::xs) []=false:=rfl
def Hw(A:Around)(s:Shared)(a:Int)(t:Tok)(c:Int)(u:Tok):∃e,SeqAt.EqAt A s (.int a t) (.int c u) e/\(e=true↔a=c):=
 ⟨(a== c),SeqAt.EqAt.int_int a t c u,by simp⟩
def Hx(A:Around)(s:Shared)(a:Int)(t:Tok)(c:Int)(u:Tok)(prog:Program)(w:World)(E:Value->Shared->Prop)(Q:Value->Shared->Prop)(h:Q (.bool (decide (a<c))) s) :
 wpAny (model prog w) A (richCompare .Lt (.int a t) (.int c u)) Q E s:=
 (PyProof.Rows.lt_int h:wpAny (model prog w) A (compareOp .Lt (.int a t) (.int c u)) Q E s)
section
open PySem.SeqAt
open PySem.AutoSeq1 (wpAny_loadPart')
open PySem.MeetsSeq PySem.MeetsSeq2 PySem.MeetsSeq3
def rQ(l b:Addr)(items items2:Array Value)(n n2:Nat)(dd dd2:Option Addr)(sl sl2:Array (Option Value))(ns ms:List Int)(hi:IntsAre items.toList ns)(hj:IntsAre items2.toList ms) :
 Meets (Builtin.«tuple.__lt__» ⟨[.ref l,.ref b],[]⟩)
  (fun _ R s=>s.heap.get? l=some {cls:=.type "tuple",dict:=dd,data:=.seq items n,slots:=sl}∧s.heap.get? b=some {cls:=.type "tuple",dict:=dd2,data:=.seq items2 n2,slots:=sl2}∧
    R (.ok (.ret (.bool (lexLt ns ms)))) s):=
 .of_wp fun prog w A R s h=>by
   obtain⟨hp,g,d,tk,os⟩:=s;obtain⟨hl,hb,h⟩:=h
   have f2:=AutoSeq1.sub_tuple_tuple
   have z1:items.size=ns.length:=by rw[<-hi.length];simp
   have z2:items2.size=ms.length:=by rw[<-hj.length];simp
   wp_walk using wpAny_loadPart' hl,wpAny_loadPart' hb,wpAny_forIn_list _ (λrest b s'=>b.1=none/\s'=⟨hp,g,d,tk,os⟩/\∃(vs ws:List Value) (ns' ms':List Int),rest=vs.zip ws/\
    IntsAre vs ns'/\IntsAre ws ms'/\ns'.length+items2.size=ms'.length+items.size/\R (.ok (.ret (.bool (lexLt ns' ms')))) ⟨hp,g,d,tk,os⟩) _
   case turn=>
    rintro ⟨y,x⟩ rest b s' ⟨hb',rfl,vs,ws,ns',ms',hz,hvi,hwi,hlen,hR⟩
    cases hvi with
    |nil=>rw[List.zip_nil_left] at hz;cases hz
    |cons a t Ze8=>
     cases hwi with
     |nil=>rw[List.zip_nil_right] at hz;cases hz
     |cons c u Ze9=>
      rw[List.zip_cons_cons] at hz
      injection hz with hyx hrest
      injection hyx with hy hx
      subst hy hx
      rw[zX] at hR
      simp only[List.length_cons] at hlen
      obtain⟨e,he,hiff⟩:=Hw A.in1 ⟨hp,g,d,tk,os⟩ a t c u
      refine wpAny_bind (he prog w _ _ ?_)
      cases e with
      |true=>
       rw[if_pos (hiff.mp rfl)] at hR
       wp_walk
       exact⟨rfl,rfl,_,_,_,_,hrest,Ze8,Ze9,by omega,hR⟩
      |false=>
       rw[if_neg (λq=>absurd (hiff.mpr q) Bool.false_ne_true)] at hR
       have hri:=Hx A.in1 ⟨hp,g,d,tk,os⟩ a t c u prog w
       wp_walk using hri
       exact⟨_,rfl,by simpa using hR⟩
   case fin=>
    rintro ⟨b1,b2⟩ s' ⟨hb',rfl,vs,ws,ns',ms',hz,hvi,hwi,hlen,hR⟩
    simp only at hb'
    subst hb'
    have hv:lexLt ns' ms'=decide (items.size<items2.size):=by
     cases hvi with
     |nil=>
      cases hwi with
      |nil=>
       simp only[List.length_nil] at hlen
       rw[rP]
       exact(decide_eq_false (by omega)).symm
      |cons c u hw=>
       simp only[List.length_nil,List.length_cons] at hlen
       rw[pq]
       exact(decide_eq_true (by omega)).symm
     |cons a t hv=>
      cases hwi with
      |nil=>
       simp only[List.length_nil,List.length_cons] at hlen
       rw[pA]
       exact(decide_eq_false (by omega)).symm
      |cons c u hw=>
       rw[List.zip_cons_cons] at hz
       cases hz
    rw[hv] at hR
    wp_walk
    exact⟨_,rfl,by simpa[Builtin.Tuple.tupleCompareSizes] using hR⟩
   case h=>
    exact⟨rfl,rfl,items.toList,items2.toList,ns,ms,rfl,hi,hj,by omega,h⟩
end
section
variable{prog:Program}{w:World}{A:Around}{E:Value->Shared->Prop}{s:Shared}
def zY{l b:Addr}{items items2:Array Value}{ns ms:List Int}{Q:Value->Shared->Prop}(hl:IsTup s.heap l items)(hb:IsTup s.heap b items2)(hi:IntsAre items.toList ns)(hj:IntsAre items2.toList ms)
 (hu:A.units<cLine)(h:Q (.bool (lexLt ns ms)) s):wpAny (model prog w) A (compareOp .Lt (.ref l) (.ref b)) Q E s:=by
 obtain⟨⟨cls,dd,data,sl⟩,ho,hc,n,hd⟩:=id hl
 obtain⟨⟨cls2,dd2,data2,sl2⟩,ho2,hc2,n2,hd2⟩:=id hb
 simp only at hc hd hc2 hd2
 subst hc hd hc2 hd2
 exact richCompare_meets_room (op:=.Lt) ⟨_,ho,rfl⟩ ⟨_,ho2,rfl⟩ PySem.F.slot_tuple_lt PySem.F.entry_tuple_lt (PySem.F.args_tuple_lt_2 _ _) (rQ l b items items2 n n2 dd dd2 sl sl2 ns ms hi hj)
  ⟨ho,ho2,show Value.bool (lexLt ns ms)≠Value.notImplemented/\Q (.bool (lexLt ns ms)) s from⟨(λx=>nomatch x),h⟩⟩ hu
def Ż(n d:Nat):Option Int->Nat
 |none=>d
 |some v=>if v<0 then(v+(n:Int)).toNat else min v.toNat n
def zZ(n d:Nat)(hd:d<=n)(o:Option Int):Ż n d o<=n:=by
 cases o with
 |none=>exact hd
 |some v=>
  show(if v<0 then(v+(n:Int)).toNat else min v.toNat n)<=n
  by_cases hv:v<0
  ·rw[if_pos hv];omega
  ·rw[if_neg hv];exact Nat.min_le_right _ _
def CQ(v:Int)(n d:Nat):(if v<0 then max (v+(n:Int)) 0 else min v (n:Int))=((Ż n d (some v):Nat):Int):=by
 show(if v<0 then max (v+(n:Int)) 0 else min v (n:Int))=(((if v<0 then(v+(n:Int)).toNat else min v.toNat n):Nat):Int)
 by_cases hv:v<0
 ·simp only[if_pos hv];omega
 ·simp only[if_neg hv];omega
def z_(lo hi:Option Int)(n:Nat):Builtin.Slice.sliceAdjust lo hi 1 (n:Int)=(((Ż n 0 lo:Nat):Int),((Ż n n hi:Nat):Int)):=by
 have h1:¬((1:Int)<0):=by omega
 unfold Builtin.Slice.sliceAdjust
 simp only[h1,if_false]
 refine Prod.ext ?_ ?_
 ·cases lo with
  |none=>rfl
  |some v=>exact CQ v n 0
 ·cases hi with
  |none=>rfl
  |some v=>exact CQ v n n
def Aa(i j:Nat):Builtin.Slice.slicePlaces (i:Int) (j:Int) 1=j-i:=by
 unfold Builtin.Slice.slicePlaces
 have h1:(1:Int)>0:=by omega
 simp only[h1,if_true,Int.ediv_one]
 split<;>omega
def pB{v:Value}{o:Option Int}{Q:Option Int->Shared->Prop}(p:IsPart v o)(h:Q o s):wpAny (model prog w) A (Builtin.Slice.slicePartIndex v) Q E s:=by
 cases p with
 |none=>exact slicePart_none h
 |int i t=>exact slicePart_int h
def lC{sl:Addr}{vl vu:Value}{lo hi:Option Int}{n:Nat}{Q:Int×Int×Nat->Shared->Prop}(hs:s.heap.IsSliceOf sl vl vu .none)(pl:IsPart vl lo)(pu:IsPart vu hi)
 (h:Q (((Ż n 0 lo:Nat):Int),1,Ż n n hi-Ż n 0 lo) s):wpAny (model prog w) A (Builtin.Slice.sliceApplied (.ref sl) (pure (n:Int))) Q E s:=by
 obtain⟨os,hos,hcs,hds⟩:=id hs
 unfold Builtin.Slice.sliceApplied Builtin.Slice.sliceFields
 refine wpAny_bind (wpAny_bind (wpAny_field hos hds (x:=vl) rfl (wpAny_bind (wpAny_field hos hds (x:=vu) rfl (wpAny_bind (wpAny_field hos hds (x:=.none) rfl (wpAny_pure ?_)))))))
 refine wpAny_bind (slicePart_none ?_)
 show wpAny _ _ (if((1:Int)== 0)=true then _ else _) _ _ s
 rw[if_neg (by decide)]
 refine wpAny_bind (pB pl (wpAny_bind (pB pu (wpAny_bind (wpAny_pure ?_)))))
 show wpAny _ _ (match Builtin.Slice.sliceAdjust lo hi 1 (n:Int) with|(lo,hi)=>pure (lo,(1:Int),Builtin.Slice.slicePlaces lo hi 1)) _ _ s
 rw[z_ lo hi n]
 show wpAny _ _ (pure (((Ż n 0 lo:Nat):Int),(1:Int),Builtin.Slice.slicePlaces ((Ż n 0 lo:Nat):Int) ((Ż n n hi:Nat):Int) 1)) _ _ s
 rw[Aa]
 exact wpAny_pure h
def Hy(xs:Array Value)(i k:Nat):((List.range k).filterMap λ(m:Nat)=>xs[((i:Int)+(m:Int)*1).toNat]?).toArray=((xs.toList.drop i).take k).toArray:=by
 have e:(λ(m:Nat)=>xs[((i:Int)+(m:Int)*1).toNat]?)=λm=>xs[i+m]?:= by
  funext m
  have:((i:Int)+(m:Int)*1).toNat=i+m:=by omega
  rw[this]
 rw[e]
 have:=pick_run xs i k
 rw[List.filterMap_map] at this
 have e2:((λx=>xs[x]?) ∘ λx=>i+x)=λm=>xs[i+m]?:= rfl
 rw[e2] at this
 rw[this]
def jC{t sl:Addr}{items:Array Value}{vl vu:Value}{lo hi:Option Int}{Q:Value->Shared->Prop}(ht:IsTup s.heap t items)(hs:s.heap.IsSliceOf sl vl vu .none)(pl:IsPart vl lo)(pu:IsPart vu hi)
 (hw:¬(Ż items.size 0 lo=0/\Ż items.size items.size hi=items.size))
 (h:Q (.ref s.heap.objs.size) {s with heap:=s.heap.push {cls:=.type "tuple",data:=.seq ((items.toList.drop (Ż items.size 0 lo)).take (Ż items.size items.size hi-Ż items.size 0 lo)).toArray}})
 (hsz:items.size<=sizeLine):wpAny (model prog w) A (getItem (.ref t) (.ref sl)) Q E s:=by
 have CT:sizeOk (.seq ((items.toList.drop (Ż items.size 0 lo)).take (Ż items.size items.size hi-Ż items.size 0 lo)).toArray):=by
  show((items.toList.drop (Ż items.size 0 lo)).take (Ż items.size items.size hi-Ż items.size 0 lo)).toArray.size<=sizeLine
  rw[List.size_toArray,List.length_take,List.length_drop,Array.length_toList]
  omega
 have hj:Ż items.size items.size hi<=items.size:=zZ _ _ (Nat.le_refl _) hi
 obtain⟨os,hos,hcs,hds⟩:=id hs
 have hTs:s.TypeIs (.ref sl) "slice" := ⟨os,hos,hcs⟩
 unfold getItem
 try with_reducible refine wpAny_holding ?_
 first|refine wpAny_bind (wpAny_pure ?_)|skip
 refine wpAny_bind (wpAny_sequenceKey ht.typeIs (by decide) ?_)
 refine wpAny_bind (wpAny_callSpecial?_slot (name:=Str.ofString "__getitem__") ht.typeIs PyProof.Rows.slot_tuple_getitem
  (wpAny_call_entry PyProof.Rows.slot_tuple_getitem ht.typeIs entry_tuple_getitem ?_ (args_tuple_getitem _ _)))
 show wpAny _ _ (Builtin.Tuple.tupleItemsOf (.ref t) >>= _) _ _ s
 refine wpAny_bind (tupleItemsOf_ ht ?_)
 refine wpAny_bind (wpAny_typeOf hTs ?_)
 rw[if_pos (by decide)]
 refine wpAny_bind (lC hs pl pu ?_)
 have hno:¬((((Ż items.size 0 lo:Nat):Int)== 0 && (1:Int)== 1 && (Ż items.size items.size hi-Ż items.size 0 lo)== items.size)=true):=by
  intro q
  rw[Bool.and_eq_true,Bool.and_eq_true] at q
  have q1:((Ż items.size 0 lo:Nat):Int)=0:=eq_of_beq q.1.1
  have q2:Ż items.size items.size hi-Ż items.size 0 lo=items.size:=eq_of_beq q.2
  exact hw ⟨by omega,by omega⟩
 show wpAny _ _ (if(((Ż items.size 0 lo:Nat):Int)== 0 && (1:Int)== 1 && (Ż items.size items.size hi-Ż items.size 0 lo)== items.size)=true then _ else _) _ _ s
 rw[if_neg hno,Hy]
 first
  |exact wpAny_bind (m:=Builtin.Tuple.tupleExact _) (wpAny_newObj_type (wpAny_pure ⟨_,rfl,wpAny_pure h⟩) CT)
  |exact wpAny_bind (m:=Builtin.Tuple.tupleExact _) (wpAny_newObj_type (wpAny_bind (wpAny_pure (wpAny_pure ⟨_,rfl,wpAny_pure h⟩))) CT)
  |exact wpAny_bind (wpAny_bind (m:=Builtin.Tuple.tupleExact _) (wpAny_newObj_type (wpAny_pure (wpAny_pure ⟨_,rfl,wpAny_pure h⟩)) CT))
  |exact wpAny_bind (wpAny_bind (m:=Builtin.Tuple.tupleExact _) (wpAny_newObj_type (wpAny_pure ⟨_,rfl,wpAny_pure h⟩) CT))
end
end HT
namespace L2
open PySem PySem.Spec PyProof.Rows
abbrev TO:=St->Hp->(Option Int->Hp->Prop)->Prop
def PO(X:Cx)(e:Option Expr)(t:TO):Prop:=
 ∀(pins:List (Addr×Obj)) (s:Shared) (σ:St) (H:Hp) (Q:Option Int->Hp->Prop),Inv X pins σ H s->t σ H Q->
  wpAny (model X.prog X.w) X.A (evalPart e X.env) (λu s'=>∃o H',Inv X pins σ H' s'/\IsPart u o/\Q o H') X.xe s
def Od:TO:=λ_ H Q=>Q none H
def intsAre_of{ns:List Int}:∀{us:List Value},Vals (ns.map V.int) us->IntsAre us ns:=by
 induction ns with
 |nil=>intro us r;rw[List.map_nil] at r;cases r;exact .nil
 |cons n ns ih=>
  intro us r
  rw[List.map_cons] at r
  cases r with
  |cons r1 r2=>
   obtain⟨t,e⟩:=r1
   subst e
   exact .cons n t (ih r2)
section
variable{X:Cx}{e:Expr}{te:TE}{lo hi:Option Expr}{tl th:TO}{pos p2:Pos}
def Oe:PO X none Od:=by
 intro pins s σ H Q I h
 rw[evalPart_none]
 exact wpAny_pure ⟨none,H,I,.none,h⟩
def Ab(X:Cx)(r:V->Option Int->Option Int->Hp->VK->Prop):Prop:=
 ∀(pins:List (Addr×Obj)) (s:Shared) (σ:St) (H:Hp) (x:V) (v vl vu:Value) (lo hi:Option Int) (sl:Addr) (Q:VK),Inv X pins σ H s->RelV x v->s.heap.IsSliceOf sl vl vu .none->IsPart vl lo->IsPart vu hi->r x lo hi H Q->
  ∃T id,typeLookup (.type T) "__getitem__" =pure (some (.builtin id))/\s.TypeIs v T/\wpAny (model X.prog X.w) X.A (getItem v (.ref sl)) (EP X pins σ Q) X.xe s
def Ab.or{r r':V->Option Int->Option Int->Hp->VK->Prop}(h:Ab X r)(h':Ab X r'):Ab X (λx lo hi H Q=>r x lo hi H Q\/r' x lo hi H Q):=by
 intro pins s σ H x v vl vu lo hi sl Q I rx hs pl pu q
 rcases q with q|q
 ·exact h pins s σ H x v vl vu lo hi sl Q I rx hs pl pu q
 ·exact h' pins s σ H x v vl vu lo hi sl Q I rx hs pl pu q
def tSl(r:V->Option Int->Option Int->Hp->VK->Prop)(te:TE)(tl th:TO):TE:=λσ H Q=>te σ H λx H1=>tl σ H1 λl H2=>th σ H2 λu H3=>r x l u H3 Q
def wZ{r:V->Option Int->Option Int->Hp->VK->Prop}(hr:Ab X r)(he:PE X e te)(hl:PO X lo tl)(hu:PO X hi th):PE X (.Subscript e (.Slice lo hi none p2) pos) (tSl r te tl th):=by
 intro pins s σ H Q I h
 refine Subscript_ (ŕ (he pins s σ H _ I h) λv s1 ⟨x,H1,I1,r1,q1⟩=>?_)
 refine wpAny_Slice (ŕ (hl pins s1 σ H1 _ I1 q1) λvl s2 ⟨l,H2,I2,pl,q2⟩=>ŕ (hu pins s2 σ H2 _ I2 q2) λvu s3 ⟨u,H3,I3,pu,q3⟩=>?_)
 rw[evalPart_none]
 refine wpAny_pure ?_
 have I4:Inv X pins σ H3 {s3 with heap:=s3.heap.push {cls:=.type "slice",data:=.fields #[vl,vu,.none]}}:=I3.kept (t':=s3.toks) λb ob q=>Heap.get?_push_of_some _ q
 obtain⟨T,id,hT,ht,hg⟩:=hr pins {s3 with heap:=s3.heap.push {cls:=.type "slice",data:=.fields #[vl,vu,.none]}} σ H3 x v vl vu l u s3.heap.objs.size Q I4 r1 (Heap.IsSliceOf.new ..) pl pu q3
 show wpAny (model X.prog X.w) X.A (subscriptTail e (.Slice lo hi none p2) v (.ref s3.heap.objs.size)) (EP X pins σ Q) X.xe {s3 with heap:=s3.heap.push {cls:=.type "slice",data:=.fields #[vl,vu,.none]}}
 exact tail_any (ops:=[.ref s3.heap.objs.size,v]) ht hT hg (by with_unfolding_all rfl)
def ji(xs:List V)(lo hi:Option Int):List V:=(xs.drop (HT.Ż xs.length 0 lo)).take (HT.Ż xs.length xs.length hi-HT.Ż xs.length 0 lo)
def mL(xs:List V)(lo hi:Option Int):(ji xs lo hi).length<=xs.length:=by
 unfold ji
 rw[List.length_take,List.length_drop]
 omega
def Ze_(K:PySem.W.Frag):V->Option Int->Option Int->Hp->VK->Prop:=λx lo hi H Q=>∃a xs,x=.ref a/\bO K H a xs/\
 ¬(HT.Ż xs.length 0 lo=0/\HT.Ż xs.length xs.length hi=xs.length)/\∀p,H p=none->Q (.ref p) (upd H p (.tup (ji xs lo hi)))
def Zac:Ab X (Ze_ X.K):=by
 intro pins s σ H x v vl vu lo hi sl Q I rx hs pl pu h
 obtain⟨a,xs,rfl,hx,hw,q⟩:=h
 cases rx
 obtain⟨its,r,ht,hz⟩:=I.tuple hx
 have hlen:its.toArray.size=xs.length:=by rw[List.size_toArray];exact r.length.symm
 refine⟨"tuple",_,PyProof.Rows.slot_tuple_getitem.lookup,ht.typeIs,?_⟩
 refine HT.jC ht hs pl pu (by rw[hlen];exact hw) ?_ (by rw[hlen];exact hz)
 rw[hlen]
 refine⟨.ref s.heap.objs.size,_,I.laid (t':=s.toks) (o:=.tup (ji xs lo hi)) (λb ob q=>Heap.get?_push_of_some _ q) (Nat.le_refl _) ?_,rfl,q _ (I.hok.fresh (Nat.le_refl _))⟩
 exact⟨Nat.le_trans (mL xs lo hi) hz,_,(r.drop (HT.Ż xs.length 0 lo)).take (HT.Ż xs.length xs.length hi-HT.Ż xs.length 0 lo),IsTup.new _ _⟩
def Zad(K:PySem.W.Frag):R2:=λx y H Q=>∃a b ns ms,x=.ref a/\y=.ref b/\bO K H a (ns.map V.int)/\bO K H b (ms.map V.int)/\Q (.bl (HT.lexLt ns ms)) H
def Zae(hu:X.A.units<cLine):ŭ X (compareOp .Lt) (Zad X.K):=by
 intro pins s σ H x y v u Q I rx ry h
 obtain⟨a,b,ns,ms,rfl,rfl,ha,hb,q⟩:=h
 cases rx
 cases ry
 obtain⟨its,r1,p1,_⟩:=I.tuple ha
 obtain⟨its2,r2,p2,_⟩:=I.tuple hb
 have i1:IntsAre its.toArray.toList ns:=intsAre_of r1
 have i2:IntsAre its2.toArray.toList ms:=intsAre_of r2
 exact HT.zY p1 p2 i1 i2 hu ⟨.bl (HT.lexLt ns ms),H,I,rfl,q⟩
end
end L2
namespace L2
open PySem PySem.Spec PyProof.Rows
def Ac(n:Nat)(i:Int):Option Nat:=if 0<=i then(if i<n then some i.toNat else none) else if -(n:Int)<=i then some (i+n).toNat else none
def rT{α:Type}(xs:List α)(i:Int):Option α:= (Ac xs.length i).bind λj=>xs[j]?
def CW{n:Nat}{i:Int}{j:Nat}(h:Ac n i=some j):seqIndex? i n=some j/\j<n/\ -(n:Int)<=i/\i<n:=by
 unfold Ac at h
 by_cases h0:0<=i
 ·rw[if_pos h0] at h
  by_cases h1:i<n
  ·rw[if_pos h1] at h
   have e:i.toNat=j:=Option.some.inj h
   exact⟨by rw[seqIndex_of h0 h1,e],by omega,by omega,h1⟩
  ·rw[if_neg h1] at h;cases h
 ·rw[if_neg h0] at h
  by_cases h1: -(n:Int)<=i
  ·rw[if_pos h1] at h
   have e:(i+n).toNat=j:=Option.some.inj h
   exact⟨by rw[seqIndex_neg (by omega) h1,e],by omega,h1,by omega⟩
  ·rw[if_neg h1] at h;cases h
def uN{α:Type}{xs:List α}{i:Int}{v:α}(h:rT xs i=some v):∃j,seqIndex? i xs.length=some j/\xs[j]?=some v/\j<xs.length/\ -(xs.length:Int)<=i/\i<xs.length:=by
 unfold rT at h
 cases e:Ac xs.length i with
 |none=>rw[e] at h;cases h
 |some j=>
  rw[e] at h
  obtain⟨h1,h2,h3,h4⟩:=CW e
  exact⟨j,h1,h,h2,h3,h4⟩
def oH(b:Expr):Prop:=∀o i,subscripted b false o i=operate [o,i] (getItem o i)
def Ad(X:Cx)(r:R2):Prop:=
 ∀(value slice:Expr) (pins:List (Addr×Obj)) (s:Shared) (σ:St) (H:Hp) (x y:V) (v u:Value) (Q:VK),Inv X pins σ H s->RelV x v->RelV y u->r x y H Q->
  subscripted slice false v u=operate [v,u] (getItem v u)->wpAny (model X.prog X.w) X.A (subscriptTail value slice v u) (EP X pins σ Q) X.xe s
def MtR(X:Cx)(id:String)(r:V->List V->Hp->VK->Prop):Prop:=
 ∀(pins:List (Addr×Obj)) (s:Shared) (σ:St) (H:Hp) (x:V) (xs:List V) (v:Value) (us:List Value) (Q:VK),Inv X pins σ H s->RelV x v->Vals xs us->r x xs H Q->
  wpAny (model X.prog X.w) X.A (call (.builtin id) (v::us)) (EP X pins σ Q) X.xe s
section
variable{X:Cx}{a b:Expr}{ta tb:TE}{pos:Pos}
def Ad.or{r r':R2}(h:Ad X r)(h':Ad X r'):Ad X (λx y H Q=>r x y H Q\/r' x y H Q):=by
 intro value slice pins s σ H x y v u Q I rx ry q hs
 rcases q with q|q
 ·exact h value slice pins s σ H x y v u Q I rx ry q hs
 ·exact h' value slice pins s σ H x y v u Q I rx ry q hs
def ZcC{r:R2}(hr:Ad X r)(ha:PE X a ta)(hb:PE X b tb)(hs:oH b):PE X (.Subscript a b pos) (tOp r ta tb):=by
 intro pins s σ H Q I h
 exact Subscript_ (YF ha hb I h λv u s2 x y H2 I2 rx ry q=>hr a b pins s2 σ H2 x y v u Q I2 rx ry q (hs _ _))
def ZcD(K:PySem.W.Frag):R2:=λx y H Q=>∃p xs i v,x=.ref p/\y=.int i/\ū K H p xs/\rT xs i=some v/\Q v H
def ZcE(K:PySem.W.Frag):R2:=λx y H Q=>∃p xs i v,x=.ref p/\y=.int i/\bO K H p xs/\rT xs i=some v/\Q v H
def ZcF:R2:=λx y H Q=>∃z i c,x=.str z/\y=.int i/\z.length<=sizeLine/\rT z.cps.toList i=some c/\Q (.str ⟨#[c]⟩) H
def Og:Ad X (ZcD X.K):=by
 intro value slice pins s σ H x y v u Q I rx ry h hs
 obtain⟨p,xs,i,z,rfl,rfl,hq,he,q⟩:=h
 cases rx
 obtain⟨t,rfl⟩:=ry
 obtain⟨its,r,pl,hz⟩:=I.list hq
 obtain⟨j,h1,h2,h3,h4,h5⟩:=uN he
 obtain⟨w,ew,rw'⟩:=r.get h2
 have hl:=r.length
 have hn:=lq
 have fin:EP X pins σ Q w s:=⟨z,H,I,rw',q⟩
 by_cases h0:0<=i
 ·have hj:i.toNat=j:=by
   rw[seqIndex_of h0 h5] at h1
   exact Option.some.inj h1
  exact item_listR pl.isList h0 (by omega) (by rw[hj];simpa using ew) fin hs
 ·have hj:(i+(its.toArray.size:Int)).toNat=j:=by
   rw[seqIndex_neg (by omega) h4] at h1
   rw[List.size_toArray,<-hl]
   exact Option.some.inj h1
  exact subscriptTail_builtinR (x:=w) pl.isList.typeIs slot_list_getitem.lookup
   (wpAny_getItem_list_neg (Q:=λr s'=>r=w/\EP X pins σ Q r s') pl.isList (by omega) (by rw[List.size_toArray]<;>omega) (by omega) (by rw[hj];simpa using ew) ⟨rfl,fin⟩) hs
def Zaf:Ad X (ZcE X.K):=by
 intro value slice pins s σ H x y v u Q I rx ry h hs
 obtain⟨p,xs,i,z,rfl,rfl,hq,he,q⟩:=h
 cases rx
 obtain⟨t,rfl⟩:=ry
 obtain⟨its,r,pl,hz⟩:=I.tuple hq
 obtain⟨j,h1,h2,h3,h4,h5⟩:=uN he
 obtain⟨w,ew,rw'⟩:=r.get h2
 have hl:=r.length
 have hn:=lq
 have fin:EP X pins σ Q w s:=⟨z,H,I,rw',q⟩
 exact subscriptTail_builtinR (x:=w) pl.typeIs slot_tuple_getitem.lookup
  (getItem_tuple (j:=j) (Q:=λr s'=>r=w/\EP X pins σ Q r s') pl (by omega) (by omega) (by rw[List.size_toArray,<-hl];exact h1) (by simpa using ew) ⟨rfl,fin⟩) hs
def Zag:Ad X ZcF:=by
 intro value slice pins s σ H x y v u Q I rx ry h hs
 obtain⟨z,i,c,rfl,rfl,hz,he,q⟩:=h
 obtain⟨t,rfl⟩:=rx
 obtain⟨t',rfl⟩:=ry
 obtain⟨j,h1,h2,h3,h4,h5⟩:=uN he
 have hl:z.cps.toList.length=z.length:=by simp[Str.length]
 rw[hl] at h1 h4 h5
 have hn:=lq
 exact tail_any (typeIs_str s z t) slot_str_getitem.lookup (getItem_str (c:=c) (by
  have e1:decide (i < -(2 ^ 63:Int))=false:=decide_eq_false (by omega)
  have e2:decide (i >= 2 ^ 63)=false:=decide_eq_false (by omega)
  rw[e1,e2,Bool.or_false]) (by rw[h1];simpa using h2) ⟨.str ⟨#[c]⟩,H,I.tok _,⟨_,rfl⟩,q⟩) hs
def rIx(K:PySem.W.Frag):R2:=λx y H Q=>ZcD K x y H Q\/ZcE K x y H Q\/ZcF x y H Q
def Zah:Ad X (rIx X.K):=Og.or (Zaf.or Zag)
def Ae(its:List Value)(n j:Nat)(u:Value):Obj.mapSeq (·.setIfInBounds j u) {cls:=.type "list",data:=.seq its.toArray n}= {cls:=.type "list",data:=.seq (its.set j u).toArray n}:=by
 simp[Obj.mapSeq]
theorem Inv.lst{pins:List (Addr×Obj)}{σ:St}{H:Hp}{s:Shared}{p:Addr}{xs:List V}(I:Inv X pins σ H s)(h:H p=some (.lst xs)) :
 ∃(its:List Value) (n:Nat),Vals xs its/\s.heap.get? p=some {cls:=.type "list",data:=.seq its.toArray n}/\xs.length<=sizeLine:=by
 obtain⟨z,its,n,r,e⟩:=I.hok p _ h
 exact⟨its,n,r,e,z⟩
def Inv.Zai{pins:List (Addr×Obj)}{σ:St}{H:Hp}{s:Shared}{p:Addr}{xs ys:List V}{its its':List Value}{n n':Nat}{f:Obj->Obj}(I:Inv X pins σ H s)(h:H p=some (.lst xs))
 (ho:s.heap.get? p=some {cls:=.type "list",data:=.seq its.toArray n})(hf:f {cls:=.type "list",data:=.seq its.toArray n}= {cls:=.type "list",data:=.seq its'.toArray n'})(r:Vals ys its')(hz:ys.length<=sizeLine)(t:Nat) :
 Inv X pins σ (upd H p (.lst ys)) {s with heap:=s.heap.update p f,toks:=t}:=by
 have e:(s.heap.update p f).get? p=some {cls:=.type "list",data:=.seq its'.toArray n'}:=by
  rw[Heap.get?_update_self f ho (by rw[hf]<;>rfl),hf]
 refine I.write (x:=p) (e:=p) (by rw[h];trivial) (.inl rfl) (λb u hb q=>(Heap.get?_update_other _ _ (Ne.symm hb)).trans q) ⟨_,e⟩ ?_
 exact⟨hz,its',n',r,e⟩
def ZcG:V->V->V->Hp->(Hp->Prop)->Prop:=λo i v H Q=>∃p xs k j,o=.ref p/\i=.int k/\H p=some (.lst xs)/\Ac xs.length k=some j/\Q (upd H p (.lst (xs.set j v)))
def set_list:Zcr X ZcG:=by
 intro pins s σ H o i v ov iv u Q I ro ri rv h
 obtain⟨p,xs,k,j,rfl,rfl,hp,hj,q⟩:=h
 cases ro
 obtain⟨t,rfl⟩:=ri
 obtain⟨its,n,r,ho,hz⟩:=I.lst hp
 obtain⟨h1,h2,h3,h4⟩:=CW hj
 have hl:=r.length
 have hn:=lq
 have I':Inv X pins σ (upd H p (.lst (xs.set j v))) {s with heap:=s.heap.update p (Obj.mapSeq (·.setIfInBounds j u))}:=
  I.Zai hp ho (Ae its n j u) (r.set rv j) (by rw[List.length_set];exact hz) s.toks
 by_cases h0:0<=k
 ·have hk:k.toNat=j:=by
   rw[seqIndex_of h0 h4] at h1
   exact Option.some.inj h1
  exact PySem.W.ki_setAt ho h0 (by omega) (by rw[List.size_toArray,<-hl];exact h4) (by rw[hk];exact⟨_,I',q⟩)
 ·have hk:(k+(its.toArray.size:Int)).toNat=j:=by
   rw[seqIndex_neg (by omega) h3] at h1
   rw[List.size_toArray,<-hl]
   exact Option.some.inj h1
  exact PySem.W.ki_setBack ho (by omega) (by rw[List.size_toArray,<-hl];exact h3) (by omega) (by rw[hk];exact⟨_,I',q⟩)
def uO(lo hi:Option Int)(n:Nat):(sliceBounds lo hi none n).1=((HT.Ż n 0 lo:Nat):Int)/\(sliceBounds lo hi none n).2.1=((HT.Ż n n hi:Nat):Int)/\(sliceBounds lo hi none n).2.2=1:=by
 refine⟨?_,?_,rfl⟩
 ·cases lo with
  |none=>simp[sliceBounds,HT.Ż]
  |some i=>
   simp only[sliceBounds,HT.Ż,Option.getD_none,show(1:Int)>0 by decide,if_true]
   by_cases h:i<0
   ·simp only[h,if_true]<;>omega
   ·simp only[h,if_false]<;>omega
 ·cases hi with
  |none=>simp[sliceBounds,HT.Ż]
  |some i=>
   simp only[sliceBounds,HT.Ż,Option.getD_none,show(1:Int)>0 by decide,if_true]
   by_cases h:i<0
   ·simp only[h,if_true]<;>omega
   ·simp only[h,if_false]<;>omega
def rW(its:List Value)(lo hi:Option Int):slicePick its.toArray lo hi none=((its.drop (HT.Ż its.length 0 lo)).take (HT.Ż its.length its.length hi-HT.Ż its.length 0 lo)).toArray:=by
 obtain⟨h1,h2,h3⟩:=uO lo hi its.toArray.size
 unfold slicePick
 rw[h1,h2,h3]
 simp only[sliceRange_one,pick_run,List.size_toArray]<;>rfl
def Zfa(K:PySem.W.Frag):V->Option Int->Option Int->Hp->VK->Prop:=λx lo hi H Q=>∃a xs,x=.ref a/\ū K H a xs/\∀p,H p=none->Q (.ref p) (upd H p (.lst (ji xs lo hi)))
def Oh:Ab X (Zfa X.K):=by
 intro pins s σ H x v vl vu lo hi sl Q I rx hs pl pu h
 obtain⟨a,xs,rfl,hx,q⟩:=h
 cases rx
 obtain⟨its,r,ht,hz⟩:=I.list hx
 have hlen:=r.length
 refine⟨"list",_,slot_list_getitem.lookup,ht.isList.typeIs,?_⟩
 refine wpAny_getItem_list_slice ht.isList hs pl pu .none (by simp) ?_ (by rw[List.size_toArray]<;>omega)
 rw[rW,<-hlen]
 refine⟨.ref s.heap.objs.size,_,I.laid (t':=s.toks) (o:=.lst (ji xs lo hi)) (λb ob q=>Heap.get?_push_of_some _ q) (Nat.le_refl _) ?_,rfl,q _ (I.hok.fresh (Nat.le_refl _))⟩
 exact⟨Nat.le_trans (mL xs lo hi) hz,_,0,(r.drop (HT.Ż xs.length 0 lo)).take (HT.Ż xs.length xs.length hi-HT.Ż xs.length 0 lo),Heap.get?_push_size _ rfl⟩
def uP:ř X (.type "list") (λxs H Q=>∃p ys,xs=[.ref p]/\(ū X.K H p ys\/bO X.K H p ys)/\∀l,H l=none->Q (.ref l) (upd H l (.lst ys))):=by
 intro pins s σ H xs us Q I r h
 obtain⟨p,ys,rfl,hq,q⟩:=h
 obtain⟨u,rfl,rx⟩:=vals1 r
 cases rx
 have fin:∀(its:List Value),Vals ys its->ys.length<=sizeLine->∀(h':Heap) (c':Nat),(∀b o',s.heap.get? b=some o'->h'.get? b=some o')->
  h'.get? s.heap.objs.size=some {cls:=.type "list",dict:=none,data:=.seq its.toArray c',slots:=#[]}->EP X pins σ Q (.ref s.heap.objs.size) {s with heap:=h'}:=λits r' hz h' c' kp e=>
  ⟨.ref s.heap.objs.size,_,I.laid (t':=s.toks) kp (Nat.le_refl _) (show ž X.prog X.w _ h' _ (.lst ys) from⟨hz,its,c',r',e⟩),rfl,q _ (I.hok.fresh (Nat.le_refl _))⟩
 rcases hq with hq|hq
 ·obtain⟨its,r',pl,hz⟩:=I.list hq
  have hlen:=r'.length
  obtain⟨o,ho,hc,n,hd⟩:=pl.isList
  exact call_list_seq p (.inl rfl) ho hc hd (λh' c' kp e=>fin its r' hz h' c' kp e) (by simp only[List.size_toArray]<;>omega)
 ·obtain⟨its,r',pl,hz⟩:=I.tuple hq
  have hlen:=r'.length
  obtain⟨o,ho,hc,n,hd⟩:=pl
  exact call_list_seq p (.inr rfl) ho hc hd (λh' c' kp e=>fin its r' hz h' c' kp e) (by simp only[List.size_toArray]<;>omega)
def rY:ř X (.type "tuple") (λxs H Q=>∃p ys,xs=[.ref p]/\((ū X.K H p ys/\∀l,H l=none->Q (.ref l) (upd H l (.tup ys)))\/(bO X.K H p ys/\Q (.ref p) H))):=by
 intro pins s σ H xs us Q I r h
 obtain⟨p,ys,rfl,h⟩:=h
 obtain⟨u,rfl,rx⟩:=vals1 r
 cases rx
 rcases h with⟨hq,q⟩|⟨hq,q⟩
 ·obtain⟨its,r',pl,hz⟩:=I.list hq
  have hlen:=r'.length
  refine call_tuple_list pl.isList (λh' kp=>?_) (by simp only[List.size_toArray]<;>omega)
  have I1:Inv X pins σ H {s with heap:=h'}:=I.kept (t':=s.toks) kp
  have I2:Inv X pins σ (upd H h'.objs.size (.tup ys)) {s with heap:=h'.push {cls:=.type "tuple",data:=.seq its.toArray}}:=
   I1.laid (t':=s.toks) (λb o e=>Heap.get?_push_of_some _ e) (Nat.le_refl _) (show ž X.prog X.w _ _ _ (.tup ys) from⟨hz,its,r',IsTup.new _ _⟩)
  exact⟨.ref h'.objs.size,_,I2,rfl,q _ (I1.hok.fresh (Nat.le_refl _))⟩
 ·obtain⟨its,r',pl,hz⟩:=I.tuple hq
  exact call_tuple_same pl ⟨.ref p,H,I,rfl,q⟩
def tyV(K:PySem.W.Frag)(T:String)(x:V)(H:Hp):Prop:=match x with
 | .str _=>T= "str"
 | .int _=>T= "int"
 | .ref p=>(T= "list" ∧∃xs,ū K H p xs)∨(T= "tuple" ∧∃o,K.lookup p=some o∧o.cls=.type "tuple" ∧o.dict=none)∨
     (T= "dict" /\((∃kvs,H p=some (.dK kvs))\/∃kvs,H p=some (.dT kvs)))\/(T= "set" /\∃S n,H p=some (.set S n))
 |_=>False
def Zaj{pins:List (Addr×Obj)}{σ:St}{H:Hp}{s:Shared}{T:String}{x:V}{v:Value}(I:Inv X pins σ H s)(r:RelV x v)(ty:tyV X.K T x H) :
 s.TypeIs v T/\∀a,v=.ref a->∃ob,s.heap.get? a=some ob/\ob.dict=none:=by
 cases x with
 |str z=>
  obtain⟨t,rfl⟩:=r
  cases(show T= "str" from ty)
  exact⟨typeIs_str s z t,λ_ e=>nomatch e⟩
 |int i=>
  obtain⟨t,rfl⟩:=r
  cases(show T= "int" from ty)
  exact⟨typeIs_int s i t,λ_ e=>nomatch e⟩
 |ref p=>
  cases r
  rcases ty with⟨rfl,xs,hq⟩|⟨rfl,o,hk,hc,hd⟩|⟨rfl,hk⟩|⟨rfl,S,n,hk⟩
  ·obtain⟨its,_,pl,_⟩:=I.list hq
   refine⟨pl.isList.typeIs,λa e=>?_⟩
   cases e
   obtain⟨o,n,e,c,hd,_⟩:=pl
   exact⟨o,e,hd⟩
  ·refine⟨⟨o,I.kJ p o hk,hc⟩,λa e=>?_⟩
   cases e
   exact⟨o,I.kJ _ o hk,hd⟩
  ·have z:∃o,s.heap.get? p=some o∧o.ExactDict:=by
    rcases hk with⟨kvs,hk⟩|⟨kvs,hk⟩
    ·obtain⟨_,_,_,_,o,_,_,e,ex,_⟩:=I.hok p _ hk
     exact⟨o,e,ex⟩
    ·obtain⟨_,_,_,_,o,_,_,e,ex,_⟩:=I.hok p _ hk
     exact⟨o,e,ex⟩
   obtain⟨o,e,ex⟩:=z
   refine⟨⟨o,e,ex.1⟩,λa e2=>?_⟩
   cases e2
   exact⟨o,e,ex.2.1⟩
  ·obtain⟨o,_,_,_,e,ex,_⟩:=I.hok p _ hk
   refine⟨⟨o,e,ex.1⟩,λa e2=>?_⟩
   cases e2
   exact⟨o,e,ex.2.1⟩
 |_=>exact False.elim ty
def tBM(K:PySem.W.Frag)(T:String)(r:V->List V->Hp->VK->Prop)(to:TE)(t:TA):TE:=λσ H Q=>to σ H λx H1=>tyV K T x H1/\t σ H1 λxs H2=>r x xs H2 Q
variable{o e:Expr}{es:List Expr}{to:TE}{t:TA}{name:Str}{apos cpos:Pos}{T id:String}{r:V->List V->Hp->VK->Prop}
def cC(pa:PlainAttrs T)(slot:Slot T name id)(hty:typeOf (.builtin id)=pure (.type "method_descriptor"))(hm:MtR X id r)(ho:PE X o to)(ha:PA X (e::es) t)
 (hbase:attributeBase o name X.env (eval o X.env)=eval o X.env:=by rfl)
 (hfew:((backTo cpos (starEach (e::es) X.env)).all (fun x=>!x.1) && (backToKw cpos (keywordEach [] X.env)).all (fun x=>x.1.isSome)
   && decide ((e::es).length+([]:List Keyword).length+(if([]:List Keyword).isEmpty then 0 else 1)<30))=true:=by rfl)
 (hline:(apos.endLine== cpos.line)=true:=by rfl)(hs:starEach (e::es) X.env=(false,eval e X.env)::starEach es X.env:=by rfl)(hplain:(backTo cpos (starEach es X.env)).any (·.1)=false:=by rfl) :
 PE X (.Call (.Attribute o name apos) (e::es) [] cpos) (tBM X.K T r to t):=by
 intro pins s σ H Q I h
 refine wpAny_Call_method_late hbase hfew hline rfl (ŕ (ho pins s σ H _ I h) λv s1 ⟨x,H1,I1,r1,ty,q1⟩=>?_)
 obtain⟨h1,h2⟩:=Zaj I1 r1 ty
 refine⟨T,id,pa,slot,hty,h1,h2,?_⟩
 have hA:=ha cpos pins s1 σ H1 _ I1 q1
 rw[hs] at hA ⊢
 refine Calls.callWith_builtin (by show(false || (backTo cpos (starEach es X.env)).any (·.1))=false;rw[hplain]<;>rfl) (Calls.evalArgs_plain ?_)
 exact ŕ hA λus s2 ⟨vs,H2,I2,r2,q2⟩=>hm pins s2 σ H2 x vs v us Q I2 r1 r2 q2
end
end L2
namespace L2
open PySem PySem.Spec PyProof.Rows
def MtM(X:Cx)(id:String)(r:V->List V->Hp->VK->Prop):Prop:=
 ∀(pins:List (Addr×Obj)) (s:Shared) (σ:St) (H:Hp) (x:V) (xs:List V) (v:Value) (us:List Value) (Q:VK),Inv X pins σ H s->RelV x v->Vals xs us->r x xs H Q->
  wpAny (model X.prog X.w) X.A (call (.builtin id) (v::us)) (EP X pins σ Q) X.xe s
theorem Vals.one:∀{x:V} {us:List Value},Vals [x] us->∃u,us=[u]/\RelV x u
 |_,_,.cons r .nil=>⟨_,rfl,r⟩
section
variable{X:Cx}{pins:List (Addr×Obj)}{σ:St}{H:Hp}{s:Shared}{l b:Addr}{xs ys zs:List V}
def Inv.ZcH{its its':List Value}{n:Nat}{f:Array Value->Array Value}{t':Nat}(I:Inv X pins σ H s)(hH:H l=some (.lst xs))
 (e:s.heap.get? l=some {cls:=.type "list",data:=.seq its.toArray n})(hf:f its.toArray=its'.toArray)(hv:Vals ys its')(hz:ys.length<=sizeLine) :
 Inv X pins σ (upd H l (.lst ys)) {s with heap:=s.heap.update l (Obj.mapSeq f),toks:=t'}:=by
 have q:=PySem.IsL.update e f
 rw[hf] at q
 refine I.write (x:=l) (e:=l) (by rw[hH];exact trivial) (.inl rfl) (λb' u hb hu=>(Heap.get?_update_other s.heap (Obj.mapSeq f) (Ne.symm hb)).trans hu) ⟨_,q⟩ ?_
 exact⟨hz,its',_,hv,q⟩
def Inv.Zfb{its:List Value}{t':Nat}(I:Inv X pins σ H s)(hv:Vals ys its)(hz:ys.length<=sizeLine) :
 Inv X pins σ (upd H s.heap.objs.size (.lst ys)) {s with heap:=s.heap.push {cls:=.type "list",data:=.seq its.toArray},toks:=t'}:=
 I.laid (λ_ _ q=>Heap.get?_push_of_some _ q) (Nat.le_refl _) ⟨hz,its,0,hv,Heap.get?_push_size _ rfl⟩
theorem Inv.fresh(I:Inv X pins σ H s):H s.heap.objs.size=none:=I.hok.fresh (Nat.le_refl _)
def Inv.Zak(I:Inv X pins σ H s)(hH:H l=some (.lst xs)):xs.length<=sizeLine/\∃(its:List Value) (n:Nat),Vals xs its/\xs.length=its.length/\s.heap.get? l=some {cls:=.type "list",data:=.seq its.toArray n}:=by
 obtain⟨z,its,n,r,e⟩:=I.hok l _ hH
 exact⟨z,its,n,r,r.length,e⟩
def Hz{n:Nat}(h:n<=sizeLine):Builtin.List.listTooLong n=false:=by
 unfold Builtin.List.listTooLong
 exact decide_eq_false (by omega)
end
section
variable{X:Cx}
def CZ:V->List V->Hp->VK->Prop:=λx vs H Q=>∃l xs y,x=.ref l/\vs=[y]/\H l=some (.lst xs)/\xs.length<sizeLine/\Q .non (upd H l (.lst (xs ++ [y])))
def ś:MtM X "list.append" CZ:=by
 intro pins s σ H x vs v us Q I rx rv h
 obtain⟨l,xs,y,rfl,rfl,hH,hz,q⟩:=h
 cases rx
 obtain⟨u,rfl,ru⟩:=rv.one
 obtain⟨z,its,n,r,hl,e⟩:=I.Zak hH
 refine call_meets F.slot_list_append ⟨_,e,rfl⟩ F.entry_list_append (F.args_list_append_2 _ _) (PySem.list_append l its.toArray n u (by rw[List.size_toArray];omega)) ⟨e,?_⟩
 refine⟨.non,_,I.ZcH (its':=its ++ [u]) hH e (by simp) (r.append (.cons ru .nil)) ?_,rfl,q⟩
 rw[List.length_append,List.length_singleton]
 omega
def C_:V->List V->Hp->VK->Prop:=λx vs H Q=>∃l b xs zs,x=.ref l/\vs=[.ref b]/\H l=some (.lst xs)/\H b=some (.lst zs)/\xs.length+zs.length<=sizeLine/\Q .non (upd H l (.lst (xs++zs)))
def iw:MtM X "list.extend" C_:=by
 intro pins s σ H x vs v us Q I rx rv h
 obtain⟨l,b,xs,zs,rfl,rfl,hH,hB,hz,q⟩:=h
 cases rx
 obtain⟨u,rfl,ru⟩:=rv.one
 cases ru
 obtain⟨z,its,n,r,hl,e⟩:=I.Zak hH
 obtain⟨z2,its2,n2,r2,hl2,e2⟩:=I.Zak hB
 have hsz:its.toArray.size+its2.toArray.size<=sizeLine:=by rw[List.size_toArray,List.size_toArray];omega
 have ZcI:¬(!its.toArray.isEmpty && Builtin.List.listTooLong (its.toArray.size+its2.toArray.size))=true:=by
  rw[Hz hsz,Bool.and_false]
  exact Bool.false_ne_true
 refine call_meets F.slot_list_extend ⟨_,e,rfl⟩ F.entry_list_extend (F.args_list_extend_2 _ _)
  (AutoSeq1.list_extend_list_list_0 l its.toArray n b its2.toArray n2 ZcI (by rw[List.size_toArray];omega) (by omega)) ⟨e,e2,?_⟩
 refine⟨.non,_,I.ZcH (its':=its++its2) hH e (by simp) (r.append r2) ?_,rfl,q⟩
 rw[List.length_append]
 omega
end
section
variable{prog:Program}{w:World}{A:Around}{E:Value->Shared->Prop}{s:Shared}
end
section
variable{X:Cx}
end
end L2
namespace Att
open PySem PySem.W PySem.Calls PyProof.Rows
def nG{P:Params}{h:Heap}:∀(ns:List Int) (vs:List Value),WellAll P h vs (ns.map WData.int)->IntsAre vs ns:=by
 intro ns
 induction ns with
 |nil=>
  intro vs w
  rw[List.map_nil] at w
  cases w
  exact .nil
 |cons n ns ih=>
  intro vs w
  rw[List.map_cons] at w
  cases w with
  |cons a b=>
   cases a
   exact .cons _ _ (ih _ b)
def FN{l:OpenLaw}{n:Nat}(hn:l.most=some n){P:Params}{h:Heap}{args:List WData}{vals:List Value}
 (hpre:l.row.toRowW.claim.pre args=true)(hwl:WellAll P h vals args) :
 ∃a vs ns,vals=[Value.ref a]/\args=[WData.list (ns.map WData.int)]/\h.get? a=some {cls:=.type "list",data:=.seq vs.toArray}/\IntsAre vs ns/\ns.length<=n:=by
 have hsh:WShape.hasAll [] args [.list .int]=true:=(pre_splitW hpre).1
 have hc:l.pre.holds [] {args:=args}=true:=(pre_splitW hpre).2
 obtain⟨d,r,rfl,h1,h2⟩:=hasAllW_cons hsh
 obtain rfl:=hasAllW_nil h2
 obtain⟨xs,rfl,h3⟩:=hasW_list h1
 obtain⟨ns,rfl⟩:=items_int h3
 have hlen:ns.length<=n:=by
  unfold OpenLaw.pre at hc
  have h4:(WTm.not (.lt (.lit (.int (n:Int))) (.len (.arg 0)))).holds [] {args:=[.list (ns.map .int)]}=true:=by
   have h4:=(holds_andW hc).1
   rw[hn] at h4
   exact h4
  have h5:=condW_of h4 (w_not (w_lt w_lit (w_len_list (w_arg rfl))))
  rw[List.length_map] at h5
  refine Nat.le_of_not_lt λq=>?_
  have q':(n:Int)<((ns.length:Nat):Int):=by omega
  first
   |(rw[decide_eq_true q'] at h5;exact absurd h5 (by decide))
   |(simp at h5;omega)
 cases hwl with
 |cons w1 w2=>
  cases w2
  cases w1 with
  |list ho hall=>exact⟨_,_,ns,rfl,rfl,ho,nG ns _ hall,hlen⟩
def FP(l:OpenLaw)(args:List WData):l.row.toRowW.claim.post args (.bool true) args=true:=
 postW_of (r:=l.row.toRowW) (X:=(true== true))
  (show WShape.has [] (.bool true) .bool=true by first|rfl|decide|simp[WShape.has,WShape.arms,WShape.armsAll])
  (show(WTm.eq .res (.lit (.bool true))).value [] {args:=args,res:=some (.bool true),after:=args}=some (.bool (true== true)) from w_eq_bool (w_res rfl) w_lit) rfl
def xg{l:OpenLaw}{n:Nat}{q:Program}{loose:List Str}{XP:(Str->Option Value)->Heap->Prop}{YP:World->Heap->Prop}{d:DefRec}
 (hn:l.most=some n)(hdf:d.params.defaults=[])
 (call:∀(w:World) (s₀ s₁:Shared) (mg mb:Str→Option Value) (fa:Addr) (o:Obj) (pm cd doc:Value) (a:Addr) (vs:List Value) (ns:List Int),
   Ground q loose [] XP w s₀ mg mb s₁.heap->YP w s₁.heap->
   s₁.heap.get? fa=some o->o.data=.func (docDef d.name d.params d.body d.scope pm cd doc)->s₁.heap.CodeRec cd d.name->mg d.name=some (.ref fa)->
   s₁.heap.get? a=some {cls:=.type "list",data:=.seq vs.toArray}->IntsAre vs ns->ns.length<=n->s₁.gens= #[]->
   codeAny (model l.prog w) callerA (.call (.ref fa) ⟨[.ref a],[]⟩) (λr s'=>r=.ok (.ret (.bool true))/\OldK s₁.heap s'.heap/\s'.os=s₁.os/\AllBare s'.gens) s₁) :
 WalkO q loose XP YP l.row.toRowW d [] (λf vs=>PySem.call f vs):=by
 intro w s₀ s₁ mg mb G Y fa o pm cd doc dV kV ho hd hcd hD hmg hg args vals as hpre hlay hrd hwl hlo
 obtain rfl:dV=.none:=Dflts.none hD hdf
 obtain rfl:kV=.none:=Dflts.noKw hD
 obtain⟨a,vs,ns,rfl,rfl,hobj,hints,hlen⟩:=FN hn hpre hwl
 refine enter_call (codeAny_mono (call w s₀ s₁ mg mb fa o pm cd doc a vs ns G Y ho (fd_plain hd) hcd hmg hobj hints hlen hg) λr s' hq=>?_)
 obtain⟨rfl,h2,h3,h4⟩:=hq
 exact⟨.inl ⟨.bool true,.bool true,[],rfl,λ_=>rfl,.bool true,FP l _,λ_=>⟨List.Pairwise.nil,λ_ hm=>(nomatch hm)⟩⟩,h2,h3,h4⟩
section
variable{prog:Program}{w:World}{A:Around}{E:Value->Shared->Prop}{s:Shared}{K:Frag}
end
end Att
namespace L2
open PySem PySem.Spec PyProof.Rows
theorem ſ:∀{vs:List Value} {ns:List Int},IntsAre vs ns->Vals (ns.map V.int) vs
 |_,_,.nil=>.nil
 |_,_,.cons n t h=>.cons ⟨t,rfl⟩ (ſ h)
def Only(H:Hp):Prop:=∀b,H b=none\/(∃o xs,H b=some (.dW o (.lst xs)))\/∃q,H b=some (.iG q)
def gj(K:PySem.W.Frag):List Str->Hp
 | []=>λ_=>none
 |y::r=>λb=>match PySem.W.tabIn K y with
  |some (_,P)=>if b=P then some (.iG (bT y)) else gj K r b
  |none=>gj K r b
theorem cD{K:PySem.W.Frag}:∀{l:List Str} {b:Addr} {u:HO},gj K l b=some u->∃y c,y∈l/\PySem.W.tabIn K y=some (c,b)/\u=.iG (bT y)
 | [],_,_,h=>by cases(show(none:Option HO)=some _ from h)
 |y::r,b,u,h=>by
  have h':(match PySem.W.tabIn K y with
   |some (_,P)=>if b=P then some (.iG (bT y)) else gj K r b
   |none=>gj K r b)=some u:=h
  have rc:gj K r b=some u->∃z c,z∈y::r/\PySem.W.tabIn K z=some (c,b)/\u=.iG (bT z):=λq=>
   let ⟨z,c,h1,h2,h3⟩:=cD q
   ⟨z,c,List.mem_cons_of_mem _ h1,h2,h3⟩
  cases e:PySem.W.tabIn K y with
  |none=>rw[e] at h';exact rc h'
  |some p=>
   obtain⟨c,P⟩:=p
   rw[e] at h'
   have h2:(if b=P then some (HO.iG (bT y)) else gj K r b)=some u:=h'
   by_cases hb:b=P
   ·rw[if_pos hb] at h2
    cases h2
    exact⟨y,c,List.mem_cons_self,by rw[hb];exact e,rfl⟩
   ·rw[if_neg hb] at h2
    exact rc h2
theorem Dc{K:PySem.W.Frag}{y:Str}{c P:Addr}(e:PySem.W.tabIn K y=some (c,P)):∀{l:List Str},(∀z∈l,z=y)->y∈l->gj K l P=some (.iG (bT y))
 | [],_,h=>by cases h
 |z::r,h1,_=>by
  have hz:=h1 z List.mem_cons_self
  subst hz
  show(match PySem.W.tabIn K z with
   |some (_,Q)=>if P=Q then some (HO.iG (bT z)) else gj K r P
   |none=>gj K r P)=_
  rw[e]
  exact if_pos rfl
def HB{P:Program}{w:World}{K:PySem.W.Frag}{mg mb:Str->Option Value}{CX:lB}{k:Nat}{fa a:Addr}{fd:FuncData}{x:Str}{sp:Sp}{s₁:Shared}{vs:List Value}{ns:List Int}
 (KX:K.In s₁.heap)(hns:s₁.heap.Ns mainGlobals mg)(hb:s₁.heap.Ns builtinsNs mb)(hbb:∀x:Str,x≠ "__name__" ->mb x=bootBuiltins x)(hlim:s₁.heap.NoLimit)(hg:s₁.gens= #[])
 (ha:s₁.heap.get? a=some {cls:=.type "list",data:=.seq vs.toArray})(hi:IntsAre vs ns)(hl:ns.length<=sizeLine)(hr:Ś k callerA)
 (F:∀base:Heap,K.In base->base.Ns mainGlobals mg->Ġ P w K mg base CX k fa fd [x] sp)(hbind:∀(s:Shared) (u:Value),BindsTo s fd ⟨[u],[]⟩ [(x,u)])
 (hsp:∀H:Hp,Only H->ū K H a (ns.map V.int)->sp [.ref a] H (λv _=>v=.bl true) λ_ _ _=>False)
 (hCX:∀H e s',CX [] H s₁ (λ_ _ _=>False) e s'->False)
 (hnt:lams≠[]->PySem.W.noTabs K=true)(hone:∀y z,y∈lams->z∈lams->y=z)(htb:∀y c Pt,y∈lams->PySem.W.tabIn K y=some (c,Pt)->PySem.W.CodeHd s₁.heap c Pt/\s₁.heap.get? Pt=some (PySem.W.tabObj #[])/\s₁.heap.BuiltinsAt mg Pt) :
 codeAny (model P w) callerA (.call (.ref fa) ⟨[.ref a],[]⟩) (λr s'=>r=.ok (.ret (.bool true))/\OldK s₁.heap s'.heap/\s'.os=s₁.os/\AllBare s'.gens) s₁:= by
 have rv:=ſ hi
 have lenV:=hi.length
 -- from an abstract heap in which nothing but the script may be tracked
 have core:∀H:Hp,Only H->ū K H a (ns.map V.int)->jz P w H s₁.heap->(∀b,H b≠none->b=a\/∃y c,y∈lams/\PySem.W.tabIn K y=some (c,b))->(H a≠none->K.lookup a=none)->(∀y c Pt,y∈lams->PySem.W.tabIn K y=some (c,Pt)->H Pt=some (.iG (bT y)))->
  codeAny (model P w) callerA (.call (.ref fa) ⟨[.ref a],[]⟩) (λr s'=>r=.ok (.ret (.bool true))/\OldK s₁.heap s'.heap/\s'.os=s₁.os/\AllBare s'.gens) s₁:= by
  intro H hO hS hok hA hK hT
  have oJ:∀{b:Addr} {o:Obj},s₁.heap.get? b=some o->H b=none->(rM s₁.heap H).get? b=some o:=λe n=>GR e n
  have noA:∀{b:Addr} {o:Obj} {es:Array DictEntry} {ep:Nat},s₁.heap.get? b=some o->o.data=.dict es ep->H b=none:=fun{b o es ep} e d=>by
   cases q:H b with
   |none=>rfl
   |some u=>
    rcases hA b (by rw[q];simp) with e'|⟨y,c,hy,hty⟩
    ·subst e'
     rw[ha] at e;cases e
     have d':Data.seq vs.toArray _=Data.dict es ep:=d
     cases d'
    ·have e2:=(htb y c b hy hty).2.1
     rw[e] at e2;cases e2;cases d
  have nsK:∀{b:Addr} {m:Str->Option Value},s₁.heap.Ns b m->(rM s₁.heap H).Ns b m:=fun{b m} ⟨o,es,ep,e,d,r⟩=>⟨o,es,ep,oJ e (noA e d),d,r⟩
  have hKb:K.In (rM s₁.heap H):=λb o e=>oJ (KX b o e) (by
   cases q:H b with
   |none=>rfl
   |some u=>
    rcases hA b (by rw[q];simp) with e'|⟨y,c,hy,hty⟩
    ·subst e'
     rw[hK (by rw[q];simp)] at e;cases e
    ·have e2:=(htb y c b hy hty).2.1
     rw[KX b o e] at e2
     cases e2
     have h2:=List.all_eq_true.mp (hnt (λz=>by rw[z] at hy;cases hy)) (b,_) (PySem.W.mem_of_lookupK e)
     exact absurd (show false=true from h2) Bool.false_ne_true)
  have hM:Mod K mg (rM s₁.heap H):=⟨hKb,nsK hns,⟨mb,nsK hb,hbb⟩,let ⟨mc,h1,h2⟩:=hlim;⟨mc,nsK h1,h2⟩⟩
  have hTB:TabsOk K mg (rM s₁.heap H) H:=λy c Pt hy hty=>by
   obtain⟨⟨o,us,file,tf,flags,tg,inF,text,tt,e1,r1,r2⟩,_,bm,ob,b1,b2,b3,b4,b5,b6,b7⟩:=htb y c Pt hy hty
   refine⟨⟨o,us,file,tf,flags,tg,inF,text,tt,oJ e1 ?_,r1,r2⟩,hT y c Pt hy hty,bm,ob,b1,b2,b3,b4,oJ b5 ?_,b6,b7⟩
   rotate_left
   ·cases q:H bm with
    |none=>rfl
    |some u=>
     rcases hA bm (by rw[q];simp) with e'|⟨z,c2,hz,htz⟩
     ·rw[e',ha] at b5;cases b5;exact absurd (Value.type.inj b6) (by decide)
     ·have e2:=(htb z c2 bm hz htz).2.1
      rw[b5] at e2;cases e2;cases b6
   cases q:H c with
   |none=>rfl
   |some u=>
    rcases hA c (by rw[q];simp) with e'|⟨z,c2,hz,htz⟩
    ·rw[e',ha] at e1;cases e1;exact absurd (Value.type.inj r1) (by decide)
    ·have e2:=(htb z c2 c hz htz).2.1
     rw[e1] at e2;cases e2;cases r1
  have e0:zW P w K mg (rM s₁.heap H) callerA [] s₁ H:=⟨rfl,hM,λb o e=>Nq e,Nat.le_of_eq (Fj _ _),trivial,λb hb=>absurd (show b∈([]:List Addr) from hb) (by simp),hok,.of_eq hg,hTB⟩
  refine codeAny_mono ((F _ hKb (nsK hns)).run callerA [] s₁ H ⟨[.ref a],[]⟩ [.ref a] [.ref a] _ _ hr e0 (hbind s₁ (.ref a)) (.cons rfl .nil) (hsp H hO hS)) λr s' h=>?_
  cases r with
  |error e=>exact(hCX H e s' h).elim
  |ok fl=>
   cases fl with
   |next=>exact False.elim h
   |brk=>exact False.elim h
   |cont=>exact False.elim h
   |ret u=>
    obtain⟨v,H',os,bare,un,hok',r',q⟩:=h
    have q':v=.bl true:=q
    subst q'
    obtain rfl:u=Value.bool true:=r'
    have old:∀b o,s₁.heap.get? b=some o->(∀t,H b≠some (.iG t))->s'.heap.get? b=some o:=?_
    ·refine⟨rfl,⟨λb o e=>?_,λb o e=>?_⟩,os,bare⟩
     ·by_cases ht:∃t,H b=some (.iG t)
      ·obtain⟨t,ht⟩:=ht
       obtain⟨ps,e1,_⟩:=hok' b _ (un.nD b t ht)
       rcases hA b (by rw[ht];simp) with e'|⟨y,c,hy,hty⟩
       ·subst e'
        obtain⟨ps2,e3,_⟩:=hok b _ ht
        rw[ha] at e3;cases e3
       ·obtain⟨⟨o2,us,file,tf,flags,tg,inF,text,tt,f1,f2,f3,f4,_⟩,e2,_⟩:=htb y c b hy hty
        rw[e] at e2;cases e2
        exact .inr (.inl ⟨⟨c,o2,us,f1,f2,f3,f4⟩,rfl,#[],ps,rfl,by rw[e1];simp⟩)
      ·exact .inl (old b o e λt z=>ht ⟨t,z⟩)
     ·by_cases ht:∃t,H b=some (.iG t)
      ·obtain⟨t,ht⟩:=ht
       obtain⟨ps,e1,_⟩:=hok' b _ (un.nD b t ht)
       exact⟨_,e1⟩
      ·exact⟨o,old b o e λt z=>ht ⟨t,z⟩⟩
    intro b o e nt
    cases q:H b with
    |none=>exact un.keep b o e q (by intro z;exact absurd (show b∈([]:List Addr) from z) (by simp)) (by simp)
    |some u=>
     rcases hO b with z|⟨ob,xs,z⟩|⟨t,z⟩
     ·rw[q] at z;cases z
     rotate_left
     ·exact absurd z (nt t)
     ·have z2:=un.rK b ob _ z
      obtain⟨e1,_⟩:=hok b _ z
      obtain⟨e2,_⟩:=hok' b _ z2
      rw[e] at e1;cases e1
      exact e2
 cases hk:K.lookup a with
 |some o=>
  -- the script is one of the module's own objects
  have e:=KX a o hk
  rw[ha] at e
  cases e
  refine core (gj K lams) (λb=>?_) (.inr ⟨_,vs.toArray,_,hk,rfl,rfl,rfl,by rw[List.size_toArray,lenV];exact hl,by simpa using rv⟩) (λb u z=>?_) (λb z=>?_) (λz=>?_) λy c Pt hy hty=>Dc hty (λz hz=>hone z y hz hy) hy
  ·cases q:gj K lams b with
   |none=>exact .inl rfl
   |some u=>obtain⟨y,c,_,_,rfl⟩:=cD q;exact .inr (.inr ⟨_,rfl⟩)
  ·obtain⟨y,c,hy,hty,rfl⟩:=cD z
   exact⟨#[],(htb y c b hy hty).2.1,trivial,λpos cv z=>by cases z⟩
  ·cases q:gj K lams b with
   |none=>exact absurd q z
   |some u=>obtain⟨y,c,hy,hty,_⟩:=cD q;exact .inr ⟨y,c,hy,hty⟩
  ·cases q:gj K lams a with
   |none=>exact absurd q z
   |some u=>
    obtain⟨y,c,hy,hty,_⟩:=cD q
    have e2:=(htb y c a hy hty).2.1
    rw[ha] at e2;cases e2
 |none=>
  refine core (λb=>if b=a then some (.dW {cls:=.type "list",data:=.seq vs.toArray} (.lst (ns.map V.int))) else gj K lams b) (λb=>?_) (.inl (.inr ⟨{cls:=.type "list",data:=.seq vs.toArray},if_pos rfl⟩)) (λb u z=>?_) (λb z=>?_) (λ_=>hk) λy c Pt hy hty=>?_
  ·by_cases hb:b=a
   ·exact .inr (.inl ⟨_,_,if_pos hb⟩)
   ·cases q:gj K lams b with
    |none=>exact .inl ((if_neg hb).trans q)
    |some u=>obtain⟨y,c,_,_,rfl⟩:=cD q;exact .inr (.inr ⟨_,(if_neg hb).trans q⟩)
  ·by_cases hb:b=a
   ·have z':=(if_pos hb).symm.trans z
    cases z'
    subst hb
    exact⟨ha,by rw[List.length_map];exact hl,vs,_,rv,ha⟩
   ·have z':=(if_neg hb).symm.trans z
    obtain⟨y,c,hy,hty,rfl⟩:=cD z'
    exact⟨#[],(htb y c b hy hty).2.1,trivial,λpos cv z=>by cases z⟩
  ·by_cases hb:b=a
   ·exact .inl hb
   ·cases q:gj K lams b with
    |none=>exact absurd ((if_neg hb).trans q) z
    |some u=>obtain⟨y,c,hy,hty,_⟩:=cD q;exact .inr ⟨y,c,hy,hty⟩
  ·have ne:Pt≠a:=fun z=>by
    subst z
    have e2:=(htb y c _ hy hty).2.1
    rw[ha] at e2;cases e2
   exact(if_neg ne).trans (Dc hty (λz hz=>hone z y hz hy) hy)
end L2
namespace L2
open PySem PySem.Spec PyProof.Rows
def Oi{p:Program}{loose:List Str}{mean:ExcName->Option Value}{mg mb:Str->Option Value}{h:Heap}{K:PySem.W.Frag}{d:DefRec}{x:Str}{c P:Addr}(T:Top p loose mean mg mb h)(X:K.In h)(hr:(recsOf p).find? (λe=>e.name== x)=some d)(ht:PySem.W.tabIn K x=some (c,P)) :
 PySem.W.CodeHd h c P/\h.get? P=some (PySem.W.tabObj #[])/\h.BuiltinsAt mg P:=by
 obtain⟨h1,h2⟩:=PySem.W.tab_of T X hr ht
 obtain⟨bm,ob,b1,b2,b3,b4,b5,b6⟩:=T.bmain
 have hbP:bm≠P:=λq=>by rw[q,h2] at b3;cases b3;cases b4
 have hbG:bm≠mainGlobals:=λq=>by
  obtain⟨o,es,ep,e,hd,_⟩:=T.g
  rw[q,e] at b3;cases b3;rw[hd] at b6;cases b6
 exact⟨h1,h2,bm,ob,b1,b2,hbG,hbP,b3,b4,b5,b6⟩
def Oj{l:PySem.W.OpenLaw}{n k:Nat}{q:Program}{loose:List Str}{XP:(Str->Option Value)->Heap->Prop}{YP:World->Heap->Prop}{d:DefRec}{K:Params->PySem.W.Frag}{CX:World->lB}{sp:World->Sp}{x:Str}
 (hn:l.most=some n)(hn2:n<=sizeLine)(hdf:d.params.defaults=[])(hr:Ś k callerA)
 (hY:∀(w:World) (h:Heap),YP w h->(K w.params).In h)
 (F:∀(w:World) (mg:Str→Option Value) (fa:Addr) (h:Heap),(K w.params).In h→h.Ns mainGlobals mg→mg d.name=some (.ref fa)→
   ∃fd:FuncData,(∀(s:Shared) (u:Value),BindsTo s fd ⟨[u],[]⟩ [(x,u)])/\
    ∀base:Heap,(K w.params).In base->base.Ns mainGlobals mg->Ġ l.prog w (K w.params) mg base (CX w) k fa fd [x] (sp w))
 (hsp:∀(w:World) (H:Hp) (a:Addr) (ns:List Int),ns.length<=n->Only H->ū (K w.params) H a (ns.map V.int)->sp w [.ref a] H (λv _=>v=.bl true) λ_ _ _=>False)
 (hCX:∀(w:World) (H:Hp) (s:Shared) (e:Value) (s':Shared),CX w [] H s (λ_ _ _=>False) e s'->False)
 (hnt:lams≠[]->∀w:World,PySem.W.noTabs (K w.params)=true:=by intro z;exact absurd rfl z)(hone:∀y z,y∈lams->z∈lams->y=z:=by simp[lams])(hrec:∀y,y∈lams->∃d,(recsOf q).find? (λe=>e.name== y)=some d:=by simp[lams]) :
 PySem.W.WalkO q loose XP YP l.row.toRowW d [] (λf vs=>PySem.call f vs):=by
 refine Att.xg hn hdf λw s₀ s₁ mg mb fa o pm cd doc a vs ns G Y ho hd hcd hmg hobj hints hlen hg=>?_
 have KX:=hY w _ Y
 obtain⟨fd,hb,hF⟩:=F w mg fa _ KX G.T.g hmg
 exact HB KX G.T.g G.T.b G.T.builtins G.T.nolimit hg hobj hints (Nat.le_trans hlen hn2) hr hF hb (λH hO hS=>hsp w H a ns hlen hO hS) (λH e s'=>hCX w H s₁ e s') (λz=>hnt z w) hone λy c Pt hy hty=>let ⟨_,hr'⟩:=hrec y hy;Oi G.T KX hr' hty
end L2
namespace L2
open PySem PySem.Spec PyProof.Rows
def inClass(s:Stmt)(j:Nat):Stmt:=match s with
 | .ClassDef _ _ _ body _ _ _ _ _ _ _=>body.getD j (.Pass ⟨0,0,0,0⟩)
 |_=>.Pass ⟨0,0,0,0⟩
def Ņ(s:Stmt):Arguments:=match s with
 | .FunctionDef _ a _ _ _ _ _ _ _ _=>a
 |_=> {posonlyargs:=[],args:=[],vararg:=none,kwonlyargs:=[],kw_defaults:=[],kwarg:=none,defaults:=[]}
def Ķ(s:Stmt):List Stmt:=match s with
 | .FunctionDef _ _ b _ _ _ _ _ _ _=>b
 |_=>[]
def Ć(s:Stmt):Scope:=match s with
 | .FunctionDef _ _ _ _ _ _ sc _ _ _=>sc
 |_=> {kind:=.function,names:=[],isGenerator:=false,isCoroutine:=false}
abbrev ŝ:lB:=λ_ _ _ _ _ _=>False
structure HD(K:PySem.W.Frag)(x qual:Str)(st:Stmt)(f:Addr)(fd:FuncData):Prop where
 ex:∃(oc:Value) (od:Option Addr) (kV doc pm:Value) (an:Option Addr) (cdv ct:Value) (osl:Array (Option Value)),
   fd=PySem.W.fnOf x qual (Ņ st) (Ķ st) (Ć st) .none kV doc pm an cdv ct/\K.lookup f=some ⟨oc,od,.func fd,osl⟩/\PySem.W.codeIn K cdv qual=true
 kp:PySem.W.keepIn K (.ref f)=true
section
variable{P:Program}{w:World}{K:PySem.W.Frag}{mg:Str->Option Value}{base:Heap}
def HD.binds{x qual:Str}{st:Stmt}{f:Addr}{fd:FuncData}{ps:List Str}(F:HD K x qual st f fd)
 (h:∀(kV doc pm:Value) (an:Option Addr) (cdv ct:Value) (us:List Value),us.length=ps.length->bindArgs (PySem.W.fnOf x qual (Ņ st) (Ķ st) (Ć st) .none kV doc pm an cdv ct) ⟨us,[]⟩=pure (ps.zip us)):Binds K fd ps []:=by
 obtain⟨oc,od,kV,doc,pm,an,cdv,ct,osl,rfl,lk,hcd⟩:=F.ex
 exact .all (h kV doc pm an cdv ct)
def HF{x qual:Str}{st:Stmt}{f:Addr}{oc:Value}{od an:Option Addr}{osl:Array (Option Value)}{kV doc pm cdv ct:Value}(l:K.lookup f=some ⟨oc,od,.func (PySem.W.fnOf x qual (Ņ st) (Ķ st) (Ć st) .none kV doc pm an cdv ct),osl⟩)
 (c:PySem.W.codeIn K cdv qual=true)(k:PySem.W.keepIn K (.ref f)=true):HD K x qual st f (PySem.W.fnOf x qual (Ņ st) (Ķ st) (Ć st) .none kV doc pm an cdv ct):=⟨⟨oc,od,kV,doc,pm,an,cdv,ct,osl,rfl,l,c⟩,k⟩
end
section
variable{X:Cx}
def pv(i:Nat){x:Str}{pos:Pos}(hN:X.N[i]?=some x:=by rfl)(hv:zH X.env.scope x:=by first|exact Or.inl rfl|exact Or.inr (Or.inl rfl)|exact Or.inr (Or.inr rfl))(hd:(x== ("__debug__" :Str))=false:=by decide)
 (hcd:(x== ("__classdict__" :Str))=false:=by decide):PE X (.Name x pos) (zJ i):=dX hN hv hd hcd
end
def Same(H H':Hp):Prop:=∀b o,H b=some o->H' b=some o
def Same.refl(H:Hp):Same H H:=λ_ _ h=>h
def Same.trans{H H1 H2:Hp}(a:Same H H1)(b:Same H1 H2):Same H H2:=λc o h=>b c o (a c o h)
def Same.free{H H':Hp}(e:Same H H'){l:Addr}(h:H' l=Option.none):H l=Option.none:=by
 cases q:H l with
 |none=>rfl
 |some o=>
  rw[e l o q] at h
  cases h
def Same.seq{K:PySem.W.Frag}{H H':Hp}{a:Addr}{xs:List V}(e:Same H H')(h:ū K H a xs):ū K H' a xs:=by
 rcases h with(h|⟨o,h⟩)|h
 ·exact .inl (.inl (e _ _ h))
 ·exact .inl (.inr ⟨o,e _ _ h⟩)
 ·exact .inr h
end L2
namespace M2
open PySem PySem.Spec PyProof.Rows L2
section
variable{X:Cx}{a b c e:Expr}{ta tb tc te:TE}{pos:Pos}
def PE.wk{t t':TE}(h:PE X e t)(i:∀σ H Q,t' σ H Q->t σ H Q):PE X e t':=λpins s σ H Q I q=>h pins s σ H Q I (i σ H Q q)
def PS.wk{st:Stmt}{t t':TS}(h:PS X st t)(i:∀D σ H,t' D σ H->t D σ H):PS X st t':=λpins s σ H D I q=>h pins s σ H D I (i D σ H q)
def ŭ.wk{f:Value->Value->Sem Value}{r r':R2}(h:ŭ X f r)(i:∀x y H Q,r' x y H Q->r x y H Q):ŭ X f r':=λpins s σ H x y v u Q I rx ry q=>h pins s σ H x y v u Q I rx ry (i x y H Q q)
def NP.wk{f:Value->Sem Value}{r r':V->Hp->VK->Prop}(h:NP X f r)(i:∀x H Q,r' x H Q->r x H Q):NP X f r':=λpins s σ H x v Q I rx q=>h pins s σ H x v Q I rx (i x H Q q)
def ř.wk{f:Value}{r r':List V->Hp->VK->Prop}(h:ř X f r)(i:∀xs H Q,r' xs H Q->r xs H Q):ř X f r':=λpins s σ H xs us Q I r q=>h pins s σ H xs us Q I r (i xs H Q q)
def Ad.wk{r r':R2}(h:Ad X r)(i:∀x y H Q,r' x y H Q->r x y H Q):Ad X r':=λva sl pins s σ H x y v u Q I rx ry q=>h va sl pins s σ H x y v u Q I rx ry (i x y H Q q)
def Ab.wk{r r':V->Option Int->Option Int->Hp->VK->Prop}(h:Ab X r)(i:∀x lo hi H Q,r' x lo hi H Q->r x lo hi H Q):Ab X r':=λpins s σ H x v vl vu lo hi sl Q I rx hs pl pu q=>h pins s σ H x v vl vu lo hi sl Q I rx hs pl pu (i x lo hi H Q q)
def Zal(i:Nat):TE:=λσ H Q=>match σ[i]? with
 |some (some v)=>Q v H
 |_=>False
def Ol{i:Nat}{σ:L2.St}{H:Hp}{Q:VK}(h:Zal i σ H Q):zJ i σ H Q:=by
 unfold Zal at h
 split at h
 ·exact⟨_,by assumption,h⟩
 ·exact h.elim
def mv(i:Nat){x:Str}{pos:Pos}(hN:X.N[i]?=some x:=by rfl)(hv:zH X.env.scope x:=by first|exact Or.inl rfl|exact Or.inr (Or.inl rfl)|exact Or.inr (Or.inr rfl))(hd:(x== ("__debug__" :Str))=false:=by decide)
 (hcd:(x== ("__classdict__" :Str))=false:=by decide):PE X (.Name x pos) (Zal i):=PE.wk (dX hN hv hd hcd) λ_ _ _ h=>Ol h
def bOf(x:V)(k:Bool->Prop):Prop:=match x with
 | .bl c=>k c
 |_=>False
def lE{x:V}{k:Bool->Prop}(h:bOf x k):∃c,x=.bl c/\k c:=by
 cases x with
 |bl c=>exact⟨c,rfl,h⟩
 |_=>exact h.elim
def HJ(t:TE):TT:=λσ H Q=>t σ H λx H1=>bOf x λc=>Q c H1
def Zam{op:CmpOp}{r:R2}(ho:ŭ X (compareOp op) r)(ha:PE X a ta)(hb:PE X b tb)(hm:behindInMarks op b=false):PT X (.Compare a [op] [b] pos) (HJ (tOp r ta tb)):=by
 intro pins s σ H Q I h
 refine wpAny_isTrue_Compare1 (ŕ (ha pins s σ H _ I h) λv s1 ⟨x,H1,I1,r1,q1⟩=>ŕ (hb pins s1 σ H1 _ I1 q1) λu s2 ⟨y,H2,I2,r2,q2⟩=>
  ŕ (ho pins s2 σ H2 x y v u _ I2 r1 r2 q2) λc s3 ⟨z,H3,I3,r3,q3⟩=>?_) hm
 obtain⟨k,e,q3⟩:=lE q3
 subst e
 cases r3
 exact wpAny_truthy_bool ⟨H3,I3,q3⟩
def Af(r r':R2)(ta tb tc:TE):TE:=λσ H Q=>ta σ H λx H1=>tb σ H1 λy H2=>r x y H2 λz H3=>bOf z λk=>
 (if k=true then tc σ H3 λw' H4=>r' y w' H4 Q else Q (.bl false) H3)
def HN{op op':CmpOp}{r r':R2}(ho:ŭ X (compareOp op) r)(ho':ŭ X (compareOp op') r')(ha:PE X a ta)(hb:PE X b tb)(hc:PE X c tc)
 (hm:lastMarks [op,op'] [b,c]=false:=by with_unfolding_all rfl):PE X (.Compare a [op,op'] [b,c] pos) (Af r r' ta tb tc):=by
 intro pins s σ H Q I h
 refine Compare_chain (ŕ (ha pins s σ H _ I h) λv s1 ⟨x,H1,I1,r1,q1⟩=>chain_link (ŕ (hb pins s1 σ H1 _ I1 q1) λu s2 ⟨y,H2,I2,r2,q2⟩=>
  ŕ (ho pins s2 σ H2 x y v u _ I2 r1 r2 q2) λd s3 ⟨z,H3,I3,r3,q3⟩=>?_)) hm
 obtain⟨k,e,q3⟩:=lE q3
 subst e
 cases r3
 refine wpAny_truthy_bool ?_
 cases k with
 |false=>exact ite_ff ⟨.bl false,H3,I3,rfl,q3⟩
 |true=>exact ite_tt (chain_last (ŕ (hc pins s3 σ H3 _ I3 q3) λw' s4 ⟨z',H4,I4,r4,q4⟩=>ho' pins s4 σ H4 y z' u w' Q I4 r2 r4 q4))
def HS{op op':CmpOp}{r r':R2}(ho:ŭ X (compareOp op) r)(ho':ŭ X (compareOp op') r')(ha:PE X a ta)(hb:PE X b tb)(hc:PE X c tc)
 (hm:lastMarks [op,op'] [b,c]=false:=by with_unfolding_all rfl):PT X (.Compare a [op,op'] [b,c] pos) (HJ (Af r r' ta tb tc)):=by
 intro pins s σ H Q I h
 refine isTrue_chain (ŕ (ha pins s σ H _ I h) λv s1 ⟨x,H1,I1,r1,q1⟩=>test_link (ŕ (hb pins s1 σ H1 _ I1 q1) λu s2 ⟨y,H2,I2,r2,q2⟩=>
  ŕ (ho pins s2 σ H2 x y v u _ I2 r1 r2 q2) λd s3 ⟨z,H3,I3,r3,q3⟩=>?_)) hm
 obtain⟨k,e,q3⟩:=lE q3
 subst e
 cases r3
 refine wpAny_truthy_bool ?_
 cases k with
 |false=>exact ite_ff ⟨H3,I3,q3⟩
 |true=>
  refine ite_tt (test_last (ŕ (hc pins s3 σ H3 _ I3 q3) λw' s4 ⟨z',H4,I4,r4,q4⟩=>ŕ (ho' pins s4 σ H4 y z' u w' _ I4 r2 r4 q4) λd' s5 ⟨z2,H5,I5,r5,q5⟩=>?_))
  obtain⟨k2,e2,q5⟩:=lE q5
  subst e2
  cases r5
  exact wpAny_truthy_bool ⟨H5,I5,q5⟩
def ZcJ(ta tb:TE):TE:=λσ H Q=>ta σ H λx H1=>bOf x λc=>if c=true then tb σ H1 Q else Q (.bl false) H1
def ZcK(ta:TE):TE:=λσ H Q=>ta σ H λx H1=>bOf x λc=>Q (.bl (!c)) H1
variable{rest:List Expr}
def Zan(ha:PE X a ta)(hb:PE X (.BoolOp .And (b::rest) pos) tb):PE X (.BoolOp .And (a::b::rest) pos) (ZcJ ta tb):=by
 intro pins s σ H Q I h
 refine BoolOp_and (ŕ (ha pins s σ H _ I h) λv s1 ⟨x,H1,I1,r1,q1⟩=>?_)
 obtain⟨c,rfl,q1⟩:=lE q1
 cases r1
 refine wpAny_truthy_bool ?_
 cases c with
 |true=>exact hb pins s1 σ H1 Q I1 q1
 |false=>exact⟨.bl false,H1,I1,rfl,q1⟩
def Zao(ha:PE X a ta):PE X (.UnaryOp .Not a pos) (ZcK ta):=by
 intro pins s σ H Q I h
 refine UnaryOp_ (ŕ (ha pins s σ H _ I h) λv s1 ⟨x,H1,I1,r1,q1⟩=>?_)
 obtain⟨c,rfl,q1⟩:=lE q1
 cases r1
 exact not_of (wpAny_truthy_bool ⟨.bl (!c),H1,I1,rfl,q1⟩)
def mI(C:Int->Int->Prop)(g:Int->Int->V):R2:=λx y H Q=>match x,y with
 | .int i,.int j=>C i j/\Q (g i j) H
 |_,_=>False
def FQ(g:Int->Int->V):R2:=λx y H Q=>match x,y with
 | .int i,.int j=>Q (g i j) H
 |_,_=>False
def tE{C:Int->Int->Prop}{g:Int->Int->V}(x y:V)(H:Hp)(Q:VK)(h:mI C g x y H Q):rI C g x y H Q:=by
 cases x with
 |int i=>
  cases y with
  |int j=>exact⟨i,j,rfl,rfl,h.1,h.2⟩
  |_=>exact h.elim
 |_=>exact h.elim
def pC{g:Int->Int->V}(x y:V)(H:Hp)(Q:VK)(h:FQ g x y H Q):NQ g x y H Q:=by
 cases x with
 |int i=>
  cases y with
  |int j=>exact⟨i,j,rfl,rfl,h⟩
  |_=>exact h.elim
 |_=>exact h.elim
def ZcL:R2:=λx y H Q=>match x,y with
 | .int i,.int j=>Q (.int (i+j)) H
 | .str i,.str j=>i.length+j.length<=sizeLine/\Q (.str (i++j)) H
 |_,_=>False
def Zap:ŭ X (binaryOp .Add) ZcL:=ŭ.wk (YJ.or zO) λx y H Q h=>by
 cases x with
 |int i=>
  cases y with
  |int j=>exact .inl ⟨i,j,rfl,rfl,h⟩
  |_=>exact h.elim
 |str i=>
  cases y with
  |str j=>exact .inr ⟨i,j,rfl,rfl,h.1,h.2⟩
  |_=>exact h.elim
 |_=>exact h.elim
def Zaq:ŭ X (binaryOp .Sub) (FQ λi j=>.int (i-j)):=ŭ.wk YK pC
def tH(i j:Int):Prop:=YH i j\/(Builtin.Int.intBits i<=1048576/\Builtin.Int.intBits j<=1048576)
theorem tH.ok{i j:Int}(h:tH i j):IntMulOk i j:=by
 rcases h with h|⟨h1,h2⟩
 ·exact h.ok
 ·exact IntMulOk.of_le h1 h2 (by decide)
def Zar:ŭ X (binaryOp .Mult) (mI tH λi j=>.int (i*j)):=ŭ.wk (CN (C:=tH) (g:=λi j=>i*j) λ_ _ _ _ _ _ _ hc q=>mul_int q hc.ok) tE
def FT(_ j:Int):Prop:=j≠0/\Builtin.Int.intBits j<=8000
def FT.py{i j:Int}(h:FT i j):Builtin.divisionGoesByPylong i j=false:=by
 refine PyProof.noPylong_of_log2 ?_
 have hb:=intBits_le_iff.mp h.2
 have h0:j.natAbs≠0:=by have:=h.1;omega
 exact Nat.lt_of_lt_of_le ((Nat.log2_lt h0).mpr hb) (by decide)
def Om:ŭ X (binaryOp .FloorDiv) (mI FT λi j=>.int (i.fdiv j)):=ŭ.wk (CN (C:=FT) (g:=λi j=>i.fdiv j) λ_ _ _ _ _ _ _ hc q=>floordiv_int hc.1 q (.inl hc.py)) tE
def Zas:ŭ X (binaryOp .Mod) (mI (λ_ j=>j≠0) λi j=>.int (i.fmod j)):=ŭ.wk NT tE
def lF:ŭ X (binaryOp .Pow) (mI Fw λi j=>.int (i ^ j.toNat)):=ŭ.wk YL tE
def iI:ŭ X (compareOp .Lt) (FQ λi j=>.bl (decide (i<j))):=ŭ.wk Zcy pC
def dw:ŭ X (compareOp .LtE) (FQ λi j=>.bl (decide (i<=j))):=ŭ.wk Zcz pC
def ZcM:ŭ X (compareOp .GtE) (FQ λi j=>.bl (decide (j<=i))):=ŭ.wk ZcA pC
def mU(g:Int->V):V->Hp->VK->Prop:=λx H Q=>match x with
 | .int i=>Q (g i) H
 |_=>False
def gn:NP X (unaryOp .USub) (mU λi=>.int (-i)):=NP.wk YT λx H Q h=>by
 cases x with
 |int i=>exact⟨i,rfl,h⟩
 |_=>exact h.elim
def mAbs:List V->Hp->VK->Prop:=λxs H Q=>match xs with
 | [.int i]=>Q (.int (if i<0 then -i else i)) H
 |_=>False
def Zat:ř X (.builtin "abs") mAbs:=ř.wk Hq λxs H Q h=>by
 unfold mAbs at h
 split at h
 ·exact⟨_,rfl,h⟩
 ·exact h.elim
def Zau(K:PySem.W.Frag):List V->Hp->VK->Prop:=λxs H Q=>match xs with
 | [.str y]=>y.length<=sizeLine/\Q (.int (y.length:Int)) H
 | [.ref p]=>∃ys,(ū K H p ys\/bO K H p ys)/\Q (.int (ys.length:Int)) H
 |_=>False
def ņ:ř X (.builtin "len") (Zau X.K):=ř.wk Hr λxs H Q h=>by
 unfold Zau at h
 split at h
 ·exact⟨_,_,rfl,⟨h.1,rfl⟩,h.2⟩
 ·obtain⟨ys,h1,h2⟩:=h
  refine⟨_,ys.length,rfl,?_,h2⟩
  rcases h1 with h1|h1
  ·exact .inl ⟨ys,h1,rfl⟩
  ·exact .inr ⟨ys,h1,rfl⟩
 ·exact h.elim
def mIx(K:PySem.W.Frag):R2:=λx y H Q=>match x,y with
 | .ref p,.int i=>∃xs v,(ū K H p xs\/bO K H p xs)/\rT xs i=some v/\Q v H
 | .str z,.int i=>∃c,z.length<=sizeLine/\rT z.cps.toList i=some c/\Q (.str ⟨#[c]⟩) H
 |_,_=>False
def ZcN:Ad X (mIx X.K):=Ad.wk Zah λx y H Q h=>by
 cases x with
 |ref p=>
  cases y with
  |int i=>
   obtain⟨xs,v,h1,h2,h3⟩:=h
   rcases h1 with h1|h1
   ·exact .inl ⟨p,xs,i,v,rfl,rfl,h1,h2,h3⟩
   ·exact .inr (.inl ⟨p,xs,i,v,rfl,rfl,h1,h2,h3⟩)
  |_=>exact h.elim
 |str z=>
  cases y with
  |int i=>
   obtain⟨c,h1,h2,h3⟩:=h
   exact .inr (.inr ⟨z,i,c,rfl,rfl,h1,h2,h3⟩)
  |_=>exact h.elim
 |_=>exact h.elim
def iOf(x:V)(k:Int->Prop):Prop:=match x with
 | .int i=>k i
 |_=>False
def ZcO(t:TE):TO:=λσ H Q=>t σ H λx H1=>iOf x λi=>Q (some i) H1
def HW(h:PE X e te):PO X (some e) (ZcO te):=by
 intro pins s σ H Q I hw
 rw[evalPart_some]
 refine ŕ (h pins s σ H _ I hw) λu s1 ⟨x,H1,I1,r1,q1⟩=>?_
 cases x with
 |int i=>
  obtain⟨t,rfl⟩:=r1
  exact⟨some i,H1,I1,.int i t,q1⟩
 |_=>exact q1.elim
def Zfc(K:PySem.W.Frag):V->Option Int->Option Int->Hp->VK->Prop:=λx lo hi H Q=>match x with
 | .ref a=>∃xs,ū K H a xs/\∀p,H p=none->Q (.ref p) (upd H p (.lst (ji xs lo hi)))
 |_=>False
def HX:Ab X (Zfc X.K):=Ab.wk Oh λx lo hi H Q h=>by
 cases x with
 |ref a=>
  obtain⟨xs,h1,h2⟩:=h
  exact⟨a,xs,rfl,h1,h2⟩
 |_=>exact h.elim
end
end M2
namespace M2
open PySem PySem.Spec PyProof.Rows L2
section
variable{X:Cx}{tg:Expr}
end
mutual
def Rp(K:PySem.W.Frag)(H:Hp):PyData->V->Prop
 | .none,v=>v=.non
 | .bool b,v=>v=.bl b
 | .int i,v=>v=.int i
 | .str x,v=>v=.str x
 | .tuple ds,v=>∃a xs,v=.ref a/\bO K H a xs/\iJ K H ds xs
 | .list ds,v=>∃a xs,v=.ref a/\ū K H a xs/\iJ K H ds xs
 | .dict _,_=>False
def iJ(K:PySem.W.Frag)(H:Hp):List PyData->List V->Prop
 | [],xs=>xs=[]
 |d::ds,xs=>∃x r,xs=x::r/\Rp K H d x/\iJ K H ds r
end
def Same.tup{K:PySem.W.Frag}{H H':Hp}{a:Addr}{xs:List V}(e:Same H H')(h:bO K H a xs):bO K H' a xs:=by
 rcases h with(h|⟨o,h⟩)|h
 ·exact .inl (.inl (e _ _ h))
 ·exact .inl (.inr ⟨o,e _ _ h⟩)
 ·exact .inr h
theorem Same.upd{H:Hp}{p:Addr}{o:HO}(h:H p=none):Same H (upd H p o):=λb u e=>by
 rw[Ĝ (Ħ e h)]
 exact e
mutual
theorem Rp.same{K:PySem.W.Frag}{H H':Hp}(e:Same H H'):∀(d:PyData) (v:V),Rp K H d v->Rp K H' d v
 | .none,_,h=>by unfold Rp at h ⊢;exact h
 | .bool _,_,h=>by unfold Rp at h ⊢;exact h
 | .int _,_,h=>by unfold Rp at h ⊢;exact h
 | .str _,_,h=>by unfold Rp at h ⊢;exact h
 | .tuple ds,_,h=>by
   unfold Rp at h ⊢
   obtain⟨a,xs,h1,h2,h3⟩:=h
   exact⟨a,xs,h1,Same.tup e h2,iJ.same e ds xs h3⟩
 | .list ds,_,h=>by
   unfold Rp at h ⊢
   obtain⟨a,xs,h1,h2,h3⟩:=h
   exact⟨a,xs,h1,e.seq h2,iJ.same e ds xs h3⟩
 | .dict _,_,h=>by unfold Rp at h;exact h.elim
theorem iJ.same{K:PySem.W.Frag}{H H':Hp}(e:Same H H'):∀(ds:List PyData) (xs:List V),iJ K H ds xs->iJ K H' ds xs
 | [],_,h=>by unfold iJ at h ⊢;exact h
 |d::ds,_,h=>by
  unfold iJ at h ⊢
  obtain⟨x,r,h1,h2,h3⟩:=h
  exact⟨x,r,h1,Rp.same e d x h2,iJ.same e ds r h3⟩
end
section
variable{X:Cx}{pins:List (Addr×Obj)}{σ:L2.St}{H:Hp}{s:Shared}
mutual
theorem Rp.reads(I:Inv X pins σ H s):∀(d:PyData) (v:V) (u:Value),Rp X.K H d v->RelV v u->∃as,Reads s.heap u d as
 | .none,v,u,h,r=>by
   unfold Rp at h;subst h;cases r;exact⟨_,.none⟩
 | .bool b,v,u,h,r=>by
   unfold Rp at h;subst h;cases r;exact⟨_,.bool b⟩
 | .int i,v,u,h,r=>by
   unfold Rp at h;subst h;obtain⟨t,rfl⟩:=r;exact⟨_,.int i t⟩
 | .str x,v,u,h,r=>by
   unfold Rp at h;subst h;obtain⟨t,rfl⟩:=r;exact⟨_,.str x t⟩
 | .tuple ds,v,u,h,r=>by
   unfold Rp at h
   obtain⟨a,xs,h1,h2,h3⟩:=h
   subst h1
   cases r
   obtain⟨its,rv,⟨o,e,hc,n,hd⟩,hz⟩:=I.tuple h2
   obtain⟨as,ra⟩:=iJ.reads I ds xs its h3 rv
   exact⟨_,.tuple e hc hd (by simpa using ra)⟩
 | .list ds,v,u,h,r=>by
   unfold Rp at h
   obtain⟨a,xs,h1,h2,h3⟩:=h
   subst h1
   cases r
   obtain⟨its,rv,⟨o,n,e,hc,hdd,hd⟩,hz⟩:=I.list h2
   obtain⟨as,ra⟩:=iJ.reads I ds xs its h3 rv
   exact⟨_,.list e hc hd (by simpa using ra)⟩
 | .dict _,_,_,h,_=>by unfold Rp at h;exact h.elim
theorem iJ.reads(I:Inv X pins σ H s):∀(ds:List PyData) (xs:List V) (us:List Value),iJ X.K H ds xs->Vals xs us->∃as,ReadsAll s.heap us ds as
 | [],xs,us,h,r=>by
   unfold iJ at h;subst h;cases r;exact⟨_,.nil⟩
 |d::ds,xs,us,h,r=>by
  unfold iJ at h
  obtain⟨x,q,h1,h2,h3⟩:=h
  subst h1
  cases r with
  |cons r1 r2=>
   obtain⟨as,ra⟩:=Rp.reads I d x _ h2 r1
   obtain⟨bs,rb⟩:=iJ.reads I ds q _ h3 r2
   exact⟨_,.cons ra rb⟩
end
end
def Oo(K:PySem.W.Frag)(neg:Bool):R2:=λx y H Q=>∃d e,Rp K H d x/\Rp K H e y/\d.canLay0=true/\e.canLay0=true/\min d.depth e.depth<=60/\Q (.bl (if neg then !PyData.eqv d e else PyData.eqv d e)) H
section
variable{X:Cx}
def HY(hu:X.A.units+64<cLine):ŭ X (compareOp .Eq) (Oo X.K false):=by
 intro pins s σ H x y v u Q I rx ry h
 obtain⟨d,e,h1,h2,h3,h4,h5,q⟩:=h
 obtain⟨as,ra⟩:=Rp.reads I d x v h1 rx
 obtain⟨bs,rb⟩:=Rp.reads I e y u h2 ry
 exact SeqAt.compareEq_reads ra rb h3 h4 (by omega) ⟨.bl _,H,I,rfl,q⟩
def pD(hu:X.A.units+64<cLine):ŭ X (compareOp .NotEq) (Oo X.K true):=by
 intro pins s σ H x y v u Q I rx ry h
 obtain⟨d,e,h1,h2,h3,h4,h5,q⟩:=h
 obtain⟨as,ra⟩:=Rp.reads I d x v h1 rx
 obtain⟨bs,rb⟩:=Rp.reads I e y u h2 ry
 exact SeqAt.compareNe_reads ra rb h3 h4 (by omega) ⟨.bl _,H,I,rfl,q⟩
end
section
variable{K:PySem.W.Frag}
end
end M2
namespace M3
open PySem PySem.Spec PyProof.Rows L2 M2
def Dd{P:Program}{w:World}{H:Hp}{h h':Heap}{C:Addr}(x:jz P w H h)(hC:H C=none)(k:∀b u,b≠C->h.get? b=some u->h'.get? b=some u):jz P w H h':=λa o e=>
 (x a o e).stay (fun b u hb q=>k b u (by
   rcases hb with hb|hb
   ·rw[hb];exact Ħ e hC
   ·exact Ħ hb hC) q) (λ_ q=>q) λ_ _ q=>q
theorem jj{env:Env}:∀(ns:List (Str×NameKind)) (cs:List (Str×Addr)),(∀y∈ns,y.2=.free->∃c,env.cells.lookup y.1=some c)->(∀x c,cs.lookup x=some c->env.cells.lookup x=some c)->
 ∃cl,(forIn ns cs (λ(x:Str×NameKind) r=>if(x.2== .free)=true then(do let c <-cellOf env x.1;pure (ForInStep.yield ((x.1,c)::r))) else pure (ForInStep.yield r)):Sem (List (Str×Addr)))=pure cl/\
  (∀x c,cl.lookup x=some c->env.cells.lookup x=some c)/\(∀x,(∃c,cs.lookup x=some c)->∃c,cl.lookup x=some c)/\∀y∈ns,y.2=.free->∃c,cl.lookup y.1=some c
 | [],cs,_,h2=>⟨cs,rfl,h2,λ_ z=>z,λ_ z=>nomatch z⟩
 |(n,k)::ns,cs,h1,h2=>by
  by_cases hk:k=.free
  ·subst hk
   obtain⟨c,hc⟩:=h1 (n,.free) List.mem_cons_self rfl
   have e:cellOf env n=pure c:=by unfold cellOf;rw[hc]
   have h2':∀x d,((n,c)::cs).lookup x=some d->env.cells.lookup x=some d:=λx d q=>by
    rw[List.lookup_cons] at q
    cases hx:x== n with
    |true=>
     rw[hx] at q
     have:x=n:=eq_of_beq hx
     subst this
     cases q
     exact hc
    |false=>
     rw[hx] at q
     exact h2 x d q
   obtain⟨cl,q1,q2,q3,q4⟩:=jj ns ((n,c)::cs) (λy hy=>h1 y (List.mem_cons_of_mem _ hy)) h2'
   refine⟨cl,?_,q2,λx ⟨d,hd⟩=>q3 x ?_,λy hy hf=>?_⟩
   ·rw[List.forIn_cons]
    simp only[beq_self_eq_true,if_true,e,pure_bind]
    exact q1
   ·rw[List.lookup_cons]
    cases hx:x== n with
    |true=>exact⟨c,rfl⟩
    |false=>exact⟨d,hd⟩
   ·rcases List.mem_cons.mp hy with rfl|hy
    ·exact q3 n ⟨c,by rw[List.lookup_cons,beq_self_eq_true]⟩
    ·exact q4 y hy hf
  ·have hb:(k== NameKind.free)=false:=by simpa using hk
   obtain⟨cl,q1,q2,q3,q4⟩:=jj ns cs (λy hy=>h1 y (List.mem_cons_of_mem _ hy)) h2
   refine⟨cl,?_,q2,q3,λy hy hf=>?_⟩
   ·rw[List.forIn_cons]
    simp only[hb,Bool.false_eq_true,if_false,pure_bind]
    exact q1
   ·rcases List.mem_cons.mp hy with rfl|hy
    ·exact absurd hf hk
    ·exact q4 y hy hf
def eG{scope:Scope}{env:Env}(h:∀y∈scope.names,y.2=.free->∃c,env.cells.lookup y.1=some c) :
 ∃cl,closureFor scope env=pure cl/\(∀x c,cl.lookup x=some c->env.cells.lookup x=some c)/\∀y∈scope.names,y.2=.free->∃c,cl.lookup y.1=some c:=by
 obtain⟨cl,q1,q2,_,q4⟩:=jj (env:=env) scope.names [] h (λx c z=>by simp at z)
 refine⟨cl,?_,q2,q4⟩
 unfold closureFor
 have e:(forIn scope.names [] (λ(x:Str×NameKind) (r:List (Str×Addr))=>match x with
  |(name,kind)=>if(kind== .free)=true then(do let a <-cellOf env name;pure (ForInStep.yield ((name,a)::r))) else pure (ForInStep.yield r)):Sem (List (Str×Addr)))=pure cl:=q1
 first
  |(simp only[bind_pure];exact q1)
  |(rw[show ∀(t:Sem (List (Str×Addr))),(do let r <-t;pure r)=t from λt=>by simp];exact q1)
  |(simp only[q1,pure_bind])
def cT(X:Cx)(N':List Str)(scope:Scope)(cl:List (Str×Addr))(C:Addr)(s:Shared)(H:Hp)(fp:List Addr):Cx where
 prog:=X.prog
 w:=X.w
 K:=X.K
 mg:=X.mg
 base:=X.base
 A:=X.A
 N:=N'
 s₀:= s
 H₀:= H
 env:=compEnvC scope cl C X.env
 outer:=X.stack
 stack:=X.stack
 ex:=fp
 fn:=λx=>scope.names.lookup x== some .cell
 calm:=X.calm
 pn:=[]
 xe:=λ_ _=>False
def dz(X:Cx)(sc scope:Scope):List Str->List Nat->Prop
 |x::xs,j::js=>X.N[j]?=some x/\(scope.names.lookup x=some .free/\(sc.names.lookup x=some .cell\/sc.names.lookup x=some .free))/\dz X sc scope xs js
 |_,[]=>True
 | [],_::_=>False
def dB(js:List Nat)(nl:Nat)(σ:L2.St):L2.St:=js.map (λj:Nat=>(σ[j]?).getD none)++List.replicate nl none
theorem lG{X:Cx}{sc scope:Scope}{σ:L2.St}{nl:Nat}:∀{N':List Str} {js:List Nat} {i:Nat} {x:Str} {v:V},dz X sc scope N' js->N'[i]?=some x->(dB js nl σ)[i]?=some (some v)->
 ∃j:Nat,X.N[j]?=some x/\σ[j]?=some (some v)/\scope.names.lookup x=some .free/\(sc.names.lookup x=some .cell\/sc.names.lookup x=some .free)
 |N',[],i,x,v,_,_,h=>by
  unfold dB at h
  rw[List.map_nil,List.nil_append,List.getElem?_replicate] at h
  split at h<;>cases h
 | [],_::_,_,_,_,c,_,_=>c.elim
 |y::N',j::js,0,x,v,c,h1,h2=>by
  obtain⟨c1,c2,_⟩:=c
  simp at h1
  subst h1
  have e:(σ[j]?).getD none=some v:=by simpa[dB] using h2
  refine⟨j,c1,?_,c2⟩
  cases q:σ[j]? with
  |none=>rw[q] at e;cases e
  |some o=>rw[q] at e;exact congrArg some e
 |y::N',j::js,i+1,x,v,c,h1,h2=>by
  exact lG (N':=N') (js:=js) (i:=i) c.2.2 (by simpa using h1) (by simpa[dB] using h2)
section
variable{prog:Program}{w:World}{A:Around}{R:Result->Shared->Prop}{s:Shared}
def jD{elt target iter:Expr}{ifs:List Expr}{scope:Scope}{pos:Pos}{it acc:Value}{env:Env}(I:Nat->Shared->Prop)
 (turn:∀n s,I n s→wpAny (model prog w) A (pyNext it) (fun r s₁=>match r with
   |none=>R (.ok .next) s₁
   |some v=>wpAny (model prog w) A (letOwnedTupleGo target it v) (fun _ s₁'=>wpAny (model prog w) A (assign target env v) (fun _ s₂=>
     wpAny (model prog w) A (forIn ifs true λc r=>if r=true then do let ok <-isTrue c env (eval c env);pure (ForInStep.yield ok) else pure (ForInStep.yield r)) (λok s₃=>
      if ok=true then wpAny (model prog w) A (eval elt env) (λx s₄=>
       wpAny (model prog w) A (call (.builtin "list.append") [acc,x]) (λ_ s₅=>∃m,m<n/\I m s₅) (λ_ _=>False) s₄) (λ_ _=>False) s₃
      else ∃m,m<n/\I m s₃) (λ_ _=>False) s₂) (λ_ _=>False) s₁') (λ_ _=>False) s₁) (λ_ _=>False) s)
 (n:Nat)(h:I n s) :
 codeAny (model prog w) A (.compLoop (.ListComp elt [⟨target,iter,ifs,0⟩] scope pos) 0 it acc env) R s:=by
 refine codeAny_loop rfl I (λn s hI=>?_) n h
 show wpAny _ A ((compTurn (.ListComp elt [⟨target,iter,ifs,0⟩] scope pos) 0 it acc env).onRaise (λx=>do noteFrame x env;theTreesLotGoes x)) _ _ s
 refine wpAny_noted (wpAny_noRaise ?_)
 rw[compTurn_list]
 refine wpAny_bind (wpAny_standAt (wpAny_bind (wpAny_mono (turn n s hI) (λr s₁ h₁=>?_) λ_ _ h'=>h')))
 cases r with
 |none=>exact wpAny_pure h₁
 |some v=>
  refine wpAny_bind (wpAny_mono h₁ (λ_ s₁' h₁'=>?_) λ_ _ h'=>h')
  refine wpAny_bind (wpAny_mono h₁' (λ_ s₂ h₂=>wpAny_bind (wpAny_mono h₂ (λok s₃ h₃=>?_) λ_ _ h'=>h')) λ_ _ h'=>h')
  cases ok with
  |false=>exact wpAny_pure ⟨rfl,h₃⟩
  |true=>
   exact wpAny_bind (wpAny_bind (wpAny_mono h₃ (λx s₄ h₄=>wpAny_bind (wpAny_mono h₄ (λ_ s₅ h₅=>wpAny_pure (wpAny_pure ⟨rfl,h₅⟩)) λ_ _ h'=>h')) λ_ _ h'=>h'))
end
def GF(X:Cx)(ifs:List Expr)(t:TT):Prop:=
 ∀(pins:List (Addr×Obj)) (s:Shared) (σ:L2.St) (H:Hp) (Q:Bool->Hp->Prop),Inv X pins σ H s->t σ H Q->
  wpAny (model X.prog X.w) X.A (forIn ifs true λc r=>if r=true then do let ok <-isTrue c X.env (eval c X.env);pure (ForInStep.yield ok) else pure (ForInStep.yield r)) (TP X pins σ Q) X.xe s
def Zfd:TT:=λ_ H Q=>Q true H
def Oq{X:Cx}:GF X [] Zfd:=λ_ _ _ H _ I h=>wpAny_tests_nil ⟨H,I,h⟩
def Ot{X:Cx}{c:Expr}{t:TT}(h:PT X c t):GF X [c] t:=λpins s σ H Q I hw=>wpAny_tests_one (h pins s σ H Q I hw)
def H_(js:List Nat)(nl:Nat)(wi:TI)(g:TG)(tt:TT)(te:TE):TE:=λσ H Q=>wi σ H λJ H1=>∀D,H1 D=none->
 ∃W:Nat->Nat->L2.St->Hp->Prop,(∃m,W 0 m (dB js nl σ) (upd H1 D (.lst [])))/\∀i m σ' H',W i m σ' H'->
  (J.stop i H'∧Q (.ref D) H')∨(J.go i H'∧∃N:L2.St→Hp→Prop,(∀σ2 H2,N σ2 H2→∃m',m'<m∧W (i+1) m' σ2 H2)∧∀x H2,J.yld i H' x H2→g x σ' H2 fun σ2 H3=>tt σ2 H3 fun c H4=>
    if c=true then te σ2 H4 λy H5=>∃ys,H5 D=some (.lst ys)/\ys.length<sizeLine/\N σ2 (upd H5 D (.lst (ys ++ [y]))) else N σ2 H4)
section
variable{X:Cx}{elt tg iter:Expr}{ifs:List Expr}{scope:Scope}{pos:Pos}{wi:TI}{g:TG}{tt:TT}{te:TE}
theorem eN{env:Env}:∀{names:List (Str×NameKind)} {x:Str} {k:NameKind},(k=.cell\/k=.free)->
 (names.map λ(n,k)=>if(k== NameKind.free && env.scope.kind== .function && env.kindOf n== some .cell) then(n,NameKind.cell) else(n,k)).lookup x=some k->(x,NameKind.free)∈names\/(x,NameKind.cell)∈names
 | [],x,k,_,h=>by simp at h
 |(n,q)::r,x,k,hk,h=>by
  have ih:=@eN env r x k hk
  rw[List.map_cons] at h
  by_cases hx:x=n
  ·subst hx
   by_cases hf:q=.free
   ·subst hf
    exact .inl List.mem_cons_self
   ·have hb:(q== NameKind.free)=false:=by simpa using hf
    have e:(if(q== NameKind.free && env.scope.kind== .function && env.kindOf x== some .cell)=true then(x,NameKind.cell) else(x,q))=(x,q):=by
     rw[hb];rfl
    have h2:=h
    simp only[e,List.lookup_cons,beq_self_eq_true] at h2
    have:q=k:=Option.some.inj h2
    rcases hk with hk|hk
    ·rw[this,hk]
     exact .inr List.mem_cons_self
    ·exact absurd (this.trans hk) hf
  ·have hn:(x== n)=false:=by simpa using hx
   have h3:(x,NameKind.free)∈r\/(x,NameKind.cell)∈r:=ih (by
    by_cases c:(q== NameKind.free && env.scope.kind== .function && env.kindOf n== some .cell)=true
    ·simp only[c,if_true,List.lookup_cons,hn] at h
     exact h
    ·simp only[c,if_false,Bool.false_eq_true,List.lookup_cons,hn] at h
     exact h)
   rcases h3 with h3|h3
   ·exact .inl (List.mem_cons_of_mem _ h3)
   ·exact .inr (List.mem_cons_of_mem _ h3)
theorem Ť:∀(names:List (Str×NameKind)) (n:Nat) (acc:List (Str×Addr)),cellsFrom n names acc=cellsFrom n names []++acc
 | [],_,_=>rfl
 |(x,k)::r,n,acc=>by
  unfold cellsFrom
  split
  ·rw[Ť r (n+1) ((x,n)::acc),Ť r (n+1) [(x,n)],List.append_assoc]
   rfl
  ·exact Ť r n acc
theorem eO:∀(names:List (Str×NameKind)) (n:Nat) {x:Str} {c:Addr},(x,c)∈cellsFrom n names []->(x,NameKind.cell)∈names
 | [],_,_,_,h=>by simp[cellsFrom] at h
 |(y,k)::r,n,x,c,h=>by
  unfold cellsFrom at h
  split at h
  ·rename_i hk
   rw[Ť r (n+1) [(y,n)]] at h
   rcases List.mem_append.mp h with h|h
   ·exact List.mem_cons_of_mem _ (eO r _ h)
   ·have e:(x,c)=(y,n):=by simpa using h
    cases e
    rw[beq_iff_eq.mp hk]
    exact List.mem_cons_self
  ·exact List.mem_cons_of_mem _ (eO r _ h)
structure Blk(X:Cx)(scope:Scope)(n:Nat)(h:Heap)(cl:List (Str×Addr)):Prop where
 at_:∀x c,cl.lookup x=some c->(X.env.cells.lookup x=some c/\scope.names.lookup x≠some .cell)\/(n<c/\h.IsCell c none/\scope.names.lookup x=some .cell)
 inj:∀x y c,cl.lookup x=some c->cl.lookup y=some c->n<c->x=y
 has:∀x,((x,NameKind.free)∈scope.names\/(x,NameKind.cell)∈scope.names)->∃c,cl.lookup x=some c
def Ia{X:Cx}{scope:Scope}{n:Nat}{h:Heap}{cl:List (Str×Addr)}(hcell:∀y∈scope.names,y.2=.cell->scope.names.lookup y.1=some .cell)
 (h1:∀x c,cl.lookup x=some c->X.env.cells.lookup x=some c)(h2:∀y∈scope.names,y.2=.free->∃c,cl.lookup y.1=some c)(hlt:∀x c,X.env.cells.lookup x=some c->c<n)
 (ok:CellsOk h (n+1) (cellsFrom (n+1) scope.names [])):Blk X scope n h (cellsFrom (n+1) scope.names cl):=by
 have sp:∀x c,(cellsFrom (n+1) scope.names cl).lookup x=some c->(cl.lookup x=some c/\(cellsFrom (n+1) scope.names []).lookup x=none)\/(cellsFrom (n+1) scope.names []).lookup x=some c:=λx c e=>by
  rw[Ť,List.lookup_append] at e
  cases q:(cellsFrom (n+1) scope.names []).lookup x with
  |none=>rw[q] at e;exact .inl ⟨by simpa using e,rfl⟩
  |some d=>rw[q] at e;exact .inr (by simpa using e)
 refine⟨λx c e=>?_,λx y c e1 e2 hc=>?_,λx hx=>?_⟩
 ·rcases sp x c e with⟨e,q⟩|e
  ·refine .inl ⟨h1 x c e,λz=>?_⟩
   obtain⟨d,hd⟩:=jB (sc:=scope) (n:=n+1) z
   rw[hd] at q
   cases q
  ·have m:=mem_of_lookup e
   exact .inr ⟨(ok.empty x c m).2,(ok.empty x c m).1,hcell _ (eO _ _ m) rfl⟩
 ·have nw:∀z,(cellsFrom (n+1) scope.names cl).lookup z=some c→(cellsFrom (n+1) scope.names []).lookup z=some c:=fun z e=>by
   rcases sp z c e with⟨e,q⟩|e
   ·exact absurd (hlt z c (h1 z c e)) (Nat.lt_asymm hc)
   ·exact e
  exact name_of_addr ok.apart (mem_of_lookup (nw x e1)) (mem_of_lookup (nw y e2))
 ·rw[Ť,List.lookup_append]
  rcases hx with hx|hx
  ·obtain⟨c,hc⟩:=h2 _ hx rfl
   cases q:(cellsFrom (n+1) scope.names []).lookup x with
   |none=>exact⟨c,by simpa using hc⟩
   |some d=>exact⟨d,rfl⟩
  ·obtain⟨d,hd⟩:=jB (sc:=scope) (n:=n+1) (hcell _ hx rfl)
   rw[hd]
   exact⟨d,rfl⟩
def iK{M:Model}{A:Around}{E:Value->Shared->Prop}{s:Shared}{scope:Scope}{globals:Addr}{closure:List (Str×Addr)}{qual:Str}
 {func:Option Addr}{code:Value}{env0:Env}{builtins:Addr}{Q:Env->Shared->Prop}
 (hQ:∀h',h'.Ns s.heap.objs.size (fun _=>none)→(∀b o,s.heap.get? b=some o→h'.get? b=some o)→CellsOk h' (s.heap.objs.size+1) (cellsFrom (s.heap.objs.size+1) scope.names [])→
   Q (newEnv scope s.heap.objs.size globals (cellsFrom (s.heap.objs.size+1) scope.names closure) qual func code (some env0) builtins) {s with heap:=h'}) :
 wpAny M A (newFunctionEnv scope globals closure [] qual func code (some env0) builtins) Q E s:=by
 simp only[newFunctionEnv,Option.isSome_some,if_true]
 refine wpAny_bind (wpAny_alloc ?_)
 refine wpAny_bind (wpAny_layCells _ (λname kind cells=>by cases hkc:kind== NameKind.cell<;>simp[hkc]) _ _ _ _ ?_)
 have ok:=cellsFrom_ok scope.names (s.heap.push {cls:=.type "dict",data:=.dict #[]}) (s.heap.objs.size+1) [] ⟨λ_ _ hm=>(nomatch hm),List.Pairwise.nil⟩ (by rw[Heap.size_push];exact Nat.le_refl _)
 rw[Heap.size_push] at ok
 rw[show({s with heap:=s.heap.push {cls:=.type "dict",data:=.dict #[]}}:Shared).heap.objs.size=s.heap.objs.size+1 from Heap.size_push ..]
 refine wpAny_bind ?_
 rw[List.forIn_nil]
 exact wpAny_pure (wpAny_pure (hQ _ ((Heap.Ns.new s.heap (.type "dict")).keeps (pushCells_keeps _ _)) (λb o e=>pushCells_keeps _ _ b o (Heap.get?_push_of_some _ e)) ok))
theorem jE{env:Env}:∀{names:List (Str×NameKind)} {x:Str},names.lookup x=some .free->
 ¬(names.map λ(n,k)=>if(k== NameKind.free && env.scope.kind== .function && env.kindOf n== some .cell) then(n,NameKind.cell) else(n,k)).lookup x=some .local
 | [],x,h=>by simp at h
 |(n,q)::r,x,h=>by
  intro h2
  rw[List.map_cons] at h2
  rw[List.lookup_cons] at h
  cases hx:x== n with
  |true=>
   rw[hx] at h
   cases h
   by_cases c:(NameKind.free== NameKind.free && env.scope.kind== .function && env.kindOf n== some .cell)=true
   ·simp only[c,if_true,List.lookup_cons,hx] at h2
    cases h2
   ·simp only[c,if_false,Bool.false_eq_true,List.lookup_cons,hx] at h2
    cases h2
  |false=>
   rw[hx] at h
   have ih:=jE (env:=env) h
   by_cases c:(q== NameKind.free && env.scope.kind== .function && env.kindOf n== some .cell)=true
   ·simp only[c,if_true,List.lookup_cons,hx] at h2
    exact ih h2
   ·simp only[c,if_false,Bool.false_eq_true,List.lookup_cons,hx] at h2
    exact ih h2
def tK{pins:List (Addr×Obj)}{σ:L2.St}{H:Hp}{s:Shared}{N':List Str}{js:List Nat}{nl:Nat}{sc:Scope}{cl:List (Str×Addr)}{fp:List Addr}{h':Heap}{tk:Nat}
 (hsc:X.env.scope=sc)(hk:scope.kind=.function)(hcap:dz X sc scope N' js)(hlen:js.length+nl=N'.length)(B:Blk X scope s.heap.objs.size h' cl)
 (I:Inv X pins σ H s)(hf:∀b∈fp,bx X pins H b)(hlt:∀b∈fp,b<s.heap.objs.size)
 (hn:h'.Ns s.heap.objs.size (λ_=>none))(kp:∀b o,s.heap.get? b=some o->h'.get? b=some o) :
 Inv (cT X N' scope cl s.heap.objs.size s H fp) [] (dB js nl σ) H {s with heap:=h',toks:=tk}:=by
 have Ib:∀x,((cT X N' scope cl s.heap.objs.size s H fp).env.kindOf x=some .cell\/(cT X N' scope cl s.heap.objs.size s H fp).env.kindOf x=some .free)->∃c,cl.lookup x=some c:=λx hx=>by
  rcases hx with hx|hx
  ·exact B.has x (eN (.inl rfl) hx)
  ·exact B.has x (eN (.inr rfl) hx)
 have lt:∀x c,X.env.cells.lookup x=some c->c<s.heap.objs.size:=λx c e=>by
  obtain⟨v,o,ho,_⟩:=I.cell x c e
  exact Heap.lt_size ho
 have inj:∀x y c,cl.lookup x=some c->cl.lookup y=some c->x=y:=λx y c e1 e2=>by
  rcases B.at_ x c e1 with⟨q1,_⟩|⟨q1,_⟩
  ·rcases B.at_ y c e2 with⟨q2,_⟩|⟨q2,_⟩
   ·exact I.ok.inj x y c q1 q2
   ·exact absurd (lt x c q1) (Nat.lt_asymm q2)
  ·exact B.inj x y c e1 e2 q1
 refine⟨⟨I.ok.mod,hk,I.ok.glob,I.ok.blt,Nat.le_refl _,inj,Ib,λx c z e=>by
  rcases B.at_ x c e with⟨_,q⟩|⟨q,_⟩
  ·exact absurd (beq_iff_eq.mp z) q
  ·exact Nat.le_of_lt q,I.ok.hd,I.ok.frames,.inl rfl,λb hb=>⟨Nat.ne_of_lt (hlt b hb),λx c e=>by
  rcases B.at_ x c e with⟨q,_⟩|⟨q,_⟩
  ·exact(hf b hb).2.2.2.2.1 x c q
  ·exact Nat.ne_of_gt (Nat.lt_trans (hlt b hb) q)⟩,
  I.bs,Nat.le_trans I.ok.Ng I.sz,fun b o e hb=>?_,fun b hb hz=>?_,I.stack,I.uM,I.tb⟩,rfl,I.bare,Un.kept kp,⟨_,hn,fun i x v e1 e2 e3=>?_⟩,fun x c e=>?_,I.hok.fresh (Nat.le_refl _),fun x c e=>by
    rcases B.at_ x c e with⟨q,_⟩|⟨q,_⟩
    ·exact I.fZ x c q
    ·exact I.hok.fresh (Nat.le_of_lt q),λp hp=>?_,I.hok.kept kp,?_⟩
 ·rcases(hf b hb).2.2.2.1 with z|z
  ·exact I.ok.Fo b o e z
  ·exact absurd (Nat.lt_of_lt_of_le (Heap.lt_size e) (Nat.le_trans I.ok.Ng z)) (Nat.lt_irrefl _)
 ·rcases List.mem_cons.mp (I.oW b hz) with z|z
  ·exact(hf b hb).2.1 z
  ·exact(hf b hb).2.2.1 z
 ·obtain⟨j,q1,q2,q0,q3⟩:=lG hcap e1 e2
  obtain⟨m,hm,hl⟩:=I.loc
  have Zav:zH X.env.scope x:=by
   rw[hsc]
   rcases q3 with q3|q3
   ·exact .inr (.inl q3)
   ·exact .inr (.inr q3)
  obtain⟨u,ru,lk⟩:=hl j x v q1 q2 Zav
  refine⟨u,ru,?_⟩
  rcases lk with⟨k1,_⟩|⟨k1,c,hc,ic⟩
  ·exfalso
   have k1':sc.names.lookup x=some .local:=by rw[<-hsc];exact k1
   rcases q3 with q3|q3<;>(rw[k1'] at q3;cases q3)
  ·have e3':(cT X N' scope cl s.heap.objs.size s H fp).env.kindOf x=some .local\/(cT X N' scope cl s.heap.objs.size s H fp).env.kindOf x=some .cell\/(cT X N' scope cl s.heap.objs.size s H fp).env.kindOf x=some .free:=e3
   rcases e3' with z|z
   ·exact absurd z (jE (env:=X.env) q0)
   ·obtain⟨d,hd⟩:=Ib x z
    have:d=c:=by
     rcases B.at_ x d hd with⟨q,_⟩|⟨_,_,q⟩
     ·rw[hc] at q
      exact(Option.some.inj q).symm
     ·rw[q0] at q
      cases q
    subst this
    exact .inr ⟨z,d,hd,by
     obtain⟨o,ho,hd'⟩:=ic
     exact⟨o,kp _ _ ho,hd'⟩⟩
 ·rcases B.at_ x c e with⟨q,_⟩|⟨_,q,_⟩
  ·obtain⟨v,o,ho,hd⟩:=I.cell x c q
   exact⟨v,o,kp _ _ ho,hd⟩
  ·exact⟨none,q⟩
 ·exact absurd hp (by simp[cT])
 ·show _=N'.length
  rw[<-hlen]
  simp[dB]
def pF{pins:List (Addr×Obj)}{σ σ':L2.St}{H H':Hp}{s s':Shared}{N':List Str}{cl:List (Str×Addr)}{fp:List Addr}{h':Heap}(I:Inv X pins σ H s)(hf:∀b∈fp,bx X pins H b)
 (J:Inv (cT X N' scope cl s.heap.objs.size s H fp) [] σ' H' s')(kp:∀b u,b≠s.heap.objs.size->s'.heap.get? b=some u->h'.get? b=some u):Inv X pins σ H' {s' with heap:=h'}:=by
 have ne:∀{b:Addr} {o:Obj},s.heap.get? b=some o->b≠s.heap.objs.size:=λe=>Nat.ne_of_lt (Heap.lt_size e)
 have u:=J.base
 refine I.call' (ch:=fp) J.os ⟨λb o e n hb hx=>kp b o (ne e) (u.keep b o e n hb hx),λb o e n hb hx=>?_,λb o e n hx=>u.free b o e n hx,λb o e hx=>?_,u.tups,u.rK,u.nD⟩ (Dd J.hok J.free kp) J.bare λb hb=>?_
 ·obtain⟨sl,q⟩:=u.slot b o e n hb hx
  exact⟨sl,kp b _ (ne e) q⟩
 ·obtain⟨o',q⟩:=u.there b o e hx
  exact⟨o',kp b _ (ne e) q⟩
 ·exact⟨(hf b hb).2.2.2.1,(hf b hb).2.1,(hf b hb).2.2.2.2.1,(hf b hb).2.2.2.2.2⟩
def Ou(N':List Str)(js:List Nat)(nl:Nat)(sc:Scope)(hsc:X.env.scope=sc)(hcalm:X.calm=true)
 (hi:PI X.Ŝ tg iter wi)(hg:∀cl C s H fp,PG (cT X.Ŝ N' scope cl C s H fp) tg g)(ht:∀cl C s H fp,GF (cT X.Ŝ N' scope cl C s H fp) ifs tt)(he:∀cl C s H fp,PE (cT X.Ŝ N' scope cl C s H fp) elt te)
 (hcap:dz X.Ŝ sc scope N' js)(hlen:js.length+nl=N'.length:=by rfl)
 (hk:scope.kind=.function:=by rfl)(hcell:∀y∈scope.names,y.2=.cell->scope.names.lookup y.1=some .cell:=by decide +kernel)(hnames:∀y∈scope.names,y.2=.local->scope.names.lookup y.1=some .local:=by decide +kernel)
 (hfree:∀y∈scope.names,y.2=.free->(sc.names.lookup y.1=some .cell\/sc.names.lookup y.1=some .free):=by decide +kernel)
 (hs:∀x,foldedSetIterable iter X.env x=pure x:=by intro _;rfl) :
 PE X.Ŝ (.ListComp elt [⟨tg,iter,ifs,0⟩] scope pos) (H_ js nl wi g tt te):=by
 intro pins s σ H Q I h
 obtain⟨cl0,c1,c2,c3⟩:=eG (scope:=scope) (env:=X.Ŝ.env) λy hy hf=>I.ok.has y.1 (by
  have:=hfree y hy hf
  rw[<-hsc] at this
  exact this)
 rw[eval_ListComp]
 refine wpAny_comprehension_free (use:=none) rfl hs c1 hk hnames (ŕ (hi pins s σ H _ I h) λv s1 h1=>ŕ h1 λitv s2 h2=>?_)
 obtain⟨it,fp,tn,J,H2,e,I2,T,st2,f2,q2⟩:=h2
 subst e
 refine wpAny_newObj_type (iK (λh₁ hns₁ old Zaw=>?_))
 dsimp only at hns₁ old Zaw ⊢
 generalize hH3:s2.heap.push {cls:=.type "list",dict:=none,data:=.seq ([]:List Value).toArray}=bL at hns₁ old Zaw ⊢
 have hD:H2 s2.heap.objs.size=none:=I2.hok.fresh (Nat.le_refl _)
 have I3:Inv X.Ŝ pins σ (upd H2 s2.heap.objs.size (.lst [])) {s2 with heap:=bL}:=by
  rw[<-hH3]
  exact I2.laid (t':=s2.toks) (λb u e=>Heap.get?_push_of_some _ e) (Nat.le_refl _) ⟨Nat.zero_le _,[],0,.nil,Heap.get?_push_size _ rfl⟩
 have Ie:∀b∈fp,b<s2.heap.objs.size:=λb hb=>by
  obtain⟨o,ho,_⟩:=T.obj 0 _ st2 b hb
  exact Heap.lt_size ho
 have sz3:bL.objs.size=s2.heap.objs.size+1:=by rw[<-hH3,Heap.size_push]
 have f3:∀b∈fp,bx X.Ŝ pins (upd H2 s2.heap.objs.size (.lst [])) b:=λb hb=>by
  obtain⟨g0,g1⟩:=f2 b hb
  exact⟨by rw[Ĝ (Nat.ne_of_lt (Ie b hb))];exact g0,g1⟩
 have B:=Ia (X:=X.Ŝ) (cl:=cl0) hcell c2 c3 (λx c e=>by
  obtain⟨v,o,ho,_⟩:=I3.cell x c e
  exact Heap.lt_size ho) Zaw
 generalize cellsFrom (bL.objs.size+1) scope.names cl0=cl at B ⊢
 obtain⟨W,⟨m0,w0⟩,turn⟩:=q2 s2.heap.objs.size hD
 have I4:=tK (X:=X.Ŝ) (N':=N') (js:=js) (nl:=nl) (sc:=sc) (scope:=scope) (cl:=cl) (fp:=fp) (h':=h₁) (tk:=s2.toks) hsc hk hcap hlen B I3 f3 (λb hb=>by show b<bL.objs.size;rw[sz3];exact Nat.lt_succ_of_lt (Ie b hb)) hns₁ old
 have st4:tn 0 h₁:= T.keep 0 _ _ st2 λb hb o e=>old b o (by rw[<-hH3];exact Heap.get?_push_of_some _ e)
 have fr4:∀b∈fp,(upd H2 s2.heap.objs.size (.lst [])) b=none:=λb hb=>(f3 b hb).1
 have stat:∀{H':Hp},(∀b∈fp,H' b=none)->∀b∈fp,bx (cT X.Ŝ N' scope cl bL.objs.size {s2 with heap:=bL} (upd H2 s2.heap.objs.size (.lst [])) fp) [] H' b:=fun{H'} hn b hb=>by
  obtain⟨g0,g1,g2,g3,g4,g5⟩:=f3 b hb
  refine⟨hn b hb,Nat.ne_of_lt (by show b<bL.objs.size;rw[sz3];exact Nat.lt_succ_of_lt (Ie b hb)),λz=>?_,.inl hb,λx c e=>by
   rcases B.at_ x c e with⟨q,_⟩|⟨q,_⟩
   ·exact g4 x c q
   ·exact Nat.ne_of_gt (Nat.lt_trans (by show b<bL.objs.size;rw[sz3];exact Nat.lt_succ_of_lt (Ie b hb)) q),λp hp=>absurd hp (by simp[cT])⟩
  rcases List.mem_cons.mp (I3.oW b z) with z|z
  ·exact g1 z
  ·exact g2 z
 have loop:∀s₃:Shared,s₃= {s2 with heap:=h₁}->
  codeAny (model X.prog X.w) X.A (.compLoop (.ListComp elt [⟨tg,iter,ifs,0⟩] scope pos) 0 (.ref it) (.ref s2.heap.objs.size) (compEnvC scope cl bL.objs.size X.Ŝ.env))
   (compPost (model X.prog X.w) X.A X.Ŝ.xe none (EP X.Ŝ pins σ Q) (.ref s2.heap.objs.size) bL.objs.size) s₃:= by
  rintro s₃ rfl
  refine jD (λn s'=>∃i σ' H',Inv (cT X.Ŝ N' scope cl bL.objs.size {s2 with heap:=bL} (upd H2 s2.heap.objs.size (.lst [])) fp) [] σ' H' s'/\tn i s'.heap/\(∀b∈fp,H' b=none)/\W i n σ' H') ?_ m0 ⟨0,_,_,I4,st4,fr4,w0⟩
  rintro n s5 ⟨i,σ5,H5,I5,NK,YD,w5⟩
  rcases turn i n σ5 H5 w5 with⟨stop,qn⟩|⟨go,N,hN,step⟩
  ·refine ŕ (T.done (cT X.Ŝ N' scope cl bL.objs.size {s2 with heap:=bL} (upd H2 s2.heap.objs.size (.lst [])) fp) rfl rfl rfl hcalm i [] s5 σ5 H5 (λ_ _=>False) I5 (stat YD) NK stop) λr s6 ⟨hr,I6⟩=>?_
   subst hr
   obtain⟨m,hm,_⟩:=I6.loc
   refine⟨m,hm,λh' hs'=>⟨.ref s2.heap.objs.size,H5,pF I3 f3 I6 (λb u hb e=>hs'.extBut b u hb e),rfl,qn⟩⟩
  ·refine ŕ (T.item (cT X.Ŝ N' scope cl bL.objs.size {s2 with heap:=bL} (upd H2 s2.heap.objs.size (.lst [])) fp) rfl rfl rfl hcalm i [] s5 σ5 H5 (λ_ _=>False) I5 (stat YD) NK go) λr s6 ⟨u,hr,h6⟩=>?_
   subst hr
   refine ŕ h6 λ_ s7 ⟨x,H7,I7,r7,y7,st7,fr7⟩=>?_
   have I7':=I7.pinned (stat fr7) (T.obj _ _ st7)
   have again:∀{s8:Shared} {σ8:L2.St} {H8:Hp},Inv (cT X.Ŝ N' scope cl bL.objs.size {s2 with heap:=bL} (upd H2 s2.heap.objs.size (.lst [])) fp) ([]++kZ fp s7.heap) σ8 H8 s8->
    Inv (cT X.Ŝ N' scope cl bL.objs.size {s2 with heap:=bL} (upd H2 s2.heap.objs.size (.lst [])) fp) [] σ8 H8 s8/\tn (i+1) s8.heap/\∀b∈fp,H8 b=none:=fun{s8 σ8 H8} I8=>by
    refine⟨I8.dg,T.keep _ _ _ st7 λb hb o e=>(I8.pin (b,o) (List.mem_append_right _ (List.mem_append_right _ (Ů hb e)))).1,λb hb=>?_⟩
    obtain⟨o,e,d⟩:=T.obj _ _ st7 b hb
    exact(I8.pin (b,o) (List.mem_append_right _ (List.mem_append_right _ (Ů hb e)))).2.1
   refine ŕ (hg cl _ _ _ fp _ s7 σ5 H7 x u _ I7' r7 (step x H7 y7)) λ_ s8 ⟨σ8,H8,I8,q8⟩=>?_
   refine ŕ (ht cl _ _ _ fp _ s8 σ8 H8 _ I8 q8) λc s9 ⟨H9,I9,q9⟩=>?_
   cases c with
   |false=>
    rw[if_neg Bool.false_ne_true] at q9 ⊢
    obtain⟨m',hm',w9⟩:=hN _ _ q9
    obtain⟨a1,a2,a3⟩:=again I9
    exact⟨m',hm',i+1,σ8,H9,a1,a2,a3,w9⟩
   |true=>
    rw[if_pos rfl] at q9 ⊢
    refine ŕ (he cl _ _ _ fp _ s9 σ8 H9 _ I9 q9) λyv s10 ⟨y,H10,I10,r10,ys,e10,l10,w10⟩=>?_
    refine ŕ (ś _ s10 σ8 H10 (.ref s2.heap.objs.size) [y] (.ref s2.heap.objs.size) [yv] (λ_ H11=>N σ8 H11) I10 rfl (.cons r10 .nil) ⟨_,ys,y,rfl,rfl,e10,l10,w10⟩) λ_ s11 ⟨v11,H11,I11,_,w11⟩=>?_
    obtain⟨a1,a2,a3⟩:=again I11
    obtain⟨m',hm',w11⟩:=hN _ _ w11
    exact⟨m',hm',i+1,σ8,H11,a1,a2,a3,w11⟩
 exact codeAny_compStart_list (loop _ rfl) (T.self _ 0 _ _ _ st4 (loop _ rfl))
end
def Its(z:Str):It:=⟨λi _=>i<z.cps.size,λi H x H'=>H'=H/\∃c,z.cps.toList[i]?=some c/\x=.str ⟨#[c]⟩,λi _=>i=z.cps.size⟩
def FW{P:Program}{w:World}{K:PySem.W.Frag}{tg:Expr}(it:Addr)(z:Str)(t:Tok)(ty:String)
 (hW:∀A:Around,A.handled=none->Walks P w A it [it] [it] z.cps.size (SignAt z) (λi h=>h.IsStrIter it ty z t i))
 (hS:∀(A:Around) (i:Nat) (s:Shared) (Q:Value->Shared->Prop) (E:Value->Shared->Prop),s.heap.IsStrIter it ty z t i->Q (.ref it) s->wpAny (model P w) A (pyIter (.ref it)) Q E s)
 (hty:["enumerate","zip","dict_itemiterator","dict_reverseitemiterator","odict_iterator","itertools.zip_longest","itertools.pairwise"].contains ty=false):Turn P w K tg (Its z) [it] it (λi h=>h.IsStrIter it ty z t i) where
 mem:=by simp
 obj:=λi h st b hb=>by
  have e:b=it:=by simpa using hb
  subst e
  obtain⟨o,e,c,d⟩:=st
  exact⟨o,e,λv z=>by rw[d] at z;cases z⟩
 keep:=λi h h' st k=>by
  obtain⟨o,e,c,d⟩:=st
  exact⟨o,k it (by simp) o e,c,d⟩
 item:=by
  intro X hP hw hK hc i pins s σ H E I hf st hg
  subst hP hw hK
  obtain⟨f0,f1,f2,f3,f4,f5⟩:=hf it (by simp)
  refine(hW X.A (I.ok.hd hc)).item i s _ _ hg st λv h' tk hv st' kk=>?_
  obtain⟨c,u,hcu,rfl⟩:=hv
  have I1:Inv X pins σ H {s with heap:=h',toks:=tk}:=I.turned (λb o hb e=>kk b o (by simpa using hb) e) f0 f1 f3 f4 f5
  obtain⟨o,e,cl,d⟩:=id st'
  exact⟨_,rfl,CK (s:={s with heap:=h',toks:=tk}) e cl d hty ⟨.str ⟨#[c]⟩,H,I1,⟨u,rfl⟩,⟨rfl,c,by simpa using hcu,rfl⟩,st',λb hb=>(hf b hb).1⟩⟩
 done:=by
  intro X hP hw hK hc i pins s σ H E I hf st hg
  subst hP hw hK
  obtain⟨f0,f1,f2,f3,f4,f5⟩:=hf it (by simp)
  have e:i=z.cps.size:=hg
  subst e
  exact(hW X.A (I.ok.hd hc)).done s _ _ st λh' tk kk=>⟨rfl,I.turned (λb o hb e=>kk b o (by simpa using hb) e) f0 f1 f3 f4 f5⟩
 self:=hS
section
variable{X:Cx}{tg:Expr}
end
end M3
namespace M4
open PySem PySem.Spec PyProof.Rows L2 M2 M3
section
variable{X:Cx}
def Dg{bs:List Bool}:∀{us:List Value},Vals (bs.map V.bl) us->us=bs.map Value.bool:=by
 induction bs with
 |nil=>intro us r;rw[List.map_nil] at r;cases r;rfl
 |cons b bs ih=>
  intro us r
  rw[List.map_cons] at r
  cases r with
  |cons r1 r2=>
   cases r1
   rw[ih r2]
   rfl
def all_range(bs:List Bool):(List.range (bs.map Value.bool).toArray.size).all (λi=>bs.getD i false)=bs.all id:=by
 have e:(bs.map Value.bool).toArray.size=bs.length:=by simp
 rw[e,Bool.eq_iff_iff]
 simp only[List.all_eq_true,List.mem_range,id]
 constructor
 ·intro h b hb
  obtain⟨i,hi,rfl⟩:=List.mem_iff_getElem.mp hb
  have:=h i hi
  rw[List.getD_eq_getElem?_getD,List.getElem?_eq_getElem hi] at this
  exact this
 ·intro h i hi
  rw[List.getD_eq_getElem?_getD,List.getElem?_eq_getElem hi]
  exact h _ (List.getElem_mem hi)
def any_range(bs:List Bool):(List.range (bs.map Value.bool).toArray.size).any (λi=>bs.getD i false)=bs.any id:=by
 have e:(bs.map Value.bool).toArray.size=bs.length:=by simp
 rw[e,Bool.eq_iff_iff]
 simp only[List.any_eq_true,List.mem_range,id]
 constructor
 ·rintro ⟨i,hi,h⟩
  rw[List.getD_eq_getElem?_getD,List.getElem?_eq_getElem hi] at h
  exact⟨_,List.getElem_mem hi,h⟩
 ·rintro ⟨b,hb,h⟩
  obtain⟨i,hi,rfl⟩:=List.mem_iff_getElem.mp hb
  exact⟨i,hi,by rw[List.getD_eq_getElem?_getD,List.getElem?_eq_getElem hi];exact h⟩
def mO{prog:Program}{w:World}{A:Around}(bs:List Bool):TruthOf prog w A (λi v=>(bs.map Value.bool).toArray[i]?=some v) (λi=>bs.getD i false):=by
 intro i v s Q E hv hq
 have hv':bs[i]?.map Value.bool=some v:=by
  rw[<-List.getElem?_map]
  simpa using hv
 cases hb:bs[i]? with
 |none=>rw[hb] at hv';cases hv'
 |some b=>
  rw[hb] at hv'
  cases hv'
  dsimp only at hq
  rw[List.getD_eq_getElem?_getD,hb] at hq
  exact wpAny_truthy_bool hq
def Zax(K:PySem.W.Frag):List V->Hp->VK->Prop:=λxs H Q=>match xs with
 | [.ref p]=>∃bs:List Bool,ū K H p (bs.map V.bl)/\Q (.bl (bs.all id)) H
 |_=>False
def Zay(K:PySem.W.Frag):List V->Hp->VK->Prop:=λxs H Q=>match xs with
 | [.ref p]=>∃bs:List Bool,ū K H p (bs.map V.bl)/\Q (.bl (bs.any id)) H
 |_=>False
def pG(hc:X.calm=true):ř X (.builtin "all") (Zax X.K):=by
 intro pins s σ H xs us Q I r h
 unfold Zax at h
 split at h
 ·rename_i p
  obtain⟨bs,hS,q⟩:=h
  obtain⟨u,rfl,ru⟩:=vals1 r
  cases ru
  obtain⟨its,rv,pl,hz⟩:=I.list hS
  have e:=Dg rv
  subst e
  have hp:p≠s.heap.objs.size:=by
   obtain⟨o,n,e,_⟩:=pl
   exact Nat.ne_of_lt (Heap.lt_size e)
  refine call_all_walk (wpAny_pyIter_list pl.isList ?_)
  refine⟨s.heap.objs.size,_,_,_,_,_,_,rfl,Walks.list (A:=X.A.in1) (show X.A.in1.handled=none from I.ok.hd hc) s.heap.objs.size p hp (bs.map Value.bool).toArray,⟨⟨_,Heap.get?_push_size _ rfl,rfl,rfl⟩,pl.isList.at λo e=>Heap.get?_push_of_some _ e⟩,mO bs,λh' tk k=>?_⟩
  rw[all_range]
  exact⟨.bl _,H,I.kept λb o e=>k b o (by simpa using Nat.ne_of_lt (Heap.lt_size e)) (Heap.get?_push_of_some _ e),rfl,q⟩
 ·exact h.elim
def Ag(hc:X.calm=true):ř X (.builtin "any") (Zay X.K):=by
 intro pins s σ H xs us Q I r h
 unfold Zay at h
 split at h
 ·rename_i p
  obtain⟨bs,hS,q⟩:=h
  obtain⟨u,rfl,ru⟩:=vals1 r
  cases ru
  obtain⟨its,rv,pl,hz⟩:=I.list hS
  have e:=Dg rv
  subst e
  have hp:p≠s.heap.objs.size:=by
   obtain⟨o,n,e,_⟩:=pl
   exact Nat.ne_of_lt (Heap.lt_size e)
  refine call_any_walk (wpAny_pyIter_list pl.isList ?_)
  refine⟨s.heap.objs.size,_,_,_,_,_,_,rfl,Walks.list (A:=X.A.in1) (show X.A.in1.handled=none from I.ok.hd hc) s.heap.objs.size p hp (bs.map Value.bool).toArray,⟨⟨_,Heap.get?_push_size _ rfl,rfl,rfl⟩,pl.isList.at λo e=>Heap.get?_push_of_some _ e⟩,mO bs,λh' tk k=>?_⟩
  rw[any_range]
  exact⟨.bl _,H,I.kept λb o e=>k b o (by simpa using Nat.ne_of_lt (Heap.lt_size e)) (Heap.get?_push_of_some _ e),rfl,q⟩
 ·exact h.elim
end
abbrev S(l:List Nat):Str:=⟨l.toArray⟩
def Zfe(z:Str):S z.cps.toList=z:=by
 cases z
 simp
def ZcP(l:List Nat):(S l).length=l.length:=by simp[Str.length]
def xq(z:Str):z.cps.toList.length=z.length:=by simp[Str.length]
def uQ(xs:List Nat)(lo hi:Option Int):List Nat:=(xs.drop (HT.Ż xs.length 0 lo)).take (HT.Ż xs.length xs.length hi-HT.Ż xs.length 0 lo)
def idx_eq(z:Str)(lo hi:Option Int):Builtin.Str.strSliceIndices lo hi 1 z.length=(List.range (HT.Ż z.length z.length hi-HT.Ż z.length 0 lo)).map (HT.Ż z.length 0 lo + ·):=by
 have hc:∀(o:Option Int) (d:Nat),d<=z.length->(match o with|none=>((d:Nat):Int)|some i=>max 0 (min (if i<0 then i+(z.length:Int) else i) (z.length:Int)))=((HT.Ż z.length d o:Nat):Int):=by
  intro o d hd
  cases o with
  |none=>rfl
  |some i=>
   show max 0 (min (if i<0 then i+(z.length:Int) else i) (z.length:Int))=((if i<0 then(i+(z.length:Int)).toNat else min i.toNat z.length:Nat):Int)
   by_cases h:i<0
   ·rw[if_pos h,if_pos h];omega
   ·rw[if_neg h,if_neg h];omega
 have e:Builtin.Str.strSliceIndices lo hi 1 z.length=sliceRange ((HT.Ż z.length 0 lo:Nat):Int) ((HT.Ż z.length z.length hi:Nat):Int) 1:=by
  have h1:=hc lo 0 (Nat.zero_le _)
  have h2:=hc hi z.length (Nat.le_refl _)
  unfold Builtin.Str.strSliceIndices
  simp only[show(1:Int)>0 by decide,if_true]
  rw[<-h1,<-h2]
  cases lo<;>cases hi<;>rfl
 rw[e,sliceRange_one]
def Ov(z:Str)(lo hi:Option Int):(Builtin.Str.strSliceIndices lo hi 1 z.length).filterMap (z.cps[·]?)=uQ z.cps.toList lo hi:=by
 rw[idx_eq,pick_run]
 unfold uQ
 rw[xq]
def Ow(xs:List Nat)(lo hi:Option Int):(uQ xs lo hi).length<=xs.length:=by
 unfold uQ
 rw[List.length_take,List.length_drop]
 omega
def Ig{z:Str}{t:Tok}{l u:Option (Int×Tok)}{Q:Value->Shared->Prop}{s:Shared}(hz:z.length<=sizeLine)
 (h:∀t' k,Q (.str (S (uQ z.cps.toList (l.map (·.1)) (u.map (·.1)))) t') {s with toks:=k}):(sliceMade z t l u none).post Q s:=by
 have e:=Ov z (l.map (·.1)) (u.map (·.1))
 unfold sliceMade
 have ep:slicePicked z l u none=Builtin.Str.strSliceIndices (l.map (·.1)) (u.map (·.1)) 1 z.length:=rfl
 rw[ep]
 split
 ·rename_i hc
  have hl:(Builtin.Str.strSliceIndices (l.map (·.1)) (u.map (·.1)) 1 z.length).length=z.length:=by simpa using hc
  have hz2:uQ z.cps.toList (l.map (·.1)) (u.map (·.1))=z.cps.toList:=by
   rw[idx_eq,List.length_map,List.length_range] at hl
   have hi:=HT.zZ z.length 0 (Nat.zero_le _) (l.map (·.1))
   have hj:=HT.zZ z.length z.length (Nat.le_refl _) (u.map (·.1))
   unfold uQ
   rw[xq]
   have hl2:=xq z
   have a0:HT.Ż z.length 0 (l.map (·.1))=0\/z.length=0:=by omega
   rcases a0 with a0|a0
   ·rw[a0] at hl ⊢
    rw[List.drop_zero]
    exact List.take_of_length_le (by omega)
   ·have:z.cps.toList=[]:=List.eq_nil_of_length_eq_zero (by omega)
    rw[this]
    simp
  have:=h t s.toks
  rw[hz2,Zfe] at this
  exact this
 ·rw[e]
  exact⟨by rw[ZcP];have:=Ow z.cps.toList (l.map (·.1)) (u.map (·.1));rw[xq] at this;omega,h _ _⟩
section
variable{X:Cx}
def Zff:V->Option Int->Option Int->Hp->VK->Prop:=λx lo hi H Q=>match x with
 | .str z=>z.length<=sizeLine/\Q (.str (S (uQ z.cps.toList lo hi))) H
 |_=>False
def Ox:Ab X Zff:=by
 intro pins s σ H x v vl vu lo hi sl Q I rx hs pl pu h
 cases x with
 |str z=>
  obtain⟨t,rfl⟩:=rx
  obtain⟨hz,q⟩:=h
  obtain⟨l,el,el2⟩:∃l:Option (Int×Tok),partValue l=vl/\l.map (·.1)=lo:=by
   cases pl with
   |none=>exact⟨none,rfl,rfl⟩
   |int i t=>exact⟨some (i,t),rfl,rfl⟩
  obtain⟨u,eu,eu2⟩:∃u:Option (Int×Tok),partValue u=vu/\u.map (·.1)=hi:=by
   cases pu with
   |none=>exact⟨none,rfl,rfl⟩
   |int i t=>exact⟨some (i,t),rfl,rfl⟩
  subst el el2 eu eu2
  exact⟨"str",_,F.slot_str_getitem.lookup,typeIs_str s z t,wpAny_getItem_str_slice (l:=l) (u:=u) (st:=none) hs rfl (Ig hz λt' k=>⟨.str _,H,I.tok _,⟨_,rfl⟩,q⟩)⟩
 |_=>exact h.elim
def Zfg(K:PySem.W.Frag):V->Option Int->Option Int->Hp->VK->Prop:=λx lo hi H Q=>match x with
 | .ref a=>∃xs,ū K H a xs/\∀p,H p=none->Q (.ref p) (upd H p (.lst (ji xs lo hi)))
 | .str z=>z.length<=sizeLine/\Q (.str (S (uQ z.cps.toList lo hi))) H
 |_=>False
def slm:Ab X (Zfg X.K):=Ab.wk (HX.or Ox) λx lo hi H Q h=>by
 cases x with
 |ref a=>exact .inl h
 |str z=>exact .inr h
 |_=>exact h.elim
def mul_eq(z:Str){n:Int}(h:0<=n):Txt.mul z n=S (List.replicate n.toNat z.cps.toList).flatten:=by
 have key:∀(k:Nat) (acc:Array Nat),((List.replicate k z.cps).foldl (·++ ·) acc).toList=acc.toList++(List.replicate k z.cps.toList).flatten:=by
  intro k
  induction k with
  |zero=>intro acc;simp
  |succ k ih=>
   intro acc
   rw[List.replicate_succ,List.foldl_cons,ih,List.replicate_succ,List.flatten_cons]
   simp
 unfold Txt.mul
 refine PyProof.Rows.ext_toList ?_
 by_cases h1:n<1
 ·rw[if_pos h1]
  have:n.toNat=0:=by omega
  rw[this]
  simp[Str.empty]
 ·rw[if_neg h1]
  split
  ·rename_i hc
   rw[Bool.or_eq_true] at hc
   rcases hc with hc|hc
   ·have:n=1:=by simpa using hc
    subst this
    simp
   ·have h0:z.cps.toList=[]:=List.eq_nil_of_length_eq_zero (by rw[xq];simpa using hc)
    rw[h0]
    simp
  ·rw[key]
   simp
def Ih(z:Str)(n:Int):Prop:=0<=n/\n<=1000/\z.length<=1000
def Ih.ok{z:Str}{n:Int}(h:Ih z n):MulOk z n:=by
 obtain⟨h0,h1,h2⟩:=h
 refine⟨?_,λhn _=>?_,λhn _=>?_⟩
 ·rw[decide_eq_false (by omega),decide_eq_false (by omega)]
  rfl
 ·have:(9000000000000000:Int)≤(2 ^ 63-1) / n:=by
   rw[Int.le_ediv_iff_mul_le (by omega)]
   omega
  omega
 ·have:z.length*n.toNat<=1000*1000:=Nat.mul_le_mul h2 (by omega)
  unfold Builtin.Str.tooLong
  simp
  rw[sizeLine_eq]
  omega
def Ii:R2:=λx y H Q=>match x,y with
 | .int i,.int j=>tH i j/\Q (.int (i*j)) H
 | .str z,.int n=>Ih z n/\Q (.str (S (List.replicate n.toNat z.cps.toList).flatten)) H
 |_,_=>False
def Oz:ŭ X (binaryOp .Mult) Ii:=by
 intro pins s σ H x y v u Q I rx ry h
 unfold Ii at h
 split at h
 ·exact Zar pins s σ H _ _ v u Q I rx ry h
 ·obtain⟨t,rfl⟩:=rx
  obtain⟨t',rfl⟩:=ry
  exact SB.mul h.1.ok λt' k=>⟨.str _,H,I.tok _,⟨_,by rw[mul_eq _ h.1.1]⟩,h.2⟩
 ·exact h.elim
end
end M4
namespace M5
open PySem PySem.Spec PyProof.Rows L2 M2 M3
def Ah{p2:Pos}{c:Value}{a b:Int}{cv:Value}(l:List Value)(h:TriplesOk l)(e:codeAmong p2 (l ++ [rawInt a,rawInt b,c])=some cv):codeAmong p2 l=some cv\/cv=c:=by
 fun_induction TriplesOk l with
 |case1=>
  right
  simp only[List.nil_append,codeAmong,rawInt] at e
  split at e
  ·exact(Option.some.inj e).symm
  ·cases e
 |case2 a' t b' u x rest ih=>
  simp only[List.cons_append,codeAmong] at e ⊢
  split at e
  ·rename_i hc;rw[if_pos hc];exact .inl e
  ·rename_i hc;rw[if_neg hc];exact ih h e
 |case3 l h1 h2=>exact h.elim
section
variable{X:Cx}{pins:List (Addr×Obj)}{σ:L2.St}{H:Hp}{s:Shared}{x:Str}{c P:Addr}{params:Arguments}{body:Expr}{scope:Scope}{pos:Pos}{cl:List (Str×Addr)}
def Ij{Q:Value->Shared->Prop}{E:Value->Shared->Prop}(I:Inv X pins σ H s)(hx:x∈lams)(ht:PySem.W.tabIn X.K x=some (c,P))(hcode:X.env.code=.ref c)(hq:X.env.qual=x ++ ".<locals>.")(hdef:defaultsOf params X.env=([],[]))(hcl:closureFor scope X.env=pure cl)
 (h:∀f c' pm ctv H' s',Inv X pins σ H' s'->(∀a,H a=none->H' a=none\/a=c')->Same H H'->H' c'=some (.Fi (bT x))->s'.heap.get? f=some (PySem.W.kla_obj "<lambda>" (bT x) params body scope cl pm c' ctv)->bx X pins H' f->Q (.ref f) s') :
 wpAny (model X.prog X.w) X.A (eval (.Lambda params body scope pos) X.env) Q E s:=by
 obtain⟨C,hT,hB⟩:=I.tb x c P hx ht
 obtain⟨ps,hP,tr,ent⟩:=I.hok P _ hT
 have hg:=I.ok.mod.glob.keeps I.bk
 have hgP:mainGlobals≠P:=λq=>by
  obtain⟨o,es,ep,e,hd,_⟩:=hg
  rw[q,hP] at e;cases e;cases hd
 have hB':s.heap.BuiltinsAt X.mg P:=by
  obtain⟨bm,ob,b1,b2,b3,b4,b5,b6⟩:=hB
  exact⟨bm,ob,b1,b2,b3,b4,I.bk _ _ b5,b6⟩
 refine PySem.W.kla_eval hdef ?_
 rw[hq]
 cases hf:codeAmong pos ps.toList with
 |none=>
  refine PySem.W.kla_makeFunction (mg:=X.mg) hcl I.ok.glob hg hcode (C.keeps I.bk) hP tr hf hgP hB' λc' ctv h' tk hxb hge hlt hrec htb=>?_
  have hc':H c'=none:=I.hok.fresh hge
  have hcP:c'≠P:=λz=>by rw[z,hT] at hc';cases hc'
  have neP:∀b,H b=none->b≠P:=λb n z=>by rw[z,hT] at n;cases n
  have old:∀b o,b≠P->s.heap.get? b=some o->(h'.push (PySem.W.kla_obj "<lambda>" (bT x) params body scope cl ((X.mg "__name__").getD .none) c' ctv)).get? b=some o:=λb o hb e=>Heap.get?_push_of_some _ (hxb b o hb e)
  have u:Un X.fs [] H (upd H c' (.Fi (bT x))) s.heap (h'.push (PySem.W.kla_obj "<lambda>" (bT x) params body scope cl ((X.mg "__name__").getD .none) c' ctv)):=by
   refine⟨λb o e n _ _=>old b o (neP b n) e,λb o e n _ _=>⟨o.slots,old b o (neP b n) e⟩,λb o e n _=>?_,λb o e _=>?_,λb xs e=>by rw[Ĝ (Ħ e hc')];exact e,λb o u e=>by rw[Ĝ (Ħ e hc')];exact e,λb q e=>by rw[Ĝ (Ħ e hc')];exact e⟩
   ·rw[Ĝ (Nat.ne_of_lt (Nat.lt_of_lt_of_le (Heap.lt_size e) hge))];exact n
   ·by_cases hb:b=P
    ·exact⟨_,by rw[hb];exact Heap.get?_push_of_some _ htb⟩
    ·exact⟨o,old b o hb e⟩
  have hok:jz X.prog X.w (upd H c' (.Fi (bT x))) (h'.push (PySem.W.kla_obj "<lambda>" (bT x) params body scope cl ((X.mg "__name__").getD .none) c' ctv)):=λb v e=>by
   by_cases hb:b=c'
   ·subst hb
    rw[ģ] at e;cases e
    obtain⟨c2,o,vs,t,z,e1,r⟩:=hrec
    exact⟨c2,o,vs,t,z,Heap.get?_push_of_some _ e1,r⟩
   ·rw[Ĝ hb] at e
    by_cases hbP:b=P
    ·subst hbP
     rw[hT] at e;cases e
     refine⟨_,Heap.get?_push_of_some _ htb,?_,λp2 cv z=>?_⟩
     ·have:=TriplesOk_snoc pos.line pos.col (.ref c') ps.toList tr
      simpa using this
     ·rcases Ah (a:=pos.line) (b:=pos.col) (c:=.ref c') ps.toList tr (by simpa using z) with z|z
      ·obtain⟨d,z1,z2⟩:=ent p2 cv z
       exact⟨d,z1,by rw[Ĝ (Ħ z2 hc')];exact z2⟩
      ·exact⟨c',z,ģ⟩
    ·exact(I.hok b v e).stay (fun b2 o hb2 q=>old b2 o (by
      rcases hb2 with z|z
      ·rw[z];exact hbP
      ·intro z2;rw[z2,hT] at z;cases z) q) (λd q=>by rw[Ĝ (Ħ q hc')];exact q) (λd xs q=>by rw[Ĝ (Ħ q hc')];exact q) λd xs q=>by rw[Ĝ (Ħ q hc')];exact q
  have hfz:s.heap.objs.size<=h'.objs.size:=Nat.le_of_lt (Nat.lt_of_le_of_lt hge hlt)
  refine h h'.objs.size c' _ ctv (upd H c' (.Fi (bT x))) _ (I.un (t':=tk) u hok) (λa n=>?_) (λb v e=>by rw[Ĝ (Ħ e hc')];exact e) ģ (Heap.get?_push_size _ rfl) (I.rN hfz (by rw[Ĝ (Nat.ne_of_gt hlt)];exact I.hok.fresh hfz))
  by_cases ha:a=c'
  ·exact .inr ha
  ·exact .inl (by rw[Ĝ ha];exact n)
 |some cv=>
  obtain⟨c',rfl,hcc⟩:=ent pos cv hf
  refine PySem.W.kla_makeFunctionHit (mg:=X.mg) hcl I.ok.glob hg hcode (C.keeps I.bk) hP tr hf hB' λctv h' tk hk hsz=>?_
  exact h h'.objs.size c' _ ctv H _ (I.kept (t':=tk) λb o e=>Heap.get?_push_of_some _ (hk b o e)) (λ_ n=>.inl n) (Same.refl H) hcc (Heap.get?_push_size _ rfl) (I.rN hsz (I.hok.fresh hsz))
end
def GJ(X:Cx)(N':List Str)(qual:Str)(scope:Scope)(cl:List (Str×Addr))(f:Addr)(c':Addr)(A:Around)(s:Shared)(H:Hp):Cx where
 prog:=X.prog
 w:=X.w
 K:=X.K
 mg:=X.mg
 base:=X.base
 A:=A.deeper (PySem.W.envX qual scope s.heap.objs.size f (.ref c') cl)
 N:=N'
 s₀:= s
 H₀:= H
 env:=PySem.W.envX qual scope s.heap.objs.size f (.ref c') cl
 outer:=X.stack
 stack:=PySem.W.envX qual scope s.heap.objs.size f (.ref c') cl::X.stack
 ex:=[]
 fn:=λ_=>false
 calm:=true
 pn:=[]
 xe:=λ_ _=>False
def dD(js:List Nat)(σ:L2.St)(v:V):L2.St:=js.map (λj:Nat=>(σ[j]?).getD none) ++ [some v]
section
variable{X:Cx}{pins:List (Addr×Obj)}{σ:L2.St}{H:Hp}{s:Shared}{params:Arguments}{body:Expr}{scope sc:Scope}{cl:List (Str×Addr)}{N0:List Str}{js:List Nat}{qual px:Str}{f c':Addr}{A:Around}
def OD(hsc:X.env.scope=sc)(hk:scope.kind=.function)(hcap:dz X sc scope N0 js)(hlen:js.length=N0.length)(hcell:∀y∈scope.names,y.2≠ .cell)(hpx:scope.names.lookup px=some .local)
 (hA:A.frames=some X.stack)(hhd:A.handled=none)(c2:∀x c,cl.lookup x=some c->X.env.cells.lookup x=some c)(c3:∀y∈scope.names,y.2=.free->∃c,cl.lookup y.1=some c)
 (I:Inv X pins σ H s){v:V}{u:Value}(r:RelV v u){h':Heap}{tk:Nat}(hn:h'.Ns s.heap.objs.size (λy=>[(px,u)].reverse.lookup y))(kp:∀b o,s.heap.get? b=some o->h'.get? b=some o) :
 Inv (GJ X (N0 ++ [px]) qual scope cl f c' A s H) [] (dD js σ v) H {s with heap:=h',toks:=tk}:=by
 have has:∀y,(scope.names.lookup y=some .cell\/scope.names.lookup y=some .free)->∃c,cl.lookup y=some c:=λy hy=>by
  rcases hy with hy|hy
  ·exact absurd rfl (hcell _ (PySem.mem_of_lookup hy))
  ·exact c3 _ (PySem.mem_of_lookup hy) rfl
 refine⟨⟨I.ok.mod,hk,rfl,rfl,Nat.le_refl _,λx y c e1 e2=>I.ok.inj x y c (c2 x c e1) (c2 y c e2),has,(λ_ _ z _=>absurd (show false=true from z) Bool.false_ne_true),λ_=>hhd,Around.frames_deeper hA,.inr ⟨rfl,rfl⟩,λb hb=>absurd hb (by simp[GJ]),
  I.bs,Nat.le_trans I.ok.Ng I.sz,λb _ _ hb=>absurd hb (by simp[GJ]),λb hb=>absurd hb (by simp[GJ]),I.stack,I.uM,I.tb⟩,rfl,I.bare,Un.kept kp,⟨_,hn,λi x w e1 e2 e3=>?_⟩,λx c e=>?_,I.hok.fresh (Nat.le_refl _),λx c e=>I.fZ x c (c2 x c e),λp hp=>absurd hp (by simp[GJ]),I.hok.kept kp,?_⟩
 ·by_cases hi:i<js.length
  ·have e1':N0[i]?=some x:=by
    have:=e1
    rwa [show(GJ X (N0 ++ [px]) qual scope cl f c' A s H).N=N0 ++ [px] from rfl,List.getElem?_append_left (by omega)] at this
   have e2':(dB js 0 σ)[i]?=some (some w):=by
    unfold dB
    unfold dD at e2
    rw[List.getElem?_append_left (by simpa using hi)] at e2 ⊢
    exact e2
   obtain⟨j,q1,q2,q0,q3⟩:=lG hcap e1' e2'
   obtain⟨m,hm,hl⟩:=I.loc
   have Zav:zH X.env.scope x:=by
    rw[hsc]
    rcases q3 with q3|q3
    ·exact .inr (.inl q3)
    ·exact .inr (.inr q3)
   obtain⟨u',ru,lk⟩:=hl j x w q1 q2 Zav
   refine⟨u',ru,?_⟩
   rcases lk with⟨k1,_⟩|⟨k1,c,hc,ic⟩
   ·exfalso
    have k1':sc.names.lookup x=some .local:=by rw[<-hsc];exact k1
    rcases q3 with q3|q3<;>(rw[k1'] at q3;cases q3)
   ·obtain⟨d,hd⟩:=has x (.inr q0)
    have:d=c:=by
     have:=c2 x d hd
     rw[hc] at this
     exact(Option.some.inj this).symm
    subst this
    exact .inr ⟨.inr q0,d,hd,by
     obtain⟨o,ho,hd'⟩:=ic
     exact⟨o,kp _ _ ho,hd'⟩⟩
  ·have hi2:i=js.length:=by
    have l2:=(List.getElem?_eq_some_iff.mp e2).1
    unfold dD at l2
    simp at l2
    omega
   subst hi2
   unfold dD at e2
   rw[List.getElem?_append_right (by simp)] at e2
   have ev:v=w:=by simpa using e2
   subst ev
   have ex:px=x:=by
    have:=e1
    rw[show(GJ X (N0 ++ [px]) qual scope cl f c' A s H).N=N0 ++ [px] from rfl,List.getElem?_append_right (by omega),hlen] at this
    simpa using this
   subst ex
   exact⟨u,r,.inl ⟨hpx,by simp[List.lookup]⟩⟩
 ·obtain⟨w,o,ho,hd⟩:=I.cell x c (c2 x c e)
  exact⟨w,o,kp _ _ ho,hd⟩
 ·show _=(N0 ++ [px]).length
  unfold dD
  simp[hlen]
def Ik{te:TE}{pm ctv:Value}(hsc:X.env.scope=sc)(hk:scope.kind=.function)(hcap:dz X sc scope N0 js)(hlen:js.length=N0.length)(hcell:∀y∈scope.names,y.2≠ .cell)(hpx:scope.names.lookup px=some .local)(hco:scope.isCoroutine=false)(hgen:scope.isGenerator=false)
 (hA:A.frames=some X.stack)(hhd:A.handled=none)(Zaz:A.depth<recursionLimit)(c2:∀x c,cl.lookup x=some c->X.env.cells.lookup x=some c)(c3:∀y∈scope.names,y.2=.free->∃c,cl.lookup y.1=some c)
 (hbind:∀u:Value,bindArgs (PySem.W.kla_fn "<lambda>" qual params body scope cl pm (.ref c') ctv) ⟨[u],[]⟩=pure [(px,u)])
 (he:∀s H,PE (GJ X (N0 ++ [px]) qual scope cl f c' A s H) body te)
 (I:Inv X pins σ H s)(hf:s.heap.get? f=some (PySem.W.kla_obj "<lambda>" qual params body scope cl pm c' ctv))(hc:H c'=some (.Fi qual)){v:V}{u:Value}(r:RelV v u){Q:VK}{E:Value->Shared->Prop}(h:te (dD js σ v) H Q) :
 wpAny (model X.prog X.w) A (call (.ref f) [u]) (EP X pins σ Q) E s:=by
 refine wpAny_call (PySem.W.kla_callFunE Zaz hf rfl hco hgen rfl (I.hok c' _ hc) ?_)
 rw[hbind u]
 refine wpAny_pure (wpAny_newFunctionEnv hcell (λy hy=>by rw[List.mem_singleton.mp hy];exact hpx) (λh₁ hns hsb=>⟨(I.nolimit).fresh _ hsb,?_⟩) hk)
 have kp:∀b o,s.heap.get? b=some o->h₁.get? b=some o:=λb o e=>hsb.extBut b o (Nat.ne_of_lt (Heap.lt_size e)) (Heap.get?_push_of_some _ e)
 have J:=OD (qual:=qual) (f:=f) (c':=c') (tk:=s.toks + [(px,u)].length) hsc hk hcap hlen hcell hpx hA hhd c2 c3 I r hns kp
 show codeAny _ _ (.expr body (PySem.W.envX qual scope s.heap.objs.size f (.ref c') cl)) _ _
 refine PySem.W.kla_codeExpr (wpAny_mono (he s H [] _ _ H Q J h) (λy s' hy=>?_) λ_ _ z=>z.elim)
 obtain⟨w,H',J',rw',q⟩:=hy
 exact I.after ⟨w,H',J'.os,J'.bare,J'.base,J'.hok,rw',q⟩
end
section
variable{X:Cx}{pins:List (Addr×Obj)}{σ:L2.St}{H:Hp}{s:Shared}
def tM{fp:List Addr}{t:Sem Value}{A:Around}{Qv:V->Hp->Prop}{R:Value->Shared->Prop}(I:Inv X pins σ H s)(hf:∀b∈fp,bx X pins H b)(ho:∀b∈fp,∃o,s.heap.get? b=some o/\∀v,o.data≠ .cell v)
 (run:∀iH,Inv X iH σ H s->wpAny (model X.prog X.w) A t (EP X iH σ Qv) (λ_ _=>False) s)
 (k:∀y u H2 s2,Inv X pins σ H2 s2->RelV y u->Qv y H2->(∀b∈fp,bx X pins H2 b)->(∀b∈fp,∀o,s.heap.get? b=some o->s2.heap.get? b=some o)->R u s2):wpAny (model X.prog X.w) A t R (λ_ _=>False) s:=by
 refine wpAny_mono (run _ (I.pinned hf ho)) (λu s2 ⟨y,H2,I2,r,q⟩=>?_) λ_ _ z=>z
 refine k y u H2 s2 I2.dg r q (λb hb=>?_) λb hb o e=>(I2.pin (b,o) (List.mem_append_right _ (List.mem_append_right _ (Ů hb e)))).1
 obtain⟨o,e,_⟩:=ho b hb
 exact⟨(I2.pin (b,o) (List.mem_append_right _ (List.mem_append_right _ (Ů hb e)))).2.1,(hf b hb).2⟩
def aQ{h':Heap}{t':Nat}{b:Addr}(I:Inv X pins σ H s)(hf:bx X pins H b)(k:∀c o,c≠b->s.heap.get? c=some o->h'.get? c=some o):Inv X pins σ H {s with heap:=h',toks:=t'}:=
 let ⟨f0,f1,_,f3,f4,f5⟩:=hf
 I.turned k f0 f1 f3 f4 f5
variable{R:Result->Shared->Prop}{f l S It:Addr}{oF:Obj}{xs:List V}(ks:Nat->Int)(W:Nat->Hp->Prop)
def Dh{h:Heap}{l It:Addr}{its:Array Value}{i:Nat}(hl:h.IsList l its)(hit:h.IsListIter It l i):l≠It:=λz=>by
 obtain⟨o,e,c,_⟩:=hl
 obtain⟨o',e',c',_⟩:=hit
 rw[z,e'] at e
 cases e
 rw[c] at c'
 exact absurd (Value.type.inj c') (by decide)
def Ai{h:Heap}{S It l:Addr}{vs:Array Value}{n i:Nat}(hS:h.get? S=some (seqObj "list" vs n))(hit:h.IsListIter It l i):S≠It:=λz=>by
 obtain⟨o',e',c',_⟩:=hit
 rw[z,e'] at hS
 cases hS
 exact absurd (Value.type.inj c') (by decide)
def FZ(hh:X.A.handled=none)(hl:∀k H,W k H->ū X.K H l xs)(hdF:∀v,oF.data≠ .cell v)(hFS:f≠S)(hFI:f≠It)
 (turn:∀k v,xs[k]?=some v->∀pins H s u,Inv X pins σ H s->W k H->RelV v u->s.heap.get? f=some oF->wpAny (model X.prog X.w) X.A.in1 (call (.ref f) [u]) (EP X pins σ λy H'=>y=.int (ks k)/\W (k+1) H') (λ_ _=>False) s)
 (hR:∀i v u H s,xs[i]?=some v->RelV v u->(∀j,j<xs.length->ks i<=ks j/\(j<i->ks i<ks j))->Inv X pins σ H s->W xs.length H->R (.ok (.ret u)) s) :
 ∀(r j i:Nat) (H:Hp) (s:Shared) (vb:Value) (tb:Tok) (c:Nat) (v:V),xs.length-(j+1)=r->j+1<=xs.length->Inv X pins σ H s->W (j+1) H->
  s.heap.get? S=some (seqObj "list" #[vb,.int (ks i) tb] c)->s.heap.IsListIter It l (j+1)->s.heap.get? f=some oF->(∀b∈[S,It,f],bx X pins H b)->xs[i]?=some v->RelV v vb->i<=j->(∀j',j'<=j->ks i<=ks j'/\(j'<i->ks i<ks j'))->
  codeAny (model X.prog X.w) X.A (.builtin "min.loop" ⟨[.ref It,.ref f,.ref S],[]⟩) R s:=by
 have hname:(toString "min" ++ toString ".loop" :String)= "min.loop" := by decide
 intro r
 induction r with
 |zero=>
  intro j i H s vb tb c v hr hj I w hS hit hF fpo hv rv hij hbest
  have hin:j+1=xs.length:=by omega
  obtain⟨its,ri,pl,_⟩:=I.list (hl _ _ w)
  have hsz:its.toArray.size=xs.length:=by rw[List.size_toArray,ri.length]
  have W':=Walks.list (prog:=X.prog) (w:=X.w) (A:=X.A.in1) hh It l (Dh pl.isList hit) its.toArray
  refine codeAny_builtin PySem.F.entry_min_loop ?_
  rw[Around.under_plainId PySem.F.plain_min_loop _]
  show wpAny _ X.A.in1 (seqItems? (.ref S) >>= _) _ _ _
  refine wpAny_bind (wpAny_seqItems hS rfl ?_)
  show wpAny _ X.A.in1 (tryCatch (pyNext (.ref It)) _ >>= _) _ _ _
  refine wpAny_bind (wpAny_tryCatch (W'.done _ _ _ ⟨by rw[hsz,<-hin];exact hit,pl.isList⟩ λh' tk' hk'=>?_))
  have I1:=aQ (h':=h') (t':=tk') I (fpo It (by simp)) λb o hb e=>hk' b o (by simpa using hb) e
  have hS':=hk' S _ (by simpa using Ai hS hit) hS
  have s1:=Heap.SameBut.update h' S (Obj.mapSeq λ_=>(#[]:Array Value))
  show wpAny _ X.A.in1 (updateSeq S (λ_=> #[]) >>= _) _ _ _
  refine wpAny_bind ?_
  refine wpAny_updateSeq hS' rfl (wpAny_bind (wpAny_letGo (wpAny_pure ?_)))
  exact hR i v vb H _ hv rv (λj' hj'=>hbest j' (by omega)) (aQ (t':=tk') I1 (fpo S (by simp)) λb o hb e=>(s1.2 b hb).trans e) (hin▸w)
 |succ r ih=>
  intro j i H s vb tb c v hr hj I w hS hit hF fpo hv rv hij hbest
  have hlt:j+1<xs.length:=by omega
  obtain⟨its,ri,pl,_⟩:=I.list (hl _ _ w)
  have hsz:its.toArray.size=xs.length:=by rw[List.size_toArray,ri.length]
  have W':=Walks.list (prog:=X.prog) (w:=X.w) (A:=X.A.in1) hh It l (Dh pl.isList hit) its.toArray
  refine codeAny_builtin PySem.F.entry_min_loop ?_
  rw[Around.under_plainId PySem.F.plain_min_loop _]
  show wpAny _ X.A.in1 (seqItems? (.ref S) >>= _) _ _ _
  refine wpAny_bind (wpAny_seqItems hS rfl ?_)
  show wpAny _ X.A.in1 (tryCatch (pyNext (.ref It)) _ >>= _) _ _ _
  refine wpAny_bind (wpAny_tryCatch (W'.item (j+1) _ _ _ (by rw[hsz];exact hlt) ⟨hit,pl.isList⟩ λu h' tk' hP hst' hk'=>?_))
  have hu:its[j+1]?=some u:=by simpa using hP
  have hx2:xs[j+1]?=some xs[j+1]:=List.getElem?_eq_getElem hlt
  have ru:RelV xs[j+1] u:=by
   obtain⟨u2,h2,r2⟩:=ri.get hx2
   rw[hu] at h2
   cases h2
   exact r2
  obtain⟨oI',hoI',hoc,hod⟩:=id hst'.1
  have I1:=aQ (h':=h') (t':=tk') I (fpo It (by simp)) λb o hb e=>hk' b o (by simpa using hb) e
  have hS1:=hk' S _ (by simpa using Ai hS hit) hS
  have hF1:=hk' f _ (by simpa using hFI) hF
  show wpAny _ X.A.in1 (tryCatch (holding [u] (call (.ref f) [u])) _ >>= _) _ _ _
  refine wpAny_bind (wpAny_tryCatch (wpAny_holding (wpAny_mono (tM (fp:=[S,It,f]) I1 fpo (λb hb=>?_) (λiH I'=>turn (j+1) _ hx2 iH H _ u I' w ru hF1) λy u2 H2 s2 I2 ry ⟨ey,w2⟩ Ga kp2=>?_) (λ_ _ z=>z) λ_ _ hF=>hF.elim)))
  ·rcases List.mem_cons.mp hb with rfl|hb
   ·exact⟨_,hS1,λv z=>by cases z⟩
   ·rcases List.mem_cons.mp hb with rfl|hb
    ·exact⟨oI',hoI',λv z=>by rw[hod] at z;cases z⟩
    ·rw[List.mem_singleton.mp hb]
     exact⟨oF,hF1,hdF⟩
  ·subst ey
   obtain⟨t2,rfl⟩:=ry
   have hS2:=kp2 S (by simp) _ hS1
   have hI2:=kp2 It (by simp) _ hoI'
   have hF2:=kp2 f (by simp) _ hF1
   have hit2:s2.heap.IsListIter It l (j+1+1):=⟨oI',hI2,hoc,hod⟩
   show wpAny _ X.A.in1 (tryCatch (holding [u,.int (ks (j+1)) t2] (richCompare .Lt (.int (ks (j+1)) t2) (.int (ks i) tb) >>= _)) _ >>= _) _ _ _
   refine wpAny_bind (wpAny_tryCatch (wpAny_holding (wpAny_bind (CmpOf.ints_lt (prog:=X.prog) (w:=X.w) (A:=X.A.in1) (P:=λi v=>∃t,v=.int (ks i) t) ks (λi v h=>h) (j+1) i _ _ _ _ _ ⟨t2,rfl⟩ ⟨tb,rfl⟩ ?_))))
   refine wpAny_bind (wpAny_holding (wpAny_truthy_bool ?_))
   refine wpAny_bind (wpAny_letGo (wpAny_pure ?_))
   by_cases hb':ks (j+1)<ks i
   ·have s1:=Heap.SameBut.update s2.heap S (Obj.mapSeq λ_=> #[u,.int (ks (j+1)) t2])
    obtain⟨cc,hc2⟩:∃cc,(s2.heap.update S (Obj.mapSeq λ_=> #[u,.int (ks (j+1)) t2])).get? S=some (seqObj "list" #[u,.int (ks (j+1)) t2] cc):=⟨_,get?_update_seq hS2 λ_=> #[u,.int (ks (j+1)) t2]⟩
    simp only[hb',decide_true,if_true]
    refine wpAny_bind ?_
    refine wpAny_updateSeq hS2 rfl (wpAny_bind (wpAny_letGo ?_))
    rw[hname]
    have nIS:=Ai hS2 hit2
    refine wpAny_pure ⟨plainId_quiet PySem.F.plain_min_loop _,ih (j+1) (j+1) H2 _ u t2 cc _ (by omega) hlt (aQ (t':=s2.toks) I2 (Ga S (by simp)) λb o hb e=>(s1.2 b hb).trans e) w2 hc2 ⟨oI',(s1.2 It nIS.symm).trans hI2,hoc,hod⟩ ((s1.2 f hFS).trans hF2) Ga hx2 ru (Nat.le_refl _) λj' hj'=>?_⟩
    by_cases e:j'=j+1
    ·subst e
     exact⟨by omega,λ_=>by omega⟩
    ·have hb1:=hbest j' (by omega)
     have hb2:=hb1.1
     exact⟨by omega,λ_=>by omega⟩
   ·simp only[hb',decide_false,Bool.false_eq_true,if_false]
    refine wpAny_bind (wpAny_letGo ?_)
    rw[hname]
    refine wpAny_pure ⟨plainId_quiet PySem.F.plain_min_loop _,ih (j+1) i H2 s2 vb tb c v (by omega) hlt I2 w2 hS2 hit2 hF2 Ga hv rv (by omega) λj' hj'=>?_⟩
    by_cases e:j'=j+1
    ·subst e
     exact⟨by omega,λ_=>by omega⟩
    ·exact hbest j' (by omega)
def Gb{Q:Value->Shared->Prop}{E:Value->Shared->Prop}(hh:X.A.handled=none)(hl:∀k H,W k H->ū X.K H l xs)(hdF:∀v,oF.data≠ .cell v)(hne:0<xs.length)
 (turn:∀k v,xs[k]?=some v->∀pins H s u,Inv X pins σ H s->W k H->RelV v u->s.heap.get? f=some oF->wpAny (model X.prog X.w) X.A.in1 (call (.ref f) [u]) (EP X pins σ λy H'=>y=.int (ks k)/\W (k+1) H') (λ_ _=>False) s)
 (hQ:∀i v u H s,xs[i]?=some v->RelV v u->(∀j,j<xs.length->ks i<=ks j/\(j<i->ks i<ks j))->Inv X pins σ H s->W xs.length H->Q u s)
 (I:Inv X pins σ H s)(w0:W 0 H)(hF:s.heap.get? f=some oF)(hfo:bx X pins H f) :
 wpAny (model X.prog X.w) X.A (call (.builtin "min") [.ref l] [(Str.ofString "key",.ref f)]) Q E s:=by
 have hname:(toString "min" ++ toString ".loop" :String)= "min.loop" := by decide
 obtain⟨its,ri,pl,_⟩:=I.list (hl _ _ w0)
 have hls:=pl.isList
 obtain⟨ol,hol,_⟩:=id hls
 have hll:l<s.heap.objs.size:=Heap.lt_size hol
 refine kmk_tree PySem.F.kind_min PySem.F.plain_min PySem.F.entry_min (kmk_min_key _ _) ?_
 show wpAny _ X.A.in1 (Builtin.Builtins.bindParams "min" ["key","default"] 0 ⟨[],[(Str.ofString "key",.ref f)]⟩ >>= _) _ _ s
 refine wpAny_bind (wpAny_of_eq (show Builtin.Builtins.bindParams "min" ["key","default"] 0 ⟨[],[(Str.ofString "key",.ref f)]⟩=pure [some (.ref f),none] from rfl) ?_)
 refine wpAny_bind (wpAny_pure ?_)
 refine wpAny_bind (wpAny_pyIter_list hls ?_)
 refine wpAny_bind (wpAny_newList ?_ (Nat.zero_le _))
 rw[hname]
 have hS:(s.heap.push {cls:=.type "list_iterator",data:=.fields #[.ref l,.int 0 0]}).objs.size=s.heap.objs.size+1:=size_push' ..
 generalize hSd:(s.heap.push {cls:=.type "list_iterator",data:=.fields #[.ref l,.int 0 0]}).objs.size=S at hS ⊢
 refine wpAny_pure ⟨plainId_quiet PySem.F.plain_min_loop _,?_⟩
 have k0:∀b o,s.heap.get? b=some o->((s.heap.push {cls:=.type "list_iterator",data:=.fields #[.ref l,.int 0 0]}).push (seqObj "list" #[] 0)).get? b=some o:=λb o e=>Heap.get?_push_of_some _ (Heap.get?_push_of_some _ e)
 have gI:((s.heap.push {cls:=.type "list_iterator",data:=.fields #[.ref l,.int 0 0]}).push (seqObj "list" #[] 0)).get? s.heap.objs.size=some {cls:=.type "list_iterator",data:=.fields #[.ref l,.int 0 0]}:=
  Heap.get?_push_of_some _ (Heap.get?_push_size _ rfl)
 have gS:((s.heap.push {cls:=.type "list_iterator",data:=.fields #[.ref l,.int 0 0]}).push (seqObj "list" #[] 0)).get? S=some (seqObj "list" #[] 0):=by rw[<-hSd];exact Heap.get?_push_size _ rfl
 have I0:Inv X pins σ H {s with heap:=(s.heap.push {cls:=.type "list_iterator",data:=.fields #[.ref l,.int 0 0]}).push (seqObj "list" #[] 0)}:=I.kept (t':=s.toks) k0
 have fI:bx X pins H s.heap.objs.size:=I.rN (Nat.le_refl _) (I.hok.fresh (Nat.le_refl _))
 have fS:bx X pins H S:=I.rN (by omega) (I.hok.fresh (by omega))
 have hlf:f<s.heap.objs.size:=Heap.lt_size hF
 have hFI:f≠s.heap.objs.size:=Nat.ne_of_lt hlf
 have hFS:f≠S:=Nat.ne_of_lt (by rw[hS];exact Nat.lt_succ_of_lt hlf)
 have hSI:S≠s.heap.objs.size:=by omega
 have fpo:∀b∈[S,s.heap.objs.size,f],bx X pins H b:=λb hb=>by
  rcases List.mem_cons.mp hb with rfl|hb
  ·exact fS
  ·rcases List.mem_cons.mp hb with rfl|hb
   ·exact fI
   ·rw[List.mem_singleton.mp hb];exact hfo
 obtain⟨ZaA,ri0,pl0,_⟩:=I0.list (hl _ _ w0)
 have hsz:ZaA.toArray.size=xs.length:=by rw[List.size_toArray,ri0.length]
 have W':=Walks.list (prog:=X.prog) (w:=X.w) (A:=X.A.in1) hh s.heap.objs.size l (Nat.ne_of_lt hll) ZaA.toArray
 refine codeAny_builtin PySem.F.entry_min_loop ?_
 rw[Around.under_plainId PySem.F.plain_min_loop _]
 show wpAny _ X.A.in1 (seqItems? (.ref _) >>= _) _ _ _
 refine wpAny_bind (wpAny_seqItems gS rfl ?_)
 show wpAny _ X.A.in1 (tryCatch (pyNext (.ref s.heap.objs.size)) _ >>= _) _ _ _
 refine wpAny_bind (wpAny_tryCatch (W'.item 0 _ _ _ (by rw[hsz];exact hne) ⟨⟨_,gI,rfl,rfl⟩,pl0.isList⟩ λu h' tk' hP hst' hk'=>?_))
 have hu:ZaA[0]?=some u:=by simpa using hP
 have hx0:xs[0]?=some xs[0]:=List.getElem?_eq_getElem hne
 have ru:RelV xs[0] u:=by
  obtain⟨u2,h2,r2⟩:=ri0.get hx0
  rw[hu] at h2
  cases h2
  exact r2
 obtain⟨oI',hoI',hoc,hod⟩:=id hst'.1
 have I1:=aQ (h':=h') (t':=tk') I0 fI λb o hb e=>hk' b o (by simpa using hb) e
 have hS1:=hk' S _ (by simpa using hSI) gS
 have hF1:=hk' f _ (by simpa using hFI) (k0 _ _ hF)
 show wpAny _ X.A.in1 (tryCatch (holding [u] (call (.ref f) [u])) _ >>= _) _ _ _
 refine wpAny_bind (wpAny_tryCatch (wpAny_holding (wpAny_mono (tM (fp:=[S,s.heap.objs.size,f]) I1 fpo (λb hb=>?_) (λiH I'=>turn 0 _ hx0 iH H _ u I' w0 ru hF1) λy u2 H2 s2 I2 ry ⟨ey,w2⟩ Ga kp2=>?_) (λ_ _ z=>z) λ_ _ hF=>hF.elim)))
 ·rcases List.mem_cons.mp hb with rfl|hb
  ·exact⟨_,hS1,λv z=>by cases z⟩
  ·rcases List.mem_cons.mp hb with rfl|hb
   ·exact⟨oI',hoI',λv z=>by rw[hod] at z;cases z⟩
   ·rw[List.mem_singleton.mp hb]
    exact⟨oF,hF1,hdF⟩
 ·subst ey
  obtain⟨t2,rfl⟩:=ry
  have hS2:=kp2 S (by simp) _ hS1
  have hI2:=kp2 s.heap.objs.size (by simp) _ hoI'
  have hF2:=kp2 f (by simp) _ hF1
  have s1:=Heap.SameBut.update s2.heap S (Obj.mapSeq λ_=> #[u,.int (ks 0) t2])
  obtain⟨cc,hc2⟩:∃cc,(s2.heap.update S (Obj.mapSeq λ_=> #[u,.int (ks 0) t2])).get? S=some (seqObj "list" #[u,.int (ks 0) t2] cc):=⟨_,get?_update_seq hS2 λ_=> #[u,.int (ks 0) t2]⟩
  show wpAny _ X.A.in1 (updateSeq S (λ_=> #[u,.int (ks 0) t2]) >>= _) _ _ _
  refine wpAny_bind ?_
  refine wpAny_updateSeq hS2 rfl ?_
  rw[hname]
  refine wpAny_pure ⟨plainId_quiet PySem.F.plain_min_loop _,FZ ks W hh hl hdF hFS hFI turn (λi v u' H' s' a1 a2 a3 a4 a5=>hQ i v u' H' s' a1 a2 a3 a4 a5) _ 0 0 H2 _ u t2 cc _ rfl hne (aQ (t':=s2.toks) I2 (Ga S (by simp)) λb o hb e=>(s1.2 b hb).trans e) w2 hc2 ⟨oI',(s1.2 _ hSI.symm).trans hI2,hoc,hod⟩ ((s1.2 f hFS).trans hF2) Ga hx0 ru (Nat.le_refl _) λj' hj'=>?_⟩
  have e:j'=0:=by omega
  subst e
  exact⟨by omega,λh=>absurd h (Nat.lt_irrefl _)⟩
end
def ZcQ(K:PySem.W.Frag)(ta:TA)(js:List Nat)(te:TE):TE:=λσ H Q=>ta σ H λvs H1=>∃l xs,vs=[.ref l]/\ū K H1 l xs/\0<xs.length/\∀c q H2,Same H1 H2->H2 c=some (.Fi q)->(∀a,H1 a=none->H2 a=none\/a=c)->
 ∃(ks:Nat->Int) (W:Nat->Hp->Prop),W 0 H2/\(∀k H,W k H->Same H2 H)/\(∀k v H,xs[k]?=some v->W k H->te (dD js σ v) H λy H'=>y=.int (ks k)/\W (k+1) H')/\
  ∀i v H,xs[i]?=some v->(∀j,j<xs.length->ks i<=ks j/\(j<i->ks i<ks j))->W xs.length H->Q v H
section
variable{X:Cx}{x px:Str}{c P:Addr}{params:Arguments}{body e:Expr}{scope:Scope}{p pos Gd kpos:Pos}{ta:TA}{te:TE}
def OJ(N0:List Str)(js:List Nat)(sc:Scope)(hsc:X.env.scope=sc)(hcalm:X.calm=true)(Zaz:X.A.depth<recursionLimit)(hx:x∈lams)(ht:PySem.W.tabIn X.K x=some (c,P))(hcode:X.env.code=.ref c)(hq:X.env.qual=x ++ ".<locals>.")
 (hg:Gl X "min")(hm:X.mg "min" =none)(ha:PA X [e] ta)(he:∀cl f c' s H,PE (GJ X (N0 ++ [px]) (bT x) scope cl f c' X.A.in1 s H) body te)(hcap:dz X sc scope N0 js)(hlen:js.length=N0.length:=by rfl)
 (hbind:∀(cl:List (Str×Addr)) (pm ctv:Value) (c':Addr) (u:Value),bindArgs (PySem.W.kla_fn "<lambda>" (bT x) params body scope cl pm (.ref c') ctv) ⟨[u],[]⟩=pure [(px,u)]:=by intros;rfl)
 (hk:scope.kind=.function:=by rfl)(hcell:∀y∈scope.names,y.2≠ .cell:=by decide +kernel)(hpx:scope.names.lookup px=some .local:=by rfl)(hco:scope.isCoroutine=false:=by rfl)(hgen:scope.isGenerator=false:=by rfl)
 (hfree:∀y∈scope.names,y.2=.free->(sc.names.lookup y.1=some .cell\/sc.names.lookup y.1=some .free):=by decide +kernel)(hdef:defaultsOf params X.env=([],[]):=by rfl)
 (hst:starEach [e] X.env=[(false,eval e X.env)]:=by rfl)(hpl:(backTo pos (starEach [e] X.env)).any (·.1)=false:=by rfl) :
 PE X (.Call (.Name "min" p) [e] [⟨some "key",.Lambda params body scope Gd,kpos⟩] pos) (ZcQ X.K ta js te):=by
 intro pins s σ H Q I h
 obtain⟨cl,c1,c2,c3⟩:=eG (scope:=scope) (env:=X.env) λy hy hf=>I.ok.has y.1 (by
  have:=hfree y hy hf
  rw[<-hsc] at this
  exact this)
 have hh:=I.ok.hd hcalm
 refine wpAny_Call_Name_kw (gb I hg hm (show bootBuiltins "min" =some (.builtin "min") by kernel_rfl) ?_ (by decide) (by decide))
 refine callWith_kw (ŕ (ha pos pins s σ H _ I h) λus s1 ⟨vs,H1,I1,r1,q1⟩=>?_) (by rw[hst];rfl) hpl rfl rfl
 obtain⟨l,xs,rfl,hs1,hne,q1⟩:=q1
 have eus:us=[.ref l]:=by
  cases r1 with
  |cons a b=>
   cases b
   exact congrArg (λz=>[z]) (show _=Value.ref l from a)
 subst eus
 show wpAny _ _ (evalAll ((do let v <-eval (.Lambda params body scope Gd) X.env;standAt pos;pure v)::[])) _ _ s1
 refine wpAny_evalAll_cons (wpAny_bind (Ij I1 hx ht hcode hq hdef c1 λf c' pm ctv H2 s2 I2 nw sm hc hf fo=>wpAny_bind (wpAny_standAt (wpAny_pure ?_))))
 refine wpAny_evalAll_nil ?_
 obtain⟨ks,W,w0,wm,wt,wq⟩:=q1 c' _ H2 sm hc nw
 refine Gb (xs:=xs) ks W hh (λk H w=>(wm k H w).seq (sm.seq hs1)) (λv z=>by cases z) hne (λk v hv iH H' s' u I' w ru hf'=>?_) (λi v u H' s' hv ru hb I' w=>⟨v,H',I',ru,wq i v H' hv hb w⟩) I2 w0 hf fo
 exact Ik (A:=X.A.in1) (te:=te) (N0:=N0) (js:=js) hsc hk hcap hlen hcell hpx hco hgen I.ok.frames hh Zaz c2 c3 (hbind cl pm ctv c') (λs H=>he cl f c' s H) I' hf' (wm k H' w c' _ hc) ru (wt k v H' hv w)
end
end M5
namespace P
def nst:PySem.Expr->Bool
 | .Starred .. =>false
 |_=>true
def aj{e:PySem.Expr}{es:List PySem.Expr}{env:PySem.Env}(h:nst e=true):PySem.starEach (e::es) env=(false,PySem.eval e env)::PySem.starEach es env:=by
 cases e<;>first|rfl|cases h
def Aj{a b:PySem.Expr}{env:PySem.Env}(h:nst a=true)(h2:nst b=true):PySem.starEach [a,b] env=[(false,PySem.eval a env),(false,PySem.eval b env)]:=by
 rw[aj h,aj h2];rfl
open PySem PySem.Spec PyProof.Rows L2 M2
structure KK where
 K:PySem.W.Frag
 cm:String->Addr
abbrev kk(X:Cx)(cm:String->Addr):KK:=⟨X.K,cm⟩
inductive PV where
 |non|bl (b:Bool)|int (i:Int)|str (x:Str)|tup (xs:List PV)|lst (xs:List PV)
 |ins (C:String) (ns:List Str) (xs:List PV)|xc (C:String) (ns:List Str) (xs:List PV)|ty (n:String)|cls (C:String)
def xo(a C:Addr)(d:Option Addr):HO:=.ext λh=>∃o vs,h.get? a=some o/\o.cls=.ref C/\o.dict=d/\o.data=.fields vs
def xr(F:Hp)(d:Option Addr)(fs:List (Str×V)):Prop:=(d=none/\fs=[])\/∃a,d=some a/\F a=some (.xd fs)
mutual
def Rep(K:KK)(F:Hp):PV->V->Prop
 | .non,v=>v=.non
 | .bl b,v=>v=.bl b
 | .int i,v=>v=.int i
 | .str x,v=>v=.str x
 | .tup ps,v=>∃a xs,v=.ref a/\bO K.K F a xs/\ě K F ps xs
 | .lst ps,v=>∃a xs,v=.ref a/\ū K.K F a xs/\ě K F ps xs
 | .ins C ns ps,v=>∃a dx fs,v=.ref a/\F a=some (.ins (K.cm C) dx fs)/\fs.map (·.1)=ns/\ě K F ps (fs.map (·.2))
 | .xc C ns ps,v=>∃a d fs,v=.ref a/\F a=some (xo a (K.cm C) d)/\xr F d fs/\fs.map (·.1)=ns/\ě K F ps (fs.map (·.2))
 | .ty n,v=>v=.ty n
 | .cls C,v=>v=.ref (K.cm C)
def ě(K:KK)(F:Hp):List PV->List V->Prop
 | [],xs=>xs=[]
 |p::ps,xs=>∃x r,xs=x::r/\Rep K F p x/\ě K F ps r
end
section
variable{K:KK}{F F' H H':Hp}
def xr.same{d:Option Addr}{fs:List (Str×V)}(e:Same F F')(h:xr F d fs):xr F' d fs:=by
 rcases h with h|⟨a,h1,h2⟩
 ·exact .inl h
 ·exact .inr ⟨a,h1,e _ _ h2⟩
mutual
theorem Rep.same(e:Same F F'):∀(p:PV) (v:V),Rep K F p v->Rep K F' p v
 | .non,_,h=>by unfold Rep at h ⊢;exact h
 | .bl _,_,h=>by unfold Rep at h ⊢;exact h
 | .int _,_,h=>by unfold Rep at h ⊢;exact h
 | .str _,_,h=>by unfold Rep at h ⊢;exact h
 | .ty _,_,h=>by unfold Rep at h ⊢;exact h
 | .cls _,_,h=>by unfold Rep at h ⊢;exact h
 | .tup ps,_,h=>by
   unfold Rep at h ⊢
   obtain⟨a,xs,h1,h2,h3⟩:=h
   exact⟨a,xs,h1,Same.tup e h2,ě.same e ps xs h3⟩
 | .lst ps,_,h=>by
   unfold Rep at h ⊢
   obtain⟨a,xs,h1,h2,h3⟩:=h
   exact⟨a,xs,h1,e.seq h2,ě.same e ps xs h3⟩
 | .ins C ns ps,_,h=>by
   unfold Rep at h ⊢
   obtain⟨a,dx,fs,h1,h2,h3,h4⟩:=h
   exact⟨a,dx,fs,h1,e _ _ h2,h3,ě.same e ps _ h4⟩
 | .xc C ns ps,_,h=>by
   unfold Rep at h ⊢
   obtain⟨a,d,fs,h1,h2,hd,h3,h4⟩:=h
   exact⟨a,d,fs,h1,e _ _ h2,hd.same e,h3,ě.same e ps _ h4⟩
theorem ě.same(e:Same F F'):∀(ps:List PV) (xs:List V),ě K F ps xs->ě K F' ps xs
 | [],_,h=>by unfold ě at h ⊢;exact h
 |p::ps,_,h=>by
  unfold ě at h ⊢
  obtain⟨x,r,h1,h2,h3⟩:=h
  exact⟨x,r,h1,Rep.same e p x h2,ě.same e ps r h3⟩
end
theorem ě.pr:∀{ps:List PV} {vs:List V},ě K F ps vs->Paired (Rep K F) ps vs
 | [],_,h=>by unfold ě at h;subst h;exact .nil
 |p::ps,_,h=>by
  unfold ě at h
  obtain⟨x,r,rfl,h2,h3⟩:=h
  exact .cons h2 (ě.pr h3)
theorem ě.of:∀{ps:List PV} {vs:List V},Paired (Rep K F) ps vs->ě K F ps vs
 | [],_,.nil=>by unfold ě;rfl
 |p::ps,_,.cons h t=>by unfold ě;exact⟨_,_,rfl,h,ě.of t⟩
theorem ě.nil:ě K F [] []:=ě.of .nil
theorem ě.cons{p:PV}{v:V}{ps:List PV}{vs:List V}(h:Rep K F p v)(t:ě K F ps vs):ě K F (p::ps) (v::vs):=ě.of (.cons h t.pr)
theorem ě.length{ps:List PV}{vs:List V}(h:ě K F ps vs):ps.length=vs.length:=Paired.length h.pr
theorem aR{α β:Type}{G:α->β->Prop}:∀{l:List α} {m:List β} {i:Nat} {x:α},Paired G l m->l[i]?=some x->∃y,m[i]?=some y/\G x y
 |_,_,_,_,.nil,e=>by simp at e
 |_,_,0,_,.cons r _,e=>by simp at e;subst e;exact⟨_,rfl,r⟩
 |_,_,i+1,x,.cons _ t,e=>by
  obtain⟨y,h1,h2⟩:=aR (i:=i) (x:=x) t (by simpa using e)
  exact⟨y,by simpa using h1,h2⟩
theorem Ak{α β:Type}{G:α->β->Prop}:∀{l l2:List α} {m m2:List β},Paired G l m->Paired G l2 m2->Paired G (l++l2) (m++m2)
 |_,_,_,_,.nil,t=>t
 |_,_,_,_,.cons r s,t=>.cons r (Ak s t)
theorem Il{α β:Type}{G:α->β->Prop}{x:α}{y:β}(r:G x y):∀{l:List α} {m:List β} (i:Nat),Paired G l m->Paired G (l.set i x) (m.set i y)
 |_,_,_,.nil=>.nil
 |_,_,0,.cons _ t=>.cons r t
 |_,_,i+1,.cons q t=>.cons q (Il r i t)
theorem oK{α β:Type}{G:α->β->Prop}:∀{l:List α} {m:List β} (n:Nat),Paired G l m->Paired G (l.take n) (m.take n)
 |_,_,0,_=>.nil
 |_,_,_+1,.nil=>.nil
 |_,_,n+1,.cons r t=>.cons r (oK n t)
theorem oM{α β:Type}{G:α->β->Prop}:∀{l:List α} {m:List β} (n:Nat),Paired G l m->Paired G (l.drop n) (m.drop n)
 |_,_,0,h=>h
 |_,_,_+1,.nil=>.nil
 |_,_,n+1,.cons _ t=>oM n t
def ě.append{ps qs:List PV}{vs us:List V}(h:ě K F ps vs)(t:ě K F qs us):ě K F (ps++qs) (vs++us):=ě.of (Ak h.pr t.pr)
end
inductive Slot where
 |no|sh (p:PV)|ow (ps:List PV)|bw (ps:List PV)|rc (C:String) (ns:List Str) (ps:List PV)|ot (ps qs:List PV)|ol (Di:List (List PV))
abbrev ń:=List Slot
def Slot.own:Slot->Bool
 | .ow _=>true
 | .rc _ _ _=>true
 | .ot _ _=>true
 | .ol _=>true
 |_=>false
structure Ctx where
 B:Hp
 F₀:Hp
 /-- what is lent here:read,never changed,never kept -/
 L:Hp
 /-- which objects may be held as one's own:address,dict,class -/
 S:Addr->Addr->String->Prop
def ŷ(K:KK)(c:Ctx)(F H:Hp)(o:Option V):Slot->Prop
 | .no=>True
 | .sh p=>∃v,o=some v/\Rep K F p v
 | .ow ps=>∃a vs,o=some (.ref a)/\H a=some (.lst vs)/\F a=none/\c.B a=none/\ě K F ps vs
 | .bw ps=>∃a vs,o=some (.ref a)/\c.L a=some (.lst vs)/\ě K F ps vs
 | .rc C ns ps=>∃a dx fs,o=some (.ref a)/\H a=some (.ins (K.cm C) dx fs)/\F a=none/\c.B a=none/\fs.map (·.1)=ns/\ě K F ps (fs.map (·.2))/\c.S a dx C
 | .ot ps qs=>∃p a xs vs,o=some (.ref p)/\F p=some (.tup (xs ++ [.ref a]))/\ě K F ps xs/\H a=some (.lst vs)/\F a=none/\c.B a=none/\ě K F qs vs
 | .ol Di=>∃(p:Addr) (as:List Addr),o=some (.ref p)/\F p=some (.lst (as.map V.ref))/\as.Nodup/\Paired (λ(a:Addr) (ps:List PV)=>∃vs,H a=some (.lst vs)/\F a=none/\c.B a=none/\ě K F ps vs) as Di
def Slot.at_(F:Hp)(x:V)(a:Addr):Slot->Prop
 | .ot _ _=>∃p xs,x=.ref p/\F p=some (.tup (xs ++ [.ref a]))
 | .ol _=>∃(p:Addr) (as:List Addr),x=.ref p/\F p=some (.lst (as.map V.ref))/\a∈as
 | .ow _=>x=.ref a
 | .rc _ _ _=>x=.ref a
 |_=>False
def ŉ(F:Hp)(σ:L2.St)(ρ:ń)(i:Nat)(a:Addr):Prop:=∃s x,ρ[i]?=some s/\σ[i]?=some (some x)/\s.at_ F x a
structure Rel(K:KK)(c:Ctx)(F H:Hp)(σ:L2.St)(ρ:ń):Prop where
 sub:Same F H
 base:Same c.B H
 f0:Same c.F₀ F
 dW:∀a,c.B a≠none->c.F₀ a=none->F a=none
 lent:∀a u,c.L a=some u->H a=some u/\F a=none
 lb:∀a,c.B a=none->c.L a=none
 len:σ.length=ρ.length
 slot:∀(i:Nat) s,ρ[i]?=some s->ŷ K c F H ((σ[i]?).getD none) s
 sep:∀i j a,ŉ F σ ρ i a->ŉ F σ ρ j a->i=j
def mQ(F:Hp)(σ:L2.St)(ρ:ń)(a:Addr):Prop:=∀i,¬ŉ F σ ρ i a
section
variable{K:KK}{c:Ctx}{F F' H H':Hp}{σ:L2.St}{ρ:ń}{a:Addr}{o:HO}
def lH{s:Slot}{x:V}(h:s.at_ F x a):s.own=true:=by
 cases s<;>first|rfl|exact h.elim
theorem pH:∀{as bs:List Addr},as.map V.ref=bs.map V.ref->as=bs
 | [],[],_=>rfl
 | [],_::_,h=>by cases h
 |_::_,[],h=>by cases h
 |a::as,b::bs,h=>by
  injection h with h1 h2
  injection h1 with h1
  rw[h1,pH h2]
def oN{ps qs:List PV}{x:V}{b:Addr}(h:(Slot.ot ps qs).at_ F x a)(h':(Slot.ot ps qs).at_ F x b):a=b:=by
 obtain⟨p,xs,h1,h2⟩:=h
 obtain⟨q,ys,h3,h4⟩:=h'
 rw[h1] at h3
 cases h3
 rw[h2] at h4
 have e:xs ++ [V.ref a]=ys ++ [V.ref b]:=by
  injection h4 with h4
  injection h4
 have e2:=congrArg List.getLast? e
 simp at e2
 exact e2
theorem Im{α β:Type}{G:α->β->Prop}:∀{l:List α} {m:List β} {x:α},Paired G l m->x∈l->∃y,y∈m/\G x y
 |_,_,_,.nil,h=>by simp at h
 |_,_,x,.cons r t,h=>by
  rcases List.mem_cons.mp h with rfl|h
  ·exact⟨_,List.mem_cons_self,r⟩
  ·obtain⟨y,h1,h2⟩:=Im t h
   exact⟨y,List.mem_cons_of_mem _ h1,h2⟩
theorem Io{α β:Type}{G G':α->β->Prop}:∀{l:List α} {m:List β},Paired G l m->(∀x y,x∈l->G x y->G' x y)->Paired G' l m
 |_,_,.nil,_=>.nil
 |_,_,.cons r t,h=>.cons (h _ _ List.mem_cons_self r) (Io t λx y hx=>h x y (List.mem_cons_of_mem _ hx))
def ŷ.grow{s:Slot}{x:Option V}(h:ŷ K c F H x s)(eF:Same F F')(eH:∀b vs,(∃y,x=some y/\s.at_ F y b)->H b=some vs->F b=none->c.B b=none->H' b=some vs/\F' b=none):ŷ K c F' H' x s:=by
 cases s with
 |no=>trivial
 |sh p=>obtain⟨v,h1,h2⟩:=h;exact⟨v,h1,h2.same eF p v⟩
 |ow ps=>
  obtain⟨b,vs,h1,h2,h3,h4,h5⟩:=h
  obtain⟨e1,e2⟩:=eH b _ ⟨_,h1,rfl⟩ h2 h3 h4
  exact⟨b,vs,h1,e1,e2,h4,h5.same eF ps vs⟩
 |bw ps=>obtain⟨b,vs,h1,h2,h3⟩:=h;exact⟨b,vs,h1,h2,h3.same eF ps vs⟩
 |rc C ns ps=>
  obtain⟨b,dx,fs,h1,h2,h3,h4,h5,h6⟩:=h
  obtain⟨e1,e2⟩:=eH b _ ⟨_,h1,rfl⟩ h2 h3 h4
  exact⟨b,dx,fs,h1,e1,e2,h4,h5,h6.1.same eF ps _,h6.2⟩
 |ot ps qs=>
  obtain⟨p,b,xs,vs,h1,h2,h3,h4,h5,h6,h7⟩:=h
  obtain⟨e1,e2⟩:=eH b _ ⟨_,h1,p,xs,rfl,h2⟩ h4 h5 h6
  exact⟨p,b,xs,vs,h1,eF _ _ h2,h3.same eF ps xs,e1,e2,h6,h7.same eF qs vs⟩
 |ol Di=>
  obtain⟨p,as,h1,h2,h3,h4⟩:=h
  refine⟨p,as,h1,eF _ _ h2,h3,Io h4 λb ps hb ⟨vs,k1,k2,k3,k4⟩=>?_⟩
  obtain⟨e1,e2⟩:=eH b _ ⟨_,h1,p,as,rfl,h2,hb⟩ k1 k2 k3
  exact⟨vs,e1,e2,k3,k4.same eF ps vs⟩
def ŷ.owned{s:Slot}{y:V}(h:ŷ K c F H (some y) s)(ha:s.at_ F y a):∃u,H a=some u/\F a=none/\c.B a=none:=by
 cases s with
 |no=>exact ha.elim
 |sh p=>exact ha.elim
 |bw ps=>exact ha.elim
 |ow ps=>
  obtain⟨b,vs,h1,h2,h3,h4,h5⟩:=h
  rw[show y=.ref a from ha] at h1
  cases h1
  exact⟨_,h2,h3,h4⟩
 |rc C ns ps=>
  obtain⟨b,dx,fs,h1,h2,h3,h4,h5,h6⟩:=h
  rw[show y=.ref a from ha] at h1
  cases h1
  exact⟨_,h2,h3,h4⟩
 |ot ps qs=>
  obtain⟨p,b,xs,vs,h1,h2,h3,h4,h5,h6,h7⟩:=h
  cases h1
  cases oN (ps:=ps) (qs:=qs) ha ⟨p,xs,rfl,h2⟩
  exact⟨_,h4,h5,h6⟩
 |ol Di=>
  obtain⟨p,as,h1,h2,h3,h4⟩:=h
  cases h1
  obtain⟨q,bs,e1,e2,e3⟩:=ha
  cases e1
  rw[h2] at e2
  have e:as=bs:=pH (by injection e2 with e2;injection e2)
  subst e
  obtain⟨ps,_,vs,k1,k2,k3,_⟩:=Im h4 e3
  exact⟨_,k1,k2,k3⟩
def ŷ.back{s:Slot}{y:V}(h:ŷ K c F H (some y) s)(e:Same F F')(ha:s.at_ F' y a):s.at_ F y a:=by
 cases s with
 |ot ps qs=>
  obtain⟨p,b,xs,vs,h1,h2,h3,h4,h5,h6,h7⟩:=h
  cases h1
  cases oN (ps:=ps) (qs:=qs) ha ⟨p,xs,rfl,e _ _ h2⟩
  exact⟨p,xs,rfl,h2⟩
 |ol Di=>
  obtain⟨p,as,h1,h2,h3,h4⟩:=h
  cases h1
  obtain⟨q,bs,e1,e2,e3⟩:=ha
  cases e1
  rw[e _ _ h2] at e2
  have z:as=bs:=pH (by injection e2 with e2;injection e2)
  subst z
  exact⟨p,as,rfl,h2,e3⟩
 |_=>exact ha
def gq{i:Nat}{x:V}(e:σ[i]?=some (some x)):(σ[i]?).getD none=some x:=by rw[e];rfl
def Ip{i:Nat}{x:V}(e:(σ[i]?).getD none=some x):σ[i]?=some (some x):=by
 cases q:σ[i]? with
 |none=>rw[q] at e;cases e
 |some y=>rw[q] at e;exact congrArg some e
theorem Rel.owned(r:Rel K c F H σ ρ){i:Nat}(h:ŉ F σ ρ i a):(∃u,H a=some u)/\F a=none/\c.B a=none:=by
 obtain⟨s,x,h1,h2,h3⟩:=h
 have q:=r.slot i s h1
 rw[gq h2] at q
 obtain⟨u,q⟩:=q.owned h3
 exact⟨⟨u,q.1⟩,q.2⟩
theorem Rel.back(r:Rel K c F H σ ρ)(e:Same F F'){i:Nat}(h:ŉ F' σ ρ i a):ŉ F σ ρ i a:=by
 obtain⟨s,x,h1,h2,h3⟩:=h
 have q:=r.slot i s h1
 rw[gq h2] at q
 exact⟨s,x,h1,h2,q.back e h3⟩
def Rel.ZaB(r:Rel K c F H σ ρ)(e:Same F F'):∀i j a,ŉ F' σ ρ i a->ŉ F' σ ρ j a->i=j:=λi j a h1 h2=>r.sep i j a (r.back e h1) (r.back e h2)
def Rel.uR(r:Rel K c F H σ ρ)(e:Same F F')(h:mQ F σ ρ a):mQ F' σ ρ a:=λi q=>h i (r.back e q)
def Rel.fresh(r:Rel K c F H σ ρ)(h:H a=none):mQ F σ ρ a:=λi q=>by
 obtain⟨⟨u,e⟩,_⟩:=r.owned q
 rw[h] at e;cases e
def Rel.alloc(r:Rel K c F H σ ρ)(h:H a=none):Rel K c (upd F a o) (upd H a o) σ ρ where
 sub:=λb u e=>by
  by_cases hb:b=a
  ·subst hb;rw[ģ] at e ⊢;exact e
  ·rw[Ĝ hb] at e ⊢;exact r.sub b u e
 base:=λb u e=>by
  have hb:b≠a:=λz=>by rw[z] at e;rw[r.base _ _ e] at h;cases h
  rw[Ĝ hb];exact r.base b u e
 f0:=fun b u e=>by
   have hb:b≠a:=λz=>by rw[z] at e;rw[r.sub _ _ (r.f0 _ _ e)] at h;cases h
   rw[Ĝ hb];exact r.f0 b u e
 dW:=λb h1 h2=>by
  have hb:b≠a:=λz=>by
   subst z
   cases q:c.B b with
   |none=>exact h1 q
   |some u=>rw[r.base _ _ q] at h;cases h
  rw[Ĝ hb];exact r.dW b h1 h2
 lent:=λb u e=>by
  obtain⟨h1,h2⟩:=r.lent b u e
  have hb:b≠a:=λz=>by rw[z,h] at h1;cases h1
  rw[Ĝ hb,Ĝ hb];exact⟨h1,h2⟩
 lb:=r.lb
 len:=r.len
 slot:=λi s e=>by
  have hF:F a=none:=r.sub.free h
  refine(r.slot i s e).grow (Same.upd hF) λb u _ h1 h2 h3=>?_
  have hb:b≠a:=λz=>by rw[z,h] at h1;cases h1
  rw[Ĝ hb,Ĝ hb];exact⟨h1,h2⟩
 sep:=r.ZaB (Same.upd (r.sub.free h))
def Rel.made(r:Rel K c F H σ ρ)(h:H a=none):Rel K c F (upd H a o) σ ρ where
 sub:=r.sub.trans (Same.upd h)
 base:=r.base.trans (Same.upd h)
 f0:=r.f0
 dW:=r.dW
 lent:=λb u e=>⟨Same.upd h b u (r.lent b u e).1,(r.lent b u e).2⟩
 lb:=r.lb
 len:=r.len
 slot:=λi s e=>(r.slot i s e).grow (Same.refl F) λb u _ h1 h2 h3=>⟨Same.upd h b u h1,h2⟩
 sep:=r.sep
def Rel.freeze(r:Rel K c F H σ ρ)(h:H a=some o)(hB:c.B a=none)(hF:F a=none)(hf:mQ F σ ρ a):Rel K c (upd F a o) H σ ρ where
 sub:=λb u e=>by
  by_cases hb:b=a
  ·subst hb;rw[ģ] at e;rw[h];exact e
  ·rw[Ĝ hb] at e;exact r.sub b u e
 base:=r.base
 f0:=r.f0.trans (Same.upd hF)
 dW:=λb h1 h2=>by
  have hb:b≠a:=λz=>h1 (by rw[z];exact hB)
  rw[Ĝ hb];exact r.dW b h1 h2
 lent:=λb u e=>by
  have hb:b≠a:=λz=>by rw[z,r.lb a hB] at e;cases e
  rw[Ĝ hb];exact r.lent b u e
 lb:=r.lb
 len:=r.len
 slot:=λi s e=>(r.slot i s e).grow (Same.upd hF) λb' u' ⟨y,e1',ha⟩ h1 h2 h3=>by
  have hb:b'≠a:=λz=>by
   subst z
   exact hf i ⟨s,y,e,Ip e1',ha⟩
  rw[Ĝ hb];exact⟨h1,h2⟩
 sep:=r.ZaB (Same.upd hF)
def aY{α:Type}{l:List α}{i j:Nat}{x y:α}(h:(l.set i x)[j]?=some y):(j=i/\y=x/\i<l.length)\/(j≠i/\l[j]?=some y):=by
 by_cases hj:j=i
 ·subst hj
  have hl:j<l.length:=by
   have:=(List.getElem?_eq_some_iff.mp h).1
   simpa using this
  rw[List.getElem?_set_self hl] at h
  exact .inl ⟨rfl,(Option.some.inj h).symm,hl⟩
 ·rw[List.getElem?_set_ne (Ne.symm hj)] at h
  exact .inr ⟨hj,h⟩
def Ir{l:L2.St}{i:Nat}{x:Option V}(h:i<l.length):((l.set i x)[i]?).getD none=x:=by rw[List.getElem?_set_self h];rfl
def Dj{l:L2.St}{i j:Nat}{x:Option V}(h:j≠i):((l.set i x)[j]?).getD none=(l[j]?).getD none:=by rw[List.getElem?_set_ne (Ne.symm h)]
def ŉ.off{i j:Nat}{x:Option V}{s:Slot}(h:ŉ F (σ.set i x) (ρ.set i s) j a)(hj:j≠i):ŉ F σ ρ j a:=by
 obtain⟨s',y,h1,h2,h3⟩:=h
 rw[List.getElem?_set_ne (Ne.symm hj)] at h1 h2
 exact⟨s',y,h1,h2,h3⟩
def Rel.put(r:Rel K c F H σ ρ){i:Nat}{x:Option V}{s:Slot}(hs:s.own=false)(h:ŷ K c F H x s):Rel K c F H (σ.set i x) (ρ.set i s) where
 sub:=r.sub
 base:=r.base
 f0:=r.f0
 dW:=r.dW
 lent:=r.lent
 lb:=r.lb
 len:=by simpa using r.len
 slot:=λj s' e=>by
  rcases aY e with⟨rfl,rfl,hl⟩|⟨hj,e⟩
  ·rw[Ir (by rw[r.len];exact hl)];exact h
  ·rw[Dj hj];exact r.slot j s' e
 sep:=λj k b h1 h2=>by
  have off:∀{j},ŉ F (σ.set i x) (ρ.set i s) j b->j≠i:=fun{j} q z=>by
   subst z
   obtain⟨s',y,q1,_,q2⟩:=q
   rcases aY q1 with⟨_,rfl,_⟩|⟨q,_⟩
   ·have:=lH q2;rw[hs] at this;cases this
   ·exact q rfl
  exact r.sep j k b (h1.off (off h1)) (h2.off (off h2))
def Rel.QH(r:Rel K c F H σ ρ){i:Nat}{s:Slot}(hs:s.own=false)(h:ŷ K c F H ((σ[i]?).getD none) s):Rel K c F H σ (ρ.set i s) where
 sub:=r.sub
 base:=r.base
 f0:=r.f0
 dW:=r.dW
 lent:=r.lent
 lb:=r.lb
 len:=by simpa using r.len
 slot:=λj s' e=>by
  rcases aY e with⟨rfl,rfl,hl⟩|⟨hj,e⟩
  ·exact h
  ·exact r.slot j s' e
 sep:=λj k b h1 h2=>by
  have off:∀{j},ŉ F σ (ρ.set i s) j b->ŉ F σ ρ j b:=fun{j} ⟨s',y,q1,q3,q2⟩=>by
   rcases aY q1 with⟨_,rfl,_⟩|⟨_,q⟩
   ·have:=lH q2;rw[hs] at this;cases this
   ·exact⟨s',y,q,q3,q2⟩
  exact r.sep j k b (off h1) (off h2)
def Rel.O_(r:Rel K c F H σ ρ){i:Nat}{x:V}{s:Slot}(h:ŷ K c F H (some x) s)(hf:∀a,s.at_ F x a->mQ F σ ρ a):Rel K c F H (σ.set i (some x)) (ρ.set i s) where
 sub:=r.sub
 base:=r.base
 f0:=r.f0
 dW:=r.dW
 lent:=r.lent
 lb:=r.lb
 len:=by simpa using r.len
 slot:=λj s' e=>by
  rcases aY e with⟨rfl,rfl,hl⟩|⟨hj,e⟩
  ·rw[Ir (by rw[r.len];exact hl)];exact h
  ·rw[Dj hj];exact r.slot j s' e
 sep:=λj k b h1 h2=>by
  have ZaC:∀{j},ŉ F (σ.set i (some x)) (ρ.set i s) j b->(j=i/\s.at_ F x b)\/(j≠i/\ŉ F σ ρ j b):=fun{j} q=>by
   by_cases hj:j=i
   ·subst hj
    obtain⟨s',y,q1,q2,q3⟩:=q
    rcases aY q2 with⟨_,e,_⟩|⟨z,_⟩
    ·cases e
     rcases aY q1 with⟨_,e,_⟩|⟨z,_⟩
     ·cases e
      exact .inl ⟨rfl,q3⟩
     ·exact absurd rfl z
    ·exact absurd rfl z
   ·exact .inr ⟨hj,q.off hj⟩
  rcases ZaC h1 with⟨e1,z1⟩|⟨e1,o1⟩
  ·rcases ZaC h2 with⟨e2,z2⟩|⟨e2,o2⟩
   ·rw[e1,e2]
   ·exact absurd o2 (hf b z1 k)
  ·rcases ZaC h2 with⟨e2,z2⟩|⟨e2,o2⟩
   ·exact absurd o1 (hf b z2 j)
   ·exact r.sep j k b o1 o2
def Rel.ZaD(r:Rel K c F H σ ρ){i:Nat}{s:Slot}(ho:ŉ F σ ρ i a)(h:ŷ K c F (upd H a o) ((σ[i]?).getD none) s)(hs:∀x b,σ[i]?=some (some x)->s.at_ F x b->ŉ F σ ρ i b):Rel K c F (upd H a o) σ (ρ.set i s) where
 sub:=λb u e=>by
  have hb:b≠a:=λz=>by rw[z,(r.owned ho).2.1] at e;cases e
  rw[Ĝ hb];exact r.sub b u e
 base:=λb u e=>by
  have hb:b≠a:=λz=>by rw[z,(r.owned ho).2.2] at e;cases e
  rw[Ĝ hb];exact r.base b u e
 f0:=r.f0
 dW:=r.dW
 lent:=λb u e=>by
  have hb:b≠a:=λz=>by rw[z,r.lb a (r.owned ho).2.2] at e;cases e
  rw[Ĝ hb];exact r.lent b u e
 lb:=r.lb
 len:=by simpa using r.len
 slot:=λj s' e=>by
  rcases aY e with⟨rfl,rfl,hl⟩|⟨hj,e⟩
  ·exact h
  ·refine(r.slot j s' e).grow (Same.refl F) λb u ⟨y,e1,e2⟩ h1 h2 h3=>?_
   have hb:b≠a:=λz=>by
    subst z
    exact hj (r.sep j i b ⟨s',y,e,Ip e1,e2⟩ ho)
   exact⟨by rw[Ĝ hb];exact h1,h2⟩
 sep:=λj k b h1 h2=>by
  have off:∀{j},ŉ F σ (ρ.set i s) j b->ŉ F σ ρ j b:=fun{j} ⟨s',y,q1,q3,q2⟩=>by
   rcases aY q1 with⟨e,rfl,_⟩|⟨_,q⟩
   ·subst e
    exact hs y b q3 q2
   ·exact⟨s',y,q,q3,q2⟩
  exact r.sep j k b (off h1) (off h2)
def Rel.write(r:Rel K c F H σ ρ){i:Nat}{s:Slot}(ho:ŉ F σ ρ i a)(hx:σ[i]?=some (some (.ref a)))(h:ŷ K c F (upd H a o) (some (.ref a)) s)(hs:∀b,s.at_ F (.ref a) b->b=a):Rel K c F (upd H a o) σ (ρ.set i s):=
 r.ZaD ho (by rw[hx];exact h) λx b e q=>by rw[hx] at e;cases e;rw[hs b q];exact ho
structure Gr(F H F' H':Hp):Prop where
 h:Same H H'
 f:Same F F'
 sub:Same F' H'
 out:∀a,H a≠none->F a=none->F' a=none
def Rel.call(r:Rel K c F H σ ρ)(g:Gr F H F' H'):Rel K c F' H' σ ρ where
 sub:=g.sub
 base:=r.base.trans g.h
 f0:=r.f0.trans g.f
 dW:=λb h1 h2=>by
  refine g.out b (λz=>h1 ?_) (r.dW b h1 h2)
  cases q:c.B b with
  |none=>rfl
  |some u=>rw[r.base _ _ q] at z;cases z
 lent:=λb u e=>⟨g.h b u (r.lent b u e).1,g.out b (by rw[(r.lent b u e).1];intro z;cases z) (r.lent b u e).2⟩
 lb:=r.lb
 len:=r.len
 slot:=λi s e=>(r.slot i s e).grow g.f λb u _ h1 h2 h3=>⟨g.h b u h1,g.out b (by rw[h1];intro z;cases z) h2⟩
 sep:=r.ZaB g.f
def ctx0(F H:Hp):Ctx:=⟨H,F,λa=>match F a with
 |none=>H a
 |some _=>none,λ_ _ _=>True⟩
def cU{a:Addr}{u:HO}(h:(ctx0 F H).L a=some u):H a=some u/\F a=none:=by
 unfold ctx0 at h
 dsimp only at h
 cases q:F a with
 |none=>rw[q] at h;exact⟨h,rfl⟩
 |some o=>rw[q] at h;cases h
def Rel.gr(r:Rel K (ctx0 F H) F' H' σ ρ):Gr F H F' H':=⟨r.base,r.f0,r.sub,r.dW⟩
def bA(K:KK)(F H:Hp):Slot->V->Prop
 | .sh p,v=>Rep K F p v
 | .bw ps,v=>∃a vs,v=.ref a/\H a=some (.lst vs)/\F a=none/\ě K F ps vs
 |_,_=>False
def bA.slot{s:Slot}{v:V}(h:bA K F H s v):ŷ K (ctx0 F H) F H (some v) s/\s.own=false:=by
 cases s with
 |sh p=>exact⟨⟨v,rfl,h⟩,rfl⟩
 |bw ps=>
  obtain⟨a,vs,rfl,h1,h2,h3⟩:=h
  refine⟨⟨a,vs,rfl,?_,h3⟩,rfl⟩
  show(match F a with|none=>H a|some _=>none)=_
  rw[h2]
  exact h1
 |no=>exact h.elim
 |ow ps=>exact h.elim
 |rc C ns ps=>exact h.elim
 |ot ps qs=>exact h.elim
 |ol Di=>exact h.elim
def startP(n:Nat)(as:List Slot):ń:=as++List.replicate (n-as.length) .no
theorem Rel.start{N:List Str}{as:List Slot}{vs:List V}(s:Same F H)(h:Paired (bA K F H) as vs):Rel K (ctx0 F H) F H (L2.start N vs) (startP N.length as) where
 sub:=s
 base:=Same.refl H
 f0:=Same.refl F
 dW:=λ_ _ h=>h
 lent:=λ_ _ e=>cU e
 lb:=fun a e=>by
   cases q:(ctx0 F H).L a with
   |none=>rfl
   |some u=>
    have e':H a=none:=e
    rw[(cU q).1] at e'
    cases e'
 len:=by unfold L2.start startP;simp[Paired.length h]
 slot:=λi s' e=>by
  unfold startP at e
  by_cases hi:i<as.length
  ·rw[List.getElem?_append_left hi] at e
   obtain⟨v,h1,h2⟩:=aR h e
   have hv:((L2.start N vs)[i]?).getD none=some v:=by
    unfold L2.start
    rw[List.getElem?_append_left (by simpa[<-Paired.length h] using hi),List.getElem?_map,h1];rfl
   rw[hv]
   exact(bA.slot h2).1
  ·rw[List.getElem?_append_right (by omega),List.getElem?_replicate] at e
   split at e
   ·cases e;trivial
   ·cases e
 sep:=λi j a h1 _=>by
  obtain⟨s',y,h1,_,h2⟩:=h1
  have h2:=lH h2
  exfalso
  unfold startP at h1
  by_cases hi:i<as.length
  ·rw[List.getElem?_append_left hi] at h1
   obtain⟨v,_,h3⟩:=aR h h1
   rw[(bA.slot h3).2] at h2
   cases h2
  ·rw[List.getElem?_append_right (by omega),List.getElem?_replicate] at h1
   split at h1
   ·cases h1;cases h2
   ·cases h1
end
structure PX where
 C:String
 ns:List Str
 ps:List PV
def Pa(K:KK)(F:Hp)(x:PX)(C:Value)(d:Option Addr):Prop:=C=.ref (K.cm x.C)/\∃fs,xr F d fs/\fs.map (·.1)=x.ns/\ě K F x.ps (fs.map (·.2))
inductive Res(α:Type) where
 |ok (a:α) (ρ:ń)|exc (x:PX) (ρ:ń)|bad
def Res.bind{α β:Type}(r:Res α)(f:α->ń->Res β):Res β:= match r with
 | .ok a ρ=>f a ρ
 | .exc x ρ=>.exc x ρ
 | .bad=>.bad
@[simp] theorem Res.aH{α β:Type}{a:α}{ρ:ń}{f:α->ń->Res β}:(Res.ok a ρ).bind f=f a ρ:= rfl
@[simp] theorem Res.ZcR{α β:Type}{x:PX}{ρ:ń}{f:α->ń->Res β}:(Res.exc x ρ:Res α).bind f=.exc x ρ:= rfl
@[simp] theorem Res.ZcS{α β:Type}{f:α->ń->Res β}:(Res.bad:Res α).bind f=.bad:=rfl
def Res.kO{α:Type}(o:Option α)(ρ:ń):Res α:= match o with
 |some a=>.ok a ρ
 |none=>.bad
@[simp] theorem Res.ZcT{α:Type}{a:α}{ρ:ń}:Res.kO (some a) ρ=.ok a ρ:= rfl
@[simp] theorem Res.ZcU{α:Type}{ρ:ń}:Res.kO (none:Option α) ρ=.bad:=rfl
abbrev M(α:Type):=ń->Res α
inductive RV where
 |sh (p:PV)|ow (ps:List PV)|ot (ps qs:List PV)
def RV.val:RV->PV
 | .sh p=>p
 | .ow ps=>.lst ps
 | .ot ps qs=>.tup (ps ++ [.lst qs])
def RV.slot:RV->Slot
 | .sh p=>.sh p
 | .ow ps=>.ow ps
 | .ot ps qs=>.ot ps qs
abbrev RR(α β:Type):=Ctx->L2.St->ń->Hp->Hp->α->β->Prop
def rV(K:KK):RR PV V:=λ_ _ _ F _ p v=>Rep K F p v
def xu(K:KK)(F H:Hp)(p:PV)(v:V):Prop:=match p with
 | .lst ps=>∃a vs,v=.ref a/\H a=some (.lst vs)/\ě K F ps vs
 | .ins C ns ps=>∃a dx fs,v=.ref a/\H a=some (.ins (K.cm C) dx fs)/\fs.map (·.1)=ns/\ě K F ps (fs.map (·.2))
 |_=>False
def rR(K:KK):RR PV V:=λ_ _ _ F H p v=>Rep K F p v\/xu K F H p v
def rA(K:KK):RR (List Slot) (List V):=λ_ _ _ F H as vs=>Paired (bA K F H) as vs
def Held(K:KK)(c:Ctx)(σ:L2.St)(ρ:ń)(F H:Hp)(ps:List PV)(v:V):Prop:=∃a vs,v=.ref a/\H a=some (.lst vs)/\F a=none/\c.B a=none/\mQ F σ ρ a/\ě K F ps vs
def Dk(K:KK)(c:Ctx)(σ:L2.St)(ρ:ń)(F H:Hp)(ps qs:List PV)(v:V):Prop:=∃p a xs vs,v=.ref p/\F p=some (.tup (xs ++ [.ref a]))/\ě K F ps xs/\H a=some (.lst vs)/\F a=none/\c.B a=none/\mQ F σ ρ a/\ě K F qs vs
def rO(K:KK):RR RV V:=λc σ ρ F H r v=>match r with
 | .sh p=>Rep K F p v
 | .ow ps=>Held K c σ ρ F H ps v
 | .ot ps qs=>Dk K c σ ρ F H ps qs v
def rL(K:KK):RR (List PV) (List V):=λ_ _ _ F _ p v=>ě K F p v
def rRL(K:KK):RR (List PV) (List V):=λc σ ρ F H p v=>Paired (rR K c σ ρ F H) p v
def rB:RR Bool Bool:=λ_ _ _ _ _ p v=>p=v
def rI:RR (Option Int) (Option Int):=λ_ _ _ _ _ p v=>p=v
def au{α β:Type}(K:KK)(E:L2.St->XK)(R:RR α β)(c:Ctx)(F H:Hp)(σ:L2.St)(Q:β->Hp->Prop):Res α->Prop
 | .ok p ρ'=>∀v F' H',Rel K c F' H' σ ρ'->Same F F'->Same H H'->R c σ ρ' F' H' p v->Q v H'
 | .exc x ρ'=>∀C d F' H',Rel K c F' H' σ ρ'->Same F F'->Pa K F' x C d->E σ C d H'
 | .bad=>False
def tG{α β:Type}(K:KK)(E:L2.St->XK)(R:RR α β)(m:M α):L2.St->Hp->(β->Hp->Prop)->Prop:=λσ H Q=>∃c F ρ,Rel K c F H σ ρ/\au K E R c F H σ Q (m ρ)
section
variable{α β α' β':Type}{K:KK}{E:L2.St->XK}{R:RR α β}{R':RR α' β'}{c:Ctx}{F F1 H H1:Hp}{σ:L2.St}
def au.mono{Q:β->Hp->Prop}{r:Res α}(h:au K E R c F H σ Q r)(sF:Same F F1)(sH:Same H H1):au K E R c F1 H1 σ Q r:=by
 cases r with
 |ok p ρ'=>exact λv F' H' rel s1 s2 q=>h v F' H' rel (sF.trans s1) (sH.trans s2) q
 |exc x ρ'=>exact λC d F' H' rel s1 q=>h C d F' H' rel (sF.trans s1) q
 |bad=>exact h
theorem au.bind{Q:β->Hp->Prop}{Q':β'->Hp->Prop}{r:Res α}{f:α->ń->Res α'}(h:au K E R' c F H σ Q' (r.bind f))
 (k:∀p ρ1 v F1 H1,Rel K c F1 H1 σ ρ1->Same F F1->Same H H1->R c σ ρ1 F1 H1 p v->au K E R' c F1 H1 σ Q' (f p ρ1)->Q v H1):au K E R c F H σ Q r:=by
 cases r with
 |ok p ρ'=>exact λv F' H' rel s1 s2 q=>k p ρ' v F' H' rel s1 s2 q (au.mono (show au K E R' c F H σ Q' (f p ρ') from h) s1 s2)
 |exc x ρ'=>exact h
 |bad=>exact h
theorem au.rel{R2:RR α β}{Q:β->Hp->Prop}{r:Res α}(h:au K E R c F H σ Q r)(k:∀p ρ' v F' H',Rel K c F' H' σ ρ'->R2 c σ ρ' F' H' p v->R c σ ρ' F' H' p v):au K E R2 c F H σ Q r:=by
 cases r with
 |ok p ρ'=>exact λv F' H' rel s1 s2 q=>h v F' H' rel s1 s2 (k p ρ' v F' H' rel q)
 |exc x ρ'=>exact h
 |bad=>exact h
end
abbrev tV(K:KK)(E:L2.St->XK)(m:M PV):TE:=tG K E (rV K) m
abbrev tR(K:KK)(E:L2.St->XK)(m:M PV):TE:=tG K E (rR K) m
abbrev tO(K:KK)(E:L2.St->XK)(m:M RV):TE:=tG K E (rO K) m
abbrev tL(K:KK)(E:L2.St->XK)(m:M (List PV)):TA:=tG K E (rL K) m
abbrev tA(K:KK)(E:L2.St->XK)(m:M (List Slot)):TA:=tG K E (rA K) m
abbrev Nh(K:KK)(E:L2.St->XK)(m:M (List PV)):TA:=tG K E (rRL K) m
abbrev tB(K:KK)(E:L2.St->XK)(m:M Bool):TT:=tG K E rB m
inductive Fl where
 |nx|bk|ct|rt (r:RV)
def ů(K:KK)(E:L2.St->XK)(c:Ctx)(F:Hp)(D:Ends):Res Fl->Prop
 | .ok .nx ρ'=>∀σ' F' H',Rel K c F' H' σ' ρ'->Same F F'->D.nx σ' H'
 | .ok .bk ρ'=>∀σ' F' H',Rel K c F' H' σ' ρ'->Same F F'->D.bk σ' H'
 | .ok .ct ρ'=>∀σ' F' H',Rel K c F' H' σ' ρ'->Same F F'->D.ct σ' H'
 | .ok (.rt r) ρ'=>∀v σ' F' H',Rel K c F' H' σ' ρ'->Same F F'->rO K c σ' ρ' F' H' r v->D.rt v H'
 | .exc x ρ'=>∀σ' C d F' H',Rel K c F' H' σ' ρ'->Same F F'->Pa K F' x C d->E σ' C d H'
 | .bad=>False
def tS(K:KK)(E:L2.St->XK)(m:M Fl):TS:=λD σ H=>∃c F ρ,Rel K c F H σ ρ/\ů K E c F D (m ρ)
section
variable{K:KK}{E:L2.St->XK}{c:Ctx}{F F1:Hp}{D:Ends}
def ů.mono{r:Res Fl}(h:ů K E c F D r)(sF:Same F F1):ů K E c F1 D r:=by
 cases r with
 |ok f ρ'=>
  cases f with
  |rt v=>exact λv σ' F' H' rel s1 q=>h v σ' F' H' rel (sF.trans s1) q
  |nx=>exact λσ' F' H' rel s1=>h σ' F' H' rel (sF.trans s1)
  |bk=>exact λσ' F' H' rel s1=>h σ' F' H' rel (sF.trans s1)
  |ct=>exact λσ' F' H' rel s1=>h σ' F' H' rel (sF.trans s1)
 |exc x ρ'=>exact λσ' C d F' H' rel s1 q=>h σ' C d F' H' rel (sF.trans s1) q
 |bad=>exact h
theorem ů.bind{α β:Type}{R:RR α β}{σ:L2.St}{H:Hp}{Q:β->Hp->Prop}{r:Res α}{f:α->ń->Res Fl}(h:ů K E c F D (r.bind f))
 (k:∀p ρ1 v F1 H1,Rel K c F1 H1 σ ρ1->Same F F1->R c σ ρ1 F1 H1 p v->ů K E c F1 D (f p ρ1)->Q v H1):au K E R c F H σ Q r:=by
 cases r with
 |ok p ρ'=>exact λv F' H' rel s1 s2 q=>k p ρ' v F' H' rel s1 q (ů.mono (show ů K E c F D (f p ρ') from h) s1)
 |exc x ρ'=>exact λC d F' H' rel s1 q=>h σ C d F' H' rel s1 q
 |bad=>exact h
end
end P
namespace P
open PySem PySem.Spec PyProof.Rows L2 M2
def ĕ(i:Nat):M PV:=λρ=>match ρ[i]? with
 |some (.sh p)=>.ok p ρ
 |some (.ow ps)=>.ok (.lst ps) (ρ.set i (.sh (.lst ps)))
 |_=>.bad
def Ā(i:Nat):M PV:=λρ=>match ρ[i]? with
 |some (.sh p)=>.ok p ρ
 |some (.ow ps)=>.ok (.lst ps) ρ
 |some (.bw ps)=>.ok (.lst ps) ρ
 |some (.rc C ns ps)=>.ok (.ins C ns ps) ρ
 |_=>.bad
def bB(i:Nat):M RV:=λρ=>match ρ[i]? with
 |some (.sh p)=>.ok (.sh p) ρ
 |some (.ow ps)=>.ok (.ow ps) (ρ.set i .no)
 |_=>.bad
def mC(p:PV):M PV:=λρ=>.ok p ρ
def Ŋ(m:M PV):M RV:=λρ=>(m ρ).bind λp ρ1=>.ok (.sh p) ρ1
def Ď(m:M RV):M PV:=λρ=>(m ρ).bind λr ρ1=>.ok r.val ρ1
section
variable{K:KK}{c:Ctx}{F H:Hp}{σ:L2.St}{ρ:ń}
def at_of{i:Nat}{x:V}(h:(σ[i]?).getD none=some x):σ[i]?=some (some x):=by
 cases q:σ[i]? with
 |none=>rw[q] at h;cases h
 |some y=>rw[q] at h;exact congrArg some h
theorem Rel.ow(r:Rel K c F H σ ρ){i:Nat}{ps:List PV}(e:ρ[i]?=some (.ow ps)):∃a vs,σ[i]?=some (some (.ref a))/\H a=some (.lst vs)/\F a=none/\c.B a=none/\ě K F ps vs/\ŉ F σ ρ i a:=by
 obtain⟨a,vs,h1,h2,h3,h4,h5⟩:=r.slot i _ e
 exact⟨a,vs,at_of h1,h2,h3,h4,h5,⟨_,_,e,at_of h1,rfl⟩⟩
def Rel.move(r:Rel K c F H σ ρ){i:Nat}{a:Addr}(h:ŉ F σ ρ i a):Rel K c F H σ (ρ.set i .no)/\mQ F σ (ρ.set i .no) a:=by
 refine⟨r.QH rfl trivial,λj ⟨s,y,q1,q3,q2⟩=>?_⟩
 rcases aY q1 with⟨_,rfl,_⟩|⟨hj,q⟩
 ·exact q2.elim
 ·exact hj (r.sep j i a ⟨s,y,q,q3,q2⟩ h)
def Rel.share(r:Rel K c F H σ ρ){i:Nat}{ps:List PV}(e:ρ[i]?=some (.ow ps)):∃a vs,σ[i]?=some (some (.ref a))/\F a=none/\Rep K (upd F a (.lst vs)) (.lst ps) (.ref a)/\Rel K c (upd F a (.lst vs)) H σ (ρ.set i (.sh (.lst ps))):=by
 obtain⟨a,vs,h1,h2,h3,h4,h5,ho⟩:=r.ow e
 obtain⟨m1,m2⟩:=r.move ho
 have rp:Rep K (upd F a (.lst vs)) (.lst ps) (.ref a):=by
  unfold Rep
  exact⟨a,vs,rfl,ū.of ģ,h5.same (Same.upd h3) ps vs⟩
 have q:=(m1.freeze h2 h4 h3 m2).QH (i:=i) (s:=.sh (.lst ps)) rfl (show ŷ K c _ H _ (.sh (.lst ps)) from⟨.ref a,by rw[h1];rfl,rp⟩)
 rw[List.set_set] at q
 exact⟨a,vs,h1,h3,rp,q⟩
def xu.mono{F1 H1:Hp}{p:PV}{v:V}(h:xu K F H p v)(sF:Same F F1)(sH:Same H H1):xu K F1 H1 p v:=by
 cases p with
 |lst ps=>
  obtain⟨a,vs,h2,h3,h4⟩:=h
  exact⟨a,vs,h2,sH _ _ h3,h4.same sF ps vs⟩
 |ins C ns ps=>
  obtain⟨a,dx,fs,h2,h3,h4,h5⟩:=h
  exact⟨a,dx,fs,h2,sH _ _ h3,h4,h5.same sF ps _⟩
 |_=>exact h.elim
theorem rR.mono{c:Ctx}{σ:L2.St}{ρ ρ':ń}{F1 H1:Hp}{p:PV}{v:V}(h:rR K c σ ρ F H p v)(sF:Same F F1)(sH:Same H H1):rR K c σ ρ' F1 H1 p v:=by
 rcases h with h|h
 ·exact .inl (h.same sF p v)
 ·exact .inr (h.mono sF sH)
theorem rR.lst{c:Ctx}{σ:L2.St}{ρ:ń}{ps:List PV}{v:V}(s:Same F H)(h:rR K c σ ρ F H (.lst ps) v):∃a vs,v=.ref a/\ū K.K H a vs/\ě K F ps vs:=by
 rcases h with h|⟨a,vs,h2,h3,h4⟩
 ·unfold Rep at h
  obtain⟨a,xs,h1,h2,h3⟩:=h
  exact⟨a,xs,h1,s.seq h2,h3⟩
 ·exact⟨a,vs,h2,ū.of h3,h4⟩
theorem rR.tup{c:Ctx}{σ:L2.St}{ρ:ń}{ps:List PV}{v:V}(s:Same F H)(h:rR K c σ ρ F H (.tup ps) v):∃a vs,v=.ref a/\bO K.K H a vs/\ě K F ps vs:=by
 rcases h with h|h
 ·unfold Rep at h
  obtain⟨a,xs,h1,h2,h3⟩:=h
  exact⟨a,xs,h1,Same.tup s h2,h3⟩
 ·exact h.elim
theorem rR.int{c:Ctx}{σ:L2.St}{ρ:ń}{i:Int}{v:V}(h:rR K c σ ρ F H (.int i) v):v=.int i:=by
 rcases h with h|h
 ·unfold Rep at h;exact h
 ·exact h.elim
theorem rR.str{c:Ctx}{σ:L2.St}{ρ:ń}{i:Str}{v:V}(h:rR K c σ ρ F H (.str i) v):v=.str i:=by
 rcases h with h|h
 ·unfold Rep at h;exact h
 ·exact h.elim
theorem rR.bl{c:Ctx}{σ:L2.St}{ρ:ń}{i:Bool}{v:V}(h:rR K c σ ρ F H (.bl i) v):v=.bl i:=by
 rcases h with h|h
 ·unfold Rep at h;exact h
 ·exact h.elim
theorem rR.non{c:Ctx}{σ:L2.St}{ρ:ń}{v:V}(h:rR K c σ ρ F H .non v):v=.non:=by
 rcases h with h|h
 ·unfold Rep at h;exact h
 ·exact h.elim
theorem rR.ty{c:Ctx}{σ:L2.St}{ρ:ń}{n:String}{v:V}(h:rR K c σ ρ F H (.ty n) v):v=.ty n:=by
 rcases h with h|h
 ·unfold Rep at h;exact h
 ·exact h.elim
theorem Rep.int{i:Int}:Rep K F (.int i) (.int i):=by unfold Rep;rfl
theorem Rep.str{i:Str}:Rep K F (.str i) (.str i):=by unfold Rep;rfl
theorem Rep.bl{i:Bool}:Rep K F (.bl i) (.bl i):=by unfold Rep;rfl
theorem Rep.non:Rep K F .non .non:=by unfold Rep;rfl
end
section
variable{X:Cx}{cm:String->Addr}{E:L2.St->XK}{a b e:Expr}{es:List Expr}{pos:Pos}{m ma mb mc:M PV}{mo:M RV}
def PT.wk{t t':TT}(h:PT X e t)(i:∀σ H Q,t' σ H Q->t σ H Q):PT X e t':=λpins s σ H Q I q=>h pins s σ H Q I (i σ H Q q)
def PA.wk{t t':TA}(h:PA X es t)(i:∀σ H Q,t' σ H Q->t σ H Q):PA X es t':=λpos pins s σ H Q I q=>h pos pins s σ H Q I (i σ H Q q)
def PW.wk{t t':TT}(h:PW X e t)(i:∀σ H Q,t' σ H Q->t σ H Q):PW X e t':=λwh pins s σ H Q I q=>h wh pins s σ H Q I (i σ H Q q)
def iD.wk{st:List Stmt}{t t':TS}(h:iD X st t)(i:∀D σ H,t' D σ H->t D σ H):iD X st t':=λpins s σ H D I q=>h pins s σ H D I (i D σ H q)
def v_var(i:Nat){x:Str}{pos:Pos}(hN:X.N[i]?=some x:=by rfl)(hv:zH X.env.scope x:=by first|exact Or.inl rfl|exact Or.inr (Or.inl rfl)|exact Or.inr (Or.inr rfl))(hd:(x== ("__debug__" :Str))=false:=by decide)
 (hcd:(x== ("__classdict__" :Str))=false:=by decide):PE X (.Name x pos) (tV (kk X cm) E (ĕ i)):=PE.wk (dX hN hv hd hcd) λσ H Q ⟨c,F,ρ,rel,h⟩=>by
 unfold ĕ at h
 split at h
 ·rename_i p e
  obtain⟨v,h1,h2⟩:=rel.slot i _ e
  exact⟨v,at_of h1,h v F H rel (Same.refl F) (Same.refl H) h2⟩
 ·rename_i ps e
  obtain⟨a,vs,h1,h2,h3,h4⟩:=rel.share e
  exact⟨.ref a,h1,h _ _ H h4 (Same.upd h2) (Same.refl H) h3⟩
 ·exact h.elim
def ā(i:Nat){x:Str}{pos:Pos}(hN:X.N[i]?=some x:=by rfl)(hv:zH X.env.scope x:=by first|exact Or.inl rfl|exact Or.inr (Or.inl rfl)|exact Or.inr (Or.inr rfl))(hd:(x== ("__debug__" :Str))=false:=by decide)
 (hcd:(x== ("__classdict__" :Str))=false:=by decide):PE X (.Name x pos) (tR (kk X cm) E (Ā i)):=PE.wk (dX hN hv hd hcd) λσ H Q ⟨c,F,ρ,rel,h⟩=>by
 unfold Ā at h
 split at h
 ·rename_i p e
  obtain⟨v,h1,h2⟩:=rel.slot i _ e
  exact⟨v,at_of h1,h v F H rel (Same.refl F) (Same.refl H) (.inl h2)⟩
 ·rename_i ps e
  obtain⟨a,vs,h1,h2,h3,h4,h5,_⟩:=rel.ow e
  exact⟨.ref a,h1,h _ F H rel (Same.refl F) (Same.refl H) (.inr ⟨a,vs,rfl,h2,h5⟩)⟩
 ·rename_i ps e
  obtain⟨a,vs,h1,h2,h3⟩:=rel.slot i _ e
  exact⟨.ref a,at_of h1,h _ F H rel (Same.refl F) (Same.refl H) (.inr ⟨a,vs,rfl,(rel.lent a _ h2).1,h3⟩)⟩
 ·rename_i C ns ps e
  obtain⟨a,dx,fs,h1,h2,h3,h4,h5,h6⟩:=rel.slot i _ e
  exact⟨.ref a,at_of h1,h _ F H rel (Same.refl F) (Same.refl H) (.inr ⟨a,dx,fs,rfl,h2,h5,h6.1⟩)⟩
 ·exact h.elim
def cF(i:Nat){x:Str}{pos:Pos}(hN:X.N[i]?=some x:=by rfl)(hv:zH X.env.scope x:=by first|exact Or.inl rfl|exact Or.inr (Or.inl rfl)|exact Or.inr (Or.inr rfl))(hd:(x== ("__debug__" :Str))=false:=by decide)
 (hcd:(x== ("__classdict__" :Str))=false:=by decide):PE X (.Name x pos) (tO (kk X cm) E (bB i)):=PE.wk (dX hN hv hd hcd) λσ H Q ⟨c,F,ρ,rel,h⟩=>by
 unfold bB at h
 split at h
 ·rename_i p e
  obtain⟨v,h1,h2⟩:=rel.slot i _ e
  exact⟨v,at_of h1,h v F H rel (Same.refl F) (Same.refl H) h2⟩
 ·rename_i ps e
  obtain⟨a,vs,h1,h2,h3,h4,h5,h6⟩:=rel.ow e
  obtain⟨m1,m2⟩:=rel.move h6
  exact⟨.ref a,h1,h _ F H m1 (Same.refl F) (Same.refl H) ⟨a,vs,rfl,h2,h3,h4,m2,h5⟩⟩
 ·exact h.elim
def GK{v:V}(p:PV)(h:PE X e (tC v))(hr:∀F,Rep (kk X cm) F p v:=by intro _;unfold Rep;rfl):PE X e (tV (kk X cm) E (mC p)):=PE.wk h λσ H Q ⟨c,F,ρ,rel,h⟩=>h v F H rel (Same.refl F) (Same.refl H) (hr F)
def ň{i j pos}:PE X (.Constant (.int i) j pos) (tV (kk X cm) E (mC (.int i))):=GK _ Yl
def pI{i j pos}:PE X (.Constant (.bool i) j pos) (tV (kk X cm) E (mC (.bl i))):=GK _ Zcn
def Dl{j pos}:PE X (.Constant .none j pos) (tV (kk X cm) E (mC .non)):=GK _ Ym
def gw{x j pos}:PE X (.Constant (.str x) j pos) (tV (kk X cm) E (mC (.str x))):=GK _ Yn
def ğ(h:PE X e (tV (kk X cm) E m)):PE X e (tR (kk X cm) E m):=PE.wk h λσ H Q ⟨c,F,ρ,rel,h⟩=>⟨c,F,ρ,rel,h.rel λ_ _ _ _ _ _ q=>.inl q⟩
def Ÿ(h:PE X e (tV (kk X cm) E m)):PE X e (tO (kk X cm) E (Ŋ m)):=PE.wk h λσ H Q ⟨c,F,ρ,rel,h⟩=>⟨c,F,ρ,rel,h.bind λp ρ1 v F1 H1 Ė s1 s2 q h1=>h1 v F1 H1 Ė (Same.refl _) (Same.refl _) q⟩
def Held.share{K:KK}{c:Ctx}{F H:Hp}{σ:L2.St}{ρ:ń}{ps:List PV}{v:V}(rel:Rel K c F H σ ρ)(h:Held K c σ ρ F H ps v):∃F1,Same F F1/\Rel K c F1 H σ ρ/\Rep K F1 (.lst ps) v:=by
 obtain⟨a,vs,rfl,h1,h2,h3,h4,h5⟩:=h
 refine⟨_,Same.upd h2,rel.freeze h1 h3 h2 h4,?_⟩
 unfold Rep
 exact⟨a,vs,rfl,ū.of ģ,h5.same (Same.upd h2) ps vs⟩
def Dk.share{K:KK}{c:Ctx}{F H:Hp}{σ:L2.St}{ρ:ń}{ps qs:List PV}{v:V}(rel:Rel K c F H σ ρ)(h:Dk K c σ ρ F H ps qs v):∃F1,Same F F1/\Rel K c F1 H σ ρ/\Rep K F1 (.tup (ps ++ [.lst qs])) v:=by
 obtain⟨p,a,xs,vs,rfl,h0,hx,h1,h2,h3,h4,h5⟩:=h
 refine⟨_,Same.upd h2,rel.freeze h1 h3 h2 h4,?_⟩
 have ra:Rep K (upd F a (.lst vs)) (.lst qs) (.ref a):=by
  unfold Rep
  exact⟨a,vs,rfl,ū.of ģ,h5.same (Same.upd h2) qs vs⟩
 unfold Rep
 exact⟨p,_,rfl,bO.of (Same.upd h2 _ _ h0),ě.append (hx.same (Same.upd h2) ps xs) (ě.cons ra ě.nil)⟩
def Ğ(h:PE X e (tO (kk X cm) E mo)):PE X e (tV (kk X cm) E (Ď mo)):=PE.wk h λσ H Q ⟨c,F,ρ,rel,h⟩=>⟨c,F,ρ,rel,h.bind λr ρ1 v F1 H1 Ė s1 s2 q h1=>by
 cases r with
 |sh p=>exact h1 v F1 H1 Ė (Same.refl _) (Same.refl _) q
 |ow ps=>
  obtain⟨F2,s3,Ĵ,rp⟩:=Held.share Ė q
  exact h1 v F2 H1 Ĵ s3 (Same.refl _) rp
 |ot ps qs=>
  obtain⟨F2,s3,Ĵ,rp⟩:=Dk.share Ė q
  exact h1 v F2 H1 Ĵ s3 (Same.refl _) rp⟩
def Ą(f:PV->PV->Option PV)(ma mb:M PV):M PV:=λρ=>(ma ρ).bind λp ρ1=>(mb ρ1).bind λq ρ2=>Res.kO (f p q) ρ2
def ħ(f:PV->PV->Option RV)(ma mb:M PV):M RV:=λρ=>(ma ρ).bind λp ρ1=>(mb ρ1).bind λq ρ2=>Res.kO (f p q) ρ2
def iM(K:KK)(r:R2)(f:PV->PV->Option PV):Prop:=∀{c:Ctx} {F H:Hp} {σ:L2.St} {ρ:ń} {p q pv:PV} {v u:V} {Q:VK},Rel K c F H σ ρ->rR K c σ ρ F H p v->rR K c σ ρ F H q u->f p q=some pv->
 (∀z F' H',Rel K c F' H' σ ρ->Same F F'->Same H H'->Rep K F' pv z->Q z H')->r v u H Q
def OpO(K:KK)(r:R2)(f:PV->PV->Option RV):Prop:=∀{c:Ctx} {F H:Hp} {σ:L2.St} {ρ:ń} {p q:PV} {pv:RV} {v u:V} {Q:VK},Rel K c F H σ ρ->rR K c σ ρ F H p v->rR K c σ ρ F H q u->f p q=some pv->
 (∀z F' H',Rel K c F' H' σ ρ->Same F F'->Same H H'->rO K c σ ρ F' H' pv z->Q z H')->r v u H Q
def Dq{r:R2}{f:PV->PV->Option PV}(hf:iM (kk X cm) r f){σ:L2.St}{H:Hp}{Q:VK}(h:tV (kk X cm) E (Ą f ma mb) σ H Q):tOp r (tR (kk X cm) E ma) (tR (kk X cm) E mb) σ H Q:=by
 obtain⟨c,F,ρ,rel,h⟩:=h
 refine⟨c,F,ρ,rel,h.bind λp ρ1 v F1 H1 Ė _ _ r1 h1=>⟨c,F1,ρ1,Ė,h1.bind λq ρ2 u F2 H2 Ĵ sF sH r2 h2=>?_⟩⟩
 cases e:f p q with
 |none=>rw[e] at h2;exact h2.elim
 |some pv=>rw[e] at h2;exact hf Ĵ (r1.mono sF sH) r2 e λz F' H' aO s1 s2 q'=>h2 z F' H' aO s1 s2 q'
def ZcV{r:R2}{f:PV->PV->Option RV}(hf:OpO (kk X cm) r f){σ:L2.St}{H:Hp}{Q:VK}(h:tO (kk X cm) E (ħ f ma mb) σ H Q):tOp r (tR (kk X cm) E ma) (tR (kk X cm) E mb) σ H Q:=by
 obtain⟨c,F,ρ,rel,h⟩:=h
 refine⟨c,F,ρ,rel,h.bind λp ρ1 v F1 H1 Ė _ _ r1 h1=>⟨c,F1,ρ1,Ė,h1.bind λq ρ2 u F2 H2 Ĵ sF sH r2 h2=>?_⟩⟩
 cases e:f p q with
 |none=>rw[e] at h2;exact h2.elim
 |some pv=>rw[e] at h2;exact hf Ĵ (r1.mono sF sH) r2 e λz F' H' aO s1 s2 q'=>h2 z F' H' aO s1 s2 q'
def ak{op:Operator}{r:R2}{f:PV->PV->Option PV}(hf:iM (kk X cm) r f)(ho:ŭ X (binaryOp op) r)(ha:PE X a (tR (kk X cm) E ma))(hb:PE X b (tR (kk X cm) E mb)):PE X (.BinOp a op b pos) (tV (kk X cm) E (Ą f ma mb)):=PE.wk (QF ho ha hb) λ_ _ _ h=>Dq hf h
def ZcW{op:Operator}{r:R2}{f:PV->PV->Option RV}(hf:OpO (kk X cm) r f)(ho:ŭ X (binaryOp op) r)(ha:PE X a (tR (kk X cm) E ma))(hb:PE X b (tR (kk X cm) E mb)):PE X (.BinOp a op b pos) (tO (kk X cm) E (ħ f ma mb)):=PE.wk (QF ho ha hb) λ_ _ _ h=>ZcV hf h
def fC{op:CmpOp}{r:R2}{f:PV->PV->Option PV}(hf:iM (kk X cm) r f)(ho:ŭ X (compareOp op) r)(ha:PE X a (tR (kk X cm) E ma))(hb:PE X b (tR (kk X cm) E mb))(hm:behindInMarks op b=false):PE X (.Compare a [op] [b] pos) (tV (kk X cm) E (Ą f ma mb)):=
 PE.wk (N_ ho ha hb hm) λ_ _ _ h=>Dq hf h
def Zfh{r:R2}{f:PV->PV->Option PV}(hf:iM (kk X cm) r f)(hr:Ad X r)(ha:PE X a (tR (kk X cm) E ma))(hb:PE X b (tR (kk X cm) E mb))(hs:oH b):PE X (.Subscript a b pos) (tV (kk X cm) E (Ą f ma mb)):=
 PE.wk (ZcC hr ha hb hs) λ_ _ _ h=>Dq hf h
def kW(f:PV->Option PV)(ma:M PV):M PV:=λρ=>(ma ρ).bind λp ρ1=>Res.kO (f p) ρ1
def UnV(K:KK)(r:V->Hp->VK->Prop)(f:PV->Option PV):Prop:=∀{c:Ctx} {F H:Hp} {σ:L2.St} {ρ:ń} {p pv:PV} {v:V} {Q:VK},Rel K c F H σ ρ->rR K c σ ρ F H p v->f p=some pv->
 (∀z F' H',Rel K c F' H' σ ρ->Same F F'->Same H H'->Rep K F' pv z->Q z H')->r v H Q
def xG{op:UnaryOp}{r:V->Hp->VK->Prop}{f:PV->Option PV}(hf:UnV (kk X cm) r f)(ho:NP X (unaryOp op) r)(ha:PE X a (tR (kk X cm) E ma)):PE X (.UnaryOp op a pos) (tV (kk X cm) E (kW f ma)):=PE.wk (Zcw ho ha) λσ H Q ⟨c,F,ρ,rel,h⟩=>
 ⟨c,F,ρ,rel,h.bind fun p ρ1 v F1 H1 Ė _ _ r1 h1=>by
   cases e:f p with
   |none=>rw[e] at h1;exact h1.elim
   |some pv=>rw[e] at h1;exact hf Ė r1 e λz F' H' aO s1 s2 q'=>h1 z F' H' aO s1 s2 q'⟩
def tru:PV->Option Bool
 | .bl b=>some b
 | .int i=>some (i != 0)
 | .non=>some false
 | .str y=>if y.length<=sizeLine then some ((y.length:Int) != 0) else none
 | .lst ps=>some (!ps.isEmpty)
 | .tup ps=>some (!ps.isEmpty)
 |_=>none
def aA(m:M PV):M Bool:=λρ=>(m ρ).bind λp ρ1=>Res.kO (tru p) ρ1
def ZcX{K:KK}{c:Ctx}{F H:Hp}{σ:L2.St}{ρ:ń}{p:PV}{v:V}{k:Bool}(s:Same F H)(r:rR K c σ ρ F H p v)(h:tru p=some k):YW K.K v H k:=by
 cases p with
 |bl b=>cases r.bl;cases h;rfl
 |int i=>cases r.int;cases h;rfl
 |non=>cases r.non;cases h;rfl
 |str y=>
  cases r.str
  have h':(if y.length<=sizeLine then some ((y.length:Int) != 0) else none)=some k:=h
  split at h'
  ·rename_i hy;cases h';exact⟨hy,rfl⟩
  ·cases h'
 |lst ps=>
  obtain⟨a,vs,rfl,h1,h2⟩:=r.lst s
  cases h
  have e:ps.isEmpty=vs.isEmpty:=by cases h2.pr<;>rfl
  exact .inl ⟨vs,h1,by rw[e]⟩
 |tup ps=>
  obtain⟨a,vs,rfl,h1,h2⟩:=r.tup s
  cases h
  have e:ps.isEmpty=vs.isEmpty:=by cases h2.pr<;>rfl
  exact .inr (.inl ⟨vs,h1,by rw[e]⟩)
 |ins C ns ps=>cases h
 |xc C ns ps=>cases h
 |ty n=>cases h
 |cls C=>cases h
def ũ(ha:PE X a (tR (kk X cm) E ma))(he:∀whole,isTrue a X.env whole=(do let v <-whole;standAt a.pos;holding [v] (truthy v)):=by intro _;rfl):PT X a (tB (kk X cm) E (aA ma)):=PT.wk (Ho ha he) λσ H Q ⟨c,F,ρ,rel,h⟩=>
 ⟨c,F,ρ,rel,h.bind fun p ρ1 v F1 H1 Ė _ _ r1 h1=>by
   cases e:tru p with
   |none=>rw[e] at h1;exact h1.elim
   |some k=>rw[e] at h1;exact⟨k,ZcX Ė.sub r1 e,h1 k F1 H1 Ė (Same.refl _) (Same.refl _) rfl⟩⟩
def cu(m:M PV):M Bool:=λρ=>(m ρ).bind λp ρ1=>match p with
 | .bl b=>.ok b ρ1
 |_=>.bad
def QJ{σ:L2.St}{H:Hp}{Q:Bool->Hp->Prop}(h:tB (kk X cm) E (cu m) σ H Q):M2.HJ (tV (kk X cm) E m) σ H Q:=by
 obtain⟨c,F,ρ,rel,h⟩:=h
 refine⟨c,F,ρ,rel,h.bind λp ρ1 v F1 H1 Ė _ _ r1 h1=>?_⟩
 cases p with
 |bl b=>
  have e:v=.bl b:=by have r1':Rep (kk X cm) F1 (.bl b) v:=r1;unfold Rep at r1';exact r1'
  subst e
  exact h1 b F1 H1 Ė (Same.refl _) (Same.refl _) rfl
 |_=>exact h1.elim
def dF{op:CmpOp}{r:R2}{f:PV->PV->Option PV}(hf:iM (kk X cm) r f)(ho:ŭ X (compareOp op) r)(ha:PE X a (tR (kk X cm) E ma))(hb:PE X b (tR (kk X cm) E mb))(hm:behindInMarks op b=false):PT X (.Compare a [op] [b] pos) (tB (kk X cm) E (cu (Ą f ma mb))):=
 PT.wk (Zam ho ha hb hm) fun σ H Q h=>by
   obtain⟨c,F,ρ,rel,h⟩:=QJ h
   exact Dq hf ⟨c,F,ρ,rel,h⟩
def lJ(f g:PV->PV->Option PV)(ma mb mc:M PV):M PV:=λρ=>(ma ρ).bind λp ρ1=>(mb ρ1).bind λq ρ2=>(Res.kO (f p q) ρ2).bind λz ρ3=>match z with
 | .bl true=>(mc ρ3).bind λw ρ4=>Res.kO (g q w) ρ4
 | .bl false=>.ok (.bl false) ρ3
 |_=>.bad
def QK{r r':R2}{f g:PV->PV->Option PV}(hf:iM (kk X cm) r f)(hg:iM (kk X cm) r' g){σ:L2.St}{H:Hp}{Q:VK}(h:tV (kk X cm) E (lJ f g ma mb mc) σ H Q):M2.Af r r' (tR (kk X cm) E ma) (tR (kk X cm) E mb) (tR (kk X cm) E mc) σ H Q:=by
 obtain⟨c,F,ρ,rel,h⟩:=h
 refine⟨c,F,ρ,rel,h.bind λp ρ1 v F1 H1 Ė _ _ r1 h1=>⟨c,F1,ρ1,Ė,h1.bind λq ρ2 u F2 H2 Ĵ sF sH r2 h2=>?_⟩⟩
 cases e:f p q with
 |none=>rw[e] at h2;exact h2.elim
 |some pv=>
  rw[e] at h2
  refine hf Ĵ (r1.mono sF sH) r2 e λz F' H' aO s1 s2 q'=>?_
  cases pv with
  |bl k=>
   have ez:z=.bl k:=by unfold Rep at q';exact q'
   subst ez
   cases k with
   |false=>exact h2 _ F' H' aO s1 s2 q'
   |true=>
    refine⟨c,F',ρ2,aO,au.bind (au.mono h2 s1 s2) λw ρ4 x F4 H4 xH s3 s4 r4 h4=>?_⟩
    cases e':g q w with
    |none=>rw[e'] at h4;exact h4.elim
    |some pv'=>rw[e'] at h4;exact hg xH (r2.mono (s1.trans s3) (s2.trans s4)) r4 e' λz F' H' aO s1 s2 q'=>h4 z F' H' aO s1 s2 q'
  |_=>exact h2.elim
def tQ{op op':CmpOp}{r r':R2}{f g:PV->PV->Option PV}{c:Expr}(hf:iM (kk X cm) r f)(hg:iM (kk X cm) r' g)(ho:ŭ X (compareOp op) r)(ho':ŭ X (compareOp op') r')(ha:PE X a (tR (kk X cm) E ma))(hb:PE X b (tR (kk X cm) E mb))(hc:PE X c (tR (kk X cm) E mc))
 (hm:lastMarks [op,op'] [b,c]=false:=by with_unfolding_all rfl):PE X (.Compare a [op,op'] [b,c] pos) (tV (kk X cm) E (lJ f g ma mb mc)):=PE.wk (HN ho ho' ha hb hc hm) λ_ _ _ h=>QK hf hg h
def Iu{op op':CmpOp}{r r':R2}{f g:PV->PV->Option PV}{c:Expr}(hf:iM (kk X cm) r f)(hg:iM (kk X cm) r' g)(ho:ŭ X (compareOp op) r)(ho':ŭ X (compareOp op') r')(ha:PE X a (tR (kk X cm) E ma))(hb:PE X b (tR (kk X cm) E mb))(hc:PE X c (tR (kk X cm) E mc))
 (hm:lastMarks [op,op'] [b,c]=false:=by with_unfolding_all rfl):PT X (.Compare a [op,op'] [b,c] pos) (tB (kk X cm) E (cu (lJ f g ma mb mc))):=PT.wk (HS ho ho' ha hb hc hm) λσ H Q h=>by
 obtain⟨c,F,ρ,rel,h⟩:=QJ h
 exact QK hf hg ⟨c,F,ρ,rel,h⟩
def ao(m:M Bool):M Bool:=λρ=>(m ρ).bind λb ρ1=>.ok (!b) ρ1
def bJ{m:M Bool}(h:PT X a (tB (kk X cm) E m)):PT X (.UnaryOp .Not a pos) (tB (kk X cm) E (ao m)):=PT.wk (Yq h) λσ H Q ⟨c,F,ρ,rel,h⟩=>
 ⟨c,F,ρ,rel,h.bind λp ρ1 v F1 H1 Ė _ _ r1 h1=>h1 _ F1 H1 Ė (Same.refl _) (Same.refl _) (by have e:p=v:=r1;rw[e];rfl)⟩
def jF(ma mb:M Bool):M Bool:=λρ=>(ma ρ).bind λb ρ1=>if b=true then mb ρ1 else .ok false ρ1
def nH(ma mb:M Bool):M Bool:=λρ=>(ma ρ).bind λb ρ1=>if b=true then .ok true ρ1 else mb ρ1
variable{ta tb:M Bool}{rest:List Expr}
def jk(h:PT X a (tB (kk X cm) E ta)):PW X (.BoolOp .And [a] pos) (tB (kk X cm) E ta):=Nu h
def xJ(h:PT X a (tB (kk X cm) E ta)):PW X (.BoolOp .Or [a] pos) (tB (kk X cm) E ta):=Yo h
def w_and(ha:PT X a (tB (kk X cm) E ta))(hb:PW X (.BoolOp .And (b::rest) pos) (tB (kk X cm) E tb)):PW X (.BoolOp .And (a::b::rest) pos) (tB (kk X cm) E (jF ta tb)):=PW.wk (Yp ha hb) λσ H Q ⟨c,F,ρ,rel,h⟩=>
 ⟨c,F,ρ,rel,h.bind fun p ρ1 v F1 H1 Ė _ _ r1 h1=>by
   have e:p=v:=r1
   subst e
   cases p with
   |true=>exact⟨c,F1,ρ1,Ė,h1⟩
   |false=>exact h1 false F1 H1 Ė (Same.refl _) (Same.refl _) rfl⟩
def w_or(ha:PT X a (tB (kk X cm) E ta))(hb:PW X (.BoolOp .Or (b::rest) pos) (tB (kk X cm) E tb)):PW X (.BoolOp .Or (a::b::rest) pos) (tB (kk X cm) E (nH ta tb)):=PW.wk (Zco ha hb) λσ H Q ⟨c,F,ρ,rel,h⟩=>
 ⟨c,F,ρ,rel,h.bind fun p ρ1 v F1 H1 Ė _ _ r1 h1=>by
   have e:p=v:=r1
   subst e
   cases p with
   |false=>exact⟨c,F1,ρ1,Ė,h1⟩
   |true=>exact h1 true F1 H1 Ė (Same.refl _) (Same.refl _) rfl⟩
def eU(ma mb:M PV):M PV:=λρ=>(ma ρ).bind λp ρ1=>match p with
 | .bl true=>mb ρ1
 | .bl false=>.ok (.bl false) ρ1
 |_=>.bad
def Ge(ma:M PV):M PV:=λρ=>(ma ρ).bind λp ρ1=>match p with
 | .bl b=>.ok (.bl (!b)) ρ1
 |_=>.bad
def uT{K:KK}{F:Hp}{b:Bool}{v:V}(h:Rep K F (.bl b) v):v=.bl b:=by unfold Rep at h;exact h
def iQ{op}(h:PE X a (tV (kk X cm) E ma)):PE X (.BoolOp op [a] pos) (tV (kk X cm) E ma):=Yr h
def v_and(ha:PE X a (tV (kk X cm) E ma))(hb:PE X (.BoolOp .And (b::rest) pos) (tV (kk X cm) E mb)):PE X (.BoolOp .And (a::b::rest) pos) (tV (kk X cm) E (eU ma mb)):=PE.wk (Zan ha hb) λσ H Q ⟨c,F,ρ,rel,h⟩=>
 ⟨c,F,ρ,rel,h.bind fun p ρ1 v F1 H1 Ė _ _ r1 h1=>by
   cases p with
   |bl k=>
    cases uT r1
    cases k with
    |true=>exact⟨c,F1,ρ1,Ė,h1⟩
    |false=>exact h1 _ F1 H1 Ė (Same.refl _) (Same.refl _) r1
   |_=>exact h1.elim⟩
def v_not(ha:PE X a (tV (kk X cm) E ma)):PE X (.UnaryOp .Not a pos) (tV (kk X cm) E (Ge ma)):=PE.wk (Zao ha) λσ H Q ⟨c,F,ρ,rel,h⟩=>
 ⟨c,F,ρ,rel,h.bind fun p ρ1 v F1 H1 Ė _ _ r1 h1=>by
   cases p with
   |bl k=>
    cases uT r1
    exact h1 _ F1 H1 Ė (Same.refl _) (Same.refl _) Rep.bl
   |_=>exact h1.elim⟩
def cG{α:Type}(t:M Bool)(ma mb:M α):M α:= λρ=>(t ρ).bind λb ρ1=>if b=true then ma ρ1 else mb ρ1
def Đ:M (List PV):=λρ=>.ok [] ρ
def ă(ma:M PV)(mr:M (List PV)):M (List PV):=λρ=>(ma ρ).bind λp ρ1=>(mr ρ1).bind λps ρ2=>.ok (p::ps) ρ2
variable{mr:M (List PV)}
def ė:PA X [] (tL (kk X cm) E Đ):=PA.wk eE λσ H Q ⟨c,F,ρ,rel,h⟩=>h [] F H rel (Same.refl _) (Same.refl _) ě.nil
def ą(ha:PE X e (tV (kk X cm) E ma))(hr:PA X es (tL (kk X cm) E mr))(hs:starEach (e::es) X.env=(false,eval e X.env)::starEach es X.env:=by exact aj rfl):PA X (e::es) (tL (kk X cm) E (ă ma mr)):=PA.wk (aG ha hr hs) λσ H Q ⟨c,F,ρ,rel,h⟩=>
 ⟨c,F,ρ,rel,h.bind λp ρ1 v F1 H1 Ė _ _ r1 h1=>⟨c,F1,ρ1,Ė,h1.bind λps ρ2 vs F2 H2 Ĵ sF sH r2 h2=>h2 _ F2 H2 Ĵ (Same.refl _) (Same.refl _) (ě.cons (Rep.same sF p v r1) r2)⟩⟩
def ĝ:PA X [] (Nh (kk X cm) E Đ):=PA.wk eE λσ H Q ⟨c,F,ρ,rel,h⟩=>h [] F H rel (Same.refl _) (Same.refl _) .nil
def Ē(ha:PE X e (tR (kk X cm) E ma))(hr:PA X es (Nh (kk X cm) E mr))(hs:starEach (e::es) X.env=(false,eval e X.env)::starEach es X.env:=by exact aj rfl):PA X (e::es) (Nh (kk X cm) E (ă ma mr)):=PA.wk (aG ha hr hs) λσ H Q ⟨c,F,ρ,rel,h⟩=>
 ⟨c,F,ρ,rel,h.bind λp ρ1 v F1 H1 Ė _ _ r1 h1=>⟨c,F1,ρ1,Ė,h1.bind λps ρ2 vs F2 H2 Ĵ sF sH r2 h2=>h2 _ F2 H2 Ĵ (Same.refl _) (Same.refl _) (.cons (rR.mono r1 sF sH) r2)⟩⟩
def Ċ:M (List Slot):=λρ=>.ok [] ρ
def Ĕ(ma:M PV)(mr:M (List Slot)):M (List Slot):=λρ=>(ma ρ).bind λp ρ1=>(mr ρ1).bind λas ρ2=>.ok (.sh p::as) ρ2
def dG:Slot->Option Slot
 | .sh p=>some (.sh p)
 | .ow ps=>some (.bw ps)
 | .bw ps=>some (.bw ps)
 |_=>none
def Ă(i:Nat)(mr:M (List Slot)):M (List Slot):=λρ=>match(ρ[i]?).bind dG with
 |none=>.bad
 |some _=>(mr ρ).bind λas ρ2=>match(ρ2[i]?).bind dG with
  |some s=>.ok (s::as) ρ2
  |none=>.bad
variable{ms:M (List Slot)}
def č:PA X [] (tA (kk X cm) E Ċ):=PA.wk eE λσ H Q ⟨c,F,ρ,rel,h⟩=>h [] F H rel (Same.refl _) (Same.refl _) .nil
def Ę(ha:PE X e (tV (kk X cm) E ma))(hr:PA X es (tA (kk X cm) E ms))(hs:starEach (e::es) X.env=(false,eval e X.env)::starEach es X.env:=by exact aj rfl):PA X (e::es) (tA (kk X cm) E (Ĕ ma ms)):=PA.wk (aG ha hr hs) λσ H Q ⟨c,F,ρ,rel,h⟩=>
 ⟨c,F,ρ,rel,h.bind λp ρ1 v F1 H1 Ė _ _ r1 h1=>⟨c,F1,ρ1,Ė,h1.bind λas ρ2 vs F2 H2 Ĵ sF sH r2 h2=>h2 _ F2 H2 Ĵ (Same.refl _) (Same.refl _) (.cons (show bA _ _ _ (.sh p) v from Rep.same sF p v r1) r2)⟩⟩
def Dr{K:KK}{c:Ctx}{F H:Hp}{σ:L2.St}{ρ:ń}{i:Nat}{s:Slot}(rel:Rel K c F H σ ρ)(h:(ρ[i]?).bind dG=some s):∃v,σ[i]?=some (some v)/\bA K F H s v:=by
 cases e:ρ[i]? with
 |none=>rw[e] at h;cases h
 |some sl=>
  rw[e] at h
  have h':dG sl=some s:=h
  cases sl with
  |sh p=>
   cases h'
   obtain⟨v,h1,h2⟩:=rel.slot i _ e
   exact⟨v,at_of h1,h2⟩
  |ow ps=>
   cases h'
   obtain⟨a,vs,h1,h2,h3,h4,h5,_⟩:=rel.ow e
   exact⟨.ref a,h1,a,vs,rfl,h2,h3,h5⟩
  |bw ps=>
   cases h'
   obtain⟨a,vs,h1,h2,h3⟩:=rel.slot i _ e
   exact⟨.ref a,at_of h1,a,vs,rfl,(rel.lent a _ h2).1,(rel.lent a _ h2).2,h3⟩
  |no=>cases h'
  |rc C ns ps=>cases h'
  |ot ps qs=>cases h'
  |ol Di=>cases h'
def Pb(i:Nat){x:Str}{px:Pos}(hN:X.N[i]?=some x:=by rfl)(hv:zH X.env.scope x:=by first|exact Or.inl rfl|exact Or.inr (Or.inl rfl)|exact Or.inr (Or.inr rfl))(hd:(x== ("__debug__" :Str))=false:=by decide)
 (hcd:(x== ("__classdict__" :Str))=false:=by decide)(hr:PA X es (tA (kk X cm) E ms))(hs:starEach (.Name x px::es) X.env=(false,eval (.Name x px) X.env)::starEach es X.env:=by exact aj rfl):PA X (.Name x px::es) (tA (kk X cm) E (Ă i ms)):=
 PA.wk (aG (dX hN hv hd hcd) hr hs) fun σ H Q ⟨c,F,ρ,rel,h⟩=>by
   unfold Ă at h
   cases e:(ρ[i]?).bind dG with
   |none=>rw[e] at h;exact h.elim
   |some s0=>
    rw[e] at h
    obtain⟨v,hv,_⟩:=Dr rel e
    refine⟨v,hv,c,F,ρ,rel,au.bind h λas ρ2 vs F2 H2 Ĵ sF sH r2 h2=>?_⟩
    cases e2:(ρ2[i]?).bind dG with
    |none=>simp only[e2] at h2;exact h2.elim
    |some s=>
     simp only[e2] at h2
     obtain⟨v',hv',r1⟩:=Dr Ĵ e2
     rw[hv] at hv'
     cases hv'
     exact h2 _ F2 H2 Ĵ (Same.refl _) (Same.refl _) (.cons r1 r2)
def ŀ(mr:M (List PV)):M PV:=λρ=>(mr ρ).bind λps ρ1=>if ps.length<=16777216 then .ok (.tup ps) ρ1 else .bad
def aJ(mr:M (List PV)):M RV:=λρ=>(mr ρ).bind λps ρ1=>if ps.length<=16777216 then .ok (.ow ps) ρ1 else .bad
def ľ:sizeLine=16777216:=sizeLine_eq
def Ļ{x1}(h:PA X es (tL (kk X cm) E mr)):PE X (.Tuple es x1 pos) (tV (kk X cm) E (ŀ mr)):=PE.wk (Z_ h) λσ H Q ⟨c,F,ρ,rel,h⟩=>
 ⟨c,F,ρ,rel,h.bind fun ps ρ1 vs F1 H1 Ė _ _ r1 h1=>by
   split at h1
   ·rename_i hz
    refine⟨by rw[<-ě.length r1,ľ];exact hz,λp hp=>h1 _ _ _ (Ė.alloc hp) (Same.upd (Ė.sub.free hp)) (Same.upd hp) ?_⟩
    show Rep _ _ _ _
    unfold Rep
    exact⟨p,vs,rfl,bO.of ģ,ě.same (Same.upd (Ė.sub.free hp)) ps vs r1⟩
   ·exact h1.elim⟩
def dH{K:KK}{c:Ctx}{F H:Hp}{σ:L2.St}{ρ:ń}{ps:List PV}{vs:List V}{a:Addr}(rel:Rel K c F H σ ρ)(ha:H a=none)(r:ě K F ps vs):Rel K c F (upd H a (.lst vs)) σ ρ/\Held K c σ ρ F (upd H a (.lst vs)) ps (.ref a):=
 ⟨rel.made ha,a,vs,rfl,ģ,rel.sub.free ha,rel.base.free ha,rel.fresh ha,r⟩
def Š(h:PA X es (tL (kk X cm) E mr)):PE X (.List es pos) (tO (kk X cm) E (aJ mr)):=PE.wk (Zaa h) λσ H Q ⟨c,F,ρ,rel,h⟩=>
 ⟨c,F,ρ,rel,h.bind fun ps ρ1 vs F1 H1 Ė _ _ r1 h1=>by
   split at h1
   ·rename_i hz
    refine⟨by rw[<-ě.length r1,ľ];exact hz,λp hp=>?_⟩
    obtain⟨q1,q2⟩:=dH Ė hp r1
    exact h1 _ _ _ q1 (Same.refl _) (Same.upd hp) q2
   ·exact h1.elim⟩
def aF(f:List PV->Option PV)(mr:M (List PV)):M PV:=λρ=>(mr ρ).bind λps ρ1=>Res.kO (f ps) ρ1
def fW(f:List PV->Option RV)(mr:M (List PV)):M RV:=λρ=>(mr ρ).bind λps ρ1=>Res.kO (f ps) ρ1
def cH(K:KK)(r:List V->Hp->VK->Prop)(f:List PV->Option PV):Prop:=∀{c:Ctx} {F H:Hp} {σ:L2.St} {ρ:ń} {ps:List PV} {pv:PV} {vs:List V} {Q:VK},Rel K c F H σ ρ->rRL K c σ ρ F H ps vs->f ps=some pv->
 (∀z F' H',Rel K c F' H' σ ρ->Same F F'->Same H H'->Rep K F' pv z->Q z H')->r vs H Q
def Iv(K:KK)(r:List V->Hp->VK->Prop)(f:List PV->Option RV):Prop:=∀{c:Ctx} {F H:Hp} {σ:L2.St} {ρ:ń} {ps:List PV} {pv:RV} {vs:List V} {Q:VK},Rel K c F H σ ρ->rRL K c σ ρ F H ps vs->f ps=some pv->
 (∀z F' H',Rel K c F' H' σ ρ->Same F F'->Same H H'->rO K c σ ρ F' H' pv z->Q z H')->r vs H Q
def ZcY{r:List V->Hp->VK->Prop}{f:List PV->Option PV}(hf:cH (kk X cm) r f){σ:L2.St}{H:Hp}{Q:VK}(h:tV (kk X cm) E (aF f mr) σ H Q):tCB r (Nh (kk X cm) E mr) σ H Q:=by
 obtain⟨c,F,ρ,rel,h⟩:=h
 refine⟨c,F,ρ,rel,h.bind λp ρ1 v F1 H1 Ė _ _ r1 h1=>?_⟩
 cases e:f p with
 |none=>rw[e] at h1;exact h1.elim
 |some pv=>rw[e] at h1;exact hf Ė r1 e λz F' H' aO s1 s2 q'=>h1 z F' H' aO s1 s2 q'
def Zfi{r:List V->Hp->VK->Prop}{f:List PV->Option RV}(hf:Iv (kk X cm) r f){σ:L2.St}{H:Hp}{Q:VK}(h:tO (kk X cm) E (fW f mr) σ H Q):tCB r (Nh (kk X cm) E mr) σ H Q:=by
 obtain⟨c,F,ρ,rel,h⟩:=h
 refine⟨c,F,ρ,rel,h.bind λp ρ1 v F1 H1 Ė _ _ r1 h1=>?_⟩
 cases e:f p with
 |none=>rw[e] at h1;exact h1.elim
 |some pv=>rw[e] at h1;exact hf Ė r1 e λz F' H' aO s1 s2 q'=>h1 z F' H' aO s1 s2 q'
end
end P
namespace P
open PySem PySem.Spec PyProof.Rows L2 M2 M3
def cY:M Fl:=λρ=>.ok .nx ρ
def Ě(a b:M Fl):M Fl:=λρ=>(a ρ).bind λf ρ1=>match f with
 | .nx=>b ρ1
 |f=>.ok f ρ1
def Ĩ(i:Nat)(m:M RV):M Fl:=λρ=>(m ρ).bind λr ρ1=>.ok .nx (ρ1.set i r.slot)
def ġ(m:M RV):M Fl:=λρ=>(m ρ).bind λr ρ1=>.ok (.rt r) ρ1
def xK(m:M PV):M Fl:=λρ=>(m ρ).bind λ_ ρ1=>.ok .nx ρ1
section
variable{X:Cx}{cm:String->Addr}{E:L2.St->XK}{a b e:Expr}{st:Stmt}{rest:List Stmt}{es:List Expr}{pos:Pos}{m1 m2:M Fl}{mo:M RV}{mv:M PV}
def ı:iD X [] (tS (kk X cm) E cY):=iD.wk Nv λD σ H ⟨c,F,ρ,rel,h⟩=>h σ F H rel (Same.refl F)
def Ģ(h:PS X st (tS (kk X cm) E m1)):iD X [st] (tS (kk X cm) E m1):=Nx h
def Ph{c:Ctx}{F:Hp}{D:Ends}{r:Res Fl}(h:ů (kk X cm) E c F D (r.bind λf ρ1=>match f with| .nx=>m2 ρ1|f=>.ok f ρ1)):ů (kk X cm) E c F {D with nx:=tS (kk X cm) E m2 D} r:=by
 cases r with
 |ok f ρ1=>
  cases f with
  |nx=>exact λσ' F' H' aO s=>⟨c,F',ρ1,aO,ů.mono h s⟩
  |bk=>exact h
  |ct=>exact h
  |rt v=>exact h
 |exc x ρ1=>exact h
 |bad=>exact h
def đ(h1:PS X st (tS (kk X cm) E m1))(h2:iD X rest (tS (kk X cm) E m2)):iD X (st::rest) (tS (kk X cm) E (Ě m1 m2)):=iD.wk (GX h1 h2) λD σ H ⟨c,F,ρ,rel,h⟩=>⟨c,F,ρ,rel,Ph h⟩
def ZcZ{i:Nat}{x:Str}{pos':Pos}(hN:X.N.Nodup)(hi:X.N[i]?=some x)(hx:Loc X.env.scope x)(he:PE X e (tO (kk X cm) E mo))(hs:swapsWith e (some (.Name x pos')) pos.line X.env=pure false:=by rfl)(hf:X.fn x=true\/X.env.scope.names.lookup x=some .local:=by first|exact .inl rfl|exact .inr rfl|assumption) :
 PS X (.Assign [.Name x pos'] e pos) (tS (kk X cm) E (Ĩ i mo)):=PS.wk (Yx hN hi hx he hs hf) λD σ H ⟨c,F,ρ,rel,h⟩=>⟨c,F,ρ,rel,ů.bind h λr ρ1 v F1 H1 Ė s1 q h1=>by
 cases r with
 |sh p=>exact h1 _ F1 H1 (Ė.put rfl ⟨v,rfl,q⟩) (Same.refl _)
 |ow ps=>
  obtain⟨a,vs,rfl,q1,q2,q3,q4,q5⟩:=q
  exact h1 _ F1 H1 (Ė.O_ ⟨a,vs,rfl,q1,q2,q3,q5⟩ λ_ z=>V.ref.inj z▸q4) (Same.refl _)
 |ot ps qs=>
  obtain⟨p,a,xs,vs,rfl,q0,qx,q1,q2,q3,q4,q5⟩:=q
  exact h1 _ F1 H1 (Ė.O_ (s:=.ot ps qs) ⟨p,a,xs,vs,rfl,q0,qx,q1,q2,q3,q5⟩ λ_ z=>oN (ps:=ps) (qs:=qs) z ⟨p,xs,rfl,q0⟩▸q4) (Same.refl _)⟩
def Zc0(he:PE X e (tO (kk X cm) E mo)):PS X (.Return (some e) pos) (tS (kk X cm) E (ġ mo)):=PS.wk (Ys he) λD σ H ⟨c,F,ρ,rel,h⟩=>⟨c,F,ρ,rel,ů.bind h λr ρ1 v F1 H1 Ė s1 q h1=>h1 v σ F1 H1 Ė (Same.refl _) q⟩
def Al(he:PE X e (tV (kk X cm) E mv))(hs:swapsWith e none pos.line X.env=pure false:=by rfl):PS X (.Expr e pos) (tS (kk X cm) E (xK mv)):=PS.wk (Ũ he hs) λD σ H ⟨c,F,ρ,rel,h⟩=>⟨c,F,ρ,rel,ů.bind h λr ρ1 v F1 H1 Ė s1 q h1=>h1 σ F1 H1 Ė (Same.refl _)⟩
def ş{t:M Bool}{ss ss':List Stmt}(hc:PT X a (tB (kk X cm) E t))(ha:iD X ss (tS (kk X cm) E m1))(hb:iD X ss' (tS (kk X cm) E m2)):PS X (.If a ss ss' pos) (tS (kk X cm) E (cG t m1 m2)):=PS.wk (Zcq hc ha hb) λD σ H ⟨c,F,ρ,rel,h⟩=>⟨c,F,ρ,rel,ů.bind h λr ρ1 v F1 H1 Ė s1 q h1=>by
 have e:r=v:=q
 subst e
 cases r with
 |true=>exact⟨c,F1,ρ1,Ė,h1⟩
 |false=>exact⟨c,F1,ρ1,Ė,h1⟩⟩
def Am{α:Type}:M α:= λ_=>.bad
def jG:PS X st (tS (kk X cm) E Am):=PS.wk G_ λD σ H ⟨c,F,ρ,rel,h⟩=>h
abbrev Tg:=PV->ń->Option ń
abbrev GP:=List PV->ń->Option ń
def Zc1(K:KK)(c:Ctx)(F H:Hp)(Q:L2.St->Hp->Prop):Option ń->Prop
 |some ρ'=>∀σ',Rel K c F H σ' ρ'->Q σ' H
 |none=>False
def tT(K:KK)(g:Tg):TG:=λv σ H Q=>∃c F ρ p,Rel K c F H σ ρ/\Rep K F p v/\Zc1 K c F H Q (g p ρ)
def tTs(K:KK)(g:GP):Hf:=λv σ H Q=>∃c F ρ p,Rel K c F H σ ρ/\ě K F p v/\Zc1 K c F H Q (g p ρ)
def gN(i:Nat):Tg:=λp ρ=>some (ρ.set i (.sh p))
def ŏ:GP:=λps ρ=>match ps with
 | []=>some ρ
 |_=>none
def ę(g:Tg)(gs:GP):GP:=λps ρ=>match ps with
 |p::ps=>(g p ρ).bind λρ1=>gs ps ρ1
 | []=>none
def gT(n:Nat)(gs:GP):Tg:=λp ρ=>match p with
 | .tup ps=>if ps.length=n then gs ps ρ else none
 |_=>none
def PG.wk'{tg:Expr}{t t':TG}(h:PG X tg t)(i:∀v σ H Q,t' v σ H Q->t v σ H Q):PG X tg t':=λpins s σ H v u Q I r q=>h pins s σ H v u Q I r (i v σ H Q q)
def zB.wk{tg:List Expr}{t t':Hf}(h:zB X tg t)(i:∀v σ H Q,t' v σ H Q->t v σ H Q):zB X tg t':=λpins s σ H v u Q I r q=>h pins s σ H v u Q I r (i v σ H Q q)
def Iw{i:Nat}{x:Str}(hN:X.N.Nodup)(hi:X.N[i]?=some x)(hx:Loc X.env.scope x)(hf:X.fn x=true\/X.env.scope.names.lookup x=some .local:=by first|exact .inl rfl|exact .inr rfl|assumption):PG X (.Name x pos) (tT (kk X cm) (gN i)):=
 PG.wk' (Ny hN hi hx hf) λv σ H Q ⟨c,F,ρ,p,rel,rp,h⟩=>h _ (rel.put rfl ⟨v,rfl,rp⟩)
def aU:zB X [] (tTs (kk X cm) ŏ):=zB.wk Nz λv σ H Q ⟨c,F,ρ,p,rel,rp,h⟩=>by
 cases p with
 |nil=>
  have e:v=[]:=by have:=rp;unfold ě at this;exact this
  exact⟨e,h σ rel⟩
 |cons _ _=>exact h.elim
def Ī{es:List Expr}{g:Tg}{gs:GP}(h1:PG X e (tT (kk X cm) g))(h2:zB X es (tTs (kk X cm) gs))(hs:(assignEach (e::es) X.env).map (·.2)=assign e X.env::(assignEach es X.env).map (·.2):=by rfl):zB X (e::es) (tTs (kk X cm) (ę g gs)):=
 zB.wk (Hg h1 h2 hs) λv σ H Q ⟨c,F,ρ,p,rel,rp,h⟩=>by
  cases p with
  |nil=>exact h.elim
  |cons p ps=>
   unfold ě at rp
   obtain⟨x,r,rfl,r1,r2⟩:=rp
   refine⟨x,r,rfl,c,F,ρ,p,rel,r1,?_⟩
   unfold ę at h
   dsimp only at h
   cases eg:g p ρ with
   |none=>rw[eg] at h;exact h.elim
   |some ρ1=>rw[eg] at h;exact λσ' aO=>⟨c,F,ρ1,ps,aO,r2,h⟩
def jH{es:List Expr}{k:Nat}{gs:GP}{n:Nat}(hc:X.calm=true)(h:zB X es (tTs (kk X cm) gs))(hn:(assignEach es X.env).length=n:=by rfl)(hst:(assignEach es X.env).findIdx? (·.1)=none:=by rfl):PG X (.Tuple es k pos) (tT (kk X cm) (gT n gs)):=
 PG.wk' (Hh hc h hn hst) fun v σ H Q ⟨c,F,ρ,p,rel,rp,h⟩=>by
   cases p with
   |tup ps=>
    unfold Rep at rp
    obtain⟨a,xs,h1,h2,h3⟩:=rp
    unfold gT at h
    dsimp only at h
    split at h
    ·rename_i hl
     exact⟨a,xs,h1,Same.tup rel.sub h2,by rw[<-h3.length];exact hl,c,F,ρ,ps,rel,h3,h⟩
    ·exact h.elim
   |_=>exact h.elim
def Ao(g:Tg)(m:M PV):M Fl:=λρ=>(m ρ).bind λp ρ1=>match g p ρ1 with
 |some ρ2=>.ok .nx ρ2
 |none=>.bad
def Ds{tg:Expr}{g:Tg}(he:PE X e (tV (kk X cm) E mv))(hg:PG X tg (tT (kk X cm) g))(hs:swapsWithSole [tg] e pos.line X.env=pure false:=by rfl)(hw:swappedStores [tg] e X.env=pure none:=by rfl)
 (h1:(assignEach [tg] X.env).map (·.2)=[assign tg X.env]:=by rfl):PS X (.Assign [tg] e pos) (tS (kk X cm) E (Ao g mv)):=PS.wk (Hi he hg hs hw h1) λD σ H ⟨c,F,ρ,rel,h⟩=>⟨c,F,ρ,rel,ů.bind h λr ρ1 v F1 H1 Ė s1 q h1=>by
 refine⟨c,F1,ρ1,r,Ė,q,?_⟩
 cases eg:g r ρ1 with
 |none=>rw[eg] at h1;exact h1.elim
 |some ρ2=>rw[eg] at h1;exact λσ' aO=>h1 σ' F1 H1 aO (Same.refl _)⟩
def Aq(i:Nat)(mi:M PV)(m:M PV):M Fl:=λρ=>(m ρ).bind λp ρ1=>match ρ1[i]? with
 |some (.ow _)=>(mi ρ1).bind λq ρ2=>match ρ2[i]?,q with
  |some (.ow ps),.int k=>match Ac ps.length k with
   |some j=>.ok .nx (ρ2.set i (.ow (ps.set j p)))
   |none=>.bad
  |_,_=>.bad
 |_=>.bad
def Pj{i:Nat}{x:Str}{ix:Expr}{mi:M PV}{px Ar:Pos}(he:PE X e (tV (kk X cm) E mv))(hi:PE X ix (tV (kk X cm) E mi))(ho:PE X (.Name x px) (zJ i))
 (hsub:∀v,assign (.Subscript (.Name x px) ix Ar) X.env v=(do
   let ov <-holding [v] (eval (.Name x px) X.env)
   let iv <-holding [v,ov] (eval ix X.env)
   standAt Ar
   holding [v,ov,iv] (setItem ov iv v)
   release [v,ov,iv] []):=by intro _;rfl)
 (hs:swapsWithSole [.Subscript (.Name x px) ix Ar] e pos.line X.env=pure false:=by rfl)(hw:swappedStores [.Subscript (.Name x px) ix Ar] e X.env=pure none:=by rfl)
 (h1:(assignEach [.Subscript (.Name x px) ix Ar] X.env).map (·.2)=[assign (.Subscript (.Name x px) ix Ar) X.env]:=by rfl) :
 PS X (.Assign [.Subscript (.Name x px) ix Ar] e pos) (tS (kk X cm) E (Aq i mi mv)):=PS.wk (Hi he (Yw ho hi set_list hsub) hs hw h1) λD σ H ⟨c,F,ρ,rel,h⟩=>⟨c,F,ρ,rel,ů.bind h λp ρ1 v F1 H1 Ė s1 q h1=>by
 cases e1:ρ1[i]? with
 |none=>rw[e1] at h1;exact h1.elim
 |some sl=>
  rw[e1] at h1
  cases sl with
  |ow ps0=>
   obtain⟨a,vs0,z1,_,_,_,_,_⟩:=Ė.ow e1
   refine⟨.ref a,z1,c,F1,ρ1,Ė,ů.bind h1 λq' ρ2 u F2 H2 Ĵ s2 r2 h2=>?_⟩
   cases e2:ρ2[i]? with
   |none=>rw[e2] at h2;exact h2.elim
   |some sl2=>
    rw[e2] at h2
    cases sl2 with
    |ow ps=>
     cases q' with
     |int k=>
      have eu:u=.int k:=by have:Rep (kk X cm) F2 (.int k) u:=r2;unfold Rep at this;exact this
      subst eu
      dsimp only at h2
      obtain⟨a2,vs,w1,w2,w3,w4,w5,w6⟩:=Ĵ.ow e2
      rw[z1] at w1
      cases w1
      cases ej:Ac ps.length k with
      |none=>rw[ej] at h2;exact h2.elim
      |some j=>
       rw[ej] at h2
       refine⟨a,vs,k,j,rfl,rfl,w2,by rw[<-w5.length];exact ej,h2 σ F2 _ (Ĵ.write w6 z1 ⟨a,vs.set j v,rfl,ģ,w3,w4,?_⟩ λ_ z=>(V.ref.inj z).symm) (Same.refl _)⟩
       exact ě.of (Il (Rep.same s2 p v q) j w5.pr)
     |_=>exact h2.elim
    |_=>exact h2.elim
  |_=>exact h1.elim⟩
def nJ(i:Nat)(m:M PV):M Fl:=λρ=>match ρ[i]? with
 |some (.ow _)=>(m ρ).bind λp ρ1=>match ρ1[i]? with
  |some (.ow ps)=>if ps.length<16777216 then .ok .nx (ρ1.set i (.ow (ps ++ [p]))) else .bad
  |_=>.bad
 |_=>.bad
def bM{i:Nat}{D:Ends}{σ:L2.St}{H:Hp}(h:tS (kk X cm) E (nJ i mv) D σ H):GZ (tBM X.K "list" CZ (zJ i) (tL (kk X cm) E (ă mv Đ))) D σ H:=by
 obtain⟨c,F,ρ,rel,h⟩:=h
 unfold nJ at h
 cases e1:ρ[i]? with
 |none=>rw[e1] at h;exact h.elim
 |some sl=>
  rw[e1] at h
  cases sl with
  |ow ps0=>
   obtain⟨a,vs0,z1,z2,z3,z4,z5,z6⟩:=rel.ow e1
   refine⟨.ref a,z1,.inl ⟨rfl,_,ū.of z2⟩,c,F,ρ,rel,?_⟩
   dsimp only at h
   unfold ă
   cases em:mv ρ with
   |bad=>rw[em] at h;exact h
   |exc x ρ1=>rw[em] at h;exact λC d F' H' aO s1 q=>h σ C d F' H' aO s1 q
   |ok p ρ1=>
    rw[em] at h
    intro us F1 H1 Ė s1 s2 r1
    have r1':ě (kk X cm) F1 [p] us:=r1
    cases r1'.pr with
    |cons rp t=>
     rename_i v vs'
     cases t
     cases e2:ρ1[i]? with
     |none=>simp only[Res.aH,e2] at h;exact h.elim
     |some sl2=>
      simp only[Res.aH,e2] at h
      cases sl2 with
      |ow ps=>
       obtain⟨a2,vs,w1,w2,w3,w4,w5,w6⟩:=Ė.ow e2
       rw[z1] at w1
       cases w1
       dsimp only at h
       split at h
       ·rename_i hz
        refine⟨a,vs,v,rfl,rfl,w2,by rw[<-w5.length,ľ];exact hz,h σ F1 _ (Ė.write w6 z1 ⟨a,vs ++ [v],rfl,ģ,w3,w4,ě.append w5 (ě.cons rp ě.nil)⟩ λ_ z=>(V.ref.inj z).symm) s1⟩
       ·exact h.elim
      |_=>exact h.elim
  |_=>exact h.elim
def Ĳ(mc:M Bool)(mb:M Fl):Nat->ń->Res Fl
 |0,_=>.bad
 |n+1,ρ=>(mc ρ).bind λb ρ1=>if b=true then(mb ρ1).bind λf ρ2=>match f with
  | .nx=>Ĳ mc mb n ρ2
  | .ct=>Ĳ mc mb n ρ2
  | .bk=>.ok .nx ρ2
  | .rt r=>.ok (.rt r) ρ2 else .ok .nx ρ1
theorem Ű{mc:M Bool}{mb:M Fl}(n:Nat)(ρ:ń):Ĳ mc mb (n+1) ρ=(mc ρ).bind λb ρ1=>if b=true then(mb ρ1).bind λf ρ2=>match f with
 | .nx=>Ĳ mc mb n ρ2
 | .ct=>Ĳ mc mb n ρ2
 | .bk=>.ok .nx ρ2
 | .rt r=>.ok (.rt r) ρ2 else .ok .nx ρ1:=rfl
open Classical in
noncomputable def ű(mc:M Bool)(mb:M Fl):M Fl:=λρ=>if h:∃n,Ĳ mc mb n ρ≠ .bad then Ĳ mc mb (Classical.choose h) ρ else .bad
theorem gA{mc:M Bool}{mb:M Fl}:∀(n:Nat) (ρ:ń),Ĳ mc mb n ρ≠ .bad->Ĳ mc mb (n+1) ρ=Ĳ mc mb n ρ
 |0,ρ,h=>absurd rfl h
 |n+1,ρ,h=>by
  rw[Ű] at h
  rw[Ű (n+1),Ű n]
  cases e:mc ρ with
  |bad=>rfl
  |exc x ρ1=>rfl
  |ok b ρ1=>
   rw[e] at h
   simp only[Res.aH] at h ⊢
   cases b with
   |false=>rfl
   |true=>
    simp only[if_true] at h ⊢
    cases e2:mb ρ1 with
    |bad=>rfl
    |exc x ρ2=>rfl
    |ok f ρ2=>
     rw[e2] at h
     simp only[Res.aH] at h ⊢
     cases f with
     |nx=>exact gA n ρ2 h
     |ct=>exact gA n ρ2 h
     |bk=>rfl
     |rt r=>rfl
def tU{mc:M Bool}{mb:M Fl}{n m:Nat}{ρ:ń}(h:Ĳ mc mb n ρ≠ .bad)(hm:n<=m):Ĳ mc mb m ρ=Ĳ mc mb n ρ:= by
 induction hm with
 |refl=>rfl
 |step _ ih=>rw[gA _ _ (by rw[ih];exact h),ih]
def ŵ{mc:M Bool}{mb:M Fl}{ρ:ń}(n:Nat)(h:Ĳ mc mb n ρ≠ .bad):ű mc mb ρ=Ĳ mc mb n ρ:= by
 unfold ű
 have hx:∃n,Ĳ mc mb n ρ≠ .bad:=⟨n,h⟩
 rw[dif_pos hx]
 have hc:=Classical.choose_spec hx
 rcases Nat.le_total n (Classical.choose hx) with hle|hle
 ·exact tU h hle
 ·exact(tU hc hle).symm
theorem gB{mc:M Bool}{mb:M Fl}{ρ:ń}:ű mc mb ρ=(mc ρ).bind λb ρ1=>if b=true then(mb ρ1).bind λf ρ2=>match f with
 | .nx=>ű mc mb ρ2
 | .ct=>ű mc mb ρ2
 | .bk=>.ok .nx ρ2
 | .rt r=>.ok (.rt r) ρ2 else .ok .nx ρ1:=by
 have go:∀ρ2,ű mc mb ρ2=.bad\/∃n,ű mc mb ρ2=Ĳ mc mb n ρ2/\Ĳ mc mb n ρ2≠ .bad:=λρ2=>by
  by_cases hx:∃n,Ĳ mc mb n ρ2≠ .bad
  ·obtain⟨n,h⟩:=hx
   exact .inr ⟨n,ŵ n h,h⟩
  ·left;unfold ű;rw[dif_neg hx]
 have Zfj:∀ρ2,ű mc mb ρ2=.bad->∀n,Ĳ mc mb n ρ2=.bad:=λρ2 h n=>by
  refine Classical.byContradiction λz=>?_
  rw[ŵ n z] at h
  exact z h
 have fin:∀n,Ĳ mc mb (n+1) ρ≠ .bad->ű mc mb ρ=Ĳ mc mb (n+1) ρ:= λn h=>ŵ _ h
 cases e:mc ρ with
 |bad=>rcases go ρ with h|⟨n,h1,h2⟩
       ·rw[h];rfl
       ·cases n with
        |zero=>exact absurd rfl h2
        |succ n=>rw[Ű,e] at h2;exact absurd rfl h2
 |exc x ρ1=>
  have h:Ĳ mc mb 1 ρ=.exc x ρ1:=by rw[Ű,e];rfl
  rw[ŵ 1 (by rw[h];intro z;cases z),h];rfl
 |ok b ρ1=>
  simp only[Res.aH]
  cases b with
  |false=>
   have h:Ĳ mc mb 1 ρ=.ok .nx ρ1:=by rw[Ű,e];rfl
   rw[ŵ 1 (by rw[h];intro z;cases z),h];rfl
  |true=>
   simp only[if_true]
   have one:∀n,Ĳ mc mb (n+1) ρ=(mb ρ1).bind λf ρ2=>match f with
    | .nx=>Ĳ mc mb n ρ2
    | .ct=>Ĳ mc mb n ρ2
    | .bk=>.ok .nx ρ2
    | .rt r=>.ok (.rt r) ρ2:=λn=>by rw[Ű,e];rfl
   cases e2:mb ρ1 with
   |bad=>
    rcases go ρ with h|⟨n,h1,h2⟩
    ·rw[h];rfl
    ·cases n with
     |zero=>exact absurd rfl h2
     |succ n=>rw[one,e2] at h2;exact absurd rfl h2
   |exc x ρ2=>
    have h:Ĳ mc mb 1 ρ=.exc x ρ2:=by rw[one,e2];rfl
    rw[ŵ 1 (by rw[h];intro z;cases z),h];rfl
   |ok f ρ2=>
    have turn:(∀n,Ĳ mc mb (n+1) ρ=Ĳ mc mb n ρ2)->ű mc mb ρ=ű mc mb ρ2:=λhn=>by
     rcases go ρ2 with h|⟨n,h1,h2⟩
     ·rcases go ρ with h'|⟨n,h1,h2⟩
      ·rw[h,h']
      ·cases n with
       |zero=>exact absurd rfl h2
       |succ n=>rw[hn,Zfj ρ2 h n] at h2;exact absurd rfl h2
     ·rw[h1,<-hn n]
      exact fin n (by rw[hn n];exact h2)
    cases f with
    |nx=>exact turn λn=>by rw[one,e2];rfl
    |ct=>exact turn λn=>by rw[one,e2];rfl
    |bk=>
     have h:Ĳ mc mb 1 ρ=.ok .nx ρ2:=by rw[one,e2];rfl
     rw[ŵ 1 (by rw[h];intro z;cases z),h];rfl
    |rt r=>
     have h:Ĳ mc mb 1 ρ=.ok (.rt r) ρ2:=by rw[one,e2];rfl
     rw[ŵ 1 (by rw[h];intro z;cases z),h];rfl
def Pk{c:Expr}{body:List Stmt}{mc:M Bool}{mb:M Fl}(hp:PassesOwn (model X.prog X.w) X.A X.env X.xe)(hc:PT X c (tB (kk X cm) E mc))(hb:iD X body (tS (kk X cm) E mb)):PS X (.While c body [] pos) (tS (kk X cm) E (ű mc mb)):=PS.wk (Hj hp hc hb) λD σ H ⟨c,F,ρ,rel,h⟩=>by
 obtain⟨n,hn⟩:∃n,ů (kk X cm) E c F D (Ĳ mc mb n ρ):=by
  by_cases hx:∃n,Ĳ mc mb n ρ≠ .bad
  ·obtain⟨n,hn⟩:=hx
   rw[ŵ n hn] at h
   exact⟨n,h⟩
  ·unfold ű at h
   rw[dif_neg hx] at h
   exact h.elim
 refine⟨λm σ' H'=>∃F2 ρ2,Rel (kk X cm) c F2 H' σ' ρ2/\Same F F2/\ů (kk X cm) E c F2 D (Ĳ mc mb m ρ2),⟨n,F,ρ,rel,Same.refl _,hn⟩,?_⟩
 rintro m σ1 H1 ⟨F1,ρ1,Ė,s1,h1⟩
 cases m with
 |zero=>exact h1.elim
 |succ m=>
  rw[Ű] at h1
  refine⟨c,F1,ρ1,Ė,ů.bind h1 λk ρ2 v F2 H2 Ĵ s2 q h2=>?_⟩
  have e:k=v:=q
  subst e
  cases k with
  |false=>
   rw[if_neg Bool.false_ne_true]
   rw[if_neg Bool.false_ne_true] at h2
   exact h2 σ1 F2 H2 Ĵ (Same.refl _)
  |true=>
   rw[if_pos rfl]
   rw[if_pos rfl] at h2
   refine⟨_,λσ' H' z=>z,c,F2,ρ2,Ĵ,?_⟩
   have nxt:∀{ρ3:ń},ů (kk X cm) E c F2 D (Ĳ mc mb m ρ3)->∀σ' F' H',Rel (kk X cm) c F' H' σ' ρ3->Same F2 F'->∃m',m'<m+1/\∃F2 ρ2,Rel (kk X cm) c F2 H' σ' ρ2/\Same F F2/\ů (kk X cm) E c F2 D (Ĳ mc mb m' ρ2):=
    fun{ρ3} h3 σ' F' H' aO s'=>⟨m,Nat.lt_succ_self m,F',ρ3,aO,(s1.trans s2).trans s',ů.mono h3 s'⟩
   cases e2:mb ρ2 with
   |bad=>rw[e2] at h2;exact h2
   |exc x ρ3=>rw[e2] at h2;exact h2
   |ok f ρ3=>
    rw[e2] at h2
    cases f with
    |nx=>exact nxt h2
    |ct=>exact nxt h2
    |bk=>exact h2
    |rt r=>exact h2
def eV(K:KK)(Lh F:Hp)(J:It)(items:List PV):Prop:=∀(c:Ctx) (i:Nat) (F2 H:Hp) (σ:L2.St) (ρ:ń),Rel K c F2 H σ ρ->Same F F2->Same Lh H->
 (∀p,items[i]?=some p->J.go i H/\∀x H',J.yld i H x H'->∃F3,Rel K c F3 H' σ ρ/\Same F2 F3/\Same H H'/\Rep K F3 p x)/\(i=items.length->J.stop i H)
def rIt(K:KK):RR (List PV) It:=λc _ _ F _ items J=>eV K c.L F J items
abbrev tI(K:KK)(E:L2.St->XK)(m:M (List PV)):TI:=tG K E (rIt K) m
def forL(g:Tg)(mb:M Fl):List PV->M Fl
 | [],ρ=>.ok .nx ρ
 |p::ps,ρ=>match g p ρ with
  |none=>.bad
  |some ρ1=>(mb ρ1).bind λf ρ2=>match f with
   | .nx=>forL g mb ps ρ2
   | .ct=>forL g mb ps ρ2
   | .bk=>.ok .nx ρ2
   | .rt r=>.ok (.rt r) ρ2
def aV(mi:M (List PV))(g:Tg)(mb:M Fl):M Fl:=λρ=>(mi ρ).bind λitems ρ1=>forL g mb items ρ1
def Ū{iter tg:Expr}{body:List Stmt}{mi:M (List PV)}{g:Tg}{mb:M Fl}(hp:PassesOwn (model X.prog X.w) X.A X.env X.xe)(hc:X.calm=true)(hi:PI X tg iter (tI (kk X cm) E mi))(hg:PG X tg (tT (kk X cm) g))(hb:iD X body (tS (kk X cm) E mb))
 (hs:∀x,foldedSetIterable iter X.env x=pure x:=by intro _;rfl):PS X (.For tg iter body [] pos) (tS (kk X cm) E (aV mi g mb)):=PS.wk (YC hp hc hi hg hb hs) λD σ H ⟨c,F,ρ,rel,h⟩=>⟨c,F,ρ,rel,ů.bind h λitems ρ1 J F1 H1 Ė s1 ito h1=>by
 refine⟨λi m σ' H'=>∃F2 ρ2,i<=items.length/\m=items.length-i/\Rel (kk X cm) c F2 H' σ' ρ2/\Same F1 F2/\ů (kk X cm) E c F2 D (forL g mb (items.drop i) ρ2),⟨_,F1,ρ1,Nat.zero_le _,rfl,Ė,Same.refl _,h1⟩,?_⟩
 rintro i m σ2 H2 ⟨F2,ρ2,hle,rfl,Ĵ,s2,h2⟩
 obtain⟨go,stop⟩:=ito c i F2 H2 σ2 ρ2 Ĵ s2 λb u e=>(Ĵ.lent b u e).1
 by_cases hlt:i<items.length
 ·obtain⟨g1,g2⟩:=go items[i] (List.getElem?_eq_getElem hlt)
  rw[List.drop_eq_getElem_cons hlt] at h2
  unfold forL at h2
  refine .inr ⟨g1,_,λσ' H' z=>z,λx H3 hy=>?_⟩
  obtain⟨F3,cB,s3,_,rp⟩:=g2 x H3 hy
  refine⟨c,F3,ρ2,items[i],cB,rp,?_⟩
  cases eg:g items[i] ρ2 with
  |none=>rw[eg] at h2;exact h2.elim
  |some ρ3=>
   rw[eg] at h2
   dsimp only at h2
   intro σ4 xH
   refine⟨c,F3,ρ3,xH,?_⟩
   have nxt:∀{ρ4:ń},ů (kk X cm) E c F2 D (forL g mb (items.drop (i+1)) ρ4)->∀σ' F' H',Rel (kk X cm) c F' H' σ' ρ4->Same F3 F'->∃m',m'<items.length-i/\∃F2 ρ2,i+1<=items.length/\m'=items.length-(i+1)/\Rel (kk X cm) c F2 H' σ' ρ2/\Same F1 F2/\ů (kk X cm) E c F2 D (forL g mb (items.drop (i+1)) ρ2):=
    fun{ρ4} h3 σ' F' H' aO s'=>⟨items.length-(i+1),by omega,F',ρ4,hlt,rfl,aO,(s2.trans s3).trans s',ů.mono h3 (s3.trans s')⟩
   have h2':=ů.mono h2 s3
   cases e2:mb ρ3 with
   |bad=>rw[e2] at h2;exact h2
   |exc x ρ4=>rw[e2] at h2';exact h2'
   |ok f ρ4=>
    rw[e2] at h2 h2'
    cases f with
    |nx=>exact nxt h2
    |ct=>exact nxt h2
    |bk=>exact h2'
    |rt r=>exact h2'
 ·have e:i=items.length:=by omega
  refine .inl ⟨stop e,?_⟩
  rw[List.drop_eq_nil_of_le (by omega)] at h2
  unfold forL at h2
  exact h2 σ2 F2 H2 Ĵ (Same.refl _)⟩
end
end P
namespace P
open PySem PySem.Spec PyProof.Rows L2 M2 M3
inductive FR where
 |ret (r:RV)|exc (x:PX)|bad
abbrev MF:=List Slot->FR
def FR.of:Res Fl->FR
 | .ok (.rt r) _=>.ret r
 | .ok .nx _=>.ret (.sh .non)
 | .exc x _=>.exc x
 |_=>.bad
def Ĭ(n k:Nat)(mb:M Fl):MF:=λas=>if as.length=n then FR.of (mb (startP k as)) else .bad
def rF(K:KK)(H F' H':Hp):RV->V->Prop
 | .sh p,v=>Rep K F' p v
 | .ow ps,v=>∃a vs,v=.ref a/\H' a=some (.lst vs)/\F' a=none/\H a=none/\ě K F' ps vs
 | .ot ps qs,v=>∃p a xs vs,v=.ref p/\F' p=some (.tup (xs ++ [.ref a]))/\ě K F' ps xs/\H' a=some (.lst vs)/\F' a=none/\H a=none/\ě K F' qs vs
def Zfk(K:KK)(E:XK)(F H:Hp)(Q:VK):FR->Prop
 | .ret r=>∀v F' H',Gr F H F' H'->rF K H F' H' r v->Q v H'
 | .exc x=>∀C d F' H',Gr F H F' H'->Pa K F' x C d->E C d H'
 | .bad=>False
def Ŕ(K:KK)(n:Nat)(mf:MF):Sp:=λvs H Q E=>∃F as,as.length=n/\Same F H/\Paired (bA K F H) as vs/\Zfk K E F H Q (mf as)
def aZ(CX:lB)(X:Cx)(E:L2.St->XK):Prop:=∀(pins:List (Addr×Obj)) (σ:L2.St) (H:Hp) (s:Shared) (e:Value) (s':Shared),Inv X pins σ H s->CX X.stack H s (E σ) e s'->X.xe e s'
def ċ{X:Cx}{E:L2.St->XK}:aZ ŝ X E:=λ_ _ _ _ _ _ _ h=>h.elim
section
variable{P:Program}{w:World}{K:PySem.W.Frag}{cm:String->Addr}{mg:Str->Option Value}{base:Heap}{CX:lB}
def fnP{x qual:Str}{st:Stmt}{f:Addr}{fd:FuncData}{N ps:List Str}{k:Nat}{mb:M Fl}(F:HD K x qual st f fd)(S:Č N ps (Ć st))
 (hbody:∀(cdv:Value) (A:Around) (outer:List Env) (s:Shared) (H:Hp) (E:XK),Ś k (A.deeper (envOfC qual (Ć st) s.heap.objs.size f cdv))→
   iD (o_ CX P w K mg base N qual (Ć st) f cdv A outer s H E) (Ķ st) (tS ⟨K,cm⟩ (λ_=>E) mb)):Ġ P w K mg base CX (k+1) f fd ps (Ŕ ⟨K,cm⟩ ps.length (Ĭ ps.length N.length mb)):=by
 obtain⟨oc,od,kV,doc,pm,an,cdv,ct,osl,rfl,lk,hcd⟩:=F.ex
 refine CP lk hcd S (λvs H Q E ⟨F,ps',h1,_,h2,_⟩=>by rw[<-Paired.length h2];exact h1) λA outer s H vs Q E hr hsp=>?_
 obtain⟨F,ps',h1,h2,h3,h4⟩:=hsp
 refine⟨_,hbody cdv A outer s H E hr,ctx0 F H,F,startP N.length ps',Rel.start h2 h3,?_⟩
 unfold Ĭ at h4
 rw[if_pos h1] at h4
 cases e:mb (startP N.length ps') with
 |bad=>rw[e] at h4;exact h4
 |exc x ρ'=>rw[e] at h4;exact λσ' C d F' H' rel s1 q=>h4 C d F' H' rel.gr q
 |ok fl ρ'=>
  rw[e] at h4
  cases fl with
  |nx=>exact λσ' F' H' rel s1=>h4 .non F' H' rel.gr (Rep.non (K:=⟨K,cm⟩) (F:=F'))
  |bk=>exact h4.elim
  |ct=>exact h4.elim
  |rt r=>
   intro v σ' F' H' rel s1 q
   refine h4 v F' H' rel.gr ?_
   cases r with
   |sh p=>exact q
   |ow qs=>
    obtain⟨a,vs',e1,e2,e3,e4,_,e5⟩:=q
    exact⟨a,vs',e1,e2,e3,e4,e5⟩
   |ot qs ts=>
    obtain⟨p,a,xs,vs',e1,e0,ex,e2,e3,e4,_,e5⟩:=q
    exact⟨p,a,xs,vs',e1,e0,ex,e2,e3,e4,e5⟩
def fnQ{x qual:Str}{st:Stmt}{f:Addr}{fd:FuncData}{N ps:List Str}{k n j:Nat}{mb:M Fl}{mf:MF}(F:HD K x qual st f fd)(S:Č N ps (Ć st))(hn:ps.length=n)(hj:N.length=j)(hf:mf=Ĭ n j mb)
 (hbody:∀(cdv:Value) (A:Around) (outer:List Env) (s:Shared) (H:Hp) (E:XK),Ś k (A.deeper (envOfC qual (Ć st) s.heap.objs.size f cdv))→
   iD (o_ CX P w K mg base N qual (Ć st) f cdv A outer s H E) (Ķ st) (tS ⟨K,cm⟩ (λ_=>E) mb)):Ġ P w K mg base CX (k+1) f fd ps (Ŕ ⟨K,cm⟩ n mf):=by
 subst hn hj hf
 exact fnP F S hbody
end
def ď(mf:MF)(mr:M (List Slot)):M RV:=λρ=>(mr ρ).bind λps ρ1=>match mf ps with
 | .ret r=>.ok r ρ1
 | .exc x=>.exc x ρ1
 | .bad=>.bad
section
variable{X:Cx}{cm:String->Addr}{E:L2.St->XK}{CX:lB}{k n:Nat}{f:Addr}{fd:FuncData}{ps:List Str}{mf:MF}{mr:M (List Slot)}{x:Str}{p pos:Pos}{e:Expr}{es:List Expr}
def Dt{sp:Sp}{pins:List (Addr×Obj)}{σ:L2.St}{H:Hp}{s:Shared}{Q:VK}{us:List Value}{vs:List V}(F:Ġ X.prog X.w X.K X.mg X.base CX k f fd ps sp)(hr:Ś k X.A)(hb:Binds X.K fd ps [])(hx:aZ CX X E)
 (I:Inv X pins σ H s)(r:Vals vs us)(h:sp vs H Q (E σ)):wpAny (model X.prog X.w) X.A (call (.ref f) us) (EP X pins σ Q) X.xe s:=by
 have hl:(us ++ []).length=ps.length:=by rw[List.append_nil,<-r.length];exact F.len _ _ _ _ h
 have hbd:=hb s us I.kJ hl
 rw[List.append_nil] at hbd
 refine wpAny_call (codeAny_mono (F.run X.A X.stack s H ⟨us,[]⟩ us vs Q (E σ) hr I.env0 hbd r h) λr s' hq=>?_)
 cases r with
 |error e=>exact hx pins σ H s e s' I hq
 |ok fl=>
  cases fl with
  |ret u=>exact I.after hq
  |next=>exact False.elim hq
  |brk=>exact False.elim hq
  |cont=>exact False.elim hq
def pJ{c:Ctx}{F1 H1:Hp}{σ:L2.St}{ρ1:ń}{Q:VK}{ps:List Slot}{vs:List V}(hlen:(∃r,mf ps=r/\∀z,r=z->z≠ .bad)->ps.length=n)(Ė:Rel (kk X cm) c F1 H1 σ ρ1)(r1:Paired (bA (kk X cm) F1 H1) ps vs)
 (h:au (kk X cm) E (rO (kk X cm)) c F1 H1 σ Q (match mf ps with| .ret r=>.ok r ρ1| .exc x=>.exc x ρ1| .bad=>.bad)):Ŕ (kk X cm) n mf vs H1 Q (E σ):=by
 refine⟨F1,ps,?_,Ė.sub,r1,?_⟩
 ·refine hlen ⟨_,rfl,λz hz hb=>?_⟩
  rw[hz,hb] at h
  exact h
 ·cases em:mf ps with
  |bad=>rw[em] at h;exact h
  |exc x=>rw[em] at h;exact λC d F' H' g rx=>h C d F' H' (Ė.call g) g.f rx
  |ret r=>
   rw[em] at h
   intro v F' H' g rf
   refine h v F' H' (Ė.call g) g.f g.h ?_
   cases r with
   |sh p=>exact rf
   |ow qs=>
    obtain⟨a,vs',e1,e2,e3,e4,e5⟩:=rf
    exact⟨a,vs',e1,e2,e3,Ė.base.free e4,Ė.uR g.f (Ė.fresh e4),e5⟩
   |ot qs ts=>
    obtain⟨p,a,xs,vs',e1,e0,ex,e2,e3,e4,e5⟩:=rf
    exact⟨p,a,xs,vs',e1,e0,ex,e2,e3,Ė.base.free e4,Ė.uR g.f (Ė.fresh e4),e5⟩
def bU{n k:Nat}{mb:M Fl}{ps:List Slot}(h:∃r,Ĭ n k mb ps=r/\∀z,r=z->z≠ .bad):ps.length=n:=by
 obtain⟨r,h1,h2⟩:=h
 unfold Ĭ at h1
 by_cases hl:ps.length=n
 ·exact hl
 ·rw[if_neg hl] at h1
  exact absurd h1.symm (λz=>h2 .bad (by rw[<-h1]) rfl)
def ZaE(F:Ġ X.prog X.w X.K X.mg X.base CX k f fd ps (Ŕ (kk X cm) n mf))(hlen:∀{ps:List Slot},(∃r,mf ps=r/\∀z,r=z->z≠ .bad)->ps.length=n)(hr:Ś k X.A)(hg:Gl X x)(hm:X.mg x=some (.ref f))(hk:PySem.W.keepIn X.K (.ref f)=true)(hb:Binds X.K fd ps [])(hx:aZ CX X E)
 (ha:PA X (e::es) (tA (kk X cm) E mr))(hdb:(x== ("__debug__" :Str))=false:=by decide)(he:starEach (e::es) X.env=(false,eval e X.env)::starEach es X.env:=by exact aj rfl)(hpl:(backTo pos (starEach es X.env)).any (·.1)=false:=by rfl) :
 PE X (.Call (.Name x p) (e::es) [] pos) (tO (kk X cm) E (ď mf mr)):=by
 intro pins s σ H Q I h
 obtain⟨c,F,ρ,rel,h⟩:=h
 refine wpAny_Call_Name_kw (ou I hg hm ?_ hdb)
 refine PySem.W.callWith_K (h₀:= X.base) I.ok.mod.kin hk (ŕ (ha pos pins s σ H (λvs H1=>Ŕ (kk X cm) n mf vs H1 Q (E σ)) I ⟨c,F,ρ,rel,h.bind λps' ρ1 vs F1 H1 Ė _ _ r1 h1=>pJ hlen Ė r1 h1⟩) λus s1 ⟨vs,H1,I1,r,q⟩=>⟨I1.kJ,?_⟩) he hpl
 exact Dt (by assumption) hr hb hx I1 r q
end
def ŗ(m:M PV):M (List PV):=λρ=>(m ρ).bind λp ρ1=>match p with
 | .lst ps=>.ok ps ρ1
 | .tup ps=>.ok ps ρ1
 | .str z=>.ok (z.cps.toList.map λc=>.str ⟨#[c]⟩) ρ1
 |_=>.bad
section
variable{X:Cx}{cm:String->Addr}{E:L2.St->XK}{tg:Expr}
def Zfl(K:PySem.W.Frag)(tl:TE):TI:=λσ H R=>tl σ H λx H1=>(∃a,x=.ref a/\(∃xs,ū K H1 a xs)/\R (YB K a) H1)\/(∃a,x=.ref a/\(∃xs,bO K H1 a xs)/\R (Itt K a) H1)\/∃z,x=.str z/\R (Its z) H1
def Iz{l:Expr}{tl:TE}(hl:PE X l tl):PI X tg l (Zfl X.K tl):=by
 intro pins s σ H R I h
 refine ŕ (hl pins s σ H _ I h) λv s1 ⟨x,H1,I1,r1,q1⟩=>?_
 rcases q1 with⟨a,e,⟨xs,hq⟩,q⟩|⟨a,e,⟨xs,hq⟩,q⟩|⟨z,e,q⟩
 ·subst e
  cases r1
  obtain⟨its,rv,p,hz⟩:=I1.list hq
  refine wpAny_pyIter_list p.isList ?_
  refine⟨s1.heap.objs.size,[s1.heap.objs.size],_,_,H1,rfl,I1.kept (t':=s1.toks) λb o e=>Heap.get?_push_of_some _ e,Fp a _,⟨_,Heap.get?_push_size _ rfl,rfl,rfl⟩,λb hb=>?_,q⟩
  have e:b=s1.heap.objs.size:=by simpa using hb
  subst e
  exact I1.rN (Nat.le_refl _) (I1.hok.fresh (Nat.le_refl _))
 ·subst e
  cases r1
  obtain⟨its,rv,p,hz⟩:=I1.tuple hq
  refine wpAny_pyIter_tuple (show s1.heap.IsTuple a its.toArray from p) ?_
  refine⟨s1.heap.objs.size,[s1.heap.objs.size],_,_,H1,rfl,I1.kept (t':=s1.toks) λb o e=>Heap.get?_push_of_some _ e,zK a _,⟨_,Heap.get?_push_size _ rfl,rfl,rfl⟩,λb hb=>?_,q⟩
  have e:b=s1.heap.objs.size:=by simpa using hb
  subst e
  exact I1.rN (Nat.le_refl _) (I1.hok.fresh (Nat.le_refl _))
 ·subst e
  obtain⟨t,rfl⟩:=r1
  have fin:∀ty,(∀A:Around,A.handled=none->Walks X.prog X.w A s1.heap.objs.size [s1.heap.objs.size] [s1.heap.objs.size] z.cps.size (SignAt z) (λi h=>h.IsStrIter s1.heap.objs.size ty z t i))->
   (∀(A:Around) (i:Nat) (s:Shared) (Q:Value->Shared->Prop) (E:Value->Shared->Prop),s.heap.IsStrIter s1.heap.objs.size ty z t i->Q (.ref s1.heap.objs.size) s->wpAny (model X.prog X.w) A (pyIter (.ref s1.heap.objs.size)) Q E s)->
   (["enumerate","zip","dict_itemiterator","dict_reverseitemiterator","odict_iterator","itertools.zip_longest","itertools.pairwise"].contains ty=false)->
   PIE X pins σ tg R (.ref s1.heap.objs.size) {s1 with heap:=s1.heap.push {cls:=.type ty,data:=.fields #[.str z t,.int 0 0]}}:=λty hW hS hty=>by
   refine⟨s1.heap.objs.size,[s1.heap.objs.size],_,_,H1,rfl,I1.kept (t':=s1.toks) λb o e=>Heap.get?_push_of_some _ e,FW _ z t ty hW hS hty,⟨_,Heap.get?_push_size _ rfl,rfl,rfl⟩,λb hb=>?_,q⟩
   have e:b=s1.heap.objs.size:=by simpa using hb
   subst e
   exact I1.rN (Nat.le_refl _) (I1.hok.fresh (Nat.le_refl _))
  cases ha:z.cps.all (·< 128) with
  |true=>exact wpAny_pyIter_ascii ha (fin _ (λA hA=>Walks.strAscii hA _ z t) (λA i s Q E st q=>wpAny_pyIter_striter_ascii st q) (by decide))
  |false=>exact wpAny_pyIter_wide ha (fin _ (λA hA=>Walks.strWide hA _ z t) (λA i s Q E st q=>wpAny_pyIter_striter_wide st q) (by decide))
def bV{l:Expr}{m:M PV}(hl:PE X l (tV (kk X cm) E m)):PI X tg l (tI (kk X cm) E (ŗ m)):=λpins s σ H R I h=>Iz hl pins s σ H R I (by
 obtain⟨c,F,ρ,rel,h⟩:=h
 refine⟨c,F,ρ,rel,h.bind λp ρ1 v F1 H1 Ė s1 s2 q h1=>?_⟩
 cases p with
 |lst ps=>
  have q':Rep (kk X cm) F1 (.lst ps) v:=q
  unfold Rep at q'
  obtain⟨a,vs,rfl,e1,e2⟩:=q'
  refine .inl ⟨a,rfl,⟨vs,Ė.sub.seq e1⟩,h1 _ F1 H1 Ė (Same.refl _) (Same.refl _) ?_⟩
  intro c' i F2 H2 σ2 ρ2 Ĵ sF _
  have hq:ū X.K H2 a vs:=(sF.trans Ĵ.sub).seq e1
  refine⟨λp hp=>?_,λhi=>⟨vs,hq,by rw[hi,e2.length];exact Nat.le_refl _⟩⟩
  obtain⟨u,hu,ru⟩:=aR e2.pr hp
  refine⟨⟨vs,u,hq,hu⟩,λx H' ⟨hH,hx⟩=>?_⟩
  subst hH
  have:vs[i]?=some x:=hx vs hq
  rw[hu] at this
  cases this
  exact⟨F2,Ĵ,Same.refl _,Same.refl _,Rep.same sF p u ru⟩
 |tup ps=>
  have q':Rep (kk X cm) F1 (.tup ps) v:=q
  unfold Rep at q'
  obtain⟨a,vs,rfl,e1,e2⟩:=q'
  refine .inr (.inl ⟨a,rfl,⟨vs,Same.tup Ė.sub e1⟩,h1 _ F1 H1 Ė (Same.refl _) (Same.refl _) ?_⟩)
  intro c' i F2 H2 σ2 ρ2 Ĵ sF _
  have hq:bO X.K H2 a vs:=Same.tup (sF.trans Ĵ.sub) e1
  refine⟨λp hp=>?_,λhi=>⟨vs,hq,by rw[hi,e2.length];exact Nat.le_refl _⟩⟩
  obtain⟨u,hu,ru⟩:=aR e2.pr hp
  refine⟨⟨vs,u,hq,hu⟩,λx H' ⟨hH,hx⟩=>?_⟩
  subst hH
  have:vs[i]?=some x:=hx vs hq
  rw[hu] at this
  cases this
  exact⟨F2,Ĵ,Same.refl _,Same.refl _,Rep.same sF p u ru⟩
 |str z=>
  have q':v=.str z:=by have q':Rep (kk X cm) F1 (.str z) v:=q;unfold Rep at q';exact q'
  subst q'
  refine .inr (.inr ⟨z,rfl,h1 _ F1 H1 Ė (Same.refl _) (Same.refl _) ?_⟩)
  intro c' i F2 H2 σ2 ρ2 Ĵ sF _
  refine⟨λp hp=>?_,λhi=>by rw[hi,List.length_map];show _=_;simp⟩
  rw[List.getElem?_map] at hp
  cases ez:z.cps.toList[i]? with
  |none=>rw[ez] at hp;cases hp
  |some cc=>
   rw[ez] at hp
   cases hp
   refine⟨by have:=(List.getElem?_eq_some_iff.mp ez).1;show i<z.cps.size;simpa using this,λx H' ⟨hH,c2,hc,hx⟩=>?_⟩
   subst hH hx
   rw[ez] at hc
   cases hc
   exact⟨F2,Ĵ,Same.refl _,Same.refl _,Rep.str⟩
 |_=>exact h1.elim)
def ŋ(i:Nat):M (List PV):=λρ=>match ρ[i]? with
 |some (.bw ps)=>.ok ps ρ
 |some (.sh (.lst ps))=>.ok ps ρ
 |some (.sh (.tup ps))=>.ok ps ρ
 |some (.sh (.str z))=>.ok (z.cps.toList.map λc=>.str ⟨#[c]⟩) ρ
 |some (.ow ps)=>.ok ps (ρ.set i (.sh (.lst ps)))
 |_=>.bad
def Ų(i:Nat){x:Str}{px:Pos}(hN:X.N[i]?=some x:=by rfl)(hv:zH X.env.scope x:=by first|exact Or.inl rfl|exact Or.inr (Or.inl rfl)|exact Or.inr (Or.inr rfl))(hd:(x== ("__debug__" :Str))=false:=by decide)
 (hcd:(x== ("__classdict__" :Str))=false:=by decide):PI X tg (.Name x px) (tI (kk X cm) E (ŋ i)):=λpins s σ H R I h=>by
 obtain⟨c,F,ρ,rel,h⟩:=h
 cases e:ρ[i]? with
 |none=>unfold ŋ at h;rw[e] at h;exact h.elim
 |some sl=>
  have Pn:au (kk X cm) E (rIt (kk X cm)) c F H σ R (ŗ (ĕ i) ρ)->wpAny (model X.prog X.w) X.A (eval (.Name x px) X.env) (λv s1=>wpAny (model X.prog X.w) X.A (pyIter v) (PIE X pins σ tg R) X.xe s1) X.xe s:=λh'=>
   bV (v_var i hN hv hd hcd) pins s σ H R I ⟨c,F,ρ,rel,h'⟩
  unfold ŋ at h
  rw[e] at h
  cases sl with
  |no=>exact h.elim
  |rc C ns ps=>exact h.elim
  |ot ps qs=>exact h.elim
  |ol Di=>exact h.elim
  |ow ps=>exact Pn (by unfold ŗ ĕ;rw[e];exact h)
  |sh p=>
   cases p with
   |lst ps=>exact Pn (by unfold ŗ ĕ;rw[e];exact h)
   |tup ps=>exact Pn (by unfold ŗ ĕ;rw[e];exact h)
   |str z=>exact Pn (by unfold ŗ ĕ;rw[e];exact h)
   |_=>exact h.elim
  |bw ps=>
   obtain⟨a,vs,h1,h2,h3⟩:=rel.slot i _ e
   refine Iz (dX hN hv hd hcd) pins s σ H R I ⟨.ref a,at_of h1,.inl ⟨a,rfl,⟨vs,ū.of (rel.lent a _ h2).1⟩,h _ F H rel (Same.refl _) (Same.refl _) ?_⟩⟩
   intro c' j F2 H2 σ2 ρ2 Ĵ sF sL
   have hq:ū X.K H2 a vs:=ū.of (sL a _ h2)
   refine⟨λp hp=>?_,λhi=>⟨vs,hq,by rw[hi,h3.length];exact Nat.le_refl _⟩⟩
   obtain⟨u,hu,ru⟩:=aR h3.pr hp
   refine⟨⟨vs,u,hq,hu⟩,λx H' ⟨hH,hx⟩=>?_⟩
   subst hH
   have:vs[j]?=some x:=hx vs hq
   rw[hu] at this
   cases this
   exact⟨F2,Ĵ,Same.refl _,Same.refl _,Rep.same sF p u ru⟩
def cV(lo:Int)(n:Nat)(c:Int):List PV:=(List.range n).map λ(i:Nat)=>.int (lo+i*c)
def bW(i:Int):Bool:=decide (i.natAbs<1152921504606846976)
def Ō:List PV->Option (List PV)
 | [.int j]=>if bW j=true then some (cV 0 j.toNat 1) else none
 |_=>none
def tW:List PV->Option (List PV)
 | [.int i,.int j]=>if bW i=true/\bW j=true then some (cV i (j-i).toNat 1) else none
 |_=>none
def Ľ(f:List PV->Option (List PV))(mr:M (List PV)):M (List PV):=λρ=>(mr ρ).bind λps ρ1=>Res.kO (f ps) ρ1
def Av{lo c:Int}{n i:Nat}{p:PV}(h:(cV lo n c)[i]?=some p):i<n/\p=.int (lo+i*c):=by
 unfold cV at h
 by_cases hn:i<n
 ·rw[List.getElem?_map,List.getElem?_range hn] at h
  exact⟨hn,(Option.some.inj h).symm⟩
 ·rw[List.getElem?_eq_none (by simpa using hn)] at h
  cases h
def Aw{lo c:Int}{n:Nat}:(cV lo n c).length=n:=by simp[cV]
def IK{K:KK}{Lh F:Hp}(lo:Int)(n:Nat):eV K Lh F (Itr lo n) (cV lo n 1):=λc i F2 H σ ρ rel sF _=>
 ⟨fun p hp=>by
   obtain⟨h1,rfl⟩:=Av hp
   refine⟨h1,λx H' ⟨e1,e2⟩=>?_⟩
   subst e1 e2
   exact⟨F2,rel,Same.refl _,Same.refl _,by rw[Int.mul_one];exact Rep.int⟩,λhi=>by rw[Aw] at hi;subst hi;exact Nat.le_refl _⟩
def lK{i:Int}(h:bW i=true): -(2 ^ 60)<=i/\i<2 ^ 60:=by
 unfold bW at h
 rw[decide_eq_true_eq] at h
 omega
variable{a b d:Expr}{p pos:Pos}{mr:M (List PV)}
def pK{K:KK}{F:Hp}{ps:List PV}{vs:List V}(h:ě K F ps vs):(∀i r,ps=.int i::r->∃r',vs=.int i::r'/\ě K F r r')/\(ps=[]->vs=[]):=by
 refine⟨λi r e=>?_,λe=>?_⟩
 ·subst e
  unfold ě at h
  obtain⟨x,r',h1,h2,h3⟩:=h
  unfold Rep at h2
  exact⟨r',by rw[h1,h2],h3⟩
 ·subst e
  unfold ě at h
  exact h
def Ĺ(hg:Gl X "range")(hm:X.mg "range" =none)(ha:PA X [a] (tL (kk X cm) E mr))(hs:starEach [a] X.env=[(false,eval a X.env)]:=by exact aj rfl):PI X tg (.Call (.Name "range" p) [a] [] pos) (tI (kk X cm) E (Ľ Ō mr)):=
 λpins s σ H R I h=>Fq hg hm ha hs pins s σ H R I (by
  obtain⟨c,F,ρ,rel,h⟩:=h
  refine⟨c,F,ρ,rel,h.bind λps ρ1 vs F1 H1 Ė s1 s2 q h1=>?_⟩
  have q':ě (kk X cm) F1 ps vs:=q
  unfold Ō at h1
  split at h1
  ·rename_i j
   split at h1
   ·rename_i hj
    obtain⟨r',e1,e2⟩:=(pK q').1 _ _ rfl
    cases(pK e2).2 rfl
    obtain⟨k1,k2⟩:=lK hj
    exact⟨j,e1,by omega,by omega,h1 _ F1 H1 Ė (Same.refl _) (Same.refl _) (IK 0 j.toNat)⟩
   ·exact h1.elim
  ·exact h1.elim)
def xM(hg:Gl X "range")(hm:X.mg "range" =none)(ha:PA X [a,b] (tL (kk X cm) E mr))(hs:starEach [a,b] X.env=[(false,eval a X.env),(false,eval b X.env)]:=by exact Aj rfl rfl)(hs2:starEach [b] X.env=[(false,eval b X.env)]:=by exact aj rfl) :
 PI X tg (.Call (.Name "range" p) [a,b] [] pos) (tI (kk X cm) E (Ľ tW mr)):=
 λpins s σ H R I h=>Ft hg hm ha hs hs2 pins s σ H R I (by
  obtain⟨c,F,ρ,rel,h⟩:=h
  refine⟨c,F,ρ,rel,h.bind λps ρ1 vs F1 H1 Ė s1 s2 q h1=>?_⟩
  have q':ě (kk X cm) F1 ps vs:=q
  unfold tW at h1
  split at h1
  ·rename_i i j
   split at h1
   ·rename_i hj
    obtain⟨r',e1,e2⟩:=(pK q').1 _ _ rfl
    obtain⟨r2,e3,e4⟩:=(pK e2).1 _ _ rfl
    cases(pK e4).2 rfl
    subst e3
    obtain⟨k1,k2⟩:=lK hj.1
    obtain⟨k3,k4⟩:=lK hj.2
    exact⟨i,j,e1,⟨by omega,by omega,by omega,by omega⟩,h1 _ F1 H1 Ė (Same.refl _) (Same.refl _) (IK i (j-i).toNat)⟩
   ·exact h1.elim
  ·exact h1.elim)
end
def Ŧ:Slot->Slot
 | .sh p=>.sh p
 | .ow ps=>.bw ps
 | .bw ps=>.bw ps
 |_=>.no
def Ź(js:List Nat)(nl:Nat)(ρ:ń):ń:=js.map (λ(j:Nat)=>Ŧ ((ρ[j]?).getD .no))++List.replicate nl .no
def į(g:Tg)(mt:M Bool)(me:M PV):List PV->ń->List PV->Option (List PV)
 | [],_,acc=>some acc
 |p::ps,ρ,acc=>match g p ρ with
  |none=>none
  |some ρ1=>match mt ρ1 with
   | .ok true ρ2=>match me ρ2 with
     | .ok q ρ3=>if acc.length<16777216 then į g mt me ps ρ3 (acc ++ [q]) else none
     |_=>none
   | .ok false ρ2=>į g mt me ps ρ2 acc
   |_=>none
def ĵ(js:List Nat)(nl:Nat)(mi:M (List PV))(g:Tg)(mt:M Bool)(me:M PV):M RV:=λρ=>(mi ρ).bind λitems ρ1=>match į g mt me items (Ź js nl ρ1) [] with
 |some ps=>.ok (.ow ps) ρ1
 |none=>.bad
abbrev EF:L2.St->XK:=λ_ _ _ _=>False
def ĭ:M Bool:=λρ=>.ok true ρ
section
variable{K:KK}{c:Ctx}{F H:Hp}{σ:L2.St}{ρ:ń}
def uU(F H H1:Hp):Ctx:=⟨H1,F,(ctx0 F H).L,λ_ _ _=>True⟩
def Rel.cap(js:List Nat)(nl:Nat)(rel:Rel K c F H σ ρ){D:Addr}{o:HO}(hD:H D=none):Rel K (uU F H (upd H D o)) F (upd H D o) (dB js nl σ) (Ź js nl ρ) where
 sub:=rel.sub.trans (Same.upd hD)
 base:=Same.refl _
 f0:=Same.refl _
 dW:=λ_ _ z=>z
 lent:=λa u e=>⟨Same.upd hD a u (cU e).1,(cU e).2⟩
 lb:=fun a e=>by
   cases q:(uU F H (upd H D o)).L a with
   |none=>rfl
   |some u=>
    have e':upd H D o a=none:=e
    rw[Same.upd hD a u (cU q).1] at e'
    cases e'
 len:=by simp[dB,Ź]
 slot:= λi s e=>by
  unfold Ź at e
  by_cases hi:i<js.length
  ·rw[List.getElem?_append_left (by simpa using hi),List.getElem?_map] at e
   cases ej:js[i]? with
   |none=>rw[ej] at e;cases e
   |some j=>
    rw[ej] at e
    have e':Ŧ ((ρ[j]?).getD .no)=s:=Option.some.inj e
    subst e'
    have hx:((dB js nl σ)[i]?).getD none=(σ[j]?).getD none:=by
     unfold dB
     rw[List.getElem?_append_left (by simpa using hi),List.getElem?_map,ej]
     rfl
    rw[hx]
    cases er:ρ[j]? with
    |none=>trivial
    |some sl=>
     have q:=rel.slot j sl er
     cases sl with
     |no=>trivial
     |sh p=>exact q
     |ow ps=>
      obtain⟨a,vs,h1,h2,h3,h4,h5⟩:=q
      refine⟨a,vs,h1,?_,h5⟩
      show(match F a with|none=>H a|some _=>none)=_
      rw[h3]
      exact h2
     |bw ps=>
      obtain⟨a,vs,h1,h2,h3⟩:=q
      obtain⟨l1,l2⟩:=rel.lent a _ h2
      refine⟨a,vs,h1,?_,h3⟩
      show(match F a with|none=>H a|some _=>none)=_
      rw[l2]
      exact l1
     |rc C ns ps=>trivial
     |ot ps qs=>trivial
     |ol Di=>trivial
  ·rw[List.getElem?_append_right (by simpa using hi),List.getElem?_replicate] at e
   split at e
   ·cases e;trivial
   ·cases e
 sep:=λi j a h1 _=>by
  exfalso
  obtain⟨s,y,h1,_,h2⟩:=h1
  have h2:=lH h2
  unfold Ź at h1
  by_cases hi:i<js.length
  ·rw[List.getElem?_append_left (by simpa using hi),List.getElem?_map] at h1
   cases ej:js[i]? with
   |none=>rw[ej] at h1;cases h1
   |some j=>
    rw[ej] at h1
    have e':Ŧ ((ρ[j]?).getD .no)=s:=Option.some.inj h1
    subst e'
    cases q:(ρ[j]?).getD .no<;>rw[q] at h2<;>cases h2
  ·rw[List.getElem?_append_right (by simpa using hi),List.getElem?_replicate] at h1
   split at h1
   ·cases h1;cases h2
   ·cases h1
def Rel.rebase{H1 F1:Hp}{D:Addr}{ys zs:List V}(hD:H1 D=none)(hF:F1 D=none)(rel:Rel K (uU F1 H1 (upd H1 D (.lst ys))) F H σ ρ):Rel K (uU F1 H1 (upd H1 D (.lst zs))) F (upd H D (.lst zs)) σ ρ:= by
 have fD:F D=none:=rel.dW D (by show upd H1 D _ D≠none;rw[ģ];intro z;cases z) hF
 have lD:∀b u,(uU F1 H1 (upd H1 D (.lst ys))).L b=some u->b≠D:=λb u e z=>by
  have q:=(cU (F:=F1) (H:=H1) (a:=b) (u:=u) e).1
  rw[z,hD] at q
  cases q
 have ne:∀b,(uU F1 H1 (upd H1 D (.lst ys))).B b=none->b≠D:=λb z q=>by
  subst q
  have z':upd H1 b (.lst ys) b=none:=z
  rw[ģ] at z';cases z'
 have back:∀b,b≠D->(uU F1 H1 (upd H1 D (.lst ys))).B b=none->(uU F1 H1 (upd H1 D (.lst zs))).B b=none:=λb hb z=>by
  have z':upd H1 D (.lst ys) b=none:=z
  show upd H1 D (.lst zs) b=none
  rw[Ĝ hb] at z' ⊢;exact z'
 refine⟨λb u e=>?_,λb u e=>?_,rel.f0,λb h1 h2=>?_,λb u e=>?_,λb e=>?_,rel.len,λi s e=>?_,rel.sep⟩
 ·have hb:b≠D:=λz=>by rw[z,fD] at e;cases e
  rw[Ĝ hb];exact rel.sub b u e
 ·by_cases hb:b=D
  ·subst hb
   have e':upd H1 b (.lst zs) b=some u:=e
   rw[ģ] at e' ⊢;exact e'
  ·have e':upd H1 D (.lst zs) b=some u:=e
   rw[Ĝ hb] at e' ⊢
   exact rel.base b u (by show upd H1 D _ b=some u;rw[Ĝ hb];exact e')
 ·refine rel.dW b (λz=>h1 ?_) h2
  exact back b (ne b z) z
 ·rw[Ĝ (lD b u e)]
  exact rel.lent b u e
 ·refine rel.lb b ?_
  have z':upd H1 D (.lst zs) b=none:=e
  have hb:b≠D:=λq=>by rw[q,ģ] at z';cases z'
  show upd H1 D (.lst ys) b=none
  rw[Ĝ hb] at z' ⊢;exact z'
 ·have q:=rel.slot i s e
  cases s with
  |no=>trivial
  |sh p=>exact q
  |bw ps=>exact q
  |ow ps=>
   obtain⟨a,vs,q1,q2,q3,q4,q5⟩:=q
   have hb:=ne a q4
   exact⟨a,vs,q1,by rw[Ĝ hb];exact q2,q3,back a hb q4,q5⟩
  |rc C ns ps=>
   obtain⟨a,dx,fs,q1,q2,q3,q4,q5⟩:=q
   have hb:=ne a q4
   exact⟨a,dx,fs,q1,by rw[Ĝ hb];exact q2,q3,back a hb q4,q5⟩
  |ot ps qs=>
   obtain⟨p,a,xs,vs,q1,q0,qx,q2,q3,q4,q5⟩:=q
   have hb:=ne a q4
   exact⟨p,a,xs,vs,q1,q0,qx,by rw[Ĝ hb];exact q2,q3,back a hb q4,q5⟩
  |ol Di=>
   obtain⟨p,as,q1,q0,qn,qp⟩:=q
   refine⟨p,as,q1,q0,qn,Io qp λa ps _ ⟨vs,q2,q3,q4,q5⟩=>?_⟩
   have hb:=ne a q4
   exact⟨vs,by rw[Ĝ hb];exact q2,q3,back a hb q4,q5⟩
end
section
variable{X:Cx}{cm:String->Addr}{E:L2.St->XK}{elt tg iter:Expr}{ifs:List Expr}{scope:Scope}{pos:Pos}{mi:M (List PV)}{g:Tg}{mt:M Bool}{me:M PV}
def ĺ:GF X [] (tB (kk X cm) E ĭ):=λpins s σ H Q I h=>Oq pins s σ H Q I (by
 obtain⟨c,F,ρ,rel,h⟩:=h
 exact h true F H rel (Same.refl _) (Same.refl _) rfl)
def Ax{a:Expr}(h:PT X a (tB (kk X cm) E mt)):GF X [a] (tB (kk X cm) E mt):=Ot h
def IV(K:KK):RR (List PV) It:=λ_ _ _ F H items J=>eV K (ctx0 F H).L F J items
def Zc2{K:KK}{c:Ctx}{F H:Hp}{σ:L2.St}{ρ:ń}(rel:Rel K c F H σ ρ){b:Addr}{u:HO}(e:c.L b=some u):(ctx0 F H).L b=some u:=by
 obtain⟨l1,l2⟩:=rel.lent b u e
 show(match F b with|none=>H b|some _=>none)=some u
 rw[l2]
 exact l1
def QL(h:PI X tg iter (tI (kk X cm) E mi)):PI X tg iter (tG (kk X cm) E (IV (kk X cm)) mi):=λpins s σ H R I ⟨c,F,ρ,rel,q⟩=>h pins s σ H R I ⟨c,F,ρ,rel,au.bind (R':=IV (kk X cm)) (f:=λp ρ=>.ok p ρ) (by revert q;cases mi ρ <;> exact id) λp ρ1 v F1 H1 Ė s1 s2 q h1=>h1 v F1 H1 Ė (Same.refl _) (Same.refl _) λc' i F2 H2 σ2 ρ2 Ĵ sF sL=>q c' i F2 H2 σ2 ρ2 Ĵ sF λb u e=>sL b u (Zc2 Ė e)⟩
def xO{js:List Nat}{nl:Nat}{σ:L2.St}{H:Hp}{Q:VK}(h:tO (kk X cm) E (ĵ js nl mi g mt me) σ H Q):H_ js nl (tG (kk X cm) E (IV (kk X cm)) mi) (tT (kk X cm) g) (tB (kk X cm) EF mt) (tV (kk X cm) EF me) σ H Q:=by
 obtain⟨c,F,ρ,rel,h⟩:=h
 refine⟨c,F,ρ,rel,h.bind λitems ρ1 J F1 H1 Ė s1 s2 ito h1=>?_⟩
 intro D hD
 have hF:F1 D=none:=Ė.sub.free hD
 cases ec:į g mt me items (Ź js nl ρ1) [] with
 |none=>rw[ec] at h1;exact h1.elim
 |some res=>
  rw[ec] at h1
  refine⟨λi m σ' H'=>∃F' ρ' ys acc,i<=items.length/\m=items.length-i/\Rel (kk X cm) (uU F1 H1 (upd H1 D (.lst ys))) F' H' σ' ρ'/\ě (kk X cm) F' acc ys/\į g mt me (items.drop i) ρ' acc=some res,
   ⟨_,F1,_,[],[],Nat.zero_le _,rfl,?_,ě.nil,ec⟩,?_⟩
  ·exact Ė.cap js nl hD
  ·rintro i m σ2 H2 ⟨F2,ρ2,ys,acc,hle,rfl,Ĵ,ra,h2⟩
   have s12:Same F1 F2:=Ĵ.f0
   obtain⟨go,stop⟩:=ito _ i F2 H2 σ2 ρ2 Ĵ s12 λb u e=>(Ĵ.lent b u e).1
   have hH2:H2 D=some (.lst ys):=Ĵ.base D _ (show upd H1 D _ D=_ from ģ)
   have fD:F2 D=none:=Ĵ.dW D (by show upd H1 D _ D≠none;rw[ģ];intro z;cases z) hF
   by_cases hlt:i<items.length
   ·obtain⟨g1,g2⟩:=go items[i] (List.getElem?_eq_getElem hlt)
    rw[List.drop_eq_getElem_cons hlt] at h2
    unfold į at h2
    refine .inr ⟨g1,_,λσ' H' z=>z,λx H3 hy=>?_⟩
    obtain⟨F3,cB,s3,sH3,rp⟩:=g2 x H3 hy
    refine⟨_,F3,ρ2,items[i],cB,rp,?_⟩
    cases eg:g items[i] ρ2 with
    |none=>rw[eg] at h2;cases h2
    |some ρ3=>
     rw[eg] at h2
     dsimp only at h2
     intro σ4 xH
     refine⟨_,F3,ρ3,xH,?_⟩
     cases em:mt ρ3 with
     |bad=>rw[em] at h2;cases h2
     |exc x ρ4=>rw[em] at h2;cases h2
     |ok b ρ4=>
      rw[em] at h2
      intro b' F5 H5 Zc3 s5 QM eb
      have eb':b=b':=eb
      subst eb'
      cases b with
      |false=>
       rw[if_neg Bool.false_ne_true]
       dsimp only at h2
       exact⟨items.length-(i+1),by omega,F5,ρ4,ys,acc,hlt,rfl,Zc3,ě.same (s3.trans s5) acc ys ra,h2⟩
      |true=>
       rw[if_pos rfl]
       dsimp only at h2
       refine⟨_,F5,ρ4,Zc3,?_⟩
       cases ee:me ρ4 with
       |bad=>rw[ee] at h2;cases h2
       |exc x ρ5=>rw[ee] at h2;cases h2
       |ok q ρ5=>
        rw[ee] at h2
        dsimp only at h2
        intro y F6 H6 Zc4 s6 s6' rq
        split at h2
        ·rename_i hz
         have ra6:=ě.same ((s3.trans s5).trans s6) acc ys ra
         refine⟨ys,Zc4.base D _ (show upd H1 D _ D=_ from ģ),by rw[<-ra6.length,ľ];exact hz,?_⟩
         exact⟨items.length-(i+1),by omega,F6,ρ5,ys ++ [y],acc ++ [q],hlt,rfl,Zc4.rebase hD hF,ě.append ra6 (ě.cons rq ě.nil),h2⟩
        ·cases h2
   ·have e:i=items.length:=by omega
    refine .inl ⟨stop e,?_⟩
    rw[List.drop_eq_nil_of_le (by omega)] at h2
    unfold į at h2
    cases h2
    have gr:Gr F1 H1 F2 H2:=⟨λb u e=>Ĵ.base b u (by show upd H1 D _ b=_;rw[Ĝ (Ħ e hD)];exact e),s12,Ĵ.sub,λb hb hf=>Ĵ.dW b (by
     show upd H1 D _ b≠none
     by_cases hbD:b=D
     ·rw[hbD,ģ];intro z;cases z
     ·rw[Ĝ hbD];exact hb) hf⟩
    have Zfm:=Ė.call gr
    exact h1 _ F2 H2 Zfm s12 gr.h ⟨D,ys,rfl,hH2,fD,Ė.base.free hD,Ė.uR gr.f (Ė.fresh hD),ra⟩
def Pq(N':List Str)(js:List Nat)(nl:Nat)(sc:Scope)(hsc:X.env.scope=sc)(hcalm:X.calm=true)
 (hi:PI X.Ŝ tg iter (tG (kk X cm) E (IV (kk X cm)) mi))(hg:∀cl C s H fp,PG (cT X.Ŝ N' scope cl C s H fp) tg (tT (kk X cm) g))(ht:∀cl C s H fp,GF (cT X.Ŝ N' scope cl C s H fp) ifs (tB (kk X cm) EF mt))(he:∀cl C s H fp,PE (cT X.Ŝ N' scope cl C s H fp) elt (tV (kk X cm) EF me))
 (hcap:dz X.Ŝ sc scope N' js)(hlen:js.length+nl=N'.length:=by rfl)
 (hk:scope.kind=.function:=by rfl)(hcell:∀y∈scope.names,y.2=.cell->scope.names.lookup y.1=some .cell:=by decide +kernel)(hnames:∀y∈scope.names,y.2=.local->scope.names.lookup y.1=some .local:=by decide +kernel)
 (hfree:∀y∈scope.names,y.2=.free->(sc.names.lookup y.1=some .cell\/sc.names.lookup y.1=some .free):=by decide +kernel)
 (hs:∀x,foldedSetIterable iter X.env x=pure x:=by intro _;rfl) :
 PE X (.ListComp elt [⟨tg,iter,ifs,0⟩] scope pos) (tO (kk X cm) E (ĵ js nl mi g mt me)):=
 PE.wk (PE.Ŝ (Ou N' js nl sc hsc hcalm hi hg ht he hcap hlen hk hcell hnames hfree hs)) λ_ _ _ h=>xO h
end
end P
namespace P
open PySem PySem.Spec PyProof.Rows L2 M2 M3 M4
abbrev bits(x:Int):Nat:=Builtin.Int.intBits x
section
variable{X:Cx}{cm:String->Addr}{K:KK}
def QT(K:PySem.W.Frag):R2:=λx y H Q=>∃l b xs zs,x=.ref l/\y=.ref b/\ū K H l xs/\ū K H b zs/\xs.length+zs.length<=sizeLine/\∀p,H p=none->Q (.ref p) (upd H p (.lst (xs++zs)))
def Pr:ŭ X (binaryOp .Add) (QT X.K):=by
 intro pins s σ H x y v u Q I rx ry h
 obtain⟨l,b,xs,zs,rfl,rfl,hH,hB,hz,q⟩:=h
 cases rx
 cases ry
 obtain⟨its,r,pl,z⟩:=I.list hH
 obtain⟨its2,r2,pl2,z2⟩:=I.list hB
 obtain⟨⟨c1,d1,t1,sl1⟩,n,e,hc,hd,hs⟩:=pl
 obtain⟨⟨c2,d2,t2,sl2⟩,n2,e2,hc2,hd2,hs2⟩:=pl2
 simp only at hc hd hs hc2 hd2 hs2
 subst hc hd hs hc2 hd2 hs2
 have hl:=r.length
 have hl2:=r2.length
 have ea:its.toArray++its2.toArray=(its++its2).toArray:=by simp
 refine concat_meets ⟨_,e,rfl⟩ ⟨_,e2,rfl⟩ noFill_list_add seq_list_add PySem.F.slot_list_add PySem.F.entry_list_add (PySem.F.args_list_add_2 _ _) (list_addW l b its.toArray its2.toArray n n2 none none sl1 sl2 (by simp only[List.size_toArray];omega)) ⟨e,e2,?_⟩
 rw[ea]
 exact⟨.ref _,_,I.Zfb (t':=s.toks) (r.append r2) (by rw[List.length_append];omega),rfl,q _ I.fresh⟩
def QV(K:PySem.W.Frag):R2:=λx y H Q=>∃l b xs zs,x=.ref l/\y=.ref b/\bO K H l xs/\bO K H b zs/\xs≠[]/\zs≠[]/\xs.length+zs.length<=sizeLine/\∀p,H p=none->Q (.ref p) (upd H p (.tup (xs++zs)))
def Pu:ŭ X (binaryOp .Add) (QV X.K):=by
 intro pins s σ H x y v u Q I rx ry h
 obtain⟨l,b,xs,zs,rfl,rfl,hH,hB,nx,nz,hz,q⟩:=h
 cases rx
 cases ry
 obtain⟨its,r,pl,z⟩:=I.tuple hH
 obtain⟨its2,r2,pl2,z2⟩:=I.tuple hB
 obtain⟨⟨c1,d1,t1,sl1⟩,e,hc,n,hd⟩:=pl
 obtain⟨⟨c2,d2,t2,sl2⟩,e2,hc2,n2,hd2⟩:=pl2
 simp only at hc hd hc2 hd2
 subst hc hd hc2 hd2
 have hl:=r.length
 have hl2:=r2.length
 have ne1:its≠[]:=λz=>by rw[z] at hl;exact nx (List.length_eq_zero_iff.mp hl)
 have ne2:its2≠[]:=λz=>by rw[z] at hl2;exact nz (List.length_eq_zero_iff.mp hl2)
 have ea:its.toArray++its2.toArray=(its++its2).toArray:=by simp
 refine concat_meets ⟨_,e,rfl⟩ ⟨_,e2,rfl⟩ noFill_tuple_add seq_tuple_add PySem.F.slot_tuple_add PySem.F.entry_tuple_add (PySem.F.args_tuple_add_2 _ _) (tuple_addW2 l b its.toArray its2.toArray n n2 d1 d2 sl1 sl2 (by simpa using ne1) (by simpa using ne2) (by simp only[List.size_toArray];omega)) ⟨e,e2,?_⟩
 rw[ea]
 exact⟨.ref _,_,I.laid (o:=.tup (xs++zs)) (t':=s.toks) (λ_ _ q=>Heap.get?_push_of_some _ q) (Nat.le_refl _) ⟨by rw[List.length_append];omega,(its++its2),r.append r2,⟨_,Heap.get?_push_size _ rfl,rfl,_,rfl⟩⟩,rfl,q _ I.fresh⟩
def ĥ:PV->PV->Option RV
 | .int i,.int j=>some (.sh (.int (i+j)))
 | .str i,.str j=>if i.length+j.length<=16777216 then some (.sh (.str (i++j))) else none
 | .lst ps,.lst qs=>if ps.length+qs.length<=16777216 then some (.ow (ps++qs)) else none
 | .tup (p::ps),.tup (q::qs)=>if(p::ps).length+(q::qs).length<=16777216 then some (.sh (.tup ((p::ps)++(q::qs)))) else none
 |_,_=>none
def QW(K:PySem.W.Frag):R2:=λx y H Q=>ZcL x y H Q\/(QT K x y H Q\/QV K x y H Q)
def ZaF:ŭ X (binaryOp .Add) (QW X.K):=Zap.or (Pr.or Pu)
def ZaG:OpO K (QW K.K) ĥ:=by
 intro c F H σ ρ p q pv v u Q rel r1 r2 e k
 unfold ĥ at e
 split at e
 ·cases e
  cases r1.int
  cases r2.int
  exact .inl (k _ F H rel (Same.refl _) (Same.refl _) (Rep.int (K:=K) (F:=F)))
 ·split at e
  ·rename_i hz
   cases e
   cases r1.str
   cases r2.str
   exact .inl ⟨by rw[ľ];exact hz,k _ F H rel (Same.refl _) (Same.refl _) (Rep.str (K:=K) (F:=F))⟩
  ·cases e
 ·split at e
  ·rename_i hz
   cases e
   obtain⟨a,xs,rfl,h1,h2⟩:=r1.lst rel.sub
   obtain⟨b,ys,rfl,h3,h4⟩:=r2.lst rel.sub
   refine .inr (.inl ⟨a,b,xs,ys,rfl,rfl,h1,h3,by rw[<-h2.length,<-h4.length,ľ];exact hz,λd hd=>?_⟩)
   obtain⟨q1,q2⟩:=dH rel hd (ě.append h2 h4)
   exact k _ F _ q1 (Same.refl _) (Same.upd hd) q2
  ·cases e
 ·split at e
  ·rename_i hz
   cases e
   obtain⟨a,xs,rfl,h1,h2⟩:=r1.tup rel.sub
   obtain⟨b,ys,rfl,h3,h4⟩:=r2.tup rel.sub
   have l1:=h2.length
   have l2:=h4.length
   refine .inr (.inr ⟨a,b,xs,ys,rfl,rfl,h1,h3,(λz=>by rw[z] at l1;cases l1),(λz=>by rw[z] at l2;cases l2),by rw[<-l1,<-l2,ľ];exact hz,λl hl=>k _ _ _ (rel.alloc hl) (Same.upd (rel.sub.free hl)) (Same.upd hl) ?_⟩)
   show Rep K _ _ _
   unfold Rep
   exact⟨l,xs++ys,rfl,bO.of ģ,ě.same (Same.upd (rel.sub.free hl)) _ _ (ě.append h2 h4)⟩
  ·cases e
 ·cases e
def wX(g:Int->Int->Int):PV->PV->Option PV
 | .int i,.int j=>some (.int (g i j))
 |_,_=>none
def CN(C:Int->Int->Bool)(g:Int->Int->Int):PV->PV->Option PV
 | .int i,.int j=>if C i j=true then some (.int (g i j)) else none
 |_,_=>none
def opC(g:Int->Int->Bool):PV->PV->Option PV
 | .int i,.int j=>some (.bl (g i j))
 |_,_=>none
def QX{g:Int->Int->Int}:iM K (FQ λi j=>.int (g i j)) (wX g):=by
 intro c F H σ ρ p q pv v u Q rel r1 r2 e k
 unfold wX at e
 split at e
 ·cases e
  cases r1.int
  cases r2.int
  exact k _ F H rel (Same.refl _) (Same.refl _) Rep.int
 ·cases e
def ZaH{g:Int->Int->Bool}:iM K (FQ λi j=>.bl (g i j)) (opC g):=by
 intro c F H σ ρ p q pv v u Q rel r1 r2 e k
 unfold opC at e
 split at e
 ·cases e
  cases r1.int
  cases r2.int
  exact k _ F H rel (Same.refl _) (Same.refl _) Rep.bl
 ·cases e
def IW{C:Int->Int->Bool}{C':Int->Int->Prop}{g:Int->Int->Int}(hC:∀i j,C i j=true->C' i j):iM K (mI C' λi j=>.int (g i j)) (CN C g):=by
 intro c F H σ ρ p q pv v u Q rel r1 r2 e k
 unfold CN at e
 split at e
 ·split at e
  ·rename_i hc
   cases e
   cases r1.int
   cases r2.int
   exact⟨hC _ _ hc,k _ F H rel (Same.refl _) (Same.refl _) Rep.int⟩
  ·cases e
 ·cases e
def š:=wX λi j=>i-j
def ZaI:iM K (FQ λi j=>.int (i-j)) š:=QX
def gC(_ j:Int):Bool:=decide (j≠0) && decide (bits j<=8000)
def ō:=CN gC λi j=>i.fdiv j
def ZaJ:iM K (mI FT λi j=>.int (i.fdiv j)) ō:=IW λi j h=>by unfold gC at h;simpa[FT] using h
def xP(_ j:Int):Bool:=decide (j≠0)
def ĩ:=CN xP λi j=>i.fmod j
def ZaK:iM K (mI (λ_ j=>j≠0) λi j=>.int (i.fmod j)) ĩ:=IW λi j h=>by unfold xP at h;simpa using h
def xQ(i j:Int):Bool:=decide (0<=j) && decide (j.natAbs<=1000000) && decide (i.natAbs<18446744073709551616)
def iR:=CN xQ λi j=>i ^ j.toNat
def lM:iM K (mI Fw λi j=>.int (i ^ j.toNat)) iR:=IW λi j h=>by
 unfold xQ at h
 simp only[Bool.and_eq_true,decide_eq_true_eq] at h
 exact⟨h.1.1,by omega,by have:=h.2;simpa using this⟩
def gD(i j:Int):Bool:=decide (0<=j) && decide (j.natAbs<=1000000) && decide (i.natAbs<18446744073709551616)
def tX:=CN gD λi j=>i*2 ^ j.toNat
def uV:iM K (mI Fw λi j=>.int (i*2 ^ j.toNat)) tX:=IW λi j h=>by
 unfold gD at h
 simp only[Bool.and_eq_true,decide_eq_true_eq] at h
 exact⟨h.1.1,by omega,by have:=h.2;simpa using this⟩
def pL(_ j:Int):Bool:=decide (0<=j)
def iT:=CN pL λi j=>i / 2 ^ j.toNat
def uW:iM K (mI (λ_ j=>0<=j) λi j=>.int (i / 2 ^ j.toNat)) iT:=IW λi j h=>by unfold pL at h;simpa using h
def lN:=wX λi j=>Builtin.bitAnd i j
def Du:iM K (FQ λi j=>.int (Builtin.bitAnd i j)) lN:=QX
def uX:ŭ X (binaryOp .LShift) (mI Fw λi j=>.int (i*2 ^ j.toNat)):=ŭ.wk YM tE
def uY:ŭ X (binaryOp .RShift) (mI (λ_ j=>0<=j) λi j=>.int (i / 2 ^ j.toNat)):=ŭ.wk YQ tE
def Dv:ŭ X (binaryOp .BitAnd) (FQ λi j=>.int (Builtin.bitAnd i j)):=ŭ.wk YS pC
def nM:=opC λi j=>decide (i<j)
def jl:=opC λi j=>decide (i<=j)
def I_:=opC λi j=>decide (j<=i)
def iU:iM K (FQ λi j=>.bl (decide (i<j))) nM:=ZaH
def dI:iM K (FQ λi j=>.bl (decide (i<=j))) jl:=ZaH
def Zc5:iM K (FQ λi j=>.bl (decide (j<=i))) I_:=ZaH
def Ő(i j:Int):Bool:=decide (i.natAbs<18446744073709551616) || decide (j.natAbs<18446744073709551616) || (decide (bits i<=1048576) && decide (bits j<=1048576))
def Ja{i j:Int}(h:Ő i j=true):tH i j:=by
 unfold Ő at h
 simp only[Bool.or_eq_true,Bool.and_eq_true,decide_eq_true_eq] at h
 rcases h with(h|h)|h
 ·exact .inl (.inl ⟨by omega,by omega⟩)
 ·exact .inl (.inr ⟨by omega,by omega⟩)
 ·exact .inr h
def ĳ:PV->PV->Option PV
 | .int i,.int j=>if Ő i j=true then some (.int (i*j)) else none
 | .str z,.int n=>if 0<=n/\n<=1000/\z.length<=1000 then some (.str (S (List.replicate n.toNat z.cps.toList).flatten)) else none
 |_,_=>none
def ZaL:iM K Ii ĳ:=by
 intro c F H σ ρ p q pv v u Q rel r1 r2 e k
 unfold ĳ at e
 split at e
 ·split at e
  ·rename_i hc
   cases e
   cases r1.int
   cases r2.int
   exact⟨Ja hc,k _ F H rel (Same.refl _) (Same.refl _) Rep.int⟩
  ·cases e
 ·split at e
  ·rename_i hc
   cases e
   cases r1.str
   cases r2.int
   exact⟨hc,k _ F H rel (Same.refl _) (Same.refl _) Rep.str⟩
  ·cases e
 ·cases e
variable{E:L2.St->XK}{a b e:Expr}{es:List Expr}{pos:Pos}{ma mb:M PV}{mr:M (List PV)}
def gF:PV->Option PV
 | .int i=>some (.int (-i))
 |_=>none
def gG:UnV K (mU λi=>.int (-i)) gF:=by
 intro c F H σ ρ p pv v Q rel r1 e k
 unfold gF at e
 split at e
 ·cases e
  cases r1.int
  exact k _ F H rel (Same.refl _) (Same.refl _) Rep.int
 ·cases e
mutual
def eqB:PV->PV->Bool
 | .non,.non=>true
 | .bl a,.bl b=>a== b
 | .bl a,.int j=>(if a then 1 else 0)== j
 | .int i,.bl b=>i== (if b then 1 else 0)
 | .int i,.int j=>i== j
 | .str x,.str y=>x== y
 | .lst xs,.lst ys=>dJ xs ys
 | .tup xs,.tup ys=>dJ xs ys
 |_,_=>false
def dJ:List PV->List PV->Bool
 | [],[]=>true
 |x::xs,y::ys=>eqB x y && dJ xs ys
 |_,_=>false
end
mutual
def ź:PV->Bool
 | .non| .bl _| .int _=>true
 | .str x=>PyData.strOk x
 | .lst xs=>aB xs
 | .tup xs=>aB xs
 |_=>false
def aB:List PV->Bool
 | []=>true
 |x::xs=>ź x && aB xs
end
mutual
def dep:PV->Nat
 | .lst xs=>uZ xs+1
 | .tup xs=>uZ xs+1
 |_=>0
def uZ:List PV->Nat
 | []=>0
 |x::xs=>max (dep x) (uZ xs)
end
mutual
def toD:PV->PyData
 | .non=>.none
 | .bl b=>.bool b
 | .int i=>.int i
 | .str x=>.str x
 | .lst xs=>.list (bY xs)
 | .tup xs=>.tuple (bY xs)
 |_=>.none
def bY:List PV->List PyData
 | []=>[]
 |x::xs=>toD x::bY xs
end
mutual
theorem cI:∀p:PV,ź p=true->(toD p).canLay0=true
 | .non,_=>rfl
 | .bl _,_=>rfl
 | .int _,_=>rfl
 | .str x,h=>by unfold ź at h;unfold toD PyData.canLay0;exact h
 | .lst xs,h=>by unfold ź at h;unfold toD PyData.canLay0;exact dM xs h
 | .tup xs,h=>by unfold ź at h;unfold toD PyData.canLay0;exact dM xs h
 | .ins _ _ _,h=>by simp[ź] at h
 | .xc _ _ _,h=>by simp[ź] at h
 | .ty _,h=>by simp[ź] at h
 | .cls _,h=>by simp[ź] at h
theorem dM:∀ps:List PV,aB ps=true->PyData.canLayAll0 (bY ps)=true
 | [],_=>rfl
 |p::ps,h=>by
  unfold aB at h
  rw[Bool.and_eq_true] at h
  unfold bY PyData.canLayAll0
  rw[cI p h.1,dM ps h.2]
  rfl
end
mutual
theorem cJ:∀p:PV,(toD p).depth=dep p
 | .non=>rfl
 | .bl _=>rfl
 | .int _=>rfl
 | .str x=>rfl
 | .lst xs=>by unfold toD PyData.depth dep;rw[pN xs]
 | .tup xs=>by unfold toD PyData.depth dep;rw[pN xs]
 | .ins _ _ _=>rfl
 | .xc _ _ _=>rfl
 | .ty _=>rfl
 | .cls _=>rfl
theorem pN:∀ps:List PV,PyData.depthAll (bY ps)=uZ ps
 | []=>rfl
 |p::ps=>by unfold bY PyData.depthAll uZ;rw[cJ p,pN ps]
end
mutual
theorem pO:∀p q:PV,ź p=true->ź q=true->PyData.eqv (toD p) (toD q)=eqB p q
 | .lst xs,.lst ys,h1,h2=>by
   unfold ź at h1 h2
   unfold toD eqB PyData.eqv
   exact u_ xs ys h1 h2
 | .tup xs,.tup ys,h1,h2=>by
   unfold ź at h1 h2
   unfold toD eqB PyData.eqv
   exact u_ xs ys h1 h2
 | .ins _ _ _,_,h,_=>by simp[ź] at h
 | .xc _ _ _,_,h,_=>by simp[ź] at h
 | .ty _,_,h,_=>by simp[ź] at h
 | .cls _,_,h,_=>by simp[ź] at h
 | .non,q,_,h=>by cases q<;>first|rfl|(simp[ź] at h)|(simp[toD,eqB,PyData.eqv])
 | .bl _,q,_,h=>by cases q<;>first|rfl|(simp[ź] at h)|(simp[toD,eqB,PyData.eqv])
 | .int _,q,_,h=>by cases q<;>first|rfl|(simp[ź] at h)|(simp[toD,eqB,PyData.eqv])
 | .str _,q,_,h=>by cases q<;>first|rfl|(simp[ź] at h;done)|(simp[toD,eqB,PyData.eqv])
 | .lst _,.non,_,_=>by simp[toD,eqB,PyData.eqv]
 | .lst _,.bl _,_,_=>by simp[toD,eqB,PyData.eqv]
 | .lst _,.int _,_,_=>by simp[toD,eqB,PyData.eqv]
 | .lst _,.str _,_,_=>by simp[toD,eqB,PyData.eqv]
 | .lst _,.tup _,_,_=>by simp[toD,eqB,PyData.eqv]
 | .lst _,.ins _ _ _,_,h=>by simp[ź] at h
 | .lst _,.xc _ _ _,_,h=>by simp[ź] at h
 | .lst _,.ty _,_,h=>by simp[ź] at h
 | .lst _,.cls _,_,h=>by simp[ź] at h
 | .tup _,.non,_,_=>by simp[toD,eqB,PyData.eqv]
 | .tup _,.bl _,_,_=>by simp[toD,eqB,PyData.eqv]
 | .tup _,.int _,_,_=>by simp[toD,eqB,PyData.eqv]
 | .tup _,.str _,_,_=>by simp[toD,eqB,PyData.eqv]
 | .tup _,.lst _,_,_=>by simp[toD,eqB,PyData.eqv]
 | .tup _,.ins _ _ _,_,h=>by simp[ź] at h
 | .tup _,.xc _ _ _,_,h=>by simp[ź] at h
 | .tup _,.ty _,_,h=>by simp[ź] at h
 | .tup _,.cls _,_,h=>by simp[ź] at h
theorem u_:∀ps qs:List PV,aB ps=true->aB qs=true->PyData.eqvAll (bY ps) (bY qs)=dJ ps qs
 | [],[],_,_=>by simp[bY,dJ,PyData.eqvAll]
 | [],_::_,_,_=>by simp[bY,dJ,PyData.eqvAll]
 |_::_,[],_,_=>by simp[bY,dJ,PyData.eqvAll]
 |p::ps,q::qs,h1,h2=>by
  unfold aB at h1 h2
  rw[Bool.and_eq_true] at h1 h2
  unfold bY dJ PyData.eqvAll
  rw[pO p q h1.1 h2.1,u_ ps qs h1.2 h2.2]
end
mutual
theorem Jb{F:Hp}:∀(p:PV) (v:V),ź p=true->Rep K F p v->Rp K.K F (toD p) v
 | .non,_,_,r=>by unfold Rep at r;unfold toD Rp;exact r
 | .bl _,_,_,r=>by unfold Rep at r;unfold toD Rp;exact r
 | .int _,_,_,r=>by unfold Rep at r;unfold toD Rp;exact r
 | .str _,_,_,r=>by unfold Rep at r;unfold toD Rp;exact r
 | .lst xs,_,h,r=>by
   unfold ź at h
   unfold Rep at r
   unfold toD Rp
   obtain⟨a,vs,h1,h2,h3⟩:=r
   exact⟨a,vs,h1,h2,eX xs vs h h3⟩
 | .tup xs,_,h,r=>by
   unfold ź at h
   unfold Rep at r
   unfold toD Rp
   obtain⟨a,vs,h1,h2,h3⟩:=r
   exact⟨a,vs,h1,h2,eX xs vs h h3⟩
 | .ins _ _ _,_,h,_=>by simp[ź] at h
 | .xc _ _ _,_,h,_=>by simp[ź] at h
 | .ty _,_,h,_=>by simp[ź] at h
 | .cls _,_,h,_=>by simp[ź] at h
theorem eX{F:Hp}:∀(ps:List PV) (vs:List V),aB ps=true->ě K F ps vs->iJ K.K F (bY ps) vs
 | [],_,_,r=>by unfold ě at r;unfold bY iJ;exact r
 |p::ps,_,h,r=>by
  unfold aB at h
  rw[Bool.and_eq_true] at h
  unfold ě at r
  unfold bY iJ
  obtain⟨x,t,h1,h2,h3⟩:=r
  exact⟨x,t,h1,Jb p x h.1 h2,eX ps t h.2 h3⟩
end
def eY{c:Ctx}{F H:Hp}{σ:L2.St}{ρ:ń}{p:PV}{v:V}(s:Same F H)(h:ź p=true)(r:rR K c σ ρ F H p v):Rp K.K H (toD p) v:=by
 rcases r with r|r
 ·exact Rp.same s _ _ (Jb p v h r)
 ·cases p with
  |lst ps=>
   obtain⟨a,vs,rfl,h3,h4⟩:=r
   unfold ź at h
   unfold toD Rp
   exact⟨a,vs,rfl,ū.of h3,iJ.same s _ _ (eX ps vs h h4)⟩
  |ins C ns ps=>simp[ź] at h
  |_=>exact r.elim
def rZ(p q:PV):Bool:=ź p && ź q && decide (min (dep p) (dep q)<=60)
def Ş(p q:PV):Option PV:=if rZ p q=true then some (.bl (eqB p q)) else none
def aC(p q:PV):Option PV:=if rZ p q=true then some (.bl (!eqB p q)) else none
def QZ:iM K (Oo K.K false) Ş:=by
 intro c F H σ ρ p q pv v u Q rel r1 r2 e k
 unfold Ş at e
 split at e
 ·rename_i hz
  cases e
  unfold rZ at hz
  simp only[Bool.and_eq_true,decide_eq_true_eq] at hz
  refine⟨toD p,toD q,eY rel.sub hz.1.1 r1,eY rel.sub hz.1.2 r2,cI p hz.1.1,cI q hz.1.2,by rw[cJ,cJ];exact hz.2,?_⟩
  rw[pO p q hz.1.1 hz.1.2]
  exact k _ F H rel (Same.refl _) (Same.refl _) Rep.bl
 ·cases e
def xR:iM K (Oo K.K true) aC:=by
 intro c F H σ ρ p q pv v u Q rel r1 r2 e k
 unfold aC at e
 split at e
 ·rename_i hz
  cases e
  unfold rZ at hz
  simp only[Bool.and_eq_true,decide_eq_true_eq] at hz
  refine⟨toD p,toD q,eY rel.sub hz.1.1 r1,eY rel.sub hz.1.2 r2,cI p hz.1.1,cI q hz.1.2,by rw[cJ,cJ];exact hz.2,?_⟩
  rw[pO p q hz.1.1 hz.1.2]
  exact k _ F H rel (Same.refl _) (Same.refl _) Rep.bl
 ·cases e
def vd:PV->Bool
 | .non=>true
 |_=>false
def su(p q:PV):Option PV:=match q with
 | .non=>some (.bl (vd p))
 |_=>none
def oO(p q:PV):Option PV:=match q with
 | .non=>some (.bl (!vd p))
 |_=>none
def Dw{c:Ctx}{F H:Hp}{σ:L2.St}{ρ:ń}{p:PV}{v:V}(r:rR K c σ ρ F H p v):decide (v=.non)=vd p:=by
 rcases r with r|r
 ·cases p<;>unfold Rep at r<;>first
   |(subst r;rfl)
   |(obtain⟨a,xs,rfl,_⟩:=r;rfl)
   |(obtain⟨a,xs,ys,rfl,_⟩:=r;rfl)
 ·cases p with
  |lst ps=>obtain⟨a,vs,rfl,_⟩:=r;rfl
  |ins C ns ps=>obtain⟨a,dx,fs,rfl,_⟩:=r;rfl
  |_=>exact r.elim
def tY:iM K (λx y H Q=>y=.non/\Q (.bl (decide (x=.non))) H) su:=by
 intro c F H σ ρ p q pv v u Q rel r1 r2 e k
 unfold su at e
 split at e
 ·cases e
  refine⟨r2.non,?_⟩
  rw[Dw r1]
  exact k _ F H rel (Same.refl _) (Same.refl _) Rep.bl
 ·cases e
def Jc:iM K (λx y H Q=>y=.non/\Q (.bl (!decide (x=.non))) H) oO:=by
 intro c F H σ ρ p q pv v u Q rel r1 r2 e k
 unfold oO at e
 split at e
 ·cases e
  refine⟨r2.non,?_⟩
  rw[Dw r1]
  exact k _ F H rel (Same.refl _) (Same.refl _) Rep.bl
 ·cases e
def ē:PV->PV->Option PV
 | .lst ps,.int i=>rT ps i
 | .tup ps,.int i=>rT ps i
 | .str z,.int i=>if z.length<=16777216 then(rT z.cps.toList i).map λc=>.str ⟨#[c]⟩ else none
 |_,_=>none
def Dz{F:Hp}{ps:List PV}{vs:List V}{i:Int}{p:PV}(r:ě K F ps vs)(h:rT ps i=some p):∃v,rT vs i=some v/\Rep K F p v:=by
 unfold rT at h ⊢
 rw[r.length] at h
 cases e:Ac vs.length i with
 |none=>rw[e] at h;cases h
 |some j=>
  rw[e] at h
  obtain⟨v,h1,h2⟩:=aR r.pr h
  exact⟨v,h1,h2⟩
def Zc6:iM K (mIx K.K) ē:=by
 intro c F H σ ρ p q pv v u Q rel r1 r2 e k
 unfold ē at e
 split at e
 ·obtain⟨a,vs,rfl,h1,h2⟩:=r1.lst rel.sub
  cases r2.int
  obtain⟨x,h3,h4⟩:=Dz h2 e
  exact⟨vs,x,.inl h1,h3,k _ F H rel (Same.refl _) (Same.refl _) h4⟩
 ·obtain⟨a,vs,rfl,h1,h2⟩:=r1.tup rel.sub
  cases r2.int
  obtain⟨x,h3,h4⟩:=Dz h2 e
  exact⟨vs,x,.inr h1,h3,k _ F H rel (Same.refl _) (Same.refl _) h4⟩
 ·split at e
  ·rename_i z i hz
   cases r1.str
   cases r2.int
   cases ea:rT z.cps.toList i with
   |none=>rw[ea] at e;cases e
   |some cc=>
    rw[ea] at e
    cases e
    exact⟨cc,by rw[ľ];exact hz,ea,k _ F H rel (Same.refl _) (Same.refl _) Rep.str⟩
  ·cases e
 ·cases e
def xT:M (Option Int):=λρ=>.ok none ρ
def mP(m:M PV):M (Option Int):=λρ=>(m ρ).bind λp ρ1=>match p with
 | .int i=>.ok (some i) ρ1
 |_=>.bad
abbrev tP(K:KK)(E:L2.St->XK)(m:M (Option Int)):TO:=tG K E rI m
def lO:PO X none (tP (kk X cm) E xT):=λpins s σ H Q I h=>Oe pins s σ H Q I (by
 obtain⟨c,F,ρ,rel,h⟩:=h
 exact h none F H rel (Same.refl _) (Same.refl _) rfl)
def bH(ha:PE X e (tV (kk X cm) E ma)):PO X (some e) (tP (kk X cm) E (mP ma)):=λpins s σ H Q I h=>HW ha pins s σ H Q I (by
 obtain⟨c,F,ρ,rel,h⟩:=h
 refine⟨c,F,ρ,rel,h.bind λp ρ1 v F1 H1 Ė _ _ r1 h1=>?_⟩
 cases p with
 |int i=>
  have e:v=.int i:=by have r1':Rep (kk X cm) F1 (.int i) v:=r1;unfold Rep at r1';exact r1'
  subst e
  exact h1 (some i) F1 H1 Ė (Same.refl _) (Same.refl _) rfl
 |_=>exact h1.elim)
def eZ{α:Type}(xs:List α)(lo hi:Option Int):List α:= (xs.drop (HT.Ż xs.length 0 lo)).take (HT.Ż xs.length xs.length hi-HT.Ż xs.length 0 lo)
def Gf(p:PV)(lo hi:Option Int):Option RV:=match p with
 | .lst ps=>some (.ow (eZ ps lo hi))
 | .str z=>if z.length<=16777216 then some (.sh (.str (S (eZ z.cps.toList lo hi)))) else none
 |_=>none
def Q_(ma:M PV)(ml mh:M (Option Int)):M RV:=λρ=>(ma ρ).bind λp ρ1=>(ml ρ1).bind λlo ρ2=>(mh ρ2).bind λhi ρ3=>Res.kO (Gf p lo hi) ρ3
def iy{ml mh:M (Option Int)}{lo hi:Option Expr}{p2:Pos}(ha:PE X a (tR (kk X cm) E ma))(hl:PO X lo (tP (kk X cm) E ml))(hh:PO X hi (tP (kk X cm) E mh)):PE X (.Subscript a (.Slice lo hi none p2) pos) (tO (kk X cm) E (Q_ ma ml mh)):=
 PE.wk (wZ slm ha hl hh) fun σ H Q ⟨c,F,ρ,rel,h⟩=>⟨c,F,ρ,rel,h.bind fun p ρ1 v F1 H1 Ė _ _ r1 h1=>⟨c,F1,ρ1,Ė,h1.bind fun lo ρ2 lo' F2 H2 Ĵ sF sH r2 h2=>⟨c,F2,ρ2,Ĵ,h2.bind fun hi ρ3 hi' F3 H3 cB sF3 sH3 r3 h3=>by
   have e2:lo=lo':=r2
   have e3:hi=hi':=r3
   subst e2 e3
   have r1':rR (kk X cm) c σ ρ3 F3 H3 p v:=r1.mono (sF.trans sF3) (sH.trans sH3)
   cases p with
   |lst ps=>
    obtain⟨a,vs,rfl,q1,q2⟩:=r1'.lst cB.sub
    refine⟨vs,q1,λd hd=>?_⟩
    have e:ě (kk X cm) F3 (eZ ps lo hi) (ji vs lo hi):=by
     unfold eZ ji
     rw[q2.length]
     exact ě.of (oK _ (oM _ q2.pr))
    obtain⟨z1,z2⟩:=dH cB hd e
    exact h3 _ F3 _ z1 (Same.refl _) (Same.upd hd) z2
   |str z=>
    cases r1'.str
    unfold Gf at h3
    dsimp only at h3
    split at h3
    ·rename_i hz
     exact⟨by rw[ľ];exact hz,h3 _ F3 H3 cB (Same.refl _) (Same.refl _) (Rep.str (K:=kk X cm) (F:=F3))⟩
    ·exact h3.elim
   |_=>exact h3.elim⟩⟩⟩
def xU{c:Ctx}{F H:Hp}{σ:L2.St}{ρ:ń}{p:PV}{vs:List V}(h:rRL K c σ ρ F H [p] vs):∃v,vs=[v]/\rR K c σ ρ F H p v:=by
 cases h with
 |cons r t=>cases t;exact⟨_,rfl,r⟩
def rl2{c:Ctx}{F H:Hp}{σ:L2.St}{ρ:ń}{p q:PV}{vs:List V}(h:rRL K c σ ρ F H [p,q] vs):∃v u,vs=[v,u]/\rR K c σ ρ F H p v/\rR K c σ ρ F H q u:=by
 cases h with
 |cons r t=>
  cases t with
  |cons r' t=>cases t;exact⟨_,_,rfl,r,r'⟩
def ų:List PV->Option PV
 | [.lst ps]=>some (.int ps.length)
 | [.tup ps]=>some (.int ps.length)
 | [.str z]=>if z.length<=16777216 then some (.int z.length) else none
 |_=>none
def Ň:cH K (Zau K.K) ų:=by
 intro c F H σ ρ ps pv vs Q rel r e k
 unfold ų at e
 split at e
 ·cases e
  obtain⟨v,rfl,r1⟩:=xU r
  obtain⟨a,xs,rfl,h1,h2⟩:=r1.lst rel.sub
  refine⟨xs,.inl h1,?_⟩
  rw[<-h2.length]
  exact k _ F H rel (Same.refl _) (Same.refl _) Rep.int
 ·cases e
  obtain⟨v,rfl,r1⟩:=xU r
  obtain⟨a,xs,rfl,h1,h2⟩:=r1.tup rel.sub
  refine⟨xs,.inr h1,?_⟩
  rw[<-h2.length]
  exact k _ F H rel (Same.refl _) (Same.refl _) Rep.int
 ·split at e
  ·rename_i hz
   cases e
   obtain⟨v,rfl,r1⟩:=xU r
   cases r1.str
   exact⟨by rw[ľ];exact hz,k _ F H rel (Same.refl _) (Same.refl _) Rep.int⟩
  ·cases e
 ·cases e
def Px:List PV->Option PV
 | [.int i]=>some (.int (if i<0 then -i else i))
 |_=>none
def ZaM:cH K mAbs Px:=by
 intro c F H σ ρ ps pv vs Q rel r e k
 unfold Px at e
 split at e
 ·cases e
  obtain⟨v,rfl,r1⟩:=xU r
  cases r1.int
  exact k _ F H rel (Same.refl _) (Same.refl _) Rep.int
 ·cases e
def aK:List PV->Option RV
 | [.lst ps]=>some (.ow ps)
 | [.tup ps]=>some (.ow ps)
 |_=>none
def DG(K:PySem.W.Frag):List V->Hp->VK->Prop:=λxs H Q=>∃p ys,xs=[.ref p]/\(ū K H p ys\/bO K H p ys)/\∀l,H l=none->Q (.ref l) (upd H l (.lst ys))
def bf:ř X (.type "list") (DG X.K):=uP
def bh:Iv K (DG K.K) aK:=by
 intro c F H σ ρ ps pv vs Q rel r e k
 unfold aK at e
 split at e
 ·cases e
  obtain⟨v,rfl,r1⟩:=xU r
  obtain⟨a,xs,rfl,h1,h2⟩:=r1.lst rel.sub
  refine⟨a,xs,rfl,.inl h1,λl hl=>?_⟩
  obtain⟨q1,q2⟩:=dH rel hl h2
  exact k _ F _ q1 (Same.refl _) (Same.upd hl) q2
 ·cases e
  obtain⟨v,rfl,r1⟩:=xU r
  obtain⟨a,xs,rfl,h1,h2⟩:=r1.tup rel.sub
  refine⟨a,xs,rfl,.inr h1,λl hl=>?_⟩
  obtain⟨q1,q2⟩:=dH rel hl h2
  exact k _ F _ q1 (Same.refl _) (Same.upd hl) q2
 ·cases e
def sy:PV->String->Option Bool
 | .int _,"int" =>some true
 | .int _,"bool" =>some false
 | .int _,"str" =>some false
 | .int _,"tuple" =>some false
 | .int _,"list" =>some false
 | .bl _,"int" =>some true
 | .bl _,"bool" =>some true
 | .lst _,"list" =>some true
 | .lst _,"tuple" =>some false
 | .lst _,"int" =>some false
 | .lst _,"str" =>some false
 | .tup _,"tuple" =>some true
 | .tup _,"list" =>some false
 | .tup _,"int" =>some false
 | .tup _,"str" =>some false
 | .str _,"str" =>some true
 | .str _,"int" =>some false
 | .str _,"list" =>some false
 | .str _,"tuple" =>some false
 | .non,"int" =>some false
 | .non,"str" =>some false
 | .non,"tuple" =>some false
 | .non,"list" =>some false
 |_,_=>none
end
theorem xV{K:KK}{F:Hp}:∀ns:List Int,ě K F (ns.map .int) (ns.map V.int)
 | []=>ě.nil
 |n::ns=>ě.cons Rep.int (xV ns)
def Zc7(K:PySem.W.Frag):Sp:=λvs H Q _=>∃(sa:Addr) (ns:List Int),vs=[.ref sa]/\ū K H sa (ns.map V.int)/\ns.length<=63/\∀v H',v=.bl true->Q v H'
def Jd{l:PySem.W.OpenLaw}{k:Nat}{x:Str}{CX:lB}{m:MF}{q:Program}{loose:List Str}{XP:(Str->Option Value)->Heap->Prop}{YP:World->Heap->Prop}{d:DefRec}{K:Params->PySem.W.Frag}(hn:l.most=some 63)(hdf:d.params.defaults=[])(hr:Ś k callerA)
 (hY:∀(w:World) (h:Heap),YP w h->(K w.params).In h)
 (F:∀(w:World) (mg:Str→Option Value) (fa:Addr) (h:Heap),(K w.params).In h→h.Ns mainGlobals mg→mg d.name=some (.ref fa)→
   ∃fd:FuncData,(∀(s:Shared) (u:Value),BindsTo s fd ⟨[u],[]⟩ [(x,u)])/\∀base:Heap,(K w.params).In base->base.Ns mainGlobals mg->∃cm,Ġ l.prog w (K w.params) mg base CX k fa fd [x] (Ŕ ⟨K w.params,cm⟩ 1 m))
 (ht:∀ns:List Int,ns.length<=63->m [.sh (.lst (ns.map .int))]=.ret (.sh (.bl true)))
 (hCX:∀(H:Hp) (s:Shared) (e:Value) (s':Shared),CX [] H s (λ_ _ _=>False) e s'->False)
 (hnt:lams≠[]->∀w:World,PySem.W.noTabs (K w.params)=true:=by intro z;exact absurd rfl z)(hone:∀y z,y∈lams->z∈lams->y=z:=by simp[lams])(hrec:∀y,y∈lams->∃d,(recsOf q).find? (λe=>e.name== y)=some d:=by simp[lams]) :
 PySem.W.WalkO q loose XP YP l.row.toRowW d [] (λf vs=>PySem.call f vs):=by
 refine L2.Oj (n:=63) (k:=k) (x:=x) (CX:=λ_=>CX) (sp:=λw=>Zc7 (K w.params)) hn (by decide) hdf hr hY (λw mg fa h h1 h2 h3=>?_) (λw H a ns hl _ hS=>⟨a,ns,rfl,hS,hl,λ_ _ z=>z⟩) (λw H s e s' z=>hCX H s e s' z) hnt hone hrec
 obtain⟨fd,hb,hF⟩:=F w mg fa h h1 h2 h3
 refine⟨fd,hb,λbase k1 k2=>?_⟩
 obtain⟨cm,G⟩:=hF base k1 k2
 refine G.imp λvs H Q E hs=>?_
 obtain⟨sa,ns,rfl,hS,hl,hq⟩:=hs
 refine⟨H,[.sh (.lst (ns.map .int))],rfl,Same.refl _,.cons ?_ .nil,?_⟩
 ·show Rep _ _ _ _
  unfold Rep
  exact⟨sa,_,rfl,hS,xV ns⟩
 ·rw[ht ns hl]
  intro v F' H' g rf
  have e:v=.bl true:=uT (K:=⟨K w.params,cm⟩) (F:=F') rf
  exact hq v H' e
end P
namespace P
open PySem PySem.Spec PyProof.Rows L2 M2 M3 M4
section
variable{X:Cx}{cm:String->Addr}{K:KK}
def TyP(K:PySem.W.Frag)(H:Hp)(x:V)(t:Value):Prop:=match x with
 | .non=>t=.type "NoneType"
 | .bl _=>t=.type "bool"
 | .int _=>t=.type "int"
 | .str _=>t=.type "str"
 | .ref a=>(t=.type "list" /\∃xs,ū K H a xs)\/(t=.type "tuple" /\∃xs,bO K H a xs)\/lA K H (.ref a) t
 |_=>False
def Je(K:PySem.W.Frag):List V->Hp->VK->Prop:=λxs H Q=>match xs with
 | [x,.ty n]=>∃t b,TyP K H x t/\PySem.W.kitOne K t (.type n)=some b/\Q (.bl b) H
 | [x,.ref C]=>∃t b,TyP K H x t/\PySem.W.kitOne K t (.ref C)=some b/\Q (.bl b) H
 |_=>False
def DK{pins:List (Addr×Obj)}{σ:L2.St}{H:Hp}{s:Shared}{A:Around}{E:Value->Shared->Prop}{Q:Value->Shared->Prop}{c:Value}{b:Bool}{x:V}{u t:Value}(I:Inv X pins σ H s)(rx:RelV x u)(ty:TyP X.K H x t)(e:PySem.W.kitOne X.K t c=some b)(h:∀tk,Q (.bool b) {s with toks:=tk}) :
 wpAny (model X.prog X.w) A (call (.builtin "isinstance") [u,c]) Q E s:=by
 cases x with
 |non=>cases(show t=_ from ty);exact dh I rx .non e h
 |bl y=>cases(show t=_ from ty);exact dh I rx (.bl y) e h
 |int y=>cases(show t=_ from ty);exact dh I rx (.int y) e h
 |str y=>cases(show t=_ from ty);exact dh I rx (.str y) e h
 |ref a=>
  cases(show u=Value.ref a from rx)
  rcases ty with⟨rfl,xs,hS⟩|⟨rfl,xs,hS⟩|ty
  ·obtain⟨its,r,⟨o,n,h1,h2,_⟩,_⟩:=I.list hS
   exact PySem.W.kia_one PySem.W.kitx_list I.kJ ⟨o,h1,h2⟩ e (λz=>nomatch z) h
  ·obtain⟨its,r,⟨o,h1,h2,_⟩,_⟩:=I.tuple hS
   exact PySem.W.kia_one PySem.W.kitx_tuple I.kJ ⟨o,h1,h2⟩ e (λz=>nomatch z) h
  ·exact dh I rx ty e h
 |_=>exact ty.elim
def vf:ř X (.builtin "isinstance") (Je X.K):=by
 intro pins s σ H xs us Q I r h
 unfold Je at h
 split at h
 ·obtain⟨t,b,h1,h2,h3⟩:=h
  obtain⟨u,w',rfl,r1,r2⟩:=vals2 r
  cases r2
  exact DK I r1 h1 h2 λtk=>⟨.bl b,H,I.tok _,rfl,h3⟩
 ·obtain⟨t,b,h1,h2,h3⟩:=h
  obtain⟨u,w',rfl,r1,r2⟩:=vals2 r
  cases r2
  exact DK I r1 h1 h2 λtk=>⟨.bl b,H,I.tok _,rfl,h3⟩
 ·exact h.elim
def tyN:PV->String
 | .non=> "NoneType"
 | .bl _=> "bool"
 | .int _=> "int"
 | .str _=> "str"
 | .lst _=> "list"
 | .tup _=> "tuple"
 |_=> ""
def Jf{F:PySem.W.Frag}{p:PV}{n:String}{b:Bool}(h:sy p n=some b):PySem.W.kitOne F (.type (tyN p)) (.type n)=some b:=by
 unfold sy at h
 split at h<;>first
  |(cases h;first|rfl|decide +kernel|kernel_rfl)
  |cases h
def Py{c:Ctx}{F H:Hp}{σ:L2.St}{ρ:ń}{p:PV}{v:V}(s:Same F H)(r:rR K c σ ρ F H p v)(h:∃n b,sy p n=some b):TyP K.K H v (.type (tyN p)):=by
 obtain⟨n,b,h⟩:=h
 cases p with
 |non=>cases r.non;rfl
 |bl _=>cases r.bl;rfl
 |int _=>cases r.int;rfl
 |str _=>cases r.str;rfl
 |lst ps=>
  obtain⟨a,vs,rfl,h1,h2⟩:=r.lst s
  exact .inl ⟨rfl,vs,h1⟩
 |tup ps=>
  obtain⟨a,vs,rfl,h1,h2⟩:=r.tup s
  exact .inr (.inl ⟨rfl,vs,h1⟩)
 |ins _ _ _=>simp[sy] at h
 |xc _ _ _=>simp[sy] at h
 |ty _=>simp[sy] at h
 |cls _=>simp[sy] at h
def lQ:List PV->Option PV
 | [p,.ty n]=>(sy p n).map .bl
 |_=>none
def vg:cH K (Je K.K) lQ:=by
 intro c F H σ ρ ps pv vs Q rel r e k
 unfold lQ at e
 split at e
 ·rename_i p n
  obtain⟨v,u,rfl,r1,r2⟩:=rl2 r
  cases r2.ty
  cases eb:sy p n with
  |none=>rw[eb] at e;cases e
  |some b=>
   rw[eb] at e
   cases e
   exact⟨_,b,Py rel.sub r1 ⟨n,b,eb⟩,Jf eb,k _ F H rel (Same.refl _) (Same.refl _) Rep.bl⟩
 ·cases e
def pP:List PV->Option PV
 | [.lst ps]=>some (.tup ps)
 | [.tup ps]=>some (.tup ps)
 |_=>none
def Jg(K:PySem.W.Frag):List V->Hp->VK->Prop:=λxs H Q=>∃p ys,xs=[.ref p]/\((ū K H p ys/\∀l,H l=none->Q (.ref l) (upd H l (.tup ys)))\/(bO K H p ys/\Q (.ref p) H))
def Jh:ř X (.type "tuple") (Jg X.K):=rY
def Ji:cH K (Jg K.K) pP:=by
 intro c F H σ ρ ps pv vs Q rel r e k
 unfold pP at e
 split at e
 ·cases e
  obtain⟨v,rfl,r1⟩:=xU r
  obtain⟨a,xs,rfl,h1,h2⟩:=r1.lst rel.sub
  refine⟨a,xs,rfl,.inl ⟨h1,λl hl=>k _ _ _ (rel.alloc hl) (Same.upd (rel.sub.free hl)) (Same.upd hl) ?_⟩⟩
  unfold Rep
  exact⟨l,xs,rfl,bO.of ģ,ě.same (Same.upd (rel.sub.free hl)) _ _ h2⟩
 ·cases e
  obtain⟨v,rfl,r1⟩:=xU r
  have r1':=r1
  obtain⟨a,xs,rfl,h1,h2⟩:=r1.tup rel.sub
  refine⟨a,xs,rfl,.inr ⟨h1,k _ F H rel (Same.refl _) (Same.refl _) ?_⟩⟩
  rcases r1' with q|q
  ·exact q
  ·exact q.elim
 ·cases e
def boolsOf:List PV->Option (List Bool)
 | []=>some []
 | .bl b::ps=>(boolsOf ps).map (b:: ·)
 |_::_=>none
theorem lR{F:Hp}:∀{ps:List PV} {vs:List V} {bs:List Bool},ě K F ps vs->boolsOf ps=some bs->vs=bs.map V.bl
 | [],vs,bs,r,h=>by
   cases h
   have r':=r.pr
   cases r'
   rfl
 |p::ps,vs,bs,r,h=>by
  cases p with
  |bl b=>
   unfold boolsOf at h
   cases eb:boolsOf ps with
   |none=>rw[eb] at h;cases h
   |some cs=>
    rw[eb] at h
    cases h
    have r':=r.pr
    cases r' with
    |cons r1 t=>
     rw[uT r1,lR (ě.of t) eb]
     rfl
  |_=>simp[boolsOf] at h
def pQ:List PV->Option PV
 | [.lst ps]=>(boolsOf ps).map λbs=>.bl (bs.all id)
 |_=>none
def xW:List PV->Option PV
 | [.lst ps]=>(boolsOf ps).map λbs=>.bl (bs.any id)
 |_=>none
def pR:cH K (Zax K.K) pQ:=by
 intro c F H σ ρ ps pv vs Q rel r e k
 unfold pQ at e
 split at e
 ·rename_i ps
  obtain⟨v,rfl,r1⟩:=xU r
  obtain⟨a,xs,rfl,h1,h2⟩:=r1.lst rel.sub
  cases eb:boolsOf ps with
  |none=>rw[eb] at e;cases e
  |some bs=>
   rw[eb] at e
   cases e
   refine⟨bs,by rw[<-lR h2 eb];exact h1,k _ F H rel (Same.refl _) (Same.refl _) Rep.bl⟩
 ·cases e
def Ay:cH K (Zay K.K) xW:=by
 intro c F H σ ρ ps pv vs Q rel r e k
 unfold xW at e
 split at e
 ·rename_i ps
  obtain⟨v,rfl,r1⟩:=xU r
  obtain⟨a,xs,rfl,h1,h2⟩:=r1.lst rel.sub
  cases eb:boolsOf ps with
  |none=>rw[eb] at e;cases e
  |some bs=>
   rw[eb] at e
   cases e
   refine⟨bs,by rw[<-lR h2 eb];exact h1,k _ F H rel (Same.refl _) (Same.refl _) Rep.bl⟩
 ·cases e
def DN(_ j:Int):Bool:=decide (0<j) && decide (j.natAbs<1073741824)
def jJ:List PV->Option PV
 | [.int i,.int j]=>if DN i j=true then some (.tup [.int (i / j),.int (i % j)]) else none
 |_=>none
def DP:List V->Hp->VK->Prop:=λxs H Q=>∃i j,xs=[.int i,.int j]/\Zcx i j/\∀p,H p=none->Q (.ref p) (upd H p (.tup [.int (i / j),.int (i % j)]))
def Gg:ř X (.builtin "divmod") DP:=wY
def Gh:cH K DP jJ:=by
 intro c F H σ ρ ps pv vs Q rel r e k
 unfold jJ at e
 split at e
 ·split at e
  ·rename_i i j hd
   cases e
   obtain⟨v,u,rfl,r1,r2⟩:=rl2 r
   cases r1.int
   cases r2.int
   unfold DN at hd
   simp only[Bool.and_eq_true,decide_eq_true_eq] at hd
   refine⟨i,j,rfl,⟨hd.1,by omega⟩,λl hl=>k _ _ _ (rel.alloc hl) (Same.upd (rel.sub.free hl)) (Same.upd hl) ?_⟩
   unfold Rep
   exact⟨l,_,rfl,bO.of ģ,ě.cons Rep.int (ě.cons Rep.int ě.nil)⟩
  ·cases e
 ·cases e
end
end P
namespace P
open PySem PySem.Spec PyProof.Rows L2 M2 M3 M4
section
variable{α β:Type}{ρ:ń}{i j n k:Nat}{p q:PV}{ps:List PV}{m ma mb mc:M PV}{mo:M RV}{a b:M Fl}{ta tb:M Bool}{mr:M (List PV)}{f:PV->PV->Option PV}{fo:PV->PV->Option RV}{fl:List PV->Option PV}{flo:List PV->Option RV}{g:Tg}{gs:GP}
@[simp] theorem Zgt:cY ρ=.ok .nx ρ:= rfl
@[simp] theorem Zfn:(Am:M α) ρ=.bad:=rfl
@[simp] theorem Zfo:Ě a b ρ=(a ρ).bind λf ρ1=>match f with| .nx=>b ρ1|f=>.ok f ρ1:=rfl
@[simp] theorem Zfp:Ĩ i mo ρ=(mo ρ).bind λr ρ1=>.ok .nx (ρ1.set i r.slot):=rfl
@[simp] theorem Zfq:ġ mo ρ=(mo ρ).bind λr ρ1=>.ok (.rt r) ρ1:=rfl
@[simp] theorem Zec:xK m ρ=(m ρ).bind λ_ ρ1=>.ok .nx ρ1:=rfl
@[simp] theorem ZgG:mC p ρ=.ok p ρ:= rfl
@[simp] theorem Zgu:Ŋ m ρ=(m ρ).bind λp ρ1=>.ok (.sh p) ρ1:=rfl
@[simp] theorem Zfr:Ď mo ρ=(mo ρ).bind λr ρ1=>.ok r.val ρ1:=rfl
@[simp] theorem Zfs:(RV.sh p).val=p:=rfl
@[simp] theorem Zft:(RV.ow ps).val=.lst ps:=rfl
@[simp] theorem Zfu:(RV.sh p).slot=.sh p:=rfl
@[simp] theorem Zfv:(RV.ow ps).slot=.ow ps:=rfl
@[simp] theorem Zfw:Ą f ma mb ρ=(ma ρ).bind λp ρ1=>(mb ρ1).bind λq ρ2=>Res.kO (f p q) ρ2:=rfl
@[simp] theorem Zed:ħ fo ma mb ρ=(ma ρ).bind λp ρ1=>(mb ρ1).bind λq ρ2=>Res.kO (fo p q) ρ2:=rfl
@[simp] theorem Zgv{u:PV->Option PV}:kW u ma ρ=(ma ρ).bind λp ρ1=>Res.kO (u p) ρ1:=rfl
@[simp] theorem Zfx:aA m ρ=(m ρ).bind λp ρ1=>Res.kO (tru p) ρ1:=rfl
@[simp] theorem Zgw:cu m ρ=(m ρ).bind λp ρ1=>match p with| .bl b=>.ok b ρ1|_=>.bad:=rfl
@[simp] theorem Zee:ao ta ρ=(ta ρ).bind λb ρ1=>.ok (!b) ρ1:=rfl
@[simp] theorem Zef:jF ta tb ρ=(ta ρ).bind λb ρ1=>if b=true then tb ρ1 else .ok false ρ1:=rfl
@[simp] theorem Zfy:nH ta tb ρ=(ta ρ).bind λb ρ1=>if b=true then .ok true ρ1 else tb ρ1:=rfl
@[simp] theorem Zfz:eU ma mb ρ=(ma ρ).bind fun p ρ1=>match p with| .bl b=>if b=true then mb ρ1 else .ok (.bl false) ρ1|_=>.bad:=by
  unfold eU
  congr
  funext p ρ1
  cases p with
  |bl b=>cases b<;>rfl
  |_=>rfl
@[simp] theorem ZfA:Ge ma ρ=(ma ρ).bind λp ρ1=>match p with| .bl b=>.ok (.bl (!b)) ρ1|_=>.bad:=rfl
@[simp] theorem Zgx{x y:M α}:cG ta x y ρ=(ta ρ).bind λb ρ1=>if b=true then x ρ1 else y ρ1:=rfl
@[simp] theorem ZfB{f g:PV→PV→Option PV}:lJ f g ma mb mc ρ=(ma ρ).bind fun p ρ1=>(mb ρ1).bind fun q ρ2=>(Res.kO (f p q) ρ2).bind fun z ρ3=>match z with
  | .bl true=>(mc ρ3).bind λw ρ4=>Res.kO (g q w) ρ4
  | .bl false=>.ok (.bl false) ρ3
  |_=>.bad:=rfl
@[simp] theorem ZfC:Đ ρ=.ok [] ρ:= rfl
@[simp] theorem Zeg:ă ma mr ρ=(ma ρ).bind λp ρ1=>(mr ρ1).bind λps ρ2=>.ok (p::ps) ρ2:=rfl
@[simp] theorem ZfD:ŀ mr ρ=(mr ρ).bind λps ρ1=>if ps.length<=16777216 then .ok (.tup ps) ρ1 else .bad:=rfl
@[simp] theorem ZfE:aJ mr ρ=(mr ρ).bind λps ρ1=>if ps.length<=16777216 then .ok (.ow ps) ρ1 else .bad:=rfl
@[simp] theorem Zgy:aF fl mr ρ=(mr ρ).bind λps ρ1=>Res.kO (fl ps) ρ1:=rfl
@[simp] theorem ZfF:fW flo mr ρ=(mr ρ).bind λps ρ1=>Res.kO (flo ps) ρ1:=rfl
@[simp] theorem Zeh{mf:MF}{ms:M (List Slot)}:ď mf ms ρ=(ms ρ).bind λps ρ1=>match mf ps with| .ret r=>.ok r ρ1| .exc x=>.exc x ρ1| .bad=>.bad:=rfl
@[simp] theorem Zgz:ĕ i ρ=(match ρ[i]? with|some (.sh p)=>.ok p ρ|some (.ow ps)=>.ok (.lst ps) (ρ.set i (.sh (.lst ps)))|_=>.bad):=rfl
@[simp] theorem ZgA:Ā i ρ=(match ρ[i]? with|some (.sh p)=>.ok p ρ|some (.ow ps)=>.ok (.lst ps) ρ|some (.bw ps)=>.ok (.lst ps) ρ|some (.rc C ns ps)=>.ok (.ins C ns ps) ρ|_=>.bad):=rfl
@[simp] theorem ZgB:bB i ρ=(match ρ[i]? with|some (.sh p)=>.ok (.sh p) ρ|some (.ow ps)=>.ok (.ow ps) (ρ.set i .no)|_=>.bad):=rfl
@[simp] theorem ZfG:Ao g m ρ=(m ρ).bind λp ρ1=>match g p ρ1 with|some ρ2=>.ok .nx ρ2|none=>.bad:=rfl
@[simp] theorem Jj:gN i p ρ=some (ρ.set i (.sh p)):=rfl
@[simp] theorem Zc8:ŏ [] ρ=some ρ:= rfl
@[simp] theorem Zcj:ę g gs (p::ps) ρ=(g p ρ).bind λρ1=>gs ps ρ1:=rfl
@[simp] theorem ZgC:gT n gs (.tup ps) ρ=if ps.length=n then gs ps ρ else none:=rfl
@[simp] theorem ZfH:nJ i m ρ=(match ρ[i]? with
  |some (.ow _)=>(m ρ).bind λp ρ1=>match ρ1[i]? with
   |some (.ow ps)=>if ps.length<16777216 then .ok .nx (ρ1.set i (.ow (ps ++ [p]))) else .bad
   |_=>.bad
  |_=>.bad):=rfl
@[simp] theorem Zc9{mi:M PV}:Aq i mi m ρ=(m ρ).bind fun p ρ1=>match ρ1[i]? with
  |some (.ow _)=>(mi ρ1).bind λq ρ2=>match ρ2[i]?,q with
   |some (.ow ps),.int k=>match Ac ps.length k with
    |some j=>.ok .nx (ρ2.set i (.ow (ps.set j p)))
    |none=>.bad
   |_,_=>.bad
  |_=>.bad:=rfl
@[simp] theorem ZfI:xT ρ=.ok none ρ:= rfl
@[simp] theorem ZgH:mP m ρ=(m ρ).bind λp ρ1=>match p with| .int i=>.ok (some i) ρ1|_=>.bad:=rfl
@[simp] theorem ZgD{ml mh:M (Option Int)}:Q_ ma ml mh ρ=(ma ρ).bind λp ρ1=>(ml ρ1).bind λlo ρ2=>(mh ρ2).bind λhi ρ3=>Res.kO (Gf p lo hi) ρ3:=rfl
@[simp] theorem ZfJ{lo hi:Option Int}:Gf (.lst ps) lo hi=some (.ow (eZ ps lo hi)):=rfl
@[simp] theorem Zc_:ŗ m ρ=(m ρ).bind fun p ρ1=>match p with
  | .lst ps=>.ok ps ρ1
  | .tup ps=>.ok ps ρ1
  | .str z=>.ok (z.cps.toList.map λc=>.str ⟨#[c]⟩) ρ1
  |_=>.bad:=rfl
@[simp] theorem Zda{h:List PV->Option (List PV)}:Ľ h mr ρ=(mr ρ).bind λps ρ1=>Res.kO (h ps) ρ1:=rfl
@[simp] theorem ZaN{mi:M (List PV)}:aV mi g b ρ=(mi ρ).bind λitems ρ1=>forL g b items ρ1:=rfl
@[simp] theorem Zei{js:List Nat}{nl:Nat}{mi:M (List PV)}{mt:M Bool}{me:M PV}:ĵ js nl mi g mt me ρ=(mi ρ).bind fun items ρ1=>match į g mt me items (Ź js nl ρ1) [] with
  |some ps=>.ok (.ow ps) ρ1
  |none=>.bad:=rfl
@[simp] theorem ZfK:ĭ ρ=.ok true ρ:= rfl
@[simp] theorem ZfL{mbd:M Fl}{as:List Slot}:Ĭ n k mbd as=if as.length=n then FR.of (mbd (startP k as)) else .bad:=rfl
@[simp] theorem ZfM{r:RV}:FR.of (.ok (.rt r) ρ)=.ret r:=rfl
@[simp] theorem ZfN:FR.of (.ok .nx ρ)=.ret (.sh .non):=rfl
@[simp] theorem ZfO{x:PX}:FR.of (.exc x ρ)=.exc x:=rfl
@[simp] theorem ZfP:FR.of .bad=.bad:=rfl
@[simp] theorem Zdb{as:List Slot}:startP k as=as++List.replicate (k-as.length) .no:=rfl
@[simp] theorem Zej:Ċ ρ=.ok [] ρ:= rfl
@[simp] theorem Zdc{ms:M (List Slot)}:Ĕ ma ms ρ=(ma ρ).bind λp ρ1=>(ms ρ1).bind λas ρ2=>.ok (.sh p::as) ρ2:=rfl
@[simp] theorem Zdd{ms:M (List Slot)}:Ă i ms ρ=(match(ρ[i]?).bind dG with
  |none=>.bad
  |some _=>(ms ρ).bind λas ρ2=>match(ρ2[i]?).bind dG with
   |some s=>.ok (s::as) ρ2
   |none=>.bad):=rfl
@[simp] theorem ZfQ:dG (.sh p)=some (.sh p):=rfl
@[simp] theorem ZfR:dG (.ow ps)=some (.bw ps):=rfl
@[simp] theorem ZfS:dG (.bw ps)=some (.bw ps):=rfl
@[simp] theorem ZfT:Ŧ (.sh p)=.sh p:=rfl
@[simp] theorem ZfU:Ŧ (.ow ps)=.bw ps:=rfl
@[simp] theorem ZfV:Ŧ (.bw ps)=.bw ps:=rfl
@[simp] theorem ZfW{js:List Nat}{nl:Nat}:Ź js nl ρ=js.map (λ(j:Nat)=>Ŧ ((ρ[j]?).getD .no))++List.replicate nl .no:=rfl
@[simp] theorem Az:ŋ i ρ=(match ρ[i]? with
  |some (.bw ps)=>.ok ps ρ
  |some (.sh (.lst ps))=>.ok ps ρ
  |some (.sh (.tup ps))=>.ok ps ρ
  |some (.sh (.str z))=>.ok (z.cps.toList.map λc=>.str ⟨#[c]⟩) ρ
  |some (.ow ps)=>.ok ps (ρ.set i (.sh (.lst ps)))
  |_=>.bad):=rfl
@[simp] theorem Zek{x y:Int}:ĥ (.int x) (.int y)=some (.sh (.int (x+y))):=rfl
@[simp] theorem Zel{x y:Int}:š (.int x) (.int y)=some (.int (x-y)):=rfl
@[simp] theorem Zem{x y:Int}:ĳ (.int x) (.int y)=if Ő x y=true then some (.int (x*y)) else none:=rfl
@[simp] theorem Pz{x y:Int}:ō (.int x) (.int y)=if gC x y=true then some (.int (x.fdiv y)) else none:=rfl
@[simp] theorem oR{x y:Int}:ĩ (.int x) (.int y)=if xP x y=true then some (.int (x.fmod y)) else none:=rfl
@[simp] theorem PJ{x y:Int}:iR (.int x) (.int y)=if xQ x y=true then some (.int (x ^ y.toNat)) else none:=rfl
@[simp] theorem Zen{x y:Int}:tX (.int x) (.int y)=if gD x y=true then some (.int (x*2 ^ y.toNat)) else none:=rfl
@[simp] theorem Zeo{x y:Int}:iT (.int x) (.int y)=if pL x y=true then some (.int (x / 2 ^ y.toNat)) else none:=rfl
@[simp] theorem Zep{x:Int}:gF (.int x)=some (.int (-x)):=rfl
@[simp] theorem ZfX{x y:Int}:nM (.int x) (.int y)=some (.bl (decide (x<y))):=rfl
@[simp] theorem ZfY{x y:Int}:jl (.int x) (.int y)=some (.bl (decide (x<=y))):=rfl
@[simp] theorem ZfZ{x y:Int}:I_ (.int x) (.int y)=some (.bl (decide (y<=x))):=rfl
@[simp] theorem Zf0{x y:Int}:Ş (.int x) (.int y)=some (.bl (decide (x=y))):=by
  have h:eqB (.int x) (.int y)=decide (x=y):=by rw[eqB.eq_def];rfl
  rw[<-h];rfl
@[simp] theorem Zf1{x y:Int}:aC (.int x) (.int y)=some (.bl (!decide (x=y))):=by
  have h:eqB (.int x) (.int y)=decide (x=y):=by rw[eqB.eq_def];rfl
  rw[<-h];rfl
@[simp] theorem Zf2{x y:Bool}:Ş (.bl x) (.bl y)=some (.bl (x== y)):=rfl
@[simp] theorem Zf3{x y:Bool}:aC (.bl x) (.bl y)=some (.bl (!(x== y))):=rfl
@[simp] theorem Zf4{p:PV}:su p .non=some (.bl (vd p)):=rfl
@[simp] theorem Zeq{p:PV}:oO p .non=some (.bl (!vd p)):=rfl
@[simp] theorem Zf5{x:Int}:ē (.lst ps) (.int x)=rT ps x:=rfl
@[simp] theorem Zf6{x:Int}:ē (.tup ps) (.int x)=rT ps x:=rfl
@[simp] theorem vh:ų [.lst ps]=some (.int ps.length):=rfl
@[simp] theorem Zer:ų [.tup ps]=some (.int ps.length):=rfl
@[simp] theorem Zf7{x:Int}:Px [.int x]=some (.int (if x<0 then -x else x)):=rfl
@[simp] theorem Zde:aK [.lst ps]=some (.ow ps):=rfl
@[simp] theorem Zdf:aK [.tup ps]=some (.ow ps):=rfl
@[simp] theorem Zes:pP [.lst ps]=some (.tup ps):=rfl
@[simp] theorem Zet:pP [.tup ps]=some (.tup ps):=rfl
@[simp] theorem Zf8{t:String}:lQ [p,.ty t]=(sy p t).map .bl:=rfl
@[simp] theorem Zeu{x:Bool}:tru (.bl x)=some x:=rfl
@[simp] theorem Zev{x:Int}:tru (.int x)=some (x != 0):=rfl
@[simp] theorem Zew:tru (.lst ps)=some (!ps.isEmpty):=rfl
@[simp] theorem Jk(xs:List α)(n:Nat):rT xs (n:Int)=xs[n]?:= by
  unfold rT Ac
  rw[if_pos (by omega)]
  by_cases h:n<xs.length
  ·rw[if_pos (by omega)]
   simp
  ·rw[if_neg (by omega)]
   simp
   omega
@[simp] theorem Zex(xs:List α)(n:Nat):rT xs (no_index (OfNat.ofNat n):Int)=xs[(no_index (OfNat.ofNat n):Nat)]?:= Jk xs n
@[simp] theorem Zck{x y:Int}:xP x y=decide (y≠0):=rfl
end
def bC{x y:Int}(h1: -(2 ^ 64)<x)(h2:x<2 ^ 64):Ő x y=true:=by unfold Ő;rw[decide_eq_true (by omega:x.natAbs<18446744073709551616)];rfl
def mul_r{x y:Int}(h1: -(2 ^ 64)<y)(h2:y<2 ^ 64):Ő x y=true:=by unfold Ő;rw[decide_eq_true (by omega:y.natAbs<18446744073709551616)];simp
def Zdg{x y:Int}(h1:bits x<=1048576)(h2:bits y<=1048576):Ő x y=true:=by unfold Ő;simp[h1,h2]
def xX{x y:Int}(h1:y≠0)(h2:bits y<=8000):gC x y=true:=by unfold gC;simp[h1,h2]
section
variable{g:Tg}{mb:M Fl}{mc mt:M Bool}{me:M PV}{items:List PV}{ρ:ń}
theorem ī{α:Type}(c f:α->PV)(I:ń->Prop):∀(xs:List α) (ρ:ń) (acc:List PV),I ρ->acc.length+xs.length<=16777216->
 (∀x∈xs,∀ρ,I ρ->∃ρ1 ρ2 ρ3,g (c x) ρ=some ρ1/\mt ρ1=.ok true ρ2/\me ρ2=.ok (f x) ρ3/\I ρ3)->į g mt me (xs.map c) ρ acc=some (acc++xs.map f)
 | [],ρ,acc,_,_,_=>by simp[į]
 |x::xs,ρ,acc,h,hz,hs=>by
  obtain⟨ρ1,ρ2,ρ3,h1,h2,h3,h4⟩:=hs x List.mem_cons_self ρ h
  rw[List.map_cons,į,h1]
  dsimp only
  rw[h2]
  dsimp only
  rw[h3]
  dsimp only
  rw[if_pos (by simp at hz;omega),ī c f I xs ρ3 (acc ++ [f x]) h4 (by simp at hz ⊢;omega) λy hy=>hs y (List.mem_cons_of_mem _ hy)]
  simp
def A_{β:Type}(st:β->ń)(I:β->Prop)(μ:β->Nat)(hs:∀b,I b->mc (st b)=.ok false (st b)\/(mc (st b)=.ok true (st b)/\∃b',mb (st b)=.ok .nx (st b')/\I b'/\μ b' < μ b)){b:β}(h0:I b) :
 ∃b',ű mc mb (st b)=.ok .nx (st b')/\I b'/\mc (st b')=.ok false (st b'):=by
 have go:∀n b,μ b<=n->I b->∃b',ű mc mb (st b)=.ok .nx (st b')/\I b'/\mc (st b')=.ok false (st b'):=by
  intro n
  induction n with
  |zero=>
   intro b hn hi
   rcases hs b hi with e|⟨e,b',_,_,hl⟩
   ·exact⟨b,by rw[gB,e];rfl,hi,e⟩
   ·omega
  |succ n ih=>
   intro b hn hi
   rcases hs b hi with e|⟨e,b',e2,hi',hl⟩
   ·exact⟨b,by rw[gB,e];rfl,hi,e⟩
   ·obtain⟨b2,q1,q2⟩:=ih b' (by omega) hi'
    refine⟨b2,?_,q2⟩
    rw[gB,e]
    simp only[Res.aH,if_true,e2]
    exact q1
 exact go (μ b) b (Nat.le_refl _) h0
end
end P
namespace P
open PySem PySem.Spec PyProof.Rows L2 M2 M3 M4
def pU(Q:String->Prop):List String->Prop
 | []=>True
 |c::cs=>Q c/\pU Q cs
theorem pU.get{Q:String->Prop}:∀{cs:List String} {C:String},pU Q cs->cs.contains C=true->Q C
 | [],_,_,h=>by simp at h
 |c::cs,C,⟨h1,h2⟩,h=>by
  by_cases e:C=c
  ·rw[e];exact h1
  ·refine h2.get ?_
   rw[List.contains_cons] at h
   have:(C== c)=false:=by simpa using e
   rw[this,Bool.false_or] at h
   exact h
section
variable{X:Cx}{cm:String->Addr}{K:KK}{E:L2.St->XK}{a b e o:Expr}{es:List Expr}{pos apos:Pos}{m ma mb:M PV}{f:Str}
theorem pW{F:Hp}:∀{fs:List (Str×V)} {ps:List PV} {p:PV},ě K F ps (fs.map (·.2))->((fs.map (·.1)).zip ps).lookup f=some p->∃v,fs.lookup f=some v/\Rep K F p v
 | [],ps,p,_,h=>by simp at h
 |(g,v)::fs,ps,p,r,h=>by
  have r':=r.pr
  rw[List.map_cons] at r'
  cases r' with
  |cons r1 t=>
   rename_i q qs
   rw[List.map_cons,List.zip_cons_cons,List.lookup_cons] at h
   rw[List.lookup_cons]
   cases hg:f== g with
   |true=>
    simp only[hg] at h
    cases h
    exact⟨v,rfl,r1⟩
   |false=>
    simp only[hg] at h
    exact pW (ě.of t) h
theorem rR.ins{c:Ctx}{F H:Hp}{σ:L2.St}{ρ:ń}{C:String}{ns:List Str}{ps:List PV}{v:V}(s:Same F H)(h:rR K c σ ρ F H (.ins C ns ps) v):∃a dx fs,v=.ref a/\H a=some (.ins (K.cm C) dx fs)/\fs.map (·.1)=ns/\ě K F ps (fs.map (·.2)):=by
 rcases h with h|h
 ·unfold Rep at h
  obtain⟨a,dx,fs,h1,h2,h3,h4⟩:=h
  exact⟨a,dx,fs,h1,s _ _ h2,h3,h4⟩
 ·exact h
def aD(cs:List String)(f:Str):PV->Option PV
 | .ins C ns ps=>if cs.contains C=true then(ns.zip ps).lookup f else none
 |_=>none
def bD(cs:List String)(hcs:pU (λC=>Cls X.K (cm C)/\ļ X.K (cm C) f) cs)(he:PE X e (tR (kk X cm) E m))(hb:attributeBase e f X.env (eval e X.env)=eval e X.env:=by rfl):PE X (.Attribute e f pos) (tV (kk X cm) E (kW (aD cs f) m)):=
 PE.wk (YZ he hb) fun σ H Q ⟨c,F,ρ,rel,h⟩=>⟨c,F,ρ,rel,h.bind fun p ρ1 v F1 H1 Ė _ _ r1 h1=>by
   cases p with
   |ins C ns ps=>
    unfold aD at h1
    dsimp only at h1
    split at h1
    ·rename_i hc
     obtain⟨a,dx,fs,rfl,q2,q3,q4⟩:=r1.ins Ė.sub
     cases el:(ns.zip ps).lookup f with
     |none=>rw[el] at h1;exact h1.elim
     |some q=>
      rw[el] at h1
      subst q3
      obtain⟨v,e1,e2⟩:=pW q4 el
      obtain⟨k1,k2⟩:=hcs.get hc
      exact⟨a,_,dx,fs,v,rfl,q2,k1,k2,e1,h1 v F1 H1 Ė (Same.refl _) (Same.refl _) e2⟩
    ·exact h1.elim
   |_=>exact h1.elim⟩
def Jl(X:Cx)(cm:String->Addr)(CX:lB)(k n:Nat)(m:Str)(C:String)(mf:MF):Prop:=Cls X.K (cm C)/\∃f fd ps,Meth X.K (cm C) m f/\Ġ X.prog X.w X.K X.mg X.base CX k f fd ps (Ŕ (kk X cm) n mf)/\Binds X.K fd ps []/\
 ∀{ps:List Slot},(∃r,mf ps=r/\∀z,r=z->z≠ .bad)->ps.length=n
def Jm(Q:String->MF->Prop):List (String×MF)->Prop
 | []=>True
 |(c,mf)::cs=>Q c mf/\Jm Q cs
theorem Jm.get{Q:String->MF->Prop}:∀{cs:List (String×MF)} {C:String} {mf:MF},Jm Q cs->cs.lookup C=some mf->Q C mf
 | [],_,_,_,h=>by simp at h
 |(c,g)::cs,C,mf,⟨h1,h2⟩,h=>by
  rw[List.lookup_cons] at h
  cases hc:C== c with
  |true=>
   rw[hc] at h
   cases h
   have:C=c:=by simpa using hc
   rw[this];exact h1
  |false=>
   rw[hc] at h
   exact h2.get h
def pX(m:Str)(iG:List (String×MF))(mo:M PV)(ms:M (List Slot)):M RV:=λρ=>(mo ρ).bind λp ρ1=>match p with
 | .ins C ns ps=>match iG.lookup C with
   |some mf=>if ns.contains m=true then .bad else(ms ρ1).bind λas ρ2=>match mf (.sh (.ins C ns ps)::as) with
    | .ret r=>.ok r ρ2
    | .exc x=>.exc x ρ2
    | .bad=>.bad
   |none=>.bad
 |_=>.bad
theorem tZ{m:Str}:∀{fs:List (Str×V)},(fs.map (·.1)).contains m=false->fs.lookup m=none
 | [],_=>rfl
 |(g,v)::fs,h=>by
  rw[List.map_cons,List.contains_cons,Bool.or_eq_false_iff] at h
  rw[List.lookup_cons,h.1]
  exact tZ h.2
variable{CX:lB}{k n:Nat}{Ni:Str}{iG:List (String×MF)}{ms:M (List Slot)}
def Jo{c:Ctx}{F H:Hp}{σ:L2.St}{ρ:ń}{Q:VK}(rel:Rel (kk X cm) c F H σ ρ)(h:au (kk X cm) E (rO (kk X cm)) c F H σ Q (pX Ni iG m ms ρ))(ZaO:Jm (λC mf=>Jl X cm CX k n Ni C mf) iG) :
 au (kk X cm) E (rV (kk X cm)) c F H σ (λx H1=>∃a C dx fs g fd ps mf,x=.ref a/\H1 a=some (.ins C dx fs)/\Cls X.K C/\Meth X.K C Ni g/\fs.lookup Ni=none/\Ġ X.prog X.w X.K X.mg X.base CX k g fd ps (Ŕ (kk X cm) n mf)/\Binds X.K fd ps []/\
  tA (kk X cm) E ms σ H1 λvs H2=>Ŕ (kk X cm) n mf (.ref a::vs) H2 Q (E σ)) (m ρ):=
 au.bind h λp ρ1 v F1 H1 Ė _ _ r1 h1=>by
  cases p with
  |ins C ns ps=>
   dsimp only at h1
   cases el:iG.lookup C with
   |none=>rw[el] at h1;exact h1.elim
   |some mf=>
    rw[el] at h1
    dsimp only at h1
    split at h1
    ·exact h1.elim
    ·rename_i hn
     obtain⟨k1,f,fd,qs,k2,k3,k4,k5⟩:=ZaO.get el
     have r1':Rep (kk X cm) F1 (.ins C ns ps) v:=r1
     have r2:=r1'
     unfold Rep at r2
     obtain⟨a,dx,fs,rfl,q2,q3,q4⟩:=r2
     refine⟨a,_,dx,fs,f,fd,qs,mf,rfl,Ė.sub _ _ q2,k1,k2,tZ (by rw[q3];simpa using hn),k3,k4,c,F1,ρ1,Ė,au.bind h1 λas ρ2 vs F2 H2 Ĵ sF sH r3 h3=>?_⟩
     exact pJ (vs:=.ref a::vs) k5 Ĵ (.cons (show bA _ _ _ (.sh _) _ from Rep.same sF _ _ r1') r3) h3
  |_=>exact h1.elim
def PK{pl:Sem Bool}(ZaO:Jm (λC mf=>Jl X cm CX k n Ni C mf) iG)(hr:Ś k X.A)(hx:aZ CX X E)(he:PE X o (tV (kk X cm) E m))
 (ht:eval (.Call (.Attribute o Ni apos) [] [] pos) X.env=(do
   let ov <-eval o X.env
   standAt apos.atName
   let (f,first) <-holding [ov] (getMethod ov Ni pl)
   callWith pos f first (backTo pos (starEach [] X.env)) (backToKw pos (keywordEach [] X.env))):=by rfl) :
 PE X (.Call (.Attribute o Ni apos) [] [] pos) (tO (kk X cm) E (pX Ni iG m Ċ)):=by
 intro pins s σ H Q I ⟨c,F,ρ,rel,h⟩
 refine PySem.W.methodCall_KW (pl:=pl) (ŕ (he pins s σ H _ I ⟨c,F,ρ,rel,Jo rel h ZaO⟩) λu s1 ⟨x,H1,I1,rx,a,C,dx,fs,g,fd,ps,mf,ex,ea,cl,k2,l,k3,k4,q⟩=>?_) ht
 subst ex
 obtain rfl:u=Value.ref a:=rx
 refine zR I1 ea cl k2 l ?_
 obtain⟨c1,F1,ρ1,Ė,q⟩:=q
 exact PySem.W.callWith_K0 (first:=[.ref a]) I1.kJ k2.kp (Dt (us:=[.ref a]) (vs:=[.ref a]) k3 hr k4 hx I1 (.cons rfl .nil) (q [] F1 H1 Ė (Same.refl _) (Same.refl _) .nil))
def putN(f:Str):List Str->List Str
 | []=>[f]
 |g::r=>if g=f then g::r else g::putN f r
def Ba(f:Str)(p:PV):List Str->List PV->List PV
 | [],_=>[p]
 |g::r,q::qs=>if g=f then p::qs else q::Ba f p r qs
 |_::_,[]=>[]
theorem DQ{F:Hp}{p:PV}{y:V}(ry:Rep K F p y):∀{fs:List (Str×V)} {ps:List PV},ě K F ps (fs.map (·.2))->(dZ f y fs).map (·.1)=putN f (fs.map (·.1))/\ě K F (Ba f p (fs.map (·.1)) ps) ((dZ f y fs).map (·.2))
 | [],ps,r=>⟨rfl,ě.cons ry ě.nil⟩
 |(g,v)::fs,ps,r=>by
  have r':=r.pr
  rw[List.map_cons] at r'
  cases r' with
  |cons r1 t=>
   rename_i q qs
   unfold dZ
   rw[List.map_cons]
   unfold putN Ba
   by_cases hg:g=f
   ·rw[if_pos hg,if_pos hg,if_pos hg]
    exact⟨rfl,ě.cons ry (ě.of t)⟩
   ·rw[if_neg hg,if_neg hg,if_neg hg]
    obtain⟨h1,h2⟩:=DQ ry (ě.of t)
    exact⟨by rw[List.map_cons,h1],ě.cons r1 h2⟩
def iV(i:Nat)(cs:List String)(f:Str)(mv:M PV):M Fl:=λρ=>(mv ρ).bind λp ρ1=>match ρ1[i]? with
 |some (.rc C ns ps)=>if cs.contains C=true/\ns.length<1000 then .ok .nx (ρ1.set i (.rc C (putN f ns) (Ba f p ns ps))) else .bad
 |_=>.bad
def aL{i:Nat}{x:Str}{px pos':Pos}(cs:List String)(hcs:pU (λC=>Cls X.K (cm C)/\ļ X.K (cm C) f) cs)(ho:PE X (.Name x px) (zJ i))(he:PE X e (tV (kk X cm) E m))(hs:swapsWith e (some (.Attribute (.Name x px) f pos')) pos.line X.env=pure false:=by rfl) :
 PS X (.Assign [.Attribute (.Name x px) f pos'] e pos) (tS (kk X cm) E (iV i cs f m)):=PS.wk (Y_ ho he hs) λD σ H ⟨c,F,ρ,rel,h⟩=>⟨c,F,ρ,rel,ů.bind h λp ρ1 y F1 H1 Ė s1 ry h1=>by
 cases e1:ρ1[i]? with
 |none=>rw[e1] at h1;exact h1.elim
 |some sl=>
  rw[e1] at h1
  cases sl with
  |rc C ns ps=>
   dsimp only at h1
   split at h1
   ·rename_i hc
    obtain⟨a,dx,fs,q1,q2,q3,q4,q5,q6,q7⟩:=Ė.slot i _ e1
    subst q5
    obtain⟨k1,k2⟩:=hcs.get hc.1
    refine⟨.ref a,at_of q1,a,_,dx,fs,rfl,q2,k1,k2,by simpa using hc.2,?_⟩
    obtain⟨z1,z2⟩:=DQ (f:=f) (p:=p) ry q6
    exact h1 σ F1 _ (Ė.write ⟨_,_,e1,at_of q1,rfl⟩ (at_of q1) ⟨a,dx,_,rfl,ģ,q3,q4,z1,z2,q7⟩ λ_ z=>(V.ref.inj z).symm) (Same.refl _)
   ·exact h1.elim
  |_=>exact h1.elim⟩
inductive IR where
 |ok (ns:List Str) (ps:List PV)|exc (x:PX)|bad
abbrev MI:=List Slot->IR
def IR.of:Res Fl->IR
 | .ok .nx (.rc _ ns ps::_)=>.ok ns ps
 | .exc x _=>.exc x
 |_=>.bad
def cL(n k:Nat)(C:String)(mb:M Fl):MI:=λas=>if as.length+1=n then IR.of (mb (.rc C [] []::startP (k-1) as)) else .bad
structure GrB(a:Addr)(F H F' H':Hp):Prop where
 h:∀b u,b≠a->H b=some u->H' b=some u
 f:Same F F'
 sub:Same F' H'
 out:∀b,b≠a->H b≠none->F b=none->F' b=none
def Zf9(K:KK)(E:XK)(F H:Hp)(Q:VK)(a dx:Addr)(C:String):IR->Prop
 | .ok ns ps=>∀F' H' fs,GrB a F H F' H'->H' a=some (.ins (K.cm C) dx fs)->F' a=none->fs.map (·.1)=ns->ě K F' ps (fs.map (·.2))->Q .non H'
 | .exc x=>∀C' d F' H',GrB a F H F' H'->Pa K F' x C' d->E C' d H'
 | .bad=>False
def Nj(K:KK)(n:Nat)(C:String)(mi:MI):Sp:=λvs H Q E=>∃F a dx vs' as,vs=.ref a::vs'/\as.length+1=n/\H a=some (.ins (K.cm C) dx [])/\F a=none/\Same F H/\Paired (bA K F H) as vs'/\Zf9 K E F H Q a dx C (mi as)
def PL(a dx:Addr)(C:String)(F H:Hp):Ctx:=⟨λb=>if b=a then none else H b,F,λb=>if b=a then none else(ctx0 F H).L b,λa' dx' C'=>a'=a/\dx'=dx/\C'=C⟩
def Rel.gri{σ:L2.St}{ρ:ń}{a dx:Addr}{C:String}{F H F' H':Hp}(r:Rel K (PL a dx C F H) F' H' σ ρ):GrB a F H F' H':=
 ⟨λb u hb e=>r.base b u (by show(if b=a then none else H b)=_;rw[if_neg hb];exact e),r.f0,r.sub,λb hb h1 h2=>r.dW b (by show(if b=a then none else H b)≠none;rw[if_neg hb];exact h1) h2⟩
def Rel.ZaP{F H:Hp}{N:List Str}{as:List Slot}{vs:List V}{a dx:Addr}{C:String}(s:Same F H)(ha:H a=some (.ins (K.cm C) dx []))(hF:F a=none)(h:Paired (bA K F H) as vs) :
 Rel K (PL a dx C F H) F H (L2.start N (.ref a::vs)) (.rc C [] []::startP (N.length-1) as):=by
 have r0:=Rel.start (N:=N) (K:=K) s (as:=.sh (.int 0)::as) (vs:=.int 0::vs) (.cons (Rep.int (K:=K) (F:=F) (i:=0)) h)
 have est:L2.start N (.ref a::vs)=some (.ref a)::(L2.start N (.int 0::vs)).tail:=by unfold L2.start;simp
 have Zf_:(L2.start N (V.int 0::vs)).tail.length=(startP (N.length-1) as).length:=by
  unfold L2.start startP
  simp[Paired.length h]
  omega
 have tl:∀i:Nat,(L2.start N (.int 0::vs)).tail[i]?=(L2.start N (.int 0::vs))[i+1]?:= λi=>by simp
 have sp:∀i:Nat,(startP (N.length-1) as)[i]?=(startP N.length (.sh (.int 0)::as))[i+1]?:= λi=>by
  unfold startP
  simp only[List.cons_append,List.getElem?_cons_succ,List.length_cons]
  rw[show N.length-1-as.length=N.length-(as.length+1) by omega]
 have xY:∀(i:Nat) (s':Slot),(startP (N.length-1) as)[i]?=some s'->s'.own=false:=λi s' e=>by
  unfold startP at e
  by_cases hi:i<as.length
  ·rw[List.getElem?_append_left hi] at e
   obtain⟨v,_,h3⟩:=aR h e
   exact(bA.slot h3).2
  ·rw[List.getElem?_append_right (by omega),List.getElem?_replicate] at e
   split at e
   ·cases e;rfl
   ·cases e
 rw[est]
 refine⟨s,λb u e=>?_,Same.refl _,λ_ _ z=>z,λb u e=>?_,λb e=>?_,?_,λi s' e=>?_,λi j b h1 h2=>?_⟩
 ·have e':(if b=a then none else H b)=some u:=e
  split at e'
  ·cases e'
  ·exact e'
 ·have e':(if b=a then none else(ctx0 F H).L b)=some u:=e
  split at e'
  ·cases e'
  ·exact cU e'
 ·show(if b=a then none else(ctx0 F H).L b)=none
  have e':(if b=a then none else H b)=none:=e
  split
  ·rfl
  ·rename_i hb
   rw[if_neg hb] at e'
   exact r0.lb b e'
 ·simp[Zf_]
 ·cases i with
  |zero=>
   cases e
   exact⟨a,dx,[],rfl,ha,hF,by show(if a=a then none else H a)=none;rw[if_pos rfl],rfl,ě.nil,rfl,rfl,rfl⟩
  |succ i=>
   have e':(startP (N.length-1) as)[i]?=some s':=by simpa using e
   have q:=r0.slot (i+1) s' (by rw[<-sp];exact e')
   rw[<-tl] at q
   show ŷ K (PL a dx C F H) F H (((some (V.ref a)::(L2.start N (.int 0::vs)).tail)[i+1]?).getD none) s'
   rw[List.getElem?_cons_succ]
   cases s' with
   |no=>trivial
   |sh p=>exact q
   |bw ps=>
    obtain⟨b,ws,q1,q2,q3⟩:=q
    refine⟨b,ws,q1,?_,q3⟩
    show(if b=a then none else(ctx0 F H).L b)=_
    rw[if_neg (λz=>by
     have:=(cU q2).1
     rw[z,ha] at this
     cases this)]
    exact q2
   |ow ps=>have:=xY i _ e';cases this
   |rc C ns ps=>have:=xY i _ e';cases this
   |ot ps qs=>have:=xY i _ e';cases this
   |ol Di=>have:=xY i _ e';cases this
 ·have at0:∀{i},ŉ F (some (.ref a)::(L2.start N (.int 0::vs)).tail) (Slot.rc C [] []::startP (N.length-1) as) i b→i=0:=fun{i} ⟨s',y,q1,_,q2⟩=>by
   have q2:=lH q2
   cases i with
   |zero=>rfl
   |succ i=>
    have:=xY i s' (by simpa using q1)
    rw[this] at q2
    cases q2
  rw[at0 h1,at0 h2]
end
section
variable{P:Program}{w:World}{K:PySem.W.Frag}{cm:String->Addr}{mg:Str->Option Value}{base:Heap}{CX:lB}
def fnI{x qual:Str}{st:Stmt}{f:Addr}{fd:FuncData}{N ps:List Str}{k n j:Nat}{C:String}{mb:M Fl}{mi:MI}(F:HD K x qual st f fd)(S:Č N ps (Ć st))(hn:ps.length=n)(hj:N.length=j)(hf:mi=cL n j C mb)
 (hbody:∀(cdv:Value) (A:Around) (outer:List Env) (s:Shared) (H:Hp) (E:XK),Ś k (A.deeper (envOfC qual (Ć st) s.heap.objs.size f cdv))→
   iD (o_ CX P w K mg base N qual (Ć st) f cdv A outer s H E) (Ķ st) (tS ⟨K,cm⟩ (λ_=>E) mb)):Ġ P w K mg base CX (k+1) f fd ps (Nj ⟨K,cm⟩ n C mi):=by
 subst hn hj hf
 obtain⟨oc,od,kV,doc,pm,an,cdv,ct,osl,rfl,lk,hcd⟩:=F.ex
 refine CP lk hcd S (λvs H Q E ⟨F,a,dx,vs',as,h1,h2,_,_,_,h3,_⟩=>by rw[h1,List.length_cons,<-Paired.length h3];exact h2) λA outer s H vs Q E hr hsp=>?_
 obtain⟨F,a,dx,vs',as,rfl,h2,h3,h4,h5,h6,h7⟩:=hsp
 refine⟨_,hbody cdv A outer s H E hr,PL a dx C F H,F,_,Rel.ZaP h5 h3 h4 h6,?_⟩
 unfold cL at h7
 rw[if_pos h2] at h7
 cases e:mb (.rc C [] []::startP (N.length-1) as) with
 |bad=>rw[e] at h7;exact h7
 |exc x ρ'=>rw[e] at h7;exact λσ' C' d F' H' rel s1 q=>h7 C' d F' H' rel.gri q
 |ok fl ρ'=>
  rw[e] at h7
  cases fl with
  |nx=>
   cases ρ' with
   |nil=>exact h7.elim
   |cons sl ρ'=>
    cases sl with
    |rc C' ns qs=>
     intro σ' F' H' rel s1
     obtain⟨b,dy,fs,q1,q2,q3,q4,q5,q6,rfl,rfl,rfl⟩:=rel.slot 0 _ rfl
     exact h7 F' H' fs rel.gri q2 q3 q5 q6
    |_=>exact h7.elim
  |bk=>exact h7.elim
  |ct=>exact h7.elim
  |rt r=>exact h7.elim
end
def bK(C:String)(mi:MI)(ms:M (List Slot)):M PV:=λρ=>(ms ρ).bind λas ρ1=>match mi as with
 | .ok ns ps=>.ok (.ins C ns ps) ρ1
 | .exc x=>.exc x ρ1
 | .bad=>.bad
section
variable{X:Cx}{cm:String->Addr}{E:L2.St->XK}{e:Expr}{es:List Expr}{pos p:Pos}{CX:lB}{k n:Nat}{f:Addr}{fd:FuncData}{ps:List Str}{C:String}{mi:MI}{ms:M (List Slot)}{x:Str}
def Jp{c:Ctx}{F1 H1:Hp}{σ:L2.St}{ρ1:ń}{Q:VK}{as:List Slot}{vs:List V}(hlen:(∃r,mi as=r/\∀z,r=z->z≠ .bad)->as.length+1=n)(Ė:Rel (kk X cm) c F1 H1 σ ρ1)(r1:Paired (bA (kk X cm) F1 H1) as vs)
 (h:au (kk X cm) E (rV (kk X cm)) c F1 H1 σ Q (match mi as with| .ok ns ps=>.ok (.ins C ns ps) ρ1| .exc x=>.exc x ρ1| .bad=>.bad)) :
 ∀x dx,H1 x=none->H1 dx=none->dx≠x->Nj (kk X cm) n C mi (.ref x::vs) (upd (upd H1 dx (.own x)) x (.ins (cm C) dx [])) (λv H2=>v=.non/\Q (.ref x) H2) (E σ):=by
 intro x dx hx hdx hne
 have up:∀b u,H1 b=some u->upd (upd H1 dx (.own x)) x (.ins (cm C) dx []) b=some u:=λb u e=>by
  rw[Ĝ (Ħ e hx),Ĝ (Ħ e hdx)];exact e
 have PN:∀{F' H':Hp},GrB x F1 (upd (upd H1 dx (.own x)) x (.ins (cm C) dx [])) F' H'->Gr F1 H1 F' H':=fun{F' H'} g=>
  ⟨fun b u e=>g.h b u (Ħ e hx) (up b u e),g.f,g.sub,fun b hb hf=>by
    obtain⟨u,hu⟩:∃u,H1 b=some u:=by
     cases q:H1 b with
     |none=>exact absurd q hb
     |some u=>exact⟨u,rfl⟩
    exact g.out b (Ħ hu hx) (by rw[up b u hu];intro z;cases z) hf⟩
 refine⟨F1,x,dx,vs,as,rfl,?_,ģ,Ė.sub.free hx,λb u e=>up b u (Ė.sub b u e),?_,?_⟩
 ·refine hlen ⟨_,rfl,λz hz hb=>?_⟩
  rw[hz,hb] at h
  exact h
 ·refine Paired.mono (λs v hs=>?_) r1
  cases s with
  |sh p=>exact hs
  |bw qs=>
   obtain⟨b,ws,q1,q2,q3,q4⟩:=hs
   exact⟨b,ws,q1,up b _ q2,q3,q4⟩
  |_=>exact hs.elim
 ·cases em:mi as with
  |bad=>rw[em] at h;exact h
  |exc y=>rw[em] at h;exact λC' d F' H' g rx=>h C' d F' H' (Ė.call (PN g)) g.f rx
  |ok ns qs=>
   rw[em] at h
   intro F' H' fs g hx' hF' hn hr
   have r2:=Ė.call (PN g)
   have r3:=r2.freeze hx' (Ė.base.free hx) hF' (Ė.uR (PN g).f (Ė.fresh hx))
   refine⟨rfl,h _ _ H' r3 (g.f.trans (Same.upd hF')) (PN g).h ?_⟩
   show Rep _ _ _ _
   unfold Rep
   exact⟨x,dx,fs,rfl,ģ,hn,ě.same (Same.upd hF') qs _ hr⟩
def Gi{pins:List (Addr×Obj)}{σ:L2.St}{H:Hp}{s:Shared}{Q:VK}{us:List Value}{vs:List V}{sp:Sp}{C:Addr}(M:Mk X.K C f)(F:Ġ X.prog X.w X.K X.mg X.base CX k f fd ps sp)(hr:Ś (k+1) X.A)(hb:Binds X.K fd ps [])
 (hx:aZ CX X E)(I:Inv X pins σ H s)(r:Vals vs us)
 (h:∀x dx,H x=none->H dx=none->dx≠x->sp (.ref x::vs) (upd (upd H dx (.own x)) x (.ins C dx [])) (λv H2=>v=.non/\Q (.ref x) H2) (E σ)) :
 wpAny (model X.prog X.w) X.A (call (.ref C) us) (EP X pins σ Q) X.xe s:=by
 have hq:=h (s.heap.objs.size+1) s.heap.objs.size (I.hok.fresh (Nat.le_succ _)) (I.hok.fresh (Nat.le_refl _)) (Nat.ne_of_lt (Nat.lt_succ_self _))
 have I2:=Inv.made (C:=C) I
 have r2:Vals (V.ref (s.heap.objs.size+1)::vs) (Value.ref (s.heap.objs.size+1)::us):=.cons rfl r
 have hl:(Value.ref (s.heap.objs.size+1)::us ++ []).length=ps.length:=by
  have e:=r2.length
  rw[F.len _ _ _ _ hq] at e
  rw[List.append_nil]
  exact e.symm
 have hbd:=hb {s with heap:=(s.heap.push PySem.W.emptyDict).push (PySem.W.instObj C s.heap.objs.size)} (Value.ref (s.heap.objs.size+1)::us) I2.kJ hl
 rw[List.append_nil] at hbd
 refine wpAny_call (Ht (f:=f) I.kJ M.makes M.init (beq_iff_eq.mp M.fn) (codeAny_mono (F.run _ X.stack _ _ ⟨Value.ref (s.heap.objs.size+1)::us,[]⟩ _ _ _ (E σ) (hr.make C us []) (I2.env0.make C us []) hbd r2 hq) λr s' hq'=>?_))
 cases r with
 |error e=>exact hx pins σ _ _ e s' I2 hq'
 |ok fl=>
  cases fl with
  |ret u=>
   obtain⟨v,H',I3,rv,ev,q3⟩:=I2.after hq'
   subst ev
   exact⟨rv,⟨V.ref (s.heap.objs.size+1),H',I3,rfl,q3⟩⟩
  |next=>exact False.elim hq'
  |brk=>exact False.elim hq'
  |cont=>exact False.elim hq'
def bQ{n k:Nat}{C:String}{mb:M Fl}{as:List Slot}(h:∃r,cL n k C mb as=r/\∀z,r=z->z≠ .bad):as.length+1=n:=by
 obtain⟨r,h1,h2⟩:=h
 unfold cL at h1
 by_cases hl:as.length+1=n
 ·exact hl
 ·rw[if_neg hl] at h1
  exact absurd h1.symm (λz=>h2 .bad (by rw[<-h1]) rfl)
def lU(M:Mk X.K (cm C) f)(F:Ġ X.prog X.w X.K X.mg X.base CX k f fd ps (Nj (kk X cm) n C mi))(hlen:∀{as:List Slot},(∃r,mi as=r/\∀z,r=z->z≠ .bad)->as.length+1=n)(hr:Ś (k+1) X.A)(hg:Gl X x)(hm:X.mg x=some (.ref (cm C)))(hb:Binds X.K fd ps [])(hx:aZ CX X E)
 (ha:PA X (e::es) (tA (kk X cm) E ms))(hdb:(x== ("__debug__" :Str))=false:=by decide)(he:starEach (e::es) X.env=(false,eval e X.env)::starEach es X.env:=by exact aj rfl)(hpl:(backTo pos (starEach es X.env)).any (·.1)=false:=by rfl) :
 PE X (.Call (.Name x p) (e::es) [] pos) (tV (kk X cm) E (bK C mi ms)):=by
 intro pins s σ H Q I ⟨c,F',ρ,rel,h⟩
 refine wpAny_Call_Name_kw (ou I hg hm ?_ hdb)
 refine PySem.W.callWith_K (h₀:= X.base) I.ok.mod.kin M.kp (ŕ (ha pos pins s σ H (λvs H1=>∀x dx,H1 x=none->H1 dx=none->dx≠x->Nj (kk X cm) n C mi (.ref x::vs) (upd (upd H1 dx (.own x)) x (.ins (cm C) dx [])) (λv H2=>v=.non/\Q (.ref x) H2) (E σ)) I
  ⟨c,F',ρ,rel,au.bind h λas ρ1 vs F1 H1 Ė _ _ r1 h1=>Jp hlen Ė r1 h1⟩) λus s1 ⟨vs,H1,I1,r,q⟩=>⟨I1.kJ,?_⟩) he hpl
 exact Gi M F hr hb hx I1 r q
end
end P
namespace P
open PySem PySem.Spec PyProof.Rows L2 M2 M3 M4
section
variable{M:Model}{A:Around}{E:Value->Shared->Prop}{s:Shared}{B:Heap}{env:Env}{outer:List Env}{L e:Addr}{Q:Unit->Shared->Prop}
end
def jz.sub{P:Program}{w:World}{H:Hp}{h B:Heap}(x:jz P w H h)(k:∀b o u,H b=some u->h.get? b=some o->B.get? b=some o):jz P w H B:=λa o e=>
 (x a o e).stay (fun b u hb q=>by
   rcases hb with rfl|hb
   ·exact k _ _ _ e q
   ·exact k _ _ _ hb q) (λ_ q=>q) λ_ _ q=>q
section
variable{P:Program}{w:World}{K:PySem.W.Frag}{mg:Str->Option Value}{base:Heap}{N:List Str}{qual:Str}{scope:Scope}{f:Addr}{cdv:Value}{A:Around}{outer:List Env}{s₀:Shared}{H₀:Hp}{E:XK}
end
end P
namespace P
open PySem PySem.Spec PyProof.Rows L2 M2 M3 M4
section
variable{K:PySem.W.Frag}{h:Heap}{C:Addr}{bmB:List Value}{newId:String}
end
section
variable{X:Cx}{cm:String->Addr}{E:L2.St->XK}{x:Str}{C:String}{np cpos pos:Pos}
end
section
variable{M:Model}{A:Around}{E:Value->Shared->Prop}{s:Shared}{K:PySem.W.Frag}{e C D:Addr}{oe:Obj}{b:Bool}{Q:Bool->Shared->Prop}
end
section
variable{X:Cx}{pins:List (Addr×Obj)}{σ:L2.St}{H:Hp}{s:Shared}{xe:Value->Shared->Prop}
end
end P
namespace P
open PySem PySem.Spec PyProof.Rows L2 M2 M3 M4
abbrev MH:=PX->ń->Res Fl
section
variable{X:Cx}{cm:String->Addr}{E:L2.St->XK}{pins:List (Addr×Obj)}{σ:L2.St}{H Hc:Hp}{s sc:Shared}{ea:Addr}{C:Value}{d:Option Addr}{B:Heap}
variable{y n:Str}{Dn:String}{i:Nat}{yp hpos:Pos}{b₀:Stmt}{suite:List Stmt}{rest:List ExceptHandler}{yes no:List String}{mh:M Fl}{mr:MH}
end
end P
namespace P
open PySem PySem.Spec PyProof.Rows L2 M2 M3 M4 Builtin Builtin.ObjectAttr
section
variable{K:PySem.W.Frag}{h:Heap}{C:Addr}{cd:ClassData}{bm:List Value}
end
section
variable{prog:Program}{w:World}{A:Around}{E:Value->Shared->Prop}{h:Heap}{g:Array GenState}{d:Drawn}{t:Nat}{os:OsState}
variable{nm q:Str}{C N:Addr}{bs bm bmB:List Value}{hdct:Bool}{sn:List Str}{sub:List Value}{ab:Bool}{col:Option Bool}{dd:Option Addr}{k0 k1 k2 k3 k5:Option Value}{B newId initId:String}
end
section
variable{prog:Program}{w:World}{A:Around}{E:Value->Shared->Prop}{s:Shared}{K:PySem.W.Frag}{x C:Addr}{cd:ClassData}{bm:List Value}{ox:Obj}{od:Option Obj}{name:Str}{v:Value}
end
end P
namespace P
open PySem PySem.Spec PyProof.Rows L2 M2 M3 M4
section
variable{X:Cx}{pins:List (Addr×Obj)}{σ:L2.St}{H:Hp}{s:Shared}{a C:Addr}{cd:ClassData}{bm:List Value}{d:Option Addr}{fs:List (Str×V)}{f:Str}{y:V}{u:Value}{A:Around}{E:Value->Shared->Prop}
variable{o value:Expr}{pos pos':Pos}{j:Nat}{ss:List Stmt}{r:List (Str×Nat)}
end
section
variable{P:Program}{w:World}{K:PySem.W.Frag}{mg:Str->Option Value}{base:Heap}{CX:lB}
end
section
variable{X:Cx}{cm:String->Addr}{E:L2.St->XK}{e:Expr}{es:List Expr}{pos p:Pos}{CX:lB}{k n:Nat}{f:Addr}{fd:FuncData}{ps:List Str}{C:String}{fl:List (Str×Nat)}{ms:M (List PV)}{x:Str}
end
section
variable{M:Model}{A:Around}{E:Value->Shared->Prop}{s:Shared}{K:PySem.W.Frag}{env:Env}
end
section
variable{X:Cx}{cm:String->Addr}{E:L2.St->XK}{e:Expr}{es:List Expr}{pos cpos np:Pos}{CX:lB}{k n:Nat}{f:Addr}{fd:FuncData}{ps:List Str}{C:String}{fl:List (Str×Nat)}{ms:M (List PV)}{x:Str}
end
end P
namespace P
open PySem PySem.Spec PyProof.Rows L2 M2 M3 M4 Builtin Builtin.ObjectAttr
section
variable{prog:Program}{w:World}{A:Around}{E:Value->Shared->Prop}{s:Shared}{K:PySem.W.Frag}{x C:Addr}{ox:Obj}{od:Option Obj}
end
section
variable{X:Cx}{cm:String->Addr}{K:KK}
end
section
variable{ρ:ń}{C:String}{n i:Nat}{fl:List (Str×Nat)}{ms:M (List PV)}{mb mh:M Fl}{mr:MH}{yes no:List String}{x:PX}
end
end P
namespace P
open PySem PySem.Spec PyProof.Rows L2 M2 M3 M4
section
variable{X:Cx}{cm:String->Addr}{E:L2.St->XK}{y:Str}{Dn:String}{yp hpos:Pos}{b₀:Stmt}{suite:List Stmt}{rest:List ExceptHandler}{yes no:List String}{mh:M Fl}{mr:MH}
end
end P
namespace P
open PySem PySem.Spec PyProof.Rows L2 M2 M3 M4
section
variable{X:Cx}{cm:String->Addr}{K:KK}
def Ra:List V->Hp->VK->Prop:=λxs H Q=>(∃i,xs=[.int i]/\Q (.int i) H)\/∃k,xs=[.bl k]/\Q (.int (if k then 1 else 0)) H
def ZaQ:ř X (.type "int") Ra:=Fx
def Jq:List PV->Option PV
 | [.int i]=>some (.int i)
 | [.bl k]=>some (.int (if k then 1 else 0))
 |_=>none
def ZaR:cH K Ra Jq:=by
 intro c F H σ ρ ps pv vs Q rel r e k
 unfold Jq at e
 split at e
 ·cases e
  obtain⟨v,rfl,r1⟩:=xU r
  cases r1.int
  exact .inl ⟨_,rfl,k _ F H rel (Same.refl _) (Same.refl _) Rep.int⟩
 ·cases e
  obtain⟨v,rfl,r1⟩:=xU r
  cases r1.bl
  exact .inr ⟨_,rfl,k _ F H rel (Same.refl _) (Same.refl _) Rep.int⟩
 ·cases e
theorem ſ:∀{ns:List Int} {its:List Value},Vals (ns.map V.int) its->IntsAre its ns
 | [],its,h=>by cases h;exact .nil
 |n::ns,its,h=>by
  cases h with
  |cons r t=>
   obtain⟨k,e⟩:=(show ∃k,_=Value.int n k from r)
   subst e
   exact .cons n k (ſ t)
def Zdh(K:PySem.W.Frag):List V->Hp->VK->Prop:=λxs H Q=>∃(p:Addr) (ns:List Int),xs=[.ref p]/\ū K H p (ns.map V.int)/\Q (.int ns.sum) H
def pY(hc:X.calm=true):ř X (.builtin "sum") (Zdh X.K):=by
 intro pins s σ H xs us Q I r h
 obtain⟨p,ns,rfl,hS,q⟩:=h
 obtain⟨u,rfl,ru⟩:=vals1 r
 cases ru
 obtain⟨its,rv,pl,hz⟩:=I.list hS
 have hi:=ſ rv
 obtain⟨ys,e⟩:=hi.allInts.items
 have hns:ns=ys.toList.map (·.1):=by rw[<-hi.numsOf,<-nums_intItems,<-e]
 have hl:=pl.isList
 rw[e] at hl
 refine sum_intListG (show X.A.handled=none from I.ok.hd hc) hl λh' tk t' hk=>?_
 refine⟨.int ns.sum,H,I.kept hk,⟨t',?_⟩,q⟩
 rw[preSum_eq,List.take_of_length_le (by simp),<-hns]
section
variable{prog:Program}{w:World}{A:Around}{E:Value->Shared->Prop}{s:Shared}{l:Addr}{xs:Array (Int×Tok)}
def xZ{Q:Value->Shared->Prop}(hl:s.heap.IsTuple l (intItems xs))
 (h:∀s₂:Shared,s₂= {s with heap:=s.heap.push {cls:=.type "tuple_iterator",data:=.fields #[.ref l,.int 0 0]}}→
   (s₂.heap.IsTupleIter s.heap.objs.size l 0/\s₂.heap.IsTuple l (intItems xs))->(∀b∈[s.heap.objs.size,l],b<s₂.heap.objs.size)->l≠s.heap.objs.size->(∀h':Heap,(∀b o,b∉[s.heap.objs.size]->s₂.heap.get? b=some o->h'.get? b=some o)->∀b o,s.heap.get? b=some o->h'.get? b=some o)->Q (.ref s.heap.objs.size) s₂) :
 wpAny (model prog w) A (pyIter (.ref l)) Q E s:=by
 have hlt:l<s.heap.objs.size:=by obtain⟨_,e,_⟩:=hl;exact Heap.lt_size e
 refine wpAny_pyIter_tuple hl (h _ rfl ⟨⟨_,Heap.get?_push_size _ rfl,rfl,rfl⟩,hl.push _⟩ (λb hb=>?_) (Nat.ne_of_lt hlt) λh' hk b o e=>?_)
 ·show b<(s.heap.push _).objs.size
  rw[Heap.size_push]
  rcases List.mem_cons.mp hb with rfl|hb
  ·exact Nat.lt_succ_self _
  ·rcases List.mem_cons.mp hb with rfl|hb
   ·exact Nat.lt_succ_of_lt hlt
   ·cases hb
 ·refine hk b o (λhm=>?_) (Heap.get?_push_of_some _ e)
  rcases List.mem_cons.mp hm with e1|hm
  ·exact absurd (e1▸Heap.lt_size e) (Nat.lt_irrefl _)
  ·cases hm
def Bb{Q:Value->Shared->Prop}(hh:A.handled=none)(hl:s.heap.IsTuple l (intItems xs))(hne:0<xs.size)
 (h:∀v h' tk,(intItems xs)[argBest (λi j=>decide (numAt xs i>numAt xs j)) (xs.size-1)]?=some v->(∀b o,s.heap.get? b=some o->h'.get? b=some o)->Q v {s with heap:=h',toks:=tk}) :
 wpAny (model prog w) A (call (.builtin "max") [.ref l]) Q E s:=by
 refine call_max_walk (xZ hl λs₂ e st hfp hlI hk0=>?_)
 subst e
 refine⟨_,_,_,_,_,_,_,rfl,Walks.tuple (A:=A.in1) hh _ l hlI (intItems xs),st,hfp,by simpa[intItems] using hne,CmpOf.ints_gt (numAt xs) (λ_ _=>intItems_at),λv h' tk hP hk=>?_⟩
 exact h v h' tk (by simpa[intItems] using hP) (hk0 h' hk)
end
def Zdi(K:PySem.W.Frag):List V->Hp->VK->Prop:=λxs H Q=>∃(p:Addr) (ns:List Int),xs=[.ref p]/\(ū K H p (ns.map V.int)\/bO K H p (ns.map V.int))/\0<ns.length/\∀M,M∈ns->(∀a∈ns,a<=M)->Q (.int M) H
def Jr(hc:X.calm=true):ř X (.builtin "max") (Zdi X.K):=by
 intro pins s σ H xs us Q I r h
 obtain⟨p,ns,rfl,hS,hne,q⟩:=h
 obtain⟨u,rfl,ru⟩:=vals1 r
 cases ru
 have fin:∀(ys:Array (Int×Tok)),ns=ys.toList.map (·.1)->0<ys.size->∀v h' tk,(intItems ys)[argBest (λi j=>decide (numAt ys i>numAt ys j)) (ys.size-1)]?=some v->(∀b o,s.heap.get? b=some o->h'.get? b=some o)->EP X pins σ Q v {s with heap:=h',toks:=tk}:=by
  intro ys hns hsz v h' tk hv hk
  obtain⟨t,rfl⟩:=intItems_at hv
  obtain⟨h1,h2⟩:=argBest_gt (numAt ys) (ys.size-1)
  refine⟨.int _,H,I.kept hk,⟨t,rfl⟩,q _ ?_ λa ha=>?_⟩
  ·rw[hns,numAt_eq]
   have hj:argBest (λi j=>decide (numAt ys i>numAt ys j)) (ys.size-1)<(ys.toList.map (·.1)).length:=by rw[List.length_map,Array.length_toList];omega
   rw[List.getD_eq_getElem?_getD,List.getElem?_eq_getElem hj]
   exact List.getElem_mem _
  ·rw[hns] at ha
   obtain⟨j,hj,rfl⟩:=List.mem_iff_getElem.mp ha
   rw[List.length_map,Array.length_toList] at hj
   have:=h2 j (by omega)
   rw[numAt_eq ys j,List.getD_eq_getElem?_getD,List.getElem?_eq_getElem (by rw[List.length_map,Array.length_toList];exact hj)] at this
   exact this
 rcases hS with hS|hS
 ·obtain⟨its,rv,pl,hz⟩:=I.list hS
  have hi:=ſ rv
  obtain⟨ys,e⟩:=hi.allInts.items
  have hns:ns=ys.toList.map (·.1):=by rw[<-hi.numsOf,<-nums_intItems,<-e]
  have hl:=pl.isList
  rw[e] at hl
  have hsz:0<ys.size:=by rw[hns,List.length_map,Array.length_toList] at hne;exact hne
  exact max_intList (show X.A.handled=none from I.ok.hd hc) hl hsz (fin ys hns hsz)
 ·obtain⟨its,rv,pl,hz⟩:=I.tuple hS
  have hi:=ſ rv
  obtain⟨ys,e⟩:=hi.allInts.items
  have hns:ns=ys.toList.map (·.1):=by rw[<-hi.numsOf,<-nums_intItems,<-e]
  have hl:s.heap.IsTuple p its.toArray:=pl
  rw[e] at hl
  have hsz:0<ys.size:=by rw[hns,List.length_map,Array.length_toList] at hne;exact hne
  exact Bb (show X.A.handled=none from I.ok.hd hc) hl hsz (fin ys hns hsz)
def Zdj(K:PySem.W.Frag):List V->Hp->VK->Prop:=λxs H Q=>∃(p:Addr) (ns:List Int),xs=[.ref p]/\ū K H p (ns.map V.int)/\0<ns.length/\∀M,M∈ns->(∀a∈ns,M<=a)->Q (.int M) H
def Js(hc:X.calm=true):ř X (.builtin "min") (Zdj X.K):=by
 intro pins s σ H xs us Q I r h
 obtain⟨p,ns,rfl,hS,hne,q⟩:=h
 obtain⟨u,rfl,ru⟩:=vals1 r
 cases ru
 obtain⟨its,rv,pl,hz⟩:=I.list hS
 have hi:=ſ rv
 obtain⟨ys,e⟩:=hi.allInts.items
 have hns:ns=ys.toList.map (·.1):=by rw[<-hi.numsOf,<-nums_intItems,<-e]
 have hl:=pl.isList
 rw[e] at hl
 have hsz:0<ys.size:=by rw[hns,List.length_map,Array.length_toList] at hne;exact hne
 refine min_intList (show X.A.handled=none from I.ok.hd hc) hl hsz λv h' tk hv hk=>?_
 obtain⟨t,rfl⟩:=intItems_at hv
 obtain⟨h1,h2⟩:=argBest_lt (numAt ys) (ys.size-1)
 refine⟨.int _,H,I.kept hk,⟨t,rfl⟩,q _ ?_ λa ha=>?_⟩
 ·rw[hns,numAt_eq]
  have hj:argBest (λi j=>decide (numAt ys i<numAt ys j)) (ys.size-1)<(ys.toList.map (·.1)).length:=by rw[List.length_map,Array.length_toList];omega
  rw[List.getD_eq_getElem?_getD,List.getElem?_eq_getElem hj]
  exact List.getElem_mem _
 ·rw[hns] at ha
  obtain⟨j,hj,rfl⟩:=List.mem_iff_getElem.mp ha
  rw[List.length_map,Array.length_toList] at hj
  have:=h2 j (by omega)
  rw[numAt_eq ys j,List.getD_eq_getElem?_getD,List.getElem?_eq_getElem (by rw[List.length_map,Array.length_toList];exact hj)] at this
  exact this
def intsOf:List PV->Option (List Int)
 | []=>some []
 | .int b::ps=>(intsOf ps).map (b:: ·)
 |_::_=>none
@[simp] theorem jm:∀ns:List Int,intsOf (ns.map PV.int)=some ns
  | []=>rfl
  |n::ns=>by rw[List.map_cons,intsOf,jm ns];rfl
theorem ints_rep{F:Hp}:∀{ps:List PV} {vs:List V} {bs:List Int},ě K F ps vs->intsOf ps=some bs->vs=bs.map V.int
 | [],vs,bs,r,h=>by
   cases h
   cases r.pr
   rfl
 |p::ps,vs,bs,r,h=>by
  cases r.pr with
  |cons r1 t=>
   cases p with
   |int b=>
    unfold intsOf at h
    obtain⟨cs,e,rfl⟩:=Option.map_eq_some_iff.mp h
    rw[ints_rep (ě.of t) e,show _=V.int b from r1]
    rfl
   |_=>cases h
def best(f:Int->Int->Int):List Int->Option Int
 | []=>none
 |n::ns=>some (ns.foldl f n)
theorem foldl_max:∀(ns:List Int) (n:Int),ns.foldl max n∈n::ns/\∀a∈n::ns,a<=ns.foldl max n
 | [],n=>by simp
 |m::ns,n=>by
  obtain⟨h1,h2⟩:=foldl_max ns (max n m)
  rw[List.foldl_cons]
  refine⟨?_,λa ha=>?_⟩
  ·rcases List.mem_cons.mp h1 with e|e
   ·rw[e]
    by_cases h:n<=m
    ·rw[Int.max_eq_right h];simp
    ·rw[Int.max_eq_left (by omega)];simp
   ·simp[e]
  ·have hm:=h2 (max n m) List.mem_cons_self
   rcases List.mem_cons.mp ha with rfl|ha
   ·omega
   ·rcases List.mem_cons.mp ha with rfl|ha
    ·omega
    ·exact h2 a (List.mem_cons_of_mem _ ha)
theorem foldl_min:∀(ns:List Int) (n:Int),ns.foldl min n∈n::ns/\∀a∈n::ns,ns.foldl min n<=a
 | [],n=>by simp
 |m::ns,n=>by
  obtain⟨h1,h2⟩:=foldl_min ns (min n m)
  rw[List.foldl_cons]
  refine⟨?_,λa ha=>?_⟩
  ·rcases List.mem_cons.mp h1 with e|e
   ·rw[e]
    by_cases h:n<=m
    ·rw[Int.min_eq_left h];simp
    ·rw[Int.min_eq_right (by omega)];simp
   ·simp[e]
  ·have hm:=h2 (min n m) List.mem_cons_self
   rcases List.mem_cons.mp ha with rfl|ha
   ·omega
   ·rcases List.mem_cons.mp ha with rfl|ha
    ·omega
    ·exact h2 a (List.mem_cons_of_mem _ ha)
def nO:List PV->Option PV
 | [.lst ps]=>(intsOf ps).map λns=>.int ns.sum
 |_=>none
def t_:List PV->Option PV
 | [.lst ps]=>((intsOf ps).bind (best max)).map .int
 | [.tup ps]=>((intsOf ps).bind (best max)).map .int
 |_=>none
def uc:List PV->Option PV
 | [.lst ps]=>((intsOf ps).bind (best min)).map .int
 |_=>none
def pZ:cH K (Zdh K.K) nO:=by
 intro c F H σ ρ ps pv vs Q rel r e k
 unfold nO at e
 split at e
 ·rename_i ps
  obtain⟨v,rfl,r1⟩:=xU r
  obtain⟨a,xs,rfl,h1,h2⟩:=r1.lst rel.sub
  obtain⟨ns,eb,rfl⟩:=Option.map_eq_some_iff.mp e
  exact⟨a,ns,rfl,by rw[<-ints_rep h2 eb];exact h1,k _ F H rel (Same.refl _) (Same.refl _) Rep.int⟩
 ·cases e
def Jt:cH K (Zdi K.K) t_:=by
 intro c F H σ ρ ps pv vs Q rel r e k
 have fin:∀(ps:List PV) (xs:List V),ě K F ps xs->((intsOf ps).bind (best max)).map PV.int=some pv->∃ns:List Int,xs=ns.map V.int/\0<ns.length/\∀M,M∈ns->(∀a∈ns,a<=M)->Q (.int M) H:=by
  intro ps xs h2 e
  obtain⟨m,em,rfl⟩:=Option.map_eq_some_iff.mp e
  obtain⟨ns,eb,hb⟩:=Option.bind_eq_some_iff.mp em
  cases ns with
  |nil=>cases hb
  |cons n ns=>
   cases hb
   obtain⟨z1,z2⟩:=foldl_max ns n
   refine⟨n::ns,ints_rep h2 eb,by simp,λM m1 m2=>?_⟩
   have:M=ns.foldl max n:=Int.le_antisymm (z2 M m1) (m2 _ z1)
   rw[this]
   exact k _ F H rel (Same.refl _) (Same.refl _) Rep.int
 unfold t_ at e
 split at e
 ·rename_i ps
  obtain⟨v,rfl,r1⟩:=xU r
  obtain⟨a,xs,rfl,h1,h2⟩:=r1.lst rel.sub
  obtain⟨ns,rfl,hl,hq⟩:=fin ps xs h2 e
  exact⟨a,ns,rfl,.inl h1,hl,hq⟩
 ·rename_i ps
  obtain⟨v,rfl,r1⟩:=xU r
  obtain⟨a,xs,rfl,h1,h2⟩:=r1.tup rel.sub
  obtain⟨ns,rfl,hl,hq⟩:=fin ps xs h2 e
  exact⟨a,ns,rfl,.inr h1,hl,hq⟩
 ·cases e
def Ju:cH K (Zdj K.K) uc:=by
 intro c F H σ ρ ps pv vs Q rel r e k
 unfold uc at e
 split at e
 ·rename_i ps
  obtain⟨v,rfl,r1⟩:=xU r
  obtain⟨a,xs,rfl,h1,h2⟩:=r1.lst rel.sub
  obtain⟨m,em,rfl⟩:=Option.map_eq_some_iff.mp e
  obtain⟨ns,eb,hb⟩:=Option.bind_eq_some_iff.mp em
  cases ns with
  |nil=>cases hb
  |cons n ns=>
   cases hb
   obtain⟨z1,z2⟩:=foldl_min ns n
   refine⟨a,n::ns,rfl,by rw[<-ints_rep h2 eb];exact h1,by simp,λM m1 m2=>?_⟩
   have:M=ns.foldl min n:=Int.le_antisymm (m2 _ z1) (z2 M m1)
   rw[this]
   exact k _ F H rel (Same.refl _) (Same.refl _) Rep.int
 ·cases e
@[simp] theorem Zey{i:Int}:Jq [.int i]=some (.int i):=rfl
@[simp] theorem Zez{b:Bool}:Jq [.bl b]=some (.int (if b then 1 else 0)):=rfl
@[simp] theorem iz{ps:List PV}:nO [.lst ps]=(intsOf ps).map λns=>.int ns.sum:=rfl
@[simp] theorem P_{ps:List PV}:t_ [.lst ps]=((intsOf ps).bind (best max)).map .int:=rfl
@[simp] theorem Qa{ps:List PV}:uc [.lst ps]=((intsOf ps).bind (best min)).map .int:=rfl
@[simp] theorem ZeA{f:Int->Int->Int}{n:Int}{ns:List Int}:best f (n::ns)=some (ns.foldl f n):=rfl
end
end P
namespace P
open PySem PySem.Spec PyProof.Rows L2 M2 M3 M4
def Zdk(K:PySem.W.Frag)(C:Addr):Bool:=PySem.W.plainGet K C Str.empty && PySem.W.hasDictIn K C && PySem.W.plainOver K C && PySem.W.findIn K (.ref C) "__setattr__" == some (some (.builtin "object.__setattr__"))
def jo{K:PySem.W.Frag}{C:Addr}(h:Zdk K C=true):Cls K C:=by
 unfold Zdk at h
 simp only[Bool.and_eq_true,beq_iff_eq] at h
 exact⟨h.1.1.1,h.1.1.2,h.1.2,h.2⟩
def Rb(K:PySem.W.Frag)(C:Addr)(m:Str)(f:Addr):Bool:=PySem.W.findIn K (.ref C) m== some (some (.ref f)) && PySem.W.isFn K (.ref f) && PySem.W.keepIn K (.ref f)
def jK{K:PySem.W.Frag}{C f:Addr}{m:Str}(h:Rb K C m f=true):Meth K C m f:=by
 unfold Rb at h
 simp only[Bool.and_eq_true,beq_iff_eq] at h
 exact⟨h.1.1,h.1.2,h.2⟩
def mkB(K:PySem.W.Frag)(C f:Addr):Bool:=PySem.W.makesIn K C && PySem.W.findIn K (.ref C) "__init__" == some (some (.ref f)) && PySem.W.isFn K (.ref f) && PySem.W.keepIn K (.ref C)
def qb{K:PySem.W.Frag}{C f:Addr}(h:mkB K C f=true):Mk K C f:=by
 unfold mkB at h
 simp only[Bool.and_eq_true,beq_iff_eq] at h
 exact⟨h.1.1.1,h.1.1.2,h.1.2,h.2⟩
section
variable{ρ:ń}{i n k:Nat}{C:String}{cs:List String}{f m:Str}{mv mo:M PV}{mi:MI}{ms:M (List Slot)}{mb:M Fl}{iG:List (String×MF)}{as:List Slot}{ns:List Str}{ps:List PV}
@[simp] theorem ZeB:iV i cs f mv ρ=(mv ρ).bind fun p ρ1=>match ρ1[i]? with
  |some (.rc C ns ps)=>if cs.contains C=true/\ns.length<1000 then .ok .nx (ρ1.set i (.rc C (putN f ns) (Ba f p ns ps))) else .bad
  |_=>.bad:=rfl
@[simp] theorem ZeC:cL n k C mb as=if as.length+1=n then IR.of (mb (.rc C [] []::startP (k-1) as)) else .bad:=rfl
@[simp] theorem Zga{C:String}:IR.of (.ok .nx (.rc C ns ps::ρ))=.ok ns ps:=rfl
@[simp] theorem ZeD:bK C mi ms ρ=(ms ρ).bind fun as ρ1=>match mi as with
  | .ok ns ps=>.ok (.ins C ns ps) ρ1
  | .exc x=>.exc x ρ1
  | .bad=>.bad:=rfl
@[simp] theorem Zgb:aD cs f (.ins C ns ps)=if cs.contains C=true then(ns.zip ps).lookup f else none:=rfl
@[simp] theorem Qc:pX m iG mo ms ρ=(mo ρ).bind fun p ρ1=>match p with
  | .ins C ns ps=>match iG.lookup C with
    |some mf=>if ns.contains m=true then .bad else(ms ρ1).bind λas ρ2=>match mf (.sh (.ins C ns ps)::as) with
     | .ret r=>.ok r ρ2
     | .exc x=>.exc x ρ2
     | .bad=>.bad
    |none=>.bad
  |_=>.bad:=rfl
end
end P
namespace M3
open PySem PySem.Spec PyProof.Rows L2 M2
section
variable{X:Cx}{elt tg iter:Expr}{ifs:List Expr}{scope:Scope}{pos:Pos}{wi:TI}{g:TG}{tt:TT}{te:TE}
def Qd{iv:Nat}{y:Str}{py spos:Pos}(hN:X.N.Nodup)(hiN:X.N[iv]?=some y)(hy:X.env.scope.names.lookup y=some .local)(hsw:swapsWith (.ListComp elt [⟨tg,iter,ifs,0⟩] scope pos) (some (.Name y py)) spos.line X.env=pure true)(N':List Str)(js:List Nat)(nl:Nat)(sc:Scope)(hsc:X.env.scope=sc)(hcalm:X.calm=true)
 (hi:PI X.Ŝ tg iter wi)(hg:∀cl C s H fp,PG (cT X.Ŝ N' scope cl C s H fp) tg g)(ht:∀cl C s H fp,GF (cT X.Ŝ N' scope cl C s H fp) ifs tt)(he:∀cl C s H fp,PE (cT X.Ŝ N' scope cl C s H fp) elt te)
 (hcap:dz X.Ŝ sc scope N' js)(hlen:js.length+nl=N'.length:=by rfl)
 (hk:scope.kind=.function:=by rfl)(hcell:∀y∈scope.names,y.2=.cell->scope.names.lookup y.1=some .cell:=by decide +kernel)(hnames:∀y∈scope.names,y.2=.local->scope.names.lookup y.1=some .local:=by decide +kernel)
 (hfree:∀y∈scope.names,y.2=.free->(sc.names.lookup y.1=some .cell\/sc.names.lookup y.1=some .free):=by decide +kernel)
 (hs:∀x,foldedSetIterable iter X.env x=pure x:=by intro _;rfl) :
 PS X.Ŝ (.Assign [.Name y py] (.ListComp elt [⟨tg,iter,ifs,0⟩] scope pos) spos) (λD σ H=>H_ js nl wi g tt te σ H λv H'=>D.nx (σ.set iv (some v)) H'):=by
 intro pins s σ H D I h
 obtain⟨cl0,c1,c2,c3⟩:=eG (scope:=scope) (env:=X.Ŝ.env) λy hy hf=>I.ok.has y.1 (by
  have:=hfree y hy hf
  rw[<-hsc] at this
  exact this)
 rw[exec_Assign_Name_used _ _ _ _ (show swapsWith _ _ _ X.Ŝ.env=pure true from hsw)]
 refine wpAny_bind (wpAny_standAt (wpAny_bind ?_))
 show wpAny _ X.A (do let _ <-comprehension (.ListComp elt [⟨tg,iter,ifs,0⟩] scope pos) scope X.Ŝ.env _ (newList []) false (eval iter X.Ŝ.env) (some (assign (.Name y py) X.Ŝ.env))) _ _ s
 refine wpAny_bind (wpAny_mono (wpAny_comprehension_free (Q:=λ_ s'=>SP X.Ŝ pins D .next s') (use:=some (assign (.Name y py) X.Ŝ.env)) rfl hs c1 hk hnames (ŕ (hi pins s σ H _ I h) λv s1 h1=>ŕ h1 λitv s2 h2=>?_)) (λ_ s' hq=>wpAny_pure (wpAny_pure hq)) λ_ _ e=>e)
 obtain⟨it,fp,tn,J,H2,e,I2,T,st2,f2,q2⟩:=h2
 subst e
 refine wpAny_newObj_type (iK (λh₁ hns₁ old Zaw=>?_))
 dsimp only at hns₁ old Zaw ⊢
 generalize hH3:s2.heap.push {cls:=.type "list",dict:=none,data:=.seq ([]:List Value).toArray}=bL at hns₁ old Zaw ⊢
 have hD:H2 s2.heap.objs.size=none:=I2.hok.fresh (Nat.le_refl _)
 have I3:Inv X.Ŝ pins σ (upd H2 s2.heap.objs.size (.lst [])) {s2 with heap:=bL}:=by
  rw[<-hH3]
  exact I2.laid (t':=s2.toks) (λb u e=>Heap.get?_push_of_some _ e) (Nat.le_refl _) ⟨Nat.zero_le _,[],0,.nil,Heap.get?_push_size _ rfl⟩
 have Ie:∀b∈fp,b<s2.heap.objs.size:=λb hb=>by
  obtain⟨o,ho,_⟩:=T.obj 0 _ st2 b hb
  exact Heap.lt_size ho
 have sz3:bL.objs.size=s2.heap.objs.size+1:=by rw[<-hH3,Heap.size_push]
 have f3:∀b∈fp,bx X.Ŝ pins (upd H2 s2.heap.objs.size (.lst [])) b:=λb hb=>by
  obtain⟨g0,g1⟩:=f2 b hb
  exact⟨by rw[Ĝ (Nat.ne_of_lt (Ie b hb))];exact g0,g1⟩
 have B:=Ia (X:=X.Ŝ) (cl:=cl0) hcell c2 c3 (λx c e=>by
  obtain⟨v,o,ho,_⟩:=I3.cell x c e
  exact Heap.lt_size ho) Zaw
 generalize cellsFrom (bL.objs.size+1) scope.names cl0=cl at B ⊢
 obtain⟨W,⟨m0,w0⟩,turn⟩:=q2 s2.heap.objs.size hD
 have I4:=tK (X:=X.Ŝ) (N':=N') (js:=js) (nl:=nl) (sc:=sc) (scope:=scope) (cl:=cl) (fp:=fp) (h':=h₁) (tk:=s2.toks) hsc hk hcap hlen B I3 f3 (λb hb=>by show b<bL.objs.size;rw[sz3];exact Nat.lt_succ_of_lt (Ie b hb)) hns₁ old
 have st4:tn 0 h₁:= T.keep 0 _ _ st2 λb hb o e=>old b o (by rw[<-hH3];exact Heap.get?_push_of_some _ e)
 have fr4:∀b∈fp,(upd H2 s2.heap.objs.size (.lst [])) b=none:=λb hb=>(f3 b hb).1
 have stat:∀{H':Hp},(∀b∈fp,H' b=none)->∀b∈fp,bx (cT X.Ŝ N' scope cl bL.objs.size {s2 with heap:=bL} (upd H2 s2.heap.objs.size (.lst [])) fp) [] H' b:=fun{H'} hn b hb=>by
  obtain⟨g0,g1,g2,g3,g4,g5⟩:=f3 b hb
  refine⟨hn b hb,Nat.ne_of_lt (by show b<bL.objs.size;rw[sz3];exact Nat.lt_succ_of_lt (Ie b hb)),λz=>?_,.inl hb,λx c e=>by
   rcases B.at_ x c e with⟨q,_⟩|⟨q,_⟩
   ·exact g4 x c q
   ·exact Nat.ne_of_gt (Nat.lt_trans (by show b<bL.objs.size;rw[sz3];exact Nat.lt_succ_of_lt (Ie b hb)) q),λp hp=>absurd hp (by simp[cT])⟩
  rcases List.mem_cons.mp (I3.oW b z) with z|z
  ·exact g1 z
  ·exact g2 z
 have loop:∀s₃:Shared,s₃= {s2 with heap:=h₁}->
  codeAny (model X.prog X.w) X.A (.compLoop (.ListComp elt [⟨tg,iter,ifs,0⟩] scope pos) 0 (.ref it) (.ref s2.heap.objs.size) (compEnvC scope cl bL.objs.size X.Ŝ.env))
   (compPost (model X.prog X.w) X.A X.Ŝ.xe (some (assign (.Name y py) X.Ŝ.env)) (λ_ s'=>SP X.Ŝ pins D .next s') (.ref s2.heap.objs.size) bL.objs.size) s₃:= by
  rintro s₃ rfl
  refine jD (λn s'=>∃i σ' H',Inv (cT X.Ŝ N' scope cl bL.objs.size {s2 with heap:=bL} (upd H2 s2.heap.objs.size (.lst [])) fp) [] σ' H' s'/\tn i s'.heap/\(∀b∈fp,H' b=none)/\W i n σ' H') ?_ m0 ⟨0,_,_,I4,st4,fr4,w0⟩
  rintro n s5 ⟨i,σ5,H5,I5,NK,YD,w5⟩
  rcases turn i n σ5 H5 w5 with⟨stop,qn⟩|⟨go,N,hN,step⟩
  ·refine ŕ (T.done (cT X.Ŝ N' scope cl bL.objs.size {s2 with heap:=bL} (upd H2 s2.heap.objs.size (.lst [])) fp) rfl rfl rfl hcalm i [] s5 σ5 H5 (λ_ _=>False) I5 (stat YD) NK stop) λr s6 ⟨hr,I6⟩=>?_
   subst hr
   obtain⟨m,hm,_⟩:=I6.loc
   have I7:Inv X.Ŝ pins σ H5 s6:=pF (h':=s6.heap) I3 f3 I6 (λb u hb e=>e)
   have hCL:bL.objs.size≠X.Ŝ.env.locals:=Nat.ne_of_gt I3.lt
   have hcC:∀x c,X.Ŝ.env.cells.lookup x=some c->c≠bL.objs.size:=λx c e z=>by
    obtain⟨v,o,ho,_⟩:=I3.cell x c e
    exact absurd (Heap.lt_size ho) (by rw[z];exact Nat.lt_irrefl _)
   have hpC:∀p∈X.Ŝ.pn++pins,p.1≠bL.objs.size:=λp hp z=>by
    have:=Heap.lt_size (I3.pin p hp).1
    rw[z] at this
    exact Nat.lt_irrefl _ this
   have hnC:H5 bL.objs.size=none:=I6.free
   refine wpAny_assign_Name (sU (X:=X.Ŝ) (i:=iv) I7 hN hiN (.inl hy) (v:=.ref s2.heap.objs.size) rfl (λs8 I8 ⟨a8,sb8,ha8⟩=>?_) (.inr hy))
   have ne8:bL.objs.size≠a8:=by
    rcases ha8 with rfl|ha8
    ·exact hCL
    ·exact λz=>hcC _ _ ha8 z.symm
   refine⟨m,hm.sameBut sb8 ne8,λh' hs'=>⟨_,H5,?_,qn⟩⟩
   have kp:∀b o,b≠bL.objs.size->s8.heap.get? b=some o->h'.get? b=some o:=λb o hb e=>hs'.extBut b o hb e
   have kp':∀b o,b∉[bL.objs.size]->s8.heap.get? b=some o->h'.get? b=some o:=λb o hb e=>kp b o (λz=>hb (by rw[z];exact List.mem_cons_self)) e
   refine I8.call' (ch:=[bL.objs.size]) (s':={s8 with heap:=h'}) rfl ⟨λb o e _ _ hx=>kp' b o hx e,λb o e _ _ hx=>⟨o.slots,kp' b o hx e⟩,λb o _ n _=>n,λb o e hx=>⟨o,kp' b o hx e⟩,λ_ _ q=>q,λ_ _ _ q=>q,λ_ ps q=>q⟩ (Dd I8.hok hnC kp) I8.bare λb hb=>?_
   cases List.mem_singleton.mp hb
   exact⟨.inr I3.sz,hCL,hcC,hpC⟩
  ·refine ŕ (T.item (cT X.Ŝ N' scope cl bL.objs.size {s2 with heap:=bL} (upd H2 s2.heap.objs.size (.lst [])) fp) rfl rfl rfl hcalm i [] s5 σ5 H5 (λ_ _=>False) I5 (stat YD) NK go) λr s6 ⟨u,hr,h6⟩=>?_
   subst hr
   refine ŕ h6 λ_ s7 ⟨x,H7,I7,r7,y7,st7,fr7⟩=>?_
   have I7':=I7.pinned (stat fr7) (T.obj _ _ st7)
   have again:∀{s8:Shared} {σ8:L2.St} {H8:Hp},Inv (cT X.Ŝ N' scope cl bL.objs.size {s2 with heap:=bL} (upd H2 s2.heap.objs.size (.lst [])) fp) ([]++kZ fp s7.heap) σ8 H8 s8->
    Inv (cT X.Ŝ N' scope cl bL.objs.size {s2 with heap:=bL} (upd H2 s2.heap.objs.size (.lst [])) fp) [] σ8 H8 s8/\tn (i+1) s8.heap/\∀b∈fp,H8 b=none:=fun{s8 σ8 H8} I8=>by
    refine⟨I8.dg,T.keep _ _ _ st7 λb hb o e=>(I8.pin (b,o) (List.mem_append_right _ (List.mem_append_right _ (Ů hb e)))).1,λb hb=>?_⟩
    obtain⟨o,e,d⟩:=T.obj _ _ st7 b hb
    exact(I8.pin (b,o) (List.mem_append_right _ (List.mem_append_right _ (Ů hb e)))).2.1
   refine ŕ (hg cl _ _ _ fp _ s7 σ5 H7 x u _ I7' r7 (step x H7 y7)) λ_ s8 ⟨σ8,H8,I8,q8⟩=>?_
   refine ŕ (ht cl _ _ _ fp _ s8 σ8 H8 _ I8 q8) λc s9 ⟨H9,I9,q9⟩=>?_
   cases c with
   |false=>
    rw[if_neg Bool.false_ne_true] at q9 ⊢
    obtain⟨m',hm',w9⟩:=hN _ _ q9
    obtain⟨a1,a2,a3⟩:=again I9
    exact⟨m',hm',i+1,σ8,H9,a1,a2,a3,w9⟩
   |true=>
    rw[if_pos rfl] at q9 ⊢
    refine ŕ (he cl _ _ _ fp _ s9 σ8 H9 _ I9 q9) λyv s10 ⟨y,H10,I10,r10,ys,e10,l10,w10⟩=>?_
    refine ŕ (ś _ s10 σ8 H10 (.ref s2.heap.objs.size) [y] (.ref s2.heap.objs.size) [yv] (λ_ H11=>N σ8 H11) I10 rfl (.cons r10 .nil) ⟨_,ys,y,rfl,rfl,e10,l10,w10⟩) λ_ s11 ⟨v11,H11,I11,_,w11⟩=>?_
    obtain⟨a1,a2,a3⟩:=again I11
    obtain⟨m',hm',w11⟩:=hN _ _ w11
    exact⟨m',hm',i+1,σ8,H11,a1,a2,a3,w11⟩
 exact codeAny_compStart_list (loop _ rfl) (T.self _ 0 _ _ _ st4 (loop _ rfl))
end
end M3
namespace P
open PySem PySem.Spec PyProof.Rows L2 M2 M3 M4
section
variable{X:Cx}{cm:String->Addr}{E:L2.St->XK}{elt tg iter:Expr}{ifs:List Expr}{scope:Scope}{pos:Pos}{mi:M (List PV)}{g:Tg}{mt:M Bool}{me:M PV}
theorem PS.Ŝ{st:Stmt}{t:TS}(h:PS X.Ŝ st t):PS X st t:=λpins s σ H D I hw=>
 wpAny_mono (h pins s σ H D (I.wish _) hw) (λ_ _ q=>q.dY) λ_ _ z=>False.elim z
def ZaS{i:Nat}{y:Str}{py spos:Pos}(hN:X.N.Nodup)(hi0:X.N[i]?=some y)(hy:X.env.scope.names.lookup y=some .local)(N':List Str)(js:List Nat)(nl:Nat)(sc:Scope)(hsc:X.env.scope=sc)(hcalm:X.calm=true)
 (hi:PI X.Ŝ tg iter (tI (kk X cm) E mi))(hg:∀cl C s H fp,PG (cT X.Ŝ N' scope cl C s H fp) tg (tT (kk X cm) g))(ht:∀cl C s H fp,GF (cT X.Ŝ N' scope cl C s H fp) ifs (tB (kk X cm) EF mt))(he:∀cl C s H fp,PE (cT X.Ŝ N' scope cl C s H fp) elt (tV (kk X cm) EF me))
 (hcap:dz X.Ŝ sc scope N' js)(hlen:js.length+nl=N'.length:=by rfl)
 (hk:scope.kind=.function:=by rfl)(hcell:∀y∈scope.names,y.2=.cell->scope.names.lookup y.1=some .cell:=by decide +kernel)(hnames:∀y∈scope.names,y.2=.local->scope.names.lookup y.1=some .local:=by decide +kernel)
 (hfree:∀y∈scope.names,y.2=.free->(sc.names.lookup y.1=some .cell\/sc.names.lookup y.1=some .free):=by decide +kernel)
 (hs:∀x,foldedSetIterable iter X.env x=pure x:=by intro _;rfl)(hsw:swapsWith (.ListComp elt [⟨tg,iter,ifs,0⟩] scope pos) (some (.Name y py)) spos.line X.env=pure true:=by rfl) :
 PS X (.Assign [.Name y py] (.ListComp elt [⟨tg,iter,ifs,0⟩] scope pos) spos) (tS (kk X cm) E (Ĩ i (ĵ js nl mi g mt me))):=
 PS.wk (PS.Ŝ (Qd hN hi0 hy hsw N' js nl sc hsc hcalm (QL hi) hg ht he hcap hlen hk hcell hnames hfree hs)) fun D σ H ⟨c,F,ρ,rel,h⟩=>xO ⟨c,F,ρ,rel,ů.bind h fun r ρ1 v F1 H1 Ė s1 q h1=>by
   cases r with
   |sh p=>exact h1 _ F1 H1 (Ė.put rfl ⟨v,rfl,q⟩) (Same.refl _)
   |ow ps=>
    obtain⟨a,vs,rfl,q1,q2,q3,q4,q5⟩:=q
    exact h1 _ F1 H1 (Ė.O_ ⟨a,vs,rfl,q1,q2,q3,q5⟩ λ_ z=>V.ref.inj z▸q4) (Same.refl _)
   |ot ps qs=>
    obtain⟨p,a,xs,vs,rfl,q0,qx,q1,q2,q3,q4,q5⟩:=q
    exact h1 _ F1 H1 (Ė.O_ (s:=.ot ps qs) ⟨p,a,xs,vs,rfl,q0,qx,q1,q2,q3,q5⟩ λ_ z=>oN (ps:=ps) (qs:=qs) z ⟨p,xs,rfl,q0⟩▸q4) (Same.refl _)⟩
end
end P
namespace P
open PySem PySem.Spec PyProof.Rows L2 M2 M3 M4
def MtV(K:KK)(r:V->List V->Hp->VK->Prop)(f:PV->List PV->Option PV):Prop:=∀{c:Ctx} {F H:Hp} {σ:L2.St} {ρ:ń} {p:PV} {ps:List PV} {pv:PV} {v:V} {vs:List V} {Q:VK},Rel K c F H σ ρ->rR K c σ ρ F H p v->rRL K c σ ρ F H ps vs->f p ps=some pv->
 (∀z F' H',Rel K c F' H' σ ρ->Same F F'->Same H H'->Rep K F' pv z->Q z H')->r v vs H Q
section
variable{X:Cx}{cm:String->Addr}{K:KK}{E:L2.St->XK}{o e:Expr}{es:List Expr}{name:Str}{apos cpos:Pos}{id:String}{r:V->List V->Hp->VK->Prop}{f:PV->List PV->Option PV}{mo:M PV}{ms:M (List PV)}
end
end P
namespace P
open PySem PySem.Spec PyProof.Rows L2 M2 M3 M4
section
variable{X:Cx}{pins:List (Addr×Obj)}{σ:L2.St}{H:Hp}{s:Shared}{h':Heap}
def turns{t':Nat}{fp:List Addr}(I:Inv X pins σ H s)(k:∀b o,b∉fp->s.heap.get? b=some o->h'.get? b=some o)(hf:∀b∈fp,bx X pins H b):Inv X pins σ H {s with heap:=h',toks:=t'}:=by
 have nit:∀b u,H b=some u->b∉fp:=λb u e z=>by rw[(hf b z).1] at e;cases e
 have hL:X.env.locals∉fp:=λz=>(hf _ z).2.1 rfl
 refine I.step (g':=s.gens) (d':=s.drawn) (ch:=fp) (λb hb=>?_) (λb o _ _ hc e _=>k b o hc e) (λb o _ _ hc e _=>⟨o.slots,k b o hc e⟩) (λ_ _ _ _ n=>n)
  (λb o hc e=>⟨o,k b o hc e⟩) (λ_ _ e=>e) (λ_ _ _ e=>e) (λb ps e=>e) (λm hm=>?_) (λb u e=>?_) I.bare
 ·obtain⟨f0,f1,f2,f3,f4,f5⟩:=hf b hb
  exact⟨f3,f1,f4,f5⟩
 ·obtain⟨o,es,ep,ho,r⟩:=hm
  exact⟨o,es,ep,k _ o hL ho,r⟩
 ·refine(I.hok b u e).stay (λc v hc q=>k c v ?_ q) (λ_ q=>q) λ_ _ q=>q
  rcases hc with z|z
  ·rw[z];exact nit b u e
  ·exact nit c _ z
def ZaT{a b:Addr}{o:HO}(f:bx X pins H b)(h:b≠a):bx X pins (upd H a o) b:=⟨by rw[Ĝ h];exact f.1,f.2⟩
def qd{t':Nat}{fp:List Addr}{u1 u2:Value}{x1 x2:V}(I:Inv X pins σ H s)(r1:RelV x1 u1)(r2:RelV x2 u2)(ht:∃o,h'.get? s.heap.objs.size=some o/\o= {cls:=.type "tuple",data:=.seq #[u1,u2]})
 (k:∀b o,b∉fp->s.heap.get? b=some o->h'.get? b=some o)(hf:∀b∈fp,bx X pins H b)(hlt:∀b∈fp,b<s.heap.objs.size) :
 Inv X pins σ (upd H s.heap.objs.size (.tup [x1,x2])) {s with heap:=h',toks:=t'}:=by
 have I1:Inv X pins σ (upd H s.heap.objs.size (.tup [x1,x2])) {s with heap:=s.heap.push {cls:=.type "tuple",data:=.seq #[u1,u2]},toks:=s.toks}:=
  I.laid (t':=s.toks) (λb u e=>Heap.get?_push_of_some _ e) (Nat.le_refl _) ⟨by show 2<=sizeLine;decide,[u1,u2],.cons r1 (.cons r2 .nil),⟨_,Heap.get?_push_size _ rfl,rfl,_,rfl⟩⟩
 refine turns (fp:=fp) (s:={s with heap:=s.heap.push {cls:=.type "tuple",data:=.seq #[u1,u2]},toks:=s.toks}) (h':=h') (t':=t') I1 (λb o hb e=>?_) λb hb=>ZaT (hf b hb) (Nat.ne_of_lt (hlt b hb))
 rcases Heap.get?_push_cases e with⟨rfl,rfl⟩|e
 ·obtain⟨o,h1,h2⟩:=ht
  rw[h1,h2]
 ·exact k b o hb e
end
def Ite(K:PySem.W.Frag)(a:Addr):It:=
 ⟨λi H=>∃xs x,ū K H a xs/\xs[i]?=some x,λi H y H'=>∃x T,(∀xs,ū K H a xs->xs[i]?=some x)/\H T=none/\y=.ref T/\H'=upd H T (.tup [.int i,x]),λi H=>∃xs,ū K H a xs/\xs.length<=i⟩
def Gj{P:Program}{w:World}{K:PySem.W.Frag}{elts:List Expr}{k:Nat}{pos:Pos}(a e it:Addr)(hne:e≠it):Turn P w K (.Tuple elts k pos) (Ite K a) [e,it] e (λi h=>(∃old,IsEnum h e it i old)/\h.IsListIter it a i) where
 mem:=by simp
 obj:=λi h st b hb=>by
  obtain⟨⟨old,he⟩,hit⟩:=st
  rcases List.mem_cons.mp hb with rfl|hb
  ·exact⟨_,he,fun v z=>by
    have z':Data.fields _=Data.cell v:=z
    cases z'⟩
  ·have e':b=it:=by simpa using hb
   subst e'
   obtain⟨o,e1,c,d⟩:=hit
   exact⟨o,e1,λv z=>by rw[d] at z;cases z⟩
 keep:=λi h h' st k=>⟨let ⟨old,he⟩:=st.1;⟨old,k e (by simp) _ he⟩,st.2.at λo q=>k it (by simp) o q⟩
 item:=by
  intro X hP hw hK hc i pins s σ H E I hf st hg
  subst hP hw hK
  obtain⟨⟨old,he⟩,hit⟩:=st
  obtain⟨xs,x,hq,hx⟩:=hg
  obtain⟨its,rv,p,hz⟩:=I.list hq
  obtain⟨u,hu,ru⟩:=rv.get hx
  have elt:e<s.heap.objs.size:=Heap.lt_size he
  have ilt:it<s.heap.objs.size:=by obtain⟨_,q,_⟩:=hit;exact Heap.lt_size q
  refine wpAny_pyNext_enum_item he hit p.isList (x:=u) (by simpa using hu) hne λh' ho hit' hT hsz hk=>?_
  refine⟨.ref s.heap.objs.size,rfl,wpAny_letOwnedTupleGo_enum ho λh'' he' hs'=>?_⟩
  have hs2:Heap.SameBut e h' h'':=hs'
  have hlt:∀b∈[e,it],b<s.heap.objs.size:=λb hb=>by
   rcases List.mem_cons.mp hb with rfl|hb
   ·exact elt
   ·have e':b=it:=by simpa using hb
    subst e';exact ilt
  have I2:=qd (fp:=[e,it]) (h':=h'') (t':=s.toks+1) (x1:=.int i) I ⟨s.toks,rfl⟩ ru ⟨_,(hs2.2 _ (Nat.ne_of_gt elt)).trans hT,rfl⟩ (λb o hb q=>by
   have hbe:b≠e:=λz=>hb (by simp[z])
   have hbi:b≠it:=λz=>hb (by simp[z])
   exact(hs2.2 b hbe).trans (hk b o hbe hbi q)) hf hlt
  refine⟨.ref s.heap.objs.size,_,I2,rfl,⟨x,s.heap.objs.size,λys hy=>by rw[I.oY hy hq];exact hx,I.fresh,rfl,rfl⟩,⟨⟨u,?_⟩,hit'.at λo q=>(hs2.2 it hne.symm).trans q⟩,λb hb=>?_⟩
  ·have he2:IsEnum h'' e it ((i:Int)+1) u:=he'
   show IsEnum h'' e it (((i+1:Nat):Int)) u
   rw[Int.natCast_add]
   exact he2
  ·rw[Ĝ (Nat.ne_of_lt (hlt b hb))];exact(hf b hb).1
 done:=by
  intro X hP hw hK hc i pins s σ H E I hf st hg
  subst hP hw hK
  obtain⟨⟨old,he⟩,hit⟩:=st
  obtain⟨xs,hq,hx⟩:=hg
  obtain⟨its,rv,p,hz⟩:=I.list hq
  have hl:=rv.length
  refine wpAny_pyNext_enum_end (I.ok.hd hc) he hit p.isList (by simp;omega) λh' eb=>⟨rfl,turns (fp:=[e,it]) (t':=s.toks) I (λb o hb q=>eb b o (λz=>hb (by simp[z])) q) hf⟩
 self:=λ_ _ _ _ _ st h=>let ⟨_,he⟩:=st.1;wpAny_pyIter_enum he h
section
variable{X:Cx}{elts:List Expr}{k:Nat}{tp:Pos}
def Zdl(K:PySem.W.Frag)(ta:TA):TI:=λσ H R=>ta σ H λvs H1=>∃a,vs=[.ref a]/\(∃xs,ū K H1 a xs)/\R (Ite K a) H1
def Qe{l:Expr}{ta:TA}{p pos:Pos}(hg:Gl X "enumerate")(hm:X.mg "enumerate" =none)(ha:PA X [l] ta)(hs:starEach [l] X.env=[(false,eval l X.env)]:=by exact aj rfl):PI X (.Tuple elts k tp) (.Call (.Name "enumerate" p) [l] [] pos) (Zdl X.K ta):=by
 intro pins s σ H R I h
 refine Call_ (gb I hg hm boot_enumerate (PyProof.Rows.callWith_type1 (ŕ (ha pos pins s σ H _ I h) λus s1 ⟨vs,H1,I1,r1,q1⟩=>?_) hs rfl))
 obtain⟨a,e,⟨xs,hq⟩,q⟩:=q1
 subst e
 obtain⟨u,rfl,ru⟩:=r1.one
 cases ru
 obtain⟨its,rv,pl,hz⟩:=I1.list hq
 refine call_enumerate_list pl.isList λh' he hit hsz hk=>?_
 have I2:Inv X pins σ H1 {s1 with heap:=h'}:=I1.kept (t':=s1.toks) hk
 refine wpAny_pyIter_enum (s:={s1 with heap:=h'}) he ⟨s1.heap.objs.size+1,[s1.heap.objs.size+1,s1.heap.objs.size],_,_,H1,rfl,I2,Gj a _ _ (Nat.succ_ne_self _),⟨⟨_,he⟩,hit⟩,λb hb=>?_,q⟩
 have hb':s1.heap.objs.size<=b:=by
  rcases List.mem_cons.mp hb with rfl|hb
  ·exact Nat.le_succ _
  ·have e':b=s1.heap.objs.size:=by simpa using hb
   exact Nat.le_of_eq e'.symm
 exact I1.rN hb' (I1.hok.fresh hb')
end
def rLs(K:KK):RR (List PV) V:=λc _ _ F H items v=>∃a,v=.ref a/\(∃xs,ū K.K H a xs)/\eV K c.L F (YB K.K a) items
def rTs(K:KK):RR (List PV) V:=λc _ _ F H items v=>∃a,v=.ref a/\(∃xs,bO K.K H a xs)/\eV K c.L F (Itt K.K a) items
def rSq(K:KK):RR (List PV) V:=λc σ ρ F H items v=>rLs K c σ ρ F H items v\/rTs K c σ ρ F H items v
def gH{K:KK}{L F:Hp}{ps:List PV}{v:V}(h:Rep K F (.lst ps) v):∃a,v=.ref a/\(∃xs,ū K.K F a xs)/\eV K L F (YB K.K a) ps:=by
 unfold Rep at h
 obtain⟨a,vs,rfl,e1,e2⟩:=h
 refine⟨a,rfl,⟨vs,e1⟩,?_⟩
 intro c' i F2 H2 σ2 ρ2 Ĵ sF _
 have hq:ū K.K H2 a vs:=(sF.trans Ĵ.sub).seq e1
 refine⟨λp hp=>?_,λhi=>⟨vs,hq,by rw[hi,e2.length];exact Nat.le_refl _⟩⟩
 obtain⟨u,hu,ru⟩:=aR e2.pr hp
 refine⟨⟨vs,u,hq,hu⟩,λx H' ⟨hH,hx⟩=>?_⟩
 subst hH
 have:vs[i]?=some x:=hx vs hq
 rw[hu] at this
 cases this
 exact⟨F2,Ĵ,Same.refl _,Same.refl _,Rep.same sF p u ru⟩
def Jv{K:KK}{L F:Hp}{ps:List PV}{v:V}(h:Rep K F (.tup ps) v):∃a,v=.ref a/\(∃xs,bO K.K F a xs)/\eV K L F (Itt K.K a) ps:=by
 unfold Rep at h
 obtain⟨a,vs,rfl,e1,e2⟩:=h
 refine⟨a,rfl,⟨vs,e1⟩,?_⟩
 intro c' i F2 H2 σ2 ρ2 Ĵ sF _
 have hq:bO K.K H2 a vs:=Same.tup (sF.trans Ĵ.sub) e1
 refine⟨λp hp=>?_,λhi=>⟨vs,hq,by rw[hi,e2.length];exact Nat.le_refl _⟩⟩
 obtain⟨u,hu,ru⟩:=aR e2.pr hp
 refine⟨⟨vs,u,hq,hu⟩,λx H' ⟨hH,hx⟩=>?_⟩
 subst hH
 have:vs[i]?=some x:=hx vs hq
 rw[hu] at this
 cases this
 exact⟨F2,Ĵ,Same.refl _,Same.refl _,Rep.same sF p u ru⟩
def ud{K:KK}{c:Ctx}{F:Hp}{a:Addr}{vs:List V}{ps:List PV}(h2:c.L a=some (.lst vs))(h3:ě K F ps vs):eV K c.L F (YB K.K a) ps:=by
 intro c' j F2 H2 σ2 ρ2 Ĵ sF sL
 have hq:ū K.K H2 a vs:=ū.of (sL a _ h2)
 refine⟨λp hp=>?_,λhi=>⟨vs,hq,by rw[hi,h3.length];exact Nat.le_refl _⟩⟩
 obtain⟨u,hu,ru⟩:=aR h3.pr hp
 refine⟨⟨vs,u,hq,hu⟩,λx H' ⟨hH,hx⟩=>?_⟩
 subst hH
 have:vs[j]?=some x:=hx vs hq
 rw[hu] at this
 cases this
 exact⟨F2,Ĵ,Same.refl _,Same.refl _,Rep.same sF p u ru⟩
def eV.mono{K:KK}{L F F1:Hp}{J:It}{ps:List PV}(h:eV K L F J ps)(s:Same F F1):eV K L F1 J ps:=λc i F2 H σ ρ rel sF sL=>h c i F2 H σ ρ rel (s.trans sF) sL
def mLs(m:M PV):M (List PV):=λρ=>(m ρ).bind λp ρ1=>match p with
 | .lst ps=>.ok ps ρ1
 |_=>.bad
def Gk(i:Nat):M (List PV):=λρ=>match ρ[i]? with
 |some (.bw ps)=>.ok ps ρ
 |some (.sh (.lst ps))=>.ok ps ρ
 |some (.ow ps)=>.ok ps (ρ.set i (.sh (.lst ps)))
 |_=>.bad
def Jw(i:Nat):M (List PV):=λρ=>match ρ[i]? with
 |some (.bw ps)=>.ok ps ρ
 |some (.sh (.lst ps))=>.ok ps ρ
 |some (.sh (.tup ps))=>.ok ps ρ
 |some (.ow ps)=>.ok ps (ρ.set i (.sh (.lst ps)))
 |_=>.bad
section
variable{X:Cx}{cm:String->Addr}{E:L2.St->XK}{e:Expr}{m:M PV}
def Zgc(h:PE X e (tV (kk X cm) E m)):PE X e (tG (kk X cm) E (rLs (kk X cm)) (mLs m)):=PE.wk h λσ H Q ⟨c,F,ρ,rel,h⟩=>⟨c,F,ρ,rel,h.bind λp ρ1 v F1 H1 Ė s1 s2 q h1=>by
 cases p with
 |lst ps=>
  obtain⟨a,e1,⟨xs,e2⟩,e3⟩:=gH (L:=c.L) (show Rep (kk X cm) F1 (.lst ps) v from q)
  exact h1 v F1 H1 Ė (Same.refl _) (Same.refl _) ⟨a,e1,⟨xs,Ė.sub.seq e2⟩,e3⟩
 |_=>exact h1.elim⟩
def Rf(i:Nat){x:Str}{px:Pos}(hN:X.N[i]?=some x:=by rfl)(hv:zH X.env.scope x:=by first|exact Or.inl rfl|exact Or.inr (Or.inl rfl)|exact Or.inr (Or.inr rfl))(hd:(x== ("__debug__" :Str))=false:=by decide)
 (hcd:(x== ("__classdict__" :Str))=false:=by decide):PE X (.Name x px) (tG (kk X cm) E (rSq (kk X cm)) (Jw i)):=PE.wk (dX hN hv hd hcd) λσ H Q ⟨c,F,ρ,rel,h⟩=>by
 unfold Jw at h
 cases e:ρ[i]? with
 |none=>rw[e] at h;exact h.elim
 |some sl=>
  rw[e] at h
  cases sl with
  |no=>exact h.elim
  |rc C ns ps=>exact h.elim
  |ot ps qs=>exact h.elim
  |ol Di=>exact h.elim
  |ow ps=>
   obtain⟨a,vs,z1,z2,z3,z4⟩:=rel.share e
   obtain⟨a',e1,⟨xs,e2⟩,e3⟩:=gH (L:=c.L) z3
   cases e1
   exact⟨.ref a,z1,h _ _ H z4 (Same.upd z2) (Same.refl _) (.inl ⟨a,rfl,⟨xs,z4.sub.seq e2⟩,e3⟩)⟩
  |bw ps=>
   obtain⟨a,vs,h1,h2,h3⟩:=rel.slot i _ e
   exact⟨.ref a,at_of h1,h _ F H rel (Same.refl _) (Same.refl _) (.inl ⟨a,rfl,⟨vs,ū.of (rel.lent a _ h2).1⟩,ud h2 h3⟩)⟩
  |sh p=>
   obtain⟨v,h1,h2⟩:=rel.slot i _ e
   cases p with
   |lst ps=>
    obtain⟨a,e1,⟨xs,e2⟩,e3⟩:=gH (L:=c.L) h2
    exact⟨v,at_of h1,h v F H rel (Same.refl _) (Same.refl _) (.inl ⟨a,e1,⟨xs,rel.sub.seq e2⟩,e3⟩)⟩
   |tup ps=>
    obtain⟨a,e1,⟨xs,e2⟩,e3⟩:=Jv (L:=c.L) h2
    exact⟨v,at_of h1,h v F H rel (Same.refl _) (Same.refl _) (.inr ⟨a,e1,⟨xs,Same.tup rel.sub e2⟩,e3⟩)⟩
   |_=>exact h.elim
def Jx(i:Nat){x:Str}{px:Pos}(hN:X.N[i]?=some x:=by rfl)(hv:zH X.env.scope x:=by first|exact Or.inl rfl|exact Or.inr (Or.inl rfl)|exact Or.inr (Or.inr rfl))(hd:(x== ("__debug__" :Str))=false:=by decide)
 (hcd:(x== ("__classdict__" :Str))=false:=by decide):PE X (.Name x px) (tG (kk X cm) E (rLs (kk X cm)) (Gk i)):=PE.wk (dX hN hv hd hcd) λσ H Q ⟨c,F,ρ,rel,h⟩=>by
 unfold Gk at h
 cases e:ρ[i]? with
 |none=>rw[e] at h;exact h.elim
 |some sl=>
  rw[e] at h
  cases sl with
  |no=>exact h.elim
  |rc C ns ps=>exact h.elim
  |ot ps qs=>exact h.elim
  |ol Di=>exact h.elim
  |ow ps=>
   obtain⟨a,vs,z1,z2,z3,z4⟩:=rel.share e
   obtain⟨a',e1,⟨xs,e2⟩,e3⟩:=gH (L:=c.L) z3
   cases e1
   exact⟨.ref a,z1,h _ _ H z4 (Same.upd z2) (Same.refl _) ⟨a,rfl,⟨xs,z4.sub.seq e2⟩,e3⟩⟩
  |bw ps=>
   obtain⟨a,vs,h1,h2,h3⟩:=rel.slot i _ e
   exact⟨.ref a,at_of h1,h _ F H rel (Same.refl _) (Same.refl _) ⟨a,rfl,⟨vs,ū.of (rel.lent a _ h2).1⟩,ud h2 h3⟩⟩
  |sh p=>
   obtain⟨v,h1,h2⟩:=rel.slot i _ e
   cases p with
   |lst ps=>
    obtain⟨a,e1,⟨xs,e2⟩,e3⟩:=gH (L:=c.L) h2
    exact⟨v,at_of h1,h v F H rel (Same.refl _) (Same.refl _) ⟨a,e1,⟨xs,rel.sub.seq e2⟩,e3⟩⟩
   |_=>exact h.elim
def gJ:Nat->List PV->List PV
 |_,[]=>[]
 |k,p::ps=>.tup [.int k,p]::gJ (k+1) ps
theorem uf:∀(k:Nat) (ps:List PV),(gJ k ps).length=ps.length
 |_,[]=>rfl
 |k,_::ps=>congrArg (·+ 1) (uf (k+1) ps)
theorem ug:∀(k:Nat) (ps:List PV) (i:Nat),(gJ k ps)[i]?=ps[i]?.map λp=>.tup [.int ((k+i:Nat):Int),p]
 |_,[],_=>rfl
 |k,p::ps,0=>rfl
 |k,p::ps,i+1=>by
  show(gJ (k+1) ps)[i]?=_
  rw[ug (k+1) ps i,List.getElem?_cons_succ,show k+1+i=k+(i+1) by omega]
def uh(m:M (List PV)):M (List PV):=λρ=>(m ρ).bind λps ρ1=>.ok (gJ 0 ps) ρ1
def DR{K:KK}{c:Ctx}{F H:Hp}{σ:L2.St}{ρ:ń}{T:Addr}{p q:PV}{x y:V}(rel:Rel K c F H σ ρ)(hT:H T=none)(r1:Rep K F p x)(r2:Rep K F q y):Rel K c (upd F T (.tup [x,y])) (upd H T (.tup [x,y])) σ ρ/\Rep K (upd F T (.tup [x,y])) (.tup [p,q]) (.ref T):=by
 have hF:=rel.sub.free hT
 refine⟨rel.alloc hT,?_⟩
 unfold Rep
 exact⟨T,[x,y],rfl,bO.of ģ,ě.cons (Rep.same (Same.upd hF) p x r1) (ě.cons (Rep.same (Same.upd hF) q y r2) ě.nil)⟩
def Gm{K:KK}{L F:Hp}{a:Addr}{ps:List PV}(h:eV K L F (YB K.K a) ps):eV K L F (Ite K.K a) (gJ 0 ps):=by
 intro c i F2 H σ ρ rel sF sL
 obtain⟨g,st⟩:=h c i F2 H σ ρ rel sF sL
 refine⟨λp hp=>?_,λhi=>st (by rw[hi,uf])⟩
 rw[ug] at hp
 cases eq:ps[i]? with
 |none=>rw[eq] at hp;cases hp
 |some q=>
  rw[eq] at hp
  have hp':PV.tup [.int ((0+i:Nat):Int),q]=p:=Option.some.inj hp
  subst hp'
  obtain⟨⟨xs,x,hq,hx⟩,g2⟩:=g q eq
  refine⟨⟨xs,x,hq,hx⟩,λy H' ⟨x',T,h1,hT,ey,eH⟩=>?_⟩
  subst ey eH
  obtain⟨F3,cB,s3,_,rp⟩:=g2 x' H ⟨rfl,h1⟩
  obtain⟨r1,r2⟩:=DR (p:=.int i) (x:=.int i) cB hT (by unfold Rep;rfl) rp
  refine⟨_,r1,s3.trans (Same.upd (cB.sub.free hT)),Same.upd hT,?_⟩
  rw[Nat.zero_add]
  exact r2
def vm{elts:List Expr}{k:Nat}{tp p pos:Pos}{mi:M (List PV)}(hg:Gl X "enumerate")(hm:X.mg "enumerate" =none)(hl:PE X e (tG (kk X cm) E (rLs (kk X cm)) mi))(hs:starEach [e] X.env=[(false,eval e X.env)]:=by exact aj rfl) :
 PI X (.Tuple elts k tp) (.Call (.Name "enumerate" p) [e] [] pos) (tI (kk X cm) E (uh mi)):=λpins s σ H R I h=>Qe hg hm (aG hl eE hs) hs pins s σ H R I (by
 obtain⟨c,F,ρ,rel,h⟩:=h
 refine⟨c,F,ρ,rel,h.bind λps ρ1 v F1 H1 Ė s1 s2 q h1=>?_⟩
 obtain⟨a,e1,e2,e3⟩:=q
 subst e1
 exact⟨a,rfl,e2,h1 _ F1 H1 Ė (Same.refl _) (Same.refl _) (Gm e3)⟩)
def vo(i:Nat)(mo:M RV):M Fl:=λρ=>match ρ[i]? with
 |some (.ow _)=>(mo ρ).bind λr ρ1=>match ρ1[i]?,r with
  |some (.ow ps),.ow qs=>if ps.length+qs.length<=16777216 then .ok .nx (ρ1.set i (.ow (ps++qs))) else .bad
  |_,_=>.bad
 |_=>.bad
def oU{i:Nat}{mo:M RV}{D:Ends}{σ:L2.St}{H:Hp}(h:tS (kk X cm) E (vo i mo) D σ H):GZ (tBM X.K "list" C_ (zJ i) (QG (tO (kk X cm) E mo) ZcB)) D σ H:=by
 obtain⟨c,F,ρ,rel,h⟩:=h
 unfold vo at h
 cases e1:ρ[i]? with
 |none=>rw[e1] at h;exact h.elim
 |some sl=>
  rw[e1] at h
  cases sl with
  |ow ps0=>
   obtain⟨a,vs0,z1,z2,z3,z4,z5,z6⟩:=rel.ow e1
   refine⟨.ref a,z1,.inl ⟨rfl,_,ū.of z2⟩,c,F,ρ,rel,?_⟩
   refine ů.bind h λr ρ1 v F1 H1 Ė s1 q h1=>?_
   cases e2:ρ1[i]? with
   |none=>simp only[e2] at h1;exact h1.elim
   |some sl2=>
    simp only[e2] at h1
    cases sl2 with
    |ow ps=>
     cases r with
     |ow qs=>
      obtain⟨b,us,eb,hb1,hb2,hb3,hb4,hb5⟩:=q
      subst eb
      obtain⟨a2,vs,w1,w2,w3,w4,w5,w6⟩:=Ė.ow e2
      rw[z1] at w1
      cases w1
      dsimp only at h1
      split at h1
      ·rename_i hz
       refine⟨a,b,vs,us,rfl,rfl,w2,hb1,by rw[<-w5.length,<-hb5.length,ľ];exact hz,h1 σ F1 _ (Ė.write w6 z1 ⟨a,vs++us,rfl,ģ,w3,w4,ě.append w5 hb5⟩ λ_ z=>(V.ref.inj z).symm) (Same.refl _)⟩
      ·exact h1.elim
     |_=>exact h1.elim
    |_=>exact h1.elim
  |_=>exact h.elim
@[simp] theorem Zgd{i:Nat}{mo:M RV}{ρ:ń}:vo i mo ρ=(match ρ[i]? with
  |some (.ow _)=>(mo ρ).bind λr ρ1=>match ρ1[i]?,r with
   |some (.ow ps),.ow qs=>if ps.length+qs.length<=16777216 then .ok .nx (ρ1.set i (.ow (ps++qs))) else .bad
   |_,_=>.bad
  |_=>.bad):=rfl
@[simp] theorem ZeE{mi:M (List PV)}{ρ:ń}:uh mi ρ=(mi ρ).bind λps ρ1=>.ok (gJ 0 ps) ρ1:=rfl
@[simp] theorem ZgE{ρ:ń}:mLs m ρ=(m ρ).bind fun p ρ1=>match p with
  | .lst ps=>.ok ps ρ1
  |_=>.bad:=rfl
@[simp] theorem Zge{i:Nat}{ρ:ń}:Gk i ρ=(match ρ[i]? with
  |some (.bw ps)=>.ok ps ρ
  |some (.sh (.lst ps))=>.ok ps ρ
  |some (.ow ps)=>.ok ps (ρ.set i (.sh (.lst ps)))
  |_=>.bad):=rfl
@[simp] theorem Zgf{i:Nat}{ρ:ń}:Jw i ρ=(match ρ[i]? with
  |some (.bw ps)=>.ok ps ρ
  |some (.sh (.lst ps))=>.ok ps ρ
  |some (.sh (.tup ps))=>.ok ps ρ
  |some (.ow ps)=>.ok ps (ρ.set i (.sh (.lst ps)))
  |_=>.bad):=rfl
end
end P
namespace P
open PySem PySem.Spec PyProof.Rows L2 M2 M3 M4
def Zdm{X:Cx}:PIp X .BitOr (ipI λi j=>Builtin.bitOr i j):=by
 intro pins s σ H x y v u Q I r1 r2 h
 obtain⟨i,j,e1,e2,q⟩:=h
 subst e1;subst e2
 obtain⟨t,rfl⟩:=r1
 obtain⟨t',rfl⟩:=r2
 exact ior_int ⟨.int _,H,I.tok _,⟨_,rfl⟩,q⟩
def yc(i:Nat)(m:M PV):M Fl:=λρ=>match ρ[i]? with
 |some (.sh (.int _))=>(m ρ).bind λq ρ1=>match ρ1[i]?,q with
  |some (.sh (.int k)),.int j=>.ok .nx (ρ1.set i (.sh (.int (Builtin.bitOr k j))))
  |_,_=>.bad
 |_=>.bad
@[simp] theorem ZeF{i:Nat}{m:M PV}{ρ:ń}:yc i m ρ=(match ρ[i]? with
  |some (.sh (.int _))=>(m ρ).bind λq ρ1=>match ρ1[i]?,q with
   |some (.sh (.int k)),.int j=>.ok .nx (ρ1.set i (.sh (.int (Builtin.bitOr k j))))
   |_,_=>.bad
  |_=>.bad):=rfl
section
variable{X:Cx}{cm:String->Addr}{E:L2.St->XK}{e a b:Expr}{m ma mb:M PV}{pos:Pos}
def vp{K:KK}{F:Hp}{i:Int}{v:V}(h:Rep K F (.int i) v):v=.int i:=by unfold Rep at h;exact h
def Jy{i:Nat}{x:Str}{pos':Pos}(hN:X.N.Nodup)(hi:X.N[i]?=some x)(hx:Loc X.env.scope x)(he:PE X e (tV (kk X cm) E m))(hf:X.fn x=true\/X.env.scope.names.lookup x=some .local:=by first|exact .inl rfl|exact .inr rfl|assumption) :
 PS X (.AugAssign (.Name x pos') .BitOr e pos) (tS (kk X cm) E (yc i m)):=PS.wk (Yy hN hi hx he Zdm hf) λD σ H ⟨c,F,ρ,rel,h⟩=>by
 unfold yc at h
 cases e1:ρ[i]? with
 |none=>rw[e1] at h;exact h.elim
 |some sl=>
  rw[e1] at h
  cases sl with
  |sh p=>
   cases p with
   |int k0=>
    obtain⟨v,h1,h2⟩:=rel.slot i _ e1
    cases vp h2
    refine⟨.int k0,at_of h1,c,F,ρ,rel,ů.bind h λq ρ1 u F1 H1 Ė s1 rq h1'=>?_⟩
    cases e2:ρ1[i]? with
    |none=>simp only[e2] at h1';exact h1'.elim
    |some sl2=>
     simp only[e2] at h1'
     cases sl2 with
     |sh p2=>
      cases p2 with
      |int k=>
       cases q with
       |int j=>
        obtain⟨v2,w1,w2⟩:=Ė.slot i _ e2
        cases vp w2
        rw[h1] at w1
        cases w1
        cases vp rq
        exact⟨k0,j,rfl,rfl,h1' _ F1 H1 (Ė.put rfl ⟨_,rfl,Rep.int⟩) (Same.refl _)⟩
       |_=>exact h1'.elim
      |_=>exact h1'.elim
     |_=>exact h1'.elim
   |_=>exact h.elim
  |_=>exact h.elim
end
section
variable{X:Cx}{K:KK}
end
end P
namespace P
open PySem PySem.Spec PyProof.Rows L2 M2 M3 M4
section
variable{prog:Program}{w:World}{A:Around}{E:Value->Shared->Prop}{s:Shared}
def jL{it l:Addr}{i:Nat}{items}{x:Value}{Q:Value->Shared->Prop}(hit:s.heap.IsTupleIter it l i)
 (hl:s.heap.IsTuple l items)(hx:items[i]?=some x)
 (hQ:∀h',h'.IsTupleIter it l (i+1)->Heap.SameBut it s.heap h'->Q x {s with heap:=h'}) :
 wpAny (model prog w) A (Builtin.SmallTypes.nextOf (.ref it)) Q E s:=by
 obtain⟨o,ho,hc,hd⟩:=id hit
 obtain⟨ol,hol,_,nl,hdl⟩:=hl
 unfold Builtin.SmallTypes.nextOf
 refine wpAny_bind (wpAny_callSpecial?_slot (name:=Str.ofString "__next__") hit.typeIs F.slot_tuple_iterator_next
  (wpAny_call_entry F.slot_tuple_iterator_next hit.typeIs F.entry_tuple_iterator_next ?_ (F.args_tuple_iterator_next_1 _)))
 show wpAny _ _ (field (.ref it) 0 >>= _) _ _ s
 refine wpAny_bind (wpAny_field ho hd (x:=.ref l) rfl ?_)
 show wpAny _ _ (if(Value.ref l== Value.none)=true then _ else _) _ _ s
 rw[if_neg (show ¬((Value.ref l== Value.none)=true) from Bool.false_ne_true)]
 show wpAny _ _ (field (.ref it) 1 >>= _) _ _ s
 refine wpAny_bind (wpAny_field ho hd (x:=.int i 0) rfl ?_)
 show wpAny _ _ (seqItems? (.ref l) >>= _) _ _ s
 refine wpAny_bind (wpAny_seqItems hol hdl ?_)
 simp only[Int.toNat_natCast,hx]
 refine wpAny_bind (wpAny_setField ho hd (by simp) (wpAny_pure ⟨x,rfl,wpAny_pure (hQ _ ?_ (Heap.SameBut.update ..))⟩))
 exact⟨_,Heap.get?_update_self _ ho (Obj.isFreed_of_fields (Obj.data_mapFields hd _)),(Obj.cls_mapFields ..).trans hc,by
  rw[Obj.data_mapFields hd];simp[rawInt]⟩
def lV{it l:Addr}{i:Nat}{items}{Q:Value->Shared->Prop}(hh:A.handled=none)
 (hit:s.heap.IsTupleIter it l i)(hl:s.heap.IsTuple l items)(hx:items[i]?=none)
 (hE:∀h' e,Heap.ExtBut it s.heap h'->(∃o,h'.get? e=some o/\o.cls=.type "StopIteration")->E (.ref e) {s with heap:=h'}) :
 wpAny (model prog w) A (Builtin.SmallTypes.nextOf (.ref it)) Q E s:=by
 obtain⟨o,ho,hc,hd⟩:=id hit
 obtain⟨ol,hol,_,nl,hdl⟩:=hl
 unfold Builtin.SmallTypes.nextOf
 refine wpAny_bind (wpAny_callSpecial?_slot (name:=Str.ofString "__next__") hit.typeIs F.slot_tuple_iterator_next
  (wpAny_call_entry F.slot_tuple_iterator_next hit.typeIs F.entry_tuple_iterator_next ?_ (F.args_tuple_iterator_next_1 _)))
 show wpAny _ _ (field (.ref it) 0 >>= _) _ _ s
 refine wpAny_bind (wpAny_field ho hd (x:=.ref l) rfl ?_)
 show wpAny _ _ (if(Value.ref l== Value.none)=true then _ else _) _ _ s
 rw[if_neg (show ¬((Value.ref l== Value.none)=true) from Bool.false_ne_true)]
 show wpAny _ _ (field (.ref it) 1 >>= _) _ _ s
 refine wpAny_bind (wpAny_field ho hd (x:=.int i 0) rfl ?_)
 show wpAny _ _ (seqItems? (.ref l) >>= _) _ _ s
 refine wpAny_bind (wpAny_seqItems hol hdl ?_)
 simp only[Int.toNat_natCast,hx]
 refine wpAny_bind (wpAny_rule (wpAny_bind (wpAny_setField ho hd (by simp) ?_)))
 show wpAny _ _ (newExc (.type "StopIteration") [] >>= _) _ _ _
 refine wpAny_bind ?_
 simp only[newExc,newTuple]
 refine wpAny_bind (wpAny_newObj_type ?_ (by size_fits))
 refine wpAny_bind (m:=firstArgMember _ _) (wpAny_of_eq (a:=Value.none) (by first|rfl|(simp only[firstArgMember];rfl)) ?_)
 refine wpAny_newObj_type ?_ (by size_fits)
 simp only[raiseNew]
 refine wpAny_bind (wpAny_handled ?_)
 first|rw[show A.in1.handled=none from hh]|rw[hh]
 refine wpAny_bind (wpAny_pure (wpAny_throw ?_))
 exact hE _ _ (((Heap.SameBut.update ..).extBut.push _).push _) ⟨_,Heap.get?_push_size _ rfl,rfl⟩
end
def yg{prog:Program}{w:World}{A:Around}(hh:A.handled=none)(it l:Addr)(hne:l≠it)(items:Array Value) :
 Draws prog w A it [it,l] items.size (λi v=>items[i]?=some v) (λi h=>h.IsTupleIter it l i/\h.IsTuple l items) where
 live:=λ_ _ st=>let ⟨o,ho,_⟩:=st.1;⟨o,ho⟩
 frame:=λ_ _ _ st hk=>⟨let ⟨o,ho,r⟩:=st.1;⟨o,hk it (by simp) o ho,r⟩,let ⟨o,ho,r⟩:=st.2;⟨o,hk l (by simp) o ho,r⟩⟩
 item:=λi s Q E hi st hQ=>by
  refine jL st.1 st.2 (x:=items[i]) (by simp[hi]) λh' hit' hs'=>?_
  exact hQ _ h' s.toks (by simp[hi]) ⟨hit',st.2.extBut hs'.extBut hne⟩ hs'
 done:=λs Q E st hE=>lV hh st.1 st.2 (by simp) hE
structure ZAp(z TI TO i1 i2:Addr)(f1 f2:List Addr):Prop where
 TIz:TI≠z
 TOz:TO≠z
 i1z:i1≠z
 i2z:i2≠z
 TITO:TI≠TO
 TIi1:TI≠i1
 TIi2:TI≠i2
 TOi1:TO≠i1
 TOi2:TO≠i2
 i12:i1≠i2
 z1:z∉f1
 z2:z∉f2
 t1:TO∉f1
 t2:TO∉f2
 a1:i1∉f2
 a2:i2∉f1
section
variable{prog:Program}{w:World}{A:Around}{E:Value->Shared->Prop}{s:Shared}
def qe{z TI TO i1 i2:Addr}{f1 f2:List Addr}{n1 n2 k1 k2:Nat}{P1 P2:Nat->Value->Prop}{S1 S2:Nat->Heap->Prop}{a b:Value}{Q:Value->Shared->Prop}(D:ZAp z TI TO i1 i2 f1 f2)
 (D1:Draws prog w A i1 f1 n1 P1 S1)(D2:Draws prog w A i2 f2 n2 P2 S2)
 (hz:IsZip s.heap z TI TO .none)(hTI:IsPair s.heap TI (.ref i1) (.ref i2))(hTO:IsPair s.heap TO a b)(h1:S1 k1 s.heap)(h2:S2 k2 s.heap)(hk1:k1<n1)(hk2:k2<n2)
 (hQ:∀x y h' tk,P1 k1 x→P2 k2 y→IsZip h' z TI TO (rawInt s.heap.objs.size)→IsPair h' TO x y→S1 (k1+1) h'→S2 (k2+1) h'→IsPair h' s.heap.objs.size x y→h'.objs.size=s.heap.objs.size+1→
   (∀c o,c≠z->c≠TO->c≠i1->c≠i2->s.heap.get? c=some o->h'.get? c=some o)->Q (.ref s.heap.objs.size) {s with heap:=h',toks:=tk}) :
 wpAny (model prog w) A (Builtin.«zip.__next__» ⟨[.ref z],[]⟩) (λfin s'=>∃v,fin=.done (.ret v)/\Q v s') E s:=by
 have Rg:∀{b},b∈f1->b≠z/\b≠TO/\b≠i2:=λhb=>⟨λe=>D.z1 (e▸hb),λe=>D.t1 (e▸hb),λe=>D.a2 (e▸hb)⟩
 have Qf:∀{b},b∈f2->b≠z/\b≠TO/\b≠i1:=λhb=>⟨λe=>D.z2 (e▸hb),λe=>D.t2 (e▸hb),λe=>D.a1 (e▸hb)⟩
 obtain⟨hp,g,d,tk0,os⟩:=s
 show wpAny _ _ (field (.ref z) 2 >>= _) _ _ _
 refine wpAny_bind (wpAny_field hz rfl (x:=.bool false) rfl ?_)
 show wpAny _ _ (field (.ref z) 3 >>= _) _ _ _
 refine wpAny_bind (wpAny_field hz rfl (x:=.ref TI) rfl ?_)
 refine wpAny_bind (wpAny_seqItems hTI rfl ?_)
 show wpAny _ _ (Builtin.SmallTypes.ownedTupleIsFree (.ref z) >>= _) _ _ _
 refine wpAny_bind ?_
 unfold Builtin.SmallTypes.ownedTupleIsFree
 refine wpAny_bind (wpAny_field hz rfl (x:=.none) rfl (wpAny_pure ?_))
 simp only[if_true]
 refine wpAny_bind (wpAny_rule ?_)
 refine wpAny_bind (wpAny_field hz rfl (x:=.ref TO) rfl ?_)
 refine wpAny_bind (wpAny_setField_rec hz (by simp) λh₁ hz₁ hs₁=>?_)
 replace hs₁:Heap.SameBut z hp h₁:= hs₁
 replace hz₁:IsZip h₁ z TI TO .ellipsis:=hz₁
 refine wpAny_bind ?_
 simp only[List.zipIdx_cons,List.zipIdx_nil,List.forIn_cons,List.forIn_nil]
 refine wpAny_bind (wpAny_bind (wpAny_onRaise ?_))
 show wpAny _ _ (Builtin.SmallTypes.nextOf (.ref i1) >>= _) _ _ _
 refine wpAny_bind (D1.item k1 _ _ _ hk1 (D1.frame _ _ _ h1 λb hb o e=>hs₁.extBut b o (Rg hb).1 e) λx h₂ tk hPx h1₂ hs₂=>wpAny_pure ?_)
 replace hs₂:Heap.SameBut i1 h₁ h₂:= hs₂
 have hTO₂:IsPair h₂ TO a b:=hs₂.extBut _ _ D.TOi1 (hs₁.extBut _ _ D.TOz hTO)
 refine wpAny_bind (wpAny_seqItems hTO₂ rfl ?_)
 refine wpAny_bind (wpAny_updateSeq_pair hTO₂ λh₃ hTO₃ hs₃=>?_)
 replace hs₃:Heap.SameBut TO h₂ h₃:= hs₃
 replace hTO₃:IsPair h₃ TO x b:=hTO₃
 refine wpAny_bind (wpAny_letGo (wpAny_pure ?_))
 refine wpAny_bind (wpAny_bind (wpAny_onRaise ?_))
 show wpAny _ _ (Builtin.SmallTypes.nextOf (.ref i2) >>= _) _ _ _
 refine wpAny_bind (D2.item k2 _ _ _ hk2 (D2.frame _ _ _ h2 λb hb o e=>hs₃.extBut b o (Qf hb).2.1 (hs₂.extBut b o (Qf hb).2.2 (hs₁.extBut b o (Qf hb).1 e))) λy h₄ tk' hPy h2₄ hs₄=>wpAny_pure ?_)
 replace hs₄:Heap.SameBut i2 h₃ h₄:= hs₄
 have hTO₄:IsPair h₄ TO x b:=hs₄.extBut _ _ D.TOi2 hTO₃
 refine wpAny_bind (wpAny_seqItems hTO₄ rfl ?_)
 refine wpAny_bind (wpAny_updateSeq_pair hTO₄ λh₅ hTO₅ hs₅=>?_)
 replace hs₅:Heap.SameBut TO h₄ h₅:= hs₅
 replace hTO₅:IsPair h₅ TO x y:=hTO₅
 refine wpAny_bind (wpAny_letGo (wpAny_pure (wpAny_pure ?_)))
 refine wpAny_bind (wpAny_seqItems hTO₅ rfl ?_)
 refine wpAny_bind (wpAny_newTuple ?_)
 have hsz:h₅.objs.size=hp.objs.size:=by rw[hs₅.1,hs₄.1,hs₃.1,hs₂.1,hs₁.1]
 have hz₅:IsZip h₅ z TI TO .ellipsis:=hs₅.extBut _ _ D.TOz.symm (hs₄.extBut _ _ D.i2z.symm (hs₃.extBut _ _ D.TOz.symm (hs₂.extBut _ _ D.i1z.symm hz₁)))
 have hk₅:∀c o,c≠z->c≠TO->c≠i1->c≠i2->hp.get? c=some o->h₅.get? c=some o:=λc o c1 c2 c3 c4 e=>
  hs₅.extBut _ _ c2 (hs₄.extBut _ _ c4 (hs₃.extBut _ _ c2 (hs₂.extBut _ _ c3 (hs₁.extBut _ _ c1 e))))
 have h1₅:S1 (k1+1) h₅:= D1.frame _ _ _ h1₂ λb hb o e=>hs₅.extBut b o (Rg hb).2.1 (hs₄.extBut b o (Rg hb).2.2 (hs₃.extBut b o (Rg hb).2.1 e))
 have h2₅:S2 (k2+1) h₅:= D2.frame _ _ _ h2₄ λb hb o e=>hs₅.extBut b o (Qf hb).2.1 e
 have hzlt:z<h₅.objs.size:=Heap.lt_size hz₅
 show wpAny _ _ (Builtin.SmallTypes.ownedTupleHandOut (.ref z) (.ref h₅.objs.size) >>= _) _ _ _
 refine wpAny_bind ?_
 unfold Builtin.SmallTypes.ownedTupleHandOut
 have hz₆:IsZip (h₅.push {cls:=.type "tuple",data:=.seq #[x,y]}) z TI TO .ellipsis:=Heap.get?_push_of_some _ hz₅
 refine wpAny_bind (wpAny_setField_rec hz₆ (by simp) λh₇ hz₇ hs₇=>?_)
 replace hz₇:IsZip h₇ z TI TO (rawInt h₅.objs.size):=hz₇
 refine wpAny_setField_rec hz₇ (by simp) λh₈ hz₈ hs₈=>?_
 replace hz₈:IsZip h₈ z TI TO (rawInt h₅.objs.size):=hz₈
 have up:∀c o,c≠z->h₅.get? c=some o->h₈.get? c=some o:=λc o c1 e=>hs₈.extBut _ _ c1 (hs₇.extBut _ _ c1 (Heap.get?_push_of_some _ e))
 have hT₈:IsPair h₈ h₅.objs.size x y:=hs₈.extBut _ _ (Nat.ne_of_gt hzlt) (hs₇.extBut _ _ (Nat.ne_of_gt hzlt) (Heap.get?_push_size _ rfl))
 have hz8:h₈.objs.size=h₅.objs.size+1:=by rw[hs₈.1,hs₇.1,Heap.size_push]
 rw[hsz] at hz₈ hT₈ hz8
 refine wpAny_pure ⟨_,rfl,?_⟩
 show Q (.ref h₅.objs.size) _
 rw[hsz]
 exact hQ x y h₈ tk' hPx hPy hz₈ (up _ _ D.TOz hTO₅) (D1.frame _ _ _ h1₅ λb hb o e=>up b o (Rg hb).1 e) (D2.frame _ _ _ h2₅ λb hb o e=>up b o (Qf hb).1 e) hT₈ hz8 λc o c1 c2 c3 c4 e=>up c o c1 (hk₅ c o c1 c2 c3 c4 e)
def sE{z TI TO i1 i2:Addr}{f1 f2:List Addr}{n1 n2 k1 k2:Nat}{P1 P2:Nat->Value->Prop}{S1 S2:Nat->Heap->Prop}{a b:Value}{Q:Fin->Shared->Prop}(D:ZAp z TI TO i1 i2 f1 f2)
 (D1:Draws prog w A i1 f1 n1 P1 S1)(D2:Draws prog w A i2 f2 n2 P2 S2)
 (hz:IsZip s.heap z TI TO .none)(hTI:IsPair s.heap TI (.ref i1) (.ref i2))(hTO:IsPair s.heap TO a b)(h1:S1 k1 s.heap)(h2:S2 k2 s.heap)(hend:k1=n1\/(k1<n1/\k2=n2))
 (hE:∀h' e tk,(∀c o,c≠z->c≠TO->c≠i1->c≠i2->s.heap.get? c=some o->h'.get? c=some o)->(∃o,h'.get? e=some o/\o.cls=.type "StopIteration")->E (.ref e) {s with heap:=h',toks:=tk}) :
 wpAny (model prog w) A (Builtin.«zip.__next__» ⟨[.ref z],[]⟩) Q E s:=by
 have Rg:∀{b},b∈f1->b≠z/\b≠TO/\b≠i2:=λhb=>⟨λe=>D.z1 (e▸hb),λe=>D.t1 (e▸hb),λe=>D.a2 (e▸hb)⟩
 have Qf:∀{b},b∈f2->b≠z/\b≠TO/\b≠i1:=λhb=>⟨λe=>D.z2 (e▸hb),λe=>D.t2 (e▸hb),λe=>D.a1 (e▸hb)⟩
 obtain⟨hp,g,d,tk0,os⟩:=s
 show wpAny _ _ (field (.ref z) 2 >>= _) _ _ _
 refine wpAny_bind (wpAny_field hz rfl (x:=.bool false) rfl ?_)
 show wpAny _ _ (field (.ref z) 3 >>= _) _ _ _
 refine wpAny_bind (wpAny_field hz rfl (x:=.ref TI) rfl ?_)
 refine wpAny_bind (wpAny_seqItems hTI rfl ?_)
 show wpAny _ _ (Builtin.SmallTypes.ownedTupleIsFree (.ref z) >>= _) _ _ _
 refine wpAny_bind ?_
 unfold Builtin.SmallTypes.ownedTupleIsFree
 refine wpAny_bind (wpAny_field hz rfl (x:=.none) rfl (wpAny_pure ?_))
 simp only[if_true]
 refine wpAny_bind (wpAny_rule ?_)
 refine wpAny_bind (wpAny_field hz rfl (x:=.ref TO) rfl ?_)
 refine wpAny_bind (wpAny_setField_rec hz (by simp) λh₁ hz₁ hs₁=>?_)
 replace hs₁:Heap.SameBut z hp h₁:= hs₁
 replace hz₁:IsZip h₁ z TI TO .ellipsis:=hz₁
 refine wpAny_bind ?_
 simp only[List.zipIdx_cons,List.zipIdx_nil,List.forIn_cons,List.forIn_nil]
 refine wpAny_bind (wpAny_bind (wpAny_onRaise ?_))
 show wpAny _ _ (Builtin.SmallTypes.nextOf (.ref i1) >>= _) _ _ _
 rcases hend with rfl|⟨hk1,rfl⟩
 ·refine wpAny_bind (D1.done _ _ _ (D1.frame _ _ _ h1 λb hb o e=>hs₁.extBut b o (Rg hb).1 e) λh₂ e hs₂ he=>?_)
  obtain⟨oe,hoe,hce⟩:=he
  replace hs₂:Heap.ExtBut i1 h₁ h₂:= hs₂
  have hz₂:IsZip h₂ z TI TO .ellipsis:=hs₂ _ _ D.i1z.symm hz₁
  have hez:e≠z:=λx=>by subst x;rw[hz₂] at hoe;cases hoe;simp at hce
  exact wpAny_setField_rec hz₂ (by simp) λh₃ _ hs₃=>hE h₃ e tk0 (λc o c1 _ c3 _ x=>hs₃.extBut _ _ c1 (hs₂ _ _ c3 (hs₁.extBut _ _ c1 x))) ⟨oe,hs₃.extBut _ _ hez hoe,hce⟩
 ·refine wpAny_bind (D1.item k1 _ _ _ hk1 (D1.frame _ _ _ h1 λb hb o e=>hs₁.extBut b o (Rg hb).1 e) λx h₂ tk hPx h1₂ hs₂=>wpAny_pure ?_)
  replace hs₂:Heap.SameBut i1 h₁ h₂:= hs₂
  have hTO₂:IsPair h₂ TO a b:=hs₂.extBut _ _ D.TOi1 (hs₁.extBut _ _ D.TOz hTO)
  refine wpAny_bind (wpAny_seqItems hTO₂ rfl ?_)
  refine wpAny_bind (wpAny_updateSeq_pair hTO₂ λh₃ hTO₃ hs₃=>?_)
  replace hs₃:Heap.SameBut TO h₂ h₃:= hs₃
  refine wpAny_bind (wpAny_letGo (wpAny_pure ?_))
  refine wpAny_bind (wpAny_bind (wpAny_onRaise ?_))
  show wpAny _ _ (Builtin.SmallTypes.nextOf (.ref i2) >>= _) _ _ _
  refine wpAny_bind (D2.done _ _ _ (D2.frame _ _ _ h2 λb hb o e=>hs₃.extBut b o (Qf hb).2.1 (hs₂.extBut b o (Qf hb).2.2 (hs₁.extBut b o (Qf hb).1 e))) λh₄ e hs₄ he=>?_)
  obtain⟨oe,hoe,hce⟩:=he
  replace hs₄:Heap.ExtBut i2 h₃ h₄:= hs₄
  have hz₄:IsZip h₄ z TI TO .ellipsis:=hs₄ _ _ D.i2z.symm (hs₃.extBut _ _ D.TOz.symm (hs₂.extBut _ _ D.i1z.symm hz₁))
  have hez:e≠z:=λx=>by subst x;rw[hz₄] at hoe;cases hoe;simp at hce
  exact wpAny_setField_rec hz₄ (by simp) λh₅ _ hs₅=>hE h₅ e tk (λc o c1 c2 c3 c4 x=>hs₅.extBut _ _ c1 (hs₄ _ _ c4 (hs₃.extBut _ _ c2 (hs₂.extBut _ _ c3 (hs₁.extBut _ _ c1 x))))) ⟨oe,hs₅.extBut _ _ hez hoe,hce⟩
end
section
variable{prog:Program}{w:World}{A:Around}{E:Value->Shared->Prop}{s:Shared}
def lW{z TI TO i1 i2:Addr}{f1 f2:List Addr}{n1 n2 k1 k2:Nat}{P1 P2:Nat->Value->Prop}{S1 S2:Nat->Heap->Prop}{a b:Value}{Q:Option Value->Shared->Prop}(D:ZAp z TI TO i1 i2 f1 f2)
 (D1:Draws prog w A.in1 i1 f1 n1 P1 S1)(D2:Draws prog w A.in1 i2 f2 n2 P2 S2)
 (hz:IsZip s.heap z TI TO .none)(hTI:IsPair s.heap TI (.ref i1) (.ref i2))(hTO:IsPair s.heap TO a b)(h1:S1 k1 s.heap)(h2:S2 k2 s.heap)(hk1:k1<n1)(hk2:k2<n2)
 (hQ:∀x y h' tk,P1 k1 x→P2 k2 y→IsZip h' z TI TO (rawInt s.heap.objs.size)→IsPair h' TO x y→S1 (k1+1) h'→S2 (k2+1) h'→IsPair h' s.heap.objs.size x y→h'.objs.size=s.heap.objs.size+1→
   (∀c o,c≠z->c≠TO->c≠i1->c≠i2->s.heap.get? c=some o->h'.get? c=some o)->Q (some (.ref s.heap.objs.size)) {s with heap:=h',toks:=tk}) :
 wpAny (model prog w) A (pyNext (.ref z)) Q E s:=by
 have hT:s.TypeIs (.ref z) "zip" := ⟨_,hz,rfl⟩
 unfold pyNext
 exact wpAny_bind (wpAny_attempt (wpAny_callSpecial?_slot (name:=Str.ofString "__next__") hT F.slot_zip_next
  (wpAny_call_entry F.slot_zip_next hT F.entry_zip_next
    (qe D D1 D2 hz hTI hTO h1 h2 hk1 hk2 λx y h' tk a0 b0 a1 a2 a3 a4 a5 a6 a7=>wpAny_pure (hQ x y h' tk a0 b0 a1 a2 a3 a4 a5 a6 a7)) (F.args_zip_next_1 _))))
def nP{z TI TO i1 i2:Addr}{f1 f2:List Addr}{n1 n2 k1 k2:Nat}{P1 P2:Nat->Value->Prop}{S1 S2:Nat->Heap->Prop}{a b:Value}{Q:Option Value->Shared->Prop}(D:ZAp z TI TO i1 i2 f1 f2)
 (D1:Draws prog w A.in1 i1 f1 n1 P1 S1)(D2:Draws prog w A.in1 i2 f2 n2 P2 S2)
 (hz:IsZip s.heap z TI TO .none)(hTI:IsPair s.heap TI (.ref i1) (.ref i2))(hTO:IsPair s.heap TO a b)(h1:S1 k1 s.heap)(h2:S2 k2 s.heap)(hend:k1=n1\/(k1<n1/\k2=n2))
 (hQ:∀h' tk,(∀c o,c≠z->c≠TO->c≠i1->c≠i2->s.heap.get? c=some o->h'.get? c=some o)->Q none {s with heap:=h',toks:=tk}):wpAny (model prog w) A (pyNext (.ref z)) Q E s:=by
 have hT:s.TypeIs (.ref z) "zip" := ⟨_,hz,rfl⟩
 unfold pyNext
 refine wpAny_bind (wpAny_attempt (wpAny_callSpecial?_slot (name:=Str.ofString "__next__") hT F.slot_zip_next
  (wpAny_call_entry F.slot_zip_next hT F.entry_zip_next (sE D D1 D2 hz hTI hTO h1 h2 hend λh' e tk hk he=>?_) (F.args_zip_next_1 _))))
 obtain⟨o,ho,hc⟩:=he
 refine wpAny_bind (wpAny_isInstance (T:= "StopIteration") (b:=true) ⟨o,ho,hc⟩ isSubtype_stop ?_)
 exact wpAny_pure (hQ _ _ hk)
end
def rG(K:PySem.W.Frag)(b:Bool)(H:Hp)(a:Addr)(xs:List V):Prop:=if b=true then bO K H a xs else ū K H a xs
def fG(b:Bool)(h:Heap)(it l:Addr)(i:Nat):Prop:=if b=true then h.IsTupleIter it l i else h.IsListIter it l i
def Gn(b:Bool)(h:Heap)(l:Addr)(its:Array Value):Prop:=if b=true then h.IsTuple l its else h.IsList l its
def nmB(b:Bool):String:=if b=true then "tuple_iterator" else "list_iterator"
def oV{prog:Program}{w:World}{A:Around}(b:Bool)(hh:A.handled=none)(it l:Addr)(hne:l≠it)(items:Array Value) :
 Draws prog w A it [it,l] items.size (λi v=>items[i]?=some v) (λi h=>fG b h it l i/\Gn b h l items):=by
 cases b with
 |true=>exact yg hh it l hne items
 |false=>exact Draws.list hh it l hne items
def fG.ex{b:Bool}{h:Heap}{it l:Addr}{i:Nat}(x:fG b h it l i):∃o,h.get? it=some o/\o.cls=.type (nmB b)/\o.data=.fields #[.ref l,.int i 0]:=by
 cases b with
 |true=>exact x
 |false=>exact x
def fG.of{b:Bool}{h:Heap}{it l:Addr}{i:Nat}{o:Obj}(h1:h.get? it=some o)(h2:o.cls=.type (nmB b))(h3:o.data=.fields #[.ref l,.int i 0]):fG b h it l i:=by
 cases b with
 |true=>exact⟨o,h1,h2,h3⟩
 |false=>exact⟨o,h1,h2,h3⟩
def fG.keep{b:Bool}{h h':Heap}{it l:Addr}{i:Nat}(x:fG b h it l i)(k:∀o,h.get? it=some o->h'.get? it=some o):fG b h' it l i:=by
 obtain⟨o,h1,h2,h3⟩:=x.ex
 exact .of (k o h1) h2 h3
def Qg(K:PySem.W.Frag)(b:Bool)(H:Hp)(l:Addr)(i:Nat)(xs:List V):Prop:=xs.length<=i/\∀j,j<i->∃ys y,rG K b H l ys/\ys[j]?=some y
def Itz(K:PySem.W.Frag)(b1 b2:Bool)(l1 l2:Addr):It:=
 ⟨λi H=>(∃xs x,rG K b1 H l1 xs/\xs[i]?=some x)/\∃ys y,rG K b2 H l2 ys/\ys[i]?=some y,
  λi H z H'=>∃x y T,(∀xs,rG K b1 H l1 xs->xs[i]?=some x)/\(∀ys,rG K b2 H l2 ys->ys[i]?=some y)/\H T=none/\z=.ref T/\H'=upd H T (.tup [x,y]),
  λi H=>(∃xs,rG K b1 H l1 xs)/\(∃ys,rG K b2 H l2 ys)/\((∃xs,rG K b1 H l1 xs/\Qg K b1 H l1 i xs)\/((∃xs x,rG K b1 H l1 xs/\xs[i]?=some x)/\∃ys,rG K b2 H l2 ys/\Qg K b2 H l2 i ys))⟩
section
variable{X:Cx}{pins:List (Addr×Obj)}{σ:L2.St}{H:Hp}{s:Shared}
def um{b:Bool}{a:Addr}{xs:List V}(I:Inv X pins σ H s)(h:rG X.K b H a xs):∃its:List Value,Vals xs its/\Gn b s.heap a its.toArray/\xs.length<=sizeLine:=by
 cases b with
 |true=>
  obtain⟨its,r,p,z⟩:=I.tuple h
  exact⟨its,r,p,z⟩
 |false=>
  obtain⟨its,r,p,z⟩:=I.list h
  exact⟨its,r,p.isList,z⟩
def uo{b:Bool}{a:Addr}{xs ys:List V}(I:Inv X pins σ H s)(h:rG X.K b H a xs)(h':rG X.K b H a ys):xs=ys:=by
 cases b with
 |true=>exact I.sV h h'
 |false=>exact I.oY h h'
def Rh{b:Bool}{l:Addr}{i:Nat}{xs:List V}(I:Inv X pins σ H s)(h:rG X.K b H l xs)(q:Qg X.K b H l i xs):xs.length=i:=by
 obtain⟨h1,h2⟩:=q
 refine Nat.le_antisymm h1 ?_
 cases i with
 |zero=>omega
 |succ i=>
  obtain⟨ys,y,e1,e2⟩:=h2 i (by omega)
  rw[uo I e1 h] at e2
  have:=(List.getElem?_eq_some_iff.mp e2).1
  omega
def DW{bb:Bool}{a b:Addr}{xs:List V}(I:Inv X pins σ H s)(f:bx X pins H b)(h:rG X.K bb H a xs):a≠b:=by
 intro e
 subst e
 have hk:∀o,X.K.lookup a=some o->False:=λo e=>by
  have hb:=I.ok.mod.kin a o e
  rcases f.2.2.2.1 with z|z
  ·exact I.ok.Fo a o hb z
  ·exact absurd (Nat.lt_of_lt_of_le (Heap.lt_size (I.ok.bs a o hb).1) z) (Nat.lt_irrefl _)
 have hr:∀u,Rd H a u->False:=λu r=>by
  rcases r with r|⟨o,r⟩<;>(rw[f.1] at r;cases r)
 cases bb with
 |true=>
  have h':bO X.K H a xs:=h
  rcases h' with q|⟨o,_,_,q,_⟩
  ·exact hr _ q
  ·exact hk o q
 |false=>
  have h':ū X.K H a xs:=h
  rcases h' with q|⟨o,_,_,q,_⟩
  ·exact hr _ q
  ·exact hk o q
end
def Jz{P:Program}{w:World}{K:PySem.W.Frag}{elts:List Expr}{k:Nat}{pos:Pos}(b1 b2:Bool)(l1 l2 z TI TO i1 i2:Addr)(nd:[z,TI,TO,i1,i2].Nodup) :
 Turn P w K (.Tuple elts k pos) (Itz K b1 b2 l1 l2) [z,TI,TO,i1,i2] z (λi h=>IsZip h z TI TO .none/\IsPair h TI (.ref i1) (.ref i2)/\(∃a b,IsPair h TO a b)/\fG b1 h i1 l1 i/\fG b2 h i2 l2 i) where
 mem:=by simp
 obj:=λi h st b hb=>by
  obtain⟨hz,hTI,⟨x,y,hTO⟩,h1,h2⟩:=st
  simp only[List.mem_cons,List.not_mem_nil,or_false] at hb
  rcases hb with rfl|rfl|rfl|rfl|rfl
  ·exact⟨_,hz,λv z=>by have z':Data.fields _=Data.cell v:=z;cases z'⟩
  ·exact⟨_,hTI,λv z=>by have z':Data.seq _ _=Data.cell v:=z;cases z'⟩
  ·exact⟨_,hTO,λv z=>by have z':Data.seq _ _=Data.cell v:=z;cases z'⟩
  ·obtain⟨o,e1,c,d⟩:=h1.ex
   exact⟨o,e1,λv z=>by rw[d] at z;cases z⟩
  ·obtain⟨o,e1,c,d⟩:=h2.ex
   exact⟨o,e1,λv z=>by rw[d] at z;cases z⟩
 keep:=λi h h' st k=>by
  obtain⟨hz,hTI,⟨x,y,hTO⟩,h1,h2⟩:=st
  exact⟨k z (by simp) _ hz,k TI (by simp) _ hTI,⟨x,y,k TO (by simp) _ hTO⟩,h1.keep λo q=>k i1 (by simp) o q,h2.keep λo q=>k i2 (by simp) o q⟩
 item:=by
  intro X hP hw hK hc i pins s σ H E I hf st hg
  subst hP hw hK
  obtain⟨hz,hTI,⟨a,b,hTO⟩,h1,h2⟩:=st
  obtain⟨⟨xs,x,hq1,hx⟩,ys,y,hq2,hy⟩:=hg
  obtain⟨Bc,rv1,p1,_⟩:=um I hq1
  obtain⟨its2,rv2,p2,_⟩:=um I hq2
  obtain⟨u1,hu1,ru1⟩:=rv1.get hx
  obtain⟨u2,hu2,ru2⟩:=rv2.get hy
  have ne1:∀b∈[z,TI,TO,i1,i2],l1≠b:=λb hb=>DW I (hf b hb) hq1
  have ne2:∀b∈[z,TI,TO,i1,i2],l2≠b:=λb hb=>DW I (hf b hb) hq2
  have hh:X.A.in1.handled=none:=I.ok.hd hc
  simp only[List.nodup_cons,List.mem_cons,List.not_mem_nil,or_false,not_or,List.nodup_nil,not_false_eq_true,and_true] at nd
  obtain⟨⟨n1,n2,n3,n4⟩,⟨n5,n6,n7⟩,⟨n8,n9⟩,n10⟩:=nd
  have D:ZAp z TI TO i1 i2 [i1,l1] [i2,l2]:=by
   refine⟨Ne.symm n1,Ne.symm n2,Ne.symm n3,Ne.symm n4,n5,n6,n7,n8,n9,n10,?_,?_,?_,?_,?_,?_⟩<;>simp only[List.mem_cons,List.not_mem_nil,or_false,not_or]
   ·exact⟨n3,(ne1 z (by simp)).symm⟩
   ·exact⟨n4,(ne2 z (by simp)).symm⟩
   ·exact⟨n8,(ne1 TO (by simp)).symm⟩
   ·exact⟨n9,(ne2 TO (by simp)).symm⟩
   ·exact⟨n10,(ne2 i1 (by simp)).symm⟩
   ·exact⟨Ne.symm n10,(ne1 i2 (by simp)).symm⟩
  have lt1:i<Bc.toArray.size:=by
   rw[List.size_toArray]
   exact(List.getElem?_eq_some_iff.mp hu1).1
  have Ie:i<its2.toArray.size:=by
   rw[List.size_toArray]
   exact(List.getElem?_eq_some_iff.mp hu2).1
  have hlt:∀b∈[z,TI,TO,i1,i2],b<s.heap.objs.size:=λb hb=>by
   simp only[List.mem_cons,List.not_mem_nil,or_false] at hb
   rcases hb with rfl|rfl|rfl|rfl|rfl
   ·exact Heap.lt_size hz
   ·exact Heap.lt_size hTI
   ·exact Heap.lt_size hTO
   ·obtain⟨o,e1,_⟩:=h1.ex;exact Heap.lt_size e1
   ·obtain⟨o,e1,_⟩:=h2.ex;exact Heap.lt_size e1
  refine lW D (oV (A:=X.A.in1) b1 hh i1 l1 (ne1 i1 (by simp)) Bc.toArray) (oV (A:=X.A.in1) b2 hh i2 l2 (ne2 i2 (by simp)) its2.toArray) hz hTI hTO ⟨h1,p1⟩ ⟨h2,p2⟩ lt1 Ie λx' y' h' tk hPx hPy hz' Zgg s1 s2 hT hsz hk=>?_
  have ex:x'=u1:=by
   have:Bc.toArray[i]?=some x':=hPx
   rw[show Bc.toArray[i]?=some u1 by simpa using hu1] at this
   exact(Option.some.inj this).symm
  have ey:y'=u2:=by
   have:its2.toArray[i]?=some y':=hPy
   rw[show its2.toArray[i]?=some u2 by simpa using hu2] at this
   exact(Option.some.inj this).symm
  subst ex ey
  refine⟨.ref s.heap.objs.size,rfl,wpAny_letOwnedTupleGo_zip hz' λh'' hz'' hs'=>?_⟩
  have hs2:Heap.SameBut z h' h'':=hs'
  have I2:=qd (fp:=[z,TI,TO,i1,i2]) (h':=h'') (t':=tk) I ru1 ru2 ⟨_,(hs2.2 _ (Nat.ne_of_gt (hlt z (by simp)))).trans hT,rfl⟩ (λb o hb q=>by
   have hne:∀c∈[z,TI,TO,i1,i2],b≠c:=λc hc e=>hb (e▸hc)
   exact(hs2.2 b (hne z (by simp))).trans (hk b o (hne z (by simp)) (hne TO (by simp)) (hne i1 (by simp)) (hne i2 (by simp)) q)) hf hlt
  refine⟨.ref s.heap.objs.size,_,I2,rfl,⟨x,y,s.heap.objs.size,λzs hzs=>by rw[uo I hzs hq1];exact hx,λzs hzs=>by rw[uo I hzs hq2];exact hy,I.fresh,rfl,rfl⟩,
   ⟨hz'',(hs2.2 TI (Ne.symm n1)).trans (hk TI _ (Ne.symm n1) n5 n6 n7 hTI),⟨_,_,(hs2.2 TO (Ne.symm n2)).trans Zgg⟩,s1.1.keep λo q=>(hs2.2 i1 (Ne.symm n3)).trans q,s2.1.keep λo q=>(hs2.2 i2 (Ne.symm n4)).trans q⟩,λb hb=>?_⟩
  rw[Ĝ (Nat.ne_of_lt (hlt b hb))];exact(hf b hb).1
 done:=by
  intro X hP hw hK hc i pins s σ H E I hf st hg
  subst hP hw hK
  obtain⟨hz,hTI,⟨a,b,hTO⟩,h1,h2⟩:=st
  obtain⟨⟨xs,hq1⟩,⟨ys,hq2⟩,hend'⟩:=hg
  have hend:xs.length=i\/(i<xs.length/\ys.length=i):=by
   rcases hend' with⟨xs',q1,q2⟩|⟨⟨xs',x,q1,q2⟩,ys',q3,q4⟩
   ·left;rw[uo I hq1 q1];exact Rh I q1 q2
   ·right
    rw[uo I hq1 q1,uo I hq2 q3]
    exact⟨(List.getElem?_eq_some_iff.mp q2).1,Rh I q3 q4⟩
  obtain⟨Bc,rv1,p1,_⟩:=um I hq1
  obtain⟨its2,rv2,p2,_⟩:=um I hq2
  have hl1:=rv1.length
  have hl2:=rv2.length
  have ne1:∀b∈[z,TI,TO,i1,i2],l1≠b:=λb hb=>DW I (hf b hb) hq1
  have ne2:∀b∈[z,TI,TO,i1,i2],l2≠b:=λb hb=>DW I (hf b hb) hq2
  have hh:X.A.in1.handled=none:=I.ok.hd hc
  simp only[List.nodup_cons,List.mem_cons,List.not_mem_nil,or_false,not_or,List.nodup_nil,not_false_eq_true,and_true] at nd
  obtain⟨⟨n1,n2,n3,n4⟩,⟨n5,n6,n7⟩,⟨n8,n9⟩,n10⟩:=nd
  have D:ZAp z TI TO i1 i2 [i1,l1] [i2,l2]:=by
   refine⟨Ne.symm n1,Ne.symm n2,Ne.symm n3,Ne.symm n4,n5,n6,n7,n8,n9,n10,?_,?_,?_,?_,?_,?_⟩<;>simp only[List.mem_cons,List.not_mem_nil,or_false,not_or]
   ·exact⟨n3,(ne1 z (by simp)).symm⟩
   ·exact⟨n4,(ne2 z (by simp)).symm⟩
   ·exact⟨n8,(ne1 TO (by simp)).symm⟩
   ·exact⟨n9,(ne2 TO (by simp)).symm⟩
   ·exact⟨n10,(ne2 i1 (by simp)).symm⟩
   ·exact⟨Ne.symm n10,(ne1 i2 (by simp)).symm⟩
  refine nP D (oV (A:=X.A.in1) b1 hh i1 l1 (ne1 i1 (by simp)) Bc.toArray) (oV (A:=X.A.in1) b2 hh i2 l2 (ne2 i2 (by simp)) its2.toArray) hz hTI hTO ⟨h1,p1⟩ ⟨h2,p2⟩ ?_ λh' tk hk=>⟨rfl,turns (fp:=[z,TI,TO,i1,i2]) (t':=tk) I (λb o hb q=>?_) hf⟩
  ·rw[List.size_toArray,List.size_toArray]
   omega
  ·have hne:∀c∈[z,TI,TO,i1,i2],b≠c:=λc hc e=>hb (e▸hc)
   exact hk b o (hne z (by simp)) (hne TO (by simp)) (hne i1 (by simp)) (hne i2 (by simp)) q
 self:=λ_ _ _ _ _ st h=>wpAny_pyIter_zip st.1 h
section
abbrev zB1(b:Bool)(h:Heap)(l1:Addr):Heap:=h.push {cls:=.type (nmB b),data:=.fields #[.ref l1,.int 0 0]}
abbrev zB2(b b':Bool)(h:Heap)(l1 l2:Addr):Heap:=(zB1 b h l1).push {cls:=.type (nmB b'),data:=.fields #[.ref l2,.int 0 0]}
abbrev zB3(b b':Bool)(h:Heap)(l1 l2:Addr):Heap:=(zB2 b b' h l1 l2).push {cls:=.type "tuple",data:=.seq #[.ref h.objs.size,.ref (zB1 b h l1).objs.size]}
abbrev zB4(b b':Bool)(h:Heap)(l1 l2:Addr):Heap:=(zB3 b b' h l1 l2).push {cls:=.type "tuple",data:=.seq #[.none,.none]}
abbrev zB5(b b':Bool)(h:Heap)(l1 l2:Addr):Heap:=(zB4 b b' h l1 l2).push {cls:=.type "zip",data:=.fields #[.none,.bool false,.bool false,.ref (zB2 b b' h l1 l2).objs.size,.ref (zB3 b b' h l1 l2).objs.size]}
def yj{prog:Program}{w:World}{A:Around}{E:Value->Shared->Prop}{s:Shared}{b:Bool}{l:Addr}{its:Array Value}{Q:Value->Shared->Prop}(hl:Gn b s.heap l its)
 (hQ:Q (.ref s.heap.objs.size) {s with heap:=s.heap.push {cls:=.type (nmB b),data:=.fields #[.ref l,.int 0 0]}}):wpAny (model prog w) A (pyIter (.ref l)) Q E s:=by
 cases b with
 |true=>exact wpAny_pyIter_tuple hl hQ
 |false=>exact wpAny_pyIter_list hl hQ
theorem Gn.push{b:Bool}{h:Heap}{l:Addr}{its:Array Value}(x:Gn b h l its)(o:Obj):Gn b (h.push o) l its:=by
 cases b with
 |true=>exact Heap.IsTuple.push x o
 |false=>exact Heap.IsList.push x o
def yq(b b':Bool)(l1 l2:Addr)(xs ys:Array Value) :
 Meets (Builtin.«zip.__new__» ⟨[.type "zip",.ref l1,.ref l2],[]⟩) (λ_ R s=>Gn b s.heap l1 xs/\Gn b' s.heap l2 ys/\
  R (.ok (.ret (.ref (zB4 b b' s.heap l1 l2).objs.size))) {s with heap:=zB5 b b' s.heap l1 l2}):=
 .of_wp fun prog w A R s h=>by
   obtain⟨hp,g,d,tk,os⟩:=s;obtain⟨hl1,hl2,h⟩:=h
   have hsub:=sub_zip
   have hL1:Gn b (Shared.heap ⟨hp,g,d,tk,os⟩) l1 xs:=hl1
   have hL2:Gn b' (Shared.heap ⟨hp.push {cls:=.type (nmB b),data:=.fields #[.ref l1,.int 0 0]},g,d,tk,os⟩) l2 ys:=Gn.push hl2 _
   wp_walk using yj hL1,yj hL2
   exact⟨_,rfl,h⟩
variable{prog:Program}{w:World}{A:Around}{E:Value->Shared->Prop}{s:Shared}
def Bd{b b':Bool}{l1 l2:Addr}{xs ys:Array Value}{Q:Value->Shared->Prop}(hl1:Gn b s.heap l1 xs)(hl2:Gn b' s.heap l2 ys)
 (h:∀h',IsZip h' (s.heap.objs.size+4) (s.heap.objs.size+2) (s.heap.objs.size+3) .none→IsPair h' (s.heap.objs.size+2) (.ref s.heap.objs.size) (.ref (s.heap.objs.size+1))→
   IsPair h' (s.heap.objs.size+3) .none .none->fG b h' s.heap.objs.size l1 0->fG b' h' (s.heap.objs.size+1) l2 0->h'.objs.size=s.heap.objs.size+5->
   (∀c o,s.heap.get? c=some o->h'.get? c=some o)->Q (.ref (s.heap.objs.size+4)) {s with heap:=h'}) :
 wpAny (model prog w) A (call (.type "zip") [.ref l1,.ref l2]) Q E s:=by
 refine callType_new F.called_zip (by decide) (F.typeCall_zip_2 _ _) (F.newCall_zip_2 _ _) (λobj=>F.args_object_init_3 obj _ _) F.entry_zip_new
  (yq b b' l1 l2 xs ys) ⟨hl1,hl2,?_⟩
 have z1:(zB1 b s.heap l1).objs.size=s.heap.objs.size+1:=Heap.size_push ..
 have z2:(zB2 b b' s.heap l1 l2).objs.size=s.heap.objs.size+2:=by rw[Heap.size_push,z1]
 have z3:(zB3 b b' s.heap l1 l2).objs.size=s.heap.objs.size+3:=by rw[Heap.size_push,z2]
 have z4:(zB4 b b' s.heap l1 l2).objs.size=s.heap.objs.size+4:=by rw[Heap.size_push,z3]
 have z5:(zB5 b b' s.heap l1 l2).objs.size=s.heap.objs.size+5:=by rw[Heap.size_push,z4]
 have g5:(zB5 b b' s.heap l1 l2).get? (zB4 b b' s.heap l1 l2).objs.size=some _:=Heap.get?_push_size _ rfl
 have g4:(zB5 b b' s.heap l1 l2).get? (zB3 b b' s.heap l1 l2).objs.size=some _:=Heap.get?_push_of_some _ (Heap.get?_push_size _ rfl)
 have g3:(zB5 b b' s.heap l1 l2).get? (zB2 b b' s.heap l1 l2).objs.size=some _:=Heap.get?_push_of_some _ (Heap.get?_push_of_some _ (Heap.get?_push_size _ rfl))
 have g2:(zB5 b b' s.heap l1 l2).get? (zB1 b s.heap l1).objs.size=some _:=Heap.get?_push_of_some _ (Heap.get?_push_of_some _ (Heap.get?_push_of_some _ (Heap.get?_push_size _ rfl)))
 have g1:(zB5 b b' s.heap l1 l2).get? s.heap.objs.size=some _:=Heap.get?_push_of_some _ (Heap.get?_push_of_some _ (Heap.get?_push_of_some _ (Heap.get?_push_of_some _ (Heap.get?_push_size _ rfl))))
 show _/\_
 rw[z2,z3,z4] at g5
 rw[z1,z2] at g3
 rw[z3] at g4
 rw[z1] at g2
 rw[z4]
 exact⟨⟨_,g5,rfl⟩,h _ g5 g3 g4 (.of g1 rfl rfl) (.of g2 rfl rfl) z5 λc o x=>
  Heap.get?_push_of_some _ (Heap.get?_push_of_some _ (Heap.get?_push_of_some _ (Heap.get?_push_of_some _ (Heap.get?_push_of_some _ x))))⟩
end
section
variable{X:Cx}{elts:List Expr}{k:Nat}{tp:Pos}
def Zgh(K:PySem.W.Frag)(ta:TA):TI:=λσ H R=>ta σ H λvs H1=>∃b1 b2 l1 l2,vs=[.ref l1,.ref l2]/\(∃xs,rG K b1 H1 l1 xs)/\(∃xs,rG K b2 H1 l2 xs)/\R (Itz K b1 b2 l1 l2) H1
def ZaU{e1 e2:Expr}{ta:TA}{p pos:Pos}(hg:Gl X "zip")(hm:X.mg "zip" =none)(ha:PA X [e1,e2] ta)(hs:starEach [e1,e2] X.env=[(false,eval e1 X.env),(false,eval e2 X.env)]:=by exact Aj rfl rfl)(hs2:starEach [e2] X.env=[(false,eval e2 X.env)]:=by exact aj rfl) :
 PI X (.Tuple elts k tp) (.Call (.Name "zip" p) [e1,e2] [] pos) (Zgh X.K ta):=by
 intro pins s σ H R I h
 refine Call_ (gb I hg hm boot_zip (PyProof.Rows.callWith_type1 (ŕ (ha pos pins s σ H _ I h) λus s1 ⟨vs,H1,I1,r1,q1⟩=>?_) (by rw[hs,hs2]) (by rw[hs2];rfl)))
 obtain⟨b1,b2,l1,l2,e,⟨xs,hq1⟩,⟨ys,hq2⟩,q⟩:=q1
 subst e
 obtain⟨u1,u2,rfl,ru1,ru2⟩:=vals2 r1
 cases ru1
 cases ru2
 obtain⟨Bc,rv1,p1,_⟩:=um I1 hq1
 obtain⟨its2,rv2,p2,_⟩:=um I1 hq2
 refine Bd p1 p2 λh' hz hTI hTO h1 h2 hsz hk=>?_
 have I2:Inv X pins σ H1 {s1 with heap:=h'}:=I1.kept (t':=s1.toks) hk
 refine wpAny_pyIter_zip (s:={s1 with heap:=h'}) hz ⟨s1.heap.objs.size+4,[s1.heap.objs.size+4,s1.heap.objs.size+2,s1.heap.objs.size+3,s1.heap.objs.size,s1.heap.objs.size+1],_,_,H1,rfl,I2,Jz b1 b2 l1 l2 _ _ _ _ _ (by simp),⟨hz,hTI,⟨_,_,hTO⟩,h1,h2⟩,λb hb=>?_,q⟩
 have hb':s1.heap.objs.size<=b:=by
  simp only[List.mem_cons,List.not_mem_nil,or_false] at hb
  rcases hb with rfl|rfl|rfl|rfl|rfl<;>omega
 exact I1.rN hb' (I1.hok.fresh hb')
end
def jM:List PV->List PV->List PV
 |p::ps,q::qs=>.tup [p,q]::jM ps qs
 |_,_=>[]
theorem yr:∀(ps qs:List PV) (i:Nat) (r:PV),(jM ps qs)[i]?=some r->∃p q,ps[i]?=some p/\qs[i]?=some q/\r=.tup [p,q]
 | [],_,_,_,h=>by simp[jM] at h
 |_::_,[],_,_,h=>by simp[jM] at h
 |p::ps,q::qs,0,r,h=>by
  have h':some (PV.tup [p,q])=some r:=h
  cases h'
  exact⟨p,q,rfl,rfl,rfl⟩
 |p::ps,q::qs,i+1,r,h=>yr ps qs i r h
theorem yu:∀(ps qs:List PV),(jM ps qs).length=min ps.length qs.length
 | [],_=>by simp[jM]
 |_::_,[]=>by simp[jM]
 |_::ps,_::qs=>by
  show(jM ps qs).length+1=_
  rw[yu ps qs,List.length_cons,List.length_cons]
  omega
def Gp(m1 m2:M (List PV)):M (List PV):=λρ=>(m1 ρ).bind λps ρ1=>(m2 ρ1).bind λqs ρ2=>.ok (jM ps qs) ρ2
def Itb(K:PySem.W.Frag)(b:Bool)(a:Addr):It:=if b=true then Itt K a else YB K a
def qg{K:KK}{L F:Hp}{b:Bool}{a:Addr}{ps:List PV}(h:eV K L F (Itb K.K b a) ps){c:Ctx}{F2 H:Hp}{σ:L2.St}{ρ:ń}(rel:Rel K c F2 H σ ρ)(sF:Same F F2)(sL:Same L H)(i:Nat)(p:PV)(hp:ps[i]?=some p) :
 (∃xs x,rG K.K b H a xs/\xs[i]?=some x)/\∀x,(∀xs,rG K.K b H a xs->xs[i]?=some x)->∃F3,Rel K c F3 H σ ρ/\Same F2 F3/\Rep K F3 p x:=by
 obtain⟨g,_⟩:=h c i F2 H σ ρ rel sF sL
 obtain⟨g1,g2⟩:=g p hp
 cases b with
 |true=>exact⟨g1,λx hx=>let ⟨F3,r3,s3,_,rp⟩:=g2 x H ⟨rfl,hx⟩;⟨F3,r3,s3,rp⟩⟩
 |false=>exact⟨g1,λx hx=>let ⟨F3,r3,s3,_,rp⟩:=g2 x H ⟨rfl,hx⟩;⟨F3,r3,s3,rp⟩⟩
def vq{K:KK}{L F:Hp}{b:Bool}{a:Addr}{ps:List PV}(h:eV K L F (Itb K.K b a) ps){c:Ctx}{F2 H:Hp}{σ:L2.St}{ρ:ń}(rel:Rel K c F2 H σ ρ)(sF:Same F F2)(sL:Same L H) :
 ∃xs,rG K.K b H a xs/\Qg K.K b H a ps.length xs:=by
 obtain⟨_,st⟩:=h c ps.length F2 H σ ρ rel sF sL
 have st':∃xs,rG K.K b H a xs/\xs.length<=ps.length:=by
  cases b with
  |true=>exact st rfl
  |false=>exact st rfl
 obtain⟨xs,h1,h2⟩:=st'
 exact⟨xs,h1,h2,λj hj=>(qg h rel sF sL j _ (List.getElem?_eq_getElem hj)).1⟩
def JB{K:KK}{L F:Hp}{b1 b2:Bool}{a1 a2:Addr}{ps qs:List PV}(h1:eV K L F (Itb K.K b1 a1) ps)(h2:eV K L F (Itb K.K b2 a2) qs):eV K L F (Itz K.K b1 b2 a1 a2) (jM ps qs):=by
 intro c i F2 H σ ρ rel sF sL
 refine⟨λr hr=>?_,λhi=>?_⟩
 ·obtain⟨p,q,hp,hq,rfl⟩:=yr ps qs i r hr
  obtain⟨g1,y1⟩:=qg h1 rel sF sL i p hp
  refine⟨⟨g1,(qg h2 rel sF sL i q hq).1⟩,λz H' ⟨x,y,T,e1,e2,hT,ez,eH⟩=>?_⟩
  subst ez eH
  obtain⟨F3,cB,s3,rp⟩:=y1 x e1
  obtain⟨F4,xH,s4,rq⟩:=(qg h2 cB (sF.trans s3) sL i q hq).2 y e2
  obtain⟨r1,r2⟩:=DR xH hT (Rep.same s4 p x rp) rq
  exact⟨_,r1,(s3.trans s4).trans (Same.upd (xH.sub.free hT)),Same.upd hT,r2⟩
 ·rw[yu] at hi
  obtain⟨xs,x1,x2⟩:=vq h1 rel sF sL
  obtain⟨ys,y1,y2⟩:=vq h2 rel sF sL
  refine⟨⟨xs,x1⟩,⟨ys,y1⟩,?_⟩
  by_cases hl:ps.length<=qs.length
  ·left
   have e:i=ps.length:=by omega
   exact⟨xs,x1,e▸x2⟩
  ·right
   have e:i=qs.length:=by omega
   exact⟨(qg h1 rel sF sL i _ (List.getElem?_eq_getElem (by omega))).1,ys,y1,e▸y2⟩
def Zdn{K:KK}{c:Ctx}{σ:L2.St}{ρ:ń}{F H:Hp}{ps:List PV}{v:V}(h:rSq K c σ ρ F H ps v):∃b a,v=.ref a/\(∃xs,rG K.K b H a xs)/\eV K c.L F (Itb K.K b a) ps:=by
 rcases h with⟨a,e1,e2,e3⟩|⟨a,e1,e2,e3⟩
 ·exact⟨false,a,e1,e2,e3⟩
 ·exact⟨true,a,e1,e2,e3⟩
section
variable{X:Cx}{cm:String->Addr}{E:L2.St->XK}{e e2:Expr}
def Zdo{elts:List Expr}{k:Nat}{tp p pos:Pos}{m1 m2:M (List PV)}(hg:Gl X "zip")(hm:X.mg "zip" =none)(h1:PE X e (tG (kk X cm) E (rSq (kk X cm)) m1))(h2:PE X e2 (tG (kk X cm) E (rSq (kk X cm)) m2))
 (hs:starEach [e,e2] X.env=[(false,eval e X.env),(false,eval e2 X.env)]:=by exact Aj rfl rfl)(hs2:starEach [e2] X.env=[(false,eval e2 X.env)]:=by exact aj rfl) :
 PI X (.Tuple elts k tp) (.Call (.Name "zip" p) [e,e2] [] pos) (tI (kk X cm) E (Gp m1 m2)):=λpins s σ H R I h=>ZaU hg hm (aG h1 (aG h2 eE hs2) (by rw[hs,hs2])) hs hs2 pins s σ H R I (by
 obtain⟨c,F,ρ,rel,h⟩:=h
 refine⟨c,F,ρ,rel,au.bind h λps ρ1 v F1 H1 Ė s1 s2 q h1=>⟨c,F1,ρ1,Ė,au.bind h1 λqs ρ2 u F2 H2 Ĵ s3 s4 q2 h2=>?_⟩⟩
 obtain⟨b1,a1,e1,_,e3⟩:=Zdn q
 obtain⟨b2,a2,f1,f2,f3⟩:=Zdn q2
 subst e1 f1
 obtain⟨xs,x1,_⟩:=vq (e3.mono s3) Ĵ (Same.refl _) λb u e=>(Ĵ.lent b u e).1
 exact⟨b1,b2,a1,a2,rfl,⟨xs,x1⟩,f2,h2 _ F2 H2 Ĵ (Same.refl _) (Same.refl _) (JB (e3.mono s3) f3)⟩)
end
end P
namespace P
open PySem PySem.Spec PyProof.Rows L2 M2 M3 M4
def ZaV(K:PySem.W.Frag)(neg:Bool):R2:=λx y H Q=>∃d es a xs,Rp K H d x/\y=.ref a/\(ū K H a xs\/bO K H a xs)/\iJ K H es xs/\d.canLay0=true/\PyData.canLayAll0 es=true/\d.depth<=60/\Q (.bl (if neg then !(es.any λe=>PyData.eqv e d) else es.any λe=>PyData.eqv e d)) H
open Classical in
noncomputable def vA(h:Heap)(d:PyData)(y:Value):Bool:=if ∃e as,Reads h y e as/\e.canLay0=true/\PyData.eqv e d=true then true else false
def Bf{h:Heap}{d e:PyData}{y:Value}{as:List Addr}(r:Reads h y e as)(hc:e.canLay0=true):vA h d y=PyData.eqv e d:=by
 unfold vA
 cases q:PyData.eqv e d with
 |true=>rw[if_pos ⟨e,as,r,hc,q⟩]
 |false=>
  rw[if_neg]
  rintro ⟨e',as',r',hc',q'⟩
  have:=SeqAt.Reads.unique e e' y as as' hc r r'
  subst this
  rw[q] at q'
  cases q'
theorem jN{h:Heap}{d:PyData}:∀{us:List Value} {es:List PyData} {as:List Addr},ReadsAll h us es as->PyData.canLayAll0 es=true->us.any (vA h d)=es.any λe=>PyData.eqv e d
 |_,_,_,.nil,_=>rfl
 |_,_,_,.cons r rs,hc=>by
  unfold PyData.canLayAll0 at hc
  rw[Bool.and_eq_true] at hc
  rw[List.any_cons,List.any_cons,Bf r hc.1,jN rs hc.2]
theorem iB{A:Around}{s:Shared}{d:PyData}{v:Value}{bs:List Addr}(rv:Reads s.heap v d bs)(hd:d.canLay0=true)(hu:A.units+d.depth<cLine):∀{us:List Value} {es:List PyData} {as:List Addr},ReadsAll s.heap us es as->PyData.canLayAll0 es=true->∀u∈us,SeqAt.EqAt A s u v (vA s.heap d u)
 |_,_,_,.nil,_=>λu hu=>by cases hu
 |_,_,_,.cons r rs,hc=>λu hm=>by
  unfold PyData.canLayAll0 at hc
  rw[Bool.and_eq_true] at hc
  rcases List.mem_cons.mp hm with rfl|hm
  ·rw[Bf r hc.1]
   exact SeqAt.eqAt_reads _ _ A s _ _ _ _ r rv hc.1 hd (by omega)
  ·exact iB rv hd hu rs hc.2 u hm
section
variable{X:Cx}
def JC(hu:X.A.units+64<cLine):ŭ X (compareOp .In) (ZaV X.K false):=by
 intro pins s σ H x y v u Q I rx ry h
 obtain⟨d,es,a,xs,h1,rfl,hq,h3,h4,h5,h6,q⟩:=h
 cases ry
 obtain⟨as,ra⟩:=Rp.reads I d x v h1 rx
 have hu1:X.A.in1.units+d.depth<cLine:=by
  have:X.A.in1.units=X.A.units+1:=rfl
  omega
 rcases hq with hq|hq
 ·obtain⟨its,r,pl,hz⟩:=I.list hq
  obtain⟨bs,rb⟩:=iJ.reads I es xs its h3 r
  refine SeqAt.in_listAt (vA s.heap d) pl.isList (λw hw=>iB ra h4 hu1 rb h5 w (by simpa using hw)) ⟨.bl _,H,I,rfl,?_⟩
  rw[show its.toArray.any (vA s.heap d)=its.any (vA s.heap d) by simp,jN rb h5]
  exact q
 ·obtain⟨its,r,pl,hz⟩:=I.tuple hq
  obtain⟨bs,rb⟩:=iJ.reads I es xs its h3 r
  refine SeqAt.in_tupleAt (vA s.heap d) pl (λw hw=>iB ra h4 hu1 rb h5 w (by simpa using hw)) ⟨.bl _,H,I,rfl,?_⟩
  rw[show its.toArray.any (vA s.heap d)=its.any (vA s.heap d) by simp,jN rb h5]
  exact q
def uq(hu:X.A.units+64<cLine):ŭ X (compareOp .NotIn) (ZaV X.K true):=by
 intro pins s σ H x y v u Q I rx ry h
 obtain⟨d,es,a,xs,h1,rfl,hq,h3,h4,h5,h6,q⟩:=h
 cases ry
 obtain⟨as,ra⟩:=Rp.reads I d x v h1 rx
 have hu1:X.A.in1.units+d.depth<cLine:=by
  have:X.A.in1.units=X.A.units+1:=rfl
  omega
 rcases hq with hq|hq
 ·obtain⟨its,r,pl,hz⟩:=I.list hq
  obtain⟨bs,rb⟩:=iJ.reads I es xs its h3 r
  refine SeqAt.notIn_listAt (vA s.heap d) pl.isList (λw hw=>iB ra h4 hu1 rb h5 w (by simpa using hw)) ⟨.bl _,H,I,rfl,?_⟩
  rw[show its.toArray.any (vA s.heap d)=its.any (vA s.heap d) by simp,jN rb h5]
  exact q
 ·obtain⟨its,r,pl,hz⟩:=I.tuple hq
  obtain⟨bs,rb⟩:=iJ.reads I es xs its h3 r
  refine SeqAt.notIn_tupleAt (vA s.heap d) pl (λw hw=>iB ra h4 hu1 rb h5 w (by simpa using hw)) ⟨.bl _,H,I,rfl,?_⟩
  rw[show its.toArray.any (vA s.heap d)=its.any (vA s.heap d) by simp,jN rb h5]
  exact q
end
def inD(neg:Bool)(p q:PV):Option PV:=match q with
 | .lst ps=>if ź p && aB ps && decide (dep p<=60) then some (.bl (if neg then !(ps.any λy=>eqB y p) else ps.any λy=>eqB y p)) else none
 | .tup ps=>if ź p && aB ps && decide (dep p<=60) then some (.bl (if neg then !(ps.any λy=>eqB y p) else ps.any λy=>eqB y p)) else none
 |_=>none
theorem vB{p:PV}(h:ź p=true):∀{ps:List PV},aB ps=true->(bY ps).any (λe=>PyData.eqv e (toD p))=ps.any λy=>eqB y p
 | [],_=>rfl
 |y::ps,hp=>by
  unfold aB at hp
  rw[Bool.and_eq_true] at hp
  unfold bY
  rw[List.any_cons,List.any_cons,pO y p hp.1 h,vB h hp.2]
def vC{K:KK}{neg:Bool}:iM K (ZaV K.K neg) (inD neg):=by
 intro c F H σ ρ p q pv v u Q rel r1 r2 e k
 unfold inD at e
 split at e
 ·rename_i ps
  split at e
  ·rename_i hc
   rw[Bool.and_eq_true,Bool.and_eq_true,decide_eq_true_eq] at hc
   cases e
   obtain⟨a,xs,rfl,h1,h2⟩:=r2.lst rel.sub
   refine⟨toD p,bY ps,a,xs,eY rel.sub hc.1.1 r1,rfl,.inl h1,iJ.same rel.sub _ _ (eX ps xs hc.1.2 h2),cI p hc.1.1,dM ps hc.1.2,by rw[cJ];exact hc.2,?_⟩
   rw[vB hc.1.1 hc.1.2]
   exact k _ F H rel (Same.refl _) (Same.refl _) Rep.bl
  ·cases e
 ·rename_i ps
  split at e
  ·rename_i hc
   rw[Bool.and_eq_true,Bool.and_eq_true,decide_eq_true_eq] at hc
   cases e
   obtain⟨a,xs,rfl,h1,h2⟩:=r2.tup rel.sub
   refine⟨toD p,bY ps,a,xs,eY rel.sub hc.1.1 r1,rfl,.inr h1,iJ.same rel.sub _ _ (eX ps xs hc.1.2 h2),cI p hc.1.1,dM ps hc.1.2,by rw[cJ];exact hc.2,?_⟩
   rw[vB hc.1.1 hc.1.2]
   exact k _ F H rel (Same.refl _) (Same.refl _) Rep.bl
  ·cases e
 ·cases e
end P
namespace P
open PySem PySem.Spec PyProof.Rows L2 M2 M3 M4
def jO{x:Int}{n:Nat}(h1: -(2 ^ n:Int)<x)(h2:x<2 ^ n):bits x<=n:=by
 refine intBits_le_iff.mpr ?_
 have e:((2 ^ n:Nat):Int)=(2:Int) ^ n:=by simp
 have:((x.natAbs:Nat):Int)<((2 ^ n:Nat):Int):=by rw[e];omega
 omega
def Zdp{x y:Int}(h:y≠0)(h1: -18446744073709551616<y)(h2:y<18446744073709551616):gC x y=true:=xX h (Nat.le_trans (jO (n:=64) (by omega) (by omega)) (by decide))
@[simp] theorem ZeG{x:Int}{n:Nat}(h:n≠0)(h2:n<18446744073709551616):gC x (no_index (OfNat.ofNat n):Int)=true:=by
  have e:(no_index (OfNat.ofNat n):Int)=(n:Int):=rfl
  rw[e]
  exact Zdp (by omega) (by omega) (by omega)
@[simp] theorem Zdq{x:Int}{n:Nat}(h:n<18446744073709551616):Ő x (no_index (OfNat.ofNat n):Int)=true:=by
  have e:(no_index (OfNat.ofNat n):Int)=(n:Int):=rfl
  rw[e]
  exact mul_r (by omega) (by omega)
@[simp] theorem Zdr{x:Int}{n:Nat}(h:n<18446744073709551616):Ő (no_index (OfNat.ofNat n):Int) x=true:=by
  have e:(no_index (OfNat.ofNat n):Int)=(n:Int):=rfl
  rw[e]
  exact bC (by omega) (by omega)
@[simp] theorem ZeH{m n:Nat}(h:m<18446744073709551616)(h2:n≤1000000):xQ (no_index (OfNat.ofNat m):Int) (no_index (OfNat.ofNat n):Int)=true:=by
  have e:(no_index (OfNat.ofNat m):Int)=(m:Int):=rfl
  have e2:(no_index (OfNat.ofNat n):Int)=(n:Int):=rfl
  rw[e,e2]
  unfold xQ
  simp
  omega
@[simp] theorem Zds{x:Int}{n:Nat}:x.fdiv (no_index (OfNat.ofNat n):Int)=x / (no_index (OfNat.ofNat n):Int):=Int.fdiv_eq_ediv_of_nonneg x (Int.natCast_nonneg n)
@[simp] theorem Zdt{x:Int}{n:Nat}:x.fmod (no_index (OfNat.ofNat n):Int)=x % (no_index (OfNat.ofNat n):Int):=Int.fmod_eq_emod_of_nonneg x (Int.natCast_nonneg n)
end P
namespace P
open PySem PySem.Spec PyProof.Rows L2 M2 M3 M4
def add_l{xs ys:List PV}(h:xs.length+ys.length<=16777216):ĥ (.lst xs) (.lst ys)=some (.ow (xs++ys)):=by
 unfold ĥ
 simp[h]
def JD{x y z w:Int}:eqB (.tup [.int x,.int y]) (.tup [.int z,.int w])=(decide (x=z) && decide (y=w)):=by
 rw[eqB.eq_def]
 show dJ [.int x,.int y] [.int z,.int w]=_
 rw[dJ.eq_def]
 show(eqB (.int x) (.int z) && dJ [.int y] [.int w])=_
 rw[dJ.eq_def]
 show(eqB (.int x) (.int z) && (eqB (.int y) (.int w) && dJ [] []))=_
 have h1:eqB (.int x) (.int z)=decide (x=z):=by rw[eqB.eq_def];rfl
 have h2:eqB (.int y) (.int w)=decide (y=w):=by rw[eqB.eq_def];rfl
 have h3:dJ [] []=true:=by rw[dJ.eq_def]
 rw[h1,h2,h3,Bool.and_true]
def ZaW{x y z w:Int}:rZ (.tup [.int x,.int y]) (.tup [.int z,.int w])=true:=by
 simp[rZ,ź,aB,dep,uZ]
def DX{x y z w:Int}:Ş (.tup [.int x,.int y]) (.tup [.int z,.int w])=some (.bl (decide (x=z) && decide (y=w))):=by
 unfold Ş
 rw[if_pos ZaW,JD]
mutual
theorem yx:∀p:PV,ź p=true->eqB p p=true
 | .non,_=>by unfold eqB;rfl
 | .bl b,_=>by unfold eqB;simp
 | .int i,_=>by unfold eqB;simp
 | .str x,_=>by unfold eqB;simp
 | .lst xs,h=>by unfold ź at h;unfold eqB;exact lX xs h
 | .tup xs,h=>by unfold ź at h;unfold eqB;exact lX xs h
 | .ins _ _ _,h=>by simp[ź] at h
 | .xc _ _ _,h=>by simp[ź] at h
 | .ty _,h=>by simp[ź] at h
 | .cls _,h=>by simp[ź] at h
theorem lX:∀ps:List PV,aB ps=true->dJ ps ps=true
 | [],_=>by unfold dJ;rfl
 |p::ps,h=>by
  unfold aB at h
  rw[Bool.and_eq_true] at h
  unfold dJ
  rw[yx p h.1,lX ps h.2]
  rfl
end
def lY{p:PV}(h:ź p=true)(hd:dep p<=60):aC p p=some (.bl false):=by
 unfold aC rZ
 rw[h,yx p h,decide_eq_true (by omega:min (dep p) (dep p)<=60)]
 rfl
def bF{a b:Str}(ha:PyData.strOk a=true)(hb:PyData.strOk b=true):Ş (.str a) (.str b)=some (.bl (decide (a=b))):=by
 have h:eqB (.str a) (.str b)=decide (a=b):=by unfold eqB;rfl
 unfold Ş rZ
 rw[show ź (.str a)=true by unfold ź;exact ha,show ź (.str b)=true by unfold ź;exact hb,h]
 rfl
end P
namespace P
open PySem PySem.Spec PyProof.Rows L2 M2 M3 M4
section
variable{g:Tg}{mb:M Fl}{mt:M Bool}{me:M PV}
theorem dN{α β:Type}(c:α->PV)(step:β->α->β)(J:β->ń->Prop):∀(xs:List α),(∀x∈xs,∀b ρ,J b ρ->∃ρ1 ρ2,g (c x) ρ=some ρ1/\mb ρ1=.ok .nx ρ2/\J (step b x) ρ2)->∀b ρ,J b ρ->∃ρ',forL g mb (xs.map c) ρ=.ok .nx ρ'/\J (xs.foldl step b) ρ'
 | [],_,b,ρ,h=>⟨ρ,rfl,h⟩
 |x::xs,hs,b,ρ,h=>by
  obtain⟨ρ1,ρ2,h1,h2,h3⟩:=hs x (by simp) b ρ h
  obtain⟨ρ',e,h4⟩:=dN c step J xs (λy hy=>hs y (List.mem_cons_of_mem _ hy)) (step b x) ρ2 h3
  refine⟨ρ',?_,h4⟩
  rw[List.map_cons,forL,h1]
  dsimp only
  rw[h2]
  exact e
theorem bR{α γ:Type}(c:α->PV)(t:α->Option γ)(v:γ->RV)(J:ń->Prop):∀(xs:List α),(∀x∈xs,∀ρ,J ρ->∃ρ1,g (c x) ρ=some ρ1/\((∃r ρ2,t x=some r/\mb ρ1=.ok (.rt (v r)) ρ2)\/(∃ρ2,t x=none/\mb ρ1=.ok .nx ρ2/\J ρ2)))->∀ρ,J ρ->
 (∃r ρ',xs.findSome? t=some r/\forL g mb (xs.map c) ρ=.ok (.rt (v r)) ρ')\/(∃ρ',xs.findSome? t=none/\forL g mb (xs.map c) ρ=.ok .nx ρ'/\J ρ')
 | [],_,ρ,h=>.inr ⟨ρ,rfl,rfl,h⟩
 |x::xs,hs,ρ,h=>by
  obtain⟨ρ1,h1,h2⟩:=hs x (by simp) ρ h
  rcases h2 with⟨r,ρ2,e1,e2⟩|⟨ρ2,e1,e2,e3⟩
  ·refine .inl ⟨r,ρ2,by rw[List.findSome?_cons,e1],?_⟩
   rw[List.map_cons,forL,h1]
   dsimp only
   rw[e2]
   rfl
  ·have hf:List.findSome? t (x::xs)=List.findSome? t xs:=by rw[List.findSome?_cons,e1]
   have hl:forL g mb ((x::xs).map c) ρ=forL g mb (xs.map c) ρ2:=by
    rw[List.map_cons,forL,h1]
    dsimp only
    rw[e2]
    rfl
   rw[hf,hl]
   exact bR c t v J xs (λy hy=>hs y (List.mem_cons_of_mem _ hy)) ρ2 e3
theorem Ŷ{α:Type}(c f:α->PV)(q:α->Bool)(I:ń->Prop):∀(xs:List α) (ρ:ń) (acc:List PV),I ρ->acc.length+xs.length<=16777216->
 (∀x∈xs,∀ρ,I ρ->∃ρ1 ρ2,g (c x) ρ=some ρ1/\mt ρ1=.ok (q x) ρ2/\(q x=false->I ρ2)/\(q x=true->∃ρ3,me ρ2=.ok (f x) ρ3/\I ρ3))->į g mt me (xs.map c) ρ acc=some (acc++(xs.filter q).map f)
 | [],ρ,acc,_,_,_=>by simp[į]
 |x::xs,ρ,acc,h,hz,hs=>by
  obtain⟨ρ1,ρ2,h1,h2,h3,h4⟩:=hs x List.mem_cons_self ρ h
  cases e:q x with
  |true=>
   obtain⟨ρ3,h5,h6⟩:=h4 e
   rw[e] at h2
   rw[List.map_cons,į,h1]
   dsimp only
   rw[h2]
   dsimp only
   rw[h5]
   dsimp only
   rw[if_pos (by simp at hz;omega),Ŷ c f q I xs ρ3 (acc ++ [f x]) h6 (by simp at hz ⊢;omega) λy hy=>hs y (List.mem_cons_of_mem _ hy)]
   simp[e]
  |false=>
   rw[e] at h2
   rw[List.map_cons,į,h1]
   dsimp only
   rw[h2]
   dsimp only
   rw[Ŷ c f q I xs ρ2 acc (h3 e) (by simp at hz ⊢;omega) λy hy=>hs y (List.mem_cons_of_mem _ hy)]
   simp[e]
end
end P
namespace P
open PySem PySem.Spec PyProof.Rows L2 M2 M3 M4
def Zgi(K:PySem.W.Frag)(n:Nat)(t:Hf):TG:=λv σ H Q=>∃a xs,v=.ref a/\ū K H a xs/\xs.length=n/\t xs σ H Q
section
variable{X:Cx}{cm:String->Addr}{pos:Pos}
def ZaX{es:List Expr}{k:Nat}{t:Hf}{n:Nat}(hc:X.calm=true)(h:zB X es t)
 (hn:(assignEach es X.env).length=n:=by rfl)(hst:(assignEach es X.env).findIdx? (·.1)=none:=by rfl):PG X (.Tuple es k pos) (Zgi X.K n t):=by
 intro pins s σ H v u Q I r hw
 obtain⟨a,xs,e1,hq,hl,hw⟩:=hw
 subst e1
 cases r
 obtain⟨its,rv,ht,hz⟩:=I.list hq
 rw[assign_Tuple]
 refine wpAny_bind (wpAny_standAt ?_)
 unfold unpack
 rw[show(assignEach es X.env).length=its.toArray.size by simp[hn,<-hl,rv.length],hst]
 refine wpAny_bind (wpAny_holding (PySem.W.kun_itemsOf (I.ok.hd hc) ht.isList λh' hx=>?_))
 have I1:Inv X pins σ H {s with heap:=h'}:=I.kept (t':=s.toks) λb o e=>hx b o (Nat.ne_of_lt (Heap.lt_size e)) e
 exact h pins _ σ H xs _ Q I1 (by simpa using rv) hw
def gS(n:Nat)(gs:GP):Tg:=λp ρ=>match p with
 | .tup ps=>if ps.length=n then gs ps ρ else none
 | .lst ps=>if ps.length=n then gs ps ρ else none
 |_=>none
@[simp] theorem Zgj{n:Nat}{gs:GP}{ps:List PV}{ρ:ń}:gS n gs (.tup ps) ρ=if ps.length=n then gs ps ρ else none:=rfl
@[simp] theorem Zgk{n:Nat}{gs:GP}{ps:List PV}{ρ:ń}:gS n gs (.lst ps) ρ=if ps.length=n then gs ps ρ else none:=rfl
def DY{es:List Expr}{k:Nat}{gs:GP}{n:Nat}(hc:X.calm=true)(h:zB X es (tTs (kk X cm) gs))(hn:(assignEach es X.env).length=n:=by rfl)(hst:(assignEach es X.env).findIdx? (·.1)=none:=by rfl):PG X (.Tuple es k pos) (tT (kk X cm) (gS n gs)):=by
 intro pins s σ H v u Q I r hw
 obtain⟨c,F,ρ,p,rel,rp,hw⟩:=hw
 cases p with
 |tup ps=>
  unfold Rep at rp
  obtain⟨a,xs,h1,h2,h3⟩:=rp
  unfold gS at hw
  dsimp only at hw
  split at hw
  ·rename_i hl
   exact Hh hc h hn hst pins s σ H v u Q I r ⟨a,xs,h1,Same.tup rel.sub h2,by rw[<-h3.length];exact hl,c,F,ρ,ps,rel,h3,hw⟩
  ·exact hw.elim
 |lst ps=>
  unfold Rep at rp
  obtain⟨a,xs,h1,h2,h3⟩:=rp
  unfold gS at hw
  dsimp only at hw
  split at hw
  ·rename_i hl
   exact ZaX hc h hn hst pins s σ H v u Q I r ⟨a,xs,h1,rel.sub.seq h2,by rw[<-h3.length];exact hl,c,F,ρ,ps,rel,h3,hw⟩
  ·exact hw.elim
 |_=>exact hw.elim
end
end P
namespace P
open PySem PySem.Spec PyProof.Rows L2 M2 M3 M4
section
variable{X:Cx}{cm:String->Addr}{E:L2.St->XK}{a:Expr}{p p1 pos pos1:Pos}{mr:M (List PV)}
end
end P
namespace P
open PySem PySem.Spec PyProof.Rows L2 M2 M3 M4
section
variable{X:Cx}{cm:String->Addr}{E:L2.St->XK}{e o:Expr}{es:List Expr}{pos:Pos}{m:M Bool}{mo:M RV}{ma:M PV}
@[simp] theorem Zgl{ps qs:List PV}:(RV.ot ps qs).val=.tup (ps ++ [.lst qs]):=rfl
@[simp] theorem Zgm{ps qs:List PV}:(RV.ot ps qs).slot=.ot ps qs:=rfl
end
end P
namespace P
open PySem PySem.Spec PyProof.Rows L2 M2 M3 M4
section
variable{X:Cx}{K:KK}
end
end P
namespace P
open PySem PySem.Spec PyProof.Rows L2 M2 M3 M4
section
variable{K:KK}{c c':Ctx}{F F' H H':Hp}{σ:L2.St}{ρ:ń}
end
section
variable{X:Cx}{cm:String->Addr}{E:L2.St->XK}{elt tg iter:Expr}{ifs:List Expr}{scope:Scope}{pos:Pos}{mi:M (List PV)}{g:Tg}{mt:M Bool}{me:M RV}
end
section
variable{K:KK}{c:Ctx}{F H:Hp}{σ:L2.St}{ρ:ń}
end
section
variable{X:Cx}{cm:String->Addr}{E:L2.St->XK}{e:Expr}{es:List Expr}{m:M Bool}{mv:M PV}{ms:M (List Slot)}
end
end P
namespace P
open PySem PySem.Spec PyProof.Rows L2 M2 M3 M4
section
variable{X:Cx}{K:KK}
end
section
variable{ρ:ń}{i x j:Nat}{m:M Bool}{mv:M PV}{ms:M (List Slot)}{mp:M (List (List PV))}{g:Tg}{mt:M Bool}{me:M RV}{mi:M (List PV)}{js:List Nat}{nl:Nat}
end
end P
namespace P
open PySem PySem.Spec PyProof.Rows L2 M2 M3 M5
def lamP(js:List Nat)(ρ:ń)(p:PV):ń:=js.map (λ(j:Nat)=>Ŧ ((ρ[j]?).getD .no)) ++ [.sh p]
def yC(js:List Nat)(me:M PV)(ρ:ń):List PV->Option (List Int)
 | []=>some []
 |p::ps=>match me (lamP js ρ p) with
  | .ok (.int k) _=>(yC js me ρ ps).map (k:: ·)
  |_=>none
def jq(p:PV)(k:Int):List PV->List Int->PV
 |q::qs,m::ms=>if m<k then jq q m qs ms else jq p k qs ms
 |_,_=>p
def iC:List PV->List Int->Option PV
 |p::ps,k::ks=>some (jq p k ps ks)
 |_,_=>none
def JF(js:List Nat)(me:M PV)(mr:M (List PV)):M PV:=λρ=>(mr ρ).bind λps ρ1=>match ps with
 | [.lst items]=>match yC js me ρ1 items with
   |some ks=>Res.kO (iC items ks) ρ1
   |none=>.bad
 |_=>.bad
theorem ur{js:List Nat}{me:M PV}{ρ:ń}:∀{items:List PV} {ks:List Int},yC js me ρ items=some ks->ks.length=items.length/\∀(k:Nat) (p:PV),items[k]?=some p->∃ρ',me (lamP js ρ p)=.ok (.int (ks.getD k 0)) ρ'
 | [],ks,h=>by
   cases(show some []=some ks from h)
   exact⟨rfl,λk p z=>by simp at z⟩
 |q::r,ks,h=>by
  have h':(match me (lamP js ρ q) with
   | .ok (.int k) _=>(yC js me ρ r).map (k:: ·)
   |_=>none)=some ks:=h
  split at h'
  ·rename_i k ρ' e
   cases e2:yC js me ρ r with
   |none=>rw[e2] at h';cases h'
   |some ks'=>
    rw[e2] at h'
    cases(show some (k::ks')=some ks from h')
    obtain⟨h1,h2⟩:=ur e2
    refine⟨by simp[h1],λn p hp=>?_⟩
    cases n with
    |zero=>
     simp at hp
     subst hp
     exact⟨ρ',e⟩
    |succ n=>
     simp at hp
     simpa using h2 n p hp
  ·cases h'
theorem cM:∀{qs:List PV} {ms:List Int} {p:PV} {k:Int} {i:Nat} {x:PV},ms.length=qs.length->(p::qs)[i]?=some x->(∀j,j<(p::qs).length->(k::ms).getD i 0<=(k::ms).getD j 0/\(j<i->(k::ms).getD i 0<(k::ms).getD j 0))->jq p k qs ms=x
 | [],[],p,k,i,x,_,hx,_=>by
   cases i with
   |zero=>simpa[jq] using hx
   |succ i=>simp at hx
 | [],_::_,_,_,_,_,h,_,_=>by simp at h
 |_::_,[],_,_,_,_,h,_,_=>by simp at h
 |q::qs,m::ms,p,k,i,x,hl,hx,hb=>by
  have hl':ms.length=qs.length:=by simpa using hl
  unfold jq
  by_cases hm:m<k
  ·rw[if_pos hm]
   cases i with
   |zero=>
    have:=(hb 1 (by simp)).1
    simp at this
    omega
   |succ i=>
    refine cM (i:=i) hl' (by simpa using hx) λj hj=>?_
    have:=hb (j+1) (by simpa using hj)
    refine⟨by simpa using this.1,λhji=>by simpa using this.2 (by omega)⟩
  ·rw[if_neg hm]
   cases i with
   |zero=>
    refine cM (i:=0) hl' (by simpa using hx) λj hj=>?_
    cases j with
    |zero=>exact⟨Int.le_refl _,λz=>absurd z (Nat.lt_irrefl _)⟩
    |succ j=>
     have:=hb (j+1+1) (by simpa using hj)
     exact⟨by simpa using this.1,λz=>absurd z (by omega)⟩
   |succ i=>
    cases i with
    |zero=>
     have:=(hb 0 (by simp)).2 (by omega)
     simp at this
     omega
    |succ i=>
     refine cM (i:=i+1) hl' (by simpa using hx) λj hj=>?_
     cases j with
     |zero=>
      have:=hb 0 (by simp)
      exact⟨by simpa using this.1,λ_=>by simpa using this.2 (by omega)⟩
     |succ j=>
      have:=hb (j+1+1) (by simpa using hj)
      exact⟨by simpa using this.1,λz=>by simpa using this.2 (by omega)⟩
def jP{items:List PV}{ks:List Int}{i:Nat}{x b:PV}(hl:ks.length=items.length)(h:iC items ks=some b)(hx:items[i]?=some x)(hb:∀j,j<items.length->ks.getD i 0<=ks.getD j 0/\(j<i->ks.getD i 0<ks.getD j 0)):b=x:=by
 cases items with
 |nil=>simp at hx
 |cons p ps=>
  cases ks with
  |nil=>simp at hl
  |cons k ks=>
   have h':jq p k ps ks=b:=Option.some.inj h
   rw[<-h']
   exact cM (by simpa using hl) hx hb
section
variable{K:KK}{c:Ctx}{F H:Hp}{σ:L2.St}{ρ:ń}
theorem Gr.refl(s:Same F H):Gr F H F H:=⟨Same.refl _,Same.refl _,s,λ_ _ z=>z⟩
theorem Gr.trans{F1 H1 F2 H2:Hp}(a:Gr F H F1 H1)(b:Gr F1 H1 F2 H2):Gr F H F2 H2:=
 ⟨a.h.trans b.h,a.f.trans b.f,b.sub,fun x hx hf=>b.out x (fun z=>by
   cases q:H x with
   |none=>exact hx q
   |some u=>rw[a.h x u q] at z;cases z) (a.out x hx hf)⟩
def Rel.lam(js:List Nat)(rel:Rel K c F H σ ρ){p:PV}{v:V}(hp:Rep K F p v):Rel K (ctx0 F H) F H (dD js σ v) (lamP js ρ p) where
 sub:=rel.sub
 base:=Same.refl _
 f0:=Same.refl _
 dW:=λ_ _ z=>z
 lent:=λa u e=>cU e
 lb:=fun a e=>by
   cases q:(ctx0 F H).L a with
   |none=>rfl
   |some u=>
    have e':H a=none:=e
    rw[(cU q).1] at e'
    cases e'
 len:=by simp[dD,lamP]
 slot:= λi s e=>by
  unfold lamP at e
  by_cases hi:i<js.length
  ·rw[List.getElem?_append_left (by simpa using hi),List.getElem?_map] at e
   cases ej:js[i]? with
   |none=>rw[ej] at e;cases e
   |some j=>
    rw[ej] at e
    have e':Ŧ ((ρ[j]?).getD .no)=s:=Option.some.inj e
    subst e'
    have hx:((dD js σ v)[i]?).getD none=(σ[j]?).getD none:=by
     unfold dD
     rw[List.getElem?_append_left (by simpa using hi),List.getElem?_map,ej]
     rfl
    rw[hx]
    cases er:ρ[j]? with
    |none=>trivial
    |some sl=>
     have q:=rel.slot j sl er
     cases sl with
     |no=>trivial
     |sh p=>exact q
     |ow ps=>
      obtain⟨a,vs,h1,h2,h3,h4,h5⟩:=q
      refine⟨a,vs,h1,?_,h5⟩
      show(match F a with|none=>H a|some _=>none)=_
      rw[h3]
      exact h2
     |bw ps=>
      obtain⟨a,vs,h1,h2,h3⟩:=q
      obtain⟨l1,l2⟩:=rel.lent a _ h2
      refine⟨a,vs,h1,?_,h3⟩
      show(match F a with|none=>H a|some _=>none)=_
      rw[l2]
      exact l1
     |rc C ns ps=>trivial
     |ot ps qs=>trivial
     |ol Di=>trivial
  ·have hi2:i=js.length:=by
    have l2:=(List.getElem?_eq_some_iff.mp e).1
    simp at l2
    omega
   subst hi2
   rw[List.getElem?_append_right (by simp)] at e
   have e':Slot.sh p=s:=by simpa using e
   subst e'
   have hx:((dD js σ v)[js.length]?).getD none=some v:=by
    unfold dD
    rw[List.getElem?_append_right (by simp)]
    simp
   rw[hx]
   exact⟨v,rfl,hp⟩
 sep:=λi j a h1 _=>by
  exfalso
  obtain⟨s,y,h1,_,h2⟩:=h1
  have h2:=lH h2
  unfold lamP at h1
  by_cases hi:i<js.length
  ·rw[List.getElem?_append_left (by simpa using hi),List.getElem?_map] at h1
   cases ej:js[i]? with
   |none=>rw[ej] at h1;cases h1
   |some j=>
    rw[ej] at h1
    have e':Ŧ ((ρ[j]?).getD .no)=s:=Option.some.inj h1
    subst e'
    cases er:ρ[j]? with
    |none=>rw[er] at h2;cases h2
    |some sl=>rw[er] at h2;cases sl<;>cases h2
  ·have hi2:i=js.length:=by
    have l2:=(List.getElem?_eq_some_iff.mp h1).1
    simp at l2
    omega
   subst hi2
   rw[List.getElem?_append_right (by simp)] at h1
   have e':Slot.sh p=s:=by simpa using h1
   subst e'
   cases h2
end
section
variable{X:Cx}{cm:String->Addr}{E:L2.St->XK}{x px:Str}{c Pt:Addr}{params:Arguments}{body e:Expr}{scope:Scope}{p pos Gd kpos:Pos}{mr:M (List PV)}{me:M PV}
def ZaY{k:Nat}(N0:List Str)(js:List Nat)(sc:Scope)(hr:Ś (k+2) X.A)(hsc:X.env.scope=sc)(hcalm:X.calm=true)(hx:x∈lams)(ht:PySem.W.tabIn X.K x=some (c,Pt))(hcode:X.env.code=.ref c)(hq:X.env.qual=x ++ ".<locals>.")
 (hg:Gl X "min")(hm:X.mg "min" =none)(ha:PA X [e] (Nh (kk X cm) E mr))(he:∀cl f c' s H,Ś k (GJ X (N0 ++ [px]) (bT x) scope cl f c' X.A.in1 s H).A->(GJ X (N0 ++ [px]) (bT x) scope cl f c' X.A.in1 s H).A.units+64<cLine->PE (GJ X (N0 ++ [px]) (bT x) scope cl f c' X.A.in1 s H) body (tV (kk X cm) EF me))(hcap:dz X sc scope N0 js)(hlen:js.length=N0.length:=by rfl)
 (hbind:∀(cl:List (Str×Addr)) (pm ctv:Value) (c':Addr) (u:Value),bindArgs (PySem.W.kla_fn "<lambda>" (bT x) params body scope cl pm (.ref c') ctv) ⟨[u],[]⟩=pure [(px,u)]:=by intros;rfl)
 (hk:scope.kind=.function:=by rfl)(hcell:∀y∈scope.names,y.2≠ .cell:=by decide +kernel)(hpx:scope.names.lookup px=some .local:=by rfl)(hco:scope.isCoroutine=false:=by rfl)(hgen:scope.isGenerator=false:=by rfl)
 (hfree:∀y∈scope.names,y.2=.free->(sc.names.lookup y.1=some .cell\/sc.names.lookup y.1=some .free):=by decide +kernel)(hdef:defaultsOf params X.env=([],[]):=by rfl)
 (hst:starEach [e] X.env=[(false,eval e X.env)]:=by exact aj rfl)(hpl:(backTo pos (starEach [e] X.env)).any (·.1)=false:=by rfl) :
 PE X (.Call (.Name "min" p) [e] [⟨some "key",.Lambda params body scope Gd,kpos⟩] pos) (tV (kk X cm) E (JF js me mr)):=λpins s σ H Q I h=>
 OJ N0 js sc hsc hcalm hr.depth hx ht hcode hq hg hm ha (λcl f c' s H=>he cl f c' s H (hr.in1.deeper _) (hr.in1.deeper _).units) hcap hlen hbind hk hcell hpx hco hgen hfree hdef hst hpl pins s σ H Q I (by
  obtain⟨cc,F,ρ,rel,h⟩:=h
  refine⟨cc,F,ρ,rel,h.bind λps ρ1 vs F1 H1 Ė s1 s2 q h1=>?_⟩
  split at h1
  rotate_left
  ·exact h1.elim
  rename_i items
  split at h1
  rotate_left
  ·exact h1.elim
  rename_i kl hk'
  obtain⟨kl1,kl2⟩:=ur hk'
  cases hb:iC items kl with
  |none=>rw[hb] at h1;exact h1.elim
  |some b=>
   rw[hb] at h1
   have q':Paired (rR (kk X cm) cc σ ρ1 F1 H1) [.lst items] vs:=q
   obtain⟨l,xs,rfl,hs,hr⟩:∃l xs,vs=[.ref l]/\ū X.K H1 l xs/\ě (kk X cm) F1 items xs:=by
    cases q' with
    |cons a b=>
     cases b
     rcases a with a|a
     ·unfold Rep at a
      obtain⟨l,xs,rfl,e1,e2⟩:=a
      exact⟨l,xs,rfl,Ė.sub.seq e1,e2⟩
     ·obtain⟨l,xs,rfl,e1,e2⟩:=a
      exact⟨l,xs,rfl,ū.of e1,e2⟩
   have len:items.length=xs.length:=hr.length
   have hne:0<xs.length:=by
    rw[<-len]
    cases items with
    |nil=>simp[iC] at hb
    |cons _ _=>simp
   refine⟨l,xs,rfl,hs,hne,λc q H2 sm hc nw=>⟨λk=>kl.getD k 0,λ_ H=>∃F',Gr F1 H2 F' H,⟨F1,Gr.refl (Ė.sub.trans sm)⟩,λk H ⟨F',g⟩=>g.h,λk v H hv ⟨F',g⟩=>?_,λi v H hv hbest ⟨F',g⟩=>?_⟩⟩
   ·have Ĵ:Rel (kk X cm) cc F1 H2 σ ρ1:=Ė.call ⟨sm,Same.refl _,Ė.sub.trans sm,λ_ _ z=>z⟩
    have hki:k<items.length:=by rw[len];exact(List.getElem?_eq_some_iff.mp hv).1
    obtain⟨ρ',hme⟩:=kl2 k items[k] (List.getElem?_eq_getElem hki)
    obtain⟨v',hv',rv⟩:=aR hr.pr (List.getElem?_eq_getElem hki)
    rw[hv] at hv'
    cases hv'
    refine⟨ctx0 F' H,F',lamP js ρ1 items[k],(Ĵ.call g).lam js (Rep.same g.f _ _ rv),?_⟩
    rw[hme]
    intro y F2 H3 cB _ _ ry
    have ry':Rep (kk X cm) F2 (.int (kl.getD k 0)) y:=ry
    unfold Rep at ry'
    exact⟨ry',F2,g.trans cB.gr⟩
   ·have Ĵ:Rel (kk X cm) cc F1 H2 σ ρ1:=Ė.call ⟨sm,Same.refl _,Ė.sub.trans sm,λ_ _ z=>z⟩
    have hii:i<items.length:=by rw[len];exact(List.getElem?_eq_some_iff.mp hv).1
    obtain⟨v',hv',rv⟩:=aR hr.pr (List.getElem?_eq_getElem hii)
    rw[hv] at hv'
    cases hv'
    have eb:=jP kl1 hb (List.getElem?_eq_getElem hii) (λj hj=>hbest j (by rw[<-len];exact hj))
    subst eb
    exact h1 v F' H (Ĵ.call g) g.f (sm.trans g.h) (Rep.same g.f _ _ rv))
end
def ZaZ(K:PySem.W.Frag)(x:Str)(f:Addr):Bool:=PySem.W.nsIn K mainGlobals x== some (some (.ref f)) && (PySem.W.tabIn K x).isSome
section
variable{P:Program}{w:World}{K:PySem.W.Frag}{cm:String->Addr}{mg:Str->Option Value}{base:Heap}{CX:lB}
def Qh{x qual:Str}{st:Stmt}{f:Addr}{fd:FuncData}(F:HD K x qual st f fd){c Pt:Addr}(h:PySem.W.nsIn K mainGlobals x=some (some (.ref f)))(ht:PySem.W.tabIn K x=some (c,Pt)):fd.code=.ref c:=by
 obtain⟨oc,od,kV,doc,pm,an,cdv,ct,osl,rfl,lk,hcd⟩:=F.ex
 unfold PySem.W.tabIn at ht
 split at ht
 ·rename_i f2 hf
  rw[h] at hf
  cases hf
  split at ht
  ·rename_i hfo
   rw[lk] at hfo
   cases hfo
   split at ht
   ·rename_i c2 hc
    split at ht
    ·split at ht
     ·cases ht
      exact hc
     ·cases ht
    ·cases ht
   ·cases ht
  ·cases ht
 ·cases ht
def Zgn{x qual:Str}{st:Stmt}{f:Addr}{fd:FuncData}{N ps:List Str}{k n j:Nat}{mb:M Fl}{mf:MF}(F:HD K x qual st f fd)(S:Č N ps (Ć st))(hn:ps.length=n)(hj:N.length=j)(hf:mf=Ĭ n j mb)(htb:ZaZ K x f=true)
 (hbody:∀(c Pt:Addr),PySem.W.tabIn K x=some (c,Pt)→∀(A:Around) (outer:List Env) (s:Shared) (H:Hp) (E:XK),Ś k (A.deeper (envOfC qual (Ć st) s.heap.objs.size f (.ref c)))→
   iD (o_ CX P w K mg base N qual (Ć st) f (.ref c) A outer s H E) (Ķ st) (tS ⟨K,cm⟩ (λ_=>E) mb)):Ġ P w K mg base CX (k+1) f fd ps (Ŕ ⟨K,cm⟩ n mf):=by
 subst hn hj hf
 unfold ZaZ at htb
 simp only[Bool.and_eq_true,beq_iff_eq] at htb
 obtain⟨h1,h2⟩:=htb
 obtain⟨⟨c,Pt⟩,ht⟩:=Option.isSome_iff_exists.mp h2
 have hc:=Qh F h1 ht
 obtain⟨oc,od,kV,doc,pm,an,cdv,ct,osl,rfl,lk,hcd⟩:=id F.ex
 have hc':cdv=.ref c:=hc
 subst hc'
 refine CP lk hcd S (λvs H Q E ⟨F,ps',h1,_,h2,_⟩=>by rw[<-Paired.length h2];exact h1) λA outer s H vs Q E hr hsp=>?_
 obtain⟨F,ps',h1,h2,h3,h4⟩:=hsp
 refine⟨_,hbody c Pt ht A outer s H E hr,ctx0 F H,F,startP N.length ps',Rel.start h2 h3,?_⟩
 unfold Ĭ at h4
 rw[if_pos h1] at h4
 cases e:mb (startP N.length ps') with
 |bad=>rw[e] at h4;exact h4
 |exc x ρ'=>rw[e] at h4;exact λσ' C d F' H' rel s1 q=>h4 C d F' H' rel.gr q
 |ok fl ρ'=>
  rw[e] at h4
  cases fl with
  |nx=>exact λσ' F' H' rel s1=>h4 .non F' H' rel.gr (Rep.non (K:=⟨K,cm⟩) (F:=F'))
  |bk=>exact h4.elim
  |ct=>exact h4.elim
  |rt r=>
   intro v σ' F' H' rel s1 q
   refine h4 v F' H' rel.gr ?_
   cases r with
   |sh p=>exact q
   |ow qs=>
    obtain⟨a,vs',e1,e2,e3,e4,_,e5⟩:=q
    exact⟨a,vs',e1,e2,e3,e4,e5⟩
   |ot qs ts=>
    obtain⟨p,a,xs,vs',e1,e0,ex,e2,e3,e4,_,e5⟩:=q
    exact⟨p,a,xs,vs',e1,e0,ex,e2,e3,e4,e5⟩
structure Za0(K:PySem.W.Frag)(x qual:Str)(st:Stmt)(f:Addr)(fd:FuncData):Prop where
 ex:∃(oc:Value) (od:Option Addr) (dV kV doc pm:Value) (an:Option Addr) (cdv ct:Value) (osl:Array (Option Value)),
   fd=PySem.W.fnOf x qual (Ņ st) (Ķ st) (Ć st) dV kV doc pm an cdv ct/\K.lookup f=some ⟨oc,od,.func fd,osl⟩/\PySem.W.codeIn K cdv qual=true
 kp:PySem.W.keepIn K (.ref f)=true
def Qi{x qual:Str}{st:Stmt}{f:Addr}{oc:Value}{od an:Option Addr}{osl:Array (Option Value)}{dV kV doc pm cdv ct:Value}(l:K.lookup f=some ⟨oc,od,.func (PySem.W.fnOf x qual (Ņ st) (Ķ st) (Ć st) dV kV doc pm an cdv ct),osl⟩)
 (c:PySem.W.codeIn K cdv qual=true)(k:PySem.W.keepIn K (.ref f)=true):Za0 K x qual st f (PySem.W.fnOf x qual (Ņ st) (Ķ st) (Ć st) dV kV doc pm an cdv ct):=⟨⟨oc,od,dV,kV,doc,pm,an,cdv,ct,osl,rfl,l,c⟩,k⟩
def Zgo{x qual:Str}{st:Stmt}{f:Addr}{fd:FuncData}{N ps:List Str}{k n j:Nat}{mb:M Fl}{mf:MF}(F:Za0 K x qual st f fd)(S:Č N ps (Ć st))(hn:ps.length=n)(hj:N.length=j)(hf:mf=Ĭ n j mb)
 (hbody:∀(cdv:Value) (A:Around) (outer:List Env) (s:Shared) (H:Hp) (E:XK),Ś k (A.deeper (envOfC qual (Ć st) s.heap.objs.size f cdv))→
   iD (o_ CX P w K mg base N qual (Ć st) f cdv A outer s H E) (Ķ st) (tS ⟨K,cm⟩ (λ_=>E) mb)):Ġ P w K mg base CX (k+1) f fd ps (Ŕ ⟨K,cm⟩ n mf):=by
 subst hn hj hf
 obtain⟨oc,od,dV,kV,doc,pm,an,cdv,ct,osl,rfl,lk,hcd⟩:=F.ex
 refine CP lk hcd S (λvs H Q E ⟨F,ps',h1,_,h2,_⟩=>by rw[<-Paired.length h2];exact h1) λA outer s H vs Q E hr hsp=>?_
 obtain⟨F,ps',h1,h2,h3,h4⟩:=hsp
 refine⟨_,hbody cdv A outer s H E hr,ctx0 F H,F,startP N.length ps',Rel.start h2 h3,?_⟩
 unfold Ĭ at h4
 rw[if_pos h1] at h4
 cases e:mb (startP N.length ps') with
 |bad=>rw[e] at h4;exact h4
 |exc x ρ'=>rw[e] at h4;exact λσ' C d F' H' rel s1 q=>h4 C d F' H' rel.gr q
 |ok fl ρ'=>
  rw[e] at h4
  cases fl with
  |nx=>exact λσ' F' H' rel s1=>h4 .non F' H' rel.gr (Rep.non (K:=⟨K,cm⟩) (F:=F'))
  |bk=>exact h4.elim
  |ct=>exact h4.elim
  |rt r=>
   intro v σ' F' H' rel s1 q
   refine h4 v F' H' rel.gr ?_
   cases r with
   |sh p=>exact q
   |ow qs=>
    obtain⟨a,vs',e1,e2,e3,e4,_,e5⟩:=q
    exact⟨a,vs',e1,e2,e3,e4,e5⟩
   |ot qs ts=>
    obtain⟨p,a,xs,vs',e1,e0,ex,e2,e3,e4,_,e5⟩:=q
    exact⟨p,a,xs,vs',e1,e0,ex,e2,e3,e4,e5⟩
def Bg{x qual:Str}{st:Stmt}{ps:List Str}{T:Addr}{oT:Obj}{items:Array Value}{nT:Nat}{kV doc pm:Value}{an:Option Addr}{cdv ct:Value}(hT:K.lookup T=some oT)(hs:oT.data=.seq items nT)
 (h:∀us:List Value,us.length=ps.length->∃k:Option (Array Value)->Sem (List (Str×Value)),bindArgs (PySem.W.fnOf x qual (Ņ st) (Ķ st) (Ć st) (.ref T) kV doc pm an cdv ct) ⟨us,[]⟩=seqItems? (.ref T) >>= k/\k (some items)=pure (ps.zip us)) :
 Binds K (PySem.W.fnOf x qual (Ņ st) (Ķ st) (Ć st) (.ref T) kV doc pm an cdv ct) ps []:=λs us X hl=>by
 rw[List.append_nil] at hl ⊢
 obtain⟨k,h1,h2⟩:=h us hl
 exact PySem.W.binds_K X rfl hT hs h1 h2
end
section
variable{js:List Nat}{me:M PV}{mr:M (List PV)}{ρ:ń}
theorem Qj:JF js me mr ρ=(mr ρ).bind λps ρ1=>match ps with
 | [.lst items]=>match yC js me ρ1 items with
   |some ks=>Res.kO (iC items ks) ρ1
   |none=>.bad
 |_=>.bad:=rfl
end
end P
namespace P
open PySem PySem.Spec PyProof.Rows L2 M2 M3 M5
def Za1{X:Cx}(hu:X.A.units+64<cLine):ŭ X (compareOp .Lt) (Zad X.K):=Zae (by omega)
def yD(p q:PV):Option PV:=match p,q with
 | .tup [.int a,.int b],.tup [.int c,.int d]=>some (.bl (HT.lexLt [a,b] [c,d]))
 |_,_=>none
def uw{K:KK}{cc:Ctx}{F H:Hp}{σ:L2.St}{ρ:ń}{a b:Int}{v:V}(s:Same F H)(r:rR K cc σ ρ F H (.tup [.int a,.int b]) v):∃p,v=.ref p/\bO K.K H p ([a,b].map V.int):=by
 rcases r with r|r
 ·unfold Rep at r
  obtain⟨p,vs,h1,h2,h3⟩:=r
  unfold ě at h3
  obtain⟨x,t,rfl,k1,k2⟩:=h3
  unfold ě at k2
  obtain⟨y,t',rfl,k3,k4⟩:=k2
  unfold ě at k4
  unfold Rep at k1 k3
  subst k4 k1 k3
  exact⟨p,h1,Same.tup s h2⟩
 ·exact r.elim
def Za2{K:KK}:iM K (Zad K.K) yD:=by
 intro cc F H σ ρ p q pv v u Q rel r1 r2 e k
 unfold yD at e
 split at e
 ·rename_i a b c d
  cases e
  obtain⟨x,h1,h2⟩:=uw rel.sub r1
  obtain⟨y,k1,k2⟩:=uw rel.sub r2
  exact⟨x,y,_,_,h1,k1,h2,k2,k _ F H rel (Same.refl _) (Same.refl _) Rep.bl⟩
 ·cases e
def JG{a b c d:Int}:yD (.tup [.int a,.int b]) (.tup [.int c,.int d])=some (.bl (HT.lexLt [a,b] [c,d])):=rfl
end P
namespace P
open PySem PySem.Spec PyProof.Rows L2 M2 M3 M5
def qj(mf:MF)(dps:List Slot)(mr:M (List Slot)):M RV:=λρ=>(mr ρ).bind λps ρ1=>match mf (ps++dps) with
 | .ret r=>.ok r ρ1
 | .exc x=>.exc x ρ1
 | .bad=>.bad
section
variable{X:Cx}{cm:String->Addr}{E:L2.St->XK}{CX:lB}{k n:Nat}{f:Addr}{fd:FuncData}{ps:List Str}{mf:MF}{mr:M (List Slot)}{x:Str}{p pos:Pos}{e:Expr}{es:List Expr}{ds:List Value}{Oc:List V}{dps:List Slot}
def JH{sp:Sp}{pins:List (Addr×Obj)}{σ:L2.St}{H:Hp}{s:Shared}{Q:VK}{us:List Value}{vs:List V}(F:Ġ X.prog X.w X.K X.mg X.base CX k f fd ps sp)(hr:Ś k X.A)(hb:Binds X.K fd ps ds)(hd:Vals Oc ds)(hx:aZ CX X E)
 (I:Inv X pins σ H s)(r:Vals vs us)(h:sp (vs++Oc) H Q (E σ)):wpAny (model X.prog X.w) X.A (call (.ref f) us) (EP X pins σ Q) X.xe s:=by
 have r2:Vals (vs++Oc) (us++ds):=r.append hd
 have hl:(us++ds).length=ps.length:=by rw[<-r2.length];exact F.len _ _ _ _ h
 refine wpAny_call (codeAny_mono (F.run X.A X.stack s H ⟨us,[]⟩ (us++ds) (vs++Oc) Q (E σ) hr I.env0 (hb s us I.kJ hl) r2 h) λr s' hq=>?_)
 cases r with
 |error e=>exact hx pins σ H s e s' I hq
 |ok fl=>
  cases fl with
  |ret u=>exact I.after hq
  |next=>exact False.elim hq
  |brk=>exact False.elim hq
  |cont=>exact False.elim hq
def Qk(hb:Binds X.K fd ps ds)(hd:Vals Oc ds)(hdp:∀F H,Paired (bA (kk X cm) F H) dps Oc)(F:Ġ X.prog X.w X.K X.mg X.base CX k f fd ps (Ŕ (kk X cm) n mf))(hlen:∀{ps:List Slot},(∃r,mf ps=r/\∀z,r=z->z≠ .bad)->ps.length=n)(hr:Ś k X.A)(hg:Gl X x)(hm:X.mg x=some (.ref f))(hk:PySem.W.keepIn X.K (.ref f)=true)(hx:aZ CX X E)
 (ha:PA X (e::es) (tA (kk X cm) E mr))(hdb:(x== ("__debug__" :Str))=false:=by decide)(he:starEach (e::es) X.env=(false,eval e X.env)::starEach es X.env:=by exact aj rfl)(hpl:(backTo pos (starEach es X.env)).any (·.1)=false:=by rfl) :
 PE X (.Call (.Name x p) (e::es) [] pos) (tO (kk X cm) E (qj mf dps mr)):=by
 intro pins s σ H Q I h
 obtain⟨c,F,ρ,rel,h⟩:=h
 refine wpAny_Call_Name_kw (ou I hg hm ?_ hdb)
 refine PySem.W.callWith_K (h₀:= X.base) I.ok.mod.kin hk (ŕ (ha pos pins s σ H (λvs H1=>Ŕ (kk X cm) n mf (vs++Oc) H1 Q (E σ)) I ⟨c,F,ρ,rel,h.bind λps' ρ1 vs F1 H1 Ė _ _ r1 h1=>pJ hlen Ė (Ak r1 (hdp F1 H1)) h1⟩) λus s1 ⟨vs,H1,I1,r,q⟩=>⟨I1.kJ,?_⟩) he hpl
 exact JH (by assumption) hr hb hd hx I1 r q
def JK(d:Int)(hb:∃tk,Binds X.K fd ps [.int d tk])(F:Ġ X.prog X.w X.K X.mg X.base CX k f fd ps (Ŕ (kk X cm) n mf))(hlen:∀{ps:List Slot},(∃r,mf ps=r/\∀z,r=z->z≠ .bad)->ps.length=n)(hr:Ś k X.A)(hg:Gl X x)(hm:X.mg x=some (.ref f))(hk:PySem.W.keepIn X.K (.ref f)=true)(hx:aZ CX X E)
 (ha:PA X (e::es) (tA (kk X cm) E mr))(hdb:(x== ("__debug__" :Str))=false:=by decide)(he:starEach (e::es) X.env=(false,eval e X.env)::starEach es X.env:=by exact aj rfl)(hpl:(backTo pos (starEach es X.env)).any (·.1)=false:=by rfl) :
 PE X (.Call (.Name x p) (e::es) [] pos) (tO (kk X cm) E (qj mf [.sh (.int d)] mr)):=by
 obtain⟨tk,hb⟩:=hb
 exact Qk (Oc:=[.int d]) hb (.cons ⟨tk,rfl⟩ .nil) (λF H=>.cons (show bA (kk X cm) F H (.sh (.int d)) (.int d) from Rep.int (K:=kk X cm) (F:=F)) .nil) F hlen hr hg hm hk hx ha hdb he hpl
end
def Bh{K:PySem.W.Frag}{x qual:Str}{st:Stmt}{ps:List Str}{T:Addr}{oT:Obj}{items:Array Value}{nT:Nat}{ds:List Value}{kV doc pm:Value}{an:Option Addr}{cdv ct:Value}(hT:K.lookup T=some oT)(hs:oT.data=.seq items nT)
 (h:∀us:List Value,(us++ds).length=ps.length->∃k:Option (Array Value)->Sem (List (Str×Value)),bindArgs (PySem.W.fnOf x qual (Ņ st) (Ķ st) (Ć st) (.ref T) kV doc pm an cdv ct) ⟨us,[]⟩=seqItems? (.ref T) >>= k/\k (some items)=pure (ps.zip (us++ds))) :
 Binds K (PySem.W.fnOf x qual (Ņ st) (Ķ st) (Ć st) (.ref T) kV doc pm an cdv ct) ps ds:=λs us X hl=>by
 obtain⟨k,h1,h2⟩:=h us hl
 exact PySem.W.binds_K X rfl hT hs h1 h2
end P
namespace P
open PySem PySem.Spec PyProof.Rows L2 M2 M3 M5
def BN:Nat->(List Value->Prop)->Prop
 |0,p=>p []
 |n+1,p=>∀u,BN n λus=>p (u::us)
theorem lZ:∀{n:Nat} {p:List Value->Prop},BN n p->∀us,us.length=n->p us
 |0,p,h,[],_=>h
 |0,p,h,_::_,e=>by cases e
 |n+1,p,h,[],e=>by cases e
 |n+1,p,h,u::us,e=>lZ (h u) us (Nat.succ.inj e)
structure Df(K:PySem.W.Frag)(mg:Str->Option Value)(x:Str)(st:Stmt)(ps:List Str)(f:Addr)(fd:FuncData):Prop where
 F:HD K x x st f fd
 m:mg x=some (.ref f)
 b:Binds K fd ps []
 bb:∀(s:Shared) (us:List Value),us.length=ps.length->BindsTo s fd ⟨us,[]⟩ (ps.zip us)
structure Dm(K:PySem.W.Frag)(C:Addr)(x q:Str)(st:Stmt)(ps:List Str)(f:Addr)(fd:FuncData):Prop where
 F:HD K x q st f fd
 b:Binds K fd ps []
section
variable{K:PySem.W.Frag}{h:Heap}{mg:Str->Option Value}{x q:Str}{st:Stmt}{ps:List Str}{f C:Addr}{oc kV dc pm cd ct:Value}{od an:Option Addr}{sl:Array (Option Value)}
def Ĥ(X:K.In h)(G:h.Ns mainGlobals mg)(hb:∀(kV dc pm:Value) (an:Option Addr) (cd ct:Value),BN ps.length λus=>bindArgs (PySem.W.fnOf x x (Ņ st) (Ķ st) (Ć st) .none kV dc pm an cd ct) ⟨us,[]⟩=pure (ps.zip us))
 (a:PySem.W.nsIn K mainGlobals x=some (some (.ref f)))(l:K.lookup f=some ⟨oc,od,.func (PySem.W.fnOf x x (Ņ st) (Ķ st) (Ć st) .none kV dc pm an cd ct),sl⟩)(c:PySem.W.codeIn K cd x=true)(k:PySem.W.keepIn K (.ref f)=true) :
 Df K mg x st ps f (PySem.W.fnOf x x (Ņ st) (Ķ st) (Ć st) .none kV dc pm an cd ct):=
 have F:=HF (st:=st) l c k
 ⟨F,PySem.W.mg_of X G a,F.binds λkV dc pm an cd ct us hl=>lZ (hb kV dc pm an cd ct) us hl,λs us hl=>.of_eq (lZ (hb kV dc pm an cd ct) us hl)⟩
def ql(hb:∀(kV dc pm:Value) (an:Option Addr) (cd ct:Value),BN ps.length λus=>bindArgs (PySem.W.fnOf x q (Ņ st) (Ķ st) (Ć st) .none kV dc pm an cd ct) ⟨us,[]⟩=pure (ps.zip us))
 (a:PySem.W.findIn K (.ref C) x=some (some (.ref f)))(l:K.lookup f=some ⟨oc,od,.func (PySem.W.fnOf x q (Ņ st) (Ķ st) (Ć st) .none kV dc pm an cd ct),sl⟩)(c:PySem.W.codeIn K cd q=true)(k:PySem.W.keepIn K (.ref f)=true) :
 Dm K C x q st ps f (PySem.W.fnOf x q (Ņ st) (Ķ st) (Ć st) .none kV dc pm an cd ct):=
 have F:=HF (st:=st) l c k
 ⟨F,F.binds λkV dc pm an cd ct us hl=>lZ (hb kV dc pm an cd ct) us hl⟩
end
end P
namespace P
open PySem PySem.Spec PyProof.Rows L2 M2 M3 M5
def Ŭ{N ps:List Str}{sc:Scope}(h1:sc.kind=.function:=by rfl)(h2:sc.isCoroutine=false:=by rfl)(h3:sc.isGenerator=false:=by rfl)(h4:N.Nodup:=by decide +kernel)(h5:N.take ps.length=ps:=by rfl)(h6:∀x∈ps,sc.names.lookup x=some .local\/sc.names.lookup x=some .cell:=by decide +kernel)
 (h7:∀y∈sc.names,y.2≠ .free:=by decide +kernel):Č N ps sc:=⟨h1,h2,h3,h4,h5,h6,h7⟩
section
variable{X:Cx}{cm:String->Addr}{E:L2.St->XK}{CX:lB}{k j n:Nat}{f:Addr}{fd:FuncData}{ps:List Str}{mf:MF}{mr:M (List Slot)}{x:Str}{st:Stmt}{p pos:Pos}{e:Expr}{es:List Expr}
def Ĉ(F:Ġ X.prog X.w X.K X.mg X.base CX k f fd ps (Ŕ (kk X cm) n mf))(D:Df X.K X.mg x st ps f fd)(hr:Ś j X.A)(hx:aZ CX X E)
 (ha:PA X (e::es) (tA (kk X cm) E mr))(hlen:∀{ps:List Slot},(∃r,mf ps=r/\∀z,r=z->z≠ .bad)->ps.length=n:=by exact bU)(hg:Gl X x:=by rfl)(hkj:k<=j:=by decide)(hdb:(x== ("__debug__" :Str))=false:=by decide)(he:starEach (e::es) X.env=(false,eval e X.env)::starEach es X.env:=by exact aj rfl)(hpl:(backTo pos (starEach es X.env)).any (·.1)=false:=by rfl) :
 PE X (.Call (.Name x p) (e::es) [] pos) (tO (kk X cm) E (ď mf mr)):=ZaE F hlen (hr.mono hkj) hg D.m D.F.kp D.b hx ha hdb he hpl
end
section
variable{Pg:Program}{w:World}{K:PySem.W.Frag}{mg:Str->Option Value}{base:Heap}{CX:lB}{cm:String->Addr}
def ķ{x qual:Str}{st:Stmt}{f:Addr}{fd:FuncData}{N ps:List Str}{k n j:Nat}{mb:M Fl}{mf:MF}(F:HD K x qual st f fd)(S:Č N ps (Ć st))
 (hbody:∀(cdv:Value) (A:Around) (outer:List Env) (s:Shared) (H:Hp) (E:XK),Ś k (A.deeper (envOfC qual (Ć st) s.heap.objs.size f cdv))→(A.deeper (envOfC qual (Ć st) s.heap.objs.size f cdv)).units+64<cLine→
   iD (o_ CX Pg w K mg base N qual (Ć st) f cdv A outer s H E) (Ķ st) (tS ⟨K,cm⟩ (λ_=>E) mb))(hn:ps.length=n:=by rfl)(hj:N.length=j:=by rfl)(hf:mf=Ĭ n j mb:=by rfl):Ġ Pg w K mg base CX (k+1) f fd ps (Ŕ ⟨K,cm⟩ n mf):=
 fnQ F S hn hj hf λcdv A outer s H E hr=>hbody cdv A outer s H E hr hr.units
end
end P
namespace P
open PySem PySem.Spec PyProof.Rows L2 M2 M3 M4
section
variable{X:Cx}{cm:String->Addr}{E:L2.St->XK}{e:Expr}{m:M PV}
end
end P
namespace P
open PySem PySem.Spec PyProof.Rows L2 M2 M3 M4
def tgN:Expr->List Str
 | .Name x _=>[x]
 | .Tuple es _ _=>es.flatMap fun e=>match e with
   | .Name x _=>[x]
   |_=>[]
 |_=>[]
def cN(X:Cx)(js:List Nat)(tg:Expr):List Str:=js.map (λ(j:Nat)=>(X.N[j]?).getD "")++tgN tg
def ndB{l:List Str}(h:decide l.Nodup=true):l.Nodup:=of_decide_eq_true h
def frB{a b:Scope}(h:(a.names.all λy=>decide (y.2=.free->(b.names.lookup y.1=some .cell\/b.names.lookup y.1=some .free)))=true):∀y∈a.names,y.2=.free->(b.names.lookup y.1=some .cell\/b.names.lookup y.1=some .free):=λy hy=>of_decide_eq_true (List.all_eq_true.mp h y hy)
section
variable{X:Cx}{cm:String->Addr}{E:L2.St->XK}{elt tg iter:Expr}{ifs:List Expr}{scope:Scope}{pos:Pos}{mi:M (List PV)}{g:Tg}{mt:M Bool}{me:M PV}{js:List Nat}{nl:Nat}
end
end P
namespace P
open PySem PySem.Spec PyProof.Rows L2 M2 M3 M4
def D_(K:PySem.W.Frag):V->List V->Hp->VK->Prop:=λx vs H Q=>∃a xs y d es j,x=.ref a/\vs=[y]/\ū K H a xs/\Rp K H d y/\iJ K H es xs/\d.canLay0=true/\PyData.canLayAll0 es=true/\d.depth<=60/\es.findIdx? (λe=>PyData.eqv e d)=some j/\Q (.int j) H
theorem Ea{h:Heap}{d:PyData}:∀{us:List Value} {es:List PyData} {as:List Addr},ReadsAll h us es as->PyData.canLayAll0 es=true->us.map (vA h d)=es.map λe=>PyData.eqv e d
 |_,_,_,.nil,_=>rfl
 |_,_,_,.cons r rs,hc=>by
  unfold PyData.canLayAll0 at hc
  rw[Bool.and_eq_true] at hc
  rw[List.map_cons,List.map_cons,Bf r hc.1,Ea rs hc.2]
def yE{α β:Type}{p:α->Bool}{q:β->Bool}{l:List α}{m:List β}(h:l.map p=m.map q):l.findIdx? p=m.findIdx? q:=by
 have e1:(l.map p).findIdx? id=l.findIdx? p:=by rw[List.findIdx?_map];rfl
 have e2:(m.map q).findIdx? id=m.findIdx? q:=by rw[List.findIdx?_map];rfl
 rw[<-e1,<-e2,h]
section
variable{X:Cx}
def Gq(hu:X.A.units+64<cLine):MtR X "list.index" (D_ X.K):=by
 intro pins s σ H x vs v us Q I rx rv h
 obtain⟨a,xs,y,d,es,j,rfl,rfl,hq,h1,h3,h4,h5,h6,hj,q⟩:=h
 cases rx
 obtain⟨u,rfl,ru⟩:=rv.one
 obtain⟨as,ra⟩:=Rp.reads I d y u h1 ru
 have hu1:X.A.in1.units+d.depth<cLine:=by
  have:X.A.in1.units=X.A.units+1:=rfl
  omega
 obtain⟨its,r,⟨o,n,e,hc,hdd,hd⟩,hz⟩:=I.list hq
 obtain⟨bs,rb⟩:=iJ.reads I es xs its h3 r
 have hf:its.findIdx? (vA s.heap d)=some j:=by rw[yE (Ea rb h5)];exact hj
 obtain⟨hlt,hit,hno⟩:=List.findIdx?_eq_some_iff_getElem.mp hf
 have ho:o= {cls:=.type "list",dict:=o.dict,data:=.seq its.toArray n,slots:=o.slots}:=by
  cases o
  simp_all
 rw[ho] at e
 have hl:=r.length
 refine call_meets PySem.F.slot_list_index ⟨_,e,rfl⟩ PySem.F.entry_list_index (PySem.F.args_list_index_2 _ _)
  (SeqAt.list_indexAt a its.toArray n _ _ u (vA s.heap d) j (by simpa using hlt) (by rw[ľ] at hz;omega) (by simpa using hit) (λm hm hmj=>by simpa using hno m hmj)) ⟨e,λw hw=>iB ra h4 hu1 rb h5 w (by simpa using hw),?_⟩
 exact⟨.int j,H,I.kept (t':=s.toks+1) λb o e=>e,⟨_,rfl⟩,q⟩
end
def jQ:PV->List PV->Option PV
 | .lst ps,[p]=>if ź p && aB ps && decide (dep p<=60) then(ps.findIdx? λy=>eqB y p).map λj=>.int (j:Nat) else none
 |_,_=>none
theorem yF{p:PV}(h:ź p=true):∀{ps:List PV},aB ps=true->(bY ps).map (λe=>PyData.eqv e (toD p))=ps.map λy=>eqB y p
 | [],_=>rfl
 |y::ps,hp=>by
  unfold aB at hp
  rw[Bool.and_eq_true] at hp
  unfold bY
  rw[List.map_cons,List.map_cons,pO y p hp.1 h,yF h hp.2]
def Gs{K:KK}:MtV K (D_ K.K) jQ:=by
 intro c F H σ ρ p ps pv v vs Q rel r1 r2 e k
 unfold jQ at e
 split at e
 ·rename_i qs p
  split at e
  ·rename_i hc
   rw[Bool.and_eq_true,Bool.and_eq_true,decide_eq_true_eq] at hc
   obtain⟨j,ej,rfl⟩:=Option.map_eq_some_iff.mp e
   obtain⟨u,rfl,r3⟩:=xU r2
   obtain⟨a,xs,rfl,h1,h2⟩:=r1.lst rel.sub
   refine⟨a,xs,u,toD p,bY qs,j,rfl,rfl,h1,eY rel.sub hc.1.1 r3,iJ.same rel.sub _ _ (eX qs xs hc.1.2 h2),cI p hc.1.1,dM qs hc.1.2,by rw[cJ];exact hc.2,?_,k _ F H rel (Same.refl _) (Same.refl _) Rep.int⟩
   rw[yE (yF hc.1.1 hc.1.2)]
   exact ej
  ·cases e
 ·cases e
def mBL(f:PV->List PV->Option PV)(mo:M PV)(ms:M (List PV)):M PV:=λρ=>(mo ρ).bind λp ρ1=>match p with
 | .lst _=>(ms ρ1).bind λps ρ2=>Res.kO (f p ps) ρ2
 |_=>.bad
@[simp] theorem Zgp{f:PV→List PV→Option PV}{mo:M PV}{ms:M (List PV)}{ρ:ń}:mBL f mo ms ρ=(mo ρ).bind fun p ρ1=>match p with
  | .lst _=>(ms ρ1).bind λps ρ2=>Res.kO (f p ps) ρ2
  |_=>.bad:=rfl
section
variable{X:Cx}{cm:String->Addr}{K:KK}{E:L2.St->XK}{o e:Expr}{es:List Expr}{name:Str}{apos cpos:Pos}{id:String}{r:V->List V->Hp->VK->Prop}{f:PV->List PV->Option PV}{mo:M PV}{ms:M (List PV)}
def Zdu(pa:PlainAttrs "list")(slot:PySem.Slot "list" name id)(hty:typeOf (.builtin id)=pure (.type "method_descriptor"))(hf:MtV (kk X cm) r f)(hm:MtR X id r)(ho:PE X o (tR (kk X cm) E mo))(ha:PA X (e::es) (Nh (kk X cm) E ms))
 (hbase:attributeBase o name X.env (eval o X.env)=eval o X.env:=by rfl)
 (hfew:((backTo cpos (starEach (e::es) X.env)).all (fun x=>!x.1) && (backToKw cpos (keywordEach [] X.env)).all (fun x=>x.1.isSome)
   && decide ((e::es).length+([]:List Keyword).length+(if([]:List Keyword).isEmpty then 0 else 1)<30))=true:=by rfl)
 (hline:(apos.endLine== cpos.line)=true:=by rfl)(hs:starEach (e::es) X.env=(false,eval e X.env)::starEach es X.env:=by exact aj rfl)(hplain:(backTo cpos (starEach es X.env)).any (·.1)=false:=by rfl) :
 PE X (.Call (.Attribute o name apos) (e::es) [] cpos) (tV (kk X cm) E (mBL f mo ms)):=
 PE.wk (cC pa slot hty hm ho ha hbase hfew hline hs hplain) fun σ H Q ⟨c,F,ρ,rel,h⟩=>⟨c,F,ρ,rel,au.bind h fun p ρ1 v F1 H1 Ė _ _ r1 h1=>by
   cases p with
   |lst qs=>
    have r0:rR (kk X cm) c σ ρ1 F1 H1 (.lst qs) v:=r1
    obtain⟨a,xs,rfl,q1,q2⟩:=r0.lst Ė.sub
    refine⟨.inl ⟨rfl,_,q1⟩,c,F1,ρ1,Ė,au.bind h1 λps ρ2 vs F2 H2 Ĵ sF sH r2 h2=>?_⟩
    cases ef:f (.lst qs) ps with
    |none=>rw[ef] at h2;exact h2.elim
    |some pv=>rw[ef] at h2;exact hf Ĵ (r0.elim (λr=>.inl (Rep.same sF _ _ r)) λr=>.inr (xu.mono r sF sH)) r2 ef λz F' H' aO s1 s2 q'=>h2 z F' H' aO s1 s2 q'
   |_=>exact h1.elim⟩
end
end P
namespace P
open PySem PySem.Spec PyProof.Rows L2 M2 M3 M4
section
variable{X:Cx}{cm:String->Addr}{E:L2.St->XK}{a b e:Expr}{es:List Expr}{ma mb m:M PV}{mo:M RV}{pos p:Pos}
def ć{i j pos}:PE X (.Constant (.int i) j pos) (tR (kk X cm) E (mC (.int i))):=ğ ň
def qm{j pos}:PE X (.Constant .none j pos) (tR (kk X cm) E (mC .non)):=ğ Dl
def gK{x j pos}:PE X (.Constant (.str x) j pos) (tR (kk X cm) E (mC (.str x))):=ğ gw
def Ř(ha:PE X a (tR (kk X cm) E ma))(hb:PE X b (tR (kk X cm) E mb))(hs:oH b:=by exact λ_ _=>rfl):PE X (.Subscript a b pos) (tV (kk X cm) E (Ą ē ma mb)):=Zfh Zc6 ZcN ha hb hs
def Į(ha:PE X a (tR (kk X cm) E ma))(hb:PE X b (tR (kk X cm) E mb))(hs:oH b:=by exact λ_ _=>rfl):PE X (.Subscript a b pos) (tR (kk X cm) E (Ą ē ma mb)):=ğ (Ř ha hb hs)
def v_mod(ha:PE X a (tR (kk X cm) E ma))(hb:PE X b (tR (kk X cm) E mb)):PE X (.BinOp a .Mod b pos) (tV (kk X cm) E (Ą ĩ ma mb)):=ak ZaK Zas ha hb
def ż(ha:PE X a (tR (kk X cm) E ma))(hb:PE X b (tR (kk X cm) E mb)):PE X (.BinOp a .Mod b pos) (tR (kk X cm) E (Ą ĩ ma mb)):=ğ (v_mod ha hb)
def v_mul(ha:PE X a (tR (kk X cm) E ma))(hb:PE X b (tR (kk X cm) E mb)):PE X (.BinOp a .Mult b pos) (tV (kk X cm) E (Ą ĳ ma mb)):=ak ZaL Oz ha hb
def Ŵ(ha:PE X a (tR (kk X cm) E ma))(hb:PE X b (tR (kk X cm) E mb)):PE X (.BinOp a .Mult b pos) (tR (kk X cm) E (Ą ĳ ma mb)):=ğ (v_mul ha hb)
def v_sub(ha:PE X a (tR (kk X cm) E ma))(hb:PE X b (tR (kk X cm) E mb)):PE X (.BinOp a .Sub b pos) (tV (kk X cm) E (Ą š ma mb)):=ak ZaI Zaq ha hb
def qt(ha:PE X a (tR (kk X cm) E ma))(hb:PE X b (tR (kk X cm) E mb)):PE X (.BinOp a .Sub b pos) (tR (kk X cm) E (Ą š ma mb)):=ğ (v_sub ha hb)
def jR(ha:PE X a (tR (kk X cm) E ma))(hb:PE X b (tR (kk X cm) E mb)):PE X (.BinOp a .FloorDiv b pos) (tV (kk X cm) E (Ą ō ma mb)):=ak ZaJ Om ha hb
def gM(ha:PE X a (tR (kk X cm) E ma))(hb:PE X b (tR (kk X cm) E mb)):PE X (.BinOp a .FloorDiv b pos) (tR (kk X cm) E (Ą ō ma mb)):=ğ (jR ha hb)
def qu(ha:PE X a (tR (kk X cm) E ma))(hb:PE X b (tR (kk X cm) E mb)):PE X (.BinOp a .Add b pos) (tO (kk X cm) E (ħ ĥ ma mb)):=ZcW ZaG ZaF ha hb
def v_add(ha:PE X a (tR (kk X cm) E ma))(hb:PE X b (tR (kk X cm) E mb)):PE X (.BinOp a .Add b pos) (tV (kk X cm) E (Ď (ħ ĥ ma mb))):=Ğ (qu ha hb)
def iW(ha:PE X a (tR (kk X cm) E ma))(hb:PE X b (tR (kk X cm) E mb)):PE X (.BinOp a .Add b pos) (tR (kk X cm) E (Ď (ħ ĥ ma mb))):=ğ (v_add ha hb)
def t_eq(hu:X.A.units+64<cLine)(ha:PE X a (tR (kk X cm) E ma))(hb:PE X b (tR (kk X cm) E mb)):PT X (.Compare a [.Eq] [b] pos) (tB (kk X cm) E (cu (Ą Ş ma mb))):=dF QZ (HY hu) ha hb (Ŗ _)
def Bj(hu:X.A.units+64<cLine)(ha:PE X a (tR (kk X cm) E ma))(hb:PE X b (tR (kk X cm) E mb)):PT X (.Compare a [.NotEq] [b] pos) (tB (kk X cm) E (cu (Ą aC ma mb))):=dF xR (pD hu) ha hb (Ŗ _)
def v_eq(hu:X.A.units+64<cLine)(ha:PE X a (tR (kk X cm) E ma))(hb:PE X b (tR (kk X cm) E mb)):PE X (.Compare a [.Eq] [b] pos) (tV (kk X cm) E (Ą Ş ma mb)):=fC QZ (HY hu) ha hb (Ŗ _)
def Ł(he:PE X e (tO (kk X cm) E mo)):iD X [.Return (some e) pos] (tS (kk X cm) E (ġ mo)):=Ģ (Zc0 he)
def ł(he:PE X e (tV (kk X cm) E m)):iD X [.Return (some e) pos] (tS (kk X cm) E (ġ (Ŋ m))):=Ł (Ÿ he)
def JL{N ps:List Str}{sc:Scope}{i:Nat}{x:Str}{pos':Pos}(S:Č N ps sc)(he:PE X e (tO (kk X cm) E mo))(hN:X.N=N:=by rfl)(hi:X.N[i]?=some x:=by rfl)(hx:Loc X.env.scope x:=by first|exact Or.inl rfl|exact Or.inr rfl)(hs:swapsWith e (some (.Name x pos')) pos.line X.env=pure false:=by rfl)(hf:X.fn x=true\/X.env.scope.names.lookup x=some .local:=by first|exact .inl rfl|exact .inr rfl|assumption) :
 PS X (.Assign [.Name x pos'] e pos) (tS (kk X cm) E (Ĩ i mo)):=ZcZ (hN▸S.nd) hi hx he hs hf
def Ń{N ps:List Str}{sc:Scope}{i:Nat}{x:Str}{pos':Pos}{rest:List Stmt}{m2:M Fl}(S:Č N ps sc)(he:PE X e (tO (kk X cm) E mo))(h2:iD X rest (tS (kk X cm) E m2))(hN:X.N=N:=by rfl)(hi:X.N[i]?=some x:=by rfl)(hx:Loc X.env.scope x:=by first|exact Or.inl rfl|exact Or.inr rfl)(hs:swapsWith e (some (.Name x pos')) pos.line X.env=pure false:=by rfl)(hf:X.fn x=true\/X.env.scope.names.lookup x=some .local:=by first|exact .inl rfl|exact .inr rfl|assumption) :
 iD X (.Assign [.Name x pos'] e pos::rest) (tS (kk X cm) E (Ě (Ĩ i mo) m2)):=đ (JL S he hN hi hx hs hf) h2
def Ţ{N ps:List Str}{sc:Scope}{i:Nat}{x:Str}(S:Č N ps sc)(hN:X.N=N:=by rfl)(hi:X.N[i]?=some x:=by rfl)(hx:Loc X.env.scope x:=by first|exact Or.inl rfl|exact Or.inr rfl)(hf:X.fn x=true\/X.env.scope.names.lookup x=some .local:=by first|exact .inl rfl|exact .inr rfl|assumption):PG X (.Name x pos) (tT (kk X cm) (gN i)):=Iw (hN▸S.nd) hi hx hf
def ő{i:Nat}{x:Str}(hN:X.N.Nodup:=by exact ndB (by kernel_rfl))(hi:X.N[i]?=some x:=by rfl)(hx:Loc X.env.scope x:=by first|exact Or.inl rfl|exact Or.inr rfl)(hf:X.fn x=true\/X.env.scope.names.lookup x=some .local:=by first|exact .inl rfl|exact .inr rfl):PG X (.Name x pos) (tT (kk X cm) (gN i)):=Iw hN hi hx hf
def ĉ(i:Nat){x:Str}{px:Pos}{ms:M (List Slot)}(hr:PA X es (tA (kk X cm) E ms))(hN:X.N[i]?=some x:=by rfl)(hv:zH X.env.scope x:=by first|exact Or.inl rfl|exact Or.inr (Or.inl rfl)|exact Or.inr (Or.inr rfl))(hd:(x== ("__debug__" :Str))=false:=by decide)
 (hcd:(x== ("__classdict__" :Str))=false:=by decide)(hs:starEach (.Name x px::es) X.env=(false,eval (.Name x px) X.env)::starEach es X.env:=by exact aj rfl):PA X (.Name x px::es) (tA (kk X cm) E (Ă i ms)):=Pb i hN hv hd hcd hr hs
def Ŏ{id:String}{x:Str}{r:List V->Hp->VK->Prop}{f:List PV->Option PV}{mr:M (List PV)}(hc:ř X (.builtin id) r)(hf:cH (kk X cm) r f)(hm:X.mg x=none)(hv:bootBuiltins x=some (.builtin id))(ha:PA X (e::es) (Nh (kk X cm) E mr))(hg:Gl X x:=by rfl)(hn:x≠ "__name__" := by decide)(hdb:(x== ("__debug__" :Str))=false:=by decide)
 (he:starEach (e::es) X.env=(false,eval e X.env)::starEach es X.env:=by rfl)(hpl:(backTo pos (starEach es X.env)).any (·.1)=false:=by rfl):PE X (.Call (.Name x p) (e::es) [] pos) (tV (kk X cm) E (aF f mr)):=PE.wk (Hv hc hg hm hv ha hn hdb he hpl) λ_ _ _ h=>ZcY hf h
def Zdv{T:String}{x:Str}{r:List V->Hp->VK->Prop}{f:List PV->Option PV}{mr:M (List PV)}(hc:ř X (.type T) r)(hf:cH (kk X cm) r f)(hm:X.mg x=none)(hv:bootBuiltins x=some (.type T))(ha:PA X (e::es) (Nh (kk X cm) E mr))(hg:Gl X x:=by rfl)(hn:x≠ "__name__" := by decide)(hdb:(x== ("__debug__" :Str))=false:=by decide)
 (he:starEach (e::es) X.env=(false,eval e X.env)::starEach es X.env:=by rfl)(hpl:(backTo pos (starEach es X.env)).any (·.1)=false:=by rfl):PE X (.Call (.Name x p) (e::es) [] pos) (tV (kk X cm) E (aF f mr)):=PE.wk (tD hc hg hm hv ha hn hdb he hpl) λ_ _ _ h=>ZcY hf h
def sG{T:String}{x:Str}{r:List V->Hp->VK->Prop}{f:List PV->Option RV}{mr:M (List PV)}(hc:ř X (.type T) r)(hf:Iv (kk X cm) r f)(hm:X.mg x=none)(hv:bootBuiltins x=some (.type T))(ha:PA X (e::es) (Nh (kk X cm) E mr))(hg:Gl X x:=by rfl)(hn:x≠ "__name__" := by decide)(hdb:(x== ("__debug__" :Str))=false:=by decide)
 (he:starEach (e::es) X.env=(false,eval e X.env)::starEach es X.env:=by rfl)(hpl:(backTo pos (starEach es X.env)).any (·.1)=false:=by rfl):PE X (.Call (.Name x p) (e::es) [] pos) (tO (kk X cm) E (fW f mr)):=PE.wk (tD hc hg hm hv ha hn hdb he hpl) λ_ _ _ h=>Zfi hf h
end
section
variable{X:Cx}{cm:String->Addr}{E:L2.St->XK}{elt tg iter t:Expr}{ifs:List Expr}{scope:Scope}{pos:Pos}{mi:M (List PV)}{g:Tg}{mt:M Bool}{me:M PV}{js:List Nat}{nl:Nat}
structure CF(X:Cx)(js:List Nat)(nl:Nat)(tg iter:Expr)(scope:Scope):Prop where
 hcap:dz X.Ŝ X.env.scope scope (cN X js tg) js
 hcalm:X.calm=true
 hlen:js.length+nl=(cN X js tg).length
 hk:scope.kind=.function
 hcell:∀y∈scope.names,y.2=.cell->scope.names.lookup y.1=some .cell
 hnames:∀y∈scope.names,y.2=.local->scope.names.lookup y.1=some .local
 hfree:∀y∈scope.names,y.2=.free->(X.env.scope.names.lookup y.1=some .cell\/X.env.scope.names.lookup y.1=some .free)
 hs:∀x,foldedSetIterable iter X.env x=pure x
def cf(hcap:dz X.Ŝ X.env.scope scope (cN X js tg) js:=by repeat' first|exact True.intro|refine⟨rfl,⟨rfl,by first|exact Or.inl rfl|exact Or.inr rfl⟩,?_⟩)(hcalm:X.calm=true:=by rfl)(hlen:js.length+nl=(cN X js tg).length:=by rfl)
 (hk:scope.kind=.function:=by rfl)(hcell:∀y∈scope.names,y.2=.cell->scope.names.lookup y.1=some .cell:=by decide +kernel)(hnames:∀y∈scope.names,y.2=.local->scope.names.lookup y.1=some .local:=by decide +kernel)
 (hfree:∀y∈scope.names,y.2=.free->(X.env.scope.names.lookup y.1=some .cell\/X.env.scope.names.lookup y.1=some .free):=by exact frB (by kernel_rfl))(hs:∀x,foldedSetIterable iter X.env x=pure x:=by intro _;rfl):CF X js nl tg iter scope:=⟨hcap,hcalm,hlen,hk,hcell,hnames,hfree,hs⟩
def Zgq(hi:PI X.Ŝ tg iter (tG (kk X cm) E (IV (kk X cm)) mi))(hg:∀{cl C s H fp},PG (cT X.Ŝ (cN X js tg) scope cl C s H fp) tg (tT (kk X cm) g))(ht:∀{cl C s H fp},GF (cT X.Ŝ (cN X js tg) scope cl C s H fp) ifs (tB (kk X cm) EF mt))(he:∀{cl C s H fp},PE (cT X.Ŝ (cN X js tg) scope cl C s H fp) elt (tV (kk X cm) EF me))(h:CF X js nl tg iter scope:=by exact cf) :
 PE X (.ListComp elt [⟨tg,iter,ifs,0⟩] scope pos) (tO (kk X cm) E (ĵ js nl mi g mt me)):=Pq (cN X js tg) js nl X.env.scope rfl h.hcalm hi (λ_ _ _ _ _=>hg) (λ_ _ _ _ _=>ht) (λ_ _ _ _ _=>he) h.hcap h.hlen h.hk h.hcell h.hnames h.hfree h.hs
def aP(hi:PI X.Ŝ tg iter (tI (kk X cm) E mi))(hg:∀{cl C s H fp},PG (cT X.Ŝ (cN X js tg) scope cl C s H fp) tg (tT (kk X cm) g))(ht:∀{cl C s H fp},GF (cT X.Ŝ (cN X js tg) scope cl C s H fp) ifs (tB (kk X cm) EF mt))(he:∀{cl C s H fp},PE (cT X.Ŝ (cN X js tg) scope cl C s H fp) elt (tV (kk X cm) EF me))(h:CF X js nl tg iter scope:=by exact cf) :
 PE X (.ListComp elt [⟨tg,iter,ifs,0⟩] scope pos) (tO (kk X cm) E (ĵ js nl mi g mt me)):=Zgq (QL hi) hg ht he h
def yG{N ps:List Str}{sc:Scope}{i:Nat}{y:Str}{py spos:Pos}(S:Č N ps sc)(hi:PI X.Ŝ tg iter (tI (kk X cm) E mi))(hg:∀{cl C s H fp},PG (cT X.Ŝ (cN X js tg) scope cl C s H fp) tg (tT (kk X cm) g))(ht:∀{cl C s H fp},GF (cT X.Ŝ (cN X js tg) scope cl C s H fp) ifs (tB (kk X cm) EF mt))(he:∀{cl C s H fp},PE (cT X.Ŝ (cN X js tg) scope cl C s H fp) elt (tV (kk X cm) EF me))
 (h:CF X js nl tg iter scope:=by exact cf)(hN:X.N=N:=by rfl)(hi0:X.N[i]?=some y:=by rfl)(hy:X.env.scope.names.lookup y=some .local:=by rfl)(hsw:swapsWith (.ListComp elt [⟨tg,iter,ifs,0⟩] scope pos) (some (.Name y py)) spos.line X.env=pure true:=by rfl) :
 PS X (.Assign [.Name y py] (.ListComp elt [⟨tg,iter,ifs,0⟩] scope pos) spos) (tS (kk X cm) E (Ĩ i (ĵ js nl mi g mt me))):=ZaS (hN▸S.nd) hi0 hy (cN X js tg) js nl X.env.scope rfl h.hcalm hi (λ_ _ _ _ _=>hg) (λ_ _ _ _ _=>ht) (λ_ _ _ _ _=>he) h.hcap h.hlen h.hk h.hcell h.hnames h.hfree h.hs hsw
end
end P
namespace P
open PySem PySem.Spec PyProof.Rows L2 M2 M3 M5
structure Dp(K:PySem.W.Frag)(mg:Str->Option Value)(x:Str)(st:Stmt)(ps:List Str)(v:Int)(f:Addr)(fd:FuncData):Prop where
 F:Za0 K x x st f fd
 m:mg x=some (.ref f)
 b:Binds K fd ps []
 bd:∃tk,Binds K fd ps [.int v tk]
def Zdw{K:PySem.W.Frag}{h:Heap}{mg:Str->Option Value}{x:Str}{st:Stmt}{ps:List Str}{f:Addr}{oc kV dc pm cd ct:Value}{od an:Option Addr}{sl:Array (Option Value)}{v:Int}{T:Addr}{dk:Tok}{dn:Nat}{ds:Array (Option Value)}{dd:Option Addr}{dO:Value}(X:K.In h)(G:h.Ns mainGlobals mg)
 (hb:∀(dk:Tok) (kV dc pm:Value) (an:Option Addr) (cd ct:Value),BN ps.length λus=>∃k:Option (Array Value)->Sem (List (Str×Value)),bindArgs (PySem.W.fnOf x x (Ņ st) (Ķ st) (Ć st) (.ref T) kV dc pm an cd ct) ⟨us,[]⟩=seqItems? (.ref T) >>= k/\k (some #[.int v dk])=pure (ps.zip us))
 (hp:∀(dk:Tok) (kV dc pm:Value) (an:Option Addr) (cd ct:Value),BN (ps.length-1) λus=>∃k:Option (Array Value)->Sem (List (Str×Value)),bindArgs (PySem.W.fnOf x x (Ņ st) (Ķ st) (Ć st) (.ref T) kV dc pm an cd ct) ⟨us,[]⟩=seqItems? (.ref T) >>= k/\k (some #[.int v dk])=pure (ps.zip (us ++ [.int v dk])))
 (a:PySem.W.nsIn K mainGlobals x=some (some (.ref f)))(l:K.lookup f=some ⟨oc,od,.func (PySem.W.fnOf x x (Ņ st) (Ķ st) (Ć st) (.ref T) kV dc pm an cd ct),sl⟩)(d:K.lookup T=some ⟨dO,dd,.seq #[.int v dk] dn,ds⟩)(c:PySem.W.codeIn K cd x=true)(k:PySem.W.keepIn K (.ref f)=true) :
 Dp K mg x st ps v f (PySem.W.fnOf x x (Ņ st) (Ķ st) (Ć st) (.ref T) kV dc pm an cd ct):=
 ⟨Qi (st:=st) l c k,PySem.W.mg_of X G a,Bg d rfl λus hl=>lZ (hb dk kV dc pm an cd ct) us hl,_,Bh (ds:=[.int v dk]) d rfl λus hl=>lZ (hp dk kV dc pm an cd ct) us (by rw[List.length_append] at hl;simp at hl;omega)⟩
end P
namespace P
open PySem PySem.Spec PyProof.Rows L2 M2 M3 M4 M5
variable{X:Cx}{cm:String->Addr}{E:L2.St->XK}{a:Expr}{pos:Pos}{ma:M PV}
def slG(p:PV)(lo hi:Option Int):Option RV:=match p with
 | .tup ps=>if HT.Ż ps.length 0 lo=0/\HT.Ż ps.length ps.length hi=ps.length then none else some (.sh (.tup (eZ ps lo hi)))
 |q=>Gf q lo hi
def JM(ma:M PV)(ml mh:M (Option Int)):M RV:=λρ=>(ma ρ).bind λp ρ1=>(ml ρ1).bind λlo ρ2=>(mh ρ2).bind λhi ρ3=>Res.kO (slG p lo hi) ρ3
def qw{ml mh:M (Option Int)}{lo hi:Option Expr}{p2:Pos}(ha:PE X a (tR (kk X cm) E ma))(hl:PO X lo (tP (kk X cm) E ml))(hh:PO X hi (tP (kk X cm) E mh)):PE X (.Subscript a (.Slice lo hi none p2) pos) (tO (kk X cm) E (JM ma ml mh)):=
 PE.wk (wZ (slm.or Zac) ha hl hh) fun σ H Q ⟨c,F,ρ,rel,h⟩=>⟨c,F,ρ,rel,h.bind fun p ρ1 v F1 H1 Ė _ _ r1 h1=>⟨c,F1,ρ1,Ė,h1.bind fun lo ρ2 lo' F2 H2 Ĵ sF sH r2 h2=>⟨c,F2,ρ2,Ĵ,h2.bind fun hi ρ3 hi' F3 H3 cB sF3 sH3 r3 h3=>by
   have e2:lo=lo':=r2
   have e3:hi=hi':=r3
   subst e2 e3
   have r1':rR (kk X cm) c σ ρ3 F3 H3 p v:=r1.mono (sF.trans sF3) (sH.trans sH3)
   cases p with
   |lst ps=>
    obtain⟨a,vs,rfl,q1,q2⟩:=r1'.lst cB.sub
    refine .inl ⟨vs,q1,λd hd=>?_⟩
    have e:ě (kk X cm) F3 (eZ ps lo hi) (ji vs lo hi):=by
     unfold eZ ji
     rw[q2.length]
     exact ě.of (oK _ (oM _ q2.pr))
    obtain⟨z1,z2⟩:=dH cB hd e
    exact h3 _ F3 _ z1 (Same.refl _) (Same.upd hd) z2
   |tup ps=>
    obtain⟨a,vs,rfl,q1,q2⟩:=r1'.tup cB.sub
    unfold slG at h3
    dsimp only at h3
    split at h3
    ·exact h3.elim
    ·rename_i hw
     have e:ě (kk X cm) F3 (eZ ps lo hi) (ji vs lo hi):=by
      unfold eZ ji
      rw[q2.length]
      exact ě.of (oK _ (oM _ q2.pr))
     refine .inr ⟨a,vs,rfl,q1,by rw[<-q2.length];exact hw,λd hd=>h3 _ _ _ (cB.alloc hd) (Same.upd (cB.sub.free hd)) (Same.upd hd) ?_⟩
     show Rep (kk X cm) _ _ _
     unfold Rep
     exact⟨d,ji vs lo hi,rfl,bO.of ģ,ě.same (Same.upd (cB.sub.free hd)) _ _ e⟩
   |str z=>
    cases r1'.str
    unfold slG Gf at h3
    dsimp only at h3
    split at h3
    ·rename_i hz
     exact .inl ⟨by rw[ľ];exact hz,h3 _ F3 H3 cB (Same.refl _) (Same.refl _) (Rep.str (K:=kk X cm) (F:=F3))⟩
    ·exact h3.elim
   |_=>exact h3.elim⟩⟩⟩
@[simp] theorem Zgr{ml mh:M (Option Int)}{ρ:ń}:JM ma ml mh ρ=(ma ρ).bind λp ρ1=>(ml ρ1).bind λlo ρ2=>(mh ρ2).bind λhi ρ3=>Res.kO (slG p lo hi) ρ3:=rfl
@[simp] theorem ZeI{ps:List PV}{lo hi:Option Int}:slG (.lst ps) lo hi=some (.ow (eZ ps lo hi)):=rfl
end P
namespace M5
open PySem PySem.Spec PyProof.Rows L2 M2 M3
section
variable{X:Cx}{pins:List (Addr×Obj)}{σ:L2.St}{H:Hp}{s:Shared}
variable{R:Result->Shared->Prop}{f l S It:Addr}{oF:Obj}{xs:List V}(ks:Nat->Int)(W:Nat->Hp->Prop)
end
section
variable{X:Cx}{x px:Str}{c P:Addr}{params:Arguments}{body e:Expr}{scope:Scope}{p pos Gd kpos dpos Zdx:Pos}{dj:Nat}{ta:TA}{te:TE}
end
end M5
namespace P
open PySem PySem.Spec PyProof.Rows L2 M2 M3 M5
section
variable{X:Cx}{cm:String->Addr}{E:L2.St->XK}{x px:Str}{c Pt:Addr}{params:Arguments}{body e:Expr}{scope:Scope}{p pos Gd kpos dpos Zdx:Pos}{dj:Nat}{mr:M (List PV)}{me:M PV}
end
end P
namespace PySem
namespace F
end F
section
variable{prog:Program}{w:World}{A:Around}{E:Value->Shared->Prop}{s:Shared}
end
end PySem
namespace P
open PySem PySem.Spec PyProof.Rows L2 M2 M3 M4
section
variable{X:Cx}{cm:String->Addr}{E:L2.St->XK}{tg e l:Expr}{p pos p1 pos1:Pos}{mi:M (List PV)}
end
end P
namespace P
open PySem PySem.Spec PyProof.Rows L2 M2 M3 M4
end P
namespace P
open PySem PySem.Spec PyProof.Rows L2 M2 M3 M4
section
variable{X:Cx}{cm:String->Addr}{E:L2.St->XK}{tg:Expr}{a b d:Expr}{p pos:Pos}{mr:M (List PV)}
end
end P
namespace My
def gd(a b:Int):Int:=((Int.gcd a b:Nat):Int)
def Z2s(a b:Int):gd b (Int.fmod a b)=gd a b:=by
 unfold gd
 rw[Int.fmod_def,Int.gcd_sub_mul_left_right,Int.gcd_comm]
def Z2t(a:Int){b:Int}(h:b≠0):(Int.fmod a b).natAbs<b.natAbs:=by
 rcases(by omega:0<b\/b<0) with h|h
 ·have h1:=Int.fmod_nonneg_of_pos a h
  have h2:=Int.fmod_lt_of_pos a h
  omega
 ·have e:=Int.neg_fmod_neg a b
  have h1:=Int.fmod_nonneg_of_pos (-a) (show 0 < -b by omega)
  have h2:=Int.fmod_lt_of_pos (-a) (show 0 < -b by omega)
  omega
def Z2u(a:Int):gd a 0=if a<0 then -a else a:=by
 unfold gd
 rw[Int.gcd_zero]
 split<;>omega
def Z2Q(a:Int){b:Int}(h:b≠0):0<gd a b:=by
 have:=Int.gcd_ne_zero_right (a:=a) h
 unfold gd
 omega
def Z1t(a b:Int):0<=gd a b:=by
 unfold gd
 omega
def Z3m(a:Int){b:Int}(h:b≠0):gd a b<=b.natAbs:=by
 unfold gd
 have:=Int.gcd_dvd_natAbs_right a b
 have:=Nat.le_of_dvd (by omega) this
 omega
def dv(t b:Int):Int:=if b<0 then-gd t b else gd t b
end My
namespace Hu
abbrev Pt:=Int×Int
def tn(a b c:Pt):Int:=(b.1-a.1)*(c.2-a.2)-(b.2-a.2)*(c.1-a.1)
section
variable{S:List Pt}{p:Pt}
end
abbrev Ln:=Int×Int×Int
def hd(l:Ln)(p:Pt):Bool:=decide (l.1*p.1+l.2.1*p.2<=l.2.2)
def Z3(a b:Pt):Ln:=(b.2-a.2,a.1-b.1,(b.2-a.2)*a.1+(a.1-b.1)*a.2)
def Z2n{a b s:Pt}:hd (Z3 a b) s=true↔0<=tn a b s:=by
 unfold hd Z3
 rw[decide_eq_true_iff]
 have e:tn a b s=((b.2-a.2)*a.1+(a.1-b.1)*a.2)-((b.2-a.2)*s.1+(a.1-b.1)*s.2):=by simp only[tn];grind
 dsimp only
 omega
def Z2(S:List Pt):List Pt:=S.foldl (λk x=>if x∈k then k else k ++ [x]) []
theorem Z0i(x:Pt):∀(S k:List Pt),x∈S.foldl (λk x=>if x∈k then k else k ++ [x]) k↔x∈k\/x∈S
 | [],k=>by simp
 |y::S,k=>by
  rw[List.foldl_cons,Z0i x S]
  by_cases h:y∈k
  ·rw[if_pos h]
   constructor
   ·rintro (q|q)
    ·exact .inl q
    ·exact .inr (List.mem_cons_of_mem _ q)
   ·rintro (q|q)
    ·exact .inl q
    ·rcases List.mem_cons.mp q with e|e
     ·exact .inl (e▸h)
     ·exact .inr e
  ·rw[if_neg h]
   simp only[List.mem_append,List.mem_cons,List.not_mem_nil,or_false]
   constructor
   ·rintro ((q|q)|q)
    ·exact .inl q
    ·exact .inr (.inl q)
    ·exact .inr (.inr q)
   ·rintro (q|q|q)
    ·exact .inl (.inl q)
    ·exact .inl (.inr q)
    ·exact .inr q
def Zo{x:Pt}{S:List Pt}:x∈Z2 S↔x∈S:=by unfold Z2;rw[Z0i];simp
def ZB(S:List Pt):List Ln:=(Z2 S).flatMap λa=>(Z2 S).filterMap λb=>if a≠b/\(Z2 S).all (hd (Z3 a b)) then some (Z3 a b) else none
def Z1u{S:List Pt}{l:Ln}:l∈ZB S↔∃a∈S,∃b∈S,a≠b/\(∀s∈S,0<=tn a b s)/\l=Z3 a b:=by
 unfold ZB
 simp only[List.mem_flatMap,List.mem_filterMap]
 constructor
 ·rintro ⟨a,ha,b,hb,h⟩
  split at h
  ·rename_i hc
   refine⟨a,Zo.mp ha,b,Zo.mp hb,hc.1,λs hs=>?_,(Option.some.inj h).symm⟩
   exact Z2n.mp (List.all_eq_true.mp hc.2 s (Zo.mpr hs))
  ·cases h
 ·rintro ⟨a,ha,b,hb,h1,h2,rfl⟩
  refine⟨a,Zo.mpr ha,b,Zo.mpr hb,?_⟩
  rw[if_pos ⟨h1,List.all_eq_true.mpr λs hs=>Z2n.mpr (h2 s (Zo.mp hs))⟩]
def mx(l:List Int):Int:=l.tail.foldl max (l.headD 0)
def mn(l:List Int):Int:=l.tail.foldl min (l.headD 0)
def box(S:List Pt):List Ln:=[(1,0,mx (S.map (·.1))),(-1,0,- mn (S.map (·.1))),(0,1,mx (S.map (·.2))),(0,-1,- mn (S.map (·.2)))]
def ZC(S:List Pt):List Ln:=box S++ZB S
def Z02(S:List Pt)(p:Pt):Option Ln:=(ZC S).find? λl=>!hd l p
def vD(a b c p:Pt):List Int:=[tn p b c,tn a p c,tn a b p]
def vG(a b p:Pt):List Int:=
 let g:=(b.1-a.1)*(p.1-a.1)+(b.2-a.2)*(p.2-a.2)
 [(b.1-a.1)*(b.1-a.1)+(b.2-a.2)*(b.2-a.2)-g,g]
def Zv(w:List Int):Bool:=decide (w.sum≠0) && w.all λs=>decide (0<=s*w.sum)
def at_(S:List Pt)(i:Nat):Pt:=S.getD i (0,0)
def Z2R{S:List Pt}{i:Nat}(h:i<S.length):at_ S i∈S:=by
 unfold at_
 rw[List.getD_eq_getElem?_getD,List.getElem?_eq_getElem h]
 exact List.getElem_mem h
def Z9(n:Nat):List (Nat×Nat):=(List.range n).flatMap λj=>(List.range j).map λi=>(i,j)
def Zd(n:Nat):List (Nat×Nat×Nat):=(List.range n).flatMap λk=>(Z9 k).map λq=>(q.1,q.2,k)
def ZQ{n i j:Nat}:(i,j)∈Z9 n↔i<j/\j<n:=by
 unfold Z9
 simp only[List.mem_flatMap,List.mem_range,List.mem_map,Prod.mk.injEq]
 constructor
 ·rintro ⟨k,hk,m,hm,rfl,rfl⟩;exact⟨hm,hk⟩
 ·rintro ⟨h1,h2⟩;exact⟨j,h2,i,h1,rfl,rfl⟩
def Z0X{n i j k:Nat}:(i,j,k)∈Zd n↔i<j/\j<k/\k<n:=by
 unfold Zd
 simp only[List.mem_flatMap,List.mem_range,List.mem_map,Prod.mk.injEq]
 constructor
 ·rintro ⟨m,hm,⟨a,b⟩,hq,rfl,rfl,rfl⟩
  have:=ZQ.mp hq
  exact⟨this.1,this.2,hm⟩
 ·rintro ⟨h1,h2,h3⟩;exact⟨k,h3,(i,j),ZQ.mpr ⟨h1,h2⟩,rfl,rfl,rfl⟩
def Z2S(S:List Pt)(p:Pt):Option (List Int×List Nat):=(Zd S.length).findSome? λq=>if Zv (vD (at_ S q.1) (at_ S q.2.1) (at_ S q.2.2) p) then some (vD (at_ S q.1) (at_ S q.2.1) (at_ S q.2.2) p,[q.1,q.2.1,q.2.2]) else none
def Z2T(S:List Pt)(p:Pt):Option (List Int×List Nat):=(Z9 S.length).findSome? λq=>if Zv (vG (at_ S q.1) (at_ S q.2) p) then some (vG (at_ S q.1) (at_ S q.2) p,[q.1,q.2]) else none
def Z1d(S:List Pt)(p:Pt):List Int×List Nat:=((Z2S S p).orElse λ_=>Z2T S p).getD ([1],[0])
structure Z3D(S:List Pt)(p:Pt)(w:List Int)(q:List Nat):Prop where
 len:w.length=q.length
 sum:w.sum≠0
 sign:∀s∈w,0<=s*w.sum
 nd:q.Nodup
 lt:∀i∈q,i<S.length
 x:((w.zip q).map λa=>a.1*(at_ S a.2).1).sum=w.sum*p.1
 y:((w.zip q).map λa=>a.1*(at_ S a.2).2).sum=w.sum*p.2
def Z0v{w:List Int}:Zv w=true↔w.sum≠0/\∀s∈w,0<=s*w.sum:=by
 unfold Zv
 simp
end Hu
namespace Fr
def lay(l:List Int)(a:List (Int×Nat)):List Int:=a.foldl (λacc a=>acc.set a.2 a.1) l
end Fr
namespace T
open PySem L2 M2 M3 M4 P
noncomputable section
def top(i:Nat):Stmt:=PySem.Challenge.pw_shadowpost_k56_whole_turns_told_apart.main.body.getD i (.Pass ⟨0,0,0,0⟩)
abbrev Ri:Stmt:=inClass (top 45) 0
abbrev Rj:Stmt:=top 46
abbrev Rk:Stmt:=top 49
abbrev Rm:Stmt:=top 48
abbrev Rn:Stmt:=top 50
abbrev Ro:Stmt:=top 47
abbrev Rq:Stmt:=top 19
abbrev Rr:Stmt:=top 21
abbrev Rt:Stmt:=top 20
abbrev Ru:Stmt:=top 18
abbrev Rv:Stmt:=top 22
abbrev Rw:Stmt:=top 23
abbrev Rx:Stmt:=top 24
abbrev Ry:Stmt:=top 30
abbrev Rz:Stmt:=top 31
abbrev Zdy:Stmt:=top 15
abbrev RD:Stmt:=top 16
abbrev RJ:Stmt:=top 29
abbrev RK:Stmt:=top 25
abbrev Zdz:Stmt:=top 26
abbrev RL:Stmt:=top 28
abbrev RM:Stmt:=top 27
abbrev RN:Stmt:=top 32
abbrev RP:Stmt:=top 33
abbrev RQ:Stmt:=top 36
abbrev RT:Stmt:=top 70
abbrev ZdA:Stmt:=top 71
abbrev RW:Stmt:=inClass (top 73) 0
abbrev RX:Stmt:=inClass (top 74) 0
abbrev RZ:Stmt:=inClass (top 75) 0
abbrev ZdB:Stmt:=inClass (top 76) 0
abbrev R_:Stmt:=inClass (top 77) 0
abbrev Sd:Stmt:=top 39
abbrev Sg:Stmt:=top 37
abbrev Sh:Stmt:=top 40
abbrev Sq:Stmt:=top 41
abbrev Ss:Stmt:=top 43
abbrev Sv:Stmt:=top 58
abbrev Sw:Stmt:=top 85
abbrev ZdC:Stmt:=top 52
abbrev ZdD:Stmt:=top 53
abbrev Sx:Stmt:=top 4
abbrev JN:Stmt:=top 6
abbrev ZdE:Stmt:=top 3
abbrev Sy:Stmt:=top 5
abbrev SJ:Stmt:=top 7
abbrev SM:Stmt:=top 54
abbrev SN:Stmt:=top 2
abbrev SQ:Stmt:=top 35
abbrev SX:Stmt:=top 55
abbrev S_:Stmt:=top 56
abbrev Tc:Stmt:=top 86
abbrev Td:Stmt:=top 89
abbrev Te:Stmt:=top 87
abbrev Tf:Stmt:=top 88
abbrev Ti:Stmt:=top 90
abbrev Tj:Stmt:=top 80
abbrev Tn:Stmt:=top 81
abbrev Tp:Stmt:=top 82
abbrev Tq:Stmt:=top 83
abbrev Tr:Stmt:=top 91
abbrev Tt:Stmt:=top 84
abbrev Tw:Stmt:=top 62
abbrev Tz:Stmt:=top 63
abbrev TF:Stmt:=top 65
abbrev ZdF:Stmt:=inClass (top 72) 0
abbrev TJ:Stmt:=top 66
abbrev TQ:Stmt:=top 67
abbrev ZdG:Stmt:=top 68
abbrev ZdH:Stmt:=top 64
abbrev TX:Stmt:=top 69
abbrev TY:Stmt:=top 78
abbrev T_:Stmt:=top 92
def cmB(c0:Addr)(c1:Addr)(c2:Addr)(c3:Addr)(c4:Addr)(c5:Addr)(c6:Addr):String->Addr:=λs=>match s with
 | "Yard" =>c0
 | "Thing" =>c1
 | "Post" =>c2
 | "Fence" =>c3
 | "Sail" =>c4
 | "Cloth" =>c5
 | "House" =>c6
 |_=>0
def Bk:M Fl:=(Ě (iV 0 ["Yard"] "width" (ĕ 1))
 (Ě (iV 0 ["Yard"] "height" (ĕ 2))
 (Ě (iV 0 ["Yard"] "things" (Ď (fW aK (ă (Ā 3) Đ))))
 (iV 0 ["Yard"] "days" (Ď (ĵ [] 3 (ŋ 4) (gT 3 (ę (gN 0) (ę (gN 1) (ę (gN 2) ŏ)))) ĭ (ŀ (ă (ĕ 0) (ă (ĕ 1) (ă (Ď (fW aK (ă (Ā 2) Đ))) Đ))))))))))
def jT:MI:=cL 5 5 "Yard" Bk
def JQ:M Fl:=(ġ (Ŋ (eU (lJ jl nM (mC (.int 0)) (Ą ē (Ā 1) (mC (.int 0))) (kW (aD ["Yard"] "width") (Ā 0))) (lJ jl nM (mC (.int 0)) (Ą ē (Ā 1) (mC (.int 1))) (kW (aD ["Yard"] "height") (Ā 0))))))
def Eb:MF:=Ĭ 2 2 JQ
def JR:M Fl:=(cG (ao (aA (Ď (ď Eb (Ă 0 (Ă 1 Ċ))))))
 Am
 cY)
def Ec:MF:=Ĭ 2 2 JR
def JT:M Fl:=(ġ (Ŋ (lJ jl nM (mC (.int 0)) (Ā 1) (aF ų (ă (kW (aD ["Yard"] "days") (Ā 0)) Đ)))))
def Ed:MF:=Ĭ 2 2 JT
def JV:M Fl:=(cG (ao (aA (Ď (ď Ed (Ă 0 (Ă 1 Ċ))))))
 Am
 cY)
def Ef:MF:=Ĭ 2 2 JV
def JW:M Fl:=(ġ (Ŋ (Ą ē (Ą ē (kW (aD ["Yard"] "days") (Ā 0)) (Ā 1)) (mC (.int 2)))))
def ux:MF:=Ĭ 2 2 JW
def JX:M Fl:=(Ě (Ĩ 1 (ĵ [] 1 (ŋ 0) (gN 0) ĭ (Ą ē (Ā 0) (mC (.int 0)))))
 (Ě (Ĩ 2 (ĵ [] 1 (ŋ 0) (gN 0) ĭ (Ą ē (Ā 0) (mC (.int 1)))))
 (ġ (aJ (ă (ŀ (ă (mC (.int 1)) (ă (mC (.int 0)) (ă (aF t_ (ă (Ā 1) Đ)) Đ)))) (ă (ŀ (ă (kW gF (mC (.int 1))) (ă (mC (.int 0)) (ă (kW gF (aF uc (ă (Ā 1) Đ))) Đ)))) (ă (ŀ (ă (mC (.int 0)) (ă (mC (.int 1)) (ă (aF t_ (ă (Ā 2) Đ)) Đ)))) (ă (ŀ (ă (mC (.int 0)) (ă (kW gF (mC (.int 1))) (ă (kW gF (aF uc (ă (Ā 2) Đ))) Đ)))) Đ))))))))
def Eh:MF:=Ĭ 1 3 JX
def mj:M Fl:=(cG (cu (Ą (inD true) (Ā 2) (Ā 1)))
 (nJ 1 (ĕ 2))
 cY)
def JZ:M Fl:=(Ě (Ĩ 1 (aJ Đ))
 (Ě (aV (ŋ 0) (gN 2) mj)
 (ġ (bB 1))))
def Ei:MF:=Ĭ 1 3 JZ
def J_:M Fl:=(Ě (Ĩ 2 (Ŋ (Ą š (Ą ē (Ā 1) (mC (.int 1))) (Ą ē (Ā 0) (mC (.int 1))))))
 (Ě (Ĩ 3 (Ŋ (Ą š (Ą ē (Ā 0) (mC (.int 0))) (Ą ē (Ā 1) (mC (.int 0))))))
 (ġ (Ŋ (ŀ (ă (ĕ 2) (ă (ĕ 3) (ă (Ď (ħ ĥ (Ą ĳ (Ā 2) (Ą ē (Ā 0) (mC (.int 0)))) (Ą ĳ (Ā 3) (Ą ē (Ā 0) (mC (.int 1)))))) Đ))))))))
def Ej:MF:=Ĭ 2 4 J_
def Ka:M Fl:=(ġ (Ŋ (Ą jl (Ď (ħ ĥ (Ą ĳ (Ą ē (Ā 0) (mC (.int 0))) (Ą ē (Ā 1) (mC (.int 0)))) (Ą ĳ (Ą ē (Ā 0) (mC (.int 1))) (Ą ē (Ā 1) (mC (.int 1)))))) (Ą ē (Ā 0) (mC (.int 2))))))
def qy:MF:=Ĭ 2 2 Ka
def mq:M Fl:=(Ě (Ĩ 5 (ď Ej (Ă 3 (Ă 4 Ċ))))
 (cG (jF (cu (Ą aC (Ā 3) (Ā 4))) (aA (aF pQ (ă (Ď (ĵ [5] 1 (ŋ 2) (gN 1) ĭ (Ď (ď qy (Ă 0 (Ă 1 Ċ)))))) Đ))))
 (nJ 1 (ĕ 5))
 cY))
def vH:M Fl:=(aV (ŋ 2) (gN 4) mq)
def Kc:M Fl:=(Ě (Ĩ 1 (aJ Đ))
 (Ě (Ĩ 2 (ď Ei (Ă 0 Ċ)))
 (Ě (aV (ŋ 2) (gN 3) vH)
 (ġ (bB 1)))))
def Ek:MF:=Ĭ 1 6 Kc
def Kd:M Fl:=(ġ (ħ ĥ (Ď (ď Eh (Ă 0 Ċ))) (Ď (ď Ek (Ă 0 Ċ)))))
def El:MF:=Ĭ 1 1 Kd
def vI:M Fl:=(cG (ao (aA (Ď (ď qy (Ă 2 (Ă 1 Ċ))))))
 (ġ (bB 2))
 cY)
def Bl:M Fl:=(Ě (aV (ŗ (Ď (ď El (Ă 0 Ċ)))) (gN 2) vI)
 (ġ (Ŋ (mC .non))))
def yH:MF:=Ĭ 2 3 Bl
def qz:M Fl:=(vo 1 (ĵ [2] 1 (Ľ Ō (ă (ĕ 2) Đ)) (gN 1) ĭ (ŀ (ă (ĕ 1) (ă (ĕ 0) Đ)))))
def Ke:M Fl:=(Ě (Ĩ 1 (aJ Đ))
 (Ě (aV (Ľ Ō (ă (ĕ 0) Đ)) (gN 2) qz)
 (ġ (bB 1))))
def yI:MF:=Ĭ 1 3 Ke
def qC:M Fl:=(vo 1 (ĵ [2] 1 (ŗ (Ď (ď yI (Ă 2 Ċ)))) (gN 1) ĭ (ŀ (ă (Ą ē (Ā 1) (mC (.int 0))) (ă (Ą ē (Ā 1) (mC (.int 1))) (ă (ĕ 0) Đ))))))
def Kf:M Fl:=(Ě (Ĩ 1 (aJ Đ))
 (Ě (aV (Ľ Ō (ă (ĕ 0) Đ)) (gN 2) qC)
 (ġ (bB 1))))
def Em:MF:=Ĭ 1 3 Kf
def Ua:M Fl:=(ű (cu (Ą aC (Ā 1) (mC (.int 0))))
 (Ě (Ĩ 2 (Ŋ (Ą ĩ (Ā 0) (Ā 1))))
 (Ě (Ĩ 0 (Ŋ (ĕ 1)))
 (Ĩ 1 (Ŋ (ĕ 2))))))
def Ub:M Fl:=(Ě Ua
 (ġ (Ŋ (aF Px (ă (Ā 0) Đ)))))
def Ql:MF:=Ĭ 2 3 Ub
def Bm:M Fl:=(Ě (cG (cu (Ą Ş (Ā 1) (mC (.int 0))))
 Am
 cY)
 (Ě (Ĩ 2 (ď Ql (Ă 0 (Ă 1 Ċ))))
 (Ě (cG (cu (Ą nM (Ā 1) (mC (.int 0))))
 (Ĩ 2 (Ŋ (kW gF (Ā 2))))
 cY)
 (ġ (Ŋ (ŀ (ă (Ą ō (Ā 0) (Ā 2)) (ă (Ą ō (Ā 1) (Ā 2)) Đ))))))))
def mR:MF:=Ĭ 2 3 Bm
def vJ:M Fl:=(Aq 4 (ĕ 6) (Ď (ď mR (Ă 5 (Ă 3 Ċ)))))
def qD:M Fl:=(Ě (Ĩ 3 (Ŋ (aF nO (ă (Ā 0) Đ))))
 (Ě (Ĩ 4 (ĵ [3] 1 (Ľ Ō (ă (ĕ 2) Đ)) (gN 1) ĭ (Ď (ď mR (Ĕ (mC (.int 0)) (Ă 0 Ċ))))))
 (Ě (aV (Gp (Jw 0) (Jw 1)) (gT 2 (ę (gN 5) (ę (gN 6) ŏ))) vJ)
 (ġ (bB 4)))))
def jU:MF:=Ĭ 3 7 qD
def Kg:M Fl:=(Ě (Ĩ 3 (Ŋ (Ą ĳ (Ą š (Ą ē (Ā 1) (mC (.int 0))) (Ą ē (Ā 0) (mC (.int 0)))) (Ą š (Ą ē (Ā 2) (mC (.int 1))) (Ą ē (Ā 0) (mC (.int 1)))))))
 (ġ (Ŋ (Ą š (Ā 3) (Ą ĳ (Ą š (Ą ē (Ā 1) (mC (.int 1))) (Ą ē (Ā 0) (mC (.int 1)))) (Ą š (Ą ē (Ā 2) (mC (.int 0))) (Ą ē (Ā 0) (mC (.int 0)))))))))
def uy:MF:=Ĭ 3 4 Kg
def Uc:M Fl:=(Ě (Ĩ 2 (Ŋ (Ą ē (Ā 0) (mC (.int 0)))))
 (Ě (Ĩ 3 (Ŋ (Ą ē (Ā 0) (mC (.int 1)))))
 (Ě (Ĩ 4 (Ŋ (Ą ē (Ā 0) (mC (.int 2)))))
 (ġ (aJ (ă (Ď (ď uy (Ă 1 (Ă 3 (Ă 4 Ċ))))) (ă (Ď (ď uy (Ă 2 (Ă 1 (Ă 4 Ċ))))) (ă (Ď (ď uy (Ă 2 (Ă 3 (Ă 1 Ċ))))) Đ))))))))
def Qm:MF:=Ĭ 2 5 Uc
def Bo:M Fl:=(Ě (Ĩ 1 (Ŋ (aF nO (ă (Ā 0) Đ))))
 (ġ (Ŋ (eU (Ą aC (Ā 1) (mC (.int 0))) (aF pQ (ă (Ď (ĵ [1] 1 (ŋ 0) (gN 1) ĭ (Ą I_ (Ą ĳ (Ā 1) (Ā 0)) (mC (.int 0))))) Đ))))))
def uz:MF:=Ĭ 1 2 Bo
def Kh:M Fl:=(Ě (Ĩ 2 (Ŋ (Ą š (Ą ē (Ą ē (Ā 0) (mC (.int 1))) (mC (.int 0))) (Ą ē (Ą ē (Ā 0) (mC (.int 0))) (mC (.int 0))))))
 (Ě (Ĩ 3 (Ŋ (Ą š (Ą ē (Ą ē (Ā 0) (mC (.int 1))) (mC (.int 1))) (Ą ē (Ą ē (Ā 0) (mC (.int 0))) (mC (.int 1))))))
 (Ě (Ĩ 4 (ħ ĥ (Ą ĳ (Ā 2) (Ą š (Ą ē (Ā 1) (mC (.int 0))) (Ą ē (Ą ē (Ā 0) (mC (.int 0))) (mC (.int 0))))) (Ą ĳ (Ā 3) (Ą š (Ą ē (Ā 1) (mC (.int 1))) (Ą ē (Ą ē (Ā 0) (mC (.int 0))) (mC (.int 1)))))))
 (ġ (aJ (ă (Ą š (Ď (ħ ĥ (Ą ĳ (Ā 2) (Ā 2)) (Ą ĳ (Ā 3) (Ā 3)))) (Ā 4)) (ă (ĕ 4) Đ)))))))
def En:MF:=Ĭ 2 5 Kh
def vK:M Fl:=(Ě (Ĩ 4 (ď En (Ĕ (Ď (ĵ [0] 1 (ŋ 3) (gN 1) ĭ (Ą ē (Ā 0) (Ā 1)))) (Ă 1 Ċ))))
 (cG (aA (Ď (ď uz (Ă 4 Ċ))))
 (ġ (ď jU (Ă 4 (Ă 3 (Ă 2 Ċ)))))
 cY))
def vL:M Fl:=(Ě (Ĩ 4 (ď Qm (Ĕ (Ď (ĵ [0] 1 (ŋ 3) (gN 1) ĭ (Ą ē (Ā 0) (Ā 1)))) (Ă 1 Ċ))))
 (cG (aA (Ď (ď uz (Ă 4 Ċ))))
 (ġ (ď jU (Ă 4 (Ă 3 (Ă 2 Ċ)))))
 cY))
def vM:M Fl:=(Ě (Ĩ 2 (Ŋ (aF ų (ă (Ā 0) Đ))))
 (Ě (aV (ŗ (Ď (ď Em (Ă 2 Ċ)))) (gN 3) vL)
 (Ě (aV (ŗ (Ď (ď yI (Ă 2 Ċ)))) (gN 3) vK)
 (ġ (ď jU (Ĕ (Ď (aJ (ă (mC (.int 1)) Đ))) (Ĕ (Ď (aJ (ă (mC (.int 0)) Đ))) (Ă 2 Ċ))))))))
def uD:MF:=Ĭ 2 5 vM
def Bp:M Fl:=(Ě (Ĩ 2 (ď yH (Ă 0 (Ă 1 Ċ))))
 (Ě (cG (cu (Ą su (Ā 2) (mC .non)))
 (ġ (Ŋ (ŀ (ă (mC (.str "in")) (ă (Ď (ď uD (Ă 0 (Ă 1 Ċ)))) Đ)))))
 cY)
 (ġ (Ŋ (ŀ (ă (mC (.str "out")) (ă (ĕ 2) Đ)))))))
def yJ:MF:=Ĭ 2 3 Bp
def Kl:M Fl:=(ġ (Ŋ (ŀ (ă (Ď (ħ ĥ (Ą ĳ (Ą ē (Ā 1) (mC (.int 2))) (Ą ē (Ā 0) (mC (.int 0)))) (Ą ĳ (Ą ē (Ā 1) (mC (.int 0))) (Ą ē (Ā 0) (mC (.int 2)))))) (ă (Ď (ħ ĥ (Ą ĳ (Ą ē (Ā 1) (mC (.int 2))) (Ą ē (Ā 0) (mC (.int 1)))) (Ą ĳ (Ą ē (Ā 1) (mC (.int 1))) (Ą ē (Ā 0) (mC (.int 2)))))) Đ)))))
def qF:MF:=Ĭ 2 2 Kl
def Km:M Fl:=(ġ (aJ (ă (ŀ (ă (ĕ 0) (ă (ĕ 1) (ă (ĕ 4) Đ)))) (ă (ŀ (ă (ĕ 2) (ă (ĕ 1) (ă (ĕ 4) Đ)))) (ă (ŀ (ă (ĕ 2) (ă (ĕ 3) (ă (ĕ 4) Đ)))) (ă (ŀ (ă (ĕ 0) (ă (ĕ 3) (ă (ĕ 4) Đ)))) Đ))))))
def uE:MF:=Ĭ 5 5 Km
def Ud:M Fl:=(ġ (ħ ĥ (Ď (ď uE (Ă 0 (Ă 1 (Ă 2 (Ă 3 (Ĕ (mC (.int 0)) Ċ))))))) (Ď (ď uE (Ă 0 (Ă 1 (Ă 2 (Ă 3 (Ă 4 Ċ)))))))))
def Ko:MF:=Ĭ 5 5 Ud
def Kp:M Fl:=(Ě (Ĩ 1 (Ŋ (Ą ĳ (mC (.int 2)) (Ą ē (kW (aD ["Thing","Post","Fence","Sail","Cloth","House"] "numbers") (Ā 0)) (mC (.int 0))))))
 (Ě (Ĩ 2 (Ŋ (Ą ĳ (mC (.int 2)) (Ą ē (kW (aD ["Thing","Post","Fence","Sail","Cloth","House"] "numbers") (Ā 0)) (mC (.int 1))))))
 (ġ (ď Ko (Ĕ (Ą š (Ā 1) (mC (.int 1))) (Ĕ (Ą š (Ā 2) (mC (.int 1))) (Ĕ (Ď (ħ ĥ (Ā 1) (mC (.int 1)))) (Ĕ (Ď (ħ ĥ (Ā 2) (mC (.int 1)))) (Ĕ (Ą ē (kW (aD ["Thing","Post","Fence","Sail","Cloth","House"] "numbers") (Ā 0)) (mC (.int 2))) Ċ)))))))))
def mV:MF:=Ĭ 1 3 Kp
def Kq:M Fl:=(Ě (Ĩ 1 (Ŋ (kW (aD ["Thing","Post","Fence","Sail","Cloth","House"] "numbers") (Ā 0))))
 (Ě (Ĩ 2 (Ŋ (ŀ (ă (Ą ē (Ā 1) (mC (.int 0))) (ă (Ą ē (Ā 1) (mC (.int 1))) Đ)))))
 (Ě (Ĩ 3 (Ŋ (ŀ (ă (Ą ē (Ā 1) (mC (.int 2))) (ă (Ą ē (Ā 1) (mC (.int 3))) Đ)))))
 (ġ (aJ (ă (Ď (ħ ĥ (Ā 2) (ŀ (ă (mC (.int 0)) Đ)))) (ă (Ď (ħ ĥ (Ā 3) (ŀ (ă (mC (.int 0)) Đ)))) (ă (Ď (ħ ĥ (Ā 3) (ŀ (ă (Ą ē (Ā 1) (mC (.int 4))) Đ)))) (ă (Ď (ħ ĥ (Ā 2) (ŀ (ă (Ą ē (Ā 1) (mC (.int 4))) Đ)))) Đ)))))))))
def mW:MF:=Ĭ 1 4 Kq
def Kr:M Fl:=(Ě (Ĩ 1 (Ŋ (kW (aD ["Thing","Post","Fence","Sail","Cloth","House"] "numbers") (Ā 0))))
 (ġ (ď uE (Ĕ (Ą ē (Ā 1) (mC (.int 0))) (Ĕ (Ą ē (Ā 1) (mC (.int 1))) (Ĕ (Ą ē (Ā 1) (mC (.int 2))) (Ĕ (Ą ē (Ā 1) (mC (.int 3))) (Ĕ (Ą ē (Ā 1) (mC (.int 4))) Ċ))))))))
def mX:MF:=Ĭ 1 2 Kr
def Ue:M Fl:=(ġ (ĵ [0] 1 (ŗ (ŀ (ă (mC (.int 0)) (ă (mC (.int 3)) (ă (mC (.int 6)) Đ))))) (gN 1) ĭ (aF pP (ă (Ď (Q_ (kW (aD ["Thing","Post","Fence","Sail","Cloth","House"] "numbers") (Ā 0)) (mP (ĕ 1)) (mP (Ď (ħ ĥ (Ā 1) (mC (.int 3))))))) Đ))))
def yK:MF:=Ĭ 1 1 Ue
def Ks:M Fl:=(Ě (Ĩ 1 (Ŋ (kW (aD ["Thing","Post","Fence","Sail","Cloth","House"] "numbers") (Ā 0))))
 (ġ (ď Ko (Ĕ (Ą ē (Ā 1) (mC (.int 0))) (Ĕ (Ą ē (Ā 1) (mC (.int 1))) (Ĕ (Ą ē (Ā 1) (mC (.int 2))) (Ĕ (Ą ē (Ā 1) (mC (.int 3))) (Ĕ (Ą ē (Ā 1) (mC (.int 4))) Ċ))))))))
def mY:MF:=Ĭ 1 2 Ks
def Ku:M Fl:=(ġ (ĵ [1] 1 (ŗ (Ď (pX "corners" [("Post",mV),("Fence",mW),("Sail",mX),("Cloth",yK),("House",mY)] (ĕ 0) Ċ))) (gN 1) ĭ (Ď (ď qF (Ă 1 (Ă 0 Ċ))))))
def Eo:MF:=Ĭ 2 2 Ku
def Kv:M Fl:=(ġ (ď qF (Ĕ (ŀ (ă (Ą ĳ (mC (.int 2)) (Ą ē (Ā 0) (mC (.int 0)))) (ă (Ą ĳ (mC (.int 2)) (Ą ē (Ā 0) (mC (.int 1)))) (ă (mC (.int 0)) Đ)))) (Ă 1 Ċ))))
def Ep:MF:=Ĭ 2 2 Kv
def Kw:M Fl:=(ġ (ď yJ (Ĕ (Ď (ď Eo (Ă 0 (Ă 2 Ċ)))) (Ĕ (Ď (ď Ep (Ă 1 (Ă 2 Ċ)))) Ċ))))
def Er:MF:=Ĭ 3 3 Kw
def Bq:M Fl:=(ġ (Ŋ (Ą Ş (Ą ē (Ď (ď Er (Ă 0 (Ă 1 (Ă 2 Ċ))))) (mC (.int 0))) (mC (.str "in")))))
def uF:MF:=Ĭ 3 3 Bq
def vN:M Fl:=(cG (aA (Ď (ď uF (Ă 3 (Ă 2 (Ă 1 Ċ))))))
 (ġ (Ŋ (mC (.bl true))))
 cY)
def vO:M Fl:=(Ě (cG (cu (Ą su (Ā 1) (mC .non)))
 (ġ (Ŋ (mC (.bl true))))
 cY)
 (Ě (aV (ŗ (kW (aD ["Yard"] "things") (Ā 0))) (gN 3) vN)
 (ġ (Ŋ (mC (.bl false))))))
def gO:MF:=Ĭ 3 4 vO
def Ky:M Fl:=(Ě (xK (Ď (ď Ec (Ă 0 (Ă 2 Ċ)))))
 (Ě (xK (Ď (ď Ef (Ă 0 (Ă 1 Ċ)))))
 (ġ (ĵ [0,2] 2 (uh (mLs (Ď (ď ux (Ă 0 (Ă 1 Ċ)))))) (gT 2 (ę (gN 2) (ę (gN 3) ŏ))) (ao (aA (Ď (ď gO (Ă 0 (Ă 3 (Ă 1 Ċ))))))) (ĕ 2)))))
def qG:MF:=Ĭ 3 3 Ky
def vP:M Fl:=(Ě (Ĩ 9 (ĵ [0,7,3] 1 (Ľ Ō (ă (aF ų (ă (Ā 1) Đ)) Đ)) (gN 3) ĭ (Ď (ď qG (Ă 0 (Ă 3 (Ĕ (ŀ (ă (Ą ĩ (Ā 1) (Ā 2)) (ă (Ą ō (Ā 1) (Ā 2)) Đ))) Ċ)))))))
 (nJ 5 (Ď (ĵ [9] 3 (ŋ 4) (gT 3 (ę (gN 1) (ę (gN 2) (ę (gN 3) ŏ)))) ĭ (Ą aC (Ą (inD false) (Ā 2) (Ą ē (Ā 0) (Ā 1))) (Ą (inD false) (Ā 3) (Ą ē (Ā 0) (Ā 1))))))))
def qH:M Fl:=(vo 4 (ĵ [6,8] 1 (Ľ tW (ă (Ď (ħ ĥ (Ā 8) (mC (.int 1)))) (ă (aF ų (ă (Ą ē (Ā 1) (Ā 6)) Đ)) Đ))) (gN 2) ĭ (ŀ (ă (ĕ 0) (ă (ĕ 1) (ă (ĕ 2) Đ))))))
def qI:M Fl:=(aV (Ľ Ō (ă (aF ų (ă (Ą ē (Ā 1) (Ā 6)) Đ)) Đ)) (gN 8) qH)
def Kz:M Fl:=(Ě (Ĩ 4 (aJ Đ))
 (Ě (Ĩ 5 (aJ Đ))
 (Ě (aV (Ľ Ō (ă (aF ų (ă (Ā 1) Đ)) Đ)) (gN 6) qI)
 (Ě (aV (ŋ 2) (gN 7) vP)
 (ġ (Ŋ (ŀ (ă (ĕ 4) (ă (ĕ 5) Đ)))))))))
def yL:MF:=Ĭ 4 10 Kz
def KC:M Fl:=(cG (ao (cu (lJ jl nM (mC (.int 0)) (Ā 2) (Ą ĳ (kW (aD ["Yard"] "width") (Ā 0)) (kW (aD ["Yard"] "height") (Ā 0))))))
 Am
 cY)
def Ug:M Fl:=(aV (ŋ 1) (gN 2) KC)
def Qn:MF:=Ĭ 2 3 Ug
def yM:M Fl:=(vo 1 (ĵ [2,4] 1 (Ľ tW (ă (Ď (ħ ĥ (Ā 4) (mC (.int 1)))) (ă (ĕ 3) Đ))) (gN 2) ĭ (ŀ (ă (ĕ 0) (ă (ĕ 1) (ă (ĕ 2) Đ))))))
def yN:M Fl:=(Ě (Ĩ 3 (Ŋ (aF ų (ă (Ď (ď ux (Ă 0 (Ă 2 Ċ)))) Đ))))
 (aV (Ľ Ō (ă (ĕ 3) Đ)) (gN 4) yM))
def Uh:M Fl:=(Ě (Ĩ 1 (aJ Đ))
 (Ě (aV (Ľ Ō (ă (aF ų (ă (kW (aD ["Yard"] "days") (Ā 0)) Đ)) Đ)) (gN 2) yN)
 (ġ (bB 1))))
def Qo:MF:=Ĭ 1 5 Uh
def Br:M Fl:=(ġ (ĵ [1] 2 (uh (Gk 0)) (gT 2 (ę (gN 1) (ę (gN 2) ŏ))) (aA (Ą lN (Ą iT (Ā 0) (Ā 1)) (mC (.int 1)))) (ĕ 2)))
def iY:MF:=Ĭ 2 2 Br
def Bs:M Fl:=(ġ (Ŋ (JF [0] (aF nO (ă (Ď (ď iY (Ă 0 (Ă 1 Ċ)))) Đ)) (ă (Ā 1) Đ))))
def Es:MF:=Ĭ 2 2 Bs
def Et:M Fl:=(cG (ao (aA (Ą lN (Ą iT (Ā 0) (Ā 2)) (mC (.int 1)))))
 (ġ (bB 2))
 cY)
def KD:M Fl:=(Ě (aV (Ľ Ō (ă (ĕ 1) Đ)) (gN 2) Et)
 (ġ (Ŋ (mC .non))))
def Gu:MF:=Ĭ 2 3 KD
def Bt:M Fl:=(yc 3 (ĕ 4))
def KH:M Fl:=(Ě (Ĩ 3 (Ŋ (ĕ 2)))
 (Ě (aV (ŗ (Ď (ď iY (Ă 0 (Ă 1 Ċ))))) (gN 4) Bt)
 (ġ (bB 3))))
def yO:MF:=Ĭ 3 5 KH
def vQ:M Fl:=(Ě (Ĩ 4 (ĵ [2,1,3] 1 (Ľ Ō (ă (Ą tX (mC (.int 1)) (aF ų (ă (Ā 0) Đ))) Đ)) (gN 3) ĭ (Ď (ď Gu (Ĕ (Ď (ď yO (Ă 1 (Ă 3 (Ă 2 Ċ))))) (Ă 0 Ċ))))))
 (Ě (cG (cu (Ą oO (Ą ē (Ā 4) (kW gF (mC (.int 1)))) (mC .non)))
 (ġ (Ŋ (ŀ (ă (mC (.str "none")) (ă (Ą ē (Ā 4) (kW gF (mC (.int 1)))) Đ)))))
 cY)
 (Ě (Ĩ 5 (ď Es (Ă 0 (Ĕ (Ď (ĵ [] 2 (uh (Gk 4)) (gT 2 (ę (gN 0) (ę (gN 1) ŏ))) (cu (Ą su (Ā 1) (mC .non))) (ĕ 0))) Ċ))))
 (ġ (Ŋ (ŀ (ă (mC (.str "choice")) (ă (ĕ 5) (ă (aF nO (ă (Ď (ď iY (Ă 0 (Ă 5 Ċ)))) Đ)) (ă (ĕ 4) Đ))))))))))
def yP:MF:=Ĭ 4 6 vQ
def vR:M Fl:=(nJ 2 (Ď (ĵ [0,1] 1 (ŗ (Ď (ď ux (Ă 0 (Ă 3 Ċ))))) (gN 2) ĭ (Ď (ď gO (Ă 0 (Ă 2 (Ă 1 Ċ))))))))
def KJ:M Fl:=(Ě (Ĩ 2 (aJ Đ))
 (Ě (aV (Ľ Ō (ă (aF ų (ă (kW (aD ["Yard"] "days") (Ā 0)) Đ)) Đ)) (gN 3) vR)
 (ġ (bB 2))))
def Eu:MF:=Ĭ 2 4 KJ
def qJ:M Fl:=(cG (aA (Ā 3))
 (yc 1 (Ą tX (mC (.int 1)) (Ā 2)))
 cY)
def KN:M Fl:=(Ě (Ĩ 1 (Ŋ (mC (.int 0))))
 (Ě (aV (uh (Gk 0)) (gT 2 (ę (gN 2) (ę (gN 3) ŏ))) qJ)
 (ġ (bB 1))))
def Ew:MF:=Ĭ 1 4 KN
def KQ:M Fl:=(ġ (Ŋ (ŀ (ă (Ą ĩ (Ā 0) (Ā 1)) (ă (Ą ō (Ā 0) (Ā 1)) Đ)))))
def yQ:MF:=Ĭ 2 2 KQ
def KR:M Fl:=(Ě (Ĩ 3 (ď Eu (Ă 0 (Ĕ (Ď (ď yQ (Ă 1 (Ĕ (kW (aD ["Yard"] "width") (Ā 0)) Ċ)))) Ċ))))
 (ġ (ď Ew (Ĕ (Ď (ĵ [3] 3 (ŋ 2) (gT 3 (ę (gN 1) (ę (gN 2) (ę (gN 3) ŏ)))) ĭ (Ą aC (Ą ē (Ą ē (Ā 0) (Ā 1)) (Ā 2)) (Ą ē (Ą ē (Ā 0) (Ā 1)) (Ā 3))))) Ċ))))
def yR:MF:=Ĭ 3 4 KR
def Bu:M Fl:=(Ě (xK (Ď (ď Qn (Ă 0 (Ă 1 Ċ)))))
 (Ě (Ĩ 2 (ď Qo (Ă 0 Ċ)))
 (Ě (Ĩ 3 (ĵ [0,2] 1 (ŋ 1) (gN 2) ĭ (Ď (ď yR (Ă 0 (Ă 2 (Ă 1 Ċ)))))))
 (Ě (Ĩ 4 (qj yP [.sh (.int 0)] (Ĕ (Ď (ĵ [] 1 (ŋ 1) (gN 0) ĭ (mC (.int 1)))) (Ă 3 (Ĕ (aF ų (ă (Ā 2) Đ)) Ċ)))))
 (Ě (cG (cu (Ą Ş (Ą ē (Ā 4) (mC (.int 0))) (mC (.str "none"))))
 (ġ (ħ ĥ (ŀ (ă (mC (.str "alike")) Đ)) (Ą ē (Ā 2) (Ą ē (Ā 4) (mC (.int 1))))))
 cY)
 (ġ (bB 4)))))))
def qK:MF:=Ĭ 2 5 Bu
def KY:M Fl:=(ġ (Ŋ (eU (aF lQ (ă (Ā 0) (ă (mC (.ty "int")) Đ))) (Ge (aF lQ (ă (Ā 0) (ă (mC (.ty "bool")) Đ)))))))
def mZ:MF:=Ĭ 1 1 KY
def KZ:M Fl:=(ġ (Ŋ (aF nO (ă (Ď (ĵ [0] 1 (Ľ Ō (ă (ĕ 1) Đ)) (gN 1) ĭ (Ą ĩ (Ą iT (Ā 0) (Ā 1)) (mC (.int 2))))) Đ))))
def yS:MF:=Ĭ 2 2 KZ
def K_:M Fl:=(ġ (Ŋ (Ge (aF xW (ă (Ď (ĵ [2,1,0] 1 (Ľ Ō (ă (aF ų (ă (Ā 1) Đ)) Đ)) (gN 3) ĭ (eU (Ą Ş (Ą ĩ (Ą iT (Ā 2) (Ā 3)) (mC (.int 2))) (mC (.int 1))) (Ą ē (Ą ē (Ā 1) (Ā 3)) (Ā 0))))) Đ)))))
def m_:MF:=Ĭ 3 3 K_
def Bv:M Fl:=(Ě (cG (cu (Ą su (Ā 0) (mC .non)))
 (ġ (Ŋ (Ge (aF xW (ă (Ď (ĵ [1,2] 1 (Ľ Ō (ă (ĕ 3) Đ)) (gN 2) ĭ (Ď (ď m_ (Ă 0 (Ă 1 (Ă 2 Ċ))))))) Đ)))))
 cY)
 (Ě (cG (nH (ao (aA (Ď (ď mZ (Ă 0 Ċ))))) (nH (ao (cu (lJ jl nM (mC (.int 0)) (Ā 0) (Ā 3)))) (ao (aA (Ď (ď m_ (Ă 1 (Ă 2 (Ă 0 Ċ)))))))))
 (ġ (Ŋ (mC (.bl false))))
 cY)
 (ġ (Ŋ (Ge (aF xW (ă (Ď (ĵ [1,2] 1 (Ľ Ō (ă (ĕ 0) Đ)) (gN 2) ĭ (Ď (ď m_ (Ă 0 (Ă 1 (Ă 2 Ċ))))))) Đ)))))))
def uG:MF:=Ĭ 4 4 Bv
def qL:M Fl:=(Ě (cG (ao (aA (Ď (ď uG (Ĕ (Ą ē (Ā 8) (Ā 4)) (Ă 4 (Ă 1 (Ă 2 Ċ))))))))
 (ġ (Ŋ (mC (.bl false))))
 cY)
 (cG (jF (cu (Ą su (Ą ē (Ā 8) (Ā 4)) (mC .non))) (cu (Ą yD (ŀ (ă (Ď (ď yS (Ă 4 (Ă 3 Ċ)))) (ă (ĕ 4) Đ))) (ŀ (ă (ĕ 7) (ă (ĕ 6) Đ))))))
 (ġ (Ŋ (mC (.bl false))))
 cY))
def La:M Fl:=(Ě (Ao (gS 4 (ę (gN 5) (ę (gN 6) (ę (gN 7) (ę (gN 8) ŏ))))) (ĕ 0))
 (Ě (Ĩ 3 (Ŋ (aF ų (ă (Ā 1) Đ))))
 (Ě (cG (nH (cu (Ą aC (Ā 5) (mC (.str "choice")))) (nH (ao (aA (Ď (ď mZ (Ă 6 Ċ))))) (nH (ao (aA (Ď (ď mZ (Ă 7 Ċ))))) (ao (aA (aF lQ (ă (Ā 8) (ă (mC (.ty "list")) Đ))))))))
 (ġ (Ŋ (mC (.bl false))))
 cY)
 (Ě (cG (nH (cu (Ą aC (aF ų (ă (Ā 8) Đ)) (Ą tX (mC (.int 1)) (Ā 3)))) (nH (ao (cu (lJ jl nM (mC (.int 0)) (Ā 6) (aF ų (ă (Ā 8) Đ))))) (cu (Ą aC (Ā 7) (Ď (ď yS (Ă 6 (Ă 3 Ċ))))))))
 (ġ (Ŋ (mC (.bl false))))
 cY)
 (Ě (aV (Ľ Ō (ă (aF ų (ă (Ā 8) Đ)) Đ)) (gN 4) qL)
 (ġ (Ŋ (Ą su (Ą ē (Ā 8) (Ā 6)) (mC .non)))))))))
def yU:MF:=Ĭ 3 9 La
def Bw:M Fl:=(Ě (cG (cu (Ą nM (Ā 1) (aF ų (ă (Ā 0) Đ))))
 (ġ (Ŋ (Ą ē (Ā 0) (Ā 1))))
 cY)
 (ġ (Ŋ (mC (.int 0)))))
def bZ:MF:=Ĭ 2 2 Bw
def Lb:M Fl:=(Ě (Ĩ 0 (ħ ĥ (Ď (ħ ĥ (Ą ĩ (Ā 0) (mC (.int 1073741789))) (Ą ĳ (mC (.int 3)) (Ā 1)))) (mC (.int 1))))
 (Ě (Ao (gS 2 (ę (gN 2) (ę (gN 3) ŏ))) (aF jJ (ă (Ď (ħ ĥ (Ą ĳ (Ā 0) (mC (.int 40009))) (Ą ĳ (Ā 1) (mC (.int 5501))))) (ă (mC (.int 32749)) Đ))))
 (ġ (Ŋ (Ą ĩ (Ď (ħ ĥ (Ď (ħ ĥ (Ą ĳ (Ā 2) (Ā 2)) (Ą ĳ (Ā 3) (Ď (ħ ĥ (Ā 3) (mC (.int 613))))))) (Ā 1))) (mC (.int 1500450271)))))))
def yV:MF:=Ĭ 2 4 Lb
def mz:M Fl:=(cG (cu (Ą Ş (Ā 2) (mC (.int 0))))
 (Ě (nJ 3 (Ą ĩ (Ā 0) (Ą iR (mC (.int 10)) (mC (.int 6)))))
 (Ĩ 0 (Ŋ (Ą ō (Ā 0) (Ą iR (mC (.int 10)) (mC (.int 6)))))))
 (nJ 3 (Ď (ď yV (Ĕ (Ď (ħ ĥ (Ď (ď yV (Ă 0 (Ă 4 Ċ)))) (Ā 0))) (Ă 4 Ċ))))))
def Ld:M Fl:=(Ě (Ĩ 2 (Ŋ (Ą ĩ (Ā 0) (mC (.int 2)))))
 (Ě (Ĩ 0 (Ŋ (Ą ĩ (Ą ō (Ā 0) (mC (.int 2))) (Ą ĳ (Ą ĳ (Ą iR (mC (.int 10)) (mC (.int 60))) (Ą iR (mC (.int 10)) (mC (.int 60)))) (Ą iR (mC (.int 10)) (mC (.int 60)))))))
 (Ě (Ĩ 3 (aJ Đ))
 (Ě (aV (Ľ Ō (ă (ĕ 1) Đ)) (gN 4) mz)
 (ġ (bB 3))))))
def uH:MF:=Ĭ 2 5 Ld
def jr:M Fl:=(Ě (Ĩ 1 (ď uH (Ĕ (Ą ō (Ā 0) (mC (.int 5))) (Ĕ (mC (.int 9)) Ċ))))
 (Ě (Ao (gS 4 (ę (gN 3) (ę (gN 4) (ę (gN 5) (ę (gN 6) ŏ))))) (Ď (ĵ [] 1 (ŗ (Ď (Q_ (Ā 1) xT (mP (mC (.int 4)))))) (gN 0) ĭ (Ą š (Ą ĩ (Ā 0) (mC (.int 17))) (mC (.int 5))))))
 (Ě (Ĩ 2 (ħ ĥ (mC (.int 1)) (Ą ĩ (Ą ē (Ā 1) (mC (.int 4))) (mC (.int 6)))))
 (Ě (cG (cu (Ą Ş (Ą ĩ (Ā 0) (mC (.int 5))) (mC (.int 0))))
 (ġ (Ŋ (ŀ (ă (mC (.str "post")) (ă (Ď (aJ (ă (Ą ō (Ā 3) (mC (.int 2))) (ă (Ą ō (Ā 4) (mC (.int 2))) (ă (ĕ 2) Đ))))) Đ)))))
 cY)
 (Ě (cG (cu (Ą Ş (Ą ĩ (Ā 0) (mC (.int 5))) (mC (.int 1))))
 (ġ (Ŋ (ŀ (ă (mC (.str "fence")) (ă (Ď (aJ (ă (ĕ 3) (ă (ĕ 4) (ă (Ď (ħ ĥ (Ā 5) (aF Jq (ă (Ą Ş (ŀ (ă (ĕ 3) (ă (ĕ 4) Đ))) (ŀ (ă (ĕ 5) (ă (ĕ 6) Đ)))) Đ)))) (ă (ĕ 6) (ă (ĕ 2) Đ))))))) Đ)))))
 cY)
 (Ě (cG (cu (Ą Ş (Ą ĩ (Ā 0) (mC (.int 5))) (mC (.int 2))))
 (Ě (Ĩ 7 (aJ (ă (Ą š (Ą ĩ (Ą ē (Ā 1) (mC (.int 7))) (mC (.int 17))) (mC (.int 5))) (ă (Ą š (Ą ĩ (Ą ē (Ā 1) (mC (.int 8))) (mC (.int 17))) (mC (.int 5))) (ă (ĕ 2) Đ)))))
 (ġ (Ŋ (ŀ (ă (mC (.str "cloth")) (ă (Ď (ħ ĥ (Ď (aJ (ă (ĕ 3) (ă (ĕ 4) (ă (Ą ĩ (Ą ē (Ā 1) (mC (.int 5))) (mC (.int 7))) (ă (ĕ 5) (ă (ĕ 6) (ă (Ą ĩ (Ą ē (Ā 1) (mC (.int 6))) (mC (.int 7))) Đ)))))))) (Ā 7))) Đ))))))
 cY)
 (ġ (Ŋ (ŀ (ă (Ą ē (Ď (aJ (ă (mC (.str "sail")) (ă (mC (.str "house")) Đ)))) (Ą š (Ą ĩ (Ā 0) (mC (.int 5))) (mC (.int 3)))) (ă (Ď (aJ (ă (ĕ 3) (ă (ĕ 4) (ă (Ď (ħ ĥ (Ď (ħ ĥ (Ā 3) (mC (.int 1)))) (Ą ĩ (Ą ē (Ā 1) (mC (.int 2))) (mC (.int 4))))) (ă (Ď (ħ ĥ (Ď (ħ ĥ (Ā 4) (mC (.int 1)))) (Ą ĩ (Ą ē (Ā 1) (mC (.int 3))) (mC (.int 4))))) (ă (ĕ 2) Đ))))))) Đ)))))))))))
def gP:MF:=Ĭ 1 8 jr
def Le:M Fl:=(Ě (cG (nH (cu (Ą aC (Ą ē (Ā 0) (mC (.int 0))) (mC (.str "alike")))) (ao (aA (aF pQ (ă (Ď (ĵ [] 1 (ŗ (Ď (JM (Ā 0) (mP (mC (.int 1))) xT))) (gN 0) ĭ (Ď (ď mZ (Ă 0 Ċ))))) Đ)))))
 (ġ (Ŋ (mC (.bl false))))
 cY)
 (Ě (cG (cu (Ą (inD true) (Ď (JM (Ā 0) (mP (mC (.int 1))) xT)) (Ā 1)))
 (ġ (Ŋ (mC (.bl false))))
 cY)
 (ġ (ď uG (Ĕ (mBL jQ (Ā 1) (ă (Ď (JM (Ā 0) (mP (mC (.int 1))) xT)) Đ)) (Ĕ (Ą š (Ą tX (mC (.int 1)) (aF ų (ă (Ā 2) Đ))) (mC (.int 1))) (Ă 2 (Ĕ (aF ų (ă (Ā 1) Đ)) Ċ))))))))
def yW:MF:=Ĭ 3 3 Le
def qM:M Fl:=(cG (cu (Ą Ş (Ą ĩ (Ā 3) (mC (.int 8))) (mC (.int 7))))
 (nJ 2 (mC .non))
 (nJ 2 (ŀ (ă (Ą š (Ą ĩ (Ą ō (Ā 3) (mC (.int 8))) (mC (.int 7))) (mC (.int 3))) (ă (Ą š (Ą ĩ (Ą ō (Ā 3) (mC (.int 56))) (mC (.int 7))) (mC (.int 3))) (ă (Ď (ħ ĥ (mC (.int 1)) (Ą ĩ (Ą ō (Ā 3) (mC (.int 392))) (mC (.int 3))))) Đ))))))
def Lf:M Fl:=(Ě (Ĩ 2 (aJ Đ))
 (Ě (aV (ŗ (Ď (ď uH (Ă 0 (Ă 1 Ċ))))) (gN 3) qM)
 (ġ (bB 2))))
def Ey:MF:=Ĭ 2 4 Lf
def Lg:M Fl:=(ġ (Ŋ (lJ jl jl (kW gF (mC (.int (1000000000)))) (Ā 0) (mC (.int (1000000000))))))
def ni:MF:=Ĭ 1 1 Lg
def Li:M Fl:=(ġ (Ŋ (lJ jl jl (mC (.int 1)) (Ā 0) (mC (.int (1000000000))))))
def yX:MF:=Ĭ 1 1 Li
def Bx:M Fl:=(ġ (Ŋ (eU (Ą Ş (aF ų (ă (Ā 0) Đ)) (mC (.int 3))) (eU (Ď (ď ni (Ĕ (Ą ē (Ā 0) (mC (.int 0))) Ċ))) (eU (Ď (ď ni (Ĕ (Ą ē (Ā 0) (mC (.int 1))) Ċ))) (Ď (ď yX (Ĕ (Ą ē (Ā 0) (mC (.int 2))) Ċ))))))))
def yZ:MF:=Ĭ 1 1 Bx
def fH:M Fl:=(Ě (iV 0 ["Thing","Post","Fence","Sail","Cloth","House"] "word" (ĕ 1))
 (iV 0 ["Thing","Post","Fence","Sail","Cloth","House"] "numbers" (Ď (fW aK (ă (Ā 2) Đ)))))
def vU:MI:=cL 3 3 "Post" fH
def qN:MI:=cL 3 3 "Fence" fH
def vV:MI:=cL 3 3 "Sail" fH
def qO:MI:=cL 3 3 "Cloth" fH
def qP:MI:=cL 3 3 "House" fH
def BJ:M Fl:=(ġ (Ŋ (eU (Ą Ş (aF ų (ă (Ā 0) Đ)) (mC (.int 5))) (eU (aF pQ (ă (Ď (ĵ [] 1 (ŗ (Ď (Q_ (Ā 0) xT (mP (mC (.int 4)))))) (gN 0) ĭ (Ď (ď ni (Ă 0 Ċ))))) Đ)) (Ď (ď yX (Ĕ (Ą ē (Ā 0) (mC (.int 4))) Ċ)))))))
def uI:MF:=Ĭ 1 1 BJ
def BK:M Fl:=(ġ (Ŋ (eU (Ď (ď uI (Ă 0 Ċ))) (Ą aC (Ď (Q_ (Ā 0) xT (mP (mC (.int 2))))) (Ď (Q_ (Ā 0) (mP (mC (.int 2))) (mP (mC (.int 4)))))))))
def za:MF:=Ĭ 1 1 BK
def Lj:M Fl:=(ġ (Ŋ (eU (Ď (ď uI (Ă 0 Ċ))) (eU (Ą nM (Ą ē (Ā 0) (mC (.int 0))) (Ą ē (Ā 0) (mC (.int 2)))) (Ą nM (Ą ē (Ā 0) (mC (.int 1))) (Ą ē (Ā 0) (mC (.int 3))))))))
def Gv:MF:=Ĭ 1 1 Lj
def Ui:M Fl:=(ġ (Ŋ (eU (Ď (ď ni (Ĕ (Ą ē (Ā 0) (mC (.int 0))) Ċ))) (eU (Ď (ď ni (Ĕ (Ą ē (Ā 0) (mC (.int 1))) Ċ))) (lJ jl jl (mC (.int 0)) (Ą ē (Ā 0) (mC (.int 2))) (mC (.int (1000000000))))))))
def Qp:MF:=Ĭ 1 1 Ui
def BL:M Fl:=(ġ (Ŋ (eU (Ą Ş (aF ų (ă (Ā 0) Đ)) (mC (.int 9))) (aF pQ (ă (Ď (ĵ [0] 1 (ŗ (ŀ (ă (mC (.int 0)) (ă (mC (.int 3)) (ă (mC (.int 6)) Đ))))) (gN 1) ĭ (Ď (ď Qp (Ĕ (Ď (Q_ (Ā 0) (mP (ĕ 1)) (mP (Ď (ħ ĥ (Ā 1) (mC (.int 3))))))) Ċ))))) Đ)))))
def zc:MF:=Ĭ 1 1 BL
def jt:M Fl:=(Ě (cG (jF (cu (Ą Ş (Ā 0) (mC (.str "post")))) (aA (Ď (ď yZ (Ă 1 Ċ)))))
 (ġ (Ŋ (bK "Post" vU (Ă 0 (Ă 1 Ċ)))))
 cY)
 (Ě (cG (jF (cu (Ą Ş (Ā 0) (mC (.str "fence")))) (aA (Ď (ď za (Ă 1 Ċ)))))
 (ġ (Ŋ (bK "Fence" qN (Ă 0 (Ă 1 Ċ)))))
 cY)
 (Ě (cG (jF (cu (Ą Ş (Ā 0) (mC (.str "sail")))) (aA (Ď (ď Gv (Ă 1 Ċ)))))
 (ġ (Ŋ (bK "Sail" vV (Ă 0 (Ă 1 Ċ)))))
 cY)
 (Ě (cG (jF (cu (Ą Ş (Ā 0) (mC (.str "cloth")))) (aA (Ď (ď zc (Ă 1 Ċ)))))
 (ġ (Ŋ (bK "Cloth" qO (Ă 0 (Ă 1 Ċ)))))
 cY)
 (Ě (cG (jF (cu (Ą Ş (Ā 0) (mC (.str "house")))) (aA (Ď (ď Gv (Ă 1 Ċ)))))
 (ġ (Ŋ (bK "House" qP (Ă 0 (Ă 1 Ċ)))))
 cY)
 Am)))))
def dR:MF:=Ĭ 2 2 jt
def qQ:M Fl:=(nJ 4 (Ď (ď Ey (Ĕ (Ď (ď bZ (Ă 0 (Ĕ (Ď (ħ ĥ (mC (.int 6)) (Ā 5))) Ċ)))) (Ĕ (Ď (ħ ĥ (mC (.int 1)) (Ą ĩ (Ą ō (Ą ō (Ā 1) (mC (.int 216))) (Ď (ħ ĥ (Ā 5) (mC (.int 1))))) (mC (.int 5))))) Ċ)))))
def Lk:M Fl:=(Ě (Ĩ 1 (Ŋ (Ą ĩ (Ď (ď bZ (Ă 0 (Ĕ (mC (.int 0)) Ċ)))) (Ą iR (mC (.int 10)) (mC (.int 9))))))
 (Ě (Ĩ 2 (Ŋ (ŀ (ă (Ď (ħ ĥ (mC (.int 1)) (Ą ĩ (Ā 1) (mC (.int 4))))) (ă (Ď (ħ ĥ (mC (.int 1)) (Ą ĩ (Ą ō (Ā 1) (mC (.int 6))) (mC (.int 4))))) Đ)))))
 (Ě (Ĩ 3 (ĵ [0] 1 (Ľ Ō (ă (Ą ĩ (Ą ō (Ā 1) (mC (.int 36))) (mC (.int 3))) Đ)) (gN 1) ĭ (Ď (ď gP (Ĕ (Ď (ď bZ (Ă 0 (Ĕ (Ď (ħ ĥ (mC (.int 1)) (Ā 1))) Ċ)))) Ċ)))))
 (Ě (Ĩ 4 (aJ Đ))
 (Ě (aV (Ľ Ō (ă (Ď (ħ ĥ (mC (.int 1)) (Ą ĩ (Ą ō (Ā 1) (mC (.int 5000))) (mC (.int 2))))) Đ)) (gN 5) qQ)
 (Ě (cG (cu (Ą Ş (Ą ĩ (Ą ō (Ā 1) (mC (.int 90000))) (mC (.int 16))) (mC (.int 9))))
 (Ĩ 4 (aJ Đ))
 cY)
 (Ě (Ĩ 6 (ĵ [0,2] 1 (Ľ Ō (ă (Ą ĩ (Ą ō (Ā 1) (mC (.int 15000))) (mC (.int 6))) Đ)) (gN 2) ĭ (Ą ĩ (Ď (ď bZ (Ă 0 (Ĕ (Ď (ħ ĥ (mC (.int 9)) (Ā 2))) Ċ)))) (Ą ĳ (Ą ē (Ā 1) (mC (.int 0))) (Ą ē (Ā 1) (mC (.int 1)))))))
 (Ě (Ĩ 7 (ĵ [4] 1 (Ľ Ō (ă (aF ų (ă (Ā 4) Đ)) Đ)) (gN 1) ĭ (ŀ (ă (Ą ē (mC (.str "abc")) (Ā 1)) (ă (Ď (ħ ĥ (mC (.int 1)) (Ā 1))) (ă (Ď (fW aK (ă (Ą ē (Ā 0) (Ā 1)) Đ))) Đ))))))
 (Ě (Ĩ 8 (Ŋ (bK "Yard" jT (Ĕ (Ą ē (Ā 2) (mC (.int 0))) (Ĕ (Ą ē (Ā 2) (mC (.int 1))) (Ĕ (Ď (ĵ [] 2 (ŋ 3) (gT 2 (ę (gN 0) (ę (gN 1) ŏ))) ĭ (Ď (ď dR (Ă 0 (Ĕ (Ď (fW aK (ă (Ā 1) Đ))) Ċ)))))) (Ă 7 Ċ)))))))
 (Ě (Ao (gS 2 (ę (gN 10) (ę (gN 11) ŏ))) (Ď (ď yL (Ă 8 (Ă 4 (Ă 6 (Ĕ (Ą ē (Ā 2) (mC (.int 0))) Ċ)))))))
 (Ě (Ĩ 9 (ď qK (Ă 8 (Ĕ (Ď (fW aK (ă (Ā 6) Đ))) Ċ))))
 (Ě (cG (nH (ao (aA (aF lQ (ă (Ā 9) (ă (mC (.ty "tuple")) Đ))))) (cu (Ą aC (aF ų (ă (Ā 9) Đ)) (mC (.int 4)))))
 (ġ (Ŋ (mC (.bl false))))
 cY)
 (Ě (cG (cu (Ą Ş (Ą ē (Ā 9) (mC (.int 0))) (mC (.str "alike"))))
 (ġ (ď yW (Ă 9 (Ă 10 (Ă 11 Ċ)))))
 cY)
 (ġ (ď yU (Ă 9 (Ă 11 (Ĕ (aF ų (ă (Ā 10) Đ)) Ċ))))))))))))))))))
def qR:MF:=Ĭ 1 12 Lk
set_option genInjectivity false
set_option genSizeOf false
structure Lp where
 {Lq Uj Uk Ul Um Uo Uq Ur Us Ut Uu Uv Uw Ux Uy ZdI Uz UG UJ ZdJ UL UW U_ Va Vb Vc ZdK Lr Ls Lw Za3 Lx Vd Ve Vf Vg Vh Vi Vj ZdL ZdM Vk Ly ZdN Vl Vm Vn Vo Vp Vq Vr Vs Vt Vu Vv Vw Vx Vy Vz VB VD VF VG VH VJ nQ VL VN ZdO ZdP VP VR V_ BP vW BR vX BW vY vZ:Addr}
 {Wa Wb Wc Wd Wf Wg Wh Wi Wj Wk Wm Wn Wo Wq Wr ZdQ Ws Wt Wu ZdR Wv Ww Wx Wy Wz WD ZdS WK WL WM ZdT WQ WR WT WW WX WY W_ Xa ZdU ZdV Xb Xc ZdW Xd Xe Xf Xg Xh Xi Xj Xk Xl Xm Xn Xo Xp Xq Xr Xu Xv Xw Xx Xy Xz Gw XC XD ZdX ZdY XF XH Lz:FuncData}
 {sI wg:Tok}
def ĸ(a:Lp):String->Addr:=cmB a.BP a.vW a.BR a.vX a.BW a.vY a.vZ
structure Tx(K:PySem.W.Frag)(mg:Str->Option Value)(a:Lp):Prop where
 Za4:mg "Yard" =some (.ref a.BP)
 ZeJ:mg "Thing" =some (.ref a.vW)
 Za5:mg "Post" =some (.ref a.BR)
 Qq:mg "Fence" =some (.ref a.vX)
 Za6:mg "Sail" =some (.ref a.BW)
 Qs:mg "Cloth" =some (.ref a.vY)
 Qt:mg "House" =some (.ref a.vZ)
 fJ:Dm K a.BP "__init__" "Yard.__init__" Ri ["self","width","height","things","days"] a.Lq a.Wa
 nj:Df K mg "has_stone" Rj ["yard","stone"] a.Uj a.Wb
 iZ:Df K mg "check_stone" Rk ["yard","stone"] a.Uk a.Wc
 uJ:Df K mg "has_day" Rm ["yard","day"] a.Ul a.Wd
 nq:Df K mg "check_day" Rn ["yard","day"] a.Um a.Wf
 fj:Df K mg "turns_of" Ro ["yard","day"] a.Uo a.Wg
 nu:Df K mg "box_lines" Rq ["points"] a.Uq a.Wh
 nA:Df K mg "each_once" Rr ["points"] a.Ur a.Wi
 gQ:Df K mg "line_through" Rt ["one","other"] a.Us a.Wj
 wj:Df K mg "holds" Ru ["line","pair"] a.Ut a.Wk
 jV:Df K mg "edge_lines" Rv ["points"] a.Uu a.Wm
 i_:Df K mg "lines_about" Rw ["points"] a.Uv a.Wn
 gR:Df K mg "parting_line" Rx ["points","point"] a.Uw a.Wo
 cW:Df K mg "pairs_below" Ry ["many"] a.Ux a.Wq
 fK:Df K mg "triples_below" Rz ["many"] a.Uy a.Wr
 b_:Df K mg "greatest_divisor" Zdy ["one","other"] a.ZdI a.ZdQ
 wu:Df K mg "ratio" RD ["top","bottom"] a.Uz a.Ws
 jW:Df K mg "spread" RJ ["shares","places","many"] a.UG a.Wt
 jX:Df K mg "turned" RK ["one","other","third"] a.UJ a.Wu
 cO:Df K mg "shares_of_three" Zdz ["corners","point"] a.ZdJ a.ZdR
 cX:Df K mg "are_weights" RL ["shares"] a.UL a.Wv
 fL:Df K mg "shares_of_two" RM ["ends","point"] a.UW a.Ww
 jY:Df K mg "weights_of" RN ["points","point"] a.U_ a.Wx
 LC:Df K mg "held" RP ["points","point"] a.Va a.Wy
 BX:Df K mg "cast" RQ ["point","ray"] a.Vb a.Wz
 Ž:Df K mg "level_corners" RT ["x","y","u","v","z"] a.Vc a.WD
 bI:Df K mg "block_corners" ZdA ["x","y","u","v","h"] a.ZdK a.ZdS
 gU:Dm K a.BR "corners" "Post.corners" RW ["self"] a.Lr a.WK
 fM:Dm K a.vX "corners" "Fence.corners" RX ["self"] a.Ls a.WL
 gW:Dm K a.BW "corners" "Sail.corners" RZ ["self"] a.Lw a.WM
 fO:Dm K a.vY "corners" "Cloth.corners" ZdB ["self"] a.Za3 a.ZdT
 fP:Dm K a.vZ "corners" "House.corners" R_ ["self"] a.Lx a.WQ
 gY:Df K mg "corner_casts" Sd ["thing","ray"] a.Vd a.WR
 jZ:Df K mg "stone_cast" Sg ["stone","ray"] a.Ve a.WT
 uK:Df K mg "shading" Sh ["thing","stone","ray"] a.Vf a.WW
 zf:Df K mg "shades" Sq ["thing","stone","ray"] a.Vg a.WX
 mD:Df K mg "is_dark" Ss ["yard","turn","stone"] a.Vh a.WY
 nC:Df K mg "lit_turns" Sv ["yard","day","stone"] a.Vi a.W_
 jc:Df K mg "_law_parted" Sw ["_law_yard","_law_days","_law_numbers","_law_width"] a.Vj a.Xa
 fQ:Df K mg "check_numbers" ZdC ["yard","numbers"] a.ZdL a.ZdU
 dU:Df K mg "pairs_of_turns" ZdD ["yard"] a.ZdM a.ZdV
 j_:Df K mg "chosen" Sx ["values","choice"] a.Vk a.Xb
 qT:Df K mg "cheapest" JN ["prices","choices"] a.Ly a.Xc
 fU:Df K mg "least_missing" ZdE ["met","many"] a.ZdN a.ZdW
 zj:Df K mg "met_by" Sy ["covers","choice","base"] a.Vl a.Xd
 aM:Dp K mg "least_choice" SJ ["prices","covers","many","base"] 0 a.Vm a.Xe
 gZ:Df K mg "darks_by_day" SM ["yard","stone"] a.Vn a.Xf
 jd:Df K mg "set_of_true" SN ["truths"] a.Vo a.Xg
 qU:Df K mg "stone_at" SQ ["number","width"] a.Vp a.Xh
 fV:Df K mg "told_apart_by" SX ["yard","number","pairs"] a.Vq a.Xi
 Ez:Df K mg "watch" S_ ["yard","numbers"] a.Vr a.Xj
 aN:Df K mg "_law_whole" Tc ["_law_found"] a.Vs a.Xk
 g_:Df K mg "_law_size" Td ["_law_choice_here","_law_many"] a.Vt a.Xl
 cP:Df K mg "_law_left" Te ["_law_choice_here","_law_parted_here","_law_want"] a.Vu a.Xm
 fu:Df K mg "_law_entry" Tf ["_law_entry_here","_law_choice_here","_law_parted_here","_law_many"] a.Vv a.Xn
 je:Df K mg "_law_choice" Ti ["_law_found","_law_parted_here","_law_many"] a.Vw a.Xo
 bG:Df K mg "_law_cell" Tj ["_law_script","_law_at"] a.Vx a.Xp
 fB:Df K mg "_law_churn" Tn ["_law_number","_law_k"] a.Vy a.Xq
 ju:Df K mg "_law_row" Tp ["_law_cell_here","_law_many"] a.Vz a.Xr
 kh:Df K mg "_law_thing" Tq ["_law_cell_here"] a.VB a.Xu
 kj:Df K mg "_law_alike" Tr ["_law_found","_law_pairs","_law_parted_here"] a.VD a.Xv
 qW:Df K mg "_law_sky" Tt ["_law_cell_here","_law_many"] a.VF a.Xw
 aW:Df K mg "is_place" Tw ["number"] a.VG a.Xx
 h_:Df K mg "is_height" Tz ["number"] a.VH a.Xy
 kE:Df K mg "makes_post" TF ["numbers"] a.VJ a.Xz
 İ:Dm K a.vW "__init__" "Thing.__init__" ZdF ["self","word","numbers"] a.nQ a.Gw
 cg:Df K mg "has_two_ends" TJ ["numbers"] a.VL a.XC
 jf:Df K mg "makes_fence" TQ ["numbers"] a.VN a.XD
 ŧ:Df K mg "makes_sail_or_house" ZdG ["numbers"] a.ZdO a.ZdX
 cQ:Df K mg "is_cloth_corner" ZdH ["numbers"] a.ZdP a.ZdY
 jg:Df K mg "makes_cloth" TX ["numbers"] a.VP a.XF
 qX:Df K mg "thing_of" TY ["word","numbers"] a.VR a.XH
 LK:Df K mg "law" T_ ["_law_script"] a.V_ a.Lz
 jh:mg "MOST_HEIGHT" =some (.int (1000000000) a.sI)
 kI:mg "MOST_PLACE" =some (.int (1000000000) a.wg)
 ZdZ:mg "abs" =none
 zm:mg "all" =none
 LQ:mg "any" =none
 Za7:mg "bool" =none
 LR:mg "divmod" =none
 cR:mg "enumerate" =none
 XJ:mg "int" =none
 bN:mg "isinstance" =none
 ţ:mg "len" =none
 cj:mg "list" =none
 XM:mg "max" =none
 L_:mg "min" =none
 Ŀ:mg "range" =none
 zp:mg "sum" =none
 EY:mg "tuple" =none
 Zd0:mg "zip" =none
 wz:Cls K (ĸ a "Yard")
 Za8:Mk K (ĸ a "Yard") a.Lq
 wA:ļ K (ĸ a "Yard") "width"
 sJ:ļ K (ĸ a "Yard") "height"
 sO:ļ K (ĸ a "Yard") "things"
 zq:ļ K (ĸ a "Yard") "days"
 E_:Cls K (ĸ a "Thing")
 ZeK:Mk K (ĸ a "Thing") a.nQ
 wB:ļ K (ĸ a "Thing") "word"
 nR:ļ K (ĸ a "Thing") "numbers"
 BZ:Cls K (ĸ a "Post")
 Za9:Mk K (ĸ a "Post") a.nQ
 zu:ļ K (ĸ a "Post") "word"
 qY:ļ K (ĸ a "Post") "numbers"
 qZ:Meth K (ĸ a "Post") "corners" a.Lr
 wC:Cls K (ĸ a "Fence")
 Qu:Mk K (ĸ a "Fence") a.nQ
 wD:ļ K (ĸ a "Fence") "word"
 nU:ļ K (ĸ a "Fence") "numbers"
 nW:Meth K (ĸ a "Fence") "corners" a.Ls
 B_:Cls K (ĸ a "Sail")
 Za_:Mk K (ĸ a "Sail") a.nQ
 zx:ļ K (ĸ a "Sail") "word"
 q_:ļ K (ĸ a "Sail") "numbers"
 rm:Meth K (ĸ a "Sail") "corners" a.Lw
 wF:Cls K (ĸ a "Cloth")
 Qw:Mk K (ĸ a "Cloth") a.nQ
 wG:ļ K (ĸ a "Cloth") "word"
 nY:ļ K (ĸ a "Cloth") "numbers"
 nZ:Meth K (ĸ a "Cloth") "corners" a.Za3
 wH:Cls K (ĸ a "House")
 Qx:Mk K (ĸ a "House") a.nQ
 wI:ļ K (ĸ a "House") "word"
 n_:ļ K (ĸ a "House") "numbers"
 oh:Meth K (ĸ a "House") "corners" a.Lx
 Ca:ZaZ K "cheapest" a.Ly=true
def Z2v{K:PySem.W.Frag}{mg:Str->Option Value}{a:Lp}(T:Tx K mg a):mg "Yard" =some (.ref (ĸ a "Yard")):=T.Za4
def Z2w{K:PySem.W.Frag}{mg:Str->Option Value}{a:Lp}(T:Tx K mg a):mg "Post" =some (.ref (ĸ a "Post")):=T.Za5
def Z1X{K:PySem.W.Frag}{mg:Str->Option Value}{a:Lp}(T:Tx K mg a):mg "Fence" =some (.ref (ĸ a "Fence")):=T.Qq
def Z2x{K:PySem.W.Frag}{mg:Str->Option Value}{a:Lp}(T:Tx K mg a):mg "Sail" =some (.ref (ĸ a "Sail")):=T.Za6
def Z1Y{K:PySem.W.Frag}{mg:Str->Option Value}{a:Lp}(T:Tx K mg a):mg "Cloth" =some (.ref (ĸ a "Cloth")):=T.Qs
def Z1Z{K:PySem.W.Frag}{mg:Str->Option Value}{a:Lp}(T:Tx K mg a):mg "House" =some (.ref (ĸ a "House")):=T.Qt
def Zba:Č ["self","width","height","things","days"] ["self","width","height","things","days"] (Ć Ri):=Ŭ
def Zbb:Č ["yard","stone"] ["yard","stone"] (Ć Rj):=Ŭ
def Zbc:Č ["yard","stone"] ["yard","stone"] (Ć Rk):=Ŭ
def Zbd:Č ["yard","day"] ["yard","day"] (Ć Rm):=Ŭ
def Zbe:Č ["yard","day"] ["yard","day"] (Ć Rn):=Ŭ
def Zbf:Č ["yard","day"] ["yard","day"] (Ć Ro):=Ŭ
def Cd:Č ["points","rights","downs"] ["points"] (Ć Rq):=Ŭ
def Ce:Č ["points","kept","point"] ["points"] (Ć Rr):=Ŭ
def Cg:Č ["one","other","l","m"] ["one","other"] (Ć Rt):=Ŭ
def Zbg:Č ["line","pair"] ["line","pair"] (Ć Ru):=Ŭ
def mF:Č ["points","lines","apart","one","other","line"] ["points"] (Ć Rv):=Ŭ
def Zbh:Č ["points"] ["points"] (Ć Rw):=Ŭ
def Ma:Č ["points","point","line"] ["points","point"] (Ć Rx):=Ŭ
def Ci:Č ["many","pairs","second"] ["many"] (Ć Ry):=Ŭ
def Cj:Č ["many","triples","third"] ["many"] (Ć Rz):=Ŭ
def Fb:Č ["one","other","rest"] ["one","other"] (Ć Zdy):=Ŭ
def Ck:Č ["top","bottom","divisor"] ["top","bottom"] (Ć RD):=Ŭ
def rz:Č ["shares","places","many","whole","weights","share","place"] ["shares","places","many"] (Ć RJ):=Ŭ
def Mf:Č ["one","other","third","right"] ["one","other","third"] (Ć RK):=Ŭ
def Fd:Č ["corners","point","one","other","third"] ["corners","point"] (Ć Zdz):=Ŭ
def Mg:Č ["shares","whole"] ["shares"] (Ć RL):=Ŭ
def wJ:Č ["ends","point","right","down","gone"] ["ends","point"] (Ć RM):=Ŭ
def mG:Č ["points","point","many","places","shares"] ["points","point"] (Ć RN):=Ŭ
def Mh:Č ["points","point","line"] ["points","point"] (Ć RP):=Ŭ
def Zbi:Č ["point","ray"] ["point","ray"] (Ć RQ):=Ŭ
def Zbj:Č ["x","y","u","v","z"] ["x","y","u","v","z"] (Ć RT):=Ŭ
def Zd1:Č ["x","y","u","v","h"] ["x","y","u","v","h"] (Ć ZdA):=Ŭ
def Cm:Č ["self","right","down"] ["self"] (Ć RW):=Ŭ
def wK:Č ["self","given","one","other"] ["self"] (Ć RX):=Ŭ
def Mi:Č ["self","given"] ["self"] (Ć RZ):=Ŭ
def Zd2:Č ["self"] ["self"] (Ć ZdB):=Ŭ
def Mj:Č ["self","given"] ["self"] (Ć R_):=Ŭ
def Zbk:Č ["thing","ray"] ["thing","ray"] (Ć Sd):=Ŭ
def Zbl:Č ["stone","ray"] ["stone","ray"] (Ć Sg):=Ŭ
def Zbm:Č ["thing","stone","ray"] ["thing","stone","ray"] (Ć Sh):=Ŭ
def Zbn:Č ["thing","stone","ray"] ["thing","stone","ray"] (Ć Sq):=Ŭ
def Ml:Č ["yard","turn","stone","thing"] ["yard","turn","stone"] (Ć Ss):=Ŭ
def Zbo:Č ["yard","day","stone"] ["yard","day","stone"] (Ć Sv):=Ŭ
def jw:Č ["_law_yard","_law_days","_law_numbers","_law_width","_law_pairs","_law_found","_law_day","_law_number","_law_t","_law_lit"] ["_law_yard","_law_days","_law_numbers","_law_width"] (Ć Sw):=Ŭ
def XQ:Č ["yard","numbers","number"] ["yard","numbers"] (Ć ZdC):=Ŭ
def zy:Č ["yard","pairs","day","many","t"] ["yard"] (Ć ZdD):=Ŭ
def Zbp:Č ["values","choice"] ["values","choice"] (Ć Sx):=Ŭ
def Zbq:Č ["prices","choices"] ["prices","choices"] (Ć JN):=Ŭ
def XR:Č ["met","many","want"] ["met","many"] (Ć ZdE):=Ŭ
def wL:Č ["covers","choice","base","met","cover"] ["covers","choice","base"] (Ć Sy):=Ŭ
def Cp:Č ["prices","covers","many","base","paper","choice"] ["prices","covers","many","base"] (Ć SJ):=Ŭ
def Cq:Č ["yard","stone","darks","day"] ["yard","stone"] (Ć SM):=Ŭ
def rC:Č ["truths","bits","number","truth"] ["truths"] (Ć SN):=Ŭ
def Zbr:Č ["number","width"] ["number","width"] (Ć SQ):=Ŭ
def Mp:Č ["yard","number","pairs","darks"] ["yard","number","pairs"] (Ć SX):=Ŭ
def wM:Č ["yard","numbers","pairs","covers","told"] ["yard","numbers"] (Ć S_):=Ŭ
def Zbs:Č ["_law_found"] ["_law_found"] (Ć Tc):=Ŭ
def Zbt:Č ["_law_choice_here","_law_many"] ["_law_choice_here","_law_many"] (Ć Td):=Ŭ
def Zbu:Č ["_law_choice_here","_law_parted_here","_law_want"] ["_law_choice_here","_law_parted_here","_law_want"] (Ć Te):=Ŭ
def Zbv:Č ["_law_entry_here","_law_choice_here","_law_parted_here","_law_many"] ["_law_entry_here","_law_choice_here","_law_parted_here","_law_many"] (Ć Tf):=Ŭ
def jx:Č ["_law_found","_law_parted_here","_law_many","_law_stones","_law_k","_law_told","_law_choice_here","_law_price","_law_paper"] ["_law_found","_law_parted_here","_law_many"] (Ć Ti):=Ŭ
def Zbw:Č ["_law_script","_law_at"] ["_law_script","_law_at"] (Ć Tj):=Ŭ
def wN:Č ["_law_number","_law_k","_law_high","_law_low"] ["_law_number","_law_k"] (Ć Tn):=Ŭ
def mH:Č ["_law_cell_here","_law_many","_law_by","_law_found","_law_k"] ["_law_cell_here","_law_many"] (Ć Tp):=Ŭ
def ig:Č ["_law_cell_here","_law_numbers","_law_high","_law_x","_law_y","_law_u","_law_v","_law_last"] ["_law_cell_here"] (Ć Tq):=Ŭ
def Zbx:Č ["_law_found","_law_pairs","_law_parted_here"] ["_law_found","_law_pairs","_law_parted_here"] (Ć Tr):=Ŭ
def Cr:Č ["_law_cell_here","_law_many","_law_turns","_law_number"] ["_law_cell_here","_law_many"] (Ć Tt):=Ŭ
def Zby:Č ["number"] ["number"] (Ć Tw):=Ŭ
def Zbz:Č ["number"] ["number"] (Ć Tz):=Ŭ
def ZbA:Č ["numbers"] ["numbers"] (Ć TF):=Ŭ
def zA:Č ["self","word","numbers"] ["self","word","numbers"] (Ć ZdF):=Ŭ
def ZbB:Č ["numbers"] ["numbers"] (Ć TJ):=Ŭ
def ZbC:Č ["numbers"] ["numbers"] (Ć TQ):=Ŭ
def Zd3:Č ["numbers"] ["numbers"] (Ć ZdG):=Ŭ
def Zd4:Č ["numbers"] ["numbers"] (Ć ZdH):=Ŭ
def ZbD:Č ["numbers"] ["numbers"] (Ć TX):=Ŭ
def ZbE:Č ["word","numbers"] ["word","numbers"] (Ć TY):=Ŭ
def aX:Č ["_law_script","_law_first","_law_sides","_law_things","_law_days","_law_k","_law_numbers","_law_told","_law_yard","_law_found","_law_pairs","_law_parted_here"] ["_law_script"] (Ć T_):=Ŭ
section
variable{P:Program}{w:World}{K:PySem.W.Frag}{mg:Str->Option Value}{base:Heap}{a:Lp}
seal PE PT PW PA PS iD PG zB PI GF
def Zw(T:Tx K mg a):pU (λC=>Cls K (ĸ a C)/\ļ K (ĸ a C) "width") ["Yard"]:=⟨⟨T.wz,T.wA⟩,trivial⟩
def ZF(T:Tx K mg a):pU (λC=>Cls K (ĸ a C)/\ļ K (ĸ a C) "height") ["Yard"]:=⟨⟨T.wz,T.sJ⟩,trivial⟩
def Z00(T:Tx K mg a):pU (λC=>Cls K (ĸ a C)/\ļ K (ĸ a C) "things") ["Yard"]:=⟨⟨T.wz,T.sO⟩,trivial⟩
def Zs(T:Tx K mg a):pU (λC=>Cls K (ĸ a C)/\ļ K (ĸ a C) "days") ["Yard"]:=⟨⟨T.wz,T.zq⟩,trivial⟩
def Z7(T:Tx K mg a):pU (λC=>Cls K (ĸ a C)/\ļ K (ĸ a C) "numbers") ["Thing","Post","Fence","Sail","Cloth","House"]:=⟨⟨T.E_,T.nR⟩,⟨⟨T.BZ,T.qY⟩,⟨⟨T.wC,T.nU⟩,⟨⟨T.B_,T.q_⟩,⟨⟨T.wF,T.nY⟩,⟨⟨T.wH,T.n_⟩,trivial⟩⟩⟩⟩⟩⟩
def Zt(T:Tx K mg a):pU (λC=>Cls K (ĸ a C)/\ļ K (ĸ a C) "word") ["Thing","Post","Fence","Sail","Cloth","House"]:=⟨⟨T.E_,T.wB⟩,⟨⟨T.BZ,T.zu⟩,⟨⟨T.wC,T.wD⟩,⟨⟨T.B_,T.zx⟩,⟨⟨T.wF,T.wG⟩,⟨⟨T.wH,T.wI⟩,trivial⟩⟩⟩⟩⟩⟩
def Mq(T:Tx K mg a):Ġ P w K mg base ŝ 1 a.Lq a.Wa ["self","width","height","things","days"] (Nj ⟨K,ĸ a⟩ 5 "Yard" jT):=by
 refine fnI (cm:=ĸ a) (mb:=Bk) T.fJ.F Zba rfl rfl rfl λcdv A outer s H E hr=>?_
 have hu:=hr.units
 exact đ (aL ["Yard"] (Zw T) (pv 0) (v_var 1)) (đ (aL ["Yard"] (ZF T) (pv 0) (v_var 2)) (đ (aL ["Yard"] (Z00 T) (pv 0) (Ğ (sG bf bh T.cj PyProof.Rows.boot_list (Ē (ā 3) ĝ)))) (Ģ (aL ["Yard"] (Zs T) (pv 0) (Ğ (aP (Ų 4) (jH rfl (Ī ő (Ī ő (Ī ő aU)))) ĺ (Ļ (ą (v_var 0) (ą (v_var 1) (ą (Ğ (sG bf bh T.cj PyProof.Rows.boot_list (Ē (ā 2) ĝ))) ė))))))))))
def ZbF(T:Tx K mg a):Ġ P w K mg base ŝ 1 a.Uj a.Wb ["yard","stone"] (Ŕ ⟨K,ĸ a⟩ 2 Eb):=by
 refine ķ T.nj.F Zbb λ_ _ _ _ _ _ _ _=>?_
 exact ł (v_and (tQ dI iU dw iI ć (Į (ā 1) ć) (ğ (bD ["Yard"] (Zw T) (ā 0)))) (iQ (tQ dI iU dw iI ć (Į (ā 1) ć) (ğ (bD ["Yard"] (ZF T) (ā 0))))))
def ZbG(T:Tx K mg a):Ġ P w K mg base ŝ 2 a.Uk a.Wc ["yard","stone"] (Ŕ ⟨K,ĸ a⟩ 2 Ec):=by
 refine ķ T.iZ.F Zbc λ_ _ _ _ _ _ hr _=>?_
 exact Ģ (ş (bJ (ũ (ğ (Ğ (Ĉ (ZbF T) T.nj hr ċ (ĉ 0 (ĉ 1 č))))))) (Ģ jG) ı)
def ZbH(T:Tx K mg a):Ġ P w K mg base ŝ 1 a.Ul a.Wd ["yard","day"] (Ŕ ⟨K,ĸ a⟩ 2 Ed):=by
 refine ķ T.uJ.F Zbd λ_ _ _ _ _ _ _ _=>?_
 exact ł (tQ dI iU dw iI ć (ā 1) (ğ (Ŏ ņ Ň T.ţ PySem.boot_len (Ē (ğ (bD ["Yard"] (Zs T) (ā 0))) ĝ))))
def ZbI(T:Tx K mg a):Ġ P w K mg base ŝ 2 a.Um a.Wf ["yard","day"] (Ŕ ⟨K,ĸ a⟩ 2 Ef):=by
 refine ķ T.nq.F Zbe λ_ _ _ _ _ _ hr _=>?_
 exact Ģ (ş (bJ (ũ (ğ (Ğ (Ĉ (ZbH T) T.uJ hr ċ (ĉ 0 (ĉ 1 č))))))) (Ģ jG) ı)
def Cu(T:Tx K mg a):Ġ P w K mg base ŝ 1 a.Uo a.Wg ["yard","day"] (Ŕ ⟨K,ĸ a⟩ 2 ux):=by
 refine ķ T.fj.F Zbf λ_ _ _ _ _ _ _ _=>?_
 exact ł (Ř (Į (ğ (bD ["Yard"] (Zs T) (ā 0))) (ā 1)) ć)
def ZbJ(T:Tx K mg a):Ġ P w K mg base ŝ 1 a.Uq a.Wh ["points"] (Ŕ ⟨K,ĸ a⟩ 1 Eh):=by
 refine ķ T.nu.F Cd λ_ _ _ _ _ _ _ _=>?_
 exact đ (yG Cd (Ų 0) ő ĺ (Ř (ā 0) ć)) (đ (yG Cd (Ų 0) ő ĺ (Ř (ā 0) ć)) (Ł (Š (ą (Ļ (ą ň (ą ň (ą (Ŏ (Jr rfl) Jt T.XM PyProof.Rows.boot_max (Ē (ā 1) ĝ)) ė)))) (ą (Ļ (ą (xG gG gn ć) (ą ň (ą (xG gG gn (ğ (Ŏ (Js rfl) Ju T.L_ PyProof.Rows.boot_min (Ē (ā 1) ĝ)))) ė)))) (ą (Ļ (ą ň (ą ň (ą (Ŏ (Jr rfl) Jt T.XM PyProof.Rows.boot_max (Ē (ā 2) ĝ)) ė)))) (ą (Ļ (ą ň (ą (xG gG gn ć) (ą (xG gG gn (ğ (Ŏ (Js rfl) Ju T.L_ PyProof.Rows.boot_min (Ē (ā 2) ĝ)))) ė)))) ė)))))))
def ZbK(T:Tx K mg a):Ġ P w K mg base ŝ 1 a.Ur a.Wi ["points"] (Ŕ ⟨K,ĸ a⟩ 1 Ei):=by
 refine ķ T.nA.F Ce λ_ _ _ _ _ _ _ hu=>?_
 exact Ń Ce (Š ė) (đ (Ū PassesOwn.leaving rfl (Ų 0) (Ţ Ce) (Ģ (ş (dF vC (uq hu) (ā 2) (ā 1) (by with_unfolding_all rfl)) (Ģ (PS.wk (Ũ (cC PySem.F.plainAttrs_list PySem.F.slot_list_append PySem.F.type_list_append ś (pv 1) (ą (v_var 2) ė))) λ_ _ _ h=>bM h)) ı))) (Ł (cF 1)))
def ZbL(T:Tx K mg a):Ġ P w K mg base ŝ 1 a.Us a.Wj ["one","other"] (Ŕ ⟨K,ĸ a⟩ 2 Ej):=by
 refine ķ T.gQ.F Cg λ_ _ _ _ _ _ _ _=>?_
 exact Ń Cg (Ÿ (v_sub (Į (ā 1) ć) (Į (ā 0) ć))) (Ń Cg (Ÿ (v_sub (Į (ā 0) ć) (Į (ā 1) ć))) (ł (Ļ (ą (v_var 2) (ą (v_var 3) (ą (v_add (Ŵ (ā 2) (Į (ā 0) ć)) (Ŵ (ā 3) (Į (ā 0) ć))) ė))))))
def Mr(T:Tx K mg a):Ġ P w K mg base ŝ 1 a.Ut a.Wk ["line","pair"] (Ŕ ⟨K,ĸ a⟩ 2 qy):=by
 refine ķ T.wj.F Zbg λ_ _ _ _ _ _ _ _=>?_
 exact ł (fC dI dw (iW (Ŵ (Į (ā 0) ć) (Į (ā 1) ć)) (Ŵ (Į (ā 0) ć) (Į (ā 1) ć))) (Į (ā 0) ć) (Ŗ _))
def ZbM(T:Tx K mg a):Ġ P w K mg base ŝ 2 a.Uu a.Wm ["points"] (Ŕ ⟨K,ĸ a⟩ 1 Ek):=by
 refine ķ T.jV.F mF λ_ _ _ _ _ _ hr hu=>?_
 exact Ń mF (Š ė) (Ń mF (Ĉ (ZbK T) T.nA hr ċ (ĉ 0 č)) (đ (Ū PassesOwn.leaving rfl (Ų 2) (Ţ mF) (Ģ (Ū PassesOwn.leaving rfl (Ų 2) (Ţ mF) (Ń mF (Ĉ (ZbL T) T.gQ hr ċ (ĉ 3 (ĉ 4 č))) (Ģ (ş (PW.pt (w_and (Bj hu (ā 3) (ā 4)) (jk (ũ (ğ (Ŏ (pG rfl) pR T.zm PyProof.Rows.boot_all (Ē (ğ (Ğ (aP (Ų 2) ő ĺ (Ğ (Ĉ (Mr T) T.wj hr ċ (ĉ 0 (ĉ 1 č))))))) ĝ))))))) (Ģ (PS.wk (Ũ (cC PySem.F.plainAttrs_list PySem.F.slot_list_append PySem.F.type_list_append ś (pv 1) (ą (v_var 5) ė))) λ_ _ _ h=>bM h)) ı)))))) (Ł (cF 1))))
def ZbN(T:Tx K mg a):Ġ P w K mg base ŝ 3 a.Uv a.Wn ["points"] (Ŕ ⟨K,ĸ a⟩ 1 El):=by
 refine ķ T.i_.F Zbh λ_ _ _ _ _ _ hr _=>?_
 exact Ł (qu (ğ (Ğ (Ĉ (ZbJ T) T.nu hr ċ (ĉ 0 č)))) (ğ (Ğ (Ĉ (ZbM T) T.jV hr ċ (ĉ 0 č)))))
def ZbO(T:Tx K mg a):Ġ P w K mg base ŝ 4 a.Uw a.Wo ["points","point"] (Ŕ ⟨K,ĸ a⟩ 2 yH):=by
 refine ķ T.gR.F Ma λ_ _ _ _ _ _ hr _=>?_
 exact đ (Ū PassesOwn.leaving rfl (bV (Ğ (Ĉ (ZbN T) T.i_ hr ċ (ĉ 0 č)))) (Ţ Ma) (Ģ (ş (bJ (ũ (ğ (Ğ (Ĉ (Mr T) T.wj hr ċ (ĉ 2 (ĉ 1 č))))))) (Ł (cF 2)) ı))) (ł Dl)
def Ms(T:Tx K mg a):Ġ P w K mg base ŝ 1 a.Ux a.Wq ["many"] (Ŕ ⟨K,ĸ a⟩ 1 yI):=by
 refine ķ T.cW.F Ci λ_ _ _ _ _ _ _ _=>?_
 exact Ń Ci (Š ė) (đ (Ū PassesOwn.leaving rfl (Ĺ rfl T.Ŀ (ą (v_var 0) ė)) (Ţ Ci) (Ģ (PS.wk (Ũ (cC PySem.F.plainAttrs_list PySem.F.slot_list_extend PySem.F.type_list_extend iw (pv 1) (aG (aP (Ĺ rfl T.Ŀ (ą (v_var 2) ė)) ő ĺ (Ļ (ą (v_var 1) (ą (v_var 0) ė)))) eE))) λ_ _ _ h=>oU h))) (Ł (cF 1)))
def ZbP(T:Tx K mg a):Ġ P w K mg base ŝ 2 a.Uy a.Wr ["many"] (Ŕ ⟨K,ĸ a⟩ 1 Em):=by
 refine ķ T.fK.F Cj λ_ _ _ _ _ _ hr _=>?_
 exact Ń Cj (Š ė) (đ (Ū PassesOwn.leaving rfl (Ĺ rfl T.Ŀ (ą (v_var 0) ė)) (Ţ Cj) (Ģ (PS.wk (Ũ (cC PySem.F.plainAttrs_list PySem.F.slot_list_extend PySem.F.type_list_extend iw (pv 1) (aG (aP (bV (Ğ (Ĉ (Ms T) T.cW hr ċ (ĉ 2 č)))) ő ĺ (Ļ (ą (Ř (ā 1) ć) (ą (Ř (ā 1) ć) (ą (v_var 0) ė))))) eE))) λ_ _ _ h=>oU h))) (Ł (cF 1)))
def Zd5(T:Tx K mg a):Ġ P w K mg base ŝ 1 a.ZdI a.ZdQ ["one","other"] (Ŕ ⟨K,ĸ a⟩ 2 Ql):=by
 refine ķ T.b_.F Fb λ_ _ _ _ _ _ _ hu=>?_
 exact đ (Pk PassesOwn.leaving (Bj hu (ā 1) ć) (Ń Fb (Ÿ (v_mod (ā 0) (ā 1))) (Ń Fb (Ÿ (v_var 1)) (Ģ (JL Fb (Ÿ (v_var 2))))))) (ł (Ŏ Zat ZaM T.ZdZ PyProof.Rows.boot_abs (Ē (ā 0) ĝ)))
def Mt(T:Tx K mg a):Ġ P w K mg base ŝ 2 a.Uz a.Ws ["top","bottom"] (Ŕ ⟨K,ĸ a⟩ 2 mR):=by
 refine ķ T.wu.F Ck λ_ _ _ _ _ _ hr hu=>?_
 exact đ (ş (t_eq hu (ā 1) ć) (Ģ jG) ı) (Ń Ck (Ĉ (Zd5 T) T.b_ hr ċ (ĉ 0 (ĉ 1 č))) (đ (ş (dF iU iI (ā 1) ć (Ŗ _)) (Ģ (JL Ck (Ÿ (xG gG gn (ā 2))))) ı) (ł (Ļ (ą (jR (ā 0) (ā 2)) (ą (jR (ā 1) (ā 2)) ė))))))
def Cv(T:Tx K mg a):Ġ P w K mg base ŝ 3 a.UG a.Wt ["shares","places","many"] (Ŕ ⟨K,ĸ a⟩ 3 jU):=by
 refine ķ T.jW.F rz λ_ _ _ _ _ _ hr _=>?_
 exact Ń rz (Ÿ (Ŏ (pY rfl) pZ T.zp PyProof.Rows.boot_sum (Ē (ā 0) ĝ))) (đ (yG rz (Ĺ rfl T.Ŀ (ą (v_var 2) ė)) ő ĺ (Ğ (Ĉ (Mt T) T.wu hr ċ (Ę ň (ĉ 0 č))))) (đ (Ū PassesOwn.leaving rfl (Zdo rfl T.Zd0 (Rf 0) (Rf 1)) (jH rfl (Ī (Ţ rz) (Ī (Ţ rz) aU))) (Ģ (Pj (i:=4) (Ğ (Ĉ (Mt T) T.wu hr ċ (ĉ 5 (ĉ 3 č)))) (v_var 6) (pv 4)))) (Ł (cF 4))))
def Cw(T:Tx K mg a):Ġ P w K mg base ŝ 1 a.UJ a.Wu ["one","other","third"] (Ŕ ⟨K,ĸ a⟩ 3 uy):=by
 refine ķ T.jX.F Mf λ_ _ _ _ _ _ _ _=>?_
 exact Ń Mf (Ÿ (v_mul (qt (Į (ā 1) ć) (Į (ā 0) ć)) (qt (Į (ā 2) ć) (Į (ā 0) ć)))) (ł (v_sub (ā 3) (Ŵ (qt (Į (ā 1) ć) (Į (ā 0) ć)) (qt (Į (ā 2) ć) (Į (ā 0) ć)))))
def Zd6(T:Tx K mg a):Ġ P w K mg base ŝ 2 a.ZdJ a.ZdR ["corners","point"] (Ŕ ⟨K,ĸ a⟩ 2 Qm):=by
 refine ķ T.cO.F Fd λ_ _ _ _ _ _ hr _=>?_
 exact Ń Fd (Ÿ (Ř (ā 0) ć)) (Ń Fd (Ÿ (Ř (ā 0) ć)) (Ń Fd (Ÿ (Ř (ā 0) ć)) (Ł (Š (ą (Ğ (Ĉ (Cw T) T.jX hr ċ (ĉ 1 (ĉ 3 (ĉ 4 č))))) (ą (Ğ (Ĉ (Cw T) T.jX hr ċ (ĉ 2 (ĉ 1 (ĉ 4 č))))) (ą (Ğ (Ĉ (Cw T) T.jX hr ċ (ĉ 2 (ĉ 3 (ĉ 1 č))))) ė)))))))
def Mu(T:Tx K mg a):Ġ P w K mg base ŝ 1 a.UL a.Wv ["shares"] (Ŕ ⟨K,ĸ a⟩ 1 uz):=by
 refine ķ T.cX.F Mg λ_ _ _ _ _ _ _ hu=>?_
 exact Ń Mg (Ÿ (Ŏ (pY rfl) pZ T.zp PyProof.Rows.boot_sum (Ē (ā 0) ĝ))) (ł (v_and (fC xR (pD hu) (ā 1) ć (Ŗ _)) (iQ (Ŏ (pG rfl) pR T.zm PyProof.Rows.boot_all (Ē (ğ (Ğ (aP (Ų 0) ő ĺ (fC Zc5 ZcM (Ŵ (ā 1) (ā 0)) ć (Ŗ _))))) ĝ)))))
def ZbQ(T:Tx K mg a):Ġ P w K mg base ŝ 1 a.UW a.Ww ["ends","point"] (Ŕ ⟨K,ĸ a⟩ 2 En):=by
 refine ķ T.fL.F wJ λ_ _ _ _ _ _ _ _=>?_
 exact Ń wJ (Ÿ (v_sub (Į (Į (ā 0) ć) ć) (Į (Į (ā 0) ć) ć))) (Ń wJ (Ÿ (v_sub (Į (Į (ā 0) ć) ć) (Į (Į (ā 0) ć) ć))) (Ń wJ (qu (Ŵ (ā 2) (qt (Į (ā 1) ć) (Į (Į (ā 0) ć) ć))) (Ŵ (ā 3) (qt (Į (ā 1) ć) (Į (Į (ā 0) ć) ć)))) (Ł (Š (ą (v_sub (iW (Ŵ (ā 2) (ā 2)) (Ŵ (ā 3) (ā 3))) (ā 4)) (ą (v_var 4) ė))))))
def ZbR(T:Tx K mg a):Ġ P w K mg base ŝ 4 a.U_ a.Wx ["points","point"] (Ŕ ⟨K,ĸ a⟩ 2 uD):=by
 refine ķ T.jY.F mG λ_ _ _ _ _ _ hr _=>?_
 exact Ń mG (Ÿ (Ŏ ņ Ň T.ţ PySem.boot_len (Ē (ā 0) ĝ))) (đ (Ū PassesOwn.leaving rfl (bV (Ğ (Ĉ (ZbP T) T.fK hr ċ (ĉ 2 č)))) (Ţ mG) (Ń mG (Ĉ (Zd6 T) T.cO hr ċ (Ę (Ğ (aP (Ų 3) ő ĺ (Ř (ā 0) (ā 1)))) (ĉ 1 č))) (Ģ (ş (ũ (ğ (Ğ (Ĉ (Mu T) T.cX hr ċ (ĉ 4 č))))) (Ł (Ĉ (Cv T) T.jW hr ċ (ĉ 4 (ĉ 3 (ĉ 2 č))))) ı)))) (đ (Ū PassesOwn.leaving rfl (bV (Ğ (Ĉ (Ms T) T.cW hr ċ (ĉ 2 č)))) (Ţ mG) (Ń mG (Ĉ (ZbQ T) T.fL hr ċ (Ę (Ğ (aP (Ų 3) ő ĺ (Ř (ā 0) (ā 1)))) (ĉ 1 č))) (Ģ (ş (ũ (ğ (Ğ (Ĉ (Mu T) T.cX hr ċ (ĉ 4 č))))) (Ł (Ĉ (Cv T) T.jW hr ċ (ĉ 4 (ĉ 3 (ĉ 2 č))))) ı)))) (Ł (Ĉ (Cv T) T.jW hr ċ (Ę (Ğ (Š (ą ň ė))) (Ę (Ğ (Š (ą ň ė))) (ĉ 2 č)))))))
def ZbS(T:Tx K mg a):Ġ P w K mg base ŝ 5 a.Va a.Wy ["points","point"] (Ŕ ⟨K,ĸ a⟩ 2 yJ):=by
 refine ķ T.LC.F Mh λ_ _ _ _ _ _ hr _=>?_
 exact Ń Mh (Ĉ (ZbO T) T.gR hr ċ (ĉ 0 (ĉ 1 č))) (đ (ş (dF tY k_ (ā 2) qm (Ŗ _)) (ł (Ļ (ą gw (ą (Ğ (Ĉ (ZbR T) T.jY hr ċ (ĉ 0 (ĉ 1 č)))) ė)))) ı) (ł (Ļ (ą gw (ą (v_var 2) ė)))))
def Mv(T:Tx K mg a):Ġ P w K mg base ŝ 1 a.Vb a.Wz ["point","ray"] (Ŕ ⟨K,ĸ a⟩ 2 qF):=by
 refine ķ T.BX.F Zbi λ_ _ _ _ _ _ _ _=>?_
 exact ł (Ļ (ą (v_add (Ŵ (Į (ā 1) ć) (Į (ā 0) ć)) (Ŵ (Į (ā 1) ć) (Į (ā 0) ć))) (ą (v_add (Ŵ (Į (ā 1) ć) (Į (ā 0) ć)) (Ŵ (Į (ā 1) ć) (Į (ā 0) ć))) ė)))
def Cy(T:Tx K mg a):Ġ P w K mg base ŝ 1 a.Vc a.WD ["x","y","u","v","z"] (Ŕ ⟨K,ĸ a⟩ 5 uE):=by
 refine ķ T.Ž.F Zbj λ_ _ _ _ _ _ _ _=>?_
 exact Ł (Š (ą (Ļ (ą (v_var 0) (ą (v_var 1) (ą (v_var 4) ė)))) (ą (Ļ (ą (v_var 2) (ą (v_var 1) (ą (v_var 4) ė)))) (ą (Ļ (ą (v_var 2) (ą (v_var 3) (ą (v_var 4) ė)))) (ą (Ļ (ą (v_var 0) (ą (v_var 3) (ą (v_var 4) ė)))) ė)))))
def X_(T:Tx K mg a):Ġ P w K mg base ŝ 2 a.ZdK a.ZdS ["x","y","u","v","h"] (Ŕ ⟨K,ĸ a⟩ 5 Ko):=by
 refine ķ T.bI.F Zd1 λ_ _ _ _ _ _ hr _=>?_
 exact Ł (qu (ğ (Ğ (Ĉ (Cy T) T.Ž hr ċ (ĉ 0 (ĉ 1 (ĉ 2 (ĉ 3 (Ę ň č)))))))) (ğ (Ğ (Ĉ (Cy T) T.Ž hr ċ (ĉ 0 (ĉ 1 (ĉ 2 (ĉ 3 (ĉ 4 č)))))))))
def ZbT(T:Tx K mg a):Ġ P w K mg base ŝ 3 a.Lr a.WK ["self"] (Ŕ ⟨K,ĸ a⟩ 1 mV):=by
 refine ķ T.gU.F Cm λ_ _ _ _ _ _ hr _=>?_
 exact Ń Cm (Ÿ (v_mul ć (Į (ğ (bD ["Thing","Post","Fence","Sail","Cloth","House"] (Z7 T) (ā 0))) ć))) (Ń Cm (Ÿ (v_mul ć (Į (ğ (bD ["Thing","Post","Fence","Sail","Cloth","House"] (Z7 T) (ā 0))) ć))) (Ł (Ĉ (X_ T) T.bI hr ċ (Ę (v_sub (ā 1) ć) (Ę (v_sub (ā 2) ć) (Ę (v_add (ā 1) ć) (Ę (v_add (ā 2) ć) (Ę (Ř (ğ (bD ["Thing","Post","Fence","Sail","Cloth","House"] (Z7 T) (ā 0))) ć) č))))))))
def ZbU(T:Tx K mg a):Ġ P w K mg base ŝ 1 a.Ls a.WL ["self"] (Ŕ ⟨K,ĸ a⟩ 1 mW):=by
 refine ķ T.fM.F wK λ_ _ _ _ _ _ _ _=>?_
 exact Ń wK (Ÿ (bD ["Thing","Post","Fence","Sail","Cloth","House"] (Z7 T) (ā 0))) (Ń wK (Ÿ (Ļ (ą (Ř (ā 1) ć) (ą (Ř (ā 1) ć) ė)))) (Ń wK (Ÿ (Ļ (ą (Ř (ā 1) ć) (ą (Ř (ā 1) ć) ė)))) (Ł (Š (ą (v_add (ā 2) (ğ (Ļ (ą ň ė)))) (ą (v_add (ā 3) (ğ (Ļ (ą ň ė)))) (ą (v_add (ā 3) (ğ (Ļ (ą (Ř (ā 1) ć) ė)))) (ą (v_add (ā 2) (ğ (Ļ (ą (Ř (ā 1) ć) ė)))) ė))))))))
def ZbV(T:Tx K mg a):Ġ P w K mg base ŝ 2 a.Lw a.WM ["self"] (Ŕ ⟨K,ĸ a⟩ 1 mX):=by
 refine ķ T.gW.F Mi λ_ _ _ _ _ _ hr _=>?_
 exact Ń Mi (Ÿ (bD ["Thing","Post","Fence","Sail","Cloth","House"] (Z7 T) (ā 0))) (Ł (Ĉ (Cy T) T.Ž hr ċ (Ę (Ř (ā 1) ć) (Ę (Ř (ā 1) ć) (Ę (Ř (ā 1) ć) (Ę (Ř (ā 1) ć) (Ę (Ř (ā 1) ć) č)))))))
def Zd7(T:Tx K mg a):Ġ P w K mg base ŝ 1 a.Za3 a.ZdT ["self"] (Ŕ ⟨K,ĸ a⟩ 1 yK):=by
 refine ķ T.fO.F Zd2 λ_ _ _ _ _ _ _ _=>?_
 exact Ł (aP (bV (Ļ (ą ň (ą ň (ą ň ė))))) ő ĺ (Zdv Jh Ji T.EY PyProof.Rows.boot_tuple (Ē (ğ (Ğ (iy (ğ (bD ["Thing","Post","Fence","Sail","Cloth","House"] (Z7 T) (ā 0))) (bH (v_var 1)) (bH (v_add (ā 1) ć))))) ĝ)))
def ZbW(T:Tx K mg a):Ġ P w K mg base ŝ 3 a.Lx a.WQ ["self"] (Ŕ ⟨K,ĸ a⟩ 1 mY):=by
 refine ķ T.fP.F Mj λ_ _ _ _ _ _ hr _=>?_
 exact Ń Mj (Ÿ (bD ["Thing","Post","Fence","Sail","Cloth","House"] (Z7 T) (ā 0))) (Ł (Ĉ (X_ T) T.bI hr ċ (Ę (Ř (ā 1) ć) (Ę (Ř (ā 1) ć) (Ę (Ř (ā 1) ć) (Ę (Ř (ā 1) ć) (Ę (Ř (ā 1) ć) č)))))))
def ZbX(T:Tx K mg a):Ġ P w K mg base ŝ 4 a.Vd a.WR ["thing","ray"] (Ŕ ⟨K,ĸ a⟩ 2 Eo):=by
 refine ķ T.gY.F Zbk λ_ _ _ _ _ _ hr _=>?_
 exact Ł (aP (bV (Ğ (PK (Ni:= "corners") (k:=3) (n:=1) (iG:=[("Post",mV),("Fence",mW),("Sail",mX),("Cloth",yK),("House",mY)]) ⟨⟨T.BZ,_,_,_,T.qZ,(ZbT T).mono (by decide),T.gU.b,bU⟩,⟨⟨T.wC,_,_,_,T.nW,(ZbU T).mono (by decide),T.fM.b,bU⟩,⟨⟨T.B_,_,_,_,T.rm,(ZbV T).mono (by decide),T.gW.b,bU⟩,⟨⟨T.wF,_,_,_,T.nZ,(Zd7 T).mono (by decide),T.fO.b,bU⟩,⟨⟨T.wH,_,_,_,T.oh,(ZbW T).mono (by decide),T.fP.b,bU⟩,trivial⟩⟩⟩⟩⟩ hr.mo ċ (v_var 0)))) ő ĺ (Ğ (Ĉ (Mv T) T.BX hr ċ (ĉ 1 (ĉ 0 č)))))
def ZbY(T:Tx K mg a):Ġ P w K mg base ŝ 2 a.Ve a.WT ["stone","ray"] (Ŕ ⟨K,ĸ a⟩ 2 Ep):=by
 refine ķ T.jZ.F Zbl λ_ _ _ _ _ _ hr _=>?_
 exact Ł (Ĉ (Mv T) T.BX hr ċ (Ę (Ļ (ą (v_mul ć (Į (ā 0) ć)) (ą (v_mul ć (Į (ā 0) ć)) (ą ň ė)))) (ĉ 1 č)))
def ZbZ(T:Tx K mg a):Ġ P w K mg base ŝ 6 a.Vf a.WW ["thing","stone","ray"] (Ŕ ⟨K,ĸ a⟩ 3 Er):=by
 refine ķ T.uK.F Zbm λ_ _ _ _ _ _ hr _=>?_
 exact Ł (Ĉ (ZbS T) T.LC hr ċ (Ę (Ğ (Ĉ (ZbX T) T.gY hr ċ (ĉ 0 (ĉ 2 č)))) (Ę (Ğ (Ĉ (ZbY T) T.jZ hr ċ (ĉ 1 (ĉ 2 č)))) č)))
def Zb0(T:Tx K mg a):Ġ P w K mg base ŝ 7 a.Vg a.WX ["thing","stone","ray"] (Ŕ ⟨K,ĸ a⟩ 3 uF):=by
 refine ķ T.zf.F Zbn λ_ _ _ _ _ _ hr hu=>?_
 exact ł (v_eq hu (Į (ğ (Ğ (Ĉ (ZbZ T) T.uK hr ċ (ĉ 0 (ĉ 1 (ĉ 2 č)))))) ć) gK)
def Mw(T:Tx K mg a):Ġ P w K mg base ŝ 8 a.Vh a.WY ["yard","turn","stone"] (Ŕ ⟨K,ĸ a⟩ 3 gO):=by
 refine ķ T.mD.F Ml λ_ _ _ _ _ _ hr _=>?_
 exact đ (ş (dF tY k_ (ā 1) qm (Ŗ _)) (ł pI) ı) (đ (Ū PassesOwn.leaving rfl (bV (bD ["Yard"] (Z00 T) (ā 0))) (Ţ Ml) (Ģ (ş (ũ (ğ (Ğ (Ĉ (Zb0 T) T.zf hr ċ (ĉ 3 (ĉ 2 (ĉ 1 č))))))) (ł pI) ı))) (ł pI))
def Zb1(T:Tx K mg a):Ġ P w K mg base ŝ 9 a.Vi a.W_ ["yard","day","stone"] (Ŕ ⟨K,ĸ a⟩ 3 qG):=by
 refine ķ T.nC.F Zbo λ_ _ _ _ _ _ hr _=>?_
 exact đ (Al (Ğ (Ĉ (ZbG T) T.iZ hr ċ (ĉ 0 (ĉ 2 č))))) (đ (Al (Ğ (Ĉ (ZbI T) T.nq hr ċ (ĉ 0 (ĉ 1 č))))) (Ł (aP (vm rfl T.cR (Zgc (Ğ (Ĉ (Cu T) T.fj hr ċ (ĉ 0 (ĉ 1 č)))))) (jH rfl (Ī ő (Ī ő aU))) (Ax (bJ (ũ (ğ (Ğ (Ĉ (Mw T) T.mD hr ċ (ĉ 0 (ĉ 3 (ĉ 1 č))))))))) (v_var 2))))
def Zb2(T:Tx K mg a):Ġ P w K mg base ŝ 10 a.Vj a.Xa ["_law_yard","_law_days","_law_numbers","_law_width"] (Ŕ ⟨K,ĸ a⟩ 4 yL):=by
 refine ķ T.jc.F jw λ_ _ _ _ _ _ hr hu=>?_
 exact Ń jw (Š ė) (Ń jw (Š ė) (đ (Ū PassesOwn.leaving rfl (Ĺ rfl T.Ŀ (ą (Ŏ ņ Ň T.ţ PySem.boot_len (Ē (ā 1) ĝ)) ė)) (Ţ jw) (Ģ (Ū PassesOwn.leaving rfl (Ĺ rfl T.Ŀ (ą (Ŏ ņ Ň T.ţ PySem.boot_len (Ē (Į (ā 1) (ā 6)) ĝ)) ė)) (Ţ jw) (Ģ (PS.wk (Ũ (cC PySem.F.plainAttrs_list PySem.F.slot_list_extend PySem.F.type_list_extend iw (pv 4) (aG (aP (xM rfl T.Ŀ (ą (v_add (ā 8) ć) (ą (Ŏ ņ Ň T.ţ PySem.boot_len (Ē (Į (ā 1) (ā 6)) ĝ)) ė))) ő ĺ (Ļ (ą (v_var 0) (ą (v_var 1) (ą (v_var 2) ė))))) eE))) λ_ _ _ h=>oU h))))) (đ (Ū PassesOwn.leaving rfl (Ų 2) (Ţ jw) (Ń jw (aP (Ĺ rfl T.Ŀ (ą (Ŏ ņ Ň T.ţ PySem.boot_len (Ē (ā 1) ĝ)) ė)) ő ĺ (Ğ (Ĉ (Zb1 T) T.nC hr ċ (ĉ 0 (ĉ 3 (Ę (Ļ (ą (v_mod (ā 1) (ā 2)) (ą (jR (ā 1) (ā 2)) ė))) č)))))) (Ģ (PS.wk (Ũ (cC PySem.F.plainAttrs_list PySem.F.slot_list_append PySem.F.type_list_append ś (pv 5) (ą (Ğ (aP (Ų 4) (jH rfl (Ī ő (Ī ő (Ī ő aU)))) ĺ (fC xR (pD hu) (ğ (fC vC (JC hu) (ā 2) (Į (ā 0) (ā 1)) (by with_unfolding_all rfl))) (ğ (fC vC (JC hu) (ā 3) (Į (ā 0) (ā 1)) (by with_unfolding_all rfl))) (Ŗ _)))) ė))) λ_ _ _ h=>bM h)))) (ł (Ļ (ą (v_var 4) (ą (v_var 5) ė)))))))
def Zd8(T:Tx K mg a):Ġ P w K mg base ŝ 1 a.ZdL a.ZdU ["yard","numbers"] (Ŕ ⟨K,ĸ a⟩ 2 Qn):=by
 refine ķ T.fQ.F XQ λ_ _ _ _ _ _ _ _=>?_
 exact Ģ (Ū PassesOwn.leaving rfl (Ų 1) (Ţ XQ) (Ģ (ş (bJ (Iu dI iU dw iI ć (ā 2) (Ŵ (ğ (bD ["Yard"] (Zw T) (ā 0))) (ğ (bD ["Yard"] (ZF T) (ā 0)))))) (Ģ jG) ı)))
def Zd9(T:Tx K mg a):Ġ P w K mg base ŝ 2 a.ZdM a.ZdV ["yard"] (Ŕ ⟨K,ĸ a⟩ 1 Qo):=by
 refine ķ T.dU.F zy λ_ _ _ _ _ _ hr _=>?_
 exact Ń zy (Š ė) (đ (Ū PassesOwn.leaving rfl (Ĺ rfl T.Ŀ (ą (Ŏ ņ Ň T.ţ PySem.boot_len (Ē (ğ (bD ["Yard"] (Zs T) (ā 0))) ĝ)) ė)) (Ţ zy) (Ń zy (Ÿ (Ŏ ņ Ň T.ţ PySem.boot_len (Ē (ğ (Ğ (Ĉ (Cu T) T.fj hr ċ (ĉ 0 (ĉ 2 č))))) ĝ))) (Ģ (Ū PassesOwn.leaving rfl (Ĺ rfl T.Ŀ (ą (v_var 3) ė)) (Ţ zy) (Ģ (PS.wk (Ũ (cC PySem.F.plainAttrs_list PySem.F.slot_list_extend PySem.F.type_list_extend iw (pv 1) (aG (aP (xM rfl T.Ŀ (ą (v_add (ā 4) ć) (ą (v_var 3) ė))) ő ĺ (Ļ (ą (v_var 0) (ą (v_var 1) (ą (v_var 2) ė))))) eE))) λ_ _ _ h=>oU h)))))) (Ł (cF 1)))
def Cz(T:Tx K mg a):Ġ P w K mg base ŝ 1 a.Vk a.Xb ["values","choice"] (Ŕ ⟨K,ĸ a⟩ 2 iY):=by
 refine ķ T.j_.F Zbp λ_ _ _ _ _ _ _ _=>?_
 exact Ł (aP (vm rfl T.cR (Jx 0)) (jH rfl (Ī ő (Ī ő aU))) (Ax (ũ (ğ (ak Du Dv (ğ (ak uW uY (ā 0) (ā 1))) ć)))) (v_var 2))
def Zb3(T:Tx K mg a):Ġ P w K mg base ŝ 4 a.Ly a.Xc ["prices","choices"] (Ŕ ⟨K,ĸ a⟩ 2 Es):=by
 refine Zgn (cm:=ĸ a) (mb:=Bs) T.qT.F Zbq rfl rfl rfl T.Ca λcc Pt htb A outer s H E hr=>?_
 have hu:=hr.units
 exact ł (ZaY (k:=1) ["prices"] [0] (Ć JN) hr.mo rfl rfl (by simp[lams]) htb rfl rfl rfl T.L_ (Ē (ā 1) ĝ) (λ_ _ _ _ _ hr hu=>(Ŏ (pY rfl) pZ T.zp PyProof.Rows.boot_sum (Ē (ğ (Ğ (Ĉ (Cz T) T.j_ hr ċ (ĉ 0 (ĉ 1 č))))) ĝ))) ⟨rfl,⟨rfl,Or.inl rfl⟩,trivial⟩)
def Zd_(T:Tx K mg a):Ġ P w K mg base ŝ 1 a.ZdN a.ZdW ["met","many"] (Ŕ ⟨K,ĸ a⟩ 2 Gu):=by
 refine ķ T.fU.F XR λ_ _ _ _ _ _ _ _=>?_
 exact đ (Ū PassesOwn.leaving rfl (Ĺ rfl T.Ŀ (ą (v_var 1) ė)) (Ţ XR) (Ģ (ş (bJ (ũ (ğ (ak Du Dv (ğ (ak uW uY (ā 0) (ā 2))) ć)))) (Ł (cF 2)) ı))) (ł Dl)
def Zb4(T:Tx K mg a):Ġ P w K mg base ŝ 2 a.Vl a.Xd ["covers","choice","base"] (Ŕ ⟨K,ĸ a⟩ 3 yO):=by
 refine ķ T.zj.F wL λ_ _ _ _ _ _ hr _=>?_
 exact Ń wL (Ÿ (v_var 2)) (đ (Ū PassesOwn.leaving rfl (bV (Ğ (Ĉ (Cz T) T.j_ hr ċ (ĉ 0 (ĉ 1 č))))) (Ţ wL) (Ģ (Jy (i:=3) wL.nd rfl (Or.inl rfl) (v_var 4)))) (Ł (cF 3)))
def Zb5(T:Tx K mg a):Ġ P w K mg base ŝ 5 a.Vm a.Xe ["prices","covers","many","base"] (Ŕ ⟨K,ĸ a⟩ 4 yP):=by
 refine Zgo (cm:=ĸ a) (mb:=vQ) T.aM.F Cp rfl rfl rfl λcdv A outer s H E hr=>?_
 have hu:=hr.units
 exact đ (yG Cp (Ĺ rfl T.Ŀ (ą (ak uV uX ć (ğ (Ŏ ņ Ň T.ţ PySem.boot_len (Ē (ā 0) ĝ)))) ė)) ő ĺ (Ğ (Ĉ (Zd_ T) T.fU hr ċ (Ę (Ğ (Ĉ (Zb4 T) T.zj hr ċ (ĉ 1 (ĉ 3 (ĉ 2 č))))) (ĉ 0 č))))) (đ (ş (dF Jc NZ (Į (ā 4) (ğ (xG gG gn ć))) qm (Ŗ _)) (ł (Ļ (ą gw (ą (Ř (ā 4) (ğ (xG gG gn ć))) ė)))) ı) (Ń Cp (Ĉ (Zb3 T) T.qT hr ċ (ĉ 0 (Ę (Ğ (aP (vm rfl T.cR (Jx 4)) (jH rfl (Ī ő (Ī ő aU))) (Ax (dF tY k_ (ā 1) qm (Ŗ _))) (v_var 0))) č))) (ł (Ļ (ą gw (ą (v_var 5) (ą (Ŏ (pY rfl) pZ T.zp PyProof.Rows.boot_sum (Ē (ğ (Ğ (Ĉ (Cz T) T.j_ hr ċ (ĉ 0 (ĉ 5 č))))) ĝ)) (ą (v_var 4) ė))))))))
def Zb6(T:Tx K mg a):Ġ P w K mg base ŝ 9 a.Vn a.Xf ["yard","stone"] (Ŕ ⟨K,ĸ a⟩ 2 Eu):=by
 refine ķ T.gZ.F Cq λ_ _ _ _ _ _ hr _=>?_
 exact Ń Cq (Š ė) (đ (Ū PassesOwn.leaving rfl (Ĺ rfl T.Ŀ (ą (Ŏ ņ Ň T.ţ PySem.boot_len (Ē (ğ (bD ["Yard"] (Zs T) (ā 0))) ĝ)) ė)) (Ţ Cq) (Ģ (PS.wk (Ũ (cC PySem.F.plainAttrs_list PySem.F.slot_list_append PySem.F.type_list_append ś (pv 2) (ą (Ğ (aP (bV (Ğ (Ĉ (Cu T) T.fj hr ċ (ĉ 0 (ĉ 3 č))))) ő ĺ (Ğ (Ĉ (Mw T) T.mD hr ċ (ĉ 0 (ĉ 2 (ĉ 1 č))))))) ė))) λ_ _ _ h=>bM h))) (Ł (cF 2)))
def Zb7(T:Tx K mg a):Ġ P w K mg base ŝ 1 a.Vo a.Xg ["truths"] (Ŕ ⟨K,ĸ a⟩ 1 Ew):=by
 refine ķ T.jd.F rC λ_ _ _ _ _ _ _ _=>?_
 exact Ń rC (Ÿ ň) (đ (Ū PassesOwn.leaving rfl (vm rfl T.cR (Jx 0)) (jH rfl (Ī (Ţ rC) (Ī (Ţ rC) aU))) (Ģ (ş (ũ (ā 3)) (Ģ (Jy (i:=1) rC.nd rfl (Or.inl rfl) (ak uV uX ć (ā 2)))) ı))) (Ł (cF 1)))
def Zb8(T:Tx K mg a):Ġ P w K mg base ŝ 1 a.Vp a.Xh ["number","width"] (Ŕ ⟨K,ĸ a⟩ 2 yQ):=by
 refine ķ T.qU.F Zbr λ_ _ _ _ _ _ _ _=>?_
 exact ł (Ļ (ą (v_mod (ā 0) (ā 1)) (ą (jR (ā 0) (ā 1)) ė)))
def Zb9(T:Tx K mg a):Ġ P w K mg base ŝ 10 a.Vq a.Xi ["yard","number","pairs"] (Ŕ ⟨K,ĸ a⟩ 3 yR):=by
 refine ķ T.fV.F Mp λ_ _ _ _ _ _ hr hu=>?_
 exact Ń Mp (Ĉ (Zb6 T) T.gZ hr ċ (ĉ 0 (Ę (Ğ (Ĉ (Zb8 T) T.qU hr ċ (ĉ 1 (Ę (bD ["Yard"] (Zw T) (ā 0)) č)))) č))) (Ł (Ĉ (Zb7 T) T.jd hr ċ (Ę (Ğ (aP (Ų 2) (jH rfl (Ī ő (Ī ő (Ī ő aU)))) ĺ (fC xR (pD hu) (Į (Į (ā 0) (ā 1)) (ā 2)) (Į (Į (ā 0) (ā 1)) (ā 3)) (Ŗ _)))) č)))
def Zb_(T:Tx K mg a):Ġ P w K mg base ŝ 11 a.Vr a.Xj ["yard","numbers"] (Ŕ ⟨K,ĸ a⟩ 2 qK):=by
 refine ķ T.Ez.F wM λ_ _ _ _ _ _ hr hu=>?_
 exact đ (Al (Ğ (Ĉ (Zd8 T) T.fQ hr ċ (ĉ 0 (ĉ 1 č))))) (Ń wM (Ĉ (Zd9 T) T.dU hr ċ (ĉ 0 č)) (đ (yG wM (Ų 1) ő ĺ (Ğ (Ĉ (Zb9 T) T.fV hr ċ (ĉ 0 (ĉ 2 (ĉ 1 č)))))) (Ń wM (JK 0 T.aM.bd (Zb5 T) bU hr.mo rfl T.aM.m T.aM.F.kp ċ (Ę (Ğ (aP (Ų 1) ő ĺ ň)) (ĉ 3 (Ę (Ŏ ņ Ň T.ţ PySem.boot_len (Ē (ā 2) ĝ)) č)))) (đ (ş (t_eq hu (Į (ā 4) ć) gK) (Ł (qu (ğ (Ļ (ą gw ė))) (Į (ā 2) (Į (ā 4) ć)))) ı) (Ł (cF 4))))))
def wO(T:Tx K mg a):Ġ P w K mg base ŝ 1 a.Vs a.Xk ["_law_found"] (Ŕ ⟨K,ĸ a⟩ 1 mZ):=by
 refine ķ T.aN.F Zbs λ_ _ _ _ _ _ _ _=>?_
 exact ł (v_and (Ŏ vf vg T.bN PyProof.Rows.boot_isinstance (Ē (ā 0) (Ē (ğ (GK (.ty "int") (oE (v:=.ty "int") rfl T.XJ PyProof.Rows.boot_int rfl))) ĝ))) (iQ (v_not (Ŏ vf vg T.bN PyProof.Rows.boot_isinstance (Ē (ā 0) (Ē (ğ (GK (.ty "bool") (oE (v:=.ty "bool") rfl T.Za7 PyProof.Rows.boot_bool rfl))) ĝ))))))
def Mx(T:Tx K mg a):Ġ P w K mg base ŝ 1 a.Vt a.Xl ["_law_choice_here","_law_many"] (Ŕ ⟨K,ĸ a⟩ 2 yS):=by
 refine ķ T.g_.F Zbt λ_ _ _ _ _ _ _ _=>?_
 exact ł (Ŏ (pY rfl) pZ T.zp PyProof.Rows.boot_sum (Ē (ğ (Ğ (aP (Ĺ rfl T.Ŀ (ą (v_var 1) ė)) ő ĺ (v_mod (ğ (ak uW uY (ā 0) (ā 1))) ć)))) ĝ))
def CG(T:Tx K mg a):Ġ P w K mg base ŝ 1 a.Vu a.Xm ["_law_choice_here","_law_parted_here","_law_want"] (Ŕ ⟨K,ĸ a⟩ 3 m_):=by
 refine ķ T.cP.F Zbu λ_ _ _ _ _ _ _ hu=>?_
 exact ł (v_not (Ŏ (Ag rfl) Ay T.LQ PyProof.Rows.boot_any (Ē (ğ (Ğ (aP (Ĺ rfl T.Ŀ (ą (Ŏ ņ Ň T.ţ PySem.boot_len (Ē (ā 1) ĝ)) ė)) ő ĺ (v_and (v_eq hu (ż (ğ (ak uW uY (ā 2) (ā 3))) ć) ć) (iQ (Ř (Į (ā 1) (ā 3)) (ā 0))))))) ĝ)))
def Mz(T:Tx K mg a):Ġ P w K mg base ŝ 2 a.Vv a.Xn ["_law_entry_here","_law_choice_here","_law_parted_here","_law_many"] (Ŕ ⟨K,ĸ a⟩ 4 uG):=by
 refine ķ T.fu.F Zbv λ_ _ _ _ _ _ hr _=>?_
 exact đ (ş (dF tY k_ (ā 0) qm (Ŗ _)) (ł (v_not (Ŏ (Ag rfl) Ay T.LQ PyProof.Rows.boot_any (Ē (ğ (Ğ (aP (Ĺ rfl T.Ŀ (ą (v_var 3) ė)) ő ĺ (Ğ (Ĉ (CG T) T.cP hr ċ (ĉ 0 (ĉ 1 (ĉ 2 č)))))))) ĝ)))) ı) (đ (ş (PW.pt (w_or (bJ (ũ (ğ (Ğ (Ĉ (wO T) T.aN hr ċ (ĉ 0 č)))))) (w_or (bJ (Iu dI iU dw iI ć (ā 0) (ā 3))) (xJ (bJ (ũ (ğ (Ğ (Ĉ (CG T) T.cP hr ċ (ĉ 1 (ĉ 2 (ĉ 0 č)))))))))))) (ł pI) ı) (ł (v_not (Ŏ (Ag rfl) Ay T.LQ PyProof.Rows.boot_any (Ē (ğ (Ğ (aP (Ĺ rfl T.Ŀ (ą (v_var 0) ė)) ő ĺ (Ğ (Ĉ (CG T) T.cP hr ċ (ĉ 0 (ĉ 1 (ĉ 2 č)))))))) ĝ)))))
def Zca(T:Tx K mg a):Ġ P w K mg base ŝ 3 a.Vw a.Xo ["_law_found","_law_parted_here","_law_many"] (Ŕ ⟨K,ĸ a⟩ 3 yU):=by
 refine ķ T.je.F jx λ_ _ _ _ _ _ hr hu=>?_
 exact đ (Ds (v_var 0) (DY rfl (Ī (Ţ jx) (Ī (Ţ jx) (Ī (Ţ jx) (Ī (Ţ jx) aU)))))) (Ń jx (Ÿ (Ŏ ņ Ň T.ţ PySem.boot_len (Ē (ā 1) ĝ))) (đ (ş (PW.pt (w_or (Bj hu (ā 5) gK) (w_or (bJ (ũ (ğ (Ğ (Ĉ (wO T) T.aN hr ċ (ĉ 6 č)))))) (w_or (bJ (ũ (ğ (Ğ (Ĉ (wO T) T.aN hr ċ (ĉ 7 č)))))) (xJ (bJ (ũ (ğ (Ŏ vf vg T.bN PyProof.Rows.boot_isinstance (Ē (ā 8) (Ē (ğ (GK (.ty "list") (oE (v:=.ty "list") rfl T.cj PyProof.Rows.boot_list rfl))) ĝ))))))))))) (ł pI) ı) (đ (ş (PW.pt (w_or (Bj hu (ğ (Ŏ ņ Ň T.ţ PySem.boot_len (Ē (ā 8) ĝ))) (ğ (ak uV uX ć (ā 3)))) (w_or (bJ (Iu dI iU dw iI ć (ā 6) (ğ (Ŏ ņ Ň T.ţ PySem.boot_len (Ē (ā 8) ĝ))))) (xJ (Bj hu (ā 7) (ğ (Ğ (Ĉ (Mx T) T.g_ hr ċ (ĉ 6 (ĉ 3 č)))))))))) (ł pI) ı) (đ (Ū PassesOwn.leaving rfl (Ĺ rfl T.Ŀ (ą (Ŏ ņ Ň T.ţ PySem.boot_len (Ē (ā 8) ĝ)) ė)) (Ţ jx) (đ (ş (bJ (ũ (ğ (Ğ (Ĉ (Mz T) T.fu hr ċ (Ę (Ř (ā 8) (ā 4)) (ĉ 4 (ĉ 1 (ĉ 2 č))))))))) (ł pI) ı) (Ģ (ş (PW.pt (w_and (dF tY k_ (Į (ā 8) (ā 4)) qm (Ŗ _)) (jk (dF Za2 (Za1 hu) (ğ (Ļ (ą (Ğ (Ĉ (Mx T) T.g_ hr ċ (ĉ 4 (ĉ 3 č)))) (ą (v_var 4) ė)))) (ğ (Ļ (ą (v_var 7) (ą (v_var 6) ė)))) (Ŗ _))))) (ł pI) ı)))) (ł (fC tY k_ (Į (ā 8) (ā 6)) qm (Ŗ _)))))))
def wQ(T:Tx K mg a):Ġ P w K mg base ŝ 1 a.Vx a.Xp ["_law_script","_law_at"] (Ŕ ⟨K,ĸ a⟩ 2 bZ):=by
 refine ķ T.bG.F Zbw λ_ _ _ _ _ _ _ _=>?_
 exact đ (ş (dF iU iI (ā 1) (ğ (Ŏ ņ Ň T.ţ PySem.boot_len (Ē (ā 0) ĝ))) (Ŗ _)) (ł (Ř (ā 0) (ā 1))) ı) (ł ň)
def MJ(T:Tx K mg a):Ġ P w K mg base ŝ 1 a.Vy a.Xq ["_law_number","_law_k"] (Ŕ ⟨K,ĸ a⟩ 2 yV):=by
 refine ķ T.fB.F wN λ_ _ _ _ _ _ _ _=>?_
 exact Ń wN (qu (iW (ż (ā 0) ć) (Ŵ ć (ā 1))) ć) (đ (Ds (Ŏ Gg Gh T.LR PyProof.Rows.boot_divmod (Ē (iW (Ŵ (ā 0) ć) (Ŵ (ā 1) ć)) (Ē ć ĝ))) (DY rfl (Ī (Ţ wN) (Ī (Ţ wN) aU)))) (ł (v_mod (iW (iW (Ŵ (ā 2) (ā 2)) (Ŵ (ā 3) (iW (ā 3) ć))) (ā 1)) ć)))
def MK(T:Tx K mg a):Ġ P w K mg base ŝ 2 a.Vz a.Xr ["_law_cell_here","_law_many"] (Ŕ ⟨K,ĸ a⟩ 2 uH):=by
 refine ķ T.ju.F mH λ_ _ _ _ _ _ hr hu=>?_
 exact Ń mH (Ÿ (v_mod (ā 0) ć)) (Ń mH (Ÿ (v_mod (gM (ā 0) ć) (Ŵ (Ŵ (ğ (ak lM lF ć ć)) (ğ (ak lM lF ć ć))) (ğ (ak lM lF ć ć))))) (Ń mH (Š ė) (đ (Ū PassesOwn.leaving rfl (Ĺ rfl T.Ŀ (ą (v_var 1) ė)) (Ţ mH) (Ģ (ş (t_eq hu (ā 2) ć) (đ (PS.wk (Ũ (cC PySem.F.plainAttrs_list PySem.F.slot_list_append PySem.F.type_list_append ś (pv 3) (ą (v_mod (ā 0) (ğ (ak lM lF ć ć))) ė))) λ_ _ _ h=>bM h) (Ģ (JL mH (Ÿ (jR (ā 0) (ğ (ak lM lF ć ć))))))) (Ģ (PS.wk (Ũ (cC PySem.F.plainAttrs_list PySem.F.slot_list_append PySem.F.type_list_append ś (pv 3) (ą (Ğ (Ĉ (MJ T) T.fB hr ċ (Ę (v_add (ğ (Ğ (Ĉ (MJ T) T.fB hr ċ (ĉ 0 (ĉ 4 č))))) (ā 0)) (ĉ 4 č)))) ė))) λ_ _ _ h=>bM h))))) (Ł (cF 3)))))
def Zcb(T:Tx K mg a):Ġ P w K mg base ŝ 3 a.VB a.Xu ["_law_cell_here"] (Ŕ ⟨K,ĸ a⟩ 1 gP):=by
 refine ķ T.kh.F ig λ_ _ _ _ _ _ hr hu=>?_
 exact Ń ig (Ĉ (MK T) T.ju hr ċ (Ę (jR (ā 0) ć) (Ę ň č))) (đ (Ds (Ğ (aP (bV (Ğ (iy (ā 1) lO (bH ň)))) ő ĺ (v_sub (ż (ā 0) ć) ć))) (DY rfl (Ī (Ţ ig) (Ī (Ţ ig) (Ī (Ţ ig) (Ī (Ţ ig) aU)))))) (Ń ig (qu ć (ż (Į (ā 1) ć) ć)) (đ (ş (t_eq hu (ż (ā 0) ć) ć) (ł (Ļ (ą gw (ą (Ğ (Š (ą (jR (ā 3) ć) (ą (jR (ā 4) ć) (ą (v_var 2) ė))))) ė)))) ı) (đ (ş (t_eq hu (ż (ā 0) ć) ć) (ł (Ļ (ą gw (ą (Ğ (Š (ą (v_var 3) (ą (v_var 4) (ą (v_add (ā 5) (ğ (Zdv ZaQ ZaR T.XJ PyProof.Rows.boot_int (Ē (ğ (v_eq hu (ğ (Ļ (ą (v_var 3) (ą (v_var 4) ė)))) (ğ (Ļ (ą (v_var 5) (ą (v_var 6) ė)))))) ĝ)))) (ą (v_var 6) (ą (v_var 2) ė))))))) ė)))) ı) (đ (ş (t_eq hu (ż (ā 0) ć) ć) (Ń ig (Š (ą (v_sub (ż (Į (ā 1) ć) ć) ć) (ą (v_sub (ż (Į (ā 1) ć) ć) ć) (ą (v_var 2) ė)))) (ł (Ļ (ą gw (ą (v_add (ğ (Ğ (Š (ą (v_var 3) (ą (v_var 4) (ą (v_mod (Į (ā 1) ć) ć) (ą (v_var 5) (ą (v_var 6) (ą (v_mod (Į (ā 1) ć) ć) ė))))))))) (ā 7)) ė))))) ı) (ł (Ļ (ą (Ř (ğ (Ğ (Š (ą gw (ą gw ė))))) (qt (ż (ā 0) ć) ć)) (ą (Ğ (Š (ą (v_var 3) (ą (v_var 4) (ą (v_add (iW (ā 3) ć) (ż (Į (ā 1) ć) ć)) (ą (v_add (iW (ā 4) ć) (ż (Į (ā 1) ć) ć)) (ą (v_var 2) ė))))))) ė)))))))))
def Zcc(T:Tx K mg a):Ġ P w K mg base ŝ 3 a.VD a.Xv ["_law_found","_law_pairs","_law_parted_here"] (Ŕ ⟨K,ĸ a⟩ 3 yW):=by
 refine ķ T.kj.F Zbx λ_ _ _ _ _ _ hr hu=>?_
 exact đ (ş (PW.pt (w_or (Bj hu (Į (ā 0) ć) gK) (xJ (bJ (ũ (ğ (Ŏ (pG rfl) pR T.zm PyProof.Rows.boot_all (Ē (ğ (Ğ (aP (bV (Ğ (qw (ā 0) (bH ň) lO))) ő ĺ (Ğ (Ĉ (wO T) T.aN hr ċ (ĉ 0 č)))))) ĝ)))))))) (ł pI) ı) (đ (ş (dF vC (uq hu) (ğ (Ğ (qw (ā 0) (bH ň) lO))) (ā 1) (by with_unfolding_all rfl)) (ł pI) ı) (Ł (Ĉ (Mz T) T.fu hr ċ (Ę (Zdu PySem.F.plainAttrs_list PySem.F.slot_list_index PySem.F.type_list_index Gs (Gq hu) (ā 1) (Ē (ğ (Ğ (qw (ā 0) (bH ň) lO))) ĝ)) (Ę (v_sub (ğ (ak uV uX ć (ğ (Ŏ ņ Ň T.ţ PySem.boot_len (Ē (ā 2) ĝ))))) ć) (ĉ 2 (Ę (Ŏ ņ Ň T.ţ PySem.boot_len (Ē (ā 1) ĝ)) č)))))))
def Zcd(T:Tx K mg a):Ġ P w K mg base ŝ 3 a.VF a.Xw ["_law_cell_here","_law_many"] (Ŕ ⟨K,ĸ a⟩ 2 Ey):=by
 refine ķ T.qW.F Cr λ_ _ _ _ _ _ hr hu=>?_
 exact Ń Cr (Š ė) (đ (Ū PassesOwn.leaving rfl (bV (Ğ (Ĉ (MK T) T.ju hr ċ (ĉ 0 (ĉ 1 č))))) (Ţ Cr) (Ģ (ş (t_eq hu (ż (ā 3) ć) ć) (Ģ (PS.wk (Ũ (cC PySem.F.plainAttrs_list PySem.F.slot_list_append PySem.F.type_list_append ś (pv 2) (ą Dl ė))) λ_ _ _ h=>bM h)) (Ģ (PS.wk (Ũ (cC PySem.F.plainAttrs_list PySem.F.slot_list_append PySem.F.type_list_append ś (pv 2) (ą (Ļ (ą (v_sub (ż (gM (ā 3) ć) ć) ć) (ą (v_sub (ż (gM (ā 3) ć) ć) ć) (ą (v_add ć (ż (gM (ā 3) ć) ć)) ė)))) ė))) λ_ _ _ h=>bM h))))) (Ł (cF 2)))
def rD(T:Tx K mg a):Ġ P w K mg base ŝ 1 a.VG a.Xx ["number"] (Ŕ ⟨K,ĸ a⟩ 1 ni):=by
 refine ķ T.aW.F Zby λ_ _ _ _ _ _ _ _=>?_
 exact ł (tQ dI dI dw dw (ğ (xG gG gn (ğ (GK (.int 1000000000) (oA (v:=.int 1000000000) rfl T.kI ⟨_,rfl⟩))))) (ā 0) (ğ (GK (.int 1000000000) (oA (v:=.int 1000000000) rfl T.kI ⟨_,rfl⟩))))
def MN(T:Tx K mg a):Ġ P w K mg base ŝ 1 a.VH a.Xy ["number"] (Ŕ ⟨K,ĸ a⟩ 1 yX):=by
 refine ķ T.h_.F Zbz λ_ _ _ _ _ _ _ _=>?_
 exact ł (tQ dI dI dw dw ć (ā 0) (ğ (GK (.int 1000000000) (oA (v:=.int 1000000000) rfl T.jh ⟨_,rfl⟩))))
def Zce(T:Tx K mg a):Ġ P w K mg base ŝ 2 a.VJ a.Xz ["numbers"] (Ŕ ⟨K,ĸ a⟩ 1 yZ):=by
 refine ķ T.kE.F ZbA λ_ _ _ _ _ _ hr hu=>?_
 exact ł (v_and (v_eq hu (ğ (Ŏ ņ Ň T.ţ PySem.boot_len (Ē (ā 0) ĝ))) ć) (v_and (Ğ (Ĉ (rD T) T.aW hr ċ (Ę (Ř (ā 0) ć) č))) (v_and (Ğ (Ĉ (rD T) T.aW hr ċ (Ę (Ř (ā 0) ć) č))) (iQ (Ğ (Ĉ (MN T) T.h_ hr ċ (Ę (Ř (ā 0) ć) č)))))))
def MP(T:Tx K mg a):Ġ P w K mg base ŝ 1 a.nQ a.Gw ["self","word","numbers"] (Nj ⟨K,ĸ a⟩ 3 "Post" vU):=by
 refine fnI (cm:=ĸ a) (mb:=fH) T.İ.F zA rfl rfl rfl λcdv A outer s H E hr=>?_
 have hu:=hr.units
 exact đ (aL ["Thing","Post","Fence","Sail","Cloth","House"] (Zt T) (pv 0) (v_var 1)) (Ģ (aL ["Thing","Post","Fence","Sail","Cloth","House"] (Z7 T) (pv 0) (Ğ (sG bf bh T.cj PyProof.Rows.boot_list (Ē (ā 2) ĝ)))))
def Gx(T:Tx K mg a):Ġ P w K mg base ŝ 1 a.nQ a.Gw ["self","word","numbers"] (Nj ⟨K,ĸ a⟩ 3 "Fence" qN):=by
 refine fnI (cm:=ĸ a) (mb:=fH) T.İ.F zA rfl rfl rfl λcdv A outer s H E hr=>?_
 have hu:=hr.units
 exact đ (aL ["Thing","Post","Fence","Sail","Cloth","House"] (Zt T) (pv 0) (v_var 1)) (Ģ (aL ["Thing","Post","Fence","Sail","Cloth","House"] (Z7 T) (pv 0) (Ğ (sG bf bh T.cj PyProof.Rows.boot_list (Ē (ā 2) ĝ)))))
def M_(T:Tx K mg a):Ġ P w K mg base ŝ 1 a.nQ a.Gw ["self","word","numbers"] (Nj ⟨K,ĸ a⟩ 3 "Sail" vV):=by
 refine fnI (cm:=ĸ a) (mb:=fH) T.İ.F zA rfl rfl rfl λcdv A outer s H E hr=>?_
 have hu:=hr.units
 exact đ (aL ["Thing","Post","Fence","Sail","Cloth","House"] (Zt T) (pv 0) (v_var 1)) (Ģ (aL ["Thing","Post","Fence","Sail","Cloth","House"] (Z7 T) (pv 0) (Ğ (sG bf bh T.cj PyProof.Rows.boot_list (Ē (ā 2) ĝ)))))
def Gy(T:Tx K mg a):Ġ P w K mg base ŝ 1 a.nQ a.Gw ["self","word","numbers"] (Nj ⟨K,ĸ a⟩ 3 "Cloth" qO):=by
 refine fnI (cm:=ĸ a) (mb:=fH) T.İ.F zA rfl rfl rfl λcdv A outer s H E hr=>?_
 have hu:=hr.units
 exact đ (aL ["Thing","Post","Fence","Sail","Cloth","House"] (Zt T) (pv 0) (v_var 1)) (Ģ (aL ["Thing","Post","Fence","Sail","Cloth","House"] (Z7 T) (pv 0) (Ğ (sG bf bh T.cj PyProof.Rows.boot_list (Ē (ā 2) ĝ)))))
def Gz(T:Tx K mg a):Ġ P w K mg base ŝ 1 a.nQ a.Gw ["self","word","numbers"] (Nj ⟨K,ĸ a⟩ 3 "House" qP):=by
 refine fnI (cm:=ĸ a) (mb:=fH) T.İ.F zA rfl rfl rfl λcdv A outer s H E hr=>?_
 have hu:=hr.units
 exact đ (aL ["Thing","Post","Fence","Sail","Cloth","House"] (Zt T) (pv 0) (v_var 1)) (Ģ (aL ["Thing","Post","Fence","Sail","Cloth","House"] (Z7 T) (pv 0) (Ğ (sG bf bh T.cj PyProof.Rows.boot_list (Ē (ā 2) ĝ)))))
def Nb(T:Tx K mg a):Ġ P w K mg base ŝ 2 a.VL a.XC ["numbers"] (Ŕ ⟨K,ĸ a⟩ 1 uI):=by
 refine ķ T.cg.F ZbB λ_ _ _ _ _ _ hr hu=>?_
 exact ł (v_and (v_eq hu (ğ (Ŏ ņ Ň T.ţ PySem.boot_len (Ē (ā 0) ĝ))) ć) (v_and (Ŏ (pG rfl) pR T.zm PyProof.Rows.boot_all (Ē (ğ (Ğ (aP (bV (Ğ (iy (ā 0) lO (bH ň)))) ő ĺ (Ğ (Ĉ (rD T) T.aW hr ċ (ĉ 0 č)))))) ĝ)) (iQ (Ğ (Ĉ (MN T) T.h_ hr ċ (Ę (Ř (ā 0) ć) č))))))
def Zcf(T:Tx K mg a):Ġ P w K mg base ŝ 3 a.VN a.XD ["numbers"] (Ŕ ⟨K,ĸ a⟩ 1 za):=by
 refine ķ T.jf.F ZbC λ_ _ _ _ _ _ hr hu=>?_
 exact ł (v_and (Ğ (Ĉ (Nb T) T.cg hr ċ (ĉ 0 č))) (iQ (fC xR (pD hu) (ğ (Ğ (iy (ā 0) lO (bH ň)))) (ğ (Ğ (iy (ā 0) (bH ň) (bH ň)))) (Ŗ _))))
def Yb(T:Tx K mg a):Ġ P w K mg base ŝ 3 a.ZdO a.ZdX ["numbers"] (Ŕ ⟨K,ĸ a⟩ 1 Gv):=by
 refine ķ T.ŧ.F Zd3 λ_ _ _ _ _ _ hr _=>?_
 exact ł (v_and (Ğ (Ĉ (Nb T) T.cg hr ċ (ĉ 0 č))) (v_and (fC iU iI (Į (ā 0) ć) (Į (ā 0) ć) (Ŗ _)) (iQ (fC iU iI (Į (ā 0) ć) (Į (ā 0) ć) (Ŗ _)))))
def Zea(T:Tx K mg a):Ġ P w K mg base ŝ 2 a.ZdP a.ZdY ["numbers"] (Ŕ ⟨K,ĸ a⟩ 1 Qp):=by
 refine ķ T.cQ.F Zd4 λ_ _ _ _ _ _ hr _=>?_
 exact ł (v_and (Ğ (Ĉ (rD T) T.aW hr ċ (Ę (Ř (ā 0) ć) č))) (v_and (Ğ (Ĉ (rD T) T.aW hr ċ (Ę (Ř (ā 0) ć) č))) (iQ (tQ dI dI dw dw ć (Į (ā 0) ć) (ğ (GK (.int 1000000000) (oA (v:=.int 1000000000) rfl T.jh ⟨_,rfl⟩)))))))
def Zcg(T:Tx K mg a):Ġ P w K mg base ŝ 3 a.VP a.XF ["numbers"] (Ŕ ⟨K,ĸ a⟩ 1 zc):=by
 refine ķ T.jg.F ZbD λ_ _ _ _ _ _ hr hu=>?_
 exact ł (v_and (v_eq hu (ğ (Ŏ ņ Ň T.ţ PySem.boot_len (Ē (ā 0) ĝ))) ć) (iQ (Ŏ (pG rfl) pR T.zm PyProof.Rows.boot_all (Ē (ğ (Ğ (aP (bV (Ļ (ą ň (ą ň (ą ň ė))))) ő ĺ (Ğ (Ĉ (Zea T) T.cQ hr ċ (Ę (Ğ (iy (ā 0) (bH (v_var 1)) (bH (v_add (ā 1) ć)))) č)))))) ĝ))))
def Zch(T:Tx K mg a):Ġ P w K mg base ŝ 4 a.VR a.XH ["word","numbers"] (Ŕ ⟨K,ĸ a⟩ 2 dR):=by
 refine ķ T.qX.F ZbE λ_ _ _ _ _ _ hr hu=>?_
 exact đ (ş (PW.pt (w_and (t_eq hu (ā 0) gK) (jk (ũ (ğ (Ğ (Ĉ (Zce T) T.kE hr ċ (ĉ 1 č)))))))) (ł (lU T.Za9 (MP T) bQ hr.mo rfl (Z2w T) T.İ.b ċ (ĉ 0 (ĉ 1 č)))) ı) (đ (ş (PW.pt (w_and (t_eq hu (ā 0) gK) (jk (ũ (ğ (Ğ (Ĉ (Zcf T) T.jf hr ċ (ĉ 1 č)))))))) (ł (lU T.Qu (Gx T) bQ hr.mo rfl (Z1X T) T.İ.b ċ (ĉ 0 (ĉ 1 č)))) ı) (đ (ş (PW.pt (w_and (t_eq hu (ā 0) gK) (jk (ũ (ğ (Ğ (Ĉ (Yb T) T.ŧ hr ċ (ĉ 1 č)))))))) (ł (lU T.Za_ (M_ T) bQ hr.mo rfl (Z2x T) T.İ.b ċ (ĉ 0 (ĉ 1 č)))) ı) (đ (ş (PW.pt (w_and (t_eq hu (ā 0) gK) (jk (ũ (ğ (Ğ (Ĉ (Zcg T) T.jg hr ċ (ĉ 1 č)))))))) (ł (lU T.Qw (Gy T) bQ hr.mo rfl (Z1Y T) T.İ.b ċ (ĉ 0 (ĉ 1 č)))) ı) (đ (ş (PW.pt (w_and (t_eq hu (ā 0) gK) (jk (ũ (ğ (Ğ (Ĉ (Yb T) T.ŧ hr ċ (ĉ 1 č)))))))) (ł (lU T.Qx (Gz T) bQ hr.mo rfl (Z1Z T) T.İ.b ċ (ĉ 0 (ĉ 1 č)))) ı) (Ģ jG)))))
def Zci(T:Tx K mg a):Ġ P w K mg base ŝ 12 a.V_ a.Lz ["_law_script"] (Ŕ ⟨K,ĸ a⟩ 1 qR):=by
 refine ķ T.LK.F aX λ_ _ _ _ _ _ hr hu=>?_
 exact Ń aX (Ÿ (v_mod (ğ (Ğ (Ĉ (wQ T) T.bG hr ċ (ĉ 0 (Ę ň č))))) (ğ (ak lM lF ć ć)))) (Ń aX (Ÿ (Ļ (ą (v_add ć (ż (ā 1) ć)) (ą (v_add ć (ż (gM (ā 1) ć) ć)) ė)))) (đ (yG aX (Ĺ rfl T.Ŀ (ą (v_mod (gM (ā 1) ć) ć) ė)) ő ĺ (Ğ (Ĉ (Zcb T) T.kh hr ċ (Ę (Ğ (Ĉ (wQ T) T.bG hr ċ (ĉ 0 (Ę (v_add ć (ā 1)) č)))) č)))) (Ń aX (Š ė) (đ (Ū PassesOwn.leaving rfl (Ĺ rfl T.Ŀ (ą (v_add ć (ż (gM (ā 1) ć) ć)) ė)) (Ţ aX) (Ģ (PS.wk (Ũ (cC PySem.F.plainAttrs_list PySem.F.slot_list_append PySem.F.type_list_append ś (pv 4) (ą (Ğ (Ĉ (Zcd T) T.qW hr ċ (Ę (Ğ (Ĉ (wQ T) T.bG hr ċ (ĉ 0 (Ę (v_add ć (ā 5)) č)))) (Ę (v_add ć (ż (gM (gM (ā 1) ć) (iW (ā 5) ć)) ć)) č)))) ė))) λ_ _ _ h=>bM h))) (đ (ş (t_eq hu (ż (gM (ā 1) ć) ć) ć) (Ģ (JL aX (Š ė))) ı) (đ (yG aX (Ĺ rfl T.Ŀ (ą (v_mod (gM (ā 1) ć) ć) ė)) ő ĺ (v_mod (ğ (Ğ (Ĉ (wQ T) T.bG hr ċ (ĉ 0 (Ę (v_add ć (ā 2)) č))))) (Ŵ (Į (ā 1) ć) (Į (ā 1) ć)))) (đ (yG aX (Ĺ rfl T.Ŀ (ą (Ŏ ņ Ň T.ţ PySem.boot_len (Ē (ā 4) ĝ)) ė)) ő ĺ (Ļ (ą (Ř gK (ā 1)) (ą (v_add ć (ā 1)) (ą (Ğ (sG bf bh T.cj PyProof.Rows.boot_list (Ē (Į (ā 0) (ā 1)) ĝ))) ė))))) (Ń aX (Ÿ (lU T.Za8 (Mq T) bQ hr.mo rfl (Z2v T) T.fJ.b ċ (Ę (Ř (ā 2) ć) (Ę (Ř (ā 2) ć) (Ę (Ğ (aP (Ų 3) (jH rfl (Ī ő (Ī ő aU))) ĺ (Ğ (Ĉ (Zch T) T.qX hr ċ (ĉ 0 (Ę (Ğ (sG bf bh T.cj PyProof.Rows.boot_list (Ē (ā 1) ĝ))) č)))))) (ĉ 7 č)))))) (đ (Ds (Ğ (Ĉ (Zb2 T) T.jc hr ċ (ĉ 8 (ĉ 4 (ĉ 6 (Ę (Ř (ā 2) ć) č)))))) (DY rfl (Ī (Ţ aX) (Ī (Ţ aX) aU)))) (Ń aX (Ĉ (Zb_ T) T.Ez hr ċ (ĉ 8 (Ę (Ğ (sG bf bh T.cj PyProof.Rows.boot_list (Ē (ā 6) ĝ))) č))) (đ (ş (PW.pt (w_or (bJ (ũ (ğ (Ŏ vf vg T.bN PyProof.Rows.boot_isinstance (Ē (ā 9) (Ē (ğ (GK (.ty "tuple") (oE (v:=.ty "tuple") rfl T.EY PyProof.Rows.boot_tuple rfl))) ĝ)))))) (xJ (Bj hu (ğ (Ŏ ņ Ň T.ţ PySem.boot_len (Ē (ā 9) ĝ))) ć)))) (ł pI) ı) (đ (ş (t_eq hu (Į (ā 9) ć) gK) (Ł (Ĉ (Zcc T) T.kj hr ċ (ĉ 9 (ĉ 10 (ĉ 11 č))))) ı) (Ł (Ĉ (Zca T) T.je hr ċ (ĉ 9 (ĉ 11 (Ę (Ŏ ņ Ň T.ţ PySem.boot_len (Ē (ā 10) ĝ)) č)))))))))))))))))
end
def pt(p:Hu.Pt):PV:=.tup [.int p.1,.int p.2]
def fX(l:Hu.Ln):PV:=.tup [.int l.1,.int l.2.1,.int l.2.2]
def Sm(p:Hu.Pt):Prop:=-100000000000000000<=p.1/\p.1<=100000000000000000/\ -100000000000000000<=p.2/\p.2<=100000000000000000
def SmL(l:Hu.Ln):Prop:=-1000000000000000000<=l.1/\l.1<=1000000000000000000/\ -1000000000000000000<=l.2.1/\l.2.1<=1000000000000000000
def Z1v{x y:Hu.Pt}:eqB (pt y) (pt x)=decide (y=x):=by
 obtain⟨a,b⟩:=x
 obtain⟨c,d⟩:=y
 unfold pt
 rw[JD,Bool.eq_iff_iff]
 simp
def Z0r(x:Hu.Pt):ź (pt x)=true:=by simp[pt,ź,aB]
def Z0w(x:Hu.Pt):dep (pt x)=1:=by simp[pt,dep,uZ]
def Z2U(S:List Hu.Pt):aB (S.map pt)=true:=by
 induction S with
 |nil=>simp[aB]
 |cons p S ih=>simp[aB,Z0r,ih]
theorem Z1w(x:Hu.Pt):∀k:List Hu.Pt,(k.map pt).any (λy=>eqB y (pt x))=decide (x∈k)
 | []=>by simp
 |y::k=>by
  rw[List.map_cons,List.any_cons,Z1w x k,Z1v,Bool.eq_iff_iff]
  simp
  constructor
  ·rintro (e|e)
   ·exact .inl e.symm
   ·exact .inr e
  ·rintro (e|e)
   ·exact .inl e.symm
   ·exact .inr e
def Z0x(x:Hu.Pt)(k:List Hu.Pt):inD true (pt x) (.lst (k.map pt))=some (.bl (!decide (x∈k))):=by
 unfold inD
 simp only[Z0r,Z2U,Z0w,Z1w]
 rfl
def Z1e(x y:Hu.Pt):aC (pt x) (pt y)=some (.bl (!decide (x=y))):=by
 unfold aC rZ
 rw[Z0r,Z0r,Z0w,Z0w,Z1v]
 rfl
def Z2y{a b:Hu.Pt}(ha:Sm a)(hb:Sm b):Ej [.sh (pt a),.sh (pt b)]=.ret (.sh (fX (Hu.Z3 a b))):=by
 obtain⟨a1,a2,a3,a4⟩:=ha
 obtain⟨b1,b2,b3,b4⟩:=hb
 have m1:Ő (b.2-a.2) a.1=true:=bC (by omega) (by omega)
 have m2:Ő (a.1-b.1) a.2=true:=bC (by omega) (by omega)
 simp[Ej,J_,List.replicate,pt,fX,Hu.Z3,m1,m2]
def Z0y{l:Hu.Ln}(hl:SmL l)(p:Hu.Pt):qy [.sh (fX l),.sh (pt p)]=.ret (.sh (.bl (Hu.hd l p))):=by
 obtain⟨a1,a2,a3,a4⟩:=hl
 have m1:Ő l.1 p.1=true:=bC (by omega) (by omega)
 have m2:Ő l.2.1 p.2=true:=bC (by omega) (by omega)
 simp[qy,Ka,List.replicate,pt,fX,Hu.hd,m1,m2]
def Z10{a b:Hu.Pt}(ha:Sm a)(hb:Sm b):SmL (Hu.Z3 a b):=by
 obtain⟨a1,a2,a3,a4⟩:=ha
 obtain⟨b1,b2,b3,b4⟩:=hb
 simp only[SmL,Hu.Z3]
 omega
def Sl(s:P.Slot)(ps:List PV):Prop:=s=.sh (.lst ps)\/s=.bw ps
def Sl.lend{s:P.Slot}{ps:List PV}(h:Sl s ps):dG s=some s:=by rcases h with rfl|rfl<;>rfl
def Sl.it{s:P.Slot}{ps:List PV}(h:Sl s ps){i:Nat}{ρ:ń}(e:ρ[i]?=some s):ŋ i ρ=.ok ps ρ:= by
 rcases h with rfl|rfl<;>simp[e]
def Z2z{S:List Hu.Pt}{sl:P.Slot}(hs:Sl sl (S.map pt))(hl:S.length<=1000):Ei [sl]=.ret (.ow ((Hu.Z2 S).map pt)):=by
 have hlen:∀(xs k:List Hu.Pt),(xs.foldl (λk x=>if x∈k then k else k ++ [x]) k).length<=k.length+xs.length:=by
  intro xs
  induction xs with
  |nil=>intro k;simp
  |cons x xs ih=>
   intro k
   rw[List.foldl_cons]
   refine Nat.le_trans (ih _) ?_
   split
   ·simp
   ·simp;omega
 have key:∀(xs:List Hu.Pt) (k:List Hu.Pt) (s2:P.Slot),k.length+xs.length<=1000->∃s2',forL (gN 2) mj (xs.map pt) [sl,.ow (k.map pt),s2]=.ok .nx [sl,.ow ((xs.foldl (λk x=>if x∈k then k else k ++ [x]) k).map pt),s2']:=by
  intro xs
  induction xs with
  |nil=>intro k s2 _;exact⟨s2,rfl⟩
  |cons x xs ih=>
   intro k s2 hk
   rw[List.length_cons] at hk
   by_cases hx:x∈k
   ·obtain⟨s2',e⟩:=ih k (.sh (pt x)) (by omega)
    refine⟨s2',?_⟩
    have hb:mj [sl,.ow (k.map pt),.sh (pt x)]=.ok .nx [sl,.ow (k.map pt),.sh (pt x)]:=by simp[mj,Z0x,hx]
    rw[List.map_cons,List.foldl_cons,if_pos hx,forL]
    simp[hb,e]
   ·obtain⟨s2',e⟩:=ih (k ++ [x]) (.sh (pt x)) (by simp;omega)
    refine⟨s2',?_⟩
    have h3:k.length<16777216:=by omega
    have hb:mj [sl,.ow (k.map pt),.sh (pt x)]=.ok .nx [sl,.ow ((k ++ [x]).map pt),.sh (pt x)]:=by simp[mj,Z0x,hx,h3]
    rw[List.map_cons,List.foldl_cons,if_neg hx,forL]
    simp only[Jj,List.set_cons_succ,List.set_cons_zero,hb,Res.aH]
    exact e
 obtain⟨s2,e⟩:=key S [] .no (by simpa using hl)
 have hit:=hs.it (i:=0) (ρ:= [sl,.ow [],.no]) rfl
 simp only[List.map_nil] at e
 simp[Ei,JZ,List.replicate,-Az,hit,e]
 rfl
def Z1x(x:Int)(l:List Int):t_ [.lst ((x::l).map .int)]=some (.int (Hu.mx (x::l))):=by
 show((intsOf ((x::l).map .int)).bind (best max)).map PV.int=_
 rw[jm]
 rfl
def Z1y(x:Int)(l:List Int):uc [.lst ((x::l).map .int)]=some (.int (Hu.mn (x::l))):=by
 show((intsOf ((x::l).map .int)).bind (best min)).map PV.int=_
 rw[jm]
 rfl
def Z2V{S:List Hu.Pt}{sl:P.Slot}(hs:Sl sl (S.map pt))(h0:S≠[])(hl:S.length<=1000):Eh [sl]=.ret (.ow ((Hu.box S).map fX)):=by
 have c1:į (gN 0) ĭ (Ą ē (Ā 0) (mC (.int 0))) (S.map pt) [.no] []=some ((S.map (·.1)).map .int):=by
  have:=ī (g:=gN 0) (mt:=ĭ) (me:=Ą ē (Ā 0) (mC (.int 0))) pt (λp=>.int p.1) (λρ=>∃s,ρ=[s]) S [.no] [] ⟨_,rfl⟩ (by simp;omega) (by
   rintro x hx ρ ⟨s,rfl⟩
   exact⟨[.sh (pt x)],[.sh (pt x)],[.sh (pt x)],by simp,by simp,by simp[pt],_,rfl⟩)
  rw[this]
  simp
 have c2:į (gN 0) ĭ (Ą ē (Ā 0) (mC (.int 1))) (S.map pt) [.no] []=some ((S.map (·.2)).map .int):=by
  have:=ī (g:=gN 0) (mt:=ĭ) (me:=Ą ē (Ā 0) (mC (.int 1))) pt (λp=>.int p.2) (λρ=>∃s,ρ=[s]) S [.no] [] ⟨_,rfl⟩ (by simp;omega) (by
   rintro x hx ρ ⟨s,rfl⟩
   exact⟨[.sh (pt x)],[.sh (pt x)],[.sh (pt x)],by simp,by simp,by simp[pt],_,rfl⟩)
  rw[this]
  simp
 obtain⟨p,R,rfl⟩:=List.exists_cons_of_ne_nil h0
 have x1:=Z1x p.1 (R.map (·.1))
 have x2:=Z1y p.1 (R.map (·.1))
 have x3:=Z1x p.2 (R.map (·.2))
 have x4:=Z1y p.2 (R.map (·.2))
 have hit:∀s1 s2,ŋ 0 [sl,s1,s2]=.ok ((p::R).map pt) [sl,s1,s2]:=λs1 s2=>hs.it rfl
 have b:(Hu.box (p::R)).map fX=[.tup [.int 1,.int 0,.int (Hu.mx (p.1::R.map (·.1)))],.tup [.int (-1),.int 0,.int (- Hu.mn (p.1::R.map (·.1)))],.tup [.int 0,.int 1,.int (Hu.mx (p.2::R.map (·.2)))],.tup [.int 0,.int (-1),.int (- Hu.mn (p.2::R.map (·.2)))]]:=rfl
 rw[b]
 generalize (p::R).map pt=ps at hit c1 c2
 rw[List.map_cons] at c1 c2
 generalize (p.1::R.map (·.1)).map PV.int=us at c1 x1 x2
 generalize (p.2::R.map (·.2)).map PV.int=vs at c2 x3 x4
 simp[Eh,JX,List.replicate,-Az,-P_,-Qa,hit,c1,c2,x1,x2,x3,x4]
theorem ZR:∀l:List Bool,boolsOf (l.map .bl)=some l
 | []=>rfl
 |x::l=>by rw[List.map_cons,boolsOf,ZR l];rfl
def Z1z(l:List Bool):pQ [.lst (l.map .bl)]=some (.bl (l.all id)):=by
 show(boolsOf (l.map .bl)).map (λbs=>PV.bl (bs.all id))=_
 rw[ZR]
 rfl
def ZK(S:List Hu.Pt):(Hu.Z2 S).length<=S.length:=by
 have:∀(xs k:List Hu.Pt),(xs.foldl (λk x=>if x∈k then k else k ++ [x]) k).length<=k.length+xs.length:=by
  intro xs
  induction xs with
  |nil=>intro k;simp
  |cons x xs ih=>
   intro k
   rw[List.foldl_cons]
   refine Nat.le_trans (ih _) ?_
   split
   ·simp
   ·simp;omega
 have h:=this S []
 rw[List.length_nil,Nat.zero_add] at h
 exact h
def Z1A{S:List Hu.Pt}(hS:∀p∈S,Sm p)(hl:S.length<=1000){a b:Hu.Pt}(ha:a∈S)(hb:b∈S)(s0 s5:P.Slot)(L:List Hu.Ln)(hL:L.length<16777216) :
 mq [s0,.ow (L.map fX),.sh (.lst ((Hu.Z2 S).map pt)),.sh (pt a),.sh (pt b),s5]=.ok .nx [s0,.ow ((L++(if a≠b/\(Hu.Z2 S).all (Hu.hd (Hu.Z3 a b)) then[Hu.Z3 a b] else[])).map fX),.sh (.lst ((Hu.Z2 S).map pt)),.sh (pt a),.sh (pt b),.sh (fX (Hu.Z3 a b))]:=by
 have hsm:=Z10 (hS a ha) (hS b hb)
 have c1:į (gN 1) ĭ (Ď (ď qy (Ă 0 (Ă 1 Ċ)))) ((Hu.Z2 S).map pt) [.sh (fX (Hu.Z3 a b)),.no] []=some (((Hu.Z2 S).map (Hu.hd (Hu.Z3 a b))).map .bl):=by
  have hlen:(Hu.Z2 S).length<=16777216:=by have:=ZK S;omega
  have:=ī (g:=gN 1) (mt:=ĭ) (me:=Ď (ď qy (Ă 0 (Ă 1 Ċ)))) pt (λp=>.bl (Hu.hd (Hu.Z3 a b) p)) (λρ=>∃s,ρ=[.sh (fX (Hu.Z3 a b)),s]) (Hu.Z2 S) [.sh (fX (Hu.Z3 a b)),.no] [] ⟨_,rfl⟩ (by simpa using hlen) (by
   rintro x hx ρ ⟨s,rfl⟩
   exact⟨[.sh (fX (Hu.Z3 a b)),.sh (pt x)],[.sh (fX (Hu.Z3 a b)),.sh (pt x)],[.sh (fX (Hu.Z3 a b)),.sh (pt x)],by simp,by simp,by simp[Z0y hsm],_,rfl⟩)
  rw[this]
  simp
 have c2:=Z1z ((Hu.Z2 S).map (Hu.hd (Hu.Z3 a b)))
 have e1:=Z2y (hS a ha) (hS b hb)
 have e3:((Hu.Z2 S).map (Hu.hd (Hu.Z3 a b))).all id=(Hu.Z2 S).all (Hu.hd (Hu.Z3 a b)):=by simp
 rw[e3] at c2
 generalize ((Hu.Z2 S).map (Hu.hd (Hu.Z3 a b))).map PV.bl=bs at c1 c2
 by_cases h1:a=b
 ·subst h1
  simp[mq,e1,Z1e]
 ·by_cases h2:(Hu.Z2 S).all (Hu.hd (Hu.Z3 a b))=true
  ·rw[h2] at c2
   simp[mq,e1,Z1e,h1,c1,c2,h2,hL,-List.all_eq_true]
  ·rw[Bool.not_eq_true] at h2
   rw[h2] at c2
   simp[mq,e1,Z1e,h1,c1,c2,h2,hL,-List.all_eq_true,-List.all_eq_false]
def Z20{S:List Hu.Pt}(hS:∀p∈S,Sm p)(hl:S.length<=1000){a:Hu.Pt}(ha:a∈S)(s0:P.Slot):∀(xs:List Hu.Pt) (L:List Hu.Ln) (s4 s5:P.Slot),(∀x∈xs,x∈S)->L.length+xs.length<16777216->
 ∃wR QM,forL (gN 4) mq (xs.map pt) [s0,.ow (L.map fX),.sh (.lst ((Hu.Z2 S).map pt)),.sh (pt a),s4,s5]=.ok .nx [s0,.ow ((L++xs.filterMap λb=>if a≠b/\(Hu.Z2 S).all (Hu.hd (Hu.Z3 a b)) then some (Hu.Z3 a b) else none).map fX),.sh (.lst ((Hu.Z2 S).map pt)),.sh (pt a),wR,QM]:=by
 intro xs
 induction xs with
 |nil=>intro L s4 s5 _ _;exact⟨s4,s5,by simp[forL]⟩
 |cons b xs ih=>
  intro L s4 s5 hx hL
  rw[List.length_cons] at hL
  have hb:=Z1A hS hl ha (hx b (by simp)) s0 s5 L (by omega)
  obtain⟨wR,QM,e⟩:=ih (L++(if a≠b/\(Hu.Z2 S).all (Hu.hd (Hu.Z3 a b)) then[Hu.Z3 a b] else[])) (.sh (pt b)) (.sh (fX (Hu.Z3 a b))) (λx h=>hx x (List.mem_cons_of_mem _ h)) (by
   rw[List.length_append]
   split
   ·simp;omega
   ·simp;omega)
  refine⟨wR,QM,?_⟩
  rw[List.map_cons,forL]
  simp only[Jj,List.set_cons_succ,List.set_cons_zero,hb,Res.aH]
  rw[e,List.filterMap_cons]
  by_cases hc:a≠b/\(Hu.Z2 S).all (Hu.hd (Hu.Z3 a b))=true
  ·rw[if_pos hc,if_pos hc]
   simp only[List.append_assoc,List.cons_append,List.nil_append]
  ·rw[if_neg hc,if_neg hc]
   simp only[List.append_nil]
def ZP{α β:Type}(f:α->Option β)(l:List α):(l.filterMap f).length<=l.length:=List.length_filterMap_le ..
def Z21{S:List Hu.Pt}(hS:∀p∈S,Sm p)(hl:S.length<=1000)(s0:P.Slot):∀(xs:List Hu.Pt) (L:List Hu.Ln) (s3 s4 s5:P.Slot),(∀x∈xs,x∈S)->L.length+xs.length*1000<10000000->
 ∃s3' wR QM,forL (gN 3) vH (xs.map pt) [s0,.ow (L.map fX),.sh (.lst ((Hu.Z2 S).map pt)),s3,s4,s5]=.ok .nx [s0,.ow ((L++xs.flatMap λa=>(Hu.Z2 S).filterMap λb=>if a≠b/\(Hu.Z2 S).all (Hu.hd (Hu.Z3 a b)) then some (Hu.Z3 a b) else none).map fX),.sh (.lst ((Hu.Z2 S).map pt)),s3',wR,QM]:=by
 intro xs
 induction xs with
 |nil=>intro L s3 s4 s5 _ _;exact⟨s3,s4,s5,by simp[forL]⟩
 |cons a xs ih=>
  intro L s3 s4 s5 hx hL
  rw[List.length_cons] at hL
  have ho:=ZK S
  obtain⟨a4,a5,e1⟩:=Z20 hS hl (hx a (by simp)) s0 (Hu.Z2 S) L s4 s5 (λx h=>Hu.Zo.mp h) (by omega)
  have hf:=ZP (λb=>if a≠b/\(Hu.Z2 S).all (Hu.hd (Hu.Z3 a b))=true then some (Hu.Z3 a b) else none) (Hu.Z2 S)
  obtain⟨s3',wR,QM,e2⟩:=ih (L++(Hu.Z2 S).filterMap λb=>if a≠b/\(Hu.Z2 S).all (Hu.hd (Hu.Z3 a b))=true then some (Hu.Z3 a b) else none) (.sh (pt a)) a4 a5 (λx h=>hx x (List.mem_cons_of_mem _ h)) (by rw[List.length_append];omega)
  refine⟨s3',wR,QM,?_⟩
  have hb:vH [s0,.ow (L.map fX),.sh (.lst ((Hu.Z2 S).map pt)),.sh (pt a),s4,s5]=.ok .nx [s0,.ow ((L++(Hu.Z2 S).filterMap λb=>if a≠b/\(Hu.Z2 S).all (Hu.hd (Hu.Z3 a b))=true then some (Hu.Z3 a b) else none).map fX),.sh (.lst ((Hu.Z2 S).map pt)),.sh (pt a),a4,a5]:=by
   unfold vH
   simp only[ZaN,Az,List.getElem?_cons_succ,List.getElem?_cons_zero,Res.aH]
   exact e1
  rw[List.map_cons,forL]
  simp only[Jj,List.set_cons_succ,List.set_cons_zero,hb,Res.aH]
  rw[e2,List.flatMap_cons,List.append_assoc]
def Z22{S:List Hu.Pt}{sl:P.Slot}(hs:Sl sl (S.map pt))(hS:∀p∈S,Sm p)(hl:S.length<=1000):Ek [sl]=.ret (.ow ((Hu.ZB S).map fX)):=by
 have h1:=Z2z hs hl
 have ho:=ZK S
 obtain⟨s3,s4,s5,e⟩:=Z21 hS hl sl (Hu.Z2 S) [] .no .no .no (λx h=>Hu.Zo.mp h) (by simp;omega)
 have he:[]++((Hu.Z2 S).flatMap λa=>(Hu.Z2 S).filterMap λb=>if a≠b/\(Hu.Z2 S).all (Hu.hd (Hu.Z3 a b))=true then some (Hu.Z3 a b) else none)=Hu.ZB S:=rfl
 rw[he] at e
 generalize Hu.ZB S=ed at e
 generalize (Hu.Z2 S).map pt=os at e h1
 simp only[List.map_nil] at e
 simp[Ek,Kc,List.replicate,hs.lend,h1,e]
def Z1B(S:List Hu.Pt)(hl:S.length<=1000):(Hu.ZB S).length<=1000000:=by
 have ho:=ZK S
 have:∀(xs:List Hu.Pt) (f:Hu.Pt->List Hu.Ln),(∀x,(f x).length<=1000)->(xs.flatMap f).length<=xs.length*1000:=by
  intro xs f hf
  induction xs with
  |nil=>simp
  |cons x xs ih=>rw[List.flatMap_cons,List.length_append,List.length_cons];have:=hf x;omega
 refine Nat.le_trans (this (Hu.Z2 S) _ λx=>Nat.le_trans (ZP _ _) (by omega)) (by omega)
def Z23{S:List Hu.Pt}{sl:P.Slot}(hs:Sl sl (S.map pt))(hS:∀p∈S,Sm p)(h0:S≠[])(hl:S.length<=1000):El [sl]=.ret (.ow ((Hu.ZC S).map fX)):=by
 have h1:=Z2V hs h0 hl
 have h2:=Z22 hs hS hl
 have h3:ĥ (.lst ((Hu.box S).map fX)) (.lst ((Hu.ZB S).map fX))=some (.ow ((Hu.ZC S).map fX)):=by
  rw[add_l (by have:=Z1B S hl;simp[Hu.box];omega),<-List.map_append]
  rfl
 simp[El,Kd,List.replicate,hs.lend,h1,h2,h3]
def Z2W{S:List Hu.Pt}{l:Hu.Ln}(h:l∈Hu.ZC S)(hS:∀p∈S,Sm p):SmL l:=by
 rcases List.mem_append.mp h with h|h
 ·unfold Hu.box at h
  simp only[List.mem_cons,List.not_mem_nil,or_false] at h
  rcases h with e|e|e|e<;>subst e<;>simp only[SmL]<;>omega
 ·obtain⟨a,ha,b,hb,_,_,rfl⟩:=Hu.Z1u.mp h
  exact Z10 (hS a ha) (hS b hb)
def Z1f(n:Nat):cV 0 n 1=(List.range n).map λ(i:Nat)=>PV.int (i:Int):=by
 unfold cV
 refine List.map_congr_left λi _=>?_
 simp
def Zj{n:Nat}(h:n<=1000):Ō [.int (n:Int)]=some ((List.range n).map λ(i:Nat)=>PV.int (i:Int)):=by
 have hs:bW (n:Int)=true:=by unfold bW;simp;omega
 unfold Ō
 simp[hs,Z1f]
def Yc(s:P.Slot)(ps:List PV):Prop:=s=.sh (.lst ps)\/s=.bw ps
def aq(x:Int):Bool:=decide (-1000000000<=x/\x<=1000000000)
def zE(x:Int):Bool:=decide (1<=x/\x<=1000000000)
def zF(x:Int):Bool:=decide (0<=x/\x<=1000000000)
def Z03(x:Int):ni [.sh (.int x)]=.ret (.sh (.bl (aq x))):=by
 unfold aq
 by_cases h1: -1000000000<=x<;>by_cases h2:x<=1000000000<;>simp[ni,Lg,List.replicate,h1,h2]
def Z0j(x:Int):yX [.sh (.int x)]=.ret (.sh (.bl (zE x))):=by
 unfold zE
 by_cases h1:1<=x<;>by_cases h2:x<=1000000000<;>simp[yX,Li,List.replicate,h1,h2]
def Zh:List Int->Bool
 | [p,q,h]=>aq p && aq q && zE h
 |_=>false
def Zi:List Int->Bool
 | [x,y,u,v,h]=>aq x && aq y && aq u && aq v && zE h
 |_=>false
def Zf:List Int->Bool
 | [x,y,u,v,h]=>Zi [x,y,u,v,h] && !(decide (x=u) && decide (y=v))
 |_=>false
def Zb:List Int->Bool
 | [x,y,u,v,h]=>Zi [x,y,u,v,h] && decide (x<u) && decide (y<v)
 |_=>false
def Zg:List Int->Bool
 | [a,b,c,d,e,f,g,h,i]=>aq a && aq b && zF c && (aq d && aq e && zF f) && (aq g && aq h && zF i)
 |_=>false
def Z2X(a b c:Bool):pQ [.lst [.bl a,.bl b,.bl c]]=some (.bl (a && b && c)):=by cases a<;>cases b<;>cases c<;>rfl
def Z2Y(a b c d:Bool):pQ [.lst [.bl a,.bl b,.bl c,.bl d]]=some (.bl (a && b && c && d)):=by cases a<;>cases b<;>cases c<;>cases d<;>rfl
def Z0q{xs:List Int}{sl:P.Slot}(hs:Yc sl (xs.map .int)):yZ [sl]=.ret (.sh (.bl (Zh xs))):=by
 by_cases hl:xs.length=3
 ·match xs,hl with
  | [a,b,c],_=>
    have h:Zh [a,b,c]=(aq a && aq b && zE c):=rfl
    rw[h]
    rcases hs with rfl|rfl<;>cases ea:aq a<;>cases eb:aq b<;>cases ec:zE c<;>simp[yZ,Bx,List.replicate,Z03,Z0j,ea,eb,ec]
 ·have h:Zh xs=false:=by
   unfold Zh
   split
   ·simp at hl
   ·rfl
  rw[h]
  have hl':¬((xs.length:Nat):Int)=3:=by omega
  rcases hs with rfl|rfl<;>simp[yZ,Bx,List.replicate,hl']
def Z11{xs:List Int}{sl:P.Slot}(hs:Yc sl (xs.map .int)):uI [sl]=.ret (.sh (.bl (Zi xs))):=by
 by_cases hl:xs.length=5
 ·match xs,hl with
  | [a,b,c,d,e],_=>
    have h:Zi [a,b,c,d,e]=(aq a && aq b && aq c && aq d && zE e):=rfl
    rw[h]
    have hc:eZ ([.int a,.int b,.int c,.int d,.int e]:List PV) none (some 4)=[.int a,.int b,.int c,.int d]:=rfl
    have hb:=Z2Y (aq a) (aq b) (aq c) (aq d)
    rcases hs with rfl|rfl<;>cases ea:(aq a && aq b && aq c && aq d)<;>cases ec:zE e<;>rw[ea] at hb<;>simp[uI,BJ,List.replicate,Z03,Z0j,hc,į,hb,ec]
 ·have h:Zi xs=false:=by
   unfold Zi
   split
   ·simp at hl
   ·rfl
  rw[h]
  have hl':¬((xs.length:Nat):Int)=5:=by omega
  rcases hs with rfl|rfl<;>simp[uI,BJ,List.replicate,hl']
def Z2Z(a b c d:Int):aC (.lst [.int a,.int b]) (.lst [.int c,.int d])=some (.bl (!(decide (a=c) && decide (b=d)))):=by
 have h:eqB (.lst [.int a,.int b]) (.lst [.int c,.int d])=(decide (a=c) && decide (b=d)):=by
  simp[eqB,dJ]
  rw[Bool.eq_iff_iff]
  simp
 unfold aC rZ
 rw[h]
 simp[ź,aB,dep,uZ]
def Z2o{xs:List Int}(hl:¬xs.length=5):Zi xs=false:=by
 unfold Zi
 split
 ·simp at hl
 ·rfl
def Z1g{s:P.Slot}{ps:List PV}(h:Yc s ps):dG s=some s:=by rcases h with rfl|rfl<;>rfl
def Z24{xs:List Int}{sl:P.Slot}(hs:Yc sl (xs.map .int)):za [sl]=.ret (.sh (.bl (Zf xs))):=by
 have he:=Z11 hs
 by_cases hl:xs.length=5
 ·match xs,hl with
  | [a,b,c,d,e],_=>
    have h:Zf [a,b,c,d,e]=(Zi [a,b,c,d,e] && !(decide (a=c) && decide (b=d))):=rfl
    rw[h]
    have h1:eZ ([.int a,.int b,.int c,.int d,.int e]:List PV) none (some 2)=[.int a,.int b]:=rfl
    have h2:eZ ([.int a,.int b,.int c,.int d,.int e]:List PV) (some 2) (some 4)=[.int c,.int d]:=rfl
    have h3:=Z2Z a b c d
    generalize Zi [a,b,c,d,e]=q at *
    generalize (!(decide (a=c) && decide (b=d)))=r at *
    rcases hs with rfl|rfl<;>cases q<;>simp_all [za,BK,List.replicate]
 ·have h:Zf xs=false:=by
   unfold Zf
   split
   ·simp at hl
   ·rfl
  rw[h]
  rw[Z2o hl] at he
  simp[za,BK,List.replicate,Z1g hs,he]
def Z2A{xs:List Int}{sl:P.Slot}(hs:Yc sl (xs.map .int)):Gv [sl]=.ret (.sh (.bl (Zb xs))):=by
 have he:=Z11 hs
 by_cases hl:xs.length=5
 ·match xs,hl with
  | [a,b,c,d,e],_=>
    have h:Zb [a,b,c,d,e]=(Zi [a,b,c,d,e] && decide (a<c) && decide (b<d)):=rfl
    rw[h]
    generalize Zi [a,b,c,d,e]=q at *
    rcases hs with rfl|rfl<;>simp only[List.map_cons,List.map_nil] at he<;>cases q<;>by_cases h1:a<c<;>by_cases h2:b<d<;>simp[Gv,Lj,List.replicate,he,h1,h2]
 ·have h:Zb xs=false:=by
   unfold Zb
   split
   ·simp at hl
   ·rfl
  rw[h]
  rw[Z2o hl] at he
  simp[Gv,Lj,List.replicate,Z1g hs,he]
def ZS(a b c:Int):Qp [.sh (.lst [.int a,.int b,.int c])]=.ret (.sh (.bl (aq a && aq b && zF c))):=by
 unfold zF
 cases ea:aq a<;>cases eb:aq b<;>by_cases h1:0<=c<;>by_cases h2:c<=1000000000<;>simp[Qp,Ui,List.replicate,Z03,ea,eb,h1,h2]
def Z25{xs:List Int}{sl:P.Slot}(hs:Yc sl (xs.map .int)):zc [sl]=.ret (.sh (.bl (Zg xs))):=by
 by_cases hl:xs.length=9
 ·match xs,hl with
  | [a,b,c,d,e,f,g,h,i],_=>
    have hc:Zg [a,b,c,d,e,f,g,h,i]=((aq a && aq b && zF c) && (aq d && aq e && zF f) && (aq g && aq h && zF i)):=rfl
    rw[hc]
    have h1:eZ ([.int a,.int b,.int c,.int d,.int e,.int f,.int g,.int h,.int i]:List PV) (some 0) (some 3)=[.int a,.int b,.int c]:=rfl
    have h2:eZ ([.int a,.int b,.int c,.int d,.int e,.int f,.int g,.int h,.int i]:List PV) (some 3) (some 6)=[.int d,.int e,.int f]:=rfl
    have h3:eZ ([.int a,.int b,.int c,.int d,.int e,.int f,.int g,.int h,.int i]:List PV) (some 6) (some 9)=[.int g,.int h,.int i]:=rfl
    have hb:=Z2X (aq a && aq b && zF c) (aq d && aq e && zF f) (aq g && aq h && zF i)
    have k1:=ZS a b c
    have k2:=ZS d e f
    have k3:=ZS g h i
    generalize (aq a && aq b && zF c)=q1 at *
    generalize (aq d && aq e && zF f)=q2 at *
    generalize (aq g && aq h && zF i)=q3 at *
    rcases hs with rfl|rfl<;>simp[zc,BL,List.replicate,į,h1,h2,h3,k1,k2,k3,hb]
 ·have h:Zg xs=false:=by
   unfold Zg
   split
   ·simp at hl
   ·rfl
  rw[h]
  have hl':¬((xs.length:Nat):Int)=9:=by omega
  rcases hs with rfl|rfl<;>simp[zc,BL,List.replicate,hl']
def Ze(w:Str):String:=if w= "post" then "Post" else if w= "fence" then "Fence" else if w= "sail" then "Sail" else if w= "cloth" then "Cloth" else "House"
def Z6(C:String)(w:Str)(xs:List Int):PV:=.ins C ["word","numbers"] [.str w,.lst (xs.map .int)]
def Za(w:Str)(xs:List Int):Bool:=if w= "post" then Zh xs else if w= "fence" then Zf xs else if w= "sail" then Zb xs else if w= "cloth" then Zg xs else if w= "house" then Zb xs else false
def wn:((Str.ofString "word")=(Str.ofString "numbers"))=False:=eq_false (by decide +kernel)
def ZG{C:String}(hC:(["Thing","Post","Fence","Sail","Cloth","House"]:List String).contains C=true)(w:Str){xs:List Int}{sl:P.Slot}(hs:Yc sl (xs.map .int)):cL 3 3 C fH [.sh (.str w),sl]=.ok ["word","numbers"] [.str w,.lst (xs.map .int)]:=by
 rcases hs with rfl|rfl<;>simp[cL,fH,iV,IR.of,List.replicate,putN,Ba,hC,wn,-List.contains_eq_mem,-List.contains_cons]
def s1:PyData.strOk (Str.ofString "post")=true:=by decide +kernel
def s2:PyData.strOk (Str.ofString "fence")=true:=by decide +kernel
def s3:PyData.strOk (Str.ofString "sail")=true:=by decide +kernel
def s4:PyData.strOk (Str.ofString "cloth")=true:=by decide +kernel
def s5:PyData.strOk (Str.ofString "house")=true:=by decide +kernel
def d12:(Str.ofString "post" =Str.ofString "fence")=False:=eq_false (by decide +kernel)
def d13:(Str.ofString "post" =Str.ofString "sail")=False:=eq_false (by decide +kernel)
def d14:(Str.ofString "post" =Str.ofString "cloth")=False:=eq_false (by decide +kernel)
def d15:(Str.ofString "post" =Str.ofString "house")=False:=eq_false (by decide +kernel)
def d23:(Str.ofString "fence" =Str.ofString "sail")=False:=eq_false (by decide +kernel)
def d24:(Str.ofString "fence" =Str.ofString "cloth")=False:=eq_false (by decide +kernel)
def d25:(Str.ofString "fence" =Str.ofString "house")=False:=eq_false (by decide +kernel)
def d34:(Str.ofString "sail" =Str.ofString "cloth")=False:=eq_false (by decide +kernel)
def d35:(Str.ofString "sail" =Str.ofString "house")=False:=eq_false (by decide +kernel)
def d45:(Str.ofString "cloth" =Str.ofString "house")=False:=eq_false (by decide +kernel)
def Z26{w:Str}(hw:PyData.strOk w=true){xs:List Int}{sl:P.Slot}(hs:Yc sl (xs.map .int)):dR [.sh (.str w),sl]=if Za w xs=true then .ret (.sh (Z6 (Ze w) w xs)) else .bad:=by
 have e1:=bF hw s1
 have e2:=bF hw s2
 have e3:=bF hw s3
 have e4:=bF hw s4
 have e5:=bF hw s5
 have p1:=Z0q hs
 have p2:=Z24 hs
 have p3:=Z2A hs
 have p4:=Z25 hs
 have i1:vU [.sh (.str w),sl]=_:=ZG (by decide) w hs
 have i2:qN [.sh (.str w),sl]=_:=ZG (by decide) w hs
 have i3:vV [.sh (.str w),sl]=_:=ZG (by decide) w hs
 have i4:qO [.sh (.str w),sl]=_:=ZG (by decide) w hs
 have i5:qP [.sh (.str w),sl]=_:=ZG (by decide) w hs
 have hle:=Z1g hs
 unfold Za Ze Z6
 by_cases h1:w=Str.ofString "post"
 ·have n2:¬w=Str.ofString "fence" := λz=>(d12▸(h1.symm.trans z):False)
  have n3:¬w=Str.ofString "sail" := λz=>(d13▸(h1.symm.trans z):False)
  have n4:¬w=Str.ofString "cloth" := λz=>(d14▸(h1.symm.trans z):False)
  have n5:¬w=Str.ofString "house" := λz=>(d15▸(h1.symm.trans z):False)
  rw[decide_eq_true h1] at e1
  rw[decide_eq_false n2] at e2
  rw[decide_eq_false n3] at e3
  rw[decide_eq_false n4] at e4
  rw[decide_eq_false n5] at e5
  have hg:(if w=Str.ofString "post" then Zh xs else if w=Str.ofString "fence" then Zf xs else if w=Str.ofString "sail" then Zb xs else if w=Str.ofString "cloth" then Zg xs else if w=Str.ofString "house" then Zb xs else false)=Zh xs:=by rw[if_pos h1]
  have hc:(if w=Str.ofString "post" then "Post" else if w=Str.ofString "fence" then "Fence" else if w=Str.ofString "sail" then "Sail" else if w=Str.ofString "cloth" then "Cloth" else "House")= "Post" := by rw[if_pos h1]
  rw[hg,hc]
  cases q:Zh xs<;>rw[q] at p1<;>simp[dR,jt,bK,List.replicate,e1,e2,e3,e4,e5,hle,p1,i1]
 ·skip
  by_cases h2:w=Str.ofString "fence"
  ·have n1:=h1
   have n3:¬w=Str.ofString "sail" := λz=>(d23▸(h2.symm.trans z):False)
   have n4:¬w=Str.ofString "cloth" := λz=>(d24▸(h2.symm.trans z):False)
   have n5:¬w=Str.ofString "house" := λz=>(d25▸(h2.symm.trans z):False)
   rw[decide_eq_true h2] at e2
   rw[decide_eq_false n1] at e1
   rw[decide_eq_false n3] at e3
   rw[decide_eq_false n4] at e4
   rw[decide_eq_false n5] at e5
   have hg:(if w=Str.ofString "post" then Zh xs else if w=Str.ofString "fence" then Zf xs else if w=Str.ofString "sail" then Zb xs else if w=Str.ofString "cloth" then Zg xs else if w=Str.ofString "house" then Zb xs else false)=Zf xs:=by rw[if_neg n1,if_pos h2]
   have hc:(if w=Str.ofString "post" then "Post" else if w=Str.ofString "fence" then "Fence" else if w=Str.ofString "sail" then "Sail" else if w=Str.ofString "cloth" then "Cloth" else "House")= "Fence" := by rw[if_neg n1,if_pos h2]
   rw[hg,hc]
   cases q:Zf xs<;>rw[q] at p2<;>simp[dR,jt,bK,List.replicate,e1,e2,e3,e4,e5,hle,p2,i2]
  ·skip
   by_cases h3:w=Str.ofString "sail"
   ·have n1:=h1
    have n2:=h2
    have n4:¬w=Str.ofString "cloth" := λz=>(d34▸(h3.symm.trans z):False)
    have n5:¬w=Str.ofString "house" := λz=>(d35▸(h3.symm.trans z):False)
    rw[decide_eq_true h3] at e3
    rw[decide_eq_false n1] at e1
    rw[decide_eq_false n2] at e2
    rw[decide_eq_false n4] at e4
    rw[decide_eq_false n5] at e5
    have hg:(if w=Str.ofString "post" then Zh xs else if w=Str.ofString "fence" then Zf xs else if w=Str.ofString "sail" then Zb xs else if w=Str.ofString "cloth" then Zg xs else if w=Str.ofString "house" then Zb xs else false)=Zb xs:=by rw[if_neg n1,if_neg n2,if_pos h3]
    have hc:(if w=Str.ofString "post" then "Post" else if w=Str.ofString "fence" then "Fence" else if w=Str.ofString "sail" then "Sail" else if w=Str.ofString "cloth" then "Cloth" else "House")= "Sail" := by rw[if_neg n1,if_neg n2,if_pos h3]
    rw[hg,hc]
    cases q:Zb xs<;>rw[q] at p3<;>simp[dR,jt,bK,List.replicate,e1,e2,e3,e4,e5,hle,p3,i3]
   ·skip
    by_cases h4:w=Str.ofString "cloth"
    ·have n1:=h1
     have n2:=h2
     have n3:=h3
     have n5:¬w=Str.ofString "house" := λz=>(d45▸(h4.symm.trans z):False)
     rw[decide_eq_true h4] at e4
     rw[decide_eq_false n1] at e1
     rw[decide_eq_false n2] at e2
     rw[decide_eq_false n3] at e3
     rw[decide_eq_false n5] at e5
     have hg:(if w=Str.ofString "post" then Zh xs else if w=Str.ofString "fence" then Zf xs else if w=Str.ofString "sail" then Zb xs else if w=Str.ofString "cloth" then Zg xs else if w=Str.ofString "house" then Zb xs else false)=Zg xs:=by rw[if_neg n1,if_neg n2,if_neg n3,if_pos h4]
     have hc:(if w=Str.ofString "post" then "Post" else if w=Str.ofString "fence" then "Fence" else if w=Str.ofString "sail" then "Sail" else if w=Str.ofString "cloth" then "Cloth" else "House")= "Cloth" := by rw[if_neg n1,if_neg n2,if_neg n3,if_pos h4]
     rw[hg,hc]
     cases q:Zg xs<;>rw[q] at p4<;>simp[dR,jt,bK,List.replicate,e1,e2,e3,e4,e5,hle,p4,i4]
    ·skip
     by_cases h5:w=Str.ofString "house"
     ·have n1:=h1
      have n2:=h2
      have n3:=h3
      have n4:=h4
      rw[decide_eq_true h5] at e5
      rw[decide_eq_false n1] at e1
      rw[decide_eq_false n2] at e2
      rw[decide_eq_false n3] at e3
      rw[decide_eq_false n4] at e4
      have hg:(if w=Str.ofString "post" then Zh xs else if w=Str.ofString "fence" then Zf xs else if w=Str.ofString "sail" then Zb xs else if w=Str.ofString "cloth" then Zg xs else if w=Str.ofString "house" then Zb xs else false)=Zb xs:=by rw[if_neg n1,if_neg n2,if_neg n3,if_neg n4,if_pos h5]
      have hc:(if w=Str.ofString "post" then "Post" else if w=Str.ofString "fence" then "Fence" else if w=Str.ofString "sail" then "Sail" else if w=Str.ofString "cloth" then "Cloth" else "House")= "House" := by rw[if_neg n1,if_neg n2,if_neg n3,if_neg n4]
      rw[hg,hc]
      cases q:Zb xs<;>rw[q] at p3<;>simp[dR,jt,bK,List.replicate,e1,e2,e3,e4,e5,hle,p3,i5]
     ·skip
      rw[decide_eq_false h1] at e1
      rw[decide_eq_false h2] at e2
      rw[decide_eq_false h3] at e3
      rw[decide_eq_false h4] at e4
      rw[decide_eq_false h5] at e5
      rw[if_neg h1,if_neg h2,if_neg h3,if_neg h4,if_neg h5]
      simp[dR,jt,bK,List.replicate,e1,e2,e3,e4,e5]
abbrev P3:=Int×Int×Int
def c3(p:P3):PV:=.tup [.int p.1,.int p.2.1,.int p.2.2]
def Zx(x y u v z:Int):List P3:=[(x,y,z),(u,y,z),(u,v,z),(x,v,z)]
def ZY(x y u v h:Int):List P3:=Zx x y u v 0++Zx x y u v h
def Z4(C:String)(xs:List Int):List P3:=
 if C= "Post" then(match xs with
  | [p,q,h]=>ZY (2*p-1) (2*q-1) (2*p+1) (2*q+1) h
  |_=>[])
 else if C= "Fence" then(match xs with
  | [x,y,u,v,h]=>[(x,y,0),(u,v,0),(u,v,h),(x,y,h)]
  |_=>[])
 else if C= "Sail" then(match xs with
  | [x,y,u,v,h]=>Zx x y u v h
  |_=>[])
 else if C= "Cloth" then(match xs with
  | [a,b,c,d,e,f,g,h,i]=>[(a,b,c),(d,e,f),(g,h,i)]
  |_=>[])
 else(match xs with
  | [x,y,u,v,h]=>ZY x y u v h
  |_=>[])
def Zl(w:Str)(xs:List Int):List P3:=Z4 (Ze w) xs
def ZT{C:String}(hC:(["Thing","Post","Fence","Sail","Cloth","House"]:List String).contains C=true)(w:Str)(xs:List Int):aD ["Thing","Post","Fence","Sail","Cloth","House"] (Str.ofString "numbers") (Z6 C w xs)=some (.lst (xs.map .int)):=by
 unfold aD Z6
 dsimp only
 rw[if_pos hC]
 have:(Str.ofString "numbers" == Str.ofString "word")=false:=by decide +kernel
 show List.lookup _ [(_,_),(_,_)]=_
 rw[List.lookup_cons,this]
 simp
def Z0z(x y u v z:Int):uE [.sh (.int x),.sh (.int y),.sh (.int u),.sh (.int v),.sh (.int z)]=.ret (.ow ((Zx x y u v z).map c3)):=by
 simp[uE,Km,List.replicate,Zx,c3]
def Z0A(x y u v h:Int):Ko [.sh (.int x),.sh (.int y),.sh (.int u),.sh (.int v),.sh (.int h)]=.ret (.ow ((ZY x y u v h).map c3)):=by
 simp[Ko,Ud,List.replicate,Z0z,ZY,Zx,add_l]
def Z30{xs:List Int}(h:Zh xs=true)(w:Str):mV [.sh (Z6 "Post" w xs)]=.ret (.ow ((Z4 "Post" xs).map c3)):=by
 match xs,h with
 | [p,q,h],hh=>
   simp[Zh,aq,zE] at hh
   have hf:=ZT (C:= "Post") (by decide) w [p,q,h]
   generalize Z6 "Post" w [p,q,h]=v at *
   have e:=Z0A (2*p-1) (2*q-1) (2*p+1) (2*q+1) h
   simp[mV,Kp,List.replicate,hf,e,Z4]
def Z2B{xs:List Int}(h:Zf xs=true)(w:Str):mW [.sh (Z6 "Fence" w xs)]=.ret (.ow ((Z4 "Fence" xs).map c3)):=by
 match xs,h with
 | [x,y,u,v,h],hh=>
   have hf:=ZT (C:= "Fence") (by decide) w [x,y,u,v,h]
   generalize Z6 "Fence" w [x,y,u,v,h]=t at *
   simp[mW,Kq,List.replicate,hf,Z4,c3,ĥ]
def Z31{xs:List Int}(h:Zb xs=true)(w:Str):mX [.sh (Z6 "Sail" w xs)]=.ret (.ow ((Z4 "Sail" xs).map c3)):=by
 match xs,h with
 | [x,y,u,v,h],hh=>
   have hf:=ZT (C:= "Sail") (by decide) w [x,y,u,v,h]
   generalize Z6 "Sail" w [x,y,u,v,h]=t at *
   have e:=Z0z x y u v h
   simp[mX,Kr,List.replicate,hf,e,Z4]
def Z2C{xs:List Int}(h:Zb xs=true)(w:Str):mY [.sh (Z6 "House" w xs)]=.ret (.ow ((Z4 "House" xs).map c3)):=by
 match xs,h with
 | [x,y,u,v,h],hh=>
   have hf:=ZT (C:= "House") (by decide) w [x,y,u,v,h]
   generalize Z6 "House" w [x,y,u,v,h]=t at *
   have e:=Z0A x y u v h
   simp[mY,Ks,List.replicate,hf,e,Z4]
def Z2D{xs:List Int}(h:Zg xs=true)(w:Str):yK [.sh (Z6 "Cloth" w xs)]=.ret (.ow ((Z4 "Cloth" xs).map c3)):=by
 match xs,h with
 | [a,b,c,d,e,f,g,i,j],hh=>
   have hf:=ZT (C:= "Cloth") (by decide) w [a,b,c,d,e,f,g,i,j]
   generalize Z6 "Cloth" w [a,b,c,d,e,f,g,i,j]=t at *
   simp[yK,Ue,List.replicate,hf,Z4,c3,į,Gf,eZ]
   exact⟨rfl,rfl,rfl⟩
def cst(r p:P3):Hu.Pt:=(r.2.2*p.1+r.1*p.2.2,r.2.2*p.2.1+r.2.1*p.2.2)
def RB(r:P3):Prop:=-1000000<=r.1/\r.1<=1000000/\ -1000000<=r.2.1/\r.2.1<=1000000/\ -1000000<=r.2.2/\r.2.2<=1000000
def PB(p:P3):Prop:=-10000000000<=p.1/\p.1<=10000000000/\ -10000000000<=p.2.1/\p.2.1<=10000000000/\ -10000000000<=p.2.2/\p.2.2<=10000000000
def Z12{r:P3}(hr:RB r)(p:P3):qF [.sh (c3 p),.sh (c3 r)]=.ret (.sh (pt (cst r p))):=by
 obtain⟨a1,a2,a3,a4,a5,a6⟩:=hr
 have m1:Ő r.2.2 p.1=true:=bC (by omega) (by omega)
 have m2:Ő r.2.2 p.2.1=true:=bC (by omega) (by omega)
 have m3:Ő r.1 p.2.2=true:=bC (by omega) (by omega)
 have m4:Ő r.2.1 p.2.2=true:=bC (by omega) (by omega)
 simp[qF,Kl,List.replicate,pt,c3,cst,m1,m2,m3,m4]
def Z0s{x y A B:Int}(h1: -A<=x)(h2:x<=A)(h3: -B<=y)(h4:y<=B): -(A*B)<=x*y/\x*y<=A*B:=by
 have hA:0<=A:=by omega
 have hB:0<=B:=by omega
 have e:(x*y).natAbs<=A.natAbs*B.natAbs:=by
  rw[Int.natAbs_mul]
  exact Nat.mul_le_mul (by omega) (by omega)
 have e2:((A*B).natAbs)=A.natAbs*B.natAbs:=Int.natAbs_mul A B
 have e3:0<=A*B:=Int.mul_nonneg hA hB
 omega
def Z1C{r p:P3}(hr:RB r)(hp:PB p):Sm (cst r p):=by
 obtain⟨a1,a2,a3,a4,a5,a6⟩:=hr
 obtain⟨b1,b2,b3,b4,b5,b6⟩:=hp
 have q1:=Z0s a5 a6 b1 b2
 have q2:=Z0s a5 a6 b3 b4
 have q3:=Z0s a1 a2 b5 b6
 have q4:=Z0s a3 a4 b5 b6
 simp only[Sm,cst]
 omega
def Z1D{w:Str}{xs:List Int}(hg:Za w xs=true){mo:M PV}{ρ ρ1:List P.Slot}(ho:mo ρ=.ok (Z6 (Ze w) w xs) ρ1):pX (Str.ofString "corners") [("Post",mV),("Fence",mW),("Sail",mX),("Cloth",yK),("House",mY)] mo Ċ ρ=.ok (.ow ((Zl w xs).map c3)) ρ1:=by
 have hn:(["word","numbers"]:List Str).contains (Str.ofString "corners")=false:=by decide +kernel
 have key:∀(C:String) (mf:MF),Ze w=C->List.lookup C [("Post",mV),("Fence",mW),("Sail",mX),("Cloth",yK),("House",mY)]=some mf->mf [.sh (Z6 C w xs)]=.ret (.ow ((Z4 C xs).map c3))->pX (Str.ofString "corners") [("Post",mV),("Fence",mW),("Sail",mX),("Cloth",yK),("House",mY)] mo Ċ ρ=.ok (.ow ((Zl w xs).map c3)) ρ1:=by
  intro C mf hC hl hf
  unfold Zl
  rw[hC] at ho ⊢
  unfold pX
  rw[ho]
  unfold Z6 at *
  simp only[Res.bind]
  rw[hl]
  dsimp only
  rw[if_neg (by rw[hn];decide)]
  simp only[Ċ,Res.bind]
  rw[hf]
 unfold Za at hg
 by_cases e1:w= "post"
 ·rw[if_pos e1] at hg
  exact key "Post" _ (by unfold Ze;rw[if_pos e1]) rfl (Z30 hg w)
 rw[if_neg e1] at hg
 by_cases e2:w= "fence"
 ·rw[if_pos e2] at hg
  exact key "Fence" _ (by unfold Ze;rw[if_neg e1,if_pos e2]) rfl (Z2B hg w)
 rw[if_neg e2] at hg
 by_cases e3:w= "sail"
 ·rw[if_pos e3] at hg
  exact key "Sail" _ (by unfold Ze;rw[if_neg e1,if_neg e2,if_pos e3]) rfl (Z31 hg w)
 rw[if_neg e3] at hg
 by_cases e4:w= "cloth"
 ·rw[if_pos e4] at hg
  exact key "Cloth" _ (by unfold Ze;rw[if_neg e1,if_neg e2,if_neg e3,if_pos e4]) rfl (Z2D hg w)
 rw[if_neg e4] at hg
 by_cases e5:w= "house"
 ·rw[if_pos e5] at hg
  exact key "House" _ (by unfold Ze;rw[if_neg e1,if_neg e2,if_neg e3,if_neg e4]) rfl (Z2C hg w)
 ·rw[if_neg e5] at hg
  cases hg
def Z1h{r:P3}(hr:RB r){L:List P3}(hl:L.length<=100)(s1:P.Slot):į (gN 1) ĭ (Ď (ď qF (Ă 1 (Ă 0 Ċ)))) (L.map c3) [.sh (c3 r),s1] []=some ((L.map (cst r)).map pt):=by
 have:=ī (g:=gN 1) (mt:=ĭ) (me:=Ď (ď qF (Ă 1 (Ă 0 Ċ)))) c3 (λp=>pt (cst r p)) (λρ=>∃s,ρ=[.sh (c3 r),s]) L [.sh (c3 r),s1] [] ⟨_,rfl⟩ (by simp;omega) (by
  rintro p hp ρ ⟨s,rfl⟩
  have e:=Z12 hr p
  generalize c3 r=R at *
  generalize c3 p=Q at *
  exact⟨[R |> .sh,.sh Q],[.sh R,.sh Q],[.sh R,.sh Q],by simp,by simp,by simp[e],_,rfl⟩)
 rw[this]
 simp
def Z27{w:Str}{xs:List Int}(hg:Za w xs=true)(hl:(Zl w xs).length<=100){r:P3}(hr:RB r):Eo [.sh (Z6 (Ze w) w xs),.sh (c3 r)]=.ret (.ow (((Zl w xs).map (cst r)).map pt)):=by
 have h1:=Z1D hg (mo:=ĕ 0) (ρ:= [.sh (Z6 (Ze w) w xs),.sh (c3 r)]) (ρ1:=[.sh (Z6 (Ze w) w xs),.sh (c3 r)]) (by simp)
 have h2:=Z1h hr hl
 generalize ((Zl w xs).map (cst r)).map pt=Y at *
 generalize (Zl w xs).map c3=Z at *
 generalize Z6 (Ze w) w xs=v at *
 generalize c3 r=R at *
 simp[Eo,Ku,List.replicate,h1,h2,-Qc]
def Fe(s:Hu.Pt):P3:=(2*s.1,2*s.2,0)
def Z28{w:Str}{xs:List Int}(hg:Za w xs=true):(Zl w xs).length<=8/\Zl w xs≠[]/\∀p∈Zl w xs,PB p:=by
 have hp:Zh xs=true->(Z4 "Post" xs).length<=8/\Z4 "Post" xs≠[]/\∀p∈Z4 "Post" xs,PB p:=by
  intro h
  match xs,h with
  | [a,b,c],h=>
    simp[Zh,aq,zE] at h
    simp[Z4,ZY,Zx,PB]
    omega
 have hf:Zf xs=true->(Z4 "Fence" xs).length<=8/\Z4 "Fence" xs≠[]/\∀p∈Z4 "Fence" xs,PB p:=by
  intro h
  match xs,h with
  | [a,b,c,d,e],h=>
    simp[Zf,Zi,aq,zE] at h
    simp[Z4,PB]
    omega
 have hs:Zb xs=true->(Z4 "Sail" xs).length<=8/\Z4 "Sail" xs≠[]/\∀p∈Z4 "Sail" xs,PB p:=by
  intro h
  match xs,h with
  | [a,b,c,d,e],h=>
    simp[Zb,Zi,aq,zE] at h
    simp[Z4,Zx,PB]
    omega
 have hh:Zb xs=true->(Z4 "House" xs).length<=8/\Z4 "House" xs≠[]/\∀p∈Z4 "House" xs,PB p:=by
  intro h
  match xs,h with
  | [a,b,c,d,e],h=>
    simp[Zb,Zi,aq,zE] at h
    simp[Z4,ZY,Zx,PB]
    omega
 have hc:Zg xs=true->(Z4 "Cloth" xs).length<=8/\Z4 "Cloth" xs≠[]/\∀p∈Z4 "Cloth" xs,PB p:=by
  intro h
  match xs,h with
  | [a,b,c,d,e,f,g,i,j],h=>
    simp[Zg,aq,zF] at h
    simp[Z4,PB]
    omega
 unfold Za at hg
 unfold Zl Ze
 by_cases e1:w= "post"
 ·rw[if_pos e1] at hg ⊢;exact hp hg
 rw[if_neg e1] at hg ⊢
 by_cases e2:w= "fence"
 ·rw[if_pos e2] at hg ⊢;exact hf hg
 rw[if_neg e2] at hg ⊢
 by_cases e3:w= "sail"
 ·rw[if_pos e3] at hg ⊢;exact hs hg
 rw[if_neg e3] at hg ⊢
 by_cases e4:w= "cloth"
 ·rw[if_pos e4] at hg ⊢;exact hc hg
 rw[if_neg e4] at hg ⊢
 by_cases e5:w= "house"
 ·rw[if_pos e5] at hg;exact hh hg
 ·rw[if_neg e5] at hg;cases hg
def shB(w:Str)(xs:List Int)(s:Hu.Pt)(r:P3):Bool:=(Hu.Z02 ((Zl w xs).map (cst r)) (cst r (Fe s))).isNone
def Z1E(b:Nat):Builtin.bitNot (b:Int)= -(b:Int)-1:=rfl
def Z1F(a b:Nat):Builtin.bitOr a b=((a ||| b:Nat):Int):=by
 unfold Builtin.bitOr Builtin.bitAnd
 rw[Z1E,Z1E]
 have h1:decide (0<= -(a:Int)-1)=false:=by simp;omega
 have h2:decide (0<= -(b:Int)-1)=false:=by simp;omega
 rw[h1,h2]
 have e1:(Builtin.bitNot (-(a:Int)-1)).toNat=a:=by unfold Builtin.bitNot;omega
 have e2:(Builtin.bitNot (-(b:Int)-1)).toNat=b:=by unfold Builtin.bitNot;omega
 simp only[e1,e2]
 unfold Builtin.bitNot
 omega
def Z2E(a k:Nat):(a:Int) / 2 ^ k=((a >>> k:Nat):Int):=by
 rw[Nat.shiftRight_eq_div_pow]
 simp
def ZH(a k:Nat):(a:Int) / 2 ^ k % 2=if a.testBit k then 1 else 0:=by
 rw[Z2E]
 have:(a >>> k) % 2=if a.testBit k then 1 else 0:=by
  rw[Nat.testBit]
  have h:1 &&& (a >>> k)=(a >>> k) % 2:=by rw[Nat.and_comm];exact Nat.and_one_is_mod _
  rw[h]
  have:(a >>> k) % 2=0\/(a >>> k) % 2=1:=by omega
  rcases this with e|e<;>simp[e]
 by_cases q:a.testBit k=true
 ·rw[if_pos q] at this ⊢;omega
 ·rw[if_neg q] at this ⊢;omega
def Z1i(a:Int):Builtin.bitAnd a 1=a % 2:=PyProof.Rows.bitAnd_m1 a
abbrev Th:=Str×List Int
def zG(t:Th):PV:=Z6 (Ze t.1) t.1 t.2
def cA:Option P3->PV
 |none=>.non
 |some r=>c3 r
abbrev Dy:=Str×Int×List (Option P3)
def kY(d:Dy):PV:=.tup [.str d.1,.int d.2.1,.lst (d.2.2.map cA)]
def Z0(w h:Int)(T:List Th)(D:List Dy):PV:=.ins "Yard" ["width","height","things","days"] [.int w,.int h,.lst (T.map zG),.lst (D.map kY)]
def ywh:(Str.ofString "width" =Str.ofString "height")=False:=eq_false (by decide +kernel)
def ywt:(Str.ofString "width" =Str.ofString "things")=False:=eq_false (by decide +kernel)
def ywd:(Str.ofString "width" =Str.ofString "days")=False:=eq_false (by decide +kernel)
def yht:(Str.ofString "height" =Str.ofString "things")=False:=eq_false (by decide +kernel)
def yhd:(Str.ofString "height" =Str.ofString "days")=False:=eq_false (by decide +kernel)
def ytd:(Str.ofString "things" =Str.ofString "days")=False:=eq_false (by decide +kernel)
def y_w(w h:Int)(T:List Th)(D:List Dy):aD ["Yard"] (Str.ofString "width") (Z0 w h T D)=some (.int w):=by
 unfold aD Z0
 simp
def y_h(w h:Int)(T:List Th)(D:List Dy):aD ["Yard"] (Str.ofString "height") (Z0 w h T D)=some (.int h):=by
 have:(Str.ofString "height" == Str.ofString "width")=false:=by decide +kernel
 unfold aD Z0
 simp[List.lookup_cons,this]
def y_t(w h:Int)(T:List Th)(D:List Dy):aD ["Yard"] (Str.ofString "things") (Z0 w h T D)=some (.lst (T.map zG)):=by
 have e1:(Str.ofString "things" == Str.ofString "width")=false:=by decide +kernel
 have e2:(Str.ofString "things" == Str.ofString "height")=false:=by decide +kernel
 unfold aD Z0
 simp[List.lookup_cons,e1,e2]
def y_d(w h:Int)(T:List Th)(D:List Dy):aD ["Yard"] (Str.ofString "days") (Z0 w h T D)=some (.lst (D.map kY)):=by
 have e1:(Str.ofString "days" == Str.ofString "width")=false:=by decide +kernel
 have e2:(Str.ofString "days" == Str.ofString "height")=false:=by decide +kernel
 have e3:(Str.ofString "days" == Str.ofString "things")=false:=by decide +kernel
 unfold aD Z0
 simp[List.lookup_cons,e1,e2,e3]
def Z1G(D:List Dy)(hD:D.length<=100000)(s0 s1 s2:P.Slot):į (gT 3 (ę (gN 0) (ę (gN 1) (ę (gN 2) ŏ)))) ĭ (ŀ (ă (ĕ 0) (ă (ĕ 1) (ă (Ď (fW aK (ă (Ā 2) Đ))) Đ)))) (D.map kY) [s0,s1,s2] []=some (D.map kY):=by
 have h:=ī (g:=gT 3 (ę (gN 0) (ę (gN 1) (ę (gN 2) ŏ)))) (mt:=ĭ) (me:=ŀ (ă (ĕ 0) (ă (ĕ 1) (ă (Ď (fW aK (ă (Ā 2) Đ))) Đ)))) kY kY (λρ=>∃a b c,ρ=[a,b,c]) D [s0,s1,s2] [] ⟨_,_,_,rfl⟩ (by simp;omega) (by
  rintro d _ ρ ⟨a,b,c,rfl⟩
  refine⟨[.sh (.str d.1),.sh (.int d.2.1),.sh (.lst (d.2.2.map cA))],[.sh (.str d.1),.sh (.int d.2.1),.sh (.lst (d.2.2.map cA))],[.sh (.str d.1),.sh (.int d.2.1),.sh (.lst (d.2.2.map cA))],by simp[kY],rfl,by simp[kY],_,_,_,rfl⟩)
 simpa using h
def Z2F(w h:Int){T:List Th}{D:List Dy}(hT:T.length<=100000)(hD:D.length<=100000){s3 s4:P.Slot}(h3:Sl s3 (T.map zG))(h4:Sl s4 (D.map kY)):jT [.sh (.int w),.sh (.int h),s3,s4]=.ok ["width","height","things","days"] [.int w,.int h,.lst (T.map zG),.lst (D.map kY)]:=by
 have c:=Z1G D hD .no .no .no
 generalize hx:T.map zG=tx at *
 generalize hy:D.map kY=dx at *
 rcases h3 with rfl|rfl<;>rcases h4 with rfl|rfl<;>simp[jT,cL,Bk,iV,IR.of,List.replicate,putN,Ba,ywh,ywt,ywd,yht,yhd,ytd,c]
def Z8:Nat->(Nat->Bool)->Nat
 |0,_=>0
 |n+1,p=>Z8 n p+if p n then 2 ^ n else 0
theorem ZL(p:Nat->Bool):∀n,Z8 n p<2 ^ n
 |0=>by simp[Z8]
 |n+1=>by
  have:=ZL p n
  unfold Z8
  rw[Nat.pow_succ]
  split<;>omega
theorem Z0k(p:Nat->Bool):∀n k,(Z8 n p).testBit k=(decide (k<n) && p k)
 |0,k=>by simp[Z8]
 |n+1,k=>by
  have hl:=ZL p n
  unfold Z8
  by_cases h:k<n
  ·have ih:=Z0k p n k
   have h1:k<n+1:=by omega
   split
   ·rw[Nat.add_comm,Nat.testBit_two_pow_add_gt h,ih];simp[h,h1]
   ·rw[Nat.add_zero,ih];simp[h,h1]
  ·by_cases h2:k=n
   ·subst h2
    split
    ·rename_i q
     rw[Nat.add_comm,Nat.testBit_two_pow_add_eq,Nat.testBit_lt_two_pow hl];simp[q]
    ·rename_i q
     rw[Nat.add_zero,Nat.testBit_lt_two_pow hl];simp[q]
   ·have h3:¬k<n+1:=by omega
    have:Z8 n p+(if p n=true then 2 ^ n else 0)<2 ^ k:=by
     refine Nat.lt_of_lt_of_le (ZL p (n+1)) (Nat.pow_le_pow_right (by omega) (by omega))
    rw[Nat.testBit_lt_two_pow this]
    simp[h3]
def Z3n{k w h:Nat}(hw:0<w):k / w<h↔k<w*h:=by
 rw[Nat.div_lt_iff_lt_mul hw,Nat.mul_comm]
def cZ(w k:Nat):Hu.Pt:=(((k % w:Nat):Int),((k / w:Nat):Int))
def Nf(t:Th)(s:Hu.Pt)(r:P3):Bool:=shB t.1 t.2 s r
def Nk(w:Nat)(T:List Th):Option P3->Nat->Bool
 |none,_=>true
 |some r,k=>T.any λt=>Nf t (cZ w k) r
def GC(o:Option P3):Prop:=match o with|none=>True|some r=>RB r/\0<r.2.2
def Z0B:Option Hu.Ln->PV
 |some l=>fX l
 |none=>.non
def Z1j{S:List Hu.Pt}{sl:P.Slot}(hs:Sl sl (S.map pt))(hS:∀p∈S,Sm p)(h0:S≠[])(hl:S.length<=1000)(p:Hu.Pt):yH [sl,.sh (pt p)]=.ret (.sh (Z0B (Hu.Z02 S p))):=by
 have h1:=Z23 hs hS h0 hl
 have e:(Hu.ZC S).findSome? (λl=>if Hu.hd l p=true then none else some l)=Hu.Z02 S p:=by
  unfold Hu.Z02
  generalize Hu.ZC S=L
  induction L with
  |nil=>rfl
  |cons l L ih=>
   rw[List.findSome?_cons,List.find?_cons]
   cases q:Hu.hd l p with
   |true=>simpa using ih
   |false=>simp
 rcases bR (g:=gN 2) (mb:=vI) fX (λl=>if Hu.hd l p=true then none else some l) (λl=>.sh (fX l)) (λρ=>∃s2,ρ=[sl,.sh (pt p),s2]) (Hu.ZC S) (by
  rintro l hm ρ ⟨s2,rfl⟩
  refine⟨[sl,.sh (pt p),.sh (fX l)],by simp,?_⟩
  have hh:=Z0y (Z2W hm hS) p
  cases q:Hu.hd l p with
  |true=>
   rw[q] at hh
   exact .inr ⟨[sl,.sh (pt p),.sh (fX l)],by simp,by simp[vI,hh],_,rfl⟩
  |false=>
   rw[q] at hh
   exact .inl ⟨l,[sl,.sh (pt p),.sh (fX l)],by simp,by simp[vI,hh]⟩) [sl,.sh (pt p),.no] ⟨_,rfl⟩ with⟨l,ρ',q1,q2⟩|⟨ρ',q1,q2,_⟩
 ·rw[e] at q1
  rw[q1]
  simp[yH,Bl,List.replicate,hs.lend,h1,q2,Z0B]
 ·rw[e] at q1
  rw[q1]
  simp[yH,Bl,List.replicate,hs.lend,h1,q2,Z0B]
def rH(q:Nat×Nat):PV:=.tup [.int q.1,.int q.2]
def Œ(q:Nat×Nat×Nat):PV:=.tup [.int q.1,.int q.2.1,.int q.2.2]
def Z1H(j:Nat)(hj:j<=1000)(acc:List PV)(s0:P.Slot)(ha:acc.length+j<=16777216):qz [s0,.ow acc,.sh (.int j)]=.ok .nx [s0,.ow (acc++((List.range j).map λi=>(i,j)).map rH),.sh (.int j)]:=by
 have c1:į (gN 1) ĭ (ŀ (ă (ĕ 1) (ă (ĕ 0) Đ))) ((List.range j).map λ(i:Nat)=>PV.int (i:Int)) [.sh (.int j),.no] []=some (((List.range j).map λi=>(i,j)).map rH):=by
  have:=ī (g:=gN 1) (mt:=ĭ) (me:=ŀ (ă (ĕ 1) (ă (ĕ 0) Đ))) (λ(i:Nat)=>PV.int (i:Int)) (λi=>rH (i,j)) (λρ=>∃s,ρ=[.sh (.int j),s]) (List.range j) [.sh (.int j),.no] [] ⟨_,rfl⟩ (by simp;omega) (by
   rintro x hx ρ ⟨s,rfl⟩
   exact⟨[.sh (.int j),.sh (.int x)],[.sh (.int j),.sh (.int x)],[.sh (.int j),.sh (.int x)],by simp,by simp,by simp[rH],_,rfl⟩)
  rw[this,List.map_map]
  rfl
 have hl:acc.length+(((List.range j).map λi=>(i,j)).map rH).length<=16777216:=by simpa using ha
 generalize ((List.range j).map λi=>(i,j)).map rH=qs at c1 hl
 simp[qz,Zj hj,c1,hl]
def Z09(k:Nat):Hu.Z9 (k+1)=Hu.Z9 k++(List.range k).map λi=>(i,k):=by
 unfold Hu.Z9
 rw[List.range_succ,List.flatMap_append]
 simp
theorem ZD:∀n,(Hu.Z9 n).length<=n*n
 |0=>by simp[Hu.Z9]
 |n+1=>by
  have:=ZD n
  rw[Z09,List.length_append,List.length_map,List.length_range,Nat.succ_mul,Nat.mul_succ]
  omega
def ZU(k:Nat):Hu.Zd (k+1)=Hu.Zd k++(Hu.Z9 k).map λq=>(q.1,q.2,k):=by
 unfold Hu.Zd
 rw[List.range_succ,List.flatMap_append]
 simp
theorem ZM{g:Tg}{mb:M Fl}(nb:∀ρ ρ',mb ρ≠ .ok .bk ρ'):∀(xs ys:List PV) (ρ ρ1:ń),forL g mb xs ρ=.ok .nx ρ1->forL g mb (xs++ys) ρ=forL g mb ys ρ1
 | [],ys,ρ,ρ1,h=>by
   have e:Res.ok Fl.nx ρ=.ok .nx ρ1:=h
   cases e
   rfl
 |x::xs,ys,ρ,ρ1,h=>by
  rw[List.cons_append,forL]
  rw[forL] at h
  cases e:g x ρ with
  |none=>rw[e] at h;cases h
  |some ρ2=>
   rw[e] at h
   dsimp only at h ⊢
   cases e2:mb ρ2 with
   |bad=>rw[e2] at h;cases h
   |exc x ρ3=>rw[e2] at h;cases h
   |ok f ρ3=>
    rw[e2] at h
    cases f with
    |nx=>exact ZM nb xs ys ρ3 ρ1 h
    |ct=>exact ZM nb xs ys ρ3 ρ1 h
    |bk=>exact absurd e2 (nb ρ2 ρ3)
    |rt r=>cases h
def Z0C{g:Tg}{mb:M Fl}{p:PV}{ρ ρ1 ρ2:ń}(h1:g p ρ=some ρ1)(h2:mb ρ1=.ok .nx ρ2):forL g mb [p] ρ=.ok .nx ρ2:=by
 rw[forL,h1]
 dsimp only
 rw[h2]
 rfl
def Z1I{i:Nat}{mo:M RV}{ρ ρ':ń}:vo i mo ρ≠ .ok .bk ρ':=by
 unfold vo
 intro h
 split at h
 ·cases e:mo ρ with
  |bad=>rw[e] at h;cases h
  |exc x ρ1=>rw[e] at h;cases h
  |ok r ρ1=>
   rw[e] at h
   simp only[Res.aH] at h
   split at h
   ·split at h<;>cases h
   ·cases h
 ·cases h
def Z0D(n:Nat)(hn:n<=100):yI [.sh (.int n)]=.ret (.ow ((Hu.Z9 n).map rH)):=by
 have key:∀k,k<=n->∃s2,forL (gN 2) qz ((List.range k).map λ(i:Nat)=>PV.int (i:Int)) [.sh (.int n),.ow [],.no]=.ok .nx [.sh (.int n),.ow ((Hu.Z9 k).map rH),s2]:=by
  intro k
  induction k with
  |zero=>intro _;exact⟨.no,rfl⟩
  |succ k ih=>
   intro hk
   obtain⟨s2,e⟩:=ih (by omega)
   refine⟨.sh (.int k),?_⟩
   rw[List.range_succ,List.map_append,ZM (mb:=qz) (λ_ _=>Z1I) _ _ _ _ e,Z09,List.map_append]
   have hlen:=ZD k
   have hm:k*k<=100*100:=Nat.mul_le_mul (by omega) (by omega)
   exact Z0C rfl (Z1H k (by omega) ((Hu.Z9 k).map rH) (.sh (.int n)) (by rw[List.length_map];omega))
 obtain⟨s2,e⟩:=key n (Nat.le_refl n)
 have hr:=Zj (show n<=1000 by omega)
 simp[yI,Ke,List.replicate,hr,e]
def Z0Y(k:Nat)(hk:k<=100)(acc:List PV)(s0:P.Slot)(ha:acc.length<=10000000):qC [s0,.ow acc,.sh (.int k)]=.ok .nx [s0,.ow (acc++((Hu.Z9 k).map λq=>(q.1,q.2,k)).map Œ),.sh (.int k)]:=by
 have hlen:=ZD k
 have hm:k*k<=100*100:=Nat.mul_le_mul (by omega) (by omega)
 have c1:į (gN 1) ĭ (ŀ (ă (Ą ē (Ā 1) (mC (.int 0))) (ă (Ą ē (Ā 1) (mC (.int 1))) (ă (ĕ 0) Đ)))) ((Hu.Z9 k).map rH) [.sh (.int k),.no] []=some (((Hu.Z9 k).map λq=>(q.1,q.2,k)).map Œ):=by
  have:=ī (g:=gN 1) (mt:=ĭ) (me:=ŀ (ă (Ą ē (Ā 1) (mC (.int 0))) (ă (Ą ē (Ā 1) (mC (.int 1))) (ă (ĕ 0) Đ)))) rH (λq=>Œ (q.1,q.2,k)) (λρ=>∃s,ρ=[.sh (.int k),s]) (Hu.Z9 k) [.sh (.int k),.no] [] ⟨_,rfl⟩ (by simp;omega) (by
   rintro x hx ρ ⟨s,rfl⟩
   exact⟨[.sh (.int k),.sh (rH x)],[.sh (.int k),.sh (rH x)],[.sh (.int k),.sh (rH x)],by simp,by simp,by simp[rH,Œ],_,rfl⟩)
  rw[this,List.map_map]
  rfl
 have hl:acc.length+(((Hu.Z9 k).map λq=>(q.1,q.2,k)).map Œ).length<=16777216:=by simp;omega
 have hp:=Z0D k hk
 generalize ((Hu.Z9 k).map λq=>(q.1,q.2,k)).map Œ=qs at c1 hl
 simp[qC,hp,c1,hl]
theorem Z01:∀n,n<=100->(Hu.Zd n).length<=n*10000
 |0,_=>by simp[Hu.Zd]
 |n+1,h=>by
  have:=Z01 n (by omega)
  have h2:=ZD n
  have hm:n*n<=100*100:=Nat.mul_le_mul (by omega) (by omega)
  rw[ZU,List.length_append,List.length_map]
  omega
def Z1k(n:Nat)(hn:n<=100):Em [.sh (.int n)]=.ret (.ow ((Hu.Zd n).map Œ)):=by
 have key:∀k,k<=n->∃s2,forL (gN 2) qC ((List.range k).map λ(i:Nat)=>PV.int (i:Int)) [.sh (.int n),.ow [],.no]=.ok .nx [.sh (.int n),.ow ((Hu.Zd k).map Œ),s2]:=by
  intro k
  induction k with
  |zero=>intro _;exact⟨.no,rfl⟩
  |succ k ih=>
   intro hk
   obtain⟨s2,e⟩:=ih (by omega)
   refine⟨.sh (.int k),?_⟩
   rw[List.range_succ,List.map_append,ZM (mb:=qC) (λ_ _=>Z1I) _ _ _ _ e,ZU,List.map_append]
   have hlen:=Z01 k (by omega)
   exact Z0C rfl (Z0Y k (by omega) ((Hu.Zd k).map Œ) (.sh (.int n)) (by rw[List.length_map];omega))
 obtain⟨s2,e⟩:=key n (Nat.le_refl n)
 have hr:=Zj (show n<=1000 by omega)
 simp[Em,Kf,List.replicate,hr,e]
def W(x:Int):Prop:=-100000000000000000000000000000000000000000000000000<x/\x<100000000000000000000000000000000000000000000000000
theorem W.bits{x:Int}(h:W x):bits x<=200:=jO (n:=200) (by have:=h.1;omega) (by have:=h.2;omega)
def dif{a b:Int}(h1: -100000000000000000<=a)(h2:a<=100000000000000000)(h3: -100000000000000000<=b)(h4:b<=100000000000000000): -200000000000000000<=a-b/\a-b<=200000000000000000:=by omega
def Z0e{a b c d:Int}(h1: -c<=a)(h2:a<=c)(h3: -d<=b)(h4:b<=d)(hc:0<=c)(hd:0<=d): -(c*d)<=a*b/\a*b<=c*d:=by
 have e1:(a*b).natAbs=a.natAbs*b.natAbs:=Int.natAbs_mul a b
 have e2:a.natAbs*b.natAbs<=c.natAbs*d.natAbs:=Nat.mul_le_mul (by omega) (by omega)
 have e3:(c*d).natAbs=c.natAbs*d.natAbs:=Int.natAbs_mul c d
 have e4:0<=c*d:=Int.mul_nonneg hc hd
 omega
def ZV{a b c:Hu.Pt}(ha:Sm a)(hb:Sm b)(hc:Sm c):uy [.sh (pt a),.sh (pt b),.sh (pt c)]=.ret (.sh (.int (Hu.tn a b c))):=by
 obtain⟨a1,a2,a3,a4⟩:=ha
 obtain⟨b1,b2,b3,b4⟩:=hb
 obtain⟨c1,c2,c3,c4⟩:=hc
 have m1:Ő (b.1-a.1) (c.2-a.2)=true:=bC (by omega) (by omega)
 have m2:Ő (b.2-a.2) (c.1-a.1)=true:=bC (by omega) (by omega)
 simp[uy,Kg,List.replicate,pt,Hu.tn,m1,m2]
def Z29{a b c:Hu.Pt}(ha:Sm a)(hb:Sm b)(hc:Sm c): -80000000000000000000000000000000000<=Hu.tn a b c/\Hu.tn a b c<=80000000000000000000000000000000000:=by
 obtain⟨a1,a2,a3,a4⟩:=ha
 obtain⟨b1,b2,b3,b4⟩:=hb
 obtain⟨c1,c2,c3,c4⟩:=hc
 obtain⟨x1,x2⟩:=dif b1 b2 a1 a2
 obtain⟨y1,y2⟩:=dif c3 c4 a3 a4
 obtain⟨z1,z2⟩:=dif b3 b4 a3 a4
 obtain⟨w1,w2⟩:=dif c1 c2 a1 a2
 obtain⟨p1,p2⟩:=Z0e x1 x2 y1 y2 (by decide) (by decide)
 obtain⟨q1,q2⟩:=Z0e z1 z2 w1 w2 (by decide) (by decide)
 unfold Hu.tn
 omega
def Z2a{a b c p:Hu.Pt}(ha:Sm a)(hb:Sm b)(hc:Sm c)(hp:Sm p):Qm [.sh (.lst [pt a,pt b,pt c]),.sh (pt p)]=.ret (.ow ((Hu.vD a b c p).map .int)):=by
 simp[Qm,Uc,List.replicate,ZV hp hb hc,ZV ha hp hc,ZV ha hb hp,Hu.vD]
def Z32{a b p:Hu.Pt}(ha:Sm a)(hb:Sm b)(hp:Sm p):En [.sh (.lst [pt a,pt b]),.sh (pt p)]=.ret (.ow ((Hu.vG a b p).map .int)):=by
 obtain⟨a1,a2,a3,a4⟩:=ha
 obtain⟨b1,b2,b3,b4⟩:=hb
 obtain⟨c1,c2,c3,c4⟩:=hp
 have m1:∀x,Ő (b.1-a.1) x=true:=λx=>bC (by omega) (by omega)
 have m2:∀x,Ő (b.2-a.2) x=true:=λx=>bC (by omega) (by omega)
 simp[En,Kh,List.replicate,pt,Hu.vG,m1,m2]
def Z3o{a b c p:Hu.Pt}(ha:Sm a)(hb:Sm b)(hc:Sm c)(hp:Sm p):∀s∈Hu.vD a b c p,-400000000000000000000000000000000000<=s/\s<=400000000000000000000000000000000000:=by
 have h1:=Z29 hp hb hc
 have h2:=Z29 ha hp hc
 have h3:=Z29 ha hb hp
 intro s hs
 simp only[Hu.vD,List.mem_cons,List.not_mem_nil,or_false] at hs
 rcases hs with e|e|e<;>omega
def Z3p{a b p:Hu.Pt}(ha:Sm a)(hb:Sm b)(hp:Sm p):∀s∈Hu.vG a b p,-400000000000000000000000000000000000<=s/\s<=400000000000000000000000000000000000:=by
 obtain⟨a1,a2,a3,a4⟩:=ha
 obtain⟨b1,b2,b3,b4⟩:=hb
 obtain⟨c1,c2,c3,c4⟩:=hp
 obtain⟨x1,x2⟩:=dif b1 b2 a1 a2
 obtain⟨z1,z2⟩:=dif b3 b4 a3 a4
 obtain⟨y1,y2⟩:=dif c1 c2 a1 a2
 obtain⟨w1,w2⟩:=dif c3 c4 a3 a4
 obtain⟨p1,p2⟩:=Z0e x1 x2 y1 y2 (by decide) (by decide)
 obtain⟨q1,q2⟩:=Z0e z1 z2 w1 w2 (by decide) (by decide)
 obtain⟨r1,r2⟩:=Z0e x1 x2 x1 x2 (by decide) (by decide)
 obtain⟨t1,t2⟩:=Z0e z1 z2 z1 z2 (by decide) (by decide)
 intro s hs
 simp only[Hu.vG,List.mem_cons,List.not_mem_nil,or_false] at hs
 rcases hs with e|e<;>omega
def ShB(w:List Int):Prop:=w.length<=3/\∀s∈w,-400000000000000000000000000000000000<=s/\s<=400000000000000000000000000000000000
theorem ShB.sum{w:List Int}(h:ShB w): -2000000000000000000000000000000000000<=w.sum/\w.sum<=2000000000000000000000000000000000000:=by
 obtain⟨h1,h2⟩:=h
 match w,h1,h2 with
 | [],_,_=>simp
 | [a],_,h2=>have:=h2 a (by simp);simp;omega
 | [a,b],_,h2=>have:=h2 a (by simp);have:=h2 b (by simp);simp;omega
 | [a,b,c],_,h2=>have:=h2 a (by simp);have:=h2 b (by simp);have:=h2 c (by simp);simp;omega
def Z04{x:Int}(h1: -2000000000000000000000000000000000000<=x)(h2:x<=2000000000000000000000000000000000000):bits x<=200:=jO (n:=200) (by omega) (by omega)
def Z2p{w:List Int}(h:ShB w){sl:P.Slot}(hs:Sl sl (w.map .int)):uz [sl]=.ret (.sh (.bl (Hu.Zv w))):=by
 obtain⟨s1,s2⟩:=h.sum
 have hb:=Z04 s1 s2
 have c1:į (gN 1) ĭ (Ą I_ (Ą ĳ (Ā 1) (Ā 0)) (mC (.int 0))) (w.map .int) [.sh (.int w.sum),.no] []=some ((w.map λs=>decide (0<=s*w.sum)).map .bl):=by
  have:=ī (g:=gN 1) (mt:=ĭ) (me:=Ą I_ (Ą ĳ (Ā 1) (Ā 0)) (mC (.int 0))) PV.int (λs=>.bl (decide (0<=s*w.sum))) (λρ=>∃s,ρ=[.sh (.int w.sum),s]) w [.sh (.int w.sum),.no] [] ⟨_,rfl⟩ (by have:=h.1;simp;omega) (by
   rintro x hx ρ ⟨s,rfl⟩
   have hx':=h.2 x hx
   have hm:Ő x w.sum=true:=Zdg (Nat.le_trans (Z04 (by omega) (by omega)) (by decide)) (Nat.le_trans hb (by decide))
   exact⟨[.sh (.int w.sum),.sh (.int x)],[.sh (.int w.sum),.sh (.int x)],[.sh (.int w.sum),.sh (.int x)],by simp,by simp,by simp[hm],_,rfl⟩)
  rw[this,List.map_map]
  rfl
 have c2:=Z1z (w.map λs=>decide (0<=s*w.sum))
 have c3:(w.map λs=>decide (0<=s*w.sum)).all id=w.all λs=>decide (0<=s*w.sum):=by simp
 rw[c3] at c2
 unfold Hu.Zv
 have hsum:nO [.lst (w.map .int)]=some (.int w.sum):=by simp
 unfold Sl at hs
 generalize (w.map λs=>decide (0<=s*w.sum)).map PV.bl=bs at c1 c2
 generalize (w.all λs=>decide (0<=s*w.sum))=q at c2
 generalize w.map PV.int=ws at c1 hsum hs
 generalize w.sum=S at c1 hsum
 by_cases h0:S=0
 ·subst h0
  rcases hs with rfl|rfl<;>simp[uz,Bo,List.replicate,-iz,hsum]
 ·rcases hs with rfl|rfl<;>simp[uz,Bo,List.replicate,-iz,hsum,c1,c2,h0]
def Z2q(x y:Int):Ql [.sh (.int x),.sh (.int y)]=.ret (.sh (.int (My.gd x y))):=by
 obtain⟨⟨u,v,r⟩,e1,e2,e3⟩:=A_ (mc:=(cu (Ą aC (Ā 1) (mC (.int 0))))) (mb:=(Ě (Ĩ 2 (Ŋ (Ą ĩ (Ā 0) (Ā 1)))) (Ě (Ĩ 0 (Ŋ (ĕ 1))) (Ĩ 1 (Ŋ (ĕ 2))))))
  (fun b:Int×Int×P.Slot=>[.sh (.int b.1),.sh (.int b.2.1),b.2.2]) (fun b=>My.gd b.1 b.2.1=My.gd x y) (fun b=>b.2.1.natAbs) (b:=(x,y,.no)) (by
    rintro ⟨u,v,r⟩ e
    by_cases hv:v=0
    ·left;simp[hv]
    ·right;exact⟨by simp[hv],(v,u.fmod v,.sh (.int (u.fmod v))),by simp[hv],(My.Z2s u v).trans e,My.Z2t u hv⟩) rfl
 have hv:v=0:=by simpa using e3
 subst hv
 have e1':Ua [.sh (.int x),.sh (.int y),.no]=_:=e1
 simp[Ql,Ub,List.replicate,e1',<-e2,My.Z2u]
def Z2G(t:Int){b:Int}{n:Nat}(h:b≠0)(hb:bits b<=n):bits (My.gd t b)<=n:=by
 refine intBits_le_of_natAbs ?_ hb
 have h1:=My.Z3m t h
 have h2:=My.Z1t t b
 omega
def rt(t b:Int):Int×Int:=(t.fdiv (My.dv t b),b.fdiv (My.dv t b))
def Z0E{t b:Int}(h:b≠0)(hz:bits b<=8000):mR [.sh (.int t),.sh (.int b)]=.ret (.sh (pt (rt t b))):=by
 have g1:=Z2G t h hz
 have g0:=My.Z2Q t h
 by_cases hn:b<0
 ·have e:My.dv t b= - My.gd t b:=if_pos hn
  have c:∀i,gC i (- My.gd t b)=true:=λi=>xX (by omega) (intBits_neg_le g1)
  simp[mR,Bm,List.replicate,h,Z2q,hn,c,e,pt,rt]
 ·have e:My.dv t b=My.gd t b:=if_neg hn
  have c:∀i,gC i (My.gd t b)=true:=λi=>xX (by omega) g1
  simp[mR,Bm,List.replicate,h,Z2q,hn,c,e,pt,rt]
def ZW{w:List Int}{q:List Nat}{n:Nat}(hw:ShB w)(h0:w.sum≠0)(hl:w.length=q.length)(hq:∀i∈q,i<n)(hn:n<=100){s0 s1:P.Slot}(hs0:Sl s0 (w.map .int))(hs1:s1=.sh (.lst (q.map λ(i:Nat)=>.int (i:Int)))\/s1=.sh (.tup (q.map λ(i:Nat)=>.int (i:Int)))) :
 jU [s0,s1,.sh (.int n)]=.ret (.ow ((Fr.lay (List.replicate n 0) (w.zip q)).map λs=>pt (rt s w.sum))):=by
 obtain⟨b1,b2⟩:=hw.sum
 have hb:=Nat.le_trans (Z04 b1 b2) (show 200<=8000 by decide)
 have hsum:nO [.lst (w.map .int)]=some (.int w.sum):=by simp
 have c1:į (gN 1) ĭ (Ď (ď mR (Ĕ (mC (.int 0)) (Ă 0 Ċ)))) ((List.range n).map λ(i:Nat)=>PV.int (i:Int)) [.sh (.int w.sum),.no] []=some ((List.replicate n (0:Int)).map λs=>pt (rt s w.sum)):=by
  have:=ī (g:=gN 1) (mt:=ĭ) (me:=Ď (ď mR (Ĕ (mC (.int 0)) (Ă 0 Ċ)))) (λ(i:Nat)=>PV.int (i:Int)) (λ_=>pt (rt 0 w.sum)) (λρ=>∃s,ρ=[.sh (.int w.sum),s]) (List.range n) [.sh (.int w.sum),.no] [] ⟨_,rfl⟩ (by simp;omega) (by
   rintro x hx ρ ⟨s,rfl⟩
   exact⟨[.sh (.int w.sum),.sh (.int x)],[.sh (.int w.sum),.sh (.int x)],[.sh (.int w.sum),.sh (.int x)],by simp,by simp,by simp[Z0E h0 hb],_,rfl⟩)
  rw[this]
  simp[List.map_const']
 have hz:jM (w.map .int) (q.map λ(i:Nat)=>PV.int (i:Int))=(w.zip q).map λa=>.tup [.int a.1,.int (a.2:Int)]:=by
  clear hw h0 hl hq hs0 hs1 hsum c1 hb b1 b2
  induction w generalizing q with
  |nil=>simp[jM]
  |cons x w ih=>
   cases q with
   |nil=>simp[jM]
   |cons i q=>simp[jM,ih]
 have loop:∀s0' s1',∃ρ',forL (gT 2 (ę (gN 5) (ę (gN 6) ŏ))) vJ ((w.zip q).map λa=>.tup [.int a.1,.int (a.2:Int)]) [s0',s1',.sh (.int n),.sh (.int w.sum),.ow ((List.replicate n (0:Int)).map λs=>pt (rt s w.sum)),.no,.no]=.ok .nx ρ'/\ρ'[4]?=some (.ow ((Fr.lay (List.replicate n 0) (w.zip q)).map λs=>pt (rt s w.sum))):=by
  intro s0' s1'
  obtain⟨ρ',e,s5,s6,hρ,_⟩:=dN (g:=gT 2 (ę (gN 5) (ę (gN 6) ŏ))) (mb:=vJ) (λa:Int×Nat=>.tup [.int a.1,.int (a.2:Int)]) (λacc a=>acc.set a.2 a.1)
   (fun acc ρ=>∃s5 s6,ρ=[s0',s1',.sh (.int n),.sh (.int w.sum),.ow (acc.map fun s=>pt (rt s w.sum)),s5,s6]∧acc.length=n) (w.zip q) (by
     rintro ⟨x,i⟩ hx acc ρ ⟨s5,s6,rfl,hlen⟩
     have hi:i<n:=hq i (List.of_mem_zip hx).2
     have hix:Ac acc.length (i:Int)=some i:=by
      unfold Ac
      rw[if_pos (by omega),if_pos (by omega)]
      simp
     refine⟨[s0',s1',.sh (.int n),.sh (.int w.sum),.ow (acc.map λs=>pt (rt s w.sum)),.sh (.int x),.sh (.int i)],[s0',s1',.sh (.int n),.sh (.int w.sum),.ow ((acc.set i x).map λs=>pt (rt s w.sum)),.sh (.int x),.sh (.int i)],by simp,?_,_,_,rfl,by simpa using hlen⟩
     simp[vJ,Z0E h0 hb,hix,List.map_set]) (List.replicate n 0) [s0',s1',.sh (.int n),.sh (.int w.sum),.ow ((List.replicate n (0:Int)).map λs=>pt (rt s w.sum)),.no,.no] ⟨_,_,rfl,by simp⟩
  refine⟨ρ',e,?_⟩
  subst hρ
  rfl
 have hr:=Zj (show n<=1000 by omega)
 generalize (List.replicate n (0:Int)).map (λs=>pt (rt s w.sum))=zs at c1 loop
 generalize (Fr.lay (List.replicate n 0) (w.zip q)).map (λs=>pt (rt s w.sum))=rs at loop
 generalize ((w.zip q).map λa=>PV.tup [.int a.1,.int (a.2:Int)])=ls at hz loop
 generalize w.map PV.int=ws at hs0 hsum hz
 generalize w.sum=S at hsum c1 loop
 generalize (q.map λ(i:Nat)=>PV.int (i:Int))=qs at hz hs1
 rcases hs0 with rfl|rfl<;>rcases hs1 with rfl|rfl
 ·obtain⟨ρ',e,e4⟩:=loop (.sh (.lst ws)) (.sh (.lst qs))
  simp[jU,qD,List.replicate,-iz,hsum,hr,c1,hz,Gp,e,e4]
 ·obtain⟨ρ',e,e4⟩:=loop (.sh (.lst ws)) (.sh (.tup qs))
  simp[jU,qD,List.replicate,-iz,hsum,hr,c1,hz,Gp,e,e4]
 ·obtain⟨ρ',e,e4⟩:=loop (.bw ws) (.sh (.lst qs))
  simp[jU,qD,List.replicate,-iz,hsum,hr,c1,hz,Gp,e,e4]
 ·obtain⟨ρ',e,e4⟩:=loop (.bw ws) (.sh (.tup qs))
  simp[jU,qD,List.replicate,-iz,hsum,hr,c1,hz,Gp,e,e4]
def Yd(S:List Hu.Pt)(r:List Int×List Nat):List PV:=(Fr.lay (List.replicate S.length 0) (r.1.zip r.2)).map λs=>pt (rt s r.1.sum)
def gq{S:List Hu.Pt}{i:Nat}(h:i<S.length):(S.map pt)[i]?=some (pt (Hu.at_ S i)):=by
 unfold Hu.at_
 rw[List.getElem?_map,List.getD_eq_getElem?_getD,List.getElem?_eq_getElem h]
 rfl
def Z3q{S:List Hu.Pt}{sl:P.Slot}(hs:Sl sl (S.map pt)){i j k:Nat}(hi:i<S.length)(hj:j<S.length)(hk:k<S.length)(s3:P.Slot):į (gN 1) ĭ (Ą ē (Ā 0) (Ā 1)) [.int (i:Int),.int (j:Int),.int (k:Int)] [sl,s3] []=some [pt (Hu.at_ S i),pt (Hu.at_ S j),pt (Hu.at_ S k)]:=by
 rcases hs with rfl|rfl<;>simp[į,gq hi,gq hj,gq hk,-List.getElem?_map]
def Z3r{S:List Hu.Pt}{sl:P.Slot}(hs:Sl sl (S.map pt)){i j:Nat}(hi:i<S.length)(hj:j<S.length)(s3:P.Slot):į (gN 1) ĭ (Ą ē (Ā 0) (Ā 1)) [.int (i:Int),.int (j:Int)] [sl,s3] []=some [pt (Hu.at_ S i),pt (Hu.at_ S j)]:=by
 rcases hs with rfl|rfl<;>simp[į,gq hi,gq hj,-List.getElem?_map]
def Sl.cap{s:P.Slot}{ps:List PV}(h:Sl s ps):Ŧ s=s:=by rcases h with rfl|rfl<;>rfl
def Z33{a b c p:Hu.Pt}(ha:Sm a)(hb:Sm b)(hc:Sm c)(hp:Sm p):ShB (Hu.vD a b c p):=⟨by simp[Hu.vD],Z3o ha hb hc hp⟩
def Z34{a b p:Hu.Pt}(ha:Sm a)(hb:Sm b)(hp:Sm p):ShB (Hu.vG a b p):=⟨by simp[Hu.vG],Z3p ha hb hp⟩
def Z1l{S:List Hu.Pt}{sl:P.Slot}(hs:Sl sl (S.map pt))(hS:∀p∈S,Sm p)(h0:S≠[])(hl:S.length<=100){p:Hu.Pt}(hp:Sm p):uD [sl,.sh (pt p)]=.ret (.ow (Yd S (Hu.Z1d S p))):=by
 have hat:∀i,i<S.length->Sm (Hu.at_ S i):=λi h=>hS _ (Hu.Z2R h)
 have ht:=Z1k S.length hl
 have hpr:=Z0D S.length hl
 have hlen:ų [.lst (S.map pt)]=some (.int S.length):=by simp
 have F3:=bR (g:=gN 3) (mb:=vL) Œ (λq=>if Hu.Zv (Hu.vD (Hu.at_ S q.1) (Hu.at_ S q.2.1) (Hu.at_ S q.2.2) p)=true then some (Hu.vD (Hu.at_ S q.1) (Hu.at_ S q.2.1) (Hu.at_ S q.2.2) p,[q.1,q.2.1,q.2.2]) else none) (λr=>.ow (Yd S r)) (λρ=>∃s3 s4,ρ=[sl,.sh (pt p),.sh (.int S.length),s3,s4]) (Hu.Zd S.length) (by
  rintro ⟨i,j,k⟩ hm ρ ⟨s3,s4,rfl⟩
  obtain⟨h1,h2,h3⟩:=Hu.Z0X.mp hm
  have hi:i<S.length:=by omega
  have hj:j<S.length:=by omega
  have hb:=Z33 (hat i hi) (hat j hj) (hat k h3) hp
  have e1:=Z2a (hat i hi) (hat j hj) (hat k h3) hp
  have e2:=Z2p hb (sl:=.bw ((Hu.vD (Hu.at_ S i) (Hu.at_ S j) (Hu.at_ S k) p).map .int)) (.inr rfl)
  have e0:=Z3q hs hi hj h3 .no
  refine⟨[sl,.sh (pt p),.sh (.int S.length),.sh (Œ (i,j,k)),s4],rfl,?_⟩
  cases q:Hu.Zv (Hu.vD (Hu.at_ S i) (Hu.at_ S j) (Hu.at_ S k) p) with
  |true=>
   left
   have hg:=Hu.Z0v.mp q
   have e3:=ZW (q:=[i,j,k]) (n:=S.length) hb hg.1 rfl (by simp;omega) hl (s0:=.bw ((Hu.vD (Hu.at_ S i) (Hu.at_ S j) (Hu.at_ S k) p).map .int)) (s1:=.sh (.tup [.int i,.int j,.int k])) (.inr rfl) (.inr rfl)
   rw[q] at e2
   refine⟨_,[sl,.sh (pt p),.sh (.int S.length),.sh (Œ (i,j,k)),.ow ((Hu.vD (Hu.at_ S i) (Hu.at_ S j) (Hu.at_ S k) p).map .int)],rfl,?_⟩
   generalize Hu.vD (Hu.at_ S i) (Hu.at_ S j) (Hu.at_ S k) p=w at *
   generalize hws:w.map PV.int=ws at *
   simp[vL,Œ,hs.cap,e0,e1,e2,e3,Yd]
  |false=>
   right
   rw[q] at e2
   refine⟨[sl,.sh (pt p),.sh (.int S.length),.sh (Œ (i,j,k)),.ow ((Hu.vD (Hu.at_ S i) (Hu.at_ S j) (Hu.at_ S k) p).map .int)],rfl,?_,_,_,rfl⟩
   generalize Hu.vD (Hu.at_ S i) (Hu.at_ S j) (Hu.at_ S k) p=w at *
   generalize hws:w.map PV.int=ws at *
   simp[vL,Œ,hs.cap,e0,e1,e2])
 have F2:=bR (g:=gN 3) (mb:=vK) rH (λq=>if Hu.Zv (Hu.vG (Hu.at_ S q.1) (Hu.at_ S q.2) p)=true then some (Hu.vG (Hu.at_ S q.1) (Hu.at_ S q.2) p,[q.1,q.2]) else none) (λr=>.ow (Yd S r)) (λρ=>∃s3 s4,ρ=[sl,.sh (pt p),.sh (.int S.length),s3,s4]) (Hu.Z9 S.length) (by
  rintro ⟨i,j⟩ hm ρ ⟨s3,s4,rfl⟩
  obtain⟨h1,h2⟩:=Hu.ZQ.mp hm
  have hi:i<S.length:=by omega
  have hb:=Z34 (hat i hi) (hat j h2) hp
  have e1:=Z32 (hat i hi) (hat j h2) hp
  have e2:=Z2p hb (sl:=.bw ((Hu.vG (Hu.at_ S i) (Hu.at_ S j) p).map .int)) (.inr rfl)
  have e0:=Z3r hs hi h2 .no
  refine⟨[sl,.sh (pt p),.sh (.int S.length),.sh (rH (i,j)),s4],rfl,?_⟩
  cases q:Hu.Zv (Hu.vG (Hu.at_ S i) (Hu.at_ S j) p) with
  |true=>
   left
   have hg:=Hu.Z0v.mp q
   have e3:=ZW (q:=[i,j]) (n:=S.length) hb hg.1 rfl (by simp;omega) hl (s0:=.bw ((Hu.vG (Hu.at_ S i) (Hu.at_ S j) p).map .int)) (s1:=.sh (.tup [.int i,.int j])) (.inr rfl) (.inr rfl)
   rw[q] at e2
   refine⟨_,[sl,.sh (pt p),.sh (.int S.length),.sh (rH (i,j)),.ow ((Hu.vG (Hu.at_ S i) (Hu.at_ S j) p).map .int)],rfl,?_⟩
   generalize Hu.vG (Hu.at_ S i) (Hu.at_ S j) p=w at *
   generalize hws:w.map PV.int=ws at *
   simp[vK,rH,hs.cap,e0,e1,e2,e3,Yd]
  |false=>
   right
   rw[q] at e2
   refine⟨[sl,.sh (pt p),.sh (.int S.length),.sh (rH (i,j)),.ow ((Hu.vG (Hu.at_ S i) (Hu.at_ S j) p).map .int)],rfl,?_,_,_,rfl⟩
   generalize Hu.vG (Hu.at_ S i) (Hu.at_ S j) p=w at *
   generalize hws:w.map PV.int=ws at *
   simp[vK,rH,hs.cap,e0,e1,e2])
 have e3:(Hu.Zd S.length).findSome? (λq=>if Hu.Zv (Hu.vD (Hu.at_ S q.1) (Hu.at_ S q.2.1) (Hu.at_ S q.2.2) p)=true then some (Hu.vD (Hu.at_ S q.1) (Hu.at_ S q.2.1) (Hu.at_ S q.2.2) p,[q.1,q.2.1,q.2.2]) else none)=Hu.Z2S S p:=rfl
 have e2:(Hu.Z9 S.length).findSome? (λq=>if Hu.Zv (Hu.vG (Hu.at_ S q.1) (Hu.at_ S q.2) p)=true then some (Hu.vG (Hu.at_ S q.1) (Hu.at_ S q.2) p,[q.1,q.2]) else none)=Hu.Z2T S p:=rfl
 rw[e3] at F3
 rw[e2] at F2
 have e1:=ZW (w:=[1]) (q:=[0]) (n:=S.length) ⟨by simp,by simp⟩ (by simp) rfl (by simpa using List.length_pos_iff.mpr h0) hl (s0:=.sh (.lst [.int 1])) (s1:=.sh (.lst [.int 0])) (.inl rfl) (.inl rfl)
 have hw1:(Fr.lay (List.replicate S.length 0) ([1].zip [0])).map (λs=>pt (rt s [1].sum))=Yd S ([1],[0]):=rfl
 rw[hw1] at e1
 generalize hn:(S.length:Int)=N at *
 generalize (Hu.Zd S.length).map Œ=ts at *
 generalize (Hu.Z9 S.length).map rH=prs at *
 unfold Hu.Z1d
 rcases F3 [sl,.sh (pt p),.sh (.int N),.no,.no] ⟨_,_,rfl⟩ with⟨r,ρ',q1,q2⟩|⟨ρ',q1,q2,s3,s4,hρ⟩
 ·rw[q1]
  rcases hs with rfl|rfl<;>simp[uD,vM,List.replicate,-vh,hlen,ht,q2]
 ·subst hρ
  rw[q1]
  rcases F2 [sl,.sh (pt p),.sh (.int N),s3,s4] ⟨_,_,rfl⟩ with⟨r,ρ',q3,q4⟩|⟨ρ',q3,q4,s3',wR,hρ⟩
  ·rw[q3]
   rcases hs with rfl|rfl<;>simp[uD,vM,List.replicate,-vh,hlen,ht,hpr,q2,q4]
  ·subst hρ
   rw[q3]
   rcases hs with rfl|rfl<;>simp[uD,vM,List.replicate,-vh,hlen,ht,hpr,q2,q4,e1]
def Z0a(S:List Hu.Pt)(p:Hu.Pt):PV:=match Hu.Z02 S p with
 |some l=>.tup [.str "out",fX l]
 |none=>.tup [.str "in",.lst (Yd S (Hu.Z1d S p))]
def Z2H{S:List Hu.Pt}{sl:P.Slot}(hs:Sl sl (S.map pt))(hS:∀p∈S,Sm p)(h0:S≠[])(hl:S.length<=100){p:Hu.Pt}(hp:Sm p):yJ [sl,.sh (pt p)]=.ret (.sh (Z0a S p)):=by
 have h1:=Z1j hs hS h0 (by omega) p
 have h2:=Z1l hs hS h0 hl hp
 unfold Z0a
 cases e:Hu.Z02 S p with
 |some l=>
  rw[e] at h1
  simp[yJ,Bp,List.replicate,hs.lend,h1,Z0B,fX,vd]
 |none=>
  rw[e] at h1
  simp[yJ,Bp,List.replicate,hs.lend,h1,Z0B,h2,vd]
def Z2b{r:P3}(hr:RB r)(s:Hu.Pt):Ep [.sh (pt s),.sh (c3 r)]=.ret (.sh (pt (cst r (Fe s)))):=by
 have e:=Z12 hr (Fe s)
 have e':PV.tup [.int (2*s.1),.int (2*s.2),.int 0]=c3 (Fe s):=rfl
 generalize hR:c3 r=R at *
 unfold pt
 simp[Ep,Kv,List.replicate,e',e]
 rfl
def Z1m{w:Str}{xs:List Int}(hg:Za w xs=true){r:P3}(hr:RB r){s:Hu.Pt}(hs:PB (Fe s)):Er [.sh (Z6 (Ze w) w xs),.sh (pt s),.sh (c3 r)]=.ret (.sh (Z0a ((Zl w xs).map (cst r)) (cst r (Fe s)))):=by
 obtain⟨g1,g2,g3⟩:=Z28 hg
 have h1:=Z27 hg (by omega) hr
 have h2:=Z2b hr s
 have h3:=Z2H (S:=(Zl w xs).map (cst r)) (sl:=.sh (.lst (((Zl w xs).map (cst r)).map pt))) (.inl rfl) (by
  intro p hp
  obtain⟨q,hq,rfl⟩:=List.mem_map.mp hp
  exact Z1C hr (g3 q hq)) (by simpa using g2) (by simp;omega) (p:=cst r (Fe s)) (Z1C hr hs)
 generalize Z0a ((Zl w xs).map (cst r)) (cst r (Fe s))=V at *
 generalize ((Zl w xs).map (cst r)).map pt=Y at *
 generalize pt (cst r (Fe s))=Z at *
 generalize Z6 (Ze w) w xs=v at *
 generalize c3 r=R at *
 generalize pt s=Q at *
 simp[Er,Kw,List.replicate,h1,h2,h3]
def sIn:PyData.strOk (Str.ofString "in")=true:=by decide +kernel
def Z3z:PyData.strOk (Str.ofString "out")=true:=by decide +kernel
def dIO:(Str.ofString "out" =Str.ofString "in")=False:=eq_false (by decide +kernel)
def Z1J{w:Str}{xs:List Int}(hg:Za w xs=true){r:P3}(hr:RB r){s:Hu.Pt}(hs:PB (Fe s)):uF [.sh (Z6 (Ze w) w xs),.sh (pt s),.sh (c3 r)]=.ret (.sh (.bl (shB w xs s r))):=by
 have h1:=Z1m hg hr hs
 unfold Z0a at h1
 unfold shB
 generalize Z6 (Ze w) w xs=v at *
 generalize c3 r=R at *
 generalize pt s=Q at *
 cases e:Hu.Z02 ((Zl w xs).map (cst r)) (cst r (Fe s)) with
 |none=>
  rw[e] at h1
  dsimp only at h1
  generalize Yd ((Zl w xs).map (cst r)) (Hu.Z1d ((Zl w xs).map (cst r)) (cst r (Fe s)))=Y at *
  simp[uF,Bq,List.replicate,h1,bF sIn sIn]
 |some l=>
  rw[e] at h1
  dsimp only at h1
  generalize fX l=Y at *
  simp[uF,Bq,List.replicate,h1,bF Z3z sIn,dIO]
structure Nm(w h:Nat)(T:List Th):Prop where
 w0:0<w
 w1:w<=60
 h1:h<=1000
 wh:w*h<=1000
 tl:T.length<=1000
 tg:∀t∈T,Za t.1 t.2=true
def Z35{w k n:Nat}(hk:k<1000):PB (Fe (cZ w k)):=by
 have h1:k % w<=k:=Nat.mod_le k w
 have h2:k / w<=k:=Nat.div_le_self k w
 unfold PB Fe cZ
 dsimp only
 generalize k % w=a at *
 generalize k / w=b at *
 omega
def Z0l{w h:Nat}{T:List Th}(Y:Nm w h T)(D:List Dy){o:Option P3}(ho:GC o){k:Nat}(hk:k<1000):gO [.sh (Z0 w h T D),.sh (cA o),.sh (pt (cZ w k))]=.ret (.sh (.bl (Nk w T o k))):=by
 cases o with
 |none=>
  generalize Z0 w h T D=Yv at *
  simp[gO,vO,List.replicate,cA,vd,Nk]
 |some r=>
  have ho:RB r/\0<r.2.2:=ho
  have yt:=y_t w h T D
  have e:T.findSome? (λt=>if Nf t (cZ w k) r=true then some () else none)=if(T.any λt=>Nf t (cZ w k) r)=true then some () else none:=by
   generalize T=T'
   induction T' with
   |nil=>rfl
   |cons t T' ih=>
    rw[List.findSome?_cons,List.any_cons]
    cases q:Nf t (cZ w k) r with
    |true=>simp
    |false=>rw[Bool.false_or,<-ih];simp
  have hn:vd (c3 r)=false:=by simp[c3,vd]
  rcases bR (g:=gN 3) (mb:=vN) zG (λt=>if Nf t (cZ w k) r=true then some () else none) (λ_=>.sh (.bl true)) (λρ=>∃s,ρ=[.sh (Z0 w h T D),.sh (c3 r),.sh (pt (cZ w k)),s]) T (by
   rintro t ht ρ ⟨s,rfl⟩
   have es:uF [.sh (zG t),.sh (pt (cZ w k)),.sh (c3 r)]=.ret (.sh (.bl (Nf t (cZ w k) r))):=Z1J (Y.tg t ht) ho.1 (Z35 (n:=0) hk)
   refine⟨[.sh (Z0 w h T D),.sh (c3 r),.sh (pt (cZ w k)),.sh (zG t)],rfl,?_⟩
   generalize Z0 w h T D=Yv at *
   generalize c3 r=R at *
   generalize zG t=Tv at *
   generalize hP:pt (cZ w k)=Pv at *
   cases q:Nf t (cZ w k) r with
   |true=>
    rw[q] at es
    exact .inl ⟨(),[.sh Yv,.sh R,.sh Pv,.sh Tv],by simp,by simp[vN,es]⟩
   |false=>
    rw[q] at es
    exact .inr ⟨[.sh Yv,.sh R,.sh Pv,.sh Tv],by simp,by simp[vN,es],_,rfl⟩) [.sh (Z0 w h T D),.sh (c3 r),.sh (pt (cZ w k)),.no] ⟨_,rfl⟩ with⟨_,ρ',q1,q2⟩|⟨ρ',q1,q2,_⟩
  ·rw[e] at q1
   have hd:Nk w T (some r) k=true:=by
    show(T.any λt=>Nf t (cZ w k) r)=true
    cases q:T.any (λt=>Nf t (cZ w k) r) with
    |true=>rfl
    |false=>rw[q] at q1;simp at q1
   rw[hd]
   show gO [_,.sh (c3 r),_]=_
   generalize Z0 w h T D=Yv at *
   generalize c3 r=R at *
   generalize pt (cZ w k)=Pv at *
   simp[gO,vO,List.replicate,hn,yt,q2]
  ·rw[e] at q1
   have hd:Nk w T (some r) k=false:=by
    show(T.any λt=>Nf t (cZ w k) r)=false
    cases q:T.any (λt=>Nf t (cZ w k) r) with
    |false=>rfl
    |true=>rw[q] at q1;simp at q1
   rw[hd]
   show gO [_,.sh (c3 r),_]=_
   generalize Z0 w h T D=Yv at *
   generalize c3 r=R at *
   generalize pt (cZ w k)=Pv at *
   simp[gO,vO,List.replicate,hn,yt,q2]
def ZN{w h:Nat}{T:List Th}{D:List Dy}{i:Nat}(hi:i<D.length):ux [.sh (Z0 w h T D),.sh (.int i)]=.ret (.sh (.lst (D[i].2.2.map cA))):=by
 have yd:=y_d w h T D
 have hx:(D.map kY)[i]?=some (kY D[i]):=by simp[hi]
 generalize Z0 w h T D=Yv at *
 generalize D.map kY=DV at *
 simp[ux,JW,List.replicate,yd,hx]
 simp[kY]
def Z1K{w h:Nat}{T:List Th}(D:List Dy)(hw:0<w){k:Nat}(hk:k<w*h):Ec [.sh (Z0 w h T D),.sh (pt (cZ w k))]=.ret (.sh .non):=by
 have yw:=y_w w h T D
 have yh:=y_h w h T D
 have h1:=Nat.mod_lt k hw
 have h2:=(Z3n (k:=k) (h:=h) hw).mpr hk
 have a1:(0:Int)<=((k % w:Nat):Int):=Int.natCast_nonneg _
 have a2:((k % w:Nat):Int)<(w:Int):=Int.ofNat_lt.mpr h1
 have a3:(0:Int)<=((k / w:Nat):Int):=Int.natCast_nonneg _
 have a4:((k / w:Nat):Int)<(h:Int):=Int.ofNat_lt.mpr h2
 unfold pt cZ
 dsimp only
 generalize Z0 w h T D=Yv at *
 generalize ((k % w:Nat):Int)=x at *
 generalize ((k / w:Nat):Int)=y at *
 have hs:Eb [.sh Yv,.sh (.tup [.int x,.int y])]=.ret (.sh (.bl true)):=by
  simp[Eb,JQ,List.replicate,yw,yh,a1,a2,a3,a4]
 simp[Ec,JR,List.replicate,hs]
def Z2I{w h:Nat}{T:List Th}{D:List Dy}{i:Nat}(hi:i<D.length):Ef [.sh (Z0 w h T D),.sh (.int i)]=.ret (.sh .non):=by
 have yd:=y_d w h T D
 have hl:(D.map kY).length=D.length:=by simp
 have a1:(i:Int)<((D.map kY).length:Int):=by omega
 generalize Z0 w h T D=Yv at *
 generalize D.map kY=DV at *
 have hs:Ed [.sh Yv,.sh (.int i)]=.ret (.sh (.bl true)):=by
  simp[Ed,JT,List.replicate,yd]
  omega
 simp[Ef,JV,List.replicate,hs]
theorem Z0m(f:Nat->PV):∀(n a:Nat),gJ a ((List.range' a n).map f)=(List.range' a n).map λ(k:Nat)=>PV.tup [.int k,f k]
 |0,a=>rfl
 |n+1,a=>by
  rw[List.range'_succ,List.map_cons,List.map_cons]
  show _::gJ (a+1) _=_
  rw[Z0m f n (a+1)]
def Z0b(f:Nat->PV)(n:Nat):gJ 0 ((List.range n).map f)=(List.range n).map λ(k:Nat)=>PV.tup [.int k,f k]:=by
 rw[List.range_eq_range']
 exact Z0m f n 0
def Z0c(os:List (Option P3)):(List.range os.length).map (λj=>os.getD j none)=os:=by
 refine List.ext_getElem (by simp) λi h1 h2=>?_
 simp at h1
 simp[h1]
def Z2J(os:List (Option P3)):gJ 0 (os.map cA)=(List.range os.length).map λ(k:Nat)=>PV.tup [.int k,cA (os.getD k none)]:=by
 have h:=Z0b (λj=>cA (os.getD j none)) os.length
 have e:(List.range os.length).map (λj=>cA (os.getD j none))=os.map cA:=by
  have:=congrArg (List.map cA) (Z0c os)
  rw[List.map_map] at this
  exact this
 rw[e] at h
 exact h
def Z0F{os:List (Option P3)}{j:Nat}(h:j<os.length):os.getD j none∈os:=by
 rw[List.getD_eq_getElem?_getD,List.getElem?_eq_getElem h]
 exact List.getElem_mem h
def Zz(w:Nat)(T:List Th)(os:List (Option P3))(k:Nat):List Nat:=(List.range os.length).filter λj=>!Nk w T (os.getD j none) k
def nV(j:Nat):PV:=.int (j:Int)
def Zy(i j:Int):lN (.int i) (.int j)=some (.int (Builtin.bitAnd i j)):=rfl
def Zu(c k:Nat):pL (c:Int) (k:Int)=true:=by simp[pL]
def Z1L(f:Nat->PV){n:Nat}(hn:n<=1000)(c:Nat):iY [.bw ((List.range n).map f),.sh (.int c)]=.ret (.ow (((List.range n).filter λk=>c.testBit k).map f)):=by
 have en:=Z0b f n
 have e:=Ŷ (g:=gT 2 (ę (gN 1) (ę (gN 2) ŏ))) (mt:=aA (Ą lN (Ą iT (Ā 0) (Ā 1)) (mC (.int 1)))) (me:=ĕ 2) (λ(k:Nat)=>PV.tup [.int k,f k]) f (λk=>c.testBit k) (λρ=>∃a b,ρ=[.sh (.int c),a,b]) (List.range n) [.sh (.int c),.no,.no] [] ⟨_,_,rfl⟩ (by simp;omega) (by
  rintro k _ ρ ⟨a,b,rfl⟩
  refine⟨[.sh (.int c),.sh (.int k),.sh (f k)],[.sh (.int c),.sh (.int k),.sh (f k)],by simp,?_,λ_=>⟨_,_,rfl⟩,λ_=>⟨[.sh (.int c),.sh (.int k),.sh (f k)],by simp,_,_,rfl⟩⟩
  have h1:=ZH c k
  have h2:Builtin.bitAnd ((c:Int) / 2 ^ k) 1=if c.testBit k then 1 else 0:=by rw[Z1i];exact h1
  cases hb:c.testBit k with
  |true=>rw[hb] at h2;simp at h2;simp[h2,Zu,Zy]
  |false=>rw[hb] at h2;simp at h2;simp[h2,Zu,Zy])
 rw[List.nil_append] at e
 generalize (List.range n).map f=L at *
 generalize ((List.range n).filter λk=>c.testBit k).map f=R at *
 simp[iY,Br,List.replicate,Ź,Ŧ,en,e]
def Zc(cov:Nat->Nat)(n c base:Nat):Nat:=((List.range n).filter λk=>c.testBit k).foldl (λb k=>b ||| cov k) base
def Z2c(cov:Nat->Nat){n:Nat}(hn:n<=1000)(c base:Nat):yO [.bw ((List.range n).map λk=>PV.int (cov k:Nat)),.sh (.int c),.sh (.int base)]=.ret (.sh (.int (Zc cov n c base:Nat))):=by
 have e1:=Z1L (λk=>PV.int (cov k:Nat)) hn c
 obtain⟨ρ',e2,a,rfl⟩:=dN (g:=gN 4) (mb:=Bt) (λk=>PV.int (cov k:Nat)) (λ(b:Nat) k=>b ||| cov k) (λb ρ=>∃a,ρ=[.bw ((List.range n).map λk=>PV.int (cov k:Nat)),.sh (.int c),.sh (.int base),.sh (.int (b:Nat)),a]) ((List.range n).filter λk=>c.testBit k) (by
  rintro k _ b ρ ⟨a,rfl⟩
  exact⟨_,_,rfl,by simp[Bt,Z1F];rfl,_,rfl⟩) base [.bw ((List.range n).map λk=>PV.int (cov k:Nat)),.sh (.int c),.sh (.int base),.sh (.int base),.no] ⟨_,rfl⟩
 unfold Zc
 generalize ((List.range n).filter λk=>c.testBit k).foldl (λb k=>b ||| cov k) base=M at *
 generalize ((List.range n).filter λk=>c.testBit k).map (λk=>PV.int (cov k:Nat))=R at *
 generalize (List.range n).map (λk=>PV.int (cov k:Nat))=L at *
 simp[yO,KH,List.replicate,e1,e2]
def jy(m many:Nat):Option Nat:=(List.range many).findSome? λk=>if m.testBit k then none else some k
def jA:Option Nat->PV
 |some k=>.int k
 |none=>.non
def Z1M(m:Nat){many:Nat}(hm:many<=1000):Gu [.sh (.int m),.sh (.int many)]=.ret (.sh (jA (jy m many))):=by
 have rr:=Zj (n:=many) hm
 rcases bR (g:=gN 2) (mb:=Et) (λ(k:Nat)=>PV.int (k:Int)) (λk=>if m.testBit k then none else some k) (λk=>RV.sh (.int (k:Nat))) (λρ=>∃a,ρ=[.sh (.int m),.sh (.int many),a]) (List.range many) (by
  rintro k _ ρ ⟨a,rfl⟩
  refine⟨[.sh (.int m),.sh (.int many),.sh (.int k)],rfl,?_⟩
  have h1:=ZH m k
  have h2:Builtin.bitAnd ((m:Int) / 2 ^ k) 1=if m.testBit k then 1 else 0:=by rw[Z1i];exact h1
  cases hb:m.testBit k with
  |true=>rw[hb] at h2;simp at h2;exact .inr ⟨[.sh (.int m),.sh (.int many),.sh (.int k)],by simp,by simp[Et,h2,Zu,Zy],_,rfl⟩
  |false=>rw[hb] at h2;simp at h2;exact .inl ⟨k,[.sh (.int m),.sh (.int many),.sh (.int k)],by simp,by simp[Et,h2,Zu,Zy]⟩) [.sh (.int m),.sh (.int many),.no] ⟨_,rfl⟩ with⟨r,ρ',e1,e2⟩|⟨ρ',e1,e2,a,rfl⟩
 ·unfold jy
  rw[e1]
  simp[Gu,KD,List.replicate,rr,e2,jA]
 ·unfold jy
  rw[e1]
  simp[Gu,KD,List.replicate,rr,e2,jA]
def Z5(pr:Nat->Int)(n c:Nat):Int:=(((List.range n).filter λk=>c.testBit k).map pr).sum
def ZE{α β:Type}(F:α->β)(d:α)(qs:List α):qs.map F=(List.range qs.length).map λk=>F (qs.getD k d):=by
 refine List.ext_getElem (by simp) λi h1 h2=>?_
 have hi:i<qs.length:=by simpa using h1
 simp[hi]
def Z2K(f:Nat->PV){n:Nat}(hn:0<n):ē (.lst ((List.range n).map f)) (.int (-1))=some (f (n-1)):=by
 show rT _ _=_
 unfold rT Ac
 simp
 rw[if_pos (by omega)]
 have e:(-1+(n:Int)).toNat=n-1:=by omega
 simp[e]
 exact⟨n-1,by rw[List.getElem?_range (by omega)],rfl⟩
theorem Z1N:∀ks:List Int,ks≠[]->∃i,i<ks.length/\∀j,j<ks.length->ks.getD i 0<=ks.getD j 0/\(j<i->ks.getD i 0<ks.getD j 0)
 | [],h=>absurd rfl h
 | [k],_=>⟨0,by simp,fun j hj=>by
     have:j=0:=by simp at hj;omega
     subst this
     exact⟨Int.le_refl _,λz=>absurd z (Nat.lt_irrefl _)⟩⟩
 |k::m::ks,_=>by
  obtain⟨i,hi,h⟩:=Z1N (m::ks) (by simp)
  by_cases hk:k<=(m::ks).getD i 0
  ·refine⟨0,by simp,λj hj=>?_⟩
   cases j with
   |zero=>exact⟨Int.le_refl _,λz=>absurd z (Nat.lt_irrefl _)⟩
   |succ j=>
    have:=(h j (by simpa using hj)).1
    exact⟨by simp only[List.getD_cons_zero,List.getD_cons_succ];omega,λz=>absurd z (by omega)⟩
  ·refine⟨i+1,by simpa using hi,λj hj=>?_⟩
   cases j with
   |zero=>exact⟨by simp only[List.getD_cons_zero,List.getD_cons_succ];omega,λ_=>by simp only[List.getD_cons_zero,List.getD_cons_succ];omega⟩
   |succ j=>
    have:=h j (by simpa using hj)
    exact⟨by simp only[List.getD_cons_succ];exact this.1,λz=>by simp only[List.getD_cons_succ];exact this.2 (by omega)⟩
def Z2d(cov:Nat->Nat)(n c base j:Nat):(Zc cov n c base).testBit j=(base.testBit j || (List.range n).any λk=>c.testBit k && (cov k).testBit j):=by
 unfold Zc
 have gen:∀(l:List Nat) (b:Nat),((l.filter λk=>c.testBit k).foldl (λb k=>b ||| cov k) b).testBit j=(b.testBit j || l.any λk=>c.testBit k && (cov k).testBit j):=by
  intro l
  induction l with
  |nil=>intro b;simp
  |cons k l ih=>
   intro b
   cases hk:c.testBit k with
   |true=>rw[List.filter_cons_of_pos hk,List.foldl_cons,ih,Nat.testBit_or,List.any_cons,hk,Bool.true_and,Bool.or_assoc]
   |false=>rw[List.filter_cons_of_neg (by simp[hk]),ih,List.any_cons,hk,Bool.false_and,Bool.false_or]
 exact gen _ base
def ZA(ns:List Int)(k:Nat):bZ [.sh (.lst (ns.map .int)),.sh (.int k)]=.ret (.sh (.int (ns.getD k 0))):=by
 by_cases h:k<ns.length
 ·have h':(k:Int)<(ns.length:Int):=by omega
  simp[bZ,Bw,List.replicate,h',List.getElem?_eq_getElem h]
 ·have h':¬(k:Int)<(ns.length:Int):=by omega
  simp[bZ,Bw,List.replicate,h',List.getElem?_eq_none (Nat.le_of_not_lt h)]
@[simp] theorem Z0G(ns:List Int)(k:Nat):bZ [.sh (.lst (ns.map .int)),.sh (.int (no_index (OfNat.ofNat k)))]=.ret (.sh (.int (ns.getD k 0))):=ZA ns k
@[simp] theorem Z3C{x:Int}{n:Nat}(h:n≠0)(h2:n<1073741824):DN x (no_index (OfNat.ofNat n):Int)=true:=by
  have e:(no_index (OfNat.ofNat n):Int)=(n:Int):=rfl
  rw[e]
  unfold DN
  simp
  omega
def Z0H(n k:Int)(h0:0<=k)(hk:k<1000):∃x:Int,yV [.sh (.int n),.sh (.int k)]=.ret (.sh (.int x))/\0<=x/\x<1500450271:=by
 have h1:=Int.emod_nonneg n (show(1073741789:Int)≠0 by decide)
 have h2:=Int.emod_lt_of_pos n (show(0:Int)<1073741789 by decide)
 obtain⟨N,hN⟩:∃N,(n % 1073741789+3*k+1)*40009+k*5501=N:=⟨_,rfl⟩
 have b0:0<=N / 32749:=by omega
 have b1:N / 32749<18446744073709551616:=by omega
 have b2:0<=N % 32749:=by omega
 have b3:N % 32749<32749:=by omega
 obtain⟨h,hh⟩:∃h,N / 32749=h:=⟨_,rfl⟩
 obtain⟨l,hl⟩:∃l,N % 32749=l:=⟨_,rfl⟩
 rw[hh] at b0 b1
 rw[hl] at b2 b3
 have m1:Ő h h=true:=bC (by omega) (by omega)
 have m2:Ő l (l+613)=true:=bC (by omega) (by omega)
 have hd:jJ [.int N,.int 32749]=some (.tup [.int h,.int l]):=by rw[<-hh,<-hl];simp[jJ]
 obtain⟨S,hS⟩:∃S,h*h+l*(l+613)+k=S:=⟨_,rfl⟩
 refine⟨S % 1500450271,?_,by omega,by omega⟩
 simp[yV,Lb,List.replicate,hN,hd,m1,m2,hS]
def Z2e(p:Nat->Bool)(i:Nat):(Z8 i p ||| 2 ^ i)=Z8 i p+2 ^ i:=by
 have h:=Nat.two_pow_add_eq_or_of_lt (ZL p i) 1
 rw[Nat.mul_one] at h
 rw[Nat.or_comm,<-h,Nat.add_comm]
theorem Z0I(f:Nat->Bool):∀(n a:Nat) (z s2 s3:P.Slot),a+n<=1000->∃s2' s3',forL (gT 2 (ę (gN 2) (ę (gN 3) ŏ))) qJ ((List.range' a n).map λ(k:Nat)=>PV.tup [.int k,.bl (f k)]) [z,.sh (.int (Z8 a f:Nat)),s2,s3]=.ok .nx [z,.sh (.int (Z8 (a+n) f:Nat)),s2',s3']
 |0,a,z,s2,s3,_=>⟨s2,s3,rfl⟩
 |n+1,a,z,s2,s3,hn=>by
  obtain⟨s2',s3',e⟩:=Z0I f n (a+1) z (.sh (.int a)) (.sh (.bl (f a))) (by omega)
  refine⟨s2',s3',?_⟩
  have eb:qJ [z,.sh (.int (Z8 a f:Nat)),.sh (.int a),.sh (.bl (f a))]=.ok .nx [z,.sh (.int (Z8 (a+1) f:Nat)),.sh (.int a),.sh (.bl (f a))]:=by
   have po:gD 1 (a:Int)=true:=by simp[gD];omega
   cases hf:f a with
   |false=>simp[qJ,Z8,hf]
   |true=>
    have hb:Builtin.bitOr ((Z8 a f:Nat):Int) (2 ^ a)=((Z8 (a+1) f:Nat):Int):=by
     have:=Z1F (Z8 a f) (2 ^ a)
     rw[Z2e] at this
     have e2:Z8 (a+1) f=Z8 a f+2 ^ a:=by simp[Z8,hf]
     rw[e2]
     simpa using this
    simp[qJ,hb,po]
  rw[List.range'_succ,List.map_cons,forL]
  simp[eb]
  rw[show a+(n+1)=a+1+n by omega]
  exact e
def Z36(f:Nat->Bool){n:Nat}(hn:n<=1000):Ew [.sh (.lst ((List.range n).map λ(k:Nat)=>PV.bl (f k)))]=.ret (.sh (.int (Z8 n f:Nat))):=by
 obtain⟨a,b,e⟩:=Z0I f n 0 (.sh (.lst ((List.range n).map λ(k:Nat)=>PV.bl (f k)))) .no .no (by omega)
 have en:=Z0b (λk=>PV.bl (f k)) n
 rw[<-List.range_eq_range',Nat.zero_add] at e
 have z:Z8 0 f=0:=rfl
 rw[z] at e
 generalize (List.range n).map (λ(k:Nat)=>PV.bl (f k))=L at *
 simp[Ew,KN,List.replicate,en]
 simp at e
 rw[e]
 simp
def ZZ(lg:Nat)(d:Dy):Prop:=(1<=d.2.1/\d.2.1<=1000000000)/\d.2.2.length<=lg/\∀o∈d.2.2,GC o
def Z0Z{w h:Nat}{T:List Th}(Y:Nm w h T){lg:Nat}{D:List Dy}(hD:∀d∈D,ZZ lg d)(hlg:lg<=100){i k:Nat}(hi:i<D.length)(hk:k<w*h):qG [.sh (Z0 w h T D),.sh (.int i),.sh (pt (cZ w k))]=.ret (.ow ((Zz w T D[i].2.2 k).map nV)):=by
 have e1:=Z1K (T:=T) D Y.w0 hk
 have e2:=Z2I (w:=w) (h:=h) (T:=T) hi
 have e3:=ZN (w:=w) (h:=h) (T:=T) hi
 have hd:=hD D[i] (List.getElem_mem hi)
 obtain⟨os,hos⟩:∃os,D[i].2.2=os:=⟨_,rfl⟩
 have hd2:os.length<=lg/\∀o∈os,GC o:=by rw[<-hos];exact hd.2
 rw[hos] at e3 ⊢
 have hc:=Ŷ (g:=gT 2 (ę (gN 2) (ę (gN 3) ŏ))) (mt:=ao (aA (Ď (ď gO (Ă 0 (Ă 3 (Ă 1 Ċ))))))) (me:=ĕ 2) (λ(j:Nat)=>PV.tup [.int j,cA (os.getD j none)]) nV (λj=>!Nk w T (os.getD j none) k) (λρ=>∃a b,ρ=[.sh (Z0 w h T D),.sh (pt (cZ w k)),a,b]) (List.range os.length) [.sh (Z0 w h T D),.sh (pt (cZ w k)),.no,.no] [] ⟨_,_,rfl⟩ (by simp;omega) (by
  rintro j hj ρ ⟨a,b,rfl⟩
  have hj:=List.mem_range.mp hj
  have ei:=Z0l Y D (hd2.2 _ (Z0F hj)) (k:=k) (by have:=Y.wh;omega)
  generalize os.getD j none=o at *
  generalize Z0 w h T D=Yv at *
  generalize cA o=O at *
  generalize pt (cZ w k)=Pv at *
  generalize Nk w T o k=b at *
  refine⟨[.sh Yv,.sh Pv,.sh (.int j),.sh O],[.sh Yv,.sh Pv,.sh (.int j),.sh O],by simp,by simp[ei],λ_=>⟨_,_,rfl⟩,λ_=>⟨[.sh Yv,.sh Pv,.sh (.int j),.sh O],by simp[nV],_,_,rfl⟩⟩)
 rw[List.nil_append] at hc
 have he:=Z2J os
 rw[<-he] at hc
 unfold Zz
 generalize ((List.range os.length).filter λj=>!Nk w T (os.getD j none) k).map nV=R at *
 generalize Z0 w h T D=Yv at *
 generalize pt (cZ w k)=Pv at *
 generalize os.map cA=OV at *
 simp[qG,Ky,List.replicate,e1,e2,e3,hc]
def Zp(d many t:Nat):List (Nat×Nat×Nat):=(List.range (many-(t+1))).map λi=>(d,t,t+1+i)
def Z05(d many t:Nat):(Zp d many t).length<=many:=by simp[Zp]
def Z37(t many:Nat)(ht:t<=1000)(hm:many<=1000):tW [.int ((t:Int)+1),.int (many:Int)]=some ((List.range (many-(t+1))).map λ(i:Nat)=>PV.int ((t+1+i:Nat):Int)):=by
 have hs:bW ((t:Int)+1)=true:=by unfold bW;simp;omega
 have hs2:bW (many:Int)=true:=by unfold bW;simp;omega
 have e:((many:Int)-((t:Int)+1)).toNat=many-(t+1):=by omega
 unfold tW
 simp[hs,hs2,cV,e]
def Z0n(d many t:Nat)(hm:many<=1000)(s:P.Slot):į (gN 2) ĭ (ŀ (ă (ĕ 0) (ă (ĕ 1) (ă (ĕ 2) Đ)))) ((List.range (many-(t+1))).map λ(i:Nat)=>PV.int ((t+1+i:Nat):Int)) [.sh (.int d),.sh (.int t),s] []=some ((Zp d many t).map Œ):=by
 have:=ī (g:=gN 2) (mt:=ĭ) (me:=ŀ (ă (ĕ 0) (ă (ĕ 1) (ă (ĕ 2) Đ)))) (λ(i:Nat)=>PV.int ((t+1+i:Nat):Int)) (λi=>Œ (d,t,t+1+i)) (λρ=>∃s,ρ=[.sh (.int d),.sh (.int t),s]) (List.range (many-(t+1))) [.sh (.int d),.sh (.int t),s] [] ⟨_,rfl⟩ (by simp;omega) (by
  rintro i _ ρ ⟨s,rfl⟩
  generalize hu:t+1+i=u
  exact⟨[.sh (.int d),.sh (.int t),.sh (.int u)],[.sh (.int d),.sh (.int t),.sh (.int u)],[.sh (.int d),.sh (.int t),.sh (.int u)],by simp,by simp,by simp[Œ],_,rfl⟩)
 rw[this]
 simp[Zp]
theorem Z0J(d many:Nat)(hm:many<=100):∀(ts:List Nat) (acc:List PV) (s0 s4:P.Slot),(∀t∈ts,t<=1000)->acc.length+ts.length*100<=1000000->∃wR,forL (gN 4) yM (ts.map λ(t:Nat)=>PV.int (t:Int)) [s0,.ow acc,.sh (.int d),.sh (.int many),s4]=.ok .nx [s0,.ow (acc++(ts.flatMap (Zp d many)).map Œ),.sh (.int d),.sh (.int many),wR]
 | [],acc,s0,s4,_,_=>⟨s4,by simp[forL]⟩
 |t::ts,acc,s0,s4,ht,ha=>by
  have hl:=Z05 d many t
  have ha':acc.length+ts.length*100+100<=1000000:=by simp at ha;omega
  have c1:=Z0n d many t (by omega) .no
  have r1:=Z37 t many (ht t List.mem_cons_self) (by omega)
  obtain⟨wR,e⟩:=Z0J d many hm ts (acc++(Zp d many t).map Œ) s0 (.sh (.int t)) (λx hx=>ht x (List.mem_cons_of_mem _ hx)) (by simp;omega)
  have hz:acc.length+((Zp d many t).map Œ).length<=16777216:=by simp;omega
  refine⟨wR,?_⟩
  rw[List.flatMap_cons,List.map_append,<-List.append_assoc]
  have eb:yM [s0,.ow acc,.sh (.int d),.sh (.int many),.sh (.int t)]=.ok .nx [s0,.ow (acc++(Zp d many t).map Œ),.sh (.int d),.sh (.int many),.sh (.int t)]:=by
   generalize (Zp d many t).map Œ=Q at *
   generalize (List.range (many-(t+1))).map (λ(i:Nat)=>PV.int ((t+1+i:Nat):Int))=UU at *
   simp[yM,r1,Ź,Ŧ,c1,hz]
  rw[List.map_cons,forL]
  have g1:gN 4 (.int (t:Int)) [s0,.ow acc,.sh (.int d),.sh (.int many),s4]=some [s0,.ow acc,.sh (.int d),.sh (.int many),.sh (.int t)]:=by simp
  rw[g1]
  dsimp only
  rw[eb]
  exact e
def ť(D:List Dy)(d:Nat):List (Option P3):=(D.map λx=>x.2.2).getD d []
def ZI{D:List Dy}{d:Nat}(h:d<D.length):ť D d=D[d].2.2:=by simp[ť,h]
def Zn(D:List Dy)(d:Nat):List (Nat×Nat×Nat):=(List.range (ť D d).length).flatMap (Zp d (ť D d).length)
def Z1(D:List Dy):List (Nat×Nat×Nat):=(List.range D.length).flatMap (Zn D)
theorem Z06{α β:Type}(f:α->List β)(m:Nat):∀l:List α,(∀x∈l,(f x).length<=m)->(l.flatMap f).length<=l.length*m
 | [],_=>by simp
 |x::l,h=>by
  have h1:=h x List.mem_cons_self
  have h2:=Z06 f m l λy hy=>h y (List.mem_cons_of_mem _ hy)
  rw[List.flatMap_cons,List.length_append,List.length_cons,Nat.succ_mul]
  omega
def ZX(D:List Dy)(d:Nat)(h:(ť D d).length<=5):(Zn D d).length<=25:=by
 have:=Z06 (Zp d (ť D d).length) 5 (List.range (ť D d).length) λt _=>Nat.le_trans (Z05 _ _ _) h
 unfold Zn
 rw[List.length_range] at this
 have h2:(ť D d).length*5<=5*5:=Nat.mul_le_mul_right 5 h
 omega
def ZO(D:List Dy)(hl:D.length<=2)(h:∀d,(ť D d).length<=5):(Z1 D).length<=50:=by
 have:=Z06 (Zn D) 25 (List.range D.length) λd _=>ZX D d (h d)
 unfold Z1
 rw[List.length_range] at this
 have h2:D.length*25<=2*25:=Nat.mul_le_mul_right 25 hl
 omega
theorem Z0K{w h:Nat}{T:List Th}{D:List Dy}(ho:∀d,(ť D d).length<=5):∀(ds:List Nat) (acc:List PV) (s2 s3 s4:P.Slot),(∀d∈ds,d<D.length)->acc.length+ds.length*25<=100000->∃s2' s3' wR,forL (gN 2) yN (ds.map λ(d:Nat)=>PV.int (d:Int)) [.sh (Z0 w h T D),.ow acc,s2,s3,s4]=.ok .nx [.sh (Z0 w h T D),.ow (acc++(ds.flatMap (Zn D)).map Œ),s2',s3',wR]
 | [],acc,s2,s3,s4,_,_=>⟨s2,s3,s4,by simp[forL]⟩
 |d::ds,acc,s2,s3,s4,hd,ha=>by
  have hdl:=hd d List.mem_cons_self
  have hl:=ZX D d (ho d)
  have ha':acc.length+ds.length*25+25<=100000:=by simp at ha;omega
  have tu:=ZN (w:=w) (h:=h) (T:=T) hdl
  rw[<-ZI hdl] at tu
  obtain⟨x,ex⟩:=Z0J d (ť D d).length (by have:=ho d;omega) (List.range (ť D d).length) acc (.sh (Z0 w h T D)) s4 (by intro t ht;have:=List.mem_range.mp ht;have:=ho d;omega) (by have:=ho d;simp;omega)
  have ex:forL (gN 4) yM ((List.range (ť D d).length).map λ(t:Nat)=>PV.int (t:Int)) [.sh (Z0 w h T D),.ow acc,.sh (.int d),.sh (.int (ť D d).length),s4]=.ok .nx [.sh (Z0 w h T D),.ow (acc++(Zn D d).map Œ),.sh (.int d),.sh (.int (ť D d).length),x]:=ex
  obtain⟨s2',s3',wR,e⟩:=Z0K (w:=w) (h:=h) (T:=T) ho ds (acc++(Zn D d).map Œ) (.sh (.int d)) (.sh (.int (ť D d).length)) x (λy hy=>hd y (List.mem_cons_of_mem _ hy)) (by simp;omega)
  have rr:=Zj (n:=(ť D d).length) (by have:=ho d;omega)
  refine⟨s2',s3',wR,?_⟩
  rw[List.flatMap_cons,List.map_append,<-List.append_assoc]
  have hlen:((ť D d).map cA).length=(ť D d).length:=by simp
  have eb:yN [.sh (Z0 w h T D),.ow acc,.sh (.int d),s3,s4]=.ok .nx [.sh (Z0 w h T D),.ow (acc++(Zn D d).map Œ),.sh (.int d),.sh (.int (ť D d).length),x]:=by
   generalize (Zn D d).map Œ=Q at *
   generalize (ť D d).map cA=OS at *
   generalize Z0 w h T D=Yv at *
   generalize (ť D d).length=m at *
   simp[yN,tu,hlen,rr,ex]
  rw[List.map_cons,forL]
  have g1:gN 2 (.int (d:Int)) [.sh (Z0 w h T D),.ow acc,s2,s3,s4]=some [.sh (Z0 w h T D),.ow acc,.sh (.int d),s3,s4]:=by simp
  rw[g1]
  dsimp only
  rw[eb]
  exact e
def Z38{w h:Nat}{T:List Th}{D:List Dy}(hD:D.length<=2)(ho:∀d,(ť D d).length<=5):Qo [.sh (Z0 w h T D)]=.ret (.ow ((Z1 D).map Œ)):=by
 obtain⟨a,b,c,e⟩:=Z0K (w:=w) (h:=h) (T:=T) ho (List.range D.length) [] .no .no .no (λd hd=>List.mem_range.mp hd) (by simp;omega)
 have yd:=y_d w h T D
 have rr:=Zj (n:=D.length) (by omega)
 have hl:(D.map kY).length=D.length:=by simp
 rw[List.nil_append] at e
 have e:forL (gN 2) yN ((List.range D.length).map λ(d:Nat)=>PV.int (d:Int)) [.sh (Z0 w h T D),.ow [],.no,.no,.no]=.ok .nx [.sh (Z0 w h T D),.ow ((Z1 D).map Œ),a,b,c]:=e
 generalize (Z1 D).map Œ=Q at *
 generalize Z0 w h T D=Yv at *
 generalize D.map kY=DV at *
 simp[Qo,Uh,List.replicate,yd,hl,rr,e]
def Z2L{n w:Nat}(hw:0<w)(hw2:w<=1000):yQ [.sh (.int n),.sh (.int w)]=.ret (.sh (.tup [.int (n % w:Nat),.int (n / w:Nat)])):=by
 have h0:¬(w:Int)=0:=by omega
 have e1:Int.fmod (n:Int) (w:Int)=((n % w:Nat):Int):=by
  rw[Int.fmod_eq_emod_of_nonneg _ (by omega)];simp
 have e2:Int.fdiv (n:Int) (w:Int)=((n / w:Nat):Int):=by
  rw[Int.fdiv_eq_ediv_of_nonneg _ (by omega)];simp
 have e3:gC (n:Int) (w:Int)=true:=xX (by omega) (Nat.le_trans (jO (n:=200) (by omega) (by omega)) (by decide))
 have h1:¬w=0:=by omega
 simp[yQ,KQ,List.replicate,h0,h1,e1,e2,e3]
def wU(w:Nat)(T:List Th)(D:List Dy)(k d j:Nat):Bool:=Nk w T ((ť D d).getD j none) k
def Z0L(D:List Dy):Prop:=∀d,(ť D d).length<=5/\∀o∈ť D d,GC o
def GD(w:Nat)(T:List Th)(D:List Dy)(k d:Nat):PV:=.lst ((List.range (ť D d).length).map λj=>PV.bl (wU w T D k d j))
def Z2f{w h:Nat}{T:List Th}(Y:Nm w h T){D:List Dy}(hD:Z0L D){k d:Nat}(hk:k<w*h)(hd:d<D.length)(acc:List PV)(ha:acc.length<=1000):vR [.sh (Z0 w h T D),.sh (pt (cZ w k)),.ow acc,.sh (.int d)]=.ok .nx [.sh (Z0 w h T D),.sh (pt (cZ w k)),.ow (acc ++ [GD w T D k d]),.sh (.int d)]:=by
 have tu:=ZN (w:=w) (h:=h) (T:=T) hd
 rw[<-ZI hd] at tu
 have hb:=hD d
 have c:=ī (g:=gN 2) (mt:=ĭ) (me:=Ď (ď gO (Ă 0 (Ă 2 (Ă 1 Ċ))))) (λj=>cA ((ť D d).getD j none)) (λj=>PV.bl (wU w T D k d j)) (λρ=>∃s,ρ=[.sh (Z0 w h T D),.sh (pt (cZ w k)),s]) (List.range (ť D d).length) [.sh (Z0 w h T D),.sh (pt (cZ w k)),.no] [] ⟨_,rfl⟩ (by simp;omega) (by
  rintro j hj ρ ⟨s,rfl⟩
  have ei:=Z0l Y D (hb.2 _ (Z0F (List.mem_range.mp hj))) (k:=k) (by have:=Y.wh;omega)
  unfold wU
  generalize (ť D d).getD j none=o at *
  generalize Z0 w h T D=Yv at *
  generalize cA o=O at *
  generalize pt (cZ w k)=Pv at *
  generalize Nk w T o k=b at *
  exact⟨[.sh Yv,.sh Pv,.sh O],[.sh Yv,.sh Pv,.sh O],[.sh Yv,.sh Pv,.sh O],by simp,by simp,by simp[ei],_,rfl⟩)
 have e:(List.range (ť D d).length).map (λj=>cA ((ť D d).getD j none))=(ť D d).map cA:=by
  have:=congrArg (List.map cA) (Z0c (ť D d))
  rw[List.map_map] at this
  exact this
 rw[e,List.nil_append] at c
 unfold GD
 generalize (List.range (ť D d).length).map (λj=>PV.bl (wU w T D k d j))=R at *
 generalize (ť D d).map cA=OV at *
 generalize Z0 w h T D=Yv at *
 generalize pt (cZ w k)=Pv at *
 have hz:acc.length<16777216:=by omega
 simp[vR,tu,Ź,Ŧ,c,hz]
def Z39{w h:Nat}{T:List Th}(Y:Nm w h T){D:List Dy}(hl:D.length<=2)(hD:Z0L D){k:Nat}(hk:k<w*h):Eu [.sh (Z0 w h T D),.sh (pt (cZ w k))]=.ret (.ow ((List.range D.length).map (GD w T D k))):=by
 have yd:=y_d w h T D
 have rr:=Zj (n:=D.length) (by omega)
 have hdl:(D.map kY).length=D.length:=by simp
 have key:∀(ds:List Nat) (acc:List PV) (s:P.Slot),(∀d∈ds,d<D.length)->acc.length+ds.length<=1000->∃s',forL (gN 3) vR (ds.map λ(d:Nat)=>PV.int (d:Int)) [.sh (Z0 w h T D),.sh (pt (cZ w k)),.ow acc,s]=.ok .nx [.sh (Z0 w h T D),.sh (pt (cZ w k)),.ow (acc++ds.map (GD w T D k)),s']:=by
  intro ds
  induction ds with
  |nil=>intro acc s _ _;exact⟨s,by simp[forL]⟩
  |cons d ds ih=>
   intro acc s hd ha
   simp at ha
   have e1:=Z2f Y hD hk (hd d List.mem_cons_self) acc (by omega)
   obtain⟨s',e2⟩:=ih (acc ++ [GD w T D k d]) (.sh (.int d)) (λy hy=>hd y (List.mem_cons_of_mem _ hy)) (by simp;omega)
   refine⟨s',?_⟩
   rw[List.map_cons,forL]
   have g1:gN 3 (.int (d:Int)) [.sh (Z0 w h T D),.sh (pt (cZ w k)),.ow acc,s]=some [.sh (Z0 w h T D),.sh (pt (cZ w k)),.ow acc,.sh (.int d)]:=by simp
   rw[g1]
   dsimp only
   rw[e1]
   exact e2.trans (by simp)
 obtain⟨s',e⟩:=key (List.range D.length) [] .no (λd hd=>List.mem_range.mp hd) (by simp;omega)
 rw[List.nil_append] at e
 generalize (List.range D.length).map (GD w T D k)=R at *
 generalize Z0 w h T D=Yv at *
 generalize pt (cZ w k)=Pv at *
 generalize D.map kY=DV at *
 simp[Eu,KJ,List.replicate,yd,hdl,rr,e]
def Z13{D:List Dy}{p:Nat×Nat×Nat}(h:p∈Z1 D):p.1<D.length/\p.2.1<(ť D p.1).length/\p.2.2<(ť D p.1).length:=by
 obtain⟨d,hd,h1⟩:=List.mem_flatMap.mp h
 obtain⟨t,ht,h2⟩:=List.mem_flatMap.mp h1
 obtain⟨i,hi,rfl⟩:=List.mem_map.mp h2
 have:=List.mem_range.mp hd
 have:=List.mem_range.mp ht
 have:=List.mem_range.mp hi
 exact⟨by assumption,by assumption,by dsimp only;omega⟩
def Zq(w:Nat)(T:List Th)(D:List Dy)(k:Nat)(p:Nat×Nat×Nat):Bool:=wU w T D k p.1 p.2.1 != wU w T D k p.1 p.2.2
def Zk(w:Nat)(T:List Th)(D:List Dy)(k i:Nat):Bool:=Zq w T D k ((Z1 D).getD i (0,0,0))
def Z3a{w h:Nat}{T:List Th}(Y:Nm w h T){D:List Dy}(hl:D.length<=2)(hD:Z0L D){k:Nat}(hk:k<w*h){s2:P.Slot}(h2:s2=.bw ((Z1 D).map Œ)):yR [.sh (Z0 w h T D),.sh (.int k),s2]=.ret (.sh (.int (Z8 (Z1 D).length (Zk w T D k):Nat))):=by
 subst h2
 have yw:=y_w w h T D
 have e1:=Z39 Y hl hD hk
 have hlen:=ZO D hl λd=>(hD d).1
 have e0:yQ [.sh (.int k),.sh (.int w)]=.ret (.sh (pt (cZ w k))):=Z2L (n:=k) Y.w0 (by have:=Y.w1;omega)
 have c:=ī (g:=gT 3 (ę (gN 1) (ę (gN 2) (ę (gN 3) ŏ)))) (mt:=ĭ) (me:=Ą aC (Ą ē (Ą ē (Ā 0) (Ā 1)) (Ā 2)) (Ą ē (Ą ē (Ā 0) (Ā 1)) (Ā 3))) Œ (λp=>PV.bl (Zq w T D k p)) (λρ=>∃a b c,ρ=[.bw ((List.range D.length).map (GD w T D k)),a,b,c]) (Z1 D) [.bw ((List.range D.length).map (GD w T D k)),.no,.no,.no] [] ⟨_,_,_,rfl⟩ (by simp;omega) (by
  rintro p hp ρ ⟨a,b,c,rfl⟩
  obtain⟨h1,h2,h3⟩:=Z13 hp
  have q1:((List.range D.length).map (GD w T D k))[p.1]?=some (GD w T D k p.1):=by simp[h1]
  have q2:((List.range (ť D p.1).length).map λj=>PV.bl (wU w T D k p.1 j))[p.2.1]?=some (.bl (wU w T D k p.1 p.2.1)):=by simp[h2]
  have q3:((List.range (ť D p.1).length).map λj=>PV.bl (wU w T D k p.1 j))[p.2.2]?=some (.bl (wU w T D k p.1 p.2.2)):=by simp[h3]
  have q1:((List.range D.length).map (GD w T D k))[p.1]?=some (.lst ((List.range (ť D p.1).length).map λj=>PV.bl (wU w T D k p.1 j))):=q1
  unfold Zq
  generalize (List.range D.length).map (GD w T D k)=R at *
  generalize (List.range (ť D p.1).length).map (λj=>PV.bl (wU w T D k p.1 j))=R2 at *
  generalize wU w T D k p.1 p.2.1=x at *
  generalize wU w T D k p.1 p.2.2=y at *
  refine⟨[.bw R,.sh (.int p.1),.sh (.int p.2.1),.sh (.int p.2.2)],[.bw R,.sh (.int p.1),.sh (.int p.2.1),.sh (.int p.2.2)],[.bw R,.sh (.int p.1),.sh (.int p.2.1),.sh (.int p.2.2)],by simp[Œ],by simp,?_,_,_,_,rfl⟩
  cases x<;>cases y<;>simp[q1,q2,q3])
 rw[List.nil_append] at c
 have e2:=Z36 (Zk w T D k) (n:=(Z1 D).length) (by omega)
 have e3:(Z1 D).map (λp=>PV.bl (Zq w T D k p))=(List.range (Z1 D).length).map λi=>PV.bl (Zk w T D k i):=ZE (λp=>PV.bl (Zq w T D k p)) (0,0,0) (Z1 D)
 rw[e3] at c
 generalize (List.range (Z1 D).length).map (λi=>PV.bl (Zk w T D k i))=Q at *
 generalize (Z1 D).map Œ=PR at *
 generalize (List.range D.length).map (GD w T D k)=R at *
 generalize Z0 w h T D=Yv at *
 generalize pt (cZ w k)=Pv at *
 simp[yR,KR,List.replicate,yw,e0,e1,Ź,Ŧ,c,e2]
def Z0o(f:Nat->PV){n:Nat}(hn:n<=1000)(c:Nat):iY [.sh (.lst ((List.range n).map f)),.sh (.int c)]=.ret (.ow (((List.range n).filter λk=>c.testBit k).map f)):=by
 have en:=Z0b f n
 have e:=Ŷ (g:=gT 2 (ę (gN 1) (ę (gN 2) ŏ))) (mt:=aA (Ą lN (Ą iT (Ā 0) (Ā 1)) (mC (.int 1)))) (me:=ĕ 2) (λ(k:Nat)=>PV.tup [.int k,f k]) f (λk=>c.testBit k) (λρ=>∃a b,ρ=[.sh (.int c),a,b]) (List.range n) [.sh (.int c),.no,.no] [] ⟨_,_,rfl⟩ (by simp;omega) (by
  rintro k _ ρ ⟨a,b,rfl⟩
  refine⟨[.sh (.int c),.sh (.int k),.sh (f k)],[.sh (.int c),.sh (.int k),.sh (f k)],by simp,?_,λ_=>⟨_,_,rfl⟩,λ_=>⟨[.sh (.int c),.sh (.int k),.sh (f k)],by simp,_,_,rfl⟩⟩
  have h1:=ZH c k
  have h2:Builtin.bitAnd ((c:Int) / 2 ^ k) 1=if c.testBit k then 1 else 0:=by rw[Z1i];exact h1
  cases hb:c.testBit k with
  |true=>rw[hb] at h2;simp at h2;simp[h2,Zu,Zy]
  |false=>rw[hb] at h2;simp at h2;simp[h2,Zu,Zy])
 rw[List.nil_append] at e
 generalize (List.range n).map f=L at *
 generalize ((List.range n).filter λk=>c.testBit k).map f=R at *
 simp[iY,Br,List.replicate,Ź,Ŧ,en,e]
theorem Z14(pr:Nat->Int){n:Nat}(hn:n<=1000)(z:P.Slot):∀cs:List Nat,yC [0] (aF nO (ă (Ď (ď iY (Ă 0 (Ă 1 Ċ)))) Đ)) [.sh (.lst ((List.range n).map λk=>PV.int (pr k))),z] (cs.map λ(c:Nat)=>PV.int (c:Int))=some (cs.map (Z5 pr n))
 | []=>rfl
 |c::cs=>by
  have ih:=Z14 pr hn z cs
  have e1:=Z0o (λk=>PV.int (pr k)) hn c
  have e2:((List.range n).filter λk=>c.testBit k).map (λk=>PV.int (pr k))=(((List.range n).filter λk=>c.testBit k).map pr).map PV.int:=by simp
  rw[e2] at e1
  rw[List.map_cons,List.map_cons,yC]
  have e3:(aF nO (ă (Ď (ď iY (Ă 0 (Ă 1 Ċ)))) Đ)) (lamP [0] [.sh (.lst ((List.range n).map λk=>PV.int (pr k))),z] (.int c))=.ok (.int (Z5 pr n c)) [.sh (.lst ((List.range n).map λk=>PV.int (pr k))),.sh (.int c)]:=by
   unfold Z5
   generalize ((List.range n).filter λk=>c.testBit k).map pr=R at *
   generalize (List.range n).map (λk=>PV.int (pr k))=L at *
   simp[lamP,Ŧ,e1]
  rw[e3]
  dsimp only
  rw[ih]
  rfl
def Z0M(pr:Nat->Int){n:Nat}(hn:n<=1000){cs:List Nat}(hc:cs≠[])(hs:cs.Pairwise (·< ·)):∃c∈cs,Es [.sh (.lst ((List.range n).map λk=>PV.int (pr k))),.sh (.lst (cs.map λ(c:Nat)=>PV.int (c:Int)))]=.ret (.sh (.int (c:Nat)))/\∀c'∈cs,Z5 pr n c<=Z5 pr n c'/\(Z5 pr n c'=Z5 pr n c->c<=c'):=by
 have e:=Z14 pr hn (.sh (.lst (cs.map λ(c:Nat)=>PV.int (c:Int)))) cs
 obtain⟨i,hi,hb⟩:=Z1N (cs.map (Z5 pr n)) (by simpa using hc)
 rw[List.length_map] at hi hb
 have hx:(cs.map λ(c:Nat)=>PV.int (c:Int))[i]?=some (.int (cs[i]:Nat)):=by simp[hi]
 have gk:∀j (hj:j<cs.length),(cs.map (Z5 pr n)).getD j 0=Z5 pr n cs[j]:=λj hj=>by simp[hj]
 obtain⟨b,hp⟩:∃b,iC (cs.map λ(c:Nat)=>PV.int (c:Int)) (cs.map (Z5 pr n))=some b:=by
  cases cs with
  |nil=>exact absurd rfl hc
  |cons a r=>exact⟨_,rfl⟩
 have hbx:=jP (by simp) hp hx (λj hj=>hb j (by simpa using hj))
 subst hbx
 refine⟨cs[i],List.getElem_mem hi,?_,λc' hc'=>?_⟩
 ·generalize (cs.map λ(c:Nat)=>PV.int (c:Int))=CS at *
  generalize cs.map (Z5 pr n)=KS at *
  generalize (List.range n).map (λk=>PV.int (pr k))=L at *
  generalize cs[i]=c at *
  simp[Es,Bs,List.replicate,Qj,e,hp]
 ·obtain⟨j,hj,rfl⟩:=List.getElem_of_mem hc'
  have h1:=hb j hj
  rw[gk i hi,gk j hj] at h1
  refine⟨h1.1,λhe=>?_⟩
  by_cases hji:j<i
  ·have:=h1.2 hji
   omega
  ·by_cases hij:i=j
   ·subst hij;exact Nat.le_refl _
   ·exact Nat.le_of_lt (List.pairwise_iff_getElem.mp hs i j hi hj (by omega))
def Z1n(pr:Nat->Int)(cov:Nat->Nat){n many:Nat}(hn:n<=9)(hm:many<=1000)(base:Nat):∃v,yP [.sh (.lst ((List.range n).map λk=>PV.int (pr k))),.bw ((List.range n).map λk=>PV.int (cov k:Nat)),.sh (.int many),.sh (.int base)]=.ret (.sh v)/\
 ((∃k,jy (Zc cov n (2 ^ n-1) base) many=some k∧v=.tup [.str "none",.int k])∨
   ∃c,c<2 ^ n/\jy (Zc cov n c base) many=none/\(∀c',c'<2 ^ n->jy (Zc cov n c' base) many=none->Z5 pr n c<=Z5 pr n c'/\(Z5 pr n c'=Z5 pr n c->c<=c'))/\
    v=.tup [.str "choice",.int c,.int (Z5 pr n c),.lst ((List.range (2 ^ n)).map λc=>jA (jy (Zc cov n c base) many))]):=by
 have hp:2 ^ n<=512:=by
  have:=Nat.pow_le_pow_right (show 0<2 by omega) hn
  simpa using this
 have hp0:0<2 ^ n:=Nat.two_pow_pos n
 have rr:=Zj (n:=2 ^ n) (by omega)
 have hl:((List.range n).map λk=>PV.int (pr k)).length=n:=by simp
 have so:gD 1 (n:Int)=true:=by simp[gD];omega
 have rr':Ō [.int (2 ^ n)]=some ((List.range (2 ^ n)).map λ(i:Nat)=>PV.int (i:Int)):=by
  have:((2 ^ n:Nat):Int)=2 ^ n:=by simp
  rw[this] at rr
  exact rr
 have c1:=ī (g:=gN 3) (mt:=ĭ) (me:=Ď (ď Gu (Ĕ (Ď (ď yO (Ă 1 (Ă 3 (Ă 2 Ċ))))) (Ă 0 Ċ)))) (λ(c:Nat)=>PV.int (c:Int)) (λc=>jA (jy (Zc cov n c base) many)) (λρ=>∃a,ρ=[.sh (.int many),.bw ((List.range n).map λk=>PV.int (cov k:Nat)),.sh (.int base),a]) (List.range (2 ^ n)) [.sh (.int many),.bw ((List.range n).map λk=>PV.int (cov k:Nat)),.sh (.int base),.no] [] ⟨_,rfl⟩ (by simp;omega) (by
  rintro c _ ρ ⟨a,rfl⟩
  have e1:=Z2c cov (show n<=1000 by omega) c base
  have e2:=Z1M (Zc cov n c base) hm
  generalize (List.range n).map (λk=>PV.int (cov k:Nat))=L at *
  exact⟨[.sh (.int many),.bw L,.sh (.int base),.sh (.int c)],[.sh (.int many),.bw L,.sh (.int base),.sh (.int c)],[.sh (.int many),.bw L,.sh (.int base),.sh (.int c)],by simp,by simp,by simp[e1,e2],_,rfl⟩)
 rw[List.nil_append] at c1
 have il:=Z2K (λc=>jA (jy (Zc cov n c base) many)) hp0
 cases hq:jy (Zc cov n (2 ^ n-1) base) many with
 |some k=>
  refine⟨.tup [.str "none",.int k],?_,.inl ⟨k,rfl,rfl⟩⟩
  rw[hq] at il
  generalize (List.range (2 ^ n)).map (λc=>jA (jy (Zc cov n c base) many))=PA at *
  generalize (List.range n).map (λk=>PV.int (cov k:Nat))=L at *
  generalize (List.range n).map (λk=>PV.int (pr k))=PR at *
  simp[yP,vQ,List.replicate,Ź,Ŧ,hl,so,rr',c1,il,jA,vd]
 |none=>
  rw[hq] at il
  have c2:=Ŷ (g:=gT 2 (ę (gN 0) (ę (gN 1) ŏ))) (mt:=cu (Ą su (Ā 1) (mC .non))) (me:=ĕ 0) (λ(c:Nat)=>PV.tup [.int c,jA (jy (Zc cov n c base) many)]) (λ(c:Nat)=>PV.int (c:Int)) (λc=>(jy (Zc cov n c base) many).isNone) (λρ=>∃a b,ρ=[a,b]) (List.range (2 ^ n)) [.no,.no] [] ⟨_,_,rfl⟩ (by simp;omega) (by
   rintro c _ ρ ⟨a,b,rfl⟩
   refine⟨[.sh (.int c),.sh (jA (jy (Zc cov n c base) many))],[.sh (.int c),.sh (jA (jy (Zc cov n c base) many))],by simp,?_,λ_=>⟨_,_,rfl⟩,λ_=>⟨[.sh (.int c),.sh (jA (jy (Zc cov n c base) many))],by simp,_,_,rfl⟩⟩
   cases jy (Zc cov n c base) many with
   |none=>simp[jA,vd]
   |some k=>simp[jA,vd])
  rw[List.nil_append] at c2
  have en:=Z0b (λc=>jA (jy (Zc cov n c base) many)) (2 ^ n)
  obtain⟨c,hcm,c3,hmin⟩:=Z0M pr (show n<=1000 by omega) (cs:=(List.range (2 ^ n)).filter λc=>(jy (Zc cov n c base) many).isNone) (List.ne_nil_of_mem (List.mem_filter.mpr ⟨List.mem_range.mpr (show 2 ^ n-1<2 ^ n by omega),by rw[hq];rfl⟩)) (List.Pairwise.filter _ List.pairwise_lt_range)
  obtain⟨hc1,hc2⟩:=List.mem_filter.mp hcm
  have c4:=Z0o (λk=>PV.int (pr k)) (show n<=1000 by omega) c
  have e2:((List.range n).filter λk=>c.testBit k).map (λk=>PV.int (pr k))=(((List.range n).filter λk=>c.testBit k).map pr).map PV.int:=by simp
  rw[e2] at c4
  refine⟨.tup [.str "choice",.int c,.int (Z5 pr n c),.lst ((List.range (2 ^ n)).map λc=>jA (jy (Zc cov n c base) many))],?_,.inr ⟨c,List.mem_range.mp hc1,Option.isNone_iff_eq_none.mp hc2,λc' h1 h2=>hmin c' (List.mem_filter.mpr ⟨List.mem_range.mpr h1,by rw[h2];rfl⟩),rfl⟩⟩
  unfold Z5
  generalize ((List.range n).filter λk=>c.testBit k).map pr=R at *
  generalize ((List.range (2 ^ n)).filter λc=>(jy (Zc cov n c base) many).isNone).map (λ(c:Nat)=>PV.int (c:Int))=CS at *
  generalize (List.range (2 ^ n)).map (λ(c:Nat)=>PV.tup [.int c,jA (jy (Zc cov n c base) many)])=ES at *
  generalize (List.range (2 ^ n)).map (λc=>jA (jy (Zc cov n c base) many))=PA at *
  generalize (List.range n).map (λk=>PV.int (cov k:Nat))=L at *
  generalize (List.range n).map (λk=>PV.int (pr k))=PR at *
  simp[yP,vQ,List.replicate,Ź,Ŧ,hl,so,rr',c1,il,jA,vd,en,c2,c3,c4]
def Z1o{a b:String}(q:Bool)(h1:PyData.strOk (Str.ofString a)=true)(h2:PyData.strOk (Str.ofString b)=true)(h:decide (Str.ofString a=Str.ofString b)=q):Ş (.str (Str.ofString a)) (.str (Str.ofString b))=some (.bl q):=by rw[bF h1 h2,h]
def Z3b(p:Nat×Nat×Nat):ĥ (.tup [.str "alike"]) (.tup [.int p.1,.int p.2.1,.int p.2.2])=some (.sh (.tup [.str "alike",.int p.1,.int p.2.1,.int p.2.2])):=by rfl
def Z3s:Ş (.str "none") (.str "none")=some (.bl true):=Z1o true (by decide +kernel) (by decide +kernel) (by decide +kernel)
def Z3t:Ş (.str "choice") (.str "none")=some (.bl false):=Z1o false (by decide +kernel) (by decide +kernel) (by decide +kernel)
def Z3c{w h:Nat}{T:List Th}{D:List Dy}(hwh:w<=60/\h<=1000){ns:List Nat}(hn:∀k∈ns,k<w*h):Qn [.sh (Z0 w h T D),.sh (.lst (ns.map nV))]=.ret (.sh .non):=by
 have yw:=y_w w h T D
 have yh:=y_h w h T D
 have hm:Ő (w:Int) (h:Int)=true:=bC (by omega) (by omega)
 obtain⟨ρ',e,s,rfl⟩:=dN (g:=gN 2) (mb:=KC) nV (λ(_:Unit) (_:Nat)=>()) (λ_ ρ=>∃s,ρ=[.sh (Z0 w h T D),.sh (.lst (ns.map nV)),s]) ns (by
  rintro k hk b ρ ⟨s,rfl⟩
  have h1:(k:Int)<(w:Int)*(h:Int):=by
   have:=hn k hk
   have:((k:Nat):Int)<((w*h:Nat):Int):=Int.ofNat_lt.mpr this
   rwa [Int.natCast_mul] at this
  have h0:(0:Int)<=(k:Int):=Int.natCast_nonneg _
  generalize Z0 w h T D=Yv at *
  generalize ns.map nV=NS at *
  exact⟨[.sh Yv,.sh (.lst NS),.sh (.int k)],[.sh Yv,.sh (.lst NS),.sh (.int k)],by simp[nV],by simp[KC,yw,yh,hm,h1],_,rfl⟩) () [.sh (Z0 w h T D),.sh (.lst (ns.map nV)),.no] ⟨_,rfl⟩
 generalize Z0 w h T D=Yv at *
 generalize ns.map nV=NS at *
 simp[Qn,Ug,List.replicate,e]
def Z0f(w:Nat)(T:List Th)(D:List Dy)(ns:List Nat)(i:Nat):Nat:=Z8 (Z1 D).length (Zk w T D (ns.getD i 0))
def pap(w:Nat)(T:List Th)(D:List Dy)(ns:List Nat)(c:Nat):Option Nat:=jy (Zc (Z0f w T D ns) ns.length c 0) (Z1 D).length
def Z1p{m many i:Nat}(h:jy m many=some i):i<many:=by
 obtain⟨k,hk,e⟩:=List.exists_of_findSome?_eq_some h
 by_cases q:m.testBit k=true
 ·rw[if_pos q] at e;cases e
 ·rw[if_neg q] at e;cases e;exact List.mem_range.mp hk
def pr4(p:Nat×Nat×Nat):PV:=.tup [.str "alike",.int p.1,.int p.2.1,.int p.2.2]
def Z2g{w h:Nat}{T:List Th}(Y:Nm w h T){D:List Dy}(hl:D.length<=2)(hD:Z0L D){ns:List Nat}(h5:ns.length<=5)(hn:∀k∈ns,k<w*h):∃v,qK [.sh (Z0 w h T D),.sh (.lst (ns.map nV))]=.ret (.sh v)/\
 ((∃k,pap w T D ns (2 ^ ns.length-1)=some k∧v=pr4 ((Z1 D).getD k (0,0,0)))∨
   ∃c,c<2 ^ ns.length/\pap w T D ns c=none/\(∀c',c'<2 ^ ns.length->pap w T D ns c'=none->Z5 (λ_=>1) ns.length c<=Z5 (λ_=>1) ns.length c'/\(Z5 (λ_=>1) ns.length c'=Z5 (λ_=>1) ns.length c->c<=c'))/\
    v=.tup [.str "choice",.int c,.int (Z5 (λ_=>1) ns.length c),.lst ((List.range (2 ^ ns.length)).map λc=>jA (pap w T D ns c))]):=by
 have e1:=Z3c (T:=T) (D:=D) ⟨Y.w1,Y.h1⟩ hn
 have e2:=Z38 (w:=w) (h:=h) (T:=T) hl λd=>(hD d).1
 have hlen:=ZO D hl λd=>(hD d).1
 have c1:=ī (g:=gN 2) (mt:=ĭ) (me:=Ď (ď yR (Ă 0 (Ă 2 (Ă 1 Ċ))))) nV (λk=>PV.int (Z8 (Z1 D).length (Zk w T D k):Nat)) (λρ=>∃s,ρ=[.sh (Z0 w h T D),.bw ((Z1 D).map Œ),s]) ns [.sh (Z0 w h T D),.bw ((Z1 D).map Œ),.no] [] ⟨_,rfl⟩ (by simp;omega) (by
  rintro k hk ρ ⟨s,rfl⟩
  have e:=Z3a Y hl hD (hn k hk) rfl
  generalize Z8 (Z1 D).length (Zk w T D k)=B at *
  generalize Z0 w h T D=Yv at *
  generalize (Z1 D).map Œ=PR at *
  exact⟨[.sh Yv,.bw PR,.sh (.int k)],[.sh Yv,.bw PR,.sh (.int k)],[.sh Yv,.bw PR,.sh (.int k)],by simp[nV],by simp,by simp[e],_,rfl⟩)
 have c2:=ī (g:=gN 0) (mt:=ĭ) (me:=mC (.int 1)) nV (λ_=>PV.int 1) (λρ=>∃s,ρ=[s]) ns [.no] [] ⟨_,rfl⟩ (by simp;omega) (by
  rintro k hk ρ ⟨s,rfl⟩
  exact⟨[.sh (.int k)],[.sh (.int k)],[.sh (.int k)],by simp[nV],by simp,by simp,_,rfl⟩)
 rw[List.nil_append,ZE (λk=>PV.int (Z8 (Z1 D).length (Zk w T D k):Nat)) 0 ns] at c1
 rw[List.nil_append,ZE (λ_=>PV.int 1) 0 ns] at c2
 obtain⟨v,e3,h3⟩:=Z1n (λ_=>1) (Z0f w T D ns) (n:=ns.length) (many:=(Z1 D).length) (by omega) (by omega) 0
 have hpl:((Z1 D).map Œ).length=(Z1 D).length:=by simp
 unfold Z0f at e3
 rw[show((0:Nat):Int)=0 from rfl] at e3
 rcases h3 with⟨k,h4,rfl⟩|⟨c,h4,h5',h6,rfl⟩
 ·have hk:=Z1p h4
  have hx:((Z1 D).map Œ)[k]?=some (Œ ((Z1 D).getD k (0,0,0))):=by simp[hk]
  refine⟨_,?_,.inl ⟨k,h4,rfl⟩⟩
  unfold Œ at hx
  unfold pr4
  generalize (Z1 D).getD k (0,0,0)=p at *
  generalize (List.range ns.length).map (λi=>PV.int (Z8 (Z1 D).length (Zk w T D (ns.getD i 0)):Nat))=CV at *
  generalize (List.range ns.length).map (λ_=>PV.int 1)=ON at *
  have hx:((Z1 D).map Œ)[k]?=some (.tup [.int p.1,.int p.2.1,.int p.2.2]):=hx
  generalize (Z1 D).map Œ=PR at *
  generalize (Z1 D).length=m at *
  generalize Z0 w h T D=Yv at *
  generalize ns.map nV=NS at *
  simp[qK,Bu,List.replicate,e1,e2,Ź,Ŧ,c1,c2,hpl,qj,e3,hx,Z3s,Z3b]
 ·refine⟨_,?_,.inr ⟨c,h4,h5',h6,rfl⟩⟩
  unfold pap
  generalize (List.range (2 ^ ns.length)).map (λc=>jA (jy (Zc (Z0f w T D ns) ns.length c 0) (Z1 D).length))=PA at *
  generalize (List.range ns.length).map (λi=>PV.int (Z8 (Z1 D).length (Zk w T D (ns.getD i 0)):Nat))=CV at *
  generalize (List.range ns.length).map (λ_=>PV.int 1)=ON at *
  generalize (Z1 D).map Œ=PR at *
  generalize (Z1 D).length=m at *
  generalize Z0 w h T D=Yv at *
  generalize ns.map nV=NS at *
  generalize Z5 (λ_=>1) ns.length c=S at *
  simp[qK,Bu,List.replicate,e1,e2,Ź,Ŧ,c1,c2,hpl,qj,e3,Z3t]
def Z3d(x y:Nat):eqB (nV y) (nV x)=decide (y=x):=by
 show eqB (.int (y:Int)) (.int (x:Int))=_
 rw[eqB,Bool.eq_iff_iff]
 simp
 omega
def Z3u(l:List Nat):aB (l.map nV)=true:=by
 induction l with
 |nil=>rfl
 |cons x l ih=>rw[List.map_cons,aB,ih];rfl
def Z1O(x:Nat)(l:List Nat):inD false (.int (x:Int)) (.lst (l.map nV))=some (.bl (decide (x∈l))):=by
 have h:∀l:List Nat,(l.map nV).any (λy=>eqB y (nV x))=decide (x∈l):=by
  intro l
  induction l with
  |nil=>simp
  |cons y l ih=>
   rw[List.map_cons,List.any_cons,ih,Z3d,Bool.eq_iff_iff]
   simp
   constructor
   ·rintro (e|e)
    ·exact .inl e.symm
    ·exact .inr e
   ·rintro (e|e)
    ·exact .inl e.symm
    ·exact .inr e
 have h':=h l
 change inD false (nV x) _=_
 unfold inD
 simp only[Z3u,h']
 rfl
def Z1P(w:Nat)(T:List Th)(D:List Dy)(k d j:Nat)(hj:j<(ť D d).length):decide (j∈Zz w T (ť D d) k)=!wU w T D k d j:=by
 unfold Zz wU
 rw[Bool.eq_iff_iff]
 simp[List.mem_filter,hj]
def fY(D:List Dy):List PV:=D.map λd=>PV.lst (d.2.2.map cA)
def Z15{D:List Dy}{d:Nat}(h:d<D.length):(fY D)[d]?=some (.lst ((ť D d).map cA)):=by
 rw[ZI h]
 simp[fY,h]
theorem Z0N{D:List Dy}{d:Nat}(hd:d<D.length)(hm:(ť D d).length<=5):∀(ts:List Nat) (acc:List PV) (s0 s2 s3 s5 s7 s8 s9:P.Slot),(∀t∈ts,t<=1000)->acc.length+ts.length*100<=1000000->∃s8',forL (gN 8) qH (ts.map λ(t:Nat)=>PV.int (t:Int)) [s0,.bw (fY D),s2,s3,.ow acc,s5,.sh (.int d),s7,s8,s9]=.ok .nx [s0,.bw (fY D),s2,s3,.ow (acc++(ts.flatMap (Zp d (ť D d).length)).map Œ),s5,.sh (.int d),s7,s8',s9]
 | [],acc,s0,s2,s3,s5,s7,s8,s9,_,_=>⟨s8,by simp[forL]⟩
 |t::ts,acc,s0,s2,s3,s5,s7,s8,s9,ht,ha=>by
  have hl:=Z05 d (ť D d).length t
  have ha':acc.length+ts.length*100+100<=1000000:=by simp at ha;omega
  have c1:=Z0n d (ť D d).length t (by omega) .no
  have r1:=Z37 t (ť D d).length (ht t List.mem_cons_self) (by omega)
  have hx:=Z15 hd
  have hlen:((ť D d).map cA).length=(ť D d).length:=by simp
  obtain⟨s8',e⟩:=Z0N hd hm ts (acc++(Zp d (ť D d).length t).map Œ) s0 s2 s3 s5 s7 (.sh (.int t)) s9 (λx hx=>ht x (List.mem_cons_of_mem _ hx)) (by simp;omega)
  have hz:acc.length+((Zp d (ť D d).length t).map Œ).length<=16777216:=by simp;omega
  refine⟨s8',?_⟩
  rw[List.flatMap_cons,List.map_append,<-List.append_assoc]
  have eb:qH [s0,.bw (fY D),s2,s3,.ow acc,s5,.sh (.int d),s7,.sh (.int t),s9]=.ok .nx [s0,.bw (fY D),s2,s3,.ow (acc++(Zp d (ť D d).length t).map Œ),s5,.sh (.int d),s7,.sh (.int t),s9]:=by
   generalize (Zp d (ť D d).length t).map Œ=Q at *
   generalize (List.range ((ť D d).length-(t+1))).map (λ(i:Nat)=>PV.int ((t+1+i:Nat):Int))=UU at *
   generalize (ť D d).map cA=OV at *
   generalize (ť D d).length=m at *
   generalize fY D=DV at *
   simp[qH,hx,hlen,r1,Ź,Ŧ,c1,hz]
  rw[List.map_cons,forL]
  have g1:gN 8 (.int (t:Int)) [s0,.bw (fY D),s2,s3,.ow acc,s5,.sh (.int d),s7,s8,s9]=some [s0,.bw (fY D),s2,s3,.ow acc,s5,.sh (.int d),s7,.sh (.int t),s9]:=by simp
  rw[g1]
  dsimp only
  rw[eb]
  exact e
theorem Z0O{D:List Dy}(ho:∀d,(ť D d).length<=5):∀(ds:List Nat) (acc:List PV) (s0 s2 s3 s5 s6 s7 s8 s9:P.Slot),(∀d∈ds,d<D.length)->acc.length+ds.length*25<=100000->∃s6' s8',forL (gN 6) qI (ds.map λ(d:Nat)=>PV.int (d:Int)) [s0,.bw (fY D),s2,s3,.ow acc,s5,s6,s7,s8,s9]=.ok .nx [s0,.bw (fY D),s2,s3,.ow (acc++(ds.flatMap (Zn D)).map Œ),s5,s6',s7,s8',s9]
 | [],acc,s0,s2,s3,s5,s6,s7,s8,s9,_,_=>⟨s6,s8,by simp[forL]⟩
 |d::ds,acc,s0,s2,s3,s5,s6,s7,s8,s9,hd,ha=>by
  have hdl:=hd d List.mem_cons_self
  have hl:=ZX D d (ho d)
  have ha':acc.length+ds.length*25+25<=100000:=by simp at ha;omega
  have hx:=Z15 hdl
  have hlen:((ť D d).map cA).length=(ť D d).length:=by simp
  obtain⟨x,ex⟩:=Z0N hdl (ho d) (List.range (ť D d).length) acc s0 s2 s3 s5 s7 s8 s9 (by intro t ht;have:=List.mem_range.mp ht;have:=ho d;omega) (by have:=ho d;simp;omega)
  have ex:forL (gN 8) qH ((List.range (ť D d).length).map λ(t:Nat)=>PV.int (t:Int)) [s0,.bw (fY D),s2,s3,.ow acc,s5,.sh (.int d),s7,s8,s9]=.ok .nx [s0,.bw (fY D),s2,s3,.ow (acc++(Zn D d).map Œ),s5,.sh (.int d),s7,x,s9]:=ex
  obtain⟨s6',s8',e⟩:=Z0O ho ds (acc++(Zn D d).map Œ) s0 s2 s3 s5 (.sh (.int d)) s7 x s9 (λy hy=>hd y (List.mem_cons_of_mem _ hy)) (by simp;omega)
  have rr:=Zj (n:=(ť D d).length) (by have:=ho d;omega)
  refine⟨s6',s8',?_⟩
  rw[List.flatMap_cons,List.map_append,<-List.append_assoc]
  have eb:qI [s0,.bw (fY D),s2,s3,.ow acc,s5,.sh (.int d),s7,s8,s9]=.ok .nx [s0,.bw (fY D),s2,s3,.ow (acc++(Zn D d).map Œ),s5,.sh (.int d),s7,x,s9]:=by
   generalize (Zn D d).map Œ=Q at *
   generalize (ť D d).map cA=OS at *
   generalize (ť D d).length=m at *
   generalize fY D=DV at *
   simp[qI,hx,hlen,rr,ex]
  rw[List.map_cons,forL]
  have g1:gN 6 (.int (d:Int)) [s0,.bw (fY D),s2,s3,.ow acc,s5,s6,s7,s8,s9]=some [s0,.bw (fY D),s2,s3,.ow acc,s5,.sh (.int d),s7,s8,s9]:=by simp
  rw[g1]
  dsimp only
  rw[eb]
  exact e
def iu(w:Nat)(T:List Th)(D:List Dy)(k:Nat):PV:=.lst ((Z1 D).map λp=>PV.bl (Zq w T D k p))
def Z0g{D:List Dy}(h:∀d∈D,ZZ 5 d):Z0L D:=by
 intro d
 by_cases hd:d<D.length
 ·rw[ZI hd]
  exact(h _ (List.getElem_mem hd)).2
 ·have:ť D d=[]:=by
   unfold ť
   rw[List.getD_eq_getElem?_getD,List.getElem?_eq_none (by simp;omega)]
   rfl
  rw[this]
  exact⟨by simp,by simp⟩
def GQ(w:Nat)(T:List Th)(D:List Dy)(k d:Nat):PV:=.lst ((Zz w T (ť D d) k).map nV)
def Z2M{w h:Nat}{T:List Th}(Y:Nm w h T){D:List Dy}(hl:D.length<=2)(hD:∀d∈D,ZZ 5 d){k:Nat}(hk:k<w*h):į (gN 3) ĭ (Ď (ď qG (Ă 0 (Ă 3 (Ĕ (ŀ (ă (Ą ĩ (Ā 1) (Ā 2)) (ă (Ą ō (Ā 1) (Ā 2)) Đ))) Ċ))))) ((List.range D.length).map λ(d:Nat)=>PV.int (d:Int)) [.sh (Z0 w h T D),.sh (.int k),.sh (.int w),.no] []=some ((List.range D.length).map (GQ w T D k)):=by
 have h0:¬(w:Int)=0:=by have:=Y.w0;omega
 have h1:¬w=0:=by have:=Y.w0;omega
 have f1:Int.fmod (k:Int) (w:Int)=((k % w:Nat):Int):=by
  rw[Int.fmod_eq_emod_of_nonneg _ (by omega)];simp
 have f2:Int.fdiv (k:Int) (w:Int)=((k / w:Nat):Int):=by
  rw[Int.fdiv_eq_ediv_of_nonneg _ (by omega)];simp
 have f3:gC (k:Int) (w:Int)=true:=xX (by have:=Y.w0;omega) (Nat.le_trans (jO (n:=200) (by have:=Y.w1;omega) (by have:=Y.w1;omega)) (by decide))
 have:=ī (g:=gN 3) (mt:=ĭ) (me:=Ď (ď qG (Ă 0 (Ă 3 (Ĕ (ŀ (ă (Ą ĩ (Ā 1) (Ā 2)) (ă (Ą ō (Ā 1) (Ā 2)) Đ))) Ċ))))) (λ(d:Nat)=>PV.int (d:Int)) (GQ w T D k) (λρ=>∃s,ρ=[.sh (Z0 w h T D),.sh (.int k),.sh (.int w),s]) (List.range D.length) [.sh (Z0 w h T D),.sh (.int k),.sh (.int w),.no] [] ⟨_,rfl⟩ (by simp;omega) (by
  rintro d hd ρ ⟨s,rfl⟩
  have hd:=List.mem_range.mp hd
  have e:=Z0Z Y hD (by omega) hd hk
  rw[<-ZI hd] at e
  have e:qG [.sh (Z0 w h T D),.sh (.int d),.sh (.tup [.int ((k % w:Nat):Int),.int ((k / w:Nat):Int)])]=.ret (.ow ((Zz w T (ť D d) k).map nV)):=e
  unfold GQ
  generalize (Zz w T (ť D d) k).map nV=R at *
  generalize Z0 w h T D=Yv at *
  generalize ((k % w:Nat):Int)=x at *
  generalize ((k / w:Nat):Int)=y at *
  exact⟨[.sh Yv,.sh (.int k),.sh (.int w),.sh (.int d)],[.sh Yv,.sh (.int k),.sh (.int w),.sh (.int d)],[.sh Yv,.sh (.int k),.sh (.int w),.sh (.int d)],by simp,by simp,by simp[h0,h1,f1,f2,f3,e],_,rfl⟩)
 simpa using this
def Z2h{w:Nat}{T:List Th}{D:List Dy}(hl:(Z1 D).length<=50)(k:Nat):į (gT 3 (ę (gN 1) (ę (gN 2) (ę (gN 3) ŏ)))) ĭ (Ą aC (Ą (inD false) (Ā 2) (Ą ē (Ā 0) (Ā 1))) (Ą (inD false) (Ā 3) (Ą ē (Ā 0) (Ā 1)))) ((Z1 D).map Œ) [.bw ((List.range D.length).map (GQ w T D k)),.no,.no,.no] []=some ((Z1 D).map λp=>PV.bl (Zq w T D k p)):=by
 have c:=ī (g:=gT 3 (ę (gN 1) (ę (gN 2) (ę (gN 3) ŏ)))) (mt:=ĭ) (me:=Ą aC (Ą (inD false) (Ā 2) (Ą ē (Ā 0) (Ā 1))) (Ą (inD false) (Ā 3) (Ą ē (Ā 0) (Ā 1)))) Œ (λp=>PV.bl (Zq w T D k p)) (λρ=>∃a b c,ρ=[.bw ((List.range D.length).map (GQ w T D k)),a,b,c]) (Z1 D) [.bw ((List.range D.length).map (GQ w T D k)),.no,.no,.no] [] ⟨_,_,_,rfl⟩ (by simp;omega) (by
  rintro p hp ρ ⟨a,b,c,rfl⟩
  obtain⟨h1,h2,h3⟩:=Z13 hp
  have q1:((List.range D.length).map (GQ w T D k))[p.1]?=some (.lst ((Zz w T (ť D p.1) k).map nV)):=by simp[h1,GQ]
  have q2:=Z1O p.2.1 (Zz w T (ť D p.1) k)
  have q3:=Z1O p.2.2 (Zz w T (ť D p.1) k)
  rw[Z1P w T D k p.1 _ h2] at q2
  rw[Z1P w T D k p.1 _ h3] at q3
  unfold Zq
  generalize (List.range D.length).map (GQ w T D k)=R at *
  generalize (Zz w T (ť D p.1) k).map nV=R2 at *
  generalize wU w T D k p.1 p.2.1=x at *
  generalize wU w T D k p.1 p.2.2=y at *
  refine⟨[.bw R,.sh (.int p.1),.sh (.int p.2.1),.sh (.int p.2.2)],[.bw R,.sh (.int p.1),.sh (.int p.2.1),.sh (.int p.2.2)],[.bw R,.sh (.int p.1),.sh (.int p.2.1),.sh (.int p.2.2)],by simp[Œ],by simp,?_,_,_,_,rfl⟩
  cases x<;>cases y<;>simp[q1,q2,q3])
 simpa using c
def Z1Q{w h:Nat}{T:List Th}(Y:Nm w h T){D:List Dy}(hl:D.length<=2)(hD:∀d∈D,ZZ 5 d){ns:List Nat}(h5:ns.length<=5)(hn:∀k∈ns,k<w*h):yL [.sh (Z0 w h T D),.bw (fY D),.bw (ns.map nV),.sh (.int w)]=.ret (.sh (.tup [.lst ((Z1 D).map Œ),.lst (ns.map (iu w T D))])):=by
 have ho:=λd=>(Z0g hD d).1
 have hpl:=ZO D hl ho
 have rr:=Zj (n:=D.length) (by omega)
 have hdl:(fY D).length=D.length:=by simp[fY]
 obtain⟨s6,s8,e1⟩:=Z0O ho (List.range D.length) [] (.sh (Z0 w h T D)) (.bw (ns.map nV)) (.sh (.int w)) (.ow []) .no .no .no .no (λd hd=>List.mem_range.mp hd) (by simp;omega)
 rw[List.nil_append] at e1
 have e1:forL (gN 6) qI ((List.range D.length).map λ(d:Nat)=>PV.int (d:Int)) [.sh (Z0 w h T D),.bw (fY D),.bw (ns.map nV),.sh (.int w),.ow [],.ow [],.no,.no,.no,.no]=.ok .nx [.sh (Z0 w h T D),.bw (fY D),.bw (ns.map nV),.sh (.int w),.ow ((Z1 D).map Œ),.ow [],s6,.no,s8,.no]:=e1
 have key:∀(ks:List Nat) (acc:List PV) (s7 s9 z:P.Slot),(z=.ow ((Z1 D).map Œ)\/z=.sh (.lst ((Z1 D).map Œ)))->(∀k∈ks,k<w*h)->acc.length+ks.length<=1000->∃s7' s9' z',(z'=.ow ((Z1 D).map Œ)\/z'=.sh (.lst ((Z1 D).map Œ)))/\forL (gN 7) vP (ks.map nV) [.sh (Z0 w h T D),.bw (fY D),.bw (ns.map nV),.sh (.int w),z,.ow acc,s6,s7,s8,s9]=.ok .nx [.sh (Z0 w h T D),.bw (fY D),.bw (ns.map nV),.sh (.int w),z',.ow (acc++ks.map (iu w T D)),s6,s7',s8,s9']:=by
  intro ks
  induction ks with
  |nil=>intro acc s7 s9 z hz4 _ _;exact⟨s7,s9,z,hz4,by simp[forL]⟩
  |cons k ks ih=>
   intro acc s7 s9 z hz4 hk ha
   simp at ha
   have l1:=Z2M Y hl hD (hk k List.mem_cons_self)
   have l2:=Z2h (w:=w) (T:=T) hpl k
   obtain⟨s7',s9',z',hz',e2⟩:=ih (acc ++ [iu w T D k]) (.sh (.int k)) (.ow ((List.range D.length).map (GQ w T D k))) (.sh (.lst ((Z1 D).map Œ))) (.inr rfl) (λy hy=>hk y (List.mem_cons_of_mem _ hy)) (by simp;omega)
   refine⟨s7',s9',z',hz',?_⟩
   have hz:acc.length<16777216:=by omega
   have eb:vP [.sh (Z0 w h T D),.bw (fY D),.bw (ns.map nV),.sh (.int w),z,.ow acc,s6,.sh (.int k),s8,s9]=.ok .nx [.sh (Z0 w h T D),.bw (fY D),.bw (ns.map nV),.sh (.int w),.sh (.lst ((Z1 D).map Œ)),.ow (acc ++ [iu w T D k]),s6,.sh (.int k),s8,.ow ((List.range D.length).map (GQ w T D k))]:=by
    clear e1 ih e2 hz'
    unfold iu
    generalize (List.range D.length).map (GQ w T D k)=R at *
    generalize (Z1 D).map (λp=>PV.bl (Zq w T D k p))=Q at *
    generalize (Z1 D).map Œ=PR at *
    generalize Z0 w h T D=Yv at *
    generalize fY D=DV at *
    generalize ns.map nV=NS at *
    rcases hz4 with rfl|rfl<;>simp[vP,hdl,rr,Ź,Ŧ,l1,l2,hz]
   rw[List.map_cons,forL]
   have g1:gN 7 (nV k) [.sh (Z0 w h T D),.bw (fY D),.bw (ns.map nV),.sh (.int w),z,.ow acc,s6,s7,s8,s9]=some [.sh (Z0 w h T D),.bw (fY D),.bw (ns.map nV),.sh (.int w),z,.ow acc,s6,.sh (.int k),s8,s9]:=by simp[nV]
   rw[g1]
   dsimp only
   rw[eb]
   exact e2.trans (by simp)
 obtain⟨s7,s9,z',hz',e2⟩:=key ns [] .no .no _ (.inl rfl) hn (by simp;omega)
 clear key
 rw[List.nil_append] at e2
 generalize ns.map (iu w T D)=AP at *
 generalize (Z1 D).map Œ=PR at *
 generalize Z0 w h T D=Yv at *
 generalize fY D=DV at *
 generalize ns.map nV=NS at *
 rcases hz' with rfl|rfl<;>simp[yL,Kz,List.replicate,hdl,rr,e1,e2]
def Zr(i:Int):mZ [.sh (.int i)]=.ret (.sh (.bl true)):=by
 have i2:lQ [.int i,.ty "int"]=some (.bl true):=rfl
 have i3:lQ [.int i,.ty "bool"]=some (.bl false):=rfl
 simp[mZ,KY,List.replicate,i2,i3]
def Z0P{m many:Nat}:jy m many=none↔∀j,j<many->m.testBit j=true:=by
 unfold jy
 rw[List.findSome?_eq_none_iff]
 constructor
 ·intro h j hj
  have:=h j (List.mem_range.mpr hj)
  by_cases hb:m.testBit j=true
  ·exact hb
  ·rw[if_neg hb] at this;cases this
 ·intro h j hj
  rw[if_pos (h j (List.mem_range.mp hj))]
def Z1R(l:List Bool):xW [.lst (l.map .bl)]=some (.bl (l.any id)):=by
 show(boolsOf (l.map .bl)).map (λbs=>PV.bl (bs.any id))=_
 rw[ZR]
 rfl
def leB(w:Nat)(T:List Th)(D:List Dy)(ns:List Nat)(c i:Nat):Bool:=!(List.range ns.length).any λj=>c.testBit j && Zk w T D (ns.getD j 0) i
def Z3e(w:Nat)(T:List Th)(D:List Dy)(k:Nat){i:Nat}(hi:i<(Z1 D).length):((Z1 D).map λp=>PV.bl (Zq w T D k p))[i]?=some (.bl (Zk w T D k i)):=by
 simp[hi,Zk]
def Z16(w:Nat)(T:List Th)(D:List Dy){ns:List Nat}(h5:ns.length<=5)(c:Nat){i:Nat}(hi:i<(Z1 D).length):m_ [.sh (.int c),.sh (.lst (ns.map (iu w T D))),.sh (.int i)]=.ret (.sh (.bl (leB w T D ns c i))):=by
 have rr:=Zj (n:=ns.length) (by omega)
 have hl:(ns.map (iu w T D)).length=ns.length:=by simp
 have cc:=ī (g:=gN 3) (mt:=ĭ) (me:=eU (Ą Ş (Ą ĩ (Ą iT (Ā 2) (Ā 3)) (mC (.int 2))) (mC (.int 1))) (Ą ē (Ą ē (Ā 1) (Ā 3)) (Ā 0))) (λ(j:Nat)=>PV.int (j:Int)) (λj=>PV.bl (c.testBit j && Zk w T D (ns.getD j 0) i)) (λρ=>∃s,ρ=[.sh (.int i),.sh (.lst (ns.map (iu w T D))),.sh (.int c),s]) (List.range ns.length) [.sh (.int i),.sh (.lst (ns.map (iu w T D))),.sh (.int c),.no] [] ⟨_,rfl⟩ (by simp;omega) (by
  rintro j hj ρ ⟨s,rfl⟩
  have hj:=List.mem_range.mp hj
  have q1:(ns.map (iu w T D))[j]?=some (.lst ((Z1 D).map λp=>PV.bl (Zq w T D (ns.getD j 0) p))):=by simp[hj,iu]
  have q2:=Z3e w T D (ns.getD j 0) hi
  have hb:=ZH c j
  have so:pL (c:Int) (j:Int)=true:=Zu c j
  generalize (Z1 D).map (λp=>PV.bl (Zq w T D (ns.getD j 0) p))=R at *
  generalize Zk w T D (ns.getD j 0) i=x at *
  generalize ns.map (iu w T D)=A at *
  refine⟨[.sh (.int i),.sh (.lst A),.sh (.int c),.sh (.int j)],[.sh (.int i),.sh (.lst A),.sh (.int c),.sh (.int j)],[.sh (.int i),.sh (.lst A),.sh (.int c),.sh (.int j)],by simp,by simp,?_,_,rfl⟩
  cases hc:c.testBit j with
  |true=>rw[hc] at hb;simp at hb;simp[so,hb,q1,q2]
  |false=>rw[hc] at hb;simp at hb;simp[so,hb,q1,q2])
 rw[List.nil_append] at cc
 have ea:=Z1R ((List.range ns.length).map λj=>c.testBit j && Zk w T D (ns.getD j 0) i)
 rw[List.map_map] at ea
 have ea:xW [.lst ((List.range ns.length).map λj=>PV.bl (c.testBit j && Zk w T D (ns.getD j 0) i))]=some (.bl ((List.range ns.length).any λj=>c.testBit j && Zk w T D (ns.getD j 0) i)):=by
  rw[List.any_map] at ea
  exact ea
 unfold leB
 generalize (List.range ns.length).any (λj=>c.testBit j && Zk w T D (ns.getD j 0) i)=b at *
 generalize (List.range ns.length).map (λj=>PV.bl (c.testBit j && Zk w T D (ns.getD j 0) i))=Q at *
 generalize ns.map (iu w T D)=A at *
 simp[m_,K_,List.replicate,hl,rr,Ź,Ŧ,cc,ea]
def ZJ(w:Nat)(T:List Th)(D:List Dy)(ns:List Nat)(c i:Nat)(hi:i<(Z1 D).length):(Zc (Z0f w T D ns) ns.length c 0).testBit i=!leB w T D ns c i:=by
 rw[Z2d]
 unfold leB Z0f
 simp[Z0k,hi]
theorem Z07{m i:Nat}:∀{many:Nat},jy m many=some i->m.testBit i=false/\∀j,j<i->m.testBit j=true
 |0,h=>by cases h
 |many+1,h=>by
  unfold jy at h
  rw[List.range_succ,List.findSome?_append] at h
  cases q:(List.range many).findSome? (λk=>if m.testBit k then none else some k) with
  |some x=>
   rw[q] at h
   cases h
   exact Z07 (many:=many) q
  |none=>
   rw[q] at h
   have hn:=Z0P.mp (show jy m many=none from q)
   cases hb:m.testBit many with
   |true=>simp[hb] at h
   |false=>
    simp[hb] at h
    subst h
    exact⟨hb,hn⟩
def Z0Q(w:Nat)(T:List Th)(D:List Dy){ns:List Nat}(h5:ns.length<=5)(hl:(Z1 D).length<=50)(c:Nat){K:Nat}(hK:K<=(Z1 D).length)(s:P.Slot):į (gN 2) ĭ (Ď (ď m_ (Ă 0 (Ă 1 (Ă 2 Ċ))))) ((List.range K).map λ(j:Nat)=>PV.int (j:Int)) [.sh (.int c),.sh (.lst (ns.map (iu w T D))),s] []=some ((List.range K).map λj=>PV.bl (leB w T D ns c j)):=by
 have cc:=ī (g:=gN 2) (mt:=ĭ) (me:=Ď (ď m_ (Ă 0 (Ă 1 (Ă 2 Ċ))))) (λ(j:Nat)=>PV.int (j:Int)) (λj=>PV.bl (leB w T D ns c j)) (λρ=>∃s,ρ=[.sh (.int c),.sh (.lst (ns.map (iu w T D))),s]) (List.range K) [.sh (.int c),.sh (.lst (ns.map (iu w T D))),s] [] ⟨_,rfl⟩ (by simp;omega) (by
  rintro j hj ρ ⟨s,rfl⟩
  have hj:=List.mem_range.mp hj
  have e:=Z16 w T D h5 c (show j<(Z1 D).length by omega)
  generalize ns.map (iu w T D)=A at *
  exact⟨[.sh (.int c),.sh (.lst A),.sh (.int j)],[.sh (.int c),.sh (.lst A),.sh (.int j)],[.sh (.int c),.sh (.lst A),.sh (.int j)],by simp,by simp,by simp[e],_,rfl⟩)
 simpa using cc
def Z3f(w:Nat)(T:List Th)(D:List Dy)(ns:List Nat)(c K:Nat)(h:∀j,j<K->leB w T D ns c j=false):xW [.lst ((List.range K).map λj=>PV.bl (leB w T D ns c j))]=some (.bl false):=by
 have ea:=Z1R ((List.range K).map λj=>leB w T D ns c j)
 rw[List.map_map] at ea
 have hf:((List.range K).map λj=>leB w T D ns c j).any id=false:=by
  rw[List.any_map,List.any_eq_false]
  intro j hj
  simp[h j (List.mem_range.mp hj)]
 rw[hf] at ea
 exact ea
def Z0R(w:Nat)(T:List Th)(D:List Dy){ns:List Nat}(h5:ns.length<=5)(hl:(Z1 D).length<=50)(c:Nat):uG [.sh (jA (pap w T D ns c)),.sh (.int c),.sh (.lst (ns.map (iu w T D))),.sh (.int (Z1 D).length)]=.ret (.sh (.bl true)):=by
 cases q:pap w T D ns c with
 |none=>
  have hn:=Z0P.mp q
  have ha:=Z3f w T D ns c (Z1 D).length λj hj=>by
   have:=hn j hj
   rw[ZJ w T D ns c j hj] at this
   simpa using this
  have c1:=Z0Q w T D h5 hl c (Nat.le_refl _) .no
  have rr:=Zj (n:=(Z1 D).length) (by omega)
  generalize (List.range (Z1 D).length).map (λj=>PV.bl (leB w T D ns c j))=Q at *
  generalize ns.map (iu w T D)=A at *
  generalize (Z1 D).length=m at *
  simp[uG,Bv,List.replicate,jA,vd,rr,Ź,Ŧ,c1,ha]
 |some i=>
  have hi:=Z1p q
  obtain⟨hb,hn⟩:=Z07 q
  rw[ZJ w T D ns c i hi] at hb
  have hb:leB w T D ns c i=true:=by simpa using hb
  have ha:=Z3f w T D ns c i λj hj=>by
   have:=hn j hj
   rw[ZJ w T D ns c j (by omega)] at this
   simpa using this
  have c1:=Z0Q w T D h5 hl c (K:=i) (by omega) .no
  have rr:=Zj (n:=i) (by omega)
  have e1:=Z16 w T D h5 c hi
  rw[hb] at e1
  have e2:=Zr (i:Int)
  have hi':(i:Int)<((Z1 D).length:Int):=by omega
  generalize (List.range i).map (λj=>PV.bl (leB w T D ns c j))=Q at *
  generalize ns.map (iu w T D)=A at *
  generalize (Z1 D).length=m at *
  simp[uG,Bv,List.replicate,jA,vd,rr,Ź,Ŧ,c1,ha,e1,e2,hi]
def szN(n c:Nat):Int:=((List.range n).map λj=>if c.testBit j then(1:Int) else 0).sum
def Z17{n:Nat}(hn:n<=5)(c:Nat):yS [.sh (.int c),.sh (.int n)]=.ret (.sh (.int (szN n c))):=by
 have rr:=Zj (n:=n) (by omega)
 have cc:=ī (g:=gN 1) (mt:=ĭ) (me:=Ą ĩ (Ą iT (Ā 0) (Ā 1)) (mC (.int 2))) (λ(j:Nat)=>PV.int (j:Int)) (λj=>PV.int (if c.testBit j then(1:Int) else 0)) (λρ=>∃s,ρ=[.sh (.int c),s]) (List.range n) [.sh (.int c),.no] [] ⟨_,rfl⟩ (by simp;omega) (by
  rintro j hj ρ ⟨s,rfl⟩
  have hb:=ZH c j
  have so:pL (c:Int) (j:Int)=true:=Zu c j
  exact⟨[.sh (.int c),.sh (.int j)],[.sh (.int c),.sh (.int j)],[.sh (.int c),.sh (.int j)],by simp,by simp,by simp[so,hb],_,rfl⟩)
 rw[List.nil_append] at cc
 have e2:(List.range n).map (λj=>PV.int (if c.testBit j then(1:Int) else 0))=((List.range n).map λj=>if c.testBit j then(1:Int) else 0).map PV.int:=by simp
 rw[e2] at cc
 unfold szN
 generalize ((List.range n).map λj=>if c.testBit j then(1:Int) else 0)=R at *
 simp[yS,KZ,List.replicate,rr,Ź,Ŧ,cc]
def Z1S(n c:Nat):szN n c=Z5 (λ_=>1) n c:=by
 unfold szN Z5
 generalize List.range n=l
 induction l with
 |nil=>rfl
 |cons x l ih=>
  rw[List.map_cons,List.sum_cons,ih]
  cases h:c.testBit x with
  |true=>rw[List.filter_cons_of_pos h];simp
  |false=>rw[List.filter_cons_of_neg (by simp[h])];simp
def Z2N(a b c d:Int):yD (.tup [.int a,.int b]) (.tup [.int c,.int d])=some (.bl (decide (a<c\/(a=c/\b<d)))):=by
 rw[JG]
 congr 2
 simp only[HT.lexLt]
 by_cases h1:a=c
 ·by_cases h2:b=d
  ·simp[h1,h2]
  ·simp[h1,h2]
 ·simp[h1]
def Z3v:aC (.str "choice") (.str "choice")=some (.bl false):=by
 rw[lY (by unfold ź;decide +kernel) (by simp[dep])]
def Z3w:aC (.str "alike") (.str "alike")=some (.bl false):=by
 rw[lY (by unfold ź;decide +kernel) (by simp[dep])]
def Z0d(a:Int):aC (.int a) (.int a)=some (.bl false):=by
 rw[lY (by unfold ź;rfl) (by simp[dep])]
def sS(w:Nat)(T:List Th)(D:List Dy)(ns:List Nat):List PV:=(List.range (2 ^ ns.length)).map λc=>jA (pap w T D ns c)
def Z1T(w:Nat)(T:List Th)(D:List Dy){ns:List Nat}(h5:ns.length<=5)(hl:(Z1 D).length<=50){c:Nat}(hc:c<2 ^ ns.length)(hp:pap w T D ns c=none)(hm:∀c',c'<2 ^ ns.length->pap w T D ns c'=none->Z5 (λ_=>1) ns.length c<=Z5 (λ_=>1) ns.length c'/\(Z5 (λ_=>1) ns.length c'=Z5 (λ_=>1) ns.length c->c<=c')) :
 yU [.sh (.tup [.str "choice",.int c,.int (Z5 (λ_=>1) ns.length c),.lst (sS w T D ns)]),.sh (.lst (ns.map (iu w T D))),.sh (.int (Z1 D).length)]=.ret (.sh (.bl true)):=by
 have hp2:2 ^ ns.length<=32:=by
  have:=Nat.pow_le_pow_right (show 0<2 by omega) h5
  simpa using this
 have hpl:(sS w T D ns).length=2 ^ ns.length:=by simp[sS]
 have hal:(ns.map (iu w T D)).length=ns.length:=by simp
 have rr:=Zj (n:=2 ^ ns.length) (by omega)
 have so:gD 1 (ns.length:Int)=true:=by simp[gD];omega
 have pc:(sS w T D ns)[c]?=some .non:=by simp[sS,hc,hp,jA]
 have es:=Z17 h5 c
 rw[Z1S] at es
 have st:∀S,Z5 (λ_=>1) ns.length c=S->∀(k:Nat),k<2 ^ ns.length->qL [.sh (.tup [.str "choice",.int c,.int S,.lst (sS w T D ns)]),.sh (.lst (ns.map (iu w T D))),.sh (.int (Z1 D).length),.sh (.int ns.length),.sh (.int k),.sh (.str "choice"),.sh (.int c),.sh (.int S),.sh (.lst (sS w T D ns))]=.ok .nx [.sh (.tup [.str "choice",.int c,.int S,.lst (sS w T D ns)]),.sh (.lst (ns.map (iu w T D))),.sh (.int (Z1 D).length),.sh (.int ns.length),.sh (.int k),.sh (.str "choice"),.sh (.int c),.sh (.int S),.sh (.lst (sS w T D ns))]:=by
  intro S hS k hk
  have e1:=Z0R w T D h5 hl k
  have pk:(sS w T D ns)[k]?=some (jA (pap w T D ns k)):=by simp[sS,hk]
  have e2:=Z17 h5 k
  rw[Z1S] at e2
  have hmk:=hm k hk
  rw[hS] at hmk
  cases q:pap w T D ns k with
  |none=>
   rw[q] at e1 pk
   have hmk:=hmk q
   have lt:=Z2N (Z5 (λ_=>1) ns.length k) k S c
   have lf:decide (Z5 (λ_=>1) ns.length k<S\/(Z5 (λ_=>1) ns.length k=S/\(k:Int)<c))=false:=by
    rw[decide_eq_false_iff_not]
    rintro (h|⟨h1,h2⟩)
    ·omega
    ·have:=hmk.2 h1;omega
   rw[lf] at lt
   generalize Z5 (λ_=>1) ns.length k=K at *
   generalize sS w T D ns=PA at *
   generalize ns.map (iu w T D)=A at *
   generalize (Z1 D).length=m at *
   generalize ns.length=n at *
   simp[jA] at e1 pk
   simp[qL,pk,e1,vd,e2,lt,-JG]
  |some i=>
   rw[q] at e1 pk
   generalize sS w T D ns=PA at *
   generalize ns.map (iu w T D)=A at *
   generalize (Z1 D).length=m at *
   generalize ns.length=n at *
   simp[jA] at e1 pk
   simp[qL,pk,e1,vd]
 generalize hS:Z5 (λ_=>1) ns.length c=S at *
 have st:=st S rfl
 obtain⟨ρ',e,s,rfl⟩:=dN (g:=gN 4) (mb:=qL) (λ(k:Nat)=>PV.int (k:Int)) (λ(_:Unit) (_:Nat)=>()) (λ_ ρ=>∃s,ρ=[.sh (.tup [.str "choice",.int c,.int S,.lst (sS w T D ns)]),.sh (.lst (ns.map (iu w T D))),.sh (.int (Z1 D).length),.sh (.int ns.length),s,.sh (.str "choice"),.sh (.int c),.sh (.int S),.sh (.lst (sS w T D ns))]) (List.range (2 ^ ns.length)) (by
  rintro k hk b ρ ⟨s,rfl⟩
  exact⟨_,_,rfl,st k (List.mem_range.mp hk),_,rfl⟩) () [.sh (.tup [.str "choice",.int c,.int S,.lst (sS w T D ns)]),.sh (.lst (ns.map (iu w T D))),.sh (.int (Z1 D).length),.sh (.int ns.length),.no,.sh (.str "choice"),.sh (.int c),.sh (.int S),.sh (.lst (sS w T D ns))] ⟨_,rfl⟩
 have w1:=Zr (c:Int)
 have w2:=Zr S
 have il:∀L,lQ [.lst L,.ty "list"]=some (.bl true):=λ_=>rfl
 have nc:=Z0d S
 have nl:=Z0d ((2:Int) ^ ns.length)
 have hpl':((sS w T D ns).length:Int)=(2:Int) ^ ns.length:=by rw[hpl];simp
 have hc':(c:Int)<(2:Int) ^ ns.length:=by
  have:((c:Nat):Int)<((2 ^ ns.length:Nat):Int):=Int.ofNat_lt.mpr hc
  simpa using this
 have rr':Ō [.int (2 ^ ns.length)]=some ((List.range (2 ^ ns.length)).map λ(i:Nat)=>PV.int (i:Int)):=by
  have:((2 ^ ns.length:Nat):Int)=2 ^ ns.length:=by simp
  rw[this] at rr
  exact rr
 clear st hm
 generalize (List.range (2 ^ ns.length)).map (λ(k:Nat)=>PV.int (k:Int))=RG at *
 generalize sS w T D ns=PA at *
 generalize ns.map (iu w T D)=A at *
 generalize (Z1 D).length=m at *
 simp[yU,La,List.replicate,hal,Z3v,w1,w2,il,so,hpl',nl,hc',es,nc,rr',e,pc,vd]
def Z0h(x y:Nat×Nat×Nat):eqB (Œ y) (Œ x)=decide (y=x):=by
 obtain⟨a,b,c⟩:=x
 obtain⟨d,e,f⟩:=y
 show eqB (.tup [.int (d:Int),.int (e:Int),.int (f:Int)]) (.tup [.int (a:Int),.int (b:Int),.int (c:Int)])=_
 rw[Bool.eq_iff_iff]
 simp[eqB,dJ]
 omega
def Z0S(x:Nat×Nat×Nat):ź (Œ x)=true:=by simp[Œ,ź,aB]
def Z18(x:Nat×Nat×Nat):decide (dep (Œ x)<=60)=true:=by simp[Œ,dep,uZ]
def Z19(l:List (Nat×Nat×Nat)):aB (l.map Œ)=true:=by
 induction l with
 |nil=>rfl
 |cons x l ih=>rw[List.map_cons,aB,ih,Z0S];rfl
def Z2O{p:Nat×Nat×Nat}{l:List (Nat×Nat×Nat)}(h:p∈l):inD true (Œ p) (.lst (l.map Œ))=some (.bl false):=by
 have ha:(l.map Œ).any (λy=>eqB y (Œ p))=true:=by
  rw[List.any_map,List.any_eq_true]
  exact⟨p,h,by simp[Z0h]⟩
 unfold inD
 simp only[Z0S,Z19,Z18,ha]
 rfl
def Z3g{p:Nat×Nat×Nat}{l:List (Nat×Nat×Nat)}{k:Nat}(hk:k<l.length)(h1:l.getD k (0,0,0)=p)(h2:∀j,j<k->l.getD j (0,0,0)≠p):jQ (.lst (l.map Œ)) [Œ p]=some (.int k):=by
 have hf:(l.map Œ).findIdx? (λy=>eqB y (Œ p))=some k:=by
  rw[List.findIdx?_eq_some_iff_getElem]
  refine⟨by simpa using hk,?_,λj hj=>?_⟩
  ·simp[Z0h]
   simpa[hk] using h1
  ·have:=h2 j hj
   simp[Z0h]
   have hjl:j<l.length:=by omega
   simpa[hjl] using this
 unfold jQ
 simp only[Z0S,Z19,Z18,hf]
 rfl
def Z2i(w:Nat)(T:List Th)(D:List Dy){ns:List Nat}(h5:ns.length<=5)(hl:(Z1 D).length<=50){k:Nat}(hk:pap w T D ns (2 ^ ns.length-1)=some k) :
 yW [.sh (pr4 ((Z1 D).getD k (0,0,0))),.sh (.lst ((Z1 D).map Œ)),.sh (.lst (ns.map (iu w T D)))]=.ret (.sh (.bl true)):=by
 have hlt:=Z1p hk
 obtain⟨b1,b2⟩:=Z07 hk
 obtain⟨p,hp⟩:∃p,(Z1 D).getD k (0,0,0)=p:=⟨_,rfl⟩
 have hne:∀j,j<k->(Z1 D).getD j (0,0,0)≠p:=by
  intro j hj he
  have e1:=b2 j hj
  rw[ZJ w T D ns _ j (by omega)] at e1
  rw[ZJ w T D ns _ k hlt] at b1
  have:leB w T D ns (2 ^ ns.length-1) j=leB w T D ns (2 ^ ns.length-1) k:=by
   unfold leB Zk
   rw[he,hp]
  rw[this] at e1
  rw[e1] at b1
  cases b1
 have hmem:p∈Z1 D:=by
  rw[<-hp,List.getD_eq_getElem?_getD,List.getElem?_eq_getElem hlt]
  exact List.getElem_mem hlt
 have i1:=Z3g hlt hp hne
 have i2:=Z2O hmem
 have e1:=Z0R w T D h5 hl (2 ^ ns.length-1)
 rw[hk] at e1
 rw[hp]
 have sl:slG (pr4 p) (some 1) none=some (.sh (Œ p)):=by rfl
 have ix:ē (pr4 p) (.int 0)=some (.str "alike"):=by rfl
 have w1:=Zr (p.1:Int)
 have w2:=Zr (p.2.1:Int)
 have w3:=Zr (p.2.2:Int)
 have cc:į (gN 0) ĭ (Ď (ď mZ (Ă 0 Ċ))) [.int p.1,.int p.2.1,.int p.2.2] [.no] []=some [.bl true,.bl true,.bl true]:=by
  simp[į,w1,w2,w3]
 have al:pQ [.lst [.bl true,.bl true,.bl true]]=some (.bl true):=by rfl
 have so:gD 1 (ns.length:Int)=true:=by simp[gD];omega
 have hal:(ns.map (iu w T D)).length=ns.length:=by simp
 have hpl:((Z1 D).map Œ).length=(Z1 D).length:=by simp
 have hc:((2 ^ ns.length-1:Nat):Int)=(2:Int) ^ ns.length-1:=by
  have:=Nat.two_pow_pos ns.length
  rw[Int.natCast_sub (by omega)]
  simp
 rw[hc] at e1
 simp only[jA] at e1
 generalize ns.map (iu w T D)=A at *
 generalize (Z1 D).map Œ=PR at *
 generalize (Z1 D).length=m at *
 unfold Œ at sl i1 i2
 generalize hP4:pr4 p=P4 at *
 simp[yW,Le,List.replicate,ix,Z3w,sl,Ź,Ŧ,cc,al,i2,i1,hal,so,hpl,e1]
theorem Z08(b:Int)(s1:P.Slot):∀(ks:List Nat) (acc:List Int) (c:Int) (s4:P.Slot),acc.length+ks.length<=100000->(∀k∈ks,k<1000)->∃(acc':List Int) (c':Int) (wR:P.Slot),forL (gN 4) mz (ks.map λ(i:Nat)=>PV.int (i:Int)) [.sh (.int c),s1,.sh (.int b),.ow (acc.map .int),s4]=.ok .nx [.sh (.int c'),s1,.sh (.int b),.ow (acc'.map .int),wR]/\acc'.length=acc.length+ks.length
 | [],acc,c,s4,_,_=>⟨acc,c,s4,rfl,rfl⟩
 |k::ks,acc,c,s4,hl,hk=>by
  have hk0:=hk k List.mem_cons_self
  have hl0:acc.length<16777216:=by simp at hl;omega
  rw[List.map_cons,forL]
  have hg:gN 4 (PV.int (k:Int)) [.sh (.int c),s1,.sh (.int b),.ow (acc.map .int),s4]=some [.sh (.int c),s1,.sh (.int b),.ow (acc.map .int),.sh (.int k)]:=rfl
  rw[hg]
  dsimp only
  by_cases h0:b=0
  ·have e:mz [.sh (.int c),s1,.sh (.int b),.ow (acc.map .int),.sh (.int k)]=.ok .nx [.sh (.int (c / 1000000)),s1,.sh (.int b),.ow ((acc ++ [c % 1000000]).map .int),.sh (.int k)]:=by
    simp[mz,h0,hl0]
   rw[e]
   obtain⟨a,b',d,q1,q2⟩:=Z08 b s1 ks (acc ++ [c % 1000000]) (c / 1000000) (.sh (.int k)) (by simp at hl ⊢;omega) (λx hx=>hk x (List.mem_cons_of_mem _ hx))
   exact⟨a,b',d,q1,by simp at q2 ⊢;omega⟩
  ·obtain⟨m,e1,_⟩:=Z0H c k (by omega) (by omega)
   obtain⟨m2,e2,_⟩:=Z0H (m+c) k (by omega) (by omega)
   have e:mz [.sh (.int c),s1,.sh (.int b),.ow (acc.map .int),.sh (.int k)]=.ok .nx [.sh (.int c),s1,.sh (.int b),.ow ((acc ++ [m2]).map .int),.sh (.int k)]:=by
    simp[mz,h0,hl0,e1,e2]
   rw[e]
   obtain⟨a,b',d,q1,q2⟩:=Z08 b s1 ks (acc ++ [m2]) c (.sh (.int k)) (by simp at hl ⊢;omega) (λx hx=>hk x (List.mem_cons_of_mem _ hx))
   exact⟨a,b',d,q1,by simp at q2 ⊢;omega⟩
def Z1U(c:Int){n:Nat}(hn:n<=1000):∃xs:List Int,uH [.sh (.int c),.sh (.int n)]=.ret (.ow (xs.map .int))/\xs.length=n:=by
 have rr:=Zj hn
 obtain⟨B,hB⟩:∃B:Int,B=10 ^ 60:=⟨_,rfl⟩
 have p0:iR (.int 10) (.int 60)=some (.int B):=by rw[hB];rfl
 have b1:Ő B B=true:=by rw[hB];decide +kernel
 have b2:Ő (B*B) B=true:=by rw[hB];decide +kernel
 have b3:¬(B*B*B=0):=by rw[hB];decide +kernel
 obtain⟨c2,hc2⟩:∃c2,ĩ (.int (c / 2)) (.int (B*B*B))=some (.int c2):=⟨_,by rw[oR,if_pos (by simp[xP,b3])]⟩
 have m2:ĩ (.int c) (.int 2)=some (.int (c % 2)):=by simp
 obtain⟨a,b,d,q1,q2⟩:=Z08 (c % 2) (.sh (.int n)) (List.range n) [] c2 .no (by simp;omega) (λk hk=>by have:=List.mem_range.mp hk;omega)
 refine⟨a,?_,by simpa using q2⟩
 rw[List.map_nil] at q1
 simp[uH,Ld,List.replicate,rr,q1,p0,b1,b2,hc2,m2,-oR,-PJ]
theorem Z3A:∀(xs:List Int),xs.length=9->∃a b c d e f g h i,xs=[a,b,c,d,e,f,g,h,i]
 | [a,b,c,d,e,f,g,h,i],_=>⟨a,b,c,d,e,f,g,h,i,rfl⟩
def Zm(t:Th):PV:=.tup [.str t.1,.lst (t.2.map .int)]
def Pm(x:Int):Prop:=-100<=x/\x<=100
def Np{a b:String}(h:decide (Str.ofString a=Str.ofString b)=false):¬(Str.ofString a=Str.ofString b):=of_decide_eq_false h
def Z1V{x y h:Int}(a:Pm x)(b:Pm y)(c:1<=h/\h<=6):Za "post" [x,y,h]=true:=by
 unfold Pm at a b
 unfold Za Zh aq zE
 simp
 omega
def Z1q{x y u v h:Int}(a:Pm x)(b:Pm y)(hu:Pm u)(hv:Pm v)(c:1<=h/\h<=6)(e:Int)(he:e=if x=u/\y=v then 1 else 0):Za "fence" [x,y,u+e,v,h]=true:=by
 have h1:¬(Str.ofString "fence" =Str.ofString "post"):=Np (by decide +kernel)
 unfold Pm at a b hu hv
 unfold Za
 rw[if_neg h1,if_pos rfl]
 unfold Zf Zi aq zE
 simp
 split at he<;>omega
def Z0T{w:Str}(hw:w= "sail" \/w= "house"){x y u v h:Int}(a:Pm x)(b:Pm y)(hu:0<=u/\u<=8)(hv:0<=v/\v<=8)(c:1<=h/\h<=6):Za w [x,y,x+1+u,y+1+v,h]=true:=by
 have hb:Zb [x,y,x+1+u,y+1+v,h]=true:=by
  unfold Pm at a b
  unfold Zb Zi aq zE
  simp
  omega
 unfold Za
 rcases hw with rfl|rfl
 ·rw[if_neg (Np (by decide +kernel)),if_neg (Np (by decide +kernel)),if_pos rfl]
  exact hb
 ·rw[if_neg (Np (by decide +kernel)),if_neg (Np (by decide +kernel)),if_neg (Np (by decide +kernel)),if_neg (Np (by decide +kernel)),if_pos rfl]
  exact hb
def Z1r{x y z a b c d e f:Int}(h1:Pm x)(h2:Pm y)(h3:0<=z/\z<=6)(h4:Pm a)(h5:Pm b)(h6:0<=c/\c<=6)(h7:Pm d)(h8:Pm e)(h9:1<=f/\f<=6):Za "cloth" [x,y,z,a,b,c,d,e,f]=true:=by
 unfold Za
 rw[if_neg (Np (by decide +kernel)),if_neg (Np (by decide +kernel)),if_neg (Np (by decide +kernel)),if_pos rfl]
 unfold Pm at *
 unfold Zg aq zF
 simp
 omega
def Z1s(c:Int):∃t:Th,gP [.sh (.int c)]=.ret (.sh (Zm t))/\Za t.1 t.2=true:=by
 obtain⟨xs,er,hx⟩:=Z1U (c / 5) (n:=9) (by omega)
 obtain⟨a0,a1,a2,a3,a4,a5,a6,a7,a8,rfl⟩:=Z3A xs hx
 have er:uH [.sh (.int (c / 5)),.sh (.int 9)]=.ret (.ow [.int a0,.int a1,.int a2,.int a3,.int a4,.int a5,.int a6,.int a7,.int a8]):=er
 have hc:eZ [.int a0,.int a1,.int a2,.int a3,.int a4,.int a5,.int a6,.int a7,.int a8] none (some 4)=[PV.int a0,.int a1,.int a2,.int a3]:=by rfl
 obtain⟨kd,hkd⟩:∃kd,c % 5=kd:=⟨_,rfl⟩
 have hh:1<=1+a4 % 6/\1+a4 % 6<=6:=by omega
 have p:∀a:Int,Pm (a % 17-5):=λa=>by unfold Pm;omega
 have p2:∀a:Int,Pm ((a % 17-5) / 2):=λa=>by unfold Pm;omega
 by_cases k0:kd=0
 ·exact⟨("post",[(a0 % 17-5) / 2,(a1 % 17-5) / 2,1+a4 % 6]),by simp[gP,jr,List.replicate,er,Gf,hc,į,Ź,Ŧ,hkd,k0,Zm],Z1V (p2 _) (p2 _) hh⟩
 by_cases k1:kd=1
 ·refine⟨("fence",[a0 % 17-5,a1 % 17-5,(a2 % 17-5)+(if a0 % 17-5=a2 % 17-5/\a1 % 17-5=a3 % 17-5 then 1 else 0),a3 % 17-5,1+a4 % 6]),?_,Z1q (p _) (p _) (p _) (p _) hh _ rfl⟩
  by_cases hq:(a0 % 17-5=a2 % 17-5/\a1 % 17-5=a3 % 17-5)
  ·have et:Ş (.tup [.int (a0 % 17-5),.int (a1 % 17-5)]) (.tup [.int (a2 % 17-5),.int (a3 % 17-5)])=some (.bl true):=by rw[DX,decide_eq_true hq.1,decide_eq_true hq.2];rfl
   rw[if_pos hq]
   simp[gP,jr,List.replicate,er,Gf,hc,į,Ź,Ŧ,hkd,k1,Zm,et]
  ·have et:Ş (.tup [.int (a0 % 17-5),.int (a1 % 17-5)]) (.tup [.int (a2 % 17-5),.int (a3 % 17-5)])=some (.bl false):=by
    rw[DX]
    congr 2
    rw[<-Bool.decide_and,decide_eq_false hq]
   rw[if_neg hq]
   simp[gP,jr,List.replicate,er,Gf,hc,į,Ź,Ŧ,hkd,k1,Zm,et]
 by_cases k2:kd=2
 ·refine⟨("cloth",[a0 % 17-5,a1 % 17-5,a5 % 7,a2 % 17-5,a3 % 17-5,a6 % 7,a7 % 17-5,a8 % 17-5,1+a4 % 6]),?_,Z1r (p _) (p _) (by omega) (p _) (p _) (by omega) (p _) (p _) hh⟩
  simp[gP,jr,List.replicate,er,Gf,hc,į,Ź,Ŧ,hkd,k2,Zm,add_l]
 by_cases k3:kd=3
 ·refine⟨("sail",[a0 % 17-5,a1 % 17-5,a0 % 17-5+1+a2 % 4,a1 % 17-5+1+a3 % 4,1+a4 % 6]),?_,Z0T (.inl rfl) (p _) (p _) (by omega) (by omega) hh⟩
  simp[gP,jr,List.replicate,er,Gf,hc,į,Ź,Ŧ,hkd,k3,Zm]
 ·have k4:kd=4:=by omega
  refine⟨("house",[a0 % 17-5,a1 % 17-5,a0 % 17-5+1+a2 % 4,a1 % 17-5+1+a3 % 4,1+a4 % 6]),?_,Z0T (.inr rfl) (p _) (p _) (by omega) (by omega) hh⟩
  simp[gP,jr,List.replicate,er,Gf,hc,į,Ź,Ŧ,hkd,k4,Zm]
theorem Z0U(s0 s1:P.Slot):∀(xs:List Int) (os:List (Option P3)) (s3:P.Slot),os.length+xs.length<=100000->(∀o∈os,GC o)->∃(os':List (Option P3)) (s3':P.Slot),forL (gN 3) qM (xs.map .int) [s0,s1,.ow (os.map cA),s3]=.ok .nx [s0,s1,.ow (os'.map cA),s3']/\os'.length=os.length+xs.length/\∀o∈os',GC o
 | [],os,s3,_,h=>⟨os,s3,rfl,rfl,h⟩
 |x::xs,os,s3,hl,h=>by
  have hl0:(os.map cA).length<16777216:=by simp at hl ⊢;omega
  rw[List.map_cons,forL]
  have hg:gN 3 (PV.int x) [s0,s1,.ow (os.map cA),s3]=some [s0,s1,.ow (os.map cA),.sh (.int x)]:=rfl
  rw[hg]
  dsimp only
  obtain⟨o,e,ho⟩:∃o:Option P3,qM [s0,s1,.ow (os.map cA),.sh (.int x)]=.ok .nx [s0,s1,.ow ((os ++ [o]).map cA),.sh (.int x)]/\GC o:=by
   simp only[List.map_append]
   generalize os.map cA=OS at *
   by_cases h7:x % 8=7
   ·exact⟨none,by simp[qM,h7,hl0,cA],trivial⟩
   ·refine⟨some (x / 8 % 7-3,x / 56 % 7-3,1+x / 392 % 3),by simp[qM,h7,hl0,cA,c3],?_⟩
    refine⟨⟨?_,?_,?_,?_,?_,?_⟩,?_⟩<;>dsimp only<;>omega
  rw[e]
  obtain⟨os',s3',q1,q2,q3⟩:=Z0U s0 s1 xs (os ++ [o]) (.sh (.int x)) (by simp at hl ⊢;omega) (by
   intro y hy
   rcases List.mem_append.mp hy with hy|hy
   ·exact h y hy
   ·rw[List.mem_singleton.mp hy];exact ho)
  exact⟨os',s3',q1,by simp at q2 ⊢;omega,q3⟩
def Z3h(c:Int){n:Nat}(hn:n<=1000):∃os:List (Option P3),Ey [.sh (.int c),.sh (.int n)]=.ret (.ow (os.map cA))/\os.length=n/\∀o∈os,GC o:=by
 obtain⟨xs,er,hx⟩:=Z1U c hn
 obtain⟨os,s3,q1,q2,q3⟩:=Z0U (.sh (.int c)) (.sh (.int n)) xs [] .no (by simp;omega) (by simp)
 refine⟨os,?_,by simp at q2;omega,q3⟩
 rw[List.map_nil] at q1
 generalize os.map cA=OS at *
 generalize xs.map PV.int=XS at *
 simp[Ey,Lf,List.replicate,er,q1]
def Z0t:Ac 2 0=some 0:=rfl
def Z2r:Ac 2 1=some 1:=rfl
def Z2j{w:Str}{xs:List Int}(h:Za w xs=true):PyData.strOk w=true:=by
 unfold Za at h
 by_cases e1:w= "post"
 ·rw[e1];exact s1
 rw[if_neg e1] at h
 by_cases e2:w= "fence"
 ·rw[e2];exact s2
 rw[if_neg e2] at h
 by_cases e3:w= "sail"
 ·rw[e3];exact s3
 rw[if_neg e3] at h
 by_cases e4:w= "cloth"
 ·rw[e4];exact s4
 rw[if_neg e4] at h
 by_cases e5:w= "house"
 ·rw[e5];exact s5
 rw[if_neg e5] at h
 cases h
def Z1W{T:List Th}(hl:T.length<=1000)(hg:∀t∈T,Za t.1 t.2=true)(s0 s1:P.Slot):į (gT 2 (ę (gN 0) (ę (gN 1) ŏ))) ĭ (Ď (ď dR (Ă 0 (Ĕ (Ď (fW aK (ă (Ā 1) Đ))) Ċ)))) (T.map Zm) [s0,s1] []=some (T.map zG):=by
 have hc:=ī (g:=gT 2 (ę (gN 0) (ę (gN 1) ŏ))) (mt:=ĭ) (me:=Ď (ď dR (Ă 0 (Ĕ (Ď (fW aK (ă (Ā 1) Đ))) Ċ)))) Zm zG (λρ=>∃a b,ρ=[a,b]) T [s0,s1] [] ⟨_,_,rfl⟩ (by simp;omega) (by
  rintro t ht ρ ⟨a,b,rfl⟩
  have e:=Z26 (Z2j (hg t ht)) (xs:=t.2) (sl:=.sh (.lst (t.2.map .int))) (.inl rfl)
  rw[if_pos (hg t ht)] at e
  change dR _=.ret (.sh (zG t)) at e
  refine⟨[.sh (.str t.1),.sh (.lst (t.2.map .int))],_,[.sh (.str t.1),.sh (.lst (t.2.map .int))],by simp[Zm],rfl,?_,_,_,rfl⟩
  generalize t.2.map PV.int=X at *
  generalize zG t=V at *
  simp[e])
 simpa using hc
theorem Z1a(ns:List Int):∀(ks:List Nat) (acc:List PV) (s1:P.Slot),acc.length+ks.length<=1000->∃T:List Th,į (gN 1) ĭ (Ď (ď gP (Ĕ (Ď (ď bZ (Ă 0 (Ĕ (Ď (ħ ĥ (mC (.int 1)) (Ā 1))) Ċ)))) Ċ))) (ks.map λ(i:Nat)=>PV.int (i:Int)) [.sh (.lst (ns.map .int)),s1] acc=some (acc++T.map Zm)/\T.length=ks.length/\∀t∈T,Za t.1 t.2=true
 | [],acc,s1,_=>⟨[],by simp[į],rfl,by simp⟩
 |k::ks,acc,s1,ha=>by
  have e0:=ZA ns (1+k)
  rw[show((1+k:Nat):Int)=1+(k:Int) by omega] at e0
  generalize ns.getD (1+k) 0=c at *
  obtain⟨t,e1,e2⟩:=Z1s c
  obtain⟨T,q1,q2,q3⟩:=Z1a ns ks (acc ++ [Zm t]) (.sh (.int k)) (by simp at ha ⊢;omega)
  refine⟨t::T,?_,by simp[q2],?_⟩
  ·have hz:acc.length<16777216:=by simp at ha;omega
   generalize hR:Zm t=R at *
   generalize ns.map PV.int=NS at *
   rw[List.map_cons,į]
   simp[e0,e1,hz,hR]
   simpa using q1
  ·intro x hx
   rcases List.mem_cons.mp hx with rfl|hx
   ·exact e2
   ·exact q3 x hx
def rE(os:List (Option P3)):PV:=.lst (os.map cA)
def Z2k(ns:List Int){f:Int}(k:Nat)(hk:k<2)(O:List PV)(hO:O.length<=1000)(z2 z3 z6 z7 z8 z9 Qy Qz:P.Slot):∃os:List (Option P3),qQ [.sh (.lst (ns.map .int)),.sh (.int f),z2,z3,.ow O,.sh (.int k),z6,z7,z8,z9,Qy,Qz]=.ok .nx [.sh (.lst (ns.map .int)),.sh (.int f),z2,z3,.ow (O ++ [rE os]),.sh (.int k),z6,z7,z8,z9,Qy,Qz]/\os.length<=5/\∀o∈os,GC o:=by
 have e0:=ZA ns (6+k)
 rw[show((6+k:Nat):Int)=6+(k:Int) by omega] at e0
 generalize ns.getD (6+k) 0=c at *
 obtain⟨q,hq⟩:∃q,ō (.int (f / 216)) (.int ((k:Int)+1))=some (.int q):=by
  have:k=0\/k=1:=by omega
  rcases this with rfl|rfl
  ·exact⟨_,by simp;rfl⟩
  ·exact⟨_,by simp;rfl⟩
 obtain⟨n,hn⟩:∃n:Nat,1+q % 5=(n:Int):=⟨(1+q % 5).toNat,by omega⟩
 obtain⟨os,e1,e2,e3⟩:=Z3h c (n:=n) (by omega)
 refine⟨os,?_,by omega,e3⟩
 have hO:O.length<16777216:=by omega
 have d1:ō (.int f) (.int 216)=some (.int (f / 216)):=by simp
 unfold rE
 generalize os.map cA=OS at *
 generalize ns.map PV.int=NS at *
 simp[qQ,e0,d1,hq,hn,e1,hO,-Pz]
theorem Z0V(ns:List Int){f:Int}(z2 z3 z6 z7 z8 z9 Qy Qz:P.Slot):∀(ks:List Nat) (O:List (List (Option P3))) (z5:P.Slot),(∀k∈ks,k<2)->O.length+ks.length<=1000->(∀os∈O,os.length<=5/\∀o∈os,GC o)->∃(O':List (List (Option P3))) (z5':P.Slot),forL (gN 5) qQ (ks.map λ(i:Nat)=>PV.int (i:Int)) [.sh (.lst (ns.map .int)),.sh (.int f),z2,z3,.ow (O.map rE),z5,z6,z7,z8,z9,Qy,Qz]=.ok .nx [.sh (.lst (ns.map .int)),.sh (.int f),z2,z3,.ow (O'.map rE),z5',z6,z7,z8,z9,Qy,Qz]/\O'.length=O.length+ks.length/\∀os∈O',os.length<=5/\∀o∈os,GC o
 | [],O,z5,_,_,h=>⟨O,z5,rfl,rfl,h⟩
 |k::ks,O,z5,hk,hl,h=>by
  simp only[List.length_cons] at hl
  obtain⟨os,e1,g1⟩:=Z2k ns (f:=f) k (hk k List.mem_cons_self) (O.map rE) (by simp;omega) z2 z3 z6 z7 z8 z9 Qy Qz
  obtain⟨O',z5',e2,l2,g2⟩:=Z0V ns (f:=f) z2 z3 z6 z7 z8 z9 Qy Qz ks (O ++ [os]) (.sh (.int k)) (λx hx=>hk x (List.mem_cons_of_mem _ hx)) (by simp;omega) (by
   intro y hy
   rcases List.mem_append.mp hy with hy|hy
   ·exact h y hy
   ·rw[List.mem_singleton.mp hy];exact g1)
  refine⟨O',z5',?_,by simp at l2 ⊢;omega,g2⟩
  rw[List.map_append] at e2
  rw[List.map_cons,forL]
  have hg:gN 5 (PV.int (k:Int)) [.sh (.lst (ns.map .int)),.sh (.int f),z2,z3,.ow (O.map rE),z5,z6,z7,z8,z9,Qy,Qz]=some [.sh (.lst (ns.map .int)),.sh (.int f),z2,z3,.ow (O.map rE),.sh (.int k),z6,z7,z8,z9,Qy,Qz]:=rfl
  rw[hg]
  dsimp only
  rw[e1]
  exact e2
def abc:Nat->Str
 |0=> "a"
 |_=> "b"
def Fg(O:List (List (Option P3))):List Dy:=(List.range O.length).map λk=>(abc k,1+(k:Int),O.getD k [])
def Z1b(O:List (List (Option P3))):(Fg O).length=O.length:=by simp[Fg]
def Z3i(O:List (List (Option P3))):fY (Fg O)=O.map rE:=by
 unfold fY Fg
 rw[List.map_map,ZE rE [] O]
 rfl
def Z3j{O:List (List (Option P3))}(hl:O.length<=2)(h:∀os∈O,os.length<=5/\∀o∈os,GC o):∀d∈Fg O,ZZ 5 d:=by
 intro d hd
 obtain⟨k,hk,rfl⟩:=List.mem_map.mp hd
 have hk:=List.mem_range.mp hk
 have hm:O.getD k []∈O:=by rw[List.getD_eq_getElem?_getD,List.getElem?_eq_getElem hk];exact List.getElem_mem hk
 exact⟨⟨by dsimp only;omega,by dsimp only;omega⟩,h _ hm⟩
def Z2P{O:List (List (Option P3))}(hl:O.length<=2)(s:P.Slot):į (gN 1) ĭ (ŀ (ă (Ą ē (mC (.str "abc")) (Ā 1)) (ă (Ď (ħ ĥ (mC (.int 1)) (Ā 1))) (ă (Ď (fW aK (ă (Ą ē (Ā 0) (Ā 1)) Đ))) Đ)))) ((List.range O.length).map λ(k:Nat)=>PV.int (k:Int)) [.bw (O.map rE),s] []=some ((Fg O).map kY):=by
 have:=ī (g:=gN 1) (mt:=ĭ) (me:=ŀ (ă (Ą ē (mC (.str "abc")) (Ā 1)) (ă (Ď (ħ ĥ (mC (.int 1)) (Ā 1))) (ă (Ď (fW aK (ă (Ą ē (Ā 0) (Ā 1)) Đ))) Đ)))) (λ(k:Nat)=>PV.int (k:Int)) (λk=>kY (abc k,1+(k:Int),O.getD k [])) (λρ=>∃s,ρ=[.bw (O.map rE),s]) (List.range O.length) [.bw (O.map rE),s] [] ⟨_,rfl⟩ (by simp;omega) (by
  rintro k hk ρ ⟨s,rfl⟩
  have hk:=List.mem_range.mp hk
  have hx:(O.map rE)[k]?=some (.lst ((O.getD k []).map cA)):=by simp[hk,rE]
  have ha:ē (.str "abc") (.int (k:Int))=some (.str (abc k)):=by
   have:k=0\/k=1:=by omega
   rcases this with rfl|rfl<;>rfl
  refine⟨[.bw (O.map rE),.sh (.int k)],[.bw (O.map rE),.sh (.int k)],[.bw (O.map rE),.sh (.int k)],by simp,by simp,?_,_,rfl⟩
  unfold kY
  dsimp only
  generalize (O.getD k []).map cA=X at *
  generalize O.map rE=OS at *
  simp[hx,ha])
 rw[this,Fg,List.map_map]
 rfl
theorem Z1c(ns:List Int){w h:Nat}(hw:1<=w/\w<=4)(hh:1<=h/\h<=4):∀(ks:List Nat) (acc:List PV) (s:P.Slot),acc.length+ks.length<=1000->∃qs:List Nat,į (gN 2) ĭ (Ą ĩ (Ď (ď bZ (Ă 0 (Ĕ (Ď (ħ ĥ (mC (.int 9)) (Ā 2))) Ċ)))) (Ą ĳ (Ą ē (Ā 1) (mC (.int 0))) (Ą ē (Ā 1) (mC (.int 1))))) (ks.map λ(i:Nat)=>PV.int (i:Int)) [.sh (.lst (ns.map .int)),.sh (.tup [.int w,.int h]),s] acc=some (acc++qs.map nV)/\qs.length=ks.length/\∀q∈qs,q<w*h
 | [],acc,s,_=>⟨[],by simp[į],rfl,by simp⟩
 |k::ks,acc,s,ha=>by
  have e0:=ZA ns (9+k)
  rw[show((9+k:Nat):Int)=9+(k:Int) by omega] at e0
  generalize ns.getD (9+k) 0=c at *
  have hp:0<w*h:=Nat.mul_pos (by omega) (by omega)
  have h1:=Int.emod_nonneg c (show((w*h:Nat):Int)≠0 by omega)
  have h2:=Int.emod_lt_of_pos c (show(0:Int)<((w*h:Nat):Int) by omega)
  obtain⟨q,hq⟩:∃q:Nat,c % ((w*h:Nat):Int)=(q:Int):=⟨_,(Int.toNat_of_nonneg h1).symm⟩
  have mo:Ő (w:Int) (h:Int)=true:=bC (by omega) (by omega)
  have hm:ĩ (.int c) (.int ((w:Int)*h))=some (.int q):=by
   rw[<-hq,<-Int.natCast_mul,oR,if_pos (by simp;omega),Int.fmod_eq_emod_of_nonneg _ (by omega)]
  obtain⟨qs,q1,q2,q3⟩:=Z1c ns hw hh ks (acc ++ [nV q]) (.sh (.int k)) (by simp at ha ⊢;omega)
  refine⟨q::qs,?_,by simp[q2],?_⟩
  ·have hz:acc.length<16777216:=by simp at ha;omega
   generalize ns.map PV.int=NS at *
   rw[List.map_cons,į]
   simp[e0,mo,hm,hz,Z0t,Z2r,-oR]
   simpa[nV] using q1
  ·intro x hx
   rcases List.mem_cons.mp hx with rfl|hx
   ·omega
   ·exact q3 x hx
def Z0u:M Fl:=(Ě (Ao (gS 2 (ę (gN 10) (ę (gN 11) ŏ))) (Ď (ď yL (Ă 8 (Ă 4 (Ă 6 (Ĕ (Ą ē (Ā 2) (mC (.int 0))) Ċ)))))))
 (Ě (Ĩ 9 (ď qK (Ă 8 (Ĕ (Ď (fW aK (ă (Ā 6) Đ))) Ċ))))
 (Ě (cG (nH (ao (aA (aF lQ (ă (Ā 9) (ă (mC (.ty "tuple")) Đ))))) (cu (Ą aC (aF ų (ă (Ā 9) Đ)) (mC (.int 4)))))
 (ġ (Ŋ (mC (.bl false))))
 cY)
 (Ě (cG (cu (Ą Ş (Ą ē (Ā 9) (mC (.int 0))) (mC (.str "alike"))))
 (ġ (ď yW (Ă 9 (Ă 10 (Ă 11 Ċ)))))
 cY)
 (ġ (ď yU (Ă 9 (Ă 11 (Ĕ (aF ų (ă (Ā 10) Đ)) Ċ)))))))))
def Z0W:M Fl:=(Ě (Ĩ 6 (ĵ [0,2] 1 (Ľ Ō (ă (Ą ĩ (Ą ō (Ā 1) (mC (.int 15000))) (mC (.int 6))) Đ)) (gN 2) ĭ (Ą ĩ (Ď (ď bZ (Ă 0 (Ĕ (Ď (ħ ĥ (mC (.int 9)) (Ā 2))) Ċ)))) (Ą ĳ (Ą ē (Ā 1) (mC (.int 0))) (Ą ē (Ā 1) (mC (.int 1)))))))
 (Ě (Ĩ 7 (ĵ [4] 1 (Ľ Ō (ă (aF ų (ă (Ā 4) Đ)) Đ)) (gN 1) ĭ (ŀ (ă (Ą ē (mC (.str "abc")) (Ā 1)) (ă (Ď (ħ ĥ (mC (.int 1)) (Ā 1))) (ă (Ď (fW aK (ă (Ą ē (Ā 0) (Ā 1)) Đ))) Đ))))))
 (Ě (Ĩ 8 (Ŋ (bK "Yard" jT (Ĕ (Ą ē (Ā 2) (mC (.int 0))) (Ĕ (Ą ē (Ā 2) (mC (.int 1))) (Ĕ (Ď (ĵ [] 2 (ŋ 3) (gT 2 (ę (gN 0) (ę (gN 1) ŏ))) ĭ (Ď (ď dR (Ă 0 (Ĕ (Ď (fW aK (ă (Ā 1) Đ))) Ċ)))))) (Ă 7 Ċ)))))))
 Z0u)))
def Z3k:Lk=(Ě (Ĩ 1 (Ŋ (Ą ĩ (Ď (ď bZ (Ă 0 (Ĕ (mC (.int 0)) Ċ)))) (Ą iR (mC (.int 10)) (mC (.int 9))))))
 (Ě (Ĩ 2 (Ŋ (ŀ (ă (Ď (ħ ĥ (mC (.int 1)) (Ą ĩ (Ā 1) (mC (.int 4))))) (ă (Ď (ħ ĥ (mC (.int 1)) (Ą ĩ (Ą ō (Ā 1) (mC (.int 6))) (mC (.int 4))))) Đ)))))
 (Ě (Ĩ 3 (ĵ [0] 1 (Ľ Ō (ă (Ą ĩ (Ą ō (Ā 1) (mC (.int 36))) (mC (.int 3))) Đ)) (gN 1) ĭ (Ď (ď gP (Ĕ (Ď (ď bZ (Ă 0 (Ĕ (Ď (ħ ĥ (mC (.int 1)) (Ā 1))) Ċ)))) Ċ)))))
 (Ě (Ĩ 4 (aJ Đ))
 (Ě (aV (Ľ Ō (ă (Ď (ħ ĥ (mC (.int 1)) (Ą ĩ (Ą ō (Ā 1) (mC (.int 5000))) (mC (.int 2))))) Đ)) (gN 5) qQ)
 (Ě (cG (cu (Ą Ş (Ą ĩ (Ą ō (Ā 1) (mC (.int 90000))) (mC (.int 16))) (mC (.int 9))))
 (Ĩ 4 (aJ Đ))
 cY)
 Z0W)))))):=rfl
def Z3x:Ş (.str "alike") (.str "alike")=some (.bl true):=Z1o true (by decide +kernel) (by decide +kernel) (by decide +kernel)
def Z3y:Ş (.str "choice") (.str "alike")=some (.bl false):=Z1o false (by decide +kernel) (by decide +kernel) (by decide +kernel)
def Z2l{w h:Nat}{T:List Th}(Y:Nm w h T){D:List Dy}(hl:D.length<=2)(hD:∀d∈D,ZZ 5 d){qs:List Nat}(h5:qs.length<=5)(hn:∀k∈qs,k<w*h)(z0 z1 z3 z5 z7:P.Slot) :
 FR.of (Z0u [z0,z1,.sh (.tup [.int w,.int h]),z3,.ow (fY D),z5,.ow (qs.map nV),z7,.sh (Z0 w h T D),.no,.no,.no])=.ret (.sh (.bl true)):=by
 have Zeb:=ZO D hl λd=>((Z0g hD) d).1
 have e1:=Z1Q Y hl hD h5 hn
 obtain⟨v,e2,h2⟩:=Z2g Y hl (Z0g hD) h5 hn
 have hpl:((Z1 D).map Œ).length=(Z1 D).length:=by simp
 rcases h2 with⟨k,hk,rfl⟩|⟨c,hc,hp,hm,rfl⟩
 ·have e3:=Z2i w T D h5 Zeb hk
  generalize (Z1 D).getD k (0,0,0)=p at *
  have t1:lQ [pr4 p,.ty "tuple"]=some (.bl true):=rfl
  have t2:ų [pr4 p]=some (.int 4):=rfl
  have t3:ē (pr4 p) (.int 0)=some (.str "alike"):=rfl
  generalize pr4 p=V at *
  generalize Z0 w h T D=Yv at *
  generalize qs.map nV=QS at *
  generalize fY D=DV at *
  generalize (Z1 D).map Œ=PR at *
  generalize qs.map (iu w T D)=AP at *
  simp[Z0u,e1,e2,t1,t2,t3,Z0d,Z3x,e3,Z0t]
 ·have e3:=Z1T w T D h5 Zeb hc hp hm
  have e2:qK [.sh (Z0 w h T D),.sh (.lst (qs.map nV))]=.ret (.sh (.tup [.str "choice",.int c,.int (Z5 (λ_=>1) qs.length c),.lst (sS w T D qs)])):=e2
  generalize hV:PV.tup [.str "choice",.int c,.int (Z5 (λ_=>1) qs.length c),.lst (sS w T D qs)]=V at *
  have t1:lQ [V,.ty "tuple"]=some (.bl true):=by rw[<-hV];rfl
  have t2:ų [V]=some (.int 4):=by rw[<-hV];rfl
  have t3:ē V (.int 0)=some (.str "choice"):=by rw[<-hV];rfl
  clear hV hm
  rw[<-hpl] at e3
  generalize Z0 w h T D=Yv at *
  generalize qs.map nV=QS at *
  generalize fY D=DV at *
  generalize (Z1 D).map Œ=PR at *
  generalize qs.map (iu w T D)=AP at *
  simp[Z0u,e1,e2,t1,t2,t3,Z0d,Z3y,e3,Z0t]
def Z0p(ns:List Int){f:Int}{w h:Nat}(hw:1<=w/\w<=4)(hh:1<=h/\h<=4){T:List Th}(hT:T.length<=2)(hTg:∀t∈T,Za t.1 t.2=true){O:List (List (Option P3))}(hl:O.length<=2)(hO:∀os∈O,os.length<=5/\∀o∈os,GC o)(z5:P.Slot) :
 FR.of (Z0W [.sh (.lst (ns.map .int)),.sh (.int f),.sh (.tup [.int w,.int h]),.ow (T.map Zm),.ow (O.map rE),z5,.no,.no,.no,.no,.no,.no])=.ret (.sh (.bl true)):=by
 obtain⟨n,hn⟩:∃n:Nat,f / 15000 % 6=(n:Int):=⟨(f / 15000 % 6).toNat,by omega⟩
 have r1:=Zj (n:=n) (by omega)
 have r2:=Zj (n:=O.length) (by omega)
 obtain⟨qs,q1,q2,q3⟩:=Z1c ns hw hh (List.range n) [] .no (by simp;omega)
 rw[List.nil_append] at q1
 have wh:w*h<=4*4:=Nat.mul_le_mul hw.2 hh.2
 have Y:Nm w h T:=⟨by omega,by omega,by omega,by omega,by omega,hTg⟩
 have t1:=Z2P hl .no
 have c1:=Z1W (T:=T) (by omega) hTg .no .no
 have y1:=Z2F (w:Int) (h:Int) (T:=T) (D:=Fg O) (by omega) (by rw[Z1b];omega) (s3:=.sh (.lst (T.map zG))) (s4:=.bw ((Fg O).map kY)) (.inl rfl) (.inr rfl)
 have fin:=λs3 s7=>Z2l Y (D:=Fg O) (by rw[Z1b];omega) (Z3j hl hO) (qs:=qs) (by simp at q2;omega) q3 (.sh (.lst (ns.map .int))) (.sh (.int f)) s3 z5 s7
 rw[Z3i] at fin
 have hY:PV.ins "Yard" ["width","height","things","days"] [.int w,.int h,.lst (T.map zG),.lst ((Fg O).map kY)]=Z0 w h T (Fg O):=rfl
 have hol:(O.map rE).length=O.length:=by simp
 generalize Z0 w h T (Fg O)=Yv at *
 generalize ns.map PV.int=NS at *
 generalize qs.map nV=QS at *
 generalize T.map Zm=TR at *
 generalize T.map zG=TV at *
 generalize (Fg O).map kY=DV at *
 generalize O.map rE=OV at *
 simp[Z0W,Ź,Ŧ,hn,r1,q1,hol,r2,t1,c1,bK,y1,hY,Z0t,Z2r]
 simpa using fin _ _
def Z3l{l:PySem.W.OpenLaw}{w:World}{K:PySem.W.Frag}{mg:Str->Option Value}{fa:Addr}{a:Lp}(T:Tx K mg a)(hfa:mg "law" =some (.ref fa)):∃fd:FuncData,(∀(s:Shared) (v:Value),BindsTo s fd ⟨[v],[]⟩ [("_law_script",v)])/\∀base:Heap,K.In base->base.Ns mainGlobals mg->∃cm,Ġ l.prog w K mg base ŝ 12 fa fd ["_law_script"] (Ŕ ⟨K,cm⟩ 1 qR):=by
 have e:=hfa.symm.trans T.LK.m
 cases e
 exact⟨a.Lz,λs v=>T.LK.bb s [v] rfl,λbase _ _=>⟨_,Zci T⟩⟩
def Z2m(ns:List Int)(hn:ns.length<=63):qR [.sh (.lst (ns.map .int))]=.ret (.sh (.bl true)):=by
 have k0:bZ [.sh (.lst (ns.map .int)),.sh (.int 0)]=.ret (.sh (.int (ns.getD 0 0))):=ZA ns 0
 generalize ns.getD 0 0=c at k0
 obtain⟨f,hf⟩:∃f,c % 1000000000=f:=⟨_,rfl⟩
 have hf0:0<=f:=by omega
 obtain⟨w,hw⟩:∃w:Nat,1+f % 4=(w:Int):=⟨(1+f % 4).toNat,by omega⟩
 obtain⟨h,hh⟩:∃h:Nat,1+f / 6 % 4=(h:Int):=⟨(1+f / 6 % 4).toNat,by omega⟩
 obtain⟨m,hm⟩:∃m:Nat,f / 36 % 3=(m:Int):=⟨(f / 36 % 3).toNat,by omega⟩
 obtain⟨d,hd⟩:∃d:Nat,1+f / 5000 % 2=(d:Int):=⟨(1+f / 5000 % 2).toNat,by omega⟩
 have r1:=Zj (n:=m) (by omega)
 have r2:=Zj (n:=d) (by omega)
 obtain⟨T,e1,e2,e3⟩:=Z1a ns (List.range m) [] .no (by simp;omega)
 rw[List.nil_append] at e1
 have e2:T.length<=2:=by simp at e2;omega
 obtain⟨O,z5,d1,d2,d3⟩:=Z0V ns (f:=f) (.sh (.tup [.int w,.int h])) (.ow (T.map Zm)) .no .no .no .no .no .no (List.range d) [] .no (λk hk=>by have:=List.mem_range.mp hk;omega) (by simp;omega) (by simp)
 have d2:O.length<=2:=by simp at d2;omega
 have f1:=Z0p ns (f:=f) (w:=w) (h:=h) (by omega) (by omega) e2 e3 d2 d3 z5
 have f2:=Z0p ns (f:=f) (w:=w) (h:=h) (by omega) (by omega) e2 e3 (O:=[]) (by simp) (by simp) z5
 rw[List.map_nil] at f2 d1
 by_cases h9:f / 90000 % 16=9
 ·generalize ns.map PV.int=NS at *
  generalize T.map Zm=TR at *
  generalize O.map rE=OV at *
  simp[qR,Z3k,List.replicate,Ź,Ŧ,k0,hf,hw,hh,hm,r1,e1,hd,r2,d1,h9,-Int.emod_emod_of_dvd,-Z0G]
  simpa using f2
 ·generalize ns.map PV.int=NS at *
  generalize T.map Zm=TR at *
  generalize O.map rE=OV at *
  simp[qR,Z3k,List.replicate,Ź,Ŧ,k0,hf,hw,hh,hm,r1,e1,hd,r2,d1,h9,-Int.emod_emod_of_dvd,-Z0G]
  simpa using f1
def Z3B{l:PySem.W.OpenLaw}{q:Program}{loose:List Str}{XP:(Str->Option Value)->Heap->Prop}{YP:World->Heap->Prop}{d:DefRec}{K:Params->PySem.W.Frag}(hn:l.most=some 63)(hdf:d.params.defaults=[])
 (hY:∀(w:World) (h:Heap),YP w h->(K w.params).In h)
 (F:∀(w:World) (mg:Str→Option Value) (fa:Addr) (h:Heap),(K w.params).In h→h.Ns mainGlobals mg→mg d.name=some (.ref fa)→
   ∃fd:FuncData,(∀(s:Shared) (u:Value),BindsTo s fd ⟨[u],[]⟩ [("_law_script",u)])/\∀base:Heap,(K w.params).In base->base.Ns mainGlobals mg->∃cm,Ġ l.prog w (K w.params) mg base ŝ 12 fa fd ["_law_script"] (Ŕ ⟨K w.params,cm⟩ 1 qR))
 (hnt:∀w:World,PySem.W.noTabs (K w.params)=true)(hrec:∀y,y∈lams->∃d,(PyProof.Rows.recsOf q).find? (λe=>e.name== y)=some d) :
 PySem.W.WalkO q loose XP YP l.row.toRowW d [] (λf vs=>PySem.call f vs):=
 P.Jd (k:=12) (x:= "_law_script") (CX:=ŝ) (m:=qR) hn hdf ⟨rfl,by decide,by decide⟩ hY F Z2m (λ_ _ _ _ z=>z) (hnt:=λ_=>hnt) (hrec:=hrec)
end
end T
namespace PySem.W.Fast
def tw4693587033378599237:=0
def tw11036009687801137306:=0
def tw12278403792331447956:=0
def tw543189212584966789:=0
def tw8357989879246581571:=0
def tw18083036895166288072:=0
def tw14550441845781317430:=0
def tw5508226893147616038:=0
def tw85866608645092020:=0
def tw1646580873811827519:=0
def tw14576384066810478357:=0
def tw6807713875240656750:=0
def tw11601329455573881022:=0
def tw6633851683931827248:=0
def tw17956691499225665107:=0
def tw2384748952355421655:=0
def tw7661012032999946608:=0
def tw7855239922023734832:=0
def tw10758115856914439480:=0
def tw10754788716123873519:=0
def tw4280708152540426608:=0
def tw18370109853220927188:=0
def tw8268195163077022684:=0
def tw11458859241970854042:=0
def tw362491810816141865:=0
def tw5164389414149032618:=0
def tw17481547527033872120:=0
def tw15036887982853621555:=0
def tw16583022784344210213:=0
def tw4505306010595383600:=0
def tw8746067315180410590:=0
def tw10779006722563903687:=0
def tw4719429361945264003:=0
def tw1578376931183200788:=0
def tw711170485052678740:=0
def tw307681841214111029:=0
def tw14618096674399829542:=0
def tw7152862998184423710:=0
def tw14680602131378429007:=0
def tw3028654102474464327:=0
def tw17498829028347494549:=0
def tw7534050169028594715:=0
def tw9122772508242002868:=0
def tw16414157094025017833:=0
def tw2940008078696209672:=0
def tw3242279511346937034:=0
def tw213473141221832194:=0
def tw17167083357589943979:=0
def tw9444176952671460183:=0
def tw18930765902593210:=0
def tw9878709908167228409:=0
def tw10502550324937717635:=0
def tw10571191438136213148:=0
def tw881493874494774614:=0
def tw10994680929514035582:=0
def tw116210848612068694:=0
def tw8382682412373487386:=0
def tw6130464505448056458:=0
def tw15479488698330361078:=0
def tw6720223844553471266:=0
def tw3043663105560038737:=0
def tw521645095656552821:=0
def tw9743471316728940150:=0
def tw594170994471934493:=0
def tw11305947021403770552:=0
def tw960256214304756392:=0
def tw467313940657464834:=0
def tw10916131543237104071:=0
def tw11868681602851430409:=0
def tw12004795445064676536:=0
def tw15578503208065353052:=0
def tw6634862522159095216:=0
def tw18432345435003050039:=0
def tw9409857061859111559:=0
def tw2529737349519336250:=0
def tw11594139904397588056:=0
def tw13392475522598341148:=0
def tw11447339705016580054:=0
def tw12668961681456779463:=0
def tw5286567846051710299:=0
def tw8007622562918267681:=0
def tw1847905237359880373:=0
def tw4317066754256902686:=0
def tw4862601577937026139:=0
def tw5974450031218061790:=0
def tw10491389892688918572:=0
def tw10459909518783010068:=0
def tw14536346362288713795:=0
def tw8214195393155210153:=0
def tw12717028322175428549:=0
def tw10979253486168771424:=0
def tw5207266783505405667:=0
def tw395068799155211351:=0
def tw13210742952983401760:=0
def tw5462999500856478459:=0
def tw9523196311386184280:=0
def tw18319741702590140517:=0
def tw12039033834288130191:=0
def tw2526787422488871628:=0
def tw17123135047453632518:=0
def tw10744762500887895216:=0
def tw2330693682628969523:=0
def tw898783147824498295:=0
def tw14887073333479915941:=0
def tw2378873960688717500:=0
def tw3616990554890095028:=0
def tw11237081193541541707:=0
def tw17045744941819032188:=0
def tw16729145550134557462:=0
def tw9220182715647181745:=0
def tw13788050022620329359:=0
def tw16539493919721706681:=0
def tw218555388523952558:=0
def tw1714043978284586496:=0
def tw4963057617840514301:=0
def tw217856784697481097:=0
def tw13726939421219478678:=0
def tw2026054388721297568:=0
def tw3114144900771151815:=0
def tw17379012999850630407:=0
def tw15924101551496108223:=0
def tw4718437290491266705:=0
def tw9015944047890058023:=0
def tw2973929887566357187:=0
def tw6672081762857570172:=0
def tw7395751070291412541:=0
def tw8179180612262525844:=0
def tw14127639017921951034:=0
def tw12110246810938949633:=0
def tw10502574682007027450:=0
def tw8497945471307082185:=0
def tw1037916707638044437:=0
def tw2177672731999381615:=0
def tw9227607994447511369:=0
def tw7632395659646732191:=0
def tw5378586078604651565:=0
def tw4139359704388574008:=0
def tw7027387649929782574:=0
def tw9567453333432701108:=0
def tw9711122068792899783:=0
def tw1016933008578319306:=0
def tw10379929043615028954:=0
def tw7437946687010157625:=0
def tw12296117094431537052:=0
def tw7498329264822815023:=0
def tw4708068367247266839:=0
def tw9398438377407328795:=0
def tw5664407756116702615:=0
def tw9159008468579669283:=0
def tw14825715629384167727:=0
def tw10149179089096979450:=0
def tw943393888262595854:=0
def tw7283917150986164343:=0
def tw6155534063919662065:=0
def tw4001309895002310472:=0
def tw3257219931363210424:=0
def tw15514689490356571784:=0
def tw12807471686710578289:=0
def tw856225082683288870:=0
def tw7036229438497412878:=0
def tw13811170942072298262:=0
def tw17040268344338780971:=0
def tw9824253153724560418:=0
def tw15769207991500702157:=0
def tw6498332871872816806:=0
def tw1504224418714316842:=0
def tw16115063272413341379:=0
def tw3952349635002621792:=0
def tw9948984269652148155:=0
def tw18424533735565312544:=0
def tw5405844379398761793:=0
def tw14444070490579421349:=0
def tw15392638284117844838:=0
def tw3240871571551643639:=0
def tw11767986492639664100:=0
def tw12272058811225498460:=0
def tw14889742354271456422:=0
def tw12690205310225916083:=0
def tw9082200349892917935:=0
def tw15240181457832573380:=0
def tw3494197414384510618:=0
def tw13366124355714968936:=0
def tw2130074274818849726:=0
def tw16707059035428526603:=0
def tw13064601525416327611:=0
def tw9849725632796435503:=0
def tw13051758467225494362:=0
def tw8371546261996972095:=0
def tw11471921944132005940:=0
def tw11849770413478327883:=0
def tw5405664993428291637:=0
def tw10975346744793879620:=0
def tw17441488444667664639:=0
def tw10096241854480241405:=0
def tw1746707131000814071:=0
def tw16945967984945103347:=0
def tw1548121999260715371:=0
def tw15191408590125096733:=0
def tw3607396902215140460:=0
def tw8011374218714127657:=0
def tw12490576088033732026:=0
def tw354487474490844446:=0
def tw4938822559932031513:=0
def tw1925586189611840209:=0
def tw14122008184099139975:=0
def tw1184876365882772262:=0
def tw15396596755906571908:=0
def tw4637855621295731224:=0
def tw11572755173214191582:=0
def tw11215937741161183162:=0
def tw6248423292892279724:=0
def tw615891487170431380:=0
def tw8570544179771642876:=0
def tw11727712134964888978:=0
def tw15519123684289821923:=0
def tw6383760334548583337:=0
def tw9268460515991193643:=0
def tw8522452872010843390:=0
def tw2192238032950087692:=0
def tw5330565248856630272:=0
def tw4341134895885699670:=0
def tw2748215979964389290:=0
def tw7345466776987721155:=0
def tw7881489620170005707:=0
def tw1325762083625903767:=0
def tw15843856506486559646:=0
def tw2463493279964218932:=0
def tw11904760910373759669:=0
def tw17598291403374681551:=0
def tw5098525255123129743:=0
def tw15967119113418906953:=0
def tw12661905233580554484:=0
def tw3603011493187513103:=0
def tw17097304143154393832:=0
def tw6935201934706167376:=0
def tw1899776066068300728:=0
def tw3616641450456873031:=0
def tw14890410254946757720:=0
def tw13290747962084822964:=0
def tw7188932470279189275:=0
def tw11495566334869566440:=0
def tw7533817096146385715:=0
def tw15720148950681224058:=0
def tw3810852590058597747:=0
def tw16957513047624339273:=0
def tw5126745198578962564:=0
def tw6954311643414284036:=0
def tw10970739863314556928:=0
def tw2114865042372798425:=0
def tw1831416219149483187:=0
def tw5533942473053574927:=0
def tw7915678657059504220:=0
def tw182967604996517857:=0
def tw1427418350256274166:=0
def tw11270911498986699759:=0
def tw3643531913449202998:=0
def tw10319653261215117866:=0
def tw2226016378906802371:=0
def tw10155158550885452624:=0
def tw17534301239587464745:=0
def tw15123325096393829288:=0
def tw7021784245516788272:=0
def tw1133850298295565376:=0
def tw8078116573517477951:=0
def tw16034749670157971680:=0
def tw5972547003783520966:=0
def tw1994404794294947541:=0
def tw8577927590570463517:=0
def tw5962611279026336481:=0
def tw3947408823112905254:=0
def tw8220360839259118857:=0
def tw14586381879535487858:=0
def tw18147256424612573804:=0
def tw7175375839581143494:=0
def tw12879936197231647268:=0
def tw7791105500312406504:=0
def tw12317158326149625393:=0
def tw17619691703007515374:=0
def tw7127649167312185991:=0
def tw6250807951232182176:=0
def tw4451441036861945376:=0
def tw1295486101499809720:=0
def tw16654896540140248229:=0
def tw9187495519728273534:=0
def tw17593208442327287628:=0
def tw3457914080693908060:=0
def tw1328892159199447460:=0
def tw8365027097037354870:=0
def tw16999370276698924806:=0
def tw6959747655099852445:=0
def tw1505106018125560841:=0
def tw7179979435371402119:=0
def tw17512697002333185243:=0
def tw8448292629410238698:=0
def tw13967535396425617817:=0
def tw10867574783756604378:=0
def tw266615003892829011:=0
def tw10356938604149966217:=0
def tw3702820252145243325:=0
def tw5311955505562805675:=0
def tw3237545841027964810:=0
def tw6555796013486931721:=0
def tw15470128626945088163:=0
def tw11831810944341938090:=0
def tw10854347006416495894:=0
def tw15610033835547162527:=0
def tw13903556946396992958:=0
def tw9397799792154960522:=0
def tw3354939225865065536:=0
def tw5255761536451040315:=0
def tw14911777022388793064:=0
def tw3615897847413317705:=0
def tw7770865094402540710:=0
def tw15496141844396725141:=0
def tw12692706239349625863:=0
def tw12767921856500107388:=0
def tw8005468025320467385:=0
def tw8825326431032712536:=0
def tw12877731039255902878:=0
def tw10776269157329919499:=0
def tw9833767120877942773:=0
def tw4866571056918992189:=0
def tw4127391066322583449:=0
def tw5638776371846611894:=0
def tw9886030557405947978:=0
def tw5224396171488220698:=0
def tw4240778033726828269:=0
def tw18328070535456426792:=0
def tw2207601962690941245:=0
def tw8280080633659351948:=0
def tw7686895160625765046:=0
def tw4814859178518643922:=0
def tw14629362007542934895:=0
def tw9773834149767205341:=0
def tw10736202668416342477:=0
def tw8195230448635934478:=0
def tw5330549584472196458:=0
def tw18045253567893861536:=0
def tw14026867149575916157:=0
def tw17481764926969774548:=0
def tw9003827949415878805:=0
def tw14743433394969857497:=0
def tw6841934221801223781:=0
def tw7850116565999951992:=0
def tw7063411635626334288:=0
def tw10008714095229102040:=0
def tw161441388437630414:=0
def tw9931584778749751696:=0
def tw10292639214710867469:=0
def tw11011225695739109458:=0
def tw10787032359894927266:=0
def tw9574894611330895483:=0
def tw15565437979036808689:=0
def tw10267565176813792642:=0
def tw6625798976381440860:=0
def tw8204518391164679706:=0
def tw5995239563977314083:=0
def tw6265528235774564484:=0
def tw15482298599471509444:=0
def tw4004041055114604328:=0
def tw16627900507409904817:=0
def tw13793782574847669967:=0
def tw13831781309709302991:=0
def tw6024332363571689117:=0
def tw14870950010727255462:=0
def tw10084162382913268848:=0
def tw9988673548977828366:=0
def tw984174292429091634:=0
def tw11280382176411566472:=0
def tw15128833288107825025:=0
def tw637737678552990222:=0
def tw6327665295727711317:=0
def tw16987163985352544350:=0
def tw5592427239109309306:=0
def tw15470011115533317849:=0
def tw11096136801917717643:=0
def tw16006816144870042395:=0
def tw6485934077835451228:=0
def tw5167817879388731741:=0
def tw1879633711773397505:=0
def tw6652584180230073993:=0
def tw966502715911809922:=0
def tw10905611843723359596:=0
def tw17034295232156624936:=0
def tw9675608586332854342:=0
def tw7859075012730253997:=0
def tw14617883813660957351:=0
def tw5265694266591525577:=0
def tw6246539768238154333:=0
def tw11271741094751018130:=0
def tw5049512771783383982:=0
def tw14693340969516001243:=0
def tw336339272951201047:=0
def tw12759813091244152639:=0
def tw15388785615759093032:=0
def tw16117497872775841629:=0
def tw9708012920712204386:=0
def tw12534708427293549794:=0
def tw6673650027945389457:=0
def tw4186168864200576770:=0
def tw226921363190018825:=0
def tw5450724305079759587:=0
def tw3536183202646237582:=0
def tw1389854622875040410:=0
def tw7522979619728883825:=0
def tw240484002336760208:=0
def tw7560875329686402743:=0
def tw5925807239790847274:=0
def tw3467694215961290230:=0
def tw10193273470380631956:=0
def tw14368652184432546846:=0
def tw17260381052065549163:=0
def tw8084132999970959719:=0
def tw3884274202338056456:=0
def tw10744749862843398887:=0
def tw3480881159922774167:=0
def tw1560643276012130670:=0
def tw124530511473366732:=0
def tw9302463064856598335:=0
def tw14821060189285043091:=0
def tw13266218913991075235:=0
def tw9044202073357120981:=0
def tw6301295149345537191:=0
def tw14366252655321631616:=0
def tw5870343668750865642:=0
def tw3076485398879078494:=0
def tw12163906520962421446:=0
def tw13221667142248240056:=0
def tw1863773339704780313:=0
def tw1306915330229305582:=0
def tw2314811152169436328:=0
def tw15485355664621998625:=0
def tw14766093718222492459:=0
def tw11370835358493213945:=0
def tw4664305763602297956:=0
def tw6120069819768622693:=0
def tw7902732229019816308:=0
def tw6131358916555039516:=0
def tw12547190552540133384:=0
def tw7571055355281935524:=0
def tw4373037267586126370:=0
def tw13020820362948143449:=0
def tw8201202757810017514:=0
def tw1076292230349296726:=0
def tw16239190988026458603:=0
def tw17786363687720205079:=0
def tw13200152622755165699:=0
def tw10485755042016695874:=0
def tw11544196259732724007:=0
def tw833357358795158977:=0
def tw14015750674689152509:=0
def tw7130219341883039629:=0
def tw8694056978059154481:=0
def tw14806550804434776537:=0
def tw8796670271760640323:=0
def tw12719301146150766306:=0
def tw4778723596223786244:=0
def tw2758924517750082620:=0
def tw7713038678430688423:=0
def tw14134342568552001708:=0
def tw588324239548075142:=0
def tw14195544278456529411:=0
def tw14793495268536378535:=0
def tw11028015552432186169:=0
def tw9741464729778987201:=0
def tw17751853876441196238:=0
def tw11395738444357931209:=0
def tw18122690106514551742:=0
def tw14820964728267080873:=0
def tw2569198181651210186:=0
def tw15428484014929834455:=0
def tw17079692827618197221:=0
def tw11161473269645753974:=0
def tw8523775499339691978:=0
def tw4555645284852532141:=0
def tw7400542534987679605:=0
def tw10466566692183498289:=0
def tw14078880358468669867:=0
def tw11832755078020846391:=0
def tw8359065615216906695:=0
def tw680593166458979195:=0
def tw10691228702845693897:=0
def tw14678809964951751373:=0
def tw1056344341135166578:=0
def tw9403497687131140362:=0
def tw2115409178606311254:=0
def tw17570373666365593783:=0
def tw5758771294286219818:=0
def tw9054118380218955884:=0
def tw17170972481692905766:=0
def tw11711451595670433038:=0
def tw4898732293355348846:=0
def tw8444955415448108691:=0
def tw2774111417563463599:=0
def tw15355531054228482021:=0
def tw15657531200905015439:=0
def tw13003111582426968337:=0
def tw17885956110068090015:=0
def tw11235648607156476261:=0
def tw13996325198005803097:=0
def tw12853757087631257647:=0
def tw17750591719571141948:=0
def tw107090996041599309:=0
def tw12647832980448221599:=0
def tw9980919307540564884:=0
def tw17361570551695220093:=0
def tw10922810838061860655:=0
def tw994738620891270049:=0
def tw5574250660116362671:=0
def tw7549498965424068607:=0
def tw12724517798173915147:=0
def tw17339248704374262240:=0
def tw6568106828609216882:=0
def tw927556444708186604:=0
def tw7343810924957548613:=0
def tw483675854206074575:=0
def tw17872806835532510937:=0
def tw10372033635561960532:=0
def tw14310335254224743346:=0
def tw15706191856272708767:=0
def tw5486113672194199502:=0
def tw15389162141223205326:=0
def tw9855325561724073460:=0
def tw1561311960976696548:=0
def tw14886552705988671018:=0
def tw484877728928509184:=0
def tw1817694770767573505:=0
def tw11283056089262302263:=0
def tw9229934714659361202:=0
def tw2056817688943338068:=0
def tw9860939117702950349:=0
def tw14338067658640381710:=0
def tw13211464731176044146:=0
def tw597687547701489427:=0
def tw11482272526031166199:=0
def tw17707023979439499374:=0
def tw3747487931254093769:=0
def tw17603811776446919258:=0
def tw6298012697681950980:=0
def tw12541405798351374637:=0
def tw14278707196856725335:=0
def tw16503005290391908818:=0
def tw9708860471630109330:=0
def tw10396175083897996195:=0
def tw4205899453371758013:=0
def tw7556989641132445310:=0
def tw6025617524060705451:=0
def tw11334038265924577442:=0
def tw4914652562127946049:=0
def tw2705262363009272881:=0
def tw5719464969761891074:=0
def tw10520306177224885194:=0
def tw17093068366389007538:=0
def tw14189152015045647407:=0
def tw17514874095677251386:=0
def tw5079272408426732489:=0
def tw10712650008309662520:=0
def tw1436548368167739572:=0
def tw13217323506353754260:=0
def tw11691602615477520594:=0
def tw12545978357854977295:=0
def tw4046146523071735338:=0
def tw18019152631911856306:=0
def tw13625401440614583932:=0
def tw2279856864545560883:=0
def tw11871487333424125829:=0
def tw14723684875333159687:=0
def tw6994385680138921274:=0
def tw9993809377795505384:=0
def tw10581443129615870642:=0
def tw11523173668799036318:=0
def tw617037889044893585:=0
def tw14352190381079260484:=0
def tw11846253816219891926:=0
def tw17761385860470580842:=0
def tw7211159278731411375:=0
def tw1616405364135416346:=0
def tw16552516183509775360:=0
def tw1849623937364223636:=0
def tw7109891362105783887:=0
def tw16197908621128149235:=0
def tw6586396169627358621:=0
def tw18224548339052805922:=0
def tw4875064377478191920:=0
def tw6694716631995051290:=0
def tw1876044140233685057:=0
def tw5010974863898204355:=0
def tw8091817011966777640:=0
def tw2941724038918556339:=0
def tw17147905309010636007:=0
def tw16423712195021201237:=0
def tw12963222942788830715:=0
def tw15301393766041225991:=0
def tw14048574587816159321:=0
def tw17526037657790855704:=0
def tw15829313198025226621:=0
def tw11345868208618457071:=0
def tw5605633179314264672:=0
def tw3841676557953883510:=0
def tw11838765546324166149:=0
def tw9767858463940692200:=0
def tw12433596052444477189:=0
def tw6715508910986148532:=0
def tw4853334116744688121:=0
def tw6930656685555367597:=0
def tw4065589819917352911:=0
def tw10498832029643327650:=0
def tw16845213013177480259:=0
def tw14577435255174280272:=0
def tw5385558896749722106:=0
def tw5892674948948210331:=0
def tw7444771232717471275:=0
def tw5604242299727857174:=0
def tw1831685913975594980:=0
def tw5255454139269584757:=0
end PySem.W.Fast
open PySem PySem.W PyProof.Rows
set_option maxRecDepth 100000 in
set_option maxHeartbeats 0 in
theorem PySem.Challenge.cw_shadowpost_k56_whole_turns_told_apart_holds : PySem.Challenge.rw_shadowpost_k56_whole_turns_told_apart.Holds := by
 w_on;o_law;k_head;(case hw=>w_witness2)
 k_fill
 refine T.Z3B (l:=PySem.Challenge.rw_shadowpost_k56_whole_turns_told_apart) rfl rfl (λw h Y=>by first|exact PySem.W.kIn_of Y|exact PySem.W.km_in_of Y) ?F ?hnt ?hrec
 case hnt=>intro w;kernel_rfl
 case hrec=>
  intro y hy
  have e:y=PySem.Str.ofString "cheapest" := by simpa[L2.lams] using hy
  subst e
  exact⟨_,rfl⟩
 case F=>
  intro w mg fa h KX G hmg
  refine' T.Z3l (a:=T.Lp.mk) (T.Tx.mk (mg_of KX G ?_) (mg_of KX G ?_) (mg_of KX G ?_) (mg_of KX G ?_) (mg_of KX G ?_) (mg_of KX G ?_) (mg_of KX G ?_) (P.ql (λ_ _ _ _ _ _ _ _ _ _ _=>rfl) ?_ ?_ ?_ ?_) (P.Ĥ KX G (λ_ _ _ _ _ _ _ _=>rfl) ?_ ?_ ?_ ?_) (P.Ĥ KX G (λ_ _ _ _ _ _ _ _=>rfl) ?_ ?_ ?_ ?_) (P.Ĥ KX G (λ_ _ _ _ _ _ _ _=>rfl) ?_ ?_ ?_ ?_) (P.Ĥ KX G (λ_ _ _ _ _ _ _ _=>rfl) ?_ ?_ ?_ ?_) (P.Ĥ KX G (λ_ _ _ _ _ _ _ _=>rfl) ?_ ?_ ?_ ?_) (P.Ĥ KX G (λ_ _ _ _ _ _ _=>rfl) ?_ ?_ ?_ ?_) (P.Ĥ KX G (λ_ _ _ _ _ _ _=>rfl) ?_ ?_ ?_ ?_) (P.Ĥ KX G (λ_ _ _ _ _ _ _ _=>rfl) ?_ ?_ ?_ ?_) (P.Ĥ KX G (λ_ _ _ _ _ _ _ _=>rfl) ?_ ?_ ?_ ?_) (P.Ĥ KX G (λ_ _ _ _ _ _ _=>rfl) ?_ ?_ ?_ ?_) (P.Ĥ KX G (λ_ _ _ _ _ _ _=>rfl) ?_ ?_ ?_ ?_) (P.Ĥ KX G (λ_ _ _ _ _ _ _ _=>rfl) ?_ ?_ ?_ ?_) (P.Ĥ KX G (λ_ _ _ _ _ _ _=>rfl) ?_ ?_ ?_ ?_) (P.Ĥ KX G (λ_ _ _ _ _ _ _=>rfl) ?_ ?_ ?_ ?_) (P.Ĥ KX G (λ_ _ _ _ _ _ _ _=>rfl) ?_ ?_ ?_ ?_) (P.Ĥ KX G (λ_ _ _ _ _ _ _ _=>rfl) ?_ ?_ ?_ ?_) (P.Ĥ KX G (λ_ _ _ _ _ _ _ _ _=>rfl) ?_ ?_ ?_ ?_) (P.Ĥ KX G (λ_ _ _ _ _ _ _ _ _=>rfl) ?_ ?_ ?_ ?_) (P.Ĥ KX G (λ_ _ _ _ _ _ _ _=>rfl) ?_ ?_ ?_ ?_) (P.Ĥ KX G (λ_ _ _ _ _ _ _=>rfl) ?_ ?_ ?_ ?_) (P.Ĥ KX G (λ_ _ _ _ _ _ _ _=>rfl) ?_ ?_ ?_ ?_) (P.Ĥ KX G (λ_ _ _ _ _ _ _ _=>rfl) ?_ ?_ ?_ ?_) (P.Ĥ KX G (λ_ _ _ _ _ _ _ _=>rfl) ?_ ?_ ?_ ?_) (P.Ĥ KX G (λ_ _ _ _ _ _ _ _=>rfl) ?_ ?_ ?_ ?_) (P.Ĥ KX G (λ_ _ _ _ _ _ _ _ _ _ _=>rfl) ?_ ?_ ?_ ?_) (P.Ĥ KX G (λ_ _ _ _ _ _ _ _ _ _ _=>rfl) ?_ ?_ ?_ ?_) (P.ql (λ_ _ _ _ _ _ _=>rfl) ?_ ?_ ?_ ?_) (P.ql (λ_ _ _ _ _ _ _=>rfl) ?_ ?_ ?_ ?_) (P.ql (λ_ _ _ _ _ _ _=>rfl) ?_ ?_ ?_ ?_) (P.ql (λ_ _ _ _ _ _ _=>rfl) ?_ ?_ ?_ ?_) (P.ql (λ_ _ _ _ _ _ _=>rfl) ?_ ?_ ?_ ?_) (P.Ĥ KX G (λ_ _ _ _ _ _ _ _=>rfl) ?_ ?_ ?_ ?_) (P.Ĥ KX G (λ_ _ _ _ _ _ _ _=>rfl) ?_ ?_ ?_ ?_) (P.Ĥ KX G (λ_ _ _ _ _ _ _ _ _=>rfl) ?_ ?_ ?_ ?_) (P.Ĥ KX G (λ_ _ _ _ _ _ _ _ _=>rfl) ?_ ?_ ?_ ?_) (P.Ĥ KX G (λ_ _ _ _ _ _ _ _ _=>rfl) ?_ ?_ ?_ ?_) (P.Ĥ KX G (λ_ _ _ _ _ _ _ _ _=>rfl) ?_ ?_ ?_ ?_) (P.Ĥ KX G (λ_ _ _ _ _ _ _ _ _ _=>rfl) ?_ ?_ ?_ ?_) (P.Ĥ KX G (λ_ _ _ _ _ _ _ _=>rfl) ?_ ?_ ?_ ?_) (P.Ĥ KX G (λ_ _ _ _ _ _ _=>rfl) ?_ ?_ ?_ ?_) (P.Ĥ KX G (λ_ _ _ _ _ _ _ _=>rfl) ?_ ?_ ?_ ?_) (P.Ĥ KX G (λ_ _ _ _ _ _ _ _=>rfl) ?_ ?_ ?_ ?_) (P.Ĥ KX G (λ_ _ _ _ _ _ _ _=>rfl) ?_ ?_ ?_ ?_) (P.Ĥ KX G (λ_ _ _ _ _ _ _ _ _=>rfl) ?_ ?_ ?_ ?_) (P.Zdw KX G (λ_ _ _ _ _ _ _ _ _ _ _=>⟨_,rfl,rfl⟩) (λ_ _ _ _ _ _ _ _ _ _=>⟨_,rfl,rfl⟩) ?_ ?_ ?d ?_ ?_) (P.Ĥ KX G (λ_ _ _ _ _ _ _ _=>rfl) ?_ ?_ ?_ ?_) (P.Ĥ KX G (λ_ _ _ _ _ _ _=>rfl) ?_ ?_ ?_ ?_) (P.Ĥ KX G (λ_ _ _ _ _ _ _ _=>rfl) ?_ ?_ ?_ ?_) (P.Ĥ KX G (λ_ _ _ _ _ _ _ _ _=>rfl) ?_ ?_ ?_ ?_) (P.Ĥ KX G (λ_ _ _ _ _ _ _ _=>rfl) ?_ ?_ ?_ ?_) (P.Ĥ KX G (λ_ _ _ _ _ _ _=>rfl) ?_ ?_ ?_ ?_) (P.Ĥ KX G (λ_ _ _ _ _ _ _ _=>rfl) ?_ ?_ ?_ ?_) (P.Ĥ KX G (λ_ _ _ _ _ _ _ _ _=>rfl) ?_ ?_ ?_ ?_) (P.Ĥ KX G (λ_ _ _ _ _ _ _ _ _ _=>rfl) ?_ ?_ ?_ ?_) (P.Ĥ KX G (λ_ _ _ _ _ _ _ _ _=>rfl) ?_ ?_ ?_ ?_) (P.Ĥ KX G (λ_ _ _ _ _ _ _ _=>rfl) ?_ ?_ ?_ ?_) (P.Ĥ KX G (λ_ _ _ _ _ _ _ _=>rfl) ?_ ?_ ?_ ?_) (P.Ĥ KX G (λ_ _ _ _ _ _ _ _=>rfl) ?_ ?_ ?_ ?_) (P.Ĥ KX G (λ_ _ _ _ _ _ _=>rfl) ?_ ?_ ?_ ?_) (P.Ĥ KX G (λ_ _ _ _ _ _ _ _ _=>rfl) ?_ ?_ ?_ ?_) (P.Ĥ KX G (λ_ _ _ _ _ _ _ _=>rfl) ?_ ?_ ?_ ?_) (P.Ĥ KX G (λ_ _ _ _ _ _ _=>rfl) ?_ ?_ ?_ ?_) (P.Ĥ KX G (λ_ _ _ _ _ _ _=>rfl) ?_ ?_ ?_ ?_) (P.Ĥ KX G (λ_ _ _ _ _ _ _=>rfl) ?_ ?_ ?_ ?_) (P.ql (λ_ _ _ _ _ _ _ _ _=>rfl) ?_ ?_ ?_ ?_) (P.Ĥ KX G (λ_ _ _ _ _ _ _=>rfl) ?_ ?_ ?_ ?_) (P.Ĥ KX G (λ_ _ _ _ _ _ _=>rfl) ?_ ?_ ?_ ?_) (P.Ĥ KX G (λ_ _ _ _ _ _ _=>rfl) ?_ ?_ ?_ ?_) (P.Ĥ KX G (λ_ _ _ _ _ _ _=>rfl) ?_ ?_ ?_ ?_) (P.Ĥ KX G (λ_ _ _ _ _ _ _=>rfl) ?_ ?_ ?_ ?_) (P.Ĥ KX G (λ_ _ _ _ _ _ _ _=>rfl) ?_ ?_ ?_ ?_) (P.Ĥ KX G (λ_ _ _ _ _ _ _=>rfl) ?_ ?_ ?_ ?_) (mg_of KX G ?_) (mg_of KX G ?_) (mg_none_of KX G ?_) (mg_none_of KX G ?_) (mg_none_of KX G ?_) (mg_none_of KX G ?_) (mg_none_of KX G ?_) (mg_none_of KX G ?_) (mg_none_of KX G ?_) (mg_none_of KX G ?_) (mg_none_of KX G ?_) (mg_none_of KX G ?_) (mg_none_of KX G ?_) (mg_none_of KX G ?_) (mg_none_of KX G ?_) (mg_none_of KX G ?_) (mg_none_of KX G ?_) (mg_none_of KX G ?_) (P.jo ?_) (P.qb ?_) ?_ ?_ ?_ ?_ (P.jo ?_) (P.qb ?_) ?_ ?_ (P.jo ?_) (P.qb ?_) ?_ ?_ (P.jK ?_) (P.jo ?_) (P.qb ?_) ?_ ?_ (P.jK ?_) (P.jo ?_) (P.qb ?_) ?_ ?_ (P.jK ?_) (P.jo ?_) (P.qb ?_) ?_ ?_ (P.jK ?_) (P.jo ?_) (P.qb ?_) ?_ ?_ (P.jK ?_) ?_) hmg
  any_goals (dsimp only;k_is)
  case d=>k_is
  any_goals first|kernel_rfl|(unfold L2.ļ;kernel_rfl)
  all_goals skip
