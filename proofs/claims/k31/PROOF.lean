import PyProof.Rows.All
import Wide.All
import OpenK.AllK
import Wide.FinOn
import Lean
import PyProof.EqAt
import PyProof.EqKinds
import PyProof.TupleCall
import PySem.Challenge.RW_shadowpost_k31_dark_by_things
set_option Elab.async false
set_option linter.all false
set_option maxRecDepth 100000
set_option maxHeartbeats 4000000
namespace L2
open PySem PySem.Spec PyProof.Rows
abbrev Key:=Sum Int Str
def Mt:Key->Value->Bool
 | .inl k,v=>Value.isInt k v
 | .inr x,v=>Value.isStrOf x v
def ZcD(w:World):Key->Int
 | .inl k=>hashInt k
 | .inr x=>hashStr w x
theorem Ō:∀{k:Key} {v:Value},Mt k v=true->(∃i t,k=Sum.inl i/\v=Value.int i t)\/(∃x t,k=Sum.inr x/\v=Value.str x t)
 | .inl i,v,h=>by
   obtain⟨t,e⟩:=Value.isInt_shape (k:=i) (v:=v) h
   exact .inl ⟨i,t,rfl,e⟩
 | .inr x,v,h=>by
   obtain⟨t,e⟩:=Value.isStrOf_shape (x:=x) (v:=v) h
   exact .inr ⟨x,t,rfl,e⟩
def Uq(a b:Int):decide ((Sum.inl a:Key)=Sum.inl b)=(a== b):=by
 by_cases e:a=b
 ·subst e;simp
 ·have h:¬(Sum.inl a:Key)=Sum.inl b:=λq=>e (Sum.inl.inj q)
  rw[decide_eq_false h]
  exact(beq_eq_false_iff_ne.mpr e).symm
def Ur(a b:Str):decide ((Sum.inr a:Key)=Sum.inr b)=decide (a=b):=by
 by_cases e:a=b
 ·subst e;simp
 ·have h:¬(Sum.inr a:Key)=Sum.inr b:=λq=>e (Sum.inr.inj q)
  rw[decide_eq_false h,decide_eq_false e]
def Us(a:Int)(b:Str):decide ((Sum.inl a:Key)=Sum.inr b)=false:=decide_eq_false (λq=>nomatch q)
def Ut(a:Str)(b:Int):decide ((Sum.inr a:Key)=Sum.inl b)=false:=decide_eq_false (λq=>nomatch q)
def sJ(prog:Program)(w:World):PySem.KeyKind prog w Key where
 is:=Mt
 hash:=ZcD w
 inj:=λv a b ha hb=>by
  rcases Ō ha with⟨i,t,rfl,rfl⟩|⟨x,t,rfl,rfl⟩
  ·rcases Ō hb with⟨j,u,rfl,e⟩|⟨y,u,rfl,e⟩
   ·injection e with e1 _;rw[e1]
   ·exact nomatch e
  ·rcases Ō hb with⟨j,u,rfl,e⟩|⟨y,u,rfl,e⟩
   ·exact nomatch e
   ·injection e with e1 _;rw[e1]
 byValue:=λk v h=>by
  rcases Ō h with⟨i,t,rfl,rfl⟩|⟨x,t,rfl,rfl⟩<;>rfl
 pyHash:=λhv h=>by
  rcases Ō hv with⟨i,t,rfl,rfl⟩|⟨x,t,rfl,rfl⟩
  ·exact wpAny_pyHash_int h
  ·exact wpAny_pyHash_str h
 eqBool:=λhu hv h=>by
  rcases Ō hu with⟨i,t,rfl,rfl⟩|⟨x,t,rfl,rfl⟩
  ·rcases Ō hv with⟨j,u,rfl,rfl⟩|⟨y,u,rfl,rfl⟩
   ·rw[Uq] at h;exact wpAny_eqBool_int h
   ·rw[Us] at h;exact SeqAt.EqAt.int_str i t y u _ _ _ _ h
  ·rcases Ō hv with⟨j,u,rfl,rfl⟩|⟨y,u,rfl,rfl⟩
   ·rw[Ut] at h;exact SeqAt.EqAt.str_int x t j u _ _ _ _ h
   ·rw[Ur] at h;exact wpAny_eqBool_str h
 «strs» := fun k x t v h=>by
   rcases Ō h with⟨i,u,rfl,e⟩|⟨y,u,rfl,e⟩
   ·exact nomatch e
   ·injection e with e1 _
    subst e1
    cases v<;>rfl
end L2
namespace L2
open PySem PySem.Spec PyProof.Rows
inductive V where
 |non|bl (b:Bool)|int (i:Int)|str (x:Str)|Mu (b:Array UInt8)|flt (b:UInt64)|ref (a:Addr)|ty (n:String)
 deriving DecidableEq
def RelV:V->Value->Prop
 | .non,u=>u=Value.none
 | .bl b,u=>u=Value.bool b
 | .int i,u=>∃t,u=Value.int i t
 | .str x,u=>∃t,u=Value.str x t
 | .Mu b,u=>∃t,u=Value.bytes b t
 | .flt b,u=>∃t,u=Value.float b t
 | .ref a,u=>u=Value.ref a
 | .ty n,u=>u=Value.type n
abbrev Vals:List V->List Value->Prop:=Paired RelV
theorem Vals.length{xs:List V}{us:List Value}(r:Vals xs us):xs.length=us.length:=Paired.length r
theorem Vals.get:∀{xs:List V} {us:List Value} {i:Nat} {x:V},Vals xs us->xs[i]?=some x->∃u,us[i]?=some u/\RelV x u
 |_,_,_,_,.nil,e=>by simp at e
 |_,_,0,_,.cons r _,e=>by simp at e;subst e;exact⟨_,rfl,r⟩
 |_,_,i+1,x,.cons _ t,e=>by
  obtain⟨u,h1,h2⟩:=Vals.get (i:=i) (x:=x) t (by simpa using e)
  exact⟨u,by simpa using h1,h2⟩
theorem Vals.set{x:V}{u:Value}(r:RelV x u):∀{xs:List V} {us:List Value} (i:Nat),Vals xs us->Vals (xs.set i x) (us.set i u)
 |_,_,_,.nil=>.nil
 |_,_,0,.cons _ t=>.cons r t
 |_,_,i+1,.cons q t=>.cons q (Vals.set r i t)
theorem Vals.append:∀{xs ys:List V} {us ws:List Value},Vals xs us->Vals ys ws->Vals (xs++ys) (us++ws)
 |_,_,_,_,.nil,s=>s
 |_,_,_,_,.cons r t,s=>.cons r (Vals.append t s)
theorem Vals.take:∀{xs:List V} {us:List Value} (n:Nat),Vals xs us->Vals (xs.take n) (us.take n)
 |_,_,0,_=>.nil
 |_,_,_+1,.nil=>.nil
 |_,_,n+1,.cons r t=>.cons r (Vals.take n t)
theorem Vals.drop:∀{xs:List V} {us:List Value} (n:Nat),Vals xs us->Vals (xs.drop n) (us.drop n)
 |_,_,0,r=>r
 |_,_,_+1,.nil=>.nil
 |_,_,n+1,.cons _ t=>Vals.drop n t
def qg:Option V->Option Value->Prop
 |some v,some u=>RelV v u
 |none,none=>True
 |_,_=>False
def KV{κ:Type}:List (κ×V)->List (κ×Value)->Prop:=Paired λ(p:κ×V) (q:κ×Value)=>p.1=q.1/\RelV p.2 q.2
def kV:Key->V
 | .inl i=>.int i
 | .inr x=>.str x
inductive HO where
 /-- a list -/
 |lst (xs:List V)
 /-- a tuple (never changes) -/
 |tup (xs:List V)
 /-- a dict whose keys are ints and texts;one whose keys are tuples of ints and texts (the empty one is both) -/
 |dK (kvs:List (Key×V))|dT (kvs:List (List Key×V))
 /-- a set of ints:its members,its size -/
 |set (S:Int->Bool) (n:Nat)
 /-- an instance of the class at C,its dict at dx,its attributes -/
 |ins (C dx:Addr) (fs:List (Str×V))
 /-- the dict of the instance at x -/
 |own (x:Addr)
 /-- the dict of an exception -/
 |xd (fs:List (Str×V))
 /-- a bound method,f of x -/
 |met (f x:Addr)
 /-- a range object lo,lo+1,.. below hi -/
 |rng (lo hi:Int)
 /-- a thing that is known to the object (the script;a dict while a loop walks it):read,never written while it is so -/
 |cI (o:Obj) (u:HO)
 /-- a code object's table -/
 |gP (q:Str)
 /-- a code made of such a table,by its name -/
 |Uu (q:Str)
 /-- any other thing,by what is true of its one object (a def of one's own:ZeH a S n:=HO.ext λh=>..) -/
 |ext (φ:Heap->Prop)
abbrev Hp:=Addr->Option HO
def upd(H:Hp)(a:Addr)(o:HO):Hp:=λb=>if b=a then some o else H b
def ē{H:Hp}{a:Addr}{o:HO}:upd H a o a=some o:=by unfold upd;rw[if_pos rfl]
def Ę{H:Hp}{a b:Addr}{o:HO}(h:b≠a):upd H a o b=H b:=by unfold upd;rw[if_neg h]
def Ğ{H:Hp}{a b:Addr}{o:HO}(h:H a=some o)(h':H b=none):a≠b:=by
 intro e;subst e;rw[h] at h';cases h'
section
variable(P:Program)(w:World)
def ŵ(H:Hp)(h:Heap)(a:Addr):HO->Prop
 | .lst xs=>xs.length<=sizeLine/\∃(its:List Value) (n:Nat),Vals xs its/\h.get? a=some {cls:=.type "list",data:=.seq its.toArray n}
 | .tup xs=>xs.length<=sizeLine/\∃its:List Value,Vals xs its/\IsTup h a its.toArray
 | .dK kvs=>kvs.length<=sizeLine/\(a== sysModules)=false/\∃vs,KV kvs vs/\h.DictOf (sJ P w) a vs
 | .dT kvs=>kvs.length≤sizeLine∧(a== sysModules)=false∧∃xs:List (List Key×Addr×Value),
     Paired (λ(p:List Key×V) (q:List Key×Addr×Value)=>p.1=q.1/\H q.2.1=some (.tup (p.1.map kV))/\RelV p.2 q.2.2) kvs xs/\
     ∃o es ep,h.get? a=some o/\o.ExactDict/\o.data=.dict es ep/\es.toList=xs.map (entryOfKey (tupleKind (sJ P w)))/\(xs.map (·.1)).Nodup
 | .set S n=>h.SetOf (intKind P w) a S n
 | .ins C dx fs=>H dx=some (.own a)∧fs.length≤1000∧dx≠a∧h.get? a=some (PySem.W.instObj C dx)∧
     ∃mA,h.Ns1 dx mA/\(∀f,qg (fs.lookup f) (mA f))/\PySem.Within mA (fs.map (·.1))
 | .own _=>∃o,h.get? a=some o
 | .xd fs=>∃mA,h.Ns1 a mA/\∀f,qg (fs.lookup f) (mA f)
 | .rng lo hi=>∃t u v,h.get? a=some {cls:=.type "range",data:=.fields #[.int lo t,.int hi u,.int 1 v]}
 | .cI o u=>h.get? a=some o/\ŵ H h a u
 | .gP q=>∃ps:Array Value,h.get? a=some {cls:=.none,data:=.fields ps}/\TriplesOk ps.toList/\∀pos cv,codeAmong pos ps.toList=some cv->∃c,cv=.ref c/\H c=some (.Uu q)
 | .Uu q=>h.CodeRec (.ref a) q
 | .met f x=>h.get? a=some (PySem.W.methodObj (.ref f) (.ref x))
 | .ext φ=>φ h/\(∃o,h.get? a=some o)/\∀h1 h2:Heap,φ h1->(∀o,h1.get? a=some o->h2.get? a=some o)->φ h2
def jd(H:Hp)(h:Heap):Prop:=∀a o,H a=some o->ŵ P w H h a o
end
section
variable{P:Program}{w:World}{H H':Hp}{h h':Heap}{a:Addr}{o:HO}
theorem ŵ.lt(x:ŵ P w H h a o):a<h.objs.size:=by
 cases o with
 |lst xs=>obtain⟨_,_,_,_,e⟩:=x;exact Heap.lt_size e
 |tup xs=>obtain⟨_,_,_,p⟩:=x;exact p.lt
 |dK kvs=>obtain⟨_,_,_,_,o,_,_,e,_⟩:=x;exact Heap.lt_size e
 |dT kvs=>obtain⟨_,_,_,_,o,_,_,e,_⟩:=x;exact Heap.lt_size e
 |set S n=>obtain⟨o,_,_,_,e,_⟩:=x;exact Heap.lt_size e
 |ins C dx fs=>obtain⟨_,_,_,e,_⟩:=x;exact Heap.lt_size e
 |own y=>obtain⟨_,e⟩:=x;exact Heap.lt_size e
 |xd fs=>obtain⟨_,⟨_,_,_,e,_⟩,_⟩:=x;exact Heap.lt_size e
 |rng lo hi=>obtain⟨_,_,_,e⟩:=x;exact Heap.lt_size e
 |cI ob u=>obtain⟨e,_⟩:=x;exact Heap.lt_size e
 |gP q=>obtain⟨_,e,_⟩:=x;exact Heap.lt_size e
 |Uu q=>obtain⟨c,o,_,_,z,e,_⟩:=x;cases z;exact Heap.lt_size e
 |met f y=>exact Heap.lt_size (show h.get? a=some _ from x)
 |ext φ=>obtain⟨_,⟨_,e⟩,_⟩:=x;exact Heap.lt_size e
theorem Paired.Zaa{α β:Type}{F G:α->β->Prop}:∀{l₁:List α} {l₂:List β},Paired F l₁ l₂->(∀a b,F a b->G a b)->Paired G l₁ l₂
 |_,_,.nil,_=>.nil
 |_,_,.cons r t,f=>.cons (f _ _ r) (Paired.Zaa t f)
def ŵ.stay(x:ŵ P w H h a o)(k:∀b u,(b=a\/H b=some (.own a))->h.get? b=some u->h'.get? b=some u)
 (ho:∀b,H b=some (.own a)->H' b=some (.own a))(ht:∀b xs,H b=some (.tup xs)->H' b=some (.tup xs))(hc:∀b q,H b=some (.Uu q)->H' b=some (.Uu q):=by exact λ_ _ z=>z):ŵ P w H' h' a o:=by
 induction o with
 |lst xs=>obtain⟨z,its,n,r,e⟩:=x;exact⟨z,its,n,r,k _ _ (.inl rfl) e⟩
 |tup xs=>obtain⟨z,its,r,ob,e,c⟩:=x;exact⟨z,its,r,ob,k _ _ (.inl rfl) e,c⟩
 |dK kvs=>obtain⟨z,y,vs,r,ob,es,ep,e,c⟩:=x;exact⟨z,y,vs,r,ob,es,ep,k _ _ (.inl rfl) e,c⟩
 |dT kvs=>
  obtain⟨z,y,xs,r,ob,es,ep,e,c⟩:=x
  exact⟨z,y,xs,Paired.Zaa r λp q z=>⟨z.1,ht _ _ z.2.1,z.2.2⟩,ob,es,ep,k _ _ (.inl rfl) e,c⟩
 |set S n=>obtain⟨ob,es,ep,t,e,c⟩:=x;exact⟨ob,es,ep,t,k _ _ (.inl rfl) e,c⟩
 |ins C dx fs=>
  obtain⟨d,z,ne,e,mA,⟨od,es,ep,e2,c⟩,r⟩:=x
  exact⟨ho _ d,z,ne,k _ _ (.inl rfl) e,mA,⟨od,es,ep,k _ _ (.inr d) e2,c⟩,r⟩
 |own y=>obtain⟨ob,e⟩:=x;exact⟨ob,k _ _ (.inl rfl) e⟩
 |xd fs=>obtain⟨mA,⟨od,es,ep,e,c⟩,r⟩:=x;exact⟨mA,⟨od,es,ep,k _ _ (.inl rfl) e,c⟩,r⟩
 |rng lo hi=>obtain⟨t,u,v,e⟩:=x;exact⟨t,u,v,k _ _ (.inl rfl) e⟩
 |cI ob u ih=>obtain⟨e,q⟩:=x;exact⟨k _ _ (.inl rfl) e,ih q⟩
 |gP q=>
  obtain⟨ps,e,t,r⟩:=x
  exact⟨ps,k a _ (.inl rfl) e,t,λpos cv z=>let ⟨c,z1,z2⟩:=r pos cv z;⟨c,z1,hc c q z2⟩⟩
 |Uu q=>
  obtain⟨c,o,vs,t,z,e,r⟩:=x
  cases z
  exact⟨a,o,vs,t,rfl,k a _ (.inl rfl) e,r⟩
 |met f y=>
  have e:h.get? a=some (PySem.W.methodObj (.ref f) (.ref y)):=x
  show h'.get? a=some (PySem.W.methodObj (.ref f) (.ref y))
  exact k a _ (.inl rfl) e
 |ext φ=>obtain⟨p,⟨o,e⟩,st⟩:=x;exact⟨st _ _ p λo q=>k _ _ (.inl rfl) q,⟨o,k _ _ (.inl rfl) e⟩,st⟩
theorem jd.lt(x:jd P w H h)(e:H a=some o):a<h.objs.size:=(x a o e).lt
def jd.fresh(x:jd P w H h)(e:h.objs.size<=a):H a=none:=by
 cases q:H a with
 |none=>rfl
 |some u=>exact absurd (Nat.lt_of_lt_of_le (x.lt q) e) (Nat.lt_irrefl _)
def jd.kept(x:jd P w H h)(k:∀b u,h.get? b=some u->h'.get? b=some u):jd P w H h':=λa o e=>
 (x a o e).stay (λb u _ q=>k b u q) (λ_ q=>q) λ_ _ q=>q
def jd.laid(x:jd P w H h)(k:∀b u,h.get? b=some u->h'.get? b=some u)(hp:h.objs.size<=a)(new:ŵ P w (upd H a o) h' a o):jd P w (upd H a o) h':=λb u e=>by
 have hn:=x.fresh hp
 by_cases hb:b=a
 ·subst hb;rw[ē] at e;cases e;exact new
 ·rw[Ę hb] at e
  exact(x b u e).stay (λc v _ q=>k c v q) (λc q=>by rw[Ę (Ğ q hn)];exact q) (λc xs q=>by rw[Ę (Ğ q hn)];exact q) λc xs q=>by rw[Ę (Ğ q hn)];exact q
end
def Rd(H:Hp)(a:Addr)(u:HO):Prop:=H a=some u\/∃o,H a=some (.cI o u)
def Rd.ok{P:Program}{w:World}{H:Hp}{h:Heap}{a:Addr}{u:HO}(r:Rd H a u)(x:jd P w H h):ŵ P w H h a u:=by
 rcases r with r|⟨o,r⟩
 ·exact x a u r
 ·obtain⟨_,q⟩:=x a _ r
  exact q
def Mut:Option HO->Prop
 |some (.lst _)=>True
 |some (.dK _)=>True
 |some (.dT _)=>True
 |some (.set _ _)=>True
 |some (.ins _ _ _)=>True
 |some (.ext _)=>True
 |some (.xd _)=>True
 |_=>False
section
variable{P:Program}{w:World}{H:Hp}{h h':Heap}{x e:Addr}{o':HO}
def jd.write(ok:jd P w H h)(mu:Mut (H x))(he:e=x\/H e=some (.own x))(k:∀b u,b≠e->h.get? b=some u->h'.get? b=some u)(heo:∃u,h'.get? e=some u)
 (new:ŵ P w (upd H x o') h' x o'):jd P w (upd H x o') h':=λb u q=>by
 have Zab:∀c y,H c=some (.own y)->c≠x:=λc y r z=>by subst z;rw[r] at mu;exact mu
 have ZcE:∀c xs,H c=some (.tup xs)->c≠x:=λc xs r z=>by subst z;rw[r] at mu;exact mu
 have ZcF:∀c q,H c=some (.Uu q)->c≠x:=λc xs r z=>by subst z;rw[r] at mu;exact mu
 by_cases hb:b=x
 ·subst hb;rw[ē] at q;cases q;exact new
 ·rw[Ę hb] at q
  by_cases hbe:b=e
  ·have q':H b=some (.own x):=by
    rcases he with z|z
    ·exact absurd (hbe.trans z) hb
    ·rw[hbe];exact z
   rw[q] at q';cases q'
   obtain⟨v,hv⟩:=heo
   exact⟨v,by rw[hbe];exact hv⟩
  ·refine(ok b u q).stay (λc v hc r=>k c v ?_ r) (λc r=>by rw[Ę (Zab c b r)];exact r) (λc xs r=>by rw[Ę (ZcE c xs r)];exact r) λc xs r=>by rw[Ę (ZcF c xs r)];exact r
   rcases hc with rfl|hc
   ·exact hbe
   ·rintro rfl
    rcases he with z|z
    ·exact Zab c b hc z
    ·rw[hc] at z;cases z;exact hb rfl
end
structure Un(fs ex:List Addr)(H H':Hp)(h h':Heap):Prop where
 keep:∀b o,h.get? b=some o->H b=none->b∉fs->b∉ex->h'.get? b=some o
 slot:∀b o,h.get? b=some o->H b=none->b∈fs->b∉ex->∃sl,h'.get? b=some {o with slots:=sl}
 free:∀b o,h.get? b=some o->H b=none->b∉ex->H' b=none
 there:∀b o,h.get? b=some o->b∉ex->∃o',h'.get? b=some o'
 tups:∀b xs,H b=some (.tup xs)->H' b=some (.tup xs)
 qj:∀b o u,H b=some (.cI o u)->H' b=some (.cI o u)
 lV:∀b q,H b=some (.gP q)->H' b=some (.gP q)
section
variable{fs fs' ex ex':List Addr}{H H1 H2:Hp}{h h1 h2 h':Heap}{a x e:Addr}{o:HO}
def Un.any(u:Un fs ex H H1 h h1){b:Addr}{ob:Obj}(q:h.get? b=some ob)(n:H b=none)(hx:b∉ex):∃sl,h1.get? b=some {ob with slots:=sl}:=by
 by_cases hb:b∈fs
 ·exact u.slot b ob q n hb hx
 ·exact⟨ob.slots,u.keep b ob q n hb hx⟩
def Un.kept(k:∀b u,h.get? b=some u->h'.get? b=some u):Un fs ex H H h h':=
 ⟨λb ob q _ _ _=>k b ob q,λb ob q _ _ _=>⟨ob.slots,k b ob q⟩,λ_ _ _ n _=>n,λb ob q _=>⟨ob,k b ob q⟩,λ_ _ q=>q,λ_ _ _ q=>q,λ_ _ q=>q⟩
def Un.refl:Un fs ex H H h h:=Un.kept λ_ _ q=>q
def Un.laid(k:∀b u,h.get? b=some u->h'.get? b=some u)(hp:h.objs.size<=a)(hn:H a=none):Un fs ex H (upd H a o) h h' where
 keep:=λb u q _ _ _=>k b u q
 slot:=λb u q _ _ _=>⟨u.slots,k b u q⟩
 free:=λb u q n _=>by rw[Ę (Nat.ne_of_lt (Nat.lt_of_lt_of_le (Heap.lt_size q) hp))];exact n
 there:=λb u q _=>⟨u,k b u q⟩
 tups:=λb xs q=>by rw[Ę (Ğ q hn)];exact q
 qj:=λb u xs q=>by rw[Ę (Ğ q hn)];exact q
 lV:=λb ps q=>by rw[Ę (Ğ q hn)];exact q
def Un.write(mu:Mut (H x))(he:e=x\/H e=some (.own x))(k:∀b u,b≠e->h.get? b=some u->h'.get? b=some u)(heo:∃u,h'.get? e=some u):Un fs ex H (upd H x o) h h':=by
 have hx:∀b,H b=none->b≠x:=λb n z=>by subst z;rw[n] at mu;exact mu
 have hb:∀b,H b=none->b≠e:=λb n z=>by
  subst z
  rcases he with r|r
  ·exact hx b n r
  ·rw[n] at r;cases r
 have hm:∀b u,H b=some u->¬Mut (some u)->b≠x:=λb u q nm z=>by subst z;rw[q] at mu;exact nm mu
 refine⟨λb u q n _ _=>k b u (hb b n) q,λb u q n _ _=>⟨u.slots,k b u (hb b n) q⟩,λb u q n _=>by rw[Ę (hx b n)];exact n,λb u q _=>?_,
  λb xs q=>by rw[Ę (hm b _ q λz=>z)];exact q,λb u xs q=>by rw[Ę (hm b _ q λz=>z)];exact q,λb ps q=>by rw[Ę (hm b _ q λz=>z)];exact q⟩
 by_cases hbe:b=e
 ·subst hbe;exact heo
 ·exact⟨u,k b u hbe q⟩
end
def trk(h:Heap)(H:Hp):List Addr:=(List.range h.objs.size).filter λa=>(H a).isSome
def ql(h:Heap)(H:Hp):Heap:=PySem.W.hideAll h (trk h H)
def Cd(h:Heap)(H:Hp):(ql h H).objs.size=h.objs.size:=PySem.W.hideAll_size _ _
def DG{h:Heap}{H:Hp}{b:Addr}{o:Obj}(e:h.get? b=some o)(n:H b=none):(ql h H).get? b=some o:=
 PySem.W.hideAll_get _ e λhm=>by
  have q:(H b).isSome=true:=(List.mem_filter.mp hm).2
  rw[n] at q;simp at q
def Jz{h:Heap}{H:Hp}{b:Addr}{o:Obj}(e:(ql h H).get? b=some o):h.get? b=some o/\H b=none:=by
 have e':h.get? b=some o:=PySem.W.of_hideAll (trk h H) e
 refine⟨e',?_⟩
 cases q:H b with
 |none=>rfl
 |some x=>
  have hm:b∈trk h H:=List.mem_filter.mpr ⟨List.mem_range.mpr (Heap.lt_size e'),by simp[q]⟩
  have z:(ql h H).get? b=none:=PySem.W.hideAll_none (trk h H) hm
  rw[z] at e;cases e
def JB(g h:Heap)(L:Addr):List (Addr×Obj):=(List.range h.objs.size).filterMap λa=>if a=L\/(g.get? a).isSome=true then none else(h.get? a).map λo=>(a,o)
def rest(g h:Heap)(L d:Addr):List (Addr×Obj):=(JB g h L).filter λp=>decide (p.1≠d)
end L2
namespace L2
open PySem PySem.Spec PyProof.Rows
structure Mod(K:PySem.W.Frag)(mg:Str->Option Value)(base:Heap):Prop where
 YH:K.In base
 glob:base.Ns mainGlobals mg
 blt:∃mb,base.Ns builtinsNs mb/\∀x:Str,x≠ "__name__" ->mb x=bootBuiltins x
 nolimit:base.NoLimit
def lams:List Str:=[]
abbrev sO(x:Str):Str:=(x ++ ".<locals>.") ++ "<lambda>"
def TabsOk(K:PySem.W.Frag)(mg:Str->Option Value)(base:Heap)(H:Hp):Prop:=∀x c P,x∈lams->PySem.W.tabIn K x=some (c,P)->PySem.W.CodeHd base c P/\H P=some (.gP (sO x))/\base.BuiltinsAt mg P
structure Cx where
 prog:Program
 w:World
 K:PySem.W.Frag
 mg:Str->Option Value
 base:Heap
 A:Around
 N:List Str
 s₀:Shared
 H₀:Hp
 env:Env
 outer:List Env
 stack:List Env
 ex:List Addr
 fn:Str->Bool
 calm:Bool
 pn:List (Addr×Obj)
 xe:Value->Shared->Prop
def frs(l:List Env):List Addr:=l.filterMap (·.frame)
abbrev Cx.fs(X:Cx):List Addr:=frs X.outer
def Aj(sc:Scope)(x:Str):Prop:=sc.names.lookup x=some .local\/sc.names.lookup x=some .cell\/sc.names.lookup x=some .free
def Loc(sc:Scope)(x:Str):Prop:=sc.names.lookup x=some .local\/sc.names.lookup x=some .cell
def Look(env:Env)(h:Heap)(m:Str->Option Value)(x:Str)(u:Value):Prop:=
 (env.kindOf x=some .local/\m x=some u)\/((env.kindOf x=some .cell\/env.kindOf x=some .free)/\∃c,env.cells.lookup x=some c/\h.IsCell c (some u))
structure Cx.Ok(X:Cx):Prop where
 mod:Mod X.K X.mg X.base
 kind:X.env.scope.kind=.function
 glob:X.env.globals=mainGlobals
 blt:X.env.builtins=builtinsNs
 above:X.s₀.heap.objs.size<=X.env.locals
 inj:∀x y c,X.env.cells.lookup x=some c->X.env.cells.lookup y=some c->x=y
 has:∀x,(X.env.kindOf x=some .cell\/X.env.kindOf x=some .free)->∃c,X.env.cells.lookup x=some c
 cab:∀x c,X.fn x=true->X.env.cells.lookup x=some c->X.s₀.heap.objs.size<=c
 hd:X.calm=true->X.A.handled=none
 frames:X.A.frames=some X.stack
 stk:X.stack=X.outer\/(X.stack=X.env::X.outer/\X.env.frame=some X.env.locals)
 exf:∀b∈X.ex,b≠X.env.locals/\∀x c,X.env.cells.lookup x=some c->c≠b
 bs:∀b o,X.base.get? b=some o->X.s₀.heap.get? b=some o/\X.H₀ b=none
 JC:X.base.objs.size<=X.s₀.heap.objs.size
 Ce:∀b o,X.base.get? b=some o->b∉X.ex
 JD:∀b∈X.ex,b∉X.fs
 lW:X.s₀.heap.FunFrames X.base X.outer
 Uv:∀b∈X.fs,X.H₀ b=none
 tb:TabsOk X.K X.mg X.base X.H₀
structure Inv(X:Cx)(pins:List (Addr×Obj))(σ:List (Option V))(H:Hp)(s:Shared):Prop where
 ok:X.Ok
 os:s.os=X.s₀.os
 bare:AllBare s.gens
 base:Un X.fs X.ex X.H₀ H X.s₀.heap s.heap
 loc:∃m,s.heap.Ns X.env.locals m/\∀(i:Nat) (x:Str) (v:V),X.N[i]?=some x->σ[i]?=some (some v)->Aj X.env.scope x->∃u,RelV v u/\Look X.env s.heap m x u
 cell:∀x c,X.env.cells.lookup x=some c->∃v,s.heap.IsCell c v
 free:H X.env.locals=none
 g_:∀x c,X.env.cells.lookup x=some c->H c=none
 pin:∀p∈X.pn++pins,s.heap.get? p.1=some p.2/\H p.1=none/\p.1≠X.env.locals/\p.1∉X.fs/\∀v,p.2.data≠ .cell v
 hok:jd X.prog X.w H s.heap
 len:σ.length=X.N.length
section
variable{X:Cx}{pins:List (Addr×Obj)}{σ:List (Option V)}{H H':Hp}{s:Shared}{h':Heap}
def Cx.Ok.ZcG(ok:X.Ok){b:Addr}{o:Obj}(e:X.base.get? b=some o):b∉X.fs:=λhb=>by
 have:=(ok.lW.mem hb).1
 rw[e] at this;cases this
theorem Inv.bs(I:Inv X pins σ H s):∀b o,X.base.get? b=some o->s.heap.get? b=some o/\H b=none:=λb o e=>
 ⟨I.base.keep b o (I.ok.bs b o e).1 (I.ok.bs b o e).2 (I.ok.ZcG e) (I.ok.Ce b o e),I.base.free b o (I.ok.bs b o e).1 (I.ok.bs b o e).2 (I.ok.Ce b o e)⟩
def Inv.bk(I:Inv X pins σ H s):∀b o,X.base.get? b=some o->s.heap.get? b=some o:=λb o e=>(I.bs b o e).1
theorem Inv.tb(I:Inv X pins σ H s):TabsOk X.K X.mg X.base H:=λx c P hx e=>⟨(I.ok.tb x c P hx e).1,I.base.lV _ _ (I.ok.tb x c P hx e).2.1,(I.ok.tb x c P hx e).2.2⟩
theorem Inv.mod(I:Inv X pins σ H s):Mod X.K X.mg X.base:=I.ok.mod
def Inv.jM(I:Inv X pins σ H s):X.K.In s.heap:=I.ok.mod.YH.keeps I.bk
theorem Inv.lt(I:Inv X pins σ H s):X.env.locals<s.heap.objs.size:=let ⟨_,hn,_⟩:=I.loc;hn.lt
def Inv.sz(I:Inv X pins σ H s):X.s₀.heap.objs.size<=s.heap.objs.size:=Nat.le_trans I.ok.above (Nat.le_of_lt I.lt)
def Inv.ZcH(I:Inv X pins σ H s){a:Addr}(h:s.heap.objs.size<=a):a∉X.fs:=λhb=>by
 obtain⟨_,o,ho,_⟩:=I.ok.lW.mem hb
 exact absurd (Nat.lt_of_lt_of_le (Heap.lt_size ho) (Nat.le_trans I.sz h)) (Nat.lt_irrefl _)
def Inv.Uw(I:Inv X pins σ H s):∀x c,X.env.cells.lookup x=some c->c≠X.env.locals:=λx c e z=>by
 obtain⟨v,o,ho,hd⟩:=I.cell x c e
 obtain⟨m,⟨o',es,ep,ho',hd',_⟩,_⟩:=I.loc
 rw[z,ho'] at ho;cases ho;rw[hd'] at hd;cases hd
theorem Inv.lW(I:Inv X pins σ H s):s.heap.FunFrames X.base X.outer:=by
 have all:∀(l:List Env),(∀b∈frs l,b∈X.fs)->X.s₀.heap.FunFrames X.base l->s.heap.FunFrames X.base l:=by
  intro l
  induction l with
  |nil=>intro _ _;trivial
  |cons env r ih=>
   intro hs hl
   obtain⟨hk,⟨L,o,hf,hn,ho,hd⟩,hr⟩:=hl
   have hL:L∈X.fs:=hs L (by unfold frs;rw[List.filterMap_cons,hf];exact List.mem_cons_self)
   obtain⟨sl,e⟩:=I.base.slot L o ho (I.ok.Uv L hL) hL λz=>I.ok.JD L z hL
   exact⟨hk,⟨L,_,hf,hn,e,hd⟩,ih (λb hb=>hs b (by unfold frs;rw[List.filterMap_cons,hf];exact List.mem_cons_of_mem _ hb)) hr⟩
 exact all X.outer (λ_ hb=>hb) I.ok.lW
theorem Inv.stack(I:Inv X pins σ H s):s.heap.FunFrames X.base X.stack:=by
 rcases I.ok.stk with e|⟨e,hf⟩
 ·rw[e];exact I.lW
 ·rw[e]
  obtain⟨m,hn,_⟩:=I.loc
  refine .cons (by rw[I.ok.kind];decide) hf hn ?_ I.lW
  exact Heap.get?_none_of_le (Nat.le_trans I.ok.JC I.ok.above)
def Inv.nu(I:Inv X pins σ H s):∀b∈frs X.stack,b∈X.env.locals::X.fs:=λb hb=>by
 rcases I.ok.stk with e|⟨e,hf⟩
 ·rw[e] at hb;exact List.mem_cons_of_mem _ hb
 ·rw[e] at hb
  unfold frs at hb
  rw[List.filterMap_cons,hf] at hb
  exact hb
def Inv.Ak(I:Inv X pins σ H s):∀b∈frs X.stack,H b=none:=λb hb=>by
 rcases List.mem_cons.mp (I.nu b hb) with e|hb
 ·rw[e];exact I.free
 ·obtain⟨_,o,ho,_⟩:=I.ok.lW.mem hb
  exact I.base.free b o ho (I.ok.Uv b hb) λz=>I.ok.JD b z hb
def Inv.step{g':Array GenState}{t':Nat}{d':Drawn}{ch:List Addr}(I:Inv X pins σ H s)
 (hch:∀b∈ch,(b∈X.ex\/X.s₀.heap.objs.size<=b)/\b≠X.env.locals/\(∀x c,X.env.cells.lookup x=some c->c≠b)/\∀p∈X.pn++pins,p.1≠b)
 (keep:∀b o,b≠X.env.locals->b∉X.fs->b∉ch->s.heap.get? b=some o->H b=none->h'.get? b=some o)
 (slot:∀b o,b≠X.env.locals->b∈X.fs->b∉ch->s.heap.get? b=some o->H b=none->∃sl,h'.get? b=some {o with slots:=sl})(free:∀b o,b∉ch->s.heap.get? b=some o->H b=none->H' b=none)
 (there:∀b o,b∉ch->s.heap.get? b=some o->∃o',h'.get? b=some o')
 (tups:∀b xs,H b=some (.tup xs)->H' b=some (.tup xs))(qj:∀b o u,H b=some (.cI o u)->H' b=some (.cI o u))(lV:∀b q,H b=some (.gP q)->H' b=some (.gP q))
 (ns:∀m,s.heap.Ns X.env.locals m->h'.Ns X.env.locals m)(hok:jd X.prog X.w H' h')(hg:AllBare g') :
 Inv X pins σ H' {s with heap:=h',gens:=g',drawn:=d',toks:=t'}:=by
 have neL:∀b o,X.s₀.heap.get? b=some o->b≠X.env.locals:=λb o e=>Nat.ne_of_lt (Nat.lt_of_lt_of_le (Heap.lt_size e) I.ok.above)
 have neC:∀b o,X.s₀.heap.get? b=some o->b∉X.ex->b∉ch:=λb o e hx hb=>by
  rcases(hch b hb).1 with z|z
  ·exact hx z
  ·exact absurd (Nat.lt_of_lt_of_le (Heap.lt_size e) z) (Nat.lt_irrefl _)
 have cellK:∀x c,X.env.cells.lookup x=some c->∀v,s.heap.IsCell c v->h'.IsCell c v:=λx c e v ⟨o,ho,hd⟩=>by
  have nch:c∉ch:=λz=>(hch c z).2.2.1 x c e rfl
  by_cases hc:c∈X.fs
  ·obtain⟨sl,q⟩:=slot c o (I.Uw x c e) hc nch ho (I.g_ x c e)
   exact⟨_,q,hd⟩
  ·exact⟨o,keep c o (I.Uw x c e) hc nch ho (I.g_ x c e),hd⟩
 refine⟨I.ok,I.os,hg,⟨λb o e n hb hx=>?_,λb o e n hb hx=>?_,λb o e n hx=>?_,λb o e hx=>?_,λb xs e=>tups b xs (I.base.tups b xs e),λb o xs e=>qj b o xs (I.base.qj b o xs e),λb ps e=>?_⟩,?_,λx c e=>?_,?_,λx c e=>?_,λp hp=>?_,hok,I.len⟩
 ·exact keep b o (neL b o e) hb (neC b o e hx) (I.base.keep b o e n hb hx) (I.base.free b o e n hx)
 ·obtain⟨sl,e1⟩:=I.base.slot b o e n hb hx
  obtain⟨sl',e2⟩:=slot b _ (neL b o e) hb (neC b o e hx) e1 (I.base.free b o e n hx)
  exact⟨sl',e2⟩
 ·obtain⟨o',e1⟩:=I.base.there b o e hx
  exact free b o' (neC b o e hx) e1 (I.base.free b o e n hx)
 ·obtain⟨o',e1⟩:=I.base.there b o e hx
  exact there b o' (neC b o e hx) e1
 ·exact lV b ps (I.base.lV b ps e)
 ·obtain⟨m,hn,hl⟩:=I.loc
  refine⟨m,ns m hn,λi x v e1 e2 e3=>?_⟩
  obtain⟨u,r,l⟩:=hl i x v e1 e2 e3
  refine⟨u,r,?_⟩
  rcases l with l|⟨k,c,e,z⟩
  ·exact .inl l
  ·exact .inr ⟨k,c,e,cellK x c e _ z⟩
 ·obtain⟨v,z⟩:=I.cell x c e
  exact⟨v,cellK x c e v z⟩
 ·obtain⟨m,⟨o,_,_,ho,_⟩,_⟩:=I.loc
  exact free _ o (λz=>(hch _ z).2.1 rfl) ho I.free
 ·obtain⟨v,o,ho,hd⟩:=I.cell x c e
  exact free c o (λz=>(hch c z).2.2.1 x c e rfl) ho (I.g_ x c e)
 ·obtain⟨e,n,ne,nf,d⟩:=I.pin p hp
  have nch:p.1∉ch:=λz=>(hch p.1 z).2.2.2 p hp rfl
  exact⟨keep p.1 p.2 ne nf nch e n,free p.1 p.2 nch e n,ne,nf,d⟩
def Inv.un{t':Nat}(I:Inv X pins σ H s)(u:Un X.fs [] H H' s.heap h')(hok:jd X.prog X.w H' h'):Inv X pins σ H' {s with heap:=h',toks:=t'}:=by
 obtain⟨m,⟨o,es,ep,ho,r⟩,_⟩:=id I.loc
 obtain⟨sl,hL⟩:=u.any ho I.free (by simp)
 exact I.step (g':=s.gens) (d':=s.drawn) (ch:=[]) (λ_ z=>nomatch z) (λb o _ hb _ e n=>u.keep b o e n hb (by simp)) (λb o _ hb _ e n=>u.slot b o e n hb (by simp)) (λb o _ e n=>u.free b o e n (by simp)) (λb o _ e=>u.there b o e (by simp)) u.tups u.qj u.lV (λm' hm=>by
  obtain⟨o',es',ep',ho',r'⟩:=hm
  rw[ho] at ho';cases ho'
  exact⟨_,es',ep',hL,r'⟩) hok I.bare
def Inv.call{g':Array GenState}{t':Nat}{d':Drawn}{ch:List Addr}(I:Inv X pins σ H s)(u:Un (frs X.stack) ch H H' s.heap h')(hok:jd X.prog X.w H' h')(hg:AllBare g')
 (hch:∀b∈ch,(b∈X.ex\/X.s₀.heap.objs.size<=b)/\b≠X.env.locals/\(∀x c,X.env.cells.lookup x=some c->c≠b)/\∀p∈X.pn++pins,p.1≠b) :
 Inv X pins σ H' {s with heap:=h',gens:=g',drawn:=d',toks:=t'}:=by
 obtain⟨m,⟨o,es,ep,ho,r⟩,_⟩:=id I.loc
 obtain⟨sl,hL⟩:=u.any ho I.free λz=>(hch _ z).2.1 rfl
 exact I.step (ch:=ch) hch (λb o hL hb hc e n=>u.keep b o e n (λz=>(List.mem_cons.mp (I.nu b z)).elim hL hb) hc) (λb o _ _ hc e n=>u.any e n hc) (λb o hc e n=>u.free b o e n hc) (λb o hc e=>u.there b o e hc) u.tups u.qj u.lV (λm' hm=>by
  obtain⟨o',es',ep',ho',r'⟩:=hm
  rw[ho] at ho';cases ho'
  exact⟨_,es',ep',hL,r'⟩) hok hg
def Inv.turned{t':Nat}{it:Addr}(I:Inv X pins σ H s)(k:∀b o,b≠it->s.heap.get? b=some o->h'.get? b=some o)(hn:H it=none)(hL:it≠X.env.locals)
 (h1:it∈X.ex\/X.s₀.heap.objs.size<=it)(h2:∀x c,X.env.cells.lookup x=some c->c≠it)(h3:∀p∈X.pn++pins,p.1≠it):Inv X pins σ H {s with heap:=h',toks:=t'}:=by
 have nit:∀b u,H b=some u->b≠it:=λb u e z=>by rw[z,hn] at e;cases e
 refine I.step (g':=s.gens) (d':=s.drawn) (ch:=[it]) (λb hb=>?_) (λb o _ _ hc e _=>k b o (λz=>hc (by simp[z])) e) (λb o _ _ hc e _=>⟨o.slots,k b o (λz=>hc (by simp[z])) e⟩) (λ_ _ _ _ n=>n)
  (λb o hc e=>⟨o,k b o (λz=>hc (by simp[z])) e⟩) (λ_ _ e=>e) (λ_ _ _ e=>e) (λ_ _ e=>e) (λm hm=>?_) (λb u e=>?_) I.bare
 ·have e:b=it:=by simpa using hb
  subst e
  exact⟨h1,hL,h2,h3⟩
 ·obtain⟨o,es,ep,ho,r⟩:=hm
  exact⟨o,es,ep,k _ o (Ne.symm hL) ho,r⟩
 ·refine(I.hok b u e).stay (λc v hc q=>k c v ?_ q) (λ_ q=>q) λ_ _ q=>q
  rcases hc with z|z
  ·rw[z];exact nit b u e
  ·exact nit c _ z
def Inv.tok(I:Inv X pins σ H s)(t:Nat):Inv X pins σ H {s with toks:=t}:=I.un (h':=s.heap) (t':=t) Un.refl I.hok
theorem Inv.kept{t':Nat}(I:Inv X pins σ H s)(k:∀b u,s.heap.get? b=some u->h'.get? b=some u):Inv X pins σ H {s with heap:=h',toks:=t'}:=I.un (Un.kept k) (I.hok.kept k)
theorem Inv.laid{a:Addr}{o:HO}{t':Nat}(I:Inv X pins σ H s)(k:∀b u,s.heap.get? b=some u->h'.get? b=some u)(hp:s.heap.objs.size<=a)(new:ŵ X.prog X.w (upd H a o) h' a o) :
 Inv X pins σ (upd H a o) {s with heap:=h',toks:=t'}:=I.un (Un.laid k hp (I.hok.fresh hp)) (I.hok.laid k hp new)
theorem Inv.write{x e:Addr}{o:HO}{t':Nat}(I:Inv X pins σ H s)(mu:Mut (H x))(he:e=x\/H e=some (.own x))(k:∀b u,b≠e->s.heap.get? b=some u->h'.get? b=some u)(heo:∃u,h'.get? e=some u)
 (new:ŵ X.prog X.w (upd H x o) h' x o):Inv X pins σ (upd H x o) {s with heap:=h',toks:=t'}:=I.un (Un.write mu he k heo) (I.hok.write mu he k heo new)
def Inv.Al{Mv:List (Addr×Obj)}(I:Inv X pins σ H s)(h:∀p∈Mv,s.heap.get? p.1=some p.2/\H p.1=none/\p.1≠X.env.locals/\p.1∉X.fs/\∀v,p.2.data≠ .cell v):Inv X Mv σ H s:=
 ⟨I.ok,I.os,I.bare,I.base,I.loc,I.cell,I.free,I.g_,λp hp=>(List.mem_append.mp hp).elim (λz=>I.pin p (List.mem_append_left _ z)) (h p),I.hok,I.len⟩
def vK{N:List Str}(hN:N.Nodup){i j:Nat}{x:Str}(a:N[i]?=some x)(b:N[j]?=some x):i=j:=by
 obtain⟨h1,e1⟩:=List.getElem?_eq_some_iff.mp a
 obtain⟨h2,e2⟩:=List.getElem?_eq_some_iff.mp b
 exact(List.getElem_inj hN).mp (e1.trans e2.symm)
def qJ{M:Model}{A:Around}{E:Value->Shared->Prop}{i:Nat}{x:Str}{v:V}{u:Value}{Q:Unit->Shared->Prop}(I:Inv X pins σ H s)(hN:X.N.Nodup)(hi:X.N[i]?=some x)(hx:Loc X.env.scope x)(r:RelV v u)
 (h:∀s',Inv X pins (σ.set i (some v)) H s'->(∃a,Heap.SameBut a s.heap s'.heap/\(a=X.env.locals\/X.env.cells.lookup x=some a))->Q () s')(hf:X.fn x=true\/X.env.scope.names.lookup x=some .local:=by first|exact .inl rfl|exact .inr rfl|assumption):wpAny M A (storeName X.env x u) Q E s:=by
 obtain⟨m,hn,hl⟩:=id I.loc
 have hcls:(X.env.scope.kind== .class || (X.env.scope.kind== .module && X.env.locals != X.env.globals))=false:=by rw[I.ok.kind];rfl
 have Zeu:i < σ.length:=by rw[I.len];exact(List.getElem?_eq_some_iff.mp hi).1
 have Uw:=I.Uw
 have tracked:∀{a:Addr} {h':Heap},(∃o,s.heap.get? a=some o/\H a=none)->Heap.SameBut a s.heap h'->jd X.prog X.w H h':=fun{a h'} ha hs b ob e=>by
  obtain⟨_,_,hfree⟩:=ha
  refine(I.hok b ob e).stay (λc w' hc q=>(hs.2 c ?_).trans q) (λ_ q=>q) λ_ _ q=>q
  rintro rfl
  rcases hc with rfl|hc
  ·rw[hfree] at e;cases e
  ·rw[hfree] at hc;cases hc
 rcases hx with hk|hk
 ·refine wpAny_storeName_local hk hn (λh' hn' hs=>?_) hcls
  obtain⟨oL,_,_,hoL,_⟩:=id hn
  refine h _ ⟨I.ok,I.os,I.bare,⟨λb o e n hb hx=>?_,λb o e n hb hx=>?_,I.base.free,λb o e hx=>?_,I.base.tups,I.base.qj,I.base.lV⟩,⟨_,hn',λj y v' e1 e2 e3=>?_⟩,λy c e=>?_,I.free,I.g_,λp hp=>?_,tracked ⟨oL,hoL,I.free⟩ hs,by simpa using I.len⟩ ⟨_,hs,.inl rfl⟩
  ·exact(hs.2 b (Nat.ne_of_lt (Nat.lt_of_lt_of_le (Heap.lt_size e) I.ok.above))).trans (I.base.keep b o e n hb hx)
  ·obtain⟨sl,e1⟩:=I.base.slot b o e n hb hx
   exact⟨sl,(hs.2 b (Nat.ne_of_lt (Nat.lt_of_lt_of_le (Heap.lt_size e) I.ok.above))).trans e1⟩
  ·obtain⟨o',e1⟩:=I.base.there b o e hx
   exact⟨o',(hs.2 b (Nat.ne_of_lt (Nat.lt_of_lt_of_le (Heap.lt_size e) I.ok.above))).trans e1⟩
  ·by_cases hj:j=i
   ·subst hj
    rw[hi] at e1;cases e1
    rw[List.getElem?_set_self Zeu] at e2
    cases e2
    exact⟨u,r,.inl ⟨hk,by simp⟩⟩
   ·rw[List.getElem?_set_ne (Ne.symm hj)] at e2
    obtain⟨u',r',q⟩:=hl j y v' e1 e2 e3
    refine⟨u',r',?_⟩
    rcases q with⟨k,e⟩|⟨k,c,e,z⟩
    ·refine .inl ⟨k,?_⟩
     have:y≠x:=λe=>hj (vK hN e1 (e▸hi))
     simp[this,e]
    ·exact .inr ⟨k,c,e,z.sameBut hs (Uw y c e)⟩
  ·obtain⟨w',z⟩:=I.cell y c e
   exact⟨w',z.sameBut hs (Uw y c e)⟩
  ·obtain⟨e,n,ne,nf,d⟩:=I.pin p hp
   exact⟨(hs.2 p.1 ne).trans e,n,ne,nf,d⟩
 ·have hfn:X.fn x=true:=by
   rcases hf with z|z
   ·exact z
   ·rw[z] at hk;cases hk
  obtain⟨c,hc⟩:=I.ok.has x (.inl hk)
  obtain⟨w',z⟩:=I.cell x c hc
  refine wpAny_storeName_cell I.ok.kind hk hc z (λh' hc' hs=>?_)
  obtain⟨oc,hoc,ZcI⟩:=id z
  refine h {s with heap:=h'} ⟨I.ok,I.os,I.bare,⟨λb o e n hb hx=>?_,λb o e n hb hx=>?_,I.base.free,λb o e hx=>?_,I.base.tups,I.base.qj,I.base.lV⟩,⟨m,hn.sameBut hs (Ne.symm (Uw x c hc)),λj y v' e1 e2 e3=>?_⟩,λy c' e=>?_,I.free,I.g_,λp hp=>?_,tracked ⟨oc,hoc,I.g_ x c hc⟩ hs,by simpa using I.len⟩ ⟨c,hs,.inr hc⟩
  ·exact(hs.2 b (Nat.ne_of_lt (Nat.lt_of_lt_of_le (Heap.lt_size e) (I.ok.cab x c hfn hc)))).trans (I.base.keep b o e n hb hx)
  ·obtain⟨sl,e1⟩:=I.base.slot b o e n hb hx
   exact⟨sl,(hs.2 b (Nat.ne_of_lt (Nat.lt_of_lt_of_le (Heap.lt_size e) (I.ok.cab x c hfn hc)))).trans e1⟩
  ·obtain⟨o',e1⟩:=I.base.there b o e hx
   exact⟨o',(hs.2 b (Nat.ne_of_lt (Nat.lt_of_lt_of_le (Heap.lt_size e) (I.ok.cab x c hfn hc)))).trans e1⟩
  ·by_cases hj:j=i
   ·subst hj
    rw[hi] at e1;cases e1
    rw[List.getElem?_set_self Zeu] at e2
    cases e2
    exact⟨u,r,.inr ⟨.inl hk,c,hc,hc'⟩⟩
   ·rw[List.getElem?_set_ne (Ne.symm hj)] at e2
    obtain⟨u',r',q⟩:=hl j y v' e1 e2 e3
    refine⟨u',r',?_⟩
    rcases q with q|⟨k,c',e,z'⟩
    ·exact .inl q
    ·refine .inr ⟨k,c',e,z'.sameBut hs ?_⟩
     rintro rfl
     exact hj (vK hN e1 (I.ok.inj _ _ _ e hc▸hi))
  ·by_cases hcc:c'=c
   ·subst hcc;exact⟨_,hc'⟩
   ·obtain⟨w2,z2⟩:=I.cell y c' e
    exact⟨w2,z2.sameBut hs hcc⟩
  ·obtain⟨e,n,ne,nf,d⟩:=I.pin p hp
   refine⟨(hs.2 p.1 ?_).trans e,n,ne,nf,d⟩
   intro q
   rw[q,hoc] at e
   have q':oc=p.2:=Option.some.inj e
   exact d w' (by rw[<-q'];exact ZcI)
def nA{M:Model}{A:Around}{E:Value->Shared->Prop}{i:Nat}{x:Str}{v:V}{u:Value}{Q:Unit->Shared->Prop}(I:Inv X pins σ H s)(hN:X.N.Nodup)(hi:X.N[i]?=some x)(hx:Loc X.env.scope x)(r:RelV v u)
 (h:∀s',Inv X pins (σ.set i (some v)) H s'->Q () s')(hf:X.fn x=true\/X.env.scope.names.lookup x=some .local:=by first|exact .inl rfl|exact .inr rfl|assumption):wpAny M A (storeName X.env x u) Q E s:=
 qJ I hN hi hx r (λs' I' _=>h s' I') hf
def Inv.call'{s':Shared}{ch:List Addr}(I:Inv X pins σ H s)(ho:s'.os=s.os)(u:Un (frs X.stack) ch H H' s.heap s'.heap)(hok:jd X.prog X.w H' s'.heap)(hg:AllBare s'.gens)
 (hch:∀b∈ch,(b∈X.ex\/X.s₀.heap.objs.size<=b)/\b≠X.env.locals/\(∀x c,X.env.cells.lookup x=some c->c≠b)/\∀p∈X.pn++pins,p.1≠b):Inv X pins σ H' s':=by
 obtain⟨h',g',d',t',o'⟩:=s'
 have e:o'=s.os:=ho
 subst e
 exact I.call (g':=g') (t':=t') (d':=d') u hok hg hch
end
abbrev XK:=Value->Option Addr->Hp->Prop
abbrev St:=List (Option V)
abbrev VK:=V->Hp->Prop
abbrev TE:=St->Hp->VK->Prop
abbrev TT:=St->Hp->(Bool->Hp->Prop)->Prop
abbrev TA:=St->Hp->(List V->Hp->Prop)->Prop
structure Ends where
 nx:St->Hp->Prop
 rt:VK
 bk:St->Hp->Prop:=λ_ _=>False
 ct:St->Hp->Prop:=λ_ _=>False
abbrev TS:=Ends->St->Hp->Prop
def EP(X:Cx)(pins:List (Addr×Obj))(σ:St)(Q:VK)(u:Value)(s':Shared):Prop:=∃v H',Inv X pins σ H' s'/\RelV v u/\Q v H'
def TP(X:Cx)(pins:List (Addr×Obj))(σ:St)(Q:Bool->Hp->Prop)(b:Bool)(s':Shared):Prop:=∃H',Inv X pins σ H' s'/\Q b H'
def AP(X:Cx)(pins:List (Addr×Obj))(σ:St)(Q:List V->Hp->Prop)(us:List Value)(s':Shared):Prop:=∃vs H',Inv X pins σ H' s'/\Vals vs us/\Q vs H'
def SP(X:Cx)(pins:List (Addr×Obj))(D:Ends)(f:Flow)(s':Shared):Prop:=
 match f with
 | .next=>∃σ' H',Inv X pins σ' H' s'/\D.nx σ' H'
 | .brk=>∃σ' H',Inv X pins σ' H' s'/\D.bk σ' H'
 | .cont=>∃σ' H',Inv X pins σ' H' s'/\D.ct σ' H'
 | .ret u=>∃v σ' H',Inv X pins σ' H' s'/\RelV v u/\D.rt v H'
def PE(X:Cx)(e:Expr)(t:TE):Prop:=
 ∀(pins:List (Addr×Obj)) (s:Shared) (σ:St) (H:Hp) (Q:VK),Inv X pins σ H s->t σ H Q->wpAny (model X.prog X.w) X.A (eval e X.env) (EP X pins σ Q) X.xe s
def PT(X:Cx)(e:Expr)(t:TT):Prop:=
 ∀(pins:List (Addr×Obj)) (s:Shared) (σ:St) (H:Hp) (Q:Bool->Hp->Prop),Inv X pins σ H s->t σ H Q->wpAny (model X.prog X.w) X.A (isTrue e X.env (eval e X.env)) (TP X pins σ Q) X.xe s
def PW(X:Cx)(e:Expr)(t:TT):Prop:=
 ∀(whole:Sem Value) (pins:List (Addr×Obj)) (s:Shared) (σ:St) (H:Hp) (Q:Bool->Hp->Prop),Inv X pins σ H s->t σ H Q->wpAny (model X.prog X.w) X.A (isTrue e X.env whole) (TP X pins σ Q) X.xe s
def PW.pt{X:Cx}{e:Expr}{t:TT}(h:PW X e t):PT X e t:=h _
def PA(X:Cx)(es:List Expr)(t:TA):Prop:=
 ∀(pos:Pos) (pins:List (Addr×Obj)) (s:Shared) (σ:St) (H:Hp) (Q:List V->Hp->Prop),Inv X pins σ H s->t σ H Q->wpAny (model X.prog X.w) X.A (spliced (backTo pos (starEach es X.env))) (AP X pins σ Q) X.xe s
def PS(X:Cx)(st:Stmt)(t:TS):Prop:=
 ∀(pins:List (Addr×Obj)) (s:Shared) (σ:St) (H:Hp) (D:Ends),Inv X pins σ H s->t D σ H->wpAny (model X.prog X.w) X.A (exec st X.env) (SP X pins D) X.xe s
def fC(X:Cx)(st:List Stmt)(t:TS):Prop:=
 ∀(pins:List (Addr×Obj)) (s:Shared) (σ:St) (H:Hp) (D:Ends),Inv X pins σ H s->t D σ H->wpAny (model X.prog X.w) X.A (execs st X.env) (SP X pins D) X.xe s
def Ŏ{α:Type}{t:Sem α}{Q Q':α->Shared->Prop}{M:Model}{A:Around}{E:Value->Shared->Prop}{s:Shared}(h:wpAny M A t Q E s)(hQ:∀a s,Q a s->Q' a s):wpAny M A t Q' E s:=wpAny_mono h hQ λ_ _ x=>x
end L2
namespace L2
open PySem PySem.Spec PyProof.Rows
section
variable{X:Cx}
def eZ(i:Nat):TE:=λσ H Q=>∃v,σ[i]?=some (some v)/\Q v H
def tC(v:V):TE:=λ_ H Q=>Q v H
def dB{i:Nat}{x:Str}{pos:Pos}(hN:X.N[i]?=some x)(hv:Aj X.env.scope x)(hd:(x== ("__debug__" :Str))=false:=by decide)(hcd:(x== ("__classdict__" :Str))=false:=by decide):PE X (.Name x pos) (eZ i):=by
 intro pins s σ H Q I h
 obtain⟨v,e,h⟩:=h
 obtain⟨m,hn,hl⟩:=I.loc
 obtain⟨u,r,l⟩:=hl i x v hN e hv
 have fin:EP X pins σ Q u s:=⟨v,H,I,r,h⟩
 rcases l with⟨hk,hm⟩|⟨hk,c,hc,hcell⟩
 ·exact wpAny_Name (wpAny_loadName_local I.ok.kind hk hn hm fin) hd
 ·rcases hk with hk|hk
  ·exact wpAny_Name (wpAny_loadName_cell I.ok.kind hk hc hcell fin) hd
  ·exact wpAny_Name (wpAny_loadName_free I.ok.kind hk hc hcell fin hcd) hd
def fG{i j pos}:PE X (.Constant (.int i) j pos) (tC (.int i)):=λ_ _ _ H _ I h=>wpAny_Constant_int ⟨.int i,H,I.tok _,⟨_,rfl⟩,h⟩
def Zac{b j pos}:PE X (.Constant (.bool b) j pos) (tC (.bl b)):=λ_ _ _ H _ I h=>Constant_bool ⟨.bl b,H,I,rfl,h⟩
def xZ{j pos}:PE X (.Constant .none j pos) (tC .non):=λ_ _ _ H _ I h=>Constant_none ⟨.non,H,I,rfl,h⟩
def yc{x j pos}:PE X (.Constant (.str x) j pos) (tC (.str x)):=λ_ _ _ H _ I h=>Calls.Constant_str ⟨.str x,H,I.tok _,⟨_,rfl⟩,h⟩
def Gl(X:Cx)(x:Str):Prop:=X.env.kindOf x=some .globalImplicit
def mK{E:Value->Shared->Prop}{pins:List (Addr×Obj)}{s:Shared}{σ:St}{H:Hp}{x:Str}{u:Value}{pos:Pos}{Q:Value->Shared->Prop}(I:Inv X pins σ H s)(hg:Gl X x)(hm:X.mg x=some u)(h:Q u s)
 (hd:(x== ("__debug__" :Str))=false:=by decide):wpAny (model X.prog X.w) X.A (eval (.Name x pos) X.env) Q E s:=
 Calls.Name_function_global I.ok.kind hg (Calls.loadGlobal_global (by rw[I.ok.glob];exact I.mod.glob.keeps I.bk) hm h) hd
def nC{E:Value->Shared->Prop}{pins:List (Addr×Obj)}{s:Shared}{σ:St}{H:Hp}{x:Str}{u:Value}{pos:Pos}{Q:Value->Shared->Prop}(I:Inv X pins σ H s)(hg:Gl X x)(hm:X.mg x=none)(hv:bootBuiltins x=some u)(h:Q u s)
 (hn:x≠ "__name__" := by decide)(hd:(x== ("__debug__" :Str))=false:=by decide):wpAny (model X.prog X.w) X.A (eval (.Name x pos) X.env) Q E s:=by
 obtain⟨mb,h1,h2⟩:=I.mod.blt
 exact Calls.Name_function_global I.ok.kind hg (Calls.loadGlobal_builtin (by rw[I.ok.glob];exact I.mod.glob.keeps I.bk) hm (by rw[I.ok.blt];exact h1.keeps I.bk) ((h2 x hn).trans hv) h) hd
def mL{x:Str}{v:V}{u:Value}{pos:Pos}(hg:Gl X x)(hm:X.mg x=some u)(r:RelV v u)(hd:(x== ("__debug__" :Str))=false:=by decide):PE X (.Name x pos) (tC v):=
 λ_ _ _ H _ I h=>mK I hg hm ⟨v,H,I,r,h⟩ hd
def mO{x:Str}{v:V}{u:Value}{pos:Pos}(hg:Gl X x)(hm:X.mg x=none)(hv:bootBuiltins x=some u)(r:RelV v u)(hn:x≠ "__name__" := by decide)(hd:(x== ("__debug__" :Str))=false:=by decide):PE X (.Name x pos) (tC v):=
 λ_ _ _ H _ I h=>nC I hg hm hv ⟨v,H,I,r,h⟩ hn hd
variable{a b:Expr}{ta tb:TE}{pos:Pos}
variable{tA tB':TT}{rest:List Expr}
def ZcJ(t u:TT):TT:=λσ H Q=>t σ H λc H1=>if c=true then u σ H1 Q else Q false H1
def tOr(t u:TT):TT:=λσ H Q=>t σ H λc H1=>if c=true then Q true H1 else u σ H1 Q
def ZcK(t:TT):TT:=λσ H Q=>t σ H λc H1=>Q (!c) H1
def JF(ha:PT X a tA):PW X (.BoolOp .And [a] pos) tA:=by
 intro wh pins s σ H Q I h
 refine isTrue_and (Ŏ (ha pins s σ H Q I h) λc s1 e=>?_)
 cases c with
 |true=>exact isTrue_and_nil e
 |false=>exact e
def Ux(ha:PT X a tA):PW X (.BoolOp .Or [a] pos) tA:=by
 intro wh pins s σ H Q I h
 refine isTrue_or (Ŏ (ha pins s σ H Q I h) λc s1 e=>?_)
 cases c with
 |false=>exact isTrue_or_nil e
 |true=>exact e
def Uy(ha:PT X a tA)(hb:PW X (.BoolOp .And (b::rest) pos) tB'):PW X (.BoolOp .And (a::b::rest) pos) (ZcJ tA tB'):=by
 intro wh pins s σ H Q I h
 refine isTrue_and (Ŏ (ha pins s σ H _ I h) λc s1 ⟨H1,I1,q1⟩=>?_)
 cases c with
 |true=>exact hb wh pins s1 σ H1 Q I1 q1
 |false=>exact⟨H1,I1,q1⟩
def Mw(ha:PT X a tA)(hb:PW X (.BoolOp .Or (b::rest) pos) tB'):PW X (.BoolOp .Or (a::b::rest) pos) (tOr tA tB'):=by
 intro wh pins s σ H Q I h
 refine isTrue_or (Ŏ (ha pins s σ H _ I h) λc s1 ⟨H1,I1,q1⟩=>?_)
 cases c with
 |true=>exact⟨H1,I1,q1⟩
 |false=>exact hb wh pins s1 σ H1 Q I1 q1
def Uz(ha:PT X a tA):PT X (.UnaryOp .Not a pos) (ZcK tA):=by
 intro pins s σ H Q I h
 exact isTrue_not (ha pins s σ H (λc H1=>Q (!c) H1) I h)
def UG{op}{t:TE}(h:PE X a t):PE X (.BoolOp op [a] pos) t:=λpins s σ H Q I hw=>BoolOp_one (h pins s σ H Q I hw)
end
end L2
namespace L2
open PySem PySem.Spec PyProof.Rows
def Ř(K:PySem.W.Frag)(H:Hp)(a:Addr)(xs:List V):Prop:=
 Rd H a (.lst xs)\/
  ∃(o:Obj) (its:Array Value) (n:Nat),K.lookup a=some o/\o.cls=.type "list" /\o.dict=none/\o.data=.seq its n/\its.size<=sizeLine/\Vals xs its.toList
def bW(K:PySem.W.Frag)(H:Hp)(a:Addr)(xs:List V):Prop:=
 Rd H a (.tup xs)\/
  ∃(o:Obj) (its:Array Value) (n:Nat),K.lookup a=some o/\o.cls=.type "tuple" /\o.data=.seq its n/\its.size<=sizeLine/\Vals xs its.toList
def ZcL:Value->Option V
 | .none=>some .non
 | .bool b=>some (.bl b)
 | .int i _=>some (.int i)
 | .str x _=>some (.str x)
 | .bytes b _=>some (.Mu b)
 | .float b _=>some (.flt b)
 | .ref a=>some (.ref a)
 | .type n=>some (.ty n)
 |_=>none
def RelV.abs{x:V}{u:Value}(r:RelV x u):ZcL u=some x:=by
 cases x with
 |non=>cases r;rfl
 |bl _=>cases r;rfl
 |int _=>obtain⟨t,rfl⟩:=r;rfl
 |str _=>obtain⟨t,rfl⟩:=r;rfl
 |Mu _=>obtain⟨t,rfl⟩:=r;rfl
 |flt _=>obtain⟨t,rfl⟩:=r;rfl
 |ref _=>cases r;rfl
 |ty _=>cases r;rfl
theorem RelV.inj{x y:V}{u:Value}(r:RelV x u)(q:RelV y u):x=y:=Option.some.inj (r.abs.symm.trans q.abs)
theorem Vals.inj:∀{xs ys:List V} {us:List Value},Vals xs us->Vals ys us->xs=ys
 |_,_,_,.nil,.nil=>rfl
 |_,_,_,.cons r t,.cons r' t'=>by rw[r.inj r',Vals.inj t t']
section
variable{X:Cx}{pins:List (Addr×Obj)}{σ:St}{H:Hp}{s:Shared}{a:Addr}{xs ys:List V}
def Ř.of{K:PySem.W.Frag}(h:H a=some (.lst xs)):Ř K H a xs:=.inl (.inl h)
def bW.of{K:PySem.W.Frag}(h:H a=some (.tup xs)):bW K H a xs:=.inl (.inl h)
def Inv.list(I:Inv X pins σ H s)(h:Ř X.K H a xs):∃its:List Value,Vals xs its/\PlainL s.heap a its.toArray/\xs.length<=sizeLine:=by
 rcases h with h|⟨o,its,n,hk,hc,hd,hs,hz,r⟩
 ·obtain⟨z,its,n,r,e⟩:=h.ok I.hok
  exact⟨its,r,⟨_,n,e,rfl,rfl,rfl⟩,z⟩
 ·refine⟨its.toList,r,⟨o,n,I.jM a o hk,hc,hd,by simpa using hs⟩,?_⟩
  have e:=r.length
  simp only[Array.length_toList] at e
  omega
def Inv.tuple(I:Inv X pins σ H s)(h:bW X.K H a xs):∃its:List Value,Vals xs its/\IsTup s.heap a its.toArray/\xs.length<=sizeLine:=by
 rcases h with h|⟨o,its,n,hk,hc,hs,hz,r⟩
 ·obtain⟨z,its,r,p⟩:=h.ok I.hok
  exact⟨its,r,p,z⟩
 ·refine⟨its.toList,r,⟨o,I.jM a o hk,hc,n,by simpa using hs⟩,?_⟩
  have e:=r.length
  simp only[Array.length_toList] at e
  omega
def Inv.vL(I:Inv X pins σ H s)(h:Ř X.K H a xs)(h':Ř X.K H a ys):xs=ys:=by
 obtain⟨its,r,⟨o,n,e,_,_,d⟩,_⟩:=I.list h
 obtain⟨its',r',⟨o',n',e',_,_,d'⟩,_⟩:=I.list h'
 rw[e] at e';cases e'
 rw[d] at d'
 injection d' with d1 _
 have:its=its':=by simpa using congrArg Array.toList d1
 subst this
 exact r.inj r'
def Inv.qK(I:Inv X pins σ H s)(h:bW X.K H a xs)(h':bW X.K H a ys):xs=ys:=by
 obtain⟨its,r,⟨o,e,_,n,d⟩,_⟩:=I.tuple h
 obtain⟨its',r',⟨o',e',_,n',d'⟩,_⟩:=I.tuple h'
 rw[e] at e';cases e'
 rw[d] at d'
 injection d' with d1 _
 have:its=its':=by simpa using congrArg Array.toList d1
 subst this
 exact r.inj r'
end
abbrev Cx.wish(X:Cx)(E:Value->Shared->Prop):Cx:={X with xe:=E}
abbrev Cx.ō(X:Cx):Cx:=X.wish λ_ _=>False
theorem Cx.Ok.wish{X:Cx}(ok:X.Ok)(E:Value->Shared->Prop):(X.wish E).Ok:=
 ⟨ok.mod,ok.kind,ok.glob,ok.blt,ok.above,ok.inj,ok.has,ok.cab,ok.hd,ok.frames,ok.stk,ok.exf,ok.bs,ok.JC,ok.Ce,ok.JD,ok.lW,ok.Uv,ok.tb⟩
def Cx.Ok.dD{X:Cx}{E:Value->Shared->Prop}(ok:(X.wish E).Ok):X.Ok:=
 ⟨ok.mod,ok.kind,ok.glob,ok.blt,ok.above,ok.inj,ok.has,ok.cab,ok.hd,ok.frames,ok.stk,ok.exf,ok.bs,ok.JC,ok.Ce,ok.JD,ok.lW,ok.Uv,ok.tb⟩
section
variable{X:Cx}{pins:List (Addr×Obj)}{σ:St}{H:Hp}{s:Shared}{E:Value->Shared->Prop}
theorem Inv.wish(I:Inv X pins σ H s)(E:Value->Shared->Prop):Inv (X.wish E) pins σ H s:=⟨I.ok.wish E,I.os,I.bare,I.base,I.loc,I.cell,I.free,I.g_,I.pin,I.hok,I.len⟩
theorem Inv.dD(I:Inv (X.wish E) pins σ H s):Inv X pins σ H s:=⟨I.ok.dD,I.os,I.bare,I.base,I.loc,I.cell,I.free,I.g_,I.pin,I.hok,I.len⟩
theorem SP.dD{D:Ends}{f:Flow}{s':Shared}(h:SP (X.wish E) pins D f s'):SP X pins D f s':=by
 cases f with
 |next=>obtain⟨σ',H',I,q⟩:=h;exact⟨σ',H',I.dD,q⟩
 |brk=>obtain⟨σ',H',I,q⟩:=h;exact⟨σ',H',I.dD,q⟩
 |cont=>obtain⟨σ',H',I,q⟩:=h;exact⟨σ',H',I.dD,q⟩
 |ret u=>obtain⟨v,σ',H',I,r,q⟩:=h;exact⟨v,σ',H',I.dD,r,q⟩
theorem PE.ō{e:Expr}{t:TE}(h:PE X.ō e t):PE X e t:=λpins s σ H Q I hw=>
 wpAny_mono (h pins s σ H Q (I.wish _) hw) (λ_ _ ⟨v,H',I',r,q⟩=>⟨v,H',I'.dD,r,q⟩) λ_ _ z=>False.elim z
end
section
variable{X:Cx}{st:Stmt}{rest:List Stmt}{t u:TS}{e:Expr}{te:TE}{pos:Pos}
def Zad:TS:=λD σ H=>D.nx σ H
def ZcM(t u:TS):TS:=λD σ H=>t {D with nx:=u D} σ H
def Am:fC X [] Zad:=λ_ _ σ H _ I h=>wpAny_execs_nil ⟨σ,H,I,h⟩
def aO(h1:PS X st t)(h2:fC X rest u):fC X (st::rest) (ZcM t u):=by
 intro pins s σ H D I h
 refine wpAny_execs_cons (Ŏ (h1 pins s σ H {D with nx:=u D} I h) λf s1 q=>?_)
 cases f with
 |next=>
  obtain⟨σ',H',I',q⟩:=q
  exact h2 pins s1 σ' H' D I' q
 |ret v=>exact q
 |brk=>exact q
 |cont=>exact q
def JG(h1:PS X st t):fC X [st] t:=by
 intro pins s σ H D I h
 refine wpAny_execs_cons (Ŏ (h1 pins s σ H D I h) λf s1 q=>?_)
 cases f with
 |next=>exact wpAny_execs_nil q
 |ret v=>exact q
 |brk=>exact q
 |cont=>exact q
def Inv.quiet{pins:List (Addr×Obj)}{σ:St}{H:Hp}{s:Shared}(I:Inv X pins σ H s):interactive X.env=false:=by simp[interactive,I.ok.kind]
def qL(te:TE):TS:=λD σ H=>te σ H λ_ H1=>D.nx σ H1
def bx(he:PE X e te)(hs:swapsWith e none pos.line X.env=pure false:=by rfl):PS X (.Expr e pos) (qL te):=by
 intro pins s σ H D I h
 exact wpAny_Expr_any (Ŏ (he pins s σ H _ I h) λv s1 ⟨x,H1,I1,r1,q1⟩=>⟨σ,H1,I1,q1⟩) I.quiet hs
def ZcN(te:TE):TS:=λD σ H=>te σ H D.rt
def UJ(he:PE X e te):PS X (.Return (some e) pos) (ZcN te):=by
 intro pins s σ H D I h
 exact wpAny_Return_some (Ŏ (he pins s σ H _ I h) λv s1 ⟨x,H1,I1,r1,q1⟩=>⟨x,σ,H1,I1,r1,q1⟩)
def ZcO(c:TT)(t u:TS):TS:=λD σ H=>c σ H λb H1=>if b=true then t D σ H1 else u D σ H1
def Mx{c:Expr}{a b:List Stmt}{tc:TT}(hc:PT X c tc)(ha:fC X a t)(hb:fC X b u):PS X (.If c a b pos) (ZcO tc t u):=by
 intro pins s σ H D I h
 refine wpAny_If (Ŏ (hc pins s σ H _ I h) λd s1 ⟨H1,I1,q1⟩=>?_)
 cases d with
 |true=>exact ha pins s1 σ H1 D I1 q1
 |false=>exact hb pins s1 σ H1 D I1 q1
def UL:TS:=λ_ _ _=>False
def DK:PS X st UL:=λ_ _ _ _ _ _ h=>h.elim
end
abbrev TG:=V->St->Hp->(St->Hp->Prop)->Prop
abbrev DN:=List V->St->Hp->(St->Hp->Prop)->Prop
def PG(X:Cx)(target:Expr)(t:TG):Prop:=
 ∀(pins:List (Addr×Obj)) (s:Shared) (σ:St) (H:Hp) (v:V) (u:Value) (Q:St->Hp->Prop),Inv X pins σ H s->RelV v u->t v σ H Q->
  wpAny (model X.prog X.w) X.A (assign target X.env u) (λ_ s'=>∃σ' H',Inv X pins σ' H' s'/\Q σ' H') X.xe s
def xV(X:Cx)(ts:List Expr)(t:DN):Prop:=
 ∀(pins:List (Addr×Obj)) (s:Shared) (σ:St) (H:Hp) (vs:List V) (us:List Value) (Q:St->Hp->Prop),Inv X pins σ H s->Vals vs us->t vs σ H Q->
  wpAny (model X.prog X.w) X.A (assignInOrder ((assignEach ts X.env).map (·.2)) us) (λ_ s'=>∃σ' H',Inv X pins σ' H' s'/\Q σ' H') X.xe s
abbrev UW:=V->V->V->Hp->(Hp->Prop)->Prop
def Zae(X:Cx)(t:UW):Prop:=
 ∀(pins:List (Addr×Obj)) (s:Shared) (σ:St) (H:Hp) (o i v:V) (ov iv u:Value) (Q:Hp->Prop),Inv X pins σ H s->RelV o ov->RelV i iv->RelV v u->t o i v H Q->
  wpAny (model X.prog X.w) X.A (setItem ov iv u) (λ_ s'=>∃H',Inv X pins σ H' s'/\Q H') X.xe s
abbrev TIp:=V->V->Hp->VK->Prop
def PIp(X:Cx)(op:Operator)(t:TIp):Prop:=
 ∀(pins:List (Addr×Obj)) (s:Shared) (σ:St) (H:Hp) (x y:V) (v u:Value) (Q:VK),Inv X pins σ H s->RelV x v->RelV y u->t x y H Q->
  wpAny (model X.prog X.w) X.A (inplaceOp op v u) (EP X pins σ Q) X.xe s
section
variable{X:Cx}{pos:Pos}
def qM(i:Nat):TG:=λv σ H Q=>Q (σ.set i (some v)) H
def mQ{i:Nat}{x:Str}(hN:X.N.Nodup)(hi:X.N[i]?=some x)(hx:Loc X.env.scope x)(hf:X.fn x=true\/X.env.scope.names.lookup x=some .local:=by first|exact .inl rfl|exact .inr rfl|assumption):PG X (.Name x pos) (qM i):=by
 intro pins s σ H v u Q I r h
 exact wpAny_assign_Name (nA I hN hi hx r (λs' I'=>⟨_,H,I',h⟩) hf)
def ZcP:DN:=λvs σ H Q=>vs=[]/\Q σ H
def Zaf(t:TG)(u:DN):DN:=λvs σ H Q=>∃v r,vs=v::r/\t v σ H λσ' H'=>u r σ' H' Q
def Ao:xV X [] ZcP:=by
 intro pins s σ H vs us Q I r h
 obtain⟨e,h⟩:=h
 subst e
 cases r
 exact assignInOrder_nil ⟨σ,H,I,h⟩
def je{e:Expr}{es:List Expr}{t:TG}{u:DN}(h1:PG X e t)(h2:xV X es u)
 (hs:(assignEach (e::es) X.env).map (·.2)=assign e X.env::(assignEach es X.env).map (·.2):=by rfl):xV X (e::es) (Zaf t u):=by
 intro pins s σ H vs us Q I r h
 obtain⟨v,vr,e1,h⟩:=h
 subst e1
 cases r with
 |cons r rr=>
  rw[hs]
  refine assignInOrder_cons (Ŏ (h1 pins s σ H _ _ _ I r h) λ_ s1 ⟨σ1,H1,I1,q1⟩=>?_)
  exact h2 pins s1 σ1 H1 _ _ Q I1 rr q1
def ZcQ(K:PySem.W.Frag)(n:Nat)(t:DN):TG:=λv σ H Q=>∃a xs,v=.ref a/\bW K H a xs/\xs.length=n/\t xs σ H Q
def yg{es:List Expr}{k:Nat}{t:DN}{n:Nat}(hc:X.calm=true)(h:xV X es t)
 (hn:(assignEach es X.env).length=n:=by rfl)(hst:(assignEach es X.env).findIdx? (·.1)=none:=by rfl):PG X (.Tuple es k pos) (ZcQ X.K n t):=by
 intro pins s σ H v u Q I r hw
 obtain⟨a,xs,e1,hq,hl,hw⟩:=hw
 subst e1
 cases r
 obtain⟨its,rv,ht,hz⟩:=I.tuple hq
 refine assign_Tuple_tuple (I.ok.hd hc) ht (by simp[hn,<-hl,rv.length]) hst λh' hx=>?_
 have I1:Inv X pins σ H {s with heap:=h'}:=I.kept (t':=s.toks) λb o e=>hx b o (Nat.ne_of_lt (Heap.lt_size e)) e
 exact h pins _ σ H xs _ Q I1 (by simpa using rv) hw
def ZcR(to ti:TE)(t:UW):TG:=λv σ H Q=>to σ H λo H1=>ti σ H1 λi H2=>t o i v H2 λH3=>Q σ H3
def U_{o i:Expr}{to ti:TE}{t:UW}(ho:PE X o to)(hi:PE X i ti)(hs:Zae X t)
 (ha:∀v,assign (.Subscript o i pos) X.env v=(do
   let ov <-holding [v] (eval o X.env)
   let iv <-holding [v,ov] (eval i X.env)
   standAt pos
   holding [v,ov,iv] (setItem ov iv v)
   release [v,ov,iv] []):=by intro _;rfl):PG X (.Subscript o i pos) (ZcR to ti t):=by
 intro pins s σ H v u Q I r h
 rw[ha]
 refine wpAny_bind (wpAny_holding (Ŏ (ho pins s σ H _ I h) λov s1 ⟨x,H1,I1,r1,q1⟩=>?_))
 refine wpAny_bind (wpAny_holding (Ŏ (hi pins s1 σ H1 _ I1 q1) λiv s2 ⟨y,H2,I2,r2,q2⟩=>?_))
 refine wpAny_bind (wpAny_standAt (wpAny_bind (wpAny_holding (Ŏ (hs pins s2 σ H2 x y v ov iv u _ I2 r1 r2 r q2) λ_ s3 ⟨H3,I3,q3⟩=>?_))))
 exact wpAny_release ⟨σ,H3,I3,q3⟩
def DP(te:TE)(g:TG):TS:=λD σ H=>te σ H λx H1=>g x σ H1 D.nx
def DQ{tg e:Expr}{te:TE}{g:TG}(he:PE X e te)(hg:PG X tg g)(hs:swapsWithSole [tg] e pos.line X.env=pure false:=by rfl)(hw:swappedStores [tg] e X.env=pure none:=by rfl)
 (h1:(assignEach [tg] X.env).map (·.2)=[assign tg X.env]:=by rfl):PS X (.Assign [tg] e pos) (DP te g):=by
 intro pins s σ H D I h
 refine wpAny_Assign_stores (Ŏ (he pins s σ H _ I h) λv s1 ⟨x,H1,I1,r1,q1⟩=>?_) hs hw
 rw[h1]
 exact Ŏ (hg pins s1 σ H1 x v _ I1 r1 q1) λ_ s2 q=>q
def sS{i:Nat}{x:Str}{e:Expr}{te:TE}{pos':Pos}(hN:X.N.Nodup)(hi:X.N[i]?=some x)(hx:Loc X.env.scope x)(he:PE X e te)(hs:swapsWith e (some (.Name x pos')) pos.line X.env=pure false:=by rfl)(hf:X.fn x=true\/X.env.scope.names.lookup x=some .local:=by first|exact .inl rfl|exact .inr rfl|assumption) :
 PS X (.Assign [.Name x pos'] e pos) (DP te (qM i)):=by
 intro pins s σ H D I h
 refine wpAny_Assign_Name (Ŏ (he pins s σ H _ I h) λv s1 ⟨y,H1,I1,r1,q1⟩=>?_) hs
 exact nA I1 hN hi hx r1 (λs2 I2=>⟨_,H1,I2,q1⟩) hf
def ZcS(i:Nat)(te:TE)(ti:TIp):TS:=λD σ H=>∃x,σ[i]?=some (some x)/\te σ H λy H1=>ti x y H1 λz H2=>D.nx (σ.set i (some z)) H2
def Va{i:Nat}{x:Str}{e:Expr}{te:TE}{op:Operator}{ti:TIp}{pos':Pos}(hN:X.N.Nodup)(hi:X.N[i]?=some x)(hx:Loc X.env.scope x)(he:PE X e te)(ho:PIp X op ti)(hf:X.fn x=true\/X.env.scope.names.lookup x=some .local:=by first|exact .inl rfl|exact .inr rfl|assumption) :
 PS X (.AugAssign (.Name x pos') op e pos) (ZcS i te ti):=by
 intro pins s σ H D I h
 obtain⟨v,e1,h⟩:=h
 obtain⟨m,hn,hl⟩:=I.loc
 have vis:Aj X.env.scope x:=by rcases hx with k|k;exact .inl k;exact .inr (.inl k)
 obtain⟨u,r,l⟩:=hl i x v hi e1 vis
 refine wpAny_AugAssign_Name ?_
 have go:wpAny (model X.prog X.w) X.A (eval e X.env) (λw s₂=>wpAny (model X.prog X.w) X.A (inplaceOp op u w) (λr s₃=>wpAny (model X.prog X.w) X.A (storeName X.env x r) (λ_=>SP X pins D .next) X.xe s₃) X.xe s₂) X.xe s:=by
  refine Ŏ (he pins s σ H _ I h) λw s1 ⟨y,H1,I1,r1,q1⟩=>?_
  refine Ŏ (ho pins s1 σ H1 v y u w _ I1 r r1 q1) λz s2 ⟨zv,H2,I2,r2,q2⟩=>?_
  exact nA I2 hN hi hx r2 (λs3 I3=>⟨_,H2,I3,q2⟩) hf
 rcases l with⟨hk,hm⟩|⟨hk,c,hc,hcell⟩
 ·exact wpAny_loadName_local I.ok.kind hk hn hm go
 ·rcases hk with hk|hk
  ·exact wpAny_loadName_cell I.ok.kind hk hc hcell go
  ·rcases hx with k|k
   ·have:X.env.scope.names.lookup x=some .free:=hk
    rw[k] at this;cases this
   ·have:X.env.scope.names.lookup x=some .free:=hk
    rw[k] at this;cases this
def ipI(f:Int->Int->Int):TIp:=λx y H Q=>∃i j,x=.int i/\y=.int j/\Q (.int (f i j)) H
end
section
variable{X:Cx}{pos:Pos}
def Vb(c:TT)(tb:TS):TS:=λD σ H=>∃W:Nat->St->Hp->Prop,(∃m,W m σ H)/\∀m σ H,W m σ H->
 c σ H λb H1=>if b=true then ∃N:St->Hp->Prop,(∀σ' H',N σ' H'->∃m',m'<m/\W m' σ' H')/\tb {D with nx:=N,ct:=N,bk:=D.nx} σ H1 else D.nx σ H1
def DR{c:Expr}{body:List Stmt}{tc:TT}{tb:TS}(hp:PassesOwn (model X.prog X.w) X.A X.env X.xe)(hc:PT X c tc)(hb:fC X body tb):PS X (.While c body [] pos) (Vb tc tb):=by
 intro pins s σ H D I h
 obtain⟨W,⟨m0,w0⟩,turn⟩:=h
 refine wpAny_While (codeAny_whileLoop (λn s'=>∃σ' H',Inv X pins σ' H' s'/\W n σ' H') ?_ m0 ⟨σ,H,I,w0⟩)
 rintro n s1 ⟨σ1,H1,I1,w1⟩
 refine wpAny_passesOwn hp (Ŏ (hc pins s1 σ1 H1 _ I1 (turn n σ1 H1 w1)) λb s2 ⟨H2,I2,q2⟩=>?_)
 cases b with
 |true=>
  obtain⟨N,hN,q2⟩:=q2
  rw[if_pos rfl]
  refine wpAny_passesOwn hp (Ŏ (hb pins s2 σ1 H2 _ I2 q2) λf s3 q3=>?_)
  cases f with
  |next=>
   obtain⟨σ3,H3,I3,n3⟩:=q3
   obtain⟨m',hm,w3⟩:=hN σ3 H3 n3
   exact⟨m',hm,σ3,H3,I3,w3⟩
  |cont=>
   obtain⟨σ3,H3,I3,n3⟩:=q3
   obtain⟨m',hm,w3⟩:=hN σ3 H3 n3
   exact⟨m',hm,σ3,H3,I3,w3⟩
  |brk=>exact q3
  |ret v=>exact q3
 |false=>
  rw[if_neg Bool.false_ne_true]
  exact wpAny_execs_nil ⟨σ1,H2,I2,q2⟩
end
structure It where
 go:Nat->Hp->Prop
 yld:Nat->Hp->V->Hp->Prop
 stop:Nat->Hp->Prop
def fH(X:Cx)(pins:List (Addr×Obj))(H:Hp)(b:Addr):Prop:=
 H b=none/\b≠X.env.locals/\b∉X.fs/\(b∈X.ex\/X.s₀.heap.objs.size<=b)/\(∀x c,X.env.cells.lookup x=some c->c≠b)/\∀p∈X.pn++pins,p.1≠b
def Inv.DW{X:Cx}{pins:List (Addr×Obj)}{σ:St}{H H':Hp}{s:Shared}{b:Addr}(I:Inv X pins σ H s)(hb:s.heap.objs.size<=b)(hn:H' b=none):fH X pins H' b:=by
 refine⟨hn,Nat.ne_of_gt (Nat.lt_of_lt_of_le I.lt hb),I.ZcH hb,.inr (Nat.le_trans I.sz hb),λx c e z=>?_,λp hp z=>?_⟩
 ·obtain⟨v,q⟩:=I.cell x c e
  exact absurd (Nat.lt_of_lt_of_le q.lt (by rw[z];exact hb)) (Nat.lt_irrefl _)
 ·exact absurd (Nat.lt_of_lt_of_le (Heap.lt_size (I.pin p hp).1) (by rw[z];exact hb)) (Nat.lt_irrefl _)
structure Turn(P:Program)(w:World)(K:PySem.W.Frag)(tg:Expr)(J:It)(fp:List Addr)(it:Addr)(tn:Nat->Heap->Prop):Prop where
 mem:it∈fp
 obj:∀i h,tn i h->∀b∈fp,∃o,h.get? b=some o/\∀v,o.data≠ .cell v
 keep:∀i h h',tn i h->(∀b∈fp,∀o,h.get? b=some o->h'.get? b=some o)->tn i h'
 item:∀(X:Cx),X.prog=P->X.w=w->X.K=K->X.calm=true->∀(i:Nat) (pins:List (Addr×Obj)) (s:Shared) (σ:St) (H:Hp) (E:Value->Shared->Prop),Inv X pins σ H s->(∀b∈fp,fH X pins H b)->tn i s.heap->J.go i H->
  wpAny (model P w) X.A (pyNext (.ref it)) (λr s1=>∃u,r=some u/\
   wpAny (model P w) X.A (letOwnedTupleGo tg (.ref it) u) (λ_ s2=>∃x H',Inv X pins σ H' s2/\RelV x u/\J.yld i H x H'/\tn (i+1) s2.heap/\∀b∈fp,H' b=none) E s1) E s
 done:∀(X:Cx),X.prog=P->X.w=w->X.K=K->X.calm=true->∀(i:Nat) (pins:List (Addr×Obj)) (s:Shared) (σ:St) (H:Hp) (E:Value->Shared->Prop),Inv X pins σ H s->(∀b∈fp,fH X pins H b)->tn i s.heap->J.stop i H->
  wpAny (model P w) X.A (pyNext (.ref it)) (λr s1=>r=none/\Inv X pins σ H s1) E s
 self:∀(A:Around) (i:Nat) (s:Shared) (Q:Value->Shared->Prop) (E:Value->Shared->Prop),tn i s.heap->Q (.ref it) s->wpAny (model P w) A (pyIter (.ref it)) Q E s
abbrev TI:=St->Hp->(It->Hp->Prop)->Prop
def PIE(X:Cx)(pins:List (Addr×Obj))(σ:St)(tg:Expr)(R:It->Hp->Prop)(itv:Value)(s2:Shared):Prop:=
 ∃(it:Addr) (fp:List Addr) (tn:Nat->Heap->Prop) (J:It) (H':Hp),itv=.ref it/\Inv X pins σ H' s2/\Turn X.prog X.w X.K tg J fp it tn/\tn 0 s2.heap/\(∀b∈fp,fH X pins H' b)/\R J H'
def PI(X:Cx)(tg iter:Expr)(wi:TI):Prop:=
 ∀(pins:List (Addr×Obj)) (s:Shared) (σ:St) (H:Hp) (R:It->Hp->Prop),Inv X pins σ H s->wi σ H R->
  wpAny (model X.prog X.w) X.A (eval iter X.env) (λv s1=>wpAny (model X.prog X.w) X.A (pyIter v) (PIE X pins σ tg R) X.xe s1) X.xe s
def Aq{M:Model}{A:Around}{E:Value->Shared->Prop}{s:Shared}{tg:Expr}{it:Addr}{u:Value}{o:Obj}{n:String}{vs:Array Value}{Q:Unit->Shared->Prop}(ho:s.heap.get? it=some o)(hc:o.cls=.type n)(hd:o.data=.fields vs)
 (hn:["enumerate","zip","dict_itemiterator","dict_reverseitemiterator","odict_iterator","itertools.zip_longest","itertools.pairwise"].contains n=false)(hQ:Q () s):wpAny M A (letOwnedTupleGo tg (.ref it) u) Q E s:=by
 unfold letOwnedTupleGo
 cases tg<;>first
  |exact wpAny_pure hQ
  |(cases u<;>first
     |exact wpAny_pure hQ
     |(refine wpAny_bind (wpAny_load ho ?_)
       rw[hc,hd]
       show wpAny M A (if(["enumerate","zip","dict_itemiterator","dict_reverseitemiterator","odict_iterator","itertools.zip_longest","itertools.pairwise"].contains n && vs[0]?== some (rawInt _))=true then _ else _) Q E s
       rw[if_neg (by intro h;rw[hn,Bool.false_and] at h;cases h)]
       exact wpAny_pure hQ))
def YJ(K:PySem.W.Frag)(a:Addr):It:=
 ⟨λi H=>∃xs x,Ř K H a xs/\xs[i]?=some x,λi H x H'=>H'=H/\∀xs,Ř K H a xs->xs[i]?=some x,λi H=>∃xs,Ř K H a xs/\xs.length<=i⟩
def Itt(K:PySem.W.Frag)(a:Addr):It:=
 ⟨λi H=>∃xs x,bW K H a xs/\xs[i]?=some x,λi H x H'=>H'=H/\∀xs,bW K H a xs->xs[i]?=some x,λi H=>∃xs,bW K H a xs/\xs.length<=i⟩
def Itr(lo:Int)(n:Nat):It:=⟨λi _=>i<n,λi H x H'=>H'=H/\x=.int (lo+i),λi _=>n<=i⟩
def Cg{P:Program}{w:World}{K:PySem.W.Frag}{tg:Expr}(a it:Addr):Turn P w K tg (YJ K a) [it] it (λi h=>h.IsListIter it a i) where
 mem:=by simp
 obj:=λi h st b hb=>by
  have e:b=it:=by simpa using hb
  subst e
  obtain⟨o,e,c,d⟩:=st
  exact⟨o,e,λv z=>by rw[d] at z;cases z⟩
 keep:=λi h h' st k=>st.at λo e=>k it (by simp) o e
 item:=by
  intro X hP hw hK hc i pins s σ H E I hf st hg
  subst hP hw hK
  obtain⟨xs,x,hq,hx⟩:=hg
  obtain⟨its,rv,p,hz⟩:=I.list hq
  obtain⟨u,hu,ru⟩:=rv.get hx
  obtain⟨f0,f1,f2,f3,f4,f5⟩:=hf it (by simp)
  refine wpAny_pyNext_list_item st p.isList (x:=u) (by simpa using hu) λh' st' sb=>?_
  have I1:Inv X pins σ H {s with heap:=h'}:=I.turned (t':=s.toks) (λb o hb e=>(sb.2 b hb).trans e) f0 f1 f3 f4 f5
  obtain⟨o,e,c,d⟩:=id st'
  exact⟨u,rfl,Aq (s:={s with heap:=h'}) e c d (by decide) ⟨x,H,I1,ru,⟨rfl,λys hy=>by rw[I.vL hy hq];exact hx⟩,st',λb hb=>(hf b hb).1⟩⟩
 done:=by
  intro X hP hw hK hc i pins s σ H E I hf st hg
  subst hP hw hK
  obtain⟨xs,hq,hx⟩:=hg
  obtain⟨its,rv,p,hz⟩:=I.list hq
  obtain⟨f0,f1,f2,f3,f4,f5⟩:=hf it (by simp)
  have hl:=rv.length
  exact wpAny_pyNext_list_end (I.ok.hd hc) st p.isList (by simp;omega) λh' eb=>⟨rfl,I.turned (t':=s.toks) (λb o hb e=>eb b o hb e) f0 f1 f3 f4 f5⟩
 self:=λ_ _ _ _ _ st h=>wpAny_pyIter_listiter st h
def yj{P:Program}{w:World}{K:PySem.W.Frag}{tg:Expr}(a it:Addr):Turn P w K tg (Itt K a) [it] it (λi h=>h.IsTupleIter it a i) where
 mem:=by simp
 obj:=λi h st b hb=>by
  have e:b=it:=by simpa using hb
  subst e
  obtain⟨o,e,c,d⟩:=st
  exact⟨o,e,λv z=>by rw[d] at z;cases z⟩
 keep:=λi h h' st k=>st.at λo e=>k it (by simp) o e
 item:=by
  intro X hP hw hK hc i pins s σ H E I hf st hg
  subst hP hw hK
  obtain⟨xs,x,hq,hx⟩:=hg
  obtain⟨its,rv,p,hz⟩:=I.tuple hq
  obtain⟨u,hu,ru⟩:=rv.get hx
  obtain⟨f0,f1,f2,f3,f4,f5⟩:=hf it (by simp)
  refine wpAny_pyNext_tuple_item st (show s.heap.IsTuple a its.toArray from p) (x:=u) (by simpa using hu) λh' st' sb=>?_
  have I1:Inv X pins σ H {s with heap:=h'}:=I.turned (t':=s.toks) (λb o hb e=>(sb.2 b hb).trans e) f0 f1 f3 f4 f5
  obtain⟨o,e,c,d⟩:=id st'
  exact⟨u,rfl,Aq (s:={s with heap:=h'}) e c d (by decide) ⟨x,H,I1,ru,⟨rfl,λys hy=>by rw[I.qK hy hq];exact hx⟩,st',λb hb=>(hf b hb).1⟩⟩
 done:=by
  intro X hP hw hK hc i pins s σ H E I hf st hg
  subst hP hw hK
  obtain⟨xs,hq,hx⟩:=hg
  obtain⟨its,rv,p,hz⟩:=I.tuple hq
  obtain⟨f0,f1,f2,f3,f4,f5⟩:=hf it (by simp)
  have hl:=rv.length
  exact wpAny_pyNext_tuple_end (I.ok.hd hc) st (show s.heap.IsTuple a its.toArray from p) (by simp;omega) λh' eb=>⟨rfl,I.turned (t':=s.toks) (λb o hb e=>eb b o hb e) f0 f1 f3 f4 f5⟩
 self:=λ_ _ _ _ _ st h=>wpAny_pyIter_tupleiter st h
def yq{P:Program}{w:World}{K:PySem.W.Frag}{tg:Expr}(it:Addr)(lo:Int)(n:Nat):Turn P w K tg (Itr lo n) [it] it (λi h=>IsRangeIter h it (lo+(i:Nat)*1) ((n:Int)-(i:Nat)) 1) where
 mem:=by simp
 obj:=λi h st b hb=>by
  have e:b=it:=by simpa using hb
  subst e
  exact⟨_,st,λv z=>by
   have z':Data.fields _=Data.cell v:=z
   cases z'⟩
 keep:=λi h h' st k=>k it (by simp) _ st
 item:=by
  intro X hP hw hK hc i pins s σ H E I hf st hg
  subst hP hw hK
  obtain⟨f0,f1,f2,f3,f4,f5⟩:=hf it (by simp)
  have W:=Walks.range (prog:=X.prog) (w:=X.w) (I.ok.hd hc) it lo 1 n
  refine W.item i s _ _ hg st λv h' tk hv st' kk=>?_
  obtain⟨t,rfl⟩:=hv
  have I1:Inv X pins σ H {s with heap:=h',toks:=tk}:=I.turned (λb o hb e=>kk b o (by simpa using hb) e) f0 f1 f3 f4 f5
  refine⟨_,rfl,Aq (s:={s with heap:=h',toks:=tk}) (n:= "range_iterator") st' rfl rfl (by decide) ⟨.int (lo+i),H,I1,⟨t,?_⟩,⟨rfl,rfl⟩,st',λb hb=>(hf b hb).1⟩⟩
  rw[Int.mul_one]
 done:=by
  intro X hP hw hK hc i pins s σ H E I hf st hg
  subst hP hw hK
  obtain⟨f0,f1,f2,f3,f4,f5⟩:=hf it (by simp)
  exact wpAny_pyNext_range_end (I.ok.hd hc) st (by have:n<=i:=hg;omega) λh' eb=>⟨rfl,I.turned (t':=s.toks) (λb o hb e=>eb b o hb e) f0 f1 f3 f4 f5⟩
 self:=λ_ _ _ _ _ st h=>wpAny_pyIter_rangeiter st h
end L2
namespace L2
open PySem PySem.Spec PyProof.Rows
section
variable{X:Cx}{tg:Expr}
def DX{pins:List (Addr×Obj)}{σ:St}{H:Hp}{s:Shared}{R:It->Hp->Prop}{E:Value->Shared->Prop}{lo hi:Int}{t u v:Tok}{tk:Nat}(I:Inv X pins σ H s)(h1: -(2 ^ 62)<=lo)(h2:lo<2 ^ 62)(h3: -(2 ^ 62)<=hi)(h4:hi<2 ^ 62)
 (q:R (Itr lo (hi-lo).toNat) H):wpAny (model X.prog X.w) X.A (pyIter (.ref s.heap.objs.size)) (PIE X pins σ tg R) E {s with heap:=s.heap.push {cls:=.type "range",data:=.fields #[.int lo t,.int hi u,.int 1 v]},toks:=tk}:=by
 refine wpAny_pyIter_range (IsRange.new ..) (small_one h1 h2 h3 h4) ?_
 have I1:Inv X pins σ H {s with heap:=s.heap.push {cls:=.type "range",data:=.fields #[.int lo t,.int hi u,.int 1 v]},toks:=tk}:=I.kept λb o e=>Heap.get?_push_of_some _ e
 refine⟨(s.heap.push {cls:=.type "range",data:=.fields #[.int lo t,.int hi u,.int 1 v]}).objs.size,[(s.heap.push {cls:=.type "range",data:=.fields #[.int lo t,.int hi u,.int 1 v]}).objs.size],_,_,H,rfl,
  I1.kept (t':=tk) λb o e=>Heap.get?_push_of_some _ e,yq _ lo (hi-lo).toNat,?_,λb hb=>?_,q⟩
 ·have e1:lo+((0:Nat):Int)*1=lo:=by simp
  have e2:(((hi-lo).toNat:Nat):Int)-((0:Nat):Int)=Builtin.Range.rangeSize lo hi 1:=by rw[rangeSize_one];split<;>omega
  show IsRangeIter _ _ (lo+((0:Nat):Int)*1) ((((hi-lo).toNat:Nat):Int)-((0:Nat):Int)) 1
  rw[e1,e2]
  exact Heap.get?_push_size _ rfl
 ·have e:b=(s.heap.push {cls:=.type "range",data:=.fields #[.int lo t,.int hi u,.int 1 v]}).objs.size:=by simpa using hb
  subst e
  exact I1.DW (Nat.le_refl _) (I1.hok.fresh (Nat.le_refl _))
def Zag(ta:TA):TI:=λσ H R=>ta σ H λvs H1=>∃j:Int,vs=[.int j]/\ -(2 ^ 62)<=j/\j<2 ^ 62/\R (Itr 0 j.toNat) H1
def Ci{a:Expr}{ta:TA}{p pos:Pos}(hg:Gl X "range")(hm:X.mg "range" =none)(ha:PA X [a] ta)(hs:starEach [a] X.env=[(false,eval a X.env)]:=by rfl):PI X tg (.Call (.Name "range" p) [a] [] pos) (Zag ta):=by
 intro pins s σ H R I h
 refine Call_ (nC I hg hm boot_range (PyProof.Rows.callWith_type1 (Ŏ (ha pos pins s σ H _ I h) λus s1 ⟨vs,H1,I1,r1,q1⟩=>?_) hs rfl))
 obtain⟨j,e,q1,q2,q⟩:=q1
 subst e
 cases r1 with
 |cons r rr=>
  cases rr
  obtain⟨t,rfl⟩:=r
  exact call_range_1 (DX I1 (by omega) (by omega) q1 q2 (by simpa using q))
def ZcT(wi:TI)(g:TG)(tb:TS):TS:=λD σ H=>wi σ H λJ H1=>∃W:Nat->Nat->St->Hp->Prop,(∃m,W 0 m σ H1)/\∀i m σ H,W i m σ H->
 (J.stop i H/\D.nx σ H)\/(J.go i H/\∃N:St->Hp->Prop,(∀σ' H',N σ' H'->∃m',m'<m/\W (i+1) m' σ' H')/\∀x H',J.yld i H x H'->g x σ H' λσ2 H2=>tb {D with nx:=N,ct:=N,bk:=D.nx} σ2 H2)
def jN(fp:List Addr)(h:Heap):List (Addr×Obj):=fp.filterMap λb=>(h.get? b).map λo=>(b,o)
def aD{fp:List Addr}{h:Heap}{b:Addr}{o:Obj}(hb:b∈fp)(e:h.get? b=some o):(b,o)∈jN fp h:=List.mem_filterMap.mpr ⟨b,hb,by rw[e];rfl⟩
def Cj{fp:List Addr}{h:Heap}{p:Addr×Obj}(hp:p∈jN fp h):p.1∈fp/\h.get? p.1=some p.2:=by
 obtain⟨b,hb,e⟩:=List.mem_filterMap.mp hp
 cases q:h.get? b with
 |none=>rw[q] at e;cases e
 |some o=>
  rw[q] at e
  have e':(b,o)=p:=Option.some.inj e
  subst e'
  exact⟨hb,q⟩
def Inv.pinned{pins:List (Addr×Obj)}{σ:St}{H:Hp}{s:Shared}{fp:List Addr}(I:Inv X pins σ H s)(hf:∀b∈fp,fH X pins H b)(ho:∀b∈fp,∃o,s.heap.get? b=some o/\∀v,o.data≠ .cell v):Inv X (pins++jN fp s.heap) σ H s:=
 I.Al fun p hp=>(List.mem_append.mp hp).elim (fun z=>I.pin p (List.mem_append_right _ z)) fun z=>by
   obtain⟨hb,e⟩:=Cj z
   obtain⟨f0,f1,f2,_⟩:=hf p.1 hb
   obtain⟨o,e',d⟩:=ho p.1 hb
   rw[e] at e';cases e'
   exact⟨e,f0,f1,f2,d⟩
def Inv.fJ{pins pl:List (Addr×Obj)}{σ:St}{H:Hp}{s:Shared}(I:Inv X (pins++pl) σ H s):Inv X pins σ H s:=I.Al λp hp=>I.pin p (List.mem_append_right _ (List.mem_append_left _ hp))
def Vc{iter:Expr}{body:List Stmt}{wi:TI}{g:TG}{tb:TS}{pos:Pos}(hp:PassesOwn (model X.prog X.w) X.A X.env X.xe)(hc:X.calm=true)(hi:PI X tg iter wi)(hg:PG X tg g)(hb:fC X body tb)
 (hs:∀x,foldedSetIterable iter X.env x=pure x:=by intro _;rfl):PS X (.For tg iter body [] pos) (ZcT wi g tb):=by
 intro pins s σ H D I h
 refine wpAny_For (Ŏ (hi pins s σ H _ I h) λv s1 h1=>Ŏ h1 λitv s2 h2=>?_) hs
 obtain⟨it,fp,tn,J,H2,e,I2,T,st2,f2,W,⟨m0,w0⟩,turn⟩:=h2
 subst e
 -- what stays true of the iterator's objects through the loop
 have stat:∀{H':Hp},(∀b∈fp,H' b=none)->∀b∈fp,fH X pins H' b:=λhn b hb=>⟨hn b hb,(f2 b hb).2⟩
 refine codeAny_forLoop_any (λn s'=>∃i σ' H',Inv X pins σ' H' s'/\tn i s'.heap/\(∀b∈fp,H' b=none)/\W i n σ' H') ?_ m0 ⟨0,σ,H2,I2,st2,λb hb=>(f2 b hb).1,w0⟩
 rintro n s3 ⟨i,σ3,H3,I3,st3,fr3,w3⟩
 rcases turn i n σ3 H3 w3 with⟨stop,qn⟩|⟨go,N,hN,step⟩
 ·refine wpAny_passesOwn hp (Ŏ (T.done X rfl rfl rfl hc i pins s3 σ3 H3 X.xe I3 (stat fr3) st3 stop) λr s4 ⟨hr,I4⟩=>?_)
  subst hr
  exact wpAny_execs_nil ⟨σ3,H3,I4,qn⟩
 ·refine wpAny_passesOwn hp (Ŏ (T.item X rfl rfl rfl hc i pins s3 σ3 H3 X.xe I3 (stat fr3) st3 go) λr s4 ⟨u,hr,h4⟩=>?_)
  subst hr
  refine wpAny_passesOwn hp (Ŏ h4 λ_ s5 ⟨x,H5,I5,r5,y5,JH,Vd⟩=>?_)
  have I5':=I5.pinned (stat Vd) (T.obj _ _ JH)
  refine wpAny_passesOwn hp (Ŏ (hg _ s5 σ3 H5 x u _ I5' r5 (step x H5 y5)) λ_ s6 ⟨σ6,H6,I6,q6⟩=>?_)
  refine wpAny_passesOwn hp (Ŏ (hb _ s6 σ6 H6 _ I6 q6) λf s7 q7=>?_)
  have again:∀{σ7:St} {H7:Hp},Inv X (pins++jN fp s5.heap) σ7 H7 s7->N σ7 H7->∃m,m<n/\∃i σ' H',Inv X pins σ' H' s7/\tn i s7.heap/\(∀b∈fp,H' b=none)/\W i m σ' H':=fun{σ7 H7} I7 n7=>by
   obtain⟨m',hm,w7⟩:=hN σ7 H7 n7
   refine⟨m',hm,i+1,σ7,H7,I7.fJ,T.keep _ _ _ JH λb hb o e=>(I7.pin (b,o) (List.mem_append_right _ (List.mem_append_right _ (aD hb e)))).1,λb hb=>?_,w7⟩
   obtain⟨o,e,d⟩:=T.obj _ _ JH b hb
   exact(I7.pin (b,o) (List.mem_append_right _ (List.mem_append_right _ (aD hb e)))).2.1
  cases f with
  |next=>obtain⟨σ7,H7,I7,n7⟩:=q7;exact again I7 n7
  |cont=>obtain⟨σ7,H7,I7,n7⟩:=q7;exact again I7 n7
  |brk=>obtain⟨σ7,H7,I7,q7⟩:=q7;exact⟨σ7,H7,I7.fJ,q7⟩
  |ret v=>obtain⟨x7,σ7,H7,I7,r7,q7⟩:=q7;exact⟨x7,σ7,H7,I7.fJ,r7,q7⟩
end
end L2
namespace L2
open PySem PySem.Spec PyProof.Rows
abbrev R2:=V->V->Hp->VK->Prop
def ū(X:Cx)(f:Value->Value->Sem Value)(r:R2):Prop:=
 ∀(pins:List (Addr×Obj)) (s:Shared) (σ:St) (H:Hp) (x y:V) (v u:Value) (Q:VK),Inv X pins σ H s->RelV x v->RelV y u->r x y H Q->
  wpAny (model X.prog X.w) X.A (f v u) (EP X pins σ Q) X.xe s
def JK(X:Cx)(f:Value->Sem Value)(r:V->Hp->VK->Prop):Prop:=
 ∀(pins:List (Addr×Obj)) (s:Shared) (σ:St) (H:Hp) (x:V) (v:Value) (Q:VK),Inv X pins σ H s->RelV x v->r x H Q->
  wpAny (model X.prog X.w) X.A (f v) (EP X pins σ Q) X.xe s
def ņ(X:Cx)(f:Value)(r:List V->Hp->VK->Prop):Prop:=
 ∀(pins:List (Addr×Obj)) (s:Shared) (σ:St) (H:Hp) (xs:List V) (us:List Value) (Q:VK),Inv X pins σ H s->Vals xs us->r xs H Q->
  wpAny (model X.prog X.w) X.A (call f us) (EP X pins σ Q) X.xe s
def ZcU(X:Cx)(r:V->Hp->(Bool->Hp->Prop)->Prop):Prop:=
 ∀(pins:List (Addr×Obj)) (s:Shared) (σ:St) (H:Hp) (x:V) (v:Value) (Q:Bool->Hp->Prop),Inv X pins σ H s->RelV x v->r x H Q->
  wpAny (model X.prog X.w) X.A (truthy v) (TP X pins σ Q) X.xe s
def Dt(r:R2)(ta tb:TE):TE:=λσ H Q=>ta σ H λx H1=>tb σ H1 λy H2=>r x y H2 Q
def tUn(r:V->Hp->VK->Prop)(ta:TE):TE:=λσ H Q=>ta σ H λx H1=>r x H1 Q
def rI(C:Int->Int->Prop)(g:Int->Int->V):R2:=λx y H Q=>∃i j,x=.int i/\y=.int j/\C i j/\Q (g i j) H
def Ju(g:Int->Int->V):R2:=λx y H Q=>∃i j,x=.int i/\y=.int j/\Q (g i j) H
def rU(g:Int->V):V->Hp->VK->Prop:=λx H Q=>∃i,x=.int i/\Q (g i) H
section
variable{X:Cx}{a b c:Expr}{ta tb tc:TE}{pos:Pos}
def Ve(ha:PE X a ta)(hb:PE X b tb){pins:List (Addr×Obj)}{s:Shared}{σ:St}{H:Hp}{R:V->V->Hp->Prop}(I:Inv X pins σ H s)
 (h:ta σ H λx H1=>tb σ H1 λy H2=>R x y H2){Q:Value->Shared->Prop}{f:Value->Value->Sem Value}
 (hf:∀v u s2 x y H2,Inv X pins σ H2 s2->RelV x v->RelV y u->R x y H2->wpAny (model X.prog X.w) X.A (f v u) Q X.xe s2) :
 wpAny (model X.prog X.w) X.A (eval a X.env) (λv s₁=>wpAny (model X.prog X.w) X.A (eval b X.env) (λu s₂=>wpAny (model X.prog X.w) X.A (f v u) Q X.xe s₂) X.xe s₁) X.xe s:=by
 refine Ŏ (ha pins s σ H _ I h) λv s1 ⟨x,H1,I1,r1,q1⟩=>?_
 refine Ŏ (hb pins s1 σ H1 _ I1 q1) λu s2 ⟨y,H2,I2,r2,q2⟩=>?_
 exact hf v u s2 x y H2 I2 r1 r2 q2
def Mz{op:Operator}{r:R2}(ho:ū X (binaryOp op) r)(ha:PE X a ta)(hb:PE X b tb):PE X (.BinOp a op b pos) (Dt r ta tb):=by
 intro pins s σ H Q I h
 exact wpAny_BinOp (Ve ha hb I h λv u s2 x y H2 I2 rx ry q=>ho pins s2 σ H2 x y v u Q I2 rx ry q)
def MJ{op:UnaryOp}{r:V->Hp->VK->Prop}(ho:JK X (unaryOp op) r)(ha:PE X a ta):PE X (.UnaryOp op a pos) (tUn r ta):=by
 intro pins s σ H Q I h
 exact UnaryOp_ (Ŏ (ha pins s σ H _ I h) λv s1 ⟨x,H1,I1,r1,q1⟩=>ho pins s1 σ H1 x v Q I1 r1 q1)
def Du{f:Value->Value->Sem Value}{C:Int->Int->Prop}{g:Int->Int->Int}
 (rule:∀(i j:Int) (t u:Tok) (s:Shared) (Q:Value->Shared->Prop) (E:Value->Shared->Prop),C i j->Q (.int (g i j) s.toks) {s with toks:=s.toks+1}->wpAny (model X.prog X.w) X.A (f (.int i t) (.int j u)) Q E s) :
 ū X f (rI C λi j=>.int (g i j)):=by
 intro pins s σ H x y v u Q I rx ry h
 obtain⟨i,j,rfl,rfl,hc,q⟩:=h
 obtain⟨t,rfl⟩:=rx
 obtain⟨t',rfl⟩:=ry
 exact rule i j t t' s _ _ hc ⟨.int (g i j),H,I.tok _,⟨_,rfl⟩,q⟩
def vM{f:Value->Value->Sem Value}{g:Int->Int->Int}
 (rule:∀(i j:Int) (t u:Tok) (s:Shared) (Q:Value->Shared->Prop) (E:Value->Shared->Prop),Q (.int (g i j) s.toks) {s with toks:=s.toks+1}->wpAny (model X.prog X.w) X.A (f (.int i t) (.int j u)) Q E s) :
 ū X f (Ju λi j=>.int (g i j)):=by
 intro pins s σ H x y v u Q I rx ry h
 obtain⟨i,j,rfl,rfl,q⟩:=h
 obtain⟨t,rfl⟩:=rx
 obtain⟨t',rfl⟩:=ry
 exact rule i j t t' s _ _ ⟨.int (g i j),H,I.tok _,⟨_,rfl⟩,q⟩
def JL{f:Value->Value->Sem Value}{g:Int->Int->Bool}
 (rule:∀(i j:Int) (t u:Tok) (s:Shared) (Q:Value->Shared->Prop) (E:Value->Shared->Prop),Q (.bool (g i j)) s->wpAny (model X.prog X.w) X.A (f (.int i t) (.int j u)) Q E s) :
 ū X f (Ju λi j=>.bl (g i j)):=by
 intro pins s σ H x y v u Q I rx ry h
 obtain⟨i,j,rfl,rfl,q⟩:=h
 obtain⟨t,rfl⟩:=rx
 obtain⟨t',rfl⟩:=ry
 exact rule i j t t' s _ _ ⟨.bl (g i j),H,I,rfl,q⟩
def Ck(i j:Int):Prop:=0<=j/\j<=1000000/\i.natAbs<2 ^ 64
def Vf(i j:Int):Prop:=(-(2 ^ 64)<i/\i<2 ^ 64)\/(-(2 ^ 64)<j/\j<2 ^ 64)
def Vf.ok{i j:Int}(h:Vf i j):IntMulOk i j:=by
 rcases h with⟨h1,h2⟩|⟨h1,h2⟩
 ·exact .of_left (intBits_le_64 h1 h2)
 ·exact .of_right (intBits_le_64 h1 h2)
def Vg:ū X (binaryOp .Add) (Ju λi j=>.int (i+j)):=vM λ_ _ _ _ _ _ _ q=>add_int q
def Vh:ū X (binaryOp .Sub) (Ju λi j=>.int (i-j)):=vM λ_ _ _ _ _ _ _ q=>sub_int q
def JM:ū X (binaryOp .Mod) (rI (λ_ j=>j≠0) λi j=>.int (i.fmod j)):=Du λ_ _ _ _ _ _ _ hc q=>mod_int' hc q
def Vi:ū X (binaryOp .Pow) (rI Ck λi j=>.int (i ^ j.toNat)):=Du λ_ _ _ _ _ _ _ hc q=>pow_int_small hc.1 hc.2.1 hc.2.2 q
def Vj:ū X (binaryOp .LShift) (rI Ck λi j=>.int (i*2 ^ j.toNat)):=Du λ_ _ _ _ _ _ _ hc q=>lshift_int_small hc.1 hc.2.1 hc.2.2 q
def Zah:ū X (binaryOp .BitOr) (Ju λi j=>.int (Builtin.bitOr i j)):=vM λ_ _ _ _ _ _ _ q=>or_int q
def unI{f:Value->Sem Value}{g:Int->Int}
 (rule:∀(i:Int) (t:Tok) (s:Shared) (Q:Value->Shared->Prop) (E:Value->Shared->Prop),Q (.int (g i) s.toks) {s with toks:=s.toks+1}->wpAny (model X.prog X.w) X.A (f (.int i t)) Q E s) :
 JK X f (rU λi=>.int (g i)):=by
 intro pins s σ H x v Q I rx h
 obtain⟨i,rfl,q⟩:=h
 obtain⟨t,rfl⟩:=rx
 exact rule i t s _ _ ⟨.int (g i),H,I.tok _,⟨_,rfl⟩,q⟩
def Vk:JK X (unaryOp .USub) (rU λi=>.int (-i)):=unI λ_ _ _ _ _ q=>neg_int q
end
section
variable{X:Cx}{a b c:Expr}{ta tb tc:TE}{pos:Pos}
def Vl{pins:List (Addr×Obj)}{σ:St}{H:Hp}{s:Shared}{Q:VK}{k k':Bool}(I:Inv X pins σ H s)(q:Q (.bl k) H)(e:k=k'):EP X pins σ Q (.bool k') s:=by
 subst e
 exact⟨.bl k,H,I,rfl,q⟩
def Zai:ū X (compareOp .Lt) (Ju λi j=>.bl (decide (i<j))):=JL λ_ _ _ _ _ _ _ q=>lt_int q
def Zaj:ū X (compareOp .LtE) (Ju λi j=>.bl (decide (i<=j))):=JL λ_ _ _ _ _ _ _ q=>le_int q
def Zak:ū X (compareOp .Gt) (Ju λi j=>.bl (decide (j<i))):=JL λ_ _ _ _ _ _ _ q=>gt_int q
def Zal:ū X (compareOp .GtE) (Ju λi j=>.bl (decide (j<=i))):=JL λ_ _ _ _ _ _ _ q=>ge_int q
def DY:ū X (compareOp .Is) (λx y H Q=>y=.non/\Q (.bl (decide (x=.non))) H):=by
 intro pins s σ H x y v u Q I rx ry h
 obtain⟨rfl,q⟩:=h
 cases ry
 refine is_none_gen (Vl I q ?_)
 cases x<;>first
  |(cases rx;rfl)
  |(obtain⟨t,rfl⟩:=rx;rfl)
def ū.or{f:Value->Value->Sem Value}{r r':R2}(h:ū X f r)(h':ū X f r'):ū X f (λx y H Q=>r x y H Q\/r' x y H Q):=by
 intro pins s σ H x y v u Q I rx ry q
 rcases q with q|q
 ·exact h pins s σ H x y v u Q I rx ry q
 ·exact h' pins s σ H x y v u Q I rx ry q
def ŕ(b:Expr){op:CmpOp}(h:op≠ .In:=by decide)(h2:op≠ .NotIn:=by decide):behindInMarks op b=false:=by
 have e1:(op== CmpOp.In)=false:=by cases op<;>first|rfl|exact absurd rfl h
 have e2:(op== CmpOp.NotIn)=false:=by cases op<;>first|rfl|exact absurd rfl h2
 cases b<;>simp[behindInMarks,e1,e2]
def JN{op:CmpOp}{r:R2}(ho:ū X (compareOp op) r)(ha:PE X a ta)(hb:PE X b tb)(hm:behindInMarks op b=false):PE X (.Compare a [op] [b] pos) (Dt r ta tb):=by
 intro pins s σ H Q I h
 exact wpAny_Compare1 (Ve ha hb I h λv u s2 x y H2 I2 rx ry q=>ho pins s2 σ H2 x y v u Q I2 rx ry q) hm
def MK(t:TE):TT:=λσ H Q=>t σ H λx H'=>∃k,x=.bl k/\Q k H'
def JQ{op:CmpOp}{r:R2}(ho:ū X (compareOp op) r)(ha:PE X a ta)(hb:PE X b tb)(hm:behindInMarks op b=false):PT X (.Compare a [op] [b] pos) (MK (Dt r ta tb)):=by
 intro pins s σ H Q I h
 refine wpAny_isTrue_Compare1 (Ŏ (ha pins s σ H _ I h) λv s1 ⟨x,H1,I1,r1,q1⟩=>Ŏ (hb pins s1 σ H1 _ I1 q1) λu s2 ⟨y,H2,I2,r2,q2⟩=>
  Ŏ (ho pins s2 σ H2 x y v u _ I2 r1 r2 q2) λc s3 ⟨z,H3,I3,r3,k,e,q3⟩=>?_) hm
 subst e
 cases r3
 exact wpAny_truthy_bool ⟨H3,I3,q3⟩
def Vm(K:PySem.W.Frag)(x:V)(H:Hp)(k:Bool):Prop:=
 match x with
 | .non=>k=false
 | .bl b=>k=b
 | .int i=>k=(i != 0)
 | .str y=>y.length<=sizeLine/\k=((y.length:Int) != 0)
 | .Mu y=>y.size<=sizeLine/\k=((y.size:Int) != 0)
 | .ref p=>(∃xs,Ř K H p xs/\k=!xs.isEmpty)\/(∃xs,bW K H p xs/\k=!xs.isEmpty)\/∃kvs,H p=some (.dK kvs)/\k=!kvs.isEmpty
 |_=>False
def yr{κ:Type}{kvs:List (κ×V)}{vs:List (κ×Value)}(r:KV kvs vs):(!vs.isEmpty)=!kvs.isEmpty:=by
 cases r<;>rfl
def nD{xs:List V}{its:List Value}(r:Vals xs its):(!its.toArray.isEmpty)=!xs.isEmpty:=by
 cases r<;>simp
def jO:(sizeLine:Nat)<2 ^ 63:=by rw[sizeLine_eq];decide
def Vn:ZcU X (λx H Q=>∃k,Vm X.K x H k/\Q k H):=by
 intro pins s σ H x v Q I rx h
 obtain⟨k,e,q⟩:=h
 have hl:=jO
 have hs:sizeLine=16777216:=sizeLine_eq
 cases x with
 |non=>
  cases rx
  have e':k=false:=e
  subst e'
  exact truthy_none ⟨H,I,q⟩
 |bl b=>
  cases rx
  have e':k=b:=e
  subst e'
  exact wpAny_truthy_bool ⟨H,I,q⟩
 |int i=>
  obtain⟨t,rfl⟩:=rx
  have e':k=(i != 0):=e
  subst e'
  exact PySem.P.truthy_int ⟨H,I,q⟩
 |str y=>
  obtain⟨t,rfl⟩:=rx
  obtain⟨hy,e'⟩:y.length<=sizeLine/\k=((y.length:Int) != 0):=e
  subst e'
  exact PySem.P.truthy_str (by omega) ⟨H,I.tok _,q⟩
 |Mu y=>
  obtain⟨t,rfl⟩:=rx
  obtain⟨hy,e'⟩:y.size<=sizeLine/\k=((y.size:Int) != 0):=e
  subst e'
  exact PySem.W.truthy_bytes (by omega) ⟨H,I.tok _,q⟩
 |ref p=>
  cases rx
  have e':(∃xs,Ř X.K H p xs/\k=!xs.isEmpty)\/(∃xs,bW X.K H p xs/\k=!xs.isEmpty)\/∃kvs,H p=some (.dK kvs)/\k=!kvs.isEmpty:=e
  rcases e' with⟨xs,hx,e'⟩|⟨xs,hx,e'⟩|⟨kvs,hx,e'⟩
  ·subst e'
   obtain⟨its,r,pl,hz⟩:=I.list hx
   have hlen:=r.length
   exact wpAny_truthy_list pl.isList (by simp only[List.size_toArray];omega) ⟨H,I.tok _,by rw[nD r];exact q⟩
  ·subst e'
   obtain⟨its,r,pl,hz⟩:=I.tuple hx
   have hlen:=r.length
   exact truthy_tuple pl (by simp only[List.size_toArray];omega) ⟨H,I.tok _,by rw[nD r];exact q⟩
  ·subst e'
   obtain⟨hz,hS,vs,r,m⟩:kvs.length<=sizeLine/\(p== sysModules)=false/\∃vs,KV kvs vs/\s.heap.DictOf (sJ X.prog X.w) p vs:=I.hok p _ hx
   have hlen:kvs.length=vs.length:=Paired.length r
   exact wpAny_truthy_dict hS m (by omega) ⟨H,I.tok _,by rw[yr r];exact q⟩
 |_=>exact(show False from e).elim
def D_(ha:PE X a ta)(he:∀whole,isTrue a X.env whole=(do let v <-whole;standAt a.pos;holding [v] (truthy v))) :
 PT X a (λσ H Q=>ta σ H λx H'=>∃k,Vm X.K x H' k/\Q k H'):=by
 intro pins s σ H Q I h
 exact isTrue_plain (Ŏ (ha pins s σ H _ I h) λv s1 ⟨x,H1,I1,r1,q1⟩=>Vn pins s1 σ H1 x v Q I1 r1 q1) (he _)
def yu:ū X (binaryOp .Add) (λx y H Q=>∃i j,x=.str i/\y=.str j/\i.length+j.length<=sizeLine/\Q (.str (i++j)) H):=by
 intro pins s σ H x y v u Q I rx ry h
 obtain⟨i,j,rfl,rfl,hz,q⟩:=h
 obtain⟨t,rfl⟩:=rx
 obtain⟨t',rfl⟩:=ry
 exact add_str (λt' tk=>⟨.str (i++j),H,I.tok _,⟨_,rfl⟩,q⟩) hz
def vals1{x:V}{us:List Value}(r:Vals [x] us):∃u,us=[u]/\RelV x u:=by
 cases r with
 |cons r1 r2=>cases r2;exact⟨_,rfl,r1⟩
def vals2{x y:V}{us:List Value}(r:Vals [x,y] us):∃u w',us=[u,w']/\RelV x u/\RelV y w':=by
 cases r with
 |cons r1 r2=>
  cases r2 with
  |cons r3 r4=>cases r4;exact⟨_,_,rfl,r1,r3⟩
def Ea:ņ X (.builtin "abs") (λxs H Q=>∃i,xs=[.int i]/\Q (.int (if i<0 then -i else i)) H):=by
 intro pins s σ H xs us Q I r h
 obtain⟨i,rfl,q⟩:=h
 obtain⟨u,rfl,t,rfl⟩:=vals1 r
 exact call_abs_int λu tk=>⟨.int (if i<0 then -i else i),H,I.tok _,⟨_,rfl⟩,q⟩
def Cm(hc:X.calm=true):ņ X (.builtin "max") (λxs H Q=>∃i j,xs=[.int i,.int j]/\Q (.int (if j>i then j else i)) H):=by
 intro pins s σ H xs us Q I r h
 obtain⟨i,j,rfl,q⟩:=h
 obtain⟨u,w',rfl,⟨t,rfl⟩,⟨t',rfl⟩⟩:=vals2 r
 refine max_two_ints (I.ok.hd hc) λh' tk k=>⟨_,H,I.kept k,?_,q⟩
 by_cases hj:j>i
 ·rw[if_pos hj,if_pos hj];exact⟨_,rfl⟩
 ·rw[if_neg hj,if_neg hj];exact⟨_,rfl⟩
def Cp(hc:X.calm=true):ņ X (.builtin "min") (λxs H Q=>∃i j,xs=[.int i,.int j]/\Q (.int (if j<i then j else i)) H):=by
 intro pins s σ H xs us Q I r h
 obtain⟨i,j,rfl,q⟩:=h
 obtain⟨u,w',rfl,⟨t,rfl⟩,⟨t',rfl⟩⟩:=vals2 r
 refine min_two_ints (I.ok.hd hc) λh' tk k=>⟨_,H,I.kept k,?_,q⟩
 by_cases hj:j<i
 ·rw[if_pos hj,if_pos hj];exact⟨_,rfl⟩
 ·rw[if_neg hj,if_neg hj];exact⟨_,rfl⟩
def Cq:ņ X (.type "int") (λxs H Q=>(∃i,xs=[.int i]/\Q (.int i) H)\/∃k,xs=[.bl k]/\Q (.int (if k then 1 else 0)) H):=by
 intro pins s σ H xs us Q I r h
 rcases h with⟨i,rfl,q⟩|⟨k,rfl,q⟩
 ·obtain⟨u,rfl,t,rfl⟩:=vals1 r
  exact call_int_int ⟨.int i,H,I,⟨_,rfl⟩,q⟩
 ·obtain⟨u,rfl,r1⟩:=vals1 r
  cases r1
  exact call_int_bool ⟨.int (if k then 1 else 0),H,I.tok _,⟨_,rfl⟩,q⟩
def sU:ņ X (.type "str") (λxs H Q=>∃i,xs=[.int i]/\i.natAbs.log2<1920/\Q (.str (toString i)) H):=by
 intro pins s σ H xs us Q I r h
 obtain⟨i,rfl,hz,q⟩:=h
 obtain⟨u,rfl,t,rfl⟩:=vals1 r
 exact PySem.P.str_of_int hz ⟨.str _,H,I.tok _,⟨_,rfl⟩,q⟩
def ZcV(K:PySem.W.Frag)(x:V)(H:Hp)(n:Nat):Prop:=
 match x with
 | .str y=>y.length<=sizeLine/\n=y.length
 | .Mu y=>y.size<=sizeLine/\n=y.size
 | .ref p=>(∃xs,Ř K H p xs/\n=xs.length)\/∃xs,bW K H p xs/\n=xs.length
 |_=>False
def Eb:ņ X (.builtin "len") (λxs H Q=>∃x n,xs=[x]/\ZcV X.K x H n/\Q (.int n) H):=by
 intro pins s σ H xs us Q I r h
 obtain⟨x,n,rfl,e,q⟩:=h
 obtain⟨u,rfl,rx⟩:=vals1 r
 have hl:=jO
 have hs:sizeLine=16777216:=sizeLine_eq
 cases x with
 |str y=>
  obtain⟨t,rfl⟩:=rx
  obtain⟨hy,e'⟩:y.length<=sizeLine/\n=y.length:=e
  subst e'
  exact len_str (by omega) ⟨.int _,H,I.tok _,⟨_,rfl⟩,q⟩
 |Mu y=>
  obtain⟨t,rfl⟩:=rx
  obtain⟨hy,e'⟩:y.size<=sizeLine/\n=y.size:=e
  subst e'
  exact PySem.W.len_bytes (by omega) ⟨.int _,H,I.tok _,⟨_,rfl⟩,q⟩
 |ref p=>
  cases rx
  have e':(∃xs,Ř X.K H p xs/\n=xs.length)\/∃xs,bW X.K H p xs/\n=xs.length:=e
  rcases e' with⟨xs,hx,e'⟩|⟨xs,hx,e'⟩
  ·subst e'
   obtain⟨its,r',pl,hz⟩:=I.list hx
   have hlen:=r'.length
   exact Calls.call_len_list pl.isList (by simp only[List.size_toArray];omega) ⟨.int xs.length,H,I.tok _,⟨_,by simp only[List.size_toArray];rw[hlen]⟩,q⟩
  ·subst e'
   obtain⟨its,r',pl,hz⟩:=I.tuple hx
   have hlen:=r'.length
   exact len_tuple pl (by simp only[List.size_toArray];omega) ⟨.int xs.length,H,I.tok _,⟨_,by simp only[List.size_toArray];rw[hlen]⟩,q⟩
 |_=>exact(show False from e).elim
end
end L2
namespace L2
open PySem PySem.Spec PyProof.Rows
structure yx(h:Heap)(x dx C:Addr)(mA:Str->Option Value):Prop where
 obj:h.get? x=some (PySem.W.instObj C dx)
 ns:h.Ns1 dx mA
 ne:dx≠x
def Cr{h:Heap}{dx:Addr}{mA:Str->Option Value}(n:h.Ns1 dx mA):∃od,h.get? dx=some od/\∀name,PySem.W.lookIn name od=some (mA name):=by
 obtain⟨o,es,ep,ho,hd,hk,_,hm⟩:=n
 refine⟨o,ho,λname=>?_⟩
 have e:=hm name
 unfold nsFind findBy at e
 rw[<-Array.find?_toList] at e
 unfold PySem.W.lookIn
 rw[hd]
 dsimp only
 split
 ·rename_i y q
  rw[q] at e
  exact congrArg some e
 ·rename_i q
  rw[q] at e
  have a:es.toList.any (·.refKey)=false:=by
   rw[List.any_eq_false]
   intro y hy
   obtain⟨z,t,hkey⟩:=hk y (Array.mem_toList_iff.mp hy)
   simp[DictEntry.refKey,hkey]
  have a':¬es.toList.any (·.refKey)=true:=by rw[a];exact Bool.false_ne_true
  rw[if_neg a']
  exact congrArg some e
def yx.look{h:Heap}{x dx C:Addr}{mA:Str->Option Value}(I:yx h x dx C mA):∃od,PySem.W.InstAt h x (PySem.W.instObj C dx) C (some od)/\∀name,PySem.W.lookIn name od=some (mA name):=
 let ⟨od,ho,hl⟩:=Cr I.ns
 ⟨od,⟨I.obj,rfl,rfl,ho⟩,hl⟩
section
variable{prog:Program}{w:World}{A:Around}{E:Value->Shared->Prop}{s:Shared}{K:PySem.W.Frag}{x dx C f:Addr}{mA:Str->Option Value}{name:Str}{v:Value}
def get_map{expr:Bool}{Q:Value->Shared->Prop}(X:K.In s.heap)(I:yx s.heap x dx C mA)(hg:PySem.W.plainGet K C name=true)(hh:PySem.W.hasDictIn K C=true)
 (ha:PySem.W.findIn K (.ref C) name=some none)(hv:mA name=some v)(hv':PySem.W.handedIn v=true)(h:Q v {s with toks:=s.toks+1}) :
 wpAny (model prog w) A (getAttr (.ref x) name expr) Q E s:=by
 obtain⟨od,J,hl⟩:=I.look
 exact PySem.W.get_value X J (PySem.W.plainGet_of hg).1 (PySem.W.findObj_own hh ha rfl (by rw[hl,hv])) hv' h
def Ec{pl:Sem Bool}{Q:Value×List Value->Shared->Prop}(X:K.In s.heap)(I:yx s.heap x dx C mA)(hg:PySem.W.plainGet K C name=true)
 (hf:PySem.W.findIn K (.ref C) name=some (some (.ref f)))(ht:PySem.W.isFn K (.ref f)=true)(hv:mA name=none)(h:Q (.ref f,[.ref x]) s) :
 wpAny (model prog w) A (getMethod (.ref x) name pl) Q E s:=by
 obtain⟨od,J,hl⟩:=I.look
 exact PySem.W.method_fn X J (PySem.W.plainGet_of hg).1 (PySem.W.plainGet_of hg).2 hf (beq_iff_eq.mp ht) (by show(PySem.W.lookIn name od).map (·.isSome)=some false;rw[hl,hv];rfl) h
def JR{ns:List Str}{Q:Unit->Shared->Prop}(X:K.In s.heap)(I:yx s.heap x dx C mA)
 (hs:PySem.W.findIn K (.ref C) "__setattr__" =some (some (.builtin "object.__setattr__")))(hp:PySem.W.plainOver K C=true)(ht:PySem.W.takerIn K C name=some none)(hh:PySem.W.hasDictIn K C=true)
 (hw:PySem.Within mA ns)(hsz:ns.length<=sizeLine)
 (h:∀h',yx h' x dx C (λy=>if y=name then some v else mA y)->Heap.SameBut dx s.heap h'->Q () {s with heap:=h',toks:=s.toks+2}) :
 wpAny (model prog w) A (setAttr (.ref x) name v) Q E s:=by
 obtain⟨od,J,hl⟩:=I.look
 refine PySem.W.set_plain X J hs (PySem.W.osa_open (s:={s with toks:=s.toks+1}) (r:=none) X J hp ht λb=>?_)
 obtain⟨cd,hc,hd'⟩:=PySem.W.any_some hh
 have hx:s.heap.get? x=some ⟨.ref C,some dx,.plain,#[]⟩:=I.obj
 refine wpAny_bind (wpAny_pure (wpAny_bind (wpAny_bind (wpAny_loadPart hx (wpAny_bind (PySem.W.Looks.here (s:={s with toks:=s.toks+1}) (PySem.W.looks_clsIn X hc) ?_))))))
 rw[hd']
 refine wpAny_pure (a:=some dx) (wpAny_bind (wpAny_pure (wpAny_bind ?_)))
 refine wpAny_nsSet1 (s:={s with toks:=s.toks+1}) I.ns λh' hn2 hs2=>?_
 obtain⟨oD,esD,epD,hoD,hdD,hcD⟩:=hn2.count (PySem.Within.cons name v hw)
 refine wpAny_bind (wpAny_lookBehind hoD (by rw[hdD];exact pastItsLine_dict (Nat.le_trans hcD (by rw[List.length_cons];omega))) ?_)
 exact wpAny_pure (h _ ⟨(hs2.2 _ (Ne.symm I.ne)).trans I.obj,hn2,I.ne⟩ hs2)
def Ed{R:Result->Shared->Prop}{vs:List Value}{kw:List (Str×Value)}(X:K.In s.heap)(hm:PySem.W.makesIn K C=true)
 (hi:PySem.W.findIn K (.ref C) "__init__" =some (some (.ref f)))(hf:PySem.W.typeIn K (.ref f)=some (.type "function"))
 (h:codeAny (model prog w) (A.under (.builtin "type.__call__" ⟨.ref C::vs,kw⟩)) (.call (.ref f) ⟨.ref (s.heap.objs.size+1)::vs,kw⟩) (PySem.W.InitBack (s.heap.objs.size+1) R)
   {s with heap:=(s.heap.push PySem.W.emptyDict).push (PySem.W.instObj C s.heap.objs.size)}) :
 codeAny (model prog w) A (.call (.ref C) ⟨vs,kw⟩) R s:=by
 obtain⟨hh,g,d,t,os⟩:=s
 exact PySem.W.make_core (PySem.W.makes_of X hm) (PySem.W.looks_findIn X hi) (λself=>PySem.W.bind_fn X self hf) (.inl rfl) h
end
def dF(f:Str)(v:V):List (Str×V)->List (Str×V)
 | []=>[(f,v)]
 |(g,x)::r=>if g=f then(g,v)::r else(g,x)::dF f v r
theorem kZ(f g:Str)(v:V):∀fs:List (Str×V),(dF f v fs).lookup g=if g=f then some v else fs.lookup g
 | []=>by
   show List.lookup g [(f,v)]=_
   by_cases h:g=f
   ·have hb:(g== f)=true:=beq_iff_eq.mpr h
    simp only[List.lookup,hb,if_pos h]
   ·have hb:(g== f)=false:=beq_eq_false_iff_ne.mpr h
    simp only[List.lookup,hb,if_neg h]
 |(k,x)::r=>by
  have ih:=kZ f g v r
  rw[show dF f v ((k,x)::r)=(if k=f then(k,v)::r else(k,x)::dF f v r) from rfl]
  by_cases hk:k=f
  ·rw[if_pos hk]
   by_cases h:g=k
   ·have hb:(g== k)=true:=beq_iff_eq.mpr h
    simp only[List.lookup,hb,if_pos (h.trans hk)]
   ·have hb:(g== k)=false:=beq_eq_false_iff_ne.mpr h
    simp only[List.lookup,hb,if_neg (λe:g=f=>h (e.trans hk.symm))]
  ·rw[if_neg hk]
   by_cases h:g=k
   ·have hb:(g== k)=true:=beq_iff_eq.mpr h
    simp only[List.lookup,hb,if_neg (λe:g=f=>hk (h.symm.trans e))]
   ·have hb:(g== k)=false:=beq_eq_false_iff_ne.mpr h
    simp only[List.lookup,hb]
    exact ih
theorem jP(f:Str)(v:V):∀fs:List (Str×V),f∈(dF f v fs).map (·.1)/\∀g,g∈fs.map (·.1)->g∈(dF f v fs).map (·.1)
 | []=>⟨by simp[dF],λg h=>by simp at h⟩
 |(k,x)::r=>by
  obtain⟨i1,i2⟩:=jP f v r
  rw[show dF f v ((k,x)::r)=(if k=f then(k,v)::r else(k,x)::dF f v r) from rfl]
  by_cases hk:k=f
  ·rw[if_pos hk]
   subst hk
   exact⟨by simp,λg h=>by simpa using h⟩
  ·rw[if_neg hk]
   refine⟨?_,λg h=>?_⟩
   ·rw[List.map_cons]
    exact List.mem_cons_of_mem _ i1
   ·rw[List.map_cons] at h ⊢
    rcases List.mem_cons.mp h with e|e
    ·exact List.mem_cons.mpr (.inl e)
    ·exact List.mem_cons_of_mem _ (i2 g e)
theorem k_(f:Str)(v:V):∀fs:List (Str×V),(dF f v fs).length<=fs.length+1
 | []=>by simp[dF]
 |(k,x)::r=>by
  have ih:=k_ f v r
  rw[show dF f v ((k,x)::r)=(if k=f then(k,v)::r else(k,x)::dF f v r) from rfl]
  by_cases hk:k=f
  ·rw[if_pos hk,List.length_cons,List.length_cons];omega
  ·rw[if_neg hk,List.length_cons,List.length_cons];omega
def qg.some_of{v:V}{o:Option Value}(r:qg (some v) o):∃u,o=some u/\RelV v u:=by
 cases o with
 |none=>exact(show False from r).elim
 |some u=>exact⟨u,rfl,r⟩
def qg.none_of{o:Option Value}(r:qg none o):o=none:=by
 cases o with
 |none=>rfl
 |some u=>exact(show False from r).elim
def Cu{v:V}{u:Value}(r:RelV v u):PySem.W.handedIn u=true:=by
 cases v with
 |non=>cases(show u=Value.none from r);rfl
 |bl b=>cases(show u=Value.bool b from r);rfl
 |int i=>obtain⟨t,e⟩:=(show ∃t,u=Value.int i t from r);cases e;rfl
 |str x=>obtain⟨t,e⟩:=(show ∃t,u=Value.str x t from r);cases e;rfl
 |Mu b=>obtain⟨t,e⟩:=(show ∃t,u=Value.bytes b t from r);cases e;rfl
 |flt b=>obtain⟨t,e⟩:=(show ∃t,u=Value.float b t from r);cases e;rfl
 |ref a=>cases(show u=Value.ref a from r);rfl
 |ty n=>cases(show u=Value.type n from r);rfl
section
variable{P:Program}{w:World}{H H':Hp}{h h':Heap}{a C dx:Addr}{fs fs':List (Str×V)}
def mR(hok:jd P w H h)(e:H a=some (.ins C dx fs)):∃mA,yx h a dx C mA/\(∀f,qg (fs.lookup f) (mA f))/\PySem.Within mA (fs.map (·.1))/\fs.length<=1000/\H dx=some (.own a):=by
 obtain⟨d,z,ne,ob,mA,n,r,q⟩:=(show ŵ P w H h a (.ins C dx fs) from hok a _ e)
 exact⟨mA,⟨ob,n,ne⟩,r,q,z,d⟩
end
structure Cls(K:PySem.W.Frag)(C:Addr):Prop where
 pg:PySem.W.plainGet K C Str.empty=true
 hd:PySem.W.hasDictIn K C=true
 po:PySem.W.plainOver K C=true
 sa:PySem.W.findIn K (.ref C) "__setattr__" =some (some (.builtin "object.__setattr__"))
def Cls.get{K:PySem.W.Frag}{C:Addr}(c:Cls K C)(f:Str):PySem.W.plainGet K C f=true:=c.pg
def Ķ(K:PySem.W.Frag)(C:Addr)(f:Str):Prop:=PySem.W.findIn K (.ref C) f=some none
def Ķ.taker{K:PySem.W.Frag}{C:Addr}{f:Str}(n:Ķ K C f):PySem.W.takerIn K C f=some none:=by
 unfold PySem.W.takerIn
 rw[show PySem.W.findIn K (.ref C) f=some none from n]
 rfl
structure Meth(K:PySem.W.Frag)(C:Addr)(m:Str)(f:Addr):Prop where
 at_:PySem.W.findIn K (.ref C) m=some (some (.ref f))
 fn:PySem.W.isFn K (.ref f)=true
 kp:PySem.W.keepIn K (.ref f)=true
section
variable{X:Cx}{pins:List (Addr×Obj)}{σ:St}{H:Hp}{s:Shared}{a C dx:Addr}{fs:List (Str×V)}{f:Str}{v:V}{A:Around}{E:Value->Shared->Prop}
def yC{b:Bool}{Q:Value->Shared->Prop}(I:Inv X pins σ H s)(e:H a=some (.ins C dx fs))(c:Cls X.K C)(n:Ķ X.K C f)(l:fs.lookup f=some v)
 (h:∀u s',Inv X pins σ H s'->RelV v u->Q u s'):wpAny (model X.prog X.w) A (getAttr (.ref a) f b) Q E s:=by
 obtain⟨mA,O,r,_,_,_⟩:=mR I.hok e
 obtain⟨u,hu,ru⟩:=qg.some_of (v:=v) (o:=mA f) (by rw[<-l];exact r f)
 exact get_map I.jM O (c.get f) c.hd n hu (Cu ru) (h u _ (I.tok _) ru)
def yD{m:Str}{g:Addr}{pl:Sem Bool}{Q:Value×List Value->Shared->Prop}(I:Inv X pins σ H s)(e:H a=some (.ins C dx fs))(c:Cls X.K C)(k:Meth X.K C m g)(l:fs.lookup m=none)
 (h:Q (.ref g,[.ref a]) s):wpAny (model X.prog X.w) A (getMethod (.ref a) m pl) Q E s:=by
 obtain⟨mA,O,r,_,_,_⟩:=mR I.hok e
 have hn:mA m=none:=qg.none_of (by rw[<-l];exact r m)
 exact Ec I.jM O (c.get m) k.at_ k.fn hn h
def yE{y:V}{u:Value}{Q:Unit->Shared->Prop}(I:Inv X pins σ H s)(e:H a=some (.ins C dx fs))(c:Cls X.K C)(n:Ķ X.K C f)(hl:fs.length<1000)(ry:RelV y u)
 (h:∀s',Inv X pins σ (upd H a (.ins C dx (dF f y fs))) s'->Q () s'):wpAny (model X.prog X.w) A (setAttr (.ref a) f u) Q E s:=by
 obtain⟨mA,O,r,wi,_,ho⟩:=mR I.hok e
 have hz:(fs.map (·.1)).length<=sizeLine:=by rw[List.length_map,sizeLine_eq];omega
 refine JR I.jM O c.sa c.po n.taker c.hd wi hz λh' O' sb=>h _ ?_
 have hd:∃o,h'.get? dx=some o:=let ⟨o,_,_,e',_⟩:=O'.ns;⟨o,e'⟩
 refine I.write (x:=a) (e:=dx) (by rw[e];exact True.intro) (.inr ho) (λb q hb z=>(sb.2 b hb).trans z) hd ?_
 refine⟨by rw[Ę O.ne];exact ho,?_,O.ne,O'.obj,_,O'.ns,λg=>?_,λg hg=>?_⟩
 ·have:=k_ f y fs;omega
 ·show qg ((dF f y fs).lookup g) (if g=f then some u else mA g)
  rw[kZ]
  by_cases q:g=f
  ·rw[if_pos q,if_pos q];exact ry
  ·rw[if_neg q,if_neg q];exact r g
 ·by_cases q:g=f
  ·rw[q];exact(jP f y fs).1
  ·refine(jP f y fs).2 g (wi g λz=>hg ?_)
   show(if g=f then some u else mA g)=none
   rw[if_neg q];exact z
def Inv.made(I:Inv X pins σ H s):Inv X pins σ (upd (upd H s.heap.objs.size (.own (s.heap.objs.size+1))) (s.heap.objs.size+1) (.ins C s.heap.objs.size []))
 {s with heap:=(s.heap.push PySem.W.emptyDict).push (PySem.W.instObj C s.heap.objs.size)}:=by
 have e1:(s.heap.push PySem.W.emptyDict).get? s.heap.objs.size=some PySem.W.emptyDict:=Heap.get?_push_size s.heap rfl
 have e2:((s.heap.push PySem.W.emptyDict).push (PySem.W.instObj C s.heap.objs.size)).get? (s.heap.objs.size+1)=some (PySem.W.instObj C s.heap.objs.size):=by
  have:=Heap.get?_push_size (s.heap.push PySem.W.emptyDict) (o:=PySem.W.instObj C s.heap.objs.size) rfl
  rwa [Heap.size_push] at this
 have e3:(s.heap.push PySem.W.emptyDict).Ns s.heap.objs.size (λ_=>none):=⟨PySem.W.emptyDict,#[],_,e1,rfl,(λe he=>absurd he (by simp)),λ_=>rfl⟩
 have I1:=I.laid (a:=s.heap.objs.size) (o:=.own (s.heap.objs.size+1)) (h':=s.heap.push PySem.W.emptyDict) (t':=s.toks) (λb u q=>Heap.get?_push_of_some _ q) (Nat.le_refl _) ⟨_,e1⟩
 refine I1.laid (a:=s.heap.objs.size+1) (o:=.ins C s.heap.objs.size []) (t':=s.toks) (λb u q=>Heap.get?_push_of_some _ q) (Nat.le_of_eq (Heap.size_push _ _)) ?_
 have ne:s.heap.objs.size≠s.heap.objs.size+1:=Nat.ne_of_lt (Nat.lt_succ_self _)
 refine⟨by rw[Ę ne,ē],Nat.zero_le _,ne,e2,λ_=>none,(Heap.Ns1.of_empty e3).at λo q=>Heap.get?_push_of_some _ q,λ_=>True.intro,λy hy=>absurd rfl hy⟩
def JT{prog:Program}{w:World}{env:Env}{e:Expr}{f:Str}{pos:Pos}{s:Shared}{Q:Value->Shared->Prop}(hb:attributeBase e f env (eval e env)=eval e env)
 (h:wpAny (model prog w) A (eval e env) (λo s₁=>wpAny (model prog w) A (getAttr o f true) Q E s₁) E s):wpAny (model prog w) A (eval (.Attribute e f pos) env) Q E s:=
 Attribute_any_ h (by rw[arm_eval_Attribute,hb])
end
def ZcW(K:PySem.W.Frag)(ta:TE)(f:Str):TE:=λσ H Q=>ta σ H λx H1=>∃a C dx fs v,x=.ref a/\H1 a=some (.ins C dx fs)/\Cls K C/\Ķ K C f/\fs.lookup f=some v/\Q v H1
def ZcX(K:PySem.W.Frag)(ta tv:TE)(f:Str):TS:=λD σ H=>tv σ H λy H1=>ta σ H1 λx H2=>∃a C dx fs,x=.ref a/\H2 a=some (.ins C dx fs)/\Cls K C/\Ķ K C f/\fs.length<1000/\
 D.nx σ (upd H2 a (.ins C dx (dF f y fs)))
section
variable{X:Cx}{o e value:Expr}{f:Str}{pos pos' tpos:Pos}{ta tv:TE}
def Vo(he:PE X e ta)(hb:attributeBase e f X.env (eval e X.env)=eval e X.env):PE X (.Attribute e f pos) (ZcW X.K ta f):=by
 intro pins s σ H Q I h
 refine JT hb (Ŏ (he pins s σ H _ I h) λu s1 ⟨x,H1,I1,rx,a,C,dx,fs,v,ex,ea,c,n,l,q⟩=>?_)
 subst ex
 obtain rfl:u=Value.ref a:=rx
 exact yC I1 ea c n l λu' s2 I2 ru=>⟨v,H1,I2,ru,q⟩
def Vp(ha:PE X o ta)(hv:PE X value tv)(hs:swapsWith value (some (.Attribute o f pos')) pos.line X.env=pure false):PS X (.Assign [.Attribute o f pos'] value pos) (ZcX X.K ta tv f):=by
 intro pins s σ H D I h
 refine plainObj_wpAny_Assign_Attribute (Ŏ (hv pins s σ H _ I h) λu s1 ⟨y,H1,I1,ry,q⟩=>Ŏ (ha pins s1 σ H1 _ I1 q) λov s2 ⟨x,H2,I2,rx,a,C,dx,fs,ex,ea,c,n,l,q2⟩=>?_) hs
 subst ex
 obtain rfl:ov=Value.ref a:=rx
 exact yE I2 ea c n l ry λs3 I3=>⟨σ,_,I3,q2⟩
end
section
variable{X:Cx}{pins:List (Addr×Obj)}{σ:St}{H:Hp}{s:Shared}{A:Around}{E:Value->Shared->Prop}{Q:Value->Shared->Prop}{c:Value}{b:Bool}
inductive jQ(K:PySem.W.Frag)(H:Hp):V->Value->Prop where
 |non:jQ K H .non (.type "NoneType")
 |bl (x:Bool):jQ K H (.bl x) (.type "bool")
 |int (i:Int):jQ K H (.int i) (.type "int")
 |str (x:Str):jQ K H (.str x) (.type "str")
 |flt (x:UInt64):jQ K H (.flt x) (.type "float")
 |lst {a:Addr} {xs:List V} (e:H a=some (.lst xs)):jQ K H (.ref a) (.type "list")
 |cI {a:Addr} {o:Obj} {xs:List V} (e:H a=some (.cI o (.lst xs))):jQ K H (.ref a) (.type "list")
 |tup {a:Addr} {xs:List V} (e:H a=some (.tup xs)):jQ K H (.ref a) (.type "tuple")
 |dK {a:Addr} {kvs:List (Key×V)} (e:H a=some (.dK kvs)):jQ K H (.ref a) (.type "dict")
 |dT {a:Addr} {kvs:List (List Key×V)} (e:H a=some (.dT kvs)):jQ K H (.ref a) (.type "dict")
 |ins {a C dx:Addr} {fs:List (Str×V)} (e:H a=some (.ins C dx fs)) (cl:Cls K C) (ha:PySem.W.findIn K (.ref C) "__class__" =some (some (.builtin "object.__class__")))
   (hn:PySem.W.specialIn K (.builtin "object.__class__") "__get__" =some (some (.builtin "getset_descriptor.__get__"))) (htk:PySem.W.takesIn K (.builtin "object.__class__")=some true)
   (hm:PySem.W.mroIn K C (.type "object")=some true):jQ K H (.ref a) (.ref C)
def cW{x:V}{u t:Value}(I:Inv X pins σ H s)(rx:RelV x u)(ty:jQ X.K H x t)(e:PySem.W.kitOne X.K t c=some b)(h:∀tk,Q (.bool b) {s with toks:=tk}) :
 wpAny (model X.prog X.w) A (call (.builtin "isinstance") [u,c]) Q E s:=by
 cases ty with
 |non=>cases(show u=Value.none from rx);exact PySem.W.kia_one PySem.W.kitx_none I.jM True.intro e (λz=>nomatch z) h
 |bl y=>cases(show u=Value.bool y from rx);exact PySem.W.kia_one PySem.W.kitx_bool I.jM True.intro e (λz=>nomatch z) h
 |int i=>obtain⟨t,q⟩:=(show ∃t,u=Value.int i t from rx);cases q;exact PySem.W.kia_one PySem.W.kitx_int I.jM True.intro e (λz=>nomatch z) h
 |str y=>obtain⟨t,q⟩:=(show ∃t,u=Value.str y t from rx);cases q;exact PySem.W.kia_one PySem.W.kitx_str I.jM True.intro e (λz=>nomatch z) h
 |flt y=>obtain⟨t,q⟩:=(show ∃t,u=Value.float y t from rx);cases q;exact PySem.W.kia_one PySem.W.kitx_float I.jM True.intro e (λz=>nomatch z) h
 |@lst a xs ea=>
  cases(show u=Value.ref a from rx)
  obtain⟨_,_,n,_,h1⟩:=(show ŵ X.prog X.w H s.heap a (.lst xs) from I.hok a _ ea)
  exact PySem.W.kia_one PySem.W.kitx_list I.jM ⟨_,h1,rfl⟩ e (λz=>nomatch z) h
 |@cI a ob xs ea=>
  cases(show u=Value.ref a from rx)
  obtain⟨_,_,_,n,_,h1⟩:=(show ŵ X.prog X.w H s.heap a (.cI ob (.lst xs)) from I.hok a _ ea)
  exact PySem.W.kia_one PySem.W.kitx_list I.jM ⟨_,h1,rfl⟩ e (λz=>nomatch z) h
 |@tup a xs ea=>
  cases(show u=Value.ref a from rx)
  obtain⟨_,_,_,p⟩:=(show ŵ X.prog X.w H s.heap a (.tup xs) from I.hok a _ ea)
  obtain⟨o,h1,h2,_⟩:=p
  exact PySem.W.kia_one PySem.W.kitx_tuple I.jM ⟨o,h1,h2⟩ e (λz=>nomatch z) h
 |@dK a kvs ea=>
  cases(show u=Value.ref a from rx)
  obtain⟨_,_,vs,_,p⟩:=(show ŵ X.prog X.w H s.heap a (.dK kvs) from I.hok a _ ea)
  obtain⟨o,es,ep,h1,h2,_⟩:=p
  exact PySem.W.kia_one PySem.W.kitx_dict I.jM ⟨o,h1,h2.1⟩ e (λz=>nomatch z) h
 |@dT a kvs ea=>
  cases(show u=Value.ref a from rx)
  obtain⟨_,_,xs,_,o,es,ep,h1,h2,_⟩:=(show ŵ X.prog X.w H s.heap a (.dT kvs) from I.hok a _ ea)
  exact PySem.W.kia_one PySem.W.kitx_dict I.jM ⟨o,h1,h2.1⟩ e (λz=>nomatch z) h
 |@ins a C dx fs ea cl ha hn htk hm=>
  cases(show u=Value.ref a from rx)
  obtain⟨mA,O,_⟩:=mR I.hok ea
  obtain⟨od,J,_⟩:=O.look
  exact PySem.W.kia_one (PySem.W.kitx_own (cl.get _) cl.hd ha hn htk hm) I.jM J e (λz=>nomatch z) h
end
end L2
namespace L2
open PySem PySem.Spec PyProof.Rows
structure Ŭ(k:Nat)(A:Around):Prop where
 hd:A.handled=none
 dp:A.depth+3*k+5<recursionLimit
 un:A.units+16*k+200<cLine
def Ŭ.mono{j k:Nat}{A:Around}(r:Ŭ k A)(h:j<=k):Ŭ j A:=⟨r.hd,by have:=r.dp;omega,by have:=r.un;omega⟩
def Ŭ.mo{j k:Nat}{A:Around}(r:Ŭ k A)(h:j<=k:= by decide):Ŭ j A:= r.mono h
theorem Ŭ.deeper{k:Nat}{A:Around}(r:Ŭ (k+1) A)(env:Env):Ŭ k (A.deeper env):=
 ⟨r.hd,by have:=r.dp;show A.depth+1+3*k+5<_;omega,by have:=r.un;show A.units+3+16*k+200<_;omega⟩
def yF{A:Around}{C:Addr}{us:List Value}{kw:List (Str×Value)}:(A.under (.builtin "type.__call__" ⟨.ref C::us,kw⟩)).depth=A.depth+1:=by
 first|rfl|simp[Around.under,Code.weight,Code.isCreation,Code.isGuard,Code.isCaller,Code.frames,Code.isFrame,guardIds]
def yG{A:Around}{C:Addr}{us:List Value}{kw:List (Str×Value)}:(A.under (.builtin "type.__call__" ⟨.ref C::us,kw⟩)).units=A.units+1:=by
 first|rfl|simp[Around.under,Code.cUnits,Code.frames,Code.isFrame]
def Ŭ.make{k:Nat}{A:Around}(r:Ŭ (k+1) A)(C:Addr)(us:List Value)(kw:List (Str×Value)):Ŭ k (A.under (.builtin "type.__call__" ⟨.ref C::us,kw⟩)):=
 ⟨r.hd,by have:=r.dp;rw[yF];omega,by have:=r.un;rw[yG];omega⟩
theorem Ŭ.depth{k:Nat}{A:Around}(r:Ŭ k A):A.depth<recursionLimit:=by have:=r.dp;omega
theorem Ŭ.units{k:Nat}{A:Around}(r:Ŭ k A):A.units+64<cLine:=by have:=r.un;omega
def sV:TA:=λ_ H Q=>Q [] H
def aA(ta:TE)(tr:TA):TA:=λσ H Q=>ta σ H λx H1=>tr σ H1 λxs H2=>Q (x::xs) H2
section
variable{X:Cx}{e:Expr}{es:List Expr}{te:TE}{t:TA}{pos:Pos}
def aF:PA X [] sV:=λ_ _ _ _ H Q I h=>Calls.spliced_nil ⟨[],H,I,.nil,h⟩
def Ĺ(ha:PE X e te)(hr:PA X es t)(hs:starEach (e::es) X.env=(false,eval e X.env)::starEach es X.env:=by rfl):PA X (e::es) (aA te t):=by
 intro pos pins s σ H Q I h
 rw[hs]
 show wpAny _ _ (spliced ((false,eval e X.env)::backTo pos (starEach es X.env))) _ _ s
 refine Calls.spliced_cons (Ŏ (ha pins s σ H _ I h) λu s1 ⟨x,H1,I1,r1,q1⟩=>?_)
 exact Ŏ (hr pos pins s1 σ H1 _ I1 q1) λus s2 ⟨xs,H2,I2,r2,q2⟩=>⟨x::xs,H2,I2,.cons r1 r2,q2⟩
def Vq(t:TA):TE:=λσ H Q=>t σ H λxs H1=>xs.length<=sizeLine/\∀p,H1 p=none->Q (.ref p) (upd H1 p (.tup xs))
def JV(t:TA):TE:=λσ H Q=>t σ H λxs H1=>xs.length<=sizeLine/\∀p,H1 p=none->Q (.ref p) (upd H1 p (.lst xs))
def yH{x1}(h:PA X es t):PE X (.Tuple es x1 pos) (Vq t):=by
 intro pins s σ H Q I hq
 refine wpAny_Tuple_spliced (Ŏ (h pos pins s σ H _ I hq) λus s1 ⟨xs,H1,I1,r,z,q⟩=>⟨by rw[<-r.length];exact z,?_⟩)
 have hf:H1 s1.heap.objs.size=none:=I1.hok.fresh (Nat.le_refl _)
 refine⟨.ref s1.heap.objs.size,upd H1 s1.heap.objs.size (.tup xs),I1.laid (t':=s1.toks) (λb u e=>Heap.get?_push_of_some _ e) (Nat.le_refl _) ?_,rfl,q _ hf⟩
 exact⟨z,us,r,⟨_,Heap.get?_push_size _ rfl,rfl,_,rfl⟩⟩
def sW(h:PA X es t):PE X (.List es pos) (JV t):=by
 intro pins s σ H Q I hq
 refine wpAny_List_spliced (Ŏ (h pos pins s σ H _ I hq) λus s1 ⟨xs,H1,I1,r,z,q⟩=>⟨by rw[<-r.length];exact z,?_⟩)
 have hf:H1 s1.heap.objs.size=none:=I1.hok.fresh (Nat.le_refl _)
 refine⟨.ref s1.heap.objs.size,upd H1 s1.heap.objs.size (.lst xs),I1.laid (t':=s1.toks) (λb u e=>Heap.get?_push_of_some _ e) (Nat.le_refl _) ?_,rfl,q _ hf⟩
 exact⟨z,us,0,r,Heap.get?_push_size _ rfl⟩
end
abbrev Sp:=List V->Hp->VK->XK->Prop
abbrev jf:=List Env->Hp->Shared->XK->Value->Shared->Prop
structure yI(P:Program)(w:World)(K:PySem.W.Frag)(mg:Str->Option Value)(base:Heap)(A:Around)(outer:List Env)(s:Shared)(H:Hp):Prop where
 frames:A.frames=some outer
 mod:Mod K mg base
 bs:∀b o,base.get? b=some o->s.heap.get? b=some o/\H b=none
 JC:base.objs.size<=s.heap.objs.size
 lW:s.heap.FunFrames base outer
 Uv:∀b∈frs outer,H b=none
 hok:jd P w H s.heap
 bare:AllBare s.gens
 tb:TabsOk K mg base H
def CE(outer:List Env)(P:Program)(w:World)(H:Hp)(s:Shared)(Q:VK)(u:Value)(s':Shared):Prop:=
 ∃v H',s'.os=s.os/\AllBare s'.gens/\Un (frs outer) [] H H' s.heap s'.heap/\jd P w H' s'.heap/\RelV v u/\Q v H'
def CR(CX:jf)(outer:List Env)(P:Program)(w:World)(H:Hp)(s:Shared)(Q:VK)(E:XK)(r:Result)(s':Shared):Prop:=
 match r with
 | .ok (.ret u)=>CE outer P w H s Q u s'
 | .ok _=>False
 | .error e=>CX outer H s E e s'
structure ĥ(P:Program)(w:World)(K:PySem.W.Frag)(mg:Str->Option Value)(base:Heap)(CX:jf)(k:Nat)(f:Addr)(fd:FuncData)(ps:List Str)(sp:Sp):Prop where
 len:∀vs H Q E,sp vs H Q E->vs.length=ps.length
 run:∀(A:Around) (outer:List Env) (s:Shared) (H:Hp) (args:Args) (us:List Value) (vs:List V) (Q:VK) (E:XK),Ŭ k A->yI P w K mg base A outer s H->BindsTo s fd args (ps.zip us)->Vals vs us->sp vs H Q E->
  codeAny (model P w) A (.call (.ref f) args) (CR CX outer P w H s Q E) s
theorem ĥ.mono{P:Program}{w:World}{K:PySem.W.Frag}{mg:Str->Option Value}{base:Heap}{CX:jf}{j k:Nat}{f:Addr}{fd:FuncData}{ps:List Str}{sp:Sp}(F:ĥ P w K mg base CX j f fd ps sp)(h:j<=k) :
 ĥ P w K mg base CX k f fd ps sp:=⟨F.len,λA outer s H args us vs Q E hr=>F.run A outer s H args us vs Q E (hr.mono h)⟩
def ĥ.imp{P:Program}{w:World}{K:PySem.W.Frag}{mg:Str->Option Value}{base:Heap}{CX:jf}{k:Nat}{f:Addr}{fd:FuncData}{ps:List Str}{sp sp':Sp}(F:ĥ P w K mg base CX k f fd ps sp)
 (h:∀vs H Q E,sp' vs H Q E->sp vs H Q E):ĥ P w K mg base CX k f fd ps sp':=
 ⟨λvs H Q E q=>F.len vs H Q E (h _ _ _ _ q),λA outer s H args us vs Q E hr he hb hv hs=>F.run A outer s H args us vs Q E hr he hb hv (h _ _ _ _ hs)⟩
def yI.make{P:Program}{w:World}{K:PySem.W.Frag}{mg:Str->Option Value}{base:Heap}{A:Around}{outer:List Env}{s:Shared}{H:Hp}(e:yI P w K mg base A outer s H)(C:Addr)(us:List Value)(kw:List (Str×Value)) :
 yI P w K mg base (A.under (.builtin "type.__call__" ⟨.ref C::us,kw⟩)) outer s H:=⟨by first|exact e.frames|(simpa[Around.under,Code.envs,Code.isFrame,pushEnvs] using e.frames),e.mod,e.bs,e.JC,e.lW,e.Uv,e.hok,e.bare,e.tb⟩
section
variable{X:Cx}{pins:List (Addr×Obj)}{σ:St}{H:Hp}{s s':Shared}
def Inv.env0(I:Inv X pins σ H s):yI X.prog X.w X.K X.mg X.base X.A X.stack s H:=
 ⟨I.ok.frames,I.ok.mod,I.bs,Nat.le_trans I.ok.JC I.sz,I.stack,I.Ak,I.hok,I.bare,I.tb⟩
def Inv.after{Q:VK}{u:Value}(I:Inv X pins σ H s)(h:CE X.stack X.prog X.w H s Q u s'):EP X pins σ Q u s':=by
 obtain⟨v,H',os,bare,un,hok,r,q⟩:=h
 obtain⟨hh,g,d,t,os'⟩:=s'
 obtain rfl:os'=s.os:=os
 exact⟨v,H',I.call (h':=hh) (g':=g) (d':=d) (t':=t) (ch:=[]) un hok bare (λb z=>absurd z (by simp)),r,q⟩
end
def Binds(K:PySem.W.Frag)(fd:FuncData)(ps:List Str)(ds:List Value):Prop:=
 ∀(s:Shared) (us:List Value),K.In s.heap->(us++ds).length=ps.length->BindsTo s fd ⟨us,[]⟩ (ps.zip (us++ds))
def Binds.all{K:PySem.W.Frag}{fd:FuncData}{ps:List Str}(h:∀us:List Value,us.length=ps.length->bindArgs fd ⟨us,[]⟩=pure (ps.zip us)):Binds K fd ps []:=λs us _ hl=>by
 rw[List.append_nil] at hl ⊢
 exact .of_eq (h us hl)
section
variable{X:Cx}{CX:jf}{k:Nat}{f C:Addr}{fd:FuncData}{ps:List Str}{sp:Sp}{dvs:List V}{ds:List Value}{E:XK}{x m:Str}{p pos apos:Pos}{e o:Expr}{es:List Expr}{ta:TE}{t:TA}
structure Mk(K:PySem.W.Frag)(C f:Addr):Prop where
 makes:PySem.W.makesIn K C=true
 init:PySem.W.findIn K (.ref C) "__init__" =some (some (.ref f))
 fn:PySem.W.isFn K (.ref f)=true
 kp:PySem.W.keepIn K (.ref C)=true
end
section
variable{X:Cx}{CX:jf}{k:Nat}{f C:Addr}{fd:FuncData}{ps ks:List Str}{sp:Sp}{E:XK}{x m:Str}{p pos apos kpos:Pos}{e o:Expr}{es:List Expr}{kws:List Keyword}{te ta:TE}{t tk:TA}{nm:Option Str}
variable{g:List Value->List Value->List Value}{gV:List V->List V->List V}
end
structure đ(N P:List Str)(sc:Scope):Prop where
 kind:sc.kind=.function
 co:sc.isCoroutine=false
 gen:sc.isGenerator=false
 nd:N.Nodup
 pre:N.take P.length=P
 par:∀x∈P,sc.names.lookup x=some .local\/sc.names.lookup x=some .cell
 Vr:∀y∈sc.names,y.2≠ .free
theorem qN{kindOf:Str->Option NameKind}{x:Str}:∀{binds:List (Str×Value)} {m:Str->Option Value},(∀v,(x,v)∉binds)->bindL kindOf binds m x=m x
 | [],_,_=>rfl
 |(n,v)::r,m,h=>by
  unfold bindL
  rw[qN λw hw=>h w (List.mem_cons_of_mem _ hw)]
  split
  ·have:x≠n:=by rintro rfl;exact h v List.mem_cons_self
   simp[this]
  ·rfl
theorem qO{kindOf:Str->Option NameKind}{x:Str}:∀{binds:List (Str×Value)} {m:Str->Option Value},(∀v,(x,v)∉binds)->bindC kindOf binds m x=m x
 | [],_,_=>rfl
 |(n,v)::r,m,h=>by
  unfold bindC
  rw[qO λw hw=>h w (List.mem_cons_of_mem _ hw)]
  split
  ·rfl
  ·have:x≠n:=by rintro rfl;exact h v List.mem_cons_self
   simp[this]
theorem qP{kindOf:Str->Option NameKind}{x:Str}{v:Value}:∀{P:List Str} {vs:List Value} {i:Nat} {m:Str->Option Value},P.Nodup->P[i]?=some x->vs[i]?=some v->kindOf x=some .local->
 bindL kindOf (P.zip vs) m x=some v
 | [],_,_,_,_,h,_,_=>by simp at h
 |_::_,[],_,_,_,_,h,_=>by simp at h
 |p::P,w::vs,0,m,nd,h1,h2,hk=>by
  simp at h1 h2;subst h1;subst h2
  show bindL kindOf ((p,w)::P.zip vs) m p=_
  unfold bindL
  rw[qN λv hv=>(List.nodup_cons.mp nd).1 (List.of_mem_zip hv).1,if_pos hk]
  simp
 |p::P,w::vs,i+1,m,nd,h1,h2,hk=>by
  show bindL kindOf ((p,w)::P.zip vs) m x=_
  unfold bindL
  exact qP (i:=i) (List.nodup_cons.mp nd).2 (by simpa using h1) (by simpa using h2) hk
theorem qQ{kindOf:Str->Option NameKind}{x:Str}{v:Value}:∀{P:List Str} {vs:List Value} {i:Nat} {m:Str->Option Value},P.Nodup->P[i]?=some x->vs[i]?=some v->kindOf x≠some .local->
 bindC kindOf (P.zip vs) m x=some v
 | [],_,_,_,_,h,_,_=>by simp at h
 |_::_,[],_,_,_,_,h,_=>by simp at h
 |p::P,w::vs,0,m,nd,h1,h2,hk=>by
  simp at h1 h2;subst h1;subst h2
  show bindC kindOf ((p,w)::P.zip vs) m p=_
  unfold bindC
  rw[qO λv hv=>(List.nodup_cons.mp nd).1 (List.of_mem_zip hv).1,if_neg hk]
  simp
 |p::P,w::vs,i+1,m,nd,h1,h2,hk=>by
  show bindC kindOf ((p,w)::P.zip vs) m x=_
  unfold bindC
  exact qQ (i:=i) (List.nodup_cons.mp nd).2 (by simpa using h1) (by simpa using h2) hk
def start(N:List Str)(vs:List V):St:=vs.map some++List.replicate (N.length-vs.length) none
def sX(CX:jf)(P:Program)(w:World)(K:PySem.W.Frag)(mg:Str->Option Value)(base:Heap)(N:List Str)(qual:Str)(scope:Scope)(f:Addr)(cd:Value)(A:Around)(outer:List Env)(s:Shared)(H:Hp)(E:XK):Cx where
 prog:=P
 w:=w
 K:=K
 mg:=mg
 base:=base
 A:=A.deeper (envOfC qual scope s.heap.objs.size f cd)
 N:=N
 s₀:= s
 H₀:= H
 env:=envOfC qual scope s.heap.objs.size f cd
 outer:=outer
 stack:=envOfC qual scope s.heap.objs.size f cd::outer
 ex:=[]
 calm:=true
 fn:=λ_=>true
 pn:=[]
 xe:=λe s'=>wpAny (model P w) (A.deeper (envOfC qual scope s.heap.objs.size f cd)) (leaving (envOfC qual scope s.heap.objs.size f cd) e) (λ_ s''=>CX outer H s E e s'') (λe' s''=>CX outer H s E e' s'') s'
def jg{sc:Scope}{n:Nat}{x:Str}(h:sc.names.lookup x=some .cell):∃c,(cellsFrom n sc.names []).lookup x=some c:=by
 have q:=PySem.W.cellsFrom_some sc.names n [] (.inl h)
 exact Option.isSome_iff_exists.mp q
def Cv{CX:jf}{P:Program}{w:World}{K:PySem.W.Frag}{mg:Str->Option Value}{base:Heap}{N ps:List Str}{qual:Str}{scope:Scope}{f:Addr}{cd:Value}{A:Around}{outer:List Env}{s s1:Shared}{H:Hp}{E:XK}{us:List Value}{vs:List V}
 (S:đ N ps scope)(hd:A.handled=none)(e0:yI P w K mg base A outer s H)(hl:vs.length=ps.length)(r:Vals vs us)
 (x:InCallC s s.heap.objs.size (bindL (envOfC qual scope s.heap.objs.size f cd).kindOf (ps.zip us) λ_=>none) (cellsFrom (s.heap.objs.size+1) scope.names []) (bindC (envOfC qual scope s.heap.objs.size f cd).kindOf (ps.zip us) λ_=>none) s1) :
 Inv (sX CX P w K mg base N qual scope f cd A outer s H E) [] (start N vs) H s1:=by
 have hpl:ps.length<=N.length:=by have:=congrArg List.length S.pre;rw[List.length_take] at this;omega
 obtain⟨h1,tk,rfl,hk⟩:=x.done
 have noA:∀b:Addr,b∉(sX CX P w K mg base N qual scope f cd A outer s H E).ex:=λb z=>absurd (show b∈([]:List Addr) from z) (by simp)
 refine⟨⟨e0.mod,S.kind,rfl,rfl,Nat.le_refl _,λy z c h1 h2=>?_,λy hy=>?_,λy c _ h=>?_,λ_=>hd,Around.frames_deeper e0.frames,.inr ⟨rfl,rfl⟩,λb z=>absurd z (noA b),e0.bs,e0.JC,λb _ _=>noA b,λb z=>absurd z (noA b),e0.lW,e0.Uv,e0.tb⟩,
  rfl,e0.bare,Un.kept hk,⟨_,x.toInCall.ns,λi y v h1 h2 h3=>?_⟩,λy c h=>⟨_,x.cell y c h⟩,e0.hok.fresh (Nat.le_refl _),λy c h=>?_,λp hp=>absurd (show p∈([]:List (Addr×Obj)) from hp) (by simp),e0.hok.kept hk,?_⟩
 ·exact name_of_addr x.apart (PySem.mem_of_lookup h1) (PySem.mem_of_lookup h2)
 ·have hy:scope.names.lookup y=some .cell\/scope.names.lookup y=some .free:=hy
  rcases hy with hy|hy
  ·exact jg hy
  ·exact absurd rfl (S.Vr _ (PySem.mem_of_lookup hy))
 ·exact Nat.le_of_lt (x.above y c (PySem.mem_of_lookup h))
 ·have hi:i<vs.length:=by
   unfold start at h2
   by_cases hi:i<vs.length
   ·exact hi
   ·rw[List.getElem?_append_right (by simpa using hi)] at h2
    rw[List.getElem?_replicate] at h2
    split at h2<;>cases h2
  have ha:vs[i]?=some v:=by
   unfold start at h2
   rw[List.getElem?_append_left (by simpa using hi),List.getElem?_map] at h2
   cases e:vs[i]? with
   |none=>rw[e] at h2;cases h2
   |some a=>rw[e] at h2;cases h2;rfl
  obtain⟨u,hu,rv⟩:=r.get ha
  have hp:ps[i]?=some y:=by
   rw[<-S.pre,List.getElem?_take_of_lt (by omega)];exact h1
  have ndP:ps.Nodup:=by rw[<-S.pre];exact S.nd.sublist (List.take_sublist _ _)
  refine⟨u,rv,?_⟩
  rcases S.par y (List.mem_of_getElem? hp) with k|k
  ·exact .inl ⟨k,qP ndP hp hu k⟩
  ·obtain⟨c,e⟩:=jg (n:=s.heap.objs.size+1) k
   refine .inr ⟨.inl k,c,e,?_⟩
   have q:=x.cell y c e
   rw[qQ ndP hp hu (by show scope.names.lookup y≠_;rw[k];decide)] at q
   exact q
 ·exact e0.hok.fresh (Nat.le_of_lt (x.above y c (PySem.mem_of_lookup h)))
 ·unfold start
  show _=N.length
  rw[List.length_append,List.length_map,List.length_replicate]
  omega
def MN{CX:jf}{P:Program}{w:World}{K:PySem.W.Frag}{mg:Str->Option Value}{base:Heap}{k:Nat}{f:Addr}{name qual:Str}{params:Arguments}{body:List Stmt}{scope:Scope}{dV kV doc pm cdv ct oc:Value}{an od:Option Addr}
 {osl:Array (Option Value)}{N ps:List Str}{sp:Sp}(lk:K.lookup f=some ⟨oc,od,.func (PySem.W.fnOf name qual params body scope dV kV doc pm an cdv ct),osl⟩)(hcd:PySem.W.codeIn K cdv qual=true)(S:đ N ps scope)
 (len:∀vs H Q E,sp vs H Q E->vs.length=ps.length)
 (hbody:∀(A:Around) (outer:List Env) (s:Shared) (H:Hp) (vs:List V) (Q:VK) (E:XK),Ŭ k (A.deeper (envOfC qual scope s.heap.objs.size f cdv))→sp vs H Q E→
   ∃t,fC (sX CX P w K mg base N qual scope f cdv A outer s H E) body t/\t {nx:=λ_ H'=>Q .non H',rt:=Q} (start N vs) H) :
 ĥ P w K mg base CX (k+1) f (PySem.W.fnOf name qual params body scope dV kV doc pm an cdv ct) ps sp:=by
 refine⟨len,λA outer s H args us vs Q E hr e0 hb r hsp=>?_⟩
 have hl:=len _ _ _ _ hsp
 have KX:K.In s.heap:=e0.mod.YH.keeps λb o e=>(e0.bs b o e).1
 have lim:s.heap.NoLimit:=e0.mod.nolimit.keeps λb o e=>(e0.bs b o e).1
 have hkind:∀y∈ps.zip us,scope.names.lookup y.1=some .local\/(scope.names.lookup y.1=some .cell/\((cellsFrom (s.heap.objs.size+1) scope.names []).lookup y.1).isSome=true):=λ⟨n,v⟩ hy=>by
  rcases S.par n (List.of_mem_zip hy).1 with q|q
  ·exact .inl q
  ·exact .inr ⟨q,PySem.W.cellsFrom_some _ _ _ (.inl q)⟩
 refine codeAny_call_function hr.depth (KX _ _ lk) rfl S.co S.gen rfl (PySem.W.codeRec_of KX hcd) (hb _ _ _ _ ?_)
 refine wpAny_newFunctionEnv_cells S.kind hkind λenv he s1 x=>?_
 subst he
 refine⟨lim.keeps x.toInCall.keep,codeAny_func ?_⟩
 obtain⟨t,ht,hq⟩:=hbody A outer s H vs Q E (hr.deeper _) hsp
 have I:Inv (sX CX P w K mg base N qual scope f cdv A outer s H E) [] (start N vs) H s1:=Cv S hr.hd e0 hl r x
 refine wpAny_mono (ht [] s1 (start N vs) H _ I hq) (λfl s' hs=>?_) λe s' hs=>hs
 have fin:∀{σ':St} {H':Hp} {v:V} {u:Value},Inv (sX CX P w K mg base N qual scope f cdv A outer s H E) [] σ' H' s'->RelV v u->Q v H'->CE outer P w H s Q u s':=
  fun{σ' H' v u} J rv q=>⟨v,H',J.os,J.bare,J.base,J.hok,rv,q⟩
 cases fl with
 |ret u=>
  obtain⟨v,σ',H',J,rv,q⟩:=hs
  exact fin J rv q
 |next=>
  obtain⟨σ',H',J,q⟩:=hs
  exact fin (v:=V.non) (u:=Value.none) J rfl q
 |brk=>
  obtain⟨_,_,_,q⟩:=hs
  exact False.elim q
 |cont=>
  obtain⟨_,_,_,q⟩:=hs
  exact False.elim q
end L2
namespace L2
open PySem PySem.Spec PyProof.Rows
section
variable{X:Cx}{x:Str}{p pos:Pos}{e:Expr}{es:List Expr}{t:TA}{id T:String}{r:List V->Hp->VK->Prop}
def tCB(r:List V->Hp->VK->Prop)(t:TA):TE:=λσ H Q=>t σ H λvs H1=>r vs H1 Q
def Ef(hc:ņ X (.builtin id) r)(hg:Gl X x)(hm:X.mg x=none)(hv:bootBuiltins x=some (.builtin id))(ha:PA X (e::es) t)(hn:x≠ "__name__" := by decide)(hdb:(x== ("__debug__" :Str))=false:=by decide)
 (he:starEach (e::es) X.env=(false,eval e X.env)::starEach es X.env:=by rfl)(hpl:(backTo pos (starEach es X.env)).any (·.1)=false:=by rfl):PE X (.Call (.Name x p) (e::es) [] pos) (tCB r t):=by
 intro pins s σ H Q I h
 refine wpAny_Call_Name_kw (nC I hg hm hv ?_ hn hdb)
 exact PyProof.Rows.callWith_builtin1 (Ŏ (ha pos pins s σ H _ I h) λus s1 ⟨vs,H1,I1,r1,q1⟩=>hc pins s1 σ H1 vs us Q I1 r1 q1) he hpl
def jR(hc:ņ X (.type T) r)(hg:Gl X x)(hm:X.mg x=none)(hv:bootBuiltins x=some (.type T))(ha:PA X (e::es) t)(hn:x≠ "__name__" := by decide)(hdb:(x== ("__debug__" :Str))=false:=by decide)
 (he:starEach (e::es) X.env=(false,eval e X.env)::starEach es X.env:=by rfl)(hpl:(backTo pos (starEach es X.env)).any (·.1)=false:=by rfl):PE X (.Call (.Name x p) (e::es) [] pos) (tCB r t):=by
 intro pins s σ H Q I h
 refine wpAny_Call_Name_kw (nC I hg hm hv ?_ hn hdb)
 exact PyProof.Rows.callWith_type1 (Ŏ (ha pos pins s σ H _ I h) λus s1 ⟨vs,H1,I1,r1,q1⟩=>hc pins s1 σ H1 vs us Q I1 r1 q1) he hpl
end
end L2
namespace HT
open PySem PyProof.Rows
section
open PySem.SeqAt
open PySem.AutoSeq1 (wpAny_loadPart')
open PySem.MeetsSeq PySem.MeetsSeq2 PySem.MeetsSeq3
end
section
variable{prog:Program}{w:World}{A:Around}{E:Value->Shared->Prop}{s:Shared}
def gZ(n d:Nat):Option Int->Nat
 |none=>d
 |some v=>if v<0 then(v+(n:Int)).toNat else min v.toNat n
def Eh(n d:Nat)(hd:d<=n)(o:Option Int):gZ n d o<=n:=by
 cases o with
 |none=>exact hd
 |some v=>
  show(if v<0 then(v+(n:Int)).toNat else min v.toNat n)<=n
  by_cases hv:v<0
  ·rw[if_pos hv];omega
  ·rw[if_neg hv];exact Nat.min_le_right _ _
end
end HT
namespace L2
open PySem PySem.Spec PyProof.Rows
abbrev TO:=St->Hp->(Option Int->Hp->Prop)->Prop
def PO(X:Cx)(e:Option Expr)(t:TO):Prop:=
 ∀(pins:List (Addr×Obj)) (s:Shared) (σ:St) (H:Hp) (Q:Option Int->Hp->Prop),Inv X pins σ H s->t σ H Q->
  wpAny (model X.prog X.w) X.A (evalPart e X.env) (λu s'=>∃o H',Inv X pins σ H' s'/\IsPart u o/\Q o H') X.xe s
def JW:TO:=λ_ H Q=>Q none H
def MP(t:TE):TO:=λσ H Q=>t σ H λx H1=>∃i,x=.int i/\Q (some i) H1
section
variable{X:Cx}{e:Expr}{te:TE}{lo hi:Option Expr}{tl th:TO}{pos p2:Pos}
def JX:PO X none JW:=by
 intro pins s σ H Q I h
 rw[evalPart_none]
 exact wpAny_pure ⟨none,H,I,.none,h⟩
def JZ(h:PE X e te):PO X (some e) (MP te):=by
 intro pins s σ H Q I hw
 rw[evalPart_some]
 refine Ŏ (h pins s σ H _ I hw) λu s1 ⟨x,H1,I1,r1,q1⟩=>?_
 obtain⟨i,rfl,q⟩:=q1
 obtain⟨t,rfl⟩:=r1
 exact⟨some i,H1,I1,.int i t,q⟩
def Ar(X:Cx)(r:V->Option Int->Option Int->Hp->VK->Prop):Prop:=
 ∀(pins:List (Addr×Obj)) (s:Shared) (σ:St) (H:Hp) (x:V) (v vl vu:Value) (lo hi:Option Int) (sl:Addr) (Q:VK),Inv X pins σ H s->RelV x v->s.heap.IsSliceOf sl vl vu .none->IsPart vl lo->IsPart vu hi->r x lo hi H Q->
  ∃T id,typeLookup (.type T) "__getitem__" =pure (some (.builtin id))/\s.TypeIs v T/\wpAny (model X.prog X.w) X.A (getItem v (.ref sl)) (EP X pins σ Q) X.xe s
def Ar.or{r r':V->Option Int->Option Int->Hp->VK->Prop}(h:Ar X r)(h':Ar X r'):Ar X (λx lo hi H Q=>r x lo hi H Q\/r' x lo hi H Q):=by
 intro pins s σ H x v vl vu lo hi sl Q I rx hs pl pu q
 rcases q with q|q
 ·exact h pins s σ H x v vl vu lo hi sl Q I rx hs pl pu q
 ·exact h' pins s σ H x v vl vu lo hi sl Q I rx hs pl pu q
def tSl(r:V->Option Int->Option Int->Hp->VK->Prop)(te:TE)(tl th:TO):TE:=λσ H Q=>te σ H λx H1=>tl σ H1 λl H2=>th σ H2 λu H3=>r x l u H3 Q
def Ei{r:V->Option Int->Option Int->Hp->VK->Prop}(hr:Ar X r)(he:PE X e te)(hl:PO X lo tl)(hu:PO X hi th):PE X (.Subscript e (.Slice lo hi none p2) pos) (tSl r te tl th):=by
 intro pins s σ H Q I h
 refine Subscript_ (Ŏ (he pins s σ H _ I h) λv s1 ⟨x,H1,I1,r1,q1⟩=>?_)
 refine wpAny_Slice (Ŏ (hl pins s1 σ H1 _ I1 q1) λvl s2 ⟨l,H2,I2,pl,q2⟩=>Ŏ (hu pins s2 σ H2 _ I2 q2) λvu s3 ⟨u,H3,I3,pu,q3⟩=>?_)
 rw[evalPart_none]
 refine wpAny_pure ?_
 have I4:Inv X pins σ H3 {s3 with heap:=s3.heap.push {cls:=.type "slice",data:=.fields #[vl,vu,.none]}}:=I3.kept (t':=s3.toks) λb ob q=>Heap.get?_push_of_some _ q
 obtain⟨T,id,hT,ht,hg⟩:=hr pins {s3 with heap:=s3.heap.push {cls:=.type "slice",data:=.fields #[vl,vu,.none]}} σ H3 x v vl vu l u s3.heap.objs.size Q I4 r1 (Heap.IsSliceOf.new ..) pl pu q3
 show wpAny (model X.prog X.w) X.A (subscriptTail e (.Slice lo hi none p2) v (.ref s3.heap.objs.size)) (EP X pins σ Q) X.xe {s3 with heap:=s3.heap.push {cls:=.type "slice",data:=.fields #[vl,vu,.none]}}
 exact tail_any (ops:=[.ref s3.heap.objs.size,v]) ht hT hg (by with_unfolding_all rfl)
def vN(xs:List V)(lo hi:Option Int):List V:=(xs.drop (HT.gZ xs.length 0 lo)).take (HT.gZ xs.length xs.length hi-HT.gZ xs.length 0 lo)
def vO(xs:List V)(lo hi:Option Int):(vN xs lo hi).length<=xs.length:=by
 unfold vN
 rw[List.length_take,List.length_drop]
 omega
end
end L2
namespace L2
open PySem PySem.Spec PyProof.Rows
def xW(n:Nat)(i:Int):Option Nat:=if 0<=i then(if i<n then some i.toNat else none) else if -(n:Int)<=i then some (i+n).toNat else none
def lX{α:Type}(xs:List α)(i:Int):Option α:= (xW xs.length i).bind λj=>xs[j]?
def Av{n:Nat}{i:Int}{j:Nat}(h:xW n i=some j):seqIndex? i n=some j/\j<n/\ -(n:Int)<=i/\i<n:=by
 unfold xW at h
 by_cases h0:0<=i
 ·rw[if_pos h0] at h
  by_cases h1:i<n
  ·rw[if_pos h1] at h
   have e:i.toNat=j:=Option.some.inj h
   exact⟨by rw[seqIndex_of h0 h1,e],by omega,by omega,h1⟩
  ·rw[if_neg h1] at h;cases h
 ·rw[if_neg h0] at h
  by_cases h1: -(n:Int)<=i
  ·rw[if_pos h1] at h
   have e:(i+n).toNat=j:=Option.some.inj h
   exact⟨by rw[seqIndex_neg (by omega) h1,e],by omega,h1,by omega⟩
  ·rw[if_neg h1] at h;cases h
def sY{α:Type}{xs:List α}{i:Int}{v:α}(h:lX xs i=some v):∃j,seqIndex? i xs.length=some j/\xs[j]?=some v/\j<xs.length/\ -(xs.length:Int)<=i/\i<xs.length:=by
 unfold lX at h
 cases e:xW xs.length i with
 |none=>rw[e] at h;cases h
 |some j=>
  rw[e] at h
  obtain⟨h1,h2,h3,h4⟩:=Av e
  exact⟨j,h1,h,h2,h3,h4⟩
def mV(b:Expr):Prop:=∀o i,subscripted b false o i=operate [o,i] (getItem o i)
def yJ(X:Cx)(r:R2):Prop:=
 ∀(value slice:Expr) (pins:List (Addr×Obj)) (s:Shared) (σ:St) (H:Hp) (x y:V) (v u:Value) (Q:VK),Inv X pins σ H s->RelV x v->RelV y u->r x y H Q->
  subscripted slice false v u=operate [v,u] (getItem v u)->wpAny (model X.prog X.w) X.A (subscriptTail value slice v u) (EP X pins σ Q) X.xe s
def MtR(X:Cx)(id:String)(r:V->List V->Hp->VK->Prop):Prop:=
 ∀(pins:List (Addr×Obj)) (s:Shared) (σ:St) (H:Hp) (x:V) (xs:List V) (v:Value) (us:List Value) (Q:VK),Inv X pins σ H s->RelV x v->Vals xs us->r x xs H Q->
  wpAny (model X.prog X.w) X.A (call (.builtin id) (v::us)) (EP X pins σ Q) X.xe s
section
variable{X:Cx}{a b:Expr}{ta tb:TE}{pos:Pos}
def yJ.or{r r':R2}(h:yJ X r)(h':yJ X r'):yJ X (λx y H Q=>r x y H Q\/r' x y H Q):=by
 intro value slice pins s σ H x y v u Q I rx ry q hs
 rcases q with q|q
 ·exact h value slice pins s σ H x y v u Q I rx ry q hs
 ·exact h' value slice pins s σ H x y v u Q I rx ry q hs
def vP{r:R2}(hr:yJ X r)(ha:PE X a ta)(hb:PE X b tb)(hs:mV b):PE X (.Subscript a b pos) (Dt r ta tb):=by
 intro pins s σ H Q I h
 exact Subscript_ (Ve ha hb I h λv u s2 x y H2 I2 rx ry q=>hr a b pins s2 σ H2 x y v u Q I2 rx ry q (hs _ _))
def Zam(K:PySem.W.Frag):R2:=λx y H Q=>∃p xs i v,x=.ref p/\y=.int i/\Ř K H p xs/\lX xs i=some v/\Q v H
def Zan(K:PySem.W.Frag):R2:=λx y H Q=>∃p xs i v,x=.ref p/\y=.int i/\bW K H p xs/\lX xs i=some v/\Q v H
def Zao:R2:=λx y H Q=>∃z i c,x=.str z/\y=.int i/\z.length<=sizeLine/\lX z.cps.toList i=some c/\Q (.str ⟨#[c]⟩) H
def J_:yJ X (Zam X.K):=by
 intro value slice pins s σ H x y v u Q I rx ry h hs
 obtain⟨p,xs,i,z,rfl,rfl,hq,he,q⟩:=h
 cases rx
 obtain⟨t,rfl⟩:=ry
 obtain⟨its,r,pl,hz⟩:=I.list hq
 obtain⟨j,h1,h2,h3,h4,h5⟩:=sY he
 obtain⟨w,ew,rw'⟩:=r.get h2
 have hl:=r.length
 have hn:=jO
 have fin:EP X pins σ Q w s:=⟨z,H,I,rw',q⟩
 by_cases h0:0<=i
 ·have hj:i.toNat=j:=by
   rw[seqIndex_of h0 h5] at h1
   exact Option.some.inj h1
  exact item_listR pl.isList h0 (by omega) (by rw[hj];simpa using ew) fin hs
 ·have hj:(i+(its.toArray.size:Int)).toNat=j:=by
   rw[seqIndex_neg (by omega) h4] at h1
   rw[List.size_toArray,<-hl]
   exact Option.some.inj h1
  exact subscriptTail_builtinR (x:=w) pl.isList.typeIs slot_list_getitem.lookup
   (wpAny_getItem_list_neg (Q:=λr s'=>r=w/\EP X pins σ Q r s') pl.isList (by omega) (by rw[List.size_toArray]<;>omega) (by omega) (by rw[hj];simpa using ew) ⟨rfl,fin⟩) hs
def Vs:yJ X (Zan X.K):=by
 intro value slice pins s σ H x y v u Q I rx ry h hs
 obtain⟨p,xs,i,z,rfl,rfl,hq,he,q⟩:=h
 cases rx
 obtain⟨t,rfl⟩:=ry
 obtain⟨its,r,pl,hz⟩:=I.tuple hq
 obtain⟨j,h1,h2,h3,h4,h5⟩:=sY he
 obtain⟨w,ew,rw'⟩:=r.get h2
 have hl:=r.length
 have hn:=jO
 have fin:EP X pins σ Q w s:=⟨z,H,I,rw',q⟩
 exact subscriptTail_builtinR (x:=w) pl.typeIs slot_tuple_getitem.lookup
  (getItem_tuple (j:=j) (Q:=λr s'=>r=w/\EP X pins σ Q r s') pl (by omega) (by omega) (by rw[List.size_toArray,<-hl];exact h1) (by simpa using ew) ⟨rfl,fin⟩) hs
def Vt:yJ X Zao:=by
 intro value slice pins s σ H x y v u Q I rx ry h hs
 obtain⟨z,i,c,rfl,rfl,hz,he,q⟩:=h
 obtain⟨t,rfl⟩:=rx
 obtain⟨t',rfl⟩:=ry
 obtain⟨j,h1,h2,h3,h4,h5⟩:=sY he
 have hl:z.cps.toList.length=z.length:=by simp[Str.length]
 rw[hl] at h1 h4 h5
 have hn:=jO
 exact tail_any (typeIs_str s z t) slot_str_getitem.lookup (getItem_str (c:=c) (by
  have e1:decide (i < -(2 ^ 63:Int))=false:=decide_eq_false (by omega)
  have e2:decide (i >= 2 ^ 63)=false:=decide_eq_false (by omega)
  rw[e1,e2,Bool.or_false]) (by rw[h1];simpa using h2) ⟨.str ⟨#[c]⟩,H,I.tok _,⟨_,rfl⟩,q⟩) hs
def rIx(K:PySem.W.Frag):R2:=λx y H Q=>Zam K x y H Q\/Zan K x y H Q\/Zao x y H Q
def nF:yJ X (rIx X.K):=J_.or (Vs.or Vt)
def yK(its:List Value)(n j:Nat)(u:Value):Obj.mapSeq (·.setIfInBounds j u) {cls:=.type "list",data:=.seq its.toArray n}= {cls:=.type "list",data:=.seq (its.set j u).toArray n}:=by
 simp[Obj.mapSeq]
theorem Inv.lst{pins:List (Addr×Obj)}{σ:St}{H:Hp}{s:Shared}{p:Addr}{xs:List V}(I:Inv X pins σ H s)(h:H p=some (.lst xs)) :
 ∃(its:List Value) (n:Nat),Vals xs its/\s.heap.get? p=some {cls:=.type "list",data:=.seq its.toArray n}/\xs.length<=sizeLine:=by
 obtain⟨z,its,n,r,e⟩:=I.hok p _ h
 exact⟨its,n,r,e,z⟩
def Inv.Vu{pins:List (Addr×Obj)}{σ:St}{H:Hp}{s:Shared}{p:Addr}{xs ys:List V}{its its':List Value}{n n':Nat}{f:Obj->Obj}(I:Inv X pins σ H s)(h:H p=some (.lst xs))
 (ho:s.heap.get? p=some {cls:=.type "list",data:=.seq its.toArray n})(hf:f {cls:=.type "list",data:=.seq its.toArray n}= {cls:=.type "list",data:=.seq its'.toArray n'})(r:Vals ys its')(hz:ys.length<=sizeLine)(t:Nat) :
 Inv X pins σ (upd H p (.lst ys)) {s with heap:=s.heap.update p f,toks:=t}:=by
 have e:(s.heap.update p f).get? p=some {cls:=.type "list",data:=.seq its'.toArray n'}:=by
  rw[Heap.get?_update_self f ho (by rw[hf]<;>rfl),hf]
 refine I.write (x:=p) (e:=p) (by rw[h];trivial) (.inl rfl) (λb u hb q=>(Heap.get?_update_other _ _ (Ne.symm hb)).trans q) ⟨_,e⟩ ?_
 exact⟨hz,its',n',r,e⟩
def Zap:V->V->V->Hp->(Hp->Prop)->Prop:=λo i v H Q=>∃p xs k j,o=.ref p/\i=.int k/\H p=some (.lst xs)/\xW xs.length k=some j/\Q (upd H p (.lst (xs.set j v)))
def set_list:Zae X Zap:=by
 intro pins s σ H o i v ov iv u Q I ro ri rv h
 obtain⟨p,xs,k,j,rfl,rfl,hp,hj,q⟩:=h
 cases ro
 obtain⟨t,rfl⟩:=ri
 obtain⟨its,n,r,ho,hz⟩:=I.lst hp
 obtain⟨h1,h2,h3,h4⟩:=Av hj
 have hl:=r.length
 have hn:=jO
 have I':Inv X pins σ (upd H p (.lst (xs.set j v))) {s with heap:=s.heap.update p (Obj.mapSeq (·.setIfInBounds j u))}:=
  I.Vu hp ho (yK its n j u) (r.set rv j) (by rw[List.length_set];exact hz) s.toks
 by_cases h0:0<=k
 ·have hk:k.toNat=j:=by
   rw[seqIndex_of h0 h4] at h1
   exact Option.some.inj h1
  exact PySem.W.ki_setAt ho h0 (by omega) (by rw[List.size_toArray,<-hl];exact h4) (by rw[hk];exact⟨_,I',q⟩)
 ·have hk:(k+(its.toArray.size:Int)).toNat=j:=by
   rw[seqIndex_neg (by omega) h3] at h1
   rw[List.size_toArray,<-hl]
   exact Option.some.inj h1
  exact PySem.W.ki_setBack ho (by omega) (by rw[List.size_toArray,<-hl];exact h3) (by omega) (by rw[hk];exact⟨_,I',q⟩)
def sZ(lo hi:Option Int)(n:Nat):(sliceBounds lo hi none n).1=((HT.gZ n 0 lo:Nat):Int)/\(sliceBounds lo hi none n).2.1=((HT.gZ n n hi:Nat):Int)/\(sliceBounds lo hi none n).2.2=1:=by
 refine⟨?_,?_,rfl⟩
 ·cases lo with
  |none=>simp[sliceBounds,HT.gZ]
  |some i=>
   simp only[sliceBounds,HT.gZ,Option.getD_none,show(1:Int)>0 by decide,if_true]
   by_cases h:i<0
   ·simp only[h,if_true]<;>omega
   ·simp only[h,if_false]<;>omega
 ·cases hi with
  |none=>simp[sliceBounds,HT.gZ]
  |some i=>
   simp only[sliceBounds,HT.gZ,Option.getD_none,show(1:Int)>0 by decide,if_true]
   by_cases h:i<0
   ·simp only[h,if_true]<;>omega
   ·simp only[h,if_false]<;>omega
def qm(its:List Value)(lo hi:Option Int):slicePick its.toArray lo hi none=((its.drop (HT.gZ its.length 0 lo)).take (HT.gZ its.length its.length hi-HT.gZ its.length 0 lo)).toArray:=by
 obtain⟨h1,h2,h3⟩:=sZ lo hi its.toArray.size
 unfold slicePick
 rw[h1,h2,h3]
 simp only[sliceRange_one,pick_run,List.size_toArray]<;>rfl
def ZcY(K:PySem.W.Frag):V->Option Int->Option Int->Hp->VK->Prop:=λx lo hi H Q=>∃a xs,x=.ref a/\Ř K H a xs/\∀p,H p=none->Q (.ref p) (upd H p (.lst (vN xs lo hi)))
def Ka:Ar X (ZcY X.K):=by
 intro pins s σ H x v vl vu lo hi sl Q I rx hs pl pu h
 obtain⟨a,xs,rfl,hx,q⟩:=h
 cases rx
 obtain⟨its,r,ht,hz⟩:=I.list hx
 have hlen:=r.length
 refine⟨"list",_,slot_list_getitem.lookup,ht.isList.typeIs,?_⟩
 refine wpAny_getItem_list_slice ht.isList hs pl pu .none (by simp) ?_ (by rw[List.size_toArray]<;>omega)
 rw[qm,<-hlen]
 refine⟨.ref s.heap.objs.size,_,I.laid (t':=s.toks) (o:=.lst (vN xs lo hi)) (λb ob q=>Heap.get?_push_of_some _ q) (Nat.le_refl _) ?_,rfl,q _ (I.hok.fresh (Nat.le_refl _))⟩
 exact⟨Nat.le_trans (vO xs lo hi) hz,_,0,(r.drop (HT.gZ xs.length 0 lo)).take (HT.gZ xs.length xs.length hi-HT.gZ xs.length 0 lo),Heap.get?_push_size _ rfl⟩
def tu:ņ X (.type "list") (λxs H Q=>∃p ys,xs=[.ref p]/\(Ř X.K H p ys\/bW X.K H p ys)/\∀l,H l=none->Q (.ref l) (upd H l (.lst ys))):=by
 intro pins s σ H xs us Q I r h
 obtain⟨p,ys,rfl,hq,q⟩:=h
 obtain⟨u,rfl,rx⟩:=vals1 r
 cases rx
 have fin:∀(its:List Value),Vals ys its->ys.length<=sizeLine->∀(h':Heap) (c':Nat),(∀b o',s.heap.get? b=some o'->h'.get? b=some o')->
  h'.get? s.heap.objs.size=some {cls:=.type "list",dict:=none,data:=.seq its.toArray c',slots:=#[]}->EP X pins σ Q (.ref s.heap.objs.size) {s with heap:=h'}:=λits r' hz h' c' kp e=>
  ⟨.ref s.heap.objs.size,_,I.laid (t':=s.toks) kp (Nat.le_refl _) (show ŵ X.prog X.w _ h' _ (.lst ys) from⟨hz,its,c',r',e⟩),rfl,q _ (I.hok.fresh (Nat.le_refl _))⟩
 rcases hq with hq|hq
 ·obtain⟨its,r',pl,hz⟩:=I.list hq
  have hlen:=r'.length
  obtain⟨o,ho,hc,n,hd⟩:=pl.isList
  exact call_list_seq p (.inl rfl) ho hc hd (λh' c' kp e=>fin its r' hz h' c' kp e) (by simp only[List.size_toArray]<;>omega)
 ·obtain⟨its,r',pl,hz⟩:=I.tuple hq
  have hlen:=r'.length
  obtain⟨o,ho,hc,n,hd⟩:=pl
  exact call_list_seq p (.inr rfl) ho hc hd (λh' c' kp e=>fin its r' hz h' c' kp e) (by simp only[List.size_toArray]<;>omega)
def qt:ņ X (.type "tuple") (λxs H Q=>∃p ys,xs=[.ref p]/\((Ř X.K H p ys/\∀l,H l=none->Q (.ref l) (upd H l (.tup ys)))\/(bW X.K H p ys/\Q (.ref p) H))):=by
 intro pins s σ H xs us Q I r h
 obtain⟨p,ys,rfl,h⟩:=h
 obtain⟨u,rfl,rx⟩:=vals1 r
 cases rx
 rcases h with⟨hq,q⟩|⟨hq,q⟩
 ·obtain⟨its,r',pl,hz⟩:=I.list hq
  have hlen:=r'.length
  refine call_tuple_list pl.isList (λh' kp=>?_) (by simp only[List.size_toArray]<;>omega)
  have I1:Inv X pins σ H {s with heap:=h'}:=I.kept (t':=s.toks) kp
  have I2:Inv X pins σ (upd H h'.objs.size (.tup ys)) {s with heap:=h'.push {cls:=.type "tuple",data:=.seq its.toArray}}:=
   I1.laid (t':=s.toks) (λb o e=>Heap.get?_push_of_some _ e) (Nat.le_refl _) (show ŵ X.prog X.w _ _ _ (.tup ys) from⟨hz,its,r',IsTup.new _ _⟩)
  exact⟨.ref h'.objs.size,_,I2,rfl,q _ (I1.hok.fresh (Nat.le_refl _))⟩
 ·obtain⟨its,r',pl,hz⟩:=I.tuple hq
  exact call_tuple_same pl ⟨.ref p,H,I,rfl,q⟩
def tyV(K:PySem.W.Frag)(T:String)(x:V)(H:Hp):Prop:=match x with
 | .str _=>T= "str"
 | .int _=>T= "int"
 | .ref p=>(T= "list" ∧∃xs,Ř K H p xs)∨(T= "tuple" ∧∃o,K.lookup p=some o∧o.cls=.type "tuple" ∧o.dict=none)∨
     (T= "dict" /\((∃kvs,H p=some (.dK kvs))\/∃kvs,H p=some (.dT kvs)))\/(T= "set" /\∃S n,H p=some (.set S n))
 |_=>False
def Ej{pins:List (Addr×Obj)}{σ:St}{H:Hp}{s:Shared}{T:String}{x:V}{v:Value}(I:Inv X pins σ H s)(r:RelV x v)(ty:tyV X.K T x H) :
 s.TypeIs v T/\∀a,v=.ref a->∃ob,s.heap.get? a=some ob/\ob.dict=none:=by
 cases x with
 |str z=>
  obtain⟨t,rfl⟩:=r
  cases(show T= "str" from ty)
  exact⟨typeIs_str s z t,λ_ e=>nomatch e⟩
 |int i=>
  obtain⟨t,rfl⟩:=r
  cases(show T= "int" from ty)
  exact⟨typeIs_int s i t,λ_ e=>nomatch e⟩
 |ref p=>
  cases r
  rcases ty with⟨rfl,xs,hq⟩|⟨rfl,o,hk,hc,hd⟩|⟨rfl,hk⟩|⟨rfl,S,n,hk⟩
  ·obtain⟨its,_,pl,_⟩:=I.list hq
   refine⟨pl.isList.typeIs,λa e=>?_⟩
   cases e
   obtain⟨o,n,e,c,hd,_⟩:=pl
   exact⟨o,e,hd⟩
  ·refine⟨⟨o,I.jM p o hk,hc⟩,λa e=>?_⟩
   cases e
   exact⟨o,I.jM _ o hk,hd⟩
  ·have z:∃o,s.heap.get? p=some o∧o.ExactDict:=by
    rcases hk with⟨kvs,hk⟩|⟨kvs,hk⟩
    ·obtain⟨_,_,_,_,o,_,_,e,ex,_⟩:=I.hok p _ hk
     exact⟨o,e,ex⟩
    ·obtain⟨_,_,_,_,o,_,_,e,ex,_⟩:=I.hok p _ hk
     exact⟨o,e,ex⟩
   obtain⟨o,e,ex⟩:=z
   refine⟨⟨o,e,ex.1⟩,λa e2=>?_⟩
   cases e2
   exact⟨o,e,ex.2.1⟩
  ·obtain⟨o,_,_,_,e,ex,_⟩:=I.hok p _ hk
   refine⟨⟨o,e,ex.1⟩,λa e2=>?_⟩
   cases e2
   exact⟨o,e,ex.2.1⟩
 |_=>exact False.elim ty
def Kc(K:PySem.W.Frag)(T:String)(r:V->List V->Hp->VK->Prop)(to:TE):TE:=λσ H Q=>to σ H λx H1=>tyV K T x H1/\r x [] H1 Q
def tBM(K:PySem.W.Frag)(T:String)(r:V->List V->Hp->VK->Prop)(to:TE)(t:TA):TE:=λσ H Q=>to σ H λx H1=>tyV K T x H1/\t σ H1 λxs H2=>r x xs H2 Q
variable{o e:Expr}{es:List Expr}{to:TE}{t:TA}{name:Str}{apos cpos:Pos}{T id:String}{r:V->List V->Hp->VK->Prop}
def yL(pa:PlainAttrs T)(slot:Slot T name id)(hty:typeOf (.builtin id)=pure (.type "method_descriptor"))(hm:MtR X id r)(ho:PE X o to)
 (hbase:attributeBase o name X.env (eval o X.env)=eval o X.env:=by rfl)(hline:(apos.endLine== cpos.line)=true:=by rfl):PE X (.Call (.Attribute o name apos) [] [] cpos) (Kc X.K T r to):=by
 intro pins s σ H Q I h
 refine wpAny_Call_method0_late hbase hline (Ŏ (ho pins s σ H _ I h) λv s1 ⟨x,H1,I1,r1,ty,q1⟩=>?_)
 obtain⟨h1,h2⟩:=Ej I1 r1 ty
 exact⟨T,id,pa,slot,hty,h1,h2,Calls.callWith_builtin rfl (PySem.evalArgs_none (hm pins s1 σ H1 x [] v [] Q I1 r1 .nil q1))⟩
def nG(pa:PlainAttrs T)(slot:Slot T name id)(hty:typeOf (.builtin id)=pure (.type "method_descriptor"))(hm:MtR X id r)(ho:PE X o to)(ha:PA X (e::es) t)
 (hbase:attributeBase o name X.env (eval o X.env)=eval o X.env:=by rfl)
 (hfew:((backTo cpos (starEach (e::es) X.env)).all (fun x=>!x.1) && (backToKw cpos (keywordEach [] X.env)).all (fun x=>x.1.isSome)
   && decide ((e::es).length+([]:List Keyword).length+(if([]:List Keyword).isEmpty then 0 else 1)<30))=true:=by rfl)
 (hline:(apos.endLine== cpos.line)=true:=by rfl)(hs:starEach (e::es) X.env=(false,eval e X.env)::starEach es X.env:=by rfl)(hplain:(backTo cpos (starEach es X.env)).any (·.1)=false:=by rfl) :
 PE X (.Call (.Attribute o name apos) (e::es) [] cpos) (tBM X.K T r to t):=by
 intro pins s σ H Q I h
 refine wpAny_Call_method_late hbase hfew hline rfl (Ŏ (ho pins s σ H _ I h) λv s1 ⟨x,H1,I1,r1,ty,q1⟩=>?_)
 obtain⟨h1,h2⟩:=Ej I1 r1 ty
 refine⟨T,id,pa,slot,hty,h1,h2,?_⟩
 have hA:=ha cpos pins s1 σ H1 _ I1 q1
 rw[hs] at hA ⊢
 refine Calls.callWith_builtin (by show(false || (backTo cpos (starEach es X.env)).any (·.1))=false;rw[hplain]<;>rfl) (Calls.evalArgs_plain ?_)
 exact Ŏ hA λus s2 ⟨vs,H2,I2,r2,q2⟩=>hm pins s2 σ H2 x vs v us Q I2 r1 r2 q2
end
end L2
namespace L2
open PySem PySem.Spec PyProof.Rows
def MtM(X:Cx)(id:String)(r:V->List V->Hp->VK->Prop):Prop:=
 ∀(pins:List (Addr×Obj)) (s:Shared) (σ:St) (H:Hp) (x:V) (xs:List V) (v:Value) (us:List Value) (Q:VK),Inv X pins σ H s->RelV x v->Vals xs us->r x xs H Q->
  wpAny (model X.prog X.w) X.A (call (.builtin id) (v::us)) (EP X pins σ Q) X.xe s
theorem Vals.one:∀{x:V} {us:List Value},Vals [x] us->∃u,us=[u]/\RelV x u
 |_,_,.cons r .nil=>⟨_,rfl,r⟩
theorem Vals.zero:∀{us:List Value},Vals [] us->us=[]
 |_,.nil=>rfl
theorem Vals.reverse{xs:List V}{us:List Value}(h:Vals xs us):Vals xs.reverse us.reverse:=by
 induction h with
 |nil=>exact .nil
 |cons r t ih=>rw[List.reverse_cons,List.reverse_cons];exact Vals.append ih (.cons r .nil)
section
variable{X:Cx}{pins:List (Addr×Obj)}{σ:St}{H:Hp}{s:Shared}{l b:Addr}{xs ys zs:List V}
def Inv.Vv{its its':List Value}{n:Nat}{f:Array Value->Array Value}{t':Nat}(I:Inv X pins σ H s)(hH:H l=some (.lst xs))
 (e:s.heap.get? l=some {cls:=.type "list",data:=.seq its.toArray n})(hf:f its.toArray=its'.toArray)(hv:Vals ys its')(hz:ys.length<=sizeLine) :
 Inv X pins σ (upd H l (.lst ys)) {s with heap:=s.heap.update l (Obj.mapSeq f),toks:=t'}:=by
 have q:=PySem.IsL.update e f
 rw[hf] at q
 refine I.write (x:=l) (e:=l) (by rw[hH];exact trivial) (.inl rfl) (λb' u hb hu=>(Heap.get?_update_other s.heap (Obj.mapSeq f) (Ne.symm hb)).trans hu) ⟨_,q⟩ ?_
 exact⟨hz,its',_,hv,q⟩
def Inv.ZcZ{its:List Value}{t':Nat}(I:Inv X pins σ H s)(hv:Vals ys its)(hz:ys.length<=sizeLine) :
 Inv X pins σ (upd H s.heap.objs.size (.lst ys)) {s with heap:=s.heap.push {cls:=.type "list",data:=.seq its.toArray},toks:=t'}:=
 I.laid (λ_ _ q=>Heap.get?_push_of_some _ q) (Nat.le_refl _) ⟨hz,its,0,hv,Heap.get?_push_size _ rfl⟩
theorem Inv.fresh(I:Inv X pins σ H s):H s.heap.objs.size=none:=I.hok.fresh (Nat.le_refl _)
def Inv.Kd(I:Inv X pins σ H s)(hH:H l=some (.lst xs)):xs.length<=sizeLine/\∃(its:List Value) (n:Nat),Vals xs its/\xs.length=its.length/\s.heap.get? l=some {cls:=.type "list",data:=.seq its.toArray n}:=by
 obtain⟨z,its,n,r,e⟩:=I.hok l _ hH
 exact⟨z,its,n,r,r.length,e⟩
def Ek{n:Nat}(h:n<=sizeLine):Builtin.List.listTooLong n=false:=by
 unfold Builtin.List.listTooLong
 exact decide_eq_false (by omega)
end
section
variable{X:Cx}
def Aw:V->List V->Hp->VK->Prop:=λx vs H Q=>∃l xs y,x=.ref l/\vs=[y]/\H l=some (.lst xs)/\xs.length<sizeLine/\Q .non (upd H l (.lst (xs ++ [y])))
def bD:MtM X "list.append" Aw:=by
 intro pins s σ H x vs v us Q I rx rv h
 obtain⟨l,xs,y,rfl,rfl,hH,hz,q⟩:=h
 cases rx
 obtain⟨u,rfl,ru⟩:=rv.one
 obtain⟨z,its,n,r,hl,e⟩:=I.Kd hH
 refine call_meets F.slot_list_append ⟨_,e,rfl⟩ F.entry_list_append (F.args_list_append_2 _ _) (PySem.list_append l its.toArray n u (by rw[List.size_toArray];omega)) ⟨e,?_⟩
 refine⟨.non,_,I.Vv (its':=its ++ [u]) hH e (by simp) (r.append (.cons ru .nil)) ?_,rfl,q⟩
 rw[List.length_append,List.length_singleton]
 omega
def Ax:V->List V->Hp->VK->Prop:=λx vs H Q=>∃l b xs zs,x=.ref l/\vs=[.ref b]/\H l=some (.lst xs)/\H b=some (.lst zs)/\xs.length+zs.length<=sizeLine/\Q .non (upd H l (.lst (xs++zs)))
def qR:MtM X "list.extend" Ax:=by
 intro pins s σ H x vs v us Q I rx rv h
 obtain⟨l,b,xs,zs,rfl,rfl,hH,hB,hz,q⟩:=h
 cases rx
 obtain⟨u,rfl,ru⟩:=rv.one
 cases ru
 obtain⟨z,its,n,r,hl,e⟩:=I.Kd hH
 obtain⟨z2,its2,n2,r2,hl2,e2⟩:=I.Kd hB
 have hsz:its.toArray.size+its2.toArray.size<=sizeLine:=by rw[List.size_toArray,List.size_toArray];omega
 have Zaq:¬(!its.toArray.isEmpty && Builtin.List.listTooLong (its.toArray.size+its2.toArray.size))=true:=by
  rw[Ek hsz,Bool.and_false]
  exact Bool.false_ne_true
 refine call_meets F.slot_list_extend ⟨_,e,rfl⟩ F.entry_list_extend (F.args_list_extend_2 _ _)
  (AutoSeq1.list_extend_list_list_0 l its.toArray n b its2.toArray n2 Zaq (by rw[List.size_toArray];omega) (by omega)) ⟨e,e2,?_⟩
 refine⟨.non,_,I.Vv (its':=its++its2) hH e (by simp) (r.append r2) ?_,rfl,q⟩
 rw[List.length_append]
 omega
def tD:V->List V->Hp->VK->Prop:=λx vs H Q=>∃l xs,x=.ref l/\vs=[]/\H l=some (.lst xs)/\Q .non (upd H l (.lst []))
def nH:MtM X "list.clear" tD:=by
 intro pins s σ H x vs v us Q I rx rv h
 obtain⟨l,xs,rfl,rfl,hH,q⟩:=h
 cases rx
 have hus:=rv.zero
 subst hus
 obtain⟨z,its,n,r,hl,e⟩:=I.Kd hH
 refine call_meets F.slot_list_clear ⟨_,e,rfl⟩ F.entry_list_clear (F.args_list_clear_1 _) (AutoSeq1.list_clear_list_0 l its.toArray n (by rw[List.size_toArray];omega)) ⟨e,?_⟩
 exact⟨.non,_,I.Vv (its':=[]) (ys:=[]) hH e rfl .nil (Nat.zero_le _),rfl,q⟩
end
section
variable{prog:Program}{w:World}{A:Around}{E:Value->Shared->Prop}{s:Shared}
end
section
variable{X:Cx}
end
end L2
namespace Att
open PySem PySem.W PySem.Calls PyProof.Rows
def lY{P:Params}{h:Heap}:∀(ns:List Int) (vs:List Value),WellAll P h vs (ns.map WData.int)->IntsAre vs ns:=by
 intro ns
 induction ns with
 |nil=>
  intro vs w
  rw[List.map_nil] at w
  cases w
  exact .nil
 |cons n ns ih=>
  intro vs w
  rw[List.map_cons] at w
  cases w with
  |cons a b=>
   cases a
   exact .cons _ _ (ih _ b)
def Cw{l:OpenLaw}{n:Nat}(hn:l.most=some n){P:Params}{h:Heap}{args:List WData}{vals:List Value}
 (hpre:l.row.toRowW.claim.pre args=true)(hwl:WellAll P h vals args) :
 ∃a vs ns,vals=[Value.ref a]/\args=[WData.list (ns.map WData.int)]/\h.get? a=some {cls:=.type "list",data:=.seq vs.toArray}/\IntsAre vs ns/\ns.length<=n:=by
 have hsh:WShape.hasAll [] args [.list .int]=true:=(pre_splitW hpre).1
 have hc:l.pre.holds [] {args:=args}=true:=(pre_splitW hpre).2
 obtain⟨d,r,rfl,h1,h2⟩:=hasAllW_cons hsh
 obtain rfl:=hasAllW_nil h2
 obtain⟨xs,rfl,h3⟩:=hasW_list h1
 obtain⟨ns,rfl⟩:=items_int h3
 have hlen:ns.length<=n:=by
  unfold OpenLaw.pre at hc
  have h4:(WTm.not (.lt (.lit (.int (n:Int))) (.len (.arg 0)))).holds [] {args:=[.list (ns.map .int)]}=true:=by
   have h4:=(holds_andW hc).1
   rw[hn] at h4
   exact h4
  have h5:=condW_of h4 (w_not (w_lt w_lit (w_len_list (w_arg rfl))))
  rw[List.length_map] at h5
  refine Nat.le_of_not_lt λq=>?_
  have q':(n:Int)<((ns.length:Nat):Int):=by omega
  first
   |(rw[decide_eq_true q'] at h5;exact absurd h5 (by decide))
   |(simp at h5;omega)
 cases hwl with
 |cons w1 w2=>
  cases w2
  cases w1 with
  |list ho hall=>exact⟨_,_,ns,rfl,rfl,ho,lY ns _ hall,hlen⟩
def Cy(l:OpenLaw)(args:List WData):l.row.toRowW.claim.post args (.bool true) args=true:=
 postW_of (r:=l.row.toRowW) (X:=(true== true))
  (show WShape.has [] (.bool true) .bool=true by first|rfl|decide|simp[WShape.has,WShape.arms,WShape.armsAll])
  (show(WTm.eq .res (.lit (.bool true))).value [] {args:=args,res:=some (.bool true),after:=args}=some (.bool (true== true)) from w_eq_bool (w_res rfl) w_lit) rfl
def vQ{l:OpenLaw}{n:Nat}{q:Program}{loose:List Str}{XP:(Str->Option Value)->Heap->Prop}{YP:World->Heap->Prop}{d:DefRec}
 (hn:l.most=some n)(hdf:d.params.defaults=[])
 (call:∀(w:World) (s₀ s₁:Shared) (mg mb:Str→Option Value) (fa:Addr) (o:Obj) (pm cd doc:Value) (a:Addr) (vs:List Value) (ns:List Int),
   Ground q loose [] XP w s₀ mg mb s₁.heap->YP w s₁.heap->
   s₁.heap.get? fa=some o->o.data=.func (docDef d.name d.params d.body d.scope pm cd doc)->s₁.heap.CodeRec cd d.name->mg d.name=some (.ref fa)->
   s₁.heap.get? a=some {cls:=.type "list",data:=.seq vs.toArray}->IntsAre vs ns->ns.length<=n->s₁.gens= #[]->
   codeAny (model l.prog w) callerA (.call (.ref fa) ⟨[.ref a],[]⟩) (λr s'=>r=.ok (.ret (.bool true))/\OldK s₁.heap s'.heap/\s'.os=s₁.os/\AllBare s'.gens) s₁) :
 WalkO q loose XP YP l.row.toRowW d [] (λf vs=>PySem.call f vs):=by
 intro w s₀ s₁ mg mb G Y fa o pm cd doc dV kV ho hd hcd hD hmg hg args vals as hpre hlay hrd hwl hlo
 obtain rfl:dV=.none:=Dflts.none hD hdf
 obtain rfl:kV=.none:=Dflts.noKw hD
 obtain⟨a,vs,ns,rfl,rfl,hobj,hints,hlen⟩:=Cw hn hpre hwl
 refine enter_call (codeAny_mono (call w s₀ s₁ mg mb fa o pm cd doc a vs ns G Y ho (fd_plain hd) hcd hmg hobj hints hlen hg) λr s' hq=>?_)
 obtain⟨rfl,h2,h3,h4⟩:=hq
 exact⟨.inl ⟨.bool true,.bool true,[],rfl,λ_=>rfl,.bool true,Cy l _,λ_=>⟨List.Pairwise.nil,λ_ hm=>(nomatch hm)⟩⟩,h2,h3,h4⟩
section
variable{prog:Program}{w:World}{A:Around}{E:Value->Shared->Prop}{s:Shared}{K:Frag}
end
end Att
namespace L2
open PySem PySem.Spec PyProof.Rows
theorem Ŷ:∀{vs:List Value} {ns:List Int},IntsAre vs ns->Vals (ns.map V.int) vs
 |_,_,.nil=>.nil
 |_,_,.cons n t h=>.cons ⟨t,rfl⟩ (Ŷ h)
def Only(H:Hp):Prop:=∀b,H b=none\/(∃o xs,H b=some (.cI o (.lst xs)))\/∃q,H b=some (.gP q)
def fK(K:PySem.W.Frag):List Str->Hp
 | []=>λ_=>none
 |y::r=>λb=>match PySem.W.tabIn K y with
  |some (_,P)=>if b=P then some (.gP (sO y)) else fK K r b
  |none=>fK K r b
theorem bZ{K:PySem.W.Frag}:∀{l:List Str} {b:Addr} {u:HO},fK K l b=some u->∃y c,y∈l/\PySem.W.tabIn K y=some (c,b)/\u=.gP (sO y)
 | [],_,_,h=>by cases(show(none:Option HO)=some _ from h)
 |y::r,b,u,h=>by
  have h':(match PySem.W.tabIn K y with
   |some (_,P)=>if b=P then some (.gP (sO y)) else fK K r b
   |none=>fK K r b)=some u:=h
  have rc:fK K r b=some u->∃z c,z∈y::r/\PySem.W.tabIn K z=some (c,b)/\u=.gP (sO z):=λq=>
   let ⟨z,c,h1,h2,h3⟩:=bZ q
   ⟨z,c,List.mem_cons_of_mem _ h1,h2,h3⟩
  cases e:PySem.W.tabIn K y with
  |none=>rw[e] at h';exact rc h'
  |some p=>
   obtain⟨c,P⟩:=p
   rw[e] at h'
   have h2:(if b=P then some (HO.gP (sO y)) else fK K r b)=some u:=h'
   by_cases hb:b=P
   ·rw[if_pos hb] at h2
    cases h2
    exact⟨y,c,List.mem_cons_self,by rw[hb];exact e,rfl⟩
   ·rw[if_neg hb] at h2
    exact rc h2
theorem Ay{K:PySem.W.Frag}{y:Str}{c P:Addr}(e:PySem.W.tabIn K y=some (c,P)):∀{l:List Str},(∀z∈l,z=y)->y∈l->fK K l P=some (.gP (sO y))
 | [],_,h=>by cases h
 |z::r,h1,_=>by
  have hz:=h1 z List.mem_cons_self
  subst hz
  show(match PySem.W.tabIn K z with
   |some (_,Q)=>if P=Q then some (HO.gP (sO z)) else fK K r P
   |none=>fK K r P)=_
  rw[e]
  exact if_pos rfl
def El{P:Program}{w:World}{K:PySem.W.Frag}{mg mb:Str->Option Value}{CX:jf}{k:Nat}{fa a:Addr}{fd:FuncData}{x:Str}{sp:Sp}{s₁:Shared}{vs:List Value}{ns:List Int}
 (KX:K.In s₁.heap)(hns:s₁.heap.Ns mainGlobals mg)(hb:s₁.heap.Ns builtinsNs mb)(hbb:∀x:Str,x≠ "__name__" ->mb x=bootBuiltins x)(hlim:s₁.heap.NoLimit)(hg:s₁.gens= #[])
 (ha:s₁.heap.get? a=some {cls:=.type "list",data:=.seq vs.toArray})(hi:IntsAre vs ns)(hl:ns.length<=sizeLine)(hr:Ŭ k callerA)
 (F:∀base:Heap,K.In base->base.Ns mainGlobals mg->ĥ P w K mg base CX k fa fd [x] sp)(hbind:∀(s:Shared) (u:Value),BindsTo s fd ⟨[u],[]⟩ [(x,u)])
 (hsp:∀H:Hp,Only H->Ř K H a (ns.map V.int)->sp [.ref a] H (λv _=>v=.bl true) λ_ _ _=>False)
 (hCX:∀H e s',CX [] H s₁ (λ_ _ _=>False) e s'->False)
 (hnt:lams≠[]->PySem.W.noTabs K=true)(hone:∀y z,y∈lams->z∈lams->y=z)(htb:∀y c Pt,y∈lams->PySem.W.tabIn K y=some (c,Pt)->PySem.W.CodeHd s₁.heap c Pt/\s₁.heap.get? Pt=some (PySem.W.tabObj #[])/\s₁.heap.BuiltinsAt mg Pt) :
 codeAny (model P w) callerA (.call (.ref fa) ⟨[.ref a],[]⟩) (λr s'=>r=.ok (.ret (.bool true))/\OldK s₁.heap s'.heap/\s'.os=s₁.os/\AllBare s'.gens) s₁:= by
 have rv:=Ŷ hi
 have lenV:=hi.length
 -- from an abstract heap in which nothing but the script may be tracked
 have core:∀H:Hp,Only H->Ř K H a (ns.map V.int)->jd P w H s₁.heap->(∀b,H b≠none->b=a\/∃y c,y∈lams/\PySem.W.tabIn K y=some (c,b))->(H a≠none->K.lookup a=none)->(∀y c Pt,y∈lams->PySem.W.tabIn K y=some (c,Pt)->H Pt=some (.gP (sO y)))->
  codeAny (model P w) callerA (.call (.ref fa) ⟨[.ref a],[]⟩) (λr s'=>r=.ok (.ret (.bool true))/\OldK s₁.heap s'.heap/\s'.os=s₁.os/\AllBare s'.gens) s₁:= by
  intro H hO hS hok hA hK hT
  have mW:∀{b:Addr} {o:Obj},s₁.heap.get? b=some o->H b=none->(ql s₁.heap H).get? b=some o:=λe n=>DG e n
  have noA:∀{b:Addr} {o:Obj} {es:Array DictEntry} {ep:Nat},s₁.heap.get? b=some o->o.data=.dict es ep->H b=none:=fun{b o es ep} e d=>by
   cases q:H b with
   |none=>rfl
   |some u=>
    rcases hA b (by rw[q];simp) with e'|⟨y,c,hy,hty⟩
    ·subst e'
     rw[ha] at e;cases e
     have d':Data.seq vs.toArray _=Data.dict es ep:=d
     cases d'
    ·have e2:=(htb y c b hy hty).2.1
     rw[e] at e2;cases e2;cases d
  have nsK:∀{b:Addr} {m:Str->Option Value},s₁.heap.Ns b m->(ql s₁.heap H).Ns b m:=fun{b m} ⟨o,es,ep,e,d,r⟩=>⟨o,es,ep,mW e (noA e d),d,r⟩
  have hKb:K.In (ql s₁.heap H):=λb o e=>mW (KX b o e) (by
   cases q:H b with
   |none=>rfl
   |some u=>
    rcases hA b (by rw[q];simp) with e'|⟨y,c,hy,hty⟩
    ·subst e'
     rw[hK (by rw[q];simp)] at e;cases e
    ·have e2:=(htb y c b hy hty).2.1
     rw[KX b o e] at e2
     cases e2
     have h2:=List.all_eq_true.mp (hnt (λz=>by rw[z] at hy;cases hy)) (b,_) (PySem.W.mem_of_lookupK e)
     exact absurd (show false=true from h2) Bool.false_ne_true)
  have hM:Mod K mg (ql s₁.heap H):=⟨hKb,nsK hns,⟨mb,nsK hb,hbb⟩,let ⟨mc,h1,h2⟩:=hlim;⟨mc,nsK h1,h2⟩⟩
  have hTB:TabsOk K mg (ql s₁.heap H) H:=λy c Pt hy hty=>by
   obtain⟨⟨o,us,file,tf,flags,tg,inF,text,tt,e1,r1,r2⟩,_,bm,ob,b1,b2,b3,b4,b5,b6,b7⟩:=htb y c Pt hy hty
   refine⟨⟨o,us,file,tf,flags,tg,inF,text,tt,mW e1 ?_,r1,r2⟩,hT y c Pt hy hty,bm,ob,b1,b2,b3,b4,mW b5 ?_,b6,b7⟩
   rotate_left
   ·cases q:H bm with
    |none=>rfl
    |some u=>
     rcases hA bm (by rw[q];simp) with e'|⟨z,c2,hz,htz⟩
     ·rw[e',ha] at b5;cases b5;exact absurd (Value.type.inj b6) (by decide)
     ·have e2:=(htb z c2 bm hz htz).2.1
      rw[b5] at e2;cases e2;cases b6
   cases q:H c with
   |none=>rfl
   |some u=>
    rcases hA c (by rw[q];simp) with e'|⟨z,c2,hz,htz⟩
    ·rw[e',ha] at e1;cases e1;exact absurd (Value.type.inj r1) (by decide)
    ·have e2:=(htb z c2 c hz htz).2.1
     rw[e1] at e2;cases e2;cases r1
  have e0:yI P w K mg (ql s₁.heap H) callerA [] s₁ H:=⟨rfl,hM,λb o e=>Jz e,Nat.le_of_eq (Cd _ _),trivial,λb hb=>absurd (show b∈([]:List Addr) from hb) (by simp),hok,.of_eq hg,hTB⟩
  refine codeAny_mono ((F _ hKb (nsK hns)).run callerA [] s₁ H ⟨[.ref a],[]⟩ [.ref a] [.ref a] _ _ hr e0 (hbind s₁ (.ref a)) (.cons rfl .nil) (hsp H hO hS)) λr s' h=>?_
  cases r with
  |error e=>exact(hCX H e s' h).elim
  |ok fl=>
   cases fl with
   |next=>exact False.elim h
   |brk=>exact False.elim h
   |cont=>exact False.elim h
   |ret u=>
    obtain⟨v,H',os,bare,un,hok',r',q⟩:=h
    have q':v=.bl true:=q
    subst q'
    obtain rfl:u=Value.bool true:=r'
    have old:∀b o,s₁.heap.get? b=some o->(∀t,H b≠some (.gP t))->s'.heap.get? b=some o:=?_
    ·refine⟨rfl,⟨λb o e=>?_,λb o e=>?_⟩,os,bare⟩
     ·by_cases ht:∃t,H b=some (.gP t)
      ·obtain⟨t,ht⟩:=ht
       obtain⟨ps,e1,_⟩:=hok' b _ (un.lV b t ht)
       rcases hA b (by rw[ht];simp) with e'|⟨y,c,hy,hty⟩
       ·subst e'
        obtain⟨ps2,e3,_⟩:=hok b _ ht
        rw[ha] at e3;cases e3
       ·obtain⟨⟨o2,us,file,tf,flags,tg,inF,text,tt,f1,f2,f3,f4,_⟩,e2,_⟩:=htb y c b hy hty
        rw[e] at e2;cases e2
        exact .inr (.inl ⟨⟨c,o2,us,f1,f2,f3,f4⟩,rfl,#[],ps,rfl,by rw[e1];simp⟩)
      ·exact .inl (old b o e λt z=>ht ⟨t,z⟩)
     ·by_cases ht:∃t,H b=some (.gP t)
      ·obtain⟨t,ht⟩:=ht
       obtain⟨ps,e1,_⟩:=hok' b _ (un.lV b t ht)
       exact⟨_,e1⟩
      ·exact⟨o,old b o e λt z=>ht ⟨t,z⟩⟩
    intro b o e nt
    cases q:H b with
    |none=>exact un.keep b o e q (by intro z;exact absurd (show b∈([]:List Addr) from z) (by simp)) (by simp)
    |some u=>
     rcases hO b with z|⟨ob,xs,z⟩|⟨t,z⟩
     ·rw[q] at z;cases z
     rotate_left
     ·exact absurd z (nt t)
     ·have z2:=un.qj b ob _ z
      obtain⟨e1,_⟩:=hok b _ z
      obtain⟨e2,_⟩:=hok' b _ z2
      rw[e] at e1;cases e1
      exact e2
 cases hk:K.lookup a with
 |some o=>
  -- the script is one of the module's own objects
  have e:=KX a o hk
  rw[ha] at e
  cases e
  refine core (fK K lams) (λb=>?_) (.inr ⟨_,vs.toArray,_,hk,rfl,rfl,rfl,by rw[List.size_toArray,lenV];exact hl,by simpa using rv⟩) (λb u z=>?_) (λb z=>?_) (λz=>?_) λy c Pt hy hty=>Ay hty (λz hz=>hone z y hz hy) hy
  ·cases q:fK K lams b with
   |none=>exact .inl rfl
   |some u=>obtain⟨y,c,_,_,rfl⟩:=bZ q;exact .inr (.inr ⟨_,rfl⟩)
  ·obtain⟨y,c,hy,hty,rfl⟩:=bZ z
   exact⟨#[],(htb y c b hy hty).2.1,trivial,λpos cv z=>by cases z⟩
  ·cases q:fK K lams b with
   |none=>exact absurd q z
   |some u=>obtain⟨y,c,hy,hty,_⟩:=bZ q;exact .inr ⟨y,c,hy,hty⟩
  ·cases q:fK K lams a with
   |none=>exact absurd q z
   |some u=>
    obtain⟨y,c,hy,hty,_⟩:=bZ q
    have e2:=(htb y c a hy hty).2.1
    rw[ha] at e2;cases e2
 |none=>
  refine core (λb=>if b=a then some (.cI {cls:=.type "list",data:=.seq vs.toArray} (.lst (ns.map V.int))) else fK K lams b) (λb=>?_) (.inl (.inr ⟨{cls:=.type "list",data:=.seq vs.toArray},if_pos rfl⟩)) (λb u z=>?_) (λb z=>?_) (λ_=>hk) λy c Pt hy hty=>?_
  ·by_cases hb:b=a
   ·exact .inr (.inl ⟨_,_,if_pos hb⟩)
   ·cases q:fK K lams b with
    |none=>exact .inl ((if_neg hb).trans q)
    |some u=>obtain⟨y,c,_,_,rfl⟩:=bZ q;exact .inr (.inr ⟨_,(if_neg hb).trans q⟩)
  ·by_cases hb:b=a
   ·have z':=(if_pos hb).symm.trans z
    cases z'
    subst hb
    exact⟨ha,by rw[List.length_map];exact hl,vs,_,rv,ha⟩
   ·have z':=(if_neg hb).symm.trans z
    obtain⟨y,c,hy,hty,rfl⟩:=bZ z'
    exact⟨#[],(htb y c b hy hty).2.1,trivial,λpos cv z=>by cases z⟩
  ·by_cases hb:b=a
   ·exact .inl hb
   ·cases q:fK K lams b with
    |none=>exact absurd ((if_neg hb).trans q) z
    |some u=>obtain⟨y,c,hy,hty,_⟩:=bZ q;exact .inr ⟨y,c,hy,hty⟩
  ·have ne:Pt≠a:=fun z=>by
    subst z
    have e2:=(htb y c _ hy hty).2.1
    rw[ha] at e2;cases e2
   exact(if_neg ne).trans (Ay hty (λz hz=>hone z y hz hy) hy)
end L2
namespace L2
open PySem PySem.Spec PyProof.Rows
def Ke{p:Program}{loose:List Str}{mean:ExcName->Option Value}{mg mb:Str->Option Value}{h:Heap}{K:PySem.W.Frag}{d:DefRec}{x:Str}{c P:Addr}(T:Top p loose mean mg mb h)(X:K.In h)(hr:(recsOf p).find? (λe=>e.name== x)=some d)(ht:PySem.W.tabIn K x=some (c,P)) :
 PySem.W.CodeHd h c P/\h.get? P=some (PySem.W.tabObj #[])/\h.BuiltinsAt mg P:=by
 obtain⟨h1,h2⟩:=PySem.W.tab_of T X hr ht
 obtain⟨bm,ob,b1,b2,b3,b4,b5,b6⟩:=T.bmain
 have hbP:bm≠P:=λq=>by rw[q,h2] at b3;cases b3;cases b4
 have hbG:bm≠mainGlobals:=λq=>by
  obtain⟨o,es,ep,e,hd,_⟩:=T.g
  rw[q,e] at b3;cases b3;rw[hd] at b6;cases b6
 exact⟨h1,h2,bm,ob,b1,b2,hbG,hbP,b3,b4,b5,b6⟩
def Kf{l:PySem.W.OpenLaw}{n k:Nat}{q:Program}{loose:List Str}{XP:(Str->Option Value)->Heap->Prop}{YP:World->Heap->Prop}{d:DefRec}{K:Params->PySem.W.Frag}{CX:World->jf}{sp:World->Sp}{x:Str}
 (hn:l.most=some n)(hn2:n<=sizeLine)(hdf:d.params.defaults=[])(hr:Ŭ k callerA)
 (hY:∀(w:World) (h:Heap),YP w h->(K w.params).In h)
 (F:∀(w:World) (mg:Str→Option Value) (fa:Addr) (h:Heap),(K w.params).In h→h.Ns mainGlobals mg→mg d.name=some (.ref fa)→
   ∃fd:FuncData,(∀(s:Shared) (u:Value),BindsTo s fd ⟨[u],[]⟩ [(x,u)])/\
    ∀base:Heap,(K w.params).In base->base.Ns mainGlobals mg->ĥ l.prog w (K w.params) mg base (CX w) k fa fd [x] (sp w))
 (hsp:∀(w:World) (H:Hp) (a:Addr) (ns:List Int),ns.length<=n->Only H->Ř (K w.params) H a (ns.map V.int)->sp w [.ref a] H (λv _=>v=.bl true) λ_ _ _=>False)
 (hCX:∀(w:World) (H:Hp) (s:Shared) (e:Value) (s':Shared),CX w [] H s (λ_ _ _=>False) e s'->False)
 (hnt:lams≠[]->∀w:World,PySem.W.noTabs (K w.params)=true:=by intro z;exact absurd rfl z)(hone:∀y z,y∈lams->z∈lams->y=z:=by simp[lams])(hrec:∀y,y∈lams->∃d,(recsOf q).find? (λe=>e.name== y)=some d:=by simp[lams]) :
 PySem.W.WalkO q loose XP YP l.row.toRowW d [] (λf vs=>PySem.call f vs):=by
 refine Att.vQ hn hdf λw s₀ s₁ mg mb fa o pm cd doc a vs ns G Y ho hd hcd hmg hobj hints hlen hg=>?_
 have KX:=hY w _ Y
 obtain⟨fd,hb,hF⟩:=F w mg fa _ KX G.T.g hmg
 exact El KX G.T.g G.T.b G.T.builtins G.T.nolimit hg hobj hints (Nat.le_trans hlen hn2) hr hF hb (λH hO hS=>hsp w H a ns hlen hO hS) (λH e s'=>hCX w H s₁ e s') (λz=>hnt z w) hone λy c Pt hy hty=>let ⟨_,hr'⟩:=hrec y hy;Ke G.T KX hr' hty
end L2
namespace L2
open PySem PySem.Spec PyProof.Rows
def inClass(s:Stmt)(j:Nat):Stmt:=match s with
 | .ClassDef _ _ _ body _ _ _ _ _ _ _=>body.getD j (.Pass ⟨0,0,0,0⟩)
 |_=>.Pass ⟨0,0,0,0⟩
def aK(s:Stmt):Arguments:=match s with
 | .FunctionDef _ a _ _ _ _ _ _ _ _=>a
 |_=> {posonlyargs:=[],args:=[],vararg:=none,kwonlyargs:=[],kw_defaults:=[],kwarg:=none,defaults:=[]}
def Ś(s:Stmt):List Stmt:=match s with
 | .FunctionDef _ _ b _ _ _ _ _ _ _=>b
 |_=>[]
def ć(s:Stmt):Scope:=match s with
 | .FunctionDef _ _ _ _ _ _ sc _ _ _=>sc
 |_=> {kind:=.function,names:=[],isGenerator:=false,isCoroutine:=false}
abbrev Ŧ:jf:=λ_ _ _ _ _ _=>False
structure Kg(K:PySem.W.Frag)(x qual:Str)(st:Stmt)(f:Addr)(fd:FuncData):Prop where
 ex:∃(oc:Value) (od:Option Addr) (kV doc pm:Value) (an:Option Addr) (cdv ct:Value) (osl:Array (Option Value)),
   fd=PySem.W.fnOf x qual (aK st) (Ś st) (ć st) .none kV doc pm an cdv ct/\K.lookup f=some ⟨oc,od,.func fd,osl⟩/\PySem.W.codeIn K cdv qual=true
 kp:PySem.W.keepIn K (.ref f)=true
section
variable{P:Program}{w:World}{K:PySem.W.Frag}{mg:Str->Option Value}{base:Heap}
def Kg.binds{x qual:Str}{st:Stmt}{f:Addr}{fd:FuncData}{ps:List Str}(F:Kg K x qual st f fd)
 (h:∀(kV doc pm:Value) (an:Option Addr) (cdv ct:Value) (us:List Value),us.length=ps.length->bindArgs (PySem.W.fnOf x qual (aK st) (Ś st) (ć st) .none kV doc pm an cdv ct) ⟨us,[]⟩=pure (ps.zip us)):Binds K fd ps []:=by
 obtain⟨oc,od,kV,doc,pm,an,cdv,ct,osl,rfl,lk,hcd⟩:=F.ex
 exact .all (h kV doc pm an cdv ct)
def Em{x qual:Str}{st:Stmt}{f:Addr}{oc:Value}{od an:Option Addr}{osl:Array (Option Value)}{kV doc pm cdv ct:Value}(l:K.lookup f=some ⟨oc,od,.func (PySem.W.fnOf x qual (aK st) (Ś st) (ć st) .none kV doc pm an cdv ct),osl⟩)
 (c:PySem.W.codeIn K cdv qual=true)(k:PySem.W.keepIn K (.ref f)=true):Kg K x qual st f (PySem.W.fnOf x qual (aK st) (Ś st) (ć st) .none kV doc pm an cdv ct):=⟨⟨oc,od,kV,doc,pm,an,cdv,ct,osl,rfl,l,c⟩,k⟩
end
section
variable{X:Cx}
def pv(i:Nat){x:Str}{pos:Pos}(hN:X.N[i]?=some x:=by rfl)(hv:Aj X.env.scope x:=by first|exact Or.inl rfl|exact Or.inr (Or.inl rfl)|exact Or.inr (Or.inr rfl))(hd:(x== ("__debug__" :Str))=false:=by decide)
 (hcd:(x== ("__classdict__" :Str))=false:=by decide):PE X (.Name x pos) (eZ i):=dB hN hv hd hcd
end
def Same(H H':Hp):Prop:=∀b o,H b=some o->H' b=some o
def Same.refl(H:Hp):Same H H:=λ_ _ h=>h
def Same.trans{H H1 H2:Hp}(a:Same H H1)(b:Same H1 H2):Same H H2:=λc o h=>b c o (a c o h)
def Same.free{H H':Hp}(e:Same H H'){l:Addr}(h:H' l=Option.none):H l=Option.none:=by
 cases q:H l with
 |none=>rfl
 |some o=>
  rw[e l o q] at h
  cases h
def Same.seq{K:PySem.W.Frag}{H H':Hp}{a:Addr}{xs:List V}(e:Same H H')(h:Ř K H a xs):Ř K H' a xs:=by
 rcases h with(h|⟨o,h⟩)|h
 ·exact .inl (.inl (e _ _ h))
 ·exact .inl (.inr ⟨o,e _ _ h⟩)
 ·exact .inr h
end L2
namespace M2
open PySem PySem.Spec PyProof.Rows L2
section
variable{X:Cx}{a b c e:Expr}{ta tb tc te:TE}{pos:Pos}
def PE.wk{t t':TE}(h:PE X e t)(i:∀σ H Q,t' σ H Q->t σ H Q):PE X e t':=λpins s σ H Q I q=>h pins s σ H Q I (i σ H Q q)
def PS.wk{st:Stmt}{t t':TS}(h:PS X st t)(i:∀D σ H,t' D σ H->t D σ H):PS X st t':=λpins s σ H D I q=>h pins s σ H D I (i D σ H q)
def ū.wk{f:Value->Value->Sem Value}{r r':R2}(h:ū X f r)(i:∀x y H Q,r' x y H Q->r x y H Q):ū X f r':=λpins s σ H x y v u Q I rx ry q=>h pins s σ H x y v u Q I rx ry (i x y H Q q)
def JK.wk{f:Value->Sem Value}{r r':V->Hp->VK->Prop}(h:JK X f r)(i:∀x H Q,r' x H Q->r x H Q):JK X f r':=λpins s σ H x v Q I rx q=>h pins s σ H x v Q I rx (i x H Q q)
def ņ.wk{f:Value}{r r':List V->Hp->VK->Prop}(h:ņ X f r)(i:∀xs H Q,r' xs H Q->r xs H Q):ņ X f r':=λpins s σ H xs us Q I r q=>h pins s σ H xs us Q I r (i xs H Q q)
def yJ.wk{r r':R2}(h:yJ X r)(i:∀x y H Q,r' x y H Q->r x y H Q):yJ X r':=λva sl pins s σ H x y v u Q I rx ry q=>h va sl pins s σ H x y v u Q I rx ry (i x y H Q q)
def Ar.wk{r r':V->Option Int->Option Int->Hp->VK->Prop}(h:Ar X r)(i:∀x lo hi H Q,r' x lo hi H Q->r x lo hi H Q):Ar X r':=λpins s σ H x v vl vu lo hi sl Q I rx hs pl pu q=>h pins s σ H x v vl vu lo hi sl Q I rx hs pl pu (i x lo hi H Q q)
def Vw(i:Nat):TE:=λσ H Q=>match σ[i]? with
 |some (some v)=>Q v H
 |_=>False
def Kh{i:Nat}{σ:L2.St}{H:Hp}{Q:VK}(h:Vw i σ H Q):eZ i σ H Q:=by
 unfold Vw at h
 split at h
 ·exact⟨_,by assumption,h⟩
 ·exact h.elim
def mv(i:Nat){x:Str}{pos:Pos}(hN:X.N[i]?=some x:=by rfl)(hv:Aj X.env.scope x:=by first|exact Or.inl rfl|exact Or.inr (Or.inl rfl)|exact Or.inr (Or.inr rfl))(hd:(x== ("__debug__" :Str))=false:=by decide)
 (hcd:(x== ("__classdict__" :Str))=false:=by decide):PE X (.Name x pos) (Vw i):=PE.wk (dB hN hv hd hcd) λ_ _ _ h=>Kh h
def bOf(x:V)(k:Bool->Prop):Prop:=match x with
 | .bl c=>k c
 |_=>False
def tE{x:V}{k:Bool->Prop}(h:bOf x k):∃c,x=.bl c/\k c:=by
 cases x with
 |bl c=>exact⟨c,rfl,h⟩
 |_=>exact h.elim
def M_(t:TE):TT:=λσ H Q=>t σ H λx H1=>bOf x λc=>Q c H1
def Vx{op:CmpOp}{r:R2}(ho:ū X (compareOp op) r)(ha:PE X a ta)(hb:PE X b tb)(hm:behindInMarks op b=false):PT X (.Compare a [op] [b] pos) (M_ (Dt r ta tb)):=by
 intro pins s σ H Q I h
 refine wpAny_isTrue_Compare1 (Ŏ (ha pins s σ H _ I h) λv s1 ⟨x,H1,I1,r1,q1⟩=>Ŏ (hb pins s1 σ H1 _ I1 q1) λu s2 ⟨y,H2,I2,r2,q2⟩=>
  Ŏ (ho pins s2 σ H2 x y v u _ I2 r1 r2 q2) λc s3 ⟨z,H3,I3,r3,q3⟩=>?_) hm
 obtain⟨k,e,q3⟩:=tE q3
 subst e
 cases r3
 exact wpAny_truthy_bool ⟨H3,I3,q3⟩
def En(r r':R2)(ta tb tc:TE):TE:=λσ H Q=>ta σ H λx H1=>tb σ H1 λy H2=>r x y H2 λz H3=>bOf z λk=>
 (if k=true then tc σ H3 λw' H4=>r' y w' H4 Q else Q (.bl false) H3)
def Eo{op op':CmpOp}{r r':R2}(ho:ū X (compareOp op) r)(ho':ū X (compareOp op') r')(ha:PE X a ta)(hb:PE X b tb)(hc:PE X c tc)
 (hm:lastMarks [op,op'] [b,c]=false:=by with_unfolding_all rfl):PE X (.Compare a [op,op'] [b,c] pos) (En r r' ta tb tc):=by
 intro pins s σ H Q I h
 refine Compare_chain (Ŏ (ha pins s σ H _ I h) λv s1 ⟨x,H1,I1,r1,q1⟩=>chain_link (Ŏ (hb pins s1 σ H1 _ I1 q1) λu s2 ⟨y,H2,I2,r2,q2⟩=>
  Ŏ (ho pins s2 σ H2 x y v u _ I2 r1 r2 q2) λd s3 ⟨z,H3,I3,r3,q3⟩=>?_)) hm
 obtain⟨k,e,q3⟩:=tE q3
 subst e
 cases r3
 refine wpAny_truthy_bool ?_
 cases k with
 |false=>exact ite_ff ⟨.bl false,H3,I3,rfl,q3⟩
 |true=>exact ite_tt (chain_last (Ŏ (hc pins s3 σ H3 _ I3 q3) λw' s4 ⟨z',H4,I4,r4,q4⟩=>ho' pins s4 σ H4 y z' u w' Q I4 r2 r4 q4))
def Zar(ta tb:TE):TE:=λσ H Q=>ta σ H λx H1=>bOf x λc=>if c=true then tb σ H1 Q else Q (.bl false) H1
def Zas(ta:TE):TE:=λσ H Q=>ta σ H λx H1=>bOf x λc=>Q (.bl (!c)) H1
variable{rest:List Expr}
def Vy(ha:PE X a ta)(hb:PE X (.BoolOp .And (b::rest) pos) tb):PE X (.BoolOp .And (a::b::rest) pos) (Zar ta tb):=by
 intro pins s σ H Q I h
 refine BoolOp_and (Ŏ (ha pins s σ H _ I h) λv s1 ⟨x,H1,I1,r1,q1⟩=>?_)
 obtain⟨c,rfl,q1⟩:=tE q1
 cases r1
 refine wpAny_truthy_bool ?_
 cases c with
 |true=>exact hb pins s1 σ H1 Q I1 q1
 |false=>exact⟨.bl false,H1,I1,rfl,q1⟩
def Vz(ha:PE X a ta):PE X (.UnaryOp .Not a pos) (Zas ta):=by
 intro pins s σ H Q I h
 refine UnaryOp_ (Ŏ (ha pins s σ H _ I h) λv s1 ⟨x,H1,I1,r1,q1⟩=>?_)
 obtain⟨c,rfl,q1⟩:=tE q1
 cases r1
 exact not_of (wpAny_truthy_bool ⟨.bl (!c),H1,I1,rfl,q1⟩)
def mI(C:Int->Int->Prop)(g:Int->Int->V):R2:=λx y H Q=>match x,y with
 | .int i,.int j=>C i j/\Q (g i j) H
 |_,_=>False
def yM(g:Int->Int->V):R2:=λx y H Q=>match x,y with
 | .int i,.int j=>Q (g i j) H
 |_,_=>False
def vR{C:Int->Int->Prop}{g:Int->Int->V}(x y:V)(H:Hp)(Q:VK)(h:mI C g x y H Q):rI C g x y H Q:=by
 cases x with
 |int i=>
  cases y with
  |int j=>exact⟨i,j,rfl,rfl,h.1,h.2⟩
  |_=>exact h.elim
 |_=>exact h.elim
def jT{g:Int->Int->V}(x y:V)(H:Hp)(Q:VK)(h:yM g x y H Q):Ju g x y H Q:=by
 cases x with
 |int i=>
  cases y with
  |int j=>exact⟨i,j,rfl,rfl,h⟩
  |_=>exact h.elim
 |_=>exact h.elim
def Zat:R2:=λx y H Q=>match x,y with
 | .int i,.int j=>Q (.int (i+j)) H
 | .str i,.str j=>i.length+j.length<=sizeLine/\Q (.str (i++j)) H
 |_,_=>False
def VB:ū X (binaryOp .Add) Zat:=ū.wk (Vg.or yu) λx y H Q h=>by
 cases x with
 |int i=>
  cases y with
  |int j=>exact .inl ⟨i,j,rfl,rfl,h⟩
  |_=>exact h.elim
 |str i=>
  cases y with
  |str j=>exact .inr ⟨i,j,rfl,rfl,h.1,h.2⟩
  |_=>exact h.elim
 |_=>exact h.elim
def VD:ū X (binaryOp .Sub) (yM λi j=>.int (i-j)):=ū.wk Vh jT
def qT(i j:Int):Prop:=Vf i j\/(Builtin.Int.intBits i<=1048576/\Builtin.Int.intBits j<=1048576)
theorem qT.ok{i j:Int}(h:qT i j):IntMulOk i j:=by
 rcases h with h|⟨h1,h2⟩
 ·exact h.ok
 ·exact IntMulOk.of_le h1 h2 (by decide)
def VF:ū X (binaryOp .Mult) (mI qT λi j=>.int (i*j)):=ū.wk (Du (C:=qT) (g:=λi j=>i*j) λ_ _ _ _ _ _ _ hc q=>mul_int q hc.ok) vR
def Cz(_ j:Int):Prop:=j≠0/\Builtin.Int.intBits j<=8000
def Cz.py{i j:Int}(h:Cz i j):Builtin.divisionGoesByPylong i j=false:=by
 refine PyProof.noPylong_of_log2 ?_
 have hb:=intBits_le_iff.mp h.2
 have h0:j.natAbs≠0:=by have:=h.1;omega
 exact Nat.lt_of_lt_of_le ((Nat.log2_lt h0).mpr hb) (by decide)
def Kl:ū X (binaryOp .FloorDiv) (mI Cz λi j=>.int (i.fdiv j)):=ū.wk (Du (C:=Cz) (g:=λi j=>i.fdiv j) λ_ _ _ _ _ _ _ hc q=>floordiv_int hc.1 q (.inl hc.py)) vR
def VG:ū X (binaryOp .Mod) (mI (λ_ j=>j≠0) λi j=>.int (i.fmod j)):=ū.wk JM vR
def tH:ū X (binaryOp .Pow) (mI Ck λi j=>.int (i ^ j.toNat)):=ū.wk Vi vR
def nJ:ū X (compareOp .Lt) (yM λi j=>.bl (decide (i<j))):=ū.wk Zai jT
def nM:ū X (compareOp .LtE) (yM λi j=>.bl (decide (i<=j))):=ū.wk Zaj jT
def Nb:ū X (compareOp .Gt) (yM λi j=>.bl (decide (j<i))):=ū.wk Zak jT
def Zau:ū X (compareOp .GtE) (yM λi j=>.bl (decide (j<=i))):=ū.wk Zal jT
def mU(g:Int->V):V->Hp->VK->Prop:=λx H Q=>match x with
 | .int i=>Q (g i) H
 |_=>False
def dG:JK X (unaryOp .USub) (mU λi=>.int (-i)):=JK.wk Vk λx H Q h=>by
 cases x with
 |int i=>exact⟨i,rfl,h⟩
 |_=>exact h.elim
def mAbs:List V->Hp->VK->Prop:=λxs H Q=>match xs with
 | [.int i]=>Q (.int (if i<0 then -i else i)) H
 |_=>False
def VH:ņ X (.builtin "abs") mAbs:=ņ.wk Ea λxs H Q h=>by
 unfold mAbs at h
 split at h
 ·exact⟨_,rfl,h⟩
 ·exact h.elim
def Ep:List V->Hp->VK->Prop:=λxs H Q=>match xs with
 | [.int i,.int j]=>Q (.int (if j<i then j else i)) H
 |_=>False
def tK(hc:X.calm=true):ņ X (.builtin "min") Ep:=ņ.wk (Cp hc) λxs H Q h=>by
 unfold Ep at h
 split at h
 ·exact⟨_,_,rfl,h⟩
 ·exact h.elim
def Er:List V->Hp->VK->Prop:=λxs H Q=>match xs with
 | [.int i,.int j]=>Q (.int (if j>i then j else i)) H
 |_=>False
def Km(hc:X.calm=true):ņ X (.builtin "max") Er:=ņ.wk (Cm hc) λxs H Q h=>by
 unfold Er at h
 split at h
 ·exact⟨_,_,rfl,h⟩
 ·exact h.elim
def VJ(K:PySem.W.Frag):List V->Hp->VK->Prop:=λxs H Q=>match xs with
 | [.str y]=>y.length<=sizeLine/\Q (.int (y.length:Int)) H
 | [.ref p]=>∃ys,(Ř K H p ys\/bW K H p ys)/\Q (.int (ys.length:Int)) H
 |_=>False
def fL:ņ X (.builtin "len") (VJ X.K):=ņ.wk Eb λxs H Q h=>by
 unfold VJ at h
 split at h
 ·exact⟨_,_,rfl,⟨h.1,rfl⟩,h.2⟩
 ·obtain⟨ys,h1,h2⟩:=h
  refine⟨_,ys.length,rfl,?_,h2⟩
  rcases h1 with h1|h1
  ·exact .inl ⟨ys,h1,rfl⟩
  ·exact .inr ⟨ys,h1,rfl⟩
 ·exact h.elim
def mIx(K:PySem.W.Frag):R2:=λx y H Q=>match x,y with
 | .ref p,.int i=>∃xs v,(Ř K H p xs\/bW K H p xs)/\lX xs i=some v/\Q v H
 | .str z,.int i=>∃c,z.length<=sizeLine/\lX z.cps.toList i=some c/\Q (.str ⟨#[c]⟩) H
 |_,_=>False
def Zav:yJ X (mIx X.K):=yJ.wk nF λx y H Q h=>by
 cases x with
 |ref p=>
  cases y with
  |int i=>
   obtain⟨xs,v,h1,h2,h3⟩:=h
   rcases h1 with h1|h1
   ·exact .inl ⟨p,xs,i,v,rfl,rfl,h1,h2,h3⟩
   ·exact .inr (.inl ⟨p,xs,i,v,rfl,rfl,h1,h2,h3⟩)
  |_=>exact h.elim
 |str z=>
  cases y with
  |int i=>
   obtain⟨c,h1,h2,h3⟩:=h
   exact .inr (.inr ⟨z,i,c,rfl,rfl,h1,h2,h3⟩)
  |_=>exact h.elim
 |_=>exact h.elim
def iOf(x:V)(k:Int->Prop):Prop:=match x with
 | .int i=>k i
 |_=>False
def Zaw(t:TE):TO:=λσ H Q=>t σ H λx H1=>iOf x λi=>Q (some i) H1
def Es(h:PE X e te):PO X (some e) (Zaw te):=by
 intro pins s σ H Q I hw
 rw[evalPart_some]
 refine Ŏ (h pins s σ H _ I hw) λu s1 ⟨x,H1,I1,r1,q1⟩=>?_
 cases x with
 |int i=>
  obtain⟨t,rfl⟩:=r1
  exact⟨some i,H1,I1,.int i t,q1⟩
 |_=>exact q1.elim
def Zc0(K:PySem.W.Frag):V->Option Int->Option Int->Hp->VK->Prop:=λx lo hi H Q=>match x with
 | .ref a=>∃xs,Ř K H a xs/\∀p,H p=none->Q (.ref p) (upd H p (.lst (vN xs lo hi)))
 |_=>False
def Et:Ar X (Zc0 X.K):=Ar.wk Ka λx lo hi H Q h=>by
 cases x with
 |ref a=>
  obtain⟨xs,h1,h2⟩:=h
  exact⟨a,xs,rfl,h1,h2⟩
 |_=>exact h.elim
end
end M2
namespace M2
open PySem PySem.Spec PyProof.Rows L2
section
variable{X:Cx}{tg:Expr}
end
mutual
def Rp(K:PySem.W.Frag)(H:Hp):PyData->V->Prop
 | .none,v=>v=.non
 | .bool b,v=>v=.bl b
 | .int i,v=>v=.int i
 | .str x,v=>v=.str x
 | .tuple ds,v=>∃a xs,v=.ref a/\bW K H a xs/\jU K H ds xs
 | .list ds,v=>∃a xs,v=.ref a/\Ř K H a xs/\jU K H ds xs
 | .dict _,_=>False
def jU(K:PySem.W.Frag)(H:Hp):List PyData->List V->Prop
 | [],xs=>xs=[]
 |d::ds,xs=>∃x r,xs=x::r/\Rp K H d x/\jU K H ds r
end
def Same.tup{K:PySem.W.Frag}{H H':Hp}{a:Addr}{xs:List V}(e:Same H H')(h:bW K H a xs):bW K H' a xs:=by
 rcases h with(h|⟨o,h⟩)|h
 ·exact .inl (.inl (e _ _ h))
 ·exact .inl (.inr ⟨o,e _ _ h⟩)
 ·exact .inr h
theorem Same.upd{H:Hp}{p:Addr}{o:HO}(h:H p=none):Same H (upd H p o):=λb u e=>by
 rw[Ę (Ğ e h)]
 exact e
mutual
theorem Rp.same{K:PySem.W.Frag}{H H':Hp}(e:Same H H'):∀(d:PyData) (v:V),Rp K H d v->Rp K H' d v
 | .none,_,h=>by unfold Rp at h ⊢;exact h
 | .bool _,_,h=>by unfold Rp at h ⊢;exact h
 | .int _,_,h=>by unfold Rp at h ⊢;exact h
 | .str _,_,h=>by unfold Rp at h ⊢;exact h
 | .tuple ds,_,h=>by
   unfold Rp at h ⊢
   obtain⟨a,xs,h1,h2,h3⟩:=h
   exact⟨a,xs,h1,Same.tup e h2,jU.same e ds xs h3⟩
 | .list ds,_,h=>by
   unfold Rp at h ⊢
   obtain⟨a,xs,h1,h2,h3⟩:=h
   exact⟨a,xs,h1,e.seq h2,jU.same e ds xs h3⟩
 | .dict _,_,h=>by unfold Rp at h;exact h.elim
theorem jU.same{K:PySem.W.Frag}{H H':Hp}(e:Same H H'):∀(ds:List PyData) (xs:List V),jU K H ds xs->jU K H' ds xs
 | [],_,h=>by unfold jU at h ⊢;exact h
 |d::ds,_,h=>by
  unfold jU at h ⊢
  obtain⟨x,r,h1,h2,h3⟩:=h
  exact⟨x,r,h1,Rp.same e d x h2,jU.same e ds r h3⟩
end
section
variable{X:Cx}{pins:List (Addr×Obj)}{σ:L2.St}{H:Hp}{s:Shared}
mutual
theorem Rp.reads(I:Inv X pins σ H s):∀(d:PyData) (v:V) (u:Value),Rp X.K H d v->RelV v u->∃as,Reads s.heap u d as
 | .none,v,u,h,r=>by
   unfold Rp at h;subst h;cases r;exact⟨_,.none⟩
 | .bool b,v,u,h,r=>by
   unfold Rp at h;subst h;cases r;exact⟨_,.bool b⟩
 | .int i,v,u,h,r=>by
   unfold Rp at h;subst h;obtain⟨t,rfl⟩:=r;exact⟨_,.int i t⟩
 | .str x,v,u,h,r=>by
   unfold Rp at h;subst h;obtain⟨t,rfl⟩:=r;exact⟨_,.str x t⟩
 | .tuple ds,v,u,h,r=>by
   unfold Rp at h
   obtain⟨a,xs,h1,h2,h3⟩:=h
   subst h1
   cases r
   obtain⟨its,rv,⟨o,e,hc,n,hd⟩,hz⟩:=I.tuple h2
   obtain⟨as,ra⟩:=jU.reads I ds xs its h3 rv
   exact⟨_,.tuple e hc hd (by simpa using ra)⟩
 | .list ds,v,u,h,r=>by
   unfold Rp at h
   obtain⟨a,xs,h1,h2,h3⟩:=h
   subst h1
   cases r
   obtain⟨its,rv,⟨o,n,e,hc,hdd,hd⟩,hz⟩:=I.list h2
   obtain⟨as,ra⟩:=jU.reads I ds xs its h3 rv
   exact⟨_,.list e hc hd (by simpa using ra)⟩
 | .dict _,_,_,h,_=>by unfold Rp at h;exact h.elim
theorem jU.reads(I:Inv X pins σ H s):∀(ds:List PyData) (xs:List V) (us:List Value),jU X.K H ds xs->Vals xs us->∃as,ReadsAll s.heap us ds as
 | [],xs,us,h,r=>by
   unfold jU at h;subst h;cases r;exact⟨_,.nil⟩
 |d::ds,xs,us,h,r=>by
  unfold jU at h
  obtain⟨x,q,h1,h2,h3⟩:=h
  subst h1
  cases r with
  |cons r1 r2=>
   obtain⟨as,ra⟩:=Rp.reads I d x _ h2 r1
   obtain⟨bs,rb⟩:=jU.reads I ds q _ h3 r2
   exact⟨_,.cons ra rb⟩
end
end
def Ko(K:PySem.W.Frag)(neg:Bool):R2:=λx y H Q=>∃d e,Rp K H d x/\Rp K H e y/\d.canLay0=true/\e.canLay0=true/\min d.depth e.depth<=60/\Q (.bl (if neg then !PyData.eqv d e else PyData.eqv d e)) H
section
variable{X:Cx}
def Eu(hu:X.A.units+64<cLine):ū X (compareOp .Eq) (Ko X.K false):=by
 intro pins s σ H x y v u Q I rx ry h
 obtain⟨d,e,h1,h2,h3,h4,h5,q⟩:=h
 obtain⟨as,ra⟩:=Rp.reads I d x v h1 rx
 obtain⟨bs,rb⟩:=Rp.reads I e y u h2 ry
 exact SeqAt.compareEq_reads ra rb h3 h4 (by omega) ⟨.bl _,H,I,rfl,q⟩
def yN(hu:X.A.units+64<cLine):ū X (compareOp .NotEq) (Ko X.K true):=by
 intro pins s σ H x y v u Q I rx ry h
 obtain⟨d,e,h1,h2,h3,h4,h5,q⟩:=h
 obtain⟨as,ra⟩:=Rp.reads I d x v h1 rx
 obtain⟨bs,rb⟩:=Rp.reads I e y u h2 ry
 exact SeqAt.compareNe_reads ra rb h3 h4 (by omega) ⟨.bl _,H,I,rfl,q⟩
end
section
variable{K:PySem.W.Frag}
end
end M2
namespace M3
open PySem PySem.Spec PyProof.Rows L2 M2
def Az{P:Program}{w:World}{H:Hp}{h h':Heap}{C:Addr}(x:jd P w H h)(hC:H C=none)(k:∀b u,b≠C->h.get? b=some u->h'.get? b=some u):jd P w H h':=λa o e=>
 (x a o e).stay (fun b u hb q=>k b u (by
   rcases hb with hb|hb
   ·rw[hb];exact Ğ e hC
   ·exact Ğ hb hC) q) (λ_ q=>q) λ_ _ q=>q
theorem iK{env:Env}:∀(ns:List (Str×NameKind)) (cs:List (Str×Addr)),(∀y∈ns,y.2=.free->∃c,env.cells.lookup y.1=some c)->(∀x c,cs.lookup x=some c->env.cells.lookup x=some c)->
 ∃cl,(forIn ns cs (λ(x:Str×NameKind) r=>if(x.2== .free)=true then(do let c <-cellOf env x.1;pure (ForInStep.yield ((x.1,c)::r))) else pure (ForInStep.yield r)):Sem (List (Str×Addr)))=pure cl/\
  (∀x c,cl.lookup x=some c->env.cells.lookup x=some c)/\(∀x,(∃c,cs.lookup x=some c)->∃c,cl.lookup x=some c)/\∀y∈ns,y.2=.free->∃c,cl.lookup y.1=some c
 | [],cs,_,h2=>⟨cs,rfl,h2,λ_ z=>z,λ_ z=>nomatch z⟩
 |(n,k)::ns,cs,h1,h2=>by
  by_cases hk:k=.free
  ·subst hk
   obtain⟨c,hc⟩:=h1 (n,.free) List.mem_cons_self rfl
   have e:cellOf env n=pure c:=by unfold cellOf;rw[hc]
   have h2':∀x d,((n,c)::cs).lookup x=some d->env.cells.lookup x=some d:=λx d q=>by
    rw[List.lookup_cons] at q
    cases hx:x== n with
    |true=>
     rw[hx] at q
     have:x=n:=eq_of_beq hx
     subst this
     cases q
     exact hc
    |false=>
     rw[hx] at q
     exact h2 x d q
   obtain⟨cl,q1,q2,q3,q4⟩:=iK ns ((n,c)::cs) (λy hy=>h1 y (List.mem_cons_of_mem _ hy)) h2'
   refine⟨cl,?_,q2,λx ⟨d,hd⟩=>q3 x ?_,λy hy hf=>?_⟩
   ·rw[List.forIn_cons]
    simp only[beq_self_eq_true,if_true,e,pure_bind]
    exact q1
   ·rw[List.lookup_cons]
    cases hx:x== n with
    |true=>exact⟨c,rfl⟩
    |false=>exact⟨d,hd⟩
   ·rcases List.mem_cons.mp hy with rfl|hy
    ·exact q3 n ⟨c,by rw[List.lookup_cons,beq_self_eq_true]⟩
    ·exact q4 y hy hf
  ·have hb:(k== NameKind.free)=false:=by simpa using hk
   obtain⟨cl,q1,q2,q3,q4⟩:=iK ns cs (λy hy=>h1 y (List.mem_cons_of_mem _ hy)) h2
   refine⟨cl,?_,q2,q3,λy hy hf=>?_⟩
   ·rw[List.forIn_cons]
    simp only[hb,Bool.false_eq_true,if_false,pure_bind]
    exact q1
   ·rcases List.mem_cons.mp hy with rfl|hy
    ·exact absurd hf hk
    ·exact q4 y hy hf
def jh{scope:Scope}{env:Env}(h:∀y∈scope.names,y.2=.free->∃c,env.cells.lookup y.1=some c) :
 ∃cl,closureFor scope env=pure cl/\(∀x c,cl.lookup x=some c->env.cells.lookup x=some c)/\∀y∈scope.names,y.2=.free->∃c,cl.lookup y.1=some c:=by
 obtain⟨cl,q1,q2,_,q4⟩:=iK (env:=env) scope.names [] h (λx c z=>by simp at z)
 refine⟨cl,?_,q2,q4⟩
 unfold closureFor
 have e:(forIn scope.names [] (λ(x:Str×NameKind) (r:List (Str×Addr))=>match x with
  |(name,kind)=>if(kind== .free)=true then(do let a <-cellOf env name;pure (ForInStep.yield ((name,a)::r))) else pure (ForInStep.yield r)):Sem (List (Str×Addr)))=pure cl:=q1
 first
  |(simp only[bind_pure];exact q1)
  |(rw[show ∀(t:Sem (List (Str×Addr))),(do let r <-t;pure r)=t from λt=>by simp];exact q1)
  |(simp only[q1,pure_bind])
def bU(X:Cx)(N':List Str)(scope:Scope)(cl:List (Str×Addr))(C:Addr)(s:Shared)(H:Hp)(fp:List Addr):Cx where
 prog:=X.prog
 w:=X.w
 K:=X.K
 mg:=X.mg
 base:=X.base
 A:=X.A
 N:=N'
 s₀:= s
 H₀:= H
 env:=compEnvC scope cl C X.env
 outer:=X.stack
 stack:=X.stack
 ex:=fp
 fn:=λx=>scope.names.lookup x== some .cell
 calm:=X.calm
 pn:=[]
 xe:=λ_ _=>False
def h_(X:Cx)(sc scope:Scope):List Str->List Nat->Prop
 |x::xs,j::js=>X.N[j]?=some x/\(scope.names.lookup x=some .free/\(sc.names.lookup x=some .cell\/sc.names.lookup x=some .free))/\h_ X sc scope xs js
 |_,[]=>True
 | [],_::_=>False
def fM(js:List Nat)(nl:Nat)(σ:L2.St):L2.St:=js.map (λj:Nat=>(σ[j]?).getD none)++List.replicate nl none
theorem qU{X:Cx}{sc scope:Scope}{σ:L2.St}{nl:Nat}:∀{N':List Str} {js:List Nat} {i:Nat} {x:Str} {v:V},h_ X sc scope N' js->N'[i]?=some x->(fM js nl σ)[i]?=some (some v)->
 ∃j:Nat,X.N[j]?=some x/\σ[j]?=some (some v)/\scope.names.lookup x=some .free/\(sc.names.lookup x=some .cell\/sc.names.lookup x=some .free)
 |N',[],i,x,v,_,_,h=>by
  unfold fM at h
  rw[List.map_nil,List.nil_append,List.getElem?_replicate] at h
  split at h<;>cases h
 | [],_::_,_,_,_,c,_,_=>c.elim
 |y::N',j::js,0,x,v,c,h1,h2=>by
  obtain⟨c1,c2,_⟩:=c
  simp at h1
  subst h1
  have e:(σ[j]?).getD none=some v:=by simpa[fM] using h2
  refine⟨j,c1,?_,c2⟩
  cases q:σ[j]? with
  |none=>rw[q] at e;cases e
  |some o=>rw[q] at e;exact congrArg some e
 |y::N',j::js,i+1,x,v,c,h1,h2=>by
  exact qU (N':=N') (js:=js) (i:=i) c.2.2 (by simpa using h1) (by simpa[fM] using h2)
section
variable{prog:Program}{w:World}{A:Around}{R:Result->Shared->Prop}{s:Shared}
def ji{elt target iter:Expr}{ifs:List Expr}{scope:Scope}{pos:Pos}{it acc:Value}{env:Env}(I:Nat->Shared->Prop)
 (turn:∀n s,I n s→wpAny (model prog w) A (pyNext it) (fun r s₁=>match r with
   |none=>R (.ok .next) s₁
   |some v=>wpAny (model prog w) A (letOwnedTupleGo target it v) (fun _ s₁'=>wpAny (model prog w) A (assign target env v) (fun _ s₂=>
     wpAny (model prog w) A (forIn ifs true λc r=>if r=true then do let ok <-isTrue c env (eval c env);pure (ForInStep.yield ok) else pure (ForInStep.yield r)) (λok s₃=>
      if ok=true then wpAny (model prog w) A (eval elt env) (λx s₄=>
       wpAny (model prog w) A (call (.builtin "list.append") [acc,x]) (λ_ s₅=>∃m,m<n/\I m s₅) (λ_ _=>False) s₄) (λ_ _=>False) s₃
      else ∃m,m<n/\I m s₃) (λ_ _=>False) s₂) (λ_ _=>False) s₁') (λ_ _=>False) s₁) (λ_ _=>False) s)
 (n:Nat)(h:I n s) :
 codeAny (model prog w) A (.compLoop (.ListComp elt [⟨target,iter,ifs,0⟩] scope pos) 0 it acc env) R s:=by
 refine codeAny_loop rfl I (λn s hI=>?_) n h
 show wpAny _ A ((compTurn (.ListComp elt [⟨target,iter,ifs,0⟩] scope pos) 0 it acc env).onRaise (λx=>do noteFrame x env;theTreesLotGoes x)) _ _ s
 refine wpAny_noted (wpAny_noRaise ?_)
 rw[compTurn_list]
 refine wpAny_bind (wpAny_standAt (wpAny_bind (wpAny_mono (turn n s hI) (λr s₁ h₁=>?_) λ_ _ h'=>h')))
 cases r with
 |none=>exact wpAny_pure h₁
 |some v=>
  refine wpAny_bind (wpAny_mono h₁ (λ_ s₁' h₁'=>?_) λ_ _ h'=>h')
  refine wpAny_bind (wpAny_mono h₁' (λ_ s₂ h₂=>wpAny_bind (wpAny_mono h₂ (λok s₃ h₃=>?_) λ_ _ h'=>h')) λ_ _ h'=>h')
  cases ok with
  |false=>exact wpAny_pure ⟨rfl,h₃⟩
  |true=>
   exact wpAny_bind (wpAny_bind (wpAny_mono h₃ (λx s₄ h₄=>wpAny_bind (wpAny_mono h₄ (λ_ s₅ h₅=>wpAny_pure (wpAny_pure ⟨rfl,h₅⟩)) λ_ _ h'=>h')) λ_ _ h'=>h'))
end
def Ew(X:Cx)(ifs:List Expr)(t:TT):Prop:=
 ∀(pins:List (Addr×Obj)) (s:Shared) (σ:L2.St) (H:Hp) (Q:Bool->Hp->Prop),Inv X pins σ H s->t σ H Q->
  wpAny (model X.prog X.w) X.A (forIn ifs true λc r=>if r=true then do let ok <-isTrue c X.env (eval c X.env);pure (ForInStep.yield ok) else pure (ForInStep.yield r)) (TP X pins σ Q) X.xe s
def Zc1:TT:=λ_ H Q=>Q true H
def Kp{X:Cx}:Ew X [] Zc1:=λ_ _ _ H _ I h=>wpAny_tests_nil ⟨H,I,h⟩
def A_(js:List Nat)(nl:Nat)(wi:TI)(g:TG)(tt:TT)(te:TE):TE:=λσ H Q=>wi σ H λJ H1=>∀D,H1 D=none->
 ∃W:Nat->Nat->L2.St->Hp->Prop,(∃m,W 0 m (fM js nl σ) (upd H1 D (.lst [])))/\∀i m σ' H',W i m σ' H'->
  (J.stop i H'∧Q (.ref D) H')∨(J.go i H'∧∃N:L2.St→Hp→Prop,(∀σ2 H2,N σ2 H2→∃m',m'<m∧W (i+1) m' σ2 H2)∧∀x H2,J.yld i H' x H2→g x σ' H2 fun σ2 H3=>tt σ2 H3 fun c H4=>
    if c=true then te σ2 H4 λy H5=>∃ys,H5 D=some (.lst ys)/\ys.length<sizeLine/\N σ2 (upd H5 D (.lst (ys ++ [y]))) else N σ2 H4)
section
variable{X:Cx}{elt tg iter:Expr}{ifs:List Expr}{scope:Scope}{pos:Pos}{wi:TI}{g:TG}{tt:TT}{te:TE}
theorem dH{env:Env}:∀{names:List (Str×NameKind)} {x:Str} {k:NameKind},(k=.cell\/k=.free)->
 (names.map λ(n,k)=>if(k== NameKind.free && env.scope.kind== .function && env.kindOf n== some .cell) then(n,NameKind.cell) else(n,k)).lookup x=some k->(x,NameKind.free)∈names\/(x,NameKind.cell)∈names
 | [],x,k,_,h=>by simp at h
 |(n,q)::r,x,k,hk,h=>by
  have ih:=@dH env r x k hk
  rw[List.map_cons] at h
  by_cases hx:x=n
  ·subst hx
   by_cases hf:q=.free
   ·subst hf
    exact .inl List.mem_cons_self
   ·have hb:(q== NameKind.free)=false:=by simpa using hf
    have e:(if(q== NameKind.free && env.scope.kind== .function && env.kindOf x== some .cell)=true then(x,NameKind.cell) else(x,q))=(x,q):=by
     rw[hb];rfl
    have h2:=h
    simp only[e,List.lookup_cons,beq_self_eq_true] at h2
    have:q=k:=Option.some.inj h2
    rcases hk with hk|hk
    ·rw[this,hk]
     exact .inr List.mem_cons_self
    ·exact absurd (this.trans hk) hf
  ·have hn:(x== n)=false:=by simpa using hx
   have h3:(x,NameKind.free)∈r\/(x,NameKind.cell)∈r:=ih (by
    by_cases c:(q== NameKind.free && env.scope.kind== .function && env.kindOf n== some .cell)=true
    ·simp only[c,if_true,List.lookup_cons,hn] at h
     exact h
    ·simp only[c,if_false,Bool.false_eq_true,List.lookup_cons,hn] at h
     exact h)
   rcases h3 with h3|h3
   ·exact .inl (List.mem_cons_of_mem _ h3)
   ·exact .inr (List.mem_cons_of_mem _ h3)
theorem ŗ:∀(names:List (Str×NameKind)) (n:Nat) (acc:List (Str×Addr)),cellsFrom n names acc=cellsFrom n names []++acc
 | [],_,_=>rfl
 |(x,k)::r,n,acc=>by
  unfold cellsFrom
  split
  ·rw[ŗ r (n+1) ((x,n)::acc),ŗ r (n+1) [(x,n)],List.append_assoc]
   rfl
  ·exact ŗ r n acc
theorem dI:∀(names:List (Str×NameKind)) (n:Nat) {x:Str} {c:Addr},(x,c)∈cellsFrom n names []->(x,NameKind.cell)∈names
 | [],_,_,_,h=>by simp[cellsFrom] at h
 |(y,k)::r,n,x,c,h=>by
  unfold cellsFrom at h
  split at h
  ·rename_i hk
   rw[ŗ r (n+1) [(y,n)]] at h
   rcases List.mem_append.mp h with h|h
   ·exact List.mem_cons_of_mem _ (dI r _ h)
   ·have e:(x,c)=(y,n):=by simpa using h
    cases e
    rw[beq_iff_eq.mp hk]
    exact List.mem_cons_self
  ·exact List.mem_cons_of_mem _ (dI r _ h)
structure Blk(X:Cx)(scope:Scope)(n:Nat)(h:Heap)(cl:List (Str×Addr)):Prop where
 at_:∀x c,cl.lookup x=some c->(X.env.cells.lookup x=some c/\scope.names.lookup x≠some .cell)\/(n<c/\h.IsCell c none/\scope.names.lookup x=some .cell)
 inj:∀x y c,cl.lookup x=some c->cl.lookup y=some c->n<c->x=y
 has:∀x,((x,NameKind.free)∈scope.names\/(x,NameKind.cell)∈scope.names)->∃c,cl.lookup x=some c
def Ey{X:Cx}{scope:Scope}{n:Nat}{h:Heap}{cl:List (Str×Addr)}(hcell:∀y∈scope.names,y.2=.cell->scope.names.lookup y.1=some .cell)
 (h1:∀x c,cl.lookup x=some c->X.env.cells.lookup x=some c)(h2:∀y∈scope.names,y.2=.free->∃c,cl.lookup y.1=some c)(hlt:∀x c,X.env.cells.lookup x=some c->c<n)
 (ok:CellsOk h (n+1) (cellsFrom (n+1) scope.names [])):Blk X scope n h (cellsFrom (n+1) scope.names cl):=by
 have sp:∀x c,(cellsFrom (n+1) scope.names cl).lookup x=some c->(cl.lookup x=some c/\(cellsFrom (n+1) scope.names []).lookup x=none)\/(cellsFrom (n+1) scope.names []).lookup x=some c:=λx c e=>by
  rw[ŗ,List.lookup_append] at e
  cases q:(cellsFrom (n+1) scope.names []).lookup x with
  |none=>rw[q] at e;exact .inl ⟨by simpa using e,rfl⟩
  |some d=>rw[q] at e;exact .inr (by simpa using e)
 refine⟨λx c e=>?_,λx y c e1 e2 hc=>?_,λx hx=>?_⟩
 ·rcases sp x c e with⟨e,q⟩|e
  ·refine .inl ⟨h1 x c e,λz=>?_⟩
   obtain⟨d,hd⟩:=jg (sc:=scope) (n:=n+1) z
   rw[hd] at q
   cases q
  ·have m:=mem_of_lookup e
   exact .inr ⟨(ok.empty x c m).2,(ok.empty x c m).1,hcell _ (dI _ _ m) rfl⟩
 ·have nw:∀z,(cellsFrom (n+1) scope.names cl).lookup z=some c→(cellsFrom (n+1) scope.names []).lookup z=some c:=fun z e=>by
   rcases sp z c e with⟨e,q⟩|e
   ·exact absurd (hlt z c (h1 z c e)) (Nat.lt_asymm hc)
   ·exact e
  exact name_of_addr ok.apart (mem_of_lookup (nw x e1)) (mem_of_lookup (nw y e2))
 ·rw[ŗ,List.lookup_append]
  rcases hx with hx|hx
  ·obtain⟨c,hc⟩:=h2 _ hx rfl
   cases q:(cellsFrom (n+1) scope.names []).lookup x with
   |none=>exact⟨c,by simpa using hc⟩
   |some d=>exact⟨d,rfl⟩
  ·obtain⟨d,hd⟩:=jg (sc:=scope) (n:=n+1) (hcell _ hx rfl)
   rw[hd]
   exact⟨d,rfl⟩
def ig{M:Model}{A:Around}{E:Value->Shared->Prop}{s:Shared}{scope:Scope}{globals:Addr}{closure:List (Str×Addr)}{qual:Str}
 {func:Option Addr}{code:Value}{env0:Env}{builtins:Addr}{Q:Env->Shared->Prop}
 (hQ:∀h',h'.Ns s.heap.objs.size (fun _=>none)→(∀b o,s.heap.get? b=some o→h'.get? b=some o)→CellsOk h' (s.heap.objs.size+1) (cellsFrom (s.heap.objs.size+1) scope.names [])→
   Q (newEnv scope s.heap.objs.size globals (cellsFrom (s.heap.objs.size+1) scope.names closure) qual func code (some env0) builtins) {s with heap:=h'}) :
 wpAny M A (newFunctionEnv scope globals closure [] qual func code (some env0) builtins) Q E s:=by
 simp only[newFunctionEnv,Option.isSome_some,if_true]
 refine wpAny_bind (wpAny_alloc ?_)
 refine wpAny_bind (wpAny_layCells _ (λname kind cells=>by cases hkc:kind== NameKind.cell<;>simp[hkc]) _ _ _ _ ?_)
 have ok:=cellsFrom_ok scope.names (s.heap.push {cls:=.type "dict",data:=.dict #[]}) (s.heap.objs.size+1) [] ⟨λ_ _ hm=>(nomatch hm),List.Pairwise.nil⟩ (by rw[Heap.size_push];exact Nat.le_refl _)
 rw[Heap.size_push] at ok
 rw[show({s with heap:=s.heap.push {cls:=.type "dict",data:=.dict #[]}}:Shared).heap.objs.size=s.heap.objs.size+1 from Heap.size_push ..]
 refine wpAny_bind ?_
 rw[List.forIn_nil]
 exact wpAny_pure (wpAny_pure (hQ _ ((Heap.Ns.new s.heap (.type "dict")).keeps (pushCells_keeps _ _)) (λb o e=>pushCells_keeps _ _ b o (Heap.get?_push_of_some _ e)) ok))
theorem jj{env:Env}:∀{names:List (Str×NameKind)} {x:Str},names.lookup x=some .free->
 ¬(names.map λ(n,k)=>if(k== NameKind.free && env.scope.kind== .function && env.kindOf n== some .cell) then(n,NameKind.cell) else(n,k)).lookup x=some .local
 | [],x,h=>by simp at h
 |(n,q)::r,x,h=>by
  intro h2
  rw[List.map_cons] at h2
  rw[List.lookup_cons] at h
  cases hx:x== n with
  |true=>
   rw[hx] at h
   cases h
   by_cases c:(NameKind.free== NameKind.free && env.scope.kind== .function && env.kindOf n== some .cell)=true
   ·simp only[c,if_true,List.lookup_cons,hx] at h2
    cases h2
   ·simp only[c,if_false,Bool.false_eq_true,List.lookup_cons,hx] at h2
    cases h2
  |false=>
   rw[hx] at h
   have ih:=jj (env:=env) h
   by_cases c:(q== NameKind.free && env.scope.kind== .function && env.kindOf n== some .cell)=true
   ·simp only[c,if_true,List.lookup_cons,hx] at h2
    exact ih h2
   ·simp only[c,if_false,Bool.false_eq_true,List.lookup_cons,hx] at h2
    exact ih h2
def qW{pins:List (Addr×Obj)}{σ:L2.St}{H:Hp}{s:Shared}{N':List Str}{js:List Nat}{nl:Nat}{sc:Scope}{cl:List (Str×Addr)}{fp:List Addr}{h':Heap}{tk:Nat}
 (hsc:X.env.scope=sc)(hk:scope.kind=.function)(hcap:h_ X sc scope N' js)(hlen:js.length+nl=N'.length)(B:Blk X scope s.heap.objs.size h' cl)
 (I:Inv X pins σ H s)(hf:∀b∈fp,fH X pins H b)(hlt:∀b∈fp,b<s.heap.objs.size)
 (hn:h'.Ns s.heap.objs.size (λ_=>none))(kp:∀b o,s.heap.get? b=some o->h'.get? b=some o) :
 Inv (bU X N' scope cl s.heap.objs.size s H fp) [] (fM js nl σ) H {s with heap:=h',toks:=tk}:=by
 have Ez:∀x,((bU X N' scope cl s.heap.objs.size s H fp).env.kindOf x=some .cell\/(bU X N' scope cl s.heap.objs.size s H fp).env.kindOf x=some .free)->∃c,cl.lookup x=some c:=λx hx=>by
  rcases hx with hx|hx
  ·exact B.has x (dH (.inl rfl) hx)
  ·exact B.has x (dH (.inr rfl) hx)
 have lt:∀x c,X.env.cells.lookup x=some c->c<s.heap.objs.size:=λx c e=>by
  obtain⟨v,o,ho,_⟩:=I.cell x c e
  exact Heap.lt_size ho
 have inj:∀x y c,cl.lookup x=some c->cl.lookup y=some c->x=y:=λx y c e1 e2=>by
  rcases B.at_ x c e1 with⟨q1,_⟩|⟨q1,_⟩
  ·rcases B.at_ y c e2 with⟨q2,_⟩|⟨q2,_⟩
   ·exact I.ok.inj x y c q1 q2
   ·exact absurd (lt x c q1) (Nat.lt_asymm q2)
  ·exact B.inj x y c e1 e2 q1
 refine⟨⟨I.ok.mod,hk,I.ok.glob,I.ok.blt,Nat.le_refl _,inj,Ez,λx c z e=>by
  rcases B.at_ x c e with⟨_,q⟩|⟨q,_⟩
  ·exact absurd (beq_iff_eq.mp z) q
  ·exact Nat.le_of_lt q,I.ok.hd,I.ok.frames,.inl rfl,λb hb=>⟨Nat.ne_of_lt (hlt b hb),λx c e=>by
  rcases B.at_ x c e with⟨q,_⟩|⟨q,_⟩
  ·exact(hf b hb).2.2.2.2.1 x c q
  ·exact Nat.ne_of_gt (Nat.lt_trans (hlt b hb) q)⟩,
  I.bs,Nat.le_trans I.ok.JC I.sz,fun b o e hb=>?_,fun b hb hz=>?_,I.stack,I.Ak,I.tb⟩,rfl,I.bare,Un.kept kp,⟨_,hn,fun i x v e1 e2 e3=>?_⟩,fun x c e=>?_,I.hok.fresh (Nat.le_refl _),fun x c e=>by
    rcases B.at_ x c e with⟨q,_⟩|⟨q,_⟩
    ·exact I.g_ x c q
    ·exact I.hok.fresh (Nat.le_of_lt q),λp hp=>?_,I.hok.kept kp,?_⟩
 ·rcases(hf b hb).2.2.2.1 with z|z
  ·exact I.ok.Ce b o e z
  ·exact absurd (Nat.lt_of_lt_of_le (Heap.lt_size e) (Nat.le_trans I.ok.JC z)) (Nat.lt_irrefl _)
 ·rcases List.mem_cons.mp (I.nu b hz) with z|z
  ·exact(hf b hb).2.1 z
  ·exact(hf b hb).2.2.1 z
 ·obtain⟨j,q1,q2,q0,q3⟩:=qU hcap e1 e2
  obtain⟨m,hm,hl⟩:=I.loc
  have Zc2:Aj X.env.scope x:=by
   rw[hsc]
   rcases q3 with q3|q3
   ·exact .inr (.inl q3)
   ·exact .inr (.inr q3)
  obtain⟨u,ru,lk⟩:=hl j x v q1 q2 Zc2
  refine⟨u,ru,?_⟩
  rcases lk with⟨k1,_⟩|⟨k1,c,hc,ic⟩
  ·exfalso
   have k1':sc.names.lookup x=some .local:=by rw[<-hsc];exact k1
   rcases q3 with q3|q3<;>(rw[k1'] at q3;cases q3)
  ·have e3':(bU X N' scope cl s.heap.objs.size s H fp).env.kindOf x=some .local\/(bU X N' scope cl s.heap.objs.size s H fp).env.kindOf x=some .cell\/(bU X N' scope cl s.heap.objs.size s H fp).env.kindOf x=some .free:=e3
   rcases e3' with z|z
   ·exact absurd z (jj (env:=X.env) q0)
   ·obtain⟨d,hd⟩:=Ez x z
    have:d=c:=by
     rcases B.at_ x d hd with⟨q,_⟩|⟨_,_,q⟩
     ·rw[hc] at q
      exact(Option.some.inj q).symm
     ·rw[q0] at q
      cases q
    subst this
    exact .inr ⟨z,d,hd,by
     obtain⟨o,ho,hd'⟩:=ic
     exact⟨o,kp _ _ ho,hd'⟩⟩
 ·rcases B.at_ x c e with⟨q,_⟩|⟨_,q,_⟩
  ·obtain⟨v,o,ho,hd⟩:=I.cell x c q
   exact⟨v,o,kp _ _ ho,hd⟩
  ·exact⟨none,q⟩
 ·exact absurd hp (by simp[bU])
 ·show _=N'.length
  rw[<-hlen]
  simp[fM]
def nO{pins:List (Addr×Obj)}{σ σ':L2.St}{H H':Hp}{s s':Shared}{N':List Str}{cl:List (Str×Addr)}{fp:List Addr}{h':Heap}(I:Inv X pins σ H s)(hf:∀b∈fp,fH X pins H b)
 (J:Inv (bU X N' scope cl s.heap.objs.size s H fp) [] σ' H' s')(kp:∀b u,b≠s.heap.objs.size->s'.heap.get? b=some u->h'.get? b=some u):Inv X pins σ H' {s' with heap:=h'}:=by
 have ne:∀{b:Addr} {o:Obj},s.heap.get? b=some o->b≠s.heap.objs.size:=λe=>Nat.ne_of_lt (Heap.lt_size e)
 have u:=J.base
 refine I.call' (ch:=fp) J.os ⟨λb o e n hb hx=>kp b o (ne e) (u.keep b o e n hb hx),λb o e n hb hx=>?_,λb o e n hx=>u.free b o e n hx,λb o e hx=>?_,u.tups,u.qj,u.lV⟩ (Az J.hok J.free kp) J.bare λb hb=>?_
 ·obtain⟨sl,q⟩:=u.slot b o e n hb hx
  exact⟨sl,kp b _ (ne e) q⟩
 ·obtain⟨o',q⟩:=u.there b o e hx
  exact⟨o',kp b _ (ne e) q⟩
 ·exact⟨(hf b hb).2.2.2.1,(hf b hb).2.1,(hf b hb).2.2.2.2.1,(hf b hb).2.2.2.2.2⟩
def Ba(N':List Str)(js:List Nat)(nl:Nat)(sc:Scope)(hsc:X.env.scope=sc)(hcalm:X.calm=true)
 (hi:PI X.ō tg iter wi)(hg:∀cl C s H fp,PG (bU X.ō N' scope cl C s H fp) tg g)(ht:∀cl C s H fp,Ew (bU X.ō N' scope cl C s H fp) ifs tt)(he:∀cl C s H fp,PE (bU X.ō N' scope cl C s H fp) elt te)
 (hcap:h_ X.ō sc scope N' js)(hlen:js.length+nl=N'.length:=by rfl)
 (hk:scope.kind=.function:=by rfl)(hcell:∀y∈scope.names,y.2=.cell->scope.names.lookup y.1=some .cell:=by decide +kernel)(hnames:∀y∈scope.names,y.2=.local->scope.names.lookup y.1=some .local:=by decide +kernel)
 (hfree:∀y∈scope.names,y.2=.free->(sc.names.lookup y.1=some .cell\/sc.names.lookup y.1=some .free):=by decide +kernel)
 (hs:∀x,foldedSetIterable iter X.env x=pure x:=by intro _;rfl) :
 PE X.ō (.ListComp elt [⟨tg,iter,ifs,0⟩] scope pos) (A_ js nl wi g tt te):=by
 intro pins s σ H Q I h
 obtain⟨cl0,c1,c2,c3⟩:=jh (scope:=scope) (env:=X.ō.env) λy hy hf=>I.ok.has y.1 (by
  have:=hfree y hy hf
  rw[<-hsc] at this
  exact this)
 rw[eval_ListComp]
 refine wpAny_comprehension_free (use:=none) rfl hs c1 hk hnames (Ŏ (hi pins s σ H _ I h) λv s1 h1=>Ŏ h1 λitv s2 h2=>?_)
 obtain⟨it,fp,tn,J,H2,e,I2,T,st2,f2,q2⟩:=h2
 subst e
 refine wpAny_newObj_type (ig (λh₁ hns₁ old VL=>?_))
 dsimp only at hns₁ old VL ⊢
 generalize VN:s2.heap.push {cls:=.type "list",dict:=none,data:=.seq ([]:List Value).toArray}=bA at hns₁ old VL ⊢
 have hD:H2 s2.heap.objs.size=none:=I2.hok.fresh (Nat.le_refl _)
 have I3:Inv X.ō pins σ (upd H2 s2.heap.objs.size (.lst [])) {s2 with heap:=bA}:=by
  rw[<-VN]
  exact I2.laid (t':=s2.toks) (λb u e=>Heap.get?_push_of_some _ e) (Nat.le_refl _) ⟨Nat.zero_le _,[],0,.nil,Heap.get?_push_size _ rfl⟩
 have EY:∀b∈fp,b<s2.heap.objs.size:=λb hb=>by
  obtain⟨o,ho,_⟩:=T.obj 0 _ st2 b hb
  exact Heap.lt_size ho
 have VP:bA.objs.size=s2.heap.objs.size+1:=by rw[<-VN,Heap.size_push]
 have f3:∀b∈fp,fH X.ō pins (upd H2 s2.heap.objs.size (.lst [])) b:=λb hb=>by
  obtain⟨g0,g1⟩:=f2 b hb
  exact⟨by rw[Ę (Nat.ne_of_lt (EY b hb))];exact g0,g1⟩
 have B:=Ey (X:=X.ō) (cl:=cl0) hcell c2 c3 (λx c e=>by
  obtain⟨v,o,ho,_⟩:=I3.cell x c e
  exact Heap.lt_size ho) VL
 generalize cellsFrom (bA.objs.size+1) scope.names cl0=cl at B ⊢
 obtain⟨W,⟨m0,w0⟩,turn⟩:=q2 s2.heap.objs.size hD
 have I4:=qW (X:=X.ō) (N':=N') (js:=js) (nl:=nl) (sc:=sc) (scope:=scope) (cl:=cl) (fp:=fp) (h':=h₁) (tk:=s2.toks) hsc hk hcap hlen B I3 f3 (λb hb=>by show b<bA.objs.size;rw[VP];exact Nat.lt_succ_of_lt (EY b hb)) hns₁ old
 have st4:tn 0 h₁:= T.keep 0 _ _ st2 λb hb o e=>old b o (by rw[<-VN];exact Heap.get?_push_of_some _ e)
 have fr4:∀b∈fp,(upd H2 s2.heap.objs.size (.lst [])) b=none:=λb hb=>(f3 b hb).1
 have stat:∀{H':Hp},(∀b∈fp,H' b=none)->∀b∈fp,fH (bU X.ō N' scope cl bA.objs.size {s2 with heap:=bA} (upd H2 s2.heap.objs.size (.lst [])) fp) [] H' b:=fun{H'} hn b hb=>by
  obtain⟨g0,g1,g2,g3,g4,g5⟩:=f3 b hb
  refine⟨hn b hb,Nat.ne_of_lt (by show b<bA.objs.size;rw[VP];exact Nat.lt_succ_of_lt (EY b hb)),λz=>?_,.inl hb,λx c e=>by
   rcases B.at_ x c e with⟨q,_⟩|⟨q,_⟩
   ·exact g4 x c q
   ·exact Nat.ne_of_gt (Nat.lt_trans (by show b<bA.objs.size;rw[VP];exact Nat.lt_succ_of_lt (EY b hb)) q),λp hp=>absurd hp (by simp[bU])⟩
  rcases List.mem_cons.mp (I3.nu b z) with z|z
  ·exact g1 z
  ·exact g2 z
 have loop:∀s₃:Shared,s₃= {s2 with heap:=h₁}->
  codeAny (model X.prog X.w) X.A (.compLoop (.ListComp elt [⟨tg,iter,ifs,0⟩] scope pos) 0 (.ref it) (.ref s2.heap.objs.size) (compEnvC scope cl bA.objs.size X.ō.env))
   (compPost (model X.prog X.w) X.A X.ō.xe none (EP X.ō pins σ Q) (.ref s2.heap.objs.size) bA.objs.size) s₃:= by
  rintro s₃ rfl
  refine ji (λn s'=>∃i σ' H',Inv (bU X.ō N' scope cl bA.objs.size {s2 with heap:=bA} (upd H2 s2.heap.objs.size (.lst [])) fp) [] σ' H' s'/\tn i s'.heap/\(∀b∈fp,H' b=none)/\W i n σ' H') ?_ m0 ⟨0,_,_,I4,st4,fr4,w0⟩
  rintro n s5 ⟨i,σ5,H5,I5,JH,Vd,w5⟩
  rcases turn i n σ5 H5 w5 with⟨stop,qn⟩|⟨go,N,hN,step⟩
  ·refine Ŏ (T.done (bU X.ō N' scope cl bA.objs.size {s2 with heap:=bA} (upd H2 s2.heap.objs.size (.lst [])) fp) rfl rfl rfl hcalm i [] s5 σ5 H5 (λ_ _=>False) I5 (stat Vd) JH stop) λr s6 ⟨hr,I6⟩=>?_
   subst hr
   obtain⟨m,hm,_⟩:=I6.loc
   refine⟨m,hm,λh' hs'=>⟨.ref s2.heap.objs.size,H5,nO I3 f3 I6 (λb u hb e=>hs'.extBut b u hb e),rfl,qn⟩⟩
  ·refine Ŏ (T.item (bU X.ō N' scope cl bA.objs.size {s2 with heap:=bA} (upd H2 s2.heap.objs.size (.lst [])) fp) rfl rfl rfl hcalm i [] s5 σ5 H5 (λ_ _=>False) I5 (stat Vd) JH go) λr s6 ⟨u,hr,h6⟩=>?_
   subst hr
   refine Ŏ h6 λ_ s7 ⟨x,H7,I7,r7,y7,VR,fr7⟩=>?_
   have I7':=I7.pinned (stat fr7) (T.obj _ _ VR)
   have again:∀{s8:Shared} {σ8:L2.St} {H8:Hp},Inv (bU X.ō N' scope cl bA.objs.size {s2 with heap:=bA} (upd H2 s2.heap.objs.size (.lst [])) fp) ([]++jN fp s7.heap) σ8 H8 s8->
    Inv (bU X.ō N' scope cl bA.objs.size {s2 with heap:=bA} (upd H2 s2.heap.objs.size (.lst [])) fp) [] σ8 H8 s8/\tn (i+1) s8.heap/\∀b∈fp,H8 b=none:=fun{s8 σ8 H8} I8=>by
    refine⟨I8.fJ,T.keep _ _ _ VR λb hb o e=>(I8.pin (b,o) (List.mem_append_right _ (List.mem_append_right _ (aD hb e)))).1,λb hb=>?_⟩
    obtain⟨o,e,d⟩:=T.obj _ _ VR b hb
    exact(I8.pin (b,o) (List.mem_append_right _ (List.mem_append_right _ (aD hb e)))).2.1
   refine Ŏ (hg cl _ _ _ fp _ s7 σ5 H7 x u _ I7' r7 (step x H7 y7)) λ_ s8 ⟨σ8,H8,I8,q8⟩=>?_
   refine Ŏ (ht cl _ _ _ fp _ s8 σ8 H8 _ I8 q8) λc s9 ⟨H9,I9,q9⟩=>?_
   cases c with
   |false=>
    rw[if_neg Bool.false_ne_true] at q9 ⊢
    obtain⟨m',hm',w9⟩:=hN _ _ q9
    obtain⟨a1,a2,a3⟩:=again I9
    exact⟨m',hm',i+1,σ8,H9,a1,a2,a3,w9⟩
   |true=>
    rw[if_pos rfl] at q9 ⊢
    refine Ŏ (he cl _ _ _ fp _ s9 σ8 H9 _ I9 q9) λyv xX ⟨y,H10,I10,r10,ys,e10,l10,w10⟩=>?_
    refine Ŏ (bD _ xX σ8 H10 (.ref s2.heap.objs.size) [y] (.ref s2.heap.objs.size) [yv] (λ_ V_=>N σ8 V_) I10 rfl (.cons r10 .nil) ⟨_,ys,y,rfl,rfl,e10,l10,w10⟩) λ_ s11 ⟨v11,V_,I11,_,w11⟩=>?_
    obtain⟨a1,a2,a3⟩:=again I11
    obtain⟨m',hm',w11⟩:=hN _ _ w11
    exact⟨m',hm',i+1,σ8,V_,a1,a2,a3,w11⟩
 exact codeAny_compStart_list (loop _ rfl) (T.self _ 0 _ _ _ st4 (loop _ rfl))
end
def Its(z:Str):It:=⟨λi _=>i<z.cps.size,λi H x H'=>H'=H/\∃c,z.cps.toList[i]?=some c/\x=.str ⟨#[c]⟩,λi _=>i=z.cps.size⟩
def CG{P:Program}{w:World}{K:PySem.W.Frag}{tg:Expr}(it:Addr)(z:Str)(t:Tok)(ty:String)
 (hW:∀A:Around,A.handled=none->Walks P w A it [it] [it] z.cps.size (SignAt z) (λi h=>h.IsStrIter it ty z t i))
 (hS:∀(A:Around) (i:Nat) (s:Shared) (Q:Value->Shared->Prop) (E:Value->Shared->Prop),s.heap.IsStrIter it ty z t i->Q (.ref it) s->wpAny (model P w) A (pyIter (.ref it)) Q E s)
 (hty:["enumerate","zip","dict_itemiterator","dict_reverseitemiterator","odict_iterator","itertools.zip_longest","itertools.pairwise"].contains ty=false):Turn P w K tg (Its z) [it] it (λi h=>h.IsStrIter it ty z t i) where
 mem:=by simp
 obj:=λi h st b hb=>by
  have e:b=it:=by simpa using hb
  subst e
  obtain⟨o,e,c,d⟩:=st
  exact⟨o,e,λv z=>by rw[d] at z;cases z⟩
 keep:=λi h h' st k=>by
  obtain⟨o,e,c,d⟩:=st
  exact⟨o,k it (by simp) o e,c,d⟩
 item:=by
  intro X hP hw hK hc i pins s σ H E I hf st hg
  subst hP hw hK
  obtain⟨f0,f1,f2,f3,f4,f5⟩:=hf it (by simp)
  refine(hW X.A (I.ok.hd hc)).item i s _ _ hg st λv h' tk hv st' kk=>?_
  obtain⟨c,u,hcu,rfl⟩:=hv
  have I1:Inv X pins σ H {s with heap:=h',toks:=tk}:=I.turned (λb o hb e=>kk b o (by simpa using hb) e) f0 f1 f3 f4 f5
  obtain⟨o,e,cl,d⟩:=id st'
  exact⟨_,rfl,Aq (s:={s with heap:=h',toks:=tk}) e cl d hty ⟨.str ⟨#[c]⟩,H,I1,⟨u,rfl⟩,⟨rfl,c,by simpa using hcu,rfl⟩,st',λb hb=>(hf b hb).1⟩⟩
 done:=by
  intro X hP hw hK hc i pins s σ H E I hf st hg
  subst hP hw hK
  obtain⟨f0,f1,f2,f3,f4,f5⟩:=hf it (by simp)
  have e:i=z.cps.size:=hg
  subst e
  exact(hW X.A (I.ok.hd hc)).done s _ _ st λh' tk kk=>⟨rfl,I.turned (λb o hb e=>kk b o (by simpa using hb) e) f0 f1 f3 f4 f5⟩
 self:=hS
section
variable{X:Cx}{tg:Expr}
end
end M3
namespace M4
open PySem PySem.Spec PyProof.Rows L2 M2 M3
section
variable{X:Cx}
def Kq{bs:List Bool}:∀{us:List Value},Vals (bs.map V.bl) us->us=bs.map Value.bool:=by
 induction bs with
 |nil=>intro us r;rw[List.map_nil] at r;cases r;rfl
 |cons b bs ih=>
  intro us r
  rw[List.map_cons] at r
  cases r with
  |cons r1 r2=>
   cases r1
   rw[ih r2]
   rfl
def all_range(bs:List Bool):(List.range (bs.map Value.bool).toArray.size).all (λi=>bs.getD i false)=bs.all id:=by
 have e:(bs.map Value.bool).toArray.size=bs.length:=by simp
 rw[e,Bool.eq_iff_iff]
 simp only[List.all_eq_true,List.mem_range,id]
 constructor
 ·intro h b hb
  obtain⟨i,hi,rfl⟩:=List.mem_iff_getElem.mp hb
  have:=h i hi
  rw[List.getD_eq_getElem?_getD,List.getElem?_eq_getElem hi] at this
  exact this
 ·intro h i hi
  rw[List.getD_eq_getElem?_getD,List.getElem?_eq_getElem hi]
  exact h _ (List.getElem_mem hi)
def vU{prog:Program}{w:World}{A:Around}(bs:List Bool):TruthOf prog w A (λi v=>(bs.map Value.bool).toArray[i]?=some v) (λi=>bs.getD i false):=by
 intro i v s Q E hv hq
 have hv':bs[i]?.map Value.bool=some v:=by
  rw[<-List.getElem?_map]
  simpa using hv
 cases hb:bs[i]? with
 |none=>rw[hb] at hv';cases hv'
 |some b=>
  rw[hb] at hv'
  cases hv'
  dsimp only at hq
  rw[List.getD_eq_getElem?_getD,hb] at hq
  exact wpAny_truthy_bool hq
def Wa(K:PySem.W.Frag):List V->Hp->VK->Prop:=λxs H Q=>match xs with
 | [.ref p]=>∃bs:List Bool,Ř K H p (bs.map V.bl)/\Q (.bl (bs.all id)) H
 |_=>False
def nP(hc:X.calm=true):ņ X (.builtin "all") (Wa X.K):=by
 intro pins s σ H xs us Q I r h
 unfold Wa at h
 split at h
 ·rename_i p
  obtain⟨bs,hS,q⟩:=h
  obtain⟨u,rfl,ru⟩:=vals1 r
  cases ru
  obtain⟨its,rv,pl,hz⟩:=I.list hS
  have e:=Kq rv
  subst e
  have hp:p≠s.heap.objs.size:=by
   obtain⟨o,n,e,_⟩:=pl
   exact Nat.ne_of_lt (Heap.lt_size e)
  refine call_all_walk (wpAny_pyIter_list pl.isList ?_)
  refine⟨s.heap.objs.size,_,_,_,_,_,_,rfl,Walks.list (A:=X.A.in1) (show X.A.in1.handled=none from I.ok.hd hc) s.heap.objs.size p hp (bs.map Value.bool).toArray,⟨⟨_,Heap.get?_push_size _ rfl,rfl,rfl⟩,pl.isList.at λo e=>Heap.get?_push_of_some _ e⟩,vU bs,λh' tk k=>?_⟩
  rw[all_range]
  exact⟨.bl _,H,I.kept λb o e=>k b o (by simpa using Nat.ne_of_lt (Heap.lt_size e)) (Heap.get?_push_of_some _ e),rfl,q⟩
 ·exact h.elim
end
abbrev S(l:List Nat):Str:=⟨l.toArray⟩
def Wb(z:Str):S z.cps.toList=z:=by
 cases z
 simp
def Nf(l:List Nat):(S l).length=l.length:=by simp[Str.length]
def vV(z:Str):z.cps.toList.length=z.length:=by simp[Str.length]
def Ng(a b:List Nat):S a++S b=S (a++b):=by
 refine PyProof.Rows.ext_toList ?_
 rw[PySem.W.KT.app_list]
def tM(xs:List Nat)(lo hi:Option Int):List Nat:=(xs.drop (HT.gZ xs.length 0 lo)).take (HT.gZ xs.length xs.length hi-HT.gZ xs.length 0 lo)
def idx_eq(z:Str)(lo hi:Option Int):Builtin.Str.strSliceIndices lo hi 1 z.length=(List.range (HT.gZ z.length z.length hi-HT.gZ z.length 0 lo)).map (HT.gZ z.length 0 lo + ·):=by
 have hc:∀(o:Option Int) (d:Nat),d<=z.length->(match o with|none=>((d:Nat):Int)|some i=>max 0 (min (if i<0 then i+(z.length:Int) else i) (z.length:Int)))=((HT.gZ z.length d o:Nat):Int):=by
  intro o d hd
  cases o with
  |none=>rfl
  |some i=>
   show max 0 (min (if i<0 then i+(z.length:Int) else i) (z.length:Int))=((if i<0 then(i+(z.length:Int)).toNat else min i.toNat z.length:Nat):Int)
   by_cases h:i<0
   ·rw[if_pos h,if_pos h];omega
   ·rw[if_neg h,if_neg h];omega
 have e:Builtin.Str.strSliceIndices lo hi 1 z.length=sliceRange ((HT.gZ z.length 0 lo:Nat):Int) ((HT.gZ z.length z.length hi:Nat):Int) 1:=by
  have h1:=hc lo 0 (Nat.zero_le _)
  have h2:=hc hi z.length (Nat.le_refl _)
  unfold Builtin.Str.strSliceIndices
  simp only[show(1:Int)>0 by decide,if_true]
  rw[<-h1,<-h2]
  cases lo<;>cases hi<;>rfl
 rw[e,sliceRange_one]
def Kr(z:Str)(lo hi:Option Int):(Builtin.Str.strSliceIndices lo hi 1 z.length).filterMap (z.cps[·]?)=tM z.cps.toList lo hi:=by
 rw[idx_eq,pick_run]
 unfold tM
 rw[vV]
def Ks(xs:List Nat)(lo hi:Option Int):(tM xs lo hi).length<=xs.length:=by
 unfold tM
 rw[List.length_take,List.length_drop]
 omega
def E_{z:Str}{t:Tok}{l u:Option (Int×Tok)}{Q:Value->Shared->Prop}{s:Shared}(hz:z.length<=sizeLine)
 (h:∀t' k,Q (.str (S (tM z.cps.toList (l.map (·.1)) (u.map (·.1)))) t') {s with toks:=k}):(sliceMade z t l u none).post Q s:=by
 have e:=Kr z (l.map (·.1)) (u.map (·.1))
 unfold sliceMade
 have ep:slicePicked z l u none=Builtin.Str.strSliceIndices (l.map (·.1)) (u.map (·.1)) 1 z.length:=rfl
 rw[ep]
 split
 ·rename_i hc
  have hl:(Builtin.Str.strSliceIndices (l.map (·.1)) (u.map (·.1)) 1 z.length).length=z.length:=by simpa using hc
  have hz2:tM z.cps.toList (l.map (·.1)) (u.map (·.1))=z.cps.toList:=by
   rw[idx_eq,List.length_map,List.length_range] at hl
   have hi:=HT.Eh z.length 0 (Nat.zero_le _) (l.map (·.1))
   have hj:=HT.Eh z.length z.length (Nat.le_refl _) (u.map (·.1))
   unfold tM
   rw[vV]
   have hl2:=vV z
   have a0:HT.gZ z.length 0 (l.map (·.1))=0\/z.length=0:=by omega
   rcases a0 with a0|a0
   ·rw[a0] at hl ⊢
    rw[List.drop_zero]
    exact List.take_of_length_le (by omega)
   ·have:z.cps.toList=[]:=List.eq_nil_of_length_eq_zero (by omega)
    rw[this]
    simp
  have:=h t s.toks
  rw[hz2,Wb] at this
  exact this
 ·rw[e]
  exact⟨by rw[Nf];have:=Ks z.cps.toList (l.map (·.1)) (u.map (·.1));rw[vV] at this;omega,h _ _⟩
section
variable{X:Cx}
def Zc3:V->Option Int->Option Int->Hp->VK->Prop:=λx lo hi H Q=>match x with
 | .str z=>z.length<=sizeLine/\Q (.str (S (tM z.cps.toList lo hi))) H
 |_=>False
def Ku:Ar X Zc3:=by
 intro pins s σ H x v vl vu lo hi sl Q I rx hs pl pu h
 cases x with
 |str z=>
  obtain⟨t,rfl⟩:=rx
  obtain⟨hz,q⟩:=h
  obtain⟨l,el,el2⟩:∃l:Option (Int×Tok),partValue l=vl/\l.map (·.1)=lo:=by
   cases pl with
   |none=>exact⟨none,rfl,rfl⟩
   |int i t=>exact⟨some (i,t),rfl,rfl⟩
  obtain⟨u,eu,eu2⟩:∃u:Option (Int×Tok),partValue u=vu/\u.map (·.1)=hi:=by
   cases pu with
   |none=>exact⟨none,rfl,rfl⟩
   |int i t=>exact⟨some (i,t),rfl,rfl⟩
  subst el el2 eu eu2
  exact⟨"str",_,F.slot_str_getitem.lookup,typeIs_str s z t,wpAny_getItem_str_slice (l:=l) (u:=u) (st:=none) hs rfl (E_ hz λt' k=>⟨.str _,H,I.tok _,⟨_,rfl⟩,q⟩)⟩
 |_=>exact h.elim
def Zc4(K:PySem.W.Frag):V->Option Int->Option Int->Hp->VK->Prop:=λx lo hi H Q=>match x with
 | .ref a=>∃xs,Ř K H a xs/\∀p,H p=none->Q (.ref p) (upd H p (.lst (vN xs lo hi)))
 | .str z=>z.length<=sizeLine/\Q (.str (S (tM z.cps.toList lo hi))) H
 |_=>False
def slm:Ar X (Zc4 X.K):=Ar.wk (Et.or Ku) λx lo hi H Q h=>by
 cases x with
 |ref a=>exact .inl h
 |str z=>exact .inr h
 |_=>exact h.elim
def mul_eq(z:Str){n:Int}(h:0<=n):Txt.mul z n=S (List.replicate n.toNat z.cps.toList).flatten:=by
 have key:∀(k:Nat) (acc:Array Nat),((List.replicate k z.cps).foldl (·++ ·) acc).toList=acc.toList++(List.replicate k z.cps.toList).flatten:=by
  intro k
  induction k with
  |zero=>intro acc;simp
  |succ k ih=>
   intro acc
   rw[List.replicate_succ,List.foldl_cons,ih,List.replicate_succ,List.flatten_cons]
   simp
 unfold Txt.mul
 refine PyProof.Rows.ext_toList ?_
 by_cases h1:n<1
 ·rw[if_pos h1]
  have:n.toNat=0:=by omega
  rw[this]
  simp[Str.empty]
 ·rw[if_neg h1]
  split
  ·rename_i hc
   rw[Bool.or_eq_true] at hc
   rcases hc with hc|hc
   ·have:n=1:=by simpa using hc
    subst this
    simp
   ·have h0:z.cps.toList=[]:=List.eq_nil_of_length_eq_zero (by rw[vV];simpa using hc)
    rw[h0]
    simp
  ·rw[key]
   simp
def Fb(z:Str)(n:Int):Prop:=0<=n/\n<=1000/\z.length<=1000
def Fb.ok{z:Str}{n:Int}(h:Fb z n):MulOk z n:=by
 obtain⟨h0,h1,h2⟩:=h
 refine⟨?_,λhn _=>?_,λhn _=>?_⟩
 ·rw[decide_eq_false (by omega),decide_eq_false (by omega)]
  rfl
 ·have:(9000000000000000:Int)≤(2 ^ 63-1) / n:=by
   rw[Int.le_ediv_iff_mul_le (by omega)]
   omega
  omega
 ·have:z.length*n.toNat<=1000*1000:=Nat.mul_le_mul h2 (by omega)
  unfold Builtin.Str.tooLong
  simp
  rw[sizeLine_eq]
  omega
def Fd:R2:=λx y H Q=>match x,y with
 | .int i,.int j=>qT i j/\Q (.int (i*j)) H
 | .str z,.int n=>Fb z n/\Q (.str (S (List.replicate n.toNat z.cps.toList).flatten)) H
 |_,_=>False
def Kv:ū X (binaryOp .Mult) Fd:=by
 intro pins s σ H x y v u Q I rx ry h
 unfold Fd at h
 split at h
 ·exact VF pins s σ H _ _ v u Q I rx ry h
 ·obtain⟨t,rfl⟩:=rx
  obtain⟨t',rfl⟩:=ry
  exact SB.mul h.1.ok λt' k=>⟨.str _,H,I.tok _,⟨_,by rw[mul_eq _ h.1.1]⟩,h.2⟩
 ·exact h.elim
def dY(sep:List Nat):List (List Nat)->List Nat
 | []=>[]
 | [x]=>x
 |x::y::r=>x++sep++dY sep (y::r)
theorem join_eq(sep:Str):∀ys:List (List Nat),Str.join sep (ys.map S)=S (dY sep.cps.toList ys)
 | []=>rfl
 | [x]=>rfl
 |x::y::r=>by
  have ih:=join_eq sep (y::r)
  show S x++sep++Str.join sep ((y::r).map S)=_
  have e:dY sep.cps.toList (x::y::r)=x++sep.cps.toList++dY sep.cps.toList (y::r):=rfl
  rw[ih,e,<-Ng,<-Ng,Wb]
def Kw{ys:List (List Nat)}:∀{us:List Value},Vals (ys.map λl=>V.str (S l)) us->StrsAre us (ys.map S):=by
 induction ys with
 |nil=>intro us r;rw[List.map_nil] at r;cases r;exact .nil
 |cons y ys ih=>
  intro us r
  rw[List.map_cons] at r
  cases r with
  |cons r1 r2=>
   obtain⟨t,rfl⟩:=r1
   exact .cons _ t (ih r2)
def Fe(K:PySem.W.Frag):V->List V->Hp->VK->Prop:=λx vs H Q=>match x,vs with
 | .str z,[.ref p]=>∃ys:List (List Nat),Ř K H p (ys.map λl=>V.str (S l))/\(ys.map List.length).sum+ys.length*z.length<=16777216/\Q (.str (S (dY z.cps.toList ys))) H
 |_,_=>False
def Ky:MtR X "str.join" (Fe X.K):=by
 intro pins s σ H x xs v us Q I rx rs h
 unfold Fe at h
 split at h
 ·obtain⟨ys,hS,hz,q⟩:=h
  obtain⟨t,rfl⟩:=rx
  obtain⟨u,rfl,ru⟩:=vals1 rs
  cases ru
  obtain⟨its,rv,pl,_⟩:=I.list hS
  refine join_list pl.isList (by simpa using Kw rv) ?_ λt' k=>⟨.str _,H,I.tok _,⟨t',?_⟩,q⟩
  ·have e1:((ys.map S).map (·.length))=ys.map List.length:=by
    rw[List.map_map]
    exact List.map_congr_left λl _=>Nf l
   rw[e1,List.length_map]
   exact hz
  ·unfold Txt.join
   rw[StrLaws.glued_eq_join,join_eq]
 ·exact h.elim
end
end M4
namespace M5
open PySem PySem.Spec PyProof.Rows L2 M2 M3
section
variable{X:Cx}{pins:List (Addr×Obj)}{σ:L2.St}{H:Hp}{s:Shared}{x:Str}{c P:Addr}{params:Arguments}{body:Expr}{scope:Scope}{pos:Pos}{cl:List (Str×Addr)}
end
section
variable{X:Cx}{pins:List (Addr×Obj)}{σ:L2.St}{H:Hp}{s:Shared}{params:Arguments}{body:Expr}{scope sc:Scope}{cl:List (Str×Addr)}{N0:List Str}{js:List Nat}{qual px:Str}{f c':Addr}{A:Around}
end
section
variable{X:Cx}{pins:List (Addr×Obj)}{σ:L2.St}{H:Hp}{s:Shared}
variable{R:Result->Shared->Prop}{f l S It:Addr}{oF:Obj}{xs:List V}(ks:Nat->Int)(W:Nat->Hp->Prop)
end
section
variable{X:Cx}{x px:Str}{c P:Addr}{params:Arguments}{body e:Expr}{scope:Scope}{p pos Wc kpos:Pos}{ta:TA}{te:TE}
end
end M5
namespace P
def nst:PySem.Expr->Bool
 | .Starred .. =>false
 |_=>true
def bG{e:PySem.Expr}{es:List PySem.Expr}{env:PySem.Env}(h:nst e=true):PySem.starEach (e::es) env=(false,PySem.eval e env)::PySem.starEach es env:=by
 cases e<;>first|rfl|cases h
def Fg{a b:PySem.Expr}{env:PySem.Env}(h:nst a=true)(h2:nst b=true):PySem.starEach [a,b] env=[(false,PySem.eval a env),(false,PySem.eval b env)]:=by
 rw[bG h,bG h2];rfl
open PySem PySem.Spec PyProof.Rows L2 M2
structure KK where
 K:PySem.W.Frag
 cm:String->Addr
abbrev kk(X:Cx)(cm:String->Addr):KK:=⟨X.K,cm⟩
inductive PV where
 |non|bl (b:Bool)|int (i:Int)|str (x:Str)|tup (xs:List PV)|lst (xs:List PV)
 |ins (C:String) (ns:List Str) (xs:List PV)|xc (C:String) (ns:List Str) (xs:List PV)|ty (n:String)|cls (C:String)
def xo(a C:Addr)(d:Option Addr):HO:=.ext λh=>∃o vs,h.get? a=some o/\o.cls=.ref C/\o.dict=d/\o.data=.fields vs
def vW(F:Hp)(d:Option Addr)(fs:List (Str×V)):Prop:=(d=none/\fs=[])\/∃a,d=some a/\F a=some (.xd fs)
mutual
def Rep(K:KK)(F:Hp):PV->V->Prop
 | .non,v=>v=.non
 | .bl b,v=>v=.bl b
 | .int i,v=>v=.int i
 | .str x,v=>v=.str x
 | .tup ps,v=>∃a xs,v=.ref a/\bW K.K F a xs/\Ē K F ps xs
 | .lst ps,v=>∃a xs,v=.ref a/\Ř K.K F a xs/\Ē K F ps xs
 | .ins C ns ps,v=>∃a dx fs,v=.ref a/\F a=some (.ins (K.cm C) dx fs)/\fs.map (·.1)=ns/\Ē K F ps (fs.map (·.2))
 | .xc C ns ps,v=>∃a d fs,v=.ref a/\F a=some (xo a (K.cm C) d)/\vW F d fs/\fs.map (·.1)=ns/\Ē K F ps (fs.map (·.2))
 | .ty n,v=>v=.ty n
 | .cls C,v=>v=.ref (K.cm C)
def Ē(K:KK)(F:Hp):List PV->List V->Prop
 | [],xs=>xs=[]
 |p::ps,xs=>∃x r,xs=x::r/\Rep K F p x/\Ē K F ps r
end
section
variable{K:KK}{F F' H H':Hp}
def vW.same{d:Option Addr}{fs:List (Str×V)}(e:Same F F')(h:vW F d fs):vW F' d fs:=by
 rcases h with h|⟨a,h1,h2⟩
 ·exact .inl h
 ·exact .inr ⟨a,h1,e _ _ h2⟩
mutual
theorem Rep.same(e:Same F F'):∀(p:PV) (v:V),Rep K F p v->Rep K F' p v
 | .non,_,h=>by unfold Rep at h ⊢;exact h
 | .bl _,_,h=>by unfold Rep at h ⊢;exact h
 | .int _,_,h=>by unfold Rep at h ⊢;exact h
 | .str _,_,h=>by unfold Rep at h ⊢;exact h
 | .ty _,_,h=>by unfold Rep at h ⊢;exact h
 | .cls _,_,h=>by unfold Rep at h ⊢;exact h
 | .tup ps,_,h=>by
   unfold Rep at h ⊢
   obtain⟨a,xs,h1,h2,h3⟩:=h
   exact⟨a,xs,h1,Same.tup e h2,Ē.same e ps xs h3⟩
 | .lst ps,_,h=>by
   unfold Rep at h ⊢
   obtain⟨a,xs,h1,h2,h3⟩:=h
   exact⟨a,xs,h1,e.seq h2,Ē.same e ps xs h3⟩
 | .ins C ns ps,_,h=>by
   unfold Rep at h ⊢
   obtain⟨a,dx,fs,h1,h2,h3,h4⟩:=h
   exact⟨a,dx,fs,h1,e _ _ h2,h3,Ē.same e ps _ h4⟩
 | .xc C ns ps,_,h=>by
   unfold Rep at h ⊢
   obtain⟨a,d,fs,h1,h2,hd,h3,h4⟩:=h
   exact⟨a,d,fs,h1,e _ _ h2,hd.same e,h3,Ē.same e ps _ h4⟩
theorem Ē.same(e:Same F F'):∀(ps:List PV) (xs:List V),Ē K F ps xs->Ē K F' ps xs
 | [],_,h=>by unfold Ē at h ⊢;exact h
 |p::ps,_,h=>by
  unfold Ē at h ⊢
  obtain⟨x,r,h1,h2,h3⟩:=h
  exact⟨x,r,h1,Rep.same e p x h2,Ē.same e ps r h3⟩
end
theorem Ē.pr:∀{ps:List PV} {vs:List V},Ē K F ps vs->Paired (Rep K F) ps vs
 | [],_,h=>by unfold Ē at h;subst h;exact .nil
 |p::ps,_,h=>by
  unfold Ē at h
  obtain⟨x,r,rfl,h2,h3⟩:=h
  exact .cons h2 (Ē.pr h3)
theorem Ē.of:∀{ps:List PV} {vs:List V},Paired (Rep K F) ps vs->Ē K F ps vs
 | [],_,.nil=>by unfold Ē;rfl
 |p::ps,_,.cons h t=>by unfold Ē;exact⟨_,_,rfl,h,Ē.of t⟩
theorem Ē.nil:Ē K F [] []:=Ē.of .nil
theorem Ē.cons{p:PV}{v:V}{ps:List PV}{vs:List V}(h:Rep K F p v)(t:Ē K F ps vs):Ē K F (p::ps) (v::vs):=Ē.of (.cons h t.pr)
theorem Ē.length{ps:List PV}{vs:List V}(h:Ē K F ps vs):ps.length=vs.length:=Paired.length h.pr
theorem bH{α β:Type}{G:α->β->Prop}:∀{l:List α} {m:List β} {i:Nat} {x:α},Paired G l m->l[i]?=some x->∃y,m[i]?=some y/\G x y
 |_,_,_,_,.nil,e=>by simp at e
 |_,_,0,_,.cons r _,e=>by simp at e;subst e;exact⟨_,rfl,r⟩
 |_,_,i+1,x,.cons _ t,e=>by
  obtain⟨y,h1,h2⟩:=bH (i:=i) (x:=x) t (by simpa using e)
  exact⟨y,by simpa using h1,h2⟩
theorem Bb{α β:Type}{G:α->β->Prop}:∀{l:List α} {m:List β} {i:Nat} {y:β},Paired G l m->m[i]?=some y->∃x,l[i]?=some x/\G x y
 |_,_,_,_,.nil,e=>by simp at e
 |_,_,0,_,.cons r _,e=>by simp at e;subst e;exact⟨_,rfl,r⟩
 |_,_,i+1,y,.cons _ t,e=>by
  obtain⟨x,h1,h2⟩:=Bb (i:=i) (y:=y) t (by simpa using e)
  exact⟨x,by simpa using h1,h2⟩
theorem yO{α β:Type}{G:α->β->Prop}:∀{l l2:List α} {m m2:List β},Paired G l m->Paired G l2 m2->Paired G (l++l2) (m++m2)
 |_,_,_,_,.nil,t=>t
 |_,_,_,_,.cons r s,t=>.cons r (yO s t)
theorem Fi{α β:Type}{G:α->β->Prop}{x:α}{y:β}(r:G x y):∀{l:List α} {m:List β} (i:Nat),Paired G l m->Paired G (l.set i x) (m.set i y)
 |_,_,_,.nil=>.nil
 |_,_,0,.cons _ t=>.cons r t
 |_,_,i+1,.cons q t=>.cons q (Fi r i t)
theorem Bc{α β:Type}{G:α->β->Prop}:∀{l:List α} {m:List β} (n:Nat),Paired G l m->Paired G (l.take n) (m.take n)
 |_,_,0,_=>.nil
 |_,_,_+1,.nil=>.nil
 |_,_,n+1,.cons r t=>.cons r (Bc n t)
theorem Bd{α β:Type}{G:α->β->Prop}:∀{l:List α} {m:List β} (n:Nat),Paired G l m->Paired G (l.drop n) (m.drop n)
 |_,_,0,h=>h
 |_,_,_+1,.nil=>.nil
 |_,_,n+1,.cons _ t=>Bd n t
theorem Fj{α β:Type}{G:α->β->Prop}:∀{l:List α} {m:List β},Paired G l m->Paired G l.reverse m.reverse
 |_,_,.nil=>.nil
 |_,_,.cons r t=>by
  rw[List.reverse_cons,List.reverse_cons]
  exact yO (Fj t) (.cons r .nil)
def Ē.append{ps qs:List PV}{vs us:List V}(h:Ē K F ps vs)(t:Ē K F qs us):Ē K F (ps++qs) (vs++us):=Ē.of (yO h.pr t.pr)
end
inductive Slot where
 |no|sh (p:PV)|ow (ps:List PV)|bw (ps:List PV)|rc (C:String) (ns:List Str) (ps:List PV)|ot (ps qs rs:List PV)|ol (mX:List (List PV))|fr (mX:List (List PV))|bn (qs rows:List PV)|dw (qX:List (List PV×List PV))
abbrev ķ:=List Slot
def Slot.own:Slot->Bool
 | .ow _=>true
 | .rc _ _ _=>true
 | .ot _ _ _=>true
 | .ol _=>true
 | .fr _=>true
 |_=>false
structure Ctx where
 B:Hp
 F₀:Hp
 /-- what is lent here:read,never changed,never kept -/
 L:Hp
 /-- which objects may be held as one's own:address,dict,class -/
 S:Addr->Addr->String->Prop
def Nh(F:Hp)(a b:Addr):Hp:=λx=>if x=a\/x=b then none else F x
def iM(K:KK)(B F:Hp)(t:Bool)(ps qs rows:List PV)(v:V):Prop:=∃a b ys vs,F a=some (.lst (.ref b::ys))/\F b=some (.lst vs)/\B a=none/\B b=none/\a≠b/\Ē K (Nh F a b) qs vs/\Ē K (Nh F a b) rows ys/\((t=false/\ps=[]/\v=.ref a)\/t=true/\∃p xs,v=.ref p/\F p=some (.tup (xs ++ [.ref a]))/\Ē K (Nh F a b) ps xs)
def ũ(K:KK)(c:Ctx)(F H:Hp)(o:Option V):Slot->Prop
 | .no=>True
 | .sh p=>∃v,o=some v/\Rep K F p v
 | .ow ps=>∃a vs,o=some (.ref a)/\H a=some (.lst vs)/\F a=none/\c.B a=none/\Ē K F ps vs
 | .bw ps=>∃a vs,o=some (.ref a)/\c.L a=some (.lst vs)/\Ē K F ps vs
 | .rc C ns ps=>∃a dx fs,o=some (.ref a)/\H a=some (.ins (K.cm C) dx fs)/\F a=none/\c.B a=none/\fs.map (·.1)=ns/\Ē K F ps (fs.map (·.2))/\c.S a dx C
 | .ot ps qs rs=>∃p a xs vs ys,o=some (.ref p)/\F p=some (.tup (xs ++ .ref a::ys))/\Ē K F ps xs/\H a=some (.lst vs)/\F a=none/\c.B a=none/\Ē K F qs vs/\Ē K F rs ys
 | .ol mX=>∃(p:Addr) (as:List Addr),o=some (.ref p)/\F p=some (.lst (as.map V.ref))/\as.Nodup/\Paired (λ(a:Addr) (ps:List PV)=>∃vs,H a=some (.lst vs)/\F a=none/\c.B a=none/\Ē K F ps vs) as mX
 | .fr mX=>∃(p:Addr) (as:List Addr),o=some (.ref p)/\H p=some (.lst (as.map V.ref))/\F p=none/\c.B p=none/\as.Nodup/\Paired (λ(a:Addr) (ps:List PV)=>∃vs,F a=some (.lst vs)/\c.B a=none/\Ē K F ps vs) as mX
 | .bn qs rows=>∃v,o=some v/\iM K c.B F false [] qs rows v
 | .dw qX=>∃(a:Addr) (ts:List Addr),o=some (.ref a)/\c.L a=some (.lst (ts.map V.ref))/\Paired (λ(t:Addr) (d:List PV×List PV)=>∃xs b vs,F t=some (.tup (xs ++ [.ref b]))/\Ē K F d.1 xs/\c.L b=some (.lst vs)/\Ē K F d.2 vs) ts qX
def Slot.at_(F:Hp)(x:V)(a:Addr):Slot->Prop
 | .ot ps _ _=>∃p xs ys,x=.ref p/\F p=some (.tup (xs ++ .ref a::ys))/\xs.length=ps.length
 | .ol _=>∃(p:Addr) (as:List Addr),x=.ref p/\F p=some (.lst (as.map V.ref))/\a∈as
 | .ow _=>x=.ref a
 | .fr _=>x=.ref a
 | .rc _ _ _=>x=.ref a
 |_=>False
def ň(F:Hp)(σ:L2.St)(ρ:ķ)(i:Nat)(a:Addr):Prop:=∃s x,ρ[i]?=some s/\σ[i]?=some (some x)/\s.at_ F x a
structure Rel(K:KK)(c:Ctx)(F H:Hp)(σ:L2.St)(ρ:ķ):Prop where
 sub:Same F H
 base:Same c.B H
 f0:Same c.F₀ F
 cI:∀a,c.B a≠none->c.F₀ a=none->F a=none
 lent:∀a u,c.L a=some u->H a=some u/\F a=none
 lb:∀a,c.B a=none->c.L a=none
 len:σ.length=ρ.length
 slot:∀(i:Nat) s,ρ[i]?=some s->ũ K c F H ((σ[i]?).getD none) s
 sep:∀i j a,ň F σ ρ i a->ň F σ ρ j a->i=j
def bI(F:Hp)(σ:L2.St)(ρ:ķ)(a:Addr):Prop:=∀i,¬ň F σ ρ i a
section
variable{K:KK}{c:Ctx}{F F' H H':Hp}{σ:L2.St}{ρ:ķ}{a:Addr}{o:HO}
def jV{s:Slot}{x:V}(h:s.at_ F x a):s.own=true:=by
 cases s<;>first|rfl|exact h.elim
theorem nQ:∀{as bs:List Addr},as.map V.ref=bs.map V.ref->as=bs
 | [],[],_=>rfl
 | [],_::_,h=>by cases h
 |_::_,[],h=>by cases h
 |a::as,b::bs,h=>by
  injection h with h1 h2
  injection h1 with h1
  rw[h1,nQ h2]
def mY{ps qs rs:List PV}{x:V}{b:Addr}(h:(Slot.ot ps qs rs).at_ F x a)(h':(Slot.ot ps qs rs).at_ F x b):a=b:=by
 obtain⟨p,xs,us,h1,h2,l1⟩:=h
 obtain⟨q,ys,ws,h3,h4,l2⟩:=h'
 rw[h1] at h3
 cases h3
 rw[h2] at h4
 have e:xs++V.ref a::us=ys++V.ref b::ws:=by
  injection h4 with h4
  injection h4
 have e2:=(List.append_inj e (by omega)).2
 injection e2 with e2
 injection e2
theorem Fo{α β:Type}{G:α->β->Prop}:∀{l:List α} {m:List β} {x:α},Paired G l m->x∈l->∃y,y∈m/\G x y
 |_,_,_,.nil,h=>by simp at h
 |_,_,x,.cons r t,h=>by
  rcases List.mem_cons.mp h with rfl|h
  ·exact⟨_,List.mem_cons_self,r⟩
  ·obtain⟨y,h1,h2⟩:=Fo t h
   exact⟨y,List.mem_cons_of_mem _ h1,h2⟩
theorem fO{α β:Type}{G G':α->β->Prop}:∀{l:List α} {m:List β},Paired G l m->(∀x y,x∈l->G x y->G' x y)->Paired G' l m
 |_,_,.nil,_=>.nil
 |_,_,.cons r t,h=>.cons (h _ _ List.mem_cons_self r) (fO t λx y hx=>h x y (List.mem_cons_of_mem _ hx))
def nR{a b:Addr}(e:Same F F'):Same (Nh F a b) (Nh F' a b):=λx u h=>by
 unfold Nh at h ⊢
 split at h
 ·cases h
 ·rename_i n;rw[if_neg n];exact e x u h
def tQ{a b:Addr}:Same (Nh F a b) F:=λx u h=>by
 unfold Nh at h
 split at h
 ·cases h
 ·exact h
theorem iM.same{B:Hp}{t:Bool}{ps qs rows:List PV}{v:V}(h:iM K B F t ps qs rows v)(e:Same F F'):iM K B F' t ps qs rows v:=by
 obtain⟨a,b,ys,vs,h1,h2,h3,h4,h5,h6,h7,h8⟩:=h
 refine⟨a,b,ys,vs,e _ _ h1,e _ _ h2,h3,h4,h5,h6.same (nR e) qs vs,h7.same (nR e) rows ys,h8.imp id λ⟨z,p,xs,q1,q2,q3⟩=>⟨z,p,xs,q1,e _ _ q2,q3.same (nR e) ps xs⟩⟩
def iM.base{B B':Hp}{t:Bool}{ps qs rows:List PV}{v:V}(h:iM K B F t ps qs rows v)(e:Same B' B):iM K B' F t ps qs rows v:=by
 obtain⟨a,b,ys,vs,h1,h2,h3,h4,h5,h6,h7,h8⟩:=h
 exact⟨a,b,ys,vs,h1,h2,e.free h3,e.free h4,h5,h6,h7,h8⟩
def bnV(t:Bool)(ps qs rows:List PV):PV:=if t then .tup (ps ++ [.lst (.lst qs::rows)]) else .lst (.lst qs::rows)
def iM.rep{B:Hp}{t:Bool}{ps qs rows:List PV}{v:V}(h:iM K B F t ps qs rows v):Rep K F (bnV t ps qs rows) v:=by
 obtain⟨a,b,ys,vs,h1,h2,h3,h4,h5,h6,h7,h8⟩:=h
 have e1:Rep K F (.lst qs) (.ref b):=by unfold Rep;exact⟨b,vs,rfl,Ř.of h2,h6.same tQ qs vs⟩
 have e2:Rep K F (.lst (.lst qs::rows)) (.ref a):=by unfold Rep;exact⟨a,_,rfl,Ř.of h1,Ē.cons e1 (h7.same tQ rows ys)⟩
 rcases h8 with⟨rfl,rfl,rfl⟩|⟨rfl,p,xs,rfl,q2,q3⟩
 ·exact e2
 ·show Rep K F (.tup (ps ++ [.lst (.lst qs::rows)])) (.ref p)
  unfold Rep
  exact⟨p,_,rfl,bW.of q2,Ē.append (q3.same tQ ps xs) (Ē.cons e2 Ē.nil)⟩
def ũ.grow{s:Slot}{x:Option V}(h:ũ K c F H x s)(eF:Same F F')(eH:∀b vs,(∃y,x=some y/\s.at_ F y b)->H b=some vs->F b=none->c.B b=none->H' b=some vs/\F' b=none):ũ K c F' H' x s:=by
 cases s with
 |no=>trivial
 |sh p=>obtain⟨v,h1,h2⟩:=h;exact⟨v,h1,h2.same eF p v⟩
 |ow ps=>
  obtain⟨b,vs,h1,h2,h3,h4,h5⟩:=h
  obtain⟨e1,e2⟩:=eH b _ ⟨_,h1,rfl⟩ h2 h3 h4
  exact⟨b,vs,h1,e1,e2,h4,h5.same eF ps vs⟩
 |bw ps=>obtain⟨b,vs,h1,h2,h3⟩:=h;exact⟨b,vs,h1,h2,h3.same eF ps vs⟩
 |rc C ns ps=>
  obtain⟨b,dx,fs,h1,h2,h3,h4,h5,h6⟩:=h
  obtain⟨e1,e2⟩:=eH b _ ⟨_,h1,rfl⟩ h2 h3 h4
  exact⟨b,dx,fs,h1,e1,e2,h4,h5,h6.1.same eF ps _,h6.2⟩
 |ot ps qs rs=>
  obtain⟨p,b,xs,vs,ys,h1,h2,h3,h4,h5,h6,h7,h8⟩:=h
  obtain⟨e1,e2⟩:=eH b _ ⟨_,h1,p,xs,ys,rfl,h2,h3.length.symm⟩ h4 h5 h6
  exact⟨p,b,xs,vs,ys,h1,eF _ _ h2,h3.same eF ps xs,e1,e2,h6,h7.same eF qs vs,h8.same eF rs ys⟩
 |ol mX=>
  obtain⟨p,as,h1,h2,h3,h4⟩:=h
  refine⟨p,as,h1,eF _ _ h2,h3,fO h4 λb ps hb ⟨vs,k1,k2,k3,k4⟩=>?_⟩
  obtain⟨e1,e2⟩:=eH b _ ⟨_,h1,p,as,rfl,h2,hb⟩ k1 k2 k3
  exact⟨vs,e1,e2,k3,k4.same eF ps vs⟩
 |fr mX=>
  obtain⟨b,as,h1,h2,h3,h4,h5,h6⟩:=h
  obtain⟨e1,e2⟩:=eH b _ ⟨_,h1,rfl⟩ h2 h3 h4
  exact⟨b,as,h1,e1,e2,h4,h5,fO h6 λd ps _ ⟨vs,k1,k2,k3⟩=>⟨vs,eF _ _ k1,k2,k3.same eF ps vs⟩⟩
 |bn qs rows=>obtain⟨v,h1,h2⟩:=h;exact⟨v,h1,h2.same eF⟩
 |dw qX=>obtain⟨a,ts,h1,h2,h3⟩:=h;exact⟨a,ts,h1,h2,fO h3 λt d _ ⟨xs,b,vs,k1,k2,k3,k4⟩=>⟨xs,b,vs,eF _ _ k1,k2.same eF d.1 xs,k3,k4.same eF d.2 vs⟩⟩
def ũ.owned{s:Slot}{y:V}(h:ũ K c F H (some y) s)(ha:s.at_ F y a):∃u,H a=some u/\F a=none/\c.B a=none:=by
 cases s with
 |no=>exact ha.elim
 |sh p=>exact ha.elim
 |bw ps=>exact ha.elim
 |bn qs rows=>exact ha.elim
 |dw qX=>exact ha.elim
 |fr mX=>
  obtain⟨b,as,h1,h2,h3,h4,h5,h6⟩:=h
  rw[show y=.ref a from ha] at h1
  cases h1
  exact⟨_,h2,h3,h4⟩
 |ow ps=>
  obtain⟨b,vs,h1,h2,h3,h4,h5⟩:=h
  rw[show y=.ref a from ha] at h1
  cases h1
  exact⟨_,h2,h3,h4⟩
 |rc C ns ps=>
  obtain⟨b,dx,fs,h1,h2,h3,h4,h5,h6⟩:=h
  rw[show y=.ref a from ha] at h1
  cases h1
  exact⟨_,h2,h3,h4⟩
 |ot ps qs rs=>
  obtain⟨p,b,xs,vs,ys,h1,h2,h3,h4,h5,h6,h7,h8⟩:=h
  cases h1
  cases mY (ps:=ps) (qs:=qs) (rs:=rs) ha ⟨p,xs,ys,rfl,h2,h3.length.symm⟩
  exact⟨_,h4,h5,h6⟩
 |ol mX=>
  obtain⟨p,as,h1,h2,h3,h4⟩:=h
  cases h1
  obtain⟨q,bs,e1,e2,e3⟩:=ha
  cases e1
  rw[h2] at e2
  have e:as=bs:=nQ (by injection e2 with e2;injection e2)
  subst e
  obtain⟨ps,_,vs,k1,k2,k3,_⟩:=Fo h4 e3
  exact⟨_,k1,k2,k3⟩
def ũ.back{s:Slot}{y:V}(h:ũ K c F H (some y) s)(e:Same F F')(ha:s.at_ F' y a):s.at_ F y a:=by
 cases s with
 |ot ps qs rs=>
  obtain⟨p,b,xs,vs,ys,h1,h2,h3,h4,h5,h6,h7,h8⟩:=h
  cases h1
  cases mY (ps:=ps) (qs:=qs) (rs:=rs) ha ⟨p,xs,ys,rfl,e _ _ h2,h3.length.symm⟩
  exact⟨p,xs,ys,rfl,h2,h3.length.symm⟩
 |ol mX=>
  obtain⟨p,as,h1,h2,h3,h4⟩:=h
  cases h1
  obtain⟨q,bs,e1,e2,e3⟩:=ha
  cases e1
  rw[e _ _ h2] at e2
  have z:as=bs:=nQ (by injection e2 with e2;injection e2)
  subst z
  exact⟨p,as,rfl,h2,e3⟩
 |_=>exact ha
def fP{i:Nat}{x:V}(e:σ[i]?=some (some x)):(σ[i]?).getD none=some x:=by rw[e];rfl
def yP{i:Nat}{x:V}(e:(σ[i]?).getD none=some x):σ[i]?=some (some x):=by
 cases q:σ[i]? with
 |none=>rw[q] at e;cases e
 |some y=>rw[q] at e;exact congrArg some e
theorem Rel.owned(r:Rel K c F H σ ρ){i:Nat}(h:ň F σ ρ i a):(∃u,H a=some u)/\F a=none/\c.B a=none:=by
 obtain⟨s,x,h1,h2,h3⟩:=h
 have q:=r.slot i s h1
 rw[fP h2] at q
 obtain⟨u,q⟩:=q.owned h3
 exact⟨⟨u,q.1⟩,q.2⟩
theorem Rel.back(r:Rel K c F H σ ρ)(e:Same F F'){i:Nat}(h:ň F' σ ρ i a):ň F σ ρ i a:=by
 obtain⟨s,x,h1,h2,h3⟩:=h
 have q:=r.slot i s h1
 rw[fP h2] at q
 exact⟨s,x,h1,h2,q.back e h3⟩
def Rel.Wd(r:Rel K c F H σ ρ)(e:Same F F'):∀i j a,ň F' σ ρ i a->ň F' σ ρ j a->i=j:=λi j a h1 h2=>r.sep i j a (r.back e h1) (r.back e h2)
def Rel.dJ(r:Rel K c F H σ ρ)(e:Same F F')(h:bI F σ ρ a):bI F' σ ρ a:=λi q=>h i (r.back e q)
def Rel.fresh(r:Rel K c F H σ ρ)(h:H a=none):bI F σ ρ a:=λi q=>by
 obtain⟨⟨u,e⟩,_⟩:=r.owned q
 rw[h] at e;cases e
def Rel.alloc(r:Rel K c F H σ ρ)(h:H a=none):Rel K c (upd F a o) (upd H a o) σ ρ where
 sub:=λb u e=>by
  by_cases hb:b=a
  ·subst hb;rw[ē] at e ⊢;exact e
  ·rw[Ę hb] at e ⊢;exact r.sub b u e
 base:=λb u e=>by
  have hb:b≠a:=λz=>by rw[z] at e;rw[r.base _ _ e] at h;cases h
  rw[Ę hb];exact r.base b u e
 f0:=fun b u e=>by
   have hb:b≠a:=λz=>by rw[z] at e;rw[r.sub _ _ (r.f0 _ _ e)] at h;cases h
   rw[Ę hb];exact r.f0 b u e
 cI:=λb h1 h2=>by
  have hb:b≠a:=λz=>by
   subst z
   cases q:c.B b with
   |none=>exact h1 q
   |some u=>rw[r.base _ _ q] at h;cases h
  rw[Ę hb];exact r.cI b h1 h2
 lent:=λb u e=>by
  obtain⟨h1,h2⟩:=r.lent b u e
  have hb:b≠a:=λz=>by rw[z,h] at h1;cases h1
  rw[Ę hb,Ę hb];exact⟨h1,h2⟩
 lb:=r.lb
 len:=r.len
 slot:=λi s e=>by
  have hF:F a=none:=r.sub.free h
  refine(r.slot i s e).grow (Same.upd hF) λb u _ h1 h2 h3=>?_
  have hb:b≠a:=λz=>by rw[z,h] at h1;cases h1
  rw[Ę hb,Ę hb];exact⟨h1,h2⟩
 sep:=r.Wd (Same.upd (r.sub.free h))
def Rel.made(r:Rel K c F H σ ρ)(h:H a=none):Rel K c F (upd H a o) σ ρ where
 sub:=r.sub.trans (Same.upd h)
 base:=r.base.trans (Same.upd h)
 f0:=r.f0
 cI:=r.cI
 lent:=λb u e=>⟨Same.upd h b u (r.lent b u e).1,(r.lent b u e).2⟩
 lb:=r.lb
 len:=r.len
 slot:=λi s e=>(r.slot i s e).grow (Same.refl F) λb u _ h1 h2 h3=>⟨Same.upd h b u h1,h2⟩
 sep:=r.sep
def Rel.freeze(r:Rel K c F H σ ρ)(h:H a=some o)(hB:c.B a=none)(hF:F a=none)(hf:bI F σ ρ a):Rel K c (upd F a o) H σ ρ where
 sub:=λb u e=>by
  by_cases hb:b=a
  ·subst hb;rw[ē] at e;rw[h];exact e
  ·rw[Ę hb] at e;exact r.sub b u e
 base:=r.base
 f0:=r.f0.trans (Same.upd hF)
 cI:=λb h1 h2=>by
  have hb:b≠a:=λz=>h1 (by rw[z];exact hB)
  rw[Ę hb];exact r.cI b h1 h2
 lent:=λb u e=>by
  have hb:b≠a:=λz=>by rw[z,r.lb a hB] at e;cases e
  rw[Ę hb];exact r.lent b u e
 lb:=r.lb
 len:=r.len
 slot:=λi s e=>(r.slot i s e).grow (Same.upd hF) λb' u' ⟨y,e1',ha⟩ h1 h2 h3=>by
  have hb:b'≠a:=λz=>by
   subst z
   exact hf i ⟨s,y,e,yP e1',ha⟩
  rw[Ę hb];exact⟨h1,h2⟩
 sep:=r.Wd (Same.upd hF)
def ţ{α:Type}{l:List α}{i j:Nat}{x y:α}(h:(l.set i x)[j]?=some y):(j=i/\y=x/\i<l.length)\/(j≠i/\l[j]?=some y):=by
 by_cases hj:j=i
 ·subst hj
  have hl:j<l.length:=by
   have:=(List.getElem?_eq_some_iff.mp h).1
   simpa using this
  rw[List.getElem?_set_self hl] at h
  exact .inl ⟨rfl,(Option.some.inj h).symm,hl⟩
 ·rw[List.getElem?_set_ne (Ne.symm hj)] at h
  exact .inr ⟨hj,h⟩
def Fp{l:L2.St}{i:Nat}{x:Option V}(h:i<l.length):((l.set i x)[i]?).getD none=x:=by rw[List.getElem?_set_self h];rfl
def Bf{l:L2.St}{i j:Nat}{x:Option V}(h:j≠i):((l.set i x)[j]?).getD none=(l[j]?).getD none:=by rw[List.getElem?_set_ne (Ne.symm h)]
def ň.off{i j:Nat}{x:Option V}{s:Slot}(h:ň F (σ.set i x) (ρ.set i s) j a)(hj:j≠i):ň F σ ρ j a:=by
 obtain⟨s',y,h1,h2,h3⟩:=h
 rw[List.getElem?_set_ne (Ne.symm hj)] at h1 h2
 exact⟨s',y,h1,h2,h3⟩
def Rel.put(r:Rel K c F H σ ρ){i:Nat}{x:Option V}{s:Slot}(hs:s.own=false)(h:ũ K c F H x s):Rel K c F H (σ.set i x) (ρ.set i s) where
 sub:=r.sub
 base:=r.base
 f0:=r.f0
 cI:=r.cI
 lent:=r.lent
 lb:=r.lb
 len:=by simpa using r.len
 slot:=λj s' e=>by
  rcases ţ e with⟨rfl,rfl,hl⟩|⟨hj,e⟩
  ·rw[Fp (by rw[r.len];exact hl)];exact h
  ·rw[Bf hj];exact r.slot j s' e
 sep:=λj k b h1 h2=>by
  have off:∀{j},ň F (σ.set i x) (ρ.set i s) j b->j≠i:=fun{j} q z=>by
   subst z
   obtain⟨s',y,q1,_,q2⟩:=q
   rcases ţ q1 with⟨_,rfl,_⟩|⟨q,_⟩
   ·have:=jV q2;rw[hs] at this;cases this
   ·exact q rfl
  exact r.sep j k b (h1.off (off h1)) (h2.off (off h2))
def Rel.Ni(r:Rel K c F H σ ρ){i:Nat}{s:Slot}(hs:s.own=false)(h:ũ K c F H ((σ[i]?).getD none) s):Rel K c F H σ (ρ.set i s) where
 sub:=r.sub
 base:=r.base
 f0:=r.f0
 cI:=r.cI
 lent:=r.lent
 lb:=r.lb
 len:=by simpa using r.len
 slot:=λj s' e=>by
  rcases ţ e with⟨rfl,rfl,hl⟩|⟨hj,e⟩
  ·exact h
  ·exact r.slot j s' e
 sep:=λj k b h1 h2=>by
  have off:∀{j},ň F σ (ρ.set i s) j b->ň F σ ρ j b:=fun{j} ⟨s',y,q1,q3,q2⟩=>by
   rcases ţ q1 with⟨_,rfl,_⟩|⟨_,q⟩
   ·have:=jV q2;rw[hs] at this;cases this
   ·exact⟨s',y,q,q3,q2⟩
  exact r.sep j k b (off h1) (off h2)
def Rel.Fq(r:Rel K c F H σ ρ){i:Nat}{x:V}{s:Slot}(h:ũ K c F H (some x) s)(hf:∀a,s.at_ F x a->bI F σ ρ a):Rel K c F H (σ.set i (some x)) (ρ.set i s) where
 sub:=r.sub
 base:=r.base
 f0:=r.f0
 cI:=r.cI
 lent:=r.lent
 lb:=r.lb
 len:=by simpa using r.len
 slot:=λj s' e=>by
  rcases ţ e with⟨rfl,rfl,hl⟩|⟨hj,e⟩
  ·rw[Fp (by rw[r.len];exact hl)];exact h
  ·rw[Bf hj];exact r.slot j s' e
 sep:=λj k b h1 h2=>by
  have Wf:∀{j},ň F (σ.set i (some x)) (ρ.set i s) j b->(j=i/\s.at_ F x b)\/(j≠i/\ň F σ ρ j b):=fun{j} q=>by
   by_cases hj:j=i
   ·subst hj
    obtain⟨s',y,q1,q2,q3⟩:=q
    rcases ţ q2 with⟨_,e,_⟩|⟨z,_⟩
    ·cases e
     rcases ţ q1 with⟨_,e,_⟩|⟨z,_⟩
     ·cases e
      exact .inl ⟨rfl,q3⟩
     ·exact absurd rfl z
    ·exact absurd rfl z
   ·exact .inr ⟨hj,q.off hj⟩
  rcases Wf h1 with⟨e1,z1⟩|⟨e1,o1⟩
  ·rcases Wf h2 with⟨e2,z2⟩|⟨e2,o2⟩
   ·rw[e1,e2]
   ·exact absurd o2 (hf b z1 k)
  ·rcases Wf h2 with⟨e2,z2⟩|⟨e2,o2⟩
   ·exact absurd o1 (hf b z2 j)
   ·exact r.sep j k b o1 o2
def Rel.Wg(r:Rel K c F H σ ρ){i:Nat}{s:Slot}(ho:ň F σ ρ i a)(h:ũ K c F (upd H a o) ((σ[i]?).getD none) s)(hs:∀x b,σ[i]?=some (some x)->s.at_ F x b->ň F σ ρ i b):Rel K c F (upd H a o) σ (ρ.set i s) where
 sub:=λb u e=>by
  have hb:b≠a:=λz=>by rw[z,(r.owned ho).2.1] at e;cases e
  rw[Ę hb];exact r.sub b u e
 base:=λb u e=>by
  have hb:b≠a:=λz=>by rw[z,(r.owned ho).2.2] at e;cases e
  rw[Ę hb];exact r.base b u e
 f0:=r.f0
 cI:=r.cI
 lent:=λb u e=>by
  have hb:b≠a:=λz=>by rw[z,r.lb a (r.owned ho).2.2] at e;cases e
  rw[Ę hb];exact r.lent b u e
 lb:=r.lb
 len:=by simpa using r.len
 slot:=λj s' e=>by
  rcases ţ e with⟨rfl,rfl,hl⟩|⟨hj,e⟩
  ·exact h
  ·refine(r.slot j s' e).grow (Same.refl F) λb u ⟨y,e1,e2⟩ h1 h2 h3=>?_
   have hb:b≠a:=λz=>by
    subst z
    exact hj (r.sep j i b ⟨s',y,e,yP e1,e2⟩ ho)
   exact⟨by rw[Ę hb];exact h1,h2⟩
 sep:=λj k b h1 h2=>by
  have off:∀{j},ň F σ (ρ.set i s) j b->ň F σ ρ j b:=fun{j} ⟨s',y,q1,q3,q2⟩=>by
   rcases ţ q1 with⟨e,rfl,_⟩|⟨_,q⟩
   ·subst e
    exact hs y b q3 q2
   ·exact⟨s',y,q,q3,q2⟩
  exact r.sep j k b (off h1) (off h2)
def Rel.write(r:Rel K c F H σ ρ){i:Nat}{s:Slot}(ho:ň F σ ρ i a)(hx:σ[i]?=some (some (.ref a)))(h:ũ K c F (upd H a o) (some (.ref a)) s)(hs:∀b,s.at_ F (.ref a) b->b=a):Rel K c F (upd H a o) σ (ρ.set i s):=
 r.Wg ho (by rw[hx];exact h) λx b e q=>by rw[hx] at e;cases e;rw[hs b q];exact ho
structure Gr(F H F' H':Hp):Prop where
 h:Same H H'
 f:Same F F'
 sub:Same F' H'
 out:∀a,H a≠none->F a=none->F' a=none
def Rel.call(r:Rel K c F H σ ρ)(g:Gr F H F' H'):Rel K c F' H' σ ρ where
 sub:=g.sub
 base:=r.base.trans g.h
 f0:=r.f0.trans g.f
 cI:=λb h1 h2=>by
  refine g.out b (λz=>h1 ?_) (r.cI b h1 h2)
  cases q:c.B b with
  |none=>rfl
  |some u=>rw[r.base _ _ q] at z;cases z
 lent:=λb u e=>⟨g.h b u (r.lent b u e).1,g.out b (by rw[(r.lent b u e).1];intro z;cases z) (r.lent b u e).2⟩
 lb:=r.lb
 len:=r.len
 slot:=λi s e=>(r.slot i s e).grow g.f λb u _ h1 h2 h3=>⟨g.h b u h1,g.out b (by rw[h1];intro z;cases z) h2⟩
 sep:=r.Wd g.f
def ctx0(F H:Hp):Ctx:=⟨H,F,λa=>match F a with
 |none=>H a
 |some _=>none,λ_ _ _=>True⟩
def dM{a:Addr}{u:HO}(h:(ctx0 F H).L a=some u):H a=some u/\F a=none:=by
 unfold ctx0 at h
 dsimp only at h
 cases q:F a with
 |none=>rw[q] at h;exact⟨h,rfl⟩
 |some o=>rw[q] at h;cases h
def Rel.gr(r:Rel K (ctx0 F H) F' H' σ ρ):Gr F H F' H':=⟨r.base,r.f0,r.sub,r.cI⟩
def aP(K:KK)(F H:Hp):Slot->V->Prop
 | .sh p,v=>Rep K F p v
 | .bw ps,v=>∃a vs,v=.ref a/\H a=some (.lst vs)/\F a=none/\Ē K F ps vs
 | .dw qX,v=>∃(a:Addr) (ts:List Addr),v=.ref a/\H a=some (.lst (ts.map V.ref))/\F a=none/\Paired (λ(t:Addr) (d:List PV×List PV)=>∃xs b vs,F t=some (.tup (xs ++ [.ref b]))/\Ē K F d.1 xs/\(H b=some (.lst vs)/\F b=none)/\Ē K F d.2 vs) ts qX
 |_,_=>False
def aP.slot{s:Slot}{v:V}(h:aP K F H s v):ũ K (ctx0 F H) F H (some v) s/\s.own=false:=by
 cases s with
 |sh p=>exact⟨⟨v,rfl,h⟩,rfl⟩
 |bw ps=>
  obtain⟨a,vs,rfl,h1,h2,h3⟩:=h
  refine⟨⟨a,vs,rfl,?_,h3⟩,rfl⟩
  show(match F a with|none=>H a|some _=>none)=_
  rw[h2]
  exact h1
 |no=>exact h.elim
 |ow ps=>exact h.elim
 |rc C ns ps=>exact h.elim
 |ot ps qs rs=>exact h.elim
 |ol mX=>exact h.elim
 |fr mX=>exact h.elim
 |bn qs rows=>exact h.elim
 |dw qX=>
  obtain⟨a,ts,rfl,h1,h2,h3⟩:=h
  have lt:∀{x:Addr} {u:HO},H x=some u->F x=none->(ctx0 F H).L x=some u:=fun{x u} e1 e2=>by
   show(match F x with|none=>H x|some _=>none)=_
   rw[e2];exact e1
  exact⟨⟨a,ts,rfl,lt h1 h2,fO h3 λt d _ ⟨xs,b,vs,k1,k2,k3,k4⟩=>⟨xs,b,vs,k1,k2,lt k3.1 k3.2,k4⟩⟩,rfl⟩
def startP(n:Nat)(as:List Slot):ķ:=as++List.replicate (n-as.length) .no
theorem Rel.start{N:List Str}{as:List Slot}{vs:List V}(s:Same F H)(h:Paired (aP K F H) as vs):Rel K (ctx0 F H) F H (L2.start N vs) (startP N.length as) where
 sub:=s
 base:=Same.refl H
 f0:=Same.refl F
 cI:=λ_ _ h=>h
 lent:=λ_ _ e=>dM e
 lb:=fun a e=>by
   cases q:(ctx0 F H).L a with
   |none=>rfl
   |some u=>
    have e':H a=none:=e
    rw[(dM q).1] at e'
    cases e'
 len:=by unfold L2.start startP;simp[Paired.length h]
 slot:=λi s' e=>by
  unfold startP at e
  by_cases hi:i<as.length
  ·rw[List.getElem?_append_left hi] at e
   obtain⟨v,h1,h2⟩:=bH h e
   have hv:((L2.start N vs)[i]?).getD none=some v:=by
    unfold L2.start
    rw[List.getElem?_append_left (by simpa[<-Paired.length h] using hi),List.getElem?_map,h1];rfl
   rw[hv]
   exact(aP.slot h2).1
  ·rw[List.getElem?_append_right (by omega),List.getElem?_replicate] at e
   split at e
   ·cases e;trivial
   ·cases e
 sep:=λi j a h1 _=>by
  obtain⟨s',y,h1,_,h2⟩:=h1
  have h2:=jV h2
  exfalso
  unfold startP at h1
  by_cases hi:i<as.length
  ·rw[List.getElem?_append_left hi] at h1
   obtain⟨v,_,h3⟩:=bH h h1
   rw[(aP.slot h3).2] at h2
   cases h2
  ·rw[List.getElem?_append_right (by omega),List.getElem?_replicate] at h1
   split at h1
   ·cases h1;cases h2
   ·cases h1
end
structure PX where
 C:String
 ns:List Str
 ps:List PV
def Kz(K:KK)(F:Hp)(x:PX)(C:Value)(d:Option Addr):Prop:=C=.ref (K.cm x.C)/\∃fs,vW F d fs/\fs.map (·.1)=x.ns/\Ē K F x.ps (fs.map (·.2))
inductive Res(α:Type) where
 |ok (a:α) (ρ:ķ)|exc (x:PX) (ρ:ķ)|bad
def Res.bind{α β:Type}(r:Res α)(f:α->ķ->Res β):Res β:= match r with
 | .ok a ρ=>f a ρ
 | .exc x ρ=>.exc x ρ
 | .bad=>.bad
@[simp] theorem Res.Ű{α β:Type}{a:α}{ρ:ķ}{f:α->ķ->Res β}:(Res.ok a ρ).bind f=f a ρ:= rfl
@[simp] theorem Res.Zax{α β:Type}{x:PX}{ρ:ķ}{f:α->ķ->Res β}:(Res.exc x ρ:Res α).bind f=.exc x ρ:= rfl
@[simp] theorem Res.Zay{α β:Type}{f:α->ķ->Res β}:(Res.bad:Res α).bind f=.bad:=rfl
def Res.mZ{α:Type}(o:Option α)(ρ:ķ):Res α:= match o with
 |some a=>.ok a ρ
 |none=>.bad
@[simp] theorem Res.Zaz{α:Type}{a:α}{ρ:ķ}:Res.mZ (some a) ρ=.ok a ρ:= rfl
@[simp] theorem Res.ZaA{α:Type}{ρ:ķ}:Res.mZ (none:Option α) ρ=.bad:=rfl
abbrev M(α:Type):=ķ->Res α
inductive RV where
 |sh (p:PV)|ow (ps:List PV)|ot (ps qs rs:List PV)|bn (t:Bool) (ps qs rows:List PV)
def RV.val:RV->PV
 | .sh p=>p
 | .ow ps=>.lst ps
 | .ot ps qs rs=>.tup (ps ++ .lst qs::rs)
 | .bn t ps qs rows=>bnV t ps qs rows
def RV.slot:RV->Slot
 | .sh p=>.sh p
 | .ow ps=>.ow ps
 | .ot ps qs rs=>.ot ps qs rs
 | .bn t ps qs rows=>if t then .sh (bnV t ps qs rows) else .bn qs rows
abbrev RR(α β:Type):=Ctx->L2.St->ķ->Hp->Hp->α->β->Prop
def rV(K:KK):RR PV V:=λ_ _ _ F _ p v=>Rep K F p v
def Bg(K:KK)(F H:Hp)(p:PV)(v:V):Prop:=match p with
 | .lst ps=>∃a vs,v=.ref a/\H a=some (.lst vs)/\Ē K F ps vs
 | .ins C ns ps=>∃a dx fs,v=.ref a/\H a=some (.ins (K.cm C) dx fs)/\fs.map (·.1)=ns/\Ē K F ps (fs.map (·.2))
 |_=>False
def rR(K:KK):RR PV V:=λ_ _ _ F H p v=>Rep K F p v\/Bg K F H p v
def rA(K:KK):RR (List Slot) (List V):=λ_ _ _ F H as vs=>Paired (aP K F H) as vs
def Held(K:KK)(c:Ctx)(σ:L2.St)(ρ:ķ)(F H:Hp)(ps:List PV)(v:V):Prop:=∃a vs,v=.ref a/\H a=some (.lst vs)/\F a=none/\c.B a=none/\bI F σ ρ a/\Ē K F ps vs
def Bh(K:KK)(c:Ctx)(σ:L2.St)(ρ:ķ)(F H:Hp)(ps qs rs:List PV)(v:V):Prop:=∃p a xs vs ys,v=.ref p/\F p=some (.tup (xs ++ .ref a::ys))/\Ē K F ps xs/\H a=some (.lst vs)/\F a=none/\c.B a=none/\bI F σ ρ a/\Ē K F qs vs/\Ē K F rs ys
def rO(K:KK):RR RV V:=λc σ ρ F H r v=>match r with
 | .sh p=>Rep K F p v
 | .ow ps=>Held K c σ ρ F H ps v
 | .ot ps qs rs=>Bh K c σ ρ F H ps qs rs v
 | .bn t ps qs rows=>iM K c.B F t ps qs rows v
def rL(K:KK):RR (List PV) (List V):=λ_ _ _ F _ p v=>Ē K F p v
def YK(K:KK):RR (List PV) (List V):=λc σ ρ F H p v=>Paired (rR K c σ ρ F H) p v
def rB:RR Bool Bool:=λ_ _ _ _ _ p v=>p=v
def rI:RR (Option Int) (Option Int):=λ_ _ _ _ _ p v=>p=v
def ų{α β:Type}(K:KK)(E:L2.St->XK)(R:RR α β)(c:Ctx)(F H:Hp)(σ:L2.St)(Q:β->Hp->Prop):Res α->Prop
 | .ok p ρ'=>∀v F' H',Rel K c F' H' σ ρ'->Same F F'->Same H H'->R c σ ρ' F' H' p v->Q v H'
 | .exc x ρ'=>∀C d F' H',Rel K c F' H' σ ρ'->Same F F'->Kz K F' x C d->E σ C d H'
 | .bad=>False
def tG{α β:Type}(K:KK)(E:L2.St->XK)(R:RR α β)(m:M α):L2.St->Hp->(β->Hp->Prop)->Prop:=λσ H Q=>∃c F ρ,Rel K c F H σ ρ/\ų K E R c F H σ Q (m ρ)
section
variable{α β α' β':Type}{K:KK}{E:L2.St->XK}{R:RR α β}{R':RR α' β'}{c:Ctx}{F F1 H H1:Hp}{σ:L2.St}
def ų.mono{Q:β->Hp->Prop}{r:Res α}(h:ų K E R c F H σ Q r)(sF:Same F F1)(sH:Same H H1):ų K E R c F1 H1 σ Q r:=by
 cases r with
 |ok p ρ'=>exact λv F' H' rel s1 s2 q=>h v F' H' rel (sF.trans s1) (sH.trans s2) q
 |exc x ρ'=>exact λC d F' H' rel s1 q=>h C d F' H' rel (sF.trans s1) q
 |bad=>exact h
theorem ų.bind{Q:β->Hp->Prop}{Q':β'->Hp->Prop}{r:Res α}{f:α->ķ->Res α'}(h:ų K E R' c F H σ Q' (r.bind f))
 (k:∀p ρ1 v F1 H1,Rel K c F1 H1 σ ρ1->Same F F1->Same H H1->R c σ ρ1 F1 H1 p v->ų K E R' c F1 H1 σ Q' (f p ρ1)->Q v H1):ų K E R c F H σ Q r:=by
 cases r with
 |ok p ρ'=>exact λv F' H' rel s1 s2 q=>k p ρ' v F' H' rel s1 s2 q (ų.mono (show ų K E R' c F H σ Q' (f p ρ') from h) s1 s2)
 |exc x ρ'=>exact h
 |bad=>exact h
theorem ų.rel{R2:RR α β}{Q:β->Hp->Prop}{r:Res α}(h:ų K E R c F H σ Q r)(k:∀p ρ' v F' H',Rel K c F' H' σ ρ'->R2 c σ ρ' F' H' p v->R c σ ρ' F' H' p v):ų K E R2 c F H σ Q r:=by
 cases r with
 |ok p ρ'=>exact λv F' H' rel s1 s2 q=>h v F' H' rel s1 s2 (k p ρ' v F' H' rel q)
 |exc x ρ'=>exact h
 |bad=>exact h
end
abbrev tV(K:KK)(E:L2.St->XK)(m:M PV):TE:=tG K E (rV K) m
abbrev tR(K:KK)(E:L2.St->XK)(m:M PV):TE:=tG K E (rR K) m
abbrev tO(K:KK)(E:L2.St->XK)(m:M RV):TE:=tG K E (rO K) m
abbrev tL(K:KK)(E:L2.St->XK)(m:M (List PV)):TA:=tG K E (rL K) m
abbrev tA(K:KK)(E:L2.St->XK)(m:M (List Slot)):TA:=tG K E (rA K) m
abbrev KC(K:KK)(E:L2.St->XK)(m:M (List PV)):TA:=tG K E (YK K) m
abbrev tB(K:KK)(E:L2.St->XK)(m:M Bool):TT:=tG K E rB m
inductive Fl where
 |nx|bk|ct|rt (r:RV)
def Ş(K:KK)(E:L2.St->XK)(c:Ctx)(F:Hp)(D:Ends):Res Fl->Prop
 | .ok .nx ρ'=>∀σ' F' H',Rel K c F' H' σ' ρ'->Same F F'->D.nx σ' H'
 | .ok .bk ρ'=>∀σ' F' H',Rel K c F' H' σ' ρ'->Same F F'->D.bk σ' H'
 | .ok .ct ρ'=>∀σ' F' H',Rel K c F' H' σ' ρ'->Same F F'->D.ct σ' H'
 | .ok (.rt r) ρ'=>∀v σ' F' H',Rel K c F' H' σ' ρ'->Same F F'->rO K c σ' ρ' F' H' r v->D.rt v H'
 | .exc x ρ'=>∀σ' C d F' H',Rel K c F' H' σ' ρ'->Same F F'->Kz K F' x C d->E σ' C d H'
 | .bad=>False
def tS(K:KK)(E:L2.St->XK)(m:M Fl):TS:=λD σ H=>∃c F ρ,Rel K c F H σ ρ/\Ş K E c F D (m ρ)
section
variable{K:KK}{E:L2.St->XK}{c:Ctx}{F F1:Hp}{D:Ends}
def Ş.mono{r:Res Fl}(h:Ş K E c F D r)(sF:Same F F1):Ş K E c F1 D r:=by
 cases r with
 |ok f ρ'=>
  cases f with
  |rt v=>exact λv σ' F' H' rel s1 q=>h v σ' F' H' rel (sF.trans s1) q
  |nx=>exact λσ' F' H' rel s1=>h σ' F' H' rel (sF.trans s1)
  |bk=>exact λσ' F' H' rel s1=>h σ' F' H' rel (sF.trans s1)
  |ct=>exact λσ' F' H' rel s1=>h σ' F' H' rel (sF.trans s1)
 |exc x ρ'=>exact λσ' C d F' H' rel s1 q=>h σ' C d F' H' rel (sF.trans s1) q
 |bad=>exact h
theorem Ş.bind{α β:Type}{R:RR α β}{σ:L2.St}{H:Hp}{Q:β->Hp->Prop}{r:Res α}{f:α->ķ->Res Fl}(h:Ş K E c F D (r.bind f))
 (k:∀p ρ1 v F1 H1,Rel K c F1 H1 σ ρ1->Same F F1->R c σ ρ1 F1 H1 p v->Ş K E c F1 D (f p ρ1)->Q v H1):ų K E R c F H σ Q r:=by
 cases r with
 |ok p ρ'=>exact λv F' H' rel s1 s2 q=>k p ρ' v F' H' rel s1 q (Ş.mono (show Ş K E c F D (f p ρ') from h) s1)
 |exc x ρ'=>exact λC d F' H' rel s1 q=>h σ C d F' H' rel s1 q
 |bad=>exact h
end
end P
namespace P
open PySem PySem.Spec PyProof.Rows L2 M2
def ě(i:Nat):M PV:=λρ=>match ρ[i]? with
 |some (.sh p)=>.ok p ρ
 |some (.ow ps)=>.ok (.lst ps) (ρ.set i (.sh (.lst ps)))
 |some (.bn qs rows)=>.ok (.lst (.lst qs::rows)) ρ
 |_=>.bad
def Ā(i:Nat):M PV:=λρ=>match ρ[i]? with
 |some (.sh p)=>.ok p ρ
 |some (.ow ps)=>.ok (.lst ps) ρ
 |some (.bw ps)=>.ok (.lst ps) ρ
 |some (.rc C ns ps)=>.ok (.ins C ns ps) ρ
 |some (.bn qs rows)=>.ok (.lst (.lst qs::rows)) ρ
 |_=>.bad
def b_(i:Nat):M RV:=λρ=>match ρ[i]? with
 |some (.sh p)=>.ok (.sh p) ρ
 |some (.ow ps)=>.ok (.ow ps) (ρ.set i .no)
 |_=>.bad
def mC(p:PV):M PV:=λρ=>.ok p ρ
def ł(m:M PV):M RV:=λρ=>(m ρ).bind λp ρ1=>.ok (.sh p) ρ1
def č(m:M RV):M PV:=λρ=>(m ρ).bind λr ρ1=>.ok r.val ρ1
section
variable{K:KK}{c:Ctx}{F H:Hp}{σ:L2.St}{ρ:ķ}
def at_of{i:Nat}{x:V}(h:(σ[i]?).getD none=some x):σ[i]?=some (some x):=by
 cases q:σ[i]? with
 |none=>rw[q] at h;cases h
 |some y=>rw[q] at h;exact congrArg some h
theorem Rel.ow(r:Rel K c F H σ ρ){i:Nat}{ps:List PV}(e:ρ[i]?=some (.ow ps)):∃a vs,σ[i]?=some (some (.ref a))/\H a=some (.lst vs)/\F a=none/\c.B a=none/\Ē K F ps vs/\ň F σ ρ i a:=by
 obtain⟨a,vs,h1,h2,h3,h4,h5⟩:=r.slot i _ e
 exact⟨a,vs,at_of h1,h2,h3,h4,h5,⟨_,_,e,at_of h1,rfl⟩⟩
def Rel.move(r:Rel K c F H σ ρ){i:Nat}{a:Addr}(h:ň F σ ρ i a):Rel K c F H σ (ρ.set i .no)/\bI F σ (ρ.set i .no) a:=by
 refine⟨r.Ni rfl trivial,λj ⟨s,y,q1,q3,q2⟩=>?_⟩
 rcases ţ q1 with⟨_,rfl,_⟩|⟨hj,q⟩
 ·exact q2.elim
 ·exact hj (r.sep j i a ⟨s,y,q,q3,q2⟩ h)
def Rel.share(r:Rel K c F H σ ρ){i:Nat}{ps:List PV}(e:ρ[i]?=some (.ow ps)):∃a vs,σ[i]?=some (some (.ref a))/\F a=none/\Rep K (upd F a (.lst vs)) (.lst ps) (.ref a)/\Rel K c (upd F a (.lst vs)) H σ (ρ.set i (.sh (.lst ps))):=by
 obtain⟨a,vs,h1,h2,h3,h4,h5,ho⟩:=r.ow e
 obtain⟨m1,m2⟩:=r.move ho
 have rp:Rep K (upd F a (.lst vs)) (.lst ps) (.ref a):=by
  unfold Rep
  exact⟨a,vs,rfl,Ř.of ē,h5.same (Same.upd h3) ps vs⟩
 have q:=(m1.freeze h2 h4 h3 m2).Ni (i:=i) (s:=.sh (.lst ps)) rfl (show ũ K c _ H _ (.sh (.lst ps)) from⟨.ref a,by rw[h1];rfl,rp⟩)
 rw[List.set_set] at q
 exact⟨a,vs,h1,h3,rp,q⟩
def Bg.mono{F1 H1:Hp}{p:PV}{v:V}(h:Bg K F H p v)(sF:Same F F1)(sH:Same H H1):Bg K F1 H1 p v:=by
 cases p with
 |lst ps=>
  obtain⟨a,vs,h2,h3,h4⟩:=h
  exact⟨a,vs,h2,sH _ _ h3,h4.same sF ps vs⟩
 |ins C ns ps=>
  obtain⟨a,dx,fs,h2,h3,h4,h5⟩:=h
  exact⟨a,dx,fs,h2,sH _ _ h3,h4,h5.same sF ps _⟩
 |_=>exact h.elim
theorem rR.mono{c:Ctx}{σ:L2.St}{ρ ρ':ķ}{F1 H1:Hp}{p:PV}{v:V}(h:rR K c σ ρ F H p v)(sF:Same F F1)(sH:Same H H1):rR K c σ ρ' F1 H1 p v:=by
 rcases h with h|h
 ·exact .inl (h.same sF p v)
 ·exact .inr (h.mono sF sH)
theorem rR.lst{c:Ctx}{σ:L2.St}{ρ:ķ}{ps:List PV}{v:V}(s:Same F H)(h:rR K c σ ρ F H (.lst ps) v):∃a vs,v=.ref a/\Ř K.K H a vs/\Ē K F ps vs:=by
 rcases h with h|⟨a,vs,h2,h3,h4⟩
 ·unfold Rep at h
  obtain⟨a,xs,h1,h2,h3⟩:=h
  exact⟨a,xs,h1,s.seq h2,h3⟩
 ·exact⟨a,vs,h2,Ř.of h3,h4⟩
theorem rR.tup{c:Ctx}{σ:L2.St}{ρ:ķ}{ps:List PV}{v:V}(s:Same F H)(h:rR K c σ ρ F H (.tup ps) v):∃a vs,v=.ref a/\bW K.K H a vs/\Ē K F ps vs:=by
 rcases h with h|h
 ·unfold Rep at h
  obtain⟨a,xs,h1,h2,h3⟩:=h
  exact⟨a,xs,h1,Same.tup s h2,h3⟩
 ·exact h.elim
theorem rR.int{c:Ctx}{σ:L2.St}{ρ:ķ}{i:Int}{v:V}(h:rR K c σ ρ F H (.int i) v):v=.int i:=by
 rcases h with h|h
 ·unfold Rep at h;exact h
 ·exact h.elim
theorem rR.str{c:Ctx}{σ:L2.St}{ρ:ķ}{i:Str}{v:V}(h:rR K c σ ρ F H (.str i) v):v=.str i:=by
 rcases h with h|h
 ·unfold Rep at h;exact h
 ·exact h.elim
theorem rR.bl{c:Ctx}{σ:L2.St}{ρ:ķ}{i:Bool}{v:V}(h:rR K c σ ρ F H (.bl i) v):v=.bl i:=by
 rcases h with h|h
 ·unfold Rep at h;exact h
 ·exact h.elim
theorem rR.non{c:Ctx}{σ:L2.St}{ρ:ķ}{v:V}(h:rR K c σ ρ F H .non v):v=.non:=by
 rcases h with h|h
 ·unfold Rep at h;exact h
 ·exact h.elim
theorem rR.ty{c:Ctx}{σ:L2.St}{ρ:ķ}{n:String}{v:V}(h:rR K c σ ρ F H (.ty n) v):v=.ty n:=by
 rcases h with h|h
 ·unfold Rep at h;exact h
 ·exact h.elim
theorem Rep.int{i:Int}:Rep K F (.int i) (.int i):=by unfold Rep;rfl
theorem Rep.str{i:Str}:Rep K F (.str i) (.str i):=by unfold Rep;rfl
theorem Rep.bl{i:Bool}:Rep K F (.bl i) (.bl i):=by unfold Rep;rfl
theorem Rep.non:Rep K F .non .non:=by unfold Rep;rfl
end
section
variable{X:Cx}{cm:String->Addr}{E:L2.St->XK}{a b e:Expr}{es:List Expr}{pos:Pos}{m ma mb mc:M PV}{mo:M RV}
def PT.wk{t t':TT}(h:PT X e t)(i:∀σ H Q,t' σ H Q->t σ H Q):PT X e t':=λpins s σ H Q I q=>h pins s σ H Q I (i σ H Q q)
def PA.wk{t t':TA}(h:PA X es t)(i:∀σ H Q,t' σ H Q->t σ H Q):PA X es t':=λpos pins s σ H Q I q=>h pos pins s σ H Q I (i σ H Q q)
def PW.wk{t t':TT}(h:PW X e t)(i:∀σ H Q,t' σ H Q->t σ H Q):PW X e t':=λwh pins s σ H Q I q=>h wh pins s σ H Q I (i σ H Q q)
def fC.wk{st:List Stmt}{t t':TS}(h:fC X st t)(i:∀D σ H,t' D σ H->t D σ H):fC X st t':=λpins s σ H D I q=>h pins s σ H D I (i D σ H q)
def v_var(i:Nat){x:Str}{pos:Pos}(hN:X.N[i]?=some x:=by rfl)(hv:Aj X.env.scope x:=by first|exact Or.inl rfl|exact Or.inr (Or.inl rfl)|exact Or.inr (Or.inr rfl))(hd:(x== ("__debug__" :Str))=false:=by decide)
 (hcd:(x== ("__classdict__" :Str))=false:=by decide):PE X (.Name x pos) (tV (kk X cm) E (ě i)):=PE.wk (dB hN hv hd hcd) λσ H Q ⟨c,F,ρ,rel,h⟩=>by
 unfold ě at h
 split at h
 ·rename_i p e
  obtain⟨v,h1,h2⟩:=rel.slot i _ e
  exact⟨v,at_of h1,h v F H rel (Same.refl F) (Same.refl H) h2⟩
 ·rename_i ps e
  obtain⟨a,vs,h1,h2,h3,h4⟩:=rel.share e
  exact⟨.ref a,h1,h _ _ H h4 (Same.upd h2) (Same.refl H) h3⟩
 ·rename_i qs rows e
  obtain⟨v,h1,h2⟩:=rel.slot i _ e
  exact⟨v,at_of h1,h v F H rel (Same.refl F) (Same.refl H) h2.rep⟩
 ·exact h.elim
def Ă(i:Nat){x:Str}{pos:Pos}(hN:X.N[i]?=some x:=by rfl)(hv:Aj X.env.scope x:=by first|exact Or.inl rfl|exact Or.inr (Or.inl rfl)|exact Or.inr (Or.inr rfl))(hd:(x== ("__debug__" :Str))=false:=by decide)
 (hcd:(x== ("__classdict__" :Str))=false:=by decide):PE X (.Name x pos) (tR (kk X cm) E (Ā i)):=PE.wk (dB hN hv hd hcd) λσ H Q ⟨c,F,ρ,rel,h⟩=>by
 unfold Ā at h
 split at h
 ·rename_i p e
  obtain⟨v,h1,h2⟩:=rel.slot i _ e
  exact⟨v,at_of h1,h v F H rel (Same.refl F) (Same.refl H) (.inl h2)⟩
 ·rename_i ps e
  obtain⟨a,vs,h1,h2,h3,h4,h5,_⟩:=rel.ow e
  exact⟨.ref a,h1,h _ F H rel (Same.refl F) (Same.refl H) (.inr ⟨a,vs,rfl,h2,h5⟩)⟩
 ·rename_i ps e
  obtain⟨a,vs,h1,h2,h3⟩:=rel.slot i _ e
  exact⟨.ref a,at_of h1,h _ F H rel (Same.refl F) (Same.refl H) (.inr ⟨a,vs,rfl,(rel.lent a _ h2).1,h3⟩)⟩
 ·rename_i C ns ps e
  obtain⟨a,dx,fs,h1,h2,h3,h4,h5,h6⟩:=rel.slot i _ e
  exact⟨.ref a,at_of h1,h _ F H rel (Same.refl F) (Same.refl H) (.inr ⟨a,dx,fs,rfl,h2,h5,h6.1⟩)⟩
 ·rename_i qs rows e
  obtain⟨v,h1,h2⟩:=rel.slot i _ e
  exact⟨v,at_of h1,h v F H rel (Same.refl F) (Same.refl H) (.inl h2.rep)⟩
 ·exact h.elim
def fQ(i:Nat){x:Str}{pos:Pos}(hN:X.N[i]?=some x:=by rfl)(hv:Aj X.env.scope x:=by first|exact Or.inl rfl|exact Or.inr (Or.inl rfl)|exact Or.inr (Or.inr rfl))(hd:(x== ("__debug__" :Str))=false:=by decide)
 (hcd:(x== ("__classdict__" :Str))=false:=by decide):PE X (.Name x pos) (tO (kk X cm) E (b_ i)):=PE.wk (dB hN hv hd hcd) λσ H Q ⟨c,F,ρ,rel,h⟩=>by
 unfold b_ at h
 split at h
 ·rename_i p e
  obtain⟨v,h1,h2⟩:=rel.slot i _ e
  exact⟨v,at_of h1,h v F H rel (Same.refl F) (Same.refl H) h2⟩
 ·rename_i ps e
  obtain⟨a,vs,h1,h2,h3,h4,h5,h6⟩:=rel.ow e
  obtain⟨m1,m2⟩:=rel.move h6
  exact⟨.ref a,h1,h _ F H m1 (Same.refl F) (Same.refl H) ⟨a,vs,rfl,h2,h3,h4,m2,h5⟩⟩
 ·exact h.elim
def Dv{v:V}(p:PV)(h:PE X e (tC v))(hr:∀F,Rep (kk X cm) F p v:=by intro _;unfold Rep;rfl):PE X e (tV (kk X cm) E (mC p)):=PE.wk h λσ H Q ⟨c,F,ρ,rel,h⟩=>h v F H rel (Same.refl F) (Same.refl H) (hr F)
def Ħ{i j pos}:PE X (.Constant (.int i) j pos) (tV (kk X cm) E (mC (.int i))):=Dv _ fG
def vX{i j pos}:PE X (.Constant (.bool i) j pos) (tV (kk X cm) E (mC (.bl i))):=Dv _ Zac
def vY{j pos}:PE X (.Constant .none j pos) (tV (kk X cm) E (mC .non)):=Dv _ xZ
def iu{x j pos}:PE X (.Constant (.str x) j pos) (tV (kk X cm) E (mC (.str x))):=Dv _ yc
def ğ(h:PE X e (tV (kk X cm) E m)):PE X e (tR (kk X cm) E m):=PE.wk h λσ H Q ⟨c,F,ρ,rel,h⟩=>⟨c,F,ρ,rel,h.rel λ_ _ _ _ _ _ q=>.inl q⟩
def ő(h:PE X e (tV (kk X cm) E m)):PE X e (tO (kk X cm) E (ł m)):=PE.wk h λσ H Q ⟨c,F,ρ,rel,h⟩=>⟨c,F,ρ,rel,h.bind λp ρ1 v F1 H1 Ĕ s1 s2 q h1=>h1 v F1 H1 Ĕ (Same.refl _) (Same.refl _) q⟩
def Held.share{K:KK}{c:Ctx}{F H:Hp}{σ:L2.St}{ρ:ķ}{ps:List PV}{v:V}(rel:Rel K c F H σ ρ)(h:Held K c σ ρ F H ps v):∃F1,Same F F1/\Rel K c F1 H σ ρ/\Rep K F1 (.lst ps) v:=by
 obtain⟨a,vs,rfl,h1,h2,h3,h4,h5⟩:=h
 refine⟨_,Same.upd h2,rel.freeze h1 h3 h2 h4,?_⟩
 unfold Rep
 exact⟨a,vs,rfl,Ř.of ē,h5.same (Same.upd h2) ps vs⟩
def Bh.share{K:KK}{c:Ctx}{F H:Hp}{σ:L2.St}{ρ:ķ}{ps qs rs:List PV}{v:V}(rel:Rel K c F H σ ρ)(h:Bh K c σ ρ F H ps qs rs v):∃F1,Same F F1/\Rel K c F1 H σ ρ/\Rep K F1 (.tup (ps ++ .lst qs::rs)) v:=by
 obtain⟨p,a,xs,vs,ys,rfl,h0,hx,h1,h2,h3,h4,h5,h6⟩:=h
 refine⟨_,Same.upd h2,rel.freeze h1 h3 h2 h4,?_⟩
 have ra:Rep K (upd F a (.lst vs)) (.lst qs) (.ref a):=by
  unfold Rep
  exact⟨a,vs,rfl,Ř.of ē,h5.same (Same.upd h2) qs vs⟩
 unfold Rep
 exact⟨p,_,rfl,bW.of (Same.upd h2 _ _ h0),Ē.append (hx.same (Same.upd h2) ps xs) (Ē.cons ra (h6.same (Same.upd h2) rs ys))⟩
def ĝ(h:PE X e (tO (kk X cm) E mo)):PE X e (tV (kk X cm) E (č mo)):=PE.wk h λσ H Q ⟨c,F,ρ,rel,h⟩=>⟨c,F,ρ,rel,h.bind λr ρ1 v F1 H1 Ĕ s1 s2 q h1=>by
 cases r with
 |sh p=>exact h1 v F1 H1 Ĕ (Same.refl _) (Same.refl _) q
 |ow ps=>
  obtain⟨F2,s3,ĩ,rp⟩:=Held.share Ĕ q
  exact h1 v F2 H1 ĩ s3 (Same.refl _) rp
 |ot ps qs rs=>
  obtain⟨F2,s3,ĩ,rp⟩:=Bh.share Ĕ q
  exact h1 v F2 H1 ĩ s3 (Same.refl _) rp
 |bn t ps qs rows=>exact h1 v F1 H1 Ĕ (Same.refl _) (Same.refl _) (iM.rep q)⟩
def ą(f:PV->PV->Option PV)(ma mb:M PV):M PV:=λρ=>(ma ρ).bind λp ρ1=>(mb ρ1).bind λq ρ2=>Res.mZ (f p q) ρ2
def į(f:PV->PV->Option RV)(ma mb:M PV):M RV:=λρ=>(ma ρ).bind λp ρ1=>(mb ρ1).bind λq ρ2=>Res.mZ (f p q) ρ2
def jL(K:KK)(r:R2)(f:PV->PV->Option PV):Prop:=∀{c:Ctx} {F H:Hp} {σ:L2.St} {ρ:ķ} {p q pv:PV} {v u:V} {Q:VK},Rel K c F H σ ρ->rR K c σ ρ F H p v->rR K c σ ρ F H q u->f p q=some pv->
 (∀z F' H',Rel K c F' H' σ ρ->Same F F'->Same H H'->Rep K F' pv z->Q z H')->r v u H Q
def OpO(K:KK)(r:R2)(f:PV->PV->Option RV):Prop:=∀{c:Ctx} {F H:Hp} {σ:L2.St} {ρ:ķ} {p q:PV} {pv:RV} {v u:V} {Q:VK},Rel K c F H σ ρ->rR K c σ ρ F H p v->rR K c σ ρ F H q u->f p q=some pv->
 (∀z F' H',Rel K c F' H' σ ρ->Same F F'->Same H H'->rO K c σ ρ F' H' pv z->Q z H')->r v u H Q
def Bj{r:R2}{f:PV->PV->Option PV}(hf:jL (kk X cm) r f){σ:L2.St}{H:Hp}{Q:VK}(h:tV (kk X cm) E (ą f ma mb) σ H Q):Dt r (tR (kk X cm) E ma) (tR (kk X cm) E mb) σ H Q:=by
 obtain⟨c,F,ρ,rel,h⟩:=h
 refine⟨c,F,ρ,rel,h.bind λp ρ1 v F1 H1 Ĕ _ _ r1 h1=>⟨c,F1,ρ1,Ĕ,h1.bind λq ρ2 u F2 H2 ĩ sF sH r2 h2=>?_⟩⟩
 cases e:f p q with
 |none=>rw[e] at h2;exact h2.elim
 |some pv=>rw[e] at h2;exact hf ĩ (r1.mono sF sH) r2 e λz F' H' Ż s1 s2 q'=>h2 z F' H' Ż s1 s2 q'
def ZaB{r:R2}{f:PV->PV->Option RV}(hf:OpO (kk X cm) r f){σ:L2.St}{H:Hp}{Q:VK}(h:tO (kk X cm) E (į f ma mb) σ H Q):Dt r (tR (kk X cm) E ma) (tR (kk X cm) E mb) σ H Q:=by
 obtain⟨c,F,ρ,rel,h⟩:=h
 refine⟨c,F,ρ,rel,h.bind λp ρ1 v F1 H1 Ĕ _ _ r1 h1=>⟨c,F1,ρ1,Ĕ,h1.bind λq ρ2 u F2 H2 ĩ sF sH r2 h2=>?_⟩⟩
 cases e:f p q with
 |none=>rw[e] at h2;exact h2.elim
 |some pv=>rw[e] at h2;exact hf ĩ (r1.mono sF sH) r2 e λz F' H' Ż s1 s2 q'=>h2 z F' H' Ż s1 s2 q'
def cg{op:Operator}{r:R2}{f:PV->PV->Option PV}(hf:jL (kk X cm) r f)(ho:ū X (binaryOp op) r)(ha:PE X a (tR (kk X cm) E ma))(hb:PE X b (tR (kk X cm) E mb)):PE X (.BinOp a op b pos) (tV (kk X cm) E (ą f ma mb)):=PE.wk (Mz ho ha hb) λ_ _ _ h=>Bj hf h
def ZaC{op:Operator}{r:R2}{f:PV->PV->Option RV}(hf:OpO (kk X cm) r f)(ho:ū X (binaryOp op) r)(ha:PE X a (tR (kk X cm) E ma))(hb:PE X b (tR (kk X cm) E mb)):PE X (.BinOp a op b pos) (tO (kk X cm) E (į f ma mb)):=PE.wk (Mz ho ha hb) λ_ _ _ h=>ZaB hf h
def nT{op:CmpOp}{r:R2}{f:PV->PV->Option PV}(hf:jL (kk X cm) r f)(ho:ū X (compareOp op) r)(ha:PE X a (tR (kk X cm) E ma))(hb:PE X b (tR (kk X cm) E mb))(hm:behindInMarks op b=false):PE X (.Compare a [op] [b] pos) (tV (kk X cm) E (ą f ma mb)):=
 PE.wk (JN ho ha hb hm) λ_ _ _ h=>Bj hf h
def Zc5{r:R2}{f:PV->PV->Option PV}(hf:jL (kk X cm) r f)(hr:yJ X r)(ha:PE X a (tR (kk X cm) E ma))(hb:PE X b (tR (kk X cm) E mb))(hs:mV b):PE X (.Subscript a b pos) (tV (kk X cm) E (ą f ma mb)):=
 PE.wk (vP hr ha hb hs) λ_ _ _ h=>Bj hf h
def fU(f:PV->Option PV)(ma:M PV):M PV:=λρ=>(ma ρ).bind λp ρ1=>Res.mZ (f p) ρ1
def UnV(K:KK)(r:V->Hp->VK->Prop)(f:PV->Option PV):Prop:=∀{c:Ctx} {F H:Hp} {σ:L2.St} {ρ:ķ} {p pv:PV} {v:V} {Q:VK},Rel K c F H σ ρ->rR K c σ ρ F H p v->f p=some pv->
 (∀z F' H',Rel K c F' H' σ ρ->Same F F'->Same H H'->Rep K F' pv z->Q z H')->r v H Q
def vZ{op:UnaryOp}{r:V->Hp->VK->Prop}{f:PV->Option PV}(hf:UnV (kk X cm) r f)(ho:JK X (unaryOp op) r)(ha:PE X a (tR (kk X cm) E ma)):PE X (.UnaryOp op a pos) (tV (kk X cm) E (fU f ma)):=PE.wk (MJ ho ha) λσ H Q ⟨c,F,ρ,rel,h⟩=>
 ⟨c,F,ρ,rel,h.bind fun p ρ1 v F1 H1 Ĕ _ _ r1 h1=>by
   cases e:f p with
   |none=>rw[e] at h1;exact h1.elim
   |some pv=>rw[e] at h1;exact hf Ĕ r1 e λz F' H' Ż s1 s2 q'=>h1 z F' H' Ż s1 s2 q'⟩
def Wh:PV->Option Bool
 | .bl b=>some b
 | .int i=>some (i != 0)
 | .non=>some false
 | .str y=>if y.length<=sizeLine then some ((y.length:Int) != 0) else none
 | .lst ps=>some (!ps.isEmpty)
 | .tup ps=>some (!ps.isEmpty)
 |_=>none
def au(m:M PV):M Bool:=λρ=>(m ρ).bind λp ρ1=>Res.mZ (Wh p) ρ1
def ZaD{K:KK}{c:Ctx}{F H:Hp}{σ:L2.St}{ρ:ķ}{p:PV}{v:V}{k:Bool}(s:Same F H)(r:rR K c σ ρ F H p v)(h:Wh p=some k):Vm K.K v H k:=by
 cases p with
 |bl b=>cases r.bl;cases h;rfl
 |int i=>cases r.int;cases h;rfl
 |non=>cases r.non;cases h;rfl
 |str y=>
  cases r.str
  have h':(if y.length<=sizeLine then some ((y.length:Int) != 0) else none)=some k:=h
  split at h'
  ·rename_i hy;cases h';exact⟨hy,rfl⟩
  ·cases h'
 |lst ps=>
  obtain⟨a,vs,rfl,h1,h2⟩:=r.lst s
  cases h
  have e:ps.isEmpty=vs.isEmpty:=by cases h2.pr<;>rfl
  exact .inl ⟨vs,h1,by rw[e]⟩
 |tup ps=>
  obtain⟨a,vs,rfl,h1,h2⟩:=r.tup s
  cases h
  have e:ps.isEmpty=vs.isEmpty:=by cases h2.pr<;>rfl
  exact .inr (.inl ⟨vs,h1,by rw[e]⟩)
 |ins C ns ps=>cases h
 |xc C ns ps=>cases h
 |ty n=>cases h
 |cls C=>cases h
def ž(ha:PE X a (tR (kk X cm) E ma))(he:∀whole,isTrue a X.env whole=(do let v <-whole;standAt a.pos;holding [v] (truthy v)):=by intro _;rfl):PT X a (tB (kk X cm) E (au ma)):=PT.wk (D_ ha he) λσ H Q ⟨c,F,ρ,rel,h⟩=>
 ⟨c,F,ρ,rel,h.bind fun p ρ1 v F1 H1 Ĕ _ _ r1 h1=>by
   cases e:Wh p with
   |none=>rw[e] at h1;exact h1.elim
   |some k=>rw[e] at h1;exact⟨k,ZaD Ĕ.sub r1 e,h1 k F1 H1 Ĕ (Same.refl _) (Same.refl _) rfl⟩⟩
def fj(m:M PV):M Bool:=λρ=>(m ρ).bind λp ρ1=>match p with
 | .bl b=>.ok b ρ1
 |_=>.bad
def ZaE{σ:L2.St}{H:Hp}{Q:Bool->Hp->Prop}(h:tB (kk X cm) E (fj m) σ H Q):M2.M_ (tV (kk X cm) E m) σ H Q:=by
 obtain⟨c,F,ρ,rel,h⟩:=h
 refine⟨c,F,ρ,rel,h.bind λp ρ1 v F1 H1 Ĕ _ _ r1 h1=>?_⟩
 cases p with
 |bl b=>
  have e:v=.bl b:=by have r1':Rep (kk X cm) F1 (.bl b) v:=r1;unfold Rep at r1';exact r1'
  subst e
  exact h1 b F1 H1 Ĕ (Same.refl _) (Same.refl _) rfl
 |_=>exact h1.elim
def dZ{op:CmpOp}{r:R2}{f:PV->PV->Option PV}(hf:jL (kk X cm) r f)(ho:ū X (compareOp op) r)(ha:PE X a (tR (kk X cm) E ma))(hb:PE X b (tR (kk X cm) E mb))(hm:behindInMarks op b=false):PT X (.Compare a [op] [b] pos) (tB (kk X cm) E (fj (ą f ma mb))):=
 PT.wk (Vx ho ha hb hm) fun σ H Q h=>by
   obtain⟨c,F,ρ,rel,h⟩:=ZaE h
   exact Bj hf ⟨c,F,ρ,rel,h⟩
def CJ(f g:PV->PV->Option PV)(ma mb mc:M PV):M PV:=λρ=>(ma ρ).bind λp ρ1=>(mb ρ1).bind λq ρ2=>(Res.mZ (f p q) ρ2).bind λz ρ3=>match z with
 | .bl true=>(mc ρ3).bind λw ρ4=>Res.mZ (g q w) ρ4
 | .bl false=>.ok (.bl false) ρ3
 |_=>.bad
def ZaF{r r':R2}{f g:PV->PV->Option PV}(hf:jL (kk X cm) r f)(hg:jL (kk X cm) r' g){σ:L2.St}{H:Hp}{Q:VK}(h:tV (kk X cm) E (CJ f g ma mb mc) σ H Q):M2.En r r' (tR (kk X cm) E ma) (tR (kk X cm) E mb) (tR (kk X cm) E mc) σ H Q:=by
 obtain⟨c,F,ρ,rel,h⟩:=h
 refine⟨c,F,ρ,rel,h.bind λp ρ1 v F1 H1 Ĕ _ _ r1 h1=>⟨c,F1,ρ1,Ĕ,h1.bind λq ρ2 u F2 H2 ĩ sF sH r2 h2=>?_⟩⟩
 cases e:f p q with
 |none=>rw[e] at h2;exact h2.elim
 |some pv=>
  rw[e] at h2
  refine hf ĩ (r1.mono sF sH) r2 e λz F' H' Ż s1 s2 q'=>?_
  cases pv with
  |bl k=>
   have ez:z=.bl k:=by unfold Rep at q';exact q'
   subst ez
   cases k with
   |false=>exact h2 _ F' H' Ż s1 s2 q'
   |true=>
    refine⟨c,F',ρ2,Ż,ų.bind (ų.mono h2 s1 s2) λw ρ4 x F4 H4 qu s3 s4 r4 h4=>?_⟩
    cases e':g q w with
    |none=>rw[e'] at h4;exact h4.elim
    |some pv'=>rw[e'] at h4;exact hg qu (r2.mono (s1.trans s3) (s2.trans s4)) r4 e' λz F' H' Ż s1 s2 q'=>h4 z F' H' Ż s1 s2 q'
  |_=>exact h2.elim
def Ft{op op':CmpOp}{r r':R2}{f g:PV->PV->Option PV}{c:Expr}(hf:jL (kk X cm) r f)(hg:jL (kk X cm) r' g)(ho:ū X (compareOp op) r)(ho':ū X (compareOp op') r')(ha:PE X a (tR (kk X cm) E ma))(hb:PE X b (tR (kk X cm) E mb))(hc:PE X c (tR (kk X cm) E mc))
 (hm:lastMarks [op,op'] [b,c]=false:=by with_unfolding_all rfl):PE X (.Compare a [op,op'] [b,c] pos) (tV (kk X cm) E (CJ f g ma mb mc)):=PE.wk (Eo ho ho' ha hb hc hm) λ_ _ _ h=>ZaF hf hg h
def aB(m:M Bool):M Bool:=λρ=>(m ρ).bind λb ρ1=>.ok (!b) ρ1
def iw{m:M Bool}(h:PT X a (tB (kk X cm) E m)):PT X (.UnaryOp .Not a pos) (tB (kk X cm) E (aB m)):=PT.wk (Uz h) λσ H Q ⟨c,F,ρ,rel,h⟩=>
 ⟨c,F,ρ,rel,h.bind λp ρ1 v F1 H1 Ĕ _ _ r1 h1=>h1 _ F1 H1 Ĕ (Same.refl _) (Same.refl _) (by have e:p=v:=r1;rw[e];rfl)⟩
def jk(ma mb:M Bool):M Bool:=λρ=>(ma ρ).bind λb ρ1=>if b=true then mb ρ1 else .ok false ρ1
def yQ(ma mb:M Bool):M Bool:=λρ=>(ma ρ).bind λb ρ1=>if b=true then .ok true ρ1 else mb ρ1
variable{ta tb:M Bool}{rest:List Expr}
def iQ(h:PT X a (tB (kk X cm) E ta)):PW X (.BoolOp .And [a] pos) (tB (kk X cm) E ta):=JF h
def Bk(h:PT X a (tB (kk X cm) E ta)):PW X (.BoolOp .Or [a] pos) (tB (kk X cm) E ta):=Ux h
def w_and(ha:PT X a (tB (kk X cm) E ta))(hb:PW X (.BoolOp .And (b::rest) pos) (tB (kk X cm) E tb)):PW X (.BoolOp .And (a::b::rest) pos) (tB (kk X cm) E (jk ta tb)):=PW.wk (Uy ha hb) λσ H Q ⟨c,F,ρ,rel,h⟩=>
 ⟨c,F,ρ,rel,h.bind fun p ρ1 v F1 H1 Ĕ _ _ r1 h1=>by
   have e:p=v:=r1
   subst e
   cases p with
   |true=>exact⟨c,F1,ρ1,Ĕ,h1⟩
   |false=>exact h1 false F1 H1 Ĕ (Same.refl _) (Same.refl _) rfl⟩
def w_or(ha:PT X a (tB (kk X cm) E ta))(hb:PW X (.BoolOp .Or (b::rest) pos) (tB (kk X cm) E tb)):PW X (.BoolOp .Or (a::b::rest) pos) (tB (kk X cm) E (yQ ta tb)):=PW.wk (Mw ha hb) λσ H Q ⟨c,F,ρ,rel,h⟩=>
 ⟨c,F,ρ,rel,h.bind fun p ρ1 v F1 H1 Ĕ _ _ r1 h1=>by
   have e:p=v:=r1
   subst e
   cases p with
   |false=>exact⟨c,F1,ρ1,Ĕ,h1⟩
   |true=>exact h1 true F1 H1 Ĕ (Same.refl _) (Same.refl _) rfl⟩
def cX(ma mb:M PV):M PV:=λρ=>(ma ρ).bind λp ρ1=>match p with
 | .bl true=>mb ρ1
 | .bl false=>.ok (.bl false) ρ1
 |_=>.bad
def Wi(ma:M PV):M PV:=λρ=>(ma ρ).bind λp ρ1=>match p with
 | .bl b=>.ok (.bl (!b)) ρ1
 |_=>.bad
def tU{K:KK}{F:Hp}{b:Bool}{v:V}(h:Rep K F (.bl b) v):v=.bl b:=by unfold Rep at h;exact h
def fV{op}(h:PE X a (tV (kk X cm) E ma)):PE X (.BoolOp op [a] pos) (tV (kk X cm) E ma):=UG h
def v_and(ha:PE X a (tV (kk X cm) E ma))(hb:PE X (.BoolOp .And (b::rest) pos) (tV (kk X cm) E mb)):PE X (.BoolOp .And (a::b::rest) pos) (tV (kk X cm) E (cX ma mb)):=PE.wk (Vy ha hb) λσ H Q ⟨c,F,ρ,rel,h⟩=>
 ⟨c,F,ρ,rel,h.bind fun p ρ1 v F1 H1 Ĕ _ _ r1 h1=>by
   cases p with
   |bl k=>
    cases tU r1
    cases k with
    |true=>exact⟨c,F1,ρ1,Ĕ,h1⟩
    |false=>exact h1 _ F1 H1 Ĕ (Same.refl _) (Same.refl _) r1
   |_=>exact h1.elim⟩
def v_not(ha:PE X a (tV (kk X cm) E ma)):PE X (.UnaryOp .Not a pos) (tV (kk X cm) E (Wi ma)):=PE.wk (Vz ha) λσ H Q ⟨c,F,ρ,rel,h⟩=>
 ⟨c,F,ρ,rel,h.bind fun p ρ1 v F1 H1 Ĕ _ _ r1 h1=>by
   cases p with
   |bl k=>
    cases tU r1
    exact h1 _ F1 H1 Ĕ (Same.refl _) (Same.refl _) Rep.bl
   |_=>exact h1.elim⟩
def cJ{α:Type}(t:M Bool)(ma mb:M α):M α:= λρ=>(t ρ).bind λb ρ1=>if b=true then ma ρ1 else mb ρ1
def ĕ:M (List PV):=λρ=>.ok [] ρ
def ă(ma:M PV)(mr:M (List PV)):M (List PV):=λρ=>(ma ρ).bind λp ρ1=>(mr ρ1).bind λps ρ2=>.ok (p::ps) ρ2
variable{mr:M (List PV)}
def Ĝ:PA X [] (tL (kk X cm) E ĕ):=PA.wk aF λσ H Q ⟨c,F,ρ,rel,h⟩=>h [] F H rel (Same.refl _) (Same.refl _) Ē.nil
def Ą(ha:PE X e (tV (kk X cm) E ma))(hr:PA X es (tL (kk X cm) E mr))(hs:starEach (e::es) X.env=(false,eval e X.env)::starEach es X.env:=by exact bG rfl):PA X (e::es) (tL (kk X cm) E (ă ma mr)):=PA.wk (Ĺ ha hr hs) λσ H Q ⟨c,F,ρ,rel,h⟩=>
 ⟨c,F,ρ,rel,h.bind λp ρ1 v F1 H1 Ĕ _ _ r1 h1=>⟨c,F1,ρ1,Ĕ,h1.bind λps ρ2 vs F2 H2 ĩ sF sH r2 h2=>h2 _ F2 H2 ĩ (Same.refl _) (Same.refl _) (Ē.cons (Rep.same sF p v r1) r2)⟩⟩
def Ĥ:PA X [] (KC (kk X cm) E ĕ):=PA.wk aF λσ H Q ⟨c,F,ρ,rel,h⟩=>h [] F H rel (Same.refl _) (Same.refl _) .nil
def Ě(ha:PE X e (tR (kk X cm) E ma))(hr:PA X es (KC (kk X cm) E mr))(hs:starEach (e::es) X.env=(false,eval e X.env)::starEach es X.env:=by exact bG rfl):PA X (e::es) (KC (kk X cm) E (ă ma mr)):=PA.wk (Ĺ ha hr hs) λσ H Q ⟨c,F,ρ,rel,h⟩=>
 ⟨c,F,ρ,rel,h.bind λp ρ1 v F1 H1 Ĕ _ _ r1 h1=>⟨c,F1,ρ1,Ĕ,h1.bind λps ρ2 vs F2 H2 ĩ sF sH r2 h2=>h2 _ F2 H2 ĩ (Same.refl _) (Same.refl _) (.cons (rR.mono r1 sF sH) r2)⟩⟩
def Ĉ:M (List Slot):=λρ=>.ok [] ρ
def Ċ(ma:M PV)(mr:M (List Slot)):M (List Slot):=λρ=>(ma ρ).bind λp ρ1=>(mr ρ1).bind λas ρ2=>.ok (.sh p::as) ρ2
def cj:Slot->Option Slot
 | .sh p=>some (.sh p)
 | .ow ps=>some (.bw ps)
 | .bw ps=>some (.bw ps)
 | .bn qs rows=>some (.sh (.lst (.lst qs::rows)))
 | .dw qX=>some (.dw qX)
 |_=>none
def ā(i:Nat)(mr:M (List Slot)):M (List Slot):=λρ=>match(ρ[i]?).bind cj with
 |none=>.bad
 |some _=>(mr ρ).bind λas ρ2=>match(ρ2[i]?).bind cj with
  |some s=>.ok (s::as) ρ2
  |none=>.bad
variable{ms:M (List Slot)}
def Ď:PA X [] (tA (kk X cm) E Ĉ):=PA.wk aF λσ H Q ⟨c,F,ρ,rel,h⟩=>h [] F H rel (Same.refl _) (Same.refl _) .nil
def Đ(ha:PE X e (tV (kk X cm) E ma))(hr:PA X es (tA (kk X cm) E ms))(hs:starEach (e::es) X.env=(false,eval e X.env)::starEach es X.env:=by exact bG rfl):PA X (e::es) (tA (kk X cm) E (Ċ ma ms)):=PA.wk (Ĺ ha hr hs) λσ H Q ⟨c,F,ρ,rel,h⟩=>
 ⟨c,F,ρ,rel,h.bind λp ρ1 v F1 H1 Ĕ _ _ r1 h1=>⟨c,F1,ρ1,Ĕ,h1.bind λas ρ2 vs F2 H2 ĩ sF sH r2 h2=>h2 _ F2 H2 ĩ (Same.refl _) (Same.refl _) (.cons (show aP _ _ _ (.sh p) v from Rep.same sF p v r1) r2)⟩⟩
def Bl{K:KK}{c:Ctx}{F H:Hp}{σ:L2.St}{ρ:ķ}{i:Nat}{s:Slot}(rel:Rel K c F H σ ρ)(h:(ρ[i]?).bind cj=some s):∃v,σ[i]?=some (some v)/\aP K F H s v:=by
 cases e:ρ[i]? with
 |none=>rw[e] at h;cases h
 |some sl=>
  rw[e] at h
  have h':cj sl=some s:=h
  cases sl with
  |sh p=>
   cases h'
   obtain⟨v,h1,h2⟩:=rel.slot i _ e
   exact⟨v,at_of h1,h2⟩
  |ow ps=>
   cases h'
   obtain⟨a,vs,h1,h2,h3,h4,h5,_⟩:=rel.ow e
   exact⟨.ref a,h1,a,vs,rfl,h2,h3,h5⟩
  |bw ps=>
   cases h'
   obtain⟨a,vs,h1,h2,h3⟩:=rel.slot i _ e
   exact⟨.ref a,at_of h1,a,vs,rfl,(rel.lent a _ h2).1,(rel.lent a _ h2).2,h3⟩
  |no=>cases h'
  |rc C ns ps=>cases h'
  |ot ps qs rs=>cases h'
  |ol mX=>cases h'
  |fr mX=>cases h'
  |bn qs rows=>
   cases h'
   obtain⟨v,h1,h2⟩:=rel.slot i _ e
   exact⟨v,at_of h1,h2.rep⟩
  |dw qX=>
   cases h'
   obtain⟨a,ts,h1,h2,h3⟩:=rel.slot i _ e
   exact⟨.ref a,at_of h1,a,ts,rfl,(rel.lent a _ h2).1,(rel.lent a _ h2).2,fO h3 λt d _ ⟨xs,b,vs,k1,k2,k3,k4⟩=>⟨xs,b,vs,k1,k2,rel.lent b _ k3,k4⟩⟩
def KD(i:Nat){x:Str}{px:Pos}(hN:X.N[i]?=some x:=by rfl)(hv:Aj X.env.scope x:=by first|exact Or.inl rfl|exact Or.inr (Or.inl rfl)|exact Or.inr (Or.inr rfl))(hd:(x== ("__debug__" :Str))=false:=by decide)
 (hcd:(x== ("__classdict__" :Str))=false:=by decide)(hr:PA X es (tA (kk X cm) E ms))(hs:starEach (.Name x px::es) X.env=(false,eval (.Name x px) X.env)::starEach es X.env:=by exact bG rfl):PA X (.Name x px::es) (tA (kk X cm) E (ā i ms)):=
 PA.wk (Ĺ (dB hN hv hd hcd) hr hs) fun σ H Q ⟨c,F,ρ,rel,h⟩=>by
   unfold ā at h
   cases e:(ρ[i]?).bind cj with
   |none=>rw[e] at h;exact h.elim
   |some s0=>
    rw[e] at h
    obtain⟨v,hv,_⟩:=Bl rel e
    refine⟨v,hv,c,F,ρ,rel,ų.bind h λas ρ2 vs F2 H2 ĩ sF sH r2 h2=>?_⟩
    cases e2:(ρ2[i]?).bind cj with
    |none=>simp only[e2] at h2;exact h2.elim
    |some s=>
     simp only[e2] at h2
     obtain⟨v',hv',r1⟩:=Bl ĩ e2
     rw[hv] at hv'
     cases hv'
     exact h2 _ F2 H2 ĩ (Same.refl _) (Same.refl _) (.cons r1 r2)
def Ŀ(mr:M (List PV)):M PV:=λρ=>(mr ρ).bind λps ρ1=>if ps.length<=16777216 then .ok (.tup ps) ρ1 else .bad
def ŭ(mr:M (List PV)):M RV:=λρ=>(mr ρ).bind λps ρ1=>if ps.length<=16777216 then .ok (.ow ps) ρ1 else .bad
def ĸ:sizeLine=16777216:=sizeLine_eq
def ĵ{x1}(h:PA X es (tL (kk X cm) E mr)):PE X (.Tuple es x1 pos) (tV (kk X cm) E (Ŀ mr)):=PE.wk (yH h) λσ H Q ⟨c,F,ρ,rel,h⟩=>
 ⟨c,F,ρ,rel,h.bind fun ps ρ1 vs F1 H1 Ĕ _ _ r1 h1=>by
   split at h1
   ·rename_i hz
    refine⟨by rw[<-Ē.length r1,ĸ];exact hz,λp hp=>h1 _ _ _ (Ĕ.alloc hp) (Same.upd (Ĕ.sub.free hp)) (Same.upd hp) ?_⟩
    show Rep _ _ _ _
    unfold Rep
    exact⟨p,vs,rfl,bW.of ē,Ē.same (Same.upd (Ĕ.sub.free hp)) ps vs r1⟩
   ·exact h1.elim⟩
def cY{K:KK}{c:Ctx}{F H:Hp}{σ:L2.St}{ρ:ķ}{ps:List PV}{vs:List V}{a:Addr}(rel:Rel K c F H σ ρ)(ha:H a=none)(r:Ē K F ps vs):Rel K c F (upd H a (.lst vs)) σ ρ/\Held K c σ ρ F (upd H a (.lst vs)) ps (.ref a):=
 ⟨rel.made ha,a,vs,rfl,ē,rel.sub.free ha,rel.base.free ha,rel.fresh ha,r⟩
def Ő(h:PA X es (tL (kk X cm) E mr)):PE X (.List es pos) (tO (kk X cm) E (ŭ mr)):=PE.wk (sW h) λσ H Q ⟨c,F,ρ,rel,h⟩=>
 ⟨c,F,ρ,rel,h.bind fun ps ρ1 vs F1 H1 Ĕ _ _ r1 h1=>by
   split at h1
   ·rename_i hz
    refine⟨by rw[<-Ē.length r1,ĸ];exact hz,λp hp=>?_⟩
    obtain⟨q1,q2⟩:=cY Ĕ hp r1
    exact h1 _ _ _ q1 (Same.refl _) (Same.upd hp) q2
   ·exact h1.elim⟩
def bY(f:List PV->Option PV)(mr:M (List PV)):M PV:=λρ=>(mr ρ).bind λps ρ1=>Res.mZ (f ps) ρ1
def iR(f:List PV->Option RV)(mr:M (List PV)):M RV:=λρ=>(mr ρ).bind λps ρ1=>Res.mZ (f ps) ρ1
def bJ(K:KK)(r:List V->Hp->VK->Prop)(f:List PV->Option PV):Prop:=∀{c:Ctx} {F H:Hp} {σ:L2.St} {ρ:ķ} {ps:List PV} {pv:PV} {vs:List V} {Q:VK},Rel K c F H σ ρ->YK K c σ ρ F H ps vs->f ps=some pv->
 (∀z F' H',Rel K c F' H' σ ρ->Same F F'->Same H H'->Rep K F' pv z->Q z H')->r vs H Q
def Fv(K:KK)(r:List V->Hp->VK->Prop)(f:List PV->Option RV):Prop:=∀{c:Ctx} {F H:Hp} {σ:L2.St} {ρ:ķ} {ps:List PV} {pv:RV} {vs:List V} {Q:VK},Rel K c F H σ ρ->YK K c σ ρ F H ps vs->f ps=some pv->
 (∀z F' H',Rel K c F' H' σ ρ->Same F F'->Same H H'->rO K c σ ρ F' H' pv z->Q z H')->r vs H Q
def ZaG{r:List V->Hp->VK->Prop}{f:List PV->Option PV}(hf:bJ (kk X cm) r f){σ:L2.St}{H:Hp}{Q:VK}(h:tV (kk X cm) E (bY f mr) σ H Q):tCB r (KC (kk X cm) E mr) σ H Q:=by
 obtain⟨c,F,ρ,rel,h⟩:=h
 refine⟨c,F,ρ,rel,h.bind λp ρ1 v F1 H1 Ĕ _ _ r1 h1=>?_⟩
 cases e:f p with
 |none=>rw[e] at h1;exact h1.elim
 |some pv=>rw[e] at h1;exact hf Ĕ r1 e λz F' H' Ż s1 s2 q'=>h1 z F' H' Ż s1 s2 q'
def Zc6{r:List V->Hp->VK->Prop}{f:List PV->Option RV}(hf:Fv (kk X cm) r f){σ:L2.St}{H:Hp}{Q:VK}(h:tO (kk X cm) E (iR f mr) σ H Q):tCB r (KC (kk X cm) E mr) σ H Q:=by
 obtain⟨c,F,ρ,rel,h⟩:=h
 refine⟨c,F,ρ,rel,h.bind λp ρ1 v F1 H1 Ĕ _ _ r1 h1=>?_⟩
 cases e:f p with
 |none=>rw[e] at h1;exact h1.elim
 |some pv=>rw[e] at h1;exact hf Ĕ r1 e λz F' H' Ż s1 s2 q'=>h1 z F' H' Ż s1 s2 q'
end
end P
namespace P
open PySem PySem.Spec PyProof.Rows L2 M2 M3
def dz:M Fl:=λρ=>.ok .nx ρ
def ę(a b:M Fl):M Fl:=λρ=>(a ρ).bind λf ρ1=>match f with
 | .nx=>b ρ1
 |f=>.ok f ρ1
def ģ(i:Nat)(m:M RV):M Fl:=λρ=>(m ρ).bind λr ρ1=>.ok .nx (ρ1.set i r.slot)
def Ġ(m:M RV):M Fl:=λρ=>(m ρ).bind λr ρ1=>.ok (.rt r) ρ1
section
variable{X:Cx}{cm:String->Addr}{E:L2.St->XK}{a b e:Expr}{st:Stmt}{rest:List Stmt}{es:List Expr}{pos:Pos}{m1 m2:M Fl}{mo:M RV}{mv:M PV}
def İ:fC X [] (tS (kk X cm) E dz):=fC.wk Am λD σ H ⟨c,F,ρ,rel,h⟩=>h σ F H rel (Same.refl F)
def Ī(h:PS X st (tS (kk X cm) E m1)):fC X [st] (tS (kk X cm) E m1):=JG h
def KH{c:Ctx}{F:Hp}{D:Ends}{r:Res Fl}(h:Ş (kk X cm) E c F D (r.bind λf ρ1=>match f with| .nx=>m2 ρ1|f=>.ok f ρ1)):Ş (kk X cm) E c F {D with nx:=tS (kk X cm) E m2 D} r:=by
 cases r with
 |ok f ρ1=>
  cases f with
  |nx=>exact λσ' F' H' Ż s=>⟨c,F',ρ1,Ż,Ş.mono h s⟩
  |bk=>exact h
  |ct=>exact h
  |rt v=>exact h
 |exc x ρ1=>exact h
 |bad=>exact h
def ė(h1:PS X st (tS (kk X cm) E m1))(h2:fC X rest (tS (kk X cm) E m2)):fC X (st::rest) (tS (kk X cm) E (ę m1 m2)):=fC.wk (aO h1 h2) λD σ H ⟨c,F,ρ,rel,h⟩=>⟨c,F,ρ,rel,KH h⟩
def Rel.ZaH{K:KK}{c:Ctx}{F H:Hp}{σ:L2.St}{ρ:ķ}{i:Nat}{t:Bool}{ps qs rows:List PV}{v:V}(r:Rel K c F H σ ρ)(q:iM K c.B F t ps qs rows v):Rel K c F H (σ.set i (some v)) (ρ.set i (RV.bn t ps qs rows).slot):=by
 cases t with
 |true=>exact r.put (s:=.sh (bnV true ps qs rows)) rfl ⟨v,rfl,iM.rep q⟩
 |false=>
  have e:ps=[]:=by
   obtain⟨_,_,_,_,_,_,_,_,_,_,_,z⟩:=q
   rcases z with⟨_,z,_⟩|⟨z,_⟩
   ·exact z
   ·cases z
  subst e
  exact r.put (s:=.bn qs rows) rfl ⟨v,rfl,q⟩
def ZaI{i:Nat}{x:Str}{pos':Pos}(hN:X.N.Nodup)(hi:X.N[i]?=some x)(hx:Loc X.env.scope x)(he:PE X e (tO (kk X cm) E mo))(hs:swapsWith e (some (.Name x pos')) pos.line X.env=pure false:=by rfl)(hf:X.fn x=true\/X.env.scope.names.lookup x=some .local:=by first|exact .inl rfl|exact .inr rfl|assumption) :
 PS X (.Assign [.Name x pos'] e pos) (tS (kk X cm) E (ģ i mo)):=PS.wk (sS hN hi hx he hs hf) λD σ H ⟨c,F,ρ,rel,h⟩=>⟨c,F,ρ,rel,Ş.bind h λr ρ1 v F1 H1 Ĕ s1 q h1=>by
 cases r with
 |sh p=>exact h1 _ F1 H1 (Ĕ.put rfl ⟨v,rfl,q⟩) (Same.refl _)
 |ow ps=>
  obtain⟨a,vs,rfl,q1,q2,q3,q4,q5⟩:=q
  exact h1 _ F1 H1 (Ĕ.Fq ⟨a,vs,rfl,q1,q2,q3,q5⟩ λ_ z=>V.ref.inj z▸q4) (Same.refl _)
 |ot ps qs rs=>
  obtain⟨p,a,xs,vs,ys,rfl,q0,qx,q1,q2,q3,q4,q5,q6⟩:=q
  exact h1 _ F1 H1 (Ĕ.Fq (s:=.ot ps qs rs) ⟨p,a,xs,vs,ys,rfl,q0,qx,q1,q2,q3,q5,q6⟩ λ_ z=>mY (ps:=ps) (qs:=qs) (rs:=rs) z ⟨p,xs,ys,rfl,q0,qx.length.symm⟩▸q4) (Same.refl _)
 |bn t ps qs rows=>exact h1 _ F1 H1 (Ĕ.ZaH q) (Same.refl _)⟩
def ZaJ(he:PE X e (tO (kk X cm) E mo)):PS X (.Return (some e) pos) (tS (kk X cm) E (Ġ mo)):=PS.wk (UJ he) λD σ H ⟨c,F,ρ,rel,h⟩=>⟨c,F,ρ,rel,Ş.bind h λr ρ1 v F1 H1 Ĕ s1 q h1=>h1 v σ F1 H1 Ĕ (Same.refl _) q⟩
def Ŝ{t:M Bool}{ss ss':List Stmt}(hc:PT X a (tB (kk X cm) E t))(ha:fC X ss (tS (kk X cm) E m1))(hb:fC X ss' (tS (kk X cm) E m2)):PS X (.If a ss ss' pos) (tS (kk X cm) E (cJ t m1 m2)):=PS.wk (Mx hc ha hb) λD σ H ⟨c,F,ρ,rel,h⟩=>⟨c,F,ρ,rel,Ş.bind h λr ρ1 v F1 H1 Ĕ s1 q h1=>by
 have e:r=v:=q
 subst e
 cases r with
 |true=>exact⟨c,F1,ρ1,Ĕ,h1⟩
 |false=>exact⟨c,F1,ρ1,Ĕ,h1⟩⟩
def KJ{α:Type}:M α:= λ_=>.bad
def Bm:PS X st (tS (kk X cm) E KJ):=PS.wk DK λD σ H ⟨c,F,ρ,rel,h⟩=>h
abbrev Tg:=PV->ķ->Option ķ
abbrev Dw:=List PV->ķ->Option ķ
def Wj(K:KK)(c:Ctx)(F H:Hp)(Q:L2.St->Hp->Prop):Option ķ->Prop
 |some ρ'=>∀σ',Rel K c F H σ' ρ'->Q σ' H
 |none=>False
def tT(K:KK)(g:Tg):TG:=λv σ H Q=>∃c F ρ p,Rel K c F H σ ρ/\Rep K F p v/\Wj K c F H Q (g p ρ)
def tTs(K:KK)(g:Dw):DN:=λv σ H Q=>∃c F ρ p,Rel K c F H σ ρ/\Ē K F p v/\Wj K c F H Q (g p ρ)
def gN(i:Nat):Tg:=λp ρ=>some (ρ.set i (.sh p))
def ŷ:Dw:=λps ρ=>match ps with
 | []=>some ρ
 |_=>none
def ġ(g:Tg)(gs:Dw):Dw:=λps ρ=>match ps with
 |p::ps=>(g p ρ).bind λρ1=>gs ps ρ1
 | []=>none
def gT(n:Nat)(gs:Dw):Tg:=λp ρ=>match p with
 | .tup ps=>if ps.length=n then gs ps ρ else none
 |_=>none
def PG.wk'{tg:Expr}{t t':TG}(h:PG X tg t)(i:∀v σ H Q,t' v σ H Q->t v σ H Q):PG X tg t':=λpins s σ H v u Q I r q=>h pins s σ H v u Q I r (i v σ H Q q)
def xV.wk{tg:List Expr}{t t':DN}(h:xV X tg t)(i:∀v σ H Q,t' v σ H Q->t v σ H Q):xV X tg t':=λpins s σ H v u Q I r q=>h pins s σ H v u Q I r (i v σ H Q q)
def Fw{i:Nat}{x:Str}(hN:X.N.Nodup)(hi:X.N[i]?=some x)(hx:Loc X.env.scope x)(hf:X.fn x=true\/X.env.scope.names.lookup x=some .local:=by first|exact .inl rfl|exact .inr rfl|assumption):PG X (.Name x pos) (tT (kk X cm) (gN i)):=
 PG.wk' (mQ hN hi hx hf) λv σ H Q ⟨c,F,ρ,p,rel,rp,h⟩=>h _ (rel.put rfl ⟨v,rfl,rp⟩)
def iT:xV X [] (tTs (kk X cm) ŷ):=xV.wk Ao λv σ H Q ⟨c,F,ρ,p,rel,rp,h⟩=>by
 cases p with
 |nil=>
  have e:v=[]:=by have:=rp;unfold Ē at this;exact this
  exact⟨e,h σ rel⟩
 |cons _ _=>exact h.elim
def Œ{es:List Expr}{g:Tg}{gs:Dw}(h1:PG X e (tT (kk X cm) g))(h2:xV X es (tTs (kk X cm) gs))(hs:(assignEach (e::es) X.env).map (·.2)=assign e X.env::(assignEach es X.env).map (·.2):=by rfl):xV X (e::es) (tTs (kk X cm) (ġ g gs)):=
 xV.wk (je h1 h2 hs) λv σ H Q ⟨c,F,ρ,p,rel,rp,h⟩=>by
  cases p with
  |nil=>exact h.elim
  |cons p ps=>
   unfold Ē at rp
   obtain⟨x,r,rfl,r1,r2⟩:=rp
   refine⟨x,r,rfl,c,F,ρ,p,rel,r1,?_⟩
   unfold ġ at h
   dsimp only at h
   cases eg:g p ρ with
   |none=>rw[eg] at h;exact h.elim
   |some ρ1=>rw[eg] at h;exact λσ' Ż=>⟨c,F,ρ1,ps,Ż,r2,h⟩
def Bo{es:List Expr}{k:Nat}{gs:Dw}{n:Nat}(hc:X.calm=true)(h:xV X es (tTs (kk X cm) gs))(hn:(assignEach es X.env).length=n:=by rfl)(hst:(assignEach es X.env).findIdx? (·.1)=none:=by rfl):PG X (.Tuple es k pos) (tT (kk X cm) (gT n gs)):=
 PG.wk' (yg hc h hn hst) fun v σ H Q ⟨c,F,ρ,p,rel,rp,h⟩=>by
   cases p with
   |tup ps=>
    unfold Rep at rp
    obtain⟨a,xs,h1,h2,h3⟩:=rp
    unfold gT at h
    dsimp only at h
    split at h
    ·rename_i hl
     exact⟨a,xs,h1,Same.tup rel.sub h2,by rw[<-h3.length];exact hl,c,F,ρ,ps,rel,h3,h⟩
    ·exact h.elim
   |_=>exact h.elim
def CK(g:Tg)(m:M PV):M Fl:=λρ=>(m ρ).bind λp ρ1=>match g p ρ1 with
 |some ρ2=>.ok .nx ρ2
 |none=>.bad
def Fx{tg:Expr}{g:Tg}(he:PE X e (tV (kk X cm) E mv))(hg:PG X tg (tT (kk X cm) g))(hs:swapsWithSole [tg] e pos.line X.env=pure false:=by rfl)(hw:swappedStores [tg] e X.env=pure none:=by rfl)
 (h1:(assignEach [tg] X.env).map (·.2)=[assign tg X.env]:=by rfl):PS X (.Assign [tg] e pos) (tS (kk X cm) E (CK g mv)):=PS.wk (DQ he hg hs hw h1) λD σ H ⟨c,F,ρ,rel,h⟩=>⟨c,F,ρ,rel,Ş.bind h λr ρ1 v F1 H1 Ĕ s1 q h1=>by
 refine⟨c,F1,ρ1,r,Ĕ,q,?_⟩
 cases eg:g r ρ1 with
 |none=>rw[eg] at h1;exact h1.elim
 |some ρ2=>rw[eg] at h1;exact λσ' Ż=>h1 σ' F1 H1 Ż (Same.refl _)⟩
def yR(i:Nat)(mi:M PV)(m:M PV):M Fl:=λρ=>(m ρ).bind λp ρ1=>match ρ1[i]? with
 |some (.ow _)=>(mi ρ1).bind λq ρ2=>match ρ2[i]?,q with
  |some (.ow ps),.int k=>match xW ps.length k with
   |some j=>.ok .nx (ρ2.set i (.ow (ps.set j p)))
   |none=>.bad
  |_,_=>.bad
 |_=>.bad
def KN{i:Nat}{x:Str}{ix:Expr}{mi:M PV}{px yS:Pos}(he:PE X e (tV (kk X cm) E mv))(hi:PE X ix (tV (kk X cm) E mi))(ho:PE X (.Name x px) (eZ i))
 (hsub:∀v,assign (.Subscript (.Name x px) ix yS) X.env v=(do
   let ov <-holding [v] (eval (.Name x px) X.env)
   let iv <-holding [v,ov] (eval ix X.env)
   standAt yS
   holding [v,ov,iv] (setItem ov iv v)
   release [v,ov,iv] []):=by intro _;rfl)
 (hs:swapsWithSole [.Subscript (.Name x px) ix yS] e pos.line X.env=pure false:=by rfl)(hw:swappedStores [.Subscript (.Name x px) ix yS] e X.env=pure none:=by rfl)
 (h1:(assignEach [.Subscript (.Name x px) ix yS] X.env).map (·.2)=[assign (.Subscript (.Name x px) ix yS) X.env]:=by rfl) :
 PS X (.Assign [.Subscript (.Name x px) ix yS] e pos) (tS (kk X cm) E (yR i mi mv)):=PS.wk (DQ he (U_ ho hi set_list hsub) hs hw h1) λD σ H ⟨c,F,ρ,rel,h⟩=>⟨c,F,ρ,rel,Ş.bind h λp ρ1 v F1 H1 Ĕ s1 q h1=>by
 cases e1:ρ1[i]? with
 |none=>rw[e1] at h1;exact h1.elim
 |some sl=>
  rw[e1] at h1
  cases sl with
  |ow ps0=>
   obtain⟨a,vs0,z1,_,_,_,_,_⟩:=Ĕ.ow e1
   refine⟨.ref a,z1,c,F1,ρ1,Ĕ,Ş.bind h1 λq' ρ2 u F2 H2 ĩ s2 r2 h2=>?_⟩
   cases e2:ρ2[i]? with
   |none=>rw[e2] at h2;exact h2.elim
   |some sl2=>
    rw[e2] at h2
    cases sl2 with
    |ow ps=>
     cases q' with
     |int k=>
      have eu:u=.int k:=by have:Rep (kk X cm) F2 (.int k) u:=r2;unfold Rep at this;exact this
      subst eu
      dsimp only at h2
      obtain⟨a2,vs,w1,w2,w3,w4,w5,w6⟩:=ĩ.ow e2
      rw[z1] at w1
      cases w1
      cases ej:xW ps.length k with
      |none=>rw[ej] at h2;exact h2.elim
      |some j=>
       rw[ej] at h2
       refine⟨a,vs,k,j,rfl,rfl,w2,by rw[<-w5.length];exact ej,h2 σ F2 _ (ĩ.write w6 z1 ⟨a,vs.set j v,rfl,ē,w3,w4,?_⟩ λ_ z=>(V.ref.inj z).symm) (Same.refl _)⟩
       exact Ē.of (Fi (Rep.same s2 p v q) j w5.pr)
     |_=>exact h2.elim
    |_=>exact h2.elim
  |_=>exact h1.elim⟩
def yU(i:Nat)(m:M PV):M Fl:=λρ=>match ρ[i]? with
 |some (.ow _)=>(m ρ).bind λp ρ1=>match ρ1[i]? with
  |some (.ow ps)=>if ps.length<16777216 then .ok .nx (ρ1.set i (.ow (ps ++ [p]))) else .bad
  |_=>.bad
 |_=>.bad
def m_{i:Nat}{D:Ends}{σ:L2.St}{H:Hp}(h:tS (kk X cm) E (yU i mv) D σ H):qL (tBM X.K "list" Aw (eZ i) (tL (kk X cm) E (ă mv ĕ))) D σ H:=by
 obtain⟨c,F,ρ,rel,h⟩:=h
 unfold yU at h
 cases e1:ρ[i]? with
 |none=>rw[e1] at h;exact h.elim
 |some sl=>
  rw[e1] at h
  cases sl with
  |ow ps0=>
   obtain⟨a,vs0,z1,z2,z3,z4,z5,z6⟩:=rel.ow e1
   refine⟨.ref a,z1,.inl ⟨rfl,_,Ř.of z2⟩,c,F,ρ,rel,?_⟩
   dsimp only at h
   unfold ă
   cases em:mv ρ with
   |bad=>rw[em] at h;exact h
   |exc x ρ1=>rw[em] at h;exact λC d F' H' Ż s1 q=>h σ C d F' H' Ż s1 q
   |ok p ρ1=>
    rw[em] at h
    intro us F1 H1 Ĕ s1 s2 r1
    have r1':Ē (kk X cm) F1 [p] us:=r1
    cases r1'.pr with
    |cons rp t=>
     rename_i v vs'
     cases t
     cases e2:ρ1[i]? with
     |none=>simp only[Res.Ű,e2] at h;exact h.elim
     |some sl2=>
      simp only[Res.Ű,e2] at h
      cases sl2 with
      |ow ps=>
       obtain⟨a2,vs,w1,w2,w3,w4,w5,w6⟩:=Ĕ.ow e2
       rw[z1] at w1
       cases w1
       dsimp only at h
       split at h
       ·rename_i hz
        refine⟨a,vs,v,rfl,rfl,w2,by rw[<-w5.length,ĸ];exact hz,h σ F1 _ (Ĕ.write w6 z1 ⟨a,vs ++ [v],rfl,ē,w3,w4,Ē.append w5 (Ē.cons rp Ē.nil)⟩ λ_ z=>(V.ref.inj z).symm) s1⟩
       ·exact h.elim
      |_=>exact h.elim
  |_=>exact h.elim
def Į(mc:M Bool)(mb:M Fl):Nat->ķ->Res Fl
 |0,_=>.bad
 |n+1,ρ=>(mc ρ).bind λb ρ1=>if b=true then(mb ρ1).bind λf ρ2=>match f with
  | .nx=>Į mc mb n ρ2
  | .ct=>Į mc mb n ρ2
  | .bk=>.ok .nx ρ2
  | .rt r=>.ok (.rt r) ρ2 else .ok .nx ρ1
theorem ş{mc:M Bool}{mb:M Fl}(n:Nat)(ρ:ķ):Į mc mb (n+1) ρ=(mc ρ).bind λb ρ1=>if b=true then(mb ρ1).bind λf ρ2=>match f with
 | .nx=>Į mc mb n ρ2
 | .ct=>Į mc mb n ρ2
 | .bk=>.ok .nx ρ2
 | .rt r=>.ok (.rt r) ρ2 else .ok .nx ρ1:=rfl
open Classical in
noncomputable def Š(mc:M Bool)(mb:M Fl):M Fl:=λρ=>if h:∃n,Į mc mb n ρ≠ .bad then Į mc mb (Classical.choose h) ρ else .bad
theorem fW{mc:M Bool}{mb:M Fl}:∀(n:Nat) (ρ:ķ),Į mc mb n ρ≠ .bad->Į mc mb (n+1) ρ=Į mc mb n ρ
 |0,ρ,h=>absurd rfl h
 |n+1,ρ,h=>by
  rw[ş] at h
  rw[ş (n+1),ş n]
  cases e:mc ρ with
  |bad=>rfl
  |exc x ρ1=>rfl
  |ok b ρ1=>
   rw[e] at h
   simp only[Res.Ű] at h ⊢
   cases b with
   |false=>rfl
   |true=>
    simp only[if_true] at h ⊢
    cases e2:mb ρ1 with
    |bad=>rfl
    |exc x ρ2=>rfl
    |ok f ρ2=>
     rw[e2] at h
     simp only[Res.Ű] at h ⊢
     cases f with
     |nx=>exact fW n ρ2 h
     |ct=>exact fW n ρ2 h
     |bk=>rfl
     |rt r=>rfl
def qY{mc:M Bool}{mb:M Fl}{n m:Nat}{ρ:ķ}(h:Į mc mb n ρ≠ .bad)(hm:n<=m):Į mc mb m ρ=Į mc mb n ρ:= by
 induction hm with
 |refl=>rfl
 |step _ ih=>rw[fW _ _ (by rw[ih];exact h),ih]
def Ť{mc:M Bool}{mb:M Fl}{ρ:ķ}(n:Nat)(h:Į mc mb n ρ≠ .bad):Š mc mb ρ=Į mc mb n ρ:= by
 unfold Š
 have hx:∃n,Į mc mb n ρ≠ .bad:=⟨n,h⟩
 rw[dif_pos hx]
 have hc:=Classical.choose_spec hx
 rcases Nat.le_total n (Classical.choose hx) with hle|hle
 ·exact qY h hle
 ·exact(qY hc hle).symm
theorem fX{mc:M Bool}{mb:M Fl}{ρ:ķ}:Š mc mb ρ=(mc ρ).bind λb ρ1=>if b=true then(mb ρ1).bind λf ρ2=>match f with
 | .nx=>Š mc mb ρ2
 | .ct=>Š mc mb ρ2
 | .bk=>.ok .nx ρ2
 | .rt r=>.ok (.rt r) ρ2 else .ok .nx ρ1:=by
 have go:∀ρ2,Š mc mb ρ2=.bad\/∃n,Š mc mb ρ2=Į mc mb n ρ2/\Į mc mb n ρ2≠ .bad:=λρ2=>by
  by_cases hx:∃n,Į mc mb n ρ2≠ .bad
  ·obtain⟨n,h⟩:=hx
   exact .inr ⟨n,Ť n h,h⟩
  ·left;unfold Š;rw[dif_neg hx]
 have Zc7:∀ρ2,Š mc mb ρ2=.bad->∀n,Į mc mb n ρ2=.bad:=λρ2 h n=>by
  refine Classical.byContradiction λz=>?_
  rw[Ť n z] at h
  exact z h
 have fin:∀n,Į mc mb (n+1) ρ≠ .bad->Š mc mb ρ=Į mc mb (n+1) ρ:= λn h=>Ť _ h
 cases e:mc ρ with
 |bad=>rcases go ρ with h|⟨n,h1,h2⟩
       ·rw[h];rfl
       ·cases n with
        |zero=>exact absurd rfl h2
        |succ n=>rw[ş,e] at h2;exact absurd rfl h2
 |exc x ρ1=>
  have h:Į mc mb 1 ρ=.exc x ρ1:=by rw[ş,e];rfl
  rw[Ť 1 (by rw[h];intro z;cases z),h];rfl
 |ok b ρ1=>
  simp only[Res.Ű]
  cases b with
  |false=>
   have h:Į mc mb 1 ρ=.ok .nx ρ1:=by rw[ş,e];rfl
   rw[Ť 1 (by rw[h];intro z;cases z),h];rfl
  |true=>
   simp only[if_true]
   have one:∀n,Į mc mb (n+1) ρ=(mb ρ1).bind λf ρ2=>match f with
    | .nx=>Į mc mb n ρ2
    | .ct=>Į mc mb n ρ2
    | .bk=>.ok .nx ρ2
    | .rt r=>.ok (.rt r) ρ2:=λn=>by rw[ş,e];rfl
   cases e2:mb ρ1 with
   |bad=>
    rcases go ρ with h|⟨n,h1,h2⟩
    ·rw[h];rfl
    ·cases n with
     |zero=>exact absurd rfl h2
     |succ n=>rw[one,e2] at h2;exact absurd rfl h2
   |exc x ρ2=>
    have h:Į mc mb 1 ρ=.exc x ρ2:=by rw[one,e2];rfl
    rw[Ť 1 (by rw[h];intro z;cases z),h];rfl
   |ok f ρ2=>
    have turn:(∀n,Į mc mb (n+1) ρ=Į mc mb n ρ2)->Š mc mb ρ=Š mc mb ρ2:=λhn=>by
     rcases go ρ2 with h|⟨n,h1,h2⟩
     ·rcases go ρ with h'|⟨n,h1,h2⟩
      ·rw[h,h']
      ·cases n with
       |zero=>exact absurd rfl h2
       |succ n=>rw[hn,Zc7 ρ2 h n] at h2;exact absurd rfl h2
     ·rw[h1,<-hn n]
      exact fin n (by rw[hn n];exact h2)
    cases f with
    |nx=>exact turn λn=>by rw[one,e2];rfl
    |ct=>exact turn λn=>by rw[one,e2];rfl
    |bk=>
     have h:Į mc mb 1 ρ=.ok .nx ρ2:=by rw[one,e2];rfl
     rw[Ť 1 (by rw[h];intro z;cases z),h];rfl
    |rt r=>
     have h:Į mc mb 1 ρ=.ok (.rt r) ρ2:=by rw[one,e2];rfl
     rw[Ť 1 (by rw[h];intro z;cases z),h];rfl
def KQ{c:Expr}{body:List Stmt}{mc:M Bool}{mb:M Fl}(hp:PassesOwn (model X.prog X.w) X.A X.env X.xe)(hc:PT X c (tB (kk X cm) E mc))(hb:fC X body (tS (kk X cm) E mb)):PS X (.While c body [] pos) (tS (kk X cm) E (Š mc mb)):=PS.wk (DR hp hc hb) λD σ H ⟨c,F,ρ,rel,h⟩=>by
 obtain⟨n,hn⟩:∃n,Ş (kk X cm) E c F D (Į mc mb n ρ):=by
  by_cases hx:∃n,Į mc mb n ρ≠ .bad
  ·obtain⟨n,hn⟩:=hx
   rw[Ť n hn] at h
   exact⟨n,h⟩
  ·unfold Š at h
   rw[dif_neg hx] at h
   exact h.elim
 refine⟨λm σ' H'=>∃F2 ρ2,Rel (kk X cm) c F2 H' σ' ρ2/\Same F F2/\Ş (kk X cm) E c F2 D (Į mc mb m ρ2),⟨n,F,ρ,rel,Same.refl _,hn⟩,?_⟩
 rintro m σ1 H1 ⟨F1,ρ1,Ĕ,s1,h1⟩
 cases m with
 |zero=>exact h1.elim
 |succ m=>
  rw[ş] at h1
  refine⟨c,F1,ρ1,Ĕ,Ş.bind h1 λk ρ2 v F2 H2 ĩ s2 q h2=>?_⟩
  have e:k=v:=q
  subst e
  cases k with
  |false=>
   rw[if_neg Bool.false_ne_true]
   rw[if_neg Bool.false_ne_true] at h2
   exact h2 σ1 F2 H2 ĩ (Same.refl _)
  |true=>
   rw[if_pos rfl]
   rw[if_pos rfl] at h2
   refine⟨_,λσ' H' z=>z,c,F2,ρ2,ĩ,?_⟩
   have nxt:∀{ρ3:ķ},Ş (kk X cm) E c F2 D (Į mc mb m ρ3)->∀σ' F' H',Rel (kk X cm) c F' H' σ' ρ3->Same F2 F'->∃m',m'<m+1/\∃F2 ρ2,Rel (kk X cm) c F2 H' σ' ρ2/\Same F F2/\Ş (kk X cm) E c F2 D (Į mc mb m' ρ2):=
    fun{ρ3} h3 σ' F' H' Ż s'=>⟨m,Nat.lt_succ_self m,F',ρ3,Ż,(s1.trans s2).trans s',Ş.mono h3 s'⟩
   cases e2:mb ρ2 with
   |bad=>rw[e2] at h2;exact h2
   |exc x ρ3=>rw[e2] at h2;exact h2
   |ok f ρ3=>
    rw[e2] at h2
    cases f with
    |nx=>exact nxt h2
    |ct=>exact nxt h2
    |bk=>exact h2
    |rt r=>exact h2
def fY(K:KK)(Lh F:Hp)(J:It)(items:List PV):Prop:=∀(c:Ctx) (i:Nat) (F2 H:Hp) (σ:L2.St) (ρ:ķ),Rel K c F2 H σ ρ->Same F F2->Same Lh H->
 (∀p,items[i]?=some p->J.go i H/\∀x H',J.yld i H x H'->∃F3,Rel K c F3 H' σ ρ/\Same F2 F3/\Same H H'/\Rep K F3 p x)/\(i=items.length->J.stop i H)
def rIt(K:KK):RR (List PV) It:=λc _ _ F _ items J=>fY K c.L F J items
abbrev tI(K:KK)(E:L2.St->XK)(m:M (List PV)):TI:=tG K E (rIt K) m
def forL(g:Tg)(mb:M Fl):List PV->M Fl
 | [],ρ=>.ok .nx ρ
 |p::ps,ρ=>match g p ρ with
  |none=>.bad
  |some ρ1=>(mb ρ1).bind λf ρ2=>match f with
   | .nx=>forL g mb ps ρ2
   | .ct=>forL g mb ps ρ2
   | .bk=>.ok .nx ρ2
   | .rt r=>.ok (.rt r) ρ2
def fu(mi:M (List PV))(g:Tg)(mb:M Fl):M Fl:=λρ=>(mi ρ).bind λitems ρ1=>forL g mb items ρ1
def aZ{iter tg:Expr}{body:List Stmt}{mi:M (List PV)}{g:Tg}{mb:M Fl}(hp:PassesOwn (model X.prog X.w) X.A X.env X.xe)(hc:X.calm=true)(hi:PI X tg iter (tI (kk X cm) E mi))(hg:PG X tg (tT (kk X cm) g))(hb:fC X body (tS (kk X cm) E mb))
 (hs:∀x,foldedSetIterable iter X.env x=pure x:=by intro _;rfl):PS X (.For tg iter body [] pos) (tS (kk X cm) E (fu mi g mb)):=PS.wk (Vc hp hc hi hg hb hs) λD σ H ⟨c,F,ρ,rel,h⟩=>⟨c,F,ρ,rel,Ş.bind h λitems ρ1 J F1 H1 Ĕ s1 ito h1=>by
 refine⟨λi m σ' H'=>∃F2 ρ2,i<=items.length/\m=items.length-i/\Rel (kk X cm) c F2 H' σ' ρ2/\Same F1 F2/\Ş (kk X cm) E c F2 D (forL g mb (items.drop i) ρ2),⟨_,F1,ρ1,Nat.zero_le _,rfl,Ĕ,Same.refl _,h1⟩,?_⟩
 rintro i m σ2 H2 ⟨F2,ρ2,hle,rfl,ĩ,s2,h2⟩
 obtain⟨go,stop⟩:=ito c i F2 H2 σ2 ρ2 ĩ s2 λb u e=>(ĩ.lent b u e).1
 by_cases hlt:i<items.length
 ·obtain⟨g1,g2⟩:=go items[i] (List.getElem?_eq_getElem hlt)
  rw[List.drop_eq_getElem_cons hlt] at h2
  unfold forL at h2
  refine .inr ⟨g1,_,λσ' H' z=>z,λx H3 hy=>?_⟩
  obtain⟨F3,nU,s3,_,rp⟩:=g2 x H3 hy
  refine⟨c,F3,ρ2,items[i],nU,rp,?_⟩
  cases eg:g items[i] ρ2 with
  |none=>rw[eg] at h2;exact h2.elim
  |some ρ3=>
   rw[eg] at h2
   dsimp only at h2
   intro σ4 qu
   refine⟨c,F3,ρ3,qu,?_⟩
   have nxt:∀{ρ4:ķ},Ş (kk X cm) E c F2 D (forL g mb (items.drop (i+1)) ρ4)->∀σ' F' H',Rel (kk X cm) c F' H' σ' ρ4->Same F3 F'->∃m',m'<items.length-i/\∃F2 ρ2,i+1<=items.length/\m'=items.length-(i+1)/\Rel (kk X cm) c F2 H' σ' ρ2/\Same F1 F2/\Ş (kk X cm) E c F2 D (forL g mb (items.drop (i+1)) ρ2):=
    fun{ρ4} h3 σ' F' H' Ż s'=>⟨items.length-(i+1),by omega,F',ρ4,hlt,rfl,Ż,(s2.trans s3).trans s',Ş.mono h3 (s3.trans s')⟩
   have h2':=Ş.mono h2 s3
   cases e2:mb ρ3 with
   |bad=>rw[e2] at h2;exact h2
   |exc x ρ4=>rw[e2] at h2';exact h2'
   |ok f ρ4=>
    rw[e2] at h2 h2'
    cases f with
    |nx=>exact nxt h2
    |ct=>exact nxt h2
    |bk=>exact h2'
    |rt r=>exact h2'
 ·have e:i=items.length:=by omega
  refine .inl ⟨stop e,?_⟩
  rw[List.drop_eq_nil_of_le (by omega)] at h2
  unfold forL at h2
  exact h2 σ2 F2 H2 ĩ (Same.refl _)⟩
end
end P
namespace P
open PySem PySem.Spec PyProof.Rows L2 M2 M3
inductive FR where
 |ret (r:RV)|exc (x:PX)|bad
abbrev MF:=List Slot->FR
def FR.of:Res Fl->FR
 | .ok (.rt r) _=>.ret r
 | .ok .nx _=>.ret (.sh .non)
 | .exc x _=>.exc x
 |_=>.bad
def Ĳ(n k:Nat)(mb:M Fl):MF:=λas=>if as.length=n then FR.of (mb (startP k as)) else .bad
def rF(K:KK)(H F' H':Hp):RV->V->Prop
 | .sh p,v=>Rep K F' p v
 | .ow ps,v=>∃a vs,v=.ref a/\H' a=some (.lst vs)/\F' a=none/\H a=none/\Ē K F' ps vs
 | .ot ps qs rs,v=>∃p a xs vs ys,v=.ref p/\F' p=some (.tup (xs ++ .ref a::ys))/\Ē K F' ps xs/\H' a=some (.lst vs)/\F' a=none/\H a=none/\Ē K F' qs vs/\Ē K F' rs ys
 | .bn t ps qs rows,v=>iM K H F' t ps qs rows v
def Zc8(K:KK)(E:XK)(F H:Hp)(Q:VK):FR->Prop
 | .ret r=>∀v F' H',Gr F H F' H'->rF K H F' H' r v->Q v H'
 | .exc x=>∀C d F' H',Gr F H F' H'->Kz K F' x C d->E C d H'
 | .bad=>False
def š(K:KK)(n:Nat)(mf:MF):Sp:=λvs H Q E=>∃F as,as.length=n/\Same F H/\Paired (aP K F H) as vs/\Zc8 K E F H Q (mf as)
def cu(CX:jf)(X:Cx)(E:L2.St->XK):Prop:=∀(pins:List (Addr×Obj)) (σ:L2.St) (H:Hp) (s:Shared) (e:Value) (s':Shared),Inv X pins σ H s->CX X.stack H s (E σ) e s'->X.xe e s'
def Č{X:Cx}{E:L2.St->XK}:cu Ŧ X E:=λ_ _ _ _ _ _ _ h=>h.elim
section
variable{P:Program}{w:World}{K:PySem.W.Frag}{cm:String->Addr}{mg:Str->Option Value}{base:Heap}{CX:jf}
def fnP{x qual:Str}{st:Stmt}{f:Addr}{fd:FuncData}{N ps:List Str}{k:Nat}{mb:M Fl}(F:Kg K x qual st f fd)(S:đ N ps (ć st))
 (hbody:∀(cdv:Value) (A:Around) (outer:List Env) (s:Shared) (H:Hp) (E:XK),Ŭ k (A.deeper (envOfC qual (ć st) s.heap.objs.size f cdv))→
   fC (sX CX P w K mg base N qual (ć st) f cdv A outer s H E) (Ś st) (tS ⟨K,cm⟩ (λ_=>E) mb)):ĥ P w K mg base CX (k+1) f fd ps (š ⟨K,cm⟩ ps.length (Ĳ ps.length N.length mb)):=by
 obtain⟨oc,od,kV,doc,pm,an,cdv,ct,osl,rfl,lk,hcd⟩:=F.ex
 refine MN lk hcd S (λvs H Q E ⟨F,ps',h1,_,h2,_⟩=>by rw[<-Paired.length h2];exact h1) λA outer s H vs Q E hr hsp=>?_
 obtain⟨F,ps',h1,h2,h3,h4⟩:=hsp
 refine⟨_,hbody cdv A outer s H E hr,ctx0 F H,F,startP N.length ps',Rel.start h2 h3,?_⟩
 unfold Ĳ at h4
 rw[if_pos h1] at h4
 cases e:mb (startP N.length ps') with
 |bad=>rw[e] at h4;exact h4
 |exc x ρ'=>rw[e] at h4;exact λσ' C d F' H' rel s1 q=>h4 C d F' H' rel.gr q
 |ok fl ρ'=>
  rw[e] at h4
  cases fl with
  |nx=>exact λσ' F' H' rel s1=>h4 .non F' H' rel.gr (Rep.non (K:=⟨K,cm⟩) (F:=F'))
  |bk=>exact h4.elim
  |ct=>exact h4.elim
  |rt r=>
   intro v σ' F' H' rel s1 q
   refine h4 v F' H' rel.gr ?_
   cases r with
   |sh p=>exact q
   |ow qs=>
    obtain⟨a,vs',e1,e2,e3,e4,_,e5⟩:=q
    exact⟨a,vs',e1,e2,e3,e4,e5⟩
   |ot qs ts rs=>
    obtain⟨p,a,xs,vs',ys,e1,e0,ex,e2,e3,e4,_,e5⟩:=q
    exact⟨p,a,xs,vs',ys,e1,e0,ex,e2,e3,e4,e5⟩
   |bn t ps qs rows=>exact q
def fnQ{x qual:Str}{st:Stmt}{f:Addr}{fd:FuncData}{N ps:List Str}{k n j:Nat}{mb:M Fl}{mf:MF}(F:Kg K x qual st f fd)(S:đ N ps (ć st))(hn:ps.length=n)(hj:N.length=j)(hf:mf=Ĳ n j mb)
 (hbody:∀(cdv:Value) (A:Around) (outer:List Env) (s:Shared) (H:Hp) (E:XK),Ŭ k (A.deeper (envOfC qual (ć st) s.heap.objs.size f cdv))→
   fC (sX CX P w K mg base N qual (ć st) f cdv A outer s H E) (Ś st) (tS ⟨K,cm⟩ (λ_=>E) mb)):ĥ P w K mg base CX (k+1) f fd ps (š ⟨K,cm⟩ n mf):=by
 subst hn hj hf
 exact fnP F S hbody
end
def ċ(mf:MF)(mr:M (List Slot)):M RV:=λρ=>(mr ρ).bind λps ρ1=>match mf ps with
 | .ret r=>.ok r ρ1
 | .exc x=>.exc x ρ1
 | .bad=>.bad
section
variable{X:Cx}{cm:String->Addr}{E:L2.St->XK}{CX:jf}{k n:Nat}{f:Addr}{fd:FuncData}{ps:List Str}{mf:MF}{mr:M (List Slot)}{x:Str}{p pos:Pos}{e:Expr}{es:List Expr}
def Bp{sp:Sp}{pins:List (Addr×Obj)}{σ:L2.St}{H:Hp}{s:Shared}{Q:VK}{us:List Value}{vs:List V}(F:ĥ X.prog X.w X.K X.mg X.base CX k f fd ps sp)(hr:Ŭ k X.A)(hb:Binds X.K fd ps [])(hx:cu CX X E)
 (I:Inv X pins σ H s)(r:Vals vs us)(h:sp vs H Q (E σ)):wpAny (model X.prog X.w) X.A (call (.ref f) us) (EP X pins σ Q) X.xe s:=by
 have hl:(us ++ []).length=ps.length:=by rw[List.append_nil,<-r.length];exact F.len _ _ _ _ h
 have hbd:=hb s us I.jM hl
 rw[List.append_nil] at hbd
 refine wpAny_call (codeAny_mono (F.run X.A X.stack s H ⟨us,[]⟩ us vs Q (E σ) hr I.env0 hbd r h) λr s' hq=>?_)
 cases r with
 |error e=>exact hx pins σ H s e s' I hq
 |ok fl=>
  cases fl with
  |ret u=>exact I.after hq
  |next=>exact False.elim hq
  |brk=>exact False.elim hq
  |cont=>exact False.elim hq
def wg{c:Ctx}{F1 H1:Hp}{σ:L2.St}{ρ1:ķ}{Q:VK}{ps:List Slot}{vs:List V}(hlen:(∃r,mf ps=r/\∀z,r=z->z≠ .bad)->ps.length=n)(Ĕ:Rel (kk X cm) c F1 H1 σ ρ1)(r1:Paired (aP (kk X cm) F1 H1) ps vs)
 (h:ų (kk X cm) E (rO (kk X cm)) c F1 H1 σ Q (match mf ps with| .ret r=>.ok r ρ1| .exc x=>.exc x ρ1| .bad=>.bad)):š (kk X cm) n mf vs H1 Q (E σ):=by
 refine⟨F1,ps,?_,Ĕ.sub,r1,?_⟩
 ·refine hlen ⟨_,rfl,λz hz hb=>?_⟩
  rw[hz,hb] at h
  exact h
 ·cases em:mf ps with
  |bad=>rw[em] at h;exact h
  |exc x=>rw[em] at h;exact λC d F' H' g rx=>h C d F' H' (Ĕ.call g) g.f rx
  |ret r=>
   rw[em] at h
   intro v F' H' g rf
   refine h v F' H' (Ĕ.call g) g.f g.h ?_
   cases r with
   |sh p=>exact rf
   |ow qs=>
    obtain⟨a,vs',e1,e2,e3,e4,e5⟩:=rf
    exact⟨a,vs',e1,e2,e3,Ĕ.base.free e4,Ĕ.dJ g.f (Ĕ.fresh e4),e5⟩
   |ot qs ts rs=>
    obtain⟨p,a,xs,vs',ys,e1,e0,ex,e2,e3,e4,e5⟩:=rf
    exact⟨p,a,xs,vs',ys,e1,e0,ex,e2,e3,Ĕ.base.free e4,Ĕ.dJ g.f (Ĕ.fresh e4),e5⟩
   |bn t ps qs rows=>exact iM.base rf Ĕ.base
def ľ{n k:Nat}{mb:M Fl}{ps:List Slot}(h:∃r,Ĳ n k mb ps=r/\∀z,r=z->z≠ .bad):ps.length=n:=by
 obtain⟨r,h1,h2⟩:=h
 unfold Ĳ at h1
 by_cases hl:ps.length=n
 ·exact hl
 ·rw[if_neg hl] at h1
  exact absurd h1.symm (λz=>h2 .bad (by rw[<-h1]) rfl)
def Wk(F:ĥ X.prog X.w X.K X.mg X.base CX k f fd ps (š (kk X cm) n mf))(hlen:∀{ps:List Slot},(∃r,mf ps=r/\∀z,r=z->z≠ .bad)->ps.length=n)(hr:Ŭ k X.A)(hg:Gl X x)(hm:X.mg x=some (.ref f))(hk:PySem.W.keepIn X.K (.ref f)=true)(hb:Binds X.K fd ps [])(hx:cu CX X E)
 (ha:PA X (e::es) (tA (kk X cm) E mr))(hdb:(x== ("__debug__" :Str))=false:=by decide)(he:starEach (e::es) X.env=(false,eval e X.env)::starEach es X.env:=by exact bG rfl)(hpl:(backTo pos (starEach es X.env)).any (·.1)=false:=by rfl) :
 PE X (.Call (.Name x p) (e::es) [] pos) (tO (kk X cm) E (ċ mf mr)):=by
 intro pins s σ H Q I h
 obtain⟨c,F,ρ,rel,h⟩:=h
 refine wpAny_Call_Name_kw (mK I hg hm ?_ hdb)
 refine PySem.W.callWith_K (h₀:= X.base) I.ok.mod.YH hk (Ŏ (ha pos pins s σ H (λvs H1=>š (kk X cm) n mf vs H1 Q (E σ)) I ⟨c,F,ρ,rel,h.bind λps' ρ1 vs F1 H1 Ĕ _ _ r1 h1=>wg hlen Ĕ r1 h1⟩) λus s1 ⟨vs,H1,I1,r,q⟩=>⟨I1.jM,?_⟩) he hpl
 exact Bp (by assumption) hr hb hx I1 r q
end
def ŏ(m:M PV):M (List PV):=λρ=>(m ρ).bind λp ρ1=>match p with
 | .lst ps=>.ok ps ρ1
 | .tup ps=>.ok ps ρ1
 | .str z=>.ok (z.cps.toList.map λc=>.str ⟨#[c]⟩) ρ1
 |_=>.bad
section
variable{X:Cx}{cm:String->Addr}{E:L2.St->XK}{tg:Expr}
def Zc9(K:PySem.W.Frag)(tl:TE):TI:=λσ H R=>tl σ H λx H1=>(∃a,x=.ref a/\(∃xs,Ř K H1 a xs)/\R (YJ K a) H1)\/(∃a,x=.ref a/\(∃xs,bW K H1 a xs)/\R (Itt K a) H1)\/∃z,x=.str z/\R (Its z) H1
def yV{l:Expr}{tl:TE}(hl:PE X l tl):PI X tg l (Zc9 X.K tl):=by
 intro pins s σ H R I h
 refine Ŏ (hl pins s σ H _ I h) λv s1 ⟨x,H1,I1,r1,q1⟩=>?_
 rcases q1 with⟨a,e,⟨xs,hq⟩,q⟩|⟨a,e,⟨xs,hq⟩,q⟩|⟨z,e,q⟩
 ·subst e
  cases r1
  obtain⟨its,rv,p,hz⟩:=I1.list hq
  refine wpAny_pyIter_list p.isList ?_
  refine⟨s1.heap.objs.size,[s1.heap.objs.size],_,_,H1,rfl,I1.kept (t':=s1.toks) λb o e=>Heap.get?_push_of_some _ e,Cg a _,⟨_,Heap.get?_push_size _ rfl,rfl,rfl⟩,λb hb=>?_,q⟩
  have e:b=s1.heap.objs.size:=by simpa using hb
  subst e
  exact I1.DW (Nat.le_refl _) (I1.hok.fresh (Nat.le_refl _))
 ·subst e
  cases r1
  obtain⟨its,rv,p,hz⟩:=I1.tuple hq
  refine wpAny_pyIter_tuple (show s1.heap.IsTuple a its.toArray from p) ?_
  refine⟨s1.heap.objs.size,[s1.heap.objs.size],_,_,H1,rfl,I1.kept (t':=s1.toks) λb o e=>Heap.get?_push_of_some _ e,yj a _,⟨_,Heap.get?_push_size _ rfl,rfl,rfl⟩,λb hb=>?_,q⟩
  have e:b=s1.heap.objs.size:=by simpa using hb
  subst e
  exact I1.DW (Nat.le_refl _) (I1.hok.fresh (Nat.le_refl _))
 ·subst e
  obtain⟨t,rfl⟩:=r1
  have fin:∀ty,(∀A:Around,A.handled=none->Walks X.prog X.w A s1.heap.objs.size [s1.heap.objs.size] [s1.heap.objs.size] z.cps.size (SignAt z) (λi h=>h.IsStrIter s1.heap.objs.size ty z t i))->
   (∀(A:Around) (i:Nat) (s:Shared) (Q:Value->Shared->Prop) (E:Value->Shared->Prop),s.heap.IsStrIter s1.heap.objs.size ty z t i->Q (.ref s1.heap.objs.size) s->wpAny (model X.prog X.w) A (pyIter (.ref s1.heap.objs.size)) Q E s)->
   (["enumerate","zip","dict_itemiterator","dict_reverseitemiterator","odict_iterator","itertools.zip_longest","itertools.pairwise"].contains ty=false)->
   PIE X pins σ tg R (.ref s1.heap.objs.size) {s1 with heap:=s1.heap.push {cls:=.type ty,data:=.fields #[.str z t,.int 0 0]}}:=λty hW hS hty=>by
   refine⟨s1.heap.objs.size,[s1.heap.objs.size],_,_,H1,rfl,I1.kept (t':=s1.toks) λb o e=>Heap.get?_push_of_some _ e,CG _ z t ty hW hS hty,⟨_,Heap.get?_push_size _ rfl,rfl,rfl⟩,λb hb=>?_,q⟩
   have e:b=s1.heap.objs.size:=by simpa using hb
   subst e
   exact I1.DW (Nat.le_refl _) (I1.hok.fresh (Nat.le_refl _))
  cases ha:z.cps.all (·< 128) with
  |true=>exact wpAny_pyIter_ascii ha (fin _ (λA hA=>Walks.strAscii hA _ z t) (λA i s Q E st q=>wpAny_pyIter_striter_ascii st q) (by decide))
  |false=>exact wpAny_pyIter_wide ha (fin _ (λA hA=>Walks.strWide hA _ z t) (λA i s Q E st q=>wpAny_pyIter_striter_wide st q) (by decide))
def cA{l:Expr}{m:M PV}(hl:PE X l (tV (kk X cm) E m)):PI X tg l (tI (kk X cm) E (ŏ m)):=λpins s σ H R I h=>yV hl pins s σ H R I (by
 obtain⟨c,F,ρ,rel,h⟩:=h
 refine⟨c,F,ρ,rel,h.bind λp ρ1 v F1 H1 Ĕ s1 s2 q h1=>?_⟩
 cases p with
 |lst ps=>
  have q':Rep (kk X cm) F1 (.lst ps) v:=q
  unfold Rep at q'
  obtain⟨a,vs,rfl,e1,e2⟩:=q'
  refine .inl ⟨a,rfl,⟨vs,Ĕ.sub.seq e1⟩,h1 _ F1 H1 Ĕ (Same.refl _) (Same.refl _) ?_⟩
  intro c' i F2 H2 σ2 ρ2 ĩ sF _
  have hq:Ř X.K H2 a vs:=(sF.trans ĩ.sub).seq e1
  refine⟨λp hp=>?_,λhi=>⟨vs,hq,by rw[hi,e2.length];exact Nat.le_refl _⟩⟩
  obtain⟨u,hu,ru⟩:=bH e2.pr hp
  refine⟨⟨vs,u,hq,hu⟩,λx H' ⟨hH,hx⟩=>?_⟩
  subst hH
  have:vs[i]?=some x:=hx vs hq
  rw[hu] at this
  cases this
  exact⟨F2,ĩ,Same.refl _,Same.refl _,Rep.same sF p u ru⟩
 |tup ps=>
  have q':Rep (kk X cm) F1 (.tup ps) v:=q
  unfold Rep at q'
  obtain⟨a,vs,rfl,e1,e2⟩:=q'
  refine .inr (.inl ⟨a,rfl,⟨vs,Same.tup Ĕ.sub e1⟩,h1 _ F1 H1 Ĕ (Same.refl _) (Same.refl _) ?_⟩)
  intro c' i F2 H2 σ2 ρ2 ĩ sF _
  have hq:bW X.K H2 a vs:=Same.tup (sF.trans ĩ.sub) e1
  refine⟨λp hp=>?_,λhi=>⟨vs,hq,by rw[hi,e2.length];exact Nat.le_refl _⟩⟩
  obtain⟨u,hu,ru⟩:=bH e2.pr hp
  refine⟨⟨vs,u,hq,hu⟩,λx H' ⟨hH,hx⟩=>?_⟩
  subst hH
  have:vs[i]?=some x:=hx vs hq
  rw[hu] at this
  cases this
  exact⟨F2,ĩ,Same.refl _,Same.refl _,Rep.same sF p u ru⟩
 |str z=>
  have q':v=.str z:=by have q':Rep (kk X cm) F1 (.str z) v:=q;unfold Rep at q';exact q'
  subst q'
  refine .inr (.inr ⟨z,rfl,h1 _ F1 H1 Ĕ (Same.refl _) (Same.refl _) ?_⟩)
  intro c' i F2 H2 σ2 ρ2 ĩ sF _
  refine⟨λp hp=>?_,λhi=>by rw[hi,List.length_map];show _=_;simp⟩
  rw[List.getElem?_map] at hp
  cases ez:z.cps.toList[i]? with
  |none=>rw[ez] at hp;cases hp
  |some cc=>
   rw[ez] at hp
   cases hp
   refine⟨by have:=(List.getElem?_eq_some_iff.mp ez).1;show i<z.cps.size;simpa using this,λx H' ⟨hH,c2,hc,hx⟩=>?_⟩
   subst hH hx
   rw[ez] at hc
   cases hc
   exact⟨F2,ĩ,Same.refl _,Same.refl _,Rep.str⟩
 |_=>exact h1.elim)
def ŋ(i:Nat):M (List PV):=λρ=>match ρ[i]? with
 |some (.bw ps)=>.ok ps ρ
 |some (.sh (.lst ps))=>.ok ps ρ
 |some (.sh (.tup ps))=>.ok ps ρ
 |some (.sh (.str z))=>.ok (z.cps.toList.map λc=>.str ⟨#[c]⟩) ρ
 |some (.ow ps)=>.ok ps (ρ.set i (.sh (.lst ps)))
 |_=>.bad
def Ŵ(i:Nat){x:Str}{px:Pos}(hN:X.N[i]?=some x:=by rfl)(hv:Aj X.env.scope x:=by first|exact Or.inl rfl|exact Or.inr (Or.inl rfl)|exact Or.inr (Or.inr rfl))(hd:(x== ("__debug__" :Str))=false:=by decide)
 (hcd:(x== ("__classdict__" :Str))=false:=by decide):PI X tg (.Name x px) (tI (kk X cm) E (ŋ i)):=λpins s σ H R I h=>by
 obtain⟨c,F,ρ,rel,h⟩:=h
 cases e:ρ[i]? with
 |none=>unfold ŋ at h;rw[e] at h;exact h.elim
 |some sl=>
  have KR:ų (kk X cm) E (rIt (kk X cm)) c F H σ R (ŏ (ě i) ρ)->wpAny (model X.prog X.w) X.A (eval (.Name x px) X.env) (λv s1=>wpAny (model X.prog X.w) X.A (pyIter v) (PIE X pins σ tg R) X.xe s1) X.xe s:=λh'=>
   cA (v_var i hN hv hd hcd) pins s σ H R I ⟨c,F,ρ,rel,h'⟩
  unfold ŋ at h
  rw[e] at h
  cases sl with
  |no=>exact h.elim
  |rc C ns ps=>exact h.elim
  |ot ps qs rs=>exact h.elim
  |ol mX=>exact h.elim
  |fr mX=>exact h.elim
  |bn qs rows=>exact h.elim
  |dw qX=>exact h.elim
  |ow ps=>exact KR (by unfold ŏ ě;rw[e];exact h)
  |sh p=>
   cases p with
   |lst ps=>exact KR (by unfold ŏ ě;rw[e];exact h)
   |tup ps=>exact KR (by unfold ŏ ě;rw[e];exact h)
   |str z=>exact KR (by unfold ŏ ě;rw[e];exact h)
   |_=>exact h.elim
  |bw ps=>
   obtain⟨a,vs,h1,h2,h3⟩:=rel.slot i _ e
   refine yV (dB hN hv hd hcd) pins s σ H R I ⟨.ref a,at_of h1,.inl ⟨a,rfl,⟨vs,Ř.of (rel.lent a _ h2).1⟩,h _ F H rel (Same.refl _) (Same.refl _) ?_⟩⟩
   intro c' j F2 H2 σ2 ρ2 ĩ sF sL
   have hq:Ř X.K H2 a vs:=Ř.of (sL a _ h2)
   refine⟨λp hp=>?_,λhi=>⟨vs,hq,by rw[hi,h3.length];exact Nat.le_refl _⟩⟩
   obtain⟨u,hu,ru⟩:=bH h3.pr hp
   refine⟨⟨vs,u,hq,hu⟩,λx H' ⟨hH,hx⟩=>?_⟩
   subst hH
   have:vs[j]?=some x:=hx vs hq
   rw[hu] at this
   cases this
   exact⟨F2,ĩ,Same.refl _,Same.refl _,Rep.same sF p u ru⟩
def fZ(lo:Int)(n:Nat)(c:Int):List PV:=(List.range n).map λ(i:Nat)=>.int (lo+i*c)
def nW(i:Int):Bool:=decide (i.natAbs<1152921504606846976)
def aQ:List PV->Option (List PV)
 | [.int j]=>if nW j=true then some (fZ 0 j.toNat 1) else none
 |_=>none
def ſ(f:List PV->Option (List PV))(mr:M (List PV)):M (List PV):=λρ=>(mr ρ).bind λps ρ1=>Res.mZ (f ps) ρ1
def yW{lo c:Int}{n i:Nat}{p:PV}(h:(fZ lo n c)[i]?=some p):i<n/\p=.int (lo+i*c):=by
 unfold fZ at h
 by_cases hn:i<n
 ·rw[List.getElem?_map,List.getElem?_range hn] at h
  exact⟨hn,(Option.some.inj h).symm⟩
 ·rw[List.getElem?_eq_none (by simpa using hn)] at h
  cases h
def yX{lo c:Int}{n:Nat}:(fZ lo n c).length=n:=by simp[fZ]
def Wm{K:KK}{Lh F:Hp}(lo:Int)(n:Nat):fY K Lh F (Itr lo n) (fZ lo n 1):=λc i F2 H σ ρ rel sF _=>
 ⟨fun p hp=>by
   obtain⟨h1,rfl⟩:=yW hp
   refine⟨h1,λx H' ⟨e1,e2⟩=>?_⟩
   subst e1 e2
   exact⟨F2,rel,Same.refl _,Same.refl _,by rw[Int.mul_one];exact Rep.int⟩,λhi=>by rw[yX] at hi;subst hi;exact Nat.le_refl _⟩
def CN{i:Int}(h:nW i=true): -(2 ^ 60)<=i/\i<2 ^ 60:=by
 unfold nW at h
 rw[decide_eq_true_eq] at h
 omega
variable{a b d:Expr}{p pos:Pos}{mr:M (List PV)}
def Fy{K:KK}{F:Hp}{ps:List PV}{vs:List V}(h:Ē K F ps vs):(∀i r,ps=.int i::r->∃r',vs=.int i::r'/\Ē K F r r')/\(ps=[]->vs=[]):=by
 refine⟨λi r e=>?_,λe=>?_⟩
 ·subst e
  unfold Ē at h
  obtain⟨x,r',h1,h2,h3⟩:=h
  unfold Rep at h2
  exact⟨r',by rw[h1,h2],h3⟩
 ·subst e
  unfold Ē at h
  exact h
def Ů(hg:Gl X "range")(hm:X.mg "range" =none)(ha:PA X [a] (tL (kk X cm) E mr))(hs:starEach [a] X.env=[(false,eval a X.env)]:=by exact bG rfl):PI X tg (.Call (.Name "range" p) [a] [] pos) (tI (kk X cm) E (ſ aQ mr)):=
 λpins s σ H R I h=>Ci hg hm ha hs pins s σ H R I (by
  obtain⟨c,F,ρ,rel,h⟩:=h
  refine⟨c,F,ρ,rel,h.bind λps ρ1 vs F1 H1 Ĕ s1 s2 q h1=>?_⟩
  have q':Ē (kk X cm) F1 ps vs:=q
  unfold aQ at h1
  split at h1
  ·rename_i j
   split at h1
   ·rename_i hj
    obtain⟨r',e1,e2⟩:=(Fy q').1 _ _ rfl
    cases(Fy e2).2 rfl
    obtain⟨k1,k2⟩:=CN hj
    exact⟨j,e1,by omega,by omega,h1 _ F1 H1 Ĕ (Same.refl _) (Same.refl _) (Wm 0 j.toNat)⟩
   ·exact h1.elim
  ·exact h1.elim)
end
def tW:Slot->Slot
 | .sh p=>.sh p
 | .ow ps=>.bw ps
 | .bw ps=>.bw ps
 |_=>.no
def nY(js:List Nat)(nl:Nat)(ρ:ķ):ķ:=js.map (λ(j:Nat)=>tW ((ρ[j]?).getD .no))++List.replicate nl .no
def ĺ(g:Tg)(mt:M Bool)(me:M PV):List PV->ķ->List PV->Option (List PV)
 | [],_,acc=>some acc
 |p::ps,ρ,acc=>match g p ρ with
  |none=>none
  |some ρ1=>match mt ρ1 with
   | .ok true ρ2=>match me ρ2 with
     | .ok q ρ3=>if acc.length<16777216 then ĺ g mt me ps ρ3 (acc ++ [q]) else none
     |_=>none
   | .ok false ρ2=>ĺ g mt me ps ρ2 acc
   |_=>none
def Ń(js:List Nat)(nl:Nat)(mi:M (List PV))(g:Tg)(mt:M Bool)(me:M PV):M RV:=λρ=>(mi ρ).bind λitems ρ1=>match ĺ g mt me items (nY js nl ρ1) [] with
 |some ps=>.ok (.ow ps) ρ1
 |none=>.bad
abbrev EF:L2.St->XK:=λ_ _ _ _=>False
def ı:M Bool:=λρ=>.ok true ρ
section
variable{K:KK}{c:Ctx}{F H:Hp}{σ:L2.St}{ρ:ķ}
def qw(F H H1:Hp):Ctx:=⟨H1,F,(ctx0 F H).L,λ_ _ _=>True⟩
def Rel.cap(js:List Nat)(nl:Nat)(rel:Rel K c F H σ ρ){D:Addr}{o:HO}(hD:H D=none):Rel K (qw F H (upd H D o)) F (upd H D o) (fM js nl σ) (nY js nl ρ) where
 sub:=rel.sub.trans (Same.upd hD)
 base:=Same.refl _
 f0:=Same.refl _
 cI:=λ_ _ z=>z
 lent:=λa u e=>⟨Same.upd hD a u (dM e).1,(dM e).2⟩
 lb:=fun a e=>by
   cases q:(qw F H (upd H D o)).L a with
   |none=>rfl
   |some u=>
    have e':upd H D o a=none:=e
    rw[Same.upd hD a u (dM q).1] at e'
    cases e'
 len:=by simp[fM,nY]
 slot:= λi s e=>by
  unfold nY at e
  by_cases hi:i<js.length
  ·rw[List.getElem?_append_left (by simpa using hi),List.getElem?_map] at e
   cases ej:js[i]? with
   |none=>rw[ej] at e;cases e
   |some j=>
    rw[ej] at e
    have e':tW ((ρ[j]?).getD .no)=s:=Option.some.inj e
    subst e'
    have hx:((fM js nl σ)[i]?).getD none=(σ[j]?).getD none:=by
     unfold fM
     rw[List.getElem?_append_left (by simpa using hi),List.getElem?_map,ej]
     rfl
    rw[hx]
    cases er:ρ[j]? with
    |none=>trivial
    |some sl=>
     have q:=rel.slot j sl er
     cases sl with
     |no=>trivial
     |sh p=>exact q
     |ow ps=>
      obtain⟨a,vs,h1,h2,h3,h4,h5⟩:=q
      refine⟨a,vs,h1,?_,h5⟩
      show(match F a with|none=>H a|some _=>none)=_
      rw[h3]
      exact h2
     |bw ps=>
      obtain⟨a,vs,h1,h2,h3⟩:=q
      obtain⟨l1,l2⟩:=rel.lent a _ h2
      refine⟨a,vs,h1,?_,h3⟩
      show(match F a with|none=>H a|some _=>none)=_
      rw[l2]
      exact l1
     |rc C ns ps=>trivial
     |ot ps qs rs=>trivial
     |ol mX=>trivial
     |fr mX=>trivial
     |bn qs rows=>trivial
     |dw qX=>trivial
  ·rw[List.getElem?_append_right (by simpa using hi),List.getElem?_replicate] at e
   split at e
   ·cases e;trivial
   ·cases e
 sep:=λi j a h1 _=>by
  exfalso
  obtain⟨s,y,h1,_,h2⟩:=h1
  have h2:=jV h2
  unfold nY at h1
  by_cases hi:i<js.length
  ·rw[List.getElem?_append_left (by simpa using hi),List.getElem?_map] at h1
   cases ej:js[i]? with
   |none=>rw[ej] at h1;cases h1
   |some j=>
    rw[ej] at h1
    have e':tW ((ρ[j]?).getD .no)=s:=Option.some.inj h1
    subst e'
    cases q:(ρ[j]?).getD .no<;>rw[q] at h2<;>cases h2
  ·rw[List.getElem?_append_right (by simpa using hi),List.getElem?_replicate] at h1
   split at h1
   ·cases h1;cases h2
   ·cases h1
def Rel.rebase{H1 F1:Hp}{D:Addr}{ys zs:List V}(hD:H1 D=none)(hF:F1 D=none)(rel:Rel K (qw F1 H1 (upd H1 D (.lst ys))) F H σ ρ):Rel K (qw F1 H1 (upd H1 D (.lst zs))) F (upd H D (.lst zs)) σ ρ:= by
 have fD:F D=none:=rel.cI D (by show upd H1 D _ D≠none;rw[ē];intro z;cases z) hF
 have lD:∀b u,(qw F1 H1 (upd H1 D (.lst ys))).L b=some u->b≠D:=λb u e z=>by
  have q:=(dM (F:=F1) (H:=H1) (a:=b) (u:=u) e).1
  rw[z,hD] at q
  cases q
 have ne:∀b,(qw F1 H1 (upd H1 D (.lst ys))).B b=none->b≠D:=λb z q=>by
  subst q
  have z':upd H1 b (.lst ys) b=none:=z
  rw[ē] at z';cases z'
 have back:∀b,b≠D->(qw F1 H1 (upd H1 D (.lst ys))).B b=none->(qw F1 H1 (upd H1 D (.lst zs))).B b=none:=λb hb z=>by
  have z':upd H1 D (.lst ys) b=none:=z
  show upd H1 D (.lst zs) b=none
  rw[Ę hb] at z' ⊢;exact z'
 refine⟨λb u e=>?_,λb u e=>?_,rel.f0,λb h1 h2=>?_,λb u e=>?_,λb e=>?_,rel.len,λi s e=>?_,rel.sep⟩
 ·have hb:b≠D:=λz=>by rw[z,fD] at e;cases e
  rw[Ę hb];exact rel.sub b u e
 ·by_cases hb:b=D
  ·subst hb
   have e':upd H1 b (.lst zs) b=some u:=e
   rw[ē] at e' ⊢;exact e'
  ·have e':upd H1 D (.lst zs) b=some u:=e
   rw[Ę hb] at e' ⊢
   exact rel.base b u (by show upd H1 D _ b=some u;rw[Ę hb];exact e')
 ·refine rel.cI b (λz=>h1 ?_) h2
  exact back b (ne b z) z
 ·rw[Ę (lD b u e)]
  exact rel.lent b u e
 ·refine rel.lb b ?_
  have z':upd H1 D (.lst zs) b=none:=e
  have hb:b≠D:=λq=>by rw[q,ē] at z';cases z'
  show upd H1 D (.lst ys) b=none
  rw[Ę hb] at z' ⊢;exact z'
 ·have q:=rel.slot i s e
  cases s with
  |no=>trivial
  |sh p=>exact q
  |bw ps=>exact q
  |ow ps=>
   obtain⟨a,vs,q1,q2,q3,q4,q5⟩:=q
   have hb:=ne a q4
   exact⟨a,vs,q1,by rw[Ę hb];exact q2,q3,back a hb q4,q5⟩
  |rc C ns ps=>
   obtain⟨a,dx,fs,q1,q2,q3,q4,q5⟩:=q
   have hb:=ne a q4
   exact⟨a,dx,fs,q1,by rw[Ę hb];exact q2,q3,back a hb q4,q5⟩
  |ot ps qs rs=>
   obtain⟨p,a,xs,vs,ys,q1,q0,qx,q2,q3,q4,q5⟩:=q
   have hb:=ne a q4
   exact⟨p,a,xs,vs,ys,q1,q0,qx,by rw[Ę hb];exact q2,q3,back a hb q4,q5⟩
  |ol mX=>
   obtain⟨p,as,q1,q0,qn,qp⟩:=q
   refine⟨p,as,q1,q0,qn,fO qp λa ps _ ⟨vs,q2,q3,q4,q5⟩=>?_⟩
   have hb:=ne a q4
   exact⟨vs,by rw[Ę hb];exact q2,q3,back a hb q4,q5⟩
  |fr mX=>
   obtain⟨p,as,q1,q2,q3,q4,qn,qp⟩:=q
   have hb:=ne p q4
   exact⟨p,as,q1,by rw[Ę hb];exact q2,q3,back p hb q4,qn,fO qp λa ps _ ⟨vs,k1,k2,k3⟩=>⟨vs,k1,back a (ne a k2) k2,k3⟩⟩
  |dw qX=>exact q
  |bn qs rows=>
   obtain⟨v,q1,a,b,ys,vs,h1,h2,h3,h4,h5⟩:=q
   exact⟨v,q1,a,b,ys,vs,h1,h2,back a (ne a h3) h3,back b (ne b h4) h4,h5⟩
end
section
variable{X:Cx}{cm:String->Addr}{E:L2.St->XK}{elt tg iter:Expr}{ifs:List Expr}{scope:Scope}{pos:Pos}{mi:M (List PV)}{g:Tg}{mt:M Bool}{me:M PV}
def ŉ:Ew X [] (tB (kk X cm) E ı):=λpins s σ H Q I h=>Kp pins s σ H Q I (by
 obtain⟨c,F,ρ,rel,h⟩:=h
 exact h true F H rel (Same.refl _) (Same.refl _) rfl)
def Fz(K:KK):RR (List PV) It:=λ_ _ _ F H items J=>fY K (ctx0 F H).L F J items
def FJ{K:KK}{c:Ctx}{F H:Hp}{σ:L2.St}{ρ:ķ}(rel:Rel K c F H σ ρ){b:Addr}{u:HO}(e:c.L b=some u):(ctx0 F H).L b=some u:=by
 obtain⟨l1,l2⟩:=rel.lent b u e
 show(match F b with|none=>H b|some _=>none)=some u
 rw[l2]
 exact l1
def Nj(h:PI X tg iter (tI (kk X cm) E mi)):PI X tg iter (tG (kk X cm) E (Fz (kk X cm)) mi):=λpins s σ H R I ⟨c,F,ρ,rel,q⟩=>h pins s σ H R I ⟨c,F,ρ,rel,ų.bind (R':=Fz (kk X cm)) (f:=λp ρ=>.ok p ρ) (by revert q;cases mi ρ <;> exact id) λp ρ1 v F1 H1 Ĕ s1 s2 q h1=>h1 v F1 H1 Ĕ (Same.refl _) (Same.refl _) λc' i F2 H2 σ2 ρ2 ĩ sF sL=>q c' i F2 H2 σ2 ρ2 ĩ sF λb u e=>sL b u (FJ Ĕ e)⟩
def wj{js:List Nat}{nl:Nat}{σ:L2.St}{H:Hp}{Q:VK}(h:tO (kk X cm) E (Ń js nl mi g mt me) σ H Q):A_ js nl (tG (kk X cm) E (Fz (kk X cm)) mi) (tT (kk X cm) g) (tB (kk X cm) EF mt) (tV (kk X cm) EF me) σ H Q:=by
 obtain⟨c,F,ρ,rel,h⟩:=h
 refine⟨c,F,ρ,rel,h.bind λitems ρ1 J F1 H1 Ĕ s1 s2 ito h1=>?_⟩
 intro D hD
 have hF:F1 D=none:=Ĕ.sub.free hD
 cases ec:ĺ g mt me items (nY js nl ρ1) [] with
 |none=>rw[ec] at h1;exact h1.elim
 |some res=>
  rw[ec] at h1
  refine⟨λi m σ' H'=>∃F' ρ' ys acc,i<=items.length/\m=items.length-i/\Rel (kk X cm) (qw F1 H1 (upd H1 D (.lst ys))) F' H' σ' ρ'/\Ē (kk X cm) F' acc ys/\ĺ g mt me (items.drop i) ρ' acc=some res,
   ⟨_,F1,_,[],[],Nat.zero_le _,rfl,?_,Ē.nil,ec⟩,?_⟩
  ·exact Ĕ.cap js nl hD
  ·rintro i m σ2 H2 ⟨F2,ρ2,ys,acc,hle,rfl,ĩ,ra,h2⟩
   have s12:Same F1 F2:=ĩ.f0
   obtain⟨go,stop⟩:=ito _ i F2 H2 σ2 ρ2 ĩ s12 λb u e=>(ĩ.lent b u e).1
   have hH2:H2 D=some (.lst ys):=ĩ.base D _ (show upd H1 D _ D=_ from ē)
   have fD:F2 D=none:=ĩ.cI D (by show upd H1 D _ D≠none;rw[ē];intro z;cases z) hF
   by_cases hlt:i<items.length
   ·obtain⟨g1,g2⟩:=go items[i] (List.getElem?_eq_getElem hlt)
    rw[List.drop_eq_getElem_cons hlt] at h2
    unfold ĺ at h2
    refine .inr ⟨g1,_,λσ' H' z=>z,λx H3 hy=>?_⟩
    obtain⟨F3,nU,s3,sH3,rp⟩:=g2 x H3 hy
    refine⟨_,F3,ρ2,items[i],nU,rp,?_⟩
    cases eg:g items[i] ρ2 with
    |none=>rw[eg] at h2;cases h2
    |some ρ3=>
     rw[eg] at h2
     dsimp only at h2
     intro σ4 qu
     refine⟨_,F3,ρ3,qu,?_⟩
     cases em:mt ρ3 with
     |bad=>rw[em] at h2;cases h2
     |exc x ρ4=>rw[em] at h2;cases h2
     |ok b ρ4=>
      rw[em] at h2
      intro b' F5 H5 FN s5 KY eb
      have eb':b=b':=eb
      subst eb'
      cases b with
      |false=>
       rw[if_neg Bool.false_ne_true]
       dsimp only at h2
       exact⟨items.length-(i+1),by omega,F5,ρ4,ys,acc,hlt,rfl,FN,Ē.same (s3.trans s5) acc ys ra,h2⟩
      |true=>
       rw[if_pos rfl]
       dsimp only at h2
       refine⟨_,F5,ρ4,FN,?_⟩
       cases ee:me ρ4 with
       |bad=>rw[ee] at h2;cases h2
       |exc x ρ5=>rw[ee] at h2;cases h2
       |ok q ρ5=>
        rw[ee] at h2
        dsimp only at h2
        intro y F6 H6 FP s6 Jv rq
        split at h2
        ·rename_i hz
         have ra6:=Ē.same ((s3.trans s5).trans s6) acc ys ra
         refine⟨ys,FP.base D _ (show upd H1 D _ D=_ from ē),by rw[<-ra6.length,ĸ];exact hz,?_⟩
         exact⟨items.length-(i+1),by omega,F6,ρ5,ys ++ [y],acc ++ [q],hlt,rfl,FP.rebase hD hF,Ē.append ra6 (Ē.cons rq Ē.nil),h2⟩
        ·cases h2
   ·have e:i=items.length:=by omega
    refine .inl ⟨stop e,?_⟩
    rw[List.drop_eq_nil_of_le (by omega)] at h2
    unfold ĺ at h2
    cases h2
    have gr:Gr F1 H1 F2 H2:=⟨λb u e=>ĩ.base b u (by show upd H1 D _ b=_;rw[Ę (Ğ e hD)];exact e),s12,ĩ.sub,λb hb hf=>ĩ.cI b (by
     show upd H1 D _ b≠none
     by_cases hbD:b=D
     ·rw[hbD,ē];intro z;cases z
     ·rw[Ę hbD];exact hb) hf⟩
    have Wn:=Ĕ.call gr
    exact h1 _ F2 H2 Wn s12 gr.h ⟨D,ys,rfl,hH2,fD,Ĕ.base.free hD,Ĕ.dJ gr.f (Ĕ.fresh hD),ra⟩
def KZ(N':List Str)(js:List Nat)(nl:Nat)(sc:Scope)(hsc:X.env.scope=sc)(hcalm:X.calm=true)
 (hi:PI X.ō tg iter (tG (kk X cm) E (Fz (kk X cm)) mi))(hg:∀cl C s H fp,PG (bU X.ō N' scope cl C s H fp) tg (tT (kk X cm) g))(ht:∀cl C s H fp,Ew (bU X.ō N' scope cl C s H fp) ifs (tB (kk X cm) EF mt))(he:∀cl C s H fp,PE (bU X.ō N' scope cl C s H fp) elt (tV (kk X cm) EF me))
 (hcap:h_ X.ō sc scope N' js)(hlen:js.length+nl=N'.length:=by rfl)
 (hk:scope.kind=.function:=by rfl)(hcell:∀y∈scope.names,y.2=.cell->scope.names.lookup y.1=some .cell:=by decide +kernel)(hnames:∀y∈scope.names,y.2=.local->scope.names.lookup y.1=some .local:=by decide +kernel)
 (hfree:∀y∈scope.names,y.2=.free->(sc.names.lookup y.1=some .cell\/sc.names.lookup y.1=some .free):=by decide +kernel)
 (hs:∀x,foldedSetIterable iter X.env x=pure x:=by intro _;rfl) :
 PE X (.ListComp elt [⟨tg,iter,ifs,0⟩] scope pos) (tO (kk X cm) E (Ń js nl mi g mt me)):=
 PE.wk (PE.ō (Ba N' js nl sc hsc hcalm hi hg ht he hcap hlen hk hcell hnames hfree hs)) λ_ _ _ h=>wj h
end
end P
namespace P
open PySem PySem.Spec PyProof.Rows L2 M2 M3 M4
abbrev bits(x:Int):Nat:=Builtin.Int.intBits x
section
variable{X:Cx}{cm:String->Addr}{K:KK}
def Nk(K:PySem.W.Frag):R2:=λx y H Q=>∃l b xs zs,x=.ref l/\y=.ref b/\Ř K H l xs/\Ř K H b zs/\xs.length+zs.length<=sizeLine/\∀p,H p=none->Q (.ref p) (upd H p (.lst (xs++zs)))
def K_:ū X (binaryOp .Add) (Nk X.K):=by
 intro pins s σ H x y v u Q I rx ry h
 obtain⟨l,b,xs,zs,rfl,rfl,hH,hB,hz,q⟩:=h
 cases rx
 cases ry
 obtain⟨its,r,pl,z⟩:=I.list hH
 obtain⟨its2,r2,pl2,z2⟩:=I.list hB
 obtain⟨⟨c1,d1,t1,sl1⟩,n,e,hc,hd,hs⟩:=pl
 obtain⟨⟨c2,d2,t2,sl2⟩,n2,e2,hc2,hd2,hs2⟩:=pl2
 simp only at hc hd hs hc2 hd2 hs2
 subst hc hd hs hc2 hd2 hs2
 have hl:=r.length
 have hl2:=r2.length
 have ea:its.toArray++its2.toArray=(its++its2).toArray:=by simp
 refine concat_meets ⟨_,e,rfl⟩ ⟨_,e2,rfl⟩ noFill_list_add seq_list_add PySem.F.slot_list_add PySem.F.entry_list_add (PySem.F.args_list_add_2 _ _) (list_addW l b its.toArray its2.toArray n n2 none none sl1 sl2 (by simp only[List.size_toArray];omega)) ⟨e,e2,?_⟩
 rw[ea]
 exact⟨.ref _,_,I.ZcZ (t':=s.toks) (r.append r2) (by rw[List.length_append];omega),rfl,q _ I.fresh⟩
def Nm(K:PySem.W.Frag):R2:=λx y H Q=>∃l b xs zs,x=.ref l/\y=.ref b/\bW K H l xs/\bW K H b zs/\xs≠[]/\zs≠[]/\xs.length+zs.length<=sizeLine/\∀p,H p=none->Q (.ref p) (upd H p (.tup (xs++zs)))
def La:ū X (binaryOp .Add) (Nm X.K):=by
 intro pins s σ H x y v u Q I rx ry h
 obtain⟨l,b,xs,zs,rfl,rfl,hH,hB,nx,nz,hz,q⟩:=h
 cases rx
 cases ry
 obtain⟨its,r,pl,z⟩:=I.tuple hH
 obtain⟨its2,r2,pl2,z2⟩:=I.tuple hB
 obtain⟨⟨c1,d1,t1,sl1⟩,e,hc,n,hd⟩:=pl
 obtain⟨⟨c2,d2,t2,sl2⟩,e2,hc2,n2,hd2⟩:=pl2
 simp only at hc hd hc2 hd2
 subst hc hd hc2 hd2
 have hl:=r.length
 have hl2:=r2.length
 have ne1:its≠[]:=λz=>by rw[z] at hl;exact nx (List.length_eq_zero_iff.mp hl)
 have ne2:its2≠[]:=λz=>by rw[z] at hl2;exact nz (List.length_eq_zero_iff.mp hl2)
 have ea:its.toArray++its2.toArray=(its++its2).toArray:=by simp
 refine concat_meets ⟨_,e,rfl⟩ ⟨_,e2,rfl⟩ noFill_tuple_add seq_tuple_add PySem.F.slot_tuple_add PySem.F.entry_tuple_add (PySem.F.args_tuple_add_2 _ _) (tuple_addW2 l b its.toArray its2.toArray n n2 d1 d2 sl1 sl2 (by simpa using ne1) (by simpa using ne2) (by simp only[List.size_toArray];omega)) ⟨e,e2,?_⟩
 rw[ea]
 exact⟨.ref _,_,I.laid (o:=.tup (xs++zs)) (t':=s.toks) (λ_ _ q=>Heap.get?_push_of_some _ q) (Nat.le_refl _) ⟨by rw[List.length_append];omega,(its++its2),r.append r2,⟨_,Heap.get?_push_size _ rfl,rfl,_,rfl⟩⟩,rfl,q _ I.fresh⟩
def ĭ:PV->PV->Option RV
 | .int i,.int j=>some (.sh (.int (i+j)))
 | .str i,.str j=>if i.length+j.length<=16777216 then some (.sh (.str (i++j))) else none
 | .lst ps,.lst qs=>if ps.length+qs.length<=16777216 then some (.ow (ps++qs)) else none
 | .tup (p::ps),.tup (q::qs)=>if(p::ps).length+(q::qs).length<=16777216 then some (.sh (.tup ((p::ps)++(q::qs)))) else none
 |_,_=>none
def Np(K:PySem.W.Frag):R2:=λx y H Q=>Zat x y H Q\/(Nk K x y H Q\/Nm K x y H Q)
def Wo:ū X (binaryOp .Add) (Np X.K):=VB.or (K_.or La)
def Wq:OpO K (Np K.K) ĭ:=by
 intro c F H σ ρ p q pv v u Q rel r1 r2 e k
 unfold ĭ at e
 split at e
 ·cases e
  cases r1.int
  cases r2.int
  exact .inl (k _ F H rel (Same.refl _) (Same.refl _) (Rep.int (K:=K) (F:=F)))
 ·split at e
  ·rename_i hz
   cases e
   cases r1.str
   cases r2.str
   exact .inl ⟨by rw[ĸ];exact hz,k _ F H rel (Same.refl _) (Same.refl _) (Rep.str (K:=K) (F:=F))⟩
  ·cases e
 ·split at e
  ·rename_i hz
   cases e
   obtain⟨a,xs,rfl,h1,h2⟩:=r1.lst rel.sub
   obtain⟨b,ys,rfl,h3,h4⟩:=r2.lst rel.sub
   refine .inr (.inl ⟨a,b,xs,ys,rfl,rfl,h1,h3,by rw[<-h2.length,<-h4.length,ĸ];exact hz,λd hd=>?_⟩)
   obtain⟨q1,q2⟩:=cY rel hd (Ē.append h2 h4)
   exact k _ F _ q1 (Same.refl _) (Same.upd hd) q2
  ·cases e
 ·split at e
  ·rename_i hz
   cases e
   obtain⟨a,xs,rfl,h1,h2⟩:=r1.tup rel.sub
   obtain⟨b,ys,rfl,h3,h4⟩:=r2.tup rel.sub
   have l1:=h2.length
   have l2:=h4.length
   refine .inr (.inr ⟨a,b,xs,ys,rfl,rfl,h1,h3,(λz=>by rw[z] at l1;cases l1),(λz=>by rw[z] at l2;cases l2),by rw[<-l1,<-l2,ĸ];exact hz,λl hl=>k _ _ _ (rel.alloc hl) (Same.upd (rel.sub.free hl)) (Same.upd hl) ?_⟩)
   show Rep K _ _ _
   unfold Rep
   exact⟨l,xs++ys,rfl,bW.of ē,Ē.same (Same.upd (rel.sub.free hl)) _ _ (Ē.append h2 h4)⟩
  ·cases e
 ·cases e
def vM(g:Int->Int->Int):PV->PV->Option PV
 | .int i,.int j=>some (.int (g i j))
 |_,_=>none
def Du(C:Int->Int->Bool)(g:Int->Int->Int):PV->PV->Option PV
 | .int i,.int j=>if C i j=true then some (.int (g i j)) else none
 |_,_=>none
def YL(g:Int->Int->Bool):PV->PV->Option PV
 | .int i,.int j=>some (.bl (g i j))
 |_,_=>none
def Nq{g:Int->Int->Int}:jL K (yM λi j=>.int (g i j)) (vM g):=by
 intro c F H σ ρ p q pv v u Q rel r1 r2 e k
 unfold vM at e
 split at e
 ·cases e
  cases r1.int
  cases r2.int
  exact k _ F H rel (Same.refl _) (Same.refl _) Rep.int
 ·cases e
def Lb{g:Int->Int->Bool}:jL K (yM λi j=>.bl (g i j)) (YL g):=by
 intro c F H σ ρ p q pv v u Q rel r1 r2 e k
 unfold YL at e
 split at e
 ·cases e
  cases r1.int
  cases r2.int
  exact k _ F H rel (Same.refl _) (Same.refl _) Rep.bl
 ·cases e
def Ld{C:Int->Int->Bool}{C':Int->Int->Prop}{g:Int->Int->Int}(hC:∀i j,C i j=true->C' i j):jL K (mI C' λi j=>.int (g i j)) (Du C g):=by
 intro c F H σ ρ p q pv v u Q rel r1 r2 e k
 unfold Du at e
 split at e
 ·split at e
  ·rename_i hc
   cases e
   cases r1.int
   cases r2.int
   exact⟨hC _ _ hc,k _ F H rel (Same.refl _) (Same.refl _) Rep.int⟩
  ·cases e
 ·cases e
def Ŋ:=vM λi j=>i-j
def Wr:jL K (yM λi j=>.int (i-j)) Ŋ:=Nq
def gb(_ j:Int):Bool:=decide (j≠0) && decide (bits j<=8000)
def ŧ:=Du gb λi j=>i.fdiv j
def Ws:jL K (mI Cz λi j=>.int (i.fdiv j)) ŧ:=Ld λi j h=>by unfold gb at h;simpa[Cz] using h
def Bq(_ j:Int):Bool:=decide (j≠0)
def ŀ:=Du Bq λi j=>i.fmod j
def Wt:jL K (mI (λ_ j=>j≠0) λi j=>.int (i.fmod j)) ŀ:=Ld λi j h=>by unfold Bq at h;simpa using h
def wu(i j:Int):Bool:=decide (0<=j) && decide (j.natAbs<=1000000) && decide (i.natAbs<18446744073709551616)
def qZ:=Du wu λi j=>i ^ j.toNat
def tX:jL K (mI Ck λi j=>.int (i ^ j.toNat)) qZ:=Ld λi j h=>by
 unfold wu at h
 simp only[Bool.and_eq_true,decide_eq_true_eq] at h
 exact⟨h.1.1,by omega,by have:=h.2;simpa using this⟩
def nZ(i j:Int):Bool:=decide (0<=j) && decide (j.natAbs<=1000000) && decide (i.natAbs<18446744073709551616)
def jl:=Du nZ λi j=>i*2 ^ j.toNat
def n_:jL K (mI Ck λi j=>.int (i*2 ^ j.toNat)) jl:=Ld λi j h=>by
 unfold nZ at h
 simp only[Bool.and_eq_true,decide_eq_true_eq] at h
 exact⟨h.1.1,by omega,by have:=h.2;simpa using this⟩
def FQ:=vM λi j=>Builtin.bitOr i j
def Wu:jL K (yM λi j=>.int (Builtin.bitOr i j)) FQ:=Nq
def oh:ū X (binaryOp .LShift) (mI Ck λi j=>.int (i*2 ^ j.toNat)):=ū.wk Vj vR
def Wv:ū X (binaryOp .BitOr) (yM λi j=>.int (Builtin.bitOr i j)):=ū.wk Zah jT
def tY:=YL λi j=>decide (i<j)
def tZ:=YL λi j=>decide (i<=j)
def Le:=YL λi j=>decide (j<i)
def FT:=YL λi j=>decide (j<=i)
def ou:jL K (yM λi j=>.bl (decide (i<j))) tY:=Lb
def oA:jL K (yM λi j=>.bl (decide (i<=j))) tZ:=Lb
def Nr:jL K (yM λi j=>.bl (decide (j<i))) Le:=Lb
def ZaK:jL K (yM λi j=>.bl (decide (j<=i))) FT:=Lb
def ń(i j:Int):Bool:=decide (i.natAbs<18446744073709551616) || decide (j.natAbs<18446744073709551616) || (decide (bits i<=1048576) && decide (bits j<=1048576))
def FW{i j:Int}(h:ń i j=true):qT i j:=by
 unfold ń at h
 simp only[Bool.or_eq_true,Bool.and_eq_true,decide_eq_true_eq] at h
 rcases h with(h|h)|h
 ·exact .inl (.inl ⟨by omega,by omega⟩)
 ·exact .inl (.inr ⟨by omega,by omega⟩)
 ·exact .inr h
def Ģ:PV->PV->Option PV
 | .int i,.int j=>if ń i j=true then some (.int (i*j)) else none
 | .str z,.int n=>if 0<=n/\n<=1000/\z.length<=1000 then some (.str (S (List.replicate n.toNat z.cps.toList).flatten)) else none
 |_,_=>none
def Ww:jL K Fd Ģ:=by
 intro c F H σ ρ p q pv v u Q rel r1 r2 e k
 unfold Ģ at e
 split at e
 ·split at e
  ·rename_i hc
   cases e
   cases r1.int
   cases r2.int
   exact⟨FW hc,k _ F H rel (Same.refl _) (Same.refl _) Rep.int⟩
  ·cases e
 ·split at e
  ·rename_i hc
   cases e
   cases r1.str
   cases r2.int
   exact⟨hc,k _ F H rel (Same.refl _) (Same.refl _) Rep.str⟩
  ·cases e
 ·cases e
variable{E:L2.St->XK}{a b e:Expr}{es:List Expr}{pos:Pos}{ma mb:M PV}{mr:M (List PV)}
def gj:PV->Option PV
 | .int i=>some (.int (-i))
 |_=>none
def gk:UnV K (mU λi=>.int (-i)) gj:=by
 intro c F H σ ρ p pv v Q rel r1 e k
 unfold gj at e
 split at e
 ·cases e
  cases r1.int
  exact k _ F H rel (Same.refl _) (Same.refl _) Rep.int
 ·cases e
mutual
def eqB:PV->PV->Bool
 | .non,.non=>true
 | .bl a,.bl b=>a== b
 | .bl a,.int j=>(if a then 1 else 0)== j
 | .int i,.bl b=>i== (if b then 1 else 0)
 | .int i,.int j=>i== j
 | .str x,.str y=>x== y
 | .lst xs,.lst ys=>dN xs ys
 | .tup xs,.tup ys=>dN xs ys
 |_,_=>false
def dN:List PV->List PV->Bool
 | [],[]=>true
 |x::xs,y::ys=>eqB x y && dN xs ys
 |_,_=>false
end
mutual
def ű:PV->Bool
 | .non| .bl _| .int _=>true
 | .str x=>PyData.strOk x
 | .lst xs=>aU xs
 | .tup xs=>aU xs
 |_=>false
def aU:List PV->Bool
 | []=>true
 |x::xs=>ű x && aU xs
end
mutual
def dep:PV->Nat
 | .lst xs=>oE xs+1
 | .tup xs=>oE xs+1
 |_=>0
def oE:List PV->Nat
 | []=>0
 |x::xs=>max (dep x) (oE xs)
end
mutual
def toD:PV->PyData
 | .non=>.none
 | .bl b=>.bool b
 | .int i=>.int i
 | .str x=>.str x
 | .lst xs=>.list (cZ xs)
 | .tup xs=>.tuple (cZ xs)
 |_=>.none
def cZ:List PV->List PyData
 | []=>[]
 |x::xs=>toD x::cZ xs
end
mutual
theorem dO:∀p:PV,ű p=true->(toD p).canLay0=true
 | .non,_=>rfl
 | .bl _,_=>rfl
 | .int _,_=>rfl
 | .str x,h=>by unfold ű at h;unfold toD PyData.canLay0;exact h
 | .lst xs,h=>by unfold ű at h;unfold toD PyData.canLay0;exact gn xs h
 | .tup xs,h=>by unfold ű at h;unfold toD PyData.canLay0;exact gn xs h
 | .ins _ _ _,h=>by simp[ű] at h
 | .xc _ _ _,h=>by simp[ű] at h
 | .ty _,h=>by simp[ű] at h
 | .cls _,h=>by simp[ű] at h
theorem gn:∀ps:List PV,aU ps=true->PyData.canLayAll0 (cZ ps)=true
 | [],_=>rfl
 |p::ps,h=>by
  unfold aU at h
  rw[Bool.and_eq_true] at h
  unfold cZ PyData.canLayAll0
  rw[dO p h.1,gn ps h.2]
  rfl
end
mutual
theorem dR:∀p:PV,(toD p).depth=dep p
 | .non=>rfl
 | .bl _=>rfl
 | .int _=>rfl
 | .str x=>rfl
 | .lst xs=>by unfold toD PyData.depth dep;rw[oG xs]
 | .tup xs=>by unfold toD PyData.depth dep;rw[oG xs]
 | .ins _ _ _=>rfl
 | .xc _ _ _=>rfl
 | .ty _=>rfl
 | .cls _=>rfl
theorem oG:∀ps:List PV,PyData.depthAll (cZ ps)=oE ps
 | []=>rfl
 |p::ps=>by unfold cZ PyData.depthAll oE;rw[dR p,oG ps]
end
mutual
theorem t_:∀p q:PV,ű p=true->ű q=true->PyData.eqv (toD p) (toD q)=eqB p q
 | .lst xs,.lst ys,h1,h2=>by
   unfold ű at h1 h2
   unfold toD eqB PyData.eqv
   exact uc xs ys h1 h2
 | .tup xs,.tup ys,h1,h2=>by
   unfold ű at h1 h2
   unfold toD eqB PyData.eqv
   exact uc xs ys h1 h2
 | .ins _ _ _,_,h,_=>by simp[ű] at h
 | .xc _ _ _,_,h,_=>by simp[ű] at h
 | .ty _,_,h,_=>by simp[ű] at h
 | .cls _,_,h,_=>by simp[ű] at h
 | .non,q,_,h=>by cases q<;>first|rfl|(simp[ű] at h)|(simp[toD,eqB,PyData.eqv])
 | .bl _,q,_,h=>by cases q<;>first|rfl|(simp[ű] at h)|(simp[toD,eqB,PyData.eqv])
 | .int _,q,_,h=>by cases q<;>first|rfl|(simp[ű] at h)|(simp[toD,eqB,PyData.eqv])
 | .str _,q,_,h=>by cases q<;>first|rfl|(simp[ű] at h;done)|(simp[toD,eqB,PyData.eqv])
 | .lst _,.non,_,_=>by simp[toD,eqB,PyData.eqv]
 | .lst _,.bl _,_,_=>by simp[toD,eqB,PyData.eqv]
 | .lst _,.int _,_,_=>by simp[toD,eqB,PyData.eqv]
 | .lst _,.str _,_,_=>by simp[toD,eqB,PyData.eqv]
 | .lst _,.tup _,_,_=>by simp[toD,eqB,PyData.eqv]
 | .lst _,.ins _ _ _,_,h=>by simp[ű] at h
 | .lst _,.xc _ _ _,_,h=>by simp[ű] at h
 | .lst _,.ty _,_,h=>by simp[ű] at h
 | .lst _,.cls _,_,h=>by simp[ű] at h
 | .tup _,.non,_,_=>by simp[toD,eqB,PyData.eqv]
 | .tup _,.bl _,_,_=>by simp[toD,eqB,PyData.eqv]
 | .tup _,.int _,_,_=>by simp[toD,eqB,PyData.eqv]
 | .tup _,.str _,_,_=>by simp[toD,eqB,PyData.eqv]
 | .tup _,.lst _,_,_=>by simp[toD,eqB,PyData.eqv]
 | .tup _,.ins _ _ _,_,h=>by simp[ű] at h
 | .tup _,.xc _ _ _,_,h=>by simp[ű] at h
 | .tup _,.ty _,_,h=>by simp[ű] at h
 | .tup _,.cls _,_,h=>by simp[ű] at h
theorem uc:∀ps qs:List PV,aU ps=true->aU qs=true->PyData.eqvAll (cZ ps) (cZ qs)=dN ps qs
 | [],[],_,_=>by simp[cZ,dN,PyData.eqvAll]
 | [],_::_,_,_=>by simp[cZ,dN,PyData.eqvAll]
 |_::_,[],_,_=>by simp[cZ,dN,PyData.eqvAll]
 |p::ps,q::qs,h1,h2=>by
  unfold aU at h1 h2
  rw[Bool.and_eq_true] at h1 h2
  unfold cZ dN PyData.eqvAll
  rw[t_ p q h1.1 h2.1,uc ps qs h1.2 h2.2]
end
mutual
theorem FZ{F:Hp}:∀(p:PV) (v:V),ű p=true->Rep K F p v->Rp K.K F (toD p) v
 | .non,_,_,r=>by unfold Rep at r;unfold toD Rp;exact r
 | .bl _,_,_,r=>by unfold Rep at r;unfold toD Rp;exact r
 | .int _,_,_,r=>by unfold Rep at r;unfold toD Rp;exact r
 | .str _,_,_,r=>by unfold Rep at r;unfold toD Rp;exact r
 | .lst xs,_,h,r=>by
   unfold ű at h
   unfold Rep at r
   unfold toD Rp
   obtain⟨a,vs,h1,h2,h3⟩:=r
   exact⟨a,vs,h1,h2,gQ xs vs h h3⟩
 | .tup xs,_,h,r=>by
   unfold ű at h
   unfold Rep at r
   unfold toD Rp
   obtain⟨a,vs,h1,h2,h3⟩:=r
   exact⟨a,vs,h1,h2,gQ xs vs h h3⟩
 | .ins _ _ _,_,h,_=>by simp[ű] at h
 | .xc _ _ _,_,h,_=>by simp[ű] at h
 | .ty _,_,h,_=>by simp[ű] at h
 | .cls _,_,h,_=>by simp[ű] at h
theorem gQ{F:Hp}:∀(ps:List PV) (vs:List V),aU ps=true->Ē K F ps vs->jU K.K F (cZ ps) vs
 | [],_,_,r=>by unfold Ē at r;unfold cZ jU;exact r
 |p::ps,_,h,r=>by
  unfold aU at h
  rw[Bool.and_eq_true] at h
  unfold Ē at r
  unfold cZ jU
  obtain⟨x,t,h1,h2,h3⟩:=r
  exact⟨x,t,h1,FZ p x h.1 h2,gQ ps t h.2 h3⟩
end
def gR{c:Ctx}{F H:Hp}{σ:L2.St}{ρ:ķ}{p:PV}{v:V}(s:Same F H)(h:ű p=true)(r:rR K c σ ρ F H p v):Rp K.K H (toD p) v:=by
 rcases r with r|r
 ·exact Rp.same s _ _ (FZ p v h r)
 ·cases p with
  |lst ps=>
   obtain⟨a,vs,rfl,h3,h4⟩:=r
   unfold ű at h
   unfold toD Rp
   exact⟨a,vs,rfl,Ř.of h3,jU.same s _ _ (gQ ps vs h h4)⟩
  |ins C ns ps=>simp[ű] at h
  |_=>exact r.elim
def qy(p q:PV):Bool:=ű p && ű q && decide (min (dep p) (dep q)<=60)
def ŝ(p q:PV):Option PV:=if qy p q=true then some (.bl (eqB p q)) else none
def cL(p q:PV):Option PV:=if qy p q=true then some (.bl (!eqB p q)) else none
def Nt:jL K (Ko K.K false) ŝ:=by
 intro c F H σ ρ p q pv v u Q rel r1 r2 e k
 unfold ŝ at e
 split at e
 ·rename_i hz
  cases e
  unfold qy at hz
  simp only[Bool.and_eq_true,decide_eq_true_eq] at hz
  refine⟨toD p,toD q,gR rel.sub hz.1.1 r1,gR rel.sub hz.1.2 r2,dO p hz.1.1,dO q hz.1.2,by rw[dR,dR];exact hz.2,?_⟩
  rw[t_ p q hz.1.1 hz.1.2]
  exact k _ F H rel (Same.refl _) (Same.refl _) Rep.bl
 ·cases e
def Ga:jL K (Ko K.K true) cL:=by
 intro c F H σ ρ p q pv v u Q rel r1 r2 e k
 unfold cL at e
 split at e
 ·rename_i hz
  cases e
  unfold qy at hz
  simp only[Bool.and_eq_true,decide_eq_true_eq] at hz
  refine⟨toD p,toD q,gR rel.sub hz.1.1 r1,gR rel.sub hz.1.2 r2,dO p hz.1.1,dO q hz.1.2,by rw[dR,dR];exact hz.2,?_⟩
  rw[t_ p q hz.1.1 hz.1.2]
  exact k _ F H rel (Same.refl _) (Same.refl _) Rep.bl
 ·cases e
def Nu:PV->Bool
 | .non=>true
 |_=>false
def CP(p q:PV):Option PV:=match q with
 | .non=>some (.bl (Nu p))
 |_=>none
def Lf{c:Ctx}{F H:Hp}{σ:L2.St}{ρ:ķ}{p:PV}{v:V}(r:rR K c σ ρ F H p v):decide (v=.non)=Nu p:=by
 rcases r with r|r
 ·cases p<;>unfold Rep at r<;>first
   |(subst r;rfl)
   |(obtain⟨a,xs,rfl,_⟩:=r;rfl)
   |(obtain⟨a,xs,ys,rfl,_⟩:=r;rfl)
 ·cases p with
  |lst ps=>obtain⟨a,vs,rfl,_⟩:=r;rfl
  |ins C ns ps=>obtain⟨a,dx,fs,rfl,_⟩:=r;rfl
  |_=>exact r.elim
def Nv:jL K (λx y H Q=>y=.non/\Q (.bl (decide (x=.non))) H) CP:=by
 intro c F H σ ρ p q pv v u Q rel r1 r2 e k
 unfold CP at e
 split at e
 ·cases e
  refine⟨r2.non,?_⟩
  rw[Lf r1]
  exact k _ F H rel (Same.refl _) (Same.refl _) Rep.bl
 ·cases e
def Ė:PV->PV->Option PV
 | .lst ps,.int i=>lX ps i
 | .tup ps,.int i=>lX ps i
 | .str z,.int i=>if z.length<=16777216 then(lX z.cps.toList i).map λc=>.str ⟨#[c]⟩ else none
 |_,_=>none
def Br{F:Hp}{ps:List PV}{vs:List V}{i:Int}{p:PV}(r:Ē K F ps vs)(h:lX ps i=some p):∃v,lX vs i=some v/\Rep K F p v:=by
 unfold lX at h ⊢
 rw[r.length] at h
 cases e:xW vs.length i with
 |none=>rw[e] at h;cases h
 |some j=>
  rw[e] at h
  obtain⟨v,h1,h2⟩:=bH r.pr h
  exact⟨v,h1,h2⟩
def ZaL:jL K (mIx K.K) Ė:=by
 intro c F H σ ρ p q pv v u Q rel r1 r2 e k
 unfold Ė at e
 split at e
 ·obtain⟨a,vs,rfl,h1,h2⟩:=r1.lst rel.sub
  cases r2.int
  obtain⟨x,h3,h4⟩:=Br h2 e
  exact⟨vs,x,.inl h1,h3,k _ F H rel (Same.refl _) (Same.refl _) h4⟩
 ·obtain⟨a,vs,rfl,h1,h2⟩:=r1.tup rel.sub
  cases r2.int
  obtain⟨x,h3,h4⟩:=Br h2 e
  exact⟨vs,x,.inr h1,h3,k _ F H rel (Same.refl _) (Same.refl _) h4⟩
 ·split at e
  ·rename_i z i hz
   cases r1.str
   cases r2.int
   cases ea:lX z.cps.toList i with
   |none=>rw[ea] at e;cases e
   |some cc=>
    rw[ea] at e
    cases e
    exact⟨cc,by rw[ĸ];exact hz,ea,k _ F H rel (Same.refl _) (Same.refl _) Rep.str⟩
  ·cases e
 ·cases e
def CQ:M (Option Int):=λρ=>.ok none ρ
def mP(m:M PV):M (Option Int):=λρ=>(m ρ).bind λp ρ1=>match p with
 | .int i=>.ok (some i) ρ1
 |_=>.bad
abbrev tP(K:KK)(E:L2.St->XK)(m:M (Option Int)):TO:=tG K E rI m
def yZ:PO X none (tP (kk X cm) E CQ):=λpins s σ H Q I h=>JX pins s σ H Q I (by
 obtain⟨c,F,ρ,rel,h⟩:=h
 exact h none F H rel (Same.refl _) (Same.refl _) rfl)
def bK(ha:PE X e (tV (kk X cm) E ma)):PO X (some e) (tP (kk X cm) E (mP ma)):=λpins s σ H Q I h=>Es ha pins s σ H Q I (by
 obtain⟨c,F,ρ,rel,h⟩:=h
 refine⟨c,F,ρ,rel,h.bind λp ρ1 v F1 H1 Ĕ _ _ r1 h1=>?_⟩
 cases p with
 |int i=>
  have e:v=.int i:=by have r1':Rep (kk X cm) F1 (.int i) v:=r1;unfold Rep at r1';exact r1'
  subst e
  exact h1 (some i) F1 H1 Ĕ (Same.refl _) (Same.refl _) rfl
 |_=>exact h1.elim)
def fB{α:Type}(xs:List α)(lo hi:Option Int):List α:= (xs.drop (HT.gZ xs.length 0 lo)).take (HT.gZ xs.length xs.length hi-HT.gZ xs.length 0 lo)
def Nx(p:PV)(lo hi:Option Int):Option RV:=match p with
 | .lst ps=>some (.ow (fB ps lo hi))
 | .str z=>if z.length<=16777216 then some (.sh (.str (S (fB z.cps.toList lo hi)))) else none
 |_=>none
def Gb(ma:M PV)(ml mh:M (Option Int)):M RV:=λρ=>(ma ρ).bind λp ρ1=>(ml ρ1).bind λlo ρ2=>(mh ρ2).bind λhi ρ3=>Res.mZ (Nx p lo hi) ρ3
def dU{ml mh:M (Option Int)}{lo hi:Option Expr}{p2:Pos}(ha:PE X a (tR (kk X cm) E ma))(hl:PO X lo (tP (kk X cm) E ml))(hh:PO X hi (tP (kk X cm) E mh)):PE X (.Subscript a (.Slice lo hi none p2) pos) (tO (kk X cm) E (Gb ma ml mh)):=
 PE.wk (Ei slm ha hl hh) fun σ H Q ⟨c,F,ρ,rel,h⟩=>⟨c,F,ρ,rel,h.bind fun p ρ1 v F1 H1 Ĕ _ _ r1 h1=>⟨c,F1,ρ1,Ĕ,h1.bind fun lo ρ2 lo' F2 H2 ĩ sF sH r2 h2=>⟨c,F2,ρ2,ĩ,h2.bind fun hi ρ3 hi' F3 H3 nU sF3 sH3 r3 h3=>by
   have e2:lo=lo':=r2
   have e3:hi=hi':=r3
   subst e2 e3
   have r1':rR (kk X cm) c σ ρ3 F3 H3 p v:=r1.mono (sF.trans sF3) (sH.trans sH3)
   cases p with
   |lst ps=>
    obtain⟨a,vs,rfl,q1,q2⟩:=r1'.lst nU.sub
    refine⟨vs,q1,λd hd=>?_⟩
    have e:Ē (kk X cm) F3 (fB ps lo hi) (vN vs lo hi):=by
     unfold fB vN
     rw[q2.length]
     exact Ē.of (Bc _ (Bd _ q2.pr))
    obtain⟨z1,z2⟩:=cY nU hd e
    exact h3 _ F3 _ z1 (Same.refl _) (Same.upd hd) z2
   |str z=>
    cases r1'.str
    unfold Nx at h3
    dsimp only at h3
    split at h3
    ·rename_i hz
     exact⟨by rw[ĸ];exact hz,h3 _ F3 H3 nU (Same.refl _) (Same.refl _) (Rep.str (K:=kk X cm) (F:=F3))⟩
    ·exact h3.elim
   |_=>exact h3.elim⟩⟩⟩
def wz{c:Ctx}{F H:Hp}{σ:L2.St}{ρ:ķ}{p:PV}{vs:List V}(h:YK K c σ ρ F H [p] vs):∃v,vs=[v]/\rR K c σ ρ F H p v:=by
 cases h with
 |cons r t=>cases t;exact⟨_,rfl,r⟩
def rl2{c:Ctx}{F H:Hp}{σ:L2.St}{ρ:ķ}{p q:PV}{vs:List V}(h:YK K c σ ρ F H [p,q] vs):∃v u,vs=[v,u]/\rR K c σ ρ F H p v/\rR K c σ ρ F H q u:=by
 cases h with
 |cons r t=>
  cases t with
  |cons r' t=>cases t;exact⟨_,_,rfl,r,r'⟩
def jm:List PV->Option PV
 | [.lst ps]=>some (.int ps.length)
 | [.tup ps]=>some (.int ps.length)
 | [.str z]=>if z.length<=16777216 then some (.int z.length) else none
 |_=>none
def gq:bJ K (VJ K.K) jm:=by
 intro c F H σ ρ ps pv vs Q rel r e k
 unfold jm at e
 split at e
 ·cases e
  obtain⟨v,rfl,r1⟩:=wz r
  obtain⟨a,xs,rfl,h1,h2⟩:=r1.lst rel.sub
  refine⟨xs,.inl h1,?_⟩
  rw[<-h2.length]
  exact k _ F H rel (Same.refl _) (Same.refl _) Rep.int
 ·cases e
  obtain⟨v,rfl,r1⟩:=wz r
  obtain⟨a,xs,rfl,h1,h2⟩:=r1.tup rel.sub
  refine⟨xs,.inr h1,?_⟩
  rw[<-h2.length]
  exact k _ F H rel (Same.refl _) (Same.refl _) Rep.int
 ·split at e
  ·rename_i hz
   cases e
   obtain⟨v,rfl,r1⟩:=wz r
   cases r1.str
   exact⟨by rw[ĸ];exact hz,k _ F H rel (Same.refl _) (Same.refl _) Rep.int⟩
  ·cases e
 ·cases e
def Lg:List PV->Option PV
 | [.int i]=>some (.int (if i<0 then -i else i))
 |_=>none
def Wx:bJ K mAbs Lg:=by
 intro c F H σ ρ ps pv vs Q rel r e k
 unfold Lg at e
 split at e
 ·cases e
  obtain⟨v,rfl,r1⟩:=wz r
  cases r1.int
  exact k _ F H rel (Same.refl _) (Same.refl _) Rep.int
 ·cases e
def q_:List PV->Option PV
 | [.int i,.int j]=>some (.int (if j<i then j else i))
 |_=>none
def Bs:List PV->Option PV
 | [.int i,.int j]=>some (.int (if j>i then j else i))
 |_=>none
def ud:bJ K Ep q_:=by
 intro c F H σ ρ ps pv vs Q rel r e k
 unfold q_ at e
 split at e
 ·cases e
  obtain⟨v,u,rfl,r1,r2⟩:=rl2 r
  cases r1.int
  cases r2.int
  exact k _ F H rel (Same.refl _) (Same.refl _) Rep.int
 ·cases e
def Li:bJ K Er Bs:=by
 intro c F H σ ρ ps pv vs Q rel r e k
 unfold Bs at e
 split at e
 ·cases e
  obtain⟨v,u,rfl,r1,r2⟩:=rl2 r
  cases r1.int
  cases r2.int
  exact k _ F H rel (Same.refl _) (Same.refl _) Rep.int
 ·cases e
def bf:List PV->Option RV
 | [.lst ps]=>some (.ow ps)
 | [.tup ps]=>some (.ow ps)
 |_=>none
def uf(K:PySem.W.Frag):List V->Hp->VK->Prop:=λxs H Q=>∃p ys,xs=[.ref p]/\(Ř K H p ys\/bW K H p ys)/\∀l,H l=none->Q (.ref l) (upd H l (.lst ys))
def aj:ņ X (.type "list") (uf X.K):=tu
def aL:Fv K (uf K.K) bf:=by
 intro c F H σ ρ ps pv vs Q rel r e k
 unfold bf at e
 split at e
 ·cases e
  obtain⟨v,rfl,r1⟩:=wz r
  obtain⟨a,xs,rfl,h1,h2⟩:=r1.lst rel.sub
  refine⟨a,xs,rfl,.inl h1,λl hl=>?_⟩
  obtain⟨q1,q2⟩:=cY rel hl h2
  exact k _ F _ q1 (Same.refl _) (Same.upd hl) q2
 ·cases e
  obtain⟨v,rfl,r1⟩:=wz r
  obtain⟨a,xs,rfl,h1,h2⟩:=r1.tup rel.sub
  refine⟨a,xs,rfl,.inr h1,λl hl=>?_⟩
  obtain⟨q1,q2⟩:=cY rel hl h2
  exact k _ F _ q1 (Same.refl _) (Same.upd hl) q2
 ·cases e
def jo:PV->String->Option Bool
 | .int _,"int" =>some true
 | .int _,"bool" =>some false
 | .int _,"str" =>some false
 | .int _,"tuple" =>some false
 | .int _,"list" =>some false
 | .bl _,"int" =>some true
 | .bl _,"bool" =>some true
 | .lst _,"list" =>some true
 | .lst _,"tuple" =>some false
 | .lst _,"int" =>some false
 | .lst _,"str" =>some false
 | .tup _,"tuple" =>some true
 | .tup _,"list" =>some false
 | .tup _,"int" =>some false
 | .tup _,"str" =>some false
 | .str _,"str" =>some true
 | .str _,"int" =>some false
 | .str _,"list" =>some false
 | .str _,"tuple" =>some false
 | .non,"int" =>some false
 | .non,"str" =>some false
 | .non,"tuple" =>some false
 | .non,"list" =>some false
 |_,_=>none
end
theorem wA{K:KK}{F:Hp}:∀ns:List Int,Ē K F (ns.map .int) (ns.map V.int)
 | []=>Ē.nil
 |n::ns=>Ē.cons Rep.int (wA ns)
def ZaM(K:PySem.W.Frag):Sp:=λvs H Q _=>∃(sa:Addr) (ns:List Int),vs=[.ref sa]/\Ř K H sa (ns.map V.int)/\ns.length<=63/\∀v H',v=.bl true->Q v H'
def Gd{l:PySem.W.OpenLaw}{k:Nat}{x:Str}{CX:jf}{m:MF}{q:Program}{loose:List Str}{XP:(Str->Option Value)->Heap->Prop}{YP:World->Heap->Prop}{d:DefRec}{K:Params->PySem.W.Frag}(hn:l.most=some 63)(hdf:d.params.defaults=[])(hr:Ŭ k callerA)
 (hY:∀(w:World) (h:Heap),YP w h->(K w.params).In h)
 (F:∀(w:World) (mg:Str→Option Value) (fa:Addr) (h:Heap),(K w.params).In h→h.Ns mainGlobals mg→mg d.name=some (.ref fa)→
   ∃fd:FuncData,(∀(s:Shared) (u:Value),BindsTo s fd ⟨[u],[]⟩ [(x,u)])/\∀base:Heap,(K w.params).In base->base.Ns mainGlobals mg->∃cm,ĥ l.prog w (K w.params) mg base CX k fa fd [x] (š ⟨K w.params,cm⟩ 1 m))
 (ht:∀ns:List Int,ns.length<=63->m [.sh (.lst (ns.map .int))]=.ret (.sh (.bl true)))
 (hCX:∀(H:Hp) (s:Shared) (e:Value) (s':Shared),CX [] H s (λ_ _ _=>False) e s'->False)
 (hnt:lams≠[]->∀w:World,PySem.W.noTabs (K w.params)=true:=by intro z;exact absurd rfl z)(hone:∀y z,y∈lams->z∈lams->y=z:=by simp[lams])(hrec:∀y,y∈lams->∃d,(recsOf q).find? (λe=>e.name== y)=some d:=by simp[lams]) :
 PySem.W.WalkO q loose XP YP l.row.toRowW d [] (λf vs=>PySem.call f vs):=by
 refine L2.Kf (n:=63) (k:=k) (x:=x) (CX:=λ_=>CX) (sp:=λw=>ZaM (K w.params)) hn (by decide) hdf hr hY (λw mg fa h h1 h2 h3=>?_) (λw H a ns hl _ hS=>⟨a,ns,rfl,hS,hl,λ_ _ z=>z⟩) (λw H s e s' z=>hCX H s e s' z) hnt hone hrec
 obtain⟨fd,hb,hF⟩:=F w mg fa h h1 h2 h3
 refine⟨fd,hb,λbase k1 k2=>?_⟩
 obtain⟨cm,G⟩:=hF base k1 k2
 refine G.imp λvs H Q E hs=>?_
 obtain⟨sa,ns,rfl,hS,hl,hq⟩:=hs
 refine⟨H,[.sh (.lst (ns.map .int))],rfl,Same.refl _,.cons ?_ .nil,?_⟩
 ·show Rep _ _ _ _
  unfold Rep
  exact⟨sa,_,rfl,hS,wA ns⟩
 ·rw[ht ns hl]
  intro v F' H' g rf
  have e:v=.bl true:=tU (K:=⟨K w.params,cm⟩) (F:=F') rf
  exact hq v H' e
end P
namespace P
open PySem PySem.Spec PyProof.Rows L2 M2 M3 M4
section
variable{X:Cx}{cm:String->Addr}{K:KK}
def TyP(K:PySem.W.Frag)(H:Hp)(x:V)(t:Value):Prop:=match x with
 | .non=>t=.type "NoneType"
 | .bl _=>t=.type "bool"
 | .int _=>t=.type "int"
 | .str _=>t=.type "str"
 | .ref a=>(t=.type "list" /\∃xs,Ř K H a xs)\/(t=.type "tuple" /\∃xs,bW K H a xs)\/jQ K H (.ref a) t
 |_=>False
def Ge(K:PySem.W.Frag):List V->Hp->VK->Prop:=λxs H Q=>match xs with
 | [x,.ty n]=>∃t b,TyP K H x t/\PySem.W.kitOne K t (.type n)=some b/\Q (.bl b) H
 | [x,.ref C]=>∃t b,TyP K H x t/\PySem.W.kitOne K t (.ref C)=some b/\Q (.bl b) H
 |_=>False
def Bt{pins:List (Addr×Obj)}{σ:L2.St}{H:Hp}{s:Shared}{A:Around}{E:Value->Shared->Prop}{Q:Value->Shared->Prop}{c:Value}{b:Bool}{x:V}{u t:Value}(I:Inv X pins σ H s)(rx:RelV x u)(ty:TyP X.K H x t)(e:PySem.W.kitOne X.K t c=some b)(h:∀tk,Q (.bool b) {s with toks:=tk}) :
 wpAny (model X.prog X.w) A (call (.builtin "isinstance") [u,c]) Q E s:=by
 cases x with
 |non=>cases(show t=_ from ty);exact cW I rx .non e h
 |bl y=>cases(show t=_ from ty);exact cW I rx (.bl y) e h
 |int y=>cases(show t=_ from ty);exact cW I rx (.int y) e h
 |str y=>cases(show t=_ from ty);exact cW I rx (.str y) e h
 |ref a=>
  cases(show u=Value.ref a from rx)
  rcases ty with⟨rfl,xs,hS⟩|⟨rfl,xs,hS⟩|ty
  ·obtain⟨its,r,⟨o,n,h1,h2,_⟩,_⟩:=I.list hS
   exact PySem.W.kia_one PySem.W.kitx_list I.jM ⟨o,h1,h2⟩ e (λz=>nomatch z) h
  ·obtain⟨its,r,⟨o,h1,h2,_⟩,_⟩:=I.tuple hS
   exact PySem.W.kia_one PySem.W.kitx_tuple I.jM ⟨o,h1,h2⟩ e (λz=>nomatch z) h
  ·exact cW I rx ty e h
 |_=>exact ty.elim
def ug:ņ X (.builtin "isinstance") (Ge X.K):=by
 intro pins s σ H xs us Q I r h
 unfold Ge at h
 split at h
 ·obtain⟨t,b,h1,h2,h3⟩:=h
  obtain⟨u,w',rfl,r1,r2⟩:=vals2 r
  cases r2
  exact Bt I r1 h1 h2 λtk=>⟨.bl b,H,I.tok _,rfl,h3⟩
 ·obtain⟨t,b,h1,h2,h3⟩:=h
  obtain⟨u,w',rfl,r1,r2⟩:=vals2 r
  cases r2
  exact Bt I r1 h1 h2 λtk=>⟨.bl b,H,I.tok _,rfl,h3⟩
 ·exact h.elim
def tyN:PV->String
 | .non=> "NoneType"
 | .bl _=> "bool"
 | .int _=> "int"
 | .str _=> "str"
 | .lst _=> "list"
 | .tup _=> "tuple"
 |_=> ""
def Gf{F:PySem.W.Frag}{p:PV}{n:String}{b:Bool}(h:jo p n=some b):PySem.W.kitOne F (.type (tyN p)) (.type n)=some b:=by
 unfold jo at h
 split at h<;>first
  |(cases h;first|rfl|decide +kernel|kernel_rfl)
  |cases h
def Lj{c:Ctx}{F H:Hp}{σ:L2.St}{ρ:ķ}{p:PV}{v:V}(s:Same F H)(r:rR K c σ ρ F H p v)(h:∃n b,jo p n=some b):TyP K.K H v (.type (tyN p)):=by
 obtain⟨n,b,h⟩:=h
 cases p with
 |non=>cases r.non;rfl
 |bl _=>cases r.bl;rfl
 |int _=>cases r.int;rfl
 |str _=>cases r.str;rfl
 |lst ps=>
  obtain⟨a,vs,rfl,h1,h2⟩:=r.lst s
  exact .inl ⟨rfl,vs,h1⟩
 |tup ps=>
  obtain⟨a,vs,rfl,h1,h2⟩:=r.tup s
  exact .inr (.inl ⟨rfl,vs,h1⟩)
 |ins _ _ _=>simp[jo] at h
 |xc _ _ _=>simp[jo] at h
 |ty _=>simp[jo] at h
 |cls _=>simp[jo] at h
def uh:List PV->Option PV
 | [p,.ty n]=>(jo p n).map .bl
 |_=>none
def um:bJ K (Ge K.K) uh:=by
 intro c F H σ ρ ps pv vs Q rel r e k
 unfold uh at e
 split at e
 ·rename_i p n
  obtain⟨v,u,rfl,r1,r2⟩:=rl2 r
  cases r2.ty
  cases eb:jo p n with
  |none=>rw[eb] at e;cases e
  |some b=>
   rw[eb] at e
   cases e
   exact⟨_,b,Lj rel.sub r1 ⟨n,b,eb⟩,Gf eb,k _ F H rel (Same.refl _) (Same.refl _) Rep.bl⟩
 ·cases e
def oH:List PV->Option PV
 | [.lst ps]=>some (.tup ps)
 | [.tup ps]=>some (.tup ps)
 |_=>none
def Gg(K:PySem.W.Frag):List V->Hp->VK->Prop:=λxs H Q=>∃p ys,xs=[.ref p]/\((Ř K H p ys/\∀l,H l=none->Q (.ref l) (upd H l (.tup ys)))\/(bW K H p ys/\Q (.ref p) H))
def Gh:ņ X (.type "tuple") (Gg X.K):=qt
def Gi:bJ K (Gg K.K) oH:=by
 intro c F H σ ρ ps pv vs Q rel r e k
 unfold oH at e
 split at e
 ·cases e
  obtain⟨v,rfl,r1⟩:=wz r
  obtain⟨a,xs,rfl,h1,h2⟩:=r1.lst rel.sub
  refine⟨a,xs,rfl,.inl ⟨h1,λl hl=>k _ _ _ (rel.alloc hl) (Same.upd (rel.sub.free hl)) (Same.upd hl) ?_⟩⟩
  unfold Rep
  exact⟨l,xs,rfl,bW.of ē,Ē.same (Same.upd (rel.sub.free hl)) _ _ h2⟩
 ·cases e
  obtain⟨v,rfl,r1⟩:=wz r
  have r1':=r1
  obtain⟨a,xs,rfl,h1,h2⟩:=r1.tup rel.sub
  refine⟨a,xs,rfl,.inr ⟨h1,k _ F H rel (Same.refl _) (Same.refl _) ?_⟩⟩
  rcases r1' with q|q
  ·exact q
  ·exact q.elim
 ·cases e
def boolsOf:List PV->Option (List Bool)
 | []=>some []
 | .bl b::ps=>(boolsOf ps).map (b:: ·)
 |_::_=>none
theorem rm{F:Hp}:∀{ps:List PV} {vs:List V} {bs:List Bool},Ē K F ps vs->boolsOf ps=some bs->vs=bs.map V.bl
 | [],vs,bs,r,h=>by
   cases h
   have r':=r.pr
   cases r'
   rfl
 |p::ps,vs,bs,r,h=>by
  cases p with
  |bl b=>
   unfold boolsOf at h
   cases eb:boolsOf ps with
   |none=>rw[eb] at h;cases h
   |some cs=>
    rw[eb] at h
    cases h
    have r':=r.pr
    cases r' with
    |cons r1 t=>
     rw[tU r1,rm (Ē.of t) eb]
     rfl
  |_=>simp[boolsOf] at h
def jW:List PV->Option PV
 | [.lst ps]=>(boolsOf ps).map λbs=>.bl (bs.all id)
 |_=>none
def oJ:bJ K (Wa K.K) jW:=by
 intro c F H σ ρ ps pv vs Q rel r e k
 unfold jW at e
 split at e
 ·rename_i ps
  obtain⟨v,rfl,r1⟩:=wz r
  obtain⟨a,xs,rfl,h1,h2⟩:=r1.lst rel.sub
  cases eb:boolsOf ps with
  |none=>rw[eb] at e;cases e
  |some bs=>
   rw[eb] at e
   cases e
   refine⟨bs,by rw[<-rm h2 eb];exact h1,k _ F H rel (Same.refl _) (Same.refl _) Rep.bl⟩
 ·cases e
end
end P
namespace P
open PySem PySem.Spec PyProof.Rows L2 M2 M3 M4
section
variable{α β:Type}{ρ:ķ}{i j n k:Nat}{p q:PV}{ps:List PV}{m ma mb mc:M PV}{mo:M RV}{a b:M Fl}{ta tb:M Bool}{mr:M (List PV)}{f:PV->PV->Option PV}{fo:PV->PV->Option RV}{fl:List PV->Option PV}{flo:List PV->Option RV}{g:Tg}{gs:Dw}
@[simp] theorem Zev:dz ρ=.ok .nx ρ:= rfl
@[simp] theorem Zc_:(KJ:M α) ρ=.bad:=rfl
@[simp] theorem Zda:ę a b ρ=(a ρ).bind λf ρ1=>match f with| .nx=>b ρ1|f=>.ok f ρ1:=rfl
@[simp] theorem Zdb:ģ i mo ρ=(mo ρ).bind λr ρ1=>.ok .nx (ρ1.set i r.slot):=rfl
@[simp] theorem Zdc:Ġ mo ρ=(mo ρ).bind λr ρ1=>.ok (.rt r) ρ1:=rfl
@[simp] theorem ZeI:mC p ρ=.ok p ρ:= rfl
@[simp] theorem Zew:ł m ρ=(m ρ).bind λp ρ1=>.ok (.sh p) ρ1:=rfl
@[simp] theorem Zdd:č mo ρ=(mo ρ).bind λr ρ1=>.ok r.val ρ1:=rfl
@[simp] theorem Zde:(RV.sh p).val=p:=rfl
@[simp] theorem Zdf:(RV.ow ps).val=.lst ps:=rfl
@[simp] theorem Zdg:(RV.sh p).slot=.sh p:=rfl
@[simp] theorem Zdh:(RV.ow ps).slot=.ow ps:=rfl
@[simp] theorem Zdi:ą f ma mb ρ=(ma ρ).bind λp ρ1=>(mb ρ1).bind λq ρ2=>Res.mZ (f p q) ρ2:=rfl
@[simp] theorem Zb6:į fo ma mb ρ=(ma ρ).bind λp ρ1=>(mb ρ1).bind λq ρ2=>Res.mZ (fo p q) ρ2:=rfl
@[simp] theorem Zex{u:PV->Option PV}:fU u ma ρ=(ma ρ).bind λp ρ1=>Res.mZ (u p) ρ1:=rfl
@[simp] theorem Zdj:au m ρ=(m ρ).bind λp ρ1=>Res.mZ (Wh p) ρ1:=rfl
@[simp] theorem Zey:fj m ρ=(m ρ).bind λp ρ1=>match p with| .bl b=>.ok b ρ1|_=>.bad:=rfl
@[simp] theorem Zb7:aB ta ρ=(ta ρ).bind λb ρ1=>.ok (!b) ρ1:=rfl
@[simp] theorem Zb8:jk ta tb ρ=(ta ρ).bind λb ρ1=>if b=true then tb ρ1 else .ok false ρ1:=rfl
@[simp] theorem Zdk:yQ ta tb ρ=(ta ρ).bind λb ρ1=>if b=true then .ok true ρ1 else tb ρ1:=rfl
@[simp] theorem Zdl:cX ma mb ρ=(ma ρ).bind fun p ρ1=>match p with| .bl b=>if b=true then mb ρ1 else .ok (.bl false) ρ1|_=>.bad:=by
  unfold cX
  congr
  funext p ρ1
  cases p with
  |bl b=>cases b<;>rfl
  |_=>rfl
@[simp] theorem Zdm:Wi ma ρ=(ma ρ).bind λp ρ1=>match p with| .bl b=>.ok (.bl (!b)) ρ1|_=>.bad:=rfl
@[simp] theorem ZaN{x y:M α}:cJ ta x y ρ=(ta ρ).bind λb ρ1=>if b=true then x ρ1 else y ρ1:=rfl
@[simp] theorem Zdn{f g:PV→PV→Option PV}:CJ f g ma mb mc ρ=(ma ρ).bind fun p ρ1=>(mb ρ1).bind fun q ρ2=>(Res.mZ (f p q) ρ2).bind fun z ρ3=>match z with
  | .bl true=>(mc ρ3).bind λw ρ4=>Res.mZ (g q w) ρ4
  | .bl false=>.ok (.bl false) ρ3
  |_=>.bad:=rfl
@[simp] theorem Zdo:ĕ ρ=.ok [] ρ:= rfl
@[simp] theorem Zb9:ă ma mr ρ=(ma ρ).bind λp ρ1=>(mr ρ1).bind λps ρ2=>.ok (p::ps) ρ2:=rfl
@[simp] theorem Zdp:Ŀ mr ρ=(mr ρ).bind λps ρ1=>if ps.length<=16777216 then .ok (.tup ps) ρ1 else .bad:=rfl
@[simp] theorem Zdq:ŭ mr ρ=(mr ρ).bind λps ρ1=>if ps.length<=16777216 then .ok (.ow ps) ρ1 else .bad:=rfl
@[simp] theorem Zez:bY fl mr ρ=(mr ρ).bind λps ρ1=>Res.mZ (fl ps) ρ1:=rfl
@[simp] theorem Zdr:iR flo mr ρ=(mr ρ).bind λps ρ1=>Res.mZ (flo ps) ρ1:=rfl
@[simp] theorem Zb_{mf:MF}{ms:M (List Slot)}:ċ mf ms ρ=(ms ρ).bind λps ρ1=>match mf ps with| .ret r=>.ok r ρ1| .exc x=>.exc x ρ1| .bad=>.bad:=rfl
@[simp] theorem ZeA:ě i ρ=(match ρ[i]? with|some (.sh p)=>.ok p ρ|some (.ow ps)=>.ok (.lst ps) (ρ.set i (.sh (.lst ps)))|some (.bn qs rows)=>.ok (.lst (.lst qs::rows)) ρ|_=>.bad):=rfl
@[simp] theorem ZeB:Ā i ρ=(match ρ[i]? with|some (.sh p)=>.ok p ρ|some (.ow ps)=>.ok (.lst ps) ρ|some (.bw ps)=>.ok (.lst ps) ρ|some (.rc C ns ps)=>.ok (.ins C ns ps) ρ|some (.bn qs rows)=>.ok (.lst (.lst qs::rows)) ρ|_=>.bad):=rfl
@[simp] theorem ZeC:b_ i ρ=(match ρ[i]? with|some (.sh p)=>.ok (.sh p) ρ|some (.ow ps)=>.ok (.ow ps) (ρ.set i .no)|_=>.bad):=rfl
@[simp] theorem Zds:CK g m ρ=(m ρ).bind λp ρ1=>match g p ρ1 with|some ρ2=>.ok .nx ρ2|none=>.bad:=rfl
@[simp] theorem Gj:gN i p ρ=some (ρ.set i (.sh p)):=rfl
@[simp] theorem ZaO:ŷ [] ρ=some ρ:= rfl
@[simp] theorem YM:ġ g gs (p::ps) ρ=(g p ρ).bind λρ1=>gs ps ρ1:=rfl
@[simp] theorem ZeD:gT n gs (.tup ps) ρ=if ps.length=n then gs ps ρ else none:=rfl
@[simp] theorem Zdt:yU i m ρ=(match ρ[i]? with
  |some (.ow _)=>(m ρ).bind λp ρ1=>match ρ1[i]? with
   |some (.ow ps)=>if ps.length<16777216 then .ok .nx (ρ1.set i (.ow (ps ++ [p]))) else .bad
   |_=>.bad
  |_=>.bad):=rfl
@[simp] theorem ZaP{mi:M PV}:yR i mi m ρ=(m ρ).bind fun p ρ1=>match ρ1[i]? with
  |some (.ow _)=>(mi ρ1).bind λq ρ2=>match ρ2[i]?,q with
   |some (.ow ps),.int k=>match xW ps.length k with
    |some j=>.ok .nx (ρ2.set i (.ow (ps.set j p)))
    |none=>.bad
   |_,_=>.bad
  |_=>.bad:=rfl
@[simp] theorem Zdu:CQ ρ=.ok none ρ:= rfl
@[simp] theorem ZeJ:mP m ρ=(m ρ).bind λp ρ1=>match p with| .int i=>.ok (some i) ρ1|_=>.bad:=rfl
@[simp] theorem ZeE{ml mh:M (Option Int)}:Gb ma ml mh ρ=(ma ρ).bind λp ρ1=>(ml ρ1).bind λlo ρ2=>(mh ρ2).bind λhi ρ3=>Res.mZ (Nx p lo hi) ρ3:=rfl
@[simp] theorem Zdv{lo hi:Option Int}:Nx (.lst ps) lo hi=some (.ow (fB ps lo hi)):=rfl
@[simp] theorem ZaQ:ŏ m ρ=(m ρ).bind fun p ρ1=>match p with
  | .lst ps=>.ok ps ρ1
  | .tup ps=>.ok ps ρ1
  | .str z=>.ok (z.cps.toList.map λc=>.str ⟨#[c]⟩) ρ1
  |_=>.bad:=rfl
@[simp] theorem ZaR{h:List PV->Option (List PV)}:ſ h mr ρ=(mr ρ).bind λps ρ1=>Res.mZ (h ps) ρ1:=rfl
@[simp] theorem Gk{mi:M (List PV)}:fu mi g b ρ=(mi ρ).bind λitems ρ1=>forL g b items ρ1:=rfl
@[simp] theorem Zca{js:List Nat}{nl:Nat}{mi:M (List PV)}{mt:M Bool}{me:M PV}:Ń js nl mi g mt me ρ=(mi ρ).bind fun items ρ1=>match ĺ g mt me items (nY js nl ρ1) [] with
  |some ps=>.ok (.ow ps) ρ1
  |none=>.bad:=rfl
@[simp] theorem Zdw:ı ρ=.ok true ρ:= rfl
@[simp] theorem Zdx{mbd:M Fl}{as:List Slot}:Ĳ n k mbd as=if as.length=n then FR.of (mbd (startP k as)) else .bad:=rfl
@[simp] theorem Zdy{r:RV}:FR.of (.ok (.rt r) ρ)=.ret r:=rfl
@[simp] theorem Zdz:FR.of (.ok .nx ρ)=.ret (.sh .non):=rfl
@[simp] theorem ZdA{x:PX}:FR.of (.exc x ρ)=.exc x:=rfl
@[simp] theorem ZdB:FR.of .bad=.bad:=rfl
@[simp] theorem ZaS{as:List Slot}:startP k as=as++List.replicate (k-as.length) .no:=rfl
@[simp] theorem Zcb:Ĉ ρ=.ok [] ρ:= rfl
@[simp] theorem ZaT{ms:M (List Slot)}:Ċ ma ms ρ=(ma ρ).bind λp ρ1=>(ms ρ1).bind λas ρ2=>.ok (.sh p::as) ρ2:=rfl
@[simp] theorem ZaU{ms:M (List Slot)}:ā i ms ρ=(match(ρ[i]?).bind cj with
  |none=>.bad
  |some _=>(ms ρ).bind λas ρ2=>match(ρ2[i]?).bind cj with
   |some s=>.ok (s::as) ρ2
   |none=>.bad):=rfl
@[simp] theorem ZdC:cj (.sh p)=some (.sh p):=rfl
@[simp] theorem ZdD:cj (.ow ps)=some (.bw ps):=rfl
@[simp] theorem ZdE{qs rows:List PV}:cj (.bn qs rows)=some (.sh (.lst (.lst qs::rows))):=rfl
@[simp] theorem ZdF:cj (.bw ps)=some (.bw ps):=rfl
@[simp] theorem ZdG:tW (.sh p)=.sh p:=rfl
@[simp] theorem ZdH:tW (.ow ps)=.bw ps:=rfl
@[simp] theorem ZdI:tW (.bw ps)=.bw ps:=rfl
@[simp] theorem ZdJ{js:List Nat}{nl:Nat}:nY js nl ρ=js.map (λ(j:Nat)=>tW ((ρ[j]?).getD .no))++List.replicate nl .no:=rfl
@[simp] theorem za:ŋ i ρ=(match ρ[i]? with
  |some (.bw ps)=>.ok ps ρ
  |some (.sh (.lst ps))=>.ok ps ρ
  |some (.sh (.tup ps))=>.ok ps ρ
  |some (.sh (.str z))=>.ok (z.cps.toList.map λc=>.str ⟨#[c]⟩) ρ
  |some (.ow ps)=>.ok ps (ρ.set i (.sh (.lst ps)))
  |_=>.bad):=rfl
@[simp] theorem Zcc{x y:Int}:ĭ (.int x) (.int y)=some (.sh (.int (x+y))):=rfl
@[simp] theorem Zcd{x y:Int}:Ŋ (.int x) (.int y)=some (.int (x-y)):=rfl
@[simp] theorem Zce{x y:Int}:Ģ (.int x) (.int y)=if ń x y=true then some (.int (x*y)) else none:=rfl
@[simp] theorem Zcf{x y:Int}:ŧ (.int x) (.int y)=if gb x y=true then some (.int (x.fdiv y)) else none:=rfl
@[simp] theorem Zcg{x y:Int}:ŀ (.int x) (.int y)=if Bq x y=true then some (.int (x.fmod y)) else none:=rfl
@[simp] theorem Zch{x y:Int}:qZ (.int x) (.int y)=if wu x y=true then some (.int (x ^ y.toNat)) else none:=rfl
@[simp] theorem Zci{x y:Int}:jl (.int x) (.int y)=if nZ x y=true then some (.int (x*2 ^ y.toNat)) else none:=rfl
@[simp] theorem Zcj{x:Int}:gj (.int x)=some (.int (-x)):=rfl
@[simp] theorem ZdK{x y:Int}:tY (.int x) (.int y)=some (.bl (decide (x<y))):=rfl
@[simp] theorem ZdL{x y:Int}:tZ (.int x) (.int y)=some (.bl (decide (x<=y))):=rfl
@[simp] theorem ZdM{x y:Int}:Le (.int x) (.int y)=some (.bl (decide (y<x))):=rfl
@[simp] theorem ZdN{x y:Int}:FT (.int x) (.int y)=some (.bl (decide (y<=x))):=rfl
@[simp] theorem ZdO{x y:Int}:ŝ (.int x) (.int y)=some (.bl (decide (x=y))):=by
  have h:eqB (.int x) (.int y)=decide (x=y):=by rw[eqB.eq_def];rfl
  rw[<-h];rfl
@[simp] theorem ZdP{x y:Int}:cL (.int x) (.int y)=some (.bl (!decide (x=y))):=by
  have h:eqB (.int x) (.int y)=decide (x=y):=by rw[eqB.eq_def];rfl
  rw[<-h];rfl
@[simp] theorem ZdQ{x y:Bool}:ŝ (.bl x) (.bl y)=some (.bl (x== y)):=rfl
@[simp] theorem ZdR{x y:Bool}:cL (.bl x) (.bl y)=some (.bl (!(x== y))):=rfl
@[simp] theorem ZdS{p:PV}:CP p .non=some (.bl (Nu p)):=rfl
@[simp] theorem ZdT{x:Int}:Ė (.lst ps) (.int x)=lX ps x:=rfl
@[simp] theorem ZdU{x:Int}:Ė (.tup ps) (.int x)=lX ps x:=rfl
@[simp] theorem uo:jm [.lst ps]=some (.int ps.length):=rfl
@[simp] theorem Zck:jm [.tup ps]=some (.int ps.length):=rfl
@[simp] theorem ZdV{x:Int}:Lg [.int x]=some (.int (if x<0 then -x else x)):=rfl
@[simp] theorem ZdW{x y:Int}:q_ [.int x,.int y]=some (.int (if y<x then y else x)):=rfl
@[simp] theorem ZdX{x y:Int}:Bs [.int x,.int y]=some (.int (if y>x then y else x)):=rfl
@[simp] theorem ZaV:bf [.lst ps]=some (.ow ps):=rfl
@[simp] theorem ZaW:bf [.tup ps]=some (.ow ps):=rfl
@[simp] theorem Zcl:oH [.lst ps]=some (.tup ps):=rfl
@[simp] theorem Zcm:oH [.tup ps]=some (.tup ps):=rfl
@[simp] theorem ZdY{t:String}:uh [p,.ty t]=(jo p t).map .bl:=rfl
@[simp] theorem Zcn{x:Bool}:Wh (.bl x)=some x:=rfl
@[simp] theorem Zco{x:Int}:Wh (.int x)=some (x != 0):=rfl
@[simp] theorem Zcp:Wh (.lst ps)=some (!ps.isEmpty):=rfl
@[simp] theorem Gm(xs:List α)(n:Nat):lX xs (n:Int)=xs[n]?:= by
  unfold lX xW
  rw[if_pos (by omega)]
  by_cases h:n<xs.length
  ·rw[if_pos (by omega)]
   simp
  ·rw[if_neg (by omega)]
   simp
   omega
@[simp] theorem Zcq(xs:List α)(n:Nat):lX xs (no_index (OfNat.ofNat n):Int)=xs[(no_index (OfNat.ofNat n):Nat)]?:= Gm xs n
@[simp] theorem YQ{x y:Int}:Bq x y=decide (y≠0):=rfl
end
def Ÿ{x y:Int}(h1: -(2 ^ 64)<x)(h2:x<2 ^ 64):ń x y=true:=by unfold ń;rw[decide_eq_true (by omega:x.natAbs<18446744073709551616)];rfl
def mul_r{x y:Int}(h1: -(2 ^ 64)<y)(h2:y<2 ^ 64):ń x y=true:=by unfold ń;rw[decide_eq_true (by omega:y.natAbs<18446744073709551616)];simp
def ZaX{x y:Int}(h1:bits x<=1048576)(h2:bits y<=1048576):ń x y=true:=by unfold ń;simp[h1,h2]
def wB{x y:Int}(h1:y≠0)(h2:bits y<=8000):gb x y=true:=by unfold gb;simp[h1,h2]
section
variable{g:Tg}{mb:M Fl}{mc mt:M Bool}{me:M PV}{items:List PV}{ρ:ķ}
theorem Ļ{α:Type}(c f:α->PV)(I:ķ->Prop):∀(xs:List α) (ρ:ķ) (acc:List PV),I ρ->acc.length+xs.length<=16777216->
 (∀x∈xs,∀ρ,I ρ->∃ρ1 ρ2 ρ3,g (c x) ρ=some ρ1/\mt ρ1=.ok true ρ2/\me ρ2=.ok (f x) ρ3/\I ρ3)->ĺ g mt me (xs.map c) ρ acc=some (acc++xs.map f)
 | [],ρ,acc,_,_,_=>by simp[ĺ]
 |x::xs,ρ,acc,h,hz,hs=>by
  obtain⟨ρ1,ρ2,ρ3,h1,h2,h3,h4⟩:=hs x List.mem_cons_self ρ h
  rw[List.map_cons,ĺ,h1]
  dsimp only
  rw[h2]
  dsimp only
  rw[h3]
  dsimp only
  rw[if_pos (by simp at hz;omega),Ļ c f I xs ρ3 (acc ++ [f x]) h4 (by simp at hz ⊢;omega) λy hy=>hs y (List.mem_cons_of_mem _ hy)]
  simp
def zc{β:Type}(st:β->ķ)(I:β->Prop)(μ:β->Nat)(hs:∀b,I b->mc (st b)=.ok false (st b)\/(mc (st b)=.ok true (st b)/\∃b',mb (st b)=.ok .nx (st b')/\I b'/\μ b' < μ b)){b:β}(h0:I b) :
 ∃b',Š mc mb (st b)=.ok .nx (st b')/\I b'/\mc (st b')=.ok false (st b'):=by
 have go:∀n b,μ b<=n->I b->∃b',Š mc mb (st b)=.ok .nx (st b')/\I b'/\mc (st b')=.ok false (st b'):=by
  intro n
  induction n with
  |zero=>
   intro b hn hi
   rcases hs b hi with e|⟨e,b',_,_,hl⟩
   ·exact⟨b,by rw[fX,e];rfl,hi,e⟩
   ·omega
  |succ n ih=>
   intro b hn hi
   rcases hs b hi with e|⟨e,b',e2,hi',hl⟩
   ·exact⟨b,by rw[fX,e];rfl,hi,e⟩
   ·obtain⟨b2,q1,q2⟩:=ih b' (by omega) hi'
    refine⟨b2,?_,q2⟩
    rw[fX,e]
    simp only[Res.Ű,if_true,e2]
    exact q1
 exact go (μ b) b (Nat.le_refl _) h0
end
end P
namespace P
open PySem PySem.Spec PyProof.Rows L2 M2 M3 M4
def oK(Q:String->Prop):List String->Prop
 | []=>True
 |c::cs=>Q c/\oK Q cs
theorem oK.get{Q:String->Prop}:∀{cs:List String} {C:String},oK Q cs->cs.contains C=true->Q C
 | [],_,_,h=>by simp at h
 |c::cs,C,⟨h1,h2⟩,h=>by
  by_cases e:C=c
  ·rw[e];exact h1
  ·refine h2.get ?_
   rw[List.contains_cons] at h
   have:(C== c)=false:=by simpa using e
   rw[this,Bool.false_or] at h
   exact h
section
variable{X:Cx}{cm:String->Addr}{K:KK}{E:L2.St->XK}{a b e o:Expr}{es:List Expr}{pos apos:Pos}{m ma mb:M PV}{f:Str}
theorem oM{F:Hp}:∀{fs:List (Str×V)} {ps:List PV} {p:PV},Ē K F ps (fs.map (·.2))->((fs.map (·.1)).zip ps).lookup f=some p->∃v,fs.lookup f=some v/\Rep K F p v
 | [],ps,p,_,h=>by simp at h
 |(g,v)::fs,ps,p,r,h=>by
  have r':=r.pr
  rw[List.map_cons] at r'
  cases r' with
  |cons r1 t=>
   rename_i q qs
   rw[List.map_cons,List.zip_cons_cons,List.lookup_cons] at h
   rw[List.lookup_cons]
   cases hg:f== g with
   |true=>
    simp only[hg] at h
    cases h
    exact⟨v,rfl,r1⟩
   |false=>
    simp only[hg] at h
    exact oM (Ē.of t) h
theorem rR.ins{c:Ctx}{F H:Hp}{σ:L2.St}{ρ:ķ}{C:String}{ns:List Str}{ps:List PV}{v:V}(s:Same F H)(h:rR K c σ ρ F H (.ins C ns ps) v):∃a dx fs,v=.ref a/\H a=some (.ins (K.cm C) dx fs)/\fs.map (·.1)=ns/\Ē K F ps (fs.map (·.2)):=by
 rcases h with h|h
 ·unfold Rep at h
  obtain⟨a,dx,fs,h1,h2,h3,h4⟩:=h
  exact⟨a,dx,fs,h1,s _ _ h2,h3,h4⟩
 ·exact h
def œ(cs:List String)(f:Str):PV->Option PV
 | .ins C ns ps=>if cs.contains C=true then(ns.zip ps).lookup f else none
 |_=>none
def ś(cs:List String)(hcs:oK (λC=>Cls X.K (cm C)/\Ķ X.K (cm C) f) cs)(he:PE X e (tR (kk X cm) E m))(hb:attributeBase e f X.env (eval e X.env)=eval e X.env:=by rfl):PE X (.Attribute e f pos) (tV (kk X cm) E (fU (œ cs f) m)):=
 PE.wk (Vo he hb) fun σ H Q ⟨c,F,ρ,rel,h⟩=>⟨c,F,ρ,rel,h.bind fun p ρ1 v F1 H1 Ĕ _ _ r1 h1=>by
   cases p with
   |ins C ns ps=>
    unfold œ at h1
    dsimp only at h1
    split at h1
    ·rename_i hc
     obtain⟨a,dx,fs,rfl,q2,q3,q4⟩:=r1.ins Ĕ.sub
     cases el:(ns.zip ps).lookup f with
     |none=>rw[el] at h1;exact h1.elim
     |some q=>
      rw[el] at h1
      subst q3
      obtain⟨v,e1,e2⟩:=oM q4 el
      obtain⟨k1,k2⟩:=hcs.get hc
      exact⟨a,_,dx,fs,v,rfl,q2,k1,k2,e1,h1 v F1 H1 Ĕ (Same.refl _) (Same.refl _) e2⟩
    ·exact h1.elim
   |_=>exact h1.elim⟩
def Gn(X:Cx)(cm:String->Addr)(CX:jf)(k n:Nat)(m:Str)(C:String)(mf:MF):Prop:=Cls X.K (cm C)/\∃f fd ps,Meth X.K (cm C) m f/\ĥ X.prog X.w X.K X.mg X.base CX k f fd ps (š (kk X cm) n mf)/\Binds X.K fd ps []/\
 ∀{ps:List Slot},(∃r,mf ps=r/\∀z,r=z->z≠ .bad)->ps.length=n
def Gp(Q:String->MF->Prop):List (String×MF)->Prop
 | []=>True
 |(c,mf)::cs=>Q c mf/\Gp Q cs
theorem Gp.get{Q:String->MF->Prop}:∀{cs:List (String×MF)} {C:String} {mf:MF},Gp Q cs->cs.lookup C=some mf->Q C mf
 | [],_,_,_,h=>by simp at h
 |(c,g)::cs,C,mf,⟨h1,h2⟩,h=>by
  rw[List.lookup_cons] at h
  cases hc:C== c with
  |true=>
   rw[hc] at h
   cases h
   have:C=c:=by simpa using hc
   rw[this];exact h1
  |false=>
   rw[hc] at h
   exact h2.get h
def dg(m:Str)(gP:List (String×MF))(mo:M PV)(ms:M (List Slot)):M RV:=λρ=>(mo ρ).bind λp ρ1=>match p with
 | .ins C ns ps=>match gP.lookup C with
   |some mf=>if ns.contains m=true then .bad else(ms ρ1).bind λas ρ2=>match mf (.sh (.ins C ns ps)::as) with
    | .ret r=>.ok r ρ2
    | .exc x=>.exc x ρ2
    | .bad=>.bad
   |none=>.bad
 |_=>.bad
theorem rC{m:Str}:∀{fs:List (Str×V)},(fs.map (·.1)).contains m=false->fs.lookup m=none
 | [],_=>rfl
 |(g,v)::fs,h=>by
  rw[List.map_cons,List.contains_cons,Bool.or_eq_false_iff] at h
  rw[List.lookup_cons,h.1]
  exact rC h.2
variable{CX:jf}{k n:Nat}{Dz:Str}{gP:List (String×MF)}{ms:M (List Slot)}
def Gq{c:Ctx}{F H:Hp}{σ:L2.St}{ρ:ķ}{Q:VK}(rel:Rel (kk X cm) c F H σ ρ)(h:ų (kk X cm) E (rO (kk X cm)) c F H σ Q (dg Dz gP m ms ρ))(Wy:Gp (λC mf=>Gn X cm CX k n Dz C mf) gP) :
 ų (kk X cm) E (rV (kk X cm)) c F H σ (λx H1=>∃a C dx fs g fd ps mf,x=.ref a/\H1 a=some (.ins C dx fs)/\Cls X.K C/\Meth X.K C Dz g/\fs.lookup Dz=none/\ĥ X.prog X.w X.K X.mg X.base CX k g fd ps (š (kk X cm) n mf)/\Binds X.K fd ps []/\
  tA (kk X cm) E ms σ H1 λvs H2=>š (kk X cm) n mf (.ref a::vs) H2 Q (E σ)) (m ρ):=
 ų.bind h λp ρ1 v F1 H1 Ĕ _ _ r1 h1=>by
  cases p with
  |ins C ns ps=>
   dsimp only at h1
   cases el:gP.lookup C with
   |none=>rw[el] at h1;exact h1.elim
   |some mf=>
    rw[el] at h1
    dsimp only at h1
    split at h1
    ·exact h1.elim
    ·rename_i hn
     obtain⟨k1,f,fd,qs,k2,k3,k4,k5⟩:=Wy.get el
     have r1':Rep (kk X cm) F1 (.ins C ns ps) v:=r1
     have r2:=r1'
     unfold Rep at r2
     obtain⟨a,dx,fs,rfl,q2,q3,q4⟩:=r2
     refine⟨a,_,dx,fs,f,fd,qs,mf,rfl,Ĕ.sub _ _ q2,k1,k2,rC (by rw[q3];simpa using hn),k3,k4,c,F1,ρ1,Ĕ,ų.bind h1 λas ρ2 vs F2 H2 ĩ sF sH r3 h3=>?_⟩
     exact wg (vs:=.ref a::vs) k5 ĩ (.cons (show aP _ _ _ (.sh _) _ from Rep.same sF _ _ r1') r3) h3
  |_=>exact h1.elim
def uq{pl:Sem Bool}(Wy:Gp (λC mf=>Gn X cm CX k n Dz C mf) gP)(hr:Ŭ k X.A)(hx:cu CX X E)(he:PE X o (tV (kk X cm) E m))
 (ht:eval (.Call (.Attribute o Dz apos) [] [] pos) X.env=(do
   let ov <-eval o X.env
   standAt apos.atName
   let (f,first) <-holding [ov] (getMethod ov Dz pl)
   callWith pos f first (backTo pos (starEach [] X.env)) (backToKw pos (keywordEach [] X.env))):=by rfl) :
 PE X (.Call (.Attribute o Dz apos) [] [] pos) (tO (kk X cm) E (dg Dz gP m Ĉ)):=by
 intro pins s σ H Q I ⟨c,F,ρ,rel,h⟩
 refine PySem.W.methodCall_KW (pl:=pl) (Ŏ (he pins s σ H _ I ⟨c,F,ρ,rel,Gq rel h Wy⟩) λu s1 ⟨x,H1,I1,rx,a,C,dx,fs,g,fd,ps,mf,ex,ea,cl,k2,l,k3,k4,q⟩=>?_) ht
 subst ex
 obtain rfl:u=Value.ref a:=rx
 refine yD I1 ea cl k2 l ?_
 obtain⟨c1,F1,ρ1,Ĕ,q⟩:=q
 exact PySem.W.callWith_K0 (first:=[.ref a]) I1.jM k2.kp (Bp (us:=[.ref a]) (vs:=[.ref a]) k3 hr k4 hx I1 (.cons rfl .nil) (q [] F1 H1 Ĕ (Same.refl _) (Same.refl _) .nil))
def putN(f:Str):List Str->List Str
 | []=>[f]
 |g::r=>if g=f then g::r else g::putN f r
def wC(f:Str)(p:PV):List Str->List PV->List PV
 | [],_=>[p]
 |g::r,q::qs=>if g=f then p::qs else q::wC f p r qs
 |_::_,[]=>[]
theorem Bu{F:Hp}{p:PV}{y:V}(ry:Rep K F p y):∀{fs:List (Str×V)} {ps:List PV},Ē K F ps (fs.map (·.2))->(dF f y fs).map (·.1)=putN f (fs.map (·.1))/\Ē K F (wC f p (fs.map (·.1)) ps) ((dF f y fs).map (·.2))
 | [],ps,r=>⟨rfl,Ē.cons ry Ē.nil⟩
 |(g,v)::fs,ps,r=>by
  have r':=r.pr
  rw[List.map_cons] at r'
  cases r' with
  |cons r1 t=>
   rename_i q qs
   unfold dF
   rw[List.map_cons]
   unfold putN wC
   by_cases hg:g=f
   ·rw[if_pos hg,if_pos hg,if_pos hg]
    exact⟨rfl,Ē.cons ry (Ē.of t)⟩
   ·rw[if_neg hg,if_neg hg,if_neg hg]
    obtain⟨h1,h2⟩:=Bu ry (Ē.of t)
    exact⟨by rw[List.map_cons,h1],Ē.cons r1 h2⟩
def gw(i:Nat)(cs:List String)(f:Str)(mv:M PV):M Fl:=λρ=>(mv ρ).bind λp ρ1=>match ρ1[i]? with
 |some (.rc C ns ps)=>if cs.contains C=true/\ns.length<1000 then .ok .nx (ρ1.set i (.rc C (putN f ns) (wC f p ns ps))) else .bad
 |_=>.bad
def ak{i:Nat}{x:Str}{px pos':Pos}(cs:List String)(hcs:oK (λC=>Cls X.K (cm C)/\Ķ X.K (cm C) f) cs)(ho:PE X (.Name x px) (eZ i))(he:PE X e (tV (kk X cm) E m))(hs:swapsWith e (some (.Attribute (.Name x px) f pos')) pos.line X.env=pure false:=by rfl) :
 PS X (.Assign [.Attribute (.Name x px) f pos'] e pos) (tS (kk X cm) E (gw i cs f m)):=PS.wk (Vp ho he hs) λD σ H ⟨c,F,ρ,rel,h⟩=>⟨c,F,ρ,rel,Ş.bind h λp ρ1 y F1 H1 Ĕ s1 ry h1=>by
 cases e1:ρ1[i]? with
 |none=>rw[e1] at h1;exact h1.elim
 |some sl=>
  rw[e1] at h1
  cases sl with
  |rc C ns ps=>
   dsimp only at h1
   split at h1
   ·rename_i hc
    obtain⟨a,dx,fs,q1,q2,q3,q4,q5,q6,q7⟩:=Ĕ.slot i _ e1
    subst q5
    obtain⟨k1,k2⟩:=hcs.get hc.1
    refine⟨.ref a,at_of q1,a,_,dx,fs,rfl,q2,k1,k2,by simpa using hc.2,?_⟩
    obtain⟨z1,z2⟩:=Bu (f:=f) (p:=p) ry q6
    exact h1 σ F1 _ (Ĕ.write ⟨_,_,e1,at_of q1,rfl⟩ (at_of q1) ⟨a,dx,_,rfl,ē,q3,q4,z1,z2,q7⟩ λ_ z=>(V.ref.inj z).symm) (Same.refl _)
   ·exact h1.elim
  |_=>exact h1.elim⟩
inductive IR where
 |ok (ns:List Str) (ps:List PV)|exc (x:PX)|bad
abbrev MI:=List Slot->IR
def IR.of:Res Fl->IR
 | .ok .nx (.rc _ ns ps::_)=>.ok ns ps
 | .exc x _=>.exc x
 |_=>.bad
def bL(n k:Nat)(C:String)(mb:M Fl):MI:=λas=>if as.length+1=n then IR.of (mb (.rc C [] []::startP (k-1) as)) else .bad
structure GrB(a:Addr)(F H F' H':Hp):Prop where
 h:∀b u,b≠a->H b=some u->H' b=some u
 f:Same F F'
 sub:Same F' H'
 out:∀b,b≠a->H b≠none->F b=none->F' b=none
def ZdZ(K:KK)(E:XK)(F H:Hp)(Q:VK)(a dx:Addr)(C:String):IR->Prop
 | .ok ns ps=>∀F' H' fs,GrB a F H F' H'->H' a=some (.ins (K.cm C) dx fs)->F' a=none->fs.map (·.1)=ns->Ē K F' ps (fs.map (·.2))->Q .non H'
 | .exc x=>∀C' d F' H',GrB a F H F' H'->Kz K F' x C' d->E C' d H'
 | .bad=>False
def CT(K:KK)(n:Nat)(C:String)(mi:MI):Sp:=λvs H Q E=>∃F a dx vs' as,vs=.ref a::vs'/\as.length+1=n/\H a=some (.ins (K.cm C) dx [])/\F a=none/\Same F H/\Paired (aP K F H) as vs'/\ZdZ K E F H Q a dx C (mi as)
def Lk(a dx:Addr)(C:String)(F H:Hp):Ctx:=⟨λb=>if b=a then none else H b,F,λb=>if b=a then none else(ctx0 F H).L b,λa' dx' C'=>a'=a/\dx'=dx/\C'=C⟩
def Rel.gri{σ:L2.St}{ρ:ķ}{a dx:Addr}{C:String}{F H F' H':Hp}(r:Rel K (Lk a dx C F H) F' H' σ ρ):GrB a F H F' H':=
 ⟨λb u hb e=>r.base b u (by show(if b=a then none else H b)=_;rw[if_neg hb];exact e),r.f0,r.sub,λb hb h1 h2=>r.cI b (by show(if b=a then none else H b)≠none;rw[if_neg hb];exact h1) h2⟩
def Rel.Wz{F H:Hp}{N:List Str}{as:List Slot}{vs:List V}{a dx:Addr}{C:String}(s:Same F H)(ha:H a=some (.ins (K.cm C) dx []))(hF:F a=none)(h:Paired (aP K F H) as vs) :
 Rel K (Lk a dx C F H) F H (L2.start N (.ref a::vs)) (.rc C [] []::startP (N.length-1) as):=by
 have r0:=Rel.start (N:=N) (K:=K) s (as:=.sh (.int 0)::as) (vs:=.int 0::vs) (.cons (Rep.int (K:=K) (F:=F) (i:=0)) h)
 have est:L2.start N (.ref a::vs)=some (.ref a)::(L2.start N (.int 0::vs)).tail:=by unfold L2.start;simp
 have Zd0:(L2.start N (V.int 0::vs)).tail.length=(startP (N.length-1) as).length:=by
  unfold L2.start startP
  simp[Paired.length h]
  omega
 have tl:∀i:Nat,(L2.start N (.int 0::vs)).tail[i]?=(L2.start N (.int 0::vs))[i+1]?:= λi=>by simp
 have sp:∀i:Nat,(startP (N.length-1) as)[i]?=(startP N.length (.sh (.int 0)::as))[i+1]?:= λi=>by
  unfold startP
  simp only[List.cons_append,List.getElem?_cons_succ,List.length_cons]
  rw[show N.length-1-as.length=N.length-(as.length+1) by omega]
 have rD:∀(i:Nat) (s':Slot),(startP (N.length-1) as)[i]?=some s'->s'.own=false:=λi s' e=>by
  unfold startP at e
  by_cases hi:i<as.length
  ·rw[List.getElem?_append_left hi] at e
   obtain⟨v,_,h3⟩:=bH h e
   exact(aP.slot h3).2
  ·rw[List.getElem?_append_right (by omega),List.getElem?_replicate] at e
   split at e
   ·cases e;rfl
   ·cases e
 rw[est]
 refine⟨s,λb u e=>?_,Same.refl _,λ_ _ z=>z,λb u e=>?_,λb e=>?_,?_,λi s' e=>?_,λi j b h1 h2=>?_⟩
 ·have e':(if b=a then none else H b)=some u:=e
  split at e'
  ·cases e'
  ·exact e'
 ·have e':(if b=a then none else(ctx0 F H).L b)=some u:=e
  split at e'
  ·cases e'
  ·exact dM e'
 ·show(if b=a then none else(ctx0 F H).L b)=none
  have e':(if b=a then none else H b)=none:=e
  split
  ·rfl
  ·rename_i hb
   rw[if_neg hb] at e'
   exact r0.lb b e'
 ·simp[Zd0]
 ·cases i with
  |zero=>
   cases e
   exact⟨a,dx,[],rfl,ha,hF,by show(if a=a then none else H a)=none;rw[if_pos rfl],rfl,Ē.nil,rfl,rfl,rfl⟩
  |succ i=>
   have e':(startP (N.length-1) as)[i]?=some s':=by simpa using e
   have q:=r0.slot (i+1) s' (by rw[<-sp];exact e')
   rw[<-tl] at q
   show ũ K (Lk a dx C F H) F H (((some (V.ref a)::(L2.start N (.int 0::vs)).tail)[i+1]?).getD none) s'
   rw[List.getElem?_cons_succ]
   cases s' with
   |no=>trivial
   |sh p=>exact q
   |bw ps=>
    obtain⟨b,ws,q1,q2,q3⟩:=q
    refine⟨b,ws,q1,?_,q3⟩
    show(if b=a then none else(ctx0 F H).L b)=_
    rw[if_neg (λz=>by
     have:=(dM q2).1
     rw[z,ha] at this
     cases this)]
    exact q2
   |ow ps=>have:=rD i _ e';cases this
   |rc C ns ps=>have:=rD i _ e';cases this
   |ot ps qs rs=>have:=rD i _ e';cases this
   |ol mX=>have:=rD i _ e';cases this
   |fr mX=>have:=rD i _ e';cases this
   |dw qX=>
    obtain⟨b,ts,q1,q2,q3⟩:=q
    have lt:∀{x:Addr} {u:HO},(ctx0 F H).L x=some u->(∀o,u=.ins (K.cm C) dx o->False)->(if x=a then none else(ctx0 F H).L x)=some u:=fun{x u} e1 e2=>by
     rw[if_neg (λz=>by
      have:=(dM e1).1
      rw[z,ha] at this
      cases this
      exact e2 _ rfl)]
     exact e1
    exact⟨b,ts,q1,lt q2 (λ_ z=>by cases z),fO q3 λt d _ ⟨xs,y,vs,k1,k2,k3,k4⟩=>⟨xs,y,vs,k1,k2,lt k3 (λ_ z=>by cases z),k4⟩⟩
   |bn qs rows=>
    obtain⟨v,q1,q2⟩:=q
    refine⟨v,q1,q2.base λb u z=>?_⟩
    have z':(if b=a then none else H b)=some u:=z
    split at z'
    ·cases z'
    ·exact z'
 ·have at0:∀{i},ň F (some (.ref a)::(L2.start N (.int 0::vs)).tail) (Slot.rc C [] []::startP (N.length-1) as) i b→i=0:=fun{i} ⟨s',y,q1,_,q2⟩=>by
   have q2:=jV q2
   cases i with
   |zero=>rfl
   |succ i=>
    have:=rD i s' (by simpa using q1)
    rw[this] at q2
    cases q2
  rw[at0 h1,at0 h2]
end
section
variable{P:Program}{w:World}{K:PySem.W.Frag}{cm:String->Addr}{mg:Str->Option Value}{base:Heap}{CX:jf}
def YT{x qual:Str}{st:Stmt}{f:Addr}{fd:FuncData}{N ps:List Str}{k n j:Nat}{C:String}{mb:M Fl}{mi:MI}(F:Kg K x qual st f fd)(S:đ N ps (ć st))(hn:ps.length=n)(hj:N.length=j)(hf:mi=bL n j C mb)
 (hbody:∀(cdv:Value) (A:Around) (outer:List Env) (s:Shared) (H:Hp) (E:XK),Ŭ k (A.deeper (envOfC qual (ć st) s.heap.objs.size f cdv))→
   fC (sX CX P w K mg base N qual (ć st) f cdv A outer s H E) (Ś st) (tS ⟨K,cm⟩ (λ_=>E) mb)):ĥ P w K mg base CX (k+1) f fd ps (CT ⟨K,cm⟩ n C mi):=by
 subst hn hj hf
 obtain⟨oc,od,kV,doc,pm,an,cdv,ct,osl,rfl,lk,hcd⟩:=F.ex
 refine MN lk hcd S (λvs H Q E ⟨F,a,dx,vs',as,h1,h2,_,_,_,h3,_⟩=>by rw[h1,List.length_cons,<-Paired.length h3];exact h2) λA outer s H vs Q E hr hsp=>?_
 obtain⟨F,a,dx,vs',as,rfl,h2,h3,h4,h5,h6,h7⟩:=hsp
 refine⟨_,hbody cdv A outer s H E hr,Lk a dx C F H,F,_,Rel.Wz h5 h3 h4 h6,?_⟩
 unfold bL at h7
 rw[if_pos h2] at h7
 cases e:mb (.rc C [] []::startP (N.length-1) as) with
 |bad=>rw[e] at h7;exact h7
 |exc x ρ'=>rw[e] at h7;exact λσ' C' d F' H' rel s1 q=>h7 C' d F' H' rel.gri q
 |ok fl ρ'=>
  rw[e] at h7
  cases fl with
  |nx=>
   cases ρ' with
   |nil=>exact h7.elim
   |cons sl ρ'=>
    cases sl with
    |rc C' ns qs=>
     intro σ' F' H' rel s1
     obtain⟨b,dy,fs,q1,q2,q3,q4,q5,q6,rfl,rfl,rfl⟩:=rel.slot 0 _ rfl
     exact h7 F' H' fs rel.gri q2 q3 q5 q6
    |_=>exact h7.elim
  |bk=>exact h7.elim
  |ct=>exact h7.elim
  |rt r=>exact h7.elim
end
def bM(C:String)(mi:MI)(ms:M (List Slot)):M PV:=λρ=>(ms ρ).bind λas ρ1=>match mi as with
 | .ok ns ps=>.ok (.ins C ns ps) ρ1
 | .exc x=>.exc x ρ1
 | .bad=>.bad
section
variable{X:Cx}{cm:String->Addr}{E:L2.St->XK}{e:Expr}{es:List Expr}{pos p:Pos}{CX:jf}{k n:Nat}{f:Addr}{fd:FuncData}{ps:List Str}{C:String}{mi:MI}{ms:M (List Slot)}{x:Str}
def Gs{c:Ctx}{F1 H1:Hp}{σ:L2.St}{ρ1:ķ}{Q:VK}{as:List Slot}{vs:List V}(hlen:(∃r,mi as=r/\∀z,r=z->z≠ .bad)->as.length+1=n)(Ĕ:Rel (kk X cm) c F1 H1 σ ρ1)(r1:Paired (aP (kk X cm) F1 H1) as vs)
 (h:ų (kk X cm) E (rV (kk X cm)) c F1 H1 σ Q (match mi as with| .ok ns ps=>.ok (.ins C ns ps) ρ1| .exc x=>.exc x ρ1| .bad=>.bad)) :
 ∀x dx,H1 x=none->H1 dx=none->dx≠x->CT (kk X cm) n C mi (.ref x::vs) (upd (upd H1 dx (.own x)) x (.ins (cm C) dx [])) (λv H2=>v=.non/\Q (.ref x) H2) (E σ):=by
 intro x dx hx hdx hne
 have up:∀b u,H1 b=some u->upd (upd H1 dx (.own x)) x (.ins (cm C) dx []) b=some u:=λb u e=>by
  rw[Ę (Ğ e hx),Ę (Ğ e hdx)];exact e
 have CV:∀{F' H':Hp},GrB x F1 (upd (upd H1 dx (.own x)) x (.ins (cm C) dx [])) F' H'->Gr F1 H1 F' H':=fun{F' H'} g=>
  ⟨fun b u e=>g.h b u (Ğ e hx) (up b u e),g.f,g.sub,fun b hb hf=>by
    obtain⟨u,hu⟩:∃u,H1 b=some u:=by
     cases q:H1 b with
     |none=>exact absurd q hb
     |some u=>exact⟨u,rfl⟩
    exact g.out b (Ğ hu hx) (by rw[up b u hu];intro z;cases z) hf⟩
 refine⟨F1,x,dx,vs,as,rfl,?_,ē,Ĕ.sub.free hx,λb u e=>up b u (Ĕ.sub b u e),?_,?_⟩
 ·refine hlen ⟨_,rfl,λz hz hb=>?_⟩
  rw[hz,hb] at h
  exact h
 ·refine Paired.mono (λs v hs=>?_) r1
  cases s with
  |sh p=>exact hs
  |bw qs=>
   obtain⟨b,ws,q1,q2,q3,q4⟩:=hs
   exact⟨b,ws,q1,up b _ q2,q3,q4⟩
  |dw qX=>
   obtain⟨b,ts,q1,q2,q3,q4⟩:=hs
   exact⟨b,ts,q1,up b _ q2,q3,fO q4 λt d _ ⟨xs,y,ws,k1,k2,k3,k4⟩=>⟨xs,y,ws,k1,k2,⟨up y _ k3.1,k3.2⟩,k4⟩⟩
  |_=>exact hs.elim
 ·cases em:mi as with
  |bad=>rw[em] at h;exact h
  |exc y=>rw[em] at h;exact λC' d F' H' g rx=>h C' d F' H' (Ĕ.call (CV g)) g.f rx
  |ok ns qs=>
   rw[em] at h
   intro F' H' fs g hx' hF' hn hr
   have r2:=Ĕ.call (CV g)
   have r3:=r2.freeze hx' (Ĕ.base.free hx) hF' (Ĕ.dJ (CV g).f (Ĕ.fresh hx))
   refine⟨rfl,h _ _ H' r3 (g.f.trans (Same.upd hF')) (CV g).h ?_⟩
   show Rep _ _ _ _
   unfold Rep
   exact⟨x,dx,fs,rfl,ē,hn,Ē.same (Same.upd hF') qs _ hr⟩
def rE{pins:List (Addr×Obj)}{σ:L2.St}{H:Hp}{s:Shared}{Q:VK}{us:List Value}{vs:List V}{sp:Sp}{C:Addr}(M:Mk X.K C f)(F:ĥ X.prog X.w X.K X.mg X.base CX k f fd ps sp)(hr:Ŭ (k+1) X.A)(hb:Binds X.K fd ps [])
 (hx:cu CX X E)(I:Inv X pins σ H s)(r:Vals vs us)
 (h:∀x dx,H x=none->H dx=none->dx≠x->sp (.ref x::vs) (upd (upd H dx (.own x)) x (.ins C dx [])) (λv H2=>v=.non/\Q (.ref x) H2) (E σ)) :
 wpAny (model X.prog X.w) X.A (call (.ref C) us) (EP X pins σ Q) X.xe s:=by
 have hq:=h (s.heap.objs.size+1) s.heap.objs.size (I.hok.fresh (Nat.le_succ _)) (I.hok.fresh (Nat.le_refl _)) (Nat.ne_of_lt (Nat.lt_succ_self _))
 have I2:=Inv.made (C:=C) I
 have r2:Vals (V.ref (s.heap.objs.size+1)::vs) (Value.ref (s.heap.objs.size+1)::us):=.cons rfl r
 have hl:(Value.ref (s.heap.objs.size+1)::us ++ []).length=ps.length:=by
  have e:=r2.length
  rw[F.len _ _ _ _ hq] at e
  rw[List.append_nil]
  exact e.symm
 have hbd:=hb {s with heap:=(s.heap.push PySem.W.emptyDict).push (PySem.W.instObj C s.heap.objs.size)} (Value.ref (s.heap.objs.size+1)::us) I2.jM hl
 rw[List.append_nil] at hbd
 refine wpAny_call (Ed (f:=f) I.jM M.makes M.init (beq_iff_eq.mp M.fn) (codeAny_mono (F.run _ X.stack _ _ ⟨Value.ref (s.heap.objs.size+1)::us,[]⟩ _ _ _ (E σ) (hr.make C us []) (I2.env0.make C us []) hbd r2 hq) λr s' hq'=>?_))
 cases r with
 |error e=>exact hx pins σ _ _ e s' I2 hq'
 |ok fl=>
  cases fl with
  |ret u=>
   obtain⟨v,H',I3,rv,ev,q3⟩:=I2.after hq'
   subst ev
   exact⟨rv,⟨V.ref (s.heap.objs.size+1),H',I3,rfl,q3⟩⟩
  |next=>exact False.elim hq'
  |brk=>exact False.elim hq'
  |cont=>exact False.elim hq'
def aG{n k:Nat}{C:String}{mb:M Fl}{as:List Slot}(h:∃r,bL n k C mb as=r/\∀z,r=z->z≠ .bad):as.length+1=n:=by
 obtain⟨r,h1,h2⟩:=h
 unfold bL at h1
 by_cases hl:as.length+1=n
 ·exact hl
 ·rw[if_neg hl] at h1
  exact absurd h1.symm (λz=>h2 .bad (by rw[<-h1]) rfl)
def jX(M:Mk X.K (cm C) f)(F:ĥ X.prog X.w X.K X.mg X.base CX k f fd ps (CT (kk X cm) n C mi))(hlen:∀{as:List Slot},(∃r,mi as=r/\∀z,r=z->z≠ .bad)->as.length+1=n)(hr:Ŭ (k+1) X.A)(hg:Gl X x)(hm:X.mg x=some (.ref (cm C)))(hb:Binds X.K fd ps [])(hx:cu CX X E)
 (ha:PA X (e::es) (tA (kk X cm) E ms))(hdb:(x== ("__debug__" :Str))=false:=by decide)(he:starEach (e::es) X.env=(false,eval e X.env)::starEach es X.env:=by exact bG rfl)(hpl:(backTo pos (starEach es X.env)).any (·.1)=false:=by rfl) :
 PE X (.Call (.Name x p) (e::es) [] pos) (tV (kk X cm) E (bM C mi ms)):=by
 intro pins s σ H Q I ⟨c,F',ρ,rel,h⟩
 refine wpAny_Call_Name_kw (mK I hg hm ?_ hdb)
 refine PySem.W.callWith_K (h₀:= X.base) I.ok.mod.YH M.kp (Ŏ (ha pos pins s σ H (λvs H1=>∀x dx,H1 x=none->H1 dx=none->dx≠x->CT (kk X cm) n C mi (.ref x::vs) (upd (upd H1 dx (.own x)) x (.ins (cm C) dx [])) (λv H2=>v=.non/\Q (.ref x) H2) (E σ)) I
  ⟨c,F',ρ,rel,ų.bind h λas ρ1 vs F1 H1 Ĕ _ _ r1 h1=>Gs hlen Ĕ r1 h1⟩) λus s1 ⟨vs,H1,I1,r,q⟩=>⟨I1.jM,?_⟩) he hpl
 exact rE M F hr hb hx I1 r q
end
end P
namespace P
open PySem PySem.Spec PyProof.Rows L2 M2 M3 M4
section
variable{M:Model}{A:Around}{E:Value->Shared->Prop}{s:Shared}{B:Heap}{env:Env}{outer:List Env}{L e:Addr}{Q:Unit->Shared->Prop}
end
def jd.sub{P:Program}{w:World}{H:Hp}{h B:Heap}(x:jd P w H h)(k:∀b o u,H b=some u->h.get? b=some o->B.get? b=some o):jd P w H B:=λa o e=>
 (x a o e).stay (fun b u hb q=>by
   rcases hb with rfl|hb
   ·exact k _ _ _ e q
   ·exact k _ _ _ hb q) (λ_ q=>q) λ_ _ q=>q
section
variable{P:Program}{w:World}{K:PySem.W.Frag}{mg:Str->Option Value}{base:Heap}{N:List Str}{qual:Str}{scope:Scope}{f:Addr}{cdv:Value}{A:Around}{outer:List Env}{s₀:Shared}{H₀:Hp}{E:XK}
end
end P
namespace P
open PySem PySem.Spec PyProof.Rows L2 M2 M3 M4
section
variable{K:PySem.W.Frag}{h:Heap}{C:Addr}{bmB:List Value}{newId:String}
end
section
variable{X:Cx}{cm:String->Addr}{E:L2.St->XK}{x:Str}{C:String}{np cpos pos:Pos}
end
section
variable{M:Model}{A:Around}{E:Value->Shared->Prop}{s:Shared}{K:PySem.W.Frag}{e C D:Addr}{oe:Obj}{b:Bool}{Q:Bool->Shared->Prop}
end
section
variable{X:Cx}{pins:List (Addr×Obj)}{σ:L2.St}{H:Hp}{s:Shared}{xe:Value->Shared->Prop}
end
end P
namespace P
open PySem PySem.Spec PyProof.Rows L2 M2 M3 M4
abbrev MH:=PX->ķ->Res Fl
section
variable{X:Cx}{cm:String->Addr}{E:L2.St->XK}{pins:List (Addr×Obj)}{σ:L2.St}{H Hc:Hp}{s sc:Shared}{ea:Addr}{C:Value}{d:Option Addr}{B:Heap}
variable{y n:Str}{Dn:String}{i:Nat}{yp hpos:Pos}{b₀:Stmt}{suite:List Stmt}{rest:List ExceptHandler}{yes no:List String}{mh:M Fl}{mr:MH}
end
end P
namespace P
open PySem PySem.Spec PyProof.Rows L2 M2 M3 M4 Builtin Builtin.ObjectAttr
section
variable{K:PySem.W.Frag}{h:Heap}{C:Addr}{cd:ClassData}{bm:List Value}
end
section
variable{prog:Program}{w:World}{A:Around}{E:Value->Shared->Prop}{h:Heap}{g:Array GenState}{d:Drawn}{t:Nat}{os:OsState}
variable{nm q:Str}{C N:Addr}{bs bm bmB:List Value}{hdct:Bool}{sn:List Str}{sub:List Value}{ab:Bool}{col:Option Bool}{dd:Option Addr}{k0 k1 k2 k3 k5:Option Value}{B newId initId:String}
end
section
variable{prog:Program}{w:World}{A:Around}{E:Value->Shared->Prop}{s:Shared}{K:PySem.W.Frag}{x C:Addr}{cd:ClassData}{bm:List Value}{ox:Obj}{od:Option Obj}{name:Str}{v:Value}
end
end P
namespace P
open PySem PySem.Spec PyProof.Rows L2 M2 M3 M4
section
variable{X:Cx}{pins:List (Addr×Obj)}{σ:L2.St}{H:Hp}{s:Shared}{a C:Addr}{cd:ClassData}{bm:List Value}{d:Option Addr}{fs:List (Str×V)}{f:Str}{y:V}{u:Value}{A:Around}{E:Value->Shared->Prop}
variable{o value:Expr}{pos pos':Pos}{j:Nat}{ss:List Stmt}{r:List (Str×Nat)}
end
section
variable{P:Program}{w:World}{K:PySem.W.Frag}{mg:Str->Option Value}{base:Heap}{CX:jf}
end
section
variable{X:Cx}{cm:String->Addr}{E:L2.St->XK}{e:Expr}{es:List Expr}{pos p:Pos}{CX:jf}{k n:Nat}{f:Addr}{fd:FuncData}{ps:List Str}{C:String}{fl:List (Str×Nat)}{ms:M (List PV)}{x:Str}
end
section
variable{M:Model}{A:Around}{E:Value->Shared->Prop}{s:Shared}{K:PySem.W.Frag}{env:Env}
end
section
variable{X:Cx}{cm:String->Addr}{E:L2.St->XK}{e:Expr}{es:List Expr}{pos cpos np:Pos}{CX:jf}{k n:Nat}{f:Addr}{fd:FuncData}{ps:List Str}{C:String}{fl:List (Str×Nat)}{ms:M (List PV)}{x:Str}
end
end P
namespace P
open PySem PySem.Spec PyProof.Rows L2 M2 M3 M4 Builtin Builtin.ObjectAttr
section
variable{prog:Program}{w:World}{A:Around}{E:Value->Shared->Prop}{s:Shared}{K:PySem.W.Frag}{x C:Addr}{ox:Obj}{od:Option Obj}
end
section
variable{X:Cx}{cm:String->Addr}{K:KK}
end
section
variable{ρ:ķ}{C:String}{n i:Nat}{fl:List (Str×Nat)}{ms:M (List PV)}{mb mh:M Fl}{mr:MH}{yes no:List String}{x:PX}
end
end P
namespace P
open PySem PySem.Spec PyProof.Rows L2 M2 M3 M4
section
variable{X:Cx}{cm:String->Addr}{E:L2.St->XK}{y:Str}{Dn:String}{yp hpos:Pos}{b₀:Stmt}{suite:List Stmt}{rest:List ExceptHandler}{yes no:List String}{mh:M Fl}{mr:MH}
end
end P
namespace P
open PySem PySem.Spec PyProof.Rows L2 M2 M3 M4
section
variable{X:Cx}{cm:String->Addr}{K:KK}
def Ny:List V->Hp->VK->Prop:=λxs H Q=>(∃i,xs=[.int i]/\Q (.int i) H)\/∃k,xs=[.bl k]/\Q (.int (if k then 1 else 0)) H
def WD:ņ X (.type "int") Ny:=Cq
def Gu:List PV->Option PV
 | [.int i]=>some (.int i)
 | [.bl k]=>some (.int (if k then 1 else 0))
 |_=>none
def WK:bJ K Ny Gu:=by
 intro c F H σ ρ ps pv vs Q rel r e k
 unfold Gu at e
 split at e
 ·cases e
  obtain⟨v,rfl,r1⟩:=wz r
  cases r1.int
  exact .inl ⟨_,rfl,k _ F H rel (Same.refl _) (Same.refl _) Rep.int⟩
 ·cases e
  obtain⟨v,rfl,r1⟩:=wz r
  cases r1.bl
  exact .inr ⟨_,rfl,k _ F H rel (Same.refl _) (Same.refl _) Rep.int⟩
 ·cases e
def Nz:List V->Hp->VK->Prop:=λxs H Q=>∃i,xs=[.int i]/\i.natAbs.log2<1920/\Q (.str (toString i)) H
def WL:ņ X (.type "str") Nz:=sU
def CW:List PV->Option PV
 | [.int i]=>if i.natAbs.log2<1920 then some (.str (toString i)) else none
 |_=>none
def WM:bJ K Nz CW:=by
 intro c F H σ ρ ps pv vs Q rel r e k
 unfold CW at e
 split at e
 ·split at e
  ·rename_i hz
   cases e
   obtain⟨v,rfl,r1⟩:=wz r
   cases r1.int
   exact⟨_,rfl,hz,k _ F H rel (Same.refl _) (Same.refl _) Rep.str⟩
  ·cases e
 ·cases e
theorem Ŷ:∀{ns:List Int} {its:List Value},Vals (ns.map V.int) its->IntsAre its ns
 | [],its,h=>by cases h;exact .nil
 |n::ns,its,h=>by
  cases h with
  |cons r t=>
   obtain⟨k,e⟩:=(show ∃k,_=Value.int n k from r)
   subst e
   exact .cons n k (Ŷ t)
def ZaY(K:PySem.W.Frag):List V->Hp->VK->Prop:=λxs H Q=>∃(p:Addr) (ns:List Int),xs=[.ref p]/\Ř K H p (ns.map V.int)/\Q (.int ns.sum) H
def Gv(hc:X.calm=true):ņ X (.builtin "sum") (ZaY X.K):=by
 intro pins s σ H xs us Q I r h
 obtain⟨p,ns,rfl,hS,q⟩:=h
 obtain⟨u,rfl,ru⟩:=vals1 r
 cases ru
 obtain⟨its,rv,pl,hz⟩:=I.list hS
 have hi:=Ŷ rv
 obtain⟨ys,e⟩:=hi.allInts.items
 have hns:ns=ys.toList.map (·.1):=by rw[<-hi.numsOf,<-nums_intItems,<-e]
 have hl:=pl.isList
 rw[e] at hl
 refine sum_intListG (show X.A.handled=none from I.ok.hd hc) hl λh' tk t' hk=>?_
 refine⟨.int ns.sum,H,I.kept hk,⟨t',?_⟩,q⟩
 rw[preSum_eq,List.take_of_length_le (by simp),<-hns]
section
variable{prog:Program}{w:World}{A:Around}{E:Value->Shared->Prop}{s:Shared}{l:Addr}{xs:Array (Int×Tok)}
def wD{Q:Value->Shared->Prop}(hl:s.heap.IsTuple l (intItems xs))
 (h:∀s₂:Shared,s₂= {s with heap:=s.heap.push {cls:=.type "tuple_iterator",data:=.fields #[.ref l,.int 0 0]}}→
   (s₂.heap.IsTupleIter s.heap.objs.size l 0/\s₂.heap.IsTuple l (intItems xs))->(∀b∈[s.heap.objs.size,l],b<s₂.heap.objs.size)->l≠s.heap.objs.size->(∀h':Heap,(∀b o,b∉[s.heap.objs.size]->s₂.heap.get? b=some o->h'.get? b=some o)->∀b o,s.heap.get? b=some o->h'.get? b=some o)->Q (.ref s.heap.objs.size) s₂) :
 wpAny (model prog w) A (pyIter (.ref l)) Q E s:=by
 have hlt:l<s.heap.objs.size:=by obtain⟨_,e,_⟩:=hl;exact Heap.lt_size e
 refine wpAny_pyIter_tuple hl (h _ rfl ⟨⟨_,Heap.get?_push_size _ rfl,rfl,rfl⟩,hl.push _⟩ (λb hb=>?_) (Nat.ne_of_lt hlt) λh' hk b o e=>?_)
 ·show b<(s.heap.push _).objs.size
  rw[Heap.size_push]
  rcases List.mem_cons.mp hb with rfl|hb
  ·exact Nat.lt_succ_self _
  ·rcases List.mem_cons.mp hb with rfl|hb
   ·exact Nat.lt_succ_of_lt hlt
   ·cases hb
 ·refine hk b o (λhm=>?_) (Heap.get?_push_of_some _ e)
  rcases List.mem_cons.mp hm with e1|hm
  ·exact absurd (e1▸Heap.lt_size e) (Nat.lt_irrefl _)
  ·cases hm
def zf{Q:Value->Shared->Prop}(hh:A.handled=none)(hl:s.heap.IsTuple l (intItems xs))(hne:0<xs.size)
 (h:∀v h' tk,(intItems xs)[argBest (λi j=>decide (numAt xs i>numAt xs j)) (xs.size-1)]?=some v->(∀b o,s.heap.get? b=some o->h'.get? b=some o)->Q v {s with heap:=h',toks:=tk}) :
 wpAny (model prog w) A (call (.builtin "max") [.ref l]) Q E s:=by
 refine call_max_walk (wD hl λs₂ e st hfp hlI hk0=>?_)
 subst e
 refine⟨_,_,_,_,_,_,_,rfl,Walks.tuple (A:=A.in1) hh _ l hlI (intItems xs),st,hfp,by simpa[intItems] using hne,CmpOf.ints_gt (numAt xs) (λ_ _=>intItems_at),λv h' tk hP hk=>?_⟩
 exact h v h' tk (by simpa[intItems] using hP) (hk0 h' hk)
end
def ZaZ(K:PySem.W.Frag):List V->Hp->VK->Prop:=λxs H Q=>∃(p:Addr) (ns:List Int),xs=[.ref p]/\(Ř K H p (ns.map V.int)\/bW K H p (ns.map V.int))/\0<ns.length/\∀M,M∈ns->(∀a∈ns,a<=M)->Q (.int M) H
def ur(hc:X.calm=true):ņ X (.builtin "max") (ZaZ X.K):=by
 intro pins s σ H xs us Q I r h
 obtain⟨p,ns,rfl,hS,hne,q⟩:=h
 obtain⟨u,rfl,ru⟩:=vals1 r
 cases ru
 have fin:∀(ys:Array (Int×Tok)),ns=ys.toList.map (·.1)->0<ys.size->∀v h' tk,(intItems ys)[argBest (λi j=>decide (numAt ys i>numAt ys j)) (ys.size-1)]?=some v->(∀b o,s.heap.get? b=some o->h'.get? b=some o)->EP X pins σ Q v {s with heap:=h',toks:=tk}:=by
  intro ys hns hsz v h' tk hv hk
  obtain⟨t,rfl⟩:=intItems_at hv
  obtain⟨h1,h2⟩:=argBest_gt (numAt ys) (ys.size-1)
  refine⟨.int _,H,I.kept hk,⟨t,rfl⟩,q _ ?_ λa ha=>?_⟩
  ·rw[hns,numAt_eq]
   have hj:argBest (λi j=>decide (numAt ys i>numAt ys j)) (ys.size-1)<(ys.toList.map (·.1)).length:=by rw[List.length_map,Array.length_toList];omega
   rw[List.getD_eq_getElem?_getD,List.getElem?_eq_getElem hj]
   exact List.getElem_mem _
  ·rw[hns] at ha
   obtain⟨j,hj,rfl⟩:=List.mem_iff_getElem.mp ha
   rw[List.length_map,Array.length_toList] at hj
   have:=h2 j (by omega)
   rw[numAt_eq ys j,List.getD_eq_getElem?_getD,List.getElem?_eq_getElem (by rw[List.length_map,Array.length_toList];exact hj)] at this
   exact this
 rcases hS with hS|hS
 ·obtain⟨its,rv,pl,hz⟩:=I.list hS
  have hi:=Ŷ rv
  obtain⟨ys,e⟩:=hi.allInts.items
  have hns:ns=ys.toList.map (·.1):=by rw[<-hi.numsOf,<-nums_intItems,<-e]
  have hl:=pl.isList
  rw[e] at hl
  have hsz:0<ys.size:=by rw[hns,List.length_map,Array.length_toList] at hne;exact hne
  exact max_intList (show X.A.handled=none from I.ok.hd hc) hl hsz (fin ys hns hsz)
 ·obtain⟨its,rv,pl,hz⟩:=I.tuple hS
  have hi:=Ŷ rv
  obtain⟨ys,e⟩:=hi.allInts.items
  have hns:ns=ys.toList.map (·.1):=by rw[<-hi.numsOf,<-nums_intItems,<-e]
  have hl:s.heap.IsTuple p its.toArray:=pl
  rw[e] at hl
  have hsz:0<ys.size:=by rw[hns,List.length_map,Array.length_toList] at hne;exact hne
  exact zf (show X.A.handled=none from I.ok.hd hc) hl hsz (fin ys hns hsz)
def Za0(K:PySem.W.Frag):List V->Hp->VK->Prop:=λxs H Q=>∃(p:Addr) (ns:List Int),xs=[.ref p]/\Ř K H p (ns.map V.int)/\0<ns.length/\∀M,M∈ns->(∀a∈ns,M<=a)->Q (.int M) H
def Gw(hc:X.calm=true):ņ X (.builtin "min") (Za0 X.K):=by
 intro pins s σ H xs us Q I r h
 obtain⟨p,ns,rfl,hS,hne,q⟩:=h
 obtain⟨u,rfl,ru⟩:=vals1 r
 cases ru
 obtain⟨its,rv,pl,hz⟩:=I.list hS
 have hi:=Ŷ rv
 obtain⟨ys,e⟩:=hi.allInts.items
 have hns:ns=ys.toList.map (·.1):=by rw[<-hi.numsOf,<-nums_intItems,<-e]
 have hl:=pl.isList
 rw[e] at hl
 have hsz:0<ys.size:=by rw[hns,List.length_map,Array.length_toList] at hne;exact hne
 refine min_intList (show X.A.handled=none from I.ok.hd hc) hl hsz λv h' tk hv hk=>?_
 obtain⟨t,rfl⟩:=intItems_at hv
 obtain⟨h1,h2⟩:=argBest_lt (numAt ys) (ys.size-1)
 refine⟨.int _,H,I.kept hk,⟨t,rfl⟩,q _ ?_ λa ha=>?_⟩
 ·rw[hns,numAt_eq]
  have hj:argBest (λi j=>decide (numAt ys i<numAt ys j)) (ys.size-1)<(ys.toList.map (·.1)).length:=by rw[List.length_map,Array.length_toList];omega
  rw[List.getD_eq_getElem?_getD,List.getElem?_eq_getElem hj]
  exact List.getElem_mem _
 ·rw[hns] at ha
  obtain⟨j,hj,rfl⟩:=List.mem_iff_getElem.mp ha
  rw[List.length_map,Array.length_toList] at hj
  have:=h2 j (by omega)
  rw[numAt_eq ys j,List.getD_eq_getElem?_getD,List.getElem?_eq_getElem (by rw[List.length_map,Array.length_toList];exact hj)] at this
  exact this
def intsOf:List PV->Option (List Int)
 | []=>some []
 | .int b::ps=>(intsOf ps).map (b:: ·)
 |_::_=>none
@[simp] theorem iU:∀ns:List Int,intsOf (ns.map PV.int)=some ns
  | []=>rfl
  |n::ns=>by rw[List.map_cons,intsOf,iU ns];rfl
theorem ints_rep{F:Hp}:∀{ps:List PV} {vs:List V} {bs:List Int},Ē K F ps vs->intsOf ps=some bs->vs=bs.map V.int
 | [],vs,bs,r,h=>by
   cases h
   cases r.pr
   rfl
 |p::ps,vs,bs,r,h=>by
  cases r.pr with
  |cons r1 t=>
   cases p with
   |int b=>
    unfold intsOf at h
    obtain⟨cs,e,rfl⟩:=Option.map_eq_some_iff.mp h
    rw[ints_rep (Ē.of t) e,show _=V.int b from r1]
    rfl
   |_=>cases h
def best(f:Int->Int->Int):List Int->Option Int
 | []=>none
 |n::ns=>some (ns.foldl f n)
theorem foldl_max:∀(ns:List Int) (n:Int),ns.foldl max n∈n::ns/\∀a∈n::ns,a<=ns.foldl max n
 | [],n=>by simp
 |m::ns,n=>by
  obtain⟨h1,h2⟩:=foldl_max ns (max n m)
  rw[List.foldl_cons]
  refine⟨?_,λa ha=>?_⟩
  ·rcases List.mem_cons.mp h1 with e|e
   ·rw[e]
    by_cases h:n<=m
    ·rw[Int.max_eq_right h];simp
    ·rw[Int.max_eq_left (by omega)];simp
   ·simp[e]
  ·have hm:=h2 (max n m) List.mem_cons_self
   rcases List.mem_cons.mp ha with rfl|ha
   ·omega
   ·rcases List.mem_cons.mp ha with rfl|ha
    ·omega
    ·exact h2 a (List.mem_cons_of_mem _ ha)
theorem foldl_min:∀(ns:List Int) (n:Int),ns.foldl min n∈n::ns/\∀a∈n::ns,ns.foldl min n<=a
 | [],n=>by simp
 |m::ns,n=>by
  obtain⟨h1,h2⟩:=foldl_min ns (min n m)
  rw[List.foldl_cons]
  refine⟨?_,λa ha=>?_⟩
  ·rcases List.mem_cons.mp h1 with e|e
   ·rw[e]
    by_cases h:n<=m
    ·rw[Int.min_eq_left h];simp
    ·rw[Int.min_eq_right (by omega)];simp
   ·simp[e]
  ·have hm:=h2 (min n m) List.mem_cons_self
   rcases List.mem_cons.mp ha with rfl|ha
   ·omega
   ·rcases List.mem_cons.mp ha with rfl|ha
    ·omega
    ·exact h2 a (List.mem_cons_of_mem _ ha)
def zj:List PV->Option PV
 | [.lst ps]=>(intsOf ps).map λns=>.int ns.sum
 |_=>none
def cB:List PV->Option PV
 | [.lst ps]=>((intsOf ps).bind (best max)).map .int
 | [.tup ps]=>((intsOf ps).bind (best max)).map .int
 |_=>none
def rG:List PV->Option PV
 | [.lst ps]=>((intsOf ps).bind (best min)).map .int
 |_=>none
def Gx:bJ K (ZaY K.K) zj:=by
 intro c F H σ ρ ps pv vs Q rel r e k
 unfold zj at e
 split at e
 ·rename_i ps
  obtain⟨v,rfl,r1⟩:=wz r
  obtain⟨a,xs,rfl,h1,h2⟩:=r1.lst rel.sub
  obtain⟨ns,eb,rfl⟩:=Option.map_eq_some_iff.mp e
  exact⟨a,ns,rfl,by rw[<-ints_rep h2 eb];exact h1,k _ F H rel (Same.refl _) (Same.refl _) Rep.int⟩
 ·cases e
def uw:bJ K (ZaZ K.K) cB:=by
 intro c F H σ ρ ps pv vs Q rel r e k
 have fin:∀(ps:List PV) (xs:List V),Ē K F ps xs->((intsOf ps).bind (best max)).map PV.int=some pv->∃ns:List Int,xs=ns.map V.int/\0<ns.length/\∀M,M∈ns->(∀a∈ns,a<=M)->Q (.int M) H:=by
  intro ps xs h2 e
  obtain⟨m,em,rfl⟩:=Option.map_eq_some_iff.mp e
  obtain⟨ns,eb,hb⟩:=Option.bind_eq_some_iff.mp em
  cases ns with
  |nil=>cases hb
  |cons n ns=>
   cases hb
   obtain⟨z1,z2⟩:=foldl_max ns n
   refine⟨n::ns,ints_rep h2 eb,by simp,λM m1 m2=>?_⟩
   have:M=ns.foldl max n:=Int.le_antisymm (z2 M m1) (m2 _ z1)
   rw[this]
   exact k _ F H rel (Same.refl _) (Same.refl _) Rep.int
 unfold cB at e
 split at e
 ·rename_i ps
  obtain⟨v,rfl,r1⟩:=wz r
  obtain⟨a,xs,rfl,h1,h2⟩:=r1.lst rel.sub
  obtain⟨ns,rfl,hl,hq⟩:=fin ps xs h2 e
  exact⟨a,ns,rfl,.inl h1,hl,hq⟩
 ·rename_i ps
  obtain⟨v,rfl,r1⟩:=wz r
  obtain⟨a,xs,rfl,h1,h2⟩:=r1.tup rel.sub
  obtain⟨ns,rfl,hl,hq⟩:=fin ps xs h2 e
  exact⟨a,ns,rfl,.inr h1,hl,hq⟩
 ·cases e
def Gy:bJ K (Za0 K.K) rG:=by
 intro c F H σ ρ ps pv vs Q rel r e k
 unfold rG at e
 split at e
 ·rename_i ps
  obtain⟨v,rfl,r1⟩:=wz r
  obtain⟨a,xs,rfl,h1,h2⟩:=r1.lst rel.sub
  obtain⟨m,em,rfl⟩:=Option.map_eq_some_iff.mp e
  obtain⟨ns,eb,hb⟩:=Option.bind_eq_some_iff.mp em
  cases ns with
  |nil=>cases hb
  |cons n ns=>
   cases hb
   obtain⟨z1,z2⟩:=foldl_min ns n
   refine⟨a,n::ns,rfl,by rw[<-ints_rep h2 eb];exact h1,by simp,λM m1 m2=>?_⟩
   have:M=ns.foldl min n:=Int.le_antisymm (m2 _ z1) (z2 M m1)
   rw[this]
   exact k _ F H rel (Same.refl _) (Same.refl _) Rep.int
 ·cases e
@[simp] theorem Zcr{i:Int}:Gu [.int i]=some (.int i):=rfl
@[simp] theorem Zcs{b:Bool}:Gu [.bl b]=some (.int (if b then 1 else 0)):=rfl
@[simp] theorem Zct{i:Int}:CW [.int i]=if i.natAbs.log2<1920 then some (.str (toString i)) else none:=rfl
@[simp] theorem gU{ps:List PV}:zj [.lst ps]=(intsOf ps).map λns=>.int ns.sum:=rfl
@[simp] theorem Lp{ps:List PV}:cB [.lst ps]=((intsOf ps).bind (best max)).map .int:=rfl
@[simp] theorem Lq{ps:List PV}:rG [.lst ps]=((intsOf ps).bind (best min)).map .int:=rfl
@[simp] theorem Zcu{f:Int->Int->Int}{n:Int}{ns:List Int}:best f (n::ns)=some (ns.foldl f n):=rfl
end
end P
namespace P
open PySem PySem.Spec PyProof.Rows L2 M2 M3 M4
def Za1(K:PySem.W.Frag)(C:Addr):Bool:=PySem.W.plainGet K C Str.empty && PySem.W.hasDictIn K C && PySem.W.plainOver K C && PySem.W.findIn K (.ref C) "__setattr__" == some (some (.builtin "object.__setattr__"))
def iV{K:PySem.W.Frag}{C:Addr}(h:Za1 K C=true):Cls K C:=by
 unfold Za1 at h
 simp only[Bool.and_eq_true,beq_iff_eq] at h
 exact⟨h.1.1.1,h.1.1.2,h.1.2,h.2⟩
def NK(K:PySem.W.Frag)(C:Addr)(m:Str)(f:Addr):Bool:=PySem.W.findIn K (.ref C) m== some (some (.ref f)) && PySem.W.isFn K (.ref f) && PySem.W.keepIn K (.ref f)
def ao{K:PySem.W.Frag}{C f:Addr}{m:Str}(h:NK K C m f=true):Meth K C m f:=by
 unfold NK at h
 simp only[Bool.and_eq_true,beq_iff_eq] at h
 exact⟨h.1.1,h.1.2,h.2⟩
def mkB(K:PySem.W.Frag)(C f:Addr):Bool:=PySem.W.makesIn K C && PySem.W.findIn K (.ref C) "__init__" == some (some (.ref f)) && PySem.W.isFn K (.ref f) && PySem.W.keepIn K (.ref C)
def oN{K:PySem.W.Frag}{C f:Addr}(h:mkB K C f=true):Mk K C f:=by
 unfold mkB at h
 simp only[Bool.and_eq_true,beq_iff_eq] at h
 exact⟨h.1.1.1,h.1.1.2,h.1.2,h.2⟩
section
variable{ρ:ķ}{i n k:Nat}{C:String}{cs:List String}{f m:Str}{mv mo:M PV}{mi:MI}{ms:M (List Slot)}{mb:M Fl}{gP:List (String×MF)}{as:List Slot}{ns:List Str}{ps:List PV}
@[simp] theorem Zcv:gw i cs f mv ρ=(mv ρ).bind fun p ρ1=>match ρ1[i]? with
  |some (.rc C ns ps)=>if cs.contains C=true/\ns.length<1000 then .ok .nx (ρ1.set i (.rc C (putN f ns) (wC f p ns ps))) else .bad
  |_=>.bad:=rfl
@[simp] theorem Zcw:bL n k C mb as=if as.length+1=n then IR.of (mb (.rc C [] []::startP (k-1) as)) else .bad:=rfl
@[simp] theorem Zd1{C:String}:IR.of (.ok .nx (.rc C ns ps::ρ))=.ok ns ps:=rfl
@[simp] theorem Zcx:bM C mi ms ρ=(ms ρ).bind fun as ρ1=>match mi as with
  | .ok ns ps=>.ok (.ins C ns ps) ρ1
  | .exc x=>.exc x ρ1
  | .bad=>.bad:=rfl
@[simp] theorem Zd2:œ cs f (.ins C ns ps)=if cs.contains C=true then(ns.zip ps).lookup f else none:=rfl
@[simp] theorem ux:dg m gP mo ms ρ=(mo ρ).bind fun p ρ1=>match p with
  | .ins C ns ps=>match gP.lookup C with
    |some mf=>if ns.contains m=true then .bad else(ms ρ1).bind λas ρ2=>match mf (.sh (.ins C ns ps)::as) with
     | .ret r=>.ok r ρ2
     | .exc x=>.exc x ρ2
     | .bad=>.bad
    |none=>.bad
  |_=>.bad:=rfl
end
end P
namespace M3
open PySem PySem.Spec PyProof.Rows L2 M2
section
variable{X:Cx}{elt tg iter:Expr}{ifs:List Expr}{scope:Scope}{pos:Pos}{wi:TI}{g:TG}{tt:TT}{te:TE}
def Lr{iv:Nat}{y:Str}{py spos:Pos}(hN:X.N.Nodup)(hiN:X.N[iv]?=some y)(hy:X.env.scope.names.lookup y=some .local)(hsw:swapsWith (.ListComp elt [⟨tg,iter,ifs,0⟩] scope pos) (some (.Name y py)) spos.line X.env=pure true)(N':List Str)(js:List Nat)(nl:Nat)(sc:Scope)(hsc:X.env.scope=sc)(hcalm:X.calm=true)
 (hi:PI X.ō tg iter wi)(hg:∀cl C s H fp,PG (bU X.ō N' scope cl C s H fp) tg g)(ht:∀cl C s H fp,Ew (bU X.ō N' scope cl C s H fp) ifs tt)(he:∀cl C s H fp,PE (bU X.ō N' scope cl C s H fp) elt te)
 (hcap:h_ X.ō sc scope N' js)(hlen:js.length+nl=N'.length:=by rfl)
 (hk:scope.kind=.function:=by rfl)(hcell:∀y∈scope.names,y.2=.cell->scope.names.lookup y.1=some .cell:=by decide +kernel)(hnames:∀y∈scope.names,y.2=.local->scope.names.lookup y.1=some .local:=by decide +kernel)
 (hfree:∀y∈scope.names,y.2=.free->(sc.names.lookup y.1=some .cell\/sc.names.lookup y.1=some .free):=by decide +kernel)
 (hs:∀x,foldedSetIterable iter X.env x=pure x:=by intro _;rfl) :
 PS X.ō (.Assign [.Name y py] (.ListComp elt [⟨tg,iter,ifs,0⟩] scope pos) spos) (λD σ H=>A_ js nl wi g tt te σ H λv H'=>D.nx (σ.set iv (some v)) H'):=by
 intro pins s σ H D I h
 obtain⟨cl0,c1,c2,c3⟩:=jh (scope:=scope) (env:=X.ō.env) λy hy hf=>I.ok.has y.1 (by
  have:=hfree y hy hf
  rw[<-hsc] at this
  exact this)
 rw[exec_Assign_Name_used _ _ _ _ (show swapsWith _ _ _ X.ō.env=pure true from hsw)]
 refine wpAny_bind (wpAny_standAt (wpAny_bind ?_))
 show wpAny _ X.A (do let _ <-comprehension (.ListComp elt [⟨tg,iter,ifs,0⟩] scope pos) scope X.ō.env _ (newList []) false (eval iter X.ō.env) (some (assign (.Name y py) X.ō.env))) _ _ s
 refine wpAny_bind (wpAny_mono (wpAny_comprehension_free (Q:=λ_ s'=>SP X.ō pins D .next s') (use:=some (assign (.Name y py) X.ō.env)) rfl hs c1 hk hnames (Ŏ (hi pins s σ H _ I h) λv s1 h1=>Ŏ h1 λitv s2 h2=>?_)) (λ_ s' hq=>wpAny_pure (wpAny_pure hq)) λ_ _ e=>e)
 obtain⟨it,fp,tn,J,H2,e,I2,T,st2,f2,q2⟩:=h2
 subst e
 refine wpAny_newObj_type (ig (λh₁ hns₁ old VL=>?_))
 dsimp only at hns₁ old VL ⊢
 generalize VN:s2.heap.push {cls:=.type "list",dict:=none,data:=.seq ([]:List Value).toArray}=bA at hns₁ old VL ⊢
 have hD:H2 s2.heap.objs.size=none:=I2.hok.fresh (Nat.le_refl _)
 have I3:Inv X.ō pins σ (upd H2 s2.heap.objs.size (.lst [])) {s2 with heap:=bA}:=by
  rw[<-VN]
  exact I2.laid (t':=s2.toks) (λb u e=>Heap.get?_push_of_some _ e) (Nat.le_refl _) ⟨Nat.zero_le _,[],0,.nil,Heap.get?_push_size _ rfl⟩
 have EY:∀b∈fp,b<s2.heap.objs.size:=λb hb=>by
  obtain⟨o,ho,_⟩:=T.obj 0 _ st2 b hb
  exact Heap.lt_size ho
 have VP:bA.objs.size=s2.heap.objs.size+1:=by rw[<-VN,Heap.size_push]
 have f3:∀b∈fp,fH X.ō pins (upd H2 s2.heap.objs.size (.lst [])) b:=λb hb=>by
  obtain⟨g0,g1⟩:=f2 b hb
  exact⟨by rw[Ę (Nat.ne_of_lt (EY b hb))];exact g0,g1⟩
 have B:=Ey (X:=X.ō) (cl:=cl0) hcell c2 c3 (λx c e=>by
  obtain⟨v,o,ho,_⟩:=I3.cell x c e
  exact Heap.lt_size ho) VL
 generalize cellsFrom (bA.objs.size+1) scope.names cl0=cl at B ⊢
 obtain⟨W,⟨m0,w0⟩,turn⟩:=q2 s2.heap.objs.size hD
 have I4:=qW (X:=X.ō) (N':=N') (js:=js) (nl:=nl) (sc:=sc) (scope:=scope) (cl:=cl) (fp:=fp) (h':=h₁) (tk:=s2.toks) hsc hk hcap hlen B I3 f3 (λb hb=>by show b<bA.objs.size;rw[VP];exact Nat.lt_succ_of_lt (EY b hb)) hns₁ old
 have st4:tn 0 h₁:= T.keep 0 _ _ st2 λb hb o e=>old b o (by rw[<-VN];exact Heap.get?_push_of_some _ e)
 have fr4:∀b∈fp,(upd H2 s2.heap.objs.size (.lst [])) b=none:=λb hb=>(f3 b hb).1
 have stat:∀{H':Hp},(∀b∈fp,H' b=none)->∀b∈fp,fH (bU X.ō N' scope cl bA.objs.size {s2 with heap:=bA} (upd H2 s2.heap.objs.size (.lst [])) fp) [] H' b:=fun{H'} hn b hb=>by
  obtain⟨g0,g1,g2,g3,g4,g5⟩:=f3 b hb
  refine⟨hn b hb,Nat.ne_of_lt (by show b<bA.objs.size;rw[VP];exact Nat.lt_succ_of_lt (EY b hb)),λz=>?_,.inl hb,λx c e=>by
   rcases B.at_ x c e with⟨q,_⟩|⟨q,_⟩
   ·exact g4 x c q
   ·exact Nat.ne_of_gt (Nat.lt_trans (by show b<bA.objs.size;rw[VP];exact Nat.lt_succ_of_lt (EY b hb)) q),λp hp=>absurd hp (by simp[bU])⟩
  rcases List.mem_cons.mp (I3.nu b z) with z|z
  ·exact g1 z
  ·exact g2 z
 have loop:∀s₃:Shared,s₃= {s2 with heap:=h₁}->
  codeAny (model X.prog X.w) X.A (.compLoop (.ListComp elt [⟨tg,iter,ifs,0⟩] scope pos) 0 (.ref it) (.ref s2.heap.objs.size) (compEnvC scope cl bA.objs.size X.ō.env))
   (compPost (model X.prog X.w) X.A X.ō.xe (some (assign (.Name y py) X.ō.env)) (λ_ s'=>SP X.ō pins D .next s') (.ref s2.heap.objs.size) bA.objs.size) s₃:= by
  rintro s₃ rfl
  refine ji (λn s'=>∃i σ' H',Inv (bU X.ō N' scope cl bA.objs.size {s2 with heap:=bA} (upd H2 s2.heap.objs.size (.lst [])) fp) [] σ' H' s'/\tn i s'.heap/\(∀b∈fp,H' b=none)/\W i n σ' H') ?_ m0 ⟨0,_,_,I4,st4,fr4,w0⟩
  rintro n s5 ⟨i,σ5,H5,I5,JH,Vd,w5⟩
  rcases turn i n σ5 H5 w5 with⟨stop,qn⟩|⟨go,N,hN,step⟩
  ·refine Ŏ (T.done (bU X.ō N' scope cl bA.objs.size {s2 with heap:=bA} (upd H2 s2.heap.objs.size (.lst [])) fp) rfl rfl rfl hcalm i [] s5 σ5 H5 (λ_ _=>False) I5 (stat Vd) JH stop) λr s6 ⟨hr,I6⟩=>?_
   subst hr
   obtain⟨m,hm,_⟩:=I6.loc
   have I7:Inv X.ō pins σ H5 s6:=nO (h':=s6.heap) I3 f3 I6 (λb u hb e=>e)
   have hCL:bA.objs.size≠X.ō.env.locals:=Nat.ne_of_gt I3.lt
   have hcC:∀x c,X.ō.env.cells.lookup x=some c->c≠bA.objs.size:=λx c e z=>by
    obtain⟨v,o,ho,_⟩:=I3.cell x c e
    exact absurd (Heap.lt_size ho) (by rw[z];exact Nat.lt_irrefl _)
   have hpC:∀p∈X.ō.pn++pins,p.1≠bA.objs.size:=λp hp z=>by
    have:=Heap.lt_size (I3.pin p hp).1
    rw[z] at this
    exact Nat.lt_irrefl _ this
   have hnC:H5 bA.objs.size=none:=I6.free
   refine wpAny_assign_Name (qJ (X:=X.ō) (i:=iv) I7 hN hiN (.inl hy) (v:=.ref s2.heap.objs.size) rfl (λs8 I8 ⟨a8,sb8,ha8⟩=>?_) (.inr hy))
   have ne8:bA.objs.size≠a8:=by
    rcases ha8 with rfl|ha8
    ·exact hCL
    ·exact λz=>hcC _ _ ha8 z.symm
   refine⟨m,hm.sameBut sb8 ne8,λh' hs'=>⟨_,H5,?_,qn⟩⟩
   have kp:∀b o,b≠bA.objs.size->s8.heap.get? b=some o->h'.get? b=some o:=λb o hb e=>hs'.extBut b o hb e
   have kp':∀b o,b∉[bA.objs.size]->s8.heap.get? b=some o->h'.get? b=some o:=λb o hb e=>kp b o (λz=>hb (by rw[z];exact List.mem_cons_self)) e
   refine I8.call' (ch:=[bA.objs.size]) (s':={s8 with heap:=h'}) rfl ⟨λb o e _ _ hx=>kp' b o hx e,λb o e _ _ hx=>⟨o.slots,kp' b o hx e⟩,λb o _ n _=>n,λb o e hx=>⟨o,kp' b o hx e⟩,λ_ _ q=>q,λ_ _ _ q=>q,λ_ ps q=>q⟩ (Az I8.hok hnC kp) I8.bare λb hb=>?_
   cases List.mem_singleton.mp hb
   exact⟨.inr I3.sz,hCL,hcC,hpC⟩
  ·refine Ŏ (T.item (bU X.ō N' scope cl bA.objs.size {s2 with heap:=bA} (upd H2 s2.heap.objs.size (.lst [])) fp) rfl rfl rfl hcalm i [] s5 σ5 H5 (λ_ _=>False) I5 (stat Vd) JH go) λr s6 ⟨u,hr,h6⟩=>?_
   subst hr
   refine Ŏ h6 λ_ s7 ⟨x,H7,I7,r7,y7,VR,fr7⟩=>?_
   have I7':=I7.pinned (stat fr7) (T.obj _ _ VR)
   have again:∀{s8:Shared} {σ8:L2.St} {H8:Hp},Inv (bU X.ō N' scope cl bA.objs.size {s2 with heap:=bA} (upd H2 s2.heap.objs.size (.lst [])) fp) ([]++jN fp s7.heap) σ8 H8 s8->
    Inv (bU X.ō N' scope cl bA.objs.size {s2 with heap:=bA} (upd H2 s2.heap.objs.size (.lst [])) fp) [] σ8 H8 s8/\tn (i+1) s8.heap/\∀b∈fp,H8 b=none:=fun{s8 σ8 H8} I8=>by
    refine⟨I8.fJ,T.keep _ _ _ VR λb hb o e=>(I8.pin (b,o) (List.mem_append_right _ (List.mem_append_right _ (aD hb e)))).1,λb hb=>?_⟩
    obtain⟨o,e,d⟩:=T.obj _ _ VR b hb
    exact(I8.pin (b,o) (List.mem_append_right _ (List.mem_append_right _ (aD hb e)))).2.1
   refine Ŏ (hg cl _ _ _ fp _ s7 σ5 H7 x u _ I7' r7 (step x H7 y7)) λ_ s8 ⟨σ8,H8,I8,q8⟩=>?_
   refine Ŏ (ht cl _ _ _ fp _ s8 σ8 H8 _ I8 q8) λc s9 ⟨H9,I9,q9⟩=>?_
   cases c with
   |false=>
    rw[if_neg Bool.false_ne_true] at q9 ⊢
    obtain⟨m',hm',w9⟩:=hN _ _ q9
    obtain⟨a1,a2,a3⟩:=again I9
    exact⟨m',hm',i+1,σ8,H9,a1,a2,a3,w9⟩
   |true=>
    rw[if_pos rfl] at q9 ⊢
    refine Ŏ (he cl _ _ _ fp _ s9 σ8 H9 _ I9 q9) λyv xX ⟨y,H10,I10,r10,ys,e10,l10,w10⟩=>?_
    refine Ŏ (bD _ xX σ8 H10 (.ref s2.heap.objs.size) [y] (.ref s2.heap.objs.size) [yv] (λ_ V_=>N σ8 V_) I10 rfl (.cons r10 .nil) ⟨_,ys,y,rfl,rfl,e10,l10,w10⟩) λ_ s11 ⟨v11,V_,I11,_,w11⟩=>?_
    obtain⟨a1,a2,a3⟩:=again I11
    obtain⟨m',hm',w11⟩:=hN _ _ w11
    exact⟨m',hm',i+1,σ8,V_,a1,a2,a3,w11⟩
 exact codeAny_compStart_list (loop _ rfl) (T.self _ 0 _ _ _ st4 (loop _ rfl))
end
end M3
namespace P
open PySem PySem.Spec PyProof.Rows L2 M2 M3 M4
section
variable{X:Cx}{cm:String->Addr}{E:L2.St->XK}{elt tg iter:Expr}{ifs:List Expr}{scope:Scope}{pos:Pos}{mi:M (List PV)}{g:Tg}{mt:M Bool}{me:M PV}
theorem PS.ō{st:Stmt}{t:TS}(h:PS X.ō st t):PS X st t:=λpins s σ H D I hw=>
 wpAny_mono (h pins s σ H D (I.wish _) hw) (λ_ _ q=>q.dD) λ_ _ z=>False.elim z
def WQ{i:Nat}{y:Str}{py spos:Pos}(hN:X.N.Nodup)(hi0:X.N[i]?=some y)(hy:X.env.scope.names.lookup y=some .local)(N':List Str)(js:List Nat)(nl:Nat)(sc:Scope)(hsc:X.env.scope=sc)(hcalm:X.calm=true)
 (hi:PI X.ō tg iter (tI (kk X cm) E mi))(hg:∀cl C s H fp,PG (bU X.ō N' scope cl C s H fp) tg (tT (kk X cm) g))(ht:∀cl C s H fp,Ew (bU X.ō N' scope cl C s H fp) ifs (tB (kk X cm) EF mt))(he:∀cl C s H fp,PE (bU X.ō N' scope cl C s H fp) elt (tV (kk X cm) EF me))
 (hcap:h_ X.ō sc scope N' js)(hlen:js.length+nl=N'.length:=by rfl)
 (hk:scope.kind=.function:=by rfl)(hcell:∀y∈scope.names,y.2=.cell->scope.names.lookup y.1=some .cell:=by decide +kernel)(hnames:∀y∈scope.names,y.2=.local->scope.names.lookup y.1=some .local:=by decide +kernel)
 (hfree:∀y∈scope.names,y.2=.free->(sc.names.lookup y.1=some .cell\/sc.names.lookup y.1=some .free):=by decide +kernel)
 (hs:∀x,foldedSetIterable iter X.env x=pure x:=by intro _;rfl)(hsw:swapsWith (.ListComp elt [⟨tg,iter,ifs,0⟩] scope pos) (some (.Name y py)) spos.line X.env=pure true:=by rfl) :
 PS X (.Assign [.Name y py] (.ListComp elt [⟨tg,iter,ifs,0⟩] scope pos) spos) (tS (kk X cm) E (ģ i (Ń js nl mi g mt me))):=
 PS.wk (PS.ō (Lr hN hi0 hy hsw N' js nl sc hsc hcalm (Nj hi) hg ht he hcap hlen hk hcell hnames hfree hs)) fun D σ H ⟨c,F,ρ,rel,h⟩=>wj ⟨c,F,ρ,rel,Ş.bind h fun r ρ1 v F1 H1 Ĕ s1 q h1=>by
   cases r with
   |sh p=>exact h1 _ F1 H1 (Ĕ.put rfl ⟨v,rfl,q⟩) (Same.refl _)
   |ow ps=>
    obtain⟨a,vs,rfl,q1,q2,q3,q4,q5⟩:=q
    exact h1 _ F1 H1 (Ĕ.Fq ⟨a,vs,rfl,q1,q2,q3,q5⟩ λ_ z=>V.ref.inj z▸q4) (Same.refl _)
   |ot ps qs rs=>
    obtain⟨p,a,xs,vs,ys,rfl,q0,qx,q1,q2,q3,q4,q5,q6⟩:=q
    exact h1 _ F1 H1 (Ĕ.Fq (s:=.ot ps qs rs) ⟨p,a,xs,vs,ys,rfl,q0,qx,q1,q2,q3,q5,q6⟩ λ_ z=>mY (ps:=ps) (qs:=qs) (rs:=rs) z ⟨p,xs,ys,rfl,q0,qx.length.symm⟩▸q4) (Same.refl _)
   |bn t ps qs rows=>exact h1 _ F1 H1 (Ĕ.ZaH q) (Same.refl _)⟩
end
end P
namespace P
open PySem PySem.Spec PyProof.Rows L2 M2 M3 M4
def MtV(K:KK)(r:V->List V->Hp->VK->Prop)(f:PV->List PV->Option PV):Prop:=∀{c:Ctx} {F H:Hp} {σ:L2.St} {ρ:ķ} {p:PV} {ps:List PV} {pv:PV} {v:V} {vs:List V} {Q:VK},Rel K c F H σ ρ->rR K c σ ρ F H p v->YK K c σ ρ F H ps vs->f p ps=some pv->
 (∀z F' H',Rel K c F' H' σ ρ->Same F F'->Same H H'->Rep K F' pv z->Q z H')->r v vs H Q
def mBM(f:PV->List PV->Option PV)(mo:M PV)(ms:M (List PV)):M PV:=λρ=>(mo ρ).bind λp ρ1=>match p with
 | .str _=>(ms ρ1).bind λps ρ2=>Res.mZ (f p ps) ρ2
 |_=>.bad
@[simp] theorem ZeF{f:PV→List PV→Option PV}{mo:M PV}{ms:M (List PV)}{ρ:ķ}:mBM f mo ms ρ=(mo ρ).bind fun p ρ1=>match p with
  | .str _=>(ms ρ1).bind λps ρ2=>Res.mZ (f p ps) ρ2
  |_=>.bad:=rfl
section
variable{X:Cx}{cm:String->Addr}{K:KK}{E:L2.St->XK}{o e:Expr}{es:List Expr}{name:Str}{apos cpos:Pos}{id:String}{r:V->List V->Hp->VK->Prop}{f:PV->List PV->Option PV}{mo:M PV}{ms:M (List PV)}
def Zd3(pa:PlainAttrs "str")(slot:PySem.Slot "str" name id)(hty:typeOf (.builtin id)=pure (.type "method_descriptor"))(hf:MtV (kk X cm) r f)(hm:MtR X id r)(ho:PE X o (tR (kk X cm) E mo))(ha:PA X (e::es) (KC (kk X cm) E ms))
 (hbase:attributeBase o name X.env (eval o X.env)=eval o X.env:=by rfl)
 (hfew:((backTo cpos (starEach (e::es) X.env)).all (fun x=>!x.1) && (backToKw cpos (keywordEach [] X.env)).all (fun x=>x.1.isSome)
   && decide ((e::es).length+([]:List Keyword).length+(if([]:List Keyword).isEmpty then 0 else 1)<30))=true:=by rfl)
 (hline:(apos.endLine== cpos.line)=true:=by rfl)(hs:starEach (e::es) X.env=(false,eval e X.env)::starEach es X.env:=by exact bG rfl)(hplain:(backTo cpos (starEach es X.env)).any (·.1)=false:=by rfl) :
 PE X (.Call (.Attribute o name apos) (e::es) [] cpos) (tV (kk X cm) E (mBM f mo ms)):=
 PE.wk (nG pa slot hty hm ho ha hbase hfew hline hs hplain) fun σ H Q ⟨c,F,ρ,rel,h⟩=>⟨c,F,ρ,rel,ų.bind h fun p ρ1 v F1 H1 Ĕ _ _ r1 h1=>by
   cases p with
   |str z=>
    cases r1.str
    refine⟨rfl,c,F1,ρ1,Ĕ,ų.bind h1 λps ρ2 vs F2 H2 ĩ sF sH r2 h2=>?_⟩
    cases ef:f (.str z) ps with
    |none=>rw[ef] at h2;exact h2.elim
    |some pv=>rw[ef] at h2;exact hf ĩ (.inl (Rep.str (K:=kk X cm) (F:=F2))) r2 ef λz F' H' Ż s1 s2 q'=>h2 z F' H' Ż s1 s2 q'
   |_=>exact h1.elim⟩
def strsOf:List PV->Option (List (List Nat))
 | []=>some []
 | .str z::ps=>(strsOf ps).map (z.cps.toList:: ·)
 |_::_=>none
theorem wF{F:Hp}:∀{ps:List PV} {vs:List V} {bs:List (List Nat)},Ē K F ps vs->strsOf ps=some bs->vs=bs.map λl=>V.str (S l)
 | [],vs,bs,r,h=>by
   cases h
   cases r.pr
   rfl
 |p::ps,vs,bs,r,h=>by
  cases r.pr with
  |cons r1 t=>
   cases p with
   |str z=>
    unfold strsOf at h
    obtain⟨cs,e,rfl⟩:=Option.map_eq_some_iff.mp h
    rw[wF (Ē.of t) e,show _=V.str z from r1,List.map_cons,Wb]
   |_=>cases h
def wG:PV->List PV->Option PV
 | .str z,[.lst ps]=>(strsOf ps).bind λys=>if(ys.map List.length).sum+ys.length*z.length<=16777216 then some (.str (S (dY z.cps.toList ys))) else none
 |_,_=>none
def Ls:MtV K (Fe K.K) wG:=by
 intro c F H σ ρ p ps pv v vs Q rel r1 r2 e k
 unfold wG at e
 split at e
 ·rename_i z qs
  cases r1.str
  obtain⟨u,rfl,r3⟩:=wz r2
  obtain⟨a,xs,rfl,h1,h2⟩:=r3.lst rel.sub
  obtain⟨ys,eb,e⟩:=Option.bind_eq_some_iff.mp e
  split at e
  ·rename_i hz
   cases e
   exact⟨ys,by rw[<-wF h2 eb];exact h1,hz,k _ F H rel (Same.refl _) (Same.refl _) Rep.str⟩
  ·cases e
 ·cases e
end
end P
namespace P
open PySem PySem.Spec PyProof.Rows L2 M2 M3 M4
section
variable{X:Cx}{pins:List (Addr×Obj)}{σ:L2.St}{H:Hp}{s:Shared}{h':Heap}
def turns{t':Nat}{fp:List Addr}(I:Inv X pins σ H s)(k:∀b o,b∉fp->s.heap.get? b=some o->h'.get? b=some o)(hf:∀b∈fp,fH X pins H b):Inv X pins σ H {s with heap:=h',toks:=t'}:=by
 have nit:∀b u,H b=some u->b∉fp:=λb u e z=>by rw[(hf b z).1] at e;cases e
 have hL:X.env.locals∉fp:=λz=>(hf _ z).2.1 rfl
 refine I.step (g':=s.gens) (d':=s.drawn) (ch:=fp) (λb hb=>?_) (λb o _ _ hc e _=>k b o hc e) (λb o _ _ hc e _=>⟨o.slots,k b o hc e⟩) (λ_ _ _ _ n=>n)
  (λb o hc e=>⟨o,k b o hc e⟩) (λ_ _ e=>e) (λ_ _ _ e=>e) (λb ps e=>e) (λm hm=>?_) (λb u e=>?_) I.bare
 ·obtain⟨f0,f1,f2,f3,f4,f5⟩:=hf b hb
  exact⟨f3,f1,f4,f5⟩
 ·obtain⟨o,es,ep,ho,r⟩:=hm
  exact⟨o,es,ep,k _ o hL ho,r⟩
 ·refine(I.hok b u e).stay (λc v hc q=>k c v ?_ q) (λ_ q=>q) λ_ _ q=>q
  rcases hc with z|z
  ·rw[z];exact nit b u e
  ·exact nit c _ z
def WR{a b:Addr}{o:HO}(f:fH X pins H b)(h:b≠a):fH X pins (upd H a o) b:=⟨by rw[Ę h];exact f.1,f.2⟩
def zm{t':Nat}{fp:List Addr}{u1 u2:Value}{x1 x2:V}(I:Inv X pins σ H s)(r1:RelV x1 u1)(r2:RelV x2 u2)(ht:∃o,h'.get? s.heap.objs.size=some o/\o= {cls:=.type "tuple",data:=.seq #[u1,u2]})
 (k:∀b o,b∉fp->s.heap.get? b=some o->h'.get? b=some o)(hf:∀b∈fp,fH X pins H b)(hlt:∀b∈fp,b<s.heap.objs.size) :
 Inv X pins σ (upd H s.heap.objs.size (.tup [x1,x2])) {s with heap:=h',toks:=t'}:=by
 have I1:Inv X pins σ (upd H s.heap.objs.size (.tup [x1,x2])) {s with heap:=s.heap.push {cls:=.type "tuple",data:=.seq #[u1,u2]},toks:=s.toks}:=
  I.laid (t':=s.toks) (λb u e=>Heap.get?_push_of_some _ e) (Nat.le_refl _) ⟨by show 2<=sizeLine;decide,[u1,u2],.cons r1 (.cons r2 .nil),⟨_,Heap.get?_push_size _ rfl,rfl,_,rfl⟩⟩
 refine turns (fp:=fp) (s:={s with heap:=s.heap.push {cls:=.type "tuple",data:=.seq #[u1,u2]},toks:=s.toks}) (h':=h') (t':=t') I1 (λb o hb e=>?_) λb hb=>WR (hf b hb) (Nat.ne_of_lt (hlt b hb))
 rcases Heap.get?_push_cases e with⟨rfl,rfl⟩|e
 ·obtain⟨o,h1,h2⟩:=ht
  rw[h1,h2]
 ·exact k b o hb e
end
section
variable{X:Cx}{elts:List Expr}{k:Nat}{tp:Pos}
end
def rLs(K:KK):RR (List PV) V:=λc _ _ F H items v=>∃a,v=.ref a/\(∃xs,Ř K.K H a xs)/\fY K c.L F (YJ K.K a) items
def rTs(K:KK):RR (List PV) V:=λc _ _ F H items v=>∃a,v=.ref a/\(∃xs,bW K.K H a xs)/\fY K c.L F (Itt K.K a) items
def rSq(K:KK):RR (List PV) V:=λc σ ρ F H items v=>rLs K c σ ρ F H items v\/rTs K c σ ρ F H items v
def wH{K:KK}{L F:Hp}{ps:List PV}{v:V}(h:Rep K F (.lst ps) v):∃a,v=.ref a/\(∃xs,Ř K.K F a xs)/\fY K L F (YJ K.K a) ps:=by
 unfold Rep at h
 obtain⟨a,vs,rfl,e1,e2⟩:=h
 refine⟨a,rfl,⟨vs,e1⟩,?_⟩
 intro c' i F2 H2 σ2 ρ2 ĩ sF _
 have hq:Ř K.K H2 a vs:=(sF.trans ĩ.sub).seq e1
 refine⟨λp hp=>?_,λhi=>⟨vs,hq,by rw[hi,e2.length];exact Nat.le_refl _⟩⟩
 obtain⟨u,hu,ru⟩:=bH e2.pr hp
 refine⟨⟨vs,u,hq,hu⟩,λx H' ⟨hH,hx⟩=>?_⟩
 subst hH
 have:vs[i]?=some x:=hx vs hq
 rw[hu] at this
 cases this
 exact⟨F2,ĩ,Same.refl _,Same.refl _,Rep.same sF p u ru⟩
def Gz{K:KK}{L F:Hp}{ps:List PV}{v:V}(h:Rep K F (.tup ps) v):∃a,v=.ref a/\(∃xs,bW K.K F a xs)/\fY K L F (Itt K.K a) ps:=by
 unfold Rep at h
 obtain⟨a,vs,rfl,e1,e2⟩:=h
 refine⟨a,rfl,⟨vs,e1⟩,?_⟩
 intro c' i F2 H2 σ2 ρ2 ĩ sF _
 have hq:bW K.K H2 a vs:=Same.tup (sF.trans ĩ.sub) e1
 refine⟨λp hp=>?_,λhi=>⟨vs,hq,by rw[hi,e2.length];exact Nat.le_refl _⟩⟩
 obtain⟨u,hu,ru⟩:=bH e2.pr hp
 refine⟨⟨vs,u,hq,hu⟩,λx H' ⟨hH,hx⟩=>?_⟩
 subst hH
 have:vs[i]?=some x:=hx vs hq
 rw[hu] at this
 cases this
 exact⟨F2,ĩ,Same.refl _,Same.refl _,Rep.same sF p u ru⟩
def CZ{K:KK}{c:Ctx}{F:Hp}{a:Addr}{vs:List V}{ps:List PV}(h2:c.L a=some (.lst vs))(h3:Ē K F ps vs):fY K c.L F (YJ K.K a) ps:=by
 intro c' j F2 H2 σ2 ρ2 ĩ sF sL
 have hq:Ř K.K H2 a vs:=Ř.of (sL a _ h2)
 refine⟨λp hp=>?_,λhi=>⟨vs,hq,by rw[hi,h3.length];exact Nat.le_refl _⟩⟩
 obtain⟨u,hu,ru⟩:=bH h3.pr hp
 refine⟨⟨vs,u,hq,hu⟩,λx H' ⟨hH,hx⟩=>?_⟩
 subst hH
 have:vs[j]?=some x:=hx vs hq
 rw[hu] at this
 cases this
 exact⟨F2,ĩ,Same.refl _,Same.refl _,Rep.same sF p u ru⟩
def fY.mono{K:KK}{L F F1:Hp}{J:It}{ps:List PV}(h:fY K L F J ps)(s:Same F F1):fY K L F1 J ps:=λc i F2 H σ ρ rel sF sL=>h c i F2 H σ ρ rel (s.trans sF) sL
def GC(i:Nat):M (List PV):=λρ=>match ρ[i]? with
 |some (.bw ps)=>.ok ps ρ
 |some (.sh (.lst ps))=>.ok ps ρ
 |some (.sh (.tup ps))=>.ok ps ρ
 |some (.ow ps)=>.ok ps (ρ.set i (.sh (.lst ps)))
 |_=>.bad
section
variable{X:Cx}{cm:String->Addr}{E:L2.St->XK}{e:Expr}{m:M PV}
def NP(i:Nat){x:Str}{px:Pos}(hN:X.N[i]?=some x:=by rfl)(hv:Aj X.env.scope x:=by first|exact Or.inl rfl|exact Or.inr (Or.inl rfl)|exact Or.inr (Or.inr rfl))(hd:(x== ("__debug__" :Str))=false:=by decide)
 (hcd:(x== ("__classdict__" :Str))=false:=by decide):PE X (.Name x px) (tG (kk X cm) E (rSq (kk X cm)) (GC i)):=PE.wk (dB hN hv hd hcd) λσ H Q ⟨c,F,ρ,rel,h⟩=>by
 unfold GC at h
 cases e:ρ[i]? with
 |none=>rw[e] at h;exact h.elim
 |some sl=>
  rw[e] at h
  cases sl with
  |no=>exact h.elim
  |rc C ns ps=>exact h.elim
  |ot ps qs rs=>exact h.elim
  |ol mX=>exact h.elim
  |fr mX=>exact h.elim
  |bn qs rows=>exact h.elim
  |dw qX=>exact h.elim
  |ow ps=>
   obtain⟨a,vs,z1,z2,z3,z4⟩:=rel.share e
   obtain⟨a',e1,⟨xs,e2⟩,e3⟩:=wH (L:=c.L) z3
   cases e1
   exact⟨.ref a,z1,h _ _ H z4 (Same.upd z2) (Same.refl _) (.inl ⟨a,rfl,⟨xs,z4.sub.seq e2⟩,e3⟩)⟩
  |bw ps=>
   obtain⟨a,vs,h1,h2,h3⟩:=rel.slot i _ e
   exact⟨.ref a,at_of h1,h _ F H rel (Same.refl _) (Same.refl _) (.inl ⟨a,rfl,⟨vs,Ř.of (rel.lent a _ h2).1⟩,CZ h2 h3⟩)⟩
  |sh p=>
   obtain⟨v,h1,h2⟩:=rel.slot i _ e
   cases p with
   |lst ps=>
    obtain⟨a,e1,⟨xs,e2⟩,e3⟩:=wH (L:=c.L) h2
    exact⟨v,at_of h1,h v F H rel (Same.refl _) (Same.refl _) (.inl ⟨a,e1,⟨xs,rel.sub.seq e2⟩,e3⟩)⟩
   |tup ps=>
    obtain⟨a,e1,⟨xs,e2⟩,e3⟩:=Gz (L:=c.L) h2
    exact⟨v,at_of h1,h v F H rel (Same.refl _) (Same.refl _) (.inr ⟨a,e1,⟨xs,Same.tup rel.sub e2⟩,e3⟩)⟩
   |_=>exact h.elim
def Lw{K:KK}{c:Ctx}{F H:Hp}{σ:L2.St}{ρ:ķ}{T:Addr}{p q:PV}{x y:V}(rel:Rel K c F H σ ρ)(hT:H T=none)(r1:Rep K F p x)(r2:Rep K F q y):Rel K c (upd F T (.tup [x,y])) (upd H T (.tup [x,y])) σ ρ/\Rep K (upd F T (.tup [x,y])) (.tup [p,q]) (.ref T):=by
 have hF:=rel.sub.free hT
 refine⟨rel.alloc hT,?_⟩
 unfold Rep
 exact⟨T,[x,y],rfl,bW.of ē,Ē.cons (Rep.same (Same.upd hF) p x r1) (Ē.cons (Rep.same (Same.upd hF) q y r2) Ē.nil)⟩
def zp(i:Nat)(mo:M RV):M Fl:=λρ=>match ρ[i]? with
 |some (.ow _)=>(mo ρ).bind λr ρ1=>match ρ1[i]?,r with
  |some (.ow ps),.ow qs=>if ps.length+qs.length<=16777216 then .ok .nx (ρ1.set i (.ow (ps++qs))) else .bad
  |_,_=>.bad
 |_=>.bad
def Bv{i:Nat}{mo:M RV}{D:Ends}{σ:L2.St}{H:Hp}(h:tS (kk X cm) E (zp i mo) D σ H):qL (tBM X.K "list" Ax (eZ i) (aA (tO (kk X cm) E mo) sV)) D σ H:=by
 obtain⟨c,F,ρ,rel,h⟩:=h
 unfold zp at h
 cases e1:ρ[i]? with
 |none=>rw[e1] at h;exact h.elim
 |some sl=>
  rw[e1] at h
  cases sl with
  |ow ps0=>
   obtain⟨a,vs0,z1,z2,z3,z4,z5,z6⟩:=rel.ow e1
   refine⟨.ref a,z1,.inl ⟨rfl,_,Ř.of z2⟩,c,F,ρ,rel,?_⟩
   refine Ş.bind h λr ρ1 v F1 H1 Ĕ s1 q h1=>?_
   cases e2:ρ1[i]? with
   |none=>simp only[e2] at h1;exact h1.elim
   |some sl2=>
    simp only[e2] at h1
    cases sl2 with
    |ow ps=>
     cases r with
     |ow qs=>
      obtain⟨b,us,eb,hb1,hb2,hb3,hb4,hb5⟩:=q
      subst eb
      obtain⟨a2,vs,w1,w2,w3,w4,w5,w6⟩:=Ĕ.ow e2
      rw[z1] at w1
      cases w1
      dsimp only at h1
      split at h1
      ·rename_i hz
       refine⟨a,b,vs,us,rfl,rfl,w2,hb1,by rw[<-w5.length,<-hb5.length,ĸ];exact hz,h1 σ F1 _ (Ĕ.write w6 z1 ⟨a,vs++us,rfl,ē,w3,w4,Ē.append w5 hb5⟩ λ_ z=>(V.ref.inj z).symm) (Same.refl _)⟩
      ·exact h1.elim
     |_=>exact h1.elim
    |_=>exact h1.elim
  |_=>exact h.elim
@[simp] theorem Zd4{i:Nat}{mo:M RV}{ρ:ķ}:zp i mo ρ=(match ρ[i]? with
  |some (.ow _)=>(mo ρ).bind λr ρ1=>match ρ1[i]?,r with
   |some (.ow ps),.ow qs=>if ps.length+qs.length<=16777216 then .ok .nx (ρ1.set i (.ow (ps++qs))) else .bad
   |_,_=>.bad
  |_=>.bad):=rfl
@[simp] theorem Zd5{i:Nat}{ρ:ķ}:GC i ρ=(match ρ[i]? with
  |some (.bw ps)=>.ok ps ρ
  |some (.sh (.lst ps))=>.ok ps ρ
  |some (.sh (.tup ps))=>.ok ps ρ
  |some (.ow ps)=>.ok ps (ρ.set i (.sh (.lst ps)))
  |_=>.bad):=rfl
end
end P
namespace P
open PySem PySem.Spec PyProof.Rows L2 M2 M3 M4
def Za2{X:Cx}:PIp X .BitOr (ipI λi j=>Builtin.bitOr i j):=by
 intro pins s σ H x y v u Q I r1 r2 h
 obtain⟨i,j,e1,e2,q⟩:=h
 subst e1;subst e2
 obtain⟨t,rfl⟩:=r1
 obtain⟨t',rfl⟩:=r2
 exact ior_int ⟨.int _,H,I.tok _,⟨_,rfl⟩,q⟩
def wI(i:Nat)(m:M PV):M Fl:=λρ=>match ρ[i]? with
 |some (.sh (.int _))=>(m ρ).bind λq ρ1=>match ρ1[i]?,q with
  |some (.sh (.int k)),.int j=>.ok .nx (ρ1.set i (.sh (.int (Builtin.bitOr k j))))
  |_,_=>.bad
 |_=>.bad
@[simp] theorem Zcy{i:Nat}{m:M PV}{ρ:ķ}:wI i m ρ=(match ρ[i]? with
  |some (.sh (.int _))=>(m ρ).bind λq ρ1=>match ρ1[i]?,q with
   |some (.sh (.int k)),.int j=>.ok .nx (ρ1.set i (.sh (.int (Builtin.bitOr k j))))
   |_,_=>.bad
  |_=>.bad):=rfl
section
variable{X:Cx}{cm:String->Addr}{E:L2.St->XK}{e a b:Expr}{m ma mb:M PV}{pos:Pos}
def uy{K:KK}{F:Hp}{i:Int}{v:V}(h:Rep K F (.int i) v):v=.int i:=by unfold Rep at h;exact h
def GD{i:Nat}{x:Str}{pos':Pos}(hN:X.N.Nodup)(hi:X.N[i]?=some x)(hx:Loc X.env.scope x)(he:PE X e (tV (kk X cm) E m))(hf:X.fn x=true\/X.env.scope.names.lookup x=some .local:=by first|exact .inl rfl|exact .inr rfl|assumption) :
 PS X (.AugAssign (.Name x pos') .BitOr e pos) (tS (kk X cm) E (wI i m)):=PS.wk (Va hN hi hx he Za2 hf) λD σ H ⟨c,F,ρ,rel,h⟩=>by
 unfold wI at h
 cases e1:ρ[i]? with
 |none=>rw[e1] at h;exact h.elim
 |some sl=>
  rw[e1] at h
  cases sl with
  |sh p=>
   cases p with
   |int k0=>
    obtain⟨v,h1,h2⟩:=rel.slot i _ e1
    cases uy h2
    refine⟨.int k0,at_of h1,c,F,ρ,rel,Ş.bind h λq ρ1 u F1 H1 Ĕ s1 rq h1'=>?_⟩
    cases e2:ρ1[i]? with
    |none=>simp only[e2] at h1';exact h1'.elim
    |some sl2=>
     simp only[e2] at h1'
     cases sl2 with
     |sh p2=>
      cases p2 with
      |int k=>
       cases q with
       |int j=>
        obtain⟨v2,w1,w2⟩:=Ĕ.slot i _ e2
        cases uy w2
        rw[h1] at w1
        cases w1
        cases uy rq
        exact⟨k0,j,rfl,rfl,h1' _ F1 H1 (Ĕ.put rfl ⟨_,rfl,Rep.int⟩) (Same.refl _)⟩
       |_=>exact h1'.elim
      |_=>exact h1'.elim
     |_=>exact h1'.elim
   |_=>exact h.elim
  |_=>exact h.elim
def GF(its:List Value):slicePick its.toArray none none (some (-1))=its.reverse.toArray:=by
 have hb:sliceBounds none none (some (-1)) its.toArray.size=(((its.length:Nat):Int)-1,-1,-1):=by simp[sliceBounds]
 unfold slicePick
 rw[hb]
 have hr:sliceRange (((its.length:Nat):Int)-1) (-1) (-1)=(List.range its.length).map λk=>its.length-1-k:=by
  unfold sliceRange
  have hc:(if(-1:Int)>0 then(if((its.length:Nat):Int)-1 < -1 then(-1-(((its.length:Nat):Int)-1) + -1-1) / -1 else 0) else(if((its.length:Nat):Int)-1 > -1 then((((its.length:Nat):Int)-1) - -1 - -1-1) / (- -1) else 0))=((its.length:Nat):Int):=by
   rw[if_neg (by decide)]
   split
   ·rw[show(- -1:Int)=1 by decide,Int.ediv_one];omega
   ·omega
  simp only[hc,Int.toNat_natCast]
  refine List.map_congr_left λk hk=>?_
  have:=List.mem_range.mp hk
  omega
 dsimp only
 rw[hr]
 refine congrArg List.toArray (List.ext_getElem? λi=>?_)
 by_cases hi:i<its.length
 ·have key:∀(n m:Nat),n≤its.length→(((List.range n).map fun k=>its.length-1-k).filterMap (its.toArray[·]?))=((its.drop (its.length-n)).reverse):=by
   intro n m
   induction n with
   |zero=>intro _;simp
   |succ n ih=>
    intro hn
    rw[List.range_succ,List.map_append,List.filterMap_append,ih (by omega)]
    have hg:its.toArray[its.length-1-n]?=some (its[its.length-1-n]'(by omega)):=by simp
    simp only[List.map_cons,List.map_nil,List.filterMap_cons,hg,List.filterMap_nil]
    rw[show its.length-(n+1)=its.length-1-n by omega,List.drop_eq_getElem_cons (show its.length-1-n<its.length by omega),List.reverse_cons,show its.length-1-n+1=its.length-n by omega]
  rw[key its.length 0 (Nat.le_refl _)]
  simp
 ·have key:∀(n m:Nat),n≤its.length→(((List.range n).map fun k=>its.length-1-k).filterMap (its.toArray[·]?))=((its.drop (its.length-n)).reverse):=by
   intro n m
   induction n with
   |zero=>intro _;simp
   |succ n ih=>
    intro hn
    rw[List.range_succ,List.map_append,List.filterMap_append,ih (by omega)]
    have hg:its.toArray[its.length-1-n]?=some (its[its.length-1-n]'(by omega)):=by simp
    simp only[List.map_cons,List.map_nil,List.filterMap_cons,hg,List.filterMap_nil]
    rw[show its.length-(n+1)=its.length-1-n by omega,List.drop_eq_getElem_cons (show its.length-1-n<its.length by omega),List.reverse_cons,show its.length-1-n+1=its.length-n by omega]
  rw[key its.length 0 (Nat.le_refl _)]
  simp
def Lx(m:M PV):M RV:=λρ=>(m ρ).bind λp ρ1=>match p with
 | .lst ps=>.ok (.ow ps.reverse) ρ1
 |_=>.bad
@[simp] theorem Zd6{ρ:ķ}:Lx m ρ=(m ρ).bind fun p ρ1=>match p with
  | .lst ps=>.ok (.ow ps.reverse) ρ1
  |_=>.bad:=rfl
def Zd7(K:PySem.W.Frag)(te:TE):TE:=λσ H Q=>te σ H λx H1=>∃a xs,x=.ref a/\Ř K H1 a xs/\∀p,H1 p=none->Q (.ref p) (upd H1 p (.lst xs.reverse))
def WT{te:TE}{p1 p2 p3:Pos}{j:Nat}(he:PE X e te):PE X (.Subscript e (.Slice none none (some (.UnaryOp .USub (.Constant (.int 1) j p1) p3)) p2) pos) (Zd7 X.K te):=by
 intro pins s σ H Q I h
 refine Subscript_ (Ŏ (he pins s σ H _ I h) λv s1 ⟨x,H1,I1,r1,q1⟩=>?_)
 obtain⟨a,xs,e1,hq,q⟩:=q1
 subst e1
 cases r1
 refine wpAny_Slice ?_
 rw[evalPart_none]
 refine wpAny_pure ?_
 refine wpAny_pure ?_
 have hst:PO X (some (.UnaryOp .USub (.Constant (.int 1) j p1) p3)) (MP (tUn (mU λi=>.int (-i)) (tC (.int 1)))):=JZ (MJ dG fG)
 refine Ŏ (hst pins s1 σ H1 (λo H2=>o=some (-1)/\H2=H1) I1 ⟨-1,rfl,rfl,rfl⟩) λvs s3 ⟨o,H3,I3,p3,e3,e4⟩=>?_
 subst e3 e4
 have I4:Inv X pins σ H3 {s3 with heap:=s3.heap.push {cls:=.type "slice",data:=.fields #[.none,.none,vs]}}:=I3.kept (t':=s3.toks) λb ob q=>Heap.get?_push_of_some _ q
 obtain⟨its,r,ht,hz⟩:=I4.list hq
 have hlen:=r.length
 show wpAny (model X.prog X.w) X.A (subscriptTail e (.Slice none none (some (.UnaryOp .USub (.Constant (.int 1) j p1) _)) p2) (.ref a) (.ref s3.heap.objs.size)) (EP X pins σ Q) X.xe {s3 with heap:=s3.heap.push {cls:=.type "slice",data:=.fields #[.none,.none,vs]}}
 refine tail_any (ops:=[.ref a,.ref s3.heap.objs.size]) (T:= "list") ht.isList.typeIs slot_list_getitem.lookup ?_ (by with_unfolding_all rfl)
 refine wpAny_getItem_list_slice ht.isList (Heap.IsSliceOf.new ..) .none .none p3 (by simp) ?_ (by rw[List.size_toArray]<;>omega)
 rw[GF]
 refine⟨.ref _,_,I4.laid (t':=s3.toks) (o:=.lst xs.reverse) (λb ob q=>Heap.get?_push_of_some _ q) (Nat.le_refl _) ?_,rfl,q _ (I4.hok.fresh (Nat.le_refl _))⟩
 exact⟨by rw[List.length_reverse];exact hz,_,0,r.reverse,Heap.get?_push_size _ rfl⟩
def Za3{p1 p2 p3:Pos}{j:Nat}(he:PE X e (tR (kk X cm) E m)):PE X (.Subscript e (.Slice none none (some (.UnaryOp .USub (.Constant (.int 1) j p1) p3)) p2) pos) (tO (kk X cm) E (Lx m)):=PE.wk (WT he) λσ H Q ⟨c,F,ρ,rel,h⟩=>
 ⟨c,F,ρ,rel,ų.bind h fun p ρ1 v F1 H1 Ĕ _ _ r1 h1=>by
   cases p with
   |lst ps=>
    obtain⟨a,vs,rfl,hq,rl⟩:=r1.lst Ĕ.sub
    refine⟨a,vs,rfl,hq,λb hb=>?_⟩
    obtain⟨q1,q2⟩:=cY Ĕ hb (Ē.of (Fj rl.pr))
    exact h1 _ _ _ q1 (Same.refl _) (Same.upd hb) q2
   |_=>exact h1.elim⟩
end
section
variable{X:Cx}{K:KK}
end
end P
namespace P
open PySem PySem.Spec PyProof.Rows L2 M2 M3 M4
section
variable{prog:Program}{w:World}{A:Around}{E:Value->Shared->Prop}{s:Shared}
def jq{it l:Addr}{i:Nat}{items}{x:Value}{Q:Value->Shared->Prop}(hit:s.heap.IsTupleIter it l i)
 (hl:s.heap.IsTuple l items)(hx:items[i]?=some x)
 (hQ:∀h',h'.IsTupleIter it l (i+1)->Heap.SameBut it s.heap h'->Q x {s with heap:=h'}) :
 wpAny (model prog w) A (Builtin.SmallTypes.nextOf (.ref it)) Q E s:=by
 obtain⟨o,ho,hc,hd⟩:=id hit
 obtain⟨ol,hol,_,nl,hdl⟩:=hl
 unfold Builtin.SmallTypes.nextOf
 refine wpAny_bind (wpAny_callSpecial?_slot (name:=Str.ofString "__next__") hit.typeIs F.slot_tuple_iterator_next
  (wpAny_call_entry F.slot_tuple_iterator_next hit.typeIs F.entry_tuple_iterator_next ?_ (F.args_tuple_iterator_next_1 _)))
 show wpAny _ _ (field (.ref it) 0 >>= _) _ _ s
 refine wpAny_bind (wpAny_field ho hd (x:=.ref l) rfl ?_)
 show wpAny _ _ (if(Value.ref l== Value.none)=true then _ else _) _ _ s
 rw[if_neg (show ¬((Value.ref l== Value.none)=true) from Bool.false_ne_true)]
 show wpAny _ _ (field (.ref it) 1 >>= _) _ _ s
 refine wpAny_bind (wpAny_field ho hd (x:=.int i 0) rfl ?_)
 show wpAny _ _ (seqItems? (.ref l) >>= _) _ _ s
 refine wpAny_bind (wpAny_seqItems hol hdl ?_)
 simp only[Int.toNat_natCast,hx]
 refine wpAny_bind (wpAny_setField ho hd (by simp) (wpAny_pure ⟨x,rfl,wpAny_pure (hQ _ ?_ (Heap.SameBut.update ..))⟩))
 exact⟨_,Heap.get?_update_self _ ho (Obj.isFreed_of_fields (Obj.data_mapFields hd _)),(Obj.cls_mapFields ..).trans hc,by
  rw[Obj.data_mapFields hd];simp[rawInt]⟩
def jY{it l:Addr}{i:Nat}{items}{Q:Value->Shared->Prop}(hh:A.handled=none)
 (hit:s.heap.IsTupleIter it l i)(hl:s.heap.IsTuple l items)(hx:items[i]?=none)
 (hE:∀h' e,Heap.ExtBut it s.heap h'->(∃o,h'.get? e=some o/\o.cls=.type "StopIteration")->E (.ref e) {s with heap:=h'}) :
 wpAny (model prog w) A (Builtin.SmallTypes.nextOf (.ref it)) Q E s:=by
 obtain⟨o,ho,hc,hd⟩:=id hit
 obtain⟨ol,hol,_,nl,hdl⟩:=hl
 unfold Builtin.SmallTypes.nextOf
 refine wpAny_bind (wpAny_callSpecial?_slot (name:=Str.ofString "__next__") hit.typeIs F.slot_tuple_iterator_next
  (wpAny_call_entry F.slot_tuple_iterator_next hit.typeIs F.entry_tuple_iterator_next ?_ (F.args_tuple_iterator_next_1 _)))
 show wpAny _ _ (field (.ref it) 0 >>= _) _ _ s
 refine wpAny_bind (wpAny_field ho hd (x:=.ref l) rfl ?_)
 show wpAny _ _ (if(Value.ref l== Value.none)=true then _ else _) _ _ s
 rw[if_neg (show ¬((Value.ref l== Value.none)=true) from Bool.false_ne_true)]
 show wpAny _ _ (field (.ref it) 1 >>= _) _ _ s
 refine wpAny_bind (wpAny_field ho hd (x:=.int i 0) rfl ?_)
 show wpAny _ _ (seqItems? (.ref l) >>= _) _ _ s
 refine wpAny_bind (wpAny_seqItems hol hdl ?_)
 simp only[Int.toNat_natCast,hx]
 refine wpAny_bind (wpAny_rule (wpAny_bind (wpAny_setField ho hd (by simp) ?_)))
 show wpAny _ _ (newExc (.type "StopIteration") [] >>= _) _ _ _
 refine wpAny_bind ?_
 simp only[newExc,newTuple]
 refine wpAny_bind (wpAny_newObj_type ?_ (by size_fits))
 refine wpAny_bind (m:=firstArgMember _ _) (wpAny_of_eq (a:=Value.none) (by first|rfl|(simp only[firstArgMember];rfl)) ?_)
 refine wpAny_newObj_type ?_ (by size_fits)
 simp only[raiseNew]
 refine wpAny_bind (wpAny_handled ?_)
 first|rw[show A.in1.handled=none from hh]|rw[hh]
 refine wpAny_bind (wpAny_pure (wpAny_throw ?_))
 exact hE _ _ (((Heap.SameBut.update ..).extBut.push _).push _) ⟨_,Heap.get?_push_size _ rfl,rfl⟩
end
def wJ{prog:Program}{w:World}{A:Around}(hh:A.handled=none)(it l:Addr)(hne:l≠it)(items:Array Value) :
 Draws prog w A it [it,l] items.size (λi v=>items[i]?=some v) (λi h=>h.IsTupleIter it l i/\h.IsTuple l items) where
 live:=λ_ _ st=>let ⟨o,ho,_⟩:=st.1;⟨o,ho⟩
 frame:=λ_ _ _ st hk=>⟨let ⟨o,ho,r⟩:=st.1;⟨o,hk it (by simp) o ho,r⟩,let ⟨o,ho,r⟩:=st.2;⟨o,hk l (by simp) o ho,r⟩⟩
 item:=λi s Q E hi st hQ=>by
  refine jq st.1 st.2 (x:=items[i]) (by simp[hi]) λh' hit' hs'=>?_
  exact hQ _ h' s.toks (by simp[hi]) ⟨hit',st.2.extBut hs'.extBut hne⟩ hs'
 done:=λs Q E st hE=>jY hh st.1 st.2 (by simp) hE
structure YW(z TI TO i1 i2:Addr)(f1 f2:List Addr):Prop where
 TIz:TI≠z
 TOz:TO≠z
 i1z:i1≠z
 i2z:i2≠z
 TITO:TI≠TO
 TIi1:TI≠i1
 TIi2:TI≠i2
 TOi1:TO≠i1
 TOi2:TO≠i2
 i12:i1≠i2
 z1:z∉f1
 z2:z∉f2
 t1:TO∉f1
 t2:TO∉f2
 a1:i1∉f2
 a2:i2∉f1
section
variable{prog:Program}{w:World}{A:Around}{E:Value->Shared->Prop}{s:Shared}
def oO{z TI TO i1 i2:Addr}{f1 f2:List Addr}{n1 n2 k1 k2:Nat}{P1 P2:Nat->Value->Prop}{S1 S2:Nat->Heap->Prop}{a b:Value}{Q:Value->Shared->Prop}(D:YW z TI TO i1 i2 f1 f2)
 (D1:Draws prog w A i1 f1 n1 P1 S1)(D2:Draws prog w A i2 f2 n2 P2 S2)
 (hz:IsZip s.heap z TI TO .none)(hTI:IsPair s.heap TI (.ref i1) (.ref i2))(hTO:IsPair s.heap TO a b)(h1:S1 k1 s.heap)(h2:S2 k2 s.heap)(hk1:k1<n1)(hk2:k2<n2)
 (hQ:∀x y h' tk,P1 k1 x→P2 k2 y→IsZip h' z TI TO (rawInt s.heap.objs.size)→IsPair h' TO x y→S1 (k1+1) h'→S2 (k2+1) h'→IsPair h' s.heap.objs.size x y→h'.objs.size=s.heap.objs.size+1→
   (∀c o,c≠z->c≠TO->c≠i1->c≠i2->s.heap.get? c=some o->h'.get? c=some o)->Q (.ref s.heap.objs.size) {s with heap:=h',toks:=tk}) :
 wpAny (model prog w) A (Builtin.«zip.__next__» ⟨[.ref z],[]⟩) (λfin s'=>∃v,fin=.done (.ret v)/\Q v s') E s:=by
 have NQ:∀{b},b∈f1->b≠z/\b≠TO/\b≠i2:=λhb=>⟨λe=>D.z1 (e▸hb),λe=>D.t1 (e▸hb),λe=>D.a2 (e▸hb)⟩
 have Ly:∀{b},b∈f2->b≠z/\b≠TO/\b≠i1:=λhb=>⟨λe=>D.z2 (e▸hb),λe=>D.t2 (e▸hb),λe=>D.a1 (e▸hb)⟩
 obtain⟨hp,g,d,tk0,os⟩:=s
 show wpAny _ _ (field (.ref z) 2 >>= _) _ _ _
 refine wpAny_bind (wpAny_field hz rfl (x:=.bool false) rfl ?_)
 show wpAny _ _ (field (.ref z) 3 >>= _) _ _ _
 refine wpAny_bind (wpAny_field hz rfl (x:=.ref TI) rfl ?_)
 refine wpAny_bind (wpAny_seqItems hTI rfl ?_)
 show wpAny _ _ (Builtin.SmallTypes.ownedTupleIsFree (.ref z) >>= _) _ _ _
 refine wpAny_bind ?_
 unfold Builtin.SmallTypes.ownedTupleIsFree
 refine wpAny_bind (wpAny_field hz rfl (x:=.none) rfl (wpAny_pure ?_))
 simp only[if_true]
 refine wpAny_bind (wpAny_rule ?_)
 refine wpAny_bind (wpAny_field hz rfl (x:=.ref TO) rfl ?_)
 refine wpAny_bind (wpAny_setField_rec hz (by simp) λh₁ hz₁ hs₁=>?_)
 replace hs₁:Heap.SameBut z hp h₁:= hs₁
 replace hz₁:IsZip h₁ z TI TO .ellipsis:=hz₁
 refine wpAny_bind ?_
 simp only[List.zipIdx_cons,List.zipIdx_nil,List.forIn_cons,List.forIn_nil]
 refine wpAny_bind (wpAny_bind (wpAny_onRaise ?_))
 show wpAny _ _ (Builtin.SmallTypes.nextOf (.ref i1) >>= _) _ _ _
 refine wpAny_bind (D1.item k1 _ _ _ hk1 (D1.frame _ _ _ h1 λb hb o e=>hs₁.extBut b o (NQ hb).1 e) λx h₂ tk hPx h1₂ hs₂=>wpAny_pure ?_)
 replace hs₂:Heap.SameBut i1 h₁ h₂:= hs₂
 have hTO₂:IsPair h₂ TO a b:=hs₂.extBut _ _ D.TOi1 (hs₁.extBut _ _ D.TOz hTO)
 refine wpAny_bind (wpAny_seqItems hTO₂ rfl ?_)
 refine wpAny_bind (wpAny_updateSeq_pair hTO₂ λh₃ hTO₃ hs₃=>?_)
 replace hs₃:Heap.SameBut TO h₂ h₃:= hs₃
 replace hTO₃:IsPair h₃ TO x b:=hTO₃
 refine wpAny_bind (wpAny_letGo (wpAny_pure ?_))
 refine wpAny_bind (wpAny_bind (wpAny_onRaise ?_))
 show wpAny _ _ (Builtin.SmallTypes.nextOf (.ref i2) >>= _) _ _ _
 refine wpAny_bind (D2.item k2 _ _ _ hk2 (D2.frame _ _ _ h2 λb hb o e=>hs₃.extBut b o (Ly hb).2.1 (hs₂.extBut b o (Ly hb).2.2 (hs₁.extBut b o (Ly hb).1 e))) λy h₄ tk' hPy h2₄ hs₄=>wpAny_pure ?_)
 replace hs₄:Heap.SameBut i2 h₃ h₄:= hs₄
 have hTO₄:IsPair h₄ TO x b:=hs₄.extBut _ _ D.TOi2 hTO₃
 refine wpAny_bind (wpAny_seqItems hTO₄ rfl ?_)
 refine wpAny_bind (wpAny_updateSeq_pair hTO₄ λh₅ hTO₅ hs₅=>?_)
 replace hs₅:Heap.SameBut TO h₄ h₅:= hs₅
 replace hTO₅:IsPair h₅ TO x y:=hTO₅
 refine wpAny_bind (wpAny_letGo (wpAny_pure (wpAny_pure ?_)))
 refine wpAny_bind (wpAny_seqItems hTO₅ rfl ?_)
 refine wpAny_bind (wpAny_newTuple ?_)
 have hsz:h₅.objs.size=hp.objs.size:=by rw[hs₅.1,hs₄.1,hs₃.1,hs₂.1,hs₁.1]
 have hz₅:IsZip h₅ z TI TO .ellipsis:=hs₅.extBut _ _ D.TOz.symm (hs₄.extBut _ _ D.i2z.symm (hs₃.extBut _ _ D.TOz.symm (hs₂.extBut _ _ D.i1z.symm hz₁)))
 have hk₅:∀c o,c≠z->c≠TO->c≠i1->c≠i2->hp.get? c=some o->h₅.get? c=some o:=λc o c1 c2 c3 c4 e=>
  hs₅.extBut _ _ c2 (hs₄.extBut _ _ c4 (hs₃.extBut _ _ c2 (hs₂.extBut _ _ c3 (hs₁.extBut _ _ c1 e))))
 have h1₅:S1 (k1+1) h₅:= D1.frame _ _ _ h1₂ λb hb o e=>hs₅.extBut b o (NQ hb).2.1 (hs₄.extBut b o (NQ hb).2.2 (hs₃.extBut b o (NQ hb).2.1 e))
 have h2₅:S2 (k2+1) h₅:= D2.frame _ _ _ h2₄ λb hb o e=>hs₅.extBut b o (Ly hb).2.1 e
 have hzlt:z<h₅.objs.size:=Heap.lt_size hz₅
 show wpAny _ _ (Builtin.SmallTypes.ownedTupleHandOut (.ref z) (.ref h₅.objs.size) >>= _) _ _ _
 refine wpAny_bind ?_
 unfold Builtin.SmallTypes.ownedTupleHandOut
 have hz₆:IsZip (h₅.push {cls:=.type "tuple",data:=.seq #[x,y]}) z TI TO .ellipsis:=Heap.get?_push_of_some _ hz₅
 refine wpAny_bind (wpAny_setField_rec hz₆ (by simp) λh₇ hz₇ hs₇=>?_)
 replace hz₇:IsZip h₇ z TI TO (rawInt h₅.objs.size):=hz₇
 refine wpAny_setField_rec hz₇ (by simp) λh₈ hz₈ hs₈=>?_
 replace hz₈:IsZip h₈ z TI TO (rawInt h₅.objs.size):=hz₈
 have up:∀c o,c≠z->h₅.get? c=some o->h₈.get? c=some o:=λc o c1 e=>hs₈.extBut _ _ c1 (hs₇.extBut _ _ c1 (Heap.get?_push_of_some _ e))
 have hT₈:IsPair h₈ h₅.objs.size x y:=hs₈.extBut _ _ (Nat.ne_of_gt hzlt) (hs₇.extBut _ _ (Nat.ne_of_gt hzlt) (Heap.get?_push_size _ rfl))
 have hz8:h₈.objs.size=h₅.objs.size+1:=by rw[hs₈.1,hs₇.1,Heap.size_push]
 rw[hsz] at hz₈ hT₈ hz8
 refine wpAny_pure ⟨_,rfl,?_⟩
 show Q (.ref h₅.objs.size) _
 rw[hsz]
 exact hQ x y h₈ tk' hPx hPy hz₈ (up _ _ D.TOz hTO₅) (D1.frame _ _ _ h1₅ λb hb o e=>up b o (NQ hb).1 e) (D2.frame _ _ _ h2₅ λb hb o e=>up b o (Ly hb).1 e) hT₈ hz8 λc o c1 c2 c3 c4 e=>up c o c1 (hk₅ c o c1 c2 c3 c4 e)
def qC{z TI TO i1 i2:Addr}{f1 f2:List Addr}{n1 n2 k1 k2:Nat}{P1 P2:Nat->Value->Prop}{S1 S2:Nat->Heap->Prop}{a b:Value}{Q:Fin->Shared->Prop}(D:YW z TI TO i1 i2 f1 f2)
 (D1:Draws prog w A i1 f1 n1 P1 S1)(D2:Draws prog w A i2 f2 n2 P2 S2)
 (hz:IsZip s.heap z TI TO .none)(hTI:IsPair s.heap TI (.ref i1) (.ref i2))(hTO:IsPair s.heap TO a b)(h1:S1 k1 s.heap)(h2:S2 k2 s.heap)(hend:k1=n1\/(k1<n1/\k2=n2))
 (hE:∀h' e tk,(∀c o,c≠z->c≠TO->c≠i1->c≠i2->s.heap.get? c=some o->h'.get? c=some o)->(∃o,h'.get? e=some o/\o.cls=.type "StopIteration")->E (.ref e) {s with heap:=h',toks:=tk}) :
 wpAny (model prog w) A (Builtin.«zip.__next__» ⟨[.ref z],[]⟩) Q E s:=by
 have NQ:∀{b},b∈f1->b≠z/\b≠TO/\b≠i2:=λhb=>⟨λe=>D.z1 (e▸hb),λe=>D.t1 (e▸hb),λe=>D.a2 (e▸hb)⟩
 have Ly:∀{b},b∈f2->b≠z/\b≠TO/\b≠i1:=λhb=>⟨λe=>D.z2 (e▸hb),λe=>D.t2 (e▸hb),λe=>D.a1 (e▸hb)⟩
 obtain⟨hp,g,d,tk0,os⟩:=s
 show wpAny _ _ (field (.ref z) 2 >>= _) _ _ _
 refine wpAny_bind (wpAny_field hz rfl (x:=.bool false) rfl ?_)
 show wpAny _ _ (field (.ref z) 3 >>= _) _ _ _
 refine wpAny_bind (wpAny_field hz rfl (x:=.ref TI) rfl ?_)
 refine wpAny_bind (wpAny_seqItems hTI rfl ?_)
 show wpAny _ _ (Builtin.SmallTypes.ownedTupleIsFree (.ref z) >>= _) _ _ _
 refine wpAny_bind ?_
 unfold Builtin.SmallTypes.ownedTupleIsFree
 refine wpAny_bind (wpAny_field hz rfl (x:=.none) rfl (wpAny_pure ?_))
 simp only[if_true]
 refine wpAny_bind (wpAny_rule ?_)
 refine wpAny_bind (wpAny_field hz rfl (x:=.ref TO) rfl ?_)
 refine wpAny_bind (wpAny_setField_rec hz (by simp) λh₁ hz₁ hs₁=>?_)
 replace hs₁:Heap.SameBut z hp h₁:= hs₁
 replace hz₁:IsZip h₁ z TI TO .ellipsis:=hz₁
 refine wpAny_bind ?_
 simp only[List.zipIdx_cons,List.zipIdx_nil,List.forIn_cons,List.forIn_nil]
 refine wpAny_bind (wpAny_bind (wpAny_onRaise ?_))
 show wpAny _ _ (Builtin.SmallTypes.nextOf (.ref i1) >>= _) _ _ _
 rcases hend with rfl|⟨hk1,rfl⟩
 ·refine wpAny_bind (D1.done _ _ _ (D1.frame _ _ _ h1 λb hb o e=>hs₁.extBut b o (NQ hb).1 e) λh₂ e hs₂ he=>?_)
  obtain⟨oe,hoe,hce⟩:=he
  replace hs₂:Heap.ExtBut i1 h₁ h₂:= hs₂
  have hz₂:IsZip h₂ z TI TO .ellipsis:=hs₂ _ _ D.i1z.symm hz₁
  have hez:e≠z:=λx=>by subst x;rw[hz₂] at hoe;cases hoe;simp at hce
  exact wpAny_setField_rec hz₂ (by simp) λh₃ _ hs₃=>hE h₃ e tk0 (λc o c1 _ c3 _ x=>hs₃.extBut _ _ c1 (hs₂ _ _ c3 (hs₁.extBut _ _ c1 x))) ⟨oe,hs₃.extBut _ _ hez hoe,hce⟩
 ·refine wpAny_bind (D1.item k1 _ _ _ hk1 (D1.frame _ _ _ h1 λb hb o e=>hs₁.extBut b o (NQ hb).1 e) λx h₂ tk hPx h1₂ hs₂=>wpAny_pure ?_)
  replace hs₂:Heap.SameBut i1 h₁ h₂:= hs₂
  have hTO₂:IsPair h₂ TO a b:=hs₂.extBut _ _ D.TOi1 (hs₁.extBut _ _ D.TOz hTO)
  refine wpAny_bind (wpAny_seqItems hTO₂ rfl ?_)
  refine wpAny_bind (wpAny_updateSeq_pair hTO₂ λh₃ hTO₃ hs₃=>?_)
  replace hs₃:Heap.SameBut TO h₂ h₃:= hs₃
  refine wpAny_bind (wpAny_letGo (wpAny_pure ?_))
  refine wpAny_bind (wpAny_bind (wpAny_onRaise ?_))
  show wpAny _ _ (Builtin.SmallTypes.nextOf (.ref i2) >>= _) _ _ _
  refine wpAny_bind (D2.done _ _ _ (D2.frame _ _ _ h2 λb hb o e=>hs₃.extBut b o (Ly hb).2.1 (hs₂.extBut b o (Ly hb).2.2 (hs₁.extBut b o (Ly hb).1 e))) λh₄ e hs₄ he=>?_)
  obtain⟨oe,hoe,hce⟩:=he
  replace hs₄:Heap.ExtBut i2 h₃ h₄:= hs₄
  have hz₄:IsZip h₄ z TI TO .ellipsis:=hs₄ _ _ D.i2z.symm (hs₃.extBut _ _ D.TOz.symm (hs₂.extBut _ _ D.i1z.symm hz₁))
  have hez:e≠z:=λx=>by subst x;rw[hz₄] at hoe;cases hoe;simp at hce
  exact wpAny_setField_rec hz₄ (by simp) λh₅ _ hs₅=>hE h₅ e tk (λc o c1 c2 c3 c4 x=>hs₅.extBut _ _ c1 (hs₄ _ _ c4 (hs₃.extBut _ _ c2 (hs₂.extBut _ _ c3 (hs₁.extBut _ _ c1 x))))) ⟨oe,hs₅.extBut _ _ hez hoe,hce⟩
end
section
variable{prog:Program}{w:World}{A:Around}{E:Value->Shared->Prop}{s:Shared}
def jZ{z TI TO i1 i2:Addr}{f1 f2:List Addr}{n1 n2 k1 k2:Nat}{P1 P2:Nat->Value->Prop}{S1 S2:Nat->Heap->Prop}{a b:Value}{Q:Option Value->Shared->Prop}(D:YW z TI TO i1 i2 f1 f2)
 (D1:Draws prog w A.in1 i1 f1 n1 P1 S1)(D2:Draws prog w A.in1 i2 f2 n2 P2 S2)
 (hz:IsZip s.heap z TI TO .none)(hTI:IsPair s.heap TI (.ref i1) (.ref i2))(hTO:IsPair s.heap TO a b)(h1:S1 k1 s.heap)(h2:S2 k2 s.heap)(hk1:k1<n1)(hk2:k2<n2)
 (hQ:∀x y h' tk,P1 k1 x→P2 k2 y→IsZip h' z TI TO (rawInt s.heap.objs.size)→IsPair h' TO x y→S1 (k1+1) h'→S2 (k2+1) h'→IsPair h' s.heap.objs.size x y→h'.objs.size=s.heap.objs.size+1→
   (∀c o,c≠z->c≠TO->c≠i1->c≠i2->s.heap.get? c=some o->h'.get? c=some o)->Q (some (.ref s.heap.objs.size)) {s with heap:=h',toks:=tk}) :
 wpAny (model prog w) A (pyNext (.ref z)) Q E s:=by
 have hT:s.TypeIs (.ref z) "zip" := ⟨_,hz,rfl⟩
 unfold pyNext
 exact wpAny_bind (wpAny_attempt (wpAny_callSpecial?_slot (name:=Str.ofString "__next__") hT F.slot_zip_next
  (wpAny_call_entry F.slot_zip_next hT F.entry_zip_next
    (oO D D1 D2 hz hTI hTO h1 h2 hk1 hk2 λx y h' tk a0 b0 a1 a2 a3 a4 a5 a6 a7=>wpAny_pure (hQ x y h' tk a0 b0 a1 a2 a3 a4 a5 a6 a7)) (F.args_zip_next_1 _))))
def lZ{z TI TO i1 i2:Addr}{f1 f2:List Addr}{n1 n2 k1 k2:Nat}{P1 P2:Nat->Value->Prop}{S1 S2:Nat->Heap->Prop}{a b:Value}{Q:Option Value->Shared->Prop}(D:YW z TI TO i1 i2 f1 f2)
 (D1:Draws prog w A.in1 i1 f1 n1 P1 S1)(D2:Draws prog w A.in1 i2 f2 n2 P2 S2)
 (hz:IsZip s.heap z TI TO .none)(hTI:IsPair s.heap TI (.ref i1) (.ref i2))(hTO:IsPair s.heap TO a b)(h1:S1 k1 s.heap)(h2:S2 k2 s.heap)(hend:k1=n1\/(k1<n1/\k2=n2))
 (hQ:∀h' tk,(∀c o,c≠z->c≠TO->c≠i1->c≠i2->s.heap.get? c=some o->h'.get? c=some o)->Q none {s with heap:=h',toks:=tk}):wpAny (model prog w) A (pyNext (.ref z)) Q E s:=by
 have hT:s.TypeIs (.ref z) "zip" := ⟨_,hz,rfl⟩
 unfold pyNext
 refine wpAny_bind (wpAny_attempt (wpAny_callSpecial?_slot (name:=Str.ofString "__next__") hT F.slot_zip_next
  (wpAny_call_entry F.slot_zip_next hT F.entry_zip_next (qC D D1 D2 hz hTI hTO h1 h2 hend λh' e tk hk he=>?_) (F.args_zip_next_1 _))))
 obtain⟨o,ho,hc⟩:=he
 refine wpAny_bind (wpAny_isInstance (T:= "StopIteration") (b:=true) ⟨o,ho,hc⟩ isSubtype_stop ?_)
 exact wpAny_pure (hQ _ _ hk)
end
def qb(K:PySem.W.Frag)(b:Bool)(H:Hp)(a:Addr)(xs:List V):Prop:=if b=true then bW K H a xs else Ř K H a xs
def eE(b:Bool)(h:Heap)(it l:Addr)(i:Nat):Prop:=if b=true then h.IsTupleIter it l i else h.IsListIter it l i
def C_(b:Bool)(h:Heap)(l:Addr)(its:Array Value):Prop:=if b=true then h.IsTuple l its else h.IsList l its
def YX(b:Bool):String:=if b=true then "tuple_iterator" else "list_iterator"
def ni{prog:Program}{w:World}{A:Around}(b:Bool)(hh:A.handled=none)(it l:Addr)(hne:l≠it)(items:Array Value) :
 Draws prog w A it [it,l] items.size (λi v=>items[i]?=some v) (λi h=>eE b h it l i/\C_ b h l items):=by
 cases b with
 |true=>exact wJ hh it l hne items
 |false=>exact Draws.list hh it l hne items
def eE.ex{b:Bool}{h:Heap}{it l:Addr}{i:Nat}(x:eE b h it l i):∃o,h.get? it=some o/\o.cls=.type (YX b)/\o.data=.fields #[.ref l,.int i 0]:=by
 cases b with
 |true=>exact x
 |false=>exact x
def eE.of{b:Bool}{h:Heap}{it l:Addr}{i:Nat}{o:Obj}(h1:h.get? it=some o)(h2:o.cls=.type (YX b))(h3:o.data=.fields #[.ref l,.int i 0]):eE b h it l i:=by
 cases b with
 |true=>exact⟨o,h1,h2,h3⟩
 |false=>exact⟨o,h1,h2,h3⟩
def eE.keep{b:Bool}{h h':Heap}{it l:Addr}{i:Nat}(x:eE b h it l i)(k:∀o,h.get? it=some o->h'.get? it=some o):eE b h' it l i:=by
 obtain⟨o,h1,h2,h3⟩:=x.ex
 exact .of (k o h1) h2 h3
def Lz(K:PySem.W.Frag)(b:Bool)(H:Hp)(l:Addr)(i:Nat)(xs:List V):Prop:=xs.length<=i/\∀j,j<i->∃ys y,qb K b H l ys/\ys[j]?=some y
def Itz(K:PySem.W.Frag)(b1 b2:Bool)(l1 l2:Addr):It:=
 ⟨λi H=>(∃xs x,qb K b1 H l1 xs/\xs[i]?=some x)/\∃ys y,qb K b2 H l2 ys/\ys[i]?=some y,
  λi H z H'=>∃x y T,(∀xs,qb K b1 H l1 xs->xs[i]?=some x)/\(∀ys,qb K b2 H l2 ys->ys[i]?=some y)/\H T=none/\z=.ref T/\H'=upd H T (.tup [x,y]),
  λi H=>(∃xs,qb K b1 H l1 xs)/\(∃ys,qb K b2 H l2 ys)/\((∃xs,qb K b1 H l1 xs/\Lz K b1 H l1 i xs)\/((∃xs x,qb K b1 H l1 xs/\xs[i]?=some x)/\∃ys,qb K b2 H l2 ys/\Lz K b2 H l2 i ys))⟩
section
variable{X:Cx}{pins:List (Addr×Obj)}{σ:L2.St}{H:Hp}{s:Shared}
def rH{b:Bool}{a:Addr}{xs:List V}(I:Inv X pins σ H s)(h:qb X.K b H a xs):∃its:List Value,Vals xs its/\C_ b s.heap a its.toArray/\xs.length<=sizeLine:=by
 cases b with
 |true=>
  obtain⟨its,r,p,z⟩:=I.tuple h
  exact⟨its,r,p,z⟩
 |false=>
  obtain⟨its,r,p,z⟩:=I.list h
  exact⟨its,r,p.isList,z⟩
def rJ{b:Bool}{a:Addr}{xs ys:List V}(I:Inv X pins σ H s)(h:qb X.K b H a xs)(h':qb X.K b H a ys):xs=ys:=by
 cases b with
 |true=>exact I.qK h h'
 |false=>exact I.vL h h'
def NT{b:Bool}{l:Addr}{i:Nat}{xs:List V}(I:Inv X pins σ H s)(h:qb X.K b H l xs)(q:Lz X.K b H l i xs):xs.length=i:=by
 obtain⟨h1,h2⟩:=q
 refine Nat.le_antisymm h1 ?_
 cases i with
 |zero=>omega
 |succ i=>
  obtain⟨ys,y,e1,e2⟩:=h2 i (by omega)
  rw[rJ I e1 h] at e2
  have:=(List.getElem?_eq_some_iff.mp e2).1
  omega
def Bw{bb:Bool}{a b:Addr}{xs:List V}(I:Inv X pins σ H s)(f:fH X pins H b)(h:qb X.K bb H a xs):a≠b:=by
 intro e
 subst e
 have hk:∀o,X.K.lookup a=some o->False:=λo e=>by
  have hb:=I.ok.mod.YH a o e
  rcases f.2.2.2.1 with z|z
  ·exact I.ok.Ce a o hb z
  ·exact absurd (Nat.lt_of_lt_of_le (Heap.lt_size (I.ok.bs a o hb).1) z) (Nat.lt_irrefl _)
 have hr:∀u,Rd H a u->False:=λu r=>by
  rcases r with r|⟨o,r⟩<;>(rw[f.1] at r;cases r)
 cases bb with
 |true=>
  have h':bW X.K H a xs:=h
  rcases h' with q|⟨o,_,_,q,_⟩
  ·exact hr _ q
  ·exact hk o q
 |false=>
  have h':Ř X.K H a xs:=h
  rcases h' with q|⟨o,_,_,q,_⟩
  ·exact hr _ q
  ·exact hk o q
end
def GJ{P:Program}{w:World}{K:PySem.W.Frag}{elts:List Expr}{k:Nat}{pos:Pos}(b1 b2:Bool)(l1 l2 z TI TO i1 i2:Addr)(nd:[z,TI,TO,i1,i2].Nodup) :
 Turn P w K (.Tuple elts k pos) (Itz K b1 b2 l1 l2) [z,TI,TO,i1,i2] z (λi h=>IsZip h z TI TO .none/\IsPair h TI (.ref i1) (.ref i2)/\(∃a b,IsPair h TO a b)/\eE b1 h i1 l1 i/\eE b2 h i2 l2 i) where
 mem:=by simp
 obj:=λi h st b hb=>by
  obtain⟨hz,hTI,⟨x,y,hTO⟩,h1,h2⟩:=st
  simp only[List.mem_cons,List.not_mem_nil,or_false] at hb
  rcases hb with rfl|rfl|rfl|rfl|rfl
  ·exact⟨_,hz,λv z=>by have z':Data.fields _=Data.cell v:=z;cases z'⟩
  ·exact⟨_,hTI,λv z=>by have z':Data.seq _ _=Data.cell v:=z;cases z'⟩
  ·exact⟨_,hTO,λv z=>by have z':Data.seq _ _=Data.cell v:=z;cases z'⟩
  ·obtain⟨o,e1,c,d⟩:=h1.ex
   exact⟨o,e1,λv z=>by rw[d] at z;cases z⟩
  ·obtain⟨o,e1,c,d⟩:=h2.ex
   exact⟨o,e1,λv z=>by rw[d] at z;cases z⟩
 keep:=λi h h' st k=>by
  obtain⟨hz,hTI,⟨x,y,hTO⟩,h1,h2⟩:=st
  exact⟨k z (by simp) _ hz,k TI (by simp) _ hTI,⟨x,y,k TO (by simp) _ hTO⟩,h1.keep λo q=>k i1 (by simp) o q,h2.keep λo q=>k i2 (by simp) o q⟩
 item:=by
  intro X hP hw hK hc i pins s σ H E I hf st hg
  subst hP hw hK
  obtain⟨hz,hTI,⟨a,b,hTO⟩,h1,h2⟩:=st
  obtain⟨⟨xs,x,hq1,hx⟩,ys,y,hq2,hy⟩:=hg
  obtain⟨zq,rv1,p1,_⟩:=rH I hq1
  obtain⟨its2,rv2,p2,_⟩:=rH I hq2
  obtain⟨u1,hu1,ru1⟩:=rv1.get hx
  obtain⟨u2,hu2,ru2⟩:=rv2.get hy
  have ne1:∀b∈[z,TI,TO,i1,i2],l1≠b:=λb hb=>Bw I (hf b hb) hq1
  have ne2:∀b∈[z,TI,TO,i1,i2],l2≠b:=λb hb=>Bw I (hf b hb) hq2
  have hh:X.A.in1.handled=none:=I.ok.hd hc
  simp only[List.nodup_cons,List.mem_cons,List.not_mem_nil,or_false,not_or,List.nodup_nil,not_false_eq_true,and_true] at nd
  obtain⟨⟨n1,n2,n3,n4⟩,⟨n5,n6,n7⟩,⟨n8,n9⟩,n10⟩:=nd
  have D:YW z TI TO i1 i2 [i1,l1] [i2,l2]:=by
   refine⟨Ne.symm n1,Ne.symm n2,Ne.symm n3,Ne.symm n4,n5,n6,n7,n8,n9,n10,?_,?_,?_,?_,?_,?_⟩<;>simp only[List.mem_cons,List.not_mem_nil,or_false,not_or]
   ·exact⟨n3,(ne1 z (by simp)).symm⟩
   ·exact⟨n4,(ne2 z (by simp)).symm⟩
   ·exact⟨n8,(ne1 TO (by simp)).symm⟩
   ·exact⟨n9,(ne2 TO (by simp)).symm⟩
   ·exact⟨n10,(ne2 i1 (by simp)).symm⟩
   ·exact⟨Ne.symm n10,(ne1 i2 (by simp)).symm⟩
  have lt1:i<zq.toArray.size:=by
   rw[List.size_toArray]
   exact(List.getElem?_eq_some_iff.mp hu1).1
  have EY:i<its2.toArray.size:=by
   rw[List.size_toArray]
   exact(List.getElem?_eq_some_iff.mp hu2).1
  have hlt:∀b∈[z,TI,TO,i1,i2],b<s.heap.objs.size:=λb hb=>by
   simp only[List.mem_cons,List.not_mem_nil,or_false] at hb
   rcases hb with rfl|rfl|rfl|rfl|rfl
   ·exact Heap.lt_size hz
   ·exact Heap.lt_size hTI
   ·exact Heap.lt_size hTO
   ·obtain⟨o,e1,_⟩:=h1.ex;exact Heap.lt_size e1
   ·obtain⟨o,e1,_⟩:=h2.ex;exact Heap.lt_size e1
  refine jZ D (ni (A:=X.A.in1) b1 hh i1 l1 (ne1 i1 (by simp)) zq.toArray) (ni (A:=X.A.in1) b2 hh i2 l2 (ne2 i2 (by simp)) its2.toArray) hz hTI hTO ⟨h1,p1⟩ ⟨h2,p2⟩ lt1 EY λx' y' h' tk hPx hPy hz' Zd8 s1 s2 hT hsz hk=>?_
  have ex:x'=u1:=by
   have:zq.toArray[i]?=some x':=hPx
   rw[show zq.toArray[i]?=some u1 by simpa using hu1] at this
   exact(Option.some.inj this).symm
  have ey:y'=u2:=by
   have:its2.toArray[i]?=some y':=hPy
   rw[show its2.toArray[i]?=some u2 by simpa using hu2] at this
   exact(Option.some.inj this).symm
  subst ex ey
  refine⟨.ref s.heap.objs.size,rfl,wpAny_letOwnedTupleGo_zip hz' λh'' hz'' hs'=>?_⟩
  have hs2:Heap.SameBut z h' h'':=hs'
  have I2:=zm (fp:=[z,TI,TO,i1,i2]) (h':=h'') (t':=tk) I ru1 ru2 ⟨_,(hs2.2 _ (Nat.ne_of_gt (hlt z (by simp)))).trans hT,rfl⟩ (λb o hb q=>by
   have hne:∀c∈[z,TI,TO,i1,i2],b≠c:=λc hc e=>hb (e▸hc)
   exact(hs2.2 b (hne z (by simp))).trans (hk b o (hne z (by simp)) (hne TO (by simp)) (hne i1 (by simp)) (hne i2 (by simp)) q)) hf hlt
  refine⟨.ref s.heap.objs.size,_,I2,rfl,⟨x,y,s.heap.objs.size,λzs hzs=>by rw[rJ I hzs hq1];exact hx,λzs hzs=>by rw[rJ I hzs hq2];exact hy,I.fresh,rfl,rfl⟩,
   ⟨hz'',(hs2.2 TI (Ne.symm n1)).trans (hk TI _ (Ne.symm n1) n5 n6 n7 hTI),⟨_,_,(hs2.2 TO (Ne.symm n2)).trans Zd8⟩,s1.1.keep λo q=>(hs2.2 i1 (Ne.symm n3)).trans q,s2.1.keep λo q=>(hs2.2 i2 (Ne.symm n4)).trans q⟩,λb hb=>?_⟩
  rw[Ę (Nat.ne_of_lt (hlt b hb))];exact(hf b hb).1
 done:=by
  intro X hP hw hK hc i pins s σ H E I hf st hg
  subst hP hw hK
  obtain⟨hz,hTI,⟨a,b,hTO⟩,h1,h2⟩:=st
  obtain⟨⟨xs,hq1⟩,⟨ys,hq2⟩,hend'⟩:=hg
  have hend:xs.length=i\/(i<xs.length/\ys.length=i):=by
   rcases hend' with⟨xs',q1,q2⟩|⟨⟨xs',x,q1,q2⟩,ys',q3,q4⟩
   ·left;rw[rJ I hq1 q1];exact NT I q1 q2
   ·right
    rw[rJ I hq1 q1,rJ I hq2 q3]
    exact⟨(List.getElem?_eq_some_iff.mp q2).1,NT I q3 q4⟩
  obtain⟨zq,rv1,p1,_⟩:=rH I hq1
  obtain⟨its2,rv2,p2,_⟩:=rH I hq2
  have hl1:=rv1.length
  have hl2:=rv2.length
  have ne1:∀b∈[z,TI,TO,i1,i2],l1≠b:=λb hb=>Bw I (hf b hb) hq1
  have ne2:∀b∈[z,TI,TO,i1,i2],l2≠b:=λb hb=>Bw I (hf b hb) hq2
  have hh:X.A.in1.handled=none:=I.ok.hd hc
  simp only[List.nodup_cons,List.mem_cons,List.not_mem_nil,or_false,not_or,List.nodup_nil,not_false_eq_true,and_true] at nd
  obtain⟨⟨n1,n2,n3,n4⟩,⟨n5,n6,n7⟩,⟨n8,n9⟩,n10⟩:=nd
  have D:YW z TI TO i1 i2 [i1,l1] [i2,l2]:=by
   refine⟨Ne.symm n1,Ne.symm n2,Ne.symm n3,Ne.symm n4,n5,n6,n7,n8,n9,n10,?_,?_,?_,?_,?_,?_⟩<;>simp only[List.mem_cons,List.not_mem_nil,or_false,not_or]
   ·exact⟨n3,(ne1 z (by simp)).symm⟩
   ·exact⟨n4,(ne2 z (by simp)).symm⟩
   ·exact⟨n8,(ne1 TO (by simp)).symm⟩
   ·exact⟨n9,(ne2 TO (by simp)).symm⟩
   ·exact⟨n10,(ne2 i1 (by simp)).symm⟩
   ·exact⟨Ne.symm n10,(ne1 i2 (by simp)).symm⟩
  refine lZ D (ni (A:=X.A.in1) b1 hh i1 l1 (ne1 i1 (by simp)) zq.toArray) (ni (A:=X.A.in1) b2 hh i2 l2 (ne2 i2 (by simp)) its2.toArray) hz hTI hTO ⟨h1,p1⟩ ⟨h2,p2⟩ ?_ λh' tk hk=>⟨rfl,turns (fp:=[z,TI,TO,i1,i2]) (t':=tk) I (λb o hb q=>?_) hf⟩
  ·rw[List.size_toArray,List.size_toArray]
   omega
  ·have hne:∀c∈[z,TI,TO,i1,i2],b≠c:=λc hc e=>hb (e▸hc)
   exact hk b o (hne z (by simp)) (hne TO (by simp)) (hne i1 (by simp)) (hne i2 (by simp)) q
 self:=λ_ _ _ _ _ st h=>wpAny_pyIter_zip st.1 h
section
abbrev zB1(b:Bool)(h:Heap)(l1:Addr):Heap:=h.push {cls:=.type (YX b),data:=.fields #[.ref l1,.int 0 0]}
abbrev zB2(b b':Bool)(h:Heap)(l1 l2:Addr):Heap:=(zB1 b h l1).push {cls:=.type (YX b'),data:=.fields #[.ref l2,.int 0 0]}
abbrev zB3(b b':Bool)(h:Heap)(l1 l2:Addr):Heap:=(zB2 b b' h l1 l2).push {cls:=.type "tuple",data:=.seq #[.ref h.objs.size,.ref (zB1 b h l1).objs.size]}
abbrev zB4(b b':Bool)(h:Heap)(l1 l2:Addr):Heap:=(zB3 b b' h l1 l2).push {cls:=.type "tuple",data:=.seq #[.none,.none]}
abbrev WW(b b':Bool)(h:Heap)(l1 l2:Addr):Heap:=(zB4 b b' h l1 l2).push {cls:=.type "zip",data:=.fields #[.none,.bool false,.bool false,.ref (zB2 b b' h l1 l2).objs.size,.ref (zB3 b b' h l1 l2).objs.size]}
def wK{prog:Program}{w:World}{A:Around}{E:Value->Shared->Prop}{s:Shared}{b:Bool}{l:Addr}{its:Array Value}{Q:Value->Shared->Prop}(hl:C_ b s.heap l its)
 (hQ:Q (.ref s.heap.objs.size) {s with heap:=s.heap.push {cls:=.type (YX b),data:=.fields #[.ref l,.int 0 0]}}):wpAny (model prog w) A (pyIter (.ref l)) Q E s:=by
 cases b with
 |true=>exact wpAny_pyIter_tuple hl hQ
 |false=>exact wpAny_pyIter_list hl hQ
theorem C_.push{b:Bool}{h:Heap}{l:Addr}{its:Array Value}(x:C_ b h l its)(o:Obj):C_ b (h.push o) l its:=by
 cases b with
 |true=>exact Heap.IsTuple.push x o
 |false=>exact Heap.IsList.push x o
def wL(b b':Bool)(l1 l2:Addr)(xs ys:Array Value) :
 Meets (Builtin.«zip.__new__» ⟨[.type "zip",.ref l1,.ref l2],[]⟩) (λ_ R s=>C_ b s.heap l1 xs/\C_ b' s.heap l2 ys/\
  R (.ok (.ret (.ref (zB4 b b' s.heap l1 l2).objs.size))) {s with heap:=WW b b' s.heap l1 l2}):=
 .of_wp fun prog w A R s h=>by
   obtain⟨hp,g,d,tk,os⟩:=s;obtain⟨hl1,hl2,h⟩:=h
   have hsub:=sub_zip
   have hL1:C_ b (Shared.heap ⟨hp,g,d,tk,os⟩) l1 xs:=hl1
   have hL2:C_ b' (Shared.heap ⟨hp.push {cls:=.type (YX b),data:=.fields #[.ref l1,.int 0 0]},g,d,tk,os⟩) l2 ys:=C_.push hl2 _
   wp_walk using wK hL1,wK hL2
   exact⟨_,rfl,h⟩
variable{prog:Program}{w:World}{A:Around}{E:Value->Shared->Prop}{s:Shared}
def zu{b b':Bool}{l1 l2:Addr}{xs ys:Array Value}{Q:Value->Shared->Prop}(hl1:C_ b s.heap l1 xs)(hl2:C_ b' s.heap l2 ys)
 (h:∀h',IsZip h' (s.heap.objs.size+4) (s.heap.objs.size+2) (s.heap.objs.size+3) .none→IsPair h' (s.heap.objs.size+2) (.ref s.heap.objs.size) (.ref (s.heap.objs.size+1))→
   IsPair h' (s.heap.objs.size+3) .none .none->eE b h' s.heap.objs.size l1 0->eE b' h' (s.heap.objs.size+1) l2 0->h'.objs.size=s.heap.objs.size+5->
   (∀c o,s.heap.get? c=some o->h'.get? c=some o)->Q (.ref (s.heap.objs.size+4)) {s with heap:=h'}) :
 wpAny (model prog w) A (call (.type "zip") [.ref l1,.ref l2]) Q E s:=by
 refine callType_new F.called_zip (by decide) (F.typeCall_zip_2 _ _) (F.newCall_zip_2 _ _) (λobj=>F.args_object_init_3 obj _ _) F.entry_zip_new
  (wL b b' l1 l2 xs ys) ⟨hl1,hl2,?_⟩
 have z1:(zB1 b s.heap l1).objs.size=s.heap.objs.size+1:=Heap.size_push ..
 have z2:(zB2 b b' s.heap l1 l2).objs.size=s.heap.objs.size+2:=by rw[Heap.size_push,z1]
 have z3:(zB3 b b' s.heap l1 l2).objs.size=s.heap.objs.size+3:=by rw[Heap.size_push,z2]
 have z4:(zB4 b b' s.heap l1 l2).objs.size=s.heap.objs.size+4:=by rw[Heap.size_push,z3]
 have z5:(WW b b' s.heap l1 l2).objs.size=s.heap.objs.size+5:=by rw[Heap.size_push,z4]
 have g5:(WW b b' s.heap l1 l2).get? (zB4 b b' s.heap l1 l2).objs.size=some _:=Heap.get?_push_size _ rfl
 have g4:(WW b b' s.heap l1 l2).get? (zB3 b b' s.heap l1 l2).objs.size=some _:=Heap.get?_push_of_some _ (Heap.get?_push_size _ rfl)
 have g3:(WW b b' s.heap l1 l2).get? (zB2 b b' s.heap l1 l2).objs.size=some _:=Heap.get?_push_of_some _ (Heap.get?_push_of_some _ (Heap.get?_push_size _ rfl))
 have g2:(WW b b' s.heap l1 l2).get? (zB1 b s.heap l1).objs.size=some _:=Heap.get?_push_of_some _ (Heap.get?_push_of_some _ (Heap.get?_push_of_some _ (Heap.get?_push_size _ rfl)))
 have g1:(WW b b' s.heap l1 l2).get? s.heap.objs.size=some _:=Heap.get?_push_of_some _ (Heap.get?_push_of_some _ (Heap.get?_push_of_some _ (Heap.get?_push_of_some _ (Heap.get?_push_size _ rfl))))
 show _/\_
 rw[z2,z3,z4] at g5
 rw[z1,z2] at g3
 rw[z3] at g4
 rw[z1] at g2
 rw[z4]
 exact⟨⟨_,g5,rfl⟩,h _ g5 g3 g4 (.of g1 rfl rfl) (.of g2 rfl rfl) z5 λc o x=>
  Heap.get?_push_of_some _ (Heap.get?_push_of_some _ (Heap.get?_push_of_some _ (Heap.get?_push_of_some _ (Heap.get?_push_of_some _ x))))⟩
end
section
variable{X:Cx}{elts:List Expr}{k:Nat}{tp:Pos}
def Zd9(K:PySem.W.Frag)(ta:TA):TI:=λσ H R=>ta σ H λvs H1=>∃b1 b2 l1 l2,vs=[.ref l1,.ref l2]/\(∃xs,qb K b1 H1 l1 xs)/\(∃xs,qb K b2 H1 l2 xs)/\R (Itz K b1 b2 l1 l2) H1
def WX{e1 e2:Expr}{ta:TA}{p pos:Pos}(hg:Gl X "zip")(hm:X.mg "zip" =none)(ha:PA X [e1,e2] ta)(hs:starEach [e1,e2] X.env=[(false,eval e1 X.env),(false,eval e2 X.env)]:=by exact Fg rfl rfl)(hs2:starEach [e2] X.env=[(false,eval e2 X.env)]:=by exact bG rfl) :
 PI X (.Tuple elts k tp) (.Call (.Name "zip" p) [e1,e2] [] pos) (Zd9 X.K ta):=by
 intro pins s σ H R I h
 refine Call_ (nC I hg hm boot_zip (PyProof.Rows.callWith_type1 (Ŏ (ha pos pins s σ H _ I h) λus s1 ⟨vs,H1,I1,r1,q1⟩=>?_) (by rw[hs,hs2]) (by rw[hs2];rfl)))
 obtain⟨b1,b2,l1,l2,e,⟨xs,hq1⟩,⟨ys,hq2⟩,q⟩:=q1
 subst e
 obtain⟨u1,u2,rfl,ru1,ru2⟩:=vals2 r1
 cases ru1
 cases ru2
 obtain⟨zq,rv1,p1,_⟩:=rH I1 hq1
 obtain⟨its2,rv2,p2,_⟩:=rH I1 hq2
 refine zu p1 p2 λh' hz hTI hTO h1 h2 hsz hk=>?_
 have I2:Inv X pins σ H1 {s1 with heap:=h'}:=I1.kept (t':=s1.toks) hk
 refine wpAny_pyIter_zip (s:={s1 with heap:=h'}) hz ⟨s1.heap.objs.size+4,[s1.heap.objs.size+4,s1.heap.objs.size+2,s1.heap.objs.size+3,s1.heap.objs.size,s1.heap.objs.size+1],_,_,H1,rfl,I2,GJ b1 b2 l1 l2 _ _ _ _ _ (by simp),⟨hz,hTI,⟨_,_,hTO⟩,h1,h2⟩,λb hb=>?_,q⟩
 have hb':s1.heap.objs.size<=b:=by
  simp only[List.mem_cons,List.not_mem_nil,or_false] at hb
  rcases hb with rfl|rfl|rfl|rfl|rfl<;>omega
 exact I1.DW hb' (I1.hok.fresh hb')
end
def jr:List PV->List PV->List PV
 |p::ps,q::qs=>.tup [p,q]::jr ps qs
 |_,_=>[]
theorem wM:∀(ps qs:List PV) (i:Nat) (r:PV),(jr ps qs)[i]?=some r->∃p q,ps[i]?=some p/\qs[i]?=some q/\r=.tup [p,q]
 | [],_,_,_,h=>by simp[jr] at h
 |_::_,[],_,_,h=>by simp[jr] at h
 |p::ps,q::qs,0,r,h=>by
  have h':some (PV.tup [p,q])=some r:=h
  cases h'
  exact⟨p,q,rfl,rfl,rfl⟩
 |p::ps,q::qs,i+1,r,h=>wM ps qs i r h
theorem wN:∀(ps qs:List PV),(jr ps qs).length=min ps.length qs.length
 | [],_=>by simp[jr]
 |_::_,[]=>by simp[jr]
 |_::ps,_::qs=>by
  show(jr ps qs).length+1=_
  rw[wN ps qs,List.length_cons,List.length_cons]
  omega
def Dc(m1 m2:M (List PV)):M (List PV):=λρ=>(m1 ρ).bind λps ρ1=>(m2 ρ1).bind λqs ρ2=>.ok (jr ps qs) ρ2
def Itb(K:PySem.W.Frag)(b:Bool)(a:Addr):It:=if b=true then Itt K a else YJ K a
def oR{K:KK}{L F:Hp}{b:Bool}{a:Addr}{ps:List PV}(h:fY K L F (Itb K.K b a) ps){c:Ctx}{F2 H:Hp}{σ:L2.St}{ρ:ķ}(rel:Rel K c F2 H σ ρ)(sF:Same F F2)(sL:Same L H)(i:Nat)(p:PV)(hp:ps[i]?=some p) :
 (∃xs x,qb K.K b H a xs/\xs[i]?=some x)/\∀x,(∀xs,qb K.K b H a xs->xs[i]?=some x)->∃F3,Rel K c F3 H σ ρ/\Same F2 F3/\Rep K F3 p x:=by
 obtain⟨g,_⟩:=h c i F2 H σ ρ rel sF sL
 obtain⟨g1,g2⟩:=g p hp
 cases b with
 |true=>exact⟨g1,λx hx=>let ⟨F3,r3,s3,_,rp⟩:=g2 x H ⟨rfl,hx⟩;⟨F3,r3,s3,rp⟩⟩
 |false=>exact⟨g1,λx hx=>let ⟨F3,r3,s3,_,rp⟩:=g2 x H ⟨rfl,hx⟩;⟨F3,r3,s3,rp⟩⟩
def uz{K:KK}{L F:Hp}{b:Bool}{a:Addr}{ps:List PV}(h:fY K L F (Itb K.K b a) ps){c:Ctx}{F2 H:Hp}{σ:L2.St}{ρ:ķ}(rel:Rel K c F2 H σ ρ)(sF:Same F F2)(sL:Same L H) :
 ∃xs,qb K.K b H a xs/\Lz K.K b H a ps.length xs:=by
 obtain⟨_,st⟩:=h c ps.length F2 H σ ρ rel sF sL
 have st':∃xs,qb K.K b H a xs/\xs.length<=ps.length:=by
  cases b with
  |true=>exact st rfl
  |false=>exact st rfl
 obtain⟨xs,h1,h2⟩:=st'
 exact⟨xs,h1,h2,λj hj=>(oR h rel sF sL j _ (List.getElem?_eq_getElem hj)).1⟩
def GK{K:KK}{L F:Hp}{b1 b2:Bool}{a1 a2:Addr}{ps qs:List PV}(h1:fY K L F (Itb K.K b1 a1) ps)(h2:fY K L F (Itb K.K b2 a2) qs):fY K L F (Itz K.K b1 b2 a1 a2) (jr ps qs):=by
 intro c i F2 H σ ρ rel sF sL
 refine⟨λr hr=>?_,λhi=>?_⟩
 ·obtain⟨p,q,hp,hq,rfl⟩:=wM ps qs i r hr
  obtain⟨g1,y1⟩:=oR h1 rel sF sL i p hp
  refine⟨⟨g1,(oR h2 rel sF sL i q hq).1⟩,λz H' ⟨x,y,T,e1,e2,hT,ez,eH⟩=>?_⟩
  subst ez eH
  obtain⟨F3,nU,s3,rp⟩:=y1 x e1
  obtain⟨F4,qu,s4,rq⟩:=(oR h2 nU (sF.trans s3) sL i q hq).2 y e2
  obtain⟨r1,r2⟩:=Lw qu hT (Rep.same s4 p x rp) rq
  exact⟨_,r1,(s3.trans s4).trans (Same.upd (qu.sub.free hT)),Same.upd hT,r2⟩
 ·rw[wN] at hi
  obtain⟨xs,x1,x2⟩:=uz h1 rel sF sL
  obtain⟨ys,y1,y2⟩:=uz h2 rel sF sL
  refine⟨⟨xs,x1⟩,⟨ys,y1⟩,?_⟩
  by_cases hl:ps.length<=qs.length
  ·left
   have e:i=ps.length:=by omega
   exact⟨xs,x1,e▸x2⟩
  ·right
   have e:i=qs.length:=by omega
   exact⟨(oR h1 rel sF sL i _ (List.getElem?_eq_getElem (by omega))).1,ys,y1,e▸y2⟩
def Za4{K:KK}{c:Ctx}{σ:L2.St}{ρ:ķ}{F H:Hp}{ps:List PV}{v:V}(h:rSq K c σ ρ F H ps v):∃b a,v=.ref a/\(∃xs,qb K.K b H a xs)/\fY K c.L F (Itb K.K b a) ps:=by
 rcases h with⟨a,e1,e2,e3⟩|⟨a,e1,e2,e3⟩
 ·exact⟨false,a,e1,e2,e3⟩
 ·exact⟨true,a,e1,e2,e3⟩
section
variable{X:Cx}{cm:String->Addr}{E:L2.St->XK}{e e2:Expr}
def Za5{elts:List Expr}{k:Nat}{tp p pos:Pos}{m1 m2:M (List PV)}(hg:Gl X "zip")(hm:X.mg "zip" =none)(h1:PE X e (tG (kk X cm) E (rSq (kk X cm)) m1))(h2:PE X e2 (tG (kk X cm) E (rSq (kk X cm)) m2))
 (hs:starEach [e,e2] X.env=[(false,eval e X.env),(false,eval e2 X.env)]:=by exact Fg rfl rfl)(hs2:starEach [e2] X.env=[(false,eval e2 X.env)]:=by exact bG rfl) :
 PI X (.Tuple elts k tp) (.Call (.Name "zip" p) [e,e2] [] pos) (tI (kk X cm) E (Dc m1 m2)):=λpins s σ H R I h=>WX hg hm (Ĺ h1 (Ĺ h2 aF hs2) (by rw[hs,hs2])) hs hs2 pins s σ H R I (by
 obtain⟨c,F,ρ,rel,h⟩:=h
 refine⟨c,F,ρ,rel,ų.bind h λps ρ1 v F1 H1 Ĕ s1 s2 q h1=>⟨c,F1,ρ1,Ĕ,ų.bind h1 λqs ρ2 u F2 H2 ĩ s3 s4 q2 h2=>?_⟩⟩
 obtain⟨b1,a1,e1,_,e3⟩:=Za4 q
 obtain⟨b2,a2,f1,f2,f3⟩:=Za4 q2
 subst e1 f1
 obtain⟨xs,x1,_⟩:=uz (e3.mono s3) ĩ (Same.refl _) λb u e=>(ĩ.lent b u e).1
 exact⟨b1,b2,a1,a2,rfl,⟨xs,x1⟩,f2,h2 _ F2 H2 ĩ (Same.refl _) (Same.refl _) (GK (e3.mono s3) f3)⟩)
end
end P
namespace P
open PySem PySem.Spec PyProof.Rows L2 M2 M3 M4
def Za6(K:PySem.W.Frag)(neg:Bool):R2:=λx y H Q=>∃d es a xs,Rp K H d x/\y=.ref a/\(Ř K H a xs\/bW K H a xs)/\jU K H es xs/\d.canLay0=true/\PyData.canLayAll0 es=true/\d.depth<=60/\Q (.bl (if neg then !(es.any λe=>PyData.eqv e d) else es.any λe=>PyData.eqv e d)) H
open Classical in
noncomputable def Jw(h:Heap)(d:PyData)(y:Value):Bool:=if ∃e as,Reads h y e as/\e.canLay0=true/\PyData.eqv e d=true then true else false
def GP{h:Heap}{d e:PyData}{y:Value}{as:List Addr}(r:Reads h y e as)(hc:e.canLay0=true):Jw h d y=PyData.eqv e d:=by
 unfold Jw
 cases q:PyData.eqv e d with
 |true=>rw[if_pos ⟨e,as,r,hc,q⟩]
 |false=>
  rw[if_neg]
  rintro ⟨e',as',r',hc',q'⟩
  have:=SeqAt.Reads.unique e e' y as as' hc r r'
  subst this
  rw[q] at q'
  cases q'
theorem uD{h:Heap}{d:PyData}:∀{us:List Value} {es:List PyData} {as:List Addr},ReadsAll h us es as->PyData.canLayAll0 es=true->us.any (Jw h d)=es.any λe=>PyData.eqv e d
 |_,_,_,.nil,_=>rfl
 |_,_,_,.cons r rs,hc=>by
  unfold PyData.canLayAll0 at hc
  rw[Bool.and_eq_true] at hc
  rw[List.any_cons,List.any_cons,GP r hc.1,uD rs hc.2]
theorem uE{A:Around}{s:Shared}{d:PyData}{v:Value}{bs:List Addr}(rv:Reads s.heap v d bs)(hd:d.canLay0=true)(hu:A.units+d.depth<cLine):∀{us:List Value} {es:List PyData} {as:List Addr},ReadsAll s.heap us es as->PyData.canLayAll0 es=true->∀u∈us,SeqAt.EqAt A s u v (Jw s.heap d u)
 |_,_,_,.nil,_=>λu hu=>by cases hu
 |_,_,_,.cons r rs,hc=>λu hm=>by
  unfold PyData.canLayAll0 at hc
  rw[Bool.and_eq_true] at hc
  rcases List.mem_cons.mp hm with rfl|hm
  ·rw[GP r hc.1]
   exact SeqAt.eqAt_reads _ _ A s _ _ _ _ r rv hc.1 hd (by omega)
  ·exact uE rv hd hu rs hc.2 u hm
section
variable{X:Cx}
def Dd(hu:X.A.units+64<cLine):ū X (compareOp .NotIn) (Za6 X.K true):=by
 intro pins s σ H x y v u Q I rx ry h
 obtain⟨d,es,a,xs,h1,rfl,hq,h3,h4,h5,h6,q⟩:=h
 cases ry
 obtain⟨as,ra⟩:=Rp.reads I d x v h1 rx
 have hu1:X.A.in1.units+d.depth<cLine:=by
  have:X.A.in1.units=X.A.units+1:=rfl
  omega
 rcases hq with hq|hq
 ·obtain⟨its,r,pl,hz⟩:=I.list hq
  obtain⟨bs,rb⟩:=jU.reads I es xs its h3 r
  refine SeqAt.notIn_listAt (Jw s.heap d) pl.isList (λw hw=>uE ra h4 hu1 rb h5 w (by simpa using hw)) ⟨.bl _,H,I,rfl,?_⟩
  rw[show its.toArray.any (Jw s.heap d)=its.any (Jw s.heap d) by simp,uD rb h5]
  exact q
 ·obtain⟨its,r,pl,hz⟩:=I.tuple hq
  obtain⟨bs,rb⟩:=jU.reads I es xs its h3 r
  refine SeqAt.notIn_tupleAt (Jw s.heap d) pl (λw hw=>uE ra h4 hu1 rb h5 w (by simpa using hw)) ⟨.bl _,H,I,rfl,?_⟩
  rw[show its.toArray.any (Jw s.heap d)=its.any (Jw s.heap d) by simp,uD rb h5]
  exact q
end
def inD(neg:Bool)(p q:PV):Option PV:=match q with
 | .lst ps=>if ű p && aU ps && decide (dep p<=60) then some (.bl (if neg then !(ps.any λy=>eqB y p) else ps.any λy=>eqB y p)) else none
 | .tup ps=>if ű p && aU ps && decide (dep p<=60) then some (.bl (if neg then !(ps.any λy=>eqB y p) else ps.any λy=>eqB y p)) else none
 |_=>none
theorem uF{p:PV}(h:ű p=true):∀{ps:List PV},aU ps=true->(cZ ps).any (λe=>PyData.eqv e (toD p))=ps.any λy=>eqB y p
 | [],_=>rfl
 |y::ps,hp=>by
  unfold aU at hp
  rw[Bool.and_eq_true] at hp
  unfold cZ
  rw[List.any_cons,List.any_cons,t_ y p hp.1 h,uF h hp.2]
def WY{K:KK}{neg:Bool}:jL K (Za6 K.K neg) (inD neg):=by
 intro c F H σ ρ p q pv v u Q rel r1 r2 e k
 unfold inD at e
 split at e
 ·rename_i ps
  split at e
  ·rename_i hc
   rw[Bool.and_eq_true,Bool.and_eq_true,decide_eq_true_eq] at hc
   cases e
   obtain⟨a,xs,rfl,h1,h2⟩:=r2.lst rel.sub
   refine⟨toD p,cZ ps,a,xs,gR rel.sub hc.1.1 r1,rfl,.inl h1,jU.same rel.sub _ _ (gQ ps xs hc.1.2 h2),dO p hc.1.1,gn ps hc.1.2,by rw[dR];exact hc.2,?_⟩
   rw[uF hc.1.1 hc.1.2]
   exact k _ F H rel (Same.refl _) (Same.refl _) Rep.bl
  ·cases e
 ·rename_i ps
  split at e
  ·rename_i hc
   rw[Bool.and_eq_true,Bool.and_eq_true,decide_eq_true_eq] at hc
   cases e
   obtain⟨a,xs,rfl,h1,h2⟩:=r2.tup rel.sub
   refine⟨toD p,cZ ps,a,xs,gR rel.sub hc.1.1 r1,rfl,.inr h1,jU.same rel.sub _ _ (gQ ps xs hc.1.2 h2),dO p hc.1.1,gn ps hc.1.2,by rw[dR];exact hc.2,?_⟩
   rw[uF hc.1.1 hc.1.2]
   exact k _ F H rel (Same.refl _) (Same.refl _) Rep.bl
  ·cases e
 ·cases e
end P
namespace P
open PySem PySem.Spec PyProof.Rows L2 M2 M3 M4
def jt{x:Int}{n:Nat}(h1: -(2 ^ n:Int)<x)(h2:x<2 ^ n):bits x<=n:=by
 refine intBits_le_iff.mpr ?_
 have e:((2 ^ n:Nat):Int)=(2:Int) ^ n:=by simp
 have:((x.natAbs:Nat):Int)<((2 ^ n:Nat):Int):=by rw[e];omega
 omega
def Za7{x y:Int}(h:y≠0)(h1: -18446744073709551616<y)(h2:y<18446744073709551616):gb x y=true:=wB h (Nat.le_trans (jt (n:=64) (by omega) (by omega)) (by decide))
@[simp] theorem Zcz{x:Int}{n:Nat}(h:n≠0)(h2:n<18446744073709551616):gb x (no_index (OfNat.ofNat n):Int)=true:=by
  have e:(no_index (OfNat.ofNat n):Int)=(n:Int):=rfl
  rw[e]
  exact Za7 (by omega) (by omega) (by omega)
@[simp] theorem Za8{x:Int}{n:Nat}(h:n<18446744073709551616):ń x (no_index (OfNat.ofNat n):Int)=true:=by
  have e:(no_index (OfNat.ofNat n):Int)=(n:Int):=rfl
  rw[e]
  exact mul_r (by omega) (by omega)
@[simp] theorem Za9{x:Int}{n:Nat}(h:n<18446744073709551616):ń (no_index (OfNat.ofNat n):Int) x=true:=by
  have e:(no_index (OfNat.ofNat n):Int)=(n:Int):=rfl
  rw[e]
  exact Ÿ (by omega) (by omega)
@[simp] theorem ZcA{m n:Nat}(h:m<18446744073709551616)(h2:n≤1000000):wu (no_index (OfNat.ofNat m):Int) (no_index (OfNat.ofNat n):Int)=true:=by
  have e:(no_index (OfNat.ofNat m):Int)=(m:Int):=rfl
  have e2:(no_index (OfNat.ofNat n):Int)=(n:Int):=rfl
  rw[e,e2]
  unfold wu
  simp
  omega
@[simp] theorem Za_{x:Int}{n:Nat}:x.fdiv (no_index (OfNat.ofNat n):Int)=x / (no_index (OfNat.ofNat n):Int):=Int.fdiv_eq_ediv_of_nonneg x (Int.natCast_nonneg n)
@[simp] theorem Zba{x:Int}{n:Nat}:x.fmod (no_index (OfNat.ofNat n):Int)=x % (no_index (OfNat.ofNat n):Int):=Int.fmod_eq_emod_of_nonneg x (Int.natCast_nonneg n)
end P
namespace P
open PySem PySem.Spec PyProof.Rows L2 M2 M3 M4
def add_l{xs ys:List PV}(h:xs.length+ys.length<=16777216):ĭ (.lst xs) (.lst ys)=some (.ow (xs++ys)):=by
 unfold ĭ
 simp[h]
def W_{x y z w:Int}:eqB (.tup [.int x,.int y]) (.tup [.int z,.int w])=(decide (x=z) && decide (y=w)):=by
 rw[eqB.eq_def]
 show dN [.int x,.int y] [.int z,.int w]=_
 rw[dN.eq_def]
 show(eqB (.int x) (.int z) && dN [.int y] [.int w])=_
 rw[dN.eq_def]
 show(eqB (.int x) (.int z) && (eqB (.int y) (.int w) && dN [] []))=_
 have h1:eqB (.int x) (.int z)=decide (x=z):=by rw[eqB.eq_def];rfl
 have h2:eqB (.int y) (.int w)=decide (y=w):=by rw[eqB.eq_def];rfl
 have h3:dN [] []=true:=by rw[dN.eq_def]
 rw[h1,h2,h3,Bool.and_true]
mutual
theorem oU:∀p:PV,ű p=true->eqB p p=true
 | .non,_=>by unfold eqB;rfl
 | .bl b,_=>by unfold eqB;simp
 | .int i,_=>by unfold eqB;simp
 | .str x,_=>by unfold eqB;simp
 | .lst xs,h=>by unfold ű at h;unfold eqB;exact j_ xs h
 | .tup xs,h=>by unfold ű at h;unfold eqB;exact j_ xs h
 | .ins _ _ _,h=>by simp[ű] at h
 | .xc _ _ _,h=>by simp[ű] at h
 | .ty _,h=>by simp[ű] at h
 | .cls _,h=>by simp[ű] at h
theorem j_:∀ps:List PV,aU ps=true->dN ps ps=true
 | [],_=>by unfold dN;rfl
 |p::ps,h=>by
  unfold aU at h
  rw[Bool.and_eq_true] at h
  unfold dN
  rw[oU p h.1,j_ ps h.2]
  rfl
end
def Dg{p:PV}(h:ű p=true)(hd:dep p<=60):ŝ p p=some (.bl true):=by
 unfold ŝ qy
 rw[h,oU p h,decide_eq_true (by omega:min (dep p) (dep p)<=60)]
 rfl
def rK{p:PV}(h:ű p=true)(hd:dep p<=60):cL p p=some (.bl false):=by
 unfold cL qy
 rw[h,oU p h,decide_eq_true (by omega:min (dep p) (dep p)<=60)]
 rfl
def bN{a b:Str}(ha:PyData.strOk a=true)(hb:PyData.strOk b=true):ŝ (.str a) (.str b)=some (.bl (decide (a=b))):=by
 have h:eqB (.str a) (.str b)=decide (a=b):=by unfold eqB;rfl
 unfold ŝ qy
 rw[show ű (.str a)=true by unfold ű;exact ha,show ű (.str b)=true by unfold ű;exact hb,h]
 rfl
end P
namespace P
open PySem PySem.Spec PyProof.Rows L2 M2 M3 M4
section
variable{g:Tg}{mb:M Fl}{mt:M Bool}{me:M PV}
theorem dh{α β:Type}(c:α->PV)(step:β->α->β)(J:β->ķ->Prop):∀(xs:List α),(∀x∈xs,∀b ρ,J b ρ->∃ρ1 ρ2,g (c x) ρ=some ρ1/\mb ρ1=.ok .nx ρ2/\J (step b x) ρ2)->∀b ρ,J b ρ->∃ρ',forL g mb (xs.map c) ρ=.ok .nx ρ'/\J (xs.foldl step b) ρ'
 | [],_,b,ρ,h=>⟨ρ,rfl,h⟩
 |x::xs,hs,b,ρ,h=>by
  obtain⟨ρ1,ρ2,h1,h2,h3⟩:=hs x (by simp) b ρ h
  obtain⟨ρ',e,h4⟩:=dh c step J xs (λy hy=>hs y (List.mem_cons_of_mem _ hy)) (step b x) ρ2 h3
  refine⟨ρ',?_,h4⟩
  rw[List.map_cons,forL,h1]
  dsimp only
  rw[h2]
  exact e
theorem gW{α γ:Type}(c:α->PV)(t:α->Option γ)(v:γ->RV)(J:ķ->Prop):∀(xs:List α),(∀x∈xs,∀ρ,J ρ->∃ρ1,g (c x) ρ=some ρ1/\((∃r ρ2,t x=some r/\mb ρ1=.ok (.rt (v r)) ρ2)\/(∃ρ2,t x=none/\mb ρ1=.ok .nx ρ2/\J ρ2)))->∀ρ,J ρ->
 (∃r ρ',xs.findSome? t=some r/\forL g mb (xs.map c) ρ=.ok (.rt (v r)) ρ')\/(∃ρ',xs.findSome? t=none/\forL g mb (xs.map c) ρ=.ok .nx ρ'/\J ρ')
 | [],_,ρ,h=>.inr ⟨ρ,rfl,rfl,h⟩
 |x::xs,hs,ρ,h=>by
  obtain⟨ρ1,h1,h2⟩:=hs x (by simp) ρ h
  rcases h2 with⟨r,ρ2,e1,e2⟩|⟨ρ2,e1,e2,e3⟩
  ·refine .inl ⟨r,ρ2,by rw[List.findSome?_cons,e1],?_⟩
   rw[List.map_cons,forL,h1]
   dsimp only
   rw[e2]
   rfl
  ·have hf:List.findSome? t (x::xs)=List.findSome? t xs:=by rw[List.findSome?_cons,e1]
   have hl:forL g mb ((x::xs).map c) ρ=forL g mb (xs.map c) ρ2:=by
    rw[List.map_cons,forL,h1]
    dsimp only
    rw[e2]
    rfl
   rw[hf,hl]
   exact gW c t v J xs (λy hy=>hs y (List.mem_cons_of_mem _ hy)) ρ2 e3
end
end P
namespace P
open PySem PySem.Spec PyProof.Rows L2 M2 M3 M4
def Zd_(K:PySem.W.Frag)(n:Nat)(t:DN):TG:=λv σ H Q=>∃a xs,v=.ref a/\Ř K H a xs/\xs.length=n/\t xs σ H Q
section
variable{X:Cx}{cm:String->Addr}{pos:Pos}
def Xa{es:List Expr}{k:Nat}{t:DN}{n:Nat}(hc:X.calm=true)(h:xV X es t)
 (hn:(assignEach es X.env).length=n:=by rfl)(hst:(assignEach es X.env).findIdx? (·.1)=none:=by rfl):PG X (.Tuple es k pos) (Zd_ X.K n t):=by
 intro pins s σ H v u Q I r hw
 obtain⟨a,xs,e1,hq,hl,hw⟩:=hw
 subst e1
 cases r
 obtain⟨its,rv,ht,hz⟩:=I.list hq
 rw[assign_Tuple]
 refine wpAny_bind (wpAny_standAt ?_)
 unfold unpack
 rw[show(assignEach es X.env).length=its.toArray.size by simp[hn,<-hl,rv.length],hst]
 refine wpAny_bind (wpAny_holding (PySem.W.kun_itemsOf (I.ok.hd hc) ht.isList λh' hx=>?_))
 have I1:Inv X pins σ H {s with heap:=h'}:=I.kept (t':=s.toks) λb o e=>hx b o (Nat.ne_of_lt (Heap.lt_size e)) e
 exact h pins _ σ H xs _ Q I1 (by simpa using rv) hw
def gS(n:Nat)(gs:Dw):Tg:=λp ρ=>match p with
 | .tup ps=>if ps.length=n then gs ps ρ else none
 | .lst ps=>if ps.length=n then gs ps ρ else none
 |_=>none
@[simp] theorem Zea{n:Nat}{gs:Dw}{ps:List PV}{ρ:ķ}:gS n gs (.tup ps) ρ=if ps.length=n then gs ps ρ else none:=rfl
@[simp] theorem Zeb{n:Nat}{gs:Dw}{ps:List PV}{ρ:ķ}:gS n gs (.lst ps) ρ=if ps.length=n then gs ps ρ else none:=rfl
def GQ{es:List Expr}{k:Nat}{gs:Dw}{n:Nat}(hc:X.calm=true)(h:xV X es (tTs (kk X cm) gs))(hn:(assignEach es X.env).length=n:=by rfl)(hst:(assignEach es X.env).findIdx? (·.1)=none:=by rfl):PG X (.Tuple es k pos) (tT (kk X cm) (gS n gs)):=by
 intro pins s σ H v u Q I r hw
 obtain⟨c,F,ρ,p,rel,rp,hw⟩:=hw
 cases p with
 |tup ps=>
  unfold Rep at rp
  obtain⟨a,xs,h1,h2,h3⟩:=rp
  unfold gS at hw
  dsimp only at hw
  split at hw
  ·rename_i hl
   exact yg hc h hn hst pins s σ H v u Q I r ⟨a,xs,h1,Same.tup rel.sub h2,by rw[<-h3.length];exact hl,c,F,ρ,ps,rel,h3,hw⟩
  ·exact hw.elim
 |lst ps=>
  unfold Rep at rp
  obtain⟨a,xs,h1,h2,h3⟩:=rp
  unfold gS at hw
  dsimp only at hw
  split at hw
  ·rename_i hl
   exact Xa hc h hn hst pins s σ H v u Q I r ⟨a,xs,h1,rel.sub.seq h2,by rw[<-h3.length];exact hl,c,F,ρ,ps,rel,h3,hw⟩
  ·exact hw.elim
 |_=>exact hw.elim
end
end P
namespace P
open PySem PySem.Spec PyProof.Rows L2 M2 M3 M4
section
variable{X:Cx}{cm:String->Addr}{E:L2.St->XK}{a:Expr}{p p1 pos pos1:Pos}{mr:M (List PV)}
end
end P
namespace P
open PySem PySem.Spec PyProof.Rows L2 M2 M3 M4
def Rel.keep{K:KK}{c:Ctx}{F H H':Hp}{σ:L2.St}{ρ:ķ}(r:Rel K c F H σ ρ)(e:Same H H'):Rel K c F H' σ ρ:= r.call ⟨e,Same.refl F,r.sub.trans e,λ_ _ h=>h⟩
section
variable{X:Cx}{cm:String->Addr}{E:L2.St->XK}{e o:Expr}{es:List Expr}{pos:Pos}{m:M Bool}{mo:M RV}{ma:M PV}
@[simp] theorem Zec{ps qs rs:List PV}:(RV.ot ps qs rs).val=.tup (ps ++ .lst qs::rs):=rfl
@[simp] theorem Zed{ps qs rs:List PV}:(RV.ot ps qs rs).slot=.ot ps qs rs:=rfl
end
end P
namespace P
open PySem PySem.Spec PyProof.Rows L2 M2 M3 M4
section
variable{X:Cx}{K:KK}
end
end P
namespace P
open PySem PySem.Spec PyProof.Rows L2 M2 M3 M4
section
variable{K:KK}{c c':Ctx}{F F' H H':Hp}{σ:L2.St}{ρ:ķ}
end
section
variable{X:Cx}{cm:String->Addr}{E:L2.St->XK}{elt tg iter:Expr}{ifs:List Expr}{scope:Scope}{pos:Pos}{mi:M (List PV)}{g:Tg}{mt:M Bool}{me:M RV}
end
section
variable{K:KK}{c:Ctx}{F H:Hp}{σ:L2.St}{ρ:ķ}
end
section
variable{X:Cx}{cm:String->Addr}{E:L2.St->XK}{e:Expr}{es:List Expr}{m:M Bool}{mv:M PV}{ms:M (List Slot)}
end
end P
namespace P
open PySem PySem.Spec PyProof.Rows L2 M2 M3 M4
section
variable{X:Cx}{K:KK}
end
section
variable{ρ:ķ}{i x j:Nat}{m:M Bool}{mv:M PV}{ms:M (List Slot)}{mp:M (List (List PV))}{g:Tg}{mt:M Bool}{me:M RV}{mi:M (List PV)}{js:List Nat}{nl:Nat}
end
end P
namespace P
open PySem PySem.Spec PyProof.Rows L2 M2 M3 M5
section
variable{K:KK}{c:Ctx}{F H:Hp}{σ:L2.St}{ρ:ķ}
end
section
variable{X:Cx}{cm:String->Addr}{E:L2.St->XK}{x px:Str}{c Pt:Addr}{params:Arguments}{body e:Expr}{scope:Scope}{p pos Wc kpos:Pos}{mr:M (List PV)}{me:M PV}
end
section
variable{P:Program}{w:World}{K:PySem.W.Frag}{cm:String->Addr}{mg:Str->Option Value}{base:Heap}{CX:jf}
end
section
variable{js:List Nat}{me:M PV}{mr:M (List PV)}{ρ:ķ}
end
end P
namespace P
open PySem PySem.Spec PyProof.Rows L2 M2 M3 M5
end P
namespace P
open PySem PySem.Spec PyProof.Rows L2 M2 M3 M5
section
variable{X:Cx}{cm:String->Addr}{E:L2.St->XK}{CX:jf}{k n:Nat}{f:Addr}{fd:FuncData}{ps:List Str}{mf:MF}{mr:M (List Slot)}{x:Str}{p pos:Pos}{e:Expr}{es:List Expr}{ds:List Value}{dvs:List V}{dps:List Slot}
end
end P
namespace P
open PySem PySem.Spec PyProof.Rows L2 M2 M3 M5
def BN:Nat->(List Value->Prop)->Prop
 |0,p=>p []
 |n+1,p=>∀u,BN n λus=>p (u::us)
theorem uG:∀{n:Nat} {p:List Value->Prop},BN n p->∀us,us.length=n->p us
 |0,p,h,[],_=>h
 |0,p,h,_::_,e=>by cases e
 |n+1,p,h,[],e=>by cases e
 |n+1,p,h,u::us,e=>uG (h u) us (Nat.succ.inj e)
structure Df(K:PySem.W.Frag)(mg:Str->Option Value)(x:Str)(st:Stmt)(ps:List Str)(f:Addr)(fd:FuncData):Prop where
 F:Kg K x x st f fd
 m:mg x=some (.ref f)
 b:Binds K fd ps []
 bb:∀(s:Shared) (us:List Value),us.length=ps.length->BindsTo s fd ⟨us,[]⟩ (ps.zip us)
structure Dm(K:PySem.W.Frag)(C:Addr)(x q:Str)(st:Stmt)(ps:List Str)(f:Addr)(fd:FuncData):Prop where
 F:Kg K x q st f fd
 b:Binds K fd ps []
section
variable{K:PySem.W.Frag}{h:Heap}{mg:Str->Option Value}{x q:Str}{st:Stmt}{ps:List Str}{f C:Addr}{oc kV dc pm cd ct:Value}{od an:Option Addr}{sl:Array (Option Value)}
def ħ(X:K.In h)(G:h.Ns mainGlobals mg)(hb:∀(kV dc pm:Value) (an:Option Addr) (cd ct:Value),BN ps.length λus=>bindArgs (PySem.W.fnOf x x (aK st) (Ś st) (ć st) .none kV dc pm an cd ct) ⟨us,[]⟩=pure (ps.zip us))
 (a:PySem.W.nsIn K mainGlobals x=some (some (.ref f)))(l:K.lookup f=some ⟨oc,od,.func (PySem.W.fnOf x x (aK st) (Ś st) (ć st) .none kV dc pm an cd ct),sl⟩)(c:PySem.W.codeIn K cd x=true)(k:PySem.W.keepIn K (.ref f)=true) :
 Df K mg x st ps f (PySem.W.fnOf x x (aK st) (Ś st) (ć st) .none kV dc pm an cd ct):=
 have F:=Em (st:=st) l c k
 ⟨F,PySem.W.mg_of X G a,F.binds λkV dc pm an cd ct us hl=>uG (hb kV dc pm an cd ct) us hl,λs us hl=>.of_eq (uG (hb kV dc pm an cd ct) us hl)⟩
def lg(hb:∀(kV dc pm:Value) (an:Option Addr) (cd ct:Value),BN ps.length λus=>bindArgs (PySem.W.fnOf x q (aK st) (Ś st) (ć st) .none kV dc pm an cd ct) ⟨us,[]⟩=pure (ps.zip us))
 (a:PySem.W.findIn K (.ref C) x=some (some (.ref f)))(l:K.lookup f=some ⟨oc,od,.func (PySem.W.fnOf x q (aK st) (Ś st) (ć st) .none kV dc pm an cd ct),sl⟩)(c:PySem.W.codeIn K cd q=true)(k:PySem.W.keepIn K (.ref f)=true) :
 Dm K C x q st ps f (PySem.W.fnOf x q (aK st) (Ś st) (ć st) .none kV dc pm an cd ct):=
 have F:=Em (st:=st) l c k
 ⟨F,F.binds λkV dc pm an cd ct us hl=>uG (hb kV dc pm an cd ct) us hl⟩
end
end P
namespace P
open PySem PySem.Spec PyProof.Rows L2 M2 M3 M5
def Ž{N ps:List Str}{sc:Scope}(h1:sc.kind=.function:=by rfl)(h2:sc.isCoroutine=false:=by rfl)(h3:sc.isGenerator=false:=by rfl)(h4:N.Nodup:=by decide +kernel)(h5:N.take ps.length=ps:=by rfl)(h6:∀x∈ps,sc.names.lookup x=some .local\/sc.names.lookup x=some .cell:=by decide +kernel)
 (h7:∀y∈sc.names,y.2≠ .free:=by decide +kernel):đ N ps sc:=⟨h1,h2,h3,h4,h5,h6,h7⟩
section
variable{X:Cx}{cm:String->Addr}{E:L2.St->XK}{CX:jf}{k j n:Nat}{f:Addr}{fd:FuncData}{ps:List Str}{mf:MF}{mr:M (List Slot)}{x:Str}{st:Stmt}{p pos:Pos}{e:Expr}{es:List Expr}
def ĉ(F:ĥ X.prog X.w X.K X.mg X.base CX k f fd ps (š (kk X cm) n mf))(D:Df X.K X.mg x st ps f fd)(hr:Ŭ j X.A)(hx:cu CX X E)
 (ha:PA X (e::es) (tA (kk X cm) E mr))(hlen:∀{ps:List Slot},(∃r,mf ps=r/\∀z,r=z->z≠ .bad)->ps.length=n:=by exact ľ)(hg:Gl X x:=by rfl)(hkj:k<=j:=by decide)(hdb:(x== ("__debug__" :Str))=false:=by decide)(he:starEach (e::es) X.env=(false,eval e X.env)::starEach es X.env:=by exact bG rfl)(hpl:(backTo pos (starEach es X.env)).any (·.1)=false:=by rfl) :
 PE X (.Call (.Name x p) (e::es) [] pos) (tO (kk X cm) E (ċ mf mr)):=Wk F hlen (hr.mono hkj) hg D.m D.F.kp D.b hx ha hdb he hpl
end
section
variable{Pg:Program}{w:World}{K:PySem.W.Frag}{mg:Str->Option Value}{base:Heap}{CX:jf}{cm:String->Addr}
def ļ{x qual:Str}{st:Stmt}{f:Addr}{fd:FuncData}{N ps:List Str}{k n j:Nat}{mb:M Fl}{mf:MF}(F:Kg K x qual st f fd)(S:đ N ps (ć st))
 (hbody:∀(cdv:Value) (A:Around) (outer:List Env) (s:Shared) (H:Hp) (E:XK),Ŭ k (A.deeper (envOfC qual (ć st) s.heap.objs.size f cdv))→(A.deeper (envOfC qual (ć st) s.heap.objs.size f cdv)).units+64<cLine→
   fC (sX CX Pg w K mg base N qual (ć st) f cdv A outer s H E) (Ś st) (tS ⟨K,cm⟩ (λ_=>E) mb))(hn:ps.length=n:=by rfl)(hj:N.length=j:=by rfl)(hf:mf=Ĳ n j mb:=by rfl):ĥ Pg w K mg base CX (k+1) f fd ps (š ⟨K,cm⟩ n mf):=
 fnQ F S hn hj hf λcdv A outer s H E hr=>hbody cdv A outer s H E hr hr.units
end
end P
namespace P
open PySem PySem.Spec PyProof.Rows L2 M2 M3 M4
section
variable{X:Cx}{cm:String->Addr}{E:L2.St->XK}{e:Expr}{m:M PV}
end
end P
namespace P
open PySem PySem.Spec PyProof.Rows L2 M2 M3 M4
def tgN:Expr->List Str
 | .Name x _=>[x]
 | .Tuple es _ _=>es.flatMap fun e=>match e with
   | .Name x _=>[x]
   |_=>[]
 |_=>[]
def cN(X:Cx)(js:List Nat)(tg:Expr):List Str:=js.map (λ(j:Nat)=>(X.N[j]?).getD "")++tgN tg
def ndB{l:List Str}(h:decide l.Nodup=true):l.Nodup:=of_decide_eq_true h
def frB{a b:Scope}(h:(a.names.all λy=>decide (y.2=.free->(b.names.lookup y.1=some .cell\/b.names.lookup y.1=some .free)))=true):∀y∈a.names,y.2=.free->(b.names.lookup y.1=some .cell\/b.names.lookup y.1=some .free):=λy hy=>of_decide_eq_true (List.all_eq_true.mp h y hy)
section
variable{X:Cx}{cm:String->Addr}{E:L2.St->XK}{elt tg iter:Expr}{ifs:List Expr}{scope:Scope}{pos:Pos}{mi:M (List PV)}{g:Tg}{mt:M Bool}{me:M PV}{js:List Nat}{nl:Nat}
end
end P
namespace P
open PySem PySem.Spec PyProof.Rows L2 M2 M3 M4
section
variable{X:Cx}
end
section
variable{X:Cx}{cm:String->Addr}{K:KK}{E:L2.St->XK}{o e:Expr}{es:List Expr}{name:Str}{apos cpos:Pos}{id:String}{r:V->List V->Hp->VK->Prop}{f:PV->List PV->Option PV}{mo:M PV}{ms:M (List PV)}
end
end P
namespace P
open PySem PySem.Spec PyProof.Rows L2 M2 M3 M4
section
variable{X:Cx}{cm:String->Addr}{E:L2.St->XK}{a b e:Expr}{es:List Expr}{ma mb m:M PV}{mo:M RV}{pos p:Pos}
def Ć{i j pos}:PE X (.Constant (.int i) j pos) (tR (kk X cm) E (mC (.int i))):=ğ Ħ
def NZ{j pos}:PE X (.Constant .none j pos) (tR (kk X cm) E (mC .non)):=ğ vY
def oV{x j pos}:PE X (.Constant (.str x) j pos) (tR (kk X cm) E (mC (.str x))):=ğ iu
def Ņ(ha:PE X a (tR (kk X cm) E ma))(hb:PE X b (tR (kk X cm) E mb))(hs:mV b:=by exact λ_ _=>rfl):PE X (.Subscript a b pos) (tV (kk X cm) E (ą Ė ma mb)):=Zc5 ZaL Zav ha hb hs
def ĳ(ha:PE X a (tR (kk X cm) E ma))(hb:PE X b (tR (kk X cm) E mb))(hs:mV b:=by exact λ_ _=>rfl):PE X (.Subscript a b pos) (tR (kk X cm) E (ą Ė ma mb)):=ğ (Ņ ha hb hs)
def v_mod(ha:PE X a (tR (kk X cm) E ma))(hb:PE X b (tR (kk X cm) E mb)):PE X (.BinOp a .Mod b pos) (tV (kk X cm) E (ą ŀ ma mb)):=cg Wt VG ha hb
def Ũ(ha:PE X a (tR (kk X cm) E ma))(hb:PE X b (tR (kk X cm) E mb)):PE X (.BinOp a .Mod b pos) (tR (kk X cm) E (ą ŀ ma mb)):=ğ (v_mod ha hb)
def v_mul(ha:PE X a (tR (kk X cm) E ma))(hb:PE X b (tR (kk X cm) E mb)):PE X (.BinOp a .Mult b pos) (tV (kk X cm) E (ą Ģ ma mb)):=cg Ww Kv ha hb
def Ŕ(ha:PE X a (tR (kk X cm) E ma))(hb:PE X b (tR (kk X cm) E mb)):PE X (.BinOp a .Mult b pos) (tR (kk X cm) E (ą Ģ ma mb)):=ğ (v_mul ha hb)
def v_sub(ha:PE X a (tR (kk X cm) E ma))(hb:PE X b (tR (kk X cm) E mb)):PE X (.BinOp a .Sub b pos) (tV (kk X cm) E (ą Ŋ ma mb)):=cg Wr VD ha hb
def gA(ha:PE X a (tR (kk X cm) E ma))(hb:PE X b (tR (kk X cm) E mb)):PE X (.BinOp a .Sub b pos) (tR (kk X cm) E (ą Ŋ ma mb)):=ğ (v_sub ha hb)
def lq(ha:PE X a (tR (kk X cm) E ma))(hb:PE X b (tR (kk X cm) E mb)):PE X (.BinOp a .FloorDiv b pos) (tV (kk X cm) E (ą ŧ ma mb)):=cg Ws Kl ha hb
def ju(ha:PE X a (tR (kk X cm) E ma))(hb:PE X b (tR (kk X cm) E mb)):PE X (.BinOp a .FloorDiv b pos) (tR (kk X cm) E (ą ŧ ma mb)):=ğ (lq ha hb)
def jw(ha:PE X a (tR (kk X cm) E ma))(hb:PE X b (tR (kk X cm) E mb)):PE X (.BinOp a .Add b pos) (tO (kk X cm) E (į ĭ ma mb)):=ZaC Wq Wo ha hb
def v_add(ha:PE X a (tR (kk X cm) E ma))(hb:PE X b (tR (kk X cm) E mb)):PE X (.BinOp a .Add b pos) (tV (kk X cm) E (č (į ĭ ma mb))):=ĝ (jw ha hb)
def cC(ha:PE X a (tR (kk X cm) E ma))(hb:PE X b (tR (kk X cm) E mb)):PE X (.BinOp a .Add b pos) (tR (kk X cm) E (č (į ĭ ma mb))):=ğ (v_add ha hb)
def t_eq(hu:X.A.units+64<cLine)(ha:PE X a (tR (kk X cm) E ma))(hb:PE X b (tR (kk X cm) E mb)):PT X (.Compare a [.Eq] [b] pos) (tB (kk X cm) E (fj (ą ŝ ma mb))):=dZ Nt (Eu hu) ha hb (ŕ _)
def GR(hu:X.A.units+64<cLine)(ha:PE X a (tR (kk X cm) E ma))(hb:PE X b (tR (kk X cm) E mb)):PT X (.Compare a [.NotEq] [b] pos) (tB (kk X cm) E (fj (ą cL ma mb))):=dZ Ga (yN hu) ha hb (ŕ _)
def v_eq(hu:X.A.units+64<cLine)(ha:PE X a (tR (kk X cm) E ma))(hb:PE X b (tR (kk X cm) E mb)):PE X (.Compare a [.Eq] [b] pos) (tV (kk X cm) E (ą ŝ ma mb)):=nT Nt (Eu hu) ha hb (ŕ _)
def Ł(he:PE X e (tO (kk X cm) E mo)):fC X [.Return (some e) pos] (tS (kk X cm) E (Ġ mo)):=Ī (ZaJ he)
def Ň(he:PE X e (tV (kk X cm) E m)):fC X [.Return (some e) pos] (tS (kk X cm) E (Ġ (ł m))):=Ł (ő he)
def qD{N ps:List Str}{sc:Scope}{i:Nat}{x:Str}{pos':Pos}(S:đ N ps sc)(he:PE X e (tO (kk X cm) E mo))(hN:X.N=N:=by rfl)(hi:X.N[i]?=some x:=by rfl)(hx:Loc X.env.scope x:=by first|exact Or.inl rfl|exact Or.inr rfl)(hs:swapsWith e (some (.Name x pos')) pos.line X.env=pure false:=by rfl)(hf:X.fn x=true\/X.env.scope.names.lookup x=some .local:=by first|exact .inl rfl|exact .inr rfl|assumption) :
 PS X (.Assign [.Name x pos'] e pos) (tS (kk X cm) E (ģ i mo)):=ZaI (hN▸S.nd) hi hx he hs hf
def Ľ{N ps:List Str}{sc:Scope}{i:Nat}{x:Str}{pos':Pos}{rest:List Stmt}{m2:M Fl}(S:đ N ps sc)(he:PE X e (tO (kk X cm) E mo))(h2:fC X rest (tS (kk X cm) E m2))(hN:X.N=N:=by rfl)(hi:X.N[i]?=some x:=by rfl)(hx:Loc X.env.scope x:=by first|exact Or.inl rfl|exact Or.inr rfl)(hs:swapsWith e (some (.Name x pos')) pos.line X.env=pure false:=by rfl)(hf:X.fn x=true\/X.env.scope.names.lookup x=some .local:=by first|exact .inl rfl|exact .inr rfl|assumption) :
 fC X (.Assign [.Name x pos'] e pos::rest) (tS (kk X cm) E (ę (ģ i mo) m2)):=ė (qD S he hN hi hx hs hf) h2
def aV{N ps:List Str}{sc:Scope}{i:Nat}{x:Str}(S:đ N ps sc)(hN:X.N=N:=by rfl)(hi:X.N[i]?=some x:=by rfl)(hx:Loc X.env.scope x:=by first|exact Or.inl rfl|exact Or.inr rfl)(hf:X.fn x=true\/X.env.scope.names.lookup x=some .local:=by first|exact .inl rfl|exact .inr rfl|assumption):PG X (.Name x pos) (tT (kk X cm) (gN i)):=Fw (hN▸S.nd) hi hx hf
def aR{i:Nat}{x:Str}(hN:X.N.Nodup:=by exact ndB (by kernel_rfl))(hi:X.N[i]?=some x:=by rfl)(hx:Loc X.env.scope x:=by first|exact Or.inl rfl|exact Or.inr rfl)(hf:X.fn x=true\/X.env.scope.names.lookup x=some .local:=by first|exact .inl rfl|exact .inr rfl):PG X (.Name x pos) (tT (kk X cm) (gN i)):=Fw hN hi hx hf
def ď(i:Nat){x:Str}{px:Pos}{ms:M (List Slot)}(hr:PA X es (tA (kk X cm) E ms))(hN:X.N[i]?=some x:=by rfl)(hv:Aj X.env.scope x:=by first|exact Or.inl rfl|exact Or.inr (Or.inl rfl)|exact Or.inr (Or.inr rfl))(hd:(x== ("__debug__" :Str))=false:=by decide)
 (hcd:(x== ("__classdict__" :Str))=false:=by decide)(hs:starEach (.Name x px::es) X.env=(false,eval (.Name x px) X.env)::starEach es X.env:=by exact bG rfl):PA X (.Name x px::es) (tA (kk X cm) E (ā i ms)):=KD i hN hv hd hcd hr hs
def ż{id:String}{x:Str}{r:List V->Hp->VK->Prop}{f:List PV->Option PV}{mr:M (List PV)}(hc:ņ X (.builtin id) r)(hf:bJ (kk X cm) r f)(hm:X.mg x=none)(hv:bootBuiltins x=some (.builtin id))(ha:PA X (e::es) (KC (kk X cm) E mr))(hg:Gl X x:=by rfl)(hn:x≠ "__name__" := by decide)(hdb:(x== ("__debug__" :Str))=false:=by decide)
 (he:starEach (e::es) X.env=(false,eval e X.env)::starEach es X.env:=by rfl)(hpl:(backTo pos (starEach es X.env)).any (·.1)=false:=by rfl):PE X (.Call (.Name x p) (e::es) [] pos) (tV (kk X cm) E (bY f mr)):=PE.wk (Ef hc hg hm hv ha hn hdb he hpl) λ_ _ _ h=>ZaG hf h
def Xb{T:String}{x:Str}{r:List V->Hp->VK->Prop}{f:List PV->Option PV}{mr:M (List PV)}(hc:ņ X (.type T) r)(hf:bJ (kk X cm) r f)(hm:X.mg x=none)(hv:bootBuiltins x=some (.type T))(ha:PA X (e::es) (KC (kk X cm) E mr))(hg:Gl X x:=by rfl)(hn:x≠ "__name__" := by decide)(hdb:(x== ("__debug__" :Str))=false:=by decide)
 (he:starEach (e::es) X.env=(false,eval e X.env)::starEach es X.env:=by rfl)(hpl:(backTo pos (starEach es X.env)).any (·.1)=false:=by rfl):PE X (.Call (.Name x p) (e::es) [] pos) (tV (kk X cm) E (bY f mr)):=PE.wk (jR hc hg hm hv ha hn hdb he hpl) λ_ _ _ h=>ZaG hf h
def qF{T:String}{x:Str}{r:List V->Hp->VK->Prop}{f:List PV->Option RV}{mr:M (List PV)}(hc:ņ X (.type T) r)(hf:Fv (kk X cm) r f)(hm:X.mg x=none)(hv:bootBuiltins x=some (.type T))(ha:PA X (e::es) (KC (kk X cm) E mr))(hg:Gl X x:=by rfl)(hn:x≠ "__name__" := by decide)(hdb:(x== ("__debug__" :Str))=false:=by decide)
 (he:starEach (e::es) X.env=(false,eval e X.env)::starEach es X.env:=by rfl)(hpl:(backTo pos (starEach es X.env)).any (·.1)=false:=by rfl):PE X (.Call (.Name x p) (e::es) [] pos) (tO (kk X cm) E (iR f mr)):=PE.wk (jR hc hg hm hv ha hn hdb he hpl) λ_ _ _ h=>Zc6 hf h
end
section
variable{X:Cx}{cm:String->Addr}{E:L2.St->XK}{elt tg iter t:Expr}{ifs:List Expr}{scope:Scope}{pos:Pos}{mi:M (List PV)}{g:Tg}{mt:M Bool}{me:M PV}{js:List Nat}{nl:Nat}
structure CF(X:Cx)(js:List Nat)(nl:Nat)(tg iter:Expr)(scope:Scope):Prop where
 hcap:h_ X.ō X.env.scope scope (cN X js tg) js
 hcalm:X.calm=true
 hlen:js.length+nl=(cN X js tg).length
 hk:scope.kind=.function
 hcell:∀y∈scope.names,y.2=.cell->scope.names.lookup y.1=some .cell
 hnames:∀y∈scope.names,y.2=.local->scope.names.lookup y.1=some .local
 hfree:∀y∈scope.names,y.2=.free->(X.env.scope.names.lookup y.1=some .cell\/X.env.scope.names.lookup y.1=some .free)
 hs:∀x,foldedSetIterable iter X.env x=pure x
def cf(hcap:h_ X.ō X.env.scope scope (cN X js tg) js:=by repeat' first|exact True.intro|refine⟨rfl,⟨rfl,by first|exact Or.inl rfl|exact Or.inr rfl⟩,?_⟩)(hcalm:X.calm=true:=by rfl)(hlen:js.length+nl=(cN X js tg).length:=by rfl)
 (hk:scope.kind=.function:=by rfl)(hcell:∀y∈scope.names,y.2=.cell->scope.names.lookup y.1=some .cell:=by decide +kernel)(hnames:∀y∈scope.names,y.2=.local->scope.names.lookup y.1=some .local:=by decide +kernel)
 (hfree:∀y∈scope.names,y.2=.free->(X.env.scope.names.lookup y.1=some .cell\/X.env.scope.names.lookup y.1=some .free):=by exact frB (by kernel_rfl))(hs:∀x,foldedSetIterable iter X.env x=pure x:=by intro _;rfl):CF X js nl tg iter scope:=⟨hcap,hcalm,hlen,hk,hcell,hnames,hfree,hs⟩
def Zee(hi:PI X.ō tg iter (tG (kk X cm) E (Fz (kk X cm)) mi))(hg:∀{cl C s H fp},PG (bU X.ō (cN X js tg) scope cl C s H fp) tg (tT (kk X cm) g))(ht:∀{cl C s H fp},Ew (bU X.ō (cN X js tg) scope cl C s H fp) ifs (tB (kk X cm) EF mt))(he:∀{cl C s H fp},PE (bU X.ō (cN X js tg) scope cl C s H fp) elt (tV (kk X cm) EF me))(h:CF X js nl tg iter scope:=by exact cf) :
 PE X (.ListComp elt [⟨tg,iter,ifs,0⟩] scope pos) (tO (kk X cm) E (Ń js nl mi g mt me)):=KZ (cN X js tg) js nl X.env.scope rfl h.hcalm hi (λ_ _ _ _ _=>hg) (λ_ _ _ _ _=>ht) (λ_ _ _ _ _=>he) h.hcap h.hlen h.hk h.hcell h.hnames h.hfree h.hs
def dW(hi:PI X.ō tg iter (tI (kk X cm) E mi))(hg:∀{cl C s H fp},PG (bU X.ō (cN X js tg) scope cl C s H fp) tg (tT (kk X cm) g))(ht:∀{cl C s H fp},Ew (bU X.ō (cN X js tg) scope cl C s H fp) ifs (tB (kk X cm) EF mt))(he:∀{cl C s H fp},PE (bU X.ō (cN X js tg) scope cl C s H fp) elt (tV (kk X cm) EF me))(h:CF X js nl tg iter scope:=by exact cf) :
 PE X (.ListComp elt [⟨tg,iter,ifs,0⟩] scope pos) (tO (kk X cm) E (Ń js nl mi g mt me)):=Zee (Nj hi) hg ht he h
def LC{N ps:List Str}{sc:Scope}{i:Nat}{y:Str}{py spos:Pos}(S:đ N ps sc)(hi:PI X.ō tg iter (tI (kk X cm) E mi))(hg:∀{cl C s H fp},PG (bU X.ō (cN X js tg) scope cl C s H fp) tg (tT (kk X cm) g))(ht:∀{cl C s H fp},Ew (bU X.ō (cN X js tg) scope cl C s H fp) ifs (tB (kk X cm) EF mt))(he:∀{cl C s H fp},PE (bU X.ō (cN X js tg) scope cl C s H fp) elt (tV (kk X cm) EF me))
 (h:CF X js nl tg iter scope:=by exact cf)(hN:X.N=N:=by rfl)(hi0:X.N[i]?=some y:=by rfl)(hy:X.env.scope.names.lookup y=some .local:=by rfl)(hsw:swapsWith (.ListComp elt [⟨tg,iter,ifs,0⟩] scope pos) (some (.Name y py)) spos.line X.env=pure true:=by rfl) :
 PS X (.Assign [.Name y py] (.ListComp elt [⟨tg,iter,ifs,0⟩] scope pos) spos) (tS (kk X cm) E (ģ i (Ń js nl mi g mt me))):=WQ (hN▸S.nd) hi0 hy (cN X js tg) js nl X.env.scope rfl h.hcalm hi (λ_ _ _ _ _=>hg) (λ_ _ _ _ _=>ht) (λ_ _ _ _ _=>he) h.hcap h.hlen h.hk h.hcell h.hnames h.hfree h.hs hsw
end
end P
namespace P
open PySem PySem.Spec PyProof.Rows L2 M2 M3 M5
end P
namespace P
open PySem PySem.Spec PyProof.Rows L2 M2 M3 M4 M5
variable{X:Cx}{cm:String->Addr}{E:L2.St->XK}{a:Expr}{pos:Pos}{ma:M PV}
end P
namespace M5
open PySem PySem.Spec PyProof.Rows L2 M2 M3
section
variable{X:Cx}{pins:List (Addr×Obj)}{σ:L2.St}{H:Hp}{s:Shared}
variable{R:Result->Shared->Prop}{f l S It:Addr}{oF:Obj}{xs:List V}(ks:Nat->Int)(W:Nat->Hp->Prop)
end
section
variable{X:Cx}{x px:Str}{c P:Addr}{params:Arguments}{body e:Expr}{scope:Scope}{p pos Wc kpos dpos Zbb:Pos}{dj:Nat}{ta:TA}{te:TE}
end
end M5
namespace P
open PySem PySem.Spec PyProof.Rows L2 M2 M3 M5
section
variable{X:Cx}{cm:String->Addr}{E:L2.St->XK}{x px:Str}{c Pt:Addr}{params:Arguments}{body e:Expr}{scope:Scope}{p pos Wc kpos dpos Zbb:Pos}{dj:Nat}{mr:M (List PV)}{me:M PV}
end
end P
namespace PySem
namespace F
end F
section
variable{prog:Program}{w:World}{A:Around}{E:Value->Shared->Prop}{s:Shared}
end
end PySem
namespace P
open PySem PySem.Spec PyProof.Rows L2 M2 M3 M4
section
variable{X:Cx}{cm:String->Addr}{E:L2.St->XK}{tg e l:Expr}{p pos p1 pos1:Pos}{mi:M (List PV)}
end
end P
namespace P
open PySem PySem.Spec PyProof.Rows L2 M2 M3 M4
end P
namespace P
open PySem PySem.Spec PyProof.Rows L2 M2 M3 M4
section
variable{X:Cx}{cm:String->Addr}{E:L2.St->XK}{tg:Expr}{a b d:Expr}{p pos:Pos}{mr:M (List PV)}
end
end P
namespace P
open PySem PySem.Spec PyProof.Rows L2 M2 M3 M4
section
variable{X:Cx}{cm:String->Addr}{E:L2.St->XK}
end
end P
namespace P
open PySem PySem.Spec PyProof.Rows L2 M2 M3 M4
section
variable{K:KK}{c:Ctx}{F H:Hp}{σ:L2.St}{ρ:ķ}{a b:Addr}{xs ys:List V}
end
section
variable{X:Cx}{cm:String->Addr}{E:L2.St->XK}
variable{e:Expr}{es:List Expr}{pos:Pos}{ma:M PV}{mo:M RV}
end
end P
namespace P
open PySem PySem.Spec PyProof.Rows L2 M2 M3 M4
section
variable{K:KK}{c:Ctx}{F H:Hp}{σ:L2.St}{ρ:ķ}{a:Addr}{o:HO}
def Rel.GX(r:Rel K c F H σ ρ)(hF:F a=none)(hB:c.B a=none)(hf:bI F σ ρ a):Rel K c F (upd H a o) σ ρ where
 sub:=λb u e=>by
  have hb:b≠a:=λz=>by rw[z,hF] at e;cases e
  rw[Ę hb];exact r.sub b u e
 base:=λb u e=>by
  have hb:b≠a:=λz=>by rw[z,hB] at e;cases e
  rw[Ę hb];exact r.base b u e
 f0:=r.f0
 cI:=r.cI
 lent:=λb u e=>by
  have hb:b≠a:=λz=>by rw[z,r.lb a hB] at e;cases e
  rw[Ę hb];exact r.lent b u e
 lb:=r.lb
 len:=r.len
 slot:=λj s' e=>(r.slot j s' e).grow (Same.refl F) λb u ⟨y,e1,e2⟩ h1 h2 h3=>by
  have hb:b≠a:=λz=>by subst z;exact hf j ⟨s',y,e,yP e1,e2⟩
  exact⟨by rw[Ę hb];exact h1,h2⟩
 sep:=r.sep
def oW{i:Nat}{x:Option V}(h:bI F σ ρ a):bI F (σ.set i x) (ρ.set i .no) a:=λj q=>by
 have hj:j≠i:=λz=>by
  subst z
  obtain⟨s',y,q1,_,q2⟩:=q
  rcases ţ q1 with⟨_,rfl,_⟩|⟨q,_⟩
  ·exact q2.elim
  ·exact q rfl
 exact h j (q.off hj)
end
section
variable{X:Cx}{cm:String->Addr}{E:L2.St->XK}{CX:jf}{k n:Nat}{f:Addr}{fd:FuncData}{ps:List Str}{mf:MF}{mr:M (List Slot)}{x:Str}{p pos:Pos}{e:Expr}{es:List Expr}
end
section
variable{X:Cx}{cm:String->Addr}{E:L2.St->XK}
end
end P
namespace P
open PySem PySem.Spec PyProof.Rows L2 M2 M3 M4
abbrev RIt(α:Type):=Ctx->Hp->α->V->Prop
def Zbc{α:Type}(K:KK)(RI:RIt α)(Lh F:Hp)(J:It)(items:List α):Prop:=∀(c:Ctx) (i:Nat) (F2 H:Hp) (σ:L2.St) (ρ:ķ),Rel K c F2 H σ ρ->Same F F2->Same Lh H->Same Lh c.L->
 (∀p,items[i]?=some p->J.go i H/\∀x H',J.yld i H x H'->∃F3,Rel K c F3 H' σ ρ/\Same F2 F3/\Same H H'/\RI c F3 p x)/\(i=items.length->J.stop i H)
def Xc{α:Type}(K:KK)(RI:RIt α):RR (List α) It:=λ_ _ _ F H items J=>Zbc K RI (ctx0 F H).L F J items
def tTG{α:Type}(K:KK)(RI:RIt α)(g:α->ķ->Option ķ):TG:=λv σ H Q=>∃c F ρ p,Rel K c F H σ ρ/\RI c F p v/\Wj K c F H Q (g p ρ)
def lu{α:Type}(g:α->ķ->Option ķ)(mt:M Bool)(me:M PV):List α->ķ->List PV->Option (List PV)
 | [],_,acc=>some acc
 |p::ps,ρ,acc=>match g p ρ with
  |none=>none
  |some ρ1=>match mt ρ1 with
   | .ok true ρ2=>match me ρ2 with
     | .ok q ρ3=>if acc.length<16777216 then lu g mt me ps ρ3 (acc ++ [q]) else none
     |_=>none
   | .ok false ρ2=>lu g mt me ps ρ2 acc
   |_=>none
def uH{α:Type}(js:List Nat)(nl:Nat)(mi:M (List α))(g:α->ķ->Option ķ)(mt:M Bool)(me:M PV):M RV:=λρ=>(mi ρ).bind λitems ρ1=>match lu g mt me items (nY js nl ρ1) [] with
 |some ps=>.ok (.ow ps) ρ1
 |none=>.bad
section
variable{α:Type}{RI:RIt α}{X:Cx}{cm:String->Addr}{E:L2.St->XK}{elt tg iter:Expr}{ifs:List Expr}{scope:Scope}{pos:Pos}{mi:M (List α)}{g:α->ķ->Option ķ}{mt:M Bool}{me:M PV}
def Dh{js:List Nat}{nl:Nat}{σ:L2.St}{H:Hp}{Q:VK}(h:tO (kk X cm) E (uH js nl mi g mt me) σ H Q):A_ js nl (tG (kk X cm) E (Xc (kk X cm) RI) mi) (tTG (kk X cm) RI g) (tB (kk X cm) EF mt) (tV (kk X cm) EF me) σ H Q:=by
 obtain⟨c,F,ρ,rel,h⟩:=h
 refine⟨c,F,ρ,rel,h.bind λitems ρ1 J F1 H1 Ĕ s1 s2 ito h1=>?_⟩
 intro D hD
 have hF:F1 D=none:=Ĕ.sub.free hD
 cases ec:lu g mt me items (nY js nl ρ1) [] with
 |none=>rw[ec] at h1;exact h1.elim
 |some res=>
  rw[ec] at h1
  refine⟨λi m σ' H'=>∃F' ρ' ys acc,i<=items.length/\m=items.length-i/\Rel (kk X cm) (qw F1 H1 (upd H1 D (.lst ys))) F' H' σ' ρ'/\Ē (kk X cm) F' acc ys/\lu g mt me (items.drop i) ρ' acc=some res,
   ⟨_,F1,_,[],[],Nat.zero_le _,rfl,?_,Ē.nil,ec⟩,?_⟩
  ·exact Ĕ.cap js nl hD
  ·rintro i m σ2 H2 ⟨F2,ρ2,ys,acc,hle,rfl,ĩ,ra,h2⟩
   have s12:Same F1 F2:=ĩ.f0
   obtain⟨go,stop⟩:=ito _ i F2 H2 σ2 ρ2 ĩ s12 (λb u e=>(ĩ.lent b u e).1) (Same.refl _)
   have hH2:H2 D=some (.lst ys):=ĩ.base D _ (show upd H1 D _ D=_ from ē)
   have fD:F2 D=none:=ĩ.cI D (by show upd H1 D _ D≠none;rw[ē];intro z;cases z) hF
   by_cases hlt:i<items.length
   ·obtain⟨g1,g2⟩:=go items[i] (List.getElem?_eq_getElem hlt)
    rw[List.drop_eq_getElem_cons hlt] at h2
    unfold lu at h2
    refine .inr ⟨g1,_,λσ' H' z=>z,λx H3 hy=>?_⟩
    obtain⟨F3,nU,s3,sH3,rp⟩:=g2 x H3 hy
    refine⟨_,F3,ρ2,items[i],nU,rp,?_⟩
    cases eg:g items[i] ρ2 with
    |none=>rw[eg] at h2;cases h2
    |some ρ3=>
     rw[eg] at h2
     dsimp only at h2
     intro σ4 qu
     refine⟨_,F3,ρ3,qu,?_⟩
     cases em:mt ρ3 with
     |bad=>rw[em] at h2;cases h2
     |exc x ρ4=>rw[em] at h2;cases h2
     |ok b ρ4=>
      rw[em] at h2
      intro b' F5 H5 FN s5 KY eb
      have eb':b=b':=eb
      subst eb'
      cases b with
      |false=>
       rw[if_neg Bool.false_ne_true]
       dsimp only at h2
       exact⟨items.length-(i+1),by omega,F5,ρ4,ys,acc,hlt,rfl,FN,Ē.same (s3.trans s5) acc ys ra,h2⟩
      |true=>
       rw[if_pos rfl]
       dsimp only at h2
       refine⟨_,F5,ρ4,FN,?_⟩
       cases ee:me ρ4 with
       |bad=>rw[ee] at h2;cases h2
       |exc x ρ5=>rw[ee] at h2;cases h2
       |ok q ρ5=>
        rw[ee] at h2
        dsimp only at h2
        intro y F6 H6 FP s6 Jv rq
        split at h2
        ·rename_i hz
         have ra6:=Ē.same ((s3.trans s5).trans s6) acc ys ra
         refine⟨ys,FP.base D _ (show upd H1 D _ D=_ from ē),by rw[<-ra6.length,ĸ];exact hz,?_⟩
         exact⟨items.length-(i+1),by omega,F6,ρ5,ys ++ [y],acc ++ [q],hlt,rfl,FP.rebase hD hF,Ē.append ra6 (Ē.cons rq Ē.nil),h2⟩
        ·cases h2
   ·have e:i=items.length:=by omega
    refine .inl ⟨stop e,?_⟩
    rw[List.drop_eq_nil_of_le (by omega)] at h2
    unfold lu at h2
    cases h2
    have gr:Gr F1 H1 F2 H2:=⟨λb u e=>ĩ.base b u (by show upd H1 D _ b=_;rw[Ę (Ğ e hD)];exact e),s12,ĩ.sub,λb hb hf=>ĩ.cI b (by
     show upd H1 D _ b≠none
     by_cases hbD:b=D
     ·rw[hbD,ē];intro z;cases z
     ·rw[Ę hbD];exact hb) hf⟩
    have Wn:=Ĕ.call gr
    exact h1 _ F2 H2 Wn s12 gr.h ⟨D,ys,rfl,hH2,fD,Ĕ.base.free hD,Ĕ.dJ gr.f (Ĕ.fresh hD),ra⟩
def LK(N':List Str)(js:List Nat)(nl:Nat)(sc:Scope)(hsc:X.env.scope=sc)(hcalm:X.calm=true)
 (hi:PI X.ō tg iter (tG (kk X cm) E (Xc (kk X cm) RI) mi))(hg:∀cl C s H fp,PG (bU X.ō N' scope cl C s H fp) tg (tTG (kk X cm) RI g))(ht:∀cl C s H fp,Ew (bU X.ō N' scope cl C s H fp) ifs (tB (kk X cm) EF mt))(he:∀cl C s H fp,PE (bU X.ō N' scope cl C s H fp) elt (tV (kk X cm) EF me))
 (hcap:h_ X.ō sc scope N' js)(hlen:js.length+nl=N'.length:=by rfl)
 (hk:scope.kind=.function:=by rfl)(hcell:∀y∈scope.names,y.2=.cell->scope.names.lookup y.1=some .cell:=by decide +kernel)(hnames:∀y∈scope.names,y.2=.local->scope.names.lookup y.1=some .local:=by decide +kernel)
 (hfree:∀y∈scope.names,y.2=.free->(sc.names.lookup y.1=some .cell\/sc.names.lookup y.1=some .free):=by decide +kernel)
 (hs:∀x,foldedSetIterable iter X.env x=pure x:=by intro _;rfl) :
 PE X (.ListComp elt [⟨tg,iter,ifs,0⟩] scope pos) (tO (kk X cm) E (uH js nl mi g mt me)):=
 PE.wk (PE.ō (Ba N' js nl sc hsc hcalm hi hg ht he hcap hlen hk hcell hnames hfree hs)) λ_ _ _ h=>Dh h
end
def Zbd(K:KK):RIt (List PV×List PV):=λc F d v=>∃t xs b vs,v=.ref t/\F t=some (.tup (xs ++ [.ref b]))/\Ē K F d.1 xs/\c.L b=some (.lst vs)/\Ē K F d.2 vs
def uI(i:Nat):M (List (List PV×List PV)):=λρ=>match ρ[i]? with
 |some (.dw qX)=>.ok qX ρ
 |_=>.bad
section
variable{X:Cx}{cm:String->Addr}{E:L2.St->XK}{tg:Expr}
def Zef(i:Nat){x:Str}{px:Pos}(hN:X.N[i]?=some x:=by rfl)(hv:Aj X.env.scope x:=by first|exact Or.inl rfl|exact Or.inr (Or.inl rfl)|exact Or.inr (Or.inr rfl))(hd:(x== ("__debug__" :Str))=false:=by decide)
 (hcd:(x== ("__classdict__" :Str))=false:=by decide):PI X tg (.Name x px) (tG (kk X cm) E (Xc (kk X cm) (Zbd (kk X cm))) (uI i)):=λpins s σ H R I h=>by
 obtain⟨c,F,ρ,rel,h⟩:=h
 unfold uI at h
 cases e:ρ[i]? with
 |none=>rw[e] at h;exact h.elim
 |some sl=>
  rw[e] at h
  cases sl with
  |dw qX=>
   obtain⟨a,ts,h1,h2,h3⟩:=rel.slot i _ e
   refine yV (dB hN hv hd hcd) pins s σ H R I ⟨.ref a,at_of h1,.inl ⟨a,rfl,⟨_,Ř.of (rel.lent a _ h2).1⟩,h _ F H rel (Same.refl _) (Same.refl _) ?_⟩⟩
   intro c' j F2 H2 σ2 ρ2 ĩ sF sL sc
   have hq:Ř X.K H2 a (ts.map V.ref):=Ř.of (sL a _ (FJ rel h2))
   refine⟨λd hp=>?_,λhi=>⟨_,hq,by rw[hi,List.length_map,Paired.length h3];exact Nat.le_refl _⟩⟩
   obtain⟨t,ht,xs,b,vs,k1,k2,k3,k4⟩:=Bb h3 hp
   have hu:(ts.map V.ref)[j]?=some (.ref t):=by rw[List.getElem?_map,ht];rfl
   refine⟨⟨_,.ref t,hq,hu⟩,λx H' ⟨hH,hx⟩=>?_⟩
   subst hH
   have:(ts.map V.ref)[j]?=some x:=hx _ hq
   rw[hu] at this
   cases this
   exact⟨F2,ĩ,Same.refl _,Same.refl _,t,xs,b,vs,rfl,sF _ _ k1,k2.same sF d.1 xs,sc _ _ (FJ rel k3),k4.same sF d.2 vs⟩
  |_=>exact h.elim
def gD(i j k:Nat):(List PV×List PV)->ķ->Option ķ:=λd ρ=>match d with
 |([p,q],qs)=>some (((ρ.set i (.sh p)).set j (.sh q)).set k (.bw qs))
 |_=>none
def Zeg{i j k:Nat}{x y z:Str}{px py pz pos:Pos}{n:Nat}(hc:X.calm=true)(hN:X.N.Nodup)(hi:X.N[i]?=some x)(hj:X.N[j]?=some y)(hk:X.N[k]?=some z)(hx:Loc X.env.scope x)(hy:Loc X.env.scope y)(hz:Loc X.env.scope z)
 (fx:X.fn x=true\/X.env.scope.names.lookup x=some .local:=by first|exact .inl rfl|exact .inr rfl)(fy:X.fn y=true\/X.env.scope.names.lookup y=some .local:=by first|exact .inl rfl|exact .inr rfl)(fz:X.fn z=true\/X.env.scope.names.lookup z=some .local:=by first|exact .inl rfl|exact .inr rfl) :
 PG X (.Tuple [.Name x px,.Name y py,.Name z pz] n pos) (tTG (kk X cm) (Zbd (kk X cm)) (gD i j k)):=
 PG.wk' (yg hc (je (mQ hN hi hx fx) (je (mQ hN hj hy fy) (je (mQ hN hk hz fz) Ao rfl) rfl) rfl) rfl rfl) fun v σ H Q ⟨c,F,ρ,d,rel,⟨t,xs,b,vs,hv,k1,k2,k3,k4⟩,h⟩=>by
   subst hv
   obtain⟨ps,qs⟩:=d
   unfold gD at h
   match ps,k2,h with
   | [p,q],k2,h=>
     unfold Ē at k2
     obtain⟨u,r,rfl,r1,k2⟩:=k2
     unfold Ē at k2
     obtain⟨w,r',rfl,r2,k2⟩:=k2
     unfold Ē at k2
     subst k2
     refine⟨t,_,rfl,bW.of (rel.sub _ _ k1),rfl,u,_,rfl,w,_,rfl,.ref b,_,rfl,rfl,?_⟩
     have e1:=rel.put (i:=i) (x:=some u) (s:=.sh p) rfl ⟨u,rfl,r1⟩
     have e2:=e1.put (i:=j) (x:=some w) (s:=.sh q) rfl ⟨w,rfl,r2⟩
     exact h _ (e2.put (i:=k) (x:=some (.ref b)) (s:=.bw qs) rfl ⟨b,vs,rfl,k3,k4⟩)
end
end P
namespace P
open PySem PySem.Spec PyProof.Rows L2 M2 M3 M5
def Zbe:R2:=λx y H Q=>∃(a b:Addr) (as:List Addr),x=.ref a/\y=.ref b/\H a=some (.lst (as.map V.ref))/\H b=some (.lst (as.map V.ref))/\Q (.bl false) H
theorem oX:∀{as:List Addr} {us:List Value},Vals (as.map V.ref) us->us=as.map Value.ref
 | [],_,h=>by cases h;rfl
 |a::as,_,h=>by
  cases h with
  |cons r t=>
   cases r
   rw[oX t]
   rfl
def Xd{X:Cx}(hu:X.A.units+64<cLine):ū X (compareOp .NotEq) Zbe:=by
 intro pins s σ H x y v u Q I rx ry h
 obtain⟨a,b,as,rfl,rfl,h1,h2,q⟩:=h
 cases rx
 cases ry
 obtain⟨its,rv,⟨o,n,e,hc,hdd,hd⟩,hz⟩:=I.list (Ř.of (K:=X.K) h1)
 obtain⟨its',rv',⟨o',n',e',hc',ZeK,hd'⟩,hz'⟩:=I.list (Ř.of (K:=X.K) h2)
 have e1:=oX rv
 have e2:=oX rv'
 subst e1
 subst e2
 have z:=PySem.SeqAt.RcNeAt.lists (A:=X.A) (e:=λ_=>true) ⟨o,e,hc,n,hd⟩ ⟨o',e',hc',n',hd'⟩ rfl (by omega) (λj j1 _=>PySem.SeqAt.EqAt.same _)
 have f:(!(List.range (as.map Value.ref).toArray.size).all λ_=>true)=false:=by simp
 rw[f] at z
 exact z _ _ _ _ ⟨.bl _,H,I,rfl,q⟩
end P
namespace P
open PySem PySem.Spec PyProof.Rows L2 M2
def tMk(X:Cx)(cm:String->Addr)(E:L2.St->XK)(n:Nat)(C:String)(mi:MI)(ta:TA):TE:=λσ H Q=>ta σ H λvs H1=>∀x dx,H1 x=none->H1 dx=none->dx≠x->CT (kk X cm) n C mi (.ref x::vs) (upd (upd H1 dx (.own x)) x (.ins (cm C) dx [])) (λv H2=>v=.non/\Q (.ref x) H2) (E σ)
section
variable{X:Cx}{cm:String->Addr}{E:L2.St->XK}{e:Expr}{es:List Expr}{pos p:Pos}{CX:jf}{k n:Nat}{f:Addr}{fd:FuncData}{ps:List Str}{C:String}{mi:MI}{ms:M (List Slot)}{x:Str}
def Zbf{ta:TA}(M:Mk X.K (cm C) f)(F:ĥ X.prog X.w X.K X.mg X.base CX k f fd ps (CT (kk X cm) n C mi))(hr:Ŭ (k+1) X.A)(hg:Gl X x)(hm:X.mg x=some (.ref (cm C)))(hb:Binds X.K fd ps [])(hx:cu CX X E)
 (ha:PA X (e::es) ta)(hdb:(x== ("__debug__" :Str))=false:=by decide)(he:starEach (e::es) X.env=(false,eval e X.env)::starEach es X.env:=by exact bG rfl)(hpl:(backTo pos (starEach es X.env)).any (·.1)=false:=by rfl) :
 PE X (.Call (.Name x p) (e::es) [] pos) (tMk X cm E n C mi ta):=by
 intro pins s σ H Q I h
 refine wpAny_Call_Name_kw (mK I hg hm ?_ hdb)
 refine PySem.W.callWith_K (h₀:= X.base) I.ok.mod.YH M.kp (Ŏ (ha pos pins s σ H _ I h) λus s1 ⟨vs,H1,I1,r,q⟩=>⟨I1.jM,?_⟩) he hpl
 exact rE M F hr hb hx I1 r q
def Di{c:Ctx}{F1 H1:Hp}{σ:L2.St}{ρ1:ķ}{Q:VK}{as:List Slot}{vs:List V}(hlen:(∃r,mi as=r/\∀z,r=z->z≠ .bad)->as.length+1=n)(Ĕ:Rel (kk X cm) c F1 H1 σ ρ1)(r1:Paired (aP (kk X cm) F1 H1) as vs)
 {ns:List Str}{qs:List PV}(em:mi as=.ok ns qs)(h:∀v F' H',Gr F1 H1 F' H'->Rel (kk X cm) c F' H' σ ρ1->Rep (kk X cm) F' (.ins C ns qs) v->Q v H') :
 ∀x dx,H1 x=none->H1 dx=none->dx≠x->CT (kk X cm) n C mi (.ref x::vs) (upd (upd H1 dx (.own x)) x (.ins (cm C) dx [])) (λv H2=>v=.non/\Q (.ref x) H2) (E σ):=by
 intro x dx hx hdx hne
 have up:∀b u,H1 b=some u->upd (upd H1 dx (.own x)) x (.ins (cm C) dx []) b=some u:=λb u e=>by
  rw[Ę (Ğ e hx),Ę (Ğ e hdx)];exact e
 have CV:∀{F' H':Hp},GrB x F1 (upd (upd H1 dx (.own x)) x (.ins (cm C) dx [])) F' H'->Gr F1 H1 F' H':=fun{F' H'} g=>
  ⟨fun b u e=>g.h b u (Ğ e hx) (up b u e),g.f,g.sub,fun b hb hf=>by
    obtain⟨u,hu⟩:∃u,H1 b=some u:=by
     cases q:H1 b with
     |none=>exact absurd q hb
     |some u=>exact⟨u,rfl⟩
    exact g.out b (Ğ hu hx) (by rw[up b u hu];intro z;cases z) hf⟩
 refine⟨F1,x,dx,vs,as,rfl,?_,ē,Ĕ.sub.free hx,λb u e=>up b u (Ĕ.sub b u e),?_,?_⟩
 ·exact hlen ⟨_,em,λz hz hb=>by rw[<-hz] at hb;cases hb⟩
 ·refine Paired.mono (λs v hs=>?_) r1
  cases s with
  |sh p=>exact hs
  |bw qs=>
   obtain⟨b,ws,q1,q2,q3,q4⟩:=hs
   exact⟨b,ws,q1,up b _ q2,q3,q4⟩
  |dw qX=>
   obtain⟨b,ts,q1,q2,q3,q4⟩:=hs
   exact⟨b,ts,q1,up b _ q2,q3,fO q4 λt d _ ⟨xs,y,ws,k1,k2,k3,k4⟩=>⟨xs,y,ws,k1,k2,⟨up y _ k3.1,k3.2⟩,k4⟩⟩
  |_=>exact hs.elim
 ·rw[em]
  intro F' H' fs g hx' hF' hn hr
  have gr:=CV g
  have r2:=Ĕ.call gr
  have r3:=r2.freeze hx' (Ĕ.base.free hx) hF' (Ĕ.dJ gr.f (Ĕ.fresh hx))
  have g2:Gr F1 H1 (upd F' x (.ins (cm C) dx fs)) H':=⟨gr.h,gr.f.trans (Same.upd hF'),r3.sub,λb hb hf=>by
   have nb:b≠x:=λz=>hb (z▸hx)
   rw[Ę nb]
   exact gr.out b hb hf⟩
  refine⟨rfl,h _ _ H' g2 r3 ?_⟩
  unfold Rep
  exact⟨x,dx,fs,rfl,ē,hn,Ē.same (Same.upd hF') qs _ hr⟩
end
end P
namespace P
open PySem PySem.Spec PyProof.Rows L2 M2 M3 M4
def oY:List PV->Bool
 | []=>true
 | .ins _ _ _::ps=>oY ps
 |_=>false
theorem wO{K:KK}{F:Hp}:∀{ps:List PV} {vs:List V},oY ps=true->Ē K F ps vs->∃as:List Addr,vs=as.map V.ref
 | [],vs,_,r=>⟨[],by unfold Ē at r;exact r⟩
 |p::ps,vs,h,r=>by
  cases p with
  |ins C ns xs=>
   unfold Ē at r
   obtain⟨x,rest,rfl,r1,r2⟩:=r
   unfold Rep at r1
   obtain⟨a,dx,fs,rfl,_⟩:=r1
   obtain⟨as,rfl⟩:=wO (ps:=ps) (show oY ps=true from h) r2
   exact⟨a::as,rfl⟩
  |_=>cases h
def d31(r:PV):Slot:=.dw [([.str "ab",.int 3],[r,.non]),([.str "a",.int 1],[.non])]
def m31(it ih id iy ir is:Nat)(C:String)(mi:MI)(mB:M Bool)(m1 m2:M Fl):M Fl:=λρ=>match ρ[it]?,ρ[ir]?,ρ[is]? with
 |some (.ow ps),some (.sh r),some (.sh (.tup (w::h::_)))=>if oY ps=true/\ih < ρ.length/\id < ρ.length/\iy < ρ.length then(match mi [.sh w,.sh h,.bw ps,d31 r] with
  | .ok ns qs=>(match mB (((ρ.set ih (.ow ps)).set id .no).set iy (.sh (.ins C ns qs))) with
    | .ok true _=>(match m1 (((ρ.set ih (.ow ps)).set id .no).set iy (.sh (.ins C ns qs))) with
      | .ok (.rt v) ρ3=>.ok (.rt v) ρ3
      |_=>.bad)
    | .ok false _=>m2 ((((ρ.set ih (.ow ps)).set id .no).set iy (.sh (.ins C ns qs))).set ih (.ow []))
    |_=>.bad)
  |_=>.bad) else .bad
 |_,_,_=>.bad
section
variable{X:Cx}{cm:String->Addr}{E:L2.St->XK}
abbrev Zeh(ir:Nat):TE:=JV (aA (Vq (aA (tC (.str "ab")) (aA (tC (.int 3)) (aA (JV (aA (eZ ir) (aA (tC .non) sV))) sV)))) (aA (Vq (aA (tC (.str "a")) (aA (tC (.int 1)) (aA (JV (aA (tC .non) sV)) sV)))) sV))
abbrev Zei(K:PySem.W.Frag)(is ih id:Nat):TA:=aA (Dt (rIx K) (eZ is) (tC (.int 0))) (aA (Dt (rIx K) (eZ is) (tC (.int 1))) (aA (eZ ih) (aA (eZ id) sV)))
def aq{l:L2.St}{i j:Nat}{x:Option V}{y:V}(h:l[j]?=some (some y))(n:j≠i):(l.set i x)[j]?=some (some y):=by rw[List.getElem?_set_ne (Ne.symm n)];exact h
def Zej{x:V}{xs:List V}:lX (x::xs) 0=some x:=by
 unfold lX xW
 rw[if_pos (by omega),if_pos (by simp)]
 rfl
def Zek{x y:V}{xs:List V}:lX (x::y::xs) 1=some y:=by
 unfold lX xW
 rw[if_pos (by omega),if_pos (by simp;omega)]
 rfl
def rM{F:Hp}{σ:L2.St}{ρ:ķ}{a:Addr}{i:Nat}{x:Option V}{s:Slot}(hs:s.own=false)(h:bI F σ ρ a):bI F (σ.set i x) (ρ.set i s) a:=λj q=>by
 have hj:j≠i:=λz=>by
  subst z
  obtain⟨s',y,q1,_,q2⟩:=q
  rcases ţ q1 with⟨_,rfl,_⟩|⟨q,_⟩
  ·have:=jV q2;rw[hs] at this;cases this
  ·exact q rfl
 exact h j (q.off hj)
def wQ{F:Hp}{σ:L2.St}{ρ:ķ}{a l:Addr}{i:Nat}{qs:List PV}(hi:σ[i]?=some (some (.ref l)))(n:a≠l)(h:bI F σ ρ a):bI F σ (ρ.set i (.ow qs)) a:=λj q=>by
 obtain⟨s',y,q1,q2,q3⟩:=q
 rcases ţ q1 with⟨rfl,rfl,_⟩|⟨_,q1⟩
 ·rw[hi] at q2
  cases q2
  have z:V.ref l=V.ref a:=q3
  exact n (V.ref.inj z).symm
 ·exact h j ⟨s',y,q1,q2,q3⟩
def Zbg{it ih id iy ir is n:Nat}{C:String}{mi:MI}{mB:M Bool}{m1 m2:M Fl}{s1 s2 s3 s5 s6 s7:Stmt}{tst:Expr}{ss rest:List Stmt}{posB:Pos}
 (hS1:PS X s1 (DP (tCB (uf X.K) (aA (eZ it) sV)) (qM ih)))(hS2:PS X s2 (DP (Zeh ir) (qM id)))
 (hS3:PS X s3 (DP (tMk X cm E n C mi (Zei X.K is ih id)) (qM iy)))(hlen:∀{as:List Slot},(∃r,mi as=r/\∀z,r=z->z≠ .bad)->as.length+1=n)
 (hS4:PT X tst (tOr (MK (Dt Zbe (eZ ih) (eZ it))) (tB (kk X cm) E mB)))(h1:fC X ss (tS (kk X cm) E m1))
 (hS5:PS X s5 (qL (Kc X.K "list" tD (eZ ih))))(hS6:PS X s6 (qL (Kc X.K "list" tD (Dt (rIx X.K) (Dt (rIx X.K) (eZ id) (tC (.int 0))) (tC (.int 2))))))(hS7:PS X s7 (qL (Kc X.K "list" tD (eZ id))))
 (h2:fC X rest (tS (kk X cm) E m2))(n1:it≠ih)(n2:it≠id)(n3:it≠iy)(n4:ir≠ih)(n5:is≠ih)(n6:is≠id)(n7:ih≠id)(n8:ih≠iy)(n9:id≠iy) :
 fC X (s1::s2::s3:: .If tst ss [] posB::s5::s6::s7::rest) (tS (kk X cm) E (m31 it ih id iy ir is C mi mB m1 m2)):=
 fC.wk (aO hS1 (aO hS2 (aO hS3 (aO (Mx hS4 h1 Am) (aO hS5 (aO hS6 (aO hS7 h2))))))) λD σ H ⟨c,F,ρ,rel,h⟩=>by
  unfold m31 at h
  split at h
  ·rename_i ps r w hh ws e1 e2 e3
   split at h
   ·rename_i hc
    obtain⟨ha,li,ld,ly⟩:=hc
    split at h
    ·rename_i ns qs em
     obtain⟨a0,vs,z1,z2,z3,z4,z5,z6⟩:=rel.ow e1
     obtain⟨as,rfl⟩:=wO ha z5
     obtain⟨vr,y1,y2⟩:=rel.slot ir _ e2
     obtain⟨vt,x1,x2⟩:=rel.slot is _ e3
     unfold Rep at x2
     obtain⟨tp,txs,rfl,x3,x4⟩:=x2
     unfold Ē at x4
     obtain⟨vw,txs,rfl,rw1,x4⟩:=x4
     unfold Ē at x4
     obtain⟨vh,txs,rfl,rh1,x4⟩:=x4
     have lσ:= rel.len
     refine⟨.ref a0,z1,a0,as.map V.ref,rfl,.inl (Ř.of z2),λl1 hl1=>?_⟩
     have r1:=(rel.made (o:=.lst (as.map V.ref)) hl1).Fq (i:=ih) (x:=.ref l1) (s:=.ow ps) ⟨l1,_,rfl,ē,rel.sub.free hl1,rel.base.free hl1,z5⟩ λ_ z=>V.ref.inj z▸rel.fresh hl1
     have sz:∀k:Nat,k<=3->k<=sizeLine:=λk hk=>by rw[ĸ];omega
     refine⟨vr,aq (at_of y1) n4,sz _ (by simp),λb1 hb1=>⟨sz _ (by simp),λp1 hp1=>⟨sz _ (by simp),λb2 hb2=>⟨sz _ (by simp),λp2 hp2=>⟨sz _ (by simp),λa Xe=>?_⟩⟩⟩⟩⟩
     have r2:=r1.made (o:=.lst [vr,.non]) hb1
     have r3:=r2.alloc (o:=.tup [.str "ab",.int 3,.ref b1]) hp1
     have r4:=r3.made (o:=.lst [.non]) hb2
     have r5:=r4.alloc (o:=.tup [.str "a",.int 1,.ref b2]) hp2
     have r6:=r5.made (o:=.lst [.ref p1,.ref p2]) Xe
     have r7:=r6.put (i:=id) (x:=some (.ref a)) (s:=.no) rfl trivial
     have sA:Same _ _:=Same.upd (o:=.lst [.ref p1,.ref p2]) Xe
     have sP2:Same _ _:=Same.upd (o:=.tup [.str "a",.int 1,.ref b2]) hp2
     have YZ:Same _ _:=Same.upd (o:=.lst [.non]) hb2
     have sP1:Same _ _:=Same.upd (o:=.tup [.str "ab",.int 3,.ref b1]) hp1
     have sB1:Same _ _:=Same.upd (o:=.lst [vr,.non]) hb1
     have s26:=sP2.trans sA
     have s36:=YZ.trans s26
     have s46:=sP1.trans s36
     have s56:=sB1.trans s46
     have Zbh:b1≠p1:=Ğ ē hp1
     have Zbi:b1≠p2:=Ğ ((sP1.trans YZ) _ _ ē) hp2
     have ZeG:p1≠p2:=Ğ (YZ _ _ ē) hp2
     have Zbj:b2≠p2:=Ğ ē hp2
     have sF1:Same F (upd F p1 (.tup [.str "ab",.int 3,.ref b1])):=Same.upd (r2.sub.free hp1)
     have sF2:Same (upd F p1 (.tup [.str "ab",.int 3,.ref b1])) (upd (upd F p1 (.tup [.str "ab",.int 3,.ref b1])) p2 (.tup [.str "a",.int 1,.ref b2])):=Same.upd (r4.sub.free hp2)
     have sF:=sF1.trans sF2
     have fb1:(upd (upd F p1 (.tup [.str "ab",.int 3,.ref b1])) p2 (.tup [.str "a",.int 1,.ref b2])) b1=none:=by rw[Ę Zbi,Ę Zbh];exact r1.sub.free hb1
     have fb2:(upd (upd F p1 (.tup [.str "ab",.int 3,.ref b1])) p2 (.tup [.str "a",.int 1,.ref b2])) b2=none:=by rw[Ę Zbj];exact r3.sub.free hb2
     have fa:=r5.sub.free Xe
     have fp1:(upd (upd F p1 (.tup [.str "ab",.int 3,.ref b1])) p2 (.tup [.str "a",.int 1,.ref b2])) p1=some (.tup [.str "ab",.int 3,.ref b1]):=sF2 _ _ ē
     have Zbk:l1≠p1:=Ğ (sB1 _ _ ē) hp1
     have Zbl:l1≠p2:=Ğ ((sB1.trans (sP1.trans YZ)) _ _ ē) hp2
     have fl1:(upd (upd F p1 (.tup [.str "ab",.int 3,.ref b1])) p2 (.tup [.str "a",.int 1,.ref b2])) l1=none:=by rw[Ę Zbl,Ę Zbk];exact rel.sub.free hl1
     have hl6:=s56 _ _ (ē (H:=H) (a:=l1) (o:=.lst (as.map V.ref)))
     have Zel:=s56 _ _ (Same.upd (o:=.lst (as.map V.ref)) hl1 _ _ z2)
     have Xf:=s46 _ _ ē
     have Zem:=s26 _ _ ē
     have Zbm:a≠l1:=Ne.symm (Ğ ((sB1.trans (sP1.trans (YZ.trans sP2))) _ _ (ē (H:=H) (a:=l1) (o:=.lst (as.map V.ref)))) Xe)
     have N_:b1≠l1:=Ne.symm (Ğ (ē (H:=H) (a:=l1) (o:=.lst (as.map V.ref))) hb1)
     have Zen:a≠b1:=Ne.symm (Ğ ((sP1.trans (YZ.trans sP2)) _ _ ē) Xe)
     have f1:=oW (i:=id) (x:=some (.ref a)) (r1.dJ sF (r1.fresh hb1))
     have f3:=oW (i:=id) (x:=some (.ref a)) (r5.fresh Xe)
     have li2:ih < σ.length:=by rw[lσ];exact li
     have ld2:id<(σ.set ih (some (V.ref l1))).length:=by rw[List.length_set,lσ];exact ld
     have Zbn:((σ.set ih (some (V.ref l1))).set id (some (V.ref a)))[ih]?=some (some (.ref l1)):=aq (List.getElem?_set_self li2) n7
     have Zbo:((σ.set ih (some (V.ref l1))).set id (some (V.ref a)))[id]?=some (some (.ref a)):=List.getElem?_set_self ld2
     have Zbp:((σ.set ih (some (V.ref l1))).set id (some (V.ref a)))[is]?=some (some (.ref tp)):=aq (aq (at_of x1) n5) n6
     have Zeo:((σ.set ih (some (V.ref l1))).set id (some (V.ref a)))[it]?=some (some (.ref a0)):=aq (aq z1 n1) n2
     have x36:=Same.tup (sF.trans r6.sub) x3
     refine⟨.ref tp,Zbp,.inr (.inl ⟨tp,_,0,vw,rfl,rfl,x36,Zej,.ref tp,Zbp,.inr (.inl ⟨tp,_,1,vh,rfl,rfl,x36,Zek,.ref l1,Zbn,.ref a,Zbo,?_⟩)⟩)⟩
     have args:Paired (aP (kk X cm) (upd (upd F p1 (.tup [.str "ab",.int 3,.ref b1])) p2 (.tup [.str "a",.int 1,.ref b2])) _) [.sh w,.sh hh,.bw ps,d31 r] [vw,vh,.ref l1,.ref a]:=
      .cons (rw1.same sF w vw) (.cons (rh1.same sF hh vh) (.cons ⟨l1,_,rfl,hl6,fl1,z5.same sF ps _⟩ (.cons ⟨a,[p1,p2],rfl,ē,fa,.cons ⟨[.str "ab",.int 3],b1,[vr,.non],fp1,Ē.cons Rep.str (Ē.cons Rep.int Ē.nil),⟨Xf,fb1⟩,Ē.cons (y2.same sF r vr) (Ē.cons Rep.non Ē.nil)⟩ (.cons ⟨[.str "a",.int 1],b2,[.non],ē,Ē.cons Rep.str (Ē.cons Rep.int Ē.nil),⟨Zem,fb2⟩,Ē.cons Rep.non Ē.nil⟩ .nil)⟩ .nil)))
     refine Di (C:=C) (Q:=λv H'=>qM iy v _ H' _) hlen r7 args em λv F7 H7 gr r8 rv=>?_
     have hl7:=gr.h _ _ hl6
     have Zep:=gr.h _ _ Zel
     have hA7:=gr.h _ _ (ē (a:=a) (o:=.lst [.ref p1,.ref p2]))
     have Zeq:=gr.h _ _ Xf
     have uJ:∀{u:HO},some u≠none:=fun{u} z=>by cases z
     have fl7:=gr.out l1 (by rw[hl6];exact uJ) fl1
     have fb7:=gr.out b1 (by rw[Xf];exact uJ) fb1
     have fa7:=gr.out a (by rw[ē];exact uJ) fa
     have fp7:=gr.f _ _ fp1
     have r9:=r8.put (i:=iy) (x:=some v) (s:=.sh (.ins C ns qs)) rfl ⟨v,rfl,rv⟩
     have g1:=rM (i:=iy) (x:=some v) (s:=.sh (.ins C ns qs)) rfl (r7.dJ gr.f f1)
     have g3:=rM (i:=iy) (x:=some v) (s:=.sh (.ins C ns qs)) rfl (r7.dJ gr.f f3)
     have t_ih:=aq (x:=some v) Zbn n8
     have Zbq:=aq (x:=some v) Zbo n9
     have Zer:=aq (x:=some v) Zeo n3
     refine⟨.ref l1,t_ih,.ref a0,Zer,l1,a0,as,rfl,rfl,hl7,Zep,false,rfl,?_⟩
     dsimp only
     rw[if_neg Bool.false_ne_true]
     refine⟨c,F7,_,r9,?_⟩
     cases e9:mB (((ρ.set ih (.ow ps)).set id .no).set iy (.sh (.ins C ns qs))) with
     |bad=>rw[e9] at h;exact h.elim
     |exc x ρ2=>rw[e9] at h;exact h.elim
     |ok t ρ2=>
      rw[e9] at h
      intro v' F8 H8 _ _ s8 q
      have e:t=v':=q
      subst e
      have r10:=r9.keep s8
      cases t with
      |true=>
       refine⟨c,F7,_,r10,?_⟩
       dsimp only at h
       cases e11:m1 (((ρ.set ih (.ow ps)).set id .no).set iy (.sh (.ins C ns qs))) with
       |bad=>rw[e11] at h;exact h.elim
       |exc x ρ3=>rw[e11] at h;exact h.elim
       |ok f ρ3=>
        rw[e11] at h
        cases f with
        |rt v=>exact λv' σ' F' H' Ż s' q'=>h v' σ' F' H' Ż ((sF.trans gr.f).trans s') q'
        |_=>exact h.elim
      |false=>
       dsimp only at h
       have hl8:=s8 _ _ hl7
       have hA8:=s8 _ _ hA7
       have hb8:=s8 _ _ Zeq
       refine⟨.ref l1,t_ih,.inl ⟨rfl,_,Ř.of hl8⟩,l1,_,rfl,rfl,hl8,?_⟩
       have eih:(((ρ.set ih (.ow ps)).set id .no).set iy (.sh (.ins C ns qs)))[ih]?=some (.ow ps):=by
        rw[List.getElem?_set_ne (Ne.symm n8),List.getElem?_set_ne (Ne.symm n7),List.getElem?_set_self li]
       have r11:=r10.write (o:=.lst []) (s:=.ow []) ⟨.ow ps,_,eih,t_ih,rfl⟩ t_ih ⟨l1,[],rfl,ē,fl7,rel.base.free hl1,Ē.nil⟩ λ_ z=>(V.ref.inj z).symm
       have hA9:upd H8 l1 (.lst []) a=some (.lst [.ref p1,.ref p2]):=by rw[Ę Zbm];exact hA8
       have hb9:upd H8 l1 (.lst []) b1=some (.lst [vr,.non]):=by rw[Ę N_];exact hb8
       refine⟨.ref a,Zbq,.inl ⟨a,[.ref p1,.ref p2],0,.ref p1,rfl,rfl,Ř.of hA9,by simp[lX,xW],.inr (.inl ⟨p1,_,2,.ref b1,rfl,rfl,bW.of (r11.sub _ _ fp7),by simp[lX,xW],.inl ⟨rfl,_,Ř.of hb9⟩,b1,_,rfl,rfl,hb9,?_⟩)⟩⟩
       have r12:=r11.GX (o:=.lst []) fb7 (r1.base.free hb1) (wQ t_ih N_ g1)
       have Zbr:upd (upd H8 l1 (.lst [])) b1 (.lst []) a=some (.lst [.ref p1,.ref p2]):=by rw[Ę Zen];exact hA9
       refine⟨.ref a,Zbq,.inl ⟨rfl,_,Ř.of Zbr⟩,a,_,rfl,rfl,Zbr,?_⟩
       have r13:=r12.GX (o:=.lst []) fa7 (r5.base.free Xe) (wQ t_ih Zbm g3)
       exact⟨c,F7,_,r13,Ş.mono h (sF.trans gr.f)⟩
    ·exact h.elim
   ·exact h.elim
  ·exact h.elim
end
end P
namespace P
open PySem PySem.Spec PyProof.Rows L2 M2 M3 M4
def LQ(i:Nat)(ρ:ķ):Bool:=match ρ[i]? with
 |some (.dw _)=>true
 |_=>false
def mEi(b:ķ->Bool)(m1 m2:M RV):M RV:=λρ=>if b ρ=true then m1 ρ else m2 ρ
def Zes{X:Cx}{cm:String->Addr}{E:L2.St->XK}{e:Expr}{m1 m2:M RV}(b:ķ->Bool)(h1:PE X e (tO (kk X cm) E m1))(h2:PE X e (tO (kk X cm) E m2)):PE X e (tO (kk X cm) E (mEi b m1 m2)):=λpins s σ H Q I ⟨c,F,ρ,rel,h⟩=>by
 unfold mEi at h
 split at h
 ·exact h1 pins s σ H Q I ⟨c,F,ρ,rel,h⟩
 ·exact h2 pins s σ H Q I ⟨c,F,ρ,rel,h⟩
end P
namespace My
def gd(a b:Int):Int:=((Int.gcd a b:Nat):Int)
def Z24(a b:Int):gd b (Int.fmod a b)=gd a b:=by
 unfold gd
 rw[Int.fmod_def,Int.gcd_sub_mul_left_right,Int.gcd_comm]
def Z25(a:Int){b:Int}(h:b≠0):(Int.fmod a b).natAbs<b.natAbs:=by
 rcases(by omega:0<b\/b<0) with h|h
 ·have h1:=Int.fmod_nonneg_of_pos a h
  have h2:=Int.fmod_lt_of_pos a h
  omega
 ·have e:=Int.neg_fmod_neg a b
  have h1:=Int.fmod_nonneg_of_pos (-a) (show 0 < -b by omega)
  have h2:=Int.fmod_lt_of_pos (-a) (show 0 < -b by omega)
  omega
def Z26(a:Int):gd a 0=if a<0 then -a else a:=by
 unfold gd
 rw[Int.gcd_zero]
 split<;>omega
def Z2t(a:Int){b:Int}(h:b≠0):0<gd a b:=by
 have:=Int.gcd_ne_zero_right (a:=a) h
 unfold gd
 omega
def Z1g(a b:Int):0<=gd a b:=by
 unfold gd
 omega
def Z2W(a:Int){b:Int}(h:b≠0):gd a b<=b.natAbs:=by
 unfold gd
 have:=Int.gcd_dvd_natAbs_right a b
 have:=Nat.le_of_dvd (by omega) this
 omega
def dv(t b:Int):Int:=if b<0 then-gd t b else gd t b
end My
namespace Hu
abbrev Pt:=Int×Int
def tn(a b c:Pt):Int:=(b.1-a.1)*(c.2-a.2)-(b.2-a.2)*(c.1-a.1)
section
variable{S:List Pt}{p:Pt}
end
abbrev Ln:=Int×Int×Int
def hd(l:Ln)(p:Pt):Bool:=decide (l.1*p.1+l.2.1*p.2<=l.2.2)
def Z3(a b:Pt):Ln:=(b.2-a.2,a.1-b.1,(b.2-a.2)*a.1+(a.1-b.1)*a.2)
def Z1Z{a b s:Pt}:hd (Z3 a b) s=true↔0<=tn a b s:=by
 unfold hd Z3
 rw[decide_eq_true_iff]
 have e:tn a b s=((b.2-a.2)*a.1+(a.1-b.1)*a.2)-((b.2-a.2)*s.1+(a.1-b.1)*s.2):=by simp only[tn];grind
 dsimp only
 omega
def Z2(S:List Pt):List Pt:=S.foldl (λk x=>if x∈k then k else k ++ [x]) []
theorem Z09(x:Pt):∀(S k:List Pt),x∈S.foldl (λk x=>if x∈k then k else k ++ [x]) k↔x∈k\/x∈S
 | [],k=>by simp
 |y::S,k=>by
  rw[List.foldl_cons,Z09 x S]
  by_cases h:y∈k
  ·rw[if_pos h]
   constructor
   ·rintro (q|q)
    ·exact .inl q
    ·exact .inr (List.mem_cons_of_mem _ q)
   ·rintro (q|q)
    ·exact .inl q
    ·rcases List.mem_cons.mp q with e|e
     ·exact .inl (e▸h)
     ·exact .inr e
  ·rw[if_neg h]
   simp only[List.mem_append,List.mem_cons,List.not_mem_nil,or_false]
   constructor
   ·rintro ((q|q)|q)
    ·exact .inl q
    ·exact .inr (.inl q)
    ·exact .inr (.inr q)
   ·rintro (q|q|q)
    ·exact .inl (.inl q)
    ·exact .inl (.inr q)
    ·exact .inr q
def Zk{x:Pt}{S:List Pt}:x∈Z2 S↔x∈S:=by unfold Z2;rw[Z09];simp
def Zz(S:List Pt):List Ln:=(Z2 S).flatMap λa=>(Z2 S).filterMap λb=>if a≠b/\(Z2 S).all (hd (Z3 a b)) then some (Z3 a b) else none
def Z1h{S:List Pt}{l:Ln}:l∈Zz S↔∃a∈S,∃b∈S,a≠b/\(∀s∈S,0<=tn a b s)/\l=Z3 a b:=by
 unfold Zz
 simp only[List.mem_flatMap,List.mem_filterMap]
 constructor
 ·rintro ⟨a,ha,b,hb,h⟩
  split at h
  ·rename_i hc
   refine⟨a,Zk.mp ha,b,Zk.mp hb,hc.1,λs hs=>?_,(Option.some.inj h).symm⟩
   exact Z1Z.mp (List.all_eq_true.mp hc.2 s (Zk.mpr hs))
  ·cases h
 ·rintro ⟨a,ha,b,hb,h1,h2,rfl⟩
  refine⟨a,Zk.mpr ha,b,Zk.mpr hb,?_⟩
  rw[if_pos ⟨h1,List.all_eq_true.mpr λs hs=>Z1Z.mpr (h2 s (Zk.mp hs))⟩]
def mx(l:List Int):Int:=l.tail.foldl max (l.headD 0)
def mn(l:List Int):Int:=l.tail.foldl min (l.headD 0)
def box(S:List Pt):List Ln:=[(1,0,mx (S.map (·.1))),(-1,0,- mn (S.map (·.1))),(0,1,mx (S.map (·.2))),(0,-1,- mn (S.map (·.2)))]
def Zi(S:List Pt):List Ln:=box S++Zz S
def ZB(S:List Pt)(p:Pt):Option Ln:=(Zi S).find? λl=>!hd l p
def uK(a b c p:Pt):List Int:=[tn p b c,tn a p c,tn a b p]
def uL(a b p:Pt):List Int:=
 let g:=(b.1-a.1)*(p.1-a.1)+(b.2-a.2)*(p.2-a.2)
 [(b.1-a.1)*(b.1-a.1)+(b.2-a.2)*(b.2-a.2)-g,g]
def Zv(w:List Int):Bool:=decide (w.sum≠0) && w.all λs=>decide (0<=s*w.sum)
def at_(S:List Pt)(i:Nat):Pt:=S.getD i (0,0)
def Z2u{S:List Pt}{i:Nat}(h:i<S.length):at_ S i∈S:=by
 unfold at_
 rw[List.getD_eq_getElem?_getD,List.getElem?_eq_getElem h]
 exact List.getElem_mem h
def Z8(n:Nat):List (Nat×Nat):=(List.range n).flatMap λj=>(List.range j).map λi=>(i,j)
def Zc(n:Nat):List (Nat×Nat×Nat):=(List.range n).flatMap λk=>(Z8 k).map λq=>(q.1,q.2,k)
def ZL{n i j:Nat}:(i,j)∈Z8 n↔i<j/\j<n:=by
 unfold Z8
 simp only[List.mem_flatMap,List.mem_range,List.mem_map,Prod.mk.injEq]
 constructor
 ·rintro ⟨k,hk,m,hm,rfl,rfl⟩;exact⟨hm,hk⟩
 ·rintro ⟨h1,h2⟩;exact⟨j,h2,i,h1,rfl,rfl⟩
def Z0I{n i j k:Nat}:(i,j,k)∈Zc n↔i<j/\j<k/\k<n:=by
 unfold Zc
 simp only[List.mem_flatMap,List.mem_range,List.mem_map,Prod.mk.injEq]
 constructor
 ·rintro ⟨m,hm,⟨a,b⟩,hq,rfl,rfl,rfl⟩
  have:=ZL.mp hq
  exact⟨this.1,this.2,hm⟩
 ·rintro ⟨h1,h2,h3⟩;exact⟨k,h3,(i,j),ZL.mpr ⟨h1,h2⟩,rfl,rfl,rfl⟩
def Z2v(S:List Pt)(p:Pt):Option (List Int×List Nat):=(Zc S.length).findSome? λq=>if Zv (uK (at_ S q.1) (at_ S q.2.1) (at_ S q.2.2) p) then some (uK (at_ S q.1) (at_ S q.2.1) (at_ S q.2.2) p,[q.1,q.2.1,q.2.2]) else none
def Z2w(S:List Pt)(p:Pt):Option (List Int×List Nat):=(Z8 S.length).findSome? λq=>if Zv (uL (at_ S q.1) (at_ S q.2) p) then some (uL (at_ S q.1) (at_ S q.2) p,[q.1,q.2]) else none
def Z0T(S:List Pt)(p:Pt):List Int×List Nat:=((Z2v S p).orElse λ_=>Z2w S p).getD ([1],[0])
structure Z3k(S:List Pt)(p:Pt)(w:List Int)(q:List Nat):Prop where
 len:w.length=q.length
 sum:w.sum≠0
 sign:∀s∈w,0<=s*w.sum
 nd:q.Nodup
 lt:∀i∈q,i<S.length
 x:((w.zip q).map λa=>a.1*(at_ S a.2).1).sum=w.sum*p.1
 y:((w.zip q).map λa=>a.1*(at_ S a.2).2).sum=w.sum*p.2
def Z0i{w:List Int}:Zv w=true↔w.sum≠0/\∀s∈w,0<=s*w.sum:=by
 unfold Zv
 simp
end Hu
namespace Fr
def lay(l:List Int)(a:List (Int×Nat)):List Int:=a.foldl (λacc a=>acc.set a.2 a.1) l
end Fr
namespace T
open PySem L2 M2 M3 M4 P
noncomputable section
def top(i:Nat):Stmt:=PySem.Challenge.pw_shadowpost_k31_dark_by_things.main.body.getD i (.Pass ⟨0,0,0,0⟩)
abbrev Oa:Stmt:=top 66
abbrev Ob:Stmt:=top 61
abbrev Oc:Stmt:=top 65
abbrev Xg:Stmt:=inClass (top 58) 0
abbrev Od:Stmt:=top 70
abbrev Oe:Stmt:=top 63
abbrev Og:Stmt:=top 62
abbrev Oh:Stmt:=top 64
abbrev Oi:Stmt:=top 40
abbrev Oj:Stmt:=top 41
abbrev Ol:Stmt:=top 43
abbrev Zbs:Stmt:=inClass (top 50) 0
abbrev Om:Stmt:=top 44
abbrev Oo:Stmt:=top 45
abbrev Zbt:Stmt:=top 46
abbrev Zbu:Stmt:=top 42
abbrev Oq:Stmt:=top 47
abbrev Ot:Stmt:=top 56
abbrev Ou:Stmt:=top 60
abbrev Ov:Stmt:=top 9
abbrev Ow:Stmt:=top 11
abbrev Ox:Stmt:=top 10
abbrev Oz:Stmt:=top 8
abbrev OD:Stmt:=top 12
abbrev OJ:Stmt:=top 13
abbrev O_:Stmt:=top 14
abbrev Pa:Stmt:=top 20
abbrev Pb:Stmt:=top 21
abbrev Zbv:Stmt:=top 5
abbrev Ph:Stmt:=top 6
abbrev Pj:Stmt:=top 19
abbrev Pk:Stmt:=top 15
abbrev Zbw:Stmt:=top 16
abbrev Pn:Stmt:=top 18
abbrev Zbx:Stmt:=top 17
abbrev Pq:Stmt:=top 22
abbrev Pr:Stmt:=top 23
abbrev Pu:Stmt:=top 25
abbrev Zby:Stmt:=top 48
abbrev Zbz:Stmt:=top 49
abbrev Px:Stmt:=inClass (top 51) 0
abbrev Py:Stmt:=inClass (top 52) 0
abbrev Pz:Stmt:=inClass (top 53) 0
abbrev PJ:Stmt:=inClass (top 54) 0
abbrev PK:Stmt:=inClass (top 55) 0
abbrev PL:Stmt:=top 28
abbrev PN:Stmt:=top 26
abbrev P_:Stmt:=top 29
abbrev Qa:Stmt:=top 30
abbrev Qc:Stmt:=top 67
abbrev Qd:Stmt:=top 68
abbrev Qe:Stmt:=top 71
abbrev Qf:Stmt:=inClass (top 50) 1
abbrev Qg:Stmt:=top 69
abbrev Qh:Stmt:=top 32
abbrev Qi:Stmt:=top 33
abbrev Qj:Stmt:=top 34
abbrev ZbA:Stmt:=top 35
abbrev Qk:Stmt:=top 36
abbrev Ql:Stmt:=top 72
def cmB(c0:Addr)(c1:Addr)(c2:Addr)(c3:Addr)(c4:Addr)(c5:Addr)(c6:Addr):String->Addr:=λs=>match s with
 | "Thing" =>c0
 | "Post" =>c1
 | "Fence" =>c2
 | "Sail" =>c3
 | "Cloth" =>c4
 | "House" =>c5
 | "Yard" =>c6
 |_=>0
def gB:M Fl:=(ę (cJ (jk (fj (ą ŝ (ą ŀ (ą ŧ (Ā 0) (mC (.int 7))) (mC (.int 16))) (mC (.int 11)))) (fj (ą Le (Ā 1) (mC (.int 6)))))
 (Ġ (ł (ą Ė (č (ŭ (ă (Ŀ (ă (mC (.int 1)) (ă (mC (.int 20)) ĕ))) (ă (Ŀ (ă (mC (.int 20)) (ă (mC (.int 1)) ĕ))) ĕ)))) (ą ŀ (Ā 0) (mC (.int 2))))))
 dz)
 (ę (ģ 2 (į ĭ (mC (.int 1)) (ą ŀ (Ā 0) (bY q_ (ă (mC (.int 5)) (ă (Ā 1) ĕ))))))
 (Ġ (ł (Ŀ (ă (ě 2) (ă (č (į ĭ (mC (.int 1)) (ą ŀ (ą ŧ (Ā 0) (mC (.int 5))) (bY q_ (ă (mC (.int 4)) (ă (ą ŧ (Ā 1) (Ā 2)) ĕ)))))) ĕ)))))))
def eG:MF:=Ĳ 2 3 gB
def kh:M Fl:=(cJ (fj (ą ŝ (ą ŀ (Ā 0) (mC (.int 2))) (mC (.int 0))))
 (ę (yU 2 (ą ŀ (Ā 3) (mC (.int 524287))))
 (ģ 3 (ł (ą ŧ (Ā 3) (mC (.int 524287))))))
 (ę (ģ 3 (ł (ą ŀ (č (į ĭ (č (į ĭ (ą Ģ (Ā 3) (mC (.int 49157))) (mC (.int 24593)))) (ą Ģ (mC (.int 2)) (Ā 4)))) (mC (.int 8388593)))))
 (yU 2 (ą ŧ (Ā 3) (mC (.int 16))))))
def zx:M Fl:=(ę (ģ 2 (ŭ ĕ))
 (ę (ģ 3 (ł (ą ŧ (Ā 0) (mC (.int 2)))))
 (ę (cJ (fj (ą ŝ (ą ŀ (Ā 0) (mC (.int 2))) (mC (.int 1))))
 (ģ 3 (ł (ą ŀ (Ā 3) (mC (.int 8388593)))))
 dz)
 (ę (fu (ſ aQ (ă (ě 1) ĕ)) (gN 4) kh)
 (Ġ (b_ 2))))))
def lA:MF:=Ĳ 2 5 zx
def GZ:M Fl:=(ę (ģ 1 (ċ lA (ā 0 (Ċ (mC (.int 4)) Ĉ))))
 (ę (ģ 2 (ł (ą Ė (č (ŭ (ă (mC (.int 1)) (ă (mC (.int 1)) (ă (mC (.int 3)) (ă (ą qZ (mC (.int 10)) (mC (.int 5))) ĕ)))))) (ą ŀ (ą Ė (Ā 1) (mC (.int 3))) (mC (.int 4))))))
 (Ġ (ł (Ŀ (ă (ą Ģ (ą Ŋ (ą ŀ (ą Ė (Ā 1) (mC (.int 0))) (mC (.int 13))) (mC (.int 6))) (Ā 2)) (ă (ą Ģ (ą Ŋ (ą ŀ (ą Ė (Ā 1) (mC (.int 1))) (mC (.int 13))) (mC (.int 6))) (Ā 2)) (ă (ą Ģ (č (į ĭ (mC (.int 1)) (ą ŀ (ą Ė (Ā 1) (mC (.int 2))) (mC (.int 5))))) (Ā 2)) ĕ))))))))
def oZ:MF:=Ĳ 1 3 GZ
def Bx:M Fl:=(ę (gw 0 ["Yard"] "width" (ě 1))
 (ę (gw 0 ["Yard"] "height" (ě 2))
 (ę (gw 0 ["Yard"] "things" (č (iR bf (ă (Ā 3) ĕ))))
 (gw 0 ["Yard"] "days" (č (mEi (LQ 4) (uH [] 3 (uI 4) (gD 0 1 2) ı (Ŀ (ă (ě 0) (ă (ě 1) (ă (č (iR bf (ă (Ā 2) ĕ))) ĕ))))) (Ń [] 3 (ŋ 4) (gT 3 (ġ (gN 0) (ġ (gN 1) (ġ (gN 2) ŷ)))) ı (Ŀ (ă (ě 0) (ă (ě 1) (ă (č (iR bf (ă (Ā 2) ĕ))) ĕ)))))))))))
def aM:MI:=bL 5 5 "Yard" Bx
def uM:M Fl:=(ģ 1 (ł (ą FQ (Ā 1) (Ā 2))))
def G_:M Fl:=(ę (ģ 1 (ł (mC (.int 0))))
 (ę (fu (ŋ 0) (gN 2) uM)
 (Ġ (b_ 1))))
def rN:MF:=Ĳ 1 3 G_
def zy:M Fl:=(ę (cJ (fj (ą ŝ (ą ŀ (ą ŧ (Ā 0) (mC (.int 512))) (mC (.int 12))) (mC (.int 7))))
 (Ġ (į ĭ (mC (.int 1)) (ą ŀ (ą Ģ (Ā 0) (mC (.int 1907))) (ą qZ (mC (.int 10)) (mC (.int 9))))))
 dz)
 (Ġ (į ĭ (mC (.int 1)) (ą ŀ (Ā 0) (mC (.int 9))))))
def rP:MF:=Ĳ 1 1 zy
def zA:M Fl:=(ę (cJ (fj (ą ŝ (ą ŀ (ą ŧ (Ā 0) (mC (.int 512))) (mC (.int 16))) (mC (.int 5))))
 (Ġ (į ĭ (ą Ŋ (ą ŀ (ą Ģ (Ā 0) (mC (.int 3813))) (ą Ŋ (ą Ģ (mC (.int 2)) (ą qZ (mC (.int 10)) (mC (.int 9)))) (mC (.int 99)))) (ą qZ (mC (.int 10)) (mC (.int 9)))) (mC (.int 50))))
 dz)
 (Ġ (ł (ą Ŋ (ą ŀ (Ā 0) (č (į ĭ (ą Ģ (mC (.int 2)) (Ā 1)) (mC (.int 9))))) (mC (.int 4))))))
def iz:MF:=Ĳ 2 2 zA
def kj:M Fl:=(ę (ģ 2 (ċ lA (ā 0 (Ċ (mC (.int 14)) Ĉ))))
 (ę (CK (gS 2 (ġ (gN 5) (ġ (gN 6) ŷ))) (č (Ń [1,2] 1 (ſ aQ (ă (mC (.int 2)) ĕ)) (gN 2) ı (č (ċ iz (Ċ (ą Ė (Ā 1) (Ā 2)) (ā 0 Ĉ)))))))
 (ę (ģ 3 (ċ rP (Ċ (ą Ė (Ā 2) (mC (.int 2))) Ĉ)))
 (ę (ģ 4 (ł (ą ŀ (ą Ė (Ā 2) (mC (.int 3))) (mC (.int 5)))))
 (ę (cJ (fj (ą ŝ (Ā 4) (mC (.int 0))))
 (Ġ (ł (Ŀ (ă (mC (.str "post")) (ă (č (ŭ (ă (ą ŧ (Ā 5) (mC (.int 2))) (ă (ą ŧ (Ā 6) (mC (.int 2))) (ă (ě 3) ĕ))))) ĕ)))))
 dz)
 (ę (cJ (fj (ą ŝ (Ā 4) (mC (.int 1))))
 (ę (CK (gS 2 (ġ (gN 7) (ġ (gN 8) ŷ))) (č (ŭ (ă (ą Ŋ (č (į ĭ (Ā 5) (ą ŀ (ą Ė (Ā 2) (mC (.int 4))) (mC (.int 9))))) (mC (.int 4))) (ă (ą Ŋ (č (į ĭ (Ā 6) (ą ŀ (ą Ė (Ā 2) (mC (.int 5))) (mC (.int 9))))) (mC (.int 4))) ĕ)))))
 (Ġ (ł (Ŀ (ă (mC (.str "fence")) (ă (č (ŭ (ă (ě 5) (ă (ě 6) (ă (č (į ĭ (Ā 7) (bY Gu (ă (ą ŝ (Ŀ (ă (ě 5) (ă (ě 6) ĕ))) (Ŀ (ă (ě 7) (ă (ě 8) ĕ)))) ĕ)))) (ă (ě 8) (ă (ě 3) ĕ))))))) ĕ))))))
 dz)
 (ę (cJ (fj (ą ŝ (Ā 4) (mC (.int 2))))
 (Ġ (ł (Ŀ (ă (mC (.str "cloth")) (ă (č (į ĭ (č (į ĭ (č (ŭ (ă (ě 5) (ă (ě 6) (ă (ą ŀ (ą Ė (Ā 2) (mC (.int 6))) (mC (.int 10))) ĕ))))) (č (ŭ (ă (č (ċ iz (Ċ (ą Ė (Ā 2) (mC (.int 7))) (ā 1 Ĉ)))) (ă (č (ċ iz (Ċ (ą Ė (Ā 2) (mC (.int 8))) (ā 1 Ĉ)))) (ă (ě 3) ĕ))))))) (č (ŭ (ă (č (ċ iz (Ċ (ą Ė (Ā 2) (mC (.int 9))) (ā 1 Ĉ)))) (ă (č (ċ iz (Ċ (ą Ė (Ā 2) (mC (.int 10))) (ā 1 Ĉ)))) (ă (č (ċ rP (Ċ (ą Ė (Ā 2) (mC (.int 11))) Ĉ))) ĕ))))))) ĕ)))))
 dz)
 (Ġ (ł (Ŀ (ă (ą Ė (č (ŭ (ă (mC (.str "sail")) (ă (mC (.str "house")) ĕ)))) (ą Ŋ (Ā 4) (mC (.int 3)))) (ă (č (ŭ (ă (ě 5) (ă (ě 6) (ă (č (į ĭ (č (į ĭ (Ā 5) (mC (.int 1)))) (ą ŀ (ą Ė (Ā 2) (mC (.int 4))) (mC (.int 8))))) (ă (č (į ĭ (č (į ĭ (Ā 6) (mC (.int 1)))) (ą ŀ (ą Ė (Ā 2) (mC (.int 5))) (mC (.int 8))))) (ă (ě 3) ĕ))))))) ĕ))))))))))))
def bO:MF:=Ĳ 2 9 kj
def Hf:M Fl:=(Ġ (ł (CJ tZ tZ (fU gj (mC (.int (1000000000)))) (Ā 0) (mC (.int (1000000000))))))
def lB:MF:=Ĳ 1 1 Hf
def Hg:M Fl:=(Ġ (ł (CJ tZ tZ (mC (.int 1)) (Ā 0) (mC (.int (1000000000))))))
def wR:MF:=Ĳ 1 1 Hg
def zB:M Fl:=(Ġ (ł (cX (ą ŝ (bY jm (ă (Ā 0) ĕ)) (mC (.int 3))) (cX (č (ċ lB (Ċ (ą Ė (Ā 0) (mC (.int 0))) Ĉ))) (cX (č (ċ lB (Ċ (ą Ė (Ā 0) (mC (.int 1))) Ĉ))) (č (ċ wR (Ċ (ą Ė (Ā 0) (mC (.int 2))) Ĉ))))))))
def wU:MF:=Ĳ 1 1 zB
def eN:M Fl:=(ę (gw 0 ["Thing","Post","Fence","Sail","Cloth","House"] "word" (ě 1))
 (gw 0 ["Thing","Post","Fence","Sail","Cloth","House"] "numbers" (č (iR bf (ă (Ā 2) ĕ)))))
def uN:MI:=bL 3 3 "Post" eN
def o_:MI:=bL 3 3 "Fence" eN
def uO:MI:=bL 3 3 "Sail" eN
def pq:MI:=bL 3 3 "Cloth" eN
def pA:MI:=bL 3 3 "House" eN
def zE:M Fl:=(Ġ (ł (cX (ą ŝ (bY jm (ă (Ā 0) ĕ)) (mC (.int 5))) (cX (bY jW (ă (č (Ń [] 1 (ŏ (č (Gb (Ā 0) CQ (mP (mC (.int 4)))))) (gN 0) ı (č (ċ lB (ā 0 Ĉ))))) ĕ)) (č (ċ wR (Ċ (ą Ė (Ā 0) (mC (.int 4))) Ĉ)))))))
def rQ:MF:=Ĳ 1 1 zE
def zF:M Fl:=(Ġ (ł (cX (č (ċ rQ (ā 0 Ĉ))) (ą cL (č (Gb (Ā 0) CQ (mP (mC (.int 2))))) (č (Gb (Ā 0) (mP (mC (.int 2))) (mP (mC (.int 4)))))))))
def wV:MF:=Ĳ 1 1 zF
def Hh:M Fl:=(Ġ (ł (cX (č (ċ rQ (ā 0 Ĉ))) (cX (ą tY (ą Ė (Ā 0) (mC (.int 0))) (ą Ė (Ā 0) (mC (.int 2)))) (ą tY (ą Ė (Ā 0) (mC (.int 1))) (ą Ė (Ā 0) (mC (.int 3))))))))
def Dj:MF:=Ĳ 1 1 Hh
def Qm:M Fl:=(Ġ (ł (cX (č (ċ lB (Ċ (ą Ė (Ā 0) (mC (.int 0))) Ĉ))) (cX (č (ċ lB (Ċ (ą Ė (Ā 0) (mC (.int 1))) Ĉ))) (CJ tZ tZ (mC (.int 0)) (ą Ė (Ā 0) (mC (.int 2))) (mC (.int (1000000000))))))))
def LR:MF:=Ĳ 1 1 Qm
def zG:M Fl:=(Ġ (ł (cX (ą ŝ (bY jm (ă (Ā 0) ĕ)) (mC (.int 9))) (bY jW (ă (č (Ń [0] 1 (ŏ (Ŀ (ă (mC (.int 0)) (ă (mC (.int 3)) (ă (mC (.int 6)) ĕ))))) (gN 1) ı (č (ċ LR (Ċ (č (Gb (Ā 0) (mP (ě 1)) (mP (č (į ĭ (Ā 1) (mC (.int 3))))))) Ĉ))))) ĕ)))))
def wW:MF:=Ĳ 1 1 zG
def iW:M Fl:=(ę (cJ (jk (fj (ą ŝ (Ā 0) (mC (.str "post")))) (au (č (ċ wU (ā 1 Ĉ)))))
 (Ġ (ł (bM "Post" uN (ā 0 (ā 1 Ĉ)))))
 dz)
 (ę (cJ (jk (fj (ą ŝ (Ā 0) (mC (.str "fence")))) (au (č (ċ wV (ā 1 Ĉ)))))
 (Ġ (ł (bM "Fence" o_ (ā 0 (ā 1 Ĉ)))))
 dz)
 (ę (cJ (jk (fj (ą ŝ (Ā 0) (mC (.str "sail")))) (au (č (ċ Dj (ā 1 Ĉ)))))
 (Ġ (ł (bM "Sail" uO (ā 0 (ā 1 Ĉ)))))
 dz)
 (ę (cJ (jk (fj (ą ŝ (Ā 0) (mC (.str "cloth")))) (au (č (ċ wW (ā 1 Ĉ)))))
 (Ġ (ł (bM "Cloth" pq (ā 0 (ā 1 Ĉ)))))
 dz)
 (ę (cJ (jk (fj (ą ŝ (Ā 0) (mC (.str "house")))) (au (č (ċ Dj (ā 1 Ĉ)))))
 (Ġ (ł (bM "House" pA (ā 0 (ā 1 Ĉ)))))
 dz)
 KJ)))))
def bh:MF:=Ĳ 2 2 iW
def zH:M Fl:=(ę (cJ (fj (ą tY (Ā 1) (bY jm (ă (Ā 0) ĕ))))
 (Ġ (ł (ą Ė (Ā 0) (Ā 1))))
 dz)
 (Ġ (ł (mC (.int 0)))))
def Ţ:MF:=Ĳ 2 2 zH
def Hi:M Fl:=(ę (ģ 1 (Ń [] 1 (ŋ 0) (gN 0) ı (ą Ė (Ā 0) (mC (.int 0)))))
 (ę (ģ 2 (Ń [] 1 (ŋ 0) (gN 0) ı (ą Ė (Ā 0) (mC (.int 1)))))
 (Ġ (ŭ (ă (Ŀ (ă (mC (.int 1)) (ă (mC (.int 0)) (ă (bY cB (ă (Ā 1) ĕ)) ĕ)))) (ă (Ŀ (ă (fU gj (mC (.int 1))) (ă (mC (.int 0)) (ă (fU gj (bY rG (ă (Ā 1) ĕ))) ĕ)))) (ă (Ŀ (ă (mC (.int 0)) (ă (mC (.int 1)) (ă (bY cB (ă (Ā 2) ĕ)) ĕ)))) (ă (Ŀ (ă (mC (.int 0)) (ă (fU gj (mC (.int 1))) (ă (fU gj (bY rG (ă (Ā 2) ĕ))) ĕ)))) ĕ))))))))
def BJ:MF:=Ĳ 1 3 Hi
def kE:M Fl:=(cJ (fj (ą (inD true) (Ā 2) (Ā 1)))
 (yU 1 (ě 2))
 dz)
def Hj:M Fl:=(ę (ģ 1 (ŭ ĕ))
 (ę (fu (ŋ 0) (gN 2) kE)
 (Ġ (b_ 1))))
def BK:MF:=Ĳ 1 3 Hj
def Hl:M Fl:=(ę (ģ 2 (ł (ą Ŋ (ą Ė (Ā 1) (mC (.int 1))) (ą Ė (Ā 0) (mC (.int 1))))))
 (ę (ģ 3 (ł (ą Ŋ (ą Ė (Ā 0) (mC (.int 0))) (ą Ė (Ā 1) (mC (.int 0))))))
 (Ġ (ł (Ŀ (ă (ě 2) (ă (ě 3) (ă (č (į ĭ (ą Ģ (Ā 2) (ą Ė (Ā 0) (mC (.int 0)))) (ą Ģ (Ā 3) (ą Ė (Ā 0) (mC (.int 1)))))) ĕ))))))))
def BL:MF:=Ĳ 2 4 Hl
def Ho:M Fl:=(Ġ (ł (ą tZ (č (į ĭ (ą Ģ (ą Ė (Ā 0) (mC (.int 0))) (ą Ė (Ā 1) (mC (.int 0)))) (ą Ģ (ą Ė (Ā 0) (mC (.int 1))) (ą Ė (Ā 1) (mC (.int 1)))))) (ą Ė (Ā 0) (mC (.int 2))))))
def pB:MF:=Ĳ 2 2 Ho
def kI:M Fl:=(ę (ģ 5 (ċ BL (ā 3 (ā 4 Ĉ))))
 (cJ (jk (fj (ą cL (Ā 3) (Ā 4))) (au (bY jW (ă (č (Ń [5] 1 (ŋ 2) (gN 1) ı (č (ċ pB (ā 0 (ā 1 Ĉ)))))) ĕ))))
 (yU 1 (ě 5))
 dz))
def uP:M Fl:=(fu (ŋ 2) (gN 4) kI)
def Hq:M Fl:=(ę (ģ 1 (ŭ ĕ))
 (ę (ģ 2 (ċ BK (ā 0 Ĉ)))
 (ę (fu (ŋ 2) (gN 3) uP)
 (Ġ (b_ 1)))))
def BP:MF:=Ĳ 1 6 Hq
def Hr:M Fl:=(Ġ (į ĭ (č (ċ BJ (ā 0 Ĉ))) (č (ċ BP (ā 0 Ĉ)))))
def wX:MF:=Ĳ 1 1 Hr
def uQ:M Fl:=(cJ (aB (au (č (ċ pB (ā 2 (ā 1 Ĉ))))))
 (Ġ (b_ 2))
 dz)
def zJ:M Fl:=(ę (fu (ŏ (č (ċ wX (ā 0 Ĉ)))) (gN 2) uQ)
 (Ġ (ł (mC .non))))
def wY:MF:=Ĳ 2 3 zJ
def pC:M Fl:=(zp 1 (Ń [2] 1 (ſ aQ (ă (ě 2) ĕ)) (gN 1) ı (Ŀ (ă (ě 1) (ă (ě 0) ĕ)))))
def Hs:M Fl:=(ę (ģ 1 (ŭ ĕ))
 (ę (fu (ſ aQ (ă (ě 0) ĕ)) (gN 2) pC)
 (Ġ (b_ 1))))
def wZ:MF:=Ĳ 1 3 Hs
def pD:M Fl:=(zp 1 (Ń [2] 1 (ŏ (č (ċ wZ (ā 2 Ĉ)))) (gN 1) ı (Ŀ (ă (ą Ė (Ā 1) (mC (.int 0))) (ă (ą Ė (Ā 1) (mC (.int 1))) (ă (ě 0) ĕ))))))
def Ht:M Fl:=(ę (ģ 1 (ŭ ĕ))
 (ę (fu (ſ aQ (ă (ě 0) ĕ)) (gN 2) pD)
 (Ġ (b_ 1))))
def BR:MF:=Ĳ 1 3 Ht
def Qn:M Fl:=(Š (fj (ą cL (Ā 1) (mC (.int 0))))
 (ę (ģ 2 (ł (ą ŀ (Ā 0) (Ā 1))))
 (ę (ģ 0 (ł (ě 1)))
 (ģ 1 (ł (ě 2))))))
def Qo:M Fl:=(ę Qn
 (Ġ (ł (bY Lg (ă (Ā 0) ĕ)))))
def L_:MF:=Ĳ 2 3 Qo
def zK:M Fl:=(ę (cJ (fj (ą ŝ (Ā 1) (mC (.int 0))))
 KJ
 dz)
 (ę (ģ 2 (ċ L_ (ā 0 (ā 1 Ĉ))))
 (ę (cJ (fj (ą tY (Ā 1) (mC (.int 0))))
 (ģ 2 (ł (fU gj (Ā 2))))
 dz)
 (Ġ (ł (Ŀ (ă (ą ŧ (Ā 0) (Ā 2)) (ă (ą ŧ (Ā 1) (Ā 2)) ĕ))))))))
def lC:MF:=Ĳ 2 3 zK
def uR:M Fl:=(yR 4 (ě 6) (č (ċ lC (ā 5 (ā 3 Ĉ)))))
def pF:M Fl:=(ę (ģ 3 (ł (bY zj (ă (Ā 0) ĕ))))
 (ę (ģ 4 (Ń [3] 1 (ſ aQ (ă (ě 2) ĕ)) (gN 1) ı (č (ċ lC (Ċ (mC (.int 0)) (ā 0 Ĉ))))))
 (ę (fu (Dc (GC 0) (GC 1)) (gT 2 (ġ (gN 5) (ġ (gN 6) ŷ))) uR)
 (Ġ (b_ 4)))))
def jx:MF:=Ĳ 3 7 pF
def Hv:M Fl:=(ę (ģ 3 (ł (ą Ģ (ą Ŋ (ą Ė (Ā 1) (mC (.int 0))) (ą Ė (Ā 0) (mC (.int 0)))) (ą Ŋ (ą Ė (Ā 2) (mC (.int 1))) (ą Ė (Ā 0) (mC (.int 1)))))))
 (Ġ (ł (ą Ŋ (Ā 3) (ą Ģ (ą Ŋ (ą Ė (Ā 1) (mC (.int 1))) (ą Ė (Ā 0) (mC (.int 1)))) (ą Ŋ (ą Ė (Ā 2) (mC (.int 0))) (ą Ė (Ā 0) (mC (.int 0)))))))))
def rT:MF:=Ĳ 3 4 Hv
def Qp:M Fl:=(ę (ģ 2 (ł (ą Ė (Ā 0) (mC (.int 0)))))
 (ę (ģ 3 (ł (ą Ė (Ā 0) (mC (.int 1)))))
 (ę (ģ 4 (ł (ą Ė (Ā 0) (mC (.int 2)))))
 (Ġ (ŭ (ă (č (ċ rT (ā 1 (ā 3 (ā 4 Ĉ))))) (ă (č (ċ rT (ā 2 (ā 1 (ā 4 Ĉ))))) (ă (č (ċ rT (ā 2 (ā 3 (ā 1 Ĉ))))) ĕ))))))))
def Ma:MF:=Ĳ 2 5 Qp
def zL:M Fl:=(ę (ģ 1 (ł (bY zj (ă (Ā 0) ĕ))))
 (Ġ (ł (cX (ą cL (Ā 1) (mC (.int 0))) (bY jW (ă (č (Ń [1] 1 (ŋ 0) (gN 1) ı (ą FT (ą Ģ (Ā 1) (Ā 0)) (mC (.int 0))))) ĕ))))))
def rW:MF:=Ĳ 1 2 zL
def Qq:M Fl:=(ę (ģ 2 (ł (ą Ŋ (ą Ė (ą Ė (Ā 0) (mC (.int 1))) (mC (.int 0))) (ą Ė (ą Ė (Ā 0) (mC (.int 0))) (mC (.int 0))))))
 (ę (ģ 3 (ł (ą Ŋ (ą Ė (ą Ė (Ā 0) (mC (.int 1))) (mC (.int 1))) (ą Ė (ą Ė (Ā 0) (mC (.int 0))) (mC (.int 1))))))
 (ę (ģ 4 (į ĭ (ą Ģ (Ā 2) (ą Ŋ (ą Ė (Ā 1) (mC (.int 0))) (ą Ė (ą Ė (Ā 0) (mC (.int 0))) (mC (.int 0))))) (ą Ģ (Ā 3) (ą Ŋ (ą Ė (Ā 1) (mC (.int 1))) (ą Ė (ą Ė (Ā 0) (mC (.int 0))) (mC (.int 1)))))))
 (Ġ (ŭ (ă (ą Ŋ (č (į ĭ (ą Ģ (Ā 2) (Ā 2)) (ą Ģ (Ā 3) (Ā 3)))) (Ā 4)) (ă (ě 4) ĕ)))))))
def Mf:MF:=Ĳ 2 5 Qq
def uT:M Fl:=(ę (ģ 4 (ċ Mf (Ċ (č (Ń [0] 1 (ŋ 3) (gN 1) ı (ą Ė (Ā 0) (Ā 1)))) (ā 1 Ĉ))))
 (cJ (au (č (ċ rW (ā 4 Ĉ))))
 (Ġ (ċ jx (ā 4 (ā 3 (ā 2 Ĉ)))))
 dz))
def uU:M Fl:=(ę (ģ 4 (ċ Ma (Ċ (č (Ń [0] 1 (ŋ 3) (gN 1) ı (ą Ė (Ā 0) (Ā 1)))) (ā 1 Ĉ))))
 (cJ (au (č (ċ rW (ā 4 Ĉ))))
 (Ġ (ċ jx (ā 4 (ā 3 (ā 2 Ĉ)))))
 dz))
def uV:M Fl:=(ę (ģ 2 (ł (bY jm (ă (Ā 0) ĕ))))
 (ę (fu (ŏ (č (ċ BR (ā 2 Ĉ)))) (gN 3) uU)
 (ę (fu (ŏ (č (ċ wZ (ā 2 Ĉ)))) (gN 3) uT)
 (Ġ (ċ jx (Ċ (č (ŭ (ă (mC (.int 1)) ĕ))) (Ċ (č (ŭ (ă (mC (.int 0)) ĕ))) (ā 2 Ĉ))))))))
def rY:MF:=Ĳ 2 5 uV
def zM:M Fl:=(ę (ģ 2 (ċ wY (ā 0 (ā 1 Ĉ))))
 (ę (cJ (fj (ą CP (Ā 2) (mC .non)))
 (Ġ (ł (Ŀ (ă (mC (.str "in")) (ă (č (ċ rY (ā 0 (ā 1 Ĉ)))) ĕ)))))
 dz)
 (Ġ (ł (Ŀ (ă (mC (.str "out")) (ă (ě 2) ĕ)))))))
def xg:MF:=Ĳ 2 3 zM
def Hw:M Fl:=(Ġ (ł (Ŀ (ă (č (į ĭ (ą Ģ (ą Ė (Ā 1) (mC (.int 2))) (ą Ė (Ā 0) (mC (.int 0)))) (ą Ģ (ą Ė (Ā 1) (mC (.int 0))) (ą Ė (Ā 0) (mC (.int 2)))))) (ă (č (į ĭ (ą Ģ (ą Ė (Ā 1) (mC (.int 2))) (ą Ė (Ā 0) (mC (.int 1)))) (ą Ģ (ą Ė (Ā 1) (mC (.int 1))) (ą Ė (Ā 0) (mC (.int 2)))))) ĕ)))))
def pG:MF:=Ĳ 2 2 Hw
def Qs:M Fl:=(Ġ (ŭ (ă (Ŀ (ă (ě 0) (ă (ě 1) (ă (ě 4) ĕ)))) (ă (Ŀ (ă (ě 2) (ă (ě 1) (ă (ě 4) ĕ)))) (ă (Ŀ (ă (ě 2) (ă (ě 3) (ă (ě 4) ĕ)))) (ă (Ŀ (ă (ě 0) (ă (ě 3) (ă (ě 4) ĕ)))) ĕ))))))
def Dk:MF:=Ĳ 5 5 Qs
def Qt:M Fl:=(Ġ (į ĭ (č (ċ Dk (ā 0 (ā 1 (ā 2 (ā 3 (Ċ (mC (.int 0)) Ĉ))))))) (č (ċ Dk (ā 0 (ā 1 (ā 2 (ā 3 (ā 4 Ĉ)))))))))
def Hx:MF:=Ĳ 5 5 Qt
def Hy:M Fl:=(ę (ģ 1 (ł (ą Ģ (mC (.int 2)) (ą Ė (fU (œ ["Thing","Post","Fence","Sail","Cloth","House"] "numbers") (Ā 0)) (mC (.int 0))))))
 (ę (ģ 2 (ł (ą Ģ (mC (.int 2)) (ą Ė (fU (œ ["Thing","Post","Fence","Sail","Cloth","House"] "numbers") (Ā 0)) (mC (.int 1))))))
 (Ġ (ċ Hx (Ċ (ą Ŋ (Ā 1) (mC (.int 1))) (Ċ (ą Ŋ (Ā 2) (mC (.int 1))) (Ċ (č (į ĭ (Ā 1) (mC (.int 1)))) (Ċ (č (į ĭ (Ā 2) (mC (.int 1)))) (Ċ (ą Ė (fU (œ ["Thing","Post","Fence","Sail","Cloth","House"] "numbers") (Ā 0)) (mC (.int 2))) Ĉ)))))))))
def lE:MF:=Ĳ 1 3 Hy
def Hz:M Fl:=(ę (ģ 1 (ł (fU (œ ["Thing","Post","Fence","Sail","Cloth","House"] "numbers") (Ā 0))))
 (ę (ģ 2 (ł (Ŀ (ă (ą Ė (Ā 1) (mC (.int 0))) (ă (ą Ė (Ā 1) (mC (.int 1))) ĕ)))))
 (ę (ģ 3 (ł (Ŀ (ă (ą Ė (Ā 1) (mC (.int 2))) (ă (ą Ė (Ā 1) (mC (.int 3))) ĕ)))))
 (Ġ (ŭ (ă (č (į ĭ (Ā 2) (Ŀ (ă (mC (.int 0)) ĕ)))) (ă (č (į ĭ (Ā 3) (Ŀ (ă (mC (.int 0)) ĕ)))) (ă (č (į ĭ (Ā 3) (Ŀ (ă (ą Ė (Ā 1) (mC (.int 4))) ĕ)))) (ă (č (į ĭ (Ā 2) (Ŀ (ă (ą Ė (Ā 1) (mC (.int 4))) ĕ)))) ĕ)))))))))
def lF:MF:=Ĳ 1 4 Hz
def HB:M Fl:=(ę (ģ 1 (ł (fU (œ ["Thing","Post","Fence","Sail","Cloth","House"] "numbers") (Ā 0))))
 (Ġ (ċ Dk (Ċ (ą Ė (Ā 1) (mC (.int 0))) (Ċ (ą Ė (Ā 1) (mC (.int 1))) (Ċ (ą Ė (Ā 1) (mC (.int 2))) (Ċ (ą Ė (Ā 1) (mC (.int 3))) (Ċ (ą Ė (Ā 1) (mC (.int 4))) Ĉ))))))))
def lG:MF:=Ĳ 1 2 HB
def HD:M Fl:=(Ġ (Ń [0] 1 (ŏ (Ŀ (ă (mC (.int 0)) (ă (mC (.int 3)) (ă (mC (.int 6)) ĕ))))) (gN 1) ı (bY oH (ă (č (Gb (fU (œ ["Thing","Post","Fence","Sail","Cloth","House"] "numbers") (Ā 0)) (mP (ě 1)) (mP (č (į ĭ (Ā 1) (mC (.int 3))))))) ĕ))))
def lH:MF:=Ĳ 1 1 HD
def HF:M Fl:=(ę (ģ 1 (ł (fU (œ ["Thing","Post","Fence","Sail","Cloth","House"] "numbers") (Ā 0))))
 (Ġ (ċ Hx (Ċ (ą Ė (Ā 1) (mC (.int 0))) (Ċ (ą Ė (Ā 1) (mC (.int 1))) (Ċ (ą Ė (Ā 1) (mC (.int 2))) (Ċ (ą Ė (Ā 1) (mC (.int 3))) (Ċ (ą Ė (Ā 1) (mC (.int 4))) Ĉ))))))))
def lJ:MF:=Ĳ 1 2 HF
def HJ:M Fl:=(Ġ (Ń [1] 1 (ŏ (č (dg "corners" [("Post",lE),("Fence",lF),("Sail",lG),("Cloth",lH),("House",lJ)] (ě 0) Ĉ))) (gN 1) ı (č (ċ pG (ā 1 (ā 0 Ĉ))))))
def rZ:MF:=Ĳ 2 2 HJ
def HN:M Fl:=(Ġ (ċ pG (Ċ (Ŀ (ă (ą Ģ (mC (.int 2)) (ą Ė (Ā 0) (mC (.int 0)))) (ă (ą Ģ (mC (.int 2)) (ą Ė (Ā 0) (mC (.int 1)))) (ă (mC (.int 0)) ĕ)))) (ā 1 Ĉ))))
def BW:MF:=Ĳ 2 2 HN
def HS:M Fl:=(Ġ (ċ xg (Ċ (č (ċ rZ (ā 0 (ā 2 Ĉ)))) (Ċ (č (ċ BW (ā 1 (ā 2 Ĉ)))) Ĉ))))
def BX:MF:=Ĳ 3 3 HS
def zN:M Fl:=(Ġ (ł (ą ŝ (ą Ė (č (ċ BX (ā 0 (ā 1 (ā 2 Ĉ))))) (mC (.int 0))) (mC (.str "in")))))
def su:MF:=Ĳ 3 3 zN
def iY:M Fl:=(cJ (au (č (ċ su (ā 1 (Ċ (Ŀ (ă (ě 5) (ă (ě 4) ĕ))) (ā 2 Ĉ))))))
 (ģ 3 (į ĭ (Ā 3) (ą jl (mC (.int 1)) (č (į ĭ (ą Ģ (Ā 4) (ą Ė (Ā 0) (mC (.int 0)))) (Ā 5))))))
 dz)
def kJ:M Fl:=(fu (ſ aQ (ă (ą Ė (Ā 0) (mC (.int 0))) ĕ)) (gN 5) iY)
def HW:M Fl:=(ę (ģ 3 (ł (mC (.int 0))))
 (ę (fu (ſ aQ (ă (ą Ė (Ā 0) (mC (.int 1))) ĕ)) (gN 4) kJ)
 (Ġ (b_ 3))))
def gC:MF:=Ĳ 3 6 HW
def HX:M Fl:=(Ġ (ł (cX (bY uh (ă (Ā 0) (ă (mC (.ty "int")) ĕ))) (Wi (bY uh (ă (Ā 0) (ă (mC (.ty "bool")) ĕ)))))))
def sy:MF:=Ĳ 1 1 HX
def HY:M Fl:=(Ġ (ł (cX (č (ċ sy (ā 0 Ĉ))) (ą ŝ (Ā 0) (Ā 1)))))
def aC:MF:=Ĳ 2 2 HY
def H_:M Fl:=(Ġ (ł (mBM wG (mC (.str " ")) (ă (č (į ĭ (č (ŭ (ă (fU (œ ["Thing","Post","Fence","Sail","Cloth","House"] "word") (Ā 0)) ĕ))) (č (Ń [] 1 (ŏ (fU (œ ["Thing","Post","Fence","Sail","Cloth","House"] "numbers") (Ā 0))) (gN 0) ı (bY CW (ă (Ā 0) ĕ)))))) ĕ))))
def Ĩ:MF:=Ĳ 1 1 H_
def Ia:M Fl:=(ę (cJ (yQ (aB (au (č (ċ sy (Ċ (fU (œ ["Yard"] "width") (Ā 0)) Ĉ))))) (yQ (aB (au (č (ċ sy (Ċ (fU (œ ["Yard"] "height") (Ā 0)) Ĉ))))) (fj (ą cL (Ŀ (ă (fU (œ ["Yard"] "width") (Ā 0)) (ă (fU (œ ["Yard"] "height") (Ā 0)) ĕ))) (Ā 1)))))
 (Ġ (ł (mC (.bl false))))
 dz)
 (ę (cJ (yQ (aB (au (bY uh (ă (fU (œ ["Yard"] "things") (Ā 0)) (ă (mC (.ty "list")) ĕ))))) (fj (ą cL (bY jm (ă (fU (œ ["Yard"] "things") (Ā 0)) ĕ)) (bY jm (ă (Ā 2) ĕ)))))
 (Ġ (ł (mC (.bl false))))
 dz)
 (ę (cJ (fj (ą cL (č (Ń [] 1 (ŏ (fU (œ ["Yard"] "things") (Ā 0))) (gN 0) ı (č (dg "shown" [("Thing",Ĩ),("Post",Ĩ),("Fence",Ĩ),("Sail",Ĩ),("Cloth",Ĩ),("House",Ĩ)] (ě 0) Ĉ)))) (č (Ń [] 1 (ŋ 2) (gN 0) ı (č (dg "shown" [("Thing",Ĩ),("Post",Ĩ),("Fence",Ĩ),("Sail",Ĩ),("Cloth",Ĩ),("House",Ĩ)] (ě 0) Ĉ))))))
 (Ġ (ł (mC (.bl false))))
 dz)
 (Ġ (ł (cX (bY uh (ă (fU (œ ["Yard"] "days") (Ā 0)) (ă (mC (.ty "list")) ĕ))) (ą ŝ (fU (œ ["Yard"] "days") (Ā 0)) (č (ŭ (ă (Ŀ (ă (mC (.str "ab")) (ă (mC (.int 3)) (ă (č (ŭ (ă (ě 3) (ă (mC .non) ĕ)))) ĕ)))) (ă (Ŀ (ă (mC (.str "a")) (ă (mC (.int 1)) (ă (č (ŭ (ă (mC .non) ĕ))) ĕ)))) ĕ)))))))))))
def lK:MF:=Ĳ 4 4 Ia
def zO:M Fl:=(ę (cJ (fj (ą tY (Ā 1) (Ā 0)))
 (Ġ (ł (mC (.int 0))))
 dz)
 (Ġ (ł (ą Ŋ (ą jl (mC (.int 1)) (č (į ĭ (Ā 1) (mC (.int 1))))) (ą jl (mC (.int 1)) (Ā 0))))))
def sE:MF:=Ĳ 2 2 zO
def cM:M Fl:=(ę (ģ 9 (ł (ą Ģ (Ā 6) (Ā 1))))
 (ę (ģ 10 (ł (ą Ŋ (Ā 8) (ą Ģ (ą Ģ (Ā 7) (Ā 1)) (Ā 2)))))
 (cJ (fj (ą Le (Ā 9) (mC (.int 0))))
 (ģ 5 (ł (bY q_ (ă (Ā 5) (ă (ą ŧ (Ā 10) (Ā 9)) ĕ)))))
 (cJ (fj (ą tY (Ā 9) (mC (.int 0))))
 (ģ 4 (ł (bY Bs (ă (Ā 4) (ă (fU gj (ą ŧ (Ā 10) (fU gj (Ā 9)))) ĕ)))))
 (cJ (fj (ą tY (Ā 10) (mC (.int 0))))
 (Ġ (ł (mC (.int 0))))
 dz)))))
def zP:M Fl:=(ę (ģ 4 (ł (mC (.int 0))))
 (ę (ģ 5 (ł (ą Ŋ (Ā 3) (mC (.int 1)))))
 (ę (fu (ŋ 0) (gT 3 (ġ (gN 6) (ġ (gN 7) (ġ (gN 8) ŷ)))) cM)
 (Ġ (ċ sE (ā 4 (ā 5 Ĉ)))))))
def xq:MF:=Ĳ 4 11 zP
def uW:M Fl:=(wI 4 (ą jl (č (ċ xq (ā 3 (Ċ (ą Ģ (mC (.int 2)) (ą Ė (Ā 2) (mC (.int 2)))) (ā 5 (Ċ (fU (œ ["Yard"] "width") (Ā 0)) Ĉ)))))) (ą Ģ (Ā 5) (fU (œ ["Yard"] "width") (Ā 0)))))
def Ib:M Fl:=(ę (ģ 3 (ċ wX (Ċ (č (ċ rZ (ā 1 (ā 2 Ĉ)))) Ĉ)))
 (ę (ģ 4 (ł (mC (.int 0))))
 (ę (fu (ſ aQ (ă (fU (œ ["Yard"] "height") (Ā 0)) ĕ)) (gN 5) uW)
 (Ġ (b_ 4)))))
def cD:MF:=Ĳ 3 6 Ib
def Qu:M Fl:=(Ġ (Ń [0,1] 1 (ŏ (fU (œ ["Yard"] "things") (Ā 0))) (gN 2) ı (č (ċ cD (ā 0 (ā 2 (ā 1 Ĉ)))))))
def Mg:MF:=Ĳ 2 2 Qu
def zQ:M Fl:=(wI 2 (ě 3))
def zR:M Fl:=(ę (cJ (fj (ą CP (Ā 1) (mC .non)))
 (Ġ (ċ sE (Ċ (mC (.int 0)) (Ċ (ą Ŋ (ą Ģ (fU (œ ["Yard"] "width") (Ā 0)) (fU (œ ["Yard"] "height") (Ā 0))) (mC (.int 1))) Ĉ))))
 dz)
 (ę (ģ 2 (ł (mC (.int 0))))
 (ę (fu (ŏ (č (ċ Mg (ā 0 (ā 1 Ĉ))))) (gN 3) zQ)
 (Ġ (b_ 2)))))
def Ź:MF:=Ĳ 2 4 zR
def uX:M Fl:=(ę (ģ 1 (ċ eG (Ċ (č (ċ Ţ (ā 0 (Ċ (mC (.int 0)) Ĉ)))) (Ċ (mC (.int 12)) Ĉ))))
 (ę (ģ 2 (ċ oZ (Ċ (č (ċ Ţ (ā 0 (Ċ (mC (.int 1)) Ĉ)))) Ĉ)))
 (ę (ģ 3 (Ń [1] 1 (ŏ (č (Gb (Ā 0) (mP (mC (.int 2))) (mP (mC (.int 7)))))) (gN 1) ı (č (ċ bO (ā 1 (Ċ (bY cB (ă (Ā 0) ĕ)) Ĉ))))))
 (ę (cJ (fj (ą ŝ (ą ŀ (ą ŧ (č (ċ Ţ (ā 0 (Ċ (mC (.int 1)) Ĉ)))) (mC (.int 7))) (mC (.int 16))) (mC (.int 9))))
 (ę (ģ 1 (ł (ą Ė (č (ŭ (ă (Ŀ (ă (mC (.int 20)) (ă (mC (.int 2)) ĕ))) (ă (Ŀ (ă (mC (.int 7)) (ă (mC (.int 6)) ĕ))) ĕ)))) (ą ŀ (ą ŧ (č (ċ Ţ (ā 0 (Ċ (mC (.int 1)) Ĉ)))) (mC (.int 112))) (mC (.int 2))))))
 (ģ 3 (Gb (Ā 3) CQ (mP (mC (.int 1))))))
 dz)
 (ę (ģ 4 (Ń [] 2 (ŋ 3) (gT 2 (ġ (gN 0) (ġ (gN 1) ŷ))) ı (č (ċ bh (ā 0 (Ċ (č (iR bf (ă (Ā 1) ĕ))) Ĉ))))))
 (m31 4 5 6 7 2 1 "Yard" aM (aB (au (č (ċ lK (ā 7 (ā 1 (ā 4 (ā 2 Ĉ))))))))
 (Ġ (ł (mC (.bl false))))
 (ę (ģ 8 (Ń [1,2] 1 (ŋ 4) (gN 2) ı (č (ċ gC (ā 0 (ā 2 (ā 1 Ĉ)))))))
 (ę (ģ 9 (ċ rN (ā 8 Ĉ)))
 (ę (cJ (yQ (aB (au (č (ċ aC (Ċ (č (ċ Ź (ā 7 (Ċ (mC .non) Ĉ)))) (Ċ (ą Ŋ (ą jl (mC (.int 1)) (ą Ģ (ą Ė (Ā 1) (mC (.int 0))) (ą Ė (Ā 1) (mC (.int 1))))) (mC (.int 1))) Ĉ)))))) (aB (au (č (ċ aC (Ċ (č (ċ Ź (ā 7 (ā 2 Ĉ)))) (ā 9 Ĉ)))))))
 (Ġ (ł (mC (.bl false))))
 dz)
 (ę (cJ (aB (au (bY jW (ă (č (Ń [7,2,8,4] 1 (ſ aQ (ă (bY jm (ă (Ā 4) ĕ)) ĕ)) (gN 4) ı (č (ċ aC (Ċ (č (ċ cD (ā 0 (Ċ (ą Ė (Ā 3) (Ā 4)) (ā 1 Ĉ))))) (Ċ (ą Ė (Ā 2) (Ā 4)) Ĉ)))))) ĕ))))
 (Ġ (ł (mC (.bl false))))
 dz)
 (ę (CK (gS 2 (ġ (gN 12) (ġ (gN 13) ŷ))) (č (ċ bO (Ċ (č (ċ Ţ (ā 0 (Ċ (mC (.int 7)) Ĉ)))) (Ċ (bY cB (ă (Ā 1) ĕ)) Ĉ)))))
 (ę (ģ 10 (ċ bh (ā 12 (Ċ (č (iR bf (ă (Ā 13) ĕ))) Ĉ))))
 (ę (cJ (aB (au (č (ċ aC (Ċ (č (ċ cD (ā 7 (ā 10 (ā 2 Ĉ))))) (Ċ (č (ċ gC (ā 1 (ā 10 (ā 2 Ĉ))))) Ĉ))))))
 (Ġ (ł (mC (.bl false))))
 dz)
 (ę (ģ 11 (ł (bM "Yard" aM (Ċ (ą Ė (Ā 1) (mC (.int 0))) (Ċ (ą Ė (Ā 1) (mC (.int 1))) (Ċ (č (Lx (Ā 4))) (Ċ (č (ŭ ĕ)) Ĉ)))))))
 (ę (cJ (aB (au (č (ċ aC (Ċ (č (ċ Ź (ā 11 (ā 2 Ĉ)))) (ā 9 Ĉ))))))
 (Ġ (ł (mC (.bl false))))
 dz)
 (Ġ (ł (cX (č (ċ aC (Ċ (č (ċ Ź (ā 7 (ā 2 Ĉ)))) (ā 9 Ĉ)))) (č (ċ lK (ā 7 (ā 1 (ā 4 (ā 2 Ĉ))))))))))))))))))))))))
def sG:MF:=Ĳ 1 14 uX
set_option genInjectivity false
set_option genSizeOf false
structure Ie where
 {Qv Qw Qx Xh Qy Qz QB QC QD QF QG mj QH QJ ZbB ZbC QK QL QM QS QT QV QW QX QZ Q_ Ra Rb ZbD Rf Rg Rh ZbE Ri ZbF Rj Rk Rm ZbG ZbH Ig Ih Ii Ij Ik Rn Ro Rq Rr Rt Ru Rv lM Rw Rx Ry Rz ZbI RD RG nj zT uY zU uZ u_ zV:Addr}
 {RJ RK RL ZbJ RM RN RP RQ RT RW RX Dl RZ R_ ZbK ZbL Sd Sg Sh Sq Ss Sv Sw Sx Sy SJ SM SN ZbM SQ SX S_ ZbN Tc ZbO Td Te Tf ZbP ZbQ Ti Tj Tn Tp Tq Tr Tt Tw Tz TF TJ TQ TV TX TY T_ Ua ZbR Ub Il:FuncData}
 {qG vd:Tok}
def Ĵ(a:Ie):String->Addr:=cmB a.nj a.zT a.uY a.zU a.uZ a.u_ a.zV
structure Tx(K:PySem.W.Frag)(mg:Str->Option Value)(a:Ie):Prop where
 ZcB:mg "Thing" =some (.ref a.nj)
 Xi:mg "Post" =some (.ref a.zT)
 Mh:mg "Fence" =some (.ref a.uY)
 Xj:mg "Sail" =some (.ref a.zU)
 Mi:mg "Cloth" =some (.ref a.uZ)
 Mj:mg "House" =some (.ref a.u_)
 Xk:mg "Yard" =some (.ref a.zV)
 lN:Df K mg "_law_size" Oa ["_law_cell","_law_most"] a.Qv a.RJ
 cO:Df K mg "_law_grains" Ob ["_law_cell","_law_many"] a.Qw a.RK
 pH:Df K mg "_law_ray" Oc ["_law_cell"] a.Qx a.RL
 aW:Dm K a.zV "__init__" "Yard.__init__" Xg ["self","width","height","things","days"] a.Xh a.ZbJ
 lO:Df K mg "_law_laid" Od ["_law_sets"] a.Qy a.RM
 cP:Df K mg "_law_height" Oe ["_law_number"] a.Qz a.RN
 ť:Df K mg "_law_place" Og ["_law_number","_law_wide"] a.QB a.RP
 dX:Df K mg "_law_thing" Oh ["_law_cell","_law_wide"] a.QC a.RQ
 aH:Df K mg "is_place" Oi ["number"] a.QD a.RT
 gF:Df K mg "is_height" Oj ["number"] a.QF a.RW
 jy:Df K mg "makes_post" Ol ["numbers"] a.QG a.RX
 ī:Dm K a.nj "__init__" "Thing.__init__" Zbs ["self","word","numbers"] a.mj a.Dl
 bQ:Df K mg "has_two_ends" Om ["numbers"] a.QH a.RZ
 iB:Df K mg "makes_fence" Oo ["numbers"] a.QJ a.R_
 ř:Df K mg "makes_sail_or_house" Zbt ["numbers"] a.ZbB a.ZbK
 cF:Df K mg "is_cloth_corner" Zbu ["numbers"] a.ZbC a.ZbL
 iC:Df K mg "makes_cloth" Oq ["numbers"] a.QK a.Sd
 iZ:Df K mg "thing_of" Ot ["word","numbers"] a.QL a.Sg
 bF:Df K mg "_law_at" Ou ["_law_script","_law_k"] a.QM a.Sh
 lQ:Df K mg "box_lines" Ov ["points"] a.QS a.Sq
 lR:Df K mg "each_once" Ow ["points"] a.QT a.Ss
 gG:Df K mg "line_through" Ox ["one","other"] a.QV a.Sv
 vf:Df K mg "holds" Oz ["line","pair"] a.QW a.Sw
 jz:Df K mg "edge_lines" OD ["points"] a.QX a.Sx
 cQ:Df K mg "lines_about" OJ ["points"] a.QZ a.Sy
 gH:Df K mg "parting_line" O_ ["points","point"] a.Q_ a.SJ
 cR:Df K mg "pairs_below" Pa ["many"] a.Ra a.SM
 eO:Df K mg "triples_below" Pb ["many"] a.Rb a.SN
 bR:Df K mg "greatest_divisor" Zbv ["one","other"] a.ZbD a.ZbM
 vg:Df K mg "ratio" Ph ["top","bottom"] a.Rf a.SQ
 jA:Df K mg "spread" Pj ["shares","places","many"] a.Rg a.SX
 jB:Df K mg "turned" Pk ["one","other","third"] a.Rh a.S_
 cG:Df K mg "shares_of_three" Zbw ["corners","point"] a.ZbE a.ZbN
 cT:Df K mg "are_weights" Pn ["shares"] a.Ri a.Tc
 eU:Df K mg "shares_of_two" Zbx ["ends","point"] a.ZbF a.ZbO
 jC:Df K mg "weights_of" Pq ["points","point"] a.Rj a.Td
 Im:Df K mg "held" Pr ["points","point"] a.Rk a.Te
 zW:Df K mg "cast" Pu ["point","ray"] a.Rm a.Tf
 Ų:Df K mg "level_corners" Zby ["x","y","u","v","z"] a.ZbG a.ZbP
 aX:Df K mg "block_corners" Zbz ["x","y","u","v","h"] a.ZbH a.ZbQ
 gJ:Dm K a.zT "corners" "Post.corners" Px ["self"] a.Ig a.Ti
 eV:Dm K a.uY "corners" "Fence.corners" Py ["self"] a.Ih a.Tj
 gK:Dm K a.zU "corners" "Sail.corners" Pz ["self"] a.Ii a.Tn
 eX:Dm K a.uZ "corners" "Cloth.corners" PJ ["self"] a.Ij a.Tp
 eY:Dm K a.u_ "corners" "House.corners" PK ["self"] a.Ik a.Tq
 bT:Df K mg "corner_casts" PL ["thing","ray"] a.Rn a.Tr
 jD:Df K mg "stone_cast" PN ["stone","ray"] a.Ro a.Tt
 sI:Df K mg "shading" P_ ["thing","stone","ray"] a.Rq a.Tw
 xr:Df K mg "shades" Qa ["thing","stone","ray"] a.Rr a.Tz
 i_:Df K mg "_law_set" Qc ["_law_size_here","_law_thing_here","_law_ray_here"] a.Rt a.TF
 bB:Df K mg "_law_whole" Qd ["_law_found"] a.Ru a.TJ
 Ŗ:Df K mg "_law_right" Qe ["_law_found","_law_due"] a.Rv a.TQ
 Ĭ:Dm K a.nj "shown" "Thing.shown" Qf ["self"] a.lM a.TV
 cU:Df K mg "_law_fields" Qg ["_law_yard","_law_size_here","_law_things","_law_ray_here"] a.Rw a.TX
 gM:Df K mg "span_bits" Qh ["first","last"] a.Rx a.TY
 pI:Df K mg "row_bits" Qi ["lines","unit","q","width"] a.Ry a.T_
 gY:Df K mg "dark_of" Qj ["yard","thing","ray"] a.Rz a.Ua
 cH:Df K mg "darks_of_things" ZbA ["yard","ray"] a.ZbI a.ZbR
 pJ:Df K mg "dark" Qk ["yard","turn"] a.RD a.Ub
 Io:Df K mg "law" Ql ["_law_script"] a.RG a.Il
 iD:mg "MOST_HEIGHT" =some (.int (1000000000) a.qG)
 jE:mg "MOST_PLACE" =some (.int (1000000000) a.vd)
 ZbS:mg "abs" =none
 xu:mg "all" =none
 Xl:mg "bool" =none
 Uc:mg "int" =none
 bC:mg "isinstance" =none
 lU:mg "len" =none
 aJ:mg "list" =none
 xG:mg "max" =none
 xH:mg "min" =none
 aN:mg "range" =none
 ZbT:mg "str" =none
 Ud:mg "sum" =none
 Ml:mg "tuple" =none
 ZbU:mg "zip" =none
 nq:Cls K (Ĵ a "Thing")
 ZcC:Mk K (Ĵ a "Thing") a.mj
 vm:Ķ K (Ĵ a "Thing") "word"
 mq:Ķ K (Ĵ a "Thing") "numbers"
 iG:Meth K (Ĵ a "Thing") "shown" a.lM
 pK:Cls K (Ĵ a "Post")
 Xm:Mk K (Ĵ a "Post") a.mj
 xJ:Ķ K (Ĵ a "Post") "word"
 pL:Ķ K (Ĵ a "Post") "numbers"
 jF:Meth K (Ĵ a "Post") "shown" a.lM
 pN:Meth K (Ĵ a "Post") "corners" a.Ig
 jG:Cls K (Ĵ a "Fence")
 Mp:Mk K (Ĵ a "Fence") a.mj
 vo:Ķ K (Ĵ a "Fence") "word"
 mz:Ķ K (Ĵ a "Fence") "numbers"
 iH:Meth K (Ĵ a "Fence") "shown" a.lM
 mD:Meth K (Ĵ a "Fence") "corners" a.Ih
 pO:Cls K (Ĵ a "Sail")
 Xn:Mk K (Ĵ a "Sail") a.mj
 xK:Ķ K (Ĵ a "Sail") "word"
 pP:Ķ K (Ĵ a "Sail") "numbers"
 jH:Meth K (Ĵ a "Sail") "shown" a.lM
 pQ:Meth K (Ĵ a "Sail") "corners" a.Ii
 jJ:Cls K (Ĵ a "Cloth")
 Mq:Mk K (Ĵ a "Cloth") a.mj
 vp:Ķ K (Ĵ a "Cloth") "word"
 mF:Ķ K (Ĵ a "Cloth") "numbers"
 iI:Meth K (Ĵ a "Cloth") "shown" a.lM
 mG:Meth K (Ĵ a "Cloth") "corners" a.Ij
 jK:Cls K (Ĵ a "House")
 Mr:Mk K (Ĵ a "House") a.mj
 vq:Ķ K (Ĵ a "House") "word"
 mH:Ķ K (Ĵ a "House") "numbers"
 iJ:Meth K (Ĵ a "House") "shown" a.lM
 mJ:Meth K (Ĵ a "House") "corners" a.Ik
 vA:Cls K (Ĵ a "Yard")
 Ip:Mk K (Ĵ a "Yard") a.Xh
 vB:Ķ K (Ĵ a "Yard") "width"
 qH:Ķ K (Ĵ a "Yard") "height"
 qI:Ķ K (Ĵ a "Yard") "things"
 xM:Ķ K (Ĵ a "Yard") "days"
def Z27{K:PySem.W.Frag}{mg:Str->Option Value}{a:Ie}(T:Tx K mg a):mg "Post" =some (.ref (Ĵ a "Post")):=T.Xi
def Z1H{K:PySem.W.Frag}{mg:Str->Option Value}{a:Ie}(T:Tx K mg a):mg "Fence" =some (.ref (Ĵ a "Fence")):=T.Mh
def Z28{K:PySem.W.Frag}{mg:Str->Option Value}{a:Ie}(T:Tx K mg a):mg "Sail" =some (.ref (Ĵ a "Sail")):=T.Xj
def Z1I{K:PySem.W.Frag}{mg:Str->Option Value}{a:Ie}(T:Tx K mg a):mg "Cloth" =some (.ref (Ĵ a "Cloth")):=T.Mi
def Z1J{K:PySem.W.Frag}{mg:Str->Option Value}{a:Ie}(T:Tx K mg a):mg "House" =some (.ref (Ĵ a "House")):=T.Mj
def Z0L{K:PySem.W.Frag}{mg:Str->Option Value}{a:Ie}(T:Tx K mg a):mg "Yard" =some (.ref (Ĵ a "Yard")):=T.Xk
def Ir:đ ["_law_cell","_law_most","_law_width"] ["_law_cell","_law_most"] (ć Oa):=Ž
def jc:đ ["_law_cell","_law_many","_law_found","_law_number","_law_k"] ["_law_cell","_law_many"] (ć Ob):=Ž
def zX:đ ["_law_cell","_law_xs","_law_scale"] ["_law_cell"] (ć Oc):=Ž
def ZbV:đ ["self","width","height","things","days"] ["self","width","height","things","days"] (ć Xg):=Ž
def vC:đ ["_law_sets","_law_found","_law_one"] ["_law_sets"] (ć Od):=Ž
def Xo:đ ["_law_number"] ["_law_number"] (ć Oe):=Ž
def Xp:đ ["_law_number","_law_wide"] ["_law_number","_law_wide"] (ć Og):=Ž
def gO:đ ["_law_cell","_law_wide","_law_xs","_law_h","_law_kind","_law_x","_law_y","_law_u","_law_v"] ["_law_cell","_law_wide"] (ć Oh):=Ž
def Xq:đ ["number"] ["number"] (ć Oi):=Ž
def Xr:đ ["number"] ["number"] (ć Oj):=Ž
def Xu:đ ["numbers"] ["numbers"] (ć Ol):=Ž
def xO:đ ["self","word","numbers"] ["self","word","numbers"] (ć Zbs):=Ž
def Xv:đ ["numbers"] ["numbers"] (ć Om):=Ž
def Xw:đ ["numbers"] ["numbers"] (ć Oo):=Ž
def ZbW:đ ["numbers"] ["numbers"] (ć Zbt):=Ž
def ZbX:đ ["numbers"] ["numbers"] (ć Zbu):=Ž
def Xx:đ ["numbers"] ["numbers"] (ć Oq):=Ž
def Xy:đ ["word","numbers"] ["word","numbers"] (ć Ot):=Ž
def Xz:đ ["_law_script","_law_k"] ["_law_script","_law_k"] (ć Ou):=Ž
def zY:đ ["points","rights","downs"] ["points"] (ć Ov):=Ž
def zZ:đ ["points","kept","point"] ["points"] (ć Ow):=Ž
def z_:đ ["one","other","l","m"] ["one","other"] (ć Ox):=Ž
def XC:đ ["line","pair"] ["line","pair"] (ć Oz):=Ž
def kO:đ ["points","lines","apart","one","other","line"] ["points"] (ć OD):=Ž
def XD:đ ["points"] ["points"] (ć OJ):=Ž
def Iu:đ ["points","point","line"] ["points","point"] (ć O_):=Ž
def Aa:đ ["many","pairs","second"] ["many"] (ć Pa):=Ž
def Ab:đ ["many","triples","third"] ["many"] (ć Pb):=Ž
def BZ:đ ["one","other","rest"] ["one","other"] (ć Zbv):=Ž
def Ac:đ ["top","bottom","divisor"] ["top","bottom"] (ć Ph):=Ž
def pR:đ ["shares","places","many","whole","weights","share","place"] ["shares","places","many"] (ć Pj):=Ž
def Iv:đ ["one","other","third","right"] ["one","other","third"] (ć Pk):=Ž
def B_:đ ["corners","point","one","other","third"] ["corners","point"] (ć Zbw):=Ž
def Iw:đ ["shares","whole"] ["shares"] (ć Pn):=Ž
def Ca:đ ["ends","point","right","down","gone"] ["ends","point"] (ć Zbx):=Ž
def kW:đ ["points","point","many","places","shares"] ["points","point"] (ć Pq):=Ž
def Iz:đ ["points","point","line"] ["points","point"] (ć Pr):=Ž
def XF:đ ["point","ray"] ["point","ray"] (ć Pu):=Ž
def ZbY:đ ["x","y","u","v","z"] ["x","y","u","v","z"] (ć Zby):=Ž
def ZbZ:đ ["x","y","u","v","h"] ["x","y","u","v","h"] (ć Zbz):=Ž
def Ad:đ ["self","right","down"] ["self"] (ć Px):=Ž
def vD:đ ["self","given","one","other"] ["self"] (ć Py):=Ž
def IK:đ ["self","given"] ["self"] (ć Pz):=Ž
def XH:đ ["self"] ["self"] (ć PJ):=Ž
def IV:đ ["self","given"] ["self"] (ć PK):=Ž
def XJ:đ ["thing","ray"] ["thing","ray"] (ć PL):=Ž
def XM:đ ["stone","ray"] ["stone","ray"] (ć PN):=Ž
def XQ:đ ["thing","stone","ray"] ["thing","stone","ray"] (ć P_):=Ž
def XR:đ ["thing","stone","ray"] ["thing","stone","ray"] (ć Qa):=Ž
def pU:đ ["_law_size_here","_law_thing_here","_law_ray_here","_law_found","_law_q","_law_p"] ["_law_size_here","_law_thing_here","_law_ray_here"] (ć Qc):=Ž
def XS:đ ["_law_found"] ["_law_found"] (ć Qd):=Ž
def X_:đ ["_law_found","_law_due"] ["_law_found","_law_due"] (ć Qe):=Ž
def Yb:đ ["self"] ["self"] (ć Qf):=Ž
def Yc:đ ["_law_yard","_law_size_here","_law_things","_law_ray_here"] ["_law_yard","_law_size_here","_law_things","_law_ray_here"] (ć Qg):=Ž
def Yd:đ ["first","last"] ["first","last"] (ć Qh):=Ž
def cV:đ ["lines","unit","q","width","first","last","l","m","n","step","room"] ["lines","unit","q","width"] (ć Qi):=Ž
def pW:đ ["yard","thing","ray","lines","bits","q"] ["yard","thing","ray"] (ć Qj):=Ž
def Zb0:đ ["yard","ray"] ["yard","ray"] (ć ZbA):=Ž
def vG:đ ["yard","turn","bits","some"] ["yard","turn"] (ć Qk):=Ž
def Ū:đ ["_law_script","_law_size_here","_law_ray_here","_law_drawn","_law_things","_law_handed","_law_days","_law_yard","_law_sets","_law_due","_law_more","_law_other","_law_word","_law_numbers"] ["_law_script"] (ć Ql):=Ž
section
variable{P:Program}{w:World}{K:PySem.W.Frag}{mg:Str->Option Value}{base:Heap}{a:Ie}
seal PE PT PW PA PS fC PG xV PI Ew
def Zl(T:Tx K mg a):oK (λC=>Cls K (Ĵ a C)/\Ķ K (Ĵ a C) "width") ["Yard"]:=⟨⟨T.vA,T.vB⟩,trivial⟩
def Zm(T:Tx K mg a):oK (λC=>Cls K (Ĵ a C)/\Ķ K (Ĵ a C) "height") ["Yard"]:=⟨⟨T.vA,T.qH⟩,trivial⟩
def Zn(T:Tx K mg a):oK (λC=>Cls K (Ĵ a C)/\Ķ K (Ĵ a C) "things") ["Yard"]:=⟨⟨T.vA,T.qI⟩,trivial⟩
def ZM(T:Tx K mg a):oK (λC=>Cls K (Ĵ a C)/\Ķ K (Ĵ a C) "days") ["Yard"]:=⟨⟨T.vA,T.xM⟩,trivial⟩
def Zp(T:Tx K mg a):oK (λC=>Cls K (Ĵ a C)/\Ķ K (Ĵ a C) "word") ["Thing","Post","Fence","Sail","Cloth","House"]:=⟨⟨T.nq,T.vm⟩,⟨⟨T.pK,T.xJ⟩,⟨⟨T.jG,T.vo⟩,⟨⟨T.pO,T.xK⟩,⟨⟨T.jJ,T.vp⟩,⟨⟨T.jK,T.vq⟩,trivial⟩⟩⟩⟩⟩⟩
def Z4(T:Tx K mg a):oK (λC=>Cls K (Ĵ a C)/\Ķ K (Ĵ a C) "numbers") ["Thing","Post","Fence","Sail","Cloth","House"]:=⟨⟨T.nq,T.mq⟩,⟨⟨T.pK,T.pL⟩,⟨⟨T.jG,T.mz⟩,⟨⟨T.pO,T.pP⟩,⟨⟨T.jJ,T.mF⟩,⟨⟨T.jK,T.mH⟩,trivial⟩⟩⟩⟩⟩⟩
def Ye(T:Tx K mg a):ĥ P w K mg base Ŧ 1 a.Qv a.RJ ["_law_cell","_law_most"] (š ⟨K,Ĵ a⟩ 2 eG):=by
 refine ļ T.lN.F Ir λ_ _ _ _ _ _ _ hu=>?_
 exact ė (Ŝ (PW.pt (w_and (t_eq hu (Ũ (ju (Ă 0) Ć) Ć) Ć) (iQ (dZ Nr Nb (Ă 1) Ć (ŕ _))))) (Ň (Ņ (ğ (ĝ (Ő (Ą (ĵ (Ą Ħ (Ą Ħ Ĝ))) (Ą (ĵ (Ą Ħ (Ą Ħ Ĝ))) Ĝ))))) (Ũ (Ă 0) Ć))) İ) (Ľ Ir (jw Ć (Ũ (Ă 0) (ğ (ż (tK rfl) ud T.xH PyProof.Rows.boot_min (Ě Ć (Ě (Ă 1) Ĥ)))))) (Ň (ĵ (Ą (v_var 2) (Ą (v_add Ć (Ũ (ju (Ă 0) Ć) (ğ (ż (tK rfl) ud T.xH PyProof.Rows.boot_min (Ě Ć (Ě (ju (Ă 1) (Ă 2)) Ĥ)))))) Ĝ)))))
def IW(T:Tx K mg a):ĥ P w K mg base Ŧ 1 a.Qw a.RK ["_law_cell","_law_many"] (š ⟨K,Ĵ a⟩ 2 lA):=by
 refine ļ T.cO.F jc λ_ _ _ _ _ _ _ hu=>?_
 exact Ľ jc (Ő Ĝ) (Ľ jc (ő (lq (Ă 0) Ć)) (ė (Ŝ (t_eq hu (Ũ (Ă 0) Ć) Ć) (Ī (qD jc (ő (v_mod (Ă 3) Ć)))) İ) (ė (aZ PassesOwn.leaving rfl (Ů rfl T.aN (Ą (v_var 1) Ĝ)) (aV jc) (Ī (Ŝ (t_eq hu (Ũ (Ă 0) Ć) Ć) (ė (PS.wk (bx (nG PySem.F.plainAttrs_list PySem.F.slot_list_append PySem.F.type_list_append bD (pv 2) (Ą (v_mod (Ă 3) Ć) Ĝ))) λ_ _ _ h=>m_ h) (Ī (qD jc (ő (lq (Ă 3) Ć))))) (Ľ jc (ő (v_mod (cC (cC (Ŕ (Ă 3) Ć) Ć) (Ŕ Ć (Ă 4))) Ć)) (Ī (PS.wk (bx (nG PySem.F.plainAttrs_list PySem.F.slot_list_append PySem.F.type_list_append bD (pv 2) (Ą (lq (Ă 3) Ć) Ĝ))) λ_ _ _ h=>m_ h)))))) (Ł (fQ 2)))))
def Yg(T:Tx K mg a):ĥ P w K mg base Ŧ 2 a.Qx a.RL ["_law_cell"] (š ⟨K,Ĵ a⟩ 1 oZ):=by
 refine ļ T.pH.F zX λ_ _ _ _ _ _ hr _=>?_
 exact Ľ zX (ĉ (IW T) T.cO hr Č (ď 0 (Đ Ħ Ď))) (Ľ zX (ő (Ņ (ğ (ĝ (Ő (Ą Ħ (Ą Ħ (Ą Ħ (Ą (cg tX tH Ć Ć) Ĝ))))))) (Ũ (ĳ (Ă 1) Ć) Ć))) (Ň (ĵ (Ą (v_mul (gA (Ũ (ĳ (Ă 1) Ć) Ć) Ć) (Ă 2)) (Ą (v_mul (gA (Ũ (ĳ (Ă 1) Ć) Ć) Ć) (Ă 2)) (Ą (v_mul (cC Ć (Ũ (ĳ (Ă 1) Ć) Ć)) (Ă 2)) Ĝ))))))
def xP(T:Tx K mg a):ĥ P w K mg base Ŧ 1 a.Xh a.ZbJ ["self","width","height","things","days"] (CT ⟨K,Ĵ a⟩ 5 "Yard" aM):=by
 refine YT (cm:=Ĵ a) (mb:=Bx) T.aW.F ZbV rfl rfl rfl λcdv A outer s H E hr=>?_
 have hu:=hr.units
 exact ė (ak ["Yard"] (Zl T) (pv 0) (v_var 1)) (ė (ak ["Yard"] (Zm T) (pv 0) (v_var 2)) (ė (ak ["Yard"] (Zn T) (pv 0) (ĝ (qF aj aL T.aJ PyProof.Rows.boot_list (Ě (Ă 3) Ĥ)))) (Ī (ak ["Yard"] (ZM T) (pv 0) (ĝ (Zes (LQ 4) (LK ["name","times","turns"] [] 3 (ć Xg) rfl rfl (Zef 4) (λ_ _ _ _ _=>(Zeg (i:=0) (j:=1) (k:=2) rfl (show(["name","times","turns"]:List Str).Nodup by decide +kernel) rfl rfl rfl (Or.inl rfl) (Or.inl rfl) (Or.inl rfl) (fx:=Or.inr rfl) (fy:=Or.inr rfl) (fz:=Or.inr rfl))) (λ_ _ _ _ _=>ŉ) (λ_ _ _ _ _=>(ĵ (Ą (v_var 0) (Ą (v_var 1) (Ą (ĝ (qF aj aL T.aJ PyProof.Rows.boot_list (Ě (Ă 2) Ĥ))) Ĝ))))) trivial) (dW (Ŵ 4) (Bo rfl (Œ aR (Œ aR (Œ aR iT)))) ŉ (ĵ (Ą (v_var 0) (Ą (v_var 1) (Ą (ĝ (qF aj aL T.aJ PyProof.Rows.boot_list (Ě (Ă 2) Ĥ))) Ĝ)))))))))))
def Yh(T:Tx K mg a):ĥ P w K mg base Ŧ 1 a.Qy a.RM ["_law_sets"] (š ⟨K,Ĵ a⟩ 1 rN):=by
 refine ļ T.lO.F vC λ_ _ _ _ _ _ _ _=>?_
 exact Ľ vC (ő Ħ) (ė (aZ PassesOwn.leaving rfl (Ŵ 0) (aV vC) (Ī (qD vC (ő (cg Wu Wv (Ă 1) (Ă 2)))))) (Ł (fQ 1)))
def I_(T:Tx K mg a):ĥ P w K mg base Ŧ 1 a.Qz a.RN ["_law_number"] (š ⟨K,Ĵ a⟩ 1 rP):=by
 refine ļ T.cP.F Xo λ_ _ _ _ _ _ _ hu=>?_
 exact ė (Ŝ (t_eq hu (Ũ (ju (Ă 0) Ć) Ć) Ć) (Ł (jw Ć (Ũ (Ŕ (Ă 0) Ć) (ğ (cg tX tH Ć Ć))))) İ) (Ł (jw Ć (Ũ (Ă 0) Ć)))
def pX(T:Tx K mg a):ĥ P w K mg base Ŧ 1 a.QB a.RP ["_law_number","_law_wide"] (š ⟨K,Ĵ a⟩ 2 iz):=by
 refine ļ T.ť.F Xp λ_ _ _ _ _ _ _ hu=>?_
 exact ė (Ŝ (t_eq hu (Ũ (ju (Ă 0) Ć) Ć) Ć) (Ł (jw (gA (Ũ (Ŕ (Ă 0) Ć) (gA (Ŕ Ć (ğ (cg tX tH Ć Ć))) Ć)) (ğ (cg tX tH Ć Ć))) Ć)) İ) (Ň (v_sub (Ũ (Ă 0) (cC (Ŕ Ć (Ă 1)) Ć)) Ć))
def Ja(T:Tx K mg a):ĥ P w K mg base Ŧ 2 a.QC a.RQ ["_law_cell","_law_wide"] (š ⟨K,Ĵ a⟩ 2 bO):=by
 refine ļ T.dX.F gO λ_ _ _ _ _ _ hr hu=>?_
 exact Ľ gO (ĉ (IW T) T.cO hr Č (ď 0 (Đ Ħ Ď))) (ė (Fx (ĝ (dW (Ů rfl T.aN (Ą Ħ Ĝ)) aR ŉ (ĝ (ĉ (pX T) T.ť hr Č (Đ (Ņ (Ă 1) (Ă 2)) (ď 0 Ď)))))) (GQ rfl (Œ (aV gO) (Œ (aV gO) iT)))) (Ľ gO (ĉ (I_ T) T.cP hr Č (Đ (Ņ (Ă 2) Ć) Ď)) (Ľ gO (ő (v_mod (ĳ (Ă 2) Ć) Ć)) (ė (Ŝ (t_eq hu (Ă 4) Ć) (Ň (ĵ (Ą iu (Ą (ĝ (Ő (Ą (lq (Ă 5) Ć) (Ą (lq (Ă 6) Ć) (Ą (v_var 3) Ĝ))))) Ĝ)))) İ) (ė (Ŝ (t_eq hu (Ă 4) Ć) (ė (Fx (ĝ (Ő (Ą (v_sub (cC (Ă 5) (Ũ (ĳ (Ă 2) Ć) Ć)) Ć) (Ą (v_sub (cC (Ă 6) (Ũ (ĳ (Ă 2) Ć) Ć)) Ć) Ĝ)))) (GQ rfl (Œ (aV gO) (Œ (aV gO) iT)))) (Ň (ĵ (Ą iu (Ą (ĝ (Ő (Ą (v_var 5) (Ą (v_var 6) (Ą (v_add (Ă 7) (ğ (Xb WD WK T.Uc PyProof.Rows.boot_int (Ě (ğ (v_eq hu (ğ (ĵ (Ą (v_var 5) (Ą (v_var 6) Ĝ)))) (ğ (ĵ (Ą (v_var 7) (Ą (v_var 8) Ĝ)))))) Ĥ)))) (Ą (v_var 8) (Ą (v_var 3) Ĝ))))))) Ĝ))))) İ) (ė (Ŝ (t_eq hu (Ă 4) Ć) (Ň (ĵ (Ą iu (Ą (v_add (cC (ğ (ĝ (Ő (Ą (v_var 5) (Ą (v_var 6) (Ą (v_mod (ĳ (Ă 2) Ć) Ć) Ĝ)))))) (ğ (ĝ (Ő (Ą (ĝ (ĉ (pX T) T.ť hr Č (Đ (Ņ (Ă 2) Ć) (ď 1 Ď)))) (Ą (ĝ (ĉ (pX T) T.ť hr Č (Đ (Ņ (Ă 2) Ć) (ď 1 Ď)))) (Ą (v_var 3) Ĝ))))))) (ğ (ĝ (Ő (Ą (ĝ (ĉ (pX T) T.ť hr Č (Đ (Ņ (Ă 2) Ć) (ď 1 Ď)))) (Ą (ĝ (ĉ (pX T) T.ť hr Č (Đ (Ņ (Ă 2) Ć) (ď 1 Ď)))) (Ą (ĝ (ĉ (I_ T) T.cP hr Č (Đ (Ņ (Ă 2) Ć) Ď))) Ĝ))))))) Ĝ)))) İ) (Ň (ĵ (Ą (Ņ (ğ (ĝ (Ő (Ą iu (Ą iu Ĝ))))) (gA (Ă 4) Ć)) (Ą (ĝ (Ő (Ą (v_var 5) (Ą (v_var 6) (Ą (v_add (cC (Ă 5) Ć) (Ũ (ĳ (Ă 2) Ć) Ć)) (Ą (v_add (cC (Ă 6) Ć) (Ũ (ĳ (Ă 2) Ć) Ć)) (Ą (v_var 3) Ĝ))))))) Ĝ))))))))))
def pY(T:Tx K mg a):ĥ P w K mg base Ŧ 1 a.QD a.RT ["number"] (š ⟨K,Ĵ a⟩ 1 lB):=by
 refine ļ T.aH.F Xq λ_ _ _ _ _ _ _ _=>?_
 exact Ň (Ft oA oA nM nM (ğ (vZ gk dG (ğ (Dv (.int 1000000000) (mL (v:=.int 1000000000) rfl T.jE ⟨_,rfl⟩))))) (Ă 0) (ğ (Dv (.int 1000000000) (mL (v:=.int 1000000000) rfl T.jE ⟨_,rfl⟩))))
def Jb(T:Tx K mg a):ĥ P w K mg base Ŧ 1 a.QF a.RW ["number"] (š ⟨K,Ĵ a⟩ 1 wR):=by
 refine ļ T.gF.F Xr λ_ _ _ _ _ _ _ _=>?_
 exact Ň (Ft oA oA nM nM Ć (Ă 0) (ğ (Dv (.int 1000000000) (mL (v:=.int 1000000000) rfl T.iD ⟨_,rfl⟩))))
def Yi(T:Tx K mg a):ĥ P w K mg base Ŧ 2 a.QG a.RX ["numbers"] (š ⟨K,Ĵ a⟩ 1 wU):=by
 refine ļ T.jy.F Xu λ_ _ _ _ _ _ hr hu=>?_
 exact Ň (v_and (v_eq hu (ğ (ż fL gq T.lU PySem.boot_len (Ě (Ă 0) Ĥ))) Ć) (v_and (ĝ (ĉ (pY T) T.aH hr Č (Đ (Ņ (Ă 0) Ć) Ď))) (v_and (ĝ (ĉ (pY T) T.aH hr Č (Đ (Ņ (Ă 0) Ć) Ď))) (fV (ĝ (ĉ (Jb T) T.gF hr Č (Đ (Ņ (Ă 0) Ć) Ď)))))))
def Jc(T:Tx K mg a):ĥ P w K mg base Ŧ 1 a.mj a.Dl ["self","word","numbers"] (CT ⟨K,Ĵ a⟩ 3 "Post" uN):=by
 refine YT (cm:=Ĵ a) (mb:=eN) T.ī.F xO rfl rfl rfl λcdv A outer s H E hr=>?_
 have hu:=hr.units
 exact ė (ak ["Thing","Post","Fence","Sail","Cloth","House"] (Zp T) (pv 0) (v_var 1)) (Ī (ak ["Thing","Post","Fence","Sail","Cloth","House"] (Z4 T) (pv 0) (ĝ (qF aj aL T.aJ PyProof.Rows.boot_list (Ě (Ă 2) Ĥ)))))
def Dp(T:Tx K mg a):ĥ P w K mg base Ŧ 1 a.mj a.Dl ["self","word","numbers"] (CT ⟨K,Ĵ a⟩ 3 "Fence" o_):=by
 refine YT (cm:=Ĵ a) (mb:=eN) T.ī.F xO rfl rfl rfl λcdv A outer s H E hr=>?_
 have hu:=hr.units
 exact ė (ak ["Thing","Post","Fence","Sail","Cloth","House"] (Zp T) (pv 0) (v_var 1)) (Ī (ak ["Thing","Post","Fence","Sail","Cloth","House"] (Z4 T) (pv 0) (ĝ (qF aj aL T.aJ PyProof.Rows.boot_list (Ě (Ă 2) Ĥ)))))
def Jd(T:Tx K mg a):ĥ P w K mg base Ŧ 1 a.mj a.Dl ["self","word","numbers"] (CT ⟨K,Ĵ a⟩ 3 "Sail" uO):=by
 refine YT (cm:=Ĵ a) (mb:=eN) T.ī.F xO rfl rfl rfl λcdv A outer s H E hr=>?_
 have hu:=hr.units
 exact ė (ak ["Thing","Post","Fence","Sail","Cloth","House"] (Zp T) (pv 0) (v_var 1)) (Ī (ak ["Thing","Post","Fence","Sail","Cloth","House"] (Z4 T) (pv 0) (ĝ (qF aj aL T.aJ PyProof.Rows.boot_list (Ě (Ă 2) Ĥ)))))
def Dq(T:Tx K mg a):ĥ P w K mg base Ŧ 1 a.mj a.Dl ["self","word","numbers"] (CT ⟨K,Ĵ a⟩ 3 "Cloth" pq):=by
 refine YT (cm:=Ĵ a) (mb:=eN) T.ī.F xO rfl rfl rfl λcdv A outer s H E hr=>?_
 have hu:=hr.units
 exact ė (ak ["Thing","Post","Fence","Sail","Cloth","House"] (Zp T) (pv 0) (v_var 1)) (Ī (ak ["Thing","Post","Fence","Sail","Cloth","House"] (Z4 T) (pv 0) (ĝ (qF aj aL T.aJ PyProof.Rows.boot_list (Ě (Ă 2) Ĥ)))))
def Dr(T:Tx K mg a):ĥ P w K mg base Ŧ 1 a.mj a.Dl ["self","word","numbers"] (CT ⟨K,Ĵ a⟩ 3 "House" pA):=by
 refine YT (cm:=Ĵ a) (mb:=eN) T.ī.F xO rfl rfl rfl λcdv A outer s H E hr=>?_
 have hu:=hr.units
 exact ė (ak ["Thing","Post","Fence","Sail","Cloth","House"] (Zp T) (pv 0) (v_var 1)) (Ī (ak ["Thing","Post","Fence","Sail","Cloth","House"] (Z4 T) (pv 0) (ĝ (qF aj aL T.aJ PyProof.Rows.boot_list (Ě (Ă 2) Ĥ)))))
def Je(T:Tx K mg a):ĥ P w K mg base Ŧ 2 a.QH a.RZ ["numbers"] (š ⟨K,Ĵ a⟩ 1 rQ):=by
 refine ļ T.bQ.F Xv λ_ _ _ _ _ _ hr hu=>?_
 exact Ň (v_and (v_eq hu (ğ (ż fL gq T.lU PySem.boot_len (Ě (Ă 0) Ĥ))) Ć) (v_and (ż (nP rfl) oJ T.xu PyProof.Rows.boot_all (Ě (ğ (ĝ (dW (cA (ĝ (dU (Ă 0) yZ (bK Ħ)))) aR ŉ (ĝ (ĉ (pY T) T.aH hr Č (ď 0 Ď)))))) Ĥ)) (fV (ĝ (ĉ (Jb T) T.gF hr Č (Đ (Ņ (Ă 0) Ć) Ď))))))
def Yj(T:Tx K mg a):ĥ P w K mg base Ŧ 3 a.QJ a.R_ ["numbers"] (š ⟨K,Ĵ a⟩ 1 wV):=by
 refine ļ T.iB.F Xw λ_ _ _ _ _ _ hr hu=>?_
 exact Ň (v_and (ĝ (ĉ (Je T) T.bQ hr Č (ď 0 Ď))) (fV (nT Ga (yN hu) (ğ (ĝ (dU (Ă 0) yZ (bK Ħ)))) (ğ (ĝ (dU (Ă 0) (bK Ħ) (bK Ħ)))) (ŕ _))))
def Ue(T:Tx K mg a):ĥ P w K mg base Ŧ 3 a.ZbB a.ZbK ["numbers"] (š ⟨K,Ĵ a⟩ 1 Dj):=by
 refine ļ T.ř.F ZbW λ_ _ _ _ _ _ hr _=>?_
 exact Ň (v_and (ĝ (ĉ (Je T) T.bQ hr Č (ď 0 Ď))) (v_and (nT ou nJ (ĳ (Ă 0) Ć) (ĳ (Ă 0) Ć) (ŕ _)) (fV (nT ou nJ (ĳ (Ă 0) Ć) (ĳ (Ă 0) Ć) (ŕ _)))))
def Zb1(T:Tx K mg a):ĥ P w K mg base Ŧ 2 a.ZbC a.ZbL ["numbers"] (š ⟨K,Ĵ a⟩ 1 LR):=by
 refine ļ T.cF.F ZbX λ_ _ _ _ _ _ hr _=>?_
 exact Ň (v_and (ĝ (ĉ (pY T) T.aH hr Č (Đ (Ņ (Ă 0) Ć) Ď))) (v_and (ĝ (ĉ (pY T) T.aH hr Č (Đ (Ņ (Ă 0) Ć) Ď))) (fV (Ft oA oA nM nM Ć (ĳ (Ă 0) Ć) (ğ (Dv (.int 1000000000) (mL (v:=.int 1000000000) rfl T.iD ⟨_,rfl⟩)))))))
def Yk(T:Tx K mg a):ĥ P w K mg base Ŧ 3 a.QK a.Sd ["numbers"] (š ⟨K,Ĵ a⟩ 1 wW):=by
 refine ļ T.iC.F Xx λ_ _ _ _ _ _ hr hu=>?_
 exact Ň (v_and (v_eq hu (ğ (ż fL gq T.lU PySem.boot_len (Ě (Ă 0) Ĥ))) Ć) (fV (ż (nP rfl) oJ T.xu PyProof.Rows.boot_all (Ě (ğ (ĝ (dW (cA (ĵ (Ą Ħ (Ą Ħ (Ą Ħ Ĝ))))) aR ŉ (ĝ (ĉ (Zb1 T) T.cF hr Č (Đ (ĝ (dU (Ă 0) (bK (v_var 1)) (bK (v_add (Ă 1) Ć)))) Ď)))))) Ĥ))))
def Jf(T:Tx K mg a):ĥ P w K mg base Ŧ 4 a.QL a.Sg ["word","numbers"] (š ⟨K,Ĵ a⟩ 2 bh):=by
 refine ļ T.iZ.F Xy λ_ _ _ _ _ _ hr hu=>?_
 exact ė (Ŝ (PW.pt (w_and (t_eq hu (Ă 0) oV) (iQ (ž (ğ (ĝ (ĉ (Yi T) T.jy hr Č (ď 1 Ď)))))))) (Ň (jX T.Xm (Jc T) aG hr.mo rfl (Z27 T) T.ī.b Č (ď 0 (ď 1 Ď)))) İ) (ė (Ŝ (PW.pt (w_and (t_eq hu (Ă 0) oV) (iQ (ž (ğ (ĝ (ĉ (Yj T) T.iB hr Č (ď 1 Ď)))))))) (Ň (jX T.Mp (Dp T) aG hr.mo rfl (Z1H T) T.ī.b Č (ď 0 (ď 1 Ď)))) İ) (ė (Ŝ (PW.pt (w_and (t_eq hu (Ă 0) oV) (iQ (ž (ğ (ĝ (ĉ (Ue T) T.ř hr Č (ď 1 Ď)))))))) (Ň (jX T.Xn (Jd T) aG hr.mo rfl (Z28 T) T.ī.b Č (ď 0 (ď 1 Ď)))) İ) (ė (Ŝ (PW.pt (w_and (t_eq hu (Ă 0) oV) (iQ (ž (ğ (ĝ (ĉ (Yk T) T.iC hr Č (ď 1 Ď)))))))) (Ň (jX T.Mq (Dq T) aG hr.mo rfl (Z1I T) T.ī.b Č (ď 0 (ď 1 Ď)))) İ) (ė (Ŝ (PW.pt (w_and (t_eq hu (Ă 0) oV) (iQ (ž (ğ (ĝ (ĉ (Ue T) T.ř hr Č (ď 1 Ď)))))))) (Ň (jX T.Mr (Dr T) aG hr.mo rfl (Z1J T) T.ī.b Č (ď 0 (ď 1 Ď)))) İ) (Ī Bm)))))
def pZ(T:Tx K mg a):ĥ P w K mg base Ŧ 1 a.QM a.Sh ["_law_script","_law_k"] (š ⟨K,Ĵ a⟩ 2 Ţ):=by
 refine ļ T.bF.F Xz λ_ _ _ _ _ _ _ _=>?_
 exact ė (Ŝ (dZ ou nJ (Ă 1) (ğ (ż fL gq T.lU PySem.boot_len (Ě (Ă 0) Ĥ))) (ŕ _)) (Ň (Ņ (Ă 0) (Ă 1))) İ) (Ň Ħ)
def Yl(T:Tx K mg a):ĥ P w K mg base Ŧ 1 a.QS a.Sq ["points"] (š ⟨K,Ĵ a⟩ 1 BJ):=by
 refine ļ T.lQ.F zY λ_ _ _ _ _ _ _ _=>?_
 exact ė (LC zY (Ŵ 0) aR ŉ (Ņ (Ă 0) Ć)) (ė (LC zY (Ŵ 0) aR ŉ (Ņ (Ă 0) Ć)) (Ł (Ő (Ą (ĵ (Ą Ħ (Ą Ħ (Ą (ż (ur rfl) uw T.xG PyProof.Rows.boot_max (Ě (Ă 1) Ĥ)) Ĝ)))) (Ą (ĵ (Ą (vZ gk dG Ć) (Ą Ħ (Ą (vZ gk dG (ğ (ż (Gw rfl) Gy T.xH PyProof.Rows.boot_min (Ě (Ă 1) Ĥ)))) Ĝ)))) (Ą (ĵ (Ą Ħ (Ą Ħ (Ą (ż (ur rfl) uw T.xG PyProof.Rows.boot_max (Ě (Ă 2) Ĥ)) Ĝ)))) (Ą (ĵ (Ą Ħ (Ą (vZ gk dG Ć) (Ą (vZ gk dG (ğ (ż (Gw rfl) Gy T.xH PyProof.Rows.boot_min (Ě (Ă 2) Ĥ)))) Ĝ)))) Ĝ)))))))
def Ym(T:Tx K mg a):ĥ P w K mg base Ŧ 1 a.QT a.Ss ["points"] (š ⟨K,Ĵ a⟩ 1 BK):=by
 refine ļ T.lR.F zZ λ_ _ _ _ _ _ _ hu=>?_
 exact Ľ zZ (Ő Ĝ) (ė (aZ PassesOwn.leaving rfl (Ŵ 0) (aV zZ) (Ī (Ŝ (dZ WY (Dd hu) (Ă 2) (Ă 1) (by with_unfolding_all rfl)) (Ī (PS.wk (bx (nG PySem.F.plainAttrs_list PySem.F.slot_list_append PySem.F.type_list_append bD (pv 1) (Ą (v_var 2) Ĝ))) λ_ _ _ h=>m_ h)) İ))) (Ł (fQ 1)))
def Yn(T:Tx K mg a):ĥ P w K mg base Ŧ 1 a.QV a.Sv ["one","other"] (š ⟨K,Ĵ a⟩ 2 BL):=by
 refine ļ T.gG.F z_ λ_ _ _ _ _ _ _ _=>?_
 exact Ľ z_ (ő (v_sub (ĳ (Ă 1) Ć) (ĳ (Ă 0) Ć))) (Ľ z_ (ő (v_sub (ĳ (Ă 0) Ć) (ĳ (Ă 1) Ć))) (Ň (ĵ (Ą (v_var 2) (Ą (v_var 3) (Ą (v_add (Ŕ (Ă 2) (ĳ (Ă 0) Ć)) (Ŕ (Ă 3) (ĳ (Ă 0) Ć))) Ĝ))))))
def Jg(T:Tx K mg a):ĥ P w K mg base Ŧ 1 a.QW a.Sw ["line","pair"] (š ⟨K,Ĵ a⟩ 2 pB):=by
 refine ļ T.vf.F XC λ_ _ _ _ _ _ _ _=>?_
 exact Ň (nT oA nM (cC (Ŕ (ĳ (Ă 0) Ć) (ĳ (Ă 1) Ć)) (Ŕ (ĳ (Ă 0) Ć) (ĳ (Ă 1) Ć))) (ĳ (Ă 0) Ć) (ŕ _))
def Yo(T:Tx K mg a):ĥ P w K mg base Ŧ 2 a.QX a.Sx ["points"] (š ⟨K,Ĵ a⟩ 1 BP):=by
 refine ļ T.jz.F kO λ_ _ _ _ _ _ hr hu=>?_
 exact Ľ kO (Ő Ĝ) (Ľ kO (ĉ (Ym T) T.lR hr Č (ď 0 Ď)) (ė (aZ PassesOwn.leaving rfl (Ŵ 2) (aV kO) (Ī (aZ PassesOwn.leaving rfl (Ŵ 2) (aV kO) (Ľ kO (ĉ (Yn T) T.gG hr Č (ď 3 (ď 4 Ď))) (Ī (Ŝ (PW.pt (w_and (GR hu (Ă 3) (Ă 4)) (iQ (ž (ğ (ż (nP rfl) oJ T.xu PyProof.Rows.boot_all (Ě (ğ (ĝ (dW (Ŵ 2) aR ŉ (ĝ (ĉ (Jg T) T.vf hr Č (ď 0 (ď 1 Ď))))))) Ĥ))))))) (Ī (PS.wk (bx (nG PySem.F.plainAttrs_list PySem.F.slot_list_append PySem.F.type_list_append bD (pv 1) (Ą (v_var 5) Ĝ))) λ_ _ _ h=>m_ h)) İ)))))) (Ł (fQ 1))))
def Jh(T:Tx K mg a):ĥ P w K mg base Ŧ 3 a.QZ a.Sy ["points"] (š ⟨K,Ĵ a⟩ 1 wX):=by
 refine ļ T.cQ.F XD λ_ _ _ _ _ _ hr _=>?_
 exact Ł (jw (ğ (ĝ (ĉ (Yl T) T.lQ hr Č (ď 0 Ď)))) (ğ (ĝ (ĉ (Yo T) T.jz hr Č (ď 0 Ď)))))
def Yp(T:Tx K mg a):ĥ P w K mg base Ŧ 4 a.Q_ a.SJ ["points","point"] (š ⟨K,Ĵ a⟩ 2 wY):=by
 refine ļ T.gH.F Iu λ_ _ _ _ _ _ hr _=>?_
 exact ė (aZ PassesOwn.leaving rfl (cA (ĝ (ĉ (Jh T) T.cQ hr Č (ď 0 Ď)))) (aV Iu) (Ī (Ŝ (iw (ž (ğ (ĝ (ĉ (Jg T) T.vf hr Č (ď 2 (ď 1 Ď))))))) (Ł (fQ 2)) İ))) (Ň vY)
def Ji(T:Tx K mg a):ĥ P w K mg base Ŧ 1 a.Ra a.SM ["many"] (š ⟨K,Ĵ a⟩ 1 wZ):=by
 refine ļ T.cR.F Aa λ_ _ _ _ _ _ _ _=>?_
 exact Ľ Aa (Ő Ĝ) (ė (aZ PassesOwn.leaving rfl (Ů rfl T.aN (Ą (v_var 0) Ĝ)) (aV Aa) (Ī (PS.wk (bx (nG PySem.F.plainAttrs_list PySem.F.slot_list_extend PySem.F.type_list_extend qR (pv 1) (Ĺ (dW (Ů rfl T.aN (Ą (v_var 2) Ĝ)) aR ŉ (ĵ (Ą (v_var 1) (Ą (v_var 0) Ĝ)))) aF))) λ_ _ _ h=>Bv h))) (Ł (fQ 1)))
def Yq(T:Tx K mg a):ĥ P w K mg base Ŧ 2 a.Rb a.SN ["many"] (š ⟨K,Ĵ a⟩ 1 BR):=by
 refine ļ T.eO.F Ab λ_ _ _ _ _ _ hr _=>?_
 exact Ľ Ab (Ő Ĝ) (ė (aZ PassesOwn.leaving rfl (Ů rfl T.aN (Ą (v_var 0) Ĝ)) (aV Ab) (Ī (PS.wk (bx (nG PySem.F.plainAttrs_list PySem.F.slot_list_extend PySem.F.type_list_extend qR (pv 1) (Ĺ (dW (cA (ĝ (ĉ (Ji T) T.cR hr Č (ď 2 Ď)))) aR ŉ (ĵ (Ą (Ņ (Ă 1) Ć) (Ą (Ņ (Ă 1) Ć) (Ą (v_var 0) Ĝ))))) aF))) λ_ _ _ h=>Bv h))) (Ł (fQ 1)))
def Zb2(T:Tx K mg a):ĥ P w K mg base Ŧ 1 a.ZbD a.ZbM ["one","other"] (š ⟨K,Ĵ a⟩ 2 L_):=by
 refine ļ T.bR.F BZ λ_ _ _ _ _ _ _ hu=>?_
 exact ė (KQ PassesOwn.leaving (GR hu (Ă 1) Ć) (Ľ BZ (ő (v_mod (Ă 0) (Ă 1))) (Ľ BZ (ő (v_var 1)) (Ī (qD BZ (ő (v_var 2))))))) (Ň (ż VH Wx T.ZbS PyProof.Rows.boot_abs (Ě (Ă 0) Ĥ)))
def Jj(T:Tx K mg a):ĥ P w K mg base Ŧ 2 a.Rf a.SQ ["top","bottom"] (š ⟨K,Ĵ a⟩ 2 lC):=by
 refine ļ T.vg.F Ac λ_ _ _ _ _ _ hr hu=>?_
 exact ė (Ŝ (t_eq hu (Ă 1) Ć) (Ī Bm) İ) (Ľ Ac (ĉ (Zb2 T) T.bR hr Č (ď 0 (ď 1 Ď))) (ė (Ŝ (dZ ou nJ (Ă 1) Ć (ŕ _)) (Ī (qD Ac (ő (vZ gk dG (Ă 2))))) İ) (Ň (ĵ (Ą (lq (Ă 0) (Ă 2)) (Ą (lq (Ă 1) (Ă 2)) Ĝ))))))
def Ae(T:Tx K mg a):ĥ P w K mg base Ŧ 3 a.Rg a.SX ["shares","places","many"] (š ⟨K,Ĵ a⟩ 3 jx):=by
 refine ļ T.jA.F pR λ_ _ _ _ _ _ hr _=>?_
 exact Ľ pR (ő (ż (Gv rfl) Gx T.Ud PyProof.Rows.boot_sum (Ě (Ă 0) Ĥ))) (ė (LC pR (Ů rfl T.aN (Ą (v_var 2) Ĝ)) aR ŉ (ĝ (ĉ (Jj T) T.vg hr Č (Đ Ħ (ď 0 Ď))))) (ė (aZ PassesOwn.leaving rfl (Za5 rfl T.ZbU (NP 0) (NP 1)) (Bo rfl (Œ (aV pR) (Œ (aV pR) iT))) (Ī (KN (i:=4) (ĝ (ĉ (Jj T) T.vg hr Č (ď 5 (ď 3 Ď)))) (v_var 6) (pv 4)))) (Ł (fQ 4))))
def Af(T:Tx K mg a):ĥ P w K mg base Ŧ 1 a.Rh a.S_ ["one","other","third"] (š ⟨K,Ĵ a⟩ 3 rT):=by
 refine ļ T.jB.F Iv λ_ _ _ _ _ _ _ _=>?_
 exact Ľ Iv (ő (v_mul (gA (ĳ (Ă 1) Ć) (ĳ (Ă 0) Ć)) (gA (ĳ (Ă 2) Ć) (ĳ (Ă 0) Ć)))) (Ň (v_sub (Ă 3) (Ŕ (gA (ĳ (Ă 1) Ć) (ĳ (Ă 0) Ć)) (gA (ĳ (Ă 2) Ć) (ĳ (Ă 0) Ć)))))
def Zb3(T:Tx K mg a):ĥ P w K mg base Ŧ 2 a.ZbE a.ZbN ["corners","point"] (š ⟨K,Ĵ a⟩ 2 Ma):=by
 refine ļ T.cG.F B_ λ_ _ _ _ _ _ hr _=>?_
 exact Ľ B_ (ő (Ņ (Ă 0) Ć)) (Ľ B_ (ő (Ņ (Ă 0) Ć)) (Ľ B_ (ő (Ņ (Ă 0) Ć)) (Ł (Ő (Ą (ĝ (ĉ (Af T) T.jB hr Č (ď 1 (ď 3 (ď 4 Ď))))) (Ą (ĝ (ĉ (Af T) T.jB hr Č (ď 2 (ď 1 (ď 4 Ď))))) (Ą (ĝ (ĉ (Af T) T.jB hr Č (ď 2 (ď 3 (ď 1 Ď))))) Ĝ)))))))
def Jk(T:Tx K mg a):ĥ P w K mg base Ŧ 1 a.Ri a.Tc ["shares"] (š ⟨K,Ĵ a⟩ 1 rW):=by
 refine ļ T.cT.F Iw λ_ _ _ _ _ _ _ hu=>?_
 exact Ľ Iw (ő (ż (Gv rfl) Gx T.Ud PyProof.Rows.boot_sum (Ě (Ă 0) Ĥ))) (Ň (v_and (nT Ga (yN hu) (Ă 1) Ć (ŕ _)) (fV (ż (nP rfl) oJ T.xu PyProof.Rows.boot_all (Ě (ğ (ĝ (dW (Ŵ 0) aR ŉ (nT ZaK Zau (Ŕ (Ă 1) (Ă 0)) Ć (ŕ _))))) Ĥ)))))
def Zb4(T:Tx K mg a):ĥ P w K mg base Ŧ 1 a.ZbF a.ZbO ["ends","point"] (š ⟨K,Ĵ a⟩ 2 Mf):=by
 refine ļ T.eU.F Ca λ_ _ _ _ _ _ _ _=>?_
 exact Ľ Ca (ő (v_sub (ĳ (ĳ (Ă 0) Ć) Ć) (ĳ (ĳ (Ă 0) Ć) Ć))) (Ľ Ca (ő (v_sub (ĳ (ĳ (Ă 0) Ć) Ć) (ĳ (ĳ (Ă 0) Ć) Ć))) (Ľ Ca (jw (Ŕ (Ă 2) (gA (ĳ (Ă 1) Ć) (ĳ (ĳ (Ă 0) Ć) Ć))) (Ŕ (Ă 3) (gA (ĳ (Ă 1) Ć) (ĳ (ĳ (Ă 0) Ć) Ć)))) (Ł (Ő (Ą (v_sub (cC (Ŕ (Ă 2) (Ă 2)) (Ŕ (Ă 3) (Ă 3))) (Ă 4)) (Ą (v_var 4) Ĝ))))))
def Yr(T:Tx K mg a):ĥ P w K mg base Ŧ 4 a.Rj a.Td ["points","point"] (š ⟨K,Ĵ a⟩ 2 rY):=by
 refine ļ T.jC.F kW λ_ _ _ _ _ _ hr _=>?_
 exact Ľ kW (ő (ż fL gq T.lU PySem.boot_len (Ě (Ă 0) Ĥ))) (ė (aZ PassesOwn.leaving rfl (cA (ĝ (ĉ (Yq T) T.eO hr Č (ď 2 Ď)))) (aV kW) (Ľ kW (ĉ (Zb3 T) T.cG hr Č (Đ (ĝ (dW (Ŵ 3) aR ŉ (Ņ (Ă 0) (Ă 1)))) (ď 1 Ď))) (Ī (Ŝ (ž (ğ (ĝ (ĉ (Jk T) T.cT hr Č (ď 4 Ď))))) (Ł (ĉ (Ae T) T.jA hr Č (ď 4 (ď 3 (ď 2 Ď))))) İ)))) (ė (aZ PassesOwn.leaving rfl (cA (ĝ (ĉ (Ji T) T.cR hr Č (ď 2 Ď)))) (aV kW) (Ľ kW (ĉ (Zb4 T) T.eU hr Č (Đ (ĝ (dW (Ŵ 3) aR ŉ (Ņ (Ă 0) (Ă 1)))) (ď 1 Ď))) (Ī (Ŝ (ž (ğ (ĝ (ĉ (Jk T) T.cT hr Č (ď 4 Ď))))) (Ł (ĉ (Ae T) T.jA hr Č (ď 4 (ď 3 (ď 2 Ď))))) İ)))) (Ł (ĉ (Ae T) T.jA hr Č (Đ (ĝ (Ő (Ą Ħ Ĝ))) (Đ (ĝ (Ő (Ą Ħ Ĝ))) (ď 2 Ď)))))))
def Ys(T:Tx K mg a):ĥ P w K mg base Ŧ 5 a.Rk a.Te ["points","point"] (š ⟨K,Ĵ a⟩ 2 xg):=by
 refine ļ T.Im.F Iz λ_ _ _ _ _ _ hr _=>?_
 exact Ľ Iz (ĉ (Yp T) T.gH hr Č (ď 0 (ď 1 Ď))) (ė (Ŝ (dZ Nv DY (Ă 2) NZ (ŕ _)) (Ň (ĵ (Ą iu (Ą (ĝ (ĉ (Yr T) T.jC hr Č (ď 0 (ď 1 Ď)))) Ĝ)))) İ) (Ň (ĵ (Ą iu (Ą (v_var 2) Ĝ)))))
def Jl(T:Tx K mg a):ĥ P w K mg base Ŧ 1 a.Rm a.Tf ["point","ray"] (š ⟨K,Ĵ a⟩ 2 pG):=by
 refine ļ T.zW.F XF λ_ _ _ _ _ _ _ _=>?_
 exact Ň (ĵ (Ą (v_add (Ŕ (ĳ (Ă 1) Ć) (ĳ (Ă 0) Ć)) (Ŕ (ĳ (Ă 1) Ć) (ĳ (Ă 0) Ć))) (Ą (v_add (Ŕ (ĳ (Ă 1) Ć) (ĳ (Ă 0) Ć)) (Ŕ (ĳ (Ă 1) Ć) (ĳ (Ă 0) Ć))) Ĝ)))
def Jm(T:Tx K mg a):ĥ P w K mg base Ŧ 1 a.ZbG a.ZbP ["x","y","u","v","z"] (š ⟨K,Ĵ a⟩ 5 Dk):=by
 refine ļ T.Ų.F ZbY λ_ _ _ _ _ _ _ _=>?_
 exact Ł (Ő (Ą (ĵ (Ą (v_var 0) (Ą (v_var 1) (Ą (v_var 4) Ĝ)))) (Ą (ĵ (Ą (v_var 2) (Ą (v_var 1) (Ą (v_var 4) Ĝ)))) (Ą (ĵ (Ą (v_var 2) (Ą (v_var 3) (Ą (v_var 4) Ĝ)))) (Ą (ĵ (Ą (v_var 0) (Ą (v_var 3) (Ą (v_var 4) Ĝ)))) Ĝ)))))
def Ug(T:Tx K mg a):ĥ P w K mg base Ŧ 2 a.ZbH a.ZbQ ["x","y","u","v","h"] (š ⟨K,Ĵ a⟩ 5 Hx):=by
 refine ļ T.aX.F ZbZ λ_ _ _ _ _ _ hr _=>?_
 exact Ł (jw (ğ (ĝ (ĉ (Jm T) T.Ų hr Č (ď 0 (ď 1 (ď 2 (ď 3 (Đ Ħ Ď)))))))) (ğ (ĝ (ĉ (Jm T) T.Ų hr Č (ď 0 (ď 1 (ď 2 (ď 3 (ď 4 Ď)))))))))
def Yt(T:Tx K mg a):ĥ P w K mg base Ŧ 3 a.Ig a.Ti ["self"] (š ⟨K,Ĵ a⟩ 1 lE):=by
 refine ļ T.gJ.F Ad λ_ _ _ _ _ _ hr _=>?_
 exact Ľ Ad (ő (v_mul Ć (ĳ (ğ (ś ["Thing","Post","Fence","Sail","Cloth","House"] (Z4 T) (Ă 0))) Ć))) (Ľ Ad (ő (v_mul Ć (ĳ (ğ (ś ["Thing","Post","Fence","Sail","Cloth","House"] (Z4 T) (Ă 0))) Ć))) (Ł (ĉ (Ug T) T.aX hr Č (Đ (v_sub (Ă 1) Ć) (Đ (v_sub (Ă 2) Ć) (Đ (v_add (Ă 1) Ć) (Đ (v_add (Ă 2) Ć) (Đ (Ņ (ğ (ś ["Thing","Post","Fence","Sail","Cloth","House"] (Z4 T) (Ă 0))) Ć) Ď))))))))
def Yu(T:Tx K mg a):ĥ P w K mg base Ŧ 1 a.Ih a.Tj ["self"] (š ⟨K,Ĵ a⟩ 1 lF):=by
 refine ļ T.eV.F vD λ_ _ _ _ _ _ _ _=>?_
 exact Ľ vD (ő (ś ["Thing","Post","Fence","Sail","Cloth","House"] (Z4 T) (Ă 0))) (Ľ vD (ő (ĵ (Ą (Ņ (Ă 1) Ć) (Ą (Ņ (Ă 1) Ć) Ĝ)))) (Ľ vD (ő (ĵ (Ą (Ņ (Ă 1) Ć) (Ą (Ņ (Ă 1) Ć) Ĝ)))) (Ł (Ő (Ą (v_add (Ă 2) (ğ (ĵ (Ą Ħ Ĝ)))) (Ą (v_add (Ă 3) (ğ (ĵ (Ą Ħ Ĝ)))) (Ą (v_add (Ă 3) (ğ (ĵ (Ą (Ņ (Ă 1) Ć) Ĝ)))) (Ą (v_add (Ă 2) (ğ (ĵ (Ą (Ņ (Ă 1) Ć) Ĝ)))) Ĝ))))))))
def Yv(T:Tx K mg a):ĥ P w K mg base Ŧ 2 a.Ii a.Tn ["self"] (š ⟨K,Ĵ a⟩ 1 lG):=by
 refine ļ T.gK.F IK λ_ _ _ _ _ _ hr _=>?_
 exact Ľ IK (ő (ś ["Thing","Post","Fence","Sail","Cloth","House"] (Z4 T) (Ă 0))) (Ł (ĉ (Jm T) T.Ų hr Č (Đ (Ņ (Ă 1) Ć) (Đ (Ņ (Ă 1) Ć) (Đ (Ņ (Ă 1) Ć) (Đ (Ņ (Ă 1) Ć) (Đ (Ņ (Ă 1) Ć) Ď)))))))
def Yw(T:Tx K mg a):ĥ P w K mg base Ŧ 1 a.Ij a.Tp ["self"] (š ⟨K,Ĵ a⟩ 1 lH):=by
 refine ļ T.eX.F XH λ_ _ _ _ _ _ _ _=>?_
 exact Ł (dW (cA (ĵ (Ą Ħ (Ą Ħ (Ą Ħ Ĝ))))) aR ŉ (Xb Gh Gi T.Ml PyProof.Rows.boot_tuple (Ě (ğ (ĝ (dU (ğ (ś ["Thing","Post","Fence","Sail","Cloth","House"] (Z4 T) (Ă 0))) (bK (v_var 1)) (bK (v_add (Ă 1) Ć))))) Ĥ)))
def Yx(T:Tx K mg a):ĥ P w K mg base Ŧ 3 a.Ik a.Tq ["self"] (š ⟨K,Ĵ a⟩ 1 lJ):=by
 refine ļ T.eY.F IV λ_ _ _ _ _ _ hr _=>?_
 exact Ľ IV (ő (ś ["Thing","Post","Fence","Sail","Cloth","House"] (Z4 T) (Ă 0))) (Ł (ĉ (Ug T) T.aX hr Č (Đ (Ņ (Ă 1) Ć) (Đ (Ņ (Ă 1) Ć) (Đ (Ņ (Ă 1) Ć) (Đ (Ņ (Ă 1) Ć) (Đ (Ņ (Ă 1) Ć) Ď)))))))
def Jo(T:Tx K mg a):ĥ P w K mg base Ŧ 4 a.Rn a.Tr ["thing","ray"] (š ⟨K,Ĵ a⟩ 2 rZ):=by
 refine ļ T.bT.F XJ λ_ _ _ _ _ _ hr _=>?_
 exact Ł (dW (cA (ĝ (uq (Dz:= "corners") (k:=3) (n:=1) (gP:=[("Post",lE),("Fence",lF),("Sail",lG),("Cloth",lH),("House",lJ)]) ⟨⟨T.pK,_,_,_,T.pN,(Yt T).mono (by decide),T.gJ.b,ľ⟩,⟨⟨T.jG,_,_,_,T.mD,(Yu T).mono (by decide),T.eV.b,ľ⟩,⟨⟨T.pO,_,_,_,T.pQ,(Yv T).mono (by decide),T.gK.b,ľ⟩,⟨⟨T.jJ,_,_,_,T.mG,(Yw T).mono (by decide),T.eX.b,ľ⟩,⟨⟨T.jK,_,_,_,T.mJ,(Yx T).mono (by decide),T.eY.b,ľ⟩,trivial⟩⟩⟩⟩⟩ hr.mo Č (v_var 0)))) aR ŉ (ĝ (ĉ (Jl T) T.zW hr Č (ď 1 (ď 0 Ď)))))
def Yy(T:Tx K mg a):ĥ P w K mg base Ŧ 2 a.Ro a.Tt ["stone","ray"] (š ⟨K,Ĵ a⟩ 2 BW):=by
 refine ļ T.jD.F XM λ_ _ _ _ _ _ hr _=>?_
 exact Ł (ĉ (Jl T) T.zW hr Č (Đ (ĵ (Ą (v_mul Ć (ĳ (Ă 0) Ć)) (Ą (v_mul Ć (ĳ (Ă 0) Ć)) (Ą Ħ Ĝ)))) (ď 1 Ď)))
def Yz(T:Tx K mg a):ĥ P w K mg base Ŧ 6 a.Rq a.Tw ["thing","stone","ray"] (š ⟨K,Ĵ a⟩ 3 BX):=by
 refine ļ T.sI.F XQ λ_ _ _ _ _ _ hr _=>?_
 exact Ł (ĉ (Ys T) T.Im hr Č (Đ (ĝ (ĉ (Jo T) T.bT hr Č (ď 0 (ď 2 Ď)))) (Đ (ĝ (ĉ (Yy T) T.jD hr Č (ď 1 (ď 2 Ď)))) Ď)))
def YB(T:Tx K mg a):ĥ P w K mg base Ŧ 7 a.Rr a.Tz ["thing","stone","ray"] (š ⟨K,Ĵ a⟩ 3 su):=by
 refine ļ T.xr.F XR λ_ _ _ _ _ _ hr hu=>?_
 exact Ň (v_eq hu (ĳ (ğ (ĝ (ĉ (Yz T) T.sI hr Č (ď 0 (ď 1 (ď 2 Ď)))))) Ć) oV)
def Jp(T:Tx K mg a):ĥ P w K mg base Ŧ 8 a.Rt a.TF ["_law_size_here","_law_thing_here","_law_ray_here"] (š ⟨K,Ĵ a⟩ 3 gC):=by
 refine ļ T.i_.F pU λ_ _ _ _ _ _ hr _=>?_
 exact Ľ pU (ő Ħ) (ė (aZ PassesOwn.leaving rfl (Ů rfl T.aN (Ą (Ņ (Ă 0) Ć) Ĝ)) (aV pU) (Ī (aZ PassesOwn.leaving rfl (Ů rfl T.aN (Ą (Ņ (Ă 0) Ć) Ĝ)) (aV pU) (Ī (Ŝ (ž (ğ (ĝ (ĉ (YB T) T.xr hr Č (ď 1 (Đ (ĵ (Ą (v_var 5) (Ą (v_var 4) Ĝ))) (ď 2 Ď))))))) (Ī (qD pU (jw (Ă 3) (ğ (cg n_ oh Ć (cC (Ŕ (Ă 4) (ĳ (Ă 0) Ć)) (Ă 5))))))) İ))))) (Ł (fQ 3)))
def Ag(T:Tx K mg a):ĥ P w K mg base Ŧ 1 a.Ru a.TJ ["_law_found"] (š ⟨K,Ĵ a⟩ 1 sy):=by
 refine ļ T.bB.F XS λ_ _ _ _ _ _ _ _=>?_
 exact Ň (v_and (ż ug um T.bC PyProof.Rows.boot_isinstance (Ě (Ă 0) (Ě (ğ (Dv (.ty "int") (mO (v:=.ty "int") rfl T.Uc PyProof.Rows.boot_int rfl))) Ĥ))) (fV (v_not (ż ug um T.bC PyProof.Rows.boot_isinstance (Ě (Ă 0) (Ě (ğ (Dv (.ty "bool") (mO (v:=.ty "bool") rfl T.Xl PyProof.Rows.boot_bool rfl))) Ĥ))))))
def kY(T:Tx K mg a):ĥ P w K mg base Ŧ 2 a.Rv a.TQ ["_law_found","_law_due"] (š ⟨K,Ĵ a⟩ 2 aC):=by
 refine ļ T.Ŗ.F X_ λ_ _ _ _ _ _ hr hu=>?_
 exact Ň (v_and (ĝ (ĉ (Ag T) T.bB hr Č (ď 0 Ď))) (fV (v_eq hu (Ă 0) (Ă 1))))
def aY(T:Tx K mg a):ĥ P w K mg base Ŧ 1 a.lM a.TV ["self"] (š ⟨K,Ĵ a⟩ 1 Ĩ):=by
 refine ļ T.Ĭ.F Yb λ_ _ _ _ _ _ _ _=>?_
 exact Ň (Zd3 PySem.F.plainAttrs_str PySem.F.slot_str_join PySem.F.type_str_join Ls Ky oV (Ě (cC (ğ (ĝ (Ő (Ą (ś ["Thing","Post","Fence","Sail","Cloth","House"] (Zp T) (Ă 0)) Ĝ)))) (ğ (ĝ (dW (cA (ś ["Thing","Post","Fence","Sail","Cloth","House"] (Z4 T) (Ă 0))) aR ŉ (Xb WL WM T.ZbT PyProof.Rows.boot_str (Ě (Ă 0) Ĥ)))))) Ĥ))
def Jq(T:Tx K mg a):ĥ P w K mg base Ŧ 2 a.Rw a.TX ["_law_yard","_law_size_here","_law_things","_law_ray_here"] (š ⟨K,Ĵ a⟩ 4 lK):=by
 refine ļ T.cU.F Yc λ_ _ _ _ _ _ hr hu=>?_
 exact ė (Ŝ (PW.pt (w_or (iw (ž (ğ (ĝ (ĉ (Ag T) T.bB hr Č (Đ (ś ["Yard"] (Zl T) (Ă 0)) Ď)))))) (w_or (iw (ž (ğ (ĝ (ĉ (Ag T) T.bB hr Č (Đ (ś ["Yard"] (Zm T) (Ă 0)) Ď)))))) (Bk (GR hu (ğ (ĵ (Ą (ś ["Yard"] (Zl T) (Ă 0)) (Ą (ś ["Yard"] (Zm T) (Ă 0)) Ĝ)))) (Ă 1)))))) (Ň vX) İ) (ė (Ŝ (PW.pt (w_or (iw (ž (ğ (ż ug um T.bC PyProof.Rows.boot_isinstance (Ě (ğ (ś ["Yard"] (Zn T) (Ă 0))) (Ě (ğ (Dv (.ty "list") (mO (v:=.ty "list") rfl T.aJ PyProof.Rows.boot_list rfl))) Ĥ)))))) (Bk (GR hu (ğ (ż fL gq T.lU PySem.boot_len (Ě (ğ (ś ["Yard"] (Zn T) (Ă 0))) Ĥ))) (ğ (ż fL gq T.lU PySem.boot_len (Ě (Ă 2) Ĥ))))))) (Ň vX) İ) (ė (Ŝ (GR hu (ğ (ĝ (dW (cA (ś ["Yard"] (Zn T) (Ă 0))) aR ŉ (ĝ (uq (Dz:= "shown") (k:=1) (n:=1) (gP:=[("Thing",Ĩ),("Post",Ĩ),("Fence",Ĩ),("Sail",Ĩ),("Cloth",Ĩ),("House",Ĩ)]) ⟨⟨T.nq,_,_,_,T.iG,(aY T).mono (by decide),T.Ĭ.b,ľ⟩,⟨⟨T.pK,_,_,_,T.jF,(aY T).mono (by decide),T.Ĭ.b,ľ⟩,⟨⟨T.jG,_,_,_,T.iH,(aY T).mono (by decide),T.Ĭ.b,ľ⟩,⟨⟨T.pO,_,_,_,T.jH,(aY T).mono (by decide),T.Ĭ.b,ľ⟩,⟨⟨T.jJ,_,_,_,T.iI,(aY T).mono (by decide),T.Ĭ.b,ľ⟩,⟨⟨T.jK,_,_,_,T.iJ,(aY T).mono (by decide),T.Ĭ.b,ľ⟩,trivial⟩⟩⟩⟩⟩⟩ hr.mo Č (v_var 0)))))) (ğ (ĝ (dW (Ŵ 2) aR ŉ (ĝ (uq (Dz:= "shown") (k:=1) (n:=1) (gP:=[("Thing",Ĩ),("Post",Ĩ),("Fence",Ĩ),("Sail",Ĩ),("Cloth",Ĩ),("House",Ĩ)]) ⟨⟨T.nq,_,_,_,T.iG,(aY T).mono (by decide),T.Ĭ.b,ľ⟩,⟨⟨T.pK,_,_,_,T.jF,(aY T).mono (by decide),T.Ĭ.b,ľ⟩,⟨⟨T.jG,_,_,_,T.iH,(aY T).mono (by decide),T.Ĭ.b,ľ⟩,⟨⟨T.pO,_,_,_,T.jH,(aY T).mono (by decide),T.Ĭ.b,ľ⟩,⟨⟨T.jJ,_,_,_,T.iI,(aY T).mono (by decide),T.Ĭ.b,ľ⟩,⟨⟨T.jK,_,_,_,T.iJ,(aY T).mono (by decide),T.Ĭ.b,ľ⟩,trivial⟩⟩⟩⟩⟩⟩ hr.mo Č (v_var 0))))))) (Ň vX) İ) (Ň (v_and (ż ug um T.bC PyProof.Rows.boot_isinstance (Ě (ğ (ś ["Yard"] (ZM T) (Ă 0))) (Ě (ğ (Dv (.ty "list") (mO (v:=.ty "list") rfl T.aJ PyProof.Rows.boot_list rfl))) Ĥ))) (fV (v_eq hu (ğ (ś ["Yard"] (ZM T) (Ă 0))) (ğ (ĝ (Ő (Ą (ĵ (Ą iu (Ą Ħ (Ą (ĝ (Ő (Ą (v_var 3) (Ą vY Ĝ)))) Ĝ)))) (Ą (ĵ (Ą iu (Ą Ħ (Ą (ĝ (Ő (Ą vY Ĝ))) Ĝ)))) Ĝ)))))))))))
def Jr(T:Tx K mg a):ĥ P w K mg base Ŧ 1 a.Rx a.TY ["first","last"] (š ⟨K,Ĵ a⟩ 2 sE):=by
 refine ļ T.gM.F Yd λ_ _ _ _ _ _ _ _=>?_
 exact ė (Ŝ (dZ ou nJ (Ă 1) (Ă 0) (ŕ _)) (Ň Ħ) İ) (Ň (v_sub (ğ (cg n_ oh Ć (cC (Ă 1) Ć))) (ğ (cg n_ oh Ć (Ă 0)))))
def YC(T:Tx K mg a):ĥ P w K mg base Ŧ 2 a.Ry a.T_ ["lines","unit","q","width"] (š ⟨K,Ĵ a⟩ 4 xq):=by
 refine ļ T.pI.F cV λ_ _ _ _ _ _ hr _=>?_
 exact Ľ cV (ő Ħ) (Ľ cV (ő (v_sub (Ă 3) Ć)) (ė (aZ PassesOwn.leaving rfl (Ŵ 0) (Bo rfl (Œ (aV cV) (Œ (aV cV) (Œ (aV cV) iT)))) (Ľ cV (ő (v_mul (Ă 6) (Ă 1))) (Ľ cV (ő (v_sub (Ă 8) (Ŕ (Ŕ (Ă 7) (Ă 1)) (Ă 2)))) (Ī (Ŝ (dZ Nr Nb (Ă 9) Ć (ŕ _)) (Ī (qD cV (ő (ż (tK rfl) ud T.xH PyProof.Rows.boot_min (Ě (Ă 5) (Ě (ju (Ă 10) (Ă 9)) Ĥ)))))) (Ī (Ŝ (dZ ou nJ (Ă 9) Ć (ŕ _)) (Ī (qD cV (ő (ż (Km rfl) Li T.xG PyProof.Rows.boot_max (Ě (Ă 4) (Ě (ğ (vZ gk dG (ju (Ă 10) (ğ (vZ gk dG (Ă 9)))))) Ĥ)))))) (Ī (Ŝ (dZ ou nJ (Ă 10) Ć (ŕ _)) (Ň Ħ) İ))))))))) (Ł (ĉ (Jr T) T.gM hr Č (ď 4 (ď 5 Ď))))))
def Ah(T:Tx K mg a):ĥ P w K mg base Ŧ 5 a.Rz a.Ua ["yard","thing","ray"] (š ⟨K,Ĵ a⟩ 3 cD):=by
 refine ļ T.gY.F pW λ_ _ _ _ _ _ hr _=>?_
 exact Ľ pW (ĉ (Jh T) T.cQ hr Č (Đ (ĝ (ĉ (Jo T) T.bT hr Č (ď 1 (ď 2 Ď)))) Ď)) (Ľ pW (ő Ħ) (ė (aZ PassesOwn.leaving rfl (Ů rfl T.aN (Ą (ś ["Yard"] (Zm T) (Ă 0)) Ĝ)) (aV pW) (Ī (GD (i:=4) pW.nd rfl (Or.inl rfl) (cg n_ oh (ğ (ĝ (ĉ (YC T) T.pI hr Č (ď 3 (Đ (v_mul Ć (ĳ (Ă 2) Ć)) (ď 5 (Đ (ś ["Yard"] (Zl T) (Ă 0)) Ď))))))) (Ŕ (Ă 5) (ğ (ś ["Yard"] (Zl T) (Ă 0)))))))) (Ł (fQ 4))))
def Zb5(T:Tx K mg a):ĥ P w K mg base Ŧ 6 a.ZbI a.ZbR ["yard","ray"] (š ⟨K,Ĵ a⟩ 2 Mg):=by
 refine ļ T.cH.F Zb0 λ_ _ _ _ _ _ hr _=>?_
 exact Ł (dW (cA (ś ["Yard"] (Zn T) (Ă 0))) aR ŉ (ĝ (ĉ (Ah T) T.gY hr Č (ď 0 (ď 2 (ď 1 Ď))))))
def vH(T:Tx K mg a):ĥ P w K mg base Ŧ 7 a.RD a.Ub ["yard","turn"] (š ⟨K,Ĵ a⟩ 2 Ź):=by
 refine ļ T.pJ.F vG λ_ _ _ _ _ _ hr _=>?_
 exact ė (Ŝ (dZ Nv DY (Ă 1) NZ (ŕ _)) (Ł (ĉ (Jr T) T.gM hr Č (Đ Ħ (Đ (v_sub (Ŕ (ğ (ś ["Yard"] (Zl T) (Ă 0))) (ğ (ś ["Yard"] (Zm T) (Ă 0)))) Ć) Ď)))) İ) (Ľ vG (ő Ħ) (ė (aZ PassesOwn.leaving rfl (cA (ĝ (ĉ (Zb5 T) T.cH hr Č (ď 0 (ď 1 Ď))))) (aV vG) (Ī (GD (i:=2) vG.nd rfl (Or.inl rfl) (v_var 3)))) (Ł (fQ 2))))
def YD(T:Tx K mg a):ĥ P w K mg base Ŧ 9 a.RG a.Il ["_law_script"] (š ⟨K,Ĵ a⟩ 1 sG):=by
 refine ļ T.Io.F Ū λ_ _ _ _ _ _ hr hu=>?_
 exact Ľ Ū (ĉ (Ye T) T.lN hr Č (Đ (ĝ (ĉ (pZ T) T.bF hr Č (ď 0 (Đ Ħ Ď)))) (Đ Ħ Ď))) (Ľ Ū (ĉ (Yg T) T.pH hr Č (Đ (ĝ (ĉ (pZ T) T.bF hr Č (ď 0 (Đ Ħ Ď)))) Ď)) (ė (LC Ū (cA (ĝ (dU (Ă 0) (bK Ħ) (bK Ħ)))) aR ŉ (ĝ (ĉ (Ja T) T.dX hr Č (ď 1 (Đ (ż (ur rfl) uw T.xG PyProof.Rows.boot_max (Ě (Ă 0) Ĥ)) Ď))))) (ė (Ŝ (t_eq hu (Ũ (ju (ğ (ĝ (ĉ (pZ T) T.bF hr Č (ď 0 (Đ Ħ Ď))))) Ć) Ć) Ć) (Ľ Ū (ő (Ņ (ğ (ĝ (Ő (Ą (ĵ (Ą Ħ (Ą Ħ Ĝ))) (Ą (ĵ (Ą Ħ (Ą Ħ Ĝ))) Ĝ))))) (Ũ (ju (ğ (ĝ (ĉ (pZ T) T.bF hr Č (ď 0 (Đ Ħ Ď))))) Ć) Ć))) (Ī (qD Ū (dU (Ă 3) yZ (bK Ħ))))) İ) (Ľ Ū (dW (Ŵ 3) (Bo rfl (Œ aR (Œ aR iT))) ŉ (ĝ (ĉ (Jf T) T.iZ hr Č (ď 0 (Đ (ĝ (qF aj aL T.aJ PyProof.Rows.boot_list (Ě (Ă 1) Ĥ))) Ď))))) (Zbg (sS (i:=5) Ū.nd rfl (Or.inl rfl) (jR aj (by rfl) T.aJ PyProof.Rows.boot_list (Ĺ (pv 4) aF))) (sS (i:=6) Ū.nd rfl (Or.inl rfl) (sW (Ĺ (yH (Ĺ yc (Ĺ fG (Ĺ (sW (Ĺ (pv 2) (Ĺ xZ aF))) aF)))) (Ĺ (yH (Ĺ yc (Ĺ fG (Ĺ (sW (Ĺ xZ aF)) aF)))) aF)))) (sS (i:=7) Ū.nd rfl (by first|exact Or.inl rfl|exact Or.inr rfl) (Zbf T.Ip (xP T) hr.mo rfl (Z0L T) T.aW.b Č (Ĺ (vP nF (pv 1) fG (λ_ _=>rfl)) (Ĺ (vP nF (pv 1) fG (λ_ _=>rfl)) (Ĺ (pv 5) (Ĺ (pv 6) aF)))))) aG (PW.pt (Mw (JQ (Xd hu) (pv 5) (pv 4) (ŕ _)) (Bk (iw (ž (ğ (ĝ (ĉ (Jq T) T.cU hr Č (ď 7 (ď 1 (ď 4 (ď 2 Ď)))))))))))) (Ň vX) (bx (yL PySem.F.plainAttrs_list PySem.F.slot_list_clear PySem.F.type_list_clear nH (pv 5))) (bx (yL PySem.F.plainAttrs_list PySem.F.slot_list_clear PySem.F.type_list_clear nH (vP nF (vP nF (pv 6) fG (λ_ _=>rfl)) fG (λ_ _=>rfl)))) (bx (yL PySem.F.plainAttrs_list PySem.F.slot_list_clear PySem.F.type_list_clear nH (pv 6))) (Ľ Ū (dW (Ŵ 4) aR ŉ (ĝ (ĉ (Jp T) T.i_ hr Č (ď 0 (ď 2 (ď 1 Ď)))))) (Ľ Ū (ĉ (Yh T) T.lO hr Č (ď 8 Ď)) (ė (Ŝ (PW.pt (w_or (iw (ž (ğ (ĝ (ĉ (kY T) T.Ŗ hr Č (Đ (ĝ (ĉ (vH T) T.pJ hr Č (ď 7 (Đ vY Ď)))) (Đ (v_sub (ğ (cg n_ oh Ć (Ŕ (ĳ (Ă 1) Ć) (ĳ (Ă 1) Ć)))) Ć) Ď))))))) (Bk (iw (ž (ğ (ĝ (ĉ (kY T) T.Ŗ hr Č (Đ (ĝ (ĉ (vH T) T.pJ hr Č (ď 7 (ď 2 Ď)))) (ď 9 Ď)))))))))) (Ň vX) İ) (ė (Ŝ (iw (ž (ğ (ż (nP rfl) oJ T.xu PyProof.Rows.boot_all (Ě (ğ (ĝ (dW (Ů rfl T.aN (Ą (ż fL gq T.lU PySem.boot_len (Ě (Ă 4) Ĥ)) Ĝ)) aR ŉ (ĝ (ĉ (kY T) T.Ŗ hr Č (Đ (ĝ (ĉ (Ah T) T.gY hr Č (ď 0 (Đ (Ņ (Ă 3) (Ă 4)) (ď 1 Ď))))) (Đ (Ņ (Ă 2) (Ă 4)) Ď))))))) Ĥ))))) (Ň vX) İ) (ė (Fx (ĝ (ĉ (Ja T) T.dX hr Č (Đ (ĝ (ĉ (pZ T) T.bF hr Č (ď 0 (Đ Ħ Ď)))) (Đ (ż (ur rfl) uw T.xG PyProof.Rows.boot_max (Ě (Ă 1) Ĥ)) Ď)))) (GQ rfl (Œ (aV Ū) (Œ (aV Ū) iT)))) (Ľ Ū (ĉ (Jf T) T.iZ hr Č (ď 12 (Đ (ĝ (qF aj aL T.aJ PyProof.Rows.boot_list (Ě (Ă 13) Ĥ))) Ď))) (ė (Ŝ (iw (ž (ğ (ĝ (ĉ (kY T) T.Ŗ hr Č (Đ (ĝ (ĉ (Ah T) T.gY hr Č (ď 7 (ď 10 (ď 2 Ď))))) (Đ (ĝ (ĉ (Jp T) T.i_ hr Č (ď 1 (ď 10 (ď 2 Ď))))) Ď))))))) (Ň vX) İ) (Ľ Ū (ő (jX T.Ip (xP T) aG hr.mo rfl (Z0L T) T.aW.b Č (Đ (Ņ (Ă 1) Ć) (Đ (Ņ (Ă 1) Ć) (Đ (ĝ (Za3 (Ă 4))) (Đ (ĝ (Ő Ĝ)) Ď)))))) (ė (Ŝ (iw (ž (ğ (ĝ (ĉ (kY T) T.Ŗ hr Č (Đ (ĝ (ĉ (vH T) T.pJ hr Č (ď 11 (ď 2 Ď)))) (ď 9 Ď))))))) (Ň vX) İ) (Ň (v_and (ĝ (ĉ (kY T) T.Ŗ hr Č (Đ (ĝ (ĉ (vH T) T.pJ hr Č (ď 7 (ď 2 Ď)))) (ď 9 Ď)))) (fV (ĝ (ĉ (Jq T) T.cU hr Č (ď 7 (ď 1 (ď 4 (ď 2 Ď)))))))))))))))))) (by decide) (by decide) (by decide) (by decide) (by decide) (by decide) (by decide) (by decide) (by decide))))))
end
def pt(p:Hu.Pt):PV:=.tup [.int p.1,.int p.2]
def bV(l:Hu.Ln):PV:=.tup [.int l.1,.int l.2.1,.int l.2.2]
def Sm(p:Hu.Pt):Prop:=-100000000000000000<=p.1/\p.1<=100000000000000000/\ -100000000000000000<=p.2/\p.2<=100000000000000000
def Uh(l:Hu.Ln):Prop:=-1000000000000000000<=l.1/\l.1<=1000000000000000000/\ -1000000000000000000<=l.2.1/\l.2.1<=1000000000000000000
def Z0j{x y:Hu.Pt}:eqB (pt y) (pt x)=decide (y=x):=by
 obtain⟨a,b⟩:=x
 obtain⟨c,d⟩:=y
 unfold pt
 rw[W_,Bool.eq_iff_iff]
 simp
def ZU(x:Hu.Pt):ű (pt x)=true:=by simp[pt,ű,aU]
def ZN(x:Hu.Pt):dep (pt x)=1:=by simp[pt,dep,oE]
def Z2x(S:List Hu.Pt):aU (S.map pt)=true:=by
 induction S with
 |nil=>simp[aU]
 |cons p S ih=>simp[aU,ZU,ih]
theorem Z1i(x:Hu.Pt):∀k:List Hu.Pt,(k.map pt).any (λy=>eqB y (pt x))=decide (x∈k)
 | []=>by simp
 |y::k=>by
  rw[List.map_cons,List.any_cons,Z1i x k,Z0j,Bool.eq_iff_iff]
  simp
  constructor
  ·rintro (e|e)
   ·exact .inl e.symm
   ·exact .inr e
  ·rintro (e|e)
   ·exact .inl e.symm
   ·exact .inr e
def Z0k(x:Hu.Pt)(k:List Hu.Pt):inD true (pt x) (.lst (k.map pt))=some (.bl (!decide (x∈k))):=by
 unfold inD
 simp only[ZU,Z2x,ZN,Z1i]
 rfl
def Z0U(x y:Hu.Pt):cL (pt x) (pt y)=some (.bl (!decide (x=y))):=by
 unfold cL qy
 rw[ZU,ZU,ZN,ZN,Z0j]
 rfl
def Z29{a b:Hu.Pt}(ha:Sm a)(hb:Sm b):BL [.sh (pt a),.sh (pt b)]=.ret (.sh (bV (Hu.Z3 a b))):=by
 obtain⟨a1,a2,a3,a4⟩:=ha
 obtain⟨b1,b2,b3,b4⟩:=hb
 have m1:ń (b.2-a.2) a.1=true:=Ÿ (by omega) (by omega)
 have m2:ń (a.1-b.1) a.2=true:=Ÿ (by omega) (by omega)
 simp[BL,Hl,List.replicate,pt,bV,Hu.Z3,m1,m2]
def Z0l{l:Hu.Ln}(hl:Uh l)(p:Hu.Pt):pB [.sh (bV l),.sh (pt p)]=.ret (.sh (.bl (Hu.hd l p))):=by
 obtain⟨a1,a2,a3,a4⟩:=hl
 have m1:ń l.1 p.1=true:=Ÿ (by omega) (by omega)
 have m2:ń l.2.1 p.2=true:=Ÿ (by omega) (by omega)
 simp[pB,Ho,List.replicate,pt,bV,Hu.hd,m1,m2]
def Z0M{a b:Hu.Pt}(ha:Sm a)(hb:Sm b):Uh (Hu.Z3 a b):=by
 obtain⟨a1,a2,a3,a4⟩:=ha
 obtain⟨b1,b2,b3,b4⟩:=hb
 simp only[Uh,Hu.Z3]
 omega
def Sl(s:P.Slot)(ps:List PV):Prop:=s=.sh (.lst ps)\/s=.bw ps
def Sl.lend{s:P.Slot}{ps:List PV}(h:Sl s ps):cj s=some s:=by rcases h with rfl|rfl<;>rfl
def Sl.it{s:P.Slot}{ps:List PV}(h:Sl s ps){i:Nat}{ρ:ķ}(e:ρ[i]?=some s):ŋ i ρ=.ok ps ρ:= by
 rcases h with rfl|rfl<;>simp[e]
def Z2a{S:List Hu.Pt}{sl:P.Slot}(hs:Sl sl (S.map pt))(hl:S.length<=1000):BK [sl]=.ret (.ow ((Hu.Z2 S).map pt)):=by
 have hlen:∀(xs k:List Hu.Pt),(xs.foldl (λk x=>if x∈k then k else k ++ [x]) k).length<=k.length+xs.length:=by
  intro xs
  induction xs with
  |nil=>intro k;simp
  |cons x xs ih=>
   intro k
   rw[List.foldl_cons]
   refine Nat.le_trans (ih _) ?_
   split
   ·simp
   ·simp;omega
 have key:∀(xs:List Hu.Pt) (k:List Hu.Pt) (s2:P.Slot),k.length+xs.length<=1000->∃s2',forL (gN 2) kE (xs.map pt) [sl,.ow (k.map pt),s2]=.ok .nx [sl,.ow ((xs.foldl (λk x=>if x∈k then k else k ++ [x]) k).map pt),s2']:=by
  intro xs
  induction xs with
  |nil=>intro k s2 _;exact⟨s2,rfl⟩
  |cons x xs ih=>
   intro k s2 hk
   rw[List.length_cons] at hk
   by_cases hx:x∈k
   ·obtain⟨s2',e⟩:=ih k (.sh (pt x)) (by omega)
    refine⟨s2',?_⟩
    have hb:kE [sl,.ow (k.map pt),.sh (pt x)]=.ok .nx [sl,.ow (k.map pt),.sh (pt x)]:=by simp[kE,Z0k,hx]
    rw[List.map_cons,List.foldl_cons,if_pos hx,forL]
    simp[hb,e]
   ·obtain⟨s2',e⟩:=ih (k ++ [x]) (.sh (pt x)) (by simp;omega)
    refine⟨s2',?_⟩
    have h3:k.length<16777216:=by omega
    have hb:kE [sl,.ow (k.map pt),.sh (pt x)]=.ok .nx [sl,.ow ((k ++ [x]).map pt),.sh (pt x)]:=by simp[kE,Z0k,hx,h3]
    rw[List.map_cons,List.foldl_cons,if_neg hx,forL]
    simp only[Gj,List.set_cons_succ,List.set_cons_zero,hb,Res.Ű]
    exact e
 obtain⟨s2,e⟩:=key S [] .no (by simpa using hl)
 have hit:=hs.it (i:=0) (ρ:= [sl,.ow [],.no]) rfl
 simp only[List.map_nil] at e
 simp[BK,Hj,List.replicate,-za,hit,e]
 rfl
def Z1j(x:Int)(l:List Int):cB [.lst ((x::l).map .int)]=some (.int (Hu.mx (x::l))):=by
 show((intsOf ((x::l).map .int)).bind (best max)).map PV.int=_
 rw[iU]
 rfl
def Z1k(x:Int)(l:List Int):rG [.lst ((x::l).map .int)]=some (.int (Hu.mn (x::l))):=by
 show((intsOf ((x::l).map .int)).bind (best min)).map PV.int=_
 rw[iU]
 rfl
def Z2y{S:List Hu.Pt}{sl:P.Slot}(hs:Sl sl (S.map pt))(h0:S≠[])(hl:S.length<=1000):BJ [sl]=.ret (.ow ((Hu.box S).map bV)):=by
 have c1:ĺ (gN 0) ı (ą Ė (Ā 0) (mC (.int 0))) (S.map pt) [.no] []=some ((S.map (·.1)).map .int):=by
  have:=Ļ (g:=gN 0) (mt:=ı) (me:=ą Ė (Ā 0) (mC (.int 0))) pt (λp=>.int p.1) (λρ=>∃s,ρ=[s]) S [.no] [] ⟨_,rfl⟩ (by simp;omega) (by
   rintro x hx ρ ⟨s,rfl⟩
   exact⟨[.sh (pt x)],[.sh (pt x)],[.sh (pt x)],by simp,by simp,by simp[pt],_,rfl⟩)
  rw[this]
  simp
 have c2:ĺ (gN 0) ı (ą Ė (Ā 0) (mC (.int 1))) (S.map pt) [.no] []=some ((S.map (·.2)).map .int):=by
  have:=Ļ (g:=gN 0) (mt:=ı) (me:=ą Ė (Ā 0) (mC (.int 1))) pt (λp=>.int p.2) (λρ=>∃s,ρ=[s]) S [.no] [] ⟨_,rfl⟩ (by simp;omega) (by
   rintro x hx ρ ⟨s,rfl⟩
   exact⟨[.sh (pt x)],[.sh (pt x)],[.sh (pt x)],by simp,by simp,by simp[pt],_,rfl⟩)
  rw[this]
  simp
 obtain⟨p,R,rfl⟩:=List.exists_cons_of_ne_nil h0
 have x1:=Z1j p.1 (R.map (·.1))
 have x2:=Z1k p.1 (R.map (·.1))
 have x3:=Z1j p.2 (R.map (·.2))
 have x4:=Z1k p.2 (R.map (·.2))
 have hit:∀s1 s2,ŋ 0 [sl,s1,s2]=.ok ((p::R).map pt) [sl,s1,s2]:=λs1 s2=>hs.it rfl
 have b:(Hu.box (p::R)).map bV=[.tup [.int 1,.int 0,.int (Hu.mx (p.1::R.map (·.1)))],.tup [.int (-1),.int 0,.int (- Hu.mn (p.1::R.map (·.1)))],.tup [.int 0,.int 1,.int (Hu.mx (p.2::R.map (·.2)))],.tup [.int 0,.int (-1),.int (- Hu.mn (p.2::R.map (·.2)))]]:=rfl
 rw[b]
 generalize (p::R).map pt=ps at hit c1 c2
 rw[List.map_cons] at c1 c2
 generalize (p.1::R.map (·.1)).map PV.int=us at c1 x1 x2
 generalize (p.2::R.map (·.2)).map PV.int=vs at c2 x3 x4
 simp[BJ,Hi,List.replicate,-za,-Lp,-Lq,hit,c1,c2,x1,x2,x3,x4]
theorem Z0a:∀l:List Bool,boolsOf (l.map .bl)=some l
 | []=>rfl
 |x::l=>by rw[List.map_cons,boolsOf,Z0a l];rfl
def Z1l(l:List Bool):jW [.lst (l.map .bl)]=some (.bl (l.all id)):=by
 show(boolsOf (l.map .bl)).map (λbs=>PV.bl (bs.all id))=_
 rw[Z0a]
 rfl
def ZE(S:List Hu.Pt):(Hu.Z2 S).length<=S.length:=by
 have:∀(xs k:List Hu.Pt),(xs.foldl (λk x=>if x∈k then k else k ++ [x]) k).length<=k.length+xs.length:=by
  intro xs
  induction xs with
  |nil=>intro k;simp
  |cons x xs ih=>
   intro k
   rw[List.foldl_cons]
   refine Nat.le_trans (ih _) ?_
   split
   ·simp
   ·simp;omega
 have h:=this S []
 rw[List.length_nil,Nat.zero_add] at h
 exact h
def Z1m{S:List Hu.Pt}(hS:∀p∈S,Sm p)(hl:S.length<=1000){a b:Hu.Pt}(ha:a∈S)(hb:b∈S)(s0 s5:P.Slot)(L:List Hu.Ln)(hL:L.length<16777216) :
 kI [s0,.ow (L.map bV),.sh (.lst ((Hu.Z2 S).map pt)),.sh (pt a),.sh (pt b),s5]=.ok .nx [s0,.ow ((L++(if a≠b/\(Hu.Z2 S).all (Hu.hd (Hu.Z3 a b)) then[Hu.Z3 a b] else[])).map bV),.sh (.lst ((Hu.Z2 S).map pt)),.sh (pt a),.sh (pt b),.sh (bV (Hu.Z3 a b))]:=by
 have hsm:=Z0M (hS a ha) (hS b hb)
 have c1:ĺ (gN 1) ı (č (ċ pB (ā 0 (ā 1 Ĉ)))) ((Hu.Z2 S).map pt) [.sh (bV (Hu.Z3 a b)),.no] []=some (((Hu.Z2 S).map (Hu.hd (Hu.Z3 a b))).map .bl):=by
  have hlen:(Hu.Z2 S).length<=16777216:=by have:=ZE S;omega
  have:=Ļ (g:=gN 1) (mt:=ı) (me:=č (ċ pB (ā 0 (ā 1 Ĉ)))) pt (λp=>.bl (Hu.hd (Hu.Z3 a b) p)) (λρ=>∃s,ρ=[.sh (bV (Hu.Z3 a b)),s]) (Hu.Z2 S) [.sh (bV (Hu.Z3 a b)),.no] [] ⟨_,rfl⟩ (by simpa using hlen) (by
   rintro x hx ρ ⟨s,rfl⟩
   exact⟨[.sh (bV (Hu.Z3 a b)),.sh (pt x)],[.sh (bV (Hu.Z3 a b)),.sh (pt x)],[.sh (bV (Hu.Z3 a b)),.sh (pt x)],by simp,by simp,by simp[Z0l hsm],_,rfl⟩)
  rw[this]
  simp
 have c2:=Z1l ((Hu.Z2 S).map (Hu.hd (Hu.Z3 a b)))
 have e1:=Z29 (hS a ha) (hS b hb)
 have e3:((Hu.Z2 S).map (Hu.hd (Hu.Z3 a b))).all id=(Hu.Z2 S).all (Hu.hd (Hu.Z3 a b)):=by simp
 rw[e3] at c2
 generalize ((Hu.Z2 S).map (Hu.hd (Hu.Z3 a b))).map PV.bl=bs at c1 c2
 by_cases h1:a=b
 ·subst h1
  simp[kI,e1,Z0U]
 ·by_cases h2:(Hu.Z2 S).all (Hu.hd (Hu.Z3 a b))=true
  ·rw[h2] at c2
   simp[kI,e1,Z0U,h1,c1,c2,h2,hL,-List.all_eq_true]
  ·rw[Bool.not_eq_true] at h2
   rw[h2] at c2
   simp[kI,e1,Z0U,h1,c1,c2,h2,hL,-List.all_eq_true,-List.all_eq_false]
def Z1K{S:List Hu.Pt}(hS:∀p∈S,Sm p)(hl:S.length<=1000){a:Hu.Pt}(ha:a∈S)(s0:P.Slot):∀(xs:List Hu.Pt) (L:List Hu.Ln) (s4 s5:P.Slot),(∀x∈xs,x∈S)->L.length+xs.length<16777216->
 ∃Jx KY,forL (gN 4) kI (xs.map pt) [s0,.ow (L.map bV),.sh (.lst ((Hu.Z2 S).map pt)),.sh (pt a),s4,s5]=.ok .nx [s0,.ow ((L++xs.filterMap λb=>if a≠b/\(Hu.Z2 S).all (Hu.hd (Hu.Z3 a b)) then some (Hu.Z3 a b) else none).map bV),.sh (.lst ((Hu.Z2 S).map pt)),.sh (pt a),Jx,KY]:=by
 intro xs
 induction xs with
 |nil=>intro L s4 s5 _ _;exact⟨s4,s5,by simp[forL]⟩
 |cons b xs ih=>
  intro L s4 s5 hx hL
  rw[List.length_cons] at hL
  have hb:=Z1m hS hl ha (hx b (by simp)) s0 s5 L (by omega)
  obtain⟨Jx,KY,e⟩:=ih (L++(if a≠b/\(Hu.Z2 S).all (Hu.hd (Hu.Z3 a b)) then[Hu.Z3 a b] else[])) (.sh (pt b)) (.sh (bV (Hu.Z3 a b))) (λx h=>hx x (List.mem_cons_of_mem _ h)) (by
   rw[List.length_append]
   split
   ·simp;omega
   ·simp;omega)
  refine⟨Jx,KY,?_⟩
  rw[List.map_cons,forL]
  simp only[Gj,List.set_cons_succ,List.set_cons_zero,hb,Res.Ű]
  rw[e,List.filterMap_cons]
  by_cases hc:a≠b/\(Hu.Z2 S).all (Hu.hd (Hu.Z3 a b))=true
  ·rw[if_pos hc,if_pos hc]
   simp only[List.append_assoc,List.cons_append,List.nil_append]
  ·rw[if_neg hc,if_neg hc]
   simp only[List.append_nil]
def ZK{α β:Type}(f:α->Option β)(l:List α):(l.filterMap f).length<=l.length:=List.length_filterMap_le ..
def Z1L{S:List Hu.Pt}(hS:∀p∈S,Sm p)(hl:S.length<=1000)(s0:P.Slot):∀(xs:List Hu.Pt) (L:List Hu.Ln) (s3 s4 s5:P.Slot),(∀x∈xs,x∈S)->L.length+xs.length*1000<10000000->
 ∃s3' Jx KY,forL (gN 3) uP (xs.map pt) [s0,.ow (L.map bV),.sh (.lst ((Hu.Z2 S).map pt)),s3,s4,s5]=.ok .nx [s0,.ow ((L++xs.flatMap λa=>(Hu.Z2 S).filterMap λb=>if a≠b/\(Hu.Z2 S).all (Hu.hd (Hu.Z3 a b)) then some (Hu.Z3 a b) else none).map bV),.sh (.lst ((Hu.Z2 S).map pt)),s3',Jx,KY]:=by
 intro xs
 induction xs with
 |nil=>intro L s3 s4 s5 _ _;exact⟨s3,s4,s5,by simp[forL]⟩
 |cons a xs ih=>
  intro L s3 s4 s5 hx hL
  rw[List.length_cons] at hL
  have ho:=ZE S
  obtain⟨a4,a5,e1⟩:=Z1K hS hl (hx a (by simp)) s0 (Hu.Z2 S) L s4 s5 (λx h=>Hu.Zk.mp h) (by omega)
  have hf:=ZK (λb=>if a≠b/\(Hu.Z2 S).all (Hu.hd (Hu.Z3 a b))=true then some (Hu.Z3 a b) else none) (Hu.Z2 S)
  obtain⟨s3',Jx,KY,e2⟩:=ih (L++(Hu.Z2 S).filterMap λb=>if a≠b/\(Hu.Z2 S).all (Hu.hd (Hu.Z3 a b))=true then some (Hu.Z3 a b) else none) (.sh (pt a)) a4 a5 (λx h=>hx x (List.mem_cons_of_mem _ h)) (by rw[List.length_append];omega)
  refine⟨s3',Jx,KY,?_⟩
  have hb:uP [s0,.ow (L.map bV),.sh (.lst ((Hu.Z2 S).map pt)),.sh (pt a),s4,s5]=.ok .nx [s0,.ow ((L++(Hu.Z2 S).filterMap λb=>if a≠b/\(Hu.Z2 S).all (Hu.hd (Hu.Z3 a b))=true then some (Hu.Z3 a b) else none).map bV),.sh (.lst ((Hu.Z2 S).map pt)),.sh (pt a),a4,a5]:=by
   unfold uP
   simp only[Gk,za,List.getElem?_cons_succ,List.getElem?_cons_zero,Res.Ű]
   exact e1
  rw[List.map_cons,forL]
  simp only[Gj,List.set_cons_succ,List.set_cons_zero,hb,Res.Ű]
  rw[e2,List.flatMap_cons,List.append_assoc]
def Z1M{S:List Hu.Pt}{sl:P.Slot}(hs:Sl sl (S.map pt))(hS:∀p∈S,Sm p)(hl:S.length<=1000):BP [sl]=.ret (.ow ((Hu.Zz S).map bV)):=by
 have h1:=Z2a hs hl
 have ho:=ZE S
 obtain⟨s3,s4,s5,e⟩:=Z1L hS hl sl (Hu.Z2 S) [] .no .no .no (λx h=>Hu.Zk.mp h) (by simp;omega)
 have he:[]++((Hu.Z2 S).flatMap λa=>(Hu.Z2 S).filterMap λb=>if a≠b/\(Hu.Z2 S).all (Hu.hd (Hu.Z3 a b))=true then some (Hu.Z3 a b) else none)=Hu.Zz S:=rfl
 rw[he] at e
 generalize Hu.Zz S=ed at e
 generalize (Hu.Z2 S).map pt=os at e h1
 simp only[List.map_nil] at e
 simp[BP,Hq,List.replicate,hs.lend,h1,e]
def Z1n(S:List Hu.Pt)(hl:S.length<=1000):(Hu.Zz S).length<=1000000:=by
 have ho:=ZE S
 have:∀(xs:List Hu.Pt) (f:Hu.Pt->List Hu.Ln),(∀x,(f x).length<=1000)->(xs.flatMap f).length<=xs.length*1000:=by
  intro xs f hf
  induction xs with
  |nil=>simp
  |cons x xs ih=>rw[List.flatMap_cons,List.length_append,List.length_cons];have:=hf x;omega
 refine Nat.le_trans (this (Hu.Z2 S) _ λx=>Nat.le_trans (ZK _ _) (by omega)) (by omega)
def Z0m{S:List Hu.Pt}{sl:P.Slot}(hs:Sl sl (S.map pt))(hS:∀p∈S,Sm p)(h0:S≠[])(hl:S.length<=1000):wX [sl]=.ret (.ow ((Hu.Zi S).map bV)):=by
 have h1:=Z2y hs h0 hl
 have h2:=Z1M hs hS hl
 have h3:ĭ (.lst ((Hu.box S).map bV)) (.lst ((Hu.Zz S).map bV))=some (.ow ((Hu.Zi S).map bV)):=by
  rw[add_l (by have:=Z1n S hl;simp[Hu.box];omega),<-List.map_append]
  rfl
 simp[wX,Hr,List.replicate,hs.lend,h1,h2,h3]
def Z1o{S:List Hu.Pt}{l:Hu.Ln}(h:l∈Hu.Zi S)(hS:∀p∈S,Sm p):Uh l:=by
 rcases List.mem_append.mp h with h|h
 ·unfold Hu.box at h
  simp only[List.mem_cons,List.not_mem_nil,or_false] at h
  rcases h with e|e|e|e<;>subst e<;>simp only[Uh]<;>omega
 ·obtain⟨a,ha,b,hb,_,_,rfl⟩:=Hu.Z1h.mp h
  exact Z0M (hS a ha) (hS b hb)
def Z0V(n:Nat):fZ 0 n 1=(List.range n).map λ(i:Nat)=>PV.int (i:Int):=by
 unfold fZ
 refine List.map_congr_left λi _=>?_
 simp
def ZF{n:Nat}(h:n<=1000):aQ [.int (n:Int)]=some ((List.range n).map λ(i:Nat)=>PV.int (i:Int)):=by
 have hs:nW (n:Int)=true:=by unfold nW;simp;omega
 unfold aQ
 simp[hs,Z0V]
def Ui(s:P.Slot)(ps:List PV):Prop:=s=.sh (.lst ps)\/s=.bw ps
def ů(x:Int):Bool:=decide (-1000000000<=x/\x<=1000000000)
def vI(x:Int):Bool:=decide (1<=x/\x<=1000000000)
def xQ(x:Int):Bool:=decide (0<=x/\x<=1000000000)
def ZX(x:Int):lB [.sh (.int x)]=.ret (.sh (.bl (ů x))):=by
 unfold ů
 by_cases h1: -1000000000<=x<;>by_cases h2:x<=1000000000<;>simp[lB,Hf,List.replicate,h1,h2]
def Z0b(x:Int):wR [.sh (.int x)]=.ret (.sh (.bl (vI x))):=by
 unfold vI
 by_cases h1:1<=x<;>by_cases h2:x<=1000000000<;>simp[wR,Hg,List.replicate,h1,h2]
def Zg:List Int->Bool
 | [p,q,h]=>ů p && ů q && vI h
 |_=>false
def Zd:List Int->Bool
 | [x,y,u,v,h]=>ů x && ů y && ů u && ů v && vI h
 |_=>false
def Za:List Int->Bool
 | [x,y,u,v,h]=>Zd [x,y,u,v,h] && !(decide (x=u) && decide (y=v))
 |_=>false
def Z7:List Int->Bool
 | [x,y,u,v,h]=>Zd [x,y,u,v,h] && decide (x<u) && decide (y<v)
 |_=>false
def Zb:List Int->Bool
 | [a,b,c,d,e,f,g,h,i]=>ů a && ů b && xQ c && (ů d && ů e && xQ f) && (ů g && ů h && xQ i)
 |_=>false
def Z2z(a b c:Bool):jW [.lst [.bl a,.bl b,.bl c]]=some (.bl (a && b && c)):=by cases a<;>cases b<;>cases c<;>rfl
def Z2A(a b c d:Bool):jW [.lst [.bl a,.bl b,.bl c,.bl d]]=some (.bl (a && b && c && d)):=by cases a<;>cases b<;>cases c<;>cases d<;>rfl
def Z0g{xs:List Int}{sl:P.Slot}(hs:Ui sl (xs.map .int)):wU [sl]=.ret (.sh (.bl (Zg xs))):=by
 by_cases hl:xs.length=3
 ·match xs,hl with
  | [a,b,c],_=>
    have h:Zg [a,b,c]=(ů a && ů b && vI c):=rfl
    rw[h]
    rcases hs with rfl|rfl<;>cases ea:ů a<;>cases eb:ů b<;>cases ec:vI c<;>simp[wU,zB,List.replicate,ZX,Z0b,ea,eb,ec]
 ·have h:Zg xs=false:=by
   unfold Zg
   split
   ·simp at hl
   ·rfl
  rw[h]
  have hl':¬((xs.length:Nat):Int)=3:=by omega
  rcases hs with rfl|rfl<;>simp[wU,zB,List.replicate,hl']
def Z0N{xs:List Int}{sl:P.Slot}(hs:Ui sl (xs.map .int)):rQ [sl]=.ret (.sh (.bl (Zd xs))):=by
 by_cases hl:xs.length=5
 ·match xs,hl with
  | [a,b,c,d,e],_=>
    have h:Zd [a,b,c,d,e]=(ů a && ů b && ů c && ů d && vI e):=rfl
    rw[h]
    have hc:fB ([.int a,.int b,.int c,.int d,.int e]:List PV) none (some 4)=[.int a,.int b,.int c,.int d]:=rfl
    have hb:=Z2A (ů a) (ů b) (ů c) (ů d)
    rcases hs with rfl|rfl<;>cases ea:(ů a && ů b && ů c && ů d)<;>cases ec:vI e<;>rw[ea] at hb<;>simp[rQ,zE,List.replicate,ZX,Z0b,hc,ĺ,hb,ec]
 ·have h:Zd xs=false:=by
   unfold Zd
   split
   ·simp at hl
   ·rfl
  rw[h]
  have hl':¬((xs.length:Nat):Int)=5:=by omega
  rcases hs with rfl|rfl<;>simp[rQ,zE,List.replicate,hl']
def Z2B(a b c d:Int):cL (.lst [.int a,.int b]) (.lst [.int c,.int d])=some (.bl (!(decide (a=c) && decide (b=d)))):=by
 have h:eqB (.lst [.int a,.int b]) (.lst [.int c,.int d])=(decide (a=c) && decide (b=d)):=by
  simp[eqB,dN]
  rw[Bool.eq_iff_iff]
  simp
 unfold cL qy
 rw[h]
 simp[ű,aU,dep,oE]
def Z20{xs:List Int}(hl:¬xs.length=5):Zd xs=false:=by
 unfold Zd
 split
 ·simp at hl
 ·rfl
def Z0W{s:P.Slot}{ps:List PV}(h:Ui s ps):cj s=some s:=by rcases h with rfl|rfl<;>rfl
def Z1N{xs:List Int}{sl:P.Slot}(hs:Ui sl (xs.map .int)):wV [sl]=.ret (.sh (.bl (Za xs))):=by
 have he:=Z0N hs
 by_cases hl:xs.length=5
 ·match xs,hl with
  | [a,b,c,d,e],_=>
    have h:Za [a,b,c,d,e]=(Zd [a,b,c,d,e] && !(decide (a=c) && decide (b=d))):=rfl
    rw[h]
    have h1:fB ([.int a,.int b,.int c,.int d,.int e]:List PV) none (some 2)=[.int a,.int b]:=rfl
    have h2:fB ([.int a,.int b,.int c,.int d,.int e]:List PV) (some 2) (some 4)=[.int c,.int d]:=rfl
    have h3:=Z2B a b c d
    generalize Zd [a,b,c,d,e]=q at *
    generalize (!(decide (a=c) && decide (b=d)))=r at *
    rcases hs with rfl|rfl<;>cases q<;>simp_all [wV,zF,List.replicate]
 ·have h:Za xs=false:=by
   unfold Za
   split
   ·simp at hl
   ·rfl
  rw[h]
  rw[Z20 hl] at he
  simp[wV,zF,List.replicate,Z0W hs,he]
def Z2b{xs:List Int}{sl:P.Slot}(hs:Ui sl (xs.map .int)):Dj [sl]=.ret (.sh (.bl (Z7 xs))):=by
 have he:=Z0N hs
 by_cases hl:xs.length=5
 ·match xs,hl with
  | [a,b,c,d,e],_=>
    have h:Z7 [a,b,c,d,e]=(Zd [a,b,c,d,e] && decide (a<c) && decide (b<d)):=rfl
    rw[h]
    generalize Zd [a,b,c,d,e]=q at *
    rcases hs with rfl|rfl<;>simp only[List.map_cons,List.map_nil] at he<;>cases q<;>by_cases h1:a<c<;>by_cases h2:b<d<;>simp[Dj,Hh,List.replicate,he,h1,h2]
 ·have h:Z7 xs=false:=by
   unfold Z7
   split
   ·simp at hl
   ·rfl
  rw[h]
  rw[Z20 hl] at he
  simp[Dj,Hh,List.replicate,Z0W hs,he]
def ZO(a b c:Int):LR [.sh (.lst [.int a,.int b,.int c])]=.ret (.sh (.bl (ů a && ů b && xQ c))):=by
 unfold xQ
 cases ea:ů a<;>cases eb:ů b<;>by_cases h1:0<=c<;>by_cases h2:c<=1000000000<;>simp[LR,Qm,List.replicate,ZX,ea,eb,h1,h2]
def Z1O{xs:List Int}{sl:P.Slot}(hs:Ui sl (xs.map .int)):wW [sl]=.ret (.sh (.bl (Zb xs))):=by
 by_cases hl:xs.length=9
 ·match xs,hl with
  | [a,b,c,d,e,f,g,h,i],_=>
    have hc:Zb [a,b,c,d,e,f,g,h,i]=((ů a && ů b && xQ c) && (ů d && ů e && xQ f) && (ů g && ů h && xQ i)):=rfl
    rw[hc]
    have h1:fB ([.int a,.int b,.int c,.int d,.int e,.int f,.int g,.int h,.int i]:List PV) (some 0) (some 3)=[.int a,.int b,.int c]:=rfl
    have h2:fB ([.int a,.int b,.int c,.int d,.int e,.int f,.int g,.int h,.int i]:List PV) (some 3) (some 6)=[.int d,.int e,.int f]:=rfl
    have h3:fB ([.int a,.int b,.int c,.int d,.int e,.int f,.int g,.int h,.int i]:List PV) (some 6) (some 9)=[.int g,.int h,.int i]:=rfl
    have hb:=Z2z (ů a && ů b && xQ c) (ů d && ů e && xQ f) (ů g && ů h && xQ i)
    have k1:=ZO a b c
    have k2:=ZO d e f
    have k3:=ZO g h i
    generalize (ů a && ů b && xQ c)=q1 at *
    generalize (ů d && ů e && xQ f)=q2 at *
    generalize (ů g && ů h && xQ i)=q3 at *
    rcases hs with rfl|rfl<;>simp[wW,zG,List.replicate,ĺ,h1,h2,h3,k1,k2,k3,hb]
 ·have h:Zb xs=false:=by
   unfold Zb
   split
   ·simp at hl
   ·rfl
  rw[h]
  have hl':¬((xs.length:Nat):Int)=9:=by omega
  rcases hs with rfl|rfl<;>simp[wW,zG,List.replicate,hl']
def Z9(w:Str):String:=if w= "post" then "Post" else if w= "fence" then "Fence" else if w= "sail" then "Sail" else if w= "cloth" then "Cloth" else "House"
def Z0(C:String)(w:Str)(xs:List Int):PV:=.ins C ["word","numbers"] [.str w,.lst (xs.map .int)]
def Z1(w:Str)(xs:List Int):Bool:=if w= "post" then Zg xs else if w= "fence" then Za xs else if w= "sail" then Z7 xs else if w= "cloth" then Zb xs else if w= "house" then Z7 xs else false
def wn:((Str.ofString "word")=(Str.ofString "numbers"))=False:=eq_false (by decide +kernel)
def ZC{C:String}(hC:(["Thing","Post","Fence","Sail","Cloth","House"]:List String).contains C=true)(w:Str){xs:List Int}{sl:P.Slot}(hs:Ui sl (xs.map .int)):bL 3 3 C eN [.sh (.str w),sl]=.ok ["word","numbers"] [.str w,.lst (xs.map .int)]:=by
 rcases hs with rfl|rfl<;>simp[bL,eN,gw,IR.of,List.replicate,putN,wC,hC,wn,-List.contains_eq_mem,-List.contains_cons]
def s1:PyData.strOk (Str.ofString "post")=true:=by decide +kernel
def s2:PyData.strOk (Str.ofString "fence")=true:=by decide +kernel
def s3:PyData.strOk (Str.ofString "sail")=true:=by decide +kernel
def s4:PyData.strOk (Str.ofString "cloth")=true:=by decide +kernel
def s5:PyData.strOk (Str.ofString "house")=true:=by decide +kernel
def d12:(Str.ofString "post" =Str.ofString "fence")=False:=eq_false (by decide +kernel)
def d13:(Str.ofString "post" =Str.ofString "sail")=False:=eq_false (by decide +kernel)
def d14:(Str.ofString "post" =Str.ofString "cloth")=False:=eq_false (by decide +kernel)
def d15:(Str.ofString "post" =Str.ofString "house")=False:=eq_false (by decide +kernel)
def d23:(Str.ofString "fence" =Str.ofString "sail")=False:=eq_false (by decide +kernel)
def d24:(Str.ofString "fence" =Str.ofString "cloth")=False:=eq_false (by decide +kernel)
def d25:(Str.ofString "fence" =Str.ofString "house")=False:=eq_false (by decide +kernel)
def d31:(Str.ofString "sail" =Str.ofString "post")=False:=eq_false (by decide +kernel)
def d34:(Str.ofString "sail" =Str.ofString "cloth")=False:=eq_false (by decide +kernel)
def d35:(Str.ofString "sail" =Str.ofString "house")=False:=eq_false (by decide +kernel)
def d45:(Str.ofString "cloth" =Str.ofString "house")=False:=eq_false (by decide +kernel)
def Z0n{w:Str}(hw:PyData.strOk w=true){xs:List Int}{sl:P.Slot}(hs:Ui sl (xs.map .int)):bh [.sh (.str w),sl]=if Z1 w xs=true then .ret (.sh (Z0 (Z9 w) w xs)) else .bad:=by
 have e1:=bN hw s1
 have e2:=bN hw s2
 have e3:=bN hw s3
 have e4:=bN hw s4
 have e5:=bN hw s5
 have p1:=Z0g hs
 have p2:=Z1N hs
 have p3:=Z2b hs
 have p4:=Z1O hs
 have i1:uN [.sh (.str w),sl]=_:=ZC (by decide) w hs
 have i2:o_ [.sh (.str w),sl]=_:=ZC (by decide) w hs
 have i3:uO [.sh (.str w),sl]=_:=ZC (by decide) w hs
 have i4:pq [.sh (.str w),sl]=_:=ZC (by decide) w hs
 have i5:pA [.sh (.str w),sl]=_:=ZC (by decide) w hs
 have hle:=Z0W hs
 unfold Z1 Z9 Z0
 by_cases h1:w=Str.ofString "post"
 ·have n2:¬w=Str.ofString "fence" := λz=>(d12▸(h1.symm.trans z):False)
  have n3:¬w=Str.ofString "sail" := λz=>(d13▸(h1.symm.trans z):False)
  have n4:¬w=Str.ofString "cloth" := λz=>(d14▸(h1.symm.trans z):False)
  have n5:¬w=Str.ofString "house" := λz=>(d15▸(h1.symm.trans z):False)
  rw[decide_eq_true h1] at e1
  rw[decide_eq_false n2] at e2
  rw[decide_eq_false n3] at e3
  rw[decide_eq_false n4] at e4
  rw[decide_eq_false n5] at e5
  have hg:(if w=Str.ofString "post" then Zg xs else if w=Str.ofString "fence" then Za xs else if w=Str.ofString "sail" then Z7 xs else if w=Str.ofString "cloth" then Zb xs else if w=Str.ofString "house" then Z7 xs else false)=Zg xs:=by rw[if_pos h1]
  have hc:(if w=Str.ofString "post" then "Post" else if w=Str.ofString "fence" then "Fence" else if w=Str.ofString "sail" then "Sail" else if w=Str.ofString "cloth" then "Cloth" else "House")= "Post" := by rw[if_pos h1]
  rw[hg,hc]
  cases q:Zg xs<;>rw[q] at p1<;>simp[bh,iW,bM,List.replicate,e1,e2,e3,e4,e5,hle,p1,i1]
 ·skip
  by_cases h2:w=Str.ofString "fence"
  ·have n1:=h1
   have n3:¬w=Str.ofString "sail" := λz=>(d23▸(h2.symm.trans z):False)
   have n4:¬w=Str.ofString "cloth" := λz=>(d24▸(h2.symm.trans z):False)
   have n5:¬w=Str.ofString "house" := λz=>(d25▸(h2.symm.trans z):False)
   rw[decide_eq_true h2] at e2
   rw[decide_eq_false n1] at e1
   rw[decide_eq_false n3] at e3
   rw[decide_eq_false n4] at e4
   rw[decide_eq_false n5] at e5
   have hg:(if w=Str.ofString "post" then Zg xs else if w=Str.ofString "fence" then Za xs else if w=Str.ofString "sail" then Z7 xs else if w=Str.ofString "cloth" then Zb xs else if w=Str.ofString "house" then Z7 xs else false)=Za xs:=by rw[if_neg n1,if_pos h2]
   have hc:(if w=Str.ofString "post" then "Post" else if w=Str.ofString "fence" then "Fence" else if w=Str.ofString "sail" then "Sail" else if w=Str.ofString "cloth" then "Cloth" else "House")= "Fence" := by rw[if_neg n1,if_pos h2]
   rw[hg,hc]
   cases q:Za xs<;>rw[q] at p2<;>simp[bh,iW,bM,List.replicate,e1,e2,e3,e4,e5,hle,p2,i2]
  ·skip
   by_cases h3:w=Str.ofString "sail"
   ·have n1:=h1
    have n2:=h2
    have n4:¬w=Str.ofString "cloth" := λz=>(d34▸(h3.symm.trans z):False)
    have n5:¬w=Str.ofString "house" := λz=>(d35▸(h3.symm.trans z):False)
    rw[decide_eq_true h3] at e3
    rw[decide_eq_false n1] at e1
    rw[decide_eq_false n2] at e2
    rw[decide_eq_false n4] at e4
    rw[decide_eq_false n5] at e5
    have hg:(if w=Str.ofString "post" then Zg xs else if w=Str.ofString "fence" then Za xs else if w=Str.ofString "sail" then Z7 xs else if w=Str.ofString "cloth" then Zb xs else if w=Str.ofString "house" then Z7 xs else false)=Z7 xs:=by rw[if_neg n1,if_neg n2,if_pos h3]
    have hc:(if w=Str.ofString "post" then "Post" else if w=Str.ofString "fence" then "Fence" else if w=Str.ofString "sail" then "Sail" else if w=Str.ofString "cloth" then "Cloth" else "House")= "Sail" := by rw[if_neg n1,if_neg n2,if_pos h3]
    rw[hg,hc]
    cases q:Z7 xs<;>rw[q] at p3<;>simp[bh,iW,bM,List.replicate,e1,e2,e3,e4,e5,hle,p3,i3]
   ·skip
    by_cases h4:w=Str.ofString "cloth"
    ·have n1:=h1
     have n2:=h2
     have n3:=h3
     have n5:¬w=Str.ofString "house" := λz=>(d45▸(h4.symm.trans z):False)
     rw[decide_eq_true h4] at e4
     rw[decide_eq_false n1] at e1
     rw[decide_eq_false n2] at e2
     rw[decide_eq_false n3] at e3
     rw[decide_eq_false n5] at e5
     have hg:(if w=Str.ofString "post" then Zg xs else if w=Str.ofString "fence" then Za xs else if w=Str.ofString "sail" then Z7 xs else if w=Str.ofString "cloth" then Zb xs else if w=Str.ofString "house" then Z7 xs else false)=Zb xs:=by rw[if_neg n1,if_neg n2,if_neg n3,if_pos h4]
     have hc:(if w=Str.ofString "post" then "Post" else if w=Str.ofString "fence" then "Fence" else if w=Str.ofString "sail" then "Sail" else if w=Str.ofString "cloth" then "Cloth" else "House")= "Cloth" := by rw[if_neg n1,if_neg n2,if_neg n3,if_pos h4]
     rw[hg,hc]
     cases q:Zb xs<;>rw[q] at p4<;>simp[bh,iW,bM,List.replicate,e1,e2,e3,e4,e5,hle,p4,i4]
    ·skip
     by_cases h5:w=Str.ofString "house"
     ·have n1:=h1
      have n2:=h2
      have n3:=h3
      have n4:=h4
      rw[decide_eq_true h5] at e5
      rw[decide_eq_false n1] at e1
      rw[decide_eq_false n2] at e2
      rw[decide_eq_false n3] at e3
      rw[decide_eq_false n4] at e4
      have hg:(if w=Str.ofString "post" then Zg xs else if w=Str.ofString "fence" then Za xs else if w=Str.ofString "sail" then Z7 xs else if w=Str.ofString "cloth" then Zb xs else if w=Str.ofString "house" then Z7 xs else false)=Z7 xs:=by rw[if_neg n1,if_neg n2,if_neg n3,if_neg n4,if_pos h5]
      have hc:(if w=Str.ofString "post" then "Post" else if w=Str.ofString "fence" then "Fence" else if w=Str.ofString "sail" then "Sail" else if w=Str.ofString "cloth" then "Cloth" else "House")= "House" := by rw[if_neg n1,if_neg n2,if_neg n3,if_neg n4]
      rw[hg,hc]
      cases q:Z7 xs<;>rw[q] at p3<;>simp[bh,iW,bM,List.replicate,e1,e2,e3,e4,e5,hle,p3,i5]
     ·skip
      rw[decide_eq_false h1] at e1
      rw[decide_eq_false h2] at e2
      rw[decide_eq_false h3] at e3
      rw[decide_eq_false h4] at e4
      rw[decide_eq_false h5] at e5
      rw[if_neg h1,if_neg h2,if_neg h3,if_neg h4,if_neg h5]
      simp[bh,iW,bM,List.replicate,e1,e2,e3,e4,e5]
abbrev P3:=Int×Int×Int
def c3(p:P3):PV:=.tup [.int p.1,.int p.2.1,.int p.2.2]
def Zw(x y u v z:Int):List P3:=[(x,y,z),(u,y,z),(u,v,z),(x,v,z)]
def ZV(x y u v h:Int):List P3:=Zw x y u v 0++Zw x y u v h
def Z5(C:String)(xs:List Int):List P3:=
 if C= "Post" then(match xs with
  | [p,q,h]=>ZV (2*p-1) (2*q-1) (2*p+1) (2*q+1) h
  |_=>[])
 else if C= "Fence" then(match xs with
  | [x,y,u,v,h]=>[(x,y,0),(u,v,0),(u,v,h),(x,y,h)]
  |_=>[])
 else if C= "Sail" then(match xs with
  | [x,y,u,v,h]=>Zw x y u v h
  |_=>[])
 else if C= "Cloth" then(match xs with
  | [a,b,c,d,e,f,g,h,i]=>[(a,b,c),(d,e,f),(g,h,i)]
  |_=>[])
 else(match xs with
  | [x,y,u,v,h]=>ZV x y u v h
  |_=>[])
def Ze(w:Str)(xs:List Int):List P3:=Z5 (Z9 w) xs
def ZP{C:String}(hC:(["Thing","Post","Fence","Sail","Cloth","House"]:List String).contains C=true)(w:Str)(xs:List Int):œ ["Thing","Post","Fence","Sail","Cloth","House"] (Str.ofString "numbers") (Z0 C w xs)=some (.lst (xs.map .int)):=by
 unfold œ Z0
 dsimp only
 rw[if_pos hC]
 have:(Str.ofString "numbers" == Str.ofString "word")=false:=by decide +kernel
 show List.lookup _ [(_,_),(_,_)]=_
 rw[List.lookup_cons,this]
 simp
def Z0o(x y u v z:Int):Dk [.sh (.int x),.sh (.int y),.sh (.int u),.sh (.int v),.sh (.int z)]=.ret (.ow ((Zw x y u v z).map c3)):=by
 simp[Dk,Qs,List.replicate,Zw,c3]
def Z0p(x y u v h:Int):Hx [.sh (.int x),.sh (.int y),.sh (.int u),.sh (.int v),.sh (.int h)]=.ret (.ow ((ZV x y u v h).map c3)):=by
 simp[Hx,Qt,List.replicate,Z0o,ZV,Zw,add_l]
def Z2C{xs:List Int}(h:Zg xs=true)(w:Str):lE [.sh (Z0 "Post" w xs)]=.ret (.ow ((Z5 "Post" xs).map c3)):=by
 match xs,h with
 | [p,q,h],hh=>
   simp[Zg,ů,vI] at hh
   have hf:=ZP (C:= "Post") (by decide) w [p,q,h]
   generalize Z0 "Post" w [p,q,h]=v at *
   have e:=Z0p (2*p-1) (2*q-1) (2*p+1) (2*q+1) h
   simp[lE,Hy,List.replicate,hf,e,Z5]
def Z2c{xs:List Int}(h:Za xs=true)(w:Str):lF [.sh (Z0 "Fence" w xs)]=.ret (.ow ((Z5 "Fence" xs).map c3)):=by
 match xs,h with
 | [x,y,u,v,h],hh=>
   have hf:=ZP (C:= "Fence") (by decide) w [x,y,u,v,h]
   generalize Z0 "Fence" w [x,y,u,v,h]=t at *
   simp[lF,Hz,List.replicate,hf,Z5,c3,ĭ]
def Z2D{xs:List Int}(h:Z7 xs=true)(w:Str):lG [.sh (Z0 "Sail" w xs)]=.ret (.ow ((Z5 "Sail" xs).map c3)):=by
 match xs,h with
 | [x,y,u,v,h],hh=>
   have hf:=ZP (C:= "Sail") (by decide) w [x,y,u,v,h]
   generalize Z0 "Sail" w [x,y,u,v,h]=t at *
   have e:=Z0o x y u v h
   simp[lG,HB,List.replicate,hf,e,Z5]
def Z2d{xs:List Int}(h:Z7 xs=true)(w:Str):lJ [.sh (Z0 "House" w xs)]=.ret (.ow ((Z5 "House" xs).map c3)):=by
 match xs,h with
 | [x,y,u,v,h],hh=>
   have hf:=ZP (C:= "House") (by decide) w [x,y,u,v,h]
   generalize Z0 "House" w [x,y,u,v,h]=t at *
   have e:=Z0p x y u v h
   simp[lJ,HF,List.replicate,hf,e,Z5]
def Z2e{xs:List Int}(h:Zb xs=true)(w:Str):lH [.sh (Z0 "Cloth" w xs)]=.ret (.ow ((Z5 "Cloth" xs).map c3)):=by
 match xs,h with
 | [a,b,c,d,e,f,g,i,j],hh=>
   have hf:=ZP (C:= "Cloth") (by decide) w [a,b,c,d,e,f,g,i,j]
   generalize Z0 "Cloth" w [a,b,c,d,e,f,g,i,j]=t at *
   simp[lH,HD,List.replicate,hf,Z5,c3,ĺ,Nx,fB]
   exact⟨rfl,rfl,rfl⟩
def cst(r p:P3):Hu.Pt:=(r.2.2*p.1+r.1*p.2.2,r.2.2*p.2.1+r.2.1*p.2.2)
def RB(r:P3):Prop:=-1000000<=r.1/\r.1<=1000000/\ -1000000<=r.2.1/\r.2.1<=1000000/\ -1000000<=r.2.2/\r.2.2<=1000000
def PB(p:P3):Prop:=-10000000000<=p.1/\p.1<=10000000000/\ -10000000000<=p.2.1/\p.2.1<=10000000000/\ -10000000000<=p.2.2/\p.2.2<=10000000000
def Z0O{r:P3}(hr:RB r)(p:P3):pG [.sh (c3 p),.sh (c3 r)]=.ret (.sh (pt (cst r p))):=by
 obtain⟨a1,a2,a3,a4,a5,a6⟩:=hr
 have m1:ń r.2.2 p.1=true:=Ÿ (by omega) (by omega)
 have m2:ń r.2.2 p.2.1=true:=Ÿ (by omega) (by omega)
 have m3:ń r.1 p.2.2=true:=Ÿ (by omega) (by omega)
 have m4:ń r.2.1 p.2.2=true:=Ÿ (by omega) (by omega)
 simp[pG,Hw,List.replicate,pt,c3,cst,m1,m2,m3,m4]
def Z01{x y A B:Int}(h1: -A<=x)(h2:x<=A)(h3: -B<=y)(h4:y<=B): -(A*B)<=x*y/\x*y<=A*B:=by
 have hA:0<=A:=by omega
 have hB:0<=B:=by omega
 have e:(x*y).natAbs<=A.natAbs*B.natAbs:=by
  rw[Int.natAbs_mul]
  exact Nat.mul_le_mul (by omega) (by omega)
 have e2:((A*B).natAbs)=A.natAbs*B.natAbs:=Int.natAbs_mul A B
 have e3:0<=A*B:=Int.mul_nonneg hA hB
 omega
def Z0q{r p:P3}(hr:RB r)(hp:PB p):Sm (cst r p):=by
 obtain⟨a1,a2,a3,a4,a5,a6⟩:=hr
 obtain⟨b1,b2,b3,b4,b5,b6⟩:=hp
 have q1:=Z01 a5 a6 b1 b2
 have q2:=Z01 a5 a6 b3 b4
 have q3:=Z01 a1 a2 b5 b6
 have q4:=Z01 a3 a4 b5 b6
 simp only[Sm,cst]
 omega
def Z1p{w:Str}{xs:List Int}(hg:Z1 w xs=true){mo:M PV}{ρ ρ1:List P.Slot}(ho:mo ρ=.ok (Z0 (Z9 w) w xs) ρ1):dg (Str.ofString "corners") [("Post",lE),("Fence",lF),("Sail",lG),("Cloth",lH),("House",lJ)] mo Ĉ ρ=.ok (.ow ((Ze w xs).map c3)) ρ1:=by
 have hn:(["word","numbers"]:List Str).contains (Str.ofString "corners")=false:=by decide +kernel
 have key:∀(C:String) (mf:MF),Z9 w=C->List.lookup C [("Post",lE),("Fence",lF),("Sail",lG),("Cloth",lH),("House",lJ)]=some mf->mf [.sh (Z0 C w xs)]=.ret (.ow ((Z5 C xs).map c3))->dg (Str.ofString "corners") [("Post",lE),("Fence",lF),("Sail",lG),("Cloth",lH),("House",lJ)] mo Ĉ ρ=.ok (.ow ((Ze w xs).map c3)) ρ1:=by
  intro C mf hC hl hf
  unfold Ze
  rw[hC] at ho ⊢
  unfold dg
  rw[ho]
  unfold Z0 at *
  simp only[Res.bind]
  rw[hl]
  dsimp only
  rw[if_neg (by rw[hn];decide)]
  simp only[Ĉ,Res.bind]
  rw[hf]
 unfold Z1 at hg
 by_cases e1:w= "post"
 ·rw[if_pos e1] at hg
  exact key "Post" _ (by unfold Z9;rw[if_pos e1]) rfl (Z2C hg w)
 rw[if_neg e1] at hg
 by_cases e2:w= "fence"
 ·rw[if_pos e2] at hg
  exact key "Fence" _ (by unfold Z9;rw[if_neg e1,if_pos e2]) rfl (Z2c hg w)
 rw[if_neg e2] at hg
 by_cases e3:w= "sail"
 ·rw[if_pos e3] at hg
  exact key "Sail" _ (by unfold Z9;rw[if_neg e1,if_neg e2,if_pos e3]) rfl (Z2D hg w)
 rw[if_neg e3] at hg
 by_cases e4:w= "cloth"
 ·rw[if_pos e4] at hg
  exact key "Cloth" _ (by unfold Z9;rw[if_neg e1,if_neg e2,if_neg e3,if_pos e4]) rfl (Z2e hg w)
 rw[if_neg e4] at hg
 by_cases e5:w= "house"
 ·rw[if_pos e5] at hg
  exact key "House" _ (by unfold Z9;rw[if_neg e1,if_neg e2,if_neg e3,if_neg e4]) rfl (Z2d hg w)
 ·rw[if_neg e5] at hg
  cases hg
def Z0X{r:P3}(hr:RB r){L:List P3}(hl:L.length<=100)(s1:P.Slot):ĺ (gN 1) ı (č (ċ pG (ā 1 (ā 0 Ĉ)))) (L.map c3) [.sh (c3 r),s1] []=some ((L.map (cst r)).map pt):=by
 have:=Ļ (g:=gN 1) (mt:=ı) (me:=č (ċ pG (ā 1 (ā 0 Ĉ)))) c3 (λp=>pt (cst r p)) (λρ=>∃s,ρ=[.sh (c3 r),s]) L [.sh (c3 r),s1] [] ⟨_,rfl⟩ (by simp;omega) (by
  rintro p hp ρ ⟨s,rfl⟩
  have e:=Z0O hr p
  generalize c3 r=R at *
  generalize c3 p=Q at *
  exact⟨[R |> .sh,.sh Q],[.sh R,.sh Q],[.sh R,.sh Q],by simp,by simp,by simp[e],_,rfl⟩)
 rw[this]
 simp
def Z0r{w:Str}{xs:List Int}(hg:Z1 w xs=true)(hl:(Ze w xs).length<=100){r:P3}(hr:RB r):rZ [.sh (Z0 (Z9 w) w xs),.sh (c3 r)]=.ret (.ow (((Ze w xs).map (cst r)).map pt)):=by
 have h1:=Z1p hg (mo:=ě 0) (ρ:= [.sh (Z0 (Z9 w) w xs),.sh (c3 r)]) (ρ1:=[.sh (Z0 (Z9 w) w xs),.sh (c3 r)]) (by simp)
 have h2:=Z0X hr hl
 generalize ((Ze w xs).map (cst r)).map pt=Y at *
 generalize (Ze w xs).map c3=Z at *
 generalize Z0 (Z9 w) w xs=v at *
 generalize c3 r=R at *
 simp[rZ,HJ,List.replicate,h1,h2,-ux]
def vJ(s:Hu.Pt):P3:=(2*s.1,2*s.2,0)
def Z0s{w:Str}{xs:List Int}(hg:Z1 w xs=true):(Ze w xs).length<=8/\Ze w xs≠[]/\∀p∈Ze w xs,PB p:=by
 have hp:Zg xs=true->(Z5 "Post" xs).length<=8/\Z5 "Post" xs≠[]/\∀p∈Z5 "Post" xs,PB p:=by
  intro h
  match xs,h with
  | [a,b,c],h=>
    simp[Zg,ů,vI] at h
    simp[Z5,ZV,Zw,PB]
    omega
 have hf:Za xs=true->(Z5 "Fence" xs).length<=8/\Z5 "Fence" xs≠[]/\∀p∈Z5 "Fence" xs,PB p:=by
  intro h
  match xs,h with
  | [a,b,c,d,e],h=>
    simp[Za,Zd,ů,vI] at h
    simp[Z5,PB]
    omega
 have hs:Z7 xs=true->(Z5 "Sail" xs).length<=8/\Z5 "Sail" xs≠[]/\∀p∈Z5 "Sail" xs,PB p:=by
  intro h
  match xs,h with
  | [a,b,c,d,e],h=>
    simp[Z7,Zd,ů,vI] at h
    simp[Z5,Zw,PB]
    omega
 have hh:Z7 xs=true->(Z5 "House" xs).length<=8/\Z5 "House" xs≠[]/\∀p∈Z5 "House" xs,PB p:=by
  intro h
  match xs,h with
  | [a,b,c,d,e],h=>
    simp[Z7,Zd,ů,vI] at h
    simp[Z5,ZV,Zw,PB]
    omega
 have hc:Zb xs=true->(Z5 "Cloth" xs).length<=8/\Z5 "Cloth" xs≠[]/\∀p∈Z5 "Cloth" xs,PB p:=by
  intro h
  match xs,h with
  | [a,b,c,d,e,f,g,i,j],h=>
    simp[Zb,ů,xQ] at h
    simp[Z5,PB]
    omega
 unfold Z1 at hg
 unfold Ze Z9
 by_cases e1:w= "post"
 ·rw[if_pos e1] at hg ⊢;exact hp hg
 rw[if_neg e1] at hg ⊢
 by_cases e2:w= "fence"
 ·rw[if_pos e2] at hg ⊢;exact hf hg
 rw[if_neg e2] at hg ⊢
 by_cases e3:w= "sail"
 ·rw[if_pos e3] at hg ⊢;exact hs hg
 rw[if_neg e3] at hg ⊢
 by_cases e4:w= "cloth"
 ·rw[if_pos e4] at hg ⊢;exact hc hg
 rw[if_neg e4] at hg ⊢
 by_cases e5:w= "house"
 ·rw[if_pos e5] at hg;exact hh hg
 ·rw[if_neg e5] at hg;cases hg
def YF(w:Str)(xs:List Int)(s:Hu.Pt)(r:P3):Bool:=(Hu.ZB ((Ze w xs).map (cst r)) (cst r (vJ s))).isNone
def Z1q(b:Nat):Builtin.bitNot (b:Int)= -(b:Int)-1:=rfl
def Z0t(a b:Nat):Builtin.bitOr a b=((a ||| b:Nat):Int):=by
 unfold Builtin.bitOr Builtin.bitAnd
 rw[Z1q,Z1q]
 have h1:decide (0<= -(a:Int)-1)=false:=by simp;omega
 have h2:decide (0<= -(b:Int)-1)=false:=by simp;omega
 rw[h1,h2]
 have e1:(Builtin.bitNot (-(a:Int)-1)).toNat=a:=by unfold Builtin.bitNot;omega
 have e2:(Builtin.bitNot (-(b:Int)-1)).toNat=b:=by unfold Builtin.bitNot;omega
 simp only[e1,e2]
 unfold Builtin.bitNot
 omega
def Z1P(f l k:Nat)(h:f<=l):(2 ^ (l+1)-2 ^ f).testBit k=(decide (f<=k) && decide (k<=l)):=by
 have e:2 ^ (l+1)-2 ^ f=(2 ^ (l+1-f)-1)*2 ^ f:=by
  rw[Nat.sub_mul,<-Nat.pow_add,Nat.one_mul]
  congr 2
  omega
 rw[e,Nat.testBit_mul_two_pow,Nat.testBit_two_pow_sub_one]
 by_cases h1:f<=k
 ·simp[h1]
  by_cases h2:k<=l
  ·simp[h2];omega
  ·simp[h2];omega
 ·simp[h1]
def Z0Y{a n:Nat}(h:∀k,n<=k->a.testBit k=false):a<2 ^ n:=Nat.lt_pow_two_of_testBit a h
def Z3f(n k:Nat):(2 ^ n-1).testBit k=decide (k<n):=Nat.testBit_two_pow_sub_one n k
def Z0Z{k:Nat}(h:k<=1000000):nZ 1 (k:Int)=true:=by unfold nZ;simp;omega
def Z0P{f l:Int}{w:Nat}(hf:0<=f)(hl:l<w)(hw:w<=1000):∃B:Nat,sE [.sh (.int f),.sh (.int l)]=.ret (.sh (.int B))/\∀k:Nat,B.testBit k=(decide (f<=k) && decide ((k:Int)<=l)):=by
 by_cases h:l<f
 ·refine⟨0,by simp[sE,zO,List.replicate,h],λk=>?_⟩
  by_cases h1:f<=k
  ·have h2:¬(k:Int)<=l:=by omega
   simp[h2]
  ·simp[h1]
 ·obtain⟨F,rfl⟩:=Int.eq_ofNat_of_zero_le hf
  obtain⟨L,rfl⟩:=Int.eq_ofNat_of_zero_le (by omega:0<=l)
  have e1:=Z0Z (k:=L+1) (by omega)
  have e2:=Z0Z (k:=F) (by omega)
  have hp:2 ^ F<=2 ^ (L+1):=Nat.pow_le_pow_right (by omega) (by omega)
  refine⟨2 ^ (L+1)-2 ^ F,?_,λk=>?_⟩
  ·have t1:((L:Int)+1).toNat=L+1:=by omega
   have t2:((L:Int)+1)=((L+1:Nat):Int):=by omega
   simp only[Int.natCast_add,Int.cast_ofNat_Int] at e1
   have h':¬(L:Int)<F:=h
   simp[sE,zO,List.replicate,h',e1,e2,t1]
   rw[Int.natCast_sub hp]
   simp
  ·rw[Z1P F L k (by omega)]
   simp
def inR(L:List Hu.Ln)(u q k:Int):Prop:=∀l∈L,l.1*(u*k)+l.2.1*(u*q)<=l.2.2
def Z0Q{a b k:Int}(hb:0<b):k<=a.fdiv b↔k*b<=a:=by
 rw[Int.fdiv_eq_ediv_of_nonneg _ (Int.le_of_lt hb)]
 exact Int.le_ediv_iff_mul_le hb
theorem Z0u{u q:Int}{w:Nat}(hu:0<u)(hu2:u<=10000000)(hq:0<=q)(hq2:q<=1000)(s0:P.Slot):∀(L:List Hu.Ln),(∀l∈L,Uh l)->∀(f la:Int) (s6 s7 s8 s9 xX:P.Slot),0<=f->la<w->
 (∃f' Js Jv Uj Uk Ul xR,forL (gT 3 (ġ (gN 6) (ġ (gN 7) (ġ (gN 8) ŷ)))) cM (L.map bV) [s0,.sh (.int u),.sh (.int q),.sh (.int w),.sh (.int f),.sh (.int la),s6,s7,s8,s9,xX]=.ok .nx [s0,.sh (.int u),.sh (.int q),.sh (.int w),.sh (.int f'),.sh (.int Js),Jv,Uj,Uk,Ul,xR]/\0<=f'/\Js<w/\∀k:Int,(f'<=k/\k<=Js)↔(f<=k/\k<=la/\inR L u q k))\/
 (∃ρ',forL (gT 3 (ġ (gN 6) (ġ (gN 7) (ġ (gN 8) ŷ)))) cM (L.map bV) [s0,.sh (.int u),.sh (.int q),.sh (.int w),.sh (.int f),.sh (.int la),s6,s7,s8,s9,xX]=.ok (.rt (.sh (.int 0))) ρ'/\∀k:Int,¬inR L u q k)
 | [],_,f,la,s6,s7,s8,s9,xX,h1,h2=>.inl ⟨f,la,s6,s7,s8,s9,xX,rfl,h1,h2,λk=>by simp[inR]⟩
 |l::L,hS,f,la,s6,s7,s8,s9,xX,h1,h2=>by
  have hl:=hS l List.mem_cons_self
  have ih:=λ(f la:Int) (s6 s7 s8 s9 xX:P.Slot)=>Z0u (w:=w) hu hu2 hq hq2 s0 L (λx hx=>hS x (List.mem_cons_of_mem _ hx)) f la s6 s7 s8 s9 xX
  have m1:ń l.1 u=true:=Ÿ (by have:=hl.1;omega) (by have:=hl.2.1;omega)
  have m2:ń l.2.1 u=true:=Ÿ (by have:=hl.2.2.1;omega) (by have:=hl.2.2.2;omega)
  have m3:ń (l.2.1*u) q=true:=mul_r (by omega) (by omega)
  have bs:=Z01 hl.1 hl.2.1 (show -10000000<=u by omega) hu2
  obtain⟨st,hst⟩:∃st,l.1*u=st:=⟨_,rfl⟩
  obtain⟨ro,hro⟩:∃ro,l.2.2-l.2.1*u*q=ro:=⟨_,rfl⟩
  rw[hst] at bs
  have hin:∀k:Int,inR (l::L) u q k↔(k*st<=ro/\inR L u q k):=λk=>by
   unfold inR
   rw[List.forall_mem_cons]
   have e:l.1*(u*k)=k*st:=by rw[<-hst,<-Int.mul_assoc,Int.mul_comm]
   have e2:l.2.1*(u*q)=l.2.1*u*q:=by rw[Int.mul_assoc]
   rw[e,e2]
   constructor
   ·rintro ⟨a,b⟩;exact⟨by omega,b⟩
   ·rintro ⟨a,b⟩;exact⟨by omega,b⟩
  have gg:gT 3 (ġ (gN 6) (ġ (gN 7) (ġ (gN 8) ŷ))) (bV l) [s0,.sh (.int u),.sh (.int q),.sh (.int w),.sh (.int f),.sh (.int la),s6,s7,s8,s9,xX]=some [s0,.sh (.int u),.sh (.int q),.sh (.int w),.sh (.int f),.sh (.int la),.sh (.int l.1),.sh (.int l.2.1),.sh (.int l.2.2),s9,xX]:=by simp[bV]
  rw[List.map_cons,forL,gg]
  dsimp only
  by_cases c1:0<st
  ·have d1:gb ro st=true:=wB (by omega) (Nat.le_trans (jt (n:=200) (by omega) (by omega)) (by decide))
   have e:cM [s0,.sh (.int u),.sh (.int q),.sh (.int w),.sh (.int f),.sh (.int la),.sh (.int l.1),.sh (.int l.2.1),.sh (.int l.2.2),s9,xX]=.ok .nx [s0,.sh (.int u),.sh (.int q),.sh (.int w),.sh (.int f),.sh (.int (min la (ro.fdiv st))),.sh (.int l.1),.sh (.int l.2.1),.sh (.int l.2.2),.sh (.int st),.sh (.int ro)]:=by
    simp[cM,m1,m2,m3,hst,hro,c1,d1]
    split<;>omega
   rw[e]
   rcases ih f (min la (ro.fdiv st)) (.sh (.int l.1)) (.sh (.int l.2.1)) (.sh (.int l.2.2)) (.sh (.int st)) (.sh (.int ro)) h1 (by omega) with⟨f',Js,Jv,Uj,Uk,Ul,xR,q1,q2,q3,q4⟩|⟨ρ',q1,q2⟩
   ·refine .inl ⟨f',Js,Jv,Uj,Uk,Ul,xR,q1,q2,q3,λk=>?_⟩
    rw[q4,hin]
    have:=Z0Q (a:=ro) (k:=k) c1
    constructor
    ·rintro ⟨a,b,c⟩;exact⟨a,by omega,this.mp (by omega),c⟩
    ·rintro ⟨a,b,c,d⟩;exact⟨a,by have:=this.mpr c;omega,d⟩
   ·exact .inr ⟨ρ',q1,λk=>by rw[hin];exact λh=>q2 k h.2⟩
  ·by_cases c2:st<0
   ·have d1:gb ro (-st)=true:=wB (by omega) (Nat.le_trans (jt (n:=200) (by omega) (by omega)) (by decide))
    have e:cM [s0,.sh (.int u),.sh (.int q),.sh (.int w),.sh (.int f),.sh (.int la),.sh (.int l.1),.sh (.int l.2.1),.sh (.int l.2.2),s9,xX]=.ok .nx [s0,.sh (.int u),.sh (.int q),.sh (.int w),.sh (.int (max f (-(ro.fdiv (-st))))),.sh (.int la),.sh (.int l.1),.sh (.int l.2.1),.sh (.int l.2.2),.sh (.int st),.sh (.int ro)]:=by
     simp[cM,m1,m2,m3,hst,hro,c1,c2,d1]
     split<;>omega
    rw[e]
    rcases ih (max f (-(ro.fdiv (-st)))) la (.sh (.int l.1)) (.sh (.int l.2.1)) (.sh (.int l.2.2)) (.sh (.int st)) (.sh (.int ro)) (by omega) h2 with⟨f',Js,Jv,Uj,Uk,Ul,xR,q1,q2,q3,q4⟩|⟨ρ',q1,q2⟩
    ·refine .inl ⟨f',Js,Jv,Uj,Uk,Ul,xR,q1,q2,q3,λk=>?_⟩
     rw[q4,hin]
     have:=Z0Q (a:=ro) (b:=-st) (k:=-k) (by omega)
     rw[Int.neg_mul_neg] at this
     constructor
     ·rintro ⟨a,b,c⟩;exact⟨by omega,b,this.mp (by omega),c⟩
     ·rintro ⟨a,b,c,d⟩;exact⟨by have:=this.mpr c;omega,b,d⟩
    ·exact .inr ⟨ρ',q1,λk=>by rw[hin];exact λh=>q2 k h.2⟩
   ·have c0:st=0:=by omega
    subst c0
    by_cases c3:ro<0
    ·refine .inr ⟨_,by simp[cM,m1,m2,m3,hst,hro,c3];rfl,λk=>?_⟩
     rw[hin]
     rintro ⟨a,_⟩
     omega
    ·have e:cM [s0,.sh (.int u),.sh (.int q),.sh (.int w),.sh (.int f),.sh (.int la),.sh (.int l.1),.sh (.int l.2.1),.sh (.int l.2.2),s9,xX]=.ok .nx [s0,.sh (.int u),.sh (.int q),.sh (.int w),.sh (.int f),.sh (.int la),.sh (.int l.1),.sh (.int l.2.1),.sh (.int l.2.2),.sh (.int 0),.sh (.int ro)]:=by
      simp[cM,m1,m2,m3,hst,hro,c3]
     rw[e]
     rcases ih f la (.sh (.int l.1)) (.sh (.int l.2.1)) (.sh (.int l.2.2)) (.sh (.int 0)) (.sh (.int ro)) h1 h2 with⟨f',Js,Jv,Uj,Uk,Ul,xR,q1,q2,q3,q4⟩|⟨ρ',q1,q2⟩
     ·refine .inl ⟨f',Js,Jv,Uj,Uk,Ul,xR,q1,q2,q3,λk=>?_⟩
      rw[q4,hin]
      constructor
      ·rintro ⟨a,b,c⟩;exact⟨a,b,by omega,c⟩
      ·rintro ⟨a,b,c,d⟩;exact⟨a,b,d⟩
     ·exact .inr ⟨ρ',q1,λk=>by rw[hin];exact λh=>q2 k h.2⟩
def Z2E{u q:Int}{w:Nat}(hu:0<u)(hu2:u<=10000000)(hq:0<=q)(hq2:q<=1000)(hw:w<=1000){L:List Hu.Ln}(hS:∀l∈L,Uh l){sl:P.Slot}(hs:Sl sl (L.map bV)) :
 ∃B:Nat,xq [sl,.sh (.int u),.sh (.int q),.sh (.int w)]=.ret (.sh (.int B))/\∀k:Nat,B.testBit k=true↔(k<w/\inR L u q k):=by
 rcases Z0u (w:=w) hu hu2 hq hq2 sl L hS 0 (w-1) .no .no .no .no .no (by omega) (by omega) with⟨f',Js,Jv,Uj,Uk,Ul,xR,q1,q2,q3,q4⟩|⟨ρ',q1,q2⟩
 ·obtain⟨B,b1,b2⟩:=Z0P (f:=f') (l:=Js) q2 q3 hw
  refine⟨B,by rcases hs with rfl|rfl<;>simp[xq,zP,List.replicate,q1,b1],λk=>?_⟩
  rw[b2,Bool.and_eq_true,decide_eq_true_eq,decide_eq_true_eq,q4 k]
  constructor
  ·rintro ⟨a,b,c⟩;exact⟨by omega,c⟩
  ·rintro ⟨a,b⟩;exact⟨by omega,by omega,b⟩
 ·refine⟨0,by rcases hs with rfl|rfl<;>simp[xq,zP,List.replicate,q1],λk=>?_⟩
  simp
  exact λ_=>q2 k
abbrev Th:=Str×List Int
def ź(t:Th):PV:=Z0 (Z9 t.1) t.1 t.2
def Um:Option P3->PV
 |none=>.non
 |some r=>c3 r
abbrev Dy:=Str×Int×List (Option P3)
def xT(d:Dy):PV:=.tup [.str d.1,.int d.2.1,.lst (d.2.2.map Um)]
def Z6(w h:Int)(T:List Th)(D:List Dy):PV:=.ins "Yard" ["width","height","things","days"] [.int w,.int h,.lst (T.map ź),.lst (D.map xT)]
def ywh:(Str.ofString "width" =Str.ofString "height")=False:=eq_false (by decide +kernel)
def ywt:(Str.ofString "width" =Str.ofString "things")=False:=eq_false (by decide +kernel)
def ywd:(Str.ofString "width" =Str.ofString "days")=False:=eq_false (by decide +kernel)
def yht:(Str.ofString "height" =Str.ofString "things")=False:=eq_false (by decide +kernel)
def yhd:(Str.ofString "height" =Str.ofString "days")=False:=eq_false (by decide +kernel)
def ytd:(Str.ofString "things" =Str.ofString "days")=False:=eq_false (by decide +kernel)
def y_w(w h:Int)(T:List Th)(D:List Dy):œ ["Yard"] (Str.ofString "width") (Z6 w h T D)=some (.int w):=by
 unfold œ Z6
 simp
def y_h(w h:Int)(T:List Th)(D:List Dy):œ ["Yard"] (Str.ofString "height") (Z6 w h T D)=some (.int h):=by
 have:(Str.ofString "height" == Str.ofString "width")=false:=by decide +kernel
 unfold œ Z6
 simp[List.lookup_cons,this]
def y_t(w h:Int)(T:List Th)(D:List Dy):œ ["Yard"] (Str.ofString "things") (Z6 w h T D)=some (.lst (T.map ź)):=by
 have e1:(Str.ofString "things" == Str.ofString "width")=false:=by decide +kernel
 have e2:(Str.ofString "things" == Str.ofString "height")=false:=by decide +kernel
 unfold œ Z6
 simp[List.lookup_cons,e1,e2]
def y_d(w h:Int)(T:List Th)(D:List Dy):œ ["Yard"] (Str.ofString "days") (Z6 w h T D)=some (.lst (D.map xT)):=by
 have e1:(Str.ofString "days" == Str.ofString "width")=false:=by decide +kernel
 have e2:(Str.ofString "days" == Str.ofString "height")=false:=by decide +kernel
 have e3:(Str.ofString "days" == Str.ofString "things")=false:=by decide +kernel
 unfold œ Z6
 simp[List.lookup_cons,e1,e2,e3]
def Z1r(D:List Dy)(hD:D.length<=100000)(s0 s1 s2:P.Slot):ĺ (gT 3 (ġ (gN 0) (ġ (gN 1) (ġ (gN 2) ŷ)))) ı (Ŀ (ă (ě 0) (ă (ě 1) (ă (č (iR bf (ă (Ā 2) ĕ))) ĕ)))) (D.map xT) [s0,s1,s2] []=some (D.map xT):=by
 have h:=Ļ (g:=gT 3 (ġ (gN 0) (ġ (gN 1) (ġ (gN 2) ŷ)))) (mt:=ı) (me:=Ŀ (ă (ě 0) (ă (ě 1) (ă (č (iR bf (ă (Ā 2) ĕ))) ĕ)))) xT xT (λρ=>∃a b c,ρ=[a,b,c]) D [s0,s1,s2] [] ⟨_,_,_,rfl⟩ (by simp;omega) (by
  rintro d _ ρ ⟨a,b,c,rfl⟩
  refine⟨[.sh (.str d.1),.sh (.int d.2.1),.sh (.lst (d.2.2.map Um))],[.sh (.str d.1),.sh (.int d.2.1),.sh (.lst (d.2.2.map Um))],[.sh (.str d.1),.sh (.int d.2.1),.sh (.lst (d.2.2.map Um))],by simp[xT],rfl,by simp[xT],_,_,_,rfl⟩)
 simpa using h
def Z2f(w h:Int){T:List Th}{D:List Dy}(hT:T.length<=100000)(hD:D.length<=100000){s3 s4:P.Slot}(h3:Sl s3 (T.map ź))(h4:Sl s4 (D.map xT)):aM [.sh (.int w),.sh (.int h),s3,s4]=.ok ["width","height","things","days"] [.int w,.int h,.lst (T.map ź),.lst (D.map xT)]:=by
 have c:=Z1r D hD .no .no .no
 generalize hx:T.map ź=tx at *
 generalize hy:D.map xT=dx at *
 rcases h3 with rfl|rfl<;>rcases h4 with rfl|rfl<;>simp[aM,bL,Bx,gw,IR.of,List.replicate,putN,wC,ywh,ywt,ywd,yht,yhd,ytd,c,mEi,LQ]
def Z2g(w h:Int){T:List Th}(hT:T.length<=100000)(r:PV):aM [.sh (.int w),.sh (.int h),.bw (T.map ź),P.d31 r]=.ok ["width","height","things","days"] [.int w,.int h,.lst (T.map ź),.lst [.tup [.str "ab",.int 3,.lst [r,.non]],.tup [.str "a",.int 1,.lst [.non]]]]:=by
 generalize hx:T.map ź=tx at *
 simp[aM,bL,Bx,gw,IR.of,List.replicate,putN,wC,ywh,ywt,ywd,yht,yhd,ytd,mEi,LQ,P.d31,uH,lu,uI,gD,nY,tW]
def Z2F{k q w:Nat}(hw:0<w):(q*w<=k/\k-q*w<w)↔k / w=q:=by
 constructor
 ·rintro ⟨a,b⟩
  exact Nat.div_eq_of_lt_le a (by rw[Nat.add_mul];omega)
 ·rintro rfl
  have h1:=Nat.div_mul_le_self k w
  have h2:=Nat.mod_lt k hw
  have h3:=Nat.mod_eq_sub_div_mul (x:=k) (k:=w)
  omega
def Z2G{k q w:Nat}(h:k / w=q):k-q*w=k % w:=by
 subst h
 exact(Nat.mod_eq_sub_div_mul).symm
def Z2X{k w h:Nat}(hw:0<w):k / w<h↔k<w*h:=by
 rw[Nat.div_lt_iff_lt_mul hw,Nat.mul_comm]
def xU(w k:Nat):Hu.Pt:=(((k % w:Nat):Int),((k / w:Nat):Int))
def Z2h{S:List Hu.Pt}{r:P3}{p q:Int}:inR (Hu.Zi S) (2*r.2.2) q p↔(Hu.ZB S (cst r (vJ (p,q)))).isNone=true:=by
 have e:cst r (vJ (p,q))=(2*r.2.2*p,2*r.2.2*q):=by
  unfold cst vJ
  simp only[Int.mul_zero,Int.add_zero,Prod.mk.injEq]
  constructor<;>grind
 rw[e]
 unfold Hu.ZB inR Hu.hd
 rw[Option.isNone_iff_eq_none,List.find?_eq_none]
 simp
theorem ZG{α:Type}(y:α):∀(xs b:List α),y∈xs.foldl (λb x=>x::b) b↔(y∈xs\/y∈b)
 | [],b=>by simp
 |x::xs,b=>by rw[List.foldl_cons,ZG y xs (x::b)];simp;grind
def Ai(t:Th)(s:Hu.Pt)(r:P3):Bool:=YF t.1 t.2 s r
def Z1s{w h:Nat}(hw:0<w)(hw2:w<=60)(hh:h<=1000)(T:List Th)(Ds:List Dy){t:Th}(hg:Z1 t.1 t.2=true){r:P3}(hr:RB r)(hz:0<r.2.2) :
 ∃D:Nat,cD [.sh (Z6 w h T Ds),.sh (ź t),.sh (c3 r)]=.ret (.sh (.int D))/\∀k,D.testBit k=(decide (k<w*h) && Ai t (xU w k) r):=by
 obtain⟨g1,g2,g3⟩:=Z0s hg
 have hc:=Z0r hg (by omega) hr
 have hS:∀p∈(Ze t.1 t.2).map (cst r),Sm p:=by
  intro p hp
  obtain⟨q,hq,rfl⟩:=List.mem_map.mp hp
  exact Z0q hr (g3 q hq)
 have hl:=Z0m (sl:=.sh (.lst (((Ze t.1 t.2).map (cst r)).map pt))) (.inl rfl) hS (by simpa using g2) (by simp;omega)
 have hls:∀l∈Hu.Zi ((Ze t.1 t.2).map (cst r)),Uh l:=λl h=>Z1o h hS
 have yw:=y_w w h T Ds
 have yh:=y_h w h T Ds
 have hv:(2:Int)*r.2.2<=10000000:=by have:=hr.2.2.2.2.2;omega
 generalize hX:Hu.Zi ((Ze t.1 t.2).map (cst r))=X at *
 generalize hY:Z6 w h T Ds=Y at *
 have hr2:Ė (c3 r) (.int 2)=some (.int r.2.2):=by simp[c3]
 obtain⟨ρ',e1,D,s5,rfl,hD⟩:=dh (g:=gN 5) (mb:=uW) (λ(q:Nat)=>PV.int q) (λ(b:List Nat) (x:Nat)=>x::b) (λb ρ=>∃(D:Nat) (s5:P.Slot),ρ=[.sh Y,.sh (ź t),.sh (c3 r),.ow (X.map bV),.sh (.int D),s5]/\∀k,D.testBit k=true↔(k / w∈b/\Ai t (xU w k) r=true)) (List.range h) (by
  rintro q hq b ρ ⟨D,s5,rfl,hD⟩
  have hq:=List.mem_range.mp hq
  obtain⟨B,b1,b2⟩:=Z2E (u:=2*r.2.2) (q:=q) (w:=w) (by omega) hv (by omega) (by omega) (by omega) hls (sl:=.bw (X.map bV)) (.inr rfl)
  have hB:B<2 ^ w:=Z0Y λk hk=>by
   have:=b2 k
   cases e:B.testBit k with
   |false=>rfl
   |true=>have:=(this.mp e).1;omega
  have hB2:B<2 ^ 60:=Nat.lt_of_lt_of_le hB (Nat.pow_le_pow_right (by omega) hw2)
  have hqw:q*w<=1000*60:=Nat.mul_le_mul (by omega) hw2
  have so:nZ (B:Int) ((q:Int)*(w:Int))=true:=by
   have:((q:Int)*(w:Int))=((q*w:Nat):Int):=by simp
   rw[this]
   unfold nZ
   simp
   omega
  have mo:ń (q:Int) (w:Int)=true:=Ÿ (by omega) (by omega)
  have tn:((q:Int)*(w:Int)).toNat=q*w:=by
   have:((q:Int)*(w:Int))=((q*w:Nat):Int):=by simp
   rw[this];rfl
  obtain⟨Z,hZ⟩:∃Z:Nat,Z=D ||| B*2 ^ (q*w):=⟨_,rfl⟩
  have oe:Builtin.bitOr (D:Int) ((B:Int)*2 ^ (q*w))=(Z:Int):=by
   have ee:(B:Int)*2 ^ (q*w)=((B*2 ^ (q*w):Nat):Int):=by simp
   rw[ee,Z0t,hZ]
  have m2:ń 2 r.2.2=true:=Ÿ (by omega) (by omega)
  generalize c3 r=R at *
  have st:uW [.sh Y,.sh (ź t),.sh R,.ow (X.map bV),.sh (.int D),.sh (.int q)]=.ok .nx [.sh Y,.sh (ź t),.sh R,.ow (X.map bV),.sh (.int Z),.sh (.int q)]:=by
   simp[uW,hr2,yw,m2,b1,mo,so,tn,oe]
  refine⟨_,_,rfl,st,_,_,rfl,λk=>?_⟩
  rw[hZ,Nat.testBit_or,Bool.or_eq_true,hD,Nat.testBit_mul_two_pow,Bool.and_eq_true,decide_eq_true_eq,b2,List.mem_cons,<-hX,Z2h]
  have key:∀(_:k / w=q),((Hu.ZB ((Ze t.1 t.2).map (cst r)) (cst r (vJ (((k-q*w:Nat):Int),(q:Int))))).isNone=true↔Ai t (xU w k) r=true):=by
   intro hk
   unfold Ai YF xU
   rw[Z2G hk,hk]
  have d:=Z2F (k:=k) (q:=q) hw
  constructor
  ·rintro (⟨a,b⟩|⟨a,b,c⟩)
   ·exact⟨.inr a,b⟩
   ·have:=d.mp ⟨a,b⟩
    exact⟨.inl this,(key this).mp c⟩
  ·rintro ⟨a|a,b⟩
   ·have:=d.mpr a
    exact .inr ⟨this.1,this.2,(key a).mpr b⟩
   ·exact .inl ⟨a,b⟩) [] [.sh Y,.sh (ź t),.sh (c3 r),.ow (X.map bV),.sh (.int ((0:Nat):Int)),.no] ⟨0,.no,rfl,by simp⟩
 refine⟨D,?_,λk=>?_⟩
 ·have rr:=ZF hh
  have hc':rZ [.sh (ź t),.sh (c3 r)]=.ret (.ow (((Ze t.1 t.2).map (cst r)).map pt)):=hc
  generalize c3 r=R at *
  generalize ź t=Tv at *
  simp[cD,Ib,List.replicate,hc',hl,yh,rr,-List.map_map] at e1 ⊢
  simp[e1]
 ·have:=hD k
  rw[ZG,List.mem_range,Z2X hw] at this
  rw[Bool.eq_iff_iff,this,Bool.and_eq_true,decide_eq_true_eq]
  simp
def Zh:Nat->(Nat->Bool)->Nat
 |0,_=>0
 |n+1,p=>Zh n p+if p n then 2 ^ n else 0
theorem ZY(p:Nat->Bool):∀n,Zh n p<2 ^ n
 |0=>by simp[Zh]
 |n+1=>by
  have:=ZY p n
  unfold Zh
  rw[Nat.pow_succ]
  split<;>omega
theorem Zu(p:Nat->Bool):∀n k,(Zh n p).testBit k=(decide (k<n) && p k)
 |0,k=>by simp[Zh]
 |n+1,k=>by
  have hl:=ZY p n
  unfold Zh
  by_cases h:k<n
  ·have ih:=Zu p n k
   have h1:k<n+1:=by omega
   split
   ·rw[Nat.add_comm,Nat.testBit_two_pow_add_gt h,ih];simp[h,h1]
   ·rw[Nat.add_zero,ih];simp[h,h1]
  ·by_cases h2:k=n
   ·subst h2
    split
    ·rename_i q
     rw[Nat.add_comm,Nat.testBit_two_pow_add_eq,Nat.testBit_lt_two_pow hl];simp[q]
    ·rename_i q
     rw[Nat.add_zero,Nat.testBit_lt_two_pow hl];simp[q]
   ·have h3:¬k<n+1:=by omega
    have:Zh n p+(if p n=true then 2 ^ n else 0)<2 ^ k:=by
     refine Nat.lt_of_lt_of_le (ZY p (n+1)) (Nat.pow_le_pow_right (by omega) (by omega))
    rw[Nat.testBit_lt_two_pow this]
    simp[h3]
def Zr{n:Nat}{p:Nat->Bool}{D:Nat}(h:∀k,D.testBit k=(decide (k<n) && p k)):D=Zh n p:=Nat.eq_of_testBit_eq λk=>by rw[h,Zu]
def Z0J{n:Nat}{p q:Nat->Bool}(h:∀k<n,p k=q k):Zh n p=Zh n q:=Zr λk=>by
 rw[Zu]
 by_cases hk:k<n
 ·rw[h k hk]
 ·simp[hk]
def qd(w h:Nat)(r:P3)(t:Th):Nat:=Zh (w*h) λk=>Ai t (xU w k) r
def Y_(w:Nat)(T:List Th):Option P3->Nat->Bool
 |none,_=>true
 |some r,k=>T.any λt=>Ai t (xU w k) r
def Jt(w h:Nat)(T:List Th)(o:Option P3):Nat:=Zh (w*h) (Y_ w T o)
def RB'(o:Option P3):Prop:=match o with|none=>True|some r=>RB r/\0<r.2.2
def ZH{w h:Nat}(hw:0<w)(hw2:w<=60)(hh:h<=1000)(T:List Th)(Ds:List Dy){t:Th}(hg:Z1 t.1 t.2=true){r:P3}(hr:RB r)(hz:0<r.2.2) :
 cD [.sh (Z6 w h T Ds),.sh (ź t),.sh (c3 r)]=.ret (.sh (.int (qd w h r t))):=by
 obtain⟨D,h1,h2⟩:=Z1s hw hw2 hh T Ds hg hr hz
 rw[h1,Zr h2]
 rfl
def Z1Q{w h:Nat}(hw:0<w)(hw2:w<=60)(hh:h<=1000){T:List Th}(hT:T.length<=1000)(Ds:List Dy)(hg:∀t∈T,Z1 t.1 t.2=true){r:P3}(hr:RB r)(hz:0<r.2.2) :
 Mg [.sh (Z6 w h T Ds),.sh (c3 r)]=.ret (.ow (T.map λt=>.int (qd w h r t))):=by
 have yt:=y_t w h T Ds
 have hc:=Ļ (g:=gN 2) (mt:=ı) (me:=č (ċ cD (ā 0 (ā 2 (ā 1 Ĉ))))) ź (λt=>.int (qd w h r t)) (λρ=>∃s,ρ=[.sh (Z6 w h T Ds),.sh (c3 r),s]) T [.sh (Z6 w h T Ds),.sh (c3 r),.no] [] ⟨_,rfl⟩ (by simp;omega) (by
  rintro t ht ρ ⟨s,rfl⟩
  have e:=ZH hw hw2 hh T Ds (hg t ht) hr hz
  generalize Z6 w h T Ds=Y at *
  generalize c3 r=R at *
  generalize ź t=Tv at *
  refine⟨_,_,_,rfl,rfl,by simp[e];rfl,_,rfl⟩)
 generalize Z6 w h T Ds=Y at *
 generalize c3 r=R at *
 simp[Mg,Qu,List.replicate,yt]
 simp at hc
 simp[hc]
def Z06{w h:Nat}(hw:0<w)(hw2:w<=60)(hh:h<=1000)(Ms:w*h<=1000){T:List Th}(hT:T.length<=1000)(Ds:List Dy)(hg:∀t∈T,Z1 t.1 t.2=true){o:Option P3}(ho:RB' o) :
 Ź [.sh (Z6 w h T Ds),.sh (Um o)]=.ret (.sh (.int (Jt w h T o))):=by
 have yw:=y_w w h T Ds
 have yh:=y_h w h T Ds
 have mo:ń (w:Int) (h:Int)=true:=Ÿ (by omega) (by omega)
 cases o with
 |none=>
  obtain⟨B,b1,b2⟩:=Z0P (f:=0) (l:=(w:Int)*h-1) (w:=w*h) (by omega) (by rw[Int.natCast_mul];omega) Ms
  have:B=Jt w h T none:=Zr λk=>by
   rw[b2]
   simp[Y_]
   have:((w*h:Nat):Int)=(w:Int)*h:=by simp
   omega
  subst this
  generalize Z6 w h T Ds=Y at *
  simp[Ź,zR,List.replicate,Um,yw,yh,mo,b1,Nu]
 |some r=>
  have ho:RB r/\0<r.2.2:=ho
  have hd:=Z1Q hw hw2 hh hT Ds hg ho.1 ho.2
  obtain⟨ρ',e1,D,s3,rfl,hD⟩:=dh (g:=gN 3) (mb:=zQ) (λ(t:Th)=>PV.int (qd w h r t)) (λ(b:List Th) (x:Th)=>x::b) (λb ρ=>∃(D:Nat) (s3:P.Slot),ρ=[.sh (Z6 w h T Ds),.sh (c3 r),.sh (.int D),s3]/\∀k,D.testBit k=true↔(k<w*h/\∃t∈b,Ai t (xU w k) r=true)) T (by
   rintro t ht b ρ ⟨D,s3,rfl,hD⟩
   refine⟨_,_,rfl,by simp[zQ,Z0t];exact⟨rfl,rfl⟩,_,_,rfl,λk=>?_⟩
   rw[Nat.testBit_or,Bool.or_eq_true,hD,qd,Zu,Bool.and_eq_true,decide_eq_true_eq]
   simp
   grind) [] [.sh (Z6 w h T Ds),.sh (c3 r),.sh (.int ((0:Nat):Int)),.no] ⟨0,.no,rfl,by simp⟩
  have:D=Jt w h T (some r):=Zr λk=>by
   have:=hD k
   rw[Bool.eq_iff_iff,this]
   simp only[ZG,Y_,List.not_mem_nil,or_false,Bool.and_eq_true,decide_eq_true_eq,List.any_eq_true]
  subst this
  have hn:CP (c3 r) .non=some (.bl false):=by simp[c3,Nu]
  generalize Z6 w h T Ds=Y at *
  show Ź [.sh Y,.sh (c3 r)]=_
  simp at e1
  generalize c3 r=R at *
  have hn:Nu R=false:=by simpa using hn
  simp[Ź,zR,List.replicate,hd,hn,e1]
def Z02(ns:List Int)(k:Nat):Ţ [.sh (.lst (ns.map .int)),.sh (.int k)]=.ret (.sh (.int (ns.getD k 0))):=by
 by_cases h:k<ns.length
 ·have h':(k:Int)<(ns.length:Int):=by omega
  simp[Ţ,zH,List.replicate,h',List.getElem?_eq_getElem h]
 ·have h':¬(k:Int)<(ns.length:Int):=by omega
  simp[Ţ,zH,List.replicate,h',List.getElem?_eq_none (Nat.le_of_not_lt h)]
@[simp] theorem ZD(ns:List Int)(k:Nat):Ţ [.sh (.lst (ns.map .int)),.sh (.int (no_index (OfNat.ofNat k)))]=.ret (.sh (.int (ns.getD k 0))):=Z02 ns k
def Gr(x:Int):Prop:=0<=x/\x<524288
theorem Zt(c:Int)(s1:P.Slot):∀(ks:List Nat) (acc:List Int) (n:Int) (s4:P.Slot),acc.length+ks.length<=100000->(∀k∈ks,k<=100000)->(∀x∈acc,Gr x)->∃(acc':List Int) (n':Int) (Jx:P.Slot),forL (gN 4) kh (ks.map λ(i:Nat)=>PV.int (i:Int)) [.sh (.int c),s1,.ow (acc.map .int),.sh (.int n),s4]=.ok .nx [.sh (.int c),s1,.ow (acc'.map .int),.sh (.int n'),Jx]/\acc'.length=acc.length+ks.length/\∀x∈acc',Gr x
 | [],acc,n,s4,_,_,h=>⟨acc,n,s4,rfl,rfl,h⟩
 |k::ks,acc,n,s4,hl,hk,h=>by
  have hk0:=hk k List.mem_cons_self
  have hl0:acc.length<16777216:=by simp at hl;omega
  rw[List.map_cons,forL]
  have hg:gN 4 (PV.int (k:Int)) [.sh (.int c),s1,.ow (acc.map .int),.sh (.int n),s4]=some [.sh (.int c),s1,.ow (acc.map .int),.sh (.int n),.sh (.int k)]:=rfl
  rw[hg]
  dsimp only
  by_cases h0:c % 2=0
  ·have e:kh [.sh (.int c),s1,.ow (acc.map .int),.sh (.int n),.sh (.int k)]=.ok .nx [.sh (.int c),s1,.ow ((acc ++ [n % 524287]).map .int),.sh (.int (n / 524287)),.sh (.int k)]:=by
    simp[kh,h0,hl0]
   rw[e]
   obtain⟨a,b,d,q1,q2,q3⟩:=Zt c s1 ks (acc ++ [n % 524287]) (n / 524287) (.sh (.int k)) (by simp at hl ⊢;omega) (λx hx=>hk x (List.mem_cons_of_mem _ hx)) (by
    intro x hx
    rcases List.mem_append.mp hx with hx|hx
    ·exact h x hx
    ·rw[List.mem_singleton.mp hx];unfold Gr;omega)
   exact⟨a,b,d,q1,by simp at q2 ⊢;omega,q3⟩
  ·obtain⟨m,hm⟩:∃m,(n*49157+24593+2*(k:Int)) % 8388593=m:=⟨_,rfl⟩
   have e:kh [.sh (.int c),s1,.ow (acc.map .int),.sh (.int n),.sh (.int k)]=.ok .nx [.sh (.int c),s1,.ow ((acc ++ [m / 16]).map .int),.sh (.int m),.sh (.int k)]:=by
    simp[kh,h0,hl0,hm]
   rw[e]
   obtain⟨a,b,d,q1,q2,q3⟩:=Zt c s1 ks (acc ++ [m / 16]) m (.sh (.int k)) (by simp at hl ⊢;omega) (λx hx=>hk x (List.mem_cons_of_mem _ hx)) (by
    intro x hx
    rcases List.mem_append.mp hx with hx|hx
    ·exact h x hx
    ·rw[List.mem_singleton.mp hx];unfold Gr;omega)
   exact⟨a,b,d,q1,by simp at q2 ⊢;omega,q3⟩
def Z0c(c:Int){n:Nat}(hn:n<=1000):∃xs:List Int,lA [.sh (.int c),.sh (.int n)]=.ret (.ow (xs.map .int))/\xs.length=n/\∀x∈xs,Gr x:=by
 have rr:=ZF hn
 by_cases h:c % 2=1
 ·obtain⟨a,b,d,q1,q2,q3⟩:=Zt c (.sh (.int n)) (List.range n) [] (c / 2 % 8388593) .no (by simp;omega) (λk hk=>by have:=List.mem_range.mp hk;omega) (by simp)
  refine⟨a,?_,by simpa using q2,q3⟩
  simp at q1
  simp[lA,zx,List.replicate,h,rr,q1]
 ·obtain⟨a,b,d,q1,q2,q3⟩:=Zt c (.sh (.int n)) (List.range n) [] (c / 2) .no (by simp;omega) (λk hk=>by have:=List.mem_range.mp hk;omega) (by simp)
  refine⟨a,?_,by simpa using q2,q3⟩
  simp at q1
  simp[lA,zx,List.replicate,h,rr,q1]
def Pl(x:Int):Prop:=-1000000000+50<=x/\x<=1000000000-50
def Zq(n:Int){w:Int}(h1:1<=w)(h2:w<=1000):∃x:Int,iz [.sh (.int n),.sh (.int w)]=.ret (.sh (.int x))/\Pl x:=by
 by_cases h:n / 512 % 16=5
 ·exact⟨n*3813 % 1999999901-1000000000+50,by simp[iz,zA,List.replicate,h],by unfold Pl;omega⟩
 ·have m0:¬(2*w+9=0):=by omega
  have p:=Int.emod_nonneg n (show(2*w+9)≠0 by omega)
  have q:=Int.emod_lt_of_pos n (show 0<(2*w+9) by omega)
  have e:n.fmod (2*w+9)=n % (2*w+9):=Int.fmod_eq_emod_of_nonneg n (by omega)
  exact⟨n % (2*w+9)-4,by simp[iz,zA,List.replicate,h,m0,e],by unfold Pl;omega⟩
def Z03(n:Int):∃x:Int,rP [.sh (.int n)]=.ret (.sh (.int x))/\1<=x/\x<=1000000000:=by
 by_cases h:n / 512 % 12=7
 ·exact⟨1+n*1907 % 1000000000,by simp[rP,zy,List.replicate,h],by omega,by omega⟩
 ·exact⟨1+n % 9,by simp[rP,zy,List.replicate,h],by omega,by omega⟩
def Z1t{x y h:Int}(a:Pl x)(b:Pl y)(c:1<=h/\h<=1000000000):Z1 "post" [x / 2,y / 2,h]=true:=by
 unfold Pl at a b
 unfold Z1 Zg ů vI
 simp
 omega
def Jy{a b:String}(h:decide (Str.ofString a=Str.ofString b)=false):¬(Str.ofString a=Str.ofString b):=of_decide_eq_false h
def Z10{x y u v h:Int}(a:Pl x)(b:Pl y)(hu: -4<=u/\u<=4)(hv: -4<=v/\v<=4)(c:1<=h/\h<=1000000000)(e:Int)(he:e=if u=0/\v=0 then 1 else 0):Z1 "fence" [x,y,x+u+e,y+v,h]=true:=by
 have h1:¬(Str.ofString "fence" =Str.ofString "post"):=Jy (by decide +kernel)
 unfold Pl at a b
 unfold Z1
 rw[if_neg h1,if_pos rfl]
 unfold Za Zd ů vI
 simp
 split at he<;>omega
def Z0v{w:Str}(hw:w= "sail" \/w= "house"){x y u v h:Int}(a:Pl x)(b:Pl y)(hu:0<=u/\u<=8)(hv:0<=v/\v<=8)(c:1<=h/\h<=1000000000):Z1 w [x,y,x+1+u,y+1+v,h]=true:=by
 have hb:Z7 [x,y,x+1+u,y+1+v,h]=true:=by
  unfold Pl at a b
  unfold Z7 Zd ů vI
  simp
  omega
 unfold Z1
 rcases hw with rfl|rfl
 ·rw[if_neg (Jy (by decide +kernel)),if_neg (Jy (by decide +kernel)),if_pos rfl]
  exact hb
 ·rw[if_neg (Jy (by decide +kernel)),if_neg (Jy (by decide +kernel)),if_neg (Jy (by decide +kernel)),if_neg (Jy (by decide +kernel)),if_pos rfl]
  exact hb
def Z11{x y z a b c d e f:Int}(h1:Pl x)(h2:Pl y)(h3:0<=z/\z<=1000000000)(h4:Pl a)(h5:Pl b)(h6:1<=c/\c<=1000000000)(h7:Pl d)(h8:Pl e)(h9:1<=f/\f<=1000000000):Z1 "cloth" [x,y,z,a,b,c,d,e,f]=true:=by
 unfold Z1
 rw[if_neg (Jy (by decide +kernel)),if_neg (Jy (by decide +kernel)),if_neg (Jy (by decide +kernel)),if_pos rfl]
 unfold Pl at *
 unfold Zb ů xQ
 simp
 omega
theorem Z2Y:∀(xs:List Int),xs.length=14->∃a b c d e f g h i j k l m n,xs=[a,b,c,d,e,f,g,h,i,j,k,l,m,n]
 | [a,b,c,d,e,f,g,h,i,j,k,l,m,n],_=>⟨a,b,c,d,e,f,g,h,i,j,k,l,m,n,rfl⟩
def Z2Z(x y:Hu.Pt):ŝ (pt x) (pt y)=some (.bl (decide (x=y))):=by
 unfold ŝ qy
 rw[ZU,ZU,ZN,ZN,Z0j]
 rfl
def Z0w:aQ [.int 2]=some [.int 0,.int 1]:=by rfl
def Z0d(c:Int){w:Int}(hw1:1<=w)(hw2:w<=1000):∃t:Th,bO [.sh (.int c),.sh (.int w)]=.ret (.sh (.tup [.str t.1,.lst (t.2.map .int)]))/\Z1 t.1 t.2=true:=by
 obtain⟨xs,eg,hl,hx⟩:=Z0c c (n:=14) (by omega)
 obtain⟨x0,x1,x2,x3,x4,x5,x6,x7,x8,x9,x10,x11,x12,x13,rfl⟩:=Z2Y xs hl
 clear hl hx
 obtain⟨p0,e0,q0⟩:=Zq x0 hw1 hw2
 obtain⟨p1,e1,q1⟩:=Zq x1 hw1 hw2
 obtain⟨z,ez,qz⟩:=Z03 x2
 have YG:lA [.sh (.int c),.sh (.int 14)]=.ret (.ow [.int x0,.int x1,.int x2,.int x3,.int x4,.int x5,.int x6,.int x7,.int x8,.int x9,.int x10,.int x11,.int x12,.int x13]):=eg
 clear eg
 have hc:ĺ (gN 2) ı (č (ċ iz (Ċ (ą Ė (Ā 1) (Ā 2)) (ā 0 Ĉ)))) [PV.int 0,PV.int 1] [.sh (.int w),.bw [.int x0,.int x1,.int x2,.int x3,.int x4,.int x5,.int x6,.int x7,.int x8,.int x9,.int x10,.int x11,.int x12,.int x13],.no] []=some [.int p0,.int p1]:=by
  simp[ĺ,e0,e1]
 have k:0<=x3 % 5/\x3 % 5<5:=by omega
 obtain⟨kd,hkd⟩:∃kd,x3 % 5=kd:=⟨_,rfl⟩
 rw[hkd] at k
 by_cases k0:kd=0
 ·refine⟨("post",[p0 / 2,p1 / 2,z]),?_,Z1t q0 q1 qz⟩
  simp[bO,kj,List.replicate,YG,Z0w,hc,ez,hkd,k0]
 ·by_cases k1:kd=1
  ·refine⟨("fence",[p0,p1,p0+(x4 % 9-4)+(if x4 % 9-4=0/\x5 % 9-4=0 then 1 else 0),p1+(x5 % 9-4),z]),?_,Z10 q0 q1 (by omega) (by omega) qz _ rfl⟩
   have hq:=Z2Z (p0,p1) (p0+x4 % 9-4,p1+x5 % 9-4)
   unfold pt at hq
   dsimp only at hq
   have hi:(if x4 % 9-4=0/\x5 % 9-4=0 then(1:Int) else 0)=if decide ((p0,p1)=(p0+x4 % 9-4,p1+x5 % 9-4))=true then 1 else 0:=by
    simp only[decide_eq_true_eq,Prod.mk.injEq]
    split<;>split<;>omega
   generalize decide ((p0,p1)=(p0+x4 % 9-4,p1+x5 % 9-4))=bb at *
   have a1:p0+(x4 % 9-4)=p0+x4 % 9-4:=by omega
   have a2:p1+(x5 % 9-4)=p1+x5 % 9-4:=by omega
   rw[a1,a2,hi]
   cases bb<;>simp[bO,kj,List.replicate,YG,Z0w,hc,ez,hkd,k1,hq]
  ·by_cases k2:kd=2
   ·obtain⟨p7,e7,q7⟩:=Zq x7 hw1 hw2
    obtain⟨p8,e8,q8⟩:=Zq x8 hw1 hw2
    obtain⟨p9,e9,q9⟩:=Zq x9 hw1 hw2
    obtain⟨p10,e10,q10⟩:=Zq x10 hw1 hw2
    obtain⟨z2,ez2,qz2⟩:=Z03 x11
    refine⟨("cloth",[p0,p1,x6 % 10,p7,p8,z,p9,p10,z2]),?_,Z11 q0 q1 (by omega) q7 q8 qz q9 q10 qz2⟩
    simp[bO,kj,List.replicate,YG,Z0w,hc,ez,hkd,k2,e7,e8,e9,e10,ez2,add_l]
   ·by_cases k3:kd=3
    ·refine⟨("sail",[p0,p1,p0+1+x4 % 8,p1+1+x5 % 8,z]),?_,Z0v (.inl rfl) q0 q1 (by omega) (by omega) qz⟩
     simp[bO,kj,List.replicate,YG,Z0w,hc,ez,hkd,k3]
    ·have k4:kd=4:=by omega
     refine⟨("house",[p0,p1,p0+1+x4 % 8,p1+1+x5 % 8,z]),?_,Z0v (.inr rfl) q0 q1 (by omega) (by omega) qz⟩
     simp[bO,kj,List.replicate,YG,Z0w,hc,ez,hkd,k4]
def Zo(t:Th):PV:=.tup [.str t.1,.lst (t.2.map .int)]
def Z1u(w h:Nat):cB [.tup [.int w,.int h]]=some (.int ((max w h:Nat):Int)):=by
 show some (PV.int (max (w:Int) h))=_
 congr 2
 omega
theorem Z0x{w h:Nat}(hw:1<=w/\w<=20)(hh:1<=h/\h<=20):∀(cs:List Int) (acc:List PV) (s1:P.Slot),acc.length+cs.length<=1000->∃T:List Th,ĺ (gN 1) ı (č (ċ bO (ā 1 (Ċ (bY cB (ă (Ā 0) ĕ)) Ĉ)))) (cs.map .int) [.sh (.tup [.int w,.int h]),s1] acc=some (acc++T.map Zo)/\T.length=cs.length/\∀t∈T,Z1 t.1 t.2=true
 | [],acc,s1,_=>⟨[],by simp[ĺ],rfl,by simp⟩
 |c::cs,acc,s1,ha=>by
  obtain⟨t,e1,e2⟩:=Z0d c (w:=((max w h:Nat):Int)) (by omega) (by omega)
  obtain⟨T,q1,q2,q3⟩:=Z0x hw hh cs (acc ++ [Zo t]) (.sh (.int c)) (by simp at ha ⊢;omega)
  refine⟨t::T,?_,by simp[q2],?_⟩
  ·have hz:acc.length<16777216:=by simp at ha;omega
   have mx:=Z1u w h
   change bO _=.ret (.sh (Zo t)) at e1
   generalize hR:Zo t=R at *
   generalize ((max w h:Nat):Int)=m at *
   rw[List.map_cons,ĺ]
   simp[mx,e1,hz,hR]
   simpa using q1
  ·intro x hx
   rcases List.mem_cons.mp hx with rfl|hx
   ·exact e2
   ·exact q3 x hx
def ZZ{w:Str}{xs:List Int}(h:Z1 w xs=true):PyData.strOk w=true:=by
 unfold Z1 at h
 by_cases e1:w= "post"
 ·rw[e1];exact s1
 rw[if_neg e1] at h
 by_cases e2:w= "fence"
 ·rw[e2];exact s2
 rw[if_neg e2] at h
 by_cases e3:w= "sail"
 ·rw[e3];exact s3
 rw[if_neg e3] at h
 by_cases e4:w= "cloth"
 ·rw[e4];exact s4
 rw[if_neg e4] at h
 by_cases e5:w= "house"
 ·rw[e5];exact s5
 rw[if_neg e5] at h
 cases h
def Z1v{T:List Th}(hl:T.length<=1000)(hg:∀t∈T,Z1 t.1 t.2=true)(s0 s1:P.Slot):ĺ (gT 2 (ġ (gN 0) (ġ (gN 1) ŷ))) ı (č (ċ bh (ā 0 (Ċ (č (iR bf (ă (Ā 1) ĕ))) Ĉ)))) (T.map Zo) [s0,s1] []=some (T.map ź):=by
 have hc:=Ļ (g:=gT 2 (ġ (gN 0) (ġ (gN 1) ŷ))) (mt:=ı) (me:=č (ċ bh (ā 0 (Ċ (č (iR bf (ă (Ā 1) ĕ))) Ĉ)))) Zo ź (λρ=>∃a b,ρ=[a,b]) T [s0,s1] [] ⟨_,_,rfl⟩ (by simp;omega) (by
  rintro t ht ρ ⟨a,b,rfl⟩
  have e:=Z0n (ZZ (hg t ht)) (xs:=t.2) (sl:=.sh (.lst (t.2.map .int))) (.inl rfl)
  rw[if_pos (hg t ht)] at e
  change bh _=.ret (.sh (ź t)) at e
  refine⟨[.sh (.str t.1),.sh (.lst (t.2.map .int))],_,[.sh (.str t.1),.sh (.lst (t.2.map .int))],by simp[Zo],rfl,?_,_,_,rfl⟩
  generalize t.2.map PV.int=X at *
  generalize ź t=V at *
  simp[e])
 simpa using hc
def slI(xs:List Int)(lo hi:Option Int):∃ys:List Int,fB (xs.map PV.int) lo hi=ys.map PV.int/\ys.length<=xs.length:=by
 refine⟨(xs.drop (HT.gZ xs.length 0 lo)).take (HT.gZ xs.length xs.length hi-HT.gZ xs.length 0 lo),?_,by simp;omega⟩
 unfold fB
 rw[List.length_map,List.map_take,List.map_drop]
def slR(T:List Th):∃T':List Th,fB (T.map Zo) none (some 1)=T'.map Zo/\T'.length<=T.length/\∀t∈T',t∈T:=by
 refine⟨T.take (HT.gZ T.length T.length (some 1)),?_,by simp;omega,λt ht=>List.mem_of_mem_take ht⟩
 unfold fB
 rw[List.length_map,List.map_take]
 rfl
def Z0y:Option Hu.Ln->PV
 |some l=>bV l
 |none=>.non
def Z12{S:List Hu.Pt}{sl:P.Slot}(hs:Sl sl (S.map pt))(hS:∀p∈S,Sm p)(h0:S≠[])(hl:S.length<=1000)(p:Hu.Pt):wY [sl,.sh (pt p)]=.ret (.sh (Z0y (Hu.ZB S p))):=by
 have h1:=Z0m hs hS h0 hl
 have e:(Hu.Zi S).findSome? (λl=>if Hu.hd l p=true then none else some l)=Hu.ZB S p:=by
  unfold Hu.ZB
  generalize Hu.Zi S=L
  induction L with
  |nil=>rfl
  |cons l L ih=>
   rw[List.findSome?_cons,List.find?_cons]
   cases q:Hu.hd l p with
   |true=>simpa using ih
   |false=>simp
 rcases gW (g:=gN 2) (mb:=uQ) bV (λl=>if Hu.hd l p=true then none else some l) (λl=>.sh (bV l)) (λρ=>∃s2,ρ=[sl,.sh (pt p),s2]) (Hu.Zi S) (by
  rintro l hm ρ ⟨s2,rfl⟩
  refine⟨[sl,.sh (pt p),.sh (bV l)],by simp,?_⟩
  have hh:=Z0l (Z1o hm hS) p
  cases q:Hu.hd l p with
  |true=>
   rw[q] at hh
   exact .inr ⟨[sl,.sh (pt p),.sh (bV l)],by simp,by simp[uQ,hh],_,rfl⟩
  |false=>
   rw[q] at hh
   exact .inl ⟨l,[sl,.sh (pt p),.sh (bV l)],by simp,by simp[uQ,hh]⟩) [sl,.sh (pt p),.no] ⟨_,rfl⟩ with⟨l,ρ',q1,q2⟩|⟨ρ',q1,q2,_⟩
 ·rw[e] at q1
  rw[q1]
  simp[wY,zJ,List.replicate,hs.lend,h1,q2,Z0y]
 ·rw[e] at q1
  rw[q1]
  simp[wY,zJ,List.replicate,hs.lend,h1,q2,Z0y]
def qe(q:Nat×Nat):PV:=.tup [.int q.1,.int q.2]
def xY(q:Nat×Nat×Nat):PV:=.tup [.int q.1,.int q.2.1,.int q.2.2]
def Z1w(j:Nat)(hj:j<=1000)(acc:List PV)(s0:P.Slot)(ha:acc.length+j<=16777216):pC [s0,.ow acc,.sh (.int j)]=.ok .nx [s0,.ow (acc++((List.range j).map λi=>(i,j)).map qe),.sh (.int j)]:=by
 have c1:ĺ (gN 1) ı (Ŀ (ă (ě 1) (ă (ě 0) ĕ))) ((List.range j).map λ(i:Nat)=>PV.int (i:Int)) [.sh (.int j),.no] []=some (((List.range j).map λi=>(i,j)).map qe):=by
  have:=Ļ (g:=gN 1) (mt:=ı) (me:=Ŀ (ă (ě 1) (ă (ě 0) ĕ))) (λ(i:Nat)=>PV.int (i:Int)) (λi=>qe (i,j)) (λρ=>∃s,ρ=[.sh (.int j),s]) (List.range j) [.sh (.int j),.no] [] ⟨_,rfl⟩ (by simp;omega) (by
   rintro x hx ρ ⟨s,rfl⟩
   exact⟨[.sh (.int j),.sh (.int x)],[.sh (.int j),.sh (.int x)],[.sh (.int j),.sh (.int x)],by simp,by simp,by simp[qe],_,rfl⟩)
  rw[this,List.map_map]
  rfl
 have hl:acc.length+(((List.range j).map λi=>(i,j)).map qe).length<=16777216:=by simpa using ha
 generalize ((List.range j).map λi=>(i,j)).map qe=qs at c1 hl
 simp[pC,ZF hj,c1,hl]
def Z04(k:Nat):Hu.Z8 (k+1)=Hu.Z8 k++(List.range k).map λi=>(i,k):=by
 unfold Hu.Z8
 rw[List.range_succ,List.flatMap_append]
 simp
theorem ZA:∀n,(Hu.Z8 n).length<=n*n
 |0=>by simp[Hu.Z8]
 |n+1=>by
  have:=ZA n
  rw[Z04,List.length_append,List.length_map,List.length_range,Nat.succ_mul,Nat.mul_succ]
  omega
def ZQ(k:Nat):Hu.Zc (k+1)=Hu.Zc k++(Hu.Z8 k).map λq=>(q.1,q.2,k):=by
 unfold Hu.Zc
 rw[List.range_succ,List.flatMap_append]
 simp
theorem Zs{g:Tg}{mb:M Fl}(nb:∀ρ ρ',mb ρ≠ .ok .bk ρ'):∀(xs ys:List PV) (ρ ρ1:ķ),forL g mb xs ρ=.ok .nx ρ1->forL g mb (xs++ys) ρ=forL g mb ys ρ1
 | [],ys,ρ,ρ1,h=>by
   have e:Res.ok Fl.nx ρ=.ok .nx ρ1:=h
   cases e
   rfl
 |x::xs,ys,ρ,ρ1,h=>by
  rw[List.cons_append,forL]
  rw[forL] at h
  cases e:g x ρ with
  |none=>rw[e] at h;cases h
  |some ρ2=>
   rw[e] at h
   dsimp only at h ⊢
   cases e2:mb ρ2 with
   |bad=>rw[e2] at h;cases h
   |exc x ρ3=>rw[e2] at h;cases h
   |ok f ρ3=>
    rw[e2] at h
    cases f with
    |nx=>exact Zs nb xs ys ρ3 ρ1 h
    |ct=>exact Zs nb xs ys ρ3 ρ1 h
    |bk=>exact absurd e2 (nb ρ2 ρ3)
    |rt r=>cases h
def ZI{g:Tg}{mb:M Fl}{p:PV}{ρ ρ1 ρ2:ķ}(h1:g p ρ=some ρ1)(h2:mb ρ1=.ok .nx ρ2):forL g mb [p] ρ=.ok .nx ρ2:=by
 rw[forL,h1]
 dsimp only
 rw[h2]
 rfl
def Z1x{i:Nat}{mo:M RV}{ρ ρ':ķ}:zp i mo ρ≠ .ok .bk ρ':=by
 unfold zp
 intro h
 split at h
 ·cases e:mo ρ with
  |bad=>rw[e] at h;cases h
  |exc x ρ1=>rw[e] at h;cases h
  |ok r ρ1=>
   rw[e] at h
   simp only[Res.Ű] at h
   split at h
   ·split at h<;>cases h
   ·cases h
 ·cases h
def Z0z(n:Nat)(hn:n<=100):wZ [.sh (.int n)]=.ret (.ow ((Hu.Z8 n).map qe)):=by
 have key:∀k,k<=n->∃s2,forL (gN 2) pC ((List.range k).map λ(i:Nat)=>PV.int (i:Int)) [.sh (.int n),.ow [],.no]=.ok .nx [.sh (.int n),.ow ((Hu.Z8 k).map qe),s2]:=by
  intro k
  induction k with
  |zero=>intro _;exact⟨.no,rfl⟩
  |succ k ih=>
   intro hk
   obtain⟨s2,e⟩:=ih (by omega)
   refine⟨.sh (.int k),?_⟩
   rw[List.range_succ,List.map_append,Zs (mb:=pC) (λ_ _=>Z1x) _ _ _ _ e,Z04,List.map_append]
   have hlen:=ZA k
   have hm:k*k<=100*100:=Nat.mul_le_mul (by omega) (by omega)
   exact ZI rfl (Z1w k (by omega) ((Hu.Z8 k).map qe) (.sh (.int n)) (by rw[List.length_map];omega))
 obtain⟨s2,e⟩:=key n (Nat.le_refl n)
 have hr:=ZF (show n<=1000 by omega)
 simp[wZ,Hs,List.replicate,hr,e]
def Z0K(k:Nat)(hk:k<=100)(acc:List PV)(s0:P.Slot)(ha:acc.length<=10000000):pD [s0,.ow acc,.sh (.int k)]=.ok .nx [s0,.ow (acc++((Hu.Z8 k).map λq=>(q.1,q.2,k)).map xY),.sh (.int k)]:=by
 have hlen:=ZA k
 have hm:k*k<=100*100:=Nat.mul_le_mul (by omega) (by omega)
 have c1:ĺ (gN 1) ı (Ŀ (ă (ą Ė (Ā 1) (mC (.int 0))) (ă (ą Ė (Ā 1) (mC (.int 1))) (ă (ě 0) ĕ)))) ((Hu.Z8 k).map qe) [.sh (.int k),.no] []=some (((Hu.Z8 k).map λq=>(q.1,q.2,k)).map xY):=by
  have:=Ļ (g:=gN 1) (mt:=ı) (me:=Ŀ (ă (ą Ė (Ā 1) (mC (.int 0))) (ă (ą Ė (Ā 1) (mC (.int 1))) (ă (ě 0) ĕ)))) qe (λq=>xY (q.1,q.2,k)) (λρ=>∃s,ρ=[.sh (.int k),s]) (Hu.Z8 k) [.sh (.int k),.no] [] ⟨_,rfl⟩ (by simp;omega) (by
   rintro x hx ρ ⟨s,rfl⟩
   exact⟨[.sh (.int k),.sh (qe x)],[.sh (.int k),.sh (qe x)],[.sh (.int k),.sh (qe x)],by simp,by simp,by simp[qe,xY],_,rfl⟩)
  rw[this,List.map_map]
  rfl
 have hl:acc.length+(((Hu.Z8 k).map λq=>(q.1,q.2,k)).map xY).length<=16777216:=by simp;omega
 have hp:=Z0z k hk
 generalize ((Hu.Z8 k).map λq=>(q.1,q.2,k)).map xY=qs at c1 hl
 simp[pD,hp,c1,hl]
theorem ZW:∀n,n<=100->(Hu.Zc n).length<=n*10000
 |0,_=>by simp[Hu.Zc]
 |n+1,h=>by
  have:=ZW n (by omega)
  have h2:=ZA n
  have hm:n*n<=100*100:=Nat.mul_le_mul (by omega) (by omega)
  rw[ZQ,List.length_append,List.length_map]
  omega
def Z13(n:Nat)(hn:n<=100):BR [.sh (.int n)]=.ret (.ow ((Hu.Zc n).map xY)):=by
 have key:∀k,k<=n->∃s2,forL (gN 2) pD ((List.range k).map λ(i:Nat)=>PV.int (i:Int)) [.sh (.int n),.ow [],.no]=.ok .nx [.sh (.int n),.ow ((Hu.Zc k).map xY),s2]:=by
  intro k
  induction k with
  |zero=>intro _;exact⟨.no,rfl⟩
  |succ k ih=>
   intro hk
   obtain⟨s2,e⟩:=ih (by omega)
   refine⟨.sh (.int k),?_⟩
   rw[List.range_succ,List.map_append,Zs (mb:=pD) (λ_ _=>Z1x) _ _ _ _ e,ZQ,List.map_append]
   have hlen:=ZW k (by omega)
   exact ZI rfl (Z0K k (by omega) ((Hu.Zc k).map xY) (.sh (.int n)) (by rw[List.length_map];omega))
 obtain⟨s2,e⟩:=key n (Nat.le_refl n)
 have hr:=ZF (show n<=1000 by omega)
 simp[BR,Ht,List.replicate,hr,e]
def W(x:Int):Prop:=-100000000000000000000000000000000000000000000000000<x/\x<100000000000000000000000000000000000000000000000000
theorem W.bits{x:Int}(h:W x):bits x<=200:=jt (n:=200) (by have:=h.1;omega) (by have:=h.2;omega)
def dif{a b:Int}(h1: -100000000000000000<=a)(h2:a<=100000000000000000)(h3: -100000000000000000<=b)(h4:b<=100000000000000000): -200000000000000000<=a-b/\a-b<=200000000000000000:=by omega
def Z_{a b c d:Int}(h1: -c<=a)(h2:a<=c)(h3: -d<=b)(h4:b<=d)(hc:0<=c)(hd:0<=d): -(c*d)<=a*b/\a*b<=c*d:=by
 have e1:(a*b).natAbs=a.natAbs*b.natAbs:=Int.natAbs_mul a b
 have e2:a.natAbs*b.natAbs<=c.natAbs*d.natAbs:=Nat.mul_le_mul (by omega) (by omega)
 have e3:(c*d).natAbs=c.natAbs*d.natAbs:=Int.natAbs_mul c d
 have e4:0<=c*d:=Int.mul_nonneg hc hd
 omega
def ZR{a b c:Hu.Pt}(ha:Sm a)(hb:Sm b)(hc:Sm c):rT [.sh (pt a),.sh (pt b),.sh (pt c)]=.ret (.sh (.int (Hu.tn a b c))):=by
 obtain⟨a1,a2,a3,a4⟩:=ha
 obtain⟨b1,b2,b3,b4⟩:=hb
 obtain⟨c1,c2,c3,c4⟩:=hc
 have m1:ń (b.1-a.1) (c.2-a.2)=true:=Ÿ (by omega) (by omega)
 have m2:ń (b.2-a.2) (c.1-a.1)=true:=Ÿ (by omega) (by omega)
 simp[rT,Hv,List.replicate,pt,Hu.tn,m1,m2]
def Z1R{a b c:Hu.Pt}(ha:Sm a)(hb:Sm b)(hc:Sm c): -80000000000000000000000000000000000<=Hu.tn a b c/\Hu.tn a b c<=80000000000000000000000000000000000:=by
 obtain⟨a1,a2,a3,a4⟩:=ha
 obtain⟨b1,b2,b3,b4⟩:=hb
 obtain⟨c1,c2,c3,c4⟩:=hc
 obtain⟨x1,x2⟩:=dif b1 b2 a1 a2
 obtain⟨y1,y2⟩:=dif c3 c4 a3 a4
 obtain⟨z1,z2⟩:=dif b3 b4 a3 a4
 obtain⟨w1,w2⟩:=dif c1 c2 a1 a2
 obtain⟨p1,p2⟩:=Z_ x1 x2 y1 y2 (by decide) (by decide)
 obtain⟨q1,q2⟩:=Z_ z1 z2 w1 w2 (by decide) (by decide)
 unfold Hu.tn
 omega
def Z1S{a b c p:Hu.Pt}(ha:Sm a)(hb:Sm b)(hc:Sm c)(hp:Sm p):Ma [.sh (.lst [pt a,pt b,pt c]),.sh (pt p)]=.ret (.ow ((Hu.uK a b c p).map .int)):=by
 simp[Ma,Qp,List.replicate,ZR hp hb hc,ZR ha hp hc,ZR ha hb hp,Hu.uK]
def Z2H{a b p:Hu.Pt}(ha:Sm a)(hb:Sm b)(hp:Sm p):Mf [.sh (.lst [pt a,pt b]),.sh (pt p)]=.ret (.ow ((Hu.uL a b p).map .int)):=by
 obtain⟨a1,a2,a3,a4⟩:=ha
 obtain⟨b1,b2,b3,b4⟩:=hb
 obtain⟨c1,c2,c3,c4⟩:=hp
 have m1:∀x,ń (b.1-a.1) x=true:=λx=>Ÿ (by omega) (by omega)
 have m2:∀x,ń (b.2-a.2) x=true:=λx=>Ÿ (by omega) (by omega)
 simp[Mf,Qq,List.replicate,pt,Hu.uL,m1,m2]
def Z30{a b c p:Hu.Pt}(ha:Sm a)(hb:Sm b)(hc:Sm c)(hp:Sm p):∀s∈Hu.uK a b c p,-400000000000000000000000000000000000<=s/\s<=400000000000000000000000000000000000:=by
 have h1:=Z1R hp hb hc
 have h2:=Z1R ha hp hc
 have h3:=Z1R ha hb hp
 intro s hs
 simp only[Hu.uK,List.mem_cons,List.not_mem_nil,or_false] at hs
 rcases hs with e|e|e<;>omega
def Z31{a b p:Hu.Pt}(ha:Sm a)(hb:Sm b)(hp:Sm p):∀s∈Hu.uL a b p,-400000000000000000000000000000000000<=s/\s<=400000000000000000000000000000000000:=by
 obtain⟨a1,a2,a3,a4⟩:=ha
 obtain⟨b1,b2,b3,b4⟩:=hb
 obtain⟨c1,c2,c3,c4⟩:=hp
 obtain⟨x1,x2⟩:=dif b1 b2 a1 a2
 obtain⟨z1,z2⟩:=dif b3 b4 a3 a4
 obtain⟨y1,y2⟩:=dif c1 c2 a1 a2
 obtain⟨w1,w2⟩:=dif c3 c4 a3 a4
 obtain⟨p1,p2⟩:=Z_ x1 x2 y1 y2 (by decide) (by decide)
 obtain⟨q1,q2⟩:=Z_ z1 z2 w1 w2 (by decide) (by decide)
 obtain⟨r1,r2⟩:=Z_ x1 x2 x1 x2 (by decide) (by decide)
 obtain⟨t1,t2⟩:=Z_ z1 z2 z1 z2 (by decide) (by decide)
 intro s hs
 simp only[Hu.uL,List.mem_cons,List.not_mem_nil,or_false] at hs
 rcases hs with e|e<;>omega
def ShB(w:List Int):Prop:=w.length<=3/\∀s∈w,-400000000000000000000000000000000000<=s/\s<=400000000000000000000000000000000000
theorem ShB.sum{w:List Int}(h:ShB w): -2000000000000000000000000000000000000<=w.sum/\w.sum<=2000000000000000000000000000000000000:=by
 obtain⟨h1,h2⟩:=h
 match w,h1,h2 with
 | [],_,_=>simp
 | [a],_,h2=>have:=h2 a (by simp);simp;omega
 | [a,b],_,h2=>have:=h2 a (by simp);have:=h2 b (by simp);simp;omega
 | [a,b,c],_,h2=>have:=h2 a (by simp);have:=h2 b (by simp);have:=h2 c (by simp);simp;omega
def Z00{x:Int}(h1: -2000000000000000000000000000000000000<=x)(h2:x<=2000000000000000000000000000000000000):bits x<=200:=jt (n:=200) (by omega) (by omega)
def Z21{w:List Int}(h:ShB w){sl:P.Slot}(hs:Sl sl (w.map .int)):rW [sl]=.ret (.sh (.bl (Hu.Zv w))):=by
 obtain⟨s1,s2⟩:=h.sum
 have hb:=Z00 s1 s2
 have c1:ĺ (gN 1) ı (ą FT (ą Ģ (Ā 1) (Ā 0)) (mC (.int 0))) (w.map .int) [.sh (.int w.sum),.no] []=some ((w.map λs=>decide (0<=s*w.sum)).map .bl):=by
  have:=Ļ (g:=gN 1) (mt:=ı) (me:=ą FT (ą Ģ (Ā 1) (Ā 0)) (mC (.int 0))) PV.int (λs=>.bl (decide (0<=s*w.sum))) (λρ=>∃s,ρ=[.sh (.int w.sum),s]) w [.sh (.int w.sum),.no] [] ⟨_,rfl⟩ (by have:=h.1;simp;omega) (by
   rintro x hx ρ ⟨s,rfl⟩
   have hx':=h.2 x hx
   have hm:ń x w.sum=true:=ZaX (Nat.le_trans (Z00 (by omega) (by omega)) (by decide)) (Nat.le_trans hb (by decide))
   exact⟨[.sh (.int w.sum),.sh (.int x)],[.sh (.int w.sum),.sh (.int x)],[.sh (.int w.sum),.sh (.int x)],by simp,by simp,by simp[hm],_,rfl⟩)
  rw[this,List.map_map]
  rfl
 have c2:=Z1l (w.map λs=>decide (0<=s*w.sum))
 have c3:(w.map λs=>decide (0<=s*w.sum)).all id=w.all λs=>decide (0<=s*w.sum):=by simp
 rw[c3] at c2
 unfold Hu.Zv
 have hsum:zj [.lst (w.map .int)]=some (.int w.sum):=by simp
 unfold Sl at hs
 generalize (w.map λs=>decide (0<=s*w.sum)).map PV.bl=bs at c1 c2
 generalize (w.all λs=>decide (0<=s*w.sum))=q at c2
 generalize w.map PV.int=ws at c1 hsum hs
 generalize w.sum=S at c1 hsum
 by_cases h0:S=0
 ·subst h0
  rcases hs with rfl|rfl<;>simp[rW,zL,List.replicate,-gU,hsum]
 ·rcases hs with rfl|rfl<;>simp[rW,zL,List.replicate,-gU,hsum,c1,c2,h0]
def Z22(x y:Int):L_ [.sh (.int x),.sh (.int y)]=.ret (.sh (.int (My.gd x y))):=by
 obtain⟨⟨u,v,r⟩,e1,e2,e3⟩:=zc (mc:=(fj (ą cL (Ā 1) (mC (.int 0))))) (mb:=(ę (ģ 2 (ł (ą ŀ (Ā 0) (Ā 1)))) (ę (ģ 0 (ł (ě 1))) (ģ 1 (ł (ě 2))))))
  (fun b:Int×Int×P.Slot=>[.sh (.int b.1),.sh (.int b.2.1),b.2.2]) (fun b=>My.gd b.1 b.2.1=My.gd x y) (fun b=>b.2.1.natAbs) (b:=(x,y,.no)) (by
    rintro ⟨u,v,r⟩ e
    by_cases hv:v=0
    ·left;simp[hv]
    ·right;exact⟨by simp[hv],(v,u.fmod v,.sh (.int (u.fmod v))),by simp[hv],(My.Z24 u v).trans e,My.Z25 u hv⟩) rfl
 have hv:v=0:=by simpa using e3
 subst hv
 have e1':Qn [.sh (.int x),.sh (.int y),.no]=_:=e1
 simp[L_,Qo,List.replicate,e1',<-e2,My.Z26]
def Z2i(t:Int){b:Int}{n:Nat}(h:b≠0)(hb:bits b<=n):bits (My.gd t b)<=n:=by
 refine intBits_le_of_natAbs ?_ hb
 have h1:=My.Z2W t h
 have h2:=My.Z1g t b
 omega
def rt(t b:Int):Int×Int:=(t.fdiv (My.dv t b),b.fdiv (My.dv t b))
def Z0A{t b:Int}(h:b≠0)(hz:bits b<=8000):lC [.sh (.int t),.sh (.int b)]=.ret (.sh (pt (rt t b))):=by
 have g1:=Z2i t h hz
 have g0:=My.Z2t t h
 by_cases hn:b<0
 ·have e:My.dv t b= - My.gd t b:=if_pos hn
  have c:∀i,gb i (- My.gd t b)=true:=λi=>wB (by omega) (intBits_neg_le g1)
  simp[lC,zK,List.replicate,h,Z22,hn,c,e,pt,rt]
 ·have e:My.dv t b=My.gd t b:=if_neg hn
  have c:∀i,gb i (My.gd t b)=true:=λi=>wB (by omega) g1
  simp[lC,zK,List.replicate,h,Z22,hn,c,e,pt,rt]
def ZS{w:List Int}{q:List Nat}{n:Nat}(hw:ShB w)(h0:w.sum≠0)(hl:w.length=q.length)(hq:∀i∈q,i<n)(hn:n<=100){s0 s1:P.Slot}(hs0:Sl s0 (w.map .int))(hs1:s1=.sh (.lst (q.map λ(i:Nat)=>.int (i:Int)))\/s1=.sh (.tup (q.map λ(i:Nat)=>.int (i:Int)))) :
 jx [s0,s1,.sh (.int n)]=.ret (.ow ((Fr.lay (List.replicate n 0) (w.zip q)).map λs=>pt (rt s w.sum))):=by
 obtain⟨b1,b2⟩:=hw.sum
 have hb:=Nat.le_trans (Z00 b1 b2) (show 200<=8000 by decide)
 have hsum:zj [.lst (w.map .int)]=some (.int w.sum):=by simp
 have c1:ĺ (gN 1) ı (č (ċ lC (Ċ (mC (.int 0)) (ā 0 Ĉ)))) ((List.range n).map λ(i:Nat)=>PV.int (i:Int)) [.sh (.int w.sum),.no] []=some ((List.replicate n (0:Int)).map λs=>pt (rt s w.sum)):=by
  have:=Ļ (g:=gN 1) (mt:=ı) (me:=č (ċ lC (Ċ (mC (.int 0)) (ā 0 Ĉ)))) (λ(i:Nat)=>PV.int (i:Int)) (λ_=>pt (rt 0 w.sum)) (λρ=>∃s,ρ=[.sh (.int w.sum),s]) (List.range n) [.sh (.int w.sum),.no] [] ⟨_,rfl⟩ (by simp;omega) (by
   rintro x hx ρ ⟨s,rfl⟩
   exact⟨[.sh (.int w.sum),.sh (.int x)],[.sh (.int w.sum),.sh (.int x)],[.sh (.int w.sum),.sh (.int x)],by simp,by simp,by simp[Z0A h0 hb],_,rfl⟩)
  rw[this]
  simp[List.map_const']
 have hz:jr (w.map .int) (q.map λ(i:Nat)=>PV.int (i:Int))=(w.zip q).map λa=>.tup [.int a.1,.int (a.2:Int)]:=by
  clear hw h0 hl hq hs0 hs1 hsum c1 hb b1 b2
  induction w generalizing q with
  |nil=>simp[jr]
  |cons x w ih=>
   cases q with
   |nil=>simp[jr]
   |cons i q=>simp[jr,ih]
 have loop:∀s0' s1',∃ρ',forL (gT 2 (ġ (gN 5) (ġ (gN 6) ŷ))) uR ((w.zip q).map λa=>.tup [.int a.1,.int (a.2:Int)]) [s0',s1',.sh (.int n),.sh (.int w.sum),.ow ((List.replicate n (0:Int)).map λs=>pt (rt s w.sum)),.no,.no]=.ok .nx ρ'/\ρ'[4]?=some (.ow ((Fr.lay (List.replicate n 0) (w.zip q)).map λs=>pt (rt s w.sum))):=by
  intro s0' s1'
  obtain⟨ρ',e,s5,s6,hρ,_⟩:=dh (g:=gT 2 (ġ (gN 5) (ġ (gN 6) ŷ))) (mb:=uR) (λa:Int×Nat=>.tup [.int a.1,.int (a.2:Int)]) (λacc a=>acc.set a.2 a.1)
   (fun acc ρ=>∃s5 s6,ρ=[s0',s1',.sh (.int n),.sh (.int w.sum),.ow (acc.map fun s=>pt (rt s w.sum)),s5,s6]∧acc.length=n) (w.zip q) (by
     rintro ⟨x,i⟩ hx acc ρ ⟨s5,s6,rfl,hlen⟩
     have hi:i<n:=hq i (List.of_mem_zip hx).2
     have hix:xW acc.length (i:Int)=some i:=by
      unfold xW
      rw[if_pos (by omega),if_pos (by omega)]
      simp
     refine⟨[s0',s1',.sh (.int n),.sh (.int w.sum),.ow (acc.map λs=>pt (rt s w.sum)),.sh (.int x),.sh (.int i)],[s0',s1',.sh (.int n),.sh (.int w.sum),.ow ((acc.set i x).map λs=>pt (rt s w.sum)),.sh (.int x),.sh (.int i)],by simp,?_,_,_,rfl,by simpa using hlen⟩
     simp[uR,Z0A h0 hb,hix,List.map_set]) (List.replicate n 0) [s0',s1',.sh (.int n),.sh (.int w.sum),.ow ((List.replicate n (0:Int)).map λs=>pt (rt s w.sum)),.no,.no] ⟨_,_,rfl,by simp⟩
  refine⟨ρ',e,?_⟩
  subst hρ
  rfl
 have hr:=ZF (show n<=1000 by omega)
 generalize (List.replicate n (0:Int)).map (λs=>pt (rt s w.sum))=zs at c1 loop
 generalize (Fr.lay (List.replicate n 0) (w.zip q)).map (λs=>pt (rt s w.sum))=rs at loop
 generalize ((w.zip q).map λa=>PV.tup [.int a.1,.int (a.2:Int)])=ls at hz loop
 generalize w.map PV.int=ws at hs0 hsum hz
 generalize w.sum=S at hsum c1 loop
 generalize (q.map λ(i:Nat)=>PV.int (i:Int))=qs at hz hs1
 rcases hs0 with rfl|rfl<;>rcases hs1 with rfl|rfl
 ·obtain⟨ρ',e,e4⟩:=loop (.sh (.lst ws)) (.sh (.lst qs))
  simp[jx,pF,List.replicate,-gU,hsum,hr,c1,hz,Dc,e,e4]
 ·obtain⟨ρ',e,e4⟩:=loop (.sh (.lst ws)) (.sh (.tup qs))
  simp[jx,pF,List.replicate,-gU,hsum,hr,c1,hz,Dc,e,e4]
 ·obtain⟨ρ',e,e4⟩:=loop (.bw ws) (.sh (.lst qs))
  simp[jx,pF,List.replicate,-gU,hsum,hr,c1,hz,Dc,e,e4]
 ·obtain⟨ρ',e,e4⟩:=loop (.bw ws) (.sh (.tup qs))
  simp[jx,pF,List.replicate,-gU,hsum,hr,c1,hz,Dc,e,e4]
def Uo(S:List Hu.Pt)(r:List Int×List Nat):List PV:=(Fr.lay (List.replicate S.length 0) (r.1.zip r.2)).map λs=>pt (rt s r.1.sum)
def fP{S:List Hu.Pt}{i:Nat}(h:i<S.length):(S.map pt)[i]?=some (pt (Hu.at_ S i)):=by
 unfold Hu.at_
 rw[List.getElem?_map,List.getD_eq_getElem?_getD,List.getElem?_eq_getElem h]
 rfl
def Z32{S:List Hu.Pt}{sl:P.Slot}(hs:Sl sl (S.map pt)){i j k:Nat}(hi:i<S.length)(hj:j<S.length)(hk:k<S.length)(s3:P.Slot):ĺ (gN 1) ı (ą Ė (Ā 0) (Ā 1)) [.int (i:Int),.int (j:Int),.int (k:Int)] [sl,s3] []=some [pt (Hu.at_ S i),pt (Hu.at_ S j),pt (Hu.at_ S k)]:=by
 rcases hs with rfl|rfl<;>simp[ĺ,fP hi,fP hj,fP hk,-List.getElem?_map]
def Z33{S:List Hu.Pt}{sl:P.Slot}(hs:Sl sl (S.map pt)){i j:Nat}(hi:i<S.length)(hj:j<S.length)(s3:P.Slot):ĺ (gN 1) ı (ą Ė (Ā 0) (Ā 1)) [.int (i:Int),.int (j:Int)] [sl,s3] []=some [pt (Hu.at_ S i),pt (Hu.at_ S j)]:=by
 rcases hs with rfl|rfl<;>simp[ĺ,fP hi,fP hj,-List.getElem?_map]
def Sl.cap{s:P.Slot}{ps:List PV}(h:Sl s ps):tW s=s:=by rcases h with rfl|rfl<;>rfl
def Z2I{a b c p:Hu.Pt}(ha:Sm a)(hb:Sm b)(hc:Sm c)(hp:Sm p):ShB (Hu.uK a b c p):=⟨by simp[Hu.uK],Z30 ha hb hc hp⟩
def Z2J{a b p:Hu.Pt}(ha:Sm a)(hb:Sm b)(hp:Sm p):ShB (Hu.uL a b p):=⟨by simp[Hu.uL],Z31 ha hb hp⟩
def Z14{S:List Hu.Pt}{sl:P.Slot}(hs:Sl sl (S.map pt))(hS:∀p∈S,Sm p)(h0:S≠[])(hl:S.length<=100){p:Hu.Pt}(hp:Sm p):rY [sl,.sh (pt p)]=.ret (.ow (Uo S (Hu.Z0T S p))):=by
 have hat:∀i,i<S.length->Sm (Hu.at_ S i):=λi h=>hS _ (Hu.Z2u h)
 have ht:=Z13 S.length hl
 have hpr:=Z0z S.length hl
 have hlen:jm [.lst (S.map pt)]=some (.int S.length):=by simp
 have F3:=gW (g:=gN 3) (mb:=uU) xY (λq=>if Hu.Zv (Hu.uK (Hu.at_ S q.1) (Hu.at_ S q.2.1) (Hu.at_ S q.2.2) p)=true then some (Hu.uK (Hu.at_ S q.1) (Hu.at_ S q.2.1) (Hu.at_ S q.2.2) p,[q.1,q.2.1,q.2.2]) else none) (λr=>.ow (Uo S r)) (λρ=>∃s3 s4,ρ=[sl,.sh (pt p),.sh (.int S.length),s3,s4]) (Hu.Zc S.length) (by
  rintro ⟨i,j,k⟩ hm ρ ⟨s3,s4,rfl⟩
  obtain⟨h1,h2,h3⟩:=Hu.Z0I.mp hm
  have hi:i<S.length:=by omega
  have hj:j<S.length:=by omega
  have hb:=Z2I (hat i hi) (hat j hj) (hat k h3) hp
  have e1:=Z1S (hat i hi) (hat j hj) (hat k h3) hp
  have e2:=Z21 hb (sl:=.bw ((Hu.uK (Hu.at_ S i) (Hu.at_ S j) (Hu.at_ S k) p).map .int)) (.inr rfl)
  have e0:=Z32 hs hi hj h3 .no
  refine⟨[sl,.sh (pt p),.sh (.int S.length),.sh (xY (i,j,k)),s4],rfl,?_⟩
  cases q:Hu.Zv (Hu.uK (Hu.at_ S i) (Hu.at_ S j) (Hu.at_ S k) p) with
  |true=>
   left
   have hg:=Hu.Z0i.mp q
   have e3:=ZS (q:=[i,j,k]) (n:=S.length) hb hg.1 rfl (by simp;omega) hl (s0:=.bw ((Hu.uK (Hu.at_ S i) (Hu.at_ S j) (Hu.at_ S k) p).map .int)) (s1:=.sh (.tup [.int i,.int j,.int k])) (.inr rfl) (.inr rfl)
   rw[q] at e2
   refine⟨_,[sl,.sh (pt p),.sh (.int S.length),.sh (xY (i,j,k)),.ow ((Hu.uK (Hu.at_ S i) (Hu.at_ S j) (Hu.at_ S k) p).map .int)],rfl,?_⟩
   generalize Hu.uK (Hu.at_ S i) (Hu.at_ S j) (Hu.at_ S k) p=w at *
   generalize hws:w.map PV.int=ws at *
   simp[uU,xY,hs.cap,e0,e1,e2,e3,Uo]
  |false=>
   right
   rw[q] at e2
   refine⟨[sl,.sh (pt p),.sh (.int S.length),.sh (xY (i,j,k)),.ow ((Hu.uK (Hu.at_ S i) (Hu.at_ S j) (Hu.at_ S k) p).map .int)],rfl,?_,_,_,rfl⟩
   generalize Hu.uK (Hu.at_ S i) (Hu.at_ S j) (Hu.at_ S k) p=w at *
   generalize hws:w.map PV.int=ws at *
   simp[uU,xY,hs.cap,e0,e1,e2])
 have F2:=gW (g:=gN 3) (mb:=uT) qe (λq=>if Hu.Zv (Hu.uL (Hu.at_ S q.1) (Hu.at_ S q.2) p)=true then some (Hu.uL (Hu.at_ S q.1) (Hu.at_ S q.2) p,[q.1,q.2]) else none) (λr=>.ow (Uo S r)) (λρ=>∃s3 s4,ρ=[sl,.sh (pt p),.sh (.int S.length),s3,s4]) (Hu.Z8 S.length) (by
  rintro ⟨i,j⟩ hm ρ ⟨s3,s4,rfl⟩
  obtain⟨h1,h2⟩:=Hu.ZL.mp hm
  have hi:i<S.length:=by omega
  have hb:=Z2J (hat i hi) (hat j h2) hp
  have e1:=Z2H (hat i hi) (hat j h2) hp
  have e2:=Z21 hb (sl:=.bw ((Hu.uL (Hu.at_ S i) (Hu.at_ S j) p).map .int)) (.inr rfl)
  have e0:=Z33 hs hi h2 .no
  refine⟨[sl,.sh (pt p),.sh (.int S.length),.sh (qe (i,j)),s4],rfl,?_⟩
  cases q:Hu.Zv (Hu.uL (Hu.at_ S i) (Hu.at_ S j) p) with
  |true=>
   left
   have hg:=Hu.Z0i.mp q
   have e3:=ZS (q:=[i,j]) (n:=S.length) hb hg.1 rfl (by simp;omega) hl (s0:=.bw ((Hu.uL (Hu.at_ S i) (Hu.at_ S j) p).map .int)) (s1:=.sh (.tup [.int i,.int j])) (.inr rfl) (.inr rfl)
   rw[q] at e2
   refine⟨_,[sl,.sh (pt p),.sh (.int S.length),.sh (qe (i,j)),.ow ((Hu.uL (Hu.at_ S i) (Hu.at_ S j) p).map .int)],rfl,?_⟩
   generalize Hu.uL (Hu.at_ S i) (Hu.at_ S j) p=w at *
   generalize hws:w.map PV.int=ws at *
   simp[uT,qe,hs.cap,e0,e1,e2,e3,Uo]
  |false=>
   right
   rw[q] at e2
   refine⟨[sl,.sh (pt p),.sh (.int S.length),.sh (qe (i,j)),.ow ((Hu.uL (Hu.at_ S i) (Hu.at_ S j) p).map .int)],rfl,?_,_,_,rfl⟩
   generalize Hu.uL (Hu.at_ S i) (Hu.at_ S j) p=w at *
   generalize hws:w.map PV.int=ws at *
   simp[uT,qe,hs.cap,e0,e1,e2])
 have e3:(Hu.Zc S.length).findSome? (λq=>if Hu.Zv (Hu.uK (Hu.at_ S q.1) (Hu.at_ S q.2.1) (Hu.at_ S q.2.2) p)=true then some (Hu.uK (Hu.at_ S q.1) (Hu.at_ S q.2.1) (Hu.at_ S q.2.2) p,[q.1,q.2.1,q.2.2]) else none)=Hu.Z2v S p:=rfl
 have e2:(Hu.Z8 S.length).findSome? (λq=>if Hu.Zv (Hu.uL (Hu.at_ S q.1) (Hu.at_ S q.2) p)=true then some (Hu.uL (Hu.at_ S q.1) (Hu.at_ S q.2) p,[q.1,q.2]) else none)=Hu.Z2w S p:=rfl
 rw[e3] at F3
 rw[e2] at F2
 have e1:=ZS (w:=[1]) (q:=[0]) (n:=S.length) ⟨by simp,by simp⟩ (by simp) rfl (by simpa using List.length_pos_iff.mpr h0) hl (s0:=.sh (.lst [.int 1])) (s1:=.sh (.lst [.int 0])) (.inl rfl) (.inl rfl)
 have hw1:(Fr.lay (List.replicate S.length 0) ([1].zip [0])).map (λs=>pt (rt s [1].sum))=Uo S ([1],[0]):=rfl
 rw[hw1] at e1
 generalize hn:(S.length:Int)=N at *
 generalize (Hu.Zc S.length).map xY=ts at *
 generalize (Hu.Z8 S.length).map qe=prs at *
 unfold Hu.Z0T
 rcases F3 [sl,.sh (pt p),.sh (.int N),.no,.no] ⟨_,_,rfl⟩ with⟨r,ρ',q1,q2⟩|⟨ρ',q1,q2,s3,s4,hρ⟩
 ·rw[q1]
  rcases hs with rfl|rfl<;>simp[rY,uV,List.replicate,-uo,hlen,ht,q2]
 ·subst hρ
  rw[q1]
  rcases F2 [sl,.sh (pt p),.sh (.int N),s3,s4] ⟨_,_,rfl⟩ with⟨r,ρ',q3,q4⟩|⟨ρ',q3,q4,s3',Jx,hρ⟩
  ·rw[q3]
   rcases hs with rfl|rfl<;>simp[rY,uV,List.replicate,-uo,hlen,ht,hpr,q2,q4]
  ·subst hρ
   rw[q3]
   rcases hs with rfl|rfl<;>simp[rY,uV,List.replicate,-uo,hlen,ht,hpr,q2,q4,e1]
def Z05(S:List Hu.Pt)(p:Hu.Pt):PV:=match Hu.ZB S p with
 |some l=>.tup [.str "out",bV l]
 |none=>.tup [.str "in",.lst (Uo S (Hu.Z0T S p))]
def Z2j{S:List Hu.Pt}{sl:P.Slot}(hs:Sl sl (S.map pt))(hS:∀p∈S,Sm p)(h0:S≠[])(hl:S.length<=100){p:Hu.Pt}(hp:Sm p):xg [sl,.sh (pt p)]=.ret (.sh (Z05 S p)):=by
 have h1:=Z12 hs hS h0 (by omega) p
 have h2:=Z14 hs hS h0 hl hp
 unfold Z05
 cases e:Hu.ZB S p with
 |some l=>
  rw[e] at h1
  simp[xg,zM,List.replicate,hs.lend,h1,Z0y,bV,Nu]
 |none=>
  rw[e] at h1
  simp[xg,zM,List.replicate,hs.lend,h1,Z0y,h2,Nu]
def Z1T{r:P3}(hr:RB r)(s:Hu.Pt):BW [.sh (pt s),.sh (c3 r)]=.ret (.sh (pt (cst r (vJ s)))):=by
 have e:=Z0O hr (vJ s)
 have e':PV.tup [.int (2*s.1),.int (2*s.2),.int 0]=c3 (vJ s):=rfl
 generalize hR:c3 r=R at *
 unfold pt
 simp[BW,HN,List.replicate,e',e]
 rfl
def Z15{w:Str}{xs:List Int}(hg:Z1 w xs=true){r:P3}(hr:RB r){s:Hu.Pt}(hs:PB (vJ s)):BX [.sh (Z0 (Z9 w) w xs),.sh (pt s),.sh (c3 r)]=.ret (.sh (Z05 ((Ze w xs).map (cst r)) (cst r (vJ s)))):=by
 obtain⟨g1,g2,g3⟩:=Z0s hg
 have h1:=Z0r hg (by omega) hr
 have h2:=Z1T hr s
 have h3:=Z2j (S:=(Ze w xs).map (cst r)) (sl:=.sh (.lst (((Ze w xs).map (cst r)).map pt))) (.inl rfl) (by
  intro p hp
  obtain⟨q,hq,rfl⟩:=List.mem_map.mp hp
  exact Z0q hr (g3 q hq)) (by simpa using g2) (by simp;omega) (p:=cst r (vJ s)) (Z0q hr hs)
 generalize Z05 ((Ze w xs).map (cst r)) (cst r (vJ s))=V at *
 generalize ((Ze w xs).map (cst r)).map pt=Y at *
 generalize pt (cst r (vJ s))=Z at *
 generalize Z0 (Z9 w) w xs=v at *
 generalize c3 r=R at *
 generalize pt s=Q at *
 simp[BX,HS,List.replicate,h1,h2,h3]
def sIn:PyData.strOk (Str.ofString "in")=true:=by decide +kernel
def Z3g:PyData.strOk (Str.ofString "out")=true:=by decide +kernel
def dIO:(Str.ofString "out" =Str.ofString "in")=False:=eq_false (by decide +kernel)
def Z1y{w:Str}{xs:List Int}(hg:Z1 w xs=true){r:P3}(hr:RB r){s:Hu.Pt}(hs:PB (vJ s)):su [.sh (Z0 (Z9 w) w xs),.sh (pt s),.sh (c3 r)]=.ret (.sh (.bl (YF w xs s r))):=by
 have h1:=Z15 hg hr hs
 unfold Z05 at h1
 unfold YF
 generalize Z0 (Z9 w) w xs=v at *
 generalize c3 r=R at *
 generalize pt s=Q at *
 cases e:Hu.ZB ((Ze w xs).map (cst r)) (cst r (vJ s)) with
 |none=>
  rw[e] at h1
  dsimp only at h1
  generalize Uo ((Ze w xs).map (cst r)) (Hu.Z0T ((Ze w xs).map (cst r)) (cst r (vJ s)))=Y at *
  simp[su,zN,List.replicate,h1,bN sIn sIn]
 |some l=>
  rw[e] at h1
  dsimp only at h1
  generalize bV l=Y at *
  simp[su,zN,List.replicate,h1,bN Z3g sIn,dIO]
def Z2K{w q p:Nat}(h:p<w):xU w (q*w+p)=((p:Int),(q:Int)):=by
 unfold xU
 have e1:(q*w+p) % w=p:=by rw[Nat.add_comm,Nat.add_mul_mod_self_right,Nat.mod_eq_of_lt h]
 have e2:(q*w+p) / w=q:=by rw[Nat.add_comm,Nat.add_mul_div_right _ _ (by omega),Nat.div_eq_of_lt h,Nat.zero_add]
 rw[e1,e2]
def Z1z{ρ ρ':ķ}:iY ρ≠ .ok .bk ρ':=by
 unfold iY
 intro h
 rw[ZaN] at h
 generalize au (č (ċ su (ā 1 (Ċ (Ŀ (ă (ě 5) (ă (ě 4) ĕ))) (ā 2 Ĉ))))) ρ=X at h
 cases X with
 |bad=>cases h
 |exc x ρ1=>cases h
 |ok b ρ1=>
  rw[Res.Ű] at h
  split at h
  ·unfold ģ at h
   generalize į ĭ (Ā 3) (ą jl (mC (.int 1)) (č (į ĭ (ą Ģ (Ā 4) (ą Ė (Ā 0) (mC (.int 0)))) (Ā 5)))) ρ1=Y at h
   cases Y with
   |bad=>cases h
   |exc x ρ1=>cases h
   |ok b ρ1=>cases h
  ·cases h
def Z2k{w h:Nat}(hw2:w<=60){t:Th}(hg:Z1 t.1 t.2=true){r:P3}(hr:RB r){q:Nat}(hq:q<=1000)(s5:P.Slot) :
 ∀k,k<=w->∃s,forL (gN 5) iY ((List.range k).map λ(i:Nat)=>PV.int (i:Int)) [.sh (.tup [.int w,.int h]),.sh (ź t),.sh (c3 r),.sh (.int (Zh (q*w) λk=>Ai t (xU w k) r:Nat)),.sh (.int q),s5]=.ok .nx [.sh (.tup [.int w,.int h]),.sh (ź t),.sh (c3 r),.sh (.int (Zh (q*w+k) λk=>Ai t (xU w k) r:Nat)),.sh (.int q),s]:=by
 intro k
 induction k with
 |zero=>intro _;exact⟨s5,rfl⟩
 |succ k ih=>
  intro hk
  obtain⟨s,e⟩:=ih (by omega)
  refine⟨.sh (.int k),?_⟩
  rw[List.range_succ,List.map_append,Zs (mb:=iY) (λ_ _=>Z1z) _ _ _ _ e]
  refine ZI rfl ?_
  have hp:PB (vJ ((k:Int),(q:Int))):=by unfold PB vJ;dsimp only;omega
  have hs:=Z1y hg hr hp
  have hn:=Z2K (q:=q) (show k<w by omega)
  have hb:q*w+k<=1000*60+60:=Nat.add_le_add (Nat.mul_le_mul hq hw2) (by omega)
  have hsh:=Z0Z (k:=q*w+k) (by omega)
  have hs':Ai t (xU w (q*w+k)) r=YF t.1 t.2 ((k:Int),(q:Int)) r:=by rw[hn];rfl
  have hS:Zh (q*w+k+1) (λk=>Ai t (xU w k) r)=Zh (q*w+k) (λk=>Ai t (xU w k) r)+if YF t.1 t.2 ((k:Int),(q:Int)) r=true then 2 ^ (q*w+k) else 0:=by
   rw[<-hs'];rfl
  rw[<-Nat.add_assoc,hS]
  generalize Zh (q*w+k) (λk=>Ai t (xU w k) r)=B at *
  unfold ź
  generalize Z0 (Z9 t.1) t.1 t.2=v at *
  generalize c3 r=R at *
  have pe:pt ((k:Int),(q:Int))=.tup [.int k,.int q]:=rfl
  rw[pe] at hs
  cases hc:YF t.1 t.2 ((k:Int),(q:Int)) r with
  |false=>
   rw[hc] at hs
   simp[iY,hs]
  |true=>
   rw[hc] at hs
   have hm:ń (q:Int) (w:Int)=true:=Ÿ (by omega) (by omega)
   have c:((q:Int)*(w:Int)+(k:Int))=((q*w+k:Nat):Int):=by push_cast;rfl
   simp[iY,hs,hm]
   simp only[c,hsh,if_true,Int.toNat_natCast]
   simp
theorem Z08{g:Tg}{mb:M Fl}(nb:∀ρ ρ',mb ρ≠ .ok .bk ρ'):∀(xs:List PV) (ρ ρ1:ķ),forL g mb xs ρ≠ .ok .bk ρ1
 | [],ρ,ρ1=>λh=>by cases h
 |x::xs,ρ,ρ1=>λh=>by
  rw[forL] at h
  cases e:g x ρ with
  |none=>rw[e] at h;cases h
  |some ρ2=>
   rw[e] at h
   dsimp only at h
   cases e2:mb ρ2 with
   |bad=>rw[e2] at h;cases h
   |exc y ρ3=>rw[e2] at h;cases h
   |ok f ρ3=>
    rw[e2] at h
    cases f with
    |bk=>exact nb _ _ e2
    |nx=>exact Z08 nb xs _ _ h
    |ct=>exact Z08 nb xs _ _ h
    |rt v=>cases h
def Z2l{ρ ρ':ķ}:kJ ρ≠ .ok .bk ρ':=by
 unfold kJ
 intro h
 rw[Gk] at h
 generalize ſ aQ (ă (ą Ė (Ā 0) (mC (.int 0))) ĕ) ρ=X at h
 cases X with
 |bad=>cases h
 |exc x ρ1=>cases h
 |ok b ρ1=>exact Z08 (λ_ _=>Z1z) _ _ _ h
def Z1A{w h:Nat}(hw2:w<=60)(hh:h<=1000){t:Th}(hg:Z1 t.1 t.2=true){r:P3}(hr:RB r) :
 gC [.sh (.tup [.int w,.int h]),.sh (ź t),.sh (c3 r)]=.ret (.sh (.int (qd w h r t))):=by
 have key:∀k,k<=h->∃s4 s5,forL (gN 4) kJ ((List.range k).map λ(i:Nat)=>PV.int (i:Int)) [.sh (.tup [.int w,.int h]),.sh (ź t),.sh (c3 r),.sh (.int 0),.no,.no]=.ok .nx [.sh (.tup [.int w,.int h]),.sh (ź t),.sh (c3 r),.sh (.int (Zh (k*w) λk=>Ai t (xU w k) r:Nat)),s4,s5]:=by
  intro k
  induction k with
  |zero=>intro _;exact⟨.no,.no,by rw[Nat.zero_mul];rfl⟩
  |succ k ih=>
   intro hk
   obtain⟨s4,s5,e⟩:=ih (by omega)
   obtain⟨s,e2⟩:=Z2k (w:=w) (h:=h) hw2 hg hr (q:=k) (by omega) s5 w (Nat.le_refl w)
   refine⟨.sh (.int k),s,?_⟩
   rw[List.range_succ,List.map_append,Zs (mb:=kJ) (λ_ _=>Z2l) _ _ _ _ e,Nat.succ_mul]
   have hr:=ZF (show w<=1000 by omega)
   refine ZI rfl ?_
   simp[kJ,hr,e2]
 obtain⟨s4,s5,e⟩:=key h (Nat.le_refl h)
 rw[Nat.mul_comm h w] at e
 have hr:=ZF (show h<=1000 by omega)
 unfold qd
 simp[gC,HW,List.replicate,hr,e]
def Z0e(x:Int):sy [.sh (.int x)]=.ret (.sh (.bl true)):=by
 have e1:jo (.int x) "int" =some true:=rfl
 have e2:jo (.int x) "bool" =some false:=rfl
 simp[sy,HX,List.replicate,uh,e1,e2]
def Zx(x y:Int):aC [.sh (.int x),.sh (.int y)]=.ret (.sh (.bl (decide (x=y)))):=by
 simp[aC,HY,List.replicate,Z0e]
def Z2m(a b:Nat):FQ (.int a) (.int b)=some (.int ((a ||| b:Nat):Int)):=by
 rw[<-Z0t];rfl
def Z2n{w h:Nat}(T:List Th)(r:P3){sl:P.Slot}(hs:sl=.sh (.lst (T.map λt=>PV.int (qd w h r t)))\/sl=.bw (T.map λt=>PV.int (qd w h r t))):rN [sl]=.ret (.sh (.int (Jt w h T (some r)))):=by
 have key:∀s0:P.Slot,∃s2,forL (gN 2) uM (T.map λt=>PV.int (qd w h r t)) [s0,.sh (.int ((0:Nat):Int)),.no]=.ok .nx [s0,.sh (.int (Jt w h T (some r))),s2]:=by
  intro s0
  obtain⟨ρ',e1,D,s3,rfl,hD⟩:=dh (g:=gN 2) (mb:=uM) (λ(t:Th)=>PV.int (qd w h r t)) (λ(b:List Th) (x:Th)=>x::b) (λb ρ=>∃(D:Nat) (s3:P.Slot),ρ=[s0,.sh (.int D),s3]/\∀k,D.testBit k=true↔(k<w*h/\∃t∈b,Ai t (xU w k) r=true)) T (by
   rintro t ht b ρ ⟨D,s3,rfl,hD⟩
   refine⟨_,_,rfl,by simp[uM,Z2m];exact⟨rfl,rfl⟩,_,_,rfl,λk=>?_⟩
   rw[Nat.testBit_or,Bool.or_eq_true,hD,qd,Zu,Bool.and_eq_true,decide_eq_true_eq]
   simp
   grind) [] [s0,.sh (.int ((0:Nat):Int)),.no] ⟨0,.no,rfl,by simp⟩
  have:D=Jt w h T (some r):=Zr λk=>by
   have:=hD k
   rw[Bool.eq_iff_iff,this]
   simp only[ZG,Y_,List.not_mem_nil,or_false,Bool.and_eq_true,decide_eq_true_eq,List.any_eq_true]
  subst this
  exact⟨s3,e1⟩
 generalize (T.map λt=>PV.int (qd w h r t))=Q at *
 obtain⟨s2,e⟩:=key sl
 simp at e
 rcases hs with rfl|rfl<;>simp[rN,G_,List.replicate,e]
def Z2o(w h:Nat)(T:List Th)(o:Option P3):Jt w h T.reverse o=Jt w h T o:=by
 unfold Jt
 refine Z0J λk _=>?_
 cases o with
 |none=>rfl
 |some r=>simp[Y_]
def Z1U(w h:Nat)(T:List Th):((Jt w h T none:Nat):Int)=2 ^ (w*h)-1:=by
 have:Jt w h T none=2 ^ (w*h)-1:=(Zr λk=>by rw[Z3f];simp[Y_]).symm
 rw[this]
 have h1:0<2 ^ (w*h):=Nat.pow_pos (by decide)
 rw[Int.natCast_sub h1]
 simp
def Z34(c:Char):c.toNat<1114112:=by
 have h:=c.valid
 show c.val.toNat<1114112
 rcases h with h|⟨_,h⟩
 ·have:c.val.toNat<55296:=h
  omega
 ·exact h
def Z1B(s:String):∀x∈(Str.ofString s).cps.toList,x<1114112:=by
 intro x hx
 rw[PyProof.Rows.signs_ofString] at hx
 obtain⟨c,_,rfl⟩:=List.mem_map.mp hx
 exact Z34 c
def Z1C{x:Str}:PyData.strOk x=true↔∀c∈x.cps.toList,c<1114112:=by
 unfold PyData.strOk
 rw[<-Array.all_toList,List.all_eq_true]
 simp
theorem Z0B{sep:List Nat}{x:Nat}:∀{ys:List (List Nat)},x∈dY sep ys->x∈sep\/∃y∈ys,x∈y
 | [],h=>by simp[dY] at h
 | [y],h=>.inr ⟨y,by simp,h⟩
 |y::z::r,h=>by
  rw[dY,List.mem_append,List.mem_append] at h
  rcases h with(h|h)|h
  ·exact .inr ⟨y,by simp,h⟩
  ·exact .inl h
  ·rcases Z0B h with q|⟨y',q1,q2⟩
   ·exact .inl q
   ·exact .inr ⟨y',List.mem_cons_of_mem _ q1,q2⟩
def Z2p{n:Int}(h1: -1000000000<=n)(h2:n<=1000000000):(Str.ofString (toString n)).cps.toList.length<=20:=by
 rw[PyProof.Rows.signs_ofString,List.length_map]
 have key:∀m:Nat,m<=1000000000->(toString m:String).length<=10:=by
  intro m hm
  show m.repr.length<=10
  exact(Nat.length_repr_le_iff (by decide)).mpr (by omega)
 cases n with
 |ofNat m=>
  have:=key m (by have:((m:Nat):Int)<=1000000000:=h2;omega)
  have e:(toString (Int.ofNat m):String)=toString m:=rfl
  rw[e,String.length_toList]
  omega
 |negSucc m=>
  have:=key (m+1) (by have:(-1000000000:Int)<=Int.negSucc m:=h1;omega)
  have e:(toString (Int.negSucc m):String)= "-" ++ toString (m+1):=rfl
  rw[e,String.length_toList,String.length_append]
  have e1:("-" :String).length=1:=rfl
  omega
def Zy(w:Str)(xs:List Int):Str:=S (dY (Str.ofString " ").cps.toList (w.cps.toList::xs.map λn=>(Str.ofString (toString n)).cps.toList))
def Z2q(w:Str)(xs:List Int):strsOf (.str w::xs.map λn=>.str (Str.ofString (toString n)))=some (w.cps.toList::xs.map λn=>(Str.ofString (toString n)).cps.toList):=by
 have:∀ys:List Int,strsOf (ys.map λn=>.str (Str.ofString (toString n)))=some (ys.map λn=>(Str.ofString (toString n)).cps.toList):=by
  intro ys
  induction ys with
  |nil=>rfl
  |cons y ys ih=>rw[List.map_cons,strsOf,ih];rfl
 rw[strsOf,this]
 rfl
def Z2L{l:List Nat}{b:Nat}(h:∀x∈l,x<=b):l.sum<=l.length*b:=by
 induction l with
 |nil=>simp
 |cons x l ih=>
  rw[List.sum_cons,List.length_cons,Nat.succ_mul]
  have:=h x (by simp)
  have:=ih λy hy=>h y (List.mem_cons_of_mem _ hy)
  omega
def Z2r{w:Str}{xs:List Int}(hw:w.cps.toList.length<=1000)(hl:xs.length<=100)(hx:∀n∈xs,-1000000000<=n/\n<=1000000000):wG (.str (Str.ofString " ")) [.lst (.str w::xs.map λn=>.str (Str.ofString (toString n)))]=some (.str (Zy w xs)):=by
 unfold wG
 dsimp only
 rw[Z2q]
 have hs:((w.cps.toList::xs.map λn=>(Str.ofString (toString n)).cps.toList).map List.length).sum<=1000+100*20:=by
  rw[List.map_cons,List.sum_cons,List.map_map]
  have:=Z2L (l:=xs.map (List.length ∘ λn=>(Str.ofString (toString n)).cps.toList)) (b:=20) (λx h=>by
   obtain⟨n,hn,rfl⟩:=List.mem_map.mp h
   exact Z2p (hx n hn).1 (hx n hn).2)
  rw[List.length_map] at this
  have:xs.length*20<=100*20:=Nat.mul_le_mul_right 20 hl
  omega
 have hz:(Str.ofString " ").length=1:=by decide +kernel
 have hc:(w.cps.toList::xs.map λn=>(Str.ofString (toString n)).cps.toList).length<=101:=by simp;omega
 show(if _ then some (PV.str (S (dY (Str.ofString " ").cps.toList (w.cps.toList::xs.map λn=>(Str.ofString (toString n)).cps.toList)))) else none)=_
 rw[if_pos (by rw[hz];omega)]
 rfl
def Z1V{w:Str}(hw:PyData.strOk w=true)(xs:List Int):PyData.strOk (Zy w xs)=true:=by
 rw[Z1C] at hw ⊢
 intro c hc
 have hc':c∈dY (Str.ofString " ").cps.toList (w.cps.toList::xs.map λn=>(Str.ofString (toString n)).cps.toList):=by simpa[Zy] using hc
 rcases Z0B hc' with q|⟨y,q1,q2⟩
 ·exact Z1B _ _ q
 ·rcases List.mem_cons.mp q1 with rfl|q1
  ·exact hw c q2
  ·obtain⟨n,_,rfl⟩:=List.mem_map.mp q1
   exact Z1B _ _ q2
def Z1D{xs:List Int}(hl:xs.length<=100)(hx:∀n∈xs,-1000000000<=n/\n<=1000000000):ĺ (gN 0) ı (bY CW (ă (Ā 0) ĕ)) (xs.map .int) [.no] []=some (xs.map λn=>.str (Str.ofString (toString n))):=by
 have:=Ļ (g:=gN 0) (mt:=ı) (me:=bY CW (ă (Ā 0) ĕ)) PV.int (λn=>.str (Str.ofString (toString n))) (λρ=>∃s,ρ=[s]) xs [.no] [] ⟨_,rfl⟩ (by simp;omega) (by
  rintro n hn ρ ⟨s,rfl⟩
  have h:=hx n hn
  have Zet:n.natAbs.log2<1920:=by
   by_cases h0:n.natAbs=0
   ·rw[h0];decide
   ·rw[Nat.log2_lt h0]
    exact Nat.lt_of_lt_of_le (show n.natAbs<2 ^ 30 by omega) (Nat.pow_le_pow_right (by decide) (by decide))
  exact⟨[.sh (.int n)],[.sh (.int n)],[.sh (.int n)],by simp,by simp,by simp[Zet],_,rfl⟩)
 rw[this]
 simp
def Z35{C:String}(hC:(["Thing","Post","Fence","Sail","Cloth","House"]:List String).contains C=true)(w:Str)(xs:List Int):œ ["Thing","Post","Fence","Sail","Cloth","House"] (Str.ofString "word") (Z0 C w xs)=some (.str w):=by
 unfold œ Z0
 dsimp only
 rw[if_pos hC]
 rfl
def Z36{C:String}(hC:(["Thing","Post","Fence","Sail","Cloth","House"]:List String).contains C=true)(w:Str)(xs:List Int):œ ["Thing","Post","Fence","Sail","Cloth","House"] (Str.ofString "numbers") (Z0 C w xs)=some (.lst (xs.map .int)):=by
 unfold œ Z0
 dsimp only
 rw[if_pos hC]
 have:(Str.ofString "numbers" == Str.ofString "word")=false:=by decide +kernel
 show List.lookup _ [(_,_),(_,_)]=_
 rw[List.lookup_cons,this]
 simp
def Z2M{C:String}(hC:(["Thing","Post","Fence","Sail","Cloth","House"]:List String).contains C=true){w:Str}{xs:List Int}(hw:w.cps.toList.length<=1000)(hl:xs.length<=100)(hx:∀n∈xs,-1000000000<=n/\n<=1000000000):Ĩ [.sh (Z0 C w xs)]=.ret (.sh (.str (Zy w xs))):=by
 have h1:=Z1D hl hx
 have h2:=Z2r hw hl hx
 have h3:=Z35 hC w xs
 have h4:=Z36 hC w xs
 have hL:(xs.map λn=>PV.str (Str.ofString (toString n))).length=xs.length:=List.length_map _
 generalize (xs.map λn=>PV.str (Str.ofString (toString n)))=L at *
 have hg:L.length+1<=16777216:=by omega
 have hg':1+L.length<=16777216:=by omega
 generalize Z0 C w xs=v at *
 simp[Ĩ,H_,List.replicate,h3,h4,h1,h2,add_l,hg,hg']
def Z16{w:Str}{xs:List Int}{C:String}(hC:(["Thing","Post","Fence","Sail","Cloth","House"]:List String).contains C=true)(hw:w.cps.toList.length<=1000)(hl:xs.length<=100)(hx:∀n∈xs,-1000000000<=n/\n<=1000000000){mo:M PV}{ρ ρ1:List P.Slot}(ho:mo ρ=.ok (Z0 C w xs) ρ1) :
 dg (Str.ofString "shown") [("Thing",Ĩ),("Post",Ĩ),("Fence",Ĩ),("Sail",Ĩ),("Cloth",Ĩ),("House",Ĩ)] mo Ĉ ρ=.ok (.sh (.str (Zy w xs))) ρ1:=by
 have hn:(["word","numbers"]:List Str).contains (Str.ofString "shown")=false:=by decide +kernel
 have hf:=Z2M hC hw hl hx
 have hk:List.lookup C [("Thing",Ĩ),("Post",Ĩ),("Fence",Ĩ),("Sail",Ĩ),("Cloth",Ĩ),("House",Ĩ)]=some Ĩ:=by
  simp only[List.contains_cons,List.contains_nil,Bool.or_false,Bool.or_eq_true,beq_iff_eq] at hC
  rcases hC with rfl|rfl|rfl|rfl|rfl|rfl<;>rfl
 unfold dg
 rw[ho]
 unfold Z0 at *
 simp only[Res.bind]
 rw[hk]
 dsimp only
 rw[if_neg (by rw[hn];decide)]
 simp only[Ĉ,Res.bind]
 rw[hf]
def ShO(t:Th):Prop:=(["Thing","Post","Fence","Sail","Cloth","House"]:List String).contains (Z9 t.1)=true/\t.1.cps.toList.length<=1000/\t.2.length<=100/\(∀n∈t.2,-1000000000<=n/\n<=1000000000)/\PyData.strOk t.1=true
def ZT(T:List Th):List PV:=T.map λt=>PV.str (Zy t.1 t.2)
theorem Z0R:∀{T:List Th},(∀t∈T,ShO t)->aU (ZT T)=true/\oE (ZT T)=0
 | [],_=>⟨rfl,rfl⟩
 |t::T,h=>by
  obtain⟨a,b⟩:=Z0R (T:=T) λx hx=>h x (List.mem_cons_of_mem _ hx)
  have:=Z1V (h t (by simp)).2.2.2.2 t.2
  unfold ZT at *
  constructor
  ·rw[List.map_cons,aU,a];simp[ű,this]
  ·rw[List.map_cons,oE,b];simp[dep]
def Z17{T:List Th}(hT:T.length<=1000)(h:∀t∈T,ShO t):ĺ (gN 0) ı (č (dg (Str.ofString "shown") [("Thing",Ĩ),("Post",Ĩ),("Fence",Ĩ),("Sail",Ĩ),("Cloth",Ĩ),("House",Ĩ)] (ě 0) Ĉ)) (T.map ź) [.no] []=some (ZT T):=by
 have hc:=Ļ (g:=gN 0) (mt:=ı) (me:=č (dg (Str.ofString "shown") [("Thing",Ĩ),("Post",Ĩ),("Fence",Ĩ),("Sail",Ĩ),("Cloth",Ĩ),("House",Ĩ)] (ě 0) Ĉ)) ź (λt=>PV.str (Zy t.1 t.2)) (λρ=>∃s,ρ=[s]) T [.no] [] ⟨_,rfl⟩ (by simp;omega) (by
  rintro t ht ρ ⟨s,rfl⟩
  obtain⟨a1,a2,a3,a4,a5⟩:=h t ht
  have hm:=Z16 (mo:=ě 0) (ρ:= [.sh (ź t)]) (ρ1:=[.sh (ź t)]) a1 a2 a3 a4 (by simp[ź])
  refine⟨[.sh (ź t)],[.sh (ź t)],[.sh (ź t)],rfl,rfl,?_,_,rfl⟩
  simp[hm,-ux])
 simpa[ZT] using hc
def Zj(r:P3):List Dy:=[(Str.ofString "ab",3,[some r,none]),(Str.ofString "a",1,[none])]
def Z0f{w h:Int}{T:List Th}(hT:T.length<=1000)(hs:∀t∈T,ShO t)(r:P3){sl:P.Slot}(hl:Sl sl (T.map ź)) :
 lK [.sh (Z6 w h T (Zj r)),.sh (.tup [.int w,.int h]),sl,.sh (c3 r)]=.ret (.sh (.bl true)):=by
 have c:=Z17 hT hs
 obtain⟨o1,o2⟩:=Z0R hs
 have n1:cL (.lst (ZT T)) (.lst (ZT T))=some (.bl false):=rK (by unfold ű;exact o1) (by unfold dep;omega)
 have n2:cL (.tup [.int w,.int h]) (.tup [.int w,.int h])=some (.bl false):=rK (by simp[ű,aU]) (by simp[dep,oE])
 have sab:PyData.strOk (Str.ofString "ab")=true:=by decide +kernel
 have sa:PyData.strOk (Str.ofString "a")=true:=by decide +kernel
 have n3:ŝ (.lst ((Zj r).map xT)) (.lst [.tup [.str "ab",.int 3,.lst [c3 r,.non]],.tup [.str "a",.int 1,.lst [.non]]])=some (.bl true):=Dg (p:=.lst ((Zj r).map xT)) (by simp[Zj,xT,Um,c3,ű,aU,sab,sa]) (by simp[Zj,xT,Um,c3,dep,oE])
 have y1:=y_w w h T (Zj r)
 have y2:=y_h w h T (Zj r)
 have y3:=y_t w h T (Zj r)
 have y4:=y_d w h T (Zj r)
 have hlen:(T.map ź).length=T.length:=List.length_map _
 generalize Z6 w h T (Zj r)=Y at *
 generalize T.map ź=Q at *
 generalize (Zj r).map xT=DD at *
 generalize c3 r=R at *
 generalize ZT T=L at *
 have i1:jo (.lst Q) "list" =some true:=rfl
 have i2:jo (.lst DD) "list" =some true:=rfl
 rcases hl with rfl|rfl<;>simp[lK,Ia,List.replicate,y1,y2,y3,y4,Z0e,n1,n2,n3,c,i1,i2,uh,-ux]
theorem Z3h:∀(xs:List Int),xs.length=4->∃a b c d,xs=[a,b,c,d]
 | [a,b,c,d],_=>⟨a,b,c,d,rfl⟩
def Z2N(c0:Int):∃r:P3,oZ [.sh (.int c0)]=.ret (.sh (c3 r))/\RB r/\0<r.2.2:=by
 obtain⟨xs,eg,hl,hx⟩:=Z0c c0 (n:=4) (by omega)
 obtain⟨a,b,c,d,rfl⟩:=Z3h xs hl
 have YG:lA [.sh (.int c0),.sh (.int 4)]=.ret (.ow [.int a,.int b,.int c,.int d]):=eg
 have a1:0<=a % 13/\a % 13<13:=by omega
 have b1:0<=b % 13/\b % 13<13:=by omega
 have c1:0<=c % 5/\c % 5<5:=by omega
 have go:∀s:Int,(s=1\/s=3\/s=100000)->Ė (.lst [.int 1,.int 1,.int 3,.int 100000]) (.int (d % 4))=some (.int s)->∃r:P3,oZ [.sh (.int c0)]=.ret (.sh (c3 r))/\RB r/\0<r.2.2:=by
  intro s hs hx
  have m1:∀x:Int,ń x s=true:=λx=>mul_r (by omega) (by omega)
  refine⟨((a % 13-6)*s,(b % 13-6)*s,(1+c % 5)*s),?_,?_⟩
  ·simp[oZ,GZ,List.replicate,YG,hx,m1,c3]
  ·rcases hs with rfl|rfl|rfl<;>refine⟨⟨?_,?_,?_,?_,?_,?_⟩,?_⟩<;>dsimp only<;>omega
 have hd:d % 4=0\/d % 4=1\/d % 4=2\/d % 4=3:=by omega
 rcases hd with hd|hd|hd|hd
 ·exact go 1 (by omega) (by rw[hd];rfl)
 ·exact go 1 (by omega) (by rw[hd];rfl)
 ·exact go 3 (by omega) (by rw[hd];rfl)
 ·exact go 100000 (by omega) (by rw[hd];rfl)
def Z1E(c:Int):∃w h:Nat,eG [.sh (.int c),.sh (.int 12)]=.ret (.sh (.tup [.int w,.int h]))/\1<=w/\w<=20/\1<=h/\h<=20/\w*h<=20:=by
 by_cases h0:c / 7 % 16=11
 ·have hd:c % 2=0\/c % 2=1:=by omega
  rcases hd with hd|hd
  ·exact⟨1,20,by simp[eG,gB,List.replicate,h0,hd],by omega,by omega,by omega,by omega,by omega⟩
  ·exact⟨20,1,by simp[eG,gB,List.replicate,h0,hd],by omega,by omega,by omega,by omega,by omega⟩
 ·have hd:c % 5=0\/c % 5=1\/c % 5=2\/c % 5=3\/c % 5=4:=by omega
  rcases hd with hd|hd|hd|hd|hd
  ·obtain⟨h,hh⟩:∃h:Nat,1+c / 5 % 4=(h:Int):=⟨(1+c / 5 % 4).toNat,by omega⟩
   exact⟨1,h,by simp[eG,gB,List.replicate,h0,hd,hh],by omega,by omega,by omega,by omega,by omega⟩
  ·obtain⟨h,hh⟩:∃h:Nat,1+c / 5 % 4=(h:Int):=⟨(1+c / 5 % 4).toNat,by omega⟩
   exact⟨2,h,by simp[eG,gB,List.replicate,h0,hd,hh],by omega,by omega,by omega,by omega,by omega⟩
  ·obtain⟨h,hh⟩:∃h:Nat,1+c / 5 % 4=(h:Int):=⟨(1+c / 5 % 4).toNat,by omega⟩
   exact⟨3,h,by simp[eG,gB,List.replicate,h0,hd,hh],by omega,by omega,by omega,by omega,by omega⟩
  ·obtain⟨h,hh⟩:∃h:Nat,1+c / 5 % 3=(h:Int):=⟨(1+c / 5 % 3).toNat,by omega⟩
   exact⟨4,h,by simp[eG,gB,List.replicate,h0,hd,hh],by omega,by omega,by omega,by omega,by omega⟩
  ·obtain⟨h,hh⟩:∃h:Nat,1+c / 5 % 2=(h:Int):=⟨(1+c / 5 % 2).toNat,by omega⟩
   exact⟨5,h,by simp[eG,gB,List.replicate,h0,hd,hh],by omega,by omega,by omega,by omega,by omega⟩
def Z0S{w:Str}{xs:List Int}(h:Z1 w xs=true):xs.length<=100/\(∀n∈xs,-1000000000<=n/\n<=1000000000)/\w.cps.toList.length<=1000:=by
 have hp:Zg xs=true->xs.length<=100/\(∀n∈xs,-1000000000<=n/\n<=1000000000):=by
  intro h
  match xs,h with
  | [a,b,c],h=>
    simp[Zg,ů,vI] at h
    refine⟨by simp,λn hn=>?_⟩
    simp at hn
    rcases hn with rfl|rfl|rfl<;>omega
 have he:Zd xs=true->xs.length<=100/\(∀n∈xs,-1000000000<=n/\n<=1000000000):=by
  intro h
  match xs,h with
  | [a,b,c,d,e],h=>
    simp[Zd,ů,vI] at h
    refine⟨by simp,λn hn=>?_⟩
    simp at hn
    rcases hn with rfl|rfl|rfl|rfl|rfl<;>omega
 have hf:Za xs=true->Zd xs=true:=by
  intro h
  match xs,h with
  | [a,b,c,d,e],h=>
    simp[Za] at h
    exact h.1
 have hb:Z7 xs=true->Zd xs=true:=by
  intro h
  match xs,h with
  | [a,b,c,d,e],h=>
    simp[Z7] at h
    exact h.1.1
 have hc:Zb xs=true->xs.length<=100/\(∀n∈xs,-1000000000<=n/\n<=1000000000):=by
  intro h
  match xs,h with
  | [a,b,c,d,e,f,g,i,j],h=>
    simp[Zb,ů,xQ] at h
    refine⟨by simp,λn hn=>?_⟩
    simp at hn
    rcases hn with rfl|rfl|rfl|rfl|rfl|rfl|rfl|rfl|rfl<;>omega
 unfold Z1 at h
 split at h
 ·next e=>exact⟨(hp h).1,(hp h).2,by rw[e];decide +kernel⟩
 split at h
 ·next e=>exact⟨(he (hf h)).1,(he (hf h)).2,by rw[e];decide +kernel⟩
 split at h
 ·next e=>exact⟨(he (hb h)).1,(he (hb h)).2,by rw[e];decide +kernel⟩
 split at h
 ·next e=>exact⟨(hc h).1,(hc h).2,by rw[e];decide +kernel⟩
 split at h
 ·next e=>exact⟨(he (hb h)).1,(he (hb h)).2,by rw[e];decide +kernel⟩
 ·cases h
def Z37{w:Str}{xs:List Int}(h:Z1 w xs=true):(["Thing","Post","Fence","Sail","Cloth","House"]:List String).contains (Z9 w)=true:=by
 unfold Z1 at h
 by_cases e1:w= "post"
 ·rw[e1];decide +kernel
 rw[if_neg e1] at h
 by_cases e2:w= "fence"
 ·rw[e2];decide +kernel
 rw[if_neg e2] at h
 by_cases e3:w= "sail"
 ·rw[e3];decide +kernel
 rw[if_neg e3] at h
 by_cases e4:w= "cloth"
 ·rw[e4];decide +kernel
 rw[if_neg e4] at h
 by_cases e5:w= "house"
 ·rw[e5];decide +kernel
 rw[if_neg e5] at h
 cases h
def Z0C{t:Th}(h:Z1 t.1 t.2=true):ShO t:=by
 obtain⟨g1,g2,g3⟩:=Z0S h
 exact⟨Z37 h,g3,g1,g2,ZZ h⟩
def Z1F{w h:Nat}(hw2:w<=60)(hh:h<=1000){T:List Th}(hT:T.length<=1000)(hg:∀t∈T,Z1 t.1 t.2=true){r:P3}(hr:RB r):ĺ (gN 2) ı (č (ċ gC (ā 0 (ā 2 (ā 1 Ĉ))))) (T.map ź) [.sh (.tup [.int w,.int h]),.sh (c3 r),.no] []=some (T.map λt=>PV.int (qd w h r t)):=by
 have hc:=Ļ (g:=gN 2) (mt:=ı) (me:=č (ċ gC (ā 0 (ā 2 (ā 1 Ĉ))))) ź (λt=>PV.int (qd w h r t)) (λρ=>∃s,ρ=[.sh (.tup [.int w,.int h]),.sh (c3 r),s]) T [.sh (.tup [.int w,.int h]),.sh (c3 r),.no] [] ⟨_,rfl⟩ (by simp;omega) (by
  rintro t ht ρ ⟨s,rfl⟩
  have e:=Z1A hw2 hh (hg t ht) hr
  generalize ź t=v at *
  generalize c3 r=R at *
  refine⟨[.sh (.tup [.int w,.int h]),.sh R,.sh v],[.sh (.tup [.int w,.int h]),.sh R,.sh v],[.sh (.tup [.int w,.int h]),.sh R,.sh v],rfl,rfl,by simp[e],_,rfl⟩)
 simpa using hc
def Z18:M Fl:=(ģ 1 (ċ eG (Ċ (č (ċ Ţ (ā 0 (Ċ (mC (.int 0)) Ĉ)))) (Ċ (mC (.int 12)) Ĉ))))
def Z19:M Fl:=(ģ 2 (ċ oZ (Ċ (č (ċ Ţ (ā 0 (Ċ (mC (.int 1)) Ĉ)))) Ĉ)))
def Z1a:M Fl:=(ģ 3 (Ń [1] 1 (ŏ (č (Gb (Ā 0) (mP (mC (.int 2))) (mP (mC (.int 7)))))) (gN 1) ı (č (ċ bO (ā 1 (Ċ (bY cB (ă (Ā 0) ĕ)) Ĉ))))))
def ZJ:M Fl:=(cJ (fj (ą ŝ (ą ŀ (ą ŧ (č (ċ Ţ (ā 0 (Ċ (mC (.int 1)) Ĉ)))) (mC (.int 7))) (mC (.int 16))) (mC (.int 9))))
 (ę (ģ 1 (ł (ą Ė (č (ŭ (ă (Ŀ (ă (mC (.int 20)) (ă (mC (.int 2)) ĕ))) (ă (Ŀ (ă (mC (.int 7)) (ă (mC (.int 6)) ĕ))) ĕ)))) (ą ŀ (ą ŧ (č (ċ Ţ (ā 0 (Ċ (mC (.int 1)) Ĉ)))) (mC (.int 112))) (mC (.int 2))))))
 (ģ 3 (Gb (Ā 3) CQ (mP (mC (.int 1))))))
 dz)
def Z0h:M Fl:=(ģ 4 (Ń [] 2 (ŋ 3) (gT 2 (ġ (gN 0) (ġ (gN 1) ŷ))) ı (č (ċ bh (ā 0 (Ċ (č (iR bf (ă (Ā 1) ĕ))) Ĉ))))))
def Z1b:M Fl:=(ģ 8 (Ń [1,2] 1 (ŋ 4) (gN 2) ı (č (ċ gC (ā 0 (ā 2 (ā 1 Ĉ)))))))
def Z1c:M Fl:=(ģ 9 (ċ rN (ā 8 Ĉ)))
def Z1d:M Fl:=(cJ (yQ (aB (au (č (ċ aC (Ċ (č (ċ Ź (ā 7 (Ċ (mC .non) Ĉ)))) (Ċ (ą Ŋ (ą jl (mC (.int 1)) (ą Ģ (ą Ė (Ā 1) (mC (.int 0))) (ą Ė (Ā 1) (mC (.int 1))))) (mC (.int 1))) Ĉ)))))) (aB (au (č (ċ aC (Ċ (č (ċ Ź (ā 7 (ā 2 Ĉ)))) (ā 9 Ĉ)))))))
 (Ġ (ł (mC (.bl false))))
 dz)
def Z1e:M Fl:=(cJ (aB (au (bY jW (ă (č (Ń [7,2,8,4] 1 (ſ aQ (ă (bY jm (ă (Ā 4) ĕ)) ĕ)) (gN 4) ı (č (ċ aC (Ċ (č (ċ cD (ā 0 (Ċ (ą Ė (Ā 3) (Ā 4)) (ā 1 Ĉ))))) (Ċ (ą Ė (Ā 2) (Ā 4)) Ĉ)))))) ĕ))))
 (Ġ (ł (mC (.bl false))))
 dz)
def Z1f:M Fl:=(CK (gS 2 (ġ (gN 12) (ġ (gN 13) ŷ))) (č (ċ bO (Ċ (č (ċ Ţ (ā 0 (Ċ (mC (.int 7)) Ĉ)))) (Ċ (bY cB (ă (Ā 1) ĕ)) Ĉ)))))
def Z0D:M Fl:=(ģ 10 (ċ bh (ā 12 (Ċ (č (iR bf (ă (Ā 13) ĕ))) Ĉ))))
def Z0E:M Fl:=(cJ (aB (au (č (ċ aC (Ċ (č (ċ cD (ā 7 (ā 10 (ā 2 Ĉ))))) (Ċ (č (ċ gC (ā 1 (ā 10 (ā 2 Ĉ))))) Ĉ))))))
 (Ġ (ł (mC (.bl false))))
 dz)
def Z0F:M Fl:=(ģ 11 (ł (bM "Yard" aM (Ċ (ą Ė (Ā 1) (mC (.int 0))) (Ċ (ą Ė (Ā 1) (mC (.int 1))) (Ċ (č (Lx (Ā 4))) (Ċ (č (ŭ ĕ)) Ĉ)))))))
def Z0G:M Fl:=(cJ (aB (au (č (ċ aC (Ċ (č (ċ Ź (ā 11 (ā 2 Ĉ)))) (ā 9 Ĉ))))))
 (Ġ (ł (mC (.bl false))))
 dz)
def Z0H:M Fl:=(Ġ (ł (cX (č (ċ aC (Ċ (č (ċ Ź (ā 7 (ā 2 Ĉ)))) (ā 9 Ĉ)))) (č (ċ lK (ā 7 (ā 1 (ā 4 (ā 2 Ĉ)))))))))
def r31:M Fl:=(ę Z1b (ę Z1c (ę Z1d (ę Z1e (ę Z1f (ę Z0D (ę Z0E (ę Z0F (ę Z0G Z0H)))))))))
def y31:M Fl:=(m31 4 5 6 7 2 1 "Yard" aM (aB (au (č (ċ lK (ā 7 (ā 1 (ā 4 (ā 2 Ĉ)))))))) (Ġ (ł (mC (.bl false)))) r31)
def Z3i:uX=(ę Z18 (ę Z19 (ę Z1a (ę ZJ (ę Z0h y31))))):=rfl
def Zf{A B:M Fl}{ρ ρ1:ķ}(h:A ρ=.ok .nx ρ1):ę A B ρ=B ρ1:=by
 show(A ρ).bind _=_
 rw[h]
 rfl
def Z38{NS S R TR a5 a6 Y:P.Slot}{Q X:List PV}{r s:PV}(hS:S=.sh s)(hR:R=.sh r)(hq:Q.length<=1000)
 (hc:ĺ (gN 2) ı (č (ċ gC (ā 0 (ā 2 (ā 1 Ĉ))))) Q [.sh s,.sh r,.no] []=some X) :
 Z1b [NS,S,R,TR,.ow Q,a5,a6,Y,.no,.no,.no,.no,.no,.no]=.ok .nx [NS,S,R,TR,.sh (.lst Q),a5,a6,Y,.ow X,.no,.no,.no,.no,.no]:=by
 subst hS hR
 simp[Z1b,hc,RV.slot]
def Z39{NS S R TR a4 a5 a6 Y:P.Slot}{X:List PV}{d:Int}(hl:rN [.bw X]=.ret (.sh (.int d))) :
 Z1c [NS,S,R,TR,a4,a5,a6,Y,.ow X,.no,.no,.no,.no,.no]=.ok .nx [NS,S,R,TR,a4,a5,a6,Y,.ow X,.sh (.int d),.no,.no,.no,.no]:=by
 simp[Z1c,hl,RV.slot]
def Z3a{NS TR a4 a5 a6 a8:P.Slot}{r y:PV}{d:Int}{w h:Nat}(hw:w<=1000)(Ms:w*h<=1000)(h1:Ź [.sh y,.sh .non]=.ret (.sh (.int (2 ^ (w*h)-1))))(h2:Ź [.sh y,.sh r]=.ret (.sh (.int d))) :
 Z1d [NS,.sh (.tup [.int w,.int h]),.sh r,TR,a4,a5,a6,.sh y,a8,.sh (.int d),.no,.no,.no,.no]=.ok .nx [NS,.sh (.tup [.int w,.int h]),.sh r,TR,a4,a5,a6,.sh y,a8,.sh (.int d),.no,.no,.no,.no]:=by
 have mo:ń (w:Int) (h:Int)=true:=Ÿ (by omega) (by omega)
 have so:=Z0Z (k:=w*h) (by omega)
 have c:(w:Int)*(h:Int)=((w*h:Nat):Int):=by simp
 have tn:((w:Int)*(h:Int)).toNat=w*h:=by rw[c];rfl
 rw[<-c] at so
 simp[Z1d,h1,h2,mo,so,tn,Zx]
def Z2O{NS S R TR a4 a5 a6 Y a8 a9:P.Slot}{w:PV}{L:List PV}{v:PV}(hl:L.length<=1000)(h:bh [.sh w,.sh (.lst L)]=.ret (.sh v)) :
 Z0D [NS,S,R,TR,a4,a5,a6,Y,a8,a9,.no,.no,.sh w,.sh (.lst L)]=.ok .nx [NS,S,R,TR,a4,a5,a6,Y,a8,a9,.sh v,.no,.sh w,.sh (.lst L)]:=by
 simp[Z0D,h,RV.slot]
def Z2P{NS TR a4 a5 a6 a8 a9 b c e:P.Slot}{y r v s:PV}{d:Int}(h1:cD [.sh y,.sh v,.sh r]=.ret (.sh (.int d)))(h2:gC [.sh s,.sh v,.sh r]=.ret (.sh (.int d))) :
 Z0E [NS,.sh s,.sh r,TR,a4,a5,a6,.sh y,a8,a9,.sh v,b,c,e]=.ok .nx [NS,.sh s,.sh r,TR,a4,a5,a6,.sh y,a8,a9,.sh v,b,c,e]:=by
 simp[Z0E,h1,h2,Zx]
def Z2Q{NS S TR a4 a5 a6 a7 a8 b c e:P.Slot}{y r:PV}{d:Int}(h1:Ź [.sh y,.sh r]=.ret (.sh (.int d))) :
 Z0G [NS,S,.sh r,TR,a4,a5,a6,a7,a8,.sh (.int d),b,.sh y,c,e]=.ok .nx [NS,S,.sh r,TR,a4,a5,a6,a7,a8,.sh (.int d),b,.sh y,c,e]:=by
 simp[Z0G,h1,Zx]
def Z2R{NS TR a5 a6 a8 b b2 c e:P.Slot}{y r s:PV}{Q:List PV}{d:Int}(h1:Ź [.sh y,.sh r]=.ret (.sh (.int d)))(h2:lK [.sh y,.sh s,.sh (.lst Q),.sh r]=.ret (.sh (.bl true))) :
 Z0H [NS,.sh s,.sh r,TR,.sh (.lst Q),a5,a6,.sh y,a8,.sh (.int d),b,b2,c,e]=.ok (.rt (.sh (.bl true))) [NS,.sh s,.sh r,TR,.sh (.lst Q),a5,a6,.sh y,a8,.sh (.int d),b,b2,c,e]:=by
 simp[Z0H,h1,h2,Zx]
def Z3b{R TR a4 a5 a6 Y a8 a9:P.Slot}{NS:List PV}{w h m c:Int}{q:PV}{L:List PV}(h0:Ţ [.sh (.lst NS),.sh (.int 7)]=.ret (.sh (.int c)))(hm:cB [.tup [.int w,.int h]]=some (.int m))(h1:bO [.sh (.int c),.sh (.int m)]=.ret (.sh (.tup [q,.lst L]))) :
 Z1f [.sh (.lst NS),.sh (.tup [.int w,.int h]),R,TR,a4,a5,a6,Y,a8,a9,.no,.no,.no,.no]=.ok .nx [.sh (.lst NS),.sh (.tup [.int w,.int h]),R,TR,a4,a5,a6,Y,a8,a9,.no,.no,.sh q,.sh (.lst L)]:=by
 simp[Z1f,h0,hm,h1,-ZD]
def Z2S{NS R TR a5 a6 Y a8 a9 b c e:P.Slot}{w h:Int}{Q:List PV}{ns:List Str}{qs:List PV}(hq:Q.length<=1000)(h1:aM [.sh (.int w),.sh (.int h),.sh (.lst Q.reverse),.sh (.lst [])]=.ok ns qs) :
 Z0F [NS,.sh (.tup [.int w,.int h]),R,TR,.sh (.lst Q),a5,a6,Y,a8,a9,b,.no,c,e]=.ok .nx [NS,.sh (.tup [.int w,.int h]),R,TR,.sh (.lst Q),a5,a6,Y,a8,a9,b,.sh (.ins "Yard" ns qs),c,e]:=by
 simp[Z0F,h1]
def Z1W{α:Type}:∀L:List α,jW [.lst (L.map λ_=>PV.bl true)]=some (.bl true):=by
 intro L
 have:∀L:List α,boolsOf (L.map λ_=>PV.bl true)=some (L.map λ_=>true):=by
  intro L
  induction L with
  |nil=>rfl
  |cons a L ih=>simp[boolsOf,ih]
 unfold jW
 simp[this]
def Z1X{w h:Nat}(hw:0<w)(hw2:w<=60)(hh:h<=1000){T:List Th}(hT:T.length<=1000)(hg:∀t∈T,Z1 t.1 t.2=true)(Ds:List Dy){r:P3}(hr:RB r)(hz:0<r.2.2) :
 ĺ (gN 4) ı (č (ċ aC (Ċ (č (ċ cD (ā 0 (Ċ (ą Ė (Ā 3) (Ā 4)) (ā 1 Ĉ))))) (Ċ (ą Ė (Ā 2) (Ā 4)) Ĉ)))) ((List.range T.length).map λ(i:Nat)=>PV.int (i:Int)) [.sh (Z6 w h T Ds),.sh (c3 r),.bw (T.map λt=>PV.int (qd w h r t)),.sh (.lst (T.map ź)),.no] []=some ((List.range T.length).map λ_=>PV.bl true):=by
 have hc:=Ļ (g:=gN 4) (mt:=ı) (me:=č (ċ aC (Ċ (č (ċ cD (ā 0 (Ċ (ą Ė (Ā 3) (Ā 4)) (ā 1 Ĉ))))) (Ċ (ą Ė (Ā 2) (Ā 4)) Ĉ)))) (λ(i:Nat)=>PV.int (i:Int)) (λ_=>PV.bl true) (λρ=>∃s,ρ=[.sh (Z6 w h T Ds),.sh (c3 r),.bw (T.map λt=>PV.int (qd w h r t)),.sh (.lst (T.map ź)),s]) (List.range T.length) [.sh (Z6 w h T Ds),.sh (c3 r),.bw (T.map λt=>PV.int (qd w h r t)),.sh (.lst (T.map ź)),.no] [] ⟨_,rfl⟩ (by simp;omega) (by
  rintro i hi ρ ⟨s,rfl⟩
  have hi:=List.mem_range.mp hi
  have e:=ZH hw hw2 hh T Ds (hg _ (List.getElem_mem hi)) hr hz
  have e1:(T.map ź)[i]?=some (ź T[i]):=by simp[hi]
  have e2:(T.map λt=>PV.int (qd w h r t))[i]?=some (.int (qd w h r T[i])):=by simp[hi]
  generalize ź T[i]=v at *
  generalize qd w h r T[i]=d at *
  generalize T.map ź=Q at *
  generalize (T.map λt=>PV.int (qd w h r t))=X at *
  generalize Z6 w h T Ds=Y at *
  generalize c3 r=R at *
  refine⟨[.sh Y,.sh R,.bw X,.sh (.lst Q),.sh (.int i)],[.sh Y,.sh R,.bw X,.sh (.lst Q),.sh (.int i)],[.sh Y,.sh R,.bw X,.sh (.lst Q),.sh (.int i)],rfl,rfl,?_,_,rfl⟩
  simp[e,e1,e2,Zx])
 simpa using hc
def Z3c{NS S TR a5 a6 a9:P.Slot}{y r:PV}{Q X:List PV}{n:Nat}(hq:Q.length=n)(hn:n<=1000)
 (hc:ĺ (gN 4) ı (č (ċ aC (Ċ (č (ċ cD (ā 0 (Ċ (ą Ė (Ā 3) (Ā 4)) (ā 1 Ĉ))))) (Ċ (ą Ė (Ā 2) (Ā 4)) Ĉ)))) ((List.range n).map λ(i:Nat)=>PV.int (i:Int)) [.sh y,.sh r,.bw X,.sh (.lst Q),.no] []=some ((List.range n).map λ_=>PV.bl true)) :
 Z1e [NS,S,.sh r,TR,.sh (.lst Q),a5,a6,.sh y,.ow X,a9,.no,.no,.no,.no]=.ok .nx [NS,S,.sh r,TR,.sh (.lst Q),a5,a6,.sh y,.ow X,a9,.no,.no,.no,.no]:=by
 have h1:=ZF hn
 have h2:=Z1W (List.range n)
 generalize ((List.range n).map λ_=>PV.bl true)=B at *
 generalize ((List.range n).map λ(i:Nat)=>PV.int (i:Int))=I at *
 simp[Z1e,hq,h1,hc,h2]
def Z2s(T:List Th):oY (T.map ź)=true:=by
 induction T with
 |nil=>rfl
 |cons t T ih=>exact ih
def Z2T{w h:Nat}(hw:1<=w/\w<=20)(hh:1<=h/\h<=20)(Ms:w*h<=1000){T:List Th}(hT:T.length<=1000)(hg:∀t∈T,Z1 t.1 t.2=true){r:P3}(hr:RB r)(hz:0<r.2.2)(ns:List Int)(TR:P.Slot) :
 ∃ρ',r31 [.sh (.lst (ns.map .int)),.sh (.tup [.int w,.int h]),.sh (c3 r),TR,.ow (T.map ź),.ow [],.no,.sh (Z6 w h T (Zj r)),.no,.no,.no,.no,.no,.no]=.ok (.rt (.sh (.bl true))) ρ':=by
 have c1:=Z1F (w:=w) (h:=h) (by omega) (by omega) hT hg hr
 have c2:=Z2n (w:=w) (h:=h) T r (.inr rfl)
 have d0:=Z06 (w:=w) (h:=h) (by omega) (by omega) (by omega) Ms hT (Zj r) hg (o:=none) trivial
 have d1:=Z06 (w:=w) (h:=h) (by omega) (by omega) (by omega) Ms hT (Zj r) hg (o:=some r) ⟨hr,hz⟩
 rw[Z1U] at d0
 change Ź [.sh (Z6 w h T (Zj r)),.sh .non]=_ at d0
 change Ź [.sh (Z6 w h T (Zj r)),.sh (c3 r)]=_ at d1
 have c3':=Z1X (w:=w) (h:=h) (by omega) (by omega) (by omega) hT hg (Zj r) hr hz
 have k7:Ţ [.sh (.lst (ns.map .int)),.sh (.int 7)]=.ret (.sh (.int (ns.getD 7 0))):=Z02 ns 7
 have hm:=Z1u w h
 obtain⟨t,t1,t2⟩:=Z0d (ns.getD 7 0) (w:=((max w h:Nat):Int)) (by omega) (by omega)
 have t3:=Z0n (ZZ t2) (xs:=t.2) (sl:=.sh (.lst (t.2.map .int))) (.inl rfl)
 rw[if_pos t2] at t3
 change _=FR.ret (.sh (ź t)) at t3
 have t4:=ZH (w:=w) (h:=h) (by omega) (by omega) (by omega) T (Zj r) t2 hr hz
 have t5:=Z1A (w:=w) (h:=h) (by omega) (by omega) t2 hr
 have gr:∀t∈T.reverse,Z1 t.1 t.2=true:=λt ht=>hg t (List.mem_reverse.mp ht)
 have y2:=Z2f (w:=w) (h:=h) (T:=T.reverse) (D:=[]) (by simp;omega) (by simp) (s3:=.sh (.lst ((T.map ź).reverse))) (s4:=.sh (.lst [])) (.inl (by rw[List.map_reverse])) (.inl rfl)
 have d2:=Z06 (w:=w) (h:=h) (by omega) (by omega) (by omega) Ms (T:=T.reverse) (by simp;omega) [] gr (o:=some r) ⟨hr,hz⟩
 rw[Z2o] at d2
 change Ź [.sh (.ins "Yard" ["width","height","things","days"] [.int w,.int h,.lst (T.reverse.map ź),.lst (([]:List Dy).map xT)]),.sh (c3 r)]=_ at d2
 have fe:=Z0f (w:=w) (h:=h) hT (λt ht=>Z0C (hg t ht)) r (sl:=.sh (.lst (T.map ź))) (.inl rfl)
 have hl:(T.map ź).length=T.length:=List.length_map _
 have tl:(t.2.map PV.int).length<=1000:=by rw[List.length_map];have:=(Z0S t2).1;omega
 unfold r31
 rw[Zf (Z38 rfl rfl (by omega) c1),Zf (Z39 c2),Zf (Z3a (by omega) Ms d0 d1),Zf (Z3c hl hT c3'),Zf (Z3b k7 hm t1),Zf (Z2O tl t3),Zf (Z2P t4 t5),Zf (Z2S (by omega) y2),Zf (Z2Q d2)]
 exact⟨_,Z2R d1 fe⟩
def Z1G{w h:Nat}(hw:1<=w/\w<=20)(hh:1<=h/\h<=20)(Ms:w*h<=1000){T:List Th}(hT:T.length<=1000)(hg:∀t∈T,Z1 t.1 t.2=true){r:P3}(hr:RB r)(hz:0<r.2.2)(ns:List Int)(TR:P.Slot) :
 ∃ρ',y31 [.sh (.lst (ns.map .int)),.sh (.tup [.int w,.int h]),.sh (c3 r),TR,.ow (T.map ź),.no,.no,.no,.no,.no,.no,.no,.no,.no]=.ok (.rt (.sh (.bl true))) ρ':=by
 obtain⟨ρ',e⟩:=Z2T hw hh Ms hT hg hr hz ns TR
 refine⟨ρ',?_⟩
 have ia:=Z2s T
 have yd:=Z2g w h (T:=T) (by omega) (c3 r)
 have fe:=Z0f (w:=w) (h:=h) hT (λt ht=>Z0C (hg t ht)) r (sl:=.bw (T.map ź)) (.inr rfl)
 have yy:PV.ins "Yard" ["width","height","things","days"] [.int w,.int h,.lst (T.map ź),.lst [.tup [.str "ab",.int 3,.lst [c3 r,.non]],.tup [.str "a",.int 1,.lst [.non]]]]=Z6 w h T (Zj r):=rfl
 generalize Z6 w h T (Zj r)=Y at *
 generalize T.map ź=Q at *
 generalize c3 r=R at *
 unfold y31 m31
 simp[ia,yd,yy,fe,e]
def Z2U{l:PySem.W.OpenLaw}{w:World}{K:PySem.W.Frag}{mg:Str->Option Value}{fa:Addr}{a:Ie}(T:Tx K mg a)(hfa:mg "law" =some (.ref fa)):∃fd:FuncData,(∀(s:Shared) (v:Value),BindsTo s fd ⟨[v],[]⟩ [("_law_script",v)])/\∀base:Heap,K.In base->base.Ns mainGlobals mg->∃cm,ĥ l.prog w K mg base Ŧ 9 fa fd ["_law_script"] (š ⟨K,cm⟩ 1 sG):=by
 have e:=hfa.symm.trans T.Io.m
 cases e
 exact⟨a.Il,λs v=>T.Io.bb s [v] rfl,λbase _ _=>⟨_,YD T⟩⟩
def Z2V(NS TR:List PV)(w h c0 c1:Int)(R:PV)(YS:List PV)(k0:Ţ [.sh (.lst NS),.sh (.int 0)]=.ret (.sh (.int c0)))(k1:Ţ [.sh (.lst NS),.sh (.int 1)]=.ret (.sh (.int c1)))(hs:eG [.sh (.int c0),.sh (.int 12)]=.ret (.sh (.tup [.int w,.int h])))(hr:oZ [.sh (.int c1)]=.ret (.sh R))(hy:fB NS (some 2) (some 7)=YS)
 (hT:ĺ (gN 1) ı (č (ċ bO (ā 1 (Ċ (bY cB (ă (Ā 0) ĕ)) Ĉ)))) YS [.sh (.tup [.int w,.int h]),.no] []=some TR) :
 uX [.sh (.lst NS),.no,.no,.no,.no,.no,.no,.no,.no,.no,.no,.no,.no,.no]=ę ZJ (ę Z0h y31) [.sh (.lst NS),.sh (.tup [.int w,.int h]),.sh R,.ow TR,.no,.no,.no,.no,.no,.no,.no,.no,.no,.no]:=by
 rw[Z3i]
 rw[Zf (A:=Z18) (ρ1:=[.sh (.lst NS),.sh (.tup [.int w,.int h]),.no,.no,.no,.no,.no,.no,.no,.no,.no,.no,.no,.no]) (by simp[Z18,k0,hs,RV.slot,-ZD])]
 rw[Zf (A:=Z19) (ρ1:=[.sh (.lst NS),.sh (.tup [.int w,.int h]),.sh R,.no,.no,.no,.no,.no,.no,.no,.no,.no,.no,.no]) (by simp[Z19,k1,hr,RV.slot,-ZD])]
 rw[Zf (A:=Z1a) (ρ1:=[.sh (.lst NS),.sh (.tup [.int w,.int h]),.sh R,.ow TR,.no,.no,.no,.no,.no,.no,.no,.no,.no,.no]) (by simp[Z1a,Nx,hy,hT,RV.slot])]
def Z3d(NS TR:List PV)(S R:PV)(c1:Int)(k1:Ţ [.sh (.lst NS),.sh (.int 1)]=.ret (.sh (.int c1)))(hc:¬c1 / 7 % 16=9) :
 ZJ [.sh (.lst NS),.sh S,.sh R,.ow TR,.no,.no,.no,.no,.no,.no,.no,.no,.no,.no]=.ok .nx [.sh (.lst NS),.sh S,.sh R,.ow TR,.no,.no,.no,.no,.no,.no,.no,.no,.no,.no]:=by
 simp[ZJ,k1,hc,-ZD]
def Z3e(NS TR TR':List PV)(S R:PV)(c1:Int)(k1:Ţ [.sh (.lst NS),.sh (.int 1)]=.ret (.sh (.int c1)))(hc:c1 / 7 % 16=9)(t1:fB TR none (some 1)=TR') :
 ∃w h:Nat,(1<=w/\w<=20)/\(1<=h/\h<=20)/\w*h<=1000/\ZJ [.sh (.lst NS),.sh S,.sh R,.ow TR,.no,.no,.no,.no,.no,.no,.no,.no,.no,.no]=.ok .nx [.sh (.lst NS),.sh (.tup [.int w,.int h]),.sh R,.ow TR',.no,.no,.no,.no,.no,.no,.no,.no,.no,.no]:=by
 rcases(by omega:c1 / 112 % 2=0\/c1 / 112 % 2=1) with e|e
 ·exact⟨20,2,by omega,by omega,by omega,by simp[ZJ,k1,hc,e,Nx,t1,RV.slot,-ZD]⟩
 ·exact⟨7,6,by omega,by omega,by omega,by simp[ZJ,k1,hc,e,Nx,t1,RV.slot,-ZD]⟩
def Z23{T:List Th}(hl:T.length<=1000)(hg:∀t∈T,Z1 t.1 t.2=true)(N S R:P.Slot) :
 Z0h [N,S,R,.ow (T.map Zo),.no,.no,.no,.no,.no,.no,.no,.no,.no,.no]=.ok .nx [N,S,R,.sh (.lst (T.map Zo)),.ow (T.map ź),.no,.no,.no,.no,.no,.no,.no,.no,.no]:=by
 have e:=Z1v hl hg .no .no
 generalize T.map Zo=X at *
 generalize T.map ź=Y at *
 simp[Z0h,e,RV.slot]
def Z1Y(ns:List Int)(hn:ns.length<=63):sG [.sh (.lst (ns.map .int))]=.ret (.sh (.bl true)):=by
 have k0:Ţ [.sh (.lst (ns.map .int)),.sh (.int 0)]=.ret (.sh (.int (ns.getD 0 0))):=Z02 ns 0
 have k1:Ţ [.sh (.lst (ns.map .int)),.sh (.int 1)]=.ret (.sh (.int (ns.getD 1 0))):=Z02 ns 1
 obtain⟨w,h,hs,w1,w2,h1,h2,wh⟩:=Z1E (ns.getD 0 0)
 obtain⟨r,hr,rb,rz⟩:=Z2N (ns.getD 1 0)
 obtain⟨ys,hy,hyl⟩:=slI ns (some 2) (some 7)
 obtain⟨T,hT,hTl,hTg⟩:=Z0x ⟨w1,w2⟩ ⟨h1,h2⟩ ys [] .no (by simp;omega)
 rw[List.nil_append] at hT
 have hd:=Z2V (ns.map .int) (T.map Zo) w h _ _ (c3 r) (ys.map .int) k0 k1 hs hr hy hT
 have hl:sG [.sh (.lst (ns.map .int))]=FR.of (uX [.sh (.lst (ns.map .int)),.no,.no,.no,.no,.no,.no,.no,.no,.no,.no,.no,.no,.no]):=rfl
 rw[hl,hd]
 by_cases hc:(ns.getD 1 0) / 7 % 16=9
 ·obtain⟨T',t1,t2,t3⟩:=slR T
  obtain⟨w',h',a1,a2,a3,e⟩:=Z3e (ns.map .int) _ _ (.tup [.int w,.int h]) (c3 r) _ k1 hc t1
  obtain⟨ρ',ey⟩:=Z1G a1 a2 a3 (T:=T') (by omega) (λt ht=>hTg t (t3 t ht)) rb rz ns (.sh (.lst (T'.map Zo)))
  rw[Zf e,Zf (Z23 (by omega) (λt ht=>hTg t (t3 t ht)) _ _ _),ey]
  rfl
 ·obtain⟨ρ',ey⟩:=Z1G ⟨w1,w2⟩ ⟨h1,h2⟩ (by omega) (T:=T) (by omega) hTg rb rz ns (.sh (.lst (T.map Zo)))
  rw[Zf (Z3d (ns.map .int) _ _ (c3 r) _ k1 hc),Zf (Z23 (by omega) hTg _ _ _),ey]
  rfl
def Z3j{l:PySem.W.OpenLaw}{q:Program}{loose:List Str}{XP:(Str->Option Value)->Heap->Prop}{YP:World->Heap->Prop}{d:DefRec}{K:Params->PySem.W.Frag}(hn:l.most=some 63)(hdf:d.params.defaults=[])
 (hY:∀(w:World) (h:Heap),YP w h->(K w.params).In h)
 (F:∀(w:World) (mg:Str→Option Value) (fa:Addr) (h:Heap),(K w.params).In h→h.Ns mainGlobals mg→mg d.name=some (.ref fa)→
   ∃fd:FuncData,(∀(s:Shared) (u:Value),BindsTo s fd ⟨[u],[]⟩ [("_law_script",u)])/\∀base:Heap,(K w.params).In base->base.Ns mainGlobals mg->∃cm,ĥ l.prog w (K w.params) mg base Ŧ 9 fa fd ["_law_script"] (š ⟨K w.params,cm⟩ 1 sG)) :
 PySem.W.WalkO q loose XP YP l.row.toRowW d [] (λf vs=>PySem.call f vs):=
 P.Gd (k:=9) (x:= "_law_script") (CX:=Ŧ) (m:=sG) hn hdf ⟨rfl,by decide,by decide⟩ hY F Z1Y (λ_ _ _ _ z=>z)
end
end T
namespace PySem.W.Fast
def tw13529076116067945605:=0
def tw14866654793812219207:=0
def tw1787761504512576921:=0
def tw3577740491184939666:=0
def tw8226380591694587239:=0
def tw9178325859868597602:=0
def tw12735650743023316990:=0
def tw15313227440387413698:=0
def tw4794751111890442033:=0
def tw1265949486055957232:=0
def tw7605343875570904238:=0
def tw6014644252967238943:=0
def tw4918953262597446578:=0
def tw7269649695954890094:=0
def tw13843974891963047252:=0
def tw8568088282504140825:=0
def tw4575987197724294520:=0
def tw15894881705846955356:=0
def tw949011805077071221:=0
def tw834665357568435547:=0
def tw7943280398159178369:=0
def tw16625105616288554937:=0
def tw11050384483458224237:=0
def tw14489514674192148290:=0
def tw3005960481038294814:=0
def tw18368455275667125746:=0
def tw13926475503025073723:=0
def tw3409834228415644451:=0
def tw12945802419791631660:=0
def tw5741100187298023212:=0
def tw2015707851450278868:=0
def tw10047566636935516629:=0
def tw11855562963050090983:=0
def tw7713463375723906843:=0
def tw1465583410089839925:=0
def tw11682227330702075764:=0
def tw3492640801994301037:=0
def tw15623038521171410132:=0
def tw13053738466561462986:=0
def tw14766974328446701493:=0
def tw9171882439358476710:=0
def tw1576590155144006356:=0
def tw14622438729360920452:=0
def tw16318674424632146573:=0
def tw13482630524562983116:=0
def tw8523796067041797034:=0
def tw18365801158366572543:=0
def tw9295575536778198437:=0
def tw14970895243173218211:=0
def tw12820444847137676714:=0
def tw11185467240797329078:=0
def tw15608291849884800765:=0
def tw18220255631981177381:=0
def tw13478012354025982866:=0
def tw6987857562819532169:=0
def tw6916778075466666881:=0
def tw5512042579919589940:=0
def tw3505289641665545452:=0
def tw17048920122030224746:=0
def tw3111272582602347007:=0
def tw9209982038225223352:=0
def tw17653386583729785705:=0
def tw6699053174582430445:=0
def tw5318494705072210676:=0
def tw7782723330747754451:=0
def tw1254132606510772360:=0
def tw8612787929894816178:=0
def tw17250403951723205068:=0
def tw14535456164726700095:=0
def tw16568988283210791622:=0
def tw4354347275070962173:=0
def tw10138874690380030638:=0
def tw906333620626496665:=0
def tw17546789478059441901:=0
def tw12568790512961837651:=0
def tw3361388593379725514:=0
def tw9212862292035518867:=0
def tw15805246046645833573:=0
def tw12268082400588992490:=0
def tw5689874690275923281:=0
def tw7634808618509405148:=0
def tw6064942316532170308:=0
def tw15991617883238040449:=0
def tw6906216283197644676:=0
def tw9478247558448632613:=0
def tw12554286288477490396:=0
def tw3423085533559996544:=0
def tw2955992837258104845:=0
def tw16552112773361717154:=0
def tw8711690432923032099:=0
def tw14705560438631288813:=0
def tw3053082351074166625:=0
def tw12923621021241737572:=0
def tw5526740982493032688:=0
def tw16556247460011046215:=0
def tw13092866328667015788:=0
def tw2807557856673362421:=0
def tw3932900393217053978:=0
def tw2256244227589073809:=0
def tw16347880122823508856:=0
def tw4373592035007289846:=0
def tw15018194650755816755:=0
def tw6850469324282904406:=0
def tw2385616132446060707:=0
def tw8833958742166958187:=0
def tw1212310346869872364:=0
def tw9161427420242768777:=0
def tw7440051201853180226:=0
def tw179056878050182572:=0
def tw10867229677256564678:=0
def tw9418409784500216833:=0
def tw3782766907207674677:=0
def tw5588613800238223458:=0
def tw1984893105558801685:=0
def tw10113339710671015092:=0
def tw881209047222703217:=0
def tw5094124912590227056:=0
def tw12563692412908621848:=0
def tw9522070139975434150:=0
def tw396170667152966650:=0
def tw11391549962996557760:=0
def tw7249005048003800373:=0
def tw11498314000003145433:=0
def tw6051716027568605917:=0
def tw8511916170256171255:=0
def tw12210228803885884765:=0
def tw11803990573762534234:=0
def tw1170320123069844678:=0
def tw14770788731674718767:=0
def tw9537133811995449647:=0
def tw1247110648884547271:=0
def tw4898501383053367355:=0
def tw16398530605093808421:=0
def tw10104041175015212389:=0
def tw10067925202442264941:=0
def tw12212744142111773537:=0
def tw15142781742320909020:=0
def tw4103476631651626156:=0
def tw9239457394863677115:=0
def tw6883444856456225459:=0
def tw16391225982579716171:=0
def tw10851778687226456109:=0
def tw3205571607834428550:=0
def tw7652056174937652937:=0
def tw15880089521544026212:=0
def tw6509562313240612121:=0
def tw12674670344840912397:=0
def tw7862316599376935559:=0
def tw14644356622156533779:=0
def tw17702322668001426888:=0
def tw10238919466410815706:=0
def tw8049672780566868464:=0
def tw8966281377207555023:=0
def tw5721075481083055356:=0
def tw10198938917752659533:=0
def tw10857828999021475052:=0
def tw13385174221959994670:=0
def tw3459182889547784313:=0
def tw6841053510355064386:=0
def tw12272138182924884363:=0
def tw8043054402801113138:=0
def tw11620330487579665616:=0
def tw2073533240124574278:=0
def tw4287748898852612327:=0
def tw7128548328907374574:=0
def tw5681460154244644380:=0
def tw13808274197725977858:=0
def tw7401507243058880116:=0
def tw9883379118121793354:=0
def tw3593773494970780383:=0
def tw9742554521133891976:=0
def tw2395115868877177144:=0
def tw14337189654576634421:=0
def tw15035430571344693009:=0
def tw4392587802647447916:=0
def tw11141254836040698139:=0
def tw18094143636632670894:=0
def tw7732965573155995865:=0
def tw3694640600715256439:=0
def tw7253854322348702053:=0
def tw14022799752115981354:=0
def tw17394565558077058931:=0
def tw100066310231147500:=0
def tw8020968501550528662:=0
def tw4653827299313394803:=0
def tw1679041066080103399:=0
def tw15000943030444500531:=0
def tw4206375781605914734:=0
def tw4651653773174441558:=0
def tw11750492777340441858:=0
def tw7185753982967973020:=0
def tw6760828331421931797:=0
def tw16038864639903821862:=0
def tw13678849404028451590:=0
def tw2397957195060134386:=0
def tw9977811185813070607:=0
def tw4149910032043389743:=0
def tw7375380314120505502:=0
def tw9487247874262261084:=0
def tw13593277222631997845:=0
def tw3427665928500449682:=0
def tw12492253087292106126:=0
def tw9295610756967793467:=0
def tw8491434380898610007:=0
def tw16353815103761800395:=0
def tw2440287544966017975:=0
def tw18084683497050659024:=0
def tw14084851196659643237:=0
def tw3149266250451627344:=0
def tw8991840343540154392:=0
def tw2127508739557280756:=0
def tw12754596177346654662:=0
def tw9925451223918841551:=0
def tw924886662871409492:=0
def tw4087178999092075850:=0
def tw1043984149383894706:=0
def tw938617615448705103:=0
def tw2688650143191517607:=0
def tw5782761767241271807:=0
def tw8461912833158735690:=0
def tw1455530651777398064:=0
def tw17671925419981885610:=0
def tw2093795312153929641:=0
def tw3426910673651885934:=0
def tw431965008532701970:=0
def tw2285543548395333650:=0
def tw7202581343129920447:=0
def tw5562034162980121241:=0
def tw5093066069755448970:=0
def tw10303996960220928700:=0
def tw7713723873211567265:=0
def tw5441273457927026790:=0
def tw6468945140909157912:=0
def tw16966454336925735046:=0
def tw2609191556382206906:=0
def tw15198896308661178975:=0
def tw15219702818136507570:=0
def tw12476692531633624782:=0
def tw16135925541679160725:=0
def tw6906925840983474233:=0
def tw2347493416009207753:=0
def tw676390222448690455:=0
def tw7366224504503376764:=0
def tw5496402947083456233:=0
def tw18162544355476978075:=0
def tw18185938871009473066:=0
def tw13041127523825887184:=0
def tw10643656498752915680:=0
def tw6796549072539044807:=0
def tw14855563564673226695:=0
def tw3235786175481522211:=0
def tw11380099245750029680:=0
def tw13860330460448607241:=0
def tw13943881721669437055:=0
def tw4340391572705876503:=0
def tw7075081007376413991:=0
def tw16060684561445135207:=0
def tw11441452693664202821:=0
def tw1492490495349691942:=0
def tw9862315917566901894:=0
def tw1160766858517671230:=0
def tw1993334273102878522:=0
def tw8997921689709477136:=0
def tw6004699554327053440:=0
def tw12067367181082972432:=0
def tw15973492660679660126:=0
def tw14775446906024757374:=0
def tw7516035990214376877:=0
def tw17029894301574931815:=0
def tw13357113669544086569:=0
def tw3117767581593891692:=0
def tw4231584894779396949:=0
def tw5514989271031583115:=0
def tw14195349260312121798:=0
def tw7773381283435014679:=0
def tw14134525897565178766:=0
def tw2036591899620850994:=0
def tw10487544431923902740:=0
def tw4096544309834818453:=0
def tw3893250643648300026:=0
def tw5031233740752754383:=0
def tw4542562894639604780:=0
def tw3925528989391462939:=0
def tw17057070260441613890:=0
def tw978898934817862079:=0
def tw15492378301267256119:=0
def tw11208974398772192322:=0
def tw13814782214026145960:=0
def tw244138044313734445:=0
def tw14574414979524181002:=0
def tw14736521046766472719:=0
def tw6499686650597016964:=0
def tw14378607516625683857:=0
def tw2051440736377567794:=0
def tw16200440079745227218:=0
def tw14387804696219793832:=0
def tw14662187889188506368:=0
def tw6922721438969971678:=0
def tw10374574187314526895:=0
def tw9887414274982357559:=0
def tw15676277212317187108:=0
def tw13792394922283137241:=0
def tw17435277687252293822:=0
def tw12338129028020942865:=0
def tw823585666636139681:=0
def tw9663773657108724756:=0
def tw6742799520442634937:=0
def tw14174233056738378665:=0
def tw6568226344685655405:=0
def tw11615650790914651792:=0
def tw7752725798239676139:=0
def tw12143448958818668453:=0
def tw14324922727131547464:=0
def tw4120743058323903898:=0
def tw15538044807495095666:=0
def tw15515495045359299893:=0
def tw41292706461722277:=0
def tw98065748018629783:=0
def tw12718007665732785023:=0
def tw9289085749251652910:=0
def tw7078660797536981084:=0
def tw5751597337565462882:=0
def tw3578239736214916602:=0
def tw4215670560922717063:=0
def tw17620877191335771651:=0
def tw9065366372699642371:=0
def tw7218771801553412412:=0
def tw3957787436940379998:=0
def tw7831671627172836167:=0
def tw8122009437642352446:=0
def tw16381227957837500605:=0
def tw1600498611839390162:=0
def tw11709490633531301499:=0
def tw10926842533226743812:=0
def tw4870192164336717304:=0
def tw11663629882868083832:=0
def tw11353504984407258536:=0
def tw13101538640600609542:=0
def tw6997138473653618729:=0
def tw17701043842900558438:=0
def tw13733790983735575393:=0
def tw15707188526236821062:=0
def tw10987513929781001824:=0
def tw738934640724291458:=0
def tw15222677762969588455:=0
def tw3794240493099299439:=0
def tw14004664163299882975:=0
def tw13988242778589497929:=0
def tw1013538632077352030:=0
def tw4999600206522922427:=0
def tw11656556205455741411:=0
def tw11216386529355025057:=0
def tw8089943665112134362:=0
def tw10209916365789079213:=0
def tw17261783061757034916:=0
def tw7486521765759965639:=0
def tw14332299867578810133:=0
def tw7479554858679944717:=0
def tw11882972623669672790:=0
def tw2038886145566642175:=0
def tw8556068134149780283:=0
def tw3209445428007534445:=0
def tw11093962779795843012:=0
def tw9738145036434554323:=0
def tw9956368451491553580:=0
def tw16315357392143154576:=0
def tw13484334234148643644:=0
def tw10322522609337008618:=0
def tw17926830197333167972:=0
def tw11416260885163089301:=0
def tw2912468391888911166:=0
def tw11904301668762915674:=0
def tw17443722736240887623:=0
def tw7524770265935608337:=0
def tw10201722370774843826:=0
def tw15460311304626253409:=0
def tw16387133518512002215:=0
def tw13665280901103237930:=0
def tw18065474224674316030:=0
def tw8241562318660005080:=0
def tw17149466728375786490:=0
def tw15311322649172304811:=0
def tw4501378677183799577:=0
def tw12884335359765198028:=0
def tw7025294285424860663:=0
def tw12944707381845199231:=0
def tw8844369011104419218:=0
def tw10392356407436090394:=0
def tw4736025169902738543:=0
def tw11052854934971547592:=0
def tw7172308020037136473:=0
def tw7597787649322345904:=0
def tw12282324932793093709:=0
def tw2618391206285797207:=0
def tw14640528491148038203:=0
def tw518212153175446795:=0
def tw16573019288846093121:=0
def tw7813942679264490752:=0
def tw5811582261589736953:=0
def tw6314101091533981635:=0
def tw15434580389808869956:=0
def tw13839446524039074636:=0
def tw12828492571166830488:=0
def tw1133849329363826381:=0
def tw13039349060660584499:=0
def tw7828410763209943272:=0
def tw3175099556981730425:=0
def tw15318300857578931716:=0
def tw4822008186897008637:=0
def tw10520791729542218122:=0
def tw14008141461976167476:=0
def tw13210241165950836396:=0
def tw14725323988144153463:=0
def tw7513044857735250563:=0
def tw17131103206758130889:=0
def tw6849007943670502321:=0
def tw3075904893570865467:=0
def tw10659819762336727280:=0
def tw12811224171387829312:=0
def tw8618116430222652122:=0
def tw3052213897374080577:=0
def tw320961317388495917:=0
def tw1152920425204537899:=0
def tw7979217337544318961:=0
def tw12436139741104299313:=0
def tw11865925320447609309:=0
def tw17711472428608206720:=0
def tw7866685399275121159:=0
def tw12885754127287733995:=0
def tw2192454094726652565:=0
def tw1877715710445349206:=0
def tw2791536576402477064:=0
def tw13580405953889917313:=0
def tw2162922655359725705:=0
def tw13871968946871751235:=0
def tw1362116482183094155:=0
def tw17306718644946944905:=0
def tw10944615263239326560:=0
def tw497099228299358214:=0
def tw11231300364595026993:=0
def tw3690403008473640420:=0
def tw3884942733674258298:=0
def tw13752484857740414737:=0
def tw9496423958427074135:=0
def tw16389825516222736492:=0
def tw18380333151827379197:=0
def tw10063197271481673170:=0
def tw2327294466098040422:=0
def tw12771410222328589594:=0
def tw7853526078427663638:=0
def tw17408609716003578848:=0
def tw14194392232912239164:=0
def tw5197899643967169384:=0
def tw16776266570642494071:=0
def tw13340089990702833:=0
def tw8904374819640089693:=0
def tw14587829121150510487:=0
def tw1201769270155933595:=0
def tw14632007742348222268:=0
def tw10913992742548221776:=0
def tw6108459824136924176:=0
def tw755496639996444674:=0
def tw4906906670647301247:=0
def tw6072021735681686906:=0
def tw17245386087843481763:=0
def tw6178676387852426330:=0
def tw7068079872440548891:=0
def tw6275534759714970259:=0
def tw1011102584835462477:=0
def tw16006251549021802695:=0
def tw2307305583133944410:=0
def tw2988768486129063205:=0
def tw1022196539680182542:=0
def tw5870632079008861026:=0
def tw4226676204492661969:=0
def tw17081979804103688290:=0
def tw11197085589419302777:=0
def tw10571172764885396434:=0
def tw1776446862463191548:=0
def tw12266808397393756753:=0
def tw3436025287086463136:=0
def tw11897672190003531755:=0
def tw10820836695133816241:=0
def tw13880038619948429879:=0
def tw5567862664739164715:=0
def tw16768575175781448268:=0
def tw9209755795234142567:=0
def tw9279539508919392881:=0
def tw9293619803895849269:=0
def tw12739979377133381227:=0
def tw559992110062801546:=0
def tw18134013691417821538:=0
def tw4035016405691612145:=0
def tw8492813859719877985:=0
def tw1107819809719442512:=0
def tw16938948227493304052:=0
def tw8197662496575063845:=0
def tw8137226515982088633:=0
def tw8442140564822243019:=0
def tw7464478088737540818:=0
def tw10840883927302295992:=0
end PySem.W.Fast
open PySem PySem.W PyProof.Rows
set_option maxRecDepth 100000 in
set_option maxHeartbeats 0 in
theorem PySem.Challenge.cw_shadowpost_k31_dark_by_things_holds : PySem.Challenge.rw_shadowpost_k31_dark_by_things.Holds := by
 w_on;o_law;k_head;(case hw=>w_witness2)
 k_fill
 refine T.Z3j (l:=PySem.Challenge.rw_shadowpost_k31_dark_by_things) rfl rfl (λw h Y=>by first|exact PySem.W.kIn_of Y|exact PySem.W.km_in_of Y) ?F
 case F=>
  intro w mg fa h KX G hmg
  refine' T.Z2U (a:=T.Ie.mk) (T.Tx.mk (mg_of KX G ?_) (mg_of KX G ?_) (mg_of KX G ?_) (mg_of KX G ?_) (mg_of KX G ?_) (mg_of KX G ?_) (mg_of KX G ?_) (P.ħ KX G (λ_ _ _ _ _ _ _ _=>rfl) ?_ ?_ ?_ ?_) (P.ħ KX G (λ_ _ _ _ _ _ _ _=>rfl) ?_ ?_ ?_ ?_) (P.ħ KX G (λ_ _ _ _ _ _ _=>rfl) ?_ ?_ ?_ ?_) (P.lg (λ_ _ _ _ _ _ _ _ _ _ _=>rfl) ?_ ?_ ?_ ?_) (P.ħ KX G (λ_ _ _ _ _ _ _=>rfl) ?_ ?_ ?_ ?_) (P.ħ KX G (λ_ _ _ _ _ _ _=>rfl) ?_ ?_ ?_ ?_) (P.ħ KX G (λ_ _ _ _ _ _ _ _=>rfl) ?_ ?_ ?_ ?_) (P.ħ KX G (λ_ _ _ _ _ _ _ _=>rfl) ?_ ?_ ?_ ?_) (P.ħ KX G (λ_ _ _ _ _ _ _=>rfl) ?_ ?_ ?_ ?_) (P.ħ KX G (λ_ _ _ _ _ _ _=>rfl) ?_ ?_ ?_ ?_) (P.ħ KX G (λ_ _ _ _ _ _ _=>rfl) ?_ ?_ ?_ ?_) (P.lg (λ_ _ _ _ _ _ _ _ _=>rfl) ?_ ?_ ?_ ?_) (P.ħ KX G (λ_ _ _ _ _ _ _=>rfl) ?_ ?_ ?_ ?_) (P.ħ KX G (λ_ _ _ _ _ _ _=>rfl) ?_ ?_ ?_ ?_) (P.ħ KX G (λ_ _ _ _ _ _ _=>rfl) ?_ ?_ ?_ ?_) (P.ħ KX G (λ_ _ _ _ _ _ _=>rfl) ?_ ?_ ?_ ?_) (P.ħ KX G (λ_ _ _ _ _ _ _=>rfl) ?_ ?_ ?_ ?_) (P.ħ KX G (λ_ _ _ _ _ _ _ _=>rfl) ?_ ?_ ?_ ?_) (P.ħ KX G (λ_ _ _ _ _ _ _ _=>rfl) ?_ ?_ ?_ ?_) (P.ħ KX G (λ_ _ _ _ _ _ _=>rfl) ?_ ?_ ?_ ?_) (P.ħ KX G (λ_ _ _ _ _ _ _=>rfl) ?_ ?_ ?_ ?_) (P.ħ KX G (λ_ _ _ _ _ _ _ _=>rfl) ?_ ?_ ?_ ?_) (P.ħ KX G (λ_ _ _ _ _ _ _ _=>rfl) ?_ ?_ ?_ ?_) (P.ħ KX G (λ_ _ _ _ _ _ _=>rfl) ?_ ?_ ?_ ?_) (P.ħ KX G (λ_ _ _ _ _ _ _=>rfl) ?_ ?_ ?_ ?_) (P.ħ KX G (λ_ _ _ _ _ _ _ _=>rfl) ?_ ?_ ?_ ?_) (P.ħ KX G (λ_ _ _ _ _ _ _=>rfl) ?_ ?_ ?_ ?_) (P.ħ KX G (λ_ _ _ _ _ _ _=>rfl) ?_ ?_ ?_ ?_) (P.ħ KX G (λ_ _ _ _ _ _ _ _=>rfl) ?_ ?_ ?_ ?_) (P.ħ KX G (λ_ _ _ _ _ _ _ _=>rfl) ?_ ?_ ?_ ?_) (P.ħ KX G (λ_ _ _ _ _ _ _ _ _=>rfl) ?_ ?_ ?_ ?_) (P.ħ KX G (λ_ _ _ _ _ _ _ _ _=>rfl) ?_ ?_ ?_ ?_) (P.ħ KX G (λ_ _ _ _ _ _ _ _=>rfl) ?_ ?_ ?_ ?_) (P.ħ KX G (λ_ _ _ _ _ _ _=>rfl) ?_ ?_ ?_ ?_) (P.ħ KX G (λ_ _ _ _ _ _ _ _=>rfl) ?_ ?_ ?_ ?_) (P.ħ KX G (λ_ _ _ _ _ _ _ _=>rfl) ?_ ?_ ?_ ?_) (P.ħ KX G (λ_ _ _ _ _ _ _ _=>rfl) ?_ ?_ ?_ ?_) (P.ħ KX G (λ_ _ _ _ _ _ _ _=>rfl) ?_ ?_ ?_ ?_) (P.ħ KX G (λ_ _ _ _ _ _ _ _ _ _ _=>rfl) ?_ ?_ ?_ ?_) (P.ħ KX G (λ_ _ _ _ _ _ _ _ _ _ _=>rfl) ?_ ?_ ?_ ?_) (P.lg (λ_ _ _ _ _ _ _=>rfl) ?_ ?_ ?_ ?_) (P.lg (λ_ _ _ _ _ _ _=>rfl) ?_ ?_ ?_ ?_) (P.lg (λ_ _ _ _ _ _ _=>rfl) ?_ ?_ ?_ ?_) (P.lg (λ_ _ _ _ _ _ _=>rfl) ?_ ?_ ?_ ?_) (P.lg (λ_ _ _ _ _ _ _=>rfl) ?_ ?_ ?_ ?_) (P.ħ KX G (λ_ _ _ _ _ _ _ _=>rfl) ?_ ?_ ?_ ?_) (P.ħ KX G (λ_ _ _ _ _ _ _ _=>rfl) ?_ ?_ ?_ ?_) (P.ħ KX G (λ_ _ _ _ _ _ _ _ _=>rfl) ?_ ?_ ?_ ?_) (P.ħ KX G (λ_ _ _ _ _ _ _ _ _=>rfl) ?_ ?_ ?_ ?_) (P.ħ KX G (λ_ _ _ _ _ _ _ _ _=>rfl) ?_ ?_ ?_ ?_) (P.ħ KX G (λ_ _ _ _ _ _ _=>rfl) ?_ ?_ ?_ ?_) (P.ħ KX G (λ_ _ _ _ _ _ _ _=>rfl) ?_ ?_ ?_ ?_) (P.lg (λ_ _ _ _ _ _ _=>rfl) ?_ ?_ ?_ ?_) (P.ħ KX G (λ_ _ _ _ _ _ _ _ _ _=>rfl) ?_ ?_ ?_ ?_) (P.ħ KX G (λ_ _ _ _ _ _ _ _=>rfl) ?_ ?_ ?_ ?_) (P.ħ KX G (λ_ _ _ _ _ _ _ _ _ _=>rfl) ?_ ?_ ?_ ?_) (P.ħ KX G (λ_ _ _ _ _ _ _ _ _=>rfl) ?_ ?_ ?_ ?_) (P.ħ KX G (λ_ _ _ _ _ _ _ _=>rfl) ?_ ?_ ?_ ?_) (P.ħ KX G (λ_ _ _ _ _ _ _ _=>rfl) ?_ ?_ ?_ ?_) (P.ħ KX G (λ_ _ _ _ _ _ _=>rfl) ?_ ?_ ?_ ?_) (mg_of KX G ?_) (mg_of KX G ?_) (mg_none_of KX G ?_) (mg_none_of KX G ?_) (mg_none_of KX G ?_) (mg_none_of KX G ?_) (mg_none_of KX G ?_) (mg_none_of KX G ?_) (mg_none_of KX G ?_) (mg_none_of KX G ?_) (mg_none_of KX G ?_) (mg_none_of KX G ?_) (mg_none_of KX G ?_) (mg_none_of KX G ?_) (mg_none_of KX G ?_) (mg_none_of KX G ?_) (P.iV ?_) (P.oN ?_) ?_ ?_ (P.ao ?_) (P.iV ?_) (P.oN ?_) ?_ ?_ (P.ao ?_) (P.ao ?_) (P.iV ?_) (P.oN ?_) ?_ ?_ (P.ao ?_) (P.ao ?_) (P.iV ?_) (P.oN ?_) ?_ ?_ (P.ao ?_) (P.ao ?_) (P.iV ?_) (P.oN ?_) ?_ ?_ (P.ao ?_) (P.ao ?_) (P.iV ?_) (P.oN ?_) ?_ ?_ (P.ao ?_) (P.ao ?_) (P.iV ?_) (P.oN ?_) ?_ ?_ ?_ ?_) hmg
  any_goals (dsimp only;k_is)
  any_goals first|kernel_rfl|(unfold L2.Ķ;kernel_rfl)
  all_goals skip
