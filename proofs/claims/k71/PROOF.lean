import PyProof.Rows.All
import Wide.All
import OpenK.AllK
import Wide.FinOn
import Lean
import PyProof.EqAt
import PyProof.EqKinds
import PyProof.TupleCall
import PySem.Challenge.RW_shadowpost_k71_yards_read_and_shown
set_option Elab.async false
set_option linter.all false
set_option maxRecDepth 100000
set_option maxHeartbeats 4000000
namespace L2
open PySem PySem.Spec PyProof.Rows
abbrev Key:=Sum Int Str
def Mg:Key->Value->Bool
 | .inl k,v=>Value.isInt k v
 | .inr x,v=>Value.isStrOf x v
def Zcd(w:World):Key->Int
 | .inl k=>hashInt k
 | .inr x=>hashStr w x
theorem Ŋ:∀{k:Key} {v:Value},Mg k v=true->(∃i t,k=Sum.inl i/\v=Value.int i t)\/(∃x t,k=Sum.inr x/\v=Value.str x t)
 | .inl i,v,h=>by
   obtain⟨t,e⟩:=Value.isInt_shape (k:=i) (v:=v) h
   exact .inl ⟨i,t,rfl,e⟩
 | .inr x,v,h=>by
   obtain⟨t,e⟩:=Value.isStrOf_shape (x:=x) (v:=v) h
   exact .inr ⟨x,t,rfl,e⟩
def Rt(a b:Int):decide ((Sum.inl a:Key)=Sum.inl b)=(a== b):=by
 by_cases e:a=b
 ·subst e;simp
 ·have h:¬(Sum.inl a:Key)=Sum.inl b:=λq=>e (Sum.inl.inj q)
  rw[decide_eq_false h]
  exact(beq_eq_false_iff_ne.mpr e).symm
def Ru(a b:Str):decide ((Sum.inr a:Key)=Sum.inr b)=decide (a=b):=by
 by_cases e:a=b
 ·subst e;simp
 ·have h:¬(Sum.inr a:Key)=Sum.inr b:=λq=>e (Sum.inr.inj q)
  rw[decide_eq_false h,decide_eq_false e]
def Rv(a:Int)(b:Str):decide ((Sum.inl a:Key)=Sum.inr b)=false:=decide_eq_false (λq=>nomatch q)
def Rx(a:Str)(b:Int):decide ((Sum.inr a:Key)=Sum.inl b)=false:=decide_eq_false (λq=>nomatch q)
def um(prog:Program)(w:World):PySem.KeyKind prog w Key where
 is:=Mg
 hash:=Zcd w
 inj:=λv a b ha hb=>by
  rcases Ŋ ha with⟨i,t,rfl,rfl⟩|⟨x,t,rfl,rfl⟩
  ·rcases Ŋ hb with⟨j,u,rfl,e⟩|⟨y,u,rfl,e⟩
   ·injection e with e1 _;rw[e1]
   ·exact nomatch e
  ·rcases Ŋ hb with⟨j,u,rfl,e⟩|⟨y,u,rfl,e⟩
   ·exact nomatch e
   ·injection e with e1 _;rw[e1]
 byValue:=λk v h=>by
  rcases Ŋ h with⟨i,t,rfl,rfl⟩|⟨x,t,rfl,rfl⟩<;>rfl
 pyHash:=λhv h=>by
  rcases Ŋ hv with⟨i,t,rfl,rfl⟩|⟨x,t,rfl,rfl⟩
  ·exact wpAny_pyHash_int h
  ·exact wpAny_pyHash_str h
 eqBool:=λhu hv h=>by
  rcases Ŋ hu with⟨i,t,rfl,rfl⟩|⟨x,t,rfl,rfl⟩
  ·rcases Ŋ hv with⟨j,u,rfl,rfl⟩|⟨y,u,rfl,rfl⟩
   ·rw[Rt] at h;exact wpAny_eqBool_int h
   ·rw[Rv] at h;exact SeqAt.EqAt.int_str i t y u _ _ _ _ h
  ·rcases Ŋ hv with⟨j,u,rfl,rfl⟩|⟨y,u,rfl,rfl⟩
   ·rw[Rx] at h;exact SeqAt.EqAt.str_int x t j u _ _ _ _ h
   ·rw[Ru] at h;exact wpAny_eqBool_str h
 «strs» := fun k x t v h=>by
   rcases Ŋ h with⟨i,u,rfl,e⟩|⟨y,u,rfl,e⟩
   ·exact nomatch e
   ·injection e with e1 _
    subst e1
    cases v<;>rfl
end L2
namespace L2
open PySem PySem.Spec PyProof.Rows
inductive V where
 |non|bl (b:Bool)|int (i:Int)|str (x:Str)|Mh (b:Array UInt8)|flt (b:UInt64)|ref (a:Addr)|ty (n:String)
 deriving DecidableEq
def RelV:V->Value->Prop
 | .non,u=>u=Value.none
 | .bl b,u=>u=Value.bool b
 | .int i,u=>∃t,u=Value.int i t
 | .str x,u=>∃t,u=Value.str x t
 | .Mh b,u=>∃t,u=Value.bytes b t
 | .flt b,u=>∃t,u=Value.float b t
 | .ref a,u=>u=Value.ref a
 | .ty n,u=>u=Value.type n
abbrev Vals:List V->List Value->Prop:=Paired RelV
theorem Vals.length{xs:List V}{us:List Value}(r:Vals xs us):xs.length=us.length:=Paired.length r
theorem Vals.get:∀{xs:List V} {us:List Value} {i:Nat} {x:V},Vals xs us->xs[i]?=some x->∃u,us[i]?=some u/\RelV x u
 |_,_,_,_,.nil,e=>by simp at e
 |_,_,0,_,.cons r _,e=>by simp at e;subst e;exact⟨_,rfl,r⟩
 |_,_,i+1,x,.cons _ t,e=>by
  obtain⟨u,h1,h2⟩:=Vals.get (i:=i) (x:=x) t (by simpa using e)
  exact⟨u,by simpa using h1,h2⟩
theorem Vals.set{x:V}{u:Value}(r:RelV x u):∀{xs:List V} {us:List Value} (i:Nat),Vals xs us->Vals (xs.set i x) (us.set i u)
 |_,_,_,.nil=>.nil
 |_,_,0,.cons _ t=>.cons r t
 |_,_,i+1,.cons q t=>.cons q (Vals.set r i t)
theorem Vals.append:∀{xs ys:List V} {us ws:List Value},Vals xs us->Vals ys ws->Vals (xs++ys) (us++ws)
 |_,_,_,_,.nil,s=>s
 |_,_,_,_,.cons r t,s=>.cons r (Vals.append t s)
theorem Vals.take:∀{xs:List V} {us:List Value} (n:Nat),Vals xs us->Vals (xs.take n) (us.take n)
 |_,_,0,_=>.nil
 |_,_,_+1,.nil=>.nil
 |_,_,n+1,.cons r t=>.cons r (Vals.take n t)
theorem Vals.drop:∀{xs:List V} {us:List Value} (n:Nat),Vals xs us->Vals (xs.drop n) (us.drop n)
 |_,_,0,r=>r
 |_,_,_+1,.nil=>.nil
 |_,_,n+1,.cons _ t=>Vals.drop n t
def qT:Option V->Option Value->Prop
 |some v,some u=>RelV v u
 |none,none=>True
 |_,_=>False
def KV{κ:Type}:List (κ×V)->List (κ×Value)->Prop:=Paired λ(p:κ×V) (q:κ×Value)=>p.1=q.1/\RelV p.2 q.2
def kV:Key->V
 | .inl i=>.int i
 | .inr x=>.str x
inductive HO where
 /-- a list -/
 |lst (xs:List V)
 /-- a tuple (never changes) -/
 |tup (xs:List V)
 /-- a dict whose keys are ints and texts;one whose keys are tuples of ints and texts (the empty one is both) -/
 |dK (kvs:List (Key×V))|dT (kvs:List (List Key×V))
 /-- a set of ints:its members,its size -/
 |set (S:Int->Bool) (n:Nat)
 /-- an instance of the class at C,its dict at dx,its attributes -/
 |ins (C dx:Addr) (fs:List (Str×V))
 /-- the dict of the instance at x -/
 |own (x:Addr)
 /-- the dict of an exception -/
 |xd (fs:List (Str×V))
 /-- a bound method,f of x -/
 |met (f x:Addr)
 /-- a range object lo,lo+1,.. below hi -/
 |rng (lo hi:Int)
 /-- a thing that is known to the object (the script;a dict while a loop walks it):read,never written while it is so -/
 |bM (o:Obj) (u:HO)
 /-- a code object's table -/
 |gk (q:Str)
 /-- a code made of such a table,by its name -/
 |Ry (q:Str)
 /-- any other thing,by what is true of its one object (a def of one's own:Zd_ a S n:=HO.ext λh=>..) -/
 |ext (φ:Heap->Prop)
abbrev Hp:=Addr->Option HO
def upd(H:Hp)(a:Addr)(o:HO):Hp:=λb=>if b=a then some o else H b
def Ď{H:Hp}{a:Addr}{o:HO}:upd H a o a=some o:=by unfold upd;rw[if_pos rfl]
def ĉ{H:Hp}{a b:Addr}{o:HO}(h:b≠a):upd H a o b=H b:=by unfold upd;rw[if_neg h]
def ģ{H:Hp}{a b:Addr}{o:HO}(h:H a=some o)(h':H b=none):a≠b:=by
 intro e;subst e;rw[h] at h';cases h'
section
variable(P:Program)(w:World)
def aj(H:Hp)(h:Heap)(a:Addr):HO->Prop
 | .lst xs=>xs.length<=sizeLine/\∃(its:List Value) (n:Nat),Vals xs its/\h.get? a=some {cls:=.type "list",data:=.seq its.toArray n}
 | .tup xs=>xs.length<=sizeLine/\∃its:List Value,Vals xs its/\IsTup h a its.toArray
 | .dK kvs=>kvs.length<=sizeLine/\(a== sysModules)=false/\∃vs,KV kvs vs/\h.DictOf (um P w) a vs
 | .dT kvs=>kvs.length≤sizeLine∧(a== sysModules)=false∧∃xs:List (List Key×Addr×Value),
     Paired (λ(p:List Key×V) (q:List Key×Addr×Value)=>p.1=q.1/\H q.2.1=some (.tup (p.1.map kV))/\RelV p.2 q.2.2) kvs xs/\
     ∃o es ep,h.get? a=some o/\o.ExactDict/\o.data=.dict es ep/\es.toList=xs.map (entryOfKey (tupleKind (um P w)))/\(xs.map (·.1)).Nodup
 | .set S n=>h.SetOf (intKind P w) a S n
 | .ins C dx fs=>H dx=some (.own a)∧fs.length≤1000∧dx≠a∧h.get? a=some (PySem.W.instObj C dx)∧
     ∃mA,h.Ns1 dx mA/\(∀f,qT (fs.lookup f) (mA f))/\PySem.Within mA (fs.map (·.1))
 | .own _=>∃o,h.get? a=some o
 | .xd fs=>∃mA,h.Ns1 a mA/\∀f,qT (fs.lookup f) (mA f)
 | .rng lo hi=>∃t u v,h.get? a=some {cls:=.type "range",data:=.fields #[.int lo t,.int hi u,.int 1 v]}
 | .bM o u=>h.get? a=some o/\aj H h a u
 | .gk q=>∃ps:Array Value,h.get? a=some {cls:=.none,data:=.fields ps}/\TriplesOk ps.toList/\∀pos cv,codeAmong pos ps.toList=some cv->∃c,cv=.ref c/\H c=some (.Ry q)
 | .Ry q=>h.CodeRec (.ref a) q
 | .met f x=>h.get? a=some (PySem.W.methodObj (.ref f) (.ref x))
 | .ext φ=>φ h/\(∃o,h.get? a=some o)/\∀h1 h2:Heap,φ h1->(∀o,h1.get? a=some o->h2.get? a=some o)->φ h2
def jB(H:Hp)(h:Heap):Prop:=∀a o,H a=some o->aj P w H h a o
end
section
variable{P:Program}{w:World}{H H':Hp}{h h':Heap}{a:Addr}{o:HO}
theorem aj.lt(x:aj P w H h a o):a<h.objs.size:=by
 cases o with
 |lst xs=>obtain⟨_,_,_,_,e⟩:=x;exact Heap.lt_size e
 |tup xs=>obtain⟨_,_,_,p⟩:=x;exact p.lt
 |dK kvs=>obtain⟨_,_,_,_,o,_,_,e,_⟩:=x;exact Heap.lt_size e
 |dT kvs=>obtain⟨_,_,_,_,o,_,_,e,_⟩:=x;exact Heap.lt_size e
 |set S n=>obtain⟨o,_,_,_,e,_⟩:=x;exact Heap.lt_size e
 |ins C dx fs=>obtain⟨_,_,_,e,_⟩:=x;exact Heap.lt_size e
 |own y=>obtain⟨_,e⟩:=x;exact Heap.lt_size e
 |xd fs=>obtain⟨_,⟨_,_,_,e,_⟩,_⟩:=x;exact Heap.lt_size e
 |rng lo hi=>obtain⟨_,_,_,e⟩:=x;exact Heap.lt_size e
 |bM ob u=>obtain⟨e,_⟩:=x;exact Heap.lt_size e
 |gk q=>obtain⟨_,e,_⟩:=x;exact Heap.lt_size e
 |Ry q=>obtain⟨c,o,_,_,z,e,_⟩:=x;cases z;exact Heap.lt_size e
 |met f y=>exact Heap.lt_size (show h.get? a=some _ from x)
 |ext φ=>obtain⟨_,⟨_,e⟩,_⟩:=x;exact Heap.lt_size e
theorem Paired.Rz{α β:Type}{F G:α->β->Prop}:∀{l₁:List α} {l₂:List β},Paired F l₁ l₂->(∀a b,F a b->G a b)->Paired G l₁ l₂
 |_,_,.nil,_=>.nil
 |_,_,.cons r t,f=>.cons (f _ _ r) (Paired.Rz t f)
def aj.stay(x:aj P w H h a o)(k:∀b u,(b=a\/H b=some (.own a))->h.get? b=some u->h'.get? b=some u)
 (ho:∀b,H b=some (.own a)->H' b=some (.own a))(ht:∀b xs,H b=some (.tup xs)->H' b=some (.tup xs))(hc:∀b q,H b=some (.Ry q)->H' b=some (.Ry q):=by exact λ_ _ z=>z):aj P w H' h' a o:=by
 induction o with
 |lst xs=>obtain⟨z,its,n,r,e⟩:=x;exact⟨z,its,n,r,k _ _ (.inl rfl) e⟩
 |tup xs=>obtain⟨z,its,r,ob,e,c⟩:=x;exact⟨z,its,r,ob,k _ _ (.inl rfl) e,c⟩
 |dK kvs=>obtain⟨z,y,vs,r,ob,es,ep,e,c⟩:=x;exact⟨z,y,vs,r,ob,es,ep,k _ _ (.inl rfl) e,c⟩
 |dT kvs=>
  obtain⟨z,y,xs,r,ob,es,ep,e,c⟩:=x
  exact⟨z,y,xs,Paired.Rz r λp q z=>⟨z.1,ht _ _ z.2.1,z.2.2⟩,ob,es,ep,k _ _ (.inl rfl) e,c⟩
 |set S n=>obtain⟨ob,es,ep,t,e,c⟩:=x;exact⟨ob,es,ep,t,k _ _ (.inl rfl) e,c⟩
 |ins C dx fs=>
  obtain⟨d,z,ne,e,mA,⟨od,es,ep,e2,c⟩,r⟩:=x
  exact⟨ho _ d,z,ne,k _ _ (.inl rfl) e,mA,⟨od,es,ep,k _ _ (.inr d) e2,c⟩,r⟩
 |own y=>obtain⟨ob,e⟩:=x;exact⟨ob,k _ _ (.inl rfl) e⟩
 |xd fs=>obtain⟨mA,⟨od,es,ep,e,c⟩,r⟩:=x;exact⟨mA,⟨od,es,ep,k _ _ (.inl rfl) e,c⟩,r⟩
 |rng lo hi=>obtain⟨t,u,v,e⟩:=x;exact⟨t,u,v,k _ _ (.inl rfl) e⟩
 |bM ob u ih=>obtain⟨e,q⟩:=x;exact⟨k _ _ (.inl rfl) e,ih q⟩
 |gk q=>
  obtain⟨ps,e,t,r⟩:=x
  exact⟨ps,k a _ (.inl rfl) e,t,λpos cv z=>let ⟨c,z1,z2⟩:=r pos cv z;⟨c,z1,hc c q z2⟩⟩
 |Ry q=>
  obtain⟨c,o,vs,t,z,e,r⟩:=x
  cases z
  exact⟨a,o,vs,t,rfl,k a _ (.inl rfl) e,r⟩
 |met f y=>
  have e:h.get? a=some (PySem.W.methodObj (.ref f) (.ref y)):=x
  show h'.get? a=some (PySem.W.methodObj (.ref f) (.ref y))
  exact k a _ (.inl rfl) e
 |ext φ=>obtain⟨p,⟨o,e⟩,st⟩:=x;exact⟨st _ _ p λo q=>k _ _ (.inl rfl) q,⟨o,k _ _ (.inl rfl) e⟩,st⟩
theorem jB.lt(x:jB P w H h)(e:H a=some o):a<h.objs.size:=(x a o e).lt
def jB.fresh(x:jB P w H h)(e:h.objs.size<=a):H a=none:=by
 cases q:H a with
 |none=>rfl
 |some u=>exact absurd (Nat.lt_of_lt_of_le (x.lt q) e) (Nat.lt_irrefl _)
def jB.kept(x:jB P w H h)(k:∀b u,h.get? b=some u->h'.get? b=some u):jB P w H h':=λa o e=>
 (x a o e).stay (λb u _ q=>k b u q) (λ_ q=>q) λ_ _ q=>q
def jB.laid(x:jB P w H h)(k:∀b u,h.get? b=some u->h'.get? b=some u)(hp:h.objs.size<=a)(new:aj P w (upd H a o) h' a o):jB P w (upd H a o) h':=λb u e=>by
 have hn:=x.fresh hp
 by_cases hb:b=a
 ·subst hb;rw[Ď] at e;cases e;exact new
 ·rw[ĉ hb] at e
  exact(x b u e).stay (λc v _ q=>k c v q) (λc q=>by rw[ĉ (ģ q hn)];exact q) (λc xs q=>by rw[ĉ (ģ q hn)];exact q) λc xs q=>by rw[ĉ (ģ q hn)];exact q
end
def Rd(H:Hp)(a:Addr)(u:HO):Prop:=H a=some u\/∃o,H a=some (.bM o u)
def Rd.ok{P:Program}{w:World}{H:Hp}{h:Heap}{a:Addr}{u:HO}(r:Rd H a u)(x:jB P w H h):aj P w H h a u:=by
 rcases r with r|⟨o,r⟩
 ·exact x a u r
 ·obtain⟨_,q⟩:=x a _ r
  exact q
def Mut:Option HO->Prop
 |some (.lst _)=>True
 |some (.dK _)=>True
 |some (.dT _)=>True
 |some (.set _ _)=>True
 |some (.ins _ _ _)=>True
 |some (.ext _)=>True
 |some (.xd _)=>True
 |_=>False
section
variable{P:Program}{w:World}{H:Hp}{h h':Heap}{x e:Addr}{o':HO}
def jB.write(ok:jB P w H h)(mu:Mut (H x))(he:e=x\/H e=some (.own x))(k:∀b u,b≠e->h.get? b=some u->h'.get? b=some u)(heo:∃u,h'.get? e=some u)
 (new:aj P w (upd H x o') h' x o'):jB P w (upd H x o') h':=λb u q=>by
 have XC:∀c y,H c=some (.own y)->c≠x:=λc y r z=>by subst z;rw[r] at mu;exact mu
 have Zce:∀c xs,H c=some (.tup xs)->c≠x:=λc xs r z=>by subst z;rw[r] at mu;exact mu
 have Zcf:∀c q,H c=some (.Ry q)->c≠x:=λc xs r z=>by subst z;rw[r] at mu;exact mu
 by_cases hb:b=x
 ·subst hb;rw[Ď] at q;cases q;exact new
 ·rw[ĉ hb] at q
  by_cases hbe:b=e
  ·have q':H b=some (.own x):=by
    rcases he with z|z
    ·exact absurd (hbe.trans z) hb
    ·rw[hbe];exact z
   rw[q] at q';cases q'
   obtain⟨v,hv⟩:=heo
   exact⟨v,by rw[hbe];exact hv⟩
  ·refine(ok b u q).stay (λc v hc r=>k c v ?_ r) (λc r=>by rw[ĉ (XC c b r)];exact r) (λc xs r=>by rw[ĉ (Zce c xs r)];exact r) λc xs r=>by rw[ĉ (Zcf c xs r)];exact r
   rcases hc with rfl|hc
   ·exact hbe
   ·rintro rfl
    rcases he with z|z
    ·exact XC c b hc z
    ·rw[hc] at z;cases z;exact hb rfl
end
structure Un(fs ex:List Addr)(H H':Hp)(h h':Heap):Prop where
 keep:∀b o,h.get? b=some o->H b=none->b∉fs->b∉ex->h'.get? b=some o
 slot:∀b o,h.get? b=some o->H b=none->b∈fs->b∉ex->∃sl,h'.get? b=some {o with slots:=sl}
 free:∀b o,h.get? b=some o->H b=none->b∉ex->H' b=none
 there:∀b o,h.get? b=some o->b∉ex->∃o',h'.get? b=some o'
 tups:∀b xs,H b=some (.tup xs)->H' b=some (.tup xs)
 qU:∀b o u,H b=some (.bM o u)->H' b=some (.bM o u)
 nJ:∀b q,H b=some (.gk q)->H' b=some (.gk q)
section
variable{fs fs' ex ex':List Addr}{H H1 H2:Hp}{h h1 h2 h':Heap}{a x e:Addr}{o:HO}
def Un.any(u:Un fs ex H H1 h h1){b:Addr}{ob:Obj}(q:h.get? b=some ob)(n:H b=none)(hx:b∉ex):∃sl,h1.get? b=some {ob with slots:=sl}:=by
 by_cases hb:b∈fs
 ·exact u.slot b ob q n hb hx
 ·exact⟨ob.slots,u.keep b ob q n hb hx⟩
def Un.kept(k:∀b u,h.get? b=some u->h'.get? b=some u):Un fs ex H H h h':=
 ⟨λb ob q _ _ _=>k b ob q,λb ob q _ _ _=>⟨ob.slots,k b ob q⟩,λ_ _ _ n _=>n,λb ob q _=>⟨ob,k b ob q⟩,λ_ _ q=>q,λ_ _ _ q=>q,λ_ _ q=>q⟩
def Un.refl:Un fs ex H H h h:=Un.kept λ_ _ q=>q
def Un.laid(k:∀b u,h.get? b=some u->h'.get? b=some u)(hp:h.objs.size<=a)(hn:H a=none):Un fs ex H (upd H a o) h h' where
 keep:=λb u q _ _ _=>k b u q
 slot:=λb u q _ _ _=>⟨u.slots,k b u q⟩
 free:=λb u q n _=>by rw[ĉ (Nat.ne_of_lt (Nat.lt_of_lt_of_le (Heap.lt_size q) hp))];exact n
 there:=λb u q _=>⟨u,k b u q⟩
 tups:=λb xs q=>by rw[ĉ (ģ q hn)];exact q
 qU:=λb u xs q=>by rw[ĉ (ģ q hn)];exact q
 nJ:=λb ps q=>by rw[ĉ (ģ q hn)];exact q
def Un.write(mu:Mut (H x))(he:e=x\/H e=some (.own x))(k:∀b u,b≠e->h.get? b=some u->h'.get? b=some u)(heo:∃u,h'.get? e=some u):Un fs ex H (upd H x o) h h':=by
 have hx:∀b,H b=none->b≠x:=λb n z=>by subst z;rw[n] at mu;exact mu
 have hb:∀b,H b=none->b≠e:=λb n z=>by
  subst z
  rcases he with r|r
  ·exact hx b n r
  ·rw[n] at r;cases r
 have hm:∀b u,H b=some u->¬Mut (some u)->b≠x:=λb u q nm z=>by subst z;rw[q] at mu;exact nm mu
 refine⟨λb u q n _ _=>k b u (hb b n) q,λb u q n _ _=>⟨u.slots,k b u (hb b n) q⟩,λb u q n _=>by rw[ĉ (hx b n)];exact n,λb u q _=>?_,
  λb xs q=>by rw[ĉ (hm b _ q λz=>z)];exact q,λb u xs q=>by rw[ĉ (hm b _ q λz=>z)];exact q,λb ps q=>by rw[ĉ (hm b _ q λz=>z)];exact q⟩
 by_cases hbe:b=e
 ·subst hbe;exact heo
 ·exact⟨u,k b u hbe q⟩
end
def trk(h:Heap)(H:Hp):List Addr:=(List.range h.objs.size).filter λa=>(H a).isSome
def qW(h:Heap)(H:Hp):Heap:=PySem.W.hideAll h (trk h H)
def CN(h:Heap)(H:Hp):(qW h H).objs.size=h.objs.size:=PySem.W.hideAll_size _ _
def Eo{h:Heap}{H:Hp}{b:Addr}{o:Obj}(e:h.get? b=some o)(n:H b=none):(qW h H).get? b=some o:=
 PySem.W.hideAll_get _ e λhm=>by
  have q:(H b).isSome=true:=(List.mem_filter.mp hm).2
  rw[n] at q;simp at q
def JL{h:Heap}{H:Hp}{b:Addr}{o:Obj}(e:(qW h H).get? b=some o):h.get? b=some o/\H b=none:=by
 have e':h.get? b=some o:=PySem.W.of_hideAll (trk h H) e
 refine⟨e',?_⟩
 cases q:H b with
 |none=>rfl
 |some x=>
  have hm:b∈trk h H:=List.mem_filter.mpr ⟨List.mem_range.mpr (Heap.lt_size e'),by simp[q]⟩
  have z:(qW h H).get? b=none:=PySem.W.hideAll_none (trk h H) hm
  rw[z] at e;cases e
def JM(g h:Heap)(L:Addr):List (Addr×Obj):=(List.range h.objs.size).filterMap λa=>if a=L\/(g.get? a).isSome=true then none else(h.get? a).map λo=>(a,o)
def rest(g h:Heap)(L d:Addr):List (Addr×Obj):=(JM g h L).filter λp=>decide (p.1≠d)
end L2
namespace L2
open PySem PySem.Spec PyProof.Rows
structure Mod(K:PySem.W.Frag)(mg:Str->Option Value)(base:Heap):Prop where
 Xm:K.In base
 glob:base.Ns mainGlobals mg
 blt:∃mb,base.Ns builtinsNs mb/\∀x:Str,x≠ "__name__" ->mb x=bootBuiltins x
 nolimit:base.NoLimit
def lams:List Str:=[]
abbrev uo(x:Str):Str:=(x ++ ".<locals>.") ++ "<lambda>"
def TabsOk(K:PySem.W.Frag)(mg:Str->Option Value)(base:Heap)(H:Hp):Prop:=∀x c P,x∈lams->PySem.W.tabIn K x=some (c,P)->PySem.W.CodeHd base c P/\H P=some (.gk (uo x))/\base.BuiltinsAt mg P
structure Cx where
 prog:Program
 w:World
 K:PySem.W.Frag
 mg:Str->Option Value
 base:Heap
 A:Around
 N:List Str
 s₀:Shared
 H₀:Hp
 env:Env
 outer:List Env
 stack:List Env
 ex:List Addr
 fn:Str->Bool
 calm:Bool
 pn:List (Addr×Obj)
 xe:Value->Shared->Prop
def frs(l:List Env):List Addr:=l.filterMap (·.frame)
abbrev Cx.fs(X:Cx):List Addr:=frs X.outer
def El(sc:Scope)(x:Str):Prop:=sc.names.lookup x=some .local\/sc.names.lookup x=some .cell\/sc.names.lookup x=some .free
def Loc(sc:Scope)(x:Str):Prop:=sc.names.lookup x=some .local\/sc.names.lookup x=some .cell
def Look(env:Env)(h:Heap)(m:Str->Option Value)(x:Str)(u:Value):Prop:=
 (env.kindOf x=some .local/\m x=some u)\/((env.kindOf x=some .cell\/env.kindOf x=some .free)/\∃c,env.cells.lookup x=some c/\h.IsCell c (some u))
structure Cx.Ok(X:Cx):Prop where
 mod:Mod X.K X.mg X.base
 kind:X.env.scope.kind=.function
 glob:X.env.globals=mainGlobals
 blt:X.env.builtins=builtinsNs
 above:X.s₀.heap.objs.size<=X.env.locals
 inj:∀x y c,X.env.cells.lookup x=some c->X.env.cells.lookup y=some c->x=y
 has:∀x,(X.env.kindOf x=some .cell\/X.env.kindOf x=some .free)->∃c,X.env.cells.lookup x=some c
 cab:∀x c,X.fn x=true->X.env.cells.lookup x=some c->X.s₀.heap.objs.size<=c
 hd:X.calm=true->X.A.handled=none
 frames:X.A.frames=some X.stack
 stk:X.stack=X.outer\/(X.stack=X.env::X.outer/\X.env.frame=some X.env.locals)
 exf:∀b∈X.ex,b≠X.env.locals/\∀x c,X.env.cells.lookup x=some c->c≠b
 bs:∀b o,X.base.get? b=some o->X.s₀.heap.get? b=some o/\X.H₀ b=none
 Ep:X.base.objs.size<=X.s₀.heap.objs.size
 yO:∀b o,X.base.get? b=some o->b∉X.ex
 CP:∀b∈X.ex,b∉X.fs
 jC:X.s₀.heap.FunFrames X.base X.outer
 JN:∀b∈X.fs,X.H₀ b=none
 tb:TabsOk X.K X.mg X.base X.H₀
structure Inv(X:Cx)(pins:List (Addr×Obj))(σ:List (Option V))(H:Hp)(s:Shared):Prop where
 ok:X.Ok
 os:s.os=X.s₀.os
 bare:AllBare s.gens
 base:Un X.fs X.ex X.H₀ H X.s₀.heap s.heap
 loc:∃m,s.heap.Ns X.env.locals m/\∀(i:Nat) (x:Str) (v:V),X.N[i]?=some x->σ[i]?=some (some v)->El X.env.scope x->∃u,RelV v u/\Look X.env s.heap m x u
 cell:∀x c,X.env.cells.lookup x=some c->∃v,s.heap.IsCell c v
 free:H X.env.locals=none
 fJ:∀x c,X.env.cells.lookup x=some c->H c=none
 pin:∀p∈X.pn++pins,s.heap.get? p.1=some p.2/\H p.1=none/\p.1≠X.env.locals/\p.1∉X.fs/\∀v,p.2.data≠ .cell v
 hok:jB X.prog X.w H s.heap
 len:σ.length=X.N.length
section
variable{X:Cx}{pins:List (Addr×Obj)}{σ:List (Option V)}{H H':Hp}{s:Shared}{h':Heap}
def Cx.Ok.Zcg(ok:X.Ok){b:Addr}{o:Obj}(e:X.base.get? b=some o):b∉X.fs:=λhb=>by
 have:=(ok.jC.mem hb).1
 rw[e] at this;cases this
theorem Inv.bs(I:Inv X pins σ H s):∀b o,X.base.get? b=some o->s.heap.get? b=some o/\H b=none:=λb o e=>
 ⟨I.base.keep b o (I.ok.bs b o e).1 (I.ok.bs b o e).2 (I.ok.Zcg e) (I.ok.yO b o e),I.base.free b o (I.ok.bs b o e).1 (I.ok.bs b o e).2 (I.ok.yO b o e)⟩
def Inv.bk(I:Inv X pins σ H s):∀b o,X.base.get? b=some o->s.heap.get? b=some o:=λb o e=>(I.bs b o e).1
theorem Inv.tb(I:Inv X pins σ H s):TabsOk X.K X.mg X.base H:=λx c P hx e=>⟨(I.ok.tb x c P hx e).1,I.base.nJ _ _ (I.ok.tb x c P hx e).2.1,(I.ok.tb x c P hx e).2.2⟩
theorem Inv.mod(I:Inv X pins σ H s):Mod X.K X.mg X.base:=I.ok.mod
def Inv.kJ(I:Inv X pins σ H s):X.K.In s.heap:=I.ok.mod.Xm.keeps I.bk
theorem Inv.lt(I:Inv X pins σ H s):X.env.locals<s.heap.objs.size:=let ⟨_,hn,_⟩:=I.loc;hn.lt
def Inv.sz(I:Inv X pins σ H s):X.s₀.heap.objs.size<=s.heap.objs.size:=Nat.le_trans I.ok.above (Nat.le_of_lt I.lt)
def Inv.Zch(I:Inv X pins σ H s){a:Addr}(h:s.heap.objs.size<=a):a∉X.fs:=λhb=>by
 obtain⟨_,o,ho,_⟩:=I.ok.jC.mem hb
 exact absurd (Nat.lt_of_lt_of_le (Heap.lt_size ho) (Nat.le_trans I.sz h)) (Nat.lt_irrefl _)
def Inv.RB(I:Inv X pins σ H s):∀x c,X.env.cells.lookup x=some c->c≠X.env.locals:=λx c e z=>by
 obtain⟨v,o,ho,hd⟩:=I.cell x c e
 obtain⟨m,⟨o',es,ep,ho',hd',_⟩,_⟩:=I.loc
 rw[z,ho'] at ho;cases ho;rw[hd'] at hd;cases hd
theorem Inv.jC(I:Inv X pins σ H s):s.heap.FunFrames X.base X.outer:=by
 have all:∀(l:List Env),(∀b∈frs l,b∈X.fs)->X.s₀.heap.FunFrames X.base l->s.heap.FunFrames X.base l:=by
  intro l
  induction l with
  |nil=>intro _ _;trivial
  |cons env r ih=>
   intro hs hl
   obtain⟨hk,⟨L,o,hf,hn,ho,hd⟩,hr⟩:=hl
   have hL:L∈X.fs:=hs L (by unfold frs;rw[List.filterMap_cons,hf];exact List.mem_cons_self)
   obtain⟨sl,e⟩:=I.base.slot L o ho (I.ok.JN L hL) hL λz=>I.ok.CP L z hL
   exact⟨hk,⟨L,_,hf,hn,e,hd⟩,ih (λb hb=>hs b (by unfold frs;rw[List.filterMap_cons,hf];exact List.mem_cons_of_mem _ hb)) hr⟩
 exact all X.outer (λ_ hb=>hb) I.ok.jC
theorem Inv.stack(I:Inv X pins σ H s):s.heap.FunFrames X.base X.stack:=by
 rcases I.ok.stk with e|⟨e,hf⟩
 ·rw[e];exact I.jC
 ·rw[e]
  obtain⟨m,hn,_⟩:=I.loc
  refine .cons (by rw[I.ok.kind];decide) hf hn ?_ I.jC
  exact Heap.get?_none_of_le (Nat.le_trans I.ok.Ep I.ok.above)
def Inv.oW(I:Inv X pins σ H s):∀b∈frs X.stack,b∈X.env.locals::X.fs:=λb hb=>by
 rcases I.ok.stk with e|⟨e,hf⟩
 ·rw[e] at hb;exact List.mem_cons_of_mem _ hb
 ·rw[e] at hb
  unfold frs at hb
  rw[List.filterMap_cons,hf] at hb
  exact hb
def Inv.Ao(I:Inv X pins σ H s):∀b∈frs X.stack,H b=none:=λb hb=>by
 rcases List.mem_cons.mp (I.oW b hb) with e|hb
 ·rw[e];exact I.free
 ·obtain⟨_,o,ho,_⟩:=I.ok.jC.mem hb
  exact I.base.free b o ho (I.ok.JN b hb) λz=>I.ok.CP b z hb
def Inv.step{g':Array GenState}{t':Nat}{d':Drawn}{ch:List Addr}(I:Inv X pins σ H s)
 (hch:∀b∈ch,(b∈X.ex\/X.s₀.heap.objs.size<=b)/\b≠X.env.locals/\(∀x c,X.env.cells.lookup x=some c->c≠b)/\∀p∈X.pn++pins,p.1≠b)
 (keep:∀b o,b≠X.env.locals->b∉X.fs->b∉ch->s.heap.get? b=some o->H b=none->h'.get? b=some o)
 (slot:∀b o,b≠X.env.locals->b∈X.fs->b∉ch->s.heap.get? b=some o->H b=none->∃sl,h'.get? b=some {o with slots:=sl})(free:∀b o,b∉ch->s.heap.get? b=some o->H b=none->H' b=none)
 (there:∀b o,b∉ch->s.heap.get? b=some o->∃o',h'.get? b=some o')
 (tups:∀b xs,H b=some (.tup xs)->H' b=some (.tup xs))(qU:∀b o u,H b=some (.bM o u)->H' b=some (.bM o u))(nJ:∀b q,H b=some (.gk q)->H' b=some (.gk q))
 (ns:∀m,s.heap.Ns X.env.locals m->h'.Ns X.env.locals m)(hok:jB X.prog X.w H' h')(hg:AllBare g') :
 Inv X pins σ H' {s with heap:=h',gens:=g',drawn:=d',toks:=t'}:=by
 have neL:∀b o,X.s₀.heap.get? b=some o->b≠X.env.locals:=λb o e=>Nat.ne_of_lt (Nat.lt_of_lt_of_le (Heap.lt_size e) I.ok.above)
 have neC:∀b o,X.s₀.heap.get? b=some o->b∉X.ex->b∉ch:=λb o e hx hb=>by
  rcases(hch b hb).1 with z|z
  ·exact hx z
  ·exact absurd (Nat.lt_of_lt_of_le (Heap.lt_size e) z) (Nat.lt_irrefl _)
 have cellK:∀x c,X.env.cells.lookup x=some c->∀v,s.heap.IsCell c v->h'.IsCell c v:=λx c e v ⟨o,ho,hd⟩=>by
  have XD:c∉ch:=λz=>(hch c z).2.2.1 x c e rfl
  by_cases hc:c∈X.fs
  ·obtain⟨sl,q⟩:=slot c o (I.RB x c e) hc XD ho (I.fJ x c e)
   exact⟨_,q,hd⟩
  ·exact⟨o,keep c o (I.RB x c e) hc XD ho (I.fJ x c e),hd⟩
 refine⟨I.ok,I.os,hg,⟨λb o e n hb hx=>?_,λb o e n hb hx=>?_,λb o e n hx=>?_,λb o e hx=>?_,λb xs e=>tups b xs (I.base.tups b xs e),λb o xs e=>qU b o xs (I.base.qU b o xs e),λb ps e=>?_⟩,?_,λx c e=>?_,?_,λx c e=>?_,λp hp=>?_,hok,I.len⟩
 ·exact keep b o (neL b o e) hb (neC b o e hx) (I.base.keep b o e n hb hx) (I.base.free b o e n hx)
 ·obtain⟨sl,e1⟩:=I.base.slot b o e n hb hx
  obtain⟨sl',e2⟩:=slot b _ (neL b o e) hb (neC b o e hx) e1 (I.base.free b o e n hx)
  exact⟨sl',e2⟩
 ·obtain⟨o',e1⟩:=I.base.there b o e hx
  exact free b o' (neC b o e hx) e1 (I.base.free b o e n hx)
 ·obtain⟨o',e1⟩:=I.base.there b o e hx
  exact there b o' (neC b o e hx) e1
 ·exact nJ b ps (I.base.nJ b ps e)
 ·obtain⟨m,hn,hl⟩:=I.loc
  refine⟨m,ns m hn,λi x v e1 e2 e3=>?_⟩
  obtain⟨u,r,l⟩:=hl i x v e1 e2 e3
  refine⟨u,r,?_⟩
  rcases l with l|⟨k,c,e,z⟩
  ·exact .inl l
  ·exact .inr ⟨k,c,e,cellK x c e _ z⟩
 ·obtain⟨v,z⟩:=I.cell x c e
  exact⟨v,cellK x c e v z⟩
 ·obtain⟨m,⟨o,_,_,ho,_⟩,_⟩:=I.loc
  exact free _ o (λz=>(hch _ z).2.1 rfl) ho I.free
 ·obtain⟨v,o,ho,hd⟩:=I.cell x c e
  exact free c o (λz=>(hch c z).2.2.1 x c e rfl) ho (I.fJ x c e)
 ·obtain⟨e,n,ne,nf,d⟩:=I.pin p hp
  have XD:p.1∉ch:=λz=>(hch p.1 z).2.2.2 p hp rfl
  exact⟨keep p.1 p.2 ne nf XD e n,free p.1 p.2 XD e n,ne,nf,d⟩
def Inv.un{t':Nat}(I:Inv X pins σ H s)(u:Un X.fs [] H H' s.heap h')(hok:jB X.prog X.w H' h'):Inv X pins σ H' {s with heap:=h',toks:=t'}:=by
 obtain⟨m,⟨o,es,ep,ho,r⟩,_⟩:=id I.loc
 obtain⟨sl,hL⟩:=u.any ho I.free (by simp)
 exact I.step (g':=s.gens) (d':=s.drawn) (ch:=[]) (λ_ z=>nomatch z) (λb o _ hb _ e n=>u.keep b o e n hb (by simp)) (λb o _ hb _ e n=>u.slot b o e n hb (by simp)) (λb o _ e n=>u.free b o e n (by simp)) (λb o _ e=>u.there b o e (by simp)) u.tups u.qU u.nJ (λm' hm=>by
  obtain⟨o',es',ep',ho',r'⟩:=hm
  rw[ho] at ho';cases ho'
  exact⟨_,es',ep',hL,r'⟩) hok I.bare
def Inv.call{g':Array GenState}{t':Nat}{d':Drawn}{ch:List Addr}(I:Inv X pins σ H s)(u:Un (frs X.stack) ch H H' s.heap h')(hok:jB X.prog X.w H' h')(hg:AllBare g')
 (hch:∀b∈ch,(b∈X.ex\/X.s₀.heap.objs.size<=b)/\b≠X.env.locals/\(∀x c,X.env.cells.lookup x=some c->c≠b)/\∀p∈X.pn++pins,p.1≠b) :
 Inv X pins σ H' {s with heap:=h',gens:=g',drawn:=d',toks:=t'}:=by
 obtain⟨m,⟨o,es,ep,ho,r⟩,_⟩:=id I.loc
 obtain⟨sl,hL⟩:=u.any ho I.free λz=>(hch _ z).2.1 rfl
 exact I.step (ch:=ch) hch (λb o hL hb hc e n=>u.keep b o e n (λz=>(List.mem_cons.mp (I.oW b z)).elim hL hb) hc) (λb o _ _ hc e n=>u.any e n hc) (λb o hc e n=>u.free b o e n hc) (λb o hc e=>u.there b o e hc) u.tups u.qU u.nJ (λm' hm=>by
  obtain⟨o',es',ep',ho',r'⟩:=hm
  rw[ho] at ho';cases ho'
  exact⟨_,es',ep',hL,r'⟩) hok hg
def Inv.turned{t':Nat}{it:Addr}(I:Inv X pins σ H s)(k:∀b o,b≠it->s.heap.get? b=some o->h'.get? b=some o)(hn:H it=none)(hL:it≠X.env.locals)
 (h1:it∈X.ex\/X.s₀.heap.objs.size<=it)(h2:∀x c,X.env.cells.lookup x=some c->c≠it)(h3:∀p∈X.pn++pins,p.1≠it):Inv X pins σ H {s with heap:=h',toks:=t'}:=by
 have XF:∀b u,H b=some u->b≠it:=λb u e z=>by rw[z,hn] at e;cases e
 refine I.step (g':=s.gens) (d':=s.drawn) (ch:=[it]) (λb hb=>?_) (λb o _ _ hc e _=>k b o (λz=>hc (by simp[z])) e) (λb o _ _ hc e _=>⟨o.slots,k b o (λz=>hc (by simp[z])) e⟩) (λ_ _ _ _ n=>n)
  (λb o hc e=>⟨o,k b o (λz=>hc (by simp[z])) e⟩) (λ_ _ e=>e) (λ_ _ _ e=>e) (λ_ _ e=>e) (λm hm=>?_) (λb u e=>?_) I.bare
 ·have e:b=it:=by simpa using hb
  subst e
  exact⟨h1,hL,h2,h3⟩
 ·obtain⟨o,es,ep,ho,r⟩:=hm
  exact⟨o,es,ep,k _ o (Ne.symm hL) ho,r⟩
 ·refine(I.hok b u e).stay (λc v hc q=>k c v ?_ q) (λ_ q=>q) λ_ _ q=>q
  rcases hc with z|z
  ·rw[z];exact XF b u e
  ·exact XF c _ z
def Inv.tok(I:Inv X pins σ H s)(t:Nat):Inv X pins σ H {s with toks:=t}:=I.un (h':=s.heap) (t':=t) Un.refl I.hok
theorem Inv.kept{t':Nat}(I:Inv X pins σ H s)(k:∀b u,s.heap.get? b=some u->h'.get? b=some u):Inv X pins σ H {s with heap:=h',toks:=t'}:=I.un (Un.kept k) (I.hok.kept k)
theorem Inv.laid{a:Addr}{o:HO}{t':Nat}(I:Inv X pins σ H s)(k:∀b u,s.heap.get? b=some u->h'.get? b=some u)(hp:s.heap.objs.size<=a)(new:aj X.prog X.w (upd H a o) h' a o) :
 Inv X pins σ (upd H a o) {s with heap:=h',toks:=t'}:=I.un (Un.laid k hp (I.hok.fresh hp)) (I.hok.laid k hp new)
theorem Inv.write{x e:Addr}{o:HO}{t':Nat}(I:Inv X pins σ H s)(mu:Mut (H x))(he:e=x\/H e=some (.own x))(k:∀b u,b≠e->s.heap.get? b=some u->h'.get? b=some u)(heo:∃u,h'.get? e=some u)
 (new:aj X.prog X.w (upd H x o) h' x o):Inv X pins σ (upd H x o) {s with heap:=h',toks:=t'}:=I.un (Un.write mu he k heo) (I.hok.write mu he k heo new)
def Inv.Aq{rM:List (Addr×Obj)}(I:Inv X pins σ H s)(h:∀p∈rM,s.heap.get? p.1=some p.2/\H p.1=none/\p.1≠X.env.locals/\p.1∉X.fs/\∀v,p.2.data≠ .cell v):Inv X rM σ H s:=
 ⟨I.ok,I.os,I.bare,I.base,I.loc,I.cell,I.free,I.fJ,λp hp=>(List.mem_append.mp hp).elim (λz=>I.pin p (List.mem_append_left _ z)) (h p),I.hok,I.len⟩
def wA{N:List Str}(hN:N.Nodup){i j:Nat}{x:Str}(a:N[i]?=some x)(b:N[j]?=some x):i=j:=by
 obtain⟨h1,e1⟩:=List.getElem?_eq_some_iff.mp a
 obtain⟨h2,e2⟩:=List.getElem?_eq_some_iff.mp b
 exact(List.getElem_inj hN).mp (e1.trans e2.symm)
def rN{M:Model}{A:Around}{E:Value->Shared->Prop}{i:Nat}{x:Str}{v:V}{u:Value}{Q:Unit->Shared->Prop}(I:Inv X pins σ H s)(hN:X.N.Nodup)(hi:X.N[i]?=some x)(hx:Loc X.env.scope x)(r:RelV v u)
 (h:∀s',Inv X pins (σ.set i (some v)) H s'->(∃a,Heap.SameBut a s.heap s'.heap/\(a=X.env.locals\/X.env.cells.lookup x=some a))->Q () s')(hf:X.fn x=true\/X.env.scope.names.lookup x=some .local:=by first|exact .inl rfl|exact .inr rfl|assumption):wpAny M A (storeName X.env x u) Q E s:=by
 obtain⟨m,hn,hl⟩:=id I.loc
 have hcls:(X.env.scope.kind== .class || (X.env.scope.kind== .module && X.env.locals != X.env.globals))=false:=by rw[I.ok.kind];rfl
 have ZdU:i < σ.length:=by rw[I.len];exact(List.getElem?_eq_some_iff.mp hi).1
 have RB:=I.RB
 have tracked:∀{a:Addr} {h':Heap},(∃o,s.heap.get? a=some o/\H a=none)->Heap.SameBut a s.heap h'->jB X.prog X.w H h':=fun{a h'} ha hs b ob e=>by
  obtain⟨_,_,hfree⟩:=ha
  refine(I.hok b ob e).stay (λc w' hc q=>(hs.2 c ?_).trans q) (λ_ q=>q) λ_ _ q=>q
  rintro rfl
  rcases hc with rfl|hc
  ·rw[hfree] at e;cases e
  ·rw[hfree] at hc;cases hc
 rcases hx with hk|hk
 ·refine wpAny_storeName_local hk hn (λh' hn' hs=>?_) hcls
  obtain⟨oL,_,_,hoL,_⟩:=id hn
  refine h _ ⟨I.ok,I.os,I.bare,⟨λb o e n hb hx=>?_,λb o e n hb hx=>?_,I.base.free,λb o e hx=>?_,I.base.tups,I.base.qU,I.base.nJ⟩,⟨_,hn',λj y v' e1 e2 e3=>?_⟩,λy c e=>?_,I.free,I.fJ,λp hp=>?_,tracked ⟨oL,hoL,I.free⟩ hs,by simpa using I.len⟩ ⟨_,hs,.inl rfl⟩
  ·exact(hs.2 b (Nat.ne_of_lt (Nat.lt_of_lt_of_le (Heap.lt_size e) I.ok.above))).trans (I.base.keep b o e n hb hx)
  ·obtain⟨sl,e1⟩:=I.base.slot b o e n hb hx
   exact⟨sl,(hs.2 b (Nat.ne_of_lt (Nat.lt_of_lt_of_le (Heap.lt_size e) I.ok.above))).trans e1⟩
  ·obtain⟨o',e1⟩:=I.base.there b o e hx
   exact⟨o',(hs.2 b (Nat.ne_of_lt (Nat.lt_of_lt_of_le (Heap.lt_size e) I.ok.above))).trans e1⟩
  ·by_cases hj:j=i
   ·subst hj
    rw[hi] at e1;cases e1
    rw[List.getElem?_set_self ZdU] at e2
    cases e2
    exact⟨u,r,.inl ⟨hk,by simp⟩⟩
   ·rw[List.getElem?_set_ne (Ne.symm hj)] at e2
    obtain⟨u',r',q⟩:=hl j y v' e1 e2 e3
    refine⟨u',r',?_⟩
    rcases q with⟨k,e⟩|⟨k,c,e,z⟩
    ·refine .inl ⟨k,?_⟩
     have:y≠x:=λe=>hj (wA hN e1 (e▸hi))
     simp[this,e]
    ·exact .inr ⟨k,c,e,z.sameBut hs (RB y c e)⟩
  ·obtain⟨w',z⟩:=I.cell y c e
   exact⟨w',z.sameBut hs (RB y c e)⟩
  ·obtain⟨e,n,ne,nf,d⟩:=I.pin p hp
   exact⟨(hs.2 p.1 ne).trans e,n,ne,nf,d⟩
 ·have hfn:X.fn x=true:=by
   rcases hf with z|z
   ·exact z
   ·rw[z] at hk;cases hk
  obtain⟨c,hc⟩:=I.ok.has x (.inl hk)
  obtain⟨w',z⟩:=I.cell x c hc
  refine wpAny_storeName_cell I.ok.kind hk hc z (λh' hc' hs=>?_)
  obtain⟨oc,hoc,Zci⟩:=id z
  refine h {s with heap:=h'} ⟨I.ok,I.os,I.bare,⟨λb o e n hb hx=>?_,λb o e n hb hx=>?_,I.base.free,λb o e hx=>?_,I.base.tups,I.base.qU,I.base.nJ⟩,⟨m,hn.sameBut hs (Ne.symm (RB x c hc)),λj y v' e1 e2 e3=>?_⟩,λy c' e=>?_,I.free,I.fJ,λp hp=>?_,tracked ⟨oc,hoc,I.fJ x c hc⟩ hs,by simpa using I.len⟩ ⟨c,hs,.inr hc⟩
  ·exact(hs.2 b (Nat.ne_of_lt (Nat.lt_of_lt_of_le (Heap.lt_size e) (I.ok.cab x c hfn hc)))).trans (I.base.keep b o e n hb hx)
  ·obtain⟨sl,e1⟩:=I.base.slot b o e n hb hx
   exact⟨sl,(hs.2 b (Nat.ne_of_lt (Nat.lt_of_lt_of_le (Heap.lt_size e) (I.ok.cab x c hfn hc)))).trans e1⟩
  ·obtain⟨o',e1⟩:=I.base.there b o e hx
   exact⟨o',(hs.2 b (Nat.ne_of_lt (Nat.lt_of_lt_of_le (Heap.lt_size e) (I.ok.cab x c hfn hc)))).trans e1⟩
  ·by_cases hj:j=i
   ·subst hj
    rw[hi] at e1;cases e1
    rw[List.getElem?_set_self ZdU] at e2
    cases e2
    exact⟨u,r,.inr ⟨.inl hk,c,hc,hc'⟩⟩
   ·rw[List.getElem?_set_ne (Ne.symm hj)] at e2
    obtain⟨u',r',q⟩:=hl j y v' e1 e2 e3
    refine⟨u',r',?_⟩
    rcases q with q|⟨k,c',e,z'⟩
    ·exact .inl q
    ·refine .inr ⟨k,c',e,z'.sameBut hs ?_⟩
     rintro rfl
     exact hj (wA hN e1 (I.ok.inj _ _ _ e hc▸hi))
  ·by_cases hcc:c'=c
   ·subst hcc;exact⟨_,hc'⟩
   ·obtain⟨w2,z2⟩:=I.cell y c' e
    exact⟨w2,z2.sameBut hs hcc⟩
  ·obtain⟨e,n,ne,nf,d⟩:=I.pin p hp
   refine⟨(hs.2 p.1 ?_).trans e,n,ne,nf,d⟩
   intro q
   rw[q,hoc] at e
   have q':oc=p.2:=Option.some.inj e
   exact d w' (by rw[<-q'];exact Zci)
def wB{M:Model}{A:Around}{E:Value->Shared->Prop}{i:Nat}{x:Str}{v:V}{u:Value}{Q:Unit->Shared->Prop}(I:Inv X pins σ H s)(hN:X.N.Nodup)(hi:X.N[i]?=some x)(hx:Loc X.env.scope x)(r:RelV v u)
 (h:∀s',Inv X pins (σ.set i (some v)) H s'->Q () s')(hf:X.fn x=true\/X.env.scope.names.lookup x=some .local:=by first|exact .inl rfl|exact .inr rfl|assumption):wpAny M A (storeName X.env x u) Q E s:=
 rN I hN hi hx r (λs' I' _=>h s' I') hf
def Inv.call'{s':Shared}{ch:List Addr}(I:Inv X pins σ H s)(ho:s'.os=s.os)(u:Un (frs X.stack) ch H H' s.heap s'.heap)(hok:jB X.prog X.w H' s'.heap)(hg:AllBare s'.gens)
 (hch:∀b∈ch,(b∈X.ex\/X.s₀.heap.objs.size<=b)/\b≠X.env.locals/\(∀x c,X.env.cells.lookup x=some c->c≠b)/\∀p∈X.pn++pins,p.1≠b):Inv X pins σ H' s':=by
 obtain⟨h',g',d',t',o'⟩:=s'
 have e:o'=s.os:=ho
 subst e
 exact I.call (g':=g') (t':=t') (d':=d') u hok hg hch
end
abbrev XK:=Value->Option Addr->Hp->Prop
abbrev St:=List (Option V)
abbrev VK:=V->Hp->Prop
abbrev TE:=St->Hp->VK->Prop
abbrev TT:=St->Hp->(Bool->Hp->Prop)->Prop
abbrev TA:=St->Hp->(List V->Hp->Prop)->Prop
structure Ends where
 nx:St->Hp->Prop
 rt:VK
 bk:St->Hp->Prop:=λ_ _=>False
 ct:St->Hp->Prop:=λ_ _=>False
abbrev TS:=Ends->St->Hp->Prop
def EP(X:Cx)(pins:List (Addr×Obj))(σ:St)(Q:VK)(u:Value)(s':Shared):Prop:=∃v H',Inv X pins σ H' s'/\RelV v u/\Q v H'
def TP(X:Cx)(pins:List (Addr×Obj))(σ:St)(Q:Bool->Hp->Prop)(b:Bool)(s':Shared):Prop:=∃H',Inv X pins σ H' s'/\Q b H'
def AP(X:Cx)(pins:List (Addr×Obj))(σ:St)(Q:List V->Hp->Prop)(us:List Value)(s':Shared):Prop:=∃vs H',Inv X pins σ H' s'/\Vals vs us/\Q vs H'
def SP(X:Cx)(pins:List (Addr×Obj))(D:Ends)(f:Flow)(s':Shared):Prop:=
 match f with
 | .next=>∃σ' H',Inv X pins σ' H' s'/\D.nx σ' H'
 | .brk=>∃σ' H',Inv X pins σ' H' s'/\D.bk σ' H'
 | .cont=>∃σ' H',Inv X pins σ' H' s'/\D.ct σ' H'
 | .ret u=>∃v σ' H',Inv X pins σ' H' s'/\RelV v u/\D.rt v H'
def PE(X:Cx)(e:Expr)(t:TE):Prop:=
 ∀(pins:List (Addr×Obj)) (s:Shared) (σ:St) (H:Hp) (Q:VK),Inv X pins σ H s->t σ H Q->wpAny (model X.prog X.w) X.A (eval e X.env) (EP X pins σ Q) X.xe s
def PT(X:Cx)(e:Expr)(t:TT):Prop:=
 ∀(pins:List (Addr×Obj)) (s:Shared) (σ:St) (H:Hp) (Q:Bool->Hp->Prop),Inv X pins σ H s->t σ H Q->wpAny (model X.prog X.w) X.A (isTrue e X.env (eval e X.env)) (TP X pins σ Q) X.xe s
def PW(X:Cx)(e:Expr)(t:TT):Prop:=
 ∀(whole:Sem Value) (pins:List (Addr×Obj)) (s:Shared) (σ:St) (H:Hp) (Q:Bool->Hp->Prop),Inv X pins σ H s->t σ H Q->wpAny (model X.prog X.w) X.A (isTrue e X.env whole) (TP X pins σ Q) X.xe s
def PW.pt{X:Cx}{e:Expr}{t:TT}(h:PW X e t):PT X e t:=h _
def PA(X:Cx)(es:List Expr)(t:TA):Prop:=
 ∀(pos:Pos) (pins:List (Addr×Obj)) (s:Shared) (σ:St) (H:Hp) (Q:List V->Hp->Prop),Inv X pins σ H s->t σ H Q->wpAny (model X.prog X.w) X.A (spliced (backTo pos (starEach es X.env))) (AP X pins σ Q) X.xe s
def PS(X:Cx)(st:Stmt)(t:TS):Prop:=
 ∀(pins:List (Addr×Obj)) (s:Shared) (σ:St) (H:Hp) (D:Ends),Inv X pins σ H s->t D σ H->wpAny (model X.prog X.w) X.A (exec st X.env) (SP X pins D) X.xe s
def aB(X:Cx)(st:List Stmt)(t:TS):Prop:=
 ∀(pins:List (Addr×Obj)) (s:Shared) (σ:St) (H:Hp) (D:Ends),Inv X pins σ H s->t D σ H->wpAny (model X.prog X.w) X.A (execs st X.env) (SP X pins D) X.xe s
def ņ{α:Type}{t:Sem α}{Q Q':α->Shared->Prop}{M:Model}{A:Around}{E:Value->Shared->Prop}{s:Shared}(h:wpAny M A t Q E s)(hQ:∀a s,Q a s->Q' a s):wpAny M A t Q' E s:=wpAny_mono h hQ λ_ _ x=>x
end L2
namespace L2
open PySem PySem.Spec PyProof.Rows
section
variable{X:Cx}
def bG(i:Nat):TE:=λσ H Q=>∃v,σ[i]?=some (some v)/\Q v H
def tC(v:V):TE:=λ_ H Q=>Q v H
def gn{i:Nat}{x:Str}{pos:Pos}(hN:X.N[i]?=some x)(hv:El X.env.scope x)(hd:(x== ("__debug__" :Str))=false:=by decide)(hcd:(x== ("__classdict__" :Str))=false:=by decide):PE X (.Name x pos) (bG i):=by
 intro pins s σ H Q I h
 obtain⟨v,e,h⟩:=h
 obtain⟨m,hn,hl⟩:=I.loc
 obtain⟨u,r,l⟩:=hl i x v hN e hv
 have fin:EP X pins σ Q u s:=⟨v,H,I,r,h⟩
 rcases l with⟨hk,hm⟩|⟨hk,c,hc,hcell⟩
 ·exact wpAny_Name (wpAny_loadName_local I.ok.kind hk hn hm fin) hd
 ·rcases hk with hk|hk
  ·exact wpAny_Name (wpAny_loadName_cell I.ok.kind hk hc hcell fin) hd
  ·exact wpAny_Name (wpAny_loadName_free I.ok.kind hk hc hcell fin hcd) hd
def uq{i j pos}:PE X (.Constant (.int i) j pos) (tC (.int i)):=λ_ _ _ H _ I h=>wpAny_Constant_int ⟨.int i,H,I.tok _,⟨_,rfl⟩,h⟩
def XH{b j pos}:PE X (.Constant (.bool b) j pos) (tC (.bl b)):=λ_ _ _ H _ I h=>Constant_bool ⟨.bl b,H,I,rfl,h⟩
def ur{j pos}:PE X (.Constant .none j pos) (tC .non):=λ_ _ _ H _ I h=>Constant_none ⟨.non,H,I,rfl,h⟩
def RD{x j pos}:PE X (.Constant (.str x) j pos) (tC (.str x)):=λ_ _ _ H _ I h=>Calls.Constant_str ⟨.str x,H,I.tok _,⟨_,rfl⟩,h⟩
def Gl(X:Cx)(x:Str):Prop:=X.env.kindOf x=some .globalImplicit
def jD{E:Value->Shared->Prop}{pins:List (Addr×Obj)}{s:Shared}{σ:St}{H:Hp}{x:Str}{u:Value}{pos:Pos}{Q:Value->Shared->Prop}(I:Inv X pins σ H s)(hg:Gl X x)(hm:X.mg x=some u)(h:Q u s)
 (hd:(x== ("__debug__" :Str))=false:=by decide):wpAny (model X.prog X.w) X.A (eval (.Name x pos) X.env) Q E s:=
 Calls.Name_function_global I.ok.kind hg (Calls.loadGlobal_global (by rw[I.ok.glob];exact I.mod.glob.keeps I.bk) hm h) hd
def kZ{E:Value->Shared->Prop}{pins:List (Addr×Obj)}{s:Shared}{σ:St}{H:Hp}{x:Str}{u:Value}{pos:Pos}{Q:Value->Shared->Prop}(I:Inv X pins σ H s)(hg:Gl X x)(hm:X.mg x=none)(hv:bootBuiltins x=some u)(h:Q u s)
 (hn:x≠ "__name__" := by decide)(hd:(x== ("__debug__" :Str))=false:=by decide):wpAny (model X.prog X.w) X.A (eval (.Name x pos) X.env) Q E s:=by
 obtain⟨mb,h1,h2⟩:=I.mod.blt
 exact Calls.Name_function_global I.ok.kind hg (Calls.loadGlobal_builtin (by rw[I.ok.glob];exact I.mod.glob.keeps I.bk) hm (by rw[I.ok.blt];exact h1.keeps I.bk) ((h2 x hn).trans hv) h) hd
def œ{x:Str}{v:V}{u:Value}{pos:Pos}(hg:Gl X x)(hm:X.mg x=some u)(r:RelV v u)(hd:(x== ("__debug__" :Str))=false:=by decide):PE X (.Name x pos) (tC v):=
 λ_ _ _ H _ I h=>jD I hg hm ⟨v,H,I,r,h⟩ hd
def gU{x:Str}{v:V}{u:Value}{pos:Pos}(hg:Gl X x)(hm:X.mg x=none)(hv:bootBuiltins x=some u)(r:RelV v u)(hn:x≠ "__name__" := by decide)(hd:(x== ("__debug__" :Str))=false:=by decide):PE X (.Name x pos) (tC v):=
 λ_ _ _ H _ I h=>kZ I hg hm hv ⟨v,H,I,r,h⟩ hn hd
variable{a b:Expr}{ta tb:TE}{pos:Pos}
variable{tA tB':TT}{rest:List Expr}
def Zcj(t u:TT):TT:=λσ H Q=>t σ H λc H1=>if c=true then u σ H1 Q else Q false H1
def tOr(t u:TT):TT:=λσ H Q=>t σ H λc H1=>if c=true then Q true H1 else u σ H1 Q
def Zck(t:TT):TT:=λσ H Q=>t σ H λc H1=>Q (!c) H1
def JQ(ha:PT X a tA):PW X (.BoolOp .And [a] pos) tA:=by
 intro wh pins s σ H Q I h
 refine isTrue_and (ņ (ha pins s σ H Q I h) λc s1 e=>?_)
 cases c with
 |true=>exact isTrue_and_nil e
 |false=>exact e
def RJ(ha:PT X a tA):PW X (.BoolOp .Or [a] pos) tA:=by
 intro wh pins s σ H Q I h
 refine isTrue_or (ņ (ha pins s σ H Q I h) λc s1 e=>?_)
 cases c with
 |false=>exact isTrue_or_nil e
 |true=>exact e
def RK(ha:PT X a tA)(hb:PW X (.BoolOp .And (b::rest) pos) tB'):PW X (.BoolOp .And (a::b::rest) pos) (Zcj tA tB'):=by
 intro wh pins s σ H Q I h
 refine isTrue_and (ņ (ha pins s σ H _ I h) λc s1 ⟨H1,I1,q1⟩=>?_)
 cases c with
 |true=>exact hb wh pins s1 σ H1 Q I1 q1
 |false=>exact⟨H1,I1,q1⟩
def XJ(ha:PT X a tA)(hb:PW X (.BoolOp .Or (b::rest) pos) tB'):PW X (.BoolOp .Or (a::b::rest) pos) (tOr tA tB'):=by
 intro wh pins s σ H Q I h
 refine isTrue_or (ņ (ha pins s σ H _ I h) λc s1 ⟨H1,I1,q1⟩=>?_)
 cases c with
 |true=>exact⟨H1,I1,q1⟩
 |false=>exact hb wh pins s1 σ H1 Q I1 q1
def RL(ha:PT X a tA):PT X (.UnaryOp .Not a pos) (Zck tA):=by
 intro pins s σ H Q I h
 exact isTrue_not (ha pins s σ H (λc H1=>Q (!c) H1) I h)
def RM{op}{t:TE}(h:PE X a t):PE X (.BoolOp op [a] pos) t:=λpins s σ H Q I hw=>BoolOp_one (h pins s σ H Q I hw)
def tIf(t:TT)(ta tb:TE):TE:=λσ H Q=>t σ H λc H1=>if c=true then ta σ H1 Q else tb σ H1 Q
def Er{c:Expr}(hc:PT X c tA)(ha:PE X a ta)(hb:PE X b tb):PE X (.IfExp c a b pos) (tIf tA ta tb):=by
 intro pins s σ H Q I h
 refine wpAny_IfExp (ņ (hc pins s σ H _ I h) λd s1 ⟨H1,I1,q1⟩=>?_)
 cases d with
 |true=>exact ha pins s1 σ H1 Q I1 q1
 |false=>exact hb pins s1 σ H1 Q I1 q1
end
end L2
namespace L2
open PySem PySem.Spec PyProof.Rows
def ŝ(K:PySem.W.Frag)(H:Hp)(a:Addr)(xs:List V):Prop:=
 Rd H a (.lst xs)\/
  ∃(o:Obj) (its:Array Value) (n:Nat),K.lookup a=some o/\o.cls=.type "list" /\o.dict=none/\o.data=.seq its n/\its.size<=sizeLine/\Vals xs its.toList
def dh(K:PySem.W.Frag)(H:Hp)(a:Addr)(xs:List V):Prop:=
 Rd H a (.tup xs)\/
  ∃(o:Obj) (its:Array Value) (n:Nat),K.lookup a=some o/\o.cls=.type "tuple" /\o.data=.seq its n/\its.size<=sizeLine/\Vals xs its.toList
def Zcl:Value->Option V
 | .none=>some .non
 | .bool b=>some (.bl b)
 | .int i _=>some (.int i)
 | .str x _=>some (.str x)
 | .bytes b _=>some (.Mh b)
 | .float b _=>some (.flt b)
 | .ref a=>some (.ref a)
 | .type n=>some (.ty n)
 |_=>none
def RelV.abs{x:V}{u:Value}(r:RelV x u):Zcl u=some x:=by
 cases x with
 |non=>cases r;rfl
 |bl _=>cases r;rfl
 |int _=>obtain⟨t,rfl⟩:=r;rfl
 |str _=>obtain⟨t,rfl⟩:=r;rfl
 |Mh _=>obtain⟨t,rfl⟩:=r;rfl
 |flt _=>obtain⟨t,rfl⟩:=r;rfl
 |ref _=>cases r;rfl
 |ty _=>cases r;rfl
theorem RelV.inj{x y:V}{u:Value}(r:RelV x u)(q:RelV y u):x=y:=Option.some.inj (r.abs.symm.trans q.abs)
theorem Vals.inj:∀{xs ys:List V} {us:List Value},Vals xs us->Vals ys us->xs=ys
 |_,_,_,.nil,.nil=>rfl
 |_,_,_,.cons r t,.cons r' t'=>by rw[r.inj r',Vals.inj t t']
section
variable{X:Cx}{pins:List (Addr×Obj)}{σ:St}{H:Hp}{s:Shared}{a:Addr}{xs ys:List V}
def ŝ.of{K:PySem.W.Frag}(h:H a=some (.lst xs)):ŝ K H a xs:=.inl (.inl h)
def dh.of{K:PySem.W.Frag}(h:H a=some (.tup xs)):dh K H a xs:=.inl (.inl h)
def Inv.list(I:Inv X pins σ H s)(h:ŝ X.K H a xs):∃its:List Value,Vals xs its/\PlainL s.heap a its.toArray/\xs.length<=sizeLine:=by
 rcases h with h|⟨o,its,n,hk,hc,hd,hs,hz,r⟩
 ·obtain⟨z,its,n,r,e⟩:=h.ok I.hok
  exact⟨its,r,⟨_,n,e,rfl,rfl,rfl⟩,z⟩
 ·refine⟨its.toList,r,⟨o,n,I.kJ a o hk,hc,hd,by simpa using hs⟩,?_⟩
  have e:=r.length
  simp only[Array.length_toList] at e
  omega
def Inv.tuple(I:Inv X pins σ H s)(h:dh X.K H a xs):∃its:List Value,Vals xs its/\IsTup s.heap a its.toArray/\xs.length<=sizeLine:=by
 rcases h with h|⟨o,its,n,hk,hc,hs,hz,r⟩
 ·obtain⟨z,its,r,p⟩:=h.ok I.hok
  exact⟨its,r,p,z⟩
 ·refine⟨its.toList,r,⟨o,I.kJ a o hk,hc,n,by simpa using hs⟩,?_⟩
  have e:=r.length
  simp only[Array.length_toList] at e
  omega
def Inv.wD(I:Inv X pins σ H s)(h:ŝ X.K H a xs)(h':ŝ X.K H a ys):xs=ys:=by
 obtain⟨its,r,⟨o,n,e,_,_,d⟩,_⟩:=I.list h
 obtain⟨its',r',⟨o',n',e',_,_,d'⟩,_⟩:=I.list h'
 rw[e] at e';cases e'
 rw[d] at d'
 injection d' with d1 _
 have:its=its':=by simpa using congrArg Array.toList d1
 subst this
 exact r.inj r'
def Inv.CQ(I:Inv X pins σ H s)(h:dh X.K H a xs)(h':dh X.K H a ys):xs=ys:=by
 obtain⟨its,r,⟨o,e,_,n,d⟩,_⟩:=I.tuple h
 obtain⟨its',r',⟨o',e',_,n',d'⟩,_⟩:=I.tuple h'
 rw[e] at e';cases e'
 rw[d] at d'
 injection d' with d1 _
 have:its=its':=by simpa using congrArg Array.toList d1
 subst this
 exact r.inj r'
end
abbrev Cx.wish(X:Cx)(E:Value->Shared->Prop):Cx:={X with xe:=E}
abbrev Cx.ł(X:Cx):Cx:=X.wish λ_ _=>False
theorem Cx.Ok.wish{X:Cx}(ok:X.Ok)(E:Value->Shared->Prop):(X.wish E).Ok:=
 ⟨ok.mod,ok.kind,ok.glob,ok.blt,ok.above,ok.inj,ok.has,ok.cab,ok.hd,ok.frames,ok.stk,ok.exf,ok.bs,ok.Ep,ok.yO,ok.CP,ok.jC,ok.JN,ok.tb⟩
def Cx.Ok.dZ{X:Cx}{E:Value->Shared->Prop}(ok:(X.wish E).Ok):X.Ok:=
 ⟨ok.mod,ok.kind,ok.glob,ok.blt,ok.above,ok.inj,ok.has,ok.cab,ok.hd,ok.frames,ok.stk,ok.exf,ok.bs,ok.Ep,ok.yO,ok.CP,ok.jC,ok.JN,ok.tb⟩
section
variable{X:Cx}{pins:List (Addr×Obj)}{σ:St}{H:Hp}{s:Shared}{E:Value->Shared->Prop}
theorem Inv.wish(I:Inv X pins σ H s)(E:Value->Shared->Prop):Inv (X.wish E) pins σ H s:=⟨I.ok.wish E,I.os,I.bare,I.base,I.loc,I.cell,I.free,I.fJ,I.pin,I.hok,I.len⟩
theorem Inv.dZ(I:Inv (X.wish E) pins σ H s):Inv X pins σ H s:=⟨I.ok.dZ,I.os,I.bare,I.base,I.loc,I.cell,I.free,I.fJ,I.pin,I.hok,I.len⟩
theorem SP.dZ{D:Ends}{f:Flow}{s':Shared}(h:SP (X.wish E) pins D f s'):SP X pins D f s':=by
 cases f with
 |next=>obtain⟨σ',H',I,q⟩:=h;exact⟨σ',H',I.dZ,q⟩
 |brk=>obtain⟨σ',H',I,q⟩:=h;exact⟨σ',H',I.dZ,q⟩
 |cont=>obtain⟨σ',H',I,q⟩:=h;exact⟨σ',H',I.dZ,q⟩
 |ret u=>obtain⟨v,σ',H',I,r,q⟩:=h;exact⟨v,σ',H',I.dZ,r,q⟩
theorem PE.ł{e:Expr}{t:TE}(h:PE X.ł e t):PE X e t:=λpins s σ H Q I hw=>
 wpAny_mono (h pins s σ H Q (I.wish _) hw) (λ_ _ ⟨v,H',I',r,q⟩=>⟨v,H',I'.dZ,r,q⟩) λ_ _ z=>False.elim z
end
section
variable{X:Cx}{st:Stmt}{rest:List Stmt}{t u:TS}{e:Expr}{te:TE}{pos:Pos}
def XM:TS:=λD σ H=>D.nx σ H
def Zcm(t u:TS):TS:=λD σ H=>t {D with nx:=u D} σ H
def Ar:aB X [] XM:=λ_ _ σ H _ I h=>wpAny_execs_nil ⟨σ,H,I,h⟩
def ũ(h1:PS X st t)(h2:aB X rest u):aB X (st::rest) (Zcm t u):=by
 intro pins s σ H D I h
 refine wpAny_execs_cons (ņ (h1 pins s σ H {D with nx:=u D} I h) λf s1 q=>?_)
 cases f with
 |next=>
  obtain⟨σ',H',I',q⟩:=q
  exact h2 pins s1 σ' H' D I' q
 |ret v=>exact q
 |brk=>exact q
 |cont=>exact q
def cP(h1:PS X st t):aB X [st] t:=by
 intro pins s σ H D I h
 refine wpAny_execs_cons (ņ (h1 pins s σ H D I h) λf s1 q=>?_)
 cases f with
 |next=>exact wpAny_execs_nil q
 |ret v=>exact q
 |brk=>exact q
 |cont=>exact q
def Inv.quiet{pins:List (Addr×Obj)}{σ:St}{H:Hp}{s:Shared}(I:Inv X pins σ H s):interactive X.env=false:=by simp[interactive,I.ok.kind]
def mL(te:TE):TS:=λD σ H=>te σ H λ_ H1=>D.nx σ H1
def ľ(he:PE X e te)(hs:swapsWith e none pos.line X.env=pure false:=by rfl):PS X (.Expr e pos) (mL te):=by
 intro pins s σ H D I h
 exact wpAny_Expr_any (ņ (he pins s σ H _ I h) λv s1 ⟨x,H1,I1,r1,q1⟩=>⟨σ,H1,I1,q1⟩) I.quiet hs
def Zcn(te:TE):TS:=λD σ H=>te σ H D.rt
def RN(he:PE X e te):PS X (.Return (some e) pos) (Zcn te):=by
 intro pins s σ H D I h
 exact wpAny_Return_some (ņ (he pins s σ H _ I h) λv s1 ⟨x,H1,I1,r1,q1⟩=>⟨x,σ,H1,I1,r1,q1⟩)
def Zco(c:TT)(t u:TS):TS:=λD σ H=>c σ H λb H1=>if b=true then t D σ H1 else u D σ H1
def Es{c:Expr}{a b:List Stmt}{tc:TT}(hc:PT X c tc)(ha:aB X a t)(hb:aB X b u):PS X (.If c a b pos) (Zco tc t u):=by
 intro pins s σ H D I h
 refine wpAny_If (ņ (hc pins s σ H _ I h) λd s1 ⟨H1,I1,q1⟩=>?_)
 cases d with
 |true=>exact ha pins s1 σ H1 D I1 q1
 |false=>exact hb pins s1 σ H1 D I1 q1
def RP:TS:=λ_ _ _=>False
def Eu:PS X st RP:=λ_ _ _ _ _ _ h=>h.elim
end
abbrev TG:=V->St->Hp->(St->Hp->Prop)->Prop
abbrev Ew:=List V->St->Hp->(St->Hp->Prop)->Prop
def PG(X:Cx)(target:Expr)(t:TG):Prop:=
 ∀(pins:List (Addr×Obj)) (s:Shared) (σ:St) (H:Hp) (v:V) (u:Value) (Q:St->Hp->Prop),Inv X pins σ H s->RelV v u->t v σ H Q->
  wpAny (model X.prog X.w) X.A (assign target X.env u) (λ_ s'=>∃σ' H',Inv X pins σ' H' s'/\Q σ' H') X.xe s
def yI(X:Cx)(ts:List Expr)(t:Ew):Prop:=
 ∀(pins:List (Addr×Obj)) (s:Shared) (σ:St) (H:Hp) (vs:List V) (us:List Value) (Q:St->Hp->Prop),Inv X pins σ H s->Vals vs us->t vs σ H Q->
  wpAny (model X.prog X.w) X.A (assignInOrder ((assignEach ts X.env).map (·.2)) us) (λ_ s'=>∃σ' H',Inv X pins σ' H' s'/\Q σ' H') X.xe s
abbrev RQ:=V->V->V->Hp->(Hp->Prop)->Prop
def XQ(X:Cx)(t:RQ):Prop:=
 ∀(pins:List (Addr×Obj)) (s:Shared) (σ:St) (H:Hp) (o i v:V) (ov iv u:Value) (Q:Hp->Prop),Inv X pins σ H s->RelV o ov->RelV i iv->RelV v u->t o i v H Q->
  wpAny (model X.prog X.w) X.A (setItem ov iv u) (λ_ s'=>∃H',Inv X pins σ H' s'/\Q H') X.xe s
section
variable{X:Cx}{pos:Pos}
def cQ(i:Nat):TG:=λv σ H Q=>Q (σ.set i (some v)) H
def Ż{i:Nat}{x:Str}(hN:X.N.Nodup)(hi:X.N[i]?=some x)(hx:Loc X.env.scope x)(hf:X.fn x=true\/X.env.scope.names.lookup x=some .local:=by first|exact .inl rfl|exact .inr rfl|assumption):PG X (.Name x pos) (cQ i):=by
 intro pins s σ H v u Q I r h
 exact wpAny_assign_Name (wB I hN hi hx r (λs' I'=>⟨_,H,I',h⟩) hf)
def RT:Ew:=λvs σ H Q=>vs=[]/\Q σ H
def rP(t:TG)(u:Ew):Ew:=λvs σ H Q=>∃v r,vs=v::r/\t v σ H λσ' H'=>u r σ' H' Q
def jE:yI X [] RT:=by
 intro pins s σ H vs us Q I r h
 obtain⟨e,h⟩:=h
 subst e
 cases r
 exact assignInOrder_nil ⟨σ,H,I,h⟩
def Ş{e:Expr}{es:List Expr}{t:TG}{u:Ew}(h1:PG X e t)(h2:yI X es u)
 (hs:(assignEach (e::es) X.env).map (·.2)=assign e X.env::(assignEach es X.env).map (·.2):=by rfl):yI X (e::es) (rP t u):=by
 intro pins s σ H vs us Q I r h
 obtain⟨v,vr,e1,h⟩:=h
 subst e1
 cases r with
 |cons r rr=>
  rw[hs]
  refine assignInOrder_cons (ņ (h1 pins s σ H _ _ _ I r h) λ_ s1 ⟨σ1,H1,I1,q1⟩=>?_)
  exact h2 pins s1 σ1 H1 _ _ Q I1 rr q1
def RW(K:PySem.W.Frag)(n:Nat)(t:Ew):TG:=λv σ H Q=>∃a xs,v=.ref a/\dh K H a xs/\xs.length=n/\t xs σ H Q
def k_{es:List Expr}{k:Nat}{t:Ew}{n:Nat}(hc:X.calm=true)(h:yI X es t)
 (hn:(assignEach es X.env).length=n:=by rfl)(hst:(assignEach es X.env).findIdx? (·.1)=none:=by rfl):PG X (.Tuple es k pos) (RW X.K n t):=by
 intro pins s σ H v u Q I r hw
 obtain⟨a,xs,e1,hq,hl,hw⟩:=hw
 subst e1
 cases r
 obtain⟨its,rv,ht,hz⟩:=I.tuple hq
 refine assign_Tuple_tuple (I.ok.hd hc) ht (by simp[hn,<-hl,rv.length]) hst λh' hx=>?_
 have I1:Inv X pins σ H {s with heap:=h'}:=I.kept (t':=s.toks) λb o e=>hx b o (Nat.ne_of_lt (Heap.lt_size e)) e
 exact h pins _ σ H xs _ Q I1 (by simpa using rv) hw
def Zcp(to ti:TE)(t:RQ):TG:=λv σ H Q=>to σ H λo H1=>ti σ H1 λi H2=>t o i v H2 λH3=>Q σ H3
def RX{o i:Expr}{to ti:TE}{t:RQ}(ho:PE X o to)(hi:PE X i ti)(hs:XQ X t)
 (ha:∀v,assign (.Subscript o i pos) X.env v=(do
   let ov <-holding [v] (eval o X.env)
   let iv <-holding [v,ov] (eval i X.env)
   standAt pos
   holding [v,ov,iv] (setItem ov iv v)
   release [v,ov,iv] []):=by intro _;rfl):PG X (.Subscript o i pos) (Zcp to ti t):=by
 intro pins s σ H v u Q I r h
 rw[ha]
 refine wpAny_bind (wpAny_holding (ņ (ho pins s σ H _ I h) λov s1 ⟨x,H1,I1,r1,q1⟩=>?_))
 refine wpAny_bind (wpAny_holding (ņ (hi pins s1 σ H1 _ I1 q1) λiv s2 ⟨y,H2,I2,r2,q2⟩=>?_))
 refine wpAny_bind (wpAny_standAt (wpAny_bind (wpAny_holding (ņ (hs pins s2 σ H2 x y v ov iv u _ I2 r1 r2 r q2) λ_ s3 ⟨H3,I3,q3⟩=>?_))))
 exact wpAny_release ⟨σ,H3,I3,q3⟩
def yP(te:TE)(g:TG):TS:=λD σ H=>te σ H λx H1=>g x σ H1 D.nx
def Ey{tg e:Expr}{te:TE}{g:TG}(he:PE X e te)(hg:PG X tg g)(hs:swapsWithSole [tg] e pos.line X.env=pure false:=by rfl)(hw:swappedStores [tg] e X.env=pure none:=by rfl)
 (h1:(assignEach [tg] X.env).map (·.2)=[assign tg X.env]:=by rfl):PS X (.Assign [tg] e pos) (yP te g):=by
 intro pins s σ H D I h
 refine wpAny_Assign_stores (ņ (he pins s σ H _ I h) λv s1 ⟨x,H1,I1,r1,q1⟩=>?_) hs hw
 rw[h1]
 exact ņ (hg pins s1 σ H1 x v _ I1 r1 q1) λ_ s2 q=>q
def oX{i:Nat}{x:Str}{e:Expr}{te:TE}{pos':Pos}(hN:X.N.Nodup)(hi:X.N[i]?=some x)(hx:Loc X.env.scope x)(he:PE X e te)(hs:swapsWith e (some (.Name x pos')) pos.line X.env=pure false:=by rfl)(hf:X.fn x=true\/X.env.scope.names.lookup x=some .local:=by first|exact .inl rfl|exact .inr rfl|assumption) :
 PS X (.Assign [.Name x pos'] e pos) (yP te (cQ i)):=by
 intro pins s σ H D I h
 refine wpAny_Assign_Name (ņ (he pins s σ H _ I h) λv s1 ⟨y,H1,I1,r1,q1⟩=>?_) hs
 exact wB I1 hN hi hx r1 (λs2 I2=>⟨_,H1,I2,q1⟩) hf
end
section
variable{X:Cx}{pos:Pos}
def RZ(c:TT)(tb:TS):TS:=λD σ H=>∃W:Nat->St->Hp->Prop,(∃m,W m σ H)/\∀m σ H,W m σ H->
 c σ H λb H1=>if b=true then ∃N:St->Hp->Prop,(∀σ' H',N σ' H'->∃m',m'<m/\W m' σ' H')/\tb {D with nx:=N,ct:=N,bk:=D.nx} σ H1 else D.nx σ H1
def Ez{c:Expr}{body:List Stmt}{tc:TT}{tb:TS}(hp:PassesOwn (model X.prog X.w) X.A X.env X.xe)(hc:PT X c tc)(hb:aB X body tb):PS X (.While c body [] pos) (RZ tc tb):=by
 intro pins s σ H D I h
 obtain⟨W,⟨m0,w0⟩,turn⟩:=h
 refine wpAny_While (codeAny_whileLoop (λn s'=>∃σ' H',Inv X pins σ' H' s'/\W n σ' H') ?_ m0 ⟨σ,H,I,w0⟩)
 rintro n s1 ⟨σ1,H1,I1,w1⟩
 refine wpAny_passesOwn hp (ņ (hc pins s1 σ1 H1 _ I1 (turn n σ1 H1 w1)) λb s2 ⟨H2,I2,q2⟩=>?_)
 cases b with
 |true=>
  obtain⟨N,hN,q2⟩:=q2
  rw[if_pos rfl]
  refine wpAny_passesOwn hp (ņ (hb pins s2 σ1 H2 _ I2 q2) λf s3 q3=>?_)
  cases f with
  |next=>
   obtain⟨σ3,H3,I3,n3⟩:=q3
   obtain⟨m',hm,w3⟩:=hN σ3 H3 n3
   exact⟨m',hm,σ3,H3,I3,w3⟩
  |cont=>
   obtain⟨σ3,H3,I3,n3⟩:=q3
   obtain⟨m',hm,w3⟩:=hN σ3 H3 n3
   exact⟨m',hm,σ3,H3,I3,w3⟩
  |brk=>exact q3
  |ret v=>exact q3
 |false=>
  rw[if_neg Bool.false_ne_true]
  exact wpAny_execs_nil ⟨σ1,H2,I2,q2⟩
end
structure It where
 go:Nat->Hp->Prop
 XR:Nat->Hp->V->Hp->Prop
 stop:Nat->Hp->Prop
def iB(X:Cx)(pins:List (Addr×Obj))(H:Hp)(b:Addr):Prop:=
 H b=none/\b≠X.env.locals/\b∉X.fs/\(b∈X.ex\/X.s₀.heap.objs.size<=b)/\(∀x c,X.env.cells.lookup x=some c->c≠b)/\∀p∈X.pn++pins,p.1≠b
def Inv.EY{X:Cx}{pins:List (Addr×Obj)}{σ:St}{H H':Hp}{s:Shared}{b:Addr}(I:Inv X pins σ H s)(hb:s.heap.objs.size<=b)(hn:H' b=none):iB X pins H' b:=by
 refine⟨hn,Nat.ne_of_gt (Nat.lt_of_lt_of_le I.lt hb),I.Zch hb,.inr (Nat.le_trans I.sz hb),λx c e z=>?_,λp hp z=>?_⟩
 ·obtain⟨v,q⟩:=I.cell x c e
  exact absurd (Nat.lt_of_lt_of_le q.lt (by rw[z];exact hb)) (Nat.lt_irrefl _)
 ·exact absurd (Nat.lt_of_lt_of_le (Heap.lt_size (I.pin p hp).1) (by rw[z];exact hb)) (Nat.lt_irrefl _)
structure Turn(P:Program)(w:World)(K:PySem.W.Frag)(tg:Expr)(J:It)(fp:List Addr)(it:Addr)(tn:Nat->Heap->Prop):Prop where
 mem:it∈fp
 obj:∀i h,tn i h->∀b∈fp,∃o,h.get? b=some o/\∀v,o.data≠ .cell v
 keep:∀i h h',tn i h->(∀b∈fp,∀o,h.get? b=some o->h'.get? b=some o)->tn i h'
 item:∀(X:Cx),X.prog=P->X.w=w->X.K=K->X.calm=true->∀(i:Nat) (pins:List (Addr×Obj)) (s:Shared) (σ:St) (H:Hp) (E:Value->Shared->Prop),Inv X pins σ H s->(∀b∈fp,iB X pins H b)->tn i s.heap->J.go i H->
  wpAny (model P w) X.A (pyNext (.ref it)) (λr s1=>∃u,r=some u/\
   wpAny (model P w) X.A (letOwnedTupleGo tg (.ref it) u) (λ_ s2=>∃x H',Inv X pins σ H' s2/\RelV x u/\J.XR i H x H'/\tn (i+1) s2.heap/\∀b∈fp,H' b=none) E s1) E s
 done:∀(X:Cx),X.prog=P->X.w=w->X.K=K->X.calm=true->∀(i:Nat) (pins:List (Addr×Obj)) (s:Shared) (σ:St) (H:Hp) (E:Value->Shared->Prop),Inv X pins σ H s->(∀b∈fp,iB X pins H b)->tn i s.heap->J.stop i H->
  wpAny (model P w) X.A (pyNext (.ref it)) (λr s1=>r=none/\Inv X pins σ H s1) E s
 self:∀(A:Around) (i:Nat) (s:Shared) (Q:Value->Shared->Prop) (E:Value->Shared->Prop),tn i s.heap->Q (.ref it) s->wpAny (model P w) A (pyIter (.ref it)) Q E s
abbrev TI:=St->Hp->(It->Hp->Prop)->Prop
def PIE(X:Cx)(pins:List (Addr×Obj))(σ:St)(tg:Expr)(R:It->Hp->Prop)(itv:Value)(s2:Shared):Prop:=
 ∃(it:Addr) (fp:List Addr) (tn:Nat->Heap->Prop) (J:It) (H':Hp),itv=.ref it/\Inv X pins σ H' s2/\Turn X.prog X.w X.K tg J fp it tn/\tn 0 s2.heap/\(∀b∈fp,iB X pins H' b)/\R J H'
def PI(X:Cx)(tg iter:Expr)(wi:TI):Prop:=
 ∀(pins:List (Addr×Obj)) (s:Shared) (σ:St) (H:Hp) (R:It->Hp->Prop),Inv X pins σ H s->wi σ H R->
  wpAny (model X.prog X.w) X.A (eval iter X.env) (λv s1=>wpAny (model X.prog X.w) X.A (pyIter v) (PIE X pins σ tg R) X.xe s1) X.xe s
def Av{M:Model}{A:Around}{E:Value->Shared->Prop}{s:Shared}{tg:Expr}{it:Addr}{u:Value}{o:Obj}{n:String}{vs:Array Value}{Q:Unit->Shared->Prop}(ho:s.heap.get? it=some o)(hc:o.cls=.type n)(hd:o.data=.fields vs)
 (hn:["enumerate","zip","dict_itemiterator","dict_reverseitemiterator","odict_iterator","itertools.zip_longest","itertools.pairwise"].contains n=false)(hQ:Q () s):wpAny M A (letOwnedTupleGo tg (.ref it) u) Q E s:=by
 unfold letOwnedTupleGo
 cases tg<;>first
  |exact wpAny_pure hQ
  |(cases u<;>first
     |exact wpAny_pure hQ
     |(refine wpAny_bind (wpAny_load ho ?_)
       rw[hc,hd]
       show wpAny M A (if(["enumerate","zip","dict_itemiterator","dict_reverseitemiterator","odict_iterator","itertools.zip_longest","itertools.pairwise"].contains n && vs[0]?== some (rawInt _))=true then _ else _) Q E s
       rw[if_neg (by intro h;rw[hn,Bool.false_and] at h;cases h)]
       exact wpAny_pure hQ))
def XS(K:PySem.W.Frag)(a:Addr):It:=
 ⟨λi H=>∃xs x,ŝ K H a xs/\xs[i]?=some x,λi H x H'=>H'=H/\∀xs,ŝ K H a xs->xs[i]?=some x,λi H=>∃xs,ŝ K H a xs/\xs.length<=i⟩
def Itt(K:PySem.W.Frag)(a:Addr):It:=
 ⟨λi H=>∃xs x,dh K H a xs/\xs[i]?=some x,λi H x H'=>H'=H/\∀xs,dh K H a xs->xs[i]?=some x,λi H=>∃xs,dh K H a xs/\xs.length<=i⟩
def X_(lo:Int)(n:Nat):It:=⟨λi _=>i<n,λi H x H'=>H'=H/\x=.int (lo+i),λi _=>n<=i⟩
def CT{P:Program}{w:World}{K:PySem.W.Frag}{tg:Expr}(a it:Addr):Turn P w K tg (XS K a) [it] it (λi h=>h.IsListIter it a i) where
 mem:=by simp
 obj:=λi h st b hb=>by
  have e:b=it:=by simpa using hb
  subst e
  obtain⟨o,e,c,d⟩:=st
  exact⟨o,e,λv z=>by rw[d] at z;cases z⟩
 keep:=λi h h' st k=>st.at λo e=>k it (by simp) o e
 item:=by
  intro X hP hw hK hc i pins s σ H E I hf st hg
  subst hP hw hK
  obtain⟨xs,x,hq,hx⟩:=hg
  obtain⟨its,rv,p,hz⟩:=I.list hq
  obtain⟨u,hu,ru⟩:=rv.get hx
  obtain⟨f0,f1,f2,f3,f4,f5⟩:=hf it (by simp)
  refine wpAny_pyNext_list_item st p.isList (x:=u) (by simpa using hu) λh' st' sb=>?_
  have I1:Inv X pins σ H {s with heap:=h'}:=I.turned (t':=s.toks) (λb o hb e=>(sb.2 b hb).trans e) f0 f1 f3 f4 f5
  obtain⟨o,e,c,d⟩:=id st'
  exact⟨u,rfl,Av (s:={s with heap:=h'}) e c d (by decide) ⟨x,H,I1,ru,⟨rfl,λys hy=>by rw[I.wD hy hq];exact hx⟩,st',λb hb=>(hf b hb).1⟩⟩
 done:=by
  intro X hP hw hK hc i pins s σ H E I hf st hg
  subst hP hw hK
  obtain⟨xs,hq,hx⟩:=hg
  obtain⟨its,rv,p,hz⟩:=I.list hq
  obtain⟨f0,f1,f2,f3,f4,f5⟩:=hf it (by simp)
  have hl:=rv.length
  exact wpAny_pyNext_list_end (I.ok.hd hc) st p.isList (by simp;omega) λh' eb=>⟨rfl,I.turned (t':=s.toks) (λb o hb e=>eb b o hb e) f0 f1 f3 f4 f5⟩
 self:=λ_ _ _ _ _ st h=>wpAny_pyIter_listiter st h
def yQ{P:Program}{w:World}{K:PySem.W.Frag}{tg:Expr}(a it:Addr):Turn P w K tg (Itt K a) [it] it (λi h=>h.IsTupleIter it a i) where
 mem:=by simp
 obj:=λi h st b hb=>by
  have e:b=it:=by simpa using hb
  subst e
  obtain⟨o,e,c,d⟩:=st
  exact⟨o,e,λv z=>by rw[d] at z;cases z⟩
 keep:=λi h h' st k=>st.at λo e=>k it (by simp) o e
 item:=by
  intro X hP hw hK hc i pins s σ H E I hf st hg
  subst hP hw hK
  obtain⟨xs,x,hq,hx⟩:=hg
  obtain⟨its,rv,p,hz⟩:=I.tuple hq
  obtain⟨u,hu,ru⟩:=rv.get hx
  obtain⟨f0,f1,f2,f3,f4,f5⟩:=hf it (by simp)
  refine wpAny_pyNext_tuple_item st (show s.heap.IsTuple a its.toArray from p) (x:=u) (by simpa using hu) λh' st' sb=>?_
  have I1:Inv X pins σ H {s with heap:=h'}:=I.turned (t':=s.toks) (λb o hb e=>(sb.2 b hb).trans e) f0 f1 f3 f4 f5
  obtain⟨o,e,c,d⟩:=id st'
  exact⟨u,rfl,Av (s:={s with heap:=h'}) e c d (by decide) ⟨x,H,I1,ru,⟨rfl,λys hy=>by rw[I.CQ hy hq];exact hx⟩,st',λb hb=>(hf b hb).1⟩⟩
 done:=by
  intro X hP hw hK hc i pins s σ H E I hf st hg
  subst hP hw hK
  obtain⟨xs,hq,hx⟩:=hg
  obtain⟨its,rv,p,hz⟩:=I.tuple hq
  obtain⟨f0,f1,f2,f3,f4,f5⟩:=hf it (by simp)
  have hl:=rv.length
  exact wpAny_pyNext_tuple_end (I.ok.hd hc) st (show s.heap.IsTuple a its.toArray from p) (by simp;omega) λh' eb=>⟨rfl,I.turned (t':=s.toks) (λb o hb e=>eb b o hb e) f0 f1 f3 f4 f5⟩
 self:=λ_ _ _ _ _ st h=>wpAny_pyIter_tupleiter st h
def yR{P:Program}{w:World}{K:PySem.W.Frag}{tg:Expr}(it:Addr)(lo:Int)(n:Nat):Turn P w K tg (X_ lo n) [it] it (λi h=>IsRangeIter h it (lo+(i:Nat)*1) ((n:Int)-(i:Nat)) 1) where
 mem:=by simp
 obj:=λi h st b hb=>by
  have e:b=it:=by simpa using hb
  subst e
  exact⟨_,st,λv z=>by
   have z':Data.fields _=Data.cell v:=z
   cases z'⟩
 keep:=λi h h' st k=>k it (by simp) _ st
 item:=by
  intro X hP hw hK hc i pins s σ H E I hf st hg
  subst hP hw hK
  obtain⟨f0,f1,f2,f3,f4,f5⟩:=hf it (by simp)
  have W:=Walks.range (prog:=X.prog) (w:=X.w) (I.ok.hd hc) it lo 1 n
  refine W.item i s _ _ hg st λv h' tk hv st' kk=>?_
  obtain⟨t,rfl⟩:=hv
  have I1:Inv X pins σ H {s with heap:=h',toks:=tk}:=I.turned (λb o hb e=>kk b o (by simpa using hb) e) f0 f1 f3 f4 f5
  refine⟨_,rfl,Av (s:={s with heap:=h',toks:=tk}) (n:= "range_iterator") st' rfl rfl (by decide) ⟨.int (lo+i),H,I1,⟨t,?_⟩,⟨rfl,rfl⟩,st',λb hb=>(hf b hb).1⟩⟩
  rw[Int.mul_one]
 done:=by
  intro X hP hw hK hc i pins s σ H E I hf st hg
  subst hP hw hK
  obtain⟨f0,f1,f2,f3,f4,f5⟩:=hf it (by simp)
  exact wpAny_pyNext_range_end (I.ok.hd hc) st (by have:n<=i:=hg;omega) λh' eb=>⟨rfl,I.turned (t':=s.toks) (λb o hb e=>eb b o hb e) f0 f1 f3 f4 f5⟩
 self:=λ_ _ _ _ _ st h=>wpAny_pyIter_rangeiter st h
end L2
namespace L2
open PySem PySem.Spec PyProof.Rows
section
variable{X:Cx}{tg:Expr}
def wF{pins:List (Addr×Obj)}{σ:St}{H:Hp}{s:Shared}{R:It->Hp->Prop}{E:Value->Shared->Prop}{lo hi:Int}{t u v:Tok}{tk:Nat}(I:Inv X pins σ H s)(h1: -(2 ^ 62)<=lo)(h2:lo<2 ^ 62)(h3: -(2 ^ 62)<=hi)(h4:hi<2 ^ 62)
 (q:R (X_ lo (hi-lo).toNat) H):wpAny (model X.prog X.w) X.A (pyIter (.ref s.heap.objs.size)) (PIE X pins σ tg R) E {s with heap:=s.heap.push {cls:=.type "range",data:=.fields #[.int lo t,.int hi u,.int 1 v]},toks:=tk}:=by
 refine wpAny_pyIter_range (IsRange.new ..) (small_one h1 h2 h3 h4) ?_
 have I1:Inv X pins σ H {s with heap:=s.heap.push {cls:=.type "range",data:=.fields #[.int lo t,.int hi u,.int 1 v]},toks:=tk}:=I.kept λb o e=>Heap.get?_push_of_some _ e
 refine⟨(s.heap.push {cls:=.type "range",data:=.fields #[.int lo t,.int hi u,.int 1 v]}).objs.size,[(s.heap.push {cls:=.type "range",data:=.fields #[.int lo t,.int hi u,.int 1 v]}).objs.size],_,_,H,rfl,
  I1.kept (t':=tk) λb o e=>Heap.get?_push_of_some _ e,yR _ lo (hi-lo).toNat,?_,λb hb=>?_,q⟩
 ·have e1:lo+((0:Nat):Int)*1=lo:=by simp
  have e2:(((hi-lo).toNat:Nat):Int)-((0:Nat):Int)=Builtin.Range.rangeSize lo hi 1:=by rw[rangeSize_one];split<;>omega
  show IsRangeIter _ _ (lo+((0:Nat):Int)*1) ((((hi-lo).toNat:Nat):Int)-((0:Nat):Int)) 1
  rw[e1,e2]
  exact Heap.get?_push_size _ rfl
 ·have e:b=(s.heap.push {cls:=.type "range",data:=.fields #[.int lo t,.int hi u,.int 1 v]}).objs.size:=by simpa using hb
  subst e
  exact I1.EY (Nat.le_refl _) (I1.hok.fresh (Nat.le_refl _))
def Yb(ta:TA):TI:=λσ H R=>ta σ H λvs H1=>∃j:Int,vs=[.int j]/\ -(2 ^ 62)<=j/\j<2 ^ 62/\R (X_ 0 j.toNat) H1
def Yc(ta:TA):TI:=λσ H R=>ta σ H λvs H1=>∃i j:Int,vs=[.int i,.int j]/\(-(2 ^ 62)<=i/\i<2 ^ 62/\ -(2 ^ 62)<=j/\j<2 ^ 62)/\R (X_ i (j-i).toNat) H1
def CV{a:Expr}{ta:TA}{p pos:Pos}(hg:Gl X "range")(hm:X.mg "range" =none)(ha:PA X [a] ta)(hs:starEach [a] X.env=[(false,eval a X.env)]:=by rfl):PI X tg (.Call (.Name "range" p) [a] [] pos) (Yb ta):=by
 intro pins s σ H R I h
 refine Call_ (kZ I hg hm boot_range (PyProof.Rows.callWith_type1 (ņ (ha pos pins s σ H _ I h) λus s1 ⟨vs,H1,I1,r1,q1⟩=>?_) hs rfl))
 obtain⟨j,e,q1,q2,q⟩:=q1
 subst e
 cases r1 with
 |cons r rr=>
  cases rr
  obtain⟨t,rfl⟩:=r
  exact call_range_1 (wF I1 (by omega) (by omega) q1 q2 (by simpa using q))
def CW{a b:Expr}{ta:TA}{p pos:Pos}(hg:Gl X "range")(hm:X.mg "range" =none)(ha:PA X [a,b] ta)(hs:starEach [a,b] X.env=[(false,eval a X.env),(false,eval b X.env)]:=by rfl)(hs2:starEach [b] X.env=[(false,eval b X.env)]:=by rfl) :
 PI X tg (.Call (.Name "range" p) [a,b] [] pos) (Yc ta):=by
 intro pins s σ H R I h
 refine Call_ (kZ I hg hm boot_range (PyProof.Rows.callWith_type1 (ņ (ha pos pins s σ H _ I h) λus s1 ⟨vs,H1,I1,r1,q1⟩=>?_) (by rw[hs,hs2]) (by rw[hs2];rfl)))
 obtain⟨i,j,e,⟨q1,q2,q3,q4⟩,q⟩:=q1
 subst e
 cases r1 with
 |cons r rr=>
  cases rr with
  |cons r' rr=>
   cases rr
   obtain⟨t,rfl⟩:=r
   obtain⟨t',rfl⟩:=r'
   exact call_range_2 (wF I1 q1 q2 q3 q4 q)
def Zcq(wi:TI)(g:TG)(tb:TS):TS:=λD σ H=>wi σ H λJ H1=>∃W:Nat->Nat->St->Hp->Prop,(∃m,W 0 m σ H1)/\∀i m σ H,W i m σ H->
 (J.stop i H/\D.nx σ H)\/(J.go i H/\∃N:St->Hp->Prop,(∀σ' H',N σ' H'->∃m',m'<m/\W (i+1) m' σ' H')/\∀x H',J.XR i H x H'->g x σ H' λσ2 H2=>tb {D with nx:=N,ct:=N,bk:=D.nx} σ2 H2)
def lq(fp:List Addr)(h:Heap):List (Addr×Obj):=fp.filterMap λb=>(h.get? b).map λo=>(b,o)
def aV{fp:List Addr}{h:Heap}{b:Addr}{o:Obj}(hb:b∈fp)(e:h.get? b=some o):(b,o)∈lq fp h:=List.mem_filterMap.mpr ⟨b,hb,by rw[e];rfl⟩
def CZ{fp:List Addr}{h:Heap}{p:Addr×Obj}(hp:p∈lq fp h):p.1∈fp/\h.get? p.1=some p.2:=by
 obtain⟨b,hb,e⟩:=List.mem_filterMap.mp hp
 cases q:h.get? b with
 |none=>rw[q] at e;cases e
 |some o=>
  rw[q] at e
  have e':(b,o)=p:=Option.some.inj e
  subst e'
  exact⟨hb,q⟩
def Inv.pinned{pins:List (Addr×Obj)}{σ:St}{H:Hp}{s:Shared}{fp:List Addr}(I:Inv X pins σ H s)(hf:∀b∈fp,iB X pins H b)(ho:∀b∈fp,∃o,s.heap.get? b=some o/\∀v,o.data≠ .cell v):Inv X (pins++lq fp s.heap) σ H s:=
 I.Aq fun p hp=>(List.mem_append.mp hp).elim (fun z=>I.pin p (List.mem_append_right _ z)) fun z=>by
   obtain⟨hb,e⟩:=CZ z
   obtain⟨f0,f1,f2,_⟩:=hf p.1 hb
   obtain⟨o,e',d⟩:=ho p.1 hb
   rw[e] at e';cases e'
   exact⟨e,f0,f1,f2,d⟩
def Inv.gq{pins pl:List (Addr×Obj)}{σ:St}{H:Hp}{s:Shared}(I:Inv X (pins++pl) σ H s):Inv X pins σ H s:=I.Aq λp hp=>I.pin p (List.mem_append_right _ (List.mem_append_left _ hp))
def yS{iter:Expr}{body:List Stmt}{wi:TI}{g:TG}{tb:TS}{pos:Pos}(hp:PassesOwn (model X.prog X.w) X.A X.env X.xe)(hc:X.calm=true)(hi:PI X tg iter wi)(hg:PG X tg g)(hb:aB X body tb)
 (hs:∀x,foldedSetIterable iter X.env x=pure x:=by intro _;rfl):PS X (.For tg iter body [] pos) (Zcq wi g tb):=by
 intro pins s σ H D I h
 refine wpAny_For (ņ (hi pins s σ H _ I h) λv s1 h1=>ņ h1 λitv s2 h2=>?_) hs
 obtain⟨it,fp,tn,J,H2,e,I2,T,st2,f2,W,⟨m0,w0⟩,turn⟩:=h2
 subst e
 -- what stays true of the iterator's objects through the loop
 have stat:∀{H':Hp},(∀b∈fp,H' b=none)->∀b∈fp,iB X pins H' b:=λhn b hb=>⟨hn b hb,(f2 b hb).2⟩
 refine codeAny_forLoop_any (λn s'=>∃i σ' H',Inv X pins σ' H' s'/\tn i s'.heap/\(∀b∈fp,H' b=none)/\W i n σ' H') ?_ m0 ⟨0,σ,H2,I2,st2,λb hb=>(f2 b hb).1,w0⟩
 rintro n s3 ⟨i,σ3,H3,I3,st3,fr3,w3⟩
 rcases turn i n σ3 H3 w3 with⟨stop,qn⟩|⟨go,N,hN,step⟩
 ·refine wpAny_passesOwn hp (ņ (T.done X rfl rfl rfl hc i pins s3 σ3 H3 X.xe I3 (stat fr3) st3 stop) λr s4 ⟨hr,I4⟩=>?_)
  subst hr
  exact wpAny_execs_nil ⟨σ3,H3,I4,qn⟩
 ·refine wpAny_passesOwn hp (ņ (T.item X rfl rfl rfl hc i pins s3 σ3 H3 X.xe I3 (stat fr3) st3 go) λr s4 ⟨u,hr,h4⟩=>?_)
  subst hr
  refine wpAny_passesOwn hp (ņ h4 λ_ s5 ⟨x,H5,I5,r5,y5,JR,R_⟩=>?_)
  have I5':=I5.pinned (stat R_) (T.obj _ _ JR)
  refine wpAny_passesOwn hp (ņ (hg _ s5 σ3 H5 x u _ I5' r5 (step x H5 y5)) λ_ s6 ⟨σ6,H6,I6,q6⟩=>?_)
  refine wpAny_passesOwn hp (ņ (hb _ s6 σ6 H6 _ I6 q6) λf s7 q7=>?_)
  have again:∀{σ7:St} {H7:Hp},Inv X (pins++lq fp s5.heap) σ7 H7 s7->N σ7 H7->∃m,m<n/\∃i σ' H',Inv X pins σ' H' s7/\tn i s7.heap/\(∀b∈fp,H' b=none)/\W i m σ' H':=fun{σ7 H7} I7 n7=>by
   obtain⟨m',hm,w7⟩:=hN σ7 H7 n7
   refine⟨m',hm,i+1,σ7,H7,I7.gq,T.keep _ _ _ JR λb hb o e=>(I7.pin (b,o) (List.mem_append_right _ (List.mem_append_right _ (aV hb e)))).1,λb hb=>?_,w7⟩
   obtain⟨o,e,d⟩:=T.obj _ _ JR b hb
   exact(I7.pin (b,o) (List.mem_append_right _ (List.mem_append_right _ (aV hb e)))).2.1
  cases f with
  |next=>obtain⟨σ7,H7,I7,n7⟩:=q7;exact again I7 n7
  |cont=>obtain⟨σ7,H7,I7,n7⟩:=q7;exact again I7 n7
  |brk=>obtain⟨σ7,H7,I7,q7⟩:=q7;exact⟨σ7,H7,I7.gq,q7⟩
  |ret v=>obtain⟨x7,σ7,H7,I7,r7,q7⟩:=q7;exact⟨x7,σ7,H7,I7.gq,r7,q7⟩
end
end L2
namespace L2
open PySem PySem.Spec PyProof.Rows
abbrev R2:=V->V->Hp->VK->Prop
def aC(X:Cx)(f:Value->Value->Sem Value)(r:R2):Prop:=
 ∀(pins:List (Addr×Obj)) (s:Shared) (σ:St) (H:Hp) (x y:V) (v u:Value) (Q:VK),Inv X pins σ H s->RelV x v->RelV y u->r x y H Q->
  wpAny (model X.prog X.w) X.A (f v u) (EP X pins σ Q) X.xe s
def JT(X:Cx)(f:Value->Sem Value)(r:V->Hp->VK->Prop):Prop:=
 ∀(pins:List (Addr×Obj)) (s:Shared) (σ:St) (H:Hp) (x:V) (v:Value) (Q:VK),Inv X pins σ H s->RelV x v->r x H Q->
  wpAny (model X.prog X.w) X.A (f v) (EP X pins σ Q) X.xe s
def ő(X:Cx)(f:Value)(r:List V->Hp->VK->Prop):Prop:=
 ∀(pins:List (Addr×Obj)) (s:Shared) (σ:St) (H:Hp) (xs:List V) (us:List Value) (Q:VK),Inv X pins σ H s->Vals xs us->r xs H Q->
  wpAny (model X.prog X.w) X.A (call f us) (EP X pins σ Q) X.xe s
def Zcr(X:Cx)(r:V->Hp->(Bool->Hp->Prop)->Prop):Prop:=
 ∀(pins:List (Addr×Obj)) (s:Shared) (σ:St) (H:Hp) (x:V) (v:Value) (Q:Bool->Hp->Prop),Inv X pins σ H s->RelV x v->r x H Q->
  wpAny (model X.prog X.w) X.A (truthy v) (TP X pins σ Q) X.xe s
def Mi(r:R2)(ta tb:TE):TE:=λσ H Q=>ta σ H λx H1=>tb σ H1 λy H2=>r x y H2 Q
def tUn(r:V->Hp->VK->Prop)(ta:TE):TE:=λσ H Q=>ta σ H λx H1=>r x H1 Q
def rI(C:Int->Int->Prop)(g:Int->Int->V):R2:=λx y H Q=>∃i j,x=.int i/\y=.int j/\C i j/\Q (g i j) H
def Mj(g:Int->Int->V):R2:=λx y H Q=>∃i j,x=.int i/\y=.int j/\Q (g i j) H
def rU(g:Int->V):V->Hp->VK->Prop:=λx H Q=>∃i,x=.int i/\Q (g i) H
section
variable{X:Cx}{a b c:Expr}{ta tb tc:TE}{pos:Pos}
def Sd(ha:PE X a ta)(hb:PE X b tb){pins:List (Addr×Obj)}{s:Shared}{σ:St}{H:Hp}{R:V->V->Hp->Prop}(I:Inv X pins σ H s)
 (h:ta σ H λx H1=>tb σ H1 λy H2=>R x y H2){Q:Value->Shared->Prop}{f:Value->Value->Sem Value}
 (hf:∀v u s2 x y H2,Inv X pins σ H2 s2->RelV x v->RelV y u->R x y H2->wpAny (model X.prog X.w) X.A (f v u) Q X.xe s2) :
 wpAny (model X.prog X.w) X.A (eval a X.env) (λv s₁=>wpAny (model X.prog X.w) X.A (eval b X.env) (λu s₂=>wpAny (model X.prog X.w) X.A (f v u) Q X.xe s₂) X.xe s₁) X.xe s:=by
 refine ņ (ha pins s σ H _ I h) λv s1 ⟨x,H1,I1,r1,q1⟩=>?_
 refine ņ (hb pins s1 σ H1 _ I1 q1) λu s2 ⟨y,H2,I2,r2,q2⟩=>?_
 exact hf v u s2 x y H2 I2 r1 r2 q2
def Ml{op:Operator}{r:R2}(ho:aC X (binaryOp op) r)(ha:PE X a ta)(hb:PE X b tb):PE X (.BinOp a op b pos) (Mi r ta tb):=by
 intro pins s σ H Q I h
 exact wpAny_BinOp (Sd ha hb I h λv u s2 x y H2 I2 rx ry q=>ho pins s2 σ H2 x y v u Q I2 rx ry q)
def Mp{op:UnaryOp}{r:V->Hp->VK->Prop}(ho:JT X (unaryOp op) r)(ha:PE X a ta):PE X (.UnaryOp op a pos) (tUn r ta):=by
 intro pins s σ H Q I h
 exact UnaryOp_ (ņ (ha pins s σ H _ I h) λv s1 ⟨x,H1,I1,r1,q1⟩=>ho pins s1 σ H1 x v Q I1 r1 q1)
def Jy{f:Value->Value->Sem Value}{C:Int->Int->Prop}{g:Int->Int->Int}
 (rule:∀(i j:Int) (t u:Tok) (s:Shared) (Q:Value->Shared->Prop) (E:Value->Shared->Prop),C i j->Q (.int (g i j) s.toks) {s with toks:=s.toks+1}->wpAny (model X.prog X.w) X.A (f (.int i t) (.int j u)) Q E s) :
 aC X f (rI C λi j=>.int (g i j)):=by
 intro pins s σ H x y v u Q I rx ry h
 obtain⟨i,j,rfl,rfl,hc,q⟩:=h
 obtain⟨t,rfl⟩:=rx
 obtain⟨t',rfl⟩:=ry
 exact rule i j t t' s _ _ hc ⟨.int (g i j),H,I.tok _,⟨_,rfl⟩,q⟩
def C_{f:Value->Value->Sem Value}{g:Int->Int->Int}
 (rule:∀(i j:Int) (t u:Tok) (s:Shared) (Q:Value->Shared->Prop) (E:Value->Shared->Prop),Q (.int (g i j) s.toks) {s with toks:=s.toks+1}->wpAny (model X.prog X.w) X.A (f (.int i t) (.int j u)) Q E s) :
 aC X f (Mj λi j=>.int (g i j)):=by
 intro pins s σ H x y v u Q I rx ry h
 obtain⟨i,j,rfl,rfl,q⟩:=h
 obtain⟨t,rfl⟩:=rx
 obtain⟨t',rfl⟩:=ry
 exact rule i j t t' s _ _ ⟨.int (g i j),H,I.tok _,⟨_,rfl⟩,q⟩
def Sg{f:Value->Value->Sem Value}{g:Int->Int->Bool}
 (rule:∀(i j:Int) (t u:Tok) (s:Shared) (Q:Value->Shared->Prop) (E:Value->Shared->Prop),Q (.bool (g i j)) s->wpAny (model X.prog X.w) X.A (f (.int i t) (.int j u)) Q E s) :
 aC X f (Mj λi j=>.bl (g i j)):=by
 intro pins s σ H x y v u Q I rx ry h
 obtain⟨i,j,rfl,rfl,q⟩:=h
 obtain⟨t,rfl⟩:=rx
 obtain⟨t',rfl⟩:=ry
 exact rule i j t t' s _ _ ⟨.bl (g i j),H,I,rfl,q⟩
def Yd(i j:Int):Prop:=0<j/\j<1073741824
def Sh(i j:Int):Prop:=0<=j/\j<=1000000/\i.natAbs<2 ^ 64
def Sq(i j:Int):Prop:=(-(2 ^ 64)<i/\i<2 ^ 64)\/(-(2 ^ 64)<j/\j<2 ^ 64)
def Sq.ok{i j:Int}(h:Sq i j):IntMulOk i j:=by
 rcases h with⟨h1,h2⟩|⟨h1,h2⟩
 ·exact .of_left (intBits_le_64 h1 h2)
 ·exact .of_right (intBits_le_64 h1 h2)
def Ss:aC X (binaryOp .Add) (Mj λi j=>.int (i+j)):=C_ λ_ _ _ _ _ _ _ q=>add_int q
def Sv:aC X (binaryOp .Sub) (Mj λi j=>.int (i-j)):=C_ λ_ _ _ _ _ _ _ q=>sub_int q
def JV:aC X (binaryOp .Mod) (rI (λ_ j=>j≠0) λi j=>.int (i.fmod j)):=Jy λ_ _ _ _ _ _ _ hc q=>mod_int' hc q
def Sw:aC X (binaryOp .Pow) (rI Sh λi j=>.int (i ^ j.toNat)):=Jy λ_ _ _ _ _ _ _ hc q=>pow_int_small hc.1 hc.2.1 hc.2.2 q
def unI{f:Value->Sem Value}{g:Int->Int}
 (rule:∀(i:Int) (t:Tok) (s:Shared) (Q:Value->Shared->Prop) (E:Value->Shared->Prop),Q (.int (g i) s.toks) {s with toks:=s.toks+1}->wpAny (model X.prog X.w) X.A (f (.int i t)) Q E s) :
 JT X f (rU λi=>.int (g i)):=by
 intro pins s σ H x v Q I rx h
 obtain⟨i,rfl,q⟩:=h
 obtain⟨t,rfl⟩:=rx
 exact rule i t s _ _ ⟨.int (g i),H,I.tok _,⟨_,rfl⟩,q⟩
def E_:JT X (unaryOp .USub) (rU λi=>.int (-i)):=unI λ_ _ _ _ _ q=>neg_int q
end
section
variable{X:Cx}{a b c:Expr}{ta tb tc:TE}{pos:Pos}
def Sx{pins:List (Addr×Obj)}{σ:St}{H:Hp}{s:Shared}{Q:VK}{k k':Bool}(I:Inv X pins σ H s)(q:Q (.bl k) H)(e:k=k'):EP X pins σ Q (.bool k') s:=by
 subst e
 exact⟨.bl k,H,I,rfl,q⟩
def Ye:aC X (compareOp .Lt) (Mj λi j=>.bl (decide (i<j))):=Sg λ_ _ _ _ _ _ _ q=>lt_int q
def Yg:aC X (compareOp .LtE) (Mj λi j=>.bl (decide (i<=j))):=Sg λ_ _ _ _ _ _ _ q=>le_int q
def Yh:aC X (compareOp .Gt) (Mj λi j=>.bl (decide (j<i))):=Sg λ_ _ _ _ _ _ _ q=>gt_int q
def uw:aC X (compareOp .Is) (λx y H Q=>y=.non/\Q (.bl (decide (x=.non))) H):=by
 intro pins s σ H x y v u Q I rx ry h
 obtain⟨rfl,q⟩:=h
 cases ry
 refine is_none_gen (Sx I q ?_)
 cases x<;>first
  |(cases rx;rfl)
  |(obtain⟨t,rfl⟩:=rx;rfl)
def aC.or{f:Value->Value->Sem Value}{r r':R2}(h:aC X f r)(h':aC X f r'):aC X f (λx y H Q=>r x y H Q\/r' x y H Q):=by
 intro pins s σ H x y v u Q I rx ry q
 rcases q with q|q
 ·exact h pins s σ H x y v u Q I rx ry q
 ·exact h' pins s σ H x y v u Q I rx ry q
def Ŷ(b:Expr){op:CmpOp}(h:op≠ .In:=by decide)(h2:op≠ .NotIn:=by decide):behindInMarks op b=false:=by
 have e1:(op== CmpOp.In)=false:=by cases op<;>first|rfl|exact absurd rfl h
 have e2:(op== CmpOp.NotIn)=false:=by cases op<;>first|rfl|exact absurd rfl h2
 cases b<;>simp[behindInMarks,e1,e2]
def JW{op:CmpOp}{r:R2}(ho:aC X (compareOp op) r)(ha:PE X a ta)(hb:PE X b tb)(hm:behindInMarks op b=false):PE X (.Compare a [op] [b] pos) (Mi r ta tb):=by
 intro pins s σ H Q I h
 exact wpAny_Compare1 (Sd ha hb I h λv u s2 x y H2 I2 rx ry q=>ho pins s2 σ H2 x y v u Q I2 rx ry q) hm
def Sy(K:PySem.W.Frag)(x:V)(H:Hp)(k:Bool):Prop:=
 match x with
 | .non=>k=false
 | .bl b=>k=b
 | .int i=>k=(i != 0)
 | .str y=>y.length<=sizeLine/\k=((y.length:Int) != 0)
 | .Mh y=>y.size<=sizeLine/\k=((y.size:Int) != 0)
 | .ref p=>(∃xs,ŝ K H p xs/\k=!xs.isEmpty)\/(∃xs,dh K H p xs/\k=!xs.isEmpty)\/∃kvs,H p=some (.dK kvs)/\k=!kvs.isEmpty
 |_=>False
def yU{κ:Type}{kvs:List (κ×V)}{vs:List (κ×Value)}(r:KV kvs vs):(!vs.isEmpty)=!kvs.isEmpty:=by
 cases r<;>rfl
def oY{xs:List V}{its:List Value}(r:Vals xs its):(!its.toArray.isEmpty)=!xs.isEmpty:=by
 cases r<;>simp
def lu:(sizeLine:Nat)<2 ^ 63:=by rw[sizeLine_eq];decide
def SJ:Zcr X (λx H Q=>∃k,Sy X.K x H k/\Q k H):=by
 intro pins s σ H x v Q I rx h
 obtain⟨k,e,q⟩:=h
 have hl:=lu
 have hs:sizeLine=16777216:=sizeLine_eq
 cases x with
 |non=>
  cases rx
  have e':k=false:=e
  subst e'
  exact truthy_none ⟨H,I,q⟩
 |bl b=>
  cases rx
  have e':k=b:=e
  subst e'
  exact wpAny_truthy_bool ⟨H,I,q⟩
 |int i=>
  obtain⟨t,rfl⟩:=rx
  have e':k=(i != 0):=e
  subst e'
  exact PySem.P.truthy_int ⟨H,I,q⟩
 |str y=>
  obtain⟨t,rfl⟩:=rx
  obtain⟨hy,e'⟩:y.length<=sizeLine/\k=((y.length:Int) != 0):=e
  subst e'
  exact PySem.P.truthy_str (by omega) ⟨H,I.tok _,q⟩
 |Mh y=>
  obtain⟨t,rfl⟩:=rx
  obtain⟨hy,e'⟩:y.size<=sizeLine/\k=((y.size:Int) != 0):=e
  subst e'
  exact PySem.W.truthy_bytes (by omega) ⟨H,I.tok _,q⟩
 |ref p=>
  cases rx
  have e':(∃xs,ŝ X.K H p xs/\k=!xs.isEmpty)\/(∃xs,dh X.K H p xs/\k=!xs.isEmpty)\/∃kvs,H p=some (.dK kvs)/\k=!kvs.isEmpty:=e
  rcases e' with⟨xs,hx,e'⟩|⟨xs,hx,e'⟩|⟨kvs,hx,e'⟩
  ·subst e'
   obtain⟨its,r,pl,hz⟩:=I.list hx
   have hlen:=r.length
   exact wpAny_truthy_list pl.isList (by simp only[List.size_toArray];omega) ⟨H,I.tok _,by rw[oY r];exact q⟩
  ·subst e'
   obtain⟨its,r,pl,hz⟩:=I.tuple hx
   have hlen:=r.length
   exact truthy_tuple pl (by simp only[List.size_toArray];omega) ⟨H,I.tok _,by rw[oY r];exact q⟩
  ·subst e'
   obtain⟨hz,hS,vs,r,m⟩:kvs.length<=sizeLine/\(p== sysModules)=false/\∃vs,KV kvs vs/\s.heap.DictOf (um X.prog X.w) p vs:=I.hok p _ hx
   have hlen:kvs.length=vs.length:=Paired.length r
   exact wpAny_truthy_dict hS m (by omega) ⟨H,I.tok _,by rw[yU r];exact q⟩
 |_=>exact(show False from e).elim
def Fb(ha:PE X a ta)(he:∀whole,isTrue a X.env whole=(do let v <-whole;standAt a.pos;holding [v] (truthy v))) :
 PT X a (λσ H Q=>ta σ H λx H'=>∃k,Sy X.K x H' k/\Q k H'):=by
 intro pins s σ H Q I h
 exact isTrue_plain (ņ (ha pins s σ H _ I h) λv s1 ⟨x,H1,I1,r1,q1⟩=>SJ pins s1 σ H1 x v Q I1 r1 q1) (he _)
def yV:aC X (binaryOp .Add) (λx y H Q=>∃i j,x=.str i/\y=.str j/\i.length+j.length<=sizeLine/\Q (.str (i++j)) H):=by
 intro pins s σ H x y v u Q I rx ry h
 obtain⟨i,j,rfl,rfl,hz,q⟩:=h
 obtain⟨t,rfl⟩:=rx
 obtain⟨t',rfl⟩:=ry
 exact add_str (λt' tk=>⟨.str (i++j),H,I.tok _,⟨_,rfl⟩,q⟩) hz
def vals1{x:V}{us:List Value}(r:Vals [x] us):∃u,us=[u]/\RelV x u:=by
 cases r with
 |cons r1 r2=>cases r2;exact⟨_,rfl,r1⟩
def vals2{x y:V}{us:List Value}(r:Vals [x,y] us):∃u w',us=[u,w']/\RelV x u/\RelV y w':=by
 cases r with
 |cons r1 r2=>
  cases r2 with
  |cons r3 r4=>cases r4;exact⟨_,_,rfl,r1,r3⟩
def Fd:ő X (.builtin "abs") (λxs H Q=>∃i,xs=[.int i]/\Q (.int (if i<0 then -i else i)) H):=by
 intro pins s σ H xs us Q I r h
 obtain⟨i,rfl,q⟩:=h
 obtain⟨u,rfl,t,rfl⟩:=vals1 r
 exact call_abs_int λu tk=>⟨.int (if i<0 then -i else i),H,I.tok _,⟨_,rfl⟩,q⟩
def Dc:ő X (.type "int") (λxs H Q=>(∃i,xs=[.int i]/\Q (.int i) H)\/∃k,xs=[.bl k]/\Q (.int (if k then 1 else 0)) H):=by
 intro pins s σ H xs us Q I r h
 rcases h with⟨i,rfl,q⟩|⟨k,rfl,q⟩
 ·obtain⟨u,rfl,t,rfl⟩:=vals1 r
  exact call_int_int ⟨.int i,H,I,⟨_,rfl⟩,q⟩
 ·obtain⟨u,rfl,r1⟩:=vals1 r
  cases r1
  exact call_int_bool ⟨.int (if k then 1 else 0),H,I.tok _,⟨_,rfl⟩,q⟩
def ux:ő X (.type "str") (λxs H Q=>∃i,xs=[.int i]/\i.natAbs.log2<1920/\Q (.str (toString i)) H):=by
 intro pins s σ H xs us Q I r h
 obtain⟨i,rfl,hz,q⟩:=h
 obtain⟨u,rfl,t,rfl⟩:=vals1 r
 exact PySem.P.str_of_int hz ⟨.str _,H,I.tok _,⟨_,rfl⟩,q⟩
def Zcs(K:PySem.W.Frag)(x:V)(H:Hp)(n:Nat):Prop:=
 match x with
 | .str y=>y.length<=sizeLine/\n=y.length
 | .Mh y=>y.size<=sizeLine/\n=y.size
 | .ref p=>(∃xs,ŝ K H p xs/\n=xs.length)\/∃xs,dh K H p xs/\n=xs.length
 |_=>False
def Fe:ő X (.builtin "len") (λxs H Q=>∃x n,xs=[x]/\Zcs X.K x H n/\Q (.int n) H):=by
 intro pins s σ H xs us Q I r h
 obtain⟨x,n,rfl,e,q⟩:=h
 obtain⟨u,rfl,rx⟩:=vals1 r
 have hl:=lu
 have hs:sizeLine=16777216:=sizeLine_eq
 cases x with
 |str y=>
  obtain⟨t,rfl⟩:=rx
  obtain⟨hy,e'⟩:y.length<=sizeLine/\n=y.length:=e
  subst e'
  exact len_str (by omega) ⟨.int _,H,I.tok _,⟨_,rfl⟩,q⟩
 |Mh y=>
  obtain⟨t,rfl⟩:=rx
  obtain⟨hy,e'⟩:y.size<=sizeLine/\n=y.size:=e
  subst e'
  exact PySem.W.len_bytes (by omega) ⟨.int _,H,I.tok _,⟨_,rfl⟩,q⟩
 |ref p=>
  cases rx
  have e':(∃xs,ŝ X.K H p xs/\n=xs.length)\/∃xs,dh X.K H p xs/\n=xs.length:=e
  rcases e' with⟨xs,hx,e'⟩|⟨xs,hx,e'⟩
  ·subst e'
   obtain⟨its,r',pl,hz⟩:=I.list hx
   have hlen:=r'.length
   exact Calls.call_len_list pl.isList (by simp only[List.size_toArray];omega) ⟨.int xs.length,H,I.tok _,⟨_,by simp only[List.size_toArray];rw[hlen]⟩,q⟩
  ·subst e'
   obtain⟨its,r',pl,hz⟩:=I.tuple hx
   have hlen:=r'.length
   exact len_tuple pl (by simp only[List.size_toArray];omega) ⟨.int xs.length,H,I.tok _,⟨_,by simp only[List.size_toArray];rw[hlen]⟩,q⟩
 |_=>exact(show False from e).elim
def wG:ő X (.builtin "divmod") (λxs H Q=>∃i j,xs=[.int i,.int j]/\Yd i j/\∀p,H p=none->Q (.ref p) (upd H p (.tup [.int (i / j),.int (i % j)]))):=by
 intro pins s σ H xs us Q I r h
 obtain⟨i,j,rfl,⟨h1,h2⟩,q⟩:=h
 obtain⟨u,w',rfl,⟨t,rfl⟩,⟨t',rfl⟩⟩:=vals2 r
 refine divmod_int (by omega) ?_ (.inl (PyProof.noPylong_small (by omega)))
 rw[Int.fdiv_eq_ediv_of_nonneg i (by omega),Int.fmod_eq_emod_of_nonneg i (by omega)]
 have hn:H s.heap.objs.size=none:=I.hok.fresh (Nat.le_refl _)
 refine⟨.ref s.heap.objs.size,_,?_,rfl,q _ hn⟩
 refine I.laid (λb o e=>Heap.get?_push_of_some _ e) (Nat.le_refl _) ⟨by simp only[List.length_cons,List.length_nil];rw[sizeLine_eq];decide,[.int (i / j) s.toks,.int (i % j) (s.toks+1)],.cons ⟨_,rfl⟩ (.cons ⟨_,rfl⟩ .nil),?_⟩
 exact⟨_,Heap.get?_push_size s.heap rfl,rfl,0,rfl⟩
end
end L2
namespace L2
open PySem PySem.Spec PyProof.Rows
structure yW(h:Heap)(x dx C:Addr)(mA:Str->Option Value):Prop where
 obj:h.get? x=some (PySem.W.instObj C dx)
 ns:h.Ns1 dx mA
 ne:dx≠x
def Dd{h:Heap}{dx:Addr}{mA:Str->Option Value}(n:h.Ns1 dx mA):∃od,h.get? dx=some od/\∀name,PySem.W.lookIn name od=some (mA name):=by
 obtain⟨o,es,ep,ho,hd,hk,_,hm⟩:=n
 refine⟨o,ho,λname=>?_⟩
 have e:=hm name
 unfold nsFind findBy at e
 rw[<-Array.find?_toList] at e
 unfold PySem.W.lookIn
 rw[hd]
 dsimp only
 split
 ·rename_i y q
  rw[q] at e
  exact congrArg some e
 ·rename_i q
  rw[q] at e
  have a:es.toList.any (·.refKey)=false:=by
   rw[List.any_eq_false]
   intro y hy
   obtain⟨z,t,hkey⟩:=hk y (Array.mem_toList_iff.mp hy)
   simp[DictEntry.refKey,hkey]
  have a':¬es.toList.any (·.refKey)=true:=by rw[a];exact Bool.false_ne_true
  rw[if_neg a']
  exact congrArg some e
def yW.look{h:Heap}{x dx C:Addr}{mA:Str->Option Value}(I:yW h x dx C mA):∃od,PySem.W.InstAt h x (PySem.W.instObj C dx) C (some od)/\∀name,PySem.W.lookIn name od=some (mA name):=
 let ⟨od,ho,hl⟩:=Dd I.ns
 ⟨od,⟨I.obj,rfl,rfl,ho⟩,hl⟩
section
variable{prog:Program}{w:World}{A:Around}{E:Value->Shared->Prop}{s:Shared}{K:PySem.W.Frag}{x dx C f:Addr}{mA:Str->Option Value}{name:Str}{v:Value}
def get_map{expr:Bool}{Q:Value->Shared->Prop}(X:K.In s.heap)(I:yW s.heap x dx C mA)(hg:PySem.W.plainGet K C name=true)(hh:PySem.W.hasDictIn K C=true)
 (ha:PySem.W.findIn K (.ref C) name=some none)(hv:mA name=some v)(hv':PySem.W.handedIn v=true)(h:Q v {s with toks:=s.toks+1}) :
 wpAny (model prog w) A (getAttr (.ref x) name expr) Q E s:=by
 obtain⟨od,J,hl⟩:=I.look
 exact PySem.W.get_value X J (PySem.W.plainGet_of hg).1 (PySem.W.findObj_own hh ha rfl (by rw[hl,hv])) hv' h
def Fg{pl:Sem Bool}{Q:Value×List Value->Shared->Prop}(X:K.In s.heap)(I:yW s.heap x dx C mA)(hg:PySem.W.plainGet K C name=true)
 (hf:PySem.W.findIn K (.ref C) name=some (some (.ref f)))(ht:PySem.W.isFn K (.ref f)=true)(hv:mA name=none)(h:Q (.ref f,[.ref x]) s) :
 wpAny (model prog w) A (getMethod (.ref x) name pl) Q E s:=by
 obtain⟨od,J,hl⟩:=I.look
 exact PySem.W.method_fn X J (PySem.W.plainGet_of hg).1 (PySem.W.plainGet_of hg).2 hf (beq_iff_eq.mp ht) (by show(PySem.W.lookIn name od).map (·.isSome)=some false;rw[hl,hv];rfl) h
def JX{ns:List Str}{Q:Unit->Shared->Prop}(X:K.In s.heap)(I:yW s.heap x dx C mA)
 (hs:PySem.W.findIn K (.ref C) "__setattr__" =some (some (.builtin "object.__setattr__")))(hp:PySem.W.plainOver K C=true)(ht:PySem.W.takerIn K C name=some none)(hh:PySem.W.hasDictIn K C=true)
 (hw:PySem.Within mA ns)(hsz:ns.length<=sizeLine)
 (h:∀h',yW h' x dx C (λy=>if y=name then some v else mA y)->Heap.SameBut dx s.heap h'->Q () {s with heap:=h',toks:=s.toks+2}) :
 wpAny (model prog w) A (setAttr (.ref x) name v) Q E s:=by
 obtain⟨od,J,hl⟩:=I.look
 refine PySem.W.set_plain X J hs (PySem.W.osa_open (s:={s with toks:=s.toks+1}) (r:=none) X J hp ht λb=>?_)
 obtain⟨cd,hc,hd'⟩:=PySem.W.any_some hh
 have hx:s.heap.get? x=some ⟨.ref C,some dx,.plain,#[]⟩:=I.obj
 refine wpAny_bind (wpAny_pure (wpAny_bind (wpAny_bind (wpAny_loadPart hx (wpAny_bind (PySem.W.Looks.here (s:={s with toks:=s.toks+1}) (PySem.W.looks_clsIn X hc) ?_))))))
 rw[hd']
 refine wpAny_pure (a:=some dx) (wpAny_bind (wpAny_pure (wpAny_bind ?_)))
 refine wpAny_nsSet1 (s:={s with toks:=s.toks+1}) I.ns λh' hn2 hs2=>?_
 obtain⟨oD,esD,epD,hoD,hdD,hcD⟩:=hn2.count (PySem.Within.cons name v hw)
 refine wpAny_bind (wpAny_lookBehind hoD (by rw[hdD];exact pastItsLine_dict (Nat.le_trans hcD (by rw[List.length_cons];omega))) ?_)
 exact wpAny_pure (h _ ⟨(hs2.2 _ (Ne.symm I.ne)).trans I.obj,hn2,I.ne⟩ hs2)
def Fi{R:Result->Shared->Prop}{vs:List Value}{kw:List (Str×Value)}(X:K.In s.heap)(hm:PySem.W.makesIn K C=true)
 (hi:PySem.W.findIn K (.ref C) "__init__" =some (some (.ref f)))(hf:PySem.W.typeIn K (.ref f)=some (.type "function"))
 (h:codeAny (model prog w) (A.under (.builtin "type.__call__" ⟨.ref C::vs,kw⟩)) (.call (.ref f) ⟨.ref (s.heap.objs.size+1)::vs,kw⟩) (PySem.W.InitBack (s.heap.objs.size+1) R)
   {s with heap:=(s.heap.push PySem.W.emptyDict).push (PySem.W.instObj C s.heap.objs.size)}) :
 codeAny (model prog w) A (.call (.ref C) ⟨vs,kw⟩) R s:=by
 obtain⟨hh,g,d,t,os⟩:=s
 exact PySem.W.make_core (PySem.W.makes_of X hm) (PySem.W.looks_findIn X hi) (λself=>PySem.W.bind_fn X self hf) (.inl rfl) h
end
def eE(f:Str)(v:V):List (Str×V)->List (Str×V)
 | []=>[(f,v)]
 |(g,x)::r=>if g=f then(g,v)::r else(g,x)::eE f v r
theorem mO(f g:Str)(v:V):∀fs:List (Str×V),(eE f v fs).lookup g=if g=f then some v else fs.lookup g
 | []=>by
   show List.lookup g [(f,v)]=_
   by_cases h:g=f
   ·have hb:(g== f)=true:=beq_iff_eq.mpr h
    simp only[List.lookup,hb,if_pos h]
   ·have hb:(g== f)=false:=beq_eq_false_iff_ne.mpr h
    simp only[List.lookup,hb,if_neg h]
 |(k,x)::r=>by
  have ih:=mO f g v r
  rw[show eE f v ((k,x)::r)=(if k=f then(k,v)::r else(k,x)::eE f v r) from rfl]
  by_cases hk:k=f
  ·rw[if_pos hk]
   by_cases h:g=k
   ·have hb:(g== k)=true:=beq_iff_eq.mpr h
    simp only[List.lookup,hb,if_pos (h.trans hk)]
   ·have hb:(g== k)=false:=beq_eq_false_iff_ne.mpr h
    simp only[List.lookup,hb,if_neg (λe:g=f=>h (e.trans hk.symm))]
  ·rw[if_neg hk]
   by_cases h:g=k
   ·have hb:(g== k)=true:=beq_iff_eq.mpr h
    simp only[List.lookup,hb,if_neg (λe:g=f=>hk (h.symm.trans e))]
   ·have hb:(g== k)=false:=beq_eq_false_iff_ne.mpr h
    simp only[List.lookup,hb]
    exact ih
theorem lA(f:Str)(v:V):∀fs:List (Str×V),f∈(eE f v fs).map (·.1)/\∀g,g∈fs.map (·.1)->g∈(eE f v fs).map (·.1)
 | []=>⟨by simp[eE],λg h=>by simp at h⟩
 |(k,x)::r=>by
  obtain⟨i1,i2⟩:=lA f v r
  rw[show eE f v ((k,x)::r)=(if k=f then(k,v)::r else(k,x)::eE f v r) from rfl]
  by_cases hk:k=f
  ·rw[if_pos hk]
   subst hk
   exact⟨by simp,λg h=>by simpa using h⟩
  ·rw[if_neg hk]
   refine⟨?_,λg h=>?_⟩
   ·rw[List.map_cons]
    exact List.mem_cons_of_mem _ i1
   ·rw[List.map_cons] at h ⊢
    rcases List.mem_cons.mp h with e|e
    ·exact List.mem_cons.mpr (.inl e)
    ·exact List.mem_cons_of_mem _ (i2 g e)
theorem mQ(f:Str)(v:V):∀fs:List (Str×V),(eE f v fs).length<=fs.length+1
 | []=>by simp[eE]
 |(k,x)::r=>by
  have ih:=mQ f v r
  rw[show eE f v ((k,x)::r)=(if k=f then(k,v)::r else(k,x)::eE f v r) from rfl]
  by_cases hk:k=f
  ·rw[if_pos hk,List.length_cons,List.length_cons];omega
  ·rw[if_neg hk,List.length_cons,List.length_cons];omega
def qT.some_of{v:V}{o:Option Value}(r:qT (some v) o):∃u,o=some u/\RelV v u:=by
 cases o with
 |none=>exact(show False from r).elim
 |some u=>exact⟨u,rfl,r⟩
def qT.none_of{o:Option Value}(r:qT none o):o=none:=by
 cases o with
 |none=>rfl
 |some u=>exact(show False from r).elim
def Dg{v:V}{u:Value}(r:RelV v u):PySem.W.handedIn u=true:=by
 cases v with
 |non=>cases(show u=Value.none from r);rfl
 |bl b=>cases(show u=Value.bool b from r);rfl
 |int i=>obtain⟨t,e⟩:=(show ∃t,u=Value.int i t from r);cases e;rfl
 |str x=>obtain⟨t,e⟩:=(show ∃t,u=Value.str x t from r);cases e;rfl
 |Mh b=>obtain⟨t,e⟩:=(show ∃t,u=Value.bytes b t from r);cases e;rfl
 |flt b=>obtain⟨t,e⟩:=(show ∃t,u=Value.float b t from r);cases e;rfl
 |ref a=>cases(show u=Value.ref a from r);rfl
 |ty n=>cases(show u=Value.type n from r);rfl
section
variable{P:Program}{w:World}{H H':Hp}{h h':Heap}{a C dx:Addr}{fs fs':List (Str×V)}
def oA(hok:jB P w H h)(e:H a=some (.ins C dx fs)):∃mA,yW h a dx C mA/\(∀f,qT (fs.lookup f) (mA f))/\PySem.Within mA (fs.map (·.1))/\fs.length<=1000/\H dx=some (.own a):=by
 obtain⟨d,z,ne,ob,mA,n,r,q⟩:=(show aj P w H h a (.ins C dx fs) from hok a _ e)
 exact⟨mA,⟨ob,n,ne⟩,r,q,z,d⟩
end
structure Cls(K:PySem.W.Frag)(C:Addr):Prop where
 pg:PySem.W.plainGet K C Str.empty=true
 hd:PySem.W.hasDictIn K C=true
 po:PySem.W.plainOver K C=true
 sa:PySem.W.findIn K (.ref C) "__setattr__" =some (some (.builtin "object.__setattr__"))
def Cls.get{K:PySem.W.Frag}{C:Addr}(c:Cls K C)(f:Str):PySem.W.plainGet K C f=true:=c.pg
def İ(K:PySem.W.Frag)(C:Addr)(f:Str):Prop:=PySem.W.findIn K (.ref C) f=some none
def İ.taker{K:PySem.W.Frag}{C:Addr}{f:Str}(n:İ K C f):PySem.W.takerIn K C f=some none:=by
 unfold PySem.W.takerIn
 rw[show PySem.W.findIn K (.ref C) f=some none from n]
 rfl
structure Meth(K:PySem.W.Frag)(C:Addr)(m:Str)(f:Addr):Prop where
 at_:PySem.W.findIn K (.ref C) m=some (some (.ref f))
 fn:PySem.W.isFn K (.ref f)=true
 kp:PySem.W.keepIn K (.ref f)=true
section
variable{X:Cx}{pins:List (Addr×Obj)}{σ:St}{H:Hp}{s:Shared}{a C dx:Addr}{fs:List (Str×V)}{f:Str}{v:V}{A:Around}{E:Value->Shared->Prop}
def yX{b:Bool}{Q:Value->Shared->Prop}(I:Inv X pins σ H s)(e:H a=some (.ins C dx fs))(c:Cls X.K C)(n:İ X.K C f)(l:fs.lookup f=some v)
 (h:∀u s',Inv X pins σ H s'->RelV v u->Q u s'):wpAny (model X.prog X.w) A (getAttr (.ref a) f b) Q E s:=by
 obtain⟨mA,O,r,_,_,_⟩:=oA I.hok e
 obtain⟨u,hu,ru⟩:=qT.some_of (v:=v) (o:=mA f) (by rw[<-l];exact r f)
 exact get_map I.kJ O (c.get f) c.hd n hu (Dg ru) (h u _ (I.tok _) ru)
def yZ{m:Str}{g:Addr}{pl:Sem Bool}{Q:Value×List Value->Shared->Prop}(I:Inv X pins σ H s)(e:H a=some (.ins C dx fs))(c:Cls X.K C)(k:Meth X.K C m g)(l:fs.lookup m=none)
 (h:Q (.ref g,[.ref a]) s):wpAny (model X.prog X.w) A (getMethod (.ref a) m pl) Q E s:=by
 obtain⟨mA,O,r,_,_,_⟩:=oA I.hok e
 have hn:mA m=none:=qT.none_of (by rw[<-l];exact r m)
 exact Fg I.kJ O (c.get m) k.at_ k.fn hn h
def za{y:V}{u:Value}{Q:Unit->Shared->Prop}(I:Inv X pins σ H s)(e:H a=some (.ins C dx fs))(c:Cls X.K C)(n:İ X.K C f)(hl:fs.length<1000)(ry:RelV y u)
 (h:∀s',Inv X pins σ (upd H a (.ins C dx (eE f y fs))) s'->Q () s'):wpAny (model X.prog X.w) A (setAttr (.ref a) f u) Q E s:=by
 obtain⟨mA,O,r,wi,_,ho⟩:=oA I.hok e
 have hz:(fs.map (·.1)).length<=sizeLine:=by rw[List.length_map,sizeLine_eq];omega
 refine JX I.kJ O c.sa c.po n.taker c.hd wi hz λh' O' sb=>h _ ?_
 have hd:∃o,h'.get? dx=some o:=let ⟨o,_,_,e',_⟩:=O'.ns;⟨o,e'⟩
 refine I.write (x:=a) (e:=dx) (by rw[e];exact True.intro) (.inr ho) (λb q hb z=>(sb.2 b hb).trans z) hd ?_
 refine⟨by rw[ĉ O.ne];exact ho,?_,O.ne,O'.obj,_,O'.ns,λg=>?_,λg hg=>?_⟩
 ·have:=mQ f y fs;omega
 ·show qT ((eE f y fs).lookup g) (if g=f then some u else mA g)
  rw[mO]
  by_cases q:g=f
  ·rw[if_pos q,if_pos q];exact ry
  ·rw[if_neg q,if_neg q];exact r g
 ·by_cases q:g=f
  ·rw[q];exact(lA f y fs).1
  ·refine(lA f y fs).2 g (wi g λz=>hg ?_)
   show(if g=f then some u else mA g)=none
   rw[if_neg q];exact z
def Inv.made(I:Inv X pins σ H s):Inv X pins σ (upd (upd H s.heap.objs.size (.own (s.heap.objs.size+1))) (s.heap.objs.size+1) (.ins C s.heap.objs.size []))
 {s with heap:=(s.heap.push PySem.W.emptyDict).push (PySem.W.instObj C s.heap.objs.size)}:=by
 have e1:(s.heap.push PySem.W.emptyDict).get? s.heap.objs.size=some PySem.W.emptyDict:=Heap.get?_push_size s.heap rfl
 have e2:((s.heap.push PySem.W.emptyDict).push (PySem.W.instObj C s.heap.objs.size)).get? (s.heap.objs.size+1)=some (PySem.W.instObj C s.heap.objs.size):=by
  have:=Heap.get?_push_size (s.heap.push PySem.W.emptyDict) (o:=PySem.W.instObj C s.heap.objs.size) rfl
  rwa [Heap.size_push] at this
 have e3:(s.heap.push PySem.W.emptyDict).Ns s.heap.objs.size (λ_=>none):=⟨PySem.W.emptyDict,#[],_,e1,rfl,(λe he=>absurd he (by simp)),λ_=>rfl⟩
 have I1:=I.laid (a:=s.heap.objs.size) (o:=.own (s.heap.objs.size+1)) (h':=s.heap.push PySem.W.emptyDict) (t':=s.toks) (λb u q=>Heap.get?_push_of_some _ q) (Nat.le_refl _) ⟨_,e1⟩
 refine I1.laid (a:=s.heap.objs.size+1) (o:=.ins C s.heap.objs.size []) (t':=s.toks) (λb u q=>Heap.get?_push_of_some _ q) (Nat.le_of_eq (Heap.size_push _ _)) ?_
 have ne:s.heap.objs.size≠s.heap.objs.size+1:=Nat.ne_of_lt (Nat.lt_succ_self _)
 refine⟨by rw[ĉ ne,Ď],Nat.zero_le _,ne,e2,λ_=>none,(Heap.Ns1.of_empty e3).at λo q=>Heap.get?_push_of_some _ q,λ_=>True.intro,λy hy=>absurd rfl hy⟩
def JZ{prog:Program}{w:World}{env:Env}{e:Expr}{f:Str}{pos:Pos}{s:Shared}{Q:Value->Shared->Prop}(hb:attributeBase e f env (eval e env)=eval e env)
 (h:wpAny (model prog w) A (eval e env) (λo s₁=>wpAny (model prog w) A (getAttr o f true) Q E s₁) E s):wpAny (model prog w) A (eval (.Attribute e f pos) env) Q E s:=
 Attribute_any_ h (by rw[arm_eval_Attribute,hb])
end
def Zct(K:PySem.W.Frag)(ta:TE)(f:Str):TE:=λσ H Q=>ta σ H λx H1=>∃a C dx fs v,x=.ref a/\H1 a=some (.ins C dx fs)/\Cls K C/\İ K C f/\fs.lookup f=some v/\Q v H1
def Zcu(K:PySem.W.Frag)(ta tv:TE)(f:Str):TS:=λD σ H=>tv σ H λy H1=>ta σ H1 λx H2=>∃a C dx fs,x=.ref a/\H2 a=some (.ins C dx fs)/\Cls K C/\İ K C f/\fs.length<1000/\
 D.nx σ (upd H2 a (.ins C dx (eE f y fs)))
section
variable{X:Cx}{o e value:Expr}{f:Str}{pos pos' tpos:Pos}{ta tv:TE}
def SM(he:PE X e ta)(hb:attributeBase e f X.env (eval e X.env)=eval e X.env):PE X (.Attribute e f pos) (Zct X.K ta f):=by
 intro pins s σ H Q I h
 refine JZ hb (ņ (he pins s σ H _ I h) λu s1 ⟨x,H1,I1,rx,a,C,dx,fs,v,ex,ea,c,n,l,q⟩=>?_)
 subst ex
 obtain rfl:u=Value.ref a:=rx
 exact yX I1 ea c n l λu' s2 I2 ru=>⟨v,H1,I2,ru,q⟩
def SN(ha:PE X o ta)(hv:PE X value tv)(hs:swapsWith value (some (.Attribute o f pos')) pos.line X.env=pure false):PS X (.Assign [.Attribute o f pos'] value pos) (Zcu X.K ta tv f):=by
 intro pins s σ H D I h
 refine plainObj_wpAny_Assign_Attribute (ņ (hv pins s σ H _ I h) λu s1 ⟨y,H1,I1,ry,q⟩=>ņ (ha pins s1 σ H1 _ I1 q) λov s2 ⟨x,H2,I2,rx,a,C,dx,fs,ex,ea,c,n,l,q2⟩=>?_) hs
 subst ex
 obtain rfl:ov=Value.ref a:=rx
 exact za I2 ea c n l ry λs3 I3=>⟨σ,_,I3,q2⟩
end
section
variable{X:Cx}{pins:List (Addr×Obj)}{σ:St}{H:Hp}{s:Shared}{A:Around}{E:Value->Shared->Prop}{Q:Value->Shared->Prop}{c:Value}{b:Bool}
inductive lB(K:PySem.W.Frag)(H:Hp):V->Value->Prop where
 |non:lB K H .non (.type "NoneType")
 |bl (x:Bool):lB K H (.bl x) (.type "bool")
 |int (i:Int):lB K H (.int i) (.type "int")
 |str (x:Str):lB K H (.str x) (.type "str")
 |flt (x:UInt64):lB K H (.flt x) (.type "float")
 |lst {a:Addr} {xs:List V} (e:H a=some (.lst xs)):lB K H (.ref a) (.type "list")
 |bM {a:Addr} {o:Obj} {xs:List V} (e:H a=some (.bM o (.lst xs))):lB K H (.ref a) (.type "list")
 |tup {a:Addr} {xs:List V} (e:H a=some (.tup xs)):lB K H (.ref a) (.type "tuple")
 |dK {a:Addr} {kvs:List (Key×V)} (e:H a=some (.dK kvs)):lB K H (.ref a) (.type "dict")
 |dT {a:Addr} {kvs:List (List Key×V)} (e:H a=some (.dT kvs)):lB K H (.ref a) (.type "dict")
 |ins {a C dx:Addr} {fs:List (Str×V)} (e:H a=some (.ins C dx fs)) (cl:Cls K C) (ha:PySem.W.findIn K (.ref C) "__class__" =some (some (.builtin "object.__class__")))
   (hn:PySem.W.specialIn K (.builtin "object.__class__") "__get__" =some (some (.builtin "getset_descriptor.__get__"))) (htk:PySem.W.takesIn K (.builtin "object.__class__")=some true)
   (hm:PySem.W.mroIn K C (.type "object")=some true):lB K H (.ref a) (.ref C)
def dH{x:V}{u t:Value}(I:Inv X pins σ H s)(rx:RelV x u)(ty:lB X.K H x t)(e:PySem.W.kitOne X.K t c=some b)(h:∀tk,Q (.bool b) {s with toks:=tk}) :
 wpAny (model X.prog X.w) A (call (.builtin "isinstance") [u,c]) Q E s:=by
 cases ty with
 |non=>cases(show u=Value.none from rx);exact PySem.W.kia_one PySem.W.kitx_none I.kJ True.intro e (λz=>nomatch z) h
 |bl y=>cases(show u=Value.bool y from rx);exact PySem.W.kia_one PySem.W.kitx_bool I.kJ True.intro e (λz=>nomatch z) h
 |int i=>obtain⟨t,q⟩:=(show ∃t,u=Value.int i t from rx);cases q;exact PySem.W.kia_one PySem.W.kitx_int I.kJ True.intro e (λz=>nomatch z) h
 |str y=>obtain⟨t,q⟩:=(show ∃t,u=Value.str y t from rx);cases q;exact PySem.W.kia_one PySem.W.kitx_str I.kJ True.intro e (λz=>nomatch z) h
 |flt y=>obtain⟨t,q⟩:=(show ∃t,u=Value.float y t from rx);cases q;exact PySem.W.kia_one PySem.W.kitx_float I.kJ True.intro e (λz=>nomatch z) h
 |@lst a xs ea=>
  cases(show u=Value.ref a from rx)
  obtain⟨_,_,n,_,h1⟩:=(show aj X.prog X.w H s.heap a (.lst xs) from I.hok a _ ea)
  exact PySem.W.kia_one PySem.W.kitx_list I.kJ ⟨_,h1,rfl⟩ e (λz=>nomatch z) h
 |@bM a ob xs ea=>
  cases(show u=Value.ref a from rx)
  obtain⟨_,_,_,n,_,h1⟩:=(show aj X.prog X.w H s.heap a (.bM ob (.lst xs)) from I.hok a _ ea)
  exact PySem.W.kia_one PySem.W.kitx_list I.kJ ⟨_,h1,rfl⟩ e (λz=>nomatch z) h
 |@tup a xs ea=>
  cases(show u=Value.ref a from rx)
  obtain⟨_,_,_,p⟩:=(show aj X.prog X.w H s.heap a (.tup xs) from I.hok a _ ea)
  obtain⟨o,h1,h2,_⟩:=p
  exact PySem.W.kia_one PySem.W.kitx_tuple I.kJ ⟨o,h1,h2⟩ e (λz=>nomatch z) h
 |@dK a kvs ea=>
  cases(show u=Value.ref a from rx)
  obtain⟨_,_,vs,_,p⟩:=(show aj X.prog X.w H s.heap a (.dK kvs) from I.hok a _ ea)
  obtain⟨o,es,ep,h1,h2,_⟩:=p
  exact PySem.W.kia_one PySem.W.kitx_dict I.kJ ⟨o,h1,h2.1⟩ e (λz=>nomatch z) h
 |@dT a kvs ea=>
  cases(show u=Value.ref a from rx)
  obtain⟨_,_,xs,_,o,es,ep,h1,h2,_⟩:=(show aj X.prog X.w H s.heap a (.dT kvs) from I.hok a _ ea)
  exact PySem.W.kia_one PySem.W.kitx_dict I.kJ ⟨o,h1,h2.1⟩ e (λz=>nomatch z) h
 |@ins a C dx fs ea cl ha hn htk hm=>
  cases(show u=Value.ref a from rx)
  obtain⟨mA,O,_⟩:=oA I.hok ea
  obtain⟨od,J,_⟩:=O.look
  exact PySem.W.kia_one (PySem.W.kitx_own (cl.get _) cl.hd ha hn htk hm) I.kJ J e (λz=>nomatch z) h
end
end L2
namespace L2
open PySem PySem.Spec PyProof.Rows
structure Ū(k:Nat)(A:Around):Prop where
 hd:A.handled=none
 dp:A.depth+3*k+5<recursionLimit
 un:A.units+16*k+200<cLine
def Ū.mono{j k:Nat}{A:Around}(r:Ū k A)(h:j<=k):Ū j A:=⟨r.hd,by have:=r.dp;omega,by have:=r.un;omega⟩
def Ū.mo{j k:Nat}{A:Around}(r:Ū k A)(h:j<=k:= by decide):Ū j A:= r.mono h
theorem Ū.deeper{k:Nat}{A:Around}(r:Ū (k+1) A)(env:Env):Ū k (A.deeper env):=
 ⟨r.hd,by have:=r.dp;show A.depth+1+3*k+5<_;omega,by have:=r.un;show A.units+3+16*k+200<_;omega⟩
def zc{A:Around}{C:Addr}{us:List Value}{kw:List (Str×Value)}:(A.under (.builtin "type.__call__" ⟨.ref C::us,kw⟩)).depth=A.depth+1:=by
 first|rfl|simp[Around.under,Code.weight,Code.isCreation,Code.isGuard,Code.isCaller,Code.frames,Code.isFrame,guardIds]
def zf{A:Around}{C:Addr}{us:List Value}{kw:List (Str×Value)}:(A.under (.builtin "type.__call__" ⟨.ref C::us,kw⟩)).units=A.units+1:=by
 first|rfl|simp[Around.under,Code.cUnits,Code.frames,Code.isFrame]
def Ū.make{k:Nat}{A:Around}(r:Ū (k+1) A)(C:Addr)(us:List Value)(kw:List (Str×Value)):Ū k (A.under (.builtin "type.__call__" ⟨.ref C::us,kw⟩)):=
 ⟨r.hd,by have:=r.dp;rw[zc];omega,by have:=r.un;rw[zf];omega⟩
theorem Ū.depth{k:Nat}{A:Around}(r:Ū k A):A.depth<recursionLimit:=by have:=r.dp;omega
theorem Ū.units{k:Nat}{A:Around}(r:Ū k A):A.units+64<cLine:=by have:=r.un;omega
def uy:TA:=λ_ H Q=>Q [] H
def fK(ta:TE)(tr:TA):TA:=λσ H Q=>ta σ H λx H1=>tr σ H1 λxs H2=>Q (x::xs) H2
section
variable{X:Cx}{e:Expr}{es:List Expr}{te:TE}{t:TA}{pos:Pos}
def Ś:PA X [] uy:=λ_ _ _ _ H Q I h=>Calls.spliced_nil ⟨[],H,I,.nil,h⟩
def Ĳ(ha:PE X e te)(hr:PA X es t)(hs:starEach (e::es) X.env=(false,eval e X.env)::starEach es X.env:=by rfl):PA X (e::es) (fK te t):=by
 intro pos pins s σ H Q I h
 rw[hs]
 show wpAny _ _ (spliced ((false,eval e X.env)::backTo pos (starEach es X.env))) _ _ s
 refine Calls.spliced_cons (ņ (ha pins s σ H _ I h) λu s1 ⟨x,H1,I1,r1,q1⟩=>?_)
 exact ņ (hr pos pins s1 σ H1 _ I1 q1) λus s2 ⟨xs,H2,I2,r2,q2⟩=>⟨x::xs,H2,I2,.cons r1 r2,q2⟩
def Yi(t:TA):TE:=λσ H Q=>t σ H λxs H1=>xs.length<=sizeLine/\∀p,H1 p=none->Q (.ref p) (upd H1 p (.tup xs))
def SQ(t:TA):TE:=λσ H Q=>t σ H λxs H1=>xs.length<=sizeLine/\∀p,H1 p=none->Q (.ref p) (upd H1 p (.lst xs))
def zj{x1}(h:PA X es t):PE X (.Tuple es x1 pos) (Yi t):=by
 intro pins s σ H Q I hq
 refine wpAny_Tuple_spliced (ņ (h pos pins s σ H _ I hq) λus s1 ⟨xs,H1,I1,r,z,q⟩=>⟨by rw[<-r.length];exact z,?_⟩)
 have hf:H1 s1.heap.objs.size=none:=I1.hok.fresh (Nat.le_refl _)
 refine⟨.ref s1.heap.objs.size,upd H1 s1.heap.objs.size (.tup xs),I1.laid (t':=s1.toks) (λb u e=>Heap.get?_push_of_some _ e) (Nat.le_refl _) ?_,rfl,q _ hf⟩
 exact⟨z,us,r,⟨_,Heap.get?_push_size _ rfl,rfl,_,rfl⟩⟩
def zm(h:PA X es t):PE X (.List es pos) (SQ t):=by
 intro pins s σ H Q I hq
 refine wpAny_List_spliced (ņ (h pos pins s σ H _ I hq) λus s1 ⟨xs,H1,I1,r,z,q⟩=>⟨by rw[<-r.length];exact z,?_⟩)
 have hf:H1 s1.heap.objs.size=none:=I1.hok.fresh (Nat.le_refl _)
 refine⟨.ref s1.heap.objs.size,upd H1 s1.heap.objs.size (.lst xs),I1.laid (t':=s1.toks) (λb u e=>Heap.get?_push_of_some _ e) (Nat.le_refl _) ?_,rfl,q _ hf⟩
 exact⟨z,us,0,r,Heap.get?_push_size _ rfl⟩
end
abbrev Sp:=List V->Hp->VK->XK->Prop
abbrev jh:=List Env->Hp->Shared->XK->Value->Shared->Prop
structure zp(P:Program)(w:World)(K:PySem.W.Frag)(mg:Str->Option Value)(base:Heap)(A:Around)(outer:List Env)(s:Shared)(H:Hp):Prop where
 frames:A.frames=some outer
 mod:Mod K mg base
 bs:∀b o,base.get? b=some o->s.heap.get? b=some o/\H b=none
 Ep:base.objs.size<=s.heap.objs.size
 jC:s.heap.FunFrames base outer
 JN:∀b∈frs outer,H b=none
 hok:jB P w H s.heap
 bare:AllBare s.gens
 tb:TabsOk K mg base H
def CE(outer:List Env)(P:Program)(w:World)(H:Hp)(s:Shared)(Q:VK)(u:Value)(s':Shared):Prop:=
 ∃v H',s'.os=s.os/\AllBare s'.gens/\Un (frs outer) [] H H' s.heap s'.heap/\jB P w H' s'.heap/\RelV v u/\Q v H'
def CR(CX:jh)(outer:List Env)(P:Program)(w:World)(H:Hp)(s:Shared)(Q:VK)(E:XK)(r:Result)(s':Shared):Prop:=
 match r with
 | .ok (.ret u)=>CE outer P w H s Q u s'
 | .ok _=>False
 | .error e=>CX outer H s E e s'
structure ī(P:Program)(w:World)(K:PySem.W.Frag)(mg:Str->Option Value)(base:Heap)(CX:jh)(k:Nat)(f:Addr)(fd:FuncData)(ps:List Str)(sp:Sp):Prop where
 len:∀vs H Q E,sp vs H Q E->vs.length=ps.length
 run:∀(A:Around) (outer:List Env) (s:Shared) (H:Hp) (args:Args) (us:List Value) (vs:List V) (Q:VK) (E:XK),Ū k A->zp P w K mg base A outer s H->BindsTo s fd args (ps.zip us)->Vals vs us->sp vs H Q E->
  codeAny (model P w) A (.call (.ref f) args) (CR CX outer P w H s Q E) s
theorem ī.mono{P:Program}{w:World}{K:PySem.W.Frag}{mg:Str->Option Value}{base:Heap}{CX:jh}{j k:Nat}{f:Addr}{fd:FuncData}{ps:List Str}{sp:Sp}(F:ī P w K mg base CX j f fd ps sp)(h:j<=k) :
 ī P w K mg base CX k f fd ps sp:=⟨F.len,λA outer s H args us vs Q E hr=>F.run A outer s H args us vs Q E (hr.mono h)⟩
def ī.imp{P:Program}{w:World}{K:PySem.W.Frag}{mg:Str->Option Value}{base:Heap}{CX:jh}{k:Nat}{f:Addr}{fd:FuncData}{ps:List Str}{sp sp':Sp}(F:ī P w K mg base CX k f fd ps sp)
 (h:∀vs H Q E,sp' vs H Q E->sp vs H Q E):ī P w K mg base CX k f fd ps sp':=
 ⟨λvs H Q E q=>F.len vs H Q E (h _ _ _ _ q),λA outer s H args us vs Q E hr he hb hv hs=>F.run A outer s H args us vs Q E hr he hb hv (h _ _ _ _ hs)⟩
def zp.make{P:Program}{w:World}{K:PySem.W.Frag}{mg:Str->Option Value}{base:Heap}{A:Around}{outer:List Env}{s:Shared}{H:Hp}(e:zp P w K mg base A outer s H)(C:Addr)(us:List Value)(kw:List (Str×Value)) :
 zp P w K mg base (A.under (.builtin "type.__call__" ⟨.ref C::us,kw⟩)) outer s H:=⟨by first|exact e.frames|(simpa[Around.under,Code.envs,Code.isFrame,pushEnvs] using e.frames),e.mod,e.bs,e.Ep,e.jC,e.JN,e.hok,e.bare,e.tb⟩
section
variable{X:Cx}{pins:List (Addr×Obj)}{σ:St}{H:Hp}{s s':Shared}
def Inv.env0(I:Inv X pins σ H s):zp X.prog X.w X.K X.mg X.base X.A X.stack s H:=
 ⟨I.ok.frames,I.ok.mod,I.bs,Nat.le_trans I.ok.Ep I.sz,I.stack,I.Ao,I.hok,I.bare,I.tb⟩
def Inv.after{Q:VK}{u:Value}(I:Inv X pins σ H s)(h:CE X.stack X.prog X.w H s Q u s'):EP X pins σ Q u s':=by
 obtain⟨v,H',os,bare,un,hok,r,q⟩:=h
 obtain⟨hh,g,d,t,os'⟩:=s'
 obtain rfl:os'=s.os:=os
 exact⟨v,H',I.call (h':=hh) (g':=g) (d':=d) (t':=t) (ch:=[]) un hok bare (λb z=>absurd z (by simp)),r,q⟩
end
def Binds(K:PySem.W.Frag)(fd:FuncData)(ps:List Str)(ds:List Value):Prop:=
 ∀(s:Shared) (us:List Value),K.In s.heap->(us++ds).length=ps.length->BindsTo s fd ⟨us,[]⟩ (ps.zip (us++ds))
def Binds.all{K:PySem.W.Frag}{fd:FuncData}{ps:List Str}(h:∀us:List Value,us.length=ps.length->bindArgs fd ⟨us,[]⟩=pure (ps.zip us)):Binds K fd ps []:=λs us _ hl=>by
 rw[List.append_nil] at hl ⊢
 exact .of_eq (h us hl)
section
variable{X:Cx}{CX:jh}{k:Nat}{f C:Addr}{fd:FuncData}{ps:List Str}{sp:Sp}{dvs:List V}{ds:List Value}{E:XK}{x m:Str}{p pos apos:Pos}{e o:Expr}{es:List Expr}{ta:TE}{t:TA}
structure Mk(K:PySem.W.Frag)(C f:Addr):Prop where
 makes:PySem.W.makesIn K C=true
 init:PySem.W.findIn K (.ref C) "__init__" =some (some (.ref f))
 fn:PySem.W.isFn K (.ref f)=true
 kp:PySem.W.keepIn K (.ref C)=true
end
section
variable{X:Cx}{CX:jh}{k:Nat}{f C:Addr}{fd:FuncData}{ps ks:List Str}{sp:Sp}{E:XK}{x m:Str}{p pos apos kpos:Pos}{e o:Expr}{es:List Expr}{kws:List Keyword}{te ta:TE}{t tk:TA}{nm:Option Str}
variable{g:List Value->List Value->List Value}{gV:List V->List V->List V}
end
structure đ(N P:List Str)(sc:Scope):Prop where
 kind:sc.kind=.function
 co:sc.isCoroutine=false
 gen:sc.isGenerator=false
 nd:N.Nodup
 pre:N.take P.length=P
 par:∀x∈P,sc.names.lookup x=some .local\/sc.names.lookup x=some .cell
 SX:∀y∈sc.names,y.2≠ .free
theorem rQ{kindOf:Str->Option NameKind}{x:Str}:∀{binds:List (Str×Value)} {m:Str->Option Value},(∀v,(x,v)∉binds)->bindL kindOf binds m x=m x
 | [],_,_=>rfl
 |(n,v)::r,m,h=>by
  unfold bindL
  rw[rQ λw hw=>h w (List.mem_cons_of_mem _ hw)]
  split
  ·have:x≠n:=by rintro rfl;exact h v List.mem_cons_self
   simp[this]
  ·rfl
theorem rT{kindOf:Str->Option NameKind}{x:Str}:∀{binds:List (Str×Value)} {m:Str->Option Value},(∀v,(x,v)∉binds)->bindC kindOf binds m x=m x
 | [],_,_=>rfl
 |(n,v)::r,m,h=>by
  unfold bindC
  rw[rT λw hw=>h w (List.mem_cons_of_mem _ hw)]
  split
  ·rfl
  ·have:x≠n:=by rintro rfl;exact h v List.mem_cons_self
   simp[this]
theorem rW{kindOf:Str->Option NameKind}{x:Str}{v:Value}:∀{P:List Str} {vs:List Value} {i:Nat} {m:Str->Option Value},P.Nodup->P[i]?=some x->vs[i]?=some v->kindOf x=some .local->
 bindL kindOf (P.zip vs) m x=some v
 | [],_,_,_,_,h,_,_=>by simp at h
 |_::_,[],_,_,_,_,h,_=>by simp at h
 |p::P,w::vs,0,m,nd,h1,h2,hk=>by
  simp at h1 h2;subst h1;subst h2
  show bindL kindOf ((p,w)::P.zip vs) m p=_
  unfold bindL
  rw[rQ λv hv=>(List.nodup_cons.mp nd).1 (List.of_mem_zip hv).1,if_pos hk]
  simp
 |p::P,w::vs,i+1,m,nd,h1,h2,hk=>by
  show bindL kindOf ((p,w)::P.zip vs) m x=_
  unfold bindL
  exact rW (i:=i) (List.nodup_cons.mp nd).2 (by simpa using h1) (by simpa using h2) hk
theorem rY{kindOf:Str->Option NameKind}{x:Str}{v:Value}:∀{P:List Str} {vs:List Value} {i:Nat} {m:Str->Option Value},P.Nodup->P[i]?=some x->vs[i]?=some v->kindOf x≠some .local->
 bindC kindOf (P.zip vs) m x=some v
 | [],_,_,_,_,h,_,_=>by simp at h
 |_::_,[],_,_,_,_,h,_=>by simp at h
 |p::P,w::vs,0,m,nd,h1,h2,hk=>by
  simp at h1 h2;subst h1;subst h2
  show bindC kindOf ((p,w)::P.zip vs) m p=_
  unfold bindC
  rw[rT λv hv=>(List.nodup_cons.mp nd).1 (List.of_mem_zip hv).1,if_neg hk]
  simp
 |p::P,w::vs,i+1,m,nd,h1,h2,hk=>by
  show bindC kindOf ((p,w)::P.zip vs) m x=_
  unfold bindC
  exact rY (i:=i) (List.nodup_cons.mp nd).2 (by simpa using h1) (by simpa using h2) hk
def start(N:List Str)(vs:List V):St:=vs.map some++List.replicate (N.length-vs.length) none
def qX(CX:jh)(P:Program)(w:World)(K:PySem.W.Frag)(mg:Str->Option Value)(base:Heap)(N:List Str)(qual:Str)(scope:Scope)(f:Addr)(cd:Value)(A:Around)(outer:List Env)(s:Shared)(H:Hp)(E:XK):Cx where
 prog:=P
 w:=w
 K:=K
 mg:=mg
 base:=base
 A:=A.deeper (envOfC qual scope s.heap.objs.size f cd)
 N:=N
 s₀:= s
 H₀:= H
 env:=envOfC qual scope s.heap.objs.size f cd
 outer:=outer
 stack:=envOfC qual scope s.heap.objs.size f cd::outer
 ex:=[]
 calm:=true
 fn:=λ_=>true
 pn:=[]
 xe:=λe s'=>wpAny (model P w) (A.deeper (envOfC qual scope s.heap.objs.size f cd)) (leaving (envOfC qual scope s.heap.objs.size f cd) e) (λ_ s''=>CX outer H s E e s'') (λe' s''=>CX outer H s E e' s'') s'
def jF{sc:Scope}{n:Nat}{x:Str}(h:sc.names.lookup x=some .cell):∃c,(cellsFrom n sc.names []).lookup x=some c:=by
 have q:=PySem.W.cellsFrom_some sc.names n [] (.inl h)
 exact Option.isSome_iff_exists.mp q
def Dh{CX:jh}{P:Program}{w:World}{K:PySem.W.Frag}{mg:Str->Option Value}{base:Heap}{N ps:List Str}{qual:Str}{scope:Scope}{f:Addr}{cd:Value}{A:Around}{outer:List Env}{s s1:Shared}{H:Hp}{E:XK}{us:List Value}{vs:List V}
 (S:đ N ps scope)(hd:A.handled=none)(e0:zp P w K mg base A outer s H)(hl:vs.length=ps.length)(r:Vals vs us)
 (x:InCallC s s.heap.objs.size (bindL (envOfC qual scope s.heap.objs.size f cd).kindOf (ps.zip us) λ_=>none) (cellsFrom (s.heap.objs.size+1) scope.names []) (bindC (envOfC qual scope s.heap.objs.size f cd).kindOf (ps.zip us) λ_=>none) s1) :
 Inv (qX CX P w K mg base N qual scope f cd A outer s H E) [] (start N vs) H s1:=by
 have hpl:ps.length<=N.length:=by have:=congrArg List.length S.pre;rw[List.length_take] at this;omega
 obtain⟨h1,tk,rfl,hk⟩:=x.done
 have Yj:∀b:Addr,b∉(qX CX P w K mg base N qual scope f cd A outer s H E).ex:=λb z=>absurd (show b∈([]:List Addr) from z) (by simp)
 refine⟨⟨e0.mod,S.kind,rfl,rfl,Nat.le_refl _,λy z c h1 h2=>?_,λy hy=>?_,λy c _ h=>?_,λ_=>hd,Around.frames_deeper e0.frames,.inr ⟨rfl,rfl⟩,λb z=>absurd z (Yj b),e0.bs,e0.Ep,λb _ _=>Yj b,λb z=>absurd z (Yj b),e0.jC,e0.JN,e0.tb⟩,
  rfl,e0.bare,Un.kept hk,⟨_,x.toInCall.ns,λi y v h1 h2 h3=>?_⟩,λy c h=>⟨_,x.cell y c h⟩,e0.hok.fresh (Nat.le_refl _),λy c h=>?_,λp hp=>absurd (show p∈([]:List (Addr×Obj)) from hp) (by simp),e0.hok.kept hk,?_⟩
 ·exact name_of_addr x.apart (PySem.mem_of_lookup h1) (PySem.mem_of_lookup h2)
 ·have hy:scope.names.lookup y=some .cell\/scope.names.lookup y=some .free:=hy
  rcases hy with hy|hy
  ·exact jF hy
  ·exact absurd rfl (S.SX _ (PySem.mem_of_lookup hy))
 ·exact Nat.le_of_lt (x.above y c (PySem.mem_of_lookup h))
 ·have hi:i<vs.length:=by
   unfold start at h2
   by_cases hi:i<vs.length
   ·exact hi
   ·rw[List.getElem?_append_right (by simpa using hi)] at h2
    rw[List.getElem?_replicate] at h2
    split at h2<;>cases h2
  have ha:vs[i]?=some v:=by
   unfold start at h2
   rw[List.getElem?_append_left (by simpa using hi),List.getElem?_map] at h2
   cases e:vs[i]? with
   |none=>rw[e] at h2;cases h2
   |some a=>rw[e] at h2;cases h2;rfl
  obtain⟨u,hu,rv⟩:=r.get ha
  have hp:ps[i]?=some y:=by
   rw[<-S.pre,List.getElem?_take_of_lt (by omega)];exact h1
  have ndP:ps.Nodup:=by rw[<-S.pre];exact S.nd.sublist (List.take_sublist _ _)
  refine⟨u,rv,?_⟩
  rcases S.par y (List.mem_of_getElem? hp) with k|k
  ·exact .inl ⟨k,rW ndP hp hu k⟩
  ·obtain⟨c,e⟩:=jF (n:=s.heap.objs.size+1) k
   refine .inr ⟨.inl k,c,e,?_⟩
   have q:=x.cell y c e
   rw[rY ndP hp hu (by show scope.names.lookup y≠_;rw[k];decide)] at q
   exact q
 ·exact e0.hok.fresh (Nat.le_of_lt (x.above y c (PySem.mem_of_lookup h)))
 ·unfold start
  show _=N.length
  rw[List.length_append,List.length_map,List.length_replicate]
  omega
def Fj{CX:jh}{P:Program}{w:World}{K:PySem.W.Frag}{mg:Str->Option Value}{base:Heap}{k:Nat}{f:Addr}{name qual:Str}{params:Arguments}{body:List Stmt}{scope:Scope}{dV kV doc pm cdv ct oc:Value}{an od:Option Addr}
 {osl:Array (Option Value)}{N ps:List Str}{sp:Sp}(lk:K.lookup f=some ⟨oc,od,.func (PySem.W.fnOf name qual params body scope dV kV doc pm an cdv ct),osl⟩)(hcd:PySem.W.codeIn K cdv qual=true)(S:đ N ps scope)
 (len:∀vs H Q E,sp vs H Q E->vs.length=ps.length)
 (hbody:∀(A:Around) (outer:List Env) (s:Shared) (H:Hp) (vs:List V) (Q:VK) (E:XK),Ū k (A.deeper (envOfC qual scope s.heap.objs.size f cdv))→sp vs H Q E→
   ∃t,aB (qX CX P w K mg base N qual scope f cdv A outer s H E) body t/\t {nx:=λ_ H'=>Q .non H',rt:=Q} (start N vs) H) :
 ī P w K mg base CX (k+1) f (PySem.W.fnOf name qual params body scope dV kV doc pm an cdv ct) ps sp:=by
 refine⟨len,λA outer s H args us vs Q E hr e0 hb r hsp=>?_⟩
 have hl:=len _ _ _ _ hsp
 have KX:K.In s.heap:=e0.mod.Xm.keeps λb o e=>(e0.bs b o e).1
 have lim:s.heap.NoLimit:=e0.mod.nolimit.keeps λb o e=>(e0.bs b o e).1
 have hkind:∀y∈ps.zip us,scope.names.lookup y.1=some .local\/(scope.names.lookup y.1=some .cell/\((cellsFrom (s.heap.objs.size+1) scope.names []).lookup y.1).isSome=true):=λ⟨n,v⟩ hy=>by
  rcases S.par n (List.of_mem_zip hy).1 with q|q
  ·exact .inl q
  ·exact .inr ⟨q,PySem.W.cellsFrom_some _ _ _ (.inl q)⟩
 refine codeAny_call_function hr.depth (KX _ _ lk) rfl S.co S.gen rfl (PySem.W.codeRec_of KX hcd) (hb _ _ _ _ ?_)
 refine wpAny_newFunctionEnv_cells S.kind hkind λenv he s1 x=>?_
 subst he
 refine⟨lim.keeps x.toInCall.keep,codeAny_func ?_⟩
 obtain⟨t,ht,hq⟩:=hbody A outer s H vs Q E (hr.deeper _) hsp
 have I:Inv (qX CX P w K mg base N qual scope f cdv A outer s H E) [] (start N vs) H s1:=Dh S hr.hd e0 hl r x
 refine wpAny_mono (ht [] s1 (start N vs) H _ I hq) (λfl s' hs=>?_) λe s' hs=>hs
 have fin:∀{σ':St} {H':Hp} {v:V} {u:Value},Inv (qX CX P w K mg base N qual scope f cdv A outer s H E) [] σ' H' s'->RelV v u->Q v H'->CE outer P w H s Q u s':=
  fun{σ' H' v u} J rv q=>⟨v,H',J.os,J.bare,J.base,J.hok,rv,q⟩
 cases fl with
 |ret u=>
  obtain⟨v,σ',H',J,rv,q⟩:=hs
  exact fin J rv q
 |next=>
  obtain⟨σ',H',J,q⟩:=hs
  exact fin (v:=V.non) (u:=Value.none) J rfl q
 |brk=>
  obtain⟨_,_,_,q⟩:=hs
  exact False.elim q
 |cont=>
  obtain⟨_,_,_,q⟩:=hs
  exact False.elim q
end L2
namespace L2
open PySem PySem.Spec PyProof.Rows
section
variable{X:Cx}{x:Str}{p pos:Pos}{e:Expr}{es:List Expr}{t:TA}{id T:String}{r:List V->Hp->VK->Prop}
def Yk(r:List V->Hp->VK->Prop)(t:TA):TE:=λσ H Q=>t σ H λvs H1=>r vs H1 Q
def oZ(hc:ő X (.builtin id) r)(hg:Gl X x)(hm:X.mg x=none)(hv:bootBuiltins x=some (.builtin id))(ha:PA X (e::es) t)(hn:x≠ "__name__" := by decide)(hdb:(x== ("__debug__" :Str))=false:=by decide)
 (he:starEach (e::es) X.env=(false,eval e X.env)::starEach es X.env:=by rfl)(hpl:(backTo pos (starEach es X.env)).any (·.1)=false:=by rfl):PE X (.Call (.Name x p) (e::es) [] pos) (Yk r t):=by
 intro pins s σ H Q I h
 refine wpAny_Call_Name_kw (kZ I hg hm hv ?_ hn hdb)
 exact PyProof.Rows.callWith_builtin1 (ņ (ha pos pins s σ H _ I h) λus s1 ⟨vs,H1,I1,r1,q1⟩=>hc pins s1 σ H1 vs us Q I1 r1 q1) he hpl
def lC(hc:ő X (.type T) r)(hg:Gl X x)(hm:X.mg x=none)(hv:bootBuiltins x=some (.type T))(ha:PA X (e::es) t)(hn:x≠ "__name__" := by decide)(hdb:(x== ("__debug__" :Str))=false:=by decide)
 (he:starEach (e::es) X.env=(false,eval e X.env)::starEach es X.env:=by rfl)(hpl:(backTo pos (starEach es X.env)).any (·.1)=false:=by rfl):PE X (.Call (.Name x p) (e::es) [] pos) (Yk r t):=by
 intro pins s σ H Q I h
 refine wpAny_Call_Name_kw (kZ I hg hm hv ?_ hn hdb)
 exact PyProof.Rows.callWith_type1 (ņ (ha pos pins s σ H _ I h) λus s1 ⟨vs,H1,I1,r1,q1⟩=>hc pins s1 σ H1 vs us Q I1 r1 q1) he hpl
end
end L2
namespace HT
open PySem PyProof.Rows
section
open PySem.SeqAt
open PySem.AutoSeq1 (wpAny_loadPart')
open PySem.MeetsSeq PySem.MeetsSeq2 PySem.MeetsSeq3
end
section
variable{prog:Program}{w:World}{A:Around}{E:Value->Shared->Prop}{s:Shared}
def dX(n d:Nat):Option Int->Nat
 |none=>d
 |some v=>if v<0 then(v+(n:Int)).toNat else min v.toNat n
def o_(n d:Nat):dX n d none=d:=rfl
def uz(n d k:Nat):dX n d (some (k:Int))=min k n:=by
 show(if(k:Int)<0 then((k:Int)+(n:Int)).toNat else min (k:Int).toNat n)=min k n
 rw[if_neg (by omega),Int.toNat_natCast]
def Fo(n d:Nat)(hd:d<=n)(o:Option Int):dX n d o<=n:=by
 cases o with
 |none=>exact hd
 |some v=>
  show(if v<0 then(v+(n:Int)).toNat else min v.toNat n)<=n
  by_cases hv:v<0
  ·rw[if_pos hv];omega
  ·rw[if_neg hv];exact Nat.min_le_right _ _
end
end HT
namespace L2
open PySem PySem.Spec PyProof.Rows
abbrev TO:=St->Hp->(Option Int->Hp->Prop)->Prop
def PO(X:Cx)(e:Option Expr)(t:TO):Prop:=
 ∀(pins:List (Addr×Obj)) (s:Shared) (σ:St) (H:Hp) (Q:Option Int->Hp->Prop),Inv X pins σ H s->t σ H Q->
  wpAny (model X.prog X.w) X.A (evalPart e X.env) (λu s'=>∃o H',Inv X pins σ H' s'/\IsPart u o/\Q o H') X.xe s
def J_:TO:=λ_ H Q=>Q none H
section
variable{X:Cx}{e:Expr}{te:TE}{lo hi:Option Expr}{tl th:TO}{pos p2:Pos}
def Ka:PO X none J_:=by
 intro pins s σ H Q I h
 rw[evalPart_none]
 exact wpAny_pure ⟨none,H,I,.none,h⟩
def Aw(X:Cx)(r:V->Option Int->Option Int->Hp->VK->Prop):Prop:=
 ∀(pins:List (Addr×Obj)) (s:Shared) (σ:St) (H:Hp) (x:V) (v vl vu:Value) (lo hi:Option Int) (sl:Addr) (Q:VK),Inv X pins σ H s->RelV x v->s.heap.IsSliceOf sl vl vu .none->IsPart vl lo->IsPart vu hi->r x lo hi H Q->
  ∃T id,typeLookup (.type T) "__getitem__" =pure (some (.builtin id))/\s.TypeIs v T/\wpAny (model X.prog X.w) X.A (getItem v (.ref sl)) (EP X pins σ Q) X.xe s
def Aw.or{r r':V->Option Int->Option Int->Hp->VK->Prop}(h:Aw X r)(h':Aw X r'):Aw X (λx lo hi H Q=>r x lo hi H Q\/r' x lo hi H Q):=by
 intro pins s σ H x v vl vu lo hi sl Q I rx hs pl pu q
 rcases q with q|q
 ·exact h pins s σ H x v vl vu lo hi sl Q I rx hs pl pu q
 ·exact h' pins s σ H x v vl vu lo hi sl Q I rx hs pl pu q
def tSl(r:V->Option Int->Option Int->Hp->VK->Prop)(te:TE)(tl th:TO):TE:=λσ H Q=>te σ H λx H1=>tl σ H1 λl H2=>th σ H2 λu H3=>r x l u H3 Q
def Fp{r:V->Option Int->Option Int->Hp->VK->Prop}(hr:Aw X r)(he:PE X e te)(hl:PO X lo tl)(hu:PO X hi th):PE X (.Subscript e (.Slice lo hi none p2) pos) (tSl r te tl th):=by
 intro pins s σ H Q I h
 refine Subscript_ (ņ (he pins s σ H _ I h) λv s1 ⟨x,H1,I1,r1,q1⟩=>?_)
 refine wpAny_Slice (ņ (hl pins s1 σ H1 _ I1 q1) λvl s2 ⟨l,H2,I2,pl,q2⟩=>ņ (hu pins s2 σ H2 _ I2 q2) λvu s3 ⟨u,H3,I3,pu,q3⟩=>?_)
 rw[evalPart_none]
 refine wpAny_pure ?_
 have I4:Inv X pins σ H3 {s3 with heap:=s3.heap.push {cls:=.type "slice",data:=.fields #[vl,vu,.none]}}:=I3.kept (t':=s3.toks) λb ob q=>Heap.get?_push_of_some _ q
 obtain⟨T,id,hT,ht,hg⟩:=hr pins {s3 with heap:=s3.heap.push {cls:=.type "slice",data:=.fields #[vl,vu,.none]}} σ H3 x v vl vu l u s3.heap.objs.size Q I4 r1 (Heap.IsSliceOf.new ..) pl pu q3
 show wpAny (model X.prog X.w) X.A (subscriptTail e (.Slice lo hi none p2) v (.ref s3.heap.objs.size)) (EP X pins σ Q) X.xe {s3 with heap:=s3.heap.push {cls:=.type "slice",data:=.fields #[vl,vu,.none]}}
 exact tail_any (ops:=[.ref s3.heap.objs.size,v]) ht hT hg (by with_unfolding_all rfl)
def wH(xs:List V)(lo hi:Option Int):List V:=(xs.drop (HT.dX xs.length 0 lo)).take (HT.dX xs.length xs.length hi-HT.dX xs.length 0 lo)
def wI(xs:List V)(lo hi:Option Int):(wH xs lo hi).length<=xs.length:=by
 unfold wH
 rw[List.length_take,List.length_drop]
 omega
end
end L2
namespace L2
open PySem PySem.Spec PyProof.Rows
def yJ(n:Nat)(i:Int):Option Nat:=if 0<=i then(if i<n then some i.toNat else none) else if -(n:Int)<=i then some (i+n).toNat else none
def nM{α:Type}(xs:List α)(i:Int):Option α:= (yJ xs.length i).bind λj=>xs[j]?
def Ax{n:Nat}{i:Int}{j:Nat}(h:yJ n i=some j):seqIndex? i n=some j/\j<n/\ -(n:Int)<=i/\i<n:=by
 unfold yJ at h
 by_cases h0:0<=i
 ·rw[if_pos h0] at h
  by_cases h1:i<n
  ·rw[if_pos h1] at h
   have e:i.toNat=j:=Option.some.inj h
   exact⟨by rw[seqIndex_of h0 h1,e],by omega,by omega,h1⟩
  ·rw[if_neg h1] at h;cases h
 ·rw[if_neg h0] at h
  by_cases h1: -(n:Int)<=i
  ·rw[if_pos h1] at h
   have e:(i+n).toNat=j:=Option.some.inj h
   exact⟨by rw[seqIndex_neg (by omega) h1,e],by omega,h1,by omega⟩
  ·rw[if_neg h1] at h;cases h
def uD{α:Type}{xs:List α}{i:Int}{v:α}(h:nM xs i=some v):∃j,seqIndex? i xs.length=some j/\xs[j]?=some v/\j<xs.length/\ -(xs.length:Int)<=i/\i<xs.length:=by
 unfold nM at h
 cases e:yJ xs.length i with
 |none=>rw[e] at h;cases h
 |some j=>
  rw[e] at h
  obtain⟨h1,h2,h3,h4⟩:=Ax e
  exact⟨j,h1,h,h2,h3,h4⟩
def oE(b:Expr):Prop:=∀o i,subscripted b false o i=operate [o,i] (getItem o i)
def zq(X:Cx)(r:R2):Prop:=
 ∀(value slice:Expr) (pins:List (Addr×Obj)) (s:Shared) (σ:St) (H:Hp) (x y:V) (v u:Value) (Q:VK),Inv X pins σ H s->RelV x v->RelV y u->r x y H Q->
  subscripted slice false v u=operate [v,u] (getItem v u)->wpAny (model X.prog X.w) X.A (subscriptTail value slice v u) (EP X pins σ Q) X.xe s
def Xn(X:Cx)(id:String)(r:V->List V->Hp->VK->Prop):Prop:=
 ∀(pins:List (Addr×Obj)) (s:Shared) (σ:St) (H:Hp) (x:V) (xs:List V) (v:Value) (us:List Value) (Q:VK),Inv X pins σ H s->RelV x v->Vals xs us->r x xs H Q->
  wpAny (model X.prog X.w) X.A (call (.builtin id) (v::us)) (EP X pins σ Q) X.xe s
section
variable{X:Cx}{a b:Expr}{ta tb:TE}{pos:Pos}
def zq.or{r r':R2}(h:zq X r)(h':zq X r'):zq X (λx y H Q=>r x y H Q\/r' x y H Q):=by
 intro value slice pins s σ H x y v u Q I rx ry q hs
 rcases q with q|q
 ·exact h value slice pins s σ H x y v u Q I rx ry q hs
 ·exact h' value slice pins s σ H x y v u Q I rx ry q hs
def Fq{r:R2}(hr:zq X r)(ha:PE X a ta)(hb:PE X b tb)(hs:oE b):PE X (.Subscript a b pos) (Mi r ta tb):=by
 intro pins s σ H Q I h
 exact Subscript_ (Sd ha hb I h λv u s2 x y H2 I2 rx ry q=>hr a b pins s2 σ H2 x y v u Q I2 rx ry q (hs _ _))
def Yl(K:PySem.W.Frag):R2:=λx y H Q=>∃p xs i v,x=.ref p/\y=.int i/\ŝ K H p xs/\nM xs i=some v/\Q v H
def Ym(K:PySem.W.Frag):R2:=λx y H Q=>∃p xs i v,x=.ref p/\y=.int i/\dh K H p xs/\nM xs i=some v/\Q v H
def Yn:R2:=λx y H Q=>∃z i c,x=.str z/\y=.int i/\z.length<=sizeLine/\nM z.cps.toList i=some c/\Q (.str ⟨#[c]⟩) H
def Kc:zq X (Yl X.K):=by
 intro value slice pins s σ H x y v u Q I rx ry h hs
 obtain⟨p,xs,i,z,rfl,rfl,hq,he,q⟩:=h
 cases rx
 obtain⟨t,rfl⟩:=ry
 obtain⟨its,r,pl,hz⟩:=I.list hq
 obtain⟨j,h1,h2,h3,h4,h5⟩:=uD he
 obtain⟨w,ew,rw'⟩:=r.get h2
 have hl:=r.length
 have hn:=lu
 have fin:EP X pins σ Q w s:=⟨z,H,I,rw',q⟩
 by_cases h0:0<=i
 ·have hj:i.toNat=j:=by
   rw[seqIndex_of h0 h5] at h1
   exact Option.some.inj h1
  exact item_listR pl.isList h0 (by omega) (by rw[hj];simpa using ew) fin hs
 ·have hj:(i+(its.toArray.size:Int)).toNat=j:=by
   rw[seqIndex_neg (by omega) h4] at h1
   rw[List.size_toArray,<-hl]
   exact Option.some.inj h1
  exact subscriptTail_builtinR (x:=w) pl.isList.typeIs slot_list_getitem.lookup
   (wpAny_getItem_list_neg (Q:=λr s'=>r=w/\EP X pins σ Q r s') pl.isList (by omega) (by rw[List.size_toArray]<;>omega) (by omega) (by rw[hj];simpa using ew) ⟨rfl,fin⟩) hs
def S_:zq X (Ym X.K):=by
 intro value slice pins s σ H x y v u Q I rx ry h hs
 obtain⟨p,xs,i,z,rfl,rfl,hq,he,q⟩:=h
 cases rx
 obtain⟨t,rfl⟩:=ry
 obtain⟨its,r,pl,hz⟩:=I.tuple hq
 obtain⟨j,h1,h2,h3,h4,h5⟩:=uD he
 obtain⟨w,ew,rw'⟩:=r.get h2
 have hl:=r.length
 have hn:=lu
 have fin:EP X pins σ Q w s:=⟨z,H,I,rw',q⟩
 exact subscriptTail_builtinR (x:=w) pl.typeIs slot_tuple_getitem.lookup
  (getItem_tuple (j:=j) (Q:=λr s'=>r=w/\EP X pins σ Q r s') pl (by omega) (by omega) (by rw[List.size_toArray,<-hl];exact h1) (by simpa using ew) ⟨rfl,fin⟩) hs
def Tc:zq X Yn:=by
 intro value slice pins s σ H x y v u Q I rx ry h hs
 obtain⟨z,i,c,rfl,rfl,hz,he,q⟩:=h
 obtain⟨t,rfl⟩:=rx
 obtain⟨t',rfl⟩:=ry
 obtain⟨j,h1,h2,h3,h4,h5⟩:=uD he
 have hl:z.cps.toList.length=z.length:=by simp[Str.length]
 rw[hl] at h1 h4 h5
 have hn:=lu
 exact tail_any (typeIs_str s z t) slot_str_getitem.lookup (getItem_str (c:=c) (by
  have e1:decide (i < -(2 ^ 63:Int))=false:=decide_eq_false (by omega)
  have e2:decide (i >= 2 ^ 63)=false:=decide_eq_false (by omega)
  rw[e1,e2,Bool.or_false]) (by rw[h1];simpa using h2) ⟨.str ⟨#[c]⟩,H,I.tok _,⟨_,rfl⟩,q⟩) hs
def rIx(K:PySem.W.Frag):R2:=λx y H Q=>Yl K x y H Q\/Ym K x y H Q\/Yn x y H Q
def zu:zq X (rIx X.K):=Kc.or (S_.or Tc)
def zx(its:List Value)(n j:Nat)(u:Value):Obj.mapSeq (·.setIfInBounds j u) {cls:=.type "list",data:=.seq its.toArray n}= {cls:=.type "list",data:=.seq (its.set j u).toArray n}:=by
 simp[Obj.mapSeq]
theorem Inv.lst{pins:List (Addr×Obj)}{σ:St}{H:Hp}{s:Shared}{p:Addr}{xs:List V}(I:Inv X pins σ H s)(h:H p=some (.lst xs)) :
 ∃(its:List Value) (n:Nat),Vals xs its/\s.heap.get? p=some {cls:=.type "list",data:=.seq its.toArray n}/\xs.length<=sizeLine:=by
 obtain⟨z,its,n,r,e⟩:=I.hok p _ h
 exact⟨its,n,r,e,z⟩
def Inv.Td{pins:List (Addr×Obj)}{σ:St}{H:Hp}{s:Shared}{p:Addr}{xs ys:List V}{its its':List Value}{n n':Nat}{f:Obj->Obj}(I:Inv X pins σ H s)(h:H p=some (.lst xs))
 (ho:s.heap.get? p=some {cls:=.type "list",data:=.seq its.toArray n})(hf:f {cls:=.type "list",data:=.seq its.toArray n}= {cls:=.type "list",data:=.seq its'.toArray n'})(r:Vals ys its')(hz:ys.length<=sizeLine)(t:Nat) :
 Inv X pins σ (upd H p (.lst ys)) {s with heap:=s.heap.update p f,toks:=t}:=by
 have e:(s.heap.update p f).get? p=some {cls:=.type "list",data:=.seq its'.toArray n'}:=by
  rw[Heap.get?_update_self f ho (by rw[hf]<;>rfl),hf]
 refine I.write (x:=p) (e:=p) (by rw[h];trivial) (.inl rfl) (λb u hb q=>(Heap.get?_update_other _ _ (Ne.symm hb)).trans q) ⟨_,e⟩ ?_
 exact⟨hz,its',n',r,e⟩
def Yo:V->V->V->Hp->(Hp->Prop)->Prop:=λo i v H Q=>∃p xs k j,o=.ref p/\i=.int k/\H p=some (.lst xs)/\yJ xs.length k=some j/\Q (upd H p (.lst (xs.set j v)))
def set_list:XQ X Yo:=by
 intro pins s σ H o i v ov iv u Q I ro ri rv h
 obtain⟨p,xs,k,j,rfl,rfl,hp,hj,q⟩:=h
 cases ro
 obtain⟨t,rfl⟩:=ri
 obtain⟨its,n,r,ho,hz⟩:=I.lst hp
 obtain⟨h1,h2,h3,h4⟩:=Ax hj
 have hl:=r.length
 have hn:=lu
 have I':Inv X pins σ (upd H p (.lst (xs.set j v))) {s with heap:=s.heap.update p (Obj.mapSeq (·.setIfInBounds j u))}:=
  I.Td hp ho (zx its n j u) (r.set rv j) (by rw[List.length_set];exact hz) s.toks
 by_cases h0:0<=k
 ·have hk:k.toNat=j:=by
   rw[seqIndex_of h0 h4] at h1
   exact Option.some.inj h1
  exact PySem.W.ki_setAt ho h0 (by omega) (by rw[List.size_toArray,<-hl];exact h4) (by rw[hk];exact⟨_,I',q⟩)
 ·have hk:(k+(its.toArray.size:Int)).toNat=j:=by
   rw[seqIndex_neg (by omega) h3] at h1
   rw[List.size_toArray,<-hl]
   exact Option.some.inj h1
  exact PySem.W.ki_setBack ho (by omega) (by rw[List.size_toArray,<-hl];exact h3) (by omega) (by rw[hk];exact⟨_,I',q⟩)
def uE(lo hi:Option Int)(n:Nat):(sliceBounds lo hi none n).1=((HT.dX n 0 lo:Nat):Int)/\(sliceBounds lo hi none n).2.1=((HT.dX n n hi:Nat):Int)/\(sliceBounds lo hi none n).2.2=1:=by
 refine⟨?_,?_,rfl⟩
 ·cases lo with
  |none=>simp[sliceBounds,HT.dX]
  |some i=>
   simp only[sliceBounds,HT.dX,Option.getD_none,show(1:Int)>0 by decide,if_true]
   by_cases h:i<0
   ·simp only[h,if_true]<;>omega
   ·simp only[h,if_false]<;>omega
 ·cases hi with
  |none=>simp[sliceBounds,HT.dX]
  |some i=>
   simp only[sliceBounds,HT.dX,Option.getD_none,show(1:Int)>0 by decide,if_true]
   by_cases h:i<0
   ·simp only[h,if_true]<;>omega
   ·simp only[h,if_false]<;>omega
def qY(its:List Value)(lo hi:Option Int):slicePick its.toArray lo hi none=((its.drop (HT.dX its.length 0 lo)).take (HT.dX its.length its.length hi-HT.dX its.length 0 lo)).toArray:=by
 obtain⟨h1,h2,h3⟩:=uE lo hi its.toArray.size
 unfold slicePick
 rw[h1,h2,h3]
 simp only[sliceRange_one,pick_run,List.size_toArray]<;>rfl
def Zcv(K:PySem.W.Frag):V->Option Int->Option Int->Hp->VK->Prop:=λx lo hi H Q=>∃a xs,x=.ref a/\ŝ K H a xs/\∀p,H p=none->Q (.ref p) (upd H p (.lst (wH xs lo hi)))
def Kd:Aw X (Zcv X.K):=by
 intro pins s σ H x v vl vu lo hi sl Q I rx hs pl pu h
 obtain⟨a,xs,rfl,hx,q⟩:=h
 cases rx
 obtain⟨its,r,ht,hz⟩:=I.list hx
 have hlen:=r.length
 refine⟨"list",_,slot_list_getitem.lookup,ht.isList.typeIs,?_⟩
 refine wpAny_getItem_list_slice ht.isList hs pl pu .none (by simp) ?_ (by rw[List.size_toArray]<;>omega)
 rw[qY,<-hlen]
 refine⟨.ref s.heap.objs.size,_,I.laid (t':=s.toks) (o:=.lst (wH xs lo hi)) (λb ob q=>Heap.get?_push_of_some _ q) (Nat.le_refl _) ?_,rfl,q _ (I.hok.fresh (Nat.le_refl _))⟩
 exact⟨Nat.le_trans (wI xs lo hi) hz,_,0,(r.drop (HT.dX xs.length 0 lo)).take (HT.dX xs.length xs.length hi-HT.dX xs.length 0 lo),Heap.get?_push_size _ rfl⟩
def uF:ő X (.type "list") (λxs H Q=>∃p ys,xs=[.ref p]/\(ŝ X.K H p ys\/dh X.K H p ys)/\∀l,H l=none->Q (.ref l) (upd H l (.lst ys))):=by
 intro pins s σ H xs us Q I r h
 obtain⟨p,ys,rfl,hq,q⟩:=h
 obtain⟨u,rfl,rx⟩:=vals1 r
 cases rx
 have fin:∀(its:List Value),Vals ys its->ys.length<=sizeLine->∀(h':Heap) (c':Nat),(∀b o',s.heap.get? b=some o'->h'.get? b=some o')->
  h'.get? s.heap.objs.size=some {cls:=.type "list",dict:=none,data:=.seq its.toArray c',slots:=#[]}->EP X pins σ Q (.ref s.heap.objs.size) {s with heap:=h'}:=λits r' hz h' c' kp e=>
  ⟨.ref s.heap.objs.size,_,I.laid (t':=s.toks) kp (Nat.le_refl _) (show aj X.prog X.w _ h' _ (.lst ys) from⟨hz,its,c',r',e⟩),rfl,q _ (I.hok.fresh (Nat.le_refl _))⟩
 rcases hq with hq|hq
 ·obtain⟨its,r',pl,hz⟩:=I.list hq
  have hlen:=r'.length
  obtain⟨o,ho,hc,n,hd⟩:=pl.isList
  exact call_list_seq p (.inl rfl) ho hc hd (λh' c' kp e=>fin its r' hz h' c' kp e) (by simp only[List.size_toArray]<;>omega)
 ·obtain⟨its,r',pl,hz⟩:=I.tuple hq
  have hlen:=r'.length
  obtain⟨o,ho,hc,n,hd⟩:=pl
  exact call_list_seq p (.inr rfl) ho hc hd (λh' c' kp e=>fin its r' hz h' c' kp e) (by simp only[List.size_toArray]<;>omega)
def qZ:ő X (.type "tuple") (λxs H Q=>∃p ys,xs=[.ref p]/\((ŝ X.K H p ys/\∀l,H l=none->Q (.ref l) (upd H l (.tup ys)))\/(dh X.K H p ys/\Q (.ref p) H))):=by
 intro pins s σ H xs us Q I r h
 obtain⟨p,ys,rfl,h⟩:=h
 obtain⟨u,rfl,rx⟩:=vals1 r
 cases rx
 rcases h with⟨hq,q⟩|⟨hq,q⟩
 ·obtain⟨its,r',pl,hz⟩:=I.list hq
  have hlen:=r'.length
  refine call_tuple_list pl.isList (λh' kp=>?_) (by simp only[List.size_toArray]<;>omega)
  have I1:Inv X pins σ H {s with heap:=h'}:=I.kept (t':=s.toks) kp
  have I2:Inv X pins σ (upd H h'.objs.size (.tup ys)) {s with heap:=h'.push {cls:=.type "tuple",data:=.seq its.toArray}}:=
   I1.laid (t':=s.toks) (λb o e=>Heap.get?_push_of_some _ e) (Nat.le_refl _) (show aj X.prog X.w _ _ _ (.tup ys) from⟨hz,its,r',IsTup.new _ _⟩)
  exact⟨.ref h'.objs.size,_,I2,rfl,q _ (I1.hok.fresh (Nat.le_refl _))⟩
 ·obtain⟨its,r',pl,hz⟩:=I.tuple hq
  exact call_tuple_same pl ⟨.ref p,H,I,rfl,q⟩
def tyV(K:PySem.W.Frag)(T:String)(x:V)(H:Hp):Prop:=match x with
 | .str _=>T= "str"
 | .int _=>T= "int"
 | .ref p=>(T= "list" ∧∃xs,ŝ K H p xs)∨(T= "tuple" ∧∃o,K.lookup p=some o∧o.cls=.type "tuple" ∧o.dict=none)∨
     (T= "dict" /\((∃kvs,H p=some (.dK kvs))\/∃kvs,H p=some (.dT kvs)))\/(T= "set" /\∃S n,H p=some (.set S n))
 |_=>False
def Te{pins:List (Addr×Obj)}{σ:St}{H:Hp}{s:Shared}{T:String}{x:V}{v:Value}(I:Inv X pins σ H s)(r:RelV x v)(ty:tyV X.K T x H) :
 s.TypeIs v T/\∀a,v=.ref a->∃ob,s.heap.get? a=some ob/\ob.dict=none:=by
 cases x with
 |str z=>
  obtain⟨t,rfl⟩:=r
  cases(show T= "str" from ty)
  exact⟨typeIs_str s z t,λ_ e=>nomatch e⟩
 |int i=>
  obtain⟨t,rfl⟩:=r
  cases(show T= "int" from ty)
  exact⟨typeIs_int s i t,λ_ e=>nomatch e⟩
 |ref p=>
  cases r
  rcases ty with⟨rfl,xs,hq⟩|⟨rfl,o,hk,hc,hd⟩|⟨rfl,hk⟩|⟨rfl,S,n,hk⟩
  ·obtain⟨its,_,pl,_⟩:=I.list hq
   refine⟨pl.isList.typeIs,λa e=>?_⟩
   cases e
   obtain⟨o,n,e,c,hd,_⟩:=pl
   exact⟨o,e,hd⟩
  ·refine⟨⟨o,I.kJ p o hk,hc⟩,λa e=>?_⟩
   cases e
   exact⟨o,I.kJ _ o hk,hd⟩
  ·have z:∃o,s.heap.get? p=some o∧o.ExactDict:=by
    rcases hk with⟨kvs,hk⟩|⟨kvs,hk⟩
    ·obtain⟨_,_,_,_,o,_,_,e,ex,_⟩:=I.hok p _ hk
     exact⟨o,e,ex⟩
    ·obtain⟨_,_,_,_,o,_,_,e,ex,_⟩:=I.hok p _ hk
     exact⟨o,e,ex⟩
   obtain⟨o,e,ex⟩:=z
   refine⟨⟨o,e,ex.1⟩,λa e2=>?_⟩
   cases e2
   exact⟨o,e,ex.2.1⟩
  ·obtain⟨o,_,_,_,e,ex,_⟩:=I.hok p _ hk
   refine⟨⟨o,e,ex.1⟩,λa e2=>?_⟩
   cases e2
   exact⟨o,e,ex.2.1⟩
 |_=>exact False.elim ty
def Tf(K:PySem.W.Frag)(T:String)(r:V->List V->Hp->VK->Prop)(to:TE)(t:TA):TE:=λσ H Q=>to σ H λx H1=>tyV K T x H1/\t σ H1 λxs H2=>r x xs H2 Q
variable{o e:Expr}{es:List Expr}{to:TE}{t:TA}{name:Str}{apos cpos:Pos}{T id:String}{r:V->List V->Hp->VK->Prop}
def aD(pa:PlainAttrs T)(slot:Slot T name id)(hty:typeOf (.builtin id)=pure (.type "method_descriptor"))(hm:Xn X id r)(ho:PE X o to)(ha:PA X (e::es) t)
 (hbase:attributeBase o name X.env (eval o X.env)=eval o X.env:=by rfl)
 (hfew:((backTo cpos (starEach (e::es) X.env)).all (fun x=>!x.1) && (backToKw cpos (keywordEach [] X.env)).all (fun x=>x.1.isSome)
   && decide ((e::es).length+([]:List Keyword).length+(if([]:List Keyword).isEmpty then 0 else 1)<30))=true:=by rfl)
 (hline:(apos.endLine== cpos.line)=true:=by rfl)(hs:starEach (e::es) X.env=(false,eval e X.env)::starEach es X.env:=by rfl)(hplain:(backTo cpos (starEach es X.env)).any (·.1)=false:=by rfl) :
 PE X (.Call (.Attribute o name apos) (e::es) [] cpos) (Tf X.K T r to t):=by
 intro pins s σ H Q I h
 refine wpAny_Call_method_late hbase hfew hline rfl (ņ (ho pins s σ H _ I h) λv s1 ⟨x,H1,I1,r1,ty,q1⟩=>?_)
 obtain⟨h1,h2⟩:=Te I1 r1 ty
 refine⟨T,id,pa,slot,hty,h1,h2,?_⟩
 have hA:=ha cpos pins s1 σ H1 _ I1 q1
 rw[hs] at hA ⊢
 refine Calls.callWith_builtin (by show(false || (backTo cpos (starEach es X.env)).any (·.1))=false;rw[hplain]<;>rfl) (Calls.evalArgs_plain ?_)
 exact ņ hA λus s2 ⟨vs,H2,I2,r2,q2⟩=>hm pins s2 σ H2 x vs v us Q I2 r1 r2 q2
end
end L2
namespace L2
open PySem PySem.Spec PyProof.Rows
def MtM(X:Cx)(id:String)(r:V->List V->Hp->VK->Prop):Prop:=
 ∀(pins:List (Addr×Obj)) (s:Shared) (σ:St) (H:Hp) (x:V) (xs:List V) (v:Value) (us:List Value) (Q:VK),Inv X pins σ H s->RelV x v->Vals xs us->r x xs H Q->
  wpAny (model X.prog X.w) X.A (call (.builtin id) (v::us)) (EP X pins σ Q) X.xe s
theorem Vals.one:∀{x:V} {us:List Value},Vals [x] us->∃u,us=[u]/\RelV x u
 |_,_,.cons r .nil=>⟨_,rfl,r⟩
section
variable{X:Cx}{pins:List (Addr×Obj)}{σ:St}{H:Hp}{s:Shared}{l b:Addr}{xs ys zs:List V}
def Inv.Yp{its its':List Value}{n:Nat}{f:Array Value->Array Value}{t':Nat}(I:Inv X pins σ H s)(hH:H l=some (.lst xs))
 (e:s.heap.get? l=some {cls:=.type "list",data:=.seq its.toArray n})(hf:f its.toArray=its'.toArray)(hv:Vals ys its')(hz:ys.length<=sizeLine) :
 Inv X pins σ (upd H l (.lst ys)) {s with heap:=s.heap.update l (Obj.mapSeq f),toks:=t'}:=by
 have q:=PySem.IsL.update e f
 rw[hf] at q
 refine I.write (x:=l) (e:=l) (by rw[hH];exact trivial) (.inl rfl) (λb' u hb hu=>(Heap.get?_update_other s.heap (Obj.mapSeq f) (Ne.symm hb)).trans hu) ⟨_,q⟩ ?_
 exact⟨hz,its',_,hv,q⟩
def Inv.Zcw{its:List Value}{t':Nat}(I:Inv X pins σ H s)(hv:Vals ys its)(hz:ys.length<=sizeLine) :
 Inv X pins σ (upd H s.heap.objs.size (.lst ys)) {s with heap:=s.heap.push {cls:=.type "list",data:=.seq its.toArray},toks:=t'}:=
 I.laid (λ_ _ q=>Heap.get?_push_of_some _ q) (Nat.le_refl _) ⟨hz,its,0,hv,Heap.get?_push_size _ rfl⟩
theorem Inv.fresh(I:Inv X pins σ H s):H s.heap.objs.size=none:=I.hok.fresh (Nat.le_refl _)
def Inv.Ti(I:Inv X pins σ H s)(hH:H l=some (.lst xs)):xs.length<=sizeLine/\∃(its:List Value) (n:Nat),Vals xs its/\xs.length=its.length/\s.heap.get? l=some {cls:=.type "list",data:=.seq its.toArray n}:=by
 obtain⟨z,its,n,r,e⟩:=I.hok l _ hH
 exact⟨z,its,n,r,r.length,e⟩
def Ft{n:Nat}(h:n<=sizeLine):Builtin.List.listTooLong n=false:=by
 unfold Builtin.List.listTooLong
 exact decide_eq_false (by omega)
end
section
variable{X:Cx}
def gW:V->List V->Hp->VK->Prop:=λx vs H Q=>∃l xs y,x=.ref l/\vs=[y]/\H l=some (.lst xs)/\xs.length<sizeLine/\Q .non (upd H l (.lst (xs ++ [y])))
def ı:MtM X "list.append" gW:=by
 intro pins s σ H x vs v us Q I rx rv h
 obtain⟨l,xs,y,rfl,rfl,hH,hz,q⟩:=h
 cases rx
 obtain⟨u,rfl,ru⟩:=rv.one
 obtain⟨z,its,n,r,hl,e⟩:=I.Ti hH
 refine call_meets F.slot_list_append ⟨_,e,rfl⟩ F.entry_list_append (F.args_list_append_2 _ _) (PySem.list_append l its.toArray n u (by rw[List.size_toArray];omega)) ⟨e,?_⟩
 refine⟨.non,_,I.Yp (its':=its ++ [u]) hH e (by simp) (r.append (.cons ru .nil)) ?_,rfl,q⟩
 rw[List.length_append,List.length_singleton]
 omega
def Ay:V->List V->Hp->VK->Prop:=λx vs H Q=>∃l b xs zs,x=.ref l/\vs=[.ref b]/\H l=some (.lst xs)/\H b=some (.lst zs)/\xs.length+zs.length<=sizeLine/\Q .non (upd H l (.lst (xs++zs)))
def rZ:MtM X "list.extend" Ay:=by
 intro pins s σ H x vs v us Q I rx rv h
 obtain⟨l,b,xs,zs,rfl,rfl,hH,hB,hz,q⟩:=h
 cases rx
 obtain⟨u,rfl,ru⟩:=rv.one
 cases ru
 obtain⟨z,its,n,r,hl,e⟩:=I.Ti hH
 obtain⟨z2,its2,n2,r2,hl2,e2⟩:=I.Ti hB
 have hsz:its.toArray.size+its2.toArray.size<=sizeLine:=by rw[List.size_toArray,List.size_toArray];omega
 have Yq:¬(!its.toArray.isEmpty && Builtin.List.listTooLong (its.toArray.size+its2.toArray.size))=true:=by
  rw[Ft hsz,Bool.and_false]
  exact Bool.false_ne_true
 refine call_meets F.slot_list_extend ⟨_,e,rfl⟩ F.entry_list_extend (F.args_list_extend_2 _ _)
  (AutoSeq1.list_extend_list_list_0 l its.toArray n b its2.toArray n2 Yq (by rw[List.size_toArray];omega) (by omega)) ⟨e,e2,?_⟩
 refine⟨.non,_,I.Yp (its':=its++its2) hH e (by simp) (r.append r2) ?_,rfl,q⟩
 rw[List.length_append]
 omega
end
section
variable{prog:Program}{w:World}{A:Around}{E:Value->Shared->Prop}{s:Shared}
end
section
variable{X:Cx}
end
end L2
namespace Att
open PySem PySem.W PySem.Calls PyProof.Rows
def nO{P:Params}{h:Heap}:∀(ns:List Int) (vs:List Value),WellAll P h vs (ns.map WData.int)->IntsAre vs ns:=by
 intro ns
 induction ns with
 |nil=>
  intro vs w
  rw[List.map_nil] at w
  cases w
  exact .nil
 |cons n ns ih=>
  intro vs w
  rw[List.map_cons] at w
  cases w with
  |cons a b=>
   cases a
   exact .cons _ _ (ih _ b)
def Di{l:OpenLaw}{n:Nat}(hn:l.most=some n){P:Params}{h:Heap}{args:List WData}{vals:List Value}
 (hpre:l.row.toRowW.claim.pre args=true)(hwl:WellAll P h vals args) :
 ∃a vs ns,vals=[Value.ref a]/\args=[WData.list (ns.map WData.int)]/\h.get? a=some {cls:=.type "list",data:=.seq vs.toArray}/\IntsAre vs ns/\ns.length<=n:=by
 have hsh:WShape.hasAll [] args [.list .int]=true:=(pre_splitW hpre).1
 have hc:l.pre.holds [] {args:=args}=true:=(pre_splitW hpre).2
 obtain⟨d,r,rfl,h1,h2⟩:=hasAllW_cons hsh
 obtain rfl:=hasAllW_nil h2
 obtain⟨xs,rfl,h3⟩:=hasW_list h1
 obtain⟨ns,rfl⟩:=items_int h3
 have hlen:ns.length<=n:=by
  unfold OpenLaw.pre at hc
  have h4:(WTm.not (.lt (.lit (.int (n:Int))) (.len (.arg 0)))).holds [] {args:=[.list (ns.map .int)]}=true:=by
   have h4:=(holds_andW hc).1
   rw[hn] at h4
   exact h4
  have h5:=condW_of h4 (w_not (w_lt w_lit (w_len_list (w_arg rfl))))
  rw[List.length_map] at h5
  refine Nat.le_of_not_lt λq=>?_
  have q':(n:Int)<((ns.length:Nat):Int):=by omega
  first
   |(rw[decide_eq_true q'] at h5;exact absurd h5 (by decide))
   |(simp at h5;omega)
 cases hwl with
 |cons w1 w2=>
  cases w2
  cases w1 with
  |list ho hall=>exact⟨_,_,ns,rfl,rfl,ho,nO ns _ hall,hlen⟩
def Dj(l:OpenLaw)(args:List WData):l.row.toRowW.claim.post args (.bool true) args=true:=
 postW_of (r:=l.row.toRowW) (X:=(true== true))
  (show WShape.has [] (.bool true) .bool=true by first|rfl|decide|simp[WShape.has,WShape.arms,WShape.armsAll])
  (show(WTm.eq .res (.lit (.bool true))).value [] {args:=args,res:=some (.bool true),after:=args}=some (.bool (true== true)) from w_eq_bool (w_res rfl) w_lit) rfl
def wJ{l:OpenLaw}{n:Nat}{q:Program}{loose:List Str}{XP:(Str->Option Value)->Heap->Prop}{YP:World->Heap->Prop}{d:DefRec}
 (hn:l.most=some n)(hdf:d.params.defaults=[])
 (call:∀(w:World) (s₀ s₁:Shared) (mg mb:Str→Option Value) (fa:Addr) (o:Obj) (pm cd doc:Value) (a:Addr) (vs:List Value) (ns:List Int),
   Ground q loose [] XP w s₀ mg mb s₁.heap->YP w s₁.heap->
   s₁.heap.get? fa=some o->o.data=.func (docDef d.name d.params d.body d.scope pm cd doc)->s₁.heap.CodeRec cd d.name->mg d.name=some (.ref fa)->
   s₁.heap.get? a=some {cls:=.type "list",data:=.seq vs.toArray}->IntsAre vs ns->ns.length<=n->s₁.gens= #[]->
   codeAny (model l.prog w) callerA (.call (.ref fa) ⟨[.ref a],[]⟩) (λr s'=>r=.ok (.ret (.bool true))/\OldK s₁.heap s'.heap/\s'.os=s₁.os/\AllBare s'.gens) s₁) :
 WalkO q loose XP YP l.row.toRowW d [] (λf vs=>PySem.call f vs):=by
 intro w s₀ s₁ mg mb G Y fa o pm cd doc dV kV ho hd hcd hD hmg hg args vals as hpre hlay hrd hwl hlo
 obtain rfl:dV=.none:=Dflts.none hD hdf
 obtain rfl:kV=.none:=Dflts.noKw hD
 obtain⟨a,vs,ns,rfl,rfl,hobj,hints,hlen⟩:=Di hn hpre hwl
 refine enter_call (codeAny_mono (call w s₀ s₁ mg mb fa o pm cd doc a vs ns G Y ho (fd_plain hd) hcd hmg hobj hints hlen hg) λr s' hq=>?_)
 obtain⟨rfl,h2,h3,h4⟩:=hq
 exact⟨.inl ⟨.bool true,.bool true,[],rfl,λ_=>rfl,.bool true,Dj l _,λ_=>⟨List.Pairwise.nil,λ_ hm=>(nomatch hm)⟩⟩,h2,h3,h4⟩
section
variable{prog:Program}{w:World}{A:Around}{E:Value->Shared->Prop}{s:Shared}{K:Frag}
end
end Att
namespace L2
open PySem PySem.Spec PyProof.Rows
theorem su:∀{vs:List Value} {ns:List Int},IntsAre vs ns->Vals (ns.map V.int) vs
 |_,_,.nil=>.nil
 |_,_,.cons n t h=>.cons ⟨t,rfl⟩ (su h)
def Only(H:Hp):Prop:=∀b,H b=none\/(∃o xs,H b=some (.bM o (.lst xs)))\/∃q,H b=some (.gk q)
def gw(K:PySem.W.Frag):List Str->Hp
 | []=>λ_=>none
 |y::r=>λb=>match PySem.W.tabIn K y with
  |some (_,P)=>if b=P then some (.gk (uo y)) else gw K r b
  |none=>gw K r b
theorem cR{K:PySem.W.Frag}:∀{l:List Str} {b:Addr} {u:HO},gw K l b=some u->∃y c,y∈l/\PySem.W.tabIn K y=some (c,b)/\u=.gk (uo y)
 | [],_,_,h=>by cases(show(none:Option HO)=some _ from h)
 |y::r,b,u,h=>by
  have h':(match PySem.W.tabIn K y with
   |some (_,P)=>if b=P then some (.gk (uo y)) else gw K r b
   |none=>gw K r b)=some u:=h
  have rc:gw K r b=some u->∃z c,z∈y::r/\PySem.W.tabIn K z=some (c,b)/\u=.gk (uo z):=λq=>
   let ⟨z,c,h1,h2,h3⟩:=cR q
   ⟨z,c,List.mem_cons_of_mem _ h1,h2,h3⟩
  cases e:PySem.W.tabIn K y with
  |none=>rw[e] at h';exact rc h'
  |some p=>
   obtain⟨c,P⟩:=p
   rw[e] at h'
   have h2:(if b=P then some (HO.gk (uo y)) else gw K r b)=some u:=h'
   by_cases hb:b=P
   ·rw[if_pos hb] at h2
    cases h2
    exact⟨y,c,List.mem_cons_self,by rw[hb];exact e,rfl⟩
   ·rw[if_neg hb] at h2
    exact rc h2
theorem Az{K:PySem.W.Frag}{y:Str}{c P:Addr}(e:PySem.W.tabIn K y=some (c,P)):∀{l:List Str},(∀z∈l,z=y)->y∈l->gw K l P=some (.gk (uo y))
 | [],_,h=>by cases h
 |z::r,h1,_=>by
  have hz:=h1 z List.mem_cons_self
  subst hz
  show(match PySem.W.tabIn K z with
   |some (_,Q)=>if P=Q then some (HO.gk (uo z)) else gw K r P
   |none=>gw K r P)=_
  rw[e]
  exact if_pos rfl
def Fv{P:Program}{w:World}{K:PySem.W.Frag}{mg mb:Str->Option Value}{CX:jh}{k:Nat}{fa a:Addr}{fd:FuncData}{x:Str}{sp:Sp}{s₁:Shared}{vs:List Value}{ns:List Int}
 (KX:K.In s₁.heap)(hns:s₁.heap.Ns mainGlobals mg)(hb:s₁.heap.Ns builtinsNs mb)(hbb:∀x:Str,x≠ "__name__" ->mb x=bootBuiltins x)(hlim:s₁.heap.NoLimit)(hg:s₁.gens= #[])
 (ha:s₁.heap.get? a=some {cls:=.type "list",data:=.seq vs.toArray})(hi:IntsAre vs ns)(hl:ns.length<=sizeLine)(hr:Ū k callerA)
 (F:∀base:Heap,K.In base->base.Ns mainGlobals mg->ī P w K mg base CX k fa fd [x] sp)(hbind:∀(s:Shared) (u:Value),BindsTo s fd ⟨[u],[]⟩ [(x,u)])
 (hsp:∀H:Hp,Only H->ŝ K H a (ns.map V.int)->sp [.ref a] H (λv _=>v=.bl true) λ_ _ _=>False)
 (Yr:∀H e s',CX [] H s₁ (λ_ _ _=>False) e s'->False)
 (hnt:lams≠[]->PySem.W.noTabs K=true)(hone:∀y z,y∈lams->z∈lams->y=z)(htb:∀y c Pt,y∈lams->PySem.W.tabIn K y=some (c,Pt)->PySem.W.CodeHd s₁.heap c Pt/\s₁.heap.get? Pt=some (PySem.W.tabObj #[])/\s₁.heap.BuiltinsAt mg Pt) :
 codeAny (model P w) callerA (.call (.ref fa) ⟨[.ref a],[]⟩) (λr s'=>r=.ok (.ret (.bool true))/\OldK s₁.heap s'.heap/\s'.os=s₁.os/\AllBare s'.gens) s₁:= by
 have rv:=su hi
 have lenV:=hi.length
 -- from an abstract heap in which nothing but the script may be tracked
 have core:∀H:Hp,Only H->ŝ K H a (ns.map V.int)->jB P w H s₁.heap->(∀b,H b≠none->b=a\/∃y c,y∈lams/\PySem.W.tabIn K y=some (c,b))->(H a≠none->K.lookup a=none)->(∀y c Pt,y∈lams->PySem.W.tabIn K y=some (c,Pt)->H Pt=some (.gk (uo y)))->
  codeAny (model P w) callerA (.call (.ref fa) ⟨[.ref a],[]⟩) (λr s'=>r=.ok (.ret (.bool true))/\OldK s₁.heap s'.heap/\s'.os=s₁.os/\AllBare s'.gens) s₁:= by
  intro H hO hS hok hA hK hT
  have oG:∀{b:Addr} {o:Obj},s₁.heap.get? b=some o->H b=none->(qW s₁.heap H).get? b=some o:=λe n=>Eo e n
  have Yj:∀{b:Addr} {o:Obj} {es:Array DictEntry} {ep:Nat},s₁.heap.get? b=some o->o.data=.dict es ep->H b=none:=fun{b o es ep} e d=>by
   cases q:H b with
   |none=>rfl
   |some u=>
    rcases hA b (by rw[q];simp) with e'|⟨y,c,hy,hty⟩
    ·subst e'
     rw[ha] at e;cases e
     have d':Data.seq vs.toArray _=Data.dict es ep:=d
     cases d'
    ·have e2:=(htb y c b hy hty).2.1
     rw[e] at e2;cases e2;cases d
  have nsK:∀{b:Addr} {m:Str->Option Value},s₁.heap.Ns b m->(qW s₁.heap H).Ns b m:=fun{b m} ⟨o,es,ep,e,d,r⟩=>⟨o,es,ep,oG e (Yj e d),d,r⟩
  have hKb:K.In (qW s₁.heap H):=λb o e=>oG (KX b o e) (by
   cases q:H b with
   |none=>rfl
   |some u=>
    rcases hA b (by rw[q];simp) with e'|⟨y,c,hy,hty⟩
    ·subst e'
     rw[hK (by rw[q];simp)] at e;cases e
    ·have e2:=(htb y c b hy hty).2.1
     rw[KX b o e] at e2
     cases e2
     have h2:=List.all_eq_true.mp (hnt (λz=>by rw[z] at hy;cases hy)) (b,_) (PySem.W.mem_of_lookupK e)
     exact absurd (show false=true from h2) Bool.false_ne_true)
  have hM:Mod K mg (qW s₁.heap H):=⟨hKb,nsK hns,⟨mb,nsK hb,hbb⟩,let ⟨mc,h1,h2⟩:=hlim;⟨mc,nsK h1,h2⟩⟩
  have hTB:TabsOk K mg (qW s₁.heap H) H:=λy c Pt hy hty=>by
   obtain⟨⟨o,us,file,tf,flags,tg,inF,text,tt,e1,r1,r2⟩,_,bm,ob,b1,b2,b3,b4,b5,b6,b7⟩:=htb y c Pt hy hty
   refine⟨⟨o,us,file,tf,flags,tg,inF,text,tt,oG e1 ?_,r1,r2⟩,hT y c Pt hy hty,bm,ob,b1,b2,b3,b4,oG b5 ?_,b6,b7⟩
   rotate_left
   ·cases q:H bm with
    |none=>rfl
    |some u=>
     rcases hA bm (by rw[q];simp) with e'|⟨z,c2,hz,htz⟩
     ·rw[e',ha] at b5;cases b5;exact absurd (Value.type.inj b6) (by decide)
     ·have e2:=(htb z c2 bm hz htz).2.1
      rw[b5] at e2;cases e2;cases b6
   cases q:H c with
   |none=>rfl
   |some u=>
    rcases hA c (by rw[q];simp) with e'|⟨z,c2,hz,htz⟩
    ·rw[e',ha] at e1;cases e1;exact absurd (Value.type.inj r1) (by decide)
    ·have e2:=(htb z c2 c hz htz).2.1
     rw[e1] at e2;cases e2;cases r1
  have e0:zp P w K mg (qW s₁.heap H) callerA [] s₁ H:=⟨rfl,hM,λb o e=>JL e,Nat.le_of_eq (CN _ _),trivial,λb hb=>absurd (show b∈([]:List Addr) from hb) (by simp),hok,.of_eq hg,hTB⟩
  refine codeAny_mono ((F _ hKb (nsK hns)).run callerA [] s₁ H ⟨[.ref a],[]⟩ [.ref a] [.ref a] _ _ hr e0 (hbind s₁ (.ref a)) (.cons rfl .nil) (hsp H hO hS)) λr s' h=>?_
  cases r with
  |error e=>exact(Yr H e s' h).elim
  |ok fl=>
   cases fl with
   |next=>exact False.elim h
   |brk=>exact False.elim h
   |cont=>exact False.elim h
   |ret u=>
    obtain⟨v,H',os,bare,un,hok',r',q⟩:=h
    have q':v=.bl true:=q
    subst q'
    obtain rfl:u=Value.bool true:=r'
    have old:∀b o,s₁.heap.get? b=some o->(∀t,H b≠some (.gk t))->s'.heap.get? b=some o:=?_
    ·refine⟨rfl,⟨λb o e=>?_,λb o e=>?_⟩,os,bare⟩
     ·by_cases ht:∃t,H b=some (.gk t)
      ·obtain⟨t,ht⟩:=ht
       obtain⟨ps,e1,_⟩:=hok' b _ (un.nJ b t ht)
       rcases hA b (by rw[ht];simp) with e'|⟨y,c,hy,hty⟩
       ·subst e'
        obtain⟨ps2,e3,_⟩:=hok b _ ht
        rw[ha] at e3;cases e3
       ·obtain⟨⟨o2,us,file,tf,flags,tg,inF,text,tt,f1,f2,f3,f4,_⟩,e2,_⟩:=htb y c b hy hty
        rw[e] at e2;cases e2
        exact .inr (.inl ⟨⟨c,o2,us,f1,f2,f3,f4⟩,rfl,#[],ps,rfl,by rw[e1];simp⟩)
      ·exact .inl (old b o e λt z=>ht ⟨t,z⟩)
     ·by_cases ht:∃t,H b=some (.gk t)
      ·obtain⟨t,ht⟩:=ht
       obtain⟨ps,e1,_⟩:=hok' b _ (un.nJ b t ht)
       exact⟨_,e1⟩
      ·exact⟨o,old b o e λt z=>ht ⟨t,z⟩⟩
    intro b o e nt
    cases q:H b with
    |none=>exact un.keep b o e q (by intro z;exact absurd (show b∈([]:List Addr) from z) (by simp)) (by simp)
    |some u=>
     rcases hO b with z|⟨ob,xs,z⟩|⟨t,z⟩
     ·rw[q] at z;cases z
     rotate_left
     ·exact absurd z (nt t)
     ·have z2:=un.qU b ob _ z
      obtain⟨e1,_⟩:=hok b _ z
      obtain⟨e2,_⟩:=hok' b _ z2
      rw[e] at e1;cases e1
      exact e2
 cases hk:K.lookup a with
 |some o=>
  -- the script is one of the module's own objects
  have e:=KX a o hk
  rw[ha] at e
  cases e
  refine core (gw K lams) (λb=>?_) (.inr ⟨_,vs.toArray,_,hk,rfl,rfl,rfl,by rw[List.size_toArray,lenV];exact hl,by simpa using rv⟩) (λb u z=>?_) (λb z=>?_) (λz=>?_) λy c Pt hy hty=>Az hty (λz hz=>hone z y hz hy) hy
  ·cases q:gw K lams b with
   |none=>exact .inl rfl
   |some u=>obtain⟨y,c,_,_,rfl⟩:=cR q;exact .inr (.inr ⟨_,rfl⟩)
  ·obtain⟨y,c,hy,hty,rfl⟩:=cR z
   exact⟨#[],(htb y c b hy hty).2.1,trivial,λpos cv z=>by cases z⟩
  ·cases q:gw K lams b with
   |none=>exact absurd q z
   |some u=>obtain⟨y,c,hy,hty,_⟩:=cR q;exact .inr ⟨y,c,hy,hty⟩
  ·cases q:gw K lams a with
   |none=>exact absurd q z
   |some u=>
    obtain⟨y,c,hy,hty,_⟩:=cR q
    have e2:=(htb y c a hy hty).2.1
    rw[ha] at e2;cases e2
 |none=>
  refine core (λb=>if b=a then some (.bM {cls:=.type "list",data:=.seq vs.toArray} (.lst (ns.map V.int))) else gw K lams b) (λb=>?_) (.inl (.inr ⟨{cls:=.type "list",data:=.seq vs.toArray},if_pos rfl⟩)) (λb u z=>?_) (λb z=>?_) (λ_=>hk) λy c Pt hy hty=>?_
  ·by_cases hb:b=a
   ·exact .inr (.inl ⟨_,_,if_pos hb⟩)
   ·cases q:gw K lams b with
    |none=>exact .inl ((if_neg hb).trans q)
    |some u=>obtain⟨y,c,_,_,rfl⟩:=cR q;exact .inr (.inr ⟨_,(if_neg hb).trans q⟩)
  ·by_cases hb:b=a
   ·have z':=(if_pos hb).symm.trans z
    cases z'
    subst hb
    exact⟨ha,by rw[List.length_map];exact hl,vs,_,rv,ha⟩
   ·have z':=(if_neg hb).symm.trans z
    obtain⟨y,c,hy,hty,rfl⟩:=cR z'
    exact⟨#[],(htb y c b hy hty).2.1,trivial,λpos cv z=>by cases z⟩
  ·by_cases hb:b=a
   ·exact .inl hb
   ·cases q:gw K lams b with
    |none=>exact absurd ((if_neg hb).trans q) z
    |some u=>obtain⟨y,c,hy,hty,_⟩:=cR q;exact .inr ⟨y,c,hy,hty⟩
  ·have ne:Pt≠a:=fun z=>by
    subst z
    have e2:=(htb y c _ hy hty).2.1
    rw[ha] at e2;cases e2
   exact(if_neg ne).trans (Az hty (λz hz=>hone z y hz hy) hy)
end L2
namespace L2
open PySem PySem.Spec PyProof.Rows
def Ke{p:Program}{loose:List Str}{mean:ExcName->Option Value}{mg mb:Str->Option Value}{h:Heap}{K:PySem.W.Frag}{d:DefRec}{x:Str}{c P:Addr}(T:Top p loose mean mg mb h)(X:K.In h)(hr:(recsOf p).find? (λe=>e.name== x)=some d)(ht:PySem.W.tabIn K x=some (c,P)) :
 PySem.W.CodeHd h c P/\h.get? P=some (PySem.W.tabObj #[])/\h.BuiltinsAt mg P:=by
 obtain⟨h1,h2⟩:=PySem.W.tab_of T X hr ht
 obtain⟨bm,ob,b1,b2,b3,b4,b5,b6⟩:=T.bmain
 have hbP:bm≠P:=λq=>by rw[q,h2] at b3;cases b3;cases b4
 have hbG:bm≠mainGlobals:=λq=>by
  obtain⟨o,es,ep,e,hd,_⟩:=T.g
  rw[q,e] at b3;cases b3;rw[hd] at b6;cases b6
 exact⟨h1,h2,bm,ob,b1,b2,hbG,hbP,b3,b4,b5,b6⟩
def Kf{l:PySem.W.OpenLaw}{n k:Nat}{q:Program}{loose:List Str}{XP:(Str->Option Value)->Heap->Prop}{YP:World->Heap->Prop}{d:DefRec}{K:Params->PySem.W.Frag}{CX:World->jh}{sp:World->Sp}{x:Str}
 (hn:l.most=some n)(hn2:n<=sizeLine)(hdf:d.params.defaults=[])(hr:Ū k callerA)
 (hY:∀(w:World) (h:Heap),YP w h->(K w.params).In h)
 (F:∀(w:World) (mg:Str→Option Value) (fa:Addr) (h:Heap),(K w.params).In h→h.Ns mainGlobals mg→mg d.name=some (.ref fa)→
   ∃fd:FuncData,(∀(s:Shared) (u:Value),BindsTo s fd ⟨[u],[]⟩ [(x,u)])/\
    ∀base:Heap,(K w.params).In base->base.Ns mainGlobals mg->ī l.prog w (K w.params) mg base (CX w) k fa fd [x] (sp w))
 (hsp:∀(w:World) (H:Hp) (a:Addr) (ns:List Int),ns.length<=n->Only H->ŝ (K w.params) H a (ns.map V.int)->sp w [.ref a] H (λv _=>v=.bl true) λ_ _ _=>False)
 (Yr:∀(w:World) (H:Hp) (s:Shared) (e:Value) (s':Shared),CX w [] H s (λ_ _ _=>False) e s'->False)
 (hnt:lams≠[]->∀w:World,PySem.W.noTabs (K w.params)=true:=by intro z;exact absurd rfl z)(hone:∀y z,y∈lams->z∈lams->y=z:=by simp[lams])(hrec:∀y,y∈lams->∃d,(recsOf q).find? (λe=>e.name== y)=some d:=by simp[lams]) :
 PySem.W.WalkO q loose XP YP l.row.toRowW d [] (λf vs=>PySem.call f vs):=by
 refine Att.wJ hn hdf λw s₀ s₁ mg mb fa o pm cd doc a vs ns G Y ho hd hcd hmg hobj hints hlen hg=>?_
 have KX:=hY w _ Y
 obtain⟨fd,hb,hF⟩:=F w mg fa _ KX G.T.g hmg
 exact Fv KX G.T.g G.T.b G.T.builtins G.T.nolimit hg hobj hints (Nat.le_trans hlen hn2) hr hF hb (λH hO hS=>hsp w H a ns hlen hO hS) (λH e s'=>Yr w H s₁ e s') (λz=>hnt z w) hone λy c Pt hy hty=>let ⟨_,hr'⟩:=hrec y hy;Ke G.T KX hr' hty
end L2
namespace L2
open PySem PySem.Spec PyProof.Rows
def inClass(s:Stmt)(j:Nat):Stmt:=match s with
 | .ClassDef _ _ _ body _ _ _ _ _ _ _=>body.getD j (.Pass ⟨0,0,0,0⟩)
 |_=>.Pass ⟨0,0,0,0⟩
def bh(s:Stmt):Arguments:=match s with
 | .FunctionDef _ a _ _ _ _ _ _ _ _=>a
 |_=> {posonlyargs:=[],args:=[],vararg:=none,kwonlyargs:=[],kw_defaults:=[],kwarg:=none,defaults:=[]}
def ś(s:Stmt):List Stmt:=match s with
 | .FunctionDef _ _ b _ _ _ _ _ _ _=>b
 |_=>[]
def Ć(s:Stmt):Scope:=match s with
 | .FunctionDef _ _ _ _ _ _ sc _ _ _=>sc
 |_=> {kind:=.function,names:=[],isGenerator:=false,isCoroutine:=false}
abbrev bQ:jh:=λ_ _ _ _ _ _=>False
structure Jz(K:PySem.W.Frag)(x qual:Str)(st:Stmt)(f:Addr)(fd:FuncData):Prop where
 ex:∃(oc:Value) (od:Option Addr) (kV doc pm:Value) (an:Option Addr) (cdv ct:Value) (osl:Array (Option Value)),
   fd=PySem.W.fnOf x qual (bh st) (ś st) (Ć st) .none kV doc pm an cdv ct/\K.lookup f=some ⟨oc,od,.func fd,osl⟩/\PySem.W.codeIn K cdv qual=true
 kp:PySem.W.keepIn K (.ref f)=true
section
variable{P:Program}{w:World}{K:PySem.W.Frag}{mg:Str->Option Value}{base:Heap}
def Jz.binds{x qual:Str}{st:Stmt}{f:Addr}{fd:FuncData}{ps:List Str}(F:Jz K x qual st f fd)
 (h:∀(kV doc pm:Value) (an:Option Addr) (cdv ct:Value) (us:List Value),us.length=ps.length->bindArgs (PySem.W.fnOf x qual (bh st) (ś st) (Ć st) .none kV doc pm an cdv ct) ⟨us,[]⟩=pure (ps.zip us)):Binds K fd ps []:=by
 obtain⟨oc,od,kV,doc,pm,an,cdv,ct,osl,rfl,lk,hcd⟩:=F.ex
 exact .all (h kV doc pm an cdv ct)
def Fw{x qual:Str}{st:Stmt}{f:Addr}{oc:Value}{od an:Option Addr}{osl:Array (Option Value)}{kV doc pm cdv ct:Value}(l:K.lookup f=some ⟨oc,od,.func (PySem.W.fnOf x qual (bh st) (ś st) (Ć st) .none kV doc pm an cdv ct),osl⟩)
 (c:PySem.W.codeIn K cdv qual=true)(k:PySem.W.keepIn K (.ref f)=true):Jz K x qual st f (PySem.W.fnOf x qual (bh st) (ś st) (Ć st) .none kV doc pm an cdv ct):=⟨⟨oc,od,kV,doc,pm,an,cdv,ct,osl,rfl,l,c⟩,k⟩
end
section
variable{X:Cx}
def pv(i:Nat){x:Str}{pos:Pos}(hN:X.N[i]?=some x:=by rfl)(hv:El X.env.scope x:=by first|exact Or.inl rfl|exact Or.inr (Or.inl rfl)|exact Or.inr (Or.inr rfl))(hd:(x== ("__debug__" :Str))=false:=by decide)
 (hcd:(x== ("__classdict__" :Str))=false:=by decide):PE X (.Name x pos) (bG i):=gn hN hv hd hcd
end
def Same(H H':Hp):Prop:=∀b o,H b=some o->H' b=some o
def Same.refl(H:Hp):Same H H:=λ_ _ h=>h
def Same.trans{H H1 H2:Hp}(a:Same H H1)(b:Same H1 H2):Same H H2:=λc o h=>b c o (a c o h)
def Same.free{H H':Hp}(e:Same H H'){l:Addr}(h:H' l=Option.none):H l=Option.none:=by
 cases q:H l with
 |none=>rfl
 |some o=>
  rw[e l o q] at h
  cases h
def Same.seq{K:PySem.W.Frag}{H H':Hp}{a:Addr}{xs:List V}(e:Same H H')(h:ŝ K H a xs):ŝ K H' a xs:=by
 rcases h with(h|⟨o,h⟩)|h
 ·exact .inl (.inl (e _ _ h))
 ·exact .inl (.inr ⟨o,e _ _ h⟩)
 ·exact .inr h
end L2
namespace M2
open PySem PySem.Spec PyProof.Rows L2
section
variable{X:Cx}{a b c e:Expr}{ta tb tc te:TE}{pos:Pos}
def PE.wk{t t':TE}(h:PE X e t)(i:∀σ H Q,t' σ H Q->t σ H Q):PE X e t':=λpins s σ H Q I q=>h pins s σ H Q I (i σ H Q q)
def PS.wk{st:Stmt}{t t':TS}(h:PS X st t)(i:∀D σ H,t' D σ H->t D σ H):PS X st t':=λpins s σ H D I q=>h pins s σ H D I (i D σ H q)
def aC.wk{f:Value->Value->Sem Value}{r r':R2}(h:aC X f r)(i:∀x y H Q,r' x y H Q->r x y H Q):aC X f r':=λpins s σ H x y v u Q I rx ry q=>h pins s σ H x y v u Q I rx ry (i x y H Q q)
def JT.wk{f:Value->Sem Value}{r r':V->Hp->VK->Prop}(h:JT X f r)(i:∀x H Q,r' x H Q->r x H Q):JT X f r':=λpins s σ H x v Q I rx q=>h pins s σ H x v Q I rx (i x H Q q)
def ő.wk{f:Value}{r r':List V->Hp->VK->Prop}(h:ő X f r)(i:∀xs H Q,r' xs H Q->r xs H Q):ő X f r':=λpins s σ H xs us Q I r q=>h pins s σ H xs us Q I r (i xs H Q q)
def zq.wk{r r':R2}(h:zq X r)(i:∀x y H Q,r' x y H Q->r x y H Q):zq X r':=λva sl pins s σ H x y v u Q I rx ry q=>h va sl pins s σ H x y v u Q I rx ry (i x y H Q q)
def Aw.wk{r r':V->Option Int->Option Int->Hp->VK->Prop}(h:Aw X r)(i:∀x lo hi H Q,r' x lo hi H Q->r x lo hi H Q):Aw X r':=λpins s σ H x v vl vu lo hi sl Q I rx hs pl pu q=>h pins s σ H x v vl vu lo hi sl Q I rx hs pl pu (i x lo hi H Q q)
def Tj(i:Nat):TE:=λσ H Q=>match σ[i]? with
 |some (some v)=>Q v H
 |_=>False
def Kg{i:Nat}{σ:L2.St}{H:Hp}{Q:VK}(h:Tj i σ H Q):bG i σ H Q:=by
 unfold Tj at h
 split at h
 ·exact⟨_,by assumption,h⟩
 ·exact h.elim
def mv(i:Nat){x:Str}{pos:Pos}(hN:X.N[i]?=some x:=by rfl)(hv:El X.env.scope x:=by first|exact Or.inl rfl|exact Or.inr (Or.inl rfl)|exact Or.inr (Or.inr rfl))(hd:(x== ("__debug__" :Str))=false:=by decide)
 (hcd:(x== ("__classdict__" :Str))=false:=by decide):PE X (.Name x pos) (Tj i):=PE.wk (gn hN hv hd hcd) λ_ _ _ h=>Kg h
def Xo(x:V)(k:Bool->Prop):Prop:=match x with
 | .bl c=>k c
 |_=>False
def ji{x:V}{k:Bool->Prop}(h:Xo x k):∃c,x=.bl c/\k c:=by
 cases x with
 |bl c=>exact⟨c,rfl,h⟩
 |_=>exact h.elim
def Fx(t:TE):TT:=λσ H Q=>t σ H λx H1=>Xo x λc=>Q c H1
def Tn{op:CmpOp}{r:R2}(ho:aC X (compareOp op) r)(ha:PE X a ta)(hb:PE X b tb)(hm:behindInMarks op b=false):PT X (.Compare a [op] [b] pos) (Fx (Mi r ta tb)):=by
 intro pins s σ H Q I h
 refine wpAny_isTrue_Compare1 (ņ (ha pins s σ H _ I h) λv s1 ⟨x,H1,I1,r1,q1⟩=>ņ (hb pins s1 σ H1 _ I1 q1) λu s2 ⟨y,H2,I2,r2,q2⟩=>
  ņ (ho pins s2 σ H2 x y v u _ I2 r1 r2 q2) λc s3 ⟨z,H3,I3,r3,q3⟩=>?_) hm
 obtain⟨k,e,q3⟩:=ji q3
 subst e
 cases r3
 exact wpAny_truthy_bool ⟨H3,I3,q3⟩
def zy(r r':R2)(ta tb tc:TE):TE:=λσ H Q=>ta σ H λx H1=>tb σ H1 λy H2=>r x y H2 λz H3=>Xo z λk=>
 (if k=true then tc σ H3 λw' H4=>r' y w' H4 Q else Q (.bl false) H3)
def Fy{op op':CmpOp}{r r':R2}(ho:aC X (compareOp op) r)(ho':aC X (compareOp op') r')(ha:PE X a ta)(hb:PE X b tb)(hc:PE X c tc)
 (hm:lastMarks [op,op'] [b,c]=false:=by with_unfolding_all rfl):PE X (.Compare a [op,op'] [b,c] pos) (zy r r' ta tb tc):=by
 intro pins s σ H Q I h
 refine Compare_chain (ņ (ha pins s σ H _ I h) λv s1 ⟨x,H1,I1,r1,q1⟩=>chain_link (ņ (hb pins s1 σ H1 _ I1 q1) λu s2 ⟨y,H2,I2,r2,q2⟩=>
  ņ (ho pins s2 σ H2 x y v u _ I2 r1 r2 q2) λd s3 ⟨z,H3,I3,r3,q3⟩=>?_)) hm
 obtain⟨k,e,q3⟩:=ji q3
 subst e
 cases r3
 refine wpAny_truthy_bool ?_
 cases k with
 |false=>exact ite_ff ⟨.bl false,H3,I3,rfl,q3⟩
 |true=>exact ite_tt (chain_last (ņ (hc pins s3 σ H3 _ I3 q3) λw' s4 ⟨z',H4,I4,r4,q4⟩=>ho' pins s4 σ H4 y z' u w' Q I4 r2 r4 q4))
def Fz{op op':CmpOp}{r r':R2}(ho:aC X (compareOp op) r)(ho':aC X (compareOp op') r')(ha:PE X a ta)(hb:PE X b tb)(hc:PE X c tc)
 (hm:lastMarks [op,op'] [b,c]=false:=by with_unfolding_all rfl):PT X (.Compare a [op,op'] [b,c] pos) (Fx (zy r r' ta tb tc)):=by
 intro pins s σ H Q I h
 refine isTrue_chain (ņ (ha pins s σ H _ I h) λv s1 ⟨x,H1,I1,r1,q1⟩=>test_link (ņ (hb pins s1 σ H1 _ I1 q1) λu s2 ⟨y,H2,I2,r2,q2⟩=>
  ņ (ho pins s2 σ H2 x y v u _ I2 r1 r2 q2) λd s3 ⟨z,H3,I3,r3,q3⟩=>?_)) hm
 obtain⟨k,e,q3⟩:=ji q3
 subst e
 cases r3
 refine wpAny_truthy_bool ?_
 cases k with
 |false=>exact ite_ff ⟨H3,I3,q3⟩
 |true=>
  refine ite_tt (test_last (ņ (hc pins s3 σ H3 _ I3 q3) λw' s4 ⟨z',H4,I4,r4,q4⟩=>ņ (ho' pins s4 σ H4 y z' u w' _ I4 r2 r4 q4) λd' s5 ⟨z2,H5,I5,r5,q5⟩=>?_))
  obtain⟨k2,e2,q5⟩:=ji q5
  subst e2
  cases r5
  exact wpAny_truthy_bool ⟨H5,I5,q5⟩
def Ys(ta tb:TE):TE:=λσ H Q=>ta σ H λx H1=>Xo x λc=>if c=true then tb σ H1 Q else Q (.bl false) H1
def Zcx(ta tb:TE):TE:=λσ H Q=>ta σ H λx H1=>Xo x λc=>if c=true then Q (.bl true) H1 else tb σ H1 Q
def Yt(ta:TE):TE:=λσ H Q=>ta σ H λx H1=>Xo x λc=>Q (.bl (!c)) H1
variable{rest:List Expr}
def Tp(ha:PE X a ta)(hb:PE X (.BoolOp .And (b::rest) pos) tb):PE X (.BoolOp .And (a::b::rest) pos) (Ys ta tb):=by
 intro pins s σ H Q I h
 refine BoolOp_and (ņ (ha pins s σ H _ I h) λv s1 ⟨x,H1,I1,r1,q1⟩=>?_)
 obtain⟨c,rfl,q1⟩:=ji q1
 cases r1
 refine wpAny_truthy_bool ?_
 cases c with
 |true=>exact hb pins s1 σ H1 Q I1 q1
 |false=>exact⟨.bl false,H1,I1,rfl,q1⟩
def Yu(ha:PE X a ta)(hb:PE X (.BoolOp .Or (b::rest) pos) tb):PE X (.BoolOp .Or (a::b::rest) pos) (Zcx ta tb):=by
 intro pins s σ H Q I h
 refine BoolOp_or (ņ (ha pins s σ H _ I h) λv s1 ⟨x,H1,I1,r1,q1⟩=>?_)
 obtain⟨c,rfl,q1⟩:=ji q1
 cases r1
 refine wpAny_truthy_bool ?_
 cases c with
 |false=>exact hb pins s1 σ H1 Q I1 q1
 |true=>exact⟨.bl true,H1,I1,rfl,q1⟩
def Tq(ha:PE X a ta):PE X (.UnaryOp .Not a pos) (Yt ta):=by
 intro pins s σ H Q I h
 refine UnaryOp_ (ņ (ha pins s σ H _ I h) λv s1 ⟨x,H1,I1,r1,q1⟩=>?_)
 obtain⟨c,rfl,q1⟩:=ji q1
 cases r1
 exact not_of (wpAny_truthy_bool ⟨.bl (!c),H1,I1,rfl,q1⟩)
def mI(C:Int->Int->Prop)(g:Int->Int->V):R2:=λx y H Q=>match x,y with
 | .int i,.int j=>C i j/\Q (g i j) H
 |_,_=>False
def FJ(g:Int->Int->V):R2:=λx y H Q=>match x,y with
 | .int i,.int j=>Q (g i j) H
 |_,_=>False
def A_{C:Int->Int->Prop}{g:Int->Int->V}(x y:V)(H:Hp)(Q:VK)(h:mI C g x y H Q):rI C g x y H Q:=by
 cases x with
 |int i=>
  cases y with
  |int j=>exact⟨i,j,rfl,rfl,h.1,h.2⟩
  |_=>exact h.elim
 |_=>exact h.elim
def uG{g:Int->Int->V}(x y:V)(H:Hp)(Q:VK)(h:FJ g x y H Q):Mj g x y H Q:=by
 cases x with
 |int i=>
  cases y with
  |int j=>exact⟨i,j,rfl,rfl,h⟩
  |_=>exact h.elim
 |_=>exact h.elim
def Yv:R2:=λx y H Q=>match x,y with
 | .int i,.int j=>Q (.int (i+j)) H
 | .str i,.str j=>i.length+j.length<=sizeLine/\Q (.str (i++j)) H
 |_,_=>False
def Tr:aC X (binaryOp .Add) Yv:=aC.wk (Ss.or yV) λx y H Q h=>by
 cases x with
 |int i=>
  cases y with
  |int j=>exact .inl ⟨i,j,rfl,rfl,h⟩
  |_=>exact h.elim
 |str i=>
  cases y with
  |str j=>exact .inr ⟨i,j,rfl,rfl,h.1,h.2⟩
  |_=>exact h.elim
 |_=>exact h.elim
def Tt:aC X (binaryOp .Sub) (FJ λi j=>.int (i-j)):=aC.wk Sv uG
def sy(i j:Int):Prop:=Sq i j\/(Builtin.Int.intBits i<=1048576/\Builtin.Int.intBits j<=1048576)
theorem sy.ok{i j:Int}(h:sy i j):IntMulOk i j:=by
 rcases h with h|⟨h1,h2⟩
 ·exact h.ok
 ·exact IntMulOk.of_le h1 h2 (by decide)
def Tv:aC X (binaryOp .Mult) (mI sy λi j=>.int (i*j)):=aC.wk (Jy (C:=sy) (g:=λi j=>i*j) λ_ _ _ _ _ _ _ hc q=>mul_int q hc.ok) A_
def Dk(_ j:Int):Prop:=j≠0/\Builtin.Int.intBits j<=8000
def Dk.py{i j:Int}(h:Dk i j):Builtin.divisionGoesByPylong i j=false:=by
 refine PyProof.noPylong_of_log2 ?_
 have hb:=intBits_le_iff.mp h.2
 have h0:j.natAbs≠0:=by have:=h.1;omega
 exact Nat.lt_of_lt_of_le ((Nat.log2_lt h0).mpr hb) (by decide)
def Kh:aC X (binaryOp .FloorDiv) (mI Dk λi j=>.int (i.fdiv j)):=aC.wk (Jy (C:=Dk) (g:=λi j=>i.fdiv j) λ_ _ _ _ _ _ _ hc q=>floordiv_int hc.1 q (.inl hc.py)) A_
def Tw:aC X (binaryOp .Mod) (mI (λ_ j=>j≠0) λi j=>.int (i.fmod j)):=aC.wk JV A_
def lE:aC X (binaryOp .Pow) (mI Sh λi j=>.int (i ^ j.toNat)):=aC.wk Sw A_
def Ba:aC X (compareOp .Lt) (FJ λi j=>.bl (decide (i<j))):=aC.wk Ye uG
def bR:aC X (compareOp .LtE) (FJ λi j=>.bl (decide (i<=j))):=aC.wk Yg uG
def Mq:aC X (compareOp .Gt) (FJ λi j=>.bl (decide (j<i))):=aC.wk Yh uG
def mU(g:Int->V):V->Hp->VK->Prop:=λx H Q=>match x with
 | .int i=>Q (g i) H
 |_=>False
def Tz:JT X (unaryOp .USub) (mU λi=>.int (-i)):=JT.wk E_ λx H Q h=>by
 cases x with
 |int i=>exact⟨i,rfl,h⟩
 |_=>exact h.elim
def mAbs:List V->Hp->VK->Prop:=λxs H Q=>match xs with
 | [.int i]=>Q (.int (if i<0 then -i else i)) H
 |_=>False
def uH:ő X (.builtin "abs") mAbs:=ő.wk Fd λxs H Q h=>by
 unfold mAbs at h
 split at h
 ·exact⟨_,rfl,h⟩
 ·exact h.elim
def TF(K:PySem.W.Frag):List V->Hp->VK->Prop:=λxs H Q=>match xs with
 | [.str y]=>y.length<=sizeLine/\Q (.int (y.length:Int)) H
 | [.ref p]=>∃ys,(ŝ K H p ys\/dh K H p ys)/\Q (.int (ys.length:Int)) H
 |_=>False
def ŷ:ő X (.builtin "len") (TF X.K):=ő.wk Fe λxs H Q h=>by
 unfold TF at h
 split at h
 ·exact⟨_,_,rfl,⟨h.1,rfl⟩,h.2⟩
 ·obtain⟨ys,h1,h2⟩:=h
  refine⟨_,ys.length,rfl,?_,h2⟩
  rcases h1 with h1|h1
  ·exact .inl ⟨ys,h1,rfl⟩
  ·exact .inr ⟨ys,h1,rfl⟩
 ·exact h.elim
def mIx(K:PySem.W.Frag):R2:=λx y H Q=>match x,y with
 | .ref p,.int i=>∃xs v,(ŝ K H p xs\/dh K H p xs)/\nM xs i=some v/\Q v H
 | .str z,.int i=>∃c,z.length<=sizeLine/\nM z.cps.toList i=some c/\Q (.str ⟨#[c]⟩) H
 |_,_=>False
def Yw:zq X (mIx X.K):=zq.wk zu λx y H Q h=>by
 cases x with
 |ref p=>
  cases y with
  |int i=>
   obtain⟨xs,v,h1,h2,h3⟩:=h
   rcases h1 with h1|h1
   ·exact .inl ⟨p,xs,i,v,rfl,rfl,h1,h2,h3⟩
   ·exact .inr (.inl ⟨p,xs,i,v,rfl,rfl,h1,h2,h3⟩)
  |_=>exact h.elim
 |str z=>
  cases y with
  |int i=>
   obtain⟨c,h1,h2,h3⟩:=h
   exact .inr (.inr ⟨z,i,c,rfl,rfl,h1,h2,h3⟩)
  |_=>exact h.elim
 |_=>exact h.elim
def iOf(x:V)(k:Int->Prop):Prop:=match x with
 | .int i=>k i
 |_=>False
def Yx(t:TE):TO:=λσ H Q=>t σ H λx H1=>iOf x λi=>Q (some i) H1
def FN(h:PE X e te):PO X (some e) (Yx te):=by
 intro pins s σ H Q I hw
 rw[evalPart_some]
 refine ņ (h pins s σ H _ I hw) λu s1 ⟨x,H1,I1,r1,q1⟩=>?_
 cases x with
 |int i=>
  obtain⟨t,rfl⟩:=r1
  exact⟨some i,H1,I1,.int i t,q1⟩
 |_=>exact q1.elim
def Zcy(K:PySem.W.Frag):V->Option Int->Option Int->Hp->VK->Prop:=λx lo hi H Q=>match x with
 | .ref a=>∃xs,ŝ K H a xs/\∀p,H p=none->Q (.ref p) (upd H p (.lst (wH xs lo hi)))
 |_=>False
def FP:Aw X (Zcy X.K):=Aw.wk Kd λx lo hi H Q h=>by
 cases x with
 |ref a=>
  obtain⟨xs,h1,h2⟩:=h
  exact⟨a,xs,rfl,h1,h2⟩
 |_=>exact h.elim
end
end M2
namespace M2
open PySem PySem.Spec PyProof.Rows L2
section
variable{X:Cx}{tg:Expr}
end
mutual
def Rp(K:PySem.W.Frag)(H:Hp):PyData->V->Prop
 | .none,v=>v=.non
 | .bool b,v=>v=.bl b
 | .int i,v=>v=.int i
 | .str x,v=>v=.str x
 | .tuple ds,v=>∃a xs,v=.ref a/\dh K H a xs/\lF K H ds xs
 | .list ds,v=>∃a xs,v=.ref a/\ŝ K H a xs/\lF K H ds xs
 | .dict _,_=>False
def lF(K:PySem.W.Frag)(H:Hp):List PyData->List V->Prop
 | [],xs=>xs=[]
 |d::ds,xs=>∃x r,xs=x::r/\Rp K H d x/\lF K H ds r
end
def Same.tup{K:PySem.W.Frag}{H H':Hp}{a:Addr}{xs:List V}(e:Same H H')(h:dh K H a xs):dh K H' a xs:=by
 rcases h with(h|⟨o,h⟩)|h
 ·exact .inl (.inl (e _ _ h))
 ·exact .inl (.inr ⟨o,e _ _ h⟩)
 ·exact .inr h
theorem Same.upd{H:Hp}{p:Addr}{o:HO}(h:H p=none):Same H (upd H p o):=λb u e=>by
 rw[ĉ (ģ e h)]
 exact e
mutual
theorem Rp.same{K:PySem.W.Frag}{H H':Hp}(e:Same H H'):∀(d:PyData) (v:V),Rp K H d v->Rp K H' d v
 | .none,_,h=>by unfold Rp at h ⊢;exact h
 | .bool _,_,h=>by unfold Rp at h ⊢;exact h
 | .int _,_,h=>by unfold Rp at h ⊢;exact h
 | .str _,_,h=>by unfold Rp at h ⊢;exact h
 | .tuple ds,_,h=>by
   unfold Rp at h ⊢
   obtain⟨a,xs,h1,h2,h3⟩:=h
   exact⟨a,xs,h1,Same.tup e h2,lF.same e ds xs h3⟩
 | .list ds,_,h=>by
   unfold Rp at h ⊢
   obtain⟨a,xs,h1,h2,h3⟩:=h
   exact⟨a,xs,h1,e.seq h2,lF.same e ds xs h3⟩
 | .dict _,_,h=>by unfold Rp at h;exact h.elim
theorem lF.same{K:PySem.W.Frag}{H H':Hp}(e:Same H H'):∀(ds:List PyData) (xs:List V),lF K H ds xs->lF K H' ds xs
 | [],_,h=>by unfold lF at h ⊢;exact h
 |d::ds,_,h=>by
  unfold lF at h ⊢
  obtain⟨x,r,h1,h2,h3⟩:=h
  exact⟨x,r,h1,Rp.same e d x h2,lF.same e ds r h3⟩
end
section
variable{X:Cx}{pins:List (Addr×Obj)}{σ:L2.St}{H:Hp}{s:Shared}
mutual
theorem Rp.reads(I:Inv X pins σ H s):∀(d:PyData) (v:V) (u:Value),Rp X.K H d v->RelV v u->∃as,Reads s.heap u d as
 | .none,v,u,h,r=>by
   unfold Rp at h;subst h;cases r;exact⟨_,.none⟩
 | .bool b,v,u,h,r=>by
   unfold Rp at h;subst h;cases r;exact⟨_,.bool b⟩
 | .int i,v,u,h,r=>by
   unfold Rp at h;subst h;obtain⟨t,rfl⟩:=r;exact⟨_,.int i t⟩
 | .str x,v,u,h,r=>by
   unfold Rp at h;subst h;obtain⟨t,rfl⟩:=r;exact⟨_,.str x t⟩
 | .tuple ds,v,u,h,r=>by
   unfold Rp at h
   obtain⟨a,xs,h1,h2,h3⟩:=h
   subst h1
   cases r
   obtain⟨its,rv,⟨o,e,hc,n,hd⟩,hz⟩:=I.tuple h2
   obtain⟨as,ra⟩:=lF.reads I ds xs its h3 rv
   exact⟨_,.tuple e hc hd (by simpa using ra)⟩
 | .list ds,v,u,h,r=>by
   unfold Rp at h
   obtain⟨a,xs,h1,h2,h3⟩:=h
   subst h1
   cases r
   obtain⟨its,rv,⟨o,n,e,hc,hdd,hd⟩,hz⟩:=I.list h2
   obtain⟨as,ra⟩:=lF.reads I ds xs its h3 rv
   exact⟨_,.list e hc hd (by simpa using ra)⟩
 | .dict _,_,_,h,_=>by unfold Rp at h;exact h.elim
theorem lF.reads(I:Inv X pins σ H s):∀(ds:List PyData) (xs:List V) (us:List Value),lF X.K H ds xs->Vals xs us->∃as,ReadsAll s.heap us ds as
 | [],xs,us,h,r=>by
   unfold lF at h;subst h;cases r;exact⟨_,.nil⟩
 |d::ds,xs,us,h,r=>by
  unfold lF at h
  obtain⟨x,q,h1,h2,h3⟩:=h
  subst h1
  cases r with
  |cons r1 r2=>
   obtain⟨as,ra⟩:=Rp.reads I d x _ h2 r1
   obtain⟨bs,rb⟩:=lF.reads I ds q _ h3 r2
   exact⟨_,.cons ra rb⟩
end
end
def Kl(K:PySem.W.Frag)(neg:Bool):R2:=λx y H Q=>∃d e,Rp K H d x/\Rp K H e y/\d.canLay0=true/\e.canLay0=true/\min d.depth e.depth<=60/\Q (.bl (if neg then !PyData.eqv d e else PyData.eqv d e)) H
section
variable{X:Cx}
def FQ(hu:X.A.units+64<cLine):aC X (compareOp .Eq) (Kl X.K false):=by
 intro pins s σ H x y v u Q I rx ry h
 obtain⟨d,e,h1,h2,h3,h4,h5,q⟩:=h
 obtain⟨as,ra⟩:=Rp.reads I d x v h1 rx
 obtain⟨bs,rb⟩:=Rp.reads I e y u h2 ry
 exact SeqAt.compareEq_reads ra rb h3 h4 (by omega) ⟨.bl _,H,I,rfl,q⟩
def FT(hu:X.A.units+64<cLine):aC X (compareOp .NotEq) (Kl X.K true):=by
 intro pins s σ H x y v u Q I rx ry h
 obtain⟨d,e,h1,h2,h3,h4,h5,q⟩:=h
 obtain⟨as,ra⟩:=Rp.reads I d x v h1 rx
 obtain⟨bs,rb⟩:=Rp.reads I e y u h2 ry
 exact SeqAt.compareNe_reads ra rb h3 h4 (by omega) ⟨.bl _,H,I,rfl,q⟩
end
section
variable{K:PySem.W.Frag}
end
end M2
namespace M3
open PySem PySem.Spec PyProof.Rows L2 M2
def Bb{P:Program}{w:World}{H:Hp}{h h':Heap}{C:Addr}(x:jB P w H h)(hC:H C=none)(k:∀b u,b≠C->h.get? b=some u->h'.get? b=some u):jB P w H h':=λa o e=>
 (x a o e).stay (fun b u hb q=>k b u (by
   rcases hb with hb|hb
   ·rw[hb];exact ģ e hC
   ·exact ģ hb hC) q) (λ_ q=>q) λ_ _ q=>q
theorem jj{env:Env}:∀(ns:List (Str×NameKind)) (cs:List (Str×Addr)),(∀y∈ns,y.2=.free->∃c,env.cells.lookup y.1=some c)->(∀x c,cs.lookup x=some c->env.cells.lookup x=some c)->
 ∃cl,(forIn ns cs (λ(x:Str×NameKind) r=>if(x.2== .free)=true then(do let c <-cellOf env x.1;pure (ForInStep.yield ((x.1,c)::r))) else pure (ForInStep.yield r)):Sem (List (Str×Addr)))=pure cl/\
  (∀x c,cl.lookup x=some c->env.cells.lookup x=some c)/\(∀x,(∃c,cs.lookup x=some c)->∃c,cl.lookup x=some c)/\∀y∈ns,y.2=.free->∃c,cl.lookup y.1=some c
 | [],cs,_,h2=>⟨cs,rfl,h2,λ_ z=>z,λ_ z=>nomatch z⟩
 |(n,k)::ns,cs,h1,h2=>by
  by_cases hk:k=.free
  ·subst hk
   obtain⟨c,hc⟩:=h1 (n,.free) List.mem_cons_self rfl
   have e:cellOf env n=pure c:=by unfold cellOf;rw[hc]
   have h2':∀x d,((n,c)::cs).lookup x=some d->env.cells.lookup x=some d:=λx d q=>by
    rw[List.lookup_cons] at q
    cases hx:x== n with
    |true=>
     rw[hx] at q
     have:x=n:=eq_of_beq hx
     subst this
     cases q
     exact hc
    |false=>
     rw[hx] at q
     exact h2 x d q
   obtain⟨cl,q1,q2,q3,q4⟩:=jj ns ((n,c)::cs) (λy hy=>h1 y (List.mem_cons_of_mem _ hy)) h2'
   refine⟨cl,?_,q2,λx ⟨d,hd⟩=>q3 x ?_,λy hy hf=>?_⟩
   ·rw[List.forIn_cons]
    simp only[beq_self_eq_true,if_true,e,pure_bind]
    exact q1
   ·rw[List.lookup_cons]
    cases hx:x== n with
    |true=>exact⟨c,rfl⟩
    |false=>exact⟨d,hd⟩
   ·rcases List.mem_cons.mp hy with rfl|hy
    ·exact q3 n ⟨c,by rw[List.lookup_cons,beq_self_eq_true]⟩
    ·exact q4 y hy hf
  ·have hb:(k== NameKind.free)=false:=by simpa using hk
   obtain⟨cl,q1,q2,q3,q4⟩:=jj ns cs (λy hy=>h1 y (List.mem_cons_of_mem _ hy)) h2
   refine⟨cl,?_,q2,q3,λy hy hf=>?_⟩
   ·rw[List.forIn_cons]
    simp only[hb,Bool.false_eq_true,if_false,pure_bind]
    exact q1
   ·rcases List.mem_cons.mp hy with rfl|hy
    ·exact absurd hf hk
    ·exact q4 y hy hf
def jG{scope:Scope}{env:Env}(h:∀y∈scope.names,y.2=.free->∃c,env.cells.lookup y.1=some c) :
 ∃cl,closureFor scope env=pure cl/\(∀x c,cl.lookup x=some c->env.cells.lookup x=some c)/\∀y∈scope.names,y.2=.free->∃c,cl.lookup y.1=some c:=by
 obtain⟨cl,q1,q2,_,q4⟩:=jj (env:=env) scope.names [] h (λx c z=>by simp at z)
 refine⟨cl,?_,q2,q4⟩
 unfold closureFor
 have e:(forIn scope.names [] (λ(x:Str×NameKind) (r:List (Str×Addr))=>match x with
  |(name,kind)=>if(kind== .free)=true then(do let a <-cellOf env name;pure (ForInStep.yield ((name,a)::r))) else pure (ForInStep.yield r)):Sem (List (Str×Addr)))=pure cl:=q1
 first
  |(simp only[bind_pure];exact q1)
  |(rw[show ∀(t:Sem (List (Str×Addr))),(do let r <-t;pure r)=t from λt=>by simp];exact q1)
  |(simp only[q1,pure_bind])
def bW(X:Cx)(N':List Str)(scope:Scope)(cl:List (Str×Addr))(C:Addr)(s:Shared)(H:Hp)(fp:List Addr):Cx where
 prog:=X.prog
 w:=X.w
 K:=X.K
 mg:=X.mg
 base:=X.base
 A:=X.A
 N:=N'
 s₀:= s
 H₀:= H
 env:=compEnvC scope cl C X.env
 outer:=X.stack
 stack:=X.stack
 ex:=fp
 fn:=λx=>scope.names.lookup x== some .cell
 calm:=X.calm
 pn:=[]
 xe:=λ_ _=>False
def gA(X:Cx)(sc scope:Scope):List Str->List Nat->Prop
 |x::xs,j::js=>X.N[j]?=some x/\(scope.names.lookup x=some .free/\(sc.names.lookup x=some .cell\/sc.names.lookup x=some .free))/\gA X sc scope xs js
 |_,[]=>True
 | [],_::_=>False
def fL(js:List Nat)(nl:Nat)(σ:L2.St):L2.St:=js.map (λj:Nat=>(σ[j]?).getD none)++List.replicate nl none
theorem sE{X:Cx}{sc scope:Scope}{σ:L2.St}{nl:Nat}:∀{N':List Str} {js:List Nat} {i:Nat} {x:Str} {v:V},gA X sc scope N' js->N'[i]?=some x->(fL js nl σ)[i]?=some (some v)->
 ∃j:Nat,X.N[j]?=some x/\σ[j]?=some (some v)/\scope.names.lookup x=some .free/\(sc.names.lookup x=some .cell\/sc.names.lookup x=some .free)
 |N',[],i,x,v,_,_,h=>by
  unfold fL at h
  rw[List.map_nil,List.nil_append,List.getElem?_replicate] at h
  split at h<;>cases h
 | [],_::_,_,_,_,c,_,_=>c.elim
 |y::N',j::js,0,x,v,c,h1,h2=>by
  obtain⟨c1,c2,_⟩:=c
  simp at h1
  subst h1
  have e:(σ[j]?).getD none=some v:=by simpa[fL] using h2
  refine⟨j,c1,?_,c2⟩
  cases q:σ[j]? with
  |none=>rw[q] at e;cases e
  |some o=>rw[q] at e;exact congrArg some e
 |y::N',j::js,i+1,x,v,c,h1,h2=>by
  exact sE (N':=N') (js:=js) (i:=i) c.2.2 (by simpa using h1) (by simpa[fL] using h2)
section
variable{prog:Program}{w:World}{A:Around}{R:Result->Shared->Prop}{s:Shared}
def jH{elt target iter:Expr}{ifs:List Expr}{scope:Scope}{pos:Pos}{it acc:Value}{env:Env}(I:Nat->Shared->Prop)
 (turn:∀n s,I n s→wpAny (model prog w) A (pyNext it) (fun r s₁=>match r with
   |none=>R (.ok .next) s₁
   |some v=>wpAny (model prog w) A (letOwnedTupleGo target it v) (fun _ s₁'=>wpAny (model prog w) A (assign target env v) (fun _ s₂=>
     wpAny (model prog w) A (forIn ifs true λc r=>if r=true then do let ok <-isTrue c env (eval c env);pure (ForInStep.yield ok) else pure (ForInStep.yield r)) (λok s₃=>
      if ok=true then wpAny (model prog w) A (eval elt env) (λx s₄=>
       wpAny (model prog w) A (call (.builtin "list.append") [acc,x]) (λ_ s₅=>∃m,m<n/\I m s₅) (λ_ _=>False) s₄) (λ_ _=>False) s₃
      else ∃m,m<n/\I m s₃) (λ_ _=>False) s₂) (λ_ _=>False) s₁') (λ_ _=>False) s₁) (λ_ _=>False) s)
 (n:Nat)(h:I n s) :
 codeAny (model prog w) A (.compLoop (.ListComp elt [⟨target,iter,ifs,0⟩] scope pos) 0 it acc env) R s:=by
 refine codeAny_loop rfl I (λn s hI=>?_) n h
 show wpAny _ A ((compTurn (.ListComp elt [⟨target,iter,ifs,0⟩] scope pos) 0 it acc env).onRaise (λx=>do noteFrame x env;theTreesLotGoes x)) _ _ s
 refine wpAny_noted (wpAny_noRaise ?_)
 rw[compTurn_list]
 refine wpAny_bind (wpAny_standAt (wpAny_bind (wpAny_mono (turn n s hI) (λr s₁ h₁=>?_) λ_ _ h'=>h')))
 cases r with
 |none=>exact wpAny_pure h₁
 |some v=>
  refine wpAny_bind (wpAny_mono h₁ (λ_ s₁' h₁'=>?_) λ_ _ h'=>h')
  refine wpAny_bind (wpAny_mono h₁' (λ_ s₂ h₂=>wpAny_bind (wpAny_mono h₂ (λok s₃ h₃=>?_) λ_ _ h'=>h')) λ_ _ h'=>h')
  cases ok with
  |false=>exact wpAny_pure ⟨rfl,h₃⟩
  |true=>
   exact wpAny_bind (wpAny_bind (wpAny_mono h₃ (λx s₄ h₄=>wpAny_bind (wpAny_mono h₄ (λ_ s₅ h₅=>wpAny_pure (wpAny_pure ⟨rfl,h₅⟩)) λ_ _ h'=>h')) λ_ _ h'=>h'))
end
def Em(X:Cx)(ifs:List Expr)(t:TT):Prop:=
 ∀(pins:List (Addr×Obj)) (s:Shared) (σ:L2.St) (H:Hp) (Q:Bool->Hp->Prop),Inv X pins σ H s->t σ H Q->
  wpAny (model X.prog X.w) X.A (forIn ifs true λc r=>if r=true then do let ok <-isTrue c X.env (eval c X.env);pure (ForInStep.yield ok) else pure (ForInStep.yield r)) (TP X pins σ Q) X.xe s
def Km:TT:=λ_ H Q=>Q true H
def Bc{X:Cx}:Em X [] Km:=λ_ _ _ H _ I h=>wpAny_tests_nil ⟨H,I,h⟩
def pq(js:List Nat)(nl:Nat)(wi:TI)(g:TG)(tt:TT)(te:TE):TE:=λσ H Q=>wi σ H λJ H1=>∀D,H1 D=none->
 ∃W:Nat->Nat->L2.St->Hp->Prop,(∃m,W 0 m (fL js nl σ) (upd H1 D (.lst [])))/\∀i m σ' H',W i m σ' H'->
  (J.stop i H'∧Q (.ref D) H')∨(J.go i H'∧∃N:L2.St→Hp→Prop,(∀σ2 H2,N σ2 H2→∃m',m'<m∧W (i+1) m' σ2 H2)∧∀x H2,J.XR i H' x H2→g x σ' H2 fun σ2 H3=>tt σ2 H3 fun c H4=>
    if c=true then te σ2 H4 λy H5=>∃ys,H5 D=some (.lst ys)/\ys.length<sizeLine/\N σ2 (upd H5 D (.lst (ys ++ [y]))) else N σ2 H4)
section
variable{X:Cx}{elt tg iter:Expr}{ifs:List Expr}{scope:Scope}{pos:Pos}{wi:TI}{g:TG}{tt:TT}{te:TE}
theorem eG{env:Env}:∀{names:List (Str×NameKind)} {x:Str} {k:NameKind},(k=.cell\/k=.free)->
 (names.map λ(n,k)=>if(k== NameKind.free && env.scope.kind== .function && env.kindOf n== some .cell) then(n,NameKind.cell) else(n,k)).lookup x=some k->(x,NameKind.free)∈names\/(x,NameKind.cell)∈names
 | [],x,k,_,h=>by simp at h
 |(n,q)::r,x,k,hk,h=>by
  have ih:=@eG env r x k hk
  rw[List.map_cons] at h
  by_cases hx:x=n
  ·subst hx
   by_cases hf:q=.free
   ·subst hf
    exact .inl List.mem_cons_self
   ·have hb:(q== NameKind.free)=false:=by simpa using hf
    have e:(if(q== NameKind.free && env.scope.kind== .function && env.kindOf x== some .cell)=true then(x,NameKind.cell) else(x,q))=(x,q):=by
     rw[hb];rfl
    have h2:=h
    simp only[e,List.lookup_cons,beq_self_eq_true] at h2
    have:q=k:=Option.some.inj h2
    rcases hk with hk|hk
    ·rw[this,hk]
     exact .inr List.mem_cons_self
    ·exact absurd (this.trans hk) hf
  ·have hn:(x== n)=false:=by simpa using hx
   have h3:(x,NameKind.free)∈r\/(x,NameKind.cell)∈r:=ih (by
    by_cases c:(q== NameKind.free && env.scope.kind== .function && env.kindOf n== some .cell)=true
    ·simp only[c,if_true,List.lookup_cons,hn] at h
     exact h
    ·simp only[c,if_false,Bool.false_eq_true,List.lookup_cons,hn] at h
     exact h)
   rcases h3 with h3|h3
   ·exact .inl (List.mem_cons_of_mem _ h3)
   ·exact .inr (List.mem_cons_of_mem _ h3)
theorem š:∀(names:List (Str×NameKind)) (n:Nat) (acc:List (Str×Addr)),cellsFrom n names acc=cellsFrom n names []++acc
 | [],_,_=>rfl
 |(x,k)::r,n,acc=>by
  unfold cellsFrom
  split
  ·rw[š r (n+1) ((x,n)::acc),š r (n+1) [(x,n)],List.append_assoc]
   rfl
  ·exact š r n acc
theorem eN:∀(names:List (Str×NameKind)) (n:Nat) {x:Str} {c:Addr},(x,c)∈cellsFrom n names []->(x,NameKind.cell)∈names
 | [],_,_,_,h=>by simp[cellsFrom] at h
 |(y,k)::r,n,x,c,h=>by
  unfold cellsFrom at h
  split at h
  ·rename_i hk
   rw[š r (n+1) [(y,n)]] at h
   rcases List.mem_append.mp h with h|h
   ·exact List.mem_cons_of_mem _ (eN r _ h)
   ·have e:(x,c)=(y,n):=by simpa using h
    cases e
    rw[beq_iff_eq.mp hk]
    exact List.mem_cons_self
  ·exact List.mem_cons_of_mem _ (eN r _ h)
structure Blk(X:Cx)(scope:Scope)(n:Nat)(h:Heap)(cl:List (Str×Addr)):Prop where
 at_:∀x c,cl.lookup x=some c->(X.env.cells.lookup x=some c/\scope.names.lookup x≠some .cell)\/(n<c/\h.IsCell c none/\scope.names.lookup x=some .cell)
 inj:∀x y c,cl.lookup x=some c->cl.lookup y=some c->n<c->x=y
 has:∀x,((x,NameKind.free)∈scope.names\/(x,NameKind.cell)∈scope.names)->∃c,cl.lookup x=some c
def FZ{X:Cx}{scope:Scope}{n:Nat}{h:Heap}{cl:List (Str×Addr)}(hcell:∀y∈scope.names,y.2=.cell->scope.names.lookup y.1=some .cell)
 (h1:∀x c,cl.lookup x=some c->X.env.cells.lookup x=some c)(h2:∀y∈scope.names,y.2=.free->∃c,cl.lookup y.1=some c)(hlt:∀x c,X.env.cells.lookup x=some c->c<n)
 (ok:CellsOk h (n+1) (cellsFrom (n+1) scope.names [])):Blk X scope n h (cellsFrom (n+1) scope.names cl):=by
 have sp:∀x c,(cellsFrom (n+1) scope.names cl).lookup x=some c->(cl.lookup x=some c/\(cellsFrom (n+1) scope.names []).lookup x=none)\/(cellsFrom (n+1) scope.names []).lookup x=some c:=λx c e=>by
  rw[š,List.lookup_append] at e
  cases q:(cellsFrom (n+1) scope.names []).lookup x with
  |none=>rw[q] at e;exact .inl ⟨by simpa using e,rfl⟩
  |some d=>rw[q] at e;exact .inr (by simpa using e)
 refine⟨λx c e=>?_,λx y c e1 e2 hc=>?_,λx hx=>?_⟩
 ·rcases sp x c e with⟨e,q⟩|e
  ·refine .inl ⟨h1 x c e,λz=>?_⟩
   obtain⟨d,hd⟩:=jF (sc:=scope) (n:=n+1) z
   rw[hd] at q
   cases q
  ·have m:=mem_of_lookup e
   exact .inr ⟨(ok.empty x c m).2,(ok.empty x c m).1,hcell _ (eN _ _ m) rfl⟩
 ·have nw:∀z,(cellsFrom (n+1) scope.names cl).lookup z=some c→(cellsFrom (n+1) scope.names []).lookup z=some c:=fun z e=>by
   rcases sp z c e with⟨e,q⟩|e
   ·exact absurd (hlt z c (h1 z c e)) (Nat.lt_asymm hc)
   ·exact e
  exact name_of_addr ok.apart (mem_of_lookup (nw x e1)) (mem_of_lookup (nw y e2))
 ·rw[š,List.lookup_append]
  rcases hx with hx|hx
  ·obtain⟨c,hc⟩:=h2 _ hx rfl
   cases q:(cellsFrom (n+1) scope.names []).lookup x with
   |none=>exact⟨c,by simpa using hc⟩
   |some d=>exact⟨d,rfl⟩
  ·obtain⟨d,hd⟩:=jF (sc:=scope) (n:=n+1) (hcell _ hx rfl)
   rw[hd]
   exact⟨d,rfl⟩
def iG{M:Model}{A:Around}{E:Value->Shared->Prop}{s:Shared}{scope:Scope}{globals:Addr}{closure:List (Str×Addr)}{qual:Str}
 {func:Option Addr}{code:Value}{env0:Env}{builtins:Addr}{Q:Env->Shared->Prop}
 (hQ:∀h',h'.Ns s.heap.objs.size (fun _=>none)→(∀b o,s.heap.get? b=some o→h'.get? b=some o)→CellsOk h' (s.heap.objs.size+1) (cellsFrom (s.heap.objs.size+1) scope.names [])→
   Q (newEnv scope s.heap.objs.size globals (cellsFrom (s.heap.objs.size+1) scope.names closure) qual func code (some env0) builtins) {s with heap:=h'}) :
 wpAny M A (newFunctionEnv scope globals closure [] qual func code (some env0) builtins) Q E s:=by
 simp only[newFunctionEnv,Option.isSome_some,if_true]
 refine wpAny_bind (wpAny_alloc ?_)
 refine wpAny_bind (wpAny_layCells _ (λname kind cells=>by cases hkc:kind== NameKind.cell<;>simp[hkc]) _ _ _ _ ?_)
 have ok:=cellsFrom_ok scope.names (s.heap.push {cls:=.type "dict",data:=.dict #[]}) (s.heap.objs.size+1) [] ⟨λ_ _ hm=>(nomatch hm),List.Pairwise.nil⟩ (by rw[Heap.size_push];exact Nat.le_refl _)
 rw[Heap.size_push] at ok
 rw[show({s with heap:=s.heap.push {cls:=.type "dict",data:=.dict #[]}}:Shared).heap.objs.size=s.heap.objs.size+1 from Heap.size_push ..]
 refine wpAny_bind ?_
 rw[List.forIn_nil]
 exact wpAny_pure (wpAny_pure (hQ _ ((Heap.Ns.new s.heap (.type "dict")).keeps (pushCells_keeps _ _)) (λb o e=>pushCells_keeps _ _ b o (Heap.get?_push_of_some _ e)) ok))
theorem jJ{env:Env}:∀{names:List (Str×NameKind)} {x:Str},names.lookup x=some .free->
 ¬(names.map λ(n,k)=>if(k== NameKind.free && env.scope.kind== .function && env.kindOf n== some .cell) then(n,NameKind.cell) else(n,k)).lookup x=some .local
 | [],x,h=>by simp at h
 |(n,q)::r,x,h=>by
  intro h2
  rw[List.map_cons] at h2
  rw[List.lookup_cons] at h
  cases hx:x== n with
  |true=>
   rw[hx] at h
   cases h
   by_cases c:(NameKind.free== NameKind.free && env.scope.kind== .function && env.kindOf n== some .cell)=true
   ·simp only[c,if_true,List.lookup_cons,hx] at h2
    cases h2
   ·simp only[c,if_false,Bool.false_eq_true,List.lookup_cons,hx] at h2
    cases h2
  |false=>
   rw[hx] at h
   have ih:=jJ (env:=env) h
   by_cases c:(q== NameKind.free && env.scope.kind== .function && env.kindOf n== some .cell)=true
   ·simp only[c,if_true,List.lookup_cons,hx] at h2
    exact ih h2
   ·simp only[c,if_false,Bool.false_eq_true,List.lookup_cons,hx] at h2
    exact ih h2
def sG{pins:List (Addr×Obj)}{σ:L2.St}{H:Hp}{s:Shared}{N':List Str}{js:List Nat}{nl:Nat}{sc:Scope}{cl:List (Str×Addr)}{fp:List Addr}{h':Heap}{tk:Nat}
 (hsc:X.env.scope=sc)(hk:scope.kind=.function)(hcap:gA X sc scope N' js)(hlen:js.length+nl=N'.length)(B:Blk X scope s.heap.objs.size h' cl)
 (I:Inv X pins σ H s)(hf:∀b∈fp,iB X pins H b)(hlt:∀b∈fp,b<s.heap.objs.size)
 (hn:h'.Ns s.heap.objs.size (λ_=>none))(kp:∀b o,s.heap.get? b=some o->h'.get? b=some o) :
 Inv (bW X N' scope cl s.heap.objs.size s H fp) [] (fL js nl σ) H {s with heap:=h',toks:=tk}:=by
 have Ga:∀x,((bW X N' scope cl s.heap.objs.size s H fp).env.kindOf x=some .cell\/(bW X N' scope cl s.heap.objs.size s H fp).env.kindOf x=some .free)->∃c,cl.lookup x=some c:=λx hx=>by
  rcases hx with hx|hx
  ·exact B.has x (eG (.inl rfl) hx)
  ·exact B.has x (eG (.inr rfl) hx)
 have lt:∀x c,X.env.cells.lookup x=some c->c<s.heap.objs.size:=λx c e=>by
  obtain⟨v,o,ho,_⟩:=I.cell x c e
  exact Heap.lt_size ho
 have inj:∀x y c,cl.lookup x=some c->cl.lookup y=some c->x=y:=λx y c e1 e2=>by
  rcases B.at_ x c e1 with⟨q1,_⟩|⟨q1,_⟩
  ·rcases B.at_ y c e2 with⟨q2,_⟩|⟨q2,_⟩
   ·exact I.ok.inj x y c q1 q2
   ·exact absurd (lt x c q1) (Nat.lt_asymm q2)
  ·exact B.inj x y c e1 e2 q1
 refine⟨⟨I.ok.mod,hk,I.ok.glob,I.ok.blt,Nat.le_refl _,inj,Ga,λx c z e=>by
  rcases B.at_ x c e with⟨_,q⟩|⟨q,_⟩
  ·exact absurd (beq_iff_eq.mp z) q
  ·exact Nat.le_of_lt q,I.ok.hd,I.ok.frames,.inl rfl,λb hb=>⟨Nat.ne_of_lt (hlt b hb),λx c e=>by
  rcases B.at_ x c e with⟨q,_⟩|⟨q,_⟩
  ·exact(hf b hb).2.2.2.2.1 x c q
  ·exact Nat.ne_of_gt (Nat.lt_trans (hlt b hb) q)⟩,
  I.bs,Nat.le_trans I.ok.Ep I.sz,fun b o e hb=>?_,fun b hb hz=>?_,I.stack,I.Ao,I.tb⟩,rfl,I.bare,Un.kept kp,⟨_,hn,fun i x v e1 e2 e3=>?_⟩,fun x c e=>?_,I.hok.fresh (Nat.le_refl _),fun x c e=>by
    rcases B.at_ x c e with⟨q,_⟩|⟨q,_⟩
    ·exact I.fJ x c q
    ·exact I.hok.fresh (Nat.le_of_lt q),λp hp=>?_,I.hok.kept kp,?_⟩
 ·rcases(hf b hb).2.2.2.1 with z|z
  ·exact I.ok.yO b o e z
  ·exact absurd (Nat.lt_of_lt_of_le (Heap.lt_size e) (Nat.le_trans I.ok.Ep z)) (Nat.lt_irrefl _)
 ·rcases List.mem_cons.mp (I.oW b hz) with z|z
  ·exact(hf b hb).2.1 z
  ·exact(hf b hb).2.2.1 z
 ·obtain⟨j,q1,q2,q0,q3⟩:=sE hcap e1 e2
  obtain⟨m,hm,hl⟩:=I.loc
  have Zcz:El X.env.scope x:=by
   rw[hsc]
   rcases q3 with q3|q3
   ·exact .inr (.inl q3)
   ·exact .inr (.inr q3)
  obtain⟨u,ru,lk⟩:=hl j x v q1 q2 Zcz
  refine⟨u,ru,?_⟩
  rcases lk with⟨k1,_⟩|⟨k1,c,hc,ic⟩
  ·exfalso
   have k1':sc.names.lookup x=some .local:=by rw[<-hsc];exact k1
   rcases q3 with q3|q3<;>(rw[k1'] at q3;cases q3)
  ·have e3':(bW X N' scope cl s.heap.objs.size s H fp).env.kindOf x=some .local\/(bW X N' scope cl s.heap.objs.size s H fp).env.kindOf x=some .cell\/(bW X N' scope cl s.heap.objs.size s H fp).env.kindOf x=some .free:=e3
   rcases e3' with z|z
   ·exact absurd z (jJ (env:=X.env) q0)
   ·obtain⟨d,hd⟩:=Ga x z
    have:d=c:=by
     rcases B.at_ x d hd with⟨q,_⟩|⟨_,_,q⟩
     ·rw[hc] at q
      exact(Option.some.inj q).symm
     ·rw[q0] at q
      cases q
    subst this
    exact .inr ⟨z,d,hd,by
     obtain⟨o,ho,hd'⟩:=ic
     exact⟨o,kp _ _ ho,hd'⟩⟩
 ·rcases B.at_ x c e with⟨q,_⟩|⟨_,q,_⟩
  ·obtain⟨v,o,ho,hd⟩:=I.cell x c q
   exact⟨v,o,kp _ _ ho,hd⟩
  ·exact⟨none,q⟩
 ·exact absurd hp (by simp[bW])
 ·show _=N'.length
  rw[<-hlen]
  simp[fL]
def pA{pins:List (Addr×Obj)}{σ σ':L2.St}{H H':Hp}{s s':Shared}{N':List Str}{cl:List (Str×Addr)}{fp:List Addr}{h':Heap}(I:Inv X pins σ H s)(hf:∀b∈fp,iB X pins H b)
 (J:Inv (bW X N' scope cl s.heap.objs.size s H fp) [] σ' H' s')(kp:∀b u,b≠s.heap.objs.size->s'.heap.get? b=some u->h'.get? b=some u):Inv X pins σ H' {s' with heap:=h'}:=by
 have ne:∀{b:Addr} {o:Obj},s.heap.get? b=some o->b≠s.heap.objs.size:=λe=>Nat.ne_of_lt (Heap.lt_size e)
 have u:=J.base
 refine I.call' (ch:=fp) J.os ⟨λb o e n hb hx=>kp b o (ne e) (u.keep b o e n hb hx),λb o e n hb hx=>?_,λb o e n hx=>u.free b o e n hx,λb o e hx=>?_,u.tups,u.qU,u.nJ⟩ (Bb J.hok J.free kp) J.bare λb hb=>?_
 ·obtain⟨sl,q⟩:=u.slot b o e n hb hx
  exact⟨sl,kp b _ (ne e) q⟩
 ·obtain⟨o',q⟩:=u.there b o e hx
  exact⟨o',kp b _ (ne e) q⟩
 ·exact⟨(hf b hb).2.2.2.1,(hf b hb).2.1,(hf b hb).2.2.2.2.1,(hf b hb).2.2.2.2.2⟩
def Bd(N':List Str)(js:List Nat)(nl:Nat)(sc:Scope)(hsc:X.env.scope=sc)(hcalm:X.calm=true)
 (hi:PI X.ł tg iter wi)(hg:∀cl C s H fp,PG (bW X.ł N' scope cl C s H fp) tg g)(ht:∀cl C s H fp,Em (bW X.ł N' scope cl C s H fp) ifs tt)(he:∀cl C s H fp,PE (bW X.ł N' scope cl C s H fp) elt te)
 (hcap:gA X.ł sc scope N' js)(hlen:js.length+nl=N'.length:=by rfl)
 (hk:scope.kind=.function:=by rfl)(hcell:∀y∈scope.names,y.2=.cell->scope.names.lookup y.1=some .cell:=by decide +kernel)(hnames:∀y∈scope.names,y.2=.local->scope.names.lookup y.1=some .local:=by decide +kernel)
 (hfree:∀y∈scope.names,y.2=.free->(sc.names.lookup y.1=some .cell\/sc.names.lookup y.1=some .free):=by decide +kernel)
 (hs:∀x,foldedSetIterable iter X.env x=pure x:=by intro _;rfl) :
 PE X.ł (.ListComp elt [⟨tg,iter,ifs,0⟩] scope pos) (pq js nl wi g tt te):=by
 intro pins s σ H Q I h
 obtain⟨Yy,c1,c2,c3⟩:=jG (scope:=scope) (env:=X.ł.env) λy hy hf=>I.ok.has y.1 (by
  have:=hfree y hy hf
  rw[<-hsc] at this
  exact this)
 rw[eval_ListComp]
 refine wpAny_comprehension_free (use:=none) rfl hs c1 hk hnames (ņ (hi pins s σ H _ I h) λv s1 h1=>ņ h1 λitv s2 h2=>?_)
 obtain⟨it,fp,tn,J,H2,e,I2,T,st2,f2,q2⟩:=h2
 subst e
 refine wpAny_newObj_type (iG (λh₁ hns₁ old TJ=>?_))
 dsimp only at hns₁ old TJ ⊢
 generalize TQ:s2.heap.push {cls:=.type "list",dict:=none,data:=.seq ([]:List Value).toArray}=bY at hns₁ old TJ ⊢
 have hD:H2 s2.heap.objs.size=none:=I2.hok.fresh (Nat.le_refl _)
 have I3:Inv X.ł pins σ (upd H2 s2.heap.objs.size (.lst [])) {s2 with heap:=bY}:=by
  rw[<-TQ]
  exact I2.laid (t':=s2.toks) (λb u e=>Heap.get?_push_of_some _ e) (Nat.le_refl _) ⟨Nat.zero_le _,[],0,.nil,Heap.get?_push_size _ rfl⟩
 have Ko:∀b∈fp,b<s2.heap.objs.size:=λb hb=>by
  obtain⟨o,ho,_⟩:=T.obj 0 _ st2 b hb
  exact Heap.lt_size ho
 have TV:bY.objs.size=s2.heap.objs.size+1:=by rw[<-TQ,Heap.size_push]
 have f3:∀b∈fp,iB X.ł pins (upd H2 s2.heap.objs.size (.lst [])) b:=λb hb=>by
  obtain⟨g0,g1⟩:=f2 b hb
  exact⟨by rw[ĉ (Nat.ne_of_lt (Ko b hb))];exact g0,g1⟩
 have B:=FZ (X:=X.ł) (cl:=Yy) hcell c2 c3 (λx c e=>by
  obtain⟨v,o,ho,_⟩:=I3.cell x c e
  exact Heap.lt_size ho) TJ
 generalize cellsFrom (bY.objs.size+1) scope.names Yy=cl at B ⊢
 obtain⟨W,⟨m0,w0⟩,turn⟩:=q2 s2.heap.objs.size hD
 have I4:=sG (X:=X.ł) (N':=N') (js:=js) (nl:=nl) (sc:=sc) (scope:=scope) (cl:=cl) (fp:=fp) (h':=h₁) (tk:=s2.toks) hsc hk hcap hlen B I3 f3 (λb hb=>by show b<bY.objs.size;rw[TV];exact Nat.lt_succ_of_lt (Ko b hb)) hns₁ old
 have Yz:tn 0 h₁:= T.keep 0 _ _ st2 λb hb o e=>old b o (by rw[<-TQ];exact Heap.get?_push_of_some _ e)
 have Xp:∀b∈fp,(upd H2 s2.heap.objs.size (.lst [])) b=none:=λb hb=>(f3 b hb).1
 have stat:∀{H':Hp},(∀b∈fp,H' b=none)->∀b∈fp,iB (bW X.ł N' scope cl bY.objs.size {s2 with heap:=bY} (upd H2 s2.heap.objs.size (.lst [])) fp) [] H' b:=fun{H'} hn b hb=>by
  obtain⟨g0,g1,g2,g3,g4,g5⟩:=f3 b hb
  refine⟨hn b hb,Nat.ne_of_lt (by show b<bY.objs.size;rw[TV];exact Nat.lt_succ_of_lt (Ko b hb)),λz=>?_,.inl hb,λx c e=>by
   rcases B.at_ x c e with⟨q,_⟩|⟨q,_⟩
   ·exact g4 x c q
   ·exact Nat.ne_of_gt (Nat.lt_trans (by show b<bY.objs.size;rw[TV];exact Nat.lt_succ_of_lt (Ko b hb)) q),λp hp=>absurd hp (by simp[bW])⟩
  rcases List.mem_cons.mp (I3.oW b z) with z|z
  ·exact g1 z
  ·exact g2 z
 have loop:∀s₃:Shared,s₃= {s2 with heap:=h₁}->
  codeAny (model X.prog X.w) X.A (.compLoop (.ListComp elt [⟨tg,iter,ifs,0⟩] scope pos) 0 (.ref it) (.ref s2.heap.objs.size) (compEnvC scope cl bY.objs.size X.ł.env))
   (compPost (model X.prog X.w) X.A X.ł.xe none (EP X.ł pins σ Q) (.ref s2.heap.objs.size) bY.objs.size) s₃:= by
  rintro s₃ rfl
  refine jH (λn s'=>∃i σ' H',Inv (bW X.ł N' scope cl bY.objs.size {s2 with heap:=bY} (upd H2 s2.heap.objs.size (.lst [])) fp) [] σ' H' s'/\tn i s'.heap/\(∀b∈fp,H' b=none)/\W i n σ' H') ?_ m0 ⟨0,_,_,I4,Yz,Xp,w0⟩
  rintro n s5 ⟨i,σ5,H5,I5,JR,R_,w5⟩
  rcases turn i n σ5 H5 w5 with⟨stop,qn⟩|⟨go,N,hN,step⟩
  ·refine ņ (T.done (bW X.ł N' scope cl bY.objs.size {s2 with heap:=bY} (upd H2 s2.heap.objs.size (.lst [])) fp) rfl rfl rfl hcalm i [] s5 σ5 H5 (λ_ _=>False) I5 (stat R_) JR stop) λr s6 ⟨hr,I6⟩=>?_
   subst hr
   obtain⟨m,hm,_⟩:=I6.loc
   refine⟨m,hm,λh' hs'=>⟨.ref s2.heap.objs.size,H5,pA I3 f3 I6 (λb u hb e=>hs'.extBut b u hb e),rfl,qn⟩⟩
  ·refine ņ (T.item (bW X.ł N' scope cl bY.objs.size {s2 with heap:=bY} (upd H2 s2.heap.objs.size (.lst [])) fp) rfl rfl rfl hcalm i [] s5 σ5 H5 (λ_ _=>False) I5 (stat R_) JR go) λr s6 ⟨u,hr,h6⟩=>?_
   subst hr
   refine ņ h6 λ_ s7 ⟨x,H7,I7,r7,y7,TY,fr7⟩=>?_
   have I7':=I7.pinned (stat fr7) (T.obj _ _ TY)
   have again:∀{s8:Shared} {σ8:L2.St} {H8:Hp},Inv (bW X.ł N' scope cl bY.objs.size {s2 with heap:=bY} (upd H2 s2.heap.objs.size (.lst [])) fp) ([]++lq fp s7.heap) σ8 H8 s8->
    Inv (bW X.ł N' scope cl bY.objs.size {s2 with heap:=bY} (upd H2 s2.heap.objs.size (.lst [])) fp) [] σ8 H8 s8/\tn (i+1) s8.heap/\∀b∈fp,H8 b=none:=fun{s8 σ8 H8} I8=>by
    refine⟨I8.gq,T.keep _ _ _ TY λb hb o e=>(I8.pin (b,o) (List.mem_append_right _ (List.mem_append_right _ (aV hb e)))).1,λb hb=>?_⟩
    obtain⟨o,e,d⟩:=T.obj _ _ TY b hb
    exact(I8.pin (b,o) (List.mem_append_right _ (List.mem_append_right _ (aV hb e)))).2.1
   refine ņ (hg cl _ _ _ fp _ s7 σ5 H7 x u _ I7' r7 (step x H7 y7)) λ_ s8 ⟨σ8,H8,I8,q8⟩=>?_
   refine ņ (ht cl _ _ _ fp _ s8 σ8 H8 _ I8 q8) λc s9 ⟨H9,I9,q9⟩=>?_
   cases c with
   |false=>
    rw[if_neg Bool.false_ne_true] at q9 ⊢
    obtain⟨m',hm',w9⟩:=hN _ _ q9
    obtain⟨a1,a2,a3⟩:=again I9
    exact⟨m',hm',i+1,σ8,H9,a1,a2,a3,w9⟩
   |true=>
    rw[if_pos rfl] at q9 ⊢
    refine ņ (he cl _ _ _ fp _ s9 σ8 H9 _ I9 q9) λyv s10 ⟨y,H10,I10,r10,ys,e10,l10,w10⟩=>?_
    refine ņ (ı _ s10 σ8 H10 (.ref s2.heap.objs.size) [y] (.ref s2.heap.objs.size) [yv] (λ_ T_=>N σ8 T_) I10 rfl (.cons r10 .nil) ⟨_,ys,y,rfl,rfl,e10,l10,w10⟩) λ_ s11 ⟨v11,T_,I11,_,w11⟩=>?_
    obtain⟨a1,a2,a3⟩:=again I11
    obtain⟨m',hm',w11⟩:=hN _ _ w11
    exact⟨m',hm',i+1,σ8,T_,a1,a2,a3,w11⟩
 exact codeAny_compStart_list (loop _ rfl) (T.self _ 0 _ _ _ Yz (loop _ rfl))
end
def Its(z:Str):It:=⟨λi _=>i<z.cps.size,λi H x H'=>H'=H/\∃c,z.cps.toList[i]?=some c/\x=.str ⟨#[c]⟩,λi _=>i=z.cps.size⟩
def Dl{P:Program}{w:World}{K:PySem.W.Frag}{tg:Expr}(it:Addr)(z:Str)(t:Tok)(ty:String)
 (hW:∀A:Around,A.handled=none->Walks P w A it [it] [it] z.cps.size (SignAt z) (λi h=>h.IsStrIter it ty z t i))
 (hS:∀(A:Around) (i:Nat) (s:Shared) (Q:Value->Shared->Prop) (E:Value->Shared->Prop),s.heap.IsStrIter it ty z t i->Q (.ref it) s->wpAny (model P w) A (pyIter (.ref it)) Q E s)
 (hty:["enumerate","zip","dict_itemiterator","dict_reverseitemiterator","odict_iterator","itertools.zip_longest","itertools.pairwise"].contains ty=false):Turn P w K tg (Its z) [it] it (λi h=>h.IsStrIter it ty z t i) where
 mem:=by simp
 obj:=λi h st b hb=>by
  have e:b=it:=by simpa using hb
  subst e
  obtain⟨o,e,c,d⟩:=st
  exact⟨o,e,λv z=>by rw[d] at z;cases z⟩
 keep:=λi h h' st k=>by
  obtain⟨o,e,c,d⟩:=st
  exact⟨o,k it (by simp) o e,c,d⟩
 item:=by
  intro X hP hw hK hc i pins s σ H E I hf st hg
  subst hP hw hK
  obtain⟨f0,f1,f2,f3,f4,f5⟩:=hf it (by simp)
  refine(hW X.A (I.ok.hd hc)).item i s _ _ hg st λv h' tk hv st' kk=>?_
  obtain⟨c,u,hcu,rfl⟩:=hv
  have I1:Inv X pins σ H {s with heap:=h',toks:=tk}:=I.turned (λb o hb e=>kk b o (by simpa using hb) e) f0 f1 f3 f4 f5
  obtain⟨o,e,cl,d⟩:=id st'
  exact⟨_,rfl,Av (s:={s with heap:=h',toks:=tk}) e cl d hty ⟨.str ⟨#[c]⟩,H,I1,⟨u,rfl⟩,⟨rfl,c,by simpa using hcu,rfl⟩,st',λb hb=>(hf b hb).1⟩⟩
 done:=by
  intro X hP hw hK hc i pins s σ H E I hf st hg
  subst hP hw hK
  obtain⟨f0,f1,f2,f3,f4,f5⟩:=hf it (by simp)
  have e:i=z.cps.size:=hg
  subst e
  exact(hW X.A (I.ok.hd hc)).done s _ _ st λh' tk kk=>⟨rfl,I.turned (λb o hb e=>kk b o (by simpa using hb) e) f0 f1 f3 f4 f5⟩
 self:=hS
section
variable{X:Cx}{tg:Expr}
end
end M3
namespace M4
open PySem PySem.Spec PyProof.Rows L2 M2 M3
section
variable{X:Cx}
def Kp{bs:List Bool}:∀{us:List Value},Vals (bs.map V.bl) us->us=bs.map Value.bool:=by
 induction bs with
 |nil=>intro us r;rw[List.map_nil] at r;cases r;rfl
 |cons b bs ih=>
  intro us r
  rw[List.map_cons] at r
  cases r with
  |cons r1 r2=>
   cases r1
   rw[ih r2]
   rfl
def all_range(bs:List Bool):(List.range (bs.map Value.bool).toArray.size).all (λi=>bs.getD i false)=bs.all id:=by
 have e:(bs.map Value.bool).toArray.size=bs.length:=by simp
 rw[e,Bool.eq_iff_iff]
 simp only[List.all_eq_true,List.mem_range,id]
 constructor
 ·intro h b hb
  obtain⟨i,hi,rfl⟩:=List.mem_iff_getElem.mp hb
  have:=h i hi
  rw[List.getD_eq_getElem?_getD,List.getElem?_eq_getElem hi] at this
  exact this
 ·intro h i hi
  rw[List.getD_eq_getElem?_getD,List.getElem?_eq_getElem hi]
  exact h _ (List.getElem_mem hi)
def wK{prog:Program}{w:World}{A:Around}(bs:List Bool):TruthOf prog w A (λi v=>(bs.map Value.bool).toArray[i]?=some v) (λi=>bs.getD i false):=by
 intro i v s Q E hv hq
 have hv':bs[i]?.map Value.bool=some v:=by
  rw[<-List.getElem?_map]
  simpa using hv
 cases hb:bs[i]? with
 |none=>rw[hb] at hv';cases hv'
 |some b=>
  rw[hb] at hv'
  cases hv'
  dsimp only at hq
  rw[List.getD_eq_getElem?_getD,hb] at hq
  exact wpAny_truthy_bool hq
def Ua(K:PySem.W.Frag):List V->Hp->VK->Prop:=λxs H Q=>match xs with
 | [.ref p]=>∃bs:List Bool,ŝ K H p (bs.map V.bl)/\Q (.bl (bs.all id)) H
 |_=>False
def lG(hc:X.calm=true):ő X (.builtin "all") (Ua X.K):=by
 intro pins s σ H xs us Q I r h
 unfold Ua at h
 split at h
 ·rename_i p
  obtain⟨bs,hS,q⟩:=h
  obtain⟨u,rfl,ru⟩:=vals1 r
  cases ru
  obtain⟨its,rv,pl,hz⟩:=I.list hS
  have e:=Kp rv
  subst e
  have hp:p≠s.heap.objs.size:=by
   obtain⟨o,n,e,_⟩:=pl
   exact Nat.ne_of_lt (Heap.lt_size e)
  refine call_all_walk (wpAny_pyIter_list pl.isList ?_)
  refine⟨s.heap.objs.size,_,_,_,_,_,_,rfl,Walks.list (A:=X.A.in1) (show X.A.in1.handled=none from I.ok.hd hc) s.heap.objs.size p hp (bs.map Value.bool).toArray,⟨⟨_,Heap.get?_push_size _ rfl,rfl,rfl⟩,pl.isList.at λo e=>Heap.get?_push_of_some _ e⟩,wK bs,λh' tk k=>?_⟩
  rw[all_range]
  exact⟨.bl _,H,I.kept λb o e=>k b o (by simpa using Nat.ne_of_lt (Heap.lt_size e)) (Heap.get?_push_of_some _ e),rfl,q⟩
 ·exact h.elim
end
abbrev S(l:List Nat):Str:=⟨l.toArray⟩
def Ub(z:Str):S z.cps.toList=z:=by
 cases z
 simp
def Mr(l:List Nat):(S l).length=l.length:=by simp[Str.length]
def mR(z:Str):z.cps.toList.length=z.length:=by simp[Str.length]
def Ms(a b:List Nat):S a++S b=S (a++b):=by
 refine PyProof.Rows.ext_toList ?_
 rw[PySem.W.KT.app_list]
def uI(xs:List Nat)(lo hi:Option Int):List Nat:=(xs.drop (HT.dX xs.length 0 lo)).take (HT.dX xs.length xs.length hi-HT.dX xs.length 0 lo)
def idx_eq(z:Str)(lo hi:Option Int):Builtin.Str.strSliceIndices lo hi 1 z.length=(List.range (HT.dX z.length z.length hi-HT.dX z.length 0 lo)).map (HT.dX z.length 0 lo + ·):=by
 have hc:∀(o:Option Int) (d:Nat),d<=z.length->(match o with|none=>((d:Nat):Int)|some i=>max 0 (min (if i<0 then i+(z.length:Int) else i) (z.length:Int)))=((HT.dX z.length d o:Nat):Int):=by
  intro o d hd
  cases o with
  |none=>rfl
  |some i=>
   show max 0 (min (if i<0 then i+(z.length:Int) else i) (z.length:Int))=((if i<0 then(i+(z.length:Int)).toNat else min i.toNat z.length:Nat):Int)
   by_cases h:i<0
   ·rw[if_pos h,if_pos h];omega
   ·rw[if_neg h,if_neg h];omega
 have e:Builtin.Str.strSliceIndices lo hi 1 z.length=sliceRange ((HT.dX z.length 0 lo:Nat):Int) ((HT.dX z.length z.length hi:Nat):Int) 1:=by
  have h1:=hc lo 0 (Nat.zero_le _)
  have h2:=hc hi z.length (Nat.le_refl _)
  unfold Builtin.Str.strSliceIndices
  simp only[show(1:Int)>0 by decide,if_true]
  rw[<-h1,<-h2]
  cases lo<;>cases hi<;>rfl
 rw[e,sliceRange_one]
def Kq(z:Str)(lo hi:Option Int):(Builtin.Str.strSliceIndices lo hi 1 z.length).filterMap (z.cps[·]?)=uI z.cps.toList lo hi:=by
 rw[idx_eq,pick_run]
 unfold uI
 rw[mR]
def Kr(xs:List Nat)(lo hi:Option Int):(uI xs lo hi).length<=xs.length:=by
 unfold uI
 rw[List.length_take,List.length_drop]
 omega
def Gb{z:Str}{t:Tok}{l u:Option (Int×Tok)}{Q:Value->Shared->Prop}{s:Shared}(hz:z.length<=sizeLine)
 (h:∀t' k,Q (.str (S (uI z.cps.toList (l.map (·.1)) (u.map (·.1)))) t') {s with toks:=k}):(sliceMade z t l u none).post Q s:=by
 have e:=Kq z (l.map (·.1)) (u.map (·.1))
 unfold sliceMade
 have ep:slicePicked z l u none=Builtin.Str.strSliceIndices (l.map (·.1)) (u.map (·.1)) 1 z.length:=rfl
 rw[ep]
 split
 ·rename_i hc
  have hl:(Builtin.Str.strSliceIndices (l.map (·.1)) (u.map (·.1)) 1 z.length).length=z.length:=by simpa using hc
  have hz2:uI z.cps.toList (l.map (·.1)) (u.map (·.1))=z.cps.toList:=by
   rw[idx_eq,List.length_map,List.length_range] at hl
   have hi:=HT.Fo z.length 0 (Nat.zero_le _) (l.map (·.1))
   have hj:=HT.Fo z.length z.length (Nat.le_refl _) (u.map (·.1))
   unfold uI
   rw[mR]
   have hl2:=mR z
   have a0:HT.dX z.length 0 (l.map (·.1))=0\/z.length=0:=by omega
   rcases a0 with a0|a0
   ·rw[a0] at hl ⊢
    rw[List.drop_zero]
    exact List.take_of_length_le (by omega)
   ·have:z.cps.toList=[]:=List.eq_nil_of_length_eq_zero (by omega)
    rw[this]
    simp
  have:=h t s.toks
  rw[hz2,Ub] at this
  exact this
 ·rw[e]
  exact⟨by rw[Mr];have:=Kr z.cps.toList (l.map (·.1)) (u.map (·.1));rw[mR] at this;omega,h _ _⟩
section
variable{X:Cx}
def ZcA:V->Option Int->Option Int->Hp->VK->Prop:=λx lo hi H Q=>match x with
 | .str z=>z.length<=sizeLine/\Q (.str (S (uI z.cps.toList lo hi))) H
 |_=>False
def Ks:Aw X ZcA:=by
 intro pins s σ H x v vl vu lo hi sl Q I rx hs pl pu h
 cases x with
 |str z=>
  obtain⟨t,rfl⟩:=rx
  obtain⟨hz,q⟩:=h
  obtain⟨l,el,el2⟩:∃l:Option (Int×Tok),partValue l=vl/\l.map (·.1)=lo:=by
   cases pl with
   |none=>exact⟨none,rfl,rfl⟩
   |int i t=>exact⟨some (i,t),rfl,rfl⟩
  obtain⟨u,eu,eu2⟩:∃u:Option (Int×Tok),partValue u=vu/\u.map (·.1)=hi:=by
   cases pu with
   |none=>exact⟨none,rfl,rfl⟩
   |int i t=>exact⟨some (i,t),rfl,rfl⟩
  subst el el2 eu eu2
  exact⟨"str",_,F.slot_str_getitem.lookup,typeIs_str s z t,wpAny_getItem_str_slice (l:=l) (u:=u) (st:=none) hs rfl (Gb hz λt' k=>⟨.str _,H,I.tok _,⟨_,rfl⟩,q⟩)⟩
 |_=>exact h.elim
def ZcB(K:PySem.W.Frag):V->Option Int->Option Int->Hp->VK->Prop:=λx lo hi H Q=>match x with
 | .ref a=>∃xs,ŝ K H a xs/\∀p,H p=none->Q (.ref p) (upd H p (.lst (wH xs lo hi)))
 | .str z=>z.length<=sizeLine/\Q (.str (S (uI z.cps.toList lo hi))) H
 |_=>False
def slm:Aw X (ZcB X.K):=Aw.wk (FP.or Ks) λx lo hi H Q h=>by
 cases x with
 |ref a=>exact .inl h
 |str z=>exact .inr h
 |_=>exact h.elim
def Dp(z y:Str):Txt.startswith z y=decide (z.cps.toList.take y.cps.toList.length=y.cps.toList):=by
 unfold Txt.startswith
 rw[StrLaws.subAt_eq,List.drop_zero,mR,Bool.eq_iff_iff]
 simp only[Bool.and_eq_true,decide_eq_true_eq,beq_iff_eq]
 constructor
 ·exact λh=>h.2
 ·intro h
  refine⟨?_,h⟩
  have h2:=congrArg List.length h
  rw[List.length_take,mR,mR] at h2
  omega
def uJ:V->List V->Hp->VK->Prop:=λx vs H Q=>match x,vs with
 | .str z,[.str y]=>Q (.bl (decide (z.cps.toList.take y.cps.toList.length=y.cps.toList))) H
 |_,_=>False
def sI:Xn X "str.startswith" uJ:=by
 intro pins s σ H x xs v us Q I rx rs h
 unfold uJ at h
 split at h
 ·obtain⟨t,rfl⟩:=rx
  obtain⟨u,rfl,t',rfl⟩:=vals1 rs
  exact SC.startswith ⟨.bl _,H,I,rfl,by rw[Dp];exact h⟩
 ·exact h.elim
def mul_eq(z:Str){n:Int}(h:0<=n):Txt.mul z n=S (List.replicate n.toNat z.cps.toList).flatten:=by
 have key:∀(k:Nat) (acc:Array Nat),((List.replicate k z.cps).foldl (·++ ·) acc).toList=acc.toList++(List.replicate k z.cps.toList).flatten:=by
  intro k
  induction k with
  |zero=>intro acc;simp
  |succ k ih=>
   intro acc
   rw[List.replicate_succ,List.foldl_cons,ih,List.replicate_succ,List.flatten_cons]
   simp
 unfold Txt.mul
 refine PyProof.Rows.ext_toList ?_
 by_cases h1:n<1
 ·rw[if_pos h1]
  have:n.toNat=0:=by omega
  rw[this]
  simp[Str.empty]
 ·rw[if_neg h1]
  split
  ·rename_i hc
   rw[Bool.or_eq_true] at hc
   rcases hc with hc|hc
   ·have:n=1:=by simpa using hc
    subst this
    simp
   ·have h0:z.cps.toList=[]:=List.eq_nil_of_length_eq_zero (by rw[mR];simpa using hc)
    rw[h0]
    simp
  ·rw[key]
   simp
def Gd(z:Str)(n:Int):Prop:=0<=n/\n<=1000/\z.length<=1000
def Gd.ok{z:Str}{n:Int}(h:Gd z n):MulOk z n:=by
 obtain⟨h0,h1,h2⟩:=h
 refine⟨?_,λhn _=>?_,λhn _=>?_⟩
 ·rw[decide_eq_false (by omega),decide_eq_false (by omega)]
  rfl
 ·have:(9000000000000000:Int)≤(2 ^ 63-1) / n:=by
   rw[Int.le_ediv_iff_mul_le (by omega)]
   omega
  omega
 ·have:z.length*n.toNat<=1000*1000:=Nat.mul_le_mul h2 (by omega)
  unfold Builtin.Str.tooLong
  simp
  rw[sizeLine_eq]
  omega
def Ge:R2:=λx y H Q=>match x,y with
 | .int i,.int j=>sy i j/\Q (.int (i*j)) H
 | .str z,.int n=>Gd z n/\Q (.str (S (List.replicate n.toNat z.cps.toList).flatten)) H
 |_,_=>False
def Ku:aC X (binaryOp .Mult) Ge:=by
 intro pins s σ H x y v u Q I rx ry h
 unfold Ge at h
 split at h
 ·exact Tv pins s σ H _ _ v u Q I rx ry h
 ·obtain⟨t,rfl⟩:=rx
  obtain⟨t',rfl⟩:=ry
  exact SB.mul h.1.ok λt' k=>⟨.str _,H,I.tok _,⟨_,by rw[mul_eq _ h.1.1]⟩,h.2⟩
 ·exact h.elim
def ū(sep:List Nat):List (List Nat)->List Nat
 | []=>[]
 | [x]=>x
 |x::y::r=>x++sep++ū sep (y::r)
theorem join_eq(sep:Str):∀ys:List (List Nat),Str.join sep (ys.map S)=S (ū sep.cps.toList ys)
 | []=>rfl
 | [x]=>rfl
 |x::y::r=>by
  have ih:=join_eq sep (y::r)
  show S x++sep++Str.join sep ((y::r).map S)=_
  have e:ū sep.cps.toList (x::y::r)=x++sep.cps.toList++ū sep.cps.toList (y::r):=rfl
  rw[ih,e,<-Ms,<-Ms,Ub]
def Kv{ys:List (List Nat)}:∀{us:List Value},Vals (ys.map λl=>V.str (S l)) us->StrsAre us (ys.map S):=by
 induction ys with
 |nil=>intro us r;rw[List.map_nil] at r;cases r;exact .nil
 |cons y ys ih=>
  intro us r
  rw[List.map_cons] at r
  cases r with
  |cons r1 r2=>
   obtain⟨t,rfl⟩:=r1
   exact .cons _ t (ih r2)
def Gf(K:PySem.W.Frag):V->List V->Hp->VK->Prop:=λx vs H Q=>match x,vs with
 | .str z,[.ref p]=>∃ys:List (List Nat),ŝ K H p (ys.map λl=>V.str (S l))/\(ys.map List.length).sum+ys.length*z.length<=16777216/\Q (.str (S (ū z.cps.toList ys))) H
 |_,_=>False
def gY:Xn X "str.join" (Gf X.K):=by
 intro pins s σ H x xs v us Q I rx rs h
 unfold Gf at h
 split at h
 ·obtain⟨ys,hS,hz,q⟩:=h
  obtain⟨t,rfl⟩:=rx
  obtain⟨u,rfl,ru⟩:=vals1 rs
  cases ru
  obtain⟨its,rv,pl,_⟩:=I.list hS
  refine join_list pl.isList (by simpa using Kv rv) ?_ λt' k=>⟨.str _,H,I.tok _,⟨t',?_⟩,q⟩
  ·have e1:((ys.map S).map (·.length))=ys.map List.length:=by
    rw[List.map_map]
    exact List.map_congr_left λl _=>Mr l
   rw[e1,List.length_map]
   exact hz
  ·unfold Txt.join
   rw[StrLaws.glued_eq_join,join_eq]
 ·exact h.elim
end
end M4
namespace M5
open PySem PySem.Spec PyProof.Rows L2 M2 M3
section
variable{X:Cx}{pins:List (Addr×Obj)}{σ:L2.St}{H:Hp}{s:Shared}{x:Str}{c P:Addr}{params:Arguments}{body:Expr}{scope:Scope}{pos:Pos}{cl:List (Str×Addr)}
end
section
variable{X:Cx}{pins:List (Addr×Obj)}{σ:L2.St}{H:Hp}{s:Shared}{params:Arguments}{body:Expr}{scope sc:Scope}{cl:List (Str×Addr)}{N0:List Str}{js:List Nat}{qual px:Str}{f c':Addr}{A:Around}
end
section
variable{X:Cx}{pins:List (Addr×Obj)}{σ:L2.St}{H:Hp}{s:Shared}
variable{R:Result->Shared->Prop}{f l S It:Addr}{oF:Obj}{xs:List V}(ks:Nat->Int)(W:Nat->Hp->Prop)
end
section
variable{X:Cx}{x px:Str}{c P:Addr}{params:Arguments}{body e:Expr}{scope:Scope}{p pos Uc kpos:Pos}{ta:TA}{te:TE}
end
end M5
namespace P
def nst:PySem.Expr->Bool
 | .Starred .. =>false
 |_=>true
def Ŗ{e:PySem.Expr}{es:List PySem.Expr}{env:PySem.Env}(h:nst e=true):PySem.starEach (e::es) env=(false,PySem.eval e env)::PySem.starEach es env:=by
 cases e<;>first|rfl|cases h
def Ud{a b:PySem.Expr}{env:PySem.Env}(h:nst a=true)(h2:nst b=true):PySem.starEach [a,b] env=[(false,PySem.eval a env),(false,PySem.eval b env)]:=by
 rw[Ŗ h,Ŗ h2];rfl
open PySem PySem.Spec PyProof.Rows L2 M2
structure KK where
 K:PySem.W.Frag
 cm:String->Addr
abbrev kk(X:Cx)(cm:String->Addr):KK:=⟨X.K,cm⟩
inductive PV where
 |non|bl (b:Bool)|int (i:Int)|str (x:Str)|tup (xs:List PV)|lst (xs:List PV)
 |ins (C:String) (ns:List Str) (xs:List PV)|xc (C:String) (ns:List Str) (xs:List PV)|ty (n:String)|cls (C:String)
def xo(a C:Addr)(d:Option Addr):HO:=.ext λh=>∃o vs,h.get? a=some o/\o.cls=.ref C/\o.dict=d/\o.data=.fields vs
def wL(F:Hp)(d:Option Addr)(fs:List (Str×V)):Prop:=(d=none/\fs=[])\/∃a,d=some a/\F a=some (.xd fs)
mutual
def Rep(K:KK)(F:Hp):PV->V->Prop
 | .non,v=>v=.non
 | .bl b,v=>v=.bl b
 | .int i,v=>v=.int i
 | .str x,v=>v=.str x
 | .tup ps,v=>∃a xs,v=.ref a/\dh K.K F a xs/\Ĉ K F ps xs
 | .lst ps,v=>∃a xs,v=.ref a/\ŝ K.K F a xs/\Ĉ K F ps xs
 | .ins C ns ps,v=>∃a dx fs,v=.ref a/\F a=some (.ins (K.cm C) dx fs)/\fs.map (·.1)=ns/\Ĉ K F ps (fs.map (·.2))
 | .xc C ns ps,v=>∃a d fs,v=.ref a/\F a=some (xo a (K.cm C) d)/\wL F d fs/\fs.map (·.1)=ns/\Ĉ K F ps (fs.map (·.2))
 | .ty n,v=>v=.ty n
 | .cls C,v=>v=.ref (K.cm C)
def Ĉ(K:KK)(F:Hp):List PV->List V->Prop
 | [],xs=>xs=[]
 |p::ps,xs=>∃x r,xs=x::r/\Rep K F p x/\Ĉ K F ps r
end
section
variable{K:KK}{F F' H H':Hp}
def wL.same{d:Option Addr}{fs:List (Str×V)}(e:Same F F')(h:wL F d fs):wL F' d fs:=by
 rcases h with h|⟨a,h1,h2⟩
 ·exact .inl h
 ·exact .inr ⟨a,h1,e _ _ h2⟩
mutual
theorem Rep.same(e:Same F F'):∀(p:PV) (v:V),Rep K F p v->Rep K F' p v
 | .non,_,h=>by unfold Rep at h ⊢;exact h
 | .bl _,_,h=>by unfold Rep at h ⊢;exact h
 | .int _,_,h=>by unfold Rep at h ⊢;exact h
 | .str _,_,h=>by unfold Rep at h ⊢;exact h
 | .ty _,_,h=>by unfold Rep at h ⊢;exact h
 | .cls _,_,h=>by unfold Rep at h ⊢;exact h
 | .tup ps,_,h=>by
   unfold Rep at h ⊢
   obtain⟨a,xs,h1,h2,h3⟩:=h
   exact⟨a,xs,h1,Same.tup e h2,Ĉ.same e ps xs h3⟩
 | .lst ps,_,h=>by
   unfold Rep at h ⊢
   obtain⟨a,xs,h1,h2,h3⟩:=h
   exact⟨a,xs,h1,e.seq h2,Ĉ.same e ps xs h3⟩
 | .ins C ns ps,_,h=>by
   unfold Rep at h ⊢
   obtain⟨a,dx,fs,h1,h2,h3,h4⟩:=h
   exact⟨a,dx,fs,h1,e _ _ h2,h3,Ĉ.same e ps _ h4⟩
 | .xc C ns ps,_,h=>by
   unfold Rep at h ⊢
   obtain⟨a,d,fs,h1,h2,hd,h3,h4⟩:=h
   exact⟨a,d,fs,h1,e _ _ h2,hd.same e,h3,Ĉ.same e ps _ h4⟩
theorem Ĉ.same(e:Same F F'):∀(ps:List PV) (xs:List V),Ĉ K F ps xs->Ĉ K F' ps xs
 | [],_,h=>by unfold Ĉ at h ⊢;exact h
 |p::ps,_,h=>by
  unfold Ĉ at h ⊢
  obtain⟨x,r,h1,h2,h3⟩:=h
  exact⟨x,r,h1,Rep.same e p x h2,Ĉ.same e ps r h3⟩
end
theorem Ĉ.pr:∀{ps:List PV} {vs:List V},Ĉ K F ps vs->Paired (Rep K F) ps vs
 | [],_,h=>by unfold Ĉ at h;subst h;exact .nil
 |p::ps,_,h=>by
  unfold Ĉ at h
  obtain⟨x,r,rfl,h2,h3⟩:=h
  exact .cons h2 (Ĉ.pr h3)
theorem Ĉ.of:∀{ps:List PV} {vs:List V},Paired (Rep K F) ps vs->Ĉ K F ps vs
 | [],_,.nil=>by unfold Ĉ;rfl
 |p::ps,_,.cons h t=>by unfold Ĉ;exact⟨_,_,rfl,h,Ĉ.of t⟩
theorem Ĉ.nil:Ĉ K F [] []:=Ĉ.of .nil
theorem Ĉ.cons{p:PV}{v:V}{ps:List PV}{vs:List V}(h:Rep K F p v)(t:Ĉ K F ps vs):Ĉ K F (p::ps) (v::vs):=Ĉ.of (.cons h t.pr)
theorem Ĉ.length{ps:List PV}{vs:List V}(h:Ĉ K F ps vs):ps.length=vs.length:=Paired.length h.pr
theorem aW{α β:Type}{G:α->β->Prop}:∀{l:List α} {m:List β} {i:Nat} {x:α},Paired G l m->l[i]?=some x->∃y,m[i]?=some y/\G x y
 |_,_,_,_,.nil,e=>by simp at e
 |_,_,0,_,.cons r _,e=>by simp at e;subst e;exact⟨_,rfl,r⟩
 |_,_,i+1,x,.cons _ t,e=>by
  obtain⟨y,h1,h2⟩:=aW (i:=i) (x:=x) t (by simpa using e)
  exact⟨y,by simpa using h1,h2⟩
theorem Bf{α β:Type}{G:α->β->Prop}:∀{l:List α} {m:List β} {i:Nat} {y:β},Paired G l m->m[i]?=some y->∃x,l[i]?=some x/\G x y
 |_,_,_,_,.nil,e=>by simp at e
 |_,_,0,_,.cons r _,e=>by simp at e;subst e;exact⟨_,rfl,r⟩
 |_,_,i+1,y,.cons _ t,e=>by
  obtain⟨x,h1,h2⟩:=Bf (i:=i) (y:=y) t (by simpa using e)
  exact⟨x,by simpa using h1,h2⟩
theorem pB{α β:Type}{G:α->β->Prop}:∀{l l2:List α} {m m2:List β},Paired G l m->Paired G l2 m2->Paired G (l++l2) (m++m2)
 |_,_,_,_,.nil,t=>t
 |_,_,_,_,.cons r s,t=>.cons r (pB s t)
theorem Gg{α β:Type}{G:α->β->Prop}{x:α}{y:β}(r:G x y):∀{l:List α} {m:List β} (i:Nat),Paired G l m->Paired G (l.set i x) (m.set i y)
 |_,_,_,.nil=>.nil
 |_,_,0,.cons _ t=>.cons r t
 |_,_,i+1,.cons q t=>.cons q (Gg r i t)
theorem Bg{α β:Type}{G:α->β->Prop}:∀{l:List α} {m:List β} (n:Nat),Paired G l m->Paired G (l.take n) (m.take n)
 |_,_,0,_=>.nil
 |_,_,_+1,.nil=>.nil
 |_,_,n+1,.cons r t=>.cons r (Bg n t)
theorem Bh{α β:Type}{G:α->β->Prop}:∀{l:List α} {m:List β} (n:Nat),Paired G l m->Paired G (l.drop n) (m.drop n)
 |_,_,0,h=>h
 |_,_,_+1,.nil=>.nil
 |_,_,n+1,.cons _ t=>Bh n t
def Ĉ.append{ps qs:List PV}{vs us:List V}(h:Ĉ K F ps vs)(t:Ĉ K F qs us):Ĉ K F (ps++qs) (vs++us):=Ĉ.of (pB h.pr t.pr)
end
inductive Slot where
 |no|sh (p:PV)|ow (ps:List PV)|bw (ps:List PV)|rc (C:String) (ns:List Str) (ps:List PV)|ot (ps qs rs:List PV)|ol (qR:List (List PV))|fr (qR:List (List PV))|bn (qs rows:List PV)|dw (dz:List (List PV×List PV))
abbrev ħ:=List Slot
def Slot.own:Slot->Bool
 | .ow _=>true
 | .rc _ _ _=>true
 | .ot _ _ _=>true
 | .ol _=>true
 | .fr _=>true
 |_=>false
structure Ctx where
 B:Hp
 F₀:Hp
 /-- what is lent here:read,never changed,never kept -/
 L:Hp
 /-- which objects may be held as one's own:address,dict,class -/
 S:Addr->Addr->String->Prop
def Mt(F:Hp)(a b:Addr):Hp:=λx=>if x=a\/x=b then none else F x
def jk(K:KK)(B F:Hp)(t:Bool)(ps qs rows:List PV)(v:V):Prop:=∃a b ys vs,F a=some (.lst (.ref b::ys))/\F b=some (.lst vs)/\B a=none/\B b=none/\a≠b/\Ĉ K (Mt F a b) qs vs/\Ĉ K (Mt F a b) rows ys/\((t=false/\ps=[]/\v=.ref a)\/t=true/\∃p xs,v=.ref p/\F p=some (.tup (xs ++ [.ref a]))/\Ĉ K (Mt F a b) ps xs)
def Ŭ(K:KK)(c:Ctx)(F H:Hp)(o:Option V):Slot->Prop
 | .no=>True
 | .sh p=>∃v,o=some v/\Rep K F p v
 | .ow ps=>∃a vs,o=some (.ref a)/\H a=some (.lst vs)/\F a=none/\c.B a=none/\Ĉ K F ps vs
 | .bw ps=>∃a vs,o=some (.ref a)/\c.L a=some (.lst vs)/\Ĉ K F ps vs
 | .rc C ns ps=>∃a dx fs,o=some (.ref a)/\H a=some (.ins (K.cm C) dx fs)/\F a=none/\c.B a=none/\fs.map (·.1)=ns/\Ĉ K F ps (fs.map (·.2))/\c.S a dx C
 | .ot ps qs rs=>∃p a xs vs ys,o=some (.ref p)/\F p=some (.tup (xs ++ .ref a::ys))/\Ĉ K F ps xs/\H a=some (.lst vs)/\F a=none/\c.B a=none/\Ĉ K F qs vs/\Ĉ K F rs ys
 | .ol qR=>∃(p:Addr) (as:List Addr),o=some (.ref p)/\F p=some (.lst (as.map V.ref))/\as.Nodup/\Paired (λ(a:Addr) (ps:List PV)=>∃vs,H a=some (.lst vs)/\F a=none/\c.B a=none/\Ĉ K F ps vs) as qR
 | .fr qR=>∃(p:Addr) (as:List Addr),o=some (.ref p)/\H p=some (.lst (as.map V.ref))/\F p=none/\c.B p=none/\as.Nodup/\Paired (λ(a:Addr) (ps:List PV)=>∃vs,F a=some (.lst vs)/\c.B a=none/\Ĉ K F ps vs) as qR
 | .bn qs rows=>∃v,o=some v/\jk K c.B F false [] qs rows v
 | .dw dz=>∃(a:Addr) (ts:List Addr),o=some (.ref a)/\c.L a=some (.lst (ts.map V.ref))/\Paired (λ(t:Addr) (d:List PV×List PV)=>∃xs b vs,F t=some (.tup (xs ++ [.ref b]))/\Ĉ K F d.1 xs/\c.L b=some (.lst vs)/\Ĉ K F d.2 vs) ts dz
def Slot.at_(F:Hp)(x:V)(a:Addr):Slot->Prop
 | .ot ps _ _=>∃p xs ys,x=.ref p/\F p=some (.tup (xs ++ .ref a::ys))/\xs.length=ps.length
 | .ol _=>∃(p:Addr) (as:List Addr),x=.ref p/\F p=some (.lst (as.map V.ref))/\a∈as
 | .ow _=>x=.ref a
 | .fr _=>x=.ref a
 | .rc _ _ _=>x=.ref a
 |_=>False
def Ľ(F:Hp)(σ:L2.St)(ρ:ħ)(i:Nat)(a:Addr):Prop:=∃s x,ρ[i]?=some s/\σ[i]?=some (some x)/\s.at_ F x a
structure Rel(K:KK)(c:Ctx)(F H:Hp)(σ:L2.St)(ρ:ħ):Prop where
 sub:Same F H
 base:Same c.B H
 f0:Same c.F₀ F
 bM:∀a,c.B a≠none->c.F₀ a=none->F a=none
 lent:∀a u,c.L a=some u->H a=some u/\F a=none
 lb:∀a,c.B a=none->c.L a=none
 len:σ.length=ρ.length
 slot:∀(i:Nat) s,ρ[i]?=some s->Ŭ K c F H ((σ[i]?).getD none) s
 sep:∀i j a,Ľ F σ ρ i a->Ľ F σ ρ j a->i=j
def Ź(F:Hp)(σ:L2.St)(ρ:ħ)(a:Addr):Prop:=∀i,¬Ľ F σ ρ i a
section
variable{K:KK}{c:Ctx}{F F' H H':Hp}{σ:L2.St}{ρ:ħ}{a:Addr}{o:HO}
def jl{s:Slot}{x:V}(h:s.at_ F x a):s.own=true:=by
 cases s<;>first|rfl|exact h.elim
theorem pC:∀{as bs:List Addr},as.map V.ref=bs.map V.ref->as=bs
 | [],[],_=>rfl
 | [],_::_,h=>by cases h
 |_::_,[],h=>by cases h
 |a::as,b::bs,h=>by
  injection h with h1 h2
  injection h1 with h1
  rw[h1,pC h2]
def jK{ps qs rs:List PV}{x:V}{b:Addr}(h:(Slot.ot ps qs rs).at_ F x a)(h':(Slot.ot ps qs rs).at_ F x b):a=b:=by
 obtain⟨p,xs,us,h1,h2,l1⟩:=h
 obtain⟨q,ys,ws,h3,h4,l2⟩:=h'
 rw[h1] at h3
 cases h3
 rw[h2] at h4
 have e:xs++V.ref a::us=ys++V.ref b::ws:=by
  injection h4 with h4
  injection h4
 have e2:=(List.append_inj e (by omega)).2
 injection e2 with e2
 injection e2
theorem Gh{α β:Type}{G:α->β->Prop}:∀{l:List α} {m:List β} {x:α},Paired G l m->x∈l->∃y,y∈m/\G x y
 |_,_,_,.nil,h=>by simp at h
 |_,_,x,.cons r t,h=>by
  rcases List.mem_cons.mp h with rfl|h
  ·exact⟨_,List.mem_cons_self,r⟩
  ·obtain⟨y,h1,h2⟩:=Gh t h
   exact⟨y,List.mem_cons_of_mem _ h1,h2⟩
theorem fM{α β:Type}{G G':α->β->Prop}:∀{l:List α} {m:List β},Paired G l m->(∀x y,x∈l->G x y->G' x y)->Paired G' l m
 |_,_,.nil,_=>.nil
 |_,_,.cons r t,h=>.cons (h _ _ List.mem_cons_self r) (fM t λx y hx=>h x y (List.mem_cons_of_mem _ hx))
def pF{a b:Addr}(e:Same F F'):Same (Mt F a b) (Mt F' a b):=λx u h=>by
 unfold Mt at h ⊢
 split at h
 ·cases h
 ·rename_i n;rw[if_neg n];exact e x u h
def uK{a b:Addr}:Same (Mt F a b) F:=λx u h=>by
 unfold Mt at h
 split at h
 ·cases h
 ·exact h
theorem jk.same{B:Hp}{t:Bool}{ps qs rows:List PV}{v:V}(h:jk K B F t ps qs rows v)(e:Same F F'):jk K B F' t ps qs rows v:=by
 obtain⟨a,b,ys,vs,h1,h2,h3,h4,h5,h6,h7,h8⟩:=h
 refine⟨a,b,ys,vs,e _ _ h1,e _ _ h2,h3,h4,h5,h6.same (pF e) qs vs,h7.same (pF e) rows ys,h8.imp id λ⟨z,p,xs,q1,q2,q3⟩=>⟨z,p,xs,q1,e _ _ q2,q3.same (pF e) ps xs⟩⟩
def jk.base{B B':Hp}{t:Bool}{ps qs rows:List PV}{v:V}(h:jk K B F t ps qs rows v)(e:Same B' B):jk K B' F t ps qs rows v:=by
 obtain⟨a,b,ys,vs,h1,h2,h3,h4,h5,h6,h7,h8⟩:=h
 exact⟨a,b,ys,vs,h1,h2,e.free h3,e.free h4,h5,h6,h7,h8⟩
def bnV(t:Bool)(ps qs rows:List PV):PV:=if t then .tup (ps ++ [.lst (.lst qs::rows)]) else .lst (.lst qs::rows)
def jk.rep{B:Hp}{t:Bool}{ps qs rows:List PV}{v:V}(h:jk K B F t ps qs rows v):Rep K F (bnV t ps qs rows) v:=by
 obtain⟨a,b,ys,vs,h1,h2,h3,h4,h5,h6,h7,h8⟩:=h
 have e1:Rep K F (.lst qs) (.ref b):=by unfold Rep;exact⟨b,vs,rfl,ŝ.of h2,h6.same uK qs vs⟩
 have e2:Rep K F (.lst (.lst qs::rows)) (.ref a):=by unfold Rep;exact⟨a,_,rfl,ŝ.of h1,Ĉ.cons e1 (h7.same uK rows ys)⟩
 rcases h8 with⟨rfl,rfl,rfl⟩|⟨rfl,p,xs,rfl,q2,q3⟩
 ·exact e2
 ·show Rep K F (.tup (ps ++ [.lst (.lst qs::rows)])) (.ref p)
  unfold Rep
  exact⟨p,_,rfl,dh.of q2,Ĉ.append (q3.same uK ps xs) (Ĉ.cons e2 Ĉ.nil)⟩
def Ŭ.grow{s:Slot}{x:Option V}(h:Ŭ K c F H x s)(eF:Same F F')(eH:∀b vs,(∃y,x=some y/\s.at_ F y b)->H b=some vs->F b=none->c.B b=none->H' b=some vs/\F' b=none):Ŭ K c F' H' x s:=by
 cases s with
 |no=>trivial
 |sh p=>obtain⟨v,h1,h2⟩:=h;exact⟨v,h1,h2.same eF p v⟩
 |ow ps=>
  obtain⟨b,vs,h1,h2,h3,h4,h5⟩:=h
  obtain⟨e1,e2⟩:=eH b _ ⟨_,h1,rfl⟩ h2 h3 h4
  exact⟨b,vs,h1,e1,e2,h4,h5.same eF ps vs⟩
 |bw ps=>obtain⟨b,vs,h1,h2,h3⟩:=h;exact⟨b,vs,h1,h2,h3.same eF ps vs⟩
 |rc C ns ps=>
  obtain⟨b,dx,fs,h1,h2,h3,h4,h5,h6⟩:=h
  obtain⟨e1,e2⟩:=eH b _ ⟨_,h1,rfl⟩ h2 h3 h4
  exact⟨b,dx,fs,h1,e1,e2,h4,h5,h6.1.same eF ps _,h6.2⟩
 |ot ps qs rs=>
  obtain⟨p,b,xs,vs,ys,h1,h2,h3,h4,h5,h6,h7,h8⟩:=h
  obtain⟨e1,e2⟩:=eH b _ ⟨_,h1,p,xs,ys,rfl,h2,h3.length.symm⟩ h4 h5 h6
  exact⟨p,b,xs,vs,ys,h1,eF _ _ h2,h3.same eF ps xs,e1,e2,h6,h7.same eF qs vs,h8.same eF rs ys⟩
 |ol qR=>
  obtain⟨p,as,h1,h2,h3,h4⟩:=h
  refine⟨p,as,h1,eF _ _ h2,h3,fM h4 λb ps hb ⟨vs,k1,k2,k3,k4⟩=>?_⟩
  obtain⟨e1,e2⟩:=eH b _ ⟨_,h1,p,as,rfl,h2,hb⟩ k1 k2 k3
  exact⟨vs,e1,e2,k3,k4.same eF ps vs⟩
 |fr qR=>
  obtain⟨b,as,h1,h2,h3,h4,h5,h6⟩:=h
  obtain⟨e1,e2⟩:=eH b _ ⟨_,h1,rfl⟩ h2 h3 h4
  exact⟨b,as,h1,e1,e2,h4,h5,fM h6 λd ps _ ⟨vs,k1,k2,k3⟩=>⟨vs,eF _ _ k1,k2,k3.same eF ps vs⟩⟩
 |bn qs rows=>obtain⟨v,h1,h2⟩:=h;exact⟨v,h1,h2.same eF⟩
 |dw dz=>obtain⟨a,ts,h1,h2,h3⟩:=h;exact⟨a,ts,h1,h2,fM h3 λt d _ ⟨xs,b,vs,k1,k2,k3,k4⟩=>⟨xs,b,vs,eF _ _ k1,k2.same eF d.1 xs,k3,k4.same eF d.2 vs⟩⟩
def Ŭ.owned{s:Slot}{y:V}(h:Ŭ K c F H (some y) s)(ha:s.at_ F y a):∃u,H a=some u/\F a=none/\c.B a=none:=by
 cases s with
 |no=>exact ha.elim
 |sh p=>exact ha.elim
 |bw ps=>exact ha.elim
 |bn qs rows=>exact ha.elim
 |dw dz=>exact ha.elim
 |fr qR=>
  obtain⟨b,as,h1,h2,h3,h4,h5,h6⟩:=h
  rw[show y=.ref a from ha] at h1
  cases h1
  exact⟨_,h2,h3,h4⟩
 |ow ps=>
  obtain⟨b,vs,h1,h2,h3,h4,h5⟩:=h
  rw[show y=.ref a from ha] at h1
  cases h1
  exact⟨_,h2,h3,h4⟩
 |rc C ns ps=>
  obtain⟨b,dx,fs,h1,h2,h3,h4,h5,h6⟩:=h
  rw[show y=.ref a from ha] at h1
  cases h1
  exact⟨_,h2,h3,h4⟩
 |ot ps qs rs=>
  obtain⟨p,b,xs,vs,ys,h1,h2,h3,h4,h5,h6,h7,h8⟩:=h
  cases h1
  cases jK (ps:=ps) (qs:=qs) (rs:=rs) ha ⟨p,xs,ys,rfl,h2,h3.length.symm⟩
  exact⟨_,h4,h5,h6⟩
 |ol qR=>
  obtain⟨p,as,h1,h2,h3,h4⟩:=h
  cases h1
  obtain⟨q,bs,e1,e2,e3⟩:=ha
  cases e1
  rw[h2] at e2
  have e:as=bs:=pC (by injection e2 with e2;injection e2)
  subst e
  obtain⟨ps,_,vs,k1,k2,k3,_⟩:=Gh h4 e3
  exact⟨_,k1,k2,k3⟩
def Ŭ.back{s:Slot}{y:V}(h:Ŭ K c F H (some y) s)(e:Same F F')(ha:s.at_ F' y a):s.at_ F y a:=by
 cases s with
 |ot ps qs rs=>
  obtain⟨p,b,xs,vs,ys,h1,h2,h3,h4,h5,h6,h7,h8⟩:=h
  cases h1
  cases jK (ps:=ps) (qs:=qs) (rs:=rs) ha ⟨p,xs,ys,rfl,e _ _ h2,h3.length.symm⟩
  exact⟨p,xs,ys,rfl,h2,h3.length.symm⟩
 |ol qR=>
  obtain⟨p,as,h1,h2,h3,h4⟩:=h
  cases h1
  obtain⟨q,bs,e1,e2,e3⟩:=ha
  cases e1
  rw[e _ _ h2] at e2
  have z:as=bs:=pC (by injection e2 with e2;injection e2)
  subst z
  exact⟨p,as,rfl,h2,e3⟩
 |_=>exact ha
def Gi{i:Nat}{x:V}(e:σ[i]?=some (some x)):(σ[i]?).getD none=some x:=by rw[e];rfl
def zA{i:Nat}{x:V}(e:(σ[i]?).getD none=some x):σ[i]?=some (some x):=by
 cases q:σ[i]? with
 |none=>rw[q] at e;cases e
 |some y=>rw[q] at e;exact congrArg some e
theorem Rel.owned(r:Rel K c F H σ ρ){i:Nat}(h:Ľ F σ ρ i a):(∃u,H a=some u)/\F a=none/\c.B a=none:=by
 obtain⟨s,x,h1,h2,h3⟩:=h
 have q:=r.slot i s h1
 rw[Gi h2] at q
 obtain⟨u,q⟩:=q.owned h3
 exact⟨⟨u,q.1⟩,q.2⟩
theorem Rel.back(r:Rel K c F H σ ρ)(e:Same F F'){i:Nat}(h:Ľ F' σ ρ i a):Ľ F σ ρ i a:=by
 obtain⟨s,x,h1,h2,h3⟩:=h
 have q:=r.slot i s h1
 rw[Gi h2] at q
 exact⟨s,x,h1,h2,q.back e h3⟩
def Rel.Ue(r:Rel K c F H σ ρ)(e:Same F F'):∀i j a,Ľ F' σ ρ i a->Ľ F' σ ρ j a->i=j:=λi j a h1 h2=>r.sep i j a (r.back e h1) (r.back e h2)
def Rel.cB(r:Rel K c F H σ ρ)(e:Same F F')(h:Ź F σ ρ a):Ź F' σ ρ a:=λi q=>h i (r.back e q)
def Rel.fresh(r:Rel K c F H σ ρ)(h:H a=none):Ź F σ ρ a:=λi q=>by
 obtain⟨⟨u,e⟩,_⟩:=r.owned q
 rw[h] at e;cases e
def Rel.alloc(r:Rel K c F H σ ρ)(h:H a=none):Rel K c (upd F a o) (upd H a o) σ ρ where
 sub:=λb u e=>by
  by_cases hb:b=a
  ·subst hb;rw[Ď] at e ⊢;exact e
  ·rw[ĉ hb] at e ⊢;exact r.sub b u e
 base:=λb u e=>by
  have hb:b≠a:=λz=>by rw[z] at e;rw[r.base _ _ e] at h;cases h
  rw[ĉ hb];exact r.base b u e
 f0:=fun b u e=>by
   have hb:b≠a:=λz=>by rw[z] at e;rw[r.sub _ _ (r.f0 _ _ e)] at h;cases h
   rw[ĉ hb];exact r.f0 b u e
 bM:=λb h1 h2=>by
  have hb:b≠a:=λz=>by
   subst z
   cases q:c.B b with
   |none=>exact h1 q
   |some u=>rw[r.base _ _ q] at h;cases h
  rw[ĉ hb];exact r.bM b h1 h2
 lent:=λb u e=>by
  obtain⟨h1,h2⟩:=r.lent b u e
  have hb:b≠a:=λz=>by rw[z,h] at h1;cases h1
  rw[ĉ hb,ĉ hb];exact⟨h1,h2⟩
 lb:=r.lb
 len:=r.len
 slot:=λi s e=>by
  have hF:F a=none:=r.sub.free h
  refine(r.slot i s e).grow (Same.upd hF) λb u _ h1 h2 h3=>?_
  have hb:b≠a:=λz=>by rw[z,h] at h1;cases h1
  rw[ĉ hb,ĉ hb];exact⟨h1,h2⟩
 sep:=r.Ue (Same.upd (r.sub.free h))
def Rel.made(r:Rel K c F H σ ρ)(h:H a=none):Rel K c F (upd H a o) σ ρ where
 sub:=r.sub.trans (Same.upd h)
 base:=r.base.trans (Same.upd h)
 f0:=r.f0
 bM:=r.bM
 lent:=λb u e=>⟨Same.upd h b u (r.lent b u e).1,(r.lent b u e).2⟩
 lb:=r.lb
 len:=r.len
 slot:=λi s e=>(r.slot i s e).grow (Same.refl F) λb u _ h1 h2 h3=>⟨Same.upd h b u h1,h2⟩
 sep:=r.sep
def Rel.freeze(r:Rel K c F H σ ρ)(h:H a=some o)(hB:c.B a=none)(hF:F a=none)(hf:Ź F σ ρ a):Rel K c (upd F a o) H σ ρ where
 sub:=λb u e=>by
  by_cases hb:b=a
  ·subst hb;rw[Ď] at e;rw[h];exact e
  ·rw[ĉ hb] at e;exact r.sub b u e
 base:=r.base
 f0:=r.f0.trans (Same.upd hF)
 bM:=λb h1 h2=>by
  have hb:b≠a:=λz=>h1 (by rw[z];exact hB)
  rw[ĉ hb];exact r.bM b h1 h2
 lent:=λb u e=>by
  have hb:b≠a:=λz=>by rw[z,r.lb a hB] at e;cases e
  rw[ĉ hb];exact r.lent b u e
 lb:=r.lb
 len:=r.len
 slot:=λi s e=>(r.slot i s e).grow (Same.upd hF) λb' u' ⟨y,e1',ha⟩ h1 h2 h3=>by
  have hb:b'≠a:=λz=>by
   subst z
   exact hf i ⟨s,y,e,zA e1',ha⟩
  rw[ĉ hb];exact⟨h1,h2⟩
 sep:=r.Ue (Same.upd hF)
def Ŀ{α:Type}{l:List α}{i j:Nat}{x y:α}(h:(l.set i x)[j]?=some y):(j=i/\y=x/\i<l.length)\/(j≠i/\l[j]?=some y):=by
 by_cases hj:j=i
 ·subst hj
  have hl:j<l.length:=by
   have:=(List.getElem?_eq_some_iff.mp h).1
   simpa using this
  rw[List.getElem?_set_self hl] at h
  exact .inl ⟨rfl,(Option.some.inj h).symm,hl⟩
 ·rw[List.getElem?_set_ne (Ne.symm hj)] at h
  exact .inr ⟨hj,h⟩
def Gj{l:L2.St}{i:Nat}{x:Option V}(h:i<l.length):((l.set i x)[i]?).getD none=x:=by rw[List.getElem?_set_self h];rfl
def Bj{l:L2.St}{i j:Nat}{x:Option V}(h:j≠i):((l.set i x)[j]?).getD none=(l[j]?).getD none:=by rw[List.getElem?_set_ne (Ne.symm h)]
def Ľ.off{i j:Nat}{x:Option V}{s:Slot}(h:Ľ F (σ.set i x) (ρ.set i s) j a)(hj:j≠i):Ľ F σ ρ j a:=by
 obtain⟨s',y,h1,h2,h3⟩:=h
 rw[List.getElem?_set_ne (Ne.symm hj)] at h1 h2
 exact⟨s',y,h1,h2,h3⟩
def Rel.put(r:Rel K c F H σ ρ){i:Nat}{x:Option V}{s:Slot}(hs:s.own=false)(h:Ŭ K c F H x s):Rel K c F H (σ.set i x) (ρ.set i s) where
 sub:=r.sub
 base:=r.base
 f0:=r.f0
 bM:=r.bM
 lent:=r.lent
 lb:=r.lb
 len:=by simpa using r.len
 slot:=λj s' e=>by
  rcases Ŀ e with⟨rfl,rfl,hl⟩|⟨hj,e⟩
  ·rw[Gj (by rw[r.len];exact hl)];exact h
  ·rw[Bj hj];exact r.slot j s' e
 sep:=λj k b h1 h2=>by
  have off:∀{j},Ľ F (σ.set i x) (ρ.set i s) j b->j≠i:=fun{j} q z=>by
   subst z
   obtain⟨s',y,q1,_,q2⟩:=q
   rcases Ŀ q1 with⟨_,rfl,_⟩|⟨q,_⟩
   ·have:=jl q2;rw[hs] at this;cases this
   ·exact q rfl
  exact r.sep j k b (h1.off (off h1)) (h2.off (off h2))
def Rel.sJ(r:Rel K c F H σ ρ){i:Nat}{s:Slot}(hs:s.own=false)(h:Ŭ K c F H ((σ[i]?).getD none) s):Rel K c F H σ (ρ.set i s) where
 sub:=r.sub
 base:=r.base
 f0:=r.f0
 bM:=r.bM
 lent:=r.lent
 lb:=r.lb
 len:=by simpa using r.len
 slot:=λj s' e=>by
  rcases Ŀ e with⟨rfl,rfl,hl⟩|⟨hj,e⟩
  ·exact h
  ·exact r.slot j s' e
 sep:=λj k b h1 h2=>by
  have off:∀{j},Ľ F σ (ρ.set i s) j b->Ľ F σ ρ j b:=fun{j} ⟨s',y,q1,q3,q2⟩=>by
   rcases Ŀ q1 with⟨_,rfl,_⟩|⟨_,q⟩
   ·have:=jl q2;rw[hs] at this;cases this
   ·exact⟨s',y,q,q3,q2⟩
  exact r.sep j k b (off h1) (off h2)
def Rel.Dq(r:Rel K c F H σ ρ){i:Nat}{x:V}{s:Slot}(h:Ŭ K c F H (some x) s)(hf:∀a,s.at_ F x a->Ź F σ ρ a):Rel K c F H (σ.set i (some x)) (ρ.set i s) where
 sub:=r.sub
 base:=r.base
 f0:=r.f0
 bM:=r.bM
 lent:=r.lent
 lb:=r.lb
 len:=by simpa using r.len
 slot:=λj s' e=>by
  rcases Ŀ e with⟨rfl,rfl,hl⟩|⟨hj,e⟩
  ·rw[Gj (by rw[r.len];exact hl)];exact h
  ·rw[Bj hj];exact r.slot j s' e
 sep:=λj k b h1 h2=>by
  have Ug:∀{j},Ľ F (σ.set i (some x)) (ρ.set i s) j b->(j=i/\s.at_ F x b)\/(j≠i/\Ľ F σ ρ j b):=fun{j} q=>by
   by_cases hj:j=i
   ·subst hj
    obtain⟨s',y,q1,q2,q3⟩:=q
    rcases Ŀ q2 with⟨_,e,_⟩|⟨z,_⟩
    ·cases e
     rcases Ŀ q1 with⟨_,e,_⟩|⟨z,_⟩
     ·cases e
      exact .inl ⟨rfl,q3⟩
     ·exact absurd rfl z
    ·exact absurd rfl z
   ·exact .inr ⟨hj,q.off hj⟩
  rcases Ug h1 with⟨e1,z1⟩|⟨e1,o1⟩
  ·rcases Ug h2 with⟨e2,z2⟩|⟨e2,o2⟩
   ·rw[e1,e2]
   ·exact absurd o2 (hf b z1 k)
  ·rcases Ug h2 with⟨e2,z2⟩|⟨e2,o2⟩
   ·exact absurd o1 (hf b z2 j)
   ·exact r.sep j k b o1 o2
def Rel.Uh(r:Rel K c F H σ ρ){i:Nat}{s:Slot}(ho:Ľ F σ ρ i a)(h:Ŭ K c F (upd H a o) ((σ[i]?).getD none) s)(hs:∀x b,σ[i]?=some (some x)->s.at_ F x b->Ľ F σ ρ i b):Rel K c F (upd H a o) σ (ρ.set i s) where
 sub:=λb u e=>by
  have hb:b≠a:=λz=>by rw[z,(r.owned ho).2.1] at e;cases e
  rw[ĉ hb];exact r.sub b u e
 base:=λb u e=>by
  have hb:b≠a:=λz=>by rw[z,(r.owned ho).2.2] at e;cases e
  rw[ĉ hb];exact r.base b u e
 f0:=r.f0
 bM:=r.bM
 lent:=λb u e=>by
  have hb:b≠a:=λz=>by rw[z,r.lb a (r.owned ho).2.2] at e;cases e
  rw[ĉ hb];exact r.lent b u e
 lb:=r.lb
 len:=by simpa using r.len
 slot:=λj s' e=>by
  rcases Ŀ e with⟨rfl,rfl,hl⟩|⟨hj,e⟩
  ·exact h
  ·refine(r.slot j s' e).grow (Same.refl F) λb u ⟨y,e1,e2⟩ h1 h2 h3=>?_
   have hb:b≠a:=λz=>by
    subst z
    exact hj (r.sep j i b ⟨s',y,e,zA e1,e2⟩ ho)
   exact⟨by rw[ĉ hb];exact h1,h2⟩
 sep:=λj k b h1 h2=>by
  have off:∀{j},Ľ F σ (ρ.set i s) j b->Ľ F σ ρ j b:=fun{j} ⟨s',y,q1,q3,q2⟩=>by
   rcases Ŀ q1 with⟨e,rfl,_⟩|⟨_,q⟩
   ·subst e
    exact hs y b q3 q2
   ·exact⟨s',y,q,q3,q2⟩
  exact r.sep j k b (off h1) (off h2)
def Rel.write(r:Rel K c F H σ ρ){i:Nat}{s:Slot}(ho:Ľ F σ ρ i a)(hx:σ[i]?=some (some (.ref a)))(h:Ŭ K c F (upd H a o) (some (.ref a)) s)(hs:∀b,s.at_ F (.ref a) b->b=a):Rel K c F (upd H a o) σ (ρ.set i s):=
 r.Uh ho (by rw[hx];exact h) λx b e q=>by rw[hx] at e;cases e;rw[hs b q];exact ho
structure Gr(F H F' H':Hp):Prop where
 h:Same H H'
 f:Same F F'
 sub:Same F' H'
 out:∀a,H a≠none->F a=none->F' a=none
def Rel.call(r:Rel K c F H σ ρ)(g:Gr F H F' H'):Rel K c F' H' σ ρ where
 sub:=g.sub
 base:=r.base.trans g.h
 f0:=r.f0.trans g.f
 bM:=λb h1 h2=>by
  refine g.out b (λz=>h1 ?_) (r.bM b h1 h2)
  cases q:c.B b with
  |none=>rfl
  |some u=>rw[r.base _ _ q] at z;cases z
 lent:=λb u e=>⟨g.h b u (r.lent b u e).1,g.out b (by rw[(r.lent b u e).1];intro z;cases z) (r.lent b u e).2⟩
 lb:=r.lb
 len:=r.len
 slot:=λi s e=>(r.slot i s e).grow g.f λb u _ h1 h2 h3=>⟨g.h b u h1,g.out b (by rw[h1];intro z;cases z) h2⟩
 sep:=r.Ue g.f
def ctx0(F H:Hp):Ctx:=⟨H,F,λa=>match F a with
 |none=>H a
 |some _=>none,λ_ _ _=>True⟩
def ŗ{a:Addr}{u:HO}(h:(ctx0 F H).L a=some u):H a=some u/\F a=none:=by
 unfold ctx0 at h
 dsimp only at h
 cases q:F a with
 |none=>rw[q] at h;exact⟨h,rfl⟩
 |some o=>rw[q] at h;cases h
def Rel.gr(r:Rel K (ctx0 F H) F' H' σ ρ):Gr F H F' H':=⟨r.base,r.f0,r.sub,r.bM⟩
def ak(K:KK)(F H:Hp):Slot->V->Prop
 | .sh p,v=>Rep K F p v
 | .bw ps,v=>∃a vs,v=.ref a/\H a=some (.lst vs)/\F a=none/\Ĉ K F ps vs
 | .dw dz,v=>∃(a:Addr) (ts:List Addr),v=.ref a/\H a=some (.lst (ts.map V.ref))/\F a=none/\Paired (λ(t:Addr) (d:List PV×List PV)=>∃xs b vs,F t=some (.tup (xs ++ [.ref b]))/\Ĉ K F d.1 xs/\(H b=some (.lst vs)/\F b=none)/\Ĉ K F d.2 vs) ts dz
 |_,_=>False
def ak.slot{s:Slot}{v:V}(h:ak K F H s v):Ŭ K (ctx0 F H) F H (some v) s/\s.own=false:=by
 cases s with
 |sh p=>exact⟨⟨v,rfl,h⟩,rfl⟩
 |bw ps=>
  obtain⟨a,vs,rfl,h1,h2,h3⟩:=h
  refine⟨⟨a,vs,rfl,?_,h3⟩,rfl⟩
  show(match F a with|none=>H a|some _=>none)=_
  rw[h2]
  exact h1
 |no=>exact h.elim
 |ow ps=>exact h.elim
 |rc C ns ps=>exact h.elim
 |ot ps qs rs=>exact h.elim
 |ol qR=>exact h.elim
 |fr qR=>exact h.elim
 |bn qs rows=>exact h.elim
 |dw dz=>
  obtain⟨a,ts,rfl,h1,h2,h3⟩:=h
  have lt:∀{x:Addr} {u:HO},H x=some u->F x=none->(ctx0 F H).L x=some u:=fun{x u} e1 e2=>by
   show(match F x with|none=>H x|some _=>none)=_
   rw[e2];exact e1
  exact⟨⟨a,ts,rfl,lt h1 h2,fM h3 λt d _ ⟨xs,b,vs,k1,k2,k3,k4⟩=>⟨xs,b,vs,k1,k2,lt k3.1 k3.2,k4⟩⟩,rfl⟩
def startP(n:Nat)(as:List Slot):ħ:=as++List.replicate (n-as.length) .no
theorem Rel.start{N:List Str}{as:List Slot}{vs:List V}(s:Same F H)(h:Paired (ak K F H) as vs):Rel K (ctx0 F H) F H (L2.start N vs) (startP N.length as) where
 sub:=s
 base:=Same.refl H
 f0:=Same.refl F
 bM:=λ_ _ h=>h
 lent:=λ_ _ e=>ŗ e
 lb:=fun a e=>by
   cases q:(ctx0 F H).L a with
   |none=>rfl
   |some u=>
    have e':H a=none:=e
    rw[(ŗ q).1] at e'
    cases e'
 len:=by unfold L2.start startP;simp[Paired.length h]
 slot:=λi s' e=>by
  unfold startP at e
  by_cases hi:i<as.length
  ·rw[List.getElem?_append_left hi] at e
   obtain⟨v,h1,h2⟩:=aW h e
   have hv:((L2.start N vs)[i]?).getD none=some v:=by
    unfold L2.start
    rw[List.getElem?_append_left (by simpa[<-Paired.length h] using hi),List.getElem?_map,h1];rfl
   rw[hv]
   exact(ak.slot h2).1
  ·rw[List.getElem?_append_right (by omega),List.getElem?_replicate] at e
   split at e
   ·cases e;trivial
   ·cases e
 sep:=λi j a h1 _=>by
  obtain⟨s',y,h1,_,h2⟩:=h1
  have h2:=jl h2
  exfalso
  unfold startP at h1
  by_cases hi:i<as.length
  ·rw[List.getElem?_append_left hi] at h1
   obtain⟨v,_,h3⟩:=aW h h1
   rw[(ak.slot h3).2] at h2
   cases h2
  ·rw[List.getElem?_append_right (by omega),List.getElem?_replicate] at h1
   split at h1
   ·cases h1;cases h2
   ·cases h1
end
structure PX where
 C:String
 ns:List Str
 ps:List PV
def Dr(K:KK)(F:Hp)(x:PX)(C:Value)(d:Option Addr):Prop:=C=.ref (K.cm x.C)/\∃fs,wL F d fs/\fs.map (·.1)=x.ns/\Ĉ K F x.ps (fs.map (·.2))
inductive Res(α:Type) where
 |ok (a:α) (ρ:ħ)|exc (x:PX) (ρ:ħ)|bad
def Res.bind{α β:Type}(r:Res α)(f:α->ħ->Res β):Res β:= match r with
 | .ok a ρ=>f a ρ
 | .exc x ρ=>.exc x ρ
 | .bad=>.bad
@[simp] theorem Res.bZ{α β:Type}{a:α}{ρ:ħ}{f:α->ħ->Res β}:(Res.ok a ρ).bind f=f a ρ:= rfl
@[simp] theorem Res.YB{α β:Type}{x:PX}{ρ:ħ}{f:α->ħ->Res β}:(Res.exc x ρ:Res α).bind f=.exc x ρ:= rfl
@[simp] theorem Res.YC{α β:Type}{f:α->ħ->Res β}:(Res.bad:Res α).bind f=.bad:=rfl
def Res.mV{α:Type}(o:Option α)(ρ:ħ):Res α:= match o with
 |some a=>.ok a ρ
 |none=>.bad
@[simp] theorem Res.YD{α:Type}{a:α}{ρ:ħ}:Res.mV (some a) ρ=.ok a ρ:= rfl
@[simp] theorem Res.YF{α:Type}{ρ:ħ}:Res.mV (none:Option α) ρ=.bad:=rfl
abbrev M(α:Type):=ħ->Res α
inductive RV where
 |sh (p:PV)|ow (ps:List PV)|ot (ps qs rs:List PV)|bn (t:Bool) (ps qs rows:List PV)
def RV.val:RV->PV
 | .sh p=>p
 | .ow ps=>.lst ps
 | .ot ps qs rs=>.tup (ps ++ .lst qs::rs)
 | .bn t ps qs rows=>bnV t ps qs rows
def RV.slot:RV->Slot
 | .sh p=>.sh p
 | .ow ps=>.ow ps
 | .ot ps qs rs=>.ot ps qs rs
 | .bn t ps qs rows=>if t then .sh (bnV t ps qs rows) else .bn qs rows
abbrev RR(α β:Type):=Ctx->L2.St->ħ->Hp->Hp->α->β->Prop
def rV(K:KK):RR PV V:=λ_ _ _ F _ p v=>Rep K F p v
def Bk(K:KK)(F H:Hp)(p:PV)(v:V):Prop:=match p with
 | .lst ps=>∃a vs,v=.ref a/\H a=some (.lst vs)/\Ĉ K F ps vs
 | .ins C ns ps=>∃a dx fs,v=.ref a/\H a=some (.ins (K.cm C) dx fs)/\fs.map (·.1)=ns/\Ĉ K F ps (fs.map (·.2))
 |_=>False
def rR(K:KK):RR PV V:=λ_ _ _ F H p v=>Rep K F p v\/Bk K F H p v
def rA(K:KK):RR (List Slot) (List V):=λ_ _ _ F H as vs=>Paired (ak K F H) as vs
def Held(K:KK)(c:Ctx)(σ:L2.St)(ρ:ħ)(F H:Hp)(ps:List PV)(v:V):Prop:=∃a vs,v=.ref a/\H a=some (.lst vs)/\F a=none/\c.B a=none/\Ź F σ ρ a/\Ĉ K F ps vs
def Bl(K:KK)(c:Ctx)(σ:L2.St)(ρ:ħ)(F H:Hp)(ps qs rs:List PV)(v:V):Prop:=∃p a xs vs ys,v=.ref p/\F p=some (.tup (xs ++ .ref a::ys))/\Ĉ K F ps xs/\H a=some (.lst vs)/\F a=none/\c.B a=none/\Ź F σ ρ a/\Ĉ K F qs vs/\Ĉ K F rs ys
def rO(K:KK):RR RV V:=λc σ ρ F H r v=>match r with
 | .sh p=>Rep K F p v
 | .ow ps=>Held K c σ ρ F H ps v
 | .ot ps qs rs=>Bl K c σ ρ F H ps qs rs v
 | .bn t ps qs rows=>jk K c.B F t ps qs rows v
def rL(K:KK):RR (List PV) (List V):=λ_ _ _ F _ p v=>Ĉ K F p v
def Ui(K:KK):RR (List PV) (List V):=λc σ ρ F H p v=>Paired (rR K c σ ρ F H) p v
def rB:RR Bool Bool:=λ_ _ _ _ _ p v=>p=v
def rI:RR (Option Int) (Option Int):=λ_ _ _ _ _ p v=>p=v
def Ÿ{α β:Type}(K:KK)(E:L2.St->XK)(R:RR α β)(c:Ctx)(F H:Hp)(σ:L2.St)(Q:β->Hp->Prop):Res α->Prop
 | .ok p ρ'=>∀v F' H',Rel K c F' H' σ ρ'->Same F F'->Same H H'->R c σ ρ' F' H' p v->Q v H'
 | .exc x ρ'=>∀C d F' H',Rel K c F' H' σ ρ'->Same F F'->Dr K F' x C d->E σ C d H'
 | .bad=>False
def tG{α β:Type}(K:KK)(E:L2.St->XK)(R:RR α β)(m:M α):L2.St->Hp->(β->Hp->Prop)->Prop:=λσ H Q=>∃c F ρ,Rel K c F H σ ρ/\Ÿ K E R c F H σ Q (m ρ)
section
variable{α β α' β':Type}{K:KK}{E:L2.St->XK}{R:RR α β}{R':RR α' β'}{c:Ctx}{F F1 H H1:Hp}{σ:L2.St}
def Ÿ.mono{Q:β->Hp->Prop}{r:Res α}(h:Ÿ K E R c F H σ Q r)(sF:Same F F1)(sH:Same H H1):Ÿ K E R c F1 H1 σ Q r:=by
 cases r with
 |ok p ρ'=>exact λv F' H' rel s1 s2 q=>h v F' H' rel (sF.trans s1) (sH.trans s2) q
 |exc x ρ'=>exact λC d F' H' rel s1 q=>h C d F' H' rel (sF.trans s1) q
 |bad=>exact h
theorem Ÿ.bind{Q:β->Hp->Prop}{Q':β'->Hp->Prop}{r:Res α}{f:α->ħ->Res α'}(h:Ÿ K E R' c F H σ Q' (r.bind f))
 (k:∀p ρ1 v F1 H1,Rel K c F1 H1 σ ρ1->Same F F1->Same H H1->R c σ ρ1 F1 H1 p v->Ÿ K E R' c F1 H1 σ Q' (f p ρ1)->Q v H1):Ÿ K E R c F H σ Q r:=by
 cases r with
 |ok p ρ'=>exact λv F' H' rel s1 s2 q=>k p ρ' v F' H' rel s1 s2 q (Ÿ.mono (show Ÿ K E R' c F H σ Q' (f p ρ') from h) s1 s2)
 |exc x ρ'=>exact h
 |bad=>exact h
theorem Ÿ.rel{R2:RR α β}{Q:β->Hp->Prop}{r:Res α}(h:Ÿ K E R c F H σ Q r)(k:∀p ρ' v F' H',Rel K c F' H' σ ρ'->R2 c σ ρ' F' H' p v->R c σ ρ' F' H' p v):Ÿ K E R2 c F H σ Q r:=by
 cases r with
 |ok p ρ'=>exact λv F' H' rel s1 s2 q=>h v F' H' rel s1 s2 (k p ρ' v F' H' rel q)
 |exc x ρ'=>exact h
 |bad=>exact h
end
abbrev tV(K:KK)(E:L2.St->XK)(m:M PV):TE:=tG K E (rV K) m
abbrev tR(K:KK)(E:L2.St->XK)(m:M PV):TE:=tG K E (rR K) m
abbrev tO(K:KK)(E:L2.St->XK)(m:M RV):TE:=tG K E (rO K) m
abbrev tL(K:KK)(E:L2.St->XK)(m:M (List PV)):TA:=tG K E (rL K) m
abbrev tA(K:KK)(E:L2.St->XK)(m:M (List Slot)):TA:=tG K E (rA K) m
abbrev JB(K:KK)(E:L2.St->XK)(m:M (List PV)):TA:=tG K E (Ui K) m
abbrev tB(K:KK)(E:L2.St->XK)(m:M Bool):TT:=tG K E rB m
inductive Fl where
 |nx|bk|ct|rt (r:RV)
def ş(K:KK)(E:L2.St->XK)(c:Ctx)(F:Hp)(D:Ends):Res Fl->Prop
 | .ok .nx ρ'=>∀σ' F' H',Rel K c F' H' σ' ρ'->Same F F'->D.nx σ' H'
 | .ok .bk ρ'=>∀σ' F' H',Rel K c F' H' σ' ρ'->Same F F'->D.bk σ' H'
 | .ok .ct ρ'=>∀σ' F' H',Rel K c F' H' σ' ρ'->Same F F'->D.ct σ' H'
 | .ok (.rt r) ρ'=>∀v σ' F' H',Rel K c F' H' σ' ρ'->Same F F'->rO K c σ' ρ' F' H' r v->D.rt v H'
 | .exc x ρ'=>∀σ' C d F' H',Rel K c F' H' σ' ρ'->Same F F'->Dr K F' x C d->E σ' C d H'
 | .bad=>False
def tS(K:KK)(E:L2.St->XK)(m:M Fl):TS:=λD σ H=>∃c F ρ,Rel K c F H σ ρ/\ş K E c F D (m ρ)
section
variable{K:KK}{E:L2.St->XK}{c:Ctx}{F F1:Hp}{D:Ends}
def ş.mono{r:Res Fl}(h:ş K E c F D r)(sF:Same F F1):ş K E c F1 D r:=by
 cases r with
 |ok f ρ'=>
  cases f with
  |rt v=>exact λv σ' F' H' rel s1 q=>h v σ' F' H' rel (sF.trans s1) q
  |nx=>exact λσ' F' H' rel s1=>h σ' F' H' rel (sF.trans s1)
  |bk=>exact λσ' F' H' rel s1=>h σ' F' H' rel (sF.trans s1)
  |ct=>exact λσ' F' H' rel s1=>h σ' F' H' rel (sF.trans s1)
 |exc x ρ'=>exact λσ' C d F' H' rel s1 q=>h σ' C d F' H' rel (sF.trans s1) q
 |bad=>exact h
theorem ş.bind{α β:Type}{R:RR α β}{σ:L2.St}{H:Hp}{Q:β->Hp->Prop}{r:Res α}{f:α->ħ->Res Fl}(h:ş K E c F D (r.bind f))
 (k:∀p ρ1 v F1 H1,Rel K c F1 H1 σ ρ1->Same F F1->R c σ ρ1 F1 H1 p v->ş K E c F1 D (f p ρ1)->Q v H1):Ÿ K E R c F H σ Q r:=by
 cases r with
 |ok p ρ'=>exact λv F' H' rel s1 s2 q=>k p ρ' v F' H' rel s1 q (ş.mono (show ş K E c F D (f p ρ') from h) s1)
 |exc x ρ'=>exact λC d F' H' rel s1 q=>h σ C d F' H' rel s1 q
 |bad=>exact h
end
end P
namespace P
open PySem PySem.Spec PyProof.Rows L2 M2
def ė(i:Nat):M PV:=λρ=>match ρ[i]? with
 |some (.sh p)=>.ok p ρ
 |some (.ow ps)=>.ok (.lst ps) (ρ.set i (.sh (.lst ps)))
 |some (.bn qs rows)=>.ok (.lst (.lst qs::rows)) ρ
 |_=>.bad
def Ā(i:Nat):M PV:=λρ=>match ρ[i]? with
 |some (.sh p)=>.ok p ρ
 |some (.ow ps)=>.ok (.lst ps) ρ
 |some (.bw ps)=>.ok (.lst ps) ρ
 |some (.rc C ns ps)=>.ok (.ins C ns ps) ρ
 |some (.bn qs rows)=>.ok (.lst (.lst qs::rows)) ρ
 |_=>.bad
def iH(i:Nat):M RV:=λρ=>match ρ[i]? with
 |some (.sh p)=>.ok (.sh p) ρ
 |some (.ow ps)=>.ok (.ow ps) (ρ.set i .no)
 |_=>.bad
def mC(p:PV):M PV:=λρ=>.ok p ρ
def ż(m:M PV):M RV:=λρ=>(m ρ).bind λp ρ1=>.ok (.sh p) ρ1
def Č(m:M RV):M PV:=λρ=>(m ρ).bind λr ρ1=>.ok r.val ρ1
section
variable{K:KK}{c:Ctx}{F H:Hp}{σ:L2.St}{ρ:ħ}
def at_of{i:Nat}{x:V}(h:(σ[i]?).getD none=some x):σ[i]?=some (some x):=by
 cases q:σ[i]? with
 |none=>rw[q] at h;cases h
 |some y=>rw[q] at h;exact congrArg some h
theorem Rel.ow(r:Rel K c F H σ ρ){i:Nat}{ps:List PV}(e:ρ[i]?=some (.ow ps)):∃a vs,σ[i]?=some (some (.ref a))/\H a=some (.lst vs)/\F a=none/\c.B a=none/\Ĉ K F ps vs/\Ľ F σ ρ i a:=by
 obtain⟨a,vs,h1,h2,h3,h4,h5⟩:=r.slot i _ e
 exact⟨a,vs,at_of h1,h2,h3,h4,h5,⟨_,_,e,at_of h1,rfl⟩⟩
def Rel.move(r:Rel K c F H σ ρ){i:Nat}{a:Addr}(h:Ľ F σ ρ i a):Rel K c F H σ (ρ.set i .no)/\Ź F σ (ρ.set i .no) a:=by
 refine⟨r.sJ rfl trivial,λj ⟨s,y,q1,q3,q2⟩=>?_⟩
 rcases Ŀ q1 with⟨_,rfl,_⟩|⟨hj,q⟩
 ·exact q2.elim
 ·exact hj (r.sep j i a ⟨s,y,q,q3,q2⟩ h)
def Rel.share(r:Rel K c F H σ ρ){i:Nat}{ps:List PV}(e:ρ[i]?=some (.ow ps)):∃a vs,σ[i]?=some (some (.ref a))/\F a=none/\Rep K (upd F a (.lst vs)) (.lst ps) (.ref a)/\Rel K c (upd F a (.lst vs)) H σ (ρ.set i (.sh (.lst ps))):=by
 obtain⟨a,vs,h1,h2,h3,h4,h5,ho⟩:=r.ow e
 obtain⟨m1,m2⟩:=r.move ho
 have rp:Rep K (upd F a (.lst vs)) (.lst ps) (.ref a):=by
  unfold Rep
  exact⟨a,vs,rfl,ŝ.of Ď,h5.same (Same.upd h3) ps vs⟩
 have q:=(m1.freeze h2 h4 h3 m2).sJ (i:=i) (s:=.sh (.lst ps)) rfl (show Ŭ K c _ H _ (.sh (.lst ps)) from⟨.ref a,by rw[h1];rfl,rp⟩)
 rw[List.set_set] at q
 exact⟨a,vs,h1,h3,rp,q⟩
def Bk.mono{F1 H1:Hp}{p:PV}{v:V}(h:Bk K F H p v)(sF:Same F F1)(sH:Same H H1):Bk K F1 H1 p v:=by
 cases p with
 |lst ps=>
  obtain⟨a,vs,h2,h3,h4⟩:=h
  exact⟨a,vs,h2,sH _ _ h3,h4.same sF ps vs⟩
 |ins C ns ps=>
  obtain⟨a,dx,fs,h2,h3,h4,h5⟩:=h
  exact⟨a,dx,fs,h2,sH _ _ h3,h4,h5.same sF ps _⟩
 |_=>exact h.elim
theorem rR.mono{c:Ctx}{σ:L2.St}{ρ ρ':ħ}{F1 H1:Hp}{p:PV}{v:V}(h:rR K c σ ρ F H p v)(sF:Same F F1)(sH:Same H H1):rR K c σ ρ' F1 H1 p v:=by
 rcases h with h|h
 ·exact .inl (h.same sF p v)
 ·exact .inr (h.mono sF sH)
theorem rR.lst{c:Ctx}{σ:L2.St}{ρ:ħ}{ps:List PV}{v:V}(s:Same F H)(h:rR K c σ ρ F H (.lst ps) v):∃a vs,v=.ref a/\ŝ K.K H a vs/\Ĉ K F ps vs:=by
 rcases h with h|⟨a,vs,h2,h3,h4⟩
 ·unfold Rep at h
  obtain⟨a,xs,h1,h2,h3⟩:=h
  exact⟨a,xs,h1,s.seq h2,h3⟩
 ·exact⟨a,vs,h2,ŝ.of h3,h4⟩
theorem rR.tup{c:Ctx}{σ:L2.St}{ρ:ħ}{ps:List PV}{v:V}(s:Same F H)(h:rR K c σ ρ F H (.tup ps) v):∃a vs,v=.ref a/\dh K.K H a vs/\Ĉ K F ps vs:=by
 rcases h with h|h
 ·unfold Rep at h
  obtain⟨a,xs,h1,h2,h3⟩:=h
  exact⟨a,xs,h1,Same.tup s h2,h3⟩
 ·exact h.elim
theorem rR.int{c:Ctx}{σ:L2.St}{ρ:ħ}{i:Int}{v:V}(h:rR K c σ ρ F H (.int i) v):v=.int i:=by
 rcases h with h|h
 ·unfold Rep at h;exact h
 ·exact h.elim
theorem rR.str{c:Ctx}{σ:L2.St}{ρ:ħ}{i:Str}{v:V}(h:rR K c σ ρ F H (.str i) v):v=.str i:=by
 rcases h with h|h
 ·unfold Rep at h;exact h
 ·exact h.elim
theorem rR.bl{c:Ctx}{σ:L2.St}{ρ:ħ}{i:Bool}{v:V}(h:rR K c σ ρ F H (.bl i) v):v=.bl i:=by
 rcases h with h|h
 ·unfold Rep at h;exact h
 ·exact h.elim
theorem rR.non{c:Ctx}{σ:L2.St}{ρ:ħ}{v:V}(h:rR K c σ ρ F H .non v):v=.non:=by
 rcases h with h|h
 ·unfold Rep at h;exact h
 ·exact h.elim
theorem rR.ty{c:Ctx}{σ:L2.St}{ρ:ħ}{n:String}{v:V}(h:rR K c σ ρ F H (.ty n) v):v=.ty n:=by
 rcases h with h|h
 ·unfold Rep at h;exact h
 ·exact h.elim
theorem Rep.int{i:Int}:Rep K F (.int i) (.int i):=by unfold Rep;rfl
theorem Rep.str{i:Str}:Rep K F (.str i) (.str i):=by unfold Rep;rfl
theorem Rep.bl{i:Bool}:Rep K F (.bl i) (.bl i):=by unfold Rep;rfl
theorem Rep.non:Rep K F .non .non:=by unfold Rep;rfl
end
section
variable{X:Cx}{cm:String->Addr}{E:L2.St->XK}{a b e:Expr}{es:List Expr}{pos:Pos}{m ma mb mc:M PV}{mo:M RV}
def PT.wk{t t':TT}(h:PT X e t)(i:∀σ H Q,t' σ H Q->t σ H Q):PT X e t':=λpins s σ H Q I q=>h pins s σ H Q I (i σ H Q q)
def PA.wk{t t':TA}(h:PA X es t)(i:∀σ H Q,t' σ H Q->t σ H Q):PA X es t':=λpos pins s σ H Q I q=>h pos pins s σ H Q I (i σ H Q q)
def PW.wk{t t':TT}(h:PW X e t)(i:∀σ H Q,t' σ H Q->t σ H Q):PW X e t':=λwh pins s σ H Q I q=>h wh pins s σ H Q I (i σ H Q q)
def aB.wk{st:List Stmt}{t t':TS}(h:aB X st t)(i:∀D σ H,t' D σ H->t D σ H):aB X st t':=λpins s σ H D I q=>h pins s σ H D I (i D σ H q)
def v_var(i:Nat){x:Str}{pos:Pos}(hN:X.N[i]?=some x:=by rfl)(hv:El X.env.scope x:=by first|exact Or.inl rfl|exact Or.inr (Or.inl rfl)|exact Or.inr (Or.inr rfl))(hd:(x== ("__debug__" :Str))=false:=by decide)
 (hcd:(x== ("__classdict__" :Str))=false:=by decide):PE X (.Name x pos) (tV (kk X cm) E (ė i)):=PE.wk (gn hN hv hd hcd) λσ H Q ⟨c,F,ρ,rel,h⟩=>by
 unfold ė at h
 split at h
 ·rename_i p e
  obtain⟨v,h1,h2⟩:=rel.slot i _ e
  exact⟨v,at_of h1,h v F H rel (Same.refl F) (Same.refl H) h2⟩
 ·rename_i ps e
  obtain⟨a,vs,h1,h2,h3,h4⟩:=rel.share e
  exact⟨.ref a,h1,h _ _ H h4 (Same.upd h2) (Same.refl H) h3⟩
 ·rename_i qs rows e
  obtain⟨v,h1,h2⟩:=rel.slot i _ e
  exact⟨v,at_of h1,h v F H rel (Same.refl F) (Same.refl H) h2.rep⟩
 ·exact h.elim
def ā(i:Nat){x:Str}{pos:Pos}(hN:X.N[i]?=some x:=by rfl)(hv:El X.env.scope x:=by first|exact Or.inl rfl|exact Or.inr (Or.inl rfl)|exact Or.inr (Or.inr rfl))(hd:(x== ("__debug__" :Str))=false:=by decide)
 (hcd:(x== ("__classdict__" :Str))=false:=by decide):PE X (.Name x pos) (tR (kk X cm) E (Ā i)):=PE.wk (gn hN hv hd hcd) λσ H Q ⟨c,F,ρ,rel,h⟩=>by
 unfold Ā at h
 split at h
 ·rename_i p e
  obtain⟨v,h1,h2⟩:=rel.slot i _ e
  exact⟨v,at_of h1,h v F H rel (Same.refl F) (Same.refl H) (.inl h2)⟩
 ·rename_i ps e
  obtain⟨a,vs,h1,h2,h3,h4,h5,_⟩:=rel.ow e
  exact⟨.ref a,h1,h _ F H rel (Same.refl F) (Same.refl H) (.inr ⟨a,vs,rfl,h2,h5⟩)⟩
 ·rename_i ps e
  obtain⟨a,vs,h1,h2,h3⟩:=rel.slot i _ e
  exact⟨.ref a,at_of h1,h _ F H rel (Same.refl F) (Same.refl H) (.inr ⟨a,vs,rfl,(rel.lent a _ h2).1,h3⟩)⟩
 ·rename_i C ns ps e
  obtain⟨a,dx,fs,h1,h2,h3,h4,h5,h6⟩:=rel.slot i _ e
  exact⟨.ref a,at_of h1,h _ F H rel (Same.refl F) (Same.refl H) (.inr ⟨a,dx,fs,rfl,h2,h5,h6.1⟩)⟩
 ·rename_i qs rows e
  obtain⟨v,h1,h2⟩:=rel.slot i _ e
  exact⟨v,at_of h1,h v F H rel (Same.refl F) (Same.refl H) (.inl h2.rep)⟩
 ·exact h.elim
def pG(i:Nat){x:Str}{pos:Pos}(hN:X.N[i]?=some x:=by rfl)(hv:El X.env.scope x:=by first|exact Or.inl rfl|exact Or.inr (Or.inl rfl)|exact Or.inr (Or.inr rfl))(hd:(x== ("__debug__" :Str))=false:=by decide)
 (hcd:(x== ("__classdict__" :Str))=false:=by decide):PE X (.Name x pos) (tO (kk X cm) E (iH i)):=PE.wk (gn hN hv hd hcd) λσ H Q ⟨c,F,ρ,rel,h⟩=>by
 unfold iH at h
 split at h
 ·rename_i p e
  obtain⟨v,h1,h2⟩:=rel.slot i _ e
  exact⟨v,at_of h1,h v F H rel (Same.refl F) (Same.refl H) h2⟩
 ·rename_i ps e
  obtain⟨a,vs,h1,h2,h3,h4,h5,h6⟩:=rel.ow e
  obtain⟨m1,m2⟩:=rel.move h6
  exact⟨.ref a,h1,h _ F H m1 (Same.refl F) (Same.refl H) ⟨a,vs,rfl,h2,h3,h4,m2,h5⟩⟩
 ·exact h.elim
def mW{v:V}(p:PV)(h:PE X e (tC v))(hr:∀F,Rep (kk X cm) F p v:=by intro _;unfold Rep;rfl):PE X e (tV (kk X cm) E (mC p)):=PE.wk h λσ H Q ⟨c,F,ρ,rel,h⟩=>h v F H rel (Same.refl F) (Same.refl H) (hr F)
def Ņ{i j pos}:PE X (.Constant (.int i) j pos) (tV (kk X cm) E (mC (.int i))):=mW _ uq
def uL{i j pos}:PE X (.Constant (.bool i) j pos) (tV (kk X cm) E (mC (.bl i))):=mW _ XH
def Bm{j pos}:PE X (.Constant .none j pos) (tV (kk X cm) E (mC .non)):=mW _ ur
def ŀ{x j pos}:PE X (.Constant (.str x) j pos) (tV (kk X cm) E (mC (.str x))):=mW _ RD
def Ĕ(h:PE X e (tV (kk X cm) E m)):PE X e (tR (kk X cm) E m):=PE.wk h λσ H Q ⟨c,F,ρ,rel,h⟩=>⟨c,F,ρ,rel,h.rel λ_ _ _ _ _ _ q=>.inl q⟩
def eO(h:PE X e (tV (kk X cm) E m)):PE X e (tO (kk X cm) E (ż m)):=PE.wk h λσ H Q ⟨c,F,ρ,rel,h⟩=>⟨c,F,ρ,rel,h.bind λp ρ1 v F1 H1 ć s1 s2 q h1=>h1 v F1 H1 ć (Same.refl _) (Same.refl _) q⟩
def Held.share{K:KK}{c:Ctx}{F H:Hp}{σ:L2.St}{ρ:ħ}{ps:List PV}{v:V}(rel:Rel K c F H σ ρ)(h:Held K c σ ρ F H ps v):∃F1,Same F F1/\Rel K c F1 H σ ρ/\Rep K F1 (.lst ps) v:=by
 obtain⟨a,vs,rfl,h1,h2,h3,h4,h5⟩:=h
 refine⟨_,Same.upd h2,rel.freeze h1 h3 h2 h4,?_⟩
 unfold Rep
 exact⟨a,vs,rfl,ŝ.of Ď,h5.same (Same.upd h2) ps vs⟩
def Bl.share{K:KK}{c:Ctx}{F H:Hp}{σ:L2.St}{ρ:ħ}{ps qs rs:List PV}{v:V}(rel:Rel K c F H σ ρ)(h:Bl K c σ ρ F H ps qs rs v):∃F1,Same F F1/\Rel K c F1 H σ ρ/\Rep K F1 (.tup (ps ++ .lst qs::rs)) v:=by
 obtain⟨p,a,xs,vs,ys,rfl,h0,hx,h1,h2,h3,h4,h5,h6⟩:=h
 refine⟨_,Same.upd h2,rel.freeze h1 h3 h2 h4,?_⟩
 have ra:Rep K (upd F a (.lst vs)) (.lst qs) (.ref a):=by
  unfold Rep
  exact⟨a,vs,rfl,ŝ.of Ď,h5.same (Same.upd h2) qs vs⟩
 unfold Rep
 exact⟨p,_,rfl,dh.of (Same.upd h2 _ _ h0),Ĉ.append (hx.same (Same.upd h2) ps xs) (Ĉ.cons ra (h6.same (Same.upd h2) rs ys))⟩
def ĝ(h:PE X e (tO (kk X cm) E mo)):PE X e (tV (kk X cm) E (Č mo)):=PE.wk h λσ H Q ⟨c,F,ρ,rel,h⟩=>⟨c,F,ρ,rel,h.bind λr ρ1 v F1 H1 ć s1 s2 q h1=>by
 cases r with
 |sh p=>exact h1 v F1 H1 ć (Same.refl _) (Same.refl _) q
 |ow ps=>
  obtain⟨F2,s3,ĥ,rp⟩:=Held.share ć q
  exact h1 v F2 H1 ĥ s3 (Same.refl _) rp
 |ot ps qs rs=>
  obtain⟨F2,s3,ĥ,rp⟩:=Bl.share ć q
  exact h1 v F2 H1 ĥ s3 (Same.refl _) rp
 |bn t ps qs rows=>exact h1 v F1 H1 ć (Same.refl _) (Same.refl _) (jk.rep q)⟩
def Ą(f:PV->PV->Option PV)(ma mb:M PV):M PV:=λρ=>(ma ρ).bind λp ρ1=>(mb ρ1).bind λq ρ2=>Res.mV (f p q) ρ2
def Ĥ(f:PV->PV->Option RV)(ma mb:M PV):M RV:=λρ=>(ma ρ).bind λp ρ1=>(mb ρ1).bind λq ρ2=>Res.mV (f p q) ρ2
def kO(K:KK)(r:R2)(f:PV->PV->Option PV):Prop:=∀{c:Ctx} {F H:Hp} {σ:L2.St} {ρ:ħ} {p q pv:PV} {v u:V} {Q:VK},Rel K c F H σ ρ->rR K c σ ρ F H p v->rR K c σ ρ F H q u->f p q=some pv->
 (∀z F' H',Rel K c F' H' σ ρ->Same F F'->Same H H'->Rep K F' pv z->Q z H')->r v u H Q
def OpO(K:KK)(r:R2)(f:PV->PV->Option RV):Prop:=∀{c:Ctx} {F H:Hp} {σ:L2.St} {ρ:ħ} {p q:PV} {pv:RV} {v u:V} {Q:VK},Rel K c F H σ ρ->rR K c σ ρ F H p v->rR K c σ ρ F H q u->f p q=some pv->
 (∀z F' H',Rel K c F' H' σ ρ->Same F F'->Same H H'->rO K c σ ρ F' H' pv z->Q z H')->r v u H Q
def Bo{r:R2}{f:PV->PV->Option PV}(hf:kO (kk X cm) r f){σ:L2.St}{H:Hp}{Q:VK}(h:tV (kk X cm) E (Ą f ma mb) σ H Q):Mi r (tR (kk X cm) E ma) (tR (kk X cm) E mb) σ H Q:=by
 obtain⟨c,F,ρ,rel,h⟩:=h
 refine⟨c,F,ρ,rel,h.bind λp ρ1 v F1 H1 ć _ _ r1 h1=>⟨c,F1,ρ1,ć,h1.bind λq ρ2 u F2 H2 ĥ sF sH r2 h2=>?_⟩⟩
 cases e:f p q with
 |none=>rw[e] at h2;exact h2.elim
 |some pv=>rw[e] at h2;exact hf ĥ (r1.mono sF sH) r2 e λz F' H' ŋ s1 s2 q'=>h2 z F' H' ŋ s1 s2 q'
def YG{r:R2}{f:PV->PV->Option RV}(hf:OpO (kk X cm) r f){σ:L2.St}{H:Hp}{Q:VK}(h:tO (kk X cm) E (Ĥ f ma mb) σ H Q):Mi r (tR (kk X cm) E ma) (tR (kk X cm) E mb) σ H Q:=by
 obtain⟨c,F,ρ,rel,h⟩:=h
 refine⟨c,F,ρ,rel,h.bind λp ρ1 v F1 H1 ć _ _ r1 h1=>⟨c,F1,ρ1,ć,h1.bind λq ρ2 u F2 H2 ĥ sF sH r2 h2=>?_⟩⟩
 cases e:f p q with
 |none=>rw[e] at h2;exact h2.elim
 |some pv=>rw[e] at h2;exact hf ĥ (r1.mono sF sH) r2 e λz F' H' ŋ s1 s2 q'=>h2 z F' H' ŋ s1 s2 q'
def iI{op:Operator}{r:R2}{f:PV->PV->Option PV}(hf:kO (kk X cm) r f)(ho:aC X (binaryOp op) r)(ha:PE X a (tR (kk X cm) E ma))(hb:PE X b (tR (kk X cm) E mb)):PE X (.BinOp a op b pos) (tV (kk X cm) E (Ą f ma mb)):=PE.wk (Ml ho ha hb) λ_ _ _ h=>Bo hf h
def YH{op:Operator}{r:R2}{f:PV->PV->Option RV}(hf:OpO (kk X cm) r f)(ho:aC X (binaryOp op) r)(ha:PE X a (tR (kk X cm) E ma))(hb:PE X b (tR (kk X cm) E mb)):PE X (.BinOp a op b pos) (tO (kk X cm) E (Ĥ f ma mb)):=PE.wk (Ml ho ha hb) λ_ _ _ h=>YG hf h
def jL{op:CmpOp}{r:R2}{f:PV->PV->Option PV}(hf:kO (kk X cm) r f)(ho:aC X (compareOp op) r)(ha:PE X a (tR (kk X cm) E ma))(hb:PE X b (tR (kk X cm) E mb))(hm:behindInMarks op b=false):PE X (.Compare a [op] [b] pos) (tV (kk X cm) E (Ą f ma mb)):=
 PE.wk (JW ho ha hb hm) λ_ _ _ h=>Bo hf h
def ZcC{r:R2}{f:PV->PV->Option PV}(hf:kO (kk X cm) r f)(hr:zq X r)(ha:PE X a (tR (kk X cm) E ma))(hb:PE X b (tR (kk X cm) E mb))(hs:oE b):PE X (.Subscript a b pos) (tV (kk X cm) E (Ą f ma mb)):=
 PE.wk (Fq hr ha hb hs) λ_ _ _ h=>Bo hf h
def wj(f:PV->Option PV)(ma:M PV):M PV:=λρ=>(ma ρ).bind λp ρ1=>Res.mV (f p) ρ1
def UnV(K:KK)(r:V->Hp->VK->Prop)(f:PV->Option PV):Prop:=∀{c:Ctx} {F H:Hp} {σ:L2.St} {ρ:ħ} {p pv:PV} {v:V} {Q:VK},Rel K c F H σ ρ->rR K c σ ρ F H p v->f p=some pv->
 (∀z F' H',Rel K c F' H' σ ρ->Same F F'->Same H H'->Rep K F' pv z->Q z H')->r v H Q
def ZcD{op:UnaryOp}{r:V->Hp->VK->Prop}{f:PV->Option PV}(hf:UnV (kk X cm) r f)(ho:JT X (unaryOp op) r)(ha:PE X a (tR (kk X cm) E ma)):PE X (.UnaryOp op a pos) (tV (kk X cm) E (wj f ma)):=PE.wk (Mp ho ha) λσ H Q ⟨c,F,ρ,rel,h⟩=>
 ⟨c,F,ρ,rel,h.bind fun p ρ1 v F1 H1 ć _ _ r1 h1=>by
   cases e:f p with
   |none=>rw[e] at h1;exact h1.elim
   |some pv=>rw[e] at h1;exact hf ć r1 e λz F' H' ŋ s1 s2 q'=>h1 z F' H' ŋ s1 s2 q'⟩
def Uj:PV->Option Bool
 | .bl b=>some b
 | .int i=>some (i != 0)
 | .non=>some false
 | .str y=>if y.length<=sizeLine then some ((y.length:Int) != 0) else none
 | .lst ps=>some (!ps.isEmpty)
 | .tup ps=>some (!ps.isEmpty)
 |_=>none
def cC(m:M PV):M Bool:=λρ=>(m ρ).bind λp ρ1=>Res.mV (Uj p) ρ1
def YJ{K:KK}{c:Ctx}{F H:Hp}{σ:L2.St}{ρ:ħ}{p:PV}{v:V}{k:Bool}(s:Same F H)(r:rR K c σ ρ F H p v)(h:Uj p=some k):Sy K.K v H k:=by
 cases p with
 |bl b=>cases r.bl;cases h;rfl
 |int i=>cases r.int;cases h;rfl
 |non=>cases r.non;cases h;rfl
 |str y=>
  cases r.str
  have h':(if y.length<=sizeLine then some ((y.length:Int) != 0) else none)=some k:=h
  split at h'
  ·rename_i hy;cases h';exact⟨hy,rfl⟩
  ·cases h'
 |lst ps=>
  obtain⟨a,vs,rfl,h1,h2⟩:=r.lst s
  cases h
  have e:ps.isEmpty=vs.isEmpty:=by cases h2.pr<;>rfl
  exact .inl ⟨vs,h1,by rw[e]⟩
 |tup ps=>
  obtain⟨a,vs,rfl,h1,h2⟩:=r.tup s
  cases h
  have e:ps.isEmpty=vs.isEmpty:=by cases h2.pr<;>rfl
  exact .inr (.inl ⟨vs,h1,by rw[e]⟩)
 |ins C ns ps=>cases h
 |xc C ns ps=>cases h
 |ty n=>cases h
 |cls C=>cases h
def ao(ha:PE X a (tR (kk X cm) E ma))(he:∀whole,isTrue a X.env whole=(do let v <-whole;standAt a.pos;holding [v] (truthy v)):=by intro _;rfl):PT X a (tB (kk X cm) E (cC ma)):=PT.wk (Fb ha he) λσ H Q ⟨c,F,ρ,rel,h⟩=>
 ⟨c,F,ρ,rel,h.bind fun p ρ1 v F1 H1 ć _ _ r1 h1=>by
   cases e:Uj p with
   |none=>rw[e] at h1;exact h1.elim
   |some k=>rw[e] at h1;exact⟨k,YJ ć.sub r1 e,h1 k F1 H1 ć (Same.refl _) (Same.refl _) rfl⟩⟩
def bL(m:M PV):M Bool:=λρ=>(m ρ).bind λp ρ1=>match p with
 | .bl b=>.ok b ρ1
 |_=>.bad
def Mu{σ:L2.St}{H:Hp}{Q:Bool->Hp->Prop}(h:tB (kk X cm) E (bL m) σ H Q):M2.Fx (tV (kk X cm) E m) σ H Q:=by
 obtain⟨c,F,ρ,rel,h⟩:=h
 refine⟨c,F,ρ,rel,h.bind λp ρ1 v F1 H1 ć _ _ r1 h1=>?_⟩
 cases p with
 |bl b=>
  have e:v=.bl b:=by have r1':Rep (kk X cm) F1 (.bl b) v:=r1;unfold Rep at r1';exact r1'
  subst e
  exact h1 b F1 H1 ć (Same.refl _) (Same.refl _) rfl
 |_=>exact h1.elim
def iJ{op:CmpOp}{r:R2}{f:PV->PV->Option PV}(hf:kO (kk X cm) r f)(ho:aC X (compareOp op) r)(ha:PE X a (tR (kk X cm) E ma))(hb:PE X b (tR (kk X cm) E mb))(hm:behindInMarks op b=false):PT X (.Compare a [op] [b] pos) (tB (kk X cm) E (bL (Ą f ma mb))):=
 PT.wk (Tn ho ha hb hm) fun σ H Q h=>by
   obtain⟨c,F,ρ,rel,h⟩:=Mu h
   exact Bo hf ⟨c,F,ρ,rel,h⟩
def pH(f g:PV->PV->Option PV)(ma mb mc:M PV):M PV:=λρ=>(ma ρ).bind λp ρ1=>(mb ρ1).bind λq ρ2=>(Res.mV (f p q) ρ2).bind λz ρ3=>match z with
 | .bl true=>(mc ρ3).bind λw ρ4=>Res.mV (g q w) ρ4
 | .bl false=>.ok (.bl false) ρ3
 |_=>.bad
def Mv{r r':R2}{f g:PV->PV->Option PV}(hf:kO (kk X cm) r f)(hg:kO (kk X cm) r' g){σ:L2.St}{H:Hp}{Q:VK}(h:tV (kk X cm) E (pH f g ma mb mc) σ H Q):M2.zy r r' (tR (kk X cm) E ma) (tR (kk X cm) E mb) (tR (kk X cm) E mc) σ H Q:=by
 obtain⟨c,F,ρ,rel,h⟩:=h
 refine⟨c,F,ρ,rel,h.bind λp ρ1 v F1 H1 ć _ _ r1 h1=>⟨c,F1,ρ1,ć,h1.bind λq ρ2 u F2 H2 ĥ sF sH r2 h2=>?_⟩⟩
 cases e:f p q with
 |none=>rw[e] at h2;exact h2.elim
 |some pv=>
  rw[e] at h2
  refine hf ĥ (r1.mono sF sH) r2 e λz F' H' ŋ s1 s2 q'=>?_
  cases pv with
  |bl k=>
   have ez:z=.bl k:=by unfold Rep at q';exact q'
   subst ez
   cases k with
   |false=>exact h2 _ F' H' ŋ s1 s2 q'
   |true=>
    refine⟨c,F',ρ2,ŋ,Ÿ.bind (Ÿ.mono h2 s1 s2) λw ρ4 x F4 H4 q_ s3 s4 r4 h4=>?_⟩
    cases e':g q w with
    |none=>rw[e'] at h4;exact h4.elim
    |some pv'=>rw[e'] at h4;exact hg q_ (r2.mono (s1.trans s3) (s2.trans s4)) r4 e' λz F' H' ŋ s1 s2 q'=>h4 z F' H' ŋ s1 s2 q'
  |_=>exact h2.elim
def sO{op op':CmpOp}{r r':R2}{f g:PV->PV->Option PV}{c:Expr}(hf:kO (kk X cm) r f)(hg:kO (kk X cm) r' g)(ho:aC X (compareOp op) r)(ho':aC X (compareOp op') r')(ha:PE X a (tR (kk X cm) E ma))(hb:PE X b (tR (kk X cm) E mb))(hc:PE X c (tR (kk X cm) E mc))
 (hm:lastMarks [op,op'] [b,c]=false:=by with_unfolding_all rfl):PE X (.Compare a [op,op'] [b,c] pos) (tV (kk X cm) E (pH f g ma mb mc)):=PE.wk (Fy ho ho' ha hb hc hm) λ_ _ _ h=>Mv hf hg h
def YK{op op':CmpOp}{r r':R2}{f g:PV->PV->Option PV}{c:Expr}(hf:kO (kk X cm) r f)(hg:kO (kk X cm) r' g)(ho:aC X (compareOp op) r)(ho':aC X (compareOp op') r')(ha:PE X a (tR (kk X cm) E ma))(hb:PE X b (tR (kk X cm) E mb))(hc:PE X c (tR (kk X cm) E mc))
 (hm:lastMarks [op,op'] [b,c]=false:=by with_unfolding_all rfl):PT X (.Compare a [op,op'] [b,c] pos) (tB (kk X cm) E (bL (pH f g ma mb mc))):=PT.wk (Fz ho ho' ha hb hc hm) λσ H Q h=>by
 obtain⟨c,F,ρ,rel,h⟩:=Mu h
 exact Mv hf hg ⟨c,F,ρ,rel,h⟩
def cT(m:M Bool):M Bool:=λρ=>(m ρ).bind λb ρ1=>.ok (!b) ρ1
def fO{m:M Bool}(h:PT X a (tB (kk X cm) E m)):PT X (.UnaryOp .Not a pos) (tB (kk X cm) E (cT m)):=PT.wk (RL h) λσ H Q ⟨c,F,ρ,rel,h⟩=>
 ⟨c,F,ρ,rel,h.bind λp ρ1 v F1 H1 ć _ _ r1 h1=>h1 _ F1 H1 ć (Same.refl _) (Same.refl _) (by have e:p=v:=r1;rw[e];rfl)⟩
def jM(ma mb:M Bool):M Bool:=λρ=>(ma ρ).bind λb ρ1=>if b=true then mb ρ1 else .ok false ρ1
def gB(ma mb:M Bool):M Bool:=λρ=>(ma ρ).bind λb ρ1=>if b=true then .ok true ρ1 else mb ρ1
variable{ta tb:M Bool}{rest:List Expr}
def lH(h:PT X a (tB (kk X cm) E ta)):PW X (.BoolOp .And [a] pos) (tB (kk X cm) E ta):=JQ h
def dI(h:PT X a (tB (kk X cm) E ta)):PW X (.BoolOp .Or [a] pos) (tB (kk X cm) E ta):=RJ h
def w_and(ha:PT X a (tB (kk X cm) E ta))(hb:PW X (.BoolOp .And (b::rest) pos) (tB (kk X cm) E tb)):PW X (.BoolOp .And (a::b::rest) pos) (tB (kk X cm) E (jM ta tb)):=PW.wk (RK ha hb) λσ H Q ⟨c,F,ρ,rel,h⟩=>
 ⟨c,F,ρ,rel,h.bind fun p ρ1 v F1 H1 ć _ _ r1 h1=>by
   have e:p=v:=r1
   subst e
   cases p with
   |true=>exact⟨c,F1,ρ1,ć,h1⟩
   |false=>exact h1 false F1 H1 ć (Same.refl _) (Same.refl _) rfl⟩
def w_or(ha:PT X a (tB (kk X cm) E ta))(hb:PW X (.BoolOp .Or (b::rest) pos) (tB (kk X cm) E tb)):PW X (.BoolOp .Or (a::b::rest) pos) (tB (kk X cm) E (gB ta tb)):=PW.wk (XJ ha hb) λσ H Q ⟨c,F,ρ,rel,h⟩=>
 ⟨c,F,ρ,rel,h.bind fun p ρ1 v F1 H1 ć _ _ r1 h1=>by
   have e:p=v:=r1
   subst e
   cases p with
   |false=>exact⟨c,F1,ρ1,ć,h1⟩
   |true=>exact h1 true F1 H1 ć (Same.refl _) (Same.refl _) rfl⟩
def eU(ma mb:M PV):M PV:=λρ=>(ma ρ).bind λp ρ1=>match p with
 | .bl true=>mb ρ1
 | .bl false=>.ok (.bl false) ρ1
 |_=>.bad
def Uk(ma mb:M PV):M PV:=λρ=>(ma ρ).bind λp ρ1=>match p with
 | .bl true=>.ok (.bl true) ρ1
 | .bl false=>mb ρ1
 |_=>.bad
def Ul(ma:M PV):M PV:=λρ=>(ma ρ).bind λp ρ1=>match p with
 | .bl b=>.ok (.bl (!b)) ρ1
 |_=>.bad
def pI{K:KK}{F:Hp}{b:Bool}{v:V}(h:Rep K F (.bl b) v):v=.bl b:=by unfold Rep at h;exact h
def fP{op}(h:PE X a (tV (kk X cm) E ma)):PE X (.BoolOp op [a] pos) (tV (kk X cm) E ma):=RM h
def v_and(ha:PE X a (tV (kk X cm) E ma))(hb:PE X (.BoolOp .And (b::rest) pos) (tV (kk X cm) E mb)):PE X (.BoolOp .And (a::b::rest) pos) (tV (kk X cm) E (eU ma mb)):=PE.wk (Tp ha hb) λσ H Q ⟨c,F,ρ,rel,h⟩=>
 ⟨c,F,ρ,rel,h.bind fun p ρ1 v F1 H1 ć _ _ r1 h1=>by
   cases p with
   |bl k=>
    cases pI r1
    cases k with
    |true=>exact⟨c,F1,ρ1,ć,h1⟩
    |false=>exact h1 _ F1 H1 ć (Same.refl _) (Same.refl _) r1
   |_=>exact h1.elim⟩
def v_or(ha:PE X a (tV (kk X cm) E ma))(hb:PE X (.BoolOp .Or (b::rest) pos) (tV (kk X cm) E mb)):PE X (.BoolOp .Or (a::b::rest) pos) (tV (kk X cm) E (Uk ma mb)):=PE.wk (Yu ha hb) λσ H Q ⟨c,F,ρ,rel,h⟩=>
 ⟨c,F,ρ,rel,h.bind fun p ρ1 v F1 H1 ć _ _ r1 h1=>by
   cases p with
   |bl k=>
    cases pI r1
    cases k with
    |false=>exact⟨c,F1,ρ1,ć,h1⟩
    |true=>exact h1 _ F1 H1 ć (Same.refl _) (Same.refl _) r1
   |_=>exact h1.elim⟩
def v_not(ha:PE X a (tV (kk X cm) E ma)):PE X (.UnaryOp .Not a pos) (tV (kk X cm) E (Ul ma)):=PE.wk (Tq ha) λσ H Q ⟨c,F,ρ,rel,h⟩=>
 ⟨c,F,ρ,rel,h.bind fun p ρ1 v F1 H1 ć _ _ r1 h1=>by
   cases p with
   |bl k=>
    cases pI r1
    exact h1 _ F1 H1 ć (Same.refl _) (Same.refl _) Rep.bl
   |_=>exact h1.elim⟩
def dJ{α:Type}(t:M Bool)(ma mb:M α):M α:= λρ=>(t ρ).bind λb ρ1=>if b=true then ma ρ1 else mb ρ1
def ZcE{α:Type}{R:RR α V}{c':Expr}{ma mb:M α}(hc:PT X c' (tB (kk X cm) E ta))(ha:PE X a (tG (kk X cm) E R ma))(hb:PE X b (tG (kk X cm) E R mb)):PE X (.IfExp c' a b pos) (tG (kk X cm) E R (dJ ta ma mb)):=PE.wk (Er hc ha hb) λσ H Q ⟨c,F,ρ,rel,h⟩=>
 ⟨c,F,ρ,rel,h.bind fun p ρ1 v F1 H1 ć _ _ r1 h1=>by
   have e:p=v:=r1
   subst e
   cases p with
   |true=>exact⟨c,F1,ρ1,ć,h1⟩
   |false=>exact⟨c,F1,ρ1,ć,h1⟩⟩
def Ė:M (List PV):=λρ=>.ok [] ρ
def ă(ma:M PV)(mr:M (List PV)):M (List PV):=λρ=>(ma ρ).bind λp ρ1=>(mr ρ1).bind λps ρ2=>.ok (p::ps) ρ2
variable{mr:M (List PV)}
def Ħ:PA X [] (tL (kk X cm) E Ė):=PA.wk Ś λσ H Q ⟨c,F,ρ,rel,h⟩=>h [] F H rel (Same.refl _) (Same.refl _) Ĉ.nil
def ą(ha:PE X e (tV (kk X cm) E ma))(hr:PA X es (tL (kk X cm) E mr))(hs:starEach (e::es) X.env=(false,eval e X.env)::starEach es X.env:=by exact Ŗ rfl):PA X (e::es) (tL (kk X cm) E (ă ma mr)):=PA.wk (Ĳ ha hr hs) λσ H Q ⟨c,F,ρ,rel,h⟩=>
 ⟨c,F,ρ,rel,h.bind λp ρ1 v F1 H1 ć _ _ r1 h1=>⟨c,F1,ρ1,ć,h1.bind λps ρ2 vs F2 H2 ĥ sF sH r2 h2=>h2 _ F2 H2 ĥ (Same.refl _) (Same.refl _) (Ĉ.cons (Rep.same sF p v r1) r2)⟩⟩
def ĕ:PA X [] (JB (kk X cm) E Ė):=PA.wk Ś λσ H Q ⟨c,F,ρ,rel,h⟩=>h [] F H rel (Same.refl _) (Same.refl _) .nil
def ċ(ha:PE X e (tR (kk X cm) E ma))(hr:PA X es (JB (kk X cm) E mr))(hs:starEach (e::es) X.env=(false,eval e X.env)::starEach es X.env:=by exact Ŗ rfl):PA X (e::es) (JB (kk X cm) E (ă ma mr)):=PA.wk (Ĳ ha hr hs) λσ H Q ⟨c,F,ρ,rel,h⟩=>
 ⟨c,F,ρ,rel,h.bind λp ρ1 v F1 H1 ć _ _ r1 h1=>⟨c,F1,ρ1,ć,h1.bind λps ρ2 vs F2 H2 ĥ sF sH r2 h2=>h2 _ F2 H2 ĥ (Same.refl _) (Same.refl _) (.cons (rR.mono r1 sF sH) r2)⟩⟩
def ē:M (List Slot):=λρ=>.ok [] ρ
def ġ(ma:M PV)(mr:M (List Slot)):M (List Slot):=λρ=>(ma ρ).bind λp ρ1=>(mr ρ1).bind λas ρ2=>.ok (.sh p::as) ρ2
def aF:Slot->Option Slot
 | .sh p=>some (.sh p)
 | .ow ps=>some (.bw ps)
 | .bw ps=>some (.bw ps)
 | .bn qs rows=>some (.sh (.lst (.lst qs::rows)))
 | .dw dz=>some (.dw dz)
 |_=>none
def Ċ(i:Nat)(mr:M (List Slot)):M (List Slot):=λρ=>match(ρ[i]?).bind aF with
 |none=>.bad
 |some _=>(mr ρ).bind λas ρ2=>match(ρ2[i]?).bind aF with
  |some s=>.ok (s::as) ρ2
  |none=>.bad
variable{ms:M (List Slot)}
def Ē:PA X [] (tA (kk X cm) E ē):=PA.wk Ś λσ H Q ⟨c,F,ρ,rel,h⟩=>h [] F H rel (Same.refl _) (Same.refl _) .nil
def Ģ(ha:PE X e (tV (kk X cm) E ma))(hr:PA X es (tA (kk X cm) E ms))(hs:starEach (e::es) X.env=(false,eval e X.env)::starEach es X.env:=by exact Ŗ rfl):PA X (e::es) (tA (kk X cm) E (ġ ma ms)):=PA.wk (Ĳ ha hr hs) λσ H Q ⟨c,F,ρ,rel,h⟩=>
 ⟨c,F,ρ,rel,h.bind λp ρ1 v F1 H1 ć _ _ r1 h1=>⟨c,F1,ρ1,ć,h1.bind λas ρ2 vs F2 H2 ĥ sF sH r2 h2=>h2 _ F2 H2 ĥ (Same.refl _) (Same.refl _) (.cons (show ak _ _ _ (.sh p) v from Rep.same sF p v r1) r2)⟩⟩
def oH{K:KK}{c:Ctx}{F H:Hp}{σ:L2.St}{ρ:ħ}{i:Nat}{s:Slot}(rel:Rel K c F H σ ρ)(h:(ρ[i]?).bind aF=some s):∃v,σ[i]?=some (some v)/\ak K F H s v:=by
 cases e:ρ[i]? with
 |none=>rw[e] at h;cases h
 |some sl=>
  rw[e] at h
  have h':aF sl=some s:=h
  cases sl with
  |sh p=>
   cases h'
   obtain⟨v,h1,h2⟩:=rel.slot i _ e
   exact⟨v,at_of h1,h2⟩
  |ow ps=>
   cases h'
   obtain⟨a,vs,h1,h2,h3,h4,h5,_⟩:=rel.ow e
   exact⟨.ref a,h1,a,vs,rfl,h2,h3,h5⟩
  |bw ps=>
   cases h'
   obtain⟨a,vs,h1,h2,h3⟩:=rel.slot i _ e
   exact⟨.ref a,at_of h1,a,vs,rfl,(rel.lent a _ h2).1,(rel.lent a _ h2).2,h3⟩
  |no=>cases h'
  |rc C ns ps=>cases h'
  |ot ps qs rs=>cases h'
  |ol qR=>cases h'
  |fr qR=>cases h'
  |bn qs rows=>
   cases h'
   obtain⟨v,h1,h2⟩:=rel.slot i _ e
   exact⟨v,at_of h1,h2.rep⟩
  |dw dz=>
   cases h'
   obtain⟨a,ts,h1,h2,h3⟩:=rel.slot i _ e
   exact⟨.ref a,at_of h1,a,ts,rfl,(rel.lent a _ h2).1,(rel.lent a _ h2).2,fM h3 λt d _ ⟨xs,b,vs,k1,k2,k3,k4⟩=>⟨xs,b,vs,k1,k2,rel.lent b _ k3,k4⟩⟩
def Kw(i:Nat){x:Str}{px:Pos}(hN:X.N[i]?=some x:=by rfl)(hv:El X.env.scope x:=by first|exact Or.inl rfl|exact Or.inr (Or.inl rfl)|exact Or.inr (Or.inr rfl))(hd:(x== ("__debug__" :Str))=false:=by decide)
 (hcd:(x== ("__classdict__" :Str))=false:=by decide)(hr:PA X es (tA (kk X cm) E ms))(hs:starEach (.Name x px::es) X.env=(false,eval (.Name x px) X.env)::starEach es X.env:=by exact Ŗ rfl):PA X (.Name x px::es) (tA (kk X cm) E (Ċ i ms)):=
 PA.wk (Ĳ (gn hN hv hd hcd) hr hs) fun σ H Q ⟨c,F,ρ,rel,h⟩=>by
   unfold Ċ at h
   cases e:(ρ[i]?).bind aF with
   |none=>rw[e] at h;exact h.elim
   |some s0=>
    rw[e] at h
    obtain⟨v,hv,_⟩:=oH rel e
    refine⟨v,hv,c,F,ρ,rel,Ÿ.bind h λas ρ2 vs F2 H2 ĥ sF sH r2 h2=>?_⟩
    cases e2:(ρ2[i]?).bind aF with
    |none=>simp only[e2] at h2;exact h2.elim
    |some s=>
     simp only[e2] at h2
     obtain⟨v',hv',r1⟩:=oH ĥ e2
     rw[hv] at hv'
     cases hv'
     exact h2 _ F2 H2 ĥ (Same.refl _) (Same.refl _) (.cons r1 r2)
def jm(mr:M (List PV)):M PV:=λρ=>(mr ρ).bind λps ρ1=>if ps.length<=16777216 then .ok (.tup ps) ρ1 else .bad
def b_(mr:M (List PV)):M RV:=λρ=>(mr ρ).bind λps ρ1=>if ps.length<=16777216 then .ok (.ow ps) ρ1 else .bad
def Ĝ:sizeLine=16777216:=sizeLine_eq
def gC{x1}(h:PA X es (tL (kk X cm) E mr)):PE X (.Tuple es x1 pos) (tV (kk X cm) E (jm mr)):=PE.wk (zj h) λσ H Q ⟨c,F,ρ,rel,h⟩=>
 ⟨c,F,ρ,rel,h.bind fun ps ρ1 vs F1 H1 ć _ _ r1 h1=>by
   split at h1
   ·rename_i hz
    refine⟨by rw[<-Ĉ.length r1,Ĝ];exact hz,λp hp=>h1 _ _ _ (ć.alloc hp) (Same.upd (ć.sub.free hp)) (Same.upd hp) ?_⟩
    show Rep _ _ _ _
    unfold Rep
    exact⟨p,vs,rfl,dh.of Ď,Ĉ.same (Same.upd (ć.sub.free hp)) ps vs r1⟩
   ·exact h1.elim⟩
def dM{K:KK}{c:Ctx}{F H:Hp}{σ:L2.St}{ρ:ħ}{ps:List PV}{vs:List V}{a:Addr}(rel:Rel K c F H σ ρ)(ha:H a=none)(r:Ĉ K F ps vs):Rel K c F (upd H a (.lst vs)) σ ρ/\Held K c σ ρ F (upd H a (.lst vs)) ps (.ref a):=
 ⟨rel.made ha,a,vs,rfl,Ď,rel.sub.free ha,rel.base.free ha,rel.fresh ha,r⟩
def ŵ(h:PA X es (tL (kk X cm) E mr)):PE X (.List es pos) (tO (kk X cm) E (b_ mr)):=PE.wk (zm h) λσ H Q ⟨c,F,ρ,rel,h⟩=>
 ⟨c,F,ρ,rel,h.bind fun ps ρ1 vs F1 H1 ć _ _ r1 h1=>by
   split at h1
   ·rename_i hz
    refine⟨by rw[<-Ĉ.length r1,Ĝ];exact hz,λp hp=>?_⟩
    obtain⟨q1,q2⟩:=dM ć hp r1
    exact h1 _ _ _ q1 (Same.refl _) (Same.upd hp) q2
   ·exact h1.elim⟩
def bT(f:List PV->Option PV)(mr:M (List PV)):M PV:=λρ=>(mr ρ).bind λps ρ1=>Res.mV (f ps) ρ1
def lJ(f:List PV->Option RV)(mr:M (List PV)):M RV:=λρ=>(mr ρ).bind λps ρ1=>Res.mV (f ps) ρ1
def dN(K:KK)(r:List V->Hp->VK->Prop)(f:List PV->Option PV):Prop:=∀{c:Ctx} {F H:Hp} {σ:L2.St} {ρ:ħ} {ps:List PV} {pv:PV} {vs:List V} {Q:VK},Rel K c F H σ ρ->Ui K c σ ρ F H ps vs->f ps=some pv->
 (∀z F' H',Rel K c F' H' σ ρ->Same F F'->Same H H'->Rep K F' pv z->Q z H')->r vs H Q
def Gk(K:KK)(r:List V->Hp->VK->Prop)(f:List PV->Option RV):Prop:=∀{c:Ctx} {F H:Hp} {σ:L2.St} {ρ:ħ} {ps:List PV} {pv:RV} {vs:List V} {Q:VK},Rel K c F H σ ρ->Ui K c σ ρ F H ps vs->f ps=some pv->
 (∀z F' H',Rel K c F' H' σ ρ->Same F F'->Same H H'->rO K c σ ρ F' H' pv z->Q z H')->r vs H Q
def YL{r:List V->Hp->VK->Prop}{f:List PV->Option PV}(hf:dN (kk X cm) r f){σ:L2.St}{H:Hp}{Q:VK}(h:tV (kk X cm) E (bT f mr) σ H Q):Yk r (JB (kk X cm) E mr) σ H Q:=by
 obtain⟨c,F,ρ,rel,h⟩:=h
 refine⟨c,F,ρ,rel,h.bind λp ρ1 v F1 H1 ć _ _ r1 h1=>?_⟩
 cases e:f p with
 |none=>rw[e] at h1;exact h1.elim
 |some pv=>rw[e] at h1;exact hf ć r1 e λz F' H' ŋ s1 s2 q'=>h1 z F' H' ŋ s1 s2 q'
def ZcF{r:List V->Hp->VK->Prop}{f:List PV->Option RV}(hf:Gk (kk X cm) r f){σ:L2.St}{H:Hp}{Q:VK}(h:tO (kk X cm) E (lJ f mr) σ H Q):Yk r (JB (kk X cm) E mr) σ H Q:=by
 obtain⟨c,F,ρ,rel,h⟩:=h
 refine⟨c,F,ρ,rel,h.bind λp ρ1 v F1 H1 ć _ _ r1 h1=>?_⟩
 cases e:f p with
 |none=>rw[e] at h1;exact h1.elim
 |some pv=>rw[e] at h1;exact hf ć r1 e λz F' H' ŋ s1 s2 q'=>h1 z F' H' ŋ s1 s2 q'
end
end P
namespace P
open PySem PySem.Spec PyProof.Rows L2 M2 M3
def fQ:M Fl:=λρ=>.ok .nx ρ
def Ě(a b:M Fl):M Fl:=λρ=>(a ρ).bind λf ρ1=>match f with
 | .nx=>b ρ1
 |f=>.ok f ρ1
def ĸ(i:Nat)(m:M RV):M Fl:=λρ=>(m ρ).bind λr ρ1=>.ok .nx (ρ1.set i r.slot)
def Į(m:M RV):M Fl:=λρ=>(m ρ).bind λr ρ1=>.ok (.rt r) ρ1
section
variable{X:Cx}{cm:String->Addr}{E:L2.St->XK}{a b e:Expr}{st:Stmt}{rest:List Stmt}{es:List Expr}{pos:Pos}{m1 m2:M Fl}{mo:M RV}{mv:M PV}
def ĭ:aB X [] (tS (kk X cm) E fQ):=aB.wk Ar λD σ H ⟨c,F,ρ,rel,h⟩=>h σ F H rel (Same.refl F)
def Ĭ(h:PS X st (tS (kk X cm) E m1)):aB X [st] (tS (kk X cm) E m1):=cP h
def Ky{c:Ctx}{F:Hp}{D:Ends}{r:Res Fl}(h:ş (kk X cm) E c F D (r.bind λf ρ1=>match f with| .nx=>m2 ρ1|f=>.ok f ρ1)):ş (kk X cm) E c F {D with nx:=tS (kk X cm) E m2 D} r:=by
 cases r with
 |ok f ρ1=>
  cases f with
  |nx=>exact λσ' F' H' ŋ s=>⟨c,F',ρ1,ŋ,ş.mono h s⟩
  |bk=>exact h
  |ct=>exact h
  |rt v=>exact h
 |exc x ρ1=>exact h
 |bad=>exact h
def č(h1:PS X st (tS (kk X cm) E m1))(h2:aB X rest (tS (kk X cm) E m2)):aB X (st::rest) (tS (kk X cm) E (Ě m1 m2)):=aB.wk (ũ h1 h2) λD σ H ⟨c,F,ρ,rel,h⟩=>⟨c,F,ρ,rel,Ky h⟩
def Rel.Um{K:KK}{c:Ctx}{F H:Hp}{σ:L2.St}{ρ:ħ}{i:Nat}{t:Bool}{ps qs rows:List PV}{v:V}(r:Rel K c F H σ ρ)(q:jk K c.B F t ps qs rows v):Rel K c F H (σ.set i (some v)) (ρ.set i (RV.bn t ps qs rows).slot):=by
 cases t with
 |true=>exact r.put (s:=.sh (bnV true ps qs rows)) rfl ⟨v,rfl,jk.rep q⟩
 |false=>
  have e:ps=[]:=by
   obtain⟨_,_,_,_,_,_,_,_,_,_,_,z⟩:=q
   rcases z with⟨_,z,_⟩|⟨z,_⟩
   ·exact z
   ·cases z
  subst e
  exact r.put (s:=.bn qs rows) rfl ⟨v,rfl,q⟩
def YM{i:Nat}{x:Str}{pos':Pos}(hN:X.N.Nodup)(hi:X.N[i]?=some x)(hx:Loc X.env.scope x)(he:PE X e (tO (kk X cm) E mo))(hs:swapsWith e (some (.Name x pos')) pos.line X.env=pure false:=by rfl)(hf:X.fn x=true\/X.env.scope.names.lookup x=some .local:=by first|exact .inl rfl|exact .inr rfl|assumption) :
 PS X (.Assign [.Name x pos'] e pos) (tS (kk X cm) E (ĸ i mo)):=PS.wk (oX hN hi hx he hs hf) λD σ H ⟨c,F,ρ,rel,h⟩=>⟨c,F,ρ,rel,ş.bind h λr ρ1 v F1 H1 ć s1 q h1=>by
 cases r with
 |sh p=>exact h1 _ F1 H1 (ć.put rfl ⟨v,rfl,q⟩) (Same.refl _)
 |ow ps=>
  obtain⟨a,vs,rfl,q1,q2,q3,q4,q5⟩:=q
  exact h1 _ F1 H1 (ć.Dq ⟨a,vs,rfl,q1,q2,q3,q5⟩ λ_ z=>V.ref.inj z▸q4) (Same.refl _)
 |ot ps qs rs=>
  obtain⟨p,a,xs,vs,ys,rfl,q0,qx,q1,q2,q3,q4,q5,q6⟩:=q
  exact h1 _ F1 H1 (ć.Dq (s:=.ot ps qs rs) ⟨p,a,xs,vs,ys,rfl,q0,qx,q1,q2,q3,q5,q6⟩ λ_ z=>jK (ps:=ps) (qs:=qs) (rs:=rs) z ⟨p,xs,ys,rfl,q0,qx.length.symm⟩▸q4) (Same.refl _)
 |bn t ps qs rows=>exact h1 _ F1 H1 (ć.Um q) (Same.refl _)⟩
def YQ(he:PE X e (tO (kk X cm) E mo)):PS X (.Return (some e) pos) (tS (kk X cm) E (Į mo)):=PS.wk (RN he) λD σ H ⟨c,F,ρ,rel,h⟩=>⟨c,F,ρ,rel,ş.bind h λr ρ1 v F1 H1 ć s1 q h1=>h1 v σ F1 H1 ć (Same.refl _) q⟩
def Ŧ{t:M Bool}{ss ss':List Stmt}(hc:PT X a (tB (kk X cm) E t))(ha:aB X ss (tS (kk X cm) E m1))(hb:aB X ss' (tS (kk X cm) E m2)):PS X (.If a ss ss' pos) (tS (kk X cm) E (dJ t m1 m2)):=PS.wk (Es hc ha hb) λD σ H ⟨c,F,ρ,rel,h⟩=>⟨c,F,ρ,rel,ş.bind h λr ρ1 v F1 H1 ć s1 q h1=>by
 have e:r=v:=q
 subst e
 cases r with
 |true=>exact⟨c,F1,ρ1,ć,h1⟩
 |false=>exact⟨c,F1,ρ1,ć,h1⟩⟩
def iC{α:Type}:M α:= λ_=>.bad
def Ű:PS X st (tS (kk X cm) E iC):=PS.wk Eu λD σ H ⟨c,F,ρ,rel,h⟩=>h
abbrev Tg:=PV->ħ->Option ħ
abbrev En:=List PV->ħ->Option ħ
def Uo(K:KK)(c:Ctx)(F H:Hp)(Q:L2.St->Hp->Prop):Option ħ->Prop
 |some ρ'=>∀σ',Rel K c F H σ' ρ'->Q σ' H
 |none=>False
def tT(K:KK)(g:Tg):TG:=λv σ H Q=>∃c F ρ p,Rel K c F H σ ρ/\Rep K F p v/\Uo K c F H Q (g p ρ)
def YS(K:KK)(g:En):Ew:=λv σ H Q=>∃c F ρ p,Rel K c F H σ ρ/\Ĉ K F p v/\Uo K c F H Q (g p ρ)
def gN(i:Nat):Tg:=λp ρ=>some (ρ.set i (.sh p))
def gF:En:=λps ρ=>match ps with
 | []=>some ρ
 |_=>none
def ĵ(g:Tg)(gs:En):En:=λps ρ=>match ps with
 |p::ps=>(g p ρ).bind λρ1=>gs ps ρ1
 | []=>none
def gT(n:Nat)(gs:En):Tg:=λp ρ=>match p with
 | .tup ps=>if ps.length=n then gs ps ρ else none
 |_=>none
def PG.wk'{tg:Expr}{t t':TG}(h:PG X tg t)(i:∀v σ H Q,t' v σ H Q->t v σ H Q):PG X tg t':=λpins s σ H v u Q I r q=>h pins s σ H v u Q I r (i v σ H Q q)
def yI.wk{tg:List Expr}{t t':Ew}(h:yI X tg t)(i:∀v σ H Q,t' v σ H Q->t v σ H Q):yI X tg t':=λpins s σ H v u Q I r q=>h pins s σ H v u Q I r (i v σ H Q q)
def Gm{i:Nat}{x:Str}(hN:X.N.Nodup)(hi:X.N[i]?=some x)(hx:Loc X.env.scope x)(hf:X.fn x=true\/X.env.scope.names.lookup x=some .local:=by first|exact .inl rfl|exact .inr rfl|assumption):PG X (.Name x pos) (tT (kk X cm) (gN i)):=
 PG.wk' (Ż hN hi hx hf) λv σ H Q ⟨c,F,ρ,p,rel,rp,h⟩=>h _ (rel.put rfl ⟨v,rfl,rp⟩)
def pJ:yI X [] (YS (kk X cm) gF):=yI.wk jE λv σ H Q ⟨c,F,ρ,p,rel,rp,h⟩=>by
 cases p with
 |nil=>
  have e:v=[]:=by have:=rp;unfold Ĉ at this;exact this
  exact⟨e,h σ rel⟩
 |cons _ _=>exact h.elim
def ű{es:List Expr}{g:Tg}{gs:En}(h1:PG X e (tT (kk X cm) g))(h2:yI X es (YS (kk X cm) gs))(hs:(assignEach (e::es) X.env).map (·.2)=assign e X.env::(assignEach es X.env).map (·.2):=by rfl):yI X (e::es) (YS (kk X cm) (ĵ g gs)):=
 yI.wk (Ş h1 h2 hs) λv σ H Q ⟨c,F,ρ,p,rel,rp,h⟩=>by
  cases p with
  |nil=>exact h.elim
  |cons p ps=>
   unfold Ĉ at rp
   obtain⟨x,r,rfl,r1,r2⟩:=rp
   refine⟨x,r,rfl,c,F,ρ,p,rel,r1,?_⟩
   unfold ĵ at h
   dsimp only at h
   cases eg:g p ρ with
   |none=>rw[eg] at h;exact h.elim
   |some ρ1=>rw[eg] at h;exact λσ' ŋ=>⟨c,F,ρ1,ps,ŋ,r2,h⟩
def Gn{es:List Expr}{k:Nat}{gs:En}{n:Nat}(hc:X.calm=true)(h:yI X es (YS (kk X cm) gs))(hn:(assignEach es X.env).length=n:=by rfl)(hst:(assignEach es X.env).findIdx? (·.1)=none:=by rfl):PG X (.Tuple es k pos) (tT (kk X cm) (gT n gs)):=
 PG.wk' (k_ hc h hn hst) fun v σ H Q ⟨c,F,ρ,p,rel,rp,h⟩=>by
   cases p with
   |tup ps=>
    unfold Rep at rp
    obtain⟨a,xs,h1,h2,h3⟩:=rp
    unfold gT at h
    dsimp only at h
    split at h
    ·rename_i hl
     exact⟨a,xs,h1,Same.tup rel.sub h2,by rw[<-h3.length];exact hl,c,F,ρ,ps,rel,h3,h⟩
    ·exact h.elim
   |_=>exact h.elim
def Kz(g:Tg)(m:M PV):M Fl:=λρ=>(m ρ).bind λp ρ1=>match g p ρ1 with
 |some ρ2=>.ok .nx ρ2
 |none=>.bad
def Mw{tg:Expr}{g:Tg}(he:PE X e (tV (kk X cm) E mv))(hg:PG X tg (tT (kk X cm) g))(hs:swapsWithSole [tg] e pos.line X.env=pure false:=by rfl)(hw:swappedStores [tg] e X.env=pure none:=by rfl)
 (h1:(assignEach [tg] X.env).map (·.2)=[assign tg X.env]:=by rfl):PS X (.Assign [tg] e pos) (tS (kk X cm) E (Kz g mv)):=PS.wk (Ey he hg hs hw h1) λD σ H ⟨c,F,ρ,rel,h⟩=>⟨c,F,ρ,rel,ş.bind h λr ρ1 v F1 H1 ć s1 q h1=>by
 refine⟨c,F1,ρ1,r,ć,q,?_⟩
 cases eg:g r ρ1 with
 |none=>rw[eg] at h1;exact h1.elim
 |some ρ2=>rw[eg] at h1;exact λσ' ŋ=>h1 σ' F1 H1 ŋ (Same.refl _)⟩
def zB(i:Nat)(mi:M PV)(m:M PV):M Fl:=λρ=>(m ρ).bind λp ρ1=>match ρ1[i]? with
 |some (.ow _)=>(mi ρ1).bind λq ρ2=>match ρ2[i]?,q with
  |some (.ow ps),.int k=>match yJ ps.length k with
   |some j=>.ok .nx (ρ2.set i (.ow (ps.set j p)))
   |none=>.bad
  |_,_=>.bad
 |_=>.bad
def KC{i:Nat}{x:Str}{ix:Expr}{mi:M PV}{px zE:Pos}(he:PE X e (tV (kk X cm) E mv))(hi:PE X ix (tV (kk X cm) E mi))(ho:PE X (.Name x px) (bG i))
 (hsub:∀v,assign (.Subscript (.Name x px) ix zE) X.env v=(do
   let ov <-holding [v] (eval (.Name x px) X.env)
   let iv <-holding [v,ov] (eval ix X.env)
   standAt zE
   holding [v,ov,iv] (setItem ov iv v)
   release [v,ov,iv] []):=by intro _;rfl)
 (hs:swapsWithSole [.Subscript (.Name x px) ix zE] e pos.line X.env=pure false:=by rfl)(hw:swappedStores [.Subscript (.Name x px) ix zE] e X.env=pure none:=by rfl)
 (h1:(assignEach [.Subscript (.Name x px) ix zE] X.env).map (·.2)=[assign (.Subscript (.Name x px) ix zE) X.env]:=by rfl) :
 PS X (.Assign [.Subscript (.Name x px) ix zE] e pos) (tS (kk X cm) E (zB i mi mv)):=PS.wk (Ey he (RX ho hi set_list hsub) hs hw h1) λD σ H ⟨c,F,ρ,rel,h⟩=>⟨c,F,ρ,rel,ş.bind h λp ρ1 v F1 H1 ć s1 q h1=>by
 cases e1:ρ1[i]? with
 |none=>rw[e1] at h1;exact h1.elim
 |some sl=>
  rw[e1] at h1
  cases sl with
  |ow ps0=>
   obtain⟨a,vs0,z1,_,_,_,_,_⟩:=ć.ow e1
   refine⟨.ref a,z1,c,F1,ρ1,ć,ş.bind h1 λq' ρ2 u F2 H2 ĥ s2 r2 h2=>?_⟩
   cases e2:ρ2[i]? with
   |none=>rw[e2] at h2;exact h2.elim
   |some sl2=>
    rw[e2] at h2
    cases sl2 with
    |ow ps=>
     cases q' with
     |int k=>
      have eu:u=.int k:=by have:Rep (kk X cm) F2 (.int k) u:=r2;unfold Rep at this;exact this
      subst eu
      dsimp only at h2
      obtain⟨a2,vs,w1,w2,w3,w4,w5,w6⟩:=ĥ.ow e2
      rw[z1] at w1
      cases w1
      cases ej:yJ ps.length k with
      |none=>rw[ej] at h2;exact h2.elim
      |some j=>
       rw[ej] at h2
       refine⟨a,vs,k,j,rfl,rfl,w2,by rw[<-w5.length];exact ej,h2 σ F2 _ (ĥ.write w6 z1 ⟨a,vs.set j v,rfl,Ď,w3,w4,?_⟩ λ_ z=>(V.ref.inj z).symm) (Same.refl _)⟩
       exact Ĉ.of (Gg (Rep.same s2 p v q) j w5.pr)
     |_=>exact h2.elim
    |_=>exact h2.elim
  |_=>exact h1.elim⟩
def nP(i:Nat)(m:M PV):M Fl:=λρ=>match ρ[i]? with
 |some (.ow _)=>(m ρ).bind λp ρ1=>match ρ1[i]? with
  |some (.ow ps)=>if ps.length<16777216 then .ok .nx (ρ1.set i (.ow (ps ++ [p]))) else .bad
  |_=>.bad
 |_=>.bad
def cj{i:Nat}{D:Ends}{σ:L2.St}{H:Hp}(h:tS (kk X cm) E (nP i mv) D σ H):mL (Tf X.K "list" gW (bG i) (tL (kk X cm) E (ă mv Ė))) D σ H:=by
 obtain⟨c,F,ρ,rel,h⟩:=h
 unfold nP at h
 cases e1:ρ[i]? with
 |none=>rw[e1] at h;exact h.elim
 |some sl=>
  rw[e1] at h
  cases sl with
  |ow ps0=>
   obtain⟨a,vs0,z1,z2,z3,z4,z5,z6⟩:=rel.ow e1
   refine⟨.ref a,z1,.inl ⟨rfl,_,ŝ.of z2⟩,c,F,ρ,rel,?_⟩
   dsimp only at h
   unfold ă
   cases em:mv ρ with
   |bad=>rw[em] at h;exact h
   |exc x ρ1=>rw[em] at h;exact λC d F' H' ŋ s1 q=>h σ C d F' H' ŋ s1 q
   |ok p ρ1=>
    rw[em] at h
    intro us F1 H1 ć s1 s2 r1
    have r1':Ĉ (kk X cm) F1 [p] us:=r1
    cases r1'.pr with
    |cons rp t=>
     rename_i v vs'
     cases t
     cases e2:ρ1[i]? with
     |none=>simp only[Res.bZ,e2] at h;exact h.elim
     |some sl2=>
      simp only[Res.bZ,e2] at h
      cases sl2 with
      |ow ps=>
       obtain⟨a2,vs,w1,w2,w3,w4,w5,w6⟩:=ć.ow e2
       rw[z1] at w1
       cases w1
       dsimp only at h
       split at h
       ·rename_i hz
        refine⟨a,vs,v,rfl,rfl,w2,by rw[<-w5.length,Ĝ];exact hz,h σ F1 _ (ć.write w6 z1 ⟨a,vs ++ [v],rfl,Ď,w3,w4,Ĉ.append w5 (Ĉ.cons rp Ĉ.nil)⟩ λ_ z=>(V.ref.inj z).symm) s1⟩
       ·exact h.elim
      |_=>exact h.elim
  |_=>exact h.elim
def Ī(mc:M Bool)(mb:M Fl):Nat->ħ->Res Fl
 |0,_=>.bad
 |n+1,ρ=>(mc ρ).bind λb ρ1=>if b=true then(mb ρ1).bind λf ρ2=>match f with
  | .nx=>Ī mc mb n ρ2
  | .ct=>Ī mc mb n ρ2
  | .bk=>.ok .nx ρ2
  | .rt r=>.ok (.rt r) ρ2 else .ok .nx ρ1
theorem ŭ{mc:M Bool}{mb:M Fl}(n:Nat)(ρ:ħ):Ī mc mb (n+1) ρ=(mc ρ).bind λb ρ1=>if b=true then(mb ρ1).bind λf ρ2=>match f with
 | .nx=>Ī mc mb n ρ2
 | .ct=>Ī mc mb n ρ2
 | .bk=>.ok .nx ρ2
 | .rt r=>.ok (.rt r) ρ2 else .ok .nx ρ1:=rfl
open Classical in
noncomputable def Ž(mc:M Bool)(mb:M Fl):M Fl:=λρ=>if h:∃n,Ī mc mb n ρ≠ .bad then Ī mc mb (Classical.choose h) ρ else .bad
theorem gG{mc:M Bool}{mb:M Fl}:∀(n:Nat) (ρ:ħ),Ī mc mb n ρ≠ .bad->Ī mc mb (n+1) ρ=Ī mc mb n ρ
 |0,ρ,h=>absurd rfl h
 |n+1,ρ,h=>by
  rw[ŭ] at h
  rw[ŭ (n+1),ŭ n]
  cases e:mc ρ with
  |bad=>rfl
  |exc x ρ1=>rfl
  |ok b ρ1=>
   rw[e] at h
   simp only[Res.bZ] at h ⊢
   cases b with
   |false=>rfl
   |true=>
    simp only[if_true] at h ⊢
    cases e2:mb ρ1 with
    |bad=>rfl
    |exc x ρ2=>rfl
    |ok f ρ2=>
     rw[e2] at h
     simp only[Res.bZ] at h ⊢
     cases f with
     |nx=>exact gG n ρ2 h
     |ct=>exact gG n ρ2 h
     |bk=>rfl
     |rt r=>rfl
def sS{mc:M Bool}{mb:M Fl}{n m:Nat}{ρ:ħ}(h:Ī mc mb n ρ≠ .bad)(hm:n<=m):Ī mc mb m ρ=Ī mc mb n ρ:= by
 induction hm with
 |refl=>rfl
 |step _ ih=>rw[gG _ _ (by rw[ih];exact h),ih]
def Ų{mc:M Bool}{mb:M Fl}{ρ:ħ}(n:Nat)(h:Ī mc mb n ρ≠ .bad):Ž mc mb ρ=Ī mc mb n ρ:= by
 unfold Ž
 have hx:∃n,Ī mc mb n ρ≠ .bad:=⟨n,h⟩
 rw[dif_pos hx]
 have hc:=Classical.choose_spec hx
 rcases Nat.le_total n (Classical.choose hx) with hle|hle
 ·exact sS h hle
 ·exact(sS hc hle).symm
theorem gH{mc:M Bool}{mb:M Fl}{ρ:ħ}:Ž mc mb ρ=(mc ρ).bind λb ρ1=>if b=true then(mb ρ1).bind λf ρ2=>match f with
 | .nx=>Ž mc mb ρ2
 | .ct=>Ž mc mb ρ2
 | .bk=>.ok .nx ρ2
 | .rt r=>.ok (.rt r) ρ2 else .ok .nx ρ1:=by
 have go:∀ρ2,Ž mc mb ρ2=.bad\/∃n,Ž mc mb ρ2=Ī mc mb n ρ2/\Ī mc mb n ρ2≠ .bad:=λρ2=>by
  by_cases hx:∃n,Ī mc mb n ρ2≠ .bad
  ·obtain⟨n,h⟩:=hx
   exact .inr ⟨n,Ų n h,h⟩
  ·left;unfold Ž;rw[dif_neg hx]
 have ZcG:∀ρ2,Ž mc mb ρ2=.bad->∀n,Ī mc mb n ρ2=.bad:=λρ2 h n=>by
  refine Classical.byContradiction λz=>?_
  rw[Ų n z] at h
  exact z h
 have fin:∀n,Ī mc mb (n+1) ρ≠ .bad->Ž mc mb ρ=Ī mc mb (n+1) ρ:= λn h=>Ų _ h
 cases e:mc ρ with
 |bad=>rcases go ρ with h|⟨n,h1,h2⟩
       ·rw[h];rfl
       ·cases n with
        |zero=>exact absurd rfl h2
        |succ n=>rw[ŭ,e] at h2;exact absurd rfl h2
 |exc x ρ1=>
  have h:Ī mc mb 1 ρ=.exc x ρ1:=by rw[ŭ,e];rfl
  rw[Ų 1 (by rw[h];intro z;cases z),h];rfl
 |ok b ρ1=>
  simp only[Res.bZ]
  cases b with
  |false=>
   have h:Ī mc mb 1 ρ=.ok .nx ρ1:=by rw[ŭ,e];rfl
   rw[Ų 1 (by rw[h];intro z;cases z),h];rfl
  |true=>
   simp only[if_true]
   have one:∀n,Ī mc mb (n+1) ρ=(mb ρ1).bind λf ρ2=>match f with
    | .nx=>Ī mc mb n ρ2
    | .ct=>Ī mc mb n ρ2
    | .bk=>.ok .nx ρ2
    | .rt r=>.ok (.rt r) ρ2:=λn=>by rw[ŭ,e];rfl
   cases e2:mb ρ1 with
   |bad=>
    rcases go ρ with h|⟨n,h1,h2⟩
    ·rw[h];rfl
    ·cases n with
     |zero=>exact absurd rfl h2
     |succ n=>rw[one,e2] at h2;exact absurd rfl h2
   |exc x ρ2=>
    have h:Ī mc mb 1 ρ=.exc x ρ2:=by rw[one,e2];rfl
    rw[Ų 1 (by rw[h];intro z;cases z),h];rfl
   |ok f ρ2=>
    have turn:(∀n,Ī mc mb (n+1) ρ=Ī mc mb n ρ2)->Ž mc mb ρ=Ž mc mb ρ2:=λhn=>by
     rcases go ρ2 with h|⟨n,h1,h2⟩
     ·rcases go ρ with h'|⟨n,h1,h2⟩
      ·rw[h,h']
      ·cases n with
       |zero=>exact absurd rfl h2
       |succ n=>rw[hn,ZcG ρ2 h n] at h2;exact absurd rfl h2
     ·rw[h1,<-hn n]
      exact fin n (by rw[hn n];exact h2)
    cases f with
    |nx=>exact turn λn=>by rw[one,e2];rfl
    |ct=>exact turn λn=>by rw[one,e2];rfl
    |bk=>
     have h:Ī mc mb 1 ρ=.ok .nx ρ2:=by rw[one,e2];rfl
     rw[Ų 1 (by rw[h];intro z;cases z),h];rfl
    |rt r=>
     have h:Ī mc mb 1 ρ=.ok (.rt r) ρ2:=by rw[one,e2];rfl
     rw[Ų 1 (by rw[h];intro z;cases z),h];rfl
def KD{c:Expr}{body:List Stmt}{mc:M Bool}{mb:M Fl}(hp:PassesOwn (model X.prog X.w) X.A X.env X.xe)(hc:PT X c (tB (kk X cm) E mc))(hb:aB X body (tS (kk X cm) E mb)):PS X (.While c body [] pos) (tS (kk X cm) E (Ž mc mb)):=PS.wk (Ez hp hc hb) λD σ H ⟨c,F,ρ,rel,h⟩=>by
 obtain⟨n,hn⟩:∃n,ş (kk X cm) E c F D (Ī mc mb n ρ):=by
  by_cases hx:∃n,Ī mc mb n ρ≠ .bad
  ·obtain⟨n,hn⟩:=hx
   rw[Ų n hn] at h
   exact⟨n,h⟩
  ·unfold Ž at h
   rw[dif_neg hx] at h
   exact h.elim
 refine⟨λm σ' H'=>∃F2 ρ2,Rel (kk X cm) c F2 H' σ' ρ2/\Same F F2/\ş (kk X cm) E c F2 D (Ī mc mb m ρ2),⟨n,F,ρ,rel,Same.refl _,hn⟩,?_⟩
 rintro m σ1 H1 ⟨F1,ρ1,ć,s1,h1⟩
 cases m with
 |zero=>exact h1.elim
 |succ m=>
  rw[ŭ] at h1
  refine⟨c,F1,ρ1,ć,ş.bind h1 λk ρ2 v F2 H2 ĥ s2 q h2=>?_⟩
  have e:k=v:=q
  subst e
  cases k with
  |false=>
   rw[if_neg Bool.false_ne_true]
   rw[if_neg Bool.false_ne_true] at h2
   exact h2 σ1 F2 H2 ĥ (Same.refl _)
  |true=>
   rw[if_pos rfl]
   rw[if_pos rfl] at h2
   refine⟨_,λσ' H' z=>z,c,F2,ρ2,ĥ,?_⟩
   have nxt:∀{ρ3:ħ},ş (kk X cm) E c F2 D (Ī mc mb m ρ3)->∀σ' F' H',Rel (kk X cm) c F' H' σ' ρ3->Same F2 F'->∃m',m'<m+1/\∃F2 ρ2,Rel (kk X cm) c F2 H' σ' ρ2/\Same F F2/\ş (kk X cm) E c F2 D (Ī mc mb m' ρ2):=
    fun{ρ3} h3 σ' F' H' ŋ s'=>⟨m,Nat.lt_succ_self m,F',ρ3,ŋ,(s1.trans s2).trans s',ş.mono h3 s'⟩
   cases e2:mb ρ2 with
   |bad=>rw[e2] at h2;exact h2
   |exc x ρ3=>rw[e2] at h2;exact h2
   |ok f ρ3=>
    rw[e2] at h2
    cases f with
    |nx=>exact nxt h2
    |ct=>exact nxt h2
    |bk=>exact h2
    |rt r=>exact h2
def zF(K:KK)(Lh F:Hp)(J:It)(items:List PV):Prop:=∀(c:Ctx) (i:Nat) (F2 H:Hp) (σ:L2.St) (ρ:ħ),Rel K c F2 H σ ρ->Same F F2->Same Lh H->
 (∀p,items[i]?=some p->J.go i H/\∀x H',J.XR i H x H'->∃F3,Rel K c F3 H' σ ρ/\Same F2 F3/\Same H H'/\Rep K F3 p x)/\(i=items.length->J.stop i H)
def rIt(K:KK):RR (List PV) It:=λc _ _ F _ items J=>zF K c.L F J items
abbrev tI(K:KK)(E:L2.St->XK)(m:M (List PV)):TI:=tG K E (rIt K) m
def forL(g:Tg)(mb:M Fl):List PV->M Fl
 | [],ρ=>.ok .nx ρ
 |p::ps,ρ=>match g p ρ with
  |none=>.bad
  |some ρ1=>(mb ρ1).bind λf ρ2=>match f with
   | .nx=>forL g mb ps ρ2
   | .ct=>forL g mb ps ρ2
   | .bk=>.ok .nx ρ2
   | .rt r=>.ok (.rt r) ρ2
def nQ(mi:M (List PV))(g:Tg)(mb:M Fl):M Fl:=λρ=>(mi ρ).bind λitems ρ1=>forL g mb items ρ1
def iK{iter tg:Expr}{body:List Stmt}{mi:M (List PV)}{g:Tg}{mb:M Fl}(hp:PassesOwn (model X.prog X.w) X.A X.env X.xe)(hc:X.calm=true)(hi:PI X tg iter (tI (kk X cm) E mi))(hg:PG X tg (tT (kk X cm) g))(hb:aB X body (tS (kk X cm) E mb))
 (hs:∀x,foldedSetIterable iter X.env x=pure x:=by intro _;rfl):PS X (.For tg iter body [] pos) (tS (kk X cm) E (nQ mi g mb)):=PS.wk (yS hp hc hi hg hb hs) λD σ H ⟨c,F,ρ,rel,h⟩=>⟨c,F,ρ,rel,ş.bind h λitems ρ1 J F1 H1 ć s1 ito h1=>by
 refine⟨λi m σ' H'=>∃F2 ρ2,i<=items.length/\m=items.length-i/\Rel (kk X cm) c F2 H' σ' ρ2/\Same F1 F2/\ş (kk X cm) E c F2 D (forL g mb (items.drop i) ρ2),⟨_,F1,ρ1,Nat.zero_le _,rfl,ć,Same.refl _,h1⟩,?_⟩
 rintro i m σ2 H2 ⟨F2,ρ2,hle,rfl,ĥ,s2,h2⟩
 obtain⟨go,stop⟩:=ito c i F2 H2 σ2 ρ2 ĥ s2 λb u e=>(ĥ.lent b u e).1
 by_cases hlt:i<items.length
 ·obtain⟨g1,g2⟩:=go items[i] (List.getElem?_eq_getElem hlt)
  rw[List.drop_eq_getElem_cons hlt] at h2
  unfold forL at h2
  refine .inr ⟨g1,_,λσ' H' z=>z,λx H3 hy=>?_⟩
  obtain⟨F3,bN,s3,_,rp⟩:=g2 x H3 hy
  refine⟨c,F3,ρ2,items[i],bN,rp,?_⟩
  cases eg:g items[i] ρ2 with
  |none=>rw[eg] at h2;exact h2.elim
  |some ρ3=>
   rw[eg] at h2
   dsimp only at h2
   intro σ4 q_
   refine⟨c,F3,ρ3,q_,?_⟩
   have nxt:∀{ρ4:ħ},ş (kk X cm) E c F2 D (forL g mb (items.drop (i+1)) ρ4)->∀σ' F' H',Rel (kk X cm) c F' H' σ' ρ4->Same F3 F'->∃m',m'<items.length-i/\∃F2 ρ2,i+1<=items.length/\m'=items.length-(i+1)/\Rel (kk X cm) c F2 H' σ' ρ2/\Same F1 F2/\ş (kk X cm) E c F2 D (forL g mb (items.drop (i+1)) ρ2):=
    fun{ρ4} h3 σ' F' H' ŋ s'=>⟨items.length-(i+1),by omega,F',ρ4,hlt,rfl,ŋ,(s2.trans s3).trans s',ş.mono h3 (s3.trans s')⟩
   have h2':=ş.mono h2 s3
   cases e2:mb ρ3 with
   |bad=>rw[e2] at h2;exact h2
   |exc x ρ4=>rw[e2] at h2';exact h2'
   |ok f ρ4=>
    rw[e2] at h2 h2'
    cases f with
    |nx=>exact nxt h2
    |ct=>exact nxt h2
    |bk=>exact h2'
    |rt r=>exact h2'
 ·have e:i=items.length:=by omega
  refine .inl ⟨stop e,?_⟩
  rw[List.drop_eq_nil_of_le (by omega)] at h2
  unfold forL at h2
  exact h2 σ2 F2 H2 ĥ (Same.refl _)⟩
end
end P
namespace P
open PySem PySem.Spec PyProof.Rows L2 M2 M3
inductive FR where
 |ret (r:RV)|exc (x:PX)|bad
abbrev MF:=List Slot->FR
def FR.of:Res Fl->FR
 | .ok (.rt r) _=>.ret r
 | .ok .nx _=>.ret (.sh .non)
 | .exc x _=>.exc x
 |_=>.bad
def Ŏ(n k:Nat)(mb:M Fl):MF:=λas=>if as.length=n then FR.of (mb (startP k as)) else .bad
def rF(K:KK)(H F' H':Hp):RV->V->Prop
 | .sh p,v=>Rep K F' p v
 | .ow ps,v=>∃a vs,v=.ref a/\H' a=some (.lst vs)/\F' a=none/\H a=none/\Ĉ K F' ps vs
 | .ot ps qs rs,v=>∃p a xs vs ys,v=.ref p/\F' p=some (.tup (xs ++ .ref a::ys))/\Ĉ K F' ps xs/\H' a=some (.lst vs)/\F' a=none/\H a=none/\Ĉ K F' qs vs/\Ĉ K F' rs ys
 | .bn t ps qs rows,v=>jk K H F' t ps qs rows v
def ZcH(K:KK)(E:XK)(F H:Hp)(Q:VK):FR->Prop
 | .ret r=>∀v F' H',Gr F H F' H'->rF K H F' H' r v->Q v H'
 | .exc x=>∀C d F' H',Gr F H F' H'->Dr K F' x C d->E C d H'
 | .bad=>False
def cu(K:KK)(n:Nat)(mf:MF):Sp:=λvs H Q E=>∃F as,as.length=n/\Same F H/\Paired (ak K F H) as vs/\ZcH K E F H Q (mf as)
def bA(CX:jh)(X:Cx)(E:L2.St->XK):Prop:=∀(pins:List (Addr×Obj)) (σ:L2.St) (H:Hp) (s:Shared) (e:Value) (s':Shared),Inv X pins σ H s->CX X.stack H s (E σ) e s'->X.xe e s'
def Đ{X:Cx}{E:L2.St->XK}:bA bQ X E:=λ_ _ _ _ _ _ _ h=>h.elim
section
variable{P:Program}{w:World}{K:PySem.W.Frag}{cm:String->Addr}{mg:Str->Option Value}{base:Heap}{CX:jh}
def fnP{x qual:Str}{st:Stmt}{f:Addr}{fd:FuncData}{N ps:List Str}{k:Nat}{mb:M Fl}(F:Jz K x qual st f fd)(S:đ N ps (Ć st))
 (hbody:∀(cdv:Value) (A:Around) (outer:List Env) (s:Shared) (H:Hp) (E:XK),Ū k (A.deeper (envOfC qual (Ć st) s.heap.objs.size f cdv))→
   aB (qX CX P w K mg base N qual (Ć st) f cdv A outer s H E) (ś st) (tS ⟨K,cm⟩ (λ_=>E) mb)):ī P w K mg base CX (k+1) f fd ps (cu ⟨K,cm⟩ ps.length (Ŏ ps.length N.length mb)):=by
 obtain⟨oc,od,kV,doc,pm,an,cdv,ct,osl,rfl,lk,hcd⟩:=F.ex
 refine Fj lk hcd S (λvs H Q E ⟨F,ps',h1,_,h2,_⟩=>by rw[<-Paired.length h2];exact h1) λA outer s H vs Q E hr hsp=>?_
 obtain⟨F,ps',h1,h2,h3,h4⟩:=hsp
 refine⟨_,hbody cdv A outer s H E hr,ctx0 F H,F,startP N.length ps',Rel.start h2 h3,?_⟩
 unfold Ŏ at h4
 rw[if_pos h1] at h4
 cases e:mb (startP N.length ps') with
 |bad=>rw[e] at h4;exact h4
 |exc x ρ'=>rw[e] at h4;exact λσ' C d F' H' rel s1 q=>h4 C d F' H' rel.gr q
 |ok fl ρ'=>
  rw[e] at h4
  cases fl with
  |nx=>exact λσ' F' H' rel s1=>h4 .non F' H' rel.gr (Rep.non (K:=⟨K,cm⟩) (F:=F'))
  |bk=>exact h4.elim
  |ct=>exact h4.elim
  |rt r=>
   intro v σ' F' H' rel s1 q
   refine h4 v F' H' rel.gr ?_
   cases r with
   |sh p=>exact q
   |ow qs=>
    obtain⟨a,vs',e1,e2,e3,e4,_,e5⟩:=q
    exact⟨a,vs',e1,e2,e3,e4,e5⟩
   |ot qs ts rs=>
    obtain⟨p,a,xs,vs',ys,e1,e0,ex,e2,e3,e4,_,e5⟩:=q
    exact⟨p,a,xs,vs',ys,e1,e0,ex,e2,e3,e4,e5⟩
   |bn t ps qs rows=>exact q
def fnQ{x qual:Str}{st:Stmt}{f:Addr}{fd:FuncData}{N ps:List Str}{k n j:Nat}{mb:M Fl}{mf:MF}(F:Jz K x qual st f fd)(S:đ N ps (Ć st))(hn:ps.length=n)(hj:N.length=j)(hf:mf=Ŏ n j mb)
 (hbody:∀(cdv:Value) (A:Around) (outer:List Env) (s:Shared) (H:Hp) (E:XK),Ū k (A.deeper (envOfC qual (Ć st) s.heap.objs.size f cdv))→
   aB (qX CX P w K mg base N qual (Ć st) f cdv A outer s H E) (ś st) (tS ⟨K,cm⟩ (λ_=>E) mb)):ī P w K mg base CX (k+1) f fd ps (cu ⟨K,cm⟩ n mf):=by
 subst hn hj hf
 exact fnP F S hbody
end
def ę(mf:MF)(mr:M (List Slot)):M RV:=λρ=>(mr ρ).bind λps ρ1=>match mf ps with
 | .ret r=>.ok r ρ1
 | .exc x=>.exc x ρ1
 | .bad=>.bad
section
variable{X:Cx}{cm:String->Addr}{E:L2.St->XK}{CX:jh}{k n:Nat}{f:Addr}{fd:FuncData}{ps:List Str}{mf:MF}{mr:M (List Slot)}{x:Str}{p pos:Pos}{e:Expr}{es:List Expr}
def uM{sp:Sp}{pins:List (Addr×Obj)}{σ:L2.St}{H:Hp}{s:Shared}{Q:VK}{us:List Value}{vs:List V}(F:ī X.prog X.w X.K X.mg X.base CX k f fd ps sp)(hr:Ū k X.A)(hb:Binds X.K fd ps [])(hx:bA CX X E)
 (I:Inv X pins σ H s)(r:Vals vs us)(h:sp vs H Q (E σ)):wpAny (model X.prog X.w) X.A (call (.ref f) us) (EP X pins σ Q) X.xe s:=by
 have hl:(us ++ []).length=ps.length:=by rw[List.append_nil,<-r.length];exact F.len _ _ _ _ h
 have hbd:=hb s us I.kJ hl
 rw[List.append_nil] at hbd
 refine wpAny_call (codeAny_mono (F.run X.A X.stack s H ⟨us,[]⟩ us vs Q (E σ) hr I.env0 hbd r h) λr s' hq=>?_)
 cases r with
 |error e=>exact hx pins σ H s e s' I hq
 |ok fl=>
  cases fl with
  |ret u=>exact I.after hq
  |next=>exact False.elim hq
  |brk=>exact False.elim hq
  |cont=>exact False.elim hq
def wM{c:Ctx}{F1 H1:Hp}{σ:L2.St}{ρ1:ħ}{Q:VK}{ps:List Slot}{vs:List V}(hlen:(∃r,mf ps=r/\∀z,r=z->z≠ .bad)->ps.length=n)(ć:Rel (kk X cm) c F1 H1 σ ρ1)(r1:Paired (ak (kk X cm) F1 H1) ps vs)
 (h:Ÿ (kk X cm) E (rO (kk X cm)) c F1 H1 σ Q (match mf ps with| .ret r=>.ok r ρ1| .exc x=>.exc x ρ1| .bad=>.bad)):cu (kk X cm) n mf vs H1 Q (E σ):=by
 refine⟨F1,ps,?_,ć.sub,r1,?_⟩
 ·refine hlen ⟨_,rfl,λz hz hb=>?_⟩
  rw[hz,hb] at h
  exact h
 ·cases em:mf ps with
  |bad=>rw[em] at h;exact h
  |exc x=>rw[em] at h;exact λC d F' H' g rx=>h C d F' H' (ć.call g) g.f rx
  |ret r=>
   rw[em] at h
   intro v F' H' g rf
   refine h v F' H' (ć.call g) g.f g.h ?_
   cases r with
   |sh p=>exact rf
   |ow qs=>
    obtain⟨a,vs',e1,e2,e3,e4,e5⟩:=rf
    exact⟨a,vs',e1,e2,e3,ć.base.free e4,ć.cB g.f (ć.fresh e4),e5⟩
   |ot qs ts rs=>
    obtain⟨p,a,xs,vs',ys,e1,e0,ex,e2,e3,e4,e5⟩:=rf
    exact⟨p,a,xs,vs',ys,e1,e0,ex,e2,e3,ć.base.free e4,ć.cB g.f (ć.fresh e4),e5⟩
   |bn t ps qs rows=>exact jk.base rf ć.base
def Ř{n k:Nat}{mb:M Fl}{ps:List Slot}(h:∃r,Ŏ n k mb ps=r/\∀z,r=z->z≠ .bad):ps.length=n:=by
 obtain⟨r,h1,h2⟩:=h
 unfold Ŏ at h1
 by_cases hl:ps.length=n
 ·exact hl
 ·rw[if_neg hl] at h1
  exact absurd h1.symm (λz=>h2 .bad (by rw[<-h1]) rfl)
def Uq(F:ī X.prog X.w X.K X.mg X.base CX k f fd ps (cu (kk X cm) n mf))(hlen:∀{ps:List Slot},(∃r,mf ps=r/\∀z,r=z->z≠ .bad)->ps.length=n)(hr:Ū k X.A)(hg:Gl X x)(hm:X.mg x=some (.ref f))(hk:PySem.W.keepIn X.K (.ref f)=true)(hb:Binds X.K fd ps [])(hx:bA CX X E)
 (ha:PA X (e::es) (tA (kk X cm) E mr))(hdb:(x== ("__debug__" :Str))=false:=by decide)(he:starEach (e::es) X.env=(false,eval e X.env)::starEach es X.env:=by exact Ŗ rfl)(hpl:(backTo pos (starEach es X.env)).any (·.1)=false:=by rfl) :
 PE X (.Call (.Name x p) (e::es) [] pos) (tO (kk X cm) E (ę mf mr)):=by
 intro pins s σ H Q I h
 obtain⟨c,F,ρ,rel,h⟩:=h
 refine wpAny_Call_Name_kw (jD I hg hm ?_ hdb)
 refine PySem.W.callWith_K (h₀:= X.base) I.ok.mod.Xm hk (ņ (ha pos pins s σ H (λvs H1=>cu (kk X cm) n mf vs H1 Q (E σ)) I ⟨c,F,ρ,rel,h.bind λps' ρ1 vs F1 H1 ć _ _ r1 h1=>wM hlen ć r1 h1⟩) λus s1 ⟨vs,H1,I1,r,q⟩=>⟨I1.kJ,?_⟩) he hpl
 exact uM (by assumption) hr hb hx I1 r q
end
def Ů(m:M PV):M (List PV):=λρ=>(m ρ).bind λp ρ1=>match p with
 | .lst ps=>.ok ps ρ1
 | .tup ps=>.ok ps ρ1
 | .str z=>.ok (z.cps.toList.map λc=>.str ⟨#[c]⟩) ρ1
 |_=>.bad
section
variable{X:Cx}{cm:String->Addr}{E:L2.St->XK}{tg:Expr}
def YT(K:PySem.W.Frag)(tl:TE):TI:=λσ H R=>tl σ H λx H1=>(∃a,x=.ref a/\(∃xs,ŝ K H1 a xs)/\R (XS K a) H1)\/(∃a,x=.ref a/\(∃xs,dh K H1 a xs)/\R (Itt K a) H1)\/∃z,x=.str z/\R (Its z) H1
def uN{l:Expr}{tl:TE}(hl:PE X l tl):PI X tg l (YT X.K tl):=by
 intro pins s σ H R I h
 refine ņ (hl pins s σ H _ I h) λv s1 ⟨x,H1,I1,r1,q1⟩=>?_
 rcases q1 with⟨a,e,⟨xs,hq⟩,q⟩|⟨a,e,⟨xs,hq⟩,q⟩|⟨z,e,q⟩
 ·subst e
  cases r1
  obtain⟨its,rv,p,hz⟩:=I1.list hq
  refine wpAny_pyIter_list p.isList ?_
  refine⟨s1.heap.objs.size,[s1.heap.objs.size],_,_,H1,rfl,I1.kept (t':=s1.toks) λb o e=>Heap.get?_push_of_some _ e,CT a _,⟨_,Heap.get?_push_size _ rfl,rfl,rfl⟩,λb hb=>?_,q⟩
  have e:b=s1.heap.objs.size:=by simpa using hb
  subst e
  exact I1.EY (Nat.le_refl _) (I1.hok.fresh (Nat.le_refl _))
 ·subst e
  cases r1
  obtain⟨its,rv,p,hz⟩:=I1.tuple hq
  refine wpAny_pyIter_tuple (show s1.heap.IsTuple a its.toArray from p) ?_
  refine⟨s1.heap.objs.size,[s1.heap.objs.size],_,_,H1,rfl,I1.kept (t':=s1.toks) λb o e=>Heap.get?_push_of_some _ e,yQ a _,⟨_,Heap.get?_push_size _ rfl,rfl,rfl⟩,λb hb=>?_,q⟩
  have e:b=s1.heap.objs.size:=by simpa using hb
  subst e
  exact I1.EY (Nat.le_refl _) (I1.hok.fresh (Nat.le_refl _))
 ·subst e
  obtain⟨t,rfl⟩:=r1
  have fin:∀ty,(∀A:Around,A.handled=none->Walks X.prog X.w A s1.heap.objs.size [s1.heap.objs.size] [s1.heap.objs.size] z.cps.size (SignAt z) (λi h=>h.IsStrIter s1.heap.objs.size ty z t i))->
   (∀(A:Around) (i:Nat) (s:Shared) (Q:Value->Shared->Prop) (E:Value->Shared->Prop),s.heap.IsStrIter s1.heap.objs.size ty z t i->Q (.ref s1.heap.objs.size) s->wpAny (model X.prog X.w) A (pyIter (.ref s1.heap.objs.size)) Q E s)->
   (["enumerate","zip","dict_itemiterator","dict_reverseitemiterator","odict_iterator","itertools.zip_longest","itertools.pairwise"].contains ty=false)->
   PIE X pins σ tg R (.ref s1.heap.objs.size) {s1 with heap:=s1.heap.push {cls:=.type ty,data:=.fields #[.str z t,.int 0 0]}}:=λty hW hS hty=>by
   refine⟨s1.heap.objs.size,[s1.heap.objs.size],_,_,H1,rfl,I1.kept (t':=s1.toks) λb o e=>Heap.get?_push_of_some _ e,Dl _ z t ty hW hS hty,⟨_,Heap.get?_push_size _ rfl,rfl,rfl⟩,λb hb=>?_,q⟩
   have e:b=s1.heap.objs.size:=by simpa using hb
   subst e
   exact I1.EY (Nat.le_refl _) (I1.hok.fresh (Nat.le_refl _))
  cases ha:z.cps.all (·< 128) with
  |true=>exact wpAny_pyIter_ascii ha (fin _ (λA hA=>Walks.strAscii hA _ z t) (λA i s Q E st q=>wpAny_pyIter_striter_ascii st q) (by decide))
  |false=>exact wpAny_pyIter_wide ha (fin _ (λA hA=>Walks.strWide hA _ z t) (λA i s Q E st q=>wpAny_pyIter_striter_wide st q) (by decide))
def gJ{l:Expr}{m:M PV}(hl:PE X l (tV (kk X cm) E m)):PI X tg l (tI (kk X cm) E (Ů m)):=λpins s σ H R I h=>uN hl pins s σ H R I (by
 obtain⟨c,F,ρ,rel,h⟩:=h
 refine⟨c,F,ρ,rel,h.bind λp ρ1 v F1 H1 ć s1 s2 q h1=>?_⟩
 cases p with
 |lst ps=>
  have q':Rep (kk X cm) F1 (.lst ps) v:=q
  unfold Rep at q'
  obtain⟨a,vs,rfl,e1,e2⟩:=q'
  refine .inl ⟨a,rfl,⟨vs,ć.sub.seq e1⟩,h1 _ F1 H1 ć (Same.refl _) (Same.refl _) ?_⟩
  intro c' i F2 H2 σ2 ρ2 ĥ sF _
  have hq:ŝ X.K H2 a vs:=(sF.trans ĥ.sub).seq e1
  refine⟨λp hp=>?_,λhi=>⟨vs,hq,by rw[hi,e2.length];exact Nat.le_refl _⟩⟩
  obtain⟨u,hu,ru⟩:=aW e2.pr hp
  refine⟨⟨vs,u,hq,hu⟩,λx H' ⟨hH,hx⟩=>?_⟩
  subst hH
  have:vs[i]?=some x:=hx vs hq
  rw[hu] at this
  cases this
  exact⟨F2,ĥ,Same.refl _,Same.refl _,Rep.same sF p u ru⟩
 |tup ps=>
  have q':Rep (kk X cm) F1 (.tup ps) v:=q
  unfold Rep at q'
  obtain⟨a,vs,rfl,e1,e2⟩:=q'
  refine .inr (.inl ⟨a,rfl,⟨vs,Same.tup ć.sub e1⟩,h1 _ F1 H1 ć (Same.refl _) (Same.refl _) ?_⟩)
  intro c' i F2 H2 σ2 ρ2 ĥ sF _
  have hq:dh X.K H2 a vs:=Same.tup (sF.trans ĥ.sub) e1
  refine⟨λp hp=>?_,λhi=>⟨vs,hq,by rw[hi,e2.length];exact Nat.le_refl _⟩⟩
  obtain⟨u,hu,ru⟩:=aW e2.pr hp
  refine⟨⟨vs,u,hq,hu⟩,λx H' ⟨hH,hx⟩=>?_⟩
  subst hH
  have:vs[i]?=some x:=hx vs hq
  rw[hu] at this
  cases this
  exact⟨F2,ĥ,Same.refl _,Same.refl _,Rep.same sF p u ru⟩
 |str z=>
  have q':v=.str z:=by have q':Rep (kk X cm) F1 (.str z) v:=q;unfold Rep at q';exact q'
  subst q'
  refine .inr (.inr ⟨z,rfl,h1 _ F1 H1 ć (Same.refl _) (Same.refl _) ?_⟩)
  intro c' i F2 H2 σ2 ρ2 ĥ sF _
  refine⟨λp hp=>?_,λhi=>by rw[hi,List.length_map];show _=_;simp⟩
  rw[List.getElem?_map] at hp
  cases ez:z.cps.toList[i]? with
  |none=>rw[ez] at hp;cases hp
  |some cc=>
   rw[ez] at hp
   cases hp
   refine⟨by have:=(List.getElem?_eq_some_iff.mp ez).1;show i<z.cps.size;simpa using this,λx H' ⟨hH,c2,hc,hx⟩=>?_⟩
   subst hH hx
   rw[ez] at hc
   cases hc
   exact⟨F2,ĥ,Same.refl _,Same.refl _,Rep.str⟩
 |_=>exact h1.elim)
def Ň(i:Nat):M (List PV):=λρ=>match ρ[i]? with
 |some (.bw ps)=>.ok ps ρ
 |some (.sh (.lst ps))=>.ok ps ρ
 |some (.sh (.tup ps))=>.ok ps ρ
 |some (.sh (.str z))=>.ok (z.cps.toList.map λc=>.str ⟨#[c]⟩) ρ
 |some (.ow ps)=>.ok ps (ρ.set i (.sh (.lst ps)))
 |_=>.bad
def aG(i:Nat){x:Str}{px:Pos}(hN:X.N[i]?=some x:=by rfl)(hv:El X.env.scope x:=by first|exact Or.inl rfl|exact Or.inr (Or.inl rfl)|exact Or.inr (Or.inr rfl))(hd:(x== ("__debug__" :Str))=false:=by decide)
 (hcd:(x== ("__classdict__" :Str))=false:=by decide):PI X tg (.Name x px) (tI (kk X cm) E (Ň i)):=λpins s σ H R I h=>by
 obtain⟨c,F,ρ,rel,h⟩:=h
 cases e:ρ[i]? with
 |none=>unfold Ň at h;rw[e] at h;exact h.elim
 |some sl=>
  have KH:Ÿ (kk X cm) E (rIt (kk X cm)) c F H σ R (Ů (ė i) ρ)->wpAny (model X.prog X.w) X.A (eval (.Name x px) X.env) (λv s1=>wpAny (model X.prog X.w) X.A (pyIter v) (PIE X pins σ tg R) X.xe s1) X.xe s:=λh'=>
   gJ (v_var i hN hv hd hcd) pins s σ H R I ⟨c,F,ρ,rel,h'⟩
  unfold Ň at h
  rw[e] at h
  cases sl with
  |no=>exact h.elim
  |rc C ns ps=>exact h.elim
  |ot ps qs rs=>exact h.elim
  |ol qR=>exact h.elim
  |fr qR=>exact h.elim
  |bn qs rows=>exact h.elim
  |dw dz=>exact h.elim
  |ow ps=>exact KH (by unfold Ů ė;rw[e];exact h)
  |sh p=>
   cases p with
   |lst ps=>exact KH (by unfold Ů ė;rw[e];exact h)
   |tup ps=>exact KH (by unfold Ů ė;rw[e];exact h)
   |str z=>exact KH (by unfold Ů ė;rw[e];exact h)
   |_=>exact h.elim
  |bw ps=>
   obtain⟨a,vs,h1,h2,h3⟩:=rel.slot i _ e
   refine uN (gn hN hv hd hcd) pins s σ H R I ⟨.ref a,at_of h1,.inl ⟨a,rfl,⟨vs,ŝ.of (rel.lent a _ h2).1⟩,h _ F H rel (Same.refl _) (Same.refl _) ?_⟩⟩
   intro c' j F2 H2 σ2 ρ2 ĥ sF sL
   have hq:ŝ X.K H2 a vs:=ŝ.of (sL a _ h2)
   refine⟨λp hp=>?_,λhi=>⟨vs,hq,by rw[hi,h3.length];exact Nat.le_refl _⟩⟩
   obtain⟨u,hu,ru⟩:=aW h3.pr hp
   refine⟨⟨vs,u,hq,hu⟩,λx H' ⟨hH,hx⟩=>?_⟩
   subst hH
   have:vs[j]?=some x:=hx vs hq
   rw[hu] at this
   cases this
   exact⟨F2,ĥ,Same.refl _,Same.refl _,Rep.same sF p u ru⟩
def eV(lo:Int)(n:Nat)(c:Int):List PV:=(List.range n).map λ(i:Nat)=>.int (lo+i*c)
def jo(i:Int):Bool:=decide (i.natAbs<1152921504606846976)
def dO:List PV->Option (List PV)
 | [.int j]=>if jo j=true then some (eV 0 j.toNat 1) else none
 |_=>none
def wN:List PV->Option (List PV)
 | [.int i,.int j]=>if jo i=true/\jo j=true then some (eV i (j-i).toNat 1) else none
 |_=>none
def cD(f:List PV->Option (List PV))(mr:M (List PV)):M (List PV):=λρ=>(mr ρ).bind λps ρ1=>Res.mV (f ps) ρ1
def zG{lo c:Int}{n i:Nat}{p:PV}(h:(eV lo n c)[i]?=some p):i<n/\p=.int (lo+i*c):=by
 unfold eV at h
 by_cases hn:i<n
 ·rw[List.getElem?_map,List.getElem?_range hn] at h
  exact⟨hn,(Option.some.inj h).symm⟩
 ·rw[List.getElem?_eq_none (by simpa using hn)] at h
  cases h
def zH{lo c:Int}{n:Nat}:(eV lo n c).length=n:=by simp[eV]
def Gp{K:KK}{Lh F:Hp}(lo:Int)(n:Nat):zF K Lh F (X_ lo n) (eV lo n 1):=λc i F2 H σ ρ rel sF _=>
 ⟨fun p hp=>by
   obtain⟨h1,rfl⟩:=zG hp
   refine⟨h1,λx H' ⟨e1,e2⟩=>?_⟩
   subst e1 e2
   exact⟨F2,rel,Same.refl _,Same.refl _,by rw[Int.mul_one];exact Rep.int⟩,λhi=>by rw[zH] at hi;subst hi;exact Nat.le_refl _⟩
def lK{i:Int}(h:jo i=true): -(2 ^ 60)<=i/\i<2 ^ 60:=by
 unfold jo at h
 rw[decide_eq_true_eq] at h
 omega
variable{a b d:Expr}{p pos:Pos}{mr:M (List PV)}
def pK{K:KK}{F:Hp}{ps:List PV}{vs:List V}(h:Ĉ K F ps vs):(∀i r,ps=.int i::r->∃r',vs=.int i::r'/\Ĉ K F r r')/\(ps=[]->vs=[]):=by
 refine⟨λi r e=>?_,λe=>?_⟩
 ·subst e
  unfold Ĉ at h
  obtain⟨x,r',h1,h2,h3⟩:=h
  unfold Rep at h2
  exact⟨r',by rw[h1,h2],h3⟩
 ·subst e
  unfold Ĉ at h
  exact h
def cF(hg:Gl X "range")(hm:X.mg "range" =none)(ha:PA X [a] (tL (kk X cm) E mr))(hs:starEach [a] X.env=[(false,eval a X.env)]:=by exact Ŗ rfl):PI X tg (.Call (.Name "range" p) [a] [] pos) (tI (kk X cm) E (cD dO mr)):=
 λpins s σ H R I h=>CV hg hm ha hs pins s σ H R I (by
  obtain⟨c,F,ρ,rel,h⟩:=h
  refine⟨c,F,ρ,rel,h.bind λps ρ1 vs F1 H1 ć s1 s2 q h1=>?_⟩
  have q':Ĉ (kk X cm) F1 ps vs:=q
  unfold dO at h1
  split at h1
  ·rename_i j
   split at h1
   ·rename_i hj
    obtain⟨r',e1,e2⟩:=(pK q').1 _ _ rfl
    cases(pK e2).2 rfl
    obtain⟨k1,k2⟩:=lK hj
    exact⟨j,e1,by omega,by omega,h1 _ F1 H1 ć (Same.refl _) (Same.refl _) (Gp 0 j.toNat)⟩
   ·exact h1.elim
  ·exact h1.elim)
def Gq(hg:Gl X "range")(hm:X.mg "range" =none)(ha:PA X [a,b] (tL (kk X cm) E mr))(hs:starEach [a,b] X.env=[(false,eval a X.env),(false,eval b X.env)]:=by exact Ud rfl rfl)(hs2:starEach [b] X.env=[(false,eval b X.env)]:=by exact Ŗ rfl) :
 PI X tg (.Call (.Name "range" p) [a,b] [] pos) (tI (kk X cm) E (cD wN mr)):=
 λpins s σ H R I h=>CW hg hm ha hs hs2 pins s σ H R I (by
  obtain⟨c,F,ρ,rel,h⟩:=h
  refine⟨c,F,ρ,rel,h.bind λps ρ1 vs F1 H1 ć s1 s2 q h1=>?_⟩
  have q':Ĉ (kk X cm) F1 ps vs:=q
  unfold wN at h1
  split at h1
  ·rename_i i j
   split at h1
   ·rename_i hj
    obtain⟨r',e1,e2⟩:=(pK q').1 _ _ rfl
    obtain⟨r2,e3,e4⟩:=(pK e2).1 _ _ rfl
    cases(pK e4).2 rfl
    subst e3
    obtain⟨k1,k2⟩:=lK hj.1
    obtain⟨k3,k4⟩:=lK hj.2
    exact⟨i,j,e1,⟨by omega,by omega,by omega,by omega⟩,h1 _ F1 H1 ć (Same.refl _) (Same.refl _) (Gp i (j-i).toNat)⟩
   ·exact h1.elim
  ·exact h1.elim)
end
def zJ:Slot->Slot
 | .sh p=>.sh p
 | .ow ps=>.bw ps
 | .bw ps=>.bw ps
 |_=>.no
def jq(js:List Nat)(nl:Nat)(ρ:ħ):ħ:=js.map (λ(j:Nat)=>zJ ((ρ[j]?).getD .no))++List.replicate nl .no
def Ō(g:Tg)(mt:M Bool)(me:M PV):List PV->ħ->List PV->Option (List PV)
 | [],_,acc=>some acc
 |p::ps,ρ,acc=>match g p ρ with
  |none=>none
  |some ρ1=>match mt ρ1 with
   | .ok true ρ2=>match me ρ2 with
     | .ok q ρ3=>if acc.length<16777216 then Ō g mt me ps ρ3 (acc ++ [q]) else none
     |_=>none
   | .ok false ρ2=>Ō g mt me ps ρ2 acc
   |_=>none
def Œ(js:List Nat)(nl:Nat)(mi:M (List PV))(g:Tg)(mt:M Bool)(me:M PV):M RV:=λρ=>(mi ρ).bind λitems ρ1=>match Ō g mt me items (jq js nl ρ1) [] with
 |some ps=>.ok (.ow ps) ρ1
 |none=>.bad
abbrev EF:L2.St->XK:=λ_ _ _ _=>False
def Ķ:M Bool:=λρ=>.ok true ρ
section
variable{K:KK}{c:Ctx}{F H:Hp}{σ:L2.St}{ρ:ħ}
def rm(F H H1:Hp):Ctx:=⟨H1,F,(ctx0 F H).L,λ_ _ _=>True⟩
def Rel.cap(js:List Nat)(nl:Nat)(rel:Rel K c F H σ ρ){D:Addr}{o:HO}(hD:H D=none):Rel K (rm F H (upd H D o)) F (upd H D o) (fL js nl σ) (jq js nl ρ) where
 sub:=rel.sub.trans (Same.upd hD)
 base:=Same.refl _
 f0:=Same.refl _
 bM:=λ_ _ z=>z
 lent:=λa u e=>⟨Same.upd hD a u (ŗ e).1,(ŗ e).2⟩
 lb:=fun a e=>by
   cases q:(rm F H (upd H D o)).L a with
   |none=>rfl
   |some u=>
    have e':upd H D o a=none:=e
    rw[Same.upd hD a u (ŗ q).1] at e'
    cases e'
 len:=by simp[fL,jq]
 slot:= λi s e=>by
  unfold jq at e
  by_cases hi:i<js.length
  ·rw[List.getElem?_append_left (by simpa using hi),List.getElem?_map] at e
   cases ej:js[i]? with
   |none=>rw[ej] at e;cases e
   |some j=>
    rw[ej] at e
    have e':zJ ((ρ[j]?).getD .no)=s:=Option.some.inj e
    subst e'
    have hx:((fL js nl σ)[i]?).getD none=(σ[j]?).getD none:=by
     unfold fL
     rw[List.getElem?_append_left (by simpa using hi),List.getElem?_map,ej]
     rfl
    rw[hx]
    cases er:ρ[j]? with
    |none=>trivial
    |some sl=>
     have q:=rel.slot j sl er
     cases sl with
     |no=>trivial
     |sh p=>exact q
     |ow ps=>
      obtain⟨a,vs,h1,h2,h3,h4,h5⟩:=q
      refine⟨a,vs,h1,?_,h5⟩
      show(match F a with|none=>H a|some _=>none)=_
      rw[h3]
      exact h2
     |bw ps=>
      obtain⟨a,vs,h1,h2,h3⟩:=q
      obtain⟨l1,l2⟩:=rel.lent a _ h2
      refine⟨a,vs,h1,?_,h3⟩
      show(match F a with|none=>H a|some _=>none)=_
      rw[l2]
      exact l1
     |rc C ns ps=>trivial
     |ot ps qs rs=>trivial
     |ol qR=>trivial
     |fr qR=>trivial
     |bn qs rows=>trivial
     |dw dz=>trivial
  ·rw[List.getElem?_append_right (by simpa using hi),List.getElem?_replicate] at e
   split at e
   ·cases e;trivial
   ·cases e
 sep:=λi j a h1 _=>by
  exfalso
  obtain⟨s,y,h1,_,h2⟩:=h1
  have h2:=jl h2
  unfold jq at h1
  by_cases hi:i<js.length
  ·rw[List.getElem?_append_left (by simpa using hi),List.getElem?_map] at h1
   cases ej:js[i]? with
   |none=>rw[ej] at h1;cases h1
   |some j=>
    rw[ej] at h1
    have e':zJ ((ρ[j]?).getD .no)=s:=Option.some.inj h1
    subst e'
    cases q:(ρ[j]?).getD .no<;>rw[q] at h2<;>cases h2
  ·rw[List.getElem?_append_right (by simpa using hi),List.getElem?_replicate] at h1
   split at h1
   ·cases h1;cases h2
   ·cases h1
def Rel.rebase{H1 F1:Hp}{D:Addr}{ys zs:List V}(hD:H1 D=none)(hF:F1 D=none)(rel:Rel K (rm F1 H1 (upd H1 D (.lst ys))) F H σ ρ):Rel K (rm F1 H1 (upd H1 D (.lst zs))) F (upd H D (.lst zs)) σ ρ:= by
 have fD:F D=none:=rel.bM D (by show upd H1 D _ D≠none;rw[Ď];intro z;cases z) hF
 have lD:∀b u,(rm F1 H1 (upd H1 D (.lst ys))).L b=some u->b≠D:=λb u e z=>by
  have q:=(ŗ (F:=F1) (H:=H1) (a:=b) (u:=u) e).1
  rw[z,hD] at q
  cases q
 have ne:∀b,(rm F1 H1 (upd H1 D (.lst ys))).B b=none->b≠D:=λb z q=>by
  subst q
  have z':upd H1 b (.lst ys) b=none:=z
  rw[Ď] at z';cases z'
 have back:∀b,b≠D->(rm F1 H1 (upd H1 D (.lst ys))).B b=none->(rm F1 H1 (upd H1 D (.lst zs))).B b=none:=λb hb z=>by
  have z':upd H1 D (.lst ys) b=none:=z
  show upd H1 D (.lst zs) b=none
  rw[ĉ hb] at z' ⊢;exact z'
 refine⟨λb u e=>?_,λb u e=>?_,rel.f0,λb h1 h2=>?_,λb u e=>?_,λb e=>?_,rel.len,λi s e=>?_,rel.sep⟩
 ·have hb:b≠D:=λz=>by rw[z,fD] at e;cases e
  rw[ĉ hb];exact rel.sub b u e
 ·by_cases hb:b=D
  ·subst hb
   have e':upd H1 b (.lst zs) b=some u:=e
   rw[Ď] at e' ⊢;exact e'
  ·have e':upd H1 D (.lst zs) b=some u:=e
   rw[ĉ hb] at e' ⊢
   exact rel.base b u (by show upd H1 D _ b=some u;rw[ĉ hb];exact e')
 ·refine rel.bM b (λz=>h1 ?_) h2
  exact back b (ne b z) z
 ·rw[ĉ (lD b u e)]
  exact rel.lent b u e
 ·refine rel.lb b ?_
  have z':upd H1 D (.lst zs) b=none:=e
  have hb:b≠D:=λq=>by rw[q,Ď] at z';cases z'
  show upd H1 D (.lst ys) b=none
  rw[ĉ hb] at z' ⊢;exact z'
 ·have q:=rel.slot i s e
  cases s with
  |no=>trivial
  |sh p=>exact q
  |bw ps=>exact q
  |ow ps=>
   obtain⟨a,vs,q1,q2,q3,q4,q5⟩:=q
   have hb:=ne a q4
   exact⟨a,vs,q1,by rw[ĉ hb];exact q2,q3,back a hb q4,q5⟩
  |rc C ns ps=>
   obtain⟨a,dx,fs,q1,q2,q3,q4,q5⟩:=q
   have hb:=ne a q4
   exact⟨a,dx,fs,q1,by rw[ĉ hb];exact q2,q3,back a hb q4,q5⟩
  |ot ps qs rs=>
   obtain⟨p,a,xs,vs,ys,q1,q0,qx,q2,q3,q4,q5⟩:=q
   have hb:=ne a q4
   exact⟨p,a,xs,vs,ys,q1,q0,qx,by rw[ĉ hb];exact q2,q3,back a hb q4,q5⟩
  |ol qR=>
   obtain⟨p,as,q1,q0,qn,qp⟩:=q
   refine⟨p,as,q1,q0,qn,fM qp λa ps _ ⟨vs,q2,q3,q4,q5⟩=>?_⟩
   have hb:=ne a q4
   exact⟨vs,by rw[ĉ hb];exact q2,q3,back a hb q4,q5⟩
  |fr qR=>
   obtain⟨p,as,q1,q2,q3,q4,qn,qp⟩:=q
   have hb:=ne p q4
   exact⟨p,as,q1,by rw[ĉ hb];exact q2,q3,back p hb q4,qn,fM qp λa ps _ ⟨vs,k1,k2,k3⟩=>⟨vs,k1,back a (ne a k2) k2,k3⟩⟩
  |dw dz=>exact q
  |bn qs rows=>
   obtain⟨v,q1,a,b,ys,vs,h1,h2,h3,h4,h5⟩:=q
   exact⟨v,q1,a,b,ys,vs,h1,h2,back a (ne a h3) h3,back b (ne b h4) h4,h5⟩
end
section
variable{X:Cx}{cm:String->Addr}{E:L2.St->XK}{elt tg iter:Expr}{ifs:List Expr}{scope:Scope}{pos:Pos}{mi:M (List PV)}{g:Tg}{mt:M Bool}{me:M PV}
def Ł:Em X [] (tB (kk X cm) E Ķ):=λpins s σ H Q I h=>Bc pins s σ H Q I (by
 obtain⟨c,F,ρ,rel,h⟩:=h
 exact h true F H rel (Same.refl _) (Same.refl _) rfl)
def Gs(K:KK):RR (List PV) It:=λ_ _ _ F H items J=>zF K (ctx0 F H).L F J items
def Gu{K:KK}{c:Ctx}{F H:Hp}{σ:L2.St}{ρ:ħ}(rel:Rel K c F H σ ρ){b:Addr}{u:HO}(e:c.L b=some u):(ctx0 F H).L b=some u:=by
 obtain⟨l1,l2⟩:=rel.lent b u e
 show(match F b with|none=>H b|some _=>none)=some u
 rw[l2]
 exact l1
def Mx(h:PI X tg iter (tI (kk X cm) E mi)):PI X tg iter (tG (kk X cm) E (Gs (kk X cm)) mi):=λpins s σ H R I ⟨c,F,ρ,rel,q⟩=>h pins s σ H R I ⟨c,F,ρ,rel,Ÿ.bind (R':=Gs (kk X cm)) (f:=λp ρ=>.ok p ρ) (by revert q;cases mi ρ <;> exact id) λp ρ1 v F1 H1 ć s1 s2 q h1=>h1 v F1 H1 ć (Same.refl _) (Same.refl _) λc' i F2 H2 σ2 ρ2 ĥ sF sL=>q c' i F2 H2 σ2 ρ2 ĥ sF λb u e=>sL b u (Gu ć e)⟩
def wO{js:List Nat}{nl:Nat}{σ:L2.St}{H:Hp}{Q:VK}(h:tO (kk X cm) E (Œ js nl mi g mt me) σ H Q):pq js nl (tG (kk X cm) E (Gs (kk X cm)) mi) (tT (kk X cm) g) (tB (kk X cm) EF mt) (tV (kk X cm) EF me) σ H Q:=by
 obtain⟨c,F,ρ,rel,h⟩:=h
 refine⟨c,F,ρ,rel,h.bind λitems ρ1 J F1 H1 ć s1 s2 ito h1=>?_⟩
 intro D hD
 have hF:F1 D=none:=ć.sub.free hD
 cases ec:Ō g mt me items (jq js nl ρ1) [] with
 |none=>rw[ec] at h1;exact h1.elim
 |some res=>
  rw[ec] at h1
  refine⟨λi m σ' H'=>∃F' ρ' ys acc,i<=items.length/\m=items.length-i/\Rel (kk X cm) (rm F1 H1 (upd H1 D (.lst ys))) F' H' σ' ρ'/\Ĉ (kk X cm) F' acc ys/\Ō g mt me (items.drop i) ρ' acc=some res,
   ⟨_,F1,_,[],[],Nat.zero_le _,rfl,?_,Ĉ.nil,ec⟩,?_⟩
  ·exact ć.cap js nl hD
  ·rintro i m σ2 H2 ⟨F2,ρ2,ys,acc,hle,rfl,ĥ,ra,h2⟩
   have s12:Same F1 F2:=ĥ.f0
   obtain⟨go,stop⟩:=ito _ i F2 H2 σ2 ρ2 ĥ s12 λb u e=>(ĥ.lent b u e).1
   have hH2:H2 D=some (.lst ys):=ĥ.base D _ (show upd H1 D _ D=_ from Ď)
   have fD:F2 D=none:=ĥ.bM D (by show upd H1 D _ D≠none;rw[Ď];intro z;cases z) hF
   by_cases hlt:i<items.length
   ·obtain⟨g1,g2⟩:=go items[i] (List.getElem?_eq_getElem hlt)
    rw[List.drop_eq_getElem_cons hlt] at h2
    unfold Ō at h2
    refine .inr ⟨g1,_,λσ' H' z=>z,λx H3 hy=>?_⟩
    obtain⟨F3,bN,s3,sH3,rp⟩:=g2 x H3 hy
    refine⟨_,F3,ρ2,items[i],bN,rp,?_⟩
    cases eg:g items[i] ρ2 with
    |none=>rw[eg] at h2;cases h2
    |some ρ3=>
     rw[eg] at h2
     dsimp only at h2
     intro σ4 q_
     refine⟨_,F3,ρ3,q_,?_⟩
     cases em:mt ρ3 with
     |bad=>rw[em] at h2;cases h2
     |exc x ρ4=>rw[em] at h2;cases h2
     |ok b ρ4=>
      rw[em] at h2
      intro b' F5 H5 rz s5 s5' eb
      have eb':b=b':=eb
      subst eb'
      cases b with
      |false=>
       rw[if_neg Bool.false_ne_true]
       dsimp only at h2
       exact⟨items.length-(i+1),by omega,F5,ρ4,ys,acc,hlt,rfl,rz,Ĉ.same (s3.trans s5) acc ys ra,h2⟩
      |true=>
       rw[if_pos rfl]
       dsimp only at h2
       refine⟨_,F5,ρ4,rz,?_⟩
       cases ee:me ρ4 with
       |bad=>rw[ee] at h2;cases h2
       |exc x ρ5=>rw[ee] at h2;cases h2
       |ok q ρ5=>
        rw[ee] at h2
        dsimp only at h2
        intro y F6 H6 zK s6 s6' rq
        split at h2
        ·rename_i hz
         have YW:=Ĉ.same ((s3.trans s5).trans s6) acc ys ra
         refine⟨ys,zK.base D _ (show upd H1 D _ D=_ from Ď),by rw[<-YW.length,Ĝ];exact hz,?_⟩
         exact⟨items.length-(i+1),by omega,F6,ρ5,ys ++ [y],acc ++ [q],hlt,rfl,zK.rebase hD hF,Ĉ.append YW (Ĉ.cons rq Ĉ.nil),h2⟩
        ·cases h2
   ·have e:i=items.length:=by omega
    refine .inl ⟨stop e,?_⟩
    rw[List.drop_eq_nil_of_le (by omega)] at h2
    unfold Ō at h2
    cases h2
    have gr:Gr F1 H1 F2 H2:=⟨λb u e=>ĥ.base b u (by show upd H1 D _ b=_;rw[ĉ (ģ e hD)];exact e),s12,ĥ.sub,λb hb hf=>ĥ.bM b (by
     show upd H1 D _ b≠none
     by_cases hbD:b=D
     ·rw[hbD,Ď];intro z;cases z
     ·rw[ĉ hbD];exact hb) hf⟩
    have Ur:=ć.call gr
    exact h1 _ F2 H2 Ur s12 gr.h ⟨D,ys,rfl,hH2,fD,ć.base.free hD,ć.cB gr.f (ć.fresh hD),ra⟩
def KJ(N':List Str)(js:List Nat)(nl:Nat)(sc:Scope)(hsc:X.env.scope=sc)(hcalm:X.calm=true)
 (hi:PI X.ł tg iter (tG (kk X cm) E (Gs (kk X cm)) mi))(hg:∀cl C s H fp,PG (bW X.ł N' scope cl C s H fp) tg (tT (kk X cm) g))(ht:∀cl C s H fp,Em (bW X.ł N' scope cl C s H fp) ifs (tB (kk X cm) EF mt))(he:∀cl C s H fp,PE (bW X.ł N' scope cl C s H fp) elt (tV (kk X cm) EF me))
 (hcap:gA X.ł sc scope N' js)(hlen:js.length+nl=N'.length:=by rfl)
 (hk:scope.kind=.function:=by rfl)(hcell:∀y∈scope.names,y.2=.cell->scope.names.lookup y.1=some .cell:=by decide +kernel)(hnames:∀y∈scope.names,y.2=.local->scope.names.lookup y.1=some .local:=by decide +kernel)
 (hfree:∀y∈scope.names,y.2=.free->(sc.names.lookup y.1=some .cell\/sc.names.lookup y.1=some .free):=by decide +kernel)
 (hs:∀x,foldedSetIterable iter X.env x=pure x:=by intro _;rfl) :
 PE X (.ListComp elt [⟨tg,iter,ifs,0⟩] scope pos) (tO (kk X cm) E (Œ js nl mi g mt me)):=
 PE.wk (PE.ł (Bd N' js nl sc hsc hcalm hi hg ht he hcap hlen hk hcell hnames hfree hs)) λ_ _ _ h=>wO h
end
end P
namespace P
open PySem PySem.Spec PyProof.Rows L2 M2 M3 M4
abbrev bits(x:Int):Nat:=Builtin.Int.intBits x
section
variable{X:Cx}{cm:String->Addr}{K:KK}
def Mz(K:PySem.W.Frag):R2:=λx y H Q=>∃l b xs zs,x=.ref l/\y=.ref b/\ŝ K H l xs/\ŝ K H b zs/\xs.length+zs.length<=sizeLine/\∀p,H p=none->Q (.ref p) (upd H p (.lst (xs++zs)))
def KN:aC X (binaryOp .Add) (Mz X.K):=by
 intro pins s σ H x y v u Q I rx ry h
 obtain⟨l,b,xs,zs,rfl,rfl,hH,hB,hz,q⟩:=h
 cases rx
 cases ry
 obtain⟨its,r,pl,z⟩:=I.list hH
 obtain⟨its2,r2,pl2,z2⟩:=I.list hB
 obtain⟨⟨c1,d1,t1,sl1⟩,n,e,hc,hd,hs⟩:=pl
 obtain⟨⟨c2,d2,t2,sl2⟩,n2,e2,hc2,hd2,hs2⟩:=pl2
 simp only at hc hd hs hc2 hd2 hs2
 subst hc hd hs hc2 hd2 hs2
 have hl:=r.length
 have hl2:=r2.length
 have ea:its.toArray++its2.toArray=(its++its2).toArray:=by simp
 refine concat_meets ⟨_,e,rfl⟩ ⟨_,e2,rfl⟩ noFill_list_add seq_list_add PySem.F.slot_list_add PySem.F.entry_list_add (PySem.F.args_list_add_2 _ _) (list_addW l b its.toArray its2.toArray n n2 none none sl1 sl2 (by simp only[List.size_toArray];omega)) ⟨e,e2,?_⟩
 rw[ea]
 exact⟨.ref _,_,I.Zcw (t':=s.toks) (r.append r2) (by rw[List.length_append];omega),rfl,q _ I.fresh⟩
def MJ(K:PySem.W.Frag):R2:=λx y H Q=>∃l b xs zs,x=.ref l/\y=.ref b/\dh K H l xs/\dh K H b zs/\xs≠[]/\zs≠[]/\xs.length+zs.length<=sizeLine/\∀p,H p=none->Q (.ref p) (upd H p (.tup (xs++zs)))
def KQ:aC X (binaryOp .Add) (MJ X.K):=by
 intro pins s σ H x y v u Q I rx ry h
 obtain⟨l,b,xs,zs,rfl,rfl,hH,hB,nx,nz,hz,q⟩:=h
 cases rx
 cases ry
 obtain⟨its,r,pl,z⟩:=I.tuple hH
 obtain⟨its2,r2,pl2,z2⟩:=I.tuple hB
 obtain⟨⟨c1,d1,t1,sl1⟩,e,hc,n,hd⟩:=pl
 obtain⟨⟨c2,d2,t2,sl2⟩,e2,hc2,n2,hd2⟩:=pl2
 simp only at hc hd hc2 hd2
 subst hc hd hc2 hd2
 have hl:=r.length
 have hl2:=r2.length
 have ne1:its≠[]:=λz=>by rw[z] at hl;exact nx (List.length_eq_zero_iff.mp hl)
 have ne2:its2≠[]:=λz=>by rw[z] at hl2;exact nz (List.length_eq_zero_iff.mp hl2)
 have ea:its.toArray++its2.toArray=(its++its2).toArray:=by simp
 refine concat_meets ⟨_,e,rfl⟩ ⟨_,e2,rfl⟩ noFill_tuple_add seq_tuple_add PySem.F.slot_tuple_add PySem.F.entry_tuple_add (PySem.F.args_tuple_add_2 _ _) (tuple_addW2 l b its.toArray its2.toArray n n2 d1 d2 sl1 sl2 (by simpa using ne1) (by simpa using ne2) (by simp only[List.size_toArray];omega)) ⟨e,e2,?_⟩
 rw[ea]
 exact⟨.ref _,_,I.laid (o:=.tup (xs++zs)) (t':=s.toks) (λ_ _ q=>Heap.get?_push_of_some _ q) (Nat.le_refl _) ⟨by rw[List.length_append];omega,(its++its2),r.append r2,⟨_,Heap.get?_push_size _ rfl,rfl,_,rfl⟩⟩,rfl,q _ I.fresh⟩
def ě:PV->PV->Option RV
 | .int i,.int j=>some (.sh (.int (i+j)))
 | .str i,.str j=>if i.length+j.length<=16777216 then some (.sh (.str (i++j))) else none
 | .lst ps,.lst qs=>if ps.length+qs.length<=16777216 then some (.ow (ps++qs)) else none
 | .tup (p::ps),.tup (q::qs)=>if(p::ps).length+(q::qs).length<=16777216 then some (.sh (.tup ((p::ps)++(q::qs)))) else none
 |_,_=>none
def MK(K:PySem.W.Frag):R2:=λx y H Q=>Yv x y H Q\/(Mz K x y H Q\/MJ K x y H Q)
def Us:aC X (binaryOp .Add) (MK X.K):=Tr.or (KN.or KQ)
def Ut:OpO K (MK K.K) ě:=by
 intro c F H σ ρ p q pv v u Q rel r1 r2 e k
 unfold ě at e
 split at e
 ·cases e
  cases r1.int
  cases r2.int
  exact .inl (k _ F H rel (Same.refl _) (Same.refl _) (Rep.int (K:=K) (F:=F)))
 ·split at e
  ·rename_i hz
   cases e
   cases r1.str
   cases r2.str
   exact .inl ⟨by rw[Ĝ];exact hz,k _ F H rel (Same.refl _) (Same.refl _) (Rep.str (K:=K) (F:=F))⟩
  ·cases e
 ·split at e
  ·rename_i hz
   cases e
   obtain⟨a,xs,rfl,h1,h2⟩:=r1.lst rel.sub
   obtain⟨b,ys,rfl,h3,h4⟩:=r2.lst rel.sub
   refine .inr (.inl ⟨a,b,xs,ys,rfl,rfl,h1,h3,by rw[<-h2.length,<-h4.length,Ĝ];exact hz,λd hd=>?_⟩)
   obtain⟨q1,q2⟩:=dM rel hd (Ĉ.append h2 h4)
   exact k _ F _ q1 (Same.refl _) (Same.upd hd) q2
  ·cases e
 ·split at e
  ·rename_i hz
   cases e
   obtain⟨a,xs,rfl,h1,h2⟩:=r1.tup rel.sub
   obtain⟨b,ys,rfl,h3,h4⟩:=r2.tup rel.sub
   have l1:=h2.length
   have l2:=h4.length
   refine .inr (.inr ⟨a,b,xs,ys,rfl,rfl,h1,h3,(λz=>by rw[z] at l1;cases l1),(λz=>by rw[z] at l2;cases l2),by rw[<-l1,<-l2,Ĝ];exact hz,λl hl=>k _ _ _ (rel.alloc hl) (Same.upd (rel.sub.free hl)) (Same.upd hl) ?_⟩)
   show Rep K _ _ _
   unfold Rep
   exact⟨l,xs++ys,rfl,dh.of Ď,Ĉ.same (Same.upd (rel.sub.free hl)) _ _ (Ĉ.append h2 h4)⟩
  ·cases e
 ·cases e
def C_(g:Int->Int->Int):PV->PV->Option PV
 | .int i,.int j=>some (.int (g i j))
 |_,_=>none
def Jy(C:Int->Int->Bool)(g:Int->Int->Int):PV->PV->Option PV
 | .int i,.int j=>if C i j=true then some (.int (g i j)) else none
 |_,_=>none
def YX(g:Int->Int->Bool):PV->PV->Option PV
 | .int i,.int j=>some (.bl (g i j))
 |_,_=>none
def YZ{g:Int->Int->Int}:kO K (FJ λi j=>.int (g i j)) (C_ g):=by
 intro c F H σ ρ p q pv v u Q rel r1 r2 e k
 unfold C_ at e
 split at e
 ·cases e
  cases r1.int
  cases r2.int
  exact k _ F H rel (Same.refl _) (Same.refl _) Rep.int
 ·cases e
def Uu{g:Int->Int->Bool}:kO K (FJ λi j=>.bl (g i j)) (YX g):=by
 intro c F H σ ρ p q pv v u Q rel r1 r2 e k
 unfold YX at e
 split at e
 ·cases e
  cases r1.int
  cases r2.int
  exact k _ F H rel (Same.refl _) (Same.refl _) Rep.bl
 ·cases e
def Uv{C:Int->Int->Bool}{C':Int->Int->Prop}{g:Int->Int->Int}(hC:∀i j,C i j=true->C' i j):kO K (mI C' λi j=>.int (g i j)) (Jy C g):=by
 intro c F H σ ρ p q pv v u Q rel r1 r2 e k
 unfold Jy at e
 split at e
 ·split at e
  ·rename_i hc
   cases e
   cases r1.int
   cases r2.int
   exact⟨hC _ _ hc,k _ F H rel (Same.refl _) (Same.refl _) Rep.int⟩
  ·cases e
 ·cases e
def aQ:=C_ λi j=>i-j
def Uw:kO K (FJ λi j=>.int (i-j)) aQ:=YZ
def pL(_ j:Int):Bool:=decide (j≠0) && decide (bits j<=8000)
def aq:=Jy pL λi j=>i.fdiv j
def Ux:kO K (mI Dk λi j=>.int (i.fdiv j)) aq:=Uv λi j h=>by unfold pL at h;simpa[Dk] using h
def Bp(_ j:Int):Bool:=decide (j≠0)
def Ġ:=Jy Bp λi j=>i.fmod j
def Uy:kO K (mI (λ_ j=>j≠0) λi j=>.int (i.fmod j)) Ġ:=Uv λi j h=>by unfold Bp at h;simpa using h
def wQ(i j:Int):Bool:=decide (0<=j) && decide (j.natAbs<=1000000) && decide (i.natAbs<18446744073709551616)
def iM:=Jy wQ λi j=>i ^ j.toNat
def lM:kO K (mI Sh λi j=>.int (i ^ j.toNat)) iM:=Uv λi j h=>by
 unfold wQ at h
 simp only[Bool.and_eq_true,decide_eq_true_eq] at h
 exact⟨h.1.1,by omega,by have:=h.2;simpa using this⟩
def Ds:=YX λi j=>decide (i<j)
def fZ:=YX λi j=>decide (i<=j)
def KR:=YX λi j=>decide (j<i)
def Bq:kO K (FJ λi j=>.bl (decide (i<j))) Ds:=Uu
def bU:kO K (FJ λi j=>.bl (decide (i<=j))) fZ:=Uu
def MN:kO K (FJ λi j=>.bl (decide (j<i))) KR:=Uu
def Ť(i j:Int):Bool:=decide (i.natAbs<18446744073709551616) || decide (j.natAbs<18446744073709551616) || (decide (bits i<=1048576) && decide (bits j<=1048576))
def Gv{i j:Int}(h:Ť i j=true):sy i j:=by
 unfold Ť at h
 simp only[Bool.or_eq_true,Bool.and_eq_true,decide_eq_true_eq] at h
 rcases h with(h|h)|h
 ·exact .inl (.inl ⟨by omega,by omega⟩)
 ·exact .inl (.inr ⟨by omega,by omega⟩)
 ·exact .inr h
def Ĺ:PV->PV->Option PV
 | .int i,.int j=>if Ť i j=true then some (.int (i*j)) else none
 | .str z,.int n=>if 0<=n/\n<=1000/\z.length<=1000 then some (.str (S (List.replicate n.toNat z.cps.toList).flatten)) else none
 |_,_=>none
def Uz:kO K Ge Ĺ:=by
 intro c F H σ ρ p q pv v u Q rel r1 r2 e k
 unfold Ĺ at e
 split at e
 ·split at e
  ·rename_i hc
   cases e
   cases r1.int
   cases r2.int
   exact⟨Gv hc,k _ F H rel (Same.refl _) (Same.refl _) Rep.int⟩
  ·cases e
 ·split at e
  ·rename_i hc
   cases e
   cases r1.str
   cases r2.int
   exact⟨hc,k _ F H rel (Same.refl _) (Same.refl _) Rep.str⟩
  ·cases e
 ·cases e
variable{E:L2.St->XK}{a b e:Expr}{es:List Expr}{pos:Pos}{ma mb:M PV}{mr:M (List PV)}
def Br:PV->Option PV
 | .int i=>some (.int (-i))
 |_=>none
def UG:UnV K (mU λi=>.int (-i)) Br:=by
 intro c F H σ ρ p pv v Q rel r1 e k
 unfold Br at e
 split at e
 ·cases e
  cases r1.int
  exact k _ F H rel (Same.refl _) (Same.refl _) Rep.int
 ·cases e
mutual
def eqB:PV->PV->Bool
 | .non,.non=>true
 | .bl a,.bl b=>a== b
 | .bl a,.int j=>(if a then 1 else 0)== j
 | .int i,.bl b=>i== (if b then 1 else 0)
 | .int i,.int j=>i== j
 | .str x,.str y=>x== y
 | .lst xs,.lst ys=>lN xs ys
 | .tup xs,.tup ys=>lN xs ys
 |_,_=>false
def lN:List PV->List PV->Bool
 | [],[]=>true
 |x::xs,y::ys=>eqB x y && lN xs ys
 |_,_=>false
end
mutual
def ň:PV->Bool
 | .non| .bl _| .int _=>true
 | .str x=>PyData.strOk x
 | .lst xs=>ų xs
 | .tup xs=>ų xs
 |_=>false
def ų:List PV->Bool
 | []=>true
 |x::xs=>ň x && ų xs
end
mutual
def dep:PV->Nat
 | .lst xs=>dB xs+1
 | .tup xs=>dB xs+1
 |_=>0
def dB:List PV->Nat
 | []=>0
 |x::xs=>max (dep x) (dB xs)
end
mutual
def toD:PV->PyData
 | .non=>.none
 | .bl b=>.bool b
 | .int i=>.int i
 | .str x=>.str x
 | .lst xs=>.list (dR xs)
 | .tup xs=>.tuple (dR xs)
 |_=>.none
def dR:List PV->List PyData
 | []=>[]
 |x::xs=>toD x::dR xs
end
mutual
theorem eX:∀p:PV,ň p=true->(toD p).canLay0=true
 | .non,_=>rfl
 | .bl _,_=>rfl
 | .int _,_=>rfl
 | .str x,h=>by unfold ň at h;unfold toD PyData.canLay0;exact h
 | .lst xs,h=>by unfold ň at h;unfold toD PyData.canLay0;exact gK xs h
 | .tup xs,h=>by unfold ň at h;unfold toD PyData.canLay0;exact gK xs h
 | .ins _ _ _,h=>by simp[ň] at h
 | .xc _ _ _,h=>by simp[ň] at h
 | .ty _,h=>by simp[ň] at h
 | .cls _,h=>by simp[ň] at h
theorem gK:∀ps:List PV,ų ps=true->PyData.canLayAll0 (dR ps)=true
 | [],_=>rfl
 |p::ps,h=>by
  unfold ų at h
  rw[Bool.and_eq_true] at h
  unfold dR PyData.canLayAll0
  rw[eX p h.1,gK ps h.2]
  rfl
end
mutual
theorem eY:∀p:PV,(toD p).depth=dep p
 | .non=>rfl
 | .bl _=>rfl
 | .int _=>rfl
 | .str x=>rfl
 | .lst xs=>by unfold toD PyData.depth dep;rw[pN xs]
 | .tup xs=>by unfold toD PyData.depth dep;rw[pN xs]
 | .ins _ _ _=>rfl
 | .xc _ _ _=>rfl
 | .ty _=>rfl
 | .cls _=>rfl
theorem pN:∀ps:List PV,PyData.depthAll (dR ps)=dB ps
 | []=>rfl
 |p::ps=>by unfold dR PyData.depthAll dB;rw[eY p,pN ps]
end
mutual
theorem uO:∀p q:PV,ň p=true->ň q=true->PyData.eqv (toD p) (toD q)=eqB p q
 | .lst xs,.lst ys,h1,h2=>by
   unfold ň at h1 h2
   unfold toD eqB PyData.eqv
   exact uP xs ys h1 h2
 | .tup xs,.tup ys,h1,h2=>by
   unfold ň at h1 h2
   unfold toD eqB PyData.eqv
   exact uP xs ys h1 h2
 | .ins _ _ _,_,h,_=>by simp[ň] at h
 | .xc _ _ _,_,h,_=>by simp[ň] at h
 | .ty _,_,h,_=>by simp[ň] at h
 | .cls _,_,h,_=>by simp[ň] at h
 | .non,q,_,h=>by cases q<;>first|rfl|(simp[ň] at h)|(simp[toD,eqB,PyData.eqv])
 | .bl _,q,_,h=>by cases q<;>first|rfl|(simp[ň] at h)|(simp[toD,eqB,PyData.eqv])
 | .int _,q,_,h=>by cases q<;>first|rfl|(simp[ň] at h)|(simp[toD,eqB,PyData.eqv])
 | .str _,q,_,h=>by cases q<;>first|rfl|(simp[ň] at h;done)|(simp[toD,eqB,PyData.eqv])
 | .lst _,.non,_,_=>by simp[toD,eqB,PyData.eqv]
 | .lst _,.bl _,_,_=>by simp[toD,eqB,PyData.eqv]
 | .lst _,.int _,_,_=>by simp[toD,eqB,PyData.eqv]
 | .lst _,.str _,_,_=>by simp[toD,eqB,PyData.eqv]
 | .lst _,.tup _,_,_=>by simp[toD,eqB,PyData.eqv]
 | .lst _,.ins _ _ _,_,h=>by simp[ň] at h
 | .lst _,.xc _ _ _,_,h=>by simp[ň] at h
 | .lst _,.ty _,_,h=>by simp[ň] at h
 | .lst _,.cls _,_,h=>by simp[ň] at h
 | .tup _,.non,_,_=>by simp[toD,eqB,PyData.eqv]
 | .tup _,.bl _,_,_=>by simp[toD,eqB,PyData.eqv]
 | .tup _,.int _,_,_=>by simp[toD,eqB,PyData.eqv]
 | .tup _,.str _,_,_=>by simp[toD,eqB,PyData.eqv]
 | .tup _,.lst _,_,_=>by simp[toD,eqB,PyData.eqv]
 | .tup _,.ins _ _ _,_,h=>by simp[ň] at h
 | .tup _,.xc _ _ _,_,h=>by simp[ň] at h
 | .tup _,.ty _,_,h=>by simp[ň] at h
 | .tup _,.cls _,_,h=>by simp[ň] at h
theorem uP:∀ps qs:List PV,ų ps=true->ų qs=true->PyData.eqvAll (dR ps) (dR qs)=lN ps qs
 | [],[],_,_=>by simp[dR,lN,PyData.eqvAll]
 | [],_::_,_,_=>by simp[dR,lN,PyData.eqvAll]
 |_::_,[],_,_=>by simp[dR,lN,PyData.eqvAll]
 |p::ps,q::qs,h1,h2=>by
  unfold ų at h1 h2
  rw[Bool.and_eq_true] at h1 h2
  unfold dR lN PyData.eqvAll
  rw[uO p q h1.1 h2.1,uP ps qs h1.2 h2.2]
end
mutual
theorem Gw{F:Hp}:∀(p:PV) (v:V),ň p=true->Rep K F p v->Rp K.K F (toD p) v
 | .non,_,_,r=>by unfold Rep at r;unfold toD Rp;exact r
 | .bl _,_,_,r=>by unfold Rep at r;unfold toD Rp;exact r
 | .int _,_,_,r=>by unfold Rep at r;unfold toD Rp;exact r
 | .str _,_,_,r=>by unfold Rep at r;unfold toD Rp;exact r
 | .lst xs,_,h,r=>by
   unfold ň at h
   unfold Rep at r
   unfold toD Rp
   obtain⟨a,vs,h1,h2,h3⟩:=r
   exact⟨a,vs,h1,h2,gZ xs vs h h3⟩
 | .tup xs,_,h,r=>by
   unfold ň at h
   unfold Rep at r
   unfold toD Rp
   obtain⟨a,vs,h1,h2,h3⟩:=r
   exact⟨a,vs,h1,h2,gZ xs vs h h3⟩
 | .ins _ _ _,_,h,_=>by simp[ň] at h
 | .xc _ _ _,_,h,_=>by simp[ň] at h
 | .ty _,_,h,_=>by simp[ň] at h
 | .cls _,_,h,_=>by simp[ň] at h
theorem gZ{F:Hp}:∀(ps:List PV) (vs:List V),ų ps=true->Ĉ K F ps vs->lF K.K F (dR ps) vs
 | [],_,_,r=>by unfold Ĉ at r;unfold dR lF;exact r
 |p::ps,_,h,r=>by
  unfold ų at h
  rw[Bool.and_eq_true] at h
  unfold Ĉ at r
  unfold dR lF
  obtain⟨x,t,h1,h2,h3⟩:=r
  exact⟨x,t,h1,Gw p x h.1 h2,gZ ps t h.2 h3⟩
end
def g_{c:Ctx}{F H:Hp}{σ:L2.St}{ρ:ħ}{p:PV}{v:V}(s:Same F H)(h:ň p=true)(r:rR K c σ ρ F H p v):Rp K.K H (toD p) v:=by
 rcases r with r|r
 ·exact Rp.same s _ _ (Gw p v h r)
 ·cases p with
  |lst ps=>
   obtain⟨a,vs,rfl,h3,h4⟩:=r
   unfold ň at h
   unfold toD Rp
   exact⟨a,vs,rfl,ŝ.of h3,lF.same s _ _ (gZ ps vs h h4)⟩
  |ins C ns ps=>simp[ň] at h
  |_=>exact r.elim
def nR(p q:PV):Bool:=ň p && ň q && decide (min (dep p) (dep q)<=60)
def ķ(p q:PV):Option PV:=if nR p q=true then some (.bl (eqB p q)) else none
def ž(p q:PV):Option PV:=if nR p q=true then some (.bl (!eqB p q)) else none
def MP:kO K (Kl K.K false) ķ:=by
 intro c F H σ ρ p q pv v u Q rel r1 r2 e k
 unfold ķ at e
 split at e
 ·rename_i hz
  cases e
  unfold nR at hz
  simp only[Bool.and_eq_true,decide_eq_true_eq] at hz
  refine⟨toD p,toD q,g_ rel.sub hz.1.1 r1,g_ rel.sub hz.1.2 r2,eX p hz.1.1,eX q hz.1.2,by rw[eY,eY];exact hz.2,?_⟩
  rw[uO p q hz.1.1 hz.1.2]
  exact k _ F H rel (Same.refl _) (Same.refl _) Rep.bl
 ·cases e
def M_:kO K (Kl K.K true) ž:=by
 intro c F H σ ρ p q pv v u Q rel r1 r2 e k
 unfold ž at e
 split at e
 ·rename_i hz
  cases e
  unfold nR at hz
  simp only[Bool.and_eq_true,decide_eq_true_eq] at hz
  refine⟨toD p,toD q,g_ rel.sub hz.1.1 r1,g_ rel.sub hz.1.2 r2,eX p hz.1.1,eX q hz.1.2,by rw[eY,eY];exact hz.2,?_⟩
  rw[uO p q hz.1.1 hz.1.2]
  exact k _ F H rel (Same.refl _) (Same.refl _) Rep.bl
 ·cases e
def JC:PV->Bool
 | .non=>true
 |_=>false
def uQ(p q:PV):Option PV:=match q with
 | .non=>some (.bl (JC p))
 |_=>none
def KY{c:Ctx}{F H:Hp}{σ:L2.St}{ρ:ħ}{p:PV}{v:V}(r:rR K c σ ρ F H p v):decide (v=.non)=JC p:=by
 rcases r with r|r
 ·cases p<;>unfold Rep at r<;>first
   |(subst r;rfl)
   |(obtain⟨a,xs,rfl,_⟩:=r;rfl)
   |(obtain⟨a,xs,ys,rfl,_⟩:=r;rfl)
 ·cases p with
  |lst ps=>obtain⟨a,vs,rfl,_⟩:=r;rfl
  |ins C ns ps=>obtain⟨a,dx,fs,rfl,_⟩:=r;rfl
  |_=>exact r.elim
def Bs:kO K (λx y H Q=>y=.non/\Q (.bl (decide (x=.non))) H) uQ:=by
 intro c F H σ ρ p q pv v u Q rel r1 r2 e k
 unfold uQ at e
 split at e
 ·cases e
  refine⟨r2.non,?_⟩
  rw[KY r1]
  exact k _ F H rel (Same.refl _) (Same.refl _) Rep.bl
 ·cases e
def Ğ:PV->PV->Option PV
 | .lst ps,.int i=>nM ps i
 | .tup ps,.int i=>nM ps i
 | .str z,.int i=>if z.length<=16777216 then(nM z.cps.toList i).map λc=>.str ⟨#[c]⟩ else none
 |_,_=>none
def Bt{F:Hp}{ps:List PV}{vs:List V}{i:Int}{p:PV}(r:Ĉ K F ps vs)(h:nM ps i=some p):∃v,nM vs i=some v/\Rep K F p v:=by
 unfold nM at h ⊢
 rw[r.length] at h
 cases e:yJ vs.length i with
 |none=>rw[e] at h;cases h
 |some j=>
  rw[e] at h
  obtain⟨v,h1,h2⟩:=aW r.pr h
  exact⟨v,h1,h2⟩
def Y_:kO K (mIx K.K) Ğ:=by
 intro c F H σ ρ p q pv v u Q rel r1 r2 e k
 unfold Ğ at e
 split at e
 ·obtain⟨a,vs,rfl,h1,h2⟩:=r1.lst rel.sub
  cases r2.int
  obtain⟨x,h3,h4⟩:=Bt h2 e
  exact⟨vs,x,.inl h1,h3,k _ F H rel (Same.refl _) (Same.refl _) h4⟩
 ·obtain⟨a,vs,rfl,h1,h2⟩:=r1.tup rel.sub
  cases r2.int
  obtain⟨x,h3,h4⟩:=Bt h2 e
  exact⟨vs,x,.inr h1,h3,k _ F H rel (Same.refl _) (Same.refl _) h4⟩
 ·split at e
  ·rename_i z i hz
   cases r1.str
   cases r2.int
   cases ea:nM z.cps.toList i with
   |none=>rw[ea] at e;cases e
   |some cc=>
    rw[ea] at e
    cases e
    exact⟨cc,by rw[Ĝ];exact hz,ea,k _ F H rel (Same.refl _) (Same.refl _) Rep.str⟩
  ·cases e
 ·cases e
def cG:M (Option Int):=λρ=>.ok none ρ
def mP(m:M PV):M (Option Int):=λρ=>(m ρ).bind λp ρ1=>match p with
 | .int i=>.ok (some i) ρ1
 |_=>.bad
abbrev tP(K:KK)(E:L2.St->XK)(m:M (Option Int)):TO:=tG K E rI m
def aH:PO X none (tP (kk X cm) E cG):=λpins s σ H Q I h=>Ka pins s σ H Q I (by
 obtain⟨c,F,ρ,rel,h⟩:=h
 exact h none F H rel (Same.refl _) (Same.refl _) rfl)
def ŉ(ha:PE X e (tV (kk X cm) E ma)):PO X (some e) (tP (kk X cm) E (mP ma)):=λpins s σ H Q I h=>FN ha pins s σ H Q I (by
 obtain⟨c,F,ρ,rel,h⟩:=h
 refine⟨c,F,ρ,rel,h.bind λp ρ1 v F1 H1 ć _ _ r1 h1=>?_⟩
 cases p with
 |int i=>
  have e:v=.int i:=by have r1':Rep (kk X cm) F1 (.int i) v:=r1;unfold Rep at r1';exact r1'
  subst e
  exact h1 (some i) F1 H1 ć (Same.refl _) (Same.refl _) rfl
 |_=>exact h1.elim)
def aX{α:Type}(xs:List α)(lo hi:Option Int):List α:= (xs.drop (HT.dX xs.length 0 lo)).take (HT.dX xs.length xs.length hi-HT.dX xs.length 0 lo)
def Xq(p:PV)(lo hi:Option Int):Option RV:=match p with
 | .lst ps=>some (.ow (aX ps lo hi))
 | .str z=>if z.length<=16777216 then some (.sh (.str (S (aX z.cps.toList lo hi)))) else none
 |_=>none
def lO(ma:M PV)(ml mh:M (Option Int)):M RV:=λρ=>(ma ρ).bind λp ρ1=>(ml ρ1).bind λlo ρ2=>(mh ρ2).bind λhi ρ3=>Res.mV (Xq p lo hi) ρ3
def Ń{ml mh:M (Option Int)}{lo hi:Option Expr}{p2:Pos}(ha:PE X a (tR (kk X cm) E ma))(hl:PO X lo (tP (kk X cm) E ml))(hh:PO X hi (tP (kk X cm) E mh)):PE X (.Subscript a (.Slice lo hi none p2) pos) (tO (kk X cm) E (lO ma ml mh)):=
 PE.wk (Fp slm ha hl hh) fun σ H Q ⟨c,F,ρ,rel,h⟩=>⟨c,F,ρ,rel,h.bind fun p ρ1 v F1 H1 ć _ _ r1 h1=>⟨c,F1,ρ1,ć,h1.bind fun lo ρ2 lo' F2 H2 ĥ sF sH r2 h2=>⟨c,F2,ρ2,ĥ,h2.bind fun hi ρ3 hi' F3 H3 bN sF3 sH3 r3 h3=>by
   have e2:lo=lo':=r2
   have e3:hi=hi':=r3
   subst e2 e3
   have r1':rR (kk X cm) c σ ρ3 F3 H3 p v:=r1.mono (sF.trans sF3) (sH.trans sH3)
   cases p with
   |lst ps=>
    obtain⟨a,vs,rfl,q1,q2⟩:=r1'.lst bN.sub
    refine⟨vs,q1,λd hd=>?_⟩
    have e:Ĉ (kk X cm) F3 (aX ps lo hi) (wH vs lo hi):=by
     unfold aX wH
     rw[q2.length]
     exact Ĉ.of (Bg _ (Bh _ q2.pr))
    obtain⟨z1,z2⟩:=dM bN hd e
    exact h3 _ F3 _ z1 (Same.refl _) (Same.upd hd) z2
   |str z=>
    cases r1'.str
    unfold Xq at h3
    dsimp only at h3
    split at h3
    ·rename_i hz
     exact⟨by rw[Ĝ];exact hz,h3 _ F3 H3 bN (Same.refl _) (Same.refl _) (Rep.str (K:=kk X cm) (F:=F3))⟩
    ·exact h3.elim
   |_=>exact h3.elim⟩⟩⟩
def wR{c:Ctx}{F H:Hp}{σ:L2.St}{ρ:ħ}{p:PV}{vs:List V}(h:Ui K c σ ρ F H [p] vs):∃v,vs=[v]/\rR K c σ ρ F H p v:=by
 cases h with
 |cons r t=>cases t;exact⟨_,rfl,r⟩
def rl2{c:Ctx}{F H:Hp}{σ:L2.St}{ρ:ħ}{p q:PV}{vs:List V}(h:Ui K c σ ρ F H [p,q] vs):∃v u,vs=[v,u]/\rR K c σ ρ F H p v/\rR K c σ ρ F H q u:=by
 cases h with
 |cons r t=>
  cases t with
  |cons r' t=>cases t;exact⟨_,_,rfl,r,r'⟩
def eZ:List PV->Option PV
 | [.lst ps]=>some (.int ps.length)
 | [.tup ps]=>some (.int ps.length)
 | [.str z]=>if z.length<=16777216 then some (.int z.length) else none
 |_=>none
def aJ:dN K (TF K.K) eZ:=by
 intro c F H σ ρ ps pv vs Q rel r e k
 unfold eZ at e
 split at e
 ·cases e
  obtain⟨v,rfl,r1⟩:=wR r
  obtain⟨a,xs,rfl,h1,h2⟩:=r1.lst rel.sub
  refine⟨xs,.inl h1,?_⟩
  rw[<-h2.length]
  exact k _ F H rel (Same.refl _) (Same.refl _) Rep.int
 ·cases e
  obtain⟨v,rfl,r1⟩:=wR r
  obtain⟨a,xs,rfl,h1,h2⟩:=r1.tup rel.sub
  refine⟨xs,.inr h1,?_⟩
  rw[<-h2.length]
  exact k _ F H rel (Same.refl _) (Same.refl _) Rep.int
 ·split at e
  ·rename_i hz
   cases e
   obtain⟨v,rfl,r1⟩:=wR r
   cases r1.str
   exact⟨by rw[Ĝ];exact hz,k _ F H rel (Same.refl _) (Same.refl _) Rep.int⟩
  ·cases e
 ·cases e
def zL:List PV->Option PV
 | [.int i]=>some (.int (if i<0 then -i else i))
 |_=>none
def uR:dN K mAbs zL:=by
 intro c F H σ ρ ps pv vs Q rel r e k
 unfold zL at e
 split at e
 ·cases e
  obtain⟨v,rfl,r1⟩:=wR r
  cases r1.int
  exact k _ F H rel (Same.refl _) (Same.refl _) Rep.int
 ·cases e
def cU:List PV->Option RV
 | [.lst ps]=>some (.ow ps)
 | [.tup ps]=>some (.ow ps)
 |_=>none
def uT(K:PySem.W.Frag):List V->Hp->VK->Prop:=λxs H Q=>∃p ys,xs=[.ref p]/\(ŝ K H p ys\/dh K H p ys)/\∀l,H l=none->Q (.ref l) (upd H l (.lst ys))
def aK:ő X (.type "list") (uT X.K):=uF
def bB:Gk K (uT K.K) cU:=by
 intro c F H σ ρ ps pv vs Q rel r e k
 unfold cU at e
 split at e
 ·cases e
  obtain⟨v,rfl,r1⟩:=wR r
  obtain⟨a,xs,rfl,h1,h2⟩:=r1.lst rel.sub
  refine⟨a,xs,rfl,.inl h1,λl hl=>?_⟩
  obtain⟨q1,q2⟩:=dM rel hl h2
  exact k _ F _ q1 (Same.refl _) (Same.upd hl) q2
 ·cases e
  obtain⟨v,rfl,r1⟩:=wR r
  obtain⟨a,xs,rfl,h1,h2⟩:=r1.tup rel.sub
  refine⟨a,xs,rfl,.inr h1,λl hl=>?_⟩
  obtain⟨q1,q2⟩:=dM rel hl h2
  exact k _ F _ q1 (Same.refl _) (Same.upd hl) q2
 ·cases e
def lQ:PV->String->Option Bool
 | .int _,"int" =>some true
 | .int _,"bool" =>some false
 | .int _,"str" =>some false
 | .int _,"tuple" =>some false
 | .int _,"list" =>some false
 | .bl _,"int" =>some true
 | .bl _,"bool" =>some true
 | .lst _,"list" =>some true
 | .lst _,"tuple" =>some false
 | .lst _,"int" =>some false
 | .lst _,"str" =>some false
 | .tup _,"tuple" =>some true
 | .tup _,"list" =>some false
 | .tup _,"int" =>some false
 | .tup _,"str" =>some false
 | .str _,"str" =>some true
 | .str _,"int" =>some false
 | .str _,"list" =>some false
 | .str _,"tuple" =>some false
 | .non,"int" =>some false
 | .non,"str" =>some false
 | .non,"tuple" =>some false
 | .non,"list" =>some false
 |_,_=>none
end
theorem wU{K:KK}{F:Hp}:∀ns:List Int,Ĉ K F (ns.map .int) (ns.map V.int)
 | []=>Ĉ.nil
 |n::ns=>Ĉ.cons Rep.int (wU ns)
def Z_(K:PySem.W.Frag):Sp:=λvs H Q _=>∃(sa:Addr) (ns:List Int),vs=[.ref sa]/\ŝ K H sa (ns.map V.int)/\ns.length<=63/\∀v H',v=.bl true->Q v H'
def Gx{l:PySem.W.OpenLaw}{k:Nat}{x:Str}{CX:jh}{m:MF}{q:Program}{loose:List Str}{XP:(Str->Option Value)->Heap->Prop}{YP:World->Heap->Prop}{d:DefRec}{K:Params->PySem.W.Frag}(hn:l.most=some 63)(hdf:d.params.defaults=[])(hr:Ū k callerA)
 (hY:∀(w:World) (h:Heap),YP w h->(K w.params).In h)
 (F:∀(w:World) (mg:Str→Option Value) (fa:Addr) (h:Heap),(K w.params).In h→h.Ns mainGlobals mg→mg d.name=some (.ref fa)→
   ∃fd:FuncData,(∀(s:Shared) (u:Value),BindsTo s fd ⟨[u],[]⟩ [(x,u)])/\∀base:Heap,(K w.params).In base->base.Ns mainGlobals mg->∃cm,ī l.prog w (K w.params) mg base CX k fa fd [x] (cu ⟨K w.params,cm⟩ 1 m))
 (ht:∀ns:List Int,ns.length<=63->m [.sh (.lst (ns.map .int))]=.ret (.sh (.bl true)))
 (Yr:∀(H:Hp) (s:Shared) (e:Value) (s':Shared),CX [] H s (λ_ _ _=>False) e s'->False)
 (hnt:lams≠[]->∀w:World,PySem.W.noTabs (K w.params)=true:=by intro z;exact absurd rfl z)(hone:∀y z,y∈lams->z∈lams->y=z:=by simp[lams])(hrec:∀y,y∈lams->∃d,(recsOf q).find? (λe=>e.name== y)=some d:=by simp[lams]) :
 PySem.W.WalkO q loose XP YP l.row.toRowW d [] (λf vs=>PySem.call f vs):=by
 refine L2.Kf (n:=63) (k:=k) (x:=x) (CX:=λ_=>CX) (sp:=λw=>Z_ (K w.params)) hn (by decide) hdf hr hY (λw mg fa h h1 h2 h3=>?_) (λw H a ns hl _ hS=>⟨a,ns,rfl,hS,hl,λ_ _ z=>z⟩) (λw H s e s' z=>Yr H s e s' z) hnt hone hrec
 obtain⟨fd,hb,hF⟩:=F w mg fa h h1 h2 h3
 refine⟨fd,hb,λbase k1 k2=>?_⟩
 obtain⟨cm,G⟩:=hF base k1 k2
 refine G.imp λvs H Q E hs=>?_
 obtain⟨sa,ns,rfl,hS,hl,hq⟩:=hs
 refine⟨H,[.sh (.lst (ns.map .int))],rfl,Same.refl _,.cons ?_ .nil,?_⟩
 ·show Rep _ _ _ _
  unfold Rep
  exact⟨sa,_,rfl,hS,wU ns⟩
 ·rw[ht ns hl]
  intro v F' H' g rf
  have e:v=.bl true:=pI (K:=⟨K w.params,cm⟩) (F:=F') rf
  exact hq v H' e
end P
namespace P
open PySem PySem.Spec PyProof.Rows L2 M2 M3 M4
section
variable{X:Cx}{cm:String->Addr}{K:KK}
def TyP(K:PySem.W.Frag)(H:Hp)(x:V)(t:Value):Prop:=match x with
 | .non=>t=.type "NoneType"
 | .bl _=>t=.type "bool"
 | .int _=>t=.type "int"
 | .str _=>t=.type "str"
 | .ref a=>(t=.type "list" /\∃xs,ŝ K H a xs)\/(t=.type "tuple" /\∃xs,dh K H a xs)\/lB K H (.ref a) t
 |_=>False
def Gy(K:PySem.W.Frag):List V->Hp->VK->Prop:=λxs H Q=>match xs with
 | [x,.ty n]=>∃t b,TyP K H x t/\PySem.W.kitOne K t (.type n)=some b/\Q (.bl b) H
 | [x,.ref C]=>∃t b,TyP K H x t/\PySem.W.kitOne K t (.ref C)=some b/\Q (.bl b) H
 |_=>False
def Bu{pins:List (Addr×Obj)}{σ:L2.St}{H:Hp}{s:Shared}{A:Around}{E:Value->Shared->Prop}{Q:Value->Shared->Prop}{c:Value}{b:Bool}{x:V}{u t:Value}(I:Inv X pins σ H s)(rx:RelV x u)(ty:TyP X.K H x t)(e:PySem.W.kitOne X.K t c=some b)(h:∀tk,Q (.bool b) {s with toks:=tk}) :
 wpAny (model X.prog X.w) A (call (.builtin "isinstance") [u,c]) Q E s:=by
 cases x with
 |non=>cases(show t=_ from ty);exact dH I rx .non e h
 |bl y=>cases(show t=_ from ty);exact dH I rx (.bl y) e h
 |int y=>cases(show t=_ from ty);exact dH I rx (.int y) e h
 |str y=>cases(show t=_ from ty);exact dH I rx (.str y) e h
 |ref a=>
  cases(show u=Value.ref a from rx)
  rcases ty with⟨rfl,xs,hS⟩|⟨rfl,xs,hS⟩|ty
  ·obtain⟨its,r,⟨o,n,h1,h2,_⟩,_⟩:=I.list hS
   exact PySem.W.kia_one PySem.W.kitx_list I.kJ ⟨o,h1,h2⟩ e (λz=>nomatch z) h
  ·obtain⟨its,r,⟨o,h1,h2,_⟩,_⟩:=I.tuple hS
   exact PySem.W.kia_one PySem.W.kitx_tuple I.kJ ⟨o,h1,h2⟩ e (λz=>nomatch z) h
  ·exact dH I rx ty e h
 |_=>exact ty.elim
def lR:ő X (.builtin "isinstance") (Gy X.K):=by
 intro pins s σ H xs us Q I r h
 unfold Gy at h
 split at h
 ·obtain⟨t,b,h1,h2,h3⟩:=h
  obtain⟨u,w',rfl,r1,r2⟩:=vals2 r
  cases r2
  exact Bu I r1 h1 h2 λtk=>⟨.bl b,H,I.tok _,rfl,h3⟩
 ·obtain⟨t,b,h1,h2,h3⟩:=h
  obtain⟨u,w',rfl,r1,r2⟩:=vals2 r
  cases r2
  exact Bu I r1 h1 h2 λtk=>⟨.bl b,H,I.tok _,rfl,h3⟩
 ·exact h.elim
def tyN:PV->String
 | .non=> "NoneType"
 | .bl _=> "bool"
 | .int _=> "int"
 | .str _=> "str"
 | .lst _=> "list"
 | .tup _=> "tuple"
 |_=> ""
def Gz{F:PySem.W.Frag}{p:PV}{n:String}{b:Bool}(h:lQ p n=some b):PySem.W.kitOne F (.type (tyN p)) (.type n)=some b:=by
 unfold lQ at h
 split at h<;>first
  |(cases h;first|rfl|decide +kernel|kernel_rfl)
  |cases h
def KZ{c:Ctx}{F H:Hp}{σ:L2.St}{ρ:ħ}{p:PV}{v:V}(s:Same F H)(r:rR K c σ ρ F H p v)(h:∃n b,lQ p n=some b):TyP K.K H v (.type (tyN p)):=by
 obtain⟨n,b,h⟩:=h
 cases p with
 |non=>cases r.non;rfl
 |bl _=>cases r.bl;rfl
 |int _=>cases r.int;rfl
 |str _=>cases r.str;rfl
 |lst ps=>
  obtain⟨a,vs,rfl,h1,h2⟩:=r.lst s
  exact .inl ⟨rfl,vs,h1⟩
 |tup ps=>
  obtain⟨a,vs,rfl,h1,h2⟩:=r.tup s
  exact .inr (.inl ⟨rfl,vs,h1⟩)
 |ins _ _ _=>simp[lQ] at h
 |xc _ _ _=>simp[lQ] at h
 |ty _=>simp[lQ] at h
 |cls _=>simp[lQ] at h
def pO:List PV->Option PV
 | [p,.ty n]=>(lQ p n).map .bl
 |_=>none
def lU:dN K (Gy K.K) pO:=by
 intro c F H σ ρ ps pv vs Q rel r e k
 unfold pO at e
 split at e
 ·rename_i p n
  obtain⟨v,u,rfl,r1,r2⟩:=rl2 r
  cases r2.ty
  cases eb:lQ p n with
  |none=>rw[eb] at e;cases e
  |some b=>
   rw[eb] at e
   cases e
   exact⟨_,b,KZ rel.sub r1 ⟨n,b,eb⟩,Gz eb,k _ F H rel (Same.refl _) (Same.refl _) Rep.bl⟩
 ·cases e
def pP:List PV->Option PV
 | [.lst ps]=>some (.tup ps)
 | [.tup ps]=>some (.tup ps)
 |_=>none
def GC(K:PySem.W.Frag):List V->Hp->VK->Prop:=λxs H Q=>∃p ys,xs=[.ref p]/\((ŝ K H p ys/\∀l,H l=none->Q (.ref l) (upd H l (.tup ys)))\/(dh K H p ys/\Q (.ref p) H))
def GD:ő X (.type "tuple") (GC X.K):=qZ
def GF:dN K (GC K.K) pP:=by
 intro c F H σ ρ ps pv vs Q rel r e k
 unfold pP at e
 split at e
 ·cases e
  obtain⟨v,rfl,r1⟩:=wR r
  obtain⟨a,xs,rfl,h1,h2⟩:=r1.lst rel.sub
  refine⟨a,xs,rfl,.inl ⟨h1,λl hl=>k _ _ _ (rel.alloc hl) (Same.upd (rel.sub.free hl)) (Same.upd hl) ?_⟩⟩
  unfold Rep
  exact⟨l,xs,rfl,dh.of Ď,Ĉ.same (Same.upd (rel.sub.free hl)) _ _ h2⟩
 ·cases e
  obtain⟨v,rfl,r1⟩:=wR r
  have r1':=r1
  obtain⟨a,xs,rfl,h1,h2⟩:=r1.tup rel.sub
  refine⟨a,xs,rfl,.inr ⟨h1,k _ F H rel (Same.refl _) (Same.refl _) ?_⟩⟩
  rcases r1' with q|q
  ·exact q
  ·exact q.elim
 ·cases e
def boolsOf:List PV->Option (List Bool)
 | []=>some []
 | .bl b::ps=>(boolsOf ps).map (b:: ·)
 |_::_=>none
theorem sU{F:Hp}:∀{ps:List PV} {vs:List V} {bs:List Bool},Ĉ K F ps vs->boolsOf ps=some bs->vs=bs.map V.bl
 | [],vs,bs,r,h=>by
   cases h
   have r':=r.pr
   cases r'
   rfl
 |p::ps,vs,bs,r,h=>by
  cases p with
  |bl b=>
   unfold boolsOf at h
   cases eb:boolsOf ps with
   |none=>rw[eb] at h;cases h
   |some cs=>
    rw[eb] at h
    cases h
    have r':=r.pr
    cases r' with
    |cons r1 t=>
     rw[pI r1,sU (Ĉ.of t) eb]
     rfl
  |_=>simp[boolsOf] at h
def lV:List PV->Option PV
 | [.lst ps]=>(boolsOf ps).map λbs=>.bl (bs.all id)
 |_=>none
def lW:dN K (Ua K.K) lV:=by
 intro c F H σ ρ ps pv vs Q rel r e k
 unfold lV at e
 split at e
 ·rename_i ps
  obtain⟨v,rfl,r1⟩:=wR r
  obtain⟨a,xs,rfl,h1,h2⟩:=r1.lst rel.sub
  cases eb:boolsOf ps with
  |none=>rw[eb] at e;cases e
  |some bs=>
   rw[eb] at e
   cases e
   refine⟨bs,by rw[<-sU h2 eb];exact h1,k _ F H rel (Same.refl _) (Same.refl _) Rep.bl⟩
 ·cases e
def Bv(_ j:Int):Bool:=decide (0<j) && decide (j.natAbs<1073741824)
def cV:List PV->Option PV
 | [.int i,.int j]=>if Bv i j=true then some (.tup [.int (i / j),.int (i % j)]) else none
 |_=>none
def Bw:List V->Hp->VK->Prop:=λxs H Q=>∃i j,xs=[.int i,.int j]/\Yd i j/\∀p,H p=none->Q (.ref p) (upd H p (.tup [.int (i / j),.int (i % j)]))
def sW:ő X (.builtin "divmod") Bw:=wG
def sX:dN K Bw cV:=by
 intro c F H σ ρ ps pv vs Q rel r e k
 unfold cV at e
 split at e
 ·split at e
  ·rename_i i j hd
   cases e
   obtain⟨v,u,rfl,r1,r2⟩:=rl2 r
   cases r1.int
   cases r2.int
   unfold Bv at hd
   simp only[Bool.and_eq_true,decide_eq_true_eq] at hd
   refine⟨i,j,rfl,⟨hd.1,by omega⟩,λl hl=>k _ _ _ (rel.alloc hl) (Same.upd (rel.sub.free hl)) (Same.upd hl) ?_⟩
   unfold Rep
   exact⟨l,_,rfl,dh.of Ď,Ĉ.cons Rep.int (Ĉ.cons Rep.int Ĉ.nil)⟩
  ·cases e
 ·cases e
end
end P
namespace P
open PySem PySem.Spec PyProof.Rows L2 M2 M3 M4
section
variable{α β:Type}{ρ:ħ}{i j n k:Nat}{p q:PV}{ps:List PV}{m ma mb mc:M PV}{mo:M RV}{a b:M Fl}{ta tb:M Bool}{mr:M (List PV)}{f:PV->PV->Option PV}{fo:PV->PV->Option RV}{fl:List PV->Option PV}{flo:List PV->Option RV}{g:Tg}{gs:En}
@[simp] theorem ZdV:fQ ρ=.ok .nx ρ:= rfl
@[simp] theorem ZcI:(iC:M α) ρ=.bad:=rfl
@[simp] theorem ZcJ:Ě a b ρ=(a ρ).bind λf ρ1=>match f with| .nx=>b ρ1|f=>.ok f ρ1:=rfl
@[simp] theorem ZcK:ĸ i mo ρ=(mo ρ).bind λr ρ1=>.ok .nx (ρ1.set i r.slot):=rfl
@[simp] theorem ZcL:Į mo ρ=(mo ρ).bind λr ρ1=>.ok (.rt r) ρ1:=rfl
@[simp] theorem Zea:mC p ρ=.ok p ρ:= rfl
@[simp] theorem ZdW:ż m ρ=(m ρ).bind λp ρ1=>.ok (.sh p) ρ1:=rfl
@[simp] theorem ZcM:Č mo ρ=(mo ρ).bind λr ρ1=>.ok r.val ρ1:=rfl
@[simp] theorem ZcN:(RV.sh p).val=p:=rfl
@[simp] theorem ZcO:(RV.ow ps).val=.lst ps:=rfl
@[simp] theorem ZcP:(RV.sh p).slot=.sh p:=rfl
@[simp] theorem ZcQ:(RV.ow ps).slot=.ow ps:=rfl
@[simp] theorem ZcR:Ą f ma mb ρ=(ma ρ).bind λp ρ1=>(mb ρ1).bind λq ρ2=>Res.mV (f p q) ρ2:=rfl
@[simp] theorem ZbB:Ĥ fo ma mb ρ=(ma ρ).bind λp ρ1=>(mb ρ1).bind λq ρ2=>Res.mV (fo p q) ρ2:=rfl
@[simp] theorem ZdX{u:PV->Option PV}:wj u ma ρ=(ma ρ).bind λp ρ1=>Res.mV (u p) ρ1:=rfl
@[simp] theorem ZcS:cC m ρ=(m ρ).bind λp ρ1=>Res.mV (Uj p) ρ1:=rfl
@[simp] theorem ZdY:bL m ρ=(m ρ).bind λp ρ1=>match p with| .bl b=>.ok b ρ1|_=>.bad:=rfl
@[simp] theorem ZbC:cT ta ρ=(ta ρ).bind λb ρ1=>.ok (!b) ρ1:=rfl
@[simp] theorem ZbD:jM ta tb ρ=(ta ρ).bind λb ρ1=>if b=true then tb ρ1 else .ok false ρ1:=rfl
@[simp] theorem ZcT:gB ta tb ρ=(ta ρ).bind λb ρ1=>if b=true then .ok true ρ1 else tb ρ1:=rfl
@[simp] theorem ZcU:eU ma mb ρ=(ma ρ).bind fun p ρ1=>match p with| .bl b=>if b=true then mb ρ1 else .ok (.bl false) ρ1|_=>.bad:=by
  unfold eU
  congr
  funext p ρ1
  cases p with
  |bl b=>cases b<;>rfl
  |_=>rfl
@[simp] theorem ZdZ:Uk ma mb ρ=(ma ρ).bind fun p ρ1=>match p with| .bl b=>if b=true then .ok (.bl true) ρ1 else mb ρ1|_=>.bad:=by
  unfold Uk
  congr
  funext p ρ1
  cases p with
  |bl b=>cases b<;>rfl
  |_=>rfl
@[simp] theorem ZcV:Ul ma ρ=(ma ρ).bind λp ρ1=>match p with| .bl b=>.ok (.bl (!b)) ρ1|_=>.bad:=rfl
@[simp] theorem Zd0{x y:M α}:dJ ta x y ρ=(ta ρ).bind λb ρ1=>if b=true then x ρ1 else y ρ1:=rfl
@[simp] theorem ZcW{f g:PV→PV→Option PV}:pH f g ma mb mc ρ=(ma ρ).bind fun p ρ1=>(mb ρ1).bind fun q ρ2=>(Res.mV (f p q) ρ2).bind fun z ρ3=>match z with
  | .bl true=>(mc ρ3).bind λw ρ4=>Res.mV (g q w) ρ4
  | .bl false=>.ok (.bl false) ρ3
  |_=>.bad:=rfl
@[simp] theorem ZcX:Ė ρ=.ok [] ρ:= rfl
@[simp] theorem ZbE:ă ma mr ρ=(ma ρ).bind λp ρ1=>(mr ρ1).bind λps ρ2=>.ok (p::ps) ρ2:=rfl
@[simp] theorem ZcY:jm mr ρ=(mr ρ).bind λps ρ1=>if ps.length<=16777216 then .ok (.tup ps) ρ1 else .bad:=rfl
@[simp] theorem ZcZ:b_ mr ρ=(mr ρ).bind λps ρ1=>if ps.length<=16777216 then .ok (.ow ps) ρ1 else .bad:=rfl
@[simp] theorem Zd1:bT fl mr ρ=(mr ρ).bind λps ρ1=>Res.mV (fl ps) ρ1:=rfl
@[simp] theorem Zc0:lJ flo mr ρ=(mr ρ).bind λps ρ1=>Res.mV (flo ps) ρ1:=rfl
@[simp] theorem ZbF{mf:MF}{ms:M (List Slot)}:ę mf ms ρ=(ms ρ).bind λps ρ1=>match mf ps with| .ret r=>.ok r ρ1| .exc x=>.exc x ρ1| .bad=>.bad:=rfl
@[simp] theorem Zaa:ė i ρ=(match ρ[i]? with|some (.sh p)=>.ok p ρ|some (.ow ps)=>.ok (.lst ps) (ρ.set i (.sh (.lst ps)))|some (.bn qs rows)=>.ok (.lst (.lst qs::rows)) ρ|_=>.bad):=rfl
@[simp] theorem Zd2:Ā i ρ=(match ρ[i]? with|some (.sh p)=>.ok p ρ|some (.ow ps)=>.ok (.lst ps) ρ|some (.bw ps)=>.ok (.lst ps) ρ|some (.rc C ns ps)=>.ok (.ins C ns ps) ρ|some (.bn qs rows)=>.ok (.lst (.lst qs::rows)) ρ|_=>.bad):=rfl
@[simp] theorem Zd3:iH i ρ=(match ρ[i]? with|some (.sh p)=>.ok (.sh p) ρ|some (.ow ps)=>.ok (.ow ps) (ρ.set i .no)|_=>.bad):=rfl
@[simp] theorem Zc1:Kz g m ρ=(m ρ).bind λp ρ1=>match g p ρ1 with|some ρ2=>.ok .nx ρ2|none=>.bad:=rfl
@[simp] theorem Zd4:gN i p ρ=some (ρ.set i (.sh p)):=rfl
@[simp] theorem Zab:gF [] ρ=some ρ:= rfl
@[simp] theorem Xr:ĵ g gs (p::ps) ρ=(g p ρ).bind λρ1=>gs ps ρ1:=rfl
@[simp] theorem Zd5:gT n gs (.tup ps) ρ=if ps.length=n then gs ps ρ else none:=rfl
@[simp] theorem Zc2:nP i m ρ=(match ρ[i]? with
  |some (.ow _)=>(m ρ).bind λp ρ1=>match ρ1[i]? with
   |some (.ow ps)=>if ps.length<16777216 then .ok .nx (ρ1.set i (.ow (ps ++ [p]))) else .bad
   |_=>.bad
  |_=>.bad):=rfl
@[simp] theorem Zac{mi:M PV}:zB i mi m ρ=(m ρ).bind fun p ρ1=>match ρ1[i]? with
  |some (.ow _)=>(mi ρ1).bind λq ρ2=>match ρ2[i]?,q with
   |some (.ow ps),.int k=>match yJ ps.length k with
    |some j=>.ok .nx (ρ2.set i (.ow (ps.set j p)))
    |none=>.bad
   |_,_=>.bad
  |_=>.bad:=rfl
@[simp] theorem Zc3:cG ρ=.ok none ρ:= rfl
@[simp] theorem Zeb:mP m ρ=(m ρ).bind λp ρ1=>match p with| .int i=>.ok (some i) ρ1|_=>.bad:=rfl
@[simp] theorem Zd6{ml mh:M (Option Int)}:lO ma ml mh ρ=(ma ρ).bind λp ρ1=>(ml ρ1).bind λlo ρ2=>(mh ρ2).bind λhi ρ3=>Res.mV (Xq p lo hi) ρ3:=rfl
@[simp] theorem Zc4{lo hi:Option Int}:Xq (.lst ps) lo hi=some (.ow (aX ps lo hi)):=rfl
@[simp] theorem Zad:Ů m ρ=(m ρ).bind fun p ρ1=>match p with
  | .lst ps=>.ok ps ρ1
  | .tup ps=>.ok ps ρ1
  | .str z=>.ok (z.cps.toList.map λc=>.str ⟨#[c]⟩) ρ1
  |_=>.bad:=rfl
@[simp] theorem Zae{h:List PV->Option (List PV)}:cD h mr ρ=(mr ρ).bind λps ρ1=>Res.mV (h ps) ρ1:=rfl
@[simp] theorem Zc5{mi:M (List PV)}:nQ mi g b ρ=(mi ρ).bind λitems ρ1=>forL g b items ρ1:=rfl
@[simp] theorem ZbG{js:List Nat}{nl:Nat}{mi:M (List PV)}{mt:M Bool}{me:M PV}:Œ js nl mi g mt me ρ=(mi ρ).bind fun items ρ1=>match Ō g mt me items (jq js nl ρ1) [] with
  |some ps=>.ok (.ow ps) ρ1
  |none=>.bad:=rfl
@[simp] theorem Zc6:Ķ ρ=.ok true ρ:= rfl
@[simp] theorem Zc7{mbd:M Fl}{as:List Slot}:Ŏ n k mbd as=if as.length=n then FR.of (mbd (startP k as)) else .bad:=rfl
@[simp] theorem Zc8{r:RV}:FR.of (.ok (.rt r) ρ)=.ret r:=rfl
@[simp] theorem Zc9:FR.of (.ok .nx ρ)=.ret (.sh .non):=rfl
@[simp] theorem Zc_{x:PX}:FR.of (.exc x ρ)=.exc x:=rfl
@[simp] theorem Zda:FR.of .bad=.bad:=rfl
@[simp] theorem Zaf{as:List Slot}:startP k as=as++List.replicate (k-as.length) .no:=rfl
@[simp] theorem ZbH:ē ρ=.ok [] ρ:= rfl
@[simp] theorem Zag{ms:M (List Slot)}:ġ ma ms ρ=(ma ρ).bind λp ρ1=>(ms ρ1).bind λas ρ2=>.ok (.sh p::as) ρ2:=rfl
@[simp] theorem Zah{ms:M (List Slot)}:Ċ i ms ρ=(match(ρ[i]?).bind aF with
  |none=>.bad
  |some _=>(ms ρ).bind λas ρ2=>match(ρ2[i]?).bind aF with
   |some s=>.ok (s::as) ρ2
   |none=>.bad):=rfl
@[simp] theorem Zdb:aF (.sh p)=some (.sh p):=rfl
@[simp] theorem Zdc:aF (.ow ps)=some (.bw ps):=rfl
@[simp] theorem Zdd{qs rows:List PV}:aF (.bn qs rows)=some (.sh (.lst (.lst qs::rows))):=rfl
@[simp] theorem Zde:aF (.bw ps)=some (.bw ps):=rfl
@[simp] theorem Zdf:zJ (.sh p)=.sh p:=rfl
@[simp] theorem Zdg:zJ (.ow ps)=.bw ps:=rfl
@[simp] theorem Zdh:zJ (.bw ps)=.bw ps:=rfl
@[simp] theorem Zdi{js:List Nat}{nl:Nat}:jq js nl ρ=js.map (λ(j:Nat)=>zJ ((ρ[j]?).getD .no))++List.replicate nl .no:=rfl
@[simp] theorem UJ:Ň i ρ=(match ρ[i]? with
  |some (.bw ps)=>.ok ps ρ
  |some (.sh (.lst ps))=>.ok ps ρ
  |some (.sh (.tup ps))=>.ok ps ρ
  |some (.sh (.str z))=>.ok (z.cps.toList.map λc=>.str ⟨#[c]⟩) ρ
  |some (.ow ps)=>.ok ps (ρ.set i (.sh (.lst ps)))
  |_=>.bad):=rfl
@[simp] theorem ZbI{x y:Int}:ě (.int x) (.int y)=some (.sh (.int (x+y))):=rfl
@[simp] theorem ZbJ{x y:Int}:aQ (.int x) (.int y)=some (.int (x-y)):=rfl
@[simp] theorem ZbK{x y:Int}:Ĺ (.int x) (.int y)=if Ť x y=true then some (.int (x*y)) else none:=rfl
@[simp] theorem ZbL{x y:Int}:aq (.int x) (.int y)=if pL x y=true then some (.int (x.fdiv y)) else none:=rfl
@[simp] theorem ZbM{x y:Int}:Ġ (.int x) (.int y)=if Bp x y=true then some (.int (x.fmod y)) else none:=rfl
@[simp] theorem Ŕ{x y:Int}:iM (.int x) (.int y)=if wQ x y=true then some (.int (x ^ y.toNat)) else none:=rfl
@[simp] theorem ZbN{x:Int}:Br (.int x)=some (.int (-x)):=rfl
@[simp] theorem Zdj{x y:Int}:Ds (.int x) (.int y)=some (.bl (decide (x<y))):=rfl
@[simp] theorem Zdk{x y:Int}:fZ (.int x) (.int y)=some (.bl (decide (x<=y))):=rfl
@[simp] theorem Zdl{x y:Int}:KR (.int x) (.int y)=some (.bl (decide (y<x))):=rfl
@[simp] theorem Zdm{x y:Int}:ķ (.int x) (.int y)=some (.bl (decide (x=y))):=by
  have h:eqB (.int x) (.int y)=decide (x=y):=by rw[eqB.eq_def];rfl
  rw[<-h];rfl
@[simp] theorem Zdn{x y:Int}:ž (.int x) (.int y)=some (.bl (!decide (x=y))):=by
  have h:eqB (.int x) (.int y)=decide (x=y):=by rw[eqB.eq_def];rfl
  rw[<-h];rfl
@[simp] theorem Zdo{x y:Bool}:ķ (.bl x) (.bl y)=some (.bl (x== y)):=rfl
@[simp] theorem Zdp{x y:Bool}:ž (.bl x) (.bl y)=some (.bl (!(x== y))):=rfl
@[simp] theorem Zdq{p:PV}:uQ p .non=some (.bl (JC p)):=rfl
@[simp] theorem Zdr{x:Int}:Ğ (.lst ps) (.int x)=nM ps x:=rfl
@[simp] theorem Zds{x:Int}:Ğ (.tup ps) (.int x)=nM ps x:=rfl
@[simp] theorem ZbO:eZ [.lst ps]=some (.int ps.length):=rfl
@[simp] theorem ZbP:eZ [.tup ps]=some (.int ps.length):=rfl
@[simp] theorem Zdt{x:Int}:zL [.int x]=some (.int (if x<0 then -x else x)):=rfl
@[simp] theorem Zai:cU [.lst ps]=some (.ow ps):=rfl
@[simp] theorem Zaj:cU [.tup ps]=some (.ow ps):=rfl
@[simp] theorem ZbQ:pP [.lst ps]=some (.tup ps):=rfl
@[simp] theorem ZbR:pP [.tup ps]=some (.tup ps):=rfl
@[simp] theorem Zdu{t:String}:pO [p,.ty t]=(lQ p t).map .bl:=rfl
@[simp] theorem ZbS{x:Bool}:Uj (.bl x)=some x:=rfl
@[simp] theorem ZbT{x:Int}:Uj (.int x)=some (x != 0):=rfl
@[simp] theorem ZbU:Uj (.lst ps)=some (!ps.isEmpty):=rfl
@[simp] theorem wV(xs:List α)(n:Nat):nM xs (n:Int)=xs[n]?:= by
  unfold nM yJ
  rw[if_pos (by omega)]
  by_cases h:n<xs.length
  ·rw[if_pos (by omega)]
   simp
  ·rw[if_neg (by omega)]
   simp
   omega
@[simp] theorem ZbV(xs:List α)(n:Nat):nM xs (no_index (OfNat.ofNat n):Int)=xs[(no_index (OfNat.ofNat n):Nat)]?:= wV xs n
@[simp] theorem Xu{x y:Int}:Bp x y=decide (y≠0):=rfl
end
def cH{x y:Int}(h1: -(2 ^ 64)<x)(h2:x<2 ^ 64):Ť x y=true:=by unfold Ť;rw[decide_eq_true (by omega:x.natAbs<18446744073709551616)];rfl
def mul_r{x y:Int}(h1: -(2 ^ 64)<y)(h2:y<2 ^ 64):Ť x y=true:=by unfold Ť;rw[decide_eq_true (by omega:y.natAbs<18446744073709551616)];simp
def Zak{x y:Int}(h1:y≠0)(h2:bits y<=8000):pL x y=true:=by unfold pL;simp[h1,h2]
section
variable{g:Tg}{mb:M Fl}{mc mt:M Bool}{me:M PV}{items:List PV}{ρ:ħ}
theorem ļ{α:Type}(c f:α->PV)(I:ħ->Prop):∀(xs:List α) (ρ:ħ) (acc:List PV),I ρ->acc.length+xs.length<=16777216->
 (∀x∈xs,∀ρ,I ρ->∃ρ1 ρ2 ρ3,g (c x) ρ=some ρ1/\mt ρ1=.ok true ρ2/\me ρ2=.ok (f x) ρ3/\I ρ3)->Ō g mt me (xs.map c) ρ acc=some (acc++xs.map f)
 | [],ρ,acc,_,_,_=>by simp[Ō]
 |x::xs,ρ,acc,h,hz,hs=>by
  obtain⟨ρ1,ρ2,ρ3,h1,h2,h3,h4⟩:=hs x List.mem_cons_self ρ h
  rw[List.map_cons,Ō,h1]
  dsimp only
  rw[h2]
  dsimp only
  rw[h3]
  dsimp only
  rw[if_pos (by simp at hz;omega),ļ c f I xs ρ3 (acc ++ [f x]) h4 (by simp at hz ⊢;omega) λy hy=>hs y (List.mem_cons_of_mem _ hy)]
  simp
end
end P
namespace P
open PySem PySem.Spec PyProof.Rows L2 M2 M3 M4
def pQ(Q:String->Prop):List String->Prop
 | []=>True
 |c::cs=>Q c/\pQ Q cs
theorem pQ.get{Q:String->Prop}:∀{cs:List String} {C:String},pQ Q cs->cs.contains C=true->Q C
 | [],_,_,h=>by simp at h
 |c::cs,C,⟨h1,h2⟩,h=>by
  by_cases e:C=c
  ·rw[e];exact h1
  ·refine h2.get ?_
   rw[List.contains_cons] at h
   have:(C== c)=false:=by simpa using e
   rw[this,Bool.false_or] at h
   exact h
section
variable{X:Cx}{cm:String->Addr}{K:KK}{E:L2.St->XK}{a b e o:Expr}{es:List Expr}{pos apos:Pos}{m ma mb:M PV}{f:Str}
theorem pR{F:Hp}:∀{fs:List (Str×V)} {ps:List PV} {p:PV},Ĉ K F ps (fs.map (·.2))->((fs.map (·.1)).zip ps).lookup f=some p->∃v,fs.lookup f=some v/\Rep K F p v
 | [],ps,p,_,h=>by simp at h
 |(g,v)::fs,ps,p,r,h=>by
  have r':=r.pr
  rw[List.map_cons] at r'
  cases r' with
  |cons r1 t=>
   rename_i q qs
   rw[List.map_cons,List.zip_cons_cons,List.lookup_cons] at h
   rw[List.lookup_cons]
   cases hg:f== g with
   |true=>
    simp only[hg] at h
    cases h
    exact⟨v,rfl,r1⟩
   |false=>
    simp only[hg] at h
    exact pR (Ĉ.of t) h
theorem rR.ins{c:Ctx}{F H:Hp}{σ:L2.St}{ρ:ħ}{C:String}{ns:List Str}{ps:List PV}{v:V}(s:Same F H)(h:rR K c σ ρ F H (.ins C ns ps) v):∃a dx fs,v=.ref a/\H a=some (.ins (K.cm C) dx fs)/\fs.map (·.1)=ns/\Ĉ K F ps (fs.map (·.2)):=by
 rcases h with h|h
 ·unfold Rep at h
  obtain⟨a,dx,fs,h1,h2,h3,h4⟩:=h
  exact⟨a,dx,fs,h1,s _ _ h2,h3,h4⟩
 ·exact h
def ſ(cs:List String)(f:Str):PV->Option PV
 | .ins C ns ps=>if cs.contains C=true then(ns.zip ps).lookup f else none
 |_=>none
def cW(cs:List String)(hcs:pQ (λC=>Cls X.K (cm C)/\İ X.K (cm C) f) cs)(he:PE X e (tR (kk X cm) E m))(hb:attributeBase e f X.env (eval e X.env)=eval e X.env:=by rfl):PE X (.Attribute e f pos) (tV (kk X cm) E (wj (ſ cs f) m)):=
 PE.wk (SM he hb) fun σ H Q ⟨c,F,ρ,rel,h⟩=>⟨c,F,ρ,rel,h.bind fun p ρ1 v F1 H1 ć _ _ r1 h1=>by
   cases p with
   |ins C ns ps=>
    unfold ſ at h1
    dsimp only at h1
    split at h1
    ·rename_i hc
     obtain⟨a,dx,fs,rfl,q2,q3,q4⟩:=r1.ins ć.sub
     cases el:(ns.zip ps).lookup f with
     |none=>rw[el] at h1;exact h1.elim
     |some q=>
      rw[el] at h1
      subst q3
      obtain⟨v,e1,e2⟩:=pR q4 el
      obtain⟨k1,k2⟩:=hcs.get hc
      exact⟨a,_,dx,fs,v,rfl,q2,k1,k2,e1,h1 v F1 H1 ć (Same.refl _) (Same.refl _) e2⟩
    ·exact h1.elim
   |_=>exact h1.elim⟩
def GJ(X:Cx)(cm:String->Addr)(CX:jh)(k n:Nat)(m:Str)(C:String)(mf:MF):Prop:=Cls X.K (cm C)/\∃f fd ps,Meth X.K (cm C) m f/\ī X.prog X.w X.K X.mg X.base CX k f fd ps (cu (kk X cm) n mf)/\Binds X.K fd ps []/\
 ∀{ps:List Slot},(∃r,mf ps=r/\∀z,r=z->z≠ .bad)->ps.length=n
def GK(Q:String->MF->Prop):List (String×MF)->Prop
 | []=>True
 |(c,mf)::cs=>Q c mf/\GK Q cs
theorem GK.get{Q:String->MF->Prop}:∀{cs:List (String×MF)} {C:String} {mf:MF},GK Q cs->cs.lookup C=some mf->Q C mf
 | [],_,_,_,h=>by simp at h
 |(c,g)::cs,C,mf,⟨h1,h2⟩,h=>by
  rw[List.lookup_cons] at h
  cases hc:C== c with
  |true=>
   rw[hc] at h
   cases h
   have:C=c:=by simpa using hc
   rw[this];exact h1
  |false=>
   rw[hc] at h
   exact h2.get h
def pU(m:Str)(gk:List (String×MF))(mo:M PV)(ms:M (List Slot)):M RV:=λρ=>(mo ρ).bind λp ρ1=>match p with
 | .ins C ns ps=>match gk.lookup C with
   |some mf=>if ns.contains m=true then .bad else(ms ρ1).bind λas ρ2=>match mf (.sh (.ins C ns ps)::as) with
    | .ret r=>.ok r ρ2
    | .exc x=>.exc x ρ2
    | .bad=>.bad
   |none=>.bad
 |_=>.bad
theorem sY{m:Str}:∀{fs:List (Str×V)},(fs.map (·.1)).contains m=false->fs.lookup m=none
 | [],_=>rfl
 |(g,v)::fs,h=>by
  rw[List.map_cons,List.contains_cons,Bool.or_eq_false_iff] at h
  rw[List.lookup_cons,h.1]
  exact sY h.2
variable{CX:jh}{k n:Nat}{GP:Str}{gk:List (String×MF)}{ms:M (List Slot)}
def GQ{c:Ctx}{F H:Hp}{σ:L2.St}{ρ:ħ}{Q:VK}(rel:Rel (kk X cm) c F H σ ρ)(h:Ÿ (kk X cm) E (rO (kk X cm)) c F H σ Q (pU GP gk m ms ρ))(UL:GK (λC mf=>GJ X cm CX k n GP C mf) gk) :
 Ÿ (kk X cm) E (rV (kk X cm)) c F H σ (λx H1=>∃a C dx fs g fd ps mf,x=.ref a/\H1 a=some (.ins C dx fs)/\Cls X.K C/\Meth X.K C GP g/\fs.lookup GP=none/\ī X.prog X.w X.K X.mg X.base CX k g fd ps (cu (kk X cm) n mf)/\Binds X.K fd ps []/\
  tA (kk X cm) E ms σ H1 λvs H2=>cu (kk X cm) n mf (.ref a::vs) H2 Q (E σ)) (m ρ):=
 Ÿ.bind h λp ρ1 v F1 H1 ć _ _ r1 h1=>by
  cases p with
  |ins C ns ps=>
   dsimp only at h1
   cases el:gk.lookup C with
   |none=>rw[el] at h1;exact h1.elim
   |some mf=>
    rw[el] at h1
    dsimp only at h1
    split at h1
    ·exact h1.elim
    ·rename_i hn
     obtain⟨k1,f,fd,qs,k2,k3,k4,k5⟩:=UL.get el
     have r1':Rep (kk X cm) F1 (.ins C ns ps) v:=r1
     have r2:=r1'
     unfold Rep at r2
     obtain⟨a,dx,fs,rfl,q2,q3,q4⟩:=r2
     refine⟨a,_,dx,fs,f,fd,qs,mf,rfl,ć.sub _ _ q2,k1,k2,sY (by rw[q3];simpa using hn),k3,k4,c,F1,ρ1,ć,Ÿ.bind h1 λas ρ2 vs F2 H2 ĥ sF sH r3 h3=>?_⟩
     exact wM (vs:=.ref a::vs) k5 ĥ (.cons (show ak _ _ _ (.sh _) _ from Rep.same sF _ _ r1') r3) h3
  |_=>exact h1.elim
def Bx{pl:Sem Bool}(UL:GK (λC mf=>GJ X cm CX k n GP C mf) gk)(hr:Ū k X.A)(hx:bA CX X E)(he:PE X o (tV (kk X cm) E m))
 (ht:eval (.Call (.Attribute o GP apos) [] [] pos) X.env=(do
   let ov <-eval o X.env
   standAt apos.atName
   let (f,first) <-holding [ov] (getMethod ov GP pl)
   callWith pos f first (backTo pos (starEach [] X.env)) (backToKw pos (keywordEach [] X.env))):=by rfl) :
 PE X (.Call (.Attribute o GP apos) [] [] pos) (tO (kk X cm) E (pU GP gk m ē)):=by
 intro pins s σ H Q I ⟨c,F,ρ,rel,h⟩
 refine PySem.W.methodCall_KW (pl:=pl) (ņ (he pins s σ H _ I ⟨c,F,ρ,rel,GQ rel h UL⟩) λu s1 ⟨x,H1,I1,rx,a,C,dx,fs,g,fd,ps,mf,ex,ea,cl,k2,l,k3,k4,q⟩=>?_) ht
 subst ex
 obtain rfl:u=Value.ref a:=rx
 refine yZ I1 ea cl k2 l ?_
 obtain⟨c1,F1,ρ1,ć,q⟩:=q
 exact PySem.W.callWith_K0 (first:=[.ref a]) I1.kJ k2.kp (uM (us:=[.ref a]) (vs:=[.ref a]) k3 hr k4 hx I1 (.cons rfl .nil) (q [] F1 H1 ć (Same.refl _) (Same.refl _) .nil))
def putN(f:Str):List Str->List Str
 | []=>[f]
 |g::r=>if g=f then g::r else g::putN f r
def zM(f:Str)(p:PV):List Str->List PV->List PV
 | [],_=>[p]
 |g::r,q::qs=>if g=f then p::qs else q::zM f p r qs
 |_::_,[]=>[]
theorem BJ{F:Hp}{p:PV}{y:V}(ry:Rep K F p y):∀{fs:List (Str×V)} {ps:List PV},Ĉ K F ps (fs.map (·.2))->(eE f y fs).map (·.1)=putN f (fs.map (·.1))/\Ĉ K F (zM f p (fs.map (·.1)) ps) ((eE f y fs).map (·.2))
 | [],ps,r=>⟨rfl,Ĉ.cons ry Ĉ.nil⟩
 |(g,v)::fs,ps,r=>by
  have r':=r.pr
  rw[List.map_cons] at r'
  cases r' with
  |cons r1 t=>
   rename_i q qs
   unfold eE
   rw[List.map_cons]
   unfold putN zM
   by_cases hg:g=f
   ·rw[if_pos hg,if_pos hg,if_pos hg]
    exact⟨rfl,Ĉ.cons ry (Ĉ.of t)⟩
   ·rw[if_neg hg,if_neg hg,if_neg hg]
    obtain⟨h1,h2⟩:=BJ ry (Ĉ.of t)
    exact⟨by rw[List.map_cons,h1],Ĉ.cons r1 h2⟩
def iQ(i:Nat)(cs:List String)(f:Str)(mv:M PV):M Fl:=λρ=>(mv ρ).bind λp ρ1=>match ρ1[i]? with
 |some (.rc C ns ps)=>if cs.contains C=true/\ns.length<1000 then .ok .nx (ρ1.set i (.rc C (putN f ns) (zM f p ns ps))) else .bad
 |_=>.bad
def aL{i:Nat}{x:Str}{px pos':Pos}(cs:List String)(hcs:pQ (λC=>Cls X.K (cm C)/\İ X.K (cm C) f) cs)(ho:PE X (.Name x px) (bG i))(he:PE X e (tV (kk X cm) E m))(hs:swapsWith e (some (.Attribute (.Name x px) f pos')) pos.line X.env=pure false:=by rfl) :
 PS X (.Assign [.Attribute (.Name x px) f pos'] e pos) (tS (kk X cm) E (iQ i cs f m)):=PS.wk (SN ho he hs) λD σ H ⟨c,F,ρ,rel,h⟩=>⟨c,F,ρ,rel,ş.bind h λp ρ1 y F1 H1 ć s1 ry h1=>by
 cases e1:ρ1[i]? with
 |none=>rw[e1] at h1;exact h1.elim
 |some sl=>
  rw[e1] at h1
  cases sl with
  |rc C ns ps=>
   dsimp only at h1
   split at h1
   ·rename_i hc
    obtain⟨a,dx,fs,q1,q2,q3,q4,q5,q6,q7⟩:=ć.slot i _ e1
    subst q5
    obtain⟨k1,k2⟩:=hcs.get hc.1
    refine⟨.ref a,at_of q1,a,_,dx,fs,rfl,q2,k1,k2,by simpa using hc.2,?_⟩
    obtain⟨z1,z2⟩:=BJ (f:=f) (p:=p) ry q6
    exact h1 σ F1 _ (ć.write ⟨_,_,e1,at_of q1,rfl⟩ (at_of q1) ⟨a,dx,_,rfl,Ď,q3,q4,z1,z2,q7⟩ λ_ z=>(V.ref.inj z).symm) (Same.refl _)
   ·exact h1.elim
  |_=>exact h1.elim⟩
inductive IR where
 |ok (ns:List Str) (ps:List PV)|exc (x:PX)|bad
abbrev MI:=List Slot->IR
def IR.of:Res Fl->IR
 | .ok .nx (.rc _ ns ps::_)=>.ok ns ps
 | .exc x _=>.exc x
 |_=>.bad
def cX(n k:Nat)(C:String)(mb:M Fl):MI:=λas=>if as.length+1=n then IR.of (mb (.rc C [] []::startP (k-1) as)) else .bad
structure GrB(a:Addr)(F H F' H':Hp):Prop where
 h:∀b u,b≠a->H b=some u->H' b=some u
 f:Same F F'
 sub:Same F' H'
 out:∀b,b≠a->H b≠none->F b=none->F' b=none
def Zdv(K:KK)(E:XK)(F H:Hp)(Q:VK)(a dx:Addr)(C:String):IR->Prop
 | .ok ns ps=>∀F' H' fs,GrB a F H F' H'->H' a=some (.ins (K.cm C) dx fs)->F' a=none->fs.map (·.1)=ns->Ĉ K F' ps (fs.map (·.2))->Q .non H'
 | .exc x=>∀C' d F' H',GrB a F H F' H'->Dr K F' x C' d->E C' d H'
 | .bad=>False
def Dt(K:KK)(n:Nat)(C:String)(mi:MI):Sp:=λvs H Q E=>∃F a dx vs' as,vs=.ref a::vs'/\as.length+1=n/\H a=some (.ins (K.cm C) dx [])/\F a=none/\Same F H/\Paired (ak K F H) as vs'/\Zdv K E F H Q a dx C (mi as)
def K_(a dx:Addr)(C:String)(F H:Hp):Ctx:=⟨λb=>if b=a then none else H b,F,λb=>if b=a then none else(ctx0 F H).L b,λa' dx' C'=>a'=a/\dx'=dx/\C'=C⟩
def Rel.gri{σ:L2.St}{ρ:ħ}{a dx:Addr}{C:String}{F H F' H':Hp}(r:Rel K (K_ a dx C F H) F' H' σ ρ):GrB a F H F' H':=
 ⟨λb u hb e=>r.base b u (by show(if b=a then none else H b)=_;rw[if_neg hb];exact e),r.f0,r.sub,λb hb h1 h2=>r.bM b (by show(if b=a then none else H b)≠none;rw[if_neg hb];exact h1) h2⟩
def Rel.UW{F H:Hp}{N:List Str}{as:List Slot}{vs:List V}{a dx:Addr}{C:String}(s:Same F H)(ha:H a=some (.ins (K.cm C) dx []))(hF:F a=none)(h:Paired (ak K F H) as vs) :
 Rel K (K_ a dx C F H) F H (L2.start N (.ref a::vs)) (.rc C [] []::startP (N.length-1) as):=by
 have r0:=Rel.start (N:=N) (K:=K) s (as:=.sh (.int 0)::as) (vs:=.int 0::vs) (.cons (Rep.int (K:=K) (F:=F) (i:=0)) h)
 have est:L2.start N (.ref a::vs)=some (.ref a)::(L2.start N (.int 0::vs)).tail:=by unfold L2.start;simp
 have Zdw:(L2.start N (V.int 0::vs)).tail.length=(startP (N.length-1) as).length:=by
  unfold L2.start startP
  simp[Paired.length h]
  omega
 have tl:∀i:Nat,(L2.start N (.int 0::vs)).tail[i]?=(L2.start N (.int 0::vs))[i+1]?:= λi=>by simp
 have sp:∀i:Nat,(startP (N.length-1) as)[i]?=(startP N.length (.sh (.int 0)::as))[i+1]?:= λi=>by
  unfold startP
  simp only[List.cons_append,List.getElem?_cons_succ,List.length_cons]
  rw[show N.length-1-as.length=N.length-(as.length+1) by omega]
 have sZ:∀(i:Nat) (s':Slot),(startP (N.length-1) as)[i]?=some s'->s'.own=false:=λi s' e=>by
  unfold startP at e
  by_cases hi:i<as.length
  ·rw[List.getElem?_append_left hi] at e
   obtain⟨v,_,h3⟩:=aW h e
   exact(ak.slot h3).2
  ·rw[List.getElem?_append_right (by omega),List.getElem?_replicate] at e
   split at e
   ·cases e;rfl
   ·cases e
 rw[est]
 refine⟨s,λb u e=>?_,Same.refl _,λ_ _ z=>z,λb u e=>?_,λb e=>?_,?_,λi s' e=>?_,λi j b h1 h2=>?_⟩
 ·have e':(if b=a then none else H b)=some u:=e
  split at e'
  ·cases e'
  ·exact e'
 ·have e':(if b=a then none else(ctx0 F H).L b)=some u:=e
  split at e'
  ·cases e'
  ·exact ŗ e'
 ·show(if b=a then none else(ctx0 F H).L b)=none
  have e':(if b=a then none else H b)=none:=e
  split
  ·rfl
  ·rename_i hb
   rw[if_neg hb] at e'
   exact r0.lb b e'
 ·simp[Zdw]
 ·cases i with
  |zero=>
   cases e
   exact⟨a,dx,[],rfl,ha,hF,by show(if a=a then none else H a)=none;rw[if_pos rfl],rfl,Ĉ.nil,rfl,rfl,rfl⟩
  |succ i=>
   have e':(startP (N.length-1) as)[i]?=some s':=by simpa using e
   have q:=r0.slot (i+1) s' (by rw[<-sp];exact e')
   rw[<-tl] at q
   show Ŭ K (K_ a dx C F H) F H (((some (V.ref a)::(L2.start N (.int 0::vs)).tail)[i+1]?).getD none) s'
   rw[List.getElem?_cons_succ]
   cases s' with
   |no=>trivial
   |sh p=>exact q
   |bw ps=>
    obtain⟨b,ws,q1,q2,q3⟩:=q
    refine⟨b,ws,q1,?_,q3⟩
    show(if b=a then none else(ctx0 F H).L b)=_
    rw[if_neg (λz=>by
     have:=(ŗ q2).1
     rw[z,ha] at this
     cases this)]
    exact q2
   |ow ps=>have:=sZ i _ e';cases this
   |rc C ns ps=>have:=sZ i _ e';cases this
   |ot ps qs rs=>have:=sZ i _ e';cases this
   |ol qR=>have:=sZ i _ e';cases this
   |fr qR=>have:=sZ i _ e';cases this
   |dw dz=>
    obtain⟨b,ts,q1,q2,q3⟩:=q
    have lt:∀{x:Addr} {u:HO},(ctx0 F H).L x=some u->(∀o,u=.ins (K.cm C) dx o->False)->(if x=a then none else(ctx0 F H).L x)=some u:=fun{x u} e1 e2=>by
     rw[if_neg (λz=>by
      have:=(ŗ e1).1
      rw[z,ha] at this
      cases this
      exact e2 _ rfl)]
     exact e1
    exact⟨b,ts,q1,lt q2 (λ_ z=>by cases z),fM q3 λt d _ ⟨xs,y,vs,k1,k2,k3,k4⟩=>⟨xs,y,vs,k1,k2,lt k3 (λ_ z=>by cases z),k4⟩⟩
   |bn qs rows=>
    obtain⟨v,q1,q2⟩:=q
    refine⟨v,q1,q2.base λb u z=>?_⟩
    have z':(if b=a then none else H b)=some u:=z
    split at z'
    ·cases z'
    ·exact z'
 ·have at0:∀{i},Ľ F (some (.ref a)::(L2.start N (.int 0::vs)).tail) (Slot.rc C [] []::startP (N.length-1) as) i b→i=0:=fun{i} ⟨s',y,q1,_,q2⟩=>by
   have q2:=jl q2
   cases i with
   |zero=>rfl
   |succ i=>
    have:=sZ i s' (by simpa using q1)
    rw[this] at q2
    cases q2
  rw[at0 h1,at0 h2]
end
section
variable{P:Program}{w:World}{K:PySem.W.Frag}{cm:String->Addr}{mg:Str->Option Value}{base:Heap}{CX:jh}
def Xv{x qual:Str}{st:Stmt}{f:Addr}{fd:FuncData}{N ps:List Str}{k n j:Nat}{C:String}{mb:M Fl}{mi:MI}(F:Jz K x qual st f fd)(S:đ N ps (Ć st))(hn:ps.length=n)(hj:N.length=j)(hf:mi=cX n j C mb)
 (hbody:∀(cdv:Value) (A:Around) (outer:List Env) (s:Shared) (H:Hp) (E:XK),Ū k (A.deeper (envOfC qual (Ć st) s.heap.objs.size f cdv))→
   aB (qX CX P w K mg base N qual (Ć st) f cdv A outer s H E) (ś st) (tS ⟨K,cm⟩ (λ_=>E) mb)):ī P w K mg base CX (k+1) f fd ps (Dt ⟨K,cm⟩ n C mi):=by
 subst hn hj hf
 obtain⟨oc,od,kV,doc,pm,an,cdv,ct,osl,rfl,lk,hcd⟩:=F.ex
 refine Fj lk hcd S (λvs H Q E ⟨F,a,dx,vs',as,h1,h2,_,_,_,h3,_⟩=>by rw[h1,List.length_cons,<-Paired.length h3];exact h2) λA outer s H vs Q E hr hsp=>?_
 obtain⟨F,a,dx,vs',as,rfl,h2,h3,h4,h5,h6,h7⟩:=hsp
 refine⟨_,hbody cdv A outer s H E hr,K_ a dx C F H,F,_,Rel.UW h5 h3 h4 h6,?_⟩
 unfold cX at h7
 rw[if_pos h2] at h7
 cases e:mb (.rc C [] []::startP (N.length-1) as) with
 |bad=>rw[e] at h7;exact h7
 |exc x ρ'=>rw[e] at h7;exact λσ' C' d F' H' rel s1 q=>h7 C' d F' H' rel.gri q
 |ok fl ρ'=>
  rw[e] at h7
  cases fl with
  |nx=>
   cases ρ' with
   |nil=>exact h7.elim
   |cons sl ρ'=>
    cases sl with
    |rc C' ns qs=>
     intro σ' F' H' rel s1
     obtain⟨b,dy,fs,q1,q2,q3,q4,q5,q6,rfl,rfl,rfl⟩:=rel.slot 0 _ rfl
     exact h7 F' H' fs rel.gri q2 q3 q5 q6
    |_=>exact h7.elim
  |bk=>exact h7.elim
  |ct=>exact h7.elim
  |rt r=>exact h7.elim
end
def cI(C:String)(mi:MI)(ms:M (List Slot)):M PV:=λρ=>(ms ρ).bind λas ρ1=>match mi as with
 | .ok ns ps=>.ok (.ins C ns ps) ρ1
 | .exc x=>.exc x ρ1
 | .bad=>.bad
section
variable{X:Cx}{cm:String->Addr}{E:L2.St->XK}{e:Expr}{es:List Expr}{pos p:Pos}{CX:jh}{k n:Nat}{f:Addr}{fd:FuncData}{ps:List Str}{C:String}{mi:MI}{ms:M (List Slot)}{x:Str}
def GR{c:Ctx}{F1 H1:Hp}{σ:L2.St}{ρ1:ħ}{Q:VK}{as:List Slot}{vs:List V}(hlen:(∃r,mi as=r/\∀z,r=z->z≠ .bad)->as.length+1=n)(ć:Rel (kk X cm) c F1 H1 σ ρ1)(r1:Paired (ak (kk X cm) F1 H1) as vs)
 (h:Ÿ (kk X cm) E (rV (kk X cm)) c F1 H1 σ Q (match mi as with| .ok ns ps=>.ok (.ins C ns ps) ρ1| .exc x=>.exc x ρ1| .bad=>.bad)) :
 ∀x dx,H1 x=none->H1 dx=none->dx≠x->Dt (kk X cm) n C mi (.ref x::vs) (upd (upd H1 dx (.own x)) x (.ins (cm C) dx [])) (λv H2=>v=.non/\Q (.ref x) H2) (E σ):=by
 intro x dx hx hdx hne
 have up:∀b u,H1 b=some u->upd (upd H1 dx (.own x)) x (.ins (cm C) dx []) b=some u:=λb u e=>by
  rw[ĉ (ģ e hx),ĉ (ģ e hdx)];exact e
 have Du:∀{F' H':Hp},GrB x F1 (upd (upd H1 dx (.own x)) x (.ins (cm C) dx [])) F' H'->Gr F1 H1 F' H':=fun{F' H'} g=>
  ⟨fun b u e=>g.h b u (ģ e hx) (up b u e),g.f,g.sub,fun b hb hf=>by
    obtain⟨u,hu⟩:∃u,H1 b=some u:=by
     cases q:H1 b with
     |none=>exact absurd q hb
     |some u=>exact⟨u,rfl⟩
    exact g.out b (ģ hu hx) (by rw[up b u hu];intro z;cases z) hf⟩
 refine⟨F1,x,dx,vs,as,rfl,?_,Ď,ć.sub.free hx,λb u e=>up b u (ć.sub b u e),?_,?_⟩
 ·refine hlen ⟨_,rfl,λz hz hb=>?_⟩
  rw[hz,hb] at h
  exact h
 ·refine Paired.mono (λs v hs=>?_) r1
  cases s with
  |sh p=>exact hs
  |bw qs=>
   obtain⟨b,ws,q1,q2,q3,q4⟩:=hs
   exact⟨b,ws,q1,up b _ q2,q3,q4⟩
  |dw dz=>
   obtain⟨b,ts,q1,q2,q3,q4⟩:=hs
   exact⟨b,ts,q1,up b _ q2,q3,fM q4 λt d _ ⟨xs,y,ws,k1,k2,k3,k4⟩=>⟨xs,y,ws,k1,k2,⟨up y _ k3.1,k3.2⟩,k4⟩⟩
  |_=>exact hs.elim
 ·cases em:mi as with
  |bad=>rw[em] at h;exact h
  |exc y=>rw[em] at h;exact λC' d F' H' g rx=>h C' d F' H' (ć.call (Du g)) g.f rx
  |ok ns qs=>
   rw[em] at h
   intro F' H' fs g hx' hF' hn hr
   have r2:=ć.call (Du g)
   have r3:=r2.freeze hx' (ć.base.free hx) hF' (ć.cB (Du g).f (ć.fresh hx))
   refine⟨rfl,h _ _ H' r3 (g.f.trans (Same.upd hF')) (Du g).h ?_⟩
   show Rep _ _ _ _
   unfold Rep
   exact⟨x,dx,fs,rfl,Ď,hn,Ĉ.same (Same.upd hF') qs _ hr⟩
def tu{pins:List (Addr×Obj)}{σ:L2.St}{H:Hp}{s:Shared}{Q:VK}{us:List Value}{vs:List V}{sp:Sp}{C:Addr}(M:Mk X.K C f)(F:ī X.prog X.w X.K X.mg X.base CX k f fd ps sp)(hr:Ū (k+1) X.A)(hb:Binds X.K fd ps [])
 (hx:bA CX X E)(I:Inv X pins σ H s)(r:Vals vs us)
 (h:∀x dx,H x=none->H dx=none->dx≠x->sp (.ref x::vs) (upd (upd H dx (.own x)) x (.ins C dx [])) (λv H2=>v=.non/\Q (.ref x) H2) (E σ)) :
 wpAny (model X.prog X.w) X.A (call (.ref C) us) (EP X pins σ Q) X.xe s:=by
 have hq:=h (s.heap.objs.size+1) s.heap.objs.size (I.hok.fresh (Nat.le_succ _)) (I.hok.fresh (Nat.le_refl _)) (Nat.ne_of_lt (Nat.lt_succ_self _))
 have I2:=Inv.made (C:=C) I
 have r2:Vals (V.ref (s.heap.objs.size+1)::vs) (Value.ref (s.heap.objs.size+1)::us):=.cons rfl r
 have hl:(Value.ref (s.heap.objs.size+1)::us ++ []).length=ps.length:=by
  have e:=r2.length
  rw[F.len _ _ _ _ hq] at e
  rw[List.append_nil]
  exact e.symm
 have hbd:=hb {s with heap:=(s.heap.push PySem.W.emptyDict).push (PySem.W.instObj C s.heap.objs.size)} (Value.ref (s.heap.objs.size+1)::us) I2.kJ hl
 rw[List.append_nil] at hbd
 refine wpAny_call (Fi (f:=f) I.kJ M.makes M.init (beq_iff_eq.mp M.fn) (codeAny_mono (F.run _ X.stack _ _ ⟨Value.ref (s.heap.objs.size+1)::us,[]⟩ _ _ _ (E σ) (hr.make C us []) (I2.env0.make C us []) hbd r2 hq) λr s' hq'=>?_))
 cases r with
 |error e=>exact hx pins σ _ _ e s' I2 hq'
 |ok fl=>
  cases fl with
  |ret u=>
   obtain⟨v,H',I3,rv,ev,q3⟩:=I2.after hq'
   subst ev
   exact⟨rv,⟨V.ref (s.heap.objs.size+1),H',I3,rfl,q3⟩⟩
  |next=>exact False.elim hq'
  |brk=>exact False.elim hq'
  |cont=>exact False.elim hq'
def aY{n k:Nat}{C:String}{mb:M Fl}{as:List Slot}(h:∃r,cX n k C mb as=r/\∀z,r=z->z≠ .bad):as.length+1=n:=by
 obtain⟨r,h1,h2⟩:=h
 unfold cX at h1
 by_cases hl:as.length+1=n
 ·exact hl
 ·rw[if_neg hl] at h1
  exact absurd h1.symm (λz=>h2 .bad (by rw[<-h1]) rfl)
def lX(M:Mk X.K (cm C) f)(F:ī X.prog X.w X.K X.mg X.base CX k f fd ps (Dt (kk X cm) n C mi))(hlen:∀{as:List Slot},(∃r,mi as=r/\∀z,r=z->z≠ .bad)->as.length+1=n)(hr:Ū (k+1) X.A)(hg:Gl X x)(hm:X.mg x=some (.ref (cm C)))(hb:Binds X.K fd ps [])(hx:bA CX X E)
 (ha:PA X (e::es) (tA (kk X cm) E ms))(hdb:(x== ("__debug__" :Str))=false:=by decide)(he:starEach (e::es) X.env=(false,eval e X.env)::starEach es X.env:=by exact Ŗ rfl)(hpl:(backTo pos (starEach es X.env)).any (·.1)=false:=by rfl) :
 PE X (.Call (.Name x p) (e::es) [] pos) (tV (kk X cm) E (cI C mi ms)):=by
 intro pins s σ H Q I ⟨c,F',ρ,rel,h⟩
 refine wpAny_Call_Name_kw (jD I hg hm ?_ hdb)
 refine PySem.W.callWith_K (h₀:= X.base) I.ok.mod.Xm M.kp (ņ (ha pos pins s σ H (λvs H1=>∀x dx,H1 x=none->H1 dx=none->dx≠x->Dt (kk X cm) n C mi (.ref x::vs) (upd (upd H1 dx (.own x)) x (.ins (cm C) dx [])) (λv H2=>v=.non/\Q (.ref x) H2) (E σ)) I
  ⟨c,F',ρ,rel,Ÿ.bind h λas ρ1 vs F1 H1 ć _ _ r1 h1=>GR hlen ć r1 h1⟩) λus s1 ⟨vs,H1,I1,r,q⟩=>⟨I1.kJ,?_⟩) he hpl
 exact tu M F hr hb hx I1 r q
end
end P
namespace P
open PySem PySem.Spec PyProof.Rows L2 M2 M3 M4
section
variable{M:Model}{A:Around}{E:Value->Shared->Prop}{s:Shared}{B:Heap}{env:Env}{outer:List Env}{L e:Addr}{Q:Unit->Shared->Prop}
end
def jB.sub{P:Program}{w:World}{H:Hp}{h B:Heap}(x:jB P w H h)(k:∀b o u,H b=some u->h.get? b=some o->B.get? b=some o):jB P w H B:=λa o e=>
 (x a o e).stay (fun b u hb q=>by
   rcases hb with rfl|hb
   ·exact k _ _ _ e q
   ·exact k _ _ _ hb q) (λ_ q=>q) λ_ _ q=>q
section
variable{P:Program}{w:World}{K:PySem.W.Frag}{mg:Str->Option Value}{base:Heap}{N:List Str}{qual:Str}{scope:Scope}{f:Addr}{cdv:Value}{A:Around}{outer:List Env}{s₀:Shared}{H₀:Hp}{E:XK}
end
end P
namespace P
open PySem PySem.Spec PyProof.Rows L2 M2 M3 M4
section
variable{K:PySem.W.Frag}{h:Heap}{C:Addr}{bmB:List Value}{newId:String}
end
section
variable{X:Cx}{cm:String->Addr}{E:L2.St->XK}{x:Str}{C:String}{np cpos pos:Pos}
end
section
variable{M:Model}{A:Around}{E:Value->Shared->Prop}{s:Shared}{K:PySem.W.Frag}{e C D:Addr}{oe:Obj}{b:Bool}{Q:Bool->Shared->Prop}
end
def Dv(X:Cx)(xe:Value->Shared->Prop)(pins:List (Addr×Obj)):Cx:={X with xe:=xe,pn:=X.pn++pins}
section
variable{X:Cx}{pins:List (Addr×Obj)}{σ:L2.St}{H:Hp}{s:Shared}{xe:Value->Shared->Prop}
def Inv.Zal(I:Inv X pins σ H s):Inv (Dv X xe pins) [] σ H s:=
 ⟨⟨I.ok.mod,I.ok.kind,I.ok.glob,I.ok.blt,I.ok.above,I.ok.inj,I.ok.has,I.ok.cab,I.ok.hd,I.ok.frames,I.ok.stk,I.ok.exf,I.ok.bs,I.ok.Ep,I.ok.yO,I.ok.CP,I.ok.jC,I.ok.JN,I.ok.tb⟩,
   I.os,I.bare,I.base,I.loc,I.cell,I.free,I.fJ,λp hp=>I.pin p (by simpa[Dv] using hp),I.hok,I.len⟩
def Inv.tE{rM:List (Addr×Obj)}(I:Inv (Dv X xe pins) rM σ H s):Inv X pins σ H s:=
 ⟨⟨I.ok.mod,I.ok.kind,I.ok.glob,I.ok.blt,I.ok.above,I.ok.inj,I.ok.has,I.ok.cab,I.ok.hd,I.ok.frames,I.ok.stk,I.ok.exf,I.ok.bs,I.ok.Ep,I.ok.yO,I.ok.CP,I.ok.jC,I.ok.JN,I.ok.tb⟩,
   I.os,I.bare,I.base,I.loc,I.cell,I.free,I.fJ,λp hp=>I.pin p (List.mem_append_left _ hp),I.hok,I.len⟩
theorem SP.tE{rM:List (Addr×Obj)}{D:Ends}{f:Flow}(h:SP (Dv X xe pins) rM D f s):SP X pins D f s:=by
 cases f with
 |next=>obtain⟨σ',H',I,q⟩:=h;exact⟨σ',H',Inv.tE I,q⟩
 |brk=>obtain⟨σ',H',I,q⟩:=h;exact⟨σ',H',Inv.tE I,q⟩
 |cont=>obtain⟨σ',H',I,q⟩:=h;exact⟨σ',H',Inv.tE I,q⟩
 |ret u=>obtain⟨v,σ',H',I,r,q⟩:=h;exact⟨v,σ',H',Inv.tE I,r,q⟩
end
end P
namespace P
open PySem PySem.Spec PyProof.Rows L2 M2 M3 M4
abbrev MH:=PX->ħ->Res Fl
section
variable{X:Cx}{cm:String->Addr}{E:L2.St->XK}{pins:List (Addr×Obj)}{σ:L2.St}{H Hc:Hp}{s sc:Shared}{ea:Addr}{C:Value}{d:Option Addr}{B:Heap}
variable{y n:Str}{Dn:String}{i:Nat}{yp hpos:Pos}{b₀:Stmt}{suite:List Stmt}{rest:List ExceptHandler}{yes no:List String}{mh:M Fl}{mr:MH}
end
end P
namespace P
open PySem PySem.Spec PyProof.Rows L2 M2 M3 M4 Builtin Builtin.ObjectAttr
section
variable{K:PySem.W.Frag}{h:Heap}{C:Addr}{cd:ClassData}{bm:List Value}
end
section
variable{prog:Program}{w:World}{A:Around}{E:Value->Shared->Prop}{h:Heap}{g:Array GenState}{d:Drawn}{t:Nat}{os:OsState}
variable{nm q:Str}{C N:Addr}{bs bm bmB:List Value}{hdct:Bool}{sn:List Str}{sub:List Value}{ab:Bool}{col:Option Bool}{dd:Option Addr}{k0 k1 k2 k3 k5:Option Value}{B newId initId:String}
end
section
variable{prog:Program}{w:World}{A:Around}{E:Value->Shared->Prop}{s:Shared}{K:PySem.W.Frag}{x C:Addr}{cd:ClassData}{bm:List Value}{ox:Obj}{od:Option Obj}{name:Str}{v:Value}
end
end P
namespace P
open PySem PySem.Spec PyProof.Rows L2 M2 M3 M4
section
variable{X:Cx}{pins:List (Addr×Obj)}{σ:L2.St}{H:Hp}{s:Shared}{a C:Addr}{cd:ClassData}{bm:List Value}{d:Option Addr}{fs:List (Str×V)}{f:Str}{y:V}{u:Value}{A:Around}{E:Value->Shared->Prop}
variable{o value:Expr}{pos pos':Pos}{j:Nat}{ss:List Stmt}{r:List (Str×Nat)}
end
section
variable{P:Program}{w:World}{K:PySem.W.Frag}{mg:Str->Option Value}{base:Heap}{CX:jh}
end
section
variable{X:Cx}{cm:String->Addr}{E:L2.St->XK}{e:Expr}{es:List Expr}{pos p:Pos}{CX:jh}{k n:Nat}{f:Addr}{fd:FuncData}{ps:List Str}{C:String}{fl:List (Str×Nat)}{ms:M (List PV)}{x:Str}
end
section
variable{M:Model}{A:Around}{E:Value->Shared->Prop}{s:Shared}{K:PySem.W.Frag}{env:Env}
end
section
variable{X:Cx}{cm:String->Addr}{E:L2.St->XK}{e:Expr}{es:List Expr}{pos cpos np:Pos}{CX:jh}{k n:Nat}{f:Addr}{fd:FuncData}{ps:List Str}{C:String}{fl:List (Str×Nat)}{ms:M (List PV)}{x:Str}
end
end P
namespace P
open PySem PySem.Spec PyProof.Rows L2 M2 M3 M4 Builtin Builtin.ObjectAttr
section
variable{prog:Program}{w:World}{A:Around}{E:Value->Shared->Prop}{s:Shared}{K:PySem.W.Frag}{x C:Addr}{ox:Obj}{od:Option Obj}
end
section
variable{X:Cx}{cm:String->Addr}{K:KK}
end
section
variable{ρ:ħ}{C:String}{n i:Nat}{fl:List (Str×Nat)}{ms:M (List PV)}{mb mh:M Fl}{mr:MH}{yes no:List String}{x:PX}
end
end P
namespace P
open PySem PySem.Spec PyProof.Rows L2 M2 M3 M4
section
variable{X:Cx}{cm:String->Addr}{E:L2.St->XK}{y:Str}{Dn:String}{yp hpos:Pos}{b₀:Stmt}{suite:List Stmt}{rest:List ExceptHandler}{yes no:List String}{mh:M Fl}{mr:MH}
end
end P
namespace P
open PySem PySem.Spec PyProof.Rows L2 M2 M3 M4
section
variable{X:Cx}{cm:String->Addr}{K:KK}
def GX:List V->Hp->VK->Prop:=λxs H Q=>(∃i,xs=[.int i]/\Q (.int i) H)\/∃k,xs=[.bl k]/\Q (.int (if k then 1 else 0)) H
def U_:ő X (.type "int") GX:=Dc
def GZ:List PV->Option PV
 | [.int i]=>some (.int i)
 | [.bl k]=>some (.int (if k then 1 else 0))
 |_=>none
def Va:dN K GX GZ:=by
 intro c F H σ ρ ps pv vs Q rel r e k
 unfold GZ at e
 split at e
 ·cases e
  obtain⟨v,rfl,r1⟩:=wR r
  cases r1.int
  exact .inl ⟨_,rfl,k _ F H rel (Same.refl _) (Same.refl _) Rep.int⟩
 ·cases e
  obtain⟨v,rfl,r1⟩:=wR r
  cases r1.bl
  exact .inr ⟨_,rfl,k _ F H rel (Same.refl _) (Same.refl _) Rep.int⟩
 ·cases e
def G_:List V->Hp->VK->Prop:=λxs H Q=>∃i,xs=[.int i]/\i.natAbs.log2<1920/\Q (.str (toString i)) H
def Vb:ő X (.type "str") G_:=ux
def La:List PV->Option PV
 | [.int i]=>if i.natAbs.log2<1920 then some (.str (toString i)) else none
 |_=>none
def Vc:dN K G_ La:=by
 intro c F H σ ρ ps pv vs Q rel r e k
 unfold La at e
 split at e
 ·split at e
  ·rename_i hz
   cases e
   obtain⟨v,rfl,r1⟩:=wR r
   cases r1.int
   exact⟨_,rfl,hz,k _ F H rel (Same.refl _) (Same.refl _) Rep.str⟩
  ·cases e
 ·cases e
section
variable{prog:Program}{w:World}{A:Around}{E:Value->Shared->Prop}{s:Shared}{l:Addr}{xs:Array (Int×Tok)}
end
@[simp] theorem ZbW{i:Int}:GZ [.int i]=some (.int i):=rfl
@[simp] theorem ZbX{b:Bool}:GZ [.bl b]=some (.int (if b then 1 else 0)):=rfl
@[simp] theorem ZbY{i:Int}:La [.int i]=if i.natAbs.log2<1920 then some (.str (toString i)) else none:=rfl
end
end P
namespace P
open PySem PySem.Spec PyProof.Rows L2 M2 M3 M4
def Zam(K:PySem.W.Frag)(C:Addr):Bool:=PySem.W.plainGet K C Str.empty && PySem.W.hasDictIn K C && PySem.W.plainOver K C && PySem.W.findIn K (.ref C) "__setattr__" == some (some (.builtin "object.__setattr__"))
def jr{K:PySem.W.Frag}{C:Addr}(h:Zam K C=true):Cls K C:=by
 unfold Zam at h
 simp only[Bool.and_eq_true,beq_iff_eq] at h
 exact⟨h.1.1.1,h.1.1.2,h.1.2,h.2⟩
def Ng(K:PySem.W.Frag)(C:Addr)(m:Str)(f:Addr):Bool:=PySem.W.findIn K (.ref C) m== some (some (.ref f)) && PySem.W.isFn K (.ref f) && PySem.W.keepIn K (.ref f)
def h_{K:PySem.W.Frag}{C f:Addr}{m:Str}(h:Ng K C m f=true):Meth K C m f:=by
 unfold Ng at h
 simp only[Bool.and_eq_true,beq_iff_eq] at h
 exact⟨h.1.1,h.1.2,h.2⟩
def mkB(K:PySem.W.Frag)(C f:Addr):Bool:=PySem.W.makesIn K C && PySem.W.findIn K (.ref C) "__init__" == some (some (.ref f)) && PySem.W.isFn K (.ref f) && PySem.W.keepIn K (.ref C)
def pX{K:PySem.W.Frag}{C f:Addr}(h:mkB K C f=true):Mk K C f:=by
 unfold mkB at h
 simp only[Bool.and_eq_true,beq_iff_eq] at h
 exact⟨h.1.1.1,h.1.1.2,h.1.2,h.2⟩
section
variable{ρ:ħ}{i n k:Nat}{C:String}{cs:List String}{f m:Str}{mv mo:M PV}{mi:MI}{ms:M (List Slot)}{mb:M Fl}{gk:List (String×MF)}{as:List Slot}{ns:List Str}{ps:List PV}
@[simp] theorem ZbZ:iQ i cs f mv ρ=(mv ρ).bind fun p ρ1=>match ρ1[i]? with
  |some (.rc C ns ps)=>if cs.contains C=true/\ns.length<1000 then .ok .nx (ρ1.set i (.rc C (putN f ns) (zM f p ns ps))) else .bad
  |_=>.bad:=rfl
@[simp] theorem Zb0:cX n k C mb as=if as.length+1=n then IR.of (mb (.rc C [] []::startP (k-1) as)) else .bad:=rfl
@[simp] theorem Zdx{C:String}:IR.of (.ok .nx (.rc C ns ps::ρ))=.ok ns ps:=rfl
@[simp] theorem Zb1:cI C mi ms ρ=(ms ρ).bind fun as ρ1=>match mi as with
  | .ok ns ps=>.ok (.ins C ns ps) ρ1
  | .exc x=>.exc x ρ1
  | .bad=>.bad:=rfl
@[simp] theorem Zdy:ſ cs f (.ins C ns ps)=if cs.contains C=true then(ns.zip ps).lookup f else none:=rfl
@[simp] theorem Zb2:pU m gk mo ms ρ=(mo ρ).bind fun p ρ1=>match p with
  | .ins C ns ps=>match gk.lookup C with
    |some mf=>if ns.contains m=true then .bad else(ms ρ1).bind λas ρ2=>match mf (.sh (.ins C ns ps)::as) with
     | .ret r=>.ok r ρ2
     | .exc x=>.exc x ρ2
     | .bad=>.bad
    |none=>.bad
  |_=>.bad:=rfl
end
end P
namespace M3
open PySem PySem.Spec PyProof.Rows L2 M2
section
variable{X:Cx}{elt tg iter:Expr}{ifs:List Expr}{scope:Scope}{pos:Pos}{wi:TI}{g:TG}{tt:TT}{te:TE}
def BK{iv:Nat}{y:Str}{py spos:Pos}(hN:X.N.Nodup)(hiN:X.N[iv]?=some y)(hy:X.env.scope.names.lookup y=some .local)(hsw:swapsWith (.ListComp elt [⟨tg,iter,ifs,0⟩] scope pos) (some (.Name y py)) spos.line X.env=pure true)(N':List Str)(js:List Nat)(nl:Nat)(sc:Scope)(hsc:X.env.scope=sc)(hcalm:X.calm=true)
 (hi:PI X.ł tg iter wi)(hg:∀cl C s H fp,PG (bW X.ł N' scope cl C s H fp) tg g)(ht:∀cl C s H fp,Em (bW X.ł N' scope cl C s H fp) ifs tt)(he:∀cl C s H fp,PE (bW X.ł N' scope cl C s H fp) elt te)
 (hcap:gA X.ł sc scope N' js)(hlen:js.length+nl=N'.length:=by rfl)
 (hk:scope.kind=.function:=by rfl)(hcell:∀y∈scope.names,y.2=.cell->scope.names.lookup y.1=some .cell:=by decide +kernel)(hnames:∀y∈scope.names,y.2=.local->scope.names.lookup y.1=some .local:=by decide +kernel)
 (hfree:∀y∈scope.names,y.2=.free->(sc.names.lookup y.1=some .cell\/sc.names.lookup y.1=some .free):=by decide +kernel)
 (hs:∀x,foldedSetIterable iter X.env x=pure x:=by intro _;rfl) :
 PS X.ł (.Assign [.Name y py] (.ListComp elt [⟨tg,iter,ifs,0⟩] scope pos) spos) (λD σ H=>pq js nl wi g tt te σ H λv H'=>D.nx (σ.set iv (some v)) H'):=by
 intro pins s σ H D I h
 obtain⟨Yy,c1,c2,c3⟩:=jG (scope:=scope) (env:=X.ł.env) λy hy hf=>I.ok.has y.1 (by
  have:=hfree y hy hf
  rw[<-hsc] at this
  exact this)
 rw[exec_Assign_Name_used _ _ _ _ (show swapsWith _ _ _ X.ł.env=pure true from hsw)]
 refine wpAny_bind (wpAny_standAt (wpAny_bind ?_))
 show wpAny _ X.A (do let _ <-comprehension (.ListComp elt [⟨tg,iter,ifs,0⟩] scope pos) scope X.ł.env _ (newList []) false (eval iter X.ł.env) (some (assign (.Name y py) X.ł.env))) _ _ s
 refine wpAny_bind (wpAny_mono (wpAny_comprehension_free (Q:=λ_ s'=>SP X.ł pins D .next s') (use:=some (assign (.Name y py) X.ł.env)) rfl hs c1 hk hnames (ņ (hi pins s σ H _ I h) λv s1 h1=>ņ h1 λitv s2 h2=>?_)) (λ_ s' hq=>wpAny_pure (wpAny_pure hq)) λ_ _ e=>e)
 obtain⟨it,fp,tn,J,H2,e,I2,T,st2,f2,q2⟩:=h2
 subst e
 refine wpAny_newObj_type (iG (λh₁ hns₁ old TJ=>?_))
 dsimp only at hns₁ old TJ ⊢
 generalize TQ:s2.heap.push {cls:=.type "list",dict:=none,data:=.seq ([]:List Value).toArray}=bY at hns₁ old TJ ⊢
 have hD:H2 s2.heap.objs.size=none:=I2.hok.fresh (Nat.le_refl _)
 have I3:Inv X.ł pins σ (upd H2 s2.heap.objs.size (.lst [])) {s2 with heap:=bY}:=by
  rw[<-TQ]
  exact I2.laid (t':=s2.toks) (λb u e=>Heap.get?_push_of_some _ e) (Nat.le_refl _) ⟨Nat.zero_le _,[],0,.nil,Heap.get?_push_size _ rfl⟩
 have Ko:∀b∈fp,b<s2.heap.objs.size:=λb hb=>by
  obtain⟨o,ho,_⟩:=T.obj 0 _ st2 b hb
  exact Heap.lt_size ho
 have TV:bY.objs.size=s2.heap.objs.size+1:=by rw[<-TQ,Heap.size_push]
 have f3:∀b∈fp,iB X.ł pins (upd H2 s2.heap.objs.size (.lst [])) b:=λb hb=>by
  obtain⟨g0,g1⟩:=f2 b hb
  exact⟨by rw[ĉ (Nat.ne_of_lt (Ko b hb))];exact g0,g1⟩
 have B:=FZ (X:=X.ł) (cl:=Yy) hcell c2 c3 (λx c e=>by
  obtain⟨v,o,ho,_⟩:=I3.cell x c e
  exact Heap.lt_size ho) TJ
 generalize cellsFrom (bY.objs.size+1) scope.names Yy=cl at B ⊢
 obtain⟨W,⟨m0,w0⟩,turn⟩:=q2 s2.heap.objs.size hD
 have I4:=sG (X:=X.ł) (N':=N') (js:=js) (nl:=nl) (sc:=sc) (scope:=scope) (cl:=cl) (fp:=fp) (h':=h₁) (tk:=s2.toks) hsc hk hcap hlen B I3 f3 (λb hb=>by show b<bY.objs.size;rw[TV];exact Nat.lt_succ_of_lt (Ko b hb)) hns₁ old
 have Yz:tn 0 h₁:= T.keep 0 _ _ st2 λb hb o e=>old b o (by rw[<-TQ];exact Heap.get?_push_of_some _ e)
 have Xp:∀b∈fp,(upd H2 s2.heap.objs.size (.lst [])) b=none:=λb hb=>(f3 b hb).1
 have stat:∀{H':Hp},(∀b∈fp,H' b=none)->∀b∈fp,iB (bW X.ł N' scope cl bY.objs.size {s2 with heap:=bY} (upd H2 s2.heap.objs.size (.lst [])) fp) [] H' b:=fun{H'} hn b hb=>by
  obtain⟨g0,g1,g2,g3,g4,g5⟩:=f3 b hb
  refine⟨hn b hb,Nat.ne_of_lt (by show b<bY.objs.size;rw[TV];exact Nat.lt_succ_of_lt (Ko b hb)),λz=>?_,.inl hb,λx c e=>by
   rcases B.at_ x c e with⟨q,_⟩|⟨q,_⟩
   ·exact g4 x c q
   ·exact Nat.ne_of_gt (Nat.lt_trans (by show b<bY.objs.size;rw[TV];exact Nat.lt_succ_of_lt (Ko b hb)) q),λp hp=>absurd hp (by simp[bW])⟩
  rcases List.mem_cons.mp (I3.oW b z) with z|z
  ·exact g1 z
  ·exact g2 z
 have loop:∀s₃:Shared,s₃= {s2 with heap:=h₁}->
  codeAny (model X.prog X.w) X.A (.compLoop (.ListComp elt [⟨tg,iter,ifs,0⟩] scope pos) 0 (.ref it) (.ref s2.heap.objs.size) (compEnvC scope cl bY.objs.size X.ł.env))
   (compPost (model X.prog X.w) X.A X.ł.xe (some (assign (.Name y py) X.ł.env)) (λ_ s'=>SP X.ł pins D .next s') (.ref s2.heap.objs.size) bY.objs.size) s₃:= by
  rintro s₃ rfl
  refine jH (λn s'=>∃i σ' H',Inv (bW X.ł N' scope cl bY.objs.size {s2 with heap:=bY} (upd H2 s2.heap.objs.size (.lst [])) fp) [] σ' H' s'/\tn i s'.heap/\(∀b∈fp,H' b=none)/\W i n σ' H') ?_ m0 ⟨0,_,_,I4,Yz,Xp,w0⟩
  rintro n s5 ⟨i,σ5,H5,I5,JR,R_,w5⟩
  rcases turn i n σ5 H5 w5 with⟨stop,qn⟩|⟨go,N,hN,step⟩
  ·refine ņ (T.done (bW X.ł N' scope cl bY.objs.size {s2 with heap:=bY} (upd H2 s2.heap.objs.size (.lst [])) fp) rfl rfl rfl hcalm i [] s5 σ5 H5 (λ_ _=>False) I5 (stat R_) JR stop) λr s6 ⟨hr,I6⟩=>?_
   subst hr
   obtain⟨m,hm,_⟩:=I6.loc
   have I7:Inv X.ł pins σ H5 s6:=pA (h':=s6.heap) I3 f3 I6 (λb u hb e=>e)
   have hCL:bY.objs.size≠X.ł.env.locals:=Nat.ne_of_gt I3.lt
   have hcC:∀x c,X.ł.env.cells.lookup x=some c->c≠bY.objs.size:=λx c e z=>by
    obtain⟨v,o,ho,_⟩:=I3.cell x c e
    exact absurd (Heap.lt_size ho) (by rw[z];exact Nat.lt_irrefl _)
   have hpC:∀p∈X.ł.pn++pins,p.1≠bY.objs.size:=λp hp z=>by
    have:=Heap.lt_size (I3.pin p hp).1
    rw[z] at this
    exact Nat.lt_irrefl _ this
   have hnC:H5 bY.objs.size=none:=I6.free
   refine wpAny_assign_Name (rN (X:=X.ł) (i:=iv) I7 hN hiN (.inl hy) (v:=.ref s2.heap.objs.size) rfl (λs8 I8 ⟨a8,sb8,ha8⟩=>?_) (.inr hy))
   have ne8:bY.objs.size≠a8:=by
    rcases ha8 with rfl|ha8
    ·exact hCL
    ·exact λz=>hcC _ _ ha8 z.symm
   refine⟨m,hm.sameBut sb8 ne8,λh' hs'=>⟨_,H5,?_,qn⟩⟩
   have kp:∀b o,b≠bY.objs.size->s8.heap.get? b=some o->h'.get? b=some o:=λb o hb e=>hs'.extBut b o hb e
   have kp':∀b o,b∉[bY.objs.size]->s8.heap.get? b=some o->h'.get? b=some o:=λb o hb e=>kp b o (λz=>hb (by rw[z];exact List.mem_cons_self)) e
   refine I8.call' (ch:=[bY.objs.size]) (s':={s8 with heap:=h'}) rfl ⟨λb o e _ _ hx=>kp' b o hx e,λb o e _ _ hx=>⟨o.slots,kp' b o hx e⟩,λb o _ n _=>n,λb o e hx=>⟨o,kp' b o hx e⟩,λ_ _ q=>q,λ_ _ _ q=>q,λ_ ps q=>q⟩ (Bb I8.hok hnC kp) I8.bare λb hb=>?_
   cases List.mem_singleton.mp hb
   exact⟨.inr I3.sz,hCL,hcC,hpC⟩
  ·refine ņ (T.item (bW X.ł N' scope cl bY.objs.size {s2 with heap:=bY} (upd H2 s2.heap.objs.size (.lst [])) fp) rfl rfl rfl hcalm i [] s5 σ5 H5 (λ_ _=>False) I5 (stat R_) JR go) λr s6 ⟨u,hr,h6⟩=>?_
   subst hr
   refine ņ h6 λ_ s7 ⟨x,H7,I7,r7,y7,TY,fr7⟩=>?_
   have I7':=I7.pinned (stat fr7) (T.obj _ _ TY)
   have again:∀{s8:Shared} {σ8:L2.St} {H8:Hp},Inv (bW X.ł N' scope cl bY.objs.size {s2 with heap:=bY} (upd H2 s2.heap.objs.size (.lst [])) fp) ([]++lq fp s7.heap) σ8 H8 s8->
    Inv (bW X.ł N' scope cl bY.objs.size {s2 with heap:=bY} (upd H2 s2.heap.objs.size (.lst [])) fp) [] σ8 H8 s8/\tn (i+1) s8.heap/\∀b∈fp,H8 b=none:=fun{s8 σ8 H8} I8=>by
    refine⟨I8.gq,T.keep _ _ _ TY λb hb o e=>(I8.pin (b,o) (List.mem_append_right _ (List.mem_append_right _ (aV hb e)))).1,λb hb=>?_⟩
    obtain⟨o,e,d⟩:=T.obj _ _ TY b hb
    exact(I8.pin (b,o) (List.mem_append_right _ (List.mem_append_right _ (aV hb e)))).2.1
   refine ņ (hg cl _ _ _ fp _ s7 σ5 H7 x u _ I7' r7 (step x H7 y7)) λ_ s8 ⟨σ8,H8,I8,q8⟩=>?_
   refine ņ (ht cl _ _ _ fp _ s8 σ8 H8 _ I8 q8) λc s9 ⟨H9,I9,q9⟩=>?_
   cases c with
   |false=>
    rw[if_neg Bool.false_ne_true] at q9 ⊢
    obtain⟨m',hm',w9⟩:=hN _ _ q9
    obtain⟨a1,a2,a3⟩:=again I9
    exact⟨m',hm',i+1,σ8,H9,a1,a2,a3,w9⟩
   |true=>
    rw[if_pos rfl] at q9 ⊢
    refine ņ (he cl _ _ _ fp _ s9 σ8 H9 _ I9 q9) λyv s10 ⟨y,H10,I10,r10,ys,e10,l10,w10⟩=>?_
    refine ņ (ı _ s10 σ8 H10 (.ref s2.heap.objs.size) [y] (.ref s2.heap.objs.size) [yv] (λ_ T_=>N σ8 T_) I10 rfl (.cons r10 .nil) ⟨_,ys,y,rfl,rfl,e10,l10,w10⟩) λ_ s11 ⟨v11,T_,I11,_,w11⟩=>?_
    obtain⟨a1,a2,a3⟩:=again I11
    obtain⟨m',hm',w11⟩:=hN _ _ w11
    exact⟨m',hm',i+1,σ8,T_,a1,a2,a3,w11⟩
 exact codeAny_compStart_list (loop _ rfl) (T.self _ 0 _ _ _ Yz (loop _ rfl))
end
end M3
namespace P
open PySem PySem.Spec PyProof.Rows L2 M2 M3 M4
section
variable{X:Cx}{cm:String->Addr}{E:L2.St->XK}{elt tg iter:Expr}{ifs:List Expr}{scope:Scope}{pos:Pos}{mi:M (List PV)}{g:Tg}{mt:M Bool}{me:M PV}
theorem PS.ł{st:Stmt}{t:TS}(h:PS X.ł st t):PS X st t:=λpins s σ H D I hw=>
 wpAny_mono (h pins s σ H D (I.wish _) hw) (λ_ _ q=>q.dZ) λ_ _ z=>False.elim z
def Vd{i:Nat}{y:Str}{py spos:Pos}(hN:X.N.Nodup)(hi0:X.N[i]?=some y)(hy:X.env.scope.names.lookup y=some .local)(N':List Str)(js:List Nat)(nl:Nat)(sc:Scope)(hsc:X.env.scope=sc)(hcalm:X.calm=true)
 (hi:PI X.ł tg iter (tI (kk X cm) E mi))(hg:∀cl C s H fp,PG (bW X.ł N' scope cl C s H fp) tg (tT (kk X cm) g))(ht:∀cl C s H fp,Em (bW X.ł N' scope cl C s H fp) ifs (tB (kk X cm) EF mt))(he:∀cl C s H fp,PE (bW X.ł N' scope cl C s H fp) elt (tV (kk X cm) EF me))
 (hcap:gA X.ł sc scope N' js)(hlen:js.length+nl=N'.length:=by rfl)
 (hk:scope.kind=.function:=by rfl)(hcell:∀y∈scope.names,y.2=.cell->scope.names.lookup y.1=some .cell:=by decide +kernel)(hnames:∀y∈scope.names,y.2=.local->scope.names.lookup y.1=some .local:=by decide +kernel)
 (hfree:∀y∈scope.names,y.2=.free->(sc.names.lookup y.1=some .cell\/sc.names.lookup y.1=some .free):=by decide +kernel)
 (hs:∀x,foldedSetIterable iter X.env x=pure x:=by intro _;rfl)(hsw:swapsWith (.ListComp elt [⟨tg,iter,ifs,0⟩] scope pos) (some (.Name y py)) spos.line X.env=pure true:=by rfl) :
 PS X (.Assign [.Name y py] (.ListComp elt [⟨tg,iter,ifs,0⟩] scope pos) spos) (tS (kk X cm) E (ĸ i (Œ js nl mi g mt me))):=
 PS.wk (PS.ł (BK hN hi0 hy hsw N' js nl sc hsc hcalm (Mx hi) hg ht he hcap hlen hk hcell hnames hfree hs)) fun D σ H ⟨c,F,ρ,rel,h⟩=>wO ⟨c,F,ρ,rel,ş.bind h fun r ρ1 v F1 H1 ć s1 q h1=>by
   cases r with
   |sh p=>exact h1 _ F1 H1 (ć.put rfl ⟨v,rfl,q⟩) (Same.refl _)
   |ow ps=>
    obtain⟨a,vs,rfl,q1,q2,q3,q4,q5⟩:=q
    exact h1 _ F1 H1 (ć.Dq ⟨a,vs,rfl,q1,q2,q3,q5⟩ λ_ z=>V.ref.inj z▸q4) (Same.refl _)
   |ot ps qs rs=>
    obtain⟨p,a,xs,vs,ys,rfl,q0,qx,q1,q2,q3,q4,q5,q6⟩:=q
    exact h1 _ F1 H1 (ć.Dq (s:=.ot ps qs rs) ⟨p,a,xs,vs,ys,rfl,q0,qx,q1,q2,q3,q5,q6⟩ λ_ z=>jK (ps:=ps) (qs:=qs) (rs:=rs) z ⟨p,xs,ys,rfl,q0,qx.length.symm⟩▸q4) (Same.refl _)
   |bn t ps qs rows=>exact h1 _ F1 H1 (ć.Um q) (Same.refl _)⟩
end
end P
namespace P
open PySem PySem.Spec PyProof.Rows L2 M2 M3 M4
def MtV(K:KK)(r:V->List V->Hp->VK->Prop)(f:PV->List PV->Option PV):Prop:=∀{c:Ctx} {F H:Hp} {σ:L2.St} {ρ:ħ} {p:PV} {ps:List PV} {pv:PV} {v:V} {vs:List V} {Q:VK},Rel K c F H σ ρ->rR K c σ ρ F H p v->Ui K c σ ρ F H ps vs->f p ps=some pv->
 (∀z F' H',Rel K c F' H' σ ρ->Same F F'->Same H H'->Rep K F' pv z->Q z H')->r v vs H Q
def JD(f:PV->List PV->Option PV)(mo:M PV)(ms:M (List PV)):M PV:=λρ=>(mo ρ).bind λp ρ1=>match p with
 | .str _=>(ms ρ1).bind λps ρ2=>Res.mV (f p ps) ρ2
 |_=>.bad
@[simp] theorem Zd7{f:PV→List PV→Option PV}{mo:M PV}{ms:M (List PV)}{ρ:ħ}:JD f mo ms ρ=(mo ρ).bind fun p ρ1=>match p with
  | .str _=>(ms ρ1).bind λps ρ2=>Res.mV (f p ps) ρ2
  |_=>.bad:=rfl
section
variable{X:Cx}{cm:String->Addr}{K:KK}{E:L2.St->XK}{o e:Expr}{es:List Expr}{name:Str}{apos cpos:Pos}{id:String}{r:V->List V->Hp->VK->Prop}{f:PV->List PV->Option PV}{mo:M PV}{ms:M (List PV)}
def wW(pa:PlainAttrs "str")(slot:PySem.Slot "str" name id)(hty:typeOf (.builtin id)=pure (.type "method_descriptor"))(hf:MtV (kk X cm) r f)(hm:Xn X id r)(ho:PE X o (tR (kk X cm) E mo))(ha:PA X (e::es) (JB (kk X cm) E ms))
 (hbase:attributeBase o name X.env (eval o X.env)=eval o X.env:=by rfl)
 (hfew:((backTo cpos (starEach (e::es) X.env)).all (fun x=>!x.1) && (backToKw cpos (keywordEach [] X.env)).all (fun x=>x.1.isSome)
   && decide ((e::es).length+([]:List Keyword).length+(if([]:List Keyword).isEmpty then 0 else 1)<30))=true:=by rfl)
 (hline:(apos.endLine== cpos.line)=true:=by rfl)(hs:starEach (e::es) X.env=(false,eval e X.env)::starEach es X.env:=by exact Ŗ rfl)(hplain:(backTo cpos (starEach es X.env)).any (·.1)=false:=by rfl) :
 PE X (.Call (.Attribute o name apos) (e::es) [] cpos) (tV (kk X cm) E (JD f mo ms)):=
 PE.wk (aD pa slot hty hm ho ha hbase hfew hline hs hplain) fun σ H Q ⟨c,F,ρ,rel,h⟩=>⟨c,F,ρ,rel,Ÿ.bind h fun p ρ1 v F1 H1 ć _ _ r1 h1=>by
   cases p with
   |str z=>
    cases r1.str
    refine⟨rfl,c,F1,ρ1,ć,Ÿ.bind h1 λps ρ2 vs F2 H2 ĥ sF sH r2 h2=>?_⟩
    cases ef:f (.str z) ps with
    |none=>rw[ef] at h2;exact h2.elim
    |some pv=>rw[ef] at h2;exact hf ĥ (.inl (Rep.str (K:=kk X cm) (F:=F2))) r2 ef λz F' H' ŋ s1 s2 q'=>h2 z F' H' ŋ s1 s2 q'
   |_=>exact h1.elim⟩
def strsOf:List PV->Option (List (List Nat))
 | []=>some []
 | .str z::ps=>(strsOf ps).map (z.cps.toList:: ·)
 |_::_=>none
theorem wX{F:Hp}:∀{ps:List PV} {vs:List V} {bs:List (List Nat)},Ĉ K F ps vs->strsOf ps=some bs->vs=bs.map λl=>V.str (S l)
 | [],vs,bs,r,h=>by
   cases h
   cases r.pr
   rfl
 |p::ps,vs,bs,r,h=>by
  cases r.pr with
  |cons r1 t=>
   cases p with
   |str z=>
    unfold strsOf at h
    obtain⟨cs,e,rfl⟩:=Option.map_eq_some_iff.mp h
    rw[wX (Ĉ.of t) e,show _=V.str z from r1,List.map_cons,Ub]
   |_=>cases h
def gM:PV->List PV->Option PV
 | .str z,[.lst ps]=>(strsOf ps).bind λys=>if(ys.map List.length).sum+ys.length*z.length<=16777216 then some (.str (S (ū z.cps.toList ys))) else none
 |_,_=>none
def ig:MtV K (Gf K.K) gM:=by
 intro c F H σ ρ p ps pv v vs Q rel r1 r2 e k
 unfold gM at e
 split at e
 ·rename_i z qs
  cases r1.str
  obtain⟨u,rfl,r3⟩:=wR r2
  obtain⟨a,xs,rfl,h1,h2⟩:=r3.lst rel.sub
  obtain⟨ys,eb,e⟩:=Option.bind_eq_some_iff.mp e
  split at e
  ·rename_i hz
   cases e
   exact⟨ys,by rw[<-wX h2 eb];exact h1,hz,k _ F H rel (Same.refl _) (Same.refl _) Rep.str⟩
  ·cases e
 ·cases e
def jN:PV->List PV->Option PV
 | .str z,[.str y]=>some (.bl (decide (z.cps.toList.take y.cps.toList.length=y.cps.toList)))
 |_,_=>none
def tH:MtV K uJ jN:=by
 intro c F H σ ρ p ps pv v vs Q rel r1 r2 e k
 unfold jN at e
 split at e
 ·cases r1.str
  obtain⟨u,rfl,r3⟩:=wR r2
  cases r3.str
  cases e
  exact k _ F H rel (Same.refl _) (Same.refl _) Rep.bl
 ·cases e
end
end P
namespace P
open PySem PySem.Spec PyProof.Rows L2 M2 M3 M4
section
variable{X:Cx}{pins:List (Addr×Obj)}{σ:L2.St}{H:Hp}{s:Shared}{h':Heap}
def turns{t':Nat}{fp:List Addr}(I:Inv X pins σ H s)(k:∀b o,b∉fp->s.heap.get? b=some o->h'.get? b=some o)(hf:∀b∈fp,iB X pins H b):Inv X pins σ H {s with heap:=h',toks:=t'}:=by
 have XF:∀b u,H b=some u->b∉fp:=λb u e z=>by rw[(hf b z).1] at e;cases e
 have hL:X.env.locals∉fp:=λz=>(hf _ z).2.1 rfl
 refine I.step (g':=s.gens) (d':=s.drawn) (ch:=fp) (λb hb=>?_) (λb o _ _ hc e _=>k b o hc e) (λb o _ _ hc e _=>⟨o.slots,k b o hc e⟩) (λ_ _ _ _ n=>n)
  (λb o hc e=>⟨o,k b o hc e⟩) (λ_ _ e=>e) (λ_ _ _ e=>e) (λb ps e=>e) (λm hm=>?_) (λb u e=>?_) I.bare
 ·obtain⟨f0,f1,f2,f3,f4,f5⟩:=hf b hb
  exact⟨f3,f1,f4,f5⟩
 ·obtain⟨o,es,ep,ho,r⟩:=hm
  exact⟨o,es,ep,k _ o hL ho,r⟩
 ·refine(I.hok b u e).stay (λc v hc q=>k c v ?_ q) (λ_ q=>q) λ_ _ q=>q
  rcases hc with z|z
  ·rw[z];exact XF b u e
  ·exact XF c _ z
def Ve{a b:Addr}{o:HO}(f:iB X pins H b)(h:b≠a):iB X pins (upd H a o) b:=⟨by rw[ĉ h];exact f.1,f.2⟩
def zN{t':Nat}{fp:List Addr}{u1 u2:Value}{x1 x2:V}(I:Inv X pins σ H s)(r1:RelV x1 u1)(r2:RelV x2 u2)(ht:∃o,h'.get? s.heap.objs.size=some o/\o= {cls:=.type "tuple",data:=.seq #[u1,u2]})
 (k:∀b o,b∉fp->s.heap.get? b=some o->h'.get? b=some o)(hf:∀b∈fp,iB X pins H b)(hlt:∀b∈fp,b<s.heap.objs.size) :
 Inv X pins σ (upd H s.heap.objs.size (.tup [x1,x2])) {s with heap:=h',toks:=t'}:=by
 have I1:Inv X pins σ (upd H s.heap.objs.size (.tup [x1,x2])) {s with heap:=s.heap.push {cls:=.type "tuple",data:=.seq #[u1,u2]},toks:=s.toks}:=
  I.laid (t':=s.toks) (λb u e=>Heap.get?_push_of_some _ e) (Nat.le_refl _) ⟨by show 2<=sizeLine;decide,[u1,u2],.cons r1 (.cons r2 .nil),⟨_,Heap.get?_push_size _ rfl,rfl,_,rfl⟩⟩
 refine turns (fp:=fp) (s:={s with heap:=s.heap.push {cls:=.type "tuple",data:=.seq #[u1,u2]},toks:=s.toks}) (h':=h') (t':=t') I1 (λb o hb e=>?_) λb hb=>Ve (hf b hb) (Nat.ne_of_lt (hlt b hb))
 rcases Heap.get?_push_cases e with⟨rfl,rfl⟩|e
 ·obtain⟨o,h1,h2⟩:=ht
  rw[h1,h2]
 ·exact k b o hb e
end
section
variable{X:Cx}{elts:List Expr}{k:Nat}{tp:Pos}
end
def rLs(K:KK):RR (List PV) V:=λc _ _ F H items v=>∃a,v=.ref a/\(∃xs,ŝ K.K H a xs)/\zF K c.L F (XS K.K a) items
def Hf{K:KK}{L F:Hp}{ps:List PV}{v:V}(h:Rep K F (.lst ps) v):∃a,v=.ref a/\(∃xs,ŝ K.K F a xs)/\zF K L F (XS K.K a) ps:=by
 unfold Rep at h
 obtain⟨a,vs,rfl,e1,e2⟩:=h
 refine⟨a,rfl,⟨vs,e1⟩,?_⟩
 intro c' i F2 H2 σ2 ρ2 ĥ sF _
 have hq:ŝ K.K H2 a vs:=(sF.trans ĥ.sub).seq e1
 refine⟨λp hp=>?_,λhi=>⟨vs,hq,by rw[hi,e2.length];exact Nat.le_refl _⟩⟩
 obtain⟨u,hu,ru⟩:=aW e2.pr hp
 refine⟨⟨vs,u,hq,hu⟩,λx H' ⟨hH,hx⟩=>?_⟩
 subst hH
 have:vs[i]?=some x:=hx vs hq
 rw[hu] at this
 cases this
 exact⟨F2,ĥ,Same.refl _,Same.refl _,Rep.same sF p u ru⟩
def mLs(m:M PV):M (List PV):=λρ=>(m ρ).bind λp ρ1=>match p with
 | .lst ps=>.ok ps ρ1
 |_=>.bad
section
variable{X:Cx}{cm:String->Addr}{E:L2.St->XK}{e:Expr}{m:M PV}
def Zdz(h:PE X e (tV (kk X cm) E m)):PE X e (tG (kk X cm) E (rLs (kk X cm)) (mLs m)):=PE.wk h λσ H Q ⟨c,F,ρ,rel,h⟩=>⟨c,F,ρ,rel,h.bind λp ρ1 v F1 H1 ć s1 s2 q h1=>by
 cases p with
 |lst ps=>
  obtain⟨a,e1,⟨xs,e2⟩,e3⟩:=Hf (L:=c.L) (show Rep (kk X cm) F1 (.lst ps) v from q)
  exact h1 v F1 H1 ć (Same.refl _) (Same.refl _) ⟨a,e1,⟨xs,ć.sub.seq e2⟩,e3⟩
 |_=>exact h1.elim⟩
def bH:Nat->List PV->List PV
 |_,[]=>[]
 |k,p::ps=>.tup [.int k,p]::bH (k+1) ps
theorem tK:∀(k:Nat) (ps:List PV),(bH k ps).length=ps.length
 |_,[]=>rfl
 |k,_::ps=>congrArg (·+ 1) (tK (k+1) ps)
theorem tM:∀(k:Nat) (ps:List PV) (i:Nat),(bH k ps)[i]?=ps[i]?.map λp=>.tup [.int ((k+i:Nat):Int),p]
 |_,[],_=>rfl
 |k,p::ps,0=>rfl
 |k,p::ps,i+1=>by
  show(bH (k+1) ps)[i]?=_
  rw[tM (k+1) ps i,List.getElem?_cons_succ,show k+1+i=k+(i+1) by omega]
def Lb{K:KK}{c:Ctx}{F H:Hp}{σ:L2.St}{ρ:ħ}{T:Addr}{p q:PV}{x y:V}(rel:Rel K c F H σ ρ)(hT:H T=none)(r1:Rep K F p x)(r2:Rep K F q y):Rel K c (upd F T (.tup [x,y])) (upd H T (.tup [x,y])) σ ρ/\Rep K (upd F T (.tup [x,y])) (.tup [p,q]) (.ref T):=by
 have hF:=rel.sub.free hT
 refine⟨rel.alloc hT,?_⟩
 unfold Rep
 exact⟨T,[x,y],rfl,dh.of Ď,Ĉ.cons (Rep.same (Same.upd hF) p x r1) (Ĉ.cons (Rep.same (Same.upd hF) q y r2) Ĉ.nil)⟩
def Hg(i:Nat)(mo:M RV):M Fl:=λρ=>match ρ[i]? with
 |some (.ow _)=>(mo ρ).bind λr ρ1=>match ρ1[i]?,r with
  |some (.ow ps),.ow qs=>if ps.length+qs.length<=16777216 then .ok .nx (ρ1.set i (.ow (ps++qs))) else .bad
  |_,_=>.bad
 |_=>.bad
def BL{i:Nat}{mo:M RV}{D:Ends}{σ:L2.St}{H:Hp}(h:tS (kk X cm) E (Hg i mo) D σ H):mL (Tf X.K "list" Ay (bG i) (fK (tO (kk X cm) E mo) uy)) D σ H:=by
 obtain⟨c,F,ρ,rel,h⟩:=h
 unfold Hg at h
 cases e1:ρ[i]? with
 |none=>rw[e1] at h;exact h.elim
 |some sl=>
  rw[e1] at h
  cases sl with
  |ow ps0=>
   obtain⟨a,vs0,z1,z2,z3,z4,z5,z6⟩:=rel.ow e1
   refine⟨.ref a,z1,.inl ⟨rfl,_,ŝ.of z2⟩,c,F,ρ,rel,?_⟩
   refine ş.bind h λr ρ1 v F1 H1 ć s1 q h1=>?_
   cases e2:ρ1[i]? with
   |none=>simp only[e2] at h1;exact h1.elim
   |some sl2=>
    simp only[e2] at h1
    cases sl2 with
    |ow ps=>
     cases r with
     |ow qs=>
      obtain⟨b,us,eb,hb1,hb2,hb3,hb4,hb5⟩:=q
      subst eb
      obtain⟨a2,vs,w1,w2,w3,w4,w5,w6⟩:=ć.ow e2
      rw[z1] at w1
      cases w1
      dsimp only at h1
      split at h1
      ·rename_i hz
       refine⟨a,b,vs,us,rfl,rfl,w2,hb1,by rw[<-w5.length,<-hb5.length,Ĝ];exact hz,h1 σ F1 _ (ć.write w6 z1 ⟨a,vs++us,rfl,Ď,w3,w4,Ĉ.append w5 hb5⟩ λ_ z=>(V.ref.inj z).symm) (Same.refl _)⟩
      ·exact h1.elim
     |_=>exact h1.elim
    |_=>exact h1.elim
  |_=>exact h.elim
@[simp] theorem ZdA{i:Nat}{mo:M RV}{ρ:ħ}:Hg i mo ρ=(match ρ[i]? with
  |some (.ow _)=>(mo ρ).bind λr ρ1=>match ρ1[i]?,r with
   |some (.ow ps),.ow qs=>if ps.length+qs.length<=16777216 then .ok .nx (ρ1.set i (.ow (ps++qs))) else .bad
   |_,_=>.bad
  |_=>.bad):=rfl
@[simp] theorem Zd8{ρ:ħ}:mLs m ρ=(m ρ).bind fun p ρ1=>match p with
  | .lst ps=>.ok ps ρ1
  |_=>.bad:=rfl
end
end P
namespace P
open PySem PySem.Spec PyProof.Rows L2 M2 M3 M4
section
variable{X:Cx}{cm:String->Addr}{E:L2.St->XK}{e a b:Expr}{m ma mb:M PV}{pos:Pos}
end
section
variable{X:Cx}{K:KK}
end
end P
namespace P
open PySem PySem.Spec PyProof.Rows L2 M2 M3 M4
section
variable{prog:Program}{w:World}{A:Around}{E:Value->Shared->Prop}{s:Shared}
end
section
variable{prog:Program}{w:World}{A:Around}{E:Value->Shared->Prop}{s:Shared}
end
section
variable{prog:Program}{w:World}{A:Around}{E:Value->Shared->Prop}{s:Shared}
end
def Nh(b:Bool)(h:Heap)(it l:Addr)(i:Nat):Prop:=if b=true then h.IsTupleIter it l i else h.IsListIter it l i
def nmB(b:Bool):String:=if b=true then "tuple_iterator" else "list_iterator"
def Nh.ex{b:Bool}{h:Heap}{it l:Addr}{i:Nat}(x:Nh b h it l i):∃o,h.get? it=some o/\o.cls=.type (nmB b)/\o.data=.fields #[.ref l,.int i 0]:=by
 cases b with
 |true=>exact x
 |false=>exact x
section
variable{X:Cx}{pins:List (Addr×Obj)}{σ:L2.St}{H:Hp}{s:Shared}
end
section
variable{prog:Program}{w:World}{A:Around}{E:Value->Shared->Prop}{s:Shared}
end
section
variable{X:Cx}{elts:List Expr}{k:Nat}{tp:Pos}
end
section
variable{X:Cx}{cm:String->Addr}{E:L2.St->XK}{e e2:Expr}
end
end P
namespace P
open PySem PySem.Spec PyProof.Rows L2 M2 M3 M4
def Vf(K:PySem.W.Frag)(neg:Bool):R2:=λx y H Q=>∃d es a xs,Rp K H d x/\y=.ref a/\(ŝ K H a xs\/dh K H a xs)/\lF K H es xs/\d.canLay0=true/\PyData.canLayAll0 es=true/\d.depth<=60/\Q (.bl (if neg then !(es.any λe=>PyData.eqv e d) else es.any λe=>PyData.eqv e d)) H
open Classical in
noncomputable def JF(h:Heap)(d:PyData)(y:Value):Bool:=if ∃e as,Reads h y e as/\e.canLay0=true/\PyData.eqv e d=true then true else false
def Hh{h:Heap}{d e:PyData}{y:Value}{as:List Addr}(r:Reads h y e as)(hc:e.canLay0=true):JF h d y=PyData.eqv e d:=by
 unfold JF
 cases q:PyData.eqv e d with
 |true=>rw[if_pos ⟨e,as,r,hc,q⟩]
 |false=>
  rw[if_neg]
  rintro ⟨e',as',r',hc',q'⟩
  have:=SeqAt.Reads.unique e e' y as as' hc r r'
  subst this
  rw[q] at q'
  cases q'
theorem uU{h:Heap}{d:PyData}:∀{us:List Value} {es:List PyData} {as:List Addr},ReadsAll h us es as->PyData.canLayAll0 es=true->us.any (JF h d)=es.any λe=>PyData.eqv e d
 |_,_,_,.nil,_=>rfl
 |_,_,_,.cons r rs,hc=>by
  unfold PyData.canLayAll0 at hc
  rw[Bool.and_eq_true] at hc
  rw[List.any_cons,List.any_cons,Hh r hc.1,uU rs hc.2]
theorem uV{A:Around}{s:Shared}{d:PyData}{v:Value}{bs:List Addr}(rv:Reads s.heap v d bs)(hd:d.canLay0=true)(hu:A.units+d.depth<cLine):∀{us:List Value} {es:List PyData} {as:List Addr},ReadsAll s.heap us es as->PyData.canLayAll0 es=true->∀u∈us,SeqAt.EqAt A s u v (JF s.heap d u)
 |_,_,_,.nil,_=>λu hu=>by cases hu
 |_,_,_,.cons r rs,hc=>λu hm=>by
  unfold PyData.canLayAll0 at hc
  rw[Bool.and_eq_true] at hc
  rcases List.mem_cons.mp hm with rfl|hm
  ·rw[Hh r hc.1]
   exact SeqAt.eqAt_reads _ _ A s _ _ _ _ r rv hc.1 hd (by omega)
  ·exact uV rv hd hu rs hc.2 u hm
section
variable{X:Cx}
def Vg(hu:X.A.units+64<cLine):aC X (compareOp .In) (Vf X.K false):=by
 intro pins s σ H x y v u Q I rx ry h
 obtain⟨d,es,a,xs,h1,rfl,hq,h3,h4,h5,h6,q⟩:=h
 cases ry
 obtain⟨as,ra⟩:=Rp.reads I d x v h1 rx
 have hu1:X.A.in1.units+d.depth<cLine:=by
  have:X.A.in1.units=X.A.units+1:=rfl
  omega
 rcases hq with hq|hq
 ·obtain⟨its,r,pl,hz⟩:=I.list hq
  obtain⟨bs,rb⟩:=lF.reads I es xs its h3 r
  refine SeqAt.in_listAt (JF s.heap d) pl.isList (λw hw=>uV ra h4 hu1 rb h5 w (by simpa using hw)) ⟨.bl _,H,I,rfl,?_⟩
  rw[show its.toArray.any (JF s.heap d)=its.any (JF s.heap d) by simp,uU rb h5]
  exact q
 ·obtain⟨its,r,pl,hz⟩:=I.tuple hq
  obtain⟨bs,rb⟩:=lF.reads I es xs its h3 r
  refine SeqAt.in_tupleAt (JF s.heap d) pl (λw hw=>uV ra h4 hu1 rb h5 w (by simpa using hw)) ⟨.bl _,H,I,rfl,?_⟩
  rw[show its.toArray.any (JF s.heap d)=its.any (JF s.heap d) by simp,uU rb h5]
  exact q
end
def inD(neg:Bool)(p q:PV):Option PV:=match q with
 | .lst ps=>if ň p && ų ps && decide (dep p<=60) then some (.bl (if neg then !(ps.any λy=>eqB y p) else ps.any λy=>eqB y p)) else none
 | .tup ps=>if ň p && ų ps && decide (dep p<=60) then some (.bl (if neg then !(ps.any λy=>eqB y p) else ps.any λy=>eqB y p)) else none
 |_=>none
theorem uW{p:PV}(h:ň p=true):∀{ps:List PV},ų ps=true->(dR ps).any (λe=>PyData.eqv e (toD p))=ps.any λy=>eqB y p
 | [],_=>rfl
 |y::ps,hp=>by
  unfold ų at hp
  rw[Bool.and_eq_true] at hp
  unfold dR
  rw[List.any_cons,List.any_cons,uO y p hp.1 h,uW h hp.2]
def Vh{K:KK}{neg:Bool}:kO K (Vf K.K neg) (inD neg):=by
 intro c F H σ ρ p q pv v u Q rel r1 r2 e k
 unfold inD at e
 split at e
 ·rename_i ps
  split at e
  ·rename_i hc
   rw[Bool.and_eq_true,Bool.and_eq_true,decide_eq_true_eq] at hc
   cases e
   obtain⟨a,xs,rfl,h1,h2⟩:=r2.lst rel.sub
   refine⟨toD p,dR ps,a,xs,g_ rel.sub hc.1.1 r1,rfl,.inl h1,lF.same rel.sub _ _ (gZ ps xs hc.1.2 h2),eX p hc.1.1,gK ps hc.1.2,by rw[eY];exact hc.2,?_⟩
   rw[uW hc.1.1 hc.1.2]
   exact k _ F H rel (Same.refl _) (Same.refl _) Rep.bl
  ·cases e
 ·rename_i ps
  split at e
  ·rename_i hc
   rw[Bool.and_eq_true,Bool.and_eq_true,decide_eq_true_eq] at hc
   cases e
   obtain⟨a,xs,rfl,h1,h2⟩:=r2.tup rel.sub
   refine⟨toD p,dR ps,a,xs,g_ rel.sub hc.1.1 r1,rfl,.inr h1,lF.same rel.sub _ _ (gZ ps xs hc.1.2 h2),eX p hc.1.1,gK ps hc.1.2,by rw[eY];exact hc.2,?_⟩
   rw[uW hc.1.1 hc.1.2]
   exact k _ F H rel (Same.refl _) (Same.refl _) Rep.bl
  ·cases e
 ·cases e
end P
namespace P
open PySem PySem.Spec PyProof.Rows L2 M2 M3 M4
def Ld{x:Int}{n:Nat}(h1: -(2 ^ n:Int)<x)(h2:x<2 ^ n):bits x<=n:=by
 refine intBits_le_iff.mpr ?_
 have e:((2 ^ n:Nat):Int)=(2:Int) ^ n:=by simp
 have:((x.natAbs:Nat):Int)<((2 ^ n:Nat):Int):=by rw[e];omega
 omega
def Zan{x y:Int}(h:y≠0)(h1: -18446744073709551616<y)(h2:y<18446744073709551616):pL x y=true:=Zak h (Nat.le_trans (Ld (n:=64) (by omega) (by omega)) (by decide))
@[simp] theorem Zb3{x:Int}{n:Nat}(h:n≠0)(h2:n<18446744073709551616):pL x (no_index (OfNat.ofNat n):Int)=true:=by
  have e:(no_index (OfNat.ofNat n):Int)=(n:Int):=rfl
  rw[e]
  exact Zan (by omega) (by omega) (by omega)
@[simp] theorem Zao{x:Int}{n:Nat}(h:n<18446744073709551616):Ť x (no_index (OfNat.ofNat n):Int)=true:=by
  have e:(no_index (OfNat.ofNat n):Int)=(n:Int):=rfl
  rw[e]
  exact mul_r (by omega) (by omega)
@[simp] theorem Zap{x:Int}{n:Nat}(h:n<18446744073709551616):Ť (no_index (OfNat.ofNat n):Int) x=true:=by
  have e:(no_index (OfNat.ofNat n):Int)=(n:Int):=rfl
  rw[e]
  exact cH (by omega) (by omega)
@[simp] theorem Zb4{m n:Nat}(h:m<18446744073709551616)(h2:n≤1000000):wQ (no_index (OfNat.ofNat m):Int) (no_index (OfNat.ofNat n):Int)=true:=by
  have e:(no_index (OfNat.ofNat m):Int)=(m:Int):=rfl
  have e2:(no_index (OfNat.ofNat n):Int)=(n:Int):=rfl
  rw[e,e2]
  unfold wQ
  simp
  omega
@[simp] theorem Zaq{x:Int}{n:Nat}:x.fdiv (no_index (OfNat.ofNat n):Int)=x / (no_index (OfNat.ofNat n):Int):=Int.fdiv_eq_ediv_of_nonneg x (Int.natCast_nonneg n)
@[simp] theorem Zar{x:Int}{n:Nat}:x.fmod (no_index (OfNat.ofNat n):Int)=x % (no_index (OfNat.ofNat n):Int):=Int.fmod_eq_emod_of_nonneg x (Int.natCast_nonneg n)
end P
namespace P
open PySem PySem.Spec PyProof.Rows L2 M2 M3 M4
def add_l{xs ys:List PV}(h:xs.length+ys.length<=16777216):ě (.lst xs) (.lst ys)=some (.ow (xs++ys)):=by
 unfold ě
 simp[h]
mutual
theorem jO:∀p:PV,ň p=true->eqB p p=true
 | .non,_=>by unfold eqB;rfl
 | .bl b,_=>by unfold eqB;simp
 | .int i,_=>by unfold eqB;simp
 | .str x,_=>by unfold eqB;simp
 | .lst xs,h=>by unfold ň at h;unfold eqB;exact lY xs h
 | .tup xs,h=>by unfold ň at h;unfold eqB;exact lY xs h
 | .ins _ _ _,h=>by simp[ň] at h
 | .xc _ _ _,h=>by simp[ň] at h
 | .ty _,h=>by simp[ň] at h
 | .cls _,h=>by simp[ň] at h
theorem lY:∀ps:List PV,ų ps=true->lN ps ps=true
 | [],_=>by unfold lN;rfl
 |p::ps,h=>by
  unfold ų at h
  rw[Bool.and_eq_true] at h
  unfold lN
  rw[jO p h.1,lY ps h.2]
  rfl
end
def lZ{p:PV}(h:ň p=true)(hd:dep p<=60):ķ p p=some (.bl true):=by
 unfold ķ nR
 rw[h,jO p h,decide_eq_true (by omega:min (dep p) (dep p)<=60)]
 rfl
def mj{p:PV}(h:ň p=true)(hd:dep p<=60):ž p p=some (.bl false):=by
 unfold ž nR
 rw[h,jO p h,decide_eq_true (by omega:min (dep p) (dep p)<=60)]
 rfl
def bI{a b:Str}(ha:PyData.strOk a=true)(hb:PyData.strOk b=true):ķ (.str a) (.str b)=some (.bl (decide (a=b))):=by
 have h:eqB (.str a) (.str b)=decide (a=b):=by unfold eqB;rfl
 unfold ķ nR
 rw[show ň (.str a)=true by unfold ň;exact ha,show ň (.str b)=true by unfold ň;exact hb,h]
 rfl
end P
namespace P
open PySem PySem.Spec PyProof.Rows L2 M2 M3 M4
section
variable{g:Tg}{mb:M Fl}{mt:M Bool}{me:M PV}
end
end P
namespace P
open PySem PySem.Spec PyProof.Rows L2 M2 M3 M4
def ZdB(K:PySem.W.Frag)(n:Nat)(t:Ew):TG:=λv σ H Q=>∃a xs,v=.ref a/\ŝ K H a xs/\xs.length=n/\t xs σ H Q
section
variable{X:Cx}{cm:String->Addr}{pos:Pos}
def Vi{es:List Expr}{k:Nat}{t:Ew}{n:Nat}(hc:X.calm=true)(h:yI X es t)
 (hn:(assignEach es X.env).length=n:=by rfl)(hst:(assignEach es X.env).findIdx? (·.1)=none:=by rfl):PG X (.Tuple es k pos) (ZdB X.K n t):=by
 intro pins s σ H v u Q I r hw
 obtain⟨a,xs,e1,hq,hl,hw⟩:=hw
 subst e1
 cases r
 obtain⟨its,rv,ht,hz⟩:=I.list hq
 rw[assign_Tuple]
 refine wpAny_bind (wpAny_standAt ?_)
 unfold unpack
 rw[show(assignEach es X.env).length=its.toArray.size by simp[hn,<-hl,rv.length],hst]
 refine wpAny_bind (wpAny_holding (PySem.W.kun_itemsOf (I.ok.hd hc) ht.isList λh' hx=>?_))
 have I1:Inv X pins σ H {s with heap:=h'}:=I.kept (t':=s.toks) λb o e=>hx b o (Nat.ne_of_lt (Heap.lt_size e)) e
 exact h pins _ σ H xs _ Q I1 (by simpa using rv) hw
def gS(n:Nat)(gs:En):Tg:=λp ρ=>match p with
 | .tup ps=>if ps.length=n then gs ps ρ else none
 | .lst ps=>if ps.length=n then gs ps ρ else none
 |_=>none
@[simp] theorem ZdC{n:Nat}{gs:En}{ps:List PV}{ρ:ħ}:gS n gs (.tup ps) ρ=if ps.length=n then gs ps ρ else none:=rfl
@[simp] theorem ZdD{n:Nat}{gs:En}{ps:List PV}{ρ:ħ}:gS n gs (.lst ps) ρ=if ps.length=n then gs ps ρ else none:=rfl
def Ni{es:List Expr}{k:Nat}{gs:En}{n:Nat}(hc:X.calm=true)(h:yI X es (YS (kk X cm) gs))(hn:(assignEach es X.env).length=n:=by rfl)(hst:(assignEach es X.env).findIdx? (·.1)=none:=by rfl):PG X (.Tuple es k pos) (tT (kk X cm) (gS n gs)):=by
 intro pins s σ H v u Q I r hw
 obtain⟨c,F,ρ,p,rel,rp,hw⟩:=hw
 cases p with
 |tup ps=>
  unfold Rep at rp
  obtain⟨a,xs,h1,h2,h3⟩:=rp
  unfold gS at hw
  dsimp only at hw
  split at hw
  ·rename_i hl
   exact k_ hc h hn hst pins s σ H v u Q I r ⟨a,xs,h1,Same.tup rel.sub h2,by rw[<-h3.length];exact hl,c,F,ρ,ps,rel,h3,hw⟩
  ·exact hw.elim
 |lst ps=>
  unfold Rep at rp
  obtain⟨a,xs,h1,h2,h3⟩:=rp
  unfold gS at hw
  dsimp only at hw
  split at hw
  ·rename_i hl
   exact Vi hc h hn hst pins s σ H v u Q I r ⟨a,xs,h1,rel.sub.seq h2,by rw[<-h3.length];exact hl,c,F,ρ,ps,rel,h3,hw⟩
  ·exact hw.elim
 |_=>exact hw.elim
end
end P
namespace P
open PySem PySem.Spec PyProof.Rows L2 M2 M3 M4
section
variable{X:Cx}{cm:String->Addr}{E:L2.St->XK}{a:Expr}{p p1 pos pos1:Pos}{mr:M (List PV)}
end
end P
namespace P
open PySem PySem.Spec PyProof.Rows L2 M2 M3 M4
def Rel.keep{K:KK}{c:Ctx}{F H H':Hp}{σ:L2.St}{ρ:ħ}(r:Rel K c F H σ ρ)(e:Same H H'):Rel K c F H' σ ρ:= r.call ⟨e,Same.refl F,r.sub.trans e,λ_ _ h=>h⟩
def Rel.Vj{K:KK}{c:Ctx}{F H:Hp}{σ:L2.St}{ρ:ħ}(r:Rel K c F H σ ρ){i:Nat}{ps qs rs:List PV}(e:ρ[i]?=some (.ot ps qs rs)):∃F',Same F F'/\Rel K c F' H σ (ρ.set i (.sh (.tup (ps ++ .lst qs::rs)))):=by
 obtain⟨p,a,xs,vs,ys,h1,h2,h3,h4,h5,h6,h7,h8⟩:=r.slot i _ e
 obtain⟨m1,m2⟩:=r.move (a:=a) ⟨_,_,e,at_of h1,p,xs,ys,rfl,h2,h3.length.symm⟩
 have ra:Rep K (upd F a (.lst vs)) (.lst qs) (.ref a):=by
  unfold Rep
  exact⟨a,vs,rfl,ŝ.of Ď,h7.same (Same.upd h5) qs vs⟩
 have rp:Rep K (upd F a (.lst vs)) (.tup (ps ++ .lst qs::rs)) (.ref p):=by
  unfold Rep
  exact⟨p,_,rfl,dh.of (Same.upd h5 _ _ h2),Ĉ.append (h3.same (Same.upd h5) ps xs) (Ĉ.cons ra (h8.same (Same.upd h5) rs ys))⟩
 have q:=(m1.freeze h4 h6 h5 m2).sJ (i:=i) (s:=.sh (.tup (ps ++ .lst qs::rs))) rfl (show Ŭ K c _ H _ (.sh (.tup (ps ++ .lst qs::rs))) from⟨.ref p,by rw[at_of h1];rfl,rp⟩)
 rw[List.set_set] at q
 exact⟨_,Same.upd h5,q⟩
def wY(i:Nat)(m:M Bool):M Bool:=λρ=>match ρ[i]? with
 |some (.ot ps qs rs)=>match m (ρ.set i (.sh (.tup (ps ++ .lst qs::rs)))) with
  | .ok b _=>.ok b ρ
  |_=>.bad
 |_=>m ρ
section
variable{X:Cx}{cm:String->Addr}{E:L2.St->XK}{e o:Expr}{es:List Expr}{pos:Pos}{m:M Bool}{mo:M RV}{ma:M PV}
def Vk(i:Nat)(h:PT X e (tB (kk X cm) E m)):PT X e (tB (kk X cm) E (wY i m)):=PT.wk h λσ H Q ⟨c,F,ρ,rel,h⟩=>by
 unfold wY at h
 cases e1:ρ[i]? with
 |none=>rw[e1] at h;exact⟨c,F,ρ,rel,h⟩
 |some s=>
  rw[e1] at h
  cases s with
  |ot ps qs rs=>
   obtain⟨F',sF,ŋ⟩:=rel.Vj e1
   refine⟨c,F',_,ŋ,?_⟩
   dsimp only at h
   cases em:m (ρ.set i (.sh (.tup (ps ++ .lst qs::rs)))) with
   |ok b ρ1=>rw[em] at h;exact λv F2 H2 r1 s1 s2 q=>h v F H2 (rel.keep s2) (Same.refl _) s2 q
   |exc x ρ1=>rw[em] at h;exact h.elim
   |bad=>rw[em] at h;exact h.elim
  |_=>exact⟨c,F,ρ,rel,h⟩
structure Le where
 ps:List PV
 r:RV
 rs:List PV
def rLO(K:KK):RR Le (List V):=λc σ ρ F H r vs=>∃xs v ys,vs=xs++v::ys/\Ĉ K F r.ps xs/\rO K c σ ρ F H r.r v/\Ĉ K F r.rs ys
def Hi(mo:M RV):M Le:=λρ=>(mo ρ).bind λr ρ1=>.ok ⟨[],r,[]⟩ ρ1
def uX(ma:M PV)(mr:M Le):M Le:=λρ=>(ma ρ).bind λp ρ1=>(mr ρ1).bind λr ρ2=>.ok ⟨p::r.ps,r.r,r.rs⟩ ρ2
def Vl(he:PE X e (tO (kk X cm) E mo))(hs:starEach [e] X.env=(false,eval e X.env)::starEach [] X.env:=by exact Ŗ rfl):PA X [e] (tG (kk X cm) E (rLO (kk X cm)) (Hi mo)):=
 PA.wk (Ĳ he Ś hs) λσ H Q ⟨c,F,ρ,rel,h⟩=>⟨c,F,ρ,rel,h.bind λr ρ1 v F1 H1 ć _ _ r1 h1=>h1 _ F1 H1 ć (Same.refl _) (Same.refl _) ⟨[],v,[],rfl,Ĉ.nil,r1,Ĉ.nil⟩⟩
def BP{mr:M Le}(ha:PE X e (tV (kk X cm) E ma))(hr:PA X es (tG (kk X cm) E (rLO (kk X cm)) mr))(hs:starEach (e::es) X.env=(false,eval e X.env)::starEach es X.env:=by exact Ŗ rfl):PA X (e::es) (tG (kk X cm) E (rLO (kk X cm)) (uX ma mr)):=
 PA.wk (Ĳ ha hr hs) λσ H Q ⟨c,F,ρ,rel,h⟩=>⟨c,F,ρ,rel,h.bind λp ρ1 v F1 H1 ć _ _ r1 h1=>⟨c,F1,ρ1,ć,h1.bind λr ρ2 vs F2 H2 ĥ sF sH ⟨xs,u,ys,e1,e2,e3,e4⟩ h2=>h2 _ F2 H2 ĥ (Same.refl _) (Same.refl _) ⟨v::xs,u,ys,by rw[e1];rfl,Ĉ.cons (Rep.same sF p v r1) e2,e3,e4⟩⟩⟩
def Hj(mr:M Le):M RV:=λρ=>(mr ρ).bind λr ρ1=>if r.ps.length+r.rs.length<16777216 then(match r.r with
 | .ow qs=>.ok (.ot r.ps qs r.rs) ρ1
 | .sh p=>.ok (.sh (.tup (r.ps++p::r.rs))) ρ1
 |_=>.bad) else .bad
def Vm{x1}{mr:M Le}(h:PA X es (tG (kk X cm) E (rLO (kk X cm)) mr)):PE X (.Tuple es x1 pos) (tO (kk X cm) E (Hj mr)):=PE.wk (zj h) λσ H Q ⟨c,F,ρ,rel,h⟩=>
 ⟨c,F,ρ,rel,h.bind fun r ρ1 vs F1 H1 ć _ _ ⟨xs,v,ys,e1,e2,e3,e4⟩ h1=>by
   subst e1
   split at h1
   ·rename_i hz
    refine⟨by rw[List.length_append,<-e2.length,Ĝ];simp only[List.length_cons,<-e4.length];omega,λp hp=>?_⟩
    have ĥ:=ć.alloc (o:=.tup (xs++v::ys)) hp
    have sF:Same F1 (upd F1 p (.tup (xs++v::ys))):=Same.upd (ć.sub.free hp)
    obtain⟨ps,rv,rs⟩:=r
    cases rv with
    |sh q=>
     refine h1 _ _ _ ĥ sF (Same.upd hp) ?_
     show Rep _ _ _ _
     unfold Rep
     exact⟨p,_,rfl,dh.of Ď,Ĉ.append (e2.same sF ps xs) (Ĉ.cons (Rep.same sF q v e3) (e4.same sF rs ys))⟩
    |ow qs=>
     obtain⟨a,vs,rfl,q1,q2,q3,q4,q5⟩:=e3
     have na:a≠p:=λz=>by rw[z,hp] at q1;cases q1
     exact h1 _ _ _ ĥ sF (Same.upd hp) ⟨p,a,xs,vs,ys,rfl,Ď,e2.same sF ps xs,by rw[ĉ na];exact q1,by rw[ĉ na];exact q2,q3,ć.cB sF q4,q5.same sF qs vs,e4.same sF rs ys⟩
    |ot _ _ _=>exact h1.elim
    |bn _ _ _ _=>exact h1.elim
   ·exact h1.elim⟩
@[simp] theorem ZdE{ps qs rs:List PV}:(RV.ot ps qs rs).val=.tup (ps ++ .lst qs::rs):=rfl
@[simp] theorem ZdF{ps qs rs:List PV}:(RV.ot ps qs rs).slot=.ot ps qs rs:=rfl
@[simp] theorem Zb5{i:Nat}{ρ:ħ}:wY i m ρ=(match ρ[i]? with
  |some (.ot ps qs rs)=>match m (ρ.set i (.sh (.tup (ps ++ .lst qs::rs)))) with
   | .ok b _=>.ok b ρ
   |_=>.bad
  |_=>m ρ):=rfl
@[simp] theorem Zb6{ρ:ħ}:Hi mo ρ=(mo ρ).bind λr ρ1=>.ok ⟨[],r,[]⟩ ρ1:=rfl
@[simp] theorem Zas{mr:M Le}{ρ:ħ}:uX ma mr ρ=(ma ρ).bind λp ρ1=>(mr ρ1).bind λr ρ2=>.ok ⟨p::r.ps,r.r,r.rs⟩ ρ2:=rfl
@[simp] theorem Zat{mr:M Le}{ρ:ħ}:Hj mr ρ=(mr ρ).bind fun r ρ1=>if r.ps.length+r.rs.length<16777216 then(match r.r with
  | .ow qs=>.ok (.ot r.ps qs r.rs) ρ1
  | .sh p=>.ok (.sh (.tup (r.ps++p::r.rs))) ρ1
  |_=>.bad) else .bad:=rfl
end
end P
namespace P
open PySem PySem.Spec PyProof.Rows L2 M2 M3 M4
section
variable{X:Cx}{K:KK}
end
end P
namespace P
open PySem PySem.Spec PyProof.Rows L2 M2 M3 M4
section
variable{K:KK}{c c':Ctx}{F F' H H':Hp}{σ:L2.St}{ρ:ħ}
end
section
variable{X:Cx}{cm:String->Addr}{E:L2.St->XK}{elt tg iter:Expr}{ifs:List Expr}{scope:Scope}{pos:Pos}{mi:M (List PV)}{g:Tg}{mt:M Bool}{me:M RV}
end
section
variable{K:KK}{c:Ctx}{F H:Hp}{σ:L2.St}{ρ:ħ}
end
section
variable{X:Cx}{cm:String->Addr}{E:L2.St->XK}{e:Expr}{es:List Expr}{m:M Bool}{mv:M PV}{ms:M (List Slot)}
end
end P
namespace P
open PySem PySem.Spec PyProof.Rows L2 M2 M3 M4
section
variable{X:Cx}{K:KK}
end
section
variable{ρ:ħ}{i x j:Nat}{m:M Bool}{mv:M PV}{ms:M (List Slot)}{mp:M (List (List PV))}{g:Tg}{mt:M Bool}{me:M RV}{mi:M (List PV)}{js:List Nat}{nl:Nat}
end
end P
namespace P
open PySem PySem.Spec PyProof.Rows L2 M2 M3 M5
section
variable{K:KK}{c:Ctx}{F H:Hp}{σ:L2.St}{ρ:ħ}
end
section
variable{X:Cx}{cm:String->Addr}{E:L2.St->XK}{x px:Str}{c Pt:Addr}{params:Arguments}{body e:Expr}{scope:Scope}{p pos Uc kpos:Pos}{mr:M (List PV)}{me:M PV}
end
section
variable{P:Program}{w:World}{K:PySem.W.Frag}{cm:String->Addr}{mg:Str->Option Value}{base:Heap}{CX:jh}
end
section
variable{js:List Nat}{me:M PV}{mr:M (List PV)}{ρ:ħ}
end
end P
namespace P
open PySem PySem.Spec PyProof.Rows L2 M2 M3 M5
end P
namespace P
open PySem PySem.Spec PyProof.Rows L2 M2 M3 M5
section
variable{X:Cx}{cm:String->Addr}{E:L2.St->XK}{CX:jh}{k n:Nat}{f:Addr}{fd:FuncData}{ps:List Str}{mf:MF}{mr:M (List Slot)}{x:Str}{p pos:Pos}{e:Expr}{es:List Expr}{ds:List Value}{dvs:List V}{dps:List Slot}
end
end P
namespace P
open PySem PySem.Spec PyProof.Rows L2 M2 M3 M5
def BN:Nat->(List Value->Prop)->Prop
 |0,p=>p []
 |n+1,p=>∀u,BN n λus=>p (u::us)
theorem uY:∀{n:Nat} {p:List Value->Prop},BN n p->∀us,us.length=n->p us
 |0,p,h,[],_=>h
 |0,p,h,_::_,e=>by cases e
 |n+1,p,h,[],e=>by cases e
 |n+1,p,h,u::us,e=>uY (h u) us (Nat.succ.inj e)
structure Df(K:PySem.W.Frag)(mg:Str->Option Value)(x:Str)(st:Stmt)(ps:List Str)(f:Addr)(fd:FuncData):Prop where
 F:Jz K x x st f fd
 m:mg x=some (.ref f)
 b:Binds K fd ps []
 bb:∀(s:Shared) (us:List Value),us.length=ps.length->BindsTo s fd ⟨us,[]⟩ (ps.zip us)
structure Dm(K:PySem.W.Frag)(C:Addr)(x q:Str)(st:Stmt)(ps:List Str)(f:Addr)(fd:FuncData):Prop where
 F:Jz K x q st f fd
 b:Binds K fd ps []
section
variable{K:PySem.W.Frag}{h:Heap}{mg:Str->Option Value}{x q:Str}{st:Stmt}{ps:List Str}{f C:Addr}{oc kV dc pm cd ct:Value}{od an:Option Addr}{sl:Array (Option Value)}
def Ĵ(X:K.In h)(G:h.Ns mainGlobals mg)(hb:∀(kV dc pm:Value) (an:Option Addr) (cd ct:Value),BN ps.length λus=>bindArgs (PySem.W.fnOf x x (bh st) (ś st) (Ć st) .none kV dc pm an cd ct) ⟨us,[]⟩=pure (ps.zip us))
 (a:PySem.W.nsIn K mainGlobals x=some (some (.ref f)))(l:K.lookup f=some ⟨oc,od,.func (PySem.W.fnOf x x (bh st) (ś st) (Ć st) .none kV dc pm an cd ct),sl⟩)(c:PySem.W.codeIn K cd x=true)(k:PySem.W.keepIn K (.ref f)=true) :
 Df K mg x st ps f (PySem.W.fnOf x x (bh st) (ś st) (Ć st) .none kV dc pm an cd ct):=
 have F:=Fw (st:=st) l c k
 ⟨F,PySem.W.mg_of X G a,F.binds λkV dc pm an cd ct us hl=>uY (hb kV dc pm an cd ct) us hl,λs us hl=>.of_eq (uY (hb kV dc pm an cd ct) us hl)⟩
def Hl(hb:∀(kV dc pm:Value) (an:Option Addr) (cd ct:Value),BN ps.length λus=>bindArgs (PySem.W.fnOf x q (bh st) (ś st) (Ć st) .none kV dc pm an cd ct) ⟨us,[]⟩=pure (ps.zip us))
 (a:PySem.W.findIn K (.ref C) x=some (some (.ref f)))(l:K.lookup f=some ⟨oc,od,.func (PySem.W.fnOf x q (bh st) (ś st) (Ć st) .none kV dc pm an cd ct),sl⟩)(c:PySem.W.codeIn K cd q=true)(k:PySem.W.keepIn K (.ref f)=true) :
 Dm K C x q st ps f (PySem.W.fnOf x q (bh st) (ś st) (Ć st) .none kV dc pm an cd ct):=
 have F:=Fw (st:=st) l c k
 ⟨F,F.binds λkV dc pm an cd ct us hl=>uY (hb kV dc pm an cd ct) us hl⟩
end
end P
namespace P
open PySem PySem.Spec PyProof.Rows L2 M2 M3 M5
def dG{N ps:List Str}{sc:Scope}(h1:sc.kind=.function:=by rfl)(h2:sc.isCoroutine=false:=by rfl)(h3:sc.isGenerator=false:=by rfl)(h4:N.Nodup:=by decide +kernel)(h5:N.take ps.length=ps:=by rfl)(h6:∀x∈ps,sc.names.lookup x=some .local\/sc.names.lookup x=some .cell:=by decide +kernel)
 (h7:∀y∈sc.names,y.2≠ .free:=by decide +kernel):đ N ps sc:=⟨h1,h2,h3,h4,h5,h6,h7⟩
section
variable{X:Cx}{cm:String->Addr}{E:L2.St->XK}{CX:jh}{k j n:Nat}{f:Addr}{fd:FuncData}{ps:List Str}{mf:MF}{mr:M (List Slot)}{x:Str}{st:Stmt}{p pos:Pos}{e:Expr}{es:List Expr}
def ď(F:ī X.prog X.w X.K X.mg X.base CX k f fd ps (cu (kk X cm) n mf))(D:Df X.K X.mg x st ps f fd)(hr:Ū j X.A)(hx:bA CX X E)
 (ha:PA X (e::es) (tA (kk X cm) E mr))(hlen:∀{ps:List Slot},(∃r,mf ps=r/\∀z,r=z->z≠ .bad)->ps.length=n:=by exact Ř)(hg:Gl X x:=by rfl)(hkj:k<=j:=by decide)(hdb:(x== ("__debug__" :Str))=false:=by decide)(he:starEach (e::es) X.env=(false,eval e X.env)::starEach es X.env:=by exact Ŗ rfl)(hpl:(backTo pos (starEach es X.env)).any (·.1)=false:=by rfl) :
 PE X (.Call (.Name x p) (e::es) [] pos) (tO (kk X cm) E (ę mf mr)):=Uq F hlen (hr.mono hkj) hg D.m D.F.kp D.b hx ha hdb he hpl
end
section
variable{Pg:Program}{w:World}{K:PySem.W.Frag}{mg:Str->Option Value}{base:Heap}{CX:jh}{cm:String->Addr}
def ŧ{x qual:Str}{st:Stmt}{f:Addr}{fd:FuncData}{N ps:List Str}{k n j:Nat}{mb:M Fl}{mf:MF}(F:Jz K x qual st f fd)(S:đ N ps (Ć st))
 (hbody:∀(cdv:Value) (A:Around) (outer:List Env) (s:Shared) (H:Hp) (E:XK),Ū k (A.deeper (envOfC qual (Ć st) s.heap.objs.size f cdv))→(A.deeper (envOfC qual (Ć st) s.heap.objs.size f cdv)).units+64<cLine→
   aB (qX CX Pg w K mg base N qual (Ć st) f cdv A outer s H E) (ś st) (tS ⟨K,cm⟩ (λ_=>E) mb))(hn:ps.length=n:=by rfl)(hj:N.length=j:=by rfl)(hf:mf=Ŏ n j mb:=by rfl):ī Pg w K mg base CX (k+1) f fd ps (cu ⟨K,cm⟩ n mf):=
 fnQ F S hn hj hf λcdv A outer s H E hr=>hbody cdv A outer s H E hr hr.units
end
end P
namespace P
open PySem PySem.Spec PyProof.Rows L2 M2 M3 M4
section
variable{X:Cx}{cm:String->Addr}{E:L2.St->XK}{e:Expr}{m:M PV}
end
end P
namespace P
open PySem PySem.Spec PyProof.Rows L2 M2 M3 M4
def tgN:Expr->List Str
 | .Name x _=>[x]
 | .Tuple es _ _=>es.flatMap fun e=>match e with
   | .Name x _=>[x]
   |_=>[]
 |_=>[]
def cN(X:Cx)(js:List Nat)(tg:Expr):List Str:=js.map (λ(j:Nat)=>(X.N[j]?).getD "")++tgN tg
def ndB{l:List Str}(h:decide l.Nodup=true):l.Nodup:=of_decide_eq_true h
def frB{a b:Scope}(h:(a.names.all λy=>decide (y.2=.free->(b.names.lookup y.1=some .cell\/b.names.lookup y.1=some .free)))=true):∀y∈a.names,y.2=.free->(b.names.lookup y.1=some .cell\/b.names.lookup y.1=some .free):=λy hy=>of_decide_eq_true (List.all_eq_true.mp h y hy)
section
variable{X:Cx}{cm:String->Addr}{E:L2.St->XK}{elt tg iter:Expr}{ifs:List Expr}{scope:Scope}{pos:Pos}{mi:M (List PV)}{g:Tg}{mt:M Bool}{me:M PV}{js:List Nat}{nl:Nat}
end
end P
namespace P
open PySem PySem.Spec PyProof.Rows L2 M2 M3 M4
section
variable{X:Cx}
end
section
variable{X:Cx}{cm:String->Addr}{K:KK}{E:L2.St->XK}{o e:Expr}{es:List Expr}{name:Str}{apos cpos:Pos}{id:String}{r:V->List V->Hp->VK->Prop}{f:PV->List PV->Option PV}{mo:M PV}{ms:M (List PV)}
end
end P
namespace P
open PySem PySem.Spec PyProof.Rows L2 M2 M3 M4
section
variable{X:Cx}{cm:String->Addr}{E:L2.St->XK}{a b e:Expr}{es:List Expr}{ma mb m:M PV}{mo:M RV}{pos p:Pos}
def Ă{i j pos}:PE X (.Constant (.int i) j pos) (tR (kk X cm) E (mC (.int i))):=Ĕ Ņ
def BR{j pos}:PE X (.Constant .none j pos) (tR (kk X cm) E (mC .non)):=Ĕ Bm
def Š{x j pos}:PE X (.Constant (.str x) j pos) (tR (kk X cm) E (mC (.str x))):=Ĕ ŀ
def bJ(ha:PE X a (tR (kk X cm) E ma))(hb:PE X b (tR (kk X cm) E mb))(hs:oE b:=by exact λ_ _=>rfl):PE X (.Subscript a b pos) (tV (kk X cm) E (Ą Ğ ma mb)):=ZcC Y_ Yw ha hb hs
def ĺ(ha:PE X a (tR (kk X cm) E ma))(hb:PE X b (tR (kk X cm) E mb))(hs:oE b:=by exact λ_ _=>rfl):PE X (.Subscript a b pos) (tR (kk X cm) E (Ą Ğ ma mb)):=Ĕ (bJ ha hb hs)
def v_mod(ha:PE X a (tR (kk X cm) E ma))(hb:PE X b (tR (kk X cm) E mb)):PE X (.BinOp a .Mod b pos) (tV (kk X cm) E (Ą Ġ ma mb)):=iI Uy Tw ha hb
def į(ha:PE X a (tR (kk X cm) E ma))(hb:PE X b (tR (kk X cm) E mb)):PE X (.BinOp a .Mod b pos) (tR (kk X cm) E (Ą Ġ ma mb)):=Ĕ (v_mod ha hb)
def v_mul(ha:PE X a (tR (kk X cm) E ma))(hb:PE X b (tR (kk X cm) E mb)):PE X (.BinOp a .Mult b pos) (tV (kk X cm) E (Ą Ĺ ma mb)):=iI Uz Ku ha hb
def dU(ha:PE X a (tR (kk X cm) E ma))(hb:PE X b (tR (kk X cm) E mb)):PE X (.BinOp a .Mult b pos) (tR (kk X cm) E (Ą Ĺ ma mb)):=Ĕ (v_mul ha hb)
def v_sub(ha:PE X a (tR (kk X cm) E ma))(hb:PE X b (tR (kk X cm) E mb)):PE X (.BinOp a .Sub b pos) (tV (kk X cm) E (Ą aQ ma mb)):=iI Uw Tt ha hb
def Ho(ha:PE X a (tR (kk X cm) E ma))(hb:PE X b (tR (kk X cm) E mb)):PE X (.BinOp a .Sub b pos) (tR (kk X cm) E (Ą aQ ma mb)):=Ĕ (v_sub ha hb)
def Hq(ha:PE X a (tR (kk X cm) E ma))(hb:PE X b (tR (kk X cm) E mb)):PE X (.BinOp a .FloorDiv b pos) (tV (kk X cm) E (Ą aq ma mb)):=iI Ux Kh ha hb
def iR(ha:PE X a (tR (kk X cm) E ma))(hb:PE X b (tR (kk X cm) E mb)):PE X (.BinOp a .FloorDiv b pos) (tR (kk X cm) E (Ą aq ma mb)):=Ĕ (Hq ha hb)
def mX(ha:PE X a (tR (kk X cm) E ma))(hb:PE X b (tR (kk X cm) E mb)):PE X (.BinOp a .Add b pos) (tO (kk X cm) E (Ĥ ě ma mb)):=YH Ut Us ha hb
def v_add(ha:PE X a (tR (kk X cm) E ma))(hb:PE X b (tR (kk X cm) E mb)):PE X (.BinOp a .Add b pos) (tV (kk X cm) E (Č (Ĥ ě ma mb))):=ĝ (mX ha hb)
def aR(ha:PE X a (tR (kk X cm) E ma))(hb:PE X b (tR (kk X cm) E mb)):PE X (.BinOp a .Add b pos) (tR (kk X cm) E (Č (Ĥ ě ma mb))):=Ĕ (v_add ha hb)
def t_eq(hu:X.A.units+64<cLine)(ha:PE X a (tR (kk X cm) E ma))(hb:PE X b (tR (kk X cm) E mb)):PT X (.Compare a [.Eq] [b] pos) (tB (kk X cm) E (bL (Ą ķ ma mb))):=iJ MP (FQ hu) ha hb (Ŷ _)
def mq(hu:X.A.units+64<cLine)(ha:PE X a (tR (kk X cm) E ma))(hb:PE X b (tR (kk X cm) E mb)):PT X (.Compare a [.NotEq] [b] pos) (tB (kk X cm) E (bL (Ą ž ma mb))):=iJ M_ (FT hu) ha hb (Ŷ _)
def v_eq(hu:X.A.units+64<cLine)(ha:PE X a (tR (kk X cm) E ma))(hb:PE X b (tR (kk X cm) E mb)):PE X (.Compare a [.Eq] [b] pos) (tV (kk X cm) E (Ą ķ ma mb)):=jL MP (FQ hu) ha hb (Ŷ _)
def au(he:PE X e (tO (kk X cm) E mo)):aB X [.Return (some e) pos] (tS (kk X cm) E (Į mo)):=Ĭ (YQ he)
def ř(he:PE X e (tV (kk X cm) E m)):aB X [.Return (some e) pos] (tS (kk X cm) E (Į (ż m))):=au (eO he)
def Lf{N ps:List Str}{sc:Scope}{i:Nat}{x:Str}{pos':Pos}(S:đ N ps sc)(he:PE X e (tO (kk X cm) E mo))(hN:X.N=N:=by rfl)(hi:X.N[i]?=some x:=by rfl)(hx:Loc X.env.scope x:=by first|exact Or.inl rfl|exact Or.inr rfl)(hs:swapsWith e (some (.Name x pos')) pos.line X.env=pure false:=by rfl)(hf:X.fn x=true\/X.env.scope.names.lookup x=some .local:=by first|exact .inl rfl|exact .inr rfl|assumption) :
 PS X (.Assign [.Name x pos'] e pos) (tS (kk X cm) E (ĸ i mo)):=YM (hN▸S.nd) hi hx he hs hf
def ŏ{N ps:List Str}{sc:Scope}{i:Nat}{x:Str}{pos':Pos}{rest:List Stmt}{m2:M Fl}(S:đ N ps sc)(he:PE X e (tO (kk X cm) E mo))(h2:aB X rest (tS (kk X cm) E m2))(hN:X.N=N:=by rfl)(hi:X.N[i]?=some x:=by rfl)(hx:Loc X.env.scope x:=by first|exact Or.inl rfl|exact Or.inr rfl)(hs:swapsWith e (some (.Name x pos')) pos.line X.env=pure false:=by rfl)(hf:X.fn x=true\/X.env.scope.names.lookup x=some .local:=by first|exact .inl rfl|exact .inr rfl|assumption) :
 aB X (.Assign [.Name x pos'] e pos::rest) (tS (kk X cm) E (Ě (ĸ i mo) m2)):=č (Lf S he hN hi hx hs hf) h2
def gb{N ps:List Str}{sc:Scope}{i:Nat}{x:Str}(S:đ N ps sc)(hN:X.N=N:=by rfl)(hi:X.N[i]?=some x:=by rfl)(hx:Loc X.env.scope x:=by first|exact Or.inl rfl|exact Or.inr rfl)(hf:X.fn x=true\/X.env.scope.names.lookup x=some .local:=by first|exact .inl rfl|exact .inr rfl|assumption):PG X (.Name x pos) (tT (kk X cm) (gN i)):=Gm (hN▸S.nd) hi hx hf
def cJ{i:Nat}{x:Str}(hN:X.N.Nodup:=by exact ndB (by kernel_rfl))(hi:X.N[i]?=some x:=by rfl)(hx:Loc X.env.scope x:=by first|exact Or.inl rfl|exact Or.inr rfl)(hf:X.fn x=true\/X.env.scope.names.lookup x=some .local:=by first|exact .inl rfl|exact .inr rfl):PG X (.Name x pos) (tT (kk X cm) (gN i)):=Gm hN hi hx hf
def Ę(i:Nat){x:Str}{px:Pos}{ms:M (List Slot)}(hr:PA X es (tA (kk X cm) E ms))(hN:X.N[i]?=some x:=by rfl)(hv:El X.env.scope x:=by first|exact Or.inl rfl|exact Or.inr (Or.inl rfl)|exact Or.inr (Or.inr rfl))(hd:(x== ("__debug__" :Str))=false:=by decide)
 (hcd:(x== ("__classdict__" :Str))=false:=by decide)(hs:starEach (.Name x px::es) X.env=(false,eval (.Name x px) X.env)::starEach es X.env:=by exact Ŗ rfl):PA X (.Name x px::es) (tA (kk X cm) E (Ċ i ms)):=Kw i hN hv hd hcd hr hs
def ź{id:String}{x:Str}{r:List V->Hp->VK->Prop}{f:List PV->Option PV}{mr:M (List PV)}(hc:ő X (.builtin id) r)(hf:dN (kk X cm) r f)(hm:X.mg x=none)(hv:bootBuiltins x=some (.builtin id))(ha:PA X (e::es) (JB (kk X cm) E mr))(hg:Gl X x:=by rfl)(hn:x≠ "__name__" := by decide)(hdb:(x== ("__debug__" :Str))=false:=by decide)
 (he:starEach (e::es) X.env=(false,eval e X.env)::starEach es X.env:=by rfl)(hpl:(backTo pos (starEach es X.env)).any (·.1)=false:=by rfl):PE X (.Call (.Name x p) (e::es) [] pos) (tV (kk X cm) E (bT f mr)):=PE.wk (oZ hc hg hm hv ha hn hdb he hpl) λ_ _ _ h=>YL hf h
def zO{T:String}{x:Str}{r:List V->Hp->VK->Prop}{f:List PV->Option PV}{mr:M (List PV)}(hc:ő X (.type T) r)(hf:dN (kk X cm) r f)(hm:X.mg x=none)(hv:bootBuiltins x=some (.type T))(ha:PA X (e::es) (JB (kk X cm) E mr))(hg:Gl X x:=by rfl)(hn:x≠ "__name__" := by decide)(hdb:(x== ("__debug__" :Str))=false:=by decide)
 (he:starEach (e::es) X.env=(false,eval e X.env)::starEach es X.env:=by rfl)(hpl:(backTo pos (starEach es X.env)).any (·.1)=false:=by rfl):PE X (.Call (.Name x p) (e::es) [] pos) (tV (kk X cm) E (bT f mr)):=PE.wk (lC hc hg hm hv ha hn hdb he hpl) λ_ _ _ h=>YL hf h
def rC{T:String}{x:Str}{r:List V->Hp->VK->Prop}{f:List PV->Option RV}{mr:M (List PV)}(hc:ő X (.type T) r)(hf:Gk (kk X cm) r f)(hm:X.mg x=none)(hv:bootBuiltins x=some (.type T))(ha:PA X (e::es) (JB (kk X cm) E mr))(hg:Gl X x:=by rfl)(hn:x≠ "__name__" := by decide)(hdb:(x== ("__debug__" :Str))=false:=by decide)
 (he:starEach (e::es) X.env=(false,eval e X.env)::starEach es X.env:=by rfl)(hpl:(backTo pos (starEach es X.env)).any (·.1)=false:=by rfl):PE X (.Call (.Name x p) (e::es) [] pos) (tO (kk X cm) E (lJ f mr)):=PE.wk (lC hc hg hm hv ha hn hdb he hpl) λ_ _ _ h=>ZcF hf h
end
section
variable{X:Cx}{cm:String->Addr}{E:L2.St->XK}{elt tg iter t:Expr}{ifs:List Expr}{scope:Scope}{pos:Pos}{mi:M (List PV)}{g:Tg}{mt:M Bool}{me:M PV}{js:List Nat}{nl:Nat}
structure CF(X:Cx)(js:List Nat)(nl:Nat)(tg iter:Expr)(scope:Scope):Prop where
 hcap:gA X.ł X.env.scope scope (cN X js tg) js
 hcalm:X.calm=true
 hlen:js.length+nl=(cN X js tg).length
 hk:scope.kind=.function
 hcell:∀y∈scope.names,y.2=.cell->scope.names.lookup y.1=some .cell
 hnames:∀y∈scope.names,y.2=.local->scope.names.lookup y.1=some .local
 hfree:∀y∈scope.names,y.2=.free->(X.env.scope.names.lookup y.1=some .cell\/X.env.scope.names.lookup y.1=some .free)
 hs:∀x,foldedSetIterable iter X.env x=pure x
def cf(hcap:gA X.ł X.env.scope scope (cN X js tg) js:=by repeat' first|exact True.intro|refine⟨rfl,⟨rfl,by first|exact Or.inl rfl|exact Or.inr rfl⟩,?_⟩)(hcalm:X.calm=true:=by rfl)(hlen:js.length+nl=(cN X js tg).length:=by rfl)
 (hk:scope.kind=.function:=by rfl)(hcell:∀y∈scope.names,y.2=.cell->scope.names.lookup y.1=some .cell:=by decide +kernel)(hnames:∀y∈scope.names,y.2=.local->scope.names.lookup y.1=some .local:=by decide +kernel)
 (hfree:∀y∈scope.names,y.2=.free->(X.env.scope.names.lookup y.1=some .cell\/X.env.scope.names.lookup y.1=some .free):=by exact frB (by kernel_rfl))(hs:∀x,foldedSetIterable iter X.env x=pure x:=by intro _;rfl):CF X js nl tg iter scope:=⟨hcap,hcalm,hlen,hk,hcell,hnames,hfree,hs⟩
def ZdG(hi:PI X.ł tg iter (tG (kk X cm) E (Gs (kk X cm)) mi))(hg:∀{cl C s H fp},PG (bW X.ł (cN X js tg) scope cl C s H fp) tg (tT (kk X cm) g))(ht:∀{cl C s H fp},Em (bW X.ł (cN X js tg) scope cl C s H fp) ifs (tB (kk X cm) EF mt))(he:∀{cl C s H fp},PE (bW X.ł (cN X js tg) scope cl C s H fp) elt (tV (kk X cm) EF me))(h:CF X js nl tg iter scope:=by exact cf) :
 PE X (.ListComp elt [⟨tg,iter,ifs,0⟩] scope pos) (tO (kk X cm) E (Œ js nl mi g mt me)):=KJ (cN X js tg) js nl X.env.scope rfl h.hcalm hi (λ_ _ _ _ _=>hg) (λ_ _ _ _ _=>ht) (λ_ _ _ _ _=>he) h.hcap h.hlen h.hk h.hcell h.hnames h.hfree h.hs
def gj(hi:PI X.ł tg iter (tI (kk X cm) E mi))(hg:∀{cl C s H fp},PG (bW X.ł (cN X js tg) scope cl C s H fp) tg (tT (kk X cm) g))(ht:∀{cl C s H fp},Em (bW X.ł (cN X js tg) scope cl C s H fp) ifs (tB (kk X cm) EF mt))(he:∀{cl C s H fp},PE (bW X.ł (cN X js tg) scope cl C s H fp) elt (tV (kk X cm) EF me))(h:CF X js nl tg iter scope:=by exact cf) :
 PE X (.ListComp elt [⟨tg,iter,ifs,0⟩] scope pos) (tO (kk X cm) E (Œ js nl mi g mt me)):=ZdG (Mx hi) hg ht he h
def Vn{N ps:List Str}{sc:Scope}{i:Nat}{y:Str}{py spos:Pos}(S:đ N ps sc)(hi:PI X.ł tg iter (tI (kk X cm) E mi))(hg:∀{cl C s H fp},PG (bW X.ł (cN X js tg) scope cl C s H fp) tg (tT (kk X cm) g))(ht:∀{cl C s H fp},Em (bW X.ł (cN X js tg) scope cl C s H fp) ifs (tB (kk X cm) EF mt))(he:∀{cl C s H fp},PE (bW X.ł (cN X js tg) scope cl C s H fp) elt (tV (kk X cm) EF me))
 (h:CF X js nl tg iter scope:=by exact cf)(hN:X.N=N:=by rfl)(hi0:X.N[i]?=some y:=by rfl)(hy:X.env.scope.names.lookup y=some .local:=by rfl)(hsw:swapsWith (.ListComp elt [⟨tg,iter,ifs,0⟩] scope pos) (some (.Name y py)) spos.line X.env=pure true:=by rfl) :
 PS X (.Assign [.Name y py] (.ListComp elt [⟨tg,iter,ifs,0⟩] scope pos) spos) (tS (kk X cm) E (ĸ i (Œ js nl mi g mt me))):=Vd (hN▸S.nd) hi0 hy (cN X js tg) js nl X.env.scope rfl h.hcalm hi (λ_ _ _ _ _=>hg) (λ_ _ _ _ _=>ht) (λ_ _ _ _ _=>he) h.hcap h.hlen h.hk h.hcell h.hnames h.hfree h.hs hsw
end
end P
namespace P
open PySem PySem.Spec PyProof.Rows L2 M2 M3 M5
end P
namespace P
open PySem PySem.Spec PyProof.Rows L2 M2 M3 M4 M5
variable{X:Cx}{cm:String->Addr}{E:L2.St->XK}{a:Expr}{pos:Pos}{ma:M PV}
end P
namespace M5
open PySem PySem.Spec PyProof.Rows L2 M2 M3
section
variable{X:Cx}{pins:List (Addr×Obj)}{σ:L2.St}{H:Hp}{s:Shared}
variable{R:Result->Shared->Prop}{f l S It:Addr}{oF:Obj}{xs:List V}(ks:Nat->Int)(W:Nat->Hp->Prop)
end
section
variable{X:Cx}{x px:Str}{c P:Addr}{params:Arguments}{body e:Expr}{scope:Scope}{p pos Uc kpos dpos Zau:Pos}{dj:Nat}{ta:TA}{te:TE}
end
end M5
namespace P
open PySem PySem.Spec PyProof.Rows L2 M2 M3 M5
section
variable{X:Cx}{cm:String->Addr}{E:L2.St->XK}{x px:Str}{c Pt:Addr}{params:Arguments}{body e:Expr}{scope:Scope}{p pos Uc kpos dpos Zau:Pos}{dj:Nat}{mr:M (List PV)}{me:M PV}
end
end P
namespace PySem
namespace F
end F
section
variable{prog:Program}{w:World}{A:Around}{E:Value->Shared->Prop}{s:Shared}
end
end PySem
namespace P
open PySem PySem.Spec PyProof.Rows L2 M2 M3 M4
section
variable{X:Cx}{cm:String->Addr}{E:L2.St->XK}{tg e l:Expr}{p pos p1 pos1:Pos}{mi:M (List PV)}
end
end P
namespace P
open PySem PySem.Spec PyProof.Rows L2 M2 M3 M4
end P
namespace P
open PySem PySem.Spec PyProof.Rows L2 M2 M3 M4
section
variable{X:Cx}{cm:String->Addr}{E:L2.St->XK}{tg:Expr}{a b d:Expr}{p pos:Pos}{mr:M (List PV)}
end
end P
namespace P
open PySem PySem.Spec PyProof.Rows L2 M2 M3 M4
section
variable{X:Cx}{cm:String->Addr}{E:L2.St->XK}
end
end P
namespace P
open PySem PySem.Spec PyProof.Rows L2 M2 M3 M4
section
variable{K:KK}{c:Ctx}{F H:Hp}{σ:L2.St}{ρ:ħ}{a b:Addr}{xs ys:List V}
end
section
variable{X:Cx}{cm:String->Addr}{E:L2.St->XK}
variable{e:Expr}{es:List Expr}{pos:Pos}{ma:M PV}{mo:M RV}
end
end P
namespace P
open PySem PySem.Spec PyProof.Rows L2 M2 M3 M4
section
variable{K:KK}{c:Ctx}{F H:Hp}{σ:L2.St}{ρ:ħ}{a:Addr}{o:HO}
def fj{i:Nat}{x:Option V}(h:Ź F σ ρ a):Ź F (σ.set i x) (ρ.set i .no) a:=λj q=>by
 have hj:j≠i:=λz=>by
  subst z
  obtain⟨s',y,q1,_,q2⟩:=q
  rcases Ŀ q1 with⟨_,rfl,_⟩|⟨q,_⟩
  ·exact q2.elim
  ·exact q rfl
 exact h j (q.off hj)
end
section
variable{X:Cx}{cm:String->Addr}{E:L2.St->XK}{CX:jh}{k n:Nat}{f:Addr}{fd:FuncData}{ps:List Str}{mf:MF}{mr:M (List Slot)}{x:Str}{p pos:Pos}{e:Expr}{es:List Expr}
end
section
variable{X:Cx}{cm:String->Addr}{E:L2.St->XK}
end
end P
namespace P
open PySem PySem.Spec PyProof.Rows L2 M2 M3 M4
abbrev RIt(α:Type):=Ctx->Hp->α->V->Prop
def Zav{α:Type}(K:KK)(RI:RIt α)(Lh F:Hp)(J:It)(items:List α):Prop:=∀(c:Ctx) (i:Nat) (F2 H:Hp) (σ:L2.St) (ρ:ħ),Rel K c F2 H σ ρ->Same F F2->Same Lh H->Same Lh c.L->
 (∀p,items[i]?=some p->J.go i H/\∀x H',J.XR i H x H'->∃F3,Rel K c F3 H' σ ρ/\Same F2 F3/\Same H H'/\RI c F3 p x)/\(i=items.length->J.stop i H)
def Vo{α:Type}(K:KK)(RI:RIt α):RR (List α) It:=λ_ _ _ F H items J=>Zav K RI (ctx0 F H).L F J items
def tTG{α:Type}(K:KK)(RI:RIt α)(g:α->ħ->Option ħ):TG:=λv σ H Q=>∃c F ρ p,Rel K c F H σ ρ/\RI c F p v/\Uo K c F H Q (g p ρ)
def cL{α:Type}(g:α->ħ->Option ħ)(mt:M Bool)(me:M PV):List α->ħ->List PV->Option (List PV)
 | [],_,acc=>some acc
 |p::ps,ρ,acc=>match g p ρ with
  |none=>none
  |some ρ1=>match mt ρ1 with
   | .ok true ρ2=>match me ρ2 with
     | .ok q ρ3=>if acc.length<16777216 then cL g mt me ps ρ3 (acc ++ [q]) else none
     |_=>none
   | .ok false ρ2=>cL g mt me ps ρ2 acc
   |_=>none
def mz{α:Type}(js:List Nat)(nl:Nat)(mi:M (List α))(g:α->ħ->Option ħ)(mt:M Bool)(me:M PV):M RV:=λρ=>(mi ρ).bind λitems ρ1=>match cL g mt me items (jq js nl ρ1) [] with
 |some ps=>.ok (.ow ps) ρ1
 |none=>.bad
section
variable{α:Type}{RI:RIt α}{X:Cx}{cm:String->Addr}{E:L2.St->XK}{elt tg iter:Expr}{ifs:List Expr}{scope:Scope}{pos:Pos}{mi:M (List α)}{g:α->ħ->Option ħ}{mt:M Bool}{me:M PV}
def Dw{js:List Nat}{nl:Nat}{σ:L2.St}{H:Hp}{Q:VK}(h:tO (kk X cm) E (mz js nl mi g mt me) σ H Q):pq js nl (tG (kk X cm) E (Vo (kk X cm) RI) mi) (tTG (kk X cm) RI g) (tB (kk X cm) EF mt) (tV (kk X cm) EF me) σ H Q:=by
 obtain⟨c,F,ρ,rel,h⟩:=h
 refine⟨c,F,ρ,rel,h.bind λitems ρ1 J F1 H1 ć s1 s2 ito h1=>?_⟩
 intro D hD
 have hF:F1 D=none:=ć.sub.free hD
 cases ec:cL g mt me items (jq js nl ρ1) [] with
 |none=>rw[ec] at h1;exact h1.elim
 |some res=>
  rw[ec] at h1
  refine⟨λi m σ' H'=>∃F' ρ' ys acc,i<=items.length/\m=items.length-i/\Rel (kk X cm) (rm F1 H1 (upd H1 D (.lst ys))) F' H' σ' ρ'/\Ĉ (kk X cm) F' acc ys/\cL g mt me (items.drop i) ρ' acc=some res,
   ⟨_,F1,_,[],[],Nat.zero_le _,rfl,?_,Ĉ.nil,ec⟩,?_⟩
  ·exact ć.cap js nl hD
  ·rintro i m σ2 H2 ⟨F2,ρ2,ys,acc,hle,rfl,ĥ,ra,h2⟩
   have s12:Same F1 F2:=ĥ.f0
   obtain⟨go,stop⟩:=ito _ i F2 H2 σ2 ρ2 ĥ s12 (λb u e=>(ĥ.lent b u e).1) (Same.refl _)
   have hH2:H2 D=some (.lst ys):=ĥ.base D _ (show upd H1 D _ D=_ from Ď)
   have fD:F2 D=none:=ĥ.bM D (by show upd H1 D _ D≠none;rw[Ď];intro z;cases z) hF
   by_cases hlt:i<items.length
   ·obtain⟨g1,g2⟩:=go items[i] (List.getElem?_eq_getElem hlt)
    rw[List.drop_eq_getElem_cons hlt] at h2
    unfold cL at h2
    refine .inr ⟨g1,_,λσ' H' z=>z,λx H3 hy=>?_⟩
    obtain⟨F3,bN,s3,sH3,rp⟩:=g2 x H3 hy
    refine⟨_,F3,ρ2,items[i],bN,rp,?_⟩
    cases eg:g items[i] ρ2 with
    |none=>rw[eg] at h2;cases h2
    |some ρ3=>
     rw[eg] at h2
     dsimp only at h2
     intro σ4 q_
     refine⟨_,F3,ρ3,q_,?_⟩
     cases em:mt ρ3 with
     |bad=>rw[em] at h2;cases h2
     |exc x ρ4=>rw[em] at h2;cases h2
     |ok b ρ4=>
      rw[em] at h2
      intro b' F5 H5 rz s5 s5' eb
      have eb':b=b':=eb
      subst eb'
      cases b with
      |false=>
       rw[if_neg Bool.false_ne_true]
       dsimp only at h2
       exact⟨items.length-(i+1),by omega,F5,ρ4,ys,acc,hlt,rfl,rz,Ĉ.same (s3.trans s5) acc ys ra,h2⟩
      |true=>
       rw[if_pos rfl]
       dsimp only at h2
       refine⟨_,F5,ρ4,rz,?_⟩
       cases ee:me ρ4 with
       |bad=>rw[ee] at h2;cases h2
       |exc x ρ5=>rw[ee] at h2;cases h2
       |ok q ρ5=>
        rw[ee] at h2
        dsimp only at h2
        intro y F6 H6 zK s6 s6' rq
        split at h2
        ·rename_i hz
         have YW:=Ĉ.same ((s3.trans s5).trans s6) acc ys ra
         refine⟨ys,zK.base D _ (show upd H1 D _ D=_ from Ď),by rw[<-YW.length,Ĝ];exact hz,?_⟩
         exact⟨items.length-(i+1),by omega,F6,ρ5,ys ++ [y],acc ++ [q],hlt,rfl,zK.rebase hD hF,Ĉ.append YW (Ĉ.cons rq Ĉ.nil),h2⟩
        ·cases h2
   ·have e:i=items.length:=by omega
    refine .inl ⟨stop e,?_⟩
    rw[List.drop_eq_nil_of_le (by omega)] at h2
    unfold cL at h2
    cases h2
    have gr:Gr F1 H1 F2 H2:=⟨λb u e=>ĥ.base b u (by show upd H1 D _ b=_;rw[ĉ (ģ e hD)];exact e),s12,ĥ.sub,λb hb hf=>ĥ.bM b (by
     show upd H1 D _ b≠none
     by_cases hbD:b=D
     ·rw[hbD,Ď];intro z;cases z
     ·rw[ĉ hbD];exact hb) hf⟩
    have Ur:=ć.call gr
    exact h1 _ F2 H2 Ur s12 gr.h ⟨D,ys,rfl,hH2,fD,ć.base.free hD,ć.cB gr.f (ć.fresh hD),ra⟩
def BW(N':List Str)(js:List Nat)(nl:Nat)(sc:Scope)(hsc:X.env.scope=sc)(hcalm:X.calm=true)
 (hi:PI X.ł tg iter (tG (kk X cm) E (Vo (kk X cm) RI) mi))(hg:∀cl C s H fp,PG (bW X.ł N' scope cl C s H fp) tg (tTG (kk X cm) RI g))(ht:∀cl C s H fp,Em (bW X.ł N' scope cl C s H fp) ifs (tB (kk X cm) EF mt))(he:∀cl C s H fp,PE (bW X.ł N' scope cl C s H fp) elt (tV (kk X cm) EF me))
 (hcap:gA X.ł sc scope N' js)(hlen:js.length+nl=N'.length:=by rfl)
 (hk:scope.kind=.function:=by rfl)(hcell:∀y∈scope.names,y.2=.cell->scope.names.lookup y.1=some .cell:=by decide +kernel)(hnames:∀y∈scope.names,y.2=.local->scope.names.lookup y.1=some .local:=by decide +kernel)
 (hfree:∀y∈scope.names,y.2=.free->(sc.names.lookup y.1=some .cell\/sc.names.lookup y.1=some .free):=by decide +kernel)
 (hs:∀x,foldedSetIterable iter X.env x=pure x:=by intro _;rfl) :
 PE X (.ListComp elt [⟨tg,iter,ifs,0⟩] scope pos) (tO (kk X cm) E (mz js nl mi g mt me)):=
 PE.wk (PE.ł (Bd N' js nl sc hsc hcalm hi hg ht he hcap hlen hk hcell hnames hfree hs)) λ_ _ _ h=>Dw h
end
def Zaw(K:KK):RIt (List PV×List PV):=λc F d v=>∃t xs b vs,v=.ref t/\F t=some (.tup (xs ++ [.ref b]))/\Ĉ K F d.1 xs/\c.L b=some (.lst vs)/\Ĉ K F d.2 vs
def mD(i:Nat):M (List (List PV×List PV)):=λρ=>match ρ[i]? with
 |some (.dw dz)=>.ok dz ρ
 |_=>.bad
section
variable{X:Cx}{cm:String->Addr}{E:L2.St->XK}{tg:Expr}
def Zax(i:Nat){x:Str}{px:Pos}(hN:X.N[i]?=some x:=by rfl)(hv:El X.env.scope x:=by first|exact Or.inl rfl|exact Or.inr (Or.inl rfl)|exact Or.inr (Or.inr rfl))(hd:(x== ("__debug__" :Str))=false:=by decide)
 (hcd:(x== ("__classdict__" :Str))=false:=by decide):PI X tg (.Name x px) (tG (kk X cm) E (Vo (kk X cm) (Zaw (kk X cm))) (mD i)):=λpins s σ H R I h=>by
 obtain⟨c,F,ρ,rel,h⟩:=h
 unfold mD at h
 cases e:ρ[i]? with
 |none=>rw[e] at h;exact h.elim
 |some sl=>
  rw[e] at h
  cases sl with
  |dw dz=>
   obtain⟨a,ts,h1,h2,h3⟩:=rel.slot i _ e
   refine uN (gn hN hv hd hcd) pins s σ H R I ⟨.ref a,at_of h1,.inl ⟨a,rfl,⟨_,ŝ.of (rel.lent a _ h2).1⟩,h _ F H rel (Same.refl _) (Same.refl _) ?_⟩⟩
   intro c' j F2 H2 σ2 ρ2 ĥ sF sL sc
   have hq:ŝ X.K H2 a (ts.map V.ref):=ŝ.of (sL a _ (Gu rel h2))
   refine⟨λd hp=>?_,λhi=>⟨_,hq,by rw[hi,List.length_map,Paired.length h3];exact Nat.le_refl _⟩⟩
   obtain⟨t,ht,xs,b,vs,k1,k2,k3,k4⟩:=Bf h3 hp
   have hu:(ts.map V.ref)[j]?=some (.ref t):=by rw[List.getElem?_map,ht];rfl
   refine⟨⟨_,.ref t,hq,hu⟩,λx H' ⟨hH,hx⟩=>?_⟩
   subst hH
   have:(ts.map V.ref)[j]?=some x:=hx _ hq
   rw[hu] at this
   cases this
   exact⟨F2,ĥ,Same.refl _,Same.refl _,t,xs,b,vs,rfl,sF _ _ k1,k2.same sF d.1 xs,sc _ _ (Gu rel k3),k4.same sF d.2 vs⟩
  |_=>exact h.elim
def gD(i j k:Nat):(List PV×List PV)->ħ->Option ħ:=λd ρ=>match d with
 |([p,q],qs)=>some (((ρ.set i (.sh p)).set j (.sh q)).set k (.bw qs))
 |_=>none
def Zay{i j k:Nat}{x y z:Str}{px py pz pos:Pos}{n:Nat}(hc:X.calm=true)(hN:X.N.Nodup)(hi:X.N[i]?=some x)(hj:X.N[j]?=some y)(hk:X.N[k]?=some z)(hx:Loc X.env.scope x)(hy:Loc X.env.scope y)(hz:Loc X.env.scope z)
 (fx:X.fn x=true\/X.env.scope.names.lookup x=some .local:=by first|exact .inl rfl|exact .inr rfl)(fy:X.fn y=true\/X.env.scope.names.lookup y=some .local:=by first|exact .inl rfl|exact .inr rfl)(fz:X.fn z=true\/X.env.scope.names.lookup z=some .local:=by first|exact .inl rfl|exact .inr rfl) :
 PG X (.Tuple [.Name x px,.Name y py,.Name z pz] n pos) (tTG (kk X cm) (Zaw (kk X cm)) (gD i j k)):=
 PG.wk' (k_ hc (Ş (Ż hN hi hx fx) (Ş (Ż hN hj hy fy) (Ş (Ż hN hk hz fz) jE rfl) rfl) rfl) rfl rfl) fun v σ H Q ⟨c,F,ρ,d,rel,⟨t,xs,b,vs,hv,k1,k2,k3,k4⟩,h⟩=>by
   subst hv
   obtain⟨ps,qs⟩:=d
   unfold gD at h
   match ps,k2,h with
   | [p,q],k2,h=>
     unfold Ĉ at k2
     obtain⟨u,r,rfl,r1,k2⟩:=k2
     unfold Ĉ at k2
     obtain⟨w,r',rfl,r2,k2⟩:=k2
     unfold Ĉ at k2
     subst k2
     refine⟨t,_,rfl,dh.of (rel.sub _ _ k1),rfl,u,_,rfl,w,_,rfl,.ref b,_,rfl,rfl,?_⟩
     have e1:=rel.put (i:=i) (x:=some u) (s:=.sh p) rfl ⟨u,rfl,r1⟩
     have e2:=e1.put (i:=j) (x:=some w) (s:=.sh q) rfl ⟨w,rfl,r2⟩
     exact h _ (e2.put (i:=k) (x:=some (.ref b)) (s:=.bw qs) rfl ⟨b,vs,rfl,k3,k4⟩)
end
end P
namespace P
open PySem PySem.Spec PyProof.Rows L2 M2 M3 M5
end P
namespace P
open PySem PySem.Spec PyProof.Rows L2 M2
def tMk(X:Cx)(cm:String->Addr)(E:L2.St->XK)(n:Nat)(C:String)(mi:MI)(ta:TA):TE:=λσ H Q=>ta σ H λvs H1=>∀x dx,H1 x=none->H1 dx=none->dx≠x->Dt (kk X cm) n C mi (.ref x::vs) (upd (upd H1 dx (.own x)) x (.ins (cm C) dx [])) (λv H2=>v=.non/\Q (.ref x) H2) (E σ)
section
variable{X:Cx}{cm:String->Addr}{E:L2.St->XK}{e:Expr}{es:List Expr}{pos p:Pos}{CX:jh}{k n:Nat}{f:Addr}{fd:FuncData}{ps:List Str}{C:String}{mi:MI}{ms:M (List Slot)}{x:Str}
def Zaz{ta:TA}(M:Mk X.K (cm C) f)(F:ī X.prog X.w X.K X.mg X.base CX k f fd ps (Dt (kk X cm) n C mi))(hr:Ū (k+1) X.A)(hg:Gl X x)(hm:X.mg x=some (.ref (cm C)))(hb:Binds X.K fd ps [])(hx:bA CX X E)
 (ha:PA X (e::es) ta)(hdb:(x== ("__debug__" :Str))=false:=by decide)(he:starEach (e::es) X.env=(false,eval e X.env)::starEach es X.env:=by exact Ŗ rfl)(hpl:(backTo pos (starEach es X.env)).any (·.1)=false:=by rfl) :
 PE X (.Call (.Name x p) (e::es) [] pos) (tMk X cm E n C mi ta):=by
 intro pins s σ H Q I h
 refine wpAny_Call_Name_kw (jD I hg hm ?_ hdb)
 refine PySem.W.callWith_K (h₀:= X.base) I.ok.mod.Xm M.kp (ņ (ha pos pins s σ H _ I h) λus s1 ⟨vs,H1,I1,r,q⟩=>⟨I1.kJ,?_⟩) he hpl
 exact tu M F hr hb hx I1 r q
def DG{c:Ctx}{F1 H1:Hp}{σ:L2.St}{ρ1:ħ}{Q:VK}{as:List Slot}{vs:List V}(hlen:(∃r,mi as=r/\∀z,r=z->z≠ .bad)->as.length+1=n)(ć:Rel (kk X cm) c F1 H1 σ ρ1)(r1:Paired (ak (kk X cm) F1 H1) as vs)
 {ns:List Str}{qs:List PV}(em:mi as=.ok ns qs)(h:∀v F' H',Gr F1 H1 F' H'->Rel (kk X cm) c F' H' σ ρ1->Rep (kk X cm) F' (.ins C ns qs) v->Q v H') :
 ∀x dx,H1 x=none->H1 dx=none->dx≠x->Dt (kk X cm) n C mi (.ref x::vs) (upd (upd H1 dx (.own x)) x (.ins (cm C) dx [])) (λv H2=>v=.non/\Q (.ref x) H2) (E σ):=by
 intro x dx hx hdx hne
 have up:∀b u,H1 b=some u->upd (upd H1 dx (.own x)) x (.ins (cm C) dx []) b=some u:=λb u e=>by
  rw[ĉ (ģ e hx),ĉ (ģ e hdx)];exact e
 have Du:∀{F' H':Hp},GrB x F1 (upd (upd H1 dx (.own x)) x (.ins (cm C) dx [])) F' H'->Gr F1 H1 F' H':=fun{F' H'} g=>
  ⟨fun b u e=>g.h b u (ģ e hx) (up b u e),g.f,g.sub,fun b hb hf=>by
    obtain⟨u,hu⟩:∃u,H1 b=some u:=by
     cases q:H1 b with
     |none=>exact absurd q hb
     |some u=>exact⟨u,rfl⟩
    exact g.out b (ģ hu hx) (by rw[up b u hu];intro z;cases z) hf⟩
 refine⟨F1,x,dx,vs,as,rfl,?_,Ď,ć.sub.free hx,λb u e=>up b u (ć.sub b u e),?_,?_⟩
 ·exact hlen ⟨_,em,λz hz hb=>by rw[<-hz] at hb;cases hb⟩
 ·refine Paired.mono (λs v hs=>?_) r1
  cases s with
  |sh p=>exact hs
  |bw qs=>
   obtain⟨b,ws,q1,q2,q3,q4⟩:=hs
   exact⟨b,ws,q1,up b _ q2,q3,q4⟩
  |dw dz=>
   obtain⟨b,ts,q1,q2,q3,q4⟩:=hs
   exact⟨b,ts,q1,up b _ q2,q3,fM q4 λt d _ ⟨xs,y,ws,k1,k2,k3,k4⟩=>⟨xs,y,ws,k1,k2,⟨up y _ k3.1,k3.2⟩,k4⟩⟩
  |_=>exact hs.elim
 ·rw[em]
  intro F' H' fs g hx' hF' hn hr
  have gr:=Du g
  have r2:=ć.call gr
  have r3:=r2.freeze hx' (ć.base.free hx) hF' (ć.cB gr.f (ć.fresh hx))
  have g2:Gr F1 H1 (upd F' x (.ins (cm C) dx fs)) H':=⟨gr.h,gr.f.trans (Same.upd hF'),r3.sub,λb hb hf=>by
   have nb:b≠x:=λz=>hb (z▸hx)
   rw[ĉ nb]
   exact gr.out b hb hf⟩
  refine⟨rfl,h _ _ H' g2 r3 ?_⟩
  unfold Rep
  exact⟨x,dx,fs,rfl,Ď,hn,Ĉ.same (Same.upd hF') qs _ hr⟩
end
end P
namespace P
open PySem PySem.Spec PyProof.Rows L2 M2 M3 M4
def d31(r:PV):Slot:=.dw [([.str "ab",.int 3],[r,.non]),([.str "a",.int 1],[.non])]
section
variable{X:Cx}{cm:String->Addr}{E:L2.St->XK}
def aM{l:L2.St}{i j:Nat}{x:Option V}{y:V}(h:l[j]?=some (some y))(n:j≠i):(l.set i x)[j]?=some (some y):=by rw[List.getElem?_set_ne (Ne.symm n)];exact h
def cA{F:Hp}{σ:L2.St}{ρ:ħ}{a:Addr}{i:Nat}{x:Option V}{s:Slot}(hs:s.own=false)(h:Ź F σ ρ a):Ź F (σ.set i x) (ρ.set i s) a:=λj q=>by
 have hj:j≠i:=λz=>by
  subst z
  obtain⟨s',y,q1,_,q2⟩:=q
  rcases Ŀ q1 with⟨_,rfl,_⟩|⟨q,_⟩
  ·have:=jl q2;rw[hs] at this;cases this
  ·exact q rfl
 exact h j (q.off hj)
end
end P
namespace P
open PySem PySem.Spec PyProof.Rows L2 M2 M3 M4
def Vp(i:Nat)(ρ:ħ):Bool:=match ρ[i]? with
 |some (.dw _)=>true
 |_=>false
def mEi(b:ħ->Bool)(m1 m2:M RV):M RV:=λρ=>if b ρ=true then m1 ρ else m2 ρ
def ZdH{X:Cx}{cm:String->Addr}{E:L2.St->XK}{e:Expr}{m1 m2:M RV}(b:ħ->Bool)(h1:PE X e (tO (kk X cm) E m1))(h2:PE X e (tO (kk X cm) E m2)):PE X e (tO (kk X cm) E (mEi b m1 m2)):=λpins s σ H Q I ⟨c,F,ρ,rel,h⟩=>by
 unfold mEi at h
 split at h
 ·exact h1 pins s σ H Q I ⟨c,F,ρ,rel,h⟩
 ·exact h2 pins s σ H Q I ⟨c,F,ρ,rel,h⟩
end P
namespace P
open PySem PySem.Spec PyProof.Rows L2 M2 M3 M4
inductive WR where
 |t (i:Nat) (p:PV)|d (i:Nat) (ps:List PV)|l (i:Nat) (p:PV)
def WR.ix:WR->Nat
 | .t i _=>i
 | .d i _=>i
 | .l i _=>i
def WR.to(j:Nat):WR->WR
 | .t _ p=>.t j p
 | .d _ ps=>.d j ps
 | .l _ p=>.l j p
def kW(σ:L2.St)(i:Nat):Option V:=(σ[i]?).getD none
def wZ(K:KK)(L B F' H':Hp)(o:Option V)(H2:Hp):WR->Prop
 | .t _ p=>∃a vs v,o=some (.ref a)/\L a=some (.lst vs)/\Rep K F' p v/\vs.length<sizeLine/\H2=upd H' a (.lst (vs ++ [v]))
 | .d _ ps=>∃a us t xs b,o=some (.ref a)/\L a=some (.lst us)/\F' t=some (.tup (xs ++ [.ref b]))/\Ĉ K F' ps xs/\H' b=some (.lst [])/\F' b=none/\B b=none/\H2=upd H' a (.lst (us ++ [.ref t]))
 | .l _ p=>∃a us t xs b vs v,o=some (.ref a)/\L a=some (.lst (us ++ [.ref t]))/\F' t=some (.tup (xs ++ [.ref b]))/\L b=some (.lst vs)/\Rep K F' p v/\H2=upd H' b (.lst (vs ++ [v]))
theorem wZ.to{K:KK}{L B F' H':Hp}{o:Option V}{H2:Hp}{w:WR}{j:Nat}(h:wZ K L B F' H' o H2 w):wZ K L B F' H' o H2 (w.to j):=by
 cases w<;>exact h
def Nj{w:WR}{j:Nat}:(w.to j).ix=j:=by cases w<;>rfl
def gO(K:KK)(E:L2.St->XK)(c:Ctx)(F:Hp)(σ:L2.St)(n:Nat)(D:Ends):Res WR->Prop
 | .ok w ρ'=>∀σ' F' H' H2,Rel K c F' H' σ' ρ'->Same F F'->(∀i,i<n->kW σ' i=kW σ i)->wZ K c.L c.B F' H' (kW σ' w.ix) H2 w->D.nx σ' H2
 | .exc x ρ'=>∀σ' C d F' H',Rel K c F' H' σ' ρ'->Same F F'->Dr K F' x C d->E σ' C d H'
 | .bad=>False
def tW(K:KK)(E:L2.St->XK)(n:Nat)(m:M WR):TS:=λD σ H=>∃c F ρ,Rel K c F H σ ρ/\gO K E c F σ n D (m ρ)
section
variable{K:KK}{E:L2.St->XK}{c:Ctx}{F F1:Hp}{σ:L2.St}{n:Nat}{D:Ends}
def gO.mono{r:Res WR}(h:gO K E c F σ n D r)(sF:Same F F1):gO K E c F1 σ n D r:=by
 cases r with
 |ok w ρ'=>exact λσ' F' H' H2 rel s1 e q=>h σ' F' H' H2 rel (sF.trans s1) e q
 |exc x ρ'=>exact λσ' C d F' H' rel s1 q=>h σ' C d F' H' rel (sF.trans s1) q
 |bad=>exact h
theorem gO.bind{α β:Type}{R:RR α β}{H:Hp}{Q:β->Hp->Prop}{r:Res α}{f:α->ħ->Res WR}(h:gO K E c F σ n D (r.bind f))
 (k:∀p ρ1 v F1 H1,Rel K c F1 H1 σ ρ1->Same F F1->Same H H1->R c σ ρ1 F1 H1 p v->gO K E c F1 σ n D (f p ρ1)->Q v H1):Ÿ K E R c F H σ Q r:=by
 cases r with
 |ok p ρ'=>exact λv F' H' rel s1 s2 q=>k p ρ' v F' H' rel s1 s2 q (gO.mono (show gO K E c F σ n D (f p ρ') from h) s1)
 |exc x ρ'=>exact λC d F' H' rel s1 q=>h σ C d F' H' rel s1 q
 |bad=>exact h
end
section
variable{X:Cx}{cm:String->Addr}{E:L2.St->XK}{a e:Expr}{es:List Expr}{pos:Pos}{n:Nat}{mt:M Bool}{mo:M RV}{me:M PV}{mb:M Fl}{mr m1 m2:M WR}{ss rest ss':List Stmt}
def mF(mt:M Bool)(mb:M Fl)(mr:M WR):M WR:=λρ=>(mt ρ).bind λb ρ1=>if b=true then(match mb ρ1 with
 | .exc x ρ2=>.exc x ρ2
 |_=>.bad) else mr ρ1
def oJ(hc:PT X a (tB (kk X cm) E mt))(hb:aB X ss (tS (kk X cm) E mb))(hr:aB X rest (tW (kk X cm) E n mr)):aB X (.If a ss [] pos::rest) (tW (kk X cm) E n (mF mt mb mr)):=
 aB.wk (ũ (Es hc hb Ar) hr) λD σ H ⟨c,F,ρ,rel,h⟩=>⟨c,F,ρ,rel,gO.bind h λb ρ1 v F1 H1 ć s1 _ q h1=>by
  have e:b=v:=q
  subst e
  cases b with
  |true=>
   rw[if_pos rfl] at h1 ⊢
   refine⟨c,F1,ρ1,ć,?_⟩
   cases em:mb ρ1 with
   |exc x ρ2=>rw[em] at h1;exact h1
   |ok f ρ2=>rw[em] at h1;exact h1.elim
   |bad=>rw[em] at h1;exact h1.elim
  |false=>
   rw[if_neg Bool.false_ne_true] at h1 ⊢
   exact⟨c,F1,ρ1,ć,h1⟩⟩
def Lg(mt:M Bool)(m1 m2:M WR):M WR:=λρ=>(mt ρ).bind λb ρ1=>if b=true then m1 ρ1 else m2 ρ1
def ZaA(hc:PT X a (tB (kk X cm) E mt))(h1:aB X ss (tW (kk X cm) E n m1))(h2:aB X ss' (tW (kk X cm) E n m2)):aB X [.If a ss ss' pos] (tW (kk X cm) E n (Lg mt m1 m2)):=
 aB.wk (cP (Es hc h1 h2)) λD σ H ⟨c,F,ρ,rel,h⟩=>⟨c,F,ρ,rel,gO.bind h λb ρ1 v F1 H1 ć s1 _ q h1=>by
  have e:b=v:=q
  subst e
  cases b with
  |true=>rw[if_pos rfl] at h1 ⊢;exact⟨c,F1,ρ1,ć,h1⟩
  |false=>rw[if_neg Bool.false_ne_true] at h1 ⊢;exact⟨c,F1,ρ1,ć,h1⟩⟩
def oK{σ:L2.St}{i j:Nat}{v:Option V}(h:i≠j):kW (σ.set j v) i=kW σ i:=by unfold kW;rw[List.getElem?_set_ne (Ne.symm h)]
def Hr(i:Nat)(mo:M RV)(mr:M WR):M WR:=λρ=>(mo ρ).bind λr ρ1=>mr (ρ1.set i r.slot)
def gO.set{K:KK}{E:L2.St->XK}{c:Ctx}{F:Hp}{σ σ1:L2.St}{D:Ends}{r:Res WR}(hs:∀i,i<n->kW σ1 i=kW σ i)(h:gO K E c F σ n D r):gO K E c F σ1 n D r:=by
 cases r with
 |ok w ρ'=>exact λσ' F' H' H2 rel s1 e q=>h σ' F' H' H2 rel s1 (λi hi=>(e i hi).trans (hs i hi)) q
 |exc x ρ'=>exact h
 |bad=>exact h
def ZaB{i:Nat}{x:Str}{pos':Pos}(hN:X.N.Nodup)(hi:X.N[i]?=some x)(hx:Loc X.env.scope x)(he:PE X e (tO (kk X cm) E mo))(hr:aB X rest (tW (kk X cm) E n mr))(hn:n<=i:=by decide)(hs:swapsWith e (some (.Name x pos')) pos.line X.env=pure false:=by rfl)(hf:X.fn x=true\/X.env.scope.names.lookup x=some .local:=by first|exact .inl rfl|exact .inr rfl|assumption) :
 aB X (.Assign [.Name x pos'] e pos::rest) (tW (kk X cm) E n (Hr i mo mr)):=aB.wk (ũ (oX hN hi hx he hs hf) hr) λD σ H ⟨c,F,ρ,rel,h⟩=>⟨c,F,ρ,rel,gO.bind h λr ρ1 v F1 H1 ć s1 _ q h1=>by
 have h2:gO (kk X cm) E c F1 (σ.set i (some v)) n D (mr (ρ1.set i r.slot)):=gO.set (λj hj=>oK (by omega)) h1
 cases r with
 |sh p=>exact⟨c,F1,_,ć.put (s:=.sh p) rfl ⟨v,rfl,q⟩,h2⟩
 |ow ps=>
  obtain⟨a,vs,rfl,q1,q2,q3,q4,q5⟩:=q
  exact⟨c,F1,_,ć.Dq (s:=.ow ps) ⟨a,vs,rfl,q1,q2,q3,q5⟩ λ_ z=>V.ref.inj z▸q4,h2⟩
 |ot ps qs rs=>
  obtain⟨p,a,xs,vs,ys,rfl,q0,qx,q1,q2,q3,q4,q5,q6⟩:=q
  exact⟨c,F1,_,ć.Dq (s:=.ot ps qs rs) ⟨p,a,xs,vs,ys,rfl,q0,qx,q1,q2,q3,q5,q6⟩ λ_ z=>jK (ps:=ps) (qs:=qs) (rs:=rs) z ⟨p,xs,ys,rfl,q0,qx.length.symm⟩▸q4,h2⟩
 |bn t ps qs rows=>exact⟨c,F1,_,ć.Um q,h2⟩⟩
def uZ{σ:L2.St}{i:Nat}{v:V}(h:σ[i]?=some (some v)):kW σ i=some v:=by unfold kW;rw[h];rfl
def xg(i:Nat)(me:M PV):M WR:=λρ=>match ρ[i]? with
 |some (.bw _)=>(me ρ).bind λp ρ1=>match ρ1[i]? with
  |some (.bw ps)=>if ps.length<16777216 then .ok (.t i p) ρ1 else .bad
  |_=>.bad
 |_=>.bad
def Hs{i:Nat}{D:Ends}{σ:L2.St}{H:Hp}(h:tW (kk X cm) E n (xg i me) D σ H):mL (Tf X.K "list" gW (bG i) (tL (kk X cm) E (ă me Ė))) D σ H:=by
 obtain⟨c,F,ρ,rel,h⟩:=h
 unfold xg at h
 cases e1:ρ[i]? with
 |none=>rw[e1] at h;exact h.elim
 |some sl=>
  rw[e1] at h
  cases sl with
  |bw ps0=>
   obtain⟨a,vs0,z1,z2,z3⟩:=rel.slot i _ e1
   refine⟨.ref a,at_of z1,.inl ⟨rfl,_,ŝ.of (rel.lent a _ z2).1⟩,c,F,ρ,rel,?_⟩
   dsimp only at h
   unfold ă
   cases em:me ρ with
   |bad=>rw[em] at h;exact h
   |exc x ρ1=>rw[em] at h;exact λC d F' H' ŋ s1 q=>h σ C d F' H' ŋ s1 q
   |ok p ρ1=>
    rw[em] at h
    intro us F1 H1 ć s1 s2 r1
    have r1':Ĉ (kk X cm) F1 [p] us:=r1
    cases r1'.pr with
    |cons rp t=>
     rename_i v vs'
     cases t
     cases e2:ρ1[i]? with
     |none=>simp only[Res.bZ,e2] at h;exact h.elim
     |some sl2=>
      simp only[Res.bZ,e2] at h
      cases sl2 with
      |bw ps=>
       obtain⟨a2,vs,w1,w2,w5⟩:=ć.slot i _ e2
       rw[z1] at w1
       cases w1
       dsimp only at h
       split at h
       ·rename_i hz
        have hl:vs.length<sizeLine:=by rw[<-w5.length,Ĝ];exact hz
        exact⟨a,vs,v,rfl,rfl,(ć.lent a _ w2).1,hl,h σ F1 H1 _ ć s1 (λ_ _=>rfl) ⟨a,vs,v,uZ (at_of z1),w2,rp,hl,rfl⟩⟩
       ·exact h.elim
      |_=>exact h.elim
  |_=>exact h.elim
def Vq{i:Nat}{x:Str}{px ap cp:Pos}(ho:PE X (.Name x px) (bG i))(he:PE X e (tV (kk X cm) E me))(hbase:attributeBase (.Name x px) "append" X.env (eval (.Name x px) X.env)=eval (.Name x px) X.env:=by rfl)
 (hfew:((backTo cp (starEach [e] X.env)).all (λx=>!x.1) && (backToKw cp (keywordEach [] X.env)).all (λx=>x.1.isSome) && decide ([e].length+([]:List Keyword).length+(if([]:List Keyword).isEmpty then 0 else 1)<30))=true:=by rfl)
 (hline:(ap.endLine== cp.line)=true:=by rfl)(hst:starEach [e] X.env=(false,eval e X.env)::starEach [] X.env:=by exact Ŗ rfl)(hpl:(backTo cp (starEach [] X.env)).any (·.1)=false:=by rfl)(hs:swapsWith (.Call (.Attribute (.Name x px) "append" ap) [e] [] cp) none pos.line X.env=pure false:=by rfl) :
 aB X [.Expr (.Call (.Attribute (.Name x px) "append" ap) [e] [] cp) pos] (tW (kk X cm) E n (xg i me)):=
 aB.wk (cP (ľ (aD PySem.F.plainAttrs_list PySem.F.slot_list_append PySem.F.type_list_append ı ho (ą he Ħ hst) hbase hfew hline hst hpl) hs)) λ_ _ _ h=>Hs h
def xq(i j:Nat):M WR:=λρ=>match ρ[i]?,ρ[j]? with
 |some (.dw dz),some (.ot ps [] [])=>if dz.length<16777216 then .ok (.d i ps) (ρ.set j .no) else .bad
 |_,_=>.bad
def Ht{i j:Nat}{D:Ends}{σ:L2.St}{H:Hp}(h:tW (kk X cm) E n (xq i j) D σ H):mL (Tf X.K "list" gW (bG i) (fK (bG j) uy)) D σ H:=by
 obtain⟨c,F,ρ,rel,h⟩:=h
 unfold xq at h
 split at h
 ·rename_i dz ps e1 e2
  split at h
  ·rename_i hz
   obtain⟨a,ts,z1,z2,z3⟩:=rel.slot i _ e1
   obtain⟨p,b,xs,vs,ys,y1,y2,y3,y4,y5,y6,y7,y8⟩:=rel.slot j _ e2
   unfold Ĉ at y7 y8
   subst y7 y8
   have hl:(ts.map V.ref).length<sizeLine:=by rw[List.length_map,Paired.length z3,Ĝ];exact hz
   refine⟨.ref a,at_of z1,.inl ⟨rfl,_,ŝ.of (rel.lent a _ z2).1⟩,.ref p,at_of y1,a,_,.ref p,rfl,rfl,(rel.lent a _ z2).1,hl,?_⟩
   obtain⟨m1,_⟩:=rel.move ⟨_,_,e2,at_of y1,⟨p,xs,[],rfl,y2,y3.length.symm⟩⟩
   exact h σ F H _ m1 (Same.refl _) (λ_ _=>rfl) ⟨a,_,p,xs,b,uZ (at_of z1),z2,y2,y3,y4,y5,y6,rfl⟩
  ·exact h.elim
 ·exact h.elim
def Vr{i j:Nat}{x y:Str}{px py ap cp:Pos}(ho:PE X (.Name x px) (bG i))(he:PE X (.Name y py) (bG j))(hbase:attributeBase (.Name x px) "append" X.env (eval (.Name x px) X.env)=eval (.Name x px) X.env:=by rfl)
 (hfew:((backTo cp (starEach [.Name y py] X.env)).all (λx=>!x.1) && (backToKw cp (keywordEach [] X.env)).all (λx=>x.1.isSome) && decide ([Expr.Name y py].length+([]:List Keyword).length+(if([]:List Keyword).isEmpty then 0 else 1)<30))=true:=by rfl)
 (hline:(ap.endLine== cp.line)=true:=by rfl)(hst:starEach [.Name y py] X.env=(false,eval (.Name y py) X.env)::starEach [] X.env:=by exact Ŗ rfl)(hpl:(backTo cp (starEach [] X.env)).any (·.1)=false:=by rfl)(hs:swapsWith (.Call (.Attribute (.Name x px) "append" ap) [.Name y py] [] cp) none pos.line X.env=pure false:=by rfl) :
 aB X [.Expr (.Call (.Attribute (.Name x px) "append" ap) [.Name y py] [] cp) pos] (tW (kk X cm) E n (xq i j)):=
 aB.wk (cP (ľ (aD PySem.F.plainAttrs_list PySem.F.slot_list_append PySem.F.type_list_append ı ho (Ĳ he Ś hst) hbase hfew hline hst hpl) hs)) λ_ _ _ h=>Ht h
def Li{α:Type}{l:List α}{x:α}:nM (l ++ [x]) (-1)=some x:=by
 unfold nM yJ
 rw[if_neg (by omega),if_pos (by simp;omega)]
 show(l ++ [x])[(-1+((l ++ [x]).length:Int)).toNat]?=some x
 rw[show(-1+((l ++ [x]).length:Int)).toNat=l.length by simp;omega]
 simp
abbrev teL(K:PySem.W.Frag)(i:Nat):TE:=Mi (rIx K) (Mi (rIx K) (bG i) (tUn (rU λi=>.int (-i)) (tC (.int 1)))) (tC (.int 2))
theorem BX{α β:Type}{G:α->β->Prop}:∀{l:List α} {m:List β} {y:β},Paired G l m->m.getLast?=some y->∃k x,l=k ++ [x]/\G x y
 |_,_,_,.nil,h=>by cases h
 | [a],[b],y,.cons r .nil,h=>by cases h;exact⟨[],a,rfl,r⟩
 |a::a'::l,b::b'::m,y,.cons r t,h=>by
  obtain⟨k,x,e,g⟩:=BX t (by rw[List.getLast?_cons_cons] at h;exact h)
  exact⟨a::k,x,by rw[e];rfl,g⟩
def BZ{K:KK}{c:Ctx}{F H:Hp}{σ:L2.St}{ρ:ħ}{i:Nat}{dz:List (List PV×List PV)}{d:List PV×List PV}(rel:Rel K c F H σ ρ)(e:ρ[i]?=some (.dw dz))(hd:dz.getLast?=some d) :
 ∃a us t xs b vs,σ[i]?=some (some (.ref a))/\c.L a=some (.lst (us ++ [.ref t]))/\F t=some (.tup (xs ++ [.ref b]))/\Ĉ K F d.1 xs/\c.L b=some (.lst vs)/\Ĉ K F d.2 vs:=by
 obtain⟨a,ts,z1,z2,z3⟩:=rel.slot i _ e
 obtain⟨k,t,rfl,xs,b,vs,k1,k2,k3,k4⟩:=BX z3 hd
 exact⟨a,k.map V.ref,t,xs,b,vs,at_of z1,by rw[z2,List.map_append];rfl,k1,k2,k3,k4⟩
def ZdI{xs:List V}{y:V}(h:xs.length=2):nM (xs ++ [y]) 2=some y:=by
 match xs,h with
 | [a,b],_=>
   unfold nM yJ
   rw[if_pos (by omega),if_pos (by simp)]
   rfl
def Hv{K:PySem.W.Frag}{H:Hp}{σ:L2.St}{i:Nat}{a t b:Addr}{us xs:List V}{Q:VK}(h1:σ[i]?=some (some (.ref a)))(h2:H a=some (.lst (us ++ [.ref t])))(h3:H t=some (.tup (xs ++ [.ref b])))(hl:xs.length=2)(q:Q (.ref b) H):teL K i σ H Q:=
 ⟨.ref a,h1,1,rfl,.inl ⟨a,_,-1,.ref t,rfl,rfl,ŝ.of h2,Li,.inr (.inl ⟨t,_,2,.ref b,rfl,rfl,dh.of h3,ZdI hl,q⟩)⟩⟩
def xr(i:Nat)(me:M PV):M WR:=λρ=>match ρ[i]? with
 |some (.dw dz)=>match dz.getLast? with
  |some d=>if d.1.length=2/\d.2.length<16777216 then(me ρ).bind λp ρ1=>.ok (.l i p) ρ1 else .bad
  |none=>.bad
 |_=>.bad
def Hw{i:Nat}{D:Ends}{σ:L2.St}{H:Hp}(h:tW (kk X cm) E n (xr i me) D σ H):mL (Tf X.K "list" gW (teL X.K i) (tL (kk X cm) E (ă me Ė))) D σ H:=by
 obtain⟨c,F,ρ,rel,h⟩:=h
 unfold xr at h
 split at h
 ·rename_i dz e1
  split at h
  ·rename_i d hd
   split at h
   ·rename_i hz
    obtain⟨a,us,t,xs,b,vs,z1,z2,z3,z4,z5,z6⟩:=BZ rel e1 hd
    refine Hv z1 (rel.lent a _ z2).1 (rel.sub _ _ z3) (by rw[<-z4.length];exact hz.1) ⟨.inl ⟨rfl,_,ŝ.of (rel.lent b _ z5).1⟩,c,F,ρ,rel,?_⟩
    unfold ă
    cases em:me ρ with
    |bad=>rw[em] at h;exact h
    |exc x ρ1=>rw[em] at h;exact λC d F' H' ŋ s1 q=>h σ C d F' H' ŋ s1 q
    |ok p ρ1=>
     rw[em] at h
     intro ws F1 H1 ć s1 s2 r1
     have r1':Ĉ (kk X cm) F1 [p] ws:=r1
     cases r1'.pr with
     |cons rp u=>
      rename_i v vs'
      cases u
      exact⟨b,vs,v,rfl,rfl,(ć.lent b _ z5).1,by rw[<-z6.length,Ĝ];exact hz.2,h σ F1 H1 _ ć s1 (λ_ _=>rfl) ⟨a,us,t,xs,b,vs,v,uZ z1,z2,s1 _ _ z3,z5,rp,rfl⟩⟩
   ·exact h.elim
  ·exact h.elim
 ·exact h.elim
def Vs{i:Nat}{o:Expr}{ap cp:Pos}(ho:PE X o (teL X.K i))(he:PE X e (tV (kk X cm) E me))(hbase:attributeBase o "append" X.env (eval o X.env)=eval o X.env:=by rfl)
 (hfew:((backTo cp (starEach [e] X.env)).all (λx=>!x.1) && (backToKw cp (keywordEach [] X.env)).all (λx=>x.1.isSome) && decide ([e].length+([]:List Keyword).length+(if([]:List Keyword).isEmpty then 0 else 1)<30))=true:=by rfl)
 (hline:(ap.endLine== cp.line)=true:=by rfl)(hst:starEach [e] X.env=(false,eval e X.env)::starEach [] X.env:=by exact Ŗ rfl)(hpl:(backTo cp (starEach [] X.env)).any (·.1)=false:=by rfl)(hs:swapsWith (.Call (.Attribute o "append" ap) [e] [] cp) none pos.line X.env=pure false:=by rfl) :
 aB X [.Expr (.Call (.Attribute o "append" ap) [e] [] cp) pos] (tW (kk X cm) E n (xr i me)):=
 aB.wk (cP (ľ (aD PySem.F.plainAttrs_list PySem.F.slot_list_append PySem.F.type_list_append ı ho (ą he Ħ hst) hbase hfew hline hst hpl) hs)) λ_ _ _ h=>Hw h
def Vt{i:Nat}{x:Str}{px p1 p2 p3 p4 p5:Pos}{j1 j2:Nat}(ho:PE X (.Name x px) (bG i)):PE X (.Subscript (.Subscript (.Name x px) (.UnaryOp .USub (.Constant (.int 1) j1 p1) p2) p3) (.Constant (.int 2) j2 p4) p5) (teL X.K i):=
 Fq zu (Fq zu ho (Mp E_ uq) λ_ _=>rfl) uq λ_ _=>rfl
def pY(i:Nat):M PV:=λρ=>match ρ[i]? with
 |some (.dw dz)=>.ok (.int dz.length) ρ
 |_=>.bad
def xu(i:Nat):M PV:=λρ=>match ρ[i]? with
 |some (.dw dz)=>match dz.getLast? with
  |some d=>if d.1.length=2 then .ok (.int d.2.length) ρ else .bad
  |none=>.bad
 |_=>.bad
end
inductive FW where
 |ok (w:WR)|exc (x:PX)|bad
abbrev MW:=List Slot->FW
def cY(n k:Nat)(mb:M WR):MW:=λas=>if as.length=n then(match mb (startP k as) with
 | .ok w _=>if w.ix<n then .ok w else .bad
 | .exc x _=>.exc x
 | .bad=>.bad) else .bad
def ZaC(K:KK)(E:XK)(F H:Hp)(vs:List V)(Q:VK):FW->Prop
 | .ok w=>∀F' H' H2,Gr F H F' H'->wZ K (ctx0 F H).L H F' H' (vs[w.ix]?) H2 w->Q .non H2
 | .exc x=>∀C d F' H',Gr F H F' H'->Dr K F' x C d->E C d H'
 | .bad=>False
def Vu(K:KK)(n:Nat)(mf:MW):Sp:=λvs H Q E=>∃F as,as.length=n/\Same F H/\Paired (ak K F H) as vs/\ZaC K E F H vs Q (mf as)
def DK{N:List Str}{vs:List V}{i:Nat}(h:i<vs.length):kW (L2.start N vs) i=vs[i]?:= by
 unfold kW L2.start
 rw[List.getElem?_append_left (by simpa using h),List.getElem?_map,List.getElem?_eq_getElem h]
 rfl
section
variable{Pg:Program}{w:World}{K:PySem.W.Frag}{cm:String->Addr}{mg:Str->Option Value}{base:Heap}{CX:jh}
def fnW{x qual:Str}{st:Stmt}{f:Addr}{fd:FuncData}{N ps:List Str}{k n j:Nat}{mb:M WR}{mf:MW}(F:Jz K x qual st f fd)(S:đ N ps (Ć st))
 (hbody:∀(cdv:Value) (A:Around) (outer:List Env) (s:Shared) (H:Hp) (E:XK),Ū k (A.deeper (envOfC qual (Ć st) s.heap.objs.size f cdv))→(A.deeper (envOfC qual (Ć st) s.heap.objs.size f cdv)).units+64<cLine→
   aB (qX CX Pg w K mg base N qual (Ć st) f cdv A outer s H E) (ś st) (tW ⟨K,cm⟩ (λ_=>E) ps.length mb))(hn:ps.length=n:=by rfl)(hj:N.length=j:=by rfl)(hf:mf=cY n j mb:=by rfl):ī Pg w K mg base CX (k+1) f fd ps (Vu ⟨K,cm⟩ n mf):=by
 subst hn hj hf
 obtain⟨oc,od,kV,doc,pm,an,cdv,ct,osl,rfl,lk,hcd⟩:=F.ex
 refine Fj lk hcd S (λvs H Q E ⟨F,ps',h1,_,h2,_⟩=>by rw[<-Paired.length h2];exact h1) λA outer s H vs Q E hr hsp=>?_
 obtain⟨F,ps',h1,h2,h3,h4⟩:=hsp
 refine⟨_,hbody cdv A outer s H E hr hr.units,ctx0 F H,F,startP N.length ps',Rel.start h2 h3,?_⟩
 unfold cY at h4
 rw[if_pos h1] at h4
 cases e:mb (startP N.length ps') with
 |bad=>rw[e] at h4;exact h4
 |exc x ρ'=>rw[e] at h4;exact λσ' C d F' H' rel s1 q=>h4 C d F' H' rel.gr q
 |ok w ρ'=>
  rw[e] at h4
  dsimp only at h4
  split at h4
  ·rename_i hw
   intro σ' F' H' H2 rel s1 hs q
   refine h4 F' H' H2 rel.gr ?_
   rw[hs _ hw,DK (by rw[<-Paired.length h3,h1];exact hw)] at q
   exact q
  ·exact h4.elim
end
def fU(ρ:ħ):List Nat->Option (List Slot)
 | []=>some []
 |i::is=>((ρ[i]?).bind aF).bind λs=>(fU ρ is).map (s:: ·)
theorem pZ{K:KK}{c:Ctx}{F H:Hp}{σ:L2.St}{ρ:ħ}(rel:Rel K c F H σ ρ):∀{ns:List Nat} {as:List Slot},fU ρ ns=some as->∃vs:List V,ns.map (kW σ)=vs.map some/\Paired (ak K F H) as vs
 | [],as,h=>by cases h;exact⟨[],rfl,.nil⟩
 |i::ns,as,h=>by
  unfold fU at h
  obtain⟨s,e1,h⟩:=Option.bind_eq_some_iff.mp h
  obtain⟨as',e2,rfl⟩:=Option.map_eq_some_iff.mp h
  obtain⟨v,v1,v2⟩:=oH rel e1
  obtain⟨vs,q1,q2⟩:=pZ rel e2
  exact⟨v::vs,by rw[List.map_cons,List.map_cons,q1,uZ v1],.cons v2 q2⟩
def tNm(ns:List Nat):TA:=λσ H Q=>∃vs:List V,ns.map (kW σ)=vs.map some/\Q vs H
def nU:WR->Option Slot->Bool
 | .t _ _,some (.bw _)=>true
 | .d _ _,some (.dw _)=>true
 | .l _ _,some (.dw _)=>true
 |_,_=>false
def Ŝ(mf:MW)(ns:List Nat):M WR:=λρ=>match fU ρ ns with
 |none=>.bad
 |some as=>match mf as with
  | .ok w=>(match ns[w.ix]? with
    |some j=>if nU w ρ[j]?=true then .ok (w.to j) ρ else .bad
    |none=>.bad)
  | .exc x=>.exc x ρ
  | .bad=>.bad
section
variable{X:Cx}{cm:String->Addr}{E:L2.St->XK}{CX:jh}{k j n m:Nat}{f:Addr}{fd:FuncData}{ps:List Str}{mf:MW}{x:Str}{st:Stmt}{p pos pos2:Pos}{e:Expr}{es:List Expr}
def u_:PA X [] (tNm []):=PA.wk Ś λσ H Q ⟨vs,h1,h2⟩=>by
 cases vs with
 |nil=>exact h2
 |cons _ _=>cases h1
def zP{σ:L2.St}{i:Nat}{v:V}(h:kW σ i=some v):σ[i]?=some (some v):=at_of h
def ť(i:Nat){ns:List Nat}{px:Pos}(ho:PE X (.Name x px) (bG i))(hr:PA X es (tNm ns))(hs:starEach (.Name x px::es) X.env=(false,eval (.Name x px) X.env)::starEach es X.env:=by exact Ŗ rfl):PA X (.Name x px::es) (tNm (i::ns)):=
 PA.wk (Ĳ ho hr hs) fun σ H Q ⟨vs,h1,h2⟩=>by
   cases vs with
   |nil=>cases h1
   |cons v vs=>
    rw[List.map_cons,List.map_cons] at h1
    injection h1 with h3 h4
    exact⟨v,zP h3,vs,h4,h2⟩
def xG{sp:Sp}{ta:TA}(F:ī X.prog X.w X.K X.mg X.base CX k f fd ps sp)(hr:Ū k X.A)(hg:Gl X x)(hm:X.mg x=some (.ref f))(hk:PySem.W.keepIn X.K (.ref f)=true)(hb:Binds X.K fd ps [])(hx:bA CX X E)
 (ha:PA X (e::es) ta)(hdb:(x== ("__debug__" :Str))=false:=by decide)(he:starEach (e::es) X.env=(false,eval e X.env)::starEach es X.env:=by exact Ŗ rfl)(hpl:(backTo pos (starEach es X.env)).any (·.1)=false:=by rfl) :
 PE X (.Call (.Name x p) (e::es) [] pos) (λσ H Q=>ta σ H λvs H1=>sp vs H1 Q (E σ)):=by
 intro pins s σ H Q I h
 refine wpAny_Call_Name_kw (jD I hg hm ?_ hdb)
 refine PySem.W.callWith_K (h₀:= X.base) I.ok.mod.Xm hk (ņ (ha pos pins s σ H _ I h) λus s1 ⟨vs,H1,I1,r,q⟩=>⟨I1.kJ,?_⟩) he hpl
 exact uM F hr hb hx I1 r q
def tQ{n k:Nat}{mb:M WR}{ps:List Slot}(h:cY n k mb ps≠ .bad):ps.length=n:=by
 unfold cY at h
 by_cases hl:ps.length=n
 ·exact hl
 ·rw[if_neg hl] at h;exact absurd rfl h
def Vv{j:Nat}{p:PV}{o:Option Slot}(h:nU (.t j p) o=true):∃ps,o=some (.bw ps):=by
 cases o with
 |none=>cases h
 |some s=>cases s<;>first|exact⟨_,rfl⟩|cases h
def Vw{j:Nat}{p:List PV}{o:Option Slot}(h:nU (.d j p) o=true):∃ps,o=some (.dw ps):=by
 cases o with
 |none=>cases h
 |some s=>cases s<;>first|exact⟨_,rfl⟩|cases h
def Vx{j:Nat}{p:PV}{o:Option Slot}(h:nU (.l j p) o=true):∃ps,o=some (.dw ps):=by
 cases o with
 |none=>cases h
 |some s=>cases s<;>first|exact⟨_,rfl⟩|cases h
def xH{F:Hp}{t b b':Addr}{xs ys:List V}(h:F t=some (.tup (xs ++ [.ref b])))(h':F t=some (.tup (ys ++ [.ref b']))):b=b':=by
 rw[h] at h'
 injection h' with h'
 injection h' with h'
 have:=(List.append_inj' h' rfl).2
 injection this with this
 injection this
def ZaD{K:KK}{c:Ctx}{F H F' H' H2:Hp}{σ:L2.St}{ρ:ħ}{i:Nat}{w:WR}(rel:Rel K c F H σ ρ)(g:Gr F H F' H')(hs:nU w ρ[i]?=true)(h:wZ K (ctx0 F H).L H F' H' (kW σ i) H2 w):wZ K c.L c.B F' H' (kW σ i) H2 w:=by
 have dwL:∀{dz:List (List PV×List PV)} {a:Addr} {us:List V},ρ[i]?=some (.dw dz)->kW σ i=some (.ref a)->(ctx0 F H).L a=some (.lst us)->c.L a=some (.lst us)/\∃ts:List Addr,us=ts.map V.ref/\∀t∈ts,∃xs b vs,F t=some (.tup (xs ++ [.ref b]))/\c.L b=some (.lst vs):=by
  intro dz a us e h1 h2
  obtain⟨a',ts,q1,q2,q3⟩:=rel.slot i _ e
  have e2:=at_of q1
  rw[zP h1] at e2
  cases e2
  have e3:=(rel.lent a _ q2).1
  rw[(ŗ h2).1] at e3
  cases e3
  refine⟨q2,ts,rfl,λt ht=>?_⟩
  obtain⟨j,hj⟩:=List.getElem?_of_mem ht
  obtain⟨d,_,xs,b,vs,k1,_,k3,_⟩:=aW q3 hj
  exact⟨xs,b,vs,k1,k3⟩
 cases w with
 |t j p=>
  obtain⟨ps,e⟩:=Vv hs
  obtain⟨a,vs,v,h1,h2,h3⟩:=h
  obtain⟨a',vs',q1,q2,q3⟩:=rel.slot i _ e
  have e2:=at_of q1
  rw[zP h1] at e2
  cases e2
  have e3:=(rel.lent a _ q2).1
  rw[(ŗ h2).1] at e3
  cases e3
  exact⟨a,vs,v,h1,q2,h3⟩
 |d j ps=>
  obtain⟨dz,e⟩:=Vw hs
  obtain⟨a,us,t,xs,b,h1,h2,h3,h4,h5,h6,h7,h8⟩:=h
  exact⟨a,us,t,xs,b,h1,(dwL e h1 h2).1,h3,h4,h5,h6,rel.base.free h7,h8⟩
 |l j p=>
  obtain⟨dz,e⟩:=Vx hs
  obtain⟨a,us,t,xs,b,vs,v,h1,h2,h3,h4,h5⟩:=h
  obtain⟨g1,ts,g2,g3⟩:=dwL e h1 h2
  have ht:t∈ts:=by
   have:V.ref t∈ts.map V.ref:=by rw[<-g2];simp
   obtain⟨t',m1,m2⟩:=List.mem_map.mp this
   injection m2 with m2
   exact m2▸m1
  obtain⟨xs',b',vs',k1,k2⟩:=g3 t ht
  have eb:=xH (g.f _ _ k1) h3
  subst eb
  have e3:=(rel.lent b' _ k2).1
  rw[(ŗ h4).1] at e3
  cases e3
  exact⟨a,us,t,xs,b',vs,v,h1,g1,h3,k2,h5⟩
def w_call(F:ī X.prog X.w X.K X.mg X.base CX k f fd ps (Vu (kk X cm) m mf))(D:Df X.K X.mg x st ps f fd)(hr:Ū j X.A)(hx:bA CX X E){ns:List Nat}(ha:PA X (e::es) (tNm ns))
 (hlen:∀{as:List Slot},mf as≠ .bad->as.length=m:=by exact tQ)(hg:Gl X x:=by rfl)(hkj:k<=j:=by decide)(hdb:(x== ("__debug__" :Str))=false:=by decide)(he:starEach (e::es) X.env=(false,eval e X.env)::starEach es X.env:=by exact Ŗ rfl)(hpl:(backTo pos (starEach es X.env)).any (·.1)=false:=by rfl)(hs:swapsWith (.Call (.Name x p) (e::es) [] pos) none pos2.line X.env=pure false:=by rfl) :
 aB X [.Expr (.Call (.Name x p) (e::es) [] pos) pos2] (tW (kk X cm) E n (Ŝ mf ns)):=
 aB.wk (cP (ľ (xG F (hr.mono hkj) hg D.m D.F.kp D.b hx ha hdb he hpl) hs)) λD σ H ⟨c,F,ρ,rel,h⟩=>by
  unfold Ŝ at h
  cases el:fU ρ ns with
  |none=>rw[el] at h;exact h.elim
  |some as=>
   rw[el] at h
   dsimp only at h
   obtain⟨vs,v1,v2⟩:=pZ rel el
   refine⟨vs,v1,F,as,hlen λz=>?_,rel.sub,v2,?_⟩
   ·rw[z] at h;exact h
   ·cases em:mf as with
    |bad=>rw[em] at h;exact h
    |exc x=>rw[em] at h;exact λC d F' H' g rx=>h σ C d F' H' (rel.call g) g.f rx
    |ok w=>
     rw[em] at h
     dsimp only at h
     cases ej:ns[w.ix]? with
     |none=>rw[ej] at h;exact h.elim
     |some i=>
      rw[ej] at h
      dsimp only at h
      split at h
      ·rename_i hok
       intro F' H' H2 g hw
       have ev:vs[w.ix]?=kW σ i:=by
        have:=congrArg (λl=>l[w.ix]?) v1
        simp only[List.getElem?_map,ej,Option.map_some] at this
        cases ev:vs[w.ix]? with
        |none=>rw[ev] at this;cases this
        |some v=>rw[ev] at this;injection this with this;exact this.symm
       rw[ev] at hw
       have:=ZaD rel g hok hw
       refine h σ F' H' H2 (rel.call g) g.f (λ_ _=>rfl) ?_
       rw[Nj]
       exact this.to
      ·exact h.elim
end
section
variable{X:Cx}{cm:String->Addr}{E:L2.St->XK}{e:Expr}{p pos:Pos}
def vd(i:Nat){x:Str}{px:Pos}(hm:X.mg "len" =none)(ho:PE X (.Name x px) (bG i))(hg:Gl X "len" := by rfl)(he:starEach [.Name x px] X.env=(false,eval (.Name x px) X.env)::starEach [] X.env:=by exact Ŗ rfl)(hpl:(backTo pos (starEach [] X.env)).any (·.1)=false:=by rfl) :
 PE X (.Call (.Name "len" p) [.Name x px] [] pos) (tV (kk X cm) E (pY i)):=PE.wk (oZ ŷ hg hm PySem.boot_len (Ĳ ho Ś he) (he:=he) (hpl:=hpl)) λσ H Q ⟨c,F,ρ,rel,h⟩=>by
 unfold pY at h
 split at h
 ·rename_i dz e
  obtain⟨a,ts,z1,z2,z3⟩:=rel.slot i _ e
  refine⟨.ref a,at_of z1,ts.map V.ref,.inl (ŝ.of (rel.lent a _ z2).1),h _ F H rel (Same.refl _) (Same.refl _) ?_⟩
  show Rep _ _ _ _
  unfold Rep
  rw[List.length_map,Paired.length z3]
 ·exact h.elim
def Hx(i:Nat){o:Expr}(hm:X.mg "len" =none)(ho:PE X o (teL X.K i))(hg:Gl X "len" := by rfl)(he:starEach [o] X.env=(false,eval o X.env)::starEach [] X.env:=by exact Ŗ rfl)(hpl:(backTo pos (starEach [] X.env)).any (·.1)=false:=by rfl) :
 PE X (.Call (.Name "len" p) [o] [] pos) (tV (kk X cm) E (xu i)):=PE.wk (oZ ŷ hg hm PySem.boot_len (Ĳ ho Ś he) (he:=he) (hpl:=hpl)) λσ H Q ⟨c,F,ρ,rel,h⟩=>by
 unfold xu at h
 split at h
 ·rename_i dz e
  split at h
  ·rename_i d hd
   split at h
   ·rename_i hl
    obtain⟨a,us,t,xs,b,vs,z1,z2,z3,z4,z5,z6⟩:=BZ rel e hd
    refine Hv z1 (rel.lent a _ z2).1 (rel.sub _ _ z3) (by rw[<-z4.length];exact hl) ⟨vs,.inl (ŝ.of (rel.lent b _ z5).1),h _ F H rel (Same.refl _) (Same.refl _) ?_⟩
    show Rep _ _ _ _
    unfold Rep
    rw[z6.length]
   ·exact h.elim
  ·exact h.elim
 ·exact h.elim
end
@[simp] theorem Zb7{i:Nat}{ρ:ħ}:pY i ρ=(match ρ[i]? with
  |some (.dw dz)=>.ok (.int dz.length) ρ
  |_=>.bad):=rfl
@[simp] theorem ZaE{i:Nat}{ρ:ħ}:xu i ρ=(match ρ[i]? with
  |some (.dw dz)=>match dz.getLast? with
   |some d=>if d.1.length=2 then .ok (.int d.2.length) ρ else .bad
   |none=>.bad
  |_=>.bad):=rfl
@[simp] theorem ZaF{mt:M Bool}{mb:M Fl}{mr:M WR}{ρ:ħ}:mF mt mb mr ρ=(mt ρ).bind fun b ρ1=>if b=true then(match mb ρ1 with
  | .exc x ρ2=>.exc x ρ2
  |_=>.bad) else mr ρ1:=rfl
@[simp] theorem ZdJ{mt:M Bool}{m1 m2:M WR}{ρ:ħ}:Lg mt m1 m2 ρ=(mt ρ).bind λb ρ1=>if b=true then m1 ρ1 else m2 ρ1:=rfl
@[simp] theorem Zb8{i:Nat}{mo:M RV}{mr:M WR}{ρ:ħ}:Hr i mo mr ρ=(mo ρ).bind λr ρ1=>mr (ρ1.set i r.slot):=rfl
end P
namespace P
open PySem PySem.Spec PyProof.Rows L2 M2 M3 M4
abbrev DL:=List (List PV×List PV)
def plainS:Slot->Bool
 | .no=>true
 | .sh _=>true
 | .ow _=>true
 | .bw _=>true
 |_=>false
def mY(s:Slot):Slot:=(aF s).getD .no
def ů(iT iD:Nat)(T:List PV)(D:DL)(ρ:ħ):ħ:=((ρ.map mY).set iT (.bw T)).set iD (.dw D)
def xJ(iT iD:Nat)(w:WR)(T:List PV)(D:DL):Option (List PV×DL):=match w with
 | .t k p=>if k=iT then some (T ++ [p],D) else none
 | .d k ps=>if k=iD then some (T,D ++ [(ps,[])]) else none
 | .l k p=>if k=iD then(match D.getLast? with
   |some d=>some (T,D.dropLast ++ [(d.1,d.2 ++ [p])])
   |none=>none) else none
def fu(i j iT iD:Nat)(mw:M WR):List PV->ħ->List PV->DL->Res (List PV×DL)
 | [],ρ,T,D=>.ok (T,D) ρ
 |p::ps,ρ,T,D=>match p with
  | .tup [q1,q2]=>(match mw (ů iT iD T D ((ρ.set i (.sh q1)).set j (.sh q2))) with
    | .ok w _=>(match xJ iT iD w T D with
      |some (T',D')=>fu i j iT iD mw ps ((ρ.set i (.sh q1)).set j (.sh q2)) T' D'
      |none=>.bad)
    | .exc x _=>.exc x ((ρ.set i (.sh q1)).set j (.sh q2))
    | .bad=>.bad)
  |_=>.bad
def mRY(i j iT iD:Nat)(mi:M (List PV))(mw:M WR)(mt:M Fl):M Fl:=fun ρ=>if ρ.all plainS=true∧iT < ρ.length∧iD < ρ.length then
    (match mi ((ρ.set iT .no).set iD .no) with
    | .ok items ρ1=>if ρ1.all plainS=true then(fu i j iT iD mw items ρ1 [] []).bind fun td ρ2=>(match mt (ů iT iD td.1 td.2 ρ2) with
      | .ok (.rt (.sh p)) _=>.ok (.rt (.sh p)) ρ2
      | .exc x _=>.exc x ρ2
      |_=>.bad) else .bad
    |_=>.bad)
 else .bad
def jP(K:KK)(F H:Hp)(x:Addr×Addr)(d:List PV×List PV):Prop:=∃xs vs,F x.1=some (.tup (xs ++ [.ref x.2]))/\Ĉ K F d.1 xs/\H x.2=some (.lst vs)/\Ĉ K F d.2 vs
def Ex(K:KK)(c:Ctx)(F H:Hp)(σ:L2.St)(ρ:ħ)(iT iD:Nat)(T:List PV)(D:DL)(pT pD:Addr)(tb:List (Addr×Addr)):Prop:=
 kW σ iT=some (.ref pT)/\kW σ iD=some (.ref pD)/\(∃us,H pT=some (.lst us)/\Ĉ K F T us)/\H pD=some (.lst (tb.map λx=>.ref x.1))/\Paired (jP K F H) tb D/\(pT::pD::tb.map (·.2)).Nodup/\∀a∈pT::pD::tb.map (·.2),F a=none/\c.B a=none/\Ź F σ ρ a
section
variable{K:KK}{c:Ctx}{F H F' H':Hp}{σ:L2.St}{ρ:ħ}{iT iD:Nat}{T:List PV}{D:DL}{pT pD:Addr}{tb:List (Addr×Addr)}
def Hy{x:Addr}(h:Paired (jP K F H) tb D)(hx:x∈tb.map (·.2)):H x≠none:=by
 obtain⟨y,hy,rfl⟩:=List.mem_map.mp hx
 obtain⟨k,hk⟩:=List.getElem?_of_mem hy
 obtain⟨d,_,xs,vs,_,_,h3,_⟩:=aW h hk
 rw[h3];intro z;cases z
def Ex.some(h:Ex K c F H σ ρ iT iD T D pT pD tb){a:Addr}(ha:a∈pT::pD::tb.map (·.2)):H a≠none:=by
 obtain⟨_,_,⟨us,h1,_⟩,h2,h3,_⟩:=h
 rcases List.mem_cons.mp ha with rfl|ha
 ·rw[h1];intro z;cases z
 rcases List.mem_cons.mp ha with rfl|ha
 ·rw[h2];intro z;cases z
 ·exact Hy h3 ha
def Ex.call(rel:Rel K c F H σ ρ)(h:Ex K c F H σ ρ iT iD T D pT pD tb)(g:Gr F H F' H'):Ex K c F' H' σ ρ iT iD T D pT pD tb:=by
 have hs:=fun{a}=>h.some (a:=a)
 obtain⟨k1,k2,⟨us,h1,h1'⟩,h2,h3,h4,h5⟩:=h
 exact⟨k1,k2,⟨us,g.h _ _ h1,h1'.same g.f T us⟩,g.h _ _ h2,Paired.Rz h3 λx d ⟨xs,vs,q1,q2,q3,q4⟩=>⟨xs,vs,g.f _ _ q1,q2.same g.f d.1 xs,g.h _ _ q3,q4.same g.f d.2 vs⟩,h4,λa ha=>⟨g.out a (hs ha) (h5 a ha).1,(h5 a ha).2.1,rel.cB g.f (h5 a ha).2.2⟩⟩
def Rel.mG{a:Addr}{o:HO}(r:Rel K c F H σ ρ)(hF:F a=none)(hB:c.B a=none)(hf:Ź F σ ρ a):Rel K c F (upd H a o) σ ρ where
 sub:=λb u e=>by
  have hb:b≠a:=λz=>by rw[z,hF] at e;cases e
  rw[ĉ hb];exact r.sub b u e
 base:=λb u e=>by
  have hb:b≠a:=λz=>by rw[z,hB] at e;cases e
  rw[ĉ hb];exact r.base b u e
 f0:=r.f0
 bM:=r.bM
 lent:=λb u e=>by
  have hb:b≠a:=λz=>by rw[z,r.lb a hB] at e;cases e
  rw[ĉ hb];exact r.lent b u e
 lb:=r.lb
 len:=r.len
 slot:=λj s e=>(r.slot j s e).grow (Same.refl F) λb u ⟨y,e1,e2⟩ h1 h2 h3=>by
  have hb:b≠a:=λz=>by
   subst z
   exact hf j ⟨s,y,e,zA e1,e2⟩
  exact⟨by rw[ĉ hb];exact h1,h2⟩
 sep:=r.sep
def vf{p:Slot->Bool}{s:Slot}{i:Nat}(h:ρ.all p=true)(e:ρ[i]?=some s):p s=true:=by
 rw[List.all_eq_true] at h
 exact h s (List.mem_of_getElem? e)
def Ctx.rD(c:Ctx)(A:List Addr)(H:Hp):Ctx:=⟨λb=>if b∈A then H b else c.B b,c.F₀,c.L,c.S⟩
theorem Rel.rD{A:List Addr}(r:Rel K c F H σ ρ)(hA:∀a∈A,H a≠none/\F a=none/\c.B a=none/\Ź F σ ρ a)(hp:ρ.all plainS=true):Rel K (c.rD A H) F H σ ρ where
 sub:=r.sub
 base:=λb u e=>by
  have e':(if b∈A then H b else c.B b)=some u:=e
  split at e'
  ·exact e'
  ·exact r.base b u e'
 f0:=r.f0
 bM:=λa h1 h2=>by
  have h1':(if a∈A then H a else c.B a)≠none:=h1
  split at h1'
  ·rename_i q;exact(hA a q).2.1
  ·exact r.bM a h1' h2
 lent:=r.lent
 lb:=fun a h=>by
   have h':(if a∈A then H a else c.B a)=none:=h
   split at h'
   ·rename_i q;exact absurd h' (hA a q).1
   ·exact r.lb a h'
 len:=r.len
 slot:=λi s e=>by
  have hs:=vf hp e
  have q:=r.slot i s e
  cases s with
  |no=>trivial
  |sh p=>exact q
  |bw ps=>exact q
  |ow ps=>
   obtain⟨a,vs,q1,q2,q3,q4,q5⟩:=q
   refine⟨a,vs,q1,q2,q3,?_,q5⟩
   show(if a∈A then H a else c.B a)=none
   rw[if_neg λz=>(hA a z).2.2.2 i ⟨_,_,e,at_of q1,rfl⟩]
   exact q4
  |_=>cases hs
 sep:=r.sep
def Rel.Hz{A:List Addr}{H₀:Hp}(r:Rel K (c.rD A H₀) F H σ ρ)(hA:∀a∈A,H₀ a≠none/\c.B a=none)(hl:∀a,c.B a=none->c.L a=none)(hp:ρ.all plainS=true):Rel K c F H σ ρ where
 sub:=r.sub
 base:=λb u e=>r.base b u (by
  show(if b∈A then H₀ b else c.B b)=some u
  rw[if_neg λz=>by rw[(hA b z).2] at e;cases e]
  exact e)
 f0:=r.f0
 bM:=λa h1 h2=>r.bM a (by
  show(if a∈A then H₀ a else c.B a)≠none
  rw[if_neg λz=>h1 (hA a z).2]
  exact h1) h2
 lent:=r.lent
 lb:=hl
 len:=r.len
 slot:=λi s e=>by
  have hs:=vf hp e
  have q:=r.slot i s e
  cases s with
  |no=>trivial
  |sh p=>exact q
  |bw ps=>exact q
  |ow ps=>
   obtain⟨a,vs,q1,q2,q3,q4,q5⟩:=q
   have q4':(if a∈A then H₀ a else c.B a)=none:=q4
   refine⟨a,vs,q1,q2,q3,?_,q5⟩
   split at q4'
   ·rename_i z;exact(hA a z).2
   ·exact q4'
  |_=>cases hs
 sep:=r.sep
def Rel.lend(r:Rel K c F H σ ρ)(hp:ρ.all plainS=true)(h:Ex K c F H σ ρ iT iD T D pT pD tb)(n:iT≠iD):Rel K (ctx0 F H) F H σ (ů iT iD T D ρ) where
 sub:=r.sub
 base:=Same.refl H
 f0:=Same.refl F
 bM:=λ_ _ h=>h
 lent:=λ_ _ e=>ŗ e
 lb:=fun a e=>by
   cases q:(ctx0 F H).L a with
   |none=>rfl
   |some u=>
    have e':H a=none:=e
    rw[(ŗ q).1] at e'
    cases e'
 len:=by unfold ů;simpa using r.len
 slot:= λi s e=>by
  obtain⟨k1,k2,⟨us,h1,h1'⟩,h2,h3,h4,h5⟩:=h
  have L:∀{a u},H a=some u->F a=none->(ctx0 F H).L a=some u:=fun{a u} e1 e2=>by
   show(match F a with|none=>H a|some _=>none)=some u
   rw[e2]
   exact e1
  unfold ů at e
  rcases Ŀ e with⟨rfl,rfl,_⟩|⟨hj,e⟩
  ·refine⟨pD,tb.map (·.1),k2,L (by rw[h2,List.map_map];rfl) (h5 pD (by simp)).1,?_⟩
   have:∀{tb':List (Addr×Addr)} {D':DL},(∀x∈tb',F x.2=none)->Paired (jP K F H) tb' D'->Paired (λ(t:Addr) (d:List PV×List PV)=>∃xs b vs,F t=some (.tup (xs ++ [.ref b]))/\Ĉ K F d.1 xs/\(ctx0 F H).L b=some (.lst vs)/\Ĉ K F d.2 vs) (tb'.map (·.1)) D':=by
    intro tb' D' hn hq
    induction hq with
    |nil=>exact .nil
    |@cons x d l m q t ih=>
     obtain⟨xs,vs,q1,q2,q3,q4⟩:=q
     exact .cons ⟨xs,x.2,vs,q1,q2,L q3 (hn x (by simp)),q4⟩ (ih λy hy=>hn y (List.mem_cons_of_mem _ hy))
   exact this (λx hx=>(h5 x.2 (List.mem_cons_of_mem _ (List.mem_cons_of_mem _ (List.mem_map.mpr ⟨x,hx,rfl⟩)))).1) h3
  ·rcases Ŀ e with⟨rfl,rfl,_⟩|⟨hj2,e⟩
   ·exact⟨pT,us,k1,L h1 (h5 pT (by simp)).1,h1'⟩
   ·rw[List.getElem?_map] at e
    cases e0:ρ[i]? with
    |none=>rw[e0] at e;cases e
    |some s0=>
     rw[e0] at e
     have es:mY s0=s:=Option.some.inj e
     subst es
     unfold mY
     cases el:aF s0 with
     |none=>trivial
     |some s1=>
      obtain⟨v,v1,v2⟩:=oH r (show(ρ[i]?).bind aF=some s1 by rw[e0];exact el)
      rw[v1]
      exact(ak.slot v2).1
 sep:=λi j a h1 _=>by
  obtain⟨s',y,q1,_,q2⟩:=h1
  have q2:=jl q2
  exfalso
  have:s'.own=false:=by
   unfold ů at q1
   rcases Ŀ q1 with⟨_,rfl,_⟩|⟨_,q1⟩
   ·rfl
   ·rcases Ŀ q1 with⟨_,rfl,_⟩|⟨_,q1⟩
    ·rfl
    ·rw[List.getElem?_map] at q1
     cases e0:ρ[i]? with
     |none=>rw[e0] at q1;cases q1
     |some s0=>
      rw[e0] at q1
      have es:mY s0=s':=Option.some.inj q1
      subst es
      have hs:=vf hp e0
      cases s0<;>first|rfl|cases hs
  rw[this] at q2
  cases q2
def mZ{A:List Addr}{a b:Addr}(h:(a::A).Nodup)(hb:b∈A):b≠a:=λz=>(List.nodup_cons.mp h).1 (z▸hb)
def zQ{a:Addr}{o:HO}{tb:List (Addr×Addr)}{D:DL}(hn:∀x∈tb,x.2≠a)(h:Paired (jP K F H) tb D):Paired (jP K F (upd H a o)) tb D:=by
 induction h with
 |nil=>exact .nil
 |@cons x d l m q t ih=>
  obtain⟨xs,vs,q1,q2,q3,q4⟩:=q
  exact .cons ⟨xs,vs,q1,q2,by rw[ĉ (hn x (by simp))];exact q3,q4⟩ (ih λy hy=>hn y (List.mem_cons_of_mem _ hy))
theorem xK{α β:Type}{G:α->β->Prop}:∀{l:List α} {m:List β} {d:β},Paired G l m->m.getLast?=Option.some d->∃l0 x,l=l0 ++ [x]/\Paired G l0 m.dropLast/\G x d
 |_,_,_,.nil,h=>by cases h
 | [a],[b],y,.cons r .nil,h=>by cases h;exact⟨[],a,rfl,.nil,r⟩
 |a::a'::l,b::b'::m,y,.cons r t,h=>by
  obtain⟨k,x,e,g1,g2⟩:=xK t (by rw[List.getLast?_cons_cons] at h;exact h)
  exact⟨a::k,x,by rw[e];rfl,.cons r g1,g2⟩
def Ex.put{H2:Hp}{w:WR}{T':List PV}{D':DL}(rel:Rel K c F H σ ρ)(h:Ex K c F H σ ρ iT iD T D pT pD tb)(g:Gr F H F' H')(hw:wZ K (ctx0 F H).L H F' H' (kW σ w.ix) H2 w)(hp:xJ iT iD w T D=Option.some (T',D')) :
 Rel K c F' H2 σ ρ/\∃tb',Ex K c F' H2 σ ρ iT iD T' D' pT pD tb':=by
 have ŋ:=rel.call g
 have hs:=fun{a}=>h.some (a:=a)
 have h0:=h
 have h':=Ex.call rel h g
 obtain⟨k1,k2,⟨us,h1,h1'⟩,h2,h3,h4,h5⟩:=h'
 cases w with
 |t k p=>
  unfold xJ at hp
  dsimp only at hp
  split at hp
  ·rename_i ek
   subst ek
   cases hp
   obtain⟨a,vs,v,w1,w2,w3,w4,rfl⟩:=hw
   have ea:pT=a:=by
    have:kW σ k=Option.some (.ref a):=w1
    rw[k1] at this
    injection this with this
    injection this
   subst ea
   obtain⟨f1,f2,f3⟩:=h5 pT (by simp)
   have ev:us=vs:=by
    have:=g.h _ _ (ŗ w2).1
    rw[h1] at this
    cases this
    rfl
   subst ev
   refine⟨ŋ.mG f1 f2 f3,tb,k1,k2,⟨us ++ [v],Ď,Ĉ.append h1' (Ĉ.cons w3 Ĉ.nil)⟩,?_,?_,h4,h5⟩
   ·rw[ĉ (mZ h4 (by simp))];exact h2
   ·exact zQ (λx hx=>mZ h4 (List.mem_cons_of_mem _ (List.mem_map.mpr ⟨x,hx,rfl⟩))) h3
  ·cases hp
 |d k ps=>
  unfold xJ at hp
  dsimp only at hp
  split at hp
  ·rename_i ek
   subst ek
   cases hp
   obtain⟨a,us',t,xs,b,w1,w2,w3,w4,w5,w6,w7,rfl⟩:=hw
   have ea:pD=a:=by
    have:kW σ k=Option.some (.ref a):=w1
    rw[k2] at this
    injection this with this
    injection this
   subst ea
   obtain⟨f1,f2,f3⟩:=h5 pD (by simp)
   have ev:us'=tb.map λx=>.ref x.1:=by
    have:=g.h _ _ (ŗ w2).1
    rw[h2] at this
    cases this
    rfl
   subst ev
   have hb:∀x∈pT::pD::tb.map (·.2),x≠b:=λx hx z=>hs hx (by rw[z];exact w7)
   have bD:b≠pD:=λz=>hb pD (by simp) z.symm
   refine⟨ŋ.mG f1 f2 f3,tb ++ [(t,b)],k1,k2,⟨us,?_,h1'⟩,?_,?_,?_,?_⟩
   ·rw[ĉ (Ne.symm (mZ h4 (by simp)))];exact h1
   ·rw[Ď,List.map_append];rfl
   ·refine pB (zQ (λx hx=>?_) h3) (.cons ⟨xs,[],w3,w4,by rw[ĉ bD];exact w5,Ĉ.nil⟩ .nil)
    exact mZ (List.nodup_cons.mp h4).2 (List.mem_map.mpr ⟨x,hx,rfl⟩)
   ·rw[List.map_append,<-List.cons_append,<-List.cons_append,List.nodup_append]
    refine⟨h4,by simp,λx hx y hy=>?_⟩
    have:y=b:=by simpa using hy
    subst this
    exact hb x hx
   ·intro x hx
    rw[List.map_append,<-List.cons_append,<-List.cons_append] at hx
    rcases List.mem_append.mp hx with hx|hx
    ·exact h5 x hx
    ·have:x=b:=by simpa using hx
     subst this
     exact⟨w6,rel.base.free w7,rel.cB g.f (rel.fresh w7)⟩
  ·cases hp
 |l k p=>
  unfold xJ at hp
  dsimp only at hp
  split at hp
  ·rename_i ek
   subst ek
   split at hp
   ·rename_i d hd
    cases hp
    obtain⟨a,us',t,xs,b,vs,v,w1,w2,w3,w4,w5,rfl⟩:=hw
    have ea:pD=a:=by
     have:kW σ k=Option.some (.ref a):=w1
     rw[k2] at this
     injection this with this
     injection this
    subst ea
    obtain⟨tb0,x,rfl,p1,⟨ys,ws,p2,p3,p4,p5⟩⟩:=xK h3 hd
    have et:x.1=t:=by
     have:=g.h _ _ (ŗ w2).1
     rw[h2,List.map_append] at this
     injection this with this
     injection this with this
     have:=(List.append_inj' this rfl).2
     injection this with this
     injection this
    subst et
    have eb:=xH p2 w3
    have hx2:x.2∈pT::pD::(tb0 ++ [x]).map (·.2):=by simp
    obtain⟨f1,f2,f3⟩:=h5 x.2 hx2
    subst eb
    have ev:ws=vs:=by
     have:=g.h _ _ (ŗ w4).1
     rw[p4] at this
     cases this
     rfl
    subst ev
    have n1:=mZ h4 (show x.2∈pD::(tb0 ++ [x]).map (·.2) by simp)
    have n2:=mZ (List.nodup_cons.mp h4).2 (show x.2∈(tb0 ++ [x]).map (·.2) by simp)
    refine⟨ŋ.mG f1 f2 f3,tb0 ++ [x],k1,k2,⟨us,?_,h1'⟩,?_,?_,h4,h5⟩
    ·rw[ĉ (Ne.symm n1)];exact h1
    ·rw[ĉ (Ne.symm n2)];exact h2
    ·refine pB (zQ (λy hy z=>?_) p1) (.cons ⟨ys,ws ++ [v],p2,p3,Ď,Ĉ.append p5 (Ĉ.cons w5 Ĉ.nil)⟩ .nil)
     have h6:=(List.nodup_cons.mp (List.nodup_cons.mp h4).2).2
     rw[List.map_append,List.nodup_append] at h6
     exact h6.2.2 y.2 (List.mem_map.mpr ⟨y,hy,rfl⟩) x.2 (by simp) z
   ·cases hp
  ·cases hp
theorem Ex.rD{ρ':ħ}{F3 H3:Hp}(h:Ex K c F H σ ρ iT iD T D pT pD tb)(r:Rel K (c.rD (pT::pD::tb.map (·.2)) H) F3 H3 σ ρ')(s:Same F F3)(f0:Same c.F₀ F):Ex K c F3 H3 σ ρ' iT iD T D pT pD tb:=by
 have hs:=fun{a}=>h.some (a:=a)
 obtain⟨k1,k2,⟨us,h1,h1'⟩,h2,h3,h4,h5⟩:=h
 have up:∀a u,a∈pT::pD::tb.map (·.2)->H a=Option.some u->H3 a=Option.some u:=λa u ha e=>r.base a u (by
  show(if a∈pT::pD::tb.map (·.2) then H a else c.B a)=Option.some u
  rw[if_pos ha];exact e)
 have bn:∀a,a∈pT::pD::tb.map (·.2)->(c.rD (pT::pD::tb.map (·.2)) H).B a≠none:=λa ha=>by
  show(if a∈pT::pD::tb.map (·.2) then H a else c.B a)≠none
  rw[if_pos ha];exact hs ha
 have go:∀{tb':List (Addr×Addr)} {D':DL},(∀x∈tb',x.2∈pT::pD::tb.map (·.2))->Paired (jP K F H) tb' D'->Paired (jP K F3 H3) tb' D':=by
  intro tb' D' hn hq
  induction hq with
  |nil=>exact .nil
  |@cons x d l m q t ih=>
   obtain⟨xs,vs,q1,q2,q3,q4⟩:=q
   exact .cons ⟨xs,vs,s _ _ q1,q2.same s d.1 xs,up _ _ (hn x (by simp)) q3,q4.same s d.2 vs⟩ (ih λy hy=>hn y (List.mem_cons_of_mem _ hy))
 refine⟨k1,k2,⟨us,up _ _ (by simp) h1,h1'.same s T us⟩,up _ _ (by simp) h2,go (λx hx=>List.mem_cons_of_mem _ (List.mem_cons_of_mem _ (List.mem_map.mpr ⟨x,hx,rfl⟩))) h3,h4,λa ha=>⟨?_,(h5 a ha).2.1,λi q=>?_⟩⟩
 ·refine r.bM a (bn a ha) ?_
  cases q:c.F₀ a with
  |none=>exact q
  |some u=>have:=f0 _ _ q;rw[(h5 a ha).1] at this;cases this
 ·exact bn a ha (r.owned q).2.2
def vg{i:Nat}{s:Slot}(h:ρ.all plainS=true)(hs:plainS s=true):(ρ.set i s).all plainS=true:=by
 rw[List.all_eq_true] at h ⊢
 intro x hx
 rcases List.mem_or_eq_of_mem_set hx with q|q
 ·exact h x q
 ·rw[q];exact hs
def Ex.sets{i:Nat}{v:V}{s:Slot}(h:Ex K c F H σ ρ iT iD T D pT pD tb)(hs:s.own=false)(n1:iT≠i)(n2:iD≠i):Ex K c F H (σ.set i (Option.some v)) (ρ.set i s) iT iD T D pT pD tb:=by
 obtain⟨k1,k2,h1,h2,h3,h4,h5⟩:=h
 exact⟨by rw[oK n1];exact k1,by rw[oK n2];exact k2,h1,h2,h3,h4,λa ha=>⟨(h5 a ha).1,(h5 a ha).2.1,cA hs (h5 a ha).2.2⟩⟩
def B_{i:Nat}{v:V}(h:i < σ.length):kW (σ.set i (Option.some v)) i=Option.some v:=by unfold kW;rw[List.getElem?_set_self h];rfl
def Ex.start(rel:Rel K c F H σ ρ)(lT:iT < ρ.length)(lD:iD < ρ.length)(n:iT≠iD)(h1:H pT=none)(h2:upd H pT (.lst []) pD=none) :
 Rel K c F (upd (upd H pT (.lst [])) pD (.lst [])) ((σ.set iT (Option.some (.ref pT))).set iD (Option.some (.ref pD))) ((ρ.set iT .no).set iD .no)/\Ex K c F (upd (upd H pT (.lst [])) pD (.lst [])) ((σ.set iT (Option.some (.ref pT))).set iD (Option.some (.ref pD))) ((ρ.set iT .no).set iD .no) iT iD [] [] pT pD []:=by
 have hl:=rel.len
 have r1:=(rel.made (o:=.lst []) h1).put (i:=iT) (x:=Option.some (.ref pT)) (s:=.no) rfl trivial
 have r2:=(r1.made (o:=.lst []) h2).put (i:=iD) (x:=Option.some (.ref pD)) (s:=.no) rfl trivial
 have ne:pD≠pT:=λz=>by rw[z,Ď] at h2;cases h2
 have h3:H pD=none:=by rw[ĉ ne] at h2;exact h2
 refine⟨r2,?_,?_,⟨[],?_,Ĉ.nil⟩,Ď,.nil,?_,λa ha=>?_⟩
 ·rw[oK n];exact B_ (by omega)
 ·exact B_ (by simp;omega)
 ·rw[ĉ (Ne.symm ne)];exact Ď
 ·simp;exact Ne.symm ne
 ·have:a=pT\/a=pD:=by simpa using ha
  rcases this with rfl|rfl
  ·exact⟨rel.sub.free h1,rel.base.free h1,cA rfl (cA rfl (rel.fresh h1))⟩
  ·exact⟨rel.sub.free h3,rel.base.free h3,cA rfl (cA rfl (rel.fresh h3))⟩
end
section
variable{X:Cx}{cm:String->Addr}{E:L2.St->XK}{pos:Pos}
def ZdK{i j iT iD m:Nat}{s1 s2:Stmt}{tg iter:Expr}{body tail:List Stmt}{mi:M (List PV)}{mf:MW}{ns:List Nat}{mt:M Fl}(h1:PS X s1 (yP (SQ uy) (cQ iT)))(h2:PS X s2 (yP (SQ uy) (cQ iD)))
 (hp:PassesOwn (model X.prog X.w) X.A X.env X.xe)(hc:X.calm=true)(hi:PI X tg iter (tI (kk X cm) E mi))(hg:PG X tg (RW X.K 2 (rP (cQ i) (rP (cQ j) RT))))(hb:aB X body (mL λσ H Q=>tNm ns σ H λvs H1=>Vu (kk X cm) m mf vs H1 Q (E σ)))
 (ht:aB X tail (tS (kk X cm) E mt))(hE:∀σ σ',E σ=E σ')(hlen:∀{as:List Slot},mf as≠ .bad->as.length=m:=by exact tQ)(n1:iT≠iD:=by decide)(n2:iT≠i:=by decide)(n3:iD≠i:=by decide)(n4:iT≠j:=by decide)(n5:iD≠j:=by decide)
 (hs:∀x,foldedSetIterable iter X.env x=pure x:=by intro _;rfl):aB X (s1::s2:: .For tg iter body [] pos::tail) (tS (kk X cm) E (mRY i j iT iD mi (Ŝ mf ns) mt)):=
 aB.wk (ũ h1 (ũ h2 (ũ (yS hp hc hi hg hb hs) ht))) λD σ H ⟨c,F,ρ,rel,h⟩=>by
  unfold mRY at h
  split at h
  ·rename_i hcond
   obtain⟨hpl,lT,lD⟩:=hcond
   refine⟨Nat.zero_le _,λpT hT=>⟨Nat.zero_le _,λpD hD=>?_⟩⟩
   obtain⟨ĥ,ex2⟩:=Ex.start rel lT lD n1 hT hD
   have ZdL:((ρ.set iT .no).set iD .no).all plainS=true:=vg (vg hpl rfl) rfl
   generalize (ρ.set iT .no).set iD .no=ρ2 at *
   have pr:∀{F3 H3:Hp} {σ3:L2.St} {ρ3:ħ} {T:List PV} {D':DL} {tb:List (Addr×Addr)},Rel (kk X cm) c F3 H3 σ3 ρ3->ρ3.all plainS=true->Ex (kk X cm) c F3 H3 σ3 ρ3 iT iD T D' pT pD tb->Rel (kk X cm) (c.rD (pT::pD::tb.map (·.2)) H3) F3 H3 σ3 ρ3:=λr hp e=>r.rD (λa ha=>⟨e.some ha,e.2.2.2.2.2.2 a ha⟩) hp
   refine⟨_,F,ρ2,pr ĥ ZdL ex2,?_⟩
   cases em:mi ρ2 with
   |bad=>rw[em] at h;exact h.elim
   |exc x ρ'=>rw[em] at h;exact h.elim
   |ok items ρ1=>
    rw[em] at h
    dsimp only at h
    split at h
    ·rename_i ZaG
     intro J F1 H1 ć sF1 _ ito
     have ex1:=ex2.rD ć sF1 ĥ.f0
     have ZdM:Rel (kk X cm) c F1 H1 _ ρ1:=ć.Hz (λa ha=>⟨ex2.some ha,(ex2.2.2.2.2.2.2 a ha).2.1⟩) ĥ.lb ZaG
     refine⟨λk m' σ' H'=>∃F2 ρ' T D' tb,k<=items.length/\m'=items.length-k/\Rel (kk X cm) c F2 H' σ' ρ'/\Same F1 F2/\ρ'.all plainS=true/\Ex (kk X cm) c F2 H' σ' ρ' iT iD T D' pT pD tb/\
      ş (kk X cm) E c F2 D ((fu i j iT iD (Ŝ mf ns) (items.drop k) ρ' T D').bind λtd ρ2=>(match mt (ů iT iD td.1 td.2 ρ2) with
       | .ok (.rt (.sh p)) _=>.ok (.rt (.sh p)) ρ2
       | .exc x _=>.exc x ρ2
       |_=>.bad)),⟨_,F1,ρ1,[],[],[],Nat.zero_le _,rfl,ZdM,Same.refl _,ZaG,ex1,ş.mono h sF1⟩,?_⟩
     rintro k m' σ3 H3 ⟨F3,ρ3,T,D',tb,hle,rfl,bN,sF3,Lj,ex3,h3⟩
     have rp3:=pr bN Lj ex3
     obtain⟨go,stop⟩:=ito _ k F3 H3 σ3 ρ3 rp3 sF3 λb u e=>(bN.lent b u e).1
     by_cases hlt:k<items.length
     ·obtain⟨g1,g2⟩:=go items[k] (List.getElem?_eq_getElem hlt)
      rw[List.drop_eq_getElem_cons hlt] at h3
      unfold fu at h3
      refine .inr ⟨g1,_,λσ' H' z=>z,λx H4 hy=>?_⟩
      obtain⟨F4,q_,sF4,_,rp⟩:=g2 x H4 hy
      have ex4:=ex3.rD q_ sF4 bN.f0
      have Nk:Rel (kk X cm) c F4 H4 σ3 ρ3:=q_.Hz (λa ha=>⟨ex3.some ha,(ex3.2.2.2.2.2.2 a ha).2.1⟩) bN.lb Lj
      cases ep:items[k] with
      |tup qs=>
       rw[ep] at h3 rp
       unfold Rep at rp
       obtain⟨t,xs,rfl,ht,rx⟩:=rp
       match qs,rx,h3 with
       | [q1,q2],rx,h3=>
         unfold Ĉ at rx
         obtain⟨v1,r',rfl,r1,rx⟩:=rx
         unfold Ĉ at rx
         obtain⟨v2,r'',rfl,r2,rx⟩:=rx
         unfold Ĉ at rx
         subst rx
         refine⟨t,[v1,v2],rfl,Same.tup Nk.sub ht,rfl,v1,[v2],rfl,v2,[],rfl,rfl,?_⟩
         have rz:Rel (kk X cm) c F4 H4 ((σ3.set i (some v1)).set j (some v2)) ((ρ3.set i (.sh q1)).set j (.sh q2)):=(Nk.put (s:=.sh q1) rfl ⟨v1,rfl,r1⟩).put (s:=.sh q2) rfl ⟨v2,rfl,r2⟩
         have ex5:=(ex4.sets (i:=i) (v:=v1) (s:=.sh q1) rfl n2 n3).sets (i:=j) (v:=v2) (s:=.sh q2) rfl n4 n5
         have ZaH:((ρ3.set i (.sh q1)).set j (.sh q2)).all plainS=true:=vg (vg Lj rfl) rfl
         generalize (σ3.set i (some v1)).set j (some v2)=σ5 at *
         dsimp only at h3
         generalize (ρ3.set i (.sh q1)).set j (.sh q2)=ρ5 at *
         have ZdN:=rz.lend ZaH ex5 n1
         unfold Ŝ at h3
         cases el:fU (ů iT iD T D' ρ5) ns with
         |none=>rw[el] at h3;exact h3.elim
         |some as=>
          rw[el] at h3
          dsimp only at h3
          obtain⟨vs,v1',v2'⟩:=pZ ZdN el
          refine⟨vs,v1',F4,as,hlen λz=>?_,rz.sub,v2',?_⟩
          ·rw[z] at h3;exact h3
          ·cases emf:mf as with
           |bad=>rw[emf] at h3;exact h3.elim
           |exc x=>rw[emf] at h3;exact λC d F' H' g rx=>h3 σ5 C d F' H' (rz.call g) (sF4.trans g.f) rx
           |ok w=>
            rw[emf] at h3
            dsimp only at h3
            cases ej:ns[w.ix]? with
            |none=>rw[ej] at h3;exact h3.elim
            |some i'=>
             rw[ej] at h3
             dsimp only at h3
             by_cases hok:nU w (ů iT iD T D' ρ5)[i']?=true
             ·rw[if_pos hok] at h3
              dsimp only at h3
              cases epw:xJ iT iD (w.to i') T D' with
              |none=>rw[epw] at h3;exact h3.elim
              |some td=>
               rw[epw] at h3
               intro F' H' H6 g hw
               have ev:vs[w.ix]?=kW σ5 i':=by
                have:=congrArg (λl=>l[w.ix]?) v1'
                simp only[List.getElem?_map,ej,Option.map_some] at this
                cases ev:vs[w.ix]? with
                |none=>rw[ev] at this;cases this
                |some v=>rw[ev] at this;injection this with this;exact this.symm
               rw[ev] at hw
               obtain⟨zK,tb',ex6⟩:=ex5.put (w:=w.to i') (T':=td.1) (D':=td.2) rz g (by rw[Nj];exact hw.to) epw
               exact⟨items.length-(k+1),by omega,F',ρ5,td.1,td.2,tb',hlt,rfl,zK,(sF3.trans sF4).trans g.f,ZaH,ex6,ş.mono h3 (sF4.trans g.f)⟩
             ·rw[if_neg hok] at h3;exact h3.elim
       | [],_,h3=>exact h3.elim
       | [_],_,h3=>exact h3.elim
       |_::_::_::_,_,h3=>exact h3.elim
      |_=>rw[ep] at h3;exact h3.elim
     ·have e:k=items.length:=by omega
      refine .inl ⟨stop e,?_⟩
      rw[List.drop_eq_nil_of_le (by omega)] at h3
      refine⟨_,F3,_,bN.lend Lj ex3 n1,?_⟩
      have h3':ş (kk X cm) E c F3 D (match mt (ů iT iD T D' ρ3) with
       | .ok (.rt (.sh p)) _=>.ok (.rt (.sh p)) ρ3
       | .exc x _=>.exc x ρ3
       |_=>.bad):=h3
      cases emt:mt (ů iT iD T D' ρ3) with
      |bad=>rw[emt] at h3';exact h3'.elim
      |exc x ρ6=>
       rw[emt] at h3'
       exact λσ' C d F' H' ŋ s' q=>by rw[hE σ' σ3];exact h3' σ3 C d F' H' (bN.call ŋ.gr) s' q
      |ok fl ρ6=>
       rw[emt] at h3'
       cases fl with
       |rt r=>
        cases r with
        |sh p=>exact λv σ' F' H' ŋ s' q=>h3' v σ3 F' H' (bN.call ŋ.gr) s' q
        |_=>exact h3'.elim
       |_=>exact h3'.elim
    ·exact h.elim
  ·exact h.elim
end
end P
namespace PySem
open AutoSeq1 (wpAny_loadPart')
namespace EnS
def ZaI(a:Value)(t:Tok):checkTypeCall "enumerate" ⟨[a],[(Str.ofString "start",.int 1 t)]⟩=pure ():=by kernel_rfl
def ZaJ(a:Value)(t:Tok):checkBuiltinCall "enumerate.__new__" ⟨[.type "enumerate",a],[(Str.ofString "start",.int 1 t)]⟩=pure ():=by kernel_rfl
def new1(l:Addr)(items:Array Value)(n:Nat)(t:Tok)(dct:Option Addr)(sl:Array (Option Value)) :
 Meets (Builtin.«enumerate.__new__» ⟨[.type "enumerate",.ref l],[(Str.ofString "start",.int 1 t)]⟩) (λ_ R s=>s.heap.get? l=some {cls:=.type "list",dict:=dct,data:=.seq items n,slots:=sl}/\
  R (.ok (.ret (.ref (s.heap.push {cls:=.type "list_iterator",data:=.fields #[.ref l,.int 0 0]}).objs.size)))
    {s with heap:=(s.heap.push {cls:=.type "list_iterator",data:=.fields #[.ref l,.int 0 0]}).push {cls:=.type "enumerate",data:=.fields #[.none,.bool false,.ref s.heap.objs.size,rawInt 1,.none,.none]}}):=
 .of_wp fun prog w A R s h=>by
   obtain⟨hp,g,d,tk,os⟩:=s;obtain⟨hl,h⟩:=h
   have hsub:=sub_enumerate
   have hL:Heap.IsList (Shared.heap ⟨hp,g,d,tk,os⟩) l items:=⟨_,hl,rfl,n,rfl⟩
   wp_walk using wpAny_loadPart' hl
   refine wpAny_stack_any λst=>wpAny_pure ?_
   split
   ·rename_i c _ _ _ _ _
    cases(c== Value.type "enumerate")
    ·wp_walk using wpAny_loadPart' hl,wpAny_pyIter_list hL
     exact⟨_,rfl,h⟩
    ·wp_walk using wpAny_loadPart' hl,wpAny_pyIter_list hL
     exact⟨_,rfl,h⟩
   ·wp_walk using wpAny_loadPart' hl,wpAny_pyIter_list hL
    exact⟨_,rfl,h⟩
section
variable{prog:Program}{w:World}{A:Around}{E:Value->Shared->Prop}{s:Shared}
def ZaK{self a:Value}{t:Tok}:Meets (Builtin.«object.__init__» ⟨[self,a],[(Str.ofString "start",.int 1 t)]⟩) (λ_ R s=>s.TypeIs self "enumerate" /\R (.ok (.ret .none)) s):=by
 have hl:=F.called_enumerate.init.lookup
 have hm:=F.called_enumerate.made
 refine Meets.of_wp λprog w A R s hs=>?_
 obtain⟨hT,hq⟩:=hs
 repeat (any_goals (first|assumption|wp_step))
 exact⟨_,rfl,hq⟩
def ZaL(a b:Value)(t:Tok):argsOk "object.__init__" ⟨[a,b],[(Str.ofString "start",.int 1 t)]⟩:=by
 unfold argsOk;kernel_rfl
def ZaM{l:Addr}{items:Array Value}{t:Tok}{Q:Value->Shared->Prop}(hL:s.heap.IsList l items)
 (h:∀h',IsEnum h' (s.heap.objs.size+1) s.heap.objs.size 1 .none->h'.IsListIter s.heap.objs.size l 0->h'.objs.size=s.heap.objs.size+2->(∀b o,s.heap.get? b=some o->h'.get? b=some o)->Q (.ref (s.heap.objs.size+1)) {s with heap:=h'}) :
 wpAny (model prog w) A (call (.type "enumerate") [.ref l] [(Str.ofString "start",.int 1 t)]) Q E s:=by
 obtain⟨⟨c,dct,dt,sl⟩,hl,hc,n,hd⟩:=hL
 replace hc:c=.type "list" := hc
 replace hd:dt=.seq items n:=hd
 subst hc hd
 have ft:=F.called_enumerate
 obtain⟨c,tl,hmro⟩:=ft.mro
 have hmade:=ft.made
 have hsub:=ft.sub
 have hct:=ZaI (.ref l) t
 refine wpAny_call (codeAny_of_tree ?_)
 show wpAny _ _ (callAny (.type "enumerate") _) _ _ _
 refine wpAny_pure ⟨Code.quiet_builtin _ (by decide +kernel),codeAny_builtin F.entry_type_call ?_⟩
 rw[Around.under_plain (weight_type_call_type "enumerate" [.ref l] [(Str.ofString "start",.int 1 t)]) (units_type_call_type "enumerate" [.ref l] [(Str.ofString "start",.int 1 t)])]
 have h1:=ft.notType
 have h2:=ft.canCreate
 repeat (any_goals (first|assumption|wp_step))
 refine codeAny_mono (codeAny_call_builtin ft.plain F.entry_enumerate_new (wpAny_of_eq (ZaJ (.ref l) t) (new1 l items n t dct sl prog w A.in1 (wants (λobj s₁=>s₁.TypeIs obj "enumerate" /\Q obj s₁) E) s ⟨hl,?_⟩))) λr s₁ hr=>?_
 ·have hz:(s.heap.push {cls:=.type "list_iterator",data:=.fields #[.ref l,.int 0 0]}).objs.size=s.heap.objs.size+1:=Heap.size_push ..
  show _/\_
  rw[hz]
  have he:IsEnum ((s.heap.push {cls:=.type "list_iterator",data:=.fields #[.ref l,.int 0 0]}).push {cls:=.type "enumerate",data:=.fields #[.none,.bool false,.ref s.heap.objs.size,rawInt 1,.none,.none]}) (s.heap.objs.size+1) s.heap.objs.size 1 .none:=by
   have:=Heap.get?_push_size (s.heap.push {cls:=.type "list_iterator",data:=.fields #[.ref l,.int 0 0]}) (o:={cls:=.type "enumerate",data:=.fields #[.none,.bool false,.ref s.heap.objs.size,rawInt 1,.none,.none]}) rfl
   rw[hz] at this;exact this
  exact⟨⟨_,he,rfl⟩,h _ he ⟨_,Heap.get?_push_of_some _ (Heap.get?_push_size _ rfl),rfl,rfl⟩ (by rw[Heap.size_push,hz]) λb o x=>Heap.get?_push_of_some _ (Heap.get?_push_of_some _ x)⟩
 ·cases r with
  |error e=>exact hr
  |ok fl=>
   cases fl with
   |ret obj=>
    obtain⟨hT,hq⟩:=hr
    have hli:=ft.init.lookup
    have hbi:=ft.init.bind obj
    repeat (any_goals (first|assumption|wp_step))
    refine codeAny_mono (codeAny_call_builtin ft.init.plain F.entry_object_init (ft.init.check _ _ _ _ _ _ _ _ hT (ZaL _ _ t) (ZaK prog w A.in1 (wants (λr s₂=>r=.none/\Q obj s₂) E) s₁ ⟨hT,rfl,hq⟩))) λr₂ s₂ hr₂=>?_
    cases r₂ with
    |error e=>exact hr₂
    |ok fl₂=>
     cases fl₂ with
     |ret r=>
      obtain⟨rfl,hq⟩:=hr₂
      repeat (any_goals (first|assumption|wp_step))
     |_=>exact hr₂.elim
   |_=>exact hr.elim
def next_item{e it l:Addr}{i:Nat}{k:Int}{items:Array Value}{x old:Value}{Q:Value->Shared->Prop}(he:IsEnum s.heap e it k old)(hit:s.heap.IsListIter it l i)(hl:s.heap.IsList l items)(hx:items[i]?=some x)(hne:e≠it)
 (hQ:∀h',IsEnumOut h' e it (k+1) x s.heap.objs.size->h'.IsListIter it l (i+1)->h'.get? s.heap.objs.size=some {cls:=.type "tuple",data:=.seq #[.int k s.toks,x]}->h'.objs.size=s.heap.objs.size+1->(∀b o,b≠e->b≠it->s.heap.get? b=some o->h'.get? b=some o)->Q (.ref s.heap.objs.size) {s with heap:=h',toks:=s.toks+1}) :
 wpAny (model prog w) A (Builtin.«enumerate.__next__» ⟨[.ref e],[]⟩) (λfin s'=>∃v,fin=.done (.ret v)/\Q v s') E s:=by
 obtain⟨hp,g,d,tk,os⟩:=s
 show wpAny _ _ (field (.ref e) 2 >>= _) _ _ _
 refine wpAny_bind (wpAny_field he rfl (x:=.ref it) rfl ?_)
 refine wpAny_bind (wpAny_nextOf_list_item hit hl hx λha hit1 sa=>?_)
 replace sa:Heap.SameBut it hp ha:=sa
 have ea:IsEnum ha e it k old:=(sa.2 e hne).trans he
 show wpAny _ _ (field (.ref e) 3 >>= _) _ _ ⟨ha,g,d,tk,os⟩
 refine wpAny_bind (wpAny_field ea rfl (x:=rawInt k) rfl ?_)
 show wpAny _ _ (field (.ref e) 4 >>= _) _ _ ⟨ha,g,d,tk,os⟩
 refine wpAny_bind (wpAny_field ea rfl (x:=.none) rfl ?_)
 show wpAny _ _ (mkInt k >>= _) _ _ ⟨ha,g,d,tk,os⟩
 refine wpAny_bind (wpAny_mkInt ?_)
 show wpAny _ _ (setField (.ref e) 3 (rawInt (k+1)) >>= _) _ _ ⟨ha,g,d,tk+1,os⟩
 refine wpAny_bind (wpAny_setField_rec ea (by simp) λhb eb sb=>?_)
 replace sb:Heap.SameBut e ha hb:=sb
 replace eb:IsEnum hb e it (k+1) old:=eb
 show wpAny _ _ (setField (.ref e) 4 .none >>= _) _ _ ⟨hb,g,d,tk+1,os⟩
 refine wpAny_bind (wpAny_setField_rec eb (by simp) λhc ec sc=>?_)
 replace sc:Heap.SameBut e hb hc:=sc
 replace ec:IsEnum hc e it (k+1) old:=ec
 show wpAny _ _ (newTuple [.int k tk,x] >>= _) _ _ ⟨hc,g,d,tk+1,os⟩
 refine wpAny_bind (wpAny_newTuple ?_)
 have ed:IsEnum (hc.push {cls:=.type "tuple",data:=.seq #[.int k tk,x]}) e it (k+1) old:=Heap.get?_push_of_some _ ec
 generalize hhd:hc.push {cls:=.type "tuple",data:=.seq #[.int k tk,x]}=hd at ed
 have hsz:hc.objs.size=hp.objs.size:=by rw[sc.1,sb.1,sa.1]
 have hel:e<hp.objs.size:=Heap.lt_size he
 have td:hd.get? hp.objs.size=some {cls:=.type "tuple",data:=.seq #[.int k tk,x]}:=by rw[<-hhd,<-hsz];exact Heap.get?_push_size _ rfl
 have zd:hd.objs.size=hp.objs.size+1:=by rw[<-hhd,Heap.size_push,hsz]
 have kd:∀b o,b≠e->b≠it->hp.get? b=some o->hd.get? b=some o:=λb o hbe hbi q=>by
  rw[<-hhd];exact Heap.get?_push_of_some _ (sc.extBut b o hbe (sb.extBut b o hbe (sa.extBut b o hbi q)))
 have itd:hd.IsListIter it l (i+1):=by
  rw[<-hhd];obtain⟨o,ho,r⟩:=(hit1.extBut sb.extBut (Ne.symm hne)).extBut sc.extBut (Ne.symm hne);exact⟨o,Heap.get?_push_of_some _ ho,r⟩
 show wpAny _ _ (Builtin.SmallTypes.ownedTupleIsFree (.ref e) >>= _) _ _ ⟨hd,g,d,tk+1,os⟩
 rw[hsz]
 clear hhd ec sc eb sb ea sa hit1 hsz hc hb ha
 refine wpAny_bind ?_
 ·unfold Builtin.SmallTypes.ownedTupleIsFree
  refine wpAny_bind (wpAny_field ed rfl (x:=.none) rfl (wpAny_pure ?_))
  simp only[if_true]
  refine wpAny_bind (wpAny_rule ?_)
  refine wpAny_bind (wpAny_field ed rfl (x:=old) rfl ?_)
  refine wpAny_bind (wpAny_setField_rec ed (by simp) λh5 e5 s5=>?_)
  replace s5:Heap.SameBut e hd h5:=s5
  replace e5:IsEnum h5 e it (k+1) x:=e5
  show wpAny _ _ (Builtin.SmallTypes.ownedTupleHandOut (.ref e) (.ref hp.objs.size) >>= _) _ _ ⟨h5,g,d,tk+1,os⟩
  refine wpAny_bind ?_
  ·unfold Builtin.SmallTypes.ownedTupleHandOut
   refine wpAny_bind (wpAny_setField_rec e5 (by simp) λh6 e6 s6=>?_)
   replace s6:Heap.SameBut e h5 h6:=s6
   replace e6:IsEnumOut h6 e it (k+1) x hp.objs.size:=e6
   refine wpAny_setField_rec e6 (by simp) λh7 e7 s7=>?_
   replace s7:Heap.SameBut e h6 h7:=s7
   replace e7:IsEnumOut h7 e it (k+1) x hp.objs.size:=e7
   refine wpAny_bind (wpAny_letGo (wpAny_pure ⟨_,rfl,hQ h7 e7 ?_ ?_ ?_ ?_⟩))
   ·exact((itd.extBut s5.extBut (Ne.symm hne)).extBut s6.extBut (Ne.symm hne)).extBut s7.extBut (Ne.symm hne)
   ·exact s7.extBut _ _ (Nat.ne_of_gt hel) (s6.extBut _ _ (Nat.ne_of_gt hel) (s5.extBut _ _ (Nat.ne_of_gt hel) td))
   ·rw[s7.1,s6.1,s5.1,zd]
   ·exact λb o hbe hbi q=>s7.extBut b o hbe (s6.extBut b o hbe (s5.extBut b o hbe (kd b o hbe hbi q)))
def Vy{e it l:Addr}{i:Nat}{k:Int}{items:Array Value}{x old:Value}{Q:Option Value->Shared->Prop}(he:IsEnum s.heap e it k old)(hit:s.heap.IsListIter it l i)(hl:s.heap.IsList l items)(hx:items[i]?=some x)(hne:e≠it)
 (hQ:∀h',IsEnumOut h' e it (k+1) x s.heap.objs.size->h'.IsListIter it l (i+1)->h'.get? s.heap.objs.size=some {cls:=.type "tuple",data:=.seq #[.int k s.toks,x]}->h'.objs.size=s.heap.objs.size+1->(∀b o,b≠e->b≠it->s.heap.get? b=some o->h'.get? b=some o)->Q (some (.ref s.heap.objs.size)) {s with heap:=h',toks:=s.toks+1}) :
 wpAny (model prog w) A (pyNext (.ref e)) Q E s:=by
 have hT:s.TypeIs (.ref e) "enumerate" := ⟨_,he,rfl⟩
 unfold pyNext
 exact wpAny_bind (wpAny_attempt (wpAny_callSpecial?_slot (name:=Str.ofString "__next__") hT F.slot_enumerate_next (wpAny_call_entry F.slot_enumerate_next hT F.entry_enumerate_next (next_item he hit hl hx hne λh' a b c d k=>wpAny_pure (hQ h' a b c d k)) (F.args_enumerate_next_1 _))))
def zR{e it l:Addr}{i:Nat}{k:Int}{items:Array Value}{old:Value}{Q:Option Value->Shared->Prop}(hh:A.handled=none)(he:IsEnum s.heap e it k old)(hit:s.heap.IsListIter it l i)(hl:s.heap.IsList l items)(hx:items[i]?=none)
 (hQ:∀h',Heap.ExtBut it s.heap h'->Q none {s with heap:=h'}):wpAny (model prog w) A (pyNext (.ref e)) Q E s:=by
 have hT:s.TypeIs (.ref e) "enumerate" := ⟨_,he,rfl⟩
 unfold pyNext
 refine wpAny_bind (wpAny_attempt (wpAny_callSpecial?_slot (name:=Str.ofString "__next__") hT F.slot_enumerate_next (wpAny_call_entry F.slot_enumerate_next hT F.entry_enumerate_next ?_ (F.args_enumerate_next_1 _))))
 show wpAny _ _ (field (.ref e) 2 >>= _) _ _ _
 refine wpAny_bind (wpAny_field he rfl (x:=.ref it) rfl ?_)
 refine wpAny_bind (wpAny_nextOf_list_end hh hit hl hx λh' x he' hx'=>?_)
 obtain⟨o,ho,hc⟩:=hx'
 refine wpAny_bind (wpAny_isInstance (T:= "StopIteration") (b:=true) ⟨o,ho,hc⟩ isSubtype_stop ?_)
 exact wpAny_pure (hQ _ he')
end
end EnS
end PySem
namespace P
open PySem PySem.Spec PyProof.Rows L2 M2 M3 M4
def Vz(K:PySem.W.Frag)(a:Addr):It:=
 ⟨λi H=>∃xs x,ŝ K H a xs/\xs[i]?=some x,λi H y H'=>∃x T,(∀xs,ŝ K H a xs->xs[i]?=some x)/\H T=none/\y=.ref T/\H'=upd H T (.tup [.int (((i+1:Nat):Int)),x]),λi H=>∃xs,ŝ K H a xs/\xs.length<=i⟩
def zT{P:Program}{w:World}{K:PySem.W.Frag}{elts:List Expr}{k:Nat}{pos:Pos}(a e it:Addr)(hne:e≠it):Turn P w K (.Tuple elts k pos) (Vz K a) [e,it] e (λi h=>(∃old,IsEnum h e it (((i+1:Nat):Int)) old)/\h.IsListIter it a i) where
 mem:=by simp
 obj:=λi h st b hb=>by
  obtain⟨⟨old,he⟩,hit⟩:=st
  rcases List.mem_cons.mp hb with rfl|hb
  ·exact⟨_,he,fun v z=>by
    have z':Data.fields _=Data.cell v:=z
    cases z'⟩
  ·have e':b=it:=by simpa using hb
   subst e'
   obtain⟨o,e1,c,d⟩:=hit
   exact⟨o,e1,λv z=>by rw[d] at z;cases z⟩
 keep:=λi h h' st k=>⟨let ⟨old,he⟩:=st.1;⟨old,k e (by simp) _ he⟩,st.2.at λo q=>k it (by simp) o q⟩
 item:=by
  intro X hP hw hK hc i pins s σ H E I hf st hg
  subst hP hw hK
  obtain⟨⟨old,he⟩,hit⟩:=st
  obtain⟨xs,x,hq,hx⟩:=hg
  obtain⟨its,rv,p,hz⟩:=I.list hq
  obtain⟨u,hu,ru⟩:=rv.get hx
  have elt:e<s.heap.objs.size:=Heap.lt_size he
  have ilt:it<s.heap.objs.size:=by obtain⟨_,q,_⟩:=hit;exact Heap.lt_size q
  refine EnS.Vy he hit p.isList (x:=u) (by simpa using hu) hne λh' ho hit' hT hsz hk=>?_
  refine⟨.ref s.heap.objs.size,rfl,wpAny_letOwnedTupleGo_enum ho λh'' he' hs'=>?_⟩
  have hs2:Heap.SameBut e h' h'':=hs'
  have hlt:∀b∈[e,it],b<s.heap.objs.size:=λb hb=>by
   rcases List.mem_cons.mp hb with rfl|hb
   ·exact elt
   ·have e':b=it:=by simpa using hb
    subst e';exact ilt
  have I2:=zN (fp:=[e,it]) (h':=h'') (t':=s.toks+1) (x1:=.int (((i+1:Nat):Int))) I ⟨s.toks,rfl⟩ ru ⟨_,(hs2.2 _ (Nat.ne_of_gt elt)).trans hT,rfl⟩ (λb o hb q=>by
   have hbe:b≠e:=λz=>hb (by simp[z])
   have hbi:b≠it:=λz=>hb (by simp[z])
   exact(hs2.2 b hbe).trans (hk b o hbe hbi q)) hf hlt
  refine⟨.ref s.heap.objs.size,_,I2,rfl,⟨x,s.heap.objs.size,λys hy=>by rw[I.wD hy hq];exact hx,I.fresh,rfl,rfl⟩,⟨⟨u,?_⟩,hit'.at λo q=>(hs2.2 it hne.symm).trans q⟩,λb hb=>?_⟩
  ·have he2:IsEnum h'' e it ((((i+1:Nat):Int))+1) u:=he'
   show IsEnum h'' e it (((i+1+1:Nat):Int)) u
   rw[show(((i+1+1:Nat):Int))=((i+1:Nat):Int)+1 by omega]
   exact he2
  ·rw[ĉ (Nat.ne_of_lt (hlt b hb))];exact(hf b hb).1
 done:=by
  intro X hP hw hK hc i pins s σ H E I hf st hg
  subst hP hw hK
  obtain⟨⟨old,he⟩,hit⟩:=st
  obtain⟨xs,hq,hx⟩:=hg
  obtain⟨its,rv,p,hz⟩:=I.list hq
  have hl:=rv.length
  refine EnS.zR (I.ok.hd hc) he hit p.isList (by simp;omega) λh' eb=>⟨rfl,turns (fp:=[e,it]) (t':=s.toks) I (λb o hb q=>eb b o (λz=>hb (by simp[z])) q) hf⟩
 self:=λ_ _ _ _ _ st h=>let ⟨_,he⟩:=st.1;wpAny_pyIter_enum he h
section
variable{X:Cx}{elts:List Expr}{k:Nat}{tp:Pos}
def VB(K:PySem.W.Frag)(ta:TA):TI:=λσ H R=>ta σ H λvs H1=>∃a,vs=[.ref a]/\(∃xs,ŝ K H1 a xs)/\R (Vz K a) H1
def ZaN{M:Model}{A:Around}{E:Value->Shared->Prop}{s:Shared}{pos:Pos}{T:String}{args:List (Bool×Sem Value)}{keywords:List (Option Str×Sem Value)}{Q:Value->Shared->Prop}(hplain:args.any (·.1)=false)(hkw:keywords.any (·.1.isNone)=false)
 (h:wpAny M A (evalArgs (.type T) true args keywords) (λa s₁=>wpAny M A (call (.type T) a.pos a.kw) Q E s₁) E s):wpAny M A (callWith pos (.type T) [] args keywords) Q E s:=by
 unfold callWith
 refine wpAny_bind (wpAny_holding (wpAny_mono h (λa s₁ h₁=>wpAny_bind (wpAny_standAt ?_)) λ_ _ x=>x))
 simp only[hplain,hkw,Bool.or_false]
 refine wpAny_bind (wpAny_pure ?_)
 exact wpAny_bind (wpAny_mono h₁ (λr s₂ hr=>wpAny_bind (wpAny_holding (wpAny_point (wpAny_pure hr)))) λ_ _ x=>x)
def HB{l:Expr}{ta:TA}{p pos cp kp:Pos}{j:Nat}(hg:Gl X "enumerate")(hm:X.mg "enumerate" =none)(ha:PA X [l] ta)(hs:starEach [l] X.env=[(false,eval l X.env)]:=by exact Ŗ rfl) :
 PI X (.Tuple elts k tp) (.Call (.Name "enumerate" p) [l] [⟨some "start",.Constant (.int 1) j cp,kp⟩] pos) (VB X.K ta):=by
 intro pins s σ H R I h
 refine wpAny_Call_Name_kw (kZ I hg hm boot_enumerate (ZaN (by rw[hs];rfl) rfl ?_))
 have h':=ha pos pins s σ H _ I h
 rw[hs] at h' ⊢
 refine evalArgs_kwB rfl (ņ h' λus s1 ⟨vs,H1,I1,r1,q1⟩=>kws_cons (ņ (uq pins s1 σ H1 (λx H'=>x=.int 1/\H'=H1) I1 ⟨rfl,rfl⟩) λv s2 ⟨x,H2,I2,r2,e1,e2⟩=>kws_nil ?_))
 subst e1 e2
 obtain⟨t,rfl⟩:=r2
 obtain⟨a,e,⟨xs,hq⟩,q⟩:=q1
 subst e
 obtain⟨u,rfl,ru⟩:=r1.one
 cases ru
 obtain⟨its,rv,pl,hz⟩:=I2.list hq
 refine EnS.ZaM pl.isList λh' he hit hsz hk=>?_
 have I3:Inv X pins σ H2 {s2 with heap:=h'}:=I2.kept (t':=s2.toks) hk
 refine wpAny_pyIter_enum (s:={s2 with heap:=h'}) he ⟨s2.heap.objs.size+1,[s2.heap.objs.size+1,s2.heap.objs.size],_,_,H2,rfl,I3,zT a _ _ (Nat.succ_ne_self _),⟨⟨_,he⟩,hit⟩,λb hb=>?_,q⟩
 have hb':s2.heap.objs.size<=b:=by
  rcases List.mem_cons.mp hb with rfl|hb
  ·exact Nat.le_succ _
  ·have e':b=s2.heap.objs.size:=by simpa using hb
   exact Nat.le_of_eq e'.symm
 exact I2.EY hb' (I2.hok.fresh hb')
end
def vm(m:M (List PV)):M (List PV):=λρ=>(m ρ).bind λps ρ1=>.ok (bH 1 ps) ρ1
@[simp] theorem ZaO{mi:M (List PV)}{ρ:ħ}:vm mi ρ=(mi ρ).bind λps ρ1=>.ok (bH 1 ps) ρ1:=rfl
def zU{K:KK}{L F:Hp}{a:Addr}{ps:List PV}(h:zF K L F (XS K.K a) ps):zF K L F (Vz K.K a) (bH 1 ps):=by
 intro c i F2 H2 σ2 ρ2 rel sF sL
 obtain⟨go,st⟩:=h c i F2 H2 σ2 ρ2 rel sF sL
 refine⟨λp hp=>?_,λhi=>st (by rw[hi,tK])⟩
 rw[tM] at hp
 cases eq:ps[i]? with
 |none=>rw[eq] at hp;cases hp
 |some q=>
  rw[eq] at hp
  have hp':PV.tup [.int ((1+i:Nat):Int),q]=p:=Option.some.inj hp
  subst hp'
  obtain⟨⟨xs,x,hq,hx⟩,g2⟩:=go q eq
  refine⟨⟨xs,x,hq,hx⟩,λy H' ⟨x',T,h1,hT,ey,eH⟩=>?_⟩
  subst ey eH
  obtain⟨F3,bN,s3,_,rp⟩:=g2 x' H2 ⟨rfl,h1⟩
  obtain⟨r1,r2⟩:=Lb (p:=.int (((i+1:Nat):Int))) (x:=.int (((i+1:Nat):Int))) bN hT (by unfold Rep;rfl) rp
  refine⟨_,r1,s3.trans (Same.upd (bN.sub.free hT)),Same.upd hT,?_⟩
  rw[Nat.add_comm 1 i]
  exact r2
section
variable{X:Cx}{cm:String->Addr}{E:L2.St->XK}{e:Expr}
def Lk{elts:List Expr}{k j:Nat}{tp p pos cp kp:Pos}{mi:M (List PV)}(hg:Gl X "enumerate")(hm:X.mg "enumerate" =none)(hl:PE X e (tG (kk X cm) E (rLs (kk X cm)) mi))(hs:starEach [e] X.env=[(false,eval e X.env)]:=by exact Ŗ rfl) :
 PI X (.Tuple elts k tp) (.Call (.Name "enumerate" p) [e] [⟨some "start",.Constant (.int 1) j cp,kp⟩] pos) (tI (kk X cm) E (vm mi)):=λpins s σ H R I h=>HB hg hm (Ĳ hl Ś hs) hs pins s σ H R I (by
 obtain⟨c,F,ρ,rel,h⟩:=h
 refine⟨c,F,ρ,rel,h.bind λps ρ1 v F1 H1 ć s1 s2 q h1=>?_⟩
 obtain⟨a,e1,e2,e3⟩:=q
 subst e1
 exact⟨a,rfl,e2,h1 _ F1 H1 ć (Same.refl _) (Same.refl _) (zU e3)⟩)
end
end P
namespace Sp
open PySem PySem.Builtin PySem.Builtin.Str PySem.StrLaws
abbrev S(l:List Nat):PySem.Str:=⟨l.toArray⟩
def ĳ(c:Nat):List Nat->List (List Nat)
 | []=>[[]]
 |x::xs=>if x=c then[]::ĳ c xs else(match ĳ c xs with
  | []=>[[x]]
  |p::ps=>(x::p)::ps)
theorem tU(c:Nat):∀l,∃p ps,ĳ c l=p::ps
 | []=>⟨_,_,rfl⟩
 |x::xs=>by
  unfold ĳ
  split
  ·exact⟨_,_,rfl⟩
  ·split<;>exact⟨_,_,rfl⟩
def nW(c:Nat):Nat->List Nat->List Nat
 |_,[]=>[]
 |k,x::xs=>if x=c then k::nW c (k+1) xs else nW c (k+1) xs
theorem vo(x:PySem.Str)(c:Nat):∀(m a:Nat) (st:Array Nat×Nat),a+m=x.length+1->st.1.size<=a->st.2<=a->(forIn (List.range' a m) st (occBody x (S [c]) x.length (x.length+1))).run.fst.toList=st.1.toList++nW c a (x.cps.toList.drop a)
 |0,a,st,h,_,_=>by
  have:x.cps.toList.drop a=[]:=List.drop_eq_nil_of_le (by simp[Str.length] at h ⊢;omega)
  rw[this]
  simp[nW]
 |m+1,a,st,h,h1,h2=>by
  rw[List.range'_succ,List.forIn_cons]
  unfold occBody
  have hl:x.cps.toList.length=x.length:=by simp[Str.length]
  by_cases ha:a<x.length
  ·have hd:x.cps.toList.drop a=x.cps.toList[a]::x.cps.toList.drop (a+1):=List.drop_eq_getElem_cons (by omega)
   have hs:subAt x (S [c]) a=decide (x.cps.toList[a]=c):=by
    rw[subAt_eq,hd]
    show(List.take 1 _== [c])=_
    rw[List.take_succ_cons,List.take_zero,Bool.eq_iff_iff]
    simp
   by_cases hc:x.cps.toList[a]=c
   ·rw[if_pos ⟨⟨⟨by omega,h2⟩,show a+1<=x.length by omega⟩,by rw[hs];simpa using hc⟩]
    have ih:=vo x c m (a+1) (st.1.push a,a+1) (by omega) (by simp;omega) (Nat.le_refl _)
    refine ih.trans ?_
    rw[hd,nW,if_pos hc]
    simp
   ·rw[if_neg λz=>hc (by have:=z.2;rw[hs] at this;simpa using this)]
    have ih:=vo x c m (a+1) (st.1,st.2) (by omega) (by show st.1.size<=a+1;omega) (by show st.2<=a+1;omega)
    refine ih.trans ?_
    rw[hd,nW,if_neg hc]
  ·rw[if_neg λz=>ha (by have:=z.1.2;show a<x.length;have e:(S [c]).length=1:=rfl;omega)]
   have ih:=vo x c m (a+1) (st.1,st.2) (by omega) (by show st.1.size<=a+1;omega) (by show st.2<=a+1;omega)
   refine ih.trans ?_
   have e1:x.cps.toList.drop a=[]:=List.drop_eq_nil_of_le (by omega)
   have e2:x.cps.toList.drop (a+1)=[]:=List.drop_eq_nil_of_le (by omega)
   rw[e1,e2]
   rfl
def VD(x:PySem.Str)(c:Nat):occurrences x (S [c]) 0 x.length (x.length+1)=nW c 0 x.cps.toList:=by
 rw[occ_eq,vo x c _ 0 _ (by omega) (Nat.le_refl _) (Nat.le_refl _)]
 simp
def HD(x:PySem.Str)(i j:Nat):strSub x i j=S ((x.cps.toList.drop i).take (j-i)):=by
 apply Str.ext'
 apply Array.toList_inj.mp
 rw[strSub_toList]
theorem qb(x:PySem.Str)(c:Nat):∀(m a b:Nat),b+m=x.length->a<=b->∀p ps,ĳ c (x.cps.toList.drop b)=p::ps->partsFrom x 1 a (nW c b (x.cps.toList.drop b))=S ((x.cps.toList.drop a).take (b-a)++p)::ps.map S
 |0,a,b,h,hab,p,ps,e=>by
  have hl:x.cps.toList.length=x.length:=by simp[Str.length]
  have:x.cps.toList.drop b=[]:=List.drop_eq_nil_of_le (by omega)
  rw[this] at e ⊢
  cases e
  show[strSub x a x.length]=_
  rw[HD,show x.length=b by omega]
  simp
 |m+1,a,b,h,hab,p,ps,e=>by
  have hl:x.cps.toList.length=x.length:=by simp[Str.length]
  have hd:x.cps.toList.drop b=x.cps.toList[b]::x.cps.toList.drop (b+1):=List.drop_eq_getElem_cons (by omega)
  obtain⟨q,qs,eq⟩:=tU c (x.cps.toList.drop (b+1))
  rw[hd] at e ⊢
  rw[ĳ] at e
  rw[nW]
  by_cases hc:x.cps.toList[b]=c
  ·rw[if_pos hc] at e ⊢
   cases e
   show strSub x a b::partsFrom x 1 (b+1) (nW c (b+1) (x.cps.toList.drop (b+1)))=_
   rw[qb x c m (b+1) (b+1) (by omega) (Nat.le_refl _) q qs eq,HD,eq]
   simp
  ·rw[if_neg hc] at e ⊢
   rw[eq] at e
   injection e with e1 e2
   subst e1 e2
   rw[qb x c m a (b+1) (by omega) (by omega) q qs eq]
   congr 2
   have:(x.cps.toList.drop a).take (b+1-a)=(x.cps.toList.drop a).take (b-a) ++ [x.cps.toList[b]]:=by
    rw[show b+1-a=(b-a)+1 by omega,List.take_succ]
    congr 1
    rw[List.getElem?_drop,show a+(b-a)=b by omega,List.getElem?_eq_getElem (by omega)]
    rfl
   rw[this]
   simp
theorem Ca(c:Nat):∀(l:List Nat) (k:Nat),nW c k l=[]->ĳ c l=[l]
 | [],k,_=>rfl
 |x::xs,k,h=>by
  unfold nW at h
  split at h
  ·cases h
  ·rename_i hc
   unfold ĳ
   rw[if_neg hc,Ca c xs (k+1) h]
theorem VF(c:Nat):∀(l:List Nat),c∉l->ĳ c l=[l]
 | [],_=>rfl
 |x::xs,h=>by
  unfold ĳ
  rw[if_neg λz=>h (by simp[z]),VF c xs λz=>h (List.mem_cons_of_mem _ z)]
def ZaP{c:Nat}(h:c<256):Builtin.Str.strKind (S [c])=1:=by
 unfold Builtin.Str.strKind
 rw[if_pos (by simpa using h)]
def Lp(x:PySem.Str):1<=Builtin.Str.strKind x:=by
 unfold Builtin.Str.strKind
 split
 ·omega
 ·split<;>omega
def HF(x:PySem.Str){c:Nat}(h:c<256):Txt.split x (S [c])=(ĳ c x.cps.toList).map S:=by
 have hl:x.cps.toList.length=x.length:=by simp[Str.length]
 have whole:S x.cps.toList=x:=Str.ext' (by simp)
 have hk:=Lp x
 unfold Txt.split
 split
 ·rename_i h1
  rw[ZaP h] at h1
  have h0:x.length=0:=by
   simp only[Bool.or_eq_true,decide_eq_true_eq] at h1
   have e:(S [c]).length=1:=rfl
   omega
  have:x.cps.toList=[]:=List.length_eq_zero_iff.mp (by omega)
  have e:ĳ c x.cps.toList=[x.cps.toList]:=VF c _ (by rw[this];simp)
  rw[e,List.map_cons,List.map_nil,whole]
 ·rw[VD]
  split
  ·rename_i h2
   rw[Ca c _ 0 (by simpa using h2),List.map_cons,List.map_nil,whole]
  ·obtain⟨p,ps,e⟩:=tU c x.cps.toList
   rw[partsBetween_eq]
   have:=qb x c x.length 0 0 (by omega) (Nat.le_refl _) p ps (by rw[List.drop_zero];exact e)
   rw[List.drop_zero] at this
   rw[e]
   show partsFrom x 1 0 _=_
   rw[this]
   simp
theorem jt(c:Nat):∀(ys:List (List Nat)),ys≠[]->(∀y∈ys,c∉y)->ĳ c (M4.ū [c] ys)=ys
 | [],h,_=>absurd rfl h
 | [x],_,hn=>VF c x (hn x (by simp))
 |x::y::r,_,hn=>by
  have ih:=jt c (y::r) (by simp) λz hz=>hn z (List.mem_cons_of_mem _ hz)
  have go:∀(x:List Nat),c∉x->ĳ c (x ++ [c]++M4.ū [c] (y::r))=x::y::r:=by
   intro x
   induction x with
   |nil=>
    intro _
    show ĳ c (c::M4.ū [c] (y::r))=_
    rw[ĳ,if_pos rfl,ih]
   |cons a x ihx=>
    intro h
    show ĳ c (a::(x ++ [c]++M4.ū [c] (y::r)))=_
    rw[ĳ,if_neg λz=>h (by simp[z]),ihx λz=>h (List.mem_cons_of_mem _ z)]
  exact go x (hn x (by simp))
theorem qd(c:Nat):∀l,(ĳ c l).length<=l.length+1
 | []=>by simp[ĳ]
 |x::xs=>by
  have ih:=qd c xs
  unfold ĳ
  split
  ·simp;omega
  ·split
   ·simp
   ·rename_i e;rw[e] at ih;simp at ih ⊢;omega
end Sp
namespace P
open PySem PySem.Spec PyProof.Rows L2 M2 M3 M4 PySem.Builtin PySem.Builtin.Str
section
variable{prog:Program}{w:World}{A:Around}{E:Value->Shared->Prop}{s:Shared}{x y:PySem.Str}{t u:Tok}{Q:Value->Shared->Prop}
def Lq(hy:(y.length== 0)=false)(hq:∀l k,l.map (·.1)=Txt.split x y->Q (.ref s.heap.objs.size) {s with heap:=s.heap.push {cls:=.type "list",data:=.seq (strValues l).toArray},toks:=k})
 (hsz:x.length<=sizeLine)(hsz2:(partsBetween x (occurrences x y 0 x.length (x.length+1)) y.length).length<=sizeLine):wpAny (model prog w) A (call (.builtin "str.split") [.str x t,.str y u]) Q E s:=by
 cases h1:(decide (x.length<y.length) || decide (Builtin.Str.strKind x<Builtin.Str.strKind y))
 ·cases hf:(occurrences x y 0 x.length (x.length+1)).isEmpty
  ·refine call_meets F.slot_str_split (typeIs_str _ _ _) F.entry_str_split (F.args_str_split_2 _ _) (meets_str_split_sep x y t u h1 hy hf hsz hsz2) ?_
   show wants Q E _ {s with toks:=_,heap:=s.heap.push {cls:=.type "list",data:=.seq (strsFrom s.toks (partsBetween x (occurrences x y 0 x.length (x.length+1)) y.length)).toArray}}
   rw[strsFrom_eq]
   exact hq (numbered s.toks _) _ ((numbered_texts _ _).trans ((if_neg (ne_true_of_eq_false h1)).trans (if_neg (ne_true_of_eq_false hf))).symm)
  ·exact call_meets F.slot_str_split (typeIs_str _ _ _) F.entry_str_split (F.args_str_split_2 _ _) (meets_str_split_not_found x y t u h1 hy hf) (hq [(x,t)] s.toks ((if_neg (ne_true_of_eq_false h1)).trans (if_pos hf)).symm)
 ·exact call_meets F.slot_str_split (typeIs_str _ _ _) F.entry_str_split (F.args_str_split_2 _ _) (meets_str_split_cannot_occur x y t u h1) (hq [(x,t)] s.toks (if_pos h1).symm)
end
theorem iu:∀(l:List (PySem.Str×Tok)) (ys:List (List Nat)),l.map (·.1)=ys.map S->Vals (ys.map λy=>V.str (S y)) (strValues l)
 | [],[],_=>.nil
 | [],_::_,h=>by cases h
 |_::_,[],h=>by cases h
 |(a,t)::l,y::ys,h=>by
  rw[List.map_cons,List.map_cons] at h
  injection h with h1 h2
  have h1':a=S y:=h1
  subst h1'
  exact .cons ⟨t,rfl⟩ (iu l ys h2)
def zW:V->List V->Hp->VK->Prop:=λx xs H Q=>match x,xs with
 | .str z,[.str y]=>∃c,y=S [c]/\c<256/\z.length+2<=16777216/\∀p,H p=none->Q (.ref p) (upd H p (.lst ((Sp.ĳ c z.cps.toList).map λl=>.str (S l))))
 |_,_=>False
def xM{X:Cx}:Xn X "str.split" zW:=by
 intro pins s σ H x xs v us Q I rx rs h
 unfold zW at h
 split at h
 ·rename_i z y
  obtain⟨c,rfl,hc,hz,q⟩:=h
  obtain⟨t,rfl⟩:=rx
  obtain⟨u,rfl,ru⟩:=vals1 rs
  obtain⟨t',rfl⟩:=ru
  have hl:z.cps.toList.length=z.length:=by simp[PySem.Str.length]
  refine Lq rfl (λl k e=>?_) (by rw[sizeLine_eq];omega) (by rw[length_partsBetween,sizeLine_eq];have:=StrLaws.occ_length_le z (S [c]) 0 z.length (z.length+1);omega)
  rw[Sp.HF z hc] at e
  have hn:(strValues l).length<=sizeLine:=by
   have:=(iu l _ e).length
   rw[<-this,List.length_map,sizeLine_eq]
   have:=Sp.qd c z.cps.toList
   omega
  refine⟨.ref s.heap.objs.size,_,I.laid (o:=.lst ((Sp.ĳ c z.cps.toList).map λl=>.str (S l))) (t':=k) (λb u q=>Heap.get?_push_of_some _ q) (Nat.le_refl _) ⟨?_,strValues l,0,iu l _ e,Heap.get?_push_size _ rfl⟩,rfl,q _ I.fresh⟩
  rw[(iu l _ e).length]
  exact hn
 ·exact h.elim
end P
namespace P
open PySem PySem.Spec PyProof.Rows L2 M2 M3 M4
def MtO(K:KK)(r:V->List V->Hp->VK->Prop)(f:PV->List PV->Option RV):Prop:=∀{c:Ctx} {F H:Hp} {σ:L2.St} {ρ:ħ} {p:PV} {ps:List PV} {pv:RV} {v:V} {vs:List V} {Q:VK},Rel K c F H σ ρ->rR K c σ ρ F H p v->Ui K c σ ρ F H ps vs->f p ps=some pv->
 (∀z F' H',Rel K c F' H' σ ρ->Same F F'->Same H H'->rO K c σ ρ F' H' pv z->Q z H')->r v vs H Q
def DN(f:PV->List PV->Option RV)(mo:M PV)(ms:M (List PV)):M RV:=λρ=>(mo ρ).bind λp ρ1=>match p with
 | .str _=>(ms ρ1).bind λps ρ2=>Res.mV (f p ps) ρ2
 |_=>.bad
@[simp] theorem ZdO{f:PV→List PV→Option RV}{mo:M PV}{ms:M (List PV)}{ρ:ħ}:DN f mo ms ρ=(mo ρ).bind fun p ρ1=>match p with
  | .str _=>(ms ρ1).bind λps ρ2=>Res.mV (f p ps) ρ2
  |_=>.bad:=rfl
def DP:PySem.Str->Option Nat:=λy=>match y.cps.toList with
 | [c]=>some c
 |_=>none
def ju:PV->List PV->Option RV
 | .str z,[.str y]=>(DP y).bind λc=>if c<256/\z.length+2<=16777216 then some (.ow ((Sp.ĳ c z.cps.toList).map λl=>.str (S l))) else none
 |_,_=>none
theorem tX{K:KK}{F:Hp}:∀ys:List (List Nat),Ĉ K F (ys.map λl=>.str (S l)) (ys.map λl=>.str (S l))
 | []=>Ĉ.nil
 |y::ys=>Ĉ.cons Rep.str (tX ys)
def xO{K:KK}:MtO K zW ju:=by
 intro c F H σ ρ p ps pv v vs Q rel r1 r2 e k
 unfold ju at e
 split at e
 ·rename_i z y
  cases r1.str
  obtain⟨u,rfl,r3⟩:=wR r2
  cases r3.str
  obtain⟨c',ec,e⟩:=Option.bind_eq_some_iff.mp e
  split at e
  ·rename_i hz
   cases e
   have ey:y=S [c']:=by
    unfold DP at ec
    split at ec
    ·rename_i c2 e2
     cases ec
     exact Str.ext' (by rw[show y.cps=y.cps.toList.toArray by simp,e2])
    ·cases ec
   refine⟨c',ey,hz.1,hz.2,λq hq=>?_⟩
   obtain⟨a1,a2⟩:=dM rel hq (tX (K:=K) (F:=F) (Sp.ĳ c' z.cps.toList))
   exact k _ F _ a1 (Same.refl _) (Same.upd hq) a2
  ·cases e
 ·cases e
section
variable{X:Cx}{cm:String->Addr}{K:KK}{E:L2.St->XK}{o e:Expr}{es:List Expr}{name:Str}{apos cpos pos:Pos}{id:String}{r:V->List V->Hp->VK->Prop}{f:PV->List PV->Option RV}{mo m:M PV}{ms:M (List PV)}
def ZaQ(pa:PlainAttrs "str")(slot:PySem.Slot "str" name id)(hty:typeOf (.builtin id)=pure (.type "method_descriptor"))(hf:MtO (kk X cm) r f)(hm:Xn X id r)(ho:PE X o (tR (kk X cm) E mo))(ha:PA X (e::es) (JB (kk X cm) E ms))
 (hbase:attributeBase o name X.env (eval o X.env)=eval o X.env:=by rfl)
 (hfew:((backTo cpos (starEach (e::es) X.env)).all (fun x=>!x.1) && (backToKw cpos (keywordEach [] X.env)).all (fun x=>x.1.isSome)
   && decide ((e::es).length+([]:List Keyword).length+(if([]:List Keyword).isEmpty then 0 else 1)<30))=true:=by rfl)
 (hline:(apos.endLine== cpos.line)=true:=by rfl)(hs:starEach (e::es) X.env=(false,eval e X.env)::starEach es X.env:=by exact Ŗ rfl)(hplain:(backTo cpos (starEach es X.env)).any (·.1)=false:=by rfl) :
 PE X (.Call (.Attribute o name apos) (e::es) [] cpos) (tO (kk X cm) E (DN f mo ms)):=
 PE.wk (aD pa slot hty hm ho ha hbase hfew hline hs hplain) fun σ H Q ⟨c,F,ρ,rel,h⟩=>⟨c,F,ρ,rel,Ÿ.bind h fun p ρ1 v F1 H1 ć _ _ r1 h1=>by
   cases p with
   |str z=>
    cases r1.str
    refine⟨rfl,c,F1,ρ1,ć,Ÿ.bind h1 λps ρ2 vs F2 H2 ĥ sF sH r2 h2=>?_⟩
    cases ef:f (.str z) ps with
    |none=>rw[ef] at h2;exact h2.elim
    |some pv=>rw[ef] at h2;exact hf ĥ (.inl (Rep.str (K:=kk X cm) (F:=F2))) r2 ef λz F' H' ŋ s1 s2 q'=>h2 z F' H' ŋ s1 s2 q'
   |_=>exact h1.elim⟩
def DQ(m:M PV):M PV:=λρ=>(m ρ).bind λp ρ1=>match p with
 | .str x=>if x.length<=16777216 then .ok (.str x) ρ1 else .bad
 | .int i=>if i.natAbs.log2<1920 then .ok (.str (toString i)) ρ1 else .bad
 |_=>.bad
def Np(he:PE X e (tV (kk X cm) E m)):PE X (.FormattedValue e (-1) none pos) (tV (kk X cm) E (DQ m)):=by
 intro pins s σ H Q I ⟨c,F,ρ,rel,h⟩
 refine FormattedValue_plain (ņ (he pins s σ H (λv H1=>(∃x,v=.str x/\x.length<=16777216/\Q (.str x) H1)\/∃i:Int,v=.int i/\i.natAbs.log2<1920/\Q (.str (toString i)) H1) I ⟨c,F,ρ,rel,Ÿ.bind h λp ρ1 v F1 H1 ć _ _ r1 h1=>?_⟩) λv s1 ⟨x,H1,I1,r1,q1⟩=>?_)
 ·cases p with
  |str x=>
   have ev:v=.str x:=by have r1':Rep (kk X cm) F1 (.str x) v:=r1;unfold Rep at r1';exact r1'
   dsimp only at h1
   split at h1
   ·rename_i hz
    exact .inl ⟨x,ev,hz,h1 _ F1 H1 ć (Same.refl _) (Same.refl _) Rep.str⟩
   ·exact h1.elim
  |int i=>
   have ev:v=.int i:=by have r1':Rep (kk X cm) F1 (.int i) v:=r1;unfold Rep at r1';exact r1'
   dsimp only at h1
   split at h1
   ·rename_i hz
    exact .inr ⟨i,ev,hz,h1 _ F1 H1 ć (Same.refl _) (Same.refl _) Rep.str⟩
   ·exact h1.elim
  |_=>exact h1.elim
 ·rcases q1 with⟨y,rfl,hz,q⟩|⟨i,rfl,hz,q⟩
  ·obtain⟨t,rfl⟩:=r1
   exact formatField_str (λt' tk=>⟨.str y,H1,I1.tok _,⟨t',rfl⟩,q⟩) (by rw[sizeLine_eq];exact hz)
  ·obtain⟨t,rfl⟩:=r1
   exact formatField_int_small hz ⟨.str (toString i),H1,I1.tok _,⟨_,rfl⟩,q⟩
def Lr:List (M PV)->PySem.Str->M PV
 | [],out=>λρ=>.ok (.str out) ρ
 |m::ms,out=>λρ=>(m ρ).bind λp ρ1=>match p with
  | .str y=>if(out++y).length<=16777216 then Lr ms (out++y) ρ1 else .bad
  |_=>.bad
def PJ(X:Cx)(cm:String->Addr)(E:L2.St->XK)(es:List Expr)(ms:List (M PV)):Prop:=∀out pins s σ H Q,out.length<=sizeLine->Inv X pins σ H s->tV (kk X cm) E (Lr ms out) σ H Q->wpAny (model X.prog X.w) X.A (joinParts out (evalEach es X.env)) (EP X pins σ Q) X.xe s
def VG:PJ X cm E [] []:=λout pins s σ H Q hz I ⟨c,F,ρ,rel,h⟩=>joinParts_nil ⟨.str out,H,I.tok _,⟨_,rfl⟩,h _ F H rel (Same.refl _) (Same.refl _) Rep.str⟩ hz
def oM{ms:List (M PV)}(he:PE X e (tV (kk X cm) E m))(hr:PJ X cm E es ms)(hs:evalEach (e::es) X.env=eval e X.env::evalEach es X.env:=by rfl):PJ X cm E (e::es) (m::ms):=λout pins s σ H Q hz I ⟨c,F,ρ,rel,h⟩=>by
 rw[hs]
 refine joinParts_cons (ņ (he pins s σ H (λv H1=>∃y,v=.str y/\(out++y).length<=16777216/\tV (kk X cm) E (Lr ms (out++y)) σ H1 Q) I ⟨c,F,ρ,rel,Ÿ.bind h λp ρ1 v F1 H1 ć _ _ r1 h1=>?_⟩) λv s1 ⟨x,H1,I1,r1,y,e1,hz1,q1⟩=>?_)
 ·cases p with
  |str y=>
   have ev:v=.str y:=by have r1':Rep (kk X cm) F1 (.str y) v:=r1;unfold Rep at r1';exact r1'
   dsimp only at h1
   split at h1
   ·rename_i hz1
    exact⟨y,ev,hz1,c,F1,ρ1,ć,h1⟩
   ·exact h1.elim
  |_=>exact h1.elim
 ·subst e1
  obtain⟨t,rfl⟩:=r1
  have hz2:(out++y).length<=sizeLine:=by rw[sizeLine_eq];exact hz1
  exact⟨hz2,hr (out++y) pins s1 σ H1 Q hz2 I1 q1⟩
def ZdP{e2:Expr}{m2:M PV}{ms:List (M PV)}(h:PJ X cm E (e::e2::es) (m::m2::ms))(hs:evalEach (e::e2::es) X.env=eval e X.env::eval e2 X.env::evalEach es X.env:=by rfl):PE X (.JoinedStr (e::e2::es) pos) (tV (kk X cm) E (Lr (m::m2::ms) Str.empty)):=λpins s σ H Q I hq=>by
 refine JoinedStr_many ?_
 rw[<-hs]
 exact h Str.empty pins s σ H Q (by decide) I hq
@[simp] theorem VH{ρ:ħ}:DQ m ρ=(m ρ).bind fun p ρ1=>match p with
  | .str x=>if x.length<=16777216 then .ok (.str x) ρ1 else .bad
  | .int i=>if i.natAbs.log2<1920 then .ok (.str (toString i)) ρ1 else .bad
  |_=>.bad:=rfl
@[simp] theorem HJ{out:PySem.Str}{ρ:ħ}:Lr [] out ρ=.ok (.str out) ρ:= rfl
@[simp] theorem HN{ms:List (M PV)}{out:PySem.Str}{ρ:ħ}:Lr (m::ms) out ρ=(m ρ).bind fun p ρ1=>match p with
  | .str y=>if(out++y).length<=16777216 then Lr ms (out++y) ρ1 else .bad
  |_=>.bad:=rfl
end
end P
namespace P
open PySem PySem.Spec PyProof.Rows L2 M2 M3 M4
section
variable{X:Cx}{cm:String->Addr}{K:KK}
def Nq:List V->Hp->VK->Prop:=λxs H Q=>GX xs H Q\/∃z n,xs=[.str z]/\PySem.intText? z=some n/\z.length<=640/\Q (.int n) H
def Ls:ő X (.type "int") Nq:=by
 intro pins s σ H vs us Q I r h
 rcases h with h|⟨z,n,rfl,h1,h2,q⟩
 ·exact U_ pins s σ H vs us Q I r h
 ·obtain⟨u,rfl,ru⟩:=vals1 r
  obtain⟨t,rfl⟩:=ru
  exact PySem.W.KIN.call_text h1 h2 ⟨.int n,H,I.tok _,⟨_,rfl⟩,q⟩
def jQ:List PV->Option PV
 | [.str z]=>if z.length<=640 then(PySem.intText? z).map .int else none
 |ps=>GZ ps
def Lw:dN K Nq jQ:=by
 intro c F H σ ρ ps pv vs Q rel r e k
 unfold jQ at e
 split at e
 ·rename_i z
  split at e
  ·rename_i hz
   obtain⟨n,e1,rfl⟩:=Option.map_eq_some_iff.mp e
   obtain⟨v,rfl,r1⟩:=wR r
   cases r1.str
   exact .inr ⟨z,n,rfl,e1,hz,k _ F H rel (Same.refl _) (Same.refl _) Rep.int⟩
  ·cases e
 ·exact .inl (Va rel r e k)
def Nr:List V->Hp->VK->Prop:=λxs H Q=>G_ xs H Q\/∃z,xs=[.str z]/\Q (.str z) H
def jR:ő X (.type "str") Nr:=by
 intro pins s σ H vs us Q I r h
 rcases h with h|⟨z,rfl,q⟩
 ·exact Vb pins s σ H vs us Q I r h
 ·obtain⟨u,rfl,ru⟩:=vals1 r
  obtain⟨t,rfl⟩:=ru
  exact PySem.P.str_of_str ⟨.str z,H,I,⟨t,rfl⟩,q⟩
def bV:List PV->Option PV
 | [.str z]=>some (.str z)
 |ps=>La ps
def jT:dN K Nr bV:=by
 intro c F H σ ρ ps pv vs Q rel r e k
 unfold bV at e
 split at e
 ·cases e
  obtain⟨v,rfl,r1⟩:=wR r
  cases r1.str
  exact .inr ⟨_,rfl,k _ F H rel (Same.refl _) (Same.refl _) Rep.str⟩
 ·exact .inl (Vc rel r e k)
@[simp] theorem ZaR{z:PySem.Str}:jQ [.str z]=if z.length<=640 then(PySem.intText? z).map .int else none:=rfl
@[simp] theorem ZaS{i:Int}:jQ [.int i]=some (.int i):=rfl
@[simp] theorem ZaT{i:Bool}:jQ [.bl i]=some (.int (if i then 1 else 0)):=rfl
@[simp] theorem ZaU{z:PySem.Str}:bV [.str z]=some (.str z):=rfl
@[simp] theorem xP{i:Int}:bV [.int i]=if i.natAbs.log2<1920 then some (.str (toString i)) else none:=rfl
end
end P
namespace P
open PySem PySem.Spec PyProof.Rows L2 M2 M3 M4
def Cd(mb:M Fl):M Fl:=λρ=>match mb ρ with
 | .ok f ρ1=>.ok f ρ1
 |_=>.bad
@[simp] theorem Zb9{mb:M Fl}{ρ:ħ}:Cd mb ρ=(match mb ρ with
  | .ok f ρ1=>.ok f ρ1
  |_=>.bad):=rfl
section
variable{X:Cx}{cm:String->Addr}{E:L2.St->XK}
def VJ{body:List Stmt}{h0:ExceptHandler}{hs:List ExceptHandler}{pos:Pos}{mb:M Fl}
 (hb:∀(xe:Value->Shared->Prop) (pins:List (Addr×Obj)) (Et:L2.St->XK),aB (Dv X xe pins) body (tS (kk X cm) Et mb)):PS X (.Try body (h0::hs) [] [] pos) (tS (kk X cm) E (Cd mb)):=by
 intro pins s σ H D I ⟨c,F,ρ,rel,h⟩
 refine wpAny_Try_except ?_
 have J:Inv (Dv X (λe s₁=>wpAny (model X.prog X.w) X.A (noteFrame e X.env) (λ_ s₂=>wpAny (model X.prog X.w) X.A (setFlight e none) (λ_ s₃=>wpAny (model X.prog X.w) X.A (handleBy e X.env (h0::hs)) (SP X pins D) X.xe s₃) X.xe s₂) X.xe s₁) pins) [] σ H s:=Inv.Zal I
 refine ņ (hb _ pins (λ_ _ _ _=>False) [] s σ H D J ⟨c,F,ρ,rel,?_⟩) λf s1 q=>?_
 ·unfold Cd at h
  cases em:mb ρ with
  |bad=>rw[em] at h;exact h
  |exc x ρ1=>rw[em] at h;exact h.elim
  |ok f ρ1=>
   rw[em] at h
   cases f<;>exact h
 ·have q':=SP.tE q
  cases f with
  |next=>exact wpAny_execs_nil q'
  |brk=>exact q'
  |cont=>exact q'
  |ret u=>exact q'
end
end P
namespace Sp
open PySem PySem.Builtin PySem.Builtin.Str PySem.StrLaws
def ZaV(x:PySem.Str)(c:Nat):(!(occurrences x (S [c]) 0 x.length 1).isEmpty)=decide (c∈x.cps.toList):=by
 have hl:x.cps.toList.length=x.length:=by simp[PySem.Str.length]
 have h:=occ_none x (S [c]) x.length (List.range' 0 (x.length+1)) 0 (λ_ _=>Nat.zero_le _)
 have e:(occurrences x (S [c]) 0 x.length 1).isEmpty=true↔¬c∈x.cps.toList:=by
  rw[occ_eq]
  rw[List.isEmpty_iff,Array.toList_eq_nil_iff]
  refine h.trans ?_
  have hs:∀i,(hi:i<x.length)->(subAt x (S [c]) i=true↔x.cps.toList[i]'(by omega)=c):=λi hi=>by
   rw[subAt_eq,List.drop_eq_getElem_cons (by omega)]
   show((List.take 1 _== [c])=true)↔_
   rw[List.take_succ_cons,List.take_zero]
   simp
  constructor
  ·intro q z
   obtain⟨i,hi,e⟩:=List.getElem_of_mem z
   exact q i (by simp;omega) ⟨show i+1<=x.length by omega,(hs i (by omega)).mpr e⟩
  ·intro q i _ ⟨z1,z2⟩
   have z1':i+1<=x.length:=z1
   exact q ((hs i (by omega)).mp z2▸List.getElem_mem _)
 cases q:(occurrences x (S [c]) 0 x.length 1).isEmpty with
 |true=>have:=e.mp q;simp[this]
 |false=>
  have:c∈x.cps.toList:=Classical.byContradiction λz=>by rw[e.mpr z] at q;cases q
  simp[this]
end Sp
namespace P
open PySem PySem.Spec PyProof.Rows L2 M2 M3 M4
def ZdQ:R2:=λx y H Q=>∃c z,x=.str (S [c])/\y=.str z/\Q (.bl (decide (c∈z.cps.toList))) H
def JG(p q:PV):Option PV:=match p,q with
 | .str y,.str z=>(DP y).map λc=>.bl (decide (c∈z.cps.toList))
 |_,_=>inD false p q
def ZaW(K:PySem.W.Frag):R2:=λx y H Q=>ZdQ x y H Q\/Vf K false x y H Q
section
variable{X:Cx}{cm:String->Addr}{K:KK}
def zX(hu:X.A.units+64<cLine):aC X (compareOp .In) (ZaW X.K):=by
 intro pins s σ H x y v u Q I rx ry h
 rcases h with⟨c,z,rfl,rfl,q⟩|h
 ·obtain⟨t,rfl⟩:=rx
  obtain⟨t',rfl⟩:=ry
  refine in_str ?_
  rw[Sp.ZaV z c]
  exact⟨.bl _,H,I,rfl,q⟩
 ·exact Vg hu pins s σ H x y v u Q I rx ry h
def zY:kO K (ZaW K.K) JG:=by
 intro c F H σ ρ p q pv v u Q rel r1 r2 e k
 unfold JG at e
 split at e
 ·rename_i y z
  obtain⟨c',ec,rfl⟩:=Option.map_eq_some_iff.mp e
  cases r1.str
  cases r2.str
  have ey:y=S [c']:=by
   unfold DP at ec
   split at ec
   ·rename_i c2 e2
    cases ec
    exact Str.ext' (by rw[show y.cps=y.cps.toList.toArray by simp,e2])
   ·cases ec
  exact .inl ⟨c',z,by rw[ey],rfl,k _ F H rel (Same.refl _) (Same.refl _) Rep.bl⟩
 ·exact .inr (Vh rel r1 r2 e k)
end
@[simp] theorem ZdR{c:Nat}{z:PySem.Str}:JG (.str ⟨#[c]⟩) (.str z)=some (.bl (decide (c∈z.cps.toList))):=rfl
@[simp] theorem Zb_{p:PV}{ps:List PV}:JG p (.lst ps)=inD false p (.lst ps):=by cases p<;>rfl
@[simp] theorem Zca{p:PV}{ps:List PV}:JG p (.tup ps)=inD false p (.tup ps):=by cases p<;>rfl
end P
namespace P
open PySem PySem.Spec PyProof.Rows L2 M2 M3 M4
def Nt:List PV->Option DL
 | []=>some []
 | .tup [p,q,.lst r]::ps=>(Nt ps).map (([p,q],r):: ·)
 |_=>none
theorem zZ:∀{ps:List PV} {D:DL},Nt ps=some D->D.length=ps.length/\∀(i:Nat) (p:PV),ps[i]?=some p->∃(a b:PV) (r:List PV),p=PV.tup [a,b,.lst r]/\D[i]?=some ([a,b],r)
 | [],_,h=>by cases h;exact⟨rfl,λi p e=>by simp at e⟩
 |p::ps,D,h=>by
  unfold Nt at h
  split at h
  ·rename_i hh;cases hh
  ·rename_i a b r qs hh
   cases hh
   cases e:Nt ps with
   |none=>rw[e] at h;cases h
   |some D'=>
    rw[e] at h
    cases h
    obtain⟨h1,h2⟩:=zZ e
    refine⟨by simp[h1],λi p hp=>?_⟩
    cases i with
    |zero=>simp at hp;subst hp;exact⟨a,b,r,rfl,rfl⟩
    |succ i=>simpa using h2 i p (by simpa using hp)
  ·cases h
def hid(ρ:ħ)(il ihd i1 i2 i3:Nat):ħ:=((((ρ.set ihd .no).set il .no).set i1 .no).set i2 .no).set i3 .no
def m71(iw ih id ihd il iy i1 i2 i3:Nat)(C:String)(mi:MI)(m2:M Fl):M Fl:=λρ=>match ρ[iw]?,ρ[ih]?,ρ[id]?,ρ[ihd]? with
 |some (.sh w),some (.sh h),some (.ow ps),some (.ow T)=>(match Nt ps with
  |some D=>if ps.length<16777216/\T.length<16777216/\(D.all λd=>decide (d.2.length<16777216))=true/\il < ρ.length/\iy < ρ.length/\i3 < ρ.length then(match mi [.sh w,.sh h,.bw T,.dw D] with
   | .ok ns qs=>m2 ((hid (ρ.set id (.sh (.lst ps))) il ihd i1 i2 i3).set iy (.sh (.ins C ns qs)))
   |_=>.bad) else .bad
  |none=>.bad)
 |_,_,_,_=>.bad
def z_{ρ:ħ}{i:Nat}(h:∀s,ρ[i]?=some s->s=.no):ρ.set i .no=ρ:= by
 apply List.ext_getElem?
 intro j
 by_cases hj:i=j
 ·subst hj
  by_cases hl:i < ρ.length
  ·rw[List.getElem?_set_self hl,List.getElem?_eq_getElem hl,h _ (List.getElem?_eq_getElem hl)]
  ·rw[List.getElem?_eq_none (by simp;omega),List.getElem?_eq_none (by omega)]
 ·rw[List.getElem?_set_ne hj]
def HS{ρ:ħ}{i:Nat}:∀s,(ρ.set i .no)[i]?=some s->s=.no:=λs e=>by
 rcases Ŀ e with⟨_,e,_⟩|⟨q,_⟩
 ·exact e
 ·exact absurd rfl q
def mH{ρ:ħ}{i j:Nat}{x:Slot}(hx:x=.no\/i≠j)(h:∀s,ρ[i]?=some s->s=.no):∀s,(ρ.set j x)[i]?=some s->s=.no:=λs e=>by
 rcases Ŀ e with⟨q,e,_⟩|⟨_,e⟩
 ·rcases hx with hx|hx
  ·rw[e,hx]
  ·exact absurd q hx
 ·exact h s e
def jU{F:Hp}{σ:L2.St}{ρ:ħ}{a:Addr}{i:Nat}(h:Ź F σ ρ a):Ź F σ (ρ.set i .no) a:=λj ⟨s,y,q1,q2,q3⟩=>by
 rcases Ŀ q1 with⟨_,rfl,_⟩|⟨_,q1⟩
 ·exact q3.elim
 ·exact h j ⟨s,y,q1,q2,q3⟩
abbrev ZaX(K:PySem.W.Frag):TE:=Yi (fK (bG 0) (fK (bG 1) (fK (Yk (uT K) (fK (bG 2) uy)) uy)))
abbrev g71(K:PySem.W.Frag)(i j k:Nat):TG:=RW K 3 (rP (cQ i) (rP (cQ j) (rP (cQ k) RT)))
abbrev VL(K:PySem.W.Frag)(i:Nat):TS:=mL (Tf K "list" gW (bG i) (fK (tC .non) uy))
section
variable{K:KK}{c:Ctx}{F H F' H':Hp}{σ:L2.St}{ρ:ħ}
def VN(s:Same F H):Rel K (ctx0 F H) F H σ (List.replicate σ.length .no) where
 sub:=s
 base:=Same.refl H
 f0:=Same.refl F
 bM:=λ_ _ h=>h
 lent:=λ_ _ e=>ŗ e
 lb:=fun a e=>by
   cases q:(ctx0 F H).L a with
   |none=>rfl
   |some u=>
    have e':H a=none:=e
    rw[(ŗ q).1] at e'
    cases e'
 len:=by simp
 slot:=λi s e=>by
  have:=List.mem_of_getElem? e
  rw[(List.mem_replicate.mp this).2]
  trivial
 sep:=λi j a ⟨s,y,e,_,q⟩ _=>by
  have:=List.mem_of_getElem? e
  rw[(List.mem_replicate.mp this).2] at q
  exact q.elim
structure VP(K:KK)(F1 H1 F H:Hp)(D:Addr)(tb:List (Addr×Addr))(ds:DL):Prop where
 gr:Gr F1 H1 F H
 hd:H D=some (.lst (tb.map λx=>.ref x.1))
 pr:Paired (jP K F H) tb ds
 nd:(D::tb.map (·.2)).Nodup
 new:∀a∈D::tb.map (·.2),H1 a=none/\F a=none
def VP.some{F1 H1:Hp}{D:Addr}{tb:List (Addr×Addr)}{ds:DL}(m:VP K F1 H1 F H D tb ds){a:Addr}(ha:a∈D::tb.map (·.2)):H a≠none:=by
 rcases List.mem_cons.mp ha with rfl|ha
 ·rw[m.hd];intro z;cases z
 ·exact Hy m.pr ha
def VP.step{F1 H1 F2 H2 F3 H3:Hp}{D:Addr}{tb:List (Addr×Addr)}{ds:DL}(m:VP K F1 H1 F2 H2 D tb ds)(r:Rel K (ctx0 F2 H2) F3 H3 σ ρ){p q:PV}{r':List PV}{v1 v2:V}{vs:List V}(r1:Rep K F3 p v1)(r2:Rep K F3 q v2)(r3:Ĉ K F3 r' vs){b t:Addr}(hb:H3 b=none)(ht:upd H3 b (.lst vs) t=none) :
 VP K F1 H1 (upd F3 t (.tup [v1,v2,.ref b])) (upd (upd (upd H3 b (.lst vs)) t (.tup [v1,v2,.ref b])) D (.lst ((tb.map λx=>.ref x.1) ++ [.ref t]))) D (tb ++ [(t,b)]) (ds ++ [([p,q],r')]):=by
 have sF:Same F2 F3:=r.f0
 have sH:Same H2 H3:=r.base
 have ot:∀a,H2 a≠none->F2 a=none->F3 a=none:=λa h1 h2=>r.bM a h1 h2
 have hs:=fun{a}=>m.some (a:=a)
 have s3:∀{a},H2 a≠none->H3 a≠none:=fun{a} h=>by
  cases e:H2 a with
  |none=>exact absurd e h
  |some u=>rw[sH _ _ e];intro z;cases z
 have nb:∀{a},H3 a≠none->a≠b:=fun{a} h z=>h (z▸hb)
 have tb':t≠b:=λz=>by rw[z,Ď] at ht;cases ht
 have ht3:H3 t=none:=by rw[ĉ tb'] at ht;exact ht
 have nt:∀{a},H3 a≠none->a≠t:=fun{a} h z=>h (z▸ht3)
 have Xw:=s3 (hs (show D∈D::tb.map (·.2) by simp))
 have bD:b≠D:=λz=>nb Xw z.symm
 have tD:t≠D:=λz=>nt Xw z.symm
 have fD:F3 D=none:=ot D (hs (by simp)) (m.new D (by simp)).2
 have ft:F3 t=none:=r.sub.free ht3
 have fb:F3 b=none:=r.sub.free hb
 have VR:Same F3 (upd F3 t (.tup [v1,v2,.ref b])):=Same.upd ft
 have up:∀{a u},H3 a=Option.some u->a≠D->upd (upd (upd H3 b (.lst vs)) t (.tup [v1,v2,.ref b])) D (.lst ((tb.map λx=>.ref x.1) ++ [.ref t])) a=Option.some u:=fun{a u} e hD=>by
  have:H3 a≠none:=by rw[e];intro z;cases z
  rw[ĉ hD,ĉ (nt this),ĉ (nb this)];exact e
 have n1:∀{a},H1 a=none->∀{u},H1 a=Option.some u->False:=λh u e=>by rw[h] at e;cases e
 refine⟨⟨λa u e=>?_,m.gr.f.trans (sF.trans VR),λa u e=>?_,λa h1 h2=>?_⟩,?_,?_,?_,?_⟩
 ·exact up (sH _ _ (m.gr.h _ _ e)) λz=>n1 (m.new D (by simp)).1 (z▸e)
 ·by_cases hat:a=t
  ·subst hat
   rw[Ď] at e
   rw[ĉ tD,Ď]
   exact e
  ·rw[ĉ hat] at e
   exact up (r.sub _ _ e) λz=>by rw[z,fD] at e;cases e
 ·have h3:H2 a≠none:=by
   cases e:H1 a with
   |none=>exact absurd e h1
   |some u=>rw[m.gr.h _ _ e];intro z;cases z
  rw[ĉ (nt (s3 h3))]
  exact ot a h3 (m.gr.out a h1 h2)
 ·rw[Ď,List.map_append];rfl
 ·refine pB ?_ (.cons ⟨[v1,v2],vs,Ď,Ĉ.cons (r1.same VR p v1) (Ĉ.cons (r2.same VR q v2) Ĉ.nil),?_,r3.same VR r' vs⟩ .nil)
  ·refine fM m.pr λx d hx ⟨xs,ws,k1,k2,k3,k4⟩=>⟨xs,ws,VR _ _ (sF _ _ k1),k2.same (sF.trans VR) d.1 xs,up (sH _ _ k3) ?_,k4.same (sF.trans VR) d.2 ws⟩
   exact mZ m.nd (List.mem_map.mpr ⟨x,hx,rfl⟩)
  ·rw[ĉ bD,ĉ (Ne.symm tb'),Ď]
 ·rw[List.map_append,<-List.cons_append,List.nodup_append]
  refine⟨m.nd,by simp,λx hx y hy=>?_⟩
  have:y=b:=by simpa using hy
  subst this
  exact nb (s3 (hs hx))
 ·intro a ha
  rw[List.map_append,<-List.cons_append] at ha
  rcases List.mem_append.mp ha with ha|ha
  ·refine⟨(m.new a ha).1,?_⟩
   rw[ĉ (nt (s3 (hs ha)))]
   exact ot a (hs ha) (m.new a ha).2
  ·have:a=b:=by simpa using ha
   subst this
   refine⟨?_,by rw[ĉ (Ne.symm tb')];exact fb⟩
   cases e:H1 a with
   |none=>rfl
   |some u=>
    have:=sH _ _ (m.gr.h _ _ e)
    rw[hb] at this
    cases this
end
section
variable{X:Cx}{cm:String->Addr}{E:L2.St->XK}
def HW{elt tg iter:Expr}{ifs:List Expr}{scope:Scope}{pos:Pos}{wi:TI}{g:TG}{tt:TT}{te:TE}{i:Nat}{y:Str}{py spos:Pos}(hN:X.N.Nodup)(hi0:X.N[i]?=some y)(hy:X.env.scope.names.lookup y=some .local)(N':List Str)(js:List Nat)(nl:Nat)(sc:Scope)(hsc:X.env.scope=sc)(hcalm:X.calm=true)
 (hi:PI X.ł tg iter wi)(hg:∀cl C s H fp,PG (bW X.ł N' scope cl C s H fp) tg g)(ht:∀cl C s H fp,Em (bW X.ł N' scope cl C s H fp) ifs tt)(he:∀cl C s H fp,PE (bW X.ł N' scope cl C s H fp) elt te)
 (hcap:gA X.ł sc scope N' js)(hlen:js.length+nl=N'.length:=by rfl)
 (hk:scope.kind=.function:=by rfl)(hcell:∀y∈scope.names,y.2=.cell->scope.names.lookup y.1=some .cell:=by decide +kernel)(hnames:∀y∈scope.names,y.2=.local->scope.names.lookup y.1=some .local:=by decide +kernel)
 (hfree:∀y∈scope.names,y.2=.free->(sc.names.lookup y.1=some .cell\/sc.names.lookup y.1=some .free):=by decide +kernel)
 (hs:∀x,foldedSetIterable iter X.env x=pure x:=by intro _;rfl)(hsw:swapsWith (.ListComp elt [⟨tg,iter,ifs,0⟩] scope pos) (some (.Name y py)) spos.line X.env=pure true:=by rfl) :
 PS X (.Assign [.Name y py] (.ListComp elt [⟨tg,iter,ifs,0⟩] scope pos) spos) (yP (pq js nl wi g tt te) (cQ i)):=PS.ł (BK hN hi0 hy hsw N' js nl sc hsc hcalm hi hg ht he hcap hlen hk hcell hnames hfree hs)
def V_{id:Nat}{c:Ctx}{F H:Hp}{σ:L2.St}{ρ:ħ}{ps:List PV}{ds:DL}{Q:VK}(rel:Rel (kk X cm) c F H σ ρ)(e:ρ[id]?=some (.ow ps))(hds:Nt ps=some ds)(hz:ps.length<16777216)
 (k:∀F1 H1 pD tb F2 H2,Rel (kk X cm) c F1 H1 σ (ρ.set id (.sh (.lst ps)))->Same F F1->VP (kk X cm) F1 H1 F2 H2 pD tb ds->Q (.ref pD) H2) :
 pq [] 3 (tI (kk X cm) E (Ň id)) (g71 X.K 0 1 2) Km (ZaX X.K) σ H Q:=by
 obtain⟨hl,hat⟩:=zZ hds
 refine⟨c,F,ρ,rel,?_⟩
 have em:Ň id ρ=.ok ps (ρ.set id (.sh (.lst ps))):=by unfold Ň;rw[e]
 rw[em]
 intro J F1 H1 ć s1 s2 ito D hD
 refine⟨λi m σ' H'=>∃F' tb,i<=ps.length/\m=ps.length-i/\σ'.length=3/\VP (kk X cm) F1 H1 F' H' D tb (ds.take i),⟨_,F1,[],Nat.zero_le _,rfl,by simp[fL],?_⟩,?_⟩
 ·refine⟨⟨Same.upd hD,Same.refl _,ć.sub.trans (Same.upd hD),λ_ _ h=>h⟩,Ď,.nil,by simp,λa ha=>?_⟩
  have:a=D:=by simpa using ha
  subst this
  exact⟨hD,ć.sub.free hD⟩
 ·rintro i m σ2 H2 ⟨F2,tb,hle,rfl,hσ,md⟩
  have rn:Rel (kk X cm) (ctx0 F2 H2) F2 H2 σ2 (List.replicate σ2.length .no):=VN md.gr.sub
  obtain⟨go,stop⟩:=ito _ i F2 H2 σ2 _ rn md.gr.f λb u e=>md.gr.h _ _ (ć.lent b u e).1
  by_cases hlt:i<ps.length
  ·obtain⟨g1,g2⟩:=go ps[i] (List.getElem?_eq_getElem hlt)
   refine .inr ⟨g1,_,λσ' H' z=>z,λx H3 hy=>?_⟩
   obtain⟨F3,bN,s3,sH3,rp⟩:=g2 x H3 hy
   obtain⟨p,q,r,ep,ed⟩:=hat i _ (List.getElem?_eq_getElem hlt)
   rw[ep] at rp
   unfold Rep at rp
   obtain⟨t,xs,rfl,ht,rx⟩:=rp
   unfold Ĉ at rx
   obtain⟨v1,rx',rfl,r1,rx⟩:=rx
   unfold Ĉ at rx
   obtain⟨v2,Zec,rfl,r2,rx⟩:=rx
   unfold Ĉ at rx
   obtain⟨v3,Zd9,rfl,r3,rx⟩:=rx
   unfold Ĉ at rx
   subst rx
   unfold Rep at r3
   obtain⟨a3,vs,rfl,h3,r3⟩:=r3
   refine⟨t,_,rfl,Same.tup bN.sub ht,rfl,v1,_,rfl,v2,_,rfl,.ref a3,_,rfl,rfl,?_⟩
   unfold Km
   dsimp only
   rw[if_pos rfl]
   have l0:0 < σ2.length:=by omega
   have q0:(((σ2.set 0 (some v1)).set 1 (some v2)).set 2 (some (V.ref a3)))[0]?=some (some v1):=by
    rw[List.getElem?_set_ne (by omega),List.getElem?_set_ne (by omega),List.getElem?_set_self (by omega)]
   have q1:(((σ2.set 0 (some v1)).set 1 (some v2)).set 2 (some (V.ref a3)))[1]?=some (some v2):=by
    rw[List.getElem?_set_ne (by omega),List.getElem?_set_self (by simp;omega)]
   have q2:(((σ2.set 0 (some v1)).set 1 (some v2)).set 2 (some (V.ref a3)))[2]?=some (some (.ref a3)):=by
    rw[List.getElem?_set_self (by simp;omega)]
   refine⟨v1,q0,v2,q1,.ref a3,q2,a3,vs,rfl,.inl (bN.sub.seq h3),λb hb=>⟨by rw[Ĝ];simp,λt' ht'=>?_⟩⟩
   have Xw:H3 D=some (.lst (tb.map λx=>.ref x.1)):=bN.base _ _ md.hd
   have nDb:D≠b:=ģ Xw hb
   have nDt:D≠t':=ģ (show upd H3 b (.lst vs) D=some _ by rw[ĉ nDb];exact Xw) ht'
   refine⟨tb.map λx=>.ref x.1,by rw[ĉ nDt,ĉ nDb];exact Xw,?_,?_⟩
   ·rw[List.length_map,Paired.length md.pr,List.length_take,Ĝ];omega
   ·have:=md.step bN r1 r2 r3 hb ht'
    have et:ds.take (i+1)=ds.take i ++ [([p,q],r)]:=by rw[List.take_succ,ed];rfl
    rw[<-et] at this
    exact⟨ps.length-(i+1),by omega,_,_,hlt,rfl,by simp[hσ],this⟩
  ·have ei:i=ps.length:=by omega
   refine .inl ⟨stop ei,?_⟩
   rw[List.take_of_length_le (by omega)] at md
   exact k F1 H1 D tb F2 H2 ć s1 md
def ZaY{iw ih id ihd il iy i1 i2 i3 n:Nat}{C:String}{mi:MI}{m2:M Fl}{s1 s2 s3 s5:Stmt}{tg iter:Expr}{body rest:List Stmt}{pos:Pos}
 (hS1:PS X s1 (yP (pq [] 3 (tI (kk X cm) E (Ň id)) (g71 X.K 0 1 2) Km (ZaX X.K)) (cQ il)))
 (hS2:PS X s2 (yP (tMk X cm E n C mi (fK (bG iw) (fK (bG ih) (fK (bG ihd) (fK (bG il) uy))))) (cQ iy)))(hlen:∀{as:List Slot},(∃r,mi as=r/\∀z,r=z->z≠ .bad)->as.length+1=n)
 (hS3:PS X s3 (VL X.K ihd))(hp:PassesOwn (model X.prog X.w) X.A X.env X.xe)(hc:X.calm=true)(hi:PI X tg iter (YT X.K (bG il)))(hg:PG X tg (g71 X.K i1 i2 i3))(hb:aB X body (VL X.K i3))
 (hS5:PS X s5 (VL X.K il))(h2:aB X rest (tS (kk X cm) E m2))(n1:iw≠il)(n2:ih≠il)(n3:ihd≠il)(n4:ihd≠iy)(n5:il≠iy)(n6:id≠ihd)(n7:il≠i1)(n8:il≠i2)(n9:il≠i3)(n10:i1≠iy)(n11:i2≠iy)(n12:i3≠iy)
 (hs:∀x,foldedSetIterable iter X.env x=pure x:=by intro _;rfl) :
 aB X (s1::s2::s3:: .For tg iter body [] pos::s5::rest) (tS (kk X cm) E (m71 iw ih id ihd il iy i1 i2 i3 C mi m2)):=
 aB.wk (ũ hS1 (ũ hS2 (ũ hS3 (ũ (yS hp hc hi hg hb hs) (ũ hS5 h2))))) λD σ H ⟨c,F,ρ,rel,h⟩=>by
  unfold m71 at h
  split at h
  ·rename_i w hh ps T e1 e2 e3 e4
   split at h
   ·rename_i ds hds
    split at h
    ·rename_i hcond
     obtain⟨z1,z2,z3,z4,z5,z6⟩:=hcond
     split at h
     ·rename_i ns qs em
      obtain⟨vw,x1,x2⟩:=rel.slot iw _ e1
      obtain⟨vh,y1,y2⟩:=rel.slot ih _ e2
      have lσ:= rel.len
      obtain⟨dl,dat⟩:=zZ hds
      refine V_ (Q:=λv H'=>cQ il v σ H' _) rel e3 hds z1 λF1 H1 pD tb F2 H2 ć sF1 md=>?_
      have e4':(ρ.set id (.sh (.lst ps)))[ihd]?=some (.ow T):=by rw[List.getElem?_set_ne n6];exact e4
      generalize Zed:ρ.set id (.sh (.lst ps))=ρ1 at *
      obtain⟨pT,us,t1,t2,t3,t4,t5,t6⟩:=ć.ow e4'
      have hs:=fun{a}=>md.some (a:=a)
      have hT1:H1 pT≠none:=by rw[t2];intro z;cases z
      have nT:∀a∈pD::tb.map (·.2),a≠pT:=λa ha z=>hT1 (z▸(md.new a ha).1)
      have ZaZ:=ć.call md.gr
      have t6':Ľ F2 σ ρ1 ihd pT:=by
       obtain⟨pT',us',q1,_,_,_,_,q6⟩:=ZaZ.ow e4'
       rw[t1] at q1
       cases q1
       exact q6
      obtain⟨ZdS,frT⟩:=ZaZ.move t6'
      have Za0:Rel (kk X cm) c F2 H2 (σ.set il (some (.ref pD))) (hid ρ1 il ihd i1 i2 i3):=(((ZdS.put (i:=il) (x:=some (.ref pD)) (s:=.no) rfl trivial).sJ (i:=i1) (s:=.no) rfl trivial).sJ (i:=i2) (s:=.no) rfl trivial).sJ (i:=i3) (s:=.no) rfl trivial
      have frA:∀a∈pT::pD::tb.map (·.2),Ź F2 (σ.set il (some (.ref pD))) (hid ρ1 il ihd i1 i2 i3) a:=λa ha=>by
       refine jU (jU (jU (fj ?_)))
       rcases List.mem_cons.mp ha with rfl|ha
       ·exact frT
       ·exact jU (ć.cB md.gr.f (ć.fresh (md.new a ha).1))
      have fA:∀a∈pT::pD::tb.map (·.2),F2 a=none/\c.B a=none/\H2 a≠none:=λa ha=>by
       rcases List.mem_cons.mp ha with rfl|ha
       ·exact⟨md.gr.out _ hT1 t3,t4,by rw[md.gr.h _ _ t2];intro z;cases z⟩
       ·exact⟨(md.new a ha).2,ć.base.free (md.new a ha).1,hs ha⟩
      have sF:=sF1.trans md.gr.f
      have args:Paired (ak (kk X cm) F2 H2) [.sh w,.sh hh,.bw T,.dw ds] [vw,vh,.ref pT,.ref pD]:=by
       refine .cons (x2.same sF w vw) (.cons (y2.same sF hh vh) (.cons ⟨pT,us,rfl,md.gr.h _ _ t2,(fA pT (by simp)).1,t5.same md.gr.f T us⟩ (.cons ⟨pD,tb.map (·.1),rfl,by rw[md.hd,List.map_map];rfl,(fA pD (by simp)).1,?_⟩ .nil)))
       have go:∀{tb':List (Addr×Addr)} {D':DL},(∀x∈tb',F2 x.2=none)->Paired (jP (kk X cm) F2 H2) tb' D'->Paired (λ(t:Addr) (d:List PV×List PV)=>∃xs b vs,F2 t=some (.tup (xs ++ [.ref b]))/\Ĉ (kk X cm) F2 d.1 xs/\(H2 b=some (.lst vs)/\F2 b=none)/\Ĉ (kk X cm) F2 d.2 vs) (tb'.map (·.1)) D':=by
        intro tb' D' hn hq
        induction hq with
        |nil=>exact .nil
        |@cons x d l m q t ih=>
         obtain⟨xs,vs,q1,q2,q3,q4⟩:=q
         exact .cons ⟨xs,x.2,vs,q1,q2,⟨q3,hn x (by simp)⟩,q4⟩ (ih λy hy=>hn y (List.mem_cons_of_mem _ hy))
       exact go (λx hx=>(fA x.2 (List.mem_cons_of_mem _ (List.mem_cons_of_mem _ (List.mem_map.mpr ⟨x,hx,rfl⟩)))).1) md.pr
      have Za1:(σ.set il (some (V.ref pD)))[il]?=some (some (.ref pD)):=List.getElem?_set_self (by rw[lσ];exact z4)
      refine⟨vw,aM (at_of x1) n1,vh,aM (at_of y1) n2,.ref pT,aM t1 n3,.ref pD,Za1,?_⟩
      refine DG (C:=C) (Q:=λv H'=>cQ iy v _ H' _) hlen Za0 args em λv F7 H7 gr r8 rv=>?_
      have r9:=r8.put (i:=iy) (x:=some v) (s:=.sh (.ins C ns qs)) rfl ⟨v,rfl,rv⟩
      have fr9:∀a∈pT::pD::tb.map (·.2),Ź F7 ((σ.set il (some (.ref pD))).set iy (some v)) ((hid ρ1 il ihd i1 i2 i3).set iy (.sh (.ins C ns qs))) a:=λa ha=>cA rfl (Za0.cB gr.f (frA a ha))
      have f7:∀a∈pT::pD::tb.map (·.2),F7 a=none:=λa ha=>gr.out a (fA a ha).2.2 (fA a ha).1
      have no1:∀s,((hid ρ1 il ihd i1 i2 i3).set iy (.sh (.ins C ns qs)))[i1]?=some s->s=.no:=mH (.inr n10) (mH (.inl rfl) (mH (.inl rfl) HS))
      have no2:∀s,((hid ρ1 il ihd i1 i2 i3).set iy (.sh (.ins C ns qs)))[i2]?=some s->s=.no:=mH (.inr n11) (mH (.inl rfl) HS)
      have no3:∀s,((hid ρ1 il ihd i1 i2 i3).set iy (.sh (.ins C ns qs)))[i3]?=some s->s=.no:=mH (.inr n12) HS
      have l3:i3<((σ.set il (some (V.ref pD))).set iy (some v)).length:=by rw[List.length_set,List.length_set,lσ];exact z6
      have Za2:=aM (x:=some v) Za1 n5
      have ZdT:=aM (x:=some v) (aM (x:=some (V.ref pD)) t1 n3) n4
      generalize (hid ρ1 il ihd i1 i2 i3).set iy (.sh (.ins C ns qs))=ρ3 at *
      have hT7:=gr.h _ _ (md.gr.h _ _ t2)
      refine⟨.ref pT,ZdT,.inl ⟨rfl,_,ŝ.of hT7⟩,pT,us,.non,rfl,rfl,hT7,by rw[<-t5.length,Ĝ];exact z2,?_⟩
      have r10:=r9.mG (o:=.lst (us ++ [.non])) (f7 pT (by simp)) t4 (fr9 pT (by simp))
      have hD8:upd H7 pT (.lst (us ++ [.non])) pD=some (.lst (tb.map λx=>.ref x.1)):=by rw[ĉ (nT pD (by simp))];exact gr.h _ _ md.hd
      have gk:tb.length=ds.length:=Paired.length md.pr
      refine⟨.ref pD,Za2,.inl ⟨pD,rfl,⟨_,ŝ.of hD8⟩,?_⟩⟩
      refine⟨λk m σ' H'=>k<=tb.length/\m=tb.length-k/\Rel (kk X cm) c F7 H' σ' ρ3/\i3 < σ'.length/\σ'[il]?=some (some (.ref pD))/\H' pD=some (.lst (tb.map λx=>.ref x.1))/\(∀(j:Nat) (x:Addr×Addr),k<=j->tb[j]?=some x->∃vs,H' x.2=some (.lst vs)/\vs.length<16777216)/\∀a∈pD::tb.map (·.2),Ź F7 σ' ρ3 a,⟨_,Nat.zero_le _,rfl,r10,l3,Za2,hD8,λj x _ hx=>?_,λa ha=>fr9 a (List.mem_cons_of_mem _ ha)⟩,?_⟩
      ·obtain⟨d,hd,xs,vs,k1,k2,k3,k4⟩:=aW md.pr hx
       have hxm:x.2∈pD::tb.map (·.2):=List.mem_cons_of_mem _ (List.mem_map.mpr ⟨x,List.mem_of_getElem? hx,rfl⟩)
       refine⟨vs,by rw[ĉ (nT x.2 hxm)];exact gr.h _ _ k3,?_⟩
       rw[<-k4.length]
       exact of_decide_eq_true (List.all_eq_true.mp z3 d (List.mem_of_getElem? hd))
      ·rintro k m σ4 H4 ⟨hle,rfl,r4,l4,q4,Xx,hv4,Xp⟩
       by_cases hlt:k<tb.length
       ·have hk:tb[k]?=some tb[k]:=List.getElem?_eq_getElem hlt
        have hu:(tb.map λx=>V.ref x.1)[k]?=some (.ref tb[k].1):=by rw[List.getElem?_map,hk];rfl
        refine .inr ⟨⟨_,.ref tb[k].1,ŝ.of Xx,hu⟩,_,λσ' H' z=>z,λx H5 hy=>?_⟩
        obtain⟨rfl,hx⟩:=hy
        have:=hx _ (ŝ.of Xx)
        rw[hu] at this
        cases this
        obtain⟨d,hd,xs,vs0,k1,k2,_,_⟩:=aW md.pr hk
        have hkm:tb[k].2∈pD::tb.map (·.2):=List.mem_cons_of_mem _ (List.mem_map.mpr ⟨tb[k],List.getElem_mem hlt,rfl⟩)
        obtain⟨p,hp⟩:∃p,ps[k]?=some p:=⟨_,List.getElem?_eq_getElem (by omega)⟩
        obtain⟨a,b,r,_,ed⟩:=dat k p hp
        rw[hd] at ed
        cases ed
        unfold Ĉ at k2
        obtain⟨v1,k2',rfl,_,k2⟩:=k2
        unfold Ĉ at k2
        obtain⟨v2,k2'',rfl,_,k2⟩:=k2
        unfold Ĉ at k2
        subst k2
        obtain⟨vs,hb4,hbl⟩:=hv4 k _ (Nat.le_refl _) hk
        refine⟨tb[k].1,[v1,v2,.ref tb[k].2],rfl,dh.of (r4.sub _ _ (gr.f _ _ k1)),rfl,v1,_,rfl,v2,_,rfl,.ref tb[k].2,_,rfl,rfl,?_⟩
        have rr:=((r4.put (i:=i1) (x:=some v1) (s:=.no) rfl trivial).put (i:=i2) (x:=some v2) (s:=.no) rfl trivial).put (i:=i3) (x:=some (.ref tb[k].2)) (s:=.no) rfl trivial
        have frr:∀a∈pD::tb.map (·.2),Ź F7 (((σ4.set i1 (some v1)).set i2 (some v2)).set i3 (some (.ref tb[k].2))) (((ρ3.set i1 .no).set i2 .no).set i3 .no) a:=λa ha=>fj (fj (fj (Xp a ha)))
        rw[z_ no1,z_ no2,z_ no3] at rr frr
        refine⟨.ref tb[k].2,List.getElem?_set_self (by rw[List.length_set,List.length_set];exact l4),.inl ⟨rfl,_,ŝ.of hb4⟩,tb[k].2,vs,.non,rfl,rfl,hb4,by rw[Ĝ];exact hbl,?_⟩
        have r5:=rr.mG (o:=.lst (vs ++ [.non])) (f7 _ (List.mem_cons_of_mem _ hkm)) (fA _ (List.mem_cons_of_mem _ hkm)).2.1 (frr _ hkm)
        refine⟨tb.length-(k+1),by omega,hlt,rfl,r5,by simpa using l4,aM (aM (aM q4 n7) n8) n9,?_,λj x hj hx=>?_,frr⟩
        ·rw[ĉ (Ne.symm (mZ md.nd (List.mem_map.mpr ⟨tb[k],List.getElem_mem hlt,rfl⟩)))]
         exact Xx
        ·obtain⟨ws,w1,w2⟩:=hv4 j x (by omega) hx
         refine⟨ws,?_,w2⟩
         have nd2:=(List.nodup_cons.mp md.nd).2
         have hjl:j<tb.length:=by
          obtain⟨h,_⟩:=List.getElem?_eq_some_iff.mp hx
          exact h
         have:x.2≠tb[k].2:=λz=>by
          have e1:(tb.map (·.2))[j]?=(tb.map (·.2))[k]?:= by rw[List.getElem?_map,List.getElem?_map,hx,hk];exact congrArg some z
          have:=(List.getElem?_inj (by simpa using hjl) nd2).mp e1
          omega
         rw[ĉ this]
         exact w1
       ·have ek:k=tb.length:=by omega
        refine .inl ⟨⟨_,ŝ.of Xx,by simp;omega⟩,?_⟩
        refine⟨.ref pD,q4,.inl ⟨rfl,_,ŝ.of Xx⟩,pD,_,.non,rfl,rfl,Xx,by rw[List.length_map,gk,dl,Ĝ];exact z1,?_⟩
        have r6:=r4.mG (o:=.lst ((tb.map λx=>V.ref x.1) ++ [.non])) (f7 pD (by simp)) (fA pD (by simp)).2.1 (Xp pD (by simp))
        exact⟨c,F7,ρ3,r6,ş.mono h (sF.trans gr.f)⟩
     ·exact h.elim
    ·exact h.elim
   ·exact h.elim
  ·exact h.elim
end
end P
namespace My
end My
namespace Hu
abbrev Pt:=Int×Int
def tn(a b c:Pt):Int:=(b.1-a.1)*(c.2-a.2)-(b.2-a.2)*(c.1-a.1)
section
variable{S:List Pt}{p:Pt}
end
abbrev Ln:=Int×Int×Int
def hd(l:Ln)(p:Pt):Bool:=decide (l.1*p.1+l.2.1*p.2<=l.2.2)
def at_(S:List Pt)(i:Nat):Pt:=S.getD i (0,0)
structure Z2G(S:List Pt)(p:Pt)(w:List Int)(q:List Nat):Prop where
 len:w.length=q.length
 sum:w.sum≠0
 sign:∀s∈w,0<=s*w.sum
 nd:q.Nodup
 lt:∀i∈q,i<S.length
 x:((w.zip q).map λa=>a.1*(at_ S a.2).1).sum=w.sum*p.1
 y:((w.zip q).map λa=>a.1*(at_ S a.2).2).sum=w.sum*p.2
end Hu
namespace Fr
end Fr
namespace T
open PySem L2 M2 M3 M4 P
noncomputable section
def top(i:Nat):Stmt:=PySem.Challenge.pw_shadowpost_k71_yards_read_and_shown.main.body.getD i (.Pass ⟨0,0,0,0⟩)
abbrev Nu:Stmt:=top 58
abbrev Za3:Stmt:=top 59
abbrev Nv:Stmt:=top 63
abbrev Za4:Stmt:=top 64
abbrev Nz:Stmt:=top 57
abbrev NK:Stmt:=top 65
abbrev NP:Stmt:=top 60
abbrev NQ:Stmt:=top 66
abbrev Za5:Stmt:=top 61
abbrev Za6:Stmt:=top 62
abbrev NT:Stmt:=top 31
abbrev NZ:Stmt:=top 32
abbrev N_:Stmt:=top 34
abbrev Oa:Stmt:=top 43
abbrev Ob:Stmt:=top 44
abbrev Oc:Stmt:=top 48
abbrev Wa:Stmt:=inClass (top 41) 0
abbrev Od:Stmt:=top 7
abbrev Oe:Stmt:=top 47
abbrev Og:Stmt:=top 51
abbrev Oh:Stmt:=top 33
abbrev Oi:Stmt:=top 46
abbrev HX:Stmt:=top 50
abbrev Oj:Stmt:=top 11
abbrev Ol:Stmt:=top 12
abbrev Om:Stmt:=top 14
abbrev Za7:Stmt:=inClass (top 19) 0
abbrev Za8:Stmt:=top 15
abbrev Oo:Stmt:=top 16
abbrev Za9:Stmt:=top 17
abbrev Za_:Stmt:=top 13
abbrev Oq:Stmt:=top 18
abbrev Ot:Stmt:=top 25
abbrev Ou:Stmt:=top 45
abbrev Ov:Stmt:=top 49
abbrev Ow:Stmt:=top 52
abbrev Ox:Stmt:=top 53
abbrev Zba:Stmt:=inClass (top 19) 1
abbrev Oz:Stmt:=top 67
abbrev OD:Stmt:=top 54
abbrev OJ:Stmt:=top 55
abbrev HY:Stmt:=top 68
def cmB(c0:Addr)(c1:Addr)(c2:Addr)(c3:Addr)(c4:Addr)(c5:Addr)(c6:Addr):String->Addr:=λs=>match s with
 | "Thing" =>c0
 | "Post" =>c1
 | "Fence" =>c2
 | "Sail" =>c3
 | "Cloth" =>c4
 | "House" =>c5
 | "Yard" =>c6
 |_=>0
def jw:M Fl:=(Ě (Kz (gS 2 (ĵ (gN 7) (ĵ (gN 8) gF))) (bT cV (ă (Ā 3) (ă (mC (.int 4099)) Ė))))
 (ĸ 3 (ż (Ą Ġ (Č (Ĥ ě (Č (Ĥ ě (Č (Ĥ ě (Ą Ĺ (Ā 8) (mC (.int 240007))) (Ą Ĺ (Ā 7) (mC (.int 89))))) (Ą Ĺ (mC (.int 1201)) (bT eZ (ă (Ā 2) Ė))))) (mC (.int 11)))) (mC (.int 998244353))))))
def qe:M Fl:=(Ž (bL (Ą Ds (bT eZ (ă (Ā 2) Ė)) (Ā 1)))
 (Ě (nQ (cD dO (ă (mC (.int 2)) Ė)) (gN 5) jw)
 (nP 2 (Ą aq (Ā 3) (mC (.int 5))))))
def qg:M Fl:=(Ě (Kz (gS 2 (ĵ (gN 3) (ĵ (gN 6) gF))) (bT cV (ă (Ā 3) (ă (Ą iM (mC (.int 10)) (mC (.int 9))) Ė))))
 (nP 2 (ė 6)))
def Aa:M Fl:=(Ě (ĸ 2 (b_ Ė))
 (Ě (ĸ 3 (ż (Ą aq (Ā 0) (mC (.int 2)))))
 (Ě (nQ (cD dO (ă (Ą Ĺ (Ā 1) (Ą aQ (mC (.int 1)) (Ą Ġ (Ā 0) (mC (.int 2))))) Ė)) (gN 4) qg)
 (Ě (ĸ 3 (Ĥ ě (Ą Ġ (Ā 3) (mC (.int 998244341))) (mC (.int 5))))
 (Ě qe
 (Į (iH 2)))))))
def iU:MF:=Ŏ 2 9 Aa
def jV:M Fl:=(Ě (ĸ 3 (ę iU (Ċ 0 (ġ (mC (.int 11)) ē))))
 (Ě (ĸ 4 (ż (Ą aQ (Ą Ġ (Ą Ğ (Ā 3) (mC (.int 1))) (Č (Ĥ ě (Ą Ĺ (mC (.int 2)) (Ā 1)) (mC (.int 7))))) (mC (.int 4)))))
 (Ě (ĸ 5 (ż (Ą aQ (Ą Ġ (Ą Ğ (Ā 3) (mC (.int 2))) (Č (Ĥ ě (Ą Ĺ (mC (.int 2)) (Ā 2)) (mC (.int 7))))) (mC (.int 4)))))
 (Ě (ĸ 6 (Ĥ ě (Č (Ĥ ě (Ā 4) (mC (.int 1)))) (Ą Ġ (Ą Ğ (Ā 3) (mC (.int 3))) (mC (.int 5)))))
 (Ě (ĸ 7 (Ĥ ě (Č (Ĥ ě (Ā 5) (mC (.int 1)))) (Ą Ġ (Ą Ğ (Ā 3) (mC (.int 4))) (mC (.int 5)))))
 (Ě (ĸ 8 (Ĥ ě (mC (.int 1)) (Ą Ġ (Ą Ğ (Ā 3) (mC (.int 5))) (mC (.int 8)))))
 (Ě (dJ (bL (Ą ķ (Ą Ġ (Ą Ğ (Ā 3) (mC (.int 6))) (mC (.int 8))) (mC (.int 5))))
 (ĸ 8 (ż (Ą aQ (Ą iM (mC (.int 10)) (mC (.int 9))) (Ą Ġ (Ą Ğ (Ā 3) (mC (.int 5))) (mC (.int 1000))))))
 fQ)
 (Ě (dJ (bL (Ą ķ (Ą Ġ (Ą Ğ (Ā 3) (mC (.int 0))) (mC (.int 5))) (mC (.int 0))))
 (Į (b_ (ă (mC (.str "post")) (ă (Ą aQ (Ą Ġ (Ą Ğ (Ā 3) (mC (.int 1))) (Č (Ĥ ě (Ā 1) (mC (.int 2))))) (mC (.int 1))) (ă (Ą aQ (Ą Ġ (Ą Ğ (Ā 3) (mC (.int 2))) (Č (Ĥ ě (Ā 2) (mC (.int 2))))) (mC (.int 1))) (ă (ė 8) Ė))))))
 fQ)
 (Ě (dJ (bL (Ą ķ (Ą Ġ (Ą Ğ (Ā 3) (mC (.int 0))) (mC (.int 5))) (mC (.int 1))))
 (Ě (ĸ 10 (ż (Ą Ğ (Č (b_ (ă (jm (ă (ė 6) (ă (ė 5) Ė))) (ă (jm (ă (ė 6) (ă (ė 7) Ė))) (ă (jm (ă (ė 4) (ă (ė 7) Ė))) (ă (jm (ă (Ą aQ (Ā 4) (mC (.int 2))) (ă (ė 7) Ė))) Ė)))))) (Ą Ġ (Ą Ğ (Ā 3) (mC (.int 7))) (mC (.int 4))))))
 (Į (b_ (ă (mC (.str "fence")) (ă (ė 4) (ă (ė 5) (ă (Ą Ğ (Ā 10) (mC (.int 0))) (ă (Ą Ğ (Ā 10) (mC (.int 1))) (ă (ė 8) Ė)))))))))
 fQ)
 (Ě (dJ (bL (Ą ķ (Ą Ġ (Ą Ğ (Ā 3) (mC (.int 0))) (mC (.int 5))) (mC (.int 2))))
 (Į (b_ (ă (mC (.str "sail")) (ă (ė 4) (ă (ė 5) (ă (ė 6) (ă (ė 7) (ă (ė 8) Ė))))))))
 fQ)
 (Ě (dJ (bL (Ą ķ (Ą Ġ (Ą Ğ (Ā 3) (mC (.int 0))) (mC (.int 5))) (mC (.int 3))))
 (Į (b_ (ă (mC (.str "house")) (ă (ė 4) (ă (ė 5) (ă (ė 6) (ă (ė 7) (ă (ė 8) Ė))))))))
 fQ)
 (Ě (ĸ 9 (ż (Ą Ĺ (Ą Ġ (Ą Ğ (Ā 3) (mC (.int 10))) (mC (.int 7))) (Ą Ġ (Ą Ğ (Ā 3) (mC (.int 6))) (mC (.int 2))))))
 (Į (b_ (ă (mC (.str "cloth")) (ă (ė 4) (ă (ė 5) (ă (Ą Ġ (Ą Ğ (Ā 3) (mC (.int 5))) (mC (.int 7))) (ă (ė 6) (ă (Č (Ĥ ě (Ą aQ (Ā 5) (mC (.int 2))) (Ą Ġ (Ą Ğ (Ā 3) (mC (.int 7))) (mC (.int 5))))) (ă (Ą Ġ (Ą Ğ (Ā 3) (mC (.int 8))) (mC (.int 7))) (ă (Č (Ĥ ě (Ą aQ (Ā 4) (mC (.int 3))) (Ą Ġ (Ą Ğ (Ā 3) (mC (.int 9))) (mC (.int 7))))) (ă (ė 7) (ă (ė 9) Ė))))))))))))))))))))))))
def qj:MF:=Ŏ 3 11 jV
def Ő:M Fl:=(Ě (nP 2 (Ą Ğ (Ā 0) (Ā 3)))
 (dJ (jM (bL (Ą ķ (Ą Ġ (Ā 1) (mC (.int 7))) (mC (.int 3)))) (jM (gB (bL (Ą ž (Ą Ğ (Ā 0) (mC (.int 0))) (mC (.str "cloth")))) (bL (Ą ž (Ą Ġ (Ā 3) (mC (.int 3))) (mC (.int 0))))) (gB (bL (Ą Ds (Ā 3) (mC (.int 3)))) (bL (Ą ķ (Ą Ğ (Ā 0) (mC (.int 0))) (mC (.str "cloth")))))))
 (zB 2 (ė 3) (Ą aQ (Č (Ĥ ě (Ą Ğ (Ā 0) (Ā 3)) (Ą Ĺ (Ą Ġ (Ą aq (Ā 1) (mC (.int 7))) (mC (.int 1999))) (Ą iM (mC (.int 10)) (mC (.int 6)))))) (Ą Ĺ (mC (.int 999)) (Ą iM (mC (.int 10)) (mC (.int 6))))))
 fQ))
def Ab:M Fl:=(Ě (ĸ 2 (b_ (ă (Ą Ğ (Ā 0) (mC (.int 0))) Ė)))
 (Ě (nQ (cD wN (ă (mC (.int 1)) (ă (bT eZ (ă (Ā 0) Ė)) Ė))) (gN 3) Ő)
 (Į (iH 2))))
def tY:MF:=Ŏ 2 4 Ab
def ql:M Fl:=(Ě (ĸ 5 (ż (bT zL (ă (Ā 4) Ė))))
 (Ě (ĸ 6 (ę qj (Ċ 5 (Ċ 1 (Ċ 2 ē)))))
 (Ě (dJ (gB (bL (Ą ķ (Ą Ğ (Ā 6) (mC (.int 0))) (mC (.str "post")))) (bL (Ą ķ (Ą Ğ (Ā 6) (mC (.int 0))) (mC (.str "cloth")))))
 (ĸ 6 (ę tY (Ċ 6 (Ċ 5 ē))))
 fQ)
 (nP 3 (ė 6)))))
def O_:M Fl:=(Ě (ĸ 3 (b_ Ė))
 (Ě (nQ (Ů (Č (lO (Ā 0) (mP (mC (.int 3))) (mP (mC (.int 43)))))) (gN 4) ql)
 (Į (iH 3))))
def Lx:MF:=Ŏ 3 7 O_
def H_:M Fl:=(Į (ż (bT zL (ă (Ā 2) Ė))))
def Ac:M Fl:=(Ě (nQ (Ů (Č (lO (Ā 0) (mP (ė 1)) (mP (Č (Ĥ ě (Ā 1) (mC (.int 1)))))))) (gN 2) H_)
 (Į (ż (mC (.int 0)))))
def m_:MF:=Ŏ 2 3 Ac
def vp:M Fl:=(Ě (ĸ 2 (ż (mC (.str "qwertyuiopasdfghjklzxcvbnm"))))
 (Ě (dJ (bL (Ą ķ (Ą Ġ (Ā 0) (mC (.int 3))) (mC (.int 2))))
 (Ě (ĸ 4 (b_ (ă (mC (.str "night")) (ă (mC (.str "ray")) (ă (mC (.str "day")) (ă (mC (.str "yard")) (ă (mC (.str "post")) (ă (mC (.str "fence")) (ă (mC (.str "sail")) (ă (mC (.str "cloth")) (ă (mC (.str "house")) (ă (mC (.str "none")) (ă (mC (.str "off")) (ă (mC (.str "marks")) Ė))))))))))))))
 (Į (lO (Č (Ĥ ě (Č (lO (Ā 4) (mP (Ą Ġ (Ą aq (Ā 0) (mC (.int 3))) (mC (.int 12)))) cG)) (Č (lO (Ā 4) cG (mP (Ą Ġ (Ą aq (Ā 0) (mC (.int 3))) (mC (.int 12)))))))) cG (mP (ė 1)))))
 fQ)
 (Ě (dJ (bL (Ą ķ (Ą Ġ (Ā 0) (mC (.int 2))) (mC (.int 0))))
 (Ě (ĸ 5 (ż (Ą Ğ (Ā 2) (Ą Ġ (Ą aq (Ā 0) (mC (.int 2))) (mC (.int 26))))))
 (Ě (ĸ 6 (ż (Ą Ğ (Ā 2) (Ą Ġ (Č (Ĥ ě (Ą aq (Ā 0) (mC (.int 2))) (mC (.int 1)))) (mC (.int 26))))))
 (Į (Œ [5,6] 1 (cD dO (ă (ė 1) Ė)) (gN 2) Ķ (Č (Ĥ ě (Ą Ĺ (Ā 0) (Č (Ĥ ě (mC (.int 1)) (Ą Ġ (Ā 2) (mC (.int 8)))))) (Ą Ĺ (Ā 1) (Ą aq (Ā 2) (mC (.int 8))))))))))
 fQ)
 (Ě (ĸ 3 (ż (Ą Ġ (Ą aq (Ā 0) (mC (.int 2))) (mC (.int 7)))))
 (Į (Œ [2,3,0] 1 (cD dO (ă (ė 1) Ė)) (gN 3) Ķ (Č (Ĥ ě (Č (Ĥ ě (Č (lO (mC (.str "night")) cG (mP (ė 1)))) (Ą Ğ (Ā 0) (Ą Ġ (Č (Ĥ ě (Ą aq (Ā 2) (mC (.int 14))) (Ā 3))) (mC (.int 26)))))) (Č (lO (mC (.str "ray")) cG (mP (Ą Ġ (Ā 1) (mC (.int 3))))))))))))))
def tZ:MF:=Ŏ 2 7 vp
def vq:M Fl:=(Ě (ĸ 1 (ę iU (Ċ 0 (ġ (mC (.int 4)) ē))))
 (Ě (dJ (bL (Ą ķ (Ą Ġ (Ą Ğ (Ā 1) (mC (.int 3))) (mC (.int 6))) (mC (.int 4))))
 (Į (ż (mC .non)))
 fQ)
 (Ě (dJ (bL (Ą ķ (Ą Ġ (Ą Ğ (Ā 1) (mC (.int 3))) (mC (.int 6))) (mC (.int 5))))
 (Į (ż (jm (ă (Ą aQ (Ą Ġ (Ą Ğ (Ā 1) (mC (.int 0))) (mC (.int 2000001))) (mC (.int 1000000))) (ă (Ą aQ (Ą Ġ (Ą Ğ (Ā 1) (mC (.int 1))) (mC (.int 2000001))) (mC (.int 1000000))) (ă (Č (Ĥ ě (mC (.int 1)) (Ą Ġ (Ą Ğ (Ā 1) (mC (.int 2))) (mC (.int 1000000))))) Ė))))))
 fQ)
 (Į (ż (jm (ă (Ą aQ (Ą Ġ (Ą Ğ (Ā 1) (mC (.int 0))) (mC (.int 7))) (mC (.int 3))) (ă (Ą aQ (Ą Ġ (Ą Ğ (Ā 1) (mC (.int 1))) (mC (.int 7))) (mC (.int 3))) (ă (Č (Ĥ ě (mC (.int 1)) (Ą Ġ (Ą Ğ (Ā 1) (mC (.int 2))) (mC (.int 3))))) Ė)))))))))
def qm:MF:=Ŏ 1 2 vq
def qt:M Fl:=(Ě (ĸ 6 (ę iU (ġ (Č (Ĥ ě (Ā 1) (Ą Ĺ (Ą Ĺ (mC (.int 7919)) (Ā 5)) (Ā 5)))) (ġ (mC (.int 3)) ē))))
 (Ě (ĸ 7 (ż (Ą Ğ (Č (b_ (ă (mC (.int 1)) (ă (mC (.int 365)) (ă (Ą iM (mC (.int 10)) (mC (.int 9))) (ă (Č (Ĥ ě (mC (.int 1)) (Ą Ġ (Ą Ğ (Ā 6) (mC (.int 0))) (Ą iM (mC (.int 10)) (mC (.int 9)))))) Ė)))))) (Ą Ġ (Ą Ğ (Ā 6) (mC (.int 1))) (mC (.int 4))))))
 (Ě (ĸ 8 (Œ [6] 1 (cD dO (ă (Č (Ĥ ě (mC (.int 1)) (Ą Ġ (Ą aq (Ą Ğ (Ā 6) (mC (.int 0))) (mC (.int 9))) (mC (.int 24))))) Ė)) (gN 1) Ķ (Č (ę qm (ġ (Č (Ĥ ě (Č (Ĥ ě (Ą Ğ (Ā 0) (mC (.int 2))) (Ą Ĺ (Ą Ĺ (mC (.int 101)) (Ā 1)) (Ā 1)))) (Ā 1))) ē)))))
 (nP 4 (jm (ă (Ą Ğ (Ā 3) (Ā 5)) (ă (ė 7) (ă (ė 8) Ė))))))))
def Ia:M Fl:=(Ě (ĸ 1 (ę m_ (Ċ 0 (ġ (mC (.int 1)) ē))))
 (Ě (ĸ 2 (ż (Ą Ġ (Č (ę m_ (Ċ 0 (ġ (mC (.int 2)) ē)))) (mC (.int 13)))))
 (Ě (ĸ 3 (ę tZ (Ċ 1 (Ċ 2 ē))))
 (Ě (ĸ 4 (b_ Ė))
 (Ě (nQ (cD dO (ă (ė 2) Ė)) (gN 5) qt)
 (Į (iH 4)))))))
def Ce:MF:=Ŏ 1 9 Ia
def Pa:M Fl:=(Į (ż (JD gM (mC (.str " ")) (ă (Č (Œ [] 1 (Ň 0) (gN 0) Ķ (bT bV (ă (Ā 0) Ė)))) Ė))))
def mJ:MF:=Ŏ 1 1 Pa
def t_:M Fl:=(dJ (bL (Ą uQ (Ā 8) (mC .non)))
 (nP 4 (mC (.str "night")))
 (nP 4 (Č (ę mJ (ġ (Č (Ĥ ě (Č (b_ (ă (mC (.str "ray")) Ė))) (Č (lJ cU (ă (Ā 8) Ė))))) ē)))))
def Cg:M Fl:=(Ě (nP 4 (Č (ę mJ (ġ (Č (b_ (ă (mC (.str "day")) (ă (ė 5) (ă (ė 6) Ė))))) ē))))
 (nQ (Ň 7) (gN 8) t_))
def Pb:M Fl:=(Ě (ĸ 4 (Ĥ ě (Č (b_ (ă (Č (ę mJ (ġ (Č (b_ (ă (mC (.str "yard")) (ă (ė 0) (ă (ė 1) Ė))))) ē))) Ė))) (Č (Œ [] 1 (Ň 2) (gN 0) Ķ (Č (ę mJ (Ċ 0 ē)))))))
 (Ě (nQ (Ň 3) (gT 3 (ĵ (gN 5) (ĵ (gN 6) (ĵ (gN 7) gF)))) Cg)
 (Į (ż (JD gM (mC (.str "\n")) (ă (Ā 4) Ė))))))
def Ly:MF:=Ŏ 4 9 Pb
def vA:M Fl:=(Į (ż (eU (pH fZ fZ (mC (.int 1)) (bT eZ (ă (Ā 0) Ė)) (Ā 2)) (bT lV (ă (Č (Œ [1] 1 (Ň 0) (gN 1) Ķ (Ą JG (Ā 1) (Ā 0)))) Ė)))))
def qu:MF:=Ŏ 3 3 vA
def vB:M Fl:=(Ě (ĸ 1 (dJ (cC (JD jN (Ā 0) (ă (mC (.str "-")) Ė))) (lO (Ā 0) (mP (mC (.int 1))) cG) (ż (ė 0))))
 (Ě (dJ (cT (cC (Č (ę qu (Ċ 1 (ġ (mC (.str "0123456789")) (ġ (mC (.int (10))) ē)))))))
 (Į (ż (mC (.bl false))))
 fQ)
 (Į (ż (Uk (Ą ķ (Ā 0) (mC (.str "0"))) (Ul (JD jN (Ā 1) (ă (mC (.str "0")) Ė))))))))
def jW:MF:=Ŏ 1 2 vB
def Ib:M Fl:=(Ě (dJ (cC (bT lV (ă (Č (Œ [] 1 (Ň 0) (gN 0) Ķ (Č (ę jW (Ċ 0 ē))))) Ė)))
 (Į (Œ [] 1 (Ň 0) (gN 0) Ķ (bT jQ (ă (Ā 0) Ė))))
 fQ)
 (Į (ż (mC .non))))
def Ci:MF:=Ŏ 1 1 Ib
def Ie:M Fl:=(Ě (ĸ 2 (ę Ci (Ċ 0 ē)))
 (Ě (dJ (bL (Ą uQ (Ā 2) (mC .non)))
 iC
 fQ)
 (Į (iH 2))))
def qw:MF:=Ŏ 2 3 Ie
def Ig:M Fl:=(Ě (dJ (gB (bL (Ą ž (Ą Ğ (Ā 0) (mC (.int 0))) (mC (.str "yard")))) (bL (Ą ž (bT eZ (ă (Ā 0) Ė)) (mC (.int 3)))))
 iC
 fQ)
 (Ě (ĸ 2 (ę qw (ġ (Č (lO (Ā 0) (mP (mC (.int 1))) cG)) (Ċ 1 ē))))
 (Ě (dJ (cT (cC (bT lV (ă (Č (Œ [] 1 (Ň 2) (gN 0) Ķ (pH fZ fZ (mC (.int 1)) (Ā 0) (mC (.int (20)))))) Ė))))
 iC
 fQ)
 (Į (iH 2)))))
def Cj:MF:=Ŏ 2 3 Ig
def vC:M Fl:=(Į (ż (eU (Ą KR (pY 0) (mC (.int 0))) (Ą ķ (xu 0) (mC (.int 0))))))
def nj:MF:=Ŏ 1 1 vC
def Ih:M Fl:=(Ě (iQ 0 ["Yard"] "width" (ė 1))
 (Ě (iQ 0 ["Yard"] "height" (ė 2))
 (Ě (iQ 0 ["Yard"] "things" (Č (lJ cU (ă (Ā 3) Ė))))
 (iQ 0 ["Yard"] "days" (Č (mEi (Vp 4) (mz [] 3 (mD 4) (gD 0 1 2) Ķ (jm (ă (ė 0) (ă (ė 1) (ă (Č (lJ cU (ă (Ā 2) Ė))) Ė))))) (Œ [] 3 (Ň 4) (gT 3 (ĵ (gN 0) (ĵ (gN 1) (ĵ (gN 2) gF)))) Ķ (jm (ă (ė 0) (ă (ė 1) (ă (Č (lJ cU (ă (Ā 2) Ė))) Ė)))))))))))
def fB:MI:=cX 5 5 "Yard" Ih
def Ii:M Fl:=(Į (ż (eU (Ą fZ (bT zL (ă (Ą Ğ (Ā 0) (mC (.int 0))) Ė)) (mC (.int (1000000)))) (eU (Ą fZ (bT zL (ă (Ą Ğ (Ā 0) (mC (.int 1))) Ė)) (mC (.int (1000000)))) (pH fZ fZ (mC (.int 1)) (Ą Ğ (Ā 0) (mC (.int 2))) (mC (.int (1000000))))))))
def Ck:MF:=Ŏ 1 1 Ii
def Ad:M Fl:=(Ě (dJ (bL (Ą ķ (Ā 0) (Č (b_ (ă (mC (.str "night")) Ė)))))
 (Į (ż (mC .non)))
 fQ)
 (Ě (dJ (gB (bL (Ą ž (Ą Ğ (Ā 0) (mC (.int 0))) (mC (.str "ray")))) (bL (Ą ž (bT eZ (ă (Ā 0) Ė)) (mC (.int 4)))))
 iC
 fQ)
 (Ě (ĸ 2 (ż (bT pP (ă (Č (ę qw (ġ (Č (lO (Ā 0) (mP (mC (.int 1))) cG)) (Ċ 1 ē)))) Ė))))
 (Ě (dJ (cT (cC (Č (ę Ck (Ċ 2 ē)))))
 iC
 fQ)
 (Į (iH 2))))))
def xQ:MF:=Ŏ 2 3 Ad
def Ij:M WR:=(mF (gB (bL (Ą ķ (pY 2) (mC (.int 0)))) (bL (Ą ķ (xu 2) (mC (.int (24)))))) iC (xr 2 (Č (ę xQ (Ċ 0 (Ċ 1 ē))))))
def Cm:MW:=cY 3 3 Ij
def Ik:M Fl:=(Į (ę qu (Ċ 0 (ġ (mC (.str "abcdefghijklmnopqrstuvwxyz")) (ġ (mC (.int (8))) ē)))))
def Cp:MF:=Ŏ 1 1 Ik
def Il:M Fl:=(Ě (dJ (gB (bL (Ą ž (bT eZ (ă (Ā 0) Ė)) (mC (.int 3)))) (cT (cC (Č (ę Cp (ġ (Ą Ğ (Ā 0) (mC (.int 1))) ē))))))
 iC
 fQ)
 (Ě (ĸ 2 (ż (Ą Ğ (Č (ę qw (ġ (Č (lO (Ā 0) (mP (mC (.int 2))) cG)) (Ċ 1 ē)))) (mC (.int 0)))))
 (Ě (dJ (cT (bL (pH fZ fZ (mC (.int 1)) (Ā 2) (mC (.int (1000000000))))))
 iC
 fQ)
 (Į (Hj (uX (Ą Ğ (Ā 0) (mC (.int 1))) (uX (ė 2) (Hi (b_ Ė)))))))))
def Cq:MF:=Ŏ 2 3 Il
def Im:M WR:=(mF (gB (cC (Č (ę nj (Ċ 2 ē)))) (bL (Ą ķ (pY 2) (mC (.int (12)))))) iC (Hr 3 (ę Cq (Ċ 0 (Ċ 1 ē))) (mF (wY 3 (bL (Ą JG (Ą Ğ (Ā 3) (mC (.int 0))) (Č (mz [] 3 (mD 2) (gD 0 1 2) Ķ (ė 0)))))) iC (xq 2 3))))
def Cr:MW:=cY 3 4 Im
def Io:M Fl:=(Į (ż (pH fZ fZ (wj Br (mC (.int (1000000000)))) (Ā 0) (mC (.int (1000000000))))))
def nq:MF:=Ŏ 1 1 Io
def Ip:M Fl:=(Į (ż (pH fZ fZ (mC (.int 1)) (Ā 0) (mC (.int (1000000000))))))
def xR:MF:=Ŏ 1 1 Ip
def Ae:M Fl:=(Į (ż (eU (Ą ķ (bT eZ (ă (Ā 0) Ė)) (mC (.int 3))) (eU (Č (ę nq (ġ (Ą Ğ (Ā 0) (mC (.int 0))) ē))) (eU (Č (ę nq (ġ (Ą Ğ (Ā 0) (mC (.int 1))) ē))) (Č (ę xR (ġ (Ą Ğ (Ā 0) (mC (.int 2))) ē))))))))
def xT:MF:=Ŏ 1 1 Ae
def fV:M Fl:=(Ě (iQ 0 ["Thing","Post","Fence","Sail","Cloth","House"] "word" (ė 1))
 (iQ 0 ["Thing","Post","Fence","Sail","Cloth","House"] "numbers" (Č (lJ cU (ă (Ā 2) Ė)))))
def vD:MI:=cX 3 3 "Post" fV
def qy:MI:=cX 3 3 "Fence" fV
def vG:MI:=cX 3 3 "Sail" fV
def qz:MI:=cX 3 3 "Cloth" fV
def qC:MI:=cX 3 3 "House" fV
def Ir:M Fl:=(Į (ż (eU (Ą ķ (bT eZ (ă (Ā 0) Ė)) (mC (.int 5))) (eU (bT lV (ă (Č (Œ [] 1 (Ů (Č (lO (Ā 0) cG (mP (mC (.int 4)))))) (gN 0) Ķ (Č (ę nq (Ċ 0 ē))))) Ė)) (Č (ę xR (ġ (Ą Ğ (Ā 0) (mC (.int 4))) ē)))))))
def DR:MF:=Ŏ 1 1 Ir
def Af:M Fl:=(Į (ż (eU (Č (ę DR (Ċ 0 ē))) (Ą ž (Č (lO (Ā 0) cG (mP (mC (.int 2))))) (Č (lO (Ā 0) (mP (mC (.int 2))) (mP (mC (.int 4)))))))))
def xU:MF:=Ŏ 1 1 Af
def Iu:M Fl:=(Į (ż (eU (Č (ę DR (Ċ 0 ē))) (eU (Ą Ds (Ą Ğ (Ā 0) (mC (.int 0))) (Ą Ğ (Ā 0) (mC (.int 2)))) (Ą Ds (Ą Ğ (Ā 0) (mC (.int 1))) (Ą Ğ (Ā 0) (mC (.int 3))))))))
def DW:MF:=Ŏ 1 1 Iu
def Ph:M Fl:=(Į (ż (eU (Č (ę nq (ġ (Ą Ğ (Ā 0) (mC (.int 0))) ē))) (eU (Č (ę nq (ġ (Ą Ğ (Ā 0) (mC (.int 1))) ē))) (pH fZ fZ (mC (.int 0)) (Ą Ğ (Ā 0) (mC (.int 2))) (mC (.int (1000000000))))))))
def Lz:MF:=Ŏ 1 1 Ph
def Ag:M Fl:=(Į (ż (eU (Ą ķ (bT eZ (ă (Ā 0) Ė)) (mC (.int 9))) (bT lV (ă (Č (Œ [0] 1 (Ů (jm (ă (mC (.int 0)) (ă (mC (.int 3)) (ă (mC (.int 6)) Ė))))) (gN 1) Ķ (Č (ę Lz (ġ (Č (lO (Ā 0) (mP (ė 1)) (mP (Č (Ĥ ě (Ā 1) (mC (.int 3))))))) ē))))) Ė)))))
def xV:MF:=Ŏ 1 1 Ag
def jx:M Fl:=(Ě (dJ (jM (bL (Ą ķ (Ā 0) (mC (.str "post")))) (cC (Č (ę xT (Ċ 1 ē)))))
 (Į (ż (cI "Post" vD (Ċ 0 (Ċ 1 ē)))))
 fQ)
 (Ě (dJ (jM (bL (Ą ķ (Ā 0) (mC (.str "fence")))) (cC (Č (ę xU (Ċ 1 ē)))))
 (Į (ż (cI "Fence" qy (Ċ 0 (Ċ 1 ē)))))
 fQ)
 (Ě (dJ (jM (bL (Ą ķ (Ā 0) (mC (.str "sail")))) (cC (Č (ę DW (Ċ 1 ē)))))
 (Į (ż (cI "Sail" vG (Ċ 0 (Ċ 1 ē)))))
 fQ)
 (Ě (dJ (jM (bL (Ą ķ (Ā 0) (mC (.str "cloth")))) (cC (Č (ę xV (Ċ 1 ē)))))
 (Į (ż (cI "Cloth" qz (Ċ 0 (Ċ 1 ē)))))
 fQ)
 (Ě (dJ (jM (bL (Ą ķ (Ā 0) (mC (.str "house")))) (cC (Č (ę DW (Ċ 1 ē)))))
 (Į (ż (cI "House" qC (Ċ 0 (Ċ 1 ē)))))
 fQ)
 iC)))))
def fW:MF:=Ŏ 2 2 jx
def Iv:M Fl:=(Ě (ĸ 2 (ę qw (ġ (Č (lO (Ā 0) (mP (mC (.int 1))) cG)) (Ċ 1 ē))))
 (Cd (Į (ę fW (ġ (Ą Ğ (Ā 0) (mC (.int 0))) (Ċ 2 ē))))))
def Cu:MF:=Ŏ 2 3 Iv
def Iw:M WR:=(mF (gB (bL (Ą KR (pY 3) (mC (.int 0)))) (bL (Ą ķ (bT eZ (ă (Ā 2) Ė)) (mC (.int (40)))))) iC (xg 2 (Č (ę Cu (Ċ 0 (Ċ 1 ē))))))
def xW:MW:=cY 4 4 Iw
def vH:M WR:=(Lg (bL (Ą JG (Ą Ğ (Ā 0) (mC (.int 0))) (jm (ă (mC (.str "ray")) (ă (mC (.str "night")) Ė))))) (Ŝ Cm [0,1,3]) (Lg (bL (Ą ķ (Ą Ğ (Ā 0) (mC (.int 0))) (mC (.str "day")))) (Ŝ Cr [0,1,3]) (Ŝ xW [0,1,2,3])))
def aU:MW:=cY 4 4 vH
def Iz:M Fl:=(Ě (ĸ 1 (Œ [] 1 (Ů (Č (DN ju (Ā 0) (ă (mC (.str "\n")) Ė)))) (gN 0) Ķ (Č (DN ju (Ā 0) (ă (mC (.str " ")) Ė)))))
 (Ě (ĸ 2 (ę Cj (ġ (Ą Ğ (Ā 1) (mC (.int 0))) (ġ (mC (.int 0)) ē))))
 (mRY 5 6 3 4 (vm (mLs (Č (lO (Ā 1) (mP (mC (.int 1))) cG)))) (Ŝ aU [6,5,3,4]) (Ě (dJ (cC (Č (ę nj (Ċ 4 ē))))
 iC
 fQ)
 (Į (ż (cI "Yard" fB (ġ (Ą Ğ (Ā 2) (mC (.int 0))) (ġ (Ą Ğ (Ā 2) (mC (.int 1))) (Ċ 3 (Ċ 4 ē)))))))))))
def Cv:MF:=Ŏ 1 7 Iz
def Pj:M Fl:=(Į (ż (JD gM (mC (.str " ")) (ă (Č (Ĥ ě (Č (b_ (ă (wj (ſ ["Thing","Post","Fence","Sail","Cloth","House"] "word") (Ā 0)) Ė))) (Č (Œ [] 1 (Ů (wj (ſ ["Thing","Post","Fence","Sail","Cloth","House"] "numbers") (Ā 0))) (gN 0) Ķ (bT bV (ă (Ā 0) Ė)))))) Ė))))
def ń:MF:=Ŏ 1 1 Pj
def qD:M Fl:=(Ě (ĸ 6 (ż (Ą Ğ (wj (ſ ["Yard"] "days") (Ā 0)) (Ā 5))))
 (Ě (dJ (gB (cT (cC (bT pO (ă (Ā 6) (ă (mC (.ty "tuple")) Ė))))) (gB (cT (cC (bT pO (ă (Ą Ğ (Ā 6) (mC (.int 2))) (ă (mC (.ty "list")) Ė))))) (bL (Ą ž (Ā 6) (Ą Ğ (Ā 4) (Ā 5))))))
 (Į (ż (mC (.bl false))))
 fQ)
 (dJ (cT (cC (bT lV (ă (Č (Œ [] 1 (Ů (Ą Ğ (Ā 6) (mC (.int 2)))) (gN 0) Ķ (Uk (Ą uQ (Ā 0) (mC .non)) (bT pO (ă (Ā 0) (ă (mC (.ty "tuple")) Ė)))))) Ė))))
 (Į (ż (mC (.bl false))))
 fQ)))
def IK:M Fl:=(Ě (dJ (gB (cT (cC (bT pO (ă (wj (ſ ["Yard"] "width") (Ā 0)) (ă (mC (.ty "int")) Ė))))) (gB (bL (Ą ž (wj (ſ ["Yard"] "width") (Ā 0)) (Ā 1))) (bL (Ą ž (wj (ſ ["Yard"] "height") (Ā 0)) (Ā 2)))))
 (Į (ż (mC (.bl false))))
 fQ)
 (Ě (dJ (cT (cC (bT pO (ă (wj (ſ ["Yard"] "things") (Ā 0)) (ă (mC (.ty "list")) Ė)))))
 (Į (ż (mC (.bl false))))
 fQ)
 (Ě (dJ (bL (Ą ž (Č (Œ [] 1 (Ů (wj (ſ ["Yard"] "things") (Ā 0))) (gN 0) Ķ (Č (pU "shown" [("Thing",ń),("Post",ń),("Fence",ń),("Sail",ń),("Cloth",ń),("House",ń)] (ė 0) ē)))) (Č (Œ [] 1 (Ň 3) (gN 0) Ķ (Č (ę mJ (Ċ 0 ē)))))))
 (Į (ż (mC (.bl false))))
 fQ)
 (Ě (dJ (gB (cT (cC (bT pO (ă (wj (ſ ["Yard"] "days") (Ā 0)) (ă (mC (.ty "list")) Ė))))) (bL (Ą ž (bT eZ (ă (wj (ſ ["Yard"] "days") (Ā 0)) Ė)) (bT eZ (ă (Ā 4) Ė)))))
 (Į (ż (mC (.bl false))))
 fQ)
 (Ě (nQ (cD dO (ă (bT eZ (ă (Ā 4) Ė)) Ė)) (gN 5) qD)
 (Į (ż (mC (.bl true)))))))))
def xX:MF:=Ŏ 5 7 IK
def Ah:M Fl:=(Ě (dJ (bL (Ą uQ (Ā 0) (mC .non)))
 (Į (ż (mC (.str "night"))))
 fQ)
 (Į (ż (JD gM (mC (.str " ")) (ă (Č (Ĥ ě (Č (b_ (ă (mC (.str "ray")) Ė))) (Č (Œ [] 1 (Ň 0) (gN 0) Ķ (bT bV (ă (Ā 0) Ė)))))) Ė)))))
def qF:MF:=Ŏ 1 1 Ah
def vI:M Fl:=(Ě (nP 1 (Lr [(mC (.str "day ")),(DQ (ė 2)),(mC (.str " ")),(DQ (ė 3))] Str.empty))
 (Hg 1 (Œ [] 1 (Ň 4) (gN 0) Ķ (Č (ę qF (Ċ 0 ē))))))
def IV:M Fl:=(Ě (ĸ 1 (b_ (ă (JD gM (mC (.str " ")) (ă (Č (b_ (ă (mC (.str "yard")) (ă (bT bV (ă (wj (ſ ["Yard"] "width") (Ā 0)) Ė)) (ă (bT bV (ă (wj (ſ ["Yard"] "height") (Ā 0)) Ė)) Ė))))) Ė)) Ė)))
 (Ě (Hg 1 (Œ [] 1 (Ů (wj (ſ ["Yard"] "things") (Ā 0))) (gN 0) Ķ (Č (pU "shown" [("Thing",ń),("Post",ń),("Fence",ń),("Sail",ń),("Cloth",ń),("House",ń)] (ė 0) ē))))
 (Ě (nQ (Ů (wj (ſ ["Yard"] "days") (Ā 0))) (gT 3 (ĵ (gN 2) (ĵ (gN 3) (ĵ (gN 4) gF)))) vI)
 (Į (ż (JD gM (mC (.str "\n")) (ă (Ā 1) Ė)))))))
def xY:MF:=Ŏ 1 5 IV
def IW:M Fl:=(Ě (ĸ 1 (Ĥ ě (mC (.int 1)) (Ą Ġ (Č (ę m_ (Ċ 0 (ġ (mC (.int 0)) ē)))) (mC (.int 20)))))
 (Ě (ĸ 2 (Ĥ ě (mC (.int 1)) (Ą Ġ (Ą aq (Č (ę m_ (Ċ 0 (ġ (mC (.int 0)) ē)))) (mC (.int 20))) (mC (.int 20)))))
 (Ě (ĸ 3 (ę Lx (Ċ 0 (Ċ 1 (Ċ 2 ē)))))
 (Ě (ĸ 4 (ę Ce (Ċ 0 ē)))
 (Ě (ĸ 5 (ę Ly (Ċ 1 (Ċ 2 (Ċ 3 (Ċ 4 ē))))))
 (Ě (ĸ 6 (ę Cv (Ċ 5 ē)))
 (Ě (dJ (gB (cT (cC (Č (ę xX (Ċ 6 (Ċ 1 (Ċ 2 (Ċ 3 (Ċ 4 ē))))))))) (bL (Ą ž (Č (ę xY (Ċ 6 ē))) (Ā 5))))
 (Į (ż (mC (.bl false))))
 fQ)
 (Ě (ĸ 7 (Œ [] 1 (Ň 3) (gN 0) Ķ (Č (ę fW (ġ (Ą Ğ (Ā 0) (mC (.int 0))) (ġ (Č (lJ cU (ă (Č (lO (Ā 0) (mP (mC (.int 1))) cG)) Ė))) ē))))))
 (m71 1 2 4 7 8 9 10 11 12 "Yard" fB
 (Į (ż (eU (Č (ę xX (Ċ 9 (Ċ 1 (Ċ 2 (Ċ 3 (Ċ 4 ē))))))) (Ą ķ (Č (ę xY (Ċ 9 ē))) (Ā 5))))))))))))))
def uc:MF:=Ŏ 1 13 IW
set_option genInjectivity false
set_option genSizeOf false
structure I_ where
 {Pk Zbb Pn Zbc Pq Pr Pu Px Zbd Zbe Py Pz PB PK PL PN Wb P_ Qa Qc Qd Qe Qf Qg Qh Qi nY Zbf Qj Zbg Zbh Qk Ql Qm Qn Qo Qp xZ Qq Qs Qt Qu oN Ja Cw Jb Cy Cz Ai:Addr}
 {Qv Zbi Qw Zbj Qx Qy Qz QB Zbk Zbl QC QD QF QG QH QJ Zbm QK QL QM QS QT QV QW QX QZ DX Zbn Q_ Zbo Zbp Ra Rb Rf Rg Rh Ri Zbq Rj Rk Rm Jc:FuncData}
 {D_ Ea yc qG rE qH vJ Aj yg rG vK vL:Tok}
def Ļ(a:I_):String->Addr:=cmB a.oN a.Ja a.Cw a.Jb a.Cy a.Cz a.Ai
structure Tx(K:PySem.W.Frag)(mg:Str->Option Value)(a:I_):Prop where
 Zcb:mg "Thing" =some (.ref a.oN)
 Wc:mg "Post" =some (.ref a.Ja)
 LC:mg "Fence" =some (.ref a.Cw)
 Wf:mg "Sail" =some (.ref a.Jb)
 LK:mg "Cloth" =some (.ref a.Cy)
 LQ:mg "House" =some (.ref a.Cz)
 Wg:mg "Yard" =some (.ref a.Ai)
 bC:Df K mg "_law_spread" Nu ["_law_number","_law_many"] a.Pk a.Qv
 fX:Df K mg "_law_thing_by" Za3 ["_law_number","_law_width","_law_height"] a.Zbb a.Zbi
 qI:Df K mg "_law_far" Nv ["_law_words","_law_number"] a.Pn a.Qw
 iV:Df K mg "_law_things" Za4 ["_law_script","_law_width","_law_height"] a.Zbc a.Zbj
 bK:Df K mg "_law_part" Nz ["_law_script","_law_place"] a.Pq a.Qx
 jX:Df K mg "_law_names" NK ["_law_number","_law_many"] a.Pr a.Qy
 iW:Df K mg "_law_ray_by" NP ["_law_number"] a.Pu a.Qz
 nu:Df K mg "_law_days" NQ ["_law_script"] a.Px a.QB
 Ţ:Df K mg "_law_joined" Za5 ["_law_words"] a.Zbd a.Zbk
 dW:Df K mg "_law_yard_text" Za6 ["_law_width","_law_height","_law_things_here","_law_days_here"] a.Zbe a.Zbl
 fC:Df K mg "is_made_of" NT ["word","signs","most"] a.Py a.QC
 nA:Df K mg "is_number" NZ ["word"] a.Pz a.QD
 jY:Df K mg "numbers_of" N_ ["words"] a.PB a.QF
 aN:Df K mg "numbers_in" Oa ["words","row"] a.PK a.QG
 nC:Df K mg "read_size" Ob ["words","row"] a.PL a.QH
 dF:Df K mg "lacks_turns" Oc ["days"] a.PN a.QJ
 bO:Dm K a.Ai "__init__" "Yard.__init__" Wa ["self","width","height","things","days"] a.Wb a.Zbm
 yh:Df K mg "is_ray" Od ["ray"] a.P_ a.QK
 nD:Df K mg "read_turn" Oe ["words","row"] a.Qa a.QL
 nF:Df K mg "take_turn" Og ["words","row","days"] a.Qc a.QM
 ud:Df K mg "is_name" Oh ["word"] a.Qd a.QS
 qJ:Df K mg "read_day" Oi ["words","row"] a.Qe a.QT
 qK:Df K mg "take_day" HX ["words","row","days"] a.Qf a.QV
 aZ:Df K mg "is_place" Oj ["number"] a.Qg a.QW
 gP:Df K mg "is_height" Ol ["number"] a.Qh a.QX
 jZ:Df K mg "makes_post" Om ["numbers"] a.Qi a.QZ
 Ĩ:Dm K a.oN "__init__" "Thing.__init__" Za7 ["self","word","numbers"] a.nY a.DX
 cM:Df K mg "has_two_ends" Za8 ["numbers"] a.Zbf a.Zbn
 iY:Df K mg "makes_fence" Oo ["numbers"] a.Qj a.Q_
 ţ:Df K mg "makes_sail_or_house" Za9 ["numbers"] a.Zbg a.Zbo
 cZ:Df K mg "is_cloth_corner" Za_ ["numbers"] a.Zbh a.Zbp
 iZ:Df K mg "makes_cloth" Oq ["numbers"] a.Qk a.Ra
 jy:Df K mg "thing_of" Ot ["word","numbers"] a.Ql a.Rb
 j_:Df K mg "read_thing" Ou ["words","row"] a.Qm a.Rf
 kh:Df K mg "take_thing" Ov ["words","row","things","days"] a.Qn a.Rg
 fG:Df K mg "take_row" Ow ["words","row","things","days"] a.Qo a.Rh
 nG:Df K mg "read_yard" Ox ["text"] a.Qp a.Ri
 ĩ:Dm K a.oN "shown" "Thing.shown" Zba ["self"] a.xZ a.Zbq
 gQ:Df K mg "_law_same" Oz ["_law_yard","_law_width","_law_height","_law_things_here","_law_days_here"] a.Qq a.Rj
 nH:Df K mg "show_turn" OD ["turn"] a.Qs a.Rk
 gR:Df K mg "show_yard" OJ ["yard"] a.Qt a.Rm
 Jd:Df K mg "law" HY ["_law_script"] a.Qu a.Jc
 Eb:mg "FIGURES" =some (.str "0123456789" a.D_)
 Ec:mg "LETTERS" =some (.str "abcdefghijklmnopqrstuvwxyz" a.Ea)
 yj:mg "MOST_DAYS" =some (.int (12) a.yc)
 qL:mg "MOST_FIGURES" =some (.int (10) a.qG)
 i_:mg "MOST_HEIGHT" =some (.int (1000000000) a.rE)
 qM:mg "MOST_LETTERS" =some (.int (8) a.qH)
 kj:mg "MOST_PLACE" =some (.int (1000000000) a.vJ)
 jz:mg "MOST_RAY" =some (.int (1000000) a.Aj)
 yq:mg "MOST_SIDE" =some (.int (20) a.yg)
 rH:mg "MOST_THINGS" =some (.int (40) a.rG)
 vM:mg "MOST_TIMES" =some (.int (1000000000) a.vK)
 vN:mg "MOST_TURNS" =some (.int (24) a.vL)
 CG:mg "abs" =none
 uf:mg "all" =none
 yr:mg "divmod" =none
 yt:mg "enumerate" =none
 Rn:mg "int" =none
 Ŵ:mg "isinstance" =none
 aA:mg "len" =none
 aO:mg "list" =none
 dg:mg "range" =none
 yu:mg "str" =none
 vO:mg "tuple" =none
 oO:Cls K (Ļ a "Thing")
 Zcc:Mk K (Ļ a "Thing") a.nY
 vP:İ K (Ļ a "Thing") "word"
 nZ:İ K (Ļ a "Thing") "numbers"
 jc:Meth K (Ļ a "Thing") "shown" a.xZ
 vQ:Cls K (Ļ a "Post")
 Wh:Mk K (Ļ a "Post") a.nY
 yw:İ K (Ļ a "Post") "word"
 qN:İ K (Ļ a "Post") "numbers"
 kE:Meth K (Ļ a "Post") "shown" a.xZ
 oR:Cls K (Ļ a "Fence")
 LR:Mk K (Ļ a "Fence") a.nY
 vR:İ K (Ļ a "Fence") "word"
 n_:İ K (Ļ a "Fence") "numbers"
 jd:Meth K (Ļ a "Fence") "shown" a.xZ
 vU:Cls K (Ļ a "Sail")
 Wi:Mk K (Ļ a "Sail") a.nY
 yx:İ K (Ļ a "Sail") "word"
 qO:İ K (Ļ a "Sail") "numbers"
 kI:Meth K (Ļ a "Sail") "shown" a.xZ
 oU:Cls K (Ļ a "Cloth")
 L_:Mk K (Ļ a "Cloth") a.nY
 vV:İ K (Ļ a "Cloth") "word"
 oh:İ K (Ļ a "Cloth") "numbers"
 je:Meth K (Ļ a "Cloth") "shown" a.xZ
 oV:Cls K (Ļ a "House")
 Ma:Mk K (Ļ a "House") a.nY
 vW:İ K (Ļ a "House") "word"
 ou:İ K (Ļ a "House") "numbers"
 jf:Meth K (Ļ a "House") "shown" a.xZ
 vX:Cls K (Ļ a "Yard")
 Je:Mk K (Ļ a "Yard") a.Wb
 vY:İ K (Ļ a "Yard") "width"
 rJ:İ K (Ļ a "Yard") "height"
 rK:İ K (Ļ a "Yard") "things"
 yC:İ K (Ļ a "Yard") "days"
def Z1A{K:PySem.W.Frag}{mg:Str->Option Value}{a:I_}(T:Tx K mg a):mg "Post" =some (.ref (Ļ a "Post")):=T.Wc
def Z16{K:PySem.W.Frag}{mg:Str->Option Value}{a:I_}(T:Tx K mg a):mg "Fence" =some (.ref (Ļ a "Fence")):=T.LC
def Z1B{K:PySem.W.Frag}{mg:Str->Option Value}{a:I_}(T:Tx K mg a):mg "Sail" =some (.ref (Ļ a "Sail")):=T.Wf
def Z17{K:PySem.W.Frag}{mg:Str->Option Value}{a:I_}(T:Tx K mg a):mg "Cloth" =some (.ref (Ļ a "Cloth")):=T.LK
def Z18{K:PySem.W.Frag}{mg:Str->Option Value}{a:I_}(T:Tx K mg a):mg "House" =some (.ref (Ļ a "House")):=T.LQ
def Z0r{K:PySem.W.Frag}{mg:Str->Option Value}{a:I_}(T:Tx K mg a):mg "Yard" =some (.ref (Ļ a "Yard")):=T.Wg
def cO:đ ["_law_number","_law_many","_law_found","_law_rest","_law_k","_law_turn","_law_digits","_law_upper","_law_lower"] ["_law_number","_law_many"] (Ć Nu):=dG
def jg:đ ["_law_number","_law_width","_law_height","_law_xs","_law_x","_law_y","_law_u","_law_v","_law_h","_law_high","_law_end"] ["_law_number","_law_width","_law_height"] (Ć Za3):=dG
def Ak:đ ["_law_words","_law_number","_law_found","_law_k"] ["_law_words","_law_number"] (Ć Nv):=dG
def ug:đ ["_law_script","_law_width","_law_height","_law_found","_law_cell","_law_number","_law_words"] ["_law_script","_law_width","_law_height"] (Ć Za4):=dG
def Jf:đ ["_law_script","_law_place","_law_cell"] ["_law_script","_law_place"] (Ć Nz):=dG
def mK:đ ["_law_number","_law_many","_law_letters","_law_cut","_law_some","_law_one","_law_other"] ["_law_number","_law_many"] (Ć NK):=dG
def Jg:đ ["_law_number","_law_xs"] ["_law_number"] (Ć NP):=dG
def fH:đ ["_law_script","_law_number","_law_many","_law_names_here","_law_days_here","_law_k","_law_xs","_law_often","_law_turns"] ["_law_script"] (Ć NQ):=dG
def Zbr:đ ["_law_words"] ["_law_words"] (Ć Za5):=dG
def uh:đ ["_law_width","_law_height","_law_things_here","_law_days_here","_law_rows","_law_name","_law_often","_law_turns","_law_turn"] ["_law_width","_law_height","_law_things_here","_law_days_here"] (Ć Za6):=dG
def Wj:đ ["word","signs","most"] ["word","signs","most"] (Ć NT):=dG
def Jh:đ ["word","figures"] ["word"] (Ć NZ):=dG
def Wk:đ ["words"] ["words"] (Ć N_):=dG
def Ji:đ ["words","row","numbers"] ["words","row"] (Ć Oa):=dG
def Jj:đ ["words","row","size"] ["words","row"] (Ć Ob):=dG
def Wm:đ ["days"] ["days"] (Ć Oc):=dG
def Zbs:đ ["self","width","height","things","days"] ["self","width","height","things","days"] (Ć Wa):=dG
def Wn:đ ["ray"] ["ray"] (Ć Od):=dG
def Jk:đ ["words","row","ray"] ["words","row"] (Ć Oe):=dG
def Wo:đ ["words","row","days"] ["words","row","days"] (Ć Og):=dG
def Wq:đ ["word"] ["word"] (Ć Oh):=dG
def Jl:đ ["words","row","times"] ["words","row"] (Ć Oi):=dG
def Jm:đ ["words","row","days","day"] ["words","row","days"] (Ć HX):=dG
def Wr:đ ["number"] ["number"] (Ć Oj):=dG
def Ws:đ ["number"] ["number"] (Ć Ol):=dG
def Wt:đ ["numbers"] ["numbers"] (Ć Om):=dG
def yD:đ ["self","word","numbers"] ["self","word","numbers"] (Ć Za7):=dG
def Zbt:đ ["numbers"] ["numbers"] (Ć Za8):=dG
def Wu:đ ["numbers"] ["numbers"] (Ć Oo):=dG
def Zbu:đ ["numbers"] ["numbers"] (Ć Za9):=dG
def Zbv:đ ["numbers"] ["numbers"] (Ć Za_):=dG
def Wv:đ ["numbers"] ["numbers"] (Ć Oq):=dG
def Ww:đ ["word","numbers"] ["word","numbers"] (Ć Ot):=dG
def Jo:đ ["words","row","numbers"] ["words","row"] (Ć Ou):=dG
def Wx:đ ["words","row","things","days"] ["words","row","things","days"] (Ć Ov):=dG
def Wy:đ ["words","row","things","days"] ["words","row","things","days"] (Ć Ow):=dG
def jA:đ ["text","rows","size","things","days","row","words"] ["text"] (Ć Ox):=dG
def Zbw:đ ["self"] ["self"] (Ć Zba):=dG
def Al:đ ["_law_yard","_law_width","_law_height","_law_things_here","_law_days_here","_law_k","_law_day"] ["_law_yard","_law_width","_law_height","_law_things_here","_law_days_here"] (Ć Oz):=dG
def Wz:đ ["turn"] ["turn"] (Ć OD):=dG
def qP:đ ["yard","rows","name","times","turns"] ["yard"] (Ć OJ):=dG
def bf:đ ["_law_script","_law_width","_law_height","_law_things_here","_law_days_here","_law_text","_law_yard","_law_handed","_law_later","_law_made","_law_name","_law_often","_law_turns"] ["_law_script"] (Ć HY):=dG
section
variable{P:Program}{w:World}{K:PySem.W.Frag}{mg:Str->Option Value}{base:Heap}{a:I_}
seal PE PT PW PA PS aB PG yI PI Em
def Zm(T:Tx K mg a):pQ (λC=>Cls K (Ļ a C)/\İ K (Ļ a C) "width") ["Yard"]:=⟨⟨T.vX,T.vY⟩,trivial⟩
def Zq(T:Tx K mg a):pQ (λC=>Cls K (Ļ a C)/\İ K (Ļ a C) "height") ["Yard"]:=⟨⟨T.vX,T.rJ⟩,trivial⟩
def Zj(T:Tx K mg a):pQ (λC=>Cls K (Ļ a C)/\İ K (Ļ a C) "things") ["Yard"]:=⟨⟨T.vX,T.rK⟩,trivial⟩
def Zk(T:Tx K mg a):pQ (λC=>Cls K (Ļ a C)/\İ K (Ļ a C) "days") ["Yard"]:=⟨⟨T.vX,T.yC⟩,trivial⟩
def Zg(T:Tx K mg a):pQ (λC=>Cls K (Ļ a C)/\İ K (Ļ a C) "word") ["Thing","Post","Fence","Sail","Cloth","House"]:=⟨⟨T.oO,T.vP⟩,⟨⟨T.vQ,T.yw⟩,⟨⟨T.oR,T.vR⟩,⟨⟨T.vU,T.yx⟩,⟨⟨T.oU,T.vV⟩,⟨⟨T.oV,T.vW⟩,trivial⟩⟩⟩⟩⟩⟩
def Z8(T:Tx K mg a):pQ (λC=>Cls K (Ļ a C)/\İ K (Ļ a C) "numbers") ["Thing","Post","Fence","Sail","Cloth","House"]:=⟨⟨T.oO,T.nZ⟩,⟨⟨T.vQ,T.qN⟩,⟨⟨T.oR,T.n_⟩,⟨⟨T.vU,T.qO⟩,⟨⟨T.oU,T.oh⟩,⟨⟨T.oV,T.ou⟩,trivial⟩⟩⟩⟩⟩⟩
def Am(T:Tx K mg a):ī P w K mg base bQ 1 a.Pk a.Qv ["_law_number","_law_many"] (cu ⟨K,Ļ a⟩ 2 iU):=by
 refine ŧ T.bC.F cO λ_ _ _ _ _ _ _ _=>?_
 exact ŏ cO (ŵ Ħ) (ŏ cO (eO (Hq (ā 0) Ă)) (č (iK PassesOwn.leaving rfl (cF rfl T.dg (ą (v_mul (ā 1) (Ho Ă (į (ā 0) Ă))) Ħ)) (gb cO) (č (Mw (ź sW sX T.yr PyProof.Rows.boot_divmod (ċ (ā 3) (ċ (Ĕ (iI lM lE Ă Ă)) ĕ))) (Ni rfl (ű (gb cO) (ű (gb cO) pJ)))) (Ĭ (PS.wk (ľ (aD PySem.F.plainAttrs_list PySem.F.slot_list_append PySem.F.type_list_append ı (pv 2) (ą (v_var 6) Ħ))) λ_ _ _ h=>cj h)))) (ŏ cO (mX (į (ā 3) Ă) Ă) (č (KD PassesOwn.leaving (iJ Bq Ba (Ĕ (ź ŷ aJ T.aA PySem.boot_len (ċ (ā 2) ĕ))) (ā 1) (Ŷ _)) (č (iK PassesOwn.leaving rfl (cF rfl T.dg (ą Ņ Ħ)) (gb cO) (č (Mw (ź sW sX T.yr PyProof.Rows.boot_divmod (ċ (ā 3) (ċ Ă ĕ))) (Ni rfl (ű (gb cO) (ű (gb cO) pJ)))) (Ĭ (Lf cO (eO (v_mod (aR (aR (aR (dU (ā 8) Ă) (dU (ā 7) Ă)) (dU Ă (Ĕ (ź ŷ aJ T.aA PySem.boot_len (ċ (ā 2) ĕ))))) Ă) Ă)))))) (Ĭ (PS.wk (ľ (aD PySem.F.plainAttrs_list PySem.F.slot_list_append PySem.F.type_list_append ı (pv 2) (ą (Hq (ā 3) Ă) Ħ))) λ_ _ _ h=>cj h)))) (au (pG 2))))))
def Zbx(T:Tx K mg a):ī P w K mg base bQ 2 a.Zbb a.Zbi ["_law_number","_law_width","_law_height"] (cu ⟨K,Ļ a⟩ 3 qj):=by
 refine ŧ T.fX.F jg λ_ _ _ _ _ _ hr hu=>?_
 exact ŏ jg (ď (Am T) T.bC hr Đ (Ę 0 (Ģ Ņ Ē))) (ŏ jg (eO (v_sub (į (ĺ (ā 3) Ă) (aR (dU Ă (ā 1)) Ă)) Ă)) (ŏ jg (eO (v_sub (į (ĺ (ā 3) Ă) (aR (dU Ă (ā 2)) Ă)) Ă)) (ŏ jg (mX (aR (ā 4) Ă) (į (ĺ (ā 3) Ă) Ă)) (ŏ jg (mX (aR (ā 5) Ă) (į (ĺ (ā 3) Ă) Ă)) (ŏ jg (mX Ă (į (ĺ (ā 3) Ă) Ă)) (č (Ŧ (t_eq hu (į (ĺ (ā 3) Ă) Ă) Ă) (Ĭ (Lf jg (eO (v_sub (Ĕ (iI lM lE Ă Ă)) (į (ĺ (ā 3) Ă) Ă))))) ĭ) (č (Ŧ (t_eq hu (į (ĺ (ā 3) Ă) Ă) Ă) (au (ŵ (ą ŀ (ą (v_sub (į (ĺ (ā 3) Ă) (aR (ā 1) Ă)) Ă) (ą (v_sub (į (ĺ (ā 3) Ă) (aR (ā 2) Ă)) Ă) (ą (v_var 8) Ħ)))))) ĭ) (č (Ŧ (t_eq hu (į (ĺ (ā 3) Ă) Ă) Ă) (ŏ jg (eO (bJ (Ĕ (ĝ (ŵ (ą (gC (ą (v_var 6) (ą (v_var 5) Ħ))) (ą (gC (ą (v_var 6) (ą (v_var 7) Ħ))) (ą (gC (ą (v_var 4) (ą (v_var 7) Ħ))) (ą (gC (ą (v_sub (ā 4) Ă) (ą (v_var 7) Ħ))) Ħ))))))) (į (ĺ (ā 3) Ă) Ă))) (au (ŵ (ą ŀ (ą (v_var 4) (ą (v_var 5) (ą (bJ (ā 10) Ă) (ą (bJ (ā 10) Ă) (ą (v_var 8) Ħ))))))))) ĭ) (č (Ŧ (t_eq hu (į (ĺ (ā 3) Ă) Ă) Ă) (au (ŵ (ą ŀ (ą (v_var 4) (ą (v_var 5) (ą (v_var 6) (ą (v_var 7) (ą (v_var 8) Ħ)))))))) ĭ) (č (Ŧ (t_eq hu (į (ĺ (ā 3) Ă) Ă) Ă) (au (ŵ (ą ŀ (ą (v_var 4) (ą (v_var 5) (ą (v_var 6) (ą (v_var 7) (ą (v_var 8) Ħ)))))))) ĭ) (ŏ jg (eO (v_mul (į (ĺ (ā 3) Ă) Ă) (į (ĺ (ā 3) Ă) Ă))) (au (ŵ (ą ŀ (ą (v_var 4) (ą (v_var 5) (ą (v_mod (ĺ (ā 3) Ă) Ă) (ą (v_var 6) (ą (v_add (Ho (ā 5) Ă) (į (ĺ (ā 3) Ă) Ă)) (ą (v_mod (ĺ (ā 3) Ă) Ă) (ą (v_add (Ho (ā 4) Ă) (į (ĺ (ā 3) Ă) Ă)) (ą (v_var 7) (ą (v_var 9) Ħ)))))))))))))))))))))))
def WD(T:Tx K mg a):ī P w K mg base bQ 1 a.Pn a.Qw ["_law_words","_law_number"] (cu ⟨K,Ļ a⟩ 2 tY):=by
 refine ŧ T.qI.F Ak λ_ _ _ _ _ _ _ hu=>?_
 exact ŏ Ak (ŵ (ą (bJ (ā 0) Ă) Ħ)) (č (iK PassesOwn.leaving rfl (Gq rfl T.dg (ą Ņ (ą (ź ŷ aJ T.aA PySem.boot_len (ċ (ā 0) ĕ)) Ħ))) (gb Ak) (č (PS.wk (ľ (aD PySem.F.plainAttrs_list PySem.F.slot_list_append PySem.F.type_list_append ı (pv 2) (ą (bJ (ā 0) (ā 3)) Ħ))) λ_ _ _ h=>cj h) (Ĭ (Ŧ (PW.pt (w_and (t_eq hu (į (ā 1) Ă) Ă) (w_and (PW.pt (w_or (mq hu (ĺ (ā 0) Ă) Š) (dI (mq hu (į (ā 3) Ă) Ă)))) (lH (PW.pt (w_or (iJ Bq Ba (ā 3) Ă (Ŷ _)) (dI (t_eq hu (ĺ (ā 0) Ă) Š)))))))) (Ĭ (KC (i:=2) (v_sub (aR (ĺ (ā 0) (ā 3)) (dU (į (iR (ā 1) Ă) Ă) (Ĕ (iI lM lE Ă Ă)))) (dU Ă (Ĕ (iI lM lE Ă Ă)))) (v_var 3) (pv 2))) ĭ)))) (au (pG 2)))
def Zby(T:Tx K mg a):ī P w K mg base bQ 3 a.Zbc a.Zbj ["_law_script","_law_width","_law_height"] (cu ⟨K,Ļ a⟩ 3 Lx):=by
 refine ŧ T.iV.F ug λ_ _ _ _ _ _ hr hu=>?_
 exact ŏ ug (ŵ Ħ) (č (iK PassesOwn.leaving rfl (gJ (ĝ (Ń (ā 0) (ŉ Ņ) (ŉ Ņ)))) (gb ug) (ŏ ug (eO (ź uH uR T.CG PyProof.Rows.boot_abs (ċ (ā 4) ĕ))) (ŏ ug (ď (Zbx T) T.fX hr Đ (Ę 5 (Ę 1 (Ę 2 Ē)))) (č (Ŧ (PW.pt (w_or (t_eq hu (ĺ (ā 6) Ă) Š) (dI (t_eq hu (ĺ (ā 6) Ă) Š)))) (Ĭ (Lf ug (ď (WD T) T.qI hr Đ (Ę 6 (Ę 5 Ē))))) ĭ) (Ĭ (PS.wk (ľ (aD PySem.F.plainAttrs_list PySem.F.slot_list_append PySem.F.type_list_append ı (pv 3) (ą (v_var 6) Ħ))) λ_ _ _ h=>cj h)))))) (au (pG 3)))
def vZ(T:Tx K mg a):ī P w K mg base bQ 1 a.Pq a.Qx ["_law_script","_law_place"] (cu ⟨K,Ļ a⟩ 2 m_):=by
 refine ŧ T.bK.F Jf λ_ _ _ _ _ _ _ _=>?_
 exact č (iK PassesOwn.leaving rfl (gJ (ĝ (Ń (ā 0) (ŉ (v_var 1)) (ŉ (v_add (ā 1) Ă))))) (gb Jf) (ř (ź uH uR T.CG PyProof.Rows.boot_abs (ċ (ā 2) ĕ)))) (ř Ņ)
def WK(T:Tx K mg a):ī P w K mg base bQ 1 a.Pr a.Qy ["_law_number","_law_many"] (cu ⟨K,Ļ a⟩ 2 tZ):=by
 refine ŧ T.jX.F mK λ_ _ _ _ _ _ _ hu=>?_
 exact ŏ mK (eO ŀ) (č (Ŧ (t_eq hu (į (ā 0) Ă) Ă) (ŏ mK (ŵ (ą ŀ (ą ŀ (ą ŀ (ą ŀ (ą ŀ (ą ŀ (ą ŀ (ą ŀ (ą ŀ (ą ŀ (ą ŀ (ą ŀ Ħ))))))))))))) (au (Ń (aR (Ĕ (ĝ (Ń (ā 4) (ŉ (v_mod (iR (ā 0) Ă) Ă)) aH))) (Ĕ (ĝ (Ń (ā 4) aH (ŉ (v_mod (iR (ā 0) Ă) Ă)))))) aH (ŉ (v_var 1))))) ĭ) (č (Ŧ (t_eq hu (į (ā 0) Ă) Ă) (ŏ mK (eO (bJ (ā 2) (į (iR (ā 0) Ă) Ă))) (ŏ mK (eO (bJ (ā 2) (į (aR (iR (ā 0) Ă) Ă) Ă))) (au (gj (cF rfl T.dg (ą (v_var 1) Ħ)) cJ Ł (v_add (dU (ā 0) (aR Ă (į (ā 2) Ă))) (dU (ā 1) (iR (ā 2) Ă))))))) ĭ) (ŏ mK (eO (v_mod (iR (ā 0) Ă) Ă)) (au (gj (cF rfl T.dg (ą (v_var 1) Ħ)) cJ Ł (v_add (aR (Ĕ (ĝ (Ń Š aH (ŉ (v_var 1))))) (ĺ (ā 0) (į (aR (iR (ā 2) Ă) (ā 3)) Ă))) (Ĕ (ĝ (Ń Š aH (ŉ (v_mod (ā 1) Ă)))))))))))
def WL(T:Tx K mg a):ī P w K mg base bQ 2 a.Pu a.Qz ["_law_number"] (cu ⟨K,Ļ a⟩ 1 qm):=by
 refine ŧ T.iW.F Jg λ_ _ _ _ _ _ hr hu=>?_
 exact ŏ Jg (ď (Am T) T.bC hr Đ (Ę 0 (Ģ Ņ Ē))) (č (Ŧ (t_eq hu (į (ĺ (ā 1) Ă) Ă) Ă) (ř Bm) ĭ) (č (Ŧ (t_eq hu (į (ĺ (ā 1) Ă) Ă) Ă) (ř (gC (ą (v_sub (į (ĺ (ā 1) Ă) Ă) Ă) (ą (v_sub (į (ĺ (ā 1) Ă) Ă) Ă) (ą (v_add Ă (į (ĺ (ā 1) Ă) Ă)) Ħ))))) ĭ) (ř (gC (ą (v_sub (į (ĺ (ā 1) Ă) Ă) Ă) (ą (v_sub (į (ĺ (ā 1) Ă) Ă) Ă) (ą (v_add Ă (į (ĺ (ā 1) Ă) Ă)) Ħ)))))))
def WM(T:Tx K mg a):ī P w K mg base bQ 3 a.Px a.QB ["_law_script"] (cu ⟨K,Ļ a⟩ 1 Ce):=by
 refine ŧ T.nu.F fH λ_ _ _ _ _ _ hr _=>?_
 exact ŏ fH (ď (vZ T) T.bK hr Đ (Ę 0 (Ģ Ņ Ē))) (ŏ fH (eO (v_mod (Ĕ (ĝ (ď (vZ T) T.bK hr Đ (Ę 0 (Ģ Ņ Ē))))) Ă)) (ŏ fH (ď (WK T) T.jX hr Đ (Ę 1 (Ę 2 Ē))) (ŏ fH (ŵ Ħ) (č (iK PassesOwn.leaving rfl (cF rfl T.dg (ą (v_var 2) Ħ)) (gb fH) (ŏ fH (ď (Am T) T.bC hr Đ (Ģ (v_add (ā 1) (dU (dU Ă (ā 5)) (ā 5))) (Ģ Ņ Ē))) (ŏ fH (eO (bJ (Ĕ (ĝ (ŵ (ą Ņ (ą Ņ (ą (iI lM lE Ă Ă) (ą (v_add Ă (į (ĺ (ā 6) Ă) (Ĕ (iI lM lE Ă Ă)))) Ħ))))))) (į (ĺ (ā 6) Ă) Ă))) (č (Vn fH (cF rfl T.dg (ą (v_add Ă (į (iR (ĺ (ā 6) Ă) Ă) Ă)) Ħ)) cJ Ł (ĝ (ď (WL T) T.iW hr Đ (Ģ (v_add (aR (ĺ (ā 0) Ă) (dU (dU Ă (ā 1)) (ā 1))) (ā 1)) Ē)))) (Ĭ (PS.wk (ľ (aD PySem.F.plainAttrs_list PySem.F.slot_list_append PySem.F.type_list_append ı (pv 4) (ą (gC (ą (bJ (ā 3) (ā 5)) (ą (v_var 7) (ą (v_var 8) Ħ)))) Ħ))) λ_ _ _ h=>cj h)))))) (au (pG 4))))))
def yE(T:Tx K mg a):ī P w K mg base bQ 1 a.Zbd a.Zbk ["_law_words"] (cu ⟨K,Ļ a⟩ 1 mJ):=by
 refine ŧ T.Ţ.F Zbr λ_ _ _ _ _ _ _ _=>?_
 exact ř (wW PySem.F.plainAttrs_str PySem.F.slot_str_join PySem.F.type_str_join ig gY Š (ċ (Ĕ (ĝ (gj (aG 0) cJ Ł (zO jR jT T.yu PyProof.Rows.boot_str (ċ (ā 0) ĕ))))) ĕ))
def Zbz(T:Tx K mg a):ī P w K mg base bQ 2 a.Zbe a.Zbl ["_law_width","_law_height","_law_things_here","_law_days_here"] (cu ⟨K,Ļ a⟩ 4 Ly):=by
 refine ŧ T.dW.F uh λ_ _ _ _ _ _ hr _=>?_
 exact ŏ uh (mX (Ĕ (ĝ (ŵ (ą (ĝ (ď (yE T) T.Ţ hr Đ (Ģ (ĝ (ŵ (ą ŀ (ą (v_var 0) (ą (v_var 1) Ħ))))) Ē))) Ħ)))) (Ĕ (ĝ (gj (aG 2) cJ Ł (ĝ (ď (yE T) T.Ţ hr Đ (Ę 0 Ē))))))) (č (iK PassesOwn.leaving rfl (aG 3) (Gn rfl (ű (gb uh) (ű (gb uh) (ű (gb uh) pJ)))) (č (PS.wk (ľ (aD PySem.F.plainAttrs_list PySem.F.slot_list_append PySem.F.type_list_append ı (pv 4) (ą (ĝ (ď (yE T) T.Ţ hr Đ (Ģ (ĝ (ŵ (ą ŀ (ą (v_var 5) (ą (v_var 6) Ħ))))) Ē))) Ħ))) λ_ _ _ h=>cj h) (Ĭ (iK PassesOwn.leaving rfl (aG 7) (gb uh) (Ĭ (Ŧ (iJ Bs uw (ā 8) BR (Ŷ _)) (Ĭ (PS.wk (ľ (aD PySem.F.plainAttrs_list PySem.F.slot_list_append PySem.F.type_list_append ı (pv 4) (ą ŀ Ħ))) λ_ _ _ h=>cj h)) (Ĭ (PS.wk (ľ (aD PySem.F.plainAttrs_list PySem.F.slot_list_append PySem.F.type_list_append ı (pv 4) (ą (ĝ (ď (yE T) T.Ţ hr Đ (Ģ (v_add (Ĕ (ĝ (ŵ (ą ŀ Ħ)))) (Ĕ (ĝ (rC aK bB T.aO PyProof.Rows.boot_list (ċ (ā 8) ĕ))))) Ē))) Ħ))) λ_ _ _ h=>cj h)))))))) (ř (wW PySem.F.plainAttrs_str PySem.F.slot_str_join PySem.F.type_str_join ig gY Š (ċ (ā 4) ĕ))))
def Jp(T:Tx K mg a):ī P w K mg base bQ 1 a.Py a.QC ["word","signs","most"] (cu ⟨K,Ļ a⟩ 3 qu):=by
 refine ŧ T.fC.F Wj λ_ _ _ _ _ _ _ hu=>?_
 exact ř (v_and (sO bU bU bR bR Ă (Ĕ (ź ŷ aJ T.aA PySem.boot_len (ċ (ā 0) ĕ))) (ā 2)) (fP (ź (lG rfl) lW T.uf PyProof.Rows.boot_all (ċ (Ĕ (ĝ (gj (aG 0) cJ Ł (jL zY (zX hu) (ā 1) (ā 0) (by with_unfolding_all rfl))))) ĕ))))
def WQ(T:Tx K mg a):ī P w K mg base bQ 2 a.Pz a.QD ["word"] (cu ⟨K,Ļ a⟩ 1 jW):=by
 refine ŧ T.nA.F Jh λ_ _ _ _ _ _ hr hu=>?_
 exact ŏ Jh (ZcE (ao (Ĕ (wW PySem.F.plainAttrs_str PySem.F.slot_str_startswith PySem.F.type_str_startswith tH sI (ā 0) (ċ Š ĕ)))) (Ń (ā 0) (ŉ Ņ) aH) (eO (v_var 0))) (č (Ŧ (fO (ao (Ĕ (ĝ (ď (Jp T) T.fC hr Đ (Ę 1 (Ģ (mW (.str "0123456789") (œ (v:=.str "0123456789") rfl T.Eb ⟨_,rfl⟩)) (Ģ (mW (.int 10) (œ (v:=.int 10) rfl T.qL ⟨_,rfl⟩)) Ē)))))))) (ř uL) ĭ) (ř (v_or (v_eq hu (ā 0) Š) (fP (v_not (wW PySem.F.plainAttrs_str PySem.F.slot_str_startswith PySem.F.type_str_startswith tH sI (ā 1) (ċ Š ĕ)))))))
def WT(T:Tx K mg a):ī P w K mg base bQ 3 a.PB a.QF ["words"] (cu ⟨K,Ļ a⟩ 1 Ci):=by
 refine ŧ T.jY.F Wk λ_ _ _ _ _ _ hr _=>?_
 exact č (Ŧ (ao (Ĕ (ź (lG rfl) lW T.uf PyProof.Rows.boot_all (ċ (Ĕ (ĝ (gj (aG 0) cJ Ł (ĝ (ď (WQ T) T.nA hr Đ (Ę 0 Ē)))))) ĕ)))) (au (gj (aG 0) cJ Ł (zO Ls Lw T.Rn PyProof.Rows.boot_int (ċ (ā 0) ĕ)))) ĭ) (ř Bm)
def wg(T:Tx K mg a):ī P w K mg base bQ 4 a.PK a.QG ["words","row"] (cu ⟨K,Ļ a⟩ 2 qw):=by
 refine ŧ T.aN.F Ji λ_ _ _ _ _ _ hr _=>?_
 exact ŏ Ji (ď (WT T) T.jY hr Đ (Ę 0 Ē)) (č (Ŧ (iJ Bs uw (ā 2) BR (Ŷ _)) (Ĭ Ű) ĭ) (au (pG 2)))
def WW(T:Tx K mg a):ī P w K mg base bQ 5 a.PL a.QH ["words","row"] (cu ⟨K,Ļ a⟩ 2 Cj):=by
 refine ŧ T.nC.F Jj λ_ _ _ _ _ _ hr hu=>?_
 exact č (Ŧ (PW.pt (w_or (mq hu (ĺ (ā 0) Ă) Š) (dI (mq hu (Ĕ (ź ŷ aJ T.aA PySem.boot_len (ċ (ā 0) ĕ))) Ă)))) (Ĭ Ű) ĭ) (ŏ Jj (ď (wg T) T.aN hr Đ (Ģ (ĝ (Ń (ā 0) (ŉ Ņ) aH)) (Ę 1 Ē))) (č (Ŧ (fO (ao (Ĕ (ź (lG rfl) lW T.uf PyProof.Rows.boot_all (ċ (Ĕ (ĝ (gj (aG 2) cJ Ł (sO bU bU bR bR Ă (ā 0) (Ĕ (mW (.int 20) (œ (v:=.int 20) rfl T.yq ⟨_,rfl⟩))))))) ĕ))))) (Ĭ Ű) ĭ) (au (pG 2))))
def Jq(T:Tx K mg a):ī P w K mg base bQ 1 a.PN a.QJ ["days"] (cu ⟨K,Ļ a⟩ 1 nj):=by
 refine ŧ T.dF.F Wm λ_ _ _ _ _ _ _ hu=>?_
 exact ř (v_and (jL MN Mq (Ĕ (vd 0 T.aA (pv 0))) Ă (Ŷ _)) (fP (v_eq hu (Ĕ (Hx 0 T.aA (Vt (pv 0)))) Ă)))
def yF(T:Tx K mg a):ī P w K mg base bQ 1 a.Wb a.Zbm ["self","width","height","things","days"] (Dt ⟨K,Ļ a⟩ 5 "Yard" fB):=by
 refine Xv (cm:=Ļ a) (mb:=Ih) T.bO.F Zbs rfl rfl rfl λcdv A outer s H E hr=>?_
 have hu:=hr.units
 exact č (aL ["Yard"] (Zm T) (pv 0) (v_var 1)) (č (aL ["Yard"] (Zq T) (pv 0) (v_var 2)) (č (aL ["Yard"] (Zj T) (pv 0) (ĝ (rC aK bB T.aO PyProof.Rows.boot_list (ċ (ā 3) ĕ)))) (Ĭ (aL ["Yard"] (Zk T) (pv 0) (ĝ (ZdH (Vp 4) (BW ["name","times","turns"] [] 3 (Ć Wa) rfl rfl (Zax 4) (λ_ _ _ _ _=>(Zay (i:=0) (j:=1) (k:=2) rfl (show(["name","times","turns"]:List Str).Nodup by decide +kernel) rfl rfl rfl (Or.inl rfl) (Or.inl rfl) (Or.inl rfl) (fx:=Or.inr rfl) (fy:=Or.inr rfl) (fz:=Or.inr rfl))) (λ_ _ _ _ _=>Ł) (λ_ _ _ _ _=>(gC (ą (v_var 0) (ą (v_var 1) (ą (ĝ (rC aK bB T.aO PyProof.Rows.boot_list (ċ (ā 2) ĕ))) Ħ))))) trivial) (gj (aG 4) (Gn rfl (ű cJ (ű cJ (ű cJ pJ)))) Ł (gC (ą (v_var 0) (ą (v_var 1) (ą (ĝ (rC aK bB T.aO PyProof.Rows.boot_list (ċ (ā 2) ĕ))) Ħ)))))))))))
def WX(T:Tx K mg a):ī P w K mg base bQ 1 a.P_ a.QK ["ray"] (cu ⟨K,Ļ a⟩ 1 Ck):=by
 refine ŧ T.yh.F Wn λ_ _ _ _ _ _ _ _=>?_
 exact ř (v_and (jL bU bR (Ĕ (ź uH uR T.CG PyProof.Rows.boot_abs (ċ (ĺ (ā 0) Ă) ĕ))) (Ĕ (mW (.int 1000000) (œ (v:=.int 1000000) rfl T.jz ⟨_,rfl⟩))) (Ŷ _)) (v_and (jL bU bR (Ĕ (ź uH uR T.CG PyProof.Rows.boot_abs (ċ (ĺ (ā 0) Ă) ĕ))) (Ĕ (mW (.int 1000000) (œ (v:=.int 1000000) rfl T.jz ⟨_,rfl⟩))) (Ŷ _)) (fP (sO bU bU bR bR Ă (ĺ (ā 0) Ă) (Ĕ (mW (.int 1000000) (œ (v:=.int 1000000) rfl T.jz ⟨_,rfl⟩)))))))
def WY(T:Tx K mg a):ī P w K mg base bQ 5 a.Qa a.QL ["words","row"] (cu ⟨K,Ļ a⟩ 2 xQ):=by
 refine ŧ T.nD.F Jk λ_ _ _ _ _ _ hr hu=>?_
 exact č (Ŧ (t_eq hu (ā 0) (Ĕ (ĝ (ŵ (ą ŀ Ħ))))) (ř Bm) ĭ) (č (Ŧ (PW.pt (w_or (mq hu (ĺ (ā 0) Ă) Š) (dI (mq hu (Ĕ (ź ŷ aJ T.aA PySem.boot_len (ċ (ā 0) ĕ))) Ă)))) (Ĭ Ű) ĭ) (ŏ Jk (eO (zO GD GF T.vO PyProof.Rows.boot_tuple (ċ (Ĕ (ĝ (ď (wg T) T.aN hr Đ (Ģ (ĝ (Ń (ā 0) (ŉ Ņ) aH)) (Ę 1 Ē))))) ĕ))) (č (Ŧ (fO (ao (Ĕ (ĝ (ď (WX T) T.yh hr Đ (Ę 2 Ē)))))) (Ĭ Ű) ĭ) (au (pG 2)))))
def W_(T:Tx K mg a):ī P w K mg base bQ 6 a.Qc a.QM ["words","row","days"] (Vu ⟨K,Ļ a⟩ 3 Cm):=by
 refine fnW T.nF.F Wo λ_ _ _ _ _ _ hr hu=>?_
 exact oJ (PW.pt (w_or (t_eq hu (Ĕ (vd 2 T.aA (pv 2))) Ă) (dI (t_eq hu (Ĕ (Hx 2 T.aA (Vt (pv 2)))) (Ĕ (mW (.int 24) (œ (v:=.int 24) rfl T.vN ⟨_,rfl⟩))))))) (Ĭ Ű) (Vs (Vt (pv 2)) (ĝ (ď (WY T) T.nD hr Đ (Ę 0 (Ę 1 Ē)))))
def Xa(T:Tx K mg a):ī P w K mg base bQ 2 a.Qd a.QS ["word"] (cu ⟨K,Ļ a⟩ 1 Cp):=by
 refine ŧ T.ud.F Wq λ_ _ _ _ _ _ hr _=>?_
 exact au (ď (Jp T) T.fC hr Đ (Ę 0 (Ģ (mW (.str "abcdefghijklmnopqrstuvwxyz") (œ (v:=.str "abcdefghijklmnopqrstuvwxyz") rfl T.Ec ⟨_,rfl⟩)) (Ģ (mW (.int 8) (œ (v:=.int 8) rfl T.qM ⟨_,rfl⟩)) Ē))))
def Xb(T:Tx K mg a):ī P w K mg base bQ 5 a.Qe a.QT ["words","row"] (cu ⟨K,Ļ a⟩ 2 Cq):=by
 refine ŧ T.qJ.F Jl λ_ _ _ _ _ _ hr hu=>?_
 exact č (Ŧ (PW.pt (w_or (mq hu (Ĕ (ź ŷ aJ T.aA PySem.boot_len (ċ (ā 0) ĕ))) Ă) (dI (fO (ao (Ĕ (ĝ (ď (Xa T) T.ud hr Đ (Ģ (bJ (ā 0) Ă) Ē))))))))) (Ĭ Ű) ĭ) (ŏ Jl (eO (bJ (Ĕ (ĝ (ď (wg T) T.aN hr Đ (Ģ (ĝ (Ń (ā 0) (ŉ Ņ) aH)) (Ę 1 Ē))))) Ă)) (č (Ŧ (fO (YK bU bU bR bR Ă (ā 2) (Ĕ (mW (.int 1000000000) (œ (v:=.int 1000000000) rfl T.vM ⟨_,rfl⟩))))) (Ĭ Ű) ĭ) (au (Vm (BP (bJ (ā 0) Ă) (BP (v_var 2) (Vl (ŵ Ħ))))))))
def Xc(T:Tx K mg a):ī P w K mg base bQ 6 a.Qf a.QV ["words","row","days"] (Vu ⟨K,Ļ a⟩ 3 Cr):=by
 refine fnW T.qK.F Jm λ_ _ _ _ _ _ hr hu=>?_
 exact oJ (PW.pt (w_or (ao (Ĕ (ĝ (ď (Jq T) T.dF hr Đ (Ę 2 Ē))))) (dI (t_eq hu (Ĕ (vd 2 T.aA (pv 2))) (Ĕ (mW (.int 12) (œ (v:=.int 12) rfl T.yj ⟨_,rfl⟩))))))) (Ĭ Ű) (ZaB (i:=3) Jm.nd rfl (Or.inl rfl) (ď (Xb T) T.qJ hr Đ (Ę 0 (Ę 1 Ē))) (oJ (Vk 3 (iJ zY (zX hu) (ĺ (ā 3) Ă) (Ĕ (ĝ (BW ["name","times","turns"] [] 3 (Ć HX) rfl rfl (Zax 2) (λ_ _ _ _ _=>(Zay (i:=0) (j:=1) (k:=2) rfl (show(["name","times","turns"]:List Str).Nodup by decide +kernel) rfl rfl rfl (Or.inl rfl) (Or.inl rfl) (Or.inl rfl) (fx:=Or.inr rfl) (fy:=Or.inr rfl) (fz:=Or.inr rfl))) (λ_ _ _ _ _=>Ł) (λ_ _ _ _ _=>(v_var 0)) trivial))) (by with_unfolding_all rfl))) (Ĭ Ű) (Vr (pv 2) (pv 3))))
def qQ(T:Tx K mg a):ī P w K mg base bQ 1 a.Qg a.QW ["number"] (cu ⟨K,Ļ a⟩ 1 nq):=by
 refine ŧ T.aZ.F Wr λ_ _ _ _ _ _ _ _=>?_
 exact ř (sO bU bU bR bR (Ĕ (ZcD UG Tz (Ĕ (mW (.int 1000000000) (œ (v:=.int 1000000000) rfl T.kj ⟨_,rfl⟩))))) (ā 0) (Ĕ (mW (.int 1000000000) (œ (v:=.int 1000000000) rfl T.kj ⟨_,rfl⟩))))
def Jr(T:Tx K mg a):ī P w K mg base bQ 1 a.Qh a.QX ["number"] (cu ⟨K,Ļ a⟩ 1 xR):=by
 refine ŧ T.gP.F Ws λ_ _ _ _ _ _ _ _=>?_
 exact ř (sO bU bU bR bR Ă (ā 0) (Ĕ (mW (.int 1000000000) (œ (v:=.int 1000000000) rfl T.i_ ⟨_,rfl⟩))))
def Xd(T:Tx K mg a):ī P w K mg base bQ 2 a.Qi a.QZ ["numbers"] (cu ⟨K,Ļ a⟩ 1 xT):=by
 refine ŧ T.jZ.F Wt λ_ _ _ _ _ _ hr hu=>?_
 exact ř (v_and (v_eq hu (Ĕ (ź ŷ aJ T.aA PySem.boot_len (ċ (ā 0) ĕ))) Ă) (v_and (ĝ (ď (qQ T) T.aZ hr Đ (Ģ (bJ (ā 0) Ă) Ē))) (v_and (ĝ (ď (qQ T) T.aZ hr Đ (Ģ (bJ (ā 0) Ă) Ē))) (fP (ĝ (ď (Jr T) T.gP hr Đ (Ģ (bJ (ā 0) Ă) Ē)))))))
def Js(T:Tx K mg a):ī P w K mg base bQ 1 a.nY a.DX ["self","word","numbers"] (Dt ⟨K,Ļ a⟩ 3 "Post" vD):=by
 refine Xv (cm:=Ļ a) (mb:=fV) T.Ĩ.F yD rfl rfl rfl λcdv A outer s H E hr=>?_
 have hu:=hr.units
 exact č (aL ["Thing","Post","Fence","Sail","Cloth","House"] (Zg T) (pv 0) (v_var 1)) (Ĭ (aL ["Thing","Post","Fence","Sail","Cloth","House"] (Z8 T) (pv 0) (ĝ (rC aK bB T.aO PyProof.Rows.boot_list (ċ (ā 2) ĕ)))))
def Ed(T:Tx K mg a):ī P w K mg base bQ 1 a.nY a.DX ["self","word","numbers"] (Dt ⟨K,Ļ a⟩ 3 "Fence" qy):=by
 refine Xv (cm:=Ļ a) (mb:=fV) T.Ĩ.F yD rfl rfl rfl λcdv A outer s H E hr=>?_
 have hu:=hr.units
 exact č (aL ["Thing","Post","Fence","Sail","Cloth","House"] (Zg T) (pv 0) (v_var 1)) (Ĭ (aL ["Thing","Post","Fence","Sail","Cloth","House"] (Z8 T) (pv 0) (ĝ (rC aK bB T.aO PyProof.Rows.boot_list (ċ (ā 2) ĕ)))))
def Jt(T:Tx K mg a):ī P w K mg base bQ 1 a.nY a.DX ["self","word","numbers"] (Dt ⟨K,Ļ a⟩ 3 "Sail" vG):=by
 refine Xv (cm:=Ļ a) (mb:=fV) T.Ĩ.F yD rfl rfl rfl λcdv A outer s H E hr=>?_
 have hu:=hr.units
 exact č (aL ["Thing","Post","Fence","Sail","Cloth","House"] (Zg T) (pv 0) (v_var 1)) (Ĭ (aL ["Thing","Post","Fence","Sail","Cloth","House"] (Z8 T) (pv 0) (ĝ (rC aK bB T.aO PyProof.Rows.boot_list (ċ (ā 2) ĕ)))))
def Ef(T:Tx K mg a):ī P w K mg base bQ 1 a.nY a.DX ["self","word","numbers"] (Dt ⟨K,Ļ a⟩ 3 "Cloth" qz):=by
 refine Xv (cm:=Ļ a) (mb:=fV) T.Ĩ.F yD rfl rfl rfl λcdv A outer s H E hr=>?_
 have hu:=hr.units
 exact č (aL ["Thing","Post","Fence","Sail","Cloth","House"] (Zg T) (pv 0) (v_var 1)) (Ĭ (aL ["Thing","Post","Fence","Sail","Cloth","House"] (Z8 T) (pv 0) (ĝ (rC aK bB T.aO PyProof.Rows.boot_list (ċ (ā 2) ĕ)))))
def Eh(T:Tx K mg a):ī P w K mg base bQ 1 a.nY a.DX ["self","word","numbers"] (Dt ⟨K,Ļ a⟩ 3 "House" qC):=by
 refine Xv (cm:=Ļ a) (mb:=fV) T.Ĩ.F yD rfl rfl rfl λcdv A outer s H E hr=>?_
 have hu:=hr.units
 exact č (aL ["Thing","Post","Fence","Sail","Cloth","House"] (Zg T) (pv 0) (v_var 1)) (Ĭ (aL ["Thing","Post","Fence","Sail","Cloth","House"] (Z8 T) (pv 0) (ĝ (rC aK bB T.aO PyProof.Rows.boot_list (ċ (ā 2) ĕ)))))
def Ro(T:Tx K mg a):ī P w K mg base bQ 2 a.Zbf a.Zbn ["numbers"] (cu ⟨K,Ļ a⟩ 1 DR):=by
 refine ŧ T.cM.F Zbt λ_ _ _ _ _ _ hr hu=>?_
 exact ř (v_and (v_eq hu (Ĕ (ź ŷ aJ T.aA PySem.boot_len (ċ (ā 0) ĕ))) Ă) (v_and (ź (lG rfl) lW T.uf PyProof.Rows.boot_all (ċ (Ĕ (ĝ (gj (gJ (ĝ (Ń (ā 0) aH (ŉ Ņ)))) cJ Ł (ĝ (ď (qQ T) T.aZ hr Đ (Ę 0 Ē)))))) ĕ)) (fP (ĝ (ď (Jr T) T.gP hr Đ (Ģ (bJ (ā 0) Ă) Ē))))))
def Xe(T:Tx K mg a):ī P w K mg base bQ 3 a.Qj a.Q_ ["numbers"] (cu ⟨K,Ļ a⟩ 1 xU):=by
 refine ŧ T.iY.F Wu λ_ _ _ _ _ _ hr hu=>?_
 exact ř (v_and (ĝ (ď (Ro T) T.cM hr Đ (Ę 0 Ē))) (fP (jL M_ (FT hu) (Ĕ (ĝ (Ń (ā 0) aH (ŉ Ņ)))) (Ĕ (ĝ (Ń (ā 0) (ŉ Ņ) (ŉ Ņ)))) (Ŷ _))))
def Rq(T:Tx K mg a):ī P w K mg base bQ 3 a.Zbg a.Zbo ["numbers"] (cu ⟨K,Ļ a⟩ 1 DW):=by
 refine ŧ T.ţ.F Zbu λ_ _ _ _ _ _ hr _=>?_
 exact ř (v_and (ĝ (ď (Ro T) T.cM hr Đ (Ę 0 Ē))) (v_and (jL Bq Ba (ĺ (ā 0) Ă) (ĺ (ā 0) Ă) (Ŷ _)) (fP (jL Bq Ba (ĺ (ā 0) Ă) (ĺ (ā 0) Ă) (Ŷ _)))))
def ZbA(T:Tx K mg a):ī P w K mg base bQ 2 a.Zbh a.Zbp ["numbers"] (cu ⟨K,Ļ a⟩ 1 Lz):=by
 refine ŧ T.cZ.F Zbv λ_ _ _ _ _ _ hr _=>?_
 exact ř (v_and (ĝ (ď (qQ T) T.aZ hr Đ (Ģ (bJ (ā 0) Ă) Ē))) (v_and (ĝ (ď (qQ T) T.aZ hr Đ (Ģ (bJ (ā 0) Ă) Ē))) (fP (sO bU bU bR bR Ă (ĺ (ā 0) Ă) (Ĕ (mW (.int 1000000000) (œ (v:=.int 1000000000) rfl T.i_ ⟨_,rfl⟩)))))))
def Xf(T:Tx K mg a):ī P w K mg base bQ 3 a.Qk a.Ra ["numbers"] (cu ⟨K,Ļ a⟩ 1 xV):=by
 refine ŧ T.iZ.F Wv λ_ _ _ _ _ _ hr hu=>?_
 exact ř (v_and (v_eq hu (Ĕ (ź ŷ aJ T.aA PySem.boot_len (ċ (ā 0) ĕ))) Ă) (fP (ź (lG rfl) lW T.uf PyProof.Rows.boot_all (ċ (Ĕ (ĝ (gj (gJ (gC (ą Ņ (ą Ņ (ą Ņ Ħ))))) cJ Ł (ĝ (ď (ZbA T) T.cZ hr Đ (Ģ (ĝ (Ń (ā 0) (ŉ (v_var 1)) (ŉ (v_add (ā 1) Ă)))) Ē)))))) ĕ))))
def Ju(T:Tx K mg a):ī P w K mg base bQ 4 a.Ql a.Rb ["word","numbers"] (cu ⟨K,Ļ a⟩ 2 fW):=by
 refine ŧ T.jy.F Ww λ_ _ _ _ _ _ hr hu=>?_
 exact č (Ŧ (PW.pt (w_and (t_eq hu (ā 0) Š) (lH (ao (Ĕ (ĝ (ď (Xd T) T.jZ hr Đ (Ę 1 Ē)))))))) (ř (lX T.Wh (Js T) aY hr.mo rfl (Z1A T) T.Ĩ.b Đ (Ę 0 (Ę 1 Ē)))) ĭ) (č (Ŧ (PW.pt (w_and (t_eq hu (ā 0) Š) (lH (ao (Ĕ (ĝ (ď (Xe T) T.iY hr Đ (Ę 1 Ē)))))))) (ř (lX T.LR (Ed T) aY hr.mo rfl (Z16 T) T.Ĩ.b Đ (Ę 0 (Ę 1 Ē)))) ĭ) (č (Ŧ (PW.pt (w_and (t_eq hu (ā 0) Š) (lH (ao (Ĕ (ĝ (ď (Rq T) T.ţ hr Đ (Ę 1 Ē)))))))) (ř (lX T.Wi (Jt T) aY hr.mo rfl (Z1B T) T.Ĩ.b Đ (Ę 0 (Ę 1 Ē)))) ĭ) (č (Ŧ (PW.pt (w_and (t_eq hu (ā 0) Š) (lH (ao (Ĕ (ĝ (ď (Xf T) T.iZ hr Đ (Ę 1 Ē)))))))) (ř (lX T.L_ (Ef T) aY hr.mo rfl (Z17 T) T.Ĩ.b Đ (Ę 0 (Ę 1 Ē)))) ĭ) (č (Ŧ (PW.pt (w_and (t_eq hu (ā 0) Š) (lH (ao (Ĕ (ĝ (ď (Rq T) T.ţ hr Đ (Ę 1 Ē)))))))) (ř (lX T.Ma (Eh T) aY hr.mo rfl (Z18 T) T.Ĩ.b Đ (Ę 0 (Ę 1 Ē)))) ĭ) (Ĭ Ű)))))
def Xg(T:Tx K mg a):ī P w K mg base bQ 5 a.Qm a.Rf ["words","row"] (cu ⟨K,Ļ a⟩ 2 Cu):=by
 refine ŧ T.j_.F Jo λ_ _ _ _ _ _ hr _=>?_
 exact ŏ Jo (ď (wg T) T.aN hr Đ (Ģ (ĝ (Ń (ā 0) (ŉ Ņ) aH)) (Ę 1 Ē))) (Ĭ (VJ (λ_ _ _=>(au (ď (Ju T) T.jy hr Đ (Ģ (bJ (ā 0) Ă) (Ę 2 Ē)))))))
def Xh(T:Tx K mg a):ī P w K mg base bQ 6 a.Qn a.Rg ["words","row","things","days"] (Vu ⟨K,Ļ a⟩ 4 xW):=by
 refine fnW T.kh.F Wx λ_ _ _ _ _ _ hr hu=>?_
 exact oJ (PW.pt (w_or (iJ MN Mq (Ĕ (vd 3 T.aA (pv 3))) Ă (Ŷ _)) (dI (t_eq hu (Ĕ (ź ŷ aJ T.aA PySem.boot_len (ċ (ā 2) ĕ))) (Ĕ (mW (.int 40) (œ (v:=.int 40) rfl T.rH ⟨_,rfl⟩))))))) (Ĭ Ű) (Vq (pv 2) (ĝ (ď (Xg T) T.j_ hr Đ (Ę 0 (Ę 1 Ē)))))
def Xi(T:Tx K mg a):ī P w K mg base bQ 7 a.Qo a.Rh ["words","row","things","days"] (Vu ⟨K,Ļ a⟩ 4 aU):=by
 refine fnW T.fG.F Wy λ_ _ _ _ _ _ hr hu=>?_
 exact ZaA (iJ zY (zX hu) (ĺ (ā 0) Ă) (Ĕ (gC (ą ŀ (ą ŀ Ħ)))) (by with_unfolding_all rfl)) (w_call (W_ T) T.nF hr Đ (ť 0 (pv 0) (ť 1 (pv 1) (ť 3 (pv 3) u_)))) (ZaA (t_eq hu (ĺ (ā 0) Ă) Š) (w_call (Xc T) T.qK hr Đ (ť 0 (pv 0) (ť 1 (pv 1) (ť 3 (pv 3) u_)))) (w_call (Xh T) T.kh hr Đ (ť 0 (pv 0) (ť 1 (pv 1) (ť 2 (pv 2) (ť 3 (pv 3) u_))))))
def Xj(T:Tx K mg a):ī P w K mg base bQ 8 a.Qp a.Ri ["text"] (cu ⟨K,Ļ a⟩ 1 Cv):=by
 refine ŧ T.nG.F jA λ_ _ _ _ _ _ hr _=>?_
 exact č (Vn jA (gJ (ĝ (ZaQ PySem.F.plainAttrs_str PySem.F.slot_str_split PySem.F.type_str_split xO xM (ā 0) (ċ Š ĕ)))) cJ Ł (ĝ (ZaQ PySem.F.plainAttrs_str PySem.F.slot_str_split PySem.F.type_str_split xO xM (ā 0) (ċ Š ĕ)))) (ŏ jA (ď (WW T) T.nC hr Đ (Ģ (bJ (ā 1) Ă) (Ģ Ņ Ē))) (ZdK (oX jA.nd (i:=3) rfl (Or.inl rfl) (zm Ś)) (oX jA.nd (i:=4) rfl (Or.inl rfl) (zm Ś)) PassesOwn.leaving rfl (Lk rfl T.yt (Zdz (ĝ (Ń (ā 1) (ŉ Ņ) aH)))) (k_ rfl (Ş (Ż jA.nd (i:=5) rfl (Or.inl rfl)) (Ş (Ż jA.nd (i:=6) rfl (Or.inl rfl)) jE rfl) rfl) rfl rfl) (cP (ľ (xG (Xi T) hr.mo rfl T.fG.m T.fG.F.kp T.fG.b Đ (ť 6 (pv 6) (ť 5 (pv 5) (ť 3 (pv 3) (ť 4 (pv 4) u_))))))) (č (Ŧ (ao (Ĕ (ĝ (ď (Jq T) T.dF hr Đ (Ę 4 Ē))))) (Ĭ Ű) ĭ) (ř (lX T.Je (yF T) aY hr.mo rfl (Z0r T) T.bO.b Đ (Ģ (bJ (ā 2) Ă) (Ģ (bJ (ā 2) Ă) (Ę 3 (Ę 4 Ē))))))) (λ_ _=>rfl)))
def fY(T:Tx K mg a):ī P w K mg base bQ 1 a.xZ a.Zbq ["self"] (cu ⟨K,Ļ a⟩ 1 ń):=by
 refine ŧ T.ĩ.F Zbw λ_ _ _ _ _ _ _ _=>?_
 exact ř (wW PySem.F.plainAttrs_str PySem.F.slot_str_join PySem.F.type_str_join ig gY Š (ċ (aR (Ĕ (ĝ (ŵ (ą (cW ["Thing","Post","Fence","Sail","Cloth","House"] (Zg T) (ā 0)) Ħ)))) (Ĕ (ĝ (gj (gJ (cW ["Thing","Post","Fence","Sail","Cloth","House"] (Z8 T) (ā 0))) cJ Ł (zO jR jT T.yu PyProof.Rows.boot_str (ċ (ā 0) ĕ)))))) ĕ))
def Jv(T:Tx K mg a):ī P w K mg base bQ 2 a.Qq a.Rj ["_law_yard","_law_width","_law_height","_law_things_here","_law_days_here"] (cu ⟨K,Ļ a⟩ 5 xX):=by
 refine ŧ T.gQ.F Al λ_ _ _ _ _ _ hr hu=>?_
 exact č (Ŧ (PW.pt (w_or (fO (ao (Ĕ (ź lR lU T.Ŵ PyProof.Rows.boot_isinstance (ċ (Ĕ (cW ["Yard"] (Zm T) (ā 0))) (ċ (Ĕ (mW (.ty "int") (gU (v:=.ty "int") rfl T.Rn PyProof.Rows.boot_int rfl))) ĕ)))))) (w_or (mq hu (Ĕ (cW ["Yard"] (Zm T) (ā 0))) (ā 1)) (dI (mq hu (Ĕ (cW ["Yard"] (Zq T) (ā 0))) (ā 2)))))) (ř uL) ĭ) (č (Ŧ (fO (ao (Ĕ (ź lR lU T.Ŵ PyProof.Rows.boot_isinstance (ċ (Ĕ (cW ["Yard"] (Zj T) (ā 0))) (ċ (Ĕ (mW (.ty "list") (gU (v:=.ty "list") rfl T.aO PyProof.Rows.boot_list rfl))) ĕ)))))) (ř uL) ĭ) (č (Ŧ (mq hu (Ĕ (ĝ (gj (gJ (cW ["Yard"] (Zj T) (ā 0))) cJ Ł (ĝ (Bx (GP:= "shown") (k:=1) (n:=1) (gk:=[("Thing",ń),("Post",ń),("Fence",ń),("Sail",ń),("Cloth",ń),("House",ń)]) ⟨⟨T.oO,_,_,_,T.jc,(fY T).mono (by decide),T.ĩ.b,Ř⟩,⟨⟨T.vQ,_,_,_,T.kE,(fY T).mono (by decide),T.ĩ.b,Ř⟩,⟨⟨T.oR,_,_,_,T.jd,(fY T).mono (by decide),T.ĩ.b,Ř⟩,⟨⟨T.vU,_,_,_,T.kI,(fY T).mono (by decide),T.ĩ.b,Ř⟩,⟨⟨T.oU,_,_,_,T.je,(fY T).mono (by decide),T.ĩ.b,Ř⟩,⟨⟨T.oV,_,_,_,T.jf,(fY T).mono (by decide),T.ĩ.b,Ř⟩,trivial⟩⟩⟩⟩⟩⟩ hr.mo Đ (v_var 0)))))) (Ĕ (ĝ (gj (aG 3) cJ Ł (ĝ (ď (yE T) T.Ţ hr Đ (Ę 0 Ē))))))) (ř uL) ĭ) (č (Ŧ (PW.pt (w_or (fO (ao (Ĕ (ź lR lU T.Ŵ PyProof.Rows.boot_isinstance (ċ (Ĕ (cW ["Yard"] (Zk T) (ā 0))) (ċ (Ĕ (mW (.ty "list") (gU (v:=.ty "list") rfl T.aO PyProof.Rows.boot_list rfl))) ĕ)))))) (dI (mq hu (Ĕ (ź ŷ aJ T.aA PySem.boot_len (ċ (Ĕ (cW ["Yard"] (Zk T) (ā 0))) ĕ))) (Ĕ (ź ŷ aJ T.aA PySem.boot_len (ċ (ā 4) ĕ))))))) (ř uL) ĭ) (č (iK PassesOwn.leaving rfl (cF rfl T.dg (ą (ź ŷ aJ T.aA PySem.boot_len (ċ (ā 4) ĕ)) Ħ)) (gb Al) (ŏ Al (eO (bJ (Ĕ (cW ["Yard"] (Zk T) (ā 0))) (ā 5))) (č (Ŧ (PW.pt (w_or (fO (ao (Ĕ (ź lR lU T.Ŵ PyProof.Rows.boot_isinstance (ċ (ā 6) (ċ (Ĕ (mW (.ty "tuple") (gU (v:=.ty "tuple") rfl T.vO PyProof.Rows.boot_tuple rfl))) ĕ)))))) (w_or (fO (ao (Ĕ (ź lR lU T.Ŵ PyProof.Rows.boot_isinstance (ċ (ĺ (ā 6) Ă) (ċ (Ĕ (mW (.ty "list") (gU (v:=.ty "list") rfl T.aO PyProof.Rows.boot_list rfl))) ĕ)))))) (dI (mq hu (ā 6) (ĺ (ā 4) (ā 5))))))) (ř uL) ĭ) (Ĭ (Ŧ (fO (ao (Ĕ (ź (lG rfl) lW T.uf PyProof.Rows.boot_all (ċ (Ĕ (ĝ (gj (gJ (bJ (ā 6) Ă)) cJ Ł (v_or (jL Bs uw (ā 0) BR (Ŷ _)) (fP (ź lR lU T.Ŵ PyProof.Rows.boot_isinstance (ċ (ā 0) (ċ (Ĕ (mW (.ty "tuple") (gU (v:=.ty "tuple") rfl T.vO PyProof.Rows.boot_tuple rfl))) ĕ)))))))) ĕ))))) (ř uL) ĭ))))) (ř uL)))))
def Xk(T:Tx K mg a):ī P w K mg base bQ 1 a.Qs a.Rk ["turn"] (cu ⟨K,Ļ a⟩ 1 qF):=by
 refine ŧ T.nH.F Wz λ_ _ _ _ _ _ _ _=>?_
 exact č (Ŧ (iJ Bs uw (ā 0) BR (Ŷ _)) (ř ŀ) ĭ) (ř (wW PySem.F.plainAttrs_str PySem.F.slot_str_join PySem.F.type_str_join ig gY Š (ċ (aR (Ĕ (ĝ (ŵ (ą ŀ Ħ)))) (Ĕ (ĝ (gj (aG 0) cJ Ł (zO jR jT T.yu PyProof.Rows.boot_str (ċ (ā 0) ĕ)))))) ĕ)))
def Jw(T:Tx K mg a):ī P w K mg base bQ 2 a.Qt a.Rm ["yard"] (cu ⟨K,Ļ a⟩ 1 xY):=by
 refine ŧ T.gR.F qP λ_ _ _ _ _ _ hr _=>?_
 exact ŏ qP (ŵ (ą (wW PySem.F.plainAttrs_str PySem.F.slot_str_join PySem.F.type_str_join ig gY Š (ċ (Ĕ (ĝ (ŵ (ą ŀ (ą (zO jR jT T.yu PyProof.Rows.boot_str (ċ (Ĕ (cW ["Yard"] (Zm T) (ā 0))) ĕ)) (ą (zO jR jT T.yu PyProof.Rows.boot_str (ċ (Ĕ (cW ["Yard"] (Zq T) (ā 0))) ĕ)) Ħ)))))) ĕ)) Ħ)) (č (PS.wk (ľ (aD PySem.F.plainAttrs_list PySem.F.slot_list_extend PySem.F.type_list_extend rZ (pv 1) (Ĳ (gj (gJ (cW ["Yard"] (Zj T) (ā 0))) cJ Ł (ĝ (Bx (GP:= "shown") (k:=1) (n:=1) (gk:=[("Thing",ń),("Post",ń),("Fence",ń),("Sail",ń),("Cloth",ń),("House",ń)]) ⟨⟨T.oO,_,_,_,T.jc,(fY T).mono (by decide),T.ĩ.b,Ř⟩,⟨⟨T.vQ,_,_,_,T.kE,(fY T).mono (by decide),T.ĩ.b,Ř⟩,⟨⟨T.oR,_,_,_,T.jd,(fY T).mono (by decide),T.ĩ.b,Ř⟩,⟨⟨T.vU,_,_,_,T.kI,(fY T).mono (by decide),T.ĩ.b,Ř⟩,⟨⟨T.oU,_,_,_,T.je,(fY T).mono (by decide),T.ĩ.b,Ř⟩,⟨⟨T.oV,_,_,_,T.jf,(fY T).mono (by decide),T.ĩ.b,Ř⟩,trivial⟩⟩⟩⟩⟩⟩ hr.mo Đ (v_var 0)))) Ś))) λ_ _ _ h=>BL h) (č (iK PassesOwn.leaving rfl (gJ (cW ["Yard"] (Zk T) (ā 0))) (Gn rfl (ű (gb qP) (ű (gb qP) (ű (gb qP) pJ)))) (č (PS.wk (ľ (aD PySem.F.plainAttrs_list PySem.F.slot_list_append PySem.F.type_list_append ı (pv 1) (ą (ZdP (oM ŀ (oM (Np (v_var 2)) (oM ŀ (oM (Np (v_var 3)) VG))))) Ħ))) λ_ _ _ h=>cj h) (Ĭ (PS.wk (ľ (aD PySem.F.plainAttrs_list PySem.F.slot_list_extend PySem.F.type_list_extend rZ (pv 1) (Ĳ (gj (aG 4) cJ Ł (ĝ (ď (Xk T) T.nH hr Đ (Ę 0 Ē)))) Ś))) λ_ _ _ h=>BL h)))) (ř (wW PySem.F.plainAttrs_str PySem.F.slot_str_join PySem.F.type_str_join ig gY Š (ċ (ā 1) ĕ)))))
def Xl(T:Tx K mg a):ī P w K mg base bQ 9 a.Qu a.Jc ["_law_script"] (cu ⟨K,Ļ a⟩ 1 uc):=by
 refine ŧ T.Jd.F bf λ_ _ _ _ _ _ hr hu=>?_
 exact ŏ bf (mX Ă (į (Ĕ (ĝ (ď (vZ T) T.bK hr Đ (Ę 0 (Ģ Ņ Ē))))) Ă)) (ŏ bf (mX Ă (į (iR (Ĕ (ĝ (ď (vZ T) T.bK hr Đ (Ę 0 (Ģ Ņ Ē))))) Ă) Ă)) (ŏ bf (ď (Zby T) T.iV hr Đ (Ę 0 (Ę 1 (Ę 2 Ē)))) (ŏ bf (ď (WM T) T.nu hr Đ (Ę 0 Ē)) (ŏ bf (ď (Zbz T) T.dW hr Đ (Ę 1 (Ę 2 (Ę 3 (Ę 4 Ē))))) (ŏ bf (ď (Xj T) T.nG hr Đ (Ę 5 Ē)) (č (Ŧ (PW.pt (w_or (fO (ao (Ĕ (ĝ (ď (Jv T) T.gQ hr Đ (Ę 6 (Ę 1 (Ę 2 (Ę 3 (Ę 4 Ē)))))))))) (dI (mq hu (Ĕ (ĝ (ď (Jw T) T.gR hr Đ (Ę 6 Ē)))) (ā 5))))) (ř uL) ĭ) (č (Vn bf (aG 3) cJ Ł (ĝ (ď (Ju T) T.jy hr Đ (Ģ (bJ (ā 0) Ă) (Ģ (ĝ (rC aK bB T.aO PyProof.Rows.boot_list (ċ (Ĕ (ĝ (Ń (ā 0) (ŉ Ņ) aH))) ĕ))) Ē))))) (ZaY (HW (i:=8) bf.nd rfl rfl ["_law_name","_law_often","_law_turns"] [] 3 (Ć HY) rfl rfl (aG 4) (λ_ _ _ _ _=>(k_ rfl (Ş (Ż (i:=0) (show(["_law_name","_law_often","_law_turns"]:List Str).Nodup by decide +kernel) rfl (Or.inl rfl) (Or.inr rfl)) (Ş (Ż (i:=1) (show(["_law_name","_law_often","_law_turns"]:List Str).Nodup by decide +kernel) rfl (Or.inl rfl) (Or.inr rfl)) (Ş (Ż (i:=2) (show(["_law_name","_law_often","_law_turns"]:List Str).Nodup by decide +kernel) rfl (Or.inl rfl) (Or.inr rfl)) jE rfl) rfl) rfl) rfl rfl)) (λ_ _ _ _ _=>Bc) (λ_ _ _ _ _=>(zj (Ĳ (pv 0) (Ĳ (pv 1) (Ĳ (lC aK (by rfl) T.aO PyProof.Rows.boot_list (Ĳ (pv 2) Ś)) Ś))))) trivial) (oX (i:=9) bf.nd rfl (Or.inl rfl) (Zaz T.Je (yF T) hr.mo rfl (Z0r T) T.bO.b Đ (Ĳ (pv 1) (Ĳ (pv 2) (Ĳ (pv 7) (Ĳ (pv 8) Ś)))))) aY (ľ (aD PySem.F.plainAttrs_list PySem.F.slot_list_append PySem.F.type_list_append ı (pv 7) (Ĳ ur Ś))) PassesOwn.leaving rfl (uN (pv 8)) (k_ rfl (Ş (Ż bf.nd (i:=10) rfl (Or.inl rfl)) (Ş (Ż bf.nd (i:=11) rfl (Or.inl rfl)) (Ş (Ż bf.nd (i:=12) rfl (Or.inl rfl)) jE rfl) rfl) rfl) rfl rfl) (cP (ľ (aD PySem.F.plainAttrs_list PySem.F.slot_list_append PySem.F.type_list_append ı (pv 12) (Ĳ ur Ś)))) (ľ (aD PySem.F.plainAttrs_list PySem.F.slot_list_append PySem.F.type_list_append ı (pv 8) (Ĳ ur Ś))) (ř (v_and (ĝ (ď (Jv T) T.gQ hr Đ (Ę 9 (Ę 1 (Ę 2 (Ę 3 (Ę 4 Ē))))))) (fP (v_eq hu (Ĕ (ĝ (ď (Jw T) T.gR hr Đ (Ę 9 Ē)))) (ā 5))))) (by decide) (by decide) (by decide) (by decide) (by decide) (by decide) (by decide) (by decide) (by decide) (by decide) (by decide) (by decide)))))))))
end
def Sl(s:P.Slot)(ps:List PV):Prop:=s=.sh (.lst ps)\/s=.bw ps
def Sl.lend{s:P.Slot}{ps:List PV}(h:Sl s ps):aF s=some s:=by rcases h with rfl|rfl<;>rfl
def Sl.it{s:P.Slot}{ps:List PV}(h:Sl s ps){i:Nat}{ρ:ħ}(e:ρ[i]?=some s):Ň i ρ=.ok ps ρ:= by
 rcases h with rfl|rfl<;>simp[e]
theorem Zx:∀l:List Bool,boolsOf (l.map .bl)=some l
 | []=>rfl
 |x::l=>by rw[List.map_cons,boolsOf,Zx l];rfl
def Z0a(l:List Bool):lV [.lst (l.map .bl)]=some (.bl (l.all id)):=by
 show(boolsOf (l.map .bl)).map (λbs=>PV.bl (bs.all id))=_
 rw[Zx]
 rfl
def Rr(s:P.Slot)(ps:List PV):Prop:=s=.sh (.lst ps)\/s=.bw ps
def aP(x:Int):Bool:=decide (-1000000000<=x/\x<=1000000000)
def Ei(x:Int):Bool:=decide (1<=x/\x<=1000000000)
def yK(x:Int):Bool:=decide (0<=x/\x<=1000000000)
def ZE(x:Int):nq [.sh (.int x)]=.ret (.sh (.bl (aP x))):=by
 unfold aP
 by_cases h1: -1000000000<=x<;>by_cases h2:x<=1000000000<;>simp[nq,Io,List.replicate,h1,h2]
def ZW(x:Int):xR [.sh (.int x)]=.ret (.sh (.bl (Ei x))):=by
 unfold Ei
 by_cases h1:1<=x<;>by_cases h2:x<=1000000000<;>simp[xR,Ip,List.replicate,h1,h2]
def Za:List Int->Bool
 | [p,q,h]=>aP p && aP q && Ei h
 |_=>false
def Z6:List Int->Bool
 | [x,y,u,v,h]=>aP x && aP y && aP u && aP v && Ei h
 |_=>false
def Z4:List Int->Bool
 | [x,y,u,v,h]=>Z6 [x,y,u,v,h] && !(decide (x=u) && decide (y=v))
 |_=>false
def Z3:List Int->Bool
 | [x,y,u,v,h]=>Z6 [x,y,u,v,h] && decide (x<u) && decide (y<v)
 |_=>false
def Z5:List Int->Bool
 | [a,b,c,d,e,f,g,h,i]=>aP a && aP b && yK c && (aP d && aP e && yK f) && (aP g && aP h && yK i)
 |_=>false
def Z1Y(a b c:Bool):lV [.lst [.bl a,.bl b,.bl c]]=some (.bl (a && b && c)):=by cases a<;>cases b<;>cases c<;>rfl
def Z1Z(a b c d:Bool):lV [.lst [.bl a,.bl b,.bl c,.bl d]]=some (.bl (a && b && c && d)):=by cases a<;>cases b<;>cases c<;>cases d<;>rfl
def Z05{xs:List Int}{sl:P.Slot}(hs:Rr sl (xs.map .int)):xT [sl]=.ret (.sh (.bl (Za xs))):=by
 by_cases hl:xs.length=3
 ·match xs,hl with
  | [a,b,c],_=>
    have h:Za [a,b,c]=(aP a && aP b && Ei c):=rfl
    rw[h]
    rcases hs with rfl|rfl<;>cases ea:aP a<;>cases eb:aP b<;>cases ec:Ei c<;>simp[xT,Ae,List.replicate,ZE,ZW,ea,eb,ec]
 ·have h:Za xs=false:=by
   unfold Za
   split
   ·simp at hl
   ·rfl
  rw[h]
  have hl':¬((xs.length:Nat):Int)=3:=by omega
  rcases hs with rfl|rfl<;>simp[xT,Ae,List.replicate,hl']
def Z0s{xs:List Int}{sl:P.Slot}(hs:Rr sl (xs.map .int)):DR [sl]=.ret (.sh (.bl (Z6 xs))):=by
 by_cases hl:xs.length=5
 ·match xs,hl with
  | [a,b,c,d,e],_=>
    have h:Z6 [a,b,c,d,e]=(aP a && aP b && aP c && aP d && Ei e):=rfl
    rw[h]
    have hc:aX ([.int a,.int b,.int c,.int d,.int e]:List PV) none (some 4)=[.int a,.int b,.int c,.int d]:=rfl
    have hb:=Z1Z (aP a) (aP b) (aP c) (aP d)
    rcases hs with rfl|rfl<;>cases ea:(aP a && aP b && aP c && aP d)<;>cases ec:Ei e<;>rw[ea] at hb<;>simp[DR,Ir,List.replicate,ZE,ZW,hc,Ō,hb,ec]
 ·have h:Z6 xs=false:=by
   unfold Z6
   split
   ·simp at hl
   ·rfl
  rw[h]
  have hl':¬((xs.length:Nat):Int)=5:=by omega
  rcases hs with rfl|rfl<;>simp[DR,Ir,List.replicate,hl']
def Z20(a b c d:Int):ž (.lst [.int a,.int b]) (.lst [.int c,.int d])=some (.bl (!(decide (a=c) && decide (b=d)))):=by
 have h:eqB (.lst [.int a,.int b]) (.lst [.int c,.int d])=(decide (a=c) && decide (b=d)):=by
  simp[eqB,lN]
  rw[Bool.eq_iff_iff]
  simp
 unfold ž nR
 rw[h]
 simp[ň,ų,dep,dB]
def Z1u{xs:List Int}(hl:¬xs.length=5):Z6 xs=false:=by
 unfold Z6
 split
 ·simp at hl
 ·rfl
def Z0D{s:P.Slot}{ps:List PV}(h:Rr s ps):aF s=some s:=by rcases h with rfl|rfl<;>rfl
def Z19{xs:List Int}{sl:P.Slot}(hs:Rr sl (xs.map .int)):xU [sl]=.ret (.sh (.bl (Z4 xs))):=by
 have he:=Z0s hs
 by_cases hl:xs.length=5
 ·match xs,hl with
  | [a,b,c,d,e],_=>
    have h:Z4 [a,b,c,d,e]=(Z6 [a,b,c,d,e] && !(decide (a=c) && decide (b=d))):=rfl
    rw[h]
    have h1:aX ([.int a,.int b,.int c,.int d,.int e]:List PV) none (some 2)=[.int a,.int b]:=rfl
    have h2:aX ([.int a,.int b,.int c,.int d,.int e]:List PV) (some 2) (some 4)=[.int c,.int d]:=rfl
    have h3:=Z20 a b c d
    generalize Z6 [a,b,c,d,e]=q at *
    generalize (!(decide (a=c) && decide (b=d)))=r at *
    rcases hs with rfl|rfl<;>cases q<;>simp_all [xU,Af,List.replicate]
 ·have h:Z4 xs=false:=by
   unfold Z4
   split
   ·simp at hl
   ·rfl
  rw[h]
  rw[Z1u hl] at he
  simp[xU,Af,List.replicate,Z0D hs,he]
def Z1C{xs:List Int}{sl:P.Slot}(hs:Rr sl (xs.map .int)):DW [sl]=.ret (.sh (.bl (Z3 xs))):=by
 have he:=Z0s hs
 by_cases hl:xs.length=5
 ·match xs,hl with
  | [a,b,c,d,e],_=>
    have h:Z3 [a,b,c,d,e]=(Z6 [a,b,c,d,e] && decide (a<c) && decide (b<d)):=rfl
    rw[h]
    generalize Z6 [a,b,c,d,e]=q at *
    rcases hs with rfl|rfl<;>simp only[List.map_cons,List.map_nil] at he<;>cases q<;>by_cases h1:a<c<;>by_cases h2:b<d<;>simp[DW,Iu,List.replicate,he,h1,h2]
 ·have h:Z3 xs=false:=by
   unfold Z3
   split
   ·simp at hl
   ·rfl
  rw[h]
  rw[Z1u hl] at he
  simp[DW,Iu,List.replicate,Z0D hs,he]
def Zy(a b c:Int):Lz [.sh (.lst [.int a,.int b,.int c])]=.ret (.sh (.bl (aP a && aP b && yK c))):=by
 unfold yK
 cases ea:aP a<;>cases eb:aP b<;>by_cases h1:0<=c<;>by_cases h2:c<=1000000000<;>simp[Lz,Ph,List.replicate,ZE,ea,eb,h1,h2]
def Z1a{xs:List Int}{sl:P.Slot}(hs:Rr sl (xs.map .int)):xV [sl]=.ret (.sh (.bl (Z5 xs))):=by
 by_cases hl:xs.length=9
 ·match xs,hl with
  | [a,b,c,d,e,f,g,h,i],_=>
    have hc:Z5 [a,b,c,d,e,f,g,h,i]=((aP a && aP b && yK c) && (aP d && aP e && yK f) && (aP g && aP h && yK i)):=rfl
    rw[hc]
    have h1:aX ([.int a,.int b,.int c,.int d,.int e,.int f,.int g,.int h,.int i]:List PV) (some 0) (some 3)=[.int a,.int b,.int c]:=rfl
    have h2:aX ([.int a,.int b,.int c,.int d,.int e,.int f,.int g,.int h,.int i]:List PV) (some 3) (some 6)=[.int d,.int e,.int f]:=rfl
    have h3:aX ([.int a,.int b,.int c,.int d,.int e,.int f,.int g,.int h,.int i]:List PV) (some 6) (some 9)=[.int g,.int h,.int i]:=rfl
    have hb:=Z1Y (aP a && aP b && yK c) (aP d && aP e && yK f) (aP g && aP h && yK i)
    have k1:=Zy a b c
    have k2:=Zy d e f
    have k3:=Zy g h i
    generalize (aP a && aP b && yK c)=q1 at *
    generalize (aP d && aP e && yK f)=q2 at *
    generalize (aP g && aP h && yK i)=q3 at *
    rcases hs with rfl|rfl<;>simp[xV,Ag,List.replicate,Ō,h1,h2,h3,k1,k2,k3,hb]
 ·have h:Z5 xs=false:=by
   unfold Z5
   split
   ·simp at hl
   ·rfl
  rw[h]
  have hl':¬((xs.length:Nat):Int)=9:=by omega
  rcases hs with rfl|rfl<;>simp[xV,Ag,List.replicate,hl']
def Ze(w:Str):String:=if w= "post" then "Post" else if w= "fence" then "Fence" else if w= "sail" then "Sail" else if w= "cloth" then "Cloth" else "House"
def Zc(C:String)(w:Str)(xs:List Int):PV:=.ins C ["word","numbers"] [.str w,.lst (xs.map .int)]
def Z1(w:Str)(xs:List Int):Bool:=if w= "post" then Za xs else if w= "fence" then Z4 xs else if w= "sail" then Z3 xs else if w= "cloth" then Z5 xs else if w= "house" then Z3 xs else false
def wn:((Str.ofString "word")=(Str.ofString "numbers"))=False:=eq_false (by decide +kernel)
def Zr{C:String}(hC:(["Thing","Post","Fence","Sail","Cloth","House"]:List String).contains C=true)(w:Str){xs:List Int}{sl:P.Slot}(hs:Rr sl (xs.map .int)):cX 3 3 C fV [.sh (.str w),sl]=.ok ["word","numbers"] [.str w,.lst (xs.map .int)]:=by
 rcases hs with rfl|rfl<;>simp[cX,fV,iQ,IR.of,List.replicate,putN,zM,hC,wn,-List.contains_eq_mem,-List.contains_cons]
def s1:PyData.strOk (Str.ofString "post")=true:=by decide +kernel
def s2:PyData.strOk (Str.ofString "fence")=true:=by decide +kernel
def s3:PyData.strOk (Str.ofString "sail")=true:=by decide +kernel
def s4:PyData.strOk (Str.ofString "cloth")=true:=by decide +kernel
def s5:PyData.strOk (Str.ofString "house")=true:=by decide +kernel
def d12:(Str.ofString "post" =Str.ofString "fence")=False:=eq_false (by decide +kernel)
def d13:(Str.ofString "post" =Str.ofString "sail")=False:=eq_false (by decide +kernel)
def d14:(Str.ofString "post" =Str.ofString "cloth")=False:=eq_false (by decide +kernel)
def d15:(Str.ofString "post" =Str.ofString "house")=False:=eq_false (by decide +kernel)
def d23:(Str.ofString "fence" =Str.ofString "sail")=False:=eq_false (by decide +kernel)
def d24:(Str.ofString "fence" =Str.ofString "cloth")=False:=eq_false (by decide +kernel)
def d25:(Str.ofString "fence" =Str.ofString "house")=False:=eq_false (by decide +kernel)
def d34:(Str.ofString "sail" =Str.ofString "cloth")=False:=eq_false (by decide +kernel)
def d35:(Str.ofString "sail" =Str.ofString "house")=False:=eq_false (by decide +kernel)
def d41:(Str.ofString "cloth" =Str.ofString "post")=False:=eq_false (by decide +kernel)
def d45:(Str.ofString "cloth" =Str.ofString "house")=False:=eq_false (by decide +kernel)
def Z0b{w:Str}(hw:PyData.strOk w=true){xs:List Int}{sl:P.Slot}(hs:Rr sl (xs.map .int)):fW [.sh (.str w),sl]=if Z1 w xs=true then .ret (.sh (Zc (Ze w) w xs)) else .bad:=by
 have e1:=bI hw s1
 have e2:=bI hw s2
 have e3:=bI hw s3
 have e4:=bI hw s4
 have e5:=bI hw s5
 have p1:=Z05 hs
 have p2:=Z19 hs
 have p3:=Z1C hs
 have p4:=Z1a hs
 have i1:vD [.sh (.str w),sl]=_:=Zr (by decide) w hs
 have i2:qy [.sh (.str w),sl]=_:=Zr (by decide) w hs
 have i3:vG [.sh (.str w),sl]=_:=Zr (by decide) w hs
 have i4:qz [.sh (.str w),sl]=_:=Zr (by decide) w hs
 have i5:qC [.sh (.str w),sl]=_:=Zr (by decide) w hs
 have hle:=Z0D hs
 unfold Z1 Ze Zc
 by_cases h1:w=Str.ofString "post"
 ·have n2:¬w=Str.ofString "fence" := λz=>(d12▸(h1.symm.trans z):False)
  have n3:¬w=Str.ofString "sail" := λz=>(d13▸(h1.symm.trans z):False)
  have n4:¬w=Str.ofString "cloth" := λz=>(d14▸(h1.symm.trans z):False)
  have n5:¬w=Str.ofString "house" := λz=>(d15▸(h1.symm.trans z):False)
  rw[decide_eq_true h1] at e1
  rw[decide_eq_false n2] at e2
  rw[decide_eq_false n3] at e3
  rw[decide_eq_false n4] at e4
  rw[decide_eq_false n5] at e5
  have hg:(if w=Str.ofString "post" then Za xs else if w=Str.ofString "fence" then Z4 xs else if w=Str.ofString "sail" then Z3 xs else if w=Str.ofString "cloth" then Z5 xs else if w=Str.ofString "house" then Z3 xs else false)=Za xs:=by rw[if_pos h1]
  have hc:(if w=Str.ofString "post" then "Post" else if w=Str.ofString "fence" then "Fence" else if w=Str.ofString "sail" then "Sail" else if w=Str.ofString "cloth" then "Cloth" else "House")= "Post" := by rw[if_pos h1]
  rw[hg,hc]
  cases q:Za xs<;>rw[q] at p1<;>simp[fW,jx,cI,List.replicate,e1,e2,e3,e4,e5,hle,p1,i1]
 ·skip
  by_cases h2:w=Str.ofString "fence"
  ·have n1:=h1
   have n3:¬w=Str.ofString "sail" := λz=>(d23▸(h2.symm.trans z):False)
   have n4:¬w=Str.ofString "cloth" := λz=>(d24▸(h2.symm.trans z):False)
   have n5:¬w=Str.ofString "house" := λz=>(d25▸(h2.symm.trans z):False)
   rw[decide_eq_true h2] at e2
   rw[decide_eq_false n1] at e1
   rw[decide_eq_false n3] at e3
   rw[decide_eq_false n4] at e4
   rw[decide_eq_false n5] at e5
   have hg:(if w=Str.ofString "post" then Za xs else if w=Str.ofString "fence" then Z4 xs else if w=Str.ofString "sail" then Z3 xs else if w=Str.ofString "cloth" then Z5 xs else if w=Str.ofString "house" then Z3 xs else false)=Z4 xs:=by rw[if_neg n1,if_pos h2]
   have hc:(if w=Str.ofString "post" then "Post" else if w=Str.ofString "fence" then "Fence" else if w=Str.ofString "sail" then "Sail" else if w=Str.ofString "cloth" then "Cloth" else "House")= "Fence" := by rw[if_neg n1,if_pos h2]
   rw[hg,hc]
   cases q:Z4 xs<;>rw[q] at p2<;>simp[fW,jx,cI,List.replicate,e1,e2,e3,e4,e5,hle,p2,i2]
  ·skip
   by_cases h3:w=Str.ofString "sail"
   ·have n1:=h1
    have n2:=h2
    have n4:¬w=Str.ofString "cloth" := λz=>(d34▸(h3.symm.trans z):False)
    have n5:¬w=Str.ofString "house" := λz=>(d35▸(h3.symm.trans z):False)
    rw[decide_eq_true h3] at e3
    rw[decide_eq_false n1] at e1
    rw[decide_eq_false n2] at e2
    rw[decide_eq_false n4] at e4
    rw[decide_eq_false n5] at e5
    have hg:(if w=Str.ofString "post" then Za xs else if w=Str.ofString "fence" then Z4 xs else if w=Str.ofString "sail" then Z3 xs else if w=Str.ofString "cloth" then Z5 xs else if w=Str.ofString "house" then Z3 xs else false)=Z3 xs:=by rw[if_neg n1,if_neg n2,if_pos h3]
    have hc:(if w=Str.ofString "post" then "Post" else if w=Str.ofString "fence" then "Fence" else if w=Str.ofString "sail" then "Sail" else if w=Str.ofString "cloth" then "Cloth" else "House")= "Sail" := by rw[if_neg n1,if_neg n2,if_pos h3]
    rw[hg,hc]
    cases q:Z3 xs<;>rw[q] at p3<;>simp[fW,jx,cI,List.replicate,e1,e2,e3,e4,e5,hle,p3,i3]
   ·skip
    by_cases h4:w=Str.ofString "cloth"
    ·have n1:=h1
     have n2:=h2
     have n3:=h3
     have n5:¬w=Str.ofString "house" := λz=>(d45▸(h4.symm.trans z):False)
     rw[decide_eq_true h4] at e4
     rw[decide_eq_false n1] at e1
     rw[decide_eq_false n2] at e2
     rw[decide_eq_false n3] at e3
     rw[decide_eq_false n5] at e5
     have hg:(if w=Str.ofString "post" then Za xs else if w=Str.ofString "fence" then Z4 xs else if w=Str.ofString "sail" then Z3 xs else if w=Str.ofString "cloth" then Z5 xs else if w=Str.ofString "house" then Z3 xs else false)=Z5 xs:=by rw[if_neg n1,if_neg n2,if_neg n3,if_pos h4]
     have hc:(if w=Str.ofString "post" then "Post" else if w=Str.ofString "fence" then "Fence" else if w=Str.ofString "sail" then "Sail" else if w=Str.ofString "cloth" then "Cloth" else "House")= "Cloth" := by rw[if_neg n1,if_neg n2,if_neg n3,if_pos h4]
     rw[hg,hc]
     cases q:Z5 xs<;>rw[q] at p4<;>simp[fW,jx,cI,List.replicate,e1,e2,e3,e4,e5,hle,p4,i4]
    ·skip
     by_cases h5:w=Str.ofString "house"
     ·have n1:=h1
      have n2:=h2
      have n3:=h3
      have n4:=h4
      rw[decide_eq_true h5] at e5
      rw[decide_eq_false n1] at e1
      rw[decide_eq_false n2] at e2
      rw[decide_eq_false n3] at e3
      rw[decide_eq_false n4] at e4
      have hg:(if w=Str.ofString "post" then Za xs else if w=Str.ofString "fence" then Z4 xs else if w=Str.ofString "sail" then Z3 xs else if w=Str.ofString "cloth" then Z5 xs else if w=Str.ofString "house" then Z3 xs else false)=Z3 xs:=by rw[if_neg n1,if_neg n2,if_neg n3,if_neg n4,if_pos h5]
      have hc:(if w=Str.ofString "post" then "Post" else if w=Str.ofString "fence" then "Fence" else if w=Str.ofString "sail" then "Sail" else if w=Str.ofString "cloth" then "Cloth" else "House")= "House" := by rw[if_neg n1,if_neg n2,if_neg n3,if_neg n4]
      rw[hg,hc]
      cases q:Z3 xs<;>rw[q] at p3<;>simp[fW,jx,cI,List.replicate,e1,e2,e3,e4,e5,hle,p3,i5]
     ·skip
      rw[decide_eq_false h1] at e1
      rw[decide_eq_false h2] at e2
      rw[decide_eq_false h3] at e3
      rw[decide_eq_false h4] at e4
      rw[decide_eq_false h5] at e5
      rw[if_neg h1,if_neg h2,if_neg h3,if_neg h4,if_neg h5]
      simp[fW,jx,cI,List.replicate,e1,e2,e3,e4,e5]
abbrev P3:=Int×Int×Int
def c3(p:P3):PV:=.tup [.int p.1,.int p.2.1,.int p.2.2]
abbrev Th:=Str×List Int
def iz(t:Th):PV:=Zc (Ze t.1) t.1 t.2
def Ũ:Option P3->PV
 |none=>.non
 |some r=>c3 r
abbrev Dy:=Str×Int×List (Option P3)
def bF(d:Dy):PV:=.tup [.str d.1,.int d.2.1,.lst (d.2.2.map Ũ)]
def Z2(w h:Int)(T:List Th)(D:List Dy):PV:=.ins "Yard" ["width","height","things","days"] [.int w,.int h,.lst (T.map iz),.lst (D.map bF)]
def ywh:(Str.ofString "width" =Str.ofString "height")=False:=eq_false (by decide +kernel)
def ywt:(Str.ofString "width" =Str.ofString "things")=False:=eq_false (by decide +kernel)
def ywd:(Str.ofString "width" =Str.ofString "days")=False:=eq_false (by decide +kernel)
def yht:(Str.ofString "height" =Str.ofString "things")=False:=eq_false (by decide +kernel)
def yhd:(Str.ofString "height" =Str.ofString "days")=False:=eq_false (by decide +kernel)
def ytd:(Str.ofString "things" =Str.ofString "days")=False:=eq_false (by decide +kernel)
def y_w(w h:Int)(T:List Th)(D:List Dy):ſ ["Yard"] (Str.ofString "width") (Z2 w h T D)=some (.int w):=by
 unfold ſ Z2
 simp
def y_h(w h:Int)(T:List Th)(D:List Dy):ſ ["Yard"] (Str.ofString "height") (Z2 w h T D)=some (.int h):=by
 have:(Str.ofString "height" == Str.ofString "width")=false:=by decide +kernel
 unfold ſ Z2
 simp[List.lookup_cons,this]
def y_t(w h:Int)(T:List Th)(D:List Dy):ſ ["Yard"] (Str.ofString "things") (Z2 w h T D)=some (.lst (T.map iz)):=by
 have e1:(Str.ofString "things" == Str.ofString "width")=false:=by decide +kernel
 have e2:(Str.ofString "things" == Str.ofString "height")=false:=by decide +kernel
 unfold ſ Z2
 simp[List.lookup_cons,e1,e2]
def y_d(w h:Int)(T:List Th)(D:List Dy):ſ ["Yard"] (Str.ofString "days") (Z2 w h T D)=some (.lst (D.map bF)):=by
 have e1:(Str.ofString "days" == Str.ofString "width")=false:=by decide +kernel
 have e2:(Str.ofString "days" == Str.ofString "height")=false:=by decide +kernel
 have e3:(Str.ofString "days" == Str.ofString "things")=false:=by decide +kernel
 unfold ſ Z2
 simp[List.lookup_cons,e1,e2,e3]
def nT(n:Int):List Nat:=(Str.ofString (toString n)).cps.toList
def Z0O(n:Int):Str.ofString (toString n)=S (nT n):=Str.ext' (by simp[nT])
def Z0c(m:Nat):nT (m:Int)=(Nat.toDigits 10 m).map Char.toNat:=PySem.W.KIN.signs_num m
def Z0P(m:Nat)(h:0<m):nT (-(m:Int))=45::(Nat.toDigits 10 m).map Char.toNat:=by
 obtain⟨k,rfl⟩:∃k,m=k+1:=⟨m-1,by omega⟩
 unfold nT
 rw[PyProof.Rows.signs_ofString]
 show("-" ++ Nat.repr (k+1)).toList.map Char.toNat=_
 rw[String.toList_append,Nat.toList_repr]
 rfl
def Z0E{m c:Nat}(h:c∈(Nat.toDigits 10 m).map Char.toNat):48<=c/\c<=57:=by
 obtain⟨ch,hch,e⟩:=List.mem_map.mp h
 have r:=PyProof.Rows.digit_range (Nat.isDigit_of_mem_toDigits (by decide) (by decide) hch)
 rw[<-e]
 exact r
def ZF:∀(m:Nat),0<m->∃c r,(Nat.toDigits 10 m).map Char.toNat=c::r/\c≠48:=by
 intro m
 induction m using Nat.strongRecOn with
 |_ m ih=>
  intro h0
  by_cases h:m<10
  ·rw[Nat.toDigits_of_lt_base h]
   exact⟨_,[],rfl,by
    have:∀d:Nat,d<10->0<d->(Nat.digitChar d).toNat≠48:=by decide
    exact this m h h0⟩
  ·have hm:m % 10<10:=Nat.mod_lt m (by decide)
   have t:Nat.toDigits 10 (m / 10)++Nat.toDigits 10 (m % 10)=Nat.toDigits 10 (10*(m / 10)+m % 10):=Nat.toDigits_append_toDigits (by decide) (by omega) hm
   rw[Nat.div_add_mod] at t
   obtain⟨c,r,e,hc⟩:=ih (m / 10) (by omega) (by omega)
   rw[<-t,List.map_append,e]
   exact⟨c,_,rfl,hc⟩
def Zs{m:Nat}(h:m<10 ^ 10):1<=((Nat.toDigits 10 m).map Char.toNat).length/\((Nat.toDigits 10 m).map Char.toNat).length<=10:=by
 have h1:=PySem.W.KT.len_num (n:=(m:Int)) (by omega) (by omega)
 have e:(Str.ofString (toString (m:Int))).length=(nT (m:Int)).length:=by simp[nT,Str.length]
 rw[e,Z0c] at h1
 refine⟨?_,h1⟩
 by_cases h0:m=0
 ·subst h0;decide
 ·obtain⟨c,r,e,_⟩:=ZF m (by omega)
  rw[e];simp
def ZG{n:Int}(h1: -10000000000<n)(h2:n<10000000000):∃(b:Bool) (ds:List Nat),nT n=(if b then[45] else[])++ds/\(∀c∈ds,48<=c/\c<=57)/\1<=ds.length/\ds.length<=10/\(nT n=[48]\/∃c r,ds=c::r/\c≠48):=by
 rcases Int.lt_or_le n 0 with h|h
 ·obtain⟨m,rfl⟩:∃m:Nat,n= -(m:Int):=⟨(-n).toNat,by omega⟩
  obtain⟨l1,l2⟩:=Zs (m:=m) (by omega)
  exact⟨true,_,Z0P m (by omega),λc hc=>Z0E hc,l1,l2,.inr (ZF m (by omega))⟩
 ·obtain⟨m,rfl⟩:=Int.eq_ofNat_of_zero_le h
  obtain⟨l1,l2⟩:=Zs (m:=m) (by omega)
  refine⟨false,_,Z0c m,λc hc=>Z0E hc,l1,l2,?_⟩
  by_cases h0:m=0
  ·left
   subst h0
   rfl
  ·exact .inr (ZF m (by omega))
def ZH{n:Int}(h1: -10000000000<n)(h2:n<10000000000):∀c∈nT n,c=45\/(48<=c/\c<=57):=by
 obtain⟨b,ds,e,hd,_⟩:=ZG h1 h2
 rw[e]
 intro c hc
 rcases List.mem_append.mp hc with hc|hc
 ·cases b
  ·cases hc
  ·left;simpa using hc
 ·exact .inr (hd c hc)
def ZK{n:Int}(h1: -10000000000<n)(h2:n<10000000000):1<=(nT n).length/\(nT n).length<=11:=by
 obtain⟨b,ds,e,_,l1,l2,_⟩:=ZG h1 h2
 rw[e]
 cases b<;>simp<;>omega
def Z21{n:Int}(h1: -10000000000<n)(h2:n<10000000000):PySem.intText? (S (nT n))=some n:=by
 have key:∀m:Nat,PySem.NumText.AllDigits ((Nat.toDigits 10 m).map Char.toNat):=λm c hc=>Z0E hc
 have ne:∀m:Nat,m<10 ^ 10->(Nat.toDigits 10 m).map Char.toNat≠[]:=λm hm e=>by
  have:=(Zs hm).1
  rw[e] at this
  cases this
 rcases Int.lt_or_le n 0 with h|h
 ·obtain⟨m,rfl⟩:∃m:Nat,n= -(m:Int):=⟨(-n).toNat,by omega⟩
  have l2:=(Zs (m:=m) (by omega)).2
  rw[Z0P m (by omega)]
  have:=PySem.intText_neg (x:=S (45::(Nat.toDigits 10 m).map Char.toNat)) rfl (key m) (ne m (by omega)) (by show(45::(Nat.toDigits 10 m).map Char.toNat).toArray.size<=4300;simp at l2 ⊢;omega)
  rw[this,PySem.W.KIN.val_back]
 ·obtain⟨m,rfl⟩:=Int.eq_ofNat_of_zero_le h
  have l2:=(Zs (m:=m) (by omega)).2
  rw[Z0c m]
  have:=PySem.intText_digits (x:=S ((Nat.toDigits 10 m).map Char.toNat)) (key m) (ne m (by omega)) (by show((Nat.toDigits 10 m).map Char.toNat).toArray.size<=4300;simp at l2 ⊢;omega)
  rw[this]
  show some (((PySem.NumText.digitsVal ((Nat.toDigits 10 m).map Char.toNat):Nat)):Int)=_
  rw[PySem.W.KIN.val_back]
def sV(l:List Nat):PV:=.str (S l)
def Ej(l:List Nat):Prop:=∀c∈l,c<1000
def Ej.ok{l:List Nat}(h:Ej l):PyData.strOk (S l)=true:=by
 unfold PyData.strOk
 rw[Array.all_eq_true]
 intro i hi
 have hi':i<l.length:=by simpa using hi
 have:=h l[i] (List.getElem_mem hi')
 simp
 omega
def Z9(l:List Nat):(S l).length=l.length:=by simp[Str.length]
def Z22{l:List Nat}(h:l.length<=1000000):eZ [.str (S l)]=some (.int l.length):=by
 have hz:(S l).length<=16777216:=by rw[Z9];omega
 show(if(S l).length<=16777216 then some (PV.int (S l).length) else none)=_
 rw[if_pos hz,Z9]
def Z0t{l:List Nat}(hl:l.length<=100000)(sg:Str)(k:Int):qu [.sh (sV l),.sh (.str sg),.sh (.int k)]=.ret (.sh (.bl (decide (1<=(l.length:Int)) && decide ((l.length:Int)<=k) && l.all λc=>decide (c∈sg.cps.toList)))):=by
 have c1:Ō (gN 1) Ķ (Ą JG (Ā 1) (Ā 0)) (l.map λc=>PV.str ⟨#[c]⟩) [.sh (.str sg),.no] []=some ((l.map λc=>decide (c∈sg.cps.toList)).map .bl):=by
  have:=ļ (g:=gN 1) (mt:=Ķ) (me:=Ą JG (Ā 1) (Ā 0)) (λc=>PV.str ⟨#[c]⟩) (λc=>PV.bl (decide (c∈sg.cps.toList))) (λρ=>∃s,ρ=[.sh (.str sg),s]) l [.sh (.str sg),.no] [] ⟨_,rfl⟩ (by simp;omega) (by
   rintro x hx ρ ⟨s,rfl⟩
   exact⟨[.sh (.str sg),.sh (.str ⟨#[x]⟩)],_,[.sh (.str sg),.sh (.str ⟨#[x]⟩)],by simp,rfl,by simp,_,rfl⟩)
  rw[this]
  simp
 have c2:=Z0a (l.map λc=>decide (c∈sg.cps.toList))
 have c3:((l.map λc=>decide (c∈sg.cps.toList)).all id)=l.all λc=>decide (c∈sg.cps.toList):=by rw[List.all_map];rfl
 rw[c3] at c2
 generalize (l.map λc=>decide (c∈sg.cps.toList)).map PV.bl=bs at c1 c2
 generalize (l.all λc=>decide (c∈sg.cps.toList))=q at *
 have e:(S l).cps.toList=l:=by simp
 have hz:=Z22 (l:=l) (by omega)
 unfold sV
 by_cases h1:1<=(l.length:Int)
 ·by_cases h2:(l.length:Int)<=k
  ·simp[qu,vA,List.replicate,hz,h1,h2,e,c1,c2]
  ·simp[qu,vA,List.replicate,hz,h1,h2,e]
 ·simp[qu,vA,List.replicate,hz,h1,e]
def ZX(l:List Nat)(c:Nat){y:Str}(hy:y=S [c]):jN (.str (S l)) [.str y]=some (.bl (decide (l.take 1=[c]))):=by
 rw[hy]
 rfl
def c45:Str.ofString "-" =S [45]:=by decide +kernel
def c48:Str.ofString "0" =S [48]:=by decide +kernel
def Z0F{α:Type}(xs:List α)(k:Nat)(hk:k<=xs.length):aX xs (some (k:Int)) none=xs.drop k:=by
 unfold aX
 rw[HT.uz,HT.o_,Nat.min_eq_left hk]
 exact List.take_of_length_le (by simp)
def Z1D{n:Int}(h1: -10000000000<n)(h2:n<10000000000):jW [.sh (sV (nT n))]=.ret (.sh (.bl true)):=by
 obtain⟨b,ds,e,hd,l1,l2,h0⟩:=ZG h1 h2
 have md:=Z0t (l:=ds) (by omega) "0123456789" 10
 have al:(ds.all λc=>decide (c∈(Str.ofString "0123456789").cps.toList))=true:=by
  rw[List.all_eq_true]
  intro c hc
  have:=hd c hc
  have e9:(Str.ofString "0123456789").cps.toList=[48,49,50,51,52,53,54,55,56,57]:=by decide +kernel
  rw[e9]
  simp
  omega
 rw[al] at md
 have l1':1<=(ds.length:Int):=by omega
 have l2':(ds.length:Int)<=10:=by omega
 simp only[l1',l2',decide_true,Bool.and_self] at md
 have pl:Ej (nT n):=λc hc=>by rcases ZH h1 h2 c hc with h|h<;>omega
 have h0s:PyData.strOk (Str.ofString "0")=true:=by decide +kernel
 have st1:=ZX (nT n) 45 c45
 have st2:=ZX ds 48 c48
 have eq0:ķ (.str (S (nT n))) (.str (Str.ofString "0"))=some (.bl (decide (S (nT n)=Str.ofString "0"))):=bI pl.ok h0s
 have nl:=ZK h1 h2
 have hz:(S (nT n)).length<=16777216:=by rw[Z9];omega
 have tm:nT n=[48]->decide (S (nT n)=Str.ofString "0")=true:=λh=>by rw[h];decide +kernel
 unfold sV at md ⊢
 cases b with
 |true=>
  have e':nT n=45::ds:=e
  have t1:decide ((nT n).take 1=[45])=true:=by rw[e'];simp
  rw[t1] at st1
  have sl:Xq (.str (S (nT n))) (some 1) none=some (.sh (.str (S ds))):=by
   show(if(S (nT n)).length<=16777216 then some (RV.sh (.str (S (aX (S (nT n)).cps.toList (some 1) none)))) else none)=_
   rw[if_pos hz,e']
   have:aX (45::ds) (some 1) none=ds:=Z0F (45::ds) 1 (by simp)
   show some (RV.sh (.str (S (aX (45::ds) (some 1) none))))=_
   rw[this]
  have hh:∃c r,ds=c::r/\c≠48:=by
   rcases h0 with h|h
   ·rw[e'] at h;cases h
   ·exact h
  obtain⟨c,r,ec,hc⟩:=hh
  have t2:decide (ds.take 1=[48])=false:=by rw[ec];simpa using hc
  rw[t2] at st2
  generalize decide (S (nT n)=Str.ofString "0")=qq at *
  generalize S (nT n)=N at *
  generalize S ds=DS at *
  cases qq<;>simp[jW,vB,List.replicate,st1,st2,sl,md,eq0]
 |false=>
  have e':nT n=ds:=e
  have t1:decide ((nT n).take 1=[45])=false:=by
   rw[e']
   cases hds:ds with
   |nil=>rw[hds] at l1;cases l1
   |cons a r=>
    have:=hd a (by rw[hds];simp)
    simp
    omega
  rw[t1] at st1
  rw[<-e'] at md st2
  rcases h0 with h|⟨c,r,ec,hc⟩
  ·rw[tm h] at eq0
   generalize S (nT n)=N at *
   simp[jW,vB,List.replicate,st1,st2,md,eq0]
  ·have t2:decide ((nT n).take 1=[48])=false:=by rw[e',ec];simpa using hc
   rw[t2] at st2
   generalize decide (S (nT n)=Str.ofString "0")=qq at *
   generalize S (nT n)=N at *
   cases qq<;>simp[jW,vB,List.replicate,st1,st2,md,eq0]
def Nb(n:Int):Prop:=-10000000000<n/\n<10000000000
def ō(n:Int):PV:=sV (nT n)
def Z1E{ns:List Int}(hn:∀n∈ns,Nb n)(hl:ns.length<=1000){sl:P.Slot}(hs:Sl sl (ns.map ō)):Ci [sl]=.ret (.ow (ns.map .int)):=by
 have c1:Ō (gN 0) Ķ (Č (ę jW (Ċ 0 ē))) (ns.map ō) [.no] []=some ((ns.map λ_=>true).map .bl):=by
  have:=ļ (g:=gN 0) (mt:=Ķ) (me:=Č (ę jW (Ċ 0 ē))) ō (λ_=>PV.bl true) (λρ=>∃s,ρ=[s]) ns [.no] [] ⟨_,rfl⟩ (by simp;omega) (by
   rintro x hx ρ ⟨s,rfl⟩
   have e:=Z1D (hn x hx).1 (hn x hx).2
   change jW [.sh (ō x)]=_ at e
   exact⟨[.sh (ō x)],_,[.sh (ō x)],by simp,rfl,by simp[e],_,rfl⟩)
  rw[this]
  simp[Function.comp_def]
 have c2:Ō (gN 0) Ķ (bT jQ (ă (Ā 0) Ė)) (ns.map ō) [.no] []=some (ns.map .int):=by
  have:=ļ (g:=gN 0) (mt:=Ķ) (me:=bT jQ (ă (Ā 0) Ė)) ō PV.int (λρ=>∃s,ρ=[s]) ns [.no] [] ⟨_,rfl⟩ (by simp;omega) (by
   rintro x hx ρ ⟨s,rfl⟩
   have e1:=Z21 (hn x hx).1 (hn x hx).2
   have e2:=ZK (hn x hx).1 (hn x hx).2
   have e:jQ [ō x]=some (.int x):=by
    show(if(S (nT x)).length<=640 then(PySem.intText? (S (nT x))).map PV.int else none)=_
    rw[if_pos (by rw[Z9];omega),e1]
    rfl
   exact⟨[.sh (ō x)],_,[.sh (ō x)],by simp,rfl,by simp[e],_,rfl⟩)
  rw[this]
  simp
 have c3:=Z0a (ns.map λ_=>true)
 have c4:((ns.map λ_=>true).all id)=true:=by simp
 rw[c4] at c3
 have it:=hs.it (i:=0) (ρ:= [sl]) rfl
 generalize (ns.map λ_=>true).map PV.bl=bs at *
 generalize ns.map ō=X at *
 simp[Ci,Ib,List.replicate,-UJ,it,c1,c2,c3]
def Zp{ns:List Int}(hn:∀n∈ns,Nb n)(hl:ns.length<=1000){sl:P.Slot}(hs:Sl sl (ns.map ō))(k:Int):qw [sl,.sh (.int k)]=.ret (.ow (ns.map .int)):=by
 have e:=Z1E hn hl hs
 generalize ns.map PV.int=X at *
 simp[qw,Ie,List.replicate,hs.lend,e,JC]
def Z0d{α:Type}(x:α)(xs:List α):aX (x::xs) (some 1) none=xs:=Z0F (x::xs) 1 (by simp)
def Zt{a b:Str}(ha:PyData.strOk a=true)(hb:PyData.strOk b=true):ž (.str a) (.str b)=some (.bl (!decide (a=b))):=by
 have h:eqB (.str a) (.str b)=decide (a=b):=by unfold eqB;rfl
 unfold ž nR
 rw[show ň (.str a)=true by unfold ň;exact ha,show ň (.str b)=true by unfold ň;exact hb,h]
 rfl
def Z1v:PyData.strOk (Str.ofString "yard")=true:=by decide +kernel
def Z0G:PyData.strOk (Str.ofString "ray")=true:=by decide +kernel
def Z23:PyData.strOk (Str.ofString "night")=true:=by decide +kernel
def Z0H:PyData.strOk (Str.ofString "day")=true:=by decide +kernel
def Z1F{w h:Int}(hw:1<=w/\w<=20)(hh:1<=h/\h<=20):Cj [.sh (.lst [.str "yard",ō w,ō h]),.sh (.int 0)]=.ret (.sh (.lst [.int w,.int h])):=by
 have e:=Zp (ns:=[w,h]) (λn hn=>by simp at hn;unfold Nb;omega) (by simp) (sl:=.sh (.lst ([w,h].map ō))) (.inl rfl) 0
 have ne:=Zt Z1v Z1v
 have c:=Z0d (PV.str "yard") [ō w,ō h]
 simp only[List.map_cons,List.map_nil] at e
 simp[Cj,Ig,List.replicate,ne,c,e,Ō,hw.1,hw.2,hh.1,hh.2,Zx,lV,boolsOf]
def Z0Q{w:Str}{ns:List Int}(hg:Z1 w ns=true)(hw:PyData.strOk w=true)(hn:∀n∈ns,Nb n)(hl:ns.length<=1000)(k:Int){sl:P.Slot}(hs:Sl sl (.str w::ns.map ō)):Cu [sl,.sh (.int k)]=.ret (.sh (Zc (Ze w) w ns)):=by
 have e:=Zp hn hl (sl:=.sh (.lst (ns.map ō))) (.inl rfl) k
 have t:=Z0b hw (xs:=ns) (sl:=.bw (ns.map .int)) (.inr rfl)
 rw[if_pos hg] at t
 have c:=Z0d (PV.str w) (ns.map ō)
 generalize ns.map ō=X at *
 generalize ns.map PV.int=Y at *
 generalize Zc (Ze w) w ns=TH at *
 rcases hs with rfl|rfl<;>simp[Cu,Iv,List.replicate,c,e,t]
def Z0R{l:List Nat}(h1:1<=l.length)(h2:l.length<=8)(hc:∀c∈l,97<=c/\c<=122):Cp [.sh (sV l)]=.ret (.sh (.bl true)):=by
 have md:=Z0t (l:=l) (by omega) "abcdefghijklmnopqrstuvwxyz" 8
 have al:(l.all λc=>decide (c∈(Str.ofString "abcdefghijklmnopqrstuvwxyz").cps.toList))=true:=by
  rw[List.all_eq_true]
  intro c h
  have:=hc c h
  have e9:(Str.ofString "abcdefghijklmnopqrstuvwxyz").cps.toList=[97,98,99,100,101,102,103,104,105,106,107,108,109,110,111,112,113,114,115,116,117,118,119,120,121,122]:=by decide +kernel
  rw[e9]
  simp
  omega
 rw[al] at md
 have l1':1<=(l.length:Int):=by omega
 have l2':(l.length:Int)<=8:=by omega
 simp only[l1',l2',decide_true,Bool.and_self] at md
 simp[Cp,Ik,List.replicate,md]
def Nm(l:List Nat):Prop:=1<=l.length/\l.length<=8/\∀c∈l,97<=c/\c<=122
def Nm.pln{l:List Nat}(h:Nm l):Ej l:=λc hc=>by have:=h.2.2 c hc;omega
def Z1G{l:List Nat}(hm:Nm l){t:Int}(h1:1<=t)(h2:t<=1000000000)(k:Int){sl:P.Slot}(hs:Sl sl [.str "day",sV l,ō t]):Cq [sl,.sh (.int k)]=.ret (.ot [sV l,.int t] [] []):=by
 have e:=Zp (ns:=[t]) (λn hn=>by simp at hn;unfold Nb;omega) (by simp) (sl:=.sh (.lst ([t].map ō))) (.inl rfl) k
 have i:=Z0R hm.1 hm.2.1 hm.2.2
 have c:aX [PV.str "day",sV l,ō t] (some 2) none=[ō t]:=Z0F [PV.str "day",sV l,ō t] 2 (by simp)
 simp only[List.map_cons,List.map_nil] at e
 generalize sV l=L at *
 generalize ō t=N at *
 rcases hs with rfl|rfl<;>simp[Cq,Il,List.replicate,i,c,e,h1,h2]
def Xy:Option P3->List PV
 |none=>[.str "night"]
 |some r=>[.str "ray",ō r.1,ō r.2.1,ō r.2.2]
def Z06(r:P3):Prop:=-1000000<=r.1/\r.1<=1000000/\ -1000000<=r.2.1/\r.2.1<=1000000/\1<=r.2.2/\r.2.2<=1000000
def Zh:Option P3->Prop
 |none=>True
 |some r=>Z06 r
def Z1b{r:P3}(h:Z06 r):Ck [.sh (c3 r)]=.ret (.sh (.bl true)):=by
 obtain⟨h1,h2,h3,h4,h5,h6⟩:=h
 have a1:(if r.1<0 then -r.1 else r.1)<=1000000:=by split<;>omega
 have a2:(if r.2.1<0 then -r.2.1 else r.2.1)<=1000000:=by split<;>omega
 simp[Ck,Ii,List.replicate,c3,a1,a2,h5,h6]
def dRN:(Str.ofString "ray" =Str.ofString "night")=False:=eq_false (by decide +kernel)
def Z0I{n:Int}(h:Nb n):ň (ō n)=true:=by
 have pl:Ej (nT n):=λc hc=>by rcases ZH h.1 h.2 c hc with h|h<;>omega
 unfold ō sV ň
 exact pl.ok
def ZL(l:List Nat):dep (sV l)=0:=by unfold sV dep;rfl
def Z1c{ws:List PV}{a:Str}(ha:PyData.strOk a=true)(hn:¬a=Str.ofString "night")(hw:ų ws=true)(hd:dB ws=0):ķ (.lst (.str a::ws)) (.lst [.str "night"])=some (.bl false):=by
 have h1:eqB (.lst (.str a::ws)) (.lst [.str (Str.ofString "night")])=false:=by
  unfold eqB lN
  have:eqB (.str a) (.str (Str.ofString "night"))=false:=by unfold eqB;simpa using hn
  rw[this]
  rfl
 have h2:ň (.lst (.str a::ws))=true:=by
  unfold ň ų
  rw[show ň (.str a)=true by unfold ň;exact ha,hw]
  rfl
 have h3:ň (.lst [.str (Str.ofString "night")])=true:=by decide +kernel
 have h4:dep (.lst (.str a::ws))=1:=by
  unfold dep dB
  rw[hd]
  unfold dep
  rfl
 unfold ķ nR
 rw[h1,h2,h3,h4]
 rfl
def Z1d{o:Option P3}(ho:Zh o)(k:Int){sl:P.Slot}(hs:Sl sl (Xy o)):xQ [sl,.sh (.int k)]=.ret (.sh (Ũ o)):=by
 cases o with
 |none=>
  have h3:ň (.lst [.str (Str.ofString "night")])=true:=by decide +kernel
  have e:ķ (.lst [.str "night"]) (.lst [.str "night"])=some (.bl true):=by
   unfold ķ nR
   rw[jO _ h3,h3]
   rfl
  change Sl sl [.str "night"] at hs
  rcases hs with rfl|rfl<;>simp[xQ,Ad,List.replicate,e,Ũ]
 |some r=>
  obtain⟨h1,h2,h3,h4,h5,h6⟩:=ho
  have e:=Zp (ns:=[r.1,r.2.1,r.2.2]) (λn hn=>by simp at hn;unfold Nb;omega) (by simp) (sl:=.sh (.lst ([r.1,r.2.1,r.2.2].map ō))) (.inl rfl) k
  have i:=Z1b (r:=r) ⟨h1,h2,h3,h4,h5,h6⟩
  have c:=Z0d (PV.str "ray") [ō r.1,ō r.2.1,ō r.2.2]
  have ne:=Zt Z0G Z0G
  simp only[List.map_cons,List.map_nil] at e
  have eq:ķ (.lst [.str "ray",ō r.1,ō r.2.1,ō r.2.2]) (.lst [.str "night"])=some (.bl false):=by
   refine Z1c Z0G (by rw[dRN];exact id) ?_ ?_
   ·have b1:=Z0I (n:=r.1) ⟨by omega,by omega⟩
    have b2:=Z0I (n:=r.2.1) ⟨by omega,by omega⟩
    have b3:=Z0I (n:=r.2.2) ⟨by omega,by omega⟩
    unfold ų ų ų ų
    rw[b1,b2,b3]
    rfl
   ·unfold ō dB dB dB dB
    rw[ZL,ZL,ZL]
    rfl
  change Sl sl [.str "ray",ō r.1,ō r.2.1,ō r.2.2] at hs
  unfold c3 at i
  generalize ō r.1=A at *
  generalize ō r.2.1=B at *
  generalize ō r.2.2=C at *
  rcases hs with rfl|rfl<;>simp[xQ,Ad,List.replicate,eq,ne,c,e,i,Ũ,c3]
@[simp] theorem Z2E{D:List (List PV×List PV)}:aF (.dw D)=some (.dw D):=rfl
abbrev Dz:=List Nat×Int×List (Option P3)
def dD(d:Dz):List PV×List PV:=([sV d.1,.int d.2.1],d.2.2.map Ũ)
def zV(d:Dz):Dy:=(S d.1,d.2.1,d.2.2)
def Z07(D:List Dz):Bool:=match D.getLast? with
 |some d=>decide (d.2.2.length=0)
 |none=>false
def Z0e{D:List Dz}(h0:∀d,D.getLast?=some d->d.2.2.length≠0):Z07 D=false:=by
 unfold Z07
 split
 ·rename_i d e;simpa using h0 d e
 ·rfl
def Z0f{D:List Dz}:nj [.dw (D.map dD)]=.ret (.sh (.bl (Z07 D))):=by
 unfold Z07
 cases e:D.getLast? with
 |none=>
  have:D=[]:=List.getLast?_eq_none_iff.mp e
  subst this
  simp[nj,vC,List.replicate]
 |some d=>
  have hl:0<(D.map dD).length:=by
   have:D≠[]:=λz=>by rw[z] at e;cases e
   have:=List.length_pos_iff.mpr this
   simp;omega
  have hg:(D.map dD).getLast?=some (dD d):=by rw[List.getLast?_map,e];rfl
  have h2:(dD d).1.length=2:=rfl
  have h3:(dD d).2.length=d.2.2.length:=by simp[dD]
  generalize D.map dD=DD at *
  by_cases h0:d.2.2.length=0
  ·have:(dD d).2=[]:=List.length_eq_zero_iff.mp (by omega)
   simp[nj,vC,List.replicate,hl,hg,h2,this,h0]
  ·have:¬(dD d).2=[]:=λz=>h0 (by rw[<-h3,z];rfl)
   simp[nj,vC,List.replicate,hl,hg,h2,this,h0]
def Z1e{D:List Dz}{d:Dz}(hd:D.getLast?=some d)(hl:d.2.2.length<24){o:Option P3}(ho:Zh o)(k:Int){sl:P.Slot}(hs:Sl sl (Xy o)):Cm [sl,.sh (.int k),.dw (D.map dD)]=.ok (.l 2 (Ũ o)):=by
 have e:=Z1d ho k hs
 have l0:¬D.map dD=[]:=by
  have:D≠[]:=λz=>by rw[z] at hd;cases hd
  simpa using this
 have hg:(D.map dD).getLast?=some (dD d):=by rw[List.getLast?_map,hd];rfl
 have h2:(dD d).1.length=2:=rfl
 have h3:(dD d).2.length=d.2.2.length:=by simp[dD]
 have h4:¬((dD d).2.length:Int)=24:=by omega
 have h5:(dD d).2.length<16777216:=by omega
 generalize D.map dD=DD at *
 generalize dD d=dd at *
 simp[Cm,Ij,cY,startP,List.replicate,l0,hg,h2,h4,h5,xr,hs.lend,e,WR.ix]
def Z1f(D:List Dz)(hl:D.length<=1000):cL (gD 0 1 2) Ķ (ė 0) (D.map dD) [.no,.no,.no] []=some (D.map λd=>sV d.1):=by
 have key:∀(D:List Dz) (acc:List PV) (a b c:P.Slot),acc.length+D.length<=1000->cL (gD 0 1 2) Ķ (ė 0) (D.map dD) [a,b,c] acc=some (acc++D.map λd=>sV d.1):=by
  intro D
  induction D with
  |nil=>intro acc a b c _;simp[cL]
  |cons d D ih=>
   intro acc a b c hl
   rw[List.length_cons] at hl
   have h1:acc.length<16777216:=by omega
   have:=ih (acc ++ [sV d.1]) (.sh (sV d.1)) (.sh (.int d.2.1)) (.bw (d.2.2.map Ũ)) (by simp;omega)
   rw[List.map_cons,cL]
   simp[dD,gD,h1,Ķ]
   simpa[dD] using this
 simpa using key D [] .no .no .no (by simpa using hl)
def Z24{a b:List Nat}:S a=S b↔a=b:=by
 constructor
 ·intro h
  have:=congrArg (λs=>s.cps.toList) h
  simpa using this
 ·intro h;rw[h]
def Z0p{l:List Nat}(hl:Ej l){D:List Dz}(hD:∀d∈D,Ej d.1)(h:l∉D.map (·.1)):inD false (sV l) (.lst (D.map λd=>sV d.1))=some (.bl false):=by
 have h1:ň (sV l)=true:=by unfold sV ň;exact hl.ok
 have h2:∀D:List Dz,(∀d∈D,Ej d.1)->ų (D.map λd=>sV d.1)=true:=by
  intro D
  induction D with
  |nil=>intro _;rfl
  |cons d D ih=>
   intro hD
   rw[List.map_cons,ų,ih λx hx=>hD x (List.mem_cons_of_mem _ hx)]
   have:ň (sV d.1)=true:=by unfold sV ň;exact(hD d (by simp)).ok
   rw[this]
   rfl
 have h3:((D.map λd=>sV d.1).any λy=>eqB y (sV l))=false:=by
  rw[List.any_eq_false]
  intro y hy
  obtain⟨d,hd,rfl⟩:=List.mem_map.mp hy
  unfold sV eqB
  intro z
  exact h (List.mem_map.mpr ⟨d,hd,Z24.mp (of_decide_eq_true z)⟩)
 unfold inD
 dsimp only
 rw[h1,h2 D hD,ZL,h3]
 rfl
def Z1H{D:List Dz}(h0:∀d,D.getLast?=some d->d.2.2.length≠0)(hD:D.length<12)(hp:∀d∈D,Ej d.1){l:List Nat}(hm:Nm l)(hn:l∉D.map (·.1)){t:Int}(h1:1<=t)(h2:t<=1000000000)(k:Int){sl:P.Slot}(hs:Sl sl [.str "day",sV l,ō t]):Cr [sl,.sh (.int k),.dw (D.map dD)]=.ok (.d 2 [sV l,.int t]):=by
 have lk:=Z0f (D:=D)
 rw[Z0e h0] at lk
 have rd:=Z1G hm h1 h2 k hs
 have cg:=Z1f D (by omega)
 have ni:=Z0p hm.pln hp hn
 have l12:¬((D.map dD).length:Int)=12:=by simp;omega
 have l16:(D.map dD).length<16777216:=by simp;omega
 generalize D.map dD=DD at *
 generalize D.map (λd=>sV d.1)=NN at *
 generalize sV l=L at *
 simp[Cr,Im,cY,startP,List.replicate,lk,l12,hs.lend,rd,RV.slot,wY,mz,mD,jq,cg,ni,xq,l16,WR.ix]
def Z0S{T:List PV}(hT:T.length<40){w:Str}{ns:List Int}(hg:Z1 w ns=true)(hw:PyData.strOk w=true)(hn:∀n∈ns,Nb n)(hl:ns.length<=1000)(k:Int){sl:P.Slot}(hs:Sl sl (.str w::ns.map ō)):xW [sl,.sh (.int k),.bw T,.dw []]=.ok (.t 2 (iz (w,ns))):=by
 have rt:=Z0Q hg hw hn hl k hs
 have l40:¬(T.length:Int)=40:=by omega
 have l16:T.length<16777216:=by omega
 change _=FR.ret (.sh (iz (w,ns))) at rt
 generalize iz (w,ns)=V at *
 simp[xW,Iw,cY,startP,List.replicate,l40,hs.lend,rt,xg,l16,WR.ix]
def Z0u{w:Str}{xs:List Int}(h:Z1 w xs=true):xs.length<=100/\(∀n∈xs,-1000000000<=n/\n<=1000000000)/\w.cps.toList.length<=1000:=by
 have hp:Za xs=true->xs.length<=100/\(∀n∈xs,-1000000000<=n/\n<=1000000000):=by
  intro h
  match xs,h with
  | [a,b,c],h=>
    simp[Za,aP,Ei] at h
    refine⟨by simp,λn hn=>?_⟩
    simp at hn
    rcases hn with rfl|rfl|rfl<;>omega
 have he:Z6 xs=true->xs.length<=100/\(∀n∈xs,-1000000000<=n/\n<=1000000000):=by
  intro h
  match xs,h with
  | [a,b,c,d,e],h=>
    simp[Z6,aP,Ei] at h
    refine⟨by simp,λn hn=>?_⟩
    simp at hn
    rcases hn with rfl|rfl|rfl|rfl|rfl<;>omega
 have hf:Z4 xs=true->Z6 xs=true:=by
  intro h
  match xs,h with
  | [a,b,c,d,e],h=>
    simp[Z4] at h
    exact h.1
 have hb:Z3 xs=true->Z6 xs=true:=by
  intro h
  match xs,h with
  | [a,b,c,d,e],h=>
    simp[Z3] at h
    exact h.1.1
 have hc:Z5 xs=true->xs.length<=100/\(∀n∈xs,-1000000000<=n/\n<=1000000000):=by
  intro h
  match xs,h with
  | [a,b,c,d,e,f,g,i,j],h=>
    simp[Z5,aP,yK] at h
    refine⟨by simp,λn hn=>?_⟩
    simp at hn
    rcases hn with rfl|rfl|rfl|rfl|rfl|rfl|rfl|rfl|rfl<;>omega
 unfold Z1 at h
 split at h
 ·next e=>exact⟨(hp h).1,(hp h).2,by rw[e];decide +kernel⟩
 split at h
 ·next e=>exact⟨(he (hf h)).1,(he (hf h)).2,by rw[e];decide +kernel⟩
 split at h
 ·next e=>exact⟨(he (hb h)).1,(he (hb h)).2,by rw[e];decide +kernel⟩
 split at h
 ·next e=>exact⟨(hc h).1,(hc h).2,by rw[e];decide +kernel⟩
 split at h
 ·next e=>exact⟨(he (hb h)).1,(he (hb h)).2,by rw[e];decide +kernel⟩
 ·cases h
inductive Rw where
 |th (t:Th)|dy (l:List Nat) (t:Int)|tn (o:Option P3)
def JH:Rw->List PV
 | .th t=>.str t.1::t.2.map ō
 | .dy l t=>[.str "day",sV l,ō t]
 | .tn o=>Xy o
def Zd{w:Str}{ns:List Int}(h:Z1 w ns=true):(∀n∈ns,Nb n)/\ns.length<=100:=⟨λn hn=>by
 have:=(Z0u h).2.1 n hn
 unfold Nb
 omega,(Z0u h).1⟩
def Zi{w:Str}{xs:List Int}(h:Z1 w xs=true):PyData.strOk w=true:=by
 unfold Z1 at h
 by_cases e1:w= "post"
 ·rw[e1];exact s1
 rw[if_neg e1] at h
 by_cases e2:w= "fence"
 ·rw[e2];exact s2
 rw[if_neg e2] at h
 by_cases e3:w= "sail"
 ·rw[e3];exact s3
 rw[if_neg e3] at h
 by_cases e4:w= "cloth"
 ·rw[e4];exact s4
 rw[if_neg e4] at h
 by_cases e5:w= "house"
 ·rw[e5];exact s5
 rw[if_neg e5] at h
 cases h
def Zz{w:Str}{xs:List Int}(h:Z1 w xs=true):w= "post" \/w= "fence" \/w= "sail" \/w= "cloth" \/w= "house" := by
 unfold Z1 at h
 by_cases e1:w= "post"
 ·exact .inl e1
 rw[if_neg e1] at h
 by_cases e2:w= "fence"
 ·exact .inr (.inl e2)
 rw[if_neg e2] at h
 by_cases e3:w= "sail"
 ·exact .inr (.inr (.inl e3))
 rw[if_neg e3] at h
 by_cases e4:w= "cloth"
 ·exact .inr (.inr (.inr (.inl e4)))
 rw[if_neg e4] at h
 by_cases e5:w= "house"
 ·exact .inr (.inr (.inr (.inr e5)))
 rw[if_neg e5] at h
 cases h
def Z08{a:Str}(ha:PyData.strOk a=true):inD false (.str a) (.tup [.str "ray",.str "night"])=some (.bl (decide (Str.ofString "ray" =a) || decide (Str.ofString "night" =a))):=by
 have h1:ň (.str a)=true:=by unfold ň;exact ha
 have h2:ų [.str (Str.ofString "ray"),.str (Str.ofString "night")]=true:=by decide +kernel
 unfold inD
 dsimp only
 rw[h1,h2]
 have h3:dep (.str a)=0:=by unfold dep;rfl
 rw[h3]
 have e:∀b:Str,eqB (.str b) (.str a)=decide (b=a):=λb=>by unfold eqB;rfl
 rw[List.any_cons,List.any_cons,List.any_nil,e,e,Bool.or_false]
 rfl
def dWD{w:Str}{xs:List Int}(h:Z1 w xs=true):¬Str.ofString "ray" =w/\¬Str.ofString "night" =w/\¬w=Str.ofString "day" := by
 rcases Zz h with rfl|rfl|rfl|rfl|rfl<;>decide +kernel
def Z1g{T:List PV}{D:List Dz}{d:Dz}(hd:D.getLast?=some d)(hl:d.2.2.length<24){o:Option P3}(ho:Zh o)(k:Int):aU [.sh (.lst (Xy o)),.sh (.int k),.bw T,.dw (D.map dD)]=.ok (.l 3 (Ũ o)):=by
 have e:=Z1e hd hl ho k (sl:=.sh (.lst (Xy o))) (.inl rfl)
 have i:∃a r,Xy o=.str a::r/\inD false (.str a) (.tup [.str "ray",.str "night"])=some (.bl true):=by
  cases o with
  |none=>exact⟨_,_,rfl,by rw[Z08 Z23];simp⟩
  |some r=>exact⟨_,_,rfl,by rw[Z08 Z0G];simp⟩
 obtain⟨a,r,e1,e2⟩:=i
 rw[e1] at e ⊢
 generalize D.map dD=DD at *
 simp[aU,vH,cY,startP,List.replicate,e2,Ŝ,fU,e,nU,WR.ix,WR.to]
def Z1I{T:List PV}{D:List Dz}(h0:∀d,D.getLast?=some d->d.2.2.length≠0)(hD:D.length<12)(hp:∀d∈D,Ej d.1){l:List Nat}(hm:Nm l)(hn:l∉D.map (·.1)){t:Int}(h1:1<=t)(h2:t<=1000000000)(k:Int):aU [.sh (.lst [.str "day",sV l,ō t]),.sh (.int k),.bw T,.dw (D.map dD)]=.ok (.d 3 [sV l,.int t]):=by
 have e:=Z1H h0 hD hp hm hn h1 h2 k (sl:=.sh (.lst [.str "day",sV l,ō t])) (.inl rfl)
 have i:inD false (.str (Str.ofString "day")) (.tup [.str "ray",.str "night"])=some (.bl false):=by
  rw[Z08 Z0H,show decide (Str.ofString "ray" =Str.ofString "day")=false by decide +kernel,show decide (Str.ofString "night" =Str.ofString "day")=false by decide +kernel]
  rfl
 have q:=bI Z0H Z0H
 generalize D.map dD=DD at *
 generalize sV l=L at *
 generalize ō t=N at *
 simp[aU,vH,cY,startP,List.replicate,i,q,Ŝ,fU,e,nU,WR.ix,WR.to]
def Z0T{T:List PV}(hT:T.length<40){t:Th}(hg:Z1 t.1 t.2=true)(k:Int):aU [.sh (.lst (.str t.1::t.2.map ō)),.sh (.int k),.bw T,.dw []]=.ok (.t 2 (iz t)):=by
 have e:=Z0S hT hg (Zi hg) (Zd hg).1 (by have:=(Zd hg).2;omega) k (sl:=.sh (.lst (.str t.1::t.2.map ō))) (.inl rfl)
 obtain⟨d1,d2,d3⟩:=dWD hg
 have i:=Z08 (Zi hg)
 have q:=bI (Zi hg) Z0H
 simp only[d1,d2,decide_false,Bool.or_self] at i
 simp only[d3,decide_false] at q
 change xW _=FW.ok (.t 2 (iz t)) at e
 generalize iz t=V at *
 generalize t.2.map ō=X at *
 generalize t.1=W at *
 simp[aU,vH,cY,startP,List.replicate,i,q,Ŝ,fU,e,nU,WR.ix,WR.to]
abbrev wu:=fu 5 6 3 4 (Ŝ aU [6,5,3,4])
def Z2l{ws:List PV}{k:Int}{T:List PV}{D:DL}{p:PV}(h:aU [.sh (.lst ws),.sh (.int k),.bw T,.dw D]=.ok (.t 2 p))(ps:List PV)(s0 s1 s2 a b:P.Slot) :
 wu (.tup [.int k,.lst ws]::ps) [s0,s1,s2,.no,.no,a,b] T D=wu ps [s0,s1,s2,.no,.no,.sh (.int k),.sh (.lst ws)] (T ++ [p]) D:=by
 unfold wu
 rw[fu]
 have e:Ŝ aU [6,5,3,4] (ů 3 4 T D ((([s0,s1,s2,.no,.no,a,b]:ħ).set 5 (.sh (.int k))).set 6 (.sh (.lst ws))))=.ok (.t 3 p) (ů 3 4 T D ((([s0,s1,s2,.no,.no,a,b]:ħ).set 5 (.sh (.int k))).set 6 (.sh (.lst ws)))):=by
  simp[Ŝ,ů,fU,mY,h,WR.ix,nU,WR.to]
 rw[e]
 rfl
def Z2m{ws:List PV}{k:Int}{T:List PV}{D:DL}{p:List PV}(h:aU [.sh (.lst ws),.sh (.int k),.bw T,.dw D]=.ok (.d 3 p))(ps:List PV)(s0 s1 s2 a b:P.Slot) :
 wu (.tup [.int k,.lst ws]::ps) [s0,s1,s2,.no,.no,a,b] T D=wu ps [s0,s1,s2,.no,.no,.sh (.int k),.sh (.lst ws)] T (D ++ [(p,[])]):=by
 unfold wu
 rw[fu]
 have e:Ŝ aU [6,5,3,4] (ů 3 4 T D ((([s0,s1,s2,.no,.no,a,b]:ħ).set 5 (.sh (.int k))).set 6 (.sh (.lst ws))))=.ok (.d 4 p) (ů 3 4 T D ((([s0,s1,s2,.no,.no,a,b]:ħ).set 5 (.sh (.int k))).set 6 (.sh (.lst ws)))):=by
  simp[Ŝ,ů,fU,mY,h,WR.ix,nU,WR.to]
 rw[e]
 rfl
def Z2n{ws:List PV}{k:Int}{T:List PV}{D:DL}{p:PV}{d:List PV×List PV}(h:aU [.sh (.lst ws),.sh (.int k),.bw T,.dw D]=.ok (.l 3 p))(hd:D.getLast?=some d)(ps:List PV)(s0 s1 s2 a b:P.Slot) :
 wu (.tup [.int k,.lst ws]::ps) [s0,s1,s2,.no,.no,a,b] T D=wu ps [s0,s1,s2,.no,.no,.sh (.int k),.sh (.lst ws)] T (D.dropLast ++ [(d.1,d.2 ++ [p])]):=by
 unfold wu
 rw[fu]
 have e:Ŝ aU [6,5,3,4] (ů 3 4 T D ((([s0,s1,s2,.no,.no,a,b]:ħ).set 5 (.sh (.int k))).set 6 (.sh (.lst ws))))=.ok (.l 4 p) (ů 3 4 T D ((([s0,s1,s2,.no,.no,a,b]:ħ).set 5 (.sh (.int k))).set 6 (.sh (.lst ws)))):=by
  simp[Ŝ,ů,fU,mY,h,WR.ix,nU,WR.to]
 rw[e]
 have e2:xJ 3 4 (.l 4 p) T D=some (T,D.dropLast ++ [(d.1,d.2 ++ [p])]):=by
  unfold xJ
  simp[hd]
 dsimp only
 rw[e2]
 rfl
def yL(r:Rw):PV:=.lst (JH r)
def Z1J:∀(ts:List Th) (T0:List PV) (k:Nat) (rest:List PV) (s0 s1 s2 a b:P.Slot),(∀t∈ts,Z1 t.1 t.2=true)->T0.length+ts.length<=40->
 ∃a' b',wu (bH k (ts.map (λt=>yL (.th t))++rest)) [s0,s1,s2,.no,.no,a,b] T0 []=wu (bH (k+ts.length) rest) [s0,s1,s2,.no,.no,a',b'] (T0++ts.map iz) []:=by
 intro ts
 induction ts with
 |nil=>intro T0 k rest s0 s1 s2 a b _ _;exact⟨a,b,by simp⟩
 |cons t ts ih=>
  intro T0 k rest s0 s1 s2 a b hg hl
  rw[List.length_cons] at hl
  have r:=Z0T (T:=T0) (by omega) (hg t (by simp)) (k:Int)
  obtain⟨a',b',e⟩:=ih (T0 ++ [iz t]) (k+1) rest s0 s1 s2 (.sh (.int k)) (.sh (yL (.th t))) (λx hx=>hg x (List.mem_cons_of_mem _ hx)) (by simp;omega)
  refine⟨a',b',?_⟩
  rw[List.map_cons,List.cons_append]
  show wu (.tup [.int k,.lst (JH (.th t))]::bH (k+1) _) _ _ _=_
  rw[Z2l (show aU [.sh (.lst (JH (.th t))),.sh (.int k),.bw T0,.dw []]=_ from r)]
  refine e.trans ?_
  rw[List.length_cons,show k+1+ts.length=k+(ts.length+1) by omega]
  simp
def Z1K:∀(os:List (Option P3)) (T:List PV) (D:List Dz) (d:Dz) (k:Nat) (rest:List PV) (s0 s1 s2 a b:P.Slot),(∀o∈os,Zh o)->d.2.2.length+os.length<=24->
 ∃a' b',wu (bH k (os.map (λo=>yL (.tn o))++rest)) [s0,s1,s2,.no,.no,a,b] T ((D ++ [d]).map dD)=wu (bH (k+os.length) rest) [s0,s1,s2,.no,.no,a',b'] T ((D ++ [(d.1,d.2.1,d.2.2++os)]).map dD):=by
 intro os
 induction os with
 |nil=>intro T D d k rest s0 s1 s2 a b _ _;exact⟨a,b,by simp⟩
 |cons o os ih=>
  intro T D d k rest s0 s1 s2 a b hg hl
  rw[List.length_cons] at hl
  have r:=Z1g (T:=T) (D:=D ++ [d]) (d:=d) (by simp) (by omega) (hg o (by simp)) (k:Int)
  obtain⟨a',b',e⟩:=ih T D (d.1,d.2.1,d.2.2 ++ [o]) (k+1) rest s0 s1 s2 (.sh (.int k)) (.sh (yL (.tn o))) (λx hx=>hg x (List.mem_cons_of_mem _ hx)) (by simp;omega)
  refine⟨a',b',?_⟩
  rw[List.map_cons,List.cons_append]
  show wu (.tup [.int k,.lst (JH (.tn o))]::bH (k+1) _) _ _ _=_
  rw[Z2n (d:=dD d) (show aU [.sh (.lst (JH (.tn o))),.sh (.int k),.bw T,.dw ((D ++ [d]).map dD)]=_ from r) (by rw[List.map_append];simp)]
  have ed:((D ++ [d]).map dD).dropLast ++ [((dD d).1,(dD d).2 ++ [Ũ o])]=(D ++ [(d.1,d.2.1,d.2.2 ++ [o])]).map dD:=by
   rw[List.map_append,List.map_append,List.map_cons,List.map_nil,List.dropLast_concat]
   simp[dD]
  rw[ed]
  refine e.trans ?_
  rw[List.length_cons,show k+1+os.length=k+(os.length+1) by omega]
  simp
def Z7(d:Dz):Prop:=Nm d.1/\1<=d.2.1/\d.2.1<=1000000000/\1<=d.2.2.length/\d.2.2.length<=24/\∀o∈d.2.2,Zh o
def Jx(d:Dz):List PV:=yL (.dy d.1 d.2.1)::d.2.2.map λo=>yL (.tn o)
def Z1L:∀(ds:List Dz) (T:List PV) (D:List Dz) (k:Nat) (s0 s1 s2 a b:P.Slot),(∀d∈D++ds,Z7 d)->((D++ds).map (·.1)).Nodup->D.length+ds.length<=12->
 ∃a' b',wu (bH k (ds.flatMap Jx)) [s0,s1,s2,.no,.no,a,b] T (D.map dD)=.ok (T,(D++ds).map dD) [s0,s1,s2,.no,.no,a',b']:=by
 intro ds
 induction ds with
 |nil=>intro T D k s0 s1 s2 a b _ _ _;exact⟨a,b,by simp[bH,fu]⟩
 |cons d ds ih=>
  intro T D k s0 s1 s2 a b hg hn hl
  rw[List.length_cons] at hl
  obtain⟨g1,g2,g3,g4,g5,g6⟩:=hg d (by simp)
  have hn1:d.1∉D.map (·.1):=by
   rw[List.map_append,List.map_cons,List.nodup_append] at hn
   intro z
   exact hn.2.2 _ z _ (by simp) rfl
  have h0:∀x,D.getLast?=some x->x.2.2.length≠0:=λx hx=>by
   have:=(hg x (List.mem_append_left _ (List.mem_of_getLast? hx))).2.2.2.1
   omega
  have r:=Z1I (T:=T) h0 (by omega) (λx hx=>(hg x (List.mem_append_left _ hx)).1.pln) g1 hn1 g2 g3 (k:Int)
  rw[List.flatMap_cons]
  show ∃a' b',wu (.tup [.int k,.lst (JH (.dy d.1 d.2.1))]::bH (k+1) (d.2.2.map (λo=>yL (.tn o))++ds.flatMap Jx)) _ _ _=_
  rw[Z2m (show aU [.sh (.lst (JH (.dy d.1 d.2.1))),.sh (.int k),.bw T,.dw (D.map dD)]=_ from r)]
  have ed:D.map dD ++ [([sV d.1,.int d.2.1],[])]=(D ++ [(d.1,d.2.1,[])]).map dD:=by
   rw[List.map_append];rfl
  rw[ed]
  obtain⟨a1,b1,e1⟩:=Z1K d.2.2 T D (d.1,d.2.1,[]) (k+1) (ds.flatMap Jx) s0 s1 s2 (.sh (.int k)) (.sh (.lst (JH (.dy d.1 d.2.1)))) g6 (by simpa using g5)
  have ed2:(D ++ [(d.1,d.2.1,[]++d.2.2)])=D ++ [d]:=by simp
  rw[e1]
  dsimp only
  rw[ed2]
  have hh:D ++ [d]++ds=D++d::ds:=by simp
  obtain⟨a2,b2,e2⟩:=ih T (D ++ [d]) (k+1+d.2.2.length) s0 s1 s2 a1 b1 (by rw[hh];exact hg) (by rw[hh];exact hn) (by simp;omega)
  rw[hh] at e2
  exact⟨a2,b2,e2⟩
def Z2o(D:List Dz)(hl:D.length<=1000)(hd:∀d∈D,d.2.2.length<=1000):cL (gD 0 1 2) Ķ (jm (ă (ė 0) (ă (ė 1) (ă (Č (lJ cU (ă (Ā 2) Ė))) Ė)))) (D.map dD) [.no,.no,.no] []=some ((D.map zV).map bF):=by
 have key:∀(D:List Dz) (acc:List PV) (a b c:P.Slot),acc.length+D.length<=1000->(∀d∈D,d.2.2.length<=1000)->cL (gD 0 1 2) Ķ (jm (ă (ė 0) (ă (ė 1) (ă (Č (lJ cU (ă (Ā 2) Ė))) Ė)))) (D.map dD) [a,b,c] acc=some (acc++(D.map zV).map bF):=by
  intro D
  induction D with
  |nil=>intro acc a b c _ _;simp[cL]
  |cons d D ih=>
   intro acc a b c hl hd
   rw[List.length_cons] at hl
   have h1:acc.length<16777216:=by omega
   have h2:=hd d (by simp)
   have:=ih (acc ++ [bF (zV d)]) (.sh (sV d.1)) (.sh (.int d.2.1)) (.bw (d.2.2.map Ũ)) (by simp;omega) (λx hx=>hd x (List.mem_cons_of_mem _ hx))
   have e:dD d=([sV d.1,.int d.2.1],d.2.2.map Ũ):=rfl
   have e2:bF (zV d)=.tup [sV d.1,.int d.2.1,.lst (d.2.2.map Ũ)]:=rfl
   have hz:(d.2.2.map Ũ).length<=16777216:=by simp;omega
   rw[List.map_cons,cL,List.map_cons,List.map_cons,e]
   rw[e2] at this ⊢
   generalize d.2.2.map Ũ=TT at *
   simp[gD,h1,Ķ,hz]
   simpa using this
 simpa using key D [] .no .no .no (by simpa using hl) hd
def Z0v(w h:Int){T:List Th}{D:List Dz}(hT:T.length<=100000)(hD:D.length<=1000)(hd:∀d∈D,d.2.2.length<=1000):fB [.sh (.int w),.sh (.int h),.bw (T.map iz),.dw (D.map dD)]=.ok ["width","height","things","days"] [.int w,.int h,.lst (T.map iz),.lst ((D.map zV).map bF)]:=by
 have c:=Z2o D hD hd
 generalize hx:T.map iz=tx at *
 generalize (D.map zV).map bF=dx at *
 generalize D.map dD=DD at *
 simp[fB,cX,Ih,iQ,IR.of,List.replicate,putN,zM,ywh,ywt,ywd,yht,yhd,ytd,c,mEi,Vp,mz,mD,jq]
def wC(s:String):List Nat:=(Str.ofString s).cps.toList
def ZM(s:Str):S s.cps.toList=s:=Str.ext' (by simp)
def ŕ:Rw->List (List Nat)
 | .th t=>t.1.cps.toList::t.2.map nT
 | .dy l t=>[wC "day",l,nT t]
 | .tn none=>[wC "night"]
 | .tn (some r)=>[wC "ray",nT r.1,nT r.2.1,nT r.2.2]
theorem Z1w:∀r:Rw,(ŕ r).map sV=JH r
 | .th t=>by
   unfold ŕ JH sV
   rw[List.map_cons,ZM,List.map_map]
   rfl
 | .dy l t=>rfl
 | .tn none=>rfl
 | .tn (some r)=>rfl
def Zf(T:List Th)(D:List Dz):List Rw:=T.map .th++D.flatMap λd=>.dy d.1 d.2.1::d.2.2.map .tn
def Z0(ws:List (List Nat)):List Nat:=ū [32] ws
def yT(w h:Int):List (List Nat):=[wC "yard",nT w,nT h]
def Mf(w h:Int)(T:List Th)(D:List Dz):List (List Nat):=Z0 (yT w h)::(Zf T D).map λr=>Z0 (ŕ r)
def wz(w h:Int)(T:List Th)(D:List Dz):List Nat:=ū [10] (Mf w h T D)
def Wd(l:List Nat):Prop:=l.length<=11/\∀c∈l,33<=c/\c<256
def Zu{n:Int}(h:Nb n):Wd (nT n):=⟨(ZK h.1 h.2).2,λc hc=>by rcases ZH h.1 h.2 c hc with h|h<;>omega⟩
def Nm.wd{l:List Nat}(h:Nm l):Wd l:=⟨by have:=h.2.1;omega,λc hc=>by have:=h.2.2 c hc;omega⟩
def ZN{s:String}(h:((wC s).length<=11/\(wC s).all (λc=>decide (33<=c/\c<256))=true)):Wd (wC s):=⟨h.1,λc hc=>of_decide_eq_true (List.all_eq_true.mp h.2 c hc)⟩
def Z1M{w:Str}{xs:List Int}(h:Z1 w xs=true):Wd w.cps.toList:=by
 rcases Zz h with rfl|rfl|rfl|rfl|rfl<;>exact ZN (by decide +kernel)
def Z0g:Rw->Prop
 | .th t=>Z1 t.1 t.2=true
 | .dy l t=>Nm l/\1<=t/\t<=1000000000
 | .tn o=>Zh o
theorem Zv:∀{r:Rw},Z0g r->(∀x∈ŕ r,Wd x)/\ŕ r≠[]/\(ŕ r).length<=101
 | .th t,h=>by
   have h':Z1 t.1 t.2=true:=h
   refine⟨λx hx=>?_,by simp[ŕ],?_⟩
   ·rcases List.mem_cons.mp hx with rfl|hx
    ·exact Z1M h'
    ·obtain⟨n,hn,rfl⟩:=List.mem_map.mp hx
     exact Zu ((Zd h').1 n hn)
   ·have:=(Zd h').2
    simp[ŕ];omega
 | .dy l t,h=>by
   obtain⟨h1,h2,h3⟩:=h
   refine⟨λx hx=>?_,by simp[ŕ],by simp[ŕ]⟩
   have:x=wC "day" \/x=l\/x=nT t:=by simpa[ŕ] using hx
   rcases this with rfl|rfl|rfl
   ·exact ZN (by decide +kernel)
   ·exact h1.wd
   ·exact Zu ⟨by omega,by omega⟩
 | .tn none,_=>by
   refine⟨λx hx=>?_,by simp[ŕ],by simp[ŕ]⟩
   have:x=wC "night" := by simpa[ŕ] using hx
   subst this
   exact ZN (by decide +kernel)
 | .tn (some r),h=>by
   obtain⟨h1,h2,h3,h4,h5,h6⟩:=h
   refine⟨λx hx=>?_,by simp[ŕ],by simp[ŕ]⟩
   have:x=wC "ray" \/x=nT r.1\/x=nT r.2.1\/x=nT r.2.2:=by simpa[ŕ] using hx
   rcases this with rfl|rfl|rfl|rfl
   ·exact ZN (by decide +kernel)
   ·exact Zu ⟨by omega,by omega⟩
   ·exact Zu ⟨by omega,by omega⟩
   ·exact Zu ⟨by omega,by omega⟩
theorem Zo{c:Nat}:∀(ys:List (List Nat)) {x:Nat},x∈ū [c] ys->x=c\/∃y∈ys,x∈y
 | [],_,h=>by cases h
 | [y],_,h=>.inr ⟨y,by simp,h⟩
 |y::z::r,x,h=>by
  have h':x∈y ++ [c]++ū [c] (z::r):=h
  rcases List.mem_append.mp h' with h1|h1
  ·rcases List.mem_append.mp h1 with h2|h2
   ·exact .inr ⟨y,by simp,h2⟩
   ·exact .inl (by simpa using h2)
  ·rcases Zo (z::r) h1 with e|⟨q,hq,e⟩
   ·exact .inl e
   ·exact .inr ⟨q,List.mem_cons_of_mem _ hq,e⟩
theorem ZI{c:Nat}:∀(ys:List (List Nat)) (B:Nat),(∀y∈ys,y.length<=B)->(ū [c] ys).length<=ys.length*(B+1)
 | [],B,_=>by simp[ū]
 | [y],B,h=>by
   have:=h y (by simp)
   show y.length<=_
   simp
   omega
 |y::z::r,B,h=>by
  have h1:=h y (by simp)
  have ih:=ZI (c:=c) (z::r) B λq hq=>h q (List.mem_cons_of_mem _ hq)
  show(y ++ [c]++ū [c] (z::r)).length<=_
  rw[List.length_append,List.length_append]
  have e:(y::z::r).length*(B+1)=(z::r).length*(B+1)+(B+1):=by
   rw[List.length_cons (a:=y),Nat.add_mul,Nat.one_mul]
  have e1:[c].length=1:=rfl
  omega
def Z0U{ws:List (List Nat)}(h:∀x∈ws,Wd x)(h0:ws≠[]):Sp.ĳ 32 (Z0 ws)=ws:=Sp.jt 32 ws h0 λy hy z=>by have:=(h y hy).2 32 z;omega
def Z25{ws:List (List Nat)}(h:∀x∈ws,Wd x):10∉Z0 ws:=λz=>by
 rcases Zo ws z with e|⟨y,hy,e⟩
 ·cases e
 ·have:=(h y hy).2 10 e;omega
def ZC{ws:List (List Nat)}(h:∀x∈ws,Wd x)(hl:ws.length<=101):(Z0 ws).length<=1212:=by
 have:=ZI (c:=32) ws 11 λy hy=>(h y hy).1
 unfold Z0
 have h2:ws.length*(11+1)<=101*12:=Nat.mul_le_mul hl (by omega)
 omega
def ZO{w h:Int}(hw:1<=w/\w<=20)(hh:1<=h/\h<=20):(∀x∈yT w h,Wd x)/\yT w h≠[]/\(yT w h).length<=101:=by
 refine⟨λx hx=>?_,by simp[yT],by simp[yT]⟩
 have:x=wC "yard" \/x=nT w\/x=nT h:=by simpa[yT] using hx
 rcases this with rfl|rfl|rfl
 ·exact ZN (by decide +kernel)
 ·exact Zu ⟨by omega,by omega⟩
 ·exact Zu ⟨by omega,by omega⟩
def Z0V{W:List (List (List Nat))}(h0:W≠[])(h:∀ws∈W,∀x∈ws,Wd x):Sp.ĳ 10 (ū [10] (W.map Z0))=W.map Z0:=by
 refine Sp.jt 10 _ (by simpa using h0) λy hy=>?_
 obtain⟨ws,hw,rfl⟩:=List.mem_map.mp hy
 exact Z25 (h ws hw)
def Z1N{W:List (List (List Nat))}(hl:W.length<=1000)(h:∀ws∈W,(∀x∈ws,Wd x)/\ws.length<=101):(ū [10] (W.map Z0)).length<=1213000:=by
 have:=ZI (c:=10) (W.map Z0) 1212 λy hy=>by
  obtain⟨ws,hw,rfl⟩:=List.mem_map.mp hy
  exact ZC (h ws hw).1 (h ws hw).2
 rw[List.length_map] at this
 have h2:W.length*(1212+1)<=1000*1213:=Nat.mul_le_mul hl (by omega)
 omega
def Z0h{c:Nat}(hc:c<256){y:Str}(hy:y=S [c]){l:List Nat}(hl:l.length<=16000000):ju (sV l) [.str y]=some (.ow ((Sp.ĳ c l).map sV)):=by
 have e:DP y=some c:=by rw[hy];rfl
 show((DP y).bind λc=>if c<256/\(S l).length+2<=16777216 then some (RV.ow ((Sp.ĳ c (S l).cps.toList).map λl=>PV.str (S l))) else none)=_
 rw[e]
 show(if c<256/\(S l).length+2<=16777216 then some (RV.ow ((Sp.ĳ c (S l).cps.toList).map λl=>PV.str (S l))) else none)=_
 rw[if_pos ⟨hc,by rw[Z9];omega⟩]
 rfl
def c10:Str.ofString "\n" =S [10]:=by decide +kernel
def c32:Str.ofString " " =S [32]:=by decide +kernel
def Z0W{W:List (List (List Nat))}(hl:W.length<=1000)(h:∀ws∈W,(∀x∈ws,Wd x)/\ws≠[]/\ws.length<=101):Ō (gN 0) Ķ (Č (DN ju (Ā 0) (ă (mC (.str " ")) Ė))) ((W.map Z0).map sV) [.no] []=some (W.map λws=>.lst (ws.map sV)):=by
 have:=ļ (g:=gN 0) (mt:=Ķ) (me:=Č (DN ju (Ā 0) (ă (mC (.str " ")) Ė))) (λws=>sV (Z0 ws)) (λws=>PV.lst (ws.map sV)) (λρ=>∃s,ρ=[s]) W [.no] [] ⟨_,rfl⟩ (by simp;omega) (by
  rintro ws hw ρ ⟨s,rfl⟩
  obtain⟨h1,h2,h3⟩:=h ws hw
  have e:=Z0h (c:=32) (by omega) c32 (l:=Z0 ws) (by have:=ZC h1 h3;omega)
  rw[Z0U h1 h2] at e
  refine⟨[.sh (sV (Z0 ws))],_,[.sh (sV (Z0 ws))],by simp,rfl,?_,_,rfl⟩
  unfold sV at e ⊢
  simp[e])
 rw[List.map_map]
 simpa[Function.comp_def] using this
def ZS{T:List Th}{D:List Dz}(hT:∀t∈T,Z1 t.1 t.2=true)(hD:∀d∈D,Z7 d):∀r∈Zf T D,Z0g r:=by
 intro r hr
 rcases List.mem_append.mp hr with hr|hr
 ·obtain⟨t,ht,rfl⟩:=List.mem_map.mp hr
  exact hT t ht
 ·obtain⟨d,hd,hr⟩:=List.mem_flatMap.mp hr
  obtain⟨g1,g2,g3,_,_,g6⟩:=hD d hd
  rcases List.mem_cons.mp hr with rfl|hr
  ·exact⟨g1,g2,g3⟩
  ·obtain⟨o,ho,rfl⟩:=List.mem_map.mp hr
   exact g6 o ho
def Z0i{T:List Th}{D:List Dz}(hT:T.length<=40)(hD:∀d∈D,Z7 d)(hl:D.length<=12):(Zf T D).length<=400:=by
 have:∀D:List Dz,(∀d∈D,Z7 d)->(D.flatMap λd=>Rw.dy d.1 d.2.1::d.2.2.map Rw.tn).length<=D.length*25:=by
  intro D
  induction D with
  |nil=>intro _;simp
  |cons d D ih=>
   intro h
   have h1:=ih λx hx=>h x (List.mem_cons_of_mem _ hx)
   have h2:=(h d (by simp)).2.2.2.2.1
   rw[List.flatMap_cons,List.length_append,List.length_cons,List.length_cons,List.length_map]
   omega
 have:=this D hD
 unfold Zf
 rw[List.length_append,List.length_map]
 omega
def Z26(T:List Th)(D:List Dz):((Zf T D).map λr=>PV.lst ((ŕ r).map sV))=T.map (λt=>yL (.th t))++D.flatMap Jx:=by
 have e:∀r,PV.lst ((ŕ r).map sV)=yL r:=λr=>by unfold yL;rw[Z1w]
 unfold Zf
 rw[List.map_congr_left λr _=>e r,List.map_append,List.map_map,List.map_flatMap]
 congr 1
 have:(λd:Dz=>List.map (λr=>yL r) (Rw.dy d.1 d.2.1::d.2.2.map Rw.tn))=Jx:=funext λd=>by
  rw[List.map_cons,List.map_map]
  rfl
 rw[this]
def Z1O{w h:Int}(hw:1<=w/\w<=20)(hh:1<=h/\h<=20){T:List Th}(hT:∀t∈T,Z1 t.1 t.2=true)(yG:T.length<=40){D:List Dz}(hD:∀d∈D,Z7 d)(yH:D.length<=12)(hn:(D.map (·.1)).Nodup):Cv [.sh (sV (wz w h T D))]=.ret (.sh (Z2 w h T (D.map zV))):=by
 obtain⟨y1,y2,y3⟩:=ZO hw hh
 have hW:∀ws∈yT w h::(Zf T D).map ŕ,(∀x∈ws,Wd x)/\ws≠[]/\ws.length<=101:=λws hws=>by
  rcases List.mem_cons.mp hws with rfl|hws
  ·exact⟨y1,y2,y3⟩
  ·obtain⟨r,hr,rfl⟩:=List.mem_map.mp hws
   exact Zv (ZS hT hD r hr)
 have hWl:(yT w h::(Zf T D).map ŕ).length<=1000:=by
  have:=Z0i yG hD yH
  simp;omega
 have eT:wz w h T D=ū [10] ((yT w h::(Zf T D).map ŕ).map Z0):=by
  unfold wz Mf
  rw[List.map_cons,List.map_map]
  rfl
 have sp:=Z0h (c:=10) (by omega) c10 (l:=wz w h T D) (by rw[eT];have:=Z1N hWl λws hws=>⟨(hW ws hws).1,(hW ws hws).2.2⟩;omega)
 rw[eT,Z0V (by simp) λws hws=>(hW ws hws).1,<-eT] at sp
 have rc:=Z0W hWl hW
 have er:((yT w h::(Zf T D).map ŕ).map λws=>PV.lst (ws.map sV))=PV.lst [.str "yard",ō w,ō h]::(T.map (λt=>yL (.th t))++D.flatMap Jx):=by
  rw[List.map_cons,List.map_map,<-Z26]
  rfl
 rw[er] at rc
 have sz:=Z1F hw hh
 have ct:=Z0d (PV.lst [.str "yard",ō w,ō h]) (T.map (λt=>yL (.th t))++D.flatMap Jx)
 obtain⟨a1,b1,e1⟩:=Z1J T [] 1 (D.flatMap Jx) (.sh (sV (wz w h T D))) (.ow (PV.lst [.str "yard",ō w,ō h]::(T.map (λt=>yL (.th t))++D.flatMap Jx))) (.sh (.lst [.int w,.int h])) .no .no hT (by simpa using yG)
 obtain⟨a2,b2,e2⟩:=Z1L D ([]++T.map iz) [] (1+T.length) (.sh (sV (wz w h T D))) (.ow (PV.lst [.str "yard",ō w,ō h]::(T.map (λt=>yL (.th t))++D.flatMap Jx))) (.sh (.lst [.int w,.int h])) a1 b1 (by simpa using hD) (by simpa using hn) (by simpa using yH)
 rw[List.map_nil] at e2
 have lp:=e1.trans e2
 rw[List.nil_append,List.nil_append] at lp
 have lk:=Z0f (D:=D)
 rw[Z0e λd e=>by have:=(hD d (List.mem_of_getLast? e)).2.2.2.1;omega] at lk
 have yd:=Z0v w h (T:=T) (D:=D) (by omega) (by omega) λd hd=>by have:=(hD d hd).2.2.2.2.1;omega
 have eq:Z2 w h T (D.map zV)=.ins "Yard" ["width","height","things","days"] [.int w,.int h,.lst (T.map iz),.lst ((D.map zV).map bF)]:=rfl
 rw[eq]
 generalize (D.map zV).map bF=DY at *
 generalize D.map dD=DD at *
 generalize T.map iz=TH at *
 generalize T.map (λt=>yL (.th t))++D.flatMap Jx=RR at *
 generalize ((yT w h::(Zf T D).map ŕ).map Z0).map sV=LN at *
 generalize PV.lst [.str "yard",ō w,ō h]=YR at *
 generalize wz w h T D=TX at *
 unfold sV at sp lp ⊢
 generalize S TX=X at *
 unfold wu at lp
 have pl1:plainS (.sh (.str X))=true:=rfl
 simp[Cv,Iz,List.replicate,sp,rc,sz,ct]
 have em:vm (mLs (Č (lO (Ā 1) (mP (mC (.int 1))) cG))) [.sh (.str X),.ow (YR::RR),.sh (.lst [.int w,.int h]),.no,.no,.no,.no]=.ok (bH 1 RR) [.sh (.str X),.ow (YR::RR),.sh (.lst [.int w,.int h]),.no,.no,.no,.no]:=by
  simp[mLs,ct]
 have tl:(Ě (dJ (cC (Č (ę nj (Ċ 4 ē)))) iC fQ) (Į (ż (cI "Yard" fB (ġ (Ą Ğ (Ā 2) (mC (.int 0))) (ġ (Ą Ğ (Ā 2) (mC (.int 1))) (Ċ 3 (Ċ 4 ē)))))))) (ů 3 4 TH DD [.sh (.str X),.ow (YR::RR),.sh (.lst [.int w,.int h]),.no,.no,a2,b2])=.ok (.rt (.sh (.ins "Yard" ["width","height","things","days"] [.int w,.int h,.lst TH,.lst DY]))) (ů 3 4 TH DD [.sh (.str X),.ow (YR::RR),.sh (.lst [.int w,.int h]),.no,.no,a2,b2]):=by
  simp[ů,mY,lk,yd]
 have pa:([.sh (.str X),.ow (YR::RR),.sh (.lst [.int w,.int h]),.no,.no,.no,.no]:ħ).all plainS=true:=rfl
 unfold mRY
 rw[if_pos ⟨pa,by simp,by simp⟩]
 simp only[List.set_cons_succ,List.set_cons_zero,em]
 rw[if_pos pa,lp]
 simp only[Res.bZ,tl]
 rfl
theorem Z0w:∀ys:List (List Nat),strsOf (ys.map sV)=some ys
 | []=>rfl
 |y::ys=>by
  rw[List.map_cons]
  show(strsOf (ys.map sV)).map ((S y).cps.toList:: ·)=_
  rw[Z0w ys]
  rfl
theorem Z0X:∀(ys:List (List Nat)) (B:Nat),(∀y∈ys,y.length<=B)->(ys.map List.length).sum<=ys.length*B
 | [],_,_=>by simp
 |y::ys,B,h=>by
  have h1:=h y (by simp)
  have ih:=Z0X ys B λq hq=>h q (List.mem_cons_of_mem _ hq)
  rw[List.map_cons,List.sum_cons,List.length_cons,Nat.add_mul]
  omega
def Z0x{c:Nat}{y:Str}(hy:y=S [c]){ys:List (List Nat)}{B:Nat}(h:∀x∈ys,x.length<=B)(hl:ys.length*(B+1)<=16000000):gM (.str y) [.lst (ys.map sV)]=some (sV (ū [c] ys)):=by
 rw[hy]
 show((strsOf (ys.map sV)).bind λys=>if(ys.map List.length).sum+ys.length*(S [c]).length<=16777216 then some (PV.str (S (ū (S [c]).cps.toList ys))) else none)=_
 rw[Z0w]
 have h1:=Z0X ys B h
 have h2:(S [c]).length=1:=rfl
 show(if(ys.map List.length).sum+ys.length*(S [c]).length<=16777216 then some (PV.str (S (ū [c] ys))) else none)=_
 rw[h2,if_pos (by rw[Nat.mul_add] at hl;omega)]
 rfl
def Zw{ws:List (List Nat)}(h:∀x∈ws,Wd x)(hl:ws.length<=101):gM (.str " ") [.lst (ws.map sV)]=some (sV (Z0 ws)):=
 Z0x c32 (B:=11) (λx hx=>(h x hx).1) (by have:ws.length*(11+1)<=101*12:=Nat.mul_le_mul hl (by omega);omega)
def Z0Y{n:Int}(h:Nb n):n.natAbs.log2<1920:=by
 have:n.natAbs<2 ^ 1920:=by
  have h1:n.natAbs<2 ^ 34:=by unfold Nb at h;omega
  exact Nat.lt_of_lt_of_le h1 (Nat.pow_le_pow_right (by omega) (by omega))
 by_cases h0:n.natAbs=0
 ·rw[h0];decide
 ·exact(Nat.log2_lt h0).mpr this
def Zb{n:Int}(h:Nb n):bV [.int n]=some (ō n):=by
 show(if n.natAbs.log2<1920 then some (PV.str (Str.ofString (toString n))) else none)=_
 rw[if_pos (Z0Y h),Z0O]
 rfl
def ZY{ns:List Int}(hn:∀n∈ns,Nb n)(hl:ns.length<=1000):Ō (gN 0) Ķ (bT bV (ă (Ā 0) Ė)) (ns.map .int) [.no] []=some (ns.map ō):=by
 have:=ļ (g:=gN 0) (mt:=Ķ) (me:=bT bV (ă (Ā 0) Ė)) PV.int ō (λρ=>∃s,ρ=[s]) ns [.no] [] ⟨_,rfl⟩ (by simp;omega) (by
  rintro x hx ρ ⟨s,rfl⟩
  have e:=Zb (hn x hx)
  exact⟨[.sh (.int x)],_,[.sh (.int x)],by simp,rfl,by simp[e,-xP],_,rfl⟩)
 simpa using this
def Z27{C:String}(hC:(["Thing","Post","Fence","Sail","Cloth","House"]:List String).contains C=true)(w:Str)(xs:List Int):ſ ["Thing","Post","Fence","Sail","Cloth","House"] (Str.ofString "word") (Zc C w xs)=some (.str w):=by
 unfold ſ Zc
 dsimp only
 rw[if_pos hC]
 simp
def Z28{C:String}(hC:(["Thing","Post","Fence","Sail","Cloth","House"]:List String).contains C=true)(w:Str)(xs:List Int):ſ ["Thing","Post","Fence","Sail","Cloth","House"] (Str.ofString "numbers") (Zc C w xs)=some (.lst (xs.map .int)):=by
 have:(Str.ofString "numbers" == Str.ofString "word")=false:=by decide +kernel
 unfold ſ Zc
 dsimp only
 rw[if_pos hC]
 simp[List.lookup_cons,this]
def Z0j(w:Str):(["Thing","Post","Fence","Sail","Cloth","House"]:List String).contains (Ze w)=true:=by
 unfold Ze
 repeat' split
 all_goals decide
def Z1h{t:Th}(hg:Z1 t.1 t.2=true):ń [.sh (iz t)]=.ret (.sh (sV (Z0 (ŕ (.th t))))):=by
 obtain⟨h1,h2,h3⟩:=Zv (r:=.th t) hg
 have j:=Zw h1 h3
 have e:(ŕ (.th t)).map sV=.str t.1::t.2.map ō:=Z1w (.th t)
 rw[e] at j
 have f1:=Z27 (Z0j t.1) t.1 t.2
 have f2:=Z28 (Z0j t.1) t.1 t.2
 have c:=ZY (Zd hg).1 (by have:=(Zd hg).2;omega)
 have hl:(t.2.map ō).length<=1000:=by have:=(Zd hg).2;simp;omega
 change ſ _ _ (iz t)=_ at f1
 change ſ _ _ (iz t)=_ at f2
 have ad:ě (.lst [.str t.1]) (.lst (t.2.map ō))=some (.ow (.str t.1::t.2.map ō)):=by
  rw[add_l (by simp only[List.length_cons,List.length_nil];omega)]
  rfl
 generalize iz t=V at *
 generalize t.2.map ō=X at *
 generalize t.2.map PV.int=Y at *
 generalize sV (Z0 (ŕ (.th t)))=Z at *
 simp[ń,Pj,List.replicate,f1,f2,c,ad,j]
def Z1i{o:Option P3}(ho:Zh o):qF [.sh (Ũ o)]=.ret (.sh (sV (Z0 (ŕ (.tn o))))):=by
 cases o with
 |none=>
  have e:sV (Z0 (ŕ (.tn none)))=.str "night" := congrArg PV.str (ZM _)
  rw[e]
  simp[qF,Ah,List.replicate,Ũ,JC]
 |some r=>
  obtain⟨h1,h2,h3⟩:=Zv (r:=.tn (some r)) ho
  have j:=Zw h1 h3
  obtain⟨b1,b2,b3,b4,b5,b6⟩:=ho
  have e:(ŕ (.tn (some r))).map sV=[.str "ray",ō r.1,ō r.2.1,ō r.2.2]:=rfl
  rw[e] at j
  have c:=ZY (ns:=[r.1,r.2.1,r.2.2]) (λn hn=>by simp at hn;unfold Nb;omega) (by simp)
  simp only[List.map_cons,List.map_nil] at c
  have ad:ě (.lst [.str "ray"]) (.lst [ō r.1,ō r.2.1,ō r.2.2])=some (.ow [.str "ray",ō r.1,ō r.2.1,ō r.2.2]):=by
   rw[add_l (by simp)]
   rfl
  generalize sV (Z0 (ŕ (.tn (some r))))=Z at *
  generalize ō r.1=A at *
  generalize ō r.2.1=B at *
  generalize ō r.2.2=C at *
  simp[qF,Ah,List.replicate,Ũ,c3,JC,c,ad,j]
def ZP{T:List Th}(hT:∀t∈T,Z1 t.1 t.2=true)(hl:T.length<=1000):Ō (gN 0) Ķ (Č (pU "shown" [("Thing",ń),("Post",ń),("Fence",ń),("Sail",ń),("Cloth",ń),("House",ń)] (ė 0) ē)) (T.map iz) [.no] []=some (T.map λt=>sV (Z0 (ŕ (.th t)))):=by
 have:=ļ (g:=gN 0) (mt:=Ķ) (me:=Č (pU "shown" [("Thing",ń),("Post",ń),("Fence",ń),("Sail",ń),("Cloth",ń),("House",ń)] (ė 0) ē)) iz (λt=>sV (Z0 (ŕ (.th t)))) (λρ=>∃s,ρ=[s]) T [.no] [] ⟨_,rfl⟩ (by simp;omega) (by
  rintro t ht ρ ⟨s,rfl⟩
  have e:=Z1h (hT t ht)
  have lk:([("Thing",ń),("Post",ń),("Fence",ń),("Sail",ń),("Cloth",ń),("House",ń)]:List (String×MF)).lookup (Ze t.1)=some ń:=by
   have:=Zz (hT t ht)
   rcases this with h|h|h|h|h<;>rw[h]<;>rfl
  refine⟨[.sh (iz t)],_,[.sh (iz t)],by simp,rfl,?_,_,rfl⟩
  have ev:iz t=.ins (Ze t.1) ["word","numbers"] [.str t.1,.lst (t.2.map .int)]:=rfl
  rw[ev] at e ⊢
  generalize sV (Z0 (ŕ (.th t)))=Z at *
  generalize t.2.map PV.int=Y at *
  generalize Ze t.1=C at *
  have d1:(Str.ofString "shown" =Str.ofString "word")=False:=eq_false (by decide +kernel)
  have d2:(Str.ofString "shown" =Str.ofString "numbers")=False:=eq_false (by decide +kernel)
  simp[lk,e,d1,d2])
 simpa using this
def Z0q{os:List (Option P3)}(ho:∀o∈os,Zh o)(hl:os.length<=1000):Ō (gN 0) Ķ (Č (ę qF (Ċ 0 ē))) (os.map Ũ) [.no] []=some (os.map λo=>sV (Z0 (ŕ (.tn o)))):=by
 have:=ļ (g:=gN 0) (mt:=Ķ) (me:=Č (ę qF (Ċ 0 ē))) Ũ (λo=>sV (Z0 (ŕ (.tn o)))) (λρ=>∃s,ρ=[s]) os [.no] [] ⟨_,rfl⟩ (by simp;omega) (by
  rintro o h ρ ⟨s,rfl⟩
  have e:=Z1i (ho o h)
  refine⟨[.sh (Ũ o)],_,[.sh (Ũ o)],by simp,rfl,?_,_,rfl⟩
  generalize sV (Z0 (ŕ (.tn o)))=Z at *
  generalize Ũ o=V at *
  simp[e])
 simpa using this
def Z2v{l:List Nat}{t:Int}(h:Nb t)(hl:l.length<=100)(s0 s1 s4:P.Slot):Lr [mC (.str "day "),DQ (ė 2),mC (.str " "),DQ (ė 3)] Str.empty [s0,s1,.sh (sV l),.sh (.int t),s4]=.ok (sV (Z0 (ŕ (.dy l t)))) [s0,s1,.sh (sV l),.sh (.int t),s4]:=by
 have e1:Str.empty++Str.ofString "day " =S (wC "day" ++ [32]):=by decide +kernel
 have e2:S (wC "day" ++ [32])++S l=S (wC "day" ++ [32]++l):=Str.ext' (by simp[Str.cps_append])
 have e3:S (wC "day" ++ [32]++l)++Str.ofString " " =S (wC "day" ++ [32]++l ++ [32]):=by rw[c32];exact Str.ext' (by simp[Str.cps_append])
 have e4:S (wC "day" ++ [32]++l ++ [32])++S (nT t)=S (wC "day" ++ [32]++l ++ [32]++nT t):=Str.ext' (by simp[Str.cps_append])
 have e5:Z0 (ŕ (.dy l t))=wC "day" ++ [32]++l ++ [32]++nT t:=by
  show wC "day" ++ [32]++(l ++ [32]++nT t)=_
  simp
 have l0:(wC "day").length=3:=by decide +kernel
 have ln:=(ZK h.1 h.2).2
 have k1:(S (wC "day" ++ [32])).length<=16777216:=by rw[Z9];simp[l0]
 have k2:(S (wC "day" ++ [32]++l)).length<=16777216:=by rw[Z9];simp[l0];omega
 have k3:(S (wC "day" ++ [32]++l ++ [32])).length<=16777216:=by rw[Z9];simp[l0];omega
 have k4:(S (wC "day" ++ [32]++l ++ [32]++nT t)).length<=16777216:=by rw[Z9];simp[l0];omega
 have kl:(S l).length<=16777216:=by rw[Z9];omega
 have lg:=Z0Y h
 have st:=Z0O t
 rw[e5]
 unfold sV
 simp only[HN,HJ,VH,mC,Zaa,List.getElem?_cons_succ,List.getElem?_cons_zero,Res.bZ,e1,e2,e3,e4,k1,k2,k3,k4,kl,lg,st,if_true]
def yM(d:Dz):List (List Nat):=Z0 (ŕ (.dy d.1 d.2.1))::d.2.2.map λo=>Z0 (ŕ (.tn o))
def Z0y{d:Dz}(h:Z7 d):(yM d).length<=25:=by
 have:=h.2.2.2.2.1
 simp[yM];omega
theorem ZZ(Y:PV):∀(D:List Dz) (R:List (List Nat)) (a b c:P.Slot),(∀d∈D,Z7 d)->R.length+25*D.length<=1000->∃a' b' c',forL (gT 3 (ĵ (gN 2) (ĵ (gN 3) (ĵ (gN 4) gF)))) vI ((D.map zV).map bF) [.sh Y,.ow (R.map sV),a,b,c]=.ok .nx [.sh Y,.ow ((R++D.flatMap yM).map sV),a',b',c']
 | [],R,a,b,c,_,_=>⟨a,b,c,by simp[forL]⟩
 |d::D,R,a,b,c,hD,hl=>by
  have hd:=hD d (by simp)
  obtain⟨g1,g2,g3,g4,g5,g6⟩:=id hd
  rw[List.length_cons] at hl
  have hz:=Z0y hd
  obtain⟨a',b',c',e⟩:=ZZ Y D (R++yM d) (.sh (sV d.1)) (.sh (.int d.2.1)) (.sh (.lst (d.2.2.map Ũ))) (λx hx=>hD x (List.mem_cons_of_mem _ hx)) (by rw[List.length_append];omega)
  refine⟨a',b',c',?_⟩
  have e2:bF (zV d)=.tup [sV d.1,.int d.2.1,.lst (d.2.2.map Ũ)]:=rfl
  have hg:gT 3 (ĵ (gN 2) (ĵ (gN 3) (ĵ (gN 4) gF))) (bF (zV d)) [.sh Y,.ow (R.map sV),a,b,c]=some [.sh Y,.ow (R.map sV),.sh (sV d.1),.sh (.int d.2.1),.sh (.lst (d.2.2.map Ũ))]:=by rw[e2];rfl
  have st:vI [.sh Y,.ow (R.map sV),.sh (sV d.1),.sh (.int d.2.1),.sh (.lst (d.2.2.map Ũ))]=.ok .nx [.sh Y,.ow ((R++yM d).map sV),.sh (sV d.1),.sh (.int d.2.1),.sh (.lst (d.2.2.map Ũ))]:=by
   have e3:=Z2v (l:=d.1) (t:=d.2.1) ⟨by omega,by omega⟩ (by have:=g1.2.1;omega) (.sh Y) (.ow (R.map sV)) (.sh (.lst (d.2.2.map Ũ)))
   have e4:=Z0q g6 (by omega)
   have er:(R++yM d).map sV=R.map sV ++ [sV (Z0 (ŕ (.dy d.1 d.2.1)))]++d.2.2.map (λo=>sV (Z0 (ŕ (.tn o)))):=by
    unfold yM
    rw[List.map_append,List.map_cons,List.map_map]
    simp[Function.comp_def]
   have k1:(R.map sV).length<16777216:=by simp;omega
   have k2:(R.map sV).length+1+(d.2.2.map (λo=>sV (Z0 (ŕ (.tn o))))).length<=16777216:=by simp;omega
   rw[er]
   generalize R.map sV=RR at *
   generalize d.2.2.map Ũ=TT at *
   generalize (d.2.2.map λo=>sV (Z0 (ŕ (.tn o))))=OO at *
   generalize sV (Z0 (ŕ (.dy d.1 d.2.1)))=DD at *
   generalize sV d.1=N at *
   simp[vI,e3,e4,k1,k2,-HN,-HJ]
  rw[List.map_cons,List.map_cons,forL,hg]
  dsimp only
  rw[st]
  refine Eq.trans e ?_
  rw[List.flatMap_cons,List.append_assoc]
def Z0Z(w h:Int)(T:List Th)(D:List Dz):Mf w h T D=Z0 (yT w h)::(T.map (λt=>Z0 (ŕ (.th t)))++D.flatMap yM):=by
 unfold Mf Zf
 rw[List.map_append,List.map_map,List.map_flatMap]
 have:(λd:Dz=>List.map (λr=>Z0 (ŕ r)) (Rw.dy d.1 d.2.1::d.2.2.map Rw.tn))=yM:=funext λd=>by
  rw[List.map_cons,List.map_map]
  rfl
 rw[this]
 rfl
def Z1P{w h:Int}{T:List Th}{D:List Dz}(yG:T.length<=40)(hD:∀d∈D,Z7 d)(yH:D.length<=12):(Mf w h T D).length<=401:=by
 have:=Z0i yG hD yH
 simp[Mf];omega
def Z29{w h:Int}(hw:1<=w/\w<=20)(hh:1<=h/\h<=20){T:List Th}(hT:∀t∈T,Z1 t.1 t.2=true){D:List Dz}(hD:∀d∈D,Z7 d):∀x∈Mf w h T D,x.length<=1212:=λx hx=>by
 rcases List.mem_cons.mp hx with rfl|hx
 ·obtain⟨y1,y2,y3⟩:=ZO hw hh
  exact ZC y1 y3
 ·obtain⟨r,hr,rfl⟩:=List.mem_map.mp hx
  obtain⟨y1,y2,y3⟩:=Zv (ZS hT hD r hr)
  exact ZC y1 y3
def Z0k{w h:Int}(hw:1<=w/\w<=20)(hh:1<=h/\h<=20){T:List Th}(hT:∀t∈T,Z1 t.1 t.2=true)(yG:T.length<=40){D:List Dz}(hD:∀d∈D,Z7 d)(yH:D.length<=12):gM (.str "\n") [.lst ((Mf w h T D).map sV)]=some (sV (wz w h T D)):=
 Z0x c10 (B:=1212) (Z29 hw hh hT hD) (by have:=Z1P (w:=w) (h:=h) yG hD yH;have:(Mf w h T D).length*(1212+1)<=401*1213:=Nat.mul_le_mul this (by omega);omega)
def Z1Q{w h:Int}(hw:1<=w/\w<=20)(hh:1<=h/\h<=20){T:List Th}(hT:∀t∈T,Z1 t.1 t.2=true)(yG:T.length<=40){D:List Dz}(hD:∀d∈D,Z7 d)(yH:D.length<=12):xY [.sh (Z2 w h T (D.map zV))]=.ret (.sh (sV (wz w h T D))):=by
 obtain⟨y1,y2,y3⟩:=ZO hw hh
 have j0:=Zw y1 y3
 have ey:(yT w h).map sV=[.str "yard",ō w,ō h]:=rfl
 rw[ey] at j0
 have n1:=Zb (n:=w) ⟨by omega,by omega⟩
 have n2:=Zb (n:=h) ⟨by omega,by omega⟩
 have c1:=ZP hT (by omega)
 obtain⟨a',b',c',lp⟩:=ZZ (Z2 w h T (D.map zV)) D (Z0 (yT w h)::T.map (λt=>Z0 (ŕ (.th t)))) .no .no .no hD (by simp;omega)
 have jn:=Z0k hw hh hT yG hD yH
 rw[Z0Z] at jn
 rw[List.cons_append] at lp
 have er:(Z0 (yT w h)::T.map (λt=>Z0 (ŕ (.th t)))).map sV=sV (Z0 (yT w h))::T.map λt=>sV (Z0 (ŕ (.th t))):=by
  rw[List.map_cons,List.map_map];rfl
 rw[er] at lp
 have k1:1+(T.map λt=>sV (Z0 (ŕ (.th t)))).length<=16777216:=by simp;omega
 have f1:=y_w w h T (D.map zV)
 have f2:=y_h w h T (D.map zV)
 have f3:=y_t w h T (D.map zV)
 have f4:=y_d w h T (D.map zV)
 generalize Z2 w h T (D.map zV)=Y at *
 generalize T.map iz=TH at *
 generalize (D.map zV).map bF=DY at *
 generalize (T.map λt=>sV (Z0 (ŕ (.th t))))=TS at *
 generalize sV (Z0 (yT w h))=Z at *
 generalize (Z0 (yT w h)::(T.map (λt=>Z0 (ŕ (.th t)))++D.flatMap yM)).map sV=LL at *
 generalize sV (wz w h T D)=TX at *
 simp[xY,IV,List.replicate,f1,f2,f3,f4,n1,n2,j0,c1,lp,jn,k1,-xP]
def pW:Rw->List (PV×List Nat)
 | .th t=>(.str t.1,t.1.cps.toList)::t.2.map λn=>(.int n,nT n)
 | .dy l t=>[(.str "day",wC "day"),(sV l,l),(.int t,nT t)]
 | .tn none=>[(.str "night",wC "night")]
 | .tn (some r)=>[(.str "ray",wC "ray"),(.int r.1,nT r.1),(.int r.2.1,nT r.2.1),(.int r.2.2,nT r.2.2)]
theorem Z2w:∀r:Rw,(pW r).map (·.2)=ŕ r
 | .th t=>by unfold pW ŕ;rw[List.map_cons,List.map_map];rfl
 | .dy _ _=>rfl
 | .tn none=>rfl
 | .tn (some _)=>rfl
def ZQ(s:String):bV [.str s]=some (sV (wC s)):=congrArg (λz=>some (PV.str z)) (ZM _).symm
theorem Z2p:∀{r:Rw},Z0g r->∀x∈pW r,bV [x.1]=some (sV x.2)
 | .th t,h=>fun x hx=>by
   have h':Z1 t.1 t.2=true:=h
   rcases List.mem_cons.mp hx with rfl|hx
   ·exact congrArg (λz=>some (PV.str z)) (ZM _).symm
   ·obtain⟨n,hn,rfl⟩:=List.mem_map.mp hx
    exact Zb ((Zd h').1 n hn)
 | .dy l t,⟨h1,h2,h3⟩=>fun x hx=>by
   have:x=(.str "day",wC "day")\/x=(sV l,l)\/x=(.int t,nT t):=by simpa[pW] using hx
   rcases this with rfl|rfl|rfl
   ·exact ZQ _
   ·rfl
   ·exact Zb ⟨by omega,by omega⟩
 | .tn none,_=>fun x hx=>by
   have:x=(.str "night",wC "night"):=by simpa[pW] using hx
   subst this
   exact ZQ _
 | .tn (some r),⟨h1,h2,h3,h4,h5,h6⟩=>fun x hx=>by
   have:x=(.str "ray",wC "ray")\/x=(.int r.1,nT r.1)\/x=(.int r.2.1,nT r.2.1)\/x=(.int r.2.2,nT r.2.2):=by simpa[pW] using hx
   rcases this with rfl|rfl|rfl|rfl
   ·exact ZQ _
   ·exact Zb ⟨by omega,by omega⟩
   ·exact Zb ⟨by omega,by omega⟩
   ·exact Zb ⟨by omega,by omega⟩
def Z00{ws:List (PV×List Nat)}(h:∀x∈ws,bV [x.1]=some (sV x.2))(h1:∀x∈ws,Wd x.2)(hl:ws.length<=101):mJ [.sh (.lst (ws.map (·.1)))]=.ret (.sh (sV (Z0 (ws.map (·.2))))):=by
 have c:=ļ (g:=gN 0) (mt:=Ķ) (me:=bT bV (ă (Ā 0) Ė)) (λx:PV×List Nat=>x.1) (λx=>sV x.2) (λρ=>∃s,ρ=[s]) ws [.no] [] ⟨_,rfl⟩ (by simp;omega) (by
  rintro x hx ρ ⟨s,rfl⟩
  have e:=h x hx
  refine⟨[.sh x.1],_,[.sh x.1],by simp,rfl,?_,_,rfl⟩
  generalize x.1=P at *
  simp[e])
 rw[List.nil_append] at c
 have j:=Zw (ws:=ws.map (·.2)) (λy hy=>by obtain⟨x,hx,rfl⟩:=List.mem_map.mp hy;exact h1 x hx) (by simpa using hl)
 rw[List.map_map] at j
 have ec:(sV ∘ λx:PV×List Nat=>x.2)=λx=>sV x.2:=rfl
 rw[ec] at j
 generalize ws.map (λx=>x.1)=A at *
 generalize ws.map (λx=>sV x.2)=B at *
 generalize sV (Z0 (ws.map (·.2)))=Z at *
 simp[mJ,Pa,List.replicate,c,j]
def ZA{r:Rw}(h:Z0g r):mJ [.sh (.lst ((pW r).map (·.1)))]=.ret (.sh (sV (Z0 (ŕ r)))):=by
 obtain⟨h1,h2,h3⟩:=Zv h
 rw[<-Z2w] at h1 h3 ⊢
 exact Z00 (Z2p h) (λx hx=>h1 _ (List.mem_map.mpr ⟨x,hx,rfl⟩)) (by simpa using h3)
def dY(t:Th):PV:=.lst (.str t.1::t.2.map .int)
def Z10{t:Th}(h:Z1 t.1 t.2=true):mJ [.sh (dY t)]=.ret (.sh (sV (Z0 (ŕ (.th t))))):=by
 have:=ZA (r:=.th t) h
 have e:(pW (.th t)).map (·.1)=.str t.1::t.2.map .int:=by unfold pW;rw[List.map_cons,List.map_map];rfl
 rw[e] at this
 exact this
def ZD{T:List Th}(hT:∀t∈T,Z1 t.1 t.2=true)(hl:T.length<=1000):Ō (gN 0) Ķ (Č (ę mJ (Ċ 0 ē))) (T.map dY) [.no] []=some (T.map λt=>sV (Z0 (ŕ (.th t)))):=by
 have:=ļ (g:=gN 0) (mt:=Ķ) (me:=Č (ę mJ (Ċ 0 ē))) dY (λt=>sV (Z0 (ŕ (.th t)))) (λρ=>∃s,ρ=[s]) T [.no] [] ⟨_,rfl⟩ (by simp;omega) (by
  rintro t ht ρ ⟨s,rfl⟩
  have e:=Z10 (hT t ht)
  refine⟨[.sh (dY t)],_,[.sh (dY t)],by simp,rfl,?_,_,rfl⟩
  generalize dY t=V at *
  generalize sV (Z0 (ŕ (.th t)))=Z at *
  simp[e])
 simpa using this
def Z1R{o:Option P3}(ho:Zh o){R:List PV}(hR:R.length<1000)(s0 s1 s2 s3 s5 s6 s7:P.Slot):t_ [s0,s1,s2,s3,.ow R,s5,s6,s7,.sh (Ũ o)]=.ok .nx [s0,s1,s2,s3,.ow (R ++ [sV (Z0 (ŕ (.tn o)))]),s5,s6,s7,.sh (Ũ o)]:=by
 have k1:R.length<16777216:=by omega
 cases o with
 |none=>
  have e:sV (Z0 (ŕ (.tn none)))=.str "night" := congrArg PV.str (ZM _)
  rw[e]
  simp[t_,Ũ,JC,k1]
 |some r=>
  have j:=ZA (r:=.tn (some r)) ho
  have e:(pW (.tn (some r))).map (·.1)=[.str "ray",.int r.1,.int r.2.1,.int r.2.2]:=rfl
  rw[e] at j
  have ad:ě (.lst [.str "ray"]) (.lst [.int r.1,.int r.2.1,.int r.2.2])=some (.ow [.str "ray",.int r.1,.int r.2.1,.int r.2.2]):=by
   rw[add_l (by simp)]
   rfl
  generalize sV (Z0 (ŕ (.tn (some r))))=Z at *
  simp[t_,Ũ,c3,JC,k1,j,ad]
theorem Z0l(s0 s1 s2 s3 s5 s6 s7:P.Slot):∀(os:List (Option P3)) (R:List PV) (s8:P.Slot),(∀o∈os,Zh o)->R.length+os.length<=1000->∃s8',forL (gN 8) t_ (os.map Ũ) [s0,s1,s2,s3,.ow R,s5,s6,s7,s8]=.ok .nx [s0,s1,s2,s3,.ow (R++os.map λo=>sV (Z0 (ŕ (.tn o)))),s5,s6,s7,s8']
 | [],R,s8,_,_=>⟨s8,by simp[forL]⟩
 |o::os,R,s8,h,hl=>by
  rw[List.length_cons] at hl
  have st:=Z1R (h o (by simp)) (R:=R) (by omega) s0 s1 s2 s3 s5 s6 s7
  obtain⟨s8',e⟩:=Z0l s0 s1 s2 s3 s5 s6 s7 os (R ++ [sV (Z0 (ŕ (.tn o)))]) (.sh (Ũ o)) (λx hx=>h x (List.mem_cons_of_mem _ hx)) (by simp;omega)
  refine⟨s8',?_⟩
  rw[List.map_cons,forL]
  show(t_ [s0,s1,s2,s3,.ow R,s5,s6,s7,.sh (Ũ o)]).bind _=_
  rw[st]
  refine Eq.trans e ?_
  simp
theorem Z0z(s0 s1 s2 s3:P.Slot):∀(D:List Dz) (R:List (List Nat)) (a b c d:P.Slot),(∀d∈D,Z7 d)->R.length+25*D.length<=1000->∃a' b' c' d',forL (gT 3 (ĵ (gN 5) (ĵ (gN 6) (ĵ (gN 7) gF)))) Cg ((D.map zV).map bF) [s0,s1,s2,s3,.ow (R.map sV),a,b,c,d]=.ok .nx [s0,s1,s2,s3,.ow ((R++D.flatMap yM).map sV),a',b',c',d']
 | [],R,a,b,c,d,_,_=>⟨a,b,c,d,by simp[forL]⟩
 |d::D,R,a,b,c,f,hD,hl=>by
  have hd:=hD d (by simp)
  obtain⟨g1,g2,g3,g4,g5,g6⟩:=id hd
  rw[List.length_cons] at hl
  have hz:=Z0y hd
  obtain⟨f1,ef⟩:=Z0l s0 s1 s2 s3 (.sh (sV d.1)) (.sh (.int d.2.1)) (.sh (.lst (d.2.2.map Ũ))) d.2.2 (R.map sV ++ [sV (Z0 (ŕ (.dy d.1 d.2.1)))]) f g6 (by simp;omega)
  obtain⟨a',b',c',d',e⟩:=Z0z s0 s1 s2 s3 D (R++yM d) (.sh (sV d.1)) (.sh (.int d.2.1)) (.sh (.lst (d.2.2.map Ũ))) f1 (λx hx=>hD x (List.mem_cons_of_mem _ hx)) (by rw[List.length_append];omega)
  refine⟨a',b',c',d',?_⟩
  have e2:bF (zV d)=.tup [sV d.1,.int d.2.1,.lst (d.2.2.map Ũ)]:=rfl
  have hg:gT 3 (ĵ (gN 5) (ĵ (gN 6) (ĵ (gN 7) gF))) (bF (zV d)) [s0,s1,s2,s3,.ow (R.map sV),a,b,c,f]=some [s0,s1,s2,s3,.ow (R.map sV),.sh (sV d.1),.sh (.int d.2.1),.sh (.lst (d.2.2.map Ũ)),f]:=by rw[e2];rfl
  have st:Cg [s0,s1,s2,s3,.ow (R.map sV),.sh (sV d.1),.sh (.int d.2.1),.sh (.lst (d.2.2.map Ũ)),f]=.ok .nx [s0,s1,s2,s3,.ow ((R++yM d).map sV),.sh (sV d.1),.sh (.int d.2.1),.sh (.lst (d.2.2.map Ũ)),f1]:=by
   have j:=ZA (r:=.dy d.1 d.2.1) ⟨g1,g2,g3⟩
   have ep:(pW (.dy d.1 d.2.1)).map (·.1)=[.str "day",sV d.1,.int d.2.1]:=rfl
   rw[ep] at j
   have er:(R++yM d).map sV=R.map sV ++ [sV (Z0 (ŕ (.dy d.1 d.2.1)))]++d.2.2.map (λo=>sV (Z0 (ŕ (.tn o)))):=by
    unfold yM
    rw[List.map_append,List.map_cons,List.map_map]
    simp[Function.comp_def]
   have k1:(R.map sV).length<16777216:=by simp;omega
   rw[er]
   generalize R.map sV=RR at *
   generalize d.2.2.map Ũ=TT at *
   generalize (d.2.2.map λo=>sV (Z0 (ŕ (.tn o))))=OO at *
   generalize sV (Z0 (ŕ (.dy d.1 d.2.1)))=DD at *
   generalize sV d.1=N at *
   rw[<-ef]
   simp[Cg,j,k1]
  rw[List.map_cons,List.map_cons,forL,hg]
  dsimp only
  rw[st]
  refine Eq.trans e ?_
  rw[List.flatMap_cons,List.append_assoc]
def Z1S{w h:Int}(hw:1<=w/\w<=20)(hh:1<=h/\h<=20){T:List Th}(hT:∀t∈T,Z1 t.1 t.2=true)(yG:T.length<=40){D:List Dz}(hD:∀d∈D,Z7 d)(yH:D.length<=12):Ly [.sh (.int w),.sh (.int h),.bw (T.map dY),.bw ((D.map zV).map bF)]=.ret (.sh (sV (wz w h T D))):=by
 obtain⟨y1,y2,y3⟩:=ZO hw hh
 have j0:=Z00 (ws:=[(.str "yard",wC "yard"),(.int w,nT w),(.int h,nT h)]) (λx hx=>by
  have:x=(.str "yard",wC "yard")\/x=(.int w,nT w)\/x=(.int h,nT h):=by simpa using hx
  rcases this with rfl|rfl|rfl
  ·exact ZQ _
  ·exact Zb ⟨by omega,by omega⟩
  ·exact Zb ⟨by omega,by omega⟩) (λx hx=>y1 _ (by
  have:x=(.str "yard",wC "yard")\/x=(.int w,nT w)\/x=(.int h,nT h):=by simpa using hx
  rcases this with rfl|rfl|rfl<;>simp[yT])) (by simp)
 change mJ [.sh (.lst [.str "yard",.int w,.int h])]=.ret (.sh (sV (Z0 (yT w h)))) at j0
 have c1:=ZD hT (by omega)
 obtain⟨a',b',c',d',lp⟩:=Z0z (.sh (.int w)) (.sh (.int h)) (.bw (T.map dY)) (.bw ((D.map zV).map bF)) D (Z0 (yT w h)::T.map (λt=>Z0 (ŕ (.th t)))) .no .no .no .no hD (by simp;omega)
 have jn:=Z0k hw hh hT yG hD yH
 rw[Z0Z] at jn
 rw[List.cons_append] at lp
 have er:(Z0 (yT w h)::T.map (λt=>Z0 (ŕ (.th t)))).map sV=sV (Z0 (yT w h))::T.map λt=>sV (Z0 (ŕ (.th t))):=by
  rw[List.map_cons,List.map_map];rfl
 rw[er] at lp
 have ad:ě (.lst [sV (Z0 (yT w h))]) (.lst (T.map λt=>sV (Z0 (ŕ (.th t)))))=some (.ow (sV (Z0 (yT w h))::T.map λt=>sV (Z0 (ŕ (.th t))))):=by
  rw[add_l (by simp;omega)]
  rfl
 generalize T.map dY=TH at *
 generalize (D.map zV).map bF=DY at *
 generalize (T.map λt=>sV (Z0 (ŕ (.th t))))=TS at *
 generalize sV (Z0 (yT w h))=Z at *
 generalize (Z0 (yT w h)::(T.map (λt=>Z0 (ŕ (.th t)))++D.flatMap yM)).map sV=LL at *
 generalize sV (wz w h T D)=TX at *
 simp[Ly,Pb,List.replicate,j0,c1,ad,lp,jn]
def Z0J(n:Nat):eV 0 n 1=(List.range n).map λ(i:Nat)=>PV.int (i:Int):=by
 unfold eV
 refine List.map_congr_left λi _=>?_
 simp
def ZT{n:Nat}(h:n<=1000):dO [.int (n:Int)]=some ((List.range n).map λ(i:Nat)=>PV.int (i:Int)):=by
 have hs:jo (n:Int)=true:=by unfold jo;simp;omega
 unfold dO
 simp[hs,Z0J]
def Z1T{r:Rw}(h:Z0g r):Ej (Z0 (ŕ r)):=λc hc=>by
 obtain⟨h1,h2,h3⟩:=Zv h
 rcases Zo _ hc with e|⟨y,hy,e⟩
 ·omega
 ·have:=(h1 y hy).2 c e;omega
theorem Z0A:∀{L:List (List Nat)},(∀l∈L,Ej l)->ų (L.map sV)=true/\dB (L.map sV)=0
 | [],_=>by simp[ų,dB]
 |l::L,h=>by
  have ih:=Z0A (L:=L) λx hx=>h x (List.mem_cons_of_mem _ hx)
  have h1:=(h l (by simp)).ok
  constructor
  ·rw[List.map_cons];unfold ų
   have:ň (sV l)=true:=by unfold sV ň;exact h1
   rw[this];exact ih.1
  ·rw[List.map_cons];unfold dB;rw[ih.2];unfold sV dep;rfl
def Z2a{T:List Th}(hT:∀t∈T,Z1 t.1 t.2=true):ž (.lst (T.map λt=>sV (Z0 (ŕ (.th t))))) (.lst (T.map λt=>sV (Z0 (ŕ (.th t)))))=some (.bl false):=by
 have:=Z0A (L:=T.map λt=>Z0 (ŕ (.th t))) λl hl=>by
  obtain⟨t,ht,rfl⟩:=List.mem_map.mp hl
  exact Z1T (r:=.th t) (hT t ht)
 rw[List.map_map] at this
 exact mj (by unfold ň;exact this.1) (by unfold dep;have:=this.2;change dB (T.map λt=>sV (Z0 (ŕ (.th t))))=0 at this;omega)
theorem Z11:∀(os:List (Option P3)),ų (os.map Ũ)=true/\dB (os.map Ũ)<=1
 | []=>by simp[ų,dB]
 |o::os=>by
  have ih:=Z11 os
  have h1:ň (Ũ o)=true/\dep (Ũ o)<=1:=by
   cases o with
   |none=>simp[Ũ,ň,dep]
   |some r=>simp[Ũ,c3,ň,ų,dep,dB]
  constructor
  ·rw[List.map_cons];unfold ų;rw[h1.1];exact ih.1
  ·rw[List.map_cons];unfold dB;have:=h1.2;have:=ih.2;omega
def Z2b{d:Dz}(h:Nm d.1):ž (bF (zV d)) (bF (zV d))=some (.bl false):=by
 have h1:=h.pln.ok
 have h2:=Z11 d.2.2
 have e2:bF (zV d)=.tup [sV d.1,.int d.2.1,.lst (d.2.2.map Ũ)]:=rfl
 rw[e2]
 generalize d.2.2.map Ũ=TT at *
 refine mj ?_ ?_
 ·simp[ň,ų,sV,h1,h2.1]
 ·simp[dep,dB,sV];have:=h2.2;omega
def Z1j{α:Type}(L:List α):lV [.lst (L.map λ_=>PV.bl true)]=some (.bl true):=by
 have:=Z0a (L.map λ_=>true)
 rw[List.map_map] at this
 refine Eq.trans this ?_
 simp
def Z1U{os:List (Option P3)}(hl:os.length<=1000):Ō (gN 0) Ķ (Uk (Ą uQ (Ā 0) (mC .non)) (bT pO (ă (Ā 0) (ă (mC (.ty "tuple")) Ė)))) (os.map Ũ) [.no] []=some (os.map λ_=>PV.bl true):=by
 have:=ļ (g:=gN 0) (mt:=Ķ) (me:=Uk (Ą uQ (Ā 0) (mC .non)) (bT pO (ă (Ā 0) (ă (mC (.ty "tuple")) Ė)))) Ũ (λ_=>PV.bl true) (λρ=>∃s,ρ=[s]) os [.no] [] ⟨_,rfl⟩ (by simp;omega) (by
  rintro o h ρ ⟨s,rfl⟩
  refine⟨[.sh (Ũ o)],_,[.sh (Ũ o)],by simp,rfl,?_,_,rfl⟩
  cases o with
  |none=>simp[Ũ,JC]
  |some r=>simp[Ũ,c3,JC,lQ])
 simpa using this
def Z1k{w h:Int}{T:List Th}{D:List Dz}{k:Nat}{d:Dz}(hk:D[k]?=some d)(hd:Z7 d)(s1 s2 s3 s6:P.Slot){sd:P.Slot}(hs:Sl sd ((D.map zV).map bF)):qD [.sh (Z2 w h T (D.map zV)),s1,s2,s3,sd,.sh (.int k),s6]=.ok .nx [.sh (Z2 w h T (D.map zV)),s1,s2,s3,sd,.sh (.int k),.sh (bF (zV d))]:=by
 have f4:=y_d w h T (D.map zV)
 have e1:((D.map zV).map bF)[k]?=some (bF (zV d)):=by simp[hk]
 have n1:=Z2b hd.1
 have c:=Z1U (os:=d.2.2) (by have:=hd.2.2.2.2.1;omega)
 have al:=Z1j d.2.2
 have e2:bF (zV d)=.tup [sV d.1,.int d.2.1,.lst (d.2.2.map Ũ)]:=rfl
 rw[e2] at e1 n1 ⊢
 generalize (d.2.2.map λ_=>PV.bl true)=BB at *
 generalize d.2.2.map Ũ=TT at *
 generalize Z2 w h T (D.map zV)=Y at *
 generalize (D.map zV).map bF=DY at *
 generalize sV d.1=N at *
 rcases hs with rfl|rfl<;>simp[qD,f4,e1,n1,c,al,lQ]
theorem Z01{w h:Int}{T:List Th}{D:List Dz}(hD:∀d∈D,Z7 d)(s1 s2 s3:P.Slot){sd:P.Slot}(hs:Sl sd ((D.map zV).map bF)):∀(ks:List Nat),(∀k∈ks,k<D.length)->∀s5 s6:P.Slot,∃a b,forL (gN 5) qD (ks.map λ(i:Nat)=>PV.int (i:Int)) [.sh (Z2 w h T (D.map zV)),s1,s2,s3,sd,s5,s6]=.ok .nx [.sh (Z2 w h T (D.map zV)),s1,s2,s3,sd,a,b]
 | [],_,s5,s6=>⟨s5,s6,rfl⟩
 |k::ks,hk,s5,s6=>by
  have hlt:=hk k (by simp)
  have st:=Z1k (w:=w) (h:=h) (T:=T) (List.getElem?_eq_getElem hlt) (hD _ (List.getElem_mem hlt)) s1 s2 s3 s6 hs
  obtain⟨a,b,e⟩:=Z01 (w:=w) (h:=h) (T:=T) hD s1 s2 s3 hs ks (λx hx=>hk x (List.mem_cons_of_mem _ hx)) (.sh (.int k)) (.sh (bF (zV D[k])))
  refine⟨a,b,?_⟩
  rw[List.map_cons,forL]
  show(qD [.sh (Z2 w h T (D.map zV)),s1,s2,s3,sd,.sh (.int k),s6]).bind _=_
  rw[st]
  exact e
def Z0B{w h:Int}{T:List Th}(hT:∀t∈T,Z1 t.1 t.2=true)(yG:T.length<=40){D:List Dz}(hD:∀d∈D,Z7 d)(yH:D.length<=12){st sd:P.Slot}(hst:Sl st (T.map dY))(hsd:Sl sd ((D.map zV).map bF)):xX [.sh (Z2 w h T (D.map zV)),.sh (.int w),.sh (.int h),st,sd]=.ret (.sh (.bl true)):=by
 have f1:=y_w w h T (D.map zV)
 have f2:=y_h w h T (D.map zV)
 have f3:=y_t w h T (D.map zV)
 have f4:=y_d w h T (D.map zV)
 have c1:=ZP hT (by omega)
 have c2:=ZD hT (by omega)
 have n1:=Z2a hT
 obtain⟨a,b,lp⟩:=Z01 (w:=w) (h:=h) (T:=T) hD (.sh (.int w)) (.sh (.int h)) st hsd (List.range D.length) (λk hk=>List.mem_range.mp hk) .no .no
 have rg:=ZT (n:=D.length) (by omega)
 have ln:((D.map zV).map bF).length=D.length:=by simp
 generalize Z2 w h T (D.map zV)=Y at *
 generalize T.map iz=TH at *
 generalize T.map dY=TW at *
 generalize (D.map zV).map bF=DY at *
 generalize (T.map λt=>sV (Z0 (ŕ (.th t))))=TS at *
 generalize ((List.range D.length).map λ(i:Nat)=>PV.int (i:Int))=RG at *
 rcases hst with rfl|rfl<;>rcases hsd with rfl|rfl<;>simp[xX,IK,List.replicate,f1,f2,f3,f4,c1,c2,n1,lp,rg,ln,lQ]
@[simp] theorem Z2F{x:Int}{n:Nat}(h:n≠0)(h2:n<1073741824):Bv x (no_index (OfNat.ofNat n):Int)=true:=by
  unfold Bv
  have:(no_index (OfNat.ofNat n):Int)=(n:Int):=rfl
  rw[this]
  simp
  omega
def JK:iM (.int 10) (.int 9)=some (.int 1000000000):=rfl
def Xz:iM (.int 10) (.int 6)=some (.int 1000000):=rfl
def G9(x:Int):Prop:=0<=x/\x<1000000000
theorem Z0m(s0 s1 s5 s7 s8:P.Slot):∀(ks:List Nat) (acc:List Int) (n:Int) (s4 s6:P.Slot),acc.length+ks.length<=100->(∀x∈acc,G9 x)->∃(acc':List Int) (n':Int) (a b:P.Slot),forL (gN 4) qg (ks.map λ(i:Nat)=>PV.int (i:Int)) [s0,s1,.ow (acc.map .int),.sh (.int n),s4,s5,s6,s7,s8]=.ok .nx [s0,s1,.ow (acc'.map .int),.sh (.int n'),a,s5,b,s7,s8]/\acc'.length=acc.length+ks.length/\∀x∈acc',G9 x
 | [],acc,n,s4,s6,_,h=>⟨acc,n,s4,s6,rfl,rfl,h⟩
 |k::ks,acc,n,s4,s6,hl,h=>by
  rw[List.length_cons] at hl
  obtain⟨acc',n',a,b,e,e2,e3⟩:=Z0m s0 s1 s5 s7 s8 ks (acc ++ [n % 1000000000]) (n / 1000000000) (.sh (.int k)) (.sh (.int (n % 1000000000))) (by simp;omega) (by
   intro x hx
   rcases List.mem_append.mp hx with hx|hx
   ·exact h x hx
   ·rw[List.mem_singleton.mp hx];unfold G9;omega)
  refine⟨acc',n',a,b,?_,by rw[e2];simp;omega,e3⟩
  have k1:acc.length<16777216:=by omega
  have hd:cV [.int n,.int 1000000000]=some (.tup [.int (n / 1000000000),.int (n % 1000000000)]):=by simp[cV]
  have st:qg [s0,s1,.ow (acc.map .int),.sh (.int n),.sh (.int k),s5,s6,s7,s8]=.ok .nx [s0,s1,.ow ((acc ++ [n % 1000000000]).map .int),.sh (.int (n / 1000000000)),.sh (.int k),s5,.sh (.int (n % 1000000000)),s7,s8]:=by
   simp[qg,JK,hd,k1,-Ŕ]
  rw[List.map_cons,forL]
  show(qg [s0,s1,.ow (acc.map .int),.sh (.int n),.sh (.int k),s5,s6,s7,s8]).bind _=_
  rw[st]
  exact e
def Rs(x:Int):Prop:=0<=x/\x<998244353
def Z2x:dO [.int 2]=some [.int 0,.int 1]:=by rfl
def Z0n(s0 s1 s4 s6 s7 s8 k:P.Slot){acc:List Int}(hl:acc.length<=100){r:Int}(hr:Rs r):∃(r':Int) (a b:P.Slot),jw [s0,s1,.ow (acc.map .int),.sh (.int r),s4,k,s6,s7,s8]=.ok .nx [s0,s1,.ow (acc.map .int),.sh (.int r'),s4,k,s6,a,b]/\Rs r':=by
 have hd:cV [.int r,.int 4099]=some (.tup [.int (r / 4099),.int (r % 4099)]):=by simp[cV]
 obtain⟨h,hh⟩:∃h,r / 4099=h:=⟨_,rfl⟩
 obtain⟨l,hl'⟩:∃l,r % 4099=l:=⟨_,rfl⟩
 unfold Rs at hr
 have b1:0<=h/\h<18446744073709551616:=by omega
 have b2:0<=l/\l<18446744073709551616:=by omega
 rw[hh,hl'] at hd
 obtain⟨S,hS⟩:∃S,l*240007+h*89+1201*(acc.length:Int)+11=S:=⟨_,rfl⟩
 refine⟨S % 998244353,.sh (.int h),.sh (.int l),?_,by unfold Rs;omega⟩
 have m1:Ť l 240007=true:=cH (by omega) (by omega)
 have m2:Ť h 89=true:=cH (by omega) (by omega)
 have m3:Ť 1201 (acc.length:Int)=true:=cH (by omega) (by omega)
 simp[jw,hd,m1,m2,m3,hS]
theorem ZU(s0 s4 s6:P.Slot){n:Nat}(hn:n<=100):∀(f:Nat) (acc:List Int) (r:Int) (s5 s7 s8:P.Slot),acc.length+f=n->(∀x∈acc,G9 x)->Rs r->∃(acc':List Int) (r':Int) (a b c:P.Slot),qe [s0,.sh (.int n),.ow (acc.map .int),.sh (.int r),s4,s5,s6,s7,s8]=.ok .nx [s0,.sh (.int n),.ow (acc'.map .int),.sh (.int r'),s4,a,s6,b,c]/\acc'.length=n/\∀x∈acc',G9 x
 |0,acc,r,s5,s7,s8,hl,h,hr=>by
  refine⟨acc,r,s5,s7,s8,?_,by omega,h⟩
  unfold qe
  have hm:¬((acc.length:Int)<(n:Int)):=by omega
  rw[gH]
  simp[hm]
 |f+1,acc,r,s5,s7,s8,hl,h,hr=>by
  obtain⟨r1,a1,b1,e1,hr1⟩:=Z0n s0 (.sh (.int n)) s4 s6 s7 s8 (.sh (.int 0)) (acc:=acc) (by omega) hr
  obtain⟨r2,a2,b2,e2,hr2⟩:=Z0n s0 (.sh (.int n)) s4 s6 a1 b1 (.sh (.int 1)) (acc:=acc) (by omega) hr1
  obtain⟨acc',r',a,b,c,e,q1,q2⟩:=ZU s0 s4 s6 hn f (acc ++ [r2 / 5]) r2 (.sh (.int 1)) a2 b2 (by simp;omega) (by
   intro x hx
   rcases List.mem_append.mp hx with hx|hx
   ·exact h x hx
   ·rw[List.mem_singleton.mp hx];unfold G9;unfold Rs at hr2;omega) hr2
  refine⟨acc',r',a,b,c,?_,q1,q2⟩
  have hm:((acc.length:Int)<(n:Int)):=by omega
  have k1:acc.length<16777216:=by omega
  have fr:forL (gN 5) jw [.int 0,.int 1] [s0,.sh (.int n),.ow (acc.map .int),.sh (.int r),s4,s5,s6,s7,s8]=.ok .nx [s0,.sh (.int n),.ow (acc.map .int),.sh (.int r2),s4,.sh (.int 1),s6,a2,b2]:=by
   rw[forL]
   show(jw [s0,.sh (.int n),.ow (acc.map .int),.sh (.int r),s4,.sh (.int 0),s6,s7,s8]).bind _=_
   rw[e1]
   show forL (gN 5) jw [.int 1] _=_
   rw[forL]
   show(jw [s0,.sh (.int n),.ow (acc.map .int),.sh (.int r1),s4,.sh (.int 1),s6,a1,b1]).bind _=_
   rw[e2]
   rfl
  rw[<-e]
  unfold qe
  rw[gH]
  simp[hm,Z2x,fr,k1]
def ZB(c:Int){n:Nat}(hn:n<=100):∃xs:List Int,iU [.sh (.int c),.sh (.int n)]=.ret (.ow (xs.map .int))/\xs.length=n/\∀x∈xs,G9 x:=by
 by_cases hc:c % 2=0
 ·obtain⟨acc,r,a,b,e,q1,q2⟩:=Z0m (.sh (.int c)) (.sh (.int n)) .no .no .no (List.range n) [] (c / 2) .no .no (by simp;omega) (by simp)
  have rg:=ZT (n:=n) (by omega)
  rw[List.map_nil] at e
  have m1:Ť (n:Int) 1=true:=cH (by omega) (by omega)
  have q1':acc.length=n:=by simpa using q1
  refine⟨acc,?_,q1',q2⟩
  obtain⟨acc',r',a2,b2,c2,e2,q3,q4⟩:=ZU (.sh (.int c)) a b hn 0 acc (r % 998244341+5) .no .no .no (by omega) q2 (by unfold Rs;omega)
  have:acc'=acc:=by
   unfold qe at e2
   rw[gH] at e2
   have hm:¬((acc.length:Int)<(n:Int)):=by omega
   simp[hm] at e2
   have:=e2.1
   exact((List.map_inj_right (λ_ _ h=>by injection h)).mp this).symm
  subst this
  simp[iU,Aa,List.replicate,hc,rg,e,e2,m1]
 ·have hc1:c % 2=1:=by omega
  obtain⟨acc',r',a2,b2,c2,e2,q3,q4⟩:=ZU (.sh (.int c)) .no .no hn n [] ((c / 2) % 998244341+5) .no .no .no (by simp) (by simp) (by unfold Rs;omega)
  rw[List.map_nil] at e2
  have m1:Ť (n:Int) 0=true:=cH (by omega) (by omega)
  have rg:dO [.int 0]=some []:=by rfl
  refine⟨acc',?_,q3,q4⟩
  simp[iU,Aa,List.replicate,hc1,rg,forL,e2,m1]
theorem Z2q:∀(xs:List Int),xs.length=11->∃a b c d e f g h i j k,xs=[a,b,c,d,e,f,g,h,i,j,k]
 | [a,b,c,d,e,f,g,h,i,j,k],_=>⟨a,b,c,d,e,f,g,h,i,j,k,rfl⟩
def yN{a b:String}(h:decide (Str.ofString a=Str.ofString b)=false):¬(Str.ofString a=Str.ofString b):=of_decide_eq_false h
def sm(x:Int):Prop:=-100<=x/\x<=100
def Pl(x:Int):Prop:=-1000000000<=x/\x<=1000000000
def Z2r{x y h:Int}(a:Pl x)(b:Pl y)(c:1<=h/\h<=1000000000):Z1 "post" [x,y,h]=true:=by
 unfold Pl at a b
 unfold Z1 Za aP Ei
 simp
 omega
def Z2c{x y u v h:Int}(a:sm x)(b:sm y)(a':sm u)(b':sm v)(hn:¬(x=u/\y=v))(c:1<=h/\h<=1000000000):Z1 "fence" [x,y,u,v,h]=true:=by
 have h1:¬(Str.ofString "fence" =Str.ofString "post"):=yN (by decide +kernel)
 unfold sm at a b a' b'
 unfold Z1
 rw[if_neg h1,if_pos rfl]
 unfold Z4 Z6 aP Ei
 simp
 omega
def Z2y{w:Str}(hw:w= "sail" \/w= "house"){x y u v h:Int}(a:sm x)(b:sm y)(a':sm u)(b':sm v)(h1:x<u)(h2:y<v)(c:1<=h/\h<=1000000000):Z1 w [x,y,u,v,h]=true:=by
 have hb:Z3 [x,y,u,v,h]=true:=by
  unfold sm at a b a' b'
  unfold Z3 Z6 aP Ei
  simp
  omega
 unfold Z1
 rcases hw with rfl|rfl
 ·rw[if_neg (yN (by decide +kernel)),if_neg (yN (by decide +kernel)),if_pos rfl]
  exact hb
 ·rw[if_neg (yN (by decide +kernel)),if_neg (yN (by decide +kernel)),if_neg (yN (by decide +kernel)),if_neg (yN (by decide +kernel)),if_pos rfl]
  exact hb
def Z2d{x y z a b c d e f:Int}(h1:Pl x)(h2:Pl y)(h3:0<=z/\z<=1000000000)(h4:Pl a)(h5:Pl b)(h6:0<=c/\c<=1000000000)(h7:Pl d)(h8:Pl e)(h9:0<=f/\f<=1000000000):Z1 "cloth" [x,y,z,a,b,c,d,e,f]=true:=by
 unfold Z1
 rw[if_neg (yN (by decide +kernel)),if_neg (yN (by decide +kernel)),if_neg (yN (by decide +kernel)),if_pos rfl]
 unfold Pl at *
 unfold Z5 aP yK
 simp
 omega
def Z2e(t:Th):Prop:=(∃x y h,t=(Str.ofString "post",[x,y,h])/\sm x/\sm y/\(1<=h/\h<=1000000000))\/(∃x y z a b c d e f,t=(Str.ofString "cloth",[x,y,z,a,b,c,d,e,f])/\sm x/\sm y/\(0<=z/\z<=100)/\sm a/\sm b/\(0<=c/\c<=100)/\sm d/\sm e/\(0<=f/\f<=100))\/(¬t.1=Str.ofString "post" /\ ¬t.1=Str.ofString "cloth" /\Z1 t.1 t.2=true)
def Z2s(c:Int){w h:Int}(hw:1<=w/\w<=20)(hh:1<=h/\h<=20):∃t:Th,qj [.sh (.int c),.sh (.int w),.sh (.int h)]=.ret (.ow (.str t.1::t.2.map .int))/\Z2e t:=by
 obtain⟨xs,eg,hl,hx⟩:=ZB c (n:=11) (by omega)
 obtain⟨x0,x1,x2,x3,x4,x5,x6,x7,x8,x9,x10,rfl⟩:=Z2q xs hl
 clear hl hx
 have CJ:iU [.sh (.int c),.sh (.int 11)]=.ret (.ow [.int x0,.int x1,.int x2,.int x3,.int x4,.int x5,.int x6,.int x7,.int x8,.int x9,.int x10]):=eg
 clear eg
 have mw:Ť 2 w=true:=cH (by omega) (by omega)
 have mh:Ť 2 h=true:=cH (by omega) (by omega)
 have n1:¬(2*w+7=0):=by omega
 have n2:¬(2*h+7=0):=by omega
 have n3:¬(w+2=0):=by omega
 have n4:¬(h+2=0):=by omega
 have f1:x1.fmod (2*w+7)=x1 % (2*w+7):=Int.fmod_eq_emod_of_nonneg _ (by omega)
 have f2:x2.fmod (2*h+7)=x2 % (2*h+7):=Int.fmod_eq_emod_of_nonneg _ (by omega)
 have f3:x1.fmod (w+2)=x1 % (w+2):=Int.fmod_eq_emod_of_nonneg _ (by omega)
 have f4:x2.fmod (h+2)=x2 % (h+2):=Int.fmod_eq_emod_of_nonneg _ (by omega)
 have p1:=Int.emod_nonneg x1 n1
 have q1:=Int.emod_lt_of_pos x1 (show 0<2*w+7 by omega)
 have p2:=Int.emod_nonneg x2 n2
 have q2:=Int.emod_lt_of_pos x2 (show 0<2*h+7 by omega)
 have p3:=Int.emod_nonneg x1 n3
 have q3:=Int.emod_lt_of_pos x1 (show 0<w+2 by omega)
 have p4:=Int.emod_nonneg x2 n4
 have q4:=Int.emod_lt_of_pos x2 (show 0<h+2 by omega)
 generalize x1 % (2*w+7)=X at *
 generalize x2 % (2*h+7)=Y at *
 generalize x1 % (w+2)=PX at *
 generalize x2 % (h+2)=PY at *
 obtain⟨kd,hkd⟩:∃kd,x0 % 5=kd:=⟨_,rfl⟩
 have k:0<=kd/\kd<5:=by omega
 obtain⟨q,hq⟩:∃q,x7 % 4=q:=⟨_,rfl⟩
 have hq':0<=q/\q<4:=by omega
 obtain⟨H,hH,hHb⟩:∃H:Int,(if x6 % 8=5 then 1000000000-x5 % 1000 else 1+x5 % 8)=H/\(1<=H/\H<=1000000000):=⟨_,rfl,by split<;>omega⟩
 have ms:Ť (x10 % 7) (x6 % 2)=true:=cH (by omega) (by omega)
 obtain⟨C,hC,hCb⟩:∃C:Int,x10 % 7*(x6 % 2)=C/\(0<=C/\C<=100):=by
  refine⟨_,rfl,?_⟩
  have:x6 % 2=0\/x6 % 2=1:=by omega
  rcases this with h|h<;>rw[h]<;>omega
 have hw':=hw.1
 by_cases k0:kd=0
 ·refine⟨(Str.ofString "post",[PX-1,PY-1,H]),?_,.inl ⟨PX-1,PY-1,H,rfl,⟨by omega,by omega⟩,⟨by omega,by omega⟩,hHb⟩⟩
  by_cases hb:x6 % 8=5<;>simp only[hb,if_true,if_false] at hH<;>simp[qj,jV,List.replicate,CJ,mw,mh,n1,n2,n3,n4,f1,f2,f3,f4,hb,JK,hH,hkd,k0,-Ŕ]
 by_cases k1:kd=1
 ·have fe:∀u v:Int,sm u->sm v->¬(X-4=u/\Y-4=v)->Z2e (Str.ofString "fence",[X-4,Y-4,u,v,H]):=λu v a b n=>.inr (.inr ⟨yN (by decide +kernel),yN (by decide +kernel),Z2c ⟨by omega,by omega⟩ ⟨by omega,by omega⟩ a b n hHb⟩)
  have hq4:q=0\/q=1\/q=2\/q=3:=by omega
  rcases hq4 with rfl|rfl|rfl|rfl
  ·refine⟨(Str.ofString "fence",[X-4,Y-4,X-4+1+x3 % 5,Y-4,H]),?_,fe _ _ ⟨by omega,by omega⟩ ⟨by omega,by omega⟩ (by omega)⟩
   by_cases hb:x6 % 8=5<;>simp only[hb,if_true,if_false] at hH<;>simp[qj,jV,List.replicate,CJ,mw,mh,n1,n2,n3,n4,f1,f2,f3,f4,hb,JK,hH,hkd,k1,hq,-Ŕ]
  ·refine⟨(Str.ofString "fence",[X-4,Y-4,X-4+1+x3 % 5,Y-4+1+x4 % 5,H]),?_,fe _ _ ⟨by omega,by omega⟩ ⟨by omega,by omega⟩ (by omega)⟩
   by_cases hb:x6 % 8=5<;>simp only[hb,if_true,if_false] at hH<;>simp[qj,jV,List.replicate,CJ,mw,mh,n1,n2,n3,n4,f1,f2,f3,f4,hb,JK,hH,hkd,k1,hq,-Ŕ]
  ·refine⟨(Str.ofString "fence",[X-4,Y-4,X-4,Y-4+1+x4 % 5,H]),?_,fe _ _ ⟨by omega,by omega⟩ ⟨by omega,by omega⟩ (by omega)⟩
   by_cases hb:x6 % 8=5<;>simp only[hb,if_true,if_false] at hH<;>simp[qj,jV,List.replicate,CJ,mw,mh,n1,n2,n3,n4,f1,f2,f3,f4,hb,JK,hH,hkd,k1,hq,-Ŕ]
  ·refine⟨(Str.ofString "fence",[X-4,Y-4,X-4-2,Y-4+1+x4 % 5,H]),?_,fe _ _ ⟨by omega,by omega⟩ ⟨by omega,by omega⟩ (by omega)⟩
   by_cases hb:x6 % 8=5<;>simp only[hb,if_true,if_false] at hH<;>simp[qj,jV,List.replicate,CJ,mw,mh,n1,n2,n3,n4,f1,f2,f3,f4,hb,JK,hH,hkd,k1,hq,-Ŕ]
 have bx:∀s:Str,(s= "sail" \/s= "house")->Z1 s [X-4,Y-4,X-4+1+x3 % 5,Y-4+1+x4 % 5,H]=true:=λs hs=>Z2y hs ⟨by omega,by omega⟩ ⟨by omega,by omega⟩ ⟨by omega,by omega⟩ ⟨by omega,by omega⟩ (by omega) (by omega) hHb
 by_cases k2:kd=2
 ·refine⟨(Str.ofString "sail",[X-4,Y-4,X-4+1+x3 % 5,Y-4+1+x4 % 5,H]),?_,.inr (.inr ⟨yN (by decide +kernel),yN (by decide +kernel),bx _ (.inl rfl)⟩)⟩
  by_cases hb:x6 % 8=5<;>simp only[hb,if_true,if_false] at hH<;>simp[qj,jV,List.replicate,CJ,mw,mh,n1,n2,n3,n4,f1,f2,f3,f4,hb,JK,hH,hkd,k2,-Ŕ]
 by_cases k3:kd=3
 ·refine⟨(Str.ofString "house",[X-4,Y-4,X-4+1+x3 % 5,Y-4+1+x4 % 5,H]),?_,.inr (.inr ⟨yN (by decide +kernel),yN (by decide +kernel),bx _ (.inr rfl)⟩)⟩
  by_cases hb:x6 % 8=5<;>simp only[hb,if_true,if_false] at hH<;>simp[qj,jV,List.replicate,CJ,mw,mh,n1,n2,n3,n4,f1,f2,f3,f4,hb,JK,hH,hkd,k3,-Ŕ]
 have k4:kd=4:=by omega
 refine⟨(Str.ofString "cloth",[X-4,Y-4,x5 % 7,X-4+1+x3 % 5,Y-4-2+x7 % 5,x8 % 7,X-4-3+x9 % 7,Y-4+1+x4 % 5,C]),?_,.inr (.inl ⟨_,_,_,_,_,_,_,_,_,rfl,⟨by omega,by omega⟩,⟨by omega,by omega⟩,⟨by omega,by omega⟩,⟨by omega,by omega⟩,⟨by omega,by omega⟩,⟨by omega,by omega⟩,⟨by omega,by omega⟩,⟨by omega,by omega⟩,hCb⟩)⟩
 by_cases hb:x6 % 8=5<;>simp only[hb,if_true,if_false] at hH<;>simp[qj,jV,List.replicate,CJ,mw,mh,n1,n2,n3,n4,f1,f2,f3,f4,hb,JK,hH,hkd,k4,ms,hC,-Ŕ]
def ğ(c:Int)(b:Bool)(v:Int):Int:=if c % 7=3/\b=true then v+c / 7 % 1999*1000000-999000000 else v
def Zl{c v:Int}{b:Bool}(h:sm v):Pl (ğ c b v):=by
 unfold ğ
 unfold sm at h
 unfold Pl
 split<;>omega
def Z1x:ž (.str "post") (.str "cloth")=some (.bl true):=by
 rw[Zt s1 s4];simp[d14]
def Z09:ž (.str "cloth") (.str "cloth")=some (.bl false):=by
 rw[Zt s4 s4];simp
def Z1y:ķ (.str "post") (.str "cloth")=some (.bl false):=by
 unfold ķ nR
 have:ň (.str "post")=true:=by unfold ň;exact s1
 rw[this]
 have:ň (.str "cloth")=true:=by unfold ň;exact s4
 rw[this]
 have:eqB (.str "post") (.str "cloth")=false:=by unfold eqB;decide +kernel
 rw[this]
 have:dep (.str "post")=0:=by unfold dep;rfl
 rw[this]
 simp
def ZR:ķ (.str "cloth") (.str "cloth")=some (.bl true):=lZ (by unfold ň;exact s4) (by unfold dep;decide)
def Z0K{xs:List PV}{c:Int}{acc:List PV}{k:Nat}{v:Int}(hv:(PV.str "post" ::xs)[k]?=some (.int v))(ha:acc.length=k)(hk:k<=100):Ő [.bw (.str "post" ::xs),.sh (.int c),.ow acc,.sh (.int k)]=.ok .nx [.bw (.str "post" ::xs),.sh (.int c),.ow (acc ++ [.int (ğ c (decide (k<3)) v)]),.sh (.int k)]:=by
 subst ha
 have k1:acc.length<16777216:=by omega
 have ix:yJ (acc.length+1) (acc.length:Int)=some acc.length:=by
  unfold yJ
  simp
  try omega
 have m1:Ť (c / 7 % 1999) 1000000=true:=cH (by omega) (by omega)
 unfold ğ
 by_cases h3:acc.length<3
 ·have h3':(acc.length:Int)<3:=by omega
  by_cases h7:c % 7=3<;>simp[Ő,hv,k1,ix,m1,h7,h3,h3',Z1x,Z1y,Xz,-Ŕ,List.set_append_right]
 ·have h3':¬(acc.length:Int)<3:=by omega
  by_cases h7:c % 7=3<;>simp[Ő,hv,k1,ix,m1,h7,h3,h3',Z1x,Z1y,Xz,-Ŕ,List.set_append_right]
def Zn{xs:List PV}{c:Int}{acc:List PV}{k:Nat}{v:Int}(hv:(PV.str "cloth" ::xs)[k]?=some (.int v))(ha:acc.length=k)(hk:k<=100):Ő [.bw (.str "cloth" ::xs),.sh (.int c),.ow acc,.sh (.int k)]=.ok .nx [.bw (.str "cloth" ::xs),.sh (.int c),.ow (acc ++ [.int (ğ c (decide (k % 3≠0)) v)]),.sh (.int k)]:=by
 subst ha
 have k1:acc.length<16777216:=by omega
 have ix:yJ (acc.length+1) (acc.length:Int)=some acc.length:=by
  unfold yJ
  simp
  try omega
 have m1:Ť (c / 7 % 1999) 1000000=true:=cH (by omega) (by omega)
 unfold ğ
 by_cases h7:c % 7=3<;>by_cases h3:acc.length % 3=0
 ·have h3':(acc.length:Int) % 3=0:=by omega
  by_cases h4:acc.length<3<;>simp[Ő,hv,k1,ix,m1,h7,h3,h3',h4,Z09,ZR,Xz,-Ŕ,List.set_append_right]
 ·have h3':¬(acc.length:Int) % 3=0:=by omega
  by_cases h4:acc.length<3<;>simp[Ő,hv,k1,ix,m1,h7,h3,h3',h4,Z09,ZR,Xz,-Ŕ,List.set_append_right]
 ·have h3':(acc.length:Int) % 3=0:=by omega
  by_cases h4:acc.length<3<;>simp[Ő,hv,k1,ix,m1,h7,h3,h3',h4,Z09,ZR,Xz,-Ŕ,List.set_append_right]
 ·have h3':¬(acc.length:Int) % 3=0:=by omega
  by_cases h4:acc.length<3<;>simp[Ő,hv,k1,ix,m1,h7,h3,h3',h4,Z09,ZR,Xz,-Ŕ,List.set_append_right]
def r14:wN [.int 1,.int 4]=some [.int 1,.int 2,.int 3]:=rfl
def Z2z:wN [.int 1,.int 10]=some [.int 1,.int 2,.int 3,.int 4,.int 5,.int 6,.int 7,.int 8,.int 9]:=rfl
def Z2t(x y h c:Int):tY [.bw [.str "post",.int x,.int y,.int h],.sh (.int c)]=.ret (.ow [.str "post",.int (ğ c true x),.int (ğ c true y),.int (h)]):=by
 have g1:ğ c (decide (1<3)) x=ğ c true x:=rfl
 have e1:Ő [.bw [.str "post",.int x,.int y,.int h],.sh (.int c),.ow [.str "post"],.sh (.int 1)]=.ok .nx [.bw [.str "post",.int x,.int y,.int h],.sh (.int c),.ow [.str "post",.int (ğ c true x)],.sh (.int 1)]:=by
  have:=Z0K (xs:=[.int x,.int y,.int h]) (c:=c) (acc:=[.str "post"]) (k:=1) (v:=x) rfl rfl (by omega)
  rw[g1] at this
  exact this
 have g2:ğ c (decide (2<3)) y=ğ c true y:=rfl
 have e2:Ő [.bw [.str "post",.int x,.int y,.int h],.sh (.int c),.ow [.str "post",.int (ğ c true x)],.sh (.int 2)]=.ok .nx [.bw [.str "post",.int x,.int y,.int h],.sh (.int c),.ow [.str "post",.int (ğ c true x),.int (ğ c true y)],.sh (.int 2)]:=by
  have:=Z0K (xs:=[.int x,.int y,.int h]) (c:=c) (acc:=[.str "post",.int (ğ c true x)]) (k:=2) (v:=y) rfl rfl (by omega)
  rw[g2] at this
  exact this
 have g3:ğ c (decide (3<3)) h=h:=by unfold ğ;simp
 have e3:Ő [.bw [.str "post",.int x,.int y,.int h],.sh (.int c),.ow [.str "post",.int (ğ c true x),.int (ğ c true y)],.sh (.int 3)]=.ok .nx [.bw [.str "post",.int x,.int y,.int h],.sh (.int c),.ow [.str "post",.int (ğ c true x),.int (ğ c true y),.int (h)],.sh (.int 3)]:=by
  have:=Z0K (xs:=[.int x,.int y,.int h]) (c:=c) (acc:=[.str "post",.int (ğ c true x),.int (ğ c true y)]) (k:=3) (v:=h) rfl rfl (by omega)
  rw[g3] at this
  exact this
 clear g1 g2 g3
 generalize ğ c true x=Nx at *
 generalize ğ c true y=Ny at *
 simp[tY,Ab,List.replicate,r14,forL,e1,e2,e3]
def Z2u(x y z a b d e f g c:Int):tY [.bw [.str "cloth",.int x,.int y,.int z,.int a,.int b,.int d,.int e,.int f,.int g],.sh (.int c)]=.ret (.ow [.str "cloth",.int (ğ c true x),.int (ğ c true y),.int (z),.int (ğ c true a),.int (ğ c true b),.int (d),.int (ğ c true e),.int (ğ c true f),.int (g)]):=by
 have g1:ğ c (decide (1 % 3≠0)) x=ğ c true x:=rfl
 have e1:Ő [.bw [.str "cloth",.int x,.int y,.int z,.int a,.int b,.int d,.int e,.int f,.int g],.sh (.int c),.ow [.str "cloth"],.sh (.int 1)]=.ok .nx [.bw [.str "cloth",.int x,.int y,.int z,.int a,.int b,.int d,.int e,.int f,.int g],.sh (.int c),.ow [.str "cloth",.int (ğ c true x)],.sh (.int 1)]:=by
  have:=Zn (xs:=[.int x,.int y,.int z,.int a,.int b,.int d,.int e,.int f,.int g]) (c:=c) (acc:=[.str "cloth"]) (k:=1) (v:=x) rfl rfl (by omega)
  rw[g1] at this
  exact this
 have g2:ğ c (decide (2 % 3≠0)) y=ğ c true y:=rfl
 have e2:Ő [.bw [.str "cloth",.int x,.int y,.int z,.int a,.int b,.int d,.int e,.int f,.int g],.sh (.int c),.ow [.str "cloth",.int (ğ c true x)],.sh (.int 2)]=.ok .nx [.bw [.str "cloth",.int x,.int y,.int z,.int a,.int b,.int d,.int e,.int f,.int g],.sh (.int c),.ow [.str "cloth",.int (ğ c true x),.int (ğ c true y)],.sh (.int 2)]:=by
  have:=Zn (xs:=[.int x,.int y,.int z,.int a,.int b,.int d,.int e,.int f,.int g]) (c:=c) (acc:=[.str "cloth",.int (ğ c true x)]) (k:=2) (v:=y) rfl rfl (by omega)
  rw[g2] at this
  exact this
 have g3:ğ c (decide (3 % 3≠0)) z=z:=by unfold ğ;simp
 have e3:Ő [.bw [.str "cloth",.int x,.int y,.int z,.int a,.int b,.int d,.int e,.int f,.int g],.sh (.int c),.ow [.str "cloth",.int (ğ c true x),.int (ğ c true y)],.sh (.int 3)]=.ok .nx [.bw [.str "cloth",.int x,.int y,.int z,.int a,.int b,.int d,.int e,.int f,.int g],.sh (.int c),.ow [.str "cloth",.int (ğ c true x),.int (ğ c true y),.int (z)],.sh (.int 3)]:=by
  have:=Zn (xs:=[.int x,.int y,.int z,.int a,.int b,.int d,.int e,.int f,.int g]) (c:=c) (acc:=[.str "cloth",.int (ğ c true x),.int (ğ c true y)]) (k:=3) (v:=z) rfl rfl (by omega)
  rw[g3] at this
  exact this
 have g4:ğ c (decide (4 % 3≠0)) a=ğ c true a:=rfl
 have e4:Ő [.bw [.str "cloth",.int x,.int y,.int z,.int a,.int b,.int d,.int e,.int f,.int g],.sh (.int c),.ow [.str "cloth",.int (ğ c true x),.int (ğ c true y),.int (z)],.sh (.int 4)]=.ok .nx [.bw [.str "cloth",.int x,.int y,.int z,.int a,.int b,.int d,.int e,.int f,.int g],.sh (.int c),.ow [.str "cloth",.int (ğ c true x),.int (ğ c true y),.int (z),.int (ğ c true a)],.sh (.int 4)]:=by
  have:=Zn (xs:=[.int x,.int y,.int z,.int a,.int b,.int d,.int e,.int f,.int g]) (c:=c) (acc:=[.str "cloth",.int (ğ c true x),.int (ğ c true y),.int (z)]) (k:=4) (v:=a) rfl rfl (by omega)
  rw[g4] at this
  exact this
 have g5:ğ c (decide (5 % 3≠0)) b=ğ c true b:=rfl
 have e5:Ő [.bw [.str "cloth",.int x,.int y,.int z,.int a,.int b,.int d,.int e,.int f,.int g],.sh (.int c),.ow [.str "cloth",.int (ğ c true x),.int (ğ c true y),.int (z),.int (ğ c true a)],.sh (.int 5)]=.ok .nx [.bw [.str "cloth",.int x,.int y,.int z,.int a,.int b,.int d,.int e,.int f,.int g],.sh (.int c),.ow [.str "cloth",.int (ğ c true x),.int (ğ c true y),.int (z),.int (ğ c true a),.int (ğ c true b)],.sh (.int 5)]:=by
  have:=Zn (xs:=[.int x,.int y,.int z,.int a,.int b,.int d,.int e,.int f,.int g]) (c:=c) (acc:=[.str "cloth",.int (ğ c true x),.int (ğ c true y),.int (z),.int (ğ c true a)]) (k:=5) (v:=b) rfl rfl (by omega)
  rw[g5] at this
  exact this
 have g6:ğ c (decide (6 % 3≠0)) d=d:=by unfold ğ;simp
 have e6:Ő [.bw [.str "cloth",.int x,.int y,.int z,.int a,.int b,.int d,.int e,.int f,.int g],.sh (.int c),.ow [.str "cloth",.int (ğ c true x),.int (ğ c true y),.int (z),.int (ğ c true a),.int (ğ c true b)],.sh (.int 6)]=.ok .nx [.bw [.str "cloth",.int x,.int y,.int z,.int a,.int b,.int d,.int e,.int f,.int g],.sh (.int c),.ow [.str "cloth",.int (ğ c true x),.int (ğ c true y),.int (z),.int (ğ c true a),.int (ğ c true b),.int (d)],.sh (.int 6)]:=by
  have:=Zn (xs:=[.int x,.int y,.int z,.int a,.int b,.int d,.int e,.int f,.int g]) (c:=c) (acc:=[.str "cloth",.int (ğ c true x),.int (ğ c true y),.int (z),.int (ğ c true a),.int (ğ c true b)]) (k:=6) (v:=d) rfl rfl (by omega)
  rw[g6] at this
  exact this
 have g7:ğ c (decide (7 % 3≠0)) e=ğ c true e:=rfl
 have e7:Ő [.bw [.str "cloth",.int x,.int y,.int z,.int a,.int b,.int d,.int e,.int f,.int g],.sh (.int c),.ow [.str "cloth",.int (ğ c true x),.int (ğ c true y),.int (z),.int (ğ c true a),.int (ğ c true b),.int (d)],.sh (.int 7)]=.ok .nx [.bw [.str "cloth",.int x,.int y,.int z,.int a,.int b,.int d,.int e,.int f,.int g],.sh (.int c),.ow [.str "cloth",.int (ğ c true x),.int (ğ c true y),.int (z),.int (ğ c true a),.int (ğ c true b),.int (d),.int (ğ c true e)],.sh (.int 7)]:=by
  have:=Zn (xs:=[.int x,.int y,.int z,.int a,.int b,.int d,.int e,.int f,.int g]) (c:=c) (acc:=[.str "cloth",.int (ğ c true x),.int (ğ c true y),.int (z),.int (ğ c true a),.int (ğ c true b),.int (d)]) (k:=7) (v:=e) rfl rfl (by omega)
  rw[g7] at this
  exact this
 have g8:ğ c (decide (8 % 3≠0)) f=ğ c true f:=rfl
 have e8:Ő [.bw [.str "cloth",.int x,.int y,.int z,.int a,.int b,.int d,.int e,.int f,.int g],.sh (.int c),.ow [.str "cloth",.int (ğ c true x),.int (ğ c true y),.int (z),.int (ğ c true a),.int (ğ c true b),.int (d),.int (ğ c true e)],.sh (.int 8)]=.ok .nx [.bw [.str "cloth",.int x,.int y,.int z,.int a,.int b,.int d,.int e,.int f,.int g],.sh (.int c),.ow [.str "cloth",.int (ğ c true x),.int (ğ c true y),.int (z),.int (ğ c true a),.int (ğ c true b),.int (d),.int (ğ c true e),.int (ğ c true f)],.sh (.int 8)]:=by
  have:=Zn (xs:=[.int x,.int y,.int z,.int a,.int b,.int d,.int e,.int f,.int g]) (c:=c) (acc:=[.str "cloth",.int (ğ c true x),.int (ğ c true y),.int (z),.int (ğ c true a),.int (ğ c true b),.int (d),.int (ğ c true e)]) (k:=8) (v:=f) rfl rfl (by omega)
  rw[g8] at this
  exact this
 have g9:ğ c (decide (9 % 3≠0)) g=g:=by unfold ğ;simp
 have e9:Ő [.bw [.str "cloth",.int x,.int y,.int z,.int a,.int b,.int d,.int e,.int f,.int g],.sh (.int c),.ow [.str "cloth",.int (ğ c true x),.int (ğ c true y),.int (z),.int (ğ c true a),.int (ğ c true b),.int (d),.int (ğ c true e),.int (ğ c true f)],.sh (.int 9)]=.ok .nx [.bw [.str "cloth",.int x,.int y,.int z,.int a,.int b,.int d,.int e,.int f,.int g],.sh (.int c),.ow [.str "cloth",.int (ğ c true x),.int (ğ c true y),.int (z),.int (ğ c true a),.int (ğ c true b),.int (d),.int (ğ c true e),.int (ğ c true f),.int (g)],.sh (.int 9)]:=by
  have:=Zn (xs:=[.int x,.int y,.int z,.int a,.int b,.int d,.int e,.int f,.int g]) (c:=c) (acc:=[.str "cloth",.int (ğ c true x),.int (ğ c true y),.int (z),.int (ğ c true a),.int (ğ c true b),.int (d),.int (ğ c true e),.int (ğ c true f)]) (k:=9) (v:=g) rfl rfl (by omega)
  rw[g9] at this
  exact this
 clear g1 g2 g3 g4 g5 g6 g7 g8 g9
 generalize ğ c true x=Nx at *
 generalize ğ c true y=Ny at *
 generalize ğ c true a=Na at *
 generalize ğ c true b=Nb at *
 generalize ğ c true e=Ne at *
 generalize ğ c true f=Nf at *
 simp[tY,Ab,List.replicate,Z2z,forL,e1,e2,e3,e4,e5,e6,e7,e8,e9]
def slI(xs:List Int)(lo hi:Option Int):∃ys:List Int,aX (xs.map PV.int) lo hi=ys.map PV.int/\ys.length<=xs.length:=by
 refine⟨(xs.drop (HT.dX xs.length 0 lo)).take (HT.dX xs.length xs.length hi-HT.dX xs.length 0 lo),?_,by simp;omega⟩
 unfold aX
 rw[List.length_map,List.map_take,List.map_drop]
def ZV(ns:List Int)(k:Int):∃v:Int,m_ [.sh (.lst (ns.map .int)),.sh (.int k)]=.ret (.sh (.int v))/\0<=v:=by
 obtain⟨ys,e,_⟩:=slI ns (some k) (some (k+1))
 generalize ns.map PV.int=L at *
 cases ys with
 |nil=>exact⟨0,by simp[m_,Ac,List.replicate,e,forL],by omega⟩
 |cons y ys=>exact⟨_,by simp[m_,Ac,List.replicate,e,forL,H_];rfl,by omega⟩
def Z2A(xs:List Int):∃ys:List Int,aX (xs.map PV.int) (some 3) (some 43)=ys.map PV.int/\ys.length<=40:=by
 refine⟨(xs.drop (HT.dX xs.length 0 (some 3))).take (HT.dX xs.length xs.length (some 43)-HT.dX xs.length 0 (some 3)),?_,?_⟩
 ·unfold aX
  rw[List.length_map,List.map_take,List.map_drop]
 ·have:HT.dX xs.length xs.length (some 43)-HT.dX xs.length 0 (some 3)≤40:=by
   unfold HT.dX
   simp
   try omega
  simp;omega
def Z1l{w:Str}(hw:PyData.strOk w=true){v:Str}(hv:PyData.strOk v=true):ķ (.str w) (.str v)=some (.bl (decide (w=v))):=by
 have:=Zt hw hv
 unfold ž at this
 unfold ķ
 split at this
 ·rename_i h
  rw[if_pos h]
  simp only[Option.some.injEq,PV.bl.injEq] at this ⊢
  cases h1:eqB (.str w) (.str v)<;>cases h2:decide (w=v)<;>simp[h1,h2] at this ⊢
 ·cases this
def Z1m(s0:P.Slot){w h:Int}(hw:1<=w/\w<=20)(hh:1<=h/\h<=20)(cl:Int){T:List Th}(hl:T.length<=1000)(s5 s6:P.Slot):∃(t:Th) (a b:P.Slot),ql [s0,.sh (.int w),.sh (.int h),.ow (T.map dY),.sh (.int cl),s5,s6]=.ok .nx [s0,.sh (.int w),.sh (.int h),.ow ((T ++ [t]).map dY),.sh (.int cl),a,b]/\Z1 t.1 t.2=true:=by
 obtain⟨N,hN⟩:∃N:Int,(if cl<0 then -cl else cl)=N:=⟨_,rfl⟩
 obtain⟨t,e,hn⟩:=Z2s N hw hh
 have k1:(T.map dY).length<16777216:=by simp;omega
 have em:∀t,(T ++ [t]).map dY=T.map dY ++ [dY t]:=λt=>by simp
 rcases hn with⟨x,y,z,rfl,hx,hy,hz⟩|⟨x,y,z,a,b,c,d,e',f,rfl,h1,h2,h3,h4,h5,h6,h7,h8,h9⟩|⟨n1,n2,hg⟩
 ·refine⟨(Str.ofString "post",[ğ N true x,ğ N true y,z]),.sh (.int N),.sh (.lst [.str "post",.int (ğ N true x),.int (ğ N true y),.int z]),?_,Z2r (Zl hx) (Zl hy) hz⟩
  have fe:=Z2t x y z N
  have q1:ķ (.str "post") (.str "post")=some (.bl true):=lZ (by unfold ň;exact s1) (by unfold dep;decide)
  have ew:dY (Str.ofString "post",[ğ N true x,ğ N true y,z])=.lst [.str "post",.int (ğ N true x),.int (ğ N true y),.int z]:=rfl
  rw[em,ew]
  simp only[List.map_cons,List.map_nil] at e
  generalize T.map dY=TT at *
  generalize ğ N true x=X at *
  generalize ğ N true y=Y at *
  simp[ql,hN,e,q1,fe,k1]
 ·refine⟨(Str.ofString "cloth",[ğ N true x,ğ N true y,z,ğ N true a,ğ N true b,c,ğ N true d,ğ N true e',f]),.sh (.int N),.sh (dY (Str.ofString "cloth",[ğ N true x,ğ N true y,z,ğ N true a,ğ N true b,c,ğ N true d,ğ N true e',f])),?_,Z2d (Zl h1) (Zl h2) (by omega) (Zl h4) (Zl h5) (by omega) (Zl h7) (Zl h8) (by omega)⟩
  have fe:=Z2u x y z a b c d e' f N
  have q1:ķ (.str "cloth") (.str "cloth")=some (.bl true):=ZR
  have q2:ķ (.str "cloth") (.str "post")=some (.bl false):=by rw[Z1l s4 s1];simp[d41]
  have ew:dY (Str.ofString "cloth",[ğ N true x,ğ N true y,z,ğ N true a,ğ N true b,c,ğ N true d,ğ N true e',f])=.lst [.str "cloth",.int (ğ N true x),.int (ğ N true y),.int z,.int (ğ N true a),.int (ğ N true b),.int c,.int (ğ N true d),.int (ğ N true e'),.int f]:=rfl
  rw[em,ew]
  simp only[List.map_cons,List.map_nil] at e
  generalize T.map dY=TT at *
  generalize ğ N true x=X at *
  generalize ğ N true y=Y at *
  generalize ğ N true a=A at *
  generalize ğ N true b=B at *
  generalize ğ N true d=DD at *
  generalize ğ N true e'=E' at *
  simp[ql,hN,e,q1,q2,fe,k1]
 ·refine⟨t,.sh (.int N),.sh (dY t),?_,hg⟩
  have q1:ķ (.str t.1) (.str "post")=some (.bl false):=by rw[Z1l (Zi hg) s1];simp[n1]
  have q2:ķ (.str t.1) (.str "cloth")=some (.bl false):=by rw[Z1l (Zi hg) s4];simp[n2]
  have ew:dY t=.lst (.str t.1::t.2.map .int):=rfl
  rw[em,ew]
  generalize T.map dY=TT at *
  generalize t.2.map PV.int=L at *
  simp[ql,hN,e,q1,q2,k1]
theorem Z0o(s0:P.Slot){w h:Int}(hw:1<=w/\w<=20)(hh:1<=h/\h<=20):∀(cs:List Int) (T:List Th) (s4 s5 s6:P.Slot),T.length+cs.length<=1000->(∀t∈T,Z1 t.1 t.2=true)->∃(T':List Th) (a b c:P.Slot),forL (gN 4) ql (cs.map .int) [s0,.sh (.int w),.sh (.int h),.ow (T.map dY),s4,s5,s6]=.ok .nx [s0,.sh (.int w),.sh (.int h),.ow (T'.map dY),a,b,c]/\T'.length=T.length+cs.length/\∀t∈T',Z1 t.1 t.2=true
 | [],T,s4,s5,s6,_,hg=>⟨T,s4,s5,s6,rfl,rfl,hg⟩
 |c::cs,T,s4,s5,s6,hl,hg=>by
  rw[List.length_cons] at hl
  obtain⟨t,a,b,e,ht⟩:=Z1m s0 hw hh c (T:=T) (by omega) s5 s6
  obtain⟨T',a',b',c',e2,q1,q2⟩:=Z0o s0 hw hh cs (T ++ [t]) (.sh (.int c)) a b (by simp;omega) (by
   intro x hx
   rcases List.mem_append.mp hx with hx|hx
   ·exact hg x hx
   ·rw[List.mem_singleton.mp hx];exact ht)
  refine⟨T',a',b',c',?_,by rw[q1];simp;omega,q2⟩
  rw[List.map_cons,forL]
  show(ql [s0,.sh (.int w),.sh (.int h),.ow (T.map dY),.sh (.int c),s5,s6]).bind _=_
  rw[e]
  exact e2
def Z12(ns:List Int){w h:Int}(hw:1<=w/\w<=20)(hh:1<=h/\h<=20):∃T:List Th,Lx [.sh (.lst (ns.map .int)),.sh (.int w),.sh (.int h)]=.ret (.ow (T.map dY))/\T.length<=40/\∀t∈T,Z1 t.1 t.2=true:=by
 obtain⟨ys,e,hl⟩:=Z2A ns
 obtain⟨T,a,b,c,e2,q1,q2⟩:=Z0o (.sh (.lst (ns.map .int))) hw hh ys [] .no .no .no (by simp;omega) (by simp)
 rw[List.map_nil] at e2
 refine⟨T,?_,by rw[q1];simpa using hl,q2⟩
 generalize ns.map PV.int=L at *
 generalize ys.map PV.int=M at *
 generalize T.map dY=TT at *
 simp[Lx,O_,List.replicate,e,e2]
def LT:List Nat:=wC "qwertyuiopasdfghjklzxcvbnm"
def lc(i:Nat):Nat:=LT.getD i 0
def Z0L:∀i<26,97<=lc i/\lc i<=122:=by decide +kernel
def Z13:∀i<26,∀j<26,lc i=lc j->i=j:=by decide +kernel
def Z0M:∀i<26,Ğ (.str "qwertyuiopasdfghjklzxcvbnm") (.int (i:Nat))=some (sV [lc i]):=by
 intro i hi
 have h1:(Str.ofString "qwertyuiopasdfghjklzxcvbnm").length<=16777216:=by decide +kernel
 have h2:LT.length=26:=by decide +kernel
 show(if(Str.ofString "qwertyuiopasdfghjklzxcvbnm").length<=16777216 then(nM LT (i:Nat)).map λc=>PV.str ⟨#[c]⟩ else none)=_
 rw[if_pos h1,wV]
 unfold lc
 rw[List.getD_eq_getElem?_getD,List.getElem?_eq_getElem (by omega)]
 rfl
def Z02{f:Nat->List Nat}{m:Nat}(h:∀i<m,∀j<m,f i=f j->i=j):((List.range m).map f).Nodup:=by
 unfold List.Nodup
 rw[List.pairwise_map]
 exact List.Pairwise.imp_of_mem (λha hb hne he=>hne (h _ (List.mem_range.mp ha) _ (List.mem_range.mp hb) he)) List.nodup_range
def Z0C(a n:Nat)(h:n<=1000):Ĺ (sV [a]) (.int n)=some (sV (List.replicate n a)):=by
 show(if 0<=(n:Int)/\(n:Int)<=1000/\(S [a]).length<=1000 then some (PV.str (S (List.replicate (n:Int).toNat (S [a]).cps.toList).flatten)) else none)=_
 have e:(S [a]).cps.toList=[a]:=rfl
 rw[if_pos ⟨by omega,by omega,by rw[Z9];simp⟩,Int.toNat_natCast,e]
 have:(List.replicate n [a]).flatten=List.replicate n a:=by
  clear h
  induction n with
  |zero=>rfl
  |succ n ih=>rw[List.replicate_succ,List.replicate_succ,List.flatten_cons,ih];rfl
 rw[this]
 rfl
def Z0N{a b:List Nat}(h:a.length+b.length<=1000):ě (sV a) (sV b)=some (.sh (sV (a++b))):=by
 show(if(S a).length+(S b).length<=16777216 then some (RV.sh (.str (S a++S b))) else none)=_
 rw[if_pos (by rw[Z9,Z9];omega)]
 have:S a++S b=S (a++b):=Str.ext' (by simp[Str.cps_append])
 rw[this]
 rfl
def Ek(a b k:Nat):List Nat:=List.replicate (1+k % 8) a++List.replicate (k / 8) b
def Z1n{a b m:Nat}(hm:m<=12):Ō (gN 2) Ķ (Č (Ĥ ě (Ą Ĺ (Ā 0) (Č (Ĥ ě (mC (.int 1)) (Ą Ġ (Ā 2) (mC (.int 8)))))) (Ą Ĺ (Ā 1) (Ą aq (Ā 2) (mC (.int 8)))))) ((List.range m).map λ(i:Nat)=>PV.int (i:Int)) [.sh (sV [a]),.sh (sV [b]),.no] []=some ((List.range m).map λk=>sV (Ek a b k)):=by
 have:=ļ (g:=gN 2) (mt:=Ķ) (me:=Č (Ĥ ě (Ą Ĺ (Ā 0) (Č (Ĥ ě (mC (.int 1)) (Ą Ġ (Ā 2) (mC (.int 8)))))) (Ą Ĺ (Ā 1) (Ą aq (Ā 2) (mC (.int 8)))))) (λ(i:Nat)=>PV.int (i:Int)) (λk=>sV (Ek a b k)) (λρ=>∃s,ρ=[.sh (sV [a]),.sh (sV [b]),s]) (List.range m) [.sh (sV [a]),.sh (sV [b]),.no] [] ⟨_,rfl⟩ (by simp;omega) (by
  rintro k hk ρ ⟨s,rfl⟩
  have hk:=List.mem_range.mp hk
  refine⟨[.sh (sV [a]),.sh (sV [b]),.sh (.int k)],_,[.sh (sV [a]),.sh (sV [b]),.sh (.int k)],by simp,rfl,?_,_,rfl⟩
  have e1:=Z0C a (1+k % 8) (by omega)
  have e2:=Z0C b (k / 8) (by omega)
  have e3:=Z0N (a:=List.replicate (1+k % 8) a) (b:=List.replicate (k / 8) b) (by simp;omega)
  have c1:((1+k % 8:Nat):Int)=1+(k:Int) % 8:=by omega
  have c2:((k / 8:Nat):Int)=(k:Int) / 8:=by omega
  rw[c1] at e1
  rw[c2] at e2
  change ě _ _=some (.sh (sV (Ek a b k))) at e3
  generalize sV (Ek a b k)=Z at *
  generalize sV (List.replicate (1+k % 8) a)=A at *
  generalize sV (List.replicate (k / 8) b)=B at *
  generalize sV [a]=a' at *
  generalize sV [b]=b' at *
  simp[e1,e2,e3])
 simpa using this
def Z2f{a b:Nat}(ha:97<=a/\a<=122)(hb:97<=b/\b<=122){k:Nat}(hk:k<12):Nm (Ek a b k):=by
 refine⟨by unfold Ek;simp;omega,by unfold Ek;simp;omega,λc hc=>?_⟩
 rcases List.mem_append.mp hc with h|h<;>rw[(List.mem_replicate.mp h).2]<;>assumption
def Z1V{a b:Nat}(hab:a≠b){i j:Nat}(h:Ek a b i=Ek a b j):i=j:=by
 have h1:=congrArg (List.count a) h
 have h2:=congrArg (List.count b) h
 unfold Ek at h1 h2
 simp only[List.count_append,List.count_replicate_self,List.count_replicate] at h1 h2
 have e1:(b== a)=false:=by simp;omega
 have e2:(a== b)=false:=by simp;omega
 simp[e1,e2] at h1 h2
 omega
def ZJ{α:Type}(xs:List α)(k:Nat):aX xs none (some (k:Int))=xs.take k:=by
 unfold aX
 rw[HT.o_,HT.uz,List.drop_zero,Nat.sub_zero]
 by_cases h:k<=xs.length
 ·rw[Nat.min_eq_left h]
 ·rw[Nat.min_eq_right (by omega),List.take_length,List.take_of_length_le (by omega)]
def Z1o{α:Type}(xs:List α)(k:Nat):aX xs (some (k:Int)) none=xs.drop k:=by
 unfold aX
 rw[HT.o_,HT.uz]
 by_cases h:k<=xs.length
 ·rw[Nat.min_eq_left h,List.take_of_length_le (by simp)]
 ·rw[Nat.min_eq_right (by omega),List.drop_length,List.drop_of_length_le (by omega)]
  simp
def Z1z{s:String}(hs:(Str.ofString s).length<=16777216)(k:Nat):Xq (.str s) none (some (k:Int))=some (.sh (sV ((wC s).take k))):=by
 show(if(Str.ofString s).length<=16777216 then some (RV.sh (.str (S (aX (wC s) none (some (k:Int)))))) else none)=_
 rw[if_pos hs,ZJ]
 rfl
def CK(c:Nat)(i:Nat):List Nat:=(wC "night").take c ++ [lc (i % 26)]++(wC "ray").take (c % 3)
def Z2g(c i:Nat):Nm (CK c i):=by
 have l1:(wC "night").length=5:=by decide +kernel
 have l2:(wC "ray").length=3:=by decide +kernel
 have a1:∀x∈wC "night",97<=x/\x<=122:=by decide +kernel
 have a2:∀x∈wC "ray",97<=x/\x<=122:=by decide +kernel
 refine⟨by unfold CK;simp;omega,by unfold CK;simp[l1,l2];omega,λx hx=>?_⟩
 unfold CK at hx
 rcases List.mem_append.mp hx with hx|hx
 ·rcases List.mem_append.mp hx with hx|hx
  ·exact a1 x (List.mem_of_mem_take hx)
  ·rw[List.mem_singleton.mp hx];exact Z0L _ (by omega)
 ·exact a2 x (List.mem_of_mem_take hx)
def Z1W{c i j:Nat}(h:CK c i=CK c j):i % 26=j % 26:=by
 unfold CK at h
 have h1:=List.append_cancel_right h
 have h2:=List.append_cancel_left h1
 simp at h2
 exact Z13 _ (by omega) _ (by omega) h2
def Z1p{c n m:Nat}{v:Int}(hv:v / 14=n)(hc:c<7)(hm:m<=12):Ō (gN 3) Ķ (Č (Ĥ ě (Č (Ĥ ě (Č (lO (mC (.str "night")) cG (mP (ė 1)))) (Ą Ğ (Ā 0) (Ą Ġ (Č (Ĥ ě (Ą aq (Ā 2) (mC (.int 14))) (Ā 3))) (mC (.int 26)))))) (Č (lO (mC (.str "ray")) cG (mP (Ą Ġ (Ā 1) (mC (.int 3)))))))) ((List.range m).map λ(i:Nat)=>PV.int (i:Int)) [.sh (.str "qwertyuiopasdfghjklzxcvbnm"),.sh (.int c),.sh (.int v),.no] []=some ((List.range m).map λk=>sV (CK c (n+k))):=by
 have:=ļ (g:=gN 3) (mt:=Ķ) (me:=Č (Ĥ ě (Č (Ĥ ě (Č (lO (mC (.str "night")) cG (mP (ė 1)))) (Ą Ğ (Ā 0) (Ą Ġ (Č (Ĥ ě (Ą aq (Ā 2) (mC (.int 14))) (Ā 3))) (mC (.int 26)))))) (Č (lO (mC (.str "ray")) cG (mP (Ą Ġ (Ā 1) (mC (.int 3)))))))) (λ(i:Nat)=>PV.int (i:Int)) (λk=>sV (CK c (n+k))) (λρ=>∃s,ρ=[.sh (.str "qwertyuiopasdfghjklzxcvbnm"),.sh (.int c),.sh (.int v),s]) (List.range m) [.sh (.str "qwertyuiopasdfghjklzxcvbnm"),.sh (.int c),.sh (.int v),.no] [] ⟨_,rfl⟩ (by simp;omega) (by
  rintro k hk ρ ⟨s,rfl⟩
  have hk:=List.mem_range.mp hk
  refine⟨[.sh (.str "qwertyuiopasdfghjklzxcvbnm"),.sh (.int c),.sh (.int v),.sh (.int k)],_,[.sh (.str "qwertyuiopasdfghjklzxcvbnm"),.sh (.int c),.sh (.int v),.sh (.int k)],by simp,rfl,?_,_,rfl⟩
  have l1:(wC "night").length=5:=by decide +kernel
  have l2:(wC "ray").length=3:=by decide +kernel
  have e1:=Z1z (s:= "night") (by decide +kernel) c
  have e2:=Z1z (s:= "ray") (by decide +kernel) (c % 3)
  have e3:=Z0M ((n+k) % 26) (by omega)
  have e4:=Z0N (a:=(wC "night").take c) (b:=[lc ((n+k) % 26)]) (by simp[l1];omega)
  have e5:=Z0N (a:=(wC "night").take c ++ [lc ((n+k) % 26)]) (b:=(wC "ray").take (c % 3)) (by simp[l1,l2];omega)
  change ě _ _=some (.sh (sV (CK c (n+k)))) at e5
  have c1:(((n+k) % 26:Nat):Int)=(v / 14+(k:Int)) % 26:=by omega
  have c2:((c % 3:Nat):Int)=(c:Int) % 3:=by omega
  rw[c1] at e3
  rw[c2] at e2
  generalize sV (CK c (n+k))=Z at *
  generalize sV ((wC "night").take c ++ [lc ((n+k) % 26)])=A at *
  generalize sV ((wC "night").take c)=B at *
  generalize sV ((wC "ray").take (c % 3))=C at *
  generalize sV [lc ((n+k) % 26)]=D at *
  simp[e1,e2,e3,e4,e5])
 simpa using this
def kY:List (List Nat):=[wC "night",wC "ray",wC "day",wC "yard",wC "post",wC "fence",wC "sail",wC "cloth",wC "house",wC "none",wC "off",wC "marks"]
def Z14:∀l∈kY,Nm l:=by unfold Nm;decide +kernel
def Z2h:kY.Nodup:=by decide +kernel
def Z1q{v:Int}(hv:0<=v){m:Nat}(hm:m<=12):∃L:List (List Nat),tZ [.sh (.int v),.sh (.int m)]=.ret (.ow (L.map sV))/\L.length=m/\(∀l∈L,Nm l)/\L.Nodup:=by
 by_cases h3:v % 3=2
 ·obtain⟨r,hr⟩:∃r:Nat,v / 3 % 12=r:=⟨(v / 3 % 12).toNat,by omega⟩
  refine⟨(kY.drop r++kY.take r).take m,?_,?_,?_,?_⟩
  ·have e1:=Z1o (kY.map sV) r
   have e2:=ZJ (kY.map sV) r
   have e3:=ZJ ((kY.drop r++kY.take r).map sV) m
   rw[<-List.map_drop] at e1
   rw[<-List.map_take] at e2
   rw[<-List.map_take] at e3
   have ad:ě (.lst ((kY.drop r).map sV)) (.lst ((kY.take r).map sV))=some (.ow ((kY.drop r++kY.take r).map sV)):=by
    have hl:kY.length=12:=rfl
    rw[add_l (by simp[hl];omega),List.map_append]
   have en:kY.map sV=[.str "night",.str "ray",.str "day",.str "yard",.str "post",.str "fence",.str "sail",.str "cloth",.str "house",.str "none",.str "off",.str "marks"]:=rfl
   rw[en] at e1 e2
   generalize ((kY.drop r++kY.take r).take m).map sV=Z at *
   generalize (kY.drop r++kY.take r).map sV=A at *
   generalize (kY.drop r).map sV=B at *
   generalize (kY.take r).map sV=C at *
   simp[tZ,vp,List.replicate,h3,hr,e1,e2,e3,ad]
  ·have hl:kY.length=12:=rfl
   simp[hl];omega
  ·intro l hl
   have:=List.mem_of_mem_take hl
   rcases List.mem_append.mp this with h|h
   ·exact Z14 l (List.mem_of_mem_drop h)
   ·exact Z14 l (List.mem_of_mem_take h)
  ·have:(kY.drop r++kY.take r).Nodup:=by
    have p:(kY.drop r++kY.take r).Perm kY:=by
     have:=List.perm_append_comm (l₁:= kY.drop r) (l₂:= kY.take r)
     rwa [List.take_append_drop] at this
    exact p.nodup_iff.mpr Z2h
   exact this.sublist (List.take_sublist _ _)
 ·by_cases h2:v % 2=0
  ·obtain⟨i,hi⟩:∃i:Nat,v / 2 % 26=i:=⟨(v / 2 % 26).toNat,by omega⟩
   obtain⟨j,hj⟩:∃j:Nat,(v / 2+1) % 26=j:=⟨((v / 2+1) % 26).toNat,by omega⟩
   have hab:lc i≠lc j:=λe=>by
    have:=Z13 i (by omega) j (by omega) e
    omega
   refine⟨(List.range m).map (Ek (lc i) (lc j)),?_,by simp,?_,Z02 λ_ _ _ _ h=>Z1V hab h⟩
   ·have e1:=Z0M i (by omega)
    have e2:=Z0M j (by omega)
    have rg:=ZT (n:=m) (by omega)
    have c:=Z1n (a:=lc i) (b:=lc j) hm
    rw[List.map_map]
    show _=FR.ret (.ow ((List.range m).map λk=>sV (Ek (lc i) (lc j) k)))
    generalize ((List.range m).map λk=>sV (Ek (lc i) (lc j) k))=Z at *
    generalize ((List.range m).map λ(i:Nat)=>PV.int (i:Int))=RG at *
    generalize sV [lc i]=A at *
    generalize sV [lc j]=B at *
    simp[tZ,vp,List.replicate,h3,h2,hi,hj,e1,e2,rg,c,jq]
   ·intro l hl
    obtain⟨k,hk,rfl⟩:=List.mem_map.mp hl
    exact Z2f (Z0L _ (by omega)) (Z0L _ (by omega)) (by have:=List.mem_range.mp hk;omega)
  ·have h2':v % 2=1:=by omega
   obtain⟨c,hc⟩:∃c:Nat,v / 2 % 7=c:=⟨(v / 2 % 7).toNat,by omega⟩
   obtain⟨n,hn⟩:∃n:Nat,v / 14=n:=⟨(v / 14).toNat,by omega⟩
   refine⟨(List.range m).map λk=>CK c (n+k),?_,by simp,?_,Z02 λi hi j hj h=>by have:=Z1W h;omega⟩
   ·have rg:=ZT (n:=m) (by omega)
    have cc:=Z1p (v:=v) hn (c:=c) (by omega) hm
    rw[List.map_map]
    show _=FR.ret (.ow ((List.range m).map λk=>sV (CK c (n+k))))
    generalize ((List.range m).map λk=>sV (CK c (n+k)))=Z at *
    generalize ((List.range m).map λ(i:Nat)=>PV.int (i:Int))=RG at *
    simp[tZ,vp,List.replicate,h3,h2',hc,rg,cc,jq]
   ·intro l hl
    obtain⟨k,hk,rfl⟩:=List.mem_map.mp hl
    exact Z2g _ _
theorem Z2B:∀(xs:List Int),xs.length=4->∃a b c d,xs=[a,b,c,d]
 | [a,b,c,d],_=>⟨a,b,c,d,rfl⟩
theorem Z2C:∀(xs:List Int),xs.length=3->∃a b c,xs=[a,b,c]
 | [a,b,c],_=>⟨a,b,c,rfl⟩
def Z1r(c:Int):∃o:Option P3,qm [.sh (.int c)]=.ret (.sh (Ũ o))/\Zh o:=by
 obtain⟨xs,eg,hl,hx⟩:=ZB c (n:=4) (by omega)
 obtain⟨a,b,d,e,rfl⟩:=Z2B xs hl
 clear hl hx
 have CJ:iU [.sh (.int c),.sh (.int 4)]=.ret (.ow [.int a,.int b,.int d,.int e]):=eg
 clear eg
 by_cases h4:e % 6=4
 ·exact⟨none,by simp[qm,vq,List.replicate,CJ,h4,Ũ],trivial⟩
 ·by_cases h5:e % 6=5
  ·exact⟨some (a % 2000001-1000000,b % 2000001-1000000,1+d % 1000000),by simp[qm,vq,List.replicate,CJ,h5,Ũ,c3],by unfold Zh Z06;dsimp only;omega⟩
  ·exact⟨some (a % 7-3,b % 7-3,1+d % 3),by simp[qm,vq,List.replicate,CJ,h4,h5,Ũ,c3],by unfold Zh Z06;dsimp only;omega⟩
theorem Z03(xs:List PV)(z:Int)(hz:xs[2]?=some (.int z)):∀(js:List Nat),(∀j∈js,j<=1000)->∀(acc:List PV) (s1:P.Slot),acc.length+js.length<=1000->∃os:List (Option P3),Ō (gN 1) Ķ (Č (ę qm (ġ (Č (Ĥ ě (Č (Ĥ ě (Ą Ğ (Ā 0) (mC (.int 2))) (Ą Ĺ (Ą Ĺ (mC (.int 101)) (Ā 1)) (Ā 1)))) (Ā 1))) ē))) (js.map λ(i:Nat)=>PV.int (i:Int)) [.bw xs,s1] acc=some (acc++os.map Ũ)/\os.length=js.length/\∀o∈os,Zh o
 | [],_,acc,s1,_=>⟨[],by simp[Ō],rfl,by simp⟩
 |j::js,hj,acc,s1,hl=>by
  rw[List.length_cons] at hl
  have hj0:=hj j (by simp)
  obtain⟨o,e1,e2⟩:=Z1r (z+101*j*j+j)
  obtain⟨os,q1,q2,q3⟩:=Z03 xs z hz js (λx hx=>hj x (List.mem_cons_of_mem _ hx)) (acc ++ [Ũ o]) (.sh (.int j)) (by simp;omega)
  refine⟨o::os,?_,by simp[q2],?_⟩
  ·have hc:acc.length<16777216:=by omega
   have m1:Ť 101 (j:Int)=true:=cH (by omega) (by omega)
   have m2:Ť (101*(j:Int)) (j:Int)=true:=cH (by omega) (by omega)
   rw[List.map_cons,Ō,List.map_cons]
   generalize Ũ o=V at *
   generalize os.map Ũ=W at *
   simp[hz,m1,m2,e1,hc]
   simpa using q1
  ·intro x hx
   rcases List.mem_cons.mp hx with rfl|hx
   ·exact e2
   ·exact q3 x hx
def Z1s(s0:P.Slot){v:Int}{m k:Nat}{L:List (List Nat)}(hL:L.length=m)(hk:k<m)(hm:m<=12)(hn:∀l∈L,Nm l){D:List Dz}(hD:D.length<=12)(s6 s7 s8:P.Slot):∃(d:Dz) (a b c:P.Slot),qt [s0,.sh (.int v),.sh (.int m),.ow (L.map sV),.ow ((D.map zV).map bF),.sh (.int k),s6,s7,s8]=.ok .nx [s0,.sh (.int v),.sh (.int m),.ow (L.map sV),.ow (((D ++ [d]).map zV).map bF),.sh (.int k),a,b,c]/\Z7 d/\L[k]?=some d.1:=by
 obtain⟨xs,eg,hl,hx⟩:=ZB (v+7919*k*k) (n:=3) (by omega)
 obtain⟨a,b,c,rfl⟩:=Z2C xs hl
 clear hl
 have CJ:iU [.sh (.int (v+7919*k*k)),.sh (.int 3)]=.ret (.ow [.int a,.int b,.int c]):=eg
 clear eg
 have ha:G9 a:=hx a (by simp)
 unfold G9 at ha
 obtain⟨n,hnn⟩:∃n:Nat,1+a / 9 % 24=n:=⟨(1+a / 9 % 24).toNat,by omega⟩
 obtain⟨os,q1,q2,q3⟩:=Z03 [.int a,.int b,.int c] c rfl (List.range n) (λj hj=>by have:=List.mem_range.mp hj;omega) [] .no (by simp;omega)
 rw[List.nil_append] at q1
 rw[List.length_range] at q2
 have rg:=ZT (n:=n) (by omega)
 have m1:Ť 7919 (k:Int)=true:=cH (by omega) (by omega)
 have m2:Ť (7919*(k:Int)) (k:Int)=true:=cH (by omega) (by omega)
 obtain⟨q,hq⟩:∃q,b % 4=q:=⟨_,rfl⟩
 obtain⟨l,hl⟩:∃l,L[k]?=some l:=⟨_,List.getElem?_eq_getElem (by omega)⟩
 have hl':(L.map sV)[k]?=some (sV l):=by rw[List.getElem?_map,hl];rfl
 have nl:Nm l:=hn l (List.mem_of_getElem? hl)
 have k1:((D.map zV).map bF).length<16777216:=by simp;omega
 obtain⟨T,hT,hTb⟩:∃T:Int,nM [PV.int 1,PV.int 365,PV.int 1000000000,PV.int (1+a % 1000000000)] q=some (.int T)/\1<=T/\T<=1000000000:=by
  have:q=0\/q=1\/q=2\/q=3:=by omega
  rcases this with rfl|rfl|rfl|rfl
  ·exact⟨1,rfl,by omega⟩
  ·exact⟨365,rfl,by omega⟩
  ·exact⟨1000000000,rfl,by omega⟩
  ·exact⟨1+a % 1000000000,rfl,by omega⟩
 refine⟨(l,T,os),.ow [.int a,.int b,.int c],.sh (.int T),.sh (.lst (os.map Ũ)),?_,⟨nl,hTb.1,hTb.2,by show 1<=os.length;omega,by show os.length<=24;omega,q3⟩,hl⟩
 have em:((D ++ [(l,T,os)]).map zV).map bF=(D.map zV).map bF ++ [.tup [sV l,.int T,.lst (os.map Ũ)]]:=by
  rw[List.map_append,List.map_append];rfl
 rw[em]
 generalize (D.map zV).map bF=DD at *
 generalize os.map Ũ=OS at *
 generalize ((List.range n).map λ(i:Nat)=>PV.int (i:Int))=RG at *
 generalize sV l=SL at *
 generalize L.map sV=LL at *
 simp[qt,CJ,m1,m2,JK,-Ŕ,hq,hT,hnn,rg,jq,q1,hl',k1]
theorem Z04(s0:P.Slot){v:Int}{m:Nat}{L:List (List Nat)}(hL:L.length=m)(hm:m<=12)(hn:∀l∈L,Nm l):∀(f:Nat) (D:List Dz) (s5 s6 s7 s8:P.Slot),D.length+f=m->(∀d∈D,Z7 d)->D.map (·.1)=L.take D.length->∃(D':List Dz) (a b c e:P.Slot),forL (gN 5) qt ((List.range' D.length f).map λ(i:Nat)=>PV.int (i:Int)) [s0,.sh (.int v),.sh (.int m),.ow (L.map sV),.ow ((D.map zV).map bF),s5,s6,s7,s8]=.ok .nx [s0,.sh (.int v),.sh (.int m),.ow (L.map sV),.ow ((D'.map zV).map bF),a,b,c,e]/\D'.length=m/\(∀d∈D',Z7 d)/\D'.map (·.1)=L
 |0,D,s5,s6,s7,s8,hf,hD,hd=>⟨D,s5,s6,s7,s8,rfl,by omega,hD,by rw[hd,List.take_of_length_le (by omega)]⟩
 |f+1,D,s5,s6,s7,s8,hf,hD,hd=>by
  obtain⟨d,a,b,c,e1,h1,h2⟩:=Z1s s0 (v:=v) hL (k:=D.length) (by omega) hm hn (D:=D) (by omega) s6 s7 s8
  obtain⟨D',a',b',c',e',q1,q2,q3,q4⟩:=Z04 s0 (v:=v) hL hm hn f (D ++ [d]) (.sh (.int D.length)) a b c (by simp;omega) (by
   intro x hx
   rcases List.mem_append.mp hx with hx|hx
   ·exact hD x hx
   ·rw[List.mem_singleton.mp hx];exact h1) (by
   rw[List.map_append,hd,List.length_append,List.map_cons,List.map_nil,List.length_cons,List.length_nil,List.take_succ,h2]
   rfl)
  refine⟨D',a',b',c',e',?_,q2,q3,q4⟩
  rw[List.range'_succ,List.map_cons,forL]
  show(qt [s0,.sh (.int v),.sh (.int m),.ow (L.map sV),.ow ((D.map zV).map bF),.sh (.int D.length),s6,s7,s8]).bind _=_
  rw[e1]
  rw[List.length_append,List.length_cons,List.length_nil] at q1
  exact q1
def Z1X(ns:List Int):∃D:List Dz,Ce [.sh (.lst (ns.map .int))]=.ret (.ow ((D.map zV).map bF))/\D.length<=12/\(∀d∈D,Z7 d)/\(D.map (·.1)).Nodup:=by
 obtain⟨v,e1,h1⟩:=ZV ns 1
 obtain⟨u,e2,h2⟩:=ZV ns 2
 obtain⟨m,hm⟩:∃m:Nat,u % 13=m:=⟨(u % 13).toNat,by omega⟩
 obtain⟨L,e3,h3,h4,h5⟩:=Z1q h1 (m:=m) (by omega)
 obtain⟨D,a,b,c,e,q1,q2,q3,q4⟩:=Z04 (.sh (.lst (ns.map .int))) (v:=v) h3 (by omega) h4 m [] .no .no .no .no (by simp) (by simp) (by simp)
 refine⟨D,?_,by omega,q3,by rw[q4];exact h5⟩
 have rg:=ZT (n:=m) (by omega)
 rw[List.length_nil,<-List.range_eq_range',List.map_nil,List.map_nil] at q1
 generalize ns.map PV.int=N at *
 generalize L.map sV=LL at *
 generalize (D.map zV).map bF=DD at *
 generalize ((List.range m).map λ(i:Nat)=>PV.int (i:Int))=RG at *
 simp[Ce,Ia,List.replicate,e1,e2,hm,e3,rg,q1]
def Z2i{l:PySem.W.OpenLaw}{w:World}{K:PySem.W.Frag}{mg:Str->Option Value}{fa:Addr}{a:I_}(T:Tx K mg a)(hfa:mg "law" =some (.ref fa)):∃fd:FuncData,(∀(s:Shared) (v:Value),BindsTo s fd ⟨[v],[]⟩ [("_law_script",v)])/\∀base:Heap,K.In base->base.Ns mainGlobals mg->∃cm,ī l.prog w K mg base bQ 9 fa fd ["_law_script"] (cu ⟨K,cm⟩ 1 uc):=by
 have e:=hfa.symm.trans T.Jd.m
 cases e
 exact⟨a.Jc,λs v=>T.Jd.bb s [v] rfl,λbase _ _=>⟨_,Xl T⟩⟩
def Z15{T:List Th}(hT:∀t∈T,Z1 t.1 t.2=true)(hl:T.length<=1000):Ō (gN 0) Ķ (Č (ę fW (ġ (Ą Ğ (Ā 0) (mC (.int 0))) (ġ (Č (lJ cU (ă (Č (lO (Ā 0) (mP (mC (.int 1))) cG)) Ė))) ē)))) (T.map dY) [.no] []=some (T.map iz):=by
 have:=ļ (g:=gN 0) (mt:=Ķ) (me:=Č (ę fW (ġ (Ą Ğ (Ā 0) (mC (.int 0))) (ġ (Č (lJ cU (ă (Č (lO (Ā 0) (mP (mC (.int 1))) cG)) Ė))) ē)))) dY iz (λρ=>∃s,ρ=[s]) T [.no] [] ⟨_,rfl⟩ (by simp;omega) (by
  rintro t ht ρ ⟨s,rfl⟩
  have hg:=hT t ht
  have e:=Z0b (Zi hg) (xs:=t.2) (sl:=.sh (.lst (t.2.map .int))) (.inl rfl)
  rw[if_pos hg] at e
  have ct:=Z0d (PV.str t.1) (t.2.map PV.int)
  have ll:(t.2.map PV.int).length<=16777216:=by have:=(Zd hg).2;simp;omega
  refine⟨[.sh (dY t)],_,[.sh (dY t)],by simp,rfl,?_,_,rfl⟩
  have e1:dY t=.lst (.str t.1::t.2.map .int):=rfl
  have e2:iz t=Zc (Ze t.1) t.1 t.2:=rfl
  rw[e1,e2]
  generalize Zc (Ze t.1) t.1 t.2=V at *
  generalize t.2.map PV.int=L at *
  simp[ct,ll,e])
 simpa using this
def Z2j{w h:Int}(hw:1<=w/\w<=20)(hh:1<=h/\h<=20){T:List Th}(hT:∀t∈T,Z1 t.1 t.2=true){D:List Dz}(hD:∀d∈D,Z7 d):Ej (wz w h T D):=λc hc=>by
 have W:∀ws:List (List Nat),(∀x∈ws,Wd x)->∀c∈Z0 ws,c<1000:=λws hws c hc=>by
  rcases Zo _ hc with e|⟨y,hy,e⟩
  ·omega
  ·have:=(hws y hy).2 c e;omega
 rcases Zo _ hc with e|⟨y,hy,e⟩
 ·omega
 ·rcases List.mem_cons.mp hy with rfl|hy
  ·exact W _ (ZO hw hh).1 c e
  ·obtain⟨r,hr,rfl⟩:=List.mem_map.mp hy
   exact W _ (Zv (ZS hT hD r hr)).1 c e
theorem Z2k:∀D:List Dz,Nt ((D.map zV).map bF)=some (D.map dD)
 | []=>rfl
 |d::D=>by
  show(Nt ((D.map zV).map bF)).map (([sV d.1,.int d.2.1],d.2.2.map Ũ):: ·)=_
  rw[Z2k D]
  rfl
def Z1t(ns:List Int)(hn:ns.length<=63):uc [.sh (.lst (ns.map .int))]=.ret (.sh (.bl true)):=by
 obtain⟨v,e0,h0⟩:=ZV ns 0
 obtain⟨w,ew⟩:∃w:Int,1+v % 20=w:=⟨_,rfl⟩
 obtain⟨h,eh⟩:∃h:Int,1+v / 20 % 20=h:=⟨_,rfl⟩
 have hw:1<=w/\w<=20:=by omega
 have hh:1<=h/\h<=20:=by omega
 obtain⟨T,eT,yG,hT⟩:=Z12 ns hw hh
 obtain⟨D,eD,yH,hD,hDn⟩:=Z1X ns
 have tx:=Z1S hw hh hT yG hD yH
 have rd:=Z1O hw hh hT yG hD yH hDn
 have sm1:=Z0B (w:=w) (h:=h) hT yG hD yH (st:=.bw (T.map dY)) (sd:=.bw ((D.map zV).map bF)) (.inr rfl) (.inr rfl)
 have sm2:=Z0B (w:=w) (h:=h) hT yG hD yH (st:=.sh (.lst (T.map dY))) (sd:=.sh (.lst ((D.map zV).map bF))) (.inl rfl) (.inl rfl)
 have sh:=Z1Q hw hh hT yG hD yH
 have pl:=(Z2j hw hh hT hD).ok
 have ne:ž (sV (wz w h T D)) (sV (wz w h T D))=some (.bl false):=mj (by unfold sV ň;exact pl) (by unfold sV dep;decide)
 have eq:ķ (sV (wz w h T D)) (sV (wz w h T D))=some (.bl true):=lZ (by unfold sV ň;exact pl) (by unfold sV dep;decide)
 have hc:=Z15 hT (by omega)
 have yd:=Z0v w h (T:=T) (D:=D) (by omega) (by omega) λd hd=>by have:=(hD d hd).2.2.2.2.1;omega
 have dd:=Z2k D
 have k1:((D.map zV).map bF).length<16777216:=by simp;omega
 have k2:(T.map iz).length<16777216:=by simp;omega
 have k3:((D.map dD).all λd=>decide (d.2.length<16777216))=true:=by
  rw[List.all_eq_true]
  intro x hx
  obtain⟨d,hd,rfl⟩:=List.mem_map.mp hx
  have:=(hD d hd).2.2.2.2.1
  show decide ((d.2.2.map Ũ).length<16777216)=true
  simp;omega
 have ey:Z2 w h T (D.map zV)=.ins "Yard" ["width","height","things","days"] [.int w,.int h,.lst (T.map iz),.lst ((D.map zV).map bF)]:=rfl
 have m7:∀(m2:M Fl) (N X S6:P.Slot),m71 1 2 4 7 8 9 10 11 12 "Yard" fB m2 [N,.sh (.int w),.sh (.int h),.sh (.lst (T.map dY)),.ow ((D.map zV).map bF),X,S6,.ow (T.map iz),.no,.no,.no,.no,.no]=m2 [N,.sh (.int w),.sh (.int h),.sh (.lst (T.map dY)),.sh (.lst ((D.map zV).map bF)),X,S6,.no,.no,.sh (Z2 w h T (D.map zV)),.no,.no,.no]:=by
  intro m2 N X S6
  rw[ey]
  unfold m71
  simp only[List.getElem?_cons_succ,List.getElem?_cons_zero]
  rw[dd]
  dsimp only
  rw[if_pos ⟨k1,k2,k3,by simp,by simp,by simp⟩,yd]
  rfl
 generalize Z2 w h T (D.map zV)=Y at *
 generalize T.map dY=TW at *
 generalize T.map iz=TH at *
 generalize (D.map zV).map bF=DY at *
 generalize sV (wz w h T D)=TX at *
 generalize ns.map PV.int=NS at *
 clear yd dd k1 k2 k3 ey
 simp[uc,IW,List.replicate,e0,ew,eh,eT,eD,tx,rd,sm1,sh,ne,hc,m7,sm2,eq]
def Z2D{l:PySem.W.OpenLaw}{q:Program}{loose:List Str}{XP:(Str->Option Value)->Heap->Prop}{YP:World->Heap->Prop}{d:DefRec}{K:Params->PySem.W.Frag}(hn:l.most=some 63)(hdf:d.params.defaults=[])
 (hY:∀(w:World) (h:Heap),YP w h->(K w.params).In h)
 (F:∀(w:World) (mg:Str→Option Value) (fa:Addr) (h:Heap),(K w.params).In h→h.Ns mainGlobals mg→mg d.name=some (.ref fa)→
   ∃fd:FuncData,(∀(s:Shared) (u:Value),BindsTo s fd ⟨[u],[]⟩ [("_law_script",u)])/\∀base:Heap,(K w.params).In base->base.Ns mainGlobals mg->∃cm,ī l.prog w (K w.params) mg base bQ 9 fa fd ["_law_script"] (cu ⟨K w.params,cm⟩ 1 uc)) :
 PySem.W.WalkO q loose XP YP l.row.toRowW d [] (λf vs=>PySem.call f vs):=
 P.Gx (k:=9) (x:= "_law_script") (CX:=bQ) (m:=uc) hn hdf ⟨rfl,by decide,by decide⟩ hY F Z1t (λ_ _ _ _ z=>z)
end
end T
namespace PySem.W.Fast
def tw8643062962875091233:=0
def tw15182423293292586493:=0
def tw2560477440134651464:=0
def tw4261328303416091090:=0
def tw18160861601135672152:=0
def tw5817319615784537839:=0
def tw1080942873860014910:=0
def tw4593452549697285378:=0
def tw15365548807765715103:=0
def tw903306664742209655:=0
def tw17247575882939219482:=0
def tw1692112006886730472:=0
def tw86235104713494654:=0
def tw2557288609079516968:=0
def tw9727698658001705165:=0
def tw13382657730453228189:=0
def tw11307510634185303463:=0
def tw12607428150646354649:=0
def tw3609575353123765761:=0
def tw2526578203218379725:=0
def tw8606693284908702676:=0
def tw18156459234450738686:=0
def tw17002819396023669629:=0
def tw17617854518100416663:=0
def tw8542404123764807651:=0
def tw6152953096616023702:=0
def tw6023952463249197825:=0
def tw10854524211201556059:=0
def tw5714933454436013605:=0
def tw1744177660999640736:=0
def tw12041338931944337007:=0
def tw12509857975248475742:=0
def tw17328590824297248600:=0
def tw1097009327650868466:=0
def tw8397902133991160299:=0
def tw13594291591789846699:=0
def tw104949622176587335:=0
def tw2907262642436637146:=0
def tw10946548750960449253:=0
def tw10339443254857779481:=0
def tw17308297422073514472:=0
def tw14574287882287206314:=0
def tw15055900755438121574:=0
def tw16989781883583474981:=0
def tw10331701065895111182:=0
def tw13114233656363229820:=0
def tw15063800910707814330:=0
def tw13145347105107945403:=0
def tw5453004105557626530:=0
def tw8947394191855574167:=0
def tw15796173108713594242:=0
def tw5460842952075774199:=0
def tw610667925644422639:=0
def tw12269710446345930113:=0
def tw1895895244375355741:=0
def tw7828983905698332334:=0
def tw15014067326248975734:=0
def tw8847282843176625977:=0
def tw17589397658331054737:=0
def tw11440342006107373403:=0
def tw12224343091939560929:=0
def tw853056535551195678:=0
def tw10335527977883945084:=0
def tw3246499424871973942:=0
def tw9409585270879505751:=0
def tw13900754856587788547:=0
def tw15190334527155626732:=0
def tw12371271586148923333:=0
def tw15879665347273578333:=0
def tw13464699365533805048:=0
def tw16766260760294858441:=0
def tw11172741175883246597:=0
def tw16007730830865224370:=0
def tw13673040489933177115:=0
def tw13313239392972935590:=0
def tw7709201931567327205:=0
def tw1710776295770638854:=0
def tw5764154154345854352:=0
def tw7140417794781174628:=0
def tw9019481648455481960:=0
def tw2721114502468111481:=0
def tw965975501712000109:=0
def tw16011390157161411781:=0
def tw9475454538784079297:=0
def tw15188552259688294302:=0
def tw18164868239196352381:=0
def tw15090439724926772348:=0
def tw16083287205541963112:=0
def tw16590259271088566424:=0
def tw12258019611651084607:=0
def tw2462868473902492698:=0
def tw529546372531149261:=0
def tw17965696251373602564:=0
def tw15503285237622182945:=0
def tw17987315984775454866:=0
def tw6257097315756433393:=0
def tw11042376217086675866:=0
def tw12778811799175725571:=0
def tw8228848388497714776:=0
def tw4570051268976852703:=0
def tw17238136715818990140:=0
def tw732583024703098433:=0
def tw7462899361758406203:=0
def tw3606712378943576149:=0
def tw5916275323632837681:=0
def tw4447647333702159924:=0
def tw7949660358723566395:=0
def tw6766887749341983611:=0
def tw9258079531905642507:=0
def tw11234877264536641167:=0
def tw14235940509692899969:=0
def tw14996632837338086077:=0
def tw150762544264935149:=0
def tw5296407934107893886:=0
def tw18081806829171546370:=0
def tw6619745093380457392:=0
def tw12498379285892628110:=0
def tw7334015352117609951:=0
def tw16013927519205310697:=0
def tw10052802086260746185:=0
def tw9563723673865396713:=0
def tw12183018881769585643:=0
def tw10466154616754467319:=0
def tw10346804384925135153:=0
def tw7502238106423219100:=0
def tw10384991578678879113:=0
def tw16804048250435682282:=0
def tw5977660857785178376:=0
def tw9160596904303429658:=0
def tw9473265920823476959:=0
def tw1710770481445655106:=0
def tw535210109696527042:=0
def tw13488659113850492822:=0
def tw4652073158792987740:=0
def tw2535785912888328330:=0
def tw6997857928596501436:=0
def tw9433581006138811832:=0
def tw3938807377156730132:=0
def tw14852960202915839756:=0
def tw4112144290642356748:=0
def tw17999202959600984655:=0
def tw1948066751621720269:=0
def tw17542658140181399647:=0
def tw8306802343081418108:=0
def tw374842358852674470:=0
def tw14434731976223968111:=0
def tw15559685481112767039:=0
def tw6465085061291438557:=0
def tw5305550668311077471:=0
def tw11264763474032930314:=0
def tw7643306329429778554:=0
def tw9098606474698501602:=0
def tw9932237543135608710:=0
def tw2506960354111064220:=0
def tw17088686118744249184:=0
def tw18231467212603946486:=0
def tw5731944895174970027:=0
def tw1303888625076119080:=0
def tw3918349075689956415:=0
def tw3696666917550708232:=0
def tw11809058118244945846:=0
def tw123134869406734273:=0
def tw6621874891355460657:=0
def tw9107386215908260104:=0
def tw8472280287581674018:=0
def tw12351256910094449821:=0
def tw7794812862027436368:=0
def tw10703449455283054483:=0
def tw2459890223605944818:=0
def tw8087990927640460887:=0
def tw11802025479500649267:=0
def tw5415283477400811542:=0
def tw18323925997484761316:=0
def tw6518932542190859436:=0
def tw8734560673525315657:=0
def tw9471730175399758113:=0
def tw14679823674266130135:=0
def tw14467591627196474246:=0
def tw8624802653431709896:=0
def tw7416643152905321879:=0
def tw8918440158864619099:=0
def tw11564851853839070236:=0
def tw16322867570542650105:=0
def tw5876045656668461365:=0
def tw17740366157088471681:=0
def tw9936254465077415606:=0
def tw1543560237551845883:=0
def tw2372262683320302072:=0
def tw15868089372580374461:=0
def tw7080800528568287220:=0
def tw6019585188417044207:=0
def tw4485428990060304206:=0
def tw7829066276596993485:=0
def tw12613665099182797762:=0
def tw15452258309621320576:=0
def tw16898134119294911540:=0
def tw6105752536049198745:=0
def tw10169949610658727245:=0
def tw3559567700686497396:=0
def tw6149623761062708022:=0
def tw62843645570450174:=0
def tw10389851340687493515:=0
def tw12732791013485583197:=0
def tw13966750495520449073:=0
def tw3104008641280186096:=0
def tw13359254027157806680:=0
def tw17943374001706514337:=0
def tw11635147101427514381:=0
def tw653192685353616361:=0
def tw16630298419835729469:=0
def tw1359477693209525227:=0
def tw13311245407666499377:=0
def tw6988969107048860285:=0
def tw5040855452880925265:=0
def tw17136923234317437683:=0
def tw9468320023048351995:=0
def tw9024317832920007770:=0
def tw5742193825041300240:=0
def tw3962902819628448474:=0
def tw4712656241186057148:=0
def tw7366687453752916982:=0
def tw17874383041451356343:=0
def tw5862174951851819098:=0
def tw3104281008444393960:=0
def tw12249486916467340864:=0
def tw3847505096910780721:=0
def tw14163515111059735977:=0
def tw4789722084980370794:=0
def tw14668295413008326092:=0
def tw5243416848460877858:=0
def tw9174581729515263517:=0
def tw4105193558791204348:=0
def tw4341264082997155571:=0
def tw8442850402641375195:=0
def tw12338889762351091095:=0
def tw9593678556295536297:=0
def tw13621682648458354152:=0
def tw8469076118802388027:=0
def tw2850538722591092583:=0
def tw10797404805698961845:=0
def tw16000931379305686359:=0
def tw6321444484822691139:=0
def tw3515934936527021499:=0
def tw9386667797019505642:=0
def tw5113534497978536213:=0
def tw5546250242138996399:=0
def tw5253755693598727564:=0
def tw11724392189590724215:=0
def tw4440796691553841486:=0
def tw7602851586499921403:=0
def tw12031417766147507694:=0
def tw14052396047576624996:=0
def tw3979004366172648293:=0
def tw14877872003659105118:=0
def tw9457019111086531070:=0
def tw36116341936721088:=0
def tw6401367883771907944:=0
def tw10444702113504153594:=0
def tw2903123627797018989:=0
def tw5905432151781746578:=0
def tw15011094634071456707:=0
def tw2867182624797873683:=0
def tw12534824334344962279:=0
def tw7757590020236570568:=0
def tw16030485194718394833:=0
def tw6973110740904275062:=0
def tw12045178545970372406:=0
def tw13494179766434221801:=0
def tw1731266758687153249:=0
def tw17639132920918037587:=0
def tw18036272379421632856:=0
def tw10824250307592929181:=0
def tw4813681083213692081:=0
def tw10456502139516723009:=0
def tw14923802923826768893:=0
def tw11417410222088454151:=0
def tw17847338009013130725:=0
def tw11182601837851034784:=0
def tw2469538988866030832:=0
def tw3579365661284179411:=0
def tw7570711217791521459:=0
def tw14091395812968797200:=0
def tw16087746917976668847:=0
def tw4608313393839066893:=0
def tw12574029792713612731:=0
def tw6537538761722212553:=0
def tw18182295236765327835:=0
def tw10409425326194819166:=0
def tw2276514939911345441:=0
def tw4747334735843245198:=0
def tw6871377331016332985:=0
def tw3172323067622583505:=0
def tw11166504432763249779:=0
def tw17985279296566795008:=0
def tw3436733955473462057:=0
def tw8458493524672062198:=0
def tw4320985248936902775:=0
def tw5732376223489967059:=0
def tw17121334583815932314:=0
def tw10968174536996115728:=0
def tw3731446816772584669:=0
def tw12674584995431525049:=0
def tw5923970931503341209:=0
def tw15944904948502496623:=0
def tw1638487694256986520:=0
def tw12337417524054113926:=0
def tw12048239109753985061:=0
def tw6478903041069234969:=0
def tw982426162612969825:=0
def tw9016380116550263308:=0
def tw13853568301848795784:=0
def tw1552076529623778169:=0
def tw5880586184609006723:=0
def tw11960656027083240573:=0
def tw8236249834407427185:=0
def tw1497592041521457811:=0
def tw12620543468515438673:=0
def tw7289170687037616544:=0
def tw16358600327504832694:=0
def tw1712542760389972636:=0
def tw12689141779876197232:=0
def tw10699781384693284301:=0
def tw14709068106587127350:=0
def tw908076292871625577:=0
def tw15632474590381557250:=0
def tw8460000085217913992:=0
def tw15293123611052525205:=0
def tw6404989290503692744:=0
def tw4402303236417488395:=0
def tw18440166912049720126:=0
def tw12552642097373536227:=0
def tw6199787852118083876:=0
def tw17150598863714169362:=0
def tw5261801526483610756:=0
def tw651662807915756953:=0
def tw2783075568081447926:=0
def tw4675773485835396004:=0
def tw4250741529020370039:=0
def tw911074857741830702:=0
def tw7931254956904396203:=0
def tw10519054872654627163:=0
def tw1141425361850476436:=0
def tw14744803082310599292:=0
def tw1873562356573669838:=0
def tw8332465493135428367:=0
def tw7720048215148361912:=0
def tw14510813354147184185:=0
def tw12946738772122775184:=0
def tw2001825418010316998:=0
def tw16500843816017357977:=0
def tw5542618392960916333:=0
def tw17900965279106109233:=0
def tw8671157594489059560:=0
def tw18266499326341150030:=0
def tw5123332627833869795:=0
def tw2302778411446538664:=0
def tw14381738002688695334:=0
def tw5896154664857585705:=0
def tw10064534678214579429:=0
def tw13107272098019598802:=0
def tw12942170124584253384:=0
def tw4387898261836365953:=0
def tw10695068440339078299:=0
def tw2275937868611933279:=0
def tw12735674253121435978:=0
def tw5656349773780477770:=0
def tw1244379349321689055:=0
def tw5910948202028882406:=0
def tw5564003449381501741:=0
def tw6047547773191730069:=0
def tw6908853441391648781:=0
def tw1000076064478932052:=0
def tw9954653685687264720:=0
def tw4725998378556955613:=0
def tw11566288744568214390:=0
def tw9857845859594272822:=0
def tw16804857016206919157:=0
def tw12229335934676552716:=0
def tw14586420248978485422:=0
def tw13389057282716352687:=0
def tw6158434718737936008:=0
def tw3553809488609258349:=0
def tw16638453149901217095:=0
def tw8475398723998362029:=0
def tw1448699291115358976:=0
def tw4837830170541023992:=0
def tw9821520091955417467:=0
def tw14414026901154197088:=0
def tw13440516692288621538:=0
def tw9138443739305267526:=0
def tw12174131723686422374:=0
def tw91079066123885512:=0
def tw11667248758411749863:=0
def tw959089602110967328:=0
def tw8898722477888096667:=0
def tw5954766403759529480:=0
def tw10408620878031622283:=0
def tw2038436771336102677:=0
def tw5427893466102583157:=0
def tw5594605350055133977:=0
def tw6979539270883626265:=0
def tw10067827966403984011:=0
def tw16420354771965005416:=0
def tw14601193296975192188:=0
def tw1307232927374684790:=0
def tw10345165273434901056:=0
def tw9614227180432662620:=0
def tw1968228040298194421:=0
def tw3458820289082296515:=0
def tw7843225153729432816:=0
def tw4788939778486919956:=0
def tw11123089565439025801:=0
def tw11277872137969334931:=0
def tw14410255843772650895:=0
def tw510266179335521519:=0
def tw17754601242776467115:=0
def tw1432556451166273885:=0
def tw15136137172357161505:=0
def tw7455323508301219460:=0
def tw10486531014978839036:=0
def tw18381325915581959076:=0
def tw6082295289292522088:=0
def tw3296614745841146144:=0
def tw2369487175201387157:=0
def tw13424896281994447280:=0
def tw5409778469792480576:=0
def tw7737973778874554365:=0
def tw16529015099777740741:=0
def tw16337513987391094258:=0
def tw9650666577000565282:=0
def tw16429270211429495208:=0
def tw2778126707022393149:=0
end PySem.W.Fast
open PySem PySem.W PyProof.Rows
set_option maxRecDepth 100000 in
set_option maxHeartbeats 0 in
theorem PySem.Challenge.cw_shadowpost_k71_yards_read_and_shown_holds : PySem.Challenge.rw_shadowpost_k71_yards_read_and_shown.Holds := by
 w_on;o_law;k_head;(case hw=>w_witness2)
 k_fill
 refine T.Z2D (l:=PySem.Challenge.rw_shadowpost_k71_yards_read_and_shown) rfl rfl (λw h Y=>by first|exact PySem.W.kIn_of Y|exact PySem.W.km_in_of Y) ?F
 case F=>
  intro w mg fa h KX G hmg
  refine' T.Z2i (a:=T.I_.mk) (T.Tx.mk (mg_of KX G ?_) (mg_of KX G ?_) (mg_of KX G ?_) (mg_of KX G ?_) (mg_of KX G ?_) (mg_of KX G ?_) (mg_of KX G ?_) (P.Ĵ KX G (λ_ _ _ _ _ _ _ _=>rfl) ?_ ?_ ?_ ?_) (P.Ĵ KX G (λ_ _ _ _ _ _ _ _ _=>rfl) ?_ ?_ ?_ ?_) (P.Ĵ KX G (λ_ _ _ _ _ _ _ _=>rfl) ?_ ?_ ?_ ?_) (P.Ĵ KX G (λ_ _ _ _ _ _ _ _ _=>rfl) ?_ ?_ ?_ ?_) (P.Ĵ KX G (λ_ _ _ _ _ _ _ _=>rfl) ?_ ?_ ?_ ?_) (P.Ĵ KX G (λ_ _ _ _ _ _ _ _=>rfl) ?_ ?_ ?_ ?_) (P.Ĵ KX G (λ_ _ _ _ _ _ _=>rfl) ?_ ?_ ?_ ?_) (P.Ĵ KX G (λ_ _ _ _ _ _ _=>rfl) ?_ ?_ ?_ ?_) (P.Ĵ KX G (λ_ _ _ _ _ _ _=>rfl) ?_ ?_ ?_ ?_) (P.Ĵ KX G (λ_ _ _ _ _ _ _ _ _ _=>rfl) ?_ ?_ ?_ ?_) (P.Ĵ KX G (λ_ _ _ _ _ _ _ _ _=>rfl) ?_ ?_ ?_ ?_) (P.Ĵ KX G (λ_ _ _ _ _ _ _=>rfl) ?_ ?_ ?_ ?_) (P.Ĵ KX G (λ_ _ _ _ _ _ _=>rfl) ?_ ?_ ?_ ?_) (P.Ĵ KX G (λ_ _ _ _ _ _ _ _=>rfl) ?_ ?_ ?_ ?_) (P.Ĵ KX G (λ_ _ _ _ _ _ _ _=>rfl) ?_ ?_ ?_ ?_) (P.Ĵ KX G (λ_ _ _ _ _ _ _=>rfl) ?_ ?_ ?_ ?_) (P.Hl (λ_ _ _ _ _ _ _ _ _ _ _=>rfl) ?_ ?_ ?_ ?_) (P.Ĵ KX G (λ_ _ _ _ _ _ _=>rfl) ?_ ?_ ?_ ?_) (P.Ĵ KX G (λ_ _ _ _ _ _ _ _=>rfl) ?_ ?_ ?_ ?_) (P.Ĵ KX G (λ_ _ _ _ _ _ _ _ _=>rfl) ?_ ?_ ?_ ?_) (P.Ĵ KX G (λ_ _ _ _ _ _ _=>rfl) ?_ ?_ ?_ ?_) (P.Ĵ KX G (λ_ _ _ _ _ _ _ _=>rfl) ?_ ?_ ?_ ?_) (P.Ĵ KX G (λ_ _ _ _ _ _ _ _ _=>rfl) ?_ ?_ ?_ ?_) (P.Ĵ KX G (λ_ _ _ _ _ _ _=>rfl) ?_ ?_ ?_ ?_) (P.Ĵ KX G (λ_ _ _ _ _ _ _=>rfl) ?_ ?_ ?_ ?_) (P.Ĵ KX G (λ_ _ _ _ _ _ _=>rfl) ?_ ?_ ?_ ?_) (P.Hl (λ_ _ _ _ _ _ _ _ _=>rfl) ?_ ?_ ?_ ?_) (P.Ĵ KX G (λ_ _ _ _ _ _ _=>rfl) ?_ ?_ ?_ ?_) (P.Ĵ KX G (λ_ _ _ _ _ _ _=>rfl) ?_ ?_ ?_ ?_) (P.Ĵ KX G (λ_ _ _ _ _ _ _=>rfl) ?_ ?_ ?_ ?_) (P.Ĵ KX G (λ_ _ _ _ _ _ _=>rfl) ?_ ?_ ?_ ?_) (P.Ĵ KX G (λ_ _ _ _ _ _ _=>rfl) ?_ ?_ ?_ ?_) (P.Ĵ KX G (λ_ _ _ _ _ _ _ _=>rfl) ?_ ?_ ?_ ?_) (P.Ĵ KX G (λ_ _ _ _ _ _ _ _=>rfl) ?_ ?_ ?_ ?_) (P.Ĵ KX G (λ_ _ _ _ _ _ _ _ _ _=>rfl) ?_ ?_ ?_ ?_) (P.Ĵ KX G (λ_ _ _ _ _ _ _ _ _ _=>rfl) ?_ ?_ ?_ ?_) (P.Ĵ KX G (λ_ _ _ _ _ _ _=>rfl) ?_ ?_ ?_ ?_) (P.Hl (λ_ _ _ _ _ _ _=>rfl) ?_ ?_ ?_ ?_) (P.Ĵ KX G (λ_ _ _ _ _ _ _ _ _ _ _=>rfl) ?_ ?_ ?_ ?_) (P.Ĵ KX G (λ_ _ _ _ _ _ _=>rfl) ?_ ?_ ?_ ?_) (P.Ĵ KX G (λ_ _ _ _ _ _ _=>rfl) ?_ ?_ ?_ ?_) (P.Ĵ KX G (λ_ _ _ _ _ _ _=>rfl) ?_ ?_ ?_ ?_) (mg_of KX G ?_) (mg_of KX G ?_) (mg_of KX G ?_) (mg_of KX G ?_) (mg_of KX G ?_) (mg_of KX G ?_) (mg_of KX G ?_) (mg_of KX G ?_) (mg_of KX G ?_) (mg_of KX G ?_) (mg_of KX G ?_) (mg_of KX G ?_) (mg_none_of KX G ?_) (mg_none_of KX G ?_) (mg_none_of KX G ?_) (mg_none_of KX G ?_) (mg_none_of KX G ?_) (mg_none_of KX G ?_) (mg_none_of KX G ?_) (mg_none_of KX G ?_) (mg_none_of KX G ?_) (mg_none_of KX G ?_) (mg_none_of KX G ?_) (P.jr ?_) (P.pX ?_) ?_ ?_ (P.h_ ?_) (P.jr ?_) (P.pX ?_) ?_ ?_ (P.h_ ?_) (P.jr ?_) (P.pX ?_) ?_ ?_ (P.h_ ?_) (P.jr ?_) (P.pX ?_) ?_ ?_ (P.h_ ?_) (P.jr ?_) (P.pX ?_) ?_ ?_ (P.h_ ?_) (P.jr ?_) (P.pX ?_) ?_ ?_ (P.h_ ?_) (P.jr ?_) (P.pX ?_) ?_ ?_ ?_ ?_) hmg
  any_goals (dsimp only;k_is)
  any_goals first|kernel_rfl|(unfold L2.İ;kernel_rfl)
  all_goals skip
