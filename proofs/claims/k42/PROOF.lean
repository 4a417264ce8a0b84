import PyProof.Rows.All
import Wide.All
import OpenK.AllK
import Wide.FinOn
import Lean
import PyProof.EqAt
import PyProof.EqKinds
import PyProof.TupleCall
import PySem.Challenge.RW_shadowpost_k42_keep_dark
set_option Elab.async false
set_option linter.all false
set_option maxRecDepth 100000
set_option maxHeartbeats 4000000
namespace L2
open PySem PySem.Spec PyProof.Rows
abbrev Key:=Sum Int Str
def Ss:Key->Value->Bool
 | .inl k,v=>Value.isInt k v
 | .inr x,v=>Value.isStrOf x v
def Zge(w:World):Key->Int
 | .inl k=>hashInt k
 | .inr x=>hashStr w x
theorem Ţ:∀{k:Key} {v:Value},Ss k v=true->(∃i t,k=Sum.inl i/\v=Value.int i t)\/(∃x t,k=Sum.inr x/\v=Value.str x t)
 | .inl i,v,h=>by
   obtain⟨t,e⟩:=Value.isInt_shape (k:=i) (v:=v) h
   exact .inl ⟨i,t,rfl,e⟩
 | .inr x,v,h=>by
   obtain⟨t,e⟩:=Value.isStrOf_shape (x:=x) (v:=v) h
   exact .inr ⟨x,t,rfl,e⟩
def ZaW(a b:Int):decide ((Sum.inl a:Key)=Sum.inl b)=(a== b):=by
 by_cases e:a=b
 ·subst e;simp
 ·have h:¬(Sum.inl a:Key)=Sum.inl b:=λq=>e (Sum.inl.inj q)
  rw[decide_eq_false h]
  exact(beq_eq_false_iff_ne.mpr e).symm
def ZaX(a b:Str):decide ((Sum.inr a:Key)=Sum.inr b)=decide (a=b):=by
 by_cases e:a=b
 ·subst e;simp
 ·have h:¬(Sum.inr a:Key)=Sum.inr b:=λq=>e (Sum.inr.inj q)
  rw[decide_eq_false h,decide_eq_false e]
def ZaY(a:Int)(b:Str):decide ((Sum.inl a:Key)=Sum.inr b)=false:=decide_eq_false (λq=>nomatch q)
def ZaZ(a:Str)(b:Int):decide ((Sum.inr a:Key)=Sum.inl b)=false:=decide_eq_false (λq=>nomatch q)
def vV(prog:Program)(w:World):PySem.KeyKind prog w Key where
 is:=Ss
 hash:=Zge w
 inj:=λv a b ha hb=>by
  rcases Ţ ha with⟨i,t,rfl,rfl⟩|⟨x,t,rfl,rfl⟩
  ·rcases Ţ hb with⟨j,u,rfl,e⟩|⟨y,u,rfl,e⟩
   ·injection e with e1 _;rw[e1]
   ·exact nomatch e
  ·rcases Ţ hb with⟨j,u,rfl,e⟩|⟨y,u,rfl,e⟩
   ·exact nomatch e
   ·injection e with e1 _;rw[e1]
 byValue:=λk v h=>by
  rcases Ţ h with⟨i,t,rfl,rfl⟩|⟨x,t,rfl,rfl⟩<;>rfl
 pyHash:=λhv h=>by
  rcases Ţ hv with⟨i,t,rfl,rfl⟩|⟨x,t,rfl,rfl⟩
  ·exact wpAny_pyHash_int h
  ·exact wpAny_pyHash_str h
 eqBool:=λhu hv h=>by
  rcases Ţ hu with⟨i,t,rfl,rfl⟩|⟨x,t,rfl,rfl⟩
  ·rcases Ţ hv with⟨j,u,rfl,rfl⟩|⟨y,u,rfl,rfl⟩
   ·rw[ZaW] at h;exact wpAny_eqBool_int h
   ·rw[ZaY] at h;exact SeqAt.EqAt.int_str i t y u _ _ _ _ h
  ·rcases Ţ hv with⟨j,u,rfl,rfl⟩|⟨y,u,rfl,rfl⟩
   ·rw[ZaZ] at h;exact SeqAt.EqAt.str_int x t j u _ _ _ _ h
   ·rw[ZaX] at h;exact wpAny_eqBool_str h
 «strs» := fun k x t v h=>by
   rcases Ţ h with⟨i,u,rfl,e⟩|⟨y,u,rfl,e⟩
   ·exact nomatch e
   ·injection e with e1 _
    subst e1
    cases v<;>rfl
end L2
namespace L2
open PySem PySem.Spec PyProof.Rows
inductive V where
 |non|bl (b:Bool)|int (i:Int)|str (x:Str)|Sv (b:Array UInt8)|flt (b:UInt64)|ref (a:Addr)|ty (n:String)
 deriving DecidableEq
def RelV:V->Value->Prop
 | .non,u=>u=Value.none
 | .bl b,u=>u=Value.bool b
 | .int i,u=>∃t,u=Value.int i t
 | .str x,u=>∃t,u=Value.str x t
 | .Sv b,u=>∃t,u=Value.bytes b t
 | .flt b,u=>∃t,u=Value.float b t
 | .ref a,u=>u=Value.ref a
 | .ty n,u=>u=Value.type n
abbrev Vals:List V->List Value->Prop:=Paired RelV
theorem Vals.length{xs:List V}{us:List Value}(r:Vals xs us):xs.length=us.length:=Paired.length r
theorem Vals.get:∀{xs:List V} {us:List Value} {i:Nat} {x:V},Vals xs us->xs[i]?=some x->∃u,us[i]?=some u/\RelV x u
 |_,_,_,_,.nil,e=>by simp at e
 |_,_,0,_,.cons r _,e=>by simp at e;subst e;exact⟨_,rfl,r⟩
 |_,_,i+1,x,.cons _ t,e=>by
  obtain⟨u,h1,h2⟩:=Vals.get (i:=i) (x:=x) t (by simpa using e)
  exact⟨u,by simpa using h1,h2⟩
theorem Vals.set{x:V}{u:Value}(r:RelV x u):∀{xs:List V} {us:List Value} (i:Nat),Vals xs us->Vals (xs.set i x) (us.set i u)
 |_,_,_,.nil=>.nil
 |_,_,0,.cons _ t=>.cons r t
 |_,_,i+1,.cons q t=>.cons q (Vals.set r i t)
theorem Vals.append:∀{xs ys:List V} {us ws:List Value},Vals xs us->Vals ys ws->Vals (xs++ys) (us++ws)
 |_,_,_,_,.nil,s=>s
 |_,_,_,_,.cons r t,s=>.cons r (Vals.append t s)
theorem Vals.take:∀{xs:List V} {us:List Value} (n:Nat),Vals xs us->Vals (xs.take n) (us.take n)
 |_,_,0,_=>.nil
 |_,_,_+1,.nil=>.nil
 |_,_,n+1,.cons r t=>.cons r (Vals.take n t)
theorem Vals.drop:∀{xs:List V} {us:List Value} (n:Nat),Vals xs us->Vals (xs.drop n) (us.drop n)
 |_,_,0,r=>r
 |_,_,_+1,.nil=>.nil
 |_,_,n+1,.cons _ t=>Vals.drop n t
def tW:Option V->Option Value->Prop
 |some v,some u=>RelV v u
 |none,none=>True
 |_,_=>False
def KV{κ:Type}:List (κ×V)->List (κ×Value)->Prop:=Paired λ(p:κ×V) (q:κ×Value)=>p.1=q.1/\RelV p.2 q.2
def kV:Key->V
 | .inl i=>.int i
 | .inr x=>.str x
inductive HO where
 /-- a list -/
 |lst (xs:List V)
 /-- a tuple (never changes) -/
 |tup (xs:List V)
 /-- a dict whose keys are ints and texts;one whose keys are tuples of ints and texts (the empty one is both) -/
 |dK (kvs:List (Key×V))|dT (kvs:List (List Key×V))
 /-- a set of ints:its members,its size -/
 |set (S:Int->Bool) (n:Nat)
 /-- an instance of the class at C,its dict at dx,its attributes -/
 |ins (C dx:Addr) (fs:List (Str×V))
 /-- the dict of the instance at x -/
 |own (x:Addr)
 /-- the dict of an exception -/
 |xd (fs:List (Str×V))
 /-- a bound method,f of x -/
 |met (f x:Addr)
 /-- a range object lo,lo+1,.. below hi -/
 |rng (lo hi:Int)
 /-- a thing that is known to the object (the script;a dict while a loop walks it):read,never written while it is so -/
 |fL (o:Obj) (u:HO)
 /-- a code object's table -/
 |jk (q:Str)
 /-- a code made of such a table,by its name -/
 |GZ (q:Str)
 /-- any other thing,by what is true of its one object (a def of one's own:Zh9 a S n:=HO.ext λh=>..) -/
 |ext (φ:Heap->Prop)
abbrev Hp:=Addr->Option HO
def upd(H:Hp)(a:Addr)(o:HO):Hp:=λb=>if b=a then some o else H b
def ĭ{H:Hp}{a:Addr}{o:HO}:upd H a o a=some o:=by unfold upd;rw[if_pos rfl]
def Ğ{H:Hp}{a b:Addr}{o:HO}(h:b≠a):upd H a o b=H b:=by unfold upd;rw[if_neg h]
def į{H:Hp}{a b:Addr}{o:HO}(h:H a=some o)(h':H b=none):a≠b:=by
 intro e;subst e;rw[h] at h';cases h'
section
variable(P:Program)(w:World)
def aN(H:Hp)(h:Heap)(a:Addr):HO->Prop
 | .lst xs=>xs.length<=sizeLine/\∃(its:List Value) (n:Nat),Vals xs its/\h.get? a=some {cls:=.type "list",data:=.seq its.toArray n}
 | .tup xs=>xs.length<=sizeLine/\∃its:List Value,Vals xs its/\IsTup h a its.toArray
 | .dK kvs=>kvs.length<=sizeLine/\(a== sysModules)=false/\∃vs,KV kvs vs/\h.DictOf (vV P w) a vs
 | .dT kvs=>kvs.length≤sizeLine∧(a== sysModules)=false∧∃xs:List (List Key×Addr×Value),
     Paired (λ(p:List Key×V) (q:List Key×Addr×Value)=>p.1=q.1/\H q.2.1=some (.tup (p.1.map kV))/\RelV p.2 q.2.2) kvs xs/\
     ∃o es ep,h.get? a=some o/\o.ExactDict/\o.data=.dict es ep/\es.toList=xs.map (entryOfKey (tupleKind (vV P w)))/\(xs.map (·.1)).Nodup
 | .set S n=>h.SetOf (intKind P w) a S n
 | .ins C dx fs=>H dx=some (.own a)∧fs.length≤1000∧dx≠a∧h.get? a=some (PySem.W.instObj C dx)∧
     ∃mA,h.Ns1 dx mA/\(∀f,tW (fs.lookup f) (mA f))/\PySem.Within mA (fs.map (·.1))
 | .own _=>∃o,h.get? a=some o
 | .xd fs=>∃mA,h.Ns1 a mA/\∀f,tW (fs.lookup f) (mA f)
 | .rng lo hi=>∃t u v,h.get? a=some {cls:=.type "range",data:=.fields #[.int lo t,.int hi u,.int 1 v]}
 | .fL o u=>h.get? a=some o/\aN H h a u
 | .jk q=>∃ps:Array Value,h.get? a=some {cls:=.none,data:=.fields ps}/\TriplesOk ps.toList/\∀pos cv,codeAmong pos ps.toList=some cv->∃c,cv=.ref c/\H c=some (.GZ q)
 | .GZ q=>h.CodeRec (.ref a) q
 | .met f x=>h.get? a=some (PySem.W.methodObj (.ref f) (.ref x))
 | .ext φ=>φ h/\(∃o,h.get? a=some o)/\∀h1 h2:Heap,φ h1->(∀o,h1.get? a=some o->h2.get? a=some o)->φ h2
def kO(H:Hp)(h:Heap):Prop:=∀a o,H a=some o->aN P w H h a o
end
section
variable{P:Program}{w:World}{H H':Hp}{h h':Heap}{a:Addr}{o:HO}
theorem aN.lt(x:aN P w H h a o):a<h.objs.size:=by
 cases o with
 |lst xs=>obtain⟨_,_,_,_,e⟩:=x;exact Heap.lt_size e
 |tup xs=>obtain⟨_,_,_,p⟩:=x;exact p.lt
 |dK kvs=>obtain⟨_,_,_,_,o,_,_,e,_⟩:=x;exact Heap.lt_size e
 |dT kvs=>obtain⟨_,_,_,_,o,_,_,e,_⟩:=x;exact Heap.lt_size e
 |set S n=>obtain⟨o,_,_,_,e,_⟩:=x;exact Heap.lt_size e
 |ins C dx fs=>obtain⟨_,_,_,e,_⟩:=x;exact Heap.lt_size e
 |own y=>obtain⟨_,e⟩:=x;exact Heap.lt_size e
 |xd fs=>obtain⟨_,⟨_,_,_,e,_⟩,_⟩:=x;exact Heap.lt_size e
 |rng lo hi=>obtain⟨_,_,_,e⟩:=x;exact Heap.lt_size e
 |fL ob u=>obtain⟨e,_⟩:=x;exact Heap.lt_size e
 |jk q=>obtain⟨_,e,_⟩:=x;exact Heap.lt_size e
 |GZ q=>obtain⟨c,o,_,_,z,e,_⟩:=x;cases z;exact Heap.lt_size e
 |met f y=>exact Heap.lt_size (show h.get? a=some _ from x)
 |ext φ=>obtain⟨_,⟨_,e⟩,_⟩:=x;exact Heap.lt_size e
theorem Paired.ZdR{α β:Type}{F G:α->β->Prop}:∀{l₁:List α} {l₂:List β},Paired F l₁ l₂->(∀a b,F a b->G a b)->Paired G l₁ l₂
 |_,_,.nil,_=>.nil
 |_,_,.cons r t,f=>.cons (f _ _ r) (Paired.ZdR t f)
def aN.stay(x:aN P w H h a o)(k:∀b u,(b=a\/H b=some (.own a))->h.get? b=some u->h'.get? b=some u)
 (ho:∀b,H b=some (.own a)->H' b=some (.own a))(ht:∀b xs,H b=some (.tup xs)->H' b=some (.tup xs))(hc:∀b q,H b=some (.GZ q)->H' b=some (.GZ q):=by exact λ_ _ z=>z):aN P w H' h' a o:=by
 induction o with
 |lst xs=>obtain⟨z,its,n,r,e⟩:=x;exact⟨z,its,n,r,k _ _ (.inl rfl) e⟩
 |tup xs=>obtain⟨z,its,r,ob,e,c⟩:=x;exact⟨z,its,r,ob,k _ _ (.inl rfl) e,c⟩
 |dK kvs=>obtain⟨z,y,vs,r,ob,es,ep,e,c⟩:=x;exact⟨z,y,vs,r,ob,es,ep,k _ _ (.inl rfl) e,c⟩
 |dT kvs=>
  obtain⟨z,y,xs,r,ob,es,ep,e,c⟩:=x
  exact⟨z,y,xs,Paired.ZdR r λp q z=>⟨z.1,ht _ _ z.2.1,z.2.2⟩,ob,es,ep,k _ _ (.inl rfl) e,c⟩
 |set S n=>obtain⟨ob,es,ep,t,e,c⟩:=x;exact⟨ob,es,ep,t,k _ _ (.inl rfl) e,c⟩
 |ins C dx fs=>
  obtain⟨d,z,ne,e,mA,⟨od,es,ep,e2,c⟩,r⟩:=x
  exact⟨ho _ d,z,ne,k _ _ (.inl rfl) e,mA,⟨od,es,ep,k _ _ (.inr d) e2,c⟩,r⟩
 |own y=>obtain⟨ob,e⟩:=x;exact⟨ob,k _ _ (.inl rfl) e⟩
 |xd fs=>obtain⟨mA,⟨od,es,ep,e,c⟩,r⟩:=x;exact⟨mA,⟨od,es,ep,k _ _ (.inl rfl) e,c⟩,r⟩
 |rng lo hi=>obtain⟨t,u,v,e⟩:=x;exact⟨t,u,v,k _ _ (.inl rfl) e⟩
 |fL ob u ih=>obtain⟨e,q⟩:=x;exact⟨k _ _ (.inl rfl) e,ih q⟩
 |jk q=>
  obtain⟨ps,e,t,r⟩:=x
  exact⟨ps,k a _ (.inl rfl) e,t,λpos cv z=>let ⟨c,z1,z2⟩:=r pos cv z;⟨c,z1,hc c q z2⟩⟩
 |GZ q=>
  obtain⟨c,o,vs,t,z,e,r⟩:=x
  cases z
  exact⟨a,o,vs,t,rfl,k a _ (.inl rfl) e,r⟩
 |met f y=>
  have e:h.get? a=some (PySem.W.methodObj (.ref f) (.ref y)):=x
  show h'.get? a=some (PySem.W.methodObj (.ref f) (.ref y))
  exact k a _ (.inl rfl) e
 |ext φ=>obtain⟨p,⟨o,e⟩,st⟩:=x;exact⟨st _ _ p λo q=>k _ _ (.inl rfl) q,⟨o,k _ _ (.inl rfl) e⟩,st⟩
theorem kO.lt(x:kO P w H h)(e:H a=some o):a<h.objs.size:=(x a o e).lt
def kO.fresh(x:kO P w H h)(e:h.objs.size<=a):H a=none:=by
 cases q:H a with
 |none=>rfl
 |some u=>exact absurd (Nat.lt_of_lt_of_le (x.lt q) e) (Nat.lt_irrefl _)
def kO.kept(x:kO P w H h)(k:∀b u,h.get? b=some u->h'.get? b=some u):kO P w H h':=λa o e=>
 (x a o e).stay (λb u _ q=>k b u q) (λ_ q=>q) λ_ _ q=>q
def kO.laid(x:kO P w H h)(k:∀b u,h.get? b=some u->h'.get? b=some u)(hp:h.objs.size<=a)(new:aN P w (upd H a o) h' a o):kO P w (upd H a o) h':=λb u e=>by
 have hn:=x.fresh hp
 by_cases hb:b=a
 ·subst hb;rw[ĭ] at e;cases e;exact new
 ·rw[Ğ hb] at e
  exact(x b u e).stay (λc v _ q=>k c v q) (λc q=>by rw[Ğ (į q hn)];exact q) (λc xs q=>by rw[Ğ (į q hn)];exact q) λc xs q=>by rw[Ğ (į q hn)];exact q
end
def Rd(H:Hp)(a:Addr)(u:HO):Prop:=H a=some u\/∃o,H a=some (.fL o u)
def Rd.ok{P:Program}{w:World}{H:Hp}{h:Heap}{a:Addr}{u:HO}(r:Rd H a u)(x:kO P w H h):aN P w H h a u:=by
 rcases r with r|⟨o,r⟩
 ·exact x a u r
 ·obtain⟨_,q⟩:=x a _ r
  exact q
def Mut:Option HO->Prop
 |some (.lst _)=>True
 |some (.dK _)=>True
 |some (.dT _)=>True
 |some (.set _ _)=>True
 |some (.ins _ _ _)=>True
 |some (.ext _)=>True
 |some (.xd _)=>True
 |_=>False
section
variable{P:Program}{w:World}{H:Hp}{h h':Heap}{x e:Addr}{o':HO}
def kO.write(ok:kO P w H h)(mu:Mut (H x))(he:e=x\/H e=some (.own x))(k:∀b u,b≠e->h.get? b=some u->h'.get? b=some u)(heo:∃u,h'.get? e=some u)
 (new:aN P w (upd H x o') h' x o'):kO P w (upd H x o') h':=λb u q=>by
 have ZdS:∀c y,H c=some (.own y)->c≠x:=λc y r z=>by subst z;rw[r] at mu;exact mu
 have Zgf:∀c xs,H c=some (.tup xs)->c≠x:=λc xs r z=>by subst z;rw[r] at mu;exact mu
 have Zgg:∀c q,H c=some (.GZ q)->c≠x:=λc xs r z=>by subst z;rw[r] at mu;exact mu
 by_cases hb:b=x
 ·subst hb;rw[ĭ] at q;cases q;exact new
 ·rw[Ğ hb] at q
  by_cases hbe:b=e
  ·have q':H b=some (.own x):=by
    rcases he with z|z
    ·exact absurd (hbe.trans z) hb
    ·rw[hbe];exact z
   rw[q] at q';cases q'
   obtain⟨v,hv⟩:=heo
   exact⟨v,by rw[hbe];exact hv⟩
  ·refine(ok b u q).stay (λc v hc r=>k c v ?_ r) (λc r=>by rw[Ğ (ZdS c b r)];exact r) (λc xs r=>by rw[Ğ (Zgf c xs r)];exact r) λc xs r=>by rw[Ğ (Zgg c xs r)];exact r
   rcases hc with rfl|hc
   ·exact hbe
   ·rintro rfl
    rcases he with z|z
    ·exact ZdS c b hc z
    ·rw[hc] at z;cases z;exact hb rfl
end
structure Un(fs ex:List Addr)(H H':Hp)(h h':Heap):Prop where
 keep:∀b o,h.get? b=some o->H b=none->b∉fs->b∉ex->h'.get? b=some o
 slot:∀b o,h.get? b=some o->H b=none->b∈fs->b∉ex->∃sl,h'.get? b=some {o with slots:=sl}
 free:∀b o,h.get? b=some o->H b=none->b∉ex->H' b=none
 there:∀b o,h.get? b=some o->b∉ex->∃o',h'.get? b=some o'
 tups:∀b xs,H b=some (.tup xs)->H' b=some (.tup xs)
 tX:∀b o u,H b=some (.fL o u)->H' b=some (.fL o u)
 pA:∀b q,H b=some (.jk q)->H' b=some (.jk q)
section
variable{fs fs' ex ex':List Addr}{H H1 H2:Hp}{h h1 h2 h':Heap}{a x e:Addr}{o:HO}
def Un.any(u:Un fs ex H H1 h h1){b:Addr}{ob:Obj}(q:h.get? b=some ob)(n:H b=none)(hx:b∉ex):∃sl,h1.get? b=some {ob with slots:=sl}:=by
 by_cases hb:b∈fs
 ·exact u.slot b ob q n hb hx
 ·exact⟨ob.slots,u.keep b ob q n hb hx⟩
def Un.kept(k:∀b u,h.get? b=some u->h'.get? b=some u):Un fs ex H H h h':=
 ⟨λb ob q _ _ _=>k b ob q,λb ob q _ _ _=>⟨ob.slots,k b ob q⟩,λ_ _ _ n _=>n,λb ob q _=>⟨ob,k b ob q⟩,λ_ _ q=>q,λ_ _ _ q=>q,λ_ _ q=>q⟩
def Un.refl:Un fs ex H H h h:=Un.kept λ_ _ q=>q
def Un.laid(k:∀b u,h.get? b=some u->h'.get? b=some u)(hp:h.objs.size<=a)(hn:H a=none):Un fs ex H (upd H a o) h h' where
 keep:=λb u q _ _ _=>k b u q
 slot:=λb u q _ _ _=>⟨u.slots,k b u q⟩
 free:=λb u q n _=>by rw[Ğ (Nat.ne_of_lt (Nat.lt_of_lt_of_le (Heap.lt_size q) hp))];exact n
 there:=λb u q _=>⟨u,k b u q⟩
 tups:=λb xs q=>by rw[Ğ (į q hn)];exact q
 tX:=λb u xs q=>by rw[Ğ (į q hn)];exact q
 pA:=λb ps q=>by rw[Ğ (į q hn)];exact q
def Un.write(mu:Mut (H x))(he:e=x\/H e=some (.own x))(k:∀b u,b≠e->h.get? b=some u->h'.get? b=some u)(heo:∃u,h'.get? e=some u):Un fs ex H (upd H x o) h h':=by
 have hx:∀b,H b=none->b≠x:=λb n z=>by subst z;rw[n] at mu;exact mu
 have hb:∀b,H b=none->b≠e:=λb n z=>by
  subst z
  rcases he with r|r
  ·exact hx b n r
  ·rw[n] at r;cases r
 have hm:∀b u,H b=some u->¬Mut (some u)->b≠x:=λb u q nm z=>by subst z;rw[q] at mu;exact nm mu
 refine⟨λb u q n _ _=>k b u (hb b n) q,λb u q n _ _=>⟨u.slots,k b u (hb b n) q⟩,λb u q n _=>by rw[Ğ (hx b n)];exact n,λb u q _=>?_,
  λb xs q=>by rw[Ğ (hm b _ q λz=>z)];exact q,λb u xs q=>by rw[Ğ (hm b _ q λz=>z)];exact q,λb ps q=>by rw[Ğ (hm b _ q λz=>z)];exact q⟩
 by_cases hbe:b=e
 ·subst hbe;exact heo
 ·exact⟨u,k b u hbe q⟩
end
def trk(h:Heap)(H:Hp):List Addr:=(List.range h.objs.size).filter λa=>(H a).isSome
def tY(h:Heap)(H:Hp):Heap:=PySem.W.hideAll h (trk h H)
def G_(h:Heap)(H:Hp):(tY h H).objs.size=h.objs.size:=PySem.W.hideAll_size _ _
def IV{h:Heap}{H:Hp}{b:Addr}{o:Obj}(e:h.get? b=some o)(n:H b=none):(tY h H).get? b=some o:=
 PySem.W.hideAll_get _ e λhm=>by
  have q:(H b).isSome=true:=(List.mem_filter.mp hm).2
  rw[n] at q;simp at q
def PJ{h:Heap}{H:Hp}{b:Addr}{o:Obj}(e:(tY h H).get? b=some o):h.get? b=some o/\H b=none:=by
 have e':h.get? b=some o:=PySem.W.of_hideAll (trk h H) e
 refine⟨e',?_⟩
 cases q:H b with
 |none=>rfl
 |some x=>
  have hm:b∈trk h H:=List.mem_filter.mpr ⟨List.mem_range.mpr (Heap.lt_size e'),by simp[q]⟩
  have z:(tY h H).get? b=none:=PySem.W.hideAll_none (trk h H) hm
  rw[z] at e;cases e
def PK(g h:Heap)(L:Addr):List (Addr×Obj):=(List.range h.objs.size).filterMap λa=>if a=L\/(g.get? a).isSome=true then none else(h.get? a).map λo=>(a,o)
def rest(g h:Heap)(L d:Addr):List (Addr×Obj):=(PK g h L).filter λp=>decide (p.1≠d)
end L2
namespace L2
open PySem PySem.Spec PyProof.Rows
structure Mod(K:PySem.W.Frag)(mg:Str->Option Value)(base:Heap):Prop where
 kin:K.In base
 glob:base.Ns mainGlobals mg
 blt:∃mb,base.Ns builtinsNs mb/\∀x:Str,x≠ "__name__" ->mb x=bootBuiltins x
 nolimit:base.NoLimit
def lams:List Str:=["cheapest"]
abbrev cP(x:Str):Str:=(x ++ ".<locals>.") ++ "<lambda>"
def TabsOk(K:PySem.W.Frag)(mg:Str->Option Value)(base:Heap)(H:Hp):Prop:=∀x c P,x∈lams->PySem.W.tabIn K x=some (c,P)->PySem.W.CodeHd base c P/\H P=some (.jk (cP x))/\base.BuiltinsAt mg P
structure Cx where
 prog:Program
 w:World
 K:PySem.W.Frag
 mg:Str->Option Value
 base:Heap
 A:Around
 N:List Str
 s₀:Shared
 H₀:Hp
 env:Env
 outer:List Env
 stack:List Env
 ex:List Addr
 fn:Str->Bool
 calm:Bool
 pn:List (Addr×Obj)
 xe:Value->Shared->Prop
def frs(l:List Env):List Addr:=l.filterMap (·.frame)
abbrev Cx.fs(X:Cx):List Addr:=frs X.outer
def Bp(sc:Scope)(x:Str):Prop:=sc.names.lookup x=some .local\/sc.names.lookup x=some .cell\/sc.names.lookup x=some .free
def Loc(sc:Scope)(x:Str):Prop:=sc.names.lookup x=some .local\/sc.names.lookup x=some .cell
def Look(env:Env)(h:Heap)(m:Str->Option Value)(x:Str)(u:Value):Prop:=
 (env.kindOf x=some .local/\m x=some u)\/((env.kindOf x=some .cell\/env.kindOf x=some .free)/\∃c,env.cells.lookup x=some c/\h.IsCell c (some u))
structure Cx.Ok(X:Cx):Prop where
 mod:Mod X.K X.mg X.base
 kind:X.env.scope.kind=.function
 glob:X.env.globals=mainGlobals
 blt:X.env.builtins=builtinsNs
 above:X.s₀.heap.objs.size<=X.env.locals
 inj:∀x y c,X.env.cells.lookup x=some c->X.env.cells.lookup y=some c->x=y
 has:∀x,(X.env.kindOf x=some .cell\/X.env.kindOf x=some .free)->∃c,X.env.cells.lookup x=some c
 cab:∀x c,X.fn x=true->X.env.cells.lookup x=some c->X.s₀.heap.objs.size<=c
 hd:X.calm=true->X.A.handled=none
 frames:X.A.frames=some X.stack
 stk:X.stack=X.outer\/(X.stack=X.env::X.outer/\X.env.frame=some X.env.locals)
 exf:∀b∈X.ex,b≠X.env.locals/\∀x c,X.env.cells.lookup x=some c->c≠b
 bs:∀b o,X.base.get? b=some o->X.s₀.heap.get? b=some o/\X.H₀ b=none
 Pk:X.base.objs.size<=X.s₀.heap.objs.size
 Hf:∀b o,X.base.get? b=some o->b∉X.ex
 PL:∀b∈X.ex,b∉X.fs
 pB:X.s₀.heap.FunFrames X.base X.outer
 frf:∀b∈X.fs,X.H₀ b=none
 tb:TabsOk X.K X.mg X.base X.H₀
structure Inv(X:Cx)(pins:List (Addr×Obj))(σ:List (Option V))(H:Hp)(s:Shared):Prop where
 ok:X.Ok
 os:s.os=X.s₀.os
 bare:AllBare s.gens
 base:Un X.fs X.ex X.H₀ H X.s₀.heap s.heap
 loc:∃m,s.heap.Ns X.env.locals m/\∀(i:Nat) (x:Str) (v:V),X.N[i]?=some x->σ[i]?=some (some v)->Bp X.env.scope x->∃u,RelV v u/\Look X.env s.heap m x u
 cell:∀x c,X.env.cells.lookup x=some c->∃v,s.heap.IsCell c v
 free:H X.env.locals=none
 h_:∀x c,X.env.cells.lookup x=some c->H c=none
 pin:∀p∈X.pn++pins,s.heap.get? p.1=some p.2/\H p.1=none/\p.1≠X.env.locals/\p.1∉X.fs/\∀v,p.2.data≠ .cell v
 hok:kO X.prog X.w H s.heap
 len:σ.length=X.N.length
section
variable{X:Cx}{pins:List (Addr×Obj)}{σ:List (Option V)}{H H':Hp}{s:Shared}{h':Heap}
def Cx.Ok.Zgh(ok:X.Ok){b:Addr}{o:Obj}(e:X.base.get? b=some o):b∉X.fs:=λhb=>by
 have:=(ok.pB.mem hb).1
 rw[e] at this;cases this
theorem Inv.bs(I:Inv X pins σ H s):∀b o,X.base.get? b=some o->s.heap.get? b=some o/\H b=none:=λb o e=>
 ⟨I.base.keep b o (I.ok.bs b o e).1 (I.ok.bs b o e).2 (I.ok.Zgh e) (I.ok.Hf b o e),I.base.free b o (I.ok.bs b o e).1 (I.ok.bs b o e).2 (I.ok.Hf b o e)⟩
def Inv.bk(I:Inv X pins σ H s):∀b o,X.base.get? b=some o->s.heap.get? b=some o:=λb o e=>(I.bs b o e).1
theorem Inv.tb(I:Inv X pins σ H s):TabsOk X.K X.mg X.base H:=λx c P hx e=>⟨(I.ok.tb x c P hx e).1,I.base.pA _ _ (I.ok.tb x c P hx e).2.1,(I.ok.tb x c P hx e).2.2⟩
theorem Inv.mod(I:Inv X pins σ H s):Mod X.K X.mg X.base:=I.ok.mod
def Inv.nU(I:Inv X pins σ H s):X.K.In s.heap:=I.ok.mod.kin.keeps I.bk
theorem Inv.nolimit(I:Inv X pins σ H s):s.heap.NoLimit:=I.ok.mod.nolimit.keeps I.bk
theorem Inv.lt(I:Inv X pins σ H s):X.env.locals<s.heap.objs.size:=let ⟨_,hn,_⟩:=I.loc;hn.lt
def Inv.sz(I:Inv X pins σ H s):X.s₀.heap.objs.size<=s.heap.objs.size:=Nat.le_trans I.ok.above (Nat.le_of_lt I.lt)
def Inv.Zgi(I:Inv X pins σ H s){a:Addr}(h:s.heap.objs.size<=a):a∉X.fs:=λhb=>by
 obtain⟨_,o,ho,_⟩:=I.ok.pB.mem hb
 exact absurd (Nat.lt_of_lt_of_le (Heap.lt_size ho) (Nat.le_trans I.sz h)) (Nat.lt_irrefl _)
def Inv.cne(I:Inv X pins σ H s):∀x c,X.env.cells.lookup x=some c->c≠X.env.locals:=λx c e z=>by
 obtain⟨v,o,ho,hd⟩:=I.cell x c e
 obtain⟨m,⟨o',es,ep,ho',hd',_⟩,_⟩:=I.loc
 rw[z,ho'] at ho;cases ho;rw[hd'] at hd;cases hd
theorem Inv.pB(I:Inv X pins σ H s):s.heap.FunFrames X.base X.outer:=by
 have all:∀(l:List Env),(∀b∈frs l,b∈X.fs)->X.s₀.heap.FunFrames X.base l->s.heap.FunFrames X.base l:=by
  intro l
  induction l with
  |nil=>intro _ _;trivial
  |cons env r ih=>
   intro hs hl
   obtain⟨hk,⟨L,o,hf,hn,ho,hd⟩,hr⟩:=hl
   have hL:L∈X.fs:=hs L (by unfold frs;rw[List.filterMap_cons,hf];exact List.mem_cons_self)
   obtain⟨sl,e⟩:=I.base.slot L o ho (I.ok.frf L hL) hL λz=>I.ok.PL L z hL
   exact⟨hk,⟨L,_,hf,hn,e,hd⟩,ih (λb hb=>hs b (by unfold frs;rw[List.filterMap_cons,hf];exact List.mem_cons_of_mem _ hb)) hr⟩
 exact all X.outer (λ_ hb=>hb) I.ok.pB
theorem Inv.stack(I:Inv X pins σ H s):s.heap.FunFrames X.base X.stack:=by
 rcases I.ok.stk with e|⟨e,hf⟩
 ·rw[e];exact I.pB
 ·rw[e]
  obtain⟨m,hn,_⟩:=I.loc
  refine .cons (by rw[I.ok.kind];decide) hf hn ?_ I.pB
  exact Heap.get?_none_of_le (Nat.le_trans I.ok.Pk I.ok.above)
def Inv.qt(I:Inv X pins σ H s):∀b∈frs X.stack,b∈X.env.locals::X.fs:=λb hb=>by
 rcases I.ok.stk with e|⟨e,hf⟩
 ·rw[e] at hb;exact List.mem_cons_of_mem _ hb
 ·rw[e] at hb
  unfold frs at hb
  rw[List.filterMap_cons,hf] at hb
  exact hb
def Inv.vW(I:Inv X pins σ H s):∀b∈frs X.stack,H b=none:=λb hb=>by
 rcases List.mem_cons.mp (I.qt b hb) with e|hb
 ·rw[e];exact I.free
 ·obtain⟨_,o,ho,_⟩:=I.ok.pB.mem hb
  exact I.base.free b o ho (I.ok.frf b hb) λz=>I.ok.PL b z hb
def Inv.step{g':Array GenState}{t':Nat}{d':Drawn}{ch:List Addr}(I:Inv X pins σ H s)
 (hch:∀b∈ch,(b∈X.ex\/X.s₀.heap.objs.size<=b)/\b≠X.env.locals/\(∀x c,X.env.cells.lookup x=some c->c≠b)/\∀p∈X.pn++pins,p.1≠b)
 (keep:∀b o,b≠X.env.locals->b∉X.fs->b∉ch->s.heap.get? b=some o->H b=none->h'.get? b=some o)
 (slot:∀b o,b≠X.env.locals->b∈X.fs->b∉ch->s.heap.get? b=some o->H b=none->∃sl,h'.get? b=some {o with slots:=sl})(free:∀b o,b∉ch->s.heap.get? b=some o->H b=none->H' b=none)
 (there:∀b o,b∉ch->s.heap.get? b=some o->∃o',h'.get? b=some o')
 (tups:∀b xs,H b=some (.tup xs)->H' b=some (.tup xs))(tX:∀b o u,H b=some (.fL o u)->H' b=some (.fL o u))(pA:∀b q,H b=some (.jk q)->H' b=some (.jk q))
 (ns:∀m,s.heap.Ns X.env.locals m->h'.Ns X.env.locals m)(hok:kO X.prog X.w H' h')(hg:AllBare g') :
 Inv X pins σ H' {s with heap:=h',gens:=g',drawn:=d',toks:=t'}:=by
 have neL:∀b o,X.s₀.heap.get? b=some o->b≠X.env.locals:=λb o e=>Nat.ne_of_lt (Nat.lt_of_lt_of_le (Heap.lt_size e) I.ok.above)
 have neC:∀b o,X.s₀.heap.get? b=some o->b∉X.ex->b∉ch:=λb o e hx hb=>by
  rcases(hch b hb).1 with z|z
  ·exact hx z
  ·exact absurd (Nat.lt_of_lt_of_le (Heap.lt_size e) z) (Nat.lt_irrefl _)
 have cellK:∀x c,X.env.cells.lookup x=some c->∀v,s.heap.IsCell c v->h'.IsCell c v:=λx c e v ⟨o,ho,hd⟩=>by
  have nch:c∉ch:=λz=>(hch c z).2.2.1 x c e rfl
  by_cases hc:c∈X.fs
  ·obtain⟨sl,q⟩:=slot c o (I.cne x c e) hc nch ho (I.h_ x c e)
   exact⟨_,q,hd⟩
  ·exact⟨o,keep c o (I.cne x c e) hc nch ho (I.h_ x c e),hd⟩
 refine⟨I.ok,I.os,hg,⟨λb o e n hb hx=>?_,λb o e n hb hx=>?_,λb o e n hx=>?_,λb o e hx=>?_,λb xs e=>tups b xs (I.base.tups b xs e),λb o xs e=>tX b o xs (I.base.tX b o xs e),λb ps e=>?_⟩,?_,λx c e=>?_,?_,λx c e=>?_,λp hp=>?_,hok,I.len⟩
 ·exact keep b o (neL b o e) hb (neC b o e hx) (I.base.keep b o e n hb hx) (I.base.free b o e n hx)
 ·obtain⟨sl,e1⟩:=I.base.slot b o e n hb hx
  obtain⟨sl',e2⟩:=slot b _ (neL b o e) hb (neC b o e hx) e1 (I.base.free b o e n hx)
  exact⟨sl',e2⟩
 ·obtain⟨o',e1⟩:=I.base.there b o e hx
  exact free b o' (neC b o e hx) e1 (I.base.free b o e n hx)
 ·obtain⟨o',e1⟩:=I.base.there b o e hx
  exact there b o' (neC b o e hx) e1
 ·exact pA b ps (I.base.pA b ps e)
 ·obtain⟨m,hn,hl⟩:=I.loc
  refine⟨m,ns m hn,λi x v e1 e2 e3=>?_⟩
  obtain⟨u,r,l⟩:=hl i x v e1 e2 e3
  refine⟨u,r,?_⟩
  rcases l with l|⟨k,c,e,z⟩
  ·exact .inl l
  ·exact .inr ⟨k,c,e,cellK x c e _ z⟩
 ·obtain⟨v,z⟩:=I.cell x c e
  exact⟨v,cellK x c e v z⟩
 ·obtain⟨m,⟨o,_,_,ho,_⟩,_⟩:=I.loc
  exact free _ o (λz=>(hch _ z).2.1 rfl) ho I.free
 ·obtain⟨v,o,ho,hd⟩:=I.cell x c e
  exact free c o (λz=>(hch c z).2.2.1 x c e rfl) ho (I.h_ x c e)
 ·obtain⟨e,n,ne,nf,d⟩:=I.pin p hp
  have nch:p.1∉ch:=λz=>(hch p.1 z).2.2.2 p hp rfl
  exact⟨keep p.1 p.2 ne nf nch e n,free p.1 p.2 nch e n,ne,nf,d⟩
def Inv.un{t':Nat}(I:Inv X pins σ H s)(u:Un X.fs [] H H' s.heap h')(hok:kO X.prog X.w H' h'):Inv X pins σ H' {s with heap:=h',toks:=t'}:=by
 obtain⟨m,⟨o,es,ep,ho,r⟩,_⟩:=id I.loc
 obtain⟨sl,hL⟩:=u.any ho I.free (by simp)
 exact I.step (g':=s.gens) (d':=s.drawn) (ch:=[]) (λ_ z=>nomatch z) (λb o _ hb _ e n=>u.keep b o e n hb (by simp)) (λb o _ hb _ e n=>u.slot b o e n hb (by simp)) (λb o _ e n=>u.free b o e n (by simp)) (λb o _ e=>u.there b o e (by simp)) u.tups u.tX u.pA (λm' hm=>by
  obtain⟨o',es',ep',ho',r'⟩:=hm
  rw[ho] at ho';cases ho'
  exact⟨_,es',ep',hL,r'⟩) hok I.bare
def Inv.call{g':Array GenState}{t':Nat}{d':Drawn}{ch:List Addr}(I:Inv X pins σ H s)(u:Un (frs X.stack) ch H H' s.heap h')(hok:kO X.prog X.w H' h')(hg:AllBare g')
 (hch:∀b∈ch,(b∈X.ex\/X.s₀.heap.objs.size<=b)/\b≠X.env.locals/\(∀x c,X.env.cells.lookup x=some c->c≠b)/\∀p∈X.pn++pins,p.1≠b) :
 Inv X pins σ H' {s with heap:=h',gens:=g',drawn:=d',toks:=t'}:=by
 obtain⟨m,⟨o,es,ep,ho,r⟩,_⟩:=id I.loc
 obtain⟨sl,hL⟩:=u.any ho I.free λz=>(hch _ z).2.1 rfl
 exact I.step (ch:=ch) hch (λb o hL hb hc e n=>u.keep b o e n (λz=>(List.mem_cons.mp (I.qt b z)).elim hL hb) hc) (λb o _ _ hc e n=>u.any e n hc) (λb o hc e n=>u.free b o e n hc) (λb o hc e=>u.there b o e hc) u.tups u.tX u.pA (λm' hm=>by
  obtain⟨o',es',ep',ho',r'⟩:=hm
  rw[ho] at ho';cases ho'
  exact⟨_,es',ep',hL,r'⟩) hok hg
def Inv.turned{t':Nat}{it:Addr}(I:Inv X pins σ H s)(k:∀b o,b≠it->s.heap.get? b=some o->h'.get? b=some o)(hn:H it=none)(hL:it≠X.env.locals)
 (h1:it∈X.ex\/X.s₀.heap.objs.size<=it)(h2:∀x c,X.env.cells.lookup x=some c->c≠it)(h3:∀p∈X.pn++pins,p.1≠it):Inv X pins σ H {s with heap:=h',toks:=t'}:=by
 have nit:∀b u,H b=some u->b≠it:=λb u e z=>by rw[z,hn] at e;cases e
 refine I.step (g':=s.gens) (d':=s.drawn) (ch:=[it]) (λb hb=>?_) (λb o _ _ hc e _=>k b o (λz=>hc (by simp[z])) e) (λb o _ _ hc e _=>⟨o.slots,k b o (λz=>hc (by simp[z])) e⟩) (λ_ _ _ _ n=>n)
  (λb o hc e=>⟨o,k b o (λz=>hc (by simp[z])) e⟩) (λ_ _ e=>e) (λ_ _ _ e=>e) (λ_ _ e=>e) (λm hm=>?_) (λb u e=>?_) I.bare
 ·have e:b=it:=by simpa using hb
  subst e
  exact⟨h1,hL,h2,h3⟩
 ·obtain⟨o,es,ep,ho,r⟩:=hm
  exact⟨o,es,ep,k _ o (Ne.symm hL) ho,r⟩
 ·refine(I.hok b u e).stay (λc v hc q=>k c v ?_ q) (λ_ q=>q) λ_ _ q=>q
  rcases hc with z|z
  ·rw[z];exact nit b u e
  ·exact nit c _ z
def Inv.tok(I:Inv X pins σ H s)(t:Nat):Inv X pins σ H {s with toks:=t}:=I.un (h':=s.heap) (t':=t) Un.refl I.hok
theorem Inv.kept{t':Nat}(I:Inv X pins σ H s)(k:∀b u,s.heap.get? b=some u->h'.get? b=some u):Inv X pins σ H {s with heap:=h',toks:=t'}:=I.un (Un.kept k) (I.hok.kept k)
theorem Inv.laid{a:Addr}{o:HO}{t':Nat}(I:Inv X pins σ H s)(k:∀b u,s.heap.get? b=some u->h'.get? b=some u)(hp:s.heap.objs.size<=a)(new:aN X.prog X.w (upd H a o) h' a o) :
 Inv X pins σ (upd H a o) {s with heap:=h',toks:=t'}:=I.un (Un.laid k hp (I.hok.fresh hp)) (I.hok.laid k hp new)
theorem Inv.write{x e:Addr}{o:HO}{t':Nat}(I:Inv X pins σ H s)(mu:Mut (H x))(he:e=x\/H e=some (.own x))(k:∀b u,b≠e->s.heap.get? b=some u->h'.get? b=some u)(heo:∃u,h'.get? e=some u)
 (new:aN X.prog X.w (upd H x o) h' x o):Inv X pins σ (upd H x o) {s with heap:=h',toks:=t'}:=I.un (Un.write mu he k heo) (I.hok.write mu he k heo new)
def Inv.E_{jz:List (Addr×Obj)}(I:Inv X pins σ H s)(h:∀p∈jz,s.heap.get? p.1=some p.2/\H p.1=none/\p.1≠X.env.locals/\p.1∉X.fs/\∀v,p.2.data≠ .cell v):Inv X jz σ H s:=
 ⟨I.ok,I.os,I.bare,I.base,I.loc,I.cell,I.free,I.h_,λp hp=>(List.mem_append.mp hp).elim (λz=>I.pin p (List.mem_append_left _ z)) (h p),I.hok,I.len⟩
def yZ{N:List Str}(hN:N.Nodup){i j:Nat}{x:Str}(a:N[i]?=some x)(b:N[j]?=some x):i=j:=by
 obtain⟨h1,e1⟩:=List.getElem?_eq_some_iff.mp a
 obtain⟨h2,e2⟩:=List.getElem?_eq_some_iff.mp b
 exact(List.getElem_inj hN).mp (e1.trans e2.symm)
def uz{M:Model}{A:Around}{E:Value->Shared->Prop}{i:Nat}{x:Str}{v:V}{u:Value}{Q:Unit->Shared->Prop}(I:Inv X pins σ H s)(hN:X.N.Nodup)(hi:X.N[i]?=some x)(hx:Loc X.env.scope x)(r:RelV v u)
 (h:∀s',Inv X pins (σ.set i (some v)) H s'->(∃a,Heap.SameBut a s.heap s'.heap/\(a=X.env.locals\/X.env.cells.lookup x=some a))->Q () s')(hf:X.fn x=true\/X.env.scope.names.lookup x=some .local:=by first|exact .inl rfl|exact .inr rfl|assumption):wpAny M A (storeName X.env x u) Q E s:=by
 obtain⟨m,hn,hl⟩:=id I.loc
 have hcls:(X.env.scope.kind== .class || (X.env.scope.kind== .module && X.env.locals != X.env.globals))=false:=by rw[I.ok.kind];rfl
 have ZhW:i < σ.length:=by rw[I.len];exact(List.getElem?_eq_some_iff.mp hi).1
 have cne:=I.cne
 have tracked:∀{a:Addr} {h':Heap},(∃o,s.heap.get? a=some o/\H a=none)->Heap.SameBut a s.heap h'->kO X.prog X.w H h':=fun{a h'} ha hs b ob e=>by
  obtain⟨_,_,hfree⟩:=ha
  refine(I.hok b ob e).stay (λc w' hc q=>(hs.2 c ?_).trans q) (λ_ q=>q) λ_ _ q=>q
  rintro rfl
  rcases hc with rfl|hc
  ·rw[hfree] at e;cases e
  ·rw[hfree] at hc;cases hc
 rcases hx with hk|hk
 ·refine wpAny_storeName_local hk hn (λh' hn' hs=>?_) hcls
  obtain⟨oL,_,_,hoL,_⟩:=id hn
  refine h _ ⟨I.ok,I.os,I.bare,⟨λb o e n hb hx=>?_,λb o e n hb hx=>?_,I.base.free,λb o e hx=>?_,I.base.tups,I.base.tX,I.base.pA⟩,⟨_,hn',λj y v' e1 e2 e3=>?_⟩,λy c e=>?_,I.free,I.h_,λp hp=>?_,tracked ⟨oL,hoL,I.free⟩ hs,by simpa using I.len⟩ ⟨_,hs,.inl rfl⟩
  ·exact(hs.2 b (Nat.ne_of_lt (Nat.lt_of_lt_of_le (Heap.lt_size e) I.ok.above))).trans (I.base.keep b o e n hb hx)
  ·obtain⟨sl,e1⟩:=I.base.slot b o e n hb hx
   exact⟨sl,(hs.2 b (Nat.ne_of_lt (Nat.lt_of_lt_of_le (Heap.lt_size e) I.ok.above))).trans e1⟩
  ·obtain⟨o',e1⟩:=I.base.there b o e hx
   exact⟨o',(hs.2 b (Nat.ne_of_lt (Nat.lt_of_lt_of_le (Heap.lt_size e) I.ok.above))).trans e1⟩
  ·by_cases hj:j=i
   ·subst hj
    rw[hi] at e1;cases e1
    rw[List.getElem?_set_self ZhW] at e2
    cases e2
    exact⟨u,r,.inl ⟨hk,by simp⟩⟩
   ·rw[List.getElem?_set_ne (Ne.symm hj)] at e2
    obtain⟨u',r',q⟩:=hl j y v' e1 e2 e3
    refine⟨u',r',?_⟩
    rcases q with⟨k,e⟩|⟨k,c,e,z⟩
    ·refine .inl ⟨k,?_⟩
     have:y≠x:=λe=>hj (yZ hN e1 (e▸hi))
     simp[this,e]
    ·exact .inr ⟨k,c,e,z.sameBut hs (cne y c e)⟩
  ·obtain⟨w',z⟩:=I.cell y c e
   exact⟨w',z.sameBut hs (cne y c e)⟩
  ·obtain⟨e,n,ne,nf,d⟩:=I.pin p hp
   exact⟨(hs.2 p.1 ne).trans e,n,ne,nf,d⟩
 ·have hfn:X.fn x=true:=by
   rcases hf with z|z
   ·exact z
   ·rw[z] at hk;cases hk
  obtain⟨c,hc⟩:=I.ok.has x (.inl hk)
  obtain⟨w',z⟩:=I.cell x c hc
  refine wpAny_storeName_cell I.ok.kind hk hc z (λh' hc' hs=>?_)
  obtain⟨oc,hoc,Zgj⟩:=id z
  refine h {s with heap:=h'} ⟨I.ok,I.os,I.bare,⟨λb o e n hb hx=>?_,λb o e n hb hx=>?_,I.base.free,λb o e hx=>?_,I.base.tups,I.base.tX,I.base.pA⟩,⟨m,hn.sameBut hs (Ne.symm (cne x c hc)),λj y v' e1 e2 e3=>?_⟩,λy c' e=>?_,I.free,I.h_,λp hp=>?_,tracked ⟨oc,hoc,I.h_ x c hc⟩ hs,by simpa using I.len⟩ ⟨c,hs,.inr hc⟩
  ·exact(hs.2 b (Nat.ne_of_lt (Nat.lt_of_lt_of_le (Heap.lt_size e) (I.ok.cab x c hfn hc)))).trans (I.base.keep b o e n hb hx)
  ·obtain⟨sl,e1⟩:=I.base.slot b o e n hb hx
   exact⟨sl,(hs.2 b (Nat.ne_of_lt (Nat.lt_of_lt_of_le (Heap.lt_size e) (I.ok.cab x c hfn hc)))).trans e1⟩
  ·obtain⟨o',e1⟩:=I.base.there b o e hx
   exact⟨o',(hs.2 b (Nat.ne_of_lt (Nat.lt_of_lt_of_le (Heap.lt_size e) (I.ok.cab x c hfn hc)))).trans e1⟩
  ·by_cases hj:j=i
   ·subst hj
    rw[hi] at e1;cases e1
    rw[List.getElem?_set_self ZhW] at e2
    cases e2
    exact⟨u,r,.inr ⟨.inl hk,c,hc,hc'⟩⟩
   ·rw[List.getElem?_set_ne (Ne.symm hj)] at e2
    obtain⟨u',r',q⟩:=hl j y v' e1 e2 e3
    refine⟨u',r',?_⟩
    rcases q with q|⟨k,c',e,z'⟩
    ·exact .inl q
    ·refine .inr ⟨k,c',e,z'.sameBut hs ?_⟩
     rintro rfl
     exact hj (yZ hN e1 (I.ok.inj _ _ _ e hc▸hi))
  ·by_cases hcc:c'=c
   ·subst hcc;exact⟨_,hc'⟩
   ·obtain⟨w2,z2⟩:=I.cell y c' e
    exact⟨w2,z2.sameBut hs hcc⟩
  ·obtain⟨e,n,ne,nf,d⟩:=I.pin p hp
   refine⟨(hs.2 p.1 ?_).trans e,n,ne,nf,d⟩
   intro q
   rw[q,hoc] at e
   have q':oc=p.2:=Option.some.inj e
   exact d w' (by rw[<-q'];exact Zgj)
def qu{M:Model}{A:Around}{E:Value->Shared->Prop}{i:Nat}{x:Str}{v:V}{u:Value}{Q:Unit->Shared->Prop}(I:Inv X pins σ H s)(hN:X.N.Nodup)(hi:X.N[i]?=some x)(hx:Loc X.env.scope x)(r:RelV v u)
 (h:∀s',Inv X pins (σ.set i (some v)) H s'->Q () s')(hf:X.fn x=true\/X.env.scope.names.lookup x=some .local:=by first|exact .inl rfl|exact .inr rfl|assumption):wpAny M A (storeName X.env x u) Q E s:=
 uz I hN hi hx r (λs' I' _=>h s' I') hf
def Inv.call'{s':Shared}{ch:List Addr}(I:Inv X pins σ H s)(ho:s'.os=s.os)(u:Un (frs X.stack) ch H H' s.heap s'.heap)(hok:kO X.prog X.w H' s'.heap)(hg:AllBare s'.gens)
 (hch:∀b∈ch,(b∈X.ex\/X.s₀.heap.objs.size<=b)/\b≠X.env.locals/\(∀x c,X.env.cells.lookup x=some c->c≠b)/\∀p∈X.pn++pins,p.1≠b):Inv X pins σ H' s':=by
 obtain⟨h',g',d',t',o'⟩:=s'
 have e:o'=s.os:=ho
 subst e
 exact I.call (g':=g') (t':=t') (d':=d') u hok hg hch
end
abbrev XK:=Value->Option Addr->Hp->Prop
abbrev St:=List (Option V)
abbrev VK:=V->Hp->Prop
abbrev TE:=St->Hp->VK->Prop
abbrev TT:=St->Hp->(Bool->Hp->Prop)->Prop
abbrev TA:=St->Hp->(List V->Hp->Prop)->Prop
structure Ends where
 nx:St->Hp->Prop
 rt:VK
 bk:St->Hp->Prop:=λ_ _=>False
 ct:St->Hp->Prop:=λ_ _=>False
abbrev TS:=Ends->St->Hp->Prop
def EP(X:Cx)(pins:List (Addr×Obj))(σ:St)(Q:VK)(u:Value)(s':Shared):Prop:=∃v H',Inv X pins σ H' s'/\RelV v u/\Q v H'
def TP(X:Cx)(pins:List (Addr×Obj))(σ:St)(Q:Bool->Hp->Prop)(b:Bool)(s':Shared):Prop:=∃H',Inv X pins σ H' s'/\Q b H'
def AP(X:Cx)(pins:List (Addr×Obj))(σ:St)(Q:List V->Hp->Prop)(us:List Value)(s':Shared):Prop:=∃vs H',Inv X pins σ H' s'/\Vals vs us/\Q vs H'
def SP(X:Cx)(pins:List (Addr×Obj))(D:Ends)(f:Flow)(s':Shared):Prop:=
 match f with
 | .next=>∃σ' H',Inv X pins σ' H' s'/\D.nx σ' H'
 | .brk=>∃σ' H',Inv X pins σ' H' s'/\D.bk σ' H'
 | .cont=>∃σ' H',Inv X pins σ' H' s'/\D.ct σ' H'
 | .ret u=>∃v σ' H',Inv X pins σ' H' s'/\RelV v u/\D.rt v H'
def PE(X:Cx)(e:Expr)(t:TE):Prop:=
 ∀(pins:List (Addr×Obj)) (s:Shared) (σ:St) (H:Hp) (Q:VK),Inv X pins σ H s->t σ H Q->wpAny (model X.prog X.w) X.A (eval e X.env) (EP X pins σ Q) X.xe s
def PT(X:Cx)(e:Expr)(t:TT):Prop:=
 ∀(pins:List (Addr×Obj)) (s:Shared) (σ:St) (H:Hp) (Q:Bool->Hp->Prop),Inv X pins σ H s->t σ H Q->wpAny (model X.prog X.w) X.A (isTrue e X.env (eval e X.env)) (TP X pins σ Q) X.xe s
def PW(X:Cx)(e:Expr)(t:TT):Prop:=
 ∀(whole:Sem Value) (pins:List (Addr×Obj)) (s:Shared) (σ:St) (H:Hp) (Q:Bool->Hp->Prop),Inv X pins σ H s->t σ H Q->wpAny (model X.prog X.w) X.A (isTrue e X.env whole) (TP X pins σ Q) X.xe s
def PW.pt{X:Cx}{e:Expr}{t:TT}(h:PW X e t):PT X e t:=h _
def PA(X:Cx)(es:List Expr)(t:TA):Prop:=
 ∀(pos:Pos) (pins:List (Addr×Obj)) (s:Shared) (σ:St) (H:Hp) (Q:List V->Hp->Prop),Inv X pins σ H s->t σ H Q->wpAny (model X.prog X.w) X.A (spliced (backTo pos (starEach es X.env))) (AP X pins σ Q) X.xe s
def PS(X:Cx)(st:Stmt)(t:TS):Prop:=
 ∀(pins:List (Addr×Obj)) (s:Shared) (σ:St) (H:Hp) (D:Ends),Inv X pins σ H s->t D σ H->wpAny (model X.prog X.w) X.A (exec st X.env) (SP X pins D) X.xe s
def jw(X:Cx)(st:List Stmt)(t:TS):Prop:=
 ∀(pins:List (Addr×Obj)) (s:Shared) (σ:St) (H:Hp) (D:Ends),Inv X pins σ H s->t D σ H->wpAny (model X.prog X.w) X.A (execs st X.env) (SP X pins D) X.xe s
def Ť{α:Type}{t:Sem α}{Q Q':α->Shared->Prop}{M:Model}{A:Around}{E:Value->Shared->Prop}{s:Shared}(h:wpAny M A t Q E s)(hQ:∀a s,Q a s->Q' a s):wpAny M A t Q' E s:=wpAny_mono h hQ λ_ _ x=>x
end L2
namespace L2
open PySem PySem.Spec PyProof.Rows
section
variable{X:Cx}
def Bq(i:Nat):TE:=λσ H Q=>∃v,σ[i]?=some (some v)/\Q v H
def tC(v:V):TE:=λ_ H Q=>Q v H
def fM{i:Nat}{x:Str}{pos:Pos}(hN:X.N[i]?=some x)(hv:Bp X.env.scope x)(hd:(x== ("__debug__" :Str))=false:=by decide)(hcd:(x== ("__classdict__" :Str))=false:=by decide):PE X (.Name x pos) (Bq i):=by
 intro pins s σ H Q I h
 obtain⟨v,e,h⟩:=h
 obtain⟨m,hn,hl⟩:=I.loc
 obtain⟨u,r,l⟩:=hl i x v hN e hv
 have fin:EP X pins σ Q u s:=⟨v,H,I,r,h⟩
 rcases l with⟨hk,hm⟩|⟨hk,c,hc,hcell⟩
 ·exact wpAny_Name (wpAny_loadName_local I.ok.kind hk hn hm fin) hd
 ·rcases hk with hk|hk
  ·exact wpAny_Name (wpAny_loadName_cell I.ok.kind hk hc hcell fin) hd
  ·exact wpAny_Name (wpAny_loadName_free I.ok.kind hk hc hcell fin hcd) hd
def Za0{i j pos}:PE X (.Constant (.int i) j pos) (tC (.int i)):=λ_ _ _ H _ I h=>wpAny_Constant_int ⟨.int i,H,I.tok _,⟨_,rfl⟩,h⟩
def ZdT{b j pos}:PE X (.Constant (.bool b) j pos) (tC (.bl b)):=λ_ _ _ H _ I h=>Constant_bool ⟨.bl b,H,I,rfl,h⟩
def Za1{j pos}:PE X (.Constant .none j pos) (tC .non):=λ_ _ _ H _ I h=>Constant_none ⟨.non,H,I,rfl,h⟩
def Za2{x j pos}:PE X (.Constant (.str x) j pos) (tC (.str x)):=λ_ _ _ H _ I h=>Calls.Constant_str ⟨.str x,H,I.tok _,⟨_,rfl⟩,h⟩
def Gl(X:Cx)(x:Str):Prop:=X.env.kindOf x=some .globalImplicit
def vX{E:Value->Shared->Prop}{pins:List (Addr×Obj)}{s:Shared}{σ:St}{H:Hp}{x:Str}{u:Value}{pos:Pos}{Q:Value->Shared->Prop}(I:Inv X pins σ H s)(hg:Gl X x)(hm:X.mg x=some u)(h:Q u s)
 (hd:(x== ("__debug__" :Str))=false:=by decide):wpAny (model X.prog X.w) X.A (eval (.Name x pos) X.env) Q E s:=
 Calls.Name_function_global I.ok.kind hg (Calls.loadGlobal_global (by rw[I.ok.glob];exact I.mod.glob.keeps I.bk) hm h) hd
def jR{E:Value->Shared->Prop}{pins:List (Addr×Obj)}{s:Shared}{σ:St}{H:Hp}{x:Str}{u:Value}{pos:Pos}{Q:Value->Shared->Prop}(I:Inv X pins σ H s)(hg:Gl X x)(hm:X.mg x=none)(hv:bootBuiltins x=some u)(h:Q u s)
 (hn:x≠ "__name__" := by decide)(hd:(x== ("__debug__" :Str))=false:=by decide):wpAny (model X.prog X.w) X.A (eval (.Name x pos) X.env) Q E s:=by
 obtain⟨mb,h1,h2⟩:=I.mod.blt
 exact Calls.Name_function_global I.ok.kind hg (Calls.loadGlobal_builtin (by rw[I.ok.glob];exact I.mod.glob.keeps I.bk) hm (by rw[I.ok.blt];exact h1.keeps I.bk) ((h2 x hn).trans hv) h) hd
def pX{x:Str}{v:V}{u:Value}{pos:Pos}(hg:Gl X x)(hm:X.mg x=some u)(r:RelV v u)(hd:(x== ("__debug__" :Str))=false:=by decide):PE X (.Name x pos) (tC v):=
 λ_ _ _ H _ I h=>vX I hg hm ⟨v,H,I,r,h⟩ hd
def pY{x:Str}{v:V}{u:Value}{pos:Pos}(hg:Gl X x)(hm:X.mg x=none)(hv:bootBuiltins x=some u)(r:RelV v u)(hn:x≠ "__name__" := by decide)(hd:(x== ("__debug__" :Str))=false:=by decide):PE X (.Name x pos) (tC v):=
 λ_ _ _ H _ I h=>jR I hg hm hv ⟨v,H,I,r,h⟩ hn hd
variable{a b:Expr}{ta tb:TE}{pos:Pos}
variable{tA tB':TT}{rest:List Expr}
def Zgk(t u:TT):TT:=λσ H Q=>t σ H λc H1=>if c=true then u σ H1 Q else Q false H1
def tOr(t u:TT):TT:=λσ H Q=>t σ H λc H1=>if c=true then Q true H1 else u σ H1 Q
def Zgl(t:TT):TT:=λσ H Q=>t σ H λc H1=>Q (!c) H1
def PN(ha:PT X a tA):PW X (.BoolOp .And [a] pos) tA:=by
 intro wh pins s σ H Q I h
 refine isTrue_and (Ť (ha pins s σ H Q I h) λc s1 e=>?_)
 cases c with
 |true=>exact isTrue_and_nil e
 |false=>exact e
def Za3(ha:PT X a tA):PW X (.BoolOp .Or [a] pos) tA:=by
 intro wh pins s σ H Q I h
 refine isTrue_or (Ť (ha pins s σ H Q I h) λc s1 e=>?_)
 cases c with
 |false=>exact isTrue_or_nil e
 |true=>exact e
def Za4(ha:PT X a tA)(hb:PW X (.BoolOp .And (b::rest) pos) tB'):PW X (.BoolOp .And (a::b::rest) pos) (Zgk tA tB'):=by
 intro wh pins s σ H Q I h
 refine isTrue_and (Ť (ha pins s σ H _ I h) λc s1 ⟨H1,I1,q1⟩=>?_)
 cases c with
 |true=>exact hb wh pins s1 σ H1 Q I1 q1
 |false=>exact⟨H1,I1,q1⟩
def ZdU(ha:PT X a tA)(hb:PW X (.BoolOp .Or (b::rest) pos) tB'):PW X (.BoolOp .Or (a::b::rest) pos) (tOr tA tB'):=by
 intro wh pins s σ H Q I h
 refine isTrue_or (Ť (ha pins s σ H _ I h) λc s1 ⟨H1,I1,q1⟩=>?_)
 cases c with
 |true=>exact⟨H1,I1,q1⟩
 |false=>exact hb wh pins s1 σ H1 Q I1 q1
def Za5(ha:PT X a tA):PT X (.UnaryOp .Not a pos) (Zgl tA):=by
 intro pins s σ H Q I h
 exact isTrue_not (ha pins s σ H (λc H1=>Q (!c) H1) I h)
def Za6{op}{t:TE}(h:PE X a t):PE X (.BoolOp op [a] pos) t:=λpins s σ H Q I hw=>BoolOp_one (h pins s σ H Q I hw)
end
end L2
namespace L2
open PySem PySem.Spec PyProof.Rows
def ų(K:PySem.W.Frag)(H:Hp)(a:Addr)(xs:List V):Prop:=
 Rd H a (.lst xs)\/
  ∃(o:Obj) (its:Array Value) (n:Nat),K.lookup a=some o/\o.cls=.type "list" /\o.dict=none/\o.data=.seq its n/\its.size<=sizeLine/\Vals xs its.toList
def dw(K:PySem.W.Frag)(H:Hp)(a:Addr)(xs:List V):Prop:=
 Rd H a (.tup xs)\/
  ∃(o:Obj) (its:Array Value) (n:Nat),K.lookup a=some o/\o.cls=.type "tuple" /\o.data=.seq its n/\its.size<=sizeLine/\Vals xs its.toList
def Zgm:Value->Option V
 | .none=>some .non
 | .bool b=>some (.bl b)
 | .int i _=>some (.int i)
 | .str x _=>some (.str x)
 | .bytes b _=>some (.Sv b)
 | .float b _=>some (.flt b)
 | .ref a=>some (.ref a)
 | .type n=>some (.ty n)
 |_=>none
def RelV.abs{x:V}{u:Value}(r:RelV x u):Zgm u=some x:=by
 cases x with
 |non=>cases r;rfl
 |bl _=>cases r;rfl
 |int _=>obtain⟨t,rfl⟩:=r;rfl
 |str _=>obtain⟨t,rfl⟩:=r;rfl
 |Sv _=>obtain⟨t,rfl⟩:=r;rfl
 |flt _=>obtain⟨t,rfl⟩:=r;rfl
 |ref _=>cases r;rfl
 |ty _=>cases r;rfl
theorem RelV.inj{x y:V}{u:Value}(r:RelV x u)(q:RelV y u):x=y:=Option.some.inj (r.abs.symm.trans q.abs)
theorem Vals.inj:∀{xs ys:List V} {us:List Value},Vals xs us->Vals ys us->xs=ys
 |_,_,_,.nil,.nil=>rfl
 |_,_,_,.cons r t,.cons r' t'=>by rw[r.inj r',Vals.inj t t']
section
variable{X:Cx}{pins:List (Addr×Obj)}{σ:St}{H:Hp}{s:Shared}{a:Addr}{xs ys:List V}
def ų.of{K:PySem.W.Frag}(h:H a=some (.lst xs)):ų K H a xs:=.inl (.inl h)
def dw.of{K:PySem.W.Frag}(h:H a=some (.tup xs)):dw K H a xs:=.inl (.inl h)
def Inv.list(I:Inv X pins σ H s)(h:ų X.K H a xs):∃its:List Value,Vals xs its/\PlainL s.heap a its.toArray/\xs.length<=sizeLine:=by
 rcases h with h|⟨o,its,n,hk,hc,hd,hs,hz,r⟩
 ·obtain⟨z,its,n,r,e⟩:=h.ok I.hok
  exact⟨its,r,⟨_,n,e,rfl,rfl,rfl⟩,z⟩
 ·refine⟨its.toList,r,⟨o,n,I.nU a o hk,hc,hd,by simpa using hs⟩,?_⟩
  have e:=r.length
  simp only[Array.length_toList] at e
  omega
def Inv.tuple(I:Inv X pins σ H s)(h:dw X.K H a xs):∃its:List Value,Vals xs its/\IsTup s.heap a its.toArray/\xs.length<=sizeLine:=by
 rcases h with h|⟨o,its,n,hk,hc,hs,hz,r⟩
 ·obtain⟨z,its,r,p⟩:=h.ok I.hok
  exact⟨its,r,p,z⟩
 ·refine⟨its.toList,r,⟨o,I.nU a o hk,hc,n,by simpa using hs⟩,?_⟩
  have e:=r.length
  simp only[Array.length_toList] at e
  omega
def Inv.qw(I:Inv X pins σ H s)(h:ų X.K H a xs)(h':ų X.K H a ys):xs=ys:=by
 obtain⟨its,r,⟨o,n,e,_,_,d⟩,_⟩:=I.list h
 obtain⟨its',r',⟨o',n',e',_,_,d'⟩,_⟩:=I.list h'
 rw[e] at e';cases e'
 rw[d] at d'
 injection d' with d1 _
 have:its=its':=by simpa using congrArg Array.toList d1
 subst this
 exact r.inj r'
def Inv.uD(I:Inv X pins σ H s)(h:dw X.K H a xs)(h':dw X.K H a ys):xs=ys:=by
 obtain⟨its,r,⟨o,e,_,n,d⟩,_⟩:=I.tuple h
 obtain⟨its',r',⟨o',e',_,n',d'⟩,_⟩:=I.tuple h'
 rw[e] at e';cases e'
 rw[d] at d'
 injection d' with d1 _
 have:its=its':=by simpa using congrArg Array.toList d1
 subst this
 exact r.inj r'
end
abbrev Cx.wish(X:Cx)(E:Value->Shared->Prop):Cx:={X with xe:=E}
abbrev Cx.Ū(X:Cx):Cx:=X.wish λ_ _=>False
theorem Cx.Ok.wish{X:Cx}(ok:X.Ok)(E:Value->Shared->Prop):(X.wish E).Ok:=
 ⟨ok.mod,ok.kind,ok.glob,ok.blt,ok.above,ok.inj,ok.has,ok.cab,ok.hd,ok.frames,ok.stk,ok.exf,ok.bs,ok.Pk,ok.Hf,ok.PL,ok.pB,ok.frf,ok.tb⟩
def Cx.Ok.fO{X:Cx}{E:Value->Shared->Prop}(ok:(X.wish E).Ok):X.Ok:=
 ⟨ok.mod,ok.kind,ok.glob,ok.blt,ok.above,ok.inj,ok.has,ok.cab,ok.hd,ok.frames,ok.stk,ok.exf,ok.bs,ok.Pk,ok.Hf,ok.PL,ok.pB,ok.frf,ok.tb⟩
section
variable{X:Cx}{pins:List (Addr×Obj)}{σ:St}{H:Hp}{s:Shared}{E:Value->Shared->Prop}
theorem Inv.wish(I:Inv X pins σ H s)(E:Value->Shared->Prop):Inv (X.wish E) pins σ H s:=⟨I.ok.wish E,I.os,I.bare,I.base,I.loc,I.cell,I.free,I.h_,I.pin,I.hok,I.len⟩
theorem Inv.fO(I:Inv (X.wish E) pins σ H s):Inv X pins σ H s:=⟨I.ok.fO,I.os,I.bare,I.base,I.loc,I.cell,I.free,I.h_,I.pin,I.hok,I.len⟩
theorem SP.fO{D:Ends}{f:Flow}{s':Shared}(h:SP (X.wish E) pins D f s'):SP X pins D f s':=by
 cases f with
 |next=>obtain⟨σ',H',I,q⟩:=h;exact⟨σ',H',I.fO,q⟩
 |brk=>obtain⟨σ',H',I,q⟩:=h;exact⟨σ',H',I.fO,q⟩
 |cont=>obtain⟨σ',H',I,q⟩:=h;exact⟨σ',H',I.fO,q⟩
 |ret u=>obtain⟨v,σ',H',I,r,q⟩:=h;exact⟨v,σ',H',I.fO,r,q⟩
theorem PE.Ū{e:Expr}{t:TE}(h:PE X.Ū e t):PE X e t:=λpins s σ H Q I hw=>
 wpAny_mono (h pins s σ H Q (I.wish _) hw) (λ_ _ ⟨v,H',I',r,q⟩=>⟨v,H',I'.fO,r,q⟩) λ_ _ z=>False.elim z
end
section
variable{X:Cx}{st:Stmt}{rest:List Stmt}{t u:TS}{e:Expr}{te:TE}{pos:Pos}
def ZdV:TS:=λD σ H=>D.nx σ H
def Zgn(t u:TS):TS:=λD σ H=>t {D with nx:=u D} σ H
def P_:jw X [] ZdV:=λ_ _ σ H _ I h=>wpAny_execs_nil ⟨σ,H,I,h⟩
def IW(h1:PS X st t)(h2:jw X rest u):jw X (st::rest) (Zgn t u):=by
 intro pins s σ H D I h
 refine wpAny_execs_cons (Ť (h1 pins s σ H {D with nx:=u D} I h) λf s1 q=>?_)
 cases f with
 |next=>
  obtain⟨σ',H',I',q⟩:=q
  exact h2 pins s1 σ' H' D I' q
 |ret v=>exact q
 |brk=>exact q
 |cont=>exact q
def Qa(h1:PS X st t):jw X [st] t:=by
 intro pins s σ H D I h
 refine wpAny_execs_cons (Ť (h1 pins s σ H D I h) λf s1 q=>?_)
 cases f with
 |next=>exact wpAny_execs_nil q
 |ret v=>exact q
 |brk=>exact q
 |cont=>exact q
def Inv.quiet{pins:List (Addr×Obj)}{σ:St}{H:Hp}{s:Shared}(I:Inv X pins σ H s):interactive X.env=false:=by simp[interactive,I.ok.kind]
def I_(te:TE):TS:=λD σ H=>te σ H λ_ H1=>D.nx σ H1
def aU(he:PE X e te)(hs:swapsWith e none pos.line X.env=pure false:=by rfl):PS X (.Expr e pos) (I_ te):=by
 intro pins s σ H D I h
 exact wpAny_Expr_any (Ť (he pins s σ H _ I h) λv s1 ⟨x,H1,I1,r1,q1⟩=>⟨σ,H1,I1,q1⟩) I.quiet hs
def Zgo(te:TE):TS:=λD σ H=>te σ H D.rt
def Za7(he:PE X e te):PS X (.Return (some e) pos) (Zgo te):=by
 intro pins s σ H D I h
 exact wpAny_Return_some (Ť (he pins s σ H _ I h) λv s1 ⟨x,H1,I1,r1,q1⟩=>⟨x,σ,H1,I1,r1,q1⟩)
def Zgp(c:TT)(t u:TS):TS:=λD σ H=>c σ H λb H1=>if b=true then t D σ H1 else u D σ H1
def ZdW{c:Expr}{a b:List Stmt}{tc:TT}(hc:PT X c tc)(ha:jw X a t)(hb:jw X b u):PS X (.If c a b pos) (Zgp tc t u):=by
 intro pins s σ H D I h
 refine wpAny_If (Ť (hc pins s σ H _ I h) λd s1 ⟨H1,I1,q1⟩=>?_)
 cases d with
 |true=>exact ha pins s1 σ H1 D I1 q1
 |false=>exact hb pins s1 σ H1 D I1 q1
def Za8:TS:=λ_ _ _=>False
def Ja:PS X st Za8:=λ_ _ _ _ _ _ h=>h.elim
end
abbrev TG:=V->St->Hp->(St->Hp->Prop)->Prop
abbrev Jb:=List V->St->Hp->(St->Hp->Prop)->Prop
def PG(X:Cx)(target:Expr)(t:TG):Prop:=
 ∀(pins:List (Addr×Obj)) (s:Shared) (σ:St) (H:Hp) (v:V) (u:Value) (Q:St->Hp->Prop),Inv X pins σ H s->RelV v u->t v σ H Q->
  wpAny (model X.prog X.w) X.A (assign target X.env u) (λ_ s'=>∃σ' H',Inv X pins σ' H' s'/\Q σ' H') X.xe s
def Bl(X:Cx)(ts:List Expr)(t:Jb):Prop:=
 ∀(pins:List (Addr×Obj)) (s:Shared) (σ:St) (H:Hp) (vs:List V) (us:List Value) (Q:St->Hp->Prop),Inv X pins σ H s->Vals vs us->t vs σ H Q->
  wpAny (model X.prog X.w) X.A (assignInOrder ((assignEach ts X.env).map (·.2)) us) (λ_ s'=>∃σ' H',Inv X pins σ' H' s'/\Q σ' H') X.xe s
abbrev Za9:=V->V->V->Hp->(Hp->Prop)->Prop
def ZdX(X:Cx)(t:Za9):Prop:=
 ∀(pins:List (Addr×Obj)) (s:Shared) (σ:St) (H:Hp) (o i v:V) (ov iv u:Value) (Q:Hp->Prop),Inv X pins σ H s->RelV o ov->RelV i iv->RelV v u->t o i v H Q->
  wpAny (model X.prog X.w) X.A (setItem ov iv u) (λ_ s'=>∃H',Inv X pins σ H' s'/\Q H') X.xe s
abbrev TIp:=V->V->Hp->VK->Prop
def PIp(X:Cx)(op:Operator)(t:TIp):Prop:=
 ∀(pins:List (Addr×Obj)) (s:Shared) (σ:St) (H:Hp) (x y:V) (v u:Value) (Q:VK),Inv X pins σ H s->RelV x v->RelV y u->t x y H Q->
  wpAny (model X.prog X.w) X.A (inplaceOp op v u) (EP X pins σ Q) X.xe s
section
variable{X:Cx}{pos:Pos}
def Sw(i:Nat):TG:=λv σ H Q=>Q (σ.set i (some v)) H
def Qc{i:Nat}{x:Str}(hN:X.N.Nodup)(hi:X.N[i]?=some x)(hx:Loc X.env.scope x)(hf:X.fn x=true\/X.env.scope.names.lookup x=some .local:=by first|exact .inl rfl|exact .inr rfl|assumption):PG X (.Name x pos) (Sw i):=by
 intro pins s σ H v u Q I r h
 exact wpAny_assign_Name (qu I hN hi hx r (λs' I'=>⟨_,H,I',h⟩) hf)
def Zgq:Jb:=λvs σ H Q=>vs=[]/\Q σ H
def ZdY(t:TG)(u:Jb):Jb:=λvs σ H Q=>∃v r,vs=v::r/\t v σ H λσ' H'=>u r σ' H' Q
def Qd:Bl X [] Zgq:=by
 intro pins s σ H vs us Q I r h
 obtain⟨e,h⟩:=h
 subst e
 cases r
 exact assignInOrder_nil ⟨σ,H,I,h⟩
def Jc{e:Expr}{es:List Expr}{t:TG}{u:Jb}(h1:PG X e t)(h2:Bl X es u)
 (hs:(assignEach (e::es) X.env).map (·.2)=assign e X.env::(assignEach es X.env).map (·.2):=by rfl):Bl X (e::es) (ZdY t u):=by
 intro pins s σ H vs us Q I r h
 obtain⟨v,vr,e1,h⟩:=h
 subst e1
 cases r with
 |cons r rr=>
  rw[hs]
  refine assignInOrder_cons (Ť (h1 pins s σ H _ _ _ I r h) λ_ s1 ⟨σ1,H1,I1,q1⟩=>?_)
  exact h2 pins s1 σ1 H1 _ _ Q I1 rr q1
def Zgr(K:PySem.W.Frag)(n:Nat)(t:Jb):TG:=λv σ H Q=>∃a xs,v=.ref a/\dw K H a xs/\xs.length=n/\t xs σ H Q
def Jd{es:List Expr}{k:Nat}{t:Jb}{n:Nat}(hc:X.calm=true)(h:Bl X es t)
 (hn:(assignEach es X.env).length=n:=by rfl)(hst:(assignEach es X.env).findIdx? (·.1)=none:=by rfl):PG X (.Tuple es k pos) (Zgr X.K n t):=by
 intro pins s σ H v u Q I r hw
 obtain⟨a,xs,e1,hq,hl,hw⟩:=hw
 subst e1
 cases r
 obtain⟨its,rv,ht,hz⟩:=I.tuple hq
 refine assign_Tuple_tuple (I.ok.hd hc) ht (by simp[hn,<-hl,rv.length]) hst λh' hx=>?_
 have I1:Inv X pins σ H {s with heap:=h'}:=I.kept (t':=s.toks) λb o e=>hx b o (Nat.ne_of_lt (Heap.lt_size e)) e
 exact h pins _ σ H xs _ Q I1 (by simpa using rv) hw
def Zgs(to ti:TE)(t:Za9):TG:=λv σ H Q=>to σ H λo H1=>ti σ H1 λi H2=>t o i v H2 λH3=>Q σ H3
def Za_{o i:Expr}{to ti:TE}{t:Za9}(ho:PE X o to)(hi:PE X i ti)(hs:ZdX X t)
 (ha:∀v,assign (.Subscript o i pos) X.env v=(do
   let ov <-holding [v] (eval o X.env)
   let iv <-holding [v,ov] (eval i X.env)
   standAt pos
   holding [v,ov,iv] (setItem ov iv v)
   release [v,ov,iv] []):=by intro _;rfl):PG X (.Subscript o i pos) (Zgs to ti t):=by
 intro pins s σ H v u Q I r h
 rw[ha]
 refine wpAny_bind (wpAny_holding (Ť (ho pins s σ H _ I h) λov s1 ⟨x,H1,I1,r1,q1⟩=>?_))
 refine wpAny_bind (wpAny_holding (Ť (hi pins s1 σ H1 _ I1 q1) λiv s2 ⟨y,H2,I2,r2,q2⟩=>?_))
 refine wpAny_bind (wpAny_standAt (wpAny_bind (wpAny_holding (Ť (hs pins s2 σ H2 x y v ov iv u _ I2 r1 r2 r q2) λ_ s3 ⟨H3,I3,q3⟩=>?_))))
 exact wpAny_release ⟨σ,H3,I3,q3⟩
def ZdZ(te:TE)(g:TG):TS:=λD σ H=>te σ H λx H1=>g x σ H1 D.nx
def Je{tg e:Expr}{te:TE}{g:TG}(he:PE X e te)(hg:PG X tg g)(hs:swapsWithSole [tg] e pos.line X.env=pure false:=by rfl)(hw:swappedStores [tg] e X.env=pure none:=by rfl)
 (h1:(assignEach [tg] X.env).map (·.2)=[assign tg X.env]:=by rfl):PS X (.Assign [tg] e pos) (ZdZ te g):=by
 intro pins s σ H D I h
 refine wpAny_Assign_stores (Ť (he pins s σ H _ I h) λv s1 ⟨x,H1,I1,r1,q1⟩=>?_) hs hw
 rw[h1]
 exact Ť (hg pins s1 σ H1 x v _ I1 r1 q1) λ_ s2 q=>q
def Zba{i:Nat}{x:Str}{e:Expr}{te:TE}{pos':Pos}(hN:X.N.Nodup)(hi:X.N[i]?=some x)(hx:Loc X.env.scope x)(he:PE X e te)(hs:swapsWith e (some (.Name x pos')) pos.line X.env=pure false:=by rfl)(hf:X.fn x=true\/X.env.scope.names.lookup x=some .local:=by first|exact .inl rfl|exact .inr rfl|assumption) :
 PS X (.Assign [.Name x pos'] e pos) (ZdZ te (Sw i)):=by
 intro pins s σ H D I h
 refine wpAny_Assign_Name (Ť (he pins s σ H _ I h) λv s1 ⟨y,H1,I1,r1,q1⟩=>?_) hs
 exact qu I1 hN hi hx r1 (λs2 I2=>⟨_,H1,I2,q1⟩) hf
def Zgt(i:Nat)(te:TE)(ti:TIp):TS:=λD σ H=>∃x,σ[i]?=some (some x)/\te σ H λy H1=>ti x y H1 λz H2=>D.nx (σ.set i (some z)) H2
def Zbb{i:Nat}{x:Str}{e:Expr}{te:TE}{op:Operator}{ti:TIp}{pos':Pos}(hN:X.N.Nodup)(hi:X.N[i]?=some x)(hx:Loc X.env.scope x)(he:PE X e te)(ho:PIp X op ti)(hf:X.fn x=true\/X.env.scope.names.lookup x=some .local:=by first|exact .inl rfl|exact .inr rfl|assumption) :
 PS X (.AugAssign (.Name x pos') op e pos) (Zgt i te ti):=by
 intro pins s σ H D I h
 obtain⟨v,e1,h⟩:=h
 obtain⟨m,hn,hl⟩:=I.loc
 have vis:Bp X.env.scope x:=by rcases hx with k|k;exact .inl k;exact .inr (.inl k)
 obtain⟨u,r,l⟩:=hl i x v hi e1 vis
 refine wpAny_AugAssign_Name ?_
 have go:wpAny (model X.prog X.w) X.A (eval e X.env) (λw s₂=>wpAny (model X.prog X.w) X.A (inplaceOp op u w) (λr s₃=>wpAny (model X.prog X.w) X.A (storeName X.env x r) (λ_=>SP X pins D .next) X.xe s₃) X.xe s₂) X.xe s:=by
  refine Ť (he pins s σ H _ I h) λw s1 ⟨y,H1,I1,r1,q1⟩=>?_
  refine Ť (ho pins s1 σ H1 v y u w _ I1 r r1 q1) λz s2 ⟨zv,H2,I2,r2,q2⟩=>?_
  exact qu I2 hN hi hx r2 (λs3 I3=>⟨_,H2,I3,q2⟩) hf
 rcases l with⟨hk,hm⟩|⟨hk,c,hc,hcell⟩
 ·exact wpAny_loadName_local I.ok.kind hk hn hm go
 ·rcases hk with hk|hk
  ·exact wpAny_loadName_cell I.ok.kind hk hc hcell go
  ·rcases hx with k|k
   ·have:X.env.scope.names.lookup x=some .free:=hk
    rw[k] at this;cases this
   ·have:X.env.scope.names.lookup x=some .free:=hk
    rw[k] at this;cases this
def ipI(f:Int->Int->Int):TIp:=λx y H Q=>∃i j,x=.int i/\y=.int j/\Q (.int (f i j)) H
end
section
variable{X:Cx}{pos:Pos}
def Zbc(c:TT)(tb:TS):TS:=λD σ H=>∃W:Nat->St->Hp->Prop,(∃m,W m σ H)/\∀m σ H,W m σ H->
 c σ H λb H1=>if b=true then ∃N:St->Hp->Prop,(∀σ' H',N σ' H'->∃m',m'<m/\W m' σ' H')/\tb {D with nx:=N,ct:=N,bk:=D.nx} σ H1 else D.nx σ H1
def Jf{c:Expr}{body:List Stmt}{tc:TT}{tb:TS}(hp:PassesOwn (model X.prog X.w) X.A X.env X.xe)(hc:PT X c tc)(hb:jw X body tb):PS X (.While c body [] pos) (Zbc tc tb):=by
 intro pins s σ H D I h
 obtain⟨W,⟨m0,w0⟩,turn⟩:=h
 refine wpAny_While (codeAny_whileLoop (λn s'=>∃σ' H',Inv X pins σ' H' s'/\W n σ' H') ?_ m0 ⟨σ,H,I,w0⟩)
 rintro n s1 ⟨σ1,H1,I1,w1⟩
 refine wpAny_passesOwn hp (Ť (hc pins s1 σ1 H1 _ I1 (turn n σ1 H1 w1)) λb s2 ⟨H2,I2,q2⟩=>?_)
 cases b with
 |true=>
  obtain⟨N,hN,q2⟩:=q2
  rw[if_pos rfl]
  refine wpAny_passesOwn hp (Ť (hb pins s2 σ1 H2 _ I2 q2) λf s3 q3=>?_)
  cases f with
  |next=>
   obtain⟨σ3,H3,I3,n3⟩:=q3
   obtain⟨m',hm,w3⟩:=hN σ3 H3 n3
   exact⟨m',hm,σ3,H3,I3,w3⟩
  |cont=>
   obtain⟨σ3,H3,I3,n3⟩:=q3
   obtain⟨m',hm,w3⟩:=hN σ3 H3 n3
   exact⟨m',hm,σ3,H3,I3,w3⟩
  |brk=>exact q3
  |ret v=>exact q3
 |false=>
  rw[if_neg Bool.false_ne_true]
  exact wpAny_execs_nil ⟨σ1,H2,I2,q2⟩
end
structure It where
 go:Nat->Hp->Prop
 yld:Nat->Hp->V->Hp->Prop
 stop:Nat->Hp->Prop
def bR(X:Cx)(pins:List (Addr×Obj))(H:Hp)(b:Addr):Prop:=
 H b=none/\b≠X.env.locals/\b∉X.fs/\(b∈X.ex\/X.s₀.heap.objs.size<=b)/\(∀x c,X.env.cells.lookup x=some c->c≠b)/\∀p∈X.pn++pins,p.1≠b
def Inv.tZ{X:Cx}{pins:List (Addr×Obj)}{σ:St}{H H':Hp}{s:Shared}{b:Addr}(I:Inv X pins σ H s)(hb:s.heap.objs.size<=b)(hn:H' b=none):bR X pins H' b:=by
 refine⟨hn,Nat.ne_of_gt (Nat.lt_of_lt_of_le I.lt hb),I.Zgi hb,.inr (Nat.le_trans I.sz hb),λx c e z=>?_,λp hp z=>?_⟩
 ·obtain⟨v,q⟩:=I.cell x c e
  exact absurd (Nat.lt_of_lt_of_le q.lt (by rw[z];exact hb)) (Nat.lt_irrefl _)
 ·exact absurd (Nat.lt_of_lt_of_le (Heap.lt_size (I.pin p hp).1) (by rw[z];exact hb)) (Nat.lt_irrefl _)
structure Turn(P:Program)(w:World)(K:PySem.W.Frag)(tg:Expr)(J:It)(fp:List Addr)(it:Addr)(tn:Nat->Heap->Prop):Prop where
 mem:it∈fp
 obj:∀i h,tn i h->∀b∈fp,∃o,h.get? b=some o/\∀v,o.data≠ .cell v
 keep:∀i h h',tn i h->(∀b∈fp,∀o,h.get? b=some o->h'.get? b=some o)->tn i h'
 item:∀(X:Cx),X.prog=P->X.w=w->X.K=K->X.calm=true->∀(i:Nat) (pins:List (Addr×Obj)) (s:Shared) (σ:St) (H:Hp) (E:Value->Shared->Prop),Inv X pins σ H s->(∀b∈fp,bR X pins H b)->tn i s.heap->J.go i H->
  wpAny (model P w) X.A (pyNext (.ref it)) (λr s1=>∃u,r=some u/\
   wpAny (model P w) X.A (letOwnedTupleGo tg (.ref it) u) (λ_ s2=>∃x H',Inv X pins σ H' s2/\RelV x u/\J.yld i H x H'/\tn (i+1) s2.heap/\∀b∈fp,H' b=none) E s1) E s
 done:∀(X:Cx),X.prog=P->X.w=w->X.K=K->X.calm=true->∀(i:Nat) (pins:List (Addr×Obj)) (s:Shared) (σ:St) (H:Hp) (E:Value->Shared->Prop),Inv X pins σ H s->(∀b∈fp,bR X pins H b)->tn i s.heap->J.stop i H->
  wpAny (model P w) X.A (pyNext (.ref it)) (λr s1=>r=none/\Inv X pins σ H s1) E s
 self:∀(A:Around) (i:Nat) (s:Shared) (Q:Value->Shared->Prop) (E:Value->Shared->Prop),tn i s.heap->Q (.ref it) s->wpAny (model P w) A (pyIter (.ref it)) Q E s
abbrev TI:=St->Hp->(It->Hp->Prop)->Prop
def PIE(X:Cx)(pins:List (Addr×Obj))(σ:St)(tg:Expr)(R:It->Hp->Prop)(itv:Value)(s2:Shared):Prop:=
 ∃(it:Addr) (fp:List Addr) (tn:Nat->Heap->Prop) (J:It) (H':Hp),itv=.ref it/\Inv X pins σ H' s2/\Turn X.prog X.w X.K tg J fp it tn/\tn 0 s2.heap/\(∀b∈fp,bR X pins H' b)/\R J H'
def PI(X:Cx)(tg iter:Expr)(wi:TI):Prop:=
 ∀(pins:List (Addr×Obj)) (s:Shared) (σ:St) (H:Hp) (R:It->Hp->Prop),Inv X pins σ H s->wi σ H R->
  wpAny (model X.prog X.w) X.A (eval iter X.env) (λv s1=>wpAny (model X.prog X.w) X.A (pyIter v) (PIE X pins σ tg R) X.xe s1) X.xe s
def Fb{M:Model}{A:Around}{E:Value->Shared->Prop}{s:Shared}{tg:Expr}{it:Addr}{u:Value}{o:Obj}{n:String}{vs:Array Value}{Q:Unit->Shared->Prop}(ho:s.heap.get? it=some o)(hc:o.cls=.type n)(hd:o.data=.fields vs)
 (hn:["enumerate","zip","dict_itemiterator","dict_reverseitemiterator","odict_iterator","itertools.zip_longest","itertools.pairwise"].contains n=false)(hQ:Q () s):wpAny M A (letOwnedTupleGo tg (.ref it) u) Q E s:=by
 unfold letOwnedTupleGo
 cases tg<;>first
  |exact wpAny_pure hQ
  |(cases u<;>first
     |exact wpAny_pure hQ
     |(refine wpAny_bind (wpAny_load ho ?_)
       rw[hc,hd]
       show wpAny M A (if(["enumerate","zip","dict_itemiterator","dict_reverseitemiterator","odict_iterator","itertools.zip_longest","itertools.pairwise"].contains n && vs[0]?== some (rawInt _))=true then _ else _) Q E s
       rw[if_neg (by intro h;rw[hn,Bool.false_and] at h;cases h)]
       exact wpAny_pure hQ))
def Itl(K:PySem.W.Frag)(a:Addr):It:=
 ⟨λi H=>∃xs x,ų K H a xs/\xs[i]?=some x,λi H x H'=>H'=H/\∀xs,ų K H a xs->xs[i]?=some x,λi H=>∃xs,ų K H a xs/\xs.length<=i⟩
def Itt(K:PySem.W.Frag)(a:Addr):It:=
 ⟨λi H=>∃xs x,dw K H a xs/\xs[i]?=some x,λi H x H'=>H'=H/\∀xs,dw K H a xs->xs[i]?=some x,λi H=>∃xs,dw K H a xs/\xs.length<=i⟩
def Itr(lo:Int)(n:Nat):It:=⟨λi _=>i<n,λi H x H'=>H'=H/\x=.int (lo+i),λi _=>n<=i⟩
def Hg{P:Program}{w:World}{K:PySem.W.Frag}{tg:Expr}(a it:Addr):Turn P w K tg (Itl K a) [it] it (λi h=>h.IsListIter it a i) where
 mem:=by simp
 obj:=λi h st b hb=>by
  have e:b=it:=by simpa using hb
  subst e
  obtain⟨o,e,c,d⟩:=st
  exact⟨o,e,λv z=>by rw[d] at z;cases z⟩
 keep:=λi h h' st k=>st.at λo e=>k it (by simp) o e
 item:=by
  intro X hP hw hK hc i pins s σ H E I hf st hg
  subst hP hw hK
  obtain⟨xs,x,hq,hx⟩:=hg
  obtain⟨its,rv,p,hz⟩:=I.list hq
  obtain⟨u,hu,ru⟩:=rv.get hx
  obtain⟨f0,f1,f2,f3,f4,f5⟩:=hf it (by simp)
  refine wpAny_pyNext_list_item st p.isList (x:=u) (by simpa using hu) λh' st' sb=>?_
  have I1:Inv X pins σ H {s with heap:=h'}:=I.turned (t':=s.toks) (λb o hb e=>(sb.2 b hb).trans e) f0 f1 f3 f4 f5
  obtain⟨o,e,c,d⟩:=id st'
  exact⟨u,rfl,Fb (s:={s with heap:=h'}) e c d (by decide) ⟨x,H,I1,ru,⟨rfl,λys hy=>by rw[I.qw hy hq];exact hx⟩,st',λb hb=>(hf b hb).1⟩⟩
 done:=by
  intro X hP hw hK hc i pins s σ H E I hf st hg
  subst hP hw hK
  obtain⟨xs,hq,hx⟩:=hg
  obtain⟨its,rv,p,hz⟩:=I.list hq
  obtain⟨f0,f1,f2,f3,f4,f5⟩:=hf it (by simp)
  have hl:=rv.length
  exact wpAny_pyNext_list_end (I.ok.hd hc) st p.isList (by simp;omega) λh' eb=>⟨rfl,I.turned (t':=s.toks) (λb o hb e=>eb b o hb e) f0 f1 f3 f4 f5⟩
 self:=λ_ _ _ _ _ st h=>wpAny_pyIter_listiter st h
def Br{P:Program}{w:World}{K:PySem.W.Frag}{tg:Expr}(a it:Addr):Turn P w K tg (Itt K a) [it] it (λi h=>h.IsTupleIter it a i) where
 mem:=by simp
 obj:=λi h st b hb=>by
  have e:b=it:=by simpa using hb
  subst e
  obtain⟨o,e,c,d⟩:=st
  exact⟨o,e,λv z=>by rw[d] at z;cases z⟩
 keep:=λi h h' st k=>st.at λo e=>k it (by simp) o e
 item:=by
  intro X hP hw hK hc i pins s σ H E I hf st hg
  subst hP hw hK
  obtain⟨xs,x,hq,hx⟩:=hg
  obtain⟨its,rv,p,hz⟩:=I.tuple hq
  obtain⟨u,hu,ru⟩:=rv.get hx
  obtain⟨f0,f1,f2,f3,f4,f5⟩:=hf it (by simp)
  refine wpAny_pyNext_tuple_item st (show s.heap.IsTuple a its.toArray from p) (x:=u) (by simpa using hu) λh' st' sb=>?_
  have I1:Inv X pins σ H {s with heap:=h'}:=I.turned (t':=s.toks) (λb o hb e=>(sb.2 b hb).trans e) f0 f1 f3 f4 f5
  obtain⟨o,e,c,d⟩:=id st'
  exact⟨u,rfl,Fb (s:={s with heap:=h'}) e c d (by decide) ⟨x,H,I1,ru,⟨rfl,λys hy=>by rw[I.uD hy hq];exact hx⟩,st',λb hb=>(hf b hb).1⟩⟩
 done:=by
  intro X hP hw hK hc i pins s σ H E I hf st hg
  subst hP hw hK
  obtain⟨xs,hq,hx⟩:=hg
  obtain⟨its,rv,p,hz⟩:=I.tuple hq
  obtain⟨f0,f1,f2,f3,f4,f5⟩:=hf it (by simp)
  have hl:=rv.length
  exact wpAny_pyNext_tuple_end (I.ok.hd hc) st (show s.heap.IsTuple a its.toArray from p) (by simp;omega) λh' eb=>⟨rfl,I.turned (t':=s.toks) (λb o hb e=>eb b o hb e) f0 f1 f3 f4 f5⟩
 self:=λ_ _ _ _ _ st h=>wpAny_pyIter_tupleiter st h
def Bs{P:Program}{w:World}{K:PySem.W.Frag}{tg:Expr}(it:Addr)(lo:Int)(n:Nat):Turn P w K tg (Itr lo n) [it] it (λi h=>IsRangeIter h it (lo+(i:Nat)*1) ((n:Int)-(i:Nat)) 1) where
 mem:=by simp
 obj:=λi h st b hb=>by
  have e:b=it:=by simpa using hb
  subst e
  exact⟨_,st,λv z=>by
   have z':Data.fields _=Data.cell v:=z
   cases z'⟩
 keep:=λi h h' st k=>k it (by simp) _ st
 item:=by
  intro X hP hw hK hc i pins s σ H E I hf st hg
  subst hP hw hK
  obtain⟨f0,f1,f2,f3,f4,f5⟩:=hf it (by simp)
  have W:=Walks.range (prog:=X.prog) (w:=X.w) (I.ok.hd hc) it lo 1 n
  refine W.item i s _ _ hg st λv h' tk hv st' kk=>?_
  obtain⟨t,rfl⟩:=hv
  have I1:Inv X pins σ H {s with heap:=h',toks:=tk}:=I.turned (λb o hb e=>kk b o (by simpa using hb) e) f0 f1 f3 f4 f5
  refine⟨_,rfl,Fb (s:={s with heap:=h',toks:=tk}) (n:= "range_iterator") st' rfl rfl (by decide) ⟨.int (lo+i),H,I1,⟨t,?_⟩,⟨rfl,rfl⟩,st',λb hb=>(hf b hb).1⟩⟩
  rw[Int.mul_one]
 done:=by
  intro X hP hw hK hc i pins s σ H E I hf st hg
  subst hP hw hK
  obtain⟨f0,f1,f2,f3,f4,f5⟩:=hf it (by simp)
  exact wpAny_pyNext_range_end (I.ok.hd hc) st (by have:n<=i:=hg;omega) λh' eb=>⟨rfl,I.turned (t':=s.toks) (λb o hb e=>eb b o hb e) f0 f1 f3 f4 f5⟩
 self:=λ_ _ _ _ _ st h=>wpAny_pyIter_rangeiter st h
end L2
namespace L2
open PySem PySem.Spec PyProof.Rows
section
variable{X:Cx}{tg:Expr}
def Jg{pins:List (Addr×Obj)}{σ:St}{H:Hp}{s:Shared}{R:It->Hp->Prop}{E:Value->Shared->Prop}{lo hi:Int}{t u v:Tok}{tk:Nat}(I:Inv X pins σ H s)(h1: -(2 ^ 62)<=lo)(h2:lo<2 ^ 62)(h3: -(2 ^ 62)<=hi)(h4:hi<2 ^ 62)
 (q:R (Itr lo (hi-lo).toNat) H):wpAny (model X.prog X.w) X.A (pyIter (.ref s.heap.objs.size)) (PIE X pins σ tg R) E {s with heap:=s.heap.push {cls:=.type "range",data:=.fields #[.int lo t,.int hi u,.int 1 v]},toks:=tk}:=by
 refine wpAny_pyIter_range (IsRange.new ..) (small_one h1 h2 h3 h4) ?_
 have I1:Inv X pins σ H {s with heap:=s.heap.push {cls:=.type "range",data:=.fields #[.int lo t,.int hi u,.int 1 v]},toks:=tk}:=I.kept λb o e=>Heap.get?_push_of_some _ e
 refine⟨(s.heap.push {cls:=.type "range",data:=.fields #[.int lo t,.int hi u,.int 1 v]}).objs.size,[(s.heap.push {cls:=.type "range",data:=.fields #[.int lo t,.int hi u,.int 1 v]}).objs.size],_,_,H,rfl,
  I1.kept (t':=tk) λb o e=>Heap.get?_push_of_some _ e,Bs _ lo (hi-lo).toNat,?_,λb hb=>?_,q⟩
 ·have e1:lo+((0:Nat):Int)*1=lo:=by simp
  have e2:(((hi-lo).toNat:Nat):Int)-((0:Nat):Int)=Builtin.Range.rangeSize lo hi 1:=by rw[rangeSize_one];split<;>omega
  show IsRangeIter _ _ (lo+((0:Nat):Int)*1) ((((hi-lo).toNat:Nat):Int)-((0:Nat):Int)) 1
  rw[e1,e2]
  exact Heap.get?_push_size _ rfl
 ·have e:b=(s.heap.push {cls:=.type "range",data:=.fields #[.int lo t,.int hi u,.int 1 v]}).objs.size:=by simpa using hb
  subst e
  exact I1.tZ (Nat.le_refl _) (I1.hok.fresh (Nat.le_refl _))
def Zd0(ta:TA):TI:=λσ H R=>ta σ H λvs H1=>∃j:Int,vs=[.int j]/\ -(2 ^ 62)<=j/\j<2 ^ 62/\R (Itr 0 j.toNat) H1
def Hh{a:Expr}{ta:TA}{p pos:Pos}(hg:Gl X "range")(hm:X.mg "range" =none)(ha:PA X [a] ta)(hs:starEach [a] X.env=[(false,eval a X.env)]:=by rfl):PI X tg (.Call (.Name "range" p) [a] [] pos) (Zd0 ta):=by
 intro pins s σ H R I h
 refine Call_ (jR I hg hm boot_range (PyProof.Rows.callWith_type1 (Ť (ha pos pins s σ H _ I h) λus s1 ⟨vs,H1,I1,r1,q1⟩=>?_) hs rfl))
 obtain⟨j,e,q1,q2,q⟩:=q1
 subst e
 cases r1 with
 |cons r rr=>
  cases rr
  obtain⟨t,rfl⟩:=r
  exact call_range_1 (Jg I1 (by omega) (by omega) q1 q2 (by simpa using q))
def Zgu(wi:TI)(g:TG)(tb:TS):TS:=λD σ H=>wi σ H λJ H1=>∃W:Nat->Nat->St->Hp->Prop,(∃m,W 0 m σ H1)/\∀i m σ H,W i m σ H->
 (J.stop i H/\D.nx σ H)\/(J.go i H/\∃N:St->Hp->Prop,(∀σ' H',N σ' H'->∃m',m'<m/\W (i+1) m' σ' H')/\∀x H',J.yld i H x H'->g x σ H' λσ2 H2=>tb {D with nx:=N,ct:=N,bk:=D.nx} σ2 H2)
def mR(fp:List Addr)(h:Heap):List (Addr×Obj):=fp.filterMap λb=>(h.get? b).map λo=>(b,o)
def ź{fp:List Addr}{h:Heap}{b:Addr}{o:Obj}(hb:b∈fp)(e:h.get? b=some o):(b,o)∈mR fp h:=List.mem_filterMap.mpr ⟨b,hb,by rw[e];rfl⟩
def Hi{fp:List Addr}{h:Heap}{p:Addr×Obj}(hp:p∈mR fp h):p.1∈fp/\h.get? p.1=some p.2:=by
 obtain⟨b,hb,e⟩:=List.mem_filterMap.mp hp
 cases q:h.get? b with
 |none=>rw[q] at e;cases e
 |some o=>
  rw[q] at e
  have e':(b,o)=p:=Option.some.inj e
  subst e'
  exact⟨hb,q⟩
def Inv.pinned{pins:List (Addr×Obj)}{σ:St}{H:Hp}{s:Shared}{fp:List Addr}(I:Inv X pins σ H s)(hf:∀b∈fp,bR X pins H b)(ho:∀b∈fp,∃o,s.heap.get? b=some o/\∀v,o.data≠ .cell v):Inv X (pins++mR fp s.heap) σ H s:=
 I.E_ fun p hp=>(List.mem_append.mp hp).elim (fun z=>I.pin p (List.mem_append_right _ z)) fun z=>by
   obtain⟨hb,e⟩:=Hi z
   obtain⟨f0,f1,f2,_⟩:=hf p.1 hb
   obtain⟨o,e',d⟩:=ho p.1 hb
   rw[e] at e';cases e'
   exact⟨e,f0,f1,f2,d⟩
def Inv.eU{pins pl:List (Addr×Obj)}{σ:St}{H:Hp}{s:Shared}(I:Inv X (pins++pl) σ H s):Inv X pins σ H s:=I.E_ λp hp=>I.pin p (List.mem_append_right _ (List.mem_append_left _ hp))
def Zbd{iter:Expr}{body:List Stmt}{wi:TI}{g:TG}{tb:TS}{pos:Pos}(hp:PassesOwn (model X.prog X.w) X.A X.env X.xe)(hc:X.calm=true)(hi:PI X tg iter wi)(hg:PG X tg g)(hb:jw X body tb)
 (hs:∀x,foldedSetIterable iter X.env x=pure x:=by intro _;rfl):PS X (.For tg iter body [] pos) (Zgu wi g tb):=by
 intro pins s σ H D I h
 refine wpAny_For (Ť (hi pins s σ H _ I h) λv s1 h1=>Ť h1 λitv s2 h2=>?_) hs
 obtain⟨it,fp,tn,J,H2,e,I2,T,st2,f2,W,⟨m0,w0⟩,turn⟩:=h2
 subst e
 -- what stays true of the iterator's objects through the loop
 have stat:∀{H':Hp},(∀b∈fp,H' b=none)->∀b∈fp,bR X pins H' b:=λhn b hb=>⟨hn b hb,(f2 b hb).2⟩
 refine codeAny_forLoop_any (λn s'=>∃i σ' H',Inv X pins σ' H' s'/\tn i s'.heap/\(∀b∈fp,H' b=none)/\W i n σ' H') ?_ m0 ⟨0,σ,H2,I2,st2,λb hb=>(f2 b hb).1,w0⟩
 rintro n s3 ⟨i,σ3,H3,I3,st3,fr3,w3⟩
 rcases turn i n σ3 H3 w3 with⟨stop,qn⟩|⟨go,N,hN,step⟩
 ·refine wpAny_passesOwn hp (Ť (T.done X rfl rfl rfl hc i pins s3 σ3 H3 X.xe I3 (stat fr3) st3 stop) λr s4 ⟨hr,I4⟩=>?_)
  subst hr
  exact wpAny_execs_nil ⟨σ3,H3,I4,qn⟩
 ·refine wpAny_passesOwn hp (Ť (T.item X rfl rfl rfl hc i pins s3 σ3 H3 X.xe I3 (stat fr3) st3 go) λr s4 ⟨u,hr,h4⟩=>?_)
  subst hr
  refine wpAny_passesOwn hp (Ť h4 λ_ s5 ⟨x,H5,I5,r5,y5,Qe,fr5⟩=>?_)
  have I5':=I5.pinned (stat fr5) (T.obj _ _ Qe)
  refine wpAny_passesOwn hp (Ť (hg _ s5 σ3 H5 x u _ I5' r5 (step x H5 y5)) λ_ s6 ⟨σ6,H6,I6,q6⟩=>?_)
  refine wpAny_passesOwn hp (Ť (hb _ s6 σ6 H6 _ I6 q6) λf s7 q7=>?_)
  have again:∀{σ7:St} {H7:Hp},Inv X (pins++mR fp s5.heap) σ7 H7 s7->N σ7 H7->∃m,m<n/\∃i σ' H',Inv X pins σ' H' s7/\tn i s7.heap/\(∀b∈fp,H' b=none)/\W i m σ' H':=fun{σ7 H7} I7 n7=>by
   obtain⟨m',hm,w7⟩:=hN σ7 H7 n7
   refine⟨m',hm,i+1,σ7,H7,I7.eU,T.keep _ _ _ Qe λb hb o e=>(I7.pin (b,o) (List.mem_append_right _ (List.mem_append_right _ (ź hb e)))).1,λb hb=>?_,w7⟩
   obtain⟨o,e,d⟩:=T.obj _ _ Qe b hb
   exact(I7.pin (b,o) (List.mem_append_right _ (List.mem_append_right _ (ź hb e)))).2.1
  cases f with
  |next=>obtain⟨σ7,H7,I7,n7⟩:=q7;exact again I7 n7
  |cont=>obtain⟨σ7,H7,I7,n7⟩:=q7;exact again I7 n7
  |brk=>obtain⟨σ7,H7,I7,q7⟩:=q7;exact⟨σ7,H7,I7.eU,q7⟩
  |ret v=>obtain⟨x7,σ7,H7,I7,r7,q7⟩:=q7;exact⟨x7,σ7,H7,I7.eU,r7,q7⟩
end
end L2
namespace L2
open PySem PySem.Spec PyProof.Rows
abbrev R2:=V->V->Hp->VK->Prop
def Ű(X:Cx)(f:Value->Value->Sem Value)(r:R2):Prop:=
 ∀(pins:List (Addr×Obj)) (s:Shared) (σ:St) (H:Hp) (x y:V) (v u:Value) (Q:VK),Inv X pins σ H s->RelV x v->RelV y u->r x y H Q->
  wpAny (model X.prog X.w) X.A (f v u) (EP X pins σ Q) X.xe s
def Qf(X:Cx)(f:Value->Sem Value)(r:V->Hp->VK->Prop):Prop:=
 ∀(pins:List (Addr×Obj)) (s:Shared) (σ:St) (H:Hp) (x:V) (v:Value) (Q:VK),Inv X pins σ H s->RelV x v->r x H Q->
  wpAny (model X.prog X.w) X.A (f v) (EP X pins σ Q) X.xe s
def Ŏ(X:Cx)(f:Value)(r:List V->Hp->VK->Prop):Prop:=
 ∀(pins:List (Addr×Obj)) (s:Shared) (σ:St) (H:Hp) (xs:List V) (us:List Value) (Q:VK),Inv X pins σ H s->Vals xs us->r xs H Q->
  wpAny (model X.prog X.w) X.A (call f us) (EP X pins σ Q) X.xe s
def Zgv(X:Cx)(r:V->Hp->(Bool->Hp->Prop)->Prop):Prop:=
 ∀(pins:List (Addr×Obj)) (s:Shared) (σ:St) (H:Hp) (x:V) (v:Value) (Q:Bool->Hp->Prop),Inv X pins σ H s->RelV x v->r x H Q->
  wpAny (model X.prog X.w) X.A (truthy v) (TP X pins σ Q) X.xe s
def tOp(r:R2)(ta tb:TE):TE:=λσ H Q=>ta σ H λx H1=>tb σ H1 λy H2=>r x y H2 Q
def tUn(r:V->Hp->VK->Prop)(ta:TE):TE:=λσ H Q=>ta σ H λx H1=>r x H1 Q
def rI(C:Int->Int->Prop)(g:Int->Int->V):R2:=λx y H Q=>∃i j,x=.int i/\y=.int j/\C i j/\Q (g i j) H
def Jh(g:Int->Int->V):R2:=λx y H Q=>∃i j,x=.int i/\y=.int j/\Q (g i j) H
def rU(g:Int->V):V->Hp->VK->Prop:=λx H Q=>∃i,x=.int i/\Q (g i) H
section
variable{X:Cx}{a b c:Expr}{ta tb tc:TE}{pos:Pos}
def Zbe(ha:PE X a ta)(hb:PE X b tb){pins:List (Addr×Obj)}{s:Shared}{σ:St}{H:Hp}{R:V->V->Hp->Prop}(I:Inv X pins σ H s)
 (h:ta σ H λx H1=>tb σ H1 λy H2=>R x y H2){Q:Value->Shared->Prop}{f:Value->Value->Sem Value}
 (hf:∀v u s2 x y H2,Inv X pins σ H2 s2->RelV x v->RelV y u->R x y H2->wpAny (model X.prog X.w) X.A (f v u) Q X.xe s2) :
 wpAny (model X.prog X.w) X.A (eval a X.env) (λv s₁=>wpAny (model X.prog X.w) X.A (eval b X.env) (λu s₂=>wpAny (model X.prog X.w) X.A (f v u) Q X.xe s₂) X.xe s₁) X.xe s:=by
 refine Ť (ha pins s σ H _ I h) λv s1 ⟨x,H1,I1,r1,q1⟩=>?_
 refine Ť (hb pins s1 σ H1 _ I1 q1) λu s2 ⟨y,H2,I2,r2,q2⟩=>?_
 exact hf v u s2 x y H2 I2 r1 r2 q2
def Sx{op:Operator}{r:R2}(ho:Ű X (binaryOp op) r)(ha:PE X a ta)(hb:PE X b tb):PE X (.BinOp a op b pos) (tOp r ta tb):=by
 intro pins s σ H Q I h
 exact wpAny_BinOp (Zbe ha hb I h λv u s2 x y H2 I2 rx ry q=>ho pins s2 σ H2 x y v u Q I2 rx ry q)
def Zd1{op:UnaryOp}{r:V->Hp->VK->Prop}(ho:Qf X (unaryOp op) r)(ha:PE X a ta):PE X (.UnaryOp op a pos) (tUn r ta):=by
 intro pins s σ H Q I h
 exact UnaryOp_ (Ť (ha pins s σ H _ I h) λv s1 ⟨x,H1,I1,r1,q1⟩=>ho pins s1 σ H1 x v Q I1 r1 q1)
def Fd{f:Value->Value->Sem Value}{C:Int->Int->Prop}{g:Int->Int->Int}
 (rule:∀(i j:Int) (t u:Tok) (s:Shared) (Q:Value->Shared->Prop) (E:Value->Shared->Prop),C i j->Q (.int (g i j) s.toks) {s with toks:=s.toks+1}->wpAny (model X.prog X.w) X.A (f (.int i t) (.int j u)) Q E s) :
 Ű X f (rI C λi j=>.int (g i j)):=by
 intro pins s σ H x y v u Q I rx ry h
 obtain⟨i,j,rfl,rfl,hc,q⟩:=h
 obtain⟨t,rfl⟩:=rx
 obtain⟨t',rfl⟩:=ry
 exact rule i j t t' s _ _ hc ⟨.int (g i j),H,I.tok _,⟨_,rfl⟩,q⟩
def t_{f:Value->Value->Sem Value}{g:Int->Int->Int}
 (rule:∀(i j:Int) (t u:Tok) (s:Shared) (Q:Value->Shared->Prop) (E:Value->Shared->Prop),Q (.int (g i j) s.toks) {s with toks:=s.toks+1}->wpAny (model X.prog X.w) X.A (f (.int i t) (.int j u)) Q E s) :
 Ű X f (Jh λi j=>.int (g i j)):=by
 intro pins s σ H x y v u Q I rx ry h
 obtain⟨i,j,rfl,rfl,q⟩:=h
 obtain⟨t,rfl⟩:=rx
 obtain⟨t',rfl⟩:=ry
 exact rule i j t t' s _ _ ⟨.int (g i j),H,I.tok _,⟨_,rfl⟩,q⟩
def Qg{f:Value->Value->Sem Value}{g:Int->Int->Bool}
 (rule:∀(i j:Int) (t u:Tok) (s:Shared) (Q:Value->Shared->Prop) (E:Value->Shared->Prop),Q (.bool (g i j)) s->wpAny (model X.prog X.w) X.A (f (.int i t) (.int j u)) Q E s) :
 Ű X f (Jh λi j=>.bl (g i j)):=by
 intro pins s σ H x y v u Q I rx ry h
 obtain⟨i,j,rfl,rfl,q⟩:=h
 obtain⟨t,rfl⟩:=rx
 obtain⟨t',rfl⟩:=ry
 exact rule i j t t' s _ _ ⟨.bl (g i j),H,I,rfl,q⟩
def Hj(i j:Int):Prop:=0<=j/\j<=1000000/\i.natAbs<2 ^ 64
def Zbf(i j:Int):Prop:=(-(2 ^ 64)<i/\i<2 ^ 64)\/(-(2 ^ 64)<j/\j<2 ^ 64)
def Zbf.ok{i j:Int}(h:Zbf i j):IntMulOk i j:=by
 rcases h with⟨h1,h2⟩|⟨h1,h2⟩
 ·exact .of_left (intBits_le_64 h1 h2)
 ·exact .of_right (intBits_le_64 h1 h2)
def Bt(k:Nat):(0:Int)<=2 ^ k:=by
 rw[two_pow_cast]
 exact Int.natCast_nonneg _
def Zbg:Ű X (binaryOp .Add) (Jh λi j=>.int (i+j)):=t_ λ_ _ _ _ _ _ _ q=>add_int q
def Zbh:Ű X (binaryOp .Sub) (Jh λi j=>.int (i-j)):=t_ λ_ _ _ _ _ _ _ q=>sub_int q
def Qh:Ű X (binaryOp .Mod) (rI (λ_ j=>j≠0) λi j=>.int (i.fmod j)):=Fd λ_ _ _ _ _ _ _ hc q=>mod_int' hc q
def Zbi:Ű X (binaryOp .Pow) (rI Hj λi j=>.int (i ^ j.toNat)):=Fd λ_ _ _ _ _ _ _ hc q=>pow_int_small hc.1 hc.2.1 hc.2.2 q
def Zbj:Ű X (binaryOp .LShift) (rI Hj λi j=>.int (i*2 ^ j.toNat)):=Fd λ_ _ _ _ _ _ _ hc q=>lshift_int_small hc.1 hc.2.1 hc.2.2 q
def Zbk:Ű X (binaryOp .RShift) (rI (λ_ j=>0<=j) λi j=>.int (i / 2 ^ j.toNat)):=Fd λi j _ _ _ _ _ hc q=>
 rshift_int hc (by rw[Int.fdiv_eq_ediv_of_nonneg i (Bt _)];exact q)
def Zbl:Ű X (binaryOp .BitAnd) (Jh λi j=>.int (Builtin.bitAnd i j)):=t_ λ_ _ _ _ _ _ _ q=>and_int q
def Zd2:Ű X (binaryOp .BitOr) (Jh λi j=>.int (Builtin.bitOr i j)):=t_ λ_ _ _ _ _ _ _ q=>or_int q
def unI{f:Value->Sem Value}{g:Int->Int}
 (rule:∀(i:Int) (t:Tok) (s:Shared) (Q:Value->Shared->Prop) (E:Value->Shared->Prop),Q (.int (g i) s.toks) {s with toks:=s.toks+1}->wpAny (model X.prog X.w) X.A (f (.int i t)) Q E s) :
 Qf X f (rU λi=>.int (g i)):=by
 intro pins s σ H x v Q I rx h
 obtain⟨i,rfl,q⟩:=h
 obtain⟨t,rfl⟩:=rx
 exact rule i t s _ _ ⟨.int (g i),H,I.tok _,⟨_,rfl⟩,q⟩
def Zbm:Qf X (unaryOp .USub) (rU λi=>.int (-i)):=unI λ_ _ _ _ _ q=>neg_int q
end
section
variable{X:Cx}{a b c:Expr}{ta tb tc:TE}{pos:Pos}
def Ji{pins:List (Addr×Obj)}{σ:St}{H:Hp}{s:Shared}{Q:VK}{k k':Bool}(I:Inv X pins σ H s)(q:Q (.bl k) H)(e:k=k'):EP X pins σ Q (.bool k') s:=by
 subst e
 exact⟨.bl k,H,I,rfl,q⟩
def Zd3:Ű X (compareOp .Lt) (Jh λi j=>.bl (decide (i<j))):=Qg λ_ _ _ _ _ _ _ q=>lt_int q
def Zd4:Ű X (compareOp .LtE) (Jh λi j=>.bl (decide (i<=j))):=Qg λ_ _ _ _ _ _ _ q=>le_int q
def Zd5:Ű X (compareOp .Gt) (Jh λi j=>.bl (decide (j<i))):=Qg λ_ _ _ _ _ _ _ q=>gt_int q
def Zd6:Ű X (compareOp .GtE) (Jh λi j=>.bl (decide (j<=i))):=Qg λ_ _ _ _ _ _ _ q=>ge_int q
def qy:Ű X (compareOp .Is) (λx y H Q=>y=.non/\Q (.bl (decide (x=.non))) H):=by
 intro pins s σ H x y v u Q I rx ry h
 obtain⟨rfl,q⟩:=h
 cases ry
 refine is_none_gen (Ji I q ?_)
 cases x<;>first
  |(cases rx;rfl)
  |(obtain⟨t,rfl⟩:=rx;rfl)
def jl:Ű X (compareOp .IsNot) (λx y H Q=>y=.non/\Q (.bl (!decide (x=.non))) H):=by
 intro pins s σ H x y v u Q I rx ry h
 obtain⟨rfl,q⟩:=h
 cases ry
 refine isnot_none_gen (Ji I q ?_)
 cases x<;>first
  |(cases rx;rfl)
  |(obtain⟨t,rfl⟩:=rx;rfl)
def Ű.or{f:Value->Value->Sem Value}{r r':R2}(h:Ű X f r)(h':Ű X f r'):Ű X f (λx y H Q=>r x y H Q\/r' x y H Q):=by
 intro pins s σ H x y v u Q I rx ry q
 rcases q with q|q
 ·exact h pins s σ H x y v u Q I rx ry q
 ·exact h' pins s σ H x y v u Q I rx ry q
def Ň(b:Expr){op:CmpOp}(h:op≠ .In:=by decide)(h2:op≠ .NotIn:=by decide):behindInMarks op b=false:=by
 have e1:(op== CmpOp.In)=false:=by cases op<;>first|rfl|exact absurd rfl h
 have e2:(op== CmpOp.NotIn)=false:=by cases op<;>first|rfl|exact absurd rfl h2
 cases b<;>simp[behindInMarks,e1,e2]
def Qi{op:CmpOp}{r:R2}(ho:Ű X (compareOp op) r)(ha:PE X a ta)(hb:PE X b tb)(hm:behindInMarks op b=false):PE X (.Compare a [op] [b] pos) (tOp r ta tb):=by
 intro pins s σ H Q I h
 exact wpAny_Compare1 (Zbe ha hb I h λv u s2 x y H2 I2 rx ry q=>ho pins s2 σ H2 x y v u Q I2 rx ry q) hm
def Zbn(K:PySem.W.Frag)(x:V)(H:Hp)(k:Bool):Prop:=
 match x with
 | .non=>k=false
 | .bl b=>k=b
 | .int i=>k=(i != 0)
 | .str y=>y.length<=sizeLine/\k=((y.length:Int) != 0)
 | .Sv y=>y.size<=sizeLine/\k=((y.size:Int) != 0)
 | .ref p=>(∃xs,ų K H p xs/\k=!xs.isEmpty)\/(∃xs,dw K H p xs/\k=!xs.isEmpty)\/∃kvs,H p=some (.dK kvs)/\k=!kvs.isEmpty
 |_=>False
def Bu{κ:Type}{kvs:List (κ×V)}{vs:List (κ×Value)}(r:KV kvs vs):(!vs.isEmpty)=!kvs.isEmpty:=by
 cases r<;>rfl
def qC{xs:List V}{its:List Value}(r:Vals xs its):(!its.toArray.isEmpty)=!xs.isEmpty:=by
 cases r<;>simp
def mV:(sizeLine:Nat)<2 ^ 63:=by rw[sizeLine_eq];decide
def Zbo:Zgv X (λx H Q=>∃k,Zbn X.K x H k/\Q k H):=by
 intro pins s σ H x v Q I rx h
 obtain⟨k,e,q⟩:=h
 have hl:=mV
 have hs:sizeLine=16777216:=sizeLine_eq
 cases x with
 |non=>
  cases rx
  have e':k=false:=e
  subst e'
  exact truthy_none ⟨H,I,q⟩
 |bl b=>
  cases rx
  have e':k=b:=e
  subst e'
  exact wpAny_truthy_bool ⟨H,I,q⟩
 |int i=>
  obtain⟨t,rfl⟩:=rx
  have e':k=(i != 0):=e
  subst e'
  exact PySem.P.truthy_int ⟨H,I,q⟩
 |str y=>
  obtain⟨t,rfl⟩:=rx
  obtain⟨hy,e'⟩:y.length<=sizeLine/\k=((y.length:Int) != 0):=e
  subst e'
  exact PySem.P.truthy_str (by omega) ⟨H,I.tok _,q⟩
 |Sv y=>
  obtain⟨t,rfl⟩:=rx
  obtain⟨hy,e'⟩:y.size<=sizeLine/\k=((y.size:Int) != 0):=e
  subst e'
  exact PySem.W.truthy_bytes (by omega) ⟨H,I.tok _,q⟩
 |ref p=>
  cases rx
  have e':(∃xs,ų X.K H p xs/\k=!xs.isEmpty)\/(∃xs,dw X.K H p xs/\k=!xs.isEmpty)\/∃kvs,H p=some (.dK kvs)/\k=!kvs.isEmpty:=e
  rcases e' with⟨xs,hx,e'⟩|⟨xs,hx,e'⟩|⟨kvs,hx,e'⟩
  ·subst e'
   obtain⟨its,r,pl,hz⟩:=I.list hx
   have hlen:=r.length
   exact wpAny_truthy_list pl.isList (by simp only[List.size_toArray];omega) ⟨H,I.tok _,by rw[qC r];exact q⟩
  ·subst e'
   obtain⟨its,r,pl,hz⟩:=I.tuple hx
   have hlen:=r.length
   exact truthy_tuple pl (by simp only[List.size_toArray];omega) ⟨H,I.tok _,by rw[qC r];exact q⟩
  ·subst e'
   obtain⟨hz,hS,vs,r,m⟩:kvs.length<=sizeLine/\(p== sysModules)=false/\∃vs,KV kvs vs/\s.heap.DictOf (vV X.prog X.w) p vs:=I.hok p _ hx
   have hlen:kvs.length=vs.length:=Paired.length r
   exact wpAny_truthy_dict hS m (by omega) ⟨H,I.tok _,by rw[Bu r];exact q⟩
 |_=>exact(show False from e).elim
def Jj(ha:PE X a ta)(he:∀whole,isTrue a X.env whole=(do let v <-whole;standAt a.pos;holding [v] (truthy v))) :
 PT X a (λσ H Q=>ta σ H λx H'=>∃k,Zbn X.K x H' k/\Q k H'):=by
 intro pins s σ H Q I h
 exact isTrue_plain (Ť (ha pins s σ H _ I h) λv s1 ⟨x,H1,I1,r1,q1⟩=>Zbo pins s1 σ H1 x v Q I1 r1 q1) (he _)
def Bv:Ű X (binaryOp .Add) (λx y H Q=>∃i j,x=.str i/\y=.str j/\i.length+j.length<=sizeLine/\Q (.str (i++j)) H):=by
 intro pins s σ H x y v u Q I rx ry h
 obtain⟨i,j,rfl,rfl,hz,q⟩:=h
 obtain⟨t,rfl⟩:=rx
 obtain⟨t',rfl⟩:=ry
 exact add_str (λt' tk=>⟨.str (i++j),H,I.tok _,⟨_,rfl⟩,q⟩) hz
def vals1{x:V}{us:List Value}(r:Vals [x] us):∃u,us=[u]/\RelV x u:=by
 cases r with
 |cons r1 r2=>cases r2;exact⟨_,rfl,r1⟩
def vals2{x y:V}{us:List Value}(r:Vals [x,y] us):∃u w',us=[u,w']/\RelV x u/\RelV y w':=by
 cases r with
 |cons r1 r2=>
  cases r2 with
  |cons r3 r4=>cases r4;exact⟨_,_,rfl,r1,r3⟩
def Jk:Ŏ X (.builtin "abs") (λxs H Q=>∃i,xs=[.int i]/\Q (.int (if i<0 then -i else i)) H):=by
 intro pins s σ H xs us Q I r h
 obtain⟨i,rfl,q⟩:=h
 obtain⟨u,rfl,t,rfl⟩:=vals1 r
 exact call_abs_int λu tk=>⟨.int (if i<0 then -i else i),H,I.tok _,⟨_,rfl⟩,q⟩
def Hl(hc:X.calm=true):Ŏ X (.builtin "max") (λxs H Q=>∃i j,xs=[.int i,.int j]/\Q (.int (if j>i then j else i)) H):=by
 intro pins s σ H xs us Q I r h
 obtain⟨i,j,rfl,q⟩:=h
 obtain⟨u,w',rfl,⟨t,rfl⟩,⟨t',rfl⟩⟩:=vals2 r
 refine max_two_ints (I.ok.hd hc) λh' tk k=>⟨_,H,I.kept k,?_,q⟩
 by_cases hj:j>i
 ·rw[if_pos hj,if_pos hj];exact⟨_,rfl⟩
 ·rw[if_neg hj,if_neg hj];exact⟨_,rfl⟩
def Ho(hc:X.calm=true):Ŏ X (.builtin "min") (λxs H Q=>∃i j,xs=[.int i,.int j]/\Q (.int (if j<i then j else i)) H):=by
 intro pins s σ H xs us Q I r h
 obtain⟨i,j,rfl,q⟩:=h
 obtain⟨u,w',rfl,⟨t,rfl⟩,⟨t',rfl⟩⟩:=vals2 r
 refine min_two_ints (I.ok.hd hc) λh' tk k=>⟨_,H,I.kept k,?_,q⟩
 by_cases hj:j<i
 ·rw[if_pos hj,if_pos hj];exact⟨_,rfl⟩
 ·rw[if_neg hj,if_neg hj];exact⟨_,rfl⟩
def Hq:Ŏ X (.type "int") (λxs H Q=>(∃i,xs=[.int i]/\Q (.int i) H)\/∃k,xs=[.bl k]/\Q (.int (if k then 1 else 0)) H):=by
 intro pins s σ H xs us Q I r h
 rcases h with⟨i,rfl,q⟩|⟨k,rfl,q⟩
 ·obtain⟨u,rfl,t,rfl⟩:=vals1 r
  exact call_int_int ⟨.int i,H,I,⟨_,rfl⟩,q⟩
 ·obtain⟨u,rfl,r1⟩:=vals1 r
  cases r1
  exact call_int_bool ⟨.int (if k then 1 else 0),H,I.tok _,⟨_,rfl⟩,q⟩
def vY:Ŏ X (.type "str") (λxs H Q=>∃i,xs=[.int i]/\i.natAbs.log2<1920/\Q (.str (toString i)) H):=by
 intro pins s σ H xs us Q I r h
 obtain⟨i,rfl,hz,q⟩:=h
 obtain⟨u,rfl,t,rfl⟩:=vals1 r
 exact PySem.P.str_of_int hz ⟨.str _,H,I.tok _,⟨_,rfl⟩,q⟩
def Zgw(K:PySem.W.Frag)(x:V)(H:Hp)(n:Nat):Prop:=
 match x with
 | .str y=>y.length<=sizeLine/\n=y.length
 | .Sv y=>y.size<=sizeLine/\n=y.size
 | .ref p=>(∃xs,ų K H p xs/\n=xs.length)\/∃xs,dw K H p xs/\n=xs.length
 |_=>False
def Jl:Ŏ X (.builtin "len") (λxs H Q=>∃x n,xs=[x]/\Zgw X.K x H n/\Q (.int n) H):=by
 intro pins s σ H xs us Q I r h
 obtain⟨x,n,rfl,e,q⟩:=h
 obtain⟨u,rfl,rx⟩:=vals1 r
 have hl:=mV
 have hs:sizeLine=16777216:=sizeLine_eq
 cases x with
 |str y=>
  obtain⟨t,rfl⟩:=rx
  obtain⟨hy,e'⟩:y.length<=sizeLine/\n=y.length:=e
  subst e'
  exact len_str (by omega) ⟨.int _,H,I.tok _,⟨_,rfl⟩,q⟩
 |Sv y=>
  obtain⟨t,rfl⟩:=rx
  obtain⟨hy,e'⟩:y.size<=sizeLine/\n=y.size:=e
  subst e'
  exact PySem.W.len_bytes (by omega) ⟨.int _,H,I.tok _,⟨_,rfl⟩,q⟩
 |ref p=>
  cases rx
  have e':(∃xs,ų X.K H p xs/\n=xs.length)\/∃xs,dw X.K H p xs/\n=xs.length:=e
  rcases e' with⟨xs,hx,e'⟩|⟨xs,hx,e'⟩
  ·subst e'
   obtain⟨its,r',pl,hz⟩:=I.list hx
   have hlen:=r'.length
   exact Calls.call_len_list pl.isList (by simp only[List.size_toArray];omega) ⟨.int xs.length,H,I.tok _,⟨_,by simp only[List.size_toArray];rw[hlen]⟩,q⟩
  ·subst e'
   obtain⟨its,r',pl,hz⟩:=I.tuple hx
   have hlen:=r'.length
   exact len_tuple pl (by simp only[List.size_toArray];omega) ⟨.int xs.length,H,I.tok _,⟨_,by simp only[List.size_toArray];rw[hlen]⟩,q⟩
 |_=>exact(show False from e).elim
end
end L2
namespace L2
open PySem PySem.Spec PyProof.Rows
structure Bw(h:Heap)(x dx C:Addr)(mA:Str->Option Value):Prop where
 obj:h.get? x=some (PySem.W.instObj C dx)
 ns:h.Ns1 dx mA
 ne:dx≠x
def Hr{h:Heap}{dx:Addr}{mA:Str->Option Value}(n:h.Ns1 dx mA):∃od,h.get? dx=some od/\∀name,PySem.W.lookIn name od=some (mA name):=by
 obtain⟨o,es,ep,ho,hd,hk,_,hm⟩:=n
 refine⟨o,ho,λname=>?_⟩
 have e:=hm name
 unfold nsFind findBy at e
 rw[<-Array.find?_toList] at e
 unfold PySem.W.lookIn
 rw[hd]
 dsimp only
 split
 ·rename_i y q
  rw[q] at e
  exact congrArg some e
 ·rename_i q
  rw[q] at e
  have a:es.toList.any (·.refKey)=false:=by
   rw[List.any_eq_false]
   intro y hy
   obtain⟨z,t,hkey⟩:=hk y (Array.mem_toList_iff.mp hy)
   simp[DictEntry.refKey,hkey]
  have a':¬es.toList.any (·.refKey)=true:=by rw[a];exact Bool.false_ne_true
  rw[if_neg a']
  exact congrArg some e
def Bw.look{h:Heap}{x dx C:Addr}{mA:Str->Option Value}(I:Bw h x dx C mA):∃od,PySem.W.InstAt h x (PySem.W.instObj C dx) C (some od)/\∀name,PySem.W.lookIn name od=some (mA name):=
 let ⟨od,ho,hl⟩:=Hr I.ns
 ⟨od,⟨I.obj,rfl,rfl,ho⟩,hl⟩
section
variable{prog:Program}{w:World}{A:Around}{E:Value->Shared->Prop}{s:Shared}{K:PySem.W.Frag}{x dx C f:Addr}{mA:Str->Option Value}{name:Str}{v:Value}
def get_map{expr:Bool}{Q:Value->Shared->Prop}(X:K.In s.heap)(I:Bw s.heap x dx C mA)(hg:PySem.W.plainGet K C name=true)(hh:PySem.W.hasDictIn K C=true)
 (ha:PySem.W.findIn K (.ref C) name=some none)(hv:mA name=some v)(hv':PySem.W.handedIn v=true)(h:Q v {s with toks:=s.toks+1}) :
 wpAny (model prog w) A (getAttr (.ref x) name expr) Q E s:=by
 obtain⟨od,J,hl⟩:=I.look
 exact PySem.W.get_value X J (PySem.W.plainGet_of hg).1 (PySem.W.findObj_own hh ha rfl (by rw[hl,hv])) hv' h
def Jm{pl:Sem Bool}{Q:Value×List Value->Shared->Prop}(X:K.In s.heap)(I:Bw s.heap x dx C mA)(hg:PySem.W.plainGet K C name=true)
 (hf:PySem.W.findIn K (.ref C) name=some (some (.ref f)))(ht:PySem.W.isFn K (.ref f)=true)(hv:mA name=none)(h:Q (.ref f,[.ref x]) s) :
 wpAny (model prog w) A (getMethod (.ref x) name pl) Q E s:=by
 obtain⟨od,J,hl⟩:=I.look
 exact PySem.W.method_fn X J (PySem.W.plainGet_of hg).1 (PySem.W.plainGet_of hg).2 hf (beq_iff_eq.mp ht) (by show(PySem.W.lookIn name od).map (·.isSome)=some false;rw[hl,hv];rfl) h
def Qj{ns:List Str}{Q:Unit->Shared->Prop}(X:K.In s.heap)(I:Bw s.heap x dx C mA)
 (hs:PySem.W.findIn K (.ref C) "__setattr__" =some (some (.builtin "object.__setattr__")))(hp:PySem.W.plainOver K C=true)(ht:PySem.W.takerIn K C name=some none)(hh:PySem.W.hasDictIn K C=true)
 (hw:PySem.Within mA ns)(hsz:ns.length<=sizeLine)
 (h:∀h',Bw h' x dx C (λy=>if y=name then some v else mA y)->Heap.SameBut dx s.heap h'->Q () {s with heap:=h',toks:=s.toks+2}) :
 wpAny (model prog w) A (setAttr (.ref x) name v) Q E s:=by
 obtain⟨od,J,hl⟩:=I.look
 refine PySem.W.set_plain X J hs (PySem.W.osa_open (s:={s with toks:=s.toks+1}) (r:=none) X J hp ht λb=>?_)
 obtain⟨cd,hc,hd'⟩:=PySem.W.any_some hh
 have hx:s.heap.get? x=some ⟨.ref C,some dx,.plain,#[]⟩:=I.obj
 refine wpAny_bind (wpAny_pure (wpAny_bind (wpAny_bind (wpAny_loadPart hx (wpAny_bind (PySem.W.Looks.here (s:={s with toks:=s.toks+1}) (PySem.W.looks_clsIn X hc) ?_))))))
 rw[hd']
 refine wpAny_pure (a:=some dx) (wpAny_bind (wpAny_pure (wpAny_bind ?_)))
 refine wpAny_nsSet1 (s:={s with toks:=s.toks+1}) I.ns λh' hn2 hs2=>?_
 obtain⟨oD,esD,epD,hoD,hdD,hcD⟩:=hn2.count (PySem.Within.cons name v hw)
 refine wpAny_bind (wpAny_lookBehind hoD (by rw[hdD];exact pastItsLine_dict (Nat.le_trans hcD (by rw[List.length_cons];omega))) ?_)
 exact wpAny_pure (h _ ⟨(hs2.2 _ (Ne.symm I.ne)).trans I.obj,hn2,I.ne⟩ hs2)
def Jo{R:Result->Shared->Prop}{vs:List Value}{kw:List (Str×Value)}(X:K.In s.heap)(hm:PySem.W.makesIn K C=true)
 (hi:PySem.W.findIn K (.ref C) "__init__" =some (some (.ref f)))(hf:PySem.W.typeIn K (.ref f)=some (.type "function"))
 (h:codeAny (model prog w) (A.under (.builtin "type.__call__" ⟨.ref C::vs,kw⟩)) (.call (.ref f) ⟨.ref (s.heap.objs.size+1)::vs,kw⟩) (PySem.W.InitBack (s.heap.objs.size+1) R)
   {s with heap:=(s.heap.push PySem.W.emptyDict).push (PySem.W.instObj C s.heap.objs.size)}) :
 codeAny (model prog w) A (.call (.ref C) ⟨vs,kw⟩) R s:=by
 obtain⟨hh,g,d,t,os⟩:=s
 exact PySem.W.make_core (PySem.W.makes_of X hm) (PySem.W.looks_findIn X hi) (λself=>PySem.W.bind_fn X self hf) (.inl rfl) h
end
def fP(f:Str)(v:V):List (Str×V)->List (Str×V)
 | []=>[(f,v)]
 |(g,x)::r=>if g=f then(g,v)::r else(g,x)::fP f v r
theorem nW(f g:Str)(v:V):∀fs:List (Str×V),(fP f v fs).lookup g=if g=f then some v else fs.lookup g
 | []=>by
   show List.lookup g [(f,v)]=_
   by_cases h:g=f
   ·have hb:(g== f)=true:=beq_iff_eq.mpr h
    simp only[List.lookup,hb,if_pos h]
   ·have hb:(g== f)=false:=beq_eq_false_iff_ne.mpr h
    simp only[List.lookup,hb,if_neg h]
 |(k,x)::r=>by
  have ih:=nW f g v r
  rw[show fP f v ((k,x)::r)=(if k=f then(k,v)::r else(k,x)::fP f v r) from rfl]
  by_cases hk:k=f
  ·rw[if_pos hk]
   by_cases h:g=k
   ·have hb:(g== k)=true:=beq_iff_eq.mpr h
    simp only[List.lookup,hb,if_pos (h.trans hk)]
   ·have hb:(g== k)=false:=beq_eq_false_iff_ne.mpr h
    simp only[List.lookup,hb,if_neg (λe:g=f=>h (e.trans hk.symm))]
  ·rw[if_neg hk]
   by_cases h:g=k
   ·have hb:(g== k)=true:=beq_iff_eq.mpr h
    simp only[List.lookup,hb,if_neg (λe:g=f=>hk (h.symm.trans e))]
   ·have hb:(g== k)=false:=beq_eq_false_iff_ne.mpr h
    simp only[List.lookup,hb]
    exact ih
theorem mW(f:Str)(v:V):∀fs:List (Str×V),f∈(fP f v fs).map (·.1)/\∀g,g∈fs.map (·.1)->g∈(fP f v fs).map (·.1)
 | []=>⟨by simp[fP],λg h=>by simp at h⟩
 |(k,x)::r=>by
  obtain⟨i1,i2⟩:=mW f v r
  rw[show fP f v ((k,x)::r)=(if k=f then(k,v)::r else(k,x)::fP f v r) from rfl]
  by_cases hk:k=f
  ·rw[if_pos hk]
   subst hk
   exact⟨by simp,λg h=>by simpa using h⟩
  ·rw[if_neg hk]
   refine⟨?_,λg h=>?_⟩
   ·rw[List.map_cons]
    exact List.mem_cons_of_mem _ i1
   ·rw[List.map_cons] at h ⊢
    rcases List.mem_cons.mp h with e|e
    ·exact List.mem_cons.mpr (.inl e)
    ·exact List.mem_cons_of_mem _ (i2 g e)
theorem nY(f:Str)(v:V):∀fs:List (Str×V),(fP f v fs).length<=fs.length+1
 | []=>by simp[fP]
 |(k,x)::r=>by
  have ih:=nY f v r
  rw[show fP f v ((k,x)::r)=(if k=f then(k,v)::r else(k,x)::fP f v r) from rfl]
  by_cases hk:k=f
  ·rw[if_pos hk,List.length_cons,List.length_cons];omega
  ·rw[if_neg hk,List.length_cons,List.length_cons];omega
def tW.some_of{v:V}{o:Option Value}(r:tW (some v) o):∃u,o=some u/\RelV v u:=by
 cases o with
 |none=>exact(show False from r).elim
 |some u=>exact⟨u,rfl,r⟩
def tW.none_of{o:Option Value}(r:tW none o):o=none:=by
 cases o with
 |none=>rfl
 |some u=>exact(show False from r).elim
def Hs{v:V}{u:Value}(r:RelV v u):PySem.W.handedIn u=true:=by
 cases v with
 |non=>cases(show u=Value.none from r);rfl
 |bl b=>cases(show u=Value.bool b from r);rfl
 |int i=>obtain⟨t,e⟩:=(show ∃t,u=Value.int i t from r);cases e;rfl
 |str x=>obtain⟨t,e⟩:=(show ∃t,u=Value.str x t from r);cases e;rfl
 |Sv b=>obtain⟨t,e⟩:=(show ∃t,u=Value.bytes b t from r);cases e;rfl
 |flt b=>obtain⟨t,e⟩:=(show ∃t,u=Value.float b t from r);cases e;rfl
 |ref a=>cases(show u=Value.ref a from r);rfl
 |ty n=>cases(show u=Value.type n from r);rfl
section
variable{P:Program}{w:World}{H H':Hp}{h h':Heap}{a C dx:Addr}{fs fs':List (Str×V)}
def pZ(hok:kO P w H h)(e:H a=some (.ins C dx fs)):∃mA,Bw h a dx C mA/\(∀f,tW (fs.lookup f) (mA f))/\PySem.Within mA (fs.map (·.1))/\fs.length<=1000/\H dx=some (.own a):=by
 obtain⟨d,z,ne,ob,mA,n,r,q⟩:=(show aN P w H h a (.ins C dx fs) from hok a _ e)
 exact⟨mA,⟨ob,n,ne⟩,r,q,z,d⟩
end
structure Cls(K:PySem.W.Frag)(C:Addr):Prop where
 pg:PySem.W.plainGet K C Str.empty=true
 hd:PySem.W.hasDictIn K C=true
 po:PySem.W.plainOver K C=true
 sa:PySem.W.findIn K (.ref C) "__setattr__" =some (some (.builtin "object.__setattr__"))
def Cls.get{K:PySem.W.Frag}{C:Addr}(c:Cls K C)(f:Str):PySem.W.plainGet K C f=true:=c.pg
def Ń(K:PySem.W.Frag)(C:Addr)(f:Str):Prop:=PySem.W.findIn K (.ref C) f=some none
def Ń.taker{K:PySem.W.Frag}{C:Addr}{f:Str}(n:Ń K C f):PySem.W.takerIn K C f=some none:=by
 unfold PySem.W.takerIn
 rw[show PySem.W.findIn K (.ref C) f=some none from n]
 rfl
structure Meth(K:PySem.W.Frag)(C:Addr)(m:Str)(f:Addr):Prop where
 at_:PySem.W.findIn K (.ref C) m=some (some (.ref f))
 fn:PySem.W.isFn K (.ref f)=true
 kp:PySem.W.keepIn K (.ref f)=true
section
variable{X:Cx}{pins:List (Addr×Obj)}{σ:St}{H:Hp}{s:Shared}{a C dx:Addr}{fs:List (Str×V)}{f:Str}{v:V}{A:Around}{E:Value->Shared->Prop}
def Bx{b:Bool}{Q:Value->Shared->Prop}(I:Inv X pins σ H s)(e:H a=some (.ins C dx fs))(c:Cls X.K C)(n:Ń X.K C f)(l:fs.lookup f=some v)
 (h:∀u s',Inv X pins σ H s'->RelV v u->Q u s'):wpAny (model X.prog X.w) A (getAttr (.ref a) f b) Q E s:=by
 obtain⟨mA,O,r,_,_,_⟩:=pZ I.hok e
 obtain⟨u,hu,ru⟩:=tW.some_of (v:=v) (o:=mA f) (by rw[<-l];exact r f)
 exact get_map I.nU O (c.get f) c.hd n hu (Hs ru) (h u _ (I.tok _) ru)
def BJ{m:Str}{g:Addr}{pl:Sem Bool}{Q:Value×List Value->Shared->Prop}(I:Inv X pins σ H s)(e:H a=some (.ins C dx fs))(c:Cls X.K C)(k:Meth X.K C m g)(l:fs.lookup m=none)
 (h:Q (.ref g,[.ref a]) s):wpAny (model X.prog X.w) A (getMethod (.ref a) m pl) Q E s:=by
 obtain⟨mA,O,r,_,_,_⟩:=pZ I.hok e
 have hn:mA m=none:=tW.none_of (by rw[<-l];exact r m)
 exact Jm I.nU O (c.get m) k.at_ k.fn hn h
def BK{y:V}{u:Value}{Q:Unit->Shared->Prop}(I:Inv X pins σ H s)(e:H a=some (.ins C dx fs))(c:Cls X.K C)(n:Ń X.K C f)(hl:fs.length<1000)(ry:RelV y u)
 (h:∀s',Inv X pins σ (upd H a (.ins C dx (fP f y fs))) s'->Q () s'):wpAny (model X.prog X.w) A (setAttr (.ref a) f u) Q E s:=by
 obtain⟨mA,O,r,wi,_,ho⟩:=pZ I.hok e
 have hz:(fs.map (·.1)).length<=sizeLine:=by rw[List.length_map,sizeLine_eq];omega
 refine Qj I.nU O c.sa c.po n.taker c.hd wi hz λh' O' sb=>h _ ?_
 have hd:∃o,h'.get? dx=some o:=let ⟨o,_,_,e',_⟩:=O'.ns;⟨o,e'⟩
 refine I.write (x:=a) (e:=dx) (by rw[e];exact True.intro) (.inr ho) (λb q hb z=>(sb.2 b hb).trans z) hd ?_
 refine⟨by rw[Ğ O.ne];exact ho,?_,O.ne,O'.obj,_,O'.ns,λg=>?_,λg hg=>?_⟩
 ·have:=nY f y fs;omega
 ·show tW ((fP f y fs).lookup g) (if g=f then some u else mA g)
  rw[nW]
  by_cases q:g=f
  ·rw[if_pos q,if_pos q];exact ry
  ·rw[if_neg q,if_neg q];exact r g
 ·by_cases q:g=f
  ·rw[q];exact(mW f y fs).1
  ·refine(mW f y fs).2 g (wi g λz=>hg ?_)
   show(if g=f then some u else mA g)=none
   rw[if_neg q];exact z
def Inv.made(I:Inv X pins σ H s):Inv X pins σ (upd (upd H s.heap.objs.size (.own (s.heap.objs.size+1))) (s.heap.objs.size+1) (.ins C s.heap.objs.size []))
 {s with heap:=(s.heap.push PySem.W.emptyDict).push (PySem.W.instObj C s.heap.objs.size)}:=by
 have e1:(s.heap.push PySem.W.emptyDict).get? s.heap.objs.size=some PySem.W.emptyDict:=Heap.get?_push_size s.heap rfl
 have e2:((s.heap.push PySem.W.emptyDict).push (PySem.W.instObj C s.heap.objs.size)).get? (s.heap.objs.size+1)=some (PySem.W.instObj C s.heap.objs.size):=by
  have:=Heap.get?_push_size (s.heap.push PySem.W.emptyDict) (o:=PySem.W.instObj C s.heap.objs.size) rfl
  rwa [Heap.size_push] at this
 have e3:(s.heap.push PySem.W.emptyDict).Ns s.heap.objs.size (λ_=>none):=⟨PySem.W.emptyDict,#[],_,e1,rfl,(λe he=>absurd he (by simp)),λ_=>rfl⟩
 have I1:=I.laid (a:=s.heap.objs.size) (o:=.own (s.heap.objs.size+1)) (h':=s.heap.push PySem.W.emptyDict) (t':=s.toks) (λb u q=>Heap.get?_push_of_some _ q) (Nat.le_refl _) ⟨_,e1⟩
 refine I1.laid (a:=s.heap.objs.size+1) (o:=.ins C s.heap.objs.size []) (t':=s.toks) (λb u q=>Heap.get?_push_of_some _ q) (Nat.le_of_eq (Heap.size_push _ _)) ?_
 have ne:s.heap.objs.size≠s.heap.objs.size+1:=Nat.ne_of_lt (Nat.lt_succ_self _)
 refine⟨by rw[Ğ ne,ĭ],Nat.zero_le _,ne,e2,λ_=>none,(Heap.Ns1.of_empty e3).at λo q=>Heap.get?_push_of_some _ q,λ_=>True.intro,λy hy=>absurd rfl hy⟩
def Qk{prog:Program}{w:World}{env:Env}{e:Expr}{f:Str}{pos:Pos}{s:Shared}{Q:Value->Shared->Prop}(hb:attributeBase e f env (eval e env)=eval e env)
 (h:wpAny (model prog w) A (eval e env) (λo s₁=>wpAny (model prog w) A (getAttr o f true) Q E s₁) E s):wpAny (model prog w) A (eval (.Attribute e f pos) env) Q E s:=
 Attribute_any_ h (by rw[arm_eval_Attribute,hb])
end
def Zgx(K:PySem.W.Frag)(ta:TE)(f:Str):TE:=λσ H Q=>ta σ H λx H1=>∃a C dx fs v,x=.ref a/\H1 a=some (.ins C dx fs)/\Cls K C/\Ń K C f/\fs.lookup f=some v/\Q v H1
def Zgy(K:PySem.W.Frag)(ta tv:TE)(f:Str):TS:=λD σ H=>tv σ H λy H1=>ta σ H1 λx H2=>∃a C dx fs,x=.ref a/\H2 a=some (.ins C dx fs)/\Cls K C/\Ń K C f/\fs.length<1000/\
 D.nx σ (upd H2 a (.ins C dx (fP f y fs)))
section
variable{X:Cx}{o e value:Expr}{f:Str}{pos pos' tpos:Pos}{ta tv:TE}
def Zbp(he:PE X e ta)(hb:attributeBase e f X.env (eval e X.env)=eval e X.env):PE X (.Attribute e f pos) (Zgx X.K ta f):=by
 intro pins s σ H Q I h
 refine Qk hb (Ť (he pins s σ H _ I h) λu s1 ⟨x,H1,I1,rx,a,C,dx,fs,v,ex,ea,c,n,l,q⟩=>?_)
 subst ex
 obtain rfl:u=Value.ref a:=rx
 exact Bx I1 ea c n l λu' s2 I2 ru=>⟨v,H1,I2,ru,q⟩
def Zbq(ha:PE X o ta)(hv:PE X value tv)(hs:swapsWith value (some (.Attribute o f pos')) pos.line X.env=pure false):PS X (.Assign [.Attribute o f pos'] value pos) (Zgy X.K ta tv f):=by
 intro pins s σ H D I h
 refine plainObj_wpAny_Assign_Attribute (Ť (hv pins s σ H _ I h) λu s1 ⟨y,H1,I1,ry,q⟩=>Ť (ha pins s1 σ H1 _ I1 q) λov s2 ⟨x,H2,I2,rx,a,C,dx,fs,ex,ea,c,n,l,q2⟩=>?_) hs
 subst ex
 obtain rfl:ov=Value.ref a:=rx
 exact BK I2 ea c n l ry λs3 I3=>⟨σ,_,I3,q2⟩
end
section
variable{X:Cx}{pins:List (Addr×Obj)}{σ:St}{H:Hp}{s:Shared}{A:Around}{E:Value->Shared->Prop}{Q:Value->Shared->Prop}{c:Value}{b:Bool}
inductive mX(K:PySem.W.Frag)(H:Hp):V->Value->Prop where
 |non:mX K H .non (.type "NoneType")
 |bl (x:Bool):mX K H (.bl x) (.type "bool")
 |int (i:Int):mX K H (.int i) (.type "int")
 |str (x:Str):mX K H (.str x) (.type "str")
 |flt (x:UInt64):mX K H (.flt x) (.type "float")
 |lst {a:Addr} {xs:List V} (e:H a=some (.lst xs)):mX K H (.ref a) (.type "list")
 |fL {a:Addr} {o:Obj} {xs:List V} (e:H a=some (.fL o (.lst xs))):mX K H (.ref a) (.type "list")
 |tup {a:Addr} {xs:List V} (e:H a=some (.tup xs)):mX K H (.ref a) (.type "tuple")
 |dK {a:Addr} {kvs:List (Key×V)} (e:H a=some (.dK kvs)):mX K H (.ref a) (.type "dict")
 |dT {a:Addr} {kvs:List (List Key×V)} (e:H a=some (.dT kvs)):mX K H (.ref a) (.type "dict")
 |ins {a C dx:Addr} {fs:List (Str×V)} (e:H a=some (.ins C dx fs)) (cl:Cls K C) (ha:PySem.W.findIn K (.ref C) "__class__" =some (some (.builtin "object.__class__")))
   (hn:PySem.W.specialIn K (.builtin "object.__class__") "__get__" =some (some (.builtin "getset_descriptor.__get__"))) (htk:PySem.W.takesIn K (.builtin "object.__class__")=some true)
   (hm:PySem.W.mroIn K C (.type "object")=some true):mX K H (.ref a) (.ref C)
def eV{x:V}{u t:Value}(I:Inv X pins σ H s)(rx:RelV x u)(ty:mX X.K H x t)(e:PySem.W.kitOne X.K t c=some b)(h:∀tk,Q (.bool b) {s with toks:=tk}) :
 wpAny (model X.prog X.w) A (call (.builtin "isinstance") [u,c]) Q E s:=by
 cases ty with
 |non=>cases(show u=Value.none from rx);exact PySem.W.kia_one PySem.W.kitx_none I.nU True.intro e (λz=>nomatch z) h
 |bl y=>cases(show u=Value.bool y from rx);exact PySem.W.kia_one PySem.W.kitx_bool I.nU True.intro e (λz=>nomatch z) h
 |int i=>obtain⟨t,q⟩:=(show ∃t,u=Value.int i t from rx);cases q;exact PySem.W.kia_one PySem.W.kitx_int I.nU True.intro e (λz=>nomatch z) h
 |str y=>obtain⟨t,q⟩:=(show ∃t,u=Value.str y t from rx);cases q;exact PySem.W.kia_one PySem.W.kitx_str I.nU True.intro e (λz=>nomatch z) h
 |flt y=>obtain⟨t,q⟩:=(show ∃t,u=Value.float y t from rx);cases q;exact PySem.W.kia_one PySem.W.kitx_float I.nU True.intro e (λz=>nomatch z) h
 |@lst a xs ea=>
  cases(show u=Value.ref a from rx)
  obtain⟨_,_,n,_,h1⟩:=(show aN X.prog X.w H s.heap a (.lst xs) from I.hok a _ ea)
  exact PySem.W.kia_one PySem.W.kitx_list I.nU ⟨_,h1,rfl⟩ e (λz=>nomatch z) h
 |@fL a ob xs ea=>
  cases(show u=Value.ref a from rx)
  obtain⟨_,_,_,n,_,h1⟩:=(show aN X.prog X.w H s.heap a (.fL ob (.lst xs)) from I.hok a _ ea)
  exact PySem.W.kia_one PySem.W.kitx_list I.nU ⟨_,h1,rfl⟩ e (λz=>nomatch z) h
 |@tup a xs ea=>
  cases(show u=Value.ref a from rx)
  obtain⟨_,_,_,p⟩:=(show aN X.prog X.w H s.heap a (.tup xs) from I.hok a _ ea)
  obtain⟨o,h1,h2,_⟩:=p
  exact PySem.W.kia_one PySem.W.kitx_tuple I.nU ⟨o,h1,h2⟩ e (λz=>nomatch z) h
 |@dK a kvs ea=>
  cases(show u=Value.ref a from rx)
  obtain⟨_,_,vs,_,p⟩:=(show aN X.prog X.w H s.heap a (.dK kvs) from I.hok a _ ea)
  obtain⟨o,es,ep,h1,h2,_⟩:=p
  exact PySem.W.kia_one PySem.W.kitx_dict I.nU ⟨o,h1,h2.1⟩ e (λz=>nomatch z) h
 |@dT a kvs ea=>
  cases(show u=Value.ref a from rx)
  obtain⟨_,_,xs,_,o,es,ep,h1,h2,_⟩:=(show aN X.prog X.w H s.heap a (.dT kvs) from I.hok a _ ea)
  exact PySem.W.kia_one PySem.W.kitx_dict I.nU ⟨o,h1,h2.1⟩ e (λz=>nomatch z) h
 |@ins a C dx fs ea cl ha hn htk hm=>
  cases(show u=Value.ref a from rx)
  obtain⟨mA,O,_⟩:=pZ I.hok ea
  obtain⟨od,J,_⟩:=O.look
  exact PySem.W.kia_one (PySem.W.kitx_own (cl.get _) cl.hd ha hn htk hm) I.nU J e (λz=>nomatch z) h
end
end L2
namespace L2
open PySem PySem.Spec PyProof.Rows
structure ű(k:Nat)(A:Around):Prop where
 hd:A.handled=none
 dp:A.depth+3*k+5<recursionLimit
 un:A.units+16*k+200<cLine
def ű.mono{j k:Nat}{A:Around}(r:ű k A)(h:j<=k):ű j A:=⟨r.hd,by have:=r.dp;omega,by have:=r.un;omega⟩
def ű.mo{j k:Nat}{A:Around}(r:ű k A)(h:j<=k:= by decide):ű j A:= r.mono h
theorem ű.deeper{k:Nat}{A:Around}(r:ű (k+1) A)(env:Env):ű k (A.deeper env):=
 ⟨r.hd,by have:=r.dp;show A.depth+1+3*k+5<_;omega,by have:=r.un;show A.units+3+16*k+200<_;omega⟩
theorem ű.in1{k:Nat}{A:Around}(r:ű (k+1) A):ű k A.in1:=
 ⟨r.hd,by have:=r.dp;show A.depth+3*k+5<_;omega,by have:=r.un;show A.units+1+16*k+200<_;omega⟩
def BL{A:Around}{C:Addr}{us:List Value}{kw:List (Str×Value)}:(A.under (.builtin "type.__call__" ⟨.ref C::us,kw⟩)).depth=A.depth+1:=by
 first|rfl|simp[Around.under,Code.weight,Code.isCreation,Code.isGuard,Code.isCaller,Code.frames,Code.isFrame,guardIds]
def BP{A:Around}{C:Addr}{us:List Value}{kw:List (Str×Value)}:(A.under (.builtin "type.__call__" ⟨.ref C::us,kw⟩)).units=A.units+1:=by
 first|rfl|simp[Around.under,Code.cUnits,Code.frames,Code.isFrame]
def ű.make{k:Nat}{A:Around}(r:ű (k+1) A)(C:Addr)(us:List Value)(kw:List (Str×Value)):ű k (A.under (.builtin "type.__call__" ⟨.ref C::us,kw⟩)):=
 ⟨r.hd,by have:=r.dp;rw[BL];omega,by have:=r.un;rw[BP];omega⟩
theorem ű.depth{k:Nat}{A:Around}(r:ű k A):A.depth<recursionLimit:=by have:=r.dp;omega
theorem ű.units{k:Nat}{A:Around}(r:ű k A):A.units+64<cLine:=by have:=r.un;omega
def Zd7:TA:=λ_ H Q=>Q [] H
def Sy(ta:TE)(tr:TA):TA:=λσ H Q=>ta σ H λx H1=>tr σ H1 λxs H2=>Q (x::xs) H2
section
variable{X:Cx}{e:Expr}{es:List Expr}{te:TE}{t:TA}{pos:Pos}
def jT:PA X [] Zd7:=λ_ _ _ _ H Q I h=>Calls.spliced_nil ⟨[],H,I,.nil,h⟩
def cH(ha:PE X e te)(hr:PA X es t)(hs:starEach (e::es) X.env=(false,eval e X.env)::starEach es X.env:=by rfl):PA X (e::es) (Sy te t):=by
 intro pos pins s σ H Q I h
 rw[hs]
 show wpAny _ _ (spliced ((false,eval e X.env)::backTo pos (starEach es X.env))) _ _ s
 refine Calls.spliced_cons (Ť (ha pins s σ H _ I h) λu s1 ⟨x,H1,I1,r1,q1⟩=>?_)
 exact Ť (hr pos pins s1 σ H1 _ I1 q1) λus s2 ⟨xs,H2,I2,r2,q2⟩=>⟨x::xs,H2,I2,.cons r1 r2,q2⟩
def Zgz(t:TA):TE:=λσ H Q=>t σ H λxs H1=>xs.length<=sizeLine/\∀p,H1 p=none->Q (.ref p) (upd H1 p (.tup xs))
def ZgA(t:TA):TE:=λσ H Q=>t σ H λxs H1=>xs.length<=sizeLine/\∀p,H1 p=none->Q (.ref p) (upd H1 p (.lst xs))
def Zbr{x1}(h:PA X es t):PE X (.Tuple es x1 pos) (Zgz t):=by
 intro pins s σ H Q I hq
 refine wpAny_Tuple_spliced (Ť (h pos pins s σ H _ I hq) λus s1 ⟨xs,H1,I1,r,z,q⟩=>⟨by rw[<-r.length];exact z,?_⟩)
 have hf:H1 s1.heap.objs.size=none:=I1.hok.fresh (Nat.le_refl _)
 refine⟨.ref s1.heap.objs.size,upd H1 s1.heap.objs.size (.tup xs),I1.laid (t':=s1.toks) (λb u e=>Heap.get?_push_of_some _ e) (Nat.le_refl _) ?_,rfl,q _ hf⟩
 exact⟨z,us,r,⟨_,Heap.get?_push_size _ rfl,rfl,_,rfl⟩⟩
def Zbs(h:PA X es t):PE X (.List es pos) (ZgA t):=by
 intro pins s σ H Q I hq
 refine wpAny_List_spliced (Ť (h pos pins s σ H _ I hq) λus s1 ⟨xs,H1,I1,r,z,q⟩=>⟨by rw[<-r.length];exact z,?_⟩)
 have hf:H1 s1.heap.objs.size=none:=I1.hok.fresh (Nat.le_refl _)
 refine⟨.ref s1.heap.objs.size,upd H1 s1.heap.objs.size (.lst xs),I1.laid (t':=s1.toks) (λb u e=>Heap.get?_push_of_some _ e) (Nat.le_refl _) ?_,rfl,q _ hf⟩
 exact⟨z,us,0,r,Heap.get?_push_size _ rfl⟩
end
abbrev Sp:=List V->Hp->VK->XK->Prop
abbrev mY:=List Env->Hp->Shared->XK->Value->Shared->Prop
structure BR(P:Program)(w:World)(K:PySem.W.Frag)(mg:Str->Option Value)(base:Heap)(A:Around)(outer:List Env)(s:Shared)(H:Hp):Prop where
 frames:A.frames=some outer
 mod:Mod K mg base
 bs:∀b o,base.get? b=some o->s.heap.get? b=some o/\H b=none
 Pk:base.objs.size<=s.heap.objs.size
 pB:s.heap.FunFrames base outer
 frf:∀b∈frs outer,H b=none
 hok:kO P w H s.heap
 bare:AllBare s.gens
 tb:TabsOk K mg base H
def CE(outer:List Env)(P:Program)(w:World)(H:Hp)(s:Shared)(Q:VK)(u:Value)(s':Shared):Prop:=
 ∃v H',s'.os=s.os/\AllBare s'.gens/\Un (frs outer) [] H H' s.heap s'.heap/\kO P w H' s'.heap/\RelV v u/\Q v H'
def CR(CX:mY)(outer:List Env)(P:Program)(w:World)(H:Hp)(s:Shared)(Q:VK)(E:XK)(r:Result)(s':Shared):Prop:=
 match r with
 | .ok (.ret u)=>CE outer P w H s Q u s'
 | .ok _=>False
 | .error e=>CX outer H s E e s'
structure Ħ(P:Program)(w:World)(K:PySem.W.Frag)(mg:Str->Option Value)(base:Heap)(CX:mY)(k:Nat)(f:Addr)(fd:FuncData)(ps:List Str)(sp:Sp):Prop where
 len:∀vs H Q E,sp vs H Q E->vs.length=ps.length
 run:∀(A:Around) (outer:List Env) (s:Shared) (H:Hp) (args:Args) (us:List Value) (vs:List V) (Q:VK) (E:XK),ű k A->BR P w K mg base A outer s H->BindsTo s fd args (ps.zip us)->Vals vs us->sp vs H Q E->
  codeAny (model P w) A (.call (.ref f) args) (CR CX outer P w H s Q E) s
theorem Ħ.mono{P:Program}{w:World}{K:PySem.W.Frag}{mg:Str->Option Value}{base:Heap}{CX:mY}{j k:Nat}{f:Addr}{fd:FuncData}{ps:List Str}{sp:Sp}(F:Ħ P w K mg base CX j f fd ps sp)(h:j<=k) :
 Ħ P w K mg base CX k f fd ps sp:=⟨F.len,λA outer s H args us vs Q E hr=>F.run A outer s H args us vs Q E (hr.mono h)⟩
def Ħ.imp{P:Program}{w:World}{K:PySem.W.Frag}{mg:Str->Option Value}{base:Heap}{CX:mY}{k:Nat}{f:Addr}{fd:FuncData}{ps:List Str}{sp sp':Sp}(F:Ħ P w K mg base CX k f fd ps sp)
 (h:∀vs H Q E,sp' vs H Q E->sp vs H Q E):Ħ P w K mg base CX k f fd ps sp':=
 ⟨λvs H Q E q=>F.len vs H Q E (h _ _ _ _ q),λA outer s H args us vs Q E hr he hb hv hs=>F.run A outer s H args us vs Q E hr he hb hv (h _ _ _ _ hs)⟩
def BR.make{P:Program}{w:World}{K:PySem.W.Frag}{mg:Str->Option Value}{base:Heap}{A:Around}{outer:List Env}{s:Shared}{H:Hp}(e:BR P w K mg base A outer s H)(C:Addr)(us:List Value)(kw:List (Str×Value)) :
 BR P w K mg base (A.under (.builtin "type.__call__" ⟨.ref C::us,kw⟩)) outer s H:=⟨by first|exact e.frames|(simpa[Around.under,Code.envs,Code.isFrame,pushEnvs] using e.frames),e.mod,e.bs,e.Pk,e.pB,e.frf,e.hok,e.bare,e.tb⟩
section
variable{X:Cx}{pins:List (Addr×Obj)}{σ:St}{H:Hp}{s s':Shared}
def Inv.env0(I:Inv X pins σ H s):BR X.prog X.w X.K X.mg X.base X.A X.stack s H:=
 ⟨I.ok.frames,I.ok.mod,I.bs,Nat.le_trans I.ok.Pk I.sz,I.stack,I.vW,I.hok,I.bare,I.tb⟩
def Inv.after{Q:VK}{u:Value}(I:Inv X pins σ H s)(h:CE X.stack X.prog X.w H s Q u s'):EP X pins σ Q u s':=by
 obtain⟨v,H',os,bare,un,hok,r,q⟩:=h
 obtain⟨hh,g,d,t,os'⟩:=s'
 obtain rfl:os'=s.os:=os
 exact⟨v,H',I.call (h':=hh) (g':=g) (d':=d) (t':=t) (ch:=[]) un hok bare (λb z=>absurd z (by simp)),r,q⟩
end
def Binds(K:PySem.W.Frag)(fd:FuncData)(ps:List Str)(ds:List Value):Prop:=
 ∀(s:Shared) (us:List Value),K.In s.heap->(us++ds).length=ps.length->BindsTo s fd ⟨us,[]⟩ (ps.zip (us++ds))
def Binds.all{K:PySem.W.Frag}{fd:FuncData}{ps:List Str}(h:∀us:List Value,us.length=ps.length->bindArgs fd ⟨us,[]⟩=pure (ps.zip us)):Binds K fd ps []:=λs us _ hl=>by
 rw[List.append_nil] at hl ⊢
 exact .of_eq (h us hl)
section
variable{X:Cx}{CX:mY}{k:Nat}{f C:Addr}{fd:FuncData}{ps:List Str}{sp:Sp}{dvs:List V}{ds:List Value}{E:XK}{x m:Str}{p pos apos:Pos}{e o:Expr}{es:List Expr}{ta:TE}{t:TA}
structure Mk(K:PySem.W.Frag)(C f:Addr):Prop where
 makes:PySem.W.makesIn K C=true
 init:PySem.W.findIn K (.ref C) "__init__" =some (some (.ref f))
 fn:PySem.W.isFn K (.ref f)=true
 kp:PySem.W.keepIn K (.ref C)=true
end
section
variable{X:Cx}{CX:mY}{k:Nat}{f C:Addr}{fd:FuncData}{ps ks:List Str}{sp:Sp}{E:XK}{x m:Str}{p pos apos kpos:Pos}{e o:Expr}{es:List Expr}{kws:List Keyword}{te ta:TE}{t tk:TA}{nm:Option Str}
variable{g:List Value->List Value->List Value}{gV:List V->List V->List V}
end
structure Ē(N P:List Str)(sc:Scope):Prop where
 kind:sc.kind=.function
 co:sc.isCoroutine=false
 gen:sc.isGenerator=false
 nd:N.Nodup
 pre:N.take P.length=P
 par:∀x∈P,sc.names.lookup x=some .local\/sc.names.lookup x=some .cell
 Zbt:∀y∈sc.names,y.2≠ .free
theorem uE{kindOf:Str->Option NameKind}{x:Str}:∀{binds:List (Str×Value)} {m:Str->Option Value},(∀v,(x,v)∉binds)->bindL kindOf binds m x=m x
 | [],_,_=>rfl
 |(n,v)::r,m,h=>by
  unfold bindL
  rw[uE λw hw=>h w (List.mem_cons_of_mem _ hw)]
  split
  ·have:x≠n:=by rintro rfl;exact h v List.mem_cons_self
   simp[this]
  ·rfl
theorem uF{kindOf:Str->Option NameKind}{x:Str}:∀{binds:List (Str×Value)} {m:Str->Option Value},(∀v,(x,v)∉binds)->bindC kindOf binds m x=m x
 | [],_,_=>rfl
 |(n,v)::r,m,h=>by
  unfold bindC
  rw[uF λw hw=>h w (List.mem_cons_of_mem _ hw)]
  split
  ·rfl
  ·have:x≠n:=by rintro rfl;exact h v List.mem_cons_self
   simp[this]
theorem uG{kindOf:Str->Option NameKind}{x:Str}{v:Value}:∀{P:List Str} {vs:List Value} {i:Nat} {m:Str->Option Value},P.Nodup->P[i]?=some x->vs[i]?=some v->kindOf x=some .local->
 bindL kindOf (P.zip vs) m x=some v
 | [],_,_,_,_,h,_,_=>by simp at h
 |_::_,[],_,_,_,_,h,_=>by simp at h
 |p::P,w::vs,0,m,nd,h1,h2,hk=>by
  simp at h1 h2;subst h1;subst h2
  show bindL kindOf ((p,w)::P.zip vs) m p=_
  unfold bindL
  rw[uE λv hv=>(List.nodup_cons.mp nd).1 (List.of_mem_zip hv).1,if_pos hk]
  simp
 |p::P,w::vs,i+1,m,nd,h1,h2,hk=>by
  show bindL kindOf ((p,w)::P.zip vs) m x=_
  unfold bindL
  exact uG (i:=i) (List.nodup_cons.mp nd).2 (by simpa using h1) (by simpa using h2) hk
theorem uH{kindOf:Str->Option NameKind}{x:Str}{v:Value}:∀{P:List Str} {vs:List Value} {i:Nat} {m:Str->Option Value},P.Nodup->P[i]?=some x->vs[i]?=some v->kindOf x≠some .local->
 bindC kindOf (P.zip vs) m x=some v
 | [],_,_,_,_,h,_,_=>by simp at h
 |_::_,[],_,_,_,_,h,_=>by simp at h
 |p::P,w::vs,0,m,nd,h1,h2,hk=>by
  simp at h1 h2;subst h1;subst h2
  show bindC kindOf ((p,w)::P.zip vs) m p=_
  unfold bindC
  rw[uF λv hv=>(List.nodup_cons.mp nd).1 (List.of_mem_zip hv).1,if_neg hk]
  simp
 |p::P,w::vs,i+1,m,nd,h1,h2,hk=>by
  show bindC kindOf ((p,w)::P.zip vs) m x=_
  unfold bindC
  exact uH (i:=i) (List.nodup_cons.mp nd).2 (by simpa using h1) (by simpa using h2) hk
def start(N:List Str)(vs:List V):St:=vs.map some++List.replicate (N.length-vs.length) none
def qD(CX:mY)(P:Program)(w:World)(K:PySem.W.Frag)(mg:Str->Option Value)(base:Heap)(N:List Str)(qual:Str)(scope:Scope)(f:Addr)(cd:Value)(A:Around)(outer:List Env)(s:Shared)(H:Hp)(E:XK):Cx where
 prog:=P
 w:=w
 K:=K
 mg:=mg
 base:=base
 A:=A.deeper (envOfC qual scope s.heap.objs.size f cd)
 N:=N
 s₀:= s
 H₀:= H
 env:=envOfC qual scope s.heap.objs.size f cd
 outer:=outer
 stack:=envOfC qual scope s.heap.objs.size f cd::outer
 ex:=[]
 calm:=true
 fn:=λ_=>true
 pn:=[]
 xe:=λe s'=>wpAny (model P w) (A.deeper (envOfC qual scope s.heap.objs.size f cd)) (leaving (envOfC qual scope s.heap.objs.size f cd) e) (λ_ s''=>CX outer H s E e s'') (λe' s''=>CX outer H s E e' s'') s'
def kY{sc:Scope}{n:Nat}{x:Str}(h:sc.names.lookup x=some .cell):∃c,(cellsFrom n sc.names []).lookup x=some c:=by
 have q:=PySem.W.cellsFrom_some sc.names n [] (.inl h)
 exact Option.isSome_iff_exists.mp q
def Ht{CX:mY}{P:Program}{w:World}{K:PySem.W.Frag}{mg:Str->Option Value}{base:Heap}{N ps:List Str}{qual:Str}{scope:Scope}{f:Addr}{cd:Value}{A:Around}{outer:List Env}{s s1:Shared}{H:Hp}{E:XK}{us:List Value}{vs:List V}
 (S:Ē N ps scope)(hd:A.handled=none)(e0:BR P w K mg base A outer s H)(hl:vs.length=ps.length)(r:Vals vs us)
 (x:InCallC s s.heap.objs.size (bindL (envOfC qual scope s.heap.objs.size f cd).kindOf (ps.zip us) λ_=>none) (cellsFrom (s.heap.objs.size+1) scope.names []) (bindC (envOfC qual scope s.heap.objs.size f cd).kindOf (ps.zip us) λ_=>none) s1) :
 Inv (qD CX P w K mg base N qual scope f cd A outer s H E) [] (start N vs) H s1:=by
 have hpl:ps.length<=N.length:=by have:=congrArg List.length S.pre;rw[List.length_take] at this;omega
 obtain⟨h1,tk,rfl,hk⟩:=x.done
 have noA:∀b:Addr,b∉(qD CX P w K mg base N qual scope f cd A outer s H E).ex:=λb z=>absurd (show b∈([]:List Addr) from z) (by simp)
 refine⟨⟨e0.mod,S.kind,rfl,rfl,Nat.le_refl _,λy z c h1 h2=>?_,λy hy=>?_,λy c _ h=>?_,λ_=>hd,Around.frames_deeper e0.frames,.inr ⟨rfl,rfl⟩,λb z=>absurd z (noA b),e0.bs,e0.Pk,λb _ _=>noA b,λb z=>absurd z (noA b),e0.pB,e0.frf,e0.tb⟩,
  rfl,e0.bare,Un.kept hk,⟨_,x.toInCall.ns,λi y v h1 h2 h3=>?_⟩,λy c h=>⟨_,x.cell y c h⟩,e0.hok.fresh (Nat.le_refl _),λy c h=>?_,λp hp=>absurd (show p∈([]:List (Addr×Obj)) from hp) (by simp),e0.hok.kept hk,?_⟩
 ·exact name_of_addr x.apart (PySem.mem_of_lookup h1) (PySem.mem_of_lookup h2)
 ·have hy:scope.names.lookup y=some .cell\/scope.names.lookup y=some .free:=hy
  rcases hy with hy|hy
  ·exact kY hy
  ·exact absurd rfl (S.Zbt _ (PySem.mem_of_lookup hy))
 ·exact Nat.le_of_lt (x.above y c (PySem.mem_of_lookup h))
 ·have hi:i<vs.length:=by
   unfold start at h2
   by_cases hi:i<vs.length
   ·exact hi
   ·rw[List.getElem?_append_right (by simpa using hi)] at h2
    rw[List.getElem?_replicate] at h2
    split at h2<;>cases h2
  have ha:vs[i]?=some v:=by
   unfold start at h2
   rw[List.getElem?_append_left (by simpa using hi),List.getElem?_map] at h2
   cases e:vs[i]? with
   |none=>rw[e] at h2;cases h2
   |some a=>rw[e] at h2;cases h2;rfl
  obtain⟨u,hu,rv⟩:=r.get ha
  have hp:ps[i]?=some y:=by
   rw[<-S.pre,List.getElem?_take_of_lt (by omega)];exact h1
  have ndP:ps.Nodup:=by rw[<-S.pre];exact S.nd.sublist (List.take_sublist _ _)
  refine⟨u,rv,?_⟩
  rcases S.par y (List.mem_of_getElem? hp) with k|k
  ·exact .inl ⟨k,uG ndP hp hu k⟩
  ·obtain⟨c,e⟩:=kY (n:=s.heap.objs.size+1) k
   refine .inr ⟨.inl k,c,e,?_⟩
   have q:=x.cell y c e
   rw[uH ndP hp hu (by show scope.names.lookup y≠_;rw[k];decide)] at q
   exact q
 ·exact e0.hok.fresh (Nat.le_of_lt (x.above y c (PySem.mem_of_lookup h)))
 ·unfold start
  show _=N.length
  rw[List.length_append,List.length_map,List.length_replicate]
  omega
def Fe{CX:mY}{P:Program}{w:World}{K:PySem.W.Frag}{mg:Str->Option Value}{base:Heap}{k:Nat}{f:Addr}{name qual:Str}{params:Arguments}{body:List Stmt}{scope:Scope}{dV kV doc pm cdv ct oc:Value}{an od:Option Addr}
 {osl:Array (Option Value)}{N ps:List Str}{sp:Sp}(lk:K.lookup f=some ⟨oc,od,.func (PySem.W.fnOf name qual params body scope dV kV doc pm an cdv ct),osl⟩)(hcd:PySem.W.codeIn K cdv qual=true)(S:Ē N ps scope)
 (len:∀vs H Q E,sp vs H Q E->vs.length=ps.length)
 (hbody:∀(A:Around) (outer:List Env) (s:Shared) (H:Hp) (vs:List V) (Q:VK) (E:XK),ű k (A.deeper (envOfC qual scope s.heap.objs.size f cdv))→sp vs H Q E→
   ∃t,jw (qD CX P w K mg base N qual scope f cdv A outer s H E) body t/\t {nx:=λ_ H'=>Q .non H',rt:=Q} (start N vs) H) :
 Ħ P w K mg base CX (k+1) f (PySem.W.fnOf name qual params body scope dV kV doc pm an cdv ct) ps sp:=by
 refine⟨len,λA outer s H args us vs Q E hr e0 hb r hsp=>?_⟩
 have hl:=len _ _ _ _ hsp
 have KX:K.In s.heap:=e0.mod.kin.keeps λb o e=>(e0.bs b o e).1
 have lim:s.heap.NoLimit:=e0.mod.nolimit.keeps λb o e=>(e0.bs b o e).1
 have hkind:∀y∈ps.zip us,scope.names.lookup y.1=some .local\/(scope.names.lookup y.1=some .cell/\((cellsFrom (s.heap.objs.size+1) scope.names []).lookup y.1).isSome=true):=λ⟨n,v⟩ hy=>by
  rcases S.par n (List.of_mem_zip hy).1 with q|q
  ·exact .inl q
  ·exact .inr ⟨q,PySem.W.cellsFrom_some _ _ _ (.inl q)⟩
 refine codeAny_call_function hr.depth (KX _ _ lk) rfl S.co S.gen rfl (PySem.W.codeRec_of KX hcd) (hb _ _ _ _ ?_)
 refine wpAny_newFunctionEnv_cells S.kind hkind λenv he s1 x=>?_
 subst he
 refine⟨lim.keeps x.toInCall.keep,codeAny_func ?_⟩
 obtain⟨t,ht,hq⟩:=hbody A outer s H vs Q E (hr.deeper _) hsp
 have I:Inv (qD CX P w K mg base N qual scope f cdv A outer s H E) [] (start N vs) H s1:=Ht S hr.hd e0 hl r x
 refine wpAny_mono (ht [] s1 (start N vs) H _ I hq) (λfl s' hs=>?_) λe s' hs=>hs
 have fin:∀{σ':St} {H':Hp} {v:V} {u:Value},Inv (qD CX P w K mg base N qual scope f cdv A outer s H E) [] σ' H' s'->RelV v u->Q v H'->CE outer P w H s Q u s':=
  fun{σ' H' v u} J rv q=>⟨v,H',J.os,J.bare,J.base,J.hok,rv,q⟩
 cases fl with
 |ret u=>
  obtain⟨v,σ',H',J,rv,q⟩:=hs
  exact fin J rv q
 |next=>
  obtain⟨σ',H',J,q⟩:=hs
  exact fin (v:=V.non) (u:=Value.none) J rfl q
 |brk=>
  obtain⟨_,_,_,q⟩:=hs
  exact False.elim q
 |cont=>
  obtain⟨_,_,_,q⟩:=hs
  exact False.elim q
end L2
namespace L2
open PySem PySem.Spec PyProof.Rows
section
variable{X:Cx}{x:Str}{p pos:Pos}{e:Expr}{es:List Expr}{t:TA}{id T:String}{r:List V->Hp->VK->Prop}
def tCB(r:List V->Hp->VK->Prop)(t:TA):TE:=λσ H Q=>t σ H λvs H1=>r vs H1 Q
def Jp(hc:Ŏ X (.builtin id) r)(hg:Gl X x)(hm:X.mg x=none)(hv:bootBuiltins x=some (.builtin id))(ha:PA X (e::es) t)(hn:x≠ "__name__" := by decide)(hdb:(x== ("__debug__" :Str))=false:=by decide)
 (he:starEach (e::es) X.env=(false,eval e X.env)::starEach es X.env:=by rfl)(hpl:(backTo pos (starEach es X.env)).any (·.1)=false:=by rfl):PE X (.Call (.Name x p) (e::es) [] pos) (tCB r t):=by
 intro pins s σ H Q I h
 refine wpAny_Call_Name_kw (jR I hg hm hv ?_ hn hdb)
 exact PyProof.Rows.callWith_builtin1 (Ť (ha pos pins s σ H _ I h) λus s1 ⟨vs,H1,I1,r1,q1⟩=>hc pins s1 σ H1 vs us Q I1 r1 q1) he hpl
def uI(hc:Ŏ X (.type T) r)(hg:Gl X x)(hm:X.mg x=none)(hv:bootBuiltins x=some (.type T))(ha:PA X (e::es) t)(hn:x≠ "__name__" := by decide)(hdb:(x== ("__debug__" :Str))=false:=by decide)
 (he:starEach (e::es) X.env=(false,eval e X.env)::starEach es X.env:=by rfl)(hpl:(backTo pos (starEach es X.env)).any (·.1)=false:=by rfl):PE X (.Call (.Name x p) (e::es) [] pos) (tCB r t):=by
 intro pins s σ H Q I h
 refine wpAny_Call_Name_kw (jR I hg hm hv ?_ hn hdb)
 exact PyProof.Rows.callWith_type1 (Ť (ha pos pins s σ H _ I h) λus s1 ⟨vs,H1,I1,r1,q1⟩=>hc pins s1 σ H1 vs us Q I1 r1 q1) he hpl
end
end L2
namespace HT
open PySem PyProof.Rows
def lexLt:List Int->List Int->Bool
 | [],[]=>false
 | [],_::_=>true
 |_::_,[]=>false
 |x::xs,y::ys=>if x=y then lexLt xs ys else decide (x<y)
def BW(x y:Int)(xs ys:List Int):lexLt (x::xs) (y::ys)=if x=y then lexLt xs ys else decide (x<y):=rfl
def uc:lexLt [] []=false:=rfl
def qF(y:Int)(ys:List Int):lexLt [] (y::ys)=true:=rfl
def qG(x:Int)(xs:List Int):lexLt (x::xs) []=false:=rfl
def Jq(A:Around)(s:Shared)(a:Int)(t:Tok)(c:Int)(u:Tok):∃e,SeqAt.EqAt A s (.int a t) (.int c u) e/\(e=true↔a=c):=
 ⟨(a== c),SeqAt.EqAt.int_int a t c u,by simp⟩
def Jr(A:Around)(s:Shared)(a:Int)(t:Tok)(c:Int)(u:Tok)(prog:Program)(w:World)(E:Value->Shared->Prop)(Q:Value->Shared->Prop)(h:Q (.bool (decide (a<c))) s) :
 wpAny (model prog w) A (richCompare .Lt (.int a t) (.int c u)) Q E s:=
 (PyProof.Rows.lt_int h:wpAny (model prog w) A (compareOp .Lt (.int a t) (.int c u)) Q E s)
section
open PySem.SeqAt
open PySem.AutoSeq1 (wpAny_loadPart')
open PySem.MeetsSeq PySem.MeetsSeq2 PySem.MeetsSeq3
def ud(l b:Addr)(items items2:Array Value)(n n2:Nat)(dd dd2:Option Addr)(sl sl2:Array (Option Value))(ns ms:List Int)(hi:IntsAre items.toList ns)(hj:IntsAre items2.toList ms) :
 Meets (Builtin.«tuple.__lt__» ⟨[.ref l,.ref b],[]⟩)
  (fun _ R s=>s.heap.get? l=some {cls:=.type "tuple",dict:=dd,data:=.seq items n,slots:=sl}∧s.heap.get? b=some {cls:=.type "tuple",dict:=dd2,data:=.seq items2 n2,slots:=sl2}∧
    R (.ok (.ret (.bool (lexLt ns ms)))) s):=
 .of_wp fun prog w A R s h=>by
   obtain⟨hp,g,d,tk,os⟩:=s;obtain⟨hl,hb,h⟩:=h
   have f2:=AutoSeq1.sub_tuple_tuple
   have z1:items.size=ns.length:=by rw[<-hi.length];simp
   have z2:items2.size=ms.length:=by rw[<-hj.length];simp
   wp_walk using wpAny_loadPart' hl,wpAny_loadPart' hb,wpAny_forIn_list _ (λrest b s'=>b.1=none/\s'=⟨hp,g,d,tk,os⟩/\∃(vs ws:List Value) (ns' ms':List Int),rest=vs.zip ws/\
    IntsAre vs ns'/\IntsAre ws ms'/\ns'.length+items2.size=ms'.length+items.size/\R (.ok (.ret (.bool (lexLt ns' ms')))) ⟨hp,g,d,tk,os⟩) _
   case turn=>
    rintro ⟨y,x⟩ rest b s' ⟨hb',rfl,vs,ws,ns',ms',hz,hvi,hwi,hlen,hR⟩
    cases hvi with
    |nil=>rw[List.zip_nil_left] at hz;cases hz
    |cons a t ZgB=>
     cases hwi with
     |nil=>rw[List.zip_nil_right] at hz;cases hz
     |cons c u ZgC=>
      rw[List.zip_cons_cons] at hz
      injection hz with hyx hrest
      injection hyx with hy hx
      subst hy hx
      rw[BW] at hR
      simp only[List.length_cons] at hlen
      obtain⟨e,he,hiff⟩:=Jq A.in1 ⟨hp,g,d,tk,os⟩ a t c u
      refine wpAny_bind (he prog w _ _ ?_)
      cases e with
      |true=>
       rw[if_pos (hiff.mp rfl)] at hR
       wp_walk
       exact⟨rfl,rfl,_,_,_,_,hrest,ZgB,ZgC,by omega,hR⟩
      |false=>
       rw[if_neg (λq=>absurd (hiff.mpr q) Bool.false_ne_true)] at hR
       have hri:=Jr A.in1 ⟨hp,g,d,tk,os⟩ a t c u prog w
       wp_walk using hri
       exact⟨_,rfl,by simpa using hR⟩
   case fin=>
    rintro ⟨b1,b2⟩ s' ⟨hb',rfl,vs,ws,ns',ms',hz,hvi,hwi,hlen,hR⟩
    simp only at hb'
    subst hb'
    have hv:lexLt ns' ms'=decide (items.size<items2.size):=by
     cases hvi with
     |nil=>
      cases hwi with
      |nil=>
       simp only[List.length_nil] at hlen
       rw[uc]
       exact(decide_eq_false (by omega)).symm
      |cons c u hw=>
       simp only[List.length_nil,List.length_cons] at hlen
       rw[qF]
       exact(decide_eq_true (by omega)).symm
     |cons a t hv=>
      cases hwi with
      |nil=>
       simp only[List.length_nil,List.length_cons] at hlen
       rw[qG]
       exact(decide_eq_false (by omega)).symm
      |cons c u hw=>
       rw[List.zip_cons_cons] at hz
       cases hz
    rw[hv] at hR
    wp_walk
    exact⟨_,rfl,by simpa[Builtin.Tuple.tupleCompareSizes] using hR⟩
   case h=>
    exact⟨rfl,rfl,items.toList,items2.toList,ns,ms,rfl,hi,hj,by omega,h⟩
end
section
variable{prog:Program}{w:World}{A:Around}{E:Value->Shared->Prop}{s:Shared}
def BX{l b:Addr}{items items2:Array Value}{ns ms:List Int}{Q:Value->Shared->Prop}(hl:IsTup s.heap l items)(hb:IsTup s.heap b items2)(hi:IntsAre items.toList ns)(hj:IntsAre items2.toList ms)
 (hu:A.units<cLine)(h:Q (.bool (lexLt ns ms)) s):wpAny (model prog w) A (compareOp .Lt (.ref l) (.ref b)) Q E s:=by
 obtain⟨⟨cls,dd,data,sl⟩,ho,hc,n,hd⟩:=id hl
 obtain⟨⟨cls2,dd2,data2,sl2⟩,ho2,hc2,n2,hd2⟩:=id hb
 simp only at hc hd hc2 hd2
 subst hc hd hc2 hd2
 exact richCompare_meets_room (op:=.Lt) ⟨_,ho,rfl⟩ ⟨_,ho2,rfl⟩ PySem.F.slot_tuple_lt PySem.F.entry_tuple_lt (PySem.F.args_tuple_lt_2 _ _) (ud l b items items2 n n2 dd dd2 sl sl2 ns ms hi hj)
  ⟨ho,ho2,show Value.bool (lexLt ns ms)≠Value.notImplemented/\Q (.bool (lexLt ns ms)) s from⟨(λx=>nomatch x),h⟩⟩ hu
def jm(n d:Nat):Option Int->Nat
 |none=>d
 |some v=>if v<0 then(v+(n:Int)).toNat else min v.toNat n
def jo(n d k:Nat):jm n d (some (k:Int))=min k n:=by
 show(if(k:Int)<0 then((k:Int)+(n:Int)).toNat else min (k:Int).toNat n)=min k n
 rw[if_neg (by omega),Int.toNat_natCast]
def Js(n d:Nat)(hd:d<=n)(o:Option Int):jm n d o<=n:=by
 cases o with
 |none=>exact hd
 |some v=>
  show(if v<0 then(v+(n:Int)).toNat else min v.toNat n)<=n
  by_cases hv:v<0
  ·rw[if_pos hv];omega
  ·rw[if_neg hv];exact Nat.min_le_right _ _
end
end HT
namespace L2
open PySem PySem.Spec PyProof.Rows
abbrev TO:=St->Hp->(Option Int->Hp->Prop)->Prop
def PO(X:Cx)(e:Option Expr)(t:TO):Prop:=
 ∀(pins:List (Addr×Obj)) (s:Shared) (σ:St) (H:Hp) (Q:Option Int->Hp->Prop),Inv X pins σ H s->t σ H Q->
  wpAny (model X.prog X.w) X.A (evalPart e X.env) (λu s'=>∃o H',Inv X pins σ H' s'/\IsPart u o/\Q o H') X.xe s
def Ql:TO:=λ_ H Q=>Q none H
def intsAre_of{ns:List Int}:∀{us:List Value},Vals (ns.map V.int) us->IntsAre us ns:=by
 induction ns with
 |nil=>intro us r;rw[List.map_nil] at r;cases r;exact .nil
 |cons n ns ih=>
  intro us r
  rw[List.map_cons] at r
  cases r with
  |cons r1 r2=>
   obtain⟨t,e⟩:=r1
   subst e
   exact .cons n t (ih r2)
section
variable{X:Cx}{e:Expr}{te:TE}{lo hi:Option Expr}{tl th:TO}{pos p2:Pos}
def Qm:PO X none Ql:=by
 intro pins s σ H Q I h
 rw[evalPart_none]
 exact wpAny_pure ⟨none,H,I,.none,h⟩
def Fg(X:Cx)(r:V->Option Int->Option Int->Hp->VK->Prop):Prop:=
 ∀(pins:List (Addr×Obj)) (s:Shared) (σ:St) (H:Hp) (x:V) (v vl vu:Value) (lo hi:Option Int) (sl:Addr) (Q:VK),Inv X pins σ H s->RelV x v->s.heap.IsSliceOf sl vl vu .none->IsPart vl lo->IsPart vu hi->r x lo hi H Q->
  ∃T id,typeLookup (.type T) "__getitem__" =pure (some (.builtin id))/\s.TypeIs v T/\wpAny (model X.prog X.w) X.A (getItem v (.ref sl)) (EP X pins σ Q) X.xe s
def Fg.or{r r':V->Option Int->Option Int->Hp->VK->Prop}(h:Fg X r)(h':Fg X r'):Fg X (λx lo hi H Q=>r x lo hi H Q\/r' x lo hi H Q):=by
 intro pins s σ H x v vl vu lo hi sl Q I rx hs pl pu q
 rcases q with q|q
 ·exact h pins s σ H x v vl vu lo hi sl Q I rx hs pl pu q
 ·exact h' pins s σ H x v vl vu lo hi sl Q I rx hs pl pu q
def tSl(r:V->Option Int->Option Int->Hp->VK->Prop)(te:TE)(tl th:TO):TE:=λσ H Q=>te σ H λx H1=>tl σ H1 λl H2=>th σ H2 λu H3=>r x l u H3 Q
def Jt{r:V->Option Int->Option Int->Hp->VK->Prop}(hr:Fg X r)(he:PE X e te)(hl:PO X lo tl)(hu:PO X hi th):PE X (.Subscript e (.Slice lo hi none p2) pos) (tSl r te tl th):=by
 intro pins s σ H Q I h
 refine Subscript_ (Ť (he pins s σ H _ I h) λv s1 ⟨x,H1,I1,r1,q1⟩=>?_)
 refine wpAny_Slice (Ť (hl pins s1 σ H1 _ I1 q1) λvl s2 ⟨l,H2,I2,pl,q2⟩=>Ť (hu pins s2 σ H2 _ I2 q2) λvu s3 ⟨u,H3,I3,pu,q3⟩=>?_)
 rw[evalPart_none]
 refine wpAny_pure ?_
 have I4:Inv X pins σ H3 {s3 with heap:=s3.heap.push {cls:=.type "slice",data:=.fields #[vl,vu,.none]}}:=I3.kept (t':=s3.toks) λb ob q=>Heap.get?_push_of_some _ q
 obtain⟨T,id,hT,ht,hg⟩:=hr pins {s3 with heap:=s3.heap.push {cls:=.type "slice",data:=.fields #[vl,vu,.none]}} σ H3 x v vl vu l u s3.heap.objs.size Q I4 r1 (Heap.IsSliceOf.new ..) pl pu q3
 show wpAny (model X.prog X.w) X.A (subscriptTail e (.Slice lo hi none p2) v (.ref s3.heap.objs.size)) (EP X pins σ Q) X.xe {s3 with heap:=s3.heap.push {cls:=.type "slice",data:=.fields #[vl,vu,.none]}}
 exact tail_any (ops:=[.ref s3.heap.objs.size,v]) ht hT hg (by with_unfolding_all rfl)
def za(xs:List V)(lo hi:Option Int):List V:=(xs.drop (HT.jm xs.length 0 lo)).take (HT.jm xs.length xs.length hi-HT.jm xs.length 0 lo)
def zc(xs:List V)(lo hi:Option Int):(za xs lo hi).length<=xs.length:=by
 unfold za
 rw[List.length_take,List.length_drop]
 omega
def Zbu(K:PySem.W.Frag):R2:=λx y H Q=>∃a b ns ms,x=.ref a/\y=.ref b/\dw K H a (ns.map V.int)/\dw K H b (ms.map V.int)/\Q (.bl (HT.lexLt ns ms)) H
def Zbv(hu:X.A.units<cLine):Ű X (compareOp .Lt) (Zbu X.K):=by
 intro pins s σ H x y v u Q I rx ry h
 obtain⟨a,b,ns,ms,rfl,rfl,ha,hb,q⟩:=h
 cases rx
 cases ry
 obtain⟨its,r1,p1,_⟩:=I.tuple ha
 obtain⟨its2,r2,p2,_⟩:=I.tuple hb
 have i1:IntsAre its.toArray.toList ns:=intsAre_of r1
 have i2:IntsAre its2.toArray.toList ms:=intsAre_of r2
 exact HT.BX p1 p2 i1 i2 hu ⟨.bl (HT.lexLt ns ms),H,I,rfl,q⟩
end
end L2
namespace L2
open PySem PySem.Spec PyProof.Rows
def BZ(n:Nat)(i:Int):Option Nat:=if 0<=i then(if i<n then some i.toNat else none) else if -(n:Int)<=i then some (i+n).toNat else none
def uf{α:Type}(xs:List α)(i:Int):Option α:= (BZ xs.length i).bind λj=>xs[j]?
def Fi{n:Nat}{i:Int}{j:Nat}(h:BZ n i=some j):seqIndex? i n=some j/\j<n/\ -(n:Int)<=i/\i<n:=by
 unfold BZ at h
 by_cases h0:0<=i
 ·rw[if_pos h0] at h
  by_cases h1:i<n
  ·rw[if_pos h1] at h
   have e:i.toNat=j:=Option.some.inj h
   exact⟨by rw[seqIndex_of h0 h1,e],by omega,by omega,h1⟩
  ·rw[if_neg h1] at h;cases h
 ·rw[if_neg h0] at h
  by_cases h1: -(n:Int)<=i
  ·rw[if_pos h1] at h
   have e:(i+n).toNat=j:=Option.some.inj h
   exact⟨by rw[seqIndex_neg (by omega) h1,e],by omega,h1,by omega⟩
  ·rw[if_neg h1] at h;cases h
def vZ{α:Type}{xs:List α}{i:Int}{v:α}(h:uf xs i=some v):∃j,seqIndex? i xs.length=some j/\xs[j]?=some v/\j<xs.length/\ -(xs.length:Int)<=i/\i<xs.length:=by
 unfold uf at h
 cases e:BZ xs.length i with
 |none=>rw[e] at h;cases h
 |some j=>
  rw[e] at h
  obtain⟨h1,h2,h3,h4⟩:=Fi e
  exact⟨j,h1,h,h2,h3,h4⟩
def qb(b:Expr):Prop:=∀o i,subscripted b false o i=operate [o,i] (getItem o i)
def B_(X:Cx)(r:R2):Prop:=
 ∀(value slice:Expr) (pins:List (Addr×Obj)) (s:Shared) (σ:St) (H:Hp) (x y:V) (v u:Value) (Q:VK),Inv X pins σ H s->RelV x v->RelV y u->r x y H Q->
  subscripted slice false v u=operate [v,u] (getItem v u)->wpAny (model X.prog X.w) X.A (subscriptTail value slice v u) (EP X pins σ Q) X.xe s
def MtR(X:Cx)(id:String)(r:V->List V->Hp->VK->Prop):Prop:=
 ∀(pins:List (Addr×Obj)) (s:Shared) (σ:St) (H:Hp) (x:V) (xs:List V) (v:Value) (us:List Value) (Q:VK),Inv X pins σ H s->RelV x v->Vals xs us->r x xs H Q->
  wpAny (model X.prog X.w) X.A (call (.builtin id) (v::us)) (EP X pins σ Q) X.xe s
section
variable{X:Cx}{a b:Expr}{ta tb:TE}{pos:Pos}
def B_.or{r r':R2}(h:B_ X r)(h':B_ X r'):B_ X (λx y H Q=>r x y H Q\/r' x y H Q):=by
 intro value slice pins s σ H x y v u Q I rx ry q hs
 rcases q with q|q
 ·exact h value slice pins s σ H x y v u Q I rx ry q hs
 ·exact h' value slice pins s σ H x y v u Q I rx ry q hs
def Zd8{r:R2}(hr:B_ X r)(ha:PE X a ta)(hb:PE X b tb)(hs:qb b):PE X (.Subscript a b pos) (tOp r ta tb):=by
 intro pins s σ H Q I h
 exact Subscript_ (Zbe ha hb I h λv u s2 x y H2 I2 rx ry q=>hr a b pins s2 σ H2 x y v u Q I2 rx ry q (hs _ _))
def Zd9(K:PySem.W.Frag):R2:=λx y H Q=>∃p xs i v,x=.ref p/\y=.int i/\ų K H p xs/\uf xs i=some v/\Q v H
def Zd_(K:PySem.W.Frag):R2:=λx y H Q=>∃p xs i v,x=.ref p/\y=.int i/\dw K H p xs/\uf xs i=some v/\Q v H
def Zea:R2:=λx y H Q=>∃z i c,x=.str z/\y=.int i/\z.length<=sizeLine/\uf z.cps.toList i=some c/\Q (.str ⟨#[c]⟩) H
def Qn:B_ X (Zd9 X.K):=by
 intro value slice pins s σ H x y v u Q I rx ry h hs
 obtain⟨p,xs,i,z,rfl,rfl,hq,he,q⟩:=h
 cases rx
 obtain⟨t,rfl⟩:=ry
 obtain⟨its,r,pl,hz⟩:=I.list hq
 obtain⟨j,h1,h2,h3,h4,h5⟩:=vZ he
 obtain⟨w,ew,rw'⟩:=r.get h2
 have hl:=r.length
 have hn:=mV
 have fin:EP X pins σ Q w s:=⟨z,H,I,rw',q⟩
 by_cases h0:0<=i
 ·have hj:i.toNat=j:=by
   rw[seqIndex_of h0 h5] at h1
   exact Option.some.inj h1
  exact item_listR pl.isList h0 (by omega) (by rw[hj];simpa using ew) fin hs
 ·have hj:(i+(its.toArray.size:Int)).toNat=j:=by
   rw[seqIndex_neg (by omega) h4] at h1
   rw[List.size_toArray,<-hl]
   exact Option.some.inj h1
  exact subscriptTail_builtinR (x:=w) pl.isList.typeIs slot_list_getitem.lookup
   (wpAny_getItem_list_neg (Q:=λr s'=>r=w/\EP X pins σ Q r s') pl.isList (by omega) (by rw[List.size_toArray]<;>omega) (by omega) (by rw[hj];simpa using ew) ⟨rfl,fin⟩) hs
def Zbw:B_ X (Zd_ X.K):=by
 intro value slice pins s σ H x y v u Q I rx ry h hs
 obtain⟨p,xs,i,z,rfl,rfl,hq,he,q⟩:=h
 cases rx
 obtain⟨t,rfl⟩:=ry
 obtain⟨its,r,pl,hz⟩:=I.tuple hq
 obtain⟨j,h1,h2,h3,h4,h5⟩:=vZ he
 obtain⟨w,ew,rw'⟩:=r.get h2
 have hl:=r.length
 have hn:=mV
 have fin:EP X pins σ Q w s:=⟨z,H,I,rw',q⟩
 exact subscriptTail_builtinR (x:=w) pl.typeIs slot_tuple_getitem.lookup
  (getItem_tuple (j:=j) (Q:=λr s'=>r=w/\EP X pins σ Q r s') pl (by omega) (by omega) (by rw[List.size_toArray,<-hl];exact h1) (by simpa using ew) ⟨rfl,fin⟩) hs
def Zbx:B_ X Zea:=by
 intro value slice pins s σ H x y v u Q I rx ry h hs
 obtain⟨z,i,c,rfl,rfl,hz,he,q⟩:=h
 obtain⟨t,rfl⟩:=rx
 obtain⟨t',rfl⟩:=ry
 obtain⟨j,h1,h2,h3,h4,h5⟩:=vZ he
 have hl:z.cps.toList.length=z.length:=by simp[Str.length]
 rw[hl] at h1 h4 h5
 have hn:=mV
 exact tail_any (typeIs_str s z t) slot_str_getitem.lookup (getItem_str (c:=c) (by
  have e1:decide (i < -(2 ^ 63:Int))=false:=decide_eq_false (by omega)
  have e2:decide (i >= 2 ^ 63)=false:=decide_eq_false (by omega)
  rw[e1,e2,Bool.or_false]) (by rw[h1];simpa using h2) ⟨.str ⟨#[c]⟩,H,I.tok _,⟨_,rfl⟩,q⟩) hs
def rIx(K:PySem.W.Frag):R2:=λx y H Q=>Zd9 K x y H Q\/Zd_ K x y H Q\/Zea x y H Q
def Zby:B_ X (rIx X.K):=Qn.or (Zbw.or Zbx)
def Ca(its:List Value)(n j:Nat)(u:Value):Obj.mapSeq (·.setIfInBounds j u) {cls:=.type "list",data:=.seq its.toArray n}= {cls:=.type "list",data:=.seq (its.set j u).toArray n}:=by
 simp[Obj.mapSeq]
theorem Inv.lst{pins:List (Addr×Obj)}{σ:St}{H:Hp}{s:Shared}{p:Addr}{xs:List V}(I:Inv X pins σ H s)(h:H p=some (.lst xs)) :
 ∃(its:List Value) (n:Nat),Vals xs its/\s.heap.get? p=some {cls:=.type "list",data:=.seq its.toArray n}/\xs.length<=sizeLine:=by
 obtain⟨z,its,n,r,e⟩:=I.hok p _ h
 exact⟨its,n,r,e,z⟩
def Inv.Zbz{pins:List (Addr×Obj)}{σ:St}{H:Hp}{s:Shared}{p:Addr}{xs ys:List V}{its its':List Value}{n n':Nat}{f:Obj->Obj}(I:Inv X pins σ H s)(h:H p=some (.lst xs))
 (ho:s.heap.get? p=some {cls:=.type "list",data:=.seq its.toArray n})(hf:f {cls:=.type "list",data:=.seq its.toArray n}= {cls:=.type "list",data:=.seq its'.toArray n'})(r:Vals ys its')(hz:ys.length<=sizeLine)(t:Nat) :
 Inv X pins σ (upd H p (.lst ys)) {s with heap:=s.heap.update p f,toks:=t}:=by
 have e:(s.heap.update p f).get? p=some {cls:=.type "list",data:=.seq its'.toArray n'}:=by
  rw[Heap.get?_update_self f ho (by rw[hf]<;>rfl),hf]
 refine I.write (x:=p) (e:=p) (by rw[h];trivial) (.inl rfl) (λb u hb q=>(Heap.get?_update_other _ _ (Ne.symm hb)).trans q) ⟨_,e⟩ ?_
 exact⟨hz,its',n',r,e⟩
def Zeb:V->V->V->Hp->(Hp->Prop)->Prop:=λo i v H Q=>∃p xs k j,o=.ref p/\i=.int k/\H p=some (.lst xs)/\BZ xs.length k=some j/\Q (upd H p (.lst (xs.set j v)))
def set_list:ZdX X Zeb:=by
 intro pins s σ H o i v ov iv u Q I ro ri rv h
 obtain⟨p,xs,k,j,rfl,rfl,hp,hj,q⟩:=h
 cases ro
 obtain⟨t,rfl⟩:=ri
 obtain⟨its,n,r,ho,hz⟩:=I.lst hp
 obtain⟨h1,h2,h3,h4⟩:=Fi hj
 have hl:=r.length
 have hn:=mV
 have I':Inv X pins σ (upd H p (.lst (xs.set j v))) {s with heap:=s.heap.update p (Obj.mapSeq (·.setIfInBounds j u))}:=
  I.Zbz hp ho (Ca its n j u) (r.set rv j) (by rw[List.length_set];exact hz) s.toks
 by_cases h0:0<=k
 ·have hk:k.toNat=j:=by
   rw[seqIndex_of h0 h4] at h1
   exact Option.some.inj h1
  exact PySem.W.ki_setAt ho h0 (by omega) (by rw[List.size_toArray,<-hl];exact h4) (by rw[hk];exact⟨_,I',q⟩)
 ·have hk:(k+(its.toArray.size:Int)).toNat=j:=by
   rw[seqIndex_neg (by omega) h3] at h1
   rw[List.size_toArray,<-hl]
   exact Option.some.inj h1
  exact PySem.W.ki_setBack ho (by omega) (by rw[List.size_toArray,<-hl];exact h3) (by omega) (by rw[hk];exact⟨_,I',q⟩)
def wg(lo hi:Option Int)(n:Nat):(sliceBounds lo hi none n).1=((HT.jm n 0 lo:Nat):Int)/\(sliceBounds lo hi none n).2.1=((HT.jm n n hi:Nat):Int)/\(sliceBounds lo hi none n).2.2=1:=by
 refine⟨?_,?_,rfl⟩
 ·cases lo with
  |none=>simp[sliceBounds,HT.jm]
  |some i=>
   simp only[sliceBounds,HT.jm,Option.getD_none,show(1:Int)>0 by decide,if_true]
   by_cases h:i<0
   ·simp only[h,if_true]<;>omega
   ·simp only[h,if_false]<;>omega
 ·cases hi with
  |none=>simp[sliceBounds,HT.jm]
  |some i=>
   simp only[sliceBounds,HT.jm,Option.getD_none,show(1:Int)>0 by decide,if_true]
   by_cases h:i<0
   ·simp only[h,if_true]<;>omega
   ·simp only[h,if_false]<;>omega
def ug(its:List Value)(lo hi:Option Int):slicePick its.toArray lo hi none=((its.drop (HT.jm its.length 0 lo)).take (HT.jm its.length its.length hi-HT.jm its.length 0 lo)).toArray:=by
 obtain⟨h1,h2,h3⟩:=wg lo hi its.toArray.size
 unfold slicePick
 rw[h1,h2,h3]
 simp only[sliceRange_one,pick_run,List.size_toArray]<;>rfl
def ZgD(K:PySem.W.Frag):V->Option Int->Option Int->Hp->VK->Prop:=λx lo hi H Q=>∃a xs,x=.ref a/\ų K H a xs/\∀p,H p=none->Q (.ref p) (upd H p (.lst (za xs lo hi)))
def Qo:Fg X (ZgD X.K):=by
 intro pins s σ H x v vl vu lo hi sl Q I rx hs pl pu h
 obtain⟨a,xs,rfl,hx,q⟩:=h
 cases rx
 obtain⟨its,r,ht,hz⟩:=I.list hx
 have hlen:=r.length
 refine⟨"list",_,slot_list_getitem.lookup,ht.isList.typeIs,?_⟩
 refine wpAny_getItem_list_slice ht.isList hs pl pu .none (by simp) ?_ (by rw[List.size_toArray]<;>omega)
 rw[ug,<-hlen]
 refine⟨.ref s.heap.objs.size,_,I.laid (t':=s.toks) (o:=.lst (za xs lo hi)) (λb ob q=>Heap.get?_push_of_some _ q) (Nat.le_refl _) ?_,rfl,q _ (I.hok.fresh (Nat.le_refl _))⟩
 exact⟨Nat.le_trans (zc xs lo hi) hz,_,0,(r.drop (HT.jm xs.length 0 lo)).take (HT.jm xs.length xs.length hi-HT.jm xs.length 0 lo),Heap.get?_push_size _ rfl⟩
def wj:Ŏ X (.type "list") (λxs H Q=>∃p ys,xs=[.ref p]/\(ų X.K H p ys\/dw X.K H p ys)/\∀l,H l=none->Q (.ref l) (upd H l (.lst ys))):=by
 intro pins s σ H xs us Q I r h
 obtain⟨p,ys,rfl,hq,q⟩:=h
 obtain⟨u,rfl,rx⟩:=vals1 r
 cases rx
 have fin:∀(its:List Value),Vals ys its->ys.length<=sizeLine->∀(h':Heap) (c':Nat),(∀b o',s.heap.get? b=some o'->h'.get? b=some o')->
  h'.get? s.heap.objs.size=some {cls:=.type "list",dict:=none,data:=.seq its.toArray c',slots:=#[]}->EP X pins σ Q (.ref s.heap.objs.size) {s with heap:=h'}:=λits r' hz h' c' kp e=>
  ⟨.ref s.heap.objs.size,_,I.laid (t':=s.toks) kp (Nat.le_refl _) (show aN X.prog X.w _ h' _ (.lst ys) from⟨hz,its,c',r',e⟩),rfl,q _ (I.hok.fresh (Nat.le_refl _))⟩
 rcases hq with hq|hq
 ·obtain⟨its,r',pl,hz⟩:=I.list hq
  have hlen:=r'.length
  obtain⟨o,ho,hc,n,hd⟩:=pl.isList
  exact call_list_seq p (.inl rfl) ho hc hd (λh' c' kp e=>fin its r' hz h' c' kp e) (by simp only[List.size_toArray]<;>omega)
 ·obtain⟨its,r',pl,hz⟩:=I.tuple hq
  have hlen:=r'.length
  obtain⟨o,ho,hc,n,hd⟩:=pl
  exact call_list_seq p (.inr rfl) ho hc hd (λh' c' kp e=>fin its r' hz h' c' kp e) (by simp only[List.size_toArray]<;>omega)
def uh:Ŏ X (.type "tuple") (λxs H Q=>∃p ys,xs=[.ref p]/\((ų X.K H p ys/\∀l,H l=none->Q (.ref l) (upd H l (.tup ys)))\/(dw X.K H p ys/\Q (.ref p) H))):=by
 intro pins s σ H xs us Q I r h
 obtain⟨p,ys,rfl,h⟩:=h
 obtain⟨u,rfl,rx⟩:=vals1 r
 cases rx
 rcases h with⟨hq,q⟩|⟨hq,q⟩
 ·obtain⟨its,r',pl,hz⟩:=I.list hq
  have hlen:=r'.length
  refine call_tuple_list pl.isList (λh' kp=>?_) (by simp only[List.size_toArray]<;>omega)
  have I1:Inv X pins σ H {s with heap:=h'}:=I.kept (t':=s.toks) kp
  have I2:Inv X pins σ (upd H h'.objs.size (.tup ys)) {s with heap:=h'.push {cls:=.type "tuple",data:=.seq its.toArray}}:=
   I1.laid (t':=s.toks) (λb o e=>Heap.get?_push_of_some _ e) (Nat.le_refl _) (show aN X.prog X.w _ _ _ (.tup ys) from⟨hz,its,r',IsTup.new _ _⟩)
  exact⟨.ref h'.objs.size,_,I2,rfl,q _ (I1.hok.fresh (Nat.le_refl _))⟩
 ·obtain⟨its,r',pl,hz⟩:=I.tuple hq
  exact call_tuple_same pl ⟨.ref p,H,I,rfl,q⟩
def tyV(K:PySem.W.Frag)(T:String)(x:V)(H:Hp):Prop:=match x with
 | .str _=>T= "str"
 | .int _=>T= "int"
 | .ref p=>(T= "list" ∧∃xs,ų K H p xs)∨(T= "tuple" ∧∃o,K.lookup p=some o∧o.cls=.type "tuple" ∧o.dict=none)∨
     (T= "dict" /\((∃kvs,H p=some (.dK kvs))\/∃kvs,H p=some (.dT kvs)))\/(T= "set" /\∃S n,H p=some (.set S n))
 |_=>False
def ZbA{pins:List (Addr×Obj)}{σ:St}{H:Hp}{s:Shared}{T:String}{x:V}{v:Value}(I:Inv X pins σ H s)(r:RelV x v)(ty:tyV X.K T x H) :
 s.TypeIs v T/\∀a,v=.ref a->∃ob,s.heap.get? a=some ob/\ob.dict=none:=by
 cases x with
 |str z=>
  obtain⟨t,rfl⟩:=r
  cases(show T= "str" from ty)
  exact⟨typeIs_str s z t,λ_ e=>nomatch e⟩
 |int i=>
  obtain⟨t,rfl⟩:=r
  cases(show T= "int" from ty)
  exact⟨typeIs_int s i t,λ_ e=>nomatch e⟩
 |ref p=>
  cases r
  rcases ty with⟨rfl,xs,hq⟩|⟨rfl,o,hk,hc,hd⟩|⟨rfl,hk⟩|⟨rfl,S,n,hk⟩
  ·obtain⟨its,_,pl,_⟩:=I.list hq
   refine⟨pl.isList.typeIs,λa e=>?_⟩
   cases e
   obtain⟨o,n,e,c,hd,_⟩:=pl
   exact⟨o,e,hd⟩
  ·refine⟨⟨o,I.nU p o hk,hc⟩,λa e=>?_⟩
   cases e
   exact⟨o,I.nU _ o hk,hd⟩
  ·have z:∃o,s.heap.get? p=some o∧o.ExactDict:=by
    rcases hk with⟨kvs,hk⟩|⟨kvs,hk⟩
    ·obtain⟨_,_,_,_,o,_,_,e,ex,_⟩:=I.hok p _ hk
     exact⟨o,e,ex⟩
    ·obtain⟨_,_,_,_,o,_,_,e,ex,_⟩:=I.hok p _ hk
     exact⟨o,e,ex⟩
   obtain⟨o,e,ex⟩:=z
   refine⟨⟨o,e,ex.1⟩,λa e2=>?_⟩
   cases e2
   exact⟨o,e,ex.2.1⟩
  ·obtain⟨o,_,_,_,e,ex,_⟩:=I.hok p _ hk
   refine⟨⟨o,e,ex.1⟩,λa e2=>?_⟩
   cases e2
   exact⟨o,e,ex.2.1⟩
 |_=>exact False.elim ty
def tBM(K:PySem.W.Frag)(T:String)(r:V->List V->Hp->VK->Prop)(to:TE)(t:TA):TE:=λσ H Q=>to σ H λx H1=>tyV K T x H1/\t σ H1 λxs H2=>r x xs H2 Q
variable{o e:Expr}{es:List Expr}{to:TE}{t:TA}{name:Str}{apos cpos:Pos}{T id:String}{r:V->List V->Hp->VK->Prop}
def ig(pa:PlainAttrs T)(slot:Slot T name id)(hty:typeOf (.builtin id)=pure (.type "method_descriptor"))(hm:MtR X id r)(ho:PE X o to)(ha:PA X (e::es) t)
 (hbase:attributeBase o name X.env (eval o X.env)=eval o X.env:=by rfl)
 (hfew:((backTo cpos (starEach (e::es) X.env)).all (fun x=>!x.1) && (backToKw cpos (keywordEach [] X.env)).all (fun x=>x.1.isSome)
   && decide ((e::es).length+([]:List Keyword).length+(if([]:List Keyword).isEmpty then 0 else 1)<30))=true:=by rfl)
 (hline:(apos.endLine== cpos.line)=true:=by rfl)(hs:starEach (e::es) X.env=(false,eval e X.env)::starEach es X.env:=by rfl)(hplain:(backTo cpos (starEach es X.env)).any (·.1)=false:=by rfl) :
 PE X (.Call (.Attribute o name apos) (e::es) [] cpos) (tBM X.K T r to t):=by
 intro pins s σ H Q I h
 refine wpAny_Call_method_late hbase hfew hline rfl (Ť (ho pins s σ H _ I h) λv s1 ⟨x,H1,I1,r1,ty,q1⟩=>?_)
 obtain⟨h1,h2⟩:=ZbA I1 r1 ty
 refine⟨T,id,pa,slot,hty,h1,h2,?_⟩
 have hA:=ha cpos pins s1 σ H1 _ I1 q1
 rw[hs] at hA ⊢
 refine Calls.callWith_builtin (by show(false || (backTo cpos (starEach es X.env)).any (·.1))=false;rw[hplain]<;>rfl) (Calls.evalArgs_plain ?_)
 exact Ť hA λus s2 ⟨vs,H2,I2,r2,q2⟩=>hm pins s2 σ H2 x vs v us Q I2 r1 r2 q2
end
end L2
namespace L2
open PySem PySem.Spec PyProof.Rows
def MtM(X:Cx)(id:String)(r:V->List V->Hp->VK->Prop):Prop:=
 ∀(pins:List (Addr×Obj)) (s:Shared) (σ:St) (H:Hp) (x:V) (xs:List V) (v:Value) (us:List Value) (Q:VK),Inv X pins σ H s->RelV x v->Vals xs us->r x xs H Q->
  wpAny (model X.prog X.w) X.A (call (.builtin id) (v::us)) (EP X pins σ Q) X.xe s
theorem Vals.one:∀{x:V} {us:List Value},Vals [x] us->∃u,us=[u]/\RelV x u
 |_,_,.cons r .nil=>⟨_,rfl,r⟩
section
variable{X:Cx}{pins:List (Addr×Obj)}{σ:St}{H:Hp}{s:Shared}{l b:Addr}{xs ys zs:List V}
def Inv.Zec{its its':List Value}{n:Nat}{f:Array Value->Array Value}{t':Nat}(I:Inv X pins σ H s)(hH:H l=some (.lst xs))
 (e:s.heap.get? l=some {cls:=.type "list",data:=.seq its.toArray n})(hf:f its.toArray=its'.toArray)(hv:Vals ys its')(hz:ys.length<=sizeLine) :
 Inv X pins σ (upd H l (.lst ys)) {s with heap:=s.heap.update l (Obj.mapSeq f),toks:=t'}:=by
 have q:=PySem.IsL.update e f
 rw[hf] at q
 refine I.write (x:=l) (e:=l) (by rw[hH];exact trivial) (.inl rfl) (λb' u hb hu=>(Heap.get?_update_other s.heap (Obj.mapSeq f) (Ne.symm hb)).trans hu) ⟨_,q⟩ ?_
 exact⟨hz,its',_,hv,q⟩
def Inv.ZgE{its:List Value}{t':Nat}(I:Inv X pins σ H s)(hv:Vals ys its)(hz:ys.length<=sizeLine) :
 Inv X pins σ (upd H s.heap.objs.size (.lst ys)) {s with heap:=s.heap.push {cls:=.type "list",data:=.seq its.toArray},toks:=t'}:=
 I.laid (λ_ _ q=>Heap.get?_push_of_some _ q) (Nat.le_refl _) ⟨hz,its,0,hv,Heap.get?_push_size _ rfl⟩
theorem Inv.fresh(I:Inv X pins σ H s):H s.heap.objs.size=none:=I.hok.fresh (Nat.le_refl _)
def Inv.ZbB(I:Inv X pins σ H s)(hH:H l=some (.lst xs)):xs.length<=sizeLine/\∃(its:List Value) (n:Nat),Vals xs its/\xs.length=its.length/\s.heap.get? l=some {cls:=.type "list",data:=.seq its.toArray n}:=by
 obtain⟨z,its,n,r,e⟩:=I.hok l _ hH
 exact⟨z,its,n,r,r.length,e⟩
def Ju{n:Nat}(h:n<=sizeLine):Builtin.List.listTooLong n=false:=by
 unfold Builtin.List.listTooLong
 exact decide_eq_false (by omega)
end
section
variable{X:Cx}
def Fj:V->List V->Hp->VK->Prop:=λx vs H Q=>∃l xs y,x=.ref l/\vs=[y]/\H l=some (.lst xs)/\xs.length<sizeLine/\Q .non (upd H l (.lst (xs ++ [y])))
def Ŵ:MtM X "list.append" Fj:=by
 intro pins s σ H x vs v us Q I rx rv h
 obtain⟨l,xs,y,rfl,rfl,hH,hz,q⟩:=h
 cases rx
 obtain⟨u,rfl,ru⟩:=rv.one
 obtain⟨z,its,n,r,hl,e⟩:=I.ZbB hH
 refine call_meets F.slot_list_append ⟨_,e,rfl⟩ F.entry_list_append (F.args_list_append_2 _ _) (PySem.list_append l its.toArray n u (by rw[List.size_toArray];omega)) ⟨e,?_⟩
 refine⟨.non,_,I.Zec (its':=its ++ [u]) hH e (by simp) (r.append (.cons ru .nil)) ?_,rfl,q⟩
 rw[List.length_append,List.length_singleton]
 omega
def Fo:V->List V->Hp->VK->Prop:=λx vs H Q=>∃l b xs zs,x=.ref l/\vs=[.ref b]/\H l=some (.lst xs)/\H b=some (.lst zs)/\xs.length+zs.length<=sizeLine/\Q .non (upd H l (.lst (xs++zs)))
def uJ:MtM X "list.extend" Fo:=by
 intro pins s σ H x vs v us Q I rx rv h
 obtain⟨l,b,xs,zs,rfl,rfl,hH,hB,hz,q⟩:=h
 cases rx
 obtain⟨u,rfl,ru⟩:=rv.one
 cases ru
 obtain⟨z,its,n,r,hl,e⟩:=I.ZbB hH
 obtain⟨z2,its2,n2,r2,hl2,e2⟩:=I.ZbB hB
 have hsz:its.toArray.size+its2.toArray.size<=sizeLine:=by rw[List.size_toArray,List.size_toArray];omega
 have Zed:¬(!its.toArray.isEmpty && Builtin.List.listTooLong (its.toArray.size+its2.toArray.size))=true:=by
  rw[Ju hsz,Bool.and_false]
  exact Bool.false_ne_true
 refine call_meets F.slot_list_extend ⟨_,e,rfl⟩ F.entry_list_extend (F.args_list_extend_2 _ _)
  (AutoSeq1.list_extend_list_list_0 l its.toArray n b its2.toArray n2 Zed (by rw[List.size_toArray];omega) (by omega)) ⟨e,e2,?_⟩
 refine⟨.non,_,I.Zec (its':=its++its2) hH e (by simp) (r.append r2) ?_,rfl,q⟩
 rw[List.length_append]
 omega
end
section
variable{prog:Program}{w:World}{A:Around}{E:Value->Shared->Prop}{s:Shared}
end
section
variable{X:Cx}
end
end L2
namespace Att
open PySem PySem.W PySem.Calls PyProof.Rows
def pC{P:Params}{h:Heap}:∀(ns:List Int) (vs:List Value),WellAll P h vs (ns.map WData.int)->IntsAre vs ns:=by
 intro ns
 induction ns with
 |nil=>
  intro vs w
  rw[List.map_nil] at w
  cases w
  exact .nil
 |cons n ns ih=>
  intro vs w
  rw[List.map_cons] at w
  cases w with
  |cons a b=>
   cases a
   exact .cons _ _ (ih _ b)
def Hv{l:OpenLaw}{n:Nat}(hn:l.most=some n){P:Params}{h:Heap}{args:List WData}{vals:List Value}
 (hpre:l.row.toRowW.claim.pre args=true)(hwl:WellAll P h vals args) :
 ∃a vs ns,vals=[Value.ref a]/\args=[WData.list (ns.map WData.int)]/\h.get? a=some {cls:=.type "list",data:=.seq vs.toArray}/\IntsAre vs ns/\ns.length<=n:=by
 have hsh:WShape.hasAll [] args [.list .int]=true:=(pre_splitW hpre).1
 have hc:l.pre.holds [] {args:=args}=true:=(pre_splitW hpre).2
 obtain⟨d,r,rfl,h1,h2⟩:=hasAllW_cons hsh
 obtain rfl:=hasAllW_nil h2
 obtain⟨xs,rfl,h3⟩:=hasW_list h1
 obtain⟨ns,rfl⟩:=items_int h3
 have hlen:ns.length<=n:=by
  unfold OpenLaw.pre at hc
  have h4:(WTm.not (.lt (.lit (.int (n:Int))) (.len (.arg 0)))).holds [] {args:=[.list (ns.map .int)]}=true:=by
   have h4:=(holds_andW hc).1
   rw[hn] at h4
   exact h4
  have h5:=condW_of h4 (w_not (w_lt w_lit (w_len_list (w_arg rfl))))
  rw[List.length_map] at h5
  refine Nat.le_of_not_lt λq=>?_
  have q':(n:Int)<((ns.length:Nat):Int):=by omega
  first
   |(rw[decide_eq_true q'] at h5;exact absurd h5 (by decide))
   |(simp at h5;omega)
 cases hwl with
 |cons w1 w2=>
  cases w2
  cases w1 with
  |list ho hall=>exact⟨_,_,ns,rfl,rfl,ho,pC ns _ hall,hlen⟩
def Hw(l:OpenLaw)(args:List WData):l.row.toRowW.claim.post args (.bool true) args=true:=
 postW_of (r:=l.row.toRowW) (X:=(true== true))
  (show WShape.has [] (.bool true) .bool=true by first|rfl|decide|simp[WShape.has,WShape.arms,WShape.armsAll])
  (show(WTm.eq .res (.lit (.bool true))).value [] {args:=args,res:=some (.bool true),after:=args}=some (.bool (true== true)) from w_eq_bool (w_res rfl) w_lit) rfl
def zf{l:OpenLaw}{n:Nat}{q:Program}{loose:List Str}{XP:(Str->Option Value)->Heap->Prop}{YP:World->Heap->Prop}{d:DefRec}
 (hn:l.most=some n)(hdf:d.params.defaults=[])
 (call:∀(w:World) (s₀ s₁:Shared) (mg mb:Str→Option Value) (fa:Addr) (o:Obj) (pm cd doc:Value) (a:Addr) (vs:List Value) (ns:List Int),
   Ground q loose [] XP w s₀ mg mb s₁.heap->YP w s₁.heap->
   s₁.heap.get? fa=some o->o.data=.func (docDef d.name d.params d.body d.scope pm cd doc)->s₁.heap.CodeRec cd d.name->mg d.name=some (.ref fa)->
   s₁.heap.get? a=some {cls:=.type "list",data:=.seq vs.toArray}->IntsAre vs ns->ns.length<=n->s₁.gens= #[]->
   codeAny (model l.prog w) callerA (.call (.ref fa) ⟨[.ref a],[]⟩) (λr s'=>r=.ok (.ret (.bool true))/\OldK s₁.heap s'.heap/\s'.os=s₁.os/\AllBare s'.gens) s₁) :
 WalkO q loose XP YP l.row.toRowW d [] (λf vs=>PySem.call f vs):=by
 intro w s₀ s₁ mg mb G Y fa o pm cd doc dV kV ho hd hcd hD hmg hg args vals as hpre hlay hrd hwl hlo
 obtain rfl:dV=.none:=Dflts.none hD hdf
 obtain rfl:kV=.none:=Dflts.noKw hD
 obtain⟨a,vs,ns,rfl,rfl,hobj,hints,hlen⟩:=Hv hn hpre hwl
 refine enter_call (codeAny_mono (call w s₀ s₁ mg mb fa o pm cd doc a vs ns G Y ho (fd_plain hd) hcd hmg hobj hints hlen hg) λr s' hq=>?_)
 obtain⟨rfl,h2,h3,h4⟩:=hq
 exact⟨.inl ⟨.bool true,.bool true,[],rfl,λ_=>rfl,.bool true,Hw l _,λ_=>⟨List.Pairwise.nil,λ_ hm=>(nomatch hm)⟩⟩,h2,h3,h4⟩
section
variable{prog:Program}{w:World}{A:Around}{E:Value->Shared->Prop}{s:Shared}{K:Frag}
end
end Att
namespace L2
open PySem PySem.Spec PyProof.Rows
theorem aO:∀{vs:List Value} {ns:List Int},IntsAre vs ns->Vals (ns.map V.int) vs
 |_,_,.nil=>.nil
 |_,_,.cons n t h=>.cons ⟨t,rfl⟩ (aO h)
def Only(H:Hp):Prop:=∀b,H b=none\/(∃o xs,H b=some (.fL o (.lst xs)))\/∃q,H b=some (.jk q)
def iu(K:PySem.W.Frag):List Str->Hp
 | []=>λ_=>none
 |y::r=>λb=>match PySem.W.tabIn K y with
  |some (_,P)=>if b=P then some (.jk (cP y)) else iu K r b
  |none=>iu K r b
theorem dB{K:PySem.W.Frag}:∀{l:List Str} {b:Addr} {u:HO},iu K l b=some u->∃y c,y∈l/\PySem.W.tabIn K y=some (c,b)/\u=.jk (cP y)
 | [],_,_,h=>by cases(show(none:Option HO)=some _ from h)
 |y::r,b,u,h=>by
  have h':(match PySem.W.tabIn K y with
   |some (_,P)=>if b=P then some (.jk (cP y)) else iu K r b
   |none=>iu K r b)=some u:=h
  have rc:iu K r b=some u->∃z c,z∈y::r/\PySem.W.tabIn K z=some (c,b)/\u=.jk (cP z):=λq=>
   let ⟨z,c,h1,h2,h3⟩:=dB q
   ⟨z,c,List.mem_cons_of_mem _ h1,h2,h3⟩
  cases e:PySem.W.tabIn K y with
  |none=>rw[e] at h';exact rc h'
  |some p=>
   obtain⟨c,P⟩:=p
   rw[e] at h'
   have h2:(if b=P then some (HO.jk (cP y)) else iu K r b)=some u:=h'
   by_cases hb:b=P
   ·rw[if_pos hb] at h2
    cases h2
    exact⟨y,c,List.mem_cons_self,by rw[hb];exact e,rfl⟩
   ·rw[if_neg hb] at h2
    exact rc h2
theorem Fp{K:PySem.W.Frag}{y:Str}{c P:Addr}(e:PySem.W.tabIn K y=some (c,P)):∀{l:List Str},(∀z∈l,z=y)->y∈l->iu K l P=some (.jk (cP y))
 | [],_,h=>by cases h
 |z::r,h1,_=>by
  have hz:=h1 z List.mem_cons_self
  subst hz
  show(match PySem.W.tabIn K z with
   |some (_,Q)=>if P=Q then some (HO.jk (cP z)) else iu K r P
   |none=>iu K r P)=_
  rw[e]
  exact if_pos rfl
def Jv{P:Program}{w:World}{K:PySem.W.Frag}{mg mb:Str->Option Value}{CX:mY}{k:Nat}{fa a:Addr}{fd:FuncData}{x:Str}{sp:Sp}{s₁:Shared}{vs:List Value}{ns:List Int}
 (KX:K.In s₁.heap)(hns:s₁.heap.Ns mainGlobals mg)(hb:s₁.heap.Ns builtinsNs mb)(hbb:∀x:Str,x≠ "__name__" ->mb x=bootBuiltins x)(hlim:s₁.heap.NoLimit)(hg:s₁.gens= #[])
 (ha:s₁.heap.get? a=some {cls:=.type "list",data:=.seq vs.toArray})(hi:IntsAre vs ns)(hl:ns.length<=sizeLine)(hr:ű k callerA)
 (F:∀base:Heap,K.In base->base.Ns mainGlobals mg->Ħ P w K mg base CX k fa fd [x] sp)(hbind:∀(s:Shared) (u:Value),BindsTo s fd ⟨[u],[]⟩ [(x,u)])
 (hsp:∀H:Hp,Only H->ų K H a (ns.map V.int)->sp [.ref a] H (λv _=>v=.bl true) λ_ _ _=>False)
 (hCX:∀H e s',CX [] H s₁ (λ_ _ _=>False) e s'->False)
 (hnt:lams≠[]->PySem.W.noTabs K=true)(hone:∀y z,y∈lams->z∈lams->y=z)(htb:∀y c Pt,y∈lams->PySem.W.tabIn K y=some (c,Pt)->PySem.W.CodeHd s₁.heap c Pt/\s₁.heap.get? Pt=some (PySem.W.tabObj #[])/\s₁.heap.BuiltinsAt mg Pt) :
 codeAny (model P w) callerA (.call (.ref fa) ⟨[.ref a],[]⟩) (λr s'=>r=.ok (.ret (.bool true))/\OldK s₁.heap s'.heap/\s'.os=s₁.os/\AllBare s'.gens) s₁:= by
 have rv:=aO hi
 have lenV:=hi.length
 -- from an abstract heap in which nothing but the script may be tracked
 have core:∀H:Hp,Only H->ų K H a (ns.map V.int)->kO P w H s₁.heap->(∀b,H b≠none->b=a\/∃y c,y∈lams/\PySem.W.tabIn K y=some (c,b))->(H a≠none->K.lookup a=none)->(∀y c Pt,y∈lams->PySem.W.tabIn K y=some (c,Pt)->H Pt=some (.jk (cP y)))->
  codeAny (model P w) callerA (.call (.ref fa) ⟨[.ref a],[]⟩) (λr s'=>r=.ok (.ret (.bool true))/\OldK s₁.heap s'.heap/\s'.os=s₁.os/\AllBare s'.gens) s₁:= by
  intro H hO hS hok hA hK hT
  have qd:∀{b:Addr} {o:Obj},s₁.heap.get? b=some o->H b=none->(tY s₁.heap H).get? b=some o:=λe n=>IV e n
  have noA:∀{b:Addr} {o:Obj} {es:Array DictEntry} {ep:Nat},s₁.heap.get? b=some o->o.data=.dict es ep->H b=none:=fun{b o es ep} e d=>by
   cases q:H b with
   |none=>rfl
   |some u=>
    rcases hA b (by rw[q];simp) with e'|⟨y,c,hy,hty⟩
    ·subst e'
     rw[ha] at e;cases e
     have d':Data.seq vs.toArray _=Data.dict es ep:=d
     cases d'
    ·have e2:=(htb y c b hy hty).2.1
     rw[e] at e2;cases e2;cases d
  have nsK:∀{b:Addr} {m:Str->Option Value},s₁.heap.Ns b m->(tY s₁.heap H).Ns b m:=fun{b m} ⟨o,es,ep,e,d,r⟩=>⟨o,es,ep,qd e (noA e d),d,r⟩
  have hKb:K.In (tY s₁.heap H):=λb o e=>qd (KX b o e) (by
   cases q:H b with
   |none=>rfl
   |some u=>
    rcases hA b (by rw[q];simp) with e'|⟨y,c,hy,hty⟩
    ·subst e'
     rw[hK (by rw[q];simp)] at e;cases e
    ·have e2:=(htb y c b hy hty).2.1
     rw[KX b o e] at e2
     cases e2
     have h2:=List.all_eq_true.mp (hnt (λz=>by rw[z] at hy;cases hy)) (b,_) (PySem.W.mem_of_lookupK e)
     exact absurd (show false=true from h2) Bool.false_ne_true)
  have hM:Mod K mg (tY s₁.heap H):=⟨hKb,nsK hns,⟨mb,nsK hb,hbb⟩,let ⟨mc,h1,h2⟩:=hlim;⟨mc,nsK h1,h2⟩⟩
  have hTB:TabsOk K mg (tY s₁.heap H) H:=λy c Pt hy hty=>by
   obtain⟨⟨o,us,file,tf,flags,tg,inF,text,tt,e1,r1,r2⟩,_,bm,ob,b1,b2,b3,b4,b5,b6,b7⟩:=htb y c Pt hy hty
   refine⟨⟨o,us,file,tf,flags,tg,inF,text,tt,qd e1 ?_,r1,r2⟩,hT y c Pt hy hty,bm,ob,b1,b2,b3,b4,qd b5 ?_,b6,b7⟩
   rotate_left
   ·cases q:H bm with
    |none=>rfl
    |some u=>
     rcases hA bm (by rw[q];simp) with e'|⟨z,c2,hz,htz⟩
     ·rw[e',ha] at b5;cases b5;exact absurd (Value.type.inj b6) (by decide)
     ·have e2:=(htb z c2 bm hz htz).2.1
      rw[b5] at e2;cases e2;cases b6
   cases q:H c with
   |none=>rfl
   |some u=>
    rcases hA c (by rw[q];simp) with e'|⟨z,c2,hz,htz⟩
    ·rw[e',ha] at e1;cases e1;exact absurd (Value.type.inj r1) (by decide)
    ·have e2:=(htb z c2 c hz htz).2.1
     rw[e1] at e2;cases e2;cases r1
  have e0:BR P w K mg (tY s₁.heap H) callerA [] s₁ H:=⟨rfl,hM,λb o e=>PJ e,Nat.le_of_eq (G_ _ _),trivial,λb hb=>absurd (show b∈([]:List Addr) from hb) (by simp),hok,.of_eq hg,hTB⟩
  refine codeAny_mono ((F _ hKb (nsK hns)).run callerA [] s₁ H ⟨[.ref a],[]⟩ [.ref a] [.ref a] _ _ hr e0 (hbind s₁ (.ref a)) (.cons rfl .nil) (hsp H hO hS)) λr s' h=>?_
  cases r with
  |error e=>exact(hCX H e s' h).elim
  |ok fl=>
   cases fl with
   |next=>exact False.elim h
   |brk=>exact False.elim h
   |cont=>exact False.elim h
   |ret u=>
    obtain⟨v,H',os,bare,un,hok',r',q⟩:=h
    have q':v=.bl true:=q
    subst q'
    obtain rfl:u=Value.bool true:=r'
    have old:∀b o,s₁.heap.get? b=some o->(∀t,H b≠some (.jk t))->s'.heap.get? b=some o:=?_
    ·refine⟨rfl,⟨λb o e=>?_,λb o e=>?_⟩,os,bare⟩
     ·by_cases ht:∃t,H b=some (.jk t)
      ·obtain⟨t,ht⟩:=ht
       obtain⟨ps,e1,_⟩:=hok' b _ (un.pA b t ht)
       rcases hA b (by rw[ht];simp) with e'|⟨y,c,hy,hty⟩
       ·subst e'
        obtain⟨ps2,e3,_⟩:=hok b _ ht
        rw[ha] at e3;cases e3
       ·obtain⟨⟨o2,us,file,tf,flags,tg,inF,text,tt,f1,f2,f3,f4,_⟩,e2,_⟩:=htb y c b hy hty
        rw[e] at e2;cases e2
        exact .inr (.inl ⟨⟨c,o2,us,f1,f2,f3,f4⟩,rfl,#[],ps,rfl,by rw[e1];simp⟩)
      ·exact .inl (old b o e λt z=>ht ⟨t,z⟩)
     ·by_cases ht:∃t,H b=some (.jk t)
      ·obtain⟨t,ht⟩:=ht
       obtain⟨ps,e1,_⟩:=hok' b _ (un.pA b t ht)
       exact⟨_,e1⟩
      ·exact⟨o,old b o e λt z=>ht ⟨t,z⟩⟩
    intro b o e nt
    cases q:H b with
    |none=>exact un.keep b o e q (by intro z;exact absurd (show b∈([]:List Addr) from z) (by simp)) (by simp)
    |some u=>
     rcases hO b with z|⟨ob,xs,z⟩|⟨t,z⟩
     ·rw[q] at z;cases z
     rotate_left
     ·exact absurd z (nt t)
     ·have z2:=un.tX b ob _ z
      obtain⟨e1,_⟩:=hok b _ z
      obtain⟨e2,_⟩:=hok' b _ z2
      rw[e] at e1;cases e1
      exact e2
 cases hk:K.lookup a with
 |some o=>
  -- the script is one of the module's own objects
  have e:=KX a o hk
  rw[ha] at e
  cases e
  refine core (iu K lams) (λb=>?_) (.inr ⟨_,vs.toArray,_,hk,rfl,rfl,rfl,by rw[List.size_toArray,lenV];exact hl,by simpa using rv⟩) (λb u z=>?_) (λb z=>?_) (λz=>?_) λy c Pt hy hty=>Fp hty (λz hz=>hone z y hz hy) hy
  ·cases q:iu K lams b with
   |none=>exact .inl rfl
   |some u=>obtain⟨y,c,_,_,rfl⟩:=dB q;exact .inr (.inr ⟨_,rfl⟩)
  ·obtain⟨y,c,hy,hty,rfl⟩:=dB z
   exact⟨#[],(htb y c b hy hty).2.1,trivial,λpos cv z=>by cases z⟩
  ·cases q:iu K lams b with
   |none=>exact absurd q z
   |some u=>obtain⟨y,c,hy,hty,_⟩:=dB q;exact .inr ⟨y,c,hy,hty⟩
  ·cases q:iu K lams a with
   |none=>exact absurd q z
   |some u=>
    obtain⟨y,c,hy,hty,_⟩:=dB q
    have e2:=(htb y c a hy hty).2.1
    rw[ha] at e2;cases e2
 |none=>
  refine core (λb=>if b=a then some (.fL {cls:=.type "list",data:=.seq vs.toArray} (.lst (ns.map V.int))) else iu K lams b) (λb=>?_) (.inl (.inr ⟨{cls:=.type "list",data:=.seq vs.toArray},if_pos rfl⟩)) (λb u z=>?_) (λb z=>?_) (λ_=>hk) λy c Pt hy hty=>?_
  ·by_cases hb:b=a
   ·exact .inr (.inl ⟨_,_,if_pos hb⟩)
   ·cases q:iu K lams b with
    |none=>exact .inl ((if_neg hb).trans q)
    |some u=>obtain⟨y,c,_,_,rfl⟩:=dB q;exact .inr (.inr ⟨_,(if_neg hb).trans q⟩)
  ·by_cases hb:b=a
   ·have z':=(if_pos hb).symm.trans z
    cases z'
    subst hb
    exact⟨ha,by rw[List.length_map];exact hl,vs,_,rv,ha⟩
   ·have z':=(if_neg hb).symm.trans z
    obtain⟨y,c,hy,hty,rfl⟩:=dB z'
    exact⟨#[],(htb y c b hy hty).2.1,trivial,λpos cv z=>by cases z⟩
  ·by_cases hb:b=a
   ·exact .inl hb
   ·cases q:iu K lams b with
    |none=>exact absurd ((if_neg hb).trans q) z
    |some u=>obtain⟨y,c,hy,hty,_⟩:=dB q;exact .inr ⟨y,c,hy,hty⟩
  ·have ne:Pt≠a:=fun z=>by
    subst z
    have e2:=(htb y c _ hy hty).2.1
    rw[ha] at e2;cases e2
   exact(if_neg ne).trans (Fp hty (λz hz=>hone z y hz hy) hy)
end L2
namespace L2
open PySem PySem.Spec PyProof.Rows
def Qp{p:Program}{loose:List Str}{mean:ExcName->Option Value}{mg mb:Str->Option Value}{h:Heap}{K:PySem.W.Frag}{d:DefRec}{x:Str}{c P:Addr}(T:Top p loose mean mg mb h)(X:K.In h)(hr:(recsOf p).find? (λe=>e.name== x)=some d)(ht:PySem.W.tabIn K x=some (c,P)) :
 PySem.W.CodeHd h c P/\h.get? P=some (PySem.W.tabObj #[])/\h.BuiltinsAt mg P:=by
 obtain⟨h1,h2⟩:=PySem.W.tab_of T X hr ht
 obtain⟨bm,ob,b1,b2,b3,b4,b5,b6⟩:=T.bmain
 have hbP:bm≠P:=λq=>by rw[q,h2] at b3;cases b3;cases b4
 have hbG:bm≠mainGlobals:=λq=>by
  obtain⟨o,es,ep,e,hd,_⟩:=T.g
  rw[q,e] at b3;cases b3;rw[hd] at b6;cases b6
 exact⟨h1,h2,bm,ob,b1,b2,hbG,hbP,b3,b4,b5,b6⟩
def Qq{l:PySem.W.OpenLaw}{n k:Nat}{q:Program}{loose:List Str}{XP:(Str->Option Value)->Heap->Prop}{YP:World->Heap->Prop}{d:DefRec}{K:Params->PySem.W.Frag}{CX:World->mY}{sp:World->Sp}{x:Str}
 (hn:l.most=some n)(hn2:n<=sizeLine)(hdf:d.params.defaults=[])(hr:ű k callerA)
 (hY:∀(w:World) (h:Heap),YP w h->(K w.params).In h)
 (F:∀(w:World) (mg:Str→Option Value) (fa:Addr) (h:Heap),(K w.params).In h→h.Ns mainGlobals mg→mg d.name=some (.ref fa)→
   ∃fd:FuncData,(∀(s:Shared) (u:Value),BindsTo s fd ⟨[u],[]⟩ [(x,u)])/\
    ∀base:Heap,(K w.params).In base->base.Ns mainGlobals mg->Ħ l.prog w (K w.params) mg base (CX w) k fa fd [x] (sp w))
 (hsp:∀(w:World) (H:Hp) (a:Addr) (ns:List Int),ns.length<=n->Only H->ų (K w.params) H a (ns.map V.int)->sp w [.ref a] H (λv _=>v=.bl true) λ_ _ _=>False)
 (hCX:∀(w:World) (H:Hp) (s:Shared) (e:Value) (s':Shared),CX w [] H s (λ_ _ _=>False) e s'->False)
 (hnt:lams≠[]->∀w:World,PySem.W.noTabs (K w.params)=true:=by intro z;exact absurd rfl z)(hone:∀y z,y∈lams->z∈lams->y=z:=by simp[lams])(hrec:∀y,y∈lams->∃d,(recsOf q).find? (λe=>e.name== y)=some d:=by simp[lams]) :
 PySem.W.WalkO q loose XP YP l.row.toRowW d [] (λf vs=>PySem.call f vs):=by
 refine Att.zf hn hdf λw s₀ s₁ mg mb fa o pm cd doc a vs ns G Y ho hd hcd hmg hobj hints hlen hg=>?_
 have KX:=hY w _ Y
 obtain⟨fd,hb,hF⟩:=F w mg fa _ KX G.T.g hmg
 exact Jv KX G.T.g G.T.b G.T.builtins G.T.nolimit hg hobj hints (Nat.le_trans hlen hn2) hr hF hb (λH hO hS=>hsp w H a ns hlen hO hS) (λH e s'=>hCX w H s₁ e s') (λz=>hnt z w) hone λy c Pt hy hty=>let ⟨_,hr'⟩:=hrec y hy;Qp G.T KX hr' hty
end L2
namespace L2
open PySem PySem.Spec PyProof.Rows
def inClass(s:Stmt)(j:Nat):Stmt:=match s with
 | .ClassDef _ _ _ body _ _ _ _ _ _ _=>body.getD j (.Pass ⟨0,0,0,0⟩)
 |_=>.Pass ⟨0,0,0,0⟩
def ř(s:Stmt):Arguments:=match s with
 | .FunctionDef _ a _ _ _ _ _ _ _ _=>a
 |_=> {posonlyargs:=[],args:=[],vararg:=none,kwonlyargs:=[],kw_defaults:=[],kwarg:=none,defaults:=[]}
def Ņ(s:Stmt):List Stmt:=match s with
 | .FunctionDef _ _ b _ _ _ _ _ _ _=>b
 |_=>[]
def ć(s:Stmt):Scope:=match s with
 | .FunctionDef _ _ _ _ _ _ sc _ _ _=>sc
 |_=> {kind:=.function,names:=[],isGenerator:=false,isCoroutine:=false}
abbrev Ş:mY:=λ_ _ _ _ _ _=>False
structure Jw(K:PySem.W.Frag)(x qual:Str)(st:Stmt)(f:Addr)(fd:FuncData):Prop where
 ex:∃(oc:Value) (od:Option Addr) (kV doc pm:Value) (an:Option Addr) (cdv ct:Value) (osl:Array (Option Value)),
   fd=PySem.W.fnOf x qual (ř st) (Ņ st) (ć st) .none kV doc pm an cdv ct/\K.lookup f=some ⟨oc,od,.func fd,osl⟩/\PySem.W.codeIn K cdv qual=true
 kp:PySem.W.keepIn K (.ref f)=true
section
variable{P:Program}{w:World}{K:PySem.W.Frag}{mg:Str->Option Value}{base:Heap}
def Jw.binds{x qual:Str}{st:Stmt}{f:Addr}{fd:FuncData}{ps:List Str}(F:Jw K x qual st f fd)
 (h:∀(kV doc pm:Value) (an:Option Addr) (cdv ct:Value) (us:List Value),us.length=ps.length->bindArgs (PySem.W.fnOf x qual (ř st) (Ņ st) (ć st) .none kV doc pm an cdv ct) ⟨us,[]⟩=pure (ps.zip us)):Binds K fd ps []:=by
 obtain⟨oc,od,kV,doc,pm,an,cdv,ct,osl,rfl,lk,hcd⟩:=F.ex
 exact .all (h kV doc pm an cdv ct)
def Jx{x qual:Str}{st:Stmt}{f:Addr}{oc:Value}{od an:Option Addr}{osl:Array (Option Value)}{kV doc pm cdv ct:Value}(l:K.lookup f=some ⟨oc,od,.func (PySem.W.fnOf x qual (ř st) (Ņ st) (ć st) .none kV doc pm an cdv ct),osl⟩)
 (c:PySem.W.codeIn K cdv qual=true)(k:PySem.W.keepIn K (.ref f)=true):Jw K x qual st f (PySem.W.fnOf x qual (ř st) (Ņ st) (ć st) .none kV doc pm an cdv ct):=⟨⟨oc,od,kV,doc,pm,an,cdv,ct,osl,rfl,l,c⟩,k⟩
end
section
variable{X:Cx}
def pv(i:Nat){x:Str}{pos:Pos}(hN:X.N[i]?=some x:=by rfl)(hv:Bp X.env.scope x:=by first|exact Or.inl rfl|exact Or.inr (Or.inl rfl)|exact Or.inr (Or.inr rfl))(hd:(x== ("__debug__" :Str))=false:=by decide)
 (hcd:(x== ("__classdict__" :Str))=false:=by decide):PE X (.Name x pos) (Bq i):=fM hN hv hd hcd
end
def Same(H H':Hp):Prop:=∀b o,H b=some o->H' b=some o
def Same.refl(H:Hp):Same H H:=λ_ _ h=>h
def Same.trans{H H1 H2:Hp}(a:Same H H1)(b:Same H1 H2):Same H H2:=λc o h=>b c o (a c o h)
def Same.free{H H':Hp}(e:Same H H'){l:Addr}(h:H' l=Option.none):H l=Option.none:=by
 cases q:H l with
 |none=>rfl
 |some o=>
  rw[e l o q] at h
  cases h
def Same.seq{K:PySem.W.Frag}{H H':Hp}{a:Addr}{xs:List V}(e:Same H H')(h:ų K H a xs):ų K H' a xs:=by
 rcases h with(h|⟨o,h⟩)|h
 ·exact .inl (.inl (e _ _ h))
 ·exact .inl (.inr ⟨o,e _ _ h⟩)
 ·exact .inr h
end L2
namespace M2
open PySem PySem.Spec PyProof.Rows L2
section
variable{X:Cx}{a b c e:Expr}{ta tb tc te:TE}{pos:Pos}
def PE.wk{t t':TE}(h:PE X e t)(i:∀σ H Q,t' σ H Q->t σ H Q):PE X e t':=λpins s σ H Q I q=>h pins s σ H Q I (i σ H Q q)
def PS.wk{st:Stmt}{t t':TS}(h:PS X st t)(i:∀D σ H,t' D σ H->t D σ H):PS X st t':=λpins s σ H D I q=>h pins s σ H D I (i D σ H q)
def Ű.wk{f:Value->Value->Sem Value}{r r':R2}(h:Ű X f r)(i:∀x y H Q,r' x y H Q->r x y H Q):Ű X f r':=λpins s σ H x y v u Q I rx ry q=>h pins s σ H x y v u Q I rx ry (i x y H Q q)
def Qf.wk{f:Value->Sem Value}{r r':V->Hp->VK->Prop}(h:Qf X f r)(i:∀x H Q,r' x H Q->r x H Q):Qf X f r':=λpins s σ H x v Q I rx q=>h pins s σ H x v Q I rx (i x H Q q)
def Ŏ.wk{f:Value}{r r':List V->Hp->VK->Prop}(h:Ŏ X f r)(i:∀xs H Q,r' xs H Q->r xs H Q):Ŏ X f r':=λpins s σ H xs us Q I r q=>h pins s σ H xs us Q I r (i xs H Q q)
def B_.wk{r r':R2}(h:B_ X r)(i:∀x y H Q,r' x y H Q->r x y H Q):B_ X r':=λva sl pins s σ H x y v u Q I rx ry q=>h va sl pins s σ H x y v u Q I rx ry (i x y H Q q)
def Fg.wk{r r':V->Option Int->Option Int->Hp->VK->Prop}(h:Fg X r)(i:∀x lo hi H Q,r' x lo hi H Q->r x lo hi H Q):Fg X r':=λpins s σ H x v vl vu lo hi sl Q I rx hs pl pu q=>h pins s σ H x v vl vu lo hi sl Q I rx hs pl pu (i x lo hi H Q q)
def ZbC(i:Nat):TE:=λσ H Q=>match σ[i]? with
 |some (some v)=>Q v H
 |_=>False
def Qs{i:Nat}{σ:L2.St}{H:Hp}{Q:VK}(h:ZbC i σ H Q):Bq i σ H Q:=by
 unfold ZbC at h
 split at h
 ·exact⟨_,by assumption,h⟩
 ·exact h.elim
def mv(i:Nat){x:Str}{pos:Pos}(hN:X.N[i]?=some x:=by rfl)(hv:Bp X.env.scope x:=by first|exact Or.inl rfl|exact Or.inr (Or.inl rfl)|exact Or.inr (Or.inr rfl))(hd:(x== ("__debug__" :Str))=false:=by decide)
 (hcd:(x== ("__classdict__" :Str))=false:=by decide):PE X (.Name x pos) (ZbC i):=PE.wk (fM hN hv hd hcd) λ_ _ _ h=>Qs h
def bOf(x:V)(k:Bool->Prop):Prop:=match x with
 | .bl c=>k c
 |_=>False
def mZ{x:V}{k:Bool->Prop}(h:bOf x k):∃c,x=.bl c/\k c:=by
 cases x with
 |bl c=>exact⟨c,rfl,h⟩
 |_=>exact h.elim
def Jy(t:TE):TT:=λσ H Q=>t σ H λx H1=>bOf x λc=>Q c H1
def ZbD{op:CmpOp}{r:R2}(ho:Ű X (compareOp op) r)(ha:PE X a ta)(hb:PE X b tb)(hm:behindInMarks op b=false):PT X (.Compare a [op] [b] pos) (Jy (tOp r ta tb)):=by
 intro pins s σ H Q I h
 refine wpAny_isTrue_Compare1 (Ť (ha pins s σ H _ I h) λv s1 ⟨x,H1,I1,r1,q1⟩=>Ť (hb pins s1 σ H1 _ I1 q1) λu s2 ⟨y,H2,I2,r2,q2⟩=>
  Ť (ho pins s2 σ H2 x y v u _ I2 r1 r2 q2) λc s3 ⟨z,H3,I3,r3,q3⟩=>?_) hm
 obtain⟨k,e,q3⟩:=mZ q3
 subst e
 cases r3
 exact wpAny_truthy_bool ⟨H3,I3,q3⟩
def Cd(r r':R2)(ta tb tc:TE):TE:=λσ H Q=>ta σ H λx H1=>tb σ H1 λy H2=>r x y H2 λz H3=>bOf z λk=>
 (if k=true then tc σ H3 λw' H4=>r' y w' H4 Q else Q (.bl false) H3)
def Jz{op op':CmpOp}{r r':R2}(ho:Ű X (compareOp op) r)(ho':Ű X (compareOp op') r')(ha:PE X a ta)(hb:PE X b tb)(hc:PE X c tc)
 (hm:lastMarks [op,op'] [b,c]=false:=by with_unfolding_all rfl):PE X (.Compare a [op,op'] [b,c] pos) (Cd r r' ta tb tc):=by
 intro pins s σ H Q I h
 refine Compare_chain (Ť (ha pins s σ H _ I h) λv s1 ⟨x,H1,I1,r1,q1⟩=>chain_link (Ť (hb pins s1 σ H1 _ I1 q1) λu s2 ⟨y,H2,I2,r2,q2⟩=>
  Ť (ho pins s2 σ H2 x y v u _ I2 r1 r2 q2) λd s3 ⟨z,H3,I3,r3,q3⟩=>?_)) hm
 obtain⟨k,e,q3⟩:=mZ q3
 subst e
 cases r3
 refine wpAny_truthy_bool ?_
 cases k with
 |false=>exact ite_ff ⟨.bl false,H3,I3,rfl,q3⟩
 |true=>exact ite_tt (chain_last (Ť (hc pins s3 σ H3 _ I3 q3) λw' s4 ⟨z',H4,I4,r4,q4⟩=>ho' pins s4 σ H4 y z' u w' Q I4 r2 r4 q4))
def JB{op op':CmpOp}{r r':R2}(ho:Ű X (compareOp op) r)(ho':Ű X (compareOp op') r')(ha:PE X a ta)(hb:PE X b tb)(hc:PE X c tc)
 (hm:lastMarks [op,op'] [b,c]=false:=by with_unfolding_all rfl):PT X (.Compare a [op,op'] [b,c] pos) (Jy (Cd r r' ta tb tc)):=by
 intro pins s σ H Q I h
 refine isTrue_chain (Ť (ha pins s σ H _ I h) λv s1 ⟨x,H1,I1,r1,q1⟩=>test_link (Ť (hb pins s1 σ H1 _ I1 q1) λu s2 ⟨y,H2,I2,r2,q2⟩=>
  Ť (ho pins s2 σ H2 x y v u _ I2 r1 r2 q2) λd s3 ⟨z,H3,I3,r3,q3⟩=>?_)) hm
 obtain⟨k,e,q3⟩:=mZ q3
 subst e
 cases r3
 refine wpAny_truthy_bool ?_
 cases k with
 |false=>exact ite_ff ⟨H3,I3,q3⟩
 |true=>
  refine ite_tt (test_last (Ť (hc pins s3 σ H3 _ I3 q3) λw' s4 ⟨z',H4,I4,r4,q4⟩=>Ť (ho' pins s4 σ H4 y z' u w' _ I4 r2 r4 q4) λd' s5 ⟨z2,H5,I5,r5,q5⟩=>?_))
  obtain⟨k2,e2,q5⟩:=mZ q5
  subst e2
  cases r5
  exact wpAny_truthy_bool ⟨H5,I5,q5⟩
def Zee(ta tb:TE):TE:=λσ H Q=>ta σ H λx H1=>bOf x λc=>if c=true then tb σ H1 Q else Q (.bl false) H1
def Zef(ta:TE):TE:=λσ H Q=>ta σ H λx H1=>bOf x λc=>Q (.bl (!c)) H1
variable{rest:List Expr}
def ZbE(ha:PE X a ta)(hb:PE X (.BoolOp .And (b::rest) pos) tb):PE X (.BoolOp .And (a::b::rest) pos) (Zee ta tb):=by
 intro pins s σ H Q I h
 refine BoolOp_and (Ť (ha pins s σ H _ I h) λv s1 ⟨x,H1,I1,r1,q1⟩=>?_)
 obtain⟨c,rfl,q1⟩:=mZ q1
 cases r1
 refine wpAny_truthy_bool ?_
 cases c with
 |true=>exact hb pins s1 σ H1 Q I1 q1
 |false=>exact⟨.bl false,H1,I1,rfl,q1⟩
def ZbF(ha:PE X a ta):PE X (.UnaryOp .Not a pos) (Zef ta):=by
 intro pins s σ H Q I h
 refine UnaryOp_ (Ť (ha pins s σ H _ I h) λv s1 ⟨x,H1,I1,r1,q1⟩=>?_)
 obtain⟨c,rfl,q1⟩:=mZ q1
 cases r1
 exact not_of (wpAny_truthy_bool ⟨.bl (!c),H1,I1,rfl,q1⟩)
def mI(C:Int->Int->Prop)(g:Int->Int->V):R2:=λx y H Q=>match x,y with
 | .int i,.int j=>C i j/\Q (g i j) H
 |_,_=>False
def zj(g:Int->Int->V):R2:=λx y H Q=>match x,y with
 | .int i,.int j=>Q (g i j) H
 |_,_=>False
def uK{C:Int->Int->Prop}{g:Int->Int->V}(x y:V)(H:Hp)(Q:VK)(h:mI C g x y H Q):rI C g x y H Q:=by
 cases x with
 |int i=>
  cases y with
  |int j=>exact⟨i,j,rfl,rfl,h.1,h.2⟩
  |_=>exact h.elim
 |_=>exact h.elim
def jU{g:Int->Int->V}(x y:V)(H:Hp)(Q:VK)(h:zj g x y H Q):Jh g x y H Q:=by
 cases x with
 |int i=>
  cases y with
  |int j=>exact⟨i,j,rfl,rfl,h⟩
  |_=>exact h.elim
 |_=>exact h.elim
def Zeg:R2:=λx y H Q=>match x,y with
 | .int i,.int j=>Q (.int (i+j)) H
 | .str i,.str j=>i.length+j.length<=sizeLine/\Q (.str (i++j)) H
 |_,_=>False
def ZbG:Ű X (binaryOp .Add) Zeg:=Ű.wk (Zbg.or Bv) λx y H Q h=>by
 cases x with
 |int i=>
  cases y with
  |int j=>exact .inl ⟨i,j,rfl,rfl,h⟩
  |_=>exact h.elim
 |str i=>
  cases y with
  |str j=>exact .inr ⟨i,j,rfl,rfl,h.1,h.2⟩
  |_=>exact h.elim
 |_=>exact h.elim
def ZbH:Ű X (binaryOp .Sub) (zj λi j=>.int (i-j)):=Ű.wk Zbh jU
def uL(i j:Int):Prop:=Zbf i j\/(Builtin.Int.intBits i<=1048576/\Builtin.Int.intBits j<=1048576)
theorem uL.ok{i j:Int}(h:uL i j):IntMulOk i j:=by
 rcases h with h|⟨h1,h2⟩
 ·exact h.ok
 ·exact IntMulOk.of_le h1 h2 (by decide)
def ZbI:Ű X (binaryOp .Mult) (mI uL λi j=>.int (i*j)):=Ű.wk (Fd (C:=uL) (g:=λi j=>i*j) λ_ _ _ _ _ _ _ hc q=>mul_int q hc.ok) uK
def Hx(_ j:Int):Prop:=j≠0/\Builtin.Int.intBits j<=8000
def Hx.py{i j:Int}(h:Hx i j):Builtin.divisionGoesByPylong i j=false:=by
 refine PyProof.noPylong_of_log2 ?_
 have hb:=intBits_le_iff.mp h.2
 have h0:j.natAbs≠0:=by have:=h.1;omega
 exact Nat.lt_of_lt_of_le ((Nat.log2_lt h0).mpr hb) (by decide)
def Qt:Ű X (binaryOp .FloorDiv) (mI Hx λi j=>.int (i.fdiv j)):=Ű.wk (Fd (C:=Hx) (g:=λi j=>i.fdiv j) λ_ _ _ _ _ _ _ hc q=>floordiv_int hc.1 q (.inl hc.py)) uK
def ZbJ:Ű X (binaryOp .Mod) (mI (λ_ j=>j≠0) λi j=>.int (i.fmod j)):=Ű.wk Qh uK
def m_:Ű X (binaryOp .Pow) (mI Hj λi j=>.int (i ^ j.toNat)):=Ű.wk Zbi uK
def gA:Ű X (compareOp .Lt) (zj λi j=>.bl (decide (i<j))):=Ű.wk Zd3 jU
def gB:Ű X (compareOp .LtE) (zj λi j=>.bl (decide (i<=j))):=Ű.wk Zd4 jU
def SJ:Ű X (compareOp .Gt) (zj λi j=>.bl (decide (j<i))):=Ű.wk Zd5 jU
def Zeh:Ű X (compareOp .GtE) (zj λi j=>.bl (decide (j<=i))):=Ű.wk Zd6 jU
def mU(g:Int->V):V->Hp->VK->Prop:=λx H Q=>match x with
 | .int i=>Q (g i) H
 |_=>False
def cg:Qf X (unaryOp .USub) (mU λi=>.int (-i)):=Qf.wk Zbm λx H Q h=>by
 cases x with
 |int i=>exact⟨i,rfl,h⟩
 |_=>exact h.elim
def mAbs:List V->Hp->VK->Prop:=λxs H Q=>match xs with
 | [.int i]=>Q (.int (if i<0 then -i else i)) H
 |_=>False
def ZbK:Ŏ X (.builtin "abs") mAbs:=Ŏ.wk Jk λxs H Q h=>by
 unfold mAbs at h
 split at h
 ·exact⟨_,rfl,h⟩
 ·exact h.elim
def JC:List V->Hp->VK->Prop:=λxs H Q=>match xs with
 | [.int i,.int j]=>Q (.int (if j<i then j else i)) H
 |_=>False
def wu(hc:X.calm=true):Ŏ X (.builtin "min") JC:=Ŏ.wk (Ho hc) λxs H Q h=>by
 unfold JC at h
 split at h
 ·exact⟨_,_,rfl,h⟩
 ·exact h.elim
def JD:List V->Hp->VK->Prop:=λxs H Q=>match xs with
 | [.int i,.int j]=>Q (.int (if j>i then j else i)) H
 |_=>False
def Qu(hc:X.calm=true):Ŏ X (.builtin "max") JD:=Ŏ.wk (Hl hc) λxs H Q h=>by
 unfold JD at h
 split at h
 ·exact⟨_,_,rfl,h⟩
 ·exact h.elim
def ZbL(K:PySem.W.Frag):List V->Hp->VK->Prop:=λxs H Q=>match xs with
 | [.str y]=>y.length<=sizeLine/\Q (.int (y.length:Int)) H
 | [.ref p]=>∃ys,(ų K H p ys\/dw K H p ys)/\Q (.int (ys.length:Int)) H
 |_=>False
def ş:Ŏ X (.builtin "len") (ZbL X.K):=Ŏ.wk Jl λxs H Q h=>by
 unfold ZbL at h
 split at h
 ·exact⟨_,_,rfl,⟨h.1,rfl⟩,h.2⟩
 ·obtain⟨ys,h1,h2⟩:=h
  refine⟨_,ys.length,rfl,?_,h2⟩
  rcases h1 with h1|h1
  ·exact .inl ⟨ys,h1,rfl⟩
  ·exact .inr ⟨ys,h1,rfl⟩
 ·exact h.elim
def mIx(K:PySem.W.Frag):R2:=λx y H Q=>match x,y with
 | .ref p,.int i=>∃xs v,(ų K H p xs\/dw K H p xs)/\uf xs i=some v/\Q v H
 | .str z,.int i=>∃c,z.length<=sizeLine/\uf z.cps.toList i=some c/\Q (.str ⟨#[c]⟩) H
 |_,_=>False
def Zei:B_ X (mIx X.K):=B_.wk Zby λx y H Q h=>by
 cases x with
 |ref p=>
  cases y with
  |int i=>
   obtain⟨xs,v,h1,h2,h3⟩:=h
   rcases h1 with h1|h1
   ·exact .inl ⟨p,xs,i,v,rfl,rfl,h1,h2,h3⟩
   ·exact .inr (.inl ⟨p,xs,i,v,rfl,rfl,h1,h2,h3⟩)
  |_=>exact h.elim
 |str z=>
  cases y with
  |int i=>
   obtain⟨c,h1,h2,h3⟩:=h
   exact .inr (.inr ⟨z,i,c,rfl,rfl,h1,h2,h3⟩)
  |_=>exact h.elim
 |_=>exact h.elim
def iOf(x:V)(k:Int->Prop):Prop:=match x with
 | .int i=>k i
 |_=>False
def Zej(t:TE):TO:=λσ H Q=>t σ H λx H1=>iOf x λi=>Q (some i) H1
def JF(h:PE X e te):PO X (some e) (Zej te):=by
 intro pins s σ H Q I hw
 rw[evalPart_some]
 refine Ť (h pins s σ H _ I hw) λu s1 ⟨x,H1,I1,r1,q1⟩=>?_
 cases x with
 |int i=>
  obtain⟨t,rfl⟩:=r1
  exact⟨some i,H1,I1,.int i t,q1⟩
 |_=>exact q1.elim
def ZgF(K:PySem.W.Frag):V->Option Int->Option Int->Hp->VK->Prop:=λx lo hi H Q=>match x with
 | .ref a=>∃xs,ų K H a xs/\∀p,H p=none->Q (.ref p) (upd H p (.lst (za xs lo hi)))
 |_=>False
def JG:Fg X (ZgF X.K):=Fg.wk Qo λx lo hi H Q h=>by
 cases x with
 |ref a=>
  obtain⟨xs,h1,h2⟩:=h
  exact⟨a,xs,rfl,h1,h2⟩
 |_=>exact h.elim
end
end M2
namespace M2
open PySem PySem.Spec PyProof.Rows L2
section
variable{X:Cx}{tg:Expr}
end
mutual
def Rp(K:PySem.W.Frag)(H:Hp):PyData->V->Prop
 | .none,v=>v=.non
 | .bool b,v=>v=.bl b
 | .int i,v=>v=.int i
 | .str x,v=>v=.str x
 | .tuple ds,v=>∃a xs,v=.ref a/\dw K H a xs/\ni K H ds xs
 | .list ds,v=>∃a xs,v=.ref a/\ų K H a xs/\ni K H ds xs
 | .dict _,_=>False
def ni(K:PySem.W.Frag)(H:Hp):List PyData->List V->Prop
 | [],xs=>xs=[]
 |d::ds,xs=>∃x r,xs=x::r/\Rp K H d x/\ni K H ds r
end
def Same.tup{K:PySem.W.Frag}{H H':Hp}{a:Addr}{xs:List V}(e:Same H H')(h:dw K H a xs):dw K H' a xs:=by
 rcases h with(h|⟨o,h⟩)|h
 ·exact .inl (.inl (e _ _ h))
 ·exact .inl (.inr ⟨o,e _ _ h⟩)
 ·exact .inr h
theorem Same.upd{H:Hp}{p:Addr}{o:HO}(h:H p=none):Same H (upd H p o):=λb u e=>by
 rw[Ğ (į e h)]
 exact e
mutual
theorem Rp.same{K:PySem.W.Frag}{H H':Hp}(e:Same H H'):∀(d:PyData) (v:V),Rp K H d v->Rp K H' d v
 | .none,_,h=>by unfold Rp at h ⊢;exact h
 | .bool _,_,h=>by unfold Rp at h ⊢;exact h
 | .int _,_,h=>by unfold Rp at h ⊢;exact h
 | .str _,_,h=>by unfold Rp at h ⊢;exact h
 | .tuple ds,_,h=>by
   unfold Rp at h ⊢
   obtain⟨a,xs,h1,h2,h3⟩:=h
   exact⟨a,xs,h1,Same.tup e h2,ni.same e ds xs h3⟩
 | .list ds,_,h=>by
   unfold Rp at h ⊢
   obtain⟨a,xs,h1,h2,h3⟩:=h
   exact⟨a,xs,h1,e.seq h2,ni.same e ds xs h3⟩
 | .dict _,_,h=>by unfold Rp at h;exact h.elim
theorem ni.same{K:PySem.W.Frag}{H H':Hp}(e:Same H H'):∀(ds:List PyData) (xs:List V),ni K H ds xs->ni K H' ds xs
 | [],_,h=>by unfold ni at h ⊢;exact h
 |d::ds,_,h=>by
  unfold ni at h ⊢
  obtain⟨x,r,h1,h2,h3⟩:=h
  exact⟨x,r,h1,Rp.same e d x h2,ni.same e ds r h3⟩
end
section
variable{X:Cx}{pins:List (Addr×Obj)}{σ:L2.St}{H:Hp}{s:Shared}
mutual
theorem Rp.reads(I:Inv X pins σ H s):∀(d:PyData) (v:V) (u:Value),Rp X.K H d v->RelV v u->∃as,Reads s.heap u d as
 | .none,v,u,h,r=>by
   unfold Rp at h;subst h;cases r;exact⟨_,.none⟩
 | .bool b,v,u,h,r=>by
   unfold Rp at h;subst h;cases r;exact⟨_,.bool b⟩
 | .int i,v,u,h,r=>by
   unfold Rp at h;subst h;obtain⟨t,rfl⟩:=r;exact⟨_,.int i t⟩
 | .str x,v,u,h,r=>by
   unfold Rp at h;subst h;obtain⟨t,rfl⟩:=r;exact⟨_,.str x t⟩
 | .tuple ds,v,u,h,r=>by
   unfold Rp at h
   obtain⟨a,xs,h1,h2,h3⟩:=h
   subst h1
   cases r
   obtain⟨its,rv,⟨o,e,hc,n,hd⟩,hz⟩:=I.tuple h2
   obtain⟨as,ra⟩:=ni.reads I ds xs its h3 rv
   exact⟨_,.tuple e hc hd (by simpa using ra)⟩
 | .list ds,v,u,h,r=>by
   unfold Rp at h
   obtain⟨a,xs,h1,h2,h3⟩:=h
   subst h1
   cases r
   obtain⟨its,rv,⟨o,n,e,hc,hdd,hd⟩,hz⟩:=I.list h2
   obtain⟨as,ra⟩:=ni.reads I ds xs its h3 rv
   exact⟨_,.list e hc hd (by simpa using ra)⟩
 | .dict _,_,_,h,_=>by unfold Rp at h;exact h.elim
theorem ni.reads(I:Inv X pins σ H s):∀(ds:List PyData) (xs:List V) (us:List Value),ni X.K H ds xs->Vals xs us->∃as,ReadsAll s.heap us ds as
 | [],xs,us,h,r=>by
   unfold ni at h;subst h;cases r;exact⟨_,.nil⟩
 |d::ds,xs,us,h,r=>by
  unfold ni at h
  obtain⟨x,q,h1,h2,h3⟩:=h
  subst h1
  cases r with
  |cons r1 r2=>
   obtain⟨as,ra⟩:=Rp.reads I d x _ h2 r1
   obtain⟨bs,rb⟩:=ni.reads I ds q _ h3 r2
   exact⟨_,.cons ra rb⟩
end
end
def Qw(K:PySem.W.Frag)(neg:Bool):R2:=λx y H Q=>∃d e,Rp K H d x/\Rp K H e y/\d.canLay0=true/\e.canLay0=true/\min d.depth e.depth<=60/\Q (.bl (if neg then !PyData.eqv d e else PyData.eqv d e)) H
section
variable{X:Cx}
def JH(hu:X.A.units+64<cLine):Ű X (compareOp .Eq) (Qw X.K false):=by
 intro pins s σ H x y v u Q I rx ry h
 obtain⟨d,e,h1,h2,h3,h4,h5,q⟩:=h
 obtain⟨as,ra⟩:=Rp.reads I d x v h1 rx
 obtain⟨bs,rb⟩:=Rp.reads I e y u h2 ry
 exact SeqAt.compareEq_reads ra rb h3 h4 (by omega) ⟨.bl _,H,I,rfl,q⟩
def Ce(hu:X.A.units+64<cLine):Ű X (compareOp .NotEq) (Qw X.K true):=by
 intro pins s σ H x y v u Q I rx ry h
 obtain⟨d,e,h1,h2,h3,h4,h5,q⟩:=h
 obtain⟨as,ra⟩:=Rp.reads I d x v h1 rx
 obtain⟨bs,rb⟩:=Rp.reads I e y u h2 ry
 exact SeqAt.compareNe_reads ra rb h3 h4 (by omega) ⟨.bl _,H,I,rfl,q⟩
end
section
variable{K:PySem.W.Frag}
end
end M2
namespace M3
open PySem PySem.Spec PyProof.Rows L2 M2
def Fq{P:Program}{w:World}{H:Hp}{h h':Heap}{C:Addr}(x:kO P w H h)(hC:H C=none)(k:∀b u,b≠C->h.get? b=some u->h'.get? b=some u):kO P w H h':=λa o e=>
 (x a o e).stay (fun b u hb q=>k b u (by
   rcases hb with hb|hb
   ·rw[hb];exact į e hC
   ·exact į hb hC) q) (λ_ q=>q) λ_ _ q=>q
theorem jV{env:Env}:∀(ns:List (Str×NameKind)) (cs:List (Str×Addr)),(∀y∈ns,y.2=.free->∃c,env.cells.lookup y.1=some c)->(∀x c,cs.lookup x=some c->env.cells.lookup x=some c)->
 ∃cl,(forIn ns cs (λ(x:Str×NameKind) r=>if(x.2== .free)=true then(do let c <-cellOf env x.1;pure (ForInStep.yield ((x.1,c)::r))) else pure (ForInStep.yield r)):Sem (List (Str×Addr)))=pure cl/\
  (∀x c,cl.lookup x=some c->env.cells.lookup x=some c)/\(∀x,(∃c,cs.lookup x=some c)->∃c,cl.lookup x=some c)/\∀y∈ns,y.2=.free->∃c,cl.lookup y.1=some c
 | [],cs,_,h2=>⟨cs,rfl,h2,λ_ z=>z,λ_ z=>nomatch z⟩
 |(n,k)::ns,cs,h1,h2=>by
  by_cases hk:k=.free
  ·subst hk
   obtain⟨c,hc⟩:=h1 (n,.free) List.mem_cons_self rfl
   have e:cellOf env n=pure c:=by unfold cellOf;rw[hc]
   have h2':∀x d,((n,c)::cs).lookup x=some d->env.cells.lookup x=some d:=λx d q=>by
    rw[List.lookup_cons] at q
    cases hx:x== n with
    |true=>
     rw[hx] at q
     have:x=n:=eq_of_beq hx
     subst this
     cases q
     exact hc
    |false=>
     rw[hx] at q
     exact h2 x d q
   obtain⟨cl,q1,q2,q3,q4⟩:=jV ns ((n,c)::cs) (λy hy=>h1 y (List.mem_cons_of_mem _ hy)) h2'
   refine⟨cl,?_,q2,λx ⟨d,hd⟩=>q3 x ?_,λy hy hf=>?_⟩
   ·rw[List.forIn_cons]
    simp only[beq_self_eq_true,if_true,e,pure_bind]
    exact q1
   ·rw[List.lookup_cons]
    cases hx:x== n with
    |true=>exact⟨c,rfl⟩
    |false=>exact⟨d,hd⟩
   ·rcases List.mem_cons.mp hy with rfl|hy
    ·exact q3 n ⟨c,by rw[List.lookup_cons,beq_self_eq_true]⟩
    ·exact q4 y hy hf
  ·have hb:(k== NameKind.free)=false:=by simpa using hk
   obtain⟨cl,q1,q2,q3,q4⟩:=jV ns cs (λy hy=>h1 y (List.mem_cons_of_mem _ hy)) h2
   refine⟨cl,?_,q2,q3,λy hy hf=>?_⟩
   ·rw[List.forIn_cons]
    simp only[hb,Bool.false_eq_true,if_false,pure_bind]
    exact q1
   ·rcases List.mem_cons.mp hy with rfl|hy
    ·exact absurd hf hk
    ·exact q4 y hy hf
def fQ{scope:Scope}{env:Env}(h:∀y∈scope.names,y.2=.free->∃c,env.cells.lookup y.1=some c) :
 ∃cl,closureFor scope env=pure cl/\(∀x c,cl.lookup x=some c->env.cells.lookup x=some c)/\∀y∈scope.names,y.2=.free->∃c,cl.lookup y.1=some c:=by
 obtain⟨cl,q1,q2,_,q4⟩:=jV (env:=env) scope.names [] h (λx c z=>by simp at z)
 refine⟨cl,?_,q2,q4⟩
 unfold closureFor
 have e:(forIn scope.names [] (λ(x:Str×NameKind) (r:List (Str×Addr))=>match x with
  |(name,kind)=>if(kind== .free)=true then(do let a <-cellOf env name;pure (ForInStep.yield ((name,a)::r))) else pure (ForInStep.yield r)):Sem (List (Str×Addr)))=pure cl:=q1
 first
  |(simp only[bind_pure];exact q1)
  |(rw[show ∀(t:Sem (List (Str×Addr))),(do let r <-t;pure r)=t from λt=>by simp];exact q1)
  |(simp only[q1,pure_bind])
def dR(X:Cx)(N':List Str)(scope:Scope)(cl:List (Str×Addr))(C:Addr)(s:Shared)(H:Hp)(fp:List Addr):Cx where
 prog:=X.prog
 w:=X.w
 K:=X.K
 mg:=X.mg
 base:=X.base
 A:=X.A
 N:=N'
 s₀:= s
 H₀:= H
 env:=compEnvC scope cl C X.env
 outer:=X.stack
 stack:=X.stack
 ex:=fp
 fn:=λx=>scope.names.lookup x== some .cell
 calm:=X.calm
 pn:=[]
 xe:=λ_ _=>False
def eX(X:Cx)(sc scope:Scope):List Str->List Nat->Prop
 |x::xs,j::js=>X.N[j]?=some x/\(scope.names.lookup x=some .free/\(sc.names.lookup x=some .cell\/sc.names.lookup x=some .free))/\eX X sc scope xs js
 |_,[]=>True
 | [],_::_=>False
def eY(js:List Nat)(nl:Nat)(σ:L2.St):L2.St:=js.map (λj:Nat=>(σ[j]?).getD none)++List.replicate nl none
theorem nj{X:Cx}{sc scope:Scope}{σ:L2.St}{nl:Nat}:∀{N':List Str} {js:List Nat} {i:Nat} {x:Str} {v:V},eX X sc scope N' js->N'[i]?=some x->(eY js nl σ)[i]?=some (some v)->
 ∃j:Nat,X.N[j]?=some x/\σ[j]?=some (some v)/\scope.names.lookup x=some .free/\(sc.names.lookup x=some .cell\/sc.names.lookup x=some .free)
 |N',[],i,x,v,_,_,h=>by
  unfold eY at h
  rw[List.map_nil,List.nil_append,List.getElem?_replicate] at h
  split at h<;>cases h
 | [],_::_,_,_,_,c,_,_=>c.elim
 |y::N',j::js,0,x,v,c,h1,h2=>by
  obtain⟨c1,c2,_⟩:=c
  simp at h1
  subst h1
  have e:(σ[j]?).getD none=some v:=by simpa[eY] using h2
  refine⟨j,c1,?_,c2⟩
  cases q:σ[j]? with
  |none=>rw[q] at e;cases e
  |some o=>rw[q] at e;exact congrArg some e
 |y::N',j::js,i+1,x,v,c,h1,h2=>by
  exact nj (N':=N') (js:=js) (i:=i) c.2.2 (by simpa using h1) (by simpa[eY] using h2)
section
variable{prog:Program}{w:World}{A:Around}{R:Result->Shared->Prop}{s:Shared}
def kZ{elt target iter:Expr}{ifs:List Expr}{scope:Scope}{pos:Pos}{it acc:Value}{env:Env}(I:Nat->Shared->Prop)
 (turn:∀n s,I n s→wpAny (model prog w) A (pyNext it) (fun r s₁=>match r with
   |none=>R (.ok .next) s₁
   |some v=>wpAny (model prog w) A (letOwnedTupleGo target it v) (fun _ s₁'=>wpAny (model prog w) A (assign target env v) (fun _ s₂=>
     wpAny (model prog w) A (forIn ifs true λc r=>if r=true then do let ok <-isTrue c env (eval c env);pure (ForInStep.yield ok) else pure (ForInStep.yield r)) (λok s₃=>
      if ok=true then wpAny (model prog w) A (eval elt env) (λx s₄=>
       wpAny (model prog w) A (call (.builtin "list.append") [acc,x]) (λ_ s₅=>∃m,m<n/\I m s₅) (λ_ _=>False) s₄) (λ_ _=>False) s₃
      else ∃m,m<n/\I m s₃) (λ_ _=>False) s₂) (λ_ _=>False) s₁') (λ_ _=>False) s₁) (λ_ _=>False) s)
 (n:Nat)(h:I n s) :
 codeAny (model prog w) A (.compLoop (.ListComp elt [⟨target,iter,ifs,0⟩] scope pos) 0 it acc env) R s:=by
 refine codeAny_loop rfl I (λn s hI=>?_) n h
 show wpAny _ A ((compTurn (.ListComp elt [⟨target,iter,ifs,0⟩] scope pos) 0 it acc env).onRaise (λx=>do noteFrame x env;theTreesLotGoes x)) _ _ s
 refine wpAny_noted (wpAny_noRaise ?_)
 rw[compTurn_list]
 refine wpAny_bind (wpAny_standAt (wpAny_bind (wpAny_mono (turn n s hI) (λr s₁ h₁=>?_) λ_ _ h'=>h')))
 cases r with
 |none=>exact wpAny_pure h₁
 |some v=>
  refine wpAny_bind (wpAny_mono h₁ (λ_ s₁' h₁'=>?_) λ_ _ h'=>h')
  refine wpAny_bind (wpAny_mono h₁' (λ_ s₂ h₂=>wpAny_bind (wpAny_mono h₂ (λok s₃ h₃=>?_) λ_ _ h'=>h')) λ_ _ h'=>h')
  cases ok with
  |false=>exact wpAny_pure ⟨rfl,h₃⟩
  |true=>
   exact wpAny_bind (wpAny_bind (wpAny_mono h₃ (λx s₄ h₄=>wpAny_bind (wpAny_mono h₄ (λ_ s₅ h₅=>wpAny_pure (wpAny_pure ⟨rfl,h₅⟩)) λ_ _ h'=>h')) λ_ _ h'=>h'))
end
def Ik(X:Cx)(ifs:List Expr)(t:TT):Prop:=
 ∀(pins:List (Addr×Obj)) (s:Shared) (σ:L2.St) (H:Hp) (Q:Bool->Hp->Prop),Inv X pins σ H s->t σ H Q->
  wpAny (model X.prog X.w) X.A (forIn ifs true λc r=>if r=true then do let ok <-isTrue c X.env (eval c X.env);pure (ForInStep.yield ok) else pure (ForInStep.yield r)) (TP X pins σ Q) X.xe s
def ZgG:TT:=λ_ H Q=>Q true H
def Qx{X:Cx}:Ik X [] ZgG:=λ_ _ _ H _ I h=>wpAny_tests_nil ⟨H,I,h⟩
def Qy{X:Cx}{c:Expr}{t:TT}(h:PT X c t):Ik X [c] t:=λpins s σ H Q I hw=>wpAny_tests_one (h pins s σ H Q I hw)
def JK(js:List Nat)(nl:Nat)(wi:TI)(g:TG)(tt:TT)(te:TE):TE:=λσ H Q=>wi σ H λJ H1=>∀D,H1 D=none->
 ∃W:Nat->Nat->L2.St->Hp->Prop,(∃m,W 0 m (eY js nl σ) (upd H1 D (.lst [])))/\∀i m σ' H',W i m σ' H'->
  (J.stop i H'∧Q (.ref D) H')∨(J.go i H'∧∃N:L2.St→Hp→Prop,(∀σ2 H2,N σ2 H2→∃m',m'<m∧W (i+1) m' σ2 H2)∧∀x H2,J.yld i H' x H2→g x σ' H2 fun σ2 H3=>tt σ2 H3 fun c H4=>
    if c=true then te σ2 H4 λy H5=>∃ys,H5 D=some (.lst ys)/\ys.length<sizeLine/\N σ2 (upd H5 D (.lst (ys ++ [y]))) else N σ2 H4)
section
variable{X:Cx}{elt tg iter:Expr}{ifs:List Expr}{scope:Scope}{pos:Pos}{wi:TI}{g:TG}{tt:TT}{te:TE}
theorem fU{env:Env}:∀{names:List (Str×NameKind)} {x:Str} {k:NameKind},(k=.cell\/k=.free)->
 (names.map λ(n,k)=>if(k== NameKind.free && env.scope.kind== .function && env.kindOf n== some .cell) then(n,NameKind.cell) else(n,k)).lookup x=some k->(x,NameKind.free)∈names\/(x,NameKind.cell)∈names
 | [],x,k,_,h=>by simp at h
 |(n,q)::r,x,k,hk,h=>by
  have ih:=@fU env r x k hk
  rw[List.map_cons] at h
  by_cases hx:x=n
  ·subst hx
   by_cases hf:q=.free
   ·subst hf
    exact .inl List.mem_cons_self
   ·have hb:(q== NameKind.free)=false:=by simpa using hf
    have e:(if(q== NameKind.free && env.scope.kind== .function && env.kindOf x== some .cell)=true then(x,NameKind.cell) else(x,q))=(x,q):=by
     rw[hb];rfl
    have h2:=h
    simp only[e,List.lookup_cons,beq_self_eq_true] at h2
    have:q=k:=Option.some.inj h2
    rcases hk with hk|hk
    ·rw[this,hk]
     exact .inr List.mem_cons_self
    ·exact absurd (this.trans hk) hf
  ·have hn:(x== n)=false:=by simpa using hx
   have h3:(x,NameKind.free)∈r\/(x,NameKind.cell)∈r:=ih (by
    by_cases c:(q== NameKind.free && env.scope.kind== .function && env.kindOf n== some .cell)=true
    ·simp only[c,if_true,List.lookup_cons,hn] at h
     exact h
    ·simp only[c,if_false,Bool.false_eq_true,List.lookup_cons,hn] at h
     exact h)
   rcases h3 with h3|h3
   ·exact .inl (List.mem_cons_of_mem _ h3)
   ·exact .inr (List.mem_cons_of_mem _ h3)
theorem ŵ:∀(names:List (Str×NameKind)) (n:Nat) (acc:List (Str×Addr)),cellsFrom n names acc=cellsFrom n names []++acc
 | [],_,_=>rfl
 |(x,k)::r,n,acc=>by
  unfold cellsFrom
  split
  ·rw[ŵ r (n+1) ((x,n)::acc),ŵ r (n+1) [(x,n)],List.append_assoc]
   rfl
  ·exact ŵ r n acc
theorem fV:∀(names:List (Str×NameKind)) (n:Nat) {x:Str} {c:Addr},(x,c)∈cellsFrom n names []->(x,NameKind.cell)∈names
 | [],_,_,_,h=>by simp[cellsFrom] at h
 |(y,k)::r,n,x,c,h=>by
  unfold cellsFrom at h
  split at h
  ·rename_i hk
   rw[ŵ r (n+1) [(y,n)]] at h
   rcases List.mem_append.mp h with h|h
   ·exact List.mem_cons_of_mem _ (fV r _ h)
   ·have e:(x,c)=(y,n):=by simpa using h
    cases e
    rw[beq_iff_eq.mp hk]
    exact List.mem_cons_self
  ·exact List.mem_cons_of_mem _ (fV r _ h)
structure Blk(X:Cx)(scope:Scope)(n:Nat)(h:Heap)(cl:List (Str×Addr)):Prop where
 at_:∀x c,cl.lookup x=some c->(X.env.cells.lookup x=some c/\scope.names.lookup x≠some .cell)\/(n<c/\h.IsCell c none/\scope.names.lookup x=some .cell)
 inj:∀x y c,cl.lookup x=some c->cl.lookup y=some c->n<c->x=y
 has:∀x,((x,NameKind.free)∈scope.names\/(x,NameKind.cell)∈scope.names)->∃c,cl.lookup x=some c
def JL{X:Cx}{scope:Scope}{n:Nat}{h:Heap}{cl:List (Str×Addr)}(hcell:∀y∈scope.names,y.2=.cell->scope.names.lookup y.1=some .cell)
 (h1:∀x c,cl.lookup x=some c->X.env.cells.lookup x=some c)(h2:∀y∈scope.names,y.2=.free->∃c,cl.lookup y.1=some c)(hlt:∀x c,X.env.cells.lookup x=some c->c<n)
 (ok:CellsOk h (n+1) (cellsFrom (n+1) scope.names [])):Blk X scope n h (cellsFrom (n+1) scope.names cl):=by
 have sp:∀x c,(cellsFrom (n+1) scope.names cl).lookup x=some c->(cl.lookup x=some c/\(cellsFrom (n+1) scope.names []).lookup x=none)\/(cellsFrom (n+1) scope.names []).lookup x=some c:=λx c e=>by
  rw[ŵ,List.lookup_append] at e
  cases q:(cellsFrom (n+1) scope.names []).lookup x with
  |none=>rw[q] at e;exact .inl ⟨by simpa using e,rfl⟩
  |some d=>rw[q] at e;exact .inr (by simpa using e)
 refine⟨λx c e=>?_,λx y c e1 e2 hc=>?_,λx hx=>?_⟩
 ·rcases sp x c e with⟨e,q⟩|e
  ·refine .inl ⟨h1 x c e,λz=>?_⟩
   obtain⟨d,hd⟩:=kY (sc:=scope) (n:=n+1) z
   rw[hd] at q
   cases q
  ·have m:=mem_of_lookup e
   exact .inr ⟨(ok.empty x c m).2,(ok.empty x c m).1,hcell _ (fV _ _ m) rfl⟩
 ·have nw:∀z,(cellsFrom (n+1) scope.names cl).lookup z=some c→(cellsFrom (n+1) scope.names []).lookup z=some c:=fun z e=>by
   rcases sp z c e with⟨e,q⟩|e
   ·exact absurd (hlt z c (h1 z c e)) (Nat.lt_asymm hc)
   ·exact e
  exact name_of_addr ok.apart (mem_of_lookup (nw x e1)) (mem_of_lookup (nw y e2))
 ·rw[ŵ,List.lookup_append]
  rcases hx with hx|hx
  ·obtain⟨c,hc⟩:=h2 _ hx rfl
   cases q:(cellsFrom (n+1) scope.names []).lookup x with
   |none=>exact⟨c,by simpa using hc⟩
   |some d=>exact⟨d,rfl⟩
  ·obtain⟨d,hd⟩:=kY (sc:=scope) (n:=n+1) (hcell _ hx rfl)
   rw[hd]
   exact⟨d,rfl⟩
def jA{M:Model}{A:Around}{E:Value->Shared->Prop}{s:Shared}{scope:Scope}{globals:Addr}{closure:List (Str×Addr)}{qual:Str}
 {func:Option Addr}{code:Value}{env0:Env}{builtins:Addr}{Q:Env->Shared->Prop}
 (hQ:∀h',h'.Ns s.heap.objs.size (fun _=>none)→(∀b o,s.heap.get? b=some o→h'.get? b=some o)→CellsOk h' (s.heap.objs.size+1) (cellsFrom (s.heap.objs.size+1) scope.names [])→
   Q (newEnv scope s.heap.objs.size globals (cellsFrom (s.heap.objs.size+1) scope.names closure) qual func code (some env0) builtins) {s with heap:=h'}) :
 wpAny M A (newFunctionEnv scope globals closure [] qual func code (some env0) builtins) Q E s:=by
 simp only[newFunctionEnv,Option.isSome_some,if_true]
 refine wpAny_bind (wpAny_alloc ?_)
 refine wpAny_bind (wpAny_layCells _ (λname kind cells=>by cases hkc:kind== NameKind.cell<;>simp[hkc]) _ _ _ _ ?_)
 have ok:=cellsFrom_ok scope.names (s.heap.push {cls:=.type "dict",data:=.dict #[]}) (s.heap.objs.size+1) [] ⟨λ_ _ hm=>(nomatch hm),List.Pairwise.nil⟩ (by rw[Heap.size_push];exact Nat.le_refl _)
 rw[Heap.size_push] at ok
 rw[show({s with heap:=s.heap.push {cls:=.type "dict",data:=.dict #[]}}:Shared).heap.objs.size=s.heap.objs.size+1 from Heap.size_push ..]
 refine wpAny_bind ?_
 rw[List.forIn_nil]
 exact wpAny_pure (wpAny_pure (hQ _ ((Heap.Ns.new s.heap (.type "dict")).keeps (pushCells_keeps _ _)) (λb o e=>pushCells_keeps _ _ b o (Heap.get?_push_of_some _ e)) ok))
theorem k_{env:Env}:∀{names:List (Str×NameKind)} {x:Str},names.lookup x=some .free->
 ¬(names.map λ(n,k)=>if(k== NameKind.free && env.scope.kind== .function && env.kindOf n== some .cell) then(n,NameKind.cell) else(n,k)).lookup x=some .local
 | [],x,h=>by simp at h
 |(n,q)::r,x,h=>by
  intro h2
  rw[List.map_cons] at h2
  rw[List.lookup_cons] at h
  cases hx:x== n with
  |true=>
   rw[hx] at h
   cases h
   by_cases c:(NameKind.free== NameKind.free && env.scope.kind== .function && env.kindOf n== some .cell)=true
   ·simp only[c,if_true,List.lookup_cons,hx] at h2
    cases h2
   ·simp only[c,if_false,Bool.false_eq_true,List.lookup_cons,hx] at h2
    cases h2
  |false=>
   rw[hx] at h
   have ih:=k_ (env:=env) h
   by_cases c:(q== NameKind.free && env.scope.kind== .function && env.kindOf n== some .cell)=true
   ·simp only[c,if_true,List.lookup_cons,hx] at h2
    exact ih h2
   ·simp only[c,if_false,Bool.false_eq_true,List.lookup_cons,hx] at h2
    exact ih h2
def uM{pins:List (Addr×Obj)}{σ:L2.St}{H:Hp}{s:Shared}{N':List Str}{js:List Nat}{nl:Nat}{sc:Scope}{cl:List (Str×Addr)}{fp:List Addr}{h':Heap}{tk:Nat}
 (hsc:X.env.scope=sc)(hk:scope.kind=.function)(hcap:eX X sc scope N' js)(hlen:js.length+nl=N'.length)(B:Blk X scope s.heap.objs.size h' cl)
 (I:Inv X pins σ H s)(hf:∀b∈fp,bR X pins H b)(hlt:∀b∈fp,b<s.heap.objs.size)
 (hn:h'.Ns s.heap.objs.size (λ_=>none))(kp:∀b o,s.heap.get? b=some o->h'.get? b=some o) :
 Inv (dR X N' scope cl s.heap.objs.size s H fp) [] (eY js nl σ) H {s with heap:=h',toks:=tk}:=by
 have JM:∀x,((dR X N' scope cl s.heap.objs.size s H fp).env.kindOf x=some .cell\/(dR X N' scope cl s.heap.objs.size s H fp).env.kindOf x=some .free)->∃c,cl.lookup x=some c:=λx hx=>by
  rcases hx with hx|hx
  ·exact B.has x (fU (.inl rfl) hx)
  ·exact B.has x (fU (.inr rfl) hx)
 have lt:∀x c,X.env.cells.lookup x=some c->c<s.heap.objs.size:=λx c e=>by
  obtain⟨v,o,ho,_⟩:=I.cell x c e
  exact Heap.lt_size ho
 have inj:∀x y c,cl.lookup x=some c->cl.lookup y=some c->x=y:=λx y c e1 e2=>by
  rcases B.at_ x c e1 with⟨q1,_⟩|⟨q1,_⟩
  ·rcases B.at_ y c e2 with⟨q2,_⟩|⟨q2,_⟩
   ·exact I.ok.inj x y c q1 q2
   ·exact absurd (lt x c q1) (Nat.lt_asymm q2)
  ·exact B.inj x y c e1 e2 q1
 refine⟨⟨I.ok.mod,hk,I.ok.glob,I.ok.blt,Nat.le_refl _,inj,JM,λx c z e=>by
  rcases B.at_ x c e with⟨_,q⟩|⟨q,_⟩
  ·exact absurd (beq_iff_eq.mp z) q
  ·exact Nat.le_of_lt q,I.ok.hd,I.ok.frames,.inl rfl,λb hb=>⟨Nat.ne_of_lt (hlt b hb),λx c e=>by
  rcases B.at_ x c e with⟨q,_⟩|⟨q,_⟩
  ·exact(hf b hb).2.2.2.2.1 x c q
  ·exact Nat.ne_of_gt (Nat.lt_trans (hlt b hb) q)⟩,
  I.bs,Nat.le_trans I.ok.Pk I.sz,fun b o e hb=>?_,fun b hb hz=>?_,I.stack,I.vW,I.tb⟩,rfl,I.bare,Un.kept kp,⟨_,hn,fun i x v e1 e2 e3=>?_⟩,fun x c e=>?_,I.hok.fresh (Nat.le_refl _),fun x c e=>by
    rcases B.at_ x c e with⟨q,_⟩|⟨q,_⟩
    ·exact I.h_ x c q
    ·exact I.hok.fresh (Nat.le_of_lt q),λp hp=>?_,I.hok.kept kp,?_⟩
 ·rcases(hf b hb).2.2.2.1 with z|z
  ·exact I.ok.Hf b o e z
  ·exact absurd (Nat.lt_of_lt_of_le (Heap.lt_size e) (Nat.le_trans I.ok.Pk z)) (Nat.lt_irrefl _)
 ·rcases List.mem_cons.mp (I.qt b hz) with z|z
  ·exact(hf b hb).2.1 z
  ·exact(hf b hb).2.2.1 z
 ·obtain⟨j,q1,q2,q0,q3⟩:=nj hcap e1 e2
  obtain⟨m,hm,hl⟩:=I.loc
  have ZbM:Bp X.env.scope x:=by
   rw[hsc]
   rcases q3 with q3|q3
   ·exact .inr (.inl q3)
   ·exact .inr (.inr q3)
  obtain⟨u,ru,lk⟩:=hl j x v q1 q2 ZbM
  refine⟨u,ru,?_⟩
  rcases lk with⟨k1,_⟩|⟨k1,c,hc,ic⟩
  ·exfalso
   have k1':sc.names.lookup x=some .local:=by rw[<-hsc];exact k1
   rcases q3 with q3|q3<;>(rw[k1'] at q3;cases q3)
  ·have e3':(dR X N' scope cl s.heap.objs.size s H fp).env.kindOf x=some .local\/(dR X N' scope cl s.heap.objs.size s H fp).env.kindOf x=some .cell\/(dR X N' scope cl s.heap.objs.size s H fp).env.kindOf x=some .free:=e3
   rcases e3' with z|z
   ·exact absurd z (k_ (env:=X.env) q0)
   ·obtain⟨d,hd⟩:=JM x z
    have:d=c:=by
     rcases B.at_ x d hd with⟨q,_⟩|⟨_,_,q⟩
     ·rw[hc] at q
      exact(Option.some.inj q).symm
     ·rw[q0] at q
      cases q
    subst this
    exact .inr ⟨z,d,hd,by
     obtain⟨o,ho,hd'⟩:=ic
     exact⟨o,kp _ _ ho,hd'⟩⟩
 ·rcases B.at_ x c e with⟨q,_⟩|⟨_,q,_⟩
  ·obtain⟨v,o,ho,hd⟩:=I.cell x c q
   exact⟨v,o,kp _ _ ho,hd⟩
  ·exact⟨none,q⟩
 ·exact absurd hp (by simp[dR])
 ·show _=N'.length
  rw[<-hlen]
  simp[eY]
def qH{pins:List (Addr×Obj)}{σ σ':L2.St}{H H':Hp}{s s':Shared}{N':List Str}{cl:List (Str×Addr)}{fp:List Addr}{h':Heap}(I:Inv X pins σ H s)(hf:∀b∈fp,bR X pins H b)
 (J:Inv (dR X N' scope cl s.heap.objs.size s H fp) [] σ' H' s')(kp:∀b u,b≠s.heap.objs.size->s'.heap.get? b=some u->h'.get? b=some u):Inv X pins σ H' {s' with heap:=h'}:=by
 have ne:∀{b:Addr} {o:Obj},s.heap.get? b=some o->b≠s.heap.objs.size:=λe=>Nat.ne_of_lt (Heap.lt_size e)
 have u:=J.base
 refine I.call' (ch:=fp) J.os ⟨λb o e n hb hx=>kp b o (ne e) (u.keep b o e n hb hx),λb o e n hb hx=>?_,λb o e n hx=>u.free b o e n hx,λb o e hx=>?_,u.tups,u.tX,u.pA⟩ (Fq J.hok J.free kp) J.bare λb hb=>?_
 ·obtain⟨sl,q⟩:=u.slot b o e n hb hx
  exact⟨sl,kp b _ (ne e) q⟩
 ·obtain⟨o',q⟩:=u.there b o e hx
  exact⟨o',kp b _ (ne e) q⟩
 ·exact⟨(hf b hb).2.2.2.1,(hf b hb).2.1,(hf b hb).2.2.2.2.1,(hf b hb).2.2.2.2.2⟩
def Qz(N':List Str)(js:List Nat)(nl:Nat)(sc:Scope)(hsc:X.env.scope=sc)(hcalm:X.calm=true)
 (hi:PI X.Ū tg iter wi)(hg:∀cl C s H fp,PG (dR X.Ū N' scope cl C s H fp) tg g)(ht:∀cl C s H fp,Ik (dR X.Ū N' scope cl C s H fp) ifs tt)(he:∀cl C s H fp,PE (dR X.Ū N' scope cl C s H fp) elt te)
 (hcap:eX X.Ū sc scope N' js)(hlen:js.length+nl=N'.length:=by rfl)
 (hk:scope.kind=.function:=by rfl)(hcell:∀y∈scope.names,y.2=.cell->scope.names.lookup y.1=some .cell:=by decide +kernel)(hnames:∀y∈scope.names,y.2=.local->scope.names.lookup y.1=some .local:=by decide +kernel)
 (hfree:∀y∈scope.names,y.2=.free->(sc.names.lookup y.1=some .cell\/sc.names.lookup y.1=some .free):=by decide +kernel)
 (hs:∀x,foldedSetIterable iter X.env x=pure x:=by intro _;rfl) :
 PE X.Ū (.ListComp elt [⟨tg,iter,ifs,0⟩] scope pos) (JK js nl wi g tt te):=by
 intro pins s σ H Q I h
 obtain⟨cl0,c1,c2,c3⟩:=fQ (scope:=scope) (env:=X.Ū.env) λy hy hf=>I.ok.has y.1 (by
  have:=hfree y hy hf
  rw[<-hsc] at this
  exact this)
 rw[eval_ListComp]
 refine wpAny_comprehension_free (use:=none) rfl hs c1 hk hnames (Ť (hi pins s σ H _ I h) λv s1 h1=>Ť h1 λitv s2 h2=>?_)
 obtain⟨it,fp,tn,J,H2,e,I2,T,st2,f2,q2⟩:=h2
 subst e
 refine wpAny_newObj_type (jA (λh₁ hns₁ old ZbN=>?_))
 dsimp only at hns₁ old ZbN ⊢
 generalize hH3:s2.heap.push {cls:=.type "list",dict:=none,data:=.seq ([]:List Value).toArray}=cI at hns₁ old ZbN ⊢
 have hD:H2 s2.heap.objs.size=none:=I2.hok.fresh (Nat.le_refl _)
 have I3:Inv X.Ū pins σ (upd H2 s2.heap.objs.size (.lst [])) {s2 with heap:=cI}:=by
  rw[<-hH3]
  exact I2.laid (t':=s2.toks) (λb u e=>Heap.get?_push_of_some _ e) (Nat.le_refl _) ⟨Nat.zero_le _,[],0,.nil,Heap.get?_push_size _ rfl⟩
 have JN:∀b∈fp,b<s2.heap.objs.size:=λb hb=>by
  obtain⟨o,ho,_⟩:=T.obj 0 _ st2 b hb
  exact Heap.lt_size ho
 have sz3:cI.objs.size=s2.heap.objs.size+1:=by rw[<-hH3,Heap.size_push]
 have f3:∀b∈fp,bR X.Ū pins (upd H2 s2.heap.objs.size (.lst [])) b:=λb hb=>by
  obtain⟨g0,g1⟩:=f2 b hb
  exact⟨by rw[Ğ (Nat.ne_of_lt (JN b hb))];exact g0,g1⟩
 have B:=JL (X:=X.Ū) (cl:=cl0) hcell c2 c3 (λx c e=>by
  obtain⟨v,o,ho,_⟩:=I3.cell x c e
  exact Heap.lt_size ho) ZbN
 generalize cellsFrom (cI.objs.size+1) scope.names cl0=cl at B ⊢
 obtain⟨W,⟨m0,w0⟩,turn⟩:=q2 s2.heap.objs.size hD
 have I4:=uM (X:=X.Ū) (N':=N') (js:=js) (nl:=nl) (sc:=sc) (scope:=scope) (cl:=cl) (fp:=fp) (h':=h₁) (tk:=s2.toks) hsc hk hcap hlen B I3 f3 (λb hb=>by show b<cI.objs.size;rw[sz3];exact Nat.lt_succ_of_lt (JN b hb)) hns₁ old
 have st4:tn 0 h₁:= T.keep 0 _ _ st2 λb hb o e=>old b o (by rw[<-hH3];exact Heap.get?_push_of_some _ e)
 have fr4:∀b∈fp,(upd H2 s2.heap.objs.size (.lst [])) b=none:=λb hb=>(f3 b hb).1
 have stat:∀{H':Hp},(∀b∈fp,H' b=none)->∀b∈fp,bR (dR X.Ū N' scope cl cI.objs.size {s2 with heap:=cI} (upd H2 s2.heap.objs.size (.lst [])) fp) [] H' b:=fun{H'} hn b hb=>by
  obtain⟨g0,g1,g2,g3,g4,g5⟩:=f3 b hb
  refine⟨hn b hb,Nat.ne_of_lt (by show b<cI.objs.size;rw[sz3];exact Nat.lt_succ_of_lt (JN b hb)),λz=>?_,.inl hb,λx c e=>by
   rcases B.at_ x c e with⟨q,_⟩|⟨q,_⟩
   ·exact g4 x c q
   ·exact Nat.ne_of_gt (Nat.lt_trans (by show b<cI.objs.size;rw[sz3];exact Nat.lt_succ_of_lt (JN b hb)) q),λp hp=>absurd hp (by simp[dR])⟩
  rcases List.mem_cons.mp (I3.qt b z) with z|z
  ·exact g1 z
  ·exact g2 z
 have loop:∀s₃:Shared,s₃= {s2 with heap:=h₁}->
  codeAny (model X.prog X.w) X.A (.compLoop (.ListComp elt [⟨tg,iter,ifs,0⟩] scope pos) 0 (.ref it) (.ref s2.heap.objs.size) (compEnvC scope cl cI.objs.size X.Ū.env))
   (compPost (model X.prog X.w) X.A X.Ū.xe none (EP X.Ū pins σ Q) (.ref s2.heap.objs.size) cI.objs.size) s₃:= by
  rintro s₃ rfl
  refine kZ (λn s'=>∃i σ' H',Inv (dR X.Ū N' scope cl cI.objs.size {s2 with heap:=cI} (upd H2 s2.heap.objs.size (.lst [])) fp) [] σ' H' s'/\tn i s'.heap/\(∀b∈fp,H' b=none)/\W i n σ' H') ?_ m0 ⟨0,_,_,I4,st4,fr4,w0⟩
  rintro n s5 ⟨i,σ5,H5,I5,Qe,fr5,w5⟩
  rcases turn i n σ5 H5 w5 with⟨stop,qn⟩|⟨go,N,hN,step⟩
  ·refine Ť (T.done (dR X.Ū N' scope cl cI.objs.size {s2 with heap:=cI} (upd H2 s2.heap.objs.size (.lst [])) fp) rfl rfl rfl hcalm i [] s5 σ5 H5 (λ_ _=>False) I5 (stat fr5) Qe stop) λr s6 ⟨hr,I6⟩=>?_
   subst hr
   obtain⟨m,hm,_⟩:=I6.loc
   refine⟨m,hm,λh' hs'=>⟨.ref s2.heap.objs.size,H5,qH I3 f3 I6 (λb u hb e=>hs'.extBut b u hb e),rfl,qn⟩⟩
  ·refine Ť (T.item (dR X.Ū N' scope cl cI.objs.size {s2 with heap:=cI} (upd H2 s2.heap.objs.size (.lst [])) fp) rfl rfl rfl hcalm i [] s5 σ5 H5 (λ_ _=>False) I5 (stat fr5) Qe go) λr s6 ⟨u,hr,h6⟩=>?_
   subst hr
   refine Ť h6 λ_ s7 ⟨x,H7,I7,r7,y7,st7,fr7⟩=>?_
   have I7':=I7.pinned (stat fr7) (T.obj _ _ st7)
   have again:∀{s8:Shared} {σ8:L2.St} {H8:Hp},Inv (dR X.Ū N' scope cl cI.objs.size {s2 with heap:=cI} (upd H2 s2.heap.objs.size (.lst [])) fp) ([]++mR fp s7.heap) σ8 H8 s8->
    Inv (dR X.Ū N' scope cl cI.objs.size {s2 with heap:=cI} (upd H2 s2.heap.objs.size (.lst [])) fp) [] σ8 H8 s8/\tn (i+1) s8.heap/\∀b∈fp,H8 b=none:=fun{s8 σ8 H8} I8=>by
    refine⟨I8.eU,T.keep _ _ _ st7 λb hb o e=>(I8.pin (b,o) (List.mem_append_right _ (List.mem_append_right _ (ź hb e)))).1,λb hb=>?_⟩
    obtain⟨o,e,d⟩:=T.obj _ _ st7 b hb
    exact(I8.pin (b,o) (List.mem_append_right _ (List.mem_append_right _ (ź hb e)))).2.1
   refine Ť (hg cl _ _ _ fp _ s7 σ5 H7 x u _ I7' r7 (step x H7 y7)) λ_ s8 ⟨σ8,H8,I8,q8⟩=>?_
   refine Ť (ht cl _ _ _ fp _ s8 σ8 H8 _ I8 q8) λc s9 ⟨H9,I9,q9⟩=>?_
   cases c with
   |false=>
    rw[if_neg Bool.false_ne_true] at q9 ⊢
    obtain⟨m',hm',w9⟩:=hN _ _ q9
    obtain⟨a1,a2,a3⟩:=again I9
    exact⟨m',hm',i+1,σ8,H9,a1,a2,a3,w9⟩
   |true=>
    rw[if_pos rfl] at q9 ⊢
    refine Ť (he cl _ _ _ fp _ s9 σ8 H9 _ I9 q9) λyv Bm ⟨y,H10,I10,r10,ys,e10,l10,w10⟩=>?_
    refine Ť (Ŵ _ Bm σ8 H10 (.ref s2.heap.objs.size) [y] (.ref s2.heap.objs.size) [yv] (λ_ H11=>N σ8 H11) I10 rfl (.cons r10 .nil) ⟨_,ys,y,rfl,rfl,e10,l10,w10⟩) λ_ s11 ⟨v11,H11,I11,_,w11⟩=>?_
    obtain⟨a1,a2,a3⟩:=again I11
    obtain⟨m',hm',w11⟩:=hN _ _ w11
    exact⟨m',hm',i+1,σ8,H11,a1,a2,a3,w11⟩
 exact codeAny_compStart_list (loop _ rfl) (T.self _ 0 _ _ _ st4 (loop _ rfl))
end
def Its(z:Str):It:=⟨λi _=>i<z.cps.size,λi H x H'=>H'=H/\∃c,z.cps.toList[i]?=some c/\x=.str ⟨#[c]⟩,λi _=>i=z.cps.size⟩
def Hy{P:Program}{w:World}{K:PySem.W.Frag}{tg:Expr}(it:Addr)(z:Str)(t:Tok)(ty:String)
 (hW:∀A:Around,A.handled=none->Walks P w A it [it] [it] z.cps.size (SignAt z) (λi h=>h.IsStrIter it ty z t i))
 (hS:∀(A:Around) (i:Nat) (s:Shared) (Q:Value->Shared->Prop) (E:Value->Shared->Prop),s.heap.IsStrIter it ty z t i->Q (.ref it) s->wpAny (model P w) A (pyIter (.ref it)) Q E s)
 (hty:["enumerate","zip","dict_itemiterator","dict_reverseitemiterator","odict_iterator","itertools.zip_longest","itertools.pairwise"].contains ty=false):Turn P w K tg (Its z) [it] it (λi h=>h.IsStrIter it ty z t i) where
 mem:=by simp
 obj:=λi h st b hb=>by
  have e:b=it:=by simpa using hb
  subst e
  obtain⟨o,e,c,d⟩:=st
  exact⟨o,e,λv z=>by rw[d] at z;cases z⟩
 keep:=λi h h' st k=>by
  obtain⟨o,e,c,d⟩:=st
  exact⟨o,k it (by simp) o e,c,d⟩
 item:=by
  intro X hP hw hK hc i pins s σ H E I hf st hg
  subst hP hw hK
  obtain⟨f0,f1,f2,f3,f4,f5⟩:=hf it (by simp)
  refine(hW X.A (I.ok.hd hc)).item i s _ _ hg st λv h' tk hv st' kk=>?_
  obtain⟨c,u,hcu,rfl⟩:=hv
  have I1:Inv X pins σ H {s with heap:=h',toks:=tk}:=I.turned (λb o hb e=>kk b o (by simpa using hb) e) f0 f1 f3 f4 f5
  obtain⟨o,e,cl,d⟩:=id st'
  exact⟨_,rfl,Fb (s:={s with heap:=h',toks:=tk}) e cl d hty ⟨.str ⟨#[c]⟩,H,I1,⟨u,rfl⟩,⟨rfl,c,by simpa using hcu,rfl⟩,st',λb hb=>(hf b hb).1⟩⟩
 done:=by
  intro X hP hw hK hc i pins s σ H E I hf st hg
  subst hP hw hK
  obtain⟨f0,f1,f2,f3,f4,f5⟩:=hf it (by simp)
  have e:i=z.cps.size:=hg
  subst e
  exact(hW X.A (I.ok.hd hc)).done s _ _ st λh' tk kk=>⟨rfl,I.turned (λb o hb e=>kk b o (by simpa using hb) e) f0 f1 f3 f4 f5⟩
 self:=hS
section
variable{X:Cx}{tg:Expr}
end
end M3
namespace M4
open PySem PySem.Spec PyProof.Rows L2 M2 M3
section
variable{X:Cx}
def QB{bs:List Bool}:∀{us:List Value},Vals (bs.map V.bl) us->us=bs.map Value.bool:=by
 induction bs with
 |nil=>intro us r;rw[List.map_nil] at r;cases r;rfl
 |cons b bs ih=>
  intro us r
  rw[List.map_cons] at r
  cases r with
  |cons r1 r2=>
   cases r1
   rw[ih r2]
   rfl
def all_range(bs:List Bool):(List.range (bs.map Value.bool).toArray.size).all (λi=>bs.getD i false)=bs.all id:=by
 have e:(bs.map Value.bool).toArray.size=bs.length:=by simp
 rw[e,Bool.eq_iff_iff]
 simp only[List.all_eq_true,List.mem_range,id]
 constructor
 ·intro h b hb
  obtain⟨i,hi,rfl⟩:=List.mem_iff_getElem.mp hb
  have:=h i hi
  rw[List.getD_eq_getElem?_getD,List.getElem?_eq_getElem hi] at this
  exact this
 ·intro h i hi
  rw[List.getD_eq_getElem?_getD,List.getElem?_eq_getElem hi]
  exact h _ (List.getElem_mem hi)
def zm{prog:Program}{w:World}{A:Around}(bs:List Bool):TruthOf prog w A (λi v=>(bs.map Value.bool).toArray[i]?=some v) (λi=>bs.getD i false):=by
 intro i v s Q E hv hq
 have hv':bs[i]?.map Value.bool=some v:=by
  rw[<-List.getElem?_map]
  simpa using hv
 cases hb:bs[i]? with
 |none=>rw[hb] at hv';cases hv'
 |some b=>
  rw[hb] at hv'
  cases hv'
  dsimp only at hq
  rw[List.getD_eq_getElem?_getD,hb] at hq
  exact wpAny_truthy_bool hq
def ZbO(K:PySem.W.Frag):List V->Hp->VK->Prop:=λxs H Q=>match xs with
 | [.ref p]=>∃bs:List Bool,ų K H p (bs.map V.bl)/\Q (.bl (bs.all id)) H
 |_=>False
def wz(hc:X.calm=true):Ŏ X (.builtin "all") (ZbO X.K):=by
 intro pins s σ H xs us Q I r h
 unfold ZbO at h
 split at h
 ·rename_i p
  obtain⟨bs,hS,q⟩:=h
  obtain⟨u,rfl,ru⟩:=vals1 r
  cases ru
  obtain⟨its,rv,pl,hz⟩:=I.list hS
  have e:=QB rv
  subst e
  have hp:p≠s.heap.objs.size:=by
   obtain⟨o,n,e,_⟩:=pl
   exact Nat.ne_of_lt (Heap.lt_size e)
  refine call_all_walk (wpAny_pyIter_list pl.isList ?_)
  refine⟨s.heap.objs.size,_,_,_,_,_,_,rfl,Walks.list (A:=X.A.in1) (show X.A.in1.handled=none from I.ok.hd hc) s.heap.objs.size p hp (bs.map Value.bool).toArray,⟨⟨_,Heap.get?_push_size _ rfl,rfl,rfl⟩,pl.isList.at λo e=>Heap.get?_push_of_some _ e⟩,zm bs,λh' tk k=>?_⟩
  rw[all_range]
  exact⟨.bl _,H,I.kept λb o e=>k b o (by simpa using Nat.ne_of_lt (Heap.lt_size e)) (Heap.get?_push_of_some _ e),rfl,q⟩
 ·exact h.elim
end
abbrev S(l:List Nat):Str:=⟨l.toArray⟩
def ZbP(z:Str):S z.cps.toList=z:=by
 cases z
 simp
def SM(l:List Nat):(S l).length=l.length:=by simp[Str.length]
def zq(z:Str):z.cps.toList.length=z.length:=by simp[Str.length]
def SN(a b:List Nat):S a++S b=S (a++b):=by
 refine PyProof.Rows.ext_toList ?_
 rw[PySem.W.KT.app_list]
def wA(xs:List Nat)(lo hi:Option Int):List Nat:=(xs.drop (HT.jm xs.length 0 lo)).take (HT.jm xs.length xs.length hi-HT.jm xs.length 0 lo)
def idx_eq(z:Str)(lo hi:Option Int):Builtin.Str.strSliceIndices lo hi 1 z.length=(List.range (HT.jm z.length z.length hi-HT.jm z.length 0 lo)).map (HT.jm z.length 0 lo + ·):=by
 have hc:∀(o:Option Int) (d:Nat),d<=z.length->(match o with|none=>((d:Nat):Int)|some i=>max 0 (min (if i<0 then i+(z.length:Int) else i) (z.length:Int)))=((HT.jm z.length d o:Nat):Int):=by
  intro o d hd
  cases o with
  |none=>rfl
  |some i=>
   show max 0 (min (if i<0 then i+(z.length:Int) else i) (z.length:Int))=((if i<0 then(i+(z.length:Int)).toNat else min i.toNat z.length:Nat):Int)
   by_cases h:i<0
   ·rw[if_pos h,if_pos h];omega
   ·rw[if_neg h,if_neg h];omega
 have e:Builtin.Str.strSliceIndices lo hi 1 z.length=sliceRange ((HT.jm z.length 0 lo:Nat):Int) ((HT.jm z.length z.length hi:Nat):Int) 1:=by
  have h1:=hc lo 0 (Nat.zero_le _)
  have h2:=hc hi z.length (Nat.le_refl _)
  unfold Builtin.Str.strSliceIndices
  simp only[show(1:Int)>0 by decide,if_true]
  rw[<-h1,<-h2]
  cases lo<;>cases hi<;>rfl
 rw[e,sliceRange_one]
def QC(z:Str)(lo hi:Option Int):(Builtin.Str.strSliceIndices lo hi 1 z.length).filterMap (z.cps[·]?)=wA z.cps.toList lo hi:=by
 rw[idx_eq,pick_run]
 unfold wA
 rw[zq]
def QD(xs:List Nat)(lo hi:Option Int):(wA xs lo hi).length<=xs.length:=by
 unfold wA
 rw[List.length_take,List.length_drop]
 omega
def JQ{z:Str}{t:Tok}{l u:Option (Int×Tok)}{Q:Value->Shared->Prop}{s:Shared}(hz:z.length<=sizeLine)
 (h:∀t' k,Q (.str (S (wA z.cps.toList (l.map (·.1)) (u.map (·.1)))) t') {s with toks:=k}):(sliceMade z t l u none).post Q s:=by
 have e:=QC z (l.map (·.1)) (u.map (·.1))
 unfold sliceMade
 have ep:slicePicked z l u none=Builtin.Str.strSliceIndices (l.map (·.1)) (u.map (·.1)) 1 z.length:=rfl
 rw[ep]
 split
 ·rename_i hc
  have hl:(Builtin.Str.strSliceIndices (l.map (·.1)) (u.map (·.1)) 1 z.length).length=z.length:=by simpa using hc
  have hz2:wA z.cps.toList (l.map (·.1)) (u.map (·.1))=z.cps.toList:=by
   rw[idx_eq,List.length_map,List.length_range] at hl
   have hi:=HT.Js z.length 0 (Nat.zero_le _) (l.map (·.1))
   have hj:=HT.Js z.length z.length (Nat.le_refl _) (u.map (·.1))
   unfold wA
   rw[zq]
   have hl2:=zq z
   have a0:HT.jm z.length 0 (l.map (·.1))=0\/z.length=0:=by omega
   rcases a0 with a0|a0
   ·rw[a0] at hl ⊢
    rw[List.drop_zero]
    exact List.take_of_length_le (by omega)
   ·have:z.cps.toList=[]:=List.eq_nil_of_length_eq_zero (by omega)
    rw[this]
    simp
  have:=h t s.toks
  rw[hz2,ZbP] at this
  exact this
 ·rw[e]
  exact⟨by rw[SM];have:=QD z.cps.toList (l.map (·.1)) (u.map (·.1));rw[zq] at this;omega,h _ _⟩
section
variable{X:Cx}
def ZgH:V->Option Int->Option Int->Hp->VK->Prop:=λx lo hi H Q=>match x with
 | .str z=>z.length<=sizeLine/\Q (.str (S (wA z.cps.toList lo hi))) H
 |_=>False
def QF:Fg X ZgH:=by
 intro pins s σ H x v vl vu lo hi sl Q I rx hs pl pu h
 cases x with
 |str z=>
  obtain⟨t,rfl⟩:=rx
  obtain⟨hz,q⟩:=h
  obtain⟨l,el,el2⟩:∃l:Option (Int×Tok),partValue l=vl/\l.map (·.1)=lo:=by
   cases pl with
   |none=>exact⟨none,rfl,rfl⟩
   |int i t=>exact⟨some (i,t),rfl,rfl⟩
  obtain⟨u,eu,eu2⟩:∃u:Option (Int×Tok),partValue u=vu/\u.map (·.1)=hi:=by
   cases pu with
   |none=>exact⟨none,rfl,rfl⟩
   |int i t=>exact⟨some (i,t),rfl,rfl⟩
  subst el el2 eu eu2
  exact⟨"str",_,F.slot_str_getitem.lookup,typeIs_str s z t,wpAny_getItem_str_slice (l:=l) (u:=u) (st:=none) hs rfl (JQ hz λt' k=>⟨.str _,H,I.tok _,⟨_,rfl⟩,q⟩)⟩
 |_=>exact h.elim
def ZgI(K:PySem.W.Frag):V->Option Int->Option Int->Hp->VK->Prop:=λx lo hi H Q=>match x with
 | .ref a=>∃xs,ų K H a xs/\∀p,H p=none->Q (.ref p) (upd H p (.lst (za xs lo hi)))
 | .str z=>z.length<=sizeLine/\Q (.str (S (wA z.cps.toList lo hi))) H
 |_=>False
def slm:Fg X (ZgI X.K):=Fg.wk (JG.or QF) λx lo hi H Q h=>by
 cases x with
 |ref a=>exact .inl h
 |str z=>exact .inr h
 |_=>exact h.elim
def mul_eq(z:Str){n:Int}(h:0<=n):Txt.mul z n=S (List.replicate n.toNat z.cps.toList).flatten:=by
 have key:∀(k:Nat) (acc:Array Nat),((List.replicate k z.cps).foldl (·++ ·) acc).toList=acc.toList++(List.replicate k z.cps.toList).flatten:=by
  intro k
  induction k with
  |zero=>intro acc;simp
  |succ k ih=>
   intro acc
   rw[List.replicate_succ,List.foldl_cons,ih,List.replicate_succ,List.flatten_cons]
   simp
 unfold Txt.mul
 refine PyProof.Rows.ext_toList ?_
 by_cases h1:n<1
 ·rw[if_pos h1]
  have:n.toNat=0:=by omega
  rw[this]
  simp[Str.empty]
 ·rw[if_neg h1]
  split
  ·rename_i hc
   rw[Bool.or_eq_true] at hc
   rcases hc with hc|hc
   ·have:n=1:=by simpa using hc
    subst this
    simp
   ·have h0:z.cps.toList=[]:=List.eq_nil_of_length_eq_zero (by rw[zq];simpa using hc)
    rw[h0]
    simp
  ·rw[key]
   simp
def JR(z:Str)(n:Int):Prop:=0<=n/\n<=1000/\z.length<=1000
def JR.ok{z:Str}{n:Int}(h:JR z n):MulOk z n:=by
 obtain⟨h0,h1,h2⟩:=h
 refine⟨?_,λhn _=>?_,λhn _=>?_⟩
 ·rw[decide_eq_false (by omega),decide_eq_false (by omega)]
  rfl
 ·have:(9000000000000000:Int)≤(2 ^ 63-1) / n:=by
   rw[Int.le_ediv_iff_mul_le (by omega)]
   omega
  omega
 ·have:z.length*n.toNat<=1000*1000:=Nat.mul_le_mul h2 (by omega)
  unfold Builtin.Str.tooLong
  simp
  rw[sizeLine_eq]
  omega
def JT:R2:=λx y H Q=>match x,y with
 | .int i,.int j=>uL i j/\Q (.int (i*j)) H
 | .str z,.int n=>JR z n/\Q (.str (S (List.replicate n.toNat z.cps.toList).flatten)) H
 |_,_=>False
def QG:Ű X (binaryOp .Mult) JT:=by
 intro pins s σ H x y v u Q I rx ry h
 unfold JT at h
 split at h
 ·exact ZbI pins s σ H _ _ v u Q I rx ry h
 ·obtain⟨t,rfl⟩:=rx
  obtain⟨t',rfl⟩:=ry
  exact SB.mul h.1.ok λt' k=>⟨.str _,H,I.tok _,⟨_,by rw[mul_eq _ h.1.1]⟩,h.2⟩
 ·exact h.elim
def gC(sep:List Nat):List (List Nat)->List Nat
 | []=>[]
 | [x]=>x
 |x::y::r=>x++sep++gC sep (y::r)
theorem join_eq(sep:Str):∀ys:List (List Nat),Str.join sep (ys.map S)=S (gC sep.cps.toList ys)
 | []=>rfl
 | [x]=>rfl
 |x::y::r=>by
  have ih:=join_eq sep (y::r)
  show S x++sep++Str.join sep ((y::r).map S)=_
  have e:gC sep.cps.toList (x::y::r)=x++sep.cps.toList++gC sep.cps.toList (y::r):=rfl
  rw[ih,e,<-SN,<-SN,ZbP]
def QH{ys:List (List Nat)}:∀{us:List Value},Vals (ys.map λl=>V.str (S l)) us->StrsAre us (ys.map S):=by
 induction ys with
 |nil=>intro us r;rw[List.map_nil] at r;cases r;exact .nil
 |cons y ys ih=>
  intro us r
  rw[List.map_cons] at r
  cases r with
  |cons r1 r2=>
   obtain⟨t,rfl⟩:=r1
   exact .cons _ t (ih r2)
def JV(K:PySem.W.Frag):V->List V->Hp->VK->Prop:=λx vs H Q=>match x,vs with
 | .str z,[.ref p]=>∃ys:List (List Nat),ų K H p (ys.map λl=>V.str (S l))/\(ys.map List.length).sum+ys.length*z.length<=16777216/\Q (.str (S (gC z.cps.toList ys))) H
 |_,_=>False
def QJ:MtR X "str.join" (JV X.K):=by
 intro pins s σ H x xs v us Q I rx rs h
 unfold JV at h
 split at h
 ·obtain⟨ys,hS,hz,q⟩:=h
  obtain⟨t,rfl⟩:=rx
  obtain⟨u,rfl,ru⟩:=vals1 rs
  cases ru
  obtain⟨its,rv,pl,_⟩:=I.list hS
  refine join_list pl.isList (by simpa using QH rv) ?_ λt' k=>⟨.str _,H,I.tok _,⟨t',?_⟩,q⟩
  ·have e1:((ys.map S).map (·.length))=ys.map List.length:=by
    rw[List.map_map]
    exact List.map_congr_left λl _=>SM l
   rw[e1,List.length_map]
   exact hz
  ·unfold Txt.join
   rw[StrLaws.glued_eq_join,join_eq]
 ·exact h.elim
end
end M4
namespace M5
open PySem PySem.Spec PyProof.Rows L2 M2 M3
def Cg{p2:Pos}{c:Value}{a b:Int}{cv:Value}(l:List Value)(h:TriplesOk l)(e:codeAmong p2 (l ++ [rawInt a,rawInt b,c])=some cv):codeAmong p2 l=some cv\/cv=c:=by
 fun_induction TriplesOk l with
 |case1=>
  right
  simp only[List.nil_append,codeAmong,rawInt] at e
  split at e
  ·exact(Option.some.inj e).symm
  ·cases e
 |case2 a' t b' u x rest ih=>
  simp only[List.cons_append,codeAmong] at e ⊢
  split at e
  ·rename_i hc;rw[if_pos hc];exact .inl e
  ·rename_i hc;rw[if_neg hc];exact ih h e
 |case3 l h1 h2=>exact h.elim
section
variable{X:Cx}{pins:List (Addr×Obj)}{σ:L2.St}{H:Hp}{s:Shared}{x:Str}{c P:Addr}{params:Arguments}{body:Expr}{scope:Scope}{pos:Pos}{cl:List (Str×Addr)}
def JW{Q:Value->Shared->Prop}{E:Value->Shared->Prop}(I:Inv X pins σ H s)(hx:x∈lams)(ht:PySem.W.tabIn X.K x=some (c,P))(hcode:X.env.code=.ref c)(hq:X.env.qual=x ++ ".<locals>.")(hdef:defaultsOf params X.env=([],[]))(hcl:closureFor scope X.env=pure cl)
 (h:∀f c' pm ctv H' s',Inv X pins σ H' s'->(∀a,H a=none->H' a=none\/a=c')->Same H H'->H' c'=some (.GZ (cP x))->s'.heap.get? f=some (PySem.W.kla_obj "<lambda>" (cP x) params body scope cl pm c' ctv)->bR X pins H' f->Q (.ref f) s') :
 wpAny (model X.prog X.w) X.A (eval (.Lambda params body scope pos) X.env) Q E s:=by
 obtain⟨C,hT,hB⟩:=I.tb x c P hx ht
 obtain⟨ps,hP,tr,ent⟩:=I.hok P _ hT
 have hg:=I.ok.mod.glob.keeps I.bk
 have hgP:mainGlobals≠P:=λq=>by
  obtain⟨o,es,ep,e,hd,_⟩:=hg
  rw[q,hP] at e;cases e;cases hd
 have hB':s.heap.BuiltinsAt X.mg P:=by
  obtain⟨bm,ob,b1,b2,b3,b4,b5,b6⟩:=hB
  exact⟨bm,ob,b1,b2,b3,b4,I.bk _ _ b5,b6⟩
 refine PySem.W.kla_eval hdef ?_
 rw[hq]
 cases hf:codeAmong pos ps.toList with
 |none=>
  refine PySem.W.kla_makeFunction (mg:=X.mg) hcl I.ok.glob hg hcode (C.keeps I.bk) hP tr hf hgP hB' λc' ctv h' tk hxb hge hlt hrec htb=>?_
  have hc':H c'=none:=I.hok.fresh hge
  have hcP:c'≠P:=λz=>by rw[z,hT] at hc';cases hc'
  have neP:∀b,H b=none->b≠P:=λb n z=>by rw[z,hT] at n;cases n
  have old:∀b o,b≠P->s.heap.get? b=some o->(h'.push (PySem.W.kla_obj "<lambda>" (cP x) params body scope cl ((X.mg "__name__").getD .none) c' ctv)).get? b=some o:=λb o hb e=>Heap.get?_push_of_some _ (hxb b o hb e)
  have u:Un X.fs [] H (upd H c' (.GZ (cP x))) s.heap (h'.push (PySem.W.kla_obj "<lambda>" (cP x) params body scope cl ((X.mg "__name__").getD .none) c' ctv)):=by
   refine⟨λb o e n _ _=>old b o (neP b n) e,λb o e n _ _=>⟨o.slots,old b o (neP b n) e⟩,λb o e n _=>?_,λb o e _=>?_,λb xs e=>by rw[Ğ (į e hc')];exact e,λb o u e=>by rw[Ğ (į e hc')];exact e,λb q e=>by rw[Ğ (į e hc')];exact e⟩
   ·rw[Ğ (Nat.ne_of_lt (Nat.lt_of_lt_of_le (Heap.lt_size e) hge))];exact n
   ·by_cases hb:b=P
    ·exact⟨_,by rw[hb];exact Heap.get?_push_of_some _ htb⟩
    ·exact⟨o,old b o hb e⟩
  have hok:kO X.prog X.w (upd H c' (.GZ (cP x))) (h'.push (PySem.W.kla_obj "<lambda>" (cP x) params body scope cl ((X.mg "__name__").getD .none) c' ctv)):=λb v e=>by
   by_cases hb:b=c'
   ·subst hb
    rw[ĭ] at e;cases e
    obtain⟨c2,o,vs,t,z,e1,r⟩:=hrec
    exact⟨c2,o,vs,t,z,Heap.get?_push_of_some _ e1,r⟩
   ·rw[Ğ hb] at e
    by_cases hbP:b=P
    ·subst hbP
     rw[hT] at e;cases e
     refine⟨_,Heap.get?_push_of_some _ htb,?_,λp2 cv z=>?_⟩
     ·have:=TriplesOk_snoc pos.line pos.col (.ref c') ps.toList tr
      simpa using this
     ·rcases Cg (a:=pos.line) (b:=pos.col) (c:=.ref c') ps.toList tr (by simpa using z) with z|z
      ·obtain⟨d,z1,z2⟩:=ent p2 cv z
       exact⟨d,z1,by rw[Ğ (į z2 hc')];exact z2⟩
      ·exact⟨c',z,ĭ⟩
    ·exact(I.hok b v e).stay (fun b2 o hb2 q=>old b2 o (by
      rcases hb2 with z|z
      ·rw[z];exact hbP
      ·intro z2;rw[z2,hT] at z;cases z) q) (λd q=>by rw[Ğ (į q hc')];exact q) (λd xs q=>by rw[Ğ (į q hc')];exact q) λd xs q=>by rw[Ğ (į q hc')];exact q
  have hfz:s.heap.objs.size<=h'.objs.size:=Nat.le_of_lt (Nat.lt_of_le_of_lt hge hlt)
  refine h h'.objs.size c' _ ctv (upd H c' (.GZ (cP x))) _ (I.un (t':=tk) u hok) (λa n=>?_) (λb v e=>by rw[Ğ (į e hc')];exact e) ĭ (Heap.get?_push_size _ rfl) (I.tZ hfz (by rw[Ğ (Nat.ne_of_gt hlt)];exact I.hok.fresh hfz))
  by_cases ha:a=c'
  ·exact .inr ha
  ·exact .inl (by rw[Ğ ha];exact n)
 |some cv=>
  obtain⟨c',rfl,hcc⟩:=ent pos cv hf
  refine PySem.W.kla_makeFunctionHit (mg:=X.mg) hcl I.ok.glob hg hcode (C.keeps I.bk) hP tr hf hB' λctv h' tk hk hsz=>?_
  exact h h'.objs.size c' _ ctv H _ (I.kept (t':=tk) λb o e=>Heap.get?_push_of_some _ (hk b o e)) (λ_ n=>.inl n) (Same.refl H) hcc (Heap.get?_push_size _ rfl) (I.tZ hsz (I.hok.fresh hsz))
end
def Il(X:Cx)(N':List Str)(qual:Str)(scope:Scope)(cl:List (Str×Addr))(f:Addr)(c':Addr)(A:Around)(s:Shared)(H:Hp):Cx where
 prog:=X.prog
 w:=X.w
 K:=X.K
 mg:=X.mg
 base:=X.base
 A:=A.deeper (PySem.W.envX qual scope s.heap.objs.size f (.ref c') cl)
 N:=N'
 s₀:= s
 H₀:= H
 env:=PySem.W.envX qual scope s.heap.objs.size f (.ref c') cl
 outer:=X.stack
 stack:=PySem.W.envX qual scope s.heap.objs.size f (.ref c') cl::X.stack
 ex:=[]
 fn:=λ_=>false
 calm:=true
 pn:=[]
 xe:=λ_ _=>False
def eZ(js:List Nat)(σ:L2.St)(v:V):L2.St:=js.map (λj:Nat=>(σ[j]?).getD none) ++ [some v]
section
variable{X:Cx}{pins:List (Addr×Obj)}{σ:L2.St}{H:Hp}{s:Shared}{params:Arguments}{body:Expr}{scope sc:Scope}{cl:List (Str×Addr)}{N0:List Str}{js:List Nat}{qual px:Str}{f c':Addr}{A:Around}
def QK(hsc:X.env.scope=sc)(hk:scope.kind=.function)(hcap:eX X sc scope N0 js)(hlen:js.length=N0.length)(hcell:∀y∈scope.names,y.2≠ .cell)(hpx:scope.names.lookup px=some .local)
 (hA:A.frames=some X.stack)(hhd:A.handled=none)(c2:∀x c,cl.lookup x=some c->X.env.cells.lookup x=some c)(c3:∀y∈scope.names,y.2=.free->∃c,cl.lookup y.1=some c)
 (I:Inv X pins σ H s){v:V}{u:Value}(r:RelV v u){h':Heap}{tk:Nat}(hn:h'.Ns s.heap.objs.size (λy=>[(px,u)].reverse.lookup y))(kp:∀b o,s.heap.get? b=some o->h'.get? b=some o) :
 Inv (Il X (N0 ++ [px]) qual scope cl f c' A s H) [] (eZ js σ v) H {s with heap:=h',toks:=tk}:=by
 have has:∀y,(scope.names.lookup y=some .cell\/scope.names.lookup y=some .free)->∃c,cl.lookup y=some c:=λy hy=>by
  rcases hy with hy|hy
  ·exact absurd rfl (hcell _ (PySem.mem_of_lookup hy))
  ·exact c3 _ (PySem.mem_of_lookup hy) rfl
 refine⟨⟨I.ok.mod,hk,rfl,rfl,Nat.le_refl _,λx y c e1 e2=>I.ok.inj x y c (c2 x c e1) (c2 y c e2),has,(λ_ _ z _=>absurd (show false=true from z) Bool.false_ne_true),λ_=>hhd,Around.frames_deeper hA,.inr ⟨rfl,rfl⟩,λb hb=>absurd hb (by simp[Il]),
  I.bs,Nat.le_trans I.ok.Pk I.sz,λb _ _ hb=>absurd hb (by simp[Il]),λb hb=>absurd hb (by simp[Il]),I.stack,I.vW,I.tb⟩,rfl,I.bare,Un.kept kp,⟨_,hn,λi x w e1 e2 e3=>?_⟩,λx c e=>?_,I.hok.fresh (Nat.le_refl _),λx c e=>I.h_ x c (c2 x c e),λp hp=>absurd hp (by simp[Il]),I.hok.kept kp,?_⟩
 ·by_cases hi:i<js.length
  ·have e1':N0[i]?=some x:=by
    have:=e1
    rwa [show(Il X (N0 ++ [px]) qual scope cl f c' A s H).N=N0 ++ [px] from rfl,List.getElem?_append_left (by omega)] at this
   have e2':(eY js 0 σ)[i]?=some (some w):=by
    unfold eY
    unfold eZ at e2
    rw[List.getElem?_append_left (by simpa using hi)] at e2 ⊢
    exact e2
   obtain⟨j,q1,q2,q0,q3⟩:=nj hcap e1' e2'
   obtain⟨m,hm,hl⟩:=I.loc
   have ZbM:Bp X.env.scope x:=by
    rw[hsc]
    rcases q3 with q3|q3
    ·exact .inr (.inl q3)
    ·exact .inr (.inr q3)
   obtain⟨u',ru,lk⟩:=hl j x w q1 q2 ZbM
   refine⟨u',ru,?_⟩
   rcases lk with⟨k1,_⟩|⟨k1,c,hc,ic⟩
   ·exfalso
    have k1':sc.names.lookup x=some .local:=by rw[<-hsc];exact k1
    rcases q3 with q3|q3<;>(rw[k1'] at q3;cases q3)
   ·obtain⟨d,hd⟩:=has x (.inr q0)
    have:d=c:=by
     have:=c2 x d hd
     rw[hc] at this
     exact(Option.some.inj this).symm
    subst this
    exact .inr ⟨.inr q0,d,hd,by
     obtain⟨o,ho,hd'⟩:=ic
     exact⟨o,kp _ _ ho,hd'⟩⟩
  ·have hi2:i=js.length:=by
    have l2:=(List.getElem?_eq_some_iff.mp e2).1
    unfold eZ at l2
    simp at l2
    omega
   subst hi2
   unfold eZ at e2
   rw[List.getElem?_append_right (by simp)] at e2
   have ev:v=w:=by simpa using e2
   subst ev
   have ex:px=x:=by
    have:=e1
    rw[show(Il X (N0 ++ [px]) qual scope cl f c' A s H).N=N0 ++ [px] from rfl,List.getElem?_append_right (by omega),hlen] at this
    simpa using this
   subst ex
   exact⟨u,r,.inl ⟨hpx,by simp[List.lookup]⟩⟩
 ·obtain⟨w,o,ho,hd⟩:=I.cell x c (c2 x c e)
  exact⟨w,o,kp _ _ ho,hd⟩
 ·show _=(N0 ++ [px]).length
  unfold eZ
  simp[hlen]
def JX{te:TE}{pm ctv:Value}(hsc:X.env.scope=sc)(hk:scope.kind=.function)(hcap:eX X sc scope N0 js)(hlen:js.length=N0.length)(hcell:∀y∈scope.names,y.2≠ .cell)(hpx:scope.names.lookup px=some .local)(hco:scope.isCoroutine=false)(hgen:scope.isGenerator=false)
 (hA:A.frames=some X.stack)(hhd:A.handled=none)(ZbQ:A.depth<recursionLimit)(c2:∀x c,cl.lookup x=some c->X.env.cells.lookup x=some c)(c3:∀y∈scope.names,y.2=.free->∃c,cl.lookup y.1=some c)
 (hbind:∀u:Value,bindArgs (PySem.W.kla_fn "<lambda>" qual params body scope cl pm (.ref c') ctv) ⟨[u],[]⟩=pure [(px,u)])
 (he:∀s H,PE (Il X (N0 ++ [px]) qual scope cl f c' A s H) body te)
 (I:Inv X pins σ H s)(hf:s.heap.get? f=some (PySem.W.kla_obj "<lambda>" qual params body scope cl pm c' ctv))(hc:H c'=some (.GZ qual)){v:V}{u:Value}(r:RelV v u){Q:VK}{E:Value->Shared->Prop}(h:te (eZ js σ v) H Q) :
 wpAny (model X.prog X.w) A (call (.ref f) [u]) (EP X pins σ Q) E s:=by
 refine wpAny_call (PySem.W.kla_callFunE ZbQ hf rfl hco hgen rfl (I.hok c' _ hc) ?_)
 rw[hbind u]
 refine wpAny_pure (wpAny_newFunctionEnv hcell (λy hy=>by rw[List.mem_singleton.mp hy];exact hpx) (λh₁ hns hsb=>⟨(I.nolimit).fresh _ hsb,?_⟩) hk)
 have kp:∀b o,s.heap.get? b=some o->h₁.get? b=some o:=λb o e=>hsb.extBut b o (Nat.ne_of_lt (Heap.lt_size e)) (Heap.get?_push_of_some _ e)
 have J:=QK (qual:=qual) (f:=f) (c':=c') (tk:=s.toks + [(px,u)].length) hsc hk hcap hlen hcell hpx hA hhd c2 c3 I r hns kp
 show codeAny _ _ (.expr body (PySem.W.envX qual scope s.heap.objs.size f (.ref c') cl)) _ _
 refine PySem.W.kla_codeExpr (wpAny_mono (he s H [] _ _ H Q J h) (λy s' hy=>?_) λ_ _ z=>z.elim)
 obtain⟨w,H',J',rw',q⟩:=hy
 exact I.after ⟨w,H',J'.os,J'.bare,J'.base,J'.hok,rw',q⟩
end
section
variable{X:Cx}{pins:List (Addr×Obj)}{σ:L2.St}{H:Hp}{s:Shared}
def uN{fp:List Addr}{t:Sem Value}{A:Around}{Qv:V->Hp->Prop}{R:Value->Shared->Prop}(I:Inv X pins σ H s)(hf:∀b∈fp,bR X pins H b)(ho:∀b∈fp,∃o,s.heap.get? b=some o/\∀v,o.data≠ .cell v)
 (run:∀jz,Inv X jz σ H s->wpAny (model X.prog X.w) A t (EP X jz σ Qv) (λ_ _=>False) s)
 (k:∀y u H2 s2,Inv X pins σ H2 s2->RelV y u->Qv y H2->(∀b∈fp,bR X pins H2 b)->(∀b∈fp,∀o,s.heap.get? b=some o->s2.heap.get? b=some o)->R u s2):wpAny (model X.prog X.w) A t R (λ_ _=>False) s:=by
 refine wpAny_mono (run _ (I.pinned hf ho)) (λu s2 ⟨y,H2,I2,r,q⟩=>?_) λ_ _ z=>z
 refine k y u H2 s2 I2.eU r q (λb hb=>?_) λb hb o e=>(I2.pin (b,o) (List.mem_append_right _ (List.mem_append_right _ (ź hb e)))).1
 obtain⟨o,e,_⟩:=ho b hb
 exact⟨(I2.pin (b,o) (List.mem_append_right _ (List.mem_append_right _ (ź hb e)))).2.1,(hf b hb).2⟩
def bI{h':Heap}{t':Nat}{b:Addr}(I:Inv X pins σ H s)(hf:bR X pins H b)(k:∀c o,c≠b->s.heap.get? c=some o->h'.get? c=some o):Inv X pins σ H {s with heap:=h',toks:=t'}:=
 let ⟨f0,f1,_,f3,f4,f5⟩:=hf
 I.turned k f0 f1 f3 f4 f5
variable{R:Result->Shared->Prop}{f l S It:Addr}{oF:Obj}{xs:List V}(ks:Nat->Int)(W:Nat->Hp->Prop)
def Ft{h:Heap}{l It:Addr}{its:Array Value}{i:Nat}(hl:h.IsList l its)(hit:h.IsListIter It l i):l≠It:=λz=>by
 obtain⟨o,e,c,_⟩:=hl
 obtain⟨o',e',c',_⟩:=hit
 rw[z,e'] at e
 cases e
 rw[c] at c'
 exact absurd (Value.type.inj c') (by decide)
def Ci{h:Heap}{S It l:Addr}{vs:Array Value}{n i:Nat}(hS:h.get? S=some (seqObj "list" vs n))(hit:h.IsListIter It l i):S≠It:=λz=>by
 obtain⟨o',e',c',_⟩:=hit
 rw[z,e'] at hS
 cases hS
 exact absurd (Value.type.inj c') (by decide)
def Hz(hh:X.A.handled=none)(hl:∀k H,W k H->ų X.K H l xs)(hdF:∀v,oF.data≠ .cell v)(hFS:f≠S)(hFI:f≠It)
 (turn:∀k v,xs[k]?=some v->∀pins H s u,Inv X pins σ H s->W k H->RelV v u->s.heap.get? f=some oF->wpAny (model X.prog X.w) X.A.in1 (call (.ref f) [u]) (EP X pins σ λy H'=>y=.int (ks k)/\W (k+1) H') (λ_ _=>False) s)
 (hR:∀i v u H s,xs[i]?=some v->RelV v u->(∀j,j<xs.length->ks i<=ks j/\(j<i->ks i<ks j))->Inv X pins σ H s->W xs.length H->R (.ok (.ret u)) s) :
 ∀(r j i:Nat) (H:Hp) (s:Shared) (vb:Value) (tb:Tok) (c:Nat) (v:V),xs.length-(j+1)=r->j+1<=xs.length->Inv X pins σ H s->W (j+1) H->
  s.heap.get? S=some (seqObj "list" #[vb,.int (ks i) tb] c)->s.heap.IsListIter It l (j+1)->s.heap.get? f=some oF->(∀b∈[S,It,f],bR X pins H b)->xs[i]?=some v->RelV v vb->i<=j->(∀j',j'<=j->ks i<=ks j'/\(j'<i->ks i<ks j'))->
  codeAny (model X.prog X.w) X.A (.builtin "min.loop" ⟨[.ref It,.ref f,.ref S],[]⟩) R s:=by
 have hname:(toString "min" ++ toString ".loop" :String)= "min.loop" := by decide
 intro r
 induction r with
 |zero=>
  intro j i H s vb tb c v hr hj I w hS hit hF fpo hv rv hij hbest
  have hin:j+1=xs.length:=by omega
  obtain⟨its,ri,pl,_⟩:=I.list (hl _ _ w)
  have hsz:its.toArray.size=xs.length:=by rw[List.size_toArray,ri.length]
  have W':=Walks.list (prog:=X.prog) (w:=X.w) (A:=X.A.in1) hh It l (Ft pl.isList hit) its.toArray
  refine codeAny_builtin PySem.F.entry_min_loop ?_
  rw[Around.under_plainId PySem.F.plain_min_loop _]
  show wpAny _ X.A.in1 (seqItems? (.ref S) >>= _) _ _ _
  refine wpAny_bind (wpAny_seqItems hS rfl ?_)
  show wpAny _ X.A.in1 (tryCatch (pyNext (.ref It)) _ >>= _) _ _ _
  refine wpAny_bind (wpAny_tryCatch (W'.done _ _ _ ⟨by rw[hsz,<-hin];exact hit,pl.isList⟩ λh' tk' hk'=>?_))
  have I1:=bI (h':=h') (t':=tk') I (fpo It (by simp)) λb o hb e=>hk' b o (by simpa using hb) e
  have hS':=hk' S _ (by simpa using Ci hS hit) hS
  have s1:=Heap.SameBut.update h' S (Obj.mapSeq λ_=>(#[]:Array Value))
  show wpAny _ X.A.in1 (updateSeq S (λ_=> #[]) >>= _) _ _ _
  refine wpAny_bind ?_
  refine wpAny_updateSeq hS' rfl (wpAny_bind (wpAny_letGo (wpAny_pure ?_)))
  exact hR i v vb H _ hv rv (λj' hj'=>hbest j' (by omega)) (bI (t':=tk') I1 (fpo S (by simp)) λb o hb e=>(s1.2 b hb).trans e) (hin▸w)
 |succ r ih=>
  intro j i H s vb tb c v hr hj I w hS hit hF fpo hv rv hij hbest
  have hlt:j+1<xs.length:=by omega
  obtain⟨its,ri,pl,_⟩:=I.list (hl _ _ w)
  have hsz:its.toArray.size=xs.length:=by rw[List.size_toArray,ri.length]
  have W':=Walks.list (prog:=X.prog) (w:=X.w) (A:=X.A.in1) hh It l (Ft pl.isList hit) its.toArray
  refine codeAny_builtin PySem.F.entry_min_loop ?_
  rw[Around.under_plainId PySem.F.plain_min_loop _]
  show wpAny _ X.A.in1 (seqItems? (.ref S) >>= _) _ _ _
  refine wpAny_bind (wpAny_seqItems hS rfl ?_)
  show wpAny _ X.A.in1 (tryCatch (pyNext (.ref It)) _ >>= _) _ _ _
  refine wpAny_bind (wpAny_tryCatch (W'.item (j+1) _ _ _ (by rw[hsz];exact hlt) ⟨hit,pl.isList⟩ λu h' tk' hP hst' hk'=>?_))
  have hu:its[j+1]?=some u:=by simpa using hP
  have hx2:xs[j+1]?=some xs[j+1]:=List.getElem?_eq_getElem hlt
  have ru:RelV xs[j+1] u:=by
   obtain⟨u2,h2,r2⟩:=ri.get hx2
   rw[hu] at h2
   cases h2
   exact r2
  obtain⟨oI',hoI',hoc,hod⟩:=id hst'.1
  have I1:=bI (h':=h') (t':=tk') I (fpo It (by simp)) λb o hb e=>hk' b o (by simpa using hb) e
  have hS1:=hk' S _ (by simpa using Ci hS hit) hS
  have hF1:=hk' f _ (by simpa using hFI) hF
  show wpAny _ X.A.in1 (tryCatch (holding [u] (call (.ref f) [u])) _ >>= _) _ _ _
  refine wpAny_bind (wpAny_tryCatch (wpAny_holding (wpAny_mono (uN (fp:=[S,It,f]) I1 fpo (λb hb=>?_) (λjz I'=>turn (j+1) _ hx2 jz H _ u I' w ru hF1) λy u2 H2 s2 I2 ry ⟨ey,w2⟩ HB kp2=>?_) (λ_ _ z=>z) λ_ _ hF=>hF.elim)))
  ·rcases List.mem_cons.mp hb with rfl|hb
   ·exact⟨_,hS1,λv z=>by cases z⟩
   ·rcases List.mem_cons.mp hb with rfl|hb
    ·exact⟨oI',hoI',λv z=>by rw[hod] at z;cases z⟩
    ·rw[List.mem_singleton.mp hb]
     exact⟨oF,hF1,hdF⟩
  ·subst ey
   obtain⟨t2,rfl⟩:=ry
   have hS2:=kp2 S (by simp) _ hS1
   have hI2:=kp2 It (by simp) _ hoI'
   have hF2:=kp2 f (by simp) _ hF1
   have hit2:s2.heap.IsListIter It l (j+1+1):=⟨oI',hI2,hoc,hod⟩
   show wpAny _ X.A.in1 (tryCatch (holding [u,.int (ks (j+1)) t2] (richCompare .Lt (.int (ks (j+1)) t2) (.int (ks i) tb) >>= _)) _ >>= _) _ _ _
   refine wpAny_bind (wpAny_tryCatch (wpAny_holding (wpAny_bind (CmpOf.ints_lt (prog:=X.prog) (w:=X.w) (A:=X.A.in1) (P:=λi v=>∃t,v=.int (ks i) t) ks (λi v h=>h) (j+1) i _ _ _ _ _ ⟨t2,rfl⟩ ⟨tb,rfl⟩ ?_))))
   refine wpAny_bind (wpAny_holding (wpAny_truthy_bool ?_))
   refine wpAny_bind (wpAny_letGo (wpAny_pure ?_))
   by_cases hb':ks (j+1)<ks i
   ·have s1:=Heap.SameBut.update s2.heap S (Obj.mapSeq λ_=> #[u,.int (ks (j+1)) t2])
    obtain⟨cc,hc2⟩:∃cc,(s2.heap.update S (Obj.mapSeq λ_=> #[u,.int (ks (j+1)) t2])).get? S=some (seqObj "list" #[u,.int (ks (j+1)) t2] cc):=⟨_,get?_update_seq hS2 λ_=> #[u,.int (ks (j+1)) t2]⟩
    simp only[hb',decide_true,if_true]
    refine wpAny_bind ?_
    refine wpAny_updateSeq hS2 rfl (wpAny_bind (wpAny_letGo ?_))
    rw[hname]
    have nIS:=Ci hS2 hit2
    refine wpAny_pure ⟨plainId_quiet PySem.F.plain_min_loop _,ih (j+1) (j+1) H2 _ u t2 cc _ (by omega) hlt (bI (t':=s2.toks) I2 (HB S (by simp)) λb o hb e=>(s1.2 b hb).trans e) w2 hc2 ⟨oI',(s1.2 It nIS.symm).trans hI2,hoc,hod⟩ ((s1.2 f hFS).trans hF2) HB hx2 ru (Nat.le_refl _) λj' hj'=>?_⟩
    by_cases e:j'=j+1
    ·subst e
     exact⟨by omega,λ_=>by omega⟩
    ·have hb1:=hbest j' (by omega)
     have hb2:=hb1.1
     exact⟨by omega,λ_=>by omega⟩
   ·simp only[hb',decide_false,Bool.false_eq_true,if_false]
    refine wpAny_bind (wpAny_letGo ?_)
    rw[hname]
    refine wpAny_pure ⟨plainId_quiet PySem.F.plain_min_loop _,ih (j+1) i H2 s2 vb tb c v (by omega) hlt I2 w2 hS2 hit2 hF2 HB hv rv (by omega) λj' hj'=>?_⟩
    by_cases e:j'=j+1
    ·subst e
     exact⟨by omega,λ_=>by omega⟩
    ·exact hbest j' (by omega)
def HD{Q:Value->Shared->Prop}{E:Value->Shared->Prop}(hh:X.A.handled=none)(hl:∀k H,W k H->ų X.K H l xs)(hdF:∀v,oF.data≠ .cell v)(hne:0<xs.length)
 (turn:∀k v,xs[k]?=some v->∀pins H s u,Inv X pins σ H s->W k H->RelV v u->s.heap.get? f=some oF->wpAny (model X.prog X.w) X.A.in1 (call (.ref f) [u]) (EP X pins σ λy H'=>y=.int (ks k)/\W (k+1) H') (λ_ _=>False) s)
 (hQ:∀i v u H s,xs[i]?=some v->RelV v u->(∀j,j<xs.length->ks i<=ks j/\(j<i->ks i<ks j))->Inv X pins σ H s->W xs.length H->Q u s)
 (I:Inv X pins σ H s)(w0:W 0 H)(hF:s.heap.get? f=some oF)(hfo:bR X pins H f) :
 wpAny (model X.prog X.w) X.A (call (.builtin "min") [.ref l] [(Str.ofString "key",.ref f)]) Q E s:=by
 have hname:(toString "min" ++ toString ".loop" :String)= "min.loop" := by decide
 obtain⟨its,ri,pl,_⟩:=I.list (hl _ _ w0)
 have hls:=pl.isList
 obtain⟨ol,hol,_⟩:=id hls
 have hll:l<s.heap.objs.size:=Heap.lt_size hol
 refine kmk_tree PySem.F.kind_min PySem.F.plain_min PySem.F.entry_min (kmk_min_key _ _) ?_
 show wpAny _ X.A.in1 (Builtin.Builtins.bindParams "min" ["key","default"] 0 ⟨[],[(Str.ofString "key",.ref f)]⟩ >>= _) _ _ s
 refine wpAny_bind (wpAny_of_eq (show Builtin.Builtins.bindParams "min" ["key","default"] 0 ⟨[],[(Str.ofString "key",.ref f)]⟩=pure [some (.ref f),none] from rfl) ?_)
 refine wpAny_bind (wpAny_pure ?_)
 refine wpAny_bind (wpAny_pyIter_list hls ?_)
 refine wpAny_bind (wpAny_newList ?_ (Nat.zero_le _))
 rw[hname]
 have hS:(s.heap.push {cls:=.type "list_iterator",data:=.fields #[.ref l,.int 0 0]}).objs.size=s.heap.objs.size+1:=size_push' ..
 generalize hSd:(s.heap.push {cls:=.type "list_iterator",data:=.fields #[.ref l,.int 0 0]}).objs.size=S at hS ⊢
 refine wpAny_pure ⟨plainId_quiet PySem.F.plain_min_loop _,?_⟩
 have k0:∀b o,s.heap.get? b=some o->((s.heap.push {cls:=.type "list_iterator",data:=.fields #[.ref l,.int 0 0]}).push (seqObj "list" #[] 0)).get? b=some o:=λb o e=>Heap.get?_push_of_some _ (Heap.get?_push_of_some _ e)
 have gI:((s.heap.push {cls:=.type "list_iterator",data:=.fields #[.ref l,.int 0 0]}).push (seqObj "list" #[] 0)).get? s.heap.objs.size=some {cls:=.type "list_iterator",data:=.fields #[.ref l,.int 0 0]}:=
  Heap.get?_push_of_some _ (Heap.get?_push_size _ rfl)
 have gS:((s.heap.push {cls:=.type "list_iterator",data:=.fields #[.ref l,.int 0 0]}).push (seqObj "list" #[] 0)).get? S=some (seqObj "list" #[] 0):=by rw[<-hSd];exact Heap.get?_push_size _ rfl
 have I0:Inv X pins σ H {s with heap:=(s.heap.push {cls:=.type "list_iterator",data:=.fields #[.ref l,.int 0 0]}).push (seqObj "list" #[] 0)}:=I.kept (t':=s.toks) k0
 have fI:bR X pins H s.heap.objs.size:=I.tZ (Nat.le_refl _) (I.hok.fresh (Nat.le_refl _))
 have fS:bR X pins H S:=I.tZ (by omega) (I.hok.fresh (by omega))
 have hlf:f<s.heap.objs.size:=Heap.lt_size hF
 have hFI:f≠s.heap.objs.size:=Nat.ne_of_lt hlf
 have hFS:f≠S:=Nat.ne_of_lt (by rw[hS];exact Nat.lt_succ_of_lt hlf)
 have hSI:S≠s.heap.objs.size:=by omega
 have fpo:∀b∈[S,s.heap.objs.size,f],bR X pins H b:=λb hb=>by
  rcases List.mem_cons.mp hb with rfl|hb
  ·exact fS
  ·rcases List.mem_cons.mp hb with rfl|hb
   ·exact fI
   ·rw[List.mem_singleton.mp hb];exact hfo
 obtain⟨ZbR,ri0,pl0,_⟩:=I0.list (hl _ _ w0)
 have hsz:ZbR.toArray.size=xs.length:=by rw[List.size_toArray,ri0.length]
 have W':=Walks.list (prog:=X.prog) (w:=X.w) (A:=X.A.in1) hh s.heap.objs.size l (Nat.ne_of_lt hll) ZbR.toArray
 refine codeAny_builtin PySem.F.entry_min_loop ?_
 rw[Around.under_plainId PySem.F.plain_min_loop _]
 show wpAny _ X.A.in1 (seqItems? (.ref _) >>= _) _ _ _
 refine wpAny_bind (wpAny_seqItems gS rfl ?_)
 show wpAny _ X.A.in1 (tryCatch (pyNext (.ref s.heap.objs.size)) _ >>= _) _ _ _
 refine wpAny_bind (wpAny_tryCatch (W'.item 0 _ _ _ (by rw[hsz];exact hne) ⟨⟨_,gI,rfl,rfl⟩,pl0.isList⟩ λu h' tk' hP hst' hk'=>?_))
 have hu:ZbR[0]?=some u:=by simpa using hP
 have hx0:xs[0]?=some xs[0]:=List.getElem?_eq_getElem hne
 have ru:RelV xs[0] u:=by
  obtain⟨u2,h2,r2⟩:=ri0.get hx0
  rw[hu] at h2
  cases h2
  exact r2
 obtain⟨oI',hoI',hoc,hod⟩:=id hst'.1
 have I1:=bI (h':=h') (t':=tk') I0 fI λb o hb e=>hk' b o (by simpa using hb) e
 have hS1:=hk' S _ (by simpa using hSI) gS
 have hF1:=hk' f _ (by simpa using hFI) (k0 _ _ hF)
 show wpAny _ X.A.in1 (tryCatch (holding [u] (call (.ref f) [u])) _ >>= _) _ _ _
 refine wpAny_bind (wpAny_tryCatch (wpAny_holding (wpAny_mono (uN (fp:=[S,s.heap.objs.size,f]) I1 fpo (λb hb=>?_) (λjz I'=>turn 0 _ hx0 jz H _ u I' w0 ru hF1) λy u2 H2 s2 I2 ry ⟨ey,w2⟩ HB kp2=>?_) (λ_ _ z=>z) λ_ _ hF=>hF.elim)))
 ·rcases List.mem_cons.mp hb with rfl|hb
  ·exact⟨_,hS1,λv z=>by cases z⟩
  ·rcases List.mem_cons.mp hb with rfl|hb
   ·exact⟨oI',hoI',λv z=>by rw[hod] at z;cases z⟩
   ·rw[List.mem_singleton.mp hb]
    exact⟨oF,hF1,hdF⟩
 ·subst ey
  obtain⟨t2,rfl⟩:=ry
  have hS2:=kp2 S (by simp) _ hS1
  have hI2:=kp2 s.heap.objs.size (by simp) _ hoI'
  have hF2:=kp2 f (by simp) _ hF1
  have s1:=Heap.SameBut.update s2.heap S (Obj.mapSeq λ_=> #[u,.int (ks 0) t2])
  obtain⟨cc,hc2⟩:∃cc,(s2.heap.update S (Obj.mapSeq λ_=> #[u,.int (ks 0) t2])).get? S=some (seqObj "list" #[u,.int (ks 0) t2] cc):=⟨_,get?_update_seq hS2 λ_=> #[u,.int (ks 0) t2]⟩
  show wpAny _ X.A.in1 (updateSeq S (λ_=> #[u,.int (ks 0) t2]) >>= _) _ _ _
  refine wpAny_bind ?_
  refine wpAny_updateSeq hS2 rfl ?_
  rw[hname]
  refine wpAny_pure ⟨plainId_quiet PySem.F.plain_min_loop _,Hz ks W hh hl hdF hFS hFI turn (λi v u' H' s' a1 a2 a3 a4 a5=>hQ i v u' H' s' a1 a2 a3 a4 a5) _ 0 0 H2 _ u t2 cc _ rfl hne (bI (t':=s2.toks) I2 (HB S (by simp)) λb o hb e=>(s1.2 b hb).trans e) w2 hc2 ⟨oI',(s1.2 _ hSI.symm).trans hI2,hoc,hod⟩ ((s1.2 f hFS).trans hF2) HB hx0 ru (Nat.le_refl _) λj' hj'=>?_⟩
  have e:j'=0:=by omega
  subst e
  exact⟨by omega,λh=>absurd h (Nat.lt_irrefl _)⟩
end
def Zek(K:PySem.W.Frag)(ta:TA)(js:List Nat)(te:TE):TE:=λσ H Q=>ta σ H λvs H1=>∃l xs,vs=[.ref l]/\ų K H1 l xs/\0<xs.length/\∀c q H2,Same H1 H2->H2 c=some (.GZ q)->(∀a,H1 a=none->H2 a=none\/a=c)->
 ∃(ks:Nat->Int) (W:Nat->Hp->Prop),W 0 H2/\(∀k H,W k H->Same H2 H)/\(∀k v H,xs[k]?=some v->W k H->te (eZ js σ v) H λy H'=>y=.int (ks k)/\W (k+1) H')/\
  ∀i v H,xs[i]?=some v->(∀j,j<xs.length->ks i<=ks j/\(j<i->ks i<ks j))->W xs.length H->Q v H
section
variable{X:Cx}{x px:Str}{c P:Addr}{params:Arguments}{body e:Expr}{scope:Scope}{p pos QL kpos:Pos}{ta:TA}{te:TE}
def QM(N0:List Str)(js:List Nat)(sc:Scope)(hsc:X.env.scope=sc)(hcalm:X.calm=true)(ZbQ:X.A.depth<recursionLimit)(hx:x∈lams)(ht:PySem.W.tabIn X.K x=some (c,P))(hcode:X.env.code=.ref c)(hq:X.env.qual=x ++ ".<locals>.")
 (hg:Gl X "min")(hm:X.mg "min" =none)(ha:PA X [e] ta)(he:∀cl f c' s H,PE (Il X (N0 ++ [px]) (cP x) scope cl f c' X.A.in1 s H) body te)(hcap:eX X sc scope N0 js)(hlen:js.length=N0.length:=by rfl)
 (hbind:∀(cl:List (Str×Addr)) (pm ctv:Value) (c':Addr) (u:Value),bindArgs (PySem.W.kla_fn "<lambda>" (cP x) params body scope cl pm (.ref c') ctv) ⟨[u],[]⟩=pure [(px,u)]:=by intros;rfl)
 (hk:scope.kind=.function:=by rfl)(hcell:∀y∈scope.names,y.2≠ .cell:=by decide +kernel)(hpx:scope.names.lookup px=some .local:=by rfl)(hco:scope.isCoroutine=false:=by rfl)(hgen:scope.isGenerator=false:=by rfl)
 (hfree:∀y∈scope.names,y.2=.free->(sc.names.lookup y.1=some .cell\/sc.names.lookup y.1=some .free):=by decide +kernel)(hdef:defaultsOf params X.env=([],[]):=by rfl)
 (hst:starEach [e] X.env=[(false,eval e X.env)]:=by rfl)(hpl:(backTo pos (starEach [e] X.env)).any (·.1)=false:=by rfl) :
 PE X (.Call (.Name "min" p) [e] [⟨some "key",.Lambda params body scope QL,kpos⟩] pos) (Zek X.K ta js te):=by
 intro pins s σ H Q I h
 obtain⟨cl,c1,c2,c3⟩:=fQ (scope:=scope) (env:=X.env) λy hy hf=>I.ok.has y.1 (by
  have:=hfree y hy hf
  rw[<-hsc] at this
  exact this)
 have hh:=I.ok.hd hcalm
 refine wpAny_Call_Name_kw (jR I hg hm (show bootBuiltins "min" =some (.builtin "min") by kernel_rfl) ?_ (by decide) (by decide))
 refine callWith_kw (Ť (ha pos pins s σ H _ I h) λus s1 ⟨vs,H1,I1,r1,q1⟩=>?_) (by rw[hst];rfl) hpl rfl rfl
 obtain⟨l,xs,rfl,hs1,hne,q1⟩:=q1
 have eus:us=[.ref l]:=by
  cases r1 with
  |cons a b=>
   cases b
   exact congrArg (λz=>[z]) (show _=Value.ref l from a)
 subst eus
 show wpAny _ _ (evalAll ((do let v <-eval (.Lambda params body scope QL) X.env;standAt pos;pure v)::[])) _ _ s1
 refine wpAny_evalAll_cons (wpAny_bind (JW I1 hx ht hcode hq hdef c1 λf c' pm ctv H2 s2 I2 nw sm hc hf fo=>wpAny_bind (wpAny_standAt (wpAny_pure ?_))))
 refine wpAny_evalAll_nil ?_
 obtain⟨ks,W,w0,wm,wt,wq⟩:=q1 c' _ H2 sm hc nw
 refine HD (xs:=xs) ks W hh (λk H w=>(wm k H w).seq (sm.seq hs1)) (λv z=>by cases z) hne (λk v hv jz H' s' u I' w ru hf'=>?_) (λi v u H' s' hv ru hb I' w=>⟨v,H',I',ru,wq i v H' hv hb w⟩) I2 w0 hf fo
 exact JX (A:=X.A.in1) (te:=te) (N0:=N0) (js:=js) hsc hk hcap hlen hcell hpx hco hgen I.ok.frames hh ZbQ c2 c3 (hbind cl pm ctv c') (λs H=>he cl f c' s H) I' hf' (wm k H' w c' _ hc) ru (wt k v H' hv w)
end
end M5
namespace P
def nst:PySem.Expr->Bool
 | .Starred .. =>false
 |_=>true
def bT{e:PySem.Expr}{es:List PySem.Expr}{env:PySem.Env}(h:nst e=true):PySem.starEach (e::es) env=(false,PySem.eval e env)::PySem.starEach es env:=by
 cases e<;>first|rfl|cases h
def JZ{a b:PySem.Expr}{env:PySem.Env}(h:nst a=true)(h2:nst b=true):PySem.starEach [a,b] env=[(false,PySem.eval a env),(false,PySem.eval b env)]:=by
 rw[bT h,bT h2];rfl
open PySem PySem.Spec PyProof.Rows L2 M2
structure KK where
 K:PySem.W.Frag
 cm:String->Addr
abbrev kk(X:Cx)(cm:String->Addr):KK:=⟨X.K,cm⟩
inductive PV where
 |non|bl (b:Bool)|int (i:Int)|str (x:Str)|tup (xs:List PV)|lst (xs:List PV)
 |ins (C:String) (ns:List Str) (xs:List PV)|xc (C:String) (ns:List Str) (xs:List PV)|ty (n:String)|cls (C:String)
def xo(a C:Addr)(d:Option Addr):HO:=.ext λh=>∃o vs,h.get? a=some o/\o.cls=.ref C/\o.dict=d/\o.data=.fields vs
def zu(F:Hp)(d:Option Addr)(fs:List (Str×V)):Prop:=(d=none/\fs=[])\/∃a,d=some a/\F a=some (.xd fs)
mutual
def Rep(K:KK)(F:Hp):PV->V->Prop
 | .non,v=>v=.non
 | .bl b,v=>v=.bl b
 | .int i,v=>v=.int i
 | .str x,v=>v=.str x
 | .tup ps,v=>∃a xs,v=.ref a/\dw K.K F a xs/\ĝ K F ps xs
 | .lst ps,v=>∃a xs,v=.ref a/\ų K.K F a xs/\ĝ K F ps xs
 | .ins C ns ps,v=>∃a dx fs,v=.ref a/\F a=some (.ins (K.cm C) dx fs)/\fs.map (·.1)=ns/\ĝ K F ps (fs.map (·.2))
 | .xc C ns ps,v=>∃a d fs,v=.ref a/\F a=some (xo a (K.cm C) d)/\zu F d fs/\fs.map (·.1)=ns/\ĝ K F ps (fs.map (·.2))
 | .ty n,v=>v=.ty n
 | .cls C,v=>v=.ref (K.cm C)
def ĝ(K:KK)(F:Hp):List PV->List V->Prop
 | [],xs=>xs=[]
 |p::ps,xs=>∃x r,xs=x::r/\Rep K F p x/\ĝ K F ps r
end
section
variable{K:KK}{F F' H H':Hp}
def zu.same{d:Option Addr}{fs:List (Str×V)}(e:Same F F')(h:zu F d fs):zu F' d fs:=by
 rcases h with h|⟨a,h1,h2⟩
 ·exact .inl h
 ·exact .inr ⟨a,h1,e _ _ h2⟩
mutual
theorem Rep.same(e:Same F F'):∀(p:PV) (v:V),Rep K F p v->Rep K F' p v
 | .non,_,h=>by unfold Rep at h ⊢;exact h
 | .bl _,_,h=>by unfold Rep at h ⊢;exact h
 | .int _,_,h=>by unfold Rep at h ⊢;exact h
 | .str _,_,h=>by unfold Rep at h ⊢;exact h
 | .ty _,_,h=>by unfold Rep at h ⊢;exact h
 | .cls _,_,h=>by unfold Rep at h ⊢;exact h
 | .tup ps,_,h=>by
   unfold Rep at h ⊢
   obtain⟨a,xs,h1,h2,h3⟩:=h
   exact⟨a,xs,h1,Same.tup e h2,ĝ.same e ps xs h3⟩
 | .lst ps,_,h=>by
   unfold Rep at h ⊢
   obtain⟨a,xs,h1,h2,h3⟩:=h
   exact⟨a,xs,h1,e.seq h2,ĝ.same e ps xs h3⟩
 | .ins C ns ps,_,h=>by
   unfold Rep at h ⊢
   obtain⟨a,dx,fs,h1,h2,h3,h4⟩:=h
   exact⟨a,dx,fs,h1,e _ _ h2,h3,ĝ.same e ps _ h4⟩
 | .xc C ns ps,_,h=>by
   unfold Rep at h ⊢
   obtain⟨a,d,fs,h1,h2,hd,h3,h4⟩:=h
   exact⟨a,d,fs,h1,e _ _ h2,hd.same e,h3,ĝ.same e ps _ h4⟩
theorem ĝ.same(e:Same F F'):∀(ps:List PV) (xs:List V),ĝ K F ps xs->ĝ K F' ps xs
 | [],_,h=>by unfold ĝ at h ⊢;exact h
 |p::ps,_,h=>by
  unfold ĝ at h ⊢
  obtain⟨x,r,h1,h2,h3⟩:=h
  exact⟨x,r,h1,Rep.same e p x h2,ĝ.same e ps r h3⟩
end
theorem ĝ.pr:∀{ps:List PV} {vs:List V},ĝ K F ps vs->Paired (Rep K F) ps vs
 | [],_,h=>by unfold ĝ at h;subst h;exact .nil
 |p::ps,_,h=>by
  unfold ĝ at h
  obtain⟨x,r,rfl,h2,h3⟩:=h
  exact .cons h2 (ĝ.pr h3)
theorem ĝ.of:∀{ps:List PV} {vs:List V},Paired (Rep K F) ps vs->ĝ K F ps vs
 | [],_,.nil=>by unfold ĝ;rfl
 |p::ps,_,.cons h t=>by unfold ĝ;exact⟨_,_,rfl,h,ĝ.of t⟩
theorem ĝ.nil:ĝ K F [] []:=ĝ.of .nil
theorem ĝ.cons{p:PV}{v:V}{ps:List PV}{vs:List V}(h:Rep K F p v)(t:ĝ K F ps vs):ĝ K F (p::ps) (v::vs):=ĝ.of (.cons h t.pr)
theorem ĝ.length{ps:List PV}{vs:List V}(h:ĝ K F ps vs):ps.length=vs.length:=Paired.length h.pr
theorem bJ{α β:Type}{G:α->β->Prop}:∀{l:List α} {m:List β} {i:Nat} {x:α},Paired G l m->l[i]?=some x->∃y,m[i]?=some y/\G x y
 |_,_,_,_,.nil,e=>by simp at e
 |_,_,0,_,.cons r _,e=>by simp at e;subst e;exact⟨_,rfl,r⟩
 |_,_,i+1,x,.cons _ t,e=>by
  obtain⟨y,h1,h2⟩:=bJ (i:=i) (x:=x) t (by simpa using e)
  exact⟨y,by simpa using h1,h2⟩
theorem J_{α β:Type}{G:α->β->Prop}:∀{l l2:List α} {m m2:List β},Paired G l m->Paired G l2 m2->Paired G (l++l2) (m++m2)
 |_,_,_,_,.nil,t=>t
 |_,_,_,_,.cons r s,t=>.cons r (J_ s t)
theorem Ka{α β:Type}{G:α->β->Prop}{x:α}{y:β}(r:G x y):∀{l:List α} {m:List β} (i:Nat),Paired G l m->Paired G (l.set i x) (m.set i y)
 |_,_,_,.nil=>.nil
 |_,_,0,.cons _ t=>.cons r t
 |_,_,i+1,.cons q t=>.cons q (Ka r i t)
theorem Fv{α β:Type}{G:α->β->Prop}:∀{l:List α} {m:List β} (n:Nat),Paired G l m->Paired G (l.take n) (m.take n)
 |_,_,0,_=>.nil
 |_,_,_+1,.nil=>.nil
 |_,_,n+1,.cons r t=>.cons r (Fv n t)
theorem Fw{α β:Type}{G:α->β->Prop}:∀{l:List α} {m:List β} (n:Nat),Paired G l m->Paired G (l.drop n) (m.drop n)
 |_,_,0,h=>h
 |_,_,_+1,.nil=>.nil
 |_,_,n+1,.cons _ t=>Fw n t
def ĝ.append{ps qs:List PV}{vs us:List V}(h:ĝ K F ps vs)(t:ĝ K F qs us):ĝ K F (ps++qs) (vs++us):=ĝ.of (J_ h.pr t.pr)
end
inductive Slot where
 |no|sh (p:PV)|ow (ps:List PV)|bw (ps:List PV)|rc (C:String) (ns:List Str) (ps:List PV)|ot (ps qs:List PV)|ol (Fx:List (List PV))
abbrev ŋ:=List Slot
def Slot.own:Slot->Bool
 | .ow _=>true
 | .rc _ _ _=>true
 | .ot _ _=>true
 | .ol _=>true
 |_=>false
structure Ctx where
 B:Hp
 F₀:Hp
 /-- what is lent here:read,never changed,never kept -/
 L:Hp
 /-- which objects may be held as one's own:address,dict,class -/
 S:Addr->Addr->String->Prop
def aC(K:KK)(c:Ctx)(F H:Hp)(o:Option V):Slot->Prop
 | .no=>True
 | .sh p=>∃v,o=some v/\Rep K F p v
 | .ow ps=>∃a vs,o=some (.ref a)/\H a=some (.lst vs)/\F a=none/\c.B a=none/\ĝ K F ps vs
 | .bw ps=>∃a vs,o=some (.ref a)/\c.L a=some (.lst vs)/\ĝ K F ps vs
 | .rc C ns ps=>∃a dx fs,o=some (.ref a)/\H a=some (.ins (K.cm C) dx fs)/\F a=none/\c.B a=none/\fs.map (·.1)=ns/\ĝ K F ps (fs.map (·.2))/\c.S a dx C
 | .ot ps qs=>∃p a xs vs,o=some (.ref p)/\F p=some (.tup (xs ++ [.ref a]))/\ĝ K F ps xs/\H a=some (.lst vs)/\F a=none/\c.B a=none/\ĝ K F qs vs
 | .ol Fx=>∃(p:Addr) (as:List Addr),o=some (.ref p)/\F p=some (.lst (as.map V.ref))/\as.Nodup/\Paired (λ(a:Addr) (ps:List PV)=>∃vs,H a=some (.lst vs)/\F a=none/\c.B a=none/\ĝ K F ps vs) as Fx
def Slot.at_(F:Hp)(x:V)(a:Addr):Slot->Prop
 | .ot _ _=>∃p xs,x=.ref p/\F p=some (.tup (xs ++ [.ref a]))
 | .ol _=>∃(p:Addr) (as:List Addr),x=.ref p/\F p=some (.lst (as.map V.ref))/\a∈as
 | .ow _=>x=.ref a
 | .rc _ _ _=>x=.ref a
 |_=>False
def Œ(F:Hp)(σ:L2.St)(ρ:ŋ)(i:Nat)(a:Addr):Prop:=∃s x,ρ[i]?=some s/\σ[i]?=some (some x)/\s.at_ F x a
structure Rel(K:KK)(c:Ctx)(F H:Hp)(σ:L2.St)(ρ:ŋ):Prop where
 sub:Same F H
 base:Same c.B H
 f0:Same c.F₀ F
 fL:∀a,c.B a≠none->c.F₀ a=none->F a=none
 lent:∀a u,c.L a=some u->H a=some u/\F a=none
 lb:∀a,c.B a=none->c.L a=none
 len:σ.length=ρ.length
 slot:∀(i:Nat) s,ρ[i]?=some s->aC K c F H ((σ[i]?).getD none) s
 sep:∀i j a,Œ F σ ρ i a->Œ F σ ρ j a->i=j
def nZ(F:Hp)(σ:L2.St)(ρ:ŋ)(a:Addr):Prop:=∀i,¬Œ F σ ρ i a
section
variable{K:KK}{c:Ctx}{F F' H H':Hp}{σ:L2.St}{ρ:ŋ}{a:Addr}{o:HO}
def nq{s:Slot}{x:V}(h:s.at_ F x a):s.own=true:=by
 cases s<;>first|rfl|exact h.elim
theorem qI:∀{as bs:List Addr},as.map V.ref=bs.map V.ref->as=bs
 | [],[],_=>rfl
 | [],_::_,h=>by cases h
 |_::_,[],h=>by cases h
 |a::as,b::bs,h=>by
  injection h with h1 h2
  injection h1 with h1
  rw[h1,qI h2]
def qe{ps qs:List PV}{x:V}{b:Addr}(h:(Slot.ot ps qs).at_ F x a)(h':(Slot.ot ps qs).at_ F x b):a=b:=by
 obtain⟨p,xs,h1,h2⟩:=h
 obtain⟨q,ys,h3,h4⟩:=h'
 rw[h1] at h3
 cases h3
 rw[h2] at h4
 have e:xs ++ [V.ref a]=ys ++ [V.ref b]:=by
  injection h4 with h4
  injection h4
 have e2:=congrArg List.getLast? e
 simp at e2
 exact e2
theorem Kc{α β:Type}{G:α->β->Prop}:∀{l:List α} {m:List β} {x:α},Paired G l m->x∈l->∃y,y∈m/\G x y
 |_,_,_,.nil,h=>by simp at h
 |_,_,x,.cons r t,h=>by
  rcases List.mem_cons.mp h with rfl|h
  ·exact⟨_,List.mem_cons_self,r⟩
  ·obtain⟨y,h1,h2⟩:=Kc t h
   exact⟨y,List.mem_cons_of_mem _ h1,h2⟩
theorem Kd{α β:Type}{G G':α->β->Prop}:∀{l:List α} {m:List β},Paired G l m->(∀x y,x∈l->G x y->G' x y)->Paired G' l m
 |_,_,.nil,_=>.nil
 |_,_,.cons r t,h=>.cons (h _ _ List.mem_cons_self r) (Kd t λx y hx=>h x y (List.mem_cons_of_mem _ hx))
def aC.grow{s:Slot}{x:Option V}(h:aC K c F H x s)(eF:Same F F')(eH:∀b vs,(∃y,x=some y/\s.at_ F y b)->H b=some vs->F b=none->c.B b=none->H' b=some vs/\F' b=none):aC K c F' H' x s:=by
 cases s with
 |no=>trivial
 |sh p=>obtain⟨v,h1,h2⟩:=h;exact⟨v,h1,h2.same eF p v⟩
 |ow ps=>
  obtain⟨b,vs,h1,h2,h3,h4,h5⟩:=h
  obtain⟨e1,e2⟩:=eH b _ ⟨_,h1,rfl⟩ h2 h3 h4
  exact⟨b,vs,h1,e1,e2,h4,h5.same eF ps vs⟩
 |bw ps=>obtain⟨b,vs,h1,h2,h3⟩:=h;exact⟨b,vs,h1,h2,h3.same eF ps vs⟩
 |rc C ns ps=>
  obtain⟨b,dx,fs,h1,h2,h3,h4,h5,h6⟩:=h
  obtain⟨e1,e2⟩:=eH b _ ⟨_,h1,rfl⟩ h2 h3 h4
  exact⟨b,dx,fs,h1,e1,e2,h4,h5,h6.1.same eF ps _,h6.2⟩
 |ot ps qs=>
  obtain⟨p,b,xs,vs,h1,h2,h3,h4,h5,h6,h7⟩:=h
  obtain⟨e1,e2⟩:=eH b _ ⟨_,h1,p,xs,rfl,h2⟩ h4 h5 h6
  exact⟨p,b,xs,vs,h1,eF _ _ h2,h3.same eF ps xs,e1,e2,h6,h7.same eF qs vs⟩
 |ol Fx=>
  obtain⟨p,as,h1,h2,h3,h4⟩:=h
  refine⟨p,as,h1,eF _ _ h2,h3,Kd h4 λb ps hb ⟨vs,k1,k2,k3,k4⟩=>?_⟩
  obtain⟨e1,e2⟩:=eH b _ ⟨_,h1,p,as,rfl,h2,hb⟩ k1 k2 k3
  exact⟨vs,e1,e2,k3,k4.same eF ps vs⟩
def aC.owned{s:Slot}{y:V}(h:aC K c F H (some y) s)(ha:s.at_ F y a):∃u,H a=some u/\F a=none/\c.B a=none:=by
 cases s with
 |no=>exact ha.elim
 |sh p=>exact ha.elim
 |bw ps=>exact ha.elim
 |ow ps=>
  obtain⟨b,vs,h1,h2,h3,h4,h5⟩:=h
  rw[show y=.ref a from ha] at h1
  cases h1
  exact⟨_,h2,h3,h4⟩
 |rc C ns ps=>
  obtain⟨b,dx,fs,h1,h2,h3,h4,h5,h6⟩:=h
  rw[show y=.ref a from ha] at h1
  cases h1
  exact⟨_,h2,h3,h4⟩
 |ot ps qs=>
  obtain⟨p,b,xs,vs,h1,h2,h3,h4,h5,h6,h7⟩:=h
  cases h1
  cases qe (ps:=ps) (qs:=qs) ha ⟨p,xs,rfl,h2⟩
  exact⟨_,h4,h5,h6⟩
 |ol Fx=>
  obtain⟨p,as,h1,h2,h3,h4⟩:=h
  cases h1
  obtain⟨q,bs,e1,e2,e3⟩:=ha
  cases e1
  rw[h2] at e2
  have e:as=bs:=qI (by injection e2 with e2;injection e2)
  subst e
  obtain⟨ps,_,vs,k1,k2,k3,_⟩:=Kc h4 e3
  exact⟨_,k1,k2,k3⟩
def aC.back{s:Slot}{y:V}(h:aC K c F H (some y) s)(e:Same F F')(ha:s.at_ F' y a):s.at_ F y a:=by
 cases s with
 |ot ps qs=>
  obtain⟨p,b,xs,vs,h1,h2,h3,h4,h5,h6,h7⟩:=h
  cases h1
  cases qe (ps:=ps) (qs:=qs) ha ⟨p,xs,rfl,e _ _ h2⟩
  exact⟨p,xs,rfl,h2⟩
 |ol Fx=>
  obtain⟨p,as,h1,h2,h3,h4⟩:=h
  cases h1
  obtain⟨q,bs,e1,e2,e3⟩:=ha
  cases e1
  rw[e _ _ h2] at e2
  have z:as=bs:=qI (by injection e2 with e2;injection e2)
  subst z
  exact⟨p,as,rfl,h2,e3⟩
 |_=>exact ha
def iw{i:Nat}{x:V}(e:σ[i]?=some (some x)):(σ[i]?).getD none=some x:=by rw[e];rfl
def Ke{i:Nat}{x:V}(e:(σ[i]?).getD none=some x):σ[i]?=some (some x):=by
 cases q:σ[i]? with
 |none=>rw[q] at e;cases e
 |some y=>rw[q] at e;exact congrArg some e
theorem Rel.owned(r:Rel K c F H σ ρ){i:Nat}(h:Œ F σ ρ i a):(∃u,H a=some u)/\F a=none/\c.B a=none:=by
 obtain⟨s,x,h1,h2,h3⟩:=h
 have q:=r.slot i s h1
 rw[iw h2] at q
 obtain⟨u,q⟩:=q.owned h3
 exact⟨⟨u,q.1⟩,q.2⟩
theorem Rel.back(r:Rel K c F H σ ρ)(e:Same F F'){i:Nat}(h:Œ F' σ ρ i a):Œ F σ ρ i a:=by
 obtain⟨s,x,h1,h2,h3⟩:=h
 have q:=r.slot i s h1
 rw[iw h2] at q
 exact⟨s,x,h1,h2,q.back e h3⟩
def Rel.ZbS(r:Rel K c F H σ ρ)(e:Same F F'):∀i j a,Œ F' σ ρ i a->Œ F' σ ρ j a->i=j:=λi j a h1 h2=>r.sep i j a (r.back e h1) (r.back e h2)
def Rel.wB(r:Rel K c F H σ ρ)(e:Same F F')(h:nZ F σ ρ a):nZ F' σ ρ a:=λi q=>h i (r.back e q)
def Rel.fresh(r:Rel K c F H σ ρ)(h:H a=none):nZ F σ ρ a:=λi q=>by
 obtain⟨⟨u,e⟩,_⟩:=r.owned q
 rw[h] at e;cases e
def Rel.alloc(r:Rel K c F H σ ρ)(h:H a=none):Rel K c (upd F a o) (upd H a o) σ ρ where
 sub:=λb u e=>by
  by_cases hb:b=a
  ·subst hb;rw[ĭ] at e ⊢;exact e
  ·rw[Ğ hb] at e ⊢;exact r.sub b u e
 base:=λb u e=>by
  have hb:b≠a:=λz=>by rw[z] at e;rw[r.base _ _ e] at h;cases h
  rw[Ğ hb];exact r.base b u e
 f0:=fun b u e=>by
   have hb:b≠a:=λz=>by rw[z] at e;rw[r.sub _ _ (r.f0 _ _ e)] at h;cases h
   rw[Ğ hb];exact r.f0 b u e
 fL:=λb h1 h2=>by
  have hb:b≠a:=λz=>by
   subst z
   cases q:c.B b with
   |none=>exact h1 q
   |some u=>rw[r.base _ _ q] at h;cases h
  rw[Ğ hb];exact r.fL b h1 h2
 lent:=λb u e=>by
  obtain⟨h1,h2⟩:=r.lent b u e
  have hb:b≠a:=λz=>by rw[z,h] at h1;cases h1
  rw[Ğ hb,Ğ hb];exact⟨h1,h2⟩
 lb:=r.lb
 len:=r.len
 slot:=λi s e=>by
  have hF:F a=none:=r.sub.free h
  refine(r.slot i s e).grow (Same.upd hF) λb u _ h1 h2 h3=>?_
  have hb:b≠a:=λz=>by rw[z,h] at h1;cases h1
  rw[Ğ hb,Ğ hb];exact⟨h1,h2⟩
 sep:=r.ZbS (Same.upd (r.sub.free h))
def Rel.made(r:Rel K c F H σ ρ)(h:H a=none):Rel K c F (upd H a o) σ ρ where
 sub:=r.sub.trans (Same.upd h)
 base:=r.base.trans (Same.upd h)
 f0:=r.f0
 fL:=r.fL
 lent:=λb u e=>⟨Same.upd h b u (r.lent b u e).1,(r.lent b u e).2⟩
 lb:=r.lb
 len:=r.len
 slot:=λi s e=>(r.slot i s e).grow (Same.refl F) λb u _ h1 h2 h3=>⟨Same.upd h b u h1,h2⟩
 sep:=r.sep
def Rel.freeze(r:Rel K c F H σ ρ)(h:H a=some o)(hB:c.B a=none)(hF:F a=none)(hf:nZ F σ ρ a):Rel K c (upd F a o) H σ ρ where
 sub:=λb u e=>by
  by_cases hb:b=a
  ·subst hb;rw[ĭ] at e;rw[h];exact e
  ·rw[Ğ hb] at e;exact r.sub b u e
 base:=r.base
 f0:=r.f0.trans (Same.upd hF)
 fL:=λb h1 h2=>by
  have hb:b≠a:=λz=>h1 (by rw[z];exact hB)
  rw[Ğ hb];exact r.fL b h1 h2
 lent:=λb u e=>by
  have hb:b≠a:=λz=>by rw[z,r.lb a hB] at e;cases e
  rw[Ğ hb];exact r.lent b u e
 lb:=r.lb
 len:=r.len
 slot:=λi s e=>(r.slot i s e).grow (Same.upd hF) λb' u' ⟨y,e1',ha⟩ h1 h2 h3=>by
  have hb:b'≠a:=λz=>by
   subst z
   exact hf i ⟨s,y,e,Ke e1',ha⟩
  rw[Ğ hb];exact⟨h1,h2⟩
 sep:=r.ZbS (Same.upd hF)
def bO{α:Type}{l:List α}{i j:Nat}{x y:α}(h:(l.set i x)[j]?=some y):(j=i/\y=x/\i<l.length)\/(j≠i/\l[j]?=some y):=by
 by_cases hj:j=i
 ·subst hj
  have hl:j<l.length:=by
   have:=(List.getElem?_eq_some_iff.mp h).1
   simpa using this
  rw[List.getElem?_set_self hl] at h
  exact .inl ⟨rfl,(Option.some.inj h).symm,hl⟩
 ·rw[List.getElem?_set_ne (Ne.symm hj)] at h
  exact .inr ⟨hj,h⟩
def Kf{l:L2.St}{i:Nat}{x:Option V}(h:i<l.length):((l.set i x)[i]?).getD none=x:=by rw[List.getElem?_set_self h];rfl
def Fy{l:L2.St}{i j:Nat}{x:Option V}(h:j≠i):((l.set i x)[j]?).getD none=(l[j]?).getD none:=by rw[List.getElem?_set_ne (Ne.symm h)]
def Œ.off{i j:Nat}{x:Option V}{s:Slot}(h:Œ F (σ.set i x) (ρ.set i s) j a)(hj:j≠i):Œ F σ ρ j a:=by
 obtain⟨s',y,h1,h2,h3⟩:=h
 rw[List.getElem?_set_ne (Ne.symm hj)] at h1 h2
 exact⟨s',y,h1,h2,h3⟩
def Rel.put(r:Rel K c F H σ ρ){i:Nat}{x:Option V}{s:Slot}(hs:s.own=false)(h:aC K c F H x s):Rel K c F H (σ.set i x) (ρ.set i s) where
 sub:=r.sub
 base:=r.base
 f0:=r.f0
 fL:=r.fL
 lent:=r.lent
 lb:=r.lb
 len:=by simpa using r.len
 slot:=λj s' e=>by
  rcases bO e with⟨rfl,rfl,hl⟩|⟨hj,e⟩
  ·rw[Kf (by rw[r.len];exact hl)];exact h
  ·rw[Fy hj];exact r.slot j s' e
 sep:=λj k b h1 h2=>by
  have off:∀{j},Œ F (σ.set i x) (ρ.set i s) j b->j≠i:=fun{j} q z=>by
   subst z
   obtain⟨s',y,q1,_,q2⟩:=q
   rcases bO q1 with⟨_,rfl,_⟩|⟨q,_⟩
   ·have:=nq q2;rw[hs] at this;cases this
   ·exact q rfl
  exact r.sep j k b (h1.off (off h1)) (h2.off (off h2))
def Rel.SQ(r:Rel K c F H σ ρ){i:Nat}{s:Slot}(hs:s.own=false)(h:aC K c F H ((σ[i]?).getD none) s):Rel K c F H σ (ρ.set i s) where
 sub:=r.sub
 base:=r.base
 f0:=r.f0
 fL:=r.fL
 lent:=r.lent
 lb:=r.lb
 len:=by simpa using r.len
 slot:=λj s' e=>by
  rcases bO e with⟨rfl,rfl,hl⟩|⟨hj,e⟩
  ·exact h
  ·exact r.slot j s' e
 sep:=λj k b h1 h2=>by
  have off:∀{j},Œ F σ (ρ.set i s) j b->Œ F σ ρ j b:=fun{j} ⟨s',y,q1,q3,q2⟩=>by
   rcases bO q1 with⟨_,rfl,_⟩|⟨_,q⟩
   ·have:=nq q2;rw[hs] at this;cases this
   ·exact⟨s',y,q,q3,q2⟩
  exact r.sep j k b (off h1) (off h2)
def Rel.QT(r:Rel K c F H σ ρ){i:Nat}{x:V}{s:Slot}(h:aC K c F H (some x) s)(hf:∀a,s.at_ F x a->nZ F σ ρ a):Rel K c F H (σ.set i (some x)) (ρ.set i s) where
 sub:=r.sub
 base:=r.base
 f0:=r.f0
 fL:=r.fL
 lent:=r.lent
 lb:=r.lb
 len:=by simpa using r.len
 slot:=λj s' e=>by
  rcases bO e with⟨rfl,rfl,hl⟩|⟨hj,e⟩
  ·rw[Kf (by rw[r.len];exact hl)];exact h
  ·rw[Fy hj];exact r.slot j s' e
 sep:=λj k b h1 h2=>by
  have ZbT:∀{j},Œ F (σ.set i (some x)) (ρ.set i s) j b->(j=i/\s.at_ F x b)\/(j≠i/\Œ F σ ρ j b):=fun{j} q=>by
   by_cases hj:j=i
   ·subst hj
    obtain⟨s',y,q1,q2,q3⟩:=q
    rcases bO q2 with⟨_,e,_⟩|⟨z,_⟩
    ·cases e
     rcases bO q1 with⟨_,e,_⟩|⟨z,_⟩
     ·cases e
      exact .inl ⟨rfl,q3⟩
     ·exact absurd rfl z
    ·exact absurd rfl z
   ·exact .inr ⟨hj,q.off hj⟩
  rcases ZbT h1 with⟨e1,z1⟩|⟨e1,o1⟩
  ·rcases ZbT h2 with⟨e2,z2⟩|⟨e2,o2⟩
   ·rw[e1,e2]
   ·exact absurd o2 (hf b z1 k)
  ·rcases ZbT h2 with⟨e2,z2⟩|⟨e2,o2⟩
   ·exact absurd o1 (hf b z2 j)
   ·exact r.sep j k b o1 o2
def Rel.ZbU(r:Rel K c F H σ ρ){i:Nat}{s:Slot}(ho:Œ F σ ρ i a)(h:aC K c F (upd H a o) ((σ[i]?).getD none) s)(hs:∀x b,σ[i]?=some (some x)->s.at_ F x b->Œ F σ ρ i b):Rel K c F (upd H a o) σ (ρ.set i s) where
 sub:=λb u e=>by
  have hb:b≠a:=λz=>by rw[z,(r.owned ho).2.1] at e;cases e
  rw[Ğ hb];exact r.sub b u e
 base:=λb u e=>by
  have hb:b≠a:=λz=>by rw[z,(r.owned ho).2.2] at e;cases e
  rw[Ğ hb];exact r.base b u e
 f0:=r.f0
 fL:=r.fL
 lent:=λb u e=>by
  have hb:b≠a:=λz=>by rw[z,r.lb a (r.owned ho).2.2] at e;cases e
  rw[Ğ hb];exact r.lent b u e
 lb:=r.lb
 len:=by simpa using r.len
 slot:=λj s' e=>by
  rcases bO e with⟨rfl,rfl,hl⟩|⟨hj,e⟩
  ·exact h
  ·refine(r.slot j s' e).grow (Same.refl F) λb u ⟨y,e1,e2⟩ h1 h2 h3=>?_
   have hb:b≠a:=λz=>by
    subst z
    exact hj (r.sep j i b ⟨s',y,e,Ke e1,e2⟩ ho)
   exact⟨by rw[Ğ hb];exact h1,h2⟩
 sep:=λj k b h1 h2=>by
  have off:∀{j},Œ F σ (ρ.set i s) j b->Œ F σ ρ j b:=fun{j} ⟨s',y,q1,q3,q2⟩=>by
   rcases bO q1 with⟨e,rfl,_⟩|⟨_,q⟩
   ·subst e
    exact hs y b q3 q2
   ·exact⟨s',y,q,q3,q2⟩
  exact r.sep j k b (off h1) (off h2)
def Rel.write(r:Rel K c F H σ ρ){i:Nat}{s:Slot}(ho:Œ F σ ρ i a)(hx:σ[i]?=some (some (.ref a)))(h:aC K c F (upd H a o) (some (.ref a)) s)(hs:∀b,s.at_ F (.ref a) b->b=a):Rel K c F (upd H a o) σ (ρ.set i s):=
 r.ZbU ho (by rw[hx];exact h) λx b e q=>by rw[hx] at e;cases e;rw[hs b q];exact ho
structure Gr(F H F' H':Hp):Prop where
 h:Same H H'
 f:Same F F'
 sub:Same F' H'
 out:∀a,H a≠none->F a=none->F' a=none
def Rel.call(r:Rel K c F H σ ρ)(g:Gr F H F' H'):Rel K c F' H' σ ρ where
 sub:=g.sub
 base:=r.base.trans g.h
 f0:=r.f0.trans g.f
 fL:=λb h1 h2=>by
  refine g.out b (λz=>h1 ?_) (r.fL b h1 h2)
  cases q:c.B b with
  |none=>rfl
  |some u=>rw[r.base _ _ q] at z;cases z
 lent:=λb u e=>⟨g.h b u (r.lent b u e).1,g.out b (by rw[(r.lent b u e).1];intro z;cases z) (r.lent b u e).2⟩
 lb:=r.lb
 len:=r.len
 slot:=λi s e=>(r.slot i s e).grow g.f λb u _ h1 h2 h3=>⟨g.h b u h1,g.out b (by rw[h1];intro z;cases z) h2⟩
 sep:=r.ZbS g.f
def ctx0(F H:Hp):Ctx:=⟨H,F,λa=>match F a with
 |none=>H a
 |some _=>none,λ_ _ _=>True⟩
def dU{a:Addr}{u:HO}(h:(ctx0 F H).L a=some u):H a=some u/\F a=none:=by
 unfold ctx0 at h
 dsimp only at h
 cases q:F a with
 |none=>rw[q] at h;exact⟨h,rfl⟩
 |some o=>rw[q] at h;cases h
def Rel.gr(r:Rel K (ctx0 F H) F' H' σ ρ):Gr F H F' H':=⟨r.base,r.f0,r.sub,r.fL⟩
def cQ(K:KK)(F H:Hp):Slot->V->Prop
 | .sh p,v=>Rep K F p v
 | .bw ps,v=>∃a vs,v=.ref a/\H a=some (.lst vs)/\F a=none/\ĝ K F ps vs
 |_,_=>False
def cQ.slot{s:Slot}{v:V}(h:cQ K F H s v):aC K (ctx0 F H) F H (some v) s/\s.own=false:=by
 cases s with
 |sh p=>exact⟨⟨v,rfl,h⟩,rfl⟩
 |bw ps=>
  obtain⟨a,vs,rfl,h1,h2,h3⟩:=h
  refine⟨⟨a,vs,rfl,?_,h3⟩,rfl⟩
  show(match F a with|none=>H a|some _=>none)=_
  rw[h2]
  exact h1
 |no=>exact h.elim
 |ow ps=>exact h.elim
 |rc C ns ps=>exact h.elim
 |ot ps qs=>exact h.elim
 |ol Fx=>exact h.elim
def startP(n:Nat)(as:List Slot):ŋ:=as++List.replicate (n-as.length) .no
theorem Rel.start{N:List Str}{as:List Slot}{vs:List V}(s:Same F H)(h:Paired (cQ K F H) as vs):Rel K (ctx0 F H) F H (L2.start N vs) (startP N.length as) where
 sub:=s
 base:=Same.refl H
 f0:=Same.refl F
 fL:=λ_ _ h=>h
 lent:=λ_ _ e=>dU e
 lb:=fun a e=>by
   cases q:(ctx0 F H).L a with
   |none=>rfl
   |some u=>
    have e':H a=none:=e
    rw[(dU q).1] at e'
    cases e'
 len:=by unfold L2.start startP;simp[Paired.length h]
 slot:=λi s' e=>by
  unfold startP at e
  by_cases hi:i<as.length
  ·rw[List.getElem?_append_left hi] at e
   obtain⟨v,h1,h2⟩:=bJ h e
   have hv:((L2.start N vs)[i]?).getD none=some v:=by
    unfold L2.start
    rw[List.getElem?_append_left (by simpa[<-Paired.length h] using hi),List.getElem?_map,h1];rfl
   rw[hv]
   exact(cQ.slot h2).1
  ·rw[List.getElem?_append_right (by omega),List.getElem?_replicate] at e
   split at e
   ·cases e;trivial
   ·cases e
 sep:=λi j a h1 _=>by
  obtain⟨s',y,h1,_,h2⟩:=h1
  have h2:=nq h2
  exfalso
  unfold startP at h1
  by_cases hi:i<as.length
  ·rw[List.getElem?_append_left hi] at h1
   obtain⟨v,_,h3⟩:=bJ h h1
   rw[(cQ.slot h3).2] at h2
   cases h2
  ·rw[List.getElem?_append_right (by omega),List.getElem?_replicate] at h1
   split at h1
   ·cases h1;cases h2
   ·cases h1
end
structure PX where
 C:String
 ns:List Str
 ps:List PV
def QV(K:KK)(F:Hp)(x:PX)(C:Value)(d:Option Addr):Prop:=C=.ref (K.cm x.C)/\∃fs,zu F d fs/\fs.map (·.1)=x.ns/\ĝ K F x.ps (fs.map (·.2))
inductive Res(α:Type) where
 |ok (a:α) (ρ:ŋ)|exc (x:PX) (ρ:ŋ)|bad
def Res.bind{α β:Type}(r:Res α)(f:α->ŋ->Res β):Res β:= match r with
 | .ok a ρ=>f a ρ
 | .exc x ρ=>.exc x ρ
 | .bad=>.bad
@[simp] theorem Res.aV{α β:Type}{a:α}{ρ:ŋ}{f:α->ŋ->Res β}:(Res.ok a ρ).bind f=f a ρ:= rfl
@[simp] theorem Res.Zel{α β:Type}{x:PX}{ρ:ŋ}{f:α->ŋ->Res β}:(Res.exc x ρ:Res α).bind f=.exc x ρ:= rfl
@[simp] theorem Res.Zem{α β:Type}{f:α->ŋ->Res β}:(Res.bad:Res α).bind f=.bad:=rfl
def Res.n_{α:Type}(o:Option α)(ρ:ŋ):Res α:= match o with
 |some a=>.ok a ρ
 |none=>.bad
@[simp] theorem Res.Zen{α:Type}{a:α}{ρ:ŋ}:Res.n_ (some a) ρ=.ok a ρ:= rfl
@[simp] theorem Res.Zeo{α:Type}{ρ:ŋ}:Res.n_ (none:Option α) ρ=.bad:=rfl
abbrev M(α:Type):=ŋ->Res α
inductive RV where
 |sh (p:PV)|ow (ps:List PV)|ot (ps qs:List PV)
def RV.val:RV->PV
 | .sh p=>p
 | .ow ps=>.lst ps
 | .ot ps qs=>.tup (ps ++ [.lst qs])
def RV.slot:RV->Slot
 | .sh p=>.sh p
 | .ow ps=>.ow ps
 | .ot ps qs=>.ot ps qs
abbrev RR(α β:Type):=Ctx->L2.St->ŋ->Hp->Hp->α->β->Prop
def rV(K:KK):RR PV V:=λ_ _ _ F _ p v=>Rep K F p v
def Fz(K:KK)(F H:Hp)(p:PV)(v:V):Prop:=match p with
 | .lst ps=>∃a vs,v=.ref a/\H a=some (.lst vs)/\ĝ K F ps vs
 | .ins C ns ps=>∃a dx fs,v=.ref a/\H a=some (.ins (K.cm C) dx fs)/\fs.map (·.1)=ns/\ĝ K F ps (fs.map (·.2))
 |_=>False
def rR(K:KK):RR PV V:=λ_ _ _ F H p v=>Rep K F p v\/Fz K F H p v
def rA(K:KK):RR (List Slot) (List V):=λ_ _ _ F H as vs=>Paired (cQ K F H) as vs
def Held(K:KK)(c:Ctx)(σ:L2.St)(ρ:ŋ)(F H:Hp)(ps:List PV)(v:V):Prop:=∃a vs,v=.ref a/\H a=some (.lst vs)/\F a=none/\c.B a=none/\nZ F σ ρ a/\ĝ K F ps vs
def FJ(K:KK)(c:Ctx)(σ:L2.St)(ρ:ŋ)(F H:Hp)(ps qs:List PV)(v:V):Prop:=∃p a xs vs,v=.ref p/\F p=some (.tup (xs ++ [.ref a]))/\ĝ K F ps xs/\H a=some (.lst vs)/\F a=none/\c.B a=none/\nZ F σ ρ a/\ĝ K F qs vs
def rO(K:KK):RR RV V:=λc σ ρ F H r v=>match r with
 | .sh p=>Rep K F p v
 | .ow ps=>Held K c σ ρ F H ps v
 | .ot ps qs=>FJ K c σ ρ F H ps qs v
def rL(K:KK):RR (List PV) (List V):=λ_ _ _ F _ p v=>ĝ K F p v
def rRL(K:KK):RR (List PV) (List V):=λc σ ρ F H p v=>Paired (rR K c σ ρ F H) p v
def rB:RR Bool Bool:=λ_ _ _ _ _ p v=>p=v
def rI:RR (Option Int) (Option Int):=λ_ _ _ _ _ p v=>p=v
def aQ{α β:Type}(K:KK)(E:L2.St->XK)(R:RR α β)(c:Ctx)(F H:Hp)(σ:L2.St)(Q:β->Hp->Prop):Res α->Prop
 | .ok p ρ'=>∀v F' H',Rel K c F' H' σ ρ'->Same F F'->Same H H'->R c σ ρ' F' H' p v->Q v H'
 | .exc x ρ'=>∀C d F' H',Rel K c F' H' σ ρ'->Same F F'->QV K F' x C d->E σ C d H'
 | .bad=>False
def tG{α β:Type}(K:KK)(E:L2.St->XK)(R:RR α β)(m:M α):L2.St->Hp->(β->Hp->Prop)->Prop:=λσ H Q=>∃c F ρ,Rel K c F H σ ρ/\aQ K E R c F H σ Q (m ρ)
section
variable{α β α' β':Type}{K:KK}{E:L2.St->XK}{R:RR α β}{R':RR α' β'}{c:Ctx}{F F1 H H1:Hp}{σ:L2.St}
def aQ.mono{Q:β->Hp->Prop}{r:Res α}(h:aQ K E R c F H σ Q r)(sF:Same F F1)(sH:Same H H1):aQ K E R c F1 H1 σ Q r:=by
 cases r with
 |ok p ρ'=>exact λv F' H' rel s1 s2 q=>h v F' H' rel (sF.trans s1) (sH.trans s2) q
 |exc x ρ'=>exact λC d F' H' rel s1 q=>h C d F' H' rel (sF.trans s1) q
 |bad=>exact h
theorem aQ.bind{Q:β->Hp->Prop}{Q':β'->Hp->Prop}{r:Res α}{f:α->ŋ->Res α'}(h:aQ K E R' c F H σ Q' (r.bind f))
 (k:∀p ρ1 v F1 H1,Rel K c F1 H1 σ ρ1->Same F F1->Same H H1->R c σ ρ1 F1 H1 p v->aQ K E R' c F1 H1 σ Q' (f p ρ1)->Q v H1):aQ K E R c F H σ Q r:=by
 cases r with
 |ok p ρ'=>exact λv F' H' rel s1 s2 q=>k p ρ' v F' H' rel s1 s2 q (aQ.mono (show aQ K E R' c F H σ Q' (f p ρ') from h) s1 s2)
 |exc x ρ'=>exact h
 |bad=>exact h
theorem aQ.rel{R2:RR α β}{Q:β->Hp->Prop}{r:Res α}(h:aQ K E R c F H σ Q r)(k:∀p ρ' v F' H',Rel K c F' H' σ ρ'->R2 c σ ρ' F' H' p v->R c σ ρ' F' H' p v):aQ K E R2 c F H σ Q r:=by
 cases r with
 |ok p ρ'=>exact λv F' H' rel s1 s2 q=>h v F' H' rel s1 s2 (k p ρ' v F' H' rel q)
 |exc x ρ'=>exact h
 |bad=>exact h
end
abbrev tV(K:KK)(E:L2.St->XK)(m:M PV):TE:=tG K E (rV K) m
abbrev tR(K:KK)(E:L2.St->XK)(m:M PV):TE:=tG K E (rR K) m
abbrev tO(K:KK)(E:L2.St->XK)(m:M RV):TE:=tG K E (rO K) m
abbrev tL(K:KK)(E:L2.St->XK)(m:M (List PV)):TA:=tG K E (rL K) m
abbrev tA(K:KK)(E:L2.St->XK)(m:M (List Slot)):TA:=tG K E (rA K) m
abbrev Pn(K:KK)(E:L2.St->XK)(m:M (List PV)):TA:=tG K E (rRL K) m
abbrev tB(K:KK)(E:L2.St->XK)(m:M Bool):TT:=tG K E rB m
inductive Fl where
 |nx|bk|ct|rt (r:RV)
def Ż(K:KK)(E:L2.St->XK)(c:Ctx)(F:Hp)(D:Ends):Res Fl->Prop
 | .ok .nx ρ'=>∀σ' F' H',Rel K c F' H' σ' ρ'->Same F F'->D.nx σ' H'
 | .ok .bk ρ'=>∀σ' F' H',Rel K c F' H' σ' ρ'->Same F F'->D.bk σ' H'
 | .ok .ct ρ'=>∀σ' F' H',Rel K c F' H' σ' ρ'->Same F F'->D.ct σ' H'
 | .ok (.rt r) ρ'=>∀v σ' F' H',Rel K c F' H' σ' ρ'->Same F F'->rO K c σ' ρ' F' H' r v->D.rt v H'
 | .exc x ρ'=>∀σ' C d F' H',Rel K c F' H' σ' ρ'->Same F F'->QV K F' x C d->E σ' C d H'
 | .bad=>False
def tS(K:KK)(E:L2.St->XK)(m:M Fl):TS:=λD σ H=>∃c F ρ,Rel K c F H σ ρ/\Ż K E c F D (m ρ)
section
variable{K:KK}{E:L2.St->XK}{c:Ctx}{F F1:Hp}{D:Ends}
def Ż.mono{r:Res Fl}(h:Ż K E c F D r)(sF:Same F F1):Ż K E c F1 D r:=by
 cases r with
 |ok f ρ'=>
  cases f with
  |rt v=>exact λv σ' F' H' rel s1 q=>h v σ' F' H' rel (sF.trans s1) q
  |nx=>exact λσ' F' H' rel s1=>h σ' F' H' rel (sF.trans s1)
  |bk=>exact λσ' F' H' rel s1=>h σ' F' H' rel (sF.trans s1)
  |ct=>exact λσ' F' H' rel s1=>h σ' F' H' rel (sF.trans s1)
 |exc x ρ'=>exact λσ' C d F' H' rel s1 q=>h σ' C d F' H' rel (sF.trans s1) q
 |bad=>exact h
theorem Ż.bind{α β:Type}{R:RR α β}{σ:L2.St}{H:Hp}{Q:β->Hp->Prop}{r:Res α}{f:α->ŋ->Res Fl}(h:Ż K E c F D (r.bind f))
 (k:∀p ρ1 v F1 H1,Rel K c F1 H1 σ ρ1->Same F F1->R c σ ρ1 F1 H1 p v->Ż K E c F1 D (f p ρ1)->Q v H1):aQ K E R c F H σ Q r:=by
 cases r with
 |ok p ρ'=>exact λv F' H' rel s1 s2 q=>k p ρ' v F' H' rel s1 q (Ż.mono (show Ż K E c F D (f p ρ') from h) s1)
 |exc x ρ'=>exact λC d F' H' rel s1 q=>h σ C d F' H' rel s1 q
 |bad=>exact h
end
end P
namespace P
open PySem PySem.Spec PyProof.Rows L2 M2
def Ę(i:Nat):M PV:=λρ=>match ρ[i]? with
 |some (.sh p)=>.ok p ρ
 |some (.ow ps)=>.ok (.lst ps) (ρ.set i (.sh (.lst ps)))
 |_=>.bad
def Ā(i:Nat):M PV:=λρ=>match ρ[i]? with
 |some (.sh p)=>.ok p ρ
 |some (.ow ps)=>.ok (.lst ps) ρ
 |some (.bw ps)=>.ok (.lst ps) ρ
 |some (.rc C ns ps)=>.ok (.ins C ns ps) ρ
 |_=>.bad
def aG(i:Nat):M RV:=λρ=>match ρ[i]? with
 |some (.sh p)=>.ok (.sh p) ρ
 |some (.ow ps)=>.ok (.ow ps) (ρ.set i .no)
 |_=>.bad
def mC(p:PV):M PV:=λρ=>.ok p ρ
def ņ(m:M PV):M RV:=λρ=>(m ρ).bind λp ρ1=>.ok (.sh p) ρ1
def ċ(m:M RV):M PV:=λρ=>(m ρ).bind λr ρ1=>.ok r.val ρ1
section
variable{K:KK}{c:Ctx}{F H:Hp}{σ:L2.St}{ρ:ŋ}
def at_of{i:Nat}{x:V}(h:(σ[i]?).getD none=some x):σ[i]?=some (some x):=by
 cases q:σ[i]? with
 |none=>rw[q] at h;cases h
 |some y=>rw[q] at h;exact congrArg some h
theorem Rel.ow(r:Rel K c F H σ ρ){i:Nat}{ps:List PV}(e:ρ[i]?=some (.ow ps)):∃a vs,σ[i]?=some (some (.ref a))/\H a=some (.lst vs)/\F a=none/\c.B a=none/\ĝ K F ps vs/\Œ F σ ρ i a:=by
 obtain⟨a,vs,h1,h2,h3,h4,h5⟩:=r.slot i _ e
 exact⟨a,vs,at_of h1,h2,h3,h4,h5,⟨_,_,e,at_of h1,rfl⟩⟩
def Rel.move(r:Rel K c F H σ ρ){i:Nat}{a:Addr}(h:Œ F σ ρ i a):Rel K c F H σ (ρ.set i .no)/\nZ F σ (ρ.set i .no) a:=by
 refine⟨r.SQ rfl trivial,λj ⟨s,y,q1,q3,q2⟩=>?_⟩
 rcases bO q1 with⟨_,rfl,_⟩|⟨hj,q⟩
 ·exact q2.elim
 ·exact hj (r.sep j i a ⟨s,y,q,q3,q2⟩ h)
def Rel.share(r:Rel K c F H σ ρ){i:Nat}{ps:List PV}(e:ρ[i]?=some (.ow ps)):∃a vs,σ[i]?=some (some (.ref a))/\F a=none/\Rep K (upd F a (.lst vs)) (.lst ps) (.ref a)/\Rel K c (upd F a (.lst vs)) H σ (ρ.set i (.sh (.lst ps))):=by
 obtain⟨a,vs,h1,h2,h3,h4,h5,ho⟩:=r.ow e
 obtain⟨m1,m2⟩:=r.move ho
 have rp:Rep K (upd F a (.lst vs)) (.lst ps) (.ref a):=by
  unfold Rep
  exact⟨a,vs,rfl,ų.of ĭ,h5.same (Same.upd h3) ps vs⟩
 have q:=(m1.freeze h2 h4 h3 m2).SQ (i:=i) (s:=.sh (.lst ps)) rfl (show aC K c _ H _ (.sh (.lst ps)) from⟨.ref a,by rw[h1];rfl,rp⟩)
 rw[List.set_set] at q
 exact⟨a,vs,h1,h3,rp,q⟩
def Fz.mono{F1 H1:Hp}{p:PV}{v:V}(h:Fz K F H p v)(sF:Same F F1)(sH:Same H H1):Fz K F1 H1 p v:=by
 cases p with
 |lst ps=>
  obtain⟨a,vs,h2,h3,h4⟩:=h
  exact⟨a,vs,h2,sH _ _ h3,h4.same sF ps vs⟩
 |ins C ns ps=>
  obtain⟨a,dx,fs,h2,h3,h4,h5⟩:=h
  exact⟨a,dx,fs,h2,sH _ _ h3,h4,h5.same sF ps _⟩
 |_=>exact h.elim
theorem rR.mono{c:Ctx}{σ:L2.St}{ρ ρ':ŋ}{F1 H1:Hp}{p:PV}{v:V}(h:rR K c σ ρ F H p v)(sF:Same F F1)(sH:Same H H1):rR K c σ ρ' F1 H1 p v:=by
 rcases h with h|h
 ·exact .inl (h.same sF p v)
 ·exact .inr (h.mono sF sH)
theorem rR.lst{c:Ctx}{σ:L2.St}{ρ:ŋ}{ps:List PV}{v:V}(s:Same F H)(h:rR K c σ ρ F H (.lst ps) v):∃a vs,v=.ref a/\ų K.K H a vs/\ĝ K F ps vs:=by
 rcases h with h|⟨a,vs,h2,h3,h4⟩
 ·unfold Rep at h
  obtain⟨a,xs,h1,h2,h3⟩:=h
  exact⟨a,xs,h1,s.seq h2,h3⟩
 ·exact⟨a,vs,h2,ų.of h3,h4⟩
theorem rR.tup{c:Ctx}{σ:L2.St}{ρ:ŋ}{ps:List PV}{v:V}(s:Same F H)(h:rR K c σ ρ F H (.tup ps) v):∃a vs,v=.ref a/\dw K.K H a vs/\ĝ K F ps vs:=by
 rcases h with h|h
 ·unfold Rep at h
  obtain⟨a,xs,h1,h2,h3⟩:=h
  exact⟨a,xs,h1,Same.tup s h2,h3⟩
 ·exact h.elim
theorem rR.int{c:Ctx}{σ:L2.St}{ρ:ŋ}{i:Int}{v:V}(h:rR K c σ ρ F H (.int i) v):v=.int i:=by
 rcases h with h|h
 ·unfold Rep at h;exact h
 ·exact h.elim
theorem rR.str{c:Ctx}{σ:L2.St}{ρ:ŋ}{i:Str}{v:V}(h:rR K c σ ρ F H (.str i) v):v=.str i:=by
 rcases h with h|h
 ·unfold Rep at h;exact h
 ·exact h.elim
theorem rR.bl{c:Ctx}{σ:L2.St}{ρ:ŋ}{i:Bool}{v:V}(h:rR K c σ ρ F H (.bl i) v):v=.bl i:=by
 rcases h with h|h
 ·unfold Rep at h;exact h
 ·exact h.elim
theorem rR.non{c:Ctx}{σ:L2.St}{ρ:ŋ}{v:V}(h:rR K c σ ρ F H .non v):v=.non:=by
 rcases h with h|h
 ·unfold Rep at h;exact h
 ·exact h.elim
theorem rR.ty{c:Ctx}{σ:L2.St}{ρ:ŋ}{n:String}{v:V}(h:rR K c σ ρ F H (.ty n) v):v=.ty n:=by
 rcases h with h|h
 ·unfold Rep at h;exact h
 ·exact h.elim
theorem Rep.int{i:Int}:Rep K F (.int i) (.int i):=by unfold Rep;rfl
theorem Rep.str{i:Str}:Rep K F (.str i) (.str i):=by unfold Rep;rfl
theorem Rep.bl{i:Bool}:Rep K F (.bl i) (.bl i):=by unfold Rep;rfl
theorem Rep.non:Rep K F .non .non:=by unfold Rep;rfl
end
section
variable{X:Cx}{cm:String->Addr}{E:L2.St->XK}{a b e:Expr}{es:List Expr}{pos:Pos}{m ma mb mc:M PV}{mo:M RV}
def PT.wk{t t':TT}(h:PT X e t)(i:∀σ H Q,t' σ H Q->t σ H Q):PT X e t':=λpins s σ H Q I q=>h pins s σ H Q I (i σ H Q q)
def PA.wk{t t':TA}(h:PA X es t)(i:∀σ H Q,t' σ H Q->t σ H Q):PA X es t':=λpos pins s σ H Q I q=>h pos pins s σ H Q I (i σ H Q q)
def PW.wk{t t':TT}(h:PW X e t)(i:∀σ H Q,t' σ H Q->t σ H Q):PW X e t':=λwh pins s σ H Q I q=>h wh pins s σ H Q I (i σ H Q q)
def jw.wk{st:List Stmt}{t t':TS}(h:jw X st t)(i:∀D σ H,t' D σ H->t D σ H):jw X st t':=λpins s σ H D I q=>h pins s σ H D I (i D σ H q)
def v_var(i:Nat){x:Str}{pos:Pos}(hN:X.N[i]?=some x:=by rfl)(hv:Bp X.env.scope x:=by first|exact Or.inl rfl|exact Or.inr (Or.inl rfl)|exact Or.inr (Or.inr rfl))(hd:(x== ("__debug__" :Str))=false:=by decide)
 (hcd:(x== ("__classdict__" :Str))=false:=by decide):PE X (.Name x pos) (tV (kk X cm) E (Ę i)):=PE.wk (fM hN hv hd hcd) λσ H Q ⟨c,F,ρ,rel,h⟩=>by
 unfold Ę at h
 split at h
 ·rename_i p e
  obtain⟨v,h1,h2⟩:=rel.slot i _ e
  exact⟨v,at_of h1,h v F H rel (Same.refl F) (Same.refl H) h2⟩
 ·rename_i ps e
  obtain⟨a,vs,h1,h2,h3,h4⟩:=rel.share e
  exact⟨.ref a,h1,h _ _ H h4 (Same.upd h2) (Same.refl H) h3⟩
 ·exact h.elim
def ā(i:Nat){x:Str}{pos:Pos}(hN:X.N[i]?=some x:=by rfl)(hv:Bp X.env.scope x:=by first|exact Or.inl rfl|exact Or.inr (Or.inl rfl)|exact Or.inr (Or.inr rfl))(hd:(x== ("__debug__" :Str))=false:=by decide)
 (hcd:(x== ("__classdict__" :Str))=false:=by decide):PE X (.Name x pos) (tR (kk X cm) E (Ā i)):=PE.wk (fM hN hv hd hcd) λσ H Q ⟨c,F,ρ,rel,h⟩=>by
 unfold Ā at h
 split at h
 ·rename_i p e
  obtain⟨v,h1,h2⟩:=rel.slot i _ e
  exact⟨v,at_of h1,h v F H rel (Same.refl F) (Same.refl H) (.inl h2)⟩
 ·rename_i ps e
  obtain⟨a,vs,h1,h2,h3,h4,h5,_⟩:=rel.ow e
  exact⟨.ref a,h1,h _ F H rel (Same.refl F) (Same.refl H) (.inr ⟨a,vs,rfl,h2,h5⟩)⟩
 ·rename_i ps e
  obtain⟨a,vs,h1,h2,h3⟩:=rel.slot i _ e
  exact⟨.ref a,at_of h1,h _ F H rel (Same.refl F) (Same.refl H) (.inr ⟨a,vs,rfl,(rel.lent a _ h2).1,h3⟩)⟩
 ·rename_i C ns ps e
  obtain⟨a,dx,fs,h1,h2,h3,h4,h5,h6⟩:=rel.slot i _ e
  exact⟨.ref a,at_of h1,h _ F H rel (Same.refl F) (Same.refl H) (.inr ⟨a,dx,fs,rfl,h2,h5,h6.1⟩)⟩
 ·exact h.elim
def bG(i:Nat){x:Str}{pos:Pos}(hN:X.N[i]?=some x:=by rfl)(hv:Bp X.env.scope x:=by first|exact Or.inl rfl|exact Or.inr (Or.inl rfl)|exact Or.inr (Or.inr rfl))(hd:(x== ("__debug__" :Str))=false:=by decide)
 (hcd:(x== ("__classdict__" :Str))=false:=by decide):PE X (.Name x pos) (tO (kk X cm) E (aG i)):=PE.wk (fM hN hv hd hcd) λσ H Q ⟨c,F,ρ,rel,h⟩=>by
 unfold aG at h
 split at h
 ·rename_i p e
  obtain⟨v,h1,h2⟩:=rel.slot i _ e
  exact⟨v,at_of h1,h v F H rel (Same.refl F) (Same.refl H) h2⟩
 ·rename_i ps e
  obtain⟨a,vs,h1,h2,h3,h4,h5,h6⟩:=rel.ow e
  obtain⟨m1,m2⟩:=rel.move h6
  exact⟨.ref a,h1,h _ F H m1 (Same.refl F) (Same.refl H) ⟨a,vs,rfl,h2,h3,h4,m2,h5⟩⟩
 ·exact h.elim
def Im{v:V}(p:PV)(h:PE X e (tC v))(hr:∀F,Rep (kk X cm) F p v:=by intro _;unfold Rep;rfl):PE X e (tV (kk X cm) E (mC p)):=PE.wk h λσ H Q ⟨c,F,ρ,rel,h⟩=>h v F H rel (Same.refl F) (Same.refl H) (hr F)
def Ī{i j pos}:PE X (.Constant (.int i) j pos) (tV (kk X cm) E (mC (.int i))):=Im _ Za0
def lq{i j pos}:PE X (.Constant (.bool i) j pos) (tV (kk X cm) E (mC (.bl i))):=Im _ ZdT
def zx{j pos}:PE X (.Constant .none j pos) (tV (kk X cm) E (mC .non)):=Im _ Za1
def ao{x j pos}:PE X (.Constant (.str x) j pos) (tV (kk X cm) E (mC (.str x))):=Im _ Za2
def Ĝ(h:PE X e (tV (kk X cm) E m)):PE X e (tR (kk X cm) E m):=PE.wk h λσ H Q ⟨c,F,ρ,rel,h⟩=>⟨c,F,ρ,rel,h.rel λ_ _ _ _ _ _ q=>.inl q⟩
def ŗ(h:PE X e (tV (kk X cm) E m)):PE X e (tO (kk X cm) E (ņ m)):=PE.wk h λσ H Q ⟨c,F,ρ,rel,h⟩=>⟨c,F,ρ,rel,h.bind λp ρ1 v F1 H1 ě s1 s2 q h1=>h1 v F1 H1 ě (Same.refl _) (Same.refl _) q⟩
def Held.share{K:KK}{c:Ctx}{F H:Hp}{σ:L2.St}{ρ:ŋ}{ps:List PV}{v:V}(rel:Rel K c F H σ ρ)(h:Held K c σ ρ F H ps v):∃F1,Same F F1/\Rel K c F1 H σ ρ/\Rep K F1 (.lst ps) v:=by
 obtain⟨a,vs,rfl,h1,h2,h3,h4,h5⟩:=h
 refine⟨_,Same.upd h2,rel.freeze h1 h3 h2 h4,?_⟩
 unfold Rep
 exact⟨a,vs,rfl,ų.of ĭ,h5.same (Same.upd h2) ps vs⟩
def FJ.share{K:KK}{c:Ctx}{F H:Hp}{σ:L2.St}{ρ:ŋ}{ps qs:List PV}{v:V}(rel:Rel K c F H σ ρ)(h:FJ K c σ ρ F H ps qs v):∃F1,Same F F1/\Rel K c F1 H σ ρ/\Rep K F1 (.tup (ps ++ [.lst qs])) v:=by
 obtain⟨p,a,xs,vs,rfl,h0,hx,h1,h2,h3,h4,h5⟩:=h
 refine⟨_,Same.upd h2,rel.freeze h1 h3 h2 h4,?_⟩
 have ra:Rep K (upd F a (.lst vs)) (.lst qs) (.ref a):=by
  unfold Rep
  exact⟨a,vs,rfl,ų.of ĭ,h5.same (Same.upd h2) qs vs⟩
 unfold Rep
 exact⟨p,_,rfl,dw.of (Same.upd h2 _ _ h0),ĝ.append (hx.same (Same.upd h2) ps xs) (ĝ.cons ra ĝ.nil)⟩
def ę(h:PE X e (tO (kk X cm) E mo)):PE X e (tV (kk X cm) E (ċ mo)):=PE.wk h λσ H Q ⟨c,F,ρ,rel,h⟩=>⟨c,F,ρ,rel,h.bind λr ρ1 v F1 H1 ě s1 s2 q h1=>by
 cases r with
 |sh p=>exact h1 v F1 H1 ě (Same.refl _) (Same.refl _) q
 |ow ps=>
  obtain⟨F2,s3,ļ,rp⟩:=Held.share ě q
  exact h1 v F2 H1 ļ s3 (Same.refl _) rp
 |ot ps qs=>
  obtain⟨F2,s3,ļ,rp⟩:=FJ.share ě q
  exact h1 v F2 H1 ļ s3 (Same.refl _) rp⟩
def Ą(f:PV->PV->Option PV)(ma mb:M PV):M PV:=λρ=>(ma ρ).bind λp ρ1=>(mb ρ1).bind λq ρ2=>Res.n_ (f p q) ρ2
def Ĩ(f:PV->PV->Option RV)(ma mb:M PV):M RV:=λρ=>(ma ρ).bind λp ρ1=>(mb ρ1).bind λq ρ2=>Res.n_ (f p q) ρ2
def iy(K:KK)(r:R2)(f:PV->PV->Option PV):Prop:=∀{c:Ctx} {F H:Hp} {σ:L2.St} {ρ:ŋ} {p q pv:PV} {v u:V} {Q:VK},Rel K c F H σ ρ->rR K c σ ρ F H p v->rR K c σ ρ F H q u->f p q=some pv->
 (∀z F' H',Rel K c F' H' σ ρ->Same F F'->Same H H'->Rep K F' pv z->Q z H')->r v u H Q
def OpO(K:KK)(r:R2)(f:PV->PV->Option RV):Prop:=∀{c:Ctx} {F H:Hp} {σ:L2.St} {ρ:ŋ} {p q:PV} {pv:RV} {v u:V} {Q:VK},Rel K c F H σ ρ->rR K c σ ρ F H p v->rR K c σ ρ F H q u->f p q=some pv->
 (∀z F' H',Rel K c F' H' σ ρ->Same F F'->Same H H'->rO K c σ ρ F' H' pv z->Q z H')->r v u H Q
def FN{r:R2}{f:PV->PV->Option PV}(hf:iy (kk X cm) r f){σ:L2.St}{H:Hp}{Q:VK}(h:tV (kk X cm) E (Ą f ma mb) σ H Q):tOp r (tR (kk X cm) E ma) (tR (kk X cm) E mb) σ H Q:=by
 obtain⟨c,F,ρ,rel,h⟩:=h
 refine⟨c,F,ρ,rel,h.bind λp ρ1 v F1 H1 ě _ _ r1 h1=>⟨c,F1,ρ1,ě,h1.bind λq ρ2 u F2 H2 ļ sF sH r2 h2=>?_⟩⟩
 cases e:f p q with
 |none=>rw[e] at h2;exact h2.elim
 |some pv=>rw[e] at h2;exact hf ļ (r1.mono sF sH) r2 e λz F' H' bF s1 s2 q'=>h2 z F' H' bF s1 s2 q'
def Zep{r:R2}{f:PV->PV->Option RV}(hf:OpO (kk X cm) r f){σ:L2.St}{H:Hp}{Q:VK}(h:tO (kk X cm) E (Ĩ f ma mb) σ H Q):tOp r (tR (kk X cm) E ma) (tR (kk X cm) E mb) σ H Q:=by
 obtain⟨c,F,ρ,rel,h⟩:=h
 refine⟨c,F,ρ,rel,h.bind λp ρ1 v F1 H1 ě _ _ r1 h1=>⟨c,F1,ρ1,ě,h1.bind λq ρ2 u F2 H2 ļ sF sH r2 h2=>?_⟩⟩
 cases e:f p q with
 |none=>rw[e] at h2;exact h2.elim
 |some pv=>rw[e] at h2;exact hf ļ (r1.mono sF sH) r2 e λz F' H' bF s1 s2 q'=>h2 z F' H' bF s1 s2 q'
def Ų{op:Operator}{r:R2}{f:PV->PV->Option PV}(hf:iy (kk X cm) r f)(ho:Ű X (binaryOp op) r)(ha:PE X a (tR (kk X cm) E ma))(hb:PE X b (tR (kk X cm) E mb)):PE X (.BinOp a op b pos) (tV (kk X cm) E (Ą f ma mb)):=PE.wk (Sx ho ha hb) λ_ _ _ h=>FN hf h
def Zeq{op:Operator}{r:R2}{f:PV->PV->Option RV}(hf:OpO (kk X cm) r f)(ho:Ű X (binaryOp op) r)(ha:PE X a (tR (kk X cm) E ma))(hb:PE X b (tR (kk X cm) E mb)):PE X (.BinOp a op b pos) (tO (kk X cm) E (Ĩ f ma mb)):=PE.wk (Sx ho ha hb) λ_ _ _ h=>Zep hf h
def oh{op:CmpOp}{r:R2}{f:PV->PV->Option PV}(hf:iy (kk X cm) r f)(ho:Ű X (compareOp op) r)(ha:PE X a (tR (kk X cm) E ma))(hb:PE X b (tR (kk X cm) E mb))(hm:behindInMarks op b=false):PE X (.Compare a [op] [b] pos) (tV (kk X cm) E (Ą f ma mb)):=
 PE.wk (Qi ho ha hb hm) λ_ _ _ h=>FN hf h
def ZgJ{r:R2}{f:PV->PV->Option PV}(hf:iy (kk X cm) r f)(hr:B_ X r)(ha:PE X a (tR (kk X cm) E ma))(hb:PE X b (tR (kk X cm) E mb))(hs:qb b):PE X (.Subscript a b pos) (tV (kk X cm) E (Ą f ma mb)):=
 PE.wk (Zd8 hr ha hb hs) λ_ _ _ h=>FN hf h
def gY(f:PV->Option PV)(ma:M PV):M PV:=λρ=>(ma ρ).bind λp ρ1=>Res.n_ (f p) ρ1
def UnV(K:KK)(r:V->Hp->VK->Prop)(f:PV->Option PV):Prop:=∀{c:Ctx} {F H:Hp} {σ:L2.St} {ρ:ŋ} {p pv:PV} {v:V} {Q:VK},Rel K c F H σ ρ->rR K c σ ρ F H p v->f p=some pv->
 (∀z F' H',Rel K c F' H' σ ρ->Same F F'->Same H H'->Rep K F' pv z->Q z H')->r v H Q
def pD{op:UnaryOp}{r:V->Hp->VK->Prop}{f:PV->Option PV}(hf:UnV (kk X cm) r f)(ho:Qf X (unaryOp op) r)(ha:PE X a (tR (kk X cm) E ma)):PE X (.UnaryOp op a pos) (tV (kk X cm) E (gY f ma)):=PE.wk (Zd1 ho ha) λσ H Q ⟨c,F,ρ,rel,h⟩=>
 ⟨c,F,ρ,rel,h.bind fun p ρ1 v F1 H1 ě _ _ r1 h1=>by
   cases e:f p with
   |none=>rw[e] at h1;exact h1.elim
   |some pv=>rw[e] at h1;exact hf ě r1 e λz F' H' bF s1 s2 q'=>h1 z F' H' bF s1 s2 q'⟩
def tru:PV->Option Bool
 | .bl b=>some b
 | .int i=>some (i != 0)
 | .non=>some false
 | .str y=>if y.length<=sizeLine then some ((y.length:Int) != 0) else none
 | .lst ps=>some (!ps.isEmpty)
 | .tup ps=>some (!ps.isEmpty)
 |_=>none
def bK(m:M PV):M Bool:=λρ=>(m ρ).bind λp ρ1=>Res.n_ (tru p) ρ1
def Zer{K:KK}{c:Ctx}{F H:Hp}{σ:L2.St}{ρ:ŋ}{p:PV}{v:V}{k:Bool}(s:Same F H)(r:rR K c σ ρ F H p v)(h:tru p=some k):Zbn K.K v H k:=by
 cases p with
 |bl b=>cases r.bl;cases h;rfl
 |int i=>cases r.int;cases h;rfl
 |non=>cases r.non;cases h;rfl
 |str y=>
  cases r.str
  have h':(if y.length<=sizeLine then some ((y.length:Int) != 0) else none)=some k:=h
  split at h'
  ·rename_i hy;cases h';exact⟨hy,rfl⟩
  ·cases h'
 |lst ps=>
  obtain⟨a,vs,rfl,h1,h2⟩:=r.lst s
  cases h
  have e:ps.isEmpty=vs.isEmpty:=by cases h2.pr<;>rfl
  exact .inl ⟨vs,h1,by rw[e]⟩
 |tup ps=>
  obtain⟨a,vs,rfl,h1,h2⟩:=r.tup s
  cases h
  have e:ps.isEmpty=vs.isEmpty:=by cases h2.pr<;>rfl
  exact .inr (.inl ⟨vs,h1,by rw[e]⟩)
 |ins C ns ps=>cases h
 |xc C ns ps=>cases h
 |ty n=>cases h
 |cls C=>cases h
def ż(ha:PE X a (tR (kk X cm) E ma))(he:∀whole,isTrue a X.env whole=(do let v <-whole;standAt a.pos;holding [v] (truthy v)):=by intro _;rfl):PT X a (tB (kk X cm) E (bK ma)):=PT.wk (Jj ha he) λσ H Q ⟨c,F,ρ,rel,h⟩=>
 ⟨c,F,ρ,rel,h.bind fun p ρ1 v F1 H1 ě _ _ r1 h1=>by
   cases e:tru p with
   |none=>rw[e] at h1;exact h1.elim
   |some k=>rw[e] at h1;exact⟨k,Zer ě.sub r1 e,h1 k F1 H1 ě (Same.refl _) (Same.refl _) rfl⟩⟩
def aP(m:M PV):M Bool:=λρ=>(m ρ).bind λp ρ1=>match p with
 | .bl b=>.ok b ρ1
 |_=>.bad
def SX{σ:L2.St}{H:Hp}{Q:Bool->Hp->Prop}(h:tB (kk X cm) E (aP m) σ H Q):M2.Jy (tV (kk X cm) E m) σ H Q:=by
 obtain⟨c,F,ρ,rel,h⟩:=h
 refine⟨c,F,ρ,rel,h.bind λp ρ1 v F1 H1 ě _ _ r1 h1=>?_⟩
 cases p with
 |bl b=>
  have e:v=.bl b:=by have r1':Rep (kk X cm) F1 (.bl b) v:=r1;unfold Rep at r1';exact r1'
  subst e
  exact h1 b F1 H1 ě (Same.refl _) (Same.refl _) rfl
 |_=>exact h1.elim
def aq{op:CmpOp}{r:R2}{f:PV->PV->Option PV}(hf:iy (kk X cm) r f)(ho:Ű X (compareOp op) r)(ha:PE X a (tR (kk X cm) E ma))(hb:PE X b (tR (kk X cm) E mb))(hm:behindInMarks op b=false):PT X (.Compare a [op] [b] pos) (tB (kk X cm) E (aP (Ą f ma mb))):=
 PT.wk (ZbD ho ha hb hm) fun σ H Q h=>by
   obtain⟨c,F,ρ,rel,h⟩:=SX h
   exact FN hf ⟨c,F,ρ,rel,h⟩
def pF(f g:PV->PV->Option PV)(ma mb mc:M PV):M PV:=λρ=>(ma ρ).bind λp ρ1=>(mb ρ1).bind λq ρ2=>(Res.n_ (f p q) ρ2).bind λz ρ3=>match z with
 | .bl true=>(mc ρ3).bind λw ρ4=>Res.n_ (g q w) ρ4
 | .bl false=>.ok (.bl false) ρ3
 |_=>.bad
def S_{r r':R2}{f g:PV->PV->Option PV}(hf:iy (kk X cm) r f)(hg:iy (kk X cm) r' g){σ:L2.St}{H:Hp}{Q:VK}(h:tV (kk X cm) E (pF f g ma mb mc) σ H Q):M2.Cd r r' (tR (kk X cm) E ma) (tR (kk X cm) E mb) (tR (kk X cm) E mc) σ H Q:=by
 obtain⟨c,F,ρ,rel,h⟩:=h
 refine⟨c,F,ρ,rel,h.bind λp ρ1 v F1 H1 ě _ _ r1 h1=>⟨c,F1,ρ1,ě,h1.bind λq ρ2 u F2 H2 ļ sF sH r2 h2=>?_⟩⟩
 cases e:f p q with
 |none=>rw[e] at h2;exact h2.elim
 |some pv=>
  rw[e] at h2
  refine hf ļ (r1.mono sF sH) r2 e λz F' H' bF s1 s2 q'=>?_
  cases pv with
  |bl k=>
   have ez:z=.bl k:=by unfold Rep at q';exact q'
   subst ez
   cases k with
   |false=>exact h2 _ F' H' bF s1 s2 q'
   |true=>
    refine⟨c,F',ρ2,bF,aQ.bind (aQ.mono h2 s1 s2) λw ρ4 x F4 H4 zy s3 s4 r4 h4=>?_⟩
    cases e':g q w with
    |none=>rw[e'] at h4;exact h4.elim
    |some pv'=>rw[e'] at h4;exact hg zy (r2.mono (s1.trans s3) (s2.trans s4)) r4 e' λz F' H' bF s1 s2 q'=>h4 z F' H' bF s1 s2 q'
  |_=>exact h2.elim
def uO{op op':CmpOp}{r r':R2}{f g:PV->PV->Option PV}{c:Expr}(hf:iy (kk X cm) r f)(hg:iy (kk X cm) r' g)(ho:Ű X (compareOp op) r)(ho':Ű X (compareOp op') r')(ha:PE X a (tR (kk X cm) E ma))(hb:PE X b (tR (kk X cm) E mb))(hc:PE X c (tR (kk X cm) E mc))
 (hm:lastMarks [op,op'] [b,c]=false:=by with_unfolding_all rfl):PE X (.Compare a [op,op'] [b,c] pos) (tV (kk X cm) E (pF f g ma mb mc)):=PE.wk (Jz ho ho' ha hb hc hm) λ_ _ _ h=>S_ hf hg h
def Tc{op op':CmpOp}{r r':R2}{f g:PV->PV->Option PV}{c:Expr}(hf:iy (kk X cm) r f)(hg:iy (kk X cm) r' g)(ho:Ű X (compareOp op) r)(ho':Ű X (compareOp op') r')(ha:PE X a (tR (kk X cm) E ma))(hb:PE X b (tR (kk X cm) E mb))(hc:PE X c (tR (kk X cm) E mc))
 (hm:lastMarks [op,op'] [b,c]=false:=by with_unfolding_all rfl):PT X (.Compare a [op,op'] [b,c] pos) (tB (kk X cm) E (aP (pF f g ma mb mc))):=PT.wk (JB ho ho' ha hb hc hm) λσ H Q h=>by
 obtain⟨c,F,ρ,rel,h⟩:=SX h
 exact S_ hf hg ⟨c,F,ρ,rel,h⟩
def cD(m:M Bool):M Bool:=λρ=>(m ρ).bind λb ρ1=>.ok (!b) ρ1
def fj{m:M Bool}(h:PT X a (tB (kk X cm) E m)):PT X (.UnaryOp .Not a pos) (tB (kk X cm) E (cD m)):=PT.wk (Za5 h) λσ H Q ⟨c,F,ρ,rel,h⟩=>
 ⟨c,F,ρ,rel,h.bind λp ρ1 v F1 H1 ě _ _ r1 h1=>h1 _ F1 H1 ě (Same.refl _) (Same.refl _) (by have e:p=v:=r1;rw[e];rfl)⟩
def fu(ma mb:M Bool):M Bool:=λρ=>(ma ρ).bind λb ρ1=>if b=true then mb ρ1 else .ok false ρ1
def pG(ma mb:M Bool):M Bool:=λρ=>(ma ρ).bind λb ρ1=>if b=true then .ok true ρ1 else mb ρ1
variable{ta tb:M Bool}{rest:List Expr}
def cR(h:PT X a (tB (kk X cm) E ta)):PW X (.BoolOp .And [a] pos) (tB (kk X cm) E ta):=PN h
def uP(h:PT X a (tB (kk X cm) E ta)):PW X (.BoolOp .Or [a] pos) (tB (kk X cm) E ta):=Za3 h
def w_and(ha:PT X a (tB (kk X cm) E ta))(hb:PW X (.BoolOp .And (b::rest) pos) (tB (kk X cm) E tb)):PW X (.BoolOp .And (a::b::rest) pos) (tB (kk X cm) E (fu ta tb)):=PW.wk (Za4 ha hb) λσ H Q ⟨c,F,ρ,rel,h⟩=>
 ⟨c,F,ρ,rel,h.bind fun p ρ1 v F1 H1 ě _ _ r1 h1=>by
   have e:p=v:=r1
   subst e
   cases p with
   |true=>exact⟨c,F1,ρ1,ě,h1⟩
   |false=>exact h1 false F1 H1 ě (Same.refl _) (Same.refl _) rfl⟩
def w_or(ha:PT X a (tB (kk X cm) E ta))(hb:PW X (.BoolOp .Or (b::rest) pos) (tB (kk X cm) E tb)):PW X (.BoolOp .Or (a::b::rest) pos) (tB (kk X cm) E (pG ta tb)):=PW.wk (ZdU ha hb) λσ H Q ⟨c,F,ρ,rel,h⟩=>
 ⟨c,F,ρ,rel,h.bind fun p ρ1 v F1 H1 ě _ _ r1 h1=>by
   have e:p=v:=r1
   subst e
   cases p with
   |false=>exact⟨c,F1,ρ1,ě,h1⟩
   |true=>exact h1 true F1 H1 ě (Same.refl _) (Same.refl _) rfl⟩
def dW(ma mb:M PV):M PV:=λρ=>(ma ρ).bind λp ρ1=>match p with
 | .bl true=>mb ρ1
 | .bl false=>.ok (.bl false) ρ1
 |_=>.bad
def ZbV(ma:M PV):M PV:=λρ=>(ma ρ).bind λp ρ1=>match p with
 | .bl b=>.ok (.bl (!b)) ρ1
 |_=>.bad
def wC{K:KK}{F:Hp}{b:Bool}{v:V}(h:Rep K F (.bl b) v):v=.bl b:=by unfold Rep at h;exact h
def iz{op}(h:PE X a (tV (kk X cm) E ma)):PE X (.BoolOp op [a] pos) (tV (kk X cm) E ma):=Za6 h
def v_and(ha:PE X a (tV (kk X cm) E ma))(hb:PE X (.BoolOp .And (b::rest) pos) (tV (kk X cm) E mb)):PE X (.BoolOp .And (a::b::rest) pos) (tV (kk X cm) E (dW ma mb)):=PE.wk (ZbE ha hb) λσ H Q ⟨c,F,ρ,rel,h⟩=>
 ⟨c,F,ρ,rel,h.bind fun p ρ1 v F1 H1 ě _ _ r1 h1=>by
   cases p with
   |bl k=>
    cases wC r1
    cases k with
    |true=>exact⟨c,F1,ρ1,ě,h1⟩
    |false=>exact h1 _ F1 H1 ě (Same.refl _) (Same.refl _) r1
   |_=>exact h1.elim⟩
def v_not(ha:PE X a (tV (kk X cm) E ma)):PE X (.UnaryOp .Not a pos) (tV (kk X cm) E (ZbV ma)):=PE.wk (ZbF ha) λσ H Q ⟨c,F,ρ,rel,h⟩=>
 ⟨c,F,ρ,rel,h.bind fun p ρ1 v F1 H1 ě _ _ r1 h1=>by
   cases p with
   |bl k=>
    cases wC r1
    exact h1 _ F1 H1 ě (Same.refl _) (Same.refl _) Rep.bl
   |_=>exact h1.elim⟩
def bQ{α:Type}(t:M Bool)(ma mb:M α):M α:= λρ=>(t ρ).bind λb ρ1=>if b=true then ma ρ1 else mb ρ1
def ĕ:M (List PV):=λρ=>.ok [] ρ
def ă(ma:M PV)(mr:M (List PV)):M (List PV):=λρ=>(ma ρ).bind λp ρ1=>(mr ρ1).bind λps ρ2=>.ok (p::ps) ρ2
variable{mr:M (List PV)}
def Ě:PA X [] (tL (kk X cm) E ĕ):=PA.wk jT λσ H Q ⟨c,F,ρ,rel,h⟩=>h [] F H rel (Same.refl _) (Same.refl _) ĝ.nil
def Ć(ha:PE X e (tV (kk X cm) E ma))(hr:PA X es (tL (kk X cm) E mr))(hs:starEach (e::es) X.env=(false,eval e X.env)::starEach es X.env:=by exact bT rfl):PA X (e::es) (tL (kk X cm) E (ă ma mr)):=PA.wk (cH ha hr hs) λσ H Q ⟨c,F,ρ,rel,h⟩=>
 ⟨c,F,ρ,rel,h.bind λp ρ1 v F1 H1 ě _ _ r1 h1=>⟨c,F1,ρ1,ě,h1.bind λps ρ2 vs F2 H2 ļ sF sH r2 h2=>h2 _ F2 H2 ļ (Same.refl _) (Same.refl _) (ĝ.cons (Rep.same sF p v r1) r2)⟩⟩
def Ġ:PA X [] (Pn (kk X cm) E ĕ):=PA.wk jT λσ H Q ⟨c,F,ρ,rel,h⟩=>h [] F H rel (Same.refl _) (Same.refl _) .nil
def ė(ha:PE X e (tR (kk X cm) E ma))(hr:PA X es (Pn (kk X cm) E mr))(hs:starEach (e::es) X.env=(false,eval e X.env)::starEach es X.env:=by exact bT rfl):PA X (e::es) (Pn (kk X cm) E (ă ma mr)):=PA.wk (cH ha hr hs) λσ H Q ⟨c,F,ρ,rel,h⟩=>
 ⟨c,F,ρ,rel,h.bind λp ρ1 v F1 H1 ě _ _ r1 h1=>⟨c,F1,ρ1,ě,h1.bind λps ρ2 vs F2 H2 ļ sF sH r2 h2=>h2 _ F2 H2 ļ (Same.refl _) (Same.refl _) (.cons (rR.mono r1 sF sH) r2)⟩⟩
def ĉ:M (List Slot):=λρ=>.ok [] ρ
def Ċ(ma:M PV)(mr:M (List Slot)):M (List Slot):=λρ=>(ma ρ).bind λp ρ1=>(mr ρ1).bind λas ρ2=>.ok (.sh p::as) ρ2
def fB:Slot->Option Slot
 | .sh p=>some (.sh p)
 | .ow ps=>some (.bw ps)
 | .bw ps=>some (.bw ps)
 |_=>none
def Ă(i:Nat)(mr:M (List Slot)):M (List Slot):=λρ=>match(ρ[i]?).bind fB with
 |none=>.bad
 |some _=>(mr ρ).bind λas ρ2=>match(ρ2[i]?).bind fB with
  |some s=>.ok (s::as) ρ2
  |none=>.bad
variable{ms:M (List Slot)}
def ď:PA X [] (tA (kk X cm) E ĉ):=PA.wk jT λσ H Q ⟨c,F,ρ,rel,h⟩=>h [] F H rel (Same.refl _) (Same.refl _) .nil
def đ(ha:PE X e (tV (kk X cm) E ma))(hr:PA X es (tA (kk X cm) E ms))(hs:starEach (e::es) X.env=(false,eval e X.env)::starEach es X.env:=by exact bT rfl):PA X (e::es) (tA (kk X cm) E (Ċ ma ms)):=PA.wk (cH ha hr hs) λσ H Q ⟨c,F,ρ,rel,h⟩=>
 ⟨c,F,ρ,rel,h.bind λp ρ1 v F1 H1 ě _ _ r1 h1=>⟨c,F1,ρ1,ě,h1.bind λas ρ2 vs F2 H2 ļ sF sH r2 h2=>h2 _ F2 H2 ļ (Same.refl _) (Same.refl _) (.cons (show cQ _ _ _ (.sh p) v from Rep.same sF p v r1) r2)⟩⟩
def FP{K:KK}{c:Ctx}{F H:Hp}{σ:L2.St}{ρ:ŋ}{i:Nat}{s:Slot}(rel:Rel K c F H σ ρ)(h:(ρ[i]?).bind fB=some s):∃v,σ[i]?=some (some v)/\cQ K F H s v:=by
 cases e:ρ[i]? with
 |none=>rw[e] at h;cases h
 |some sl=>
  rw[e] at h
  have h':fB sl=some s:=h
  cases sl with
  |sh p=>
   cases h'
   obtain⟨v,h1,h2⟩:=rel.slot i _ e
   exact⟨v,at_of h1,h2⟩
  |ow ps=>
   cases h'
   obtain⟨a,vs,h1,h2,h3,h4,h5,_⟩:=rel.ow e
   exact⟨.ref a,h1,a,vs,rfl,h2,h3,h5⟩
  |bw ps=>
   cases h'
   obtain⟨a,vs,h1,h2,h3⟩:=rel.slot i _ e
   exact⟨.ref a,at_of h1,a,vs,rfl,(rel.lent a _ h2).1,(rel.lent a _ h2).2,h3⟩
  |no=>cases h'
  |rc C ns ps=>cases h'
  |ot ps qs=>cases h'
  |ol Fx=>cases h'
def QW(i:Nat){x:Str}{px:Pos}(hN:X.N[i]?=some x:=by rfl)(hv:Bp X.env.scope x:=by first|exact Or.inl rfl|exact Or.inr (Or.inl rfl)|exact Or.inr (Or.inr rfl))(hd:(x== ("__debug__" :Str))=false:=by decide)
 (hcd:(x== ("__classdict__" :Str))=false:=by decide)(hr:PA X es (tA (kk X cm) E ms))(hs:starEach (.Name x px::es) X.env=(false,eval (.Name x px) X.env)::starEach es X.env:=by exact bT rfl):PA X (.Name x px::es) (tA (kk X cm) E (Ă i ms)):=
 PA.wk (cH (fM hN hv hd hcd) hr hs) fun σ H Q ⟨c,F,ρ,rel,h⟩=>by
   unfold Ă at h
   cases e:(ρ[i]?).bind fB with
   |none=>rw[e] at h;exact h.elim
   |some s0=>
    rw[e] at h
    obtain⟨v,hv,_⟩:=FP rel e
    refine⟨v,hv,c,F,ρ,rel,aQ.bind h λas ρ2 vs F2 H2 ļ sF sH r2 h2=>?_⟩
    cases e2:(ρ2[i]?).bind fB with
    |none=>simp only[e2] at h2;exact h2.elim
    |some s=>
     simp only[e2] at h2
     obtain⟨v',hv',r1⟩:=FP ļ e2
     rw[hv] at hv'
     cases hv'
     exact h2 _ F2 H2 ļ (Same.refl _) (Same.refl _) (.cons r1 r2)
def ň(mr:M (List PV)):M PV:=λρ=>(mr ρ).bind λps ρ1=>if ps.length<=16777216 then .ok (.tup ps) ρ1 else .bad
def ū(mr:M (List PV)):M RV:=λρ=>(mr ρ).bind λps ρ1=>if ps.length<=16777216 then .ok (.ow ps) ρ1 else .bad
def Ō:sizeLine=16777216:=sizeLine_eq
def Ŀ{x1}(h:PA X es (tL (kk X cm) E mr)):PE X (.Tuple es x1 pos) (tV (kk X cm) E (ň mr)):=PE.wk (Zbr h) λσ H Q ⟨c,F,ρ,rel,h⟩=>
 ⟨c,F,ρ,rel,h.bind fun ps ρ1 vs F1 H1 ě _ _ r1 h1=>by
   split at h1
   ·rename_i hz
    refine⟨by rw[<-ĝ.length r1,Ō];exact hz,λp hp=>h1 _ _ _ (ě.alloc hp) (Same.upd (ě.sub.free hp)) (Same.upd hp) ?_⟩
    show Rep _ _ _ _
    unfold Rep
    exact⟨p,vs,rfl,dw.of ĭ,ĝ.same (Same.upd (ě.sub.free hp)) ps vs r1⟩
   ·exact h1.elim⟩
def iB{K:KK}{c:Ctx}{F H:Hp}{σ:L2.St}{ρ:ŋ}{ps:List PV}{vs:List V}{a:Addr}(rel:Rel K c F H σ ρ)(ha:H a=none)(r:ĝ K F ps vs):Rel K c F (upd H a (.lst vs)) σ ρ/\Held K c σ ρ F (upd H a (.lst vs)) ps (.ref a):=
 ⟨rel.made ha,a,vs,rfl,ĭ,rel.sub.free ha,rel.base.free ha,rel.fresh ha,r⟩
def ŏ(h:PA X es (tL (kk X cm) E mr)):PE X (.List es pos) (tO (kk X cm) E (ū mr)):=PE.wk (Zbs h) λσ H Q ⟨c,F,ρ,rel,h⟩=>
 ⟨c,F,ρ,rel,h.bind fun ps ρ1 vs F1 H1 ě _ _ r1 h1=>by
   split at h1
   ·rename_i hz
    refine⟨by rw[<-ĝ.length r1,Ō];exact hz,λp hp=>?_⟩
    obtain⟨q1,q2⟩:=iB ě hp r1
    exact h1 _ _ _ q1 (Same.refl _) (Same.upd hp) q2
   ·exact h1.elim⟩
def aM(f:List PV->Option PV)(mr:M (List PV)):M PV:=λρ=>(mr ρ).bind λps ρ1=>Res.n_ (f ps) ρ1
def iC(f:List PV->Option RV)(mr:M (List PV)):M RV:=λρ=>(mr ρ).bind λps ρ1=>Res.n_ (f ps) ρ1
def cT(K:KK)(r:List V->Hp->VK->Prop)(f:List PV->Option PV):Prop:=∀{c:Ctx} {F H:Hp} {σ:L2.St} {ρ:ŋ} {ps:List PV} {pv:PV} {vs:List V} {Q:VK},Rel K c F H σ ρ->rRL K c σ ρ F H ps vs->f ps=some pv->
 (∀z F' H',Rel K c F' H' σ ρ->Same F F'->Same H H'->Rep K F' pv z->Q z H')->r vs H Q
def Kg(K:KK)(r:List V->Hp->VK->Prop)(f:List PV->Option RV):Prop:=∀{c:Ctx} {F H:Hp} {σ:L2.St} {ρ:ŋ} {ps:List PV} {pv:RV} {vs:List V} {Q:VK},Rel K c F H σ ρ->rRL K c σ ρ F H ps vs->f ps=some pv->
 (∀z F' H',Rel K c F' H' σ ρ->Same F F'->Same H H'->rO K c σ ρ F' H' pv z->Q z H')->r vs H Q
def Zes{r:List V->Hp->VK->Prop}{f:List PV->Option PV}(hf:cT (kk X cm) r f){σ:L2.St}{H:Hp}{Q:VK}(h:tV (kk X cm) E (aM f mr) σ H Q):tCB r (Pn (kk X cm) E mr) σ H Q:=by
 obtain⟨c,F,ρ,rel,h⟩:=h
 refine⟨c,F,ρ,rel,h.bind λp ρ1 v F1 H1 ě _ _ r1 h1=>?_⟩
 cases e:f p with
 |none=>rw[e] at h1;exact h1.elim
 |some pv=>rw[e] at h1;exact hf ě r1 e λz F' H' bF s1 s2 q'=>h1 z F' H' bF s1 s2 q'
def ZgK{r:List V->Hp->VK->Prop}{f:List PV->Option RV}(hf:Kg (kk X cm) r f){σ:L2.St}{H:Hp}{Q:VK}(h:tO (kk X cm) E (iC f mr) σ H Q):tCB r (Pn (kk X cm) E mr) σ H Q:=by
 obtain⟨c,F,ρ,rel,h⟩:=h
 refine⟨c,F,ρ,rel,h.bind λp ρ1 v F1 H1 ě _ _ r1 h1=>?_⟩
 cases e:f p with
 |none=>rw[e] at h1;exact h1.elim
 |some pv=>rw[e] at h1;exact hf ě r1 e λz F' H' bF s1 s2 q'=>h1 z F' H' bF s1 s2 q'
end
end P
namespace P
open PySem PySem.Spec PyProof.Rows L2 M2 M3
def cj:M Fl:=λρ=>.ok .nx ρ
def Ė(a b:M Fl):M Fl:=λρ=>(a ρ).bind λf ρ1=>match f with
 | .nx=>b ρ1
 |f=>.ok f ρ1
def ġ(i:Nat)(m:M RV):M Fl:=λρ=>(m ρ).bind λr ρ1=>.ok .nx (ρ1.set i r.slot)
def Ģ(m:M RV):M Fl:=λρ=>(m ρ).bind λr ρ1=>.ok (.rt r) ρ1
def zA(m:M PV):M Fl:=λρ=>(m ρ).bind λ_ ρ1=>.ok .nx ρ1
section
variable{X:Cx}{cm:String->Addr}{E:L2.St->XK}{a b e:Expr}{st:Stmt}{rest:List Stmt}{es:List Expr}{pos:Pos}{m1 m2:M Fl}{mo:M RV}{mv:M PV}
def Ĭ:jw X [] (tS (kk X cm) E cj):=jw.wk P_ λD σ H ⟨c,F,ρ,rel,h⟩=>h σ F H rel (Same.refl F)
def ĥ(h:PS X st (tS (kk X cm) E m1)):jw X [st] (tS (kk X cm) E m1):=Qa h
def QX{c:Ctx}{F:Hp}{D:Ends}{r:Res Fl}(h:Ż (kk X cm) E c F D (r.bind λf ρ1=>match f with| .nx=>m2 ρ1|f=>.ok f ρ1)):Ż (kk X cm) E c F {D with nx:=tS (kk X cm) E m2 D} r:=by
 cases r with
 |ok f ρ1=>
  cases f with
  |nx=>exact λσ' F' H' bF s=>⟨c,F',ρ1,bF,Ż.mono h s⟩
  |bk=>exact h
  |ct=>exact h
  |rt v=>exact h
 |exc x ρ1=>exact h
 |bad=>exact h
def ē(h1:PS X st (tS (kk X cm) E m1))(h2:jw X rest (tS (kk X cm) E m2)):jw X (st::rest) (tS (kk X cm) E (Ė m1 m2)):=jw.wk (IW h1 h2) λD σ H ⟨c,F,ρ,rel,h⟩=>⟨c,F,ρ,rel,QX h⟩
def Zet{i:Nat}{x:Str}{pos':Pos}(hN:X.N.Nodup)(hi:X.N[i]?=some x)(hx:Loc X.env.scope x)(he:PE X e (tO (kk X cm) E mo))(hs:swapsWith e (some (.Name x pos')) pos.line X.env=pure false:=by rfl)(hf:X.fn x=true\/X.env.scope.names.lookup x=some .local:=by first|exact .inl rfl|exact .inr rfl|assumption) :
 PS X (.Assign [.Name x pos'] e pos) (tS (kk X cm) E (ġ i mo)):=PS.wk (Zba hN hi hx he hs hf) λD σ H ⟨c,F,ρ,rel,h⟩=>⟨c,F,ρ,rel,Ż.bind h λr ρ1 v F1 H1 ě s1 q h1=>by
 cases r with
 |sh p=>exact h1 _ F1 H1 (ě.put rfl ⟨v,rfl,q⟩) (Same.refl _)
 |ow ps=>
  obtain⟨a,vs,rfl,q1,q2,q3,q4,q5⟩:=q
  exact h1 _ F1 H1 (ě.QT ⟨a,vs,rfl,q1,q2,q3,q5⟩ λ_ z=>V.ref.inj z▸q4) (Same.refl _)
 |ot ps qs=>
  obtain⟨p,a,xs,vs,rfl,q0,qx,q1,q2,q3,q4,q5⟩:=q
  exact h1 _ F1 H1 (ě.QT (s:=.ot ps qs) ⟨p,a,xs,vs,rfl,q0,qx,q1,q2,q3,q5⟩ λ_ z=>qe (ps:=ps) (qs:=qs) z ⟨p,xs,rfl,q0⟩▸q4) (Same.refl _)⟩
def Zeu(he:PE X e (tO (kk X cm) E mo)):PS X (.Return (some e) pos) (tS (kk X cm) E (Ģ mo)):=PS.wk (Za7 he) λD σ H ⟨c,F,ρ,rel,h⟩=>⟨c,F,ρ,rel,Ż.bind h λr ρ1 v F1 H1 ě s1 q h1=>h1 v σ F1 H1 ě (Same.refl _) q⟩
def Cj(he:PE X e (tV (kk X cm) E mv))(hs:swapsWith e none pos.line X.env=pure false:=by rfl):PS X (.Expr e pos) (tS (kk X cm) E (zA mv)):=PS.wk (aU he hs) λD σ H ⟨c,F,ρ,rel,h⟩=>⟨c,F,ρ,rel,Ż.bind h λr ρ1 v F1 H1 ě s1 q h1=>h1 σ F1 H1 ě (Same.refl _)⟩
def œ{t:M Bool}{ss ss':List Stmt}(hc:PT X a (tB (kk X cm) E t))(ha:jw X ss (tS (kk X cm) E m1))(hb:jw X ss' (tS (kk X cm) E m2)):PS X (.If a ss ss' pos) (tS (kk X cm) E (bQ t m1 m2)):=PS.wk (ZdW hc ha hb) λD σ H ⟨c,F,ρ,rel,h⟩=>⟨c,F,ρ,rel,Ż.bind h λr ρ1 v F1 H1 ě s1 q h1=>by
 have e:r=v:=q
 subst e
 cases r with
 |true=>exact⟨c,F1,ρ1,ě,h1⟩
 |false=>exact⟨c,F1,ρ1,ě,h1⟩⟩
def HF{α:Type}:M α:= λ_=>.bad
def qg:PS X st (tS (kk X cm) E HF):=PS.wk Ja λD σ H ⟨c,F,ρ,rel,h⟩=>h
abbrev Tg:=PV->ŋ->Option ŋ
abbrev Io:=List PV->ŋ->Option ŋ
def Zev(K:KK)(c:Ctx)(F H:Hp)(Q:L2.St->Hp->Prop):Option ŋ->Prop
 |some ρ'=>∀σ',Rel K c F H σ' ρ'->Q σ' H
 |none=>False
def tT(K:KK)(g:Tg):TG:=λv σ H Q=>∃c F ρ p,Rel K c F H σ ρ/\Rep K F p v/\Zev K c F H Q (g p ρ)
def tTs(K:KK)(g:Io):Jb:=λv σ H Q=>∃c F ρ p,Rel K c F H σ ρ/\ĝ K F p v/\Zev K c F H Q (g p ρ)
def gN(i:Nat):Tg:=λp ρ=>some (ρ.set i (.sh p))
def Ĳ:Io:=λps ρ=>match ps with
 | []=>some ρ
 |_=>none
def Đ(g:Tg)(gs:Io):Io:=λps ρ=>match ps with
 |p::ps=>(g p ρ).bind λρ1=>gs ps ρ1
 | []=>none
def gT(n:Nat)(gs:Io):Tg:=λp ρ=>match p with
 | .tup ps=>if ps.length=n then gs ps ρ else none
 |_=>none
def PG.wk'{tg:Expr}{t t':TG}(h:PG X tg t)(i:∀v σ H Q,t' v σ H Q->t v σ H Q):PG X tg t':=λpins s σ H v u Q I r q=>h pins s σ H v u Q I r (i v σ H Q q)
def Bl.wk{tg:List Expr}{t t':Jb}(h:Bl X tg t)(i:∀v σ H Q,t' v σ H Q->t v σ H Q):Bl X tg t':=λpins s σ H v u Q I r q=>h pins s σ H v u Q I r (i v σ H Q q)
def Kh{i:Nat}{x:Str}(hN:X.N.Nodup)(hi:X.N[i]?=some x)(hx:Loc X.env.scope x)(hf:X.fn x=true\/X.env.scope.names.lookup x=some .local:=by first|exact .inl rfl|exact .inr rfl|assumption):PG X (.Name x pos) (tT (kk X cm) (gN i)):=
 PG.wk' (Qc hN hi hx hf) λv σ H Q ⟨c,F,ρ,p,rel,rp,h⟩=>h _ (rel.put rfl ⟨v,rfl,rp⟩)
def Š:Bl X [] (tTs (kk X cm) Ĳ):=Bl.wk Qd λv σ H Q ⟨c,F,ρ,p,rel,rp,h⟩=>by
 cases p with
 |nil=>
  have e:v=[]:=by have:=rp;unfold ĝ at this;exact this
  exact⟨e,h σ rel⟩
 |cons _ _=>exact h.elim
def ğ{es:List Expr}{g:Tg}{gs:Io}(h1:PG X e (tT (kk X cm) g))(h2:Bl X es (tTs (kk X cm) gs))(hs:(assignEach (e::es) X.env).map (·.2)=assign e X.env::(assignEach es X.env).map (·.2):=by rfl):Bl X (e::es) (tTs (kk X cm) (Đ g gs)):=
 Bl.wk (Jc h1 h2 hs) λv σ H Q ⟨c,F,ρ,p,rel,rp,h⟩=>by
  cases p with
  |nil=>exact h.elim
  |cons p ps=>
   unfold ĝ at rp
   obtain⟨x,r,rfl,r1,r2⟩:=rp
   refine⟨x,r,rfl,c,F,ρ,p,rel,r1,?_⟩
   unfold Đ at h
   dsimp only at h
   cases eg:g p ρ with
   |none=>rw[eg] at h;exact h.elim
   |some ρ1=>rw[eg] at h;exact λσ' bF=>⟨c,F,ρ1,ps,bF,r2,h⟩
def bU{es:List Expr}{k:Nat}{gs:Io}{n:Nat}(hc:X.calm=true)(h:Bl X es (tTs (kk X cm) gs))(hn:(assignEach es X.env).length=n:=by rfl)(hst:(assignEach es X.env).findIdx? (·.1)=none:=by rfl):PG X (.Tuple es k pos) (tT (kk X cm) (gT n gs)):=
 PG.wk' (Jd hc h hn hst) fun v σ H Q ⟨c,F,ρ,p,rel,rp,h⟩=>by
   cases p with
   |tup ps=>
    unfold Rep at rp
    obtain⟨a,xs,h1,h2,h3⟩:=rp
    unfold gT at h
    dsimp only at h
    split at h
    ·rename_i hl
     exact⟨a,xs,h1,Same.tup rel.sub h2,by rw[<-h3.length];exact hl,c,F,ρ,ps,rel,h3,h⟩
    ·exact h.elim
   |_=>exact h.elim
def Ck(g:Tg)(m:M PV):M Fl:=λρ=>(m ρ).bind λp ρ1=>match g p ρ1 with
 |some ρ2=>.ok .nx ρ2
 |none=>.bad
def zB{tg:Expr}{g:Tg}(he:PE X e (tV (kk X cm) E mv))(hg:PG X tg (tT (kk X cm) g))(hs:swapsWithSole [tg] e pos.line X.env=pure false:=by rfl)(hw:swappedStores [tg] e X.env=pure none:=by rfl)
 (h1:(assignEach [tg] X.env).map (·.2)=[assign tg X.env]:=by rfl):PS X (.Assign [tg] e pos) (tS (kk X cm) E (Ck g mv)):=PS.wk (Je he hg hs hw h1) λD σ H ⟨c,F,ρ,rel,h⟩=>⟨c,F,ρ,rel,Ż.bind h λr ρ1 v F1 H1 ě s1 q h1=>by
 refine⟨c,F1,ρ1,r,ě,q,?_⟩
 cases eg:g r ρ1 with
 |none=>rw[eg] at h1;exact h1.elim
 |some ρ2=>rw[eg] at h1;exact λσ' bF=>h1 σ' F1 H1 bF (Same.refl _)⟩
def Cm(i:Nat)(mi:M PV)(m:M PV):M Fl:=λρ=>(m ρ).bind λp ρ1=>match ρ1[i]? with
 |some (.ow _)=>(mi ρ1).bind λq ρ2=>match ρ2[i]?,q with
  |some (.ow ps),.int k=>match BZ ps.length k with
   |some j=>.ok .nx (ρ2.set i (.ow (ps.set j p)))
   |none=>.bad
  |_,_=>.bad
 |_=>.bad
def QZ{i:Nat}{x:Str}{ix:Expr}{mi:M PV}{px Cp:Pos}(he:PE X e (tV (kk X cm) E mv))(hi:PE X ix (tV (kk X cm) E mi))(ho:PE X (.Name x px) (Bq i))
 (hsub:∀v,assign (.Subscript (.Name x px) ix Cp) X.env v=(do
   let ov <-holding [v] (eval (.Name x px) X.env)
   let iv <-holding [v,ov] (eval ix X.env)
   standAt Cp
   holding [v,ov,iv] (setItem ov iv v)
   release [v,ov,iv] []):=by intro _;rfl)
 (hs:swapsWithSole [.Subscript (.Name x px) ix Cp] e pos.line X.env=pure false:=by rfl)(hw:swappedStores [.Subscript (.Name x px) ix Cp] e X.env=pure none:=by rfl)
 (h1:(assignEach [.Subscript (.Name x px) ix Cp] X.env).map (·.2)=[assign (.Subscript (.Name x px) ix Cp) X.env]:=by rfl) :
 PS X (.Assign [.Subscript (.Name x px) ix Cp] e pos) (tS (kk X cm) E (Cm i mi mv)):=PS.wk (Je he (Za_ ho hi set_list hsub) hs hw h1) λD σ H ⟨c,F,ρ,rel,h⟩=>⟨c,F,ρ,rel,Ż.bind h λp ρ1 v F1 H1 ě s1 q h1=>by
 cases e1:ρ1[i]? with
 |none=>rw[e1] at h1;exact h1.elim
 |some sl=>
  rw[e1] at h1
  cases sl with
  |ow ps0=>
   obtain⟨a,vs0,z1,_,_,_,_,_⟩:=ě.ow e1
   refine⟨.ref a,z1,c,F1,ρ1,ě,Ż.bind h1 λq' ρ2 u F2 H2 ļ s2 r2 h2=>?_⟩
   cases e2:ρ2[i]? with
   |none=>rw[e2] at h2;exact h2.elim
   |some sl2=>
    rw[e2] at h2
    cases sl2 with
    |ow ps=>
     cases q' with
     |int k=>
      have eu:u=.int k:=by have:Rep (kk X cm) F2 (.int k) u:=r2;unfold Rep at this;exact this
      subst eu
      dsimp only at h2
      obtain⟨a2,vs,w1,w2,w3,w4,w5,w6⟩:=ļ.ow e2
      rw[z1] at w1
      cases w1
      cases ej:BZ ps.length k with
      |none=>rw[ej] at h2;exact h2.elim
      |some j=>
       rw[ej] at h2
       refine⟨a,vs,k,j,rfl,rfl,w2,by rw[<-w5.length];exact ej,h2 σ F2 _ (ļ.write w6 z1 ⟨a,vs.set j v,rfl,ĭ,w3,w4,?_⟩ λ_ z=>(V.ref.inj z).symm) (Same.refl _)⟩
       exact ĝ.of (Ka (Rep.same s2 p v q) j w5.pr)
     |_=>exact h2.elim
    |_=>exact h2.elim
  |_=>exact h1.elim⟩
def pH(i:Nat)(m:M PV):M Fl:=λρ=>match ρ[i]? with
 |some (.ow _)=>(m ρ).bind λp ρ1=>match ρ1[i]? with
  |some (.ow ps)=>if ps.length<16777216 then .ok .nx (ρ1.set i (.ow (ps ++ [p]))) else .bad
  |_=>.bad
 |_=>.bad
def dD{i:Nat}{D:Ends}{σ:L2.St}{H:Hp}(h:tS (kk X cm) E (pH i mv) D σ H):I_ (tBM X.K "list" Fj (Bq i) (tL (kk X cm) E (ă mv ĕ))) D σ H:=by
 obtain⟨c,F,ρ,rel,h⟩:=h
 unfold pH at h
 cases e1:ρ[i]? with
 |none=>rw[e1] at h;exact h.elim
 |some sl=>
  rw[e1] at h
  cases sl with
  |ow ps0=>
   obtain⟨a,vs0,z1,z2,z3,z4,z5,z6⟩:=rel.ow e1
   refine⟨.ref a,z1,.inl ⟨rfl,_,ų.of z2⟩,c,F,ρ,rel,?_⟩
   dsimp only at h
   unfold ă
   cases em:mv ρ with
   |bad=>rw[em] at h;exact h
   |exc x ρ1=>rw[em] at h;exact λC d F' H' bF s1 q=>h σ C d F' H' bF s1 q
   |ok p ρ1=>
    rw[em] at h
    intro us F1 H1 ě s1 s2 r1
    have r1':ĝ (kk X cm) F1 [p] us:=r1
    cases r1'.pr with
    |cons rp t=>
     rename_i v vs'
     cases t
     cases e2:ρ1[i]? with
     |none=>simp only[Res.aV,e2] at h;exact h.elim
     |some sl2=>
      simp only[Res.aV,e2] at h
      cases sl2 with
      |ow ps=>
       obtain⟨a2,vs,w1,w2,w3,w4,w5,w6⟩:=ě.ow e2
       rw[z1] at w1
       cases w1
       dsimp only at h
       split at h
       ·rename_i hz
        refine⟨a,vs,v,rfl,rfl,w2,by rw[<-w5.length,Ō];exact hz,h σ F1 _ (ě.write w6 z1 ⟨a,vs ++ [v],rfl,ĭ,w3,w4,ĝ.append w5 (ĝ.cons rp ĝ.nil)⟩ λ_ z=>(V.ref.inj z).symm) s1⟩
       ·exact h.elim
      |_=>exact h.elim
  |_=>exact h.elim
def Ĺ(mc:M Bool)(mb:M Fl):Nat->ŋ->Res Fl
 |0,_=>.bad
 |n+1,ρ=>(mc ρ).bind λb ρ1=>if b=true then(mb ρ1).bind λf ρ2=>match f with
  | .nx=>Ĺ mc mb n ρ2
  | .ct=>Ĺ mc mb n ρ2
  | .bk=>.ok .nx ρ2
  | .rt r=>.ok (.rt r) ρ2 else .ok .nx ρ1
theorem Ž{mc:M Bool}{mb:M Fl}(n:Nat)(ρ:ŋ):Ĺ mc mb (n+1) ρ=(mc ρ).bind λb ρ1=>if b=true then(mb ρ1).bind λf ρ2=>match f with
 | .nx=>Ĺ mc mb n ρ2
 | .ct=>Ĺ mc mb n ρ2
 | .bk=>.ok .nx ρ2
 | .rt r=>.ok (.rt r) ρ2 else .ok .nx ρ1:=rfl
open Classical in
noncomputable def ž(mc:M Bool)(mb:M Fl):M Fl:=λρ=>if h:∃n,Ĺ mc mb n ρ≠ .bad then Ĺ mc mb (Classical.choose h) ρ else .bad
theorem iD{mc:M Bool}{mb:M Fl}:∀(n:Nat) (ρ:ŋ),Ĺ mc mb n ρ≠ .bad->Ĺ mc mb (n+1) ρ=Ĺ mc mb n ρ
 |0,ρ,h=>absurd rfl h
 |n+1,ρ,h=>by
  rw[Ž] at h
  rw[Ž (n+1),Ž n]
  cases e:mc ρ with
  |bad=>rfl
  |exc x ρ1=>rfl
  |ok b ρ1=>
   rw[e] at h
   simp only[Res.aV] at h ⊢
   cases b with
   |false=>rfl
   |true=>
    simp only[if_true] at h ⊢
    cases e2:mb ρ1 with
    |bad=>rfl
    |exc x ρ2=>rfl
    |ok f ρ2=>
     rw[e2] at h
     simp only[Res.aV] at h ⊢
     cases f with
     |nx=>exact iD n ρ2 h
     |ct=>exact iD n ρ2 h
     |bk=>rfl
     |rt r=>rfl
def uQ{mc:M Bool}{mb:M Fl}{n m:Nat}{ρ:ŋ}(h:Ĺ mc mb n ρ≠ .bad)(hm:n<=m):Ĺ mc mb m ρ=Ĺ mc mb n ρ:= by
 induction hm with
 |refl=>rfl
 |step _ ih=>rw[iD _ _ (by rw[ih];exact h),ih]
def ſ{mc:M Bool}{mb:M Fl}{ρ:ŋ}(n:Nat)(h:Ĺ mc mb n ρ≠ .bad):ž mc mb ρ=Ĺ mc mb n ρ:= by
 unfold ž
 have hx:∃n,Ĺ mc mb n ρ≠ .bad:=⟨n,h⟩
 rw[dif_pos hx]
 have hc:=Classical.choose_spec hx
 rcases Nat.le_total n (Classical.choose hx) with hle|hle
 ·exact uQ h hle
 ·exact(uQ hc hle).symm
theorem iG{mc:M Bool}{mb:M Fl}{ρ:ŋ}:ž mc mb ρ=(mc ρ).bind λb ρ1=>if b=true then(mb ρ1).bind λf ρ2=>match f with
 | .nx=>ž mc mb ρ2
 | .ct=>ž mc mb ρ2
 | .bk=>.ok .nx ρ2
 | .rt r=>.ok (.rt r) ρ2 else .ok .nx ρ1:=by
 have go:∀ρ2,ž mc mb ρ2=.bad\/∃n,ž mc mb ρ2=Ĺ mc mb n ρ2/\Ĺ mc mb n ρ2≠ .bad:=λρ2=>by
  by_cases hx:∃n,Ĺ mc mb n ρ2≠ .bad
  ·obtain⟨n,h⟩:=hx
   exact .inr ⟨n,ſ n h,h⟩
  ·left;unfold ž;rw[dif_neg hx]
 have ZgL:∀ρ2,ž mc mb ρ2=.bad->∀n,Ĺ mc mb n ρ2=.bad:=λρ2 h n=>by
  refine Classical.byContradiction λz=>?_
  rw[ſ n z] at h
  exact z h
 have fin:∀n,Ĺ mc mb (n+1) ρ≠ .bad->ž mc mb ρ=Ĺ mc mb (n+1) ρ:= λn h=>ſ _ h
 cases e:mc ρ with
 |bad=>rcases go ρ with h|⟨n,h1,h2⟩
       ·rw[h];rfl
       ·cases n with
        |zero=>exact absurd rfl h2
        |succ n=>rw[Ž,e] at h2;exact absurd rfl h2
 |exc x ρ1=>
  have h:Ĺ mc mb 1 ρ=.exc x ρ1:=by rw[Ž,e];rfl
  rw[ſ 1 (by rw[h];intro z;cases z),h];rfl
 |ok b ρ1=>
  simp only[Res.aV]
  cases b with
  |false=>
   have h:Ĺ mc mb 1 ρ=.ok .nx ρ1:=by rw[Ž,e];rfl
   rw[ſ 1 (by rw[h];intro z;cases z),h];rfl
  |true=>
   simp only[if_true]
   have one:∀n,Ĺ mc mb (n+1) ρ=(mb ρ1).bind λf ρ2=>match f with
    | .nx=>Ĺ mc mb n ρ2
    | .ct=>Ĺ mc mb n ρ2
    | .bk=>.ok .nx ρ2
    | .rt r=>.ok (.rt r) ρ2:=λn=>by rw[Ž,e];rfl
   cases e2:mb ρ1 with
   |bad=>
    rcases go ρ with h|⟨n,h1,h2⟩
    ·rw[h];rfl
    ·cases n with
     |zero=>exact absurd rfl h2
     |succ n=>rw[one,e2] at h2;exact absurd rfl h2
   |exc x ρ2=>
    have h:Ĺ mc mb 1 ρ=.exc x ρ2:=by rw[one,e2];rfl
    rw[ſ 1 (by rw[h];intro z;cases z),h];rfl
   |ok f ρ2=>
    have turn:(∀n,Ĺ mc mb (n+1) ρ=Ĺ mc mb n ρ2)->ž mc mb ρ=ž mc mb ρ2:=λhn=>by
     rcases go ρ2 with h|⟨n,h1,h2⟩
     ·rcases go ρ with h'|⟨n,h1,h2⟩
      ·rw[h,h']
      ·cases n with
       |zero=>exact absurd rfl h2
       |succ n=>rw[hn,ZgL ρ2 h n] at h2;exact absurd rfl h2
     ·rw[h1,<-hn n]
      exact fin n (by rw[hn n];exact h2)
    cases f with
    |nx=>exact turn λn=>by rw[one,e2];rfl
    |ct=>exact turn λn=>by rw[one,e2];rfl
    |bk=>
     have h:Ĺ mc mb 1 ρ=.ok .nx ρ2:=by rw[one,e2];rfl
     rw[ſ 1 (by rw[h];intro z;cases z),h];rfl
    |rt r=>
     have h:Ĺ mc mb 1 ρ=.ok (.rt r) ρ2:=by rw[one,e2];rfl
     rw[ſ 1 (by rw[h];intro z;cases z),h];rfl
def Q_{c:Expr}{body:List Stmt}{mc:M Bool}{mb:M Fl}(hp:PassesOwn (model X.prog X.w) X.A X.env X.xe)(hc:PT X c (tB (kk X cm) E mc))(hb:jw X body (tS (kk X cm) E mb)):PS X (.While c body [] pos) (tS (kk X cm) E (ž mc mb)):=PS.wk (Jf hp hc hb) λD σ H ⟨c,F,ρ,rel,h⟩=>by
 obtain⟨n,hn⟩:∃n,Ż (kk X cm) E c F D (Ĺ mc mb n ρ):=by
  by_cases hx:∃n,Ĺ mc mb n ρ≠ .bad
  ·obtain⟨n,hn⟩:=hx
   rw[ſ n hn] at h
   exact⟨n,h⟩
  ·unfold ž at h
   rw[dif_neg hx] at h
   exact h.elim
 refine⟨λm σ' H'=>∃F2 ρ2,Rel (kk X cm) c F2 H' σ' ρ2/\Same F F2/\Ż (kk X cm) E c F2 D (Ĺ mc mb m ρ2),⟨n,F,ρ,rel,Same.refl _,hn⟩,?_⟩
 rintro m σ1 H1 ⟨F1,ρ1,ě,s1,h1⟩
 cases m with
 |zero=>exact h1.elim
 |succ m=>
  rw[Ž] at h1
  refine⟨c,F1,ρ1,ě,Ż.bind h1 λk ρ2 v F2 H2 ļ s2 q h2=>?_⟩
  have e:k=v:=q
  subst e
  cases k with
  |false=>
   rw[if_neg Bool.false_ne_true]
   rw[if_neg Bool.false_ne_true] at h2
   exact h2 σ1 F2 H2 ļ (Same.refl _)
  |true=>
   rw[if_pos rfl]
   rw[if_pos rfl] at h2
   refine⟨_,λσ' H' z=>z,c,F2,ρ2,ļ,?_⟩
   have nxt:∀{ρ3:ŋ},Ż (kk X cm) E c F2 D (Ĺ mc mb m ρ3)->∀σ' F' H',Rel (kk X cm) c F' H' σ' ρ3->Same F2 F'->∃m',m'<m+1/\∃F2 ρ2,Rel (kk X cm) c F2 H' σ' ρ2/\Same F F2/\Ż (kk X cm) E c F2 D (Ĺ mc mb m' ρ2):=
    fun{ρ3} h3 σ' F' H' bF s'=>⟨m,Nat.lt_succ_self m,F',ρ3,bF,(s1.trans s2).trans s',Ż.mono h3 s'⟩
   cases e2:mb ρ2 with
   |bad=>rw[e2] at h2;exact h2
   |exc x ρ3=>rw[e2] at h2;exact h2
   |ok f ρ3=>
    rw[e2] at h2
    cases f with
    |nx=>exact nxt h2
    |ct=>exact nxt h2
    |bk=>exact h2
    |rt r=>exact h2
def fW(K:KK)(Lh F:Hp)(J:It)(items:List PV):Prop:=∀(c:Ctx) (i:Nat) (F2 H:Hp) (σ:L2.St) (ρ:ŋ),Rel K c F2 H σ ρ->Same F F2->Same Lh H->
 (∀p,items[i]?=some p->J.go i H/\∀x H',J.yld i H x H'->∃F3,Rel K c F3 H' σ ρ/\Same F2 F3/\Same H H'/\Rep K F3 p x)/\(i=items.length->J.stop i H)
def rIt(K:KK):RR (List PV) It:=λc _ _ F _ items J=>fW K c.L F J items
abbrev tI(K:KK)(E:L2.St->XK)(m:M (List PV)):TI:=tG K E (rIt K) m
def forL(g:Tg)(mb:M Fl):List PV->M Fl
 | [],ρ=>.ok .nx ρ
 |p::ps,ρ=>match g p ρ with
  |none=>.bad
  |some ρ1=>(mb ρ1).bind λf ρ2=>match f with
   | .nx=>forL g mb ps ρ2
   | .ct=>forL g mb ps ρ2
   | .bk=>.ok .nx ρ2
   | .rt r=>.ok (.rt r) ρ2
def aR(mi:M (List PV))(g:Tg)(mb:M Fl):M Fl:=λρ=>(mi ρ).bind λitems ρ1=>forL g mb items ρ1
def Ŧ{iter tg:Expr}{body:List Stmt}{mi:M (List PV)}{g:Tg}{mb:M Fl}(hp:PassesOwn (model X.prog X.w) X.A X.env X.xe)(hc:X.calm=true)(hi:PI X tg iter (tI (kk X cm) E mi))(hg:PG X tg (tT (kk X cm) g))(hb:jw X body (tS (kk X cm) E mb))
 (hs:∀x,foldedSetIterable iter X.env x=pure x:=by intro _;rfl):PS X (.For tg iter body [] pos) (tS (kk X cm) E (aR mi g mb)):=PS.wk (Zbd hp hc hi hg hb hs) λD σ H ⟨c,F,ρ,rel,h⟩=>⟨c,F,ρ,rel,Ż.bind h λitems ρ1 J F1 H1 ě s1 ito h1=>by
 refine⟨λi m σ' H'=>∃F2 ρ2,i<=items.length/\m=items.length-i/\Rel (kk X cm) c F2 H' σ' ρ2/\Same F1 F2/\Ż (kk X cm) E c F2 D (forL g mb (items.drop i) ρ2),⟨_,F1,ρ1,Nat.zero_le _,rfl,ě,Same.refl _,h1⟩,?_⟩
 rintro i m σ2 H2 ⟨F2,ρ2,hle,rfl,ļ,s2,h2⟩
 obtain⟨go,stop⟩:=ito c i F2 H2 σ2 ρ2 ļ s2 λb u e=>(ļ.lent b u e).1
 by_cases hlt:i<items.length
 ·obtain⟨g1,g2⟩:=go items[i] (List.getElem?_eq_getElem hlt)
  rw[List.drop_eq_getElem_cons hlt] at h2
  unfold forL at h2
  refine .inr ⟨g1,_,λσ' H' z=>z,λx H3 hy=>?_⟩
  obtain⟨F3,lu,s3,_,rp⟩:=g2 x H3 hy
  refine⟨c,F3,ρ2,items[i],lu,rp,?_⟩
  cases eg:g items[i] ρ2 with
  |none=>rw[eg] at h2;exact h2.elim
  |some ρ3=>
   rw[eg] at h2
   dsimp only at h2
   intro σ4 zy
   refine⟨c,F3,ρ3,zy,?_⟩
   have nxt:∀{ρ4:ŋ},Ż (kk X cm) E c F2 D (forL g mb (items.drop (i+1)) ρ4)->∀σ' F' H',Rel (kk X cm) c F' H' σ' ρ4->Same F3 F'->∃m',m'<items.length-i/\∃F2 ρ2,i+1<=items.length/\m'=items.length-(i+1)/\Rel (kk X cm) c F2 H' σ' ρ2/\Same F1 F2/\Ż (kk X cm) E c F2 D (forL g mb (items.drop (i+1)) ρ2):=
    fun{ρ4} h3 σ' F' H' bF s'=>⟨items.length-(i+1),by omega,F',ρ4,hlt,rfl,bF,(s2.trans s3).trans s',Ż.mono h3 (s3.trans s')⟩
   have h2':=Ż.mono h2 s3
   cases e2:mb ρ3 with
   |bad=>rw[e2] at h2;exact h2
   |exc x ρ4=>rw[e2] at h2';exact h2'
   |ok f ρ4=>
    rw[e2] at h2 h2'
    cases f with
    |nx=>exact nxt h2
    |ct=>exact nxt h2
    |bk=>exact h2'
    |rt r=>exact h2'
 ·have e:i=items.length:=by omega
  refine .inl ⟨stop e,?_⟩
  rw[List.drop_eq_nil_of_le (by omega)] at h2
  unfold forL at h2
  exact h2 σ2 F2 H2 ļ (Same.refl _)⟩
end
end P
namespace P
open PySem PySem.Spec PyProof.Rows L2 M2 M3
inductive FR where
 |ret (r:RV)|exc (x:PX)|bad
abbrev MF:=List Slot->FR
def FR.of:Res Fl->FR
 | .ok (.rt r) _=>.ret r
 | .ok .nx _=>.ret (.sh .non)
 | .exc x _=>.exc x
 |_=>.bad
def Į(n k:Nat)(mb:M Fl):MF:=λas=>if as.length=n then FR.of (mb (startP k as)) else .bad
def rF(K:KK)(H F' H':Hp):RV->V->Prop
 | .sh p,v=>Rep K F' p v
 | .ow ps,v=>∃a vs,v=.ref a/\H' a=some (.lst vs)/\F' a=none/\H a=none/\ĝ K F' ps vs
 | .ot ps qs,v=>∃p a xs vs,v=.ref p/\F' p=some (.tup (xs ++ [.ref a]))/\ĝ K F' ps xs/\H' a=some (.lst vs)/\F' a=none/\H a=none/\ĝ K F' qs vs
def ZgM(K:KK)(E:XK)(F H:Hp)(Q:VK):FR->Prop
 | .ret r=>∀v F' H',Gr F H F' H'->rF K H F' H' r v->Q v H'
 | .exc x=>∀C d F' H',Gr F H F' H'->QV K F' x C d->E C d H'
 | .bad=>False
def Ŗ(K:KK)(n:Nat)(mf:MF):Sp:=λvs H Q E=>∃F as,as.length=n/\Same F H/\Paired (cQ K F H) as vs/\ZgM K E F H Q (mf as)
def fX(CX:mY)(X:Cx)(E:L2.St->XK):Prop:=∀(pins:List (Addr×Obj)) (σ:L2.St) (H:Hp) (s:Shared) (e:Value) (s':Shared),Inv X pins σ H s->CX X.stack H s (E σ) e s'->X.xe e s'
def Ď{X:Cx}{E:L2.St->XK}:fX Ş X E:=λ_ _ _ _ _ _ _ h=>h.elim
section
variable{P:Program}{w:World}{K:PySem.W.Frag}{cm:String->Addr}{mg:Str->Option Value}{base:Heap}{CX:mY}
def fnP{x qual:Str}{st:Stmt}{f:Addr}{fd:FuncData}{N ps:List Str}{k:Nat}{mb:M Fl}(F:Jw K x qual st f fd)(S:Ē N ps (ć st))
 (hbody:∀(cdv:Value) (A:Around) (outer:List Env) (s:Shared) (H:Hp) (E:XK),ű k (A.deeper (envOfC qual (ć st) s.heap.objs.size f cdv))→
   jw (qD CX P w K mg base N qual (ć st) f cdv A outer s H E) (Ņ st) (tS ⟨K,cm⟩ (λ_=>E) mb)):Ħ P w K mg base CX (k+1) f fd ps (Ŗ ⟨K,cm⟩ ps.length (Į ps.length N.length mb)):=by
 obtain⟨oc,od,kV,doc,pm,an,cdv,ct,osl,rfl,lk,hcd⟩:=F.ex
 refine Fe lk hcd S (λvs H Q E ⟨F,ps',h1,_,h2,_⟩=>by rw[<-Paired.length h2];exact h1) λA outer s H vs Q E hr hsp=>?_
 obtain⟨F,ps',h1,h2,h3,h4⟩:=hsp
 refine⟨_,hbody cdv A outer s H E hr,ctx0 F H,F,startP N.length ps',Rel.start h2 h3,?_⟩
 unfold Į at h4
 rw[if_pos h1] at h4
 cases e:mb (startP N.length ps') with
 |bad=>rw[e] at h4;exact h4
 |exc x ρ'=>rw[e] at h4;exact λσ' C d F' H' rel s1 q=>h4 C d F' H' rel.gr q
 |ok fl ρ'=>
  rw[e] at h4
  cases fl with
  |nx=>exact λσ' F' H' rel s1=>h4 .non F' H' rel.gr (Rep.non (K:=⟨K,cm⟩) (F:=F'))
  |bk=>exact h4.elim
  |ct=>exact h4.elim
  |rt r=>
   intro v σ' F' H' rel s1 q
   refine h4 v F' H' rel.gr ?_
   cases r with
   |sh p=>exact q
   |ow qs=>
    obtain⟨a,vs',e1,e2,e3,e4,_,e5⟩:=q
    exact⟨a,vs',e1,e2,e3,e4,e5⟩
   |ot qs ts=>
    obtain⟨p,a,xs,vs',e1,e0,ex,e2,e3,e4,_,e5⟩:=q
    exact⟨p,a,xs,vs',e1,e0,ex,e2,e3,e4,e5⟩
def fnQ{x qual:Str}{st:Stmt}{f:Addr}{fd:FuncData}{N ps:List Str}{k n j:Nat}{mb:M Fl}{mf:MF}(F:Jw K x qual st f fd)(S:Ē N ps (ć st))(hn:ps.length=n)(hj:N.length=j)(hf:mf=Į n j mb)
 (hbody:∀(cdv:Value) (A:Around) (outer:List Env) (s:Shared) (H:Hp) (E:XK),ű k (A.deeper (envOfC qual (ć st) s.heap.objs.size f cdv))→
   jw (qD CX P w K mg base N qual (ć st) f cdv A outer s H E) (Ņ st) (tS ⟨K,cm⟩ (λ_=>E) mb)):Ħ P w K mg base CX (k+1) f fd ps (Ŗ ⟨K,cm⟩ n mf):=by
 subst hn hj hf
 exact fnP F S hbody
end
def Č(mf:MF)(mr:M (List Slot)):M RV:=λρ=>(mr ρ).bind λps ρ1=>match mf ps with
 | .ret r=>.ok r ρ1
 | .exc x=>.exc x ρ1
 | .bad=>.bad
section
variable{X:Cx}{cm:String->Addr}{E:L2.St->XK}{CX:mY}{k n:Nat}{f:Addr}{fd:FuncData}{ps:List Str}{mf:MF}{mr:M (List Slot)}{x:Str}{p pos:Pos}{e:Expr}{es:List Expr}
def FQ{sp:Sp}{pins:List (Addr×Obj)}{σ:L2.St}{H:Hp}{s:Shared}{Q:VK}{us:List Value}{vs:List V}(F:Ħ X.prog X.w X.K X.mg X.base CX k f fd ps sp)(hr:ű k X.A)(hb:Binds X.K fd ps [])(hx:fX CX X E)
 (I:Inv X pins σ H s)(r:Vals vs us)(h:sp vs H Q (E σ)):wpAny (model X.prog X.w) X.A (call (.ref f) us) (EP X pins σ Q) X.xe s:=by
 have hl:(us ++ []).length=ps.length:=by rw[List.append_nil,<-r.length];exact F.len _ _ _ _ h
 have hbd:=hb s us I.nU hl
 rw[List.append_nil] at hbd
 refine wpAny_call (codeAny_mono (F.run X.A X.stack s H ⟨us,[]⟩ us vs Q (E σ) hr I.env0 hbd r h) λr s' hq=>?_)
 cases r with
 |error e=>exact hx pins σ H s e s' I hq
 |ok fl=>
  cases fl with
  |ret u=>exact I.after hq
  |next=>exact False.elim hq
  |brk=>exact False.elim hq
  |cont=>exact False.elim hq
def zE{c:Ctx}{F1 H1:Hp}{σ:L2.St}{ρ1:ŋ}{Q:VK}{ps:List Slot}{vs:List V}(hlen:(∃r,mf ps=r/\∀z,r=z->z≠ .bad)->ps.length=n)(ě:Rel (kk X cm) c F1 H1 σ ρ1)(r1:Paired (cQ (kk X cm) F1 H1) ps vs)
 (h:aQ (kk X cm) E (rO (kk X cm)) c F1 H1 σ Q (match mf ps with| .ret r=>.ok r ρ1| .exc x=>.exc x ρ1| .bad=>.bad)):Ŗ (kk X cm) n mf vs H1 Q (E σ):=by
 refine⟨F1,ps,?_,ě.sub,r1,?_⟩
 ·refine hlen ⟨_,rfl,λz hz hb=>?_⟩
  rw[hz,hb] at h
  exact h
 ·cases em:mf ps with
  |bad=>rw[em] at h;exact h
  |exc x=>rw[em] at h;exact λC d F' H' g rx=>h C d F' H' (ě.call g) g.f rx
  |ret r=>
   rw[em] at h
   intro v F' H' g rf
   refine h v F' H' (ě.call g) g.f g.h ?_
   cases r with
   |sh p=>exact rf
   |ow qs=>
    obtain⟨a,vs',e1,e2,e3,e4,e5⟩:=rf
    exact⟨a,vs',e1,e2,e3,ě.base.free e4,ě.wB g.f (ě.fresh e4),e5⟩
   |ot qs ts=>
    obtain⟨p,a,xs,vs',e1,e0,ex,e2,e3,e4,e5⟩:=rf
    exact⟨p,a,xs,vs',e1,e0,ex,e2,e3,ě.base.free e4,ě.wB g.f (ě.fresh e4),e5⟩
def ŉ{n k:Nat}{mb:M Fl}{ps:List Slot}(h:∃r,Į n k mb ps=r/\∀z,r=z->z≠ .bad):ps.length=n:=by
 obtain⟨r,h1,h2⟩:=h
 unfold Į at h1
 by_cases hl:ps.length=n
 ·exact hl
 ·rw[if_neg hl] at h1
  exact absurd h1.symm (λz=>h2 .bad (by rw[<-h1]) rfl)
def Kl(F:Ħ X.prog X.w X.K X.mg X.base CX k f fd ps (Ŗ (kk X cm) n mf))(hlen:∀{ps:List Slot},(∃r,mf ps=r/\∀z,r=z->z≠ .bad)->ps.length=n)(hr:ű k X.A)(hg:Gl X x)(hm:X.mg x=some (.ref f))(hk:PySem.W.keepIn X.K (.ref f)=true)(hb:Binds X.K fd ps [])(hx:fX CX X E)
 (ha:PA X (e::es) (tA (kk X cm) E mr))(hdb:(x== ("__debug__" :Str))=false:=by decide)(he:starEach (e::es) X.env=(false,eval e X.env)::starEach es X.env:=by exact bT rfl)(hpl:(backTo pos (starEach es X.env)).any (·.1)=false:=by rfl) :
 PE X (.Call (.Name x p) (e::es) [] pos) (tO (kk X cm) E (Č mf mr)):=by
 intro pins s σ H Q I h
 obtain⟨c,F,ρ,rel,h⟩:=h
 refine wpAny_Call_Name_kw (vX I hg hm ?_ hdb)
 refine PySem.W.callWith_K (h₀:= X.base) I.ok.mod.kin hk (Ť (ha pos pins s σ H (λvs H1=>Ŗ (kk X cm) n mf vs H1 Q (E σ)) I ⟨c,F,ρ,rel,h.bind λps' ρ1 vs F1 H1 ě _ _ r1 h1=>zE hlen ě r1 h1⟩) λus s1 ⟨vs,H1,I1,r,q⟩=>⟨I1.nU,?_⟩) he hpl
 exact FQ (by assumption) hr hb hx I1 r q
end
def ń(m:M PV):M (List PV):=λρ=>(m ρ).bind λp ρ1=>match p with
 | .lst ps=>.ok ps ρ1
 | .tup ps=>.ok ps ρ1
 | .str z=>.ok (z.cps.toList.map λc=>.str ⟨#[c]⟩) ρ1
 |_=>.bad
section
variable{X:Cx}{cm:String->Addr}{E:L2.St->XK}{tg:Expr}
def ZgN(K:PySem.W.Frag)(tl:TE):TI:=λσ H R=>tl σ H λx H1=>(∃a,x=.ref a/\(∃xs,ų K H1 a xs)/\R (Itl K a) H1)\/(∃a,x=.ref a/\(∃xs,dw K H1 a xs)/\R (Itt K a) H1)\/∃z,x=.str z/\R (Its z) H1
def Km{l:Expr}{tl:TE}(hl:PE X l tl):PI X tg l (ZgN X.K tl):=by
 intro pins s σ H R I h
 refine Ť (hl pins s σ H _ I h) λv s1 ⟨x,H1,I1,r1,q1⟩=>?_
 rcases q1 with⟨a,e,⟨xs,hq⟩,q⟩|⟨a,e,⟨xs,hq⟩,q⟩|⟨z,e,q⟩
 ·subst e
  cases r1
  obtain⟨its,rv,p,hz⟩:=I1.list hq
  refine wpAny_pyIter_list p.isList ?_
  refine⟨s1.heap.objs.size,[s1.heap.objs.size],_,_,H1,rfl,I1.kept (t':=s1.toks) λb o e=>Heap.get?_push_of_some _ e,Hg a _,⟨_,Heap.get?_push_size _ rfl,rfl,rfl⟩,λb hb=>?_,q⟩
  have e:b=s1.heap.objs.size:=by simpa using hb
  subst e
  exact I1.tZ (Nat.le_refl _) (I1.hok.fresh (Nat.le_refl _))
 ·subst e
  cases r1
  obtain⟨its,rv,p,hz⟩:=I1.tuple hq
  refine wpAny_pyIter_tuple (show s1.heap.IsTuple a its.toArray from p) ?_
  refine⟨s1.heap.objs.size,[s1.heap.objs.size],_,_,H1,rfl,I1.kept (t':=s1.toks) λb o e=>Heap.get?_push_of_some _ e,Br a _,⟨_,Heap.get?_push_size _ rfl,rfl,rfl⟩,λb hb=>?_,q⟩
  have e:b=s1.heap.objs.size:=by simpa using hb
  subst e
  exact I1.tZ (Nat.le_refl _) (I1.hok.fresh (Nat.le_refl _))
 ·subst e
  obtain⟨t,rfl⟩:=r1
  have fin:∀ty,(∀A:Around,A.handled=none->Walks X.prog X.w A s1.heap.objs.size [s1.heap.objs.size] [s1.heap.objs.size] z.cps.size (SignAt z) (λi h=>h.IsStrIter s1.heap.objs.size ty z t i))->
   (∀(A:Around) (i:Nat) (s:Shared) (Q:Value->Shared->Prop) (E:Value->Shared->Prop),s.heap.IsStrIter s1.heap.objs.size ty z t i->Q (.ref s1.heap.objs.size) s->wpAny (model X.prog X.w) A (pyIter (.ref s1.heap.objs.size)) Q E s)->
   (["enumerate","zip","dict_itemiterator","dict_reverseitemiterator","odict_iterator","itertools.zip_longest","itertools.pairwise"].contains ty=false)->
   PIE X pins σ tg R (.ref s1.heap.objs.size) {s1 with heap:=s1.heap.push {cls:=.type ty,data:=.fields #[.str z t,.int 0 0]}}:=λty hW hS hty=>by
   refine⟨s1.heap.objs.size,[s1.heap.objs.size],_,_,H1,rfl,I1.kept (t':=s1.toks) λb o e=>Heap.get?_push_of_some _ e,Hy _ z t ty hW hS hty,⟨_,Heap.get?_push_size _ rfl,rfl,rfl⟩,λb hb=>?_,q⟩
   have e:b=s1.heap.objs.size:=by simpa using hb
   subst e
   exact I1.tZ (Nat.le_refl _) (I1.hok.fresh (Nat.le_refl _))
  cases ha:z.cps.all (·< 128) with
  |true=>exact wpAny_pyIter_ascii ha (fin _ (λA hA=>Walks.strAscii hA _ z t) (λA i s Q E st q=>wpAny_pyIter_striter_ascii st q) (by decide))
  |false=>exact wpAny_pyIter_wide ha (fin _ (λA hA=>Walks.strWide hA _ z t) (λA i s Q E st q=>wpAny_pyIter_striter_wide st q) (by decide))
def aW{l:Expr}{m:M PV}(hl:PE X l (tV (kk X cm) E m)):PI X tg l (tI (kk X cm) E (ń m)):=λpins s σ H R I h=>Km hl pins s σ H R I (by
 obtain⟨c,F,ρ,rel,h⟩:=h
 refine⟨c,F,ρ,rel,h.bind λp ρ1 v F1 H1 ě s1 s2 q h1=>?_⟩
 cases p with
 |lst ps=>
  have q':Rep (kk X cm) F1 (.lst ps) v:=q
  unfold Rep at q'
  obtain⟨a,vs,rfl,e1,e2⟩:=q'
  refine .inl ⟨a,rfl,⟨vs,ě.sub.seq e1⟩,h1 _ F1 H1 ě (Same.refl _) (Same.refl _) ?_⟩
  intro c' i F2 H2 σ2 ρ2 ļ sF _
  have hq:ų X.K H2 a vs:=(sF.trans ļ.sub).seq e1
  refine⟨λp hp=>?_,λhi=>⟨vs,hq,by rw[hi,e2.length];exact Nat.le_refl _⟩⟩
  obtain⟨u,hu,ru⟩:=bJ e2.pr hp
  refine⟨⟨vs,u,hq,hu⟩,λx H' ⟨hH,hx⟩=>?_⟩
  subst hH
  have:vs[i]?=some x:=hx vs hq
  rw[hu] at this
  cases this
  exact⟨F2,ļ,Same.refl _,Same.refl _,Rep.same sF p u ru⟩
 |tup ps=>
  have q':Rep (kk X cm) F1 (.tup ps) v:=q
  unfold Rep at q'
  obtain⟨a,vs,rfl,e1,e2⟩:=q'
  refine .inr (.inl ⟨a,rfl,⟨vs,Same.tup ě.sub e1⟩,h1 _ F1 H1 ě (Same.refl _) (Same.refl _) ?_⟩)
  intro c' i F2 H2 σ2 ρ2 ļ sF _
  have hq:dw X.K H2 a vs:=Same.tup (sF.trans ļ.sub) e1
  refine⟨λp hp=>?_,λhi=>⟨vs,hq,by rw[hi,e2.length];exact Nat.le_refl _⟩⟩
  obtain⟨u,hu,ru⟩:=bJ e2.pr hp
  refine⟨⟨vs,u,hq,hu⟩,λx H' ⟨hH,hx⟩=>?_⟩
  subst hH
  have:vs[i]?=some x:=hx vs hq
  rw[hu] at this
  cases this
  exact⟨F2,ļ,Same.refl _,Same.refl _,Rep.same sF p u ru⟩
 |str z=>
  have q':v=.str z:=by have q':Rep (kk X cm) F1 (.str z) v:=q;unfold Rep at q';exact q'
  subst q'
  refine .inr (.inr ⟨z,rfl,h1 _ F1 H1 ě (Same.refl _) (Same.refl _) ?_⟩)
  intro c' i F2 H2 σ2 ρ2 ļ sF _
  refine⟨λp hp=>?_,λhi=>by rw[hi,List.length_map];show _=_;simp⟩
  rw[List.getElem?_map] at hp
  cases ez:z.cps.toList[i]? with
  |none=>rw[ez] at hp;cases hp
  |some cc=>
   rw[ez] at hp
   cases hp
   refine⟨by have:=(List.getElem?_eq_some_iff.mp ez).1;show i<z.cps.size;simpa using this,λx H' ⟨hH,c2,hc,hx⟩=>?_⟩
   subst hH hx
   rw[ez] at hc
   cases hc
   exact⟨F2,ļ,Same.refl _,Same.refl _,Rep.str⟩
 |_=>exact h1.elim)
def ŀ(i:Nat):M (List PV):=λρ=>match ρ[i]? with
 |some (.bw ps)=>.ok ps ρ
 |some (.sh (.lst ps))=>.ok ps ρ
 |some (.sh (.tup ps))=>.ok ps ρ
 |some (.sh (.str z))=>.ok (z.cps.toList.map λc=>.str ⟨#[c]⟩) ρ
 |some (.ow ps)=>.ok ps (ρ.set i (.sh (.lst ps)))
 |_=>.bad
def Ř(i:Nat){x:Str}{px:Pos}(hN:X.N[i]?=some x:=by rfl)(hv:Bp X.env.scope x:=by first|exact Or.inl rfl|exact Or.inr (Or.inl rfl)|exact Or.inr (Or.inr rfl))(hd:(x== ("__debug__" :Str))=false:=by decide)
 (hcd:(x== ("__classdict__" :Str))=false:=by decide):PI X tg (.Name x px) (tI (kk X cm) E (ŀ i)):=λpins s σ H R I h=>by
 obtain⟨c,F,ρ,rel,h⟩:=h
 cases e:ρ[i]? with
 |none=>unfold ŀ at h;rw[e] at h;exact h.elim
 |some sl=>
  have Ra:aQ (kk X cm) E (rIt (kk X cm)) c F H σ R (ń (Ę i) ρ)->wpAny (model X.prog X.w) X.A (eval (.Name x px) X.env) (λv s1=>wpAny (model X.prog X.w) X.A (pyIter v) (PIE X pins σ tg R) X.xe s1) X.xe s:=λh'=>
   aW (v_var i hN hv hd hcd) pins s σ H R I ⟨c,F,ρ,rel,h'⟩
  unfold ŀ at h
  rw[e] at h
  cases sl with
  |no=>exact h.elim
  |rc C ns ps=>exact h.elim
  |ot ps qs=>exact h.elim
  |ol Fx=>exact h.elim
  |ow ps=>exact Ra (by unfold ń Ę;rw[e];exact h)
  |sh p=>
   cases p with
   |lst ps=>exact Ra (by unfold ń Ę;rw[e];exact h)
   |tup ps=>exact Ra (by unfold ń Ę;rw[e];exact h)
   |str z=>exact Ra (by unfold ń Ę;rw[e];exact h)
   |_=>exact h.elim
  |bw ps=>
   obtain⟨a,vs,h1,h2,h3⟩:=rel.slot i _ e
   refine Km (fM hN hv hd hcd) pins s σ H R I ⟨.ref a,at_of h1,.inl ⟨a,rfl,⟨vs,ų.of (rel.lent a _ h2).1⟩,h _ F H rel (Same.refl _) (Same.refl _) ?_⟩⟩
   intro c' j F2 H2 σ2 ρ2 ļ sF sL
   have hq:ų X.K H2 a vs:=ų.of (sL a _ h2)
   refine⟨λp hp=>?_,λhi=>⟨vs,hq,by rw[hi,h3.length];exact Nat.le_refl _⟩⟩
   obtain⟨u,hu,ru⟩:=bJ h3.pr hp
   refine⟨⟨vs,u,hq,hu⟩,λx H' ⟨hH,hx⟩=>?_⟩
   subst hH
   have:vs[j]?=some x:=hx vs hq
   rw[hu] at this
   cases this
   exact⟨F2,ļ,Same.refl _,Same.refl _,Rep.same sF p u ru⟩
def iH(lo:Int)(n:Nat)(c:Int):List PV:=(List.range n).map λ(i:Nat)=>.int (lo+i*c)
def qJ(i:Int):Bool:=decide (i.natAbs<1152921504606846976)
def au:List PV->Option (List PV)
 | [.int j]=>if qJ j=true then some (iH 0 j.toNat 1) else none
 |_=>none
def Ÿ(f:List PV->Option (List PV))(mr:M (List PV)):M (List PV):=λρ=>(mr ρ).bind λps ρ1=>Res.n_ (f ps) ρ1
def Cq{lo c:Int}{n i:Nat}{p:PV}(h:(iH lo n c)[i]?=some p):i<n/\p=.int (lo+i*c):=by
 unfold iH at h
 by_cases hn:i<n
 ·rw[List.getElem?_map,List.getElem?_range hn] at h
  exact⟨hn,(Option.some.inj h).symm⟩
 ·rw[List.getElem?_eq_none (by simpa using hn)] at h
  cases h
def Cr{lo c:Int}{n:Nat}:(iH lo n c).length=n:=by simp[iH]
def ZbW{K:KK}{Lh F:Hp}(lo:Int)(n:Nat):fW K Lh F (Itr lo n) (iH lo n 1):=λc i F2 H σ ρ rel sF _=>
 ⟨fun p hp=>by
   obtain⟨h1,rfl⟩:=Cq hp
   refine⟨h1,λx H' ⟨e1,e2⟩=>?_⟩
   subst e1 e2
   exact⟨F2,rel,Same.refl _,Same.refl _,by rw[Int.mul_one];exact Rep.int⟩,λhi=>by rw[Cr] at hi;subst hi;exact Nat.le_refl _⟩
def HJ{i:Int}(h:qJ i=true): -(2 ^ 60)<=i/\i<2 ^ 60:=by
 unfold qJ at h
 rw[decide_eq_true_eq] at h
 omega
variable{a b d:Expr}{p pos:Pos}{mr:M (List PV)}
def Ko{K:KK}{F:Hp}{ps:List PV}{vs:List V}(h:ĝ K F ps vs):(∀i r,ps=.int i::r->∃r',vs=.int i::r'/\ĝ K F r r')/\(ps=[]->vs=[]):=by
 refine⟨λi r e=>?_,λe=>?_⟩
 ·subst e
  unfold ĝ at h
  obtain⟨x,r',h1,h2,h3⟩:=h
  unfold Rep at h2
  exact⟨r',by rw[h1,h2],h3⟩
 ·subst e
  unfold ĝ at h
  exact h
def Ő(hg:Gl X "range")(hm:X.mg "range" =none)(ha:PA X [a] (tL (kk X cm) E mr))(hs:starEach [a] X.env=[(false,eval a X.env)]:=by exact bT rfl):PI X tg (.Call (.Name "range" p) [a] [] pos) (tI (kk X cm) E (Ÿ au mr)):=
 λpins s σ H R I h=>Hh hg hm ha hs pins s σ H R I (by
  obtain⟨c,F,ρ,rel,h⟩:=h
  refine⟨c,F,ρ,rel,h.bind λps ρ1 vs F1 H1 ě s1 s2 q h1=>?_⟩
  have q':ĝ (kk X cm) F1 ps vs:=q
  unfold au at h1
  split at h1
  ·rename_i j
   split at h1
   ·rename_i hj
    obtain⟨r',e1,e2⟩:=(Ko q').1 _ _ rfl
    cases(Ko e2).2 rfl
    obtain⟨k1,k2⟩:=HJ hj
    exact⟨j,e1,by omega,by omega,h1 _ F1 H1 ě (Same.refl _) (Same.refl _) (ZbW 0 j.toNat)⟩
   ·exact h1.elim
  ·exact h1.elim)
end
def bV:Slot->Slot
 | .sh p=>.sh p
 | .ow ps=>.bw ps
 | .bw ps=>.bw ps
 |_=>.no
def dz(js:List Nat)(nl:Nat)(ρ:ŋ):ŋ:=js.map (λ(j:Nat)=>bV ((ρ[j]?).getD .no))++List.replicate nl .no
def Ľ(g:Tg)(mt:M Bool)(me:M PV):List PV->ŋ->List PV->Option (List PV)
 | [],_,acc=>some acc
 |p::ps,ρ,acc=>match g p ρ with
  |none=>none
  |some ρ1=>match mt ρ1 with
   | .ok true ρ2=>match me ρ2 with
     | .ok q ρ3=>if acc.length<16777216 then Ľ g mt me ps ρ3 (acc ++ [q]) else none
     |_=>none
   | .ok false ρ2=>Ľ g mt me ps ρ2 acc
   |_=>none
def Ĵ(js:List Nat)(nl:Nat)(mi:M (List PV))(g:Tg)(mt:M Bool)(me:M PV):M RV:=λρ=>(mi ρ).bind λitems ρ1=>match Ľ g mt me items (dz js nl ρ1) [] with
 |some ps=>.ok (.ow ps) ρ1
 |none=>.bad
abbrev EF:L2.St->XK:=λ_ _ _ _=>False
def İ:M Bool:=λρ=>.ok true ρ
section
variable{K:KK}{c:Ctx}{F H:Hp}{σ:L2.St}{ρ:ŋ}
def wD(F H H1:Hp):Ctx:=⟨H1,F,(ctx0 F H).L,λ_ _ _=>True⟩
def Rel.cap(js:List Nat)(nl:Nat)(rel:Rel K c F H σ ρ){D:Addr}{o:HO}(hD:H D=none):Rel K (wD F H (upd H D o)) F (upd H D o) (eY js nl σ) (dz js nl ρ) where
 sub:=rel.sub.trans (Same.upd hD)
 base:=Same.refl _
 f0:=Same.refl _
 fL:=λ_ _ z=>z
 lent:=λa u e=>⟨Same.upd hD a u (dU e).1,(dU e).2⟩
 lb:=fun a e=>by
   cases q:(wD F H (upd H D o)).L a with
   |none=>rfl
   |some u=>
    have e':upd H D o a=none:=e
    rw[Same.upd hD a u (dU q).1] at e'
    cases e'
 len:=by simp[eY,dz]
 slot:= λi s e=>by
  unfold dz at e
  by_cases hi:i<js.length
  ·rw[List.getElem?_append_left (by simpa using hi),List.getElem?_map] at e
   cases ej:js[i]? with
   |none=>rw[ej] at e;cases e
   |some j=>
    rw[ej] at e
    have e':bV ((ρ[j]?).getD .no)=s:=Option.some.inj e
    subst e'
    have hx:((eY js nl σ)[i]?).getD none=(σ[j]?).getD none:=by
     unfold eY
     rw[List.getElem?_append_left (by simpa using hi),List.getElem?_map,ej]
     rfl
    rw[hx]
    cases er:ρ[j]? with
    |none=>trivial
    |some sl=>
     have q:=rel.slot j sl er
     cases sl with
     |no=>trivial
     |sh p=>exact q
     |ow ps=>
      obtain⟨a,vs,h1,h2,h3,h4,h5⟩:=q
      refine⟨a,vs,h1,?_,h5⟩
      show(match F a with|none=>H a|some _=>none)=_
      rw[h3]
      exact h2
     |bw ps=>
      obtain⟨a,vs,h1,h2,h3⟩:=q
      obtain⟨l1,l2⟩:=rel.lent a _ h2
      refine⟨a,vs,h1,?_,h3⟩
      show(match F a with|none=>H a|some _=>none)=_
      rw[l2]
      exact l1
     |rc C ns ps=>trivial
     |ot ps qs=>trivial
     |ol Fx=>trivial
  ·rw[List.getElem?_append_right (by simpa using hi),List.getElem?_replicate] at e
   split at e
   ·cases e;trivial
   ·cases e
 sep:=λi j a h1 _=>by
  exfalso
  obtain⟨s,y,h1,_,h2⟩:=h1
  have h2:=nq h2
  unfold dz at h1
  by_cases hi:i<js.length
  ·rw[List.getElem?_append_left (by simpa using hi),List.getElem?_map] at h1
   cases ej:js[i]? with
   |none=>rw[ej] at h1;cases h1
   |some j=>
    rw[ej] at h1
    have e':bV ((ρ[j]?).getD .no)=s:=Option.some.inj h1
    subst e'
    cases q:(ρ[j]?).getD .no<;>rw[q] at h2<;>cases h2
  ·rw[List.getElem?_append_right (by simpa using hi),List.getElem?_replicate] at h1
   split at h1
   ·cases h1;cases h2
   ·cases h1
def Rel.rebase{H1 F1:Hp}{D:Addr}{ys zs:List V}(hD:H1 D=none)(hF:F1 D=none)(rel:Rel K (wD F1 H1 (upd H1 D (.lst ys))) F H σ ρ):Rel K (wD F1 H1 (upd H1 D (.lst zs))) F (upd H D (.lst zs)) σ ρ:= by
 have fD:F D=none:=rel.fL D (by show upd H1 D _ D≠none;rw[ĭ];intro z;cases z) hF
 have lD:∀b u,(wD F1 H1 (upd H1 D (.lst ys))).L b=some u->b≠D:=λb u e z=>by
  have q:=(dU (F:=F1) (H:=H1) (a:=b) (u:=u) e).1
  rw[z,hD] at q
  cases q
 have ne:∀b,(wD F1 H1 (upd H1 D (.lst ys))).B b=none->b≠D:=λb z q=>by
  subst q
  have z':upd H1 b (.lst ys) b=none:=z
  rw[ĭ] at z';cases z'
 have back:∀b,b≠D->(wD F1 H1 (upd H1 D (.lst ys))).B b=none->(wD F1 H1 (upd H1 D (.lst zs))).B b=none:=λb hb z=>by
  have z':upd H1 D (.lst ys) b=none:=z
  show upd H1 D (.lst zs) b=none
  rw[Ğ hb] at z' ⊢;exact z'
 refine⟨λb u e=>?_,λb u e=>?_,rel.f0,λb h1 h2=>?_,λb u e=>?_,λb e=>?_,rel.len,λi s e=>?_,rel.sep⟩
 ·have hb:b≠D:=λz=>by rw[z,fD] at e;cases e
  rw[Ğ hb];exact rel.sub b u e
 ·by_cases hb:b=D
  ·subst hb
   have e':upd H1 b (.lst zs) b=some u:=e
   rw[ĭ] at e' ⊢;exact e'
  ·have e':upd H1 D (.lst zs) b=some u:=e
   rw[Ğ hb] at e' ⊢
   exact rel.base b u (by show upd H1 D _ b=some u;rw[Ğ hb];exact e')
 ·refine rel.fL b (λz=>h1 ?_) h2
  exact back b (ne b z) z
 ·rw[Ğ (lD b u e)]
  exact rel.lent b u e
 ·refine rel.lb b ?_
  have z':upd H1 D (.lst zs) b=none:=e
  have hb:b≠D:=λq=>by rw[q,ĭ] at z';cases z'
  show upd H1 D (.lst ys) b=none
  rw[Ğ hb] at z' ⊢;exact z'
 ·have q:=rel.slot i s e
  cases s with
  |no=>trivial
  |sh p=>exact q
  |bw ps=>exact q
  |ow ps=>
   obtain⟨a,vs,q1,q2,q3,q4,q5⟩:=q
   have hb:=ne a q4
   exact⟨a,vs,q1,by rw[Ğ hb];exact q2,q3,back a hb q4,q5⟩
  |rc C ns ps=>
   obtain⟨a,dx,fs,q1,q2,q3,q4,q5⟩:=q
   have hb:=ne a q4
   exact⟨a,dx,fs,q1,by rw[Ğ hb];exact q2,q3,back a hb q4,q5⟩
  |ot ps qs=>
   obtain⟨p,a,xs,vs,q1,q0,qx,q2,q3,q4,q5⟩:=q
   have hb:=ne a q4
   exact⟨p,a,xs,vs,q1,q0,qx,by rw[Ğ hb];exact q2,q3,back a hb q4,q5⟩
  |ol Fx=>
   obtain⟨p,as,q1,q0,qn,qp⟩:=q
   refine⟨p,as,q1,q0,qn,Kd qp λa ps _ ⟨vs,q2,q3,q4,q5⟩=>?_⟩
   have hb:=ne a q4
   exact⟨vs,by rw[Ğ hb];exact q2,q3,back a hb q4,q5⟩
end
section
variable{X:Cx}{cm:String->Addr}{E:L2.St->XK}{elt tg iter:Expr}{ifs:List Expr}{scope:Scope}{pos:Pos}{mi:M (List PV)}{g:Tg}{mt:M Bool}{me:M PV}
def ł:Ik X [] (tB (kk X cm) E İ):=λpins s σ H Q I h=>Qx pins s σ H Q I (by
 obtain⟨c,F,ρ,rel,h⟩:=h
 exact h true F H rel (Same.refl _) (Same.refl _) rfl)
def Cu{a:Expr}(h:PT X a (tB (kk X cm) E mt)):Ik X [a] (tB (kk X cm) E mt):=Qy h
def Kp(K:KK):RR (List PV) It:=λ_ _ _ F H items J=>fW K (ctx0 F H).L F J items
def Zew{K:KK}{c:Ctx}{F H:Hp}{σ:L2.St}{ρ:ŋ}(rel:Rel K c F H σ ρ){b:Addr}{u:HO}(e:c.L b=some u):(ctx0 F H).L b=some u:=by
 obtain⟨l1,l2⟩:=rel.lent b u e
 show(match F b with|none=>H b|some _=>none)=some u
 rw[l2]
 exact l1
def Td(h:PI X tg iter (tI (kk X cm) E mi)):PI X tg iter (tG (kk X cm) E (Kp (kk X cm)) mi):=λpins s σ H R I ⟨c,F,ρ,rel,q⟩=>h pins s σ H R I ⟨c,F,ρ,rel,aQ.bind (R':=Kp (kk X cm)) (f:=λp ρ=>.ok p ρ) (by revert q;cases mi ρ <;> exact id) λp ρ1 v F1 H1 ě s1 s2 q h1=>h1 v F1 H1 ě (Same.refl _) (Same.refl _) λc' i F2 H2 σ2 ρ2 ļ sF sL=>q c' i F2 H2 σ2 ρ2 ļ sF λb u e=>sL b u (Zew ě e)⟩
def zF{js:List Nat}{nl:Nat}{σ:L2.St}{H:Hp}{Q:VK}(h:tO (kk X cm) E (Ĵ js nl mi g mt me) σ H Q):JK js nl (tG (kk X cm) E (Kp (kk X cm)) mi) (tT (kk X cm) g) (tB (kk X cm) EF mt) (tV (kk X cm) EF me) σ H Q:=by
 obtain⟨c,F,ρ,rel,h⟩:=h
 refine⟨c,F,ρ,rel,h.bind λitems ρ1 J F1 H1 ě s1 s2 ito h1=>?_⟩
 intro D hD
 have hF:F1 D=none:=ě.sub.free hD
 cases ec:Ľ g mt me items (dz js nl ρ1) [] with
 |none=>rw[ec] at h1;exact h1.elim
 |some res=>
  rw[ec] at h1
  refine⟨λi m σ' H'=>∃F' ρ' ys acc,i<=items.length/\m=items.length-i/\Rel (kk X cm) (wD F1 H1 (upd H1 D (.lst ys))) F' H' σ' ρ'/\ĝ (kk X cm) F' acc ys/\Ľ g mt me (items.drop i) ρ' acc=some res,
   ⟨_,F1,_,[],[],Nat.zero_le _,rfl,?_,ĝ.nil,ec⟩,?_⟩
  ·exact ě.cap js nl hD
  ·rintro i m σ2 H2 ⟨F2,ρ2,ys,acc,hle,rfl,ļ,ra,h2⟩
   have s12:Same F1 F2:=ļ.f0
   obtain⟨go,stop⟩:=ito _ i F2 H2 σ2 ρ2 ļ s12 λb u e=>(ļ.lent b u e).1
   have hH2:H2 D=some (.lst ys):=ļ.base D _ (show upd H1 D _ D=_ from ĭ)
   have fD:F2 D=none:=ļ.fL D (by show upd H1 D _ D≠none;rw[ĭ];intro z;cases z) hF
   by_cases hlt:i<items.length
   ·obtain⟨g1,g2⟩:=go items[i] (List.getElem?_eq_getElem hlt)
    rw[List.drop_eq_getElem_cons hlt] at h2
    unfold Ľ at h2
    refine .inr ⟨g1,_,λσ' H' z=>z,λx H3 hy=>?_⟩
    obtain⟨F3,lu,s3,sH3,rp⟩:=g2 x H3 hy
    refine⟨_,F3,ρ2,items[i],lu,rp,?_⟩
    cases eg:g items[i] ρ2 with
    |none=>rw[eg] at h2;cases h2
    |some ρ3=>
     rw[eg] at h2
     dsimp only at h2
     intro σ4 zy
     refine⟨_,F3,ρ3,zy,?_⟩
     cases em:mt ρ3 with
     |bad=>rw[em] at h2;cases h2
     |exc x ρ4=>rw[em] at h2;cases h2
     |ok b ρ4=>
      rw[em] at h2
      intro b' F5 H5 Zex s5 Te eb
      have eb':b=b':=eb
      subst eb'
      cases b with
      |false=>
       rw[if_neg Bool.false_ne_true]
       dsimp only at h2
       exact⟨items.length-(i+1),by omega,F5,ρ4,ys,acc,hlt,rfl,Zex,ĝ.same (s3.trans s5) acc ys ra,h2⟩
      |true=>
       rw[if_pos rfl]
       dsimp only at h2
       refine⟨_,F5,ρ4,Zex,?_⟩
       cases ee:me ρ4 with
       |bad=>rw[ee] at h2;cases h2
       |exc x ρ5=>rw[ee] at h2;cases h2
       |ok q ρ5=>
        rw[ee] at h2
        dsimp only at h2
        intro y F6 H6 Zey s6 Rb rq
        split at h2
        ·rename_i hz
         have ra6:=ĝ.same ((s3.trans s5).trans s6) acc ys ra
         refine⟨ys,Zey.base D _ (show upd H1 D _ D=_ from ĭ),by rw[<-ra6.length,Ō];exact hz,?_⟩
         exact⟨items.length-(i+1),by omega,F6,ρ5,ys ++ [y],acc ++ [q],hlt,rfl,Zey.rebase hD hF,ĝ.append ra6 (ĝ.cons rq ĝ.nil),h2⟩
        ·cases h2
   ·have e:i=items.length:=by omega
    refine .inl ⟨stop e,?_⟩
    rw[List.drop_eq_nil_of_le (by omega)] at h2
    unfold Ľ at h2
    cases h2
    have gr:Gr F1 H1 F2 H2:=⟨λb u e=>ļ.base b u (by show upd H1 D _ b=_;rw[Ğ (į e hD)];exact e),s12,ļ.sub,λb hb hf=>ļ.fL b (by
     show upd H1 D _ b≠none
     by_cases hbD:b=D
     ·rw[hbD,ĭ];intro z;cases z
     ·rw[Ğ hbD];exact hb) hf⟩
    have ZgO:=ě.call gr
    exact h1 _ F2 H2 ZgO s12 gr.h ⟨D,ys,rfl,hH2,fD,ě.base.free hD,ě.wB gr.f (ě.fresh hD),ra⟩
def Rf(N':List Str)(js:List Nat)(nl:Nat)(sc:Scope)(hsc:X.env.scope=sc)(hcalm:X.calm=true)
 (hi:PI X.Ū tg iter (tG (kk X cm) E (Kp (kk X cm)) mi))(hg:∀cl C s H fp,PG (dR X.Ū N' scope cl C s H fp) tg (tT (kk X cm) g))(ht:∀cl C s H fp,Ik (dR X.Ū N' scope cl C s H fp) ifs (tB (kk X cm) EF mt))(he:∀cl C s H fp,PE (dR X.Ū N' scope cl C s H fp) elt (tV (kk X cm) EF me))
 (hcap:eX X.Ū sc scope N' js)(hlen:js.length+nl=N'.length:=by rfl)
 (hk:scope.kind=.function:=by rfl)(hcell:∀y∈scope.names,y.2=.cell->scope.names.lookup y.1=some .cell:=by decide +kernel)(hnames:∀y∈scope.names,y.2=.local->scope.names.lookup y.1=some .local:=by decide +kernel)
 (hfree:∀y∈scope.names,y.2=.free->(sc.names.lookup y.1=some .cell\/sc.names.lookup y.1=some .free):=by decide +kernel)
 (hs:∀x,foldedSetIterable iter X.env x=pure x:=by intro _;rfl) :
 PE X (.ListComp elt [⟨tg,iter,ifs,0⟩] scope pos) (tO (kk X cm) E (Ĵ js nl mi g mt me)):=
 PE.wk (PE.Ū (Qz N' js nl sc hsc hcalm hi hg ht he hcap hlen hk hcell hnames hfree hs)) λ_ _ _ h=>zF h
end
end P
namespace P
open PySem PySem.Spec PyProof.Rows L2 M2 M3 M4
abbrev bits(x:Int):Nat:=Builtin.Int.intBits x
section
variable{X:Cx}{cm:String->Addr}{K:KK}
def Tf(K:PySem.W.Frag):R2:=λx y H Q=>∃l b xs zs,x=.ref l/\y=.ref b/\ų K H l xs/\ų K H b zs/\xs.length+zs.length<=sizeLine/\∀p,H p=none->Q (.ref p) (upd H p (.lst (xs++zs)))
def Rg:Ű X (binaryOp .Add) (Tf X.K):=by
 intro pins s σ H x y v u Q I rx ry h
 obtain⟨l,b,xs,zs,rfl,rfl,hH,hB,hz,q⟩:=h
 cases rx
 cases ry
 obtain⟨its,r,pl,z⟩:=I.list hH
 obtain⟨its2,r2,pl2,z2⟩:=I.list hB
 obtain⟨⟨c1,d1,t1,sl1⟩,n,e,hc,hd,hs⟩:=pl
 obtain⟨⟨c2,d2,t2,sl2⟩,n2,e2,hc2,hd2,hs2⟩:=pl2
 simp only at hc hd hs hc2 hd2 hs2
 subst hc hd hs hc2 hd2 hs2
 have hl:=r.length
 have hl2:=r2.length
 have ea:its.toArray++its2.toArray=(its++its2).toArray:=by simp
 refine concat_meets ⟨_,e,rfl⟩ ⟨_,e2,rfl⟩ noFill_list_add seq_list_add PySem.F.slot_list_add PySem.F.entry_list_add (PySem.F.args_list_add_2 _ _) (list_addW l b its.toArray its2.toArray n n2 none none sl1 sl2 (by simp only[List.size_toArray];omega)) ⟨e,e2,?_⟩
 rw[ea]
 exact⟨.ref _,_,I.ZgE (t':=s.toks) (r.append r2) (by rw[List.length_append];omega),rfl,q _ I.fresh⟩
def Ti(K:PySem.W.Frag):R2:=λx y H Q=>∃l b xs zs,x=.ref l/\y=.ref b/\dw K H l xs/\dw K H b zs/\xs≠[]/\zs≠[]/\xs.length+zs.length<=sizeLine/\∀p,H p=none->Q (.ref p) (upd H p (.tup (xs++zs)))
def Rh:Ű X (binaryOp .Add) (Ti X.K):=by
 intro pins s σ H x y v u Q I rx ry h
 obtain⟨l,b,xs,zs,rfl,rfl,hH,hB,nx,nz,hz,q⟩:=h
 cases rx
 cases ry
 obtain⟨its,r,pl,z⟩:=I.tuple hH
 obtain⟨its2,r2,pl2,z2⟩:=I.tuple hB
 obtain⟨⟨c1,d1,t1,sl1⟩,e,hc,n,hd⟩:=pl
 obtain⟨⟨c2,d2,t2,sl2⟩,e2,hc2,n2,hd2⟩:=pl2
 simp only at hc hd hc2 hd2
 subst hc hd hc2 hd2
 have hl:=r.length
 have hl2:=r2.length
 have ne1:its≠[]:=λz=>by rw[z] at hl;exact nx (List.length_eq_zero_iff.mp hl)
 have ne2:its2≠[]:=λz=>by rw[z] at hl2;exact nz (List.length_eq_zero_iff.mp hl2)
 have ea:its.toArray++its2.toArray=(its++its2).toArray:=by simp
 refine concat_meets ⟨_,e,rfl⟩ ⟨_,e2,rfl⟩ noFill_tuple_add seq_tuple_add PySem.F.slot_tuple_add PySem.F.entry_tuple_add (PySem.F.args_tuple_add_2 _ _) (tuple_addW2 l b its.toArray its2.toArray n n2 d1 d2 sl1 sl2 (by simpa using ne1) (by simpa using ne2) (by simp only[List.size_toArray];omega)) ⟨e,e2,?_⟩
 rw[ea]
 exact⟨.ref _,_,I.laid (o:=.tup (xs++zs)) (t':=s.toks) (λ_ _ q=>Heap.get?_push_of_some _ q) (Nat.le_refl _) ⟨by rw[List.length_append];omega,(its++its2),r.append r2,⟨_,Heap.get?_push_size _ rfl,rfl,_,rfl⟩⟩,rfl,q _ I.fresh⟩
def ģ:PV->PV->Option RV
 | .int i,.int j=>some (.sh (.int (i+j)))
 | .str i,.str j=>if i.length+j.length<=16777216 then some (.sh (.str (i++j))) else none
 | .lst ps,.lst qs=>if ps.length+qs.length<=16777216 then some (.ow (ps++qs)) else none
 | .tup (p::ps),.tup (q::qs)=>if(p::ps).length+(q::qs).length<=16777216 then some (.sh (.tup ((p::ps)++(q::qs)))) else none
 |_,_=>none
def Tj(K:PySem.W.Frag):R2:=λx y H Q=>Zeg x y H Q\/(Tf K x y H Q\/Ti K x y H Q)
def ZbX:Ű X (binaryOp .Add) (Tj X.K):=ZbG.or (Rg.or Rh)
def ZbY:OpO K (Tj K.K) ģ:=by
 intro c F H σ ρ p q pv v u Q rel r1 r2 e k
 unfold ģ at e
 split at e
 ·cases e
  cases r1.int
  cases r2.int
  exact .inl (k _ F H rel (Same.refl _) (Same.refl _) (Rep.int (K:=K) (F:=F)))
 ·split at e
  ·rename_i hz
   cases e
   cases r1.str
   cases r2.str
   exact .inl ⟨by rw[Ō];exact hz,k _ F H rel (Same.refl _) (Same.refl _) (Rep.str (K:=K) (F:=F))⟩
  ·cases e
 ·split at e
  ·rename_i hz
   cases e
   obtain⟨a,xs,rfl,h1,h2⟩:=r1.lst rel.sub
   obtain⟨b,ys,rfl,h3,h4⟩:=r2.lst rel.sub
   refine .inr (.inl ⟨a,b,xs,ys,rfl,rfl,h1,h3,by rw[<-h2.length,<-h4.length,Ō];exact hz,λd hd=>?_⟩)
   obtain⟨q1,q2⟩:=iB rel hd (ĝ.append h2 h4)
   exact k _ F _ q1 (Same.refl _) (Same.upd hd) q2
  ·cases e
 ·split at e
  ·rename_i hz
   cases e
   obtain⟨a,xs,rfl,h1,h2⟩:=r1.tup rel.sub
   obtain⟨b,ys,rfl,h3,h4⟩:=r2.tup rel.sub
   have l1:=h2.length
   have l2:=h4.length
   refine .inr (.inr ⟨a,b,xs,ys,rfl,rfl,h1,h3,(λz=>by rw[z] at l1;cases l1),(λz=>by rw[z] at l2;cases l2),by rw[<-l1,<-l2,Ō];exact hz,λl hl=>k _ _ _ (rel.alloc hl) (Same.upd (rel.sub.free hl)) (Same.upd hl) ?_⟩)
   show Rep K _ _ _
   unfold Rep
   exact⟨l,xs++ys,rfl,dw.of ĭ,ĝ.same (Same.upd (rel.sub.free hl)) _ _ (ĝ.append h2 h4)⟩
  ·cases e
 ·cases e
def t_(g:Int->Int->Int):PV->PV->Option PV
 | .int i,.int j=>some (.int (g i j))
 |_,_=>none
def Fd(C:Int->Int->Bool)(g:Int->Int->Int):PV->PV->Option PV
 | .int i,.int j=>if C i j=true then some (.int (g i j)) else none
 |_,_=>none
def opC(g:Int->Int->Bool):PV->PV->Option PV
 | .int i,.int j=>some (.bl (g i j))
 |_,_=>none
def Kq{g:Int->Int->Int}:iy K (zj λi j=>.int (g i j)) (t_ g):=by
 intro c F H σ ρ p q pv v u Q rel r1 r2 e k
 unfold t_ at e
 split at e
 ·cases e
  cases r1.int
  cases r2.int
  exact k _ F H rel (Same.refl _) (Same.refl _) Rep.int
 ·cases e
def Ri{g:Int->Int->Bool}:iy K (zj λi j=>.bl (g i j)) (opC g):=by
 intro c F H σ ρ p q pv v u Q rel r1 r2 e k
 unfold opC at e
 split at e
 ·cases e
  cases r1.int
  cases r2.int
  exact k _ F H rel (Same.refl _) (Same.refl _) Rep.bl
 ·cases e
def Kr{C:Int->Int->Bool}{C':Int->Int->Prop}{g:Int->Int->Int}(hC:∀i j,C i j=true->C' i j):iy K (mI C' λi j=>.int (g i j)) (Fd C g):=by
 intro c F H σ ρ p q pv v u Q rel r1 r2 e k
 unfold Fd at e
 split at e
 ·split at e
  ·rename_i hc
   cases e
   cases r1.int
   cases r2.int
   exact⟨hC _ _ hc,k _ F H rel (Same.refl _) (Same.refl _) Rep.int⟩
  ·cases e
 ·cases e
def Ŝ:=t_ λi j=>i-j
def ZbZ:iy K (zj λi j=>.int (i-j)) Ŝ:=Kq
def iI(_ j:Int):Bool:=decide (j≠0) && decide (bits j<=8000)
def ţ:=Fd iI λi j=>i.fdiv j
def Zb0:iy K (mI Hx λi j=>.int (i.fdiv j)) ţ:=Kr λi j h=>by unfold iI at h;simpa[Hx] using h
def FT(_ j:Int):Bool:=decide (j≠0)
def ı:=Fd FT λi j=>i.fmod j
def Zb1:iy K (mI (λ_ j=>j≠0) λi j=>.int (i.fmod j)) ı:=Kr λi j h=>by unfold FT at h;simpa using h
def uR(i j:Int):Bool:=decide (0<=j) && decide (j.natAbs<=1000000) && decide (i.natAbs<18446744073709551616)
def ou:=Fd uR λi j=>i ^ j.toNat
def nu:iy K (mI Hj λi j=>.int (i ^ j.toNat)) ou:=Kr λi j h=>by
 unfold uR at h
 simp only[Bool.and_eq_true,decide_eq_true_eq] at h
 exact⟨h.1.1,by omega,by have:=h.2;simpa using this⟩
def bW(i j:Int):Bool:=decide (0<=j) && decide (j.natAbs<=1000000) && decide (i.natAbs<18446744073709551616)
def lA:=Fd bW λi j=>i*2 ^ j.toNat
def jW:iy K (mI Hj λi j=>.int (i*2 ^ j.toNat)) lA:=Kr λi j h=>by
 unfold bW at h
 simp only[Bool.and_eq_true,decide_eq_true_eq] at h
 exact⟨h.1.1,by omega,by have:=h.2;simpa using this⟩
def zG(_ j:Int):Bool:=decide (0<=j)
def lB:=Fd zG λi j=>i / 2 ^ j.toNat
def qK:iy K (mI (λ_ j=>0<=j) λi j=>.int (i / 2 ^ j.toNat)) lB:=Kr λi j h=>by unfold zG at h;simpa using h
def qL:=t_ λi j=>Builtin.bitAnd i j
def FW:=t_ λi j=>Builtin.bitOr i j
def FZ:iy K (zj λi j=>.int (Builtin.bitAnd i j)) qL:=Kq
def Zb2:iy K (zj λi j=>.int (Builtin.bitOr i j)) FW:=Kq
def jX:Ű X (binaryOp .LShift) (mI Hj λi j=>.int (i*2 ^ j.toNat)):=Ű.wk Zbj uK
def qM:Ű X (binaryOp .RShift) (mI (λ_ j=>0<=j) λi j=>.int (i / 2 ^ j.toNat)):=Ű.wk Zbk uK
def Ga:Ű X (binaryOp .BitAnd) (zj λi j=>.int (Builtin.bitAnd i j)):=Ű.wk Zbl jU
def Zb3:Ű X (binaryOp .BitOr) (zj λi j=>.int (Builtin.bitOr i j)):=Ű.wk Zd2 jU
def lC:=opC λi j=>decide (i<j)
def lE:=opC λi j=>decide (i<=j)
def Rj:=opC λi j=>decide (j<i)
def Ks:=opC λi j=>decide (j<=i)
def gD:iy K (zj λi j=>.bl (decide (i<j))) lC:=Ri
def gF:iy K (zj λi j=>.bl (decide (i<=j))) lE:=Ri
def Tn:iy K (zj λi j=>.bl (decide (j<i))) Rj:=Ri
def Zez:iy K (zj λi j=>.bl (decide (j<=i))) Ks:=Ri
def ō(i j:Int):Bool:=decide (i.natAbs<18446744073709551616) || decide (j.natAbs<18446744073709551616) || (decide (bits i<=1048576) && decide (bits j<=1048576))
def Ku{i j:Int}(h:ō i j=true):uL i j:=by
 unfold ō at h
 simp only[Bool.or_eq_true,Bool.and_eq_true,decide_eq_true_eq] at h
 rcases h with(h|h)|h
 ·exact .inl (.inl ⟨by omega,by omega⟩)
 ·exact .inl (.inr ⟨by omega,by omega⟩)
 ·exact .inr h
def Ĥ:PV->PV->Option PV
 | .int i,.int j=>if ō i j=true then some (.int (i*j)) else none
 | .str z,.int n=>if 0<=n/\n<=1000/\z.length<=1000 then some (.str (S (List.replicate n.toNat z.cps.toList).flatten)) else none
 |_,_=>none
def Zb4:iy K JT Ĥ:=by
 intro c F H σ ρ p q pv v u Q rel r1 r2 e k
 unfold Ĥ at e
 split at e
 ·split at e
  ·rename_i hc
   cases e
   cases r1.int
   cases r2.int
   exact⟨Ku hc,k _ F H rel (Same.refl _) (Same.refl _) Rep.int⟩
  ·cases e
 ·split at e
  ·rename_i hc
   cases e
   cases r1.str
   cases r2.int
   exact⟨hc,k _ F H rel (Same.refl _) (Same.refl _) Rep.str⟩
  ·cases e
 ·cases e
variable{E:L2.St->XK}{a b e:Expr}{es:List Expr}{pos:Pos}{ma mb:M PV}{mr:M (List PV)}
def cU:PV->Option PV
 | .int i=>some (.int (-i))
 |_=>none
def cu:UnV K (mU λi=>.int (-i)) cU:=by
 intro c F H σ ρ p pv v Q rel r1 e k
 unfold cU at e
 split at e
 ·cases e
  cases r1.int
  exact k _ F H rel (Same.refl _) (Same.refl _) Rep.int
 ·cases e
mutual
def eqB:PV->PV->Bool
 | .non,.non=>true
 | .bl a,.bl b=>a== b
 | .bl a,.int j=>(if a then 1 else 0)== j
 | .int i,.bl b=>i== (if b then 1 else 0)
 | .int i,.int j=>i== j
 | .str x,.str y=>x== y
 | .lst xs,.lst ys=>fY xs ys
 | .tup xs,.tup ys=>fY xs ys
 |_,_=>false
def fY:List PV->List PV->Bool
 | [],[]=>true
 |x::xs,y::ys=>eqB x y && fY xs ys
 |_,_=>false
end
mutual
def aj:PV->Bool
 | .non| .bl _| .int _=>true
 | .str x=>PyData.strOk x
 | .lst xs=>aX xs
 | .tup xs=>aX xs
 |_=>false
def aX:List PV->Bool
 | []=>true
 |x::xs=>aj x && aX xs
end
mutual
def dep:PV->Nat
 | .lst xs=>jY xs+1
 | .tup xs=>jY xs+1
 |_=>0
def jY:List PV->Nat
 | []=>0
 |x::xs=>max (dep x) (jY xs)
end
mutual
def toD:PV->PyData
 | .non=>.none
 | .bl b=>.bool b
 | .int i=>.int i
 | .str x=>.str x
 | .lst xs=>.list (fC xs)
 | .tup xs=>.tuple (fC xs)
 |_=>.none
def fC:List PV->List PyData
 | []=>[]
 |x::xs=>toD x::fC xs
end
mutual
theorem fZ:∀p:PV,aj p=true->(toD p).canLay0=true
 | .non,_=>rfl
 | .bl _,_=>rfl
 | .int _,_=>rfl
 | .str x,h=>by unfold aj at h;unfold toD PyData.canLay0;exact h
 | .lst xs,h=>by unfold aj at h;unfold toD PyData.canLay0;exact iJ xs h
 | .tup xs,h=>by unfold aj at h;unfold toD PyData.canLay0;exact iJ xs h
 | .ins _ _ _,h=>by simp[aj] at h
 | .xc _ _ _,h=>by simp[aj] at h
 | .ty _,h=>by simp[aj] at h
 | .cls _,h=>by simp[aj] at h
theorem iJ:∀ps:List PV,aX ps=true->PyData.canLayAll0 (fC ps)=true
 | [],_=>rfl
 |p::ps,h=>by
  unfold aX at h
  rw[Bool.and_eq_true] at h
  unfold fC PyData.canLayAll0
  rw[fZ p h.1,iJ ps h.2]
  rfl
end
mutual
theorem gb:∀p:PV,(toD p).depth=dep p
 | .non=>rfl
 | .bl _=>rfl
 | .int _=>rfl
 | .str x=>rfl
 | .lst xs=>by unfold toD PyData.depth dep;rw[qN xs]
 | .tup xs=>by unfold toD PyData.depth dep;rw[qN xs]
 | .ins _ _ _=>rfl
 | .xc _ _ _=>rfl
 | .ty _=>rfl
 | .cls _=>rfl
theorem qN:∀ps:List PV,PyData.depthAll (fC ps)=jY ps
 | []=>rfl
 |p::ps=>by unfold fC PyData.depthAll jY;rw[gb p,qN ps]
end
mutual
theorem wF:∀p q:PV,aj p=true->aj q=true->PyData.eqv (toD p) (toD q)=eqB p q
 | .lst xs,.lst ys,h1,h2=>by
   unfold aj at h1 h2
   unfold toD eqB PyData.eqv
   exact wG xs ys h1 h2
 | .tup xs,.tup ys,h1,h2=>by
   unfold aj at h1 h2
   unfold toD eqB PyData.eqv
   exact wG xs ys h1 h2
 | .ins _ _ _,_,h,_=>by simp[aj] at h
 | .xc _ _ _,_,h,_=>by simp[aj] at h
 | .ty _,_,h,_=>by simp[aj] at h
 | .cls _,_,h,_=>by simp[aj] at h
 | .non,q,_,h=>by cases q<;>first|rfl|(simp[aj] at h)|(simp[toD,eqB,PyData.eqv])
 | .bl _,q,_,h=>by cases q<;>first|rfl|(simp[aj] at h)|(simp[toD,eqB,PyData.eqv])
 | .int _,q,_,h=>by cases q<;>first|rfl|(simp[aj] at h)|(simp[toD,eqB,PyData.eqv])
 | .str _,q,_,h=>by cases q<;>first|rfl|(simp[aj] at h;done)|(simp[toD,eqB,PyData.eqv])
 | .lst _,.non,_,_=>by simp[toD,eqB,PyData.eqv]
 | .lst _,.bl _,_,_=>by simp[toD,eqB,PyData.eqv]
 | .lst _,.int _,_,_=>by simp[toD,eqB,PyData.eqv]
 | .lst _,.str _,_,_=>by simp[toD,eqB,PyData.eqv]
 | .lst _,.tup _,_,_=>by simp[toD,eqB,PyData.eqv]
 | .lst _,.ins _ _ _,_,h=>by simp[aj] at h
 | .lst _,.xc _ _ _,_,h=>by simp[aj] at h
 | .lst _,.ty _,_,h=>by simp[aj] at h
 | .lst _,.cls _,_,h=>by simp[aj] at h
 | .tup _,.non,_,_=>by simp[toD,eqB,PyData.eqv]
 | .tup _,.bl _,_,_=>by simp[toD,eqB,PyData.eqv]
 | .tup _,.int _,_,_=>by simp[toD,eqB,PyData.eqv]
 | .tup _,.str _,_,_=>by simp[toD,eqB,PyData.eqv]
 | .tup _,.lst _,_,_=>by simp[toD,eqB,PyData.eqv]
 | .tup _,.ins _ _ _,_,h=>by simp[aj] at h
 | .tup _,.xc _ _ _,_,h=>by simp[aj] at h
 | .tup _,.ty _,_,h=>by simp[aj] at h
 | .tup _,.cls _,_,h=>by simp[aj] at h
theorem wG:∀ps qs:List PV,aX ps=true->aX qs=true->PyData.eqvAll (fC ps) (fC qs)=fY ps qs
 | [],[],_,_=>by simp[fC,fY,PyData.eqvAll]
 | [],_::_,_,_=>by simp[fC,fY,PyData.eqvAll]
 |_::_,[],_,_=>by simp[fC,fY,PyData.eqvAll]
 |p::ps,q::qs,h1,h2=>by
  unfold aX at h1 h2
  rw[Bool.and_eq_true] at h1 h2
  unfold fC fY PyData.eqvAll
  rw[wF p q h1.1 h2.1,wG ps qs h1.2 h2.2]
end
mutual
theorem Kv{F:Hp}:∀(p:PV) (v:V),aj p=true->Rep K F p v->Rp K.K F (toD p) v
 | .non,_,_,r=>by unfold Rep at r;unfold toD Rp;exact r
 | .bl _,_,_,r=>by unfold Rep at r;unfold toD Rp;exact r
 | .int _,_,_,r=>by unfold Rep at r;unfold toD Rp;exact r
 | .str _,_,_,r=>by unfold Rep at r;unfold toD Rp;exact r
 | .lst xs,_,h,r=>by
   unfold aj at h
   unfold Rep at r
   unfold toD Rp
   obtain⟨a,vs,h1,h2,h3⟩:=r
   exact⟨a,vs,h1,h2,jq xs vs h h3⟩
 | .tup xs,_,h,r=>by
   unfold aj at h
   unfold Rep at r
   unfold toD Rp
   obtain⟨a,vs,h1,h2,h3⟩:=r
   exact⟨a,vs,h1,h2,jq xs vs h h3⟩
 | .ins _ _ _,_,h,_=>by simp[aj] at h
 | .xc _ _ _,_,h,_=>by simp[aj] at h
 | .ty _,_,h,_=>by simp[aj] at h
 | .cls _,_,h,_=>by simp[aj] at h
theorem jq{F:Hp}:∀(ps:List PV) (vs:List V),aX ps=true->ĝ K F ps vs->ni K.K F (fC ps) vs
 | [],_,_,r=>by unfold ĝ at r;unfold fC ni;exact r
 |p::ps,_,h,r=>by
  unfold aX at h
  rw[Bool.and_eq_true] at h
  unfold ĝ at r
  unfold fC ni
  obtain⟨x,t,h1,h2,h3⟩:=r
  exact⟨x,t,h1,Kv p x h.1 h2,jq ps t h.2 h3⟩
end
def jr{c:Ctx}{F H:Hp}{σ:L2.St}{ρ:ŋ}{p:PV}{v:V}(s:Same F H)(h:aj p=true)(r:rR K c σ ρ F H p v):Rp K.K H (toD p) v:=by
 rcases r with r|r
 ·exact Rp.same s _ _ (Kv p v h r)
 ·cases p with
  |lst ps=>
   obtain⟨a,vs,rfl,h3,h4⟩:=r
   unfold aj at h
   unfold toD Rp
   exact⟨a,vs,rfl,ų.of h3,ni.same s _ _ (jq ps vs h h4)⟩
  |ins C ns ps=>simp[aj] at h
  |_=>exact r.elim
def um(p q:PV):Bool:=aj p && aj q && decide (min (dep p) (dep q)<=60)
def ŧ(p q:PV):Option PV:=if um p q=true then some (.bl (eqB p q)) else none
def aH(p q:PV):Option PV:=if um p q=true then some (.bl (!eqB p q)) else none
def Tp:iy K (Qw K.K false) ŧ:=by
 intro c F H σ ρ p q pv v u Q rel r1 r2 e k
 unfold ŧ at e
 split at e
 ·rename_i hz
  cases e
  unfold um at hz
  simp only[Bool.and_eq_true,decide_eq_true_eq] at hz
  refine⟨toD p,toD q,jr rel.sub hz.1.1 r1,jr rel.sub hz.1.2 r2,fZ p hz.1.1,fZ q hz.1.2,by rw[gb,gb];exact hz.2,?_⟩
  rw[wF p q hz.1.1 hz.1.2]
  exact k _ F H rel (Same.refl _) (Same.refl _) Rep.bl
 ·cases e
def Kw:iy K (Qw K.K true) aH:=by
 intro c F H σ ρ p q pv v u Q rel r1 r2 e k
 unfold aH at e
 split at e
 ·rename_i hz
  cases e
  unfold um at hz
  simp only[Bool.and_eq_true,decide_eq_true_eq] at hz
  refine⟨toD p,toD q,jr rel.sub hz.1.1 r1,jr rel.sub hz.1.2 r2,fZ p hz.1.1,fZ q hz.1.2,by rw[gb,gb];exact hz.2,?_⟩
  rw[wF p q hz.1.1 hz.1.2]
  exact k _ F H rel (Same.refl _) (Same.refl _) Rep.bl
 ·cases e
def nA:PV->Bool
 | .non=>true
 |_=>false
def uo(p q:PV):Option PV:=match q with
 | .non=>some (.bl (nA p))
 |_=>none
def cJ(p q:PV):Option PV:=match q with
 | .non=>some (.bl (!nA p))
 |_=>none
def Gb{c:Ctx}{F H:Hp}{σ:L2.St}{ρ:ŋ}{p:PV}{v:V}(r:rR K c σ ρ F H p v):decide (v=.non)=nA p:=by
 rcases r with r|r
 ·cases p<;>unfold Rep at r<;>first
   |(subst r;rfl)
   |(obtain⟨a,xs,rfl,_⟩:=r;rfl)
   |(obtain⟨a,xs,ys,rfl,_⟩:=r;rfl)
 ·cases p with
  |lst ps=>obtain⟨a,vs,rfl,_⟩:=r;rfl
  |ins C ns ps=>obtain⟨a,dx,fs,rfl,_⟩:=r;rfl
  |_=>exact r.elim
def zH:iy K (λx y H Q=>y=.non/\Q (.bl (decide (x=.non))) H) uo:=by
 intro c F H σ ρ p q pv v u Q rel r1 r2 e k
 unfold uo at e
 split at e
 ·cases e
  refine⟨r2.non,?_⟩
  rw[Gb r1]
  exact k _ F H rel (Same.refl _) (Same.refl _) Rep.bl
 ·cases e
def fG:iy K (λx y H Q=>y=.non/\Q (.bl (!decide (x=.non))) H) cJ:=by
 intro c F H σ ρ p q pv v u Q rel r1 r2 e k
 unfold cJ at e
 split at e
 ·cases e
  refine⟨r2.non,?_⟩
  rw[Gb r1]
  exact k _ F H rel (Same.refl _) (Same.refl _) Rep.bl
 ·cases e
def Ĕ:PV->PV->Option PV
 | .lst ps,.int i=>uf ps i
 | .tup ps,.int i=>uf ps i
 | .str z,.int i=>if z.length<=16777216 then(uf z.cps.toList i).map λc=>.str ⟨#[c]⟩ else none
 |_,_=>none
def Gd{F:Hp}{ps:List PV}{vs:List V}{i:Int}{p:PV}(r:ĝ K F ps vs)(h:uf ps i=some p):∃v,uf vs i=some v/\Rep K F p v:=by
 unfold uf at h ⊢
 rw[r.length] at h
 cases e:BZ vs.length i with
 |none=>rw[e] at h;cases h
 |some j=>
  rw[e] at h
  obtain⟨v,h1,h2⟩:=bJ r.pr h
  exact⟨v,h1,h2⟩
def ZeA:iy K (mIx K.K) Ĕ:=by
 intro c F H σ ρ p q pv v u Q rel r1 r2 e k
 unfold Ĕ at e
 split at e
 ·obtain⟨a,vs,rfl,h1,h2⟩:=r1.lst rel.sub
  cases r2.int
  obtain⟨x,h3,h4⟩:=Gd h2 e
  exact⟨vs,x,.inl h1,h3,k _ F H rel (Same.refl _) (Same.refl _) h4⟩
 ·obtain⟨a,vs,rfl,h1,h2⟩:=r1.tup rel.sub
  cases r2.int
  obtain⟨x,h3,h4⟩:=Gd h2 e
  exact⟨vs,x,.inr h1,h3,k _ F H rel (Same.refl _) (Same.refl _) h4⟩
 ·split at e
  ·rename_i z i hz
   cases r1.str
   cases r2.int
   cases ea:uf z.cps.toList i with
   |none=>rw[ea] at e;cases e
   |some cc=>
    rw[ea] at e
    cases e
    exact⟨cc,by rw[Ō];exact hz,ea,k _ F H rel (Same.refl _) (Same.refl _) Rep.str⟩
  ·cases e
 ·cases e
def zJ:M (Option Int):=λρ=>.ok none ρ
def mP(m:M PV):M (Option Int):=λρ=>(m ρ).bind λp ρ1=>match p with
 | .int i=>.ok (some i) ρ1
 |_=>.bad
abbrev tP(K:KK)(E:L2.St->XK)(m:M (Option Int)):TO:=tG K E rI m
def qO:PO X none (tP (kk X cm) E zJ):=λpins s σ H Q I h=>Qm pins s σ H Q I (by
 obtain⟨c,F,ρ,rel,h⟩:=h
 exact h none F H rel (Same.refl _) (Same.refl _) rfl)
def ŭ(ha:PE X e (tV (kk X cm) E ma)):PO X (some e) (tP (kk X cm) E (mP ma)):=λpins s σ H Q I h=>JF ha pins s σ H Q I (by
 obtain⟨c,F,ρ,rel,h⟩:=h
 refine⟨c,F,ρ,rel,h.bind λp ρ1 v F1 H1 ě _ _ r1 h1=>?_⟩
 cases p with
 |int i=>
  have e:v=.int i:=by have r1':Rep (kk X cm) F1 (.int i) v:=r1;unfold Rep at r1';exact r1'
  subst e
  exact h1 (some i) F1 H1 ě (Same.refl _) (Same.refl _) rfl
 |_=>exact h1.elim)
def Ŭ{α:Type}(xs:List α)(lo hi:Option Int):List α:= (xs.drop (HT.jm xs.length 0 lo)).take (HT.jm xs.length xs.length hi-HT.jm xs.length 0 lo)
def Pq(p:PV)(lo hi:Option Int):Option RV:=match p with
 | .lst ps=>some (.ow (Ŭ ps lo hi))
 | .str z=>if z.length<=16777216 then some (.sh (.str (S (Ŭ z.cps.toList lo hi)))) else none
 |_=>none
def tK(ma:M PV)(ml mh:M (Option Int)):M RV:=λρ=>(ma ρ).bind λp ρ1=>(ml ρ1).bind λlo ρ2=>(mh ρ2).bind λhi ρ3=>Res.n_ (Pq p lo hi) ρ3
def aK{ml mh:M (Option Int)}{lo hi:Option Expr}{p2:Pos}(ha:PE X a (tR (kk X cm) E ma))(hl:PO X lo (tP (kk X cm) E ml))(hh:PO X hi (tP (kk X cm) E mh)):PE X (.Subscript a (.Slice lo hi none p2) pos) (tO (kk X cm) E (tK ma ml mh)):=
 PE.wk (Jt slm ha hl hh) fun σ H Q ⟨c,F,ρ,rel,h⟩=>⟨c,F,ρ,rel,h.bind fun p ρ1 v F1 H1 ě _ _ r1 h1=>⟨c,F1,ρ1,ě,h1.bind fun lo ρ2 lo' F2 H2 ļ sF sH r2 h2=>⟨c,F2,ρ2,ļ,h2.bind fun hi ρ3 hi' F3 H3 lu sF3 sH3 r3 h3=>by
   have e2:lo=lo':=r2
   have e3:hi=hi':=r3
   subst e2 e3
   have r1':rR (kk X cm) c σ ρ3 F3 H3 p v:=r1.mono (sF.trans sF3) (sH.trans sH3)
   cases p with
   |lst ps=>
    obtain⟨a,vs,rfl,q1,q2⟩:=r1'.lst lu.sub
    refine⟨vs,q1,λd hd=>?_⟩
    have e:ĝ (kk X cm) F3 (Ŭ ps lo hi) (za vs lo hi):=by
     unfold Ŭ za
     rw[q2.length]
     exact ĝ.of (Fv _ (Fw _ q2.pr))
    obtain⟨z1,z2⟩:=iB lu hd e
    exact h3 _ F3 _ z1 (Same.refl _) (Same.upd hd) z2
   |str z=>
    cases r1'.str
    unfold Pq at h3
    dsimp only at h3
    split at h3
    ·rename_i hz
     exact⟨by rw[Ō];exact hz,h3 _ F3 H3 lu (Same.refl _) (Same.refl _) (Rep.str (K:=kk X cm) (F:=F3))⟩
    ·exact h3.elim
   |_=>exact h3.elim⟩⟩⟩
def zK{c:Ctx}{F H:Hp}{σ:L2.St}{ρ:ŋ}{p:PV}{vs:List V}(h:rRL K c σ ρ F H [p] vs):∃v,vs=[v]/\rR K c σ ρ F H p v:=by
 cases h with
 |cons r t=>cases t;exact⟨_,rfl,r⟩
def rl2{c:Ctx}{F H:Hp}{σ:L2.St}{ρ:ŋ}{p q:PV}{vs:List V}(h:rRL K c σ ρ F H [p,q] vs):∃v u,vs=[v,u]/\rR K c σ ρ F H p v/\rR K c σ ρ F H q u:=by
 cases h with
 |cons r t=>
  cases t with
  |cons r' t=>cases t;exact⟨_,_,rfl,r,r'⟩
def aY:List PV->Option PV
 | [.lst ps]=>some (.int ps.length)
 | [.tup ps]=>some (.int ps.length)
 | [.str z]=>if z.length<=16777216 then some (.int z.length) else none
 |_=>none
def š:cT K (ZbL K.K) aY:=by
 intro c F H σ ρ ps pv vs Q rel r e k
 unfold aY at e
 split at e
 ·cases e
  obtain⟨v,rfl,r1⟩:=zK r
  obtain⟨a,xs,rfl,h1,h2⟩:=r1.lst rel.sub
  refine⟨xs,.inl h1,?_⟩
  rw[<-h2.length]
  exact k _ F H rel (Same.refl _) (Same.refl _) Rep.int
 ·cases e
  obtain⟨v,rfl,r1⟩:=zK r
  obtain⟨a,xs,rfl,h1,h2⟩:=r1.tup rel.sub
  refine⟨xs,.inr h1,?_⟩
  rw[<-h2.length]
  exact k _ F H rel (Same.refl _) (Same.refl _) Rep.int
 ·split at e
  ·rename_i hz
   cases e
   obtain⟨v,rfl,r1⟩:=zK r
   cases r1.str
   exact⟨by rw[Ō];exact hz,k _ F H rel (Same.refl _) (Same.refl _) Rep.int⟩
  ·cases e
 ·cases e
def Rk:List PV->Option PV
 | [.int i]=>some (.int (if i<0 then -i else i))
 |_=>none
def Zb5:cT K mAbs Rk:=by
 intro c F H σ ρ ps pv vs Q rel r e k
 unfold Rk at e
 split at e
 ·cases e
  obtain⟨v,rfl,r1⟩:=zK r
  cases r1.int
  exact k _ F H rel (Same.refl _) (Same.refl _) Rep.int
 ·cases e
def uT:List PV->Option PV
 | [.int i,.int j]=>some (.int (if j<i then j else i))
 |_=>none
def Ge:List PV->Option PV
 | [.int i,.int j]=>some (.int (if j>i then j else i))
 |_=>none
def wH:cT K JC uT:=by
 intro c F H σ ρ ps pv vs Q rel r e k
 unfold uT at e
 split at e
 ·cases e
  obtain⟨v,u,rfl,r1,r2⟩:=rl2 r
  cases r1.int
  cases r2.int
  exact k _ F H rel (Same.refl _) (Same.refl _) Rep.int
 ·cases e
def Rm:cT K JD Ge:=by
 intro c F H σ ρ ps pv vs Q rel r e k
 unfold Ge at e
 split at e
 ·cases e
  obtain⟨v,u,rfl,r1,r2⟩:=rl2 r
  cases r1.int
  cases r2.int
  exact k _ F H rel (Same.refl _) (Same.refl _) Rep.int
 ·cases e
def bH:List PV->Option RV
 | [.lst ps]=>some (.ow ps)
 | [.tup ps]=>some (.ow ps)
 |_=>none
def Gf(K:PySem.W.Frag):List V->Hp->VK->Prop:=λxs H Q=>∃p ys,xs=[.ref p]/\(ų K H p ys\/dw K H p ys)/\∀l,H l=none->Q (.ref l) (upd H l (.lst ys))
def aZ:Ŏ X (.type "list") (Gf X.K):=wj
def bf:Kg K (Gf K.K) bH:=by
 intro c F H σ ρ ps pv vs Q rel r e k
 unfold bH at e
 split at e
 ·cases e
  obtain⟨v,rfl,r1⟩:=zK r
  obtain⟨a,xs,rfl,h1,h2⟩:=r1.lst rel.sub
  refine⟨a,xs,rfl,.inl h1,λl hl=>?_⟩
  obtain⟨q1,q2⟩:=iB rel hl h2
  exact k _ F _ q1 (Same.refl _) (Same.upd hl) q2
 ·cases e
  obtain⟨v,rfl,r1⟩:=zK r
  obtain⟨a,xs,rfl,h1,h2⟩:=r1.tup rel.sub
  refine⟨a,xs,rfl,.inr h1,λl hl=>?_⟩
  obtain⟨q1,q2⟩:=iB rel hl h2
  exact k _ F _ q1 (Same.refl _) (Same.upd hl) q2
 ·cases e
def uq:PV->String->Option Bool
 | .int _,"int" =>some true
 | .int _,"bool" =>some false
 | .int _,"str" =>some false
 | .int _,"tuple" =>some false
 | .int _,"list" =>some false
 | .bl _,"int" =>some true
 | .bl _,"bool" =>some true
 | .lst _,"list" =>some true
 | .lst _,"tuple" =>some false
 | .lst _,"int" =>some false
 | .lst _,"str" =>some false
 | .tup _,"tuple" =>some true
 | .tup _,"list" =>some false
 | .tup _,"int" =>some false
 | .tup _,"str" =>some false
 | .str _,"str" =>some true
 | .str _,"int" =>some false
 | .str _,"list" =>some false
 | .str _,"tuple" =>some false
 | .non,"int" =>some false
 | .non,"str" =>some false
 | .non,"tuple" =>some false
 | .non,"list" =>some false
 |_,_=>none
end
theorem zL{K:KK}{F:Hp}:∀ns:List Int,ĝ K F (ns.map .int) (ns.map V.int)
 | []=>ĝ.nil
 |n::ns=>ĝ.cons Rep.int (zL ns)
def ZeB(K:PySem.W.Frag):Sp:=λvs H Q _=>∃(sa:Addr) (ns:List Int),vs=[.ref sa]/\ų K H sa (ns.map V.int)/\ns.length<=63/\∀v H',v=.bl true->Q v H'
def Ky{l:PySem.W.OpenLaw}{k:Nat}{x:Str}{CX:mY}{m:MF}{q:Program}{loose:List Str}{XP:(Str->Option Value)->Heap->Prop}{YP:World->Heap->Prop}{d:DefRec}{K:Params->PySem.W.Frag}(hn:l.most=some 63)(hdf:d.params.defaults=[])(hr:ű k callerA)
 (hY:∀(w:World) (h:Heap),YP w h->(K w.params).In h)
 (F:∀(w:World) (mg:Str→Option Value) (fa:Addr) (h:Heap),(K w.params).In h→h.Ns mainGlobals mg→mg d.name=some (.ref fa)→
   ∃fd:FuncData,(∀(s:Shared) (u:Value),BindsTo s fd ⟨[u],[]⟩ [(x,u)])/\∀base:Heap,(K w.params).In base->base.Ns mainGlobals mg->∃cm,Ħ l.prog w (K w.params) mg base CX k fa fd [x] (Ŗ ⟨K w.params,cm⟩ 1 m))
 (ht:∀ns:List Int,ns.length<=63->m [.sh (.lst (ns.map .int))]=.ret (.sh (.bl true)))
 (hCX:∀(H:Hp) (s:Shared) (e:Value) (s':Shared),CX [] H s (λ_ _ _=>False) e s'->False)
 (hnt:lams≠[]->∀w:World,PySem.W.noTabs (K w.params)=true:=by intro z;exact absurd rfl z)(hone:∀y z,y∈lams->z∈lams->y=z:=by simp[lams])(hrec:∀y,y∈lams->∃d,(recsOf q).find? (λe=>e.name== y)=some d:=by simp[lams]) :
 PySem.W.WalkO q loose XP YP l.row.toRowW d [] (λf vs=>PySem.call f vs):=by
 refine L2.Qq (n:=63) (k:=k) (x:=x) (CX:=λ_=>CX) (sp:=λw=>ZeB (K w.params)) hn (by decide) hdf hr hY (λw mg fa h h1 h2 h3=>?_) (λw H a ns hl _ hS=>⟨a,ns,rfl,hS,hl,λ_ _ z=>z⟩) (λw H s e s' z=>hCX H s e s' z) hnt hone hrec
 obtain⟨fd,hb,hF⟩:=F w mg fa h h1 h2 h3
 refine⟨fd,hb,λbase k1 k2=>?_⟩
 obtain⟨cm,G⟩:=hF base k1 k2
 refine G.imp λvs H Q E hs=>?_
 obtain⟨sa,ns,rfl,hS,hl,hq⟩:=hs
 refine⟨H,[.sh (.lst (ns.map .int))],rfl,Same.refl _,.cons ?_ .nil,?_⟩
 ·show Rep _ _ _ _
  unfold Rep
  exact⟨sa,_,rfl,hS,zL ns⟩
 ·rw[ht ns hl]
  intro v F' H' g rf
  have e:v=.bl true:=wC (K:=⟨K w.params,cm⟩) (F:=F') rf
  exact hq v H' e
end P
namespace P
open PySem PySem.Spec PyProof.Rows L2 M2 M3 M4
section
variable{X:Cx}{cm:String->Addr}{K:KK}
def TyP(K:PySem.W.Frag)(H:Hp)(x:V)(t:Value):Prop:=match x with
 | .non=>t=.type "NoneType"
 | .bl _=>t=.type "bool"
 | .int _=>t=.type "int"
 | .str _=>t=.type "str"
 | .ref a=>(t=.type "list" /\∃xs,ų K H a xs)\/(t=.type "tuple" /\∃xs,dw K H a xs)\/mX K H (.ref a) t
 |_=>False
def Kz(K:PySem.W.Frag):List V->Hp->VK->Prop:=λxs H Q=>match xs with
 | [x,.ty n]=>∃t b,TyP K H x t/\PySem.W.kitOne K t (.type n)=some b/\Q (.bl b) H
 | [x,.ref C]=>∃t b,TyP K H x t/\PySem.W.kitOne K t (.ref C)=some b/\Q (.bl b) H
 |_=>False
def Gg{pins:List (Addr×Obj)}{σ:L2.St}{H:Hp}{s:Shared}{A:Around}{E:Value->Shared->Prop}{Q:Value->Shared->Prop}{c:Value}{b:Bool}{x:V}{u t:Value}(I:Inv X pins σ H s)(rx:RelV x u)(ty:TyP X.K H x t)(e:PySem.W.kitOne X.K t c=some b)(h:∀tk,Q (.bool b) {s with toks:=tk}) :
 wpAny (model X.prog X.w) A (call (.builtin "isinstance") [u,c]) Q E s:=by
 cases x with
 |non=>cases(show t=_ from ty);exact eV I rx .non e h
 |bl y=>cases(show t=_ from ty);exact eV I rx (.bl y) e h
 |int y=>cases(show t=_ from ty);exact eV I rx (.int y) e h
 |str y=>cases(show t=_ from ty);exact eV I rx (.str y) e h
 |ref a=>
  cases(show u=Value.ref a from rx)
  rcases ty with⟨rfl,xs,hS⟩|⟨rfl,xs,hS⟩|ty
  ·obtain⟨its,r,⟨o,n,h1,h2,_⟩,_⟩:=I.list hS
   exact PySem.W.kia_one PySem.W.kitx_list I.nU ⟨o,h1,h2⟩ e (λz=>nomatch z) h
  ·obtain⟨its,r,⟨o,h1,h2,_⟩,_⟩:=I.tuple hS
   exact PySem.W.kia_one PySem.W.kitx_tuple I.nU ⟨o,h1,h2⟩ e (λz=>nomatch z) h
  ·exact eV I rx ty e h
 |_=>exact ty.elim
def wI:Ŏ X (.builtin "isinstance") (Kz X.K):=by
 intro pins s σ H xs us Q I r h
 unfold Kz at h
 split at h
 ·obtain⟨t,b,h1,h2,h3⟩:=h
  obtain⟨u,w',rfl,r1,r2⟩:=vals2 r
  cases r2
  exact Gg I r1 h1 h2 λtk=>⟨.bl b,H,I.tok _,rfl,h3⟩
 ·obtain⟨t,b,h1,h2,h3⟩:=h
  obtain⟨u,w',rfl,r1,r2⟩:=vals2 r
  cases r2
  exact Gg I r1 h1 h2 λtk=>⟨.bl b,H,I.tok _,rfl,h3⟩
 ·exact h.elim
def tyN:PV->String
 | .non=> "NoneType"
 | .bl _=> "bool"
 | .int _=> "int"
 | .str _=> "str"
 | .lst _=> "list"
 | .tup _=> "tuple"
 |_=> ""
def KC{F:PySem.W.Frag}{p:PV}{n:String}{b:Bool}(h:uq p n=some b):PySem.W.kitOne F (.type (tyN p)) (.type n)=some b:=by
 unfold uq at h
 split at h<;>first
  |(cases h;first|rfl|decide +kernel|kernel_rfl)
  |cases h
def Rn{c:Ctx}{F H:Hp}{σ:L2.St}{ρ:ŋ}{p:PV}{v:V}(s:Same F H)(r:rR K c σ ρ F H p v)(h:∃n b,uq p n=some b):TyP K.K H v (.type (tyN p)):=by
 obtain⟨n,b,h⟩:=h
 cases p with
 |non=>cases r.non;rfl
 |bl _=>cases r.bl;rfl
 |int _=>cases r.int;rfl
 |str _=>cases r.str;rfl
 |lst ps=>
  obtain⟨a,vs,rfl,h1,h2⟩:=r.lst s
  exact .inl ⟨rfl,vs,h1⟩
 |tup ps=>
  obtain⟨a,vs,rfl,h1,h2⟩:=r.tup s
  exact .inr (.inl ⟨rfl,vs,h1⟩)
 |ins _ _ _=>simp[uq] at h
 |xc _ _ _=>simp[uq] at h
 |ty _=>simp[uq] at h
 |cls _=>simp[uq] at h
def pI:List PV->Option PV
 | [p,.ty n]=>(uq p n).map .bl
 |_=>none
def wJ:cT K (Kz K.K) pI:=by
 intro c F H σ ρ ps pv vs Q rel r e k
 unfold pI at e
 split at e
 ·rename_i p n
  obtain⟨v,u,rfl,r1,r2⟩:=rl2 r
  cases r2.ty
  cases eb:uq p n with
  |none=>rw[eb] at e;cases e
  |some b=>
   rw[eb] at e
   cases e
   exact⟨_,b,Rn rel.sub r1 ⟨n,b,eb⟩,KC eb,k _ F H rel (Same.refl _) (Same.refl _) Rep.bl⟩
 ·cases e
def qP:List PV->Option PV
 | [.lst ps]=>some (.tup ps)
 | [.tup ps]=>some (.tup ps)
 |_=>none
def KD(K:PySem.W.Frag):List V->Hp->VK->Prop:=λxs H Q=>∃p ys,xs=[.ref p]/\((ų K H p ys/\∀l,H l=none->Q (.ref l) (upd H l (.tup ys)))\/(dw K H p ys/\Q (.ref p) H))
def KH:Ŏ X (.type "tuple") (KD X.K):=uh
def KJ:cT K (KD K.K) qP:=by
 intro c F H σ ρ ps pv vs Q rel r e k
 unfold qP at e
 split at e
 ·cases e
  obtain⟨v,rfl,r1⟩:=zK r
  obtain⟨a,xs,rfl,h1,h2⟩:=r1.lst rel.sub
  refine⟨a,xs,rfl,.inl ⟨h1,λl hl=>k _ _ _ (rel.alloc hl) (Same.upd (rel.sub.free hl)) (Same.upd hl) ?_⟩⟩
  unfold Rep
  exact⟨l,xs,rfl,dw.of ĭ,ĝ.same (Same.upd (rel.sub.free hl)) _ _ h2⟩
 ·cases e
  obtain⟨v,rfl,r1⟩:=zK r
  have r1':=r1
  obtain⟨a,xs,rfl,h1,h2⟩:=r1.tup rel.sub
  refine⟨a,xs,rfl,.inr ⟨h1,k _ F H rel (Same.refl _) (Same.refl _) ?_⟩⟩
  rcases r1' with q|q
  ·exact q
  ·exact q.elim
 ·cases e
def boolsOf:List PV->Option (List Bool)
 | []=>some []
 | .bl b::ps=>(boolsOf ps).map (b:: ·)
 |_::_=>none
theorem uU{F:Hp}:∀{ps:List PV} {vs:List V} {bs:List Bool},ĝ K F ps vs->boolsOf ps=some bs->vs=bs.map V.bl
 | [],vs,bs,r,h=>by
   cases h
   have r':=r.pr
   cases r'
   rfl
 |p::ps,vs,bs,r,h=>by
  cases p with
  |bl b=>
   unfold boolsOf at h
   cases eb:boolsOf ps with
   |none=>rw[eb] at h;cases h
   |some cs=>
    rw[eb] at h
    cases h
    have r':=r.pr
    cases r' with
    |cons r1 t=>
     rw[wC r1,uU (ĝ.of t) eb]
     rfl
  |_=>simp[boolsOf] at h
def wK:List PV->Option PV
 | [.lst ps]=>(boolsOf ps).map λbs=>.bl (bs.all id)
 |_=>none
def wL:cT K (ZbO K.K) wK:=by
 intro c F H σ ρ ps pv vs Q rel r e k
 unfold wK at e
 split at e
 ·rename_i ps
  obtain⟨v,rfl,r1⟩:=zK r
  obtain⟨a,xs,rfl,h1,h2⟩:=r1.lst rel.sub
  cases eb:boolsOf ps with
  |none=>rw[eb] at e;cases e
  |some bs=>
   rw[eb] at e
   cases e
   refine⟨bs,by rw[<-uU h2 eb];exact h1,k _ F H rel (Same.refl _) (Same.refl _) Rep.bl⟩
 ·cases e
end
end P
namespace P
open PySem PySem.Spec PyProof.Rows L2 M2 M3 M4
section
variable{α β:Type}{ρ:ŋ}{i j n k:Nat}{p q:PV}{ps:List PV}{m ma mb mc:M PV}{mo:M RV}{a b:M Fl}{ta tb:M Bool}{mr:M (List PV)}{f:PV->PV->Option PV}{fo:PV->PV->Option RV}{fl:List PV->Option PV}{flo:List PV->Option RV}{g:Tg}{gs:Io}
@[simp] theorem ZhX:cj ρ=.ok .nx ρ:= rfl
@[simp] theorem ZgP:(HF:M α) ρ=.bad:=rfl
@[simp] theorem ZgQ:Ė a b ρ=(a ρ).bind λf ρ1=>match f with| .nx=>b ρ1|f=>.ok f ρ1:=rfl
@[simp] theorem ZgR:ġ i mo ρ=(mo ρ).bind λr ρ1=>.ok .nx (ρ1.set i r.slot):=rfl
@[simp] theorem ZgS:Ģ mo ρ=(mo ρ).bind λr ρ1=>.ok (.rt r) ρ1:=rfl
@[simp] theorem ZfD:zA m ρ=(m ρ).bind λ_ ρ1=>.ok .nx ρ1:=rfl
@[simp] theorem Zh_:mC p ρ=.ok p ρ:= rfl
@[simp] theorem ZhY:ņ m ρ=(m ρ).bind λp ρ1=>.ok (.sh p) ρ1:=rfl
@[simp] theorem ZgT:ċ mo ρ=(mo ρ).bind λr ρ1=>.ok r.val ρ1:=rfl
@[simp] theorem ZgU:(RV.sh p).val=p:=rfl
@[simp] theorem ZgV:(RV.ow ps).val=.lst ps:=rfl
@[simp] theorem ZgW:(RV.sh p).slot=.sh p:=rfl
@[simp] theorem ZgX:(RV.ow ps).slot=.ow ps:=rfl
@[simp] theorem ZgY:Ą f ma mb ρ=(ma ρ).bind λp ρ1=>(mb ρ1).bind λq ρ2=>Res.n_ (f p q) ρ2:=rfl
@[simp] theorem ZfE:Ĩ fo ma mb ρ=(ma ρ).bind λp ρ1=>(mb ρ1).bind λq ρ2=>Res.n_ (fo p q) ρ2:=rfl
@[simp] theorem ZhZ{u:PV->Option PV}:gY u ma ρ=(ma ρ).bind λp ρ1=>Res.n_ (u p) ρ1:=rfl
@[simp] theorem ZgZ:bK m ρ=(m ρ).bind λp ρ1=>Res.n_ (tru p) ρ1:=rfl
@[simp] theorem Zh0:aP m ρ=(m ρ).bind λp ρ1=>match p with| .bl b=>.ok b ρ1|_=>.bad:=rfl
@[simp] theorem ZfF:cD ta ρ=(ta ρ).bind λb ρ1=>.ok (!b) ρ1:=rfl
@[simp] theorem ZfG:fu ta tb ρ=(ta ρ).bind λb ρ1=>if b=true then tb ρ1 else .ok false ρ1:=rfl
@[simp] theorem Zg0:pG ta tb ρ=(ta ρ).bind λb ρ1=>if b=true then .ok true ρ1 else tb ρ1:=rfl
@[simp] theorem Zg1:dW ma mb ρ=(ma ρ).bind fun p ρ1=>match p with| .bl b=>if b=true then mb ρ1 else .ok (.bl false) ρ1|_=>.bad:=by
  unfold dW
  congr
  funext p ρ1
  cases p with
  |bl b=>cases b<;>rfl
  |_=>rfl
@[simp] theorem Zg2:ZbV ma ρ=(ma ρ).bind λp ρ1=>match p with| .bl b=>.ok (.bl (!b)) ρ1|_=>.bad:=rfl
@[simp] theorem Zh1{x y:M α}:bQ ta x y ρ=(ta ρ).bind λb ρ1=>if b=true then x ρ1 else y ρ1:=rfl
@[simp] theorem Zg3{f g:PV→PV→Option PV}:pF f g ma mb mc ρ=(ma ρ).bind fun p ρ1=>(mb ρ1).bind fun q ρ2=>(Res.n_ (f p q) ρ2).bind fun z ρ3=>match z with
  | .bl true=>(mc ρ3).bind λw ρ4=>Res.n_ (g q w) ρ4
  | .bl false=>.ok (.bl false) ρ3
  |_=>.bad:=rfl
@[simp] theorem Zg4:ĕ ρ=.ok [] ρ:= rfl
@[simp] theorem ZfH:ă ma mr ρ=(ma ρ).bind λp ρ1=>(mr ρ1).bind λps ρ2=>.ok (p::ps) ρ2:=rfl
@[simp] theorem Zg5:ň mr ρ=(mr ρ).bind λps ρ1=>if ps.length<=16777216 then .ok (.tup ps) ρ1 else .bad:=rfl
@[simp] theorem Zg6:ū mr ρ=(mr ρ).bind λps ρ1=>if ps.length<=16777216 then .ok (.ow ps) ρ1 else .bad:=rfl
@[simp] theorem Zh2:aM fl mr ρ=(mr ρ).bind λps ρ1=>Res.n_ (fl ps) ρ1:=rfl
@[simp] theorem Zg7:iC flo mr ρ=(mr ρ).bind λps ρ1=>Res.n_ (flo ps) ρ1:=rfl
@[simp] theorem ZfI{mf:MF}{ms:M (List Slot)}:Č mf ms ρ=(ms ρ).bind λps ρ1=>match mf ps with| .ret r=>.ok r ρ1| .exc x=>.exc x ρ1| .bad=>.bad:=rfl
@[simp] theorem Zh3:Ę i ρ=(match ρ[i]? with|some (.sh p)=>.ok p ρ|some (.ow ps)=>.ok (.lst ps) (ρ.set i (.sh (.lst ps)))|_=>.bad):=rfl
@[simp] theorem Zh4:Ā i ρ=(match ρ[i]? with|some (.sh p)=>.ok p ρ|some (.ow ps)=>.ok (.lst ps) ρ|some (.bw ps)=>.ok (.lst ps) ρ|some (.rc C ns ps)=>.ok (.ins C ns ps) ρ|_=>.bad):=rfl
@[simp] theorem Zh5:aG i ρ=(match ρ[i]? with|some (.sh p)=>.ok (.sh p) ρ|some (.ow ps)=>.ok (.ow ps) (ρ.set i .no)|_=>.bad):=rfl
@[simp] theorem Zg8:Ck g m ρ=(m ρ).bind λp ρ1=>match g p ρ1 with|some ρ2=>.ok .nx ρ2|none=>.bad:=rfl
@[simp] theorem KN:gN i p ρ=some (ρ.set i (.sh p)):=rfl
@[simp] theorem ZeC:Ĳ [] ρ=some ρ:= rfl
@[simp] theorem ZdP:Đ g gs (p::ps) ρ=(g p ρ).bind λρ1=>gs ps ρ1:=rfl
@[simp] theorem Zh6:gT n gs (.tup ps) ρ=if ps.length=n then gs ps ρ else none:=rfl
@[simp] theorem Zg9:pH i m ρ=(match ρ[i]? with
  |some (.ow _)=>(m ρ).bind λp ρ1=>match ρ1[i]? with
   |some (.ow ps)=>if ps.length<16777216 then .ok .nx (ρ1.set i (.ow (ps ++ [p]))) else .bad
   |_=>.bad
  |_=>.bad):=rfl
@[simp] theorem ZeD{mi:M PV}:Cm i mi m ρ=(m ρ).bind fun p ρ1=>match ρ1[i]? with
  |some (.ow _)=>(mi ρ1).bind λq ρ2=>match ρ2[i]?,q with
   |some (.ow ps),.int k=>match BZ ps.length k with
    |some j=>.ok .nx (ρ2.set i (.ow (ps.set j p)))
    |none=>.bad
   |_,_=>.bad
  |_=>.bad:=rfl
@[simp] theorem Zg_:zJ ρ=.ok none ρ:= rfl
@[simp] theorem Zia:mP m ρ=(m ρ).bind λp ρ1=>match p with| .int i=>.ok (some i) ρ1|_=>.bad:=rfl
@[simp] theorem Zh7{ml mh:M (Option Int)}:tK ma ml mh ρ=(ma ρ).bind λp ρ1=>(ml ρ1).bind λlo ρ2=>(mh ρ2).bind λhi ρ3=>Res.n_ (Pq p lo hi) ρ3:=rfl
@[simp] theorem Zha{lo hi:Option Int}:Pq (.lst ps) lo hi=some (.ow (Ŭ ps lo hi)):=rfl
@[simp] theorem ZeE:ń m ρ=(m ρ).bind fun p ρ1=>match p with
  | .lst ps=>.ok ps ρ1
  | .tup ps=>.ok ps ρ1
  | .str z=>.ok (z.cps.toList.map λc=>.str ⟨#[c]⟩) ρ1
  |_=>.bad:=rfl
@[simp] theorem ZeF{h:List PV->Option (List PV)}:Ÿ h mr ρ=(mr ρ).bind λps ρ1=>Res.n_ (h ps) ρ1:=rfl
@[simp] theorem Zb6{mi:M (List PV)}:aR mi g b ρ=(mi ρ).bind λitems ρ1=>forL g b items ρ1:=rfl
@[simp] theorem ZfJ{js:List Nat}{nl:Nat}{mi:M (List PV)}{mt:M Bool}{me:M PV}:Ĵ js nl mi g mt me ρ=(mi ρ).bind fun items ρ1=>match Ľ g mt me items (dz js nl ρ1) [] with
  |some ps=>.ok (.ow ps) ρ1
  |none=>.bad:=rfl
@[simp] theorem Zhb:İ ρ=.ok true ρ:= rfl
@[simp] theorem Zhc{mbd:M Fl}{as:List Slot}:Į n k mbd as=if as.length=n then FR.of (mbd (startP k as)) else .bad:=rfl
@[simp] theorem Zhd{r:RV}:FR.of (.ok (.rt r) ρ)=.ret r:=rfl
@[simp] theorem Zhe:FR.of (.ok .nx ρ)=.ret (.sh .non):=rfl
@[simp] theorem Zhf{x:PX}:FR.of (.exc x ρ)=.exc x:=rfl
@[simp] theorem Zhg:FR.of .bad=.bad:=rfl
@[simp] theorem ZeG{as:List Slot}:startP k as=as++List.replicate (k-as.length) .no:=rfl
@[simp] theorem ZfK:ĉ ρ=.ok [] ρ:= rfl
@[simp] theorem ZeH{ms:M (List Slot)}:Ċ ma ms ρ=(ma ρ).bind λp ρ1=>(ms ρ1).bind λas ρ2=>.ok (.sh p::as) ρ2:=rfl
@[simp] theorem ZeI{ms:M (List Slot)}:Ă i ms ρ=(match(ρ[i]?).bind fB with
  |none=>.bad
  |some _=>(ms ρ).bind λas ρ2=>match(ρ2[i]?).bind fB with
   |some s=>.ok (s::as) ρ2
   |none=>.bad):=rfl
@[simp] theorem Zhh:fB (.sh p)=some (.sh p):=rfl
@[simp] theorem Zhi:fB (.ow ps)=some (.bw ps):=rfl
@[simp] theorem Zhj:fB (.bw ps)=some (.bw ps):=rfl
@[simp] theorem Zhk:bV (.sh p)=.sh p:=rfl
@[simp] theorem Zhl:bV (.ow ps)=.bw ps:=rfl
@[simp] theorem Zhm:bV (.bw ps)=.bw ps:=rfl
@[simp] theorem Zhn{js:List Nat}{nl:Nat}:dz js nl ρ=js.map (λ(j:Nat)=>bV ((ρ[j]?).getD .no))++List.replicate nl .no:=rfl
@[simp] theorem Cv:ŀ i ρ=(match ρ[i]? with
  |some (.bw ps)=>.ok ps ρ
  |some (.sh (.lst ps))=>.ok ps ρ
  |some (.sh (.tup ps))=>.ok ps ρ
  |some (.sh (.str z))=>.ok (z.cps.toList.map λc=>.str ⟨#[c]⟩) ρ
  |some (.ow ps)=>.ok ps (ρ.set i (.sh (.lst ps)))
  |_=>.bad):=rfl
@[simp] theorem ZfL{x y:Int}:ģ (.int x) (.int y)=some (.sh (.int (x+y))):=rfl
@[simp] theorem ZfM{x y:Int}:Ŝ (.int x) (.int y)=some (.int (x-y)):=rfl
@[simp] theorem ZfN{x y:Int}:Ĥ (.int x) (.int y)=if ō x y=true then some (.int (x*y)) else none:=rfl
@[simp] theorem ZfO{x y:Int}:ţ (.int x) (.int y)=if iI x y=true then some (.int (x.fdiv y)) else none:=rfl
@[simp] theorem ZfP{x y:Int}:ı (.int x) (.int y)=if FT x y=true then some (.int (x.fmod y)) else none:=rfl
@[simp] theorem ZfQ{x y:Int}:ou (.int x) (.int y)=if uR x y=true then some (.int (x ^ y.toNat)) else none:=rfl
@[simp] theorem ZfR{x y:Int}:lA (.int x) (.int y)=if bW x y=true then some (.int (x*2 ^ y.toNat)) else none:=rfl
@[simp] theorem ZfS{x y:Int}:lB (.int x) (.int y)=if zG x y=true then some (.int (x / 2 ^ y.toNat)) else none:=rfl
@[simp] theorem ZfT{x:Int}:cU (.int x)=some (.int (-x)):=rfl
@[simp] theorem Zho{x y:Int}:lC (.int x) (.int y)=some (.bl (decide (x<y))):=rfl
@[simp] theorem Zhp{x y:Int}:lE (.int x) (.int y)=some (.bl (decide (x<=y))):=rfl
@[simp] theorem Zhq{x y:Int}:Rj (.int x) (.int y)=some (.bl (decide (y<x))):=rfl
@[simp] theorem Zhr{x y:Int}:Ks (.int x) (.int y)=some (.bl (decide (y<=x))):=rfl
@[simp] theorem Zhs{x y:Int}:ŧ (.int x) (.int y)=some (.bl (decide (x=y))):=by
  have h:eqB (.int x) (.int y)=decide (x=y):=by rw[eqB.eq_def];rfl
  rw[<-h];rfl
@[simp] theorem Zht{x y:Int}:aH (.int x) (.int y)=some (.bl (!decide (x=y))):=by
  have h:eqB (.int x) (.int y)=decide (x=y):=by rw[eqB.eq_def];rfl
  rw[<-h];rfl
@[simp] theorem Zhu{x y:Bool}:ŧ (.bl x) (.bl y)=some (.bl (x== y)):=rfl
@[simp] theorem Zhv{x y:Bool}:aH (.bl x) (.bl y)=some (.bl (!(x== y))):=rfl
@[simp] theorem Zhw{p:PV}:uo p .non=some (.bl (nA p)):=rfl
@[simp] theorem ZfU{p:PV}:cJ p .non=some (.bl (!nA p)):=rfl
@[simp] theorem wM{x:Int}:Ĕ (.lst ps) (.int x)=uf ps x:=rfl
@[simp] theorem Zhx{x:Int}:Ĕ (.tup ps) (.int x)=uf ps x:=rfl
@[simp] theorem wN:aY [.lst ps]=some (.int ps.length):=rfl
@[simp] theorem ZfV:aY [.tup ps]=some (.int ps.length):=rfl
@[simp] theorem Zhy{x:Int}:Rk [.int x]=some (.int (if x<0 then -x else x)):=rfl
@[simp] theorem Zhz{x y:Int}:uT [.int x,.int y]=some (.int (if y<x then y else x)):=rfl
@[simp] theorem ZhA{x y:Int}:Ge [.int x,.int y]=some (.int (if y>x then y else x)):=rfl
@[simp] theorem ZeJ:bH [.lst ps]=some (.ow ps):=rfl
@[simp] theorem ZeK:bH [.tup ps]=some (.ow ps):=rfl
@[simp] theorem ZfW:qP [.lst ps]=some (.tup ps):=rfl
@[simp] theorem ZfX:qP [.tup ps]=some (.tup ps):=rfl
@[simp] theorem ZhB{t:String}:pI [p,.ty t]=(uq p t).map .bl:=rfl
@[simp] theorem ZfY{x:Bool}:tru (.bl x)=some x:=rfl
@[simp] theorem ZfZ{x:Int}:tru (.int x)=some (x != 0):=rfl
@[simp] theorem Zf0:tru (.lst ps)=some (!ps.isEmpty):=rfl
@[simp] theorem KQ(xs:List α)(n:Nat):uf xs (n:Int)=xs[n]?:= by
  unfold uf BZ
  rw[if_pos (by omega)]
  by_cases h:n<xs.length
  ·rw[if_pos (by omega)]
   simp
  ·rw[if_neg (by omega)]
   simp
   omega
@[simp] theorem Zf1(xs:List α)(n:Nat):uf xs (no_index (OfNat.ofNat n):Int)=xs[(no_index (OfNat.ofNat n):Nat)]?:= KQ xs n
@[simp] theorem ZdQ{x y:Int}:FT x y=decide (y≠0):=rfl
end
def bh{x y:Int}(h1: -(2 ^ 64)<x)(h2:x<2 ^ 64):ō x y=true:=by unfold ō;rw[decide_eq_true (by omega:x.natAbs<18446744073709551616)];rfl
def mul_r{x y:Int}(h1: -(2 ^ 64)<y)(h2:y<2 ^ 64):ō x y=true:=by unfold ō;rw[decide_eq_true (by omega:y.natAbs<18446744073709551616)];simp
def ZeL{x y:Int}(h1:bits x<=1048576)(h2:bits y<=1048576):ō x y=true:=by unfold ō;simp[h1,h2]
def zM{x y:Int}(h1:y≠0)(h2:bits y<=8000):iI x y=true:=by unfold iI;simp[h1,h2]
section
variable{g:Tg}{mb:M Fl}{mc mt:M Bool}{me:M PV}{items:List PV}{ρ:ŋ}
theorem ĩ{α:Type}(c f:α->PV)(I:ŋ->Prop):∀(xs:List α) (ρ:ŋ) (acc:List PV),I ρ->acc.length+xs.length<=16777216->
 (∀x∈xs,∀ρ,I ρ->∃ρ1 ρ2 ρ3,g (c x) ρ=some ρ1/\mt ρ1=.ok true ρ2/\me ρ2=.ok (f x) ρ3/\I ρ3)->Ľ g mt me (xs.map c) ρ acc=some (acc++xs.map f)
 | [],ρ,acc,_,_,_=>by simp[Ľ]
 |x::xs,ρ,acc,h,hz,hs=>by
  obtain⟨ρ1,ρ2,ρ3,h1,h2,h3,h4⟩:=hs x List.mem_cons_self ρ h
  rw[List.map_cons,Ľ,h1]
  dsimp only
  rw[h2]
  dsimp only
  rw[h3]
  dsimp only
  rw[if_pos (by simp at hz;omega),ĩ c f I xs ρ3 (acc ++ [f x]) h4 (by simp at hz ⊢;omega) λy hy=>hs y (List.mem_cons_of_mem _ hy)]
  simp
def Cw{β:Type}(st:β->ŋ)(I:β->Prop)(μ:β->Nat)(hs:∀b,I b->mc (st b)=.ok false (st b)\/(mc (st b)=.ok true (st b)/\∃b',mb (st b)=.ok .nx (st b')/\I b'/\μ b' < μ b)){b:β}(h0:I b) :
 ∃b',ž mc mb (st b)=.ok .nx (st b')/\I b'/\mc (st b')=.ok false (st b'):=by
 have go:∀n b,μ b<=n->I b->∃b',ž mc mb (st b)=.ok .nx (st b')/\I b'/\mc (st b')=.ok false (st b'):=by
  intro n
  induction n with
  |zero=>
   intro b hn hi
   rcases hs b hi with e|⟨e,b',_,_,hl⟩
   ·exact⟨b,by rw[iG,e];rfl,hi,e⟩
   ·omega
  |succ n ih=>
   intro b hn hi
   rcases hs b hi with e|⟨e,b',e2,hi',hl⟩
   ·exact⟨b,by rw[iG,e];rfl,hi,e⟩
   ·obtain⟨b2,q1,q2⟩:=ih b' (by omega) hi'
    refine⟨b2,?_,q2⟩
    rw[iG,e]
    simp only[Res.aV,if_true,e2]
    exact q1
 exact go (μ b) b (Nat.le_refl _) h0
end
end P
namespace P
open PySem PySem.Spec PyProof.Rows L2 M2 M3 M4
def qQ(Q:String->Prop):List String->Prop
 | []=>True
 |c::cs=>Q c/\qQ Q cs
theorem qQ.get{Q:String->Prop}:∀{cs:List String} {C:String},qQ Q cs->cs.contains C=true->Q C
 | [],_,_,h=>by simp at h
 |c::cs,C,⟨h1,h2⟩,h=>by
  by_cases e:C=c
  ·rw[e];exact h1
  ·refine h2.get ?_
   rw[List.contains_cons] at h
   have:(C== c)=false:=by simpa using e
   rw[this,Bool.false_or] at h
   exact h
section
variable{X:Cx}{cm:String->Addr}{K:KK}{E:L2.St->XK}{a b e o:Expr}{es:List Expr}{pos apos:Pos}{m ma mb:M PV}{f:Str}
theorem qR{F:Hp}:∀{fs:List (Str×V)} {ps:List PV} {p:PV},ĝ K F ps (fs.map (·.2))->((fs.map (·.1)).zip ps).lookup f=some p->∃v,fs.lookup f=some v/\Rep K F p v
 | [],ps,p,_,h=>by simp at h
 |(g,v)::fs,ps,p,r,h=>by
  have r':=r.pr
  rw[List.map_cons] at r'
  cases r' with
  |cons r1 t=>
   rename_i q qs
   rw[List.map_cons,List.zip_cons_cons,List.lookup_cons] at h
   rw[List.lookup_cons]
   cases hg:f== g with
   |true=>
    simp only[hg] at h
    cases h
    exact⟨v,rfl,r1⟩
   |false=>
    simp only[hg] at h
    exact qR (ĝ.of t) h
theorem rR.ins{c:Ctx}{F H:Hp}{σ:L2.St}{ρ:ŋ}{C:String}{ns:List Str}{ps:List PV}{v:V}(s:Same F H)(h:rR K c σ ρ F H (.ins C ns ps) v):∃a dx fs,v=.ref a/\H a=some (.ins (K.cm C) dx fs)/\fs.map (·.1)=ns/\ĝ K F ps (fs.map (·.2)):=by
 rcases h with h|h
 ·unfold Rep at h
  obtain⟨a,dx,fs,h1,h2,h3,h4⟩:=h
  exact⟨a,dx,fs,h1,s _ _ h2,h3,h4⟩
 ·exact h
def Ů(cs:List String)(f:Str):PV->Option PV
 | .ins C ns ps=>if cs.contains C=true then(ns.zip ps).lookup f else none
 |_=>none
def aA(cs:List String)(hcs:qQ (λC=>Cls X.K (cm C)/\Ń X.K (cm C) f) cs)(he:PE X e (tR (kk X cm) E m))(hb:attributeBase e f X.env (eval e X.env)=eval e X.env:=by rfl):PE X (.Attribute e f pos) (tV (kk X cm) E (gY (Ů cs f) m)):=
 PE.wk (Zbp he hb) fun σ H Q ⟨c,F,ρ,rel,h⟩=>⟨c,F,ρ,rel,h.bind fun p ρ1 v F1 H1 ě _ _ r1 h1=>by
   cases p with
   |ins C ns ps=>
    unfold Ů at h1
    dsimp only at h1
    split at h1
    ·rename_i hc
     obtain⟨a,dx,fs,rfl,q2,q3,q4⟩:=r1.ins ě.sub
     cases el:(ns.zip ps).lookup f with
     |none=>rw[el] at h1;exact h1.elim
     |some q=>
      rw[el] at h1
      subst q3
      obtain⟨v,e1,e2⟩:=qR q4 el
      obtain⟨k1,k2⟩:=hcs.get hc
      exact⟨a,_,dx,fs,v,rfl,q2,k1,k2,e1,h1 v F1 H1 ě (Same.refl _) (Same.refl _) e2⟩
    ·exact h1.elim
   |_=>exact h1.elim⟩
def KR(X:Cx)(cm:String->Addr)(CX:mY)(k n:Nat)(m:Str)(C:String)(mf:MF):Prop:=Cls X.K (cm C)/\∃f fd ps,Meth X.K (cm C) m f/\Ħ X.prog X.w X.K X.mg X.base CX k f fd ps (Ŗ (kk X cm) n mf)/\Binds X.K fd ps []/\
 ∀{ps:List Slot},(∃r,mf ps=r/\∀z,r=z->z≠ .bad)->ps.length=n
def KY(Q:String->MF->Prop):List (String×MF)->Prop
 | []=>True
 |(c,mf)::cs=>Q c mf/\KY Q cs
theorem KY.get{Q:String->MF->Prop}:∀{cs:List (String×MF)} {C:String} {mf:MF},KY Q cs->cs.lookup C=some mf->Q C mf
 | [],_,_,_,h=>by simp at h
 |(c,g)::cs,C,mf,⟨h1,h2⟩,h=>by
  rw[List.lookup_cons] at h
  cases hc:C== c with
  |true=>
   rw[hc] at h
   cases h
   have:C=c:=by simpa using hc
   rw[this];exact h1
  |false=>
   rw[hc] at h
   exact h2.get h
def cV(m:Str)(jk:List (String×MF))(mo:M PV)(ms:M (List Slot)):M RV:=λρ=>(mo ρ).bind λp ρ1=>match p with
 | .ins C ns ps=>match jk.lookup C with
   |some mf=>if ns.contains m=true then .bad else(ms ρ1).bind λas ρ2=>match mf (.sh (.ins C ns ps)::as) with
    | .ret r=>.ok r ρ2
    | .exc x=>.exc x ρ2
    | .bad=>.bad
   |none=>.bad
 |_=>.bad
theorem uV{m:Str}:∀{fs:List (Str×V)},(fs.map (·.1)).contains m=false->fs.lookup m=none
 | [],_=>rfl
 |(g,v)::fs,h=>by
  rw[List.map_cons,List.contains_cons,Bool.or_eq_false_iff] at h
  rw[List.lookup_cons,h.1]
  exact uV h.2
variable{CX:mY}{k n:Nat}{Ip:Str}{jk:List (String×MF)}{ms:M (List Slot)}
def KZ{c:Ctx}{F H:Hp}{σ:L2.St}{ρ:ŋ}{Q:VK}(rel:Rel (kk X cm) c F H σ ρ)(h:aQ (kk X cm) E (rO (kk X cm)) c F H σ Q (cV Ip jk m ms ρ))(Zb7:KY (λC mf=>KR X cm CX k n Ip C mf) jk) :
 aQ (kk X cm) E (rV (kk X cm)) c F H σ (λx H1=>∃a C dx fs g fd ps mf,x=.ref a/\H1 a=some (.ins C dx fs)/\Cls X.K C/\Meth X.K C Ip g/\fs.lookup Ip=none/\Ħ X.prog X.w X.K X.mg X.base CX k g fd ps (Ŗ (kk X cm) n mf)/\Binds X.K fd ps []/\
  tA (kk X cm) E ms σ H1 λvs H2=>Ŗ (kk X cm) n mf (.ref a::vs) H2 Q (E σ)) (m ρ):=
 aQ.bind h λp ρ1 v F1 H1 ě _ _ r1 h1=>by
  cases p with
  |ins C ns ps=>
   dsimp only at h1
   cases el:jk.lookup C with
   |none=>rw[el] at h1;exact h1.elim
   |some mf=>
    rw[el] at h1
    dsimp only at h1
    split at h1
    ·exact h1.elim
    ·rename_i hn
     obtain⟨k1,f,fd,qs,k2,k3,k4,k5⟩:=Zb7.get el
     have r1':Rep (kk X cm) F1 (.ins C ns ps) v:=r1
     have r2:=r1'
     unfold Rep at r2
     obtain⟨a,dx,fs,rfl,q2,q3,q4⟩:=r2
     refine⟨a,_,dx,fs,f,fd,qs,mf,rfl,ě.sub _ _ q2,k1,k2,uV (by rw[q3];simpa using hn),k3,k4,c,F1,ρ1,ě,aQ.bind h1 λas ρ2 vs F2 H2 ļ sF sH r3 h3=>?_⟩
     exact zE (vs:=.ref a::vs) k5 ļ (.cons (show cQ _ _ _ (.sh _) _ from Rep.same sF _ _ r1') r3) h3
  |_=>exact h1.elim
def wO{pl:Sem Bool}(Zb7:KY (λC mf=>KR X cm CX k n Ip C mf) jk)(hr:ű k X.A)(hx:fX CX X E)(he:PE X o (tV (kk X cm) E m))
 (ht:eval (.Call (.Attribute o Ip apos) [] [] pos) X.env=(do
   let ov <-eval o X.env
   standAt apos.atName
   let (f,first) <-holding [ov] (getMethod ov Ip pl)
   callWith pos f first (backTo pos (starEach [] X.env)) (backToKw pos (keywordEach [] X.env))):=by rfl) :
 PE X (.Call (.Attribute o Ip apos) [] [] pos) (tO (kk X cm) E (cV Ip jk m ĉ)):=by
 intro pins s σ H Q I ⟨c,F,ρ,rel,h⟩
 refine PySem.W.methodCall_KW (pl:=pl) (Ť (he pins s σ H _ I ⟨c,F,ρ,rel,KZ rel h Zb7⟩) λu s1 ⟨x,H1,I1,rx,a,C,dx,fs,g,fd,ps,mf,ex,ea,cl,k2,l,k3,k4,q⟩=>?_) ht
 subst ex
 obtain rfl:u=Value.ref a:=rx
 refine BJ I1 ea cl k2 l ?_
 obtain⟨c1,F1,ρ1,ě,q⟩:=q
 exact PySem.W.callWith_K0 (first:=[.ref a]) I1.nU k2.kp (FQ (us:=[.ref a]) (vs:=[.ref a]) k3 hr k4 hx I1 (.cons rfl .nil) (q [] F1 H1 ě (Same.refl _) (Same.refl _) .nil))
def putN(f:Str):List Str->List Str
 | []=>[f]
 |g::r=>if g=f then g::r else g::putN f r
def Cy(f:Str)(p:PV):List Str->List PV->List PV
 | [],_=>[p]
 |g::r,q::qs=>if g=f then p::qs else q::Cy f p r qs
 |_::_,[]=>[]
theorem Gh{F:Hp}{p:PV}{y:V}(ry:Rep K F p y):∀{fs:List (Str×V)} {ps:List PV},ĝ K F ps (fs.map (·.2))->(fP f y fs).map (·.1)=putN f (fs.map (·.1))/\ĝ K F (Cy f p (fs.map (·.1)) ps) ((fP f y fs).map (·.2))
 | [],ps,r=>⟨rfl,ĝ.cons ry ĝ.nil⟩
 |(g,v)::fs,ps,r=>by
  have r':=r.pr
  rw[List.map_cons] at r'
  cases r' with
  |cons r1 t=>
   rename_i q qs
   unfold fP
   rw[List.map_cons]
   unfold putN Cy
   by_cases hg:g=f
   ·rw[if_pos hg,if_pos hg,if_pos hg]
    exact⟨rfl,ĝ.cons ry (ĝ.of t)⟩
   ·rw[if_neg hg,if_neg hg,if_neg hg]
    obtain⟨h1,h2⟩:=Gh ry (ĝ.of t)
    exact⟨by rw[List.map_cons,h1],ĝ.cons r1 h2⟩
def jB(i:Nat)(cs:List String)(f:Str)(mv:M PV):M Fl:=λρ=>(mv ρ).bind λp ρ1=>match ρ1[i]? with
 |some (.rc C ns ps)=>if cs.contains C=true/\ns.length<1000 then .ok .nx (ρ1.set i (.rc C (putN f ns) (Cy f p ns ps))) else .bad
 |_=>.bad
def bx{i:Nat}{x:Str}{px pos':Pos}(cs:List String)(hcs:qQ (λC=>Cls X.K (cm C)/\Ń X.K (cm C) f) cs)(ho:PE X (.Name x px) (Bq i))(he:PE X e (tV (kk X cm) E m))(hs:swapsWith e (some (.Attribute (.Name x px) f pos')) pos.line X.env=pure false:=by rfl) :
 PS X (.Assign [.Attribute (.Name x px) f pos'] e pos) (tS (kk X cm) E (jB i cs f m)):=PS.wk (Zbq ho he hs) λD σ H ⟨c,F,ρ,rel,h⟩=>⟨c,F,ρ,rel,Ż.bind h λp ρ1 y F1 H1 ě s1 ry h1=>by
 cases e1:ρ1[i]? with
 |none=>rw[e1] at h1;exact h1.elim
 |some sl=>
  rw[e1] at h1
  cases sl with
  |rc C ns ps=>
   dsimp only at h1
   split at h1
   ·rename_i hc
    obtain⟨a,dx,fs,q1,q2,q3,q4,q5,q6,q7⟩:=ě.slot i _ e1
    subst q5
    obtain⟨k1,k2⟩:=hcs.get hc.1
    refine⟨.ref a,at_of q1,a,_,dx,fs,rfl,q2,k1,k2,by simpa using hc.2,?_⟩
    obtain⟨z1,z2⟩:=Gh (f:=f) (p:=p) ry q6
    exact h1 σ F1 _ (ě.write ⟨_,_,e1,at_of q1,rfl⟩ (at_of q1) ⟨a,dx,_,rfl,ĭ,q3,q4,z1,z2,q7⟩ λ_ z=>(V.ref.inj z).symm) (Same.refl _)
   ·exact h1.elim
  |_=>exact h1.elim⟩
inductive IR where
 |ok (ns:List Str) (ps:List PV)|exc (x:PX)|bad
abbrev MI:=List Slot->IR
def IR.of:Res Fl->IR
 | .ok .nx (.rc _ ns ps::_)=>.ok ns ps
 | .exc x _=>.exc x
 |_=>.bad
def dF(n k:Nat)(C:String)(mb:M Fl):MI:=λas=>if as.length+1=n then IR.of (mb (.rc C [] []::startP (k-1) as)) else .bad
structure GrB(a:Addr)(F H F' H':Hp):Prop where
 h:∀b u,b≠a->H b=some u->H' b=some u
 f:Same F F'
 sub:Same F' H'
 out:∀b,b≠a->H b≠none->F b=none->F' b=none
def ZhC(K:KK)(E:XK)(F H:Hp)(Q:VK)(a dx:Addr)(C:String):IR->Prop
 | .ok ns ps=>∀F' H' fs,GrB a F H F' H'->H' a=some (.ins (K.cm C) dx fs)->F' a=none->fs.map (·.1)=ns->ĝ K F' ps (fs.map (·.2))->Q .non H'
 | .exc x=>∀C' d F' H',GrB a F H F' H'->QV K F' x C' d->E C' d H'
 | .bad=>False
def Pr(K:KK)(n:Nat)(C:String)(mi:MI):Sp:=λvs H Q E=>∃F a dx vs' as,vs=.ref a::vs'/\as.length+1=n/\H a=some (.ins (K.cm C) dx [])/\F a=none/\Same F H/\Paired (cQ K F H) as vs'/\ZhC K E F H Q a dx C (mi as)
def Ro(a dx:Addr)(C:String)(F H:Hp):Ctx:=⟨λb=>if b=a then none else H b,F,λb=>if b=a then none else(ctx0 F H).L b,λa' dx' C'=>a'=a/\dx'=dx/\C'=C⟩
def Rel.gri{σ:L2.St}{ρ:ŋ}{a dx:Addr}{C:String}{F H F' H':Hp}(r:Rel K (Ro a dx C F H) F' H' σ ρ):GrB a F H F' H':=
 ⟨λb u hb e=>r.base b u (by show(if b=a then none else H b)=_;rw[if_neg hb];exact e),r.f0,r.sub,λb hb h1 h2=>r.fL b (by show(if b=a then none else H b)≠none;rw[if_neg hb];exact h1) h2⟩
def Rel.Zb8{F H:Hp}{N:List Str}{as:List Slot}{vs:List V}{a dx:Addr}{C:String}(s:Same F H)(ha:H a=some (.ins (K.cm C) dx []))(hF:F a=none)(h:Paired (cQ K F H) as vs) :
 Rel K (Ro a dx C F H) F H (L2.start N (.ref a::vs)) (.rc C [] []::startP (N.length-1) as):=by
 have r0:=Rel.start (N:=N) (K:=K) s (as:=.sh (.int 0)::as) (vs:=.int 0::vs) (.cons (Rep.int (K:=K) (F:=F) (i:=0)) h)
 have est:L2.start N (.ref a::vs)=some (.ref a)::(L2.start N (.int 0::vs)).tail:=by unfold L2.start;simp
 have ZhD:(L2.start N (V.int 0::vs)).tail.length=(startP (N.length-1) as).length:=by
  unfold L2.start startP
  simp[Paired.length h]
  omega
 have tl:∀i:Nat,(L2.start N (.int 0::vs)).tail[i]?=(L2.start N (.int 0::vs))[i+1]?:= λi=>by simp
 have sp:∀i:Nat,(startP (N.length-1) as)[i]?=(startP N.length (.sh (.int 0)::as))[i+1]?:= λi=>by
  unfold startP
  simp only[List.cons_append,List.getElem?_cons_succ,List.length_cons]
  rw[show N.length-1-as.length=N.length-(as.length+1) by omega]
 have zN:∀(i:Nat) (s':Slot),(startP (N.length-1) as)[i]?=some s'->s'.own=false:=λi s' e=>by
  unfold startP at e
  by_cases hi:i<as.length
  ·rw[List.getElem?_append_left hi] at e
   obtain⟨v,_,h3⟩:=bJ h e
   exact(cQ.slot h3).2
  ·rw[List.getElem?_append_right (by omega),List.getElem?_replicate] at e
   split at e
   ·cases e;rfl
   ·cases e
 rw[est]
 refine⟨s,λb u e=>?_,Same.refl _,λ_ _ z=>z,λb u e=>?_,λb e=>?_,?_,λi s' e=>?_,λi j b h1 h2=>?_⟩
 ·have e':(if b=a then none else H b)=some u:=e
  split at e'
  ·cases e'
  ·exact e'
 ·have e':(if b=a then none else(ctx0 F H).L b)=some u:=e
  split at e'
  ·cases e'
  ·exact dU e'
 ·show(if b=a then none else(ctx0 F H).L b)=none
  have e':(if b=a then none else H b)=none:=e
  split
  ·rfl
  ·rename_i hb
   rw[if_neg hb] at e'
   exact r0.lb b e'
 ·simp[ZhD]
 ·cases i with
  |zero=>
   cases e
   exact⟨a,dx,[],rfl,ha,hF,by show(if a=a then none else H a)=none;rw[if_pos rfl],rfl,ĝ.nil,rfl,rfl,rfl⟩
  |succ i=>
   have e':(startP (N.length-1) as)[i]?=some s':=by simpa using e
   have q:=r0.slot (i+1) s' (by rw[<-sp];exact e')
   rw[<-tl] at q
   show aC K (Ro a dx C F H) F H (((some (V.ref a)::(L2.start N (.int 0::vs)).tail)[i+1]?).getD none) s'
   rw[List.getElem?_cons_succ]
   cases s' with
   |no=>trivial
   |sh p=>exact q
   |bw ps=>
    obtain⟨b,ws,q1,q2,q3⟩:=q
    refine⟨b,ws,q1,?_,q3⟩
    show(if b=a then none else(ctx0 F H).L b)=_
    rw[if_neg (λz=>by
     have:=(dU q2).1
     rw[z,ha] at this
     cases this)]
    exact q2
   |ow ps=>have:=zN i _ e';cases this
   |rc C ns ps=>have:=zN i _ e';cases this
   |ot ps qs=>have:=zN i _ e';cases this
   |ol Fx=>have:=zN i _ e';cases this
 ·have at0:∀{i},Œ F (some (.ref a)::(L2.start N (.int 0::vs)).tail) (Slot.rc C [] []::startP (N.length-1) as) i b→i=0:=fun{i} ⟨s',y,q1,_,q2⟩=>by
   have q2:=nq q2
   cases i with
   |zero=>rfl
   |succ i=>
    have:=zN i s' (by simpa using q1)
    rw[this] at q2
    cases q2
  rw[at0 h1,at0 h2]
end
section
variable{P:Program}{w:World}{K:PySem.W.Frag}{cm:String->Addr}{mg:Str->Option Value}{base:Heap}{CX:mY}
def fnI{x qual:Str}{st:Stmt}{f:Addr}{fd:FuncData}{N ps:List Str}{k n j:Nat}{C:String}{mb:M Fl}{mi:MI}(F:Jw K x qual st f fd)(S:Ē N ps (ć st))(hn:ps.length=n)(hj:N.length=j)(hf:mi=dF n j C mb)
 (hbody:∀(cdv:Value) (A:Around) (outer:List Env) (s:Shared) (H:Hp) (E:XK),ű k (A.deeper (envOfC qual (ć st) s.heap.objs.size f cdv))→
   jw (qD CX P w K mg base N qual (ć st) f cdv A outer s H E) (Ņ st) (tS ⟨K,cm⟩ (λ_=>E) mb)):Ħ P w K mg base CX (k+1) f fd ps (Pr ⟨K,cm⟩ n C mi):=by
 subst hn hj hf
 obtain⟨oc,od,kV,doc,pm,an,cdv,ct,osl,rfl,lk,hcd⟩:=F.ex
 refine Fe lk hcd S (λvs H Q E ⟨F,a,dx,vs',as,h1,h2,_,_,_,h3,_⟩=>by rw[h1,List.length_cons,<-Paired.length h3];exact h2) λA outer s H vs Q E hr hsp=>?_
 obtain⟨F,a,dx,vs',as,rfl,h2,h3,h4,h5,h6,h7⟩:=hsp
 refine⟨_,hbody cdv A outer s H E hr,Ro a dx C F H,F,_,Rel.Zb8 h5 h3 h4 h6,?_⟩
 unfold dF at h7
 rw[if_pos h2] at h7
 cases e:mb (.rc C [] []::startP (N.length-1) as) with
 |bad=>rw[e] at h7;exact h7
 |exc x ρ'=>rw[e] at h7;exact λσ' C' d F' H' rel s1 q=>h7 C' d F' H' rel.gri q
 |ok fl ρ'=>
  rw[e] at h7
  cases fl with
  |nx=>
   cases ρ' with
   |nil=>exact h7.elim
   |cons sl ρ'=>
    cases sl with
    |rc C' ns qs=>
     intro σ' F' H' rel s1
     obtain⟨b,dy,fs,q1,q2,q3,q4,q5,q6,rfl,rfl,rfl⟩:=rel.slot 0 _ rfl
     exact h7 F' H' fs rel.gri q2 q3 q5 q6
    |_=>exact h7.elim
  |bk=>exact h7.elim
  |ct=>exact h7.elim
  |rt r=>exact h7.elim
end
def cF(C:String)(mi:MI)(ms:M (List Slot)):M PV:=λρ=>(ms ρ).bind λas ρ1=>match mi as with
 | .ok ns ps=>.ok (.ins C ns ps) ρ1
 | .exc x=>.exc x ρ1
 | .bad=>.bad
section
variable{X:Cx}{cm:String->Addr}{E:L2.St->XK}{e:Expr}{es:List Expr}{pos p:Pos}{CX:mY}{k n:Nat}{f:Addr}{fd:FuncData}{ps:List Str}{C:String}{mi:MI}{ms:M (List Slot)}{x:Str}
def K_{c:Ctx}{F1 H1:Hp}{σ:L2.St}{ρ1:ŋ}{Q:VK}{as:List Slot}{vs:List V}(hlen:(∃r,mi as=r/\∀z,r=z->z≠ .bad)->as.length+1=n)(ě:Rel (kk X cm) c F1 H1 σ ρ1)(r1:Paired (cQ (kk X cm) F1 H1) as vs)
 (h:aQ (kk X cm) E (rV (kk X cm)) c F1 H1 σ Q (match mi as with| .ok ns ps=>.ok (.ins C ns ps) ρ1| .exc x=>.exc x ρ1| .bad=>.bad)) :
 ∀x dx,H1 x=none->H1 dx=none->dx≠x->Pr (kk X cm) n C mi (.ref x::vs) (upd (upd H1 dx (.own x)) x (.ins (cm C) dx [])) (λv H2=>v=.non/\Q (.ref x) H2) (E σ):=by
 intro x dx hx hdx hne
 have up:∀b u,H1 b=some u->upd (upd H1 dx (.own x)) x (.ins (cm C) dx []) b=some u:=λb u e=>by
  rw[Ğ (į e hx),Ğ (į e hdx)];exact e
 have Rq:∀{F' H':Hp},GrB x F1 (upd (upd H1 dx (.own x)) x (.ins (cm C) dx [])) F' H'->Gr F1 H1 F' H':=fun{F' H'} g=>
  ⟨fun b u e=>g.h b u (į e hx) (up b u e),g.f,g.sub,fun b hb hf=>by
    obtain⟨u,hu⟩:∃u,H1 b=some u:=by
     cases q:H1 b with
     |none=>exact absurd q hb
     |some u=>exact⟨u,rfl⟩
    exact g.out b (į hu hx) (by rw[up b u hu];intro z;cases z) hf⟩
 refine⟨F1,x,dx,vs,as,rfl,?_,ĭ,ě.sub.free hx,λb u e=>up b u (ě.sub b u e),?_,?_⟩
 ·refine hlen ⟨_,rfl,λz hz hb=>?_⟩
  rw[hz,hb] at h
  exact h
 ·refine Paired.mono (λs v hs=>?_) r1
  cases s with
  |sh p=>exact hs
  |bw qs=>
   obtain⟨b,ws,q1,q2,q3,q4⟩:=hs
   exact⟨b,ws,q1,up b _ q2,q3,q4⟩
  |_=>exact hs.elim
 ·cases em:mi as with
  |bad=>rw[em] at h;exact h
  |exc y=>rw[em] at h;exact λC' d F' H' g rx=>h C' d F' H' (ě.call (Rq g)) g.f rx
  |ok ns qs=>
   rw[em] at h
   intro F' H' fs g hx' hF' hn hr
   have r2:=ě.call (Rq g)
   have r3:=r2.freeze hx' (ě.base.free hx) hF' (ě.wB (Rq g).f (ě.fresh hx))
   refine⟨rfl,h _ _ H' r3 (g.f.trans (Same.upd hF')) (Rq g).h ?_⟩
   show Rep _ _ _ _
   unfold Rep
   exact⟨x,dx,fs,rfl,ĭ,hn,ĝ.same (Same.upd hF') qs _ hr⟩
def HN{pins:List (Addr×Obj)}{σ:L2.St}{H:Hp}{s:Shared}{Q:VK}{us:List Value}{vs:List V}{sp:Sp}{C:Addr}(M:Mk X.K C f)(F:Ħ X.prog X.w X.K X.mg X.base CX k f fd ps sp)(hr:ű (k+1) X.A)(hb:Binds X.K fd ps [])
 (hx:fX CX X E)(I:Inv X pins σ H s)(r:Vals vs us)
 (h:∀x dx,H x=none->H dx=none->dx≠x->sp (.ref x::vs) (upd (upd H dx (.own x)) x (.ins C dx [])) (λv H2=>v=.non/\Q (.ref x) H2) (E σ)) :
 wpAny (model X.prog X.w) X.A (call (.ref C) us) (EP X pins σ Q) X.xe s:=by
 have hq:=h (s.heap.objs.size+1) s.heap.objs.size (I.hok.fresh (Nat.le_succ _)) (I.hok.fresh (Nat.le_refl _)) (Nat.ne_of_lt (Nat.lt_succ_self _))
 have I2:=Inv.made (C:=C) I
 have r2:Vals (V.ref (s.heap.objs.size+1)::vs) (Value.ref (s.heap.objs.size+1)::us):=.cons rfl r
 have hl:(Value.ref (s.heap.objs.size+1)::us ++ []).length=ps.length:=by
  have e:=r2.length
  rw[F.len _ _ _ _ hq] at e
  rw[List.append_nil]
  exact e.symm
 have hbd:=hb {s with heap:=(s.heap.push PySem.W.emptyDict).push (PySem.W.instObj C s.heap.objs.size)} (Value.ref (s.heap.objs.size+1)::us) I2.nU hl
 rw[List.append_nil] at hbd
 refine wpAny_call (Jo (f:=f) I.nU M.makes M.init (beq_iff_eq.mp M.fn) (codeAny_mono (F.run _ X.stack _ _ ⟨Value.ref (s.heap.objs.size+1)::us,[]⟩ _ _ _ (E σ) (hr.make C us []) (I2.env0.make C us []) hbd r2 hq) λr s' hq'=>?_))
 cases r with
 |error e=>exact hx pins σ _ _ e s' I2 hq'
 |ok fl=>
  cases fl with
  |ret u=>
   obtain⟨v,H',I3,rv,ev,q3⟩:=I2.after hq'
   subst ev
   exact⟨rv,⟨V.ref (s.heap.objs.size+1),H',I3,rfl,q3⟩⟩
  |next=>exact False.elim hq'
  |brk=>exact False.elim hq'
  |cont=>exact False.elim hq'
def cO{n k:Nat}{C:String}{mb:M Fl}{as:List Slot}(h:∃r,dF n k C mb as=r/\∀z,r=z->z≠ .bad):as.length+1=n:=by
 obtain⟨r,h1,h2⟩:=h
 unfold dF at h1
 by_cases hl:as.length+1=n
 ·exact hl
 ·rw[if_neg hl] at h1
  exact absurd h1.symm (λz=>h2 .bad (by rw[<-h1]) rfl)
def nC(M:Mk X.K (cm C) f)(F:Ħ X.prog X.w X.K X.mg X.base CX k f fd ps (Pr (kk X cm) n C mi))(hlen:∀{as:List Slot},(∃r,mi as=r/\∀z,r=z->z≠ .bad)->as.length+1=n)(hr:ű (k+1) X.A)(hg:Gl X x)(hm:X.mg x=some (.ref (cm C)))(hb:Binds X.K fd ps [])(hx:fX CX X E)
 (ha:PA X (e::es) (tA (kk X cm) E ms))(hdb:(x== ("__debug__" :Str))=false:=by decide)(he:starEach (e::es) X.env=(false,eval e X.env)::starEach es X.env:=by exact bT rfl)(hpl:(backTo pos (starEach es X.env)).any (·.1)=false:=by rfl) :
 PE X (.Call (.Name x p) (e::es) [] pos) (tV (kk X cm) E (cF C mi ms)):=by
 intro pins s σ H Q I ⟨c,F',ρ,rel,h⟩
 refine wpAny_Call_Name_kw (vX I hg hm ?_ hdb)
 refine PySem.W.callWith_K (h₀:= X.base) I.ok.mod.kin M.kp (Ť (ha pos pins s σ H (λvs H1=>∀x dx,H1 x=none->H1 dx=none->dx≠x->Pr (kk X cm) n C mi (.ref x::vs) (upd (upd H1 dx (.own x)) x (.ins (cm C) dx [])) (λv H2=>v=.non/\Q (.ref x) H2) (E σ)) I
  ⟨c,F',ρ,rel,aQ.bind h λas ρ1 vs F1 H1 ě _ _ r1 h1=>K_ hlen ě r1 h1⟩) λus s1 ⟨vs,H1,I1,r,q⟩=>⟨I1.nU,?_⟩) he hpl
 exact HN M F hr hb hx I1 r q
end
end P
namespace P
open PySem PySem.Spec PyProof.Rows L2 M2 M3 M4
section
variable{M:Model}{A:Around}{E:Value->Shared->Prop}{s:Shared}{B:Heap}{env:Env}{outer:List Env}{L e:Addr}{Q:Unit->Shared->Prop}
end
def kO.sub{P:Program}{w:World}{H:Hp}{h B:Heap}(x:kO P w H h)(k:∀b o u,H b=some u->h.get? b=some o->B.get? b=some o):kO P w H B:=λa o e=>
 (x a o e).stay (fun b u hb q=>by
   rcases hb with rfl|hb
   ·exact k _ _ _ e q
   ·exact k _ _ _ hb q) (λ_ q=>q) λ_ _ q=>q
section
variable{P:Program}{w:World}{K:PySem.W.Frag}{mg:Str->Option Value}{base:Heap}{N:List Str}{qual:Str}{scope:Scope}{f:Addr}{cdv:Value}{A:Around}{outer:List Env}{s₀:Shared}{H₀:Hp}{E:XK}
end
end P
namespace P
open PySem PySem.Spec PyProof.Rows L2 M2 M3 M4
section
variable{K:PySem.W.Frag}{h:Heap}{C:Addr}{bmB:List Value}{newId:String}
end
section
variable{X:Cx}{cm:String->Addr}{E:L2.St->XK}{x:Str}{C:String}{np cpos pos:Pos}
end
section
variable{M:Model}{A:Around}{E:Value->Shared->Prop}{s:Shared}{K:PySem.W.Frag}{e C D:Addr}{oe:Obj}{b:Bool}{Q:Bool->Shared->Prop}
end
section
variable{X:Cx}{pins:List (Addr×Obj)}{σ:L2.St}{H:Hp}{s:Shared}{xe:Value->Shared->Prop}
end
end P
namespace P
open PySem PySem.Spec PyProof.Rows L2 M2 M3 M4
abbrev MH:=PX->ŋ->Res Fl
section
variable{X:Cx}{cm:String->Addr}{E:L2.St->XK}{pins:List (Addr×Obj)}{σ:L2.St}{H Hc:Hp}{s sc:Shared}{ea:Addr}{C:Value}{d:Option Addr}{B:Heap}
variable{y n:Str}{Dn:String}{i:Nat}{yp hpos:Pos}{b₀:Stmt}{suite:List Stmt}{rest:List ExceptHandler}{yes no:List String}{mh:M Fl}{mr:MH}
end
end P
namespace P
open PySem PySem.Spec PyProof.Rows L2 M2 M3 M4 Builtin Builtin.ObjectAttr
section
variable{K:PySem.W.Frag}{h:Heap}{C:Addr}{cd:ClassData}{bm:List Value}
end
section
variable{prog:Program}{w:World}{A:Around}{E:Value->Shared->Prop}{h:Heap}{g:Array GenState}{d:Drawn}{t:Nat}{os:OsState}
variable{nm q:Str}{C N:Addr}{bs bm bmB:List Value}{hdct:Bool}{sn:List Str}{sub:List Value}{ab:Bool}{col:Option Bool}{dd:Option Addr}{k0 k1 k2 k3 k5:Option Value}{B newId initId:String}
end
section
variable{prog:Program}{w:World}{A:Around}{E:Value->Shared->Prop}{s:Shared}{K:PySem.W.Frag}{x C:Addr}{cd:ClassData}{bm:List Value}{ox:Obj}{od:Option Obj}{name:Str}{v:Value}
end
end P
namespace P
open PySem PySem.Spec PyProof.Rows L2 M2 M3 M4
section
variable{X:Cx}{pins:List (Addr×Obj)}{σ:L2.St}{H:Hp}{s:Shared}{a C:Addr}{cd:ClassData}{bm:List Value}{d:Option Addr}{fs:List (Str×V)}{f:Str}{y:V}{u:Value}{A:Around}{E:Value->Shared->Prop}
variable{o value:Expr}{pos pos':Pos}{j:Nat}{ss:List Stmt}{r:List (Str×Nat)}
end
section
variable{P:Program}{w:World}{K:PySem.W.Frag}{mg:Str->Option Value}{base:Heap}{CX:mY}
end
section
variable{X:Cx}{cm:String->Addr}{E:L2.St->XK}{e:Expr}{es:List Expr}{pos p:Pos}{CX:mY}{k n:Nat}{f:Addr}{fd:FuncData}{ps:List Str}{C:String}{fl:List (Str×Nat)}{ms:M (List PV)}{x:Str}
end
section
variable{M:Model}{A:Around}{E:Value->Shared->Prop}{s:Shared}{K:PySem.W.Frag}{env:Env}
end
section
variable{X:Cx}{cm:String->Addr}{E:L2.St->XK}{e:Expr}{es:List Expr}{pos cpos np:Pos}{CX:mY}{k n:Nat}{f:Addr}{fd:FuncData}{ps:List Str}{C:String}{fl:List (Str×Nat)}{ms:M (List PV)}{x:Str}
end
end P
namespace P
open PySem PySem.Spec PyProof.Rows L2 M2 M3 M4 Builtin Builtin.ObjectAttr
section
variable{prog:Program}{w:World}{A:Around}{E:Value->Shared->Prop}{s:Shared}{K:PySem.W.Frag}{x C:Addr}{ox:Obj}{od:Option Obj}
end
section
variable{X:Cx}{cm:String->Addr}{K:KK}
end
section
variable{ρ:ŋ}{C:String}{n i:Nat}{fl:List (Str×Nat)}{ms:M (List PV)}{mb mh:M Fl}{mr:MH}{yes no:List String}{x:PX}
end
end P
namespace P
open PySem PySem.Spec PyProof.Rows L2 M2 M3 M4
section
variable{X:Cx}{cm:String->Addr}{E:L2.St->XK}{y:Str}{Dn:String}{yp hpos:Pos}{b₀:Stmt}{suite:List Stmt}{rest:List ExceptHandler}{yes no:List String}{mh:M Fl}{mr:MH}
end
end P
namespace P
open PySem PySem.Spec PyProof.Rows L2 M2 M3 M4
section
variable{X:Cx}{cm:String->Addr}{K:KK}
def Tq:List V->Hp->VK->Prop:=λxs H Q=>(∃i,xs=[.int i]/\Q (.int i) H)\/∃k,xs=[.bl k]/\Q (.int (if k then 1 else 0)) H
def Zb9:Ŏ X (.type "int") Tq:=Hq
def La:List PV->Option PV
 | [.int i]=>some (.int i)
 | [.bl k]=>some (.int (if k then 1 else 0))
 |_=>none
def Zb_:cT K Tq La:=by
 intro c F H σ ρ ps pv vs Q rel r e k
 unfold La at e
 split at e
 ·cases e
  obtain⟨v,rfl,r1⟩:=zK r
  cases r1.int
  exact .inl ⟨_,rfl,k _ F H rel (Same.refl _) (Same.refl _) Rep.int⟩
 ·cases e
  obtain⟨v,rfl,r1⟩:=zK r
  cases r1.bl
  exact .inr ⟨_,rfl,k _ F H rel (Same.refl _) (Same.refl _) Rep.int⟩
 ·cases e
def Tr:List V->Hp->VK->Prop:=λxs H Q=>∃i,xs=[.int i]/\i.natAbs.log2<1920/\Q (.str (toString i)) H
def Zca:Ŏ X (.type "str") Tr:=vY
def HS:List PV->Option PV
 | [.int i]=>if i.natAbs.log2<1920 then some (.str (toString i)) else none
 |_=>none
def Zcb:cT K Tr HS:=by
 intro c F H σ ρ ps pv vs Q rel r e k
 unfold HS at e
 split at e
 ·split at e
  ·rename_i hz
   cases e
   obtain⟨v,rfl,r1⟩:=zK r
   cases r1.int
   exact⟨_,rfl,hz,k _ F H rel (Same.refl _) (Same.refl _) Rep.str⟩
  ·cases e
 ·cases e
theorem aO:∀{ns:List Int} {its:List Value},Vals (ns.map V.int) its->IntsAre its ns
 | [],its,h=>by cases h;exact .nil
 |n::ns,its,h=>by
  cases h with
  |cons r t=>
   obtain⟨k,e⟩:=(show ∃k,_=Value.int n k from r)
   subst e
   exact .cons n k (aO t)
def ZeM(K:PySem.W.Frag):List V->Hp->VK->Prop:=λxs H Q=>∃(p:Addr) (ns:List Int),xs=[.ref p]/\ų K H p (ns.map V.int)/\Q (.int ns.sum) H
def qT(hc:X.calm=true):Ŏ X (.builtin "sum") (ZeM X.K):=by
 intro pins s σ H xs us Q I r h
 obtain⟨p,ns,rfl,hS,q⟩:=h
 obtain⟨u,rfl,ru⟩:=vals1 r
 cases ru
 obtain⟨its,rv,pl,hz⟩:=I.list hS
 have hi:=aO rv
 obtain⟨ys,e⟩:=hi.allInts.items
 have hns:ns=ys.toList.map (·.1):=by rw[<-hi.numsOf,<-nums_intItems,<-e]
 have hl:=pl.isList
 rw[e] at hl
 refine sum_intListG (show X.A.handled=none from I.ok.hd hc) hl λh' tk t' hk=>?_
 refine⟨.int ns.sum,H,I.kept hk,⟨t',?_⟩,q⟩
 rw[preSum_eq,List.take_of_length_le (by simp),<-hns]
section
variable{prog:Program}{w:World}{A:Around}{E:Value->Shared->Prop}{s:Shared}{l:Addr}{xs:Array (Int×Tok)}
def zO{Q:Value->Shared->Prop}(hl:s.heap.IsTuple l (intItems xs))
 (h:∀s₂:Shared,s₂= {s with heap:=s.heap.push {cls:=.type "tuple_iterator",data:=.fields #[.ref l,.int 0 0]}}→
   (s₂.heap.IsTupleIter s.heap.objs.size l 0/\s₂.heap.IsTuple l (intItems xs))->(∀b∈[s.heap.objs.size,l],b<s₂.heap.objs.size)->l≠s.heap.objs.size->(∀h':Heap,(∀b o,b∉[s.heap.objs.size]->s₂.heap.get? b=some o->h'.get? b=some o)->∀b o,s.heap.get? b=some o->h'.get? b=some o)->Q (.ref s.heap.objs.size) s₂) :
 wpAny (model prog w) A (pyIter (.ref l)) Q E s:=by
 have hlt:l<s.heap.objs.size:=by obtain⟨_,e,_⟩:=hl;exact Heap.lt_size e
 refine wpAny_pyIter_tuple hl (h _ rfl ⟨⟨_,Heap.get?_push_size _ rfl,rfl,rfl⟩,hl.push _⟩ (λb hb=>?_) (Nat.ne_of_lt hlt) λh' hk b o e=>?_)
 ·show b<(s.heap.push _).objs.size
  rw[Heap.size_push]
  rcases List.mem_cons.mp hb with rfl|hb
  ·exact Nat.lt_succ_self _
  ·rcases List.mem_cons.mp hb with rfl|hb
   ·exact Nat.lt_succ_of_lt hlt
   ·cases hb
 ·refine hk b o (λhm=>?_) (Heap.get?_push_of_some _ e)
  rcases List.mem_cons.mp hm with e1|hm
  ·exact absurd (e1▸Heap.lt_size e) (Nat.lt_irrefl _)
  ·cases hm
def Cz{Q:Value->Shared->Prop}(hh:A.handled=none)(hl:s.heap.IsTuple l (intItems xs))(hne:0<xs.size)
 (h:∀v h' tk,(intItems xs)[argBest (λi j=>decide (numAt xs i>numAt xs j)) (xs.size-1)]?=some v->(∀b o,s.heap.get? b=some o->h'.get? b=some o)->Q v {s with heap:=h',toks:=tk}) :
 wpAny (model prog w) A (call (.builtin "max") [.ref l]) Q E s:=by
 refine call_max_walk (zO hl λs₂ e st hfp hlI hk0=>?_)
 subst e
 refine⟨_,_,_,_,_,_,_,rfl,Walks.tuple (A:=A.in1) hh _ l hlI (intItems xs),st,hfp,by simpa[intItems] using hne,CmpOf.ints_gt (numAt xs) (λ_ _=>intItems_at),λv h' tk hP hk=>?_⟩
 exact h v h' tk (by simpa[intItems] using hP) (hk0 h' hk)
end
def ZeN(K:PySem.W.Frag):List V->Hp->VK->Prop:=λxs H Q=>∃(p:Addr) (ns:List Int),xs=[.ref p]/\(ų K H p (ns.map V.int)\/dw K H p (ns.map V.int))/\0<ns.length/\∀M,M∈ns->(∀a∈ns,a<=M)->Q (.int M) H
def wQ(hc:X.calm=true):Ŏ X (.builtin "max") (ZeN X.K):=by
 intro pins s σ H xs us Q I r h
 obtain⟨p,ns,rfl,hS,hne,q⟩:=h
 obtain⟨u,rfl,ru⟩:=vals1 r
 cases ru
 have fin:∀(ys:Array (Int×Tok)),ns=ys.toList.map (·.1)->0<ys.size->∀v h' tk,(intItems ys)[argBest (λi j=>decide (numAt ys i>numAt ys j)) (ys.size-1)]?=some v->(∀b o,s.heap.get? b=some o->h'.get? b=some o)->EP X pins σ Q v {s with heap:=h',toks:=tk}:=by
  intro ys hns hsz v h' tk hv hk
  obtain⟨t,rfl⟩:=intItems_at hv
  obtain⟨h1,h2⟩:=argBest_gt (numAt ys) (ys.size-1)
  refine⟨.int _,H,I.kept hk,⟨t,rfl⟩,q _ ?_ λa ha=>?_⟩
  ·rw[hns,numAt_eq]
   have hj:argBest (λi j=>decide (numAt ys i>numAt ys j)) (ys.size-1)<(ys.toList.map (·.1)).length:=by rw[List.length_map,Array.length_toList];omega
   rw[List.getD_eq_getElem?_getD,List.getElem?_eq_getElem hj]
   exact List.getElem_mem _
  ·rw[hns] at ha
   obtain⟨j,hj,rfl⟩:=List.mem_iff_getElem.mp ha
   rw[List.length_map,Array.length_toList] at hj
   have:=h2 j (by omega)
   rw[numAt_eq ys j,List.getD_eq_getElem?_getD,List.getElem?_eq_getElem (by rw[List.length_map,Array.length_toList];exact hj)] at this
   exact this
 rcases hS with hS|hS
 ·obtain⟨its,rv,pl,hz⟩:=I.list hS
  have hi:=aO rv
  obtain⟨ys,e⟩:=hi.allInts.items
  have hns:ns=ys.toList.map (·.1):=by rw[<-hi.numsOf,<-nums_intItems,<-e]
  have hl:=pl.isList
  rw[e] at hl
  have hsz:0<ys.size:=by rw[hns,List.length_map,Array.length_toList] at hne;exact hne
  exact max_intList (show X.A.handled=none from I.ok.hd hc) hl hsz (fin ys hns hsz)
 ·obtain⟨its,rv,pl,hz⟩:=I.tuple hS
  have hi:=aO rv
  obtain⟨ys,e⟩:=hi.allInts.items
  have hns:ns=ys.toList.map (·.1):=by rw[<-hi.numsOf,<-nums_intItems,<-e]
  have hl:s.heap.IsTuple p its.toArray:=pl
  rw[e] at hl
  have hsz:0<ys.size:=by rw[hns,List.length_map,Array.length_toList] at hne;exact hne
  exact Cz (show X.A.handled=none from I.ok.hd hc) hl hsz (fin ys hns hsz)
def ZeO(K:PySem.W.Frag):List V->Hp->VK->Prop:=λxs H Q=>∃(p:Addr) (ns:List Int),xs=[.ref p]/\ų K H p (ns.map V.int)/\0<ns.length/\∀M,M∈ns->(∀a∈ns,M<=a)->Q (.int M) H
def Lb(hc:X.calm=true):Ŏ X (.builtin "min") (ZeO X.K):=by
 intro pins s σ H xs us Q I r h
 obtain⟨p,ns,rfl,hS,hne,q⟩:=h
 obtain⟨u,rfl,ru⟩:=vals1 r
 cases ru
 obtain⟨its,rv,pl,hz⟩:=I.list hS
 have hi:=aO rv
 obtain⟨ys,e⟩:=hi.allInts.items
 have hns:ns=ys.toList.map (·.1):=by rw[<-hi.numsOf,<-nums_intItems,<-e]
 have hl:=pl.isList
 rw[e] at hl
 have hsz:0<ys.size:=by rw[hns,List.length_map,Array.length_toList] at hne;exact hne
 refine min_intList (show X.A.handled=none from I.ok.hd hc) hl hsz λv h' tk hv hk=>?_
 obtain⟨t,rfl⟩:=intItems_at hv
 obtain⟨h1,h2⟩:=argBest_lt (numAt ys) (ys.size-1)
 refine⟨.int _,H,I.kept hk,⟨t,rfl⟩,q _ ?_ λa ha=>?_⟩
 ·rw[hns,numAt_eq]
  have hj:argBest (λi j=>decide (numAt ys i<numAt ys j)) (ys.size-1)<(ys.toList.map (·.1)).length:=by rw[List.length_map,Array.length_toList];omega
  rw[List.getD_eq_getElem?_getD,List.getElem?_eq_getElem hj]
  exact List.getElem_mem _
 ·rw[hns] at ha
  obtain⟨j,hj,rfl⟩:=List.mem_iff_getElem.mp ha
  rw[List.length_map,Array.length_toList] at hj
  have:=h2 j (by omega)
  rw[numAt_eq ys j,List.getD_eq_getElem?_getD,List.getElem?_eq_getElem (by rw[List.length_map,Array.length_toList];exact hj)] at this
  exact this
def intsOf:List PV->Option (List Int)
 | []=>some []
 | .int b::ps=>(intsOf ps).map (b:: ·)
 |_::_=>none
@[simp] theorem jZ:∀ns:List Int,intsOf (ns.map PV.int)=some ns
  | []=>rfl
  |n::ns=>by rw[List.map_cons,intsOf,jZ ns];rfl
theorem ints_rep{F:Hp}:∀{ps:List PV} {vs:List V} {bs:List Int},ĝ K F ps vs->intsOf ps=some bs->vs=bs.map V.int
 | [],vs,bs,r,h=>by
   cases h
   cases r.pr
   rfl
 |p::ps,vs,bs,r,h=>by
  cases r.pr with
  |cons r1 t=>
   cases p with
   |int b=>
    unfold intsOf at h
    obtain⟨cs,e,rfl⟩:=Option.map_eq_some_iff.mp h
    rw[ints_rep (ĝ.of t) e,show _=V.int b from r1]
    rfl
   |_=>cases h
def best(f:Int->Int->Int):List Int->Option Int
 | []=>none
 |n::ns=>some (ns.foldl f n)
theorem foldl_max:∀(ns:List Int) (n:Int),ns.foldl max n∈n::ns/\∀a∈n::ns,a<=ns.foldl max n
 | [],n=>by simp
 |m::ns,n=>by
  obtain⟨h1,h2⟩:=foldl_max ns (max n m)
  rw[List.foldl_cons]
  refine⟨?_,λa ha=>?_⟩
  ·rcases List.mem_cons.mp h1 with e|e
   ·rw[e]
    by_cases h:n<=m
    ·rw[Int.max_eq_right h];simp
    ·rw[Int.max_eq_left (by omega)];simp
   ·simp[e]
  ·have hm:=h2 (max n m) List.mem_cons_self
   rcases List.mem_cons.mp ha with rfl|ha
   ·omega
   ·rcases List.mem_cons.mp ha with rfl|ha
    ·omega
    ·exact h2 a (List.mem_cons_of_mem _ ha)
theorem foldl_min:∀(ns:List Int) (n:Int),ns.foldl min n∈n::ns/\∀a∈n::ns,ns.foldl min n<=a
 | [],n=>by simp
 |m::ns,n=>by
  obtain⟨h1,h2⟩:=foldl_min ns (min n m)
  rw[List.foldl_cons]
  refine⟨?_,λa ha=>?_⟩
  ·rcases List.mem_cons.mp h1 with e|e
   ·rw[e]
    by_cases h:n<=m
    ·rw[Int.min_eq_left h];simp
    ·rw[Int.min_eq_right (by omega)];simp
   ·simp[e]
  ·have hm:=h2 (min n m) List.mem_cons_self
   rcases List.mem_cons.mp ha with rfl|ha
   ·omega
   ·rcases List.mem_cons.mp ha with rfl|ha
    ·omega
    ·exact h2 a (List.mem_cons_of_mem _ ha)
def pJ:List PV->Option PV
 | [.lst ps]=>(intsOf ps).map λns=>.int ns.sum
 |_=>none
def fH:List PV->Option PV
 | [.lst ps]=>((intsOf ps).bind (best max)).map .int
 | [.tup ps]=>((intsOf ps).bind (best max)).map .int
 |_=>none
def uW:List PV->Option PV
 | [.lst ps]=>((intsOf ps).bind (best min)).map .int
 |_=>none
def qU:cT K (ZeM K.K) pJ:=by
 intro c F H σ ρ ps pv vs Q rel r e k
 unfold pJ at e
 split at e
 ·rename_i ps
  obtain⟨v,rfl,r1⟩:=zK r
  obtain⟨a,xs,rfl,h1,h2⟩:=r1.lst rel.sub
  obtain⟨ns,eb,rfl⟩:=Option.map_eq_some_iff.mp e
  exact⟨a,ns,rfl,by rw[<-ints_rep h2 eb];exact h1,k _ F H rel (Same.refl _) (Same.refl _) Rep.int⟩
 ·cases e
def wR:cT K (ZeN K.K) fH:=by
 intro c F H σ ρ ps pv vs Q rel r e k
 have fin:∀(ps:List PV) (xs:List V),ĝ K F ps xs->((intsOf ps).bind (best max)).map PV.int=some pv->∃ns:List Int,xs=ns.map V.int/\0<ns.length/\∀M,M∈ns->(∀a∈ns,a<=M)->Q (.int M) H:=by
  intro ps xs h2 e
  obtain⟨m,em,rfl⟩:=Option.map_eq_some_iff.mp e
  obtain⟨ns,eb,hb⟩:=Option.bind_eq_some_iff.mp em
  cases ns with
  |nil=>cases hb
  |cons n ns=>
   cases hb
   obtain⟨z1,z2⟩:=foldl_max ns n
   refine⟨n::ns,ints_rep h2 eb,by simp,λM m1 m2=>?_⟩
   have:M=ns.foldl max n:=Int.le_antisymm (z2 M m1) (m2 _ z1)
   rw[this]
   exact k _ F H rel (Same.refl _) (Same.refl _) Rep.int
 unfold fH at e
 split at e
 ·rename_i ps
  obtain⟨v,rfl,r1⟩:=zK r
  obtain⟨a,xs,rfl,h1,h2⟩:=r1.lst rel.sub
  obtain⟨ns,rfl,hl,hq⟩:=fin ps xs h2 e
  exact⟨a,ns,rfl,.inl h1,hl,hq⟩
 ·rename_i ps
  obtain⟨v,rfl,r1⟩:=zK r
  obtain⟨a,xs,rfl,h1,h2⟩:=r1.tup rel.sub
  obtain⟨ns,rfl,hl,hq⟩:=fin ps xs h2 e
  exact⟨a,ns,rfl,.inr h1,hl,hq⟩
 ·cases e
def Ld:cT K (ZeO K.K) uW:=by
 intro c F H σ ρ ps pv vs Q rel r e k
 unfold uW at e
 split at e
 ·rename_i ps
  obtain⟨v,rfl,r1⟩:=zK r
  obtain⟨a,xs,rfl,h1,h2⟩:=r1.lst rel.sub
  obtain⟨m,em,rfl⟩:=Option.map_eq_some_iff.mp e
  obtain⟨ns,eb,hb⟩:=Option.bind_eq_some_iff.mp em
  cases ns with
  |nil=>cases hb
  |cons n ns=>
   cases hb
   obtain⟨z1,z2⟩:=foldl_min ns n
   refine⟨a,n::ns,rfl,by rw[<-ints_rep h2 eb];exact h1,by simp,λM m1 m2=>?_⟩
   have:M=ns.foldl min n:=Int.le_antisymm (m2 _ z1) (z2 M m1)
   rw[this]
   exact k _ F H rel (Same.refl _) (Same.refl _) Rep.int
 ·cases e
@[simp] theorem Zf2{i:Int}:La [.int i]=some (.int i):=rfl
@[simp] theorem Zf3{b:Bool}:La [.bl b]=some (.int (if b then 1 else 0)):=rfl
@[simp] theorem Zf4{i:Int}:HS [.int i]=if i.natAbs.log2<1920 then some (.str (toString i)) else none:=rfl
@[simp] theorem jt{ps:List PV}:pJ [.lst ps]=(intsOf ps).map λns=>.int ns.sum:=rfl
@[simp] theorem Rr{ps:List PV}:fH [.lst ps]=((intsOf ps).bind (best max)).map .int:=rfl
@[simp] theorem Rt{ps:List PV}:uW [.lst ps]=((intsOf ps).bind (best min)).map .int:=rfl
@[simp] theorem Zf5{f:Int->Int->Int}{n:Int}{ns:List Int}:best f (n::ns)=some (ns.foldl f n):=rfl
end
end P
namespace P
open PySem PySem.Spec PyProof.Rows L2 M2 M3 M4
def ZeP(K:PySem.W.Frag)(C:Addr):Bool:=PySem.W.plainGet K C Str.empty && PySem.W.hasDictIn K C && PySem.W.plainOver K C && PySem.W.findIn K (.ref C) "__setattr__" == some (some (.builtin "object.__setattr__"))
def j_{K:PySem.W.Frag}{C:Addr}(h:ZeP K C=true):Cls K C:=by
 unfold ZeP at h
 simp only[Bool.and_eq_true,beq_iff_eq] at h
 exact⟨h.1.1.1,h.1.1.2,h.1.2,h.2⟩
def Tt(K:PySem.W.Frag)(C:Addr)(m:Str)(f:Addr):Bool:=PySem.W.findIn K (.ref C) m== some (some (.ref f)) && PySem.W.isFn K (.ref f) && PySem.W.keepIn K (.ref f)
def bA{K:PySem.W.Frag}{C f:Addr}{m:Str}(h:Tt K C m f=true):Meth K C m f:=by
 unfold Tt at h
 simp only[Bool.and_eq_true,beq_iff_eq] at h
 exact⟨h.1.1,h.1.2,h.2⟩
def mkB(K:PySem.W.Frag)(C f:Addr):Bool:=PySem.W.makesIn K C && PySem.W.findIn K (.ref C) "__init__" == some (some (.ref f)) && PySem.W.isFn K (.ref f) && PySem.W.keepIn K (.ref C)
def qW{K:PySem.W.Frag}{C f:Addr}(h:mkB K C f=true):Mk K C f:=by
 unfold mkB at h
 simp only[Bool.and_eq_true,beq_iff_eq] at h
 exact⟨h.1.1.1,h.1.1.2,h.1.2,h.2⟩
section
variable{ρ:ŋ}{i n k:Nat}{C:String}{cs:List String}{f m:Str}{mv mo:M PV}{mi:MI}{ms:M (List Slot)}{mb:M Fl}{jk:List (String×MF)}{as:List Slot}{ns:List Str}{ps:List PV}
@[simp] theorem Zf6:jB i cs f mv ρ=(mv ρ).bind fun p ρ1=>match ρ1[i]? with
  |some (.rc C ns ps)=>if cs.contains C=true/\ns.length<1000 then .ok .nx (ρ1.set i (.rc C (putN f ns) (Cy f p ns ps))) else .bad
  |_=>.bad:=rfl
@[simp] theorem Zf7:dF n k C mb as=if as.length+1=n then IR.of (mb (.rc C [] []::startP (k-1) as)) else .bad:=rfl
@[simp] theorem ZhE{C:String}:IR.of (.ok .nx (.rc C ns ps::ρ))=.ok ns ps:=rfl
@[simp] theorem Zf8:cF C mi ms ρ=(ms ρ).bind fun as ρ1=>match mi as with
  | .ok ns ps=>.ok (.ins C ns ps) ρ1
  | .exc x=>.exc x ρ1
  | .bad=>.bad:=rfl
@[simp] theorem ZhF:Ů cs f (.ins C ns ps)=if cs.contains C=true then(ns.zip ps).lookup f else none:=rfl
@[simp] theorem Gi:cV m jk mo ms ρ=(mo ρ).bind fun p ρ1=>match p with
  | .ins C ns ps=>match jk.lookup C with
    |some mf=>if ns.contains m=true then .bad else(ms ρ1).bind λas ρ2=>match mf (.sh (.ins C ns ps)::as) with
     | .ret r=>.ok r ρ2
     | .exc x=>.exc x ρ2
     | .bad=>.bad
    |none=>.bad
  |_=>.bad:=rfl
end
end P
namespace M3
open PySem PySem.Spec PyProof.Rows L2 M2
section
variable{X:Cx}{elt tg iter:Expr}{ifs:List Expr}{scope:Scope}{pos:Pos}{wi:TI}{g:TG}{tt:TT}{te:TE}
def Ru{iv:Nat}{y:Str}{py spos:Pos}(hN:X.N.Nodup)(hiN:X.N[iv]?=some y)(hy:X.env.scope.names.lookup y=some .local)(hsw:swapsWith (.ListComp elt [⟨tg,iter,ifs,0⟩] scope pos) (some (.Name y py)) spos.line X.env=pure true)(N':List Str)(js:List Nat)(nl:Nat)(sc:Scope)(hsc:X.env.scope=sc)(hcalm:X.calm=true)
 (hi:PI X.Ū tg iter wi)(hg:∀cl C s H fp,PG (dR X.Ū N' scope cl C s H fp) tg g)(ht:∀cl C s H fp,Ik (dR X.Ū N' scope cl C s H fp) ifs tt)(he:∀cl C s H fp,PE (dR X.Ū N' scope cl C s H fp) elt te)
 (hcap:eX X.Ū sc scope N' js)(hlen:js.length+nl=N'.length:=by rfl)
 (hk:scope.kind=.function:=by rfl)(hcell:∀y∈scope.names,y.2=.cell->scope.names.lookup y.1=some .cell:=by decide +kernel)(hnames:∀y∈scope.names,y.2=.local->scope.names.lookup y.1=some .local:=by decide +kernel)
 (hfree:∀y∈scope.names,y.2=.free->(sc.names.lookup y.1=some .cell\/sc.names.lookup y.1=some .free):=by decide +kernel)
 (hs:∀x,foldedSetIterable iter X.env x=pure x:=by intro _;rfl) :
 PS X.Ū (.Assign [.Name y py] (.ListComp elt [⟨tg,iter,ifs,0⟩] scope pos) spos) (λD σ H=>JK js nl wi g tt te σ H λv H'=>D.nx (σ.set iv (some v)) H'):=by
 intro pins s σ H D I h
 obtain⟨cl0,c1,c2,c3⟩:=fQ (scope:=scope) (env:=X.Ū.env) λy hy hf=>I.ok.has y.1 (by
  have:=hfree y hy hf
  rw[<-hsc] at this
  exact this)
 rw[exec_Assign_Name_used _ _ _ _ (show swapsWith _ _ _ X.Ū.env=pure true from hsw)]
 refine wpAny_bind (wpAny_standAt (wpAny_bind ?_))
 show wpAny _ X.A (do let _ <-comprehension (.ListComp elt [⟨tg,iter,ifs,0⟩] scope pos) scope X.Ū.env _ (newList []) false (eval iter X.Ū.env) (some (assign (.Name y py) X.Ū.env))) _ _ s
 refine wpAny_bind (wpAny_mono (wpAny_comprehension_free (Q:=λ_ s'=>SP X.Ū pins D .next s') (use:=some (assign (.Name y py) X.Ū.env)) rfl hs c1 hk hnames (Ť (hi pins s σ H _ I h) λv s1 h1=>Ť h1 λitv s2 h2=>?_)) (λ_ s' hq=>wpAny_pure (wpAny_pure hq)) λ_ _ e=>e)
 obtain⟨it,fp,tn,J,H2,e,I2,T,st2,f2,q2⟩:=h2
 subst e
 refine wpAny_newObj_type (jA (λh₁ hns₁ old ZbN=>?_))
 dsimp only at hns₁ old ZbN ⊢
 generalize hH3:s2.heap.push {cls:=.type "list",dict:=none,data:=.seq ([]:List Value).toArray}=cI at hns₁ old ZbN ⊢
 have hD:H2 s2.heap.objs.size=none:=I2.hok.fresh (Nat.le_refl _)
 have I3:Inv X.Ū pins σ (upd H2 s2.heap.objs.size (.lst [])) {s2 with heap:=cI}:=by
  rw[<-hH3]
  exact I2.laid (t':=s2.toks) (λb u e=>Heap.get?_push_of_some _ e) (Nat.le_refl _) ⟨Nat.zero_le _,[],0,.nil,Heap.get?_push_size _ rfl⟩
 have JN:∀b∈fp,b<s2.heap.objs.size:=λb hb=>by
  obtain⟨o,ho,_⟩:=T.obj 0 _ st2 b hb
  exact Heap.lt_size ho
 have sz3:cI.objs.size=s2.heap.objs.size+1:=by rw[<-hH3,Heap.size_push]
 have f3:∀b∈fp,bR X.Ū pins (upd H2 s2.heap.objs.size (.lst [])) b:=λb hb=>by
  obtain⟨g0,g1⟩:=f2 b hb
  exact⟨by rw[Ğ (Nat.ne_of_lt (JN b hb))];exact g0,g1⟩
 have B:=JL (X:=X.Ū) (cl:=cl0) hcell c2 c3 (λx c e=>by
  obtain⟨v,o,ho,_⟩:=I3.cell x c e
  exact Heap.lt_size ho) ZbN
 generalize cellsFrom (cI.objs.size+1) scope.names cl0=cl at B ⊢
 obtain⟨W,⟨m0,w0⟩,turn⟩:=q2 s2.heap.objs.size hD
 have I4:=uM (X:=X.Ū) (N':=N') (js:=js) (nl:=nl) (sc:=sc) (scope:=scope) (cl:=cl) (fp:=fp) (h':=h₁) (tk:=s2.toks) hsc hk hcap hlen B I3 f3 (λb hb=>by show b<cI.objs.size;rw[sz3];exact Nat.lt_succ_of_lt (JN b hb)) hns₁ old
 have st4:tn 0 h₁:= T.keep 0 _ _ st2 λb hb o e=>old b o (by rw[<-hH3];exact Heap.get?_push_of_some _ e)
 have fr4:∀b∈fp,(upd H2 s2.heap.objs.size (.lst [])) b=none:=λb hb=>(f3 b hb).1
 have stat:∀{H':Hp},(∀b∈fp,H' b=none)->∀b∈fp,bR (dR X.Ū N' scope cl cI.objs.size {s2 with heap:=cI} (upd H2 s2.heap.objs.size (.lst [])) fp) [] H' b:=fun{H'} hn b hb=>by
  obtain⟨g0,g1,g2,g3,g4,g5⟩:=f3 b hb
  refine⟨hn b hb,Nat.ne_of_lt (by show b<cI.objs.size;rw[sz3];exact Nat.lt_succ_of_lt (JN b hb)),λz=>?_,.inl hb,λx c e=>by
   rcases B.at_ x c e with⟨q,_⟩|⟨q,_⟩
   ·exact g4 x c q
   ·exact Nat.ne_of_gt (Nat.lt_trans (by show b<cI.objs.size;rw[sz3];exact Nat.lt_succ_of_lt (JN b hb)) q),λp hp=>absurd hp (by simp[dR])⟩
  rcases List.mem_cons.mp (I3.qt b z) with z|z
  ·exact g1 z
  ·exact g2 z
 have loop:∀s₃:Shared,s₃= {s2 with heap:=h₁}->
  codeAny (model X.prog X.w) X.A (.compLoop (.ListComp elt [⟨tg,iter,ifs,0⟩] scope pos) 0 (.ref it) (.ref s2.heap.objs.size) (compEnvC scope cl cI.objs.size X.Ū.env))
   (compPost (model X.prog X.w) X.A X.Ū.xe (some (assign (.Name y py) X.Ū.env)) (λ_ s'=>SP X.Ū pins D .next s') (.ref s2.heap.objs.size) cI.objs.size) s₃:= by
  rintro s₃ rfl
  refine kZ (λn s'=>∃i σ' H',Inv (dR X.Ū N' scope cl cI.objs.size {s2 with heap:=cI} (upd H2 s2.heap.objs.size (.lst [])) fp) [] σ' H' s'/\tn i s'.heap/\(∀b∈fp,H' b=none)/\W i n σ' H') ?_ m0 ⟨0,_,_,I4,st4,fr4,w0⟩
  rintro n s5 ⟨i,σ5,H5,I5,Qe,fr5,w5⟩
  rcases turn i n σ5 H5 w5 with⟨stop,qn⟩|⟨go,N,hN,step⟩
  ·refine Ť (T.done (dR X.Ū N' scope cl cI.objs.size {s2 with heap:=cI} (upd H2 s2.heap.objs.size (.lst [])) fp) rfl rfl rfl hcalm i [] s5 σ5 H5 (λ_ _=>False) I5 (stat fr5) Qe stop) λr s6 ⟨hr,I6⟩=>?_
   subst hr
   obtain⟨m,hm,_⟩:=I6.loc
   have I7:Inv X.Ū pins σ H5 s6:=qH (h':=s6.heap) I3 f3 I6 (λb u hb e=>e)
   have hCL:cI.objs.size≠X.Ū.env.locals:=Nat.ne_of_gt I3.lt
   have hcC:∀x c,X.Ū.env.cells.lookup x=some c->c≠cI.objs.size:=λx c e z=>by
    obtain⟨v,o,ho,_⟩:=I3.cell x c e
    exact absurd (Heap.lt_size ho) (by rw[z];exact Nat.lt_irrefl _)
   have hpC:∀p∈X.Ū.pn++pins,p.1≠cI.objs.size:=λp hp z=>by
    have:=Heap.lt_size (I3.pin p hp).1
    rw[z] at this
    exact Nat.lt_irrefl _ this
   have hnC:H5 cI.objs.size=none:=I6.free
   refine wpAny_assign_Name (uz (X:=X.Ū) (i:=iv) I7 hN hiN (.inl hy) (v:=.ref s2.heap.objs.size) rfl (λs8 I8 ⟨a8,sb8,ha8⟩=>?_) (.inr hy))
   have ne8:cI.objs.size≠a8:=by
    rcases ha8 with rfl|ha8
    ·exact hCL
    ·exact λz=>hcC _ _ ha8 z.symm
   refine⟨m,hm.sameBut sb8 ne8,λh' hs'=>⟨_,H5,?_,qn⟩⟩
   have kp:∀b o,b≠cI.objs.size->s8.heap.get? b=some o->h'.get? b=some o:=λb o hb e=>hs'.extBut b o hb e
   have kp':∀b o,b∉[cI.objs.size]->s8.heap.get? b=some o->h'.get? b=some o:=λb o hb e=>kp b o (λz=>hb (by rw[z];exact List.mem_cons_self)) e
   refine I8.call' (ch:=[cI.objs.size]) (s':={s8 with heap:=h'}) rfl ⟨λb o e _ _ hx=>kp' b o hx e,λb o e _ _ hx=>⟨o.slots,kp' b o hx e⟩,λb o _ n _=>n,λb o e hx=>⟨o,kp' b o hx e⟩,λ_ _ q=>q,λ_ _ _ q=>q,λ_ ps q=>q⟩ (Fq I8.hok hnC kp) I8.bare λb hb=>?_
   cases List.mem_singleton.mp hb
   exact⟨.inr I3.sz,hCL,hcC,hpC⟩
  ·refine Ť (T.item (dR X.Ū N' scope cl cI.objs.size {s2 with heap:=cI} (upd H2 s2.heap.objs.size (.lst [])) fp) rfl rfl rfl hcalm i [] s5 σ5 H5 (λ_ _=>False) I5 (stat fr5) Qe go) λr s6 ⟨u,hr,h6⟩=>?_
   subst hr
   refine Ť h6 λ_ s7 ⟨x,H7,I7,r7,y7,st7,fr7⟩=>?_
   have I7':=I7.pinned (stat fr7) (T.obj _ _ st7)
   have again:∀{s8:Shared} {σ8:L2.St} {H8:Hp},Inv (dR X.Ū N' scope cl cI.objs.size {s2 with heap:=cI} (upd H2 s2.heap.objs.size (.lst [])) fp) ([]++mR fp s7.heap) σ8 H8 s8->
    Inv (dR X.Ū N' scope cl cI.objs.size {s2 with heap:=cI} (upd H2 s2.heap.objs.size (.lst [])) fp) [] σ8 H8 s8/\tn (i+1) s8.heap/\∀b∈fp,H8 b=none:=fun{s8 σ8 H8} I8=>by
    refine⟨I8.eU,T.keep _ _ _ st7 λb hb o e=>(I8.pin (b,o) (List.mem_append_right _ (List.mem_append_right _ (ź hb e)))).1,λb hb=>?_⟩
    obtain⟨o,e,d⟩:=T.obj _ _ st7 b hb
    exact(I8.pin (b,o) (List.mem_append_right _ (List.mem_append_right _ (ź hb e)))).2.1
   refine Ť (hg cl _ _ _ fp _ s7 σ5 H7 x u _ I7' r7 (step x H7 y7)) λ_ s8 ⟨σ8,H8,I8,q8⟩=>?_
   refine Ť (ht cl _ _ _ fp _ s8 σ8 H8 _ I8 q8) λc s9 ⟨H9,I9,q9⟩=>?_
   cases c with
   |false=>
    rw[if_neg Bool.false_ne_true] at q9 ⊢
    obtain⟨m',hm',w9⟩:=hN _ _ q9
    obtain⟨a1,a2,a3⟩:=again I9
    exact⟨m',hm',i+1,σ8,H9,a1,a2,a3,w9⟩
   |true=>
    rw[if_pos rfl] at q9 ⊢
    refine Ť (he cl _ _ _ fp _ s9 σ8 H9 _ I9 q9) λyv Bm ⟨y,H10,I10,r10,ys,e10,l10,w10⟩=>?_
    refine Ť (Ŵ _ Bm σ8 H10 (.ref s2.heap.objs.size) [y] (.ref s2.heap.objs.size) [yv] (λ_ H11=>N σ8 H11) I10 rfl (.cons r10 .nil) ⟨_,ys,y,rfl,rfl,e10,l10,w10⟩) λ_ s11 ⟨v11,H11,I11,_,w11⟩=>?_
    obtain⟨a1,a2,a3⟩:=again I11
    obtain⟨m',hm',w11⟩:=hN _ _ w11
    exact⟨m',hm',i+1,σ8,H11,a1,a2,a3,w11⟩
 exact codeAny_compStart_list (loop _ rfl) (T.self _ 0 _ _ _ st4 (loop _ rfl))
end
end M3
namespace P
open PySem PySem.Spec PyProof.Rows L2 M2 M3 M4
section
variable{X:Cx}{cm:String->Addr}{E:L2.St->XK}{elt tg iter:Expr}{ifs:List Expr}{scope:Scope}{pos:Pos}{mi:M (List PV)}{g:Tg}{mt:M Bool}{me:M PV}
theorem PS.Ū{st:Stmt}{t:TS}(h:PS X.Ū st t):PS X st t:=λpins s σ H D I hw=>
 wpAny_mono (h pins s σ H D (I.wish _) hw) (λ_ _ q=>q.fO) λ_ _ z=>False.elim z
def Zcc{i:Nat}{y:Str}{py spos:Pos}(hN:X.N.Nodup)(hi0:X.N[i]?=some y)(hy:X.env.scope.names.lookup y=some .local)(N':List Str)(js:List Nat)(nl:Nat)(sc:Scope)(hsc:X.env.scope=sc)(hcalm:X.calm=true)
 (hi:PI X.Ū tg iter (tI (kk X cm) E mi))(hg:∀cl C s H fp,PG (dR X.Ū N' scope cl C s H fp) tg (tT (kk X cm) g))(ht:∀cl C s H fp,Ik (dR X.Ū N' scope cl C s H fp) ifs (tB (kk X cm) EF mt))(he:∀cl C s H fp,PE (dR X.Ū N' scope cl C s H fp) elt (tV (kk X cm) EF me))
 (hcap:eX X.Ū sc scope N' js)(hlen:js.length+nl=N'.length:=by rfl)
 (hk:scope.kind=.function:=by rfl)(hcell:∀y∈scope.names,y.2=.cell->scope.names.lookup y.1=some .cell:=by decide +kernel)(hnames:∀y∈scope.names,y.2=.local->scope.names.lookup y.1=some .local:=by decide +kernel)
 (hfree:∀y∈scope.names,y.2=.free->(sc.names.lookup y.1=some .cell\/sc.names.lookup y.1=some .free):=by decide +kernel)
 (hs:∀x,foldedSetIterable iter X.env x=pure x:=by intro _;rfl)(hsw:swapsWith (.ListComp elt [⟨tg,iter,ifs,0⟩] scope pos) (some (.Name y py)) spos.line X.env=pure true:=by rfl) :
 PS X (.Assign [.Name y py] (.ListComp elt [⟨tg,iter,ifs,0⟩] scope pos) spos) (tS (kk X cm) E (ġ i (Ĵ js nl mi g mt me))):=
 PS.wk (PS.Ū (Ru hN hi0 hy hsw N' js nl sc hsc hcalm (Td hi) hg ht he hcap hlen hk hcell hnames hfree hs)) fun D σ H ⟨c,F,ρ,rel,h⟩=>zF ⟨c,F,ρ,rel,Ż.bind h fun r ρ1 v F1 H1 ě s1 q h1=>by
   cases r with
   |sh p=>exact h1 _ F1 H1 (ě.put rfl ⟨v,rfl,q⟩) (Same.refl _)
   |ow ps=>
    obtain⟨a,vs,rfl,q1,q2,q3,q4,q5⟩:=q
    exact h1 _ F1 H1 (ě.QT ⟨a,vs,rfl,q1,q2,q3,q5⟩ λ_ z=>V.ref.inj z▸q4) (Same.refl _)
   |ot ps qs=>
    obtain⟨p,a,xs,vs,rfl,q0,qx,q1,q2,q3,q4,q5⟩:=q
    exact h1 _ F1 H1 (ě.QT (s:=.ot ps qs) ⟨p,a,xs,vs,rfl,q0,qx,q1,q2,q3,q5⟩ λ_ z=>qe (ps:=ps) (qs:=qs) z ⟨p,xs,rfl,q0⟩▸q4) (Same.refl _)⟩
end
end P
namespace P
open PySem PySem.Spec PyProof.Rows L2 M2 M3 M4
def MtV(K:KK)(r:V->List V->Hp->VK->Prop)(f:PV->List PV->Option PV):Prop:=∀{c:Ctx} {F H:Hp} {σ:L2.St} {ρ:ŋ} {p:PV} {ps:List PV} {pv:PV} {v:V} {vs:List V} {Q:VK},Rel K c F H σ ρ->rR K c σ ρ F H p v->rRL K c σ ρ F H ps vs->f p ps=some pv->
 (∀z F' H',Rel K c F' H' σ ρ->Same F F'->Same H H'->Rep K F' pv z->Q z H')->r v vs H Q
def mBM(f:PV->List PV->Option PV)(mo:M PV)(ms:M (List PV)):M PV:=λρ=>(mo ρ).bind λp ρ1=>match p with
 | .str _=>(ms ρ1).bind λps ρ2=>Res.n_ (f p ps) ρ2
 |_=>.bad
@[simp] theorem Zh8{f:PV→List PV→Option PV}{mo:M PV}{ms:M (List PV)}{ρ:ŋ}:mBM f mo ms ρ=(mo ρ).bind fun p ρ1=>match p with
  | .str _=>(ms ρ1).bind λps ρ2=>Res.n_ (f p ps) ρ2
  |_=>.bad:=rfl
section
variable{X:Cx}{cm:String->Addr}{K:KK}{E:L2.St->XK}{o e:Expr}{es:List Expr}{name:Str}{apos cpos:Pos}{id:String}{r:V->List V->Hp->VK->Prop}{f:PV->List PV->Option PV}{mo:M PV}{ms:M (List PV)}
def ZhG(pa:PlainAttrs "str")(slot:PySem.Slot "str" name id)(hty:typeOf (.builtin id)=pure (.type "method_descriptor"))(hf:MtV (kk X cm) r f)(hm:MtR X id r)(ho:PE X o (tR (kk X cm) E mo))(ha:PA X (e::es) (Pn (kk X cm) E ms))
 (hbase:attributeBase o name X.env (eval o X.env)=eval o X.env:=by rfl)
 (hfew:((backTo cpos (starEach (e::es) X.env)).all (fun x=>!x.1) && (backToKw cpos (keywordEach [] X.env)).all (fun x=>x.1.isSome)
   && decide ((e::es).length+([]:List Keyword).length+(if([]:List Keyword).isEmpty then 0 else 1)<30))=true:=by rfl)
 (hline:(apos.endLine== cpos.line)=true:=by rfl)(hs:starEach (e::es) X.env=(false,eval e X.env)::starEach es X.env:=by exact bT rfl)(hplain:(backTo cpos (starEach es X.env)).any (·.1)=false:=by rfl) :
 PE X (.Call (.Attribute o name apos) (e::es) [] cpos) (tV (kk X cm) E (mBM f mo ms)):=
 PE.wk (ig pa slot hty hm ho ha hbase hfew hline hs hplain) fun σ H Q ⟨c,F,ρ,rel,h⟩=>⟨c,F,ρ,rel,aQ.bind h fun p ρ1 v F1 H1 ě _ _ r1 h1=>by
   cases p with
   |str z=>
    cases r1.str
    refine⟨rfl,c,F1,ρ1,ě,aQ.bind h1 λps ρ2 vs F2 H2 ļ sF sH r2 h2=>?_⟩
    cases ef:f (.str z) ps with
    |none=>rw[ef] at h2;exact h2.elim
    |some pv=>rw[ef] at h2;exact hf ļ (.inl (Rep.str (K:=kk X cm) (F:=F2))) r2 ef λz F' H' bF s1 s2 q'=>h2 z F' H' bF s1 s2 q'
   |_=>exact h1.elim⟩
def strsOf:List PV->Option (List (List Nat))
 | []=>some []
 | .str z::ps=>(strsOf ps).map (z.cps.toList:: ·)
 |_::_=>none
theorem zP{F:Hp}:∀{ps:List PV} {vs:List V} {bs:List (List Nat)},ĝ K F ps vs->strsOf ps=some bs->vs=bs.map λl=>V.str (S l)
 | [],vs,bs,r,h=>by
   cases h
   cases r.pr
   rfl
 |p::ps,vs,bs,r,h=>by
  cases r.pr with
  |cons r1 t=>
   cases p with
   |str z=>
    unfold strsOf at h
    obtain⟨cs,e,rfl⟩:=Option.map_eq_some_iff.mp h
    rw[zP (ĝ.of t) e,show _=V.str z from r1,List.map_cons,ZbP]
   |_=>cases h
def zQ:PV->List PV->Option PV
 | .str z,[.lst ps]=>(strsOf ps).bind λys=>if(ys.map List.length).sum+ys.length*z.length<=16777216 then some (.str (S (gC z.cps.toList ys))) else none
 |_,_=>none
def Rv:MtV K (JV K.K) zQ:=by
 intro c F H σ ρ p ps pv v vs Q rel r1 r2 e k
 unfold zQ at e
 split at e
 ·rename_i z qs
  cases r1.str
  obtain⟨u,rfl,r3⟩:=zK r2
  obtain⟨a,xs,rfl,h1,h2⟩:=r3.lst rel.sub
  obtain⟨ys,eb,e⟩:=Option.bind_eq_some_iff.mp e
  split at e
  ·rename_i hz
   cases e
   exact⟨ys,by rw[<-zP h2 eb];exact h1,hz,k _ F H rel (Same.refl _) (Same.refl _) Rep.str⟩
  ·cases e
 ·cases e
end
end P
namespace P
open PySem PySem.Spec PyProof.Rows L2 M2 M3 M4
section
variable{X:Cx}{pins:List (Addr×Obj)}{σ:L2.St}{H:Hp}{s:Shared}{h':Heap}
def turns{t':Nat}{fp:List Addr}(I:Inv X pins σ H s)(k:∀b o,b∉fp->s.heap.get? b=some o->h'.get? b=some o)(hf:∀b∈fp,bR X pins H b):Inv X pins σ H {s with heap:=h',toks:=t'}:=by
 have nit:∀b u,H b=some u->b∉fp:=λb u e z=>by rw[(hf b z).1] at e;cases e
 have hL:X.env.locals∉fp:=λz=>(hf _ z).2.1 rfl
 refine I.step (g':=s.gens) (d':=s.drawn) (ch:=fp) (λb hb=>?_) (λb o _ _ hc e _=>k b o hc e) (λb o _ _ hc e _=>⟨o.slots,k b o hc e⟩) (λ_ _ _ _ n=>n)
  (λb o hc e=>⟨o,k b o hc e⟩) (λ_ _ e=>e) (λ_ _ _ e=>e) (λb ps e=>e) (λm hm=>?_) (λb u e=>?_) I.bare
 ·obtain⟨f0,f1,f2,f3,f4,f5⟩:=hf b hb
  exact⟨f3,f1,f4,f5⟩
 ·obtain⟨o,es,ep,ho,r⟩:=hm
  exact⟨o,es,ep,k _ o hL ho,r⟩
 ·refine(I.hok b u e).stay (λc v hc q=>k c v ?_ q) (λ_ q=>q) λ_ _ q=>q
  rcases hc with z|z
  ·rw[z];exact nit b u e
  ·exact nit c _ z
def Zcd{a b:Addr}{o:HO}(f:bR X pins H b)(h:b≠a):bR X pins (upd H a o) b:=⟨by rw[Ğ h];exact f.1,f.2⟩
def qX{t':Nat}{fp:List Addr}{u1 u2:Value}{x1 x2:V}(I:Inv X pins σ H s)(r1:RelV x1 u1)(r2:RelV x2 u2)(ht:∃o,h'.get? s.heap.objs.size=some o/\o= {cls:=.type "tuple",data:=.seq #[u1,u2]})
 (k:∀b o,b∉fp->s.heap.get? b=some o->h'.get? b=some o)(hf:∀b∈fp,bR X pins H b)(hlt:∀b∈fp,b<s.heap.objs.size) :
 Inv X pins σ (upd H s.heap.objs.size (.tup [x1,x2])) {s with heap:=h',toks:=t'}:=by
 have I1:Inv X pins σ (upd H s.heap.objs.size (.tup [x1,x2])) {s with heap:=s.heap.push {cls:=.type "tuple",data:=.seq #[u1,u2]},toks:=s.toks}:=
  I.laid (t':=s.toks) (λb u e=>Heap.get?_push_of_some _ e) (Nat.le_refl _) ⟨by show 2<=sizeLine;decide,[u1,u2],.cons r1 (.cons r2 .nil),⟨_,Heap.get?_push_size _ rfl,rfl,_,rfl⟩⟩
 refine turns (fp:=fp) (s:={s with heap:=s.heap.push {cls:=.type "tuple",data:=.seq #[u1,u2]},toks:=s.toks}) (h':=h') (t':=t') I1 (λb o hb e=>?_) λb hb=>Zcd (hf b hb) (Nat.ne_of_lt (hlt b hb))
 rcases Heap.get?_push_cases e with⟨rfl,rfl⟩|e
 ·obtain⟨o,h1,h2⟩:=ht
  rw[h1,h2]
 ·exact k b o hb e
end
def Ite(K:PySem.W.Frag)(a:Addr):It:=
 ⟨λi H=>∃xs x,ų K H a xs/\xs[i]?=some x,λi H y H'=>∃x T,(∀xs,ų K H a xs->xs[i]?=some x)/\H T=none/\y=.ref T/\H'=upd H T (.tup [.int i,x]),λi H=>∃xs,ų K H a xs/\xs.length<=i⟩
def HW{P:Program}{w:World}{K:PySem.W.Frag}{elts:List Expr}{k:Nat}{pos:Pos}(a e it:Addr)(hne:e≠it):Turn P w K (.Tuple elts k pos) (Ite K a) [e,it] e (λi h=>(∃old,IsEnum h e it i old)/\h.IsListIter it a i) where
 mem:=by simp
 obj:=λi h st b hb=>by
  obtain⟨⟨old,he⟩,hit⟩:=st
  rcases List.mem_cons.mp hb with rfl|hb
  ·exact⟨_,he,fun v z=>by
    have z':Data.fields _=Data.cell v:=z
    cases z'⟩
  ·have e':b=it:=by simpa using hb
   subst e'
   obtain⟨o,e1,c,d⟩:=hit
   exact⟨o,e1,λv z=>by rw[d] at z;cases z⟩
 keep:=λi h h' st k=>⟨let ⟨old,he⟩:=st.1;⟨old,k e (by simp) _ he⟩,st.2.at λo q=>k it (by simp) o q⟩
 item:=by
  intro X hP hw hK hc i pins s σ H E I hf st hg
  subst hP hw hK
  obtain⟨⟨old,he⟩,hit⟩:=st
  obtain⟨xs,x,hq,hx⟩:=hg
  obtain⟨its,rv,p,hz⟩:=I.list hq
  obtain⟨u,hu,ru⟩:=rv.get hx
  have elt:e<s.heap.objs.size:=Heap.lt_size he
  have ilt:it<s.heap.objs.size:=by obtain⟨_,q,_⟩:=hit;exact Heap.lt_size q
  refine wpAny_pyNext_enum_item he hit p.isList (x:=u) (by simpa using hu) hne λh' ho hit' hT hsz hk=>?_
  refine⟨.ref s.heap.objs.size,rfl,wpAny_letOwnedTupleGo_enum ho λh'' he' hs'=>?_⟩
  have hs2:Heap.SameBut e h' h'':=hs'
  have hlt:∀b∈[e,it],b<s.heap.objs.size:=λb hb=>by
   rcases List.mem_cons.mp hb with rfl|hb
   ·exact elt
   ·have e':b=it:=by simpa using hb
    subst e';exact ilt
  have I2:=qX (fp:=[e,it]) (h':=h'') (t':=s.toks+1) (x1:=.int i) I ⟨s.toks,rfl⟩ ru ⟨_,(hs2.2 _ (Nat.ne_of_gt elt)).trans hT,rfl⟩ (λb o hb q=>by
   have hbe:b≠e:=λz=>hb (by simp[z])
   have hbi:b≠it:=λz=>hb (by simp[z])
   exact(hs2.2 b hbe).trans (hk b o hbe hbi q)) hf hlt
  refine⟨.ref s.heap.objs.size,_,I2,rfl,⟨x,s.heap.objs.size,λys hy=>by rw[I.qw hy hq];exact hx,I.fresh,rfl,rfl⟩,⟨⟨u,?_⟩,hit'.at λo q=>(hs2.2 it hne.symm).trans q⟩,λb hb=>?_⟩
  ·have he2:IsEnum h'' e it ((i:Int)+1) u:=he'
   show IsEnum h'' e it (((i+1:Nat):Int)) u
   rw[Int.natCast_add]
   exact he2
  ·rw[Ğ (Nat.ne_of_lt (hlt b hb))];exact(hf b hb).1
 done:=by
  intro X hP hw hK hc i pins s σ H E I hf st hg
  subst hP hw hK
  obtain⟨⟨old,he⟩,hit⟩:=st
  obtain⟨xs,hq,hx⟩:=hg
  obtain⟨its,rv,p,hz⟩:=I.list hq
  have hl:=rv.length
  refine wpAny_pyNext_enum_end (I.ok.hd hc) he hit p.isList (by simp;omega) λh' eb=>⟨rfl,turns (fp:=[e,it]) (t':=s.toks) I (λb o hb q=>eb b o (λz=>hb (by simp[z])) q) hf⟩
 self:=λ_ _ _ _ _ st h=>let ⟨_,he⟩:=st.1;wpAny_pyIter_enum he h
section
variable{X:Cx}{elts:List Expr}{k:Nat}{tp:Pos}
def ZeQ(K:PySem.W.Frag)(ta:TA):TI:=λσ H R=>ta σ H λvs H1=>∃a,vs=[.ref a]/\(∃xs,ų K H1 a xs)/\R (Ite K a) H1
def Rw{l:Expr}{ta:TA}{p pos:Pos}(hg:Gl X "enumerate")(hm:X.mg "enumerate" =none)(ha:PA X [l] ta)(hs:starEach [l] X.env=[(false,eval l X.env)]:=by exact bT rfl):PI X (.Tuple elts k tp) (.Call (.Name "enumerate" p) [l] [] pos) (ZeQ X.K ta):=by
 intro pins s σ H R I h
 refine Call_ (jR I hg hm boot_enumerate (PyProof.Rows.callWith_type1 (Ť (ha pos pins s σ H _ I h) λus s1 ⟨vs,H1,I1,r1,q1⟩=>?_) hs rfl))
 obtain⟨a,e,⟨xs,hq⟩,q⟩:=q1
 subst e
 obtain⟨u,rfl,ru⟩:=r1.one
 cases ru
 obtain⟨its,rv,pl,hz⟩:=I1.list hq
 refine call_enumerate_list pl.isList λh' he hit hsz hk=>?_
 have I2:Inv X pins σ H1 {s1 with heap:=h'}:=I1.kept (t':=s1.toks) hk
 refine wpAny_pyIter_enum (s:={s1 with heap:=h'}) he ⟨s1.heap.objs.size+1,[s1.heap.objs.size+1,s1.heap.objs.size],_,_,H1,rfl,I2,HW a _ _ (Nat.succ_ne_self _),⟨⟨_,he⟩,hit⟩,λb hb=>?_,q⟩
 have hb':s1.heap.objs.size<=b:=by
  rcases List.mem_cons.mp hb with rfl|hb
  ·exact Nat.le_succ _
  ·have e':b=s1.heap.objs.size:=by simpa using hb
   exact Nat.le_of_eq e'.symm
 exact I1.tZ hb' (I1.hok.fresh hb')
end
def rLs(K:KK):RR (List PV) V:=λc _ _ F H items v=>∃a,v=.ref a/\(∃xs,ų K.K H a xs)/\fW K c.L F (Itl K.K a) items
def rTs(K:KK):RR (List PV) V:=λc _ _ F H items v=>∃a,v=.ref a/\(∃xs,dw K.K H a xs)/\fW K c.L F (Itt K.K a) items
def rSq(K:KK):RR (List PV) V:=λc σ ρ F H items v=>rLs K c σ ρ F H items v\/rTs K c σ ρ F H items v
def lF{K:KK}{L F:Hp}{ps:List PV}{v:V}(h:Rep K F (.lst ps) v):∃a,v=.ref a/\(∃xs,ų K.K F a xs)/\fW K L F (Itl K.K a) ps:=by
 unfold Rep at h
 obtain⟨a,vs,rfl,e1,e2⟩:=h
 refine⟨a,rfl,⟨vs,e1⟩,?_⟩
 intro c' i F2 H2 σ2 ρ2 ļ sF _
 have hq:ų K.K H2 a vs:=(sF.trans ļ.sub).seq e1
 refine⟨λp hp=>?_,λhi=>⟨vs,hq,by rw[hi,e2.length];exact Nat.le_refl _⟩⟩
 obtain⟨u,hu,ru⟩:=bJ e2.pr hp
 refine⟨⟨vs,u,hq,hu⟩,λx H' ⟨hH,hx⟩=>?_⟩
 subst hH
 have:vs[i]?=some x:=hx vs hq
 rw[hu] at this
 cases this
 exact⟨F2,ļ,Same.refl _,Same.refl _,Rep.same sF p u ru⟩
def Le{K:KK}{L F:Hp}{ps:List PV}{v:V}(h:Rep K F (.tup ps) v):∃a,v=.ref a/\(∃xs,dw K.K F a xs)/\fW K L F (Itt K.K a) ps:=by
 unfold Rep at h
 obtain⟨a,vs,rfl,e1,e2⟩:=h
 refine⟨a,rfl,⟨vs,e1⟩,?_⟩
 intro c' i F2 H2 σ2 ρ2 ļ sF _
 have hq:dw K.K H2 a vs:=Same.tup (sF.trans ļ.sub) e1
 refine⟨λp hp=>?_,λhi=>⟨vs,hq,by rw[hi,e2.length];exact Nat.le_refl _⟩⟩
 obtain⟨u,hu,ru⟩:=bJ e2.pr hp
 refine⟨⟨vs,u,hq,hu⟩,λx H' ⟨hH,hx⟩=>?_⟩
 subst hH
 have:vs[i]?=some x:=hx vs hq
 rw[hu] at this
 cases this
 exact⟨F2,ļ,Same.refl _,Same.refl _,Rep.same sF p u ru⟩
def uX{K:KK}{c:Ctx}{F:Hp}{a:Addr}{vs:List V}{ps:List PV}(h2:c.L a=some (.lst vs))(h3:ĝ K F ps vs):fW K c.L F (Itl K.K a) ps:=by
 intro c' j F2 H2 σ2 ρ2 ļ sF sL
 have hq:ų K.K H2 a vs:=ų.of (sL a _ h2)
 refine⟨λp hp=>?_,λhi=>⟨vs,hq,by rw[hi,h3.length];exact Nat.le_refl _⟩⟩
 obtain⟨u,hu,ru⟩:=bJ h3.pr hp
 refine⟨⟨vs,u,hq,hu⟩,λx H' ⟨hH,hx⟩=>?_⟩
 subst hH
 have:vs[j]?=some x:=hx vs hq
 rw[hu] at this
 cases this
 exact⟨F2,ļ,Same.refl _,Same.refl _,Rep.same sF p u ru⟩
def fW.mono{K:KK}{L F F1:Hp}{J:It}{ps:List PV}(h:fW K L F J ps)(s:Same F F1):fW K L F1 J ps:=λc i F2 H σ ρ rel sF sL=>h c i F2 H σ ρ rel (s.trans sF) sL
def HX(i:Nat):M (List PV):=λρ=>match ρ[i]? with
 |some (.bw ps)=>.ok ps ρ
 |some (.sh (.lst ps))=>.ok ps ρ
 |some (.ow ps)=>.ok ps (ρ.set i (.sh (.lst ps)))
 |_=>.bad
def wU(i:Nat):M (List PV):=λρ=>match ρ[i]? with
 |some (.bw ps)=>.ok ps ρ
 |some (.sh (.lst ps))=>.ok ps ρ
 |some (.sh (.tup ps))=>.ok ps ρ
 |some (.ow ps)=>.ok ps (ρ.set i (.sh (.lst ps)))
 |_=>.bad
section
variable{X:Cx}{cm:String->Addr}{E:L2.St->XK}{e:Expr}{m:M PV}
def Gj(i:Nat){x:Str}{px:Pos}(hN:X.N[i]?=some x:=by rfl)(hv:Bp X.env.scope x:=by first|exact Or.inl rfl|exact Or.inr (Or.inl rfl)|exact Or.inr (Or.inr rfl))(hd:(x== ("__debug__" :Str))=false:=by decide)
 (hcd:(x== ("__classdict__" :Str))=false:=by decide):PE X (.Name x px) (tG (kk X cm) E (rSq (kk X cm)) (wU i)):=PE.wk (fM hN hv hd hcd) λσ H Q ⟨c,F,ρ,rel,h⟩=>by
 unfold wU at h
 cases e:ρ[i]? with
 |none=>rw[e] at h;exact h.elim
 |some sl=>
  rw[e] at h
  cases sl with
  |no=>exact h.elim
  |rc C ns ps=>exact h.elim
  |ot ps qs=>exact h.elim
  |ol Fx=>exact h.elim
  |ow ps=>
   obtain⟨a,vs,z1,z2,z3,z4⟩:=rel.share e
   obtain⟨a',e1,⟨xs,e2⟩,e3⟩:=lF (L:=c.L) z3
   cases e1
   exact⟨.ref a,z1,h _ _ H z4 (Same.upd z2) (Same.refl _) (.inl ⟨a,rfl,⟨xs,z4.sub.seq e2⟩,e3⟩)⟩
  |bw ps=>
   obtain⟨a,vs,h1,h2,h3⟩:=rel.slot i _ e
   exact⟨.ref a,at_of h1,h _ F H rel (Same.refl _) (Same.refl _) (.inl ⟨a,rfl,⟨vs,ų.of (rel.lent a _ h2).1⟩,uX h2 h3⟩)⟩
  |sh p=>
   obtain⟨v,h1,h2⟩:=rel.slot i _ e
   cases p with
   |lst ps=>
    obtain⟨a,e1,⟨xs,e2⟩,e3⟩:=lF (L:=c.L) h2
    exact⟨v,at_of h1,h v F H rel (Same.refl _) (Same.refl _) (.inl ⟨a,e1,⟨xs,rel.sub.seq e2⟩,e3⟩)⟩
   |tup ps=>
    obtain⟨a,e1,⟨xs,e2⟩,e3⟩:=Le (L:=c.L) h2
    exact⟨v,at_of h1,h v F H rel (Same.refl _) (Same.refl _) (.inr ⟨a,e1,⟨xs,Same.tup rel.sub e2⟩,e3⟩)⟩
   |_=>exact h.elim
def Lf(i:Nat){x:Str}{px:Pos}(hN:X.N[i]?=some x:=by rfl)(hv:Bp X.env.scope x:=by first|exact Or.inl rfl|exact Or.inr (Or.inl rfl)|exact Or.inr (Or.inr rfl))(hd:(x== ("__debug__" :Str))=false:=by decide)
 (hcd:(x== ("__classdict__" :Str))=false:=by decide):PE X (.Name x px) (tG (kk X cm) E (rLs (kk X cm)) (HX i)):=PE.wk (fM hN hv hd hcd) λσ H Q ⟨c,F,ρ,rel,h⟩=>by
 unfold HX at h
 cases e:ρ[i]? with
 |none=>rw[e] at h;exact h.elim
 |some sl=>
  rw[e] at h
  cases sl with
  |no=>exact h.elim
  |rc C ns ps=>exact h.elim
  |ot ps qs=>exact h.elim
  |ol Fx=>exact h.elim
  |ow ps=>
   obtain⟨a,vs,z1,z2,z3,z4⟩:=rel.share e
   obtain⟨a',e1,⟨xs,e2⟩,e3⟩:=lF (L:=c.L) z3
   cases e1
   exact⟨.ref a,z1,h _ _ H z4 (Same.upd z2) (Same.refl _) ⟨a,rfl,⟨xs,z4.sub.seq e2⟩,e3⟩⟩
  |bw ps=>
   obtain⟨a,vs,h1,h2,h3⟩:=rel.slot i _ e
   exact⟨.ref a,at_of h1,h _ F H rel (Same.refl _) (Same.refl _) ⟨a,rfl,⟨vs,ų.of (rel.lent a _ h2).1⟩,uX h2 h3⟩⟩
  |sh p=>
   obtain⟨v,h1,h2⟩:=rel.slot i _ e
   cases p with
   |lst ps=>
    obtain⟨a,e1,⟨xs,e2⟩,e3⟩:=lF (L:=c.L) h2
    exact⟨v,at_of h1,h v F H rel (Same.refl _) (Same.refl _) ⟨a,e1,⟨xs,rel.sub.seq e2⟩,e3⟩⟩
   |_=>exact h.elim
def jC:Nat->List PV->List PV
 |_,[]=>[]
 |k,p::ps=>.tup [.int k,p]::jC (k+1) ps
theorem uY:∀(k:Nat) (ps:List PV),(jC k ps).length=ps.length
 |_,[]=>rfl
 |k,_::ps=>congrArg (·+ 1) (uY (k+1) ps)
theorem uZ:∀(k:Nat) (ps:List PV) (i:Nat),(jC k ps)[i]?=ps[i]?.map λp=>.tup [.int ((k+i:Nat):Int),p]
 |_,[],_=>rfl
 |k,p::ps,0=>rfl
 |k,p::ps,i+1=>by
  show(jC (k+1) ps)[i]?=_
  rw[uZ (k+1) ps i,List.getElem?_cons_succ,show k+1+i=k+(i+1) by omega]
def zR(m:M (List PV)):M (List PV):=λρ=>(m ρ).bind λps ρ1=>.ok (jC 0 ps) ρ1
def Gk{K:KK}{c:Ctx}{F H:Hp}{σ:L2.St}{ρ:ŋ}{T:Addr}{p q:PV}{x y:V}(rel:Rel K c F H σ ρ)(hT:H T=none)(r1:Rep K F p x)(r2:Rep K F q y):Rel K c (upd F T (.tup [x,y])) (upd H T (.tup [x,y])) σ ρ/\Rep K (upd F T (.tup [x,y])) (.tup [p,q]) (.ref T):=by
 have hF:=rel.sub.free hT
 refine⟨rel.alloc hT,?_⟩
 unfold Rep
 exact⟨T,[x,y],rfl,dw.of ĭ,ĝ.cons (Rep.same (Same.upd hF) p x r1) (ĝ.cons (Rep.same (Same.upd hF) q y r2) ĝ.nil)⟩
def HY{K:KK}{L F:Hp}{a:Addr}{ps:List PV}(h:fW K L F (Itl K.K a) ps):fW K L F (Ite K.K a) (jC 0 ps):=by
 intro c i F2 H σ ρ rel sF sL
 obtain⟨g,st⟩:=h c i F2 H σ ρ rel sF sL
 refine⟨λp hp=>?_,λhi=>st (by rw[hi,uY])⟩
 rw[uZ] at hp
 cases eq:ps[i]? with
 |none=>rw[eq] at hp;cases hp
 |some q=>
  rw[eq] at hp
  have hp':PV.tup [.int ((0+i:Nat):Int),q]=p:=Option.some.inj hp
  subst hp'
  obtain⟨⟨xs,x,hq,hx⟩,g2⟩:=g q eq
  refine⟨⟨xs,x,hq,hx⟩,λy H' ⟨x',T,h1,hT,ey,eH⟩=>?_⟩
  subst ey eH
  obtain⟨F3,lu,s3,_,rp⟩:=g2 x' H ⟨rfl,h1⟩
  obtain⟨r1,r2⟩:=Gk (p:=.int i) (x:=.int i) lu hT (by unfold Rep;rfl) rp
  refine⟨_,r1,s3.trans (Same.upd (lu.sub.free hT)),Same.upd hT,?_⟩
  rw[Nat.zero_add]
  exact r2
def CG{elts:List Expr}{k:Nat}{tp p pos:Pos}{mi:M (List PV)}(hg:Gl X "enumerate")(hm:X.mg "enumerate" =none)(hl:PE X e (tG (kk X cm) E (rLs (kk X cm)) mi))(hs:starEach [e] X.env=[(false,eval e X.env)]:=by exact bT rfl) :
 PI X (.Tuple elts k tp) (.Call (.Name "enumerate" p) [e] [] pos) (tI (kk X cm) E (zR mi)):=λpins s σ H R I h=>Rw hg hm (cH hl jT hs) hs pins s σ H R I (by
 obtain⟨c,F,ρ,rel,h⟩:=h
 refine⟨c,F,ρ,rel,h.bind λps ρ1 v F1 H1 ě s1 s2 q h1=>?_⟩
 obtain⟨a,e1,e2,e3⟩:=q
 subst e1
 exact⟨a,rfl,e2,h1 _ F1 H1 ě (Same.refl _) (Same.refl _) (HY e3)⟩)
def CJ(i:Nat)(mo:M RV):M Fl:=λρ=>match ρ[i]? with
 |some (.ow _)=>(mo ρ).bind λr ρ1=>match ρ1[i]?,r with
  |some (.ow ps),.ow qs=>if ps.length+qs.length<=16777216 then .ok .nx (ρ1.set i (.ow (ps++qs))) else .bad
  |_,_=>.bad
 |_=>.bad
def Gm{i:Nat}{mo:M RV}{D:Ends}{σ:L2.St}{H:Hp}(h:tS (kk X cm) E (CJ i mo) D σ H):I_ (tBM X.K "list" Fo (Bq i) (Sy (tO (kk X cm) E mo) Zd7)) D σ H:=by
 obtain⟨c,F,ρ,rel,h⟩:=h
 unfold CJ at h
 cases e1:ρ[i]? with
 |none=>rw[e1] at h;exact h.elim
 |some sl=>
  rw[e1] at h
  cases sl with
  |ow ps0=>
   obtain⟨a,vs0,z1,z2,z3,z4,z5,z6⟩:=rel.ow e1
   refine⟨.ref a,z1,.inl ⟨rfl,_,ų.of z2⟩,c,F,ρ,rel,?_⟩
   refine Ż.bind h λr ρ1 v F1 H1 ě s1 q h1=>?_
   cases e2:ρ1[i]? with
   |none=>simp only[e2] at h1;exact h1.elim
   |some sl2=>
    simp only[e2] at h1
    cases sl2 with
    |ow ps=>
     cases r with
     |ow qs=>
      obtain⟨b,us,eb,hb1,hb2,hb3,hb4,hb5⟩:=q
      subst eb
      obtain⟨a2,vs,w1,w2,w3,w4,w5,w6⟩:=ě.ow e2
      rw[z1] at w1
      cases w1
      dsimp only at h1
      split at h1
      ·rename_i hz
       refine⟨a,b,vs,us,rfl,rfl,w2,hb1,by rw[<-w5.length,<-hb5.length,Ō];exact hz,h1 σ F1 _ (ě.write w6 z1 ⟨a,vs++us,rfl,ĭ,w3,w4,ĝ.append w5 hb5⟩ λ_ z=>(V.ref.inj z).symm) (Same.refl _)⟩
      ·exact h1.elim
     |_=>exact h1.elim
    |_=>exact h1.elim
  |_=>exact h.elim
@[simp] theorem ZhH{i:Nat}{mo:M RV}{ρ:ŋ}:CJ i mo ρ=(match ρ[i]? with
  |some (.ow _)=>(mo ρ).bind λr ρ1=>match ρ1[i]?,r with
   |some (.ow ps),.ow qs=>if ps.length+qs.length<=16777216 then .ok .nx (ρ1.set i (.ow (ps++qs))) else .bad
   |_,_=>.bad
  |_=>.bad):=rfl
@[simp] theorem Zf9{mi:M (List PV)}{ρ:ŋ}:zR mi ρ=(mi ρ).bind λps ρ1=>.ok (jC 0 ps) ρ1:=rfl
@[simp] theorem ZhI{i:Nat}{ρ:ŋ}:HX i ρ=(match ρ[i]? with
  |some (.bw ps)=>.ok ps ρ
  |some (.sh (.lst ps))=>.ok ps ρ
  |some (.ow ps)=>.ok ps (ρ.set i (.sh (.lst ps)))
  |_=>.bad):=rfl
@[simp] theorem ZhJ{i:Nat}{ρ:ŋ}:wU i ρ=(match ρ[i]? with
  |some (.bw ps)=>.ok ps ρ
  |some (.sh (.lst ps))=>.ok ps ρ
  |some (.sh (.tup ps))=>.ok ps ρ
  |some (.ow ps)=>.ok ps (ρ.set i (.sh (.lst ps)))
  |_=>.bad):=rfl
end
end P
namespace P
open PySem PySem.Spec PyProof.Rows L2 M2 M3 M4
def ZeR{X:Cx}:PIp X .BitOr (ipI λi j=>Builtin.bitOr i j):=by
 intro pins s σ H x y v u Q I r1 r2 h
 obtain⟨i,j,e1,e2,q⟩:=h
 subst e1;subst e2
 obtain⟨t,rfl⟩:=r1
 obtain⟨t',rfl⟩:=r2
 exact ior_int ⟨.int _,H,I.tok _,⟨_,rfl⟩,q⟩
def qY(i:Nat)(m:M PV):M Fl:=λρ=>match ρ[i]? with
 |some (.sh (.int _))=>(m ρ).bind λq ρ1=>match ρ1[i]?,q with
  |some (.sh (.int k)),.int j=>.ok .nx (ρ1.set i (.sh (.int (Builtin.bitOr k j))))
  |_,_=>.bad
 |_=>.bad
@[simp] theorem Zf_{i:Nat}{m:M PV}{ρ:ŋ}:qY i m ρ=(match ρ[i]? with
  |some (.sh (.int _))=>(m ρ).bind λq ρ1=>match ρ1[i]?,q with
   |some (.sh (.int k)),.int j=>.ok .nx (ρ1.set i (.sh (.int (Builtin.bitOr k j))))
   |_,_=>.bad
  |_=>.bad):=rfl
section
variable{X:Cx}{cm:String->Addr}{E:L2.St->XK}{e a b:Expr}{m ma mb:M PV}{pos:Pos}
def wV{K:KK}{F:Hp}{i:Int}{v:V}(h:Rep K F (.int i) v):v=.int i:=by unfold Rep at h;exact h
def wW{i:Nat}{x:Str}{pos':Pos}(hN:X.N.Nodup)(hi:X.N[i]?=some x)(hx:Loc X.env.scope x)(he:PE X e (tV (kk X cm) E m))(hf:X.fn x=true\/X.env.scope.names.lookup x=some .local:=by first|exact .inl rfl|exact .inr rfl|assumption) :
 PS X (.AugAssign (.Name x pos') .BitOr e pos) (tS (kk X cm) E (qY i m)):=PS.wk (Zbb hN hi hx he ZeR hf) λD σ H ⟨c,F,ρ,rel,h⟩=>by
 unfold qY at h
 cases e1:ρ[i]? with
 |none=>rw[e1] at h;exact h.elim
 |some sl=>
  rw[e1] at h
  cases sl with
  |sh p=>
   cases p with
   |int k0=>
    obtain⟨v,h1,h2⟩:=rel.slot i _ e1
    cases wV h2
    refine⟨.int k0,at_of h1,c,F,ρ,rel,Ż.bind h λq ρ1 u F1 H1 ě s1 rq h1'=>?_⟩
    cases e2:ρ1[i]? with
    |none=>simp only[e2] at h1';exact h1'.elim
    |some sl2=>
     simp only[e2] at h1'
     cases sl2 with
     |sh p2=>
      cases p2 with
      |int k=>
       cases q with
       |int j=>
        obtain⟨v2,w1,w2⟩:=ě.slot i _ e2
        cases wV w2
        rw[h1] at w1
        cases w1
        cases wV rq
        exact⟨k0,j,rfl,rfl,h1' _ F1 H1 (ě.put rfl ⟨_,rfl,Rep.int⟩) (Same.refl _)⟩
       |_=>exact h1'.elim
      |_=>exact h1'.elim
     |_=>exact h1'.elim
   |_=>exact h.elim
  |_=>exact h.elim
end
section
variable{X:Cx}{K:KK}
end
end P
namespace P
open PySem PySem.Spec PyProof.Rows L2 M2 M3 M4
section
variable{prog:Program}{w:World}{A:Around}{E:Value->Shared->Prop}{s:Shared}
def lG{it l:Addr}{i:Nat}{items}{x:Value}{Q:Value->Shared->Prop}(hit:s.heap.IsTupleIter it l i)
 (hl:s.heap.IsTuple l items)(hx:items[i]?=some x)
 (hQ:∀h',h'.IsTupleIter it l (i+1)->Heap.SameBut it s.heap h'->Q x {s with heap:=h'}) :
 wpAny (model prog w) A (Builtin.SmallTypes.nextOf (.ref it)) Q E s:=by
 obtain⟨o,ho,hc,hd⟩:=id hit
 obtain⟨ol,hol,_,nl,hdl⟩:=hl
 unfold Builtin.SmallTypes.nextOf
 refine wpAny_bind (wpAny_callSpecial?_slot (name:=Str.ofString "__next__") hit.typeIs F.slot_tuple_iterator_next
  (wpAny_call_entry F.slot_tuple_iterator_next hit.typeIs F.entry_tuple_iterator_next ?_ (F.args_tuple_iterator_next_1 _)))
 show wpAny _ _ (field (.ref it) 0 >>= _) _ _ s
 refine wpAny_bind (wpAny_field ho hd (x:=.ref l) rfl ?_)
 show wpAny _ _ (if(Value.ref l== Value.none)=true then _ else _) _ _ s
 rw[if_neg (show ¬((Value.ref l== Value.none)=true) from Bool.false_ne_true)]
 show wpAny _ _ (field (.ref it) 1 >>= _) _ _ s
 refine wpAny_bind (wpAny_field ho hd (x:=.int i 0) rfl ?_)
 show wpAny _ _ (seqItems? (.ref l) >>= _) _ _ s
 refine wpAny_bind (wpAny_seqItems hol hdl ?_)
 simp only[Int.toNat_natCast,hx]
 refine wpAny_bind (wpAny_setField ho hd (by simp) (wpAny_pure ⟨x,rfl,wpAny_pure (hQ _ ?_ (Heap.SameBut.update ..))⟩))
 exact⟨_,Heap.get?_update_self _ ho (Obj.isFreed_of_fields (Obj.data_mapFields hd _)),(Obj.cls_mapFields ..).trans hc,by
  rw[Obj.data_mapFields hd];simp[rawInt]⟩
def nD{it l:Addr}{i:Nat}{items}{Q:Value->Shared->Prop}(hh:A.handled=none)
 (hit:s.heap.IsTupleIter it l i)(hl:s.heap.IsTuple l items)(hx:items[i]?=none)
 (hE:∀h' e,Heap.ExtBut it s.heap h'->(∃o,h'.get? e=some o/\o.cls=.type "StopIteration")->E (.ref e) {s with heap:=h'}) :
 wpAny (model prog w) A (Builtin.SmallTypes.nextOf (.ref it)) Q E s:=by
 obtain⟨o,ho,hc,hd⟩:=id hit
 obtain⟨ol,hol,_,nl,hdl⟩:=hl
 unfold Builtin.SmallTypes.nextOf
 refine wpAny_bind (wpAny_callSpecial?_slot (name:=Str.ofString "__next__") hit.typeIs F.slot_tuple_iterator_next
  (wpAny_call_entry F.slot_tuple_iterator_next hit.typeIs F.entry_tuple_iterator_next ?_ (F.args_tuple_iterator_next_1 _)))
 show wpAny _ _ (field (.ref it) 0 >>= _) _ _ s
 refine wpAny_bind (wpAny_field ho hd (x:=.ref l) rfl ?_)
 show wpAny _ _ (if(Value.ref l== Value.none)=true then _ else _) _ _ s
 rw[if_neg (show ¬((Value.ref l== Value.none)=true) from Bool.false_ne_true)]
 show wpAny _ _ (field (.ref it) 1 >>= _) _ _ s
 refine wpAny_bind (wpAny_field ho hd (x:=.int i 0) rfl ?_)
 show wpAny _ _ (seqItems? (.ref l) >>= _) _ _ s
 refine wpAny_bind (wpAny_seqItems hol hdl ?_)
 simp only[Int.toNat_natCast,hx]
 refine wpAny_bind (wpAny_rule (wpAny_bind (wpAny_setField ho hd (by simp) ?_)))
 show wpAny _ _ (newExc (.type "StopIteration") [] >>= _) _ _ _
 refine wpAny_bind ?_
 simp only[newExc,newTuple]
 refine wpAny_bind (wpAny_newObj_type ?_ (by size_fits))
 refine wpAny_bind (m:=firstArgMember _ _) (wpAny_of_eq (a:=Value.none) (by first|rfl|(simp only[firstArgMember];rfl)) ?_)
 refine wpAny_newObj_type ?_ (by size_fits)
 simp only[raiseNew]
 refine wpAny_bind (wpAny_handled ?_)
 first|rw[show A.in1.handled=none from hh]|rw[hh]
 refine wpAny_bind (wpAny_pure (wpAny_throw ?_))
 exact hE _ _ (((Heap.SameBut.update ..).extBut.push _).push _) ⟨_,Heap.get?_push_size _ rfl,rfl⟩
end
def zT{prog:Program}{w:World}{A:Around}(hh:A.handled=none)(it l:Addr)(hne:l≠it)(items:Array Value) :
 Draws prog w A it [it,l] items.size (λi v=>items[i]?=some v) (λi h=>h.IsTupleIter it l i/\h.IsTuple l items) where
 live:=λ_ _ st=>let ⟨o,ho,_⟩:=st.1;⟨o,ho⟩
 frame:=λ_ _ _ st hk=>⟨let ⟨o,ho,r⟩:=st.1;⟨o,hk it (by simp) o ho,r⟩,let ⟨o,ho,r⟩:=st.2;⟨o,hk l (by simp) o ho,r⟩⟩
 item:=λi s Q E hi st hQ=>by
  refine lG st.1 st.2 (x:=items[i]) (by simp[hi]) λh' hit' hs'=>?_
  exact hQ _ h' s.toks (by simp[hi]) ⟨hit',st.2.extBut hs'.extBut hne⟩ hs'
 done:=λs Q E st hE=>nD hh st.1 st.2 (by simp) hE
structure ZAp(z TI TO i1 i2:Addr)(f1 f2:List Addr):Prop where
 TIz:TI≠z
 TOz:TO≠z
 i1z:i1≠z
 i2z:i2≠z
 TITO:TI≠TO
 TIi1:TI≠i1
 TIi2:TI≠i2
 TOi1:TO≠i1
 TOi2:TO≠i2
 i12:i1≠i2
 z1:z∉f1
 z2:z∉f2
 t1:TO∉f1
 t2:TO∉f2
 a1:i1∉f2
 a2:i2∉f1
section
variable{prog:Program}{w:World}{A:Around}{E:Value->Shared->Prop}{s:Shared}
def qZ{z TI TO i1 i2:Addr}{f1 f2:List Addr}{n1 n2 k1 k2:Nat}{P1 P2:Nat->Value->Prop}{S1 S2:Nat->Heap->Prop}{a b:Value}{Q:Value->Shared->Prop}(D:ZAp z TI TO i1 i2 f1 f2)
 (D1:Draws prog w A i1 f1 n1 P1 S1)(D2:Draws prog w A i2 f2 n2 P2 S2)
 (hz:IsZip s.heap z TI TO .none)(hTI:IsPair s.heap TI (.ref i1) (.ref i2))(hTO:IsPair s.heap TO a b)(h1:S1 k1 s.heap)(h2:S2 k2 s.heap)(hk1:k1<n1)(hk2:k2<n2)
 (hQ:∀x y h' tk,P1 k1 x→P2 k2 y→IsZip h' z TI TO (rawInt s.heap.objs.size)→IsPair h' TO x y→S1 (k1+1) h'→S2 (k2+1) h'→IsPair h' s.heap.objs.size x y→h'.objs.size=s.heap.objs.size+1→
   (∀c o,c≠z->c≠TO->c≠i1->c≠i2->s.heap.get? c=some o->h'.get? c=some o)->Q (.ref s.heap.objs.size) {s with heap:=h',toks:=tk}) :
 wpAny (model prog w) A (Builtin.«zip.__next__» ⟨[.ref z],[]⟩) (λfin s'=>∃v,fin=.done (.ret v)/\Q v s') E s:=by
 have Tw:∀{b},b∈f1->b≠z/\b≠TO/\b≠i2:=λhb=>⟨λe=>D.z1 (e▸hb),λe=>D.t1 (e▸hb),λe=>D.a2 (e▸hb)⟩
 have Rx:∀{b},b∈f2->b≠z/\b≠TO/\b≠i1:=λhb=>⟨λe=>D.z2 (e▸hb),λe=>D.t2 (e▸hb),λe=>D.a1 (e▸hb)⟩
 obtain⟨hp,g,d,tk0,os⟩:=s
 show wpAny _ _ (field (.ref z) 2 >>= _) _ _ _
 refine wpAny_bind (wpAny_field hz rfl (x:=.bool false) rfl ?_)
 show wpAny _ _ (field (.ref z) 3 >>= _) _ _ _
 refine wpAny_bind (wpAny_field hz rfl (x:=.ref TI) rfl ?_)
 refine wpAny_bind (wpAny_seqItems hTI rfl ?_)
 show wpAny _ _ (Builtin.SmallTypes.ownedTupleIsFree (.ref z) >>= _) _ _ _
 refine wpAny_bind ?_
 unfold Builtin.SmallTypes.ownedTupleIsFree
 refine wpAny_bind (wpAny_field hz rfl (x:=.none) rfl (wpAny_pure ?_))
 simp only[if_true]
 refine wpAny_bind (wpAny_rule ?_)
 refine wpAny_bind (wpAny_field hz rfl (x:=.ref TO) rfl ?_)
 refine wpAny_bind (wpAny_setField_rec hz (by simp) λh₁ hz₁ hs₁=>?_)
 replace hs₁:Heap.SameBut z hp h₁:= hs₁
 replace hz₁:IsZip h₁ z TI TO .ellipsis:=hz₁
 refine wpAny_bind ?_
 simp only[List.zipIdx_cons,List.zipIdx_nil,List.forIn_cons,List.forIn_nil]
 refine wpAny_bind (wpAny_bind (wpAny_onRaise ?_))
 show wpAny _ _ (Builtin.SmallTypes.nextOf (.ref i1) >>= _) _ _ _
 refine wpAny_bind (D1.item k1 _ _ _ hk1 (D1.frame _ _ _ h1 λb hb o e=>hs₁.extBut b o (Tw hb).1 e) λx h₂ tk hPx h1₂ hs₂=>wpAny_pure ?_)
 replace hs₂:Heap.SameBut i1 h₁ h₂:= hs₂
 have hTO₂:IsPair h₂ TO a b:=hs₂.extBut _ _ D.TOi1 (hs₁.extBut _ _ D.TOz hTO)
 refine wpAny_bind (wpAny_seqItems hTO₂ rfl ?_)
 refine wpAny_bind (wpAny_updateSeq_pair hTO₂ λh₃ hTO₃ hs₃=>?_)
 replace hs₃:Heap.SameBut TO h₂ h₃:= hs₃
 replace hTO₃:IsPair h₃ TO x b:=hTO₃
 refine wpAny_bind (wpAny_letGo (wpAny_pure ?_))
 refine wpAny_bind (wpAny_bind (wpAny_onRaise ?_))
 show wpAny _ _ (Builtin.SmallTypes.nextOf (.ref i2) >>= _) _ _ _
 refine wpAny_bind (D2.item k2 _ _ _ hk2 (D2.frame _ _ _ h2 λb hb o e=>hs₃.extBut b o (Rx hb).2.1 (hs₂.extBut b o (Rx hb).2.2 (hs₁.extBut b o (Rx hb).1 e))) λy h₄ tk' hPy h2₄ hs₄=>wpAny_pure ?_)
 replace hs₄:Heap.SameBut i2 h₃ h₄:= hs₄
 have hTO₄:IsPair h₄ TO x b:=hs₄.extBut _ _ D.TOi2 hTO₃
 refine wpAny_bind (wpAny_seqItems hTO₄ rfl ?_)
 refine wpAny_bind (wpAny_updateSeq_pair hTO₄ λh₅ hTO₅ hs₅=>?_)
 replace hs₅:Heap.SameBut TO h₄ h₅:= hs₅
 replace hTO₅:IsPair h₅ TO x y:=hTO₅
 refine wpAny_bind (wpAny_letGo (wpAny_pure (wpAny_pure ?_)))
 refine wpAny_bind (wpAny_seqItems hTO₅ rfl ?_)
 refine wpAny_bind (wpAny_newTuple ?_)
 have hsz:h₅.objs.size=hp.objs.size:=by rw[hs₅.1,hs₄.1,hs₃.1,hs₂.1,hs₁.1]
 have hz₅:IsZip h₅ z TI TO .ellipsis:=hs₅.extBut _ _ D.TOz.symm (hs₄.extBut _ _ D.i2z.symm (hs₃.extBut _ _ D.TOz.symm (hs₂.extBut _ _ D.i1z.symm hz₁)))
 have hk₅:∀c o,c≠z->c≠TO->c≠i1->c≠i2->hp.get? c=some o->h₅.get? c=some o:=λc o c1 c2 c3 c4 e=>
  hs₅.extBut _ _ c2 (hs₄.extBut _ _ c4 (hs₃.extBut _ _ c2 (hs₂.extBut _ _ c3 (hs₁.extBut _ _ c1 e))))
 have h1₅:S1 (k1+1) h₅:= D1.frame _ _ _ h1₂ λb hb o e=>hs₅.extBut b o (Tw hb).2.1 (hs₄.extBut b o (Tw hb).2.2 (hs₃.extBut b o (Tw hb).2.1 e))
 have h2₅:S2 (k2+1) h₅:= D2.frame _ _ _ h2₄ λb hb o e=>hs₅.extBut b o (Rx hb).2.1 e
 have hzlt:z<h₅.objs.size:=Heap.lt_size hz₅
 show wpAny _ _ (Builtin.SmallTypes.ownedTupleHandOut (.ref z) (.ref h₅.objs.size) >>= _) _ _ _
 refine wpAny_bind ?_
 unfold Builtin.SmallTypes.ownedTupleHandOut
 have hz₆:IsZip (h₅.push {cls:=.type "tuple",data:=.seq #[x,y]}) z TI TO .ellipsis:=Heap.get?_push_of_some _ hz₅
 refine wpAny_bind (wpAny_setField_rec hz₆ (by simp) λh₇ hz₇ hs₇=>?_)
 replace hz₇:IsZip h₇ z TI TO (rawInt h₅.objs.size):=hz₇
 refine wpAny_setField_rec hz₇ (by simp) λh₈ hz₈ hs₈=>?_
 replace hz₈:IsZip h₈ z TI TO (rawInt h₅.objs.size):=hz₈
 have up:∀c o,c≠z->h₅.get? c=some o->h₈.get? c=some o:=λc o c1 e=>hs₈.extBut _ _ c1 (hs₇.extBut _ _ c1 (Heap.get?_push_of_some _ e))
 have hT₈:IsPair h₈ h₅.objs.size x y:=hs₈.extBut _ _ (Nat.ne_of_gt hzlt) (hs₇.extBut _ _ (Nat.ne_of_gt hzlt) (Heap.get?_push_size _ rfl))
 have hz8:h₈.objs.size=h₅.objs.size+1:=by rw[hs₈.1,hs₇.1,Heap.size_push]
 rw[hsz] at hz₈ hT₈ hz8
 refine wpAny_pure ⟨_,rfl,?_⟩
 show Q (.ref h₅.objs.size) _
 rw[hsz]
 exact hQ x y h₈ tk' hPx hPy hz₈ (up _ _ D.TOz hTO₅) (D1.frame _ _ _ h1₅ λb hb o e=>up b o (Tw hb).1 e) (D2.frame _ _ _ h2₅ λb hb o e=>up b o (Rx hb).1 e) hT₈ hz8 λc o c1 c2 c3 c4 e=>up c o c1 (hk₅ c o c1 c2 c3 c4 e)
def ur{z TI TO i1 i2:Addr}{f1 f2:List Addr}{n1 n2 k1 k2:Nat}{P1 P2:Nat->Value->Prop}{S1 S2:Nat->Heap->Prop}{a b:Value}{Q:Fin->Shared->Prop}(D:ZAp z TI TO i1 i2 f1 f2)
 (D1:Draws prog w A i1 f1 n1 P1 S1)(D2:Draws prog w A i2 f2 n2 P2 S2)
 (hz:IsZip s.heap z TI TO .none)(hTI:IsPair s.heap TI (.ref i1) (.ref i2))(hTO:IsPair s.heap TO a b)(h1:S1 k1 s.heap)(h2:S2 k2 s.heap)(hend:k1=n1\/(k1<n1/\k2=n2))
 (hE:∀h' e tk,(∀c o,c≠z->c≠TO->c≠i1->c≠i2->s.heap.get? c=some o->h'.get? c=some o)->(∃o,h'.get? e=some o/\o.cls=.type "StopIteration")->E (.ref e) {s with heap:=h',toks:=tk}) :
 wpAny (model prog w) A (Builtin.«zip.__next__» ⟨[.ref z],[]⟩) Q E s:=by
 have Tw:∀{b},b∈f1->b≠z/\b≠TO/\b≠i2:=λhb=>⟨λe=>D.z1 (e▸hb),λe=>D.t1 (e▸hb),λe=>D.a2 (e▸hb)⟩
 have Rx:∀{b},b∈f2->b≠z/\b≠TO/\b≠i1:=λhb=>⟨λe=>D.z2 (e▸hb),λe=>D.t2 (e▸hb),λe=>D.a1 (e▸hb)⟩
 obtain⟨hp,g,d,tk0,os⟩:=s
 show wpAny _ _ (field (.ref z) 2 >>= _) _ _ _
 refine wpAny_bind (wpAny_field hz rfl (x:=.bool false) rfl ?_)
 show wpAny _ _ (field (.ref z) 3 >>= _) _ _ _
 refine wpAny_bind (wpAny_field hz rfl (x:=.ref TI) rfl ?_)
 refine wpAny_bind (wpAny_seqItems hTI rfl ?_)
 show wpAny _ _ (Builtin.SmallTypes.ownedTupleIsFree (.ref z) >>= _) _ _ _
 refine wpAny_bind ?_
 unfold Builtin.SmallTypes.ownedTupleIsFree
 refine wpAny_bind (wpAny_field hz rfl (x:=.none) rfl (wpAny_pure ?_))
 simp only[if_true]
 refine wpAny_bind (wpAny_rule ?_)
 refine wpAny_bind (wpAny_field hz rfl (x:=.ref TO) rfl ?_)
 refine wpAny_bind (wpAny_setField_rec hz (by simp) λh₁ hz₁ hs₁=>?_)
 replace hs₁:Heap.SameBut z hp h₁:= hs₁
 replace hz₁:IsZip h₁ z TI TO .ellipsis:=hz₁
 refine wpAny_bind ?_
 simp only[List.zipIdx_cons,List.zipIdx_nil,List.forIn_cons,List.forIn_nil]
 refine wpAny_bind (wpAny_bind (wpAny_onRaise ?_))
 show wpAny _ _ (Builtin.SmallTypes.nextOf (.ref i1) >>= _) _ _ _
 rcases hend with rfl|⟨hk1,rfl⟩
 ·refine wpAny_bind (D1.done _ _ _ (D1.frame _ _ _ h1 λb hb o e=>hs₁.extBut b o (Tw hb).1 e) λh₂ e hs₂ he=>?_)
  obtain⟨oe,hoe,hce⟩:=he
  replace hs₂:Heap.ExtBut i1 h₁ h₂:= hs₂
  have hz₂:IsZip h₂ z TI TO .ellipsis:=hs₂ _ _ D.i1z.symm hz₁
  have hez:e≠z:=λx=>by subst x;rw[hz₂] at hoe;cases hoe;simp at hce
  exact wpAny_setField_rec hz₂ (by simp) λh₃ _ hs₃=>hE h₃ e tk0 (λc o c1 _ c3 _ x=>hs₃.extBut _ _ c1 (hs₂ _ _ c3 (hs₁.extBut _ _ c1 x))) ⟨oe,hs₃.extBut _ _ hez hoe,hce⟩
 ·refine wpAny_bind (D1.item k1 _ _ _ hk1 (D1.frame _ _ _ h1 λb hb o e=>hs₁.extBut b o (Tw hb).1 e) λx h₂ tk hPx h1₂ hs₂=>wpAny_pure ?_)
  replace hs₂:Heap.SameBut i1 h₁ h₂:= hs₂
  have hTO₂:IsPair h₂ TO a b:=hs₂.extBut _ _ D.TOi1 (hs₁.extBut _ _ D.TOz hTO)
  refine wpAny_bind (wpAny_seqItems hTO₂ rfl ?_)
  refine wpAny_bind (wpAny_updateSeq_pair hTO₂ λh₃ hTO₃ hs₃=>?_)
  replace hs₃:Heap.SameBut TO h₂ h₃:= hs₃
  refine wpAny_bind (wpAny_letGo (wpAny_pure ?_))
  refine wpAny_bind (wpAny_bind (wpAny_onRaise ?_))
  show wpAny _ _ (Builtin.SmallTypes.nextOf (.ref i2) >>= _) _ _ _
  refine wpAny_bind (D2.done _ _ _ (D2.frame _ _ _ h2 λb hb o e=>hs₃.extBut b o (Rx hb).2.1 (hs₂.extBut b o (Rx hb).2.2 (hs₁.extBut b o (Rx hb).1 e))) λh₄ e hs₄ he=>?_)
  obtain⟨oe,hoe,hce⟩:=he
  replace hs₄:Heap.ExtBut i2 h₃ h₄:= hs₄
  have hz₄:IsZip h₄ z TI TO .ellipsis:=hs₄ _ _ D.i2z.symm (hs₃.extBut _ _ D.TOz.symm (hs₂.extBut _ _ D.i1z.symm hz₁))
  have hez:e≠z:=λx=>by subst x;rw[hz₄] at hoe;cases hoe;simp at hce
  exact wpAny_setField_rec hz₄ (by simp) λh₅ _ hs₅=>hE h₅ e tk (λc o c1 c2 c3 c4 x=>hs₅.extBut _ _ c1 (hs₄ _ _ c4 (hs₃.extBut _ _ c2 (hs₂.extBut _ _ c3 (hs₁.extBut _ _ c1 x))))) ⟨oe,hs₅.extBut _ _ hez hoe,hce⟩
end
section
variable{prog:Program}{w:World}{A:Around}{E:Value->Shared->Prop}{s:Shared}
def nF{z TI TO i1 i2:Addr}{f1 f2:List Addr}{n1 n2 k1 k2:Nat}{P1 P2:Nat->Value->Prop}{S1 S2:Nat->Heap->Prop}{a b:Value}{Q:Option Value->Shared->Prop}(D:ZAp z TI TO i1 i2 f1 f2)
 (D1:Draws prog w A.in1 i1 f1 n1 P1 S1)(D2:Draws prog w A.in1 i2 f2 n2 P2 S2)
 (hz:IsZip s.heap z TI TO .none)(hTI:IsPair s.heap TI (.ref i1) (.ref i2))(hTO:IsPair s.heap TO a b)(h1:S1 k1 s.heap)(h2:S2 k2 s.heap)(hk1:k1<n1)(hk2:k2<n2)
 (hQ:∀x y h' tk,P1 k1 x→P2 k2 y→IsZip h' z TI TO (rawInt s.heap.objs.size)→IsPair h' TO x y→S1 (k1+1) h'→S2 (k2+1) h'→IsPair h' s.heap.objs.size x y→h'.objs.size=s.heap.objs.size+1→
   (∀c o,c≠z->c≠TO->c≠i1->c≠i2->s.heap.get? c=some o->h'.get? c=some o)->Q (some (.ref s.heap.objs.size)) {s with heap:=h',toks:=tk}) :
 wpAny (model prog w) A (pyNext (.ref z)) Q E s:=by
 have hT:s.TypeIs (.ref z) "zip" := ⟨_,hz,rfl⟩
 unfold pyNext
 exact wpAny_bind (wpAny_attempt (wpAny_callSpecial?_slot (name:=Str.ofString "__next__") hT F.slot_zip_next
  (wpAny_call_entry F.slot_zip_next hT F.entry_zip_next
    (qZ D D1 D2 hz hTI hTO h1 h2 hk1 hk2 λx y h' tk a0 b0 a1 a2 a3 a4 a5 a6 a7=>wpAny_pure (hQ x y h' tk a0 b0 a1 a2 a3 a4 a5 a6 a7)) (F.args_zip_next_1 _))))
def pK{z TI TO i1 i2:Addr}{f1 f2:List Addr}{n1 n2 k1 k2:Nat}{P1 P2:Nat->Value->Prop}{S1 S2:Nat->Heap->Prop}{a b:Value}{Q:Option Value->Shared->Prop}(D:ZAp z TI TO i1 i2 f1 f2)
 (D1:Draws prog w A.in1 i1 f1 n1 P1 S1)(D2:Draws prog w A.in1 i2 f2 n2 P2 S2)
 (hz:IsZip s.heap z TI TO .none)(hTI:IsPair s.heap TI (.ref i1) (.ref i2))(hTO:IsPair s.heap TO a b)(h1:S1 k1 s.heap)(h2:S2 k2 s.heap)(hend:k1=n1\/(k1<n1/\k2=n2))
 (hQ:∀h' tk,(∀c o,c≠z->c≠TO->c≠i1->c≠i2->s.heap.get? c=some o->h'.get? c=some o)->Q none {s with heap:=h',toks:=tk}):wpAny (model prog w) A (pyNext (.ref z)) Q E s:=by
 have hT:s.TypeIs (.ref z) "zip" := ⟨_,hz,rfl⟩
 unfold pyNext
 refine wpAny_bind (wpAny_attempt (wpAny_callSpecial?_slot (name:=Str.ofString "__next__") hT F.slot_zip_next
  (wpAny_call_entry F.slot_zip_next hT F.entry_zip_next (ur D D1 D2 hz hTI hTO h1 h2 hend λh' e tk hk he=>?_) (F.args_zip_next_1 _))))
 obtain⟨o,ho,hc⟩:=he
 refine wpAny_bind (wpAny_isInstance (T:= "StopIteration") (b:=true) ⟨o,ho,hc⟩ isSubtype_stop ?_)
 exact wpAny_pure (hQ _ _ hk)
end
def tM(K:PySem.W.Frag)(b:Bool)(H:Hp)(a:Addr)(xs:List V):Prop:=if b=true then dw K H a xs else ų K H a xs
def gG(b:Bool)(h:Heap)(it l:Addr)(i:Nat):Prop:=if b=true then h.IsTupleIter it l i else h.IsListIter it l i
def H_(b:Bool)(h:Heap)(l:Addr)(its:Array Value):Prop:=if b=true then h.IsTuple l its else h.IsList l its
def nmB(b:Bool):String:=if b=true then "tuple_iterator" else "list_iterator"
def qj{prog:Program}{w:World}{A:Around}(b:Bool)(hh:A.handled=none)(it l:Addr)(hne:l≠it)(items:Array Value) :
 Draws prog w A it [it,l] items.size (λi v=>items[i]?=some v) (λi h=>gG b h it l i/\H_ b h l items):=by
 cases b with
 |true=>exact zT hh it l hne items
 |false=>exact Draws.list hh it l hne items
def gG.ex{b:Bool}{h:Heap}{it l:Addr}{i:Nat}(x:gG b h it l i):∃o,h.get? it=some o/\o.cls=.type (nmB b)/\o.data=.fields #[.ref l,.int i 0]:=by
 cases b with
 |true=>exact x
 |false=>exact x
def gG.of{b:Bool}{h:Heap}{it l:Addr}{i:Nat}{o:Obj}(h1:h.get? it=some o)(h2:o.cls=.type (nmB b))(h3:o.data=.fields #[.ref l,.int i 0]):gG b h it l i:=by
 cases b with
 |true=>exact⟨o,h1,h2,h3⟩
 |false=>exact⟨o,h1,h2,h3⟩
def gG.keep{b:Bool}{h h':Heap}{it l:Addr}{i:Nat}(x:gG b h it l i)(k:∀o,h.get? it=some o->h'.get? it=some o):gG b h' it l i:=by
 obtain⟨o,h1,h2,h3⟩:=x.ex
 exact .of (k o h1) h2 h3
def Ry(K:PySem.W.Frag)(b:Bool)(H:Hp)(l:Addr)(i:Nat)(xs:List V):Prop:=xs.length<=i/\∀j,j<i->∃ys y,tM K b H l ys/\ys[j]?=some y
def Itz(K:PySem.W.Frag)(b1 b2:Bool)(l1 l2:Addr):It:=
 ⟨λi H=>(∃xs x,tM K b1 H l1 xs/\xs[i]?=some x)/\∃ys y,tM K b2 H l2 ys/\ys[i]?=some y,
  λi H z H'=>∃x y T,(∀xs,tM K b1 H l1 xs->xs[i]?=some x)/\(∀ys,tM K b2 H l2 ys->ys[i]?=some y)/\H T=none/\z=.ref T/\H'=upd H T (.tup [x,y]),
  λi H=>(∃xs,tM K b1 H l1 xs)/\(∃ys,tM K b2 H l2 ys)/\((∃xs,tM K b1 H l1 xs/\Ry K b1 H l1 i xs)\/((∃xs x,tM K b1 H l1 xs/\xs[i]?=some x)/\∃ys,tM K b2 H l2 ys/\Ry K b2 H l2 i ys))⟩
section
variable{X:Cx}{pins:List (Addr×Obj)}{σ:L2.St}{H:Hp}{s:Shared}
def u_{b:Bool}{a:Addr}{xs:List V}(I:Inv X pins σ H s)(h:tM X.K b H a xs):∃its:List Value,Vals xs its/\H_ b s.heap a its.toArray/\xs.length<=sizeLine:=by
 cases b with
 |true=>
  obtain⟨its,r,p,z⟩:=I.tuple h
  exact⟨its,r,p,z⟩
 |false=>
  obtain⟨its,r,p,z⟩:=I.list h
  exact⟨its,r,p.isList,z⟩
def vd{b:Bool}{a:Addr}{xs ys:List V}(I:Inv X pins σ H s)(h:tM X.K b H a xs)(h':tM X.K b H a ys):xs=ys:=by
 cases b with
 |true=>exact I.uD h h'
 |false=>exact I.qw h h'
def Tz{b:Bool}{l:Addr}{i:Nat}{xs:List V}(I:Inv X pins σ H s)(h:tM X.K b H l xs)(q:Ry X.K b H l i xs):xs.length=i:=by
 obtain⟨h1,h2⟩:=q
 refine Nat.le_antisymm h1 ?_
 cases i with
 |zero=>omega
 |succ i=>
  obtain⟨ys,y,e1,e2⟩:=h2 i (by omega)
  rw[vd I e1 h] at e2
  have:=(List.getElem?_eq_some_iff.mp e2).1
  omega
def Gn{bb:Bool}{a b:Addr}{xs:List V}(I:Inv X pins σ H s)(f:bR X pins H b)(h:tM X.K bb H a xs):a≠b:=by
 intro e
 subst e
 have hk:∀o,X.K.lookup a=some o->False:=λo e=>by
  have hb:=I.ok.mod.kin a o e
  rcases f.2.2.2.1 with z|z
  ·exact I.ok.Hf a o hb z
  ·exact absurd (Nat.lt_of_lt_of_le (Heap.lt_size (I.ok.bs a o hb).1) z) (Nat.lt_irrefl _)
 have hr:∀u,Rd H a u->False:=λu r=>by
  rcases r with r|⟨o,r⟩<;>(rw[f.1] at r;cases r)
 cases bb with
 |true=>
  have h':dw X.K H a xs:=h
  rcases h' with q|⟨o,_,_,q,_⟩
  ·exact hr _ q
  ·exact hk o q
 |false=>
  have h':ų X.K H a xs:=h
  rcases h' with q|⟨o,_,_,q,_⟩
  ·exact hr _ q
  ·exact hk o q
end
def Lg{P:Program}{w:World}{K:PySem.W.Frag}{elts:List Expr}{k:Nat}{pos:Pos}(b1 b2:Bool)(l1 l2 z TI TO i1 i2:Addr)(nd:[z,TI,TO,i1,i2].Nodup) :
 Turn P w K (.Tuple elts k pos) (Itz K b1 b2 l1 l2) [z,TI,TO,i1,i2] z (λi h=>IsZip h z TI TO .none/\IsPair h TI (.ref i1) (.ref i2)/\(∃a b,IsPair h TO a b)/\gG b1 h i1 l1 i/\gG b2 h i2 l2 i) where
 mem:=by simp
 obj:=λi h st b hb=>by
  obtain⟨hz,hTI,⟨x,y,hTO⟩,h1,h2⟩:=st
  simp only[List.mem_cons,List.not_mem_nil,or_false] at hb
  rcases hb with rfl|rfl|rfl|rfl|rfl
  ·exact⟨_,hz,λv z=>by have z':Data.fields _=Data.cell v:=z;cases z'⟩
  ·exact⟨_,hTI,λv z=>by have z':Data.seq _ _=Data.cell v:=z;cases z'⟩
  ·exact⟨_,hTO,λv z=>by have z':Data.seq _ _=Data.cell v:=z;cases z'⟩
  ·obtain⟨o,e1,c,d⟩:=h1.ex
   exact⟨o,e1,λv z=>by rw[d] at z;cases z⟩
  ·obtain⟨o,e1,c,d⟩:=h2.ex
   exact⟨o,e1,λv z=>by rw[d] at z;cases z⟩
 keep:=λi h h' st k=>by
  obtain⟨hz,hTI,⟨x,y,hTO⟩,h1,h2⟩:=st
  exact⟨k z (by simp) _ hz,k TI (by simp) _ hTI,⟨x,y,k TO (by simp) _ hTO⟩,h1.keep λo q=>k i1 (by simp) o q,h2.keep λo q=>k i2 (by simp) o q⟩
 item:=by
  intro X hP hw hK hc i pins s σ H E I hf st hg
  subst hP hw hK
  obtain⟨hz,hTI,⟨a,b,hTO⟩,h1,h2⟩:=st
  obtain⟨⟨xs,x,hq1,hx⟩,ys,y,hq2,hy⟩:=hg
  obtain⟨CK,rv1,p1,_⟩:=u_ I hq1
  obtain⟨its2,rv2,p2,_⟩:=u_ I hq2
  obtain⟨u1,hu1,ru1⟩:=rv1.get hx
  obtain⟨u2,hu2,ru2⟩:=rv2.get hy
  have ne1:∀b∈[z,TI,TO,i1,i2],l1≠b:=λb hb=>Gn I (hf b hb) hq1
  have ne2:∀b∈[z,TI,TO,i1,i2],l2≠b:=λb hb=>Gn I (hf b hb) hq2
  have hh:X.A.in1.handled=none:=I.ok.hd hc
  simp only[List.nodup_cons,List.mem_cons,List.not_mem_nil,or_false,not_or,List.nodup_nil,not_false_eq_true,and_true] at nd
  obtain⟨⟨n1,n2,n3,n4⟩,⟨n5,n6,n7⟩,⟨n8,n9⟩,n10⟩:=nd
  have D:ZAp z TI TO i1 i2 [i1,l1] [i2,l2]:=by
   refine⟨Ne.symm n1,Ne.symm n2,Ne.symm n3,Ne.symm n4,n5,n6,n7,n8,n9,n10,?_,?_,?_,?_,?_,?_⟩<;>simp only[List.mem_cons,List.not_mem_nil,or_false,not_or]
   ·exact⟨n3,(ne1 z (by simp)).symm⟩
   ·exact⟨n4,(ne2 z (by simp)).symm⟩
   ·exact⟨n8,(ne1 TO (by simp)).symm⟩
   ·exact⟨n9,(ne2 TO (by simp)).symm⟩
   ·exact⟨n10,(ne2 i1 (by simp)).symm⟩
   ·exact⟨Ne.symm n10,(ne1 i2 (by simp)).symm⟩
  have lt1:i<CK.toArray.size:=by
   rw[List.size_toArray]
   exact(List.getElem?_eq_some_iff.mp hu1).1
  have JN:i<its2.toArray.size:=by
   rw[List.size_toArray]
   exact(List.getElem?_eq_some_iff.mp hu2).1
  have hlt:∀b∈[z,TI,TO,i1,i2],b<s.heap.objs.size:=λb hb=>by
   simp only[List.mem_cons,List.not_mem_nil,or_false] at hb
   rcases hb with rfl|rfl|rfl|rfl|rfl
   ·exact Heap.lt_size hz
   ·exact Heap.lt_size hTI
   ·exact Heap.lt_size hTO
   ·obtain⟨o,e1,_⟩:=h1.ex;exact Heap.lt_size e1
   ·obtain⟨o,e1,_⟩:=h2.ex;exact Heap.lt_size e1
  refine nF D (qj (A:=X.A.in1) b1 hh i1 l1 (ne1 i1 (by simp)) CK.toArray) (qj (A:=X.A.in1) b2 hh i2 l2 (ne2 i2 (by simp)) its2.toArray) hz hTI hTO ⟨h1,p1⟩ ⟨h2,p2⟩ lt1 JN λx' y' h' tk hPx hPy hz' ZhK s1 s2 hT hsz hk=>?_
  have ex:x'=u1:=by
   have:CK.toArray[i]?=some x':=hPx
   rw[show CK.toArray[i]?=some u1 by simpa using hu1] at this
   exact(Option.some.inj this).symm
  have ey:y'=u2:=by
   have:its2.toArray[i]?=some y':=hPy
   rw[show its2.toArray[i]?=some u2 by simpa using hu2] at this
   exact(Option.some.inj this).symm
  subst ex ey
  refine⟨.ref s.heap.objs.size,rfl,wpAny_letOwnedTupleGo_zip hz' λh'' hz'' hs'=>?_⟩
  have hs2:Heap.SameBut z h' h'':=hs'
  have I2:=qX (fp:=[z,TI,TO,i1,i2]) (h':=h'') (t':=tk) I ru1 ru2 ⟨_,(hs2.2 _ (Nat.ne_of_gt (hlt z (by simp)))).trans hT,rfl⟩ (λb o hb q=>by
   have hne:∀c∈[z,TI,TO,i1,i2],b≠c:=λc hc e=>hb (e▸hc)
   exact(hs2.2 b (hne z (by simp))).trans (hk b o (hne z (by simp)) (hne TO (by simp)) (hne i1 (by simp)) (hne i2 (by simp)) q)) hf hlt
  refine⟨.ref s.heap.objs.size,_,I2,rfl,⟨x,y,s.heap.objs.size,λzs hzs=>by rw[vd I hzs hq1];exact hx,λzs hzs=>by rw[vd I hzs hq2];exact hy,I.fresh,rfl,rfl⟩,
   ⟨hz'',(hs2.2 TI (Ne.symm n1)).trans (hk TI _ (Ne.symm n1) n5 n6 n7 hTI),⟨_,_,(hs2.2 TO (Ne.symm n2)).trans ZhK⟩,s1.1.keep λo q=>(hs2.2 i1 (Ne.symm n3)).trans q,s2.1.keep λo q=>(hs2.2 i2 (Ne.symm n4)).trans q⟩,λb hb=>?_⟩
  rw[Ğ (Nat.ne_of_lt (hlt b hb))];exact(hf b hb).1
 done:=by
  intro X hP hw hK hc i pins s σ H E I hf st hg
  subst hP hw hK
  obtain⟨hz,hTI,⟨a,b,hTO⟩,h1,h2⟩:=st
  obtain⟨⟨xs,hq1⟩,⟨ys,hq2⟩,hend'⟩:=hg
  have hend:xs.length=i\/(i<xs.length/\ys.length=i):=by
   rcases hend' with⟨xs',q1,q2⟩|⟨⟨xs',x,q1,q2⟩,ys',q3,q4⟩
   ·left;rw[vd I hq1 q1];exact Tz I q1 q2
   ·right
    rw[vd I hq1 q1,vd I hq2 q3]
    exact⟨(List.getElem?_eq_some_iff.mp q2).1,Tz I q3 q4⟩
  obtain⟨CK,rv1,p1,_⟩:=u_ I hq1
  obtain⟨its2,rv2,p2,_⟩:=u_ I hq2
  have hl1:=rv1.length
  have hl2:=rv2.length
  have ne1:∀b∈[z,TI,TO,i1,i2],l1≠b:=λb hb=>Gn I (hf b hb) hq1
  have ne2:∀b∈[z,TI,TO,i1,i2],l2≠b:=λb hb=>Gn I (hf b hb) hq2
  have hh:X.A.in1.handled=none:=I.ok.hd hc
  simp only[List.nodup_cons,List.mem_cons,List.not_mem_nil,or_false,not_or,List.nodup_nil,not_false_eq_true,and_true] at nd
  obtain⟨⟨n1,n2,n3,n4⟩,⟨n5,n6,n7⟩,⟨n8,n9⟩,n10⟩:=nd
  have D:ZAp z TI TO i1 i2 [i1,l1] [i2,l2]:=by
   refine⟨Ne.symm n1,Ne.symm n2,Ne.symm n3,Ne.symm n4,n5,n6,n7,n8,n9,n10,?_,?_,?_,?_,?_,?_⟩<;>simp only[List.mem_cons,List.not_mem_nil,or_false,not_or]
   ·exact⟨n3,(ne1 z (by simp)).symm⟩
   ·exact⟨n4,(ne2 z (by simp)).symm⟩
   ·exact⟨n8,(ne1 TO (by simp)).symm⟩
   ·exact⟨n9,(ne2 TO (by simp)).symm⟩
   ·exact⟨n10,(ne2 i1 (by simp)).symm⟩
   ·exact⟨Ne.symm n10,(ne1 i2 (by simp)).symm⟩
  refine pK D (qj (A:=X.A.in1) b1 hh i1 l1 (ne1 i1 (by simp)) CK.toArray) (qj (A:=X.A.in1) b2 hh i2 l2 (ne2 i2 (by simp)) its2.toArray) hz hTI hTO ⟨h1,p1⟩ ⟨h2,p2⟩ ?_ λh' tk hk=>⟨rfl,turns (fp:=[z,TI,TO,i1,i2]) (t':=tk) I (λb o hb q=>?_) hf⟩
  ·rw[List.size_toArray,List.size_toArray]
   omega
  ·have hne:∀c∈[z,TI,TO,i1,i2],b≠c:=λc hc e=>hb (e▸hc)
   exact hk b o (hne z (by simp)) (hne TO (by simp)) (hne i1 (by simp)) (hne i2 (by simp)) q
 self:=λ_ _ _ _ _ st h=>wpAny_pyIter_zip st.1 h
section
abbrev zB1(b:Bool)(h:Heap)(l1:Addr):Heap:=h.push {cls:=.type (nmB b),data:=.fields #[.ref l1,.int 0 0]}
abbrev zB2(b b':Bool)(h:Heap)(l1 l2:Addr):Heap:=(zB1 b h l1).push {cls:=.type (nmB b'),data:=.fields #[.ref l2,.int 0 0]}
abbrev zB3(b b':Bool)(h:Heap)(l1 l2:Addr):Heap:=(zB2 b b' h l1 l2).push {cls:=.type "tuple",data:=.seq #[.ref h.objs.size,.ref (zB1 b h l1).objs.size]}
abbrev zB4(b b':Bool)(h:Heap)(l1 l2:Addr):Heap:=(zB3 b b' h l1 l2).push {cls:=.type "tuple",data:=.seq #[.none,.none]}
abbrev zB5(b b':Bool)(h:Heap)(l1 l2:Addr):Heap:=(zB4 b b' h l1 l2).push {cls:=.type "zip",data:=.fields #[.none,.bool false,.bool false,.ref (zB2 b b' h l1 l2).objs.size,.ref (zB3 b b' h l1 l2).objs.size]}
def zU{prog:Program}{w:World}{A:Around}{E:Value->Shared->Prop}{s:Shared}{b:Bool}{l:Addr}{its:Array Value}{Q:Value->Shared->Prop}(hl:H_ b s.heap l its)
 (hQ:Q (.ref s.heap.objs.size) {s with heap:=s.heap.push {cls:=.type (nmB b),data:=.fields #[.ref l,.int 0 0]}}):wpAny (model prog w) A (pyIter (.ref l)) Q E s:=by
 cases b with
 |true=>exact wpAny_pyIter_tuple hl hQ
 |false=>exact wpAny_pyIter_list hl hQ
theorem H_.push{b:Bool}{h:Heap}{l:Addr}{its:Array Value}(x:H_ b h l its)(o:Obj):H_ b (h.push o) l its:=by
 cases b with
 |true=>exact Heap.IsTuple.push x o
 |false=>exact Heap.IsList.push x o
def zV(b b':Bool)(l1 l2:Addr)(xs ys:Array Value) :
 Meets (Builtin.«zip.__new__» ⟨[.type "zip",.ref l1,.ref l2],[]⟩) (λ_ R s=>H_ b s.heap l1 xs/\H_ b' s.heap l2 ys/\
  R (.ok (.ret (.ref (zB4 b b' s.heap l1 l2).objs.size))) {s with heap:=zB5 b b' s.heap l1 l2}):=
 .of_wp fun prog w A R s h=>by
   obtain⟨hp,g,d,tk,os⟩:=s;obtain⟨hl1,hl2,h⟩:=h
   have hsub:=sub_zip
   have hL1:H_ b (Shared.heap ⟨hp,g,d,tk,os⟩) l1 xs:=hl1
   have hL2:H_ b' (Shared.heap ⟨hp.push {cls:=.type (nmB b),data:=.fields #[.ref l1,.int 0 0]},g,d,tk,os⟩) l2 ys:=H_.push hl2 _
   wp_walk using zU hL1,zU hL2
   exact⟨_,rfl,h⟩
variable{prog:Program}{w:World}{A:Around}{E:Value->Shared->Prop}{s:Shared}
def CN{b b':Bool}{l1 l2:Addr}{xs ys:Array Value}{Q:Value->Shared->Prop}(hl1:H_ b s.heap l1 xs)(hl2:H_ b' s.heap l2 ys)
 (h:∀h',IsZip h' (s.heap.objs.size+4) (s.heap.objs.size+2) (s.heap.objs.size+3) .none→IsPair h' (s.heap.objs.size+2) (.ref s.heap.objs.size) (.ref (s.heap.objs.size+1))→
   IsPair h' (s.heap.objs.size+3) .none .none->gG b h' s.heap.objs.size l1 0->gG b' h' (s.heap.objs.size+1) l2 0->h'.objs.size=s.heap.objs.size+5->
   (∀c o,s.heap.get? c=some o->h'.get? c=some o)->Q (.ref (s.heap.objs.size+4)) {s with heap:=h'}) :
 wpAny (model prog w) A (call (.type "zip") [.ref l1,.ref l2]) Q E s:=by
 refine callType_new F.called_zip (by decide) (F.typeCall_zip_2 _ _) (F.newCall_zip_2 _ _) (λobj=>F.args_object_init_3 obj _ _) F.entry_zip_new
  (zV b b' l1 l2 xs ys) ⟨hl1,hl2,?_⟩
 have z1:(zB1 b s.heap l1).objs.size=s.heap.objs.size+1:=Heap.size_push ..
 have z2:(zB2 b b' s.heap l1 l2).objs.size=s.heap.objs.size+2:=by rw[Heap.size_push,z1]
 have z3:(zB3 b b' s.heap l1 l2).objs.size=s.heap.objs.size+3:=by rw[Heap.size_push,z2]
 have z4:(zB4 b b' s.heap l1 l2).objs.size=s.heap.objs.size+4:=by rw[Heap.size_push,z3]
 have z5:(zB5 b b' s.heap l1 l2).objs.size=s.heap.objs.size+5:=by rw[Heap.size_push,z4]
 have g5:(zB5 b b' s.heap l1 l2).get? (zB4 b b' s.heap l1 l2).objs.size=some _:=Heap.get?_push_size _ rfl
 have g4:(zB5 b b' s.heap l1 l2).get? (zB3 b b' s.heap l1 l2).objs.size=some _:=Heap.get?_push_of_some _ (Heap.get?_push_size _ rfl)
 have g3:(zB5 b b' s.heap l1 l2).get? (zB2 b b' s.heap l1 l2).objs.size=some _:=Heap.get?_push_of_some _ (Heap.get?_push_of_some _ (Heap.get?_push_size _ rfl))
 have g2:(zB5 b b' s.heap l1 l2).get? (zB1 b s.heap l1).objs.size=some _:=Heap.get?_push_of_some _ (Heap.get?_push_of_some _ (Heap.get?_push_of_some _ (Heap.get?_push_size _ rfl)))
 have g1:(zB5 b b' s.heap l1 l2).get? s.heap.objs.size=some _:=Heap.get?_push_of_some _ (Heap.get?_push_of_some _ (Heap.get?_push_of_some _ (Heap.get?_push_of_some _ (Heap.get?_push_size _ rfl))))
 show _/\_
 rw[z2,z3,z4] at g5
 rw[z1,z2] at g3
 rw[z3] at g4
 rw[z1] at g2
 rw[z4]
 exact⟨⟨_,g5,rfl⟩,h _ g5 g3 g4 (.of g1 rfl rfl) (.of g2 rfl rfl) z5 λc o x=>
  Heap.get?_push_of_some _ (Heap.get?_push_of_some _ (Heap.get?_push_of_some _ (Heap.get?_push_of_some _ (Heap.get?_push_of_some _ x))))⟩
end
section
variable{X:Cx}{elts:List Expr}{k:Nat}{tp:Pos}
def ZhL(K:PySem.W.Frag)(ta:TA):TI:=λσ H R=>ta σ H λvs H1=>∃b1 b2 l1 l2,vs=[.ref l1,.ref l2]/\(∃xs,tM K b1 H1 l1 xs)/\(∃xs,tM K b2 H1 l2 xs)/\R (Itz K b1 b2 l1 l2) H1
def Zce{e1 e2:Expr}{ta:TA}{p pos:Pos}(hg:Gl X "zip")(hm:X.mg "zip" =none)(ha:PA X [e1,e2] ta)(hs:starEach [e1,e2] X.env=[(false,eval e1 X.env),(false,eval e2 X.env)]:=by exact JZ rfl rfl)(hs2:starEach [e2] X.env=[(false,eval e2 X.env)]:=by exact bT rfl) :
 PI X (.Tuple elts k tp) (.Call (.Name "zip" p) [e1,e2] [] pos) (ZhL X.K ta):=by
 intro pins s σ H R I h
 refine Call_ (jR I hg hm boot_zip (PyProof.Rows.callWith_type1 (Ť (ha pos pins s σ H _ I h) λus s1 ⟨vs,H1,I1,r1,q1⟩=>?_) (by rw[hs,hs2]) (by rw[hs2];rfl)))
 obtain⟨b1,b2,l1,l2,e,⟨xs,hq1⟩,⟨ys,hq2⟩,q⟩:=q1
 subst e
 obtain⟨u1,u2,rfl,ru1,ru2⟩:=vals2 r1
 cases ru1
 cases ru2
 obtain⟨CK,rv1,p1,_⟩:=u_ I1 hq1
 obtain⟨its2,rv2,p2,_⟩:=u_ I1 hq2
 refine CN p1 p2 λh' hz hTI hTO h1 h2 hsz hk=>?_
 have I2:Inv X pins σ H1 {s1 with heap:=h'}:=I1.kept (t':=s1.toks) hk
 refine wpAny_pyIter_zip (s:={s1 with heap:=h'}) hz ⟨s1.heap.objs.size+4,[s1.heap.objs.size+4,s1.heap.objs.size+2,s1.heap.objs.size+3,s1.heap.objs.size,s1.heap.objs.size+1],_,_,H1,rfl,I2,Lg b1 b2 l1 l2 _ _ _ _ _ (by simp),⟨hz,hTI,⟨_,_,hTO⟩,h1,h2⟩,λb hb=>?_,q⟩
 have hb':s1.heap.objs.size<=b:=by
  simp only[List.mem_cons,List.not_mem_nil,or_false] at hb
  rcases hb with rfl|rfl|rfl|rfl|rfl<;>omega
 exact I1.tZ hb' (I1.hok.fresh hb')
end
def jx:List PV->List PV->List PV
 |p::ps,q::qs=>.tup [p,q]::jx ps qs
 |_,_=>[]
theorem zW:∀(ps qs:List PV) (i:Nat) (r:PV),(jx ps qs)[i]?=some r->∃p q,ps[i]?=some p/\qs[i]?=some q/\r=.tup [p,q]
 | [],_,_,_,h=>by simp[jx] at h
 |_::_,[],_,_,h=>by simp[jx] at h
 |p::ps,q::qs,0,r,h=>by
  have h':some (PV.tup [p,q])=some r:=h
  cases h'
  exact⟨p,q,rfl,rfl,rfl⟩
 |p::ps,q::qs,i+1,r,h=>zW ps qs i r h
theorem zX:∀(ps qs:List PV),(jx ps qs).length=min ps.length qs.length
 | [],_=>by simp[jx]
 |_::_,[]=>by simp[jx]
 |_::ps,_::qs=>by
  show(jx ps qs).length+1=_
  rw[zX ps qs,List.length_cons,List.length_cons]
  omega
def wX(m1 m2:M (List PV)):M (List PV):=λρ=>(m1 ρ).bind λps ρ1=>(m2 ρ1).bind λqs ρ2=>.ok (jx ps qs) ρ2
def Itb(K:PySem.W.Frag)(b:Bool)(a:Addr):It:=if b=true then Itt K a else Itl K a
def q_{K:KK}{L F:Hp}{b:Bool}{a:Addr}{ps:List PV}(h:fW K L F (Itb K.K b a) ps){c:Ctx}{F2 H:Hp}{σ:L2.St}{ρ:ŋ}(rel:Rel K c F2 H σ ρ)(sF:Same F F2)(sL:Same L H)(i:Nat)(p:PV)(hp:ps[i]?=some p) :
 (∃xs x,tM K.K b H a xs/\xs[i]?=some x)/\∀x,(∀xs,tM K.K b H a xs->xs[i]?=some x)->∃F3,Rel K c F3 H σ ρ/\Same F2 F3/\Rep K F3 p x:=by
 obtain⟨g,_⟩:=h c i F2 H σ ρ rel sF sL
 obtain⟨g1,g2⟩:=g p hp
 cases b with
 |true=>exact⟨g1,λx hx=>let ⟨F3,r3,s3,_,rp⟩:=g2 x H ⟨rfl,hx⟩;⟨F3,r3,s3,rp⟩⟩
 |false=>exact⟨g1,λx hx=>let ⟨F3,r3,s3,_,rp⟩:=g2 x H ⟨rfl,hx⟩;⟨F3,r3,s3,rp⟩⟩
def wY{K:KK}{L F:Hp}{b:Bool}{a:Addr}{ps:List PV}(h:fW K L F (Itb K.K b a) ps){c:Ctx}{F2 H:Hp}{σ:L2.St}{ρ:ŋ}(rel:Rel K c F2 H σ ρ)(sF:Same F F2)(sL:Same L H) :
 ∃xs,tM K.K b H a xs/\Ry K.K b H a ps.length xs:=by
 obtain⟨_,st⟩:=h c ps.length F2 H σ ρ rel sF sL
 have st':∃xs,tM K.K b H a xs/\xs.length<=ps.length:=by
  cases b with
  |true=>exact st rfl
  |false=>exact st rfl
 obtain⟨xs,h1,h2⟩:=st'
 exact⟨xs,h1,h2,λj hj=>(q_ h rel sF sL j _ (List.getElem?_eq_getElem hj)).1⟩
def Li{K:KK}{L F:Hp}{b1 b2:Bool}{a1 a2:Addr}{ps qs:List PV}(h1:fW K L F (Itb K.K b1 a1) ps)(h2:fW K L F (Itb K.K b2 a2) qs):fW K L F (Itz K.K b1 b2 a1 a2) (jx ps qs):=by
 intro c i F2 H σ ρ rel sF sL
 refine⟨λr hr=>?_,λhi=>?_⟩
 ·obtain⟨p,q,hp,hq,rfl⟩:=zW ps qs i r hr
  obtain⟨g1,y1⟩:=q_ h1 rel sF sL i p hp
  refine⟨⟨g1,(q_ h2 rel sF sL i q hq).1⟩,λz H' ⟨x,y,T,e1,e2,hT,ez,eH⟩=>?_⟩
  subst ez eH
  obtain⟨F3,lu,s3,rp⟩:=y1 x e1
  obtain⟨F4,zy,s4,rq⟩:=(q_ h2 lu (sF.trans s3) sL i q hq).2 y e2
  obtain⟨r1,r2⟩:=Gk zy hT (Rep.same s4 p x rp) rq
  exact⟨_,r1,(s3.trans s4).trans (Same.upd (zy.sub.free hT)),Same.upd hT,r2⟩
 ·rw[zX] at hi
  obtain⟨xs,x1,x2⟩:=wY h1 rel sF sL
  obtain⟨ys,y1,y2⟩:=wY h2 rel sF sL
  refine⟨⟨xs,x1⟩,⟨ys,y1⟩,?_⟩
  by_cases hl:ps.length<=qs.length
  ·left
   have e:i=ps.length:=by omega
   exact⟨xs,x1,e▸x2⟩
  ·right
   have e:i=qs.length:=by omega
   exact⟨(q_ h1 rel sF sL i _ (List.getElem?_eq_getElem (by omega))).1,ys,y1,e▸y2⟩
def ZeS{K:KK}{c:Ctx}{σ:L2.St}{ρ:ŋ}{F H:Hp}{ps:List PV}{v:V}(h:rSq K c σ ρ F H ps v):∃b a,v=.ref a/\(∃xs,tM K.K b H a xs)/\fW K c.L F (Itb K.K b a) ps:=by
 rcases h with⟨a,e1,e2,e3⟩|⟨a,e1,e2,e3⟩
 ·exact⟨false,a,e1,e2,e3⟩
 ·exact⟨true,a,e1,e2,e3⟩
section
variable{X:Cx}{cm:String->Addr}{E:L2.St->XK}{e e2:Expr}
def TF{elts:List Expr}{k:Nat}{tp p pos:Pos}{m1 m2:M (List PV)}(hg:Gl X "zip")(hm:X.mg "zip" =none)(h1:PE X e (tG (kk X cm) E (rSq (kk X cm)) m1))(h2:PE X e2 (tG (kk X cm) E (rSq (kk X cm)) m2))
 (hs:starEach [e,e2] X.env=[(false,eval e X.env),(false,eval e2 X.env)]:=by exact JZ rfl rfl)(hs2:starEach [e2] X.env=[(false,eval e2 X.env)]:=by exact bT rfl) :
 PI X (.Tuple elts k tp) (.Call (.Name "zip" p) [e,e2] [] pos) (tI (kk X cm) E (wX m1 m2)):=λpins s σ H R I h=>Zce hg hm (cH h1 (cH h2 jT hs2) (by rw[hs,hs2])) hs hs2 pins s σ H R I (by
 obtain⟨c,F,ρ,rel,h⟩:=h
 refine⟨c,F,ρ,rel,aQ.bind h λps ρ1 v F1 H1 ě s1 s2 q h1=>⟨c,F1,ρ1,ě,aQ.bind h1 λqs ρ2 u F2 H2 ļ s3 s4 q2 h2=>?_⟩⟩
 obtain⟨b1,a1,e1,_,e3⟩:=ZeS q
 obtain⟨b2,a2,f1,f2,f3⟩:=ZeS q2
 subst e1 f1
 obtain⟨xs,x1,_⟩:=wY (e3.mono s3) ļ (Same.refl _) λb u e=>(ļ.lent b u e).1
 exact⟨b1,b2,a1,a2,rfl,⟨xs,x1⟩,f2,h2 _ F2 H2 ļ (Same.refl _) (Same.refl _) (Li (e3.mono s3) f3)⟩)
end
end P
namespace P
open PySem PySem.Spec PyProof.Rows L2 M2 M3 M4
def ZeT(K:PySem.W.Frag)(neg:Bool):R2:=λx y H Q=>∃d es a xs,Rp K H d x/\y=.ref a/\(ų K H a xs\/dw K H a xs)/\ni K H es xs/\d.canLay0=true/\PyData.canLayAll0 es=true/\d.depth<=60/\Q (.bl (if neg then !(es.any λe=>PyData.eqv e d) else es.any λe=>PyData.eqv e d)) H
open Classical in
noncomputable def Pu(h:Heap)(d:PyData)(y:Value):Bool:=if ∃e as,Reads h y e as/\e.canLay0=true/\PyData.eqv e d=true then true else false
def Lj{h:Heap}{d e:PyData}{y:Value}{as:List Addr}(r:Reads h y e as)(hc:e.canLay0=true):Pu h d y=PyData.eqv e d:=by
 unfold Pu
 cases q:PyData.eqv e d with
 |true=>rw[if_pos ⟨e,as,r,hc,q⟩]
 |false=>
  rw[if_neg]
  rintro ⟨e',as',r',hc',q'⟩
  have:=SeqAt.Reads.unique e e' y as as' hc r r'
  subst this
  rw[q] at q'
  cases q'
theorem wZ{h:Heap}{d:PyData}:∀{us:List Value} {es:List PyData} {as:List Addr},ReadsAll h us es as->PyData.canLayAll0 es=true->us.any (Pu h d)=es.any λe=>PyData.eqv e d
 |_,_,_,.nil,_=>rfl
 |_,_,_,.cons r rs,hc=>by
  unfold PyData.canLayAll0 at hc
  rw[Bool.and_eq_true] at hc
  rw[List.any_cons,List.any_cons,Lj r hc.1,wZ rs hc.2]
theorem xg{A:Around}{s:Shared}{d:PyData}{v:Value}{bs:List Addr}(rv:Reads s.heap v d bs)(hd:d.canLay0=true)(hu:A.units+d.depth<cLine):∀{us:List Value} {es:List PyData} {as:List Addr},ReadsAll s.heap us es as->PyData.canLayAll0 es=true->∀u∈us,SeqAt.EqAt A s u v (Pu s.heap d u)
 |_,_,_,.nil,_=>λu hu=>by cases hu
 |_,_,_,.cons r rs,hc=>λu hm=>by
  unfold PyData.canLayAll0 at hc
  rw[Bool.and_eq_true] at hc
  rcases List.mem_cons.mp hm with rfl|hm
  ·rw[Lj r hc.1]
   exact SeqAt.eqAt_reads _ _ A s _ _ _ _ r rv hc.1 hd (by omega)
  ·exact xg rv hd hu rs hc.2 u hm
section
variable{X:Cx}
def Ia(hu:X.A.units+64<cLine):Ű X (compareOp .NotIn) (ZeT X.K true):=by
 intro pins s σ H x y v u Q I rx ry h
 obtain⟨d,es,a,xs,h1,rfl,hq,h3,h4,h5,h6,q⟩:=h
 cases ry
 obtain⟨as,ra⟩:=Rp.reads I d x v h1 rx
 have hu1:X.A.in1.units+d.depth<cLine:=by
  have:X.A.in1.units=X.A.units+1:=rfl
  omega
 rcases hq with hq|hq
 ·obtain⟨its,r,pl,hz⟩:=I.list hq
  obtain⟨bs,rb⟩:=ni.reads I es xs its h3 r
  refine SeqAt.notIn_listAt (Pu s.heap d) pl.isList (λw hw=>xg ra h4 hu1 rb h5 w (by simpa using hw)) ⟨.bl _,H,I,rfl,?_⟩
  rw[show its.toArray.any (Pu s.heap d)=its.any (Pu s.heap d) by simp,wZ rb h5]
  exact q
 ·obtain⟨its,r,pl,hz⟩:=I.tuple hq
  obtain⟨bs,rb⟩:=ni.reads I es xs its h3 r
  refine SeqAt.notIn_tupleAt (Pu s.heap d) pl (λw hw=>xg ra h4 hu1 rb h5 w (by simpa using hw)) ⟨.bl _,H,I,rfl,?_⟩
  rw[show its.toArray.any (Pu s.heap d)=its.any (Pu s.heap d) by simp,wZ rb h5]
  exact q
end
def inD(neg:Bool)(p q:PV):Option PV:=match q with
 | .lst ps=>if aj p && aX ps && decide (dep p<=60) then some (.bl (if neg then !(ps.any λy=>eqB y p) else ps.any λy=>eqB y p)) else none
 | .tup ps=>if aj p && aX ps && decide (dep p<=60) then some (.bl (if neg then !(ps.any λy=>eqB y p) else ps.any λy=>eqB y p)) else none
 |_=>none
theorem xq{p:PV}(h:aj p=true):∀{ps:List PV},aX ps=true->(fC ps).any (λe=>PyData.eqv e (toD p))=ps.any λy=>eqB y p
 | [],_=>rfl
 |y::ps,hp=>by
  unfold aX at hp
  rw[Bool.and_eq_true] at hp
  unfold fC
  rw[List.any_cons,List.any_cons,wF y p hp.1 h,xq h hp.2]
def Zcf{K:KK}{neg:Bool}:iy K (ZeT K.K neg) (inD neg):=by
 intro c F H σ ρ p q pv v u Q rel r1 r2 e k
 unfold inD at e
 split at e
 ·rename_i ps
  split at e
  ·rename_i hc
   rw[Bool.and_eq_true,Bool.and_eq_true,decide_eq_true_eq] at hc
   cases e
   obtain⟨a,xs,rfl,h1,h2⟩:=r2.lst rel.sub
   refine⟨toD p,fC ps,a,xs,jr rel.sub hc.1.1 r1,rfl,.inl h1,ni.same rel.sub _ _ (jq ps xs hc.1.2 h2),fZ p hc.1.1,iJ ps hc.1.2,by rw[gb];exact hc.2,?_⟩
   rw[xq hc.1.1 hc.1.2]
   exact k _ F H rel (Same.refl _) (Same.refl _) Rep.bl
  ·cases e
 ·rename_i ps
  split at e
  ·rename_i hc
   rw[Bool.and_eq_true,Bool.and_eq_true,decide_eq_true_eq] at hc
   cases e
   obtain⟨a,xs,rfl,h1,h2⟩:=r2.tup rel.sub
   refine⟨toD p,fC ps,a,xs,jr rel.sub hc.1.1 r1,rfl,.inr h1,ni.same rel.sub _ _ (jq ps xs hc.1.2 h2),fZ p hc.1.1,iJ ps hc.1.2,by rw[gb];exact hc.2,?_⟩
   rw[xq hc.1.1 hc.1.2]
   exact k _ F H rel (Same.refl _) (Same.refl _) Rep.bl
  ·cases e
 ·cases e
end P
namespace P
open PySem PySem.Spec PyProof.Rows L2 M2 M3 M4
def lH{x:Int}{n:Nat}(h1: -(2 ^ n:Int)<x)(h2:x<2 ^ n):bits x<=n:=by
 refine intBits_le_iff.mpr ?_
 have e:((2 ^ n:Nat):Int)=(2:Int) ^ n:=by simp
 have:((x.natAbs:Nat):Int)<((2 ^ n:Nat):Int):=by rw[e];omega
 omega
def ZeU{x y:Int}(h:y≠0)(h1: -18446744073709551616<y)(h2:y<18446744073709551616):iI x y=true:=zM h (Nat.le_trans (lH (n:=64) (by omega) (by omega)) (by decide))
@[simp] theorem Zga{x:Int}{n:Nat}(h:n≠0)(h2:n<18446744073709551616):iI x (no_index (OfNat.ofNat n):Int)=true:=by
  have e:(no_index (OfNat.ofNat n):Int)=(n:Int):=rfl
  rw[e]
  exact ZeU (by omega) (by omega) (by omega)
@[simp] theorem ZeV{x:Int}{n:Nat}(h:n<18446744073709551616):ō x (no_index (OfNat.ofNat n):Int)=true:=by
  have e:(no_index (OfNat.ofNat n):Int)=(n:Int):=rfl
  rw[e]
  exact mul_r (by omega) (by omega)
@[simp] theorem ZeW{x:Int}{n:Nat}(h:n<18446744073709551616):ō (no_index (OfNat.ofNat n):Int) x=true:=by
  have e:(no_index (OfNat.ofNat n):Int)=(n:Int):=rfl
  rw[e]
  exact bh (by omega) (by omega)
@[simp] theorem Zgb{m n:Nat}(h:m<18446744073709551616)(h2:n≤1000000):uR (no_index (OfNat.ofNat m):Int) (no_index (OfNat.ofNat n):Int)=true:=by
  have e:(no_index (OfNat.ofNat m):Int)=(m:Int):=rfl
  have e2:(no_index (OfNat.ofNat n):Int)=(n:Int):=rfl
  rw[e,e2]
  unfold uR
  simp
  omega
@[simp] theorem ZeX{x:Int}{n:Nat}:x.fdiv (no_index (OfNat.ofNat n):Int)=x / (no_index (OfNat.ofNat n):Int):=Int.fdiv_eq_ediv_of_nonneg x (Int.natCast_nonneg n)
@[simp] theorem ZeY{x:Int}{n:Nat}:x.fmod (no_index (OfNat.ofNat n):Int)=x % (no_index (OfNat.ofNat n):Int):=Int.fmod_eq_emod_of_nonneg x (Int.natCast_nonneg n)
end P
namespace P
open PySem PySem.Spec PyProof.Rows L2 M2 M3 M4
def add_l{xs ys:List PV}(h:xs.length+ys.length<=16777216):ģ (.lst xs) (.lst ys)=some (.ow (xs++ys)):=by
 unfold ģ
 simp[h]
def Zcg{x y z w:Int}:eqB (.tup [.int x,.int y]) (.tup [.int z,.int w])=(decide (x=z) && decide (y=w)):=by
 rw[eqB.eq_def]
 show fY [.int x,.int y] [.int z,.int w]=_
 rw[fY.eq_def]
 show(eqB (.int x) (.int z) && fY [.int y] [.int w])=_
 rw[fY.eq_def]
 show(eqB (.int x) (.int z) && (eqB (.int y) (.int w) && fY [] []))=_
 have h1:eqB (.int x) (.int z)=decide (x=z):=by rw[eqB.eq_def];rfl
 have h2:eqB (.int y) (.int w)=decide (y=w):=by rw[eqB.eq_def];rfl
 have h3:fY [] []=true:=by rw[fY.eq_def]
 rw[h1,h2,h3,Bool.and_true]
mutual
theorem zY:∀p:PV,aj p=true->eqB p p=true
 | .non,_=>by unfold eqB;rfl
 | .bl b,_=>by unfold eqB;simp
 | .int i,_=>by unfold eqB;simp
 | .str x,_=>by unfold eqB;simp
 | .lst xs,h=>by unfold aj at h;unfold eqB;exact nG xs h
 | .tup xs,h=>by unfold aj at h;unfold eqB;exact nG xs h
 | .ins _ _ _,h=>by simp[aj] at h
 | .xc _ _ _,h=>by simp[aj] at h
 | .ty _,h=>by simp[aj] at h
 | .cls _,h=>by simp[aj] at h
theorem nG:∀ps:List PV,aX ps=true->fY ps ps=true
 | [],_=>by unfold fY;rfl
 |p::ps,h=>by
  unfold aX at h
  rw[Bool.and_eq_true] at h
  unfold fY
  rw[zY p h.1,nG ps h.2]
  rfl
end
def vf{p:PV}(h:aj p=true)(hd:dep p<=60):aH p p=some (.bl false):=by
 unfold aH um
 rw[h,zY p h,decide_eq_true (by omega:min (dep p) (dep p)<=60)]
 rfl
def bY{a b:Str}(ha:PyData.strOk a=true)(hb:PyData.strOk b=true):ŧ (.str a) (.str b)=some (.bl (decide (a=b))):=by
 have h:eqB (.str a) (.str b)=decide (a=b):=by unfold eqB;rfl
 unfold ŧ um
 rw[show aj (.str a)=true by unfold aj;exact ha,show aj (.str b)=true by unfold aj;exact hb,h]
 rfl
def Lk{a b:Str}(ha:PyData.strOk a=true)(hb:PyData.strOk b=true):aH (.str a) (.str b)=some (.bl (!decide (a=b))):=by
 have h:eqB (.str a) (.str b)=decide (a=b):=by unfold eqB;rfl
 unfold aH um
 rw[show aj (.str a)=true by unfold aj;exact ha,show aj (.str b)=true by unfold aj;exact hb,h]
 rfl
end P
namespace P
open PySem PySem.Spec PyProof.Rows L2 M2 M3 M4
section
variable{g:Tg}{mb:M Fl}{mt:M Bool}{me:M PV}
theorem bL{α β:Type}(c:α->PV)(step:β->α->β)(J:β->ŋ->Prop):∀(xs:List α),(∀x∈xs,∀b ρ,J b ρ->∃ρ1 ρ2,g (c x) ρ=some ρ1/\mb ρ1=.ok .nx ρ2/\J (step b x) ρ2)->∀b ρ,J b ρ->∃ρ',forL g mb (xs.map c) ρ=.ok .nx ρ'/\J (xs.foldl step b) ρ'
 | [],_,b,ρ,h=>⟨ρ,rfl,h⟩
 |x::xs,hs,b,ρ,h=>by
  obtain⟨ρ1,ρ2,h1,h2,h3⟩:=hs x (by simp) b ρ h
  obtain⟨ρ',e,h4⟩:=bL c step J xs (λy hy=>hs y (List.mem_cons_of_mem _ hy)) (step b x) ρ2 h3
  refine⟨ρ',?_,h4⟩
  rw[List.map_cons,forL,h1]
  dsimp only
  rw[h2]
  exact e
theorem bM{α γ:Type}(c:α->PV)(t:α->Option γ)(v:γ->RV)(J:ŋ->Prop):∀(xs:List α),(∀x∈xs,∀ρ,J ρ->∃ρ1,g (c x) ρ=some ρ1/\((∃r ρ2,t x=some r/\mb ρ1=.ok (.rt (v r)) ρ2)\/(∃ρ2,t x=none/\mb ρ1=.ok .nx ρ2/\J ρ2)))->∀ρ,J ρ->
 (∃r ρ',xs.findSome? t=some r/\forL g mb (xs.map c) ρ=.ok (.rt (v r)) ρ')\/(∃ρ',xs.findSome? t=none/\forL g mb (xs.map c) ρ=.ok .nx ρ'/\J ρ')
 | [],_,ρ,h=>.inr ⟨ρ,rfl,rfl,h⟩
 |x::xs,hs,ρ,h=>by
  obtain⟨ρ1,h1,h2⟩:=hs x (by simp) ρ h
  rcases h2 with⟨r,ρ2,e1,e2⟩|⟨ρ2,e1,e2,e3⟩
  ·refine .inl ⟨r,ρ2,by rw[List.findSome?_cons,e1],?_⟩
   rw[List.map_cons,forL,h1]
   dsimp only
   rw[e2]
   rfl
  ·have hf:List.findSome? t (x::xs)=List.findSome? t xs:=by rw[List.findSome?_cons,e1]
   have hl:forL g mb ((x::xs).map c) ρ=forL g mb (xs.map c) ρ2:=by
    rw[List.map_cons,forL,h1]
    dsimp only
    rw[e2]
    rfl
   rw[hf,hl]
   exact bM c t v J xs (λy hy=>hs y (List.mem_cons_of_mem _ hy)) ρ2 e3
theorem bB{α:Type}(c f:α->PV)(q:α->Bool)(I:ŋ->Prop):∀(xs:List α) (ρ:ŋ) (acc:List PV),I ρ->acc.length+xs.length<=16777216->
 (∀x∈xs,∀ρ,I ρ->∃ρ1 ρ2,g (c x) ρ=some ρ1/\mt ρ1=.ok (q x) ρ2/\(q x=false->I ρ2)/\(q x=true->∃ρ3,me ρ2=.ok (f x) ρ3/\I ρ3))->Ľ g mt me (xs.map c) ρ acc=some (acc++(xs.filter q).map f)
 | [],ρ,acc,_,_,_=>by simp[Ľ]
 |x::xs,ρ,acc,h,hz,hs=>by
  obtain⟨ρ1,ρ2,h1,h2,h3,h4⟩:=hs x List.mem_cons_self ρ h
  cases e:q x with
  |true=>
   obtain⟨ρ3,h5,h6⟩:=h4 e
   rw[e] at h2
   rw[List.map_cons,Ľ,h1]
   dsimp only
   rw[h2]
   dsimp only
   rw[h5]
   dsimp only
   rw[if_pos (by simp at hz;omega),bB c f q I xs ρ3 (acc ++ [f x]) h6 (by simp at hz ⊢;omega) λy hy=>hs y (List.mem_cons_of_mem _ hy)]
   simp[e]
  |false=>
   rw[e] at h2
   rw[List.map_cons,Ľ,h1]
   dsimp only
   rw[h2]
   dsimp only
   rw[bB c f q I xs ρ2 acc (h3 e) (by simp at hz ⊢;omega) λy hy=>hs y (List.mem_cons_of_mem _ hy)]
   simp[e]
end
end P
namespace P
open PySem PySem.Spec PyProof.Rows L2 M2 M3 M4
def ZhM(K:PySem.W.Frag)(n:Nat)(t:Jb):TG:=λv σ H Q=>∃a xs,v=.ref a/\ų K H a xs/\xs.length=n/\t xs σ H Q
section
variable{X:Cx}{cm:String->Addr}{pos:Pos}
def Zch{es:List Expr}{k:Nat}{t:Jb}{n:Nat}(hc:X.calm=true)(h:Bl X es t)
 (hn:(assignEach es X.env).length=n:=by rfl)(hst:(assignEach es X.env).findIdx? (·.1)=none:=by rfl):PG X (.Tuple es k pos) (ZhM X.K n t):=by
 intro pins s σ H v u Q I r hw
 obtain⟨a,xs,e1,hq,hl,hw⟩:=hw
 subst e1
 cases r
 obtain⟨its,rv,ht,hz⟩:=I.list hq
 rw[assign_Tuple]
 refine wpAny_bind (wpAny_standAt ?_)
 unfold unpack
 rw[show(assignEach es X.env).length=its.toArray.size by simp[hn,<-hl,rv.length],hst]
 refine wpAny_bind (wpAny_holding (PySem.W.kun_itemsOf (I.ok.hd hc) ht.isList λh' hx=>?_))
 have I1:Inv X pins σ H {s with heap:=h'}:=I.kept (t':=s.toks) λb o e=>hx b o (Nat.ne_of_lt (Heap.lt_size e)) e
 exact h pins _ σ H xs _ Q I1 (by simpa using rv) hw
def gS(n:Nat)(gs:Io):Tg:=λp ρ=>match p with
 | .tup ps=>if ps.length=n then gs ps ρ else none
 | .lst ps=>if ps.length=n then gs ps ρ else none
 |_=>none
@[simp] theorem ZhN{n:Nat}{gs:Io}{ps:List PV}{ρ:ŋ}:gS n gs (.tup ps) ρ=if ps.length=n then gs ps ρ else none:=rfl
@[simp] theorem ZhO{n:Nat}{gs:Io}{ps:List PV}{ρ:ŋ}:gS n gs (.lst ps) ρ=if ps.length=n then gs ps ρ else none:=rfl
def zZ{es:List Expr}{k:Nat}{gs:Io}{n:Nat}(hc:X.calm=true)(h:Bl X es (tTs (kk X cm) gs))(hn:(assignEach es X.env).length=n:=by rfl)(hst:(assignEach es X.env).findIdx? (·.1)=none:=by rfl):PG X (.Tuple es k pos) (tT (kk X cm) (gS n gs)):=by
 intro pins s σ H v u Q I r hw
 obtain⟨c,F,ρ,p,rel,rp,hw⟩:=hw
 cases p with
 |tup ps=>
  unfold Rep at rp
  obtain⟨a,xs,h1,h2,h3⟩:=rp
  unfold gS at hw
  dsimp only at hw
  split at hw
  ·rename_i hl
   exact Jd hc h hn hst pins s σ H v u Q I r ⟨a,xs,h1,Same.tup rel.sub h2,by rw[<-h3.length];exact hl,c,F,ρ,ps,rel,h3,hw⟩
  ·exact hw.elim
 |lst ps=>
  unfold Rep at rp
  obtain⟨a,xs,h1,h2,h3⟩:=rp
  unfold gS at hw
  dsimp only at hw
  split at hw
  ·rename_i hl
   exact Zch hc h hn hst pins s σ H v u Q I r ⟨a,xs,h1,rel.sub.seq h2,by rw[<-h3.length];exact hl,c,F,ρ,ps,rel,h3,hw⟩
  ·exact hw.elim
 |_=>exact hw.elim
end
end P
namespace P
open PySem PySem.Spec PyProof.Rows L2 M2 M3 M4
section
variable{X:Cx}{cm:String->Addr}{E:L2.St->XK}{a:Expr}{p p1 pos pos1:Pos}{mr:M (List PV)}
end
end P
namespace P
open PySem PySem.Spec PyProof.Rows L2 M2 M3 M4
section
variable{X:Cx}{cm:String->Addr}{E:L2.St->XK}{e o:Expr}{es:List Expr}{pos:Pos}{m:M Bool}{mo:M RV}{ma:M PV}
@[simp] theorem ZhP{ps qs:List PV}:(RV.ot ps qs).val=.tup (ps ++ [.lst qs]):=rfl
@[simp] theorem ZhQ{ps qs:List PV}:(RV.ot ps qs).slot=.ot ps qs:=rfl
end
end P
namespace P
open PySem PySem.Spec PyProof.Rows L2 M2 M3 M4
section
variable{X:Cx}{K:KK}
end
end P
namespace P
open PySem PySem.Spec PyProof.Rows L2 M2 M3 M4
section
variable{K:KK}{c c':Ctx}{F F' H H':Hp}{σ:L2.St}{ρ:ŋ}
end
section
variable{X:Cx}{cm:String->Addr}{E:L2.St->XK}{elt tg iter:Expr}{ifs:List Expr}{scope:Scope}{pos:Pos}{mi:M (List PV)}{g:Tg}{mt:M Bool}{me:M RV}
end
section
variable{K:KK}{c:Ctx}{F H:Hp}{σ:L2.St}{ρ:ŋ}
end
section
variable{X:Cx}{cm:String->Addr}{E:L2.St->XK}{e:Expr}{es:List Expr}{m:M Bool}{mv:M PV}{ms:M (List Slot)}
end
end P
namespace P
open PySem PySem.Spec PyProof.Rows L2 M2 M3 M4
section
variable{X:Cx}{K:KK}
end
section
variable{ρ:ŋ}{i x j:Nat}{m:M Bool}{mv:M PV}{ms:M (List Slot)}{mp:M (List (List PV))}{g:Tg}{mt:M Bool}{me:M RV}{mi:M (List PV)}{js:List Nat}{nl:Nat}
end
end P
namespace P
open PySem PySem.Spec PyProof.Rows L2 M2 M3 M5
def lamP(js:List Nat)(ρ:ŋ)(p:PV):ŋ:=js.map (λ(j:Nat)=>bV ((ρ[j]?).getD .no)) ++ [.sh p]
def z_(js:List Nat)(me:M PV)(ρ:ŋ):List PV->Option (List Int)
 | []=>some []
 |p::ps=>match me (lamP js ρ p) with
  | .ok (.int k) _=>(z_ js me ρ ps).map (k:: ·)
  |_=>none
def kh(p:PV)(k:Int):List PV->List Int->PV
 |q::qs,m::ms=>if m<k then kh q m qs ms else kh p k qs ms
 |_,_=>p
def ju:List PV->List Int->Option PV
 |p::ps,k::ks=>some (kh p k ps ks)
 |_,_=>none
def Lp(js:List Nat)(me:M PV)(mr:M (List PV)):M PV:=λρ=>(mr ρ).bind λps ρ1=>match ps with
 | [.lst items]=>match z_ js me ρ1 items with
   |some ks=>Res.n_ (ju items ks) ρ1
   |none=>.bad
 |_=>.bad
theorem vg{js:List Nat}{me:M PV}{ρ:ŋ}:∀{items:List PV} {ks:List Int},z_ js me ρ items=some ks->ks.length=items.length/\∀(k:Nat) (p:PV),items[k]?=some p->∃ρ',me (lamP js ρ p)=.ok (.int (ks.getD k 0)) ρ'
 | [],ks,h=>by
   cases(show some []=some ks from h)
   exact⟨rfl,λk p z=>by simp at z⟩
 |q::r,ks,h=>by
  have h':(match me (lamP js ρ q) with
   | .ok (.int k) _=>(z_ js me ρ r).map (k:: ·)
   |_=>none)=some ks:=h
  split at h'
  ·rename_i k ρ' e
   cases e2:z_ js me ρ r with
   |none=>rw[e2] at h';cases h'
   |some ks'=>
    rw[e2] at h'
    cases(show some (k::ks')=some ks from h')
    obtain⟨h1,h2⟩:=vg e2
    refine⟨by simp[h1],λn p hp=>?_⟩
    cases n with
    |zero=>
     simp at hp
     subst hp
     exact⟨ρ',e⟩
    |succ n=>
     simp at hp
     simpa using h2 n p hp
  ·cases h'
theorem dG:∀{qs:List PV} {ms:List Int} {p:PV} {k:Int} {i:Nat} {x:PV},ms.length=qs.length->(p::qs)[i]?=some x->(∀j,j<(p::qs).length->(k::ms).getD i 0<=(k::ms).getD j 0/\(j<i->(k::ms).getD i 0<(k::ms).getD j 0))->kh p k qs ms=x
 | [],[],p,k,i,x,_,hx,_=>by
   cases i with
   |zero=>simpa[kh] using hx
   |succ i=>simp at hx
 | [],_::_,_,_,_,_,h,_,_=>by simp at h
 |_::_,[],_,_,_,_,h,_,_=>by simp at h
 |q::qs,m::ms,p,k,i,x,hl,hx,hb=>by
  have hl':ms.length=qs.length:=by simpa using hl
  unfold kh
  by_cases hm:m<k
  ·rw[if_pos hm]
   cases i with
   |zero=>
    have:=(hb 1 (by simp)).1
    simp at this
    omega
   |succ i=>
    refine dG (i:=i) hl' (by simpa using hx) λj hj=>?_
    have:=hb (j+1) (by simpa using hj)
    refine⟨by simpa using this.1,λhji=>by simpa using this.2 (by omega)⟩
  ·rw[if_neg hm]
   cases i with
   |zero=>
    refine dG (i:=0) hl' (by simpa using hx) λj hj=>?_
    cases j with
    |zero=>exact⟨Int.le_refl _,λz=>absurd z (Nat.lt_irrefl _)⟩
    |succ j=>
     have:=hb (j+1+1) (by simpa using hj)
     exact⟨by simpa using this.1,λz=>absurd z (by omega)⟩
   |succ i=>
    cases i with
    |zero=>
     have:=(hb 0 (by simp)).2 (by omega)
     simp at this
     omega
    |succ i=>
     refine dG (i:=i+1) hl' (by simpa using hx) λj hj=>?_
     cases j with
     |zero=>
      have:=hb 0 (by simp)
      exact⟨by simpa using this.1,λ_=>by simpa using this.2 (by omega)⟩
     |succ j=>
      have:=hb (j+1+1) (by simpa using hj)
      exact⟨by simpa using this.1,λz=>by simpa using this.2 (by omega)⟩
def lJ{items:List PV}{ks:List Int}{i:Nat}{x b:PV}(hl:ks.length=items.length)(h:ju items ks=some b)(hx:items[i]?=some x)(hb:∀j,j<items.length->ks.getD i 0<=ks.getD j 0/\(j<i->ks.getD i 0<ks.getD j 0)):b=x:=by
 cases items with
 |nil=>simp at hx
 |cons p ps=>
  cases ks with
  |nil=>simp at hl
  |cons k ks=>
   have h':kh p k ps ks=b:=Option.some.inj h
   rw[<-h']
   exact dG (by simpa using hl) hx hb
section
variable{K:KK}{c:Ctx}{F H:Hp}{σ:L2.St}{ρ:ŋ}
theorem Gr.refl(s:Same F H):Gr F H F H:=⟨Same.refl _,Same.refl _,s,λ_ _ z=>z⟩
theorem Gr.trans{F1 H1 F2 H2:Hp}(a:Gr F H F1 H1)(b:Gr F1 H1 F2 H2):Gr F H F2 H2:=
 ⟨a.h.trans b.h,a.f.trans b.f,b.sub,fun x hx hf=>b.out x (fun z=>by
   cases q:H x with
   |none=>exact hx q
   |some u=>rw[a.h x u q] at z;cases z) (a.out x hx hf)⟩
def Rel.lam(js:List Nat)(rel:Rel K c F H σ ρ){p:PV}{v:V}(hp:Rep K F p v):Rel K (ctx0 F H) F H (eZ js σ v) (lamP js ρ p) where
 sub:=rel.sub
 base:=Same.refl _
 f0:=Same.refl _
 fL:=λ_ _ z=>z
 lent:=λa u e=>dU e
 lb:=fun a e=>by
   cases q:(ctx0 F H).L a with
   |none=>rfl
   |some u=>
    have e':H a=none:=e
    rw[(dU q).1] at e'
    cases e'
 len:=by simp[eZ,lamP]
 slot:= λi s e=>by
  unfold lamP at e
  by_cases hi:i<js.length
  ·rw[List.getElem?_append_left (by simpa using hi),List.getElem?_map] at e
   cases ej:js[i]? with
   |none=>rw[ej] at e;cases e
   |some j=>
    rw[ej] at e
    have e':bV ((ρ[j]?).getD .no)=s:=Option.some.inj e
    subst e'
    have hx:((eZ js σ v)[i]?).getD none=(σ[j]?).getD none:=by
     unfold eZ
     rw[List.getElem?_append_left (by simpa using hi),List.getElem?_map,ej]
     rfl
    rw[hx]
    cases er:ρ[j]? with
    |none=>trivial
    |some sl=>
     have q:=rel.slot j sl er
     cases sl with
     |no=>trivial
     |sh p=>exact q
     |ow ps=>
      obtain⟨a,vs,h1,h2,h3,h4,h5⟩:=q
      refine⟨a,vs,h1,?_,h5⟩
      show(match F a with|none=>H a|some _=>none)=_
      rw[h3]
      exact h2
     |bw ps=>
      obtain⟨a,vs,h1,h2,h3⟩:=q
      obtain⟨l1,l2⟩:=rel.lent a _ h2
      refine⟨a,vs,h1,?_,h3⟩
      show(match F a with|none=>H a|some _=>none)=_
      rw[l2]
      exact l1
     |rc C ns ps=>trivial
     |ot ps qs=>trivial
     |ol Fx=>trivial
  ·have hi2:i=js.length:=by
    have l2:=(List.getElem?_eq_some_iff.mp e).1
    simp at l2
    omega
   subst hi2
   rw[List.getElem?_append_right (by simp)] at e
   have e':Slot.sh p=s:=by simpa using e
   subst e'
   have hx:((eZ js σ v)[js.length]?).getD none=some v:=by
    unfold eZ
    rw[List.getElem?_append_right (by simp)]
    simp
   rw[hx]
   exact⟨v,rfl,hp⟩
 sep:=λi j a h1 _=>by
  exfalso
  obtain⟨s,y,h1,_,h2⟩:=h1
  have h2:=nq h2
  unfold lamP at h1
  by_cases hi:i<js.length
  ·rw[List.getElem?_append_left (by simpa using hi),List.getElem?_map] at h1
   cases ej:js[i]? with
   |none=>rw[ej] at h1;cases h1
   |some j=>
    rw[ej] at h1
    have e':bV ((ρ[j]?).getD .no)=s:=Option.some.inj h1
    subst e'
    cases er:ρ[j]? with
    |none=>rw[er] at h2;cases h2
    |some sl=>rw[er] at h2;cases sl<;>cases h2
  ·have hi2:i=js.length:=by
    have l2:=(List.getElem?_eq_some_iff.mp h1).1
    simp at l2
    omega
   subst hi2
   rw[List.getElem?_append_right (by simp)] at h1
   have e':Slot.sh p=s:=by simpa using h1
   subst e'
   cases h2
end
section
variable{X:Cx}{cm:String->Addr}{E:L2.St->XK}{x px:Str}{c Pt:Addr}{params:Arguments}{body e:Expr}{scope:Scope}{p pos QL kpos:Pos}{mr:M (List PV)}{me:M PV}
def Zci{k:Nat}(N0:List Str)(js:List Nat)(sc:Scope)(hr:ű (k+2) X.A)(hsc:X.env.scope=sc)(hcalm:X.calm=true)(hx:x∈lams)(ht:PySem.W.tabIn X.K x=some (c,Pt))(hcode:X.env.code=.ref c)(hq:X.env.qual=x ++ ".<locals>.")
 (hg:Gl X "min")(hm:X.mg "min" =none)(ha:PA X [e] (Pn (kk X cm) E mr))(he:∀cl f c' s H,ű k (Il X (N0 ++ [px]) (cP x) scope cl f c' X.A.in1 s H).A->(Il X (N0 ++ [px]) (cP x) scope cl f c' X.A.in1 s H).A.units+64<cLine->PE (Il X (N0 ++ [px]) (cP x) scope cl f c' X.A.in1 s H) body (tV (kk X cm) EF me))(hcap:eX X sc scope N0 js)(hlen:js.length=N0.length:=by rfl)
 (hbind:∀(cl:List (Str×Addr)) (pm ctv:Value) (c':Addr) (u:Value),bindArgs (PySem.W.kla_fn "<lambda>" (cP x) params body scope cl pm (.ref c') ctv) ⟨[u],[]⟩=pure [(px,u)]:=by intros;rfl)
 (hk:scope.kind=.function:=by rfl)(hcell:∀y∈scope.names,y.2≠ .cell:=by decide +kernel)(hpx:scope.names.lookup px=some .local:=by rfl)(hco:scope.isCoroutine=false:=by rfl)(hgen:scope.isGenerator=false:=by rfl)
 (hfree:∀y∈scope.names,y.2=.free->(sc.names.lookup y.1=some .cell\/sc.names.lookup y.1=some .free):=by decide +kernel)(hdef:defaultsOf params X.env=([],[]):=by rfl)
 (hst:starEach [e] X.env=[(false,eval e X.env)]:=by exact bT rfl)(hpl:(backTo pos (starEach [e] X.env)).any (·.1)=false:=by rfl) :
 PE X (.Call (.Name "min" p) [e] [⟨some "key",.Lambda params body scope QL,kpos⟩] pos) (tV (kk X cm) E (Lp js me mr)):=λpins s σ H Q I h=>
 QM N0 js sc hsc hcalm hr.depth hx ht hcode hq hg hm ha (λcl f c' s H=>he cl f c' s H (hr.in1.deeper _) (hr.in1.deeper _).units) hcap hlen hbind hk hcell hpx hco hgen hfree hdef hst hpl pins s σ H Q I (by
  obtain⟨cc,F,ρ,rel,h⟩:=h
  refine⟨cc,F,ρ,rel,h.bind λps ρ1 vs F1 H1 ě s1 s2 q h1=>?_⟩
  split at h1
  rotate_left
  ·exact h1.elim
  rename_i items
  split at h1
  rotate_left
  ·exact h1.elim
  rename_i kl hk'
  obtain⟨kl1,kl2⟩:=vg hk'
  cases hb:ju items kl with
  |none=>rw[hb] at h1;exact h1.elim
  |some b=>
   rw[hb] at h1
   have q':Paired (rR (kk X cm) cc σ ρ1 F1 H1) [.lst items] vs:=q
   obtain⟨l,xs,rfl,hs,hr⟩:∃l xs,vs=[.ref l]/\ų X.K H1 l xs/\ĝ (kk X cm) F1 items xs:=by
    cases q' with
    |cons a b=>
     cases b
     rcases a with a|a
     ·unfold Rep at a
      obtain⟨l,xs,rfl,e1,e2⟩:=a
      exact⟨l,xs,rfl,ě.sub.seq e1,e2⟩
     ·obtain⟨l,xs,rfl,e1,e2⟩:=a
      exact⟨l,xs,rfl,ų.of e1,e2⟩
   have len:items.length=xs.length:=hr.length
   have hne:0<xs.length:=by
    rw[<-len]
    cases items with
    |nil=>simp[ju] at hb
    |cons _ _=>simp
   refine⟨l,xs,rfl,hs,hne,λc q H2 sm hc nw=>⟨λk=>kl.getD k 0,λ_ H=>∃F',Gr F1 H2 F' H,⟨F1,Gr.refl (ě.sub.trans sm)⟩,λk H ⟨F',g⟩=>g.h,λk v H hv ⟨F',g⟩=>?_,λi v H hv hbest ⟨F',g⟩=>?_⟩⟩
   ·have ļ:Rel (kk X cm) cc F1 H2 σ ρ1:=ě.call ⟨sm,Same.refl _,ě.sub.trans sm,λ_ _ z=>z⟩
    have hki:k<items.length:=by rw[len];exact(List.getElem?_eq_some_iff.mp hv).1
    obtain⟨ρ',hme⟩:=kl2 k items[k] (List.getElem?_eq_getElem hki)
    obtain⟨v',hv',rv⟩:=bJ hr.pr (List.getElem?_eq_getElem hki)
    rw[hv] at hv'
    cases hv'
    refine⟨ctx0 F' H,F',lamP js ρ1 items[k],(ļ.call g).lam js (Rep.same g.f _ _ rv),?_⟩
    rw[hme]
    intro y F2 H3 lu _ _ ry
    have ry':Rep (kk X cm) F2 (.int (kl.getD k 0)) y:=ry
    unfold Rep at ry'
    exact⟨ry',F2,g.trans lu.gr⟩
   ·have ļ:Rel (kk X cm) cc F1 H2 σ ρ1:=ě.call ⟨sm,Same.refl _,ě.sub.trans sm,λ_ _ z=>z⟩
    have hii:i<items.length:=by rw[len];exact(List.getElem?_eq_some_iff.mp hv).1
    obtain⟨v',hv',rv⟩:=bJ hr.pr (List.getElem?_eq_getElem hii)
    rw[hv] at hv'
    cases hv'
    have eb:=lJ kl1 hb (List.getElem?_eq_getElem hii) (λj hj=>hbest j (by rw[<-len];exact hj))
    subst eb
    exact h1 v F' H (ļ.call g) g.f (sm.trans g.h) (Rep.same g.f _ _ rv))
end
def Zcj(K:PySem.W.Frag)(x:Str)(f:Addr):Bool:=PySem.W.nsIn K mainGlobals x== some (some (.ref f)) && (PySem.W.tabIn K x).isSome
section
variable{P:Program}{w:World}{K:PySem.W.Frag}{cm:String->Addr}{mg:Str->Option Value}{base:Heap}{CX:mY}
def Rz{x qual:Str}{st:Stmt}{f:Addr}{fd:FuncData}(F:Jw K x qual st f fd){c Pt:Addr}(h:PySem.W.nsIn K mainGlobals x=some (some (.ref f)))(ht:PySem.W.tabIn K x=some (c,Pt)):fd.code=.ref c:=by
 obtain⟨oc,od,kV,doc,pm,an,cdv,ct,osl,rfl,lk,hcd⟩:=F.ex
 unfold PySem.W.tabIn at ht
 split at ht
 ·rename_i f2 hf
  rw[h] at hf
  cases hf
  split at ht
  ·rename_i hfo
   rw[lk] at hfo
   cases hfo
   split at ht
   ·rename_i c2 hc
    split at ht
    ·split at ht
     ·cases ht
      exact hc
     ·cases ht
    ·cases ht
   ·cases ht
  ·cases ht
 ·cases ht
def ZhR{x qual:Str}{st:Stmt}{f:Addr}{fd:FuncData}{N ps:List Str}{k n j:Nat}{mb:M Fl}{mf:MF}(F:Jw K x qual st f fd)(S:Ē N ps (ć st))(hn:ps.length=n)(hj:N.length=j)(hf:mf=Į n j mb)(htb:Zcj K x f=true)
 (hbody:∀(c Pt:Addr),PySem.W.tabIn K x=some (c,Pt)→∀(A:Around) (outer:List Env) (s:Shared) (H:Hp) (E:XK),ű k (A.deeper (envOfC qual (ć st) s.heap.objs.size f (.ref c)))→
   jw (qD CX P w K mg base N qual (ć st) f (.ref c) A outer s H E) (Ņ st) (tS ⟨K,cm⟩ (λ_=>E) mb)):Ħ P w K mg base CX (k+1) f fd ps (Ŗ ⟨K,cm⟩ n mf):=by
 subst hn hj hf
 unfold Zcj at htb
 simp only[Bool.and_eq_true,beq_iff_eq] at htb
 obtain⟨h1,h2⟩:=htb
 obtain⟨⟨c,Pt⟩,ht⟩:=Option.isSome_iff_exists.mp h2
 have hc:=Rz F h1 ht
 obtain⟨oc,od,kV,doc,pm,an,cdv,ct,osl,rfl,lk,hcd⟩:=id F.ex
 have hc':cdv=.ref c:=hc
 subst hc'
 refine Fe lk hcd S (λvs H Q E ⟨F,ps',h1,_,h2,_⟩=>by rw[<-Paired.length h2];exact h1) λA outer s H vs Q E hr hsp=>?_
 obtain⟨F,ps',h1,h2,h3,h4⟩:=hsp
 refine⟨_,hbody c Pt ht A outer s H E hr,ctx0 F H,F,startP N.length ps',Rel.start h2 h3,?_⟩
 unfold Į at h4
 rw[if_pos h1] at h4
 cases e:mb (startP N.length ps') with
 |bad=>rw[e] at h4;exact h4
 |exc x ρ'=>rw[e] at h4;exact λσ' C d F' H' rel s1 q=>h4 C d F' H' rel.gr q
 |ok fl ρ'=>
  rw[e] at h4
  cases fl with
  |nx=>exact λσ' F' H' rel s1=>h4 .non F' H' rel.gr (Rep.non (K:=⟨K,cm⟩) (F:=F'))
  |bk=>exact h4.elim
  |ct=>exact h4.elim
  |rt r=>
   intro v σ' F' H' rel s1 q
   refine h4 v F' H' rel.gr ?_
   cases r with
   |sh p=>exact q
   |ow qs=>
    obtain⟨a,vs',e1,e2,e3,e4,_,e5⟩:=q
    exact⟨a,vs',e1,e2,e3,e4,e5⟩
   |ot qs ts=>
    obtain⟨p,a,xs,vs',e1,e0,ex,e2,e3,e4,_,e5⟩:=q
    exact⟨p,a,xs,vs',e1,e0,ex,e2,e3,e4,e5⟩
structure Zck(K:PySem.W.Frag)(x qual:Str)(st:Stmt)(f:Addr)(fd:FuncData):Prop where
 ex:∃(oc:Value) (od:Option Addr) (dV kV doc pm:Value) (an:Option Addr) (cdv ct:Value) (osl:Array (Option Value)),
   fd=PySem.W.fnOf x qual (ř st) (Ņ st) (ć st) dV kV doc pm an cdv ct/\K.lookup f=some ⟨oc,od,.func fd,osl⟩/\PySem.W.codeIn K cdv qual=true
 kp:PySem.W.keepIn K (.ref f)=true
def RD{x qual:Str}{st:Stmt}{f:Addr}{oc:Value}{od an:Option Addr}{osl:Array (Option Value)}{dV kV doc pm cdv ct:Value}(l:K.lookup f=some ⟨oc,od,.func (PySem.W.fnOf x qual (ř st) (Ņ st) (ć st) dV kV doc pm an cdv ct),osl⟩)
 (c:PySem.W.codeIn K cdv qual=true)(k:PySem.W.keepIn K (.ref f)=true):Zck K x qual st f (PySem.W.fnOf x qual (ř st) (Ņ st) (ć st) dV kV doc pm an cdv ct):=⟨⟨oc,od,dV,kV,doc,pm,an,cdv,ct,osl,rfl,l,c⟩,k⟩
def ZhS{x qual:Str}{st:Stmt}{f:Addr}{fd:FuncData}{N ps:List Str}{k n j:Nat}{mb:M Fl}{mf:MF}(F:Zck K x qual st f fd)(S:Ē N ps (ć st))(hn:ps.length=n)(hj:N.length=j)(hf:mf=Į n j mb)
 (hbody:∀(cdv:Value) (A:Around) (outer:List Env) (s:Shared) (H:Hp) (E:XK),ű k (A.deeper (envOfC qual (ć st) s.heap.objs.size f cdv))→
   jw (qD CX P w K mg base N qual (ć st) f cdv A outer s H E) (Ņ st) (tS ⟨K,cm⟩ (λ_=>E) mb)):Ħ P w K mg base CX (k+1) f fd ps (Ŗ ⟨K,cm⟩ n mf):=by
 subst hn hj hf
 obtain⟨oc,od,dV,kV,doc,pm,an,cdv,ct,osl,rfl,lk,hcd⟩:=F.ex
 refine Fe lk hcd S (λvs H Q E ⟨F,ps',h1,_,h2,_⟩=>by rw[<-Paired.length h2];exact h1) λA outer s H vs Q E hr hsp=>?_
 obtain⟨F,ps',h1,h2,h3,h4⟩:=hsp
 refine⟨_,hbody cdv A outer s H E hr,ctx0 F H,F,startP N.length ps',Rel.start h2 h3,?_⟩
 unfold Į at h4
 rw[if_pos h1] at h4
 cases e:mb (startP N.length ps') with
 |bad=>rw[e] at h4;exact h4
 |exc x ρ'=>rw[e] at h4;exact λσ' C d F' H' rel s1 q=>h4 C d F' H' rel.gr q
 |ok fl ρ'=>
  rw[e] at h4
  cases fl with
  |nx=>exact λσ' F' H' rel s1=>h4 .non F' H' rel.gr (Rep.non (K:=⟨K,cm⟩) (F:=F'))
  |bk=>exact h4.elim
  |ct=>exact h4.elim
  |rt r=>
   intro v σ' F' H' rel s1 q
   refine h4 v F' H' rel.gr ?_
   cases r with
   |sh p=>exact q
   |ow qs=>
    obtain⟨a,vs',e1,e2,e3,e4,_,e5⟩:=q
    exact⟨a,vs',e1,e2,e3,e4,e5⟩
   |ot qs ts=>
    obtain⟨p,a,xs,vs',e1,e0,ex,e2,e3,e4,_,e5⟩:=q
    exact⟨p,a,xs,vs',e1,e0,ex,e2,e3,e4,e5⟩
def CP{x qual:Str}{st:Stmt}{ps:List Str}{T:Addr}{oT:Obj}{items:Array Value}{nT:Nat}{kV doc pm:Value}{an:Option Addr}{cdv ct:Value}(hT:K.lookup T=some oT)(hs:oT.data=.seq items nT)
 (h:∀us:List Value,us.length=ps.length->∃k:Option (Array Value)->Sem (List (Str×Value)),bindArgs (PySem.W.fnOf x qual (ř st) (Ņ st) (ć st) (.ref T) kV doc pm an cdv ct) ⟨us,[]⟩=seqItems? (.ref T) >>= k/\k (some items)=pure (ps.zip us)) :
 Binds K (PySem.W.fnOf x qual (ř st) (Ņ st) (ć st) (.ref T) kV doc pm an cdv ct) ps []:=λs us X hl=>by
 rw[List.append_nil] at hl ⊢
 obtain⟨k,h1,h2⟩:=h us hl
 exact PySem.W.binds_K X rfl hT hs h1 h2
end
section
variable{js:List Nat}{me:M PV}{mr:M (List PV)}{ρ:ŋ}
theorem RJ:Lp js me mr ρ=(mr ρ).bind λps ρ1=>match ps with
 | [.lst items]=>match z_ js me ρ1 items with
   |some ks=>Res.n_ (ju items ks) ρ1
   |none=>.bad
 |_=>.bad:=rfl
end
end P
namespace P
open PySem PySem.Spec PyProof.Rows L2 M2 M3 M5
def ZeZ(K:PySem.W.Frag):R2:=λx y H Q=>∃a b xs,x=.ref a/\y=.ref b/\ų K H a xs/\ų K H b []/\Q (.bl (!xs.isEmpty)) H
def Zcl{X:Cx}(hu:X.A.units+64<cLine):Ű X (compareOp .NotEq) (ZeZ X.K):=by
 intro pins s σ H x y v u Q I rx ry h
 obtain⟨a,b,xs,rfl,rfl,h1,h2,q⟩:=h
 cases rx
 cases ry
 obtain⟨its,rv,⟨o,n,e,hc,hdd,hd⟩,hz⟩:=I.list h1
 obtain⟨its',rv',⟨o',n',e',hc',Zib,hd'⟩,hz'⟩:=I.list h2
 have l:=rv.length
 have l':=rv'.length
 cases xs with
 |nil=>
  cases rv
  cases rv'
  exact PySem.SeqAt.RcNeAt.lists (e:=λ_=>true) ⟨o,e,hc,n,hd⟩ ⟨o',e',hc',n',hd'⟩ rfl (by omega) (λj j1 _=>absurd j1 (Nat.not_lt_zero _)) _ _ _ _ ⟨.bl _,H,I,rfl,q⟩
 |cons x xs=>
  exact PySem.SeqAt.RcNeAt.lists_lengths ⟨o,e,hc,n,hd⟩ ⟨o',e',hc',n',hd'⟩ (by simp at l l' ⊢;omega) (by omega) _ _ _ _ ⟨.bl _,H,I,rfl,q⟩
def Gp(p q:PV):Option PV:=match p,q with
 | .lst xs,.lst []=>some (.bl (!xs.isEmpty))
 |_,_=>none
theorem Aa{K:KK}{F:Hp}:∀{ps:List PV} {vs:List V},ĝ K F ps vs->vs.isEmpty=ps.isEmpty
 | [],vs,h=>by unfold ĝ at h;rw[h];rfl
 |p::ps,vs,h=>by
  unfold ĝ at h
  obtain⟨x,t,rfl,_,_⟩:=h
  rfl
def Ab{K:KK}{c:Ctx}{F H:Hp}{σ:L2.St}{ρ:ŋ}{ps:List PV}{v:V}(s:Same F H)(r:rR K c σ ρ F H (.lst ps) v):∃a vs,v=.ref a/\ų K.K H a vs/\vs.isEmpty=ps.isEmpty:=by
 rcases r with r|r
 ·unfold Rep at r
  obtain⟨a,vs,h1,h2,h3⟩:=r
  exact⟨a,vs,h1,s.seq h2,Aa h3⟩
 ·obtain⟨a,vs,h1,h3,h4⟩:=r
  exact⟨a,vs,h1,ų.of h3,Aa h4⟩
def Zcm{K:KK}:iy K (ZeZ K.K) Gp:=by
 intro c F H σ ρ p q pv v u Q rel r1 r2 e k
 unfold Gp at e
 split at e
 ·cases e
  obtain⟨a,xs,h1,h2,h3⟩:=Ab rel.sub r1
  obtain⟨b,ys,k1,k2,k3⟩:=Ab rel.sub r2
  have:ys=[]:=by simpa using k3
  subst this
  refine⟨a,b,xs,h1,k1,h2,k2,?_⟩
  rw[h3]
  exact k _ F H rel (Same.refl _) (Same.refl _) Rep.bl
 ·cases e
@[simp] theorem ZhT{xs:List PV}:Gp (.lst xs) (.lst [])=some (.bl (!xs.isEmpty)):=rfl
def Zcn{X:Cx}(hu:X.A.units+64<cLine):Ű X (compareOp .Lt) (Zbu X.K):=Zbv (by omega)
def Ac(p q:PV):Option PV:=match p,q with
 | .tup [.int a,.int b],.tup [.int c,.int d]=>some (.bl (HT.lexLt [a,b] [c,d]))
 |_,_=>none
def vh{K:KK}{cc:Ctx}{F H:Hp}{σ:L2.St}{ρ:ŋ}{a b:Int}{v:V}(s:Same F H)(r:rR K cc σ ρ F H (.tup [.int a,.int b]) v):∃p,v=.ref p/\dw K.K H p ([a,b].map V.int):=by
 rcases r with r|r
 ·unfold Rep at r
  obtain⟨p,vs,h1,h2,h3⟩:=r
  unfold ĝ at h3
  obtain⟨x,t,rfl,k1,k2⟩:=h3
  unfold ĝ at k2
  obtain⟨y,t',rfl,k3,k4⟩:=k2
  unfold ĝ at k4
  unfold Rep at k1 k3
  subst k4 k1 k3
  exact⟨p,h1,Same.tup s h2⟩
 ·exact r.elim
def Zco{K:KK}:iy K (Zbu K.K) Ac:=by
 intro cc F H σ ρ p q pv v u Q rel r1 r2 e k
 unfold Ac at e
 split at e
 ·rename_i a b c d
  cases e
  obtain⟨x,h1,h2⟩:=vh rel.sub r1
  obtain⟨y,k1,k2⟩:=vh rel.sub r2
  exact⟨x,y,_,_,h1,k1,h2,k2,k _ F H rel (Same.refl _) (Same.refl _) Rep.bl⟩
 ·cases e
def Zcp{a b c d:Int}:Ac (.tup [.int a,.int b]) (.tup [.int c,.int d])=some (.bl (HT.lexLt [a,b] [c,d])):=rfl
end P
namespace P
open PySem PySem.Spec PyProof.Rows L2 M2 M3 M5
section
variable{X:Cx}{cm:String->Addr}{E:L2.St->XK}{CX:mY}{k n:Nat}{f:Addr}{fd:FuncData}{ps:List Str}{mf:MF}{mr:M (List Slot)}{x:Str}{p pos:Pos}{e:Expr}{es:List Expr}{ds:List Value}{dvs:List V}{dps:List Slot}
end
end P
namespace P
open PySem PySem.Spec PyProof.Rows L2 M2 M3 M5
def BN:Nat->(List Value->Prop)->Prop
 |0,p=>p []
 |n+1,p=>∀u,BN n λus=>p (u::us)
theorem rm:∀{n:Nat} {p:List Value->Prop},BN n p->∀us,us.length=n->p us
 |0,p,h,[],_=>h
 |0,p,h,_::_,e=>by cases e
 |n+1,p,h,[],e=>by cases e
 |n+1,p,h,u::us,e=>rm (h u) us (Nat.succ.inj e)
structure Df(K:PySem.W.Frag)(mg:Str->Option Value)(x:Str)(st:Stmt)(ps:List Str)(f:Addr)(fd:FuncData):Prop where
 F:Jw K x x st f fd
 m:mg x=some (.ref f)
 b:Binds K fd ps []
 bb:∀(s:Shared) (us:List Value),us.length=ps.length->BindsTo s fd ⟨us,[]⟩ (ps.zip us)
structure Dm(K:PySem.W.Frag)(C:Addr)(x q:Str)(st:Stmt)(ps:List Str)(f:Addr)(fd:FuncData):Prop where
 F:Jw K x q st f fd
 b:Binds K fd ps []
structure Dd(K:PySem.W.Frag)(mg:Str->Option Value)(x:Str)(st:Stmt)(ps:List Str)(v:Int)(f:Addr)(fd:FuncData):Prop where
 F:Zck K x x st f fd
 m:mg x=some (.ref f)
 b:Binds K fd ps []
section
variable{K:PySem.W.Frag}{h:Heap}{mg:Str->Option Value}{x q:Str}{st:Stmt}{ps:List Str}{f C:Addr}{oc kV dc pm cd ct:Value}{od an:Option Addr}{sl:Array (Option Value)}
def ħ(X:K.In h)(G:h.Ns mainGlobals mg)(hb:∀(kV dc pm:Value) (an:Option Addr) (cd ct:Value),BN ps.length λus=>bindArgs (PySem.W.fnOf x x (ř st) (Ņ st) (ć st) .none kV dc pm an cd ct) ⟨us,[]⟩=pure (ps.zip us))
 (a:PySem.W.nsIn K mainGlobals x=some (some (.ref f)))(l:K.lookup f=some ⟨oc,od,.func (PySem.W.fnOf x x (ř st) (Ņ st) (ć st) .none kV dc pm an cd ct),sl⟩)(c:PySem.W.codeIn K cd x=true)(k:PySem.W.keepIn K (.ref f)=true) :
 Df K mg x st ps f (PySem.W.fnOf x x (ř st) (Ņ st) (ć st) .none kV dc pm an cd ct):=
 have F:=Jx (st:=st) l c k
 ⟨F,PySem.W.mg_of X G a,F.binds λkV dc pm an cd ct us hl=>rm (hb kV dc pm an cd ct) us hl,λs us hl=>.of_eq (rm (hb kV dc pm an cd ct) us hl)⟩
def oA(hb:∀(kV dc pm:Value) (an:Option Addr) (cd ct:Value),BN ps.length λus=>bindArgs (PySem.W.fnOf x q (ř st) (Ņ st) (ć st) .none kV dc pm an cd ct) ⟨us,[]⟩=pure (ps.zip us))
 (a:PySem.W.findIn K (.ref C) x=some (some (.ref f)))(l:K.lookup f=some ⟨oc,od,.func (PySem.W.fnOf x q (ř st) (Ņ st) (ć st) .none kV dc pm an cd ct),sl⟩)(c:PySem.W.codeIn K cd q=true)(k:PySem.W.keepIn K (.ref f)=true) :
 Dm K C x q st ps f (PySem.W.fnOf x q (ř st) (Ņ st) (ć st) .none kV dc pm an cd ct):=
 have F:=Jx (st:=st) l c k
 ⟨F,F.binds λkV dc pm an cd ct us hl=>rm (hb kV dc pm an cd ct) us hl⟩
def Ze0{v:Int}{T:Addr}{dk:Tok}{dn:Nat}{ds:Array (Option Value)}{dd:Option Addr}{dO:Value}(X:K.In h)(G:h.Ns mainGlobals mg)
 (hb:∀(dk:Tok) (kV dc pm:Value) (an:Option Addr) (cd ct:Value),BN ps.length λus=>∃k:Option (Array Value)->Sem (List (Str×Value)),bindArgs (PySem.W.fnOf x x (ř st) (Ņ st) (ć st) (.ref T) kV dc pm an cd ct) ⟨us,[]⟩=seqItems? (.ref T) >>= k/\k (some #[.int v dk])=pure (ps.zip us))
 (a:PySem.W.nsIn K mainGlobals x=some (some (.ref f)))(l:K.lookup f=some ⟨oc,od,.func (PySem.W.fnOf x x (ř st) (Ņ st) (ć st) (.ref T) kV dc pm an cd ct),sl⟩)(d:K.lookup T=some ⟨dO,dd,.seq #[.int v dk] dn,ds⟩)(c:PySem.W.codeIn K cd x=true)(k:PySem.W.keepIn K (.ref f)=true) :
 Dd K mg x st ps v f (PySem.W.fnOf x x (ř st) (Ņ st) (ć st) (.ref T) kV dc pm an cd ct):=
 ⟨RD (st:=st) l c k,PySem.W.mg_of X G a,CP d rfl λus hl=>rm (hb dk kV dc pm an cd ct) us hl⟩
end
end P
namespace P
open PySem PySem.Spec PyProof.Rows L2 M2 M3 M5
def Ũ{N ps:List Str}{sc:Scope}(h1:sc.kind=.function:=by rfl)(h2:sc.isCoroutine=false:=by rfl)(h3:sc.isGenerator=false:=by rfl)(h4:N.Nodup:=by decide +kernel)(h5:N.take ps.length=ps:=by rfl)(h6:∀x∈ps,sc.names.lookup x=some .local\/sc.names.lookup x=some .cell:=by decide +kernel)
 (h7:∀y∈sc.names,y.2≠ .free:=by decide +kernel):Ē N ps sc:=⟨h1,h2,h3,h4,h5,h6,h7⟩
section
variable{X:Cx}{cm:String->Addr}{E:L2.St->XK}{CX:mY}{k j n:Nat}{f:Addr}{fd:FuncData}{ps:List Str}{mf:MF}{mr:M (List Slot)}{x:Str}{st:Stmt}{p pos:Pos}{e:Expr}{es:List Expr}
def Ĉ(F:Ħ X.prog X.w X.K X.mg X.base CX k f fd ps (Ŗ (kk X cm) n mf))(D:Df X.K X.mg x st ps f fd)(hr:ű j X.A)(hx:fX CX X E)
 (ha:PA X (e::es) (tA (kk X cm) E mr))(hlen:∀{ps:List Slot},(∃r,mf ps=r/\∀z,r=z->z≠ .bad)->ps.length=n:=by exact ŉ)(hg:Gl X x:=by rfl)(hkj:k<=j:=by decide)(hdb:(x== ("__debug__" :Str))=false:=by decide)(he:starEach (e::es) X.env=(false,eval e X.env)::starEach es X.env:=by exact bT rfl)(hpl:(backTo pos (starEach es X.env)).any (·.1)=false:=by rfl) :
 PE X (.Call (.Name x p) (e::es) [] pos) (tO (kk X cm) E (Č mf mr)):=Kl F hlen (hr.mono hkj) hg D.m D.F.kp D.b hx ha hdb he hpl
end
section
variable{Pg:Program}{w:World}{K:PySem.W.Frag}{mg:Str->Option Value}{base:Heap}{CX:mY}{cm:String->Addr}
def ĳ{x qual:Str}{st:Stmt}{f:Addr}{fd:FuncData}{N ps:List Str}{k n j:Nat}{mb:M Fl}{mf:MF}(F:Jw K x qual st f fd)(S:Ē N ps (ć st))
 (hbody:∀(cdv:Value) (A:Around) (outer:List Env) (s:Shared) (H:Hp) (E:XK),ű k (A.deeper (envOfC qual (ć st) s.heap.objs.size f cdv))→(A.deeper (envOfC qual (ć st) s.heap.objs.size f cdv)).units+64<cLine→
   jw (qD CX Pg w K mg base N qual (ć st) f cdv A outer s H E) (Ņ st) (tS ⟨K,cm⟩ (λ_=>E) mb))(hn:ps.length=n:=by rfl)(hj:N.length=j:=by rfl)(hf:mf=Į n j mb:=by rfl):Ħ Pg w K mg base CX (k+1) f fd ps (Ŗ ⟨K,cm⟩ n mf):=
 fnQ F S hn hj hf λcdv A outer s H E hr=>hbody cdv A outer s H E hr hr.units
end
end P
namespace P
open PySem PySem.Spec PyProof.Rows L2 M2 M3 M4
section
variable{X:Cx}{cm:String->Addr}{E:L2.St->XK}{e:Expr}{m:M PV}
end
end P
namespace P
open PySem PySem.Spec PyProof.Rows L2 M2 M3 M4
def tgN:Expr->List Str
 | .Name x _=>[x]
 | .Tuple es _ _=>es.flatMap fun e=>match e with
   | .Name x _=>[x]
   |_=>[]
 |_=>[]
def cN(X:Cx)(js:List Nat)(tg:Expr):List Str:=js.map (λ(j:Nat)=>(X.N[j]?).getD "")++tgN tg
def ndB{l:List Str}(h:decide l.Nodup=true):l.Nodup:=of_decide_eq_true h
def frB{a b:Scope}(h:(a.names.all λy=>decide (y.2=.free->(b.names.lookup y.1=some .cell\/b.names.lookup y.1=some .free)))=true):∀y∈a.names,y.2=.free->(b.names.lookup y.1=some .cell\/b.names.lookup y.1=some .free):=λy hy=>of_decide_eq_true (List.all_eq_true.mp h y hy)
section
variable{X:Cx}{cm:String->Addr}{E:L2.St->XK}{elt tg iter:Expr}{ifs:List Expr}{scope:Scope}{pos:Pos}{mi:M (List PV)}{g:Tg}{mt:M Bool}{me:M PV}{js:List Nat}{nl:Nat}
end
end P
namespace P
open PySem PySem.Spec PyProof.Rows L2 M2 M3 M4
section
variable{X:Cx}
end
section
variable{X:Cx}{cm:String->Addr}{K:KK}{E:L2.St->XK}{o e:Expr}{es:List Expr}{name:Str}{apos cpos:Pos}{id:String}{r:V->List V->Hp->VK->Prop}{f:PV->List PV->Option PV}{mo:M PV}{ms:M (List PV)}
end
end P
namespace P
open PySem PySem.Spec PyProof.Rows L2 M2 M3 M4
section
variable{X:Cx}{cm:String->Addr}{E:L2.St->XK}{a b e:Expr}{es:List Expr}{ma mb m:M PV}{mo:M RV}{pos p:Pos}
def ą{i j pos}:PE X (.Constant (.int i) j pos) (tR (kk X cm) E (mC (.int i))):=Ĝ Ī
def iK{j pos}:PE X (.Constant .none j pos) (tR (kk X cm) E (mC .non)):=Ĝ zx
def lK{x j pos}:PE X (.Constant (.str x) j pos) (tR (kk X cm) E (mC (.str x))):=Ĝ ao
def Ļ(ha:PE X a (tR (kk X cm) E ma))(hb:PE X b (tR (kk X cm) E mb))(hs:qb b:=by exact λ_ _=>rfl):PE X (.Subscript a b pos) (tV (kk X cm) E (Ą Ĕ ma mb)):=ZgJ ZeA Zei ha hb hs
def ī(ha:PE X a (tR (kk X cm) E ma))(hb:PE X b (tR (kk X cm) E mb))(hs:qb b:=by exact λ_ _=>rfl):PE X (.Subscript a b pos) (tR (kk X cm) E (Ą Ĕ ma mb)):=Ĝ (Ļ ha hb hs)
def v_mod(ha:PE X a (tR (kk X cm) E ma))(hb:PE X b (tR (kk X cm) E mb)):PE X (.BinOp a .Mod b pos) (tV (kk X cm) E (Ą ı ma mb)):=Ų Zb1 ZbJ ha hb
def Ŕ(ha:PE X a (tR (kk X cm) E ma))(hb:PE X b (tR (kk X cm) E mb)):PE X (.BinOp a .Mod b pos) (tR (kk X cm) E (Ą ı ma mb)):=Ĝ (v_mod ha hb)
def v_mul(ha:PE X a (tR (kk X cm) E ma))(hb:PE X b (tR (kk X cm) E mb)):PE X (.BinOp a .Mult b pos) (tV (kk X cm) E (Ą Ĥ ma mb)):=Ų Zb4 QG ha hb
def ŕ(ha:PE X a (tR (kk X cm) E ma))(hb:PE X b (tR (kk X cm) E mb)):PE X (.BinOp a .Mult b pos) (tR (kk X cm) E (Ą Ĥ ma mb)):=Ĝ (v_mul ha hb)
def v_sub(ha:PE X a (tR (kk X cm) E ma))(hb:PE X b (tR (kk X cm) E mb)):PE X (.BinOp a .Sub b pos) (tV (kk X cm) E (Ą Ŝ ma mb)):=Ų ZbZ ZbH ha hb
def iM(ha:PE X a (tR (kk X cm) E ma))(hb:PE X b (tR (kk X cm) E mb)):PE X (.BinOp a .Sub b pos) (tR (kk X cm) E (Ą Ŝ ma mb)):=Ĝ (v_sub ha hb)
def lM(ha:PE X a (tR (kk X cm) E ma))(hb:PE X b (tR (kk X cm) E mb)):PE X (.BinOp a .FloorDiv b pos) (tV (kk X cm) E (Ą ţ ma mb)):=Ų Zb0 Qt ha hb
def dH(ha:PE X a (tR (kk X cm) E ma))(hb:PE X b (tR (kk X cm) E mb)):PE X (.BinOp a .FloorDiv b pos) (tR (kk X cm) E (Ą ţ ma mb)):=Ĝ (lM ha hb)
def gH(ha:PE X a (tR (kk X cm) E ma))(hb:PE X b (tR (kk X cm) E mb)):PE X (.BinOp a .Add b pos) (tO (kk X cm) E (Ĩ ģ ma mb)):=Zeq ZbY ZbX ha hb
def v_add(ha:PE X a (tR (kk X cm) E ma))(hb:PE X b (tR (kk X cm) E mb)):PE X (.BinOp a .Add b pos) (tV (kk X cm) E (ċ (Ĩ ģ ma mb))):=ę (gH ha hb)
def cW(ha:PE X a (tR (kk X cm) E ma))(hb:PE X b (tR (kk X cm) E mb)):PE X (.BinOp a .Add b pos) (tR (kk X cm) E (ċ (Ĩ ģ ma mb))):=Ĝ (v_add ha hb)
def t_eq(hu:X.A.units+64<cLine)(ha:PE X a (tR (kk X cm) E ma))(hb:PE X b (tR (kk X cm) E mb)):PT X (.Compare a [.Eq] [b] pos) (tB (kk X cm) E (aP (Ą ŧ ma mb))):=aq Tp (JH hu) ha hb (Ň _)
def xr(hu:X.A.units+64<cLine)(ha:PE X a (tR (kk X cm) E ma))(hb:PE X b (tR (kk X cm) E mb)):PT X (.Compare a [.NotEq] [b] pos) (tB (kk X cm) E (aP (Ą aH ma mb))):=aq Kw (Ce hu) ha hb (Ň _)
def v_eq(hu:X.A.units+64<cLine)(ha:PE X a (tR (kk X cm) E ma))(hb:PE X b (tR (kk X cm) E mb)):PE X (.Compare a [.Eq] [b] pos) (tV (kk X cm) E (Ą ŧ ma mb)):=oh Tp (JH hu) ha hb (Ň _)
def ľ(he:PE X e (tO (kk X cm) E mo)):jw X [.Return (some e) pos] (tS (kk X cm) E (Ģ mo)):=ĥ (Zeu he)
def Ł(he:PE X e (tV (kk X cm) E m)):jw X [.Return (some e) pos] (tS (kk X cm) E (Ģ (ņ m))):=ľ (ŗ he)
def rz{N ps:List Str}{sc:Scope}{i:Nat}{x:Str}{pos':Pos}(S:Ē N ps sc)(he:PE X e (tO (kk X cm) E mo))(hN:X.N=N:=by rfl)(hi:X.N[i]?=some x:=by rfl)(hx:Loc X.env.scope x:=by first|exact Or.inl rfl|exact Or.inr rfl)(hs:swapsWith e (some (.Name x pos')) pos.line X.env=pure false:=by rfl)(hf:X.fn x=true\/X.env.scope.names.lookup x=some .local:=by first|exact .inl rfl|exact .inr rfl|assumption) :
 PS X (.Assign [.Name x pos'] e pos) (tS (kk X cm) E (ġ i mo)):=Zet (hN▸S.nd) hi hx he hs hf
def ĺ{N ps:List Str}{sc:Scope}{i:Nat}{x:Str}{pos':Pos}{rest:List Stmt}{m2:M Fl}(S:Ē N ps sc)(he:PE X e (tO (kk X cm) E mo))(h2:jw X rest (tS (kk X cm) E m2))(hN:X.N=N:=by rfl)(hi:X.N[i]?=some x:=by rfl)(hx:Loc X.env.scope x:=by first|exact Or.inl rfl|exact Or.inr rfl)(hs:swapsWith e (some (.Name x pos')) pos.line X.env=pure false:=by rfl)(hf:X.fn x=true\/X.env.scope.names.lookup x=some .local:=by first|exact .inl rfl|exact .inr rfl|assumption) :
 jw X (.Assign [.Name x pos'] e pos::rest) (tS (kk X cm) E (Ė (ġ i mo) m2)):=ē (rz S he hN hi hx hs hf) h2
def Ś{N ps:List Str}{sc:Scope}{i:Nat}{x:Str}(S:Ē N ps sc)(hN:X.N=N:=by rfl)(hi:X.N[i]?=some x:=by rfl)(hx:Loc X.env.scope x:=by first|exact Or.inl rfl|exact Or.inr rfl)(hf:X.fn x=true\/X.env.scope.names.lookup x=some .local:=by first|exact .inl rfl|exact .inr rfl|assumption):PG X (.Name x pos) (tT (kk X cm) (gN i)):=Kh (hN▸S.nd) hi hx hf
def ő{i:Nat}{x:Str}(hN:X.N.Nodup:=by exact ndB (by kernel_rfl))(hi:X.N[i]?=some x:=by rfl)(hx:Loc X.env.scope x:=by first|exact Or.inl rfl|exact Or.inr rfl)(hf:X.fn x=true\/X.env.scope.names.lookup x=some .local:=by first|exact .inl rfl|exact .inr rfl):PG X (.Name x pos) (tT (kk X cm) (gN i)):=Kh hN hi hx hf
def č(i:Nat){x:Str}{px:Pos}{ms:M (List Slot)}(hr:PA X es (tA (kk X cm) E ms))(hN:X.N[i]?=some x:=by rfl)(hv:Bp X.env.scope x:=by first|exact Or.inl rfl|exact Or.inr (Or.inl rfl)|exact Or.inr (Or.inr rfl))(hd:(x== ("__debug__" :Str))=false:=by decide)
 (hcd:(x== ("__classdict__" :Str))=false:=by decide)(hs:starEach (.Name x px::es) X.env=(false,eval (.Name x px) X.env)::starEach es X.env:=by exact bT rfl):PA X (.Name x px::es) (tA (kk X cm) E (Ă i ms)):=QW i hN hv hd hcd hr hs
def ś{id:String}{x:Str}{r:List V->Hp->VK->Prop}{f:List PV->Option PV}{mr:M (List PV)}(hc:Ŏ X (.builtin id) r)(hf:cT (kk X cm) r f)(hm:X.mg x=none)(hv:bootBuiltins x=some (.builtin id))(ha:PA X (e::es) (Pn (kk X cm) E mr))(hg:Gl X x:=by rfl)(hn:x≠ "__name__" := by decide)(hdb:(x== ("__debug__" :Str))=false:=by decide)
 (he:starEach (e::es) X.env=(false,eval e X.env)::starEach es X.env:=by rfl)(hpl:(backTo pos (starEach es X.env)).any (·.1)=false:=by rfl):PE X (.Call (.Name x p) (e::es) [] pos) (tV (kk X cm) E (aM f mr)):=PE.wk (Jp hc hg hm hv ha hn hdb he hpl) λ_ _ _ h=>Zes hf h
def Zcq{T:String}{x:Str}{r:List V->Hp->VK->Prop}{f:List PV->Option PV}{mr:M (List PV)}(hc:Ŏ X (.type T) r)(hf:cT (kk X cm) r f)(hm:X.mg x=none)(hv:bootBuiltins x=some (.type T))(ha:PA X (e::es) (Pn (kk X cm) E mr))(hg:Gl X x:=by rfl)(hn:x≠ "__name__" := by decide)(hdb:(x== ("__debug__" :Str))=false:=by decide)
 (he:starEach (e::es) X.env=(false,eval e X.env)::starEach es X.env:=by rfl)(hpl:(backTo pos (starEach es X.env)).any (·.1)=false:=by rfl):PE X (.Call (.Name x p) (e::es) [] pos) (tV (kk X cm) E (aM f mr)):=PE.wk (uI hc hg hm hv ha hn hdb he hpl) λ_ _ _ h=>Zes hf h
def rC{T:String}{x:Str}{r:List V->Hp->VK->Prop}{f:List PV->Option RV}{mr:M (List PV)}(hc:Ŏ X (.type T) r)(hf:Kg (kk X cm) r f)(hm:X.mg x=none)(hv:bootBuiltins x=some (.type T))(ha:PA X (e::es) (Pn (kk X cm) E mr))(hg:Gl X x:=by rfl)(hn:x≠ "__name__" := by decide)(hdb:(x== ("__debug__" :Str))=false:=by decide)
 (he:starEach (e::es) X.env=(false,eval e X.env)::starEach es X.env:=by rfl)(hpl:(backTo pos (starEach es X.env)).any (·.1)=false:=by rfl):PE X (.Call (.Name x p) (e::es) [] pos) (tO (kk X cm) E (iC f mr)):=PE.wk (uI hc hg hm hv ha hn hdb he hpl) λ_ _ _ h=>ZgK hf h
end
section
variable{X:Cx}{cm:String->Addr}{E:L2.St->XK}{elt tg iter t:Expr}{ifs:List Expr}{scope:Scope}{pos:Pos}{mi:M (List PV)}{g:Tg}{mt:M Bool}{me:M PV}{js:List Nat}{nl:Nat}
structure CF(X:Cx)(js:List Nat)(nl:Nat)(tg iter:Expr)(scope:Scope):Prop where
 hcap:eX X.Ū X.env.scope scope (cN X js tg) js
 hcalm:X.calm=true
 hlen:js.length+nl=(cN X js tg).length
 hk:scope.kind=.function
 hcell:∀y∈scope.names,y.2=.cell->scope.names.lookup y.1=some .cell
 hnames:∀y∈scope.names,y.2=.local->scope.names.lookup y.1=some .local
 hfree:∀y∈scope.names,y.2=.free->(X.env.scope.names.lookup y.1=some .cell\/X.env.scope.names.lookup y.1=some .free)
 hs:∀x,foldedSetIterable iter X.env x=pure x
def cf(hcap:eX X.Ū X.env.scope scope (cN X js tg) js:=by repeat' first|exact True.intro|refine⟨rfl,⟨rfl,by first|exact Or.inl rfl|exact Or.inr rfl⟩,?_⟩)(hcalm:X.calm=true:=by rfl)(hlen:js.length+nl=(cN X js tg).length:=by rfl)
 (hk:scope.kind=.function:=by rfl)(hcell:∀y∈scope.names,y.2=.cell->scope.names.lookup y.1=some .cell:=by decide +kernel)(hnames:∀y∈scope.names,y.2=.local->scope.names.lookup y.1=some .local:=by decide +kernel)
 (hfree:∀y∈scope.names,y.2=.free->(X.env.scope.names.lookup y.1=some .cell\/X.env.scope.names.lookup y.1=some .free):=by exact frB (by kernel_rfl))(hs:∀x,foldedSetIterable iter X.env x=pure x:=by intro _;rfl):CF X js nl tg iter scope:=⟨hcap,hcalm,hlen,hk,hcell,hnames,hfree,hs⟩
def ZhU(hi:PI X.Ū tg iter (tG (kk X cm) E (Kp (kk X cm)) mi))(hg:∀{cl C s H fp},PG (dR X.Ū (cN X js tg) scope cl C s H fp) tg (tT (kk X cm) g))(ht:∀{cl C s H fp},Ik (dR X.Ū (cN X js tg) scope cl C s H fp) ifs (tB (kk X cm) EF mt))(he:∀{cl C s H fp},PE (dR X.Ū (cN X js tg) scope cl C s H fp) elt (tV (kk X cm) EF me))(h:CF X js nl tg iter scope:=by exact cf) :
 PE X (.ListComp elt [⟨tg,iter,ifs,0⟩] scope pos) (tO (kk X cm) E (Ĵ js nl mi g mt me)):=Rf (cN X js tg) js nl X.env.scope rfl h.hcalm hi (λ_ _ _ _ _=>hg) (λ_ _ _ _ _=>ht) (λ_ _ _ _ _=>he) h.hcap h.hlen h.hk h.hcell h.hnames h.hfree h.hs
def bZ(hi:PI X.Ū tg iter (tI (kk X cm) E mi))(hg:∀{cl C s H fp},PG (dR X.Ū (cN X js tg) scope cl C s H fp) tg (tT (kk X cm) g))(ht:∀{cl C s H fp},Ik (dR X.Ū (cN X js tg) scope cl C s H fp) ifs (tB (kk X cm) EF mt))(he:∀{cl C s H fp},PE (dR X.Ū (cN X js tg) scope cl C s H fp) elt (tV (kk X cm) EF me))(h:CF X js nl tg iter scope:=by exact cf) :
 PE X (.ListComp elt [⟨tg,iter,ifs,0⟩] scope pos) (tO (kk X cm) E (Ĵ js nl mi g mt me)):=ZhU (Td hi) hg ht he h
def xu{N ps:List Str}{sc:Scope}{i:Nat}{y:Str}{py spos:Pos}(S:Ē N ps sc)(hi:PI X.Ū tg iter (tI (kk X cm) E mi))(hg:∀{cl C s H fp},PG (dR X.Ū (cN X js tg) scope cl C s H fp) tg (tT (kk X cm) g))(ht:∀{cl C s H fp},Ik (dR X.Ū (cN X js tg) scope cl C s H fp) ifs (tB (kk X cm) EF mt))(he:∀{cl C s H fp},PE (dR X.Ū (cN X js tg) scope cl C s H fp) elt (tV (kk X cm) EF me))
 (h:CF X js nl tg iter scope:=by exact cf)(hN:X.N=N:=by rfl)(hi0:X.N[i]?=some y:=by rfl)(hy:X.env.scope.names.lookup y=some .local:=by rfl)(hsw:swapsWith (.ListComp elt [⟨tg,iter,ifs,0⟩] scope pos) (some (.Name y py)) spos.line X.env=pure true:=by rfl) :
 PS X (.Assign [.Name y py] (.ListComp elt [⟨tg,iter,ifs,0⟩] scope pos) spos) (tS (kk X cm) E (ġ i (Ĵ js nl mi g mt me))):=Zcc (hN▸S.nd) hi0 hy (cN X js tg) js nl X.env.scope rfl h.hcalm hi (λ_ _ _ _ _=>hg) (λ_ _ _ _ _=>ht) (λ_ _ _ _ _=>he) h.hcap h.hlen h.hk h.hcell h.hnames h.hfree h.hs hsw
end
end P
namespace My
def gd(a b:Int):Int:=((Int.gcd a b:Nat):Int)
def Z30(a b:Int):gd b (Int.fmod a b)=gd a b:=by
 unfold gd
 rw[Int.fmod_def,Int.gcd_sub_mul_left_right,Int.gcd_comm]
def Z31(a:Int){b:Int}(h:b≠0):(Int.fmod a b).natAbs<b.natAbs:=by
 rcases(by omega:0<b\/b<0) with h|h
 ·have h1:=Int.fmod_nonneg_of_pos a h
  have h2:=Int.fmod_lt_of_pos a h
  omega
 ·have e:=Int.neg_fmod_neg a b
  have h1:=Int.fmod_nonneg_of_pos (-a) (show 0 < -b by omega)
  have h2:=Int.fmod_lt_of_pos (-a) (show 0 < -b by omega)
  omega
def Z32(a:Int):gd a 0=if a<0 then -a else a:=by
 unfold gd
 rw[Int.gcd_zero]
 split<;>omega
def Z3v(a:Int){b:Int}(h:b≠0):0<gd a b:=by
 have:=Int.gcd_ne_zero_right (a:=a) h
 unfold gd
 omega
def Z1K(a b:Int):0<=gd a b:=by
 unfold gd
 omega
def Z3Y(a:Int){b:Int}(h:b≠0):gd a b<=b.natAbs:=by
 unfold gd
 have:=Int.gcd_dvd_natAbs_right a b
 have:=Nat.le_of_dvd (by omega) this
 omega
def dv(t b:Int):Int:=if b<0 then-gd t b else gd t b
end My
namespace Hu
abbrev Pt:=Int×Int
def tn(a b c:Pt):Int:=(b.1-a.1)*(c.2-a.2)-(b.2-a.2)*(c.1-a.1)
section
variable{S:List Pt}{p:Pt}
end
abbrev Ln:=Int×Int×Int
def hd(l:Ln)(p:Pt):Bool:=decide (l.1*p.1+l.2.1*p.2<=l.2.2)
def Z7(a b:Pt):Ln:=(b.2-a.2,a.1-b.1,(b.2-a.2)*a.1+(a.1-b.1)*a.2)
def Z2U{a b s:Pt}:hd (Z7 a b) s=true↔0<=tn a b s:=by
 unfold hd Z7
 rw[decide_eq_true_iff]
 have e:tn a b s=((b.2-a.2)*a.1+(a.1-b.1)*a.2)-((b.2-a.2)*s.1+(a.1-b.1)*s.2):=by simp only[tn];grind
 dsimp only
 omega
def Z6(S:List Pt):List Pt:=S.foldl (λk x=>if x∈k then k else k ++ [x]) []
theorem Z0z(x:Pt):∀(S k:List Pt),x∈S.foldl (λk x=>if x∈k then k else k ++ [x]) k↔x∈k\/x∈S
 | [],k=>by simp
 |y::S,k=>by
  rw[List.foldl_cons,Z0z x S]
  by_cases h:y∈k
  ·rw[if_pos h]
   constructor
   ·rintro (q|q)
    ·exact .inl q
    ·exact .inr (List.mem_cons_of_mem _ q)
   ·rintro (q|q)
    ·exact .inl q
    ·rcases List.mem_cons.mp q with e|e
     ·exact .inl (e▸h)
     ·exact .inr e
  ·rw[if_neg h]
   simp only[List.mem_append,List.mem_cons,List.not_mem_nil,or_false]
   constructor
   ·rintro ((q|q)|q)
    ·exact .inl q
    ·exact .inr (.inl q)
    ·exact .inr (.inr q)
   ·rintro (q|q|q)
    ·exact .inl (.inl q)
    ·exact .inl (.inr q)
    ·exact .inr q
def Zo{x:Pt}{S:List Pt}:x∈Z6 S↔x∈S:=by unfold Z6;rw[Z0z];simp
def ZC(S:List Pt):List Ln:=(Z6 S).flatMap λa=>(Z6 S).filterMap λb=>if a≠b/\(Z6 S).all (hd (Z7 a b)) then some (Z7 a b) else none
def Z1L{S:List Pt}{l:Ln}:l∈ZC S↔∃a∈S,∃b∈S,a≠b/\(∀s∈S,0<=tn a b s)/\l=Z7 a b:=by
 unfold ZC
 simp only[List.mem_flatMap,List.mem_filterMap]
 constructor
 ·rintro ⟨a,ha,b,hb,h⟩
  split at h
  ·rename_i hc
   refine⟨a,Zo.mp ha,b,Zo.mp hb,hc.1,λs hs=>?_,(Option.some.inj h).symm⟩
   exact Z2U.mp (List.all_eq_true.mp hc.2 s (Zo.mpr hs))
  ·cases h
 ·rintro ⟨a,ha,b,hb,h1,h2,rfl⟩
  refine⟨a,Zo.mpr ha,b,Zo.mpr hb,?_⟩
  rw[if_pos ⟨h1,List.all_eq_true.mpr λs hs=>Z2U.mpr (h2 s (Zo.mp hs))⟩]
def mx(l:List Int):Int:=l.tail.foldl max (l.headD 0)
def mn(l:List Int):Int:=l.tail.foldl min (l.headD 0)
def box(S:List Pt):List Ln:=[(1,0,mx (S.map (·.1))),(-1,0,- mn (S.map (·.1))),(0,1,mx (S.map (·.2))),(0,-1,- mn (S.map (·.2)))]
def Zn(S:List Pt):List Ln:=box S++ZC S
def ZG(S:List Pt)(p:Pt):Option Ln:=(Zn S).find? λl=>!hd l p
def xG(a b c p:Pt):List Int:=[tn p b c,tn a p c,tn a b p]
def xH(a b p:Pt):List Int:=
 let g:=(b.1-a.1)*(p.1-a.1)+(b.2-a.2)*(p.2-a.2)
 [(b.1-a.1)*(b.1-a.1)+(b.2-a.2)*(b.2-a.2)-g,g]
def Zz(w:List Int):Bool:=decide (w.sum≠0) && w.all λs=>decide (0<=s*w.sum)
def at_(S:List Pt)(i:Nat):Pt:=S.getD i (0,0)
def Z3w{S:List Pt}{i:Nat}(h:i<S.length):at_ S i∈S:=by
 unfold at_
 rw[List.getD_eq_getElem?_getD,List.getElem?_eq_getElem h]
 exact List.getElem_mem h
def Zd(n:Nat):List (Nat×Nat):=(List.range n).flatMap λj=>(List.range j).map λi=>(i,j)
def Zg(n:Nat):List (Nat×Nat×Nat):=(List.range n).flatMap λk=>(Zd k).map λq=>(q.1,q.2,k)
def ZQ{n i j:Nat}:(i,j)∈Zd n↔i<j/\j<n:=by
 unfold Zd
 simp only[List.mem_flatMap,List.mem_range,List.mem_map,Prod.mk.injEq]
 constructor
 ·rintro ⟨k,hk,m,hm,rfl,rfl⟩;exact⟨hm,hk⟩
 ·rintro ⟨h1,h2⟩;exact⟨j,h2,i,h1,rfl,rfl⟩
def Z19{n i j k:Nat}:(i,j,k)∈Zg n↔i<j/\j<k/\k<n:=by
 unfold Zg
 simp only[List.mem_flatMap,List.mem_range,List.mem_map,Prod.mk.injEq]
 constructor
 ·rintro ⟨m,hm,⟨a,b⟩,hq,rfl,rfl,rfl⟩
  have:=ZQ.mp hq
  exact⟨this.1,this.2,hm⟩
 ·rintro ⟨h1,h2,h3⟩;exact⟨k,h3,(i,j),ZQ.mpr ⟨h1,h2⟩,rfl,rfl,rfl⟩
def Z3x(S:List Pt)(p:Pt):Option (List Int×List Nat):=(Zg S.length).findSome? λq=>if Zz (xG (at_ S q.1) (at_ S q.2.1) (at_ S q.2.2) p) then some (xG (at_ S q.1) (at_ S q.2.1) (at_ S q.2.2) p,[q.1,q.2.1,q.2.2]) else none
def Z3y(S:List Pt)(p:Pt):Option (List Int×List Nat):=(Zd S.length).findSome? λq=>if Zz (xH (at_ S q.1) (at_ S q.2) p) then some (xH (at_ S q.1) (at_ S q.2) p,[q.1,q.2]) else none
def Z1m(S:List Pt)(p:Pt):List Int×List Nat:=((Z3x S p).orElse λ_=>Z3y S p).getD ([1],[0])
structure Z4i(S:List Pt)(p:Pt)(w:List Int)(q:List Nat):Prop where
 len:w.length=q.length
 sum:w.sum≠0
 sign:∀s∈w,0<=s*w.sum
 nd:q.Nodup
 lt:∀i∈q,i<S.length
 x:((w.zip q).map λa=>a.1*(at_ S a.2).1).sum=w.sum*p.1
 y:((w.zip q).map λa=>a.1*(at_ S a.2).2).sum=w.sum*p.2
def Z0K{w:List Int}:Zz w=true↔w.sum≠0/\∀s∈w,0<=s*w.sum:=by
 unfold Zz
 simp
end Hu
namespace Fr
def lay(l:List Int)(a:List (Int×Nat)):List Int:=a.foldl (λacc a=>acc.set a.2 a.1) l
end Fr
namespace T
open PySem L2 M2 M3 M4 P
noncomputable section
def top(i:Nat):Stmt:=PySem.Challenge.pw_shadowpost_k42_keep_dark.main.body.getD i (.Pass ⟨0,0,0,0⟩)
abbrev TJ:Stmt:=top 87
abbrev TQ:Stmt:=top 81
abbrev TY:Stmt:=top 82
abbrev T_:Stmt:=top 86
abbrev Ua:Stmt:=top 88
abbrev Ze1:Stmt:=inClass (top 48) 0
abbrev Ze2:Stmt:=top 95
abbrev Ub:Stmt:=top 92
abbrev Uc:Stmt:=top 49
abbrev Ud:Stmt:=top 52
abbrev Ue:Stmt:=top 51
abbrev Ug:Stmt:=top 50
abbrev Uh:Stmt:=top 53
abbrev Ui:Stmt:=top 55
abbrev Uj:Stmt:=top 3
abbrev Lq:Stmt:=top 5
abbrev Uk:Stmt:=top 2
abbrev Ul:Stmt:=top 4
abbrev Um:Stmt:=top 6
abbrev Uo:Stmt:=top 1
abbrev Uq:Stmt:=top 18
abbrev Ur:Stmt:=top 20
abbrev Us:Stmt:=top 19
abbrev Ut:Stmt:=top 17
abbrev Uu:Stmt:=top 21
abbrev Uv:Stmt:=top 22
abbrev Uw:Stmt:=top 23
abbrev Ux:Stmt:=top 29
abbrev Uy:Stmt:=top 30
abbrev Ze3:Stmt:=top 14
abbrev Uz:Stmt:=top 15
abbrev UG:Stmt:=top 28
abbrev UJ:Stmt:=top 24
abbrev Ze4:Stmt:=top 25
abbrev UL:Stmt:=top 27
abbrev UW:Stmt:=top 26
abbrev U_:Stmt:=top 31
abbrev Va:Stmt:=top 32
abbrev Vb:Stmt:=top 34
abbrev Ze5:Stmt:=top 71
abbrev Vc:Stmt:=top 72
abbrev Vd:Stmt:=inClass (top 74) 0
abbrev Ve:Stmt:=inClass (top 75) 0
abbrev Vf:Stmt:=inClass (top 76) 0
abbrev Vg:Stmt:=inClass (top 77) 0
abbrev Ze6:Stmt:=inClass (top 78) 0
abbrev Vh:Stmt:=top 37
abbrev Vi:Stmt:=top 35
abbrev Vj:Stmt:=top 38
abbrev Vk:Stmt:=top 39
abbrev Vl:Stmt:=top 57
abbrev Vm:Stmt:=top 58
abbrev Vn:Stmt:=top 46
abbrev Vo:Stmt:=top 56
abbrev Vp:Stmt:=top 59
abbrev Vq:Stmt:=top 90
abbrev Vr:Stmt:=top 91
abbrev Vs:Stmt:=top 89
abbrev Vt:Stmt:=top 93
abbrev Vu:Stmt:=top 94
abbrev Vv:Stmt:=top 84
abbrev Vw:Stmt:=top 83
abbrev Vx:Stmt:=top 85
abbrev Vy:Stmt:=top 63
abbrev Vz:Stmt:=top 64
abbrev VB:Stmt:=top 66
abbrev Ze7:Stmt:=inClass (top 73) 0
abbrev VD:Stmt:=top 67
abbrev VF:Stmt:=top 68
abbrev Ze8:Stmt:=top 69
abbrev Ze9:Stmt:=top 65
abbrev VG:Stmt:=top 70
abbrev VH:Stmt:=top 79
abbrev VJ:Stmt:=top 41
abbrev VL:Stmt:=top 42
abbrev VN:Stmt:=top 43
abbrev Ze_:Stmt:=top 44
abbrev VP:Stmt:=top 45
abbrev VR:Stmt:=top 97
abbrev V_:Stmt:=top 98
abbrev Wa:Stmt:=top 96
abbrev Wb:Stmt:=inClass (top 73) 1
abbrev Wc:Stmt:=top 99
def cmB(c0:Addr)(c1:Addr)(c2:Addr)(c3:Addr)(c4:Addr)(c5:Addr)(c6:Addr):String->Addr:=λs=>match s with
 | "Yard" =>c0
 | "Thing" =>c1
 | "Post" =>c2
 | "Fence" =>c3
 | "Sail" =>c4
 | "Cloth" =>c5
 | "House" =>c6
 |_=>0
def iQ:M Fl:=(Ė (bQ (fu (aP (Ą ŧ (Ą ı (Ą ţ (Ā 0) (mC (.int 7))) (mC (.int 16))) (mC (.int 11)))) (aP (Ą Rj (Ā 1) (mC (.int 6)))))
 (Ģ (ņ (Ą Ĕ (ċ (ū (ă (ň (ă (mC (.int 1)) (ă (mC (.int 20)) ĕ))) (ă (ň (ă (mC (.int 20)) (ă (mC (.int 1)) ĕ))) ĕ)))) (Ą ı (Ā 0) (mC (.int 2))))))
 cj)
 (Ė (ġ 2 (Ĩ ģ (mC (.int 1)) (Ą ı (Ā 0) (aM uT (ă (mC (.int 5)) (ă (Ā 1) ĕ))))))
 (Ģ (ņ (ň (ă (Ę 2) (ă (ċ (Ĩ ģ (mC (.int 1)) (Ą ı (Ą ţ (Ā 0) (mC (.int 5))) (aM uT (ă (mC (.int 4)) (ă (Ą ţ (Ā 1) (Ā 2)) ĕ)))))) ĕ)))))))
def fJ:MF:=Į 2 3 iQ
def CQ:M Fl:=(Ė (bQ (aP (Ą lC (Ā 1) (aM aY (ă (Ā 0) ĕ))))
 (Ģ (ņ (Ą Ĕ (Ā 0) (Ā 1))))
 cj)
 (Ģ (ņ (mC (.int 0)))))
def Ŋ:MF:=Į 2 2 CQ
def nH:M Fl:=(bQ (aP (Ą ŧ (Ą ı (Ā 0) (mC (.int 2))) (mC (.int 0))))
 (Ė (pH 2 (Ą ı (Ā 3) (mC (.int 524287))))
 (ġ 3 (ņ (Ą ţ (Ā 3) (mC (.int 524287))))))
 (Ė (ġ 3 (ņ (Ą ı (ċ (Ĩ ģ (ċ (Ĩ ģ (Ą Ĥ (Ā 3) (mC (.int 49157))) (mC (.int 24593)))) (Ą Ĥ (mC (.int 2)) (Ā 4)))) (mC (.int 8388593)))))
 (pH 2 (Ą ţ (Ā 3) (mC (.int 16))))))
def CT:M Fl:=(Ė (ġ 2 (ū ĕ))
 (Ė (ġ 3 (ņ (Ą ţ (Ā 0) (mC (.int 2)))))
 (Ė (bQ (aP (Ą ŧ (Ą ı (Ā 0) (mC (.int 2))) (mC (.int 1))))
 (ġ 3 (ņ (Ą ı (Ā 3) (mC (.int 8388593)))))
 cj)
 (Ė (aR (Ÿ au (ă (Ę 1) ĕ)) (gN 4) nH)
 (Ģ (aG 2))))))
def b_:MF:=Į 2 5 CT
def CW:M Fl:=(Ė (bQ (aP (Ą ŧ (Ą ı (Ą Ĕ (Ā 0) (mC (.int 4))) (mC (.int 6))) (mC (.int 4))))
 (Ģ (ņ (mC .non)))
 cj)
 (Ė (ġ 1 (ņ (Ą Ĕ (ċ (ū (ă (mC (.int 1)) (ă (mC (.int 1)) (ă (mC (.int 3)) (ă (Ą ou (mC (.int 10)) (mC (.int 5))) ĕ)))))) (Ą ı (Ą Ĕ (Ā 0) (mC (.int 3))) (mC (.int 4))))))
 (Ģ (ņ (ň (ă (Ą Ĥ (Ą Ŝ (Ą ı (Ą Ĕ (Ā 0) (mC (.int 0))) (mC (.int 13))) (mC (.int 6))) (Ā 1)) (ă (Ą Ĥ (Ą Ŝ (Ą ı (Ą Ĕ (Ā 0) (mC (.int 1))) (mC (.int 13))) (mC (.int 6))) (Ā 1)) (ă (Ą Ĥ (ċ (Ĩ ģ (mC (.int 1)) (Ą ı (Ą Ĕ (Ā 0) (mC (.int 2))) (mC (.int 5))))) (Ā 1)) ĕ))))))))
def rD:MF:=Į 1 2 CW
def xJ:M Fl:=(Ė (ġ 8 (Č b_ (Ċ (ċ (Ĩ ģ (Ą ţ (ċ (Č Ŋ (Ă 0 (Ċ (ċ (Ĩ ģ (Ā 1) (Ā 7))) ĉ)))) (mC (.int 12))) (Ą Ĥ (mC (.int 5)) (Ā 7)))) (Ċ (ċ (Ĩ ģ (Ą Ĥ (mC (.int 5)) (Ā 3)) (mC (.int 2)))) ĉ))))
 (Ė (ġ 9 (Ĵ [8] 1 (Ÿ au (ă (ċ (Ĩ ģ (mC (.int 1)) (Ą ı (Ą Ĕ (Ā 8) (mC (.int 1))) (Ā 3)))) ĕ)) (gN 1) İ (ċ (Č rD (Ċ (ċ (tK (Ā 0) (mP (ċ (Ĩ ģ (mC (.int 2)) (Ą Ĥ (mC (.int 5)) (Ā 1))))) (mP (ċ (Ĩ ģ (mC (.int 7)) (Ą Ĥ (mC (.int 5)) (Ā 1))))))) ĉ)))))
 (pH 6 (ň (ă (Ą Ĕ (Ā 4) (Ā 7)) (ă (ċ (Ĩ ģ (mC (.int 1)) (Ą ı (Ą Ĥ (Ą Ĕ (Ā 8) (mC (.int 0))) (mC (.int 1907))) (Ą ou (mC (.int 10)) (mC (.int 9)))))) (ă (Ę 9) ĕ)))))))
def Lr:M Fl:=(Ė (ġ 4 (ū (ă (mC (.str "ab")) (ă (mC (.str "a")) (ă (mC (.str "abc")) (ă (mC (.str "b")) (ă (mC (.str "ba")) (ă (mC (.str "z")) (ă (mC (.str "zz")) (ă (mC (.str "zzz")) (ă (mC (.str "abcdefgh")) (ă (mC (.str "abcdefgi")) (ă (mC (.str "aa")) (ă (mC (.str "bb")) ĕ))))))))))))))
 (Ė (ġ 5 (ņ (Ą ı (ċ (Č Ŋ (Ă 0 (Ă 1 ĉ)))) (mC (.int 12)))))
 (Ė (ġ 4 (Ĩ ģ (ċ (tK (Ā 4) (mP (Ę 5)) zJ)) (ċ (tK (Ā 4) zJ (mP (Ę 5))))))
 (Ė (ġ 6 (ū ĕ))
 (Ė (aR (Ÿ au (ă (Ę 2) ĕ)) (gN 7) xJ)
 (Ģ (aG 6)))))))
def oE:MF:=Į 4 10 Lr
def Ls:M Fl:=(Ė (jB 0 ["Yard"] "width" (Ę 1))
 (Ė (jB 0 ["Yard"] "height" (Ę 2))
 (Ė (jB 0 ["Yard"] "things" (ċ (iC bH (ă (Ā 3) ĕ))))
 (jB 0 ["Yard"] "days" (ċ (Ĵ [] 3 (ŀ 4) (gT 3 (Đ (gN 0) (Đ (gN 1) (Đ (gN 2) Ĳ)))) İ (ň (ă (Ę 0) (ă (Ę 1) (ă (ċ (iC bH (ă (Ā 2) ĕ))) ĕ))))))))))
def lN:MI:=dF 5 5 "Yard" Ls
def Gq:M Fl:=(Ė (ġ 5 (Č b_ (Ă 4 (Ċ (mC (.int 4)) ĉ))))
 (Ė (ġ 6 (ņ (Ą ı (Ą Ĕ (Ā 5) (mC (.int 0))) (aM aY (ă (Ā 2) ĕ)))))
 (pH 3 (ň (ă (ň (ă (Ą ı (Ą Ĕ (Ā 5) (mC (.int 1))) (Ą Ĕ (Ā 1) (mC (.int 0)))) (ă (Ą ı (Ą Ĕ (Ā 5) (mC (.int 2))) (Ą Ĕ (Ā 1) (mC (.int 1)))) ĕ))) (ă (Ę 6) (ă (Ą ı (Ą Ĕ (Ā 5) (mC (.int 3))) (aM aY (ă (Ą Ĕ (Ą Ĕ (Ā 2) (Ā 6)) (mC (.int 2))) ĕ))) ĕ)))))))
def Wd:M Fl:=(Ė (ġ 3 (ū ĕ))
 (Ė (aR (ŀ 0) (gN 4) Gq)
 (Ģ (aG 3))))
def Lw:MF:=Į 3 7 Wd
def xK:M Fl:=(ġ 2 (Ĩ ģ (Ā 2) (ċ (Ĵ [3] 1 (ŀ 2) (gN 1) İ (Ą FW (Ā 1) (Ā 0))))))
def CZ:M Fl:=(Ė (ġ 2 (ū (ă (Ę 1) ĕ)))
 (Ė (aR (ŀ 0) (gN 3) xK)
 (Ģ (aG 2))))
def vm:MF:=Į 2 4 CZ
def Lx:M Fl:=(Ģ (ņ (dW (pF lE lC (mC (.int 0)) (Ą Ĕ (Ā 1) (mC (.int 0))) (gY (Ů ["Yard"] "width") (Ā 0))) (pF lE lC (mC (.int 0)) (Ą Ĕ (Ā 1) (mC (.int 1))) (gY (Ů ["Yard"] "height") (Ā 0))))))
def Gs:MF:=Į 2 2 Lx
def Ly:M Fl:=(bQ (cD (bK (ċ (Č Gs (Ă 0 (Ă 1 ĉ))))))
 HF
 cj)
def Gu:MF:=Į 2 2 Ly
def xM:M Fl:=(Ģ (ņ (pF lE lC (mC (.int 0)) (Ā 1) (aM aY (ă (gY (Ů ["Yard"] "days") (Ā 0)) ĕ)))))
def vo:MF:=Į 2 2 xM
def Lz:M Fl:=(Ģ (ņ (Ą Ĕ (Ą Ĕ (gY (Ů ["Yard"] "days") (Ā 0)) (Ā 1)) (mC (.int 2)))))
def iR:MF:=Į 2 2 Lz
def LC:M Fl:=(bQ (pG (cD (bK (ċ (Č vo (Ă 0 (Ă 1 ĉ)))))) (cD (aP (pF lE lC (mC (.int 0)) (Ā 2) (aM aY (ă (ċ (Č iR (Ă 0 (Ă 1 ĉ)))) ĕ))))))
 HF
 cj)
def Gv:MF:=Į 3 3 LC
def xO:M Fl:=(Ė (zA (ċ (Č Gu (Ă 0 (Ă 2 ĉ)))))
 (zA (ċ (Č Gv (Ă 0 (Ă 3 (Ă 4 ĉ)))))))
def C_:M Fl:=(aR (ŀ 1) (gT 3 (Đ (gN 2) (Đ (gN 3) (Đ (gN 4) Ĳ)))) xO)
def vp:MF:=Į 2 5 C_
def LK:M Fl:=(Ģ (Ĵ [1] 2 (zR (HX 0)) (gT 2 (Đ (gN 1) (Đ (gN 2) Ĳ))) (bK (Ą qL (Ą lB (Ā 0) (Ā 1)) (mC (.int 1)))) (Ę 2)))
def oG:MF:=Į 2 2 LK
def Dc:M Fl:=(Ģ (ņ (Lp [0] (aM pJ (ă (ċ (Č oG (Ă 0 (Ă 1 ĉ)))) ĕ)) (ă (Ā 1) ĕ))))
def Gw:MF:=Į 2 2 Dc
def xP:M Fl:=(bQ (cD (bK (Ą qL (Ą lB (Ā 0) (Ā 2)) (mC (.int 1)))))
 (Ģ (aG 2))
 cj)
def Dg:M Fl:=(Ė (aR (Ÿ au (ă (Ę 1) ĕ)) (gN 2) xP)
 (Ģ (ņ (mC .non))))
def vq:MF:=Į 2 3 Dg
def Dh:M Fl:=(qY 3 (Ę 4))
def LQ:M Fl:=(Ė (ġ 3 (ņ (Ę 2)))
 (Ė (aR (ń (ċ (Č oG (Ă 0 (Ă 1 ĉ))))) (gN 4) Dh)
 (Ģ (aG 3))))
def Ad:MF:=Į 3 5 LQ
def xQ:M Fl:=(Ė (ġ 4 (Ĵ [2,1,3] 1 (Ÿ au (ă (Ą lA (mC (.int 1)) (aM aY (ă (Ā 0) ĕ))) ĕ)) (gN 3) İ (ċ (Č vq (Ċ (ċ (Č Ad (Ă 1 (Ă 3 (Ă 2 ĉ))))) (Ă 0 ĉ))))))
 (Ė (bQ (aP (Ą cJ (Ą Ĕ (Ā 4) (gY cU (mC (.int 1)))) (mC .non)))
 (Ģ (ņ (ň (ă (mC (.str "none")) (ă (Ą Ĕ (Ā 4) (gY cU (mC (.int 1)))) ĕ)))))
 cj)
 (Ė (ġ 5 (Č Gw (Ă 0 (Ċ (ċ (Ĵ [] 2 (zR (HX 4)) (gT 2 (Đ (gN 0) (Đ (gN 1) Ĳ))) (aP (Ą uo (Ā 1) (mC .non))) (Ę 0))) ĉ))))
 (Ģ (ņ (ň (ă (mC (.str "choice")) (ă (Ę 5) (ă (aM pJ (ă (ċ (Č oG (Ă 0 (Ă 5 ĉ)))) ĕ)) (ă (Ę 4) ĕ))))))))))
def Ae:MF:=Į 4 6 xQ
def rE:M Fl:=(bQ (bK (Ā 3))
 (qY 1 (Ą lA (mC (.int 1)) (Ā 2)))
 cj)
def LR:M Fl:=(Ė (ġ 1 (ņ (mC (.int 0))))
 (Ė (aR (zR (HX 0)) (gT 2 (Đ (gN 2) (Đ (gN 3) Ĳ))) rE)
 (Ģ (aG 1))))
def Af:MF:=Į 1 4 LR
def L_:M Fl:=(Ė (ġ 1 (Ĵ [] 1 (ŀ 0) (gN 0) İ (Ą Ĕ (Ā 0) (mC (.int 0)))))
 (Ė (ġ 2 (Ĵ [] 1 (ŀ 0) (gN 0) İ (Ą Ĕ (Ā 0) (mC (.int 1)))))
 (Ģ (ū (ă (ň (ă (mC (.int 1)) (ă (mC (.int 0)) (ă (aM fH (ă (Ā 1) ĕ)) ĕ)))) (ă (ň (ă (gY cU (mC (.int 1))) (ă (mC (.int 0)) (ă (gY cU (aM uW (ă (Ā 1) ĕ))) ĕ)))) (ă (ň (ă (mC (.int 0)) (ă (mC (.int 1)) (ă (aM fH (ă (Ā 2) ĕ)) ĕ)))) (ă (ň (ă (mC (.int 0)) (ă (gY cU (mC (.int 1))) (ă (gY cU (aM uW (ă (Ā 2) ĕ))) ĕ)))) ĕ))))))))
def Gx:MF:=Į 1 3 L_
def nJ:M Fl:=(bQ (aP (Ą (inD true) (Ā 2) (Ā 1)))
 (pH 1 (Ę 2))
 cj)
def Ma:M Fl:=(Ė (ġ 1 (ū ĕ))
 (Ė (aR (ŀ 0) (gN 2) nJ)
 (Ģ (aG 1))))
def Gy:MF:=Į 1 3 Ma
def Mf:M Fl:=(Ė (ġ 2 (ņ (Ą Ŝ (Ą Ĕ (Ā 1) (mC (.int 1))) (Ą Ĕ (Ā 0) (mC (.int 1))))))
 (Ė (ġ 3 (ņ (Ą Ŝ (Ą Ĕ (Ā 0) (mC (.int 0))) (Ą Ĕ (Ā 1) (mC (.int 0))))))
 (Ģ (ņ (ň (ă (Ę 2) (ă (Ę 3) (ă (ċ (Ĩ ģ (Ą Ĥ (Ā 2) (Ą Ĕ (Ā 0) (mC (.int 0)))) (Ą Ĥ (Ā 3) (Ą Ĕ (Ā 0) (mC (.int 1)))))) ĕ))))))))
def Gz:MF:=Į 2 4 Mf
def Mg:M Fl:=(Ģ (ņ (Ą lE (ċ (Ĩ ģ (Ą Ĥ (Ą Ĕ (Ā 0) (mC (.int 0))) (Ą Ĕ (Ā 1) (mC (.int 0)))) (Ą Ĥ (Ą Ĕ (Ā 0) (mC (.int 1))) (Ą Ĕ (Ā 1) (mC (.int 1)))))) (Ą Ĕ (Ā 0) (mC (.int 2))))))
def rG:MF:=Į 2 2 Mg
def nM:M Fl:=(Ė (ġ 5 (Č Gz (Ă 3 (Ă 4 ĉ))))
 (bQ (fu (aP (Ą aH (Ā 3) (Ā 4))) (bK (aM wK (ă (ċ (Ĵ [5] 1 (ŀ 2) (gN 1) İ (ċ (Č rG (Ă 0 (Ă 1 ĉ)))))) ĕ))))
 (pH 1 (Ę 5))
 cj))
def xR:M Fl:=(aR (ŀ 2) (gN 4) nM)
def Mh:M Fl:=(Ė (ġ 1 (ū ĕ))
 (Ė (ġ 2 (Č Gy (Ă 0 ĉ)))
 (Ė (aR (ŀ 2) (gN 3) xR)
 (Ģ (aG 1)))))
def GC:MF:=Į 1 6 Mh
def Mi:M Fl:=(Ģ (Ĩ ģ (ċ (Č Gx (Ă 0 ĉ))) (ċ (Č GC (Ă 0 ĉ)))))
def Ag:MF:=Į 1 1 Mi
def xT:M Fl:=(bQ (cD (bK (ċ (Č rG (Ă 2 (Ă 1 ĉ))))))
 (Ģ (aG 2))
 cj)
def Di:M Fl:=(Ė (aR (ń (ċ (Č Ag (Ă 0 ĉ)))) (gN 2) xT)
 (Ģ (ņ (mC .non))))
def Ah:MF:=Į 2 3 Di
def rH:M Fl:=(CJ 1 (Ĵ [2] 1 (Ÿ au (ă (Ę 2) ĕ)) (gN 1) İ (ň (ă (Ę 1) (ă (Ę 0) ĕ)))))
def Mj:M Fl:=(Ė (ġ 1 (ū ĕ))
 (Ė (aR (Ÿ au (ă (Ę 0) ĕ)) (gN 2) rH)
 (Ģ (aG 1))))
def Ai:MF:=Į 1 3 Mj
def rJ:M Fl:=(CJ 1 (Ĵ [2] 1 (ń (ċ (Č Ai (Ă 2 ĉ)))) (gN 1) İ (ň (ă (Ą Ĕ (Ā 1) (mC (.int 0))) (ă (Ą Ĕ (Ā 1) (mC (.int 1))) (ă (Ę 0) ĕ))))))
def Ml:M Fl:=(Ė (ġ 1 (ū ĕ))
 (Ė (aR (Ÿ au (ă (Ę 0) ĕ)) (gN 2) rJ)
 (Ģ (aG 1))))
def GD:MF:=Į 1 3 Ml
def Wf:M Fl:=(ž (aP (Ą aH (Ā 1) (mC (.int 0))))
 (Ė (ġ 2 (ņ (Ą ı (Ā 0) (Ā 1))))
 (Ė (ġ 0 (ņ (Ę 1)))
 (ġ 1 (ņ (Ę 2))))))
def Wg:M Fl:=(Ė Wf
 (Ģ (ņ (aM Rk (ă (Ā 0) ĕ)))))
def RK:MF:=Į 2 3 Wg
def Dj:M Fl:=(Ė (bQ (aP (Ą ŧ (Ā 1) (mC (.int 0))))
 HF
 cj)
 (Ė (ġ 2 (Č RK (Ă 0 (Ă 1 ĉ))))
 (Ė (bQ (aP (Ą lC (Ā 1) (mC (.int 0))))
 (ġ 2 (ņ (gY cU (Ā 2))))
 cj)
 (Ģ (ņ (ň (ă (Ą ţ (Ā 0) (Ā 2)) (ă (Ą ţ (Ā 1) (Ā 2)) ĕ))))))))
def oH:MF:=Į 2 3 Dj
def xU:M Fl:=(Cm 4 (Ę 6) (ċ (Č oH (Ă 5 (Ă 3 ĉ)))))
def rK:M Fl:=(Ė (ġ 3 (ņ (aM pJ (ă (Ā 0) ĕ))))
 (Ė (ġ 4 (Ĵ [3] 1 (Ÿ au (ă (Ę 2) ĕ)) (gN 1) İ (ċ (Č oH (Ċ (mC (.int 0)) (Ă 0 ĉ))))))
 (Ė (aR (wX (wU 0) (wU 1)) (gT 2 (Đ (gN 5) (Đ (gN 6) Ĳ))) xU)
 (Ģ (aG 4)))))
def lO:MF:=Į 3 7 rK
def Mp:M Fl:=(Ė (ġ 3 (ņ (Ą Ĥ (Ą Ŝ (Ą Ĕ (Ā 1) (mC (.int 0))) (Ą Ĕ (Ā 0) (mC (.int 0)))) (Ą Ŝ (Ą Ĕ (Ā 2) (mC (.int 1))) (Ą Ĕ (Ā 0) (mC (.int 1)))))))
 (Ģ (ņ (Ą Ŝ (Ā 3) (Ą Ĥ (Ą Ŝ (Ą Ĕ (Ā 1) (mC (.int 1))) (Ą Ĕ (Ā 0) (mC (.int 1)))) (Ą Ŝ (Ą Ĕ (Ā 2) (mC (.int 0))) (Ą Ĕ (Ā 0) (mC (.int 0)))))))))
def vA:MF:=Į 3 4 Mp
def Wh:M Fl:=(Ė (ġ 2 (ņ (Ą Ĕ (Ā 0) (mC (.int 0)))))
 (Ė (ġ 3 (ņ (Ą Ĕ (Ā 0) (mC (.int 1)))))
 (Ė (ġ 4 (ņ (Ą Ĕ (Ā 0) (mC (.int 2)))))
 (Ģ (ū (ă (ċ (Č vA (Ă 1 (Ă 3 (Ă 4 ĉ))))) (ă (ċ (Č vA (Ă 2 (Ă 1 (Ă 4 ĉ))))) (ă (ċ (Č vA (Ă 2 (Ă 3 (Ă 1 ĉ))))) ĕ))))))))
def RL:MF:=Į 2 5 Wh
def Dk:M Fl:=(Ė (ġ 1 (ņ (aM pJ (ă (Ā 0) ĕ))))
 (Ģ (ņ (dW (Ą aH (Ā 1) (mC (.int 0))) (aM wK (ă (ċ (Ĵ [1] 1 (ŀ 0) (gN 1) İ (Ą Ks (Ą Ĥ (Ā 1) (Ā 0)) (mC (.int 0))))) ĕ))))))
def vB:MF:=Į 1 2 Dk
def Mq:M Fl:=(Ė (ġ 2 (ņ (Ą Ŝ (Ą Ĕ (Ą Ĕ (Ā 0) (mC (.int 1))) (mC (.int 0))) (Ą Ĕ (Ą Ĕ (Ā 0) (mC (.int 0))) (mC (.int 0))))))
 (Ė (ġ 3 (ņ (Ą Ŝ (Ą Ĕ (Ą Ĕ (Ā 0) (mC (.int 1))) (mC (.int 1))) (Ą Ĕ (Ą Ĕ (Ā 0) (mC (.int 0))) (mC (.int 1))))))
 (Ė (ġ 4 (Ĩ ģ (Ą Ĥ (Ā 2) (Ą Ŝ (Ą Ĕ (Ā 1) (mC (.int 0))) (Ą Ĕ (Ą Ĕ (Ā 0) (mC (.int 0))) (mC (.int 0))))) (Ą Ĥ (Ā 3) (Ą Ŝ (Ą Ĕ (Ā 1) (mC (.int 1))) (Ą Ĕ (Ą Ĕ (Ā 0) (mC (.int 0))) (mC (.int 1)))))))
 (Ģ (ū (ă (Ą Ŝ (ċ (Ĩ ģ (Ą Ĥ (Ā 2) (Ā 2)) (Ą Ĥ (Ā 3) (Ā 3)))) (Ā 4)) (ă (Ę 4) ĕ)))))))
def GF:MF:=Į 2 5 Mq
def xV:M Fl:=(Ė (ġ 4 (Č GF (Ċ (ċ (Ĵ [0] 1 (ŀ 3) (gN 1) İ (Ą Ĕ (Ā 0) (Ā 1)))) (Ă 1 ĉ))))
 (bQ (bK (ċ (Č vB (Ă 4 ĉ))))
 (Ģ (Č lO (Ă 4 (Ă 3 (Ă 2 ĉ)))))
 cj))
def xW:M Fl:=(Ė (ġ 4 (Č RL (Ċ (ċ (Ĵ [0] 1 (ŀ 3) (gN 1) İ (Ą Ĕ (Ā 0) (Ā 1)))) (Ă 1 ĉ))))
 (bQ (bK (ċ (Č vB (Ă 4 ĉ))))
 (Ģ (Č lO (Ă 4 (Ă 3 (Ă 2 ĉ)))))
 cj))
def xX:M Fl:=(Ė (ġ 2 (ņ (aM aY (ă (Ā 0) ĕ))))
 (Ė (aR (ń (ċ (Č GD (Ă 2 ĉ)))) (gN 3) xW)
 (Ė (aR (ń (ċ (Č Ai (Ă 2 ĉ)))) (gN 3) xV)
 (Ģ (Č lO (Ċ (ċ (ū (ă (mC (.int 1)) ĕ))) (Ċ (ċ (ū (ă (mC (.int 0)) ĕ))) (Ă 2 ĉ))))))))
def vC:MF:=Į 2 5 xX
def Dl:M Fl:=(Ė (ġ 2 (Č Ah (Ă 0 (Ă 1 ĉ))))
 (Ė (bQ (aP (Ą uo (Ā 2) (mC .non)))
 (Ģ (ņ (ň (ă (mC (.str "in")) (ă (ċ (Č vC (Ă 0 (Ă 1 ĉ)))) ĕ)))))
 cj)
 (Ģ (ņ (ň (ă (mC (.str "out")) (ă (Ę 2) ĕ)))))))
def Aj:MF:=Į 2 3 Dl
def Mr:M Fl:=(Ģ (ņ (ň (ă (ċ (Ĩ ģ (Ą Ĥ (Ą Ĕ (Ā 1) (mC (.int 2))) (Ą Ĕ (Ā 0) (mC (.int 0)))) (Ą Ĥ (Ą Ĕ (Ā 1) (mC (.int 0))) (Ą Ĕ (Ā 0) (mC (.int 2)))))) (ă (ċ (Ĩ ģ (Ą Ĥ (Ą Ĕ (Ā 1) (mC (.int 2))) (Ą Ĕ (Ā 0) (mC (.int 1)))) (Ą Ĥ (Ą Ĕ (Ā 1) (mC (.int 1))) (Ą Ĕ (Ā 0) (mC (.int 2)))))) ĕ)))))
def rM:MF:=Į 2 2 Mr
def Wi:M Fl:=(Ģ (ū (ă (ň (ă (Ę 0) (ă (Ę 1) (ă (Ę 4) ĕ)))) (ă (ň (ă (Ę 2) (ă (Ę 1) (ă (Ę 4) ĕ)))) (ă (ň (ă (Ę 2) (ă (Ę 3) (ă (Ę 4) ĕ)))) (ă (ň (ă (Ę 0) (ă (Ę 3) (ă (Ę 4) ĕ)))) ĕ))))))
def Ib:MF:=Į 5 5 Wi
def Ms:M Fl:=(Ģ (Ĩ ģ (ċ (Č Ib (Ă 0 (Ă 1 (Ă 2 (Ă 3 (Ċ (mC (.int 0)) ĉ))))))) (ċ (Č Ib (Ă 0 (Ă 1 (Ă 2 (Ă 3 (Ă 4 ĉ)))))))))
def Ak:MF:=Į 5 5 Ms
def Mt:M Fl:=(Ė (ġ 1 (ņ (Ą Ĥ (mC (.int 2)) (Ą Ĕ (gY (Ů ["Thing","Post","Fence","Sail","Cloth","House"] "numbers") (Ā 0)) (mC (.int 0))))))
 (Ė (ġ 2 (ņ (Ą Ĥ (mC (.int 2)) (Ą Ĕ (gY (Ů ["Thing","Post","Fence","Sail","Cloth","House"] "numbers") (Ā 0)) (mC (.int 1))))))
 (Ģ (Č Ak (Ċ (Ą Ŝ (Ā 1) (mC (.int 1))) (Ċ (Ą Ŝ (Ā 2) (mC (.int 1))) (Ċ (ċ (Ĩ ģ (Ā 1) (mC (.int 1)))) (Ċ (ċ (Ĩ ģ (Ā 2) (mC (.int 1)))) (Ċ (Ą Ĕ (gY (Ů ["Thing","Post","Fence","Sail","Cloth","House"] "numbers") (Ā 0)) (mC (.int 2))) ĉ)))))))))
def oJ:MF:=Į 1 3 Mt
def Mu:M Fl:=(Ė (ġ 1 (ņ (gY (Ů ["Thing","Post","Fence","Sail","Cloth","House"] "numbers") (Ā 0))))
 (Ė (ġ 2 (ņ (ň (ă (Ą Ĕ (Ā 1) (mC (.int 0))) (ă (Ą Ĕ (Ā 1) (mC (.int 1))) ĕ)))))
 (Ė (ġ 3 (ņ (ň (ă (Ą Ĕ (Ā 1) (mC (.int 2))) (ă (Ą Ĕ (Ā 1) (mC (.int 3))) ĕ)))))
 (Ģ (ū (ă (ċ (Ĩ ģ (Ā 2) (ň (ă (mC (.int 0)) ĕ)))) (ă (ċ (Ĩ ģ (Ā 3) (ň (ă (mC (.int 0)) ĕ)))) (ă (ċ (Ĩ ģ (Ā 3) (ň (ă (Ą Ĕ (Ā 1) (mC (.int 4))) ĕ)))) (ă (ċ (Ĩ ģ (Ā 2) (ň (ă (Ą Ĕ (Ā 1) (mC (.int 4))) ĕ)))) ĕ)))))))))
def oK:MF:=Į 1 4 Mu
def Mv:M Fl:=(Ė (ġ 1 (ņ (gY (Ů ["Thing","Post","Fence","Sail","Cloth","House"] "numbers") (Ā 0))))
 (Ģ (Č Ib (Ċ (Ą Ĕ (Ā 1) (mC (.int 0))) (Ċ (Ą Ĕ (Ā 1) (mC (.int 1))) (Ċ (Ą Ĕ (Ā 1) (mC (.int 2))) (Ċ (Ą Ĕ (Ā 1) (mC (.int 3))) (Ċ (Ą Ĕ (Ā 1) (mC (.int 4))) ĉ))))))))
def oM:MF:=Į 1 2 Mv
def Mw:M Fl:=(Ģ (Ĵ [0] 1 (ń (ň (ă (mC (.int 0)) (ă (mC (.int 3)) (ă (mC (.int 6)) ĕ))))) (gN 1) İ (aM qP (ă (ċ (tK (gY (Ů ["Thing","Post","Fence","Sail","Cloth","House"] "numbers") (Ā 0)) (mP (Ę 1)) (mP (ċ (Ĩ ģ (Ā 1) (mC (.int 3))))))) ĕ))))
def oN:MF:=Į 1 1 Mw
def Wj:M Fl:=(Ė (ġ 1 (ņ (gY (Ů ["Thing","Post","Fence","Sail","Cloth","House"] "numbers") (Ā 0))))
 (Ģ (Č Ak (Ċ (Ą Ĕ (Ā 1) (mC (.int 0))) (Ċ (Ą Ĕ (Ā 1) (mC (.int 1))) (Ċ (Ą Ĕ (Ā 1) (mC (.int 2))) (Ċ (Ą Ĕ (Ā 1) (mC (.int 3))) (Ċ (Ą Ĕ (Ā 1) (mC (.int 4))) ĉ))))))))
def Al:MF:=Į 1 2 Wj
def Mx:M Fl:=(Ģ (Ĵ [1] 1 (ń (ċ (cV "corners" [("Post",oJ),("Fence",oK),("Sail",oM),("Cloth",oN),("House",Al)] (Ę 0) ĉ))) (gN 1) İ (ċ (Č rM (Ă 1 (Ă 0 ĉ))))))
def vD:MF:=Į 2 2 Mx
def Mz:M Fl:=(Ģ (Č rM (Ċ (ň (ă (Ą Ĥ (mC (.int 2)) (Ą Ĕ (Ā 0) (mC (.int 0)))) (ă (Ą Ĥ (mC (.int 2)) (Ą Ĕ (Ā 0) (mC (.int 1)))) (ă (mC (.int 0)) ĕ)))) (Ă 1 ĉ))))
def GJ:MF:=Į 2 2 Mz
def MJ:M Fl:=(Ģ (Č Aj (Ċ (ċ (Č vD (Ă 0 (Ă 2 ĉ)))) (Ċ (ċ (Č GJ (Ă 1 (Ă 2 ĉ)))) ĉ))))
def GK:MF:=Į 3 3 MJ
def Dp:M Fl:=(Ģ (ņ (Ą ŧ (Ą Ĕ (ċ (Č GK (Ă 0 (Ă 1 (Ă 2 ĉ))))) (mC (.int 0))) (mC (.str "in")))))
def jD:MF:=Į 3 3 Dp
def Dq:M Fl:=(Ģ (ņ (dW (Ą cJ (Ā 2) (mC .non)) (ċ (Č jD (Ă 0 (Ă 1 (Ă 2 ĉ))))))))
def rN:MF:=Į 3 3 Dq
def Dr:M Fl:=(Ģ (Č Af (Ċ (ċ (Ĵ [1,0] 3 (ŀ 2) (gT 3 (Đ (gN 2) (Đ (gN 3) (Đ (gN 4) Ĳ)))) İ (ċ (Č rN (Ă 0 (Ă 2 (Ċ (Ą Ĕ (ċ (Č iR (Ă 1 (Ă 3 ĉ)))) (Ā 4)) ĉ))))))) ĉ)))
def oO:MF:=Į 3 3 Dr
def xY:M Fl:=(bQ (bK (ċ (Č jD (Ă 3 (Ă 2 (Ă 1 ĉ))))))
 (Ģ (ņ (mC (.bl true))))
 cj)
def xZ:M Fl:=(Ė (bQ (aP (Ą uo (Ā 1) (mC .non)))
 (Ģ (ņ (mC (.bl true))))
 cj)
 (Ė (aR (ń (gY (Ů ["Yard"] "things") (Ā 0))) (gN 3) xY)
 (Ģ (ņ (mC (.bl false))))))
def iT:MF:=Į 3 4 xZ
def Dt:M Fl:=(Ģ (Č Af (Ċ (ċ (Ĵ [0] 3 (ŀ 1) (gT 3 (Đ (gN 1) (Đ (gN 2) (Đ (gN 3) Ĳ)))) İ (ċ (Č iT (Ă 0 (Ċ (Ą Ĕ (ċ (Č iR (Ă 0 (Ă 2 ĉ)))) (Ā 3)) (Ă 1 ĉ))))))) ĉ)))
def vG:MF:=Į 2 2 Dt
def Du:M Fl:=(Ė (zA (ċ (Č vp (Ă 0 (Ă 2 ĉ)))))
 (Ė (ġ 3 (Ĵ [] 2 (ŀ 1) (gT 2 (Đ (gN 0) (Đ (gN 1) Ĳ))) İ (Ę 1)))
 (Ė (ġ 4 (Ĵ [0,2] 2 (ŀ 1) (gT 2 (Đ (gN 2) (Đ (gN 3) Ĳ))) İ (ċ (Č oO (Ă 0 (Ă 2 (Ă 1 ĉ)))))))
 (Ģ (Č Ae (Ă 3 (Ă 4 (Ċ (aM aY (ă (Ā 2) ĕ)) (Ċ (ċ (Č vG (Ă 0 (Ă 2 ĉ)))) ĉ)))))))))
def lQ:MF:=Į 3 5 Du
def yc:M Fl:=(bQ (aP (Ą ŧ (Ą ı (Ą lB (Ā 0) (Ā 2)) (mC (.int 2))) (mC (.int 0))))
 (Ģ (aG 2))
 cj)
def Dv:M Fl:=(Ė (aR (Ÿ au (ă (Ę 1) ĕ)) (gN 2) yc)
 (Ģ (ņ (mC .non))))
def rP:MF:=Į 2 3 Dv
def MK:M Fl:=(Ģ (ņ (aM pJ (ă (ċ (Ĵ [0,1] 1 (Ÿ au (ă (aM aY (ă (Ā 0) ĕ)) ĕ)) (gN 2) (aP (Ą ŧ (Ą ı (Ą lB (Ā 1) (Ā 2)) (mC (.int 2))) (mC (.int 1)))) (Ą Ĕ (Ā 0) (Ā 2)))) ĕ))))
def Am:MF:=Į 2 2 MK
def MN:M Fl:=(Ģ (ņ (dW (aM pI (ă (Ā 0) (ă (mC (.ty "int")) ĕ))) (ZbV (aM pI (ă (Ā 0) (ă (mC (.ty "bool")) ĕ)))))))
def rQ:MF:=Į 1 1 MN
def yg:M Fl:=(bQ (pG (fu (aP (Ą cJ (Ā 3) (mC .non))) (cD (bK (ċ (Č rQ (Ă 3 ĉ)))))) (aP (Ą aH (Ā 3) (ċ (Č rP (Ă 4 (Ă 2 ĉ)))))))
 (Ģ (ņ (mC (.bl false))))
 cj)
def Dw:M Fl:=(Ė (bQ (pG (cD (bK (aM pI (ă (Ā 0) (ă (mC (.ty "list")) ĕ))))) (aP (Ą aH (aM aY (ă (Ā 0) ĕ)) (aM aY (ă (Ā 1) ĕ)))))
 (Ģ (ņ (mC (.bl false))))
 cj)
 (Ė (aR (wX (wU 0) (wU 1)) (gT 2 (Đ (gN 3) (Đ (gN 4) Ĳ))) yg)
 (Ģ (ņ (mC (.bl true))))))
def Ao:MF:=Į 3 5 Dw
def yj:M Fl:=(bQ (fu (aP (Ą uo (Ą Ĕ (Ą Ĕ (Ā 0) (mC (.int 3))) (Ā 4)) (mC .non))) (aP (Ą Ac (ň (ă (ċ (Č Am (Ă 1 (Ă 4 ĉ)))) (ă (Ę 4) ĕ))) (ň (ă (Ą Ĕ (Ā 0) (mC (.int 2))) (ă (Ą Ĕ (Ā 0) (mC (.int 1))) ĕ))))))
 (Ģ (ņ (mC (.bl false))))
 cj)
def Dz:M Fl:=(Ė (bQ (cD (bK (aM pI (ă (Ā 0) (ă (mC (.ty "tuple")) ĕ)))))
 (Ģ (ņ (mC (.bl false))))
 cj)
 (Ė (bQ (aP (Ą cJ (ċ (Č rP (Ċ (Ą Ĕ (Ā 2) (gY cU (mC (.int 1)))) (Ă 3 ĉ)))) (mC .non)))
 (Ģ (ņ (dW (Ą ŧ (aM aY (ă (Ā 0) ĕ)) (mC (.int 2))) (dW (Ą ŧ (Ą Ĕ (Ā 0) (mC (.int 0))) (mC (.str "none"))) (dW (ċ (Č rQ (Ċ (Ą Ĕ (Ā 0) (mC (.int 1))) ĉ))) (Ą ŧ (Ą Ĕ (Ā 0) (mC (.int 1))) (ċ (Č rP (Ċ (Ą Ĕ (Ā 2) (gY cU (mC (.int 1)))) (Ă 3 ĉ))))))))))
 cj)
 (Ė (bQ (pG (aP (Ą aH (aM aY (ă (Ā 0) ĕ)) (mC (.int 4)))) (pG (aP (Ą aH (Ą Ĕ (Ā 0) (mC (.int 0))) (mC (.str "choice")))) (pG (cD (bK (ċ (Č rQ (Ċ (Ą Ĕ (Ā 0) (mC (.int 1))) ĉ))))) (cD (bK (ċ (Č rQ (Ċ (Ą Ĕ (Ā 0) (mC (.int 2))) ĉ))))))))
 (Ģ (ņ (mC (.bl false))))
 cj)
 (Ė (bQ (pG (cD (bK (ċ (Č Ao (Ċ (Ą Ĕ (Ā 0) (mC (.int 3))) (Ă 2 (Ă 3 ĉ))))))) (pG (cD (aP (pF lE lC (mC (.int 0)) (Ą Ĕ (Ā 0) (mC (.int 1))) (aM aY (ă (Ā 2) ĕ))))) (aP (Ą cJ (Ą Ĕ (Ą Ĕ (Ā 0) (mC (.int 3))) (Ą Ĕ (Ā 0) (mC (.int 1)))) (mC .non)))))
 (Ģ (ņ (mC (.bl false))))
 cj)
 (Ė (bQ (aP (Ą aH (Ą Ĕ (Ā 0) (mC (.int 2))) (ċ (Č Am (Ă 1 (Ċ (Ą Ĕ (Ā 0) (mC (.int 1))) ĉ))))))
 (Ģ (ņ (mC (.bl false))))
 cj)
 (Ė (aR (Ÿ au (ă (aM aY (ă (Ā 2) ĕ)) ĕ)) (gN 4) yj)
 (Ģ (ņ (mC (.bl true))))))))))
def gJ:MF:=Į 4 5 Dz
def DG:M Fl:=(Ė (bQ (aP (Ą ŧ (Ą ı (Ą ţ (Ā 0) (mC (.int 512))) (mC (.int 12))) (mC (.int 7))))
 (Ģ (Ĩ ģ (mC (.int 1)) (Ą ı (Ą Ĥ (Ā 0) (mC (.int 1907))) (Ą ou (mC (.int 10)) (mC (.int 9))))))
 cj)
 (Ģ (Ĩ ģ (mC (.int 1)) (Ą ı (Ā 0) (mC (.int 9))))))
def vH:MF:=Į 1 1 DG
def DK:M Fl:=(Ė (bQ (aP (Ą ŧ (Ą ı (Ą ţ (Ā 0) (mC (.int 512))) (mC (.int 16))) (mC (.int 5))))
 (Ģ (Ĩ ģ (Ą Ŝ (Ą ı (Ą Ĥ (Ā 0) (mC (.int 3813))) (Ą Ŝ (Ą Ĥ (mC (.int 2)) (Ą ou (mC (.int 10)) (mC (.int 9)))) (mC (.int 99)))) (Ą ou (mC (.int 10)) (mC (.int 9)))) (mC (.int 50))))
 cj)
 (Ģ (ņ (Ą Ŝ (Ą ı (Ā 0) (ċ (Ĩ ģ (Ą Ĥ (mC (.int 2)) (Ā 1)) (mC (.int 9))))) (mC (.int 4))))))
def jE:MF:=Į 2 2 DK
def nO:M Fl:=(Ė (ġ 2 (Č b_ (Ă 0 (Ċ (mC (.int 14)) ĉ))))
 (Ė (Ck (gS 2 (Đ (gN 5) (Đ (gN 6) Ĳ))) (ċ (Ĵ [1,2] 1 (Ÿ au (ă (mC (.int 2)) ĕ)) (gN 2) İ (ċ (Č jE (Ċ (Ą Ĕ (Ā 1) (Ā 2)) (Ă 0 ĉ)))))))
 (Ė (ġ 3 (Č vH (Ċ (Ą Ĕ (Ā 2) (mC (.int 2))) ĉ)))
 (Ė (ġ 4 (ņ (Ą ı (Ą Ĕ (Ā 2) (mC (.int 3))) (mC (.int 5)))))
 (Ė (bQ (aP (Ą ŧ (Ā 4) (mC (.int 0))))
 (Ģ (ņ (ň (ă (mC (.str "post")) (ă (ċ (ū (ă (Ą ţ (Ā 5) (mC (.int 2))) (ă (Ą ţ (Ā 6) (mC (.int 2))) (ă (Ę 3) ĕ))))) ĕ)))))
 cj)
 (Ė (bQ (aP (Ą ŧ (Ā 4) (mC (.int 1))))
 (Ė (Ck (gS 2 (Đ (gN 7) (Đ (gN 8) Ĳ))) (ċ (ū (ă (Ą Ŝ (ċ (Ĩ ģ (Ā 5) (Ą ı (Ą Ĕ (Ā 2) (mC (.int 4))) (mC (.int 9))))) (mC (.int 4))) (ă (Ą Ŝ (ċ (Ĩ ģ (Ā 6) (Ą ı (Ą Ĕ (Ā 2) (mC (.int 5))) (mC (.int 9))))) (mC (.int 4))) ĕ)))))
 (Ģ (ņ (ň (ă (mC (.str "fence")) (ă (ċ (ū (ă (Ę 5) (ă (Ę 6) (ă (ċ (Ĩ ģ (Ā 7) (aM La (ă (Ą ŧ (ň (ă (Ę 5) (ă (Ę 6) ĕ))) (ň (ă (Ę 7) (ă (Ę 8) ĕ)))) ĕ)))) (ă (Ę 8) (ă (Ę 3) ĕ))))))) ĕ))))))
 cj)
 (Ė (bQ (aP (Ą ŧ (Ā 4) (mC (.int 2))))
 (Ģ (ņ (ň (ă (mC (.str "cloth")) (ă (ċ (Ĩ ģ (ċ (Ĩ ģ (ċ (ū (ă (Ę 5) (ă (Ę 6) (ă (Ą ı (Ą Ĕ (Ā 2) (mC (.int 6))) (mC (.int 10))) ĕ))))) (ċ (ū (ă (ċ (Č jE (Ċ (Ą Ĕ (Ā 2) (mC (.int 7))) (Ă 1 ĉ)))) (ă (ċ (Č jE (Ċ (Ą Ĕ (Ā 2) (mC (.int 8))) (Ă 1 ĉ)))) (ă (Ę 3) ĕ))))))) (ċ (ū (ă (ċ (Č jE (Ċ (Ą Ĕ (Ā 2) (mC (.int 9))) (Ă 1 ĉ)))) (ă (ċ (Č jE (Ċ (Ą Ĕ (Ā 2) (mC (.int 10))) (Ă 1 ĉ)))) (ă (ċ (Č vH (Ċ (Ą Ĕ (Ā 2) (mC (.int 11))) ĉ))) ĕ))))))) ĕ)))))
 cj)
 (Ģ (ņ (ň (ă (Ą Ĕ (ċ (ū (ă (mC (.str "sail")) (ă (mC (.str "house")) ĕ)))) (Ą Ŝ (Ā 4) (mC (.int 3)))) (ă (ċ (ū (ă (Ę 5) (ă (Ę 6) (ă (ċ (Ĩ ģ (ċ (Ĩ ģ (Ā 5) (mC (.int 1)))) (Ą ı (Ą Ĕ (Ā 2) (mC (.int 4))) (mC (.int 8))))) (ă (ċ (Ĩ ģ (ċ (Ĩ ģ (Ā 6) (mC (.int 1)))) (Ą ı (Ą Ĕ (Ā 2) (mC (.int 5))) (mC (.int 8))))) (ă (Ę 3) ĕ))))))) ĕ))))))))))))
def dI:MF:=Į 2 9 nO
def MP:M Fl:=(Ģ (ņ (pF lE lE (gY cU (mC (.int (1000000000)))) (Ā 0) (mC (.int (1000000000))))))
def oR:MF:=Į 1 1 MP
def M_:M Fl:=(Ģ (ņ (pF lE lE (mC (.int 1)) (Ā 0) (mC (.int (1000000000))))))
def Aq:MF:=Į 1 1 M_
def DN:M Fl:=(Ģ (ņ (dW (Ą ŧ (aM aY (ă (Ā 0) ĕ)) (mC (.int 3))) (dW (ċ (Č oR (Ċ (Ą Ĕ (Ā 0) (mC (.int 0))) ĉ))) (dW (ċ (Č oR (Ċ (Ą Ĕ (Ā 0) (mC (.int 1))) ĉ))) (ċ (Č Aq (Ċ (Ą Ĕ (Ā 0) (mC (.int 2))) ĉ))))))))
def Ar:MF:=Į 1 1 DN
def gK:M Fl:=(Ė (jB 0 ["Thing","Post","Fence","Sail","Cloth","House"] "word" (Ę 1))
 (jB 0 ["Thing","Post","Fence","Sail","Cloth","House"] "numbers" (ċ (iC bH (ă (Ā 2) ĕ)))))
def yq:MI:=dF 3 3 "Post" gK
def rT:MI:=dF 3 3 "Fence" gK
def yr:MI:=dF 3 3 "Sail" gK
def rW:MI:=dF 3 3 "Cloth" gK
def rY:MI:=dF 3 3 "House" gK
def DP:M Fl:=(Ģ (ņ (dW (Ą ŧ (aM aY (ă (Ā 0) ĕ)) (mC (.int 5))) (dW (aM wK (ă (ċ (Ĵ [] 1 (ń (ċ (tK (Ā 0) zJ (mP (mC (.int 4)))))) (gN 0) İ (ċ (Č oR (Ă 0 ĉ))))) ĕ)) (ċ (Č Aq (Ċ (Ą Ĕ (Ā 0) (mC (.int 4))) ĉ)))))))
def vI:MF:=Į 1 1 DP
def DQ:M Fl:=(Ģ (ņ (dW (ċ (Č vI (Ă 0 ĉ))) (Ą aH (ċ (tK (Ā 0) zJ (mP (mC (.int 2))))) (ċ (tK (Ā 0) (mP (mC (.int 2))) (mP (mC (.int 4)))))))))
def Av:MF:=Į 1 1 DQ
def Nb:M Fl:=(Ģ (ņ (dW (ċ (Č vI (Ă 0 ĉ))) (dW (Ą lC (Ą Ĕ (Ā 0) (mC (.int 0))) (Ą Ĕ (Ā 0) (mC (.int 2)))) (Ą lC (Ą Ĕ (Ā 0) (mC (.int 1))) (Ą Ĕ (Ā 0) (mC (.int 3))))))))
def Ie:MF:=Į 1 1 Nb
def Wk:M Fl:=(Ģ (ņ (dW (ċ (Č oR (Ċ (Ą Ĕ (Ā 0) (mC (.int 0))) ĉ))) (dW (ċ (Č oR (Ċ (Ą Ĕ (Ā 0) (mC (.int 1))) ĉ))) (pF lE lE (mC (.int 0)) (Ą Ĕ (Ā 0) (mC (.int 2))) (mC (.int (1000000000))))))))
def RM:MF:=Į 1 1 Wk
def DR:M Fl:=(Ģ (ņ (dW (Ą ŧ (aM aY (ă (Ā 0) ĕ)) (mC (.int 9))) (aM wK (ă (ċ (Ĵ [0] 1 (ń (ň (ă (mC (.int 0)) (ă (mC (.int 3)) (ă (mC (.int 6)) ĕ))))) (gN 1) İ (ċ (Č RM (Ċ (ċ (tK (Ā 0) (mP (Ę 1)) (mP (ċ (Ĩ ģ (Ā 1) (mC (.int 3))))))) ĉ))))) ĕ)))))
def Aw:MF:=Į 1 1 DR
def kj:M Fl:=(Ė (bQ (fu (aP (Ą ŧ (Ā 0) (mC (.str "post")))) (bK (ċ (Č Ar (Ă 1 ĉ)))))
 (Ģ (ņ (cF "Post" yq (Ă 0 (Ă 1 ĉ)))))
 cj)
 (Ė (bQ (fu (aP (Ą ŧ (Ā 0) (mC (.str "fence")))) (bK (ċ (Č Av (Ă 1 ĉ)))))
 (Ģ (ņ (cF "Fence" rT (Ă 0 (Ă 1 ĉ)))))
 cj)
 (Ė (bQ (fu (aP (Ą ŧ (Ā 0) (mC (.str "sail")))) (bK (ċ (Č Ie (Ă 1 ĉ)))))
 (Ģ (ņ (cF "Sail" yr (Ă 0 (Ă 1 ĉ)))))
 cj)
 (Ė (bQ (fu (aP (Ą ŧ (Ā 0) (mC (.str "cloth")))) (bK (ċ (Č Aw (Ă 1 ĉ)))))
 (Ģ (ņ (cF "Cloth" rW (Ă 0 (Ă 1 ĉ)))))
 cj)
 (Ė (bQ (fu (aP (Ą ŧ (Ā 0) (mC (.str "house")))) (bK (ċ (Č Ie (Ă 1 ĉ)))))
 (Ģ (ņ (cF "House" rY (Ă 0 (Ă 1 ĉ)))))
 cj)
 HF)))))
def cX:MF:=Į 2 2 kj
def DW:M Fl:=(Ė (bQ (aP (Ą lC (Ā 1) (Ā 0)))
 (Ģ (ņ (mC (.int 0))))
 cj)
 (Ģ (ņ (Ą Ŝ (Ą lA (mC (.int 1)) (ċ (Ĩ ģ (Ā 1) (mC (.int 1))))) (Ą lA (mC (.int 1)) (Ā 0))))))
def vJ:MF:=Į 2 2 DW
def dX:M Fl:=(Ė (ġ 9 (ņ (Ą Ĥ (Ā 6) (Ā 1))))
 (Ė (ġ 10 (ņ (Ą Ŝ (Ā 8) (Ą Ĥ (Ą Ĥ (Ā 7) (Ā 1)) (Ā 2)))))
 (bQ (aP (Ą Rj (Ā 9) (mC (.int 0))))
 (ġ 5 (ņ (aM uT (ă (Ā 5) (ă (Ą ţ (Ā 10) (Ā 9)) ĕ)))))
 (bQ (aP (Ą lC (Ā 9) (mC (.int 0))))
 (ġ 4 (ņ (aM Ge (ă (Ā 4) (ă (gY cU (Ą ţ (Ā 10) (gY cU (Ā 9)))) ĕ)))))
 (bQ (aP (Ą lC (Ā 10) (mC (.int 0))))
 (Ģ (ņ (mC (.int 0))))
 cj)))))
def DX:M Fl:=(Ė (ġ 4 (ņ (mC (.int 0))))
 (Ė (ġ 5 (ņ (Ą Ŝ (Ā 3) (mC (.int 1)))))
 (Ė (aR (ŀ 0) (gT 3 (Đ (gN 6) (Đ (gN 7) (Đ (gN 8) Ĳ)))) dX)
 (Ģ (Č vJ (Ă 4 (Ă 5 ĉ)))))))
def Ax:MF:=Į 4 11 DX
def yu:M Fl:=(qY 4 (Ą lA (ċ (Č Ax (Ă 3 (Ċ (Ą Ĥ (mC (.int 2)) (Ą Ĕ (Ā 2) (mC (.int 2)))) (Ă 5 (Ċ (gY (Ů ["Yard"] "width") (Ā 0)) ĉ)))))) (Ą Ĥ (Ā 5) (gY (Ů ["Yard"] "width") (Ā 0)))))
def Nf:M Fl:=(Ė (ġ 3 (Č Ag (Ċ (ċ (Č vD (Ă 1 (Ă 2 ĉ)))) ĉ)))
 (Ė (ġ 4 (ņ (mC (.int 0))))
 (Ė (aR (Ÿ au (ă (gY (Ů ["Yard"] "height") (Ā 0)) ĕ)) (gN 5) yu)
 (Ģ (aG 4)))))
def vK:MF:=Į 3 6 Nf
def Wm:M Fl:=(Ģ (Ĵ [0,1] 1 (ń (gY (Ů ["Yard"] "things") (Ā 0))) (gN 2) İ (ċ (Č vK (Ă 0 (Ă 2 (Ă 1 ĉ)))))))
def RN:MF:=Į 2 2 Wm
def DY:M Fl:=(qY 2 (Ę 3))
def D_:M Fl:=(Ė (bQ (aP (Ą uo (Ā 1) (mC .non)))
 (Ģ (Č vJ (Ċ (mC (.int 0)) (Ċ (Ą Ŝ (Ą Ĥ (gY (Ů ["Yard"] "width") (Ā 0)) (gY (Ů ["Yard"] "height") (Ā 0))) (mC (.int 1))) ĉ))))
 cj)
 (Ė (ġ 2 (ņ (mC (.int 0))))
 (Ė (aR (ń (ċ (Č RN (Ă 0 (Ă 1 ĉ))))) (gN 3) DY)
 (Ģ (aG 2)))))
def vL:MF:=Į 2 4 D_
def rZ:M Fl:=(Ė (Ck (gS 3 (Đ (gN 5) (Đ (gN 6) (Đ (gN 7) Ĳ)))) (Ą Ĕ (Ā 1) (Ā 3)))
 (Ė (ġ 4 (Č vL (Ă 0 (Ċ (Ą Ĕ (Ą Ĕ (Ą Ĕ (gY (Ů ["Yard"] "days") (Ā 0)) (Ā 6)) (mC (.int 2))) (Ā 7)) ĉ))))
 (ġ 2 (Ĩ ģ (Ā 2) (Ą lA (Ą ı (Ą lB (Ā 4) (ċ (Ĩ ģ (Ą Ĥ (Ą Ĕ (Ā 5) (mC (.int 1))) (gY (Ů ["Yard"] "width") (Ā 0))) (Ą Ĕ (Ā 5) (mC (.int 0)))))) (mC (.int 2))) (Ā 3))))))
def Ng:M Fl:=(Ė (ġ 2 (ņ (mC (.int 0))))
 (Ė (aR (Ÿ au (ă (aM aY (ă (Ā 1) ĕ)) ĕ)) (gN 3) rZ)
 (Ģ (aG 2))))
def vM:MF:=Į 2 8 Ng
def nP:M Fl:=(Ė (Ck (gS 3 (Đ (gN 6) (Đ (gN 7) (Đ (gN 8) Ĳ)))) (Ą Ĕ (Ā 2) (Ā 4)))
 (Ė (ġ 5 (ņ (Ą Ĕ (Ą Ĕ (Ą Ĕ (Ā 1) (Ā 7)) (mC (.int 2))) (Ā 8))))
 (bQ (fu (aP (Ą cJ (Ā 5) (mC .non))) (bK (ċ (Č jD (Ă 0 (Ă 6 (Ă 5 ĉ)))))))
 (ġ 3 (Ĩ ģ (Ā 3) (Ą lA (mC (.int 1)) (Ā 4))))
 cj)))
def Nh:M Fl:=(Ė (ġ 3 (ņ (mC (.int 0))))
 (Ė (aR (Ÿ au (ă (aM aY (ă (Ā 2) ĕ)) ĕ)) (gN 4) nP)
 (Ģ (aG 3))))
def vN:MF:=Į 3 9 Nh
def su:M Fl:=(Ģ (ņ (Ą Ĕ (ċ (ū (ă (mC (.int 0)) (ă (Ą ı (Ą ţ (Ā 0) (mC (.int 4))) (mC (.int 4))) (ă (Ą ı (Ą ţ (Ā 0) (mC (.int 4))) (mC (.int 4))) (ă (Ą ı (Ą ţ (Ā 0) (mC (.int 4))) (ċ (Ĩ ģ (Ą ou (mC (.int 10)) (mC (.int 9))) (mC (.int 1))))) ĕ)))))) (Ą ı (Ā 0) (mC (.int 4))))))
def sy:MF:=Į 1 1 su
def Ni:M Fl:=(Ģ (ņ (mBM zQ (mC (.str " ")) (ă (ċ (Ĩ ģ (ċ (ū (ă (gY (Ů ["Thing","Post","Fence","Sail","Cloth","House"] "word") (Ā 0)) ĕ))) (ċ (Ĵ [] 1 (ń (gY (Ů ["Thing","Post","Fence","Sail","Cloth","House"] "numbers") (Ā 0))) (gN 0) İ (aM HS (ă (Ā 0) ĕ)))))) ĕ))))
def ĵ:MF:=Į 1 1 Ni
def kE:M Fl:=(Ė (Ck (gS 2 (Đ (gN 14) (Đ (gN 15) Ĳ))) (ċ (Č dI (Ċ (Ą ţ (Ā 7) (mC (.int 3))) (Ċ (aM fH (ă (Ā 1) ĕ)) ĉ)))))
 (Ė (ġ 13 (Č cX (Ă 14 (Ċ (ċ (iC bH (ă (Ā 15) ĕ))) ĉ))))
 (Ė (bQ (fu (aP (Ą Gp (Ā 6) (ċ (ū ĕ)))) (aP (Ą ŧ (Ą ı (Ą ţ (Ā 7) (mC (.int 48))) (mC (.int 8))) (mC (.int 5)))))
 (ġ 13 (ņ (Ą Ĕ (Ą Ĕ (Ā 6) (mC (.int 0))) (mC (.int 0)))))
 cj)
 (pH 6 (ň (ă (Ę 13) (ă (ċ (Č sy (Ă 7 ĉ))) ĕ)))))))
def Ea:M Fl:=(Ė (ġ 1 (Č fJ (Ċ (ċ (Č Ŋ (Ă 0 (Ċ (mC (.int 0)) ĉ)))) (Ċ (mC (.int 9)) ĉ))))
 (Ė (ġ 2 (Ĵ [1] 1 (ń (ċ (tK (Ā 0) (mP (mC (.int 2))) (mP (mC (.int 4)))))) (gN 1) İ (ċ (Č dI (Ă 1 (Ċ (aM fH (ă (Ā 0) ĕ)) ĉ))))))
 (Ė (ġ 3 (Č oE (Ă 0 (Ċ (mC (.int 4)) (Ċ (ċ (Ĩ ģ (mC (.int 1)) (Ą ı (ċ (Č Ŋ (Ă 0 (Ċ (mC (.int 1)) ĉ)))) (mC (.int 3))))) (Ċ (mC (.int 4)) ĉ))))))
 (Ė (ġ 4 (ū (ă (ċ (tK (Ā 0) (mP (mC (.int 7))) (mP (ċ (Ĩ ģ (mC (.int 7)) (Ą ı (Ą ţ (ċ (Č Ŋ (Ă 0 (Ċ (mC (.int 1)) ĉ)))) (mC (.int 3))) (mC (.int 5)))))))) (ă (ċ (tK (Ā 0) (mP (mC (.int 11))) (mP (mC (.int 17))))) ĕ))))
 (Ė (bQ (aP (Ą ŧ (Ą ı (Ą ţ (ċ (Č Ŋ (Ă 0 (Ċ (mC (.int 1)) ĉ)))) (mC (.int 15))) (mC (.int 16))) (mC (.int 7))))
 (Ė (ġ 1 (ņ (ň (ă (ċ (Ĩ ģ (mC (.int 1)) (Ą ı (ċ (Č Ŋ (Ă 0 (Ċ (mC (.int 0)) ĉ)))) (mC (.int 2))))) (ă (mC (.int 1)) ĕ)))))
 (Ė (ġ 2 (tK (Ā 2) zJ (mP (mC (.int 1)))))
 (Ė (ġ 4 (ū (ă (ċ (Ĵ [] 1 (ń (ċ (Č b_ (Ċ (ċ (Č Ŋ (Ă 0 (Ċ (mC (.int 7)) ĉ)))) (Ċ (mC (.int 8)) ĉ))))) (gN 0) İ (ċ (Ĩ ģ (Ą Ĥ (mC (.int 6)) (Ā 0)) (mC (.int 3)))))) ĕ)))
 (pH 4 (ċ (Ĵ [] 1 (ń (ċ (Č b_ (Ċ (ċ (Č Ŋ (Ă 0 (Ċ (mC (.int 11)) ĉ)))) (Ċ (mC (.int 60)) ĉ))))) (gN 0) İ (ċ (Ĩ ģ (Ą Ĥ (mC (.int 2)) (Ā 0)) (mC (.int 1))))))))))
 cj)
 (Ė (ġ 5 (ņ (cF "Yard" lN (Ċ (Ą Ĕ (Ā 1) (mC (.int 0))) (Ċ (Ą Ĕ (Ā 1) (mC (.int 1))) (Ċ (ċ (Ĵ [] 2 (ŀ 2) (gT 2 (Đ (gN 0) (Đ (gN 1) Ĳ))) İ (ċ (Č cX (Ă 0 (Ċ (ċ (iC bH (ă (Ā 1) ĕ))) ĉ)))))) (Ă 3 ĉ)))))))
 (Ė (ġ 6 (ū ĕ))
 (Ė (aR (ń (Ą Ĕ (Ā 4) (mC (.int 0)))) (gN 7) kE)
 (Ė (ġ 8 (Č Lw (Ċ (Ą Ĕ (Ā 4) (mC (.int 1))) (Ă 1 (Ă 3 ĉ)))))
 (Ė (ġ 9 (Ĵ [] 2 (ŀ 6) (gT 2 (Đ (gN 0) (Đ (gN 1) Ĳ))) İ (Ę 1)))
 (Ė (ġ 10 (Č vm (Ċ (ċ (Ĵ [3,8] 2 (ŀ 6) (gT 2 (Đ (gN 2) (Đ (gN 3) Ĳ))) İ (ċ (Č vN (Ă 2 (Ă 0 (Ă 1 ĉ))))))) (Ċ (ċ (Č vM (Ă 5 (Ă 8 ĉ)))) ĉ))))
 (Ė (ġ 11 (ū (ă (ċ (iC bH (ă (Ā 6) ĕ))) (ă (ċ (iC bH (ă (Ā 8) ĕ))) ĕ))))
 (Ė (ġ 12 (Č lQ (Ă 5 (Ċ (Ą Ĕ (Ā 11) (mC (.int 0))) (Ċ (Ą Ĕ (Ā 11) (mC (.int 1))) ĉ)))))
 (Ė (bQ (pG (cD (bK (ċ (Č gJ (Ă 12 (Ă 9 (Ă 10 (Ċ (aM aY (ă (Ā 8) ĕ)) ĉ)))))))) (aP (Ą aH (Ą Ĕ (Ā 11) (mC (.int 1))) (Ā 8))))
 (Ģ (ņ (mC (.bl false))))
 cj)
 (Ė (bQ (aP (Ą aH (ċ (Ĵ [] 2 (ń (Ą Ĕ (Ā 11) (mC (.int 0)))) (gT 2 (Đ (gN 0) (Đ (gN 1) Ĳ))) İ (ň (ă (ċ (cV "shown" [("Thing",ĵ),("Post",ĵ),("Fence",ĵ),("Sail",ĵ),("Cloth",ĵ),("House",ĵ)] (Ę 0) ĉ)) (ă (Ę 1) ĕ))))) (ċ (Ĵ [] 2 (ŀ 6) (gT 2 (Đ (gN 0) (Đ (gN 1) Ĳ))) İ (ň (ă (ċ (cV "shown" [("Thing",ĵ),("Post",ĵ),("Fence",ĵ),("Sail",ĵ),("Cloth",ĵ),("House",ĵ)] (Ę 0) ĉ)) (ă (Ę 1) ĕ)))))))
 (Ģ (ņ (mC (.bl false))))
 cj)
 (Ģ (Č gJ (Ċ (ċ (Č lQ (Ă 5 (Ă 6 (Ă 8 ĉ))))) (Ă 9 (Ă 10 (Ċ (aM aY (ă (Ā 8) ĕ)) ĉ)))))))))))))))))))))
def sE:MF:=Į 1 16 Ea
set_option genInjectivity false
set_option genSizeOf false
structure Nj where
 {Wn Wo Wq Wr Ws Zcr Zfa Wu Wv Ww Wx Wy Wz WD WK Nk WL WM WQ WR WT WW WX WY W_ Xa Xb Xc Xd Zfb Xe Xf Xg Zfc Xh Xi Xj Xk Xl Zfd Xm Nm Np Nq Nr Zcs Xn Xo Xp Xq Xr Xu Xv Xw Xx Xy Xz XC XD XF XH XJ XM XQ XR X_ pL Yb Yc Zfe Zff Yd Ye Yg Yh Yi Zfg Yj Yk Yl Ym oU Yn Eb ql Ec yx Ed yC yD:Addr}
 {Yo Yp Yq Yr Ys Zfh Zfi Yt Yu Yw Yx Yy Yz YB YC YD YF YG YH YJ YK YL YM YQ YT YW YX YZ Y_ Zfj Z_ Zaa Zab Zfk Zac Zad Zae Zaf Zag Zfl Zah Zai Zaj Zak Zal Zfm Zam Zan Zao Zap Zaq Zar Zas Zat Zau Zav Zaw Zax Zay Zaz ZaA ZaB ZaC ZaD ZaE ZaF Ig ZaG ZaH Zfn Zfo ZaI ZaJ ZaK ZaL ZaM Zfp ZaN ZaO ZaP ZaQ ZaR Nt:FuncData}
 {uw yE:Tok}
def Ķ(a:Nj):String->Addr:=cmB a.Eb a.ql a.Ec a.yx a.Ed a.yC a.yD
structure Tx(K:PySem.W.Frag)(mg:Str->Option Value)(a:Nj):Prop where
 Zct:mg "Yard" =some (.ref a.Eb)
 Zgc:mg "Thing" =some (.ref a.ql)
 Zcu:mg "Post" =some (.ref a.Ec)
 RP:mg "Fence" =some (.ref a.yx)
 Zcv:mg "Sail" =some (.ref a.Ed)
 RQ:mg "Cloth" =some (.ref a.yC)
 RT:mg "House" =some (.ref a.yD)
 oV:Df K mg "_law_size" TJ ["_law_cell","_law_most"] a.Wn a.Yo
 Ŷ:Df K mg "_law_at" TQ ["_law_script","_law_k"] a.Wo a.Yp
 ŷ:Df K mg "_law_grains" TY ["_law_cell","_law_many"] a.Wq a.Yq
 sG:Df K mg "_law_sky" T_ ["_law_xs"] a.Wr a.Yr
 oW:Df K mg "_law_days" Ua ["_law_script","_law_start","_law_many","_law_long"] a.Ws a.Ys
 gM:Dm K a.Eb "__init__" "Yard.__init__" Ze1 ["self","width","height","things","days"] a.Zcr a.Zfh
 cY:Df K mg "_law_drawn_wants" Ze2 ["_law_cells","_law_size_here","_law_days_here"] a.Zfa a.Zfi
 lR:Df K mg "_law_meets" Ub ["_law_covers","_law_base_here"] a.Wu a.Yt
 oX:Df K mg "has_stone" Uc ["yard","stone"] a.Wv a.Yu
 jF:Df K mg "check_stone" Ud ["yard","stone"] a.Ww a.Yw
 vO:Df K mg "has_day" Ue ["yard","day"] a.Wx a.Yx
 gj:Df K mg "turns_of" Ug ["yard","day"] a.Wy a.Yy
 lU:Df K mg "check_turn" Uh ["yard","day","turn"] a.Wz a.Yz
 jG:Df K mg "check_wants" Ui ["yard","wants"] a.WD a.YB
 lV:Df K mg "chosen" Uj ["values","choice"] a.WK a.YC
 sI:Df K mg "cheapest" Lq ["prices","choices"] a.Nk a.YD
 gO:Df K mg "least_missing" Uk ["met","many"] a.WL a.YF
 Ay:Df K mg "met_by" Ul ["covers","choice","base"] a.WM a.YG
 bC:Dd K mg "least_choice" Um ["prices","covers","many","base"] 0 a.WQ a.YH
 dY:Df K mg "set_of_true" Uo ["truths"] a.WR a.YJ
 oY:Df K mg "box_lines" Uq ["points"] a.WT a.YK
 oZ:Df K mg "each_once" Ur ["points"] a.WW a.YL
 iU:Df K mg "line_through" Us ["one","other"] a.WX a.YM
 yF:Df K mg "holds" Ut ["line","pair"] a.WY a.YQ
 lW:Df K mg "edge_lines" Uu ["points"] a.W_ a.YT
 dZ:Df K mg "lines_about" Uv ["points"] a.Xa a.YW
 iV:Df K mg "parting_line" Uw ["points","point"] a.Xb a.YX
 eE:Df K mg "pairs_below" Ux ["many"] a.Xc a.YZ
 gP:Df K mg "triples_below" Uy ["many"] a.Xd a.Y_
 cZ:Df K mg "greatest_divisor" Ze3 ["one","other"] a.Zfb a.Zfj
 yG:Df K mg "ratio" Uz ["top","bottom"] a.Xe a.Z_
 lX:Df K mg "spread" UG ["shares","places","many"] a.Xf a.Zaa
 lY:Df K mg "turned" UJ ["one","other","third"] a.Xg a.Zab
 dJ:Df K mg "shares_of_three" Ze4 ["corners","point"] a.Zfc a.Zfk
 eG:Df K mg "are_weights" UL ["shares"] a.Xh a.Zac
 gQ:Df K mg "shares_of_two" UW ["ends","point"] a.Xi a.Zad
 lZ:Df K mg "weights_of" U_ ["points","point"] a.Xj a.Zae
 Nu:Df K mg "held" Va ["points","point"] a.Xk a.Zaf
 Ef:Df K mg "cast" Vb ["point","ray"] a.Xl a.Zag
 aL:Df K mg "level_corners" Ze5 ["x","y","u","v","z"] a.Zfd a.Zfl
 cA:Df K mg "block_corners" Vc ["x","y","u","v","h"] a.Xm a.Zah
 iW:Dm K a.Ec "corners" "Post.corners" Vd ["self"] a.Nm a.Zai
 gR:Dm K a.yx "corners" "Fence.corners" Ve ["self"] a.Np a.Zaj
 iY:Dm K a.Ed "corners" "Sail.corners" Vf ["self"] a.Nq a.Zak
 gU:Dm K a.yC "corners" "Cloth.corners" Vg ["self"] a.Nr a.Zal
 gW:Dm K a.yD "corners" "House.corners" Ze6 ["self"] a.Zcs a.Zfm
 dg:Df K mg "corner_casts" Vh ["thing","ray"] a.Xn a.Zam
 mj:Df K mg "stone_cast" Vi ["stone","ray"] a.Xo a.Zan
 vP:Df K mg "shading" Vj ["thing","stone","ray"] a.Xp a.Zao
 mq:Df K mg "shades" Vk ["thing","stone","ray"] a.Xq a.Zap
 jH:Df K mg "gives_shade" Vl ["thing","stone","turn"] a.Xr a.Zaq
 iZ:Df K mg "met_by_thing" Vm ["yard","thing","wants"] a.Xu a.Zar
 vQ:Df K mg "is_dark" Vn ["yard","turn","stone"] a.Xv a.Zas
 jJ:Df K mg "met_at_once" Vo ["yard","wants"] a.Xw a.Zat
 i_:Df K mg "keep_dark" Vp ["yard","offers","wants"] a.Xx a.Zau
 cL:Df K mg "_law_unmet" Vq ["_law_found","_law_many"] a.Xy a.Zav
 gn:Df K mg "_law_price" Vr ["_law_prices","_law_choice"] a.Xz a.Zaw
 bD:Df K mg "_law_whole" Vs ["_law_found"] a.XC a.Zax
 mz:Df K mg "_law_paper" Vt ["_law_paper_here","_law_meets_here","_law_many"] a.XD a.Zay
 jc:Df K mg "_law_told" Vu ["_law_told_here","_law_prices","_law_meets_here","_law_many"] a.XF a.Zaz
 eN:Df K mg "_law_height" Vv ["_law_number"] a.XH a.ZaA
 ak:Df K mg "_law_place" Vw ["_law_number","_law_wide"] a.XJ a.ZaB
 gq:Df K mg "_law_thing" Vx ["_law_cell","_law_wide"] a.XM a.ZaC
 bN:Df K mg "is_place" Vy ["number"] a.XQ a.ZaD
 jd:Df K mg "is_height" Vz ["number"] a.XR a.ZaE
 mD:Df K mg "makes_post" VB ["numbers"] a.X_ a.ZaF
 ķ:Dm K a.ql "__init__" "Thing.__init__" Ze7 ["self","word","numbers"] a.pL a.Ig
 dh:Df K mg "has_two_ends" VD ["numbers"] a.Yb a.ZaG
 jK:Df K mg "makes_fence" VF ["numbers"] a.Yc a.ZaH
 Ź:Df K mg "makes_sail_or_house" Ze8 ["numbers"] a.Zfe a.Zfn
 dM:Df K mg "is_cloth_corner" Ze9 ["numbers"] a.Zff a.Zfo
 jL:Df K mg "makes_cloth" VG ["numbers"] a.Yd a.ZaI
 kI:Df K mg "thing_of" VH ["word","numbers"] a.Ye a.ZaJ
 je:Df K mg "span_bits" VJ ["first","last"] a.Yg a.ZaK
 sJ:Df K mg "row_bits" VL ["lines","unit","q","width"] a.Yh a.ZaL
 vR:Df K mg "dark_of" VN ["yard","thing","ray"] a.Yi a.ZaM
 dN:Df K mg "darks_of_things" Ze_ ["yard","ray"] a.Zfg a.Zfp
 Nv:Df K mg "dark" VP ["yard","turn"] a.Yj a.ZaN
 o_:Df K mg "_law_base" VR ["_law_yard","_law_wants"] a.Yk a.ZaO
 mF:Df K mg "_law_cover" V_ ["_law_thing_here","_law_days_here","_law_wants"] a.Yl a.ZaP
 mG:Df K mg "_law_money" Wa ["_law_cell"] a.Ym a.ZaQ
 ĸ:Dm K a.ql "shown" "Thing.shown" Wb ["self"] a.oU a.ZaR
 Nx:Df K mg "law" Wc ["_law_script"] a.Yn a.Nt
 jM:mg "MOST_HEIGHT" =some (.int (1000000000) a.uw)
 mH:mg "MOST_PLACE" =some (.int (1000000000) a.yE)
 Zfq:mg "abs" =none
 GP:mg "all" =none
 Zcw:mg "bool" =none
 jf:mg "enumerate" =none
 ZaS:mg "int" =none
 cM:mg "isinstance" =none
 aB:mg "len" =none
 cB:mg "list" =none
 Az:mg "max" =none
 vU:mg "min" =none
 ť:mg "range" =none
 Zfr:mg "str" =none
 A_:mg "sum" =none
 GQ:mg "tuple" =none
 ZaT:mg "zip" =none
 yH:Cls K (Ķ a "Yard")
 Zcx:Mk K (Ķ a "Yard") a.Zcr
 yI:Ń K (Ķ a "Yard") "width"
 ux:Ń K (Ķ a "Yard") "height"
 uy:Ń K (Ķ a "Yard") "things"
 Ba:Ń K (Ķ a "Yard") "days"
 qm:Cls K (Ķ a "Thing")
 Zgd:Mk K (Ķ a "Thing") a.pL
 yJ:Ń K (Ķ a "Thing") "word"
 pN:Ń K (Ķ a "Thing") "numbers"
 jN:Meth K (Ķ a "Thing") "shown" a.oU
 sO:Cls K (Ķ a "Post")
 Zcy:Mk K (Ķ a "Post") a.pL
 Bb:Ń K (Ķ a "Post") "word"
 sS:Ń K (Ķ a "Post") "numbers"
 mJ:Meth K (Ķ a "Post") "shown" a.oU
 sU:Meth K (Ķ a "Post") "corners" a.Nm
 mK:Cls K (Ķ a "Fence")
 RW:Mk K (Ķ a "Fence") a.pL
 yK:Ń K (Ķ a "Fence") "word"
 pO:Ń K (Ķ a "Fence") "numbers"
 jO:Meth K (Ķ a "Fence") "shown" a.oU
 pP:Meth K (Ķ a "Fence") "corners" a.Np
 sV:Cls K (Ķ a "Sail")
 Zcz:Mk K (Ķ a "Sail") a.pL
 Bc:Ń K (Ķ a "Sail") "word"
 sW:Ń K (Ķ a "Sail") "numbers"
 mL:Meth K (Ķ a "Sail") "shown" a.oU
 sX:Meth K (Ķ a "Sail") "corners" a.Nq
 mO:Cls K (Ķ a "Cloth")
 RX:Mk K (Ķ a "Cloth") a.pL
 yL:Ń K (Ķ a "Cloth") "word"
 pQ:Ń K (Ķ a "Cloth") "numbers"
 jP:Meth K (Ķ a "Cloth") "shown" a.oU
 pR:Meth K (Ķ a "Cloth") "corners" a.Nr
 mQ:Cls K (Ķ a "House")
 RZ:Mk K (Ķ a "House") a.pL
 yM:Ń K (Ķ a "House") "word"
 pU:Ń K (Ķ a "House") "numbers"
 jQ:Meth K (Ķ a "House") "shown" a.oU
 pW:Meth K (Ķ a "House") "corners" a.Zcs
 Eh:Zcj K "cheapest" a.Nk=true
def Z33{K:PySem.W.Frag}{mg:Str->Option Value}{a:Nj}(T:Tx K mg a):mg "Yard" =some (.ref (Ķ a "Yard")):=T.Zct
def Z34{K:PySem.W.Frag}{mg:Str->Option Value}{a:Nj}(T:Tx K mg a):mg "Post" =some (.ref (Ķ a "Post")):=T.Zcu
def Z2m{K:PySem.W.Frag}{mg:Str->Option Value}{a:Nj}(T:Tx K mg a):mg "Fence" =some (.ref (Ķ a "Fence")):=T.RP
def Z35{K:PySem.W.Frag}{mg:Str->Option Value}{a:Nj}(T:Tx K mg a):mg "Sail" =some (.ref (Ķ a "Sail")):=T.Zcv
def Z2n{K:PySem.W.Frag}{mg:Str->Option Value}{a:Nj}(T:Tx K mg a):mg "Cloth" =some (.ref (Ķ a "Cloth")):=T.RQ
def Z2o{K:PySem.W.Frag}{mg:Str->Option Value}{a:Nj}(T:Tx K mg a):mg "House" =some (.ref (Ķ a "House")):=T.RT
def Ny:Ē ["_law_cell","_law_most","_law_width"] ["_law_cell","_law_most"] (ć TJ):=Ũ
def ZcA:Ē ["_law_script","_law_k"] ["_law_script","_law_k"] (ć TQ):=Ũ
def kJ:Ē ["_law_cell","_law_many","_law_found","_law_number","_law_k"] ["_law_cell","_law_many"] (ć TY):=Ũ
def Nz:Ē ["_law_xs","_law_scale"] ["_law_xs"] (ć T_):=Ũ
def jg:Ē ["_law_script","_law_start","_law_many","_law_long","_law_names","_law_turned","_law_days_here","_law_k","_law_xs","_law_turns"] ["_law_script","_law_start","_law_many","_law_long"] (ć Ua):=Ũ
def Zfs:Ē ["self","width","height","things","days"] ["self","width","height","things","days"] (ć Ze1):=Ũ
def Bd:Ē ["_law_cells","_law_size_here","_law_days_here","_law_wants","_law_cell","_law_xs","_law_day"] ["_law_cells","_law_size_here","_law_days_here"] (ć Ze2):=Ũ
def yN:Ē ["_law_covers","_law_base_here","_law_found","_law_one"] ["_law_covers","_law_base_here"] (ć Ub):=Ũ
def ZcB:Ē ["yard","stone"] ["yard","stone"] (ć Uc):=Ũ
def ZcC:Ē ["yard","stone"] ["yard","stone"] (ć Ud):=Ũ
def ZcD:Ē ["yard","day"] ["yard","day"] (ć Ue):=Ũ
def ZcE:Ē ["yard","day"] ["yard","day"] (ć Ug):=Ũ
def ZcF:Ē ["yard","day","turn"] ["yard","day","turn"] (ć Uh):=Ũ
def yO:Ē ["yard","wants","stone","day","turn"] ["yard","wants"] (ć Ui):=Ũ
def ZcG:Ē ["values","choice"] ["values","choice"] (ć Uj):=Ũ
def ZcH:Ē ["prices","choices"] ["prices","choices"] (ć Lq):=Ũ
def NK:Ē ["met","many","want"] ["met","many"] (ć Uk):=Ũ
def yP:Ē ["covers","choice","base","met","cover"] ["covers","choice","base"] (ć Ul):=Ũ
def Ei:Ē ["prices","covers","many","base","paper","choice"] ["prices","covers","many","base"] (ć Um):=Ũ
def sY:Ē ["truths","bits","number","truth"] ["truths"] (ć Uo):=Ũ
def Ej:Ē ["points","rights","downs"] ["points"] (ć Uq):=Ũ
def Ek:Ē ["points","kept","point"] ["points"] (ć Ur):=Ũ
def El:Ē ["one","other","l","m"] ["one","other"] (ć Us):=Ũ
def ZcI:Ē ["line","pair"] ["line","pair"] (ć Ut):=Ũ
def nQ:Ē ["points","lines","apart","one","other","line"] ["points"] (ć Uu):=Ũ
def ZcJ:Ē ["points"] ["points"] (ć Uv):=Ũ
def NP:Ē ["points","point","line"] ["points","point"] (ć Uw):=Ũ
def Em:Ē ["many","pairs","second"] ["many"] (ć Ux):=Ũ
def En:Ē ["many","triples","third"] ["many"] (ć Uy):=Ũ
def GR:Ē ["one","other","rest"] ["one","other"] (ć Ze3):=Ũ
def Eo:Ē ["top","bottom","divisor"] ["top","bottom"] (ć Uz):=Ũ
def sZ:Ē ["shares","places","many","whole","weights","share","place"] ["shares","places","many"] (ć UG):=Ũ
def NQ:Ē ["one","other","third","right"] ["one","other","third"] (ć UJ):=Ũ
def GX:Ē ["corners","point","one","other","third"] ["corners","point"] (ć Ze4):=Ũ
def NT:Ē ["shares","whole"] ["shares"] (ć UL):=Ũ
def yQ:Ē ["ends","point","right","down","gone"] ["ends","point"] (ć UW):=Ũ
def nR:Ē ["points","point","many","places","shares"] ["points","point"] (ć U_):=Ũ
def NZ:Ē ["points","point","line"] ["points","point"] (ć Va):=Ũ
def ZcK:Ē ["point","ray"] ["point","ray"] (ć Vb):=Ũ
def Zft:Ē ["x","y","u","v","z"] ["x","y","u","v","z"] (ć Ze5):=Ũ
def ZcL:Ē ["x","y","u","v","h"] ["x","y","u","v","h"] (ć Vc):=Ũ
def Ep:Ē ["self","right","down"] ["self"] (ć Vd):=Ũ
def yR:Ē ["self","given","one","other"] ["self"] (ć Ve):=Ũ
def N_:Ē ["self","given"] ["self"] (ć Vf):=Ũ
def ZcM:Ē ["self"] ["self"] (ć Vg):=Ũ
def ZaU:Ē ["self","given"] ["self"] (ć Ze6):=Ũ
def ZcN:Ē ["thing","ray"] ["thing","ray"] (ć Vh):=Ũ
def ZcO:Ē ["stone","ray"] ["stone","ray"] (ć Vi):=Ũ
def ZcP:Ē ["thing","stone","ray"] ["thing","stone","ray"] (ć Vj):=Ũ
def ZcQ:Ē ["thing","stone","ray"] ["thing","stone","ray"] (ć Vk):=Ũ
def ZcR:Ē ["thing","stone","turn"] ["thing","stone","turn"] (ć Vl):=Ũ
def ZcS:Ē ["yard","thing","wants"] ["yard","thing","wants"] (ć Vm):=Ũ
def Oa:Ē ["yard","turn","stone","thing"] ["yard","turn","stone"] (ć Vn):=Ũ
def ZcT:Ē ["yard","wants"] ["yard","wants"] (ć Vo):=Ũ
def Er:Ē ["yard","offers","wants","prices","covers"] ["yard","offers","wants"] (ć Vp):=Ũ
def Ob:Ē ["_law_found","_law_many","_law_want"] ["_law_found","_law_many"] (ć Vq):=Ũ
def ZcU:Ē ["_law_prices","_law_choice"] ["_law_prices","_law_choice"] (ć Vr):=Ũ
def ZcV:Ē ["_law_found"] ["_law_found"] (ć Vs):=Ũ
def Es:Ē ["_law_paper_here","_law_meets_here","_law_many","_law_one","_law_bits"] ["_law_paper_here","_law_meets_here","_law_many"] (ć Vt):=Ũ
def Oc:Ē ["_law_told_here","_law_prices","_law_meets_here","_law_many","_law_other"] ["_law_told_here","_law_prices","_law_meets_here","_law_many"] (ć Vu):=Ũ
def ZcW:Ē ["_law_number"] ["_law_number"] (ć Vv):=Ũ
def ZcX:Ē ["_law_number","_law_wide"] ["_law_number","_law_wide"] (ć Vw):=Ũ
def jh:Ē ["_law_cell","_law_wide","_law_xs","_law_h","_law_kind","_law_x","_law_y","_law_u","_law_v"] ["_law_cell","_law_wide"] (ć Vx):=Ũ
def ZcY:Ē ["number"] ["number"] (ć Vy):=Ũ
def ZcZ:Ē ["number"] ["number"] (ć Vz):=Ũ
def Zc0:Ē ["numbers"] ["numbers"] (ć VB):=Ũ
def Bf:Ē ["self","word","numbers"] ["self","word","numbers"] (ć Ze7):=Ũ
def Zc1:Ē ["numbers"] ["numbers"] (ć VD):=Ũ
def Zc2:Ē ["numbers"] ["numbers"] (ć VF):=Ũ
def Zfu:Ē ["numbers"] ["numbers"] (ć Ze8):=Ũ
def Zfv:Ē ["numbers"] ["numbers"] (ć Ze9):=Ũ
def Zc3:Ē ["numbers"] ["numbers"] (ć VG):=Ũ
def Zc4:Ē ["word","numbers"] ["word","numbers"] (ć VH):=Ũ
def Zc5:Ē ["first","last"] ["first","last"] (ć VJ):=Ũ
def eO:Ē ["lines","unit","q","width","first","last","l","m","n","step","room"] ["lines","unit","q","width"] (ć VL):=Ũ
def tu:Ē ["yard","thing","ray","lines","bits","q"] ["yard","thing","ray"] (ć VN):=Ũ
def Zfw:Ē ["yard","ray"] ["yard","ray"] (ć Ze_):=Ũ
def yS:Ē ["yard","turn","bits","some"] ["yard","turn"] (ć VP):=Ũ
def ji:Ē ["_law_yard","_law_wants","_law_found","_law_k","_law_bits","_law_stone","_law_day","_law_turn"] ["_law_yard","_law_wants"] (ć VR):=Ũ
def jj:Ē ["_law_thing_here","_law_days_here","_law_wants","_law_found","_law_k","_law_ray","_law_stone","_law_day","_law_turn"] ["_law_thing_here","_law_days_here","_law_wants"] (ć V_):=Ũ
def Zc6:Ē ["_law_cell"] ["_law_cell"] (ć Wa):=Ũ
def Zc7:Ē ["self"] ["self"] (ć Wb):=Ũ
def ũ:Ē ["_law_script","_law_size_here","_law_drawn","_law_days_here","_law_cells","_law_yard","_law_offers","_law_cell","_law_wants","_law_prices","_law_meets_here","_law_handed","_law_told_here","_law_more","_law_word","_law_some"] ["_law_script"] (ć Wc):=Ũ
section
variable{P:Program}{w:World}{K:PySem.W.Frag}{mg:Str->Option Value}{base:Heap}{a:Nj}
seal PE PT PW PA PS jw PG Bl PI Ik
def Zq(T:Tx K mg a):qQ (λC=>Cls K (Ķ a C)/\Ń K (Ķ a C) "width") ["Yard"]:=⟨⟨T.yH,T.yI⟩,trivial⟩
def Zw(T:Tx K mg a):qQ (λC=>Cls K (Ķ a C)/\Ń K (Ķ a C) "height") ["Yard"]:=⟨⟨T.yH,T.ux⟩,trivial⟩
def ZH(T:Tx K mg a):qQ (λC=>Cls K (Ķ a C)/\Ń K (Ķ a C) "things") ["Yard"]:=⟨⟨T.yH,T.uy⟩,trivial⟩
def ZD(T:Tx K mg a):qQ (λC=>Cls K (Ķ a C)/\Ń K (Ķ a C) "days") ["Yard"]:=⟨⟨T.yH,T.Ba⟩,trivial⟩
def Z8(T:Tx K mg a):qQ (λC=>Cls K (Ķ a C)/\Ń K (Ķ a C) "numbers") ["Thing","Post","Fence","Sail","Cloth","House"]:=⟨⟨T.qm,T.pN⟩,⟨⟨T.sO,T.sS⟩,⟨⟨T.mK,T.pO⟩,⟨⟨T.sV,T.sW⟩,⟨⟨T.mO,T.pQ⟩,⟨⟨T.mQ,T.pU⟩,trivial⟩⟩⟩⟩⟩⟩
def Zt(T:Tx K mg a):qQ (λC=>Cls K (Ķ a C)/\Ń K (Ķ a C) "word") ["Thing","Post","Fence","Sail","Cloth","House"]:=⟨⟨T.qm,T.yJ⟩,⟨⟨T.sO,T.Bb⟩,⟨⟨T.mK,T.yK⟩,⟨⟨T.sV,T.Bc⟩,⟨⟨T.mO,T.yL⟩,⟨⟨T.mQ,T.yM⟩,trivial⟩⟩⟩⟩⟩⟩
def Zc8(T:Tx K mg a):Ħ P w K mg base Ş 1 a.Wn a.Yo ["_law_cell","_law_most"] (Ŗ ⟨K,Ķ a⟩ 2 fJ):=by
 refine ĳ T.oV.F Ny λ_ _ _ _ _ _ _ hu=>?_
 exact ē (œ (PW.pt (w_and (t_eq hu (Ŕ (dH (ā 0) ą) ą) ą) (cR (aq Tn SJ (ā 1) ą (Ň _))))) (Ł (Ļ (Ĝ (ę (ŏ (Ć (Ŀ (Ć Ī (Ć Ī Ě))) (Ć (Ŀ (Ć Ī (Ć Ī Ě))) Ě))))) (Ŕ (ā 0) ą))) Ĭ) (ĺ Ny (gH ą (Ŕ (ā 0) (Ĝ (ś (wu rfl) wH T.vU PyProof.Rows.boot_min (ė ą (ė (ā 1) Ġ)))))) (Ł (Ŀ (Ć (v_var 2) (Ć (v_add ą (Ŕ (dH (ā 0) ą) (Ĝ (ś (wu rfl) wH T.vU PyProof.Rows.boot_min (ė ą (ė (dH (ā 1) (ā 2)) Ġ)))))) Ě)))))
def gw(T:Tx K mg a):Ħ P w K mg base Ş 1 a.Wo a.Yp ["_law_script","_law_k"] (Ŗ ⟨K,Ķ a⟩ 2 Ŋ):=by
 refine ĳ T.Ŷ.F ZcA λ_ _ _ _ _ _ _ _=>?_
 exact ē (œ (aq gD gA (ā 1) (Ĝ (ś ş š T.aB PySem.boot_len (ė (ā 0) Ġ))) (Ň _)) (Ł (Ļ (ā 0) (ā 1))) Ĭ) (Ł Ī)
def tD(T:Tx K mg a):Ħ P w K mg base Ş 1 a.Wq a.Yq ["_law_cell","_law_many"] (Ŗ ⟨K,Ķ a⟩ 2 b_):=by
 refine ĳ T.ŷ.F kJ λ_ _ _ _ _ _ _ hu=>?_
 exact ĺ kJ (ŏ Ě) (ĺ kJ (ŗ (lM (ā 0) ą)) (ē (œ (t_eq hu (Ŕ (ā 0) ą) ą) (ĥ (rz kJ (ŗ (v_mod (ā 3) ą)))) Ĭ) (ē (Ŧ PassesOwn.leaving rfl (Ő rfl T.ť (Ć (v_var 1) Ě)) (Ś kJ) (ĥ (œ (t_eq hu (Ŕ (ā 0) ą) ą) (ē (PS.wk (aU (ig PySem.F.plainAttrs_list PySem.F.slot_list_append PySem.F.type_list_append Ŵ (pv 2) (Ć (v_mod (ā 3) ą) Ě))) λ_ _ _ h=>dD h) (ĥ (rz kJ (ŗ (lM (ā 3) ą))))) (ĺ kJ (ŗ (v_mod (cW (cW (ŕ (ā 3) ą) ą) (ŕ ą (ā 4))) ą)) (ĥ (PS.wk (aU (ig PySem.F.plainAttrs_list PySem.F.slot_list_append PySem.F.type_list_append Ŵ (pv 2) (Ć (lM (ā 3) ą) Ě))) λ_ _ _ h=>dD h)))))) (ľ (bG 2)))))
def Zc9(T:Tx K mg a):Ħ P w K mg base Ş 1 a.Wr a.Yr ["_law_xs"] (Ŗ ⟨K,Ķ a⟩ 1 rD):=by
 refine ĳ T.sG.F Nz λ_ _ _ _ _ _ _ hu=>?_
 exact ē (œ (t_eq hu (Ŕ (ī (ā 0) ą) ą) ą) (Ł zx) Ĭ) (ĺ Nz (ŗ (Ļ (Ĝ (ę (ŏ (Ć Ī (Ć Ī (Ć Ī (Ć (Ų nu m_ ą ą) Ě))))))) (Ŕ (ī (ā 0) ą) ą))) (Ł (Ŀ (Ć (v_mul (iM (Ŕ (ī (ā 0) ą) ą) ą) (ā 1)) (Ć (v_mul (iM (Ŕ (ī (ā 0) ą) ą) ą) (ā 1)) (Ć (v_mul (cW ą (Ŕ (ī (ā 0) ą) ą)) (ā 1)) Ě))))))
def Zc_(T:Tx K mg a):Ħ P w K mg base Ş 2 a.Ws a.Ys ["_law_script","_law_start","_law_many","_law_long"] (Ŗ ⟨K,Ķ a⟩ 4 oE):=by
 refine ĳ T.oW.F jg λ_ _ _ _ _ _ hr _=>?_
 exact ĺ jg (ŏ (Ć ao (Ć ao (Ć ao (Ć ao (Ć ao (Ć ao (Ć ao (Ć ao (Ć ao (Ć ao (Ć ao (Ć ao Ě))))))))))))) (ĺ jg (ŗ (v_mod (Ĝ (ę (Ĉ (gw T) T.Ŷ hr Ď (č 0 (č 1 ď))))) ą)) (ĺ jg (gH (Ĝ (ę (aK (ā 4) (ŭ (v_var 5)) qO))) (Ĝ (ę (aK (ā 4) qO (ŭ (v_var 5)))))) (ĺ jg (ŏ Ě) (ē (Ŧ PassesOwn.leaving rfl (Ő rfl T.ť (Ć (v_var 2) Ě)) (Ś jg) (ĺ jg (Ĉ (tD T) T.ŷ hr Ď (đ (v_add (dH (Ĝ (ę (Ĉ (gw T) T.Ŷ hr Ď (č 0 (đ (v_add (ā 1) (ā 7)) ď))))) ą) (ŕ ą (ā 7))) (đ (v_add (ŕ ą (ā 3)) ą) ď))) (ē (xu jg (Ő rfl T.ť (Ć (v_add ą (Ŕ (ī (ā 8) ą) (ā 3))) Ě)) ő ł (ę (Ĉ (Zc9 T) T.sG hr Ď (đ (ę (aK (ā 0) (ŭ (v_add ą (ŕ ą (ā 1)))) (ŭ (v_add ą (ŕ ą (ā 1)))))) ď)))) (ĥ (PS.wk (aU (ig PySem.F.plainAttrs_list PySem.F.slot_list_append PySem.F.type_list_append Ŵ (pv 6) (Ć (Ŀ (Ć (Ļ (ā 4) (ā 7)) (Ć (v_add ą (Ŕ (ŕ (ī (ā 8) ą) ą) (Ĝ (Ų nu m_ ą ą)))) (Ć (v_var 9) Ě)))) Ě))) λ_ _ _ h=>dD h))))) (ľ (bG 6))))))
def Od(T:Tx K mg a):Ħ P w K mg base Ş 1 a.Zcr a.Zfh ["self","width","height","things","days"] (Pr ⟨K,Ķ a⟩ 5 "Yard" lN):=by
 refine fnI (cm:=Ķ a) (mb:=Ls) T.gM.F Zfs rfl rfl rfl λcdv A outer s H E hr=>?_
 have hu:=hr.units
 exact ē (bx ["Yard"] (Zq T) (pv 0) (v_var 1)) (ē (bx ["Yard"] (Zw T) (pv 0) (v_var 2)) (ē (bx ["Yard"] (ZH T) (pv 0) (ę (rC aZ bf T.cB PyProof.Rows.boot_list (ė (ā 3) Ġ)))) (ĥ (bx ["Yard"] (ZD T) (pv 0) (ę (bZ (Ř 4) (bU rfl (ğ ő (ğ ő (ğ ő Š)))) ł (Ŀ (Ć (v_var 0) (Ć (v_var 1) (Ć (ę (rC aZ bf T.cB PyProof.Rows.boot_list (ė (ā 2) Ġ))) Ě))))))))))
def Zfx(T:Tx K mg a):Ħ P w K mg base Ş 2 a.Zfa a.Zfi ["_law_cells","_law_size_here","_law_days_here"] (Ŗ ⟨K,Ķ a⟩ 3 Lw):=by
 refine ĳ T.cY.F Bd λ_ _ _ _ _ _ hr _=>?_
 exact ĺ Bd (ŏ Ě) (ē (Ŧ PassesOwn.leaving rfl (Ř 0) (Ś Bd) (ĺ Bd (Ĉ (tD T) T.ŷ hr Ď (č 4 (đ Ī ď))) (ĺ Bd (ŗ (v_mod (ī (ā 5) ą) (Ĝ (ś ş š T.aB PySem.boot_len (ė (ā 2) Ġ))))) (ĥ (PS.wk (aU (ig PySem.F.plainAttrs_list PySem.F.slot_list_append PySem.F.type_list_append Ŵ (pv 3) (Ć (Ŀ (Ć (Ŀ (Ć (v_mod (ī (ā 5) ą) (ī (ā 1) ą)) (Ć (v_mod (ī (ā 5) ą) (ī (ā 1) ą)) Ě))) (Ć (v_var 6) (Ć (v_mod (ī (ā 5) ą) (Ĝ (ś ş š T.aB PySem.boot_len (ė (ī (ī (ā 2) (ā 6)) ą) Ġ)))) Ě)))) Ě))) λ_ _ _ h=>dD h))))) (ľ (bG 3)))
def Zda(T:Tx K mg a):Ħ P w K mg base Ş 1 a.Wu a.Yt ["_law_covers","_law_base_here"] (Ŗ ⟨K,Ķ a⟩ 2 vm):=by
 refine ĳ T.lR.F yN λ_ _ _ _ _ _ _ _=>?_
 exact ĺ yN (ŏ (Ć (v_var 1) Ě)) (ē (Ŧ PassesOwn.leaving rfl (Ř 0) (Ś yN) (ĥ (rz yN (gH (ā 2) (Ĝ (ę (bZ (Ř 2) ő ł (Ų Zb2 Zb3 (ā 1) (ā 0))))))))) (ľ (bG 2)))
def Zdb(T:Tx K mg a):Ħ P w K mg base Ş 1 a.Wv a.Yu ["yard","stone"] (Ŗ ⟨K,Ķ a⟩ 2 Gs):=by
 refine ĳ T.oX.F ZcB λ_ _ _ _ _ _ _ _=>?_
 exact Ł (v_and (uO gF gD gB gA ą (ī (ā 1) ą) (Ĝ (aA ["Yard"] (Zq T) (ā 0)))) (iz (uO gF gD gB gA ą (ī (ā 1) ą) (Ĝ (aA ["Yard"] (Zw T) (ā 0))))))
def Zdc(T:Tx K mg a):Ħ P w K mg base Ş 2 a.Ww a.Yw ["yard","stone"] (Ŗ ⟨K,Ķ a⟩ 2 Gu):=by
 refine ĳ T.jF.F ZcC λ_ _ _ _ _ _ hr _=>?_
 exact ĥ (œ (fj (ż (Ĝ (ę (Ĉ (Zdb T) T.oX hr Ď (č 0 (č 1 ď))))))) (ĥ qg) Ĭ)
def Zdd(T:Tx K mg a):Ħ P w K mg base Ş 1 a.Wx a.Yx ["yard","day"] (Ŗ ⟨K,Ķ a⟩ 2 vo):=by
 refine ĳ T.vO.F ZcD λ_ _ _ _ _ _ _ _=>?_
 exact Ł (uO gF gD gB gA ą (ā 1) (Ĝ (ś ş š T.aB PySem.boot_len (ė (Ĝ (aA ["Yard"] (ZD T) (ā 0))) Ġ))))
def Et(T:Tx K mg a):Ħ P w K mg base Ş 1 a.Wy a.Yy ["yard","day"] (Ŗ ⟨K,Ķ a⟩ 2 iR):=by
 refine ĳ T.gj.F ZcE λ_ _ _ _ _ _ _ _=>?_
 exact Ł (Ļ (ī (Ĝ (aA ["Yard"] (ZD T) (ā 0))) (ā 1)) ą)
def Zde(T:Tx K mg a):Ħ P w K mg base Ş 2 a.Wz a.Yz ["yard","day","turn"] (Ŗ ⟨K,Ķ a⟩ 3 Gv):=by
 refine ĳ T.lU.F ZcF λ_ _ _ _ _ _ hr _=>?_
 exact ĥ (œ (PW.pt (w_or (fj (ż (Ĝ (ę (Ĉ (Zdd T) T.vO hr Ď (č 0 (č 1 ď))))))) (uP (fj (Tc gF gD gB gA ą (ā 2) (Ĝ (ś ş š T.aB PySem.boot_len (ė (Ĝ (ę (Ĉ (Et T) T.gj hr Ď (č 0 (č 1 ď))))) Ġ)))))))) (ĥ qg) Ĭ)
def Zdf(T:Tx K mg a):Ħ P w K mg base Ş 3 a.WD a.YB ["yard","wants"] (Ŗ ⟨K,Ķ a⟩ 2 vp):=by
 refine ĳ T.jG.F yO λ_ _ _ _ _ _ hr _=>?_
 exact ĥ (Ŧ PassesOwn.leaving rfl (Ř 1) (bU rfl (ğ (Ś yO) (ğ (Ś yO) (ğ (Ś yO) Š)))) (ē (Cj (ę (Ĉ (Zdc T) T.jF hr Ď (č 0 (č 2 ď))))) (ĥ (Cj (ę (Ĉ (Zde T) T.lU hr Ď (č 0 (č 3 (č 4 ď)))))))))
def Eu(T:Tx K mg a):Ħ P w K mg base Ş 1 a.WK a.YC ["values","choice"] (Ŗ ⟨K,Ķ a⟩ 2 oG):=by
 refine ĳ T.lV.F ZcG λ_ _ _ _ _ _ _ _=>?_
 exact ľ (bZ (CG rfl T.jf (Lf 0)) (bU rfl (ğ ő (ğ ő Š))) (Cu (ż (Ĝ (Ų FZ Ga (Ĝ (Ų qK qM (ā 0) (ā 1))) ą)))) (v_var 2))
def Zdg(T:Tx K mg a):Ħ P w K mg base Ş 4 a.Nk a.YD ["prices","choices"] (Ŗ ⟨K,Ķ a⟩ 2 Gw):=by
 refine ZhR (cm:=Ķ a) (mb:=Dc) T.sI.F ZcH rfl rfl rfl T.Eh λcc Pt htb A outer s H E hr=>?_
 have hu:=hr.units
 exact Ł (Zci (k:=1) ["prices"] [0] (ć Lq) hr.mo rfl rfl (by simp[lams]) htb rfl rfl rfl T.vU (ė (ā 1) Ġ) (λ_ _ _ _ _ hr hu=>(ś (qT rfl) qU T.A_ PyProof.Rows.boot_sum (ė (Ĝ (ę (Ĉ (Eu T) T.lV hr Ď (č 0 (č 1 ď))))) Ġ))) ⟨rfl,⟨rfl,Or.inl rfl⟩,trivial⟩)
def Zdh(T:Tx K mg a):Ħ P w K mg base Ş 1 a.WL a.YF ["met","many"] (Ŗ ⟨K,Ķ a⟩ 2 vq):=by
 refine ĳ T.gO.F NK λ_ _ _ _ _ _ _ _=>?_
 exact ē (Ŧ PassesOwn.leaving rfl (Ő rfl T.ť (Ć (v_var 1) Ě)) (Ś NK) (ĥ (œ (fj (ż (Ĝ (Ų FZ Ga (Ĝ (Ų qK qM (ā 0) (ā 2))) ą)))) (ľ (bG 2)) Ĭ))) (Ł zx)
def Zdi(T:Tx K mg a):Ħ P w K mg base Ş 2 a.WM a.YG ["covers","choice","base"] (Ŗ ⟨K,Ķ a⟩ 3 Ad):=by
 refine ĳ T.Ay.F yP λ_ _ _ _ _ _ hr _=>?_
 exact ĺ yP (ŗ (v_var 2)) (ē (Ŧ PassesOwn.leaving rfl (aW (ę (Ĉ (Eu T) T.lV hr Ď (č 0 (č 1 ď))))) (Ś yP) (ĥ (wW (i:=3) yP.nd rfl (Or.inl rfl) (v_var 4)))) (ľ (bG 3)))
def Zdj(T:Tx K mg a):Ħ P w K mg base Ş 5 a.WQ a.YH ["prices","covers","many","base"] (Ŗ ⟨K,Ķ a⟩ 4 Ae):=by
 refine ZhS (cm:=Ķ a) (mb:=xQ) T.bC.F Ei rfl rfl rfl λcdv A outer s H E hr=>?_
 have hu:=hr.units
 exact ē (xu Ei (Ő rfl T.ť (Ć (Ų jW jX ą (Ĝ (ś ş š T.aB PySem.boot_len (ė (ā 0) Ġ)))) Ě)) ő ł (ę (Ĉ (Zdh T) T.gO hr Ď (đ (ę (Ĉ (Zdi T) T.Ay hr Ď (č 1 (č 3 (č 2 ď))))) (č 0 ď))))) (ē (œ (aq fG jl (ī (ā 4) (Ĝ (pD cu cg ą))) iK (Ň _)) (Ł (Ŀ (Ć ao (Ć (Ļ (ā 4) (Ĝ (pD cu cg ą))) Ě)))) Ĭ) (ĺ Ei (Ĉ (Zdg T) T.sI hr Ď (č 0 (đ (ę (bZ (CG rfl T.jf (Lf 4)) (bU rfl (ğ ő (ğ ő Š))) (Cu (aq zH qy (ā 1) iK (Ň _))) (v_var 0))) ď))) (Ł (Ŀ (Ć ao (Ć (v_var 5) (Ć (ś (qT rfl) qU T.A_ PyProof.Rows.boot_sum (ė (Ĝ (ę (Ĉ (Eu T) T.lV hr Ď (č 0 (č 5 ď))))) Ġ)) (Ć (v_var 4) Ě))))))))
def Oe(T:Tx K mg a):Ħ P w K mg base Ş 1 a.WR a.YJ ["truths"] (Ŗ ⟨K,Ķ a⟩ 1 Af):=by
 refine ĳ T.dY.F sY λ_ _ _ _ _ _ _ _=>?_
 exact ĺ sY (ŗ Ī) (ē (Ŧ PassesOwn.leaving rfl (CG rfl T.jf (Lf 0)) (bU rfl (ğ (Ś sY) (ğ (Ś sY) Š))) (ĥ (œ (ż (ā 3)) (ĥ (wW (i:=1) sY.nd rfl (Or.inl rfl) (Ų jW jX ą (ā 2)))) Ĭ))) (ľ (bG 1)))
def Zdk(T:Tx K mg a):Ħ P w K mg base Ş 1 a.WT a.YK ["points"] (Ŗ ⟨K,Ķ a⟩ 1 Gx):=by
 refine ĳ T.oY.F Ej λ_ _ _ _ _ _ _ _=>?_
 exact ē (xu Ej (Ř 0) ő ł (Ļ (ā 0) ą)) (ē (xu Ej (Ř 0) ő ł (Ļ (ā 0) ą)) (ľ (ŏ (Ć (Ŀ (Ć Ī (Ć Ī (Ć (ś (wQ rfl) wR T.Az PyProof.Rows.boot_max (ė (ā 1) Ġ)) Ě)))) (Ć (Ŀ (Ć (pD cu cg ą) (Ć Ī (Ć (pD cu cg (Ĝ (ś (Lb rfl) Ld T.vU PyProof.Rows.boot_min (ė (ā 1) Ġ)))) Ě)))) (Ć (Ŀ (Ć Ī (Ć Ī (Ć (ś (wQ rfl) wR T.Az PyProof.Rows.boot_max (ė (ā 2) Ġ)) Ě)))) (Ć (Ŀ (Ć Ī (Ć (pD cu cg ą) (Ć (pD cu cg (Ĝ (ś (Lb rfl) Ld T.vU PyProof.Rows.boot_min (ė (ā 2) Ġ)))) Ě)))) Ě)))))))
def Zdl(T:Tx K mg a):Ħ P w K mg base Ş 1 a.WW a.YL ["points"] (Ŗ ⟨K,Ķ a⟩ 1 Gy):=by
 refine ĳ T.oZ.F Ek λ_ _ _ _ _ _ _ hu=>?_
 exact ĺ Ek (ŏ Ě) (ē (Ŧ PassesOwn.leaving rfl (Ř 0) (Ś Ek) (ĥ (œ (aq Zcf (Ia hu) (ā 2) (ā 1) (by with_unfolding_all rfl)) (ĥ (PS.wk (aU (ig PySem.F.plainAttrs_list PySem.F.slot_list_append PySem.F.type_list_append Ŵ (pv 1) (Ć (v_var 2) Ě))) λ_ _ _ h=>dD h)) Ĭ))) (ľ (bG 1)))
def Zdm(T:Tx K mg a):Ħ P w K mg base Ş 1 a.WX a.YM ["one","other"] (Ŗ ⟨K,Ķ a⟩ 2 Gz):=by
 refine ĳ T.iU.F El λ_ _ _ _ _ _ _ _=>?_
 exact ĺ El (ŗ (v_sub (ī (ā 1) ą) (ī (ā 0) ą))) (ĺ El (ŗ (v_sub (ī (ā 0) ą) (ī (ā 1) ą))) (Ł (Ŀ (Ć (v_var 2) (Ć (v_var 3) (Ć (v_add (ŕ (ā 2) (ī (ā 0) ą)) (ŕ (ā 3) (ī (ā 0) ą))) Ě))))))
def Og(T:Tx K mg a):Ħ P w K mg base Ş 1 a.WY a.YQ ["line","pair"] (Ŗ ⟨K,Ķ a⟩ 2 rG):=by
 refine ĳ T.yF.F ZcI λ_ _ _ _ _ _ _ _=>?_
 exact Ł (oh gF gB (cW (ŕ (ī (ā 0) ą) (ī (ā 1) ą)) (ŕ (ī (ā 0) ą) (ī (ā 1) ą))) (ī (ā 0) ą) (Ň _))
def Zdn(T:Tx K mg a):Ħ P w K mg base Ş 2 a.W_ a.YT ["points"] (Ŗ ⟨K,Ķ a⟩ 1 GC):=by
 refine ĳ T.lW.F nQ λ_ _ _ _ _ _ hr hu=>?_
 exact ĺ nQ (ŏ Ě) (ĺ nQ (Ĉ (Zdl T) T.oZ hr Ď (č 0 ď)) (ē (Ŧ PassesOwn.leaving rfl (Ř 2) (Ś nQ) (ĥ (Ŧ PassesOwn.leaving rfl (Ř 2) (Ś nQ) (ĺ nQ (Ĉ (Zdm T) T.iU hr Ď (č 3 (č 4 ď))) (ĥ (œ (PW.pt (w_and (xr hu (ā 3) (ā 4)) (cR (ż (Ĝ (ś (wz rfl) wL T.GP PyProof.Rows.boot_all (ė (Ĝ (ę (bZ (Ř 2) ő ł (ę (Ĉ (Og T) T.yF hr Ď (č 0 (č 1 ď))))))) Ġ))))))) (ĥ (PS.wk (aU (ig PySem.F.plainAttrs_list PySem.F.slot_list_append PySem.F.type_list_append Ŵ (pv 1) (Ć (v_var 5) Ě))) λ_ _ _ h=>dD h)) Ĭ)))))) (ľ (bG 1))))
def Oh(T:Tx K mg a):Ħ P w K mg base Ş 3 a.Xa a.YW ["points"] (Ŗ ⟨K,Ķ a⟩ 1 Ag):=by
 refine ĳ T.dZ.F ZcJ λ_ _ _ _ _ _ hr _=>?_
 exact ľ (gH (Ĝ (ę (Ĉ (Zdk T) T.oY hr Ď (č 0 ď)))) (Ĝ (ę (Ĉ (Zdn T) T.lW hr Ď (č 0 ď)))))
def Zdo(T:Tx K mg a):Ħ P w K mg base Ş 4 a.Xb a.YX ["points","point"] (Ŗ ⟨K,Ķ a⟩ 2 Ah):=by
 refine ĳ T.iV.F NP λ_ _ _ _ _ _ hr _=>?_
 exact ē (Ŧ PassesOwn.leaving rfl (aW (ę (Ĉ (Oh T) T.dZ hr Ď (č 0 ď)))) (Ś NP) (ĥ (œ (fj (ż (Ĝ (ę (Ĉ (Og T) T.yF hr Ď (č 2 (č 1 ď))))))) (ľ (bG 2)) Ĭ))) (Ł zx)
def Oi(T:Tx K mg a):Ħ P w K mg base Ş 1 a.Xc a.YZ ["many"] (Ŗ ⟨K,Ķ a⟩ 1 Ai):=by
 refine ĳ T.eE.F Em λ_ _ _ _ _ _ _ _=>?_
 exact ĺ Em (ŏ Ě) (ē (Ŧ PassesOwn.leaving rfl (Ő rfl T.ť (Ć (v_var 0) Ě)) (Ś Em) (ĥ (PS.wk (aU (ig PySem.F.plainAttrs_list PySem.F.slot_list_extend PySem.F.type_list_extend uJ (pv 1) (cH (bZ (Ő rfl T.ť (Ć (v_var 2) Ě)) ő ł (Ŀ (Ć (v_var 1) (Ć (v_var 0) Ě)))) jT))) λ_ _ _ h=>Gm h))) (ľ (bG 1)))
def Zdp(T:Tx K mg a):Ħ P w K mg base Ş 2 a.Xd a.Y_ ["many"] (Ŗ ⟨K,Ķ a⟩ 1 GD):=by
 refine ĳ T.gP.F En λ_ _ _ _ _ _ hr _=>?_
 exact ĺ En (ŏ Ě) (ē (Ŧ PassesOwn.leaving rfl (Ő rfl T.ť (Ć (v_var 0) Ě)) (Ś En) (ĥ (PS.wk (aU (ig PySem.F.plainAttrs_list PySem.F.slot_list_extend PySem.F.type_list_extend uJ (pv 1) (cH (bZ (aW (ę (Ĉ (Oi T) T.eE hr Ď (č 2 ď)))) ő ł (Ŀ (Ć (Ļ (ā 1) ą) (Ć (Ļ (ā 1) ą) (Ć (v_var 0) Ě))))) jT))) λ_ _ _ h=>Gm h))) (ľ (bG 1)))
def Zfy(T:Tx K mg a):Ħ P w K mg base Ş 1 a.Zfb a.Zfj ["one","other"] (Ŗ ⟨K,Ķ a⟩ 2 RK):=by
 refine ĳ T.cZ.F GR λ_ _ _ _ _ _ _ hu=>?_
 exact ē (Q_ PassesOwn.leaving (xr hu (ā 1) ą) (ĺ GR (ŗ (v_mod (ā 0) (ā 1))) (ĺ GR (ŗ (v_var 1)) (ĥ (rz GR (ŗ (v_var 2))))))) (Ł (ś ZbK Zb5 T.Zfq PyProof.Rows.boot_abs (ė (ā 0) Ġ)))
def Oj(T:Tx K mg a):Ħ P w K mg base Ş 2 a.Xe a.Z_ ["top","bottom"] (Ŗ ⟨K,Ķ a⟩ 2 oH):=by
 refine ĳ T.yG.F Eo λ_ _ _ _ _ _ hr hu=>?_
 exact ē (œ (t_eq hu (ā 1) ą) (ĥ qg) Ĭ) (ĺ Eo (Ĉ (Zfy T) T.cZ hr Ď (č 0 (č 1 ď))) (ē (œ (aq gD gA (ā 1) ą (Ň _)) (ĥ (rz Eo (ŗ (pD cu cg (ā 2))))) Ĭ) (Ł (Ŀ (Ć (lM (ā 0) (ā 2)) (Ć (lM (ā 1) (ā 2)) Ě))))))
def Ew(T:Tx K mg a):Ħ P w K mg base Ş 3 a.Xf a.Zaa ["shares","places","many"] (Ŗ ⟨K,Ķ a⟩ 3 lO):=by
 refine ĳ T.lX.F sZ λ_ _ _ _ _ _ hr _=>?_
 exact ĺ sZ (ŗ (ś (qT rfl) qU T.A_ PyProof.Rows.boot_sum (ė (ā 0) Ġ))) (ē (xu sZ (Ő rfl T.ť (Ć (v_var 2) Ě)) ő ł (ę (Ĉ (Oj T) T.yG hr Ď (đ Ī (č 0 ď))))) (ē (Ŧ PassesOwn.leaving rfl (TF rfl T.ZaT (Gj 0) (Gj 1)) (bU rfl (ğ (Ś sZ) (ğ (Ś sZ) Š))) (ĥ (QZ (i:=4) (ę (Ĉ (Oj T) T.yG hr Ď (č 5 (č 3 ď)))) (v_var 6) (pv 4)))) (ľ (bG 4))))
def Ey(T:Tx K mg a):Ħ P w K mg base Ş 1 a.Xg a.Zab ["one","other","third"] (Ŗ ⟨K,Ķ a⟩ 3 vA):=by
 refine ĳ T.lY.F NQ λ_ _ _ _ _ _ _ _=>?_
 exact ĺ NQ (ŗ (v_mul (iM (ī (ā 1) ą) (ī (ā 0) ą)) (iM (ī (ā 2) ą) (ī (ā 0) ą)))) (Ł (v_sub (ā 3) (ŕ (iM (ī (ā 1) ą) (ī (ā 0) ą)) (iM (ī (ā 2) ą) (ī (ā 0) ą)))))
def Zfz(T:Tx K mg a):Ħ P w K mg base Ş 2 a.Zfc a.Zfk ["corners","point"] (Ŗ ⟨K,Ķ a⟩ 2 RL):=by
 refine ĳ T.dJ.F GX λ_ _ _ _ _ _ hr _=>?_
 exact ĺ GX (ŗ (Ļ (ā 0) ą)) (ĺ GX (ŗ (Ļ (ā 0) ą)) (ĺ GX (ŗ (Ļ (ā 0) ą)) (ľ (ŏ (Ć (ę (Ĉ (Ey T) T.lY hr Ď (č 1 (č 3 (č 4 ď))))) (Ć (ę (Ĉ (Ey T) T.lY hr Ď (č 2 (č 1 (č 4 ď))))) (Ć (ę (Ĉ (Ey T) T.lY hr Ď (č 2 (č 3 (č 1 ď))))) Ě)))))))
def Ol(T:Tx K mg a):Ħ P w K mg base Ş 1 a.Xh a.Zac ["shares"] (Ŗ ⟨K,Ķ a⟩ 1 vB):=by
 refine ĳ T.eG.F NT λ_ _ _ _ _ _ _ hu=>?_
 exact ĺ NT (ŗ (ś (qT rfl) qU T.A_ PyProof.Rows.boot_sum (ė (ā 0) Ġ))) (Ł (v_and (oh Kw (Ce hu) (ā 1) ą (Ň _)) (iz (ś (wz rfl) wL T.GP PyProof.Rows.boot_all (ė (Ĝ (ę (bZ (Ř 0) ő ł (oh Zez Zeh (ŕ (ā 1) (ā 0)) ą (Ň _))))) Ġ)))))
def Zdq(T:Tx K mg a):Ħ P w K mg base Ş 1 a.Xi a.Zad ["ends","point"] (Ŗ ⟨K,Ķ a⟩ 2 GF):=by
 refine ĳ T.gQ.F yQ λ_ _ _ _ _ _ _ _=>?_
 exact ĺ yQ (ŗ (v_sub (ī (ī (ā 0) ą) ą) (ī (ī (ā 0) ą) ą))) (ĺ yQ (ŗ (v_sub (ī (ī (ā 0) ą) ą) (ī (ī (ā 0) ą) ą))) (ĺ yQ (gH (ŕ (ā 2) (iM (ī (ā 1) ą) (ī (ī (ā 0) ą) ą))) (ŕ (ā 3) (iM (ī (ā 1) ą) (ī (ī (ā 0) ą) ą)))) (ľ (ŏ (Ć (v_sub (cW (ŕ (ā 2) (ā 2)) (ŕ (ā 3) (ā 3))) (ā 4)) (Ć (v_var 4) Ě))))))
def Zdr(T:Tx K mg a):Ħ P w K mg base Ş 4 a.Xj a.Zae ["points","point"] (Ŗ ⟨K,Ķ a⟩ 2 vC):=by
 refine ĳ T.lZ.F nR λ_ _ _ _ _ _ hr _=>?_
 exact ĺ nR (ŗ (ś ş š T.aB PySem.boot_len (ė (ā 0) Ġ))) (ē (Ŧ PassesOwn.leaving rfl (aW (ę (Ĉ (Zdp T) T.gP hr Ď (č 2 ď)))) (Ś nR) (ĺ nR (Ĉ (Zfz T) T.dJ hr Ď (đ (ę (bZ (Ř 3) ő ł (Ļ (ā 0) (ā 1)))) (č 1 ď))) (ĥ (œ (ż (Ĝ (ę (Ĉ (Ol T) T.eG hr Ď (č 4 ď))))) (ľ (Ĉ (Ew T) T.lX hr Ď (č 4 (č 3 (č 2 ď))))) Ĭ)))) (ē (Ŧ PassesOwn.leaving rfl (aW (ę (Ĉ (Oi T) T.eE hr Ď (č 2 ď)))) (Ś nR) (ĺ nR (Ĉ (Zdq T) T.gQ hr Ď (đ (ę (bZ (Ř 3) ő ł (Ļ (ā 0) (ā 1)))) (č 1 ď))) (ĥ (œ (ż (Ĝ (ę (Ĉ (Ol T) T.eG hr Ď (č 4 ď))))) (ľ (Ĉ (Ew T) T.lX hr Ď (č 4 (č 3 (č 2 ď))))) Ĭ)))) (ľ (Ĉ (Ew T) T.lX hr Ď (đ (ę (ŏ (Ć Ī Ě))) (đ (ę (ŏ (Ć Ī Ě))) (č 2 ď)))))))
def Zds(T:Tx K mg a):Ħ P w K mg base Ş 5 a.Xk a.Zaf ["points","point"] (Ŗ ⟨K,Ķ a⟩ 2 Aj):=by
 refine ĳ T.Nu.F NZ λ_ _ _ _ _ _ hr _=>?_
 exact ĺ NZ (Ĉ (Zdo T) T.iV hr Ď (č 0 (č 1 ď))) (ē (œ (aq zH qy (ā 2) iK (Ň _)) (Ł (Ŀ (Ć ao (Ć (ę (Ĉ (Zdr T) T.lZ hr Ď (č 0 (č 1 ď)))) Ě)))) Ĭ) (Ł (Ŀ (Ć ao (Ć (v_var 2) Ě)))))
def Om(T:Tx K mg a):Ħ P w K mg base Ş 1 a.Xl a.Zag ["point","ray"] (Ŗ ⟨K,Ķ a⟩ 2 rM):=by
 refine ĳ T.Ef.F ZcK λ_ _ _ _ _ _ _ _=>?_
 exact Ł (Ŀ (Ć (v_add (ŕ (ī (ā 1) ą) (ī (ā 0) ą)) (ŕ (ī (ā 1) ą) (ī (ā 0) ą))) (Ć (v_add (ŕ (ī (ā 1) ą) (ī (ā 0) ą)) (ŕ (ī (ā 1) ą) (ī (ā 0) ą))) Ě)))
def Oo(T:Tx K mg a):Ħ P w K mg base Ş 1 a.Zfd a.Zfl ["x","y","u","v","z"] (Ŗ ⟨K,Ķ a⟩ 5 Ib):=by
 refine ĳ T.aL.F Zft λ_ _ _ _ _ _ _ _=>?_
 exact ľ (ŏ (Ć (Ŀ (Ć (v_var 0) (Ć (v_var 1) (Ć (v_var 4) Ě)))) (Ć (Ŀ (Ć (v_var 2) (Ć (v_var 1) (Ć (v_var 4) Ě)))) (Ć (Ŀ (Ć (v_var 2) (Ć (v_var 3) (Ć (v_var 4) Ě)))) (Ć (Ŀ (Ć (v_var 0) (Ć (v_var 3) (Ć (v_var 4) Ě)))) Ě)))))
def Oq(T:Tx K mg a):Ħ P w K mg base Ş 2 a.Xm a.Zah ["x","y","u","v","h"] (Ŗ ⟨K,Ķ a⟩ 5 Ak):=by
 refine ĳ T.cA.F ZcL λ_ _ _ _ _ _ hr _=>?_
 exact ľ (gH (Ĝ (ę (Ĉ (Oo T) T.aL hr Ď (č 0 (č 1 (č 2 (č 3 (đ Ī ď)))))))) (Ĝ (ę (Ĉ (Oo T) T.aL hr Ď (č 0 (č 1 (č 2 (č 3 (č 4 ď)))))))))
def Zdt(T:Tx K mg a):Ħ P w K mg base Ş 3 a.Nm a.Zai ["self"] (Ŗ ⟨K,Ķ a⟩ 1 oJ):=by
 refine ĳ T.iW.F Ep λ_ _ _ _ _ _ hr _=>?_
 exact ĺ Ep (ŗ (v_mul ą (ī (Ĝ (aA ["Thing","Post","Fence","Sail","Cloth","House"] (Z8 T) (ā 0))) ą))) (ĺ Ep (ŗ (v_mul ą (ī (Ĝ (aA ["Thing","Post","Fence","Sail","Cloth","House"] (Z8 T) (ā 0))) ą))) (ľ (Ĉ (Oq T) T.cA hr Ď (đ (v_sub (ā 1) ą) (đ (v_sub (ā 2) ą) (đ (v_add (ā 1) ą) (đ (v_add (ā 2) ą) (đ (Ļ (Ĝ (aA ["Thing","Post","Fence","Sail","Cloth","House"] (Z8 T) (ā 0))) ą) ď))))))))
def Zdu(T:Tx K mg a):Ħ P w K mg base Ş 1 a.Np a.Zaj ["self"] (Ŗ ⟨K,Ķ a⟩ 1 oK):=by
 refine ĳ T.gR.F yR λ_ _ _ _ _ _ _ _=>?_
 exact ĺ yR (ŗ (aA ["Thing","Post","Fence","Sail","Cloth","House"] (Z8 T) (ā 0))) (ĺ yR (ŗ (Ŀ (Ć (Ļ (ā 1) ą) (Ć (Ļ (ā 1) ą) Ě)))) (ĺ yR (ŗ (Ŀ (Ć (Ļ (ā 1) ą) (Ć (Ļ (ā 1) ą) Ě)))) (ľ (ŏ (Ć (v_add (ā 2) (Ĝ (Ŀ (Ć Ī Ě)))) (Ć (v_add (ā 3) (Ĝ (Ŀ (Ć Ī Ě)))) (Ć (v_add (ā 3) (Ĝ (Ŀ (Ć (Ļ (ā 1) ą) Ě)))) (Ć (v_add (ā 2) (Ĝ (Ŀ (Ć (Ļ (ā 1) ą) Ě)))) Ě))))))))
def Zdv(T:Tx K mg a):Ħ P w K mg base Ş 2 a.Nq a.Zak ["self"] (Ŗ ⟨K,Ķ a⟩ 1 oM):=by
 refine ĳ T.iY.F N_ λ_ _ _ _ _ _ hr _=>?_
 exact ĺ N_ (ŗ (aA ["Thing","Post","Fence","Sail","Cloth","House"] (Z8 T) (ā 0))) (ľ (Ĉ (Oo T) T.aL hr Ď (đ (Ļ (ā 1) ą) (đ (Ļ (ā 1) ą) (đ (Ļ (ā 1) ą) (đ (Ļ (ā 1) ą) (đ (Ļ (ā 1) ą) ď)))))))
def Zdw(T:Tx K mg a):Ħ P w K mg base Ş 1 a.Nr a.Zal ["self"] (Ŗ ⟨K,Ķ a⟩ 1 oN):=by
 refine ĳ T.gU.F ZcM λ_ _ _ _ _ _ _ _=>?_
 exact ľ (bZ (aW (Ŀ (Ć Ī (Ć Ī (Ć Ī Ě))))) ő ł (Zcq KH KJ T.GQ PyProof.Rows.boot_tuple (ė (Ĝ (ę (aK (Ĝ (aA ["Thing","Post","Fence","Sail","Cloth","House"] (Z8 T) (ā 0))) (ŭ (v_var 1)) (ŭ (v_add (ā 1) ą))))) Ġ)))
def ZfA(T:Tx K mg a):Ħ P w K mg base Ş 3 a.Zcs a.Zfm ["self"] (Ŗ ⟨K,Ķ a⟩ 1 Al):=by
 refine ĳ T.gW.F ZaU λ_ _ _ _ _ _ hr _=>?_
 exact ĺ ZaU (ŗ (aA ["Thing","Post","Fence","Sail","Cloth","House"] (Z8 T) (ā 0))) (ľ (Ĉ (Oq T) T.cA hr Ď (đ (Ļ (ā 1) ą) (đ (Ļ (ā 1) ą) (đ (Ļ (ā 1) ą) (đ (Ļ (ā 1) ą) (đ (Ļ (ā 1) ą) ď)))))))
def Ot(T:Tx K mg a):Ħ P w K mg base Ş 4 a.Xn a.Zam ["thing","ray"] (Ŗ ⟨K,Ķ a⟩ 2 vD):=by
 refine ĳ T.dg.F ZcN λ_ _ _ _ _ _ hr _=>?_
 exact ľ (bZ (aW (ę (wO (Ip:= "corners") (k:=3) (n:=1) (jk:=[("Post",oJ),("Fence",oK),("Sail",oM),("Cloth",oN),("House",Al)]) ⟨⟨T.sO,_,_,_,T.sU,(Zdt T).mono (by decide),T.iW.b,ŉ⟩,⟨⟨T.mK,_,_,_,T.pP,(Zdu T).mono (by decide),T.gR.b,ŉ⟩,⟨⟨T.sV,_,_,_,T.sX,(Zdv T).mono (by decide),T.iY.b,ŉ⟩,⟨⟨T.mO,_,_,_,T.pR,(Zdw T).mono (by decide),T.gU.b,ŉ⟩,⟨⟨T.mQ,_,_,_,T.pW,(ZfA T).mono (by decide),T.gW.b,ŉ⟩,trivial⟩⟩⟩⟩⟩ hr.mo Ď (v_var 0)))) ő ł (ę (Ĉ (Om T) T.Ef hr Ď (č 1 (č 0 ď)))))
def Zdx(T:Tx K mg a):Ħ P w K mg base Ş 2 a.Xo a.Zan ["stone","ray"] (Ŗ ⟨K,Ķ a⟩ 2 GJ):=by
 refine ĳ T.mj.F ZcO λ_ _ _ _ _ _ hr _=>?_
 exact ľ (Ĉ (Om T) T.Ef hr Ď (đ (Ŀ (Ć (v_mul ą (ī (ā 0) ą)) (Ć (v_mul ą (ī (ā 0) ą)) (Ć Ī Ě)))) (č 1 ď)))
def Zdy(T:Tx K mg a):Ħ P w K mg base Ş 6 a.Xp a.Zao ["thing","stone","ray"] (Ŗ ⟨K,Ķ a⟩ 3 GK):=by
 refine ĳ T.vP.F ZcP λ_ _ _ _ _ _ hr _=>?_
 exact ľ (Ĉ (Zds T) T.Nu hr Ď (đ (ę (Ĉ (Ot T) T.dg hr Ď (č 0 (č 2 ď)))) (đ (ę (Ĉ (Zdx T) T.mj hr Ď (č 1 (č 2 ď)))) ď)))
def Ez(T:Tx K mg a):Ħ P w K mg base Ş 7 a.Xq a.Zap ["thing","stone","ray"] (Ŗ ⟨K,Ķ a⟩ 3 jD):=by
 refine ĳ T.mq.F ZcQ λ_ _ _ _ _ _ hr hu=>?_
 exact Ł (v_eq hu (ī (Ĝ (ę (Ĉ (Zdy T) T.vP hr Ď (č 0 (č 1 (č 2 ď)))))) ą) lK)
def Zdz(T:Tx K mg a):Ħ P w K mg base Ş 8 a.Xr a.Zaq ["thing","stone","turn"] (Ŗ ⟨K,Ķ a⟩ 3 rN):=by
 refine ĳ T.jH.F ZcR λ_ _ _ _ _ _ hr _=>?_
 exact Ł (v_and (oh fG jl (ā 2) iK (Ň _)) (iz (ę (Ĉ (Ez T) T.mq hr Ď (č 0 (č 1 (č 2 ď)))))))
def ZdA(T:Tx K mg a):Ħ P w K mg base Ş 9 a.Xu a.Zar ["yard","thing","wants"] (Ŗ ⟨K,Ķ a⟩ 3 oO):=by
 refine ĳ T.iZ.F ZcS λ_ _ _ _ _ _ hr _=>?_
 exact ľ (Ĉ (Oe T) T.dY hr Ď (đ (ę (bZ (Ř 2) (bU rfl (ğ ő (ğ ő (ğ ő Š)))) ł (ę (Ĉ (Zdz T) T.jH hr Ď (č 0 (č 2 (đ (Ļ (Ĝ (ę (Ĉ (Et T) T.gj hr Ď (č 1 (č 3 ď))))) (ā 4)) ď))))))) ď))
def ZdB(T:Tx K mg a):Ħ P w K mg base Ş 8 a.Xv a.Zas ["yard","turn","stone"] (Ŗ ⟨K,Ķ a⟩ 3 iT):=by
 refine ĳ T.vQ.F Oa λ_ _ _ _ _ _ hr _=>?_
 exact ē (œ (aq zH qy (ā 1) iK (Ň _)) (Ł lq) Ĭ) (ē (Ŧ PassesOwn.leaving rfl (aW (aA ["Yard"] (ZH T) (ā 0))) (Ś Oa) (ĥ (œ (ż (Ĝ (ę (Ĉ (Ez T) T.mq hr Ď (č 3 (č 2 (č 1 ď))))))) (Ł lq) Ĭ))) (Ł lq))
def ZdC(T:Tx K mg a):Ħ P w K mg base Ş 9 a.Xw a.Zat ["yard","wants"] (Ŗ ⟨K,Ķ a⟩ 2 vG):=by
 refine ĳ T.jJ.F ZcT λ_ _ _ _ _ _ hr _=>?_
 exact ľ (Ĉ (Oe T) T.dY hr Ď (đ (ę (bZ (Ř 1) (bU rfl (ğ ő (ğ ő (ğ ő Š)))) ł (ę (Ĉ (ZdB T) T.vQ hr Ď (č 0 (đ (Ļ (Ĝ (ę (Ĉ (Et T) T.gj hr Ď (č 0 (č 2 ď))))) (ā 3)) (č 1 ď))))))) ď))
def Ou(T:Tx K mg a):Ħ P w K mg base Ş 10 a.Xx a.Zau ["yard","offers","wants"] (Ŗ ⟨K,Ķ a⟩ 3 lQ):=by
 refine ĳ T.i_.F Er λ_ _ _ _ _ _ hr _=>?_
 exact ē (Cj (ę (Ĉ (Zdf T) T.jG hr Ď (č 0 (č 2 ď))))) (ē (xu Er (Ř 1) (bU rfl (ğ ő (ğ ő Š))) ł (v_var 1)) (ē (xu Er (Ř 1) (bU rfl (ğ ő (ğ ő Š))) ł (ę (Ĉ (ZdA T) T.iZ hr Ď (č 0 (č 2 (č 1 ď)))))) (ľ (Kl (Zdj T) ŉ hr.mo rfl T.bC.m T.bC.F.kp T.bC.b Ď (č 3 (č 4 (đ (ś ş š T.aB PySem.boot_len (ė (ā 2) Ġ)) (đ (ę (Ĉ (ZdC T) T.jJ hr Ď (č 0 (č 2 ď)))) ď))))))))
def EY(T:Tx K mg a):Ħ P w K mg base Ş 1 a.Xy a.Zav ["_law_found","_law_many"] (Ŗ ⟨K,Ķ a⟩ 2 rP):=by
 refine ĳ T.cL.F Ob λ_ _ _ _ _ _ _ hu=>?_
 exact ē (Ŧ PassesOwn.leaving rfl (Ő rfl T.ť (Ć (v_var 1) Ě)) (Ś Ob) (ĥ (œ (t_eq hu (Ŕ (Ĝ (Ų qK qM (ā 0) (ā 2))) ą) ą) (ľ (bG 2)) Ĭ))) (Ł zx)
def Ov(T:Tx K mg a):Ħ P w K mg base Ş 1 a.Xz a.Zaw ["_law_prices","_law_choice"] (Ŗ ⟨K,Ķ a⟩ 2 Am):=by
 refine ĳ T.gn.F ZcU λ_ _ _ _ _ _ _ hu=>?_
 exact Ł (ś (qT rfl) qU T.A_ PyProof.Rows.boot_sum (ė (Ĝ (ę (bZ (Ő rfl T.ť (Ć (ś ş š T.aB PySem.boot_len (ė (ā 0) Ġ)) Ě)) ő (Cu (t_eq hu (Ŕ (Ĝ (Ų qK qM (ā 1) (ā 2))) ą) ą)) (Ļ (ā 0) (ā 2))))) Ġ))
def yU(T:Tx K mg a):Ħ P w K mg base Ş 1 a.XC a.Zax ["_law_found"] (Ŗ ⟨K,Ķ a⟩ 1 rQ):=by
 refine ĳ T.bD.F ZcV λ_ _ _ _ _ _ _ _=>?_
 exact Ł (v_and (ś wI wJ T.cM PyProof.Rows.boot_isinstance (ė (ā 0) (ė (Ĝ (Im (.ty "int") (pY (v:=.ty "int") rfl T.ZaS PyProof.Rows.boot_int rfl))) Ġ))) (iz (v_not (ś wI wJ T.cM PyProof.Rows.boot_isinstance (ė (ā 0) (ė (Ĝ (Im (.ty "bool") (pY (v:=.ty "bool") rfl T.Zcw PyProof.Rows.boot_bool rfl))) Ġ))))))
def ZdD(T:Tx K mg a):Ħ P w K mg base Ş 2 a.XD a.Zay ["_law_paper_here","_law_meets_here","_law_many"] (Ŗ ⟨K,Ķ a⟩ 3 Ao):=by
 refine ĳ T.mz.F Es λ_ _ _ _ _ _ hr hu=>?_
 exact ē (œ (PW.pt (w_or (fj (ż (Ĝ (ś wI wJ T.cM PyProof.Rows.boot_isinstance (ė (ā 0) (ė (Ĝ (Im (.ty "list") (pY (v:=.ty "list") rfl T.cB PyProof.Rows.boot_list rfl))) Ġ)))))) (uP (xr hu (Ĝ (ś ş š T.aB PySem.boot_len (ė (ā 0) Ġ))) (Ĝ (ś ş š T.aB PySem.boot_len (ė (ā 1) Ġ))))))) (Ł lq) Ĭ) (ē (Ŧ PassesOwn.leaving rfl (TF rfl T.ZaT (Gj 0) (Gj 1)) (bU rfl (ğ (Ś Es) (ğ (Ś Es) Š))) (ĥ (œ (PW.pt (w_or (PW.pt (w_and (aq fG jl (ā 3) iK (Ň _)) (cR (fj (ż (Ĝ (ę (Ĉ (yU T) T.bD hr Ď (č 3 ď))))))))) (uP (xr hu (ā 3) (Ĝ (ę (Ĉ (EY T) T.cL hr Ď (č 4 (č 2 ď))))))))) (Ł lq) Ĭ))) (Ł lq))
def Ow(T:Tx K mg a):Ħ P w K mg base Ş 3 a.XF a.Zaz ["_law_told_here","_law_prices","_law_meets_here","_law_many"] (Ŗ ⟨K,Ķ a⟩ 4 gJ):=by
 refine ĳ T.jc.F Oc λ_ _ _ _ _ _ hr hu=>?_
 exact ē (œ (fj (ż (Ĝ (ś wI wJ T.cM PyProof.Rows.boot_isinstance (ė (ā 0) (ė (Ĝ (Im (.ty "tuple") (pY (v:=.ty "tuple") rfl T.GQ PyProof.Rows.boot_tuple rfl))) Ġ)))))) (Ł lq) Ĭ) (ē (œ (aq fG jl (Ĝ (ę (Ĉ (EY T) T.cL hr Ď (đ (Ļ (ā 2) (Ĝ (pD cu cg ą))) (č 3 ď))))) iK (Ň _)) (Ł (v_and (v_eq hu (Ĝ (ś ş š T.aB PySem.boot_len (ė (ā 0) Ġ))) ą) (v_and (v_eq hu (ī (ā 0) ą) lK) (v_and (ę (Ĉ (yU T) T.bD hr Ď (đ (Ļ (ā 0) ą) ď))) (iz (v_eq hu (ī (ā 0) ą) (Ĝ (ę (Ĉ (EY T) T.cL hr Ď (đ (Ļ (ā 2) (Ĝ (pD cu cg ą))) (č 3 ď))))))))))) Ĭ) (ē (œ (PW.pt (w_or (xr hu (Ĝ (ś ş š T.aB PySem.boot_len (ė (ā 0) Ġ))) ą) (w_or (xr hu (ī (ā 0) ą) lK) (w_or (fj (ż (Ĝ (ę (Ĉ (yU T) T.bD hr Ď (đ (Ļ (ā 0) ą) ď)))))) (uP (fj (ż (Ĝ (ę (Ĉ (yU T) T.bD hr Ď (đ (Ļ (ā 0) ą) ď))))))))))) (Ł lq) Ĭ) (ē (œ (PW.pt (w_or (fj (ż (Ĝ (ę (Ĉ (ZdD T) T.mz hr Ď (đ (Ļ (ā 0) ą) (č 2 (č 3 ď)))))))) (w_or (fj (Tc gF gD gB gA ą (ī (ā 0) ą) (Ĝ (ś ş š T.aB PySem.boot_len (ė (ā 2) Ġ))))) (uP (aq fG jl (ī (ī (ā 0) ą) (ī (ā 0) ą)) iK (Ň _)))))) (Ł lq) Ĭ) (ē (œ (xr hu (ī (ā 0) ą) (Ĝ (ę (Ĉ (Ov T) T.gn hr Ď (č 1 (đ (Ļ (ā 0) ą) ď)))))) (Ł lq) Ĭ) (ē (Ŧ PassesOwn.leaving rfl (Ő rfl T.ť (Ć (ś ş š T.aB PySem.boot_len (ė (ā 2) Ġ)) Ě)) (Ś Oc) (ĥ (œ (PW.pt (w_and (aq zH qy (ī (ī (ā 0) ą) (ā 4)) iK (Ň _)) (cR (aq Zco (Zcn hu) (Ĝ (Ŀ (Ć (ę (Ĉ (Ov T) T.gn hr Ď (č 1 (č 4 ď)))) (Ć (v_var 4) Ě)))) (Ĝ (Ŀ (Ć (Ļ (ā 0) ą) (Ć (Ļ (ā 0) ą) Ě)))) (Ň _))))) (Ł lq) Ĭ))) (Ł lq))))))
def Ox(T:Tx K mg a):Ħ P w K mg base Ş 1 a.XH a.ZaA ["_law_number"] (Ŗ ⟨K,Ķ a⟩ 1 vH):=by
 refine ĳ T.eN.F ZcW λ_ _ _ _ _ _ _ hu=>?_
 exact ē (œ (t_eq hu (Ŕ (dH (ā 0) ą) ą) ą) (ľ (gH ą (Ŕ (ŕ (ā 0) ą) (Ĝ (Ų nu m_ ą ą))))) Ĭ) (ľ (gH ą (Ŕ (ā 0) ą)))
def tE(T:Tx K mg a):Ħ P w K mg base Ş 1 a.XJ a.ZaB ["_law_number","_law_wide"] (Ŗ ⟨K,Ķ a⟩ 2 jE):=by
 refine ĳ T.ak.F ZcX λ_ _ _ _ _ _ _ hu=>?_
 exact ē (œ (t_eq hu (Ŕ (dH (ā 0) ą) ą) ą) (ľ (gH (iM (Ŕ (ŕ (ā 0) ą) (iM (ŕ ą (Ĝ (Ų nu m_ ą ą))) ą)) (Ĝ (Ų nu m_ ą ą))) ą)) Ĭ) (Ł (v_sub (Ŕ (ā 0) (cW (ŕ ą (ā 1)) ą)) ą))
def Oz(T:Tx K mg a):Ħ P w K mg base Ş 2 a.XM a.ZaC ["_law_cell","_law_wide"] (Ŗ ⟨K,Ķ a⟩ 2 dI):=by
 refine ĳ T.gq.F jh λ_ _ _ _ _ _ hr hu=>?_
 exact ĺ jh (Ĉ (tD T) T.ŷ hr Ď (č 0 (đ Ī ď))) (ē (zB (ę (bZ (Ő rfl T.ť (Ć Ī Ě)) ő ł (ę (Ĉ (tE T) T.ak hr Ď (đ (Ļ (ā 1) (ā 2)) (č 0 ď)))))) (zZ rfl (ğ (Ś jh) (ğ (Ś jh) Š)))) (ĺ jh (Ĉ (Ox T) T.eN hr Ď (đ (Ļ (ā 2) ą) ď)) (ĺ jh (ŗ (v_mod (ī (ā 2) ą) ą)) (ē (œ (t_eq hu (ā 4) ą) (Ł (Ŀ (Ć ao (Ć (ę (ŏ (Ć (lM (ā 5) ą) (Ć (lM (ā 6) ą) (Ć (v_var 3) Ě))))) Ě)))) Ĭ) (ē (œ (t_eq hu (ā 4) ą) (ē (zB (ę (ŏ (Ć (v_sub (cW (ā 5) (Ŕ (ī (ā 2) ą) ą)) ą) (Ć (v_sub (cW (ā 6) (Ŕ (ī (ā 2) ą) ą)) ą) Ě)))) (zZ rfl (ğ (Ś jh) (ğ (Ś jh) Š)))) (Ł (Ŀ (Ć ao (Ć (ę (ŏ (Ć (v_var 5) (Ć (v_var 6) (Ć (v_add (ā 7) (Ĝ (Zcq Zb9 Zb_ T.ZaS PyProof.Rows.boot_int (ė (Ĝ (v_eq hu (Ĝ (Ŀ (Ć (v_var 5) (Ć (v_var 6) Ě)))) (Ĝ (Ŀ (Ć (v_var 7) (Ć (v_var 8) Ě)))))) Ġ)))) (Ć (v_var 8) (Ć (v_var 3) Ě))))))) Ě))))) Ĭ) (ē (œ (t_eq hu (ā 4) ą) (Ł (Ŀ (Ć ao (Ć (v_add (cW (Ĝ (ę (ŏ (Ć (v_var 5) (Ć (v_var 6) (Ć (v_mod (ī (ā 2) ą) ą) Ě)))))) (Ĝ (ę (ŏ (Ć (ę (Ĉ (tE T) T.ak hr Ď (đ (Ļ (ā 2) ą) (č 1 ď)))) (Ć (ę (Ĉ (tE T) T.ak hr Ď (đ (Ļ (ā 2) ą) (č 1 ď)))) (Ć (v_var 3) Ě))))))) (Ĝ (ę (ŏ (Ć (ę (Ĉ (tE T) T.ak hr Ď (đ (Ļ (ā 2) ą) (č 1 ď)))) (Ć (ę (Ĉ (tE T) T.ak hr Ď (đ (Ļ (ā 2) ą) (č 1 ď)))) (Ć (ę (Ĉ (Ox T) T.eN hr Ď (đ (Ļ (ā 2) ą) ď))) Ě))))))) Ě)))) Ĭ) (Ł (Ŀ (Ć (Ļ (Ĝ (ę (ŏ (Ć ao (Ć ao Ě))))) (iM (ā 4) ą)) (Ć (ę (ŏ (Ć (v_var 5) (Ć (v_var 6) (Ć (v_add (cW (ā 5) ą) (Ŕ (ī (ā 2) ą) ą)) (Ć (v_add (cW (ā 6) ą) (Ŕ (ī (ā 2) ą) ą)) (Ć (v_var 3) Ě))))))) Ě))))))))))
def tH(T:Tx K mg a):Ħ P w K mg base Ş 1 a.XQ a.ZaD ["number"] (Ŗ ⟨K,Ķ a⟩ 1 oR):=by
 refine ĳ T.bN.F ZcY λ_ _ _ _ _ _ _ _=>?_
 exact Ł (uO gF gF gB gB (Ĝ (pD cu cg (Ĝ (Im (.int 1000000000) (pX (v:=.int 1000000000) rfl T.mH ⟨_,rfl⟩))))) (ā 0) (Ĝ (Im (.int 1000000000) (pX (v:=.int 1000000000) rfl T.mH ⟨_,rfl⟩))))
def OD(T:Tx K mg a):Ħ P w K mg base Ş 1 a.XR a.ZaE ["number"] (Ŗ ⟨K,Ķ a⟩ 1 Aq):=by
 refine ĳ T.jd.F ZcZ λ_ _ _ _ _ _ _ _=>?_
 exact Ł (uO gF gF gB gB ą (ā 0) (Ĝ (Im (.int 1000000000) (pX (v:=.int 1000000000) rfl T.jM ⟨_,rfl⟩))))
def ZdE(T:Tx K mg a):Ħ P w K mg base Ş 2 a.X_ a.ZaF ["numbers"] (Ŗ ⟨K,Ķ a⟩ 1 Ar):=by
 refine ĳ T.mD.F Zc0 λ_ _ _ _ _ _ hr hu=>?_
 exact Ł (v_and (v_eq hu (Ĝ (ś ş š T.aB PySem.boot_len (ė (ā 0) Ġ))) ą) (v_and (ę (Ĉ (tH T) T.bN hr Ď (đ (Ļ (ā 0) ą) ď))) (v_and (ę (Ĉ (tH T) T.bN hr Ď (đ (Ļ (ā 0) ą) ď))) (iz (ę (Ĉ (OD T) T.jd hr Ď (đ (Ļ (ā 0) ą) ď)))))))
def OJ(T:Tx K mg a):Ħ P w K mg base Ş 1 a.pL a.Ig ["self","word","numbers"] (Pr ⟨K,Ķ a⟩ 3 "Post" yq):=by
 refine fnI (cm:=Ķ a) (mb:=gK) T.ķ.F Bf rfl rfl rfl λcdv A outer s H E hr=>?_
 have hu:=hr.units
 exact ē (bx ["Thing","Post","Fence","Sail","Cloth","House"] (Zt T) (pv 0) (v_var 1)) (ĥ (bx ["Thing","Post","Fence","Sail","Cloth","House"] (Z8 T) (pv 0) (ę (rC aZ bf T.cB PyProof.Rows.boot_list (ė (ā 2) Ġ)))))
def Ih(T:Tx K mg a):Ħ P w K mg base Ş 1 a.pL a.Ig ["self","word","numbers"] (Pr ⟨K,Ķ a⟩ 3 "Fence" rT):=by
 refine fnI (cm:=Ķ a) (mb:=gK) T.ķ.F Bf rfl rfl rfl λcdv A outer s H E hr=>?_
 have hu:=hr.units
 exact ē (bx ["Thing","Post","Fence","Sail","Cloth","House"] (Zt T) (pv 0) (v_var 1)) (ĥ (bx ["Thing","Post","Fence","Sail","Cloth","House"] (Z8 T) (pv 0) (ę (rC aZ bf T.cB PyProof.Rows.boot_list (ė (ā 2) Ġ)))))
def O_(T:Tx K mg a):Ħ P w K mg base Ş 1 a.pL a.Ig ["self","word","numbers"] (Pr ⟨K,Ķ a⟩ 3 "Sail" yr):=by
 refine fnI (cm:=Ķ a) (mb:=gK) T.ķ.F Bf rfl rfl rfl λcdv A outer s H E hr=>?_
 have hu:=hr.units
 exact ē (bx ["Thing","Post","Fence","Sail","Cloth","House"] (Zt T) (pv 0) (v_var 1)) (ĥ (bx ["Thing","Post","Fence","Sail","Cloth","House"] (Z8 T) (pv 0) (ę (rC aZ bf T.cB PyProof.Rows.boot_list (ė (ā 2) Ġ)))))
def Ii(T:Tx K mg a):Ħ P w K mg base Ş 1 a.pL a.Ig ["self","word","numbers"] (Pr ⟨K,Ķ a⟩ 3 "Cloth" rW):=by
 refine fnI (cm:=Ķ a) (mb:=gK) T.ķ.F Bf rfl rfl rfl λcdv A outer s H E hr=>?_
 have hu:=hr.units
 exact ē (bx ["Thing","Post","Fence","Sail","Cloth","House"] (Zt T) (pv 0) (v_var 1)) (ĥ (bx ["Thing","Post","Fence","Sail","Cloth","House"] (Z8 T) (pv 0) (ę (rC aZ bf T.cB PyProof.Rows.boot_list (ė (ā 2) Ġ)))))
def Ij(T:Tx K mg a):Ħ P w K mg base Ş 1 a.pL a.Ig ["self","word","numbers"] (Pr ⟨K,Ķ a⟩ 3 "House" rY):=by
 refine fnI (cm:=Ķ a) (mb:=gK) T.ķ.F Bf rfl rfl rfl λcdv A outer s H E hr=>?_
 have hu:=hr.units
 exact ē (bx ["Thing","Post","Fence","Sail","Cloth","House"] (Zt T) (pv 0) (v_var 1)) (ĥ (bx ["Thing","Post","Fence","Sail","Cloth","House"] (Z8 T) (pv 0) (ę (rC aZ bf T.cB PyProof.Rows.boot_list (ė (ā 2) Ġ)))))
def Pa(T:Tx K mg a):Ħ P w K mg base Ş 2 a.Yb a.ZaG ["numbers"] (Ŗ ⟨K,Ķ a⟩ 1 vI):=by
 refine ĳ T.dh.F Zc1 λ_ _ _ _ _ _ hr hu=>?_
 exact Ł (v_and (v_eq hu (Ĝ (ś ş š T.aB PySem.boot_len (ė (ā 0) Ġ))) ą) (v_and (ś (wz rfl) wL T.GP PyProof.Rows.boot_all (ė (Ĝ (ę (bZ (aW (ę (aK (ā 0) qO (ŭ Ī)))) ő ł (ę (Ĉ (tH T) T.bN hr Ď (č 0 ď)))))) Ġ)) (iz (ę (Ĉ (OD T) T.jd hr Ď (đ (Ļ (ā 0) ą) ď))))))
def ZdF(T:Tx K mg a):Ħ P w K mg base Ş 3 a.Yc a.ZaH ["numbers"] (Ŗ ⟨K,Ķ a⟩ 1 Av):=by
 refine ĳ T.jK.F Zc2 λ_ _ _ _ _ _ hr hu=>?_
 exact Ł (v_and (ę (Ĉ (Pa T) T.dh hr Ď (č 0 ď))) (iz (oh Kw (Ce hu) (Ĝ (ę (aK (ā 0) qO (ŭ Ī)))) (Ĝ (ę (aK (ā 0) (ŭ Ī) (ŭ Ī)))) (Ň _))))
def ZaV(T:Tx K mg a):Ħ P w K mg base Ş 3 a.Zfe a.Zfn ["numbers"] (Ŗ ⟨K,Ķ a⟩ 1 Ie):=by
 refine ĳ T.Ź.F Zfu λ_ _ _ _ _ _ hr _=>?_
 exact Ł (v_and (ę (Ĉ (Pa T) T.dh hr Ď (č 0 ď))) (v_and (oh gD gA (ī (ā 0) ą) (ī (ā 0) ą) (Ň _)) (iz (oh gD gA (ī (ā 0) ą) (ī (ā 0) ą) (Ň _)))))
def ZfB(T:Tx K mg a):Ħ P w K mg base Ş 2 a.Zff a.Zfo ["numbers"] (Ŗ ⟨K,Ķ a⟩ 1 RM):=by
 refine ĳ T.dM.F Zfv λ_ _ _ _ _ _ hr _=>?_
 exact Ł (v_and (ę (Ĉ (tH T) T.bN hr Ď (đ (Ļ (ā 0) ą) ď))) (v_and (ę (Ĉ (tH T) T.bN hr Ď (đ (Ļ (ā 0) ą) ď))) (iz (uO gF gF gB gB ą (ī (ā 0) ą) (Ĝ (Im (.int 1000000000) (pX (v:=.int 1000000000) rfl T.jM ⟨_,rfl⟩)))))))
def ZdG(T:Tx K mg a):Ħ P w K mg base Ş 3 a.Yd a.ZaI ["numbers"] (Ŗ ⟨K,Ķ a⟩ 1 Aw):=by
 refine ĳ T.jL.F Zc3 λ_ _ _ _ _ _ hr hu=>?_
 exact Ł (v_and (v_eq hu (Ĝ (ś ş š T.aB PySem.boot_len (ė (ā 0) Ġ))) ą) (iz (ś (wz rfl) wL T.GP PyProof.Rows.boot_all (ė (Ĝ (ę (bZ (aW (Ŀ (Ć Ī (Ć Ī (Ć Ī Ě))))) ő ł (ę (Ĉ (ZfB T) T.dM hr Ď (đ (ę (aK (ā 0) (ŭ (v_var 1)) (ŭ (v_add (ā 1) ą)))) ď)))))) Ġ))))
def Pb(T:Tx K mg a):Ħ P w K mg base Ş 4 a.Ye a.ZaJ ["word","numbers"] (Ŗ ⟨K,Ķ a⟩ 2 cX):=by
 refine ĳ T.kI.F Zc4 λ_ _ _ _ _ _ hr hu=>?_
 exact ē (œ (PW.pt (w_and (t_eq hu (ā 0) lK) (cR (ż (Ĝ (ę (Ĉ (ZdE T) T.mD hr Ď (č 1 ď)))))))) (Ł (nC T.Zcy (OJ T) cO hr.mo rfl (Z34 T) T.ķ.b Ď (č 0 (č 1 ď)))) Ĭ) (ē (œ (PW.pt (w_and (t_eq hu (ā 0) lK) (cR (ż (Ĝ (ę (Ĉ (ZdF T) T.jK hr Ď (č 1 ď)))))))) (Ł (nC T.RW (Ih T) cO hr.mo rfl (Z2m T) T.ķ.b Ď (č 0 (č 1 ď)))) Ĭ) (ē (œ (PW.pt (w_and (t_eq hu (ā 0) lK) (cR (ż (Ĝ (ę (Ĉ (ZaV T) T.Ź hr Ď (č 1 ď)))))))) (Ł (nC T.Zcz (O_ T) cO hr.mo rfl (Z35 T) T.ķ.b Ď (č 0 (č 1 ď)))) Ĭ) (ē (œ (PW.pt (w_and (t_eq hu (ā 0) lK) (cR (ż (Ĝ (ę (Ĉ (ZdG T) T.jL hr Ď (č 1 ď)))))))) (Ł (nC T.RX (Ii T) cO hr.mo rfl (Z2n T) T.ķ.b Ď (č 0 (č 1 ď)))) Ĭ) (ē (œ (PW.pt (w_and (t_eq hu (ā 0) lK) (cR (ż (Ĝ (ę (Ĉ (ZaV T) T.Ź hr Ď (č 1 ď)))))))) (Ł (nC T.RZ (Ij T) cO hr.mo rfl (Z2o T) T.ķ.b Ď (č 0 (č 1 ď)))) Ĭ) (ĥ qg)))))
def Ph(T:Tx K mg a):Ħ P w K mg base Ş 1 a.Yg a.ZaK ["first","last"] (Ŗ ⟨K,Ķ a⟩ 2 vJ):=by
 refine ĳ T.je.F Zc5 λ_ _ _ _ _ _ _ _=>?_
 exact ē (œ (aq gD gA (ā 1) (ā 0) (Ň _)) (Ł Ī) Ĭ) (Ł (v_sub (Ĝ (Ų jW jX ą (cW (ā 1) ą))) (Ĝ (Ų jW jX ą (ā 0)))))
def ZdH(T:Tx K mg a):Ħ P w K mg base Ş 2 a.Yh a.ZaL ["lines","unit","q","width"] (Ŗ ⟨K,Ķ a⟩ 4 Ax):=by
 refine ĳ T.sJ.F eO λ_ _ _ _ _ _ hr _=>?_
 exact ĺ eO (ŗ Ī) (ĺ eO (ŗ (v_sub (ā 3) ą)) (ē (Ŧ PassesOwn.leaving rfl (Ř 0) (bU rfl (ğ (Ś eO) (ğ (Ś eO) (ğ (Ś eO) Š)))) (ĺ eO (ŗ (v_mul (ā 6) (ā 1))) (ĺ eO (ŗ (v_sub (ā 8) (ŕ (ŕ (ā 7) (ā 1)) (ā 2)))) (ĥ (œ (aq Tn SJ (ā 9) ą (Ň _)) (ĥ (rz eO (ŗ (ś (wu rfl) wH T.vU PyProof.Rows.boot_min (ė (ā 5) (ė (dH (ā 10) (ā 9)) Ġ)))))) (ĥ (œ (aq gD gA (ā 9) ą (Ň _)) (ĥ (rz eO (ŗ (ś (Qu rfl) Rm T.Az PyProof.Rows.boot_max (ė (ā 4) (ė (Ĝ (pD cu cg (dH (ā 10) (Ĝ (pD cu cg (ā 9)))))) Ġ)))))) (ĥ (œ (aq gD gA (ā 10) ą (Ň _)) (Ł Ī) Ĭ))))))))) (ľ (Ĉ (Ph T) T.je hr Ď (č 4 (č 5 ď))))))
def ZdI(T:Tx K mg a):Ħ P w K mg base Ş 5 a.Yi a.ZaM ["yard","thing","ray"] (Ŗ ⟨K,Ķ a⟩ 3 vK):=by
 refine ĳ T.vR.F tu λ_ _ _ _ _ _ hr _=>?_
 exact ĺ tu (Ĉ (Oh T) T.dZ hr Ď (đ (ę (Ĉ (Ot T) T.dg hr Ď (č 1 (č 2 ď)))) ď)) (ĺ tu (ŗ Ī) (ē (Ŧ PassesOwn.leaving rfl (Ő rfl T.ť (Ć (aA ["Yard"] (Zw T) (ā 0)) Ě)) (Ś tu) (ĥ (wW (i:=4) tu.nd rfl (Or.inl rfl) (Ų jW jX (Ĝ (ę (Ĉ (ZdH T) T.sJ hr Ď (č 3 (đ (v_mul ą (ī (ā 2) ą)) (č 5 (đ (aA ["Yard"] (Zq T) (ā 0)) ď))))))) (ŕ (ā 5) (Ĝ (aA ["Yard"] (Zq T) (ā 0)))))))) (ľ (bG 4))))
def ZfC(T:Tx K mg a):Ħ P w K mg base Ş 6 a.Zfg a.Zfp ["yard","ray"] (Ŗ ⟨K,Ķ a⟩ 2 RN):=by
 refine ĳ T.dN.F Zfw λ_ _ _ _ _ _ hr _=>?_
 exact ľ (bZ (aW (aA ["Yard"] (ZH T) (ā 0))) ő ł (ę (Ĉ (ZdI T) T.vR hr Ď (č 0 (č 2 (č 1 ď))))))
def ZdJ(T:Tx K mg a):Ħ P w K mg base Ş 7 a.Yj a.ZaN ["yard","turn"] (Ŗ ⟨K,Ķ a⟩ 2 vL):=by
 refine ĳ T.Nv.F yS λ_ _ _ _ _ _ hr _=>?_
 exact ē (œ (aq zH qy (ā 1) iK (Ň _)) (ľ (Ĉ (Ph T) T.je hr Ď (đ Ī (đ (v_sub (ŕ (Ĝ (aA ["Yard"] (Zq T) (ā 0))) (Ĝ (aA ["Yard"] (Zw T) (ā 0)))) ą) ď)))) Ĭ) (ĺ yS (ŗ Ī) (ē (Ŧ PassesOwn.leaving rfl (aW (ę (Ĉ (ZfC T) T.dN hr Ď (č 0 (č 1 ď))))) (Ś yS) (ĥ (wW (i:=2) yS.nd rfl (Or.inl rfl) (v_var 3)))) (ľ (bG 2))))
def ZdK(T:Tx K mg a):Ħ P w K mg base Ş 8 a.Yk a.ZaO ["_law_yard","_law_wants"] (Ŗ ⟨K,Ķ a⟩ 2 vM):=by
 refine ĳ T.o_.F ji λ_ _ _ _ _ _ hr _=>?_
 exact ĺ ji (ŗ Ī) (ē (Ŧ PassesOwn.leaving rfl (Ő rfl T.ť (Ć (ś ş š T.aB PySem.boot_len (ė (ā 1) Ġ)) Ě)) (Ś ji) (ē (zB (Ļ (ā 1) (ā 3)) (zZ rfl (ğ (Ś ji) (ğ (Ś ji) (ğ (Ś ji) Š))))) (ĺ ji (Ĉ (ZdJ T) T.Nv hr Ď (č 0 (đ (Ļ (ī (ī (Ĝ (aA ["Yard"] (ZD T) (ā 0))) (ā 6)) ą) (ā 7)) ď))) (ĥ (rz ji (gH (ā 2) (Ĝ (Ų jW jX (Ŕ (Ĝ (Ų qK qM (ā 4) (cW (ŕ (ī (ā 5) ą) (Ĝ (aA ["Yard"] (Zq T) (ā 0)))) (ī (ā 5) ą)))) ą) (ā 3))))))))) (ľ (bG 2)))
def ZdL(T:Tx K mg a):Ħ P w K mg base Ş 8 a.Yl a.ZaP ["_law_thing_here","_law_days_here","_law_wants"] (Ŗ ⟨K,Ķ a⟩ 3 vN):=by
 refine ĳ T.mF.F jj λ_ _ _ _ _ _ hr _=>?_
 exact ĺ jj (ŗ Ī) (ē (Ŧ PassesOwn.leaving rfl (Ő rfl T.ť (Ć (ś ş š T.aB PySem.boot_len (ė (ā 2) Ġ)) Ě)) (Ś jj) (ē (zB (Ļ (ā 2) (ā 4)) (zZ rfl (ğ (Ś jj) (ğ (Ś jj) (ğ (Ś jj) Š))))) (ĺ jj (ŗ (Ļ (ī (ī (ā 1) (ā 7)) ą) (ā 8))) (ĥ (œ (PW.pt (w_and (aq fG jl (ā 5) iK (Ň _)) (cR (ż (Ĝ (ę (Ĉ (Ez T) T.mq hr Ď (č 0 (č 6 (č 5 ď)))))))))) (ĥ (rz jj (gH (ā 3) (Ĝ (Ų jW jX ą (ā 4)))))) Ĭ))))) (ľ (bG 3)))
def ZdM(T:Tx K mg a):Ħ P w K mg base Ş 1 a.Ym a.ZaQ ["_law_cell"] (Ŗ ⟨K,Ķ a⟩ 1 sy):=by
 refine ĳ T.mG.F Zc6 λ_ _ _ _ _ _ _ _=>?_
 exact Ł (Ļ (Ĝ (ę (ŏ (Ć Ī (Ć (v_mod (dH (ā 0) ą) ą) (Ć (v_mod (dH (ā 0) ą) ą) (Ć (v_mod (dH (ā 0) ą) (cW (Ĝ (Ų nu m_ ą ą)) ą)) Ě))))))) (Ŕ (ā 0) ą))
def cC(T:Tx K mg a):Ħ P w K mg base Ş 1 a.oU a.ZaR ["self"] (Ŗ ⟨K,Ķ a⟩ 1 ĵ):=by
 refine ĳ T.ĸ.F Zc7 λ_ _ _ _ _ _ _ _=>?_
 exact Ł (ZhG PySem.F.plainAttrs_str PySem.F.slot_str_join PySem.F.type_str_join Rv QJ lK (ė (cW (Ĝ (ę (ŏ (Ć (aA ["Thing","Post","Fence","Sail","Cloth","House"] (Zt T) (ā 0)) Ě)))) (Ĝ (ę (bZ (aW (aA ["Thing","Post","Fence","Sail","Cloth","House"] (Z8 T) (ā 0))) ő ł (Zcq Zca Zcb T.Zfr PyProof.Rows.boot_str (ė (ā 0) Ġ)))))) Ġ))
def ZdN(T:Tx K mg a):Ħ P w K mg base Ş 11 a.Yn a.Nt ["_law_script"] (Ŗ ⟨K,Ķ a⟩ 1 sE):=by
 refine ĳ T.Nx.F ũ λ_ _ _ _ _ _ hr hu=>?_
 exact ĺ ũ (Ĉ (Zc8 T) T.oV hr Ď (đ (ę (Ĉ (gw T) T.Ŷ hr Ď (č 0 (đ Ī ď)))) (đ Ī ď))) (ē (xu ũ (aW (ę (aK (ā 0) (ŭ Ī) (ŭ Ī)))) ő ł (ę (Ĉ (Oz T) T.gq hr Ď (č 1 (đ (ś (wQ rfl) wR T.Az PyProof.Rows.boot_max (ė (ā 0) Ġ)) ď))))) (ĺ ũ (Ĉ (Zc_ T) T.oW hr Ď (č 0 (đ Ī (đ (v_add ą (Ŕ (Ĝ (ę (Ĉ (gw T) T.Ŷ hr Ď (č 0 (đ Ī ď))))) ą)) (đ Ī ď))))) (ĺ ũ (ŏ (Ć (ę (aK (ā 0) (ŭ Ī) (ŭ (v_add ą (Ŕ (dH (Ĝ (ę (Ĉ (gw T) T.Ŷ hr Ď (č 0 (đ Ī ď))))) ą) ą))))) (Ć (ę (aK (ā 0) (ŭ Ī) (ŭ Ī))) Ě))) (ē (œ (t_eq hu (Ŕ (dH (Ĝ (ę (Ĉ (gw T) T.Ŷ hr Ď (č 0 (đ Ī ď))))) ą) ą) ą) (ĺ ũ (ŗ (Ŀ (Ć (v_add ą (Ŕ (Ĝ (ę (Ĉ (gw T) T.Ŷ hr Ď (č 0 (đ Ī ď))))) ą)) (Ć Ī Ě)))) (ĺ ũ (aK (ā 2) qO (ŭ Ī)) (ĺ ũ (ŏ (Ć (ę (bZ (aW (ę (Ĉ (tD T) T.ŷ hr Ď (đ (ę (Ĉ (gw T) T.Ŷ hr Ď (č 0 (đ Ī ď)))) (đ Ī ď))))) ő ł (v_add (ŕ ą (ā 0)) ą))) Ě)) (ĥ (PS.wk (aU (ig PySem.F.plainAttrs_list PySem.F.slot_list_append PySem.F.type_list_append Ŵ (pv 4) (Ć (ę (bZ (aW (ę (Ĉ (tD T) T.ŷ hr Ď (đ (ę (Ĉ (gw T) T.Ŷ hr Ď (č 0 (đ Ī ď)))) (đ Ī ď))))) ő ł (v_add (ŕ ą (ā 0)) ą))) Ě))) λ_ _ _ h=>dD h))))) Ĭ) (ĺ ũ (ŗ (nC T.Zcx (Od T) cO hr.mo rfl (Z33 T) T.gM.b Ď (đ (Ļ (ā 1) ą) (đ (Ļ (ā 1) ą) (đ (ę (bZ (Ř 2) (bU rfl (ğ ő (ğ ő Š))) ł (ę (Ĉ (Pb T) T.kI hr Ď (č 0 (đ (ę (rC aZ bf T.cB PyProof.Rows.boot_list (ė (ā 1) Ġ))) ď)))))) (č 3 ď)))))) (ĺ ũ (ŏ Ě) (ē (Ŧ PassesOwn.leaving rfl (aW (Ļ (ā 4) ą)) (Ś ũ) (ē (zB (ę (Ĉ (Oz T) T.gq hr Ď (đ (lM (ā 7) ą) (đ (ś (wQ rfl) wR T.Az PyProof.Rows.boot_max (ė (ā 1) Ġ)) ď)))) (zZ rfl (ğ (Ś ũ) (ğ (Ś ũ) Š)))) (ĺ ũ (Ĉ (Pb T) T.kI hr Ď (č 14 (đ (ę (rC aZ bf T.cB PyProof.Rows.boot_list (ė (ā 15) Ġ))) ď))) (ē (œ (PW.pt (w_and (aq Zcm (Zcl hu) (ā 6) (Ĝ (ę (ŏ Ě))) (Ň _)) (cR (t_eq hu (Ŕ (dH (ā 7) ą) ą) ą)))) (ĥ (rz ũ (ŗ (Ļ (ī (ā 6) ą) ą)))) Ĭ) (ĥ (PS.wk (aU (ig PySem.F.plainAttrs_list PySem.F.slot_list_append PySem.F.type_list_append Ŵ (pv 6) (Ć (Ŀ (Ć (v_var 13) (Ć (ę (Ĉ (ZdM T) T.mG hr Ď (č 7 ď))) Ě))) Ě))) λ_ _ _ h=>dD h)))))) (ĺ ũ (Ĉ (Zfx T) T.cY hr Ď (đ (Ļ (ā 4) ą) (č 1 (č 3 ď)))) (ē (xu ũ (Ř 6) (bU rfl (ğ ő (ğ ő Š))) ł (v_var 1)) (ĺ ũ (Ĉ (Zda T) T.lR hr Ď (đ (ę (bZ (Ř 6) (bU rfl (ğ ő (ğ ő Š))) ł (ę (Ĉ (ZdL T) T.mF hr Ď (č 2 (č 0 (č 1 ď))))))) (đ (ę (Ĉ (ZdK T) T.o_ hr Ď (č 5 (č 8 ď)))) ď))) (ĺ ũ (ŏ (Ć (ę (rC aZ bf T.cB PyProof.Rows.boot_list (ė (ā 6) Ġ))) (Ć (ę (rC aZ bf T.cB PyProof.Rows.boot_list (ė (ā 8) Ġ))) Ě))) (ĺ ũ (Ĉ (Ou T) T.i_ hr Ď (č 5 (đ (Ļ (ā 11) ą) (đ (Ļ (ā 11) ą) ď)))) (ē (œ (PW.pt (w_or (fj (ż (Ĝ (ę (Ĉ (Ow T) T.jc hr Ď (č 12 (č 9 (č 10 (đ (ś ş š T.aB PySem.boot_len (ė (ā 8) Ġ)) ď))))))))) (uP (xr hu (ī (ā 11) ą) (ā 8))))) (Ł lq) Ĭ) (ē (œ (xr hu (Ĝ (ę (bZ (aW (Ļ (ā 11) ą)) (bU rfl (ğ ő (ğ ő Š))) ł (Ŀ (Ć (ę (wO (Ip:= "shown") (k:=1) (n:=1) (jk:=[("Thing",ĵ),("Post",ĵ),("Fence",ĵ),("Sail",ĵ),("Cloth",ĵ),("House",ĵ)]) ⟨⟨T.qm,_,_,_,T.jN,(cC T).mono (by decide),T.ĸ.b,ŉ⟩,⟨⟨T.sO,_,_,_,T.mJ,(cC T).mono (by decide),T.ĸ.b,ŉ⟩,⟨⟨T.mK,_,_,_,T.jO,(cC T).mono (by decide),T.ĸ.b,ŉ⟩,⟨⟨T.sV,_,_,_,T.mL,(cC T).mono (by decide),T.ĸ.b,ŉ⟩,⟨⟨T.mO,_,_,_,T.jP,(cC T).mono (by decide),T.ĸ.b,ŉ⟩,⟨⟨T.mQ,_,_,_,T.jQ,(cC T).mono (by decide),T.ĸ.b,ŉ⟩,trivial⟩⟩⟩⟩⟩⟩ hr.mo Ď (v_var 0))) (Ć (v_var 1) Ě)))))) (Ĝ (ę (bZ (Ř 6) (bU rfl (ğ ő (ğ ő Š))) ł (Ŀ (Ć (ę (wO (Ip:= "shown") (k:=1) (n:=1) (jk:=[("Thing",ĵ),("Post",ĵ),("Fence",ĵ),("Sail",ĵ),("Cloth",ĵ),("House",ĵ)]) ⟨⟨T.qm,_,_,_,T.jN,(cC T).mono (by decide),T.ĸ.b,ŉ⟩,⟨⟨T.sO,_,_,_,T.mJ,(cC T).mono (by decide),T.ĸ.b,ŉ⟩,⟨⟨T.mK,_,_,_,T.jO,(cC T).mono (by decide),T.ĸ.b,ŉ⟩,⟨⟨T.sV,_,_,_,T.mL,(cC T).mono (by decide),T.ĸ.b,ŉ⟩,⟨⟨T.mO,_,_,_,T.jP,(cC T).mono (by decide),T.ĸ.b,ŉ⟩,⟨⟨T.mQ,_,_,_,T.jQ,(cC T).mono (by decide),T.ĸ.b,ŉ⟩,trivial⟩⟩⟩⟩⟩⟩ hr.mo Ď (v_var 0))) (Ć (v_var 1) Ě))))))) (Ł lq) Ĭ) (ľ (Ĉ (Ow T) T.jc hr Ď (đ (ę (Ĉ (Ou T) T.i_ hr Ď (č 5 (č 6 (č 8 ď))))) (č 9 (č 10 (đ (ś ş š T.aB PySem.boot_len (ė (ā 8) Ġ)) ď))))))))))))))))))))
end
def pt(p:Hu.Pt):PV:=.tup [.int p.1,.int p.2]
def dj(l:Hu.Ln):PV:=.tup [.int l.1,.int l.2.1,.int l.2.2]
def Sm(p:Hu.Pt):Prop:=-100000000000000000<=p.1/\p.1<=100000000000000000/\ -100000000000000000<=p.2/\p.2<=100000000000000000
def SmL(l:Hu.Ln):Prop:=-1000000000000000000<=l.1/\l.1<=1000000000000000000/\ -1000000000000000000<=l.2.1/\l.2.1<=1000000000000000000
def Z0L{x y:Hu.Pt}:eqB (pt y) (pt x)=decide (y=x):=by
 obtain⟨a,b⟩:=x
 obtain⟨c,d⟩:=y
 unfold pt
 rw[Zcg,Bool.eq_iff_iff]
 simp
def Z04(x:Hu.Pt):aj (pt x)=true:=by simp[pt,aj,aX]
def ZR(x:Hu.Pt):dep (pt x)=1:=by simp[pt,dep,jY]
def Z3z(S:List Hu.Pt):aX (S.map pt)=true:=by
 induction S with
 |nil=>simp[aX]
 |cons p S ih=>simp[aX,Z04,ih]
theorem Z1M(x:Hu.Pt):∀k:List Hu.Pt,(k.map pt).any (λy=>eqB y (pt x))=decide (x∈k)
 | []=>by simp
 |y::k=>by
  rw[List.map_cons,List.any_cons,Z1M x k,Z0L,Bool.eq_iff_iff]
  simp
  constructor
  ·rintro (e|e)
   ·exact .inl e.symm
   ·exact .inr e
  ·rintro (e|e)
   ·exact .inl e.symm
   ·exact .inr e
def Z0M(x:Hu.Pt)(k:List Hu.Pt):inD true (pt x) (.lst (k.map pt))=some (.bl (!decide (x∈k))):=by
 unfold inD
 simp only[Z04,Z3z,ZR,Z1M]
 rfl
def Z1n(x y:Hu.Pt):aH (pt x) (pt y)=some (.bl (!decide (x=y))):=by
 unfold aH um
 rw[Z04,Z04,ZR,ZR,Z0L]
 rfl
def Z36{a b:Hu.Pt}(ha:Sm a)(hb:Sm b):Gz [.sh (pt a),.sh (pt b)]=.ret (.sh (dj (Hu.Z7 a b))):=by
 obtain⟨a1,a2,a3,a4⟩:=ha
 obtain⟨b1,b2,b3,b4⟩:=hb
 have m1:ō (b.2-a.2) a.1=true:=bh (by omega) (by omega)
 have m2:ō (a.1-b.1) a.2=true:=bh (by omega) (by omega)
 simp[Gz,Mf,List.replicate,pt,dj,Hu.Z7,m1,m2]
def Z0N{l:Hu.Ln}(hl:SmL l)(p:Hu.Pt):rG [.sh (dj l),.sh (pt p)]=.ret (.sh (.bl (Hu.hd l p))):=by
 obtain⟨a1,a2,a3,a4⟩:=hl
 have m1:ō l.1 p.1=true:=bh (by omega) (by omega)
 have m2:ō l.2.1 p.2=true:=bh (by omega) (by omega)
 simp[rG,Mg,List.replicate,pt,dj,Hu.hd,m1,m2]
def Z1c{a b:Hu.Pt}(ha:Sm a)(hb:Sm b):SmL (Hu.Z7 a b):=by
 obtain⟨a1,a2,a3,a4⟩:=ha
 obtain⟨b1,b2,b3,b4⟩:=hb
 simp only[SmL,Hu.Z7]
 omega
def Sl(s:P.Slot)(ps:List PV):Prop:=s=.sh (.lst ps)\/s=.bw ps
def Sl.lend{s:P.Slot}{ps:List PV}(h:Sl s ps):fB s=some s:=by rcases h with rfl|rfl<;>rfl
def Sl.it{s:P.Slot}{ps:List PV}(h:Sl s ps){i:Nat}{ρ:ŋ}(e:ρ[i]?=some s):ŀ i ρ=.ok ps ρ:= by
 rcases h with rfl|rfl<;>simp[e]
def Z37{S:List Hu.Pt}{sl:P.Slot}(hs:Sl sl (S.map pt))(hl:S.length<=1000):Gy [sl]=.ret (.ow ((Hu.Z6 S).map pt)):=by
 have hlen:∀(xs k:List Hu.Pt),(xs.foldl (λk x=>if x∈k then k else k ++ [x]) k).length<=k.length+xs.length:=by
  intro xs
  induction xs with
  |nil=>intro k;simp
  |cons x xs ih=>
   intro k
   rw[List.foldl_cons]
   refine Nat.le_trans (ih _) ?_
   split
   ·simp
   ·simp;omega
 have key:∀(xs:List Hu.Pt) (k:List Hu.Pt) (s2:P.Slot),k.length+xs.length<=1000->∃s2',forL (gN 2) nJ (xs.map pt) [sl,.ow (k.map pt),s2]=.ok .nx [sl,.ow ((xs.foldl (λk x=>if x∈k then k else k ++ [x]) k).map pt),s2']:=by
  intro xs
  induction xs with
  |nil=>intro k s2 _;exact⟨s2,rfl⟩
  |cons x xs ih=>
   intro k s2 hk
   rw[List.length_cons] at hk
   by_cases hx:x∈k
   ·obtain⟨s2',e⟩:=ih k (.sh (pt x)) (by omega)
    refine⟨s2',?_⟩
    have hb:nJ [sl,.ow (k.map pt),.sh (pt x)]=.ok .nx [sl,.ow (k.map pt),.sh (pt x)]:=by simp[nJ,Z0M,hx]
    rw[List.map_cons,List.foldl_cons,if_pos hx,forL]
    simp[hb,e]
   ·obtain⟨s2',e⟩:=ih (k ++ [x]) (.sh (pt x)) (by simp;omega)
    refine⟨s2',?_⟩
    have h3:k.length<16777216:=by omega
    have hb:nJ [sl,.ow (k.map pt),.sh (pt x)]=.ok .nx [sl,.ow ((k ++ [x]).map pt),.sh (pt x)]:=by simp[nJ,Z0M,hx,h3]
    rw[List.map_cons,List.foldl_cons,if_neg hx,forL]
    simp only[KN,List.set_cons_succ,List.set_cons_zero,hb,Res.aV]
    exact e
 obtain⟨s2,e⟩:=key S [] .no (by simpa using hl)
 have hit:=hs.it (i:=0) (ρ:= [sl,.ow [],.no]) rfl
 simp only[List.map_nil] at e
 simp[Gy,Ma,List.replicate,-Cv,hit,e]
 rfl
def Z1N(x:Int)(l:List Int):fH [.lst ((x::l).map .int)]=some (.int (Hu.mx (x::l))):=by
 show((intsOf ((x::l).map .int)).bind (best max)).map PV.int=_
 rw[jZ]
 rfl
def Z1O(x:Int)(l:List Int):uW [.lst ((x::l).map .int)]=some (.int (Hu.mn (x::l))):=by
 show((intsOf ((x::l).map .int)).bind (best min)).map PV.int=_
 rw[jZ]
 rfl
def Z3A{S:List Hu.Pt}{sl:P.Slot}(hs:Sl sl (S.map pt))(h0:S≠[])(hl:S.length<=1000):Gx [sl]=.ret (.ow ((Hu.box S).map dj)):=by
 have c1:Ľ (gN 0) İ (Ą Ĕ (Ā 0) (mC (.int 0))) (S.map pt) [.no] []=some ((S.map (·.1)).map .int):=by
  have:=ĩ (g:=gN 0) (mt:=İ) (me:=Ą Ĕ (Ā 0) (mC (.int 0))) pt (λp=>.int p.1) (λρ=>∃s,ρ=[s]) S [.no] [] ⟨_,rfl⟩ (by simp;omega) (by
   rintro x hx ρ ⟨s,rfl⟩
   exact⟨[.sh (pt x)],[.sh (pt x)],[.sh (pt x)],by simp,by simp,by simp[pt],_,rfl⟩)
  rw[this]
  simp
 have c2:Ľ (gN 0) İ (Ą Ĕ (Ā 0) (mC (.int 1))) (S.map pt) [.no] []=some ((S.map (·.2)).map .int):=by
  have:=ĩ (g:=gN 0) (mt:=İ) (me:=Ą Ĕ (Ā 0) (mC (.int 1))) pt (λp=>.int p.2) (λρ=>∃s,ρ=[s]) S [.no] [] ⟨_,rfl⟩ (by simp;omega) (by
   rintro x hx ρ ⟨s,rfl⟩
   exact⟨[.sh (pt x)],[.sh (pt x)],[.sh (pt x)],by simp,by simp,by simp[pt],_,rfl⟩)
  rw[this]
  simp
 obtain⟨p,R,rfl⟩:=List.exists_cons_of_ne_nil h0
 have x1:=Z1N p.1 (R.map (·.1))
 have x2:=Z1O p.1 (R.map (·.1))
 have x3:=Z1N p.2 (R.map (·.2))
 have x4:=Z1O p.2 (R.map (·.2))
 have hit:∀s1 s2,ŀ 0 [sl,s1,s2]=.ok ((p::R).map pt) [sl,s1,s2]:=λs1 s2=>hs.it rfl
 have b:(Hu.box (p::R)).map dj=[.tup [.int 1,.int 0,.int (Hu.mx (p.1::R.map (·.1)))],.tup [.int (-1),.int 0,.int (- Hu.mn (p.1::R.map (·.1)))],.tup [.int 0,.int 1,.int (Hu.mx (p.2::R.map (·.2)))],.tup [.int 0,.int (-1),.int (- Hu.mn (p.2::R.map (·.2)))]]:=rfl
 rw[b]
 generalize (p::R).map pt=ps at hit c1 c2
 rw[List.map_cons] at c1 c2
 generalize (p.1::R.map (·.1)).map PV.int=us at c1 x1 x2
 generalize (p.2::R.map (·.2)).map PV.int=vs at c2 x3 x4
 simp[Gx,L_,List.replicate,-Cv,-Rr,-Rt,hit,c1,c2,x1,x2,x3,x4]
theorem Z0A:∀l:List Bool,boolsOf (l.map .bl)=some l
 | []=>rfl
 |x::l=>by rw[List.map_cons,boolsOf,Z0A l];rfl
def Z1P(l:List Bool):wK [.lst (l.map .bl)]=some (.bl (l.all id)):=by
 show(boolsOf (l.map .bl)).map (λbs=>PV.bl (bs.all id))=_
 rw[Z0A]
 rfl
def ZK(S:List Hu.Pt):(Hu.Z6 S).length<=S.length:=by
 have:∀(xs k:List Hu.Pt),(xs.foldl (λk x=>if x∈k then k else k ++ [x]) k).length<=k.length+xs.length:=by
  intro xs
  induction xs with
  |nil=>intro k;simp
  |cons x xs ih=>
   intro k
   rw[List.foldl_cons]
   refine Nat.le_trans (ih _) ?_
   split
   ·simp
   ·simp;omega
 have h:=this S []
 rw[List.length_nil,Nat.zero_add] at h
 exact h
def Z1Q{S:List Hu.Pt}(hS:∀p∈S,Sm p)(hl:S.length<=1000){a b:Hu.Pt}(ha:a∈S)(hb:b∈S)(s0 s5:P.Slot)(L:List Hu.Ln)(hL:L.length<16777216) :
 nM [s0,.ow (L.map dj),.sh (.lst ((Hu.Z6 S).map pt)),.sh (pt a),.sh (pt b),s5]=.ok .nx [s0,.ow ((L++(if a≠b/\(Hu.Z6 S).all (Hu.hd (Hu.Z7 a b)) then[Hu.Z7 a b] else[])).map dj),.sh (.lst ((Hu.Z6 S).map pt)),.sh (pt a),.sh (pt b),.sh (dj (Hu.Z7 a b))]:=by
 have hsm:=Z1c (hS a ha) (hS b hb)
 have c1:Ľ (gN 1) İ (ċ (Č rG (Ă 0 (Ă 1 ĉ)))) ((Hu.Z6 S).map pt) [.sh (dj (Hu.Z7 a b)),.no] []=some (((Hu.Z6 S).map (Hu.hd (Hu.Z7 a b))).map .bl):=by
  have hlen:(Hu.Z6 S).length<=16777216:=by have:=ZK S;omega
  have:=ĩ (g:=gN 1) (mt:=İ) (me:=ċ (Č rG (Ă 0 (Ă 1 ĉ)))) pt (λp=>.bl (Hu.hd (Hu.Z7 a b) p)) (λρ=>∃s,ρ=[.sh (dj (Hu.Z7 a b)),s]) (Hu.Z6 S) [.sh (dj (Hu.Z7 a b)),.no] [] ⟨_,rfl⟩ (by simpa using hlen) (by
   rintro x hx ρ ⟨s,rfl⟩
   exact⟨[.sh (dj (Hu.Z7 a b)),.sh (pt x)],[.sh (dj (Hu.Z7 a b)),.sh (pt x)],[.sh (dj (Hu.Z7 a b)),.sh (pt x)],by simp,by simp,by simp[Z0N hsm],_,rfl⟩)
  rw[this]
  simp
 have c2:=Z1P ((Hu.Z6 S).map (Hu.hd (Hu.Z7 a b)))
 have e1:=Z36 (hS a ha) (hS b hb)
 have e3:((Hu.Z6 S).map (Hu.hd (Hu.Z7 a b))).all id=(Hu.Z6 S).all (Hu.hd (Hu.Z7 a b)):=by simp
 rw[e3] at c2
 generalize ((Hu.Z6 S).map (Hu.hd (Hu.Z7 a b))).map PV.bl=bs at c1 c2
 by_cases h1:a=b
 ·subst h1
  simp[nM,e1,Z1n]
 ·by_cases h2:(Hu.Z6 S).all (Hu.hd (Hu.Z7 a b))=true
  ·rw[h2] at c2
   simp[nM,e1,Z1n,h1,c1,c2,h2,hL,-List.all_eq_true]
  ·rw[Bool.not_eq_true] at h2
   rw[h2] at c2
   simp[nM,e1,Z1n,h1,c1,c2,h2,hL,-List.all_eq_true,-List.all_eq_false]
def Z2p{S:List Hu.Pt}(hS:∀p∈S,Sm p)(hl:S.length<=1000){a:Hu.Pt}(ha:a∈S)(s0:P.Slot):∀(xs:List Hu.Pt) (L:List Hu.Ln) (s4 s5:P.Slot),(∀x∈xs,x∈S)->L.length+xs.length<16777216->
 ∃Px Te,forL (gN 4) nM (xs.map pt) [s0,.ow (L.map dj),.sh (.lst ((Hu.Z6 S).map pt)),.sh (pt a),s4,s5]=.ok .nx [s0,.ow ((L++xs.filterMap λb=>if a≠b/\(Hu.Z6 S).all (Hu.hd (Hu.Z7 a b)) then some (Hu.Z7 a b) else none).map dj),.sh (.lst ((Hu.Z6 S).map pt)),.sh (pt a),Px,Te]:=by
 intro xs
 induction xs with
 |nil=>intro L s4 s5 _ _;exact⟨s4,s5,by simp[forL]⟩
 |cons b xs ih=>
  intro L s4 s5 hx hL
  rw[List.length_cons] at hL
  have hb:=Z1Q hS hl ha (hx b (by simp)) s0 s5 L (by omega)
  obtain⟨Px,Te,e⟩:=ih (L++(if a≠b/\(Hu.Z6 S).all (Hu.hd (Hu.Z7 a b)) then[Hu.Z7 a b] else[])) (.sh (pt b)) (.sh (dj (Hu.Z7 a b))) (λx h=>hx x (List.mem_cons_of_mem _ h)) (by
   rw[List.length_append]
   split
   ·simp;omega
   ·simp;omega)
  refine⟨Px,Te,?_⟩
  rw[List.map_cons,forL]
  simp only[KN,List.set_cons_succ,List.set_cons_zero,hb,Res.aV]
  rw[e,List.filterMap_cons]
  by_cases hc:a≠b/\(Hu.Z6 S).all (Hu.hd (Hu.Z7 a b))=true
  ·rw[if_pos hc,if_pos hc]
   simp only[List.append_assoc,List.cons_append,List.nil_append]
  ·rw[if_neg hc,if_neg hc]
   simp only[List.append_nil]
def ZP{α β:Type}(f:α->Option β)(l:List α):(l.filterMap f).length<=l.length:=List.length_filterMap_le ..
def Z2q{S:List Hu.Pt}(hS:∀p∈S,Sm p)(hl:S.length<=1000)(s0:P.Slot):∀(xs:List Hu.Pt) (L:List Hu.Ln) (s3 s4 s5:P.Slot),(∀x∈xs,x∈S)->L.length+xs.length*1000<10000000->
 ∃s3' Px Te,forL (gN 3) xR (xs.map pt) [s0,.ow (L.map dj),.sh (.lst ((Hu.Z6 S).map pt)),s3,s4,s5]=.ok .nx [s0,.ow ((L++xs.flatMap λa=>(Hu.Z6 S).filterMap λb=>if a≠b/\(Hu.Z6 S).all (Hu.hd (Hu.Z7 a b)) then some (Hu.Z7 a b) else none).map dj),.sh (.lst ((Hu.Z6 S).map pt)),s3',Px,Te]:=by
 intro xs
 induction xs with
 |nil=>intro L s3 s4 s5 _ _;exact⟨s3,s4,s5,by simp[forL]⟩
 |cons a xs ih=>
  intro L s3 s4 s5 hx hL
  rw[List.length_cons] at hL
  have ho:=ZK S
  obtain⟨a4,a5,e1⟩:=Z2p hS hl (hx a (by simp)) s0 (Hu.Z6 S) L s4 s5 (λx h=>Hu.Zo.mp h) (by omega)
  have hf:=ZP (λb=>if a≠b/\(Hu.Z6 S).all (Hu.hd (Hu.Z7 a b))=true then some (Hu.Z7 a b) else none) (Hu.Z6 S)
  obtain⟨s3',Px,Te,e2⟩:=ih (L++(Hu.Z6 S).filterMap λb=>if a≠b/\(Hu.Z6 S).all (Hu.hd (Hu.Z7 a b))=true then some (Hu.Z7 a b) else none) (.sh (pt a)) a4 a5 (λx h=>hx x (List.mem_cons_of_mem _ h)) (by rw[List.length_append];omega)
  refine⟨s3',Px,Te,?_⟩
  have hb:xR [s0,.ow (L.map dj),.sh (.lst ((Hu.Z6 S).map pt)),.sh (pt a),s4,s5]=.ok .nx [s0,.ow ((L++(Hu.Z6 S).filterMap λb=>if a≠b/\(Hu.Z6 S).all (Hu.hd (Hu.Z7 a b))=true then some (Hu.Z7 a b) else none).map dj),.sh (.lst ((Hu.Z6 S).map pt)),.sh (pt a),a4,a5]:=by
   unfold xR
   simp only[Zb6,Cv,List.getElem?_cons_succ,List.getElem?_cons_zero,Res.aV]
   exact e1
  rw[List.map_cons,forL]
  simp only[KN,List.set_cons_succ,List.set_cons_zero,hb,Res.aV]
  rw[e2,List.flatMap_cons,List.append_assoc]
def Z2r{S:List Hu.Pt}{sl:P.Slot}(hs:Sl sl (S.map pt))(hS:∀p∈S,Sm p)(hl:S.length<=1000):GC [sl]=.ret (.ow ((Hu.ZC S).map dj)):=by
 have h1:=Z37 hs hl
 have ho:=ZK S
 obtain⟨s3,s4,s5,e⟩:=Z2q hS hl sl (Hu.Z6 S) [] .no .no .no (λx h=>Hu.Zo.mp h) (by simp;omega)
 have he:[]++((Hu.Z6 S).flatMap λa=>(Hu.Z6 S).filterMap λb=>if a≠b/\(Hu.Z6 S).all (Hu.hd (Hu.Z7 a b))=true then some (Hu.Z7 a b) else none)=Hu.ZC S:=rfl
 rw[he] at e
 generalize Hu.ZC S=ed at e
 generalize (Hu.Z6 S).map pt=os at e h1
 simp only[List.map_nil] at e
 simp[GC,Mh,List.replicate,hs.lend,h1,e]
def Z1R(S:List Hu.Pt)(hl:S.length<=1000):(Hu.ZC S).length<=1000000:=by
 have ho:=ZK S
 have:∀(xs:List Hu.Pt) (f:Hu.Pt->List Hu.Ln),(∀x,(f x).length<=1000)->(xs.flatMap f).length<=xs.length*1000:=by
  intro xs f hf
  induction xs with
  |nil=>simp
  |cons x xs ih=>rw[List.flatMap_cons,List.length_append,List.length_cons];have:=hf x;omega
 refine Nat.le_trans (this (Hu.Z6 S) _ λx=>Nat.le_trans (ZP _ _) (by omega)) (by omega)
def Z0O{S:List Hu.Pt}{sl:P.Slot}(hs:Sl sl (S.map pt))(hS:∀p∈S,Sm p)(h0:S≠[])(hl:S.length<=1000):Ag [sl]=.ret (.ow ((Hu.Zn S).map dj)):=by
 have h1:=Z3A hs h0 hl
 have h2:=Z2r hs hS hl
 have h3:ģ (.lst ((Hu.box S).map dj)) (.lst ((Hu.ZC S).map dj))=some (.ow ((Hu.Zn S).map dj)):=by
  rw[add_l (by have:=Z1R S hl;simp[Hu.box];omega),<-List.map_append]
  rfl
 simp[Ag,Mi,List.replicate,hs.lend,h1,h2,h3]
def Z1S{S:List Hu.Pt}{l:Hu.Ln}(h:l∈Hu.Zn S)(hS:∀p∈S,Sm p):SmL l:=by
 rcases List.mem_append.mp h with h|h
 ·unfold Hu.box at h
  simp only[List.mem_cons,List.not_mem_nil,or_false] at h
  rcases h with e|e|e|e<;>subst e<;>simp only[SmL]<;>omega
 ·obtain⟨a,ha,b,hb,_,_,rfl⟩:=Hu.Z1L.mp h
  exact Z1c (hS a ha) (hS b hb)
def Z1o(n:Nat):iH 0 n 1=(List.range n).map λ(i:Nat)=>PV.int (i:Int):=by
 unfold iH
 refine List.map_congr_left λi _=>?_
 simp
def Zs{n:Nat}(h:n<=1000):au [.int (n:Int)]=some ((List.range n).map λ(i:Nat)=>PV.int (i:Int)):=by
 have hs:qJ (n:Int)=true:=by unfold qJ;simp;omega
 unfold au
 simp[hs,Z1o]
def SlT(s:P.Slot)(ps:List PV):Prop:=s=.sh (.lst ps)\/s=.bw ps
def aJ(x:Int):Bool:=decide (-1000000000<=x/\x<=1000000000)
def yX(x:Int):Bool:=decide (1<=x/\x<=1000000000)
def Bg(x:Int):Bool:=decide (0<=x/\x<=1000000000)
def Z0b(x:Int):oR [.sh (.int x)]=.ret (.sh (.bl (aJ x))):=by
 unfold aJ
 by_cases h1: -1000000000<=x<;>by_cases h2:x<=1000000000<;>simp[oR,MP,List.replicate,h1,h2]
def Z0B(x:Int):Aq [.sh (.int x)]=.ret (.sh (.bl (yX x))):=by
 unfold yX
 by_cases h1:1<=x<;>by_cases h2:x<=1000000000<;>simp[Aq,M_,List.replicate,h1,h2]
def Zk:List Int->Bool
 | [p,q,h]=>aJ p && aJ q && yX h
 |_=>false
def Zh:List Int->Bool
 | [x,y,u,v,h]=>aJ x && aJ y && aJ u && aJ v && yX h
 |_=>false
def Ze:List Int->Bool
 | [x,y,u,v,h]=>Zh [x,y,u,v,h] && !(decide (x=u) && decide (y=v))
 |_=>false
def Zc:List Int->Bool
 | [x,y,u,v,h]=>Zh [x,y,u,v,h] && decide (x<u) && decide (y<v)
 |_=>false
def Zf:List Int->Bool
 | [a,b,c,d,e,f,g,h,i]=>aJ a && aJ b && Bg c && (aJ d && aJ e && Bg f) && (aJ g && aJ h && Bg i)
 |_=>false
def Z3B(a b c:Bool):wK [.lst [.bl a,.bl b,.bl c]]=some (.bl (a && b && c)):=by cases a<;>cases b<;>cases c<;>rfl
def Z3C(a b c d:Bool):wK [.lst [.bl a,.bl b,.bl c,.bl d]]=some (.bl (a && b && c && d)):=by cases a<;>cases b<;>cases c<;>cases d<;>rfl
def Z0J{xs:List Int}{sl:P.Slot}(hs:SlT sl (xs.map .int)):Ar [sl]=.ret (.sh (.bl (Zk xs))):=by
 by_cases hl:xs.length=3
 ·match xs,hl with
  | [a,b,c],_=>
    have h:Zk [a,b,c]=(aJ a && aJ b && yX c):=rfl
    rw[h]
    rcases hs with rfl|rfl<;>cases ea:aJ a<;>cases eb:aJ b<;>cases ec:yX c<;>simp[Ar,DN,List.replicate,Z0b,Z0B,ea,eb,ec]
 ·have h:Zk xs=false:=by
   unfold Zk
   split
   ·simp at hl
   ·rfl
  rw[h]
  have hl':¬((xs.length:Nat):Int)=3:=by omega
  rcases hs with rfl|rfl<;>simp[Ar,DN,List.replicate,hl']
def Z1d{xs:List Int}{sl:P.Slot}(hs:SlT sl (xs.map .int)):vI [sl]=.ret (.sh (.bl (Zh xs))):=by
 by_cases hl:xs.length=5
 ·match xs,hl with
  | [a,b,c,d,e],_=>
    have h:Zh [a,b,c,d,e]=(aJ a && aJ b && aJ c && aJ d && yX e):=rfl
    rw[h]
    have hc:Ŭ ([.int a,.int b,.int c,.int d,.int e]:List PV) none (some 4)=[.int a,.int b,.int c,.int d]:=rfl
    have hb:=Z3C (aJ a) (aJ b) (aJ c) (aJ d)
    rcases hs with rfl|rfl<;>cases ea:(aJ a && aJ b && aJ c && aJ d)<;>cases ec:yX e<;>rw[ea] at hb<;>simp[vI,DP,List.replicate,Z0b,Z0B,hc,Ľ,hb,ec]
 ·have h:Zh xs=false:=by
   unfold Zh
   split
   ·simp at hl
   ·rfl
  rw[h]
  have hl':¬((xs.length:Nat):Int)=5:=by omega
  rcases hs with rfl|rfl<;>simp[vI,DP,List.replicate,hl']
def Z3D(a b c d:Int):aH (.lst [.int a,.int b]) (.lst [.int c,.int d])=some (.bl (!(decide (a=c) && decide (b=d)))):=by
 have h:eqB (.lst [.int a,.int b]) (.lst [.int c,.int d])=(decide (a=c) && decide (b=d)):=by
  simp[eqB,fY]
  rw[Bool.eq_iff_iff]
  simp
 unfold aH um
 rw[h]
 simp[aj,aX,dep,jY]
def Z2V{xs:List Int}(hl:¬xs.length=5):Zh xs=false:=by
 unfold Zh
 split
 ·simp at hl
 ·rfl
def Z1p{s:P.Slot}{ps:List PV}(h:SlT s ps):fB s=some s:=by rcases h with rfl|rfl<;>rfl
def Z2s{xs:List Int}{sl:P.Slot}(hs:SlT sl (xs.map .int)):Av [sl]=.ret (.sh (.bl (Ze xs))):=by
 have he:=Z1d hs
 by_cases hl:xs.length=5
 ·match xs,hl with
  | [a,b,c,d,e],_=>
    have h:Ze [a,b,c,d,e]=(Zh [a,b,c,d,e] && !(decide (a=c) && decide (b=d))):=rfl
    rw[h]
    have h1:Ŭ ([.int a,.int b,.int c,.int d,.int e]:List PV) none (some 2)=[.int a,.int b]:=rfl
    have h2:Ŭ ([.int a,.int b,.int c,.int d,.int e]:List PV) (some 2) (some 4)=[.int c,.int d]:=rfl
    have h3:=Z3D a b c d
    generalize Zh [a,b,c,d,e]=q at *
    generalize (!(decide (a=c) && decide (b=d)))=r at *
    rcases hs with rfl|rfl<;>cases q<;>simp_all [Av,DQ,List.replicate]
 ·have h:Ze xs=false:=by
   unfold Ze
   split
   ·simp at hl
   ·rfl
  rw[h]
  rw[Z2V hl] at he
  simp[Av,DQ,List.replicate,Z1p hs,he]
def Z38{xs:List Int}{sl:P.Slot}(hs:SlT sl (xs.map .int)):Ie [sl]=.ret (.sh (.bl (Zc xs))):=by
 have he:=Z1d hs
 by_cases hl:xs.length=5
 ·match xs,hl with
  | [a,b,c,d,e],_=>
    have h:Zc [a,b,c,d,e]=(Zh [a,b,c,d,e] && decide (a<c) && decide (b<d)):=rfl
    rw[h]
    generalize Zh [a,b,c,d,e]=q at *
    rcases hs with rfl|rfl<;>simp only[List.map_cons,List.map_nil] at he<;>cases q<;>by_cases h1:a<c<;>by_cases h2:b<d<;>simp[Ie,Nb,List.replicate,he,h1,h2]
 ·have h:Zc xs=false:=by
   unfold Zc
   split
   ·simp at hl
   ·rfl
  rw[h]
  rw[Z2V hl] at he
  simp[Ie,Nb,List.replicate,Z1p hs,he]
def ZS(a b c:Int):RM [.sh (.lst [.int a,.int b,.int c])]=.ret (.sh (.bl (aJ a && aJ b && Bg c))):=by
 unfold Bg
 cases ea:aJ a<;>cases eb:aJ b<;>by_cases h1:0<=c<;>by_cases h2:c<=1000000000<;>simp[RM,Wk,List.replicate,Z0b,ea,eb,h1,h2]
def Z2t{xs:List Int}{sl:P.Slot}(hs:SlT sl (xs.map .int)):Aw [sl]=.ret (.sh (.bl (Zf xs))):=by
 by_cases hl:xs.length=9
 ·match xs,hl with
  | [a,b,c,d,e,f,g,h,i],_=>
    have hc:Zf [a,b,c,d,e,f,g,h,i]=((aJ a && aJ b && Bg c) && (aJ d && aJ e && Bg f) && (aJ g && aJ h && Bg i)):=rfl
    rw[hc]
    have h1:Ŭ ([.int a,.int b,.int c,.int d,.int e,.int f,.int g,.int h,.int i]:List PV) (some 0) (some 3)=[.int a,.int b,.int c]:=rfl
    have h2:Ŭ ([.int a,.int b,.int c,.int d,.int e,.int f,.int g,.int h,.int i]:List PV) (some 3) (some 6)=[.int d,.int e,.int f]:=rfl
    have h3:Ŭ ([.int a,.int b,.int c,.int d,.int e,.int f,.int g,.int h,.int i]:List PV) (some 6) (some 9)=[.int g,.int h,.int i]:=rfl
    have hb:=Z3B (aJ a && aJ b && Bg c) (aJ d && aJ e && Bg f) (aJ g && aJ h && Bg i)
    have k1:=ZS a b c
    have k2:=ZS d e f
    have k3:=ZS g h i
    generalize (aJ a && aJ b && Bg c)=q1 at *
    generalize (aJ d && aJ e && Bg f)=q2 at *
    generalize (aJ g && aJ h && Bg i)=q3 at *
    rcases hs with rfl|rfl<;>simp[Aw,DR,List.replicate,Ľ,h1,h2,h3,k1,k2,k3,hb]
 ·have h:Zf xs=false:=by
   unfold Zf
   split
   ·simp at hl
   ·rfl
  rw[h]
  have hl':¬((xs.length:Nat):Int)=9:=by omega
  rcases hs with rfl|rfl<;>simp[Aw,DR,List.replicate,hl']
def Za(w:Str):String:=if w= "post" then "Post" else if w= "fence" then "Fence" else if w= "sail" then "Sail" else if w= "cloth" then "Cloth" else "House"
def Z4(C:String)(w:Str)(xs:List Int):PV:=.ins C ["word","numbers"] [.str w,.lst (xs.map .int)]
def Z3(w:Str)(xs:List Int):Bool:=if w= "post" then Zk xs else if w= "fence" then Ze xs else if w= "sail" then Zc xs else if w= "cloth" then Zf xs else if w= "house" then Zc xs else false
def wn:((Str.ofString "word")=(Str.ofString "numbers"))=False:=eq_false (by decide +kernel)
def ZI{C:String}(hC:(["Thing","Post","Fence","Sail","Cloth","House"]:List String).contains C=true)(w:Str){xs:List Int}{sl:P.Slot}(hs:SlT sl (xs.map .int)):dF 3 3 C gK [.sh (.str w),sl]=.ok ["word","numbers"] [.str w,.lst (xs.map .int)]:=by
 rcases hs with rfl|rfl<;>simp[dF,gK,jB,IR.of,List.replicate,putN,Cy,hC,wn,-List.contains_eq_mem,-List.contains_cons]
def s1:PyData.strOk (Str.ofString "post")=true:=by decide +kernel
def s2:PyData.strOk (Str.ofString "fence")=true:=by decide +kernel
def s3:PyData.strOk (Str.ofString "sail")=true:=by decide +kernel
def s4:PyData.strOk (Str.ofString "cloth")=true:=by decide +kernel
def s5:PyData.strOk (Str.ofString "house")=true:=by decide +kernel
def d12:(Str.ofString "post" =Str.ofString "fence")=False:=eq_false (by decide +kernel)
def d13:(Str.ofString "post" =Str.ofString "sail")=False:=eq_false (by decide +kernel)
def d14:(Str.ofString "post" =Str.ofString "cloth")=False:=eq_false (by decide +kernel)
def d15:(Str.ofString "post" =Str.ofString "house")=False:=eq_false (by decide +kernel)
def d23:(Str.ofString "fence" =Str.ofString "sail")=False:=eq_false (by decide +kernel)
def d24:(Str.ofString "fence" =Str.ofString "cloth")=False:=eq_false (by decide +kernel)
def d25:(Str.ofString "fence" =Str.ofString "house")=False:=eq_false (by decide +kernel)
def d34:(Str.ofString "sail" =Str.ofString "cloth")=False:=eq_false (by decide +kernel)
def d35:(Str.ofString "sail" =Str.ofString "house")=False:=eq_false (by decide +kernel)
def d45:(Str.ofString "cloth" =Str.ofString "house")=False:=eq_false (by decide +kernel)
def Z0P{w:Str}(hw:PyData.strOk w=true){xs:List Int}{sl:P.Slot}(hs:SlT sl (xs.map .int)):cX [.sh (.str w),sl]=if Z3 w xs=true then .ret (.sh (Z4 (Za w) w xs)) else .bad:=by
 have e1:=bY hw s1
 have e2:=bY hw s2
 have e3:=bY hw s3
 have e4:=bY hw s4
 have e5:=bY hw s5
 have p1:=Z0J hs
 have p2:=Z2s hs
 have p3:=Z38 hs
 have p4:=Z2t hs
 have i1:yq [.sh (.str w),sl]=_:=ZI (by decide) w hs
 have i2:rT [.sh (.str w),sl]=_:=ZI (by decide) w hs
 have i3:yr [.sh (.str w),sl]=_:=ZI (by decide) w hs
 have i4:rW [.sh (.str w),sl]=_:=ZI (by decide) w hs
 have i5:rY [.sh (.str w),sl]=_:=ZI (by decide) w hs
 have hle:=Z1p hs
 unfold Z3 Za Z4
 by_cases h1:w=Str.ofString "post"
 ·have n2:¬w=Str.ofString "fence" := λz=>(d12▸(h1.symm.trans z):False)
  have n3:¬w=Str.ofString "sail" := λz=>(d13▸(h1.symm.trans z):False)
  have n4:¬w=Str.ofString "cloth" := λz=>(d14▸(h1.symm.trans z):False)
  have n5:¬w=Str.ofString "house" := λz=>(d15▸(h1.symm.trans z):False)
  rw[decide_eq_true h1] at e1
  rw[decide_eq_false n2] at e2
  rw[decide_eq_false n3] at e3
  rw[decide_eq_false n4] at e4
  rw[decide_eq_false n5] at e5
  have hg:(if w=Str.ofString "post" then Zk xs else if w=Str.ofString "fence" then Ze xs else if w=Str.ofString "sail" then Zc xs else if w=Str.ofString "cloth" then Zf xs else if w=Str.ofString "house" then Zc xs else false)=Zk xs:=by rw[if_pos h1]
  have hc:(if w=Str.ofString "post" then "Post" else if w=Str.ofString "fence" then "Fence" else if w=Str.ofString "sail" then "Sail" else if w=Str.ofString "cloth" then "Cloth" else "House")= "Post" := by rw[if_pos h1]
  rw[hg,hc]
  cases q:Zk xs<;>rw[q] at p1<;>simp[cX,kj,cF,List.replicate,e1,e2,e3,e4,e5,hle,p1,i1]
 ·skip
  by_cases h2:w=Str.ofString "fence"
  ·have n1:=h1
   have n3:¬w=Str.ofString "sail" := λz=>(d23▸(h2.symm.trans z):False)
   have n4:¬w=Str.ofString "cloth" := λz=>(d24▸(h2.symm.trans z):False)
   have n5:¬w=Str.ofString "house" := λz=>(d25▸(h2.symm.trans z):False)
   rw[decide_eq_true h2] at e2
   rw[decide_eq_false n1] at e1
   rw[decide_eq_false n3] at e3
   rw[decide_eq_false n4] at e4
   rw[decide_eq_false n5] at e5
   have hg:(if w=Str.ofString "post" then Zk xs else if w=Str.ofString "fence" then Ze xs else if w=Str.ofString "sail" then Zc xs else if w=Str.ofString "cloth" then Zf xs else if w=Str.ofString "house" then Zc xs else false)=Ze xs:=by rw[if_neg n1,if_pos h2]
   have hc:(if w=Str.ofString "post" then "Post" else if w=Str.ofString "fence" then "Fence" else if w=Str.ofString "sail" then "Sail" else if w=Str.ofString "cloth" then "Cloth" else "House")= "Fence" := by rw[if_neg n1,if_pos h2]
   rw[hg,hc]
   cases q:Ze xs<;>rw[q] at p2<;>simp[cX,kj,cF,List.replicate,e1,e2,e3,e4,e5,hle,p2,i2]
  ·skip
   by_cases h3:w=Str.ofString "sail"
   ·have n1:=h1
    have n2:=h2
    have n4:¬w=Str.ofString "cloth" := λz=>(d34▸(h3.symm.trans z):False)
    have n5:¬w=Str.ofString "house" := λz=>(d35▸(h3.symm.trans z):False)
    rw[decide_eq_true h3] at e3
    rw[decide_eq_false n1] at e1
    rw[decide_eq_false n2] at e2
    rw[decide_eq_false n4] at e4
    rw[decide_eq_false n5] at e5
    have hg:(if w=Str.ofString "post" then Zk xs else if w=Str.ofString "fence" then Ze xs else if w=Str.ofString "sail" then Zc xs else if w=Str.ofString "cloth" then Zf xs else if w=Str.ofString "house" then Zc xs else false)=Zc xs:=by rw[if_neg n1,if_neg n2,if_pos h3]
    have hc:(if w=Str.ofString "post" then "Post" else if w=Str.ofString "fence" then "Fence" else if w=Str.ofString "sail" then "Sail" else if w=Str.ofString "cloth" then "Cloth" else "House")= "Sail" := by rw[if_neg n1,if_neg n2,if_pos h3]
    rw[hg,hc]
    cases q:Zc xs<;>rw[q] at p3<;>simp[cX,kj,cF,List.replicate,e1,e2,e3,e4,e5,hle,p3,i3]
   ·skip
    by_cases h4:w=Str.ofString "cloth"
    ·have n1:=h1
     have n2:=h2
     have n3:=h3
     have n5:¬w=Str.ofString "house" := λz=>(d45▸(h4.symm.trans z):False)
     rw[decide_eq_true h4] at e4
     rw[decide_eq_false n1] at e1
     rw[decide_eq_false n2] at e2
     rw[decide_eq_false n3] at e3
     rw[decide_eq_false n5] at e5
     have hg:(if w=Str.ofString "post" then Zk xs else if w=Str.ofString "fence" then Ze xs else if w=Str.ofString "sail" then Zc xs else if w=Str.ofString "cloth" then Zf xs else if w=Str.ofString "house" then Zc xs else false)=Zf xs:=by rw[if_neg n1,if_neg n2,if_neg n3,if_pos h4]
     have hc:(if w=Str.ofString "post" then "Post" else if w=Str.ofString "fence" then "Fence" else if w=Str.ofString "sail" then "Sail" else if w=Str.ofString "cloth" then "Cloth" else "House")= "Cloth" := by rw[if_neg n1,if_neg n2,if_neg n3,if_pos h4]
     rw[hg,hc]
     cases q:Zf xs<;>rw[q] at p4<;>simp[cX,kj,cF,List.replicate,e1,e2,e3,e4,e5,hle,p4,i4]
    ·skip
     by_cases h5:w=Str.ofString "house"
     ·have n1:=h1
      have n2:=h2
      have n3:=h3
      have n4:=h4
      rw[decide_eq_true h5] at e5
      rw[decide_eq_false n1] at e1
      rw[decide_eq_false n2] at e2
      rw[decide_eq_false n3] at e3
      rw[decide_eq_false n4] at e4
      have hg:(if w=Str.ofString "post" then Zk xs else if w=Str.ofString "fence" then Ze xs else if w=Str.ofString "sail" then Zc xs else if w=Str.ofString "cloth" then Zf xs else if w=Str.ofString "house" then Zc xs else false)=Zc xs:=by rw[if_neg n1,if_neg n2,if_neg n3,if_neg n4,if_pos h5]
      have hc:(if w=Str.ofString "post" then "Post" else if w=Str.ofString "fence" then "Fence" else if w=Str.ofString "sail" then "Sail" else if w=Str.ofString "cloth" then "Cloth" else "House")= "House" := by rw[if_neg n1,if_neg n2,if_neg n3,if_neg n4]
      rw[hg,hc]
      cases q:Zc xs<;>rw[q] at p3<;>simp[cX,kj,cF,List.replicate,e1,e2,e3,e4,e5,hle,p3,i5]
     ·skip
      rw[decide_eq_false h1] at e1
      rw[decide_eq_false h2] at e2
      rw[decide_eq_false h3] at e3
      rw[decide_eq_false h4] at e4
      rw[decide_eq_false h5] at e5
      rw[if_neg h1,if_neg h2,if_neg h3,if_neg h4,if_neg h5]
      simp[cX,kj,cF,List.replicate,e1,e2,e3,e4,e5]
abbrev P3:=Int×Int×Int
def c3(p:P3):PV:=.tup [.int p.1,.int p.2.1,.int p.2.2]
def ZA(x y u v z:Int):List P3:=[(x,y,z),(u,y,z),(u,v,z),(x,v,z)]
def Z05(x y u v h:Int):List P3:=ZA x y u v 0++ZA x y u v h
def Z9(C:String)(xs:List Int):List P3:=
 if C= "Post" then(match xs with
  | [p,q,h]=>Z05 (2*p-1) (2*q-1) (2*p+1) (2*q+1) h
  |_=>[])
 else if C= "Fence" then(match xs with
  | [x,y,u,v,h]=>[(x,y,0),(u,v,0),(u,v,h),(x,y,h)]
  |_=>[])
 else if C= "Sail" then(match xs with
  | [x,y,u,v,h]=>ZA x y u v h
  |_=>[])
 else if C= "Cloth" then(match xs with
  | [a,b,c,d,e,f,g,h,i]=>[(a,b,c),(d,e,f),(g,h,i)]
  |_=>[])
 else(match xs with
  | [x,y,u,v,h]=>Z05 x y u v h
  |_=>[])
def Zi(w:Str)(xs:List Int):List P3:=Z9 (Za w) xs
def ZT{C:String}(hC:(["Thing","Post","Fence","Sail","Cloth","House"]:List String).contains C=true)(w:Str)(xs:List Int):Ů ["Thing","Post","Fence","Sail","Cloth","House"] (Str.ofString "numbers") (Z4 C w xs)=some (.lst (xs.map .int)):=by
 unfold Ů Z4
 dsimp only
 rw[if_pos hC]
 have:(Str.ofString "numbers" == Str.ofString "word")=false:=by decide +kernel
 show List.lookup _ [(_,_),(_,_)]=_
 rw[List.lookup_cons,this]
 simp
def Z0Q(x y u v z:Int):Ib [.sh (.int x),.sh (.int y),.sh (.int u),.sh (.int v),.sh (.int z)]=.ret (.ow ((ZA x y u v z).map c3)):=by
 simp[Ib,Wi,List.replicate,ZA,c3]
def Z0R(x y u v h:Int):Ak [.sh (.int x),.sh (.int y),.sh (.int u),.sh (.int v),.sh (.int h)]=.ret (.ow ((Z05 x y u v h).map c3)):=by
 simp[Ak,Ms,List.replicate,Z0Q,Z05,ZA,add_l]
def Z3E{xs:List Int}(h:Zk xs=true)(w:Str):oJ [.sh (Z4 "Post" w xs)]=.ret (.ow ((Z9 "Post" xs).map c3)):=by
 match xs,h with
 | [p,q,h],hh=>
   simp[Zk,aJ,yX] at hh
   have hf:=ZT (C:= "Post") (by decide) w [p,q,h]
   generalize Z4 "Post" w [p,q,h]=v at *
   have e:=Z0R (2*p-1) (2*q-1) (2*p+1) (2*q+1) h
   simp[oJ,Mt,List.replicate,hf,e,Z9]
def Z39{xs:List Int}(h:Ze xs=true)(w:Str):oK [.sh (Z4 "Fence" w xs)]=.ret (.ow ((Z9 "Fence" xs).map c3)):=by
 match xs,h with
 | [x,y,u,v,h],hh=>
   have hf:=ZT (C:= "Fence") (by decide) w [x,y,u,v,h]
   generalize Z4 "Fence" w [x,y,u,v,h]=t at *
   simp[oK,Mu,List.replicate,hf,Z9,c3,ģ]
def Z3F{xs:List Int}(h:Zc xs=true)(w:Str):oM [.sh (Z4 "Sail" w xs)]=.ret (.ow ((Z9 "Sail" xs).map c3)):=by
 match xs,h with
 | [x,y,u,v,h],hh=>
   have hf:=ZT (C:= "Sail") (by decide) w [x,y,u,v,h]
   generalize Z4 "Sail" w [x,y,u,v,h]=t at *
   have e:=Z0Q x y u v h
   simp[oM,Mv,List.replicate,hf,e,Z9]
def Z3a{xs:List Int}(h:Zc xs=true)(w:Str):Al [.sh (Z4 "House" w xs)]=.ret (.ow ((Z9 "House" xs).map c3)):=by
 match xs,h with
 | [x,y,u,v,h],hh=>
   have hf:=ZT (C:= "House") (by decide) w [x,y,u,v,h]
   generalize Z4 "House" w [x,y,u,v,h]=t at *
   have e:=Z0R x y u v h
   simp[Al,Wj,List.replicate,hf,e,Z9]
def Z3b{xs:List Int}(h:Zf xs=true)(w:Str):oN [.sh (Z4 "Cloth" w xs)]=.ret (.ow ((Z9 "Cloth" xs).map c3)):=by
 match xs,h with
 | [a,b,c,d,e,f,g,i,j],hh=>
   have hf:=ZT (C:= "Cloth") (by decide) w [a,b,c,d,e,f,g,i,j]
   generalize Z4 "Cloth" w [a,b,c,d,e,f,g,i,j]=t at *
   simp[oN,Mw,List.replicate,hf,Z9,c3,Ľ,Pq,Ŭ]
   exact⟨rfl,rfl,rfl⟩
def cst(r p:P3):Hu.Pt:=(r.2.2*p.1+r.1*p.2.2,r.2.2*p.2.1+r.2.1*p.2.2)
def RB(r:P3):Prop:=-1000000<=r.1/\r.1<=1000000/\ -1000000<=r.2.1/\r.2.1<=1000000/\ -1000000<=r.2.2/\r.2.2<=1000000
def PB(p:P3):Prop:=-10000000000<=p.1/\p.1<=10000000000/\ -10000000000<=p.2.1/\p.2.1<=10000000000/\ -10000000000<=p.2.2/\p.2.2<=10000000000
def Z1e{r:P3}(hr:RB r)(p:P3):rM [.sh (c3 p),.sh (c3 r)]=.ret (.sh (pt (cst r p))):=by
 obtain⟨a1,a2,a3,a4,a5,a6⟩:=hr
 have m1:ō r.2.2 p.1=true:=bh (by omega) (by omega)
 have m2:ō r.2.2 p.2.1=true:=bh (by omega) (by omega)
 have m3:ō r.1 p.2.2=true:=bh (by omega) (by omega)
 have m4:ō r.2.1 p.2.2=true:=bh (by omega) (by omega)
 simp[rM,Mr,List.replicate,pt,c3,cst,m1,m2,m3,m4]
def Z0g{x y A B:Int}(h1: -A<=x)(h2:x<=A)(h3: -B<=y)(h4:y<=B): -(A*B)<=x*y/\x*y<=A*B:=by
 have hA:0<=A:=by omega
 have hB:0<=B:=by omega
 have e:(x*y).natAbs<=A.natAbs*B.natAbs:=by
  rw[Int.natAbs_mul]
  exact Nat.mul_le_mul (by omega) (by omega)
 have e2:((A*B).natAbs)=A.natAbs*B.natAbs:=Int.natAbs_mul A B
 have e3:0<=A*B:=Int.mul_nonneg hA hB
 omega
def Z0S{r p:P3}(hr:RB r)(hp:PB p):Sm (cst r p):=by
 obtain⟨a1,a2,a3,a4,a5,a6⟩:=hr
 obtain⟨b1,b2,b3,b4,b5,b6⟩:=hp
 have q1:=Z0g a5 a6 b1 b2
 have q2:=Z0g a5 a6 b3 b4
 have q3:=Z0g a1 a2 b5 b6
 have q4:=Z0g a3 a4 b5 b6
 simp only[Sm,cst]
 omega
def Z1T{w:Str}{xs:List Int}(hg:Z3 w xs=true){mo:M PV}{ρ ρ1:List P.Slot}(ho:mo ρ=.ok (Z4 (Za w) w xs) ρ1):cV (Str.ofString "corners") [("Post",oJ),("Fence",oK),("Sail",oM),("Cloth",oN),("House",Al)] mo ĉ ρ=.ok (.ow ((Zi w xs).map c3)) ρ1:=by
 have hn:(["word","numbers"]:List Str).contains (Str.ofString "corners")=false:=by decide +kernel
 have key:∀(C:String) (mf:MF),Za w=C->List.lookup C [("Post",oJ),("Fence",oK),("Sail",oM),("Cloth",oN),("House",Al)]=some mf->mf [.sh (Z4 C w xs)]=.ret (.ow ((Z9 C xs).map c3))->cV (Str.ofString "corners") [("Post",oJ),("Fence",oK),("Sail",oM),("Cloth",oN),("House",Al)] mo ĉ ρ=.ok (.ow ((Zi w xs).map c3)) ρ1:=by
  intro C mf hC hl hf
  unfold Zi
  rw[hC] at ho ⊢
  unfold cV
  rw[ho]
  unfold Z4 at *
  simp only[Res.bind]
  rw[hl]
  dsimp only
  rw[if_neg (by rw[hn];decide)]
  simp only[ĉ,Res.bind]
  rw[hf]
 unfold Z3 at hg
 by_cases e1:w= "post"
 ·rw[if_pos e1] at hg
  exact key "Post" _ (by unfold Za;rw[if_pos e1]) rfl (Z3E hg w)
 rw[if_neg e1] at hg
 by_cases e2:w= "fence"
 ·rw[if_pos e2] at hg
  exact key "Fence" _ (by unfold Za;rw[if_neg e1,if_pos e2]) rfl (Z39 hg w)
 rw[if_neg e2] at hg
 by_cases e3:w= "sail"
 ·rw[if_pos e3] at hg
  exact key "Sail" _ (by unfold Za;rw[if_neg e1,if_neg e2,if_pos e3]) rfl (Z3F hg w)
 rw[if_neg e3] at hg
 by_cases e4:w= "cloth"
 ·rw[if_pos e4] at hg
  exact key "Cloth" _ (by unfold Za;rw[if_neg e1,if_neg e2,if_neg e3,if_pos e4]) rfl (Z3b hg w)
 rw[if_neg e4] at hg
 by_cases e5:w= "house"
 ·rw[if_pos e5] at hg
  exact key "House" _ (by unfold Za;rw[if_neg e1,if_neg e2,if_neg e3,if_neg e4]) rfl (Z3a hg w)
 ·rw[if_neg e5] at hg
  cases hg
def Z1q{r:P3}(hr:RB r){L:List P3}(hl:L.length<=100)(s1:P.Slot):Ľ (gN 1) İ (ċ (Č rM (Ă 1 (Ă 0 ĉ)))) (L.map c3) [.sh (c3 r),s1] []=some ((L.map (cst r)).map pt):=by
 have:=ĩ (g:=gN 1) (mt:=İ) (me:=ċ (Č rM (Ă 1 (Ă 0 ĉ)))) c3 (λp=>pt (cst r p)) (λρ=>∃s,ρ=[.sh (c3 r),s]) L [.sh (c3 r),s1] [] ⟨_,rfl⟩ (by simp;omega) (by
  rintro p hp ρ ⟨s,rfl⟩
  have e:=Z1e hr p
  generalize c3 r=R at *
  generalize c3 p=Q at *
  exact⟨[R |> .sh,.sh Q],[.sh R,.sh Q],[.sh R,.sh Q],by simp,by simp,by simp[e],_,rfl⟩)
 rw[this]
 simp
def Z0T{w:Str}{xs:List Int}(hg:Z3 w xs=true)(hl:(Zi w xs).length<=100){r:P3}(hr:RB r):vD [.sh (Z4 (Za w) w xs),.sh (c3 r)]=.ret (.ow (((Zi w xs).map (cst r)).map pt)):=by
 have h1:=Z1T hg (mo:=Ę 0) (ρ:= [.sh (Z4 (Za w) w xs),.sh (c3 r)]) (ρ1:=[.sh (Z4 (Za w) w xs),.sh (c3 r)]) (by simp)
 have h2:=Z1q hr hl
 generalize ((Zi w xs).map (cst r)).map pt=Y at *
 generalize (Zi w xs).map c3=Z at *
 generalize Z4 (Za w) w xs=v at *
 generalize c3 r=R at *
 simp[vD,Mx,List.replicate,h1,h2,-Gi]
def tQ(s:Hu.Pt):P3:=(2*s.1,2*s.2,0)
def Z0U{w:Str}{xs:List Int}(hg:Z3 w xs=true):(Zi w xs).length<=8/\Zi w xs≠[]/\∀p∈Zi w xs,PB p:=by
 have hp:Zk xs=true->(Z9 "Post" xs).length<=8/\Z9 "Post" xs≠[]/\∀p∈Z9 "Post" xs,PB p:=by
  intro h
  match xs,h with
  | [a,b,c],h=>
    simp[Zk,aJ,yX] at h
    simp[Z9,Z05,ZA,PB]
    omega
 have hf:Ze xs=true->(Z9 "Fence" xs).length<=8/\Z9 "Fence" xs≠[]/\∀p∈Z9 "Fence" xs,PB p:=by
  intro h
  match xs,h with
  | [a,b,c,d,e],h=>
    simp[Ze,Zh,aJ,yX] at h
    simp[Z9,PB]
    omega
 have hs:Zc xs=true->(Z9 "Sail" xs).length<=8/\Z9 "Sail" xs≠[]/\∀p∈Z9 "Sail" xs,PB p:=by
  intro h
  match xs,h with
  | [a,b,c,d,e],h=>
    simp[Zc,Zh,aJ,yX] at h
    simp[Z9,ZA,PB]
    omega
 have hh:Zc xs=true->(Z9 "House" xs).length<=8/\Z9 "House" xs≠[]/\∀p∈Z9 "House" xs,PB p:=by
  intro h
  match xs,h with
  | [a,b,c,d,e],h=>
    simp[Zc,Zh,aJ,yX] at h
    simp[Z9,Z05,ZA,PB]
    omega
 have hc:Zf xs=true->(Z9 "Cloth" xs).length<=8/\Z9 "Cloth" xs≠[]/\∀p∈Z9 "Cloth" xs,PB p:=by
  intro h
  match xs,h with
  | [a,b,c,d,e,f,g,i,j],h=>
    simp[Zf,aJ,Bg] at h
    simp[Z9,PB]
    omega
 unfold Z3 at hg
 unfold Zi Za
 by_cases e1:w= "post"
 ·rw[if_pos e1] at hg ⊢;exact hp hg
 rw[if_neg e1] at hg ⊢
 by_cases e2:w= "fence"
 ·rw[if_pos e2] at hg ⊢;exact hf hg
 rw[if_neg e2] at hg ⊢
 by_cases e3:w= "sail"
 ·rw[if_pos e3] at hg ⊢;exact hs hg
 rw[if_neg e3] at hg ⊢
 by_cases e4:w= "cloth"
 ·rw[if_pos e4] at hg ⊢;exact hc hg
 rw[if_neg e4] at hg ⊢
 by_cases e5:w= "house"
 ·rw[if_pos e5] at hg;exact hh hg
 ·rw[if_neg e5] at hg;cases hg
def R_(w:Str)(xs:List Int)(s:Hu.Pt)(r:P3):Bool:=(Hu.ZG ((Zi w xs).map (cst r)) (cst r (tQ s))).isNone
def Z1U(b:Nat):Builtin.bitNot (b:Int)= -(b:Int)-1:=rfl
def ZU(a b:Nat):Builtin.bitOr a b=((a ||| b:Nat):Int):=by
 unfold Builtin.bitOr Builtin.bitAnd
 rw[Z1U,Z1U]
 have h1:decide (0<= -(a:Int)-1)=false:=by simp;omega
 have h2:decide (0<= -(b:Int)-1)=false:=by simp;omega
 rw[h1,h2]
 have e1:(Builtin.bitNot (-(a:Int)-1)).toNat=a:=by unfold Builtin.bitNot;omega
 have e2:(Builtin.bitNot (-(b:Int)-1)).toNat=b:=by unfold Builtin.bitNot;omega
 simp only[e1,e2]
 unfold Builtin.bitNot
 omega
def Z3c(a k:Nat):(a:Int) / 2 ^ k=((a >>> k:Nat):Int):=by
 rw[Nat.shiftRight_eq_div_pow]
 simp
def ZJ(a k:Nat):(a:Int) / 2 ^ k % 2=if a.testBit k then 1 else 0:=by
 rw[Z3c]
 have:(a >>> k) % 2=if a.testBit k then 1 else 0:=by
  rw[Nat.testBit]
  have h:1 &&& (a >>> k)=(a >>> k) % 2:=by rw[Nat.and_comm];exact Nat.and_one_is_mod _
  rw[h]
  have:(a >>> k) % 2=0\/(a >>> k) % 2=1:=by omega
  rcases this with e|e<;>simp[e]
 by_cases q:a.testBit k=true
 ·rw[if_pos q] at this ⊢;omega
 ·rw[if_neg q] at this ⊢;omega
def Z2W(a:Int):Builtin.bitAnd a 1=a % 2:=PyProof.Rows.bitAnd_m1 a
def Z2u(f l k:Nat)(h:f<=l):(2 ^ (l+1)-2 ^ f).testBit k=(decide (f<=k) && decide (k<=l)):=by
 have e:2 ^ (l+1)-2 ^ f=(2 ^ (l+1-f)-1)*2 ^ f:=by
  rw[Nat.sub_mul,<-Nat.pow_add,Nat.one_mul]
  congr 2
  omega
 rw[e,Nat.testBit_mul_two_pow,Nat.testBit_two_pow_sub_one]
 by_cases h1:f<=k
 ·simp[h1]
  by_cases h2:k<=l
  ·simp[h2];omega
  ·simp[h2];omega
 ·simp[h1]
def Z1r{a n:Nat}(h:∀k,n<=k->a.testBit k=false):a<2 ^ n:=Nat.lt_pow_two_of_testBit a h
def Z3G{k:Nat}(h:k<=1000000):bW 1 (k:Int)=true:=by unfold bW;simp;omega
def Z1f{f l:Int}{w:Nat}(hf:0<=f)(hl:l<w)(hw:w<=1000):∃B:Nat,vJ [.sh (.int f),.sh (.int l)]=.ret (.sh (.int B))/\∀k:Nat,B.testBit k=(decide (f<=k) && decide ((k:Int)<=l)):=by
 by_cases h:l<f
 ·refine⟨0,by simp[vJ,DW,List.replicate,h],λk=>?_⟩
  by_cases h1:f<=k
  ·have h2:¬(k:Int)<=l:=by omega
   simp[h2]
  ·simp[h1]
 ·obtain⟨F,rfl⟩:=Int.eq_ofNat_of_zero_le hf
  obtain⟨L,rfl⟩:=Int.eq_ofNat_of_zero_le (by omega:0<=l)
  have e1:=Z3G (k:=L+1) (by omega)
  have e2:=Z3G (k:=F) (by omega)
  have hp:2 ^ F<=2 ^ (L+1):=Nat.pow_le_pow_right (by omega) (by omega)
  refine⟨2 ^ (L+1)-2 ^ F,?_,λk=>?_⟩
  ·have t1:((L:Int)+1).toNat=L+1:=by omega
   have t2:((L:Int)+1)=((L+1:Nat):Int):=by omega
   simp only[Int.natCast_add,Int.cast_ofNat_Int] at e1
   have h':¬(L:Int)<F:=h
   simp[vJ,DW,List.replicate,h',e1,e2,t1]
   rw[Int.natCast_sub hp]
   simp
  ·rw[Z2u F L k (by omega)]
   simp
def inR(L:List Hu.Ln)(u q k:Int):Prop:=∀l∈L,l.1*(u*k)+l.2.1*(u*q)<=l.2.2
def Z1g{a b k:Int}(hb:0<b):k<=a.fdiv b↔k*b<=a:=by
 rw[Int.fdiv_eq_ediv_of_nonneg _ (Int.le_of_lt hb)]
 exact Int.le_ediv_iff_mul_le hb
theorem Z0V{u q:Int}{w:Nat}(hu:0<u)(hu2:u<=10000000)(hq:0<=q)(hq2:q<=1000)(s0:P.Slot):∀(L:List Hu.Ln),(∀l∈L,SmL l)->∀(f la:Int) (s6 s7 s8 s9 Bm:P.Slot),0<=f->la<w->
 (∃f' Pj Rb s7' Ir Iu Bh,forL (gT 3 (Đ (gN 6) (Đ (gN 7) (Đ (gN 8) Ĳ)))) dX (L.map dj) [s0,.sh (.int u),.sh (.int q),.sh (.int w),.sh (.int f),.sh (.int la),s6,s7,s8,s9,Bm]=.ok .nx [s0,.sh (.int u),.sh (.int q),.sh (.int w),.sh (.int f'),.sh (.int Pj),Rb,s7',Ir,Iu,Bh]/\0<=f'/\Pj<w/\∀k:Int,(f'<=k/\k<=Pj)↔(f<=k/\k<=la/\inR L u q k))\/
 (∃ρ',forL (gT 3 (Đ (gN 6) (Đ (gN 7) (Đ (gN 8) Ĳ)))) dX (L.map dj) [s0,.sh (.int u),.sh (.int q),.sh (.int w),.sh (.int f),.sh (.int la),s6,s7,s8,s9,Bm]=.ok (.rt (.sh (.int 0))) ρ'/\∀k:Int,¬inR L u q k)
 | [],_,f,la,s6,s7,s8,s9,Bm,h1,h2=>.inl ⟨f,la,s6,s7,s8,s9,Bm,rfl,h1,h2,λk=>by simp[inR]⟩
 |l::L,hS,f,la,s6,s7,s8,s9,Bm,h1,h2=>by
  have hl:=hS l List.mem_cons_self
  have ih:=λ(f la:Int) (s6 s7 s8 s9 Bm:P.Slot)=>Z0V (w:=w) hu hu2 hq hq2 s0 L (λx hx=>hS x (List.mem_cons_of_mem _ hx)) f la s6 s7 s8 s9 Bm
  have m1:ō l.1 u=true:=bh (by have:=hl.1;omega) (by have:=hl.2.1;omega)
  have m2:ō l.2.1 u=true:=bh (by have:=hl.2.2.1;omega) (by have:=hl.2.2.2;omega)
  have m3:ō (l.2.1*u) q=true:=mul_r (by omega) (by omega)
  have bs:=Z0g hl.1 hl.2.1 (show -10000000<=u by omega) hu2
  obtain⟨st,hst⟩:∃st,l.1*u=st:=⟨_,rfl⟩
  obtain⟨ro,Sd⟩:∃ro,l.2.2-l.2.1*u*q=ro:=⟨_,rfl⟩
  rw[hst] at bs
  have hin:∀k:Int,inR (l::L) u q k↔(k*st<=ro/\inR L u q k):=λk=>by
   unfold inR
   rw[List.forall_mem_cons]
   have e:l.1*(u*k)=k*st:=by rw[<-hst,<-Int.mul_assoc,Int.mul_comm]
   have e2:l.2.1*(u*q)=l.2.1*u*q:=by rw[Int.mul_assoc]
   rw[e,e2]
   constructor
   ·rintro ⟨a,b⟩;exact⟨by omega,b⟩
   ·rintro ⟨a,b⟩;exact⟨by omega,b⟩
  have gg:gT 3 (Đ (gN 6) (Đ (gN 7) (Đ (gN 8) Ĳ))) (dj l) [s0,.sh (.int u),.sh (.int q),.sh (.int w),.sh (.int f),.sh (.int la),s6,s7,s8,s9,Bm]=some [s0,.sh (.int u),.sh (.int q),.sh (.int w),.sh (.int f),.sh (.int la),.sh (.int l.1),.sh (.int l.2.1),.sh (.int l.2.2),s9,Bm]:=by simp[dj]
  rw[List.map_cons,forL,gg]
  dsimp only
  by_cases c1:0<st
  ·have d1:iI ro st=true:=zM (by omega) (Nat.le_trans (lH (n:=200) (by omega) (by omega)) (by decide))
   have e:dX [s0,.sh (.int u),.sh (.int q),.sh (.int w),.sh (.int f),.sh (.int la),.sh (.int l.1),.sh (.int l.2.1),.sh (.int l.2.2),s9,Bm]=.ok .nx [s0,.sh (.int u),.sh (.int q),.sh (.int w),.sh (.int f),.sh (.int (min la (ro.fdiv st))),.sh (.int l.1),.sh (.int l.2.1),.sh (.int l.2.2),.sh (.int st),.sh (.int ro)]:=by
    simp[dX,m1,m2,m3,hst,Sd,c1,d1]
    split<;>omega
   rw[e]
   rcases ih f (min la (ro.fdiv st)) (.sh (.int l.1)) (.sh (.int l.2.1)) (.sh (.int l.2.2)) (.sh (.int st)) (.sh (.int ro)) h1 (by omega) with⟨f',Pj,Rb,s7',Ir,Iu,Bh,q1,q2,q3,q4⟩|⟨ρ',q1,q2⟩
   ·refine .inl ⟨f',Pj,Rb,s7',Ir,Iu,Bh,q1,q2,q3,λk=>?_⟩
    rw[q4,hin]
    have:=Z1g (a:=ro) (k:=k) c1
    constructor
    ·rintro ⟨a,b,c⟩;exact⟨a,by omega,this.mp (by omega),c⟩
    ·rintro ⟨a,b,c,d⟩;exact⟨a,by have:=this.mpr c;omega,d⟩
   ·exact .inr ⟨ρ',q1,λk=>by rw[hin];exact λh=>q2 k h.2⟩
  ·by_cases c2:st<0
   ·have d1:iI ro (-st)=true:=zM (by omega) (Nat.le_trans (lH (n:=200) (by omega) (by omega)) (by decide))
    have e:dX [s0,.sh (.int u),.sh (.int q),.sh (.int w),.sh (.int f),.sh (.int la),.sh (.int l.1),.sh (.int l.2.1),.sh (.int l.2.2),s9,Bm]=.ok .nx [s0,.sh (.int u),.sh (.int q),.sh (.int w),.sh (.int (max f (-(ro.fdiv (-st))))),.sh (.int la),.sh (.int l.1),.sh (.int l.2.1),.sh (.int l.2.2),.sh (.int st),.sh (.int ro)]:=by
     simp[dX,m1,m2,m3,hst,Sd,c1,c2,d1]
     split<;>omega
    rw[e]
    rcases ih (max f (-(ro.fdiv (-st)))) la (.sh (.int l.1)) (.sh (.int l.2.1)) (.sh (.int l.2.2)) (.sh (.int st)) (.sh (.int ro)) (by omega) h2 with⟨f',Pj,Rb,s7',Ir,Iu,Bh,q1,q2,q3,q4⟩|⟨ρ',q1,q2⟩
    ·refine .inl ⟨f',Pj,Rb,s7',Ir,Iu,Bh,q1,q2,q3,λk=>?_⟩
     rw[q4,hin]
     have:=Z1g (a:=ro) (b:=-st) (k:=-k) (by omega)
     rw[Int.neg_mul_neg] at this
     constructor
     ·rintro ⟨a,b,c⟩;exact⟨by omega,b,this.mp (by omega),c⟩
     ·rintro ⟨a,b,c,d⟩;exact⟨by have:=this.mpr c;omega,b,d⟩
    ·exact .inr ⟨ρ',q1,λk=>by rw[hin];exact λh=>q2 k h.2⟩
   ·have c0:st=0:=by omega
    subst c0
    by_cases c3:ro<0
    ·refine .inr ⟨_,by simp[dX,m1,m2,m3,hst,Sd,c3];rfl,λk=>?_⟩
     rw[hin]
     rintro ⟨a,_⟩
     omega
    ·have e:dX [s0,.sh (.int u),.sh (.int q),.sh (.int w),.sh (.int f),.sh (.int la),.sh (.int l.1),.sh (.int l.2.1),.sh (.int l.2.2),s9,Bm]=.ok .nx [s0,.sh (.int u),.sh (.int q),.sh (.int w),.sh (.int f),.sh (.int la),.sh (.int l.1),.sh (.int l.2.1),.sh (.int l.2.2),.sh (.int 0),.sh (.int ro)]:=by
      simp[dX,m1,m2,m3,hst,Sd,c3]
     rw[e]
     rcases ih f la (.sh (.int l.1)) (.sh (.int l.2.1)) (.sh (.int l.2.2)) (.sh (.int 0)) (.sh (.int ro)) h1 h2 with⟨f',Pj,Rb,s7',Ir,Iu,Bh,q1,q2,q3,q4⟩|⟨ρ',q1,q2⟩
     ·refine .inl ⟨f',Pj,Rb,s7',Ir,Iu,Bh,q1,q2,q3,λk=>?_⟩
      rw[q4,hin]
      constructor
      ·rintro ⟨a,b,c⟩;exact⟨a,b,by omega,c⟩
      ·rintro ⟨a,b,c,d⟩;exact⟨a,b,d⟩
     ·exact .inr ⟨ρ',q1,λk=>by rw[hin];exact λh=>q2 k h.2⟩
def Z3H{u q:Int}{w:Nat}(hu:0<u)(hu2:u<=10000000)(hq:0<=q)(hq2:q<=1000)(hw:w<=1000){L:List Hu.Ln}(hS:∀l∈L,SmL l){sl:P.Slot}(hs:Sl sl (L.map dj)) :
 ∃B:Nat,Ax [sl,.sh (.int u),.sh (.int q),.sh (.int w)]=.ret (.sh (.int B))/\∀k:Nat,B.testBit k=true↔(k<w/\inR L u q k):=by
 rcases Z0V (w:=w) hu hu2 hq hq2 sl L hS 0 (w-1) .no .no .no .no .no (by omega) (by omega) with⟨f',Pj,Rb,s7',Ir,Iu,Bh,q1,q2,q3,q4⟩|⟨ρ',q1,q2⟩
 ·obtain⟨B,b1,b2⟩:=Z1f (f:=f') (l:=Pj) q2 q3 hw
  refine⟨B,by rcases hs with rfl|rfl<;>simp[Ax,DX,List.replicate,q1,b1],λk=>?_⟩
  rw[b2,Bool.and_eq_true,decide_eq_true_eq,decide_eq_true_eq,q4 k]
  constructor
  ·rintro ⟨a,b,c⟩;exact⟨by omega,c⟩
  ·rintro ⟨a,b⟩;exact⟨by omega,by omega,b⟩
 ·refine⟨0,by rcases hs with rfl|rfl<;>simp[Ax,DX,List.replicate,q1],λk=>?_⟩
  simp
  exact λ_=>q2 k
abbrev Th:=Str×List Int
def ů(t:Th):PV:=Z4 (Za t.1) t.1 t.2
def g_:Option P3->PV
 |none=>.non
 |some r=>c3 r
abbrev Dy:=Str×Int×List (Option P3)
def aD(d:Dy):PV:=.tup [.str d.1,.int d.2.1,.lst (d.2.2.map g_)]
def Z0(w h:Int)(T:List Th)(D:List Dy):PV:=.ins "Yard" ["width","height","things","days"] [.int w,.int h,.lst (T.map ů),.lst (D.map aD)]
def ywh:(Str.ofString "width" =Str.ofString "height")=False:=eq_false (by decide +kernel)
def ywt:(Str.ofString "width" =Str.ofString "things")=False:=eq_false (by decide +kernel)
def ywd:(Str.ofString "width" =Str.ofString "days")=False:=eq_false (by decide +kernel)
def yht:(Str.ofString "height" =Str.ofString "things")=False:=eq_false (by decide +kernel)
def yhd:(Str.ofString "height" =Str.ofString "days")=False:=eq_false (by decide +kernel)
def ytd:(Str.ofString "things" =Str.ofString "days")=False:=eq_false (by decide +kernel)
def y_w(w h:Int)(T:List Th)(D:List Dy):Ů ["Yard"] (Str.ofString "width") (Z0 w h T D)=some (.int w):=by
 unfold Ů Z0
 simp
def y_h(w h:Int)(T:List Th)(D:List Dy):Ů ["Yard"] (Str.ofString "height") (Z0 w h T D)=some (.int h):=by
 have:(Str.ofString "height" == Str.ofString "width")=false:=by decide +kernel
 unfold Ů Z0
 simp[List.lookup_cons,this]
def y_t(w h:Int)(T:List Th)(D:List Dy):Ů ["Yard"] (Str.ofString "things") (Z0 w h T D)=some (.lst (T.map ů)):=by
 have e1:(Str.ofString "things" == Str.ofString "width")=false:=by decide +kernel
 have e2:(Str.ofString "things" == Str.ofString "height")=false:=by decide +kernel
 unfold Ů Z0
 simp[List.lookup_cons,e1,e2]
def y_d(w h:Int)(T:List Th)(D:List Dy):Ů ["Yard"] (Str.ofString "days") (Z0 w h T D)=some (.lst (D.map aD)):=by
 have e1:(Str.ofString "days" == Str.ofString "width")=false:=by decide +kernel
 have e2:(Str.ofString "days" == Str.ofString "height")=false:=by decide +kernel
 have e3:(Str.ofString "days" == Str.ofString "things")=false:=by decide +kernel
 unfold Ů Z0
 simp[List.lookup_cons,e1,e2,e3]
def Z1V(D:List Dy)(hD:D.length<=100000)(s0 s1 s2:P.Slot):Ľ (gT 3 (Đ (gN 0) (Đ (gN 1) (Đ (gN 2) Ĳ)))) İ (ň (ă (Ę 0) (ă (Ę 1) (ă (ċ (iC bH (ă (Ā 2) ĕ))) ĕ)))) (D.map aD) [s0,s1,s2] []=some (D.map aD):=by
 have h:=ĩ (g:=gT 3 (Đ (gN 0) (Đ (gN 1) (Đ (gN 2) Ĳ)))) (mt:=İ) (me:=ň (ă (Ę 0) (ă (Ę 1) (ă (ċ (iC bH (ă (Ā 2) ĕ))) ĕ)))) aD aD (λρ=>∃a b c,ρ=[a,b,c]) D [s0,s1,s2] [] ⟨_,_,_,rfl⟩ (by simp;omega) (by
  rintro d _ ρ ⟨a,b,c,rfl⟩
  refine⟨[.sh (.str d.1),.sh (.int d.2.1),.sh (.lst (d.2.2.map g_))],[.sh (.str d.1),.sh (.int d.2.1),.sh (.lst (d.2.2.map g_))],[.sh (.str d.1),.sh (.int d.2.1),.sh (.lst (d.2.2.map g_))],by simp[aD],rfl,by simp[aD],_,_,_,rfl⟩)
 simpa using h
def Z3d(w h:Int){T:List Th}{D:List Dy}(hT:T.length<=100000)(hD:D.length<=100000){s3 s4:P.Slot}(h3:Sl s3 (T.map ů))(h4:Sl s4 (D.map aD)):lN [.sh (.int w),.sh (.int h),s3,s4]=.ok ["width","height","things","days"] [.int w,.int h,.lst (T.map ů),.lst (D.map aD)]:=by
 have c:=Z1V D hD .no .no .no
 generalize hx:T.map ů=tx at *
 generalize hy:D.map aD=dx at *
 rcases h3 with rfl|rfl<;>rcases h4 with rfl|rfl<;>simp[lN,dF,Ls,jB,IR.of,List.replicate,putN,Cy,ywh,ywt,ywd,yht,yhd,ytd,c]
def Z3I{k q w:Nat}(hw:0<w):(q*w<=k/\k-q*w<w)↔k / w=q:=by
 constructor
 ·rintro ⟨a,b⟩
  exact Nat.div_eq_of_lt_le a (by rw[Nat.add_mul];omega)
 ·rintro rfl
  have h1:=Nat.div_mul_le_self k w
  have h2:=Nat.mod_lt k hw
  have h3:=Nat.mod_eq_sub_div_mul (x:=k) (k:=w)
  omega
def Z3J{k q w:Nat}(h:k / w=q):k-q*w=k % w:=by
 subst h
 exact(Nat.mod_eq_sub_div_mul).symm
def Z3Z{k w h:Nat}(hw:0<w):k / w<h↔k<w*h:=by
 rw[Nat.div_lt_iff_lt_mul hw,Nat.mul_comm]
def kW(w k:Nat):Hu.Pt:=(((k % w:Nat):Int),((k / w:Nat):Int))
def Z3e{S:List Hu.Pt}{r:P3}{p q:Int}:inR (Hu.Zn S) (2*r.2.2) q p↔(Hu.ZG S (cst r (tQ (p,q)))).isNone=true:=by
 have e:cst r (tQ (p,q))=(2*r.2.2*p,2*r.2.2*q):=by
  unfold cst tQ
  simp only[Int.mul_zero,Int.add_zero,Prod.mk.injEq]
  constructor<;>grind
 rw[e]
 unfold Hu.ZG inR Hu.hd
 rw[Option.isNone_iff_eq_none,List.find?_eq_none]
 simp
theorem Z0c{α:Type}(y:α):∀(xs b:List α),y∈xs.foldl (λb x=>x::b) b↔(y∈xs\/y∈b)
 | [],b=>by simp
 |x::xs,b=>by rw[List.foldl_cons,Z0c y xs (x::b)];simp;grind
def yV(t:Th)(s:Hu.Pt)(r:P3):Bool:=R_ t.1 t.2 s r
def Z1W{w h:Nat}(hw:0<w)(hw2:w<=60)(hh:h<=1000)(T:List Th)(Ds:List Dy){t:Th}(hg:Z3 t.1 t.2=true){r:P3}(hr:RB r)(hz:0<r.2.2) :
 ∃D:Nat,vK [.sh (Z0 w h T Ds),.sh (ů t),.sh (c3 r)]=.ret (.sh (.int D))/\∀k,D.testBit k=(decide (k<w*h) && yV t (kW w k) r):=by
 obtain⟨g1,g2,g3⟩:=Z0U hg
 have hc:=Z0T hg (by omega) hr
 have hS:∀p∈(Zi t.1 t.2).map (cst r),Sm p:=by
  intro p hp
  obtain⟨q,hq,rfl⟩:=List.mem_map.mp hp
  exact Z0S hr (g3 q hq)
 have hl:=Z0O (sl:=.sh (.lst (((Zi t.1 t.2).map (cst r)).map pt))) (.inl rfl) hS (by simpa using g2) (by simp;omega)
 have hls:∀l∈Hu.Zn ((Zi t.1 t.2).map (cst r)),SmL l:=λl h=>Z1S h hS
 have yw:=y_w w h T Ds
 have yh:=y_h w h T Ds
 have hv:(2:Int)*r.2.2<=10000000:=by have:=hr.2.2.2.2.2;omega
 generalize hX:Hu.Zn ((Zi t.1 t.2).map (cst r))=X at *
 generalize hY:Z0 w h T Ds=Y at *
 have hr2:Ĕ (c3 r) (.int 2)=some (.int r.2.2):=by simp[c3]
 obtain⟨ρ',e1,D,s5,rfl,hD⟩:=bL (g:=gN 5) (mb:=yu) (λ(q:Nat)=>PV.int q) (λ(b:List Nat) (x:Nat)=>x::b) (λb ρ=>∃(D:Nat) (s5:P.Slot),ρ=[.sh Y,.sh (ů t),.sh (c3 r),.ow (X.map dj),.sh (.int D),s5]/\∀k,D.testBit k=true↔(k / w∈b/\yV t (kW w k) r=true)) (List.range h) (by
  rintro q hq b ρ ⟨D,s5,rfl,hD⟩
  have hq:=List.mem_range.mp hq
  obtain⟨B,b1,b2⟩:=Z3H (u:=2*r.2.2) (q:=q) (w:=w) (by omega) hv (by omega) (by omega) (by omega) hls (sl:=.bw (X.map dj)) (.inr rfl)
  have hB:B<2 ^ w:=Z1r λk hk=>by
   have:=b2 k
   cases e:B.testBit k with
   |false=>rfl
   |true=>have:=(this.mp e).1;omega
  have hB2:B<2 ^ 60:=Nat.lt_of_lt_of_le hB (Nat.pow_le_pow_right (by omega) hw2)
  have hqw:q*w<=1000*60:=Nat.mul_le_mul (by omega) hw2
  have so:bW (B:Int) ((q:Int)*(w:Int))=true:=by
   have:((q:Int)*(w:Int))=((q*w:Nat):Int):=by simp
   rw[this]
   unfold bW
   simp
   omega
  have mo:ō (q:Int) (w:Int)=true:=bh (by omega) (by omega)
  have tn:((q:Int)*(w:Int)).toNat=q*w:=by
   have:((q:Int)*(w:Int))=((q*w:Nat):Int):=by simp
   rw[this];rfl
  obtain⟨Z,hZ⟩:∃Z:Nat,Z=D ||| B*2 ^ (q*w):=⟨_,rfl⟩
  have oe:Builtin.bitOr (D:Int) ((B:Int)*2 ^ (q*w))=(Z:Int):=by
   have ee:(B:Int)*2 ^ (q*w)=((B*2 ^ (q*w):Nat):Int):=by simp
   rw[ee,ZU,hZ]
  have m2:ō 2 r.2.2=true:=bh (by omega) (by omega)
  generalize c3 r=R at *
  have st:yu [.sh Y,.sh (ů t),.sh R,.ow (X.map dj),.sh (.int D),.sh (.int q)]=.ok .nx [.sh Y,.sh (ů t),.sh R,.ow (X.map dj),.sh (.int Z),.sh (.int q)]:=by
   simp[yu,hr2,yw,m2,b1,mo,so,tn,oe]
  refine⟨_,_,rfl,st,_,_,rfl,λk=>?_⟩
  rw[hZ,Nat.testBit_or,Bool.or_eq_true,hD,Nat.testBit_mul_two_pow,Bool.and_eq_true,decide_eq_true_eq,b2,List.mem_cons,<-hX,Z3e]
  have key:∀(_:k / w=q),((Hu.ZG ((Zi t.1 t.2).map (cst r)) (cst r (tQ (((k-q*w:Nat):Int),(q:Int))))).isNone=true↔yV t (kW w k) r=true):=by
   intro hk
   unfold yV R_ kW
   rw[Z3J hk,hk]
  have d:=Z3I (k:=k) (q:=q) hw
  constructor
  ·rintro (⟨a,b⟩|⟨a,b,c⟩)
   ·exact⟨.inr a,b⟩
   ·have:=d.mp ⟨a,b⟩
    exact⟨.inl this,(key this).mp c⟩
  ·rintro ⟨a|a,b⟩
   ·have:=d.mpr a
    exact .inr ⟨this.1,this.2,(key a).mpr b⟩
   ·exact .inl ⟨a,b⟩) [] [.sh Y,.sh (ů t),.sh (c3 r),.ow (X.map dj),.sh (.int ((0:Nat):Int)),.no] ⟨0,.no,rfl,by simp⟩
 refine⟨D,?_,λk=>?_⟩
 ·have rr:=Zs hh
  have hc':vD [.sh (ů t),.sh (c3 r)]=.ret (.ow (((Zi t.1 t.2).map (cst r)).map pt)):=hc
  generalize c3 r=R at *
  generalize ů t=Tv at *
  simp[vK,Nf,List.replicate,hc',hl,yh,rr,-List.map_map] at e1 ⊢
  simp[e1]
 ·have:=hD k
  rw[Z0c,List.mem_range,Z3Z hw] at this
  rw[Bool.eq_iff_iff,this,Bool.and_eq_true,decide_eq_true_eq]
  simp
def Z1:Nat->(Nat->Bool)->Nat
 |0,_=>0
 |n+1,p=>Z1 n p+if p n then 2 ^ n else 0
theorem ZL(p:Nat->Bool):∀n,Z1 n p<2 ^ n
 |0=>by simp[Z1]
 |n+1=>by
  have:=ZL p n
  unfold Z1
  rw[Nat.pow_succ]
  split<;>omega
theorem ZE(p:Nat->Bool):∀n k,(Z1 n p).testBit k=(decide (k<n) && p k)
 |0,k=>by simp[Z1]
 |n+1,k=>by
  have hl:=ZL p n
  unfold Z1
  by_cases h:k<n
  ·have ih:=ZE p n k
   have h1:k<n+1:=by omega
   split
   ·rw[Nat.add_comm,Nat.testBit_two_pow_add_gt h,ih];simp[h,h1]
   ·rw[Nat.add_zero,ih];simp[h,h1]
  ·by_cases h2:k=n
   ·subst h2
    split
    ·rename_i q
     rw[Nat.add_comm,Nat.testBit_two_pow_add_eq,Nat.testBit_lt_two_pow hl];simp[q]
    ·rename_i q
     rw[Nat.add_zero,Nat.testBit_lt_two_pow hl];simp[q]
   ·have h3:¬k<n+1:=by omega
    have:Z1 n p+(if p n=true then 2 ^ n else 0)<2 ^ k:=by
     refine Nat.lt_of_lt_of_le (ZL p (n+1)) (Nat.pow_le_pow_right (by omega) (by omega))
    rw[Nat.testBit_lt_two_pow this]
    simp[h3]
def Z0d{n:Nat}{p:Nat->Bool}{D:Nat}(h:∀k,D.testBit k=(decide (k<n) && p k)):D=Z1 n p:=Nat.eq_of_testBit_eq λk=>by rw[h,ZE]
def dk1(w h:Nat)(r:P3)(t:Th):Nat:=Z1 (w*h) λk=>yV t (kW w k) r
def Sg(w:Nat)(T:List Th):Option P3->Nat->Bool
 |none,_=>true
 |some r,k=>T.any λt=>yV t (kW w k) r
def dkA(w h:Nat)(T:List Th)(o:Option P3):Nat:=Z1 (w*h) (Sg w T o)
def Py(o:Option P3):Prop:=match o with|none=>True|some r=>RB r/\0<r.2.2
def Z1s{w h:Nat}(hw:0<w)(hw2:w<=60)(hh:h<=1000)(T:List Th)(Ds:List Dy){t:Th}(hg:Z3 t.1 t.2=true){r:P3}(hr:RB r)(hz:0<r.2.2) :
 vK [.sh (Z0 w h T Ds),.sh (ů t),.sh (c3 r)]=.ret (.sh (.int (dk1 w h r t))):=by
 obtain⟨D,h1,h2⟩:=Z1W hw hw2 hh T Ds hg hr hz
 rw[h1,Z0d h2]
 rfl
def Z2v{w h:Nat}(hw:0<w)(hw2:w<=60)(hh:h<=1000){T:List Th}(hT:T.length<=1000)(Ds:List Dy)(hg:∀t∈T,Z3 t.1 t.2=true){r:P3}(hr:RB r)(hz:0<r.2.2) :
 RN [.sh (Z0 w h T Ds),.sh (c3 r)]=.ret (.ow (T.map λt=>.int (dk1 w h r t))):=by
 have yt:=y_t w h T Ds
 have hc:=ĩ (g:=gN 2) (mt:=İ) (me:=ċ (Č vK (Ă 0 (Ă 2 (Ă 1 ĉ))))) ů (λt=>.int (dk1 w h r t)) (λρ=>∃s,ρ=[.sh (Z0 w h T Ds),.sh (c3 r),s]) T [.sh (Z0 w h T Ds),.sh (c3 r),.no] [] ⟨_,rfl⟩ (by simp;omega) (by
  rintro t ht ρ ⟨s,rfl⟩
  have e:=Z1s hw hw2 hh T Ds (hg t ht) hr hz
  generalize Z0 w h T Ds=Y at *
  generalize c3 r=R at *
  generalize ů t=Tv at *
  refine⟨_,_,_,rfl,rfl,by simp[e];rfl,_,rfl⟩)
 generalize Z0 w h T Ds=Y at *
 generalize c3 r=R at *
 simp[RN,Wm,List.replicate,yt]
 simp at hc
 simp[hc]
def Z3f{w h:Nat}(hw:0<w)(hw2:w<=60)(hh:h<=1000)(hwh:w*h<=1000){T:List Th}(hT:T.length<=1000)(Ds:List Dy)(hg:∀t∈T,Z3 t.1 t.2=true){o:Option P3}(ho:Py o) :
 vL [.sh (Z0 w h T Ds),.sh (g_ o)]=.ret (.sh (.int (dkA w h T o))):=by
 have yw:=y_w w h T Ds
 have yh:=y_h w h T Ds
 have mo:ō (w:Int) (h:Int)=true:=bh (by omega) (by omega)
 cases o with
 |none=>
  obtain⟨B,b1,b2⟩:=Z1f (f:=0) (l:=(w:Int)*h-1) (w:=w*h) (by omega) (by rw[Int.natCast_mul];omega) hwh
  have:B=dkA w h T none:=Z0d λk=>by
   rw[b2]
   simp[Sg]
   have:((w*h:Nat):Int)=(w:Int)*h:=by simp
   omega
  subst this
  generalize Z0 w h T Ds=Y at *
  simp[vL,D_,List.replicate,g_,yw,yh,mo,b1,nA]
 |some r=>
  have ho:RB r/\0<r.2.2:=ho
  have hd:=Z2v hw hw2 hh hT Ds hg ho.1 ho.2
  obtain⟨ρ',e1,D,s3,rfl,hD⟩:=bL (g:=gN 3) (mb:=DY) (λ(t:Th)=>PV.int (dk1 w h r t)) (λ(b:List Th) (x:Th)=>x::b) (λb ρ=>∃(D:Nat) (s3:P.Slot),ρ=[.sh (Z0 w h T Ds),.sh (c3 r),.sh (.int D),s3]/\∀k,D.testBit k=true↔(k<w*h/\∃t∈b,yV t (kW w k) r=true)) T (by
   rintro t ht b ρ ⟨D,s3,rfl,hD⟩
   refine⟨_,_,rfl,by simp[DY,ZU];exact⟨rfl,rfl⟩,_,_,rfl,λk=>?_⟩
   rw[Nat.testBit_or,Bool.or_eq_true,hD,dk1,ZE,Bool.and_eq_true,decide_eq_true_eq]
   simp
   grind) [] [.sh (Z0 w h T Ds),.sh (c3 r),.sh (.int ((0:Nat):Int)),.no] ⟨0,.no,rfl,by simp⟩
  have:D=dkA w h T (some r):=Z0d λk=>by
   have:=hD k
   rw[Bool.eq_iff_iff,this]
   simp only[Z0c,Sg,List.not_mem_nil,or_false,Bool.and_eq_true,decide_eq_true_eq,List.any_eq_true]
  subst this
  have hn:uo (c3 r) .non=some (.bl false):=by simp[c3,nA]
  generalize Z0 w h T Ds=Y at *
  show vL [.sh Y,.sh (c3 r)]=_
  simp at e1
  generalize c3 r=R at *
  have hn:nA R=false:=by simpa using hn
  simp[vL,D_,List.replicate,hd,hn,e1]
def ZB(ns:List Int)(k:Nat):Ŋ [.sh (.lst (ns.map .int)),.sh (.int k)]=.ret (.sh (.int (ns.getD k 0))):=by
 by_cases h:k<ns.length
 ·have h':(k:Int)<(ns.length:Int):=by omega
  simp[Ŋ,CQ,List.replicate,h',List.getElem?_eq_getElem h]
 ·have h':¬(k:Int)<(ns.length:Int):=by omega
  simp[Ŋ,CQ,List.replicate,h',List.getElem?_eq_none (Nat.le_of_not_lt h)]
@[simp] theorem Zv(ns:List Int)(k:Nat):Ŋ [.sh (.lst (ns.map .int)),.sh (.int (no_index (OfNat.ofNat k)))]=.ret (.sh (.int (ns.getD k 0))):=ZB ns k
def Gr(x:Int):Prop:=0<=x/\x<524288
theorem Zx(c:Int)(s1:P.Slot):∀(ks:List Nat) (acc:List Int) (n:Int) (s4:P.Slot),acc.length+ks.length<=100000->(∀k∈ks,k<=100000)->(∀x∈acc,Gr x)->∃(acc':List Int) (n':Int) (Px:P.Slot),forL (gN 4) nH (ks.map λ(i:Nat)=>PV.int (i:Int)) [.sh (.int c),s1,.ow (acc.map .int),.sh (.int n),s4]=.ok .nx [.sh (.int c),s1,.ow (acc'.map .int),.sh (.int n'),Px]/\acc'.length=acc.length+ks.length/\∀x∈acc',Gr x
 | [],acc,n,s4,_,_,h=>⟨acc,n,s4,rfl,rfl,h⟩
 |k::ks,acc,n,s4,hl,hk,h=>by
  have hk0:=hk k List.mem_cons_self
  have hl0:acc.length<16777216:=by simp at hl;omega
  rw[List.map_cons,forL]
  have hg:gN 4 (PV.int (k:Int)) [.sh (.int c),s1,.ow (acc.map .int),.sh (.int n),s4]=some [.sh (.int c),s1,.ow (acc.map .int),.sh (.int n),.sh (.int k)]:=rfl
  rw[hg]
  dsimp only
  by_cases h0:c % 2=0
  ·have e:nH [.sh (.int c),s1,.ow (acc.map .int),.sh (.int n),.sh (.int k)]=.ok .nx [.sh (.int c),s1,.ow ((acc ++ [n % 524287]).map .int),.sh (.int (n / 524287)),.sh (.int k)]:=by
    simp[nH,h0,hl0]
   rw[e]
   obtain⟨a,b,d,q1,q2,q3⟩:=Zx c s1 ks (acc ++ [n % 524287]) (n / 524287) (.sh (.int k)) (by simp at hl ⊢;omega) (λx hx=>hk x (List.mem_cons_of_mem _ hx)) (by
    intro x hx
    rcases List.mem_append.mp hx with hx|hx
    ·exact h x hx
    ·rw[List.mem_singleton.mp hx];unfold Gr;omega)
   exact⟨a,b,d,q1,by simp at q2 ⊢;omega,q3⟩
  ·obtain⟨m,hm⟩:∃m,(n*49157+24593+2*(k:Int)) % 8388593=m:=⟨_,rfl⟩
   have e:nH [.sh (.int c),s1,.ow (acc.map .int),.sh (.int n),.sh (.int k)]=.ok .nx [.sh (.int c),s1,.ow ((acc ++ [m / 16]).map .int),.sh (.int m),.sh (.int k)]:=by
    simp[nH,h0,hl0,hm]
   rw[e]
   obtain⟨a,b,d,q1,q2,q3⟩:=Zx c s1 ks (acc ++ [m / 16]) m (.sh (.int k)) (by simp at hl ⊢;omega) (λx hx=>hk x (List.mem_cons_of_mem _ hx)) (by
    intro x hx
    rcases List.mem_append.mp hx with hx|hx
    ·exact h x hx
    ·rw[List.mem_singleton.mp hx];unfold Gr;omega)
   exact⟨a,b,d,q1,by simp at q2 ⊢;omega,q3⟩
def Zy(c:Int){n:Nat}(hn:n<=1000):∃xs:List Int,b_ [.sh (.int c),.sh (.int n)]=.ret (.ow (xs.map .int))/\xs.length=n/\∀x∈xs,Gr x:=by
 have rr:=Zs hn
 by_cases h:c % 2=1
 ·obtain⟨a,b,d,q1,q2,q3⟩:=Zx c (.sh (.int n)) (List.range n) [] (c / 2 % 8388593) .no (by simp;omega) (λk hk=>by have:=List.mem_range.mp hk;omega) (by simp)
  refine⟨a,?_,by simpa using q2,q3⟩
  simp at q1
  simp[b_,CT,List.replicate,h,rr,q1]
 ·obtain⟨a,b,d,q1,q2,q3⟩:=Zx c (.sh (.int n)) (List.range n) [] (c / 2) .no (by simp;omega) (λk hk=>by have:=List.mem_range.mp hk;omega) (by simp)
  refine⟨a,?_,by simpa using q2,q3⟩
  simp at q1
  simp[b_,CT,List.replicate,h,rr,q1]
def Pl(x:Int):Prop:=-1000000000+50<=x/\x<=1000000000-50
def Zu(n:Int){w:Int}(h1:1<=w)(h2:w<=1000):∃x:Int,jE [.sh (.int n),.sh (.int w)]=.ret (.sh (.int x))/\Pl x:=by
 by_cases h:n / 512 % 16=5
 ·exact⟨n*3813 % 1999999901-1000000000+50,by simp[jE,DK,List.replicate,h],by unfold Pl;omega⟩
 ·have m0:¬(2*w+9=0):=by omega
  have p:=Int.emod_nonneg n (show(2*w+9)≠0 by omega)
  have q:=Int.emod_lt_of_pos n (show 0<(2*w+9) by omega)
  have e:n.fmod (2*w+9)=n % (2*w+9):=Int.fmod_eq_emod_of_nonneg n (by omega)
  exact⟨n % (2*w+9)-4,by simp[jE,DK,List.replicate,h,m0,e],by unfold Pl;omega⟩
def Z0h(n:Int):∃x:Int,vH [.sh (.int n)]=.ret (.sh (.int x))/\1<=x/\x<=1000000000:=by
 by_cases h:n / 512 % 12=7
 ·exact⟨1+n*1907 % 1000000000,by simp[vH,DG,List.replicate,h],by omega,by omega⟩
 ·exact⟨1+n % 9,by simp[vH,DG,List.replicate,h],by omega,by omega⟩
def Z1X{x y h:Int}(a:Pl x)(b:Pl y)(c:1<=h/\h<=1000000000):Z3 "post" [x / 2,y / 2,h]=true:=by
 unfold Pl at a b
 unfold Z3 Zk aJ yX
 simp
 omega
def Pz{a b:String}(h:decide (Str.ofString a=Str.ofString b)=false):¬(Str.ofString a=Str.ofString b):=of_decide_eq_false h
def Z1t{x y u v h:Int}(a:Pl x)(b:Pl y)(hu: -4<=u/\u<=4)(hv: -4<=v/\v<=4)(c:1<=h/\h<=1000000000)(e:Int)(he:e=if u=0/\v=0 then 1 else 0):Z3 "fence" [x,y,x+u+e,y+v,h]=true:=by
 have h1:¬(Str.ofString "fence" =Str.ofString "post"):=Pz (by decide +kernel)
 unfold Pl at a b
 unfold Z3
 rw[if_neg h1,if_pos rfl]
 unfold Ze Zh aJ yX
 simp
 split at he<;>omega
def Z0W{w:Str}(hw:w= "sail" \/w= "house"){x y u v h:Int}(a:Pl x)(b:Pl y)(hu:0<=u/\u<=8)(hv:0<=v/\v<=8)(c:1<=h/\h<=1000000000):Z3 w [x,y,x+1+u,y+1+v,h]=true:=by
 have hb:Zc [x,y,x+1+u,y+1+v,h]=true:=by
  unfold Pl at a b
  unfold Zc Zh aJ yX
  simp
  omega
 unfold Z3
 rcases hw with rfl|rfl
 ·rw[if_neg (Pz (by decide +kernel)),if_neg (Pz (by decide +kernel)),if_pos rfl]
  exact hb
 ·rw[if_neg (Pz (by decide +kernel)),if_neg (Pz (by decide +kernel)),if_neg (Pz (by decide +kernel)),if_neg (Pz (by decide +kernel)),if_pos rfl]
  exact hb
def Z1u{x y z a b c d e f:Int}(h1:Pl x)(h2:Pl y)(h3:0<=z/\z<=1000000000)(h4:Pl a)(h5:Pl b)(h6:1<=c/\c<=1000000000)(h7:Pl d)(h8:Pl e)(h9:1<=f/\f<=1000000000):Z3 "cloth" [x,y,z,a,b,c,d,e,f]=true:=by
 unfold Z3
 rw[if_neg (Pz (by decide +kernel)),if_neg (Pz (by decide +kernel)),if_neg (Pz (by decide +kernel)),if_pos rfl]
 unfold Pl at *
 unfold Zf aJ Bg
 simp
 omega
theorem Z40:∀(xs:List Int),xs.length=14->∃a b c d e f g h i j k l m n,xs=[a,b,c,d,e,f,g,h,i,j,k,l,m,n]
 | [a,b,c,d,e,f,g,h,i,j,k,l,m,n],_=>⟨a,b,c,d,e,f,g,h,i,j,k,l,m,n,rfl⟩
def Z41(x y:Hu.Pt):ŧ (pt x) (pt y)=some (.bl (decide (x=y))):=by
 unfold ŧ um
 rw[Z04,Z04,ZR,ZR,Z0L]
 rfl
def Z0X:au [.int 2]=some [.int 0,.int 1]:=by rfl
def Z0C(c:Int){w:Int}(hw1:1<=w)(hw2:w<=1000):∃t:Th,dI [.sh (.int c),.sh (.int w)]=.ret (.sh (.tup [.str t.1,.lst (t.2.map .int)]))/\Z3 t.1 t.2=true:=by
 obtain⟨xs,eg,hl,hx⟩:=Zy c (n:=14) (by omega)
 obtain⟨x0,x1,x2,x3,x4,x5,x6,x7,x8,x9,x10,x11,x12,x13,rfl⟩:=Z40 xs hl
 clear hl hx
 obtain⟨p0,e0,q0⟩:=Zu x0 hw1 hw2
 obtain⟨p1,e1,q1⟩:=Zu x1 hw1 hw2
 obtain⟨z,ez,qz⟩:=Z0h x2
 have eg':b_ [.sh (.int c),.sh (.int 14)]=.ret (.ow [.int x0,.int x1,.int x2,.int x3,.int x4,.int x5,.int x6,.int x7,.int x8,.int x9,.int x10,.int x11,.int x12,.int x13]):=eg
 clear eg
 have hc:Ľ (gN 2) İ (ċ (Č jE (Ċ (Ą Ĕ (Ā 1) (Ā 2)) (Ă 0 ĉ)))) [PV.int 0,PV.int 1] [.sh (.int w),.bw [.int x0,.int x1,.int x2,.int x3,.int x4,.int x5,.int x6,.int x7,.int x8,.int x9,.int x10,.int x11,.int x12,.int x13],.no] []=some [.int p0,.int p1]:=by
  simp[Ľ,e0,e1]
 have k:0<=x3 % 5/\x3 % 5<5:=by omega
 obtain⟨kd,hkd⟩:∃kd,x3 % 5=kd:=⟨_,rfl⟩
 rw[hkd] at k
 by_cases k0:kd=0
 ·refine⟨("post",[p0 / 2,p1 / 2,z]),?_,Z1X q0 q1 qz⟩
  simp[dI,nO,List.replicate,eg',Z0X,hc,ez,hkd,k0]
 ·by_cases k1:kd=1
  ·refine⟨("fence",[p0,p1,p0+(x4 % 9-4)+(if x4 % 9-4=0/\x5 % 9-4=0 then 1 else 0),p1+(x5 % 9-4),z]),?_,Z1t q0 q1 (by omega) (by omega) qz _ rfl⟩
   have hq:=Z41 (p0,p1) (p0+x4 % 9-4,p1+x5 % 9-4)
   unfold pt at hq
   dsimp only at hq
   have hi:(if x4 % 9-4=0/\x5 % 9-4=0 then(1:Int) else 0)=if decide ((p0,p1)=(p0+x4 % 9-4,p1+x5 % 9-4))=true then 1 else 0:=by
    simp only[decide_eq_true_eq,Prod.mk.injEq]
    split<;>split<;>omega
   generalize decide ((p0,p1)=(p0+x4 % 9-4,p1+x5 % 9-4))=bb at *
   have a1:p0+(x4 % 9-4)=p0+x4 % 9-4:=by omega
   have a2:p1+(x5 % 9-4)=p1+x5 % 9-4:=by omega
   rw[a1,a2,hi]
   cases bb<;>simp[dI,nO,List.replicate,eg',Z0X,hc,ez,hkd,k1,hq]
  ·by_cases k2:kd=2
   ·obtain⟨p7,e7,q7⟩:=Zu x7 hw1 hw2
    obtain⟨p8,e8,q8⟩:=Zu x8 hw1 hw2
    obtain⟨p9,e9,q9⟩:=Zu x9 hw1 hw2
    obtain⟨p10,e10,q10⟩:=Zu x10 hw1 hw2
    obtain⟨z2,ez2,qz2⟩:=Z0h x11
    refine⟨("cloth",[p0,p1,x6 % 10,p7,p8,z,p9,p10,z2]),?_,Z1u q0 q1 (by omega) q7 q8 qz q9 q10 qz2⟩
    simp[dI,nO,List.replicate,eg',Z0X,hc,ez,hkd,k2,e7,e8,e9,e10,ez2,add_l]
   ·by_cases k3:kd=3
    ·refine⟨("sail",[p0,p1,p0+1+x4 % 8,p1+1+x5 % 8,z]),?_,Z0W (.inl rfl) q0 q1 (by omega) (by omega) qz⟩
     simp[dI,nO,List.replicate,eg',Z0X,hc,ez,hkd,k3]
    ·have k4:kd=4:=by omega
     refine⟨("house",[p0,p1,p0+1+x4 % 8,p1+1+x5 % 8,z]),?_,Z0W (.inr rfl) q0 q1 (by omega) (by omega) qz⟩
     simp[dI,nO,List.replicate,eg',Z0X,hc,ez,hkd,k4]
def Z3g{α:Type}(xs:List α)(a b:Nat)(h1:a<=b)(h2:b<=xs.length):Ŭ xs (some (a:Int)) (some (b:Int))=(xs.drop a).take (b-a):=by
 unfold Ŭ
 rw[HT.jo,HT.jo,Nat.min_eq_left h2,Nat.min_eq_left (Nat.le_trans h1 h2)]
theorem Z4e:∀(xs:List Int),xs.length=5->∃a b c d e,xs=[a,b,c,d,e]
 | [a,b,c,d,e],_=>⟨a,b,c,d,e,rfl⟩
def Z3K{xs:List Int}(h:xs.length=5):∃o:Option P3,rD [.sh (.lst (xs.map .int))]=.ret (.sh (g_ o))/\Py o:=by
 obtain⟨a,b,c,d,e,rfl⟩:=Z4e xs h
 by_cases he:e % 6=4
 ·exact⟨none,by simp[rD,CW,List.replicate,he,g_],trivial⟩
 ·have a1:0<=a % 13/\a % 13<13:=by omega
  have b1:0<=b % 13/\b % 13<13:=by omega
  have c1:0<=c % 5/\c % 5<5:=by omega
  have go:∀s:Int,(s=1\/s=3\/s=100000)->Ĕ (.lst [.int 1,.int 1,.int 3,.int 100000]) (.int (d % 4))=some (.int s)->∃o:Option P3,rD [.sh (.lst ([a,b,c,d,e].map .int))]=.ret (.sh (g_ o))/\Py o:=by
   intro s hs hx
   have m1:∀x:Int,ō x s=true:=λx=>mul_r (by omega) (by omega)
   refine⟨some ((a % 13-6)*s,(b % 13-6)*s,(1+c % 5)*s),?_,?_⟩
   ·simp[rD,CW,List.replicate,he,g_,hx,m1,c3]
   ·rcases hs with rfl|rfl|rfl<;>refine⟨⟨?_,?_,?_,?_,?_,?_⟩,?_⟩<;>dsimp only<;>omega
  have hd:d % 4=0\/d % 4=1\/d % 4=2\/d % 4=3:=by omega
  rcases hd with hd|hd|hd|hd
  ·exact go 1 (by omega) (by rw[hd];rfl)
  ·exact go 1 (by omega) (by rw[hd];rfl)
  ·exact go 3 (by omega) (by rw[hd];rfl)
  ·exact go 100000 (by omega) (by rw[hd];rfl)
def Z2w(t:Int)(h:0<=t)(h2:t<12)(N:List Str)(hN:N.length=12):∃L:List Str,ģ (.lst (Ŭ (N.map PV.str) (some t) none)) (.lst (Ŭ (N.map PV.str) none (some t)))=some (.ow (L.map .str))/\L.length=12:=by
 obtain⟨k,rfl⟩:=Int.eq_ofNat_of_zero_le h
 have e1:Ŭ (N.map PV.str) (some (k:Int)) none=(N.drop k).map PV.str:=by
  unfold Ŭ
  rw[HT.jo,List.length_map,Nat.min_eq_left (by omega)]
  show List.take (N.length-k) _=_
  rw[<-List.map_drop]
  exact List.take_of_length_le (by simp)
 have e2:Ŭ (N.map PV.str) none (some (k:Int))=(N.take k).map PV.str:=by
  unfold Ŭ
  rw[HT.jo,List.length_map,Nat.min_eq_left (by omega)]
  show List.take (k-0) (List.drop 0 _)=_
  simp[List.map_take]
 rw[e1,e2,add_l (by simp;omega)]
 exact⟨N.drop k++N.take k,by simp,by simp;omega⟩
def Zb(lg:Nat)(d:Dy):Prop:=(1<=d.2.1/\d.2.1<=1000000000)/\(1<=d.2.2.length/\d.2.2.length<=lg)/\∀o∈d.2.2,Py o
def sl5{xs:List Int}{n lg j:Nat}(hl:xs.length=5*lg+2)(hj:j<lg):∃ys:List Int,Ŭ (xs.map PV.int) (some (2+5*(j:Int))) (some (7+5*(j:Int)))=ys.map .int/\ys.length=5:=by
 refine⟨(xs.drop (2+5*j)).take 5,?_,by simp;omega⟩
 have:=Z3g (xs.map PV.int) (2+5*j) (7+5*j) (by omega) (by simp;omega)
 have e1:((2+5*j:Nat):Int)=2+5*(j:Int):=by omega
 have e2:((7+5*j:Nat):Int)=7+5*(j:Int):=by omega
 rw[e1,e2] at this
 rw[this,List.map_take,List.map_drop]
 congr 1
 omega
theorem Z0Y{xs:List Int}{lg:Nat}(hl:xs.length=5*lg+2)(hlg:lg<=100):∀(js:List Nat),(∀j∈js,j<lg)->∀(acc:List PV) (s1:P.Slot),acc.length+js.length<=1000->∃os:List (Option P3),Ľ (gN 1) İ (ċ (Č rD (Ċ (ċ (tK (Ā 0) (mP (ċ (Ĩ ģ (mC (.int 2)) (Ą Ĥ (mC (.int 5)) (Ā 1))))) (mP (ċ (Ĩ ģ (mC (.int 7)) (Ą Ĥ (mC (.int 5)) (Ā 1))))))) ĉ))) (js.map λ(i:Nat)=>PV.int (i:Int)) [.bw (xs.map .int),s1] acc=some (acc++os.map g_)/\os.length=js.length/\∀o∈os,Py o
 | [],_,acc,s1,_=>⟨[],by simp[Ľ],rfl,by simp⟩
 |j::js,hj,acc,s1,ha=>by
  obtain⟨ys,e1,e2⟩:=sl5 (n:=0) hl (hj j List.mem_cons_self)
  obtain⟨o,e3,e4⟩:=Z3K e2
  obtain⟨os,q1,q2,q3⟩:=Z0Y hl hlg js (λx hx=>hj x (List.mem_cons_of_mem _ hx)) (acc ++ [g_ o]) (.sh (.int j)) (by simp at ha ⊢;omega)
  refine⟨o::os,?_,by simp[q2],?_⟩
  ·have hz:acc.length<16777216:=by simp at ha;omega
   generalize xs.map PV.int=X at *
   generalize ys.map PV.int=Y at *
   rw[List.map_cons,Ľ]
   simp[Pq,e1,e3,hz]
   simpa using q1
  ·intro x hx
   rcases List.mem_cons.mp hx with rfl|hx
   ·exact e4
   ·exact q3 x hx
def Z2x(ns:List Int){k lg:Nat}(hk:k<12)(hlg:lg<=100)(hl0:0<lg){L:List Str}(hL:L.length=12)(s2 s5 s8 s9:P.Slot)(D:List Dy)(hD:D.length<=12) :
 ∃(d:Dy) (Ir Iu:P.Slot),xJ [.sh (.lst (ns.map .int)),.sh (.int 4),s2,.sh (.int lg),.ow (L.map .str),s5,.ow (D.map aD),.sh (.int k),s8,s9]=.ok .nx [.sh (.lst (ns.map .int)),.sh (.int 4),s2,.sh (.int lg),.ow (L.map .str),s5,.ow ((D ++ [d]).map aD),.sh (.int k),Ir,Iu]/\Zb lg d:=by
 have ha:=ZB ns (4+k)
 have e6:((4+k:Nat):Int)=4+(k:Int):=by omega
 rw[e6] at ha
 obtain⟨v,hv⟩:∃v,ns.getD (4+k) 0=v:=⟨_,rfl⟩
 rw[hv] at ha
 obtain⟨xs,eg,hl,hx⟩:=Zy (v / 12+5*k) (n:=5*lg+2) (by omega)
 have el:((5*lg+2:Nat):Int)=5*(lg:Int)+2:=by omega
 rw[el] at eg
 have x0:∃a,(xs.map PV.int)[0]?=some (.int a):=⟨xs[0],by simp⟩
 have x1:∃b,(xs.map PV.int)[1]?=some (.int b):=⟨xs[1],by simp⟩
 obtain⟨a,x0⟩:=x0
 obtain⟨b,x1⟩:=x1
 have hm:¬((lg:Int)=0):=by omega
 have hm2:¬lg=0:=by omega
 have hf:b.fmod (lg:Int)=b % lg:=Int.fmod_eq_emod_of_nonneg b (by omega)
 have b1:=Int.emod_nonneg b hm
 have b2:=Int.emod_lt_of_pos b (show 0<(lg:Int) by omega)
 obtain⟨m,hmm⟩:∃m:Nat,1+b % lg=(m:Int):=⟨(1+b % lg).toNat,by omega⟩
 have rr:=Zs (n:=m) (by omega)
 obtain⟨os,q1,q2,q3⟩:=Z0Y hl hlg (List.range m) (λj hj=>by have:=List.mem_range.mp hj;omega) [] .no (by simp;omega)
 have hLk:(L.map PV.str)[k]?=some (.str L[k]):=by simp[hL,hk]
 refine⟨(L[k],1+a*1907 % 1000000000,os),.ow (xs.map .int),.sh (.lst (os.map g_)),?_,⟨by dsimp only;omega,by simp at q2;dsimp only;omega,q3⟩⟩
 have hz:D.length<16777216:=by omega
 rw[List.nil_append] at q1
 have hdl:(D.map aD).length=D.length:=by simp
 generalize ns.map PV.int=NS at *
 generalize xs.map PV.int=XS at *
 generalize L[k]=nm at *
 generalize hLL:L.map PV.str=LS at *
 have hmp:(D ++ [((nm,1+a*1907 % 1000000000,os):Dy)]).map aD=D.map aD ++ [.tup [.str nm,.int (1+a*1907 % 1000000000),.lst (os.map g_)]]:=by simp[aD]
 rw[hmp]
 generalize D.map aD=DS at *
 generalize hos:os.map g_=OS at *
 rw[<-hdl] at hz
 simp[xJ,ha,eg,x0,x1,hm2,hf,hmm,rr,q1,hLk,hz,-Zv]
theorem Z0D(ns:List Int){n lg:Nat}(hlg:lg<=100)(hl0:0<lg){L:List Str}(hL:L.length=12){v:Int}:∀(ks:List Nat),(∀k∈ks,k<12)->∀(D:List Dy) (s7 s8 s9:P.Slot),D.length+ks.length<=12->(∀d∈D,Zb lg d)->∃ρ',forL (gN 7) xJ (ks.map λ(i:Nat)=>PV.int (i:Int)) [.sh (.lst (ns.map .int)),.sh (.int 4),.sh (.int n),.sh (.int lg),.ow (L.map .str),.sh (.int v),.ow (D.map aD),s7,s8,s9]=.ok .nx ρ'/\∃(D':List Dy) (s7 s8 s9:P.Slot),ρ'=[.sh (.lst (ns.map .int)),.sh (.int 4),.sh (.int n),.sh (.int lg),.ow (L.map .str),.sh (.int v),.ow (D'.map aD),s7,s8,s9]/\D'.length=D.length+ks.length/\∀d∈D',Zb lg d
 | [],_,D,s7,s8,s9,_,h=>⟨_,rfl,D,s7,s8,s9,rfl,rfl,h⟩
 |k::ks,hk,D,s7,s8,s9,hl,h=>by
  obtain⟨d,Ir,Iu,e,hd⟩:=Z2x ns (hk k List.mem_cons_self) hlg hl0 hL (.sh (.int n)) (.sh (.int v)) s8 s9 D (by simp at hl;omega)
  obtain⟨ρ',q1,D',a,b,c,q2,q3,q4⟩:=Z0D ns (n:=n) hlg hl0 hL (v:=v) ks (λx hx=>hk x (List.mem_cons_of_mem _ hx)) (D ++ [d]) (.sh (.int k)) Ir Iu (by simp at hl ⊢;omega) (by
   intro x hx
   rcases List.mem_append.mp hx with hx|hx
   ·exact h x hx
   ·rw[List.mem_singleton.mp hx];exact hd)
  refine⟨ρ',?_,D',a,b,c,q2,by simp at q3 ⊢;omega,q4⟩
  rw[List.map_cons,forL]
  have hg:gN 7 (PV.int (k:Int)) [.sh (.lst (ns.map .int)),.sh (.int 4),.sh (.int n),.sh (.int lg),.ow (L.map .str),.sh (.int v),.ow (D.map aD),s7,s8,s9]=some [.sh (.lst (ns.map .int)),.sh (.int 4),.sh (.int n),.sh (.int lg),.ow (L.map .str),.sh (.int v),.ow (D.map aD),.sh (.int k),s8,s9]:=rfl
  rw[hg]
  dsimp only
  rw[e]
  exact q1
def Z3h(ns:List Int){n lg:Nat}(hn:n<=12)(hlg:lg<=100)(hl0:0<lg):∃D:List Dy,oE [.sh (.lst (ns.map .int)),.sh (.int 4),.sh (.int n),.sh (.int lg)]=.ret (.ow (D.map aD))/\D.length=n/\∀d∈D,Zb lg d:=by
 have h6:Ŋ [.sh (.lst (ns.map .int)),.sh (.int 4)]=.ret (.sh (.int (ns.getD 4 0))):=ZB ns 4
 obtain⟨v,hv⟩:∃v,ns.getD 4 0=v:=⟨_,rfl⟩
 rw[hv] at h6
 obtain⟨L,e1,hL⟩:=Z2w (v % 12) (by omega) (by omega) [Str.ofString "ab",Str.ofString "a",Str.ofString "abc",Str.ofString "b",Str.ofString "ba",Str.ofString "z",Str.ofString "zz",Str.ofString "zzz",Str.ofString "abcdefgh",Str.ofString "abcdefgi",Str.ofString "aa",Str.ofString "bb"] rfl
 obtain⟨ρ',q1,D,s7,s8,s9,rfl,q2,q3⟩:=Z0D ns (n:=n) hlg hl0 hL (v:=v % 12) (List.range n) (λk hk=>by have:=List.mem_range.mp hk;omega) [] .no .no .no (by simp;omega) (by simp)
 have rr:=Zs (n:=n) (by omega)
 refine⟨D,?_,by simpa using q2,q3⟩
 generalize ns.map PV.int=NS at *
 simp only[List.map_cons,List.map_nil] at e1
 simp only[List.map_nil] at q1
 generalize D.map aD=DS at *
 generalize L.map PV.str=LS at *
 simp[oE,Lr,List.replicate,Pq,h6,e1,rr,q1,-Zv]
def Z2y(c:Int):∃w h:Nat,fJ [.sh (.int c),.sh (.int 9)]=.ret (.sh (.tup [.int w,.int h]))/\1<=w/\w<=20/\1<=h/\h<=20/\w*h<=20:=by
 by_cases h0:c / 7 % 16=11
 ·have hd:c % 2=0\/c % 2=1:=by omega
  rcases hd with hd|hd
  ·exact⟨1,20,by simp[fJ,iQ,List.replicate,h0,hd],by omega,by omega,by omega,by omega,by omega⟩
  ·exact⟨20,1,by simp[fJ,iQ,List.replicate,h0,hd],by omega,by omega,by omega,by omega,by omega⟩
 ·have hd:c % 5=0\/c % 5=1\/c % 5=2\/c % 5=3\/c % 5=4:=by omega
  rcases hd with hd|hd|hd|hd|hd
  ·obtain⟨h,hh⟩:∃h:Nat,1+c / 5 % 4=(h:Int):=⟨(1+c / 5 % 4).toNat,by omega⟩
   exact⟨1,h,by simp[fJ,iQ,List.replicate,h0,hd,hh],by omega,by omega,by omega,by omega,by omega⟩
  ·obtain⟨h,hh⟩:∃h:Nat,1+c / 5 % 4=(h:Int):=⟨(1+c / 5 % 4).toNat,by omega⟩
   exact⟨2,h,by simp[fJ,iQ,List.replicate,h0,hd,hh],by omega,by omega,by omega,by omega,by omega⟩
  ·obtain⟨h,hh⟩:∃h:Nat,1+c / 5 % 3=(h:Int):=⟨(1+c / 5 % 3).toNat,by omega⟩
   exact⟨3,h,by simp[fJ,iQ,List.replicate,h0,hd,hh],by omega,by omega,by omega,by omega,by omega⟩
  ·obtain⟨h,hh⟩:∃h:Nat,1+c / 5 % 2=(h:Int):=⟨(1+c / 5 % 2).toNat,by omega⟩
   exact⟨4,h,by simp[fJ,iQ,List.replicate,h0,hd,hh],by omega,by omega,by omega,by omega,by omega⟩
  ·exact⟨5,1,by simp[fJ,iQ,List.replicate,h0,hd],by omega,by omega,by omega,by omega,by omega⟩
def Z0Z:Option Hu.Ln->PV
 |some l=>dj l
 |none=>.non
def Z1v{S:List Hu.Pt}{sl:P.Slot}(hs:Sl sl (S.map pt))(hS:∀p∈S,Sm p)(h0:S≠[])(hl:S.length<=1000)(p:Hu.Pt):Ah [sl,.sh (pt p)]=.ret (.sh (Z0Z (Hu.ZG S p))):=by
 have h1:=Z0O hs hS h0 hl
 have e:(Hu.Zn S).findSome? (λl=>if Hu.hd l p=true then none else some l)=Hu.ZG S p:=by
  unfold Hu.ZG
  generalize Hu.Zn S=L
  induction L with
  |nil=>rfl
  |cons l L ih=>
   rw[List.findSome?_cons,List.find?_cons]
   cases q:Hu.hd l p with
   |true=>simpa using ih
   |false=>simp
 rcases bM (g:=gN 2) (mb:=xT) dj (λl=>if Hu.hd l p=true then none else some l) (λl=>.sh (dj l)) (λρ=>∃s2,ρ=[sl,.sh (pt p),s2]) (Hu.Zn S) (by
  rintro l hm ρ ⟨s2,rfl⟩
  refine⟨[sl,.sh (pt p),.sh (dj l)],by simp,?_⟩
  have hh:=Z0N (Z1S hm hS) p
  cases q:Hu.hd l p with
  |true=>
   rw[q] at hh
   exact .inr ⟨[sl,.sh (pt p),.sh (dj l)],by simp,by simp[xT,hh],_,rfl⟩
  |false=>
   rw[q] at hh
   exact .inl ⟨l,[sl,.sh (pt p),.sh (dj l)],by simp,by simp[xT,hh]⟩) [sl,.sh (pt p),.no] ⟨_,rfl⟩ with⟨l,ρ',q1,q2⟩|⟨ρ',q1,q2,_⟩
 ·rw[e] at q1
  rw[q1]
  simp[Ah,Di,List.replicate,hs.lend,h1,q2,Z0Z]
 ·rw[e] at q1
  rw[q1]
  simp[Ah,Di,List.replicate,hs.lend,h1,q2,Z0Z]
def tU(q:Nat×Nat):PV:=.tup [.int q.1,.int q.2]
def Bo(q:Nat×Nat×Nat):PV:=.tup [.int q.1,.int q.2.1,.int q.2.2]
def Z1Y(j:Nat)(hj:j<=1000)(acc:List PV)(s0:P.Slot)(ha:acc.length+j<=16777216):rH [s0,.ow acc,.sh (.int j)]=.ok .nx [s0,.ow (acc++((List.range j).map λi=>(i,j)).map tU),.sh (.int j)]:=by
 have c1:Ľ (gN 1) İ (ň (ă (Ę 1) (ă (Ę 0) ĕ))) ((List.range j).map λ(i:Nat)=>PV.int (i:Int)) [.sh (.int j),.no] []=some (((List.range j).map λi=>(i,j)).map tU):=by
  have:=ĩ (g:=gN 1) (mt:=İ) (me:=ň (ă (Ę 1) (ă (Ę 0) ĕ))) (λ(i:Nat)=>PV.int (i:Int)) (λi=>tU (i,j)) (λρ=>∃s,ρ=[.sh (.int j),s]) (List.range j) [.sh (.int j),.no] [] ⟨_,rfl⟩ (by simp;omega) (by
   rintro x hx ρ ⟨s,rfl⟩
   exact⟨[.sh (.int j),.sh (.int x)],[.sh (.int j),.sh (.int x)],[.sh (.int j),.sh (.int x)],by simp,by simp,by simp[tU],_,rfl⟩)
  rw[this,List.map_map]
  rfl
 have hl:acc.length+(((List.range j).map λi=>(i,j)).map tU).length<=16777216:=by simpa using ha
 generalize ((List.range j).map λi=>(i,j)).map tU=qs at c1 hl
 simp[rH,Zs hj,c1,hl]
def Z0i(k:Nat):Hu.Zd (k+1)=Hu.Zd k++(List.range k).map λi=>(i,k):=by
 unfold Hu.Zd
 rw[List.range_succ,List.flatMap_append]
 simp
theorem ZF:∀n,(Hu.Zd n).length<=n*n
 |0=>by simp[Hu.Zd]
 |n+1=>by
  have:=ZF n
  rw[Z0i,List.length_append,List.length_map,List.length_range,Nat.succ_mul,Nat.mul_succ]
  omega
def ZV(k:Nat):Hu.Zg (k+1)=Hu.Zg k++(Hu.Zd k).map λq=>(q.1,q.2,k):=by
 unfold Hu.Zg
 rw[List.range_succ,List.flatMap_append]
 simp
theorem ZM{g:Tg}{mb:M Fl}(nb:∀ρ ρ',mb ρ≠ .ok .bk ρ'):∀(xs ys:List PV) (ρ ρ1:ŋ),forL g mb xs ρ=.ok .nx ρ1->forL g mb (xs++ys) ρ=forL g mb ys ρ1
 | [],ys,ρ,ρ1,h=>by
   have e:Res.ok Fl.nx ρ=.ok .nx ρ1:=h
   cases e
   rfl
 |x::xs,ys,ρ,ρ1,h=>by
  rw[List.cons_append,forL]
  rw[forL] at h
  cases e:g x ρ with
  |none=>rw[e] at h;cases h
  |some ρ2=>
   rw[e] at h
   dsimp only at h ⊢
   cases e2:mb ρ2 with
   |bad=>rw[e2] at h;cases h
   |exc x ρ3=>rw[e2] at h;cases h
   |ok f ρ3=>
    rw[e2] at h
    cases f with
    |nx=>exact ZM nb xs ys ρ3 ρ1 h
    |ct=>exact ZM nb xs ys ρ3 ρ1 h
    |bk=>exact absurd e2 (nb ρ2 ρ3)
    |rt r=>cases h
def Z10{g:Tg}{mb:M Fl}{p:PV}{ρ ρ1 ρ2:ŋ}(h1:g p ρ=some ρ1)(h2:mb ρ1=.ok .nx ρ2):forL g mb [p] ρ=.ok .nx ρ2:=by
 rw[forL,h1]
 dsimp only
 rw[h2]
 rfl
def Z1Z{i:Nat}{mo:M RV}{ρ ρ':ŋ}:CJ i mo ρ≠ .ok .bk ρ':=by
 unfold CJ
 intro h
 split at h
 ·cases e:mo ρ with
  |bad=>rw[e] at h;cases h
  |exc x ρ1=>rw[e] at h;cases h
  |ok r ρ1=>
   rw[e] at h
   simp only[Res.aV] at h
   split at h
   ·split at h<;>cases h
   ·cases h
 ·cases h
def Z11(n:Nat)(hn:n<=100):Ai [.sh (.int n)]=.ret (.ow ((Hu.Zd n).map tU)):=by
 have key:∀k,k<=n->∃s2,forL (gN 2) rH ((List.range k).map λ(i:Nat)=>PV.int (i:Int)) [.sh (.int n),.ow [],.no]=.ok .nx [.sh (.int n),.ow ((Hu.Zd k).map tU),s2]:=by
  intro k
  induction k with
  |zero=>intro _;exact⟨.no,rfl⟩
  |succ k ih=>
   intro hk
   obtain⟨s2,e⟩:=ih (by omega)
   refine⟨.sh (.int k),?_⟩
   rw[List.range_succ,List.map_append,ZM (mb:=rH) (λ_ _=>Z1Z) _ _ _ _ e,Z0i,List.map_append]
   have hlen:=ZF k
   have hm:k*k<=100*100:=Nat.mul_le_mul (by omega) (by omega)
   exact Z10 rfl (Z1Y k (by omega) ((Hu.Zd k).map tU) (.sh (.int n)) (by rw[List.length_map];omega))
 obtain⟨s2,e⟩:=key n (Nat.le_refl n)
 have hr:=Zs (show n<=1000 by omega)
 simp[Ai,Mj,List.replicate,hr,e]
def Z1a(k:Nat)(hk:k<=100)(acc:List PV)(s0:P.Slot)(ha:acc.length<=10000000):rJ [s0,.ow acc,.sh (.int k)]=.ok .nx [s0,.ow (acc++((Hu.Zd k).map λq=>(q.1,q.2,k)).map Bo),.sh (.int k)]:=by
 have hlen:=ZF k
 have hm:k*k<=100*100:=Nat.mul_le_mul (by omega) (by omega)
 have c1:Ľ (gN 1) İ (ň (ă (Ą Ĕ (Ā 1) (mC (.int 0))) (ă (Ą Ĕ (Ā 1) (mC (.int 1))) (ă (Ę 0) ĕ)))) ((Hu.Zd k).map tU) [.sh (.int k),.no] []=some (((Hu.Zd k).map λq=>(q.1,q.2,k)).map Bo):=by
  have:=ĩ (g:=gN 1) (mt:=İ) (me:=ň (ă (Ą Ĕ (Ā 1) (mC (.int 0))) (ă (Ą Ĕ (Ā 1) (mC (.int 1))) (ă (Ę 0) ĕ)))) tU (λq=>Bo (q.1,q.2,k)) (λρ=>∃s,ρ=[.sh (.int k),s]) (Hu.Zd k) [.sh (.int k),.no] [] ⟨_,rfl⟩ (by simp;omega) (by
   rintro x hx ρ ⟨s,rfl⟩
   exact⟨[.sh (.int k),.sh (tU x)],[.sh (.int k),.sh (tU x)],[.sh (.int k),.sh (tU x)],by simp,by simp,by simp[tU,Bo],_,rfl⟩)
  rw[this,List.map_map]
  rfl
 have hl:acc.length+(((Hu.Zd k).map λq=>(q.1,q.2,k)).map Bo).length<=16777216:=by simp;omega
 have hp:=Z11 k hk
 generalize ((Hu.Zd k).map λq=>(q.1,q.2,k)).map Bo=qs at c1 hl
 simp[rJ,hp,c1,hl]
theorem Z09:∀n,n<=100->(Hu.Zg n).length<=n*10000
 |0,_=>by simp[Hu.Zg]
 |n+1,h=>by
  have:=Z09 n (by omega)
  have h2:=ZF n
  have hm:n*n<=100*100:=Nat.mul_le_mul (by omega) (by omega)
  rw[ZV,List.length_append,List.length_map]
  omega
def Z1w(n:Nat)(hn:n<=100):GD [.sh (.int n)]=.ret (.ow ((Hu.Zg n).map Bo)):=by
 have key:∀k,k<=n->∃s2,forL (gN 2) rJ ((List.range k).map λ(i:Nat)=>PV.int (i:Int)) [.sh (.int n),.ow [],.no]=.ok .nx [.sh (.int n),.ow ((Hu.Zg k).map Bo),s2]:=by
  intro k
  induction k with
  |zero=>intro _;exact⟨.no,rfl⟩
  |succ k ih=>
   intro hk
   obtain⟨s2,e⟩:=ih (by omega)
   refine⟨.sh (.int k),?_⟩
   rw[List.range_succ,List.map_append,ZM (mb:=rJ) (λ_ _=>Z1Z) _ _ _ _ e,ZV,List.map_append]
   have hlen:=Z09 k (by omega)
   exact Z10 rfl (Z1a k (by omega) ((Hu.Zg k).map Bo) (.sh (.int n)) (by rw[List.length_map];omega))
 obtain⟨s2,e⟩:=key n (Nat.le_refl n)
 have hr:=Zs (show n<=1000 by omega)
 simp[GD,Ml,List.replicate,hr,e]
def W(x:Int):Prop:=-100000000000000000000000000000000000000000000000000<x/\x<100000000000000000000000000000000000000000000000000
theorem W.bits{x:Int}(h:W x):bits x<=200:=lH (n:=200) (by have:=h.1;omega) (by have:=h.2;omega)
def dif{a b:Int}(h1: -100000000000000000<=a)(h2:a<=100000000000000000)(h3: -100000000000000000<=b)(h4:b<=100000000000000000): -200000000000000000<=a-b/\a-b<=200000000000000000:=by omega
def Z0u{a b c d:Int}(h1: -c<=a)(h2:a<=c)(h3: -d<=b)(h4:b<=d)(hc:0<=c)(hd:0<=d): -(c*d)<=a*b/\a*b<=c*d:=by
 have e1:(a*b).natAbs=a.natAbs*b.natAbs:=Int.natAbs_mul a b
 have e2:a.natAbs*b.natAbs<=c.natAbs*d.natAbs:=Nat.mul_le_mul (by omega) (by omega)
 have e3:(c*d).natAbs=c.natAbs*d.natAbs:=Int.natAbs_mul c d
 have e4:0<=c*d:=Int.mul_nonneg hc hd
 omega
def ZW{a b c:Hu.Pt}(ha:Sm a)(hb:Sm b)(hc:Sm c):vA [.sh (pt a),.sh (pt b),.sh (pt c)]=.ret (.sh (.int (Hu.tn a b c))):=by
 obtain⟨a1,a2,a3,a4⟩:=ha
 obtain⟨b1,b2,b3,b4⟩:=hb
 obtain⟨c1,c2,c3,c4⟩:=hc
 have m1:ō (b.1-a.1) (c.2-a.2)=true:=bh (by omega) (by omega)
 have m2:ō (b.2-a.2) (c.1-a.1)=true:=bh (by omega) (by omega)
 simp[vA,Mp,List.replicate,pt,Hu.tn,m1,m2]
def Z2z{a b c:Hu.Pt}(ha:Sm a)(hb:Sm b)(hc:Sm c): -80000000000000000000000000000000000<=Hu.tn a b c/\Hu.tn a b c<=80000000000000000000000000000000000:=by
 obtain⟨a1,a2,a3,a4⟩:=ha
 obtain⟨b1,b2,b3,b4⟩:=hb
 obtain⟨c1,c2,c3,c4⟩:=hc
 obtain⟨x1,x2⟩:=dif b1 b2 a1 a2
 obtain⟨y1,y2⟩:=dif c3 c4 a3 a4
 obtain⟨z1,z2⟩:=dif b3 b4 a3 a4
 obtain⟨w1,w2⟩:=dif c1 c2 a1 a2
 obtain⟨p1,p2⟩:=Z0u x1 x2 y1 y2 (by decide) (by decide)
 obtain⟨q1,q2⟩:=Z0u z1 z2 w1 w2 (by decide) (by decide)
 unfold Hu.tn
 omega
def Z2A{a b c p:Hu.Pt}(ha:Sm a)(hb:Sm b)(hc:Sm c)(hp:Sm p):RL [.sh (.lst [pt a,pt b,pt c]),.sh (pt p)]=.ret (.ow ((Hu.xG a b c p).map .int)):=by
 simp[RL,Wh,List.replicate,ZW hp hb hc,ZW ha hp hc,ZW ha hb hp,Hu.xG]
def Z3L{a b p:Hu.Pt}(ha:Sm a)(hb:Sm b)(hp:Sm p):GF [.sh (.lst [pt a,pt b]),.sh (pt p)]=.ret (.ow ((Hu.xH a b p).map .int)):=by
 obtain⟨a1,a2,a3,a4⟩:=ha
 obtain⟨b1,b2,b3,b4⟩:=hb
 obtain⟨c1,c2,c3,c4⟩:=hp
 have m1:∀x,ō (b.1-a.1) x=true:=λx=>bh (by omega) (by omega)
 have m2:∀x,ō (b.2-a.2) x=true:=λx=>bh (by omega) (by omega)
 simp[GF,Mq,List.replicate,pt,Hu.xH,m1,m2]
def Z42{a b c p:Hu.Pt}(ha:Sm a)(hb:Sm b)(hc:Sm c)(hp:Sm p):∀s∈Hu.xG a b c p,-400000000000000000000000000000000000<=s/\s<=400000000000000000000000000000000000:=by
 have h1:=Z2z hp hb hc
 have h2:=Z2z ha hp hc
 have h3:=Z2z ha hb hp
 intro s hs
 simp only[Hu.xG,List.mem_cons,List.not_mem_nil,or_false] at hs
 rcases hs with e|e|e<;>omega
def Z43{a b p:Hu.Pt}(ha:Sm a)(hb:Sm b)(hp:Sm p):∀s∈Hu.xH a b p,-400000000000000000000000000000000000<=s/\s<=400000000000000000000000000000000000:=by
 obtain⟨a1,a2,a3,a4⟩:=ha
 obtain⟨b1,b2,b3,b4⟩:=hb
 obtain⟨c1,c2,c3,c4⟩:=hp
 obtain⟨x1,x2⟩:=dif b1 b2 a1 a2
 obtain⟨z1,z2⟩:=dif b3 b4 a3 a4
 obtain⟨y1,y2⟩:=dif c1 c2 a1 a2
 obtain⟨w1,w2⟩:=dif c3 c4 a3 a4
 obtain⟨p1,p2⟩:=Z0u x1 x2 y1 y2 (by decide) (by decide)
 obtain⟨q1,q2⟩:=Z0u z1 z2 w1 w2 (by decide) (by decide)
 obtain⟨r1,r2⟩:=Z0u x1 x2 x1 x2 (by decide) (by decide)
 obtain⟨t1,t2⟩:=Z0u z1 z2 z1 z2 (by decide) (by decide)
 intro s hs
 simp only[Hu.xH,List.mem_cons,List.not_mem_nil,or_false] at hs
 rcases hs with e|e<;>omega
def ShB(w:List Int):Prop:=w.length<=3/\∀s∈w,-400000000000000000000000000000000000<=s/\s<=400000000000000000000000000000000000
theorem ShB.sum{w:List Int}(h:ShB w): -2000000000000000000000000000000000000<=w.sum/\w.sum<=2000000000000000000000000000000000000:=by
 obtain⟨h1,h2⟩:=h
 match w,h1,h2 with
 | [],_,_=>simp
 | [a],_,h2=>have:=h2 a (by simp);simp;omega
 | [a,b],_,h2=>have:=h2 a (by simp);have:=h2 b (by simp);simp;omega
 | [a,b,c],_,h2=>have:=h2 a (by simp);have:=h2 b (by simp);have:=h2 c (by simp);simp;omega
def Z0e{x:Int}(h1: -2000000000000000000000000000000000000<=x)(h2:x<=2000000000000000000000000000000000000):bits x<=200:=lH (n:=200) (by omega) (by omega)
def Z2X{w:List Int}(h:ShB w){sl:P.Slot}(hs:Sl sl (w.map .int)):vB [sl]=.ret (.sh (.bl (Hu.Zz w))):=by
 obtain⟨s1,s2⟩:=h.sum
 have hb:=Z0e s1 s2
 have c1:Ľ (gN 1) İ (Ą Ks (Ą Ĥ (Ā 1) (Ā 0)) (mC (.int 0))) (w.map .int) [.sh (.int w.sum),.no] []=some ((w.map λs=>decide (0<=s*w.sum)).map .bl):=by
  have:=ĩ (g:=gN 1) (mt:=İ) (me:=Ą Ks (Ą Ĥ (Ā 1) (Ā 0)) (mC (.int 0))) PV.int (λs=>.bl (decide (0<=s*w.sum))) (λρ=>∃s,ρ=[.sh (.int w.sum),s]) w [.sh (.int w.sum),.no] [] ⟨_,rfl⟩ (by have:=h.1;simp;omega) (by
   rintro x hx ρ ⟨s,rfl⟩
   have hx':=h.2 x hx
   have hm:ō x w.sum=true:=ZeL (Nat.le_trans (Z0e (by omega) (by omega)) (by decide)) (Nat.le_trans hb (by decide))
   exact⟨[.sh (.int w.sum),.sh (.int x)],[.sh (.int w.sum),.sh (.int x)],[.sh (.int w.sum),.sh (.int x)],by simp,by simp,by simp[hm],_,rfl⟩)
  rw[this,List.map_map]
  rfl
 have c2:=Z1P (w.map λs=>decide (0<=s*w.sum))
 have c3:(w.map λs=>decide (0<=s*w.sum)).all id=w.all λs=>decide (0<=s*w.sum):=by simp
 rw[c3] at c2
 unfold Hu.Zz
 have hsum:pJ [.lst (w.map .int)]=some (.int w.sum):=by simp
 unfold Sl at hs
 generalize (w.map λs=>decide (0<=s*w.sum)).map PV.bl=bs at c1 c2
 generalize (w.all λs=>decide (0<=s*w.sum))=q at c2
 generalize w.map PV.int=ws at c1 hsum hs
 generalize w.sum=S at c1 hsum
 by_cases h0:S=0
 ·subst h0
  rcases hs with rfl|rfl<;>simp[vB,Dk,List.replicate,-jt,hsum]
 ·rcases hs with rfl|rfl<;>simp[vB,Dk,List.replicate,-jt,hsum,c1,c2,h0]
def Z2Y(x y:Int):RK [.sh (.int x),.sh (.int y)]=.ret (.sh (.int (My.gd x y))):=by
 obtain⟨⟨u,v,r⟩,e1,e2,e3⟩:=Cw (mc:=(aP (Ą aH (Ā 1) (mC (.int 0))))) (mb:=(Ė (ġ 2 (ņ (Ą ı (Ā 0) (Ā 1)))) (Ė (ġ 0 (ņ (Ę 1))) (ġ 1 (ņ (Ę 2))))))
  (fun b:Int×Int×P.Slot=>[.sh (.int b.1),.sh (.int b.2.1),b.2.2]) (fun b=>My.gd b.1 b.2.1=My.gd x y) (fun b=>b.2.1.natAbs) (b:=(x,y,.no)) (by
    rintro ⟨u,v,r⟩ e
    by_cases hv:v=0
    ·left;simp[hv]
    ·right;exact⟨by simp[hv],(v,u.fmod v,.sh (.int (u.fmod v))),by simp[hv],(My.Z30 u v).trans e,My.Z31 u hv⟩) rfl
 have hv:v=0:=by simpa using e3
 subst hv
 have e1':Wf [.sh (.int x),.sh (.int y),.no]=_:=e1
 simp[RK,Wg,List.replicate,e1',<-e2,My.Z32]
def Z3i(t:Int){b:Int}{n:Nat}(h:b≠0)(hb:bits b<=n):bits (My.gd t b)<=n:=by
 refine intBits_le_of_natAbs ?_ hb
 have h1:=My.Z3Y t h
 have h2:=My.Z1K t b
 omega
def rt(t b:Int):Int×Int:=(t.fdiv (My.dv t b),b.fdiv (My.dv t b))
def Z12{t b:Int}(h:b≠0)(hz:bits b<=8000):oH [.sh (.int t),.sh (.int b)]=.ret (.sh (pt (rt t b))):=by
 have g1:=Z3i t h hz
 have g0:=My.Z3v t h
 by_cases hn:b<0
 ·have e:My.dv t b= - My.gd t b:=if_pos hn
  have c:∀i,iI i (- My.gd t b)=true:=λi=>zM (by omega) (intBits_neg_le g1)
  simp[oH,Dj,List.replicate,h,Z2Y,hn,c,e,pt,rt]
 ·have e:My.dv t b=My.gd t b:=if_neg hn
  have c:∀i,iI i (My.gd t b)=true:=λi=>zM (by omega) g1
  simp[oH,Dj,List.replicate,h,Z2Y,hn,c,e,pt,rt]
def ZX{w:List Int}{q:List Nat}{n:Nat}(hw:ShB w)(h0:w.sum≠0)(hl:w.length=q.length)(hq:∀i∈q,i<n)(hn:n<=100){s0 s1:P.Slot}(hs0:Sl s0 (w.map .int))(hs1:s1=.sh (.lst (q.map λ(i:Nat)=>.int (i:Int)))\/s1=.sh (.tup (q.map λ(i:Nat)=>.int (i:Int)))) :
 lO [s0,s1,.sh (.int n)]=.ret (.ow ((Fr.lay (List.replicate n 0) (w.zip q)).map λs=>pt (rt s w.sum))):=by
 obtain⟨b1,b2⟩:=hw.sum
 have hb:=Nat.le_trans (Z0e b1 b2) (show 200<=8000 by decide)
 have hsum:pJ [.lst (w.map .int)]=some (.int w.sum):=by simp
 have c1:Ľ (gN 1) İ (ċ (Č oH (Ċ (mC (.int 0)) (Ă 0 ĉ)))) ((List.range n).map λ(i:Nat)=>PV.int (i:Int)) [.sh (.int w.sum),.no] []=some ((List.replicate n (0:Int)).map λs=>pt (rt s w.sum)):=by
  have:=ĩ (g:=gN 1) (mt:=İ) (me:=ċ (Č oH (Ċ (mC (.int 0)) (Ă 0 ĉ)))) (λ(i:Nat)=>PV.int (i:Int)) (λ_=>pt (rt 0 w.sum)) (λρ=>∃s,ρ=[.sh (.int w.sum),s]) (List.range n) [.sh (.int w.sum),.no] [] ⟨_,rfl⟩ (by simp;omega) (by
   rintro x hx ρ ⟨s,rfl⟩
   exact⟨[.sh (.int w.sum),.sh (.int x)],[.sh (.int w.sum),.sh (.int x)],[.sh (.int w.sum),.sh (.int x)],by simp,by simp,by simp[Z12 h0 hb],_,rfl⟩)
  rw[this]
  simp[List.map_const']
 have hz:jx (w.map .int) (q.map λ(i:Nat)=>PV.int (i:Int))=(w.zip q).map λa=>.tup [.int a.1,.int (a.2:Int)]:=by
  clear hw h0 hl hq hs0 hs1 hsum c1 hb b1 b2
  induction w generalizing q with
  |nil=>simp[jx]
  |cons x w ih=>
   cases q with
   |nil=>simp[jx]
   |cons i q=>simp[jx,ih]
 have loop:∀s0' s1',∃ρ',forL (gT 2 (Đ (gN 5) (Đ (gN 6) Ĳ))) xU ((w.zip q).map λa=>.tup [.int a.1,.int (a.2:Int)]) [s0',s1',.sh (.int n),.sh (.int w.sum),.ow ((List.replicate n (0:Int)).map λs=>pt (rt s w.sum)),.no,.no]=.ok .nx ρ'/\ρ'[4]?=some (.ow ((Fr.lay (List.replicate n 0) (w.zip q)).map λs=>pt (rt s w.sum))):=by
  intro s0' s1'
  obtain⟨ρ',e,s5,s6,hρ,_⟩:=bL (g:=gT 2 (Đ (gN 5) (Đ (gN 6) Ĳ))) (mb:=xU) (λa:Int×Nat=>.tup [.int a.1,.int (a.2:Int)]) (λacc a=>acc.set a.2 a.1)
   (fun acc ρ=>∃s5 s6,ρ=[s0',s1',.sh (.int n),.sh (.int w.sum),.ow (acc.map fun s=>pt (rt s w.sum)),s5,s6]∧acc.length=n) (w.zip q) (by
     rintro ⟨x,i⟩ hx acc ρ ⟨s5,s6,rfl,hlen⟩
     have hi:i<n:=hq i (List.of_mem_zip hx).2
     have hix:BZ acc.length (i:Int)=some i:=by
      unfold BZ
      rw[if_pos (by omega),if_pos (by omega)]
      simp
     refine⟨[s0',s1',.sh (.int n),.sh (.int w.sum),.ow (acc.map λs=>pt (rt s w.sum)),.sh (.int x),.sh (.int i)],[s0',s1',.sh (.int n),.sh (.int w.sum),.ow ((acc.set i x).map λs=>pt (rt s w.sum)),.sh (.int x),.sh (.int i)],by simp,?_,_,_,rfl,by simpa using hlen⟩
     simp[xU,Z12 h0 hb,hix,List.map_set]) (List.replicate n 0) [s0',s1',.sh (.int n),.sh (.int w.sum),.ow ((List.replicate n (0:Int)).map λs=>pt (rt s w.sum)),.no,.no] ⟨_,_,rfl,by simp⟩
  refine⟨ρ',e,?_⟩
  subst hρ
  rfl
 have hr:=Zs (show n<=1000 by omega)
 generalize (List.replicate n (0:Int)).map (λs=>pt (rt s w.sum))=zs at c1 loop
 generalize (Fr.lay (List.replicate n 0) (w.zip q)).map (λs=>pt (rt s w.sum))=rs at loop
 generalize ((w.zip q).map λa=>PV.tup [.int a.1,.int (a.2:Int)])=ls at hz loop
 generalize w.map PV.int=ws at hs0 hsum hz
 generalize w.sum=S at hsum c1 loop
 generalize (q.map λ(i:Nat)=>PV.int (i:Int))=qs at hz hs1
 rcases hs0 with rfl|rfl<;>rcases hs1 with rfl|rfl
 ·obtain⟨ρ',e,e4⟩:=loop (.sh (.lst ws)) (.sh (.lst qs))
  simp[lO,rK,List.replicate,-jt,hsum,hr,c1,hz,wX,e,e4]
 ·obtain⟨ρ',e,e4⟩:=loop (.sh (.lst ws)) (.sh (.tup qs))
  simp[lO,rK,List.replicate,-jt,hsum,hr,c1,hz,wX,e,e4]
 ·obtain⟨ρ',e,e4⟩:=loop (.bw ws) (.sh (.lst qs))
  simp[lO,rK,List.replicate,-jt,hsum,hr,c1,hz,wX,e,e4]
 ·obtain⟨ρ',e,e4⟩:=loop (.bw ws) (.sh (.tup qs))
  simp[lO,rK,List.replicate,-jt,hsum,hr,c1,hz,wX,e,e4]
def wts(S:List Hu.Pt)(r:List Int×List Nat):List PV:=(Fr.lay (List.replicate S.length 0) (r.1.zip r.2)).map λs=>pt (rt s r.1.sum)
def iw{S:List Hu.Pt}{i:Nat}(h:i<S.length):(S.map pt)[i]?=some (pt (Hu.at_ S i)):=by
 unfold Hu.at_
 rw[List.getElem?_map,List.getD_eq_getElem?_getD,List.getElem?_eq_getElem h]
 rfl
def Z44{S:List Hu.Pt}{sl:P.Slot}(hs:Sl sl (S.map pt)){i j k:Nat}(hi:i<S.length)(hj:j<S.length)(hk:k<S.length)(s3:P.Slot):Ľ (gN 1) İ (Ą Ĕ (Ā 0) (Ā 1)) [.int (i:Int),.int (j:Int),.int (k:Int)] [sl,s3] []=some [pt (Hu.at_ S i),pt (Hu.at_ S j),pt (Hu.at_ S k)]:=by
 rcases hs with rfl|rfl<;>simp[Ľ,iw hi,iw hj,iw hk,-List.getElem?_map]
def Z45{S:List Hu.Pt}{sl:P.Slot}(hs:Sl sl (S.map pt)){i j:Nat}(hi:i<S.length)(hj:j<S.length)(s3:P.Slot):Ľ (gN 1) İ (Ą Ĕ (Ā 0) (Ā 1)) [.int (i:Int),.int (j:Int)] [sl,s3] []=some [pt (Hu.at_ S i),pt (Hu.at_ S j)]:=by
 rcases hs with rfl|rfl<;>simp[Ľ,iw hi,iw hj,-List.getElem?_map]
def Sl.cap{s:P.Slot}{ps:List PV}(h:Sl s ps):bV s=s:=by rcases h with rfl|rfl<;>rfl
def Z3M{a b c p:Hu.Pt}(ha:Sm a)(hb:Sm b)(hc:Sm c)(hp:Sm p):ShB (Hu.xG a b c p):=⟨by simp[Hu.xG],Z42 ha hb hc hp⟩
def Z3N{a b p:Hu.Pt}(ha:Sm a)(hb:Sm b)(hp:Sm p):ShB (Hu.xH a b p):=⟨by simp[Hu.xH],Z43 ha hb hp⟩
def Z1x{S:List Hu.Pt}{sl:P.Slot}(hs:Sl sl (S.map pt))(hS:∀p∈S,Sm p)(h0:S≠[])(hl:S.length<=100){p:Hu.Pt}(hp:Sm p):vC [sl,.sh (pt p)]=.ret (.ow (wts S (Hu.Z1m S p))):=by
 have hat:∀i,i<S.length->Sm (Hu.at_ S i):=λi h=>hS _ (Hu.Z3w h)
 have ht:=Z1w S.length hl
 have hpr:=Z11 S.length hl
 have hlen:aY [.lst (S.map pt)]=some (.int S.length):=by simp
 have F3:=bM (g:=gN 3) (mb:=xW) Bo (λq=>if Hu.Zz (Hu.xG (Hu.at_ S q.1) (Hu.at_ S q.2.1) (Hu.at_ S q.2.2) p)=true then some (Hu.xG (Hu.at_ S q.1) (Hu.at_ S q.2.1) (Hu.at_ S q.2.2) p,[q.1,q.2.1,q.2.2]) else none) (λr=>.ow (wts S r)) (λρ=>∃s3 s4,ρ=[sl,.sh (pt p),.sh (.int S.length),s3,s4]) (Hu.Zg S.length) (by
  rintro ⟨i,j,k⟩ hm ρ ⟨s3,s4,rfl⟩
  obtain⟨h1,h2,h3⟩:=Hu.Z19.mp hm
  have hi:i<S.length:=by omega
  have hj:j<S.length:=by omega
  have hb:=Z3M (hat i hi) (hat j hj) (hat k h3) hp
  have e1:=Z2A (hat i hi) (hat j hj) (hat k h3) hp
  have e2:=Z2X hb (sl:=.bw ((Hu.xG (Hu.at_ S i) (Hu.at_ S j) (Hu.at_ S k) p).map .int)) (.inr rfl)
  have e0:=Z44 hs hi hj h3 .no
  refine⟨[sl,.sh (pt p),.sh (.int S.length),.sh (Bo (i,j,k)),s4],rfl,?_⟩
  cases q:Hu.Zz (Hu.xG (Hu.at_ S i) (Hu.at_ S j) (Hu.at_ S k) p) with
  |true=>
   left
   have hg:=Hu.Z0K.mp q
   have e3:=ZX (q:=[i,j,k]) (n:=S.length) hb hg.1 rfl (by simp;omega) hl (s0:=.bw ((Hu.xG (Hu.at_ S i) (Hu.at_ S j) (Hu.at_ S k) p).map .int)) (s1:=.sh (.tup [.int i,.int j,.int k])) (.inr rfl) (.inr rfl)
   rw[q] at e2
   refine⟨_,[sl,.sh (pt p),.sh (.int S.length),.sh (Bo (i,j,k)),.ow ((Hu.xG (Hu.at_ S i) (Hu.at_ S j) (Hu.at_ S k) p).map .int)],rfl,?_⟩
   generalize Hu.xG (Hu.at_ S i) (Hu.at_ S j) (Hu.at_ S k) p=w at *
   generalize hws:w.map PV.int=ws at *
   simp[xW,Bo,hs.cap,e0,e1,e2,e3,wts]
  |false=>
   right
   rw[q] at e2
   refine⟨[sl,.sh (pt p),.sh (.int S.length),.sh (Bo (i,j,k)),.ow ((Hu.xG (Hu.at_ S i) (Hu.at_ S j) (Hu.at_ S k) p).map .int)],rfl,?_,_,_,rfl⟩
   generalize Hu.xG (Hu.at_ S i) (Hu.at_ S j) (Hu.at_ S k) p=w at *
   generalize hws:w.map PV.int=ws at *
   simp[xW,Bo,hs.cap,e0,e1,e2])
 have F2:=bM (g:=gN 3) (mb:=xV) tU (λq=>if Hu.Zz (Hu.xH (Hu.at_ S q.1) (Hu.at_ S q.2) p)=true then some (Hu.xH (Hu.at_ S q.1) (Hu.at_ S q.2) p,[q.1,q.2]) else none) (λr=>.ow (wts S r)) (λρ=>∃s3 s4,ρ=[sl,.sh (pt p),.sh (.int S.length),s3,s4]) (Hu.Zd S.length) (by
  rintro ⟨i,j⟩ hm ρ ⟨s3,s4,rfl⟩
  obtain⟨h1,h2⟩:=Hu.ZQ.mp hm
  have hi:i<S.length:=by omega
  have hb:=Z3N (hat i hi) (hat j h2) hp
  have e1:=Z3L (hat i hi) (hat j h2) hp
  have e2:=Z2X hb (sl:=.bw ((Hu.xH (Hu.at_ S i) (Hu.at_ S j) p).map .int)) (.inr rfl)
  have e0:=Z45 hs hi h2 .no
  refine⟨[sl,.sh (pt p),.sh (.int S.length),.sh (tU (i,j)),s4],rfl,?_⟩
  cases q:Hu.Zz (Hu.xH (Hu.at_ S i) (Hu.at_ S j) p) with
  |true=>
   left
   have hg:=Hu.Z0K.mp q
   have e3:=ZX (q:=[i,j]) (n:=S.length) hb hg.1 rfl (by simp;omega) hl (s0:=.bw ((Hu.xH (Hu.at_ S i) (Hu.at_ S j) p).map .int)) (s1:=.sh (.tup [.int i,.int j])) (.inr rfl) (.inr rfl)
   rw[q] at e2
   refine⟨_,[sl,.sh (pt p),.sh (.int S.length),.sh (tU (i,j)),.ow ((Hu.xH (Hu.at_ S i) (Hu.at_ S j) p).map .int)],rfl,?_⟩
   generalize Hu.xH (Hu.at_ S i) (Hu.at_ S j) p=w at *
   generalize hws:w.map PV.int=ws at *
   simp[xV,tU,hs.cap,e0,e1,e2,e3,wts]
  |false=>
   right
   rw[q] at e2
   refine⟨[sl,.sh (pt p),.sh (.int S.length),.sh (tU (i,j)),.ow ((Hu.xH (Hu.at_ S i) (Hu.at_ S j) p).map .int)],rfl,?_,_,_,rfl⟩
   generalize Hu.xH (Hu.at_ S i) (Hu.at_ S j) p=w at *
   generalize hws:w.map PV.int=ws at *
   simp[xV,tU,hs.cap,e0,e1,e2])
 have e3:(Hu.Zg S.length).findSome? (λq=>if Hu.Zz (Hu.xG (Hu.at_ S q.1) (Hu.at_ S q.2.1) (Hu.at_ S q.2.2) p)=true then some (Hu.xG (Hu.at_ S q.1) (Hu.at_ S q.2.1) (Hu.at_ S q.2.2) p,[q.1,q.2.1,q.2.2]) else none)=Hu.Z3x S p:=rfl
 have e2:(Hu.Zd S.length).findSome? (λq=>if Hu.Zz (Hu.xH (Hu.at_ S q.1) (Hu.at_ S q.2) p)=true then some (Hu.xH (Hu.at_ S q.1) (Hu.at_ S q.2) p,[q.1,q.2]) else none)=Hu.Z3y S p:=rfl
 rw[e3] at F3
 rw[e2] at F2
 have e1:=ZX (w:=[1]) (q:=[0]) (n:=S.length) ⟨by simp,by simp⟩ (by simp) rfl (by simpa using List.length_pos_iff.mpr h0) hl (s0:=.sh (.lst [.int 1])) (s1:=.sh (.lst [.int 0])) (.inl rfl) (.inl rfl)
 have hw1:(Fr.lay (List.replicate S.length 0) ([1].zip [0])).map (λs=>pt (rt s [1].sum))=wts S ([1],[0]):=rfl
 rw[hw1] at e1
 generalize hn:(S.length:Int)=N at *
 generalize (Hu.Zg S.length).map Bo=ts at *
 generalize (Hu.Zd S.length).map tU=prs at *
 unfold Hu.Z1m
 rcases F3 [sl,.sh (pt p),.sh (.int N),.no,.no] ⟨_,_,rfl⟩ with⟨r,ρ',q1,q2⟩|⟨ρ',q1,q2,s3,s4,hρ⟩
 ·rw[q1]
  rcases hs with rfl|rfl<;>simp[vC,xX,List.replicate,-wN,hlen,ht,q2]
 ·subst hρ
  rw[q1]
  rcases F2 [sl,.sh (pt p),.sh (.int N),s3,s4] ⟨_,_,rfl⟩ with⟨r,ρ',q3,q4⟩|⟨ρ',q3,q4,s3',Px,hρ⟩
  ·rw[q3]
   rcases hs with rfl|rfl<;>simp[vC,xX,List.replicate,-wN,hlen,ht,hpr,q2,q4]
  ·subst hρ
   rw[q3]
   rcases hs with rfl|rfl<;>simp[vC,xX,List.replicate,-wN,hlen,ht,hpr,q2,q4,e1]
def Z0j(S:List Hu.Pt)(p:Hu.Pt):PV:=match Hu.ZG S p with
 |some l=>.tup [.str "out",dj l]
 |none=>.tup [.str "in",.lst (wts S (Hu.Z1m S p))]
def Z3j{S:List Hu.Pt}{sl:P.Slot}(hs:Sl sl (S.map pt))(hS:∀p∈S,Sm p)(h0:S≠[])(hl:S.length<=100){p:Hu.Pt}(hp:Sm p):Aj [sl,.sh (pt p)]=.ret (.sh (Z0j S p)):=by
 have h1:=Z1v hs hS h0 (by omega) p
 have h2:=Z1x hs hS h0 hl hp
 unfold Z0j
 cases e:Hu.ZG S p with
 |some l=>
  rw[e] at h1
  simp[Aj,Dl,List.replicate,hs.lend,h1,Z0Z,dj,nA]
 |none=>
  rw[e] at h1
  simp[Aj,Dl,List.replicate,hs.lend,h1,Z0Z,h2,nA]
def Z2B{r:P3}(hr:RB r)(s:Hu.Pt):GJ [.sh (pt s),.sh (c3 r)]=.ret (.sh (pt (cst r (tQ s)))):=by
 have e:=Z1e hr (tQ s)
 have e':PV.tup [.int (2*s.1),.int (2*s.2),.int 0]=c3 (tQ s):=rfl
 generalize hR:c3 r=R at *
 unfold pt
 simp[GJ,Mz,List.replicate,e',e]
 rfl
def Z1y{w:Str}{xs:List Int}(hg:Z3 w xs=true){r:P3}(hr:RB r){s:Hu.Pt}(hs:PB (tQ s)):GK [.sh (Z4 (Za w) w xs),.sh (pt s),.sh (c3 r)]=.ret (.sh (Z0j ((Zi w xs).map (cst r)) (cst r (tQ s)))):=by
 obtain⟨g1,g2,g3⟩:=Z0U hg
 have h1:=Z0T hg (by omega) hr
 have h2:=Z2B hr s
 have h3:=Z3j (S:=(Zi w xs).map (cst r)) (sl:=.sh (.lst (((Zi w xs).map (cst r)).map pt))) (.inl rfl) (by
  intro p hp
  obtain⟨q,hq,rfl⟩:=List.mem_map.mp hp
  exact Z0S hr (g3 q hq)) (by simpa using g2) (by simp;omega) (p:=cst r (tQ s)) (Z0S hr hs)
 generalize Z0j ((Zi w xs).map (cst r)) (cst r (tQ s))=V at *
 generalize ((Zi w xs).map (cst r)).map pt=Y at *
 generalize pt (cst r (tQ s))=Z at *
 generalize Z4 (Za w) w xs=v at *
 generalize c3 r=R at *
 generalize pt s=Q at *
 simp[GK,MJ,List.replicate,h1,h2,h3]
def sIn:PyData.strOk (Str.ofString "in")=true:=by decide +kernel
def Z4f:PyData.strOk (Str.ofString "out")=true:=by decide +kernel
def dIO:(Str.ofString "out" =Str.ofString "in")=False:=eq_false (by decide +kernel)
def ZY{w:Str}{xs:List Int}(hg:Z3 w xs=true){r:P3}(hr:RB r){s:Hu.Pt}(hs:PB (tQ s)):jD [.sh (Z4 (Za w) w xs),.sh (pt s),.sh (c3 r)]=.ret (.sh (.bl (R_ w xs s r))):=by
 have h1:=Z1y hg hr hs
 unfold Z0j at h1
 unfold R_
 generalize Z4 (Za w) w xs=v at *
 generalize c3 r=R at *
 generalize pt s=Q at *
 cases e:Hu.ZG ((Zi w xs).map (cst r)) (cst r (tQ s)) with
 |none=>
  rw[e] at h1
  dsimp only at h1
  generalize wts ((Zi w xs).map (cst r)) (Hu.Z1m ((Zi w xs).map (cst r)) (cst r (tQ s)))=Y at *
  simp[jD,Dp,List.replicate,h1,bY sIn sIn]
 |some l=>
  rw[e] at h1
  dsimp only at h1
  generalize dj l=Y at *
  simp[jD,Dp,List.replicate,h1,bY Z4f sIn,dIO]
structure yW(w h:Nat)(T:List Th):Prop where
 w0:0<w
 w1:w<=60
 h1:h<=1000
 wh:w*h<=1000
 tl:T.length<=1000
 tg:∀t∈T,Z3 t.1 t.2=true
def Z3O{w k n:Nat}(hk:k<1000):PB (tQ (kW w k)):=by
 have h1:k % w<=k:=Nat.mod_le k w
 have h2:k / w<=k:=Nat.div_le_self k w
 unfold PB tQ kW
 dsimp only
 generalize k % w=a at *
 generalize k / w=b at *
 omega
def Z20{w h:Nat}{T:List Th}(Y:yW w h T)(D:List Dy){o:Option P3}(ho:Py o){k:Nat}(hk:k<1000):iT [.sh (Z0 w h T D),.sh (g_ o),.sh (pt (kW w k))]=.ret (.sh (.bl (Sg w T o k))):=by
 cases o with
 |none=>
  generalize Z0 w h T D=Yv at *
  simp[iT,xZ,List.replicate,g_,nA,Sg]
 |some r=>
  have ho:RB r/\0<r.2.2:=ho
  have yt:=y_t w h T D
  have e:T.findSome? (λt=>if yV t (kW w k) r=true then some () else none)=if(T.any λt=>yV t (kW w k) r)=true then some () else none:=by
   generalize T=T'
   induction T' with
   |nil=>rfl
   |cons t T' ih=>
    rw[List.findSome?_cons,List.any_cons]
    cases q:yV t (kW w k) r with
    |true=>simp
    |false=>rw[Bool.false_or,<-ih];simp
  have hn:nA (c3 r)=false:=by simp[c3,nA]
  rcases bM (g:=gN 3) (mb:=xY) ů (λt=>if yV t (kW w k) r=true then some () else none) (λ_=>.sh (.bl true)) (λρ=>∃s,ρ=[.sh (Z0 w h T D),.sh (c3 r),.sh (pt (kW w k)),s]) T (by
   rintro t ht ρ ⟨s,rfl⟩
   have es:jD [.sh (ů t),.sh (pt (kW w k)),.sh (c3 r)]=.ret (.sh (.bl (yV t (kW w k) r))):=ZY (Y.tg t ht) ho.1 (Z3O (n:=0) hk)
   refine⟨[.sh (Z0 w h T D),.sh (c3 r),.sh (pt (kW w k)),.sh (ů t)],rfl,?_⟩
   generalize Z0 w h T D=Yv at *
   generalize c3 r=R at *
   generalize ů t=Tv at *
   generalize hP:pt (kW w k)=Pv at *
   cases q:yV t (kW w k) r with
   |true=>
    rw[q] at es
    exact .inl ⟨(),[.sh Yv,.sh R,.sh Pv,.sh Tv],by simp,by simp[xY,es]⟩
   |false=>
    rw[q] at es
    exact .inr ⟨[.sh Yv,.sh R,.sh Pv,.sh Tv],by simp,by simp[xY,es],_,rfl⟩) [.sh (Z0 w h T D),.sh (c3 r),.sh (pt (kW w k)),.no] ⟨_,rfl⟩ with⟨_,ρ',q1,q2⟩|⟨ρ',q1,q2,_⟩
  ·rw[e] at q1
   have hd:Sg w T (some r) k=true:=by
    show(T.any λt=>yV t (kW w k) r)=true
    cases q:T.any (λt=>yV t (kW w k) r) with
    |true=>rfl
    |false=>rw[q] at q1;simp at q1
   rw[hd]
   show iT [_,.sh (c3 r),_]=_
   generalize Z0 w h T D=Yv at *
   generalize c3 r=R at *
   generalize pt (kW w k)=Pv at *
   simp[iT,xZ,List.replicate,hn,yt,q2]
  ·rw[e] at q1
   have hd:Sg w T (some r) k=false:=by
    show(T.any λt=>yV t (kW w k) r)=false
    cases q:T.any (λt=>yV t (kW w k) r) with
    |false=>rfl
    |true=>rw[q] at q1;simp at q1
   rw[hd]
   show iT [_,.sh (c3 r),_]=_
   generalize Z0 w h T D=Yv at *
   generalize c3 r=R at *
   generalize pt (kW w k)=Pv at *
   simp[iT,xZ,List.replicate,hn,yt,q2]
def Z0k{w h:Nat}{T:List Th}{D:List Dy}{i:Nat}(hi:i<D.length):iR [.sh (Z0 w h T D),.sh (.int i)]=.ret (.sh (.lst (D[i].2.2.map g_))):=by
 have yd:=y_d w h T D
 have hx:(D.map aD)[i]?=some (aD D[i]):=by simp[hi]
 generalize Z0 w h T D=Yv at *
 generalize D.map aD=DV at *
 simp[iR,Lz,List.replicate,yd,hx]
 simp[aD]
theorem Z0E(f:Nat->PV):∀(n a:Nat),jC a ((List.range' a n).map f)=(List.range' a n).map λ(k:Nat)=>PV.tup [.int k,f k]
 |0,a=>rfl
 |n+1,a=>by
  rw[List.range'_succ,List.map_cons,List.map_cons]
  show _::jC (a+1) _=_
  rw[Z0E f n (a+1)]
def Z1z(f:Nat->PV)(n:Nat):jC 0 ((List.range n).map f)=(List.range n).map λ(k:Nat)=>PV.tup [.int k,f k]:=by
 rw[List.range_eq_range']
 exact Z0E f n 0
def Zp(t:Th):PV:=.tup [.str t.1,.lst (t.2.map .int)]
def Z21(w h:Nat):fH [.tup [.int w,.int h]]=some (.int ((max w h:Nat):Int)):=by
 show some (PV.int (max (w:Int) h))=_
 congr 2
 omega
theorem Z13{w h:Nat}(hw:1<=w/\w<=20)(hh:1<=h/\h<=20):∀(cs:List Int) (acc:List PV) (s1:P.Slot),acc.length+cs.length<=1000->∃T:List Th,Ľ (gN 1) İ (ċ (Č dI (Ă 1 (Ċ (aM fH (ă (Ā 0) ĕ)) ĉ)))) (cs.map .int) [.sh (.tup [.int w,.int h]),s1] acc=some (acc++T.map Zp)/\T.length=cs.length/\∀t∈T,Z3 t.1 t.2=true
 | [],acc,s1,_=>⟨[],by simp[Ľ],rfl,by simp⟩
 |c::cs,acc,s1,ha=>by
  obtain⟨t,e1,e2⟩:=Z0C c (w:=((max w h:Nat):Int)) (by omega) (by omega)
  obtain⟨T,q1,q2,q3⟩:=Z13 hw hh cs (acc ++ [Zp t]) (.sh (.int c)) (by simp at ha ⊢;omega)
  refine⟨t::T,?_,by simp[q2],?_⟩
  ·have hz:acc.length<16777216:=by simp at ha;omega
   have mx:=Z21 w h
   change dI _=.ret (.sh (Zp t)) at e1
   generalize hR:Zp t=R at *
   generalize ((max w h:Nat):Int)=m at *
   rw[List.map_cons,Ľ]
   simp[mx,e1,hz,hR]
   simpa using q1
  ·intro x hx
   rcases List.mem_cons.mp hx with rfl|hx
   ·exact e2
   ·exact q3 x hx
def Z0f{w:Str}{xs:List Int}(h:Z3 w xs=true):PyData.strOk w=true:=by
 unfold Z3 at h
 by_cases e1:w= "post"
 ·rw[e1];exact s1
 rw[if_neg e1] at h
 by_cases e2:w= "fence"
 ·rw[e2];exact s2
 rw[if_neg e2] at h
 by_cases e3:w= "sail"
 ·rw[e3];exact s3
 rw[if_neg e3] at h
 by_cases e4:w= "cloth"
 ·rw[e4];exact s4
 rw[if_neg e4] at h
 by_cases e5:w= "house"
 ·rw[e5];exact s5
 rw[if_neg e5] at h
 cases h
def Z22{T:List Th}(hl:T.length<=1000)(hg:∀t∈T,Z3 t.1 t.2=true)(s0 s1:P.Slot):Ľ (gT 2 (Đ (gN 0) (Đ (gN 1) Ĳ))) İ (ċ (Č cX (Ă 0 (Ċ (ċ (iC bH (ă (Ā 1) ĕ))) ĉ)))) (T.map Zp) [s0,s1] []=some (T.map ů):=by
 have hc:=ĩ (g:=gT 2 (Đ (gN 0) (Đ (gN 1) Ĳ))) (mt:=İ) (me:=ċ (Č cX (Ă 0 (Ċ (ċ (iC bH (ă (Ā 1) ĕ))) ĉ)))) Zp ů (λρ=>∃a b,ρ=[a,b]) T [s0,s1] [] ⟨_,_,rfl⟩ (by simp;omega) (by
  rintro t ht ρ ⟨a,b,rfl⟩
  have e:=Z0P (Z0f (hg t ht)) (xs:=t.2) (sl:=.sh (.lst (t.2.map .int))) (.inl rfl)
  rw[if_pos (hg t ht)] at e
  change cX _=.ret (.sh (ů t)) at e
  refine⟨[.sh (.str t.1),.sh (.lst (t.2.map .int))],_,[.sh (.str t.1),.sh (.lst (t.2.map .int))],by simp[Zp],rfl,?_,_,_,rfl⟩
  generalize t.2.map PV.int=X at *
  generalize ů t=V at *
  simp[e])
 simpa using hc
def slI(xs:List Int)(lo hi:Option Int):∃ys:List Int,Ŭ (xs.map PV.int) lo hi=ys.map PV.int/\ys.length<=xs.length:=by
 refine⟨(xs.drop (HT.jm xs.length 0 lo)).take (HT.jm xs.length xs.length hi-HT.jm xs.length 0 lo),?_,by simp;omega⟩
 unfold Ŭ
 rw[List.length_map,List.map_take,List.map_drop]
def slR(T:List Th):∃T':List Th,Ŭ (T.map Zp) none (some 1)=T'.map Zp/\T'.length<=T.length/\∀t∈T',t∈T:=by
 refine⟨T.take (HT.jm T.length T.length (some 1)),?_,by simp;omega,λt ht=>List.mem_of_mem_take ht⟩
 unfold Ŭ
 rw[List.length_map,List.map_take]
 rfl
abbrev Wt:=Int×Int×Int×Int
def ŝ(q:Wt):PV:=.tup [.tup [.int q.1,.int q.2.1],.int q.2.2.1,.int q.2.2.2]
def Zj(w h:Nat)(q:Wt):Prop:=(0<=q.1/\q.1<w)/\(0<=q.2.1/\q.2.1<h)
def Zm(D:List Dy)(q:Wt):Prop:=(0<=q.2.2.1/\q.2.2.1<D.length)/\(0<=q.2.2.2/\q.2.2.2<(D.getD q.2.2.1.toNat default).2.2.length)
def Z1A{w h:Nat}{T:List Th}(D:List Dy){x y:Int}(hx:(0<=x/\x<w)/\(0<=y/\y<h)):Gs [.sh (Z0 w h T D),.sh (.tup [.int x,.int y])]=.ret (.sh (.bl true)):=by
 have yw:=y_w w h T D
 have yh:=y_h w h T D
 generalize Z0 w h T D=Yv at *
 obtain⟨⟨a1,a2⟩,a3,a4⟩:=hx
 simp[Gs,Lx,List.replicate,yw,yh,a1,a2,a3,a4]
def Z1B{w h:Nat}{T:List Th}(D:List Dy){x y:Int}(hx:(0<=x/\x<w)/\(0<=y/\y<h)):Gu [.sh (Z0 w h T D),.sh (.tup [.int x,.int y])]=.ret (.sh .non):=by
 have hs:=Z1A (T:=T) D hx
 generalize Z0 w h T D=Yv at *
 simp[Gu,Ly,List.replicate,hs]
def Z3k{w h:Nat}{T:List Th}{D:List Dy}(d:Int):vo [.sh (Z0 w h T D),.sh (.int d)]=.ret (.sh (.bl (decide (0<=d/\d<D.length)))):=by
 have yd:=y_d w h T D
 have hl:(D.map aD).length=D.length:=by simp
 rw[<-hl]
 generalize Z0 w h T D=Yv at *
 generalize D.map aD=DV at *
 by_cases a1:0<=d
 ·by_cases a2:d<(DV.length:Int)
  ·simp[vo,xM,List.replicate,yd,a1,a2]
  ·simp[vo,xM,List.replicate,yd,a1,a2]
 ·simp[vo,xM,List.replicate,yd,a1]
def Z23{w h:Nat}{T:List Th}{D:List Dy}{d t:Int}(hd:(0<=d/\d<D.length)/\(0<=t/\t<(D.getD d.toNat default).2.2.length)):Gv [.sh (Z0 w h T D),.sh (.int d),.sh (.int t)]=.ret (.sh .non):=by
 have hd0:=Z3k (w:=w) (h:=h) (T:=T) (D:=D) d
 obtain⟨hq,a1,a2⟩:=hd
 obtain⟨i,rfl⟩:∃i:Nat,d=(i:Int):=⟨d.toNat,by omega⟩
 have hi:i<D.length:=by omega
 have ht:=Z0k (w:=w) (h:=h) (T:=T) hi
 have hg:D.getD (i:Int).toNat default=D[i]:=by simp[hi]
 rw[hg] at a2
 have hl:(D[i].2.2.map g_).length=D[i].2.2.length:=by simp
 rw[<-hl] at a2
 rw[decide_eq_true hq] at hd0
 generalize D[i].2.2.map g_=TV at *
 generalize Z0 w h T D=Yv at *
 simp[Gv,LC,List.replicate,hd0,ht,a1,a2]
theorem Z0v{w h:Nat}{T:List Th}{D:List Dy}:∀(qs:List Wt) (z s2 s3 s4:P.Slot),(∀q∈qs,Zj w h q/\Zm D q)->∃a b c:P.Slot,forL (gT 3 (Đ (gN 2) (Đ (gN 3) (Đ (gN 4) Ĳ)))) xO (qs.map ŝ) [.sh (Z0 w h T D),z,s2,s3,s4]=.ok .nx [.sh (Z0 w h T D),z,a,b,c]
 | [],z,s2,s3,s4,_=>⟨s2,s3,s4,rfl⟩
 |q::qs,z,s2,s3,s4,hq=>by
  obtain⟨h1,h2⟩:=hq q List.mem_cons_self
  have e1:=Z1B (T:=T) D h1
  have e2:=Z23 (w:=w) (h:=h) (T:=T) h2
  obtain⟨a,b,c,e⟩:=Z0v qs z (.sh (.tup [.int q.1,.int q.2.1])) (.sh (.int q.2.2.1)) (.sh (.int q.2.2.2)) (λx hx=>hq x (List.mem_cons_of_mem _ hx))
  refine⟨a,b,c,?_⟩
  generalize Z0 w h T D=Yv at *
  have eb:xO [.sh Yv,z,.sh (.tup [.int q.1,.int q.2.1]),.sh (.int q.2.2.1),.sh (.int q.2.2.2)]=.ok .nx [.sh Yv,z,.sh (.tup [.int q.1,.int q.2.1]),.sh (.int q.2.2.1),.sh (.int q.2.2.2)]:=by simp[xO,e1,e2]
  rw[List.map_cons,forL]
  simp[ŝ,eb]
  exact e
def Z2C{w h:Nat}{T:List Th}{D:List Dy}{qs:List Wt}(hq:∀q∈qs,Zj w h q/\Zm D q):vp [.sh (Z0 w h T D),.bw (qs.map ŝ)]=.ret (.sh .non):=by
 obtain⟨a,b,c,e⟩:=Z0v (T:=T) qs (.bw (qs.map ŝ)) .no .no .no hq
 generalize Z0 w h T D=Yv at *
 generalize qs.map ŝ=QS at *
 simp[vp,C_,List.replicate,e]
def Z2D(p:Nat->Bool)(i:Nat):(Z1 i p ||| 2 ^ i)=Z1 i p+2 ^ i:=by
 have h:=Nat.two_pow_add_eq_or_of_lt (ZL p i) 1
 rw[Nat.mul_one] at h
 rw[Nat.or_comm,<-h,Nat.add_comm]
theorem Z14(f:Nat->Bool):∀(n a:Nat) (z s2 s3:P.Slot),a+n<=1000->∃s2' s3',forL (gT 2 (Đ (gN 2) (Đ (gN 3) Ĳ))) rE ((List.range' a n).map λ(k:Nat)=>PV.tup [.int k,.bl (f k)]) [z,.sh (.int (Z1 a f:Nat)),s2,s3]=.ok .nx [z,.sh (.int (Z1 (a+n) f:Nat)),s2',s3']
 |0,a,z,s2,s3,_=>⟨s2,s3,rfl⟩
 |n+1,a,z,s2,s3,hn=>by
  obtain⟨s2',s3',e⟩:=Z14 f n (a+1) z (.sh (.int a)) (.sh (.bl (f a))) (by omega)
  refine⟨s2',s3',?_⟩
  have eb:rE [z,.sh (.int (Z1 a f:Nat)),.sh (.int a),.sh (.bl (f a))]=.ok .nx [z,.sh (.int (Z1 (a+1) f:Nat)),.sh (.int a),.sh (.bl (f a))]:=by
   have po:bW 1 (a:Int)=true:=by simp[bW];omega
   cases hf:f a with
   |false=>simp[rE,Z1,hf]
   |true=>
    have hb:Builtin.bitOr ((Z1 a f:Nat):Int) (2 ^ a)=((Z1 (a+1) f:Nat):Int):=by
     have:=ZU (Z1 a f) (2 ^ a)
     rw[Z2D] at this
     have e2:Z1 (a+1) f=Z1 a f+2 ^ a:=by simp[Z1,hf]
     rw[e2]
     simpa using this
    simp[rE,hb,po]
  rw[List.range'_succ,List.map_cons,forL]
  simp[eb]
  rw[show a+(n+1)=a+1+n by omega]
  exact e
def Z0l(f:Nat->Bool){n:Nat}(hn:n<=1000):Af [.sh (.lst ((List.range n).map λ(k:Nat)=>PV.bl (f k)))]=.ret (.sh (.int (Z1 n f:Nat))):=by
 obtain⟨a,b,e⟩:=Z14 f n 0 (.sh (.lst ((List.range n).map λ(k:Nat)=>PV.bl (f k)))) .no .no (by omega)
 have en:=Z1z (λk=>PV.bl (f k)) n
 rw[<-List.range_eq_range',Nat.zero_add] at e
 have z:Z1 0 f=0:=rfl
 rw[z] at e
 generalize (List.range n).map (λ(k:Nat)=>PV.bl (f k))=L at *
 simp[Af,LR,List.replicate,en]
 simp at e
 rw[e]
 simp
def Z06(i j:Int):qL (.int i) (.int j)=some (.int (Builtin.bitAnd i j)):=rfl
def Zr(c k:Nat):zG (c:Int) (k:Int)=true:=by simp[zG]
def ZZ(f:Nat->PV){n:Nat}(hn:n<=1000)(c:Nat):oG [.bw ((List.range n).map f),.sh (.int c)]=.ret (.ow (((List.range n).filter λk=>c.testBit k).map f)):=by
 have en:=Z1z f n
 have e:=bB (g:=gT 2 (Đ (gN 1) (Đ (gN 2) Ĳ))) (mt:=bK (Ą qL (Ą lB (Ā 0) (Ā 1)) (mC (.int 1)))) (me:=Ę 2) (λ(k:Nat)=>PV.tup [.int k,f k]) f (λk=>c.testBit k) (λρ=>∃a b,ρ=[.sh (.int c),a,b]) (List.range n) [.sh (.int c),.no,.no] [] ⟨_,_,rfl⟩ (by simp;omega) (by
  rintro k _ ρ ⟨a,b,rfl⟩
  refine⟨[.sh (.int c),.sh (.int k),.sh (f k)],[.sh (.int c),.sh (.int k),.sh (f k)],by simp,?_,λ_=>⟨_,_,rfl⟩,λ_=>⟨[.sh (.int c),.sh (.int k),.sh (f k)],by simp,_,_,rfl⟩⟩
  have h1:=ZJ c k
  have h2:Builtin.bitAnd ((c:Int) / 2 ^ k) 1=if c.testBit k then 1 else 0:=by rw[Z2W];exact h1
  cases hb:c.testBit k with
  |true=>rw[hb] at h2;simp at h2;simp[h2,Zr,Z06]
  |false=>rw[hb] at h2;simp at h2;simp[h2,Zr,Z06])
 rw[List.nil_append] at e
 generalize (List.range n).map f=L at *
 generalize ((List.range n).filter λk=>c.testBit k).map f=R at *
 simp[oG,LK,List.replicate,dz,bV,en,e]
def Z2(cov:Nat->Nat)(n c base:Nat):Nat:=((List.range n).filter λk=>c.testBit k).foldl (λb k=>b ||| cov k) base
def Z2E(cov:Nat->Nat){n:Nat}(hn:n<=1000)(c base:Nat):Ad [.bw ((List.range n).map λk=>PV.int (cov k:Nat)),.sh (.int c),.sh (.int base)]=.ret (.sh (.int (Z2 cov n c base:Nat))):=by
 have e1:=ZZ (λk=>PV.int (cov k:Nat)) hn c
 obtain⟨ρ',e2,a,rfl⟩:=bL (g:=gN 4) (mb:=Dh) (λk=>PV.int (cov k:Nat)) (λ(b:Nat) k=>b ||| cov k) (λb ρ=>∃a,ρ=[.bw ((List.range n).map λk=>PV.int (cov k:Nat)),.sh (.int c),.sh (.int base),.sh (.int (b:Nat)),a]) ((List.range n).filter λk=>c.testBit k) (by
  rintro k _ b ρ ⟨a,rfl⟩
  exact⟨_,_,rfl,by simp[Dh,ZU];rfl,_,rfl⟩) base [.bw ((List.range n).map λk=>PV.int (cov k:Nat)),.sh (.int c),.sh (.int base),.sh (.int base),.no] ⟨_,rfl⟩
 unfold Z2
 generalize ((List.range n).filter λk=>c.testBit k).foldl (λb k=>b ||| cov k) base=M at *
 generalize ((List.range n).filter λk=>c.testBit k).map (λk=>PV.int (cov k:Nat))=R at *
 generalize (List.range n).map (λk=>PV.int (cov k:Nat))=L at *
 simp[Ad,LQ,List.replicate,e1,e2]
def aF(m many:Nat):Option Nat:=(List.range many).findSome? λk=>if m.testBit k then none else some k
def cG:Option Nat->PV
 |some k=>.int k
 |none=>.non
def Z24(m:Nat){many:Nat}(hm:many<=1000):vq [.sh (.int m),.sh (.int many)]=.ret (.sh (cG (aF m many))):=by
 have rr:=Zs (n:=many) hm
 rcases bM (g:=gN 2) (mb:=xP) (λ(k:Nat)=>PV.int (k:Int)) (λk=>if m.testBit k then none else some k) (λk=>RV.sh (.int (k:Nat))) (λρ=>∃a,ρ=[.sh (.int m),.sh (.int many),a]) (List.range many) (by
  rintro k _ ρ ⟨a,rfl⟩
  refine⟨[.sh (.int m),.sh (.int many),.sh (.int k)],rfl,?_⟩
  have h1:=ZJ m k
  have h2:Builtin.bitAnd ((m:Int) / 2 ^ k) 1=if m.testBit k then 1 else 0:=by rw[Z2W];exact h1
  cases hb:m.testBit k with
  |true=>rw[hb] at h2;simp at h2;exact .inr ⟨[.sh (.int m),.sh (.int many),.sh (.int k)],by simp,by simp[xP,h2,Zr,Z06],_,rfl⟩
  |false=>rw[hb] at h2;simp at h2;exact .inl ⟨k,[.sh (.int m),.sh (.int many),.sh (.int k)],by simp,by simp[xP,h2,Zr,Z06]⟩) [.sh (.int m),.sh (.int many),.no] ⟨_,rfl⟩ with⟨r,ρ',e1,e2⟩|⟨ρ',e1,e2,a,rfl⟩
 ·unfold aF
  rw[e1]
  simp[vq,Dg,List.replicate,rr,e2,cG]
 ·unfold aF
  rw[e1]
  simp[vq,Dg,List.replicate,rr,e2,cG]
def Z5(pr:Nat->Int)(n c:Nat):Int:=(((List.range n).filter λk=>c.testBit k).map pr).sum
theorem Z1h(pr:Nat->Int){n:Nat}(hn:n<=1000)(z:P.Slot):∀cs:List Nat,z_ [0] (aM pJ (ă (ċ (Č oG (Ă 0 (Ă 1 ĉ)))) ĕ)) [.bw ((List.range n).map λk=>PV.int (pr k)),z] (cs.map λ(c:Nat)=>PV.int (c:Int))=some (cs.map (Z5 pr n))
 | []=>rfl
 |c::cs=>by
  have ih:=Z1h pr hn z cs
  have e1:=ZZ (λk=>PV.int (pr k)) hn c
  have e2:((List.range n).filter λk=>c.testBit k).map (λk=>PV.int (pr k))=(((List.range n).filter λk=>c.testBit k).map pr).map PV.int:=by simp
  rw[e2] at e1
  rw[List.map_cons,List.map_cons,z_]
  have e3:(aM pJ (ă (ċ (Č oG (Ă 0 (Ă 1 ĉ)))) ĕ)) (lamP [0] [.bw ((List.range n).map λk=>PV.int (pr k)),z] (.int c))=.ok (.int (Z5 pr n c)) [.bw ((List.range n).map λk=>PV.int (pr k)),.sh (.int c)]:=by
   unfold Z5
   generalize ((List.range n).filter λk=>c.testBit k).map pr=R at *
   generalize (List.range n).map (λk=>PV.int (pr k))=L at *
   simp[lamP,bV,e1]
  rw[e3]
  dsimp only
  rw[ih]
  rfl
def Zl{α β:Type}(F:α->β)(d:α)(qs:List α):qs.map F=(List.range qs.length).map λk=>F (qs.getD k d):=by
 refine List.ext_getElem (by simp) λi h1 h2=>?_
 have hi:i<qs.length:=by simpa using h1
 simp[hi]
def Z0w(f:Nat->PV){n:Nat}(hn:0<n):Ĕ (.lst ((List.range n).map f)) (.int (-1))=some (f (n-1)):=by
 show uf _ _=_
 unfold uf BZ
 simp
 rw[if_pos (by omega)]
 have e:(-1+(n:Int)).toNat=n-1:=by omega
 simp[e]
 exact⟨n-1,by rw[List.getElem?_range (by omega)],rfl⟩
def pq(D:List Dy)(q:Wt):Option P3:=(D.getD q.2.2.1.toNat default).2.2.getD q.2.2.2.toNat none
def gZ(D:List Dy)(t:Th)(q:Wt):Bool:=match pq D q with
 |none=>false
 |some r=>R_ t.1 t.2 (q.1,q.2.1) r
def jy(T:List Th)(D:List Dy)(q:Wt):Bool:=match pq D q with
 |none=>true
 |some r=>T.any λt=>R_ t.1 t.2 (q.1,q.2.1) r
def Z1i{w h:Nat}(hw:0<w){q:Wt}(hs:Zj w h q):∃k,k<w*h/\((q.1,q.2.1):Hu.Pt)=kW w k:=by
 obtain⟨⟨b1,b2⟩,b3,b4⟩:=hs
 obtain⟨a,ha⟩:∃a:Nat,q.1=(a:Int):=⟨q.1.toNat,by omega⟩
 obtain⟨b,hb⟩:∃b:Nat,q.2.1=(b:Int):=⟨q.2.1.toNat,by omega⟩
 rw[ha] at b1 b2 ⊢
 rw[hb] at b3 b4 ⊢
 have ha':a<w:=by omega
 have hb':b<h:=by omega
 refine⟨a+w*b,?_,?_⟩
 ·have:w*(b+1)<=w*h:=Nat.mul_le_mul_left w (by omega)
  rw[Nat.mul_add] at this
  omega
 ·have e1:(a+w*b) % w=a:=by rw[Nat.add_mul_mod_self_left,Nat.mod_eq_of_lt ha']
  have e2:(a+w*b) / w=b:=by rw[Nat.add_mul_div_left _ _ hw,Nat.div_eq_of_lt ha',Nat.zero_add]
  unfold kW
  rw[e1,e2]
def Z07{w h:Nat}{T:List Th}{D:List Dy}{lg:Nat}(hD:∀d∈D,Zb lg d){q:Wt}(hq:Zm D q):∃TV:List PV,iR [.sh (Z0 w h T D),.sh (.int q.2.2.1)]=.ret (.sh (.lst TV))/\Ĕ (.lst TV) (.int q.2.2.2)=some (g_ (pq D q))/\Py (pq D q):=by
 obtain⟨⟨a1,a2⟩,a3,a4⟩:=hq
 obtain⟨i,hi⟩:∃i:Nat,q.2.2.1=(i:Int):=⟨q.2.2.1.toNat,by omega⟩
 obtain⟨j,hj⟩:∃j:Nat,q.2.2.2=(j:Int):=⟨q.2.2.2.toNat,by omega⟩
 have hil:i<D.length:=by omega
 have hg:D.getD q.2.2.1.toNat default=D[i]:=by rw[hi];simp[hil]
 rw[hg] at a4
 have hjl:j<D[i].2.2.length:=by omega
 have ho:pq D q=D[i].2.2[j]:=by
  unfold pq
  rw[hg,hj]
  simp[hjl]
 refine⟨D[i].2.2.map g_,by rw[hi];exact Z0k hil,?_,?_⟩
 ·rw[ho,hj]
  simp[hjl]
 ·rw[ho]
  exact(hD D[i] (List.getElem_mem hil)).2.2 _ (List.getElem_mem hjl)
def Z15{w h:Nat}{T:List Th}(Y:yW w h T){D:List Dy}{t:Th}(hg:Z3 t.1 t.2=true){q:Wt}(hs:Zj w h q)(ho:Py (pq D q)):rN [.sh (ů t),.sh (.tup [.int q.1,.int q.2.1]),.sh (g_ (pq D q))]=.ret (.sh (.bl (gZ D t q))):=by
 unfold gZ
 have hb:PB (tQ ((q.1,q.2.1):Hu.Pt)):=by
  have w1:=Y.w1
  have h1:=Y.h1
  obtain⟨⟨b1,b2⟩,b3,b4⟩:=hs
  unfold PB tQ
  dsimp only
  omega
 cases e:pq D q with
 |none=>
  generalize ů t=V at *
  simp[rN,Dq,List.replicate,g_,nA]
 |some r=>
  rw[e] at ho
  have hsh:=ZY hg ho.1 hb
  have e1:pt ((q.1,q.2.1):Hu.Pt)=.tup [.int q.1,.int q.2.1]:=rfl
  rw[e1] at hsh
  have e2:g_ (some r)=c3 r:=rfl
  rw[e2]
  have hsh':jD [.sh (ů t),.sh (.tup [.int q.1,.int q.2.1]),.sh (c3 r)]=.ret (.sh (.bl (R_ t.1 t.2 (q.1,q.2.1) r))):=hsh
  have hn:nA (c3 r)=false:=rfl
  generalize ů t=V at *
  generalize PV.tup [.int q.1,.int q.2.1]=Q at *
  generalize c3 r=R at *
  simp[rN,Dq,List.replicate,hsh',hn]
def Z0m{w h:Nat}{T:List Th}(Y:yW w h T){D:List Dy}{q:Wt}(hs:Zj w h q)(ho:Py (pq D q)):iT [.sh (Z0 w h T D),.sh (g_ (pq D q)),.sh (.tup [.int q.1,.int q.2.1])]=.ret (.sh (.bl (jy T D q))):=by
 obtain⟨k,hk,e⟩:=Z1i Y.w0 hs
 have h1:=Z20 Y D ho (k:=k) (by have:=Y.wh;omega)
 rw[<-e] at h1
 have e1:pt ((q.1,q.2.1):Hu.Pt)=.tup [.int q.1,.int q.2.1]:=rfl
 rw[e1] at h1
 rw[h1]
 unfold jy
 cases pq D q with
 |none=>rfl
 |some r=>unfold Sg yV;dsimp only;rw[<-e]
def Z3P{w h:Nat}{T:List Th}(Y:yW w h T){lg:Nat}{D:List Dy}(hD:∀d∈D,Zb lg d){t:Th}(hg:Z3 t.1 t.2=true){qs:List Wt}(hl:qs.length<=1000)(hq:∀q∈qs,Zj w h q/\Zm D q) :
 oO [.sh (Z0 w h T D),.sh (ů t),.bw (qs.map ŝ)]=.ret (.sh (.int (Z1 qs.length (λk=>gZ D t (qs.getD k default)):Nat))):=by
 have c1:=ĩ (g:=gT 3 (Đ (gN 2) (Đ (gN 3) (Đ (gN 4) Ĳ)))) (mt:=İ) (me:=ċ (Č rN (Ă 0 (Ă 2 (Ċ (Ą Ĕ (ċ (Č iR (Ă 1 (Ă 3 ĉ)))) (Ā 4)) ĉ))))) ŝ (λq=>PV.bl (gZ D t q)) (λρ=>∃a b c,ρ=[.sh (ů t),.sh (Z0 w h T D),a,b,c]) qs [.sh (ů t),.sh (Z0 w h T D),.no,.no,.no] [] ⟨_,_,_,rfl⟩ (by simp;omega) (by
  rintro q hm ρ ⟨a,b,c,rfl⟩
  obtain⟨hs,ht⟩:=hq q hm
  obtain⟨TV,e1,e2,e3⟩:=Z07 (w:=w) (h:=h) (T:=T) hD ht
  have e4:=Z15 Y hg hs e3
  generalize Z0 w h T D=Yv at *
  generalize ů t=V at *
  generalize g_ (pq D q)=O at *
  exact⟨[.sh V,.sh Yv,.sh (.tup [.int q.1,.int q.2.1]),.sh (.int q.2.2.1),.sh (.int q.2.2.2)],[.sh V,.sh Yv,.sh (.tup [.int q.1,.int q.2.1]),.sh (.int q.2.2.1),.sh (.int q.2.2.2)],[.sh V,.sh Yv,.sh (.tup [.int q.1,.int q.2.1]),.sh (.int q.2.2.1),.sh (.int q.2.2.2)],by simp[ŝ],by simp,by simp[e1,e2,e4,-wM],_,_,_,rfl⟩)
 rw[List.nil_append,Zl (λq=>PV.bl (gZ D t q)) default qs] at c1
 have e:=Z0l (λk=>gZ D t (qs.getD k default)) hl
 generalize (List.range qs.length).map (λk=>PV.bl (gZ D t (qs.getD k default)))=B at *
 generalize Z0 w h T D=Yv at *
 generalize ů t=V at *
 generalize qs.map ŝ=QS at *
 simp[oO,Dr,List.replicate,dz,bV,c1,e]
def Z3Q{w h:Nat}{T:List Th}(Y:yW w h T){lg:Nat}{D:List Dy}(hD:∀d∈D,Zb lg d){qs:List Wt}(hl:qs.length<=1000)(hq:∀q∈qs,Zj w h q/\Zm D q) :
 vG [.sh (Z0 w h T D),.bw (qs.map ŝ)]=.ret (.sh (.int (Z1 qs.length (λk=>jy T D (qs.getD k default)):Nat))):=by
 have c1:=ĩ (g:=gT 3 (Đ (gN 1) (Đ (gN 2) (Đ (gN 3) Ĳ)))) (mt:=İ) (me:=ċ (Č iT (Ă 0 (Ċ (Ą Ĕ (ċ (Č iR (Ă 0 (Ă 2 ĉ)))) (Ā 3)) (Ă 1 ĉ))))) ŝ (λq=>PV.bl (jy T D q)) (λρ=>∃a b c,ρ=[.sh (Z0 w h T D),a,b,c]) qs [.sh (Z0 w h T D),.no,.no,.no] [] ⟨_,_,_,rfl⟩ (by simp;omega) (by
  rintro q hm ρ ⟨a,b,c,rfl⟩
  obtain⟨hs,ht⟩:=hq q hm
  obtain⟨TV,e1,e2,e3⟩:=Z07 (w:=w) (h:=h) (T:=T) hD ht
  have e4:=Z0m Y hs e3
  generalize Z0 w h T D=Yv at *
  generalize g_ (pq D q)=O at *
  exact⟨[.sh Yv,.sh (.tup [.int q.1,.int q.2.1]),.sh (.int q.2.2.1),.sh (.int q.2.2.2)],[.sh Yv,.sh (.tup [.int q.1,.int q.2.1]),.sh (.int q.2.2.1),.sh (.int q.2.2.2)],[.sh Yv,.sh (.tup [.int q.1,.int q.2.1]),.sh (.int q.2.2.1),.sh (.int q.2.2.2)],by simp[ŝ],by simp,by simp[e1,e2,e4,-wM],_,_,_,rfl⟩)
 rw[List.nil_append,Zl (λq=>PV.bl (jy T D q)) default qs] at c1
 have e:=Z0l (λk=>jy T D (qs.getD k default)) hl
 generalize (List.range qs.length).map (λk=>PV.bl (jy T D (qs.getD k default)))=B at *
 generalize Z0 w h T D=Yv at *
 generalize qs.map ŝ=QS at *
 simp[vG,Dt,List.replicate,dz,bV,c1,e]
theorem Z25:∀ks:List Int,ks≠[]->∃i,i<ks.length/\∀j,j<ks.length->ks.getD i 0<=ks.getD j 0/\(j<i->ks.getD i 0<ks.getD j 0)
 | [],h=>absurd rfl h
 | [k],_=>⟨0,by simp,fun j hj=>by
     have:j=0:=by simp at hj;omega
     subst this
     exact⟨Int.le_refl _,λz=>absurd z (Nat.lt_irrefl _)⟩⟩
 |k::m::ks,_=>by
  obtain⟨i,hi,h⟩:=Z25 (m::ks) (by simp)
  by_cases hk:k<=(m::ks).getD i 0
  ·refine⟨0,by simp,λj hj=>?_⟩
   cases j with
   |zero=>exact⟨Int.le_refl _,λz=>absurd z (Nat.lt_irrefl _)⟩
   |succ j=>
    have:=(h j (by simpa using hj)).1
    exact⟨by simp only[List.getD_cons_zero,List.getD_cons_succ];omega,λz=>absurd z (by omega)⟩
  ·refine⟨i+1,by simpa using hi,λj hj=>?_⟩
   cases j with
   |zero=>exact⟨by simp only[List.getD_cons_zero,List.getD_cons_succ];omega,λ_=>by simp only[List.getD_cons_zero,List.getD_cons_succ];omega⟩
   |succ j=>
    have:=h j (by simpa using hj)
    exact⟨by simp only[List.getD_cons_succ];exact this.1,λz=>by simp only[List.getD_cons_succ];exact this.2 (by omega)⟩
def Z0x(pr:Nat->Int){n:Nat}(hn:n<=1000){cs:List Nat}(hc:cs≠[])(hs:cs.Pairwise (·< ·)):∃c∈cs,Gw [.bw ((List.range n).map λk=>PV.int (pr k)),.sh (.lst (cs.map λ(c:Nat)=>PV.int (c:Int)))]=.ret (.sh (.int (c:Nat)))/\∀c'∈cs,Z5 pr n c<=Z5 pr n c'/\(Z5 pr n c'=Z5 pr n c->c<=c'):=by
 have e:=Z1h pr hn (.sh (.lst (cs.map λ(c:Nat)=>PV.int (c:Int)))) cs
 obtain⟨i,hi,hb⟩:=Z25 (cs.map (Z5 pr n)) (by simpa using hc)
 rw[List.length_map] at hi hb
 have hx:(cs.map λ(c:Nat)=>PV.int (c:Int))[i]?=some (.int (cs[i]:Nat)):=by simp[hi]
 have gk:∀j (hj:j<cs.length),(cs.map (Z5 pr n)).getD j 0=Z5 pr n cs[j]:=λj hj=>by simp[hj]
 obtain⟨b,hp⟩:∃b,ju (cs.map λ(c:Nat)=>PV.int (c:Int)) (cs.map (Z5 pr n))=some b:=by
  cases cs with
  |nil=>exact absurd rfl hc
  |cons a r=>exact⟨_,rfl⟩
 have hbx:=lJ (by simp) hp hx (λj hj=>hb j (by simpa using hj))
 subst hbx
 refine⟨cs[i],List.getElem_mem hi,?_,λc' hc'=>?_⟩
 ·generalize (cs.map λ(c:Nat)=>PV.int (c:Int))=CS at *
  generalize cs.map (Z5 pr n)=KS at *
  generalize (List.range n).map (λk=>PV.int (pr k))=L at *
  generalize cs[i]=c at *
  simp[Gw,Dc,List.replicate,RJ,e,hp]
 ·obtain⟨j,hj,rfl⟩:=List.getElem_of_mem hc'
  have h1:=hb j hj
  rw[gk i hi,gk j hj] at h1
  refine⟨h1.1,λhe=>?_⟩
  by_cases hji:j<i
  ·have:=h1.2 hji
   omega
  ·by_cases hij:i=j
   ·subst hij;exact Nat.le_refl _
   ·exact Nat.le_of_lt (List.pairwise_iff_getElem.mp hs i j hi hj (by omega))
def Z0a(pr:Nat->Int)(cov:Nat->Nat){n many:Nat}(hn:n<=9)(hm:many<=1000)(base:Nat):∃v,Ae [.bw ((List.range n).map λk=>PV.int (pr k)),.bw ((List.range n).map λk=>PV.int (cov k:Nat)),.sh (.int many),.sh (.int base)]=.ret (.sh v)/\
 ((∃k,aF (Z2 cov n (2 ^ n-1) base) many=some k∧v=.tup [.str "none",.int k])∨
   ∃c,c<2 ^ n/\aF (Z2 cov n c base) many=none/\(∀c',c'<2 ^ n->aF (Z2 cov n c' base) many=none->Z5 pr n c<=Z5 pr n c'/\(Z5 pr n c'=Z5 pr n c->c<=c'))/\
    v=.tup [.str "choice",.int c,.int (Z5 pr n c),.lst ((List.range (2 ^ n)).map λc=>cG (aF (Z2 cov n c base) many))]):=by
 have hp:2 ^ n<=512:=by
  have:=Nat.pow_le_pow_right (show 0<2 by omega) hn
  simpa using this
 have hp0:0<2 ^ n:=Nat.two_pow_pos n
 have rr:=Zs (n:=2 ^ n) (by omega)
 have hl:((List.range n).map λk=>PV.int (pr k)).length=n:=by simp
 have so:bW 1 (n:Int)=true:=by simp[bW];omega
 have rr':au [.int (2 ^ n)]=some ((List.range (2 ^ n)).map λ(i:Nat)=>PV.int (i:Int)):=by
  have:((2 ^ n:Nat):Int)=2 ^ n:=by simp
  rw[this] at rr
  exact rr
 have c1:=ĩ (g:=gN 3) (mt:=İ) (me:=ċ (Č vq (Ċ (ċ (Č Ad (Ă 1 (Ă 3 (Ă 2 ĉ))))) (Ă 0 ĉ)))) (λ(c:Nat)=>PV.int (c:Int)) (λc=>cG (aF (Z2 cov n c base) many)) (λρ=>∃a,ρ=[.sh (.int many),.bw ((List.range n).map λk=>PV.int (cov k:Nat)),.sh (.int base),a]) (List.range (2 ^ n)) [.sh (.int many),.bw ((List.range n).map λk=>PV.int (cov k:Nat)),.sh (.int base),.no] [] ⟨_,rfl⟩ (by simp;omega) (by
  rintro c _ ρ ⟨a,rfl⟩
  have e1:=Z2E cov (show n<=1000 by omega) c base
  have e2:=Z24 (Z2 cov n c base) hm
  generalize (List.range n).map (λk=>PV.int (cov k:Nat))=L at *
  exact⟨[.sh (.int many),.bw L,.sh (.int base),.sh (.int c)],[.sh (.int many),.bw L,.sh (.int base),.sh (.int c)],[.sh (.int many),.bw L,.sh (.int base),.sh (.int c)],by simp,by simp,by simp[e1,e2],_,rfl⟩)
 rw[List.nil_append] at c1
 have il:=Z0w (λc=>cG (aF (Z2 cov n c base) many)) hp0
 cases hq:aF (Z2 cov n (2 ^ n-1) base) many with
 |some k=>
  refine⟨.tup [.str "none",.int k],?_,.inl ⟨k,rfl,rfl⟩⟩
  rw[hq] at il
  generalize (List.range (2 ^ n)).map (λc=>cG (aF (Z2 cov n c base) many))=PA at *
  generalize (List.range n).map (λk=>PV.int (cov k:Nat))=L at *
  generalize (List.range n).map (λk=>PV.int (pr k))=PR at *
  simp[Ae,xQ,List.replicate,dz,bV,hl,so,rr',c1,il,cG,nA]
 |none=>
  rw[hq] at il
  have c2:=bB (g:=gT 2 (Đ (gN 0) (Đ (gN 1) Ĳ))) (mt:=aP (Ą uo (Ā 1) (mC .non))) (me:=Ę 0) (λ(c:Nat)=>PV.tup [.int c,cG (aF (Z2 cov n c base) many)]) (λ(c:Nat)=>PV.int (c:Int)) (λc=>(aF (Z2 cov n c base) many).isNone) (λρ=>∃a b,ρ=[a,b]) (List.range (2 ^ n)) [.no,.no] [] ⟨_,_,rfl⟩ (by simp;omega) (by
   rintro c _ ρ ⟨a,b,rfl⟩
   refine⟨[.sh (.int c),.sh (cG (aF (Z2 cov n c base) many))],[.sh (.int c),.sh (cG (aF (Z2 cov n c base) many))],by simp,?_,λ_=>⟨_,_,rfl⟩,λ_=>⟨[.sh (.int c),.sh (cG (aF (Z2 cov n c base) many))],by simp,_,_,rfl⟩⟩
   cases aF (Z2 cov n c base) many with
   |none=>simp[cG,nA]
   |some k=>simp[cG,nA])
  rw[List.nil_append] at c2
  have en:=Z1z (λc=>cG (aF (Z2 cov n c base) many)) (2 ^ n)
  obtain⟨c,hcm,c3,hmin⟩:=Z0x pr (show n<=1000 by omega) (cs:=(List.range (2 ^ n)).filter λc=>(aF (Z2 cov n c base) many).isNone) (List.ne_nil_of_mem (List.mem_filter.mpr ⟨List.mem_range.mpr (show 2 ^ n-1<2 ^ n by omega),by rw[hq];rfl⟩)) (List.Pairwise.filter _ List.pairwise_lt_range)
  obtain⟨hc1,hc2⟩:=List.mem_filter.mp hcm
  have c4:=ZZ (λk=>PV.int (pr k)) (show n<=1000 by omega) c
  have e2:((List.range n).filter λk=>c.testBit k).map (λk=>PV.int (pr k))=(((List.range n).filter λk=>c.testBit k).map pr).map PV.int:=by simp
  rw[e2] at c4
  refine⟨.tup [.str "choice",.int c,.int (Z5 pr n c),.lst ((List.range (2 ^ n)).map λc=>cG (aF (Z2 cov n c base) many))],?_,.inr ⟨c,List.mem_range.mp hc1,Option.isNone_iff_eq_none.mp hc2,λc' h1 h2=>hmin c' (List.mem_filter.mpr ⟨List.mem_range.mpr h1,by rw[h2];rfl⟩),rfl⟩⟩
  unfold Z5
  generalize ((List.range n).filter λk=>c.testBit k).map pr=R at *
  generalize ((List.range (2 ^ n)).filter λc=>(aF (Z2 cov n c base) many).isNone).map (λ(c:Nat)=>PV.int (c:Int))=CS at *
  generalize (List.range (2 ^ n)).map (λ(c:Nat)=>PV.tup [.int c,cG (aF (Z2 cov n c base) many)])=ES at *
  generalize (List.range (2 ^ n)).map (λc=>cG (aF (Z2 cov n c base) many))=PA at *
  generalize (List.range n).map (λk=>PV.int (cov k:Nat))=L at *
  generalize (List.range n).map (λk=>PV.int (pr k))=PR at *
  simp[Ae,xQ,List.replicate,dz,bV,hl,so,rr',c1,il,cG,nA,en,c2,c3,c4]
def Z2F(cov:Nat->Nat)(n c base j:Nat):(Z2 cov n c base).testBit j=(base.testBit j || (List.range n).any λk=>c.testBit k && (cov k).testBit j):=by
 unfold Z2
 have gen:∀(l:List Nat) (b:Nat),((l.filter λk=>c.testBit k).foldl (λb k=>b ||| cov k) b).testBit j=(b.testBit j || l.any λk=>c.testBit k && (cov k).testBit j):=by
  intro l
  induction l with
  |nil=>intro b;simp
  |cons k l ih=>
   intro b
   cases hk:c.testBit k with
   |true=>rw[List.filter_cons_of_pos hk,List.foldl_cons,ih,Nat.testBit_or,List.any_cons,hk,Bool.true_and,Bool.or_assoc]
   |false=>rw[List.filter_cons_of_neg (by simp[hk]),ih,List.any_cons,hk,Bool.false_and,Bool.false_or]
 exact gen _ base
def Z46{a b:Str}{v:Bool}(ha:PyData.strOk a=true)(hb:PyData.strOk b=true)(h:decide (a=b)=v):ŧ (.str a) (.str b)=some (.bl v):=by rw[bY ha hb,h]
def Z47{a b:Str}{v:Bool}(ha:PyData.strOk a=true)(hb:PyData.strOk b=true)(h:decide (a=b)=v):aH (.str a) (.str b)=some (.bl !v):=by rw[Lk ha hb,h]
def Z3R(i j:Int):FW (.int i) (.int j)=some (.int (Builtin.bitOr i j)):=rfl
def nes(o:Option Nat):aH (cG o) (cG o)=some (.bl false):=by
 cases o with
 |none=>rfl
 |some k=>simp[cG]
def Z00(m:Nat){many:Nat}(hm:many<=1000):rP [.sh (.int m),.sh (.int many)]=.ret (.sh (cG (aF m many))):=by
 have rr:=Zs (n:=many) hm
 rcases bM (g:=gN 2) (mb:=yc) (λ(k:Nat)=>PV.int (k:Int)) (λk=>if m.testBit k then none else some k) (λk=>RV.sh (.int (k:Nat))) (λρ=>∃a,ρ=[.sh (.int m),.sh (.int many),a]) (List.range many) (by
  rintro k _ ρ ⟨a,rfl⟩
  refine⟨[.sh (.int m),.sh (.int many),.sh (.int k)],rfl,?_⟩
  have h1:=ZJ m k
  cases hb:m.testBit k with
  |true=>rw[hb] at h1;simp at h1;exact .inr ⟨[.sh (.int m),.sh (.int many),.sh (.int k)],by simp,by simp[yc,h1,Zr],_,rfl⟩
  |false=>rw[hb] at h1;simp at h1;exact .inl ⟨k,[.sh (.int m),.sh (.int many),.sh (.int k)],by simp,by simp[yc,h1,Zr]⟩) [.sh (.int m),.sh (.int many),.no] ⟨_,rfl⟩ with⟨r,ρ',e1,e2⟩|⟨ρ',e1,e2,a,rfl⟩
 ·unfold aF
  rw[e1]
  simp[rP,Dv,List.replicate,rr,e2,cG]
 ·unfold aF
  rw[e1]
  simp[rP,Dv,List.replicate,rr,e2,cG]
def Z26(pr:Nat->Int){n:Nat}(hn:n<=1000)(c:Nat):Am [.bw ((List.range n).map λk=>PV.int (pr k)),.sh (.int c)]=.ret (.sh (.int (Z5 pr n c))):=by
 have rr:=Zs (n:=n) hn
 have hl:(((List.range n).map λk=>PV.int (pr k)).length:Int)=(n:Int):=by simp
 have hx:∀k,k<n->((List.range n).map λk=>PV.int (pr k))[k]?=some (.int (pr k)):=λk hk=>by simp[hk]
 generalize hL:(List.range n).map (λk=>PV.int (pr k))=L at *
 have e:=bB (g:=gN 2) (mt:=aP (Ą ŧ (Ą ı (Ą lB (Ā 1) (Ā 2)) (mC (.int 2))) (mC (.int 1)))) (me:=Ą Ĕ (Ā 0) (Ā 2)) (λ(k:Nat)=>PV.int (k:Int)) (λk=>PV.int (pr k)) (λk=>c.testBit k) (λρ=>∃a,ρ=[.bw L,.sh (.int c),a]) (List.range n) [.bw L,.sh (.int c),.no] [] ⟨_,rfl⟩ (by simp;omega) (by
  rintro k hk ρ ⟨a,rfl⟩
  have hx:=hx k (List.mem_range.mp hk)
  refine⟨[.bw L,.sh (.int c),.sh (.int k)],[.bw L,.sh (.int c),.sh (.int k)],by simp,?_,λ_=>⟨_,rfl⟩,λ_=>⟨[.bw L,.sh (.int c),.sh (.int k)],by simp[hx],_,rfl⟩⟩
  have h1:=ZJ c k
  cases hb:c.testBit k with
  |true=>rw[hb] at h1;simp at h1;simp[h1,Zr]
  |false=>rw[hb] at h1;simp at h1;simp[h1,Zr])
 have e2:((List.range n).filter λk=>c.testBit k).map (λk=>PV.int (pr k))=(((List.range n).filter λk=>c.testBit k).map pr).map PV.int:=by simp
 rw[List.nil_append,e2] at e
 unfold Z5
 generalize ((List.range n).filter λk=>c.testBit k).map pr=R at *
 simp[Am,MK,List.replicate,dz,bV,hl,rr,e]
def Z1C(n c c':Nat)(h:∀k,k<n->c.testBit k=c'.testBit k):((List.range n).filter λk=>c.testBit k)=(List.range n).filter λk=>c'.testBit k:=List.filter_congr λk hk=>h k (List.mem_range.mp hk)
def Z3l(cov:Nat->Nat){k c:Nat}(base:Nat)(h:c<2 ^ k):Z2 cov (k+1) c base=Z2 cov k c base:=by
 unfold Z2
 rw[List.range_succ,List.filter_append]
 have:c.testBit k=false:=Nat.testBit_lt_two_pow h
 simp[this]
def Z3m(cov:Nat->Nat){k c:Nat}(base:Nat)(h:c<2 ^ k):Z2 cov (k+1) (2 ^ k+c) base=Z2 cov k c base ||| cov k:=by
 unfold Z2
 rw[List.range_succ,List.filter_append,Z1C k (2 ^ k+c) c λj hj=>Nat.testBit_two_pow_add_gt hj c]
 have h1:c.testBit k=false:=Nat.testBit_lt_two_pow h
 have h2:(2 ^ k+c).testBit k=true:=by rw[Nat.testBit_two_pow_add_eq,h1];rfl
 simp[h2]
def Z2G(cov:Nat->Nat)(k base:Nat):((List.range (2 ^ k)).map λc=>PV.int (Z2 cov k c base:Nat))++((List.range (2 ^ k)).map λc=>PV.int ((Z2 cov k c base ||| cov k:Nat):Int))=(List.range (2 ^ (k+1))).map λc=>PV.int (Z2 cov (k+1) c base:Nat):=by
 rw[Nat.pow_succ,Nat.mul_two,List.range_add,List.map_append,List.map_map]
 congr 1
 ·exact List.map_congr_left λc hc=>by rw[Z3l cov base (List.mem_range.mp hc)]
 ·exact List.map_congr_left fun c hc=>by
   show _=PV.int _
   rw[Z3m cov base (List.mem_range.mp hc)]
def Z1D(cov:Nat->Nat)(k base:Nat)(hk:k<=9)(z0 z1:P.Slot):xK [z0,z1,.ow ((List.range (2 ^ k)).map λc=>PV.int (Z2 cov k c base:Nat)),.sh (.int (cov k:Nat))]=.ok .nx [z0,z1,.ow ((List.range (2 ^ (k+1))).map λc=>PV.int (Z2 cov (k+1) c base:Nat)),.sh (.int (cov k:Nat))]:=by
 have hp:2 ^ k<=512:=by
  have:=Nat.pow_le_pow_right (show 0<2 by omega) hk
  simpa using this
 have c1:=ĩ (g:=gN 1) (mt:=İ) (me:=Ą FW (Ā 1) (Ā 0)) (λ(c:Nat)=>PV.int (Z2 cov k c base:Nat)) (λc=>PV.int ((Z2 cov k c base ||| cov k:Nat):Int)) (λρ=>∃a,ρ=[.sh (.int (cov k:Nat)),a]) (List.range (2 ^ k)) [.sh (.int (cov k:Nat)),.no] [] ⟨_,rfl⟩ (by simp;omega) (by
  rintro c _ ρ ⟨a,rfl⟩
  generalize Z2 cov k c base=M at *
  generalize cov k=N at *
  exact⟨[.sh (.int (N:Nat)),.sh (.int (M:Nat))],[.sh (.int (N:Nat)),.sh (.int (M:Nat))],[.sh (.int (N:Nat)),.sh (.int (M:Nat))],by simp,by simp,by simp[Z3R,ZU],_,rfl⟩)
 rw[List.nil_append] at c1
 have ad:=add_l (xs:=(List.range (2 ^ k)).map λc=>PV.int (Z2 cov k c base:Nat)) (ys:=(List.range (2 ^ k)).map λc=>PV.int ((Z2 cov k c base ||| cov k:Nat):Int)) (by simp;omega)
 rw[Z2G] at ad
 generalize ((List.range (2 ^ (k+1))).map λc=>PV.int (Z2 cov (k+1) c base:Nat))=A2 at *
 generalize ((List.range (2 ^ k)).map λc=>PV.int ((Z2 cov k c base ||| cov k:Nat):Int))=A1 at *
 generalize ((List.range (2 ^ k)).map λc=>PV.int (Z2 cov k c base:Nat))=A0 at *
 simp[xK,dz,bV,c1,ad]
theorem Z0n(cov:Nat->Nat)(base:Nat)(z0 z1:P.Slot):∀(n k:Nat) (z3:P.Slot),k+n<=9->∃z3',forL (gN 3) xK ((List.range' k n).map λk=>PV.int (cov k:Nat)) [z0,z1,.ow ((List.range (2 ^ k)).map λc=>PV.int (Z2 cov k c base:Nat)),z3]=.ok .nx [z0,z1,.ow ((List.range (2 ^ (k+n))).map λc=>PV.int (Z2 cov (k+n) c base:Nat)),z3']
 |0,k,z3,_=>⟨z3,rfl⟩
 |n+1,k,z3,h=>by
  have e1:=Z1D cov k base (by omega) z0 z1
  obtain⟨z3',e2⟩:=Z0n cov base z0 z1 n (k+1) (.sh (.int (cov k:Nat))) (by omega)
  refine⟨z3',?_⟩
  rw[List.range'_succ,List.map_cons,forL]
  rw[show k+(n+1)=k+1+n by omega]
  generalize ((List.range (2 ^ (k+1+n))).map λc=>PV.int (Z2 cov (k+1+n) c base:Nat))=A3 at *
  generalize ((List.range (2 ^ (k+1))).map λc=>PV.int (Z2 cov (k+1) c base:Nat))=A2 at *
  generalize ((List.range (2 ^ k)).map λc=>PV.int (Z2 cov k c base:Nat))=A0 at *
  simp[e1]
  exact e2
def Z27(cov:Nat->Nat){n:Nat}(base:Nat)(hn:n<=9){s0:P.Slot}(h0:Sl s0 ((List.range n).map λk=>PV.int (cov k:Nat))):vm [s0,.sh (.int base)]=.ret (.ow ((List.range (2 ^ n)).map λc=>PV.int (Z2 cov n c base:Nat))):=by
 obtain⟨z3,e⟩:=Z0n cov base s0 (.sh (.int base)) n 0 .no (by omega)
 have z:((List.range (2 ^ 0)).map λc=>PV.int (Z2 cov 0 c base:Nat))=[.int base]:=rfl
 rw[z,<-List.range_eq_range',Nat.zero_add] at e
 generalize ((List.range (2 ^ n)).map λc=>PV.int (Z2 cov n c base:Nat))=A at *
 rcases h0 with rfl|rfl
 ·generalize (List.range n).map (λk=>PV.int (cov k:Nat))=L at *
  simp[vm,CZ,List.replicate,e]
 ·generalize (List.range n).map (λk=>PV.int (cov k:Nat))=L at *
  simp[vm,CZ,List.replicate,e]
def ZN(i:Int):rQ [.sh (.int i)]=.ret (.sh (.bl true)):=by
 have i2:pI [.int i,.ty "int"]=some (.bl true):=rfl
 have i3:pI [.int i,.ty "bool"]=some (.bl false):=rfl
 simp[rQ,MN,List.replicate,i2,i3]
theorem Z28{α:Type}(f g:α->PV):∀l:List α,jx (l.map f) (l.map g)=l.map λx=>PV.tup [f x,g x]
 | []=>rfl
 |x::l=>by
  rw[List.map_cons,List.map_cons,List.map_cons,jx,Z28 f g l]
def Z29(M:Nat->Nat){N many:Nat}(hN:N<=1000)(hm:many<=1000){s1:P.Slot}(h1:Sl s1 ((List.range N).map λc=>PV.int (M c:Nat))):Ao [.sh (.lst ((List.range N).map λc=>cG (aF (M c) many))),s1,.sh (.int many)]=.ret (.sh (.bl true)):=by
 have zp:=Z28 (λc=>cG (aF (M c) many)) (λc=>PV.int (M c:Nat)) (List.range N)
 obtain⟨ρ',el,_⟩:=bL (g:=gT 2 (Đ (gN 3) (Đ (gN 4) Ĳ))) (mb:=yg) (λc=>PV.tup [cG (aF (M c) many),.int (M c:Nat)]) (λ(_:Unit) (_:Nat)=>()) (λ_ ρ=>∃z a b,ρ=[z,s1,.sh (.int many),a,b]) (List.range N) (by
  rintro c _ _ ρ ⟨z,a,b,rfl⟩
  have e1:=Z00 (M c) hm
  have e2:=nes (aF (M c) many)
  have e3:cG (aF (M c) many)=.non\/∃k:Nat,cG (aF (M c) many)=.int k:=by cases aF (M c) many with
   |none=>exact .inl rfl
   |some k=>exact .inr ⟨k,rfl⟩
  generalize cG (aF (M c) many)=V at *
  generalize M c=mc at *
  refine⟨[z,s1,.sh (.int many),.sh V,.sh (.int mc)],[z,s1,.sh (.int many),.sh V,.sh (.int mc)],by simp,?_,_,_,_,rfl⟩
  rcases e3 with rfl|⟨k,rfl⟩
  ·simp[yg,e1,e2,nA]
  ·have e4:=ZN k
   simp[yg,e1,e2,e4,nA]) () [.sh (.lst ((List.range N).map λc=>cG (aF (M c) many))),s1,.sh (.int many),.no,.no] ⟨_,_,_,rfl⟩
 have l1:(((List.range N).map λc=>cG (aF (M c) many)).length:Int)=(N:Int):=by simp
 have l2:(((List.range N).map λc=>PV.int (M c:Nat)).length:Int)=(N:Int):=by simp
 have i1:pI [.lst ((List.range N).map λc=>cG (aF (M c) many)),.ty "list"]=some (.bl true):=rfl
 generalize (List.range N).map (λc=>PV.tup [cG (aF (M c) many),.int (M c:Nat)])=Z at *
 generalize (List.range N).map (λc=>cG (aF (M c) many))=A at *
 rcases h1 with rfl|rfl
 ·generalize (List.range N).map (λc=>PV.int (M c:Nat))=B at *
  simp[Ao,Dw,List.replicate,i1,l1,l2,wX,wU,zp,el]
 ·generalize (List.range N).map (λc=>PV.int (M c:Nat))=B at *
  simp[Ao,Dw,List.replicate,i1,l1,l2,wX,wU,zp,el]
def Z3n(a b c d:Int):Ac (.tup [.int a,.int b]) (.tup [.int c,.int d])=some (.bl (decide (a<c\/(a=c/\b<d)))):=by
 rw[Zcp]
 congr 2
 simp only[HT.lexLt]
 by_cases h1:a=c
 ·by_cases h2:b=d
  ·simp[h1,h2]
  ·simp[h1,h2]
 ·simp[h1]
def Z2H{m many:Nat}:aF m many=none↔∀j,j<many->m.testBit j=true:=by
 unfold aF
 rw[List.findSome?_eq_none_iff]
 constructor
 ·intro h j hj
  have:=h j (List.mem_range.mpr hj)
  by_cases hb:m.testBit j=true
  ·exact hb
  ·rw[if_neg hb] at this;cases this
 ·intro h j hj
  rw[if_pos (h j (List.mem_range.mp hj))]
def Z2a(cov:Nat->Nat){n c base many:Nat}(h:aF (Z2 cov n c base) many=none):aF (Z2 cov n (2 ^ n-1) base) many=none:=by
 rw[Z2H] at h ⊢
 intro j hj
 have h1:=h j hj
 rw[Z2F] at h1 ⊢
 rw[Bool.or_eq_true] at h1 ⊢
 rcases h1 with h1|h1
 ·exact .inl h1
 ·right
  rw[List.any_eq_true] at h1 ⊢
  obtain⟨k,hk,h2⟩:=h1
  refine⟨k,hk,?_⟩
  rw[Bool.and_eq_true] at h2 ⊢
  refine⟨?_,h2.2⟩
  rw[Nat.testBit_two_pow_sub_one]
  exact decide_eq_true (List.mem_range.mp hk)
def Z0o(pr:Nat->Int)(M:Nat->Nat)(n many:Nat)(v:PV):Prop:=
 (∃k,aF (M (2 ^ n-1)) many=some k∧v=.tup [.str "none",.int (k:Nat)])∨
   ∃c,c<2 ^ n∧aF (M (2 ^ n-1)) many=none∧aF (M c) many=none∧(∀c',c'<2 ^ n→aF (M c') many=none→Z5 pr n c≤Z5 pr n c'∧(Z5 pr n c'=Z5 pr n c→c≤c'))∧
      v=.tup [.str "choice",.int (c:Nat),.int (Z5 pr n c),.lst ((List.range (2 ^ n)).map λc=>cG (aF (M c) many))]
def Z2b{M:Nat->Nat}{N many:Nat}(hN:0<N)(hm:many<=1000){k:Nat}(hk:aF (M (N-1)) many=some k)(s1:P.Slot):gJ [.sh (.tup [.str "none",.int k]),s1,.bw ((List.range N).map λc=>PV.int (M c:Nat)),.sh (.int many)]=.ret (.sh (.bl true)):=by
 have il:=Z0w (λc=>PV.int (M c:Nat)) hN
 have e1:=Z00 (M (N-1)) hm
 rw[hk] at e1
 have e4:=ZN k
 have t2:ŧ (.str "none") (.str "none")=some (.bl true):=Z46 (by decide +kernel) (by decide +kernel) (by decide +kernel)
 have i1:pI [.tup [.str "none",.int k],.ty "tuple"]=some (.bl true):=rfl
 generalize M (N-1)=ml at *
 generalize (List.range N).map (λc=>PV.int (M c:Nat))=ME at *
 simp[gJ,Dz,List.replicate,i1,il,e1,cG,nA,e4,t2]
def Z1b{pr:Nat->Int}{M:Nat->Nat}{n many c:Nat}(hn:n<=9)(hm:many<=1000)(hc:c<2 ^ n)(hf:aF (M (2 ^ n-1)) many=none)(hcn:aF (M c) many=none)(hmin:∀c',c'<2 ^ n->aF (M c') many=none->Z5 pr n c<=Z5 pr n c'/\(Z5 pr n c'=Z5 pr n c->c<=c')) :
 gJ [.sh (.tup [.str "choice",.int c,.int (Z5 pr n c),.lst ((List.range (2 ^ n)).map λc=>cG (aF (M c) many))]),.bw ((List.range n).map λk=>PV.int (pr k)),.bw ((List.range (2 ^ n)).map λc=>PV.int (M c:Nat)),.sh (.int many)]=.ret (.sh (.bl true)):=by
 have hp:2 ^ n<=512:=by
  have:=Nat.pow_le_pow_right (show 0<2 by omega) hn
  simpa using this
 have hp0:0<2 ^ n:=Nat.two_pow_pos n
 obtain⟨N,hN⟩:∃N,2 ^ n=N:=⟨_,rfl⟩
 rw[hN] at hp hp0 hc hf hmin ⊢
 have il:=Z0w (λc=>PV.int (M c:Nat)) hp0
 have e1:=Z00 (M (N-1)) hm
 rw[hf] at e1
 have w1:=ZN c
 have w2:=ZN (Z5 pr n c)
 have pp:=Z29 M (N:=N) (by omega) hm (s1:=.bw ((List.range N).map λc=>PV.int (M c:Nat))) (.inr rfl)
 have rr:=Zs (n:=N) (by omega)
 have l2:(((List.range N).map λc=>PV.int (M c:Nat)).length:Int)=(N:Int):=by simp
 have hx:∀d,d<N->((List.range N).map λc=>cG (aF (M c) many))[d]?=some (cG (aF (M d) many)):=λd hd=>by simp[hd]
 have hxc:=hx c hc
 rw[hcn] at hxc
 have lp:=Z26 pr (show n<=1000 by omega)
 have lpc:=lp c
 have t2:aH (.str "choice") (.str "choice")=some (.bl false):=Z47 (v:=true) (by decide +kernel) (by decide +kernel) (by decide +kernel)
 have i1:pI [.tup [.str "choice",.int c,.int (Z5 pr n c),.lst ((List.range N).map λc=>cG (aF (M c) many))],.ty "tuple"]=some (.bl true):=rfl
 have hci:(c:Int)<(N:Int):=by exact_mod_cast hc
 obtain⟨ρ',el,_⟩:=bL (g:=gN 4) (mb:=yj) (λ(i:Nat)=>PV.int (i:Int)) (λ(_:Unit) (_:Nat)=>()) (λ_ ρ=>∃a,ρ=[.sh (.tup [.str "choice",.int c,.int (Z5 pr n c),.lst ((List.range N).map λc=>cG (aF (M c) many))]),.bw ((List.range n).map λk=>PV.int (pr k)),.bw ((List.range N).map λc=>PV.int (M c:Nat)),.sh (.int many),a]) (List.range N) (by
  rintro d hd _ ρ ⟨a,rfl⟩
  have hd:=List.mem_range.mp hd
  have h1:=hx d hd
  have h2:=lp d
  have h3:=Z3n (Z5 pr n d) d (Z5 pr n c) c
  have h4:aF (M d) many=none->¬(Z5 pr n d<Z5 pr n c\/(Z5 pr n d=Z5 pr n c/\(d:Int)<(c:Int))):=λhn=>by
   have:=hmin d hd hn
   intro hh
   rcases hh with hh|⟨hh,hh2⟩
   ·omega
   ·have:=this.2 hh
    omega
  generalize ((List.range N).map λc=>cG (aF (M c) many))=PA at *
  generalize ((List.range N).map λc=>PV.int (M c:Nat))=ME at *
  generalize ((List.range n).map λk=>PV.int (pr k))=PR at *
  generalize Z5 pr n c=sc at *
  generalize Z5 pr n d=sd at *
  refine⟨[.sh (.tup [.str "choice",.int c,.int sc,.lst PA]),.bw PR,.bw ME,.sh (.int many),.sh (.int d)],[.sh (.tup [.str "choice",.int c,.int sc,.lst PA]),.bw PR,.bw ME,.sh (.int many),.sh (.int d)],rfl,?_,_,rfl⟩
  cases hl:aF (M d) many with
  |none=>
   have h5:=h4 hl
   rw[hl] at h1
   rw[decide_eq_false h5] at h3
   simp[yj,h1,h2,h3,cG,nA]
  |some k=>
   rw[hl] at h1
   simp[yj,h1,cG,nA]) () [.sh (.tup [.str "choice",.int c,.int (Z5 pr n c),.lst ((List.range N).map λc=>cG (aF (M c) many))]),.bw ((List.range n).map λk=>PV.int (pr k)),.bw ((List.range N).map λc=>PV.int (M c:Nat)),.sh (.int many),.no] ⟨_,rfl⟩
 clear hmin hx lp
 generalize ((List.range N).map λc=>cG (aF (M c) many))=PA at *
 generalize ((List.range N).map λc=>PV.int (M c:Nat))=ME at *
 generalize ((List.range n).map λk=>PV.int (pr k))=PR at *
 generalize (List.range N).map (λ(i:Nat)=>PV.int (i:Int))=RG at *
 generalize Z5 pr n c=sc at *
 generalize M (N-1)=ml at *
 simp[gJ,Dz,List.replicate,i1,il,e1,cG,nA,w1,w2,t2,pp,l2,hci,hc,hxc,lpc,rr,el]
def Z1j{pr:Nat->Int}{M:Nat->Nat}{n many:Nat}(hn:n<=9)(hm:many<=1000){v:PV}(hv:Z0o pr M n many v):gJ [.sh v,.bw ((List.range n).map λk=>PV.int (pr k)),.bw ((List.range (2 ^ n)).map λc=>PV.int (M c:Nat)),.sh (.int many)]=.ret (.sh (.bl true)):=by
 rcases hv with⟨k,hk,rfl⟩|⟨c,hc,hf,hcn,hmin,rfl⟩
 ·exact Z2b (Nat.two_pow_pos n) hm hk _
 ·exact Z1b hn hm hc hf hcn hmin
def Z0F(pr:Nat->Int)(cov:Nat->Nat){n many base:Nat}{v:PV}(h:((∃k,aF (Z2 cov n (2 ^ n-1) base) many=some k/\v=.tup [.str "none",.int (k:Nat)])\/
 ∃c,c<2 ^ n/\aF (Z2 cov n c base) many=none/\(∀c',c'<2 ^ n->aF (Z2 cov n c' base) many=none->Z5 pr n c<=Z5 pr n c'/\(Z5 pr n c'=Z5 pr n c->c<=c'))/\
  v=.tup [.str "choice",.int (c:Nat),.int (Z5 pr n c),.lst ((List.range (2 ^ n)).map λc=>cG (aF (Z2 cov n c base) many))])):Z0o pr (λc=>Z2 cov n c base) n many v:=by
 rcases h with⟨k,hk,rfl⟩|⟨c,hc,hcn,hmin,rfl⟩
 ·exact .inl ⟨k,hk,rfl⟩
 ·exact .inr ⟨c,hc,Z2a cov hcn,hcn,hmin,rfl⟩
def fK(o:Th×Int):PV:=.tup [ů o.1,.int o.2]
def Z1E{w h:Nat}{T:List Th}{D:List Dy}{qs:List Wt}(hq:∀q∈qs,Zj w h q/\Zm D q):vp [.sh (Z0 w h T D),.sh (.lst (qs.map ŝ))]=.ret (.sh .non):=by
 obtain⟨a,b,c,e⟩:=Z0v (T:=T) qs (.sh (.lst (qs.map ŝ))) .no .no .no hq
 generalize Z0 w h T D=Yv at *
 generalize qs.map ŝ=QS at *
 simp[vp,C_,List.replicate,e]
def Z2I{w h:Nat}{T:List Th}(Y:yW w h T){lg:Nat}{D:List Dy}(hD:∀d∈D,Zb lg d){t:Th}(hg:Z3 t.1 t.2=true){qs:List Wt}(hl:qs.length<=1000)(hq:∀q∈qs,Zj w h q/\Zm D q) :
 oO [.sh (Z0 w h T D),.sh (ů t),.sh (.lst (qs.map ŝ))]=.ret (.sh (.int (Z1 qs.length (λk=>gZ D t (qs.getD k default)):Nat))):=by
 have c1:=ĩ (g:=gT 3 (Đ (gN 2) (Đ (gN 3) (Đ (gN 4) Ĳ)))) (mt:=İ) (me:=ċ (Č rN (Ă 0 (Ă 2 (Ċ (Ą Ĕ (ċ (Č iR (Ă 1 (Ă 3 ĉ)))) (Ā 4)) ĉ))))) ŝ (λq=>PV.bl (gZ D t q)) (λρ=>∃a b c,ρ=[.sh (ů t),.sh (Z0 w h T D),a,b,c]) qs [.sh (ů t),.sh (Z0 w h T D),.no,.no,.no] [] ⟨_,_,_,rfl⟩ (by simp;omega) (by
  rintro q hm ρ ⟨a,b,c,rfl⟩
  obtain⟨hs,ht⟩:=hq q hm
  obtain⟨TV,e1,e2,e3⟩:=Z07 (w:=w) (h:=h) (T:=T) hD ht
  have e4:=Z15 Y hg hs e3
  generalize Z0 w h T D=Yv at *
  generalize ů t=V at *
  generalize g_ (pq D q)=O at *
  exact⟨[.sh V,.sh Yv,.sh (.tup [.int q.1,.int q.2.1]),.sh (.int q.2.2.1),.sh (.int q.2.2.2)],[.sh V,.sh Yv,.sh (.tup [.int q.1,.int q.2.1]),.sh (.int q.2.2.1),.sh (.int q.2.2.2)],[.sh V,.sh Yv,.sh (.tup [.int q.1,.int q.2.1]),.sh (.int q.2.2.1),.sh (.int q.2.2.2)],by simp[ŝ],by simp,by simp[e1,e2,e4,-wM],_,_,_,rfl⟩)
 rw[List.nil_append,Zl (λq=>PV.bl (gZ D t q)) default qs] at c1
 have e:=Z0l (λk=>gZ D t (qs.getD k default)) hl
 generalize (List.range qs.length).map (λk=>PV.bl (gZ D t (qs.getD k default)))=B at *
 generalize Z0 w h T D=Yv at *
 generalize ů t=V at *
 generalize qs.map ŝ=QS at *
 simp[oO,Dr,List.replicate,dz,bV,c1,e]
def Z2J{w h:Nat}{T:List Th}(Y:yW w h T){lg:Nat}{D:List Dy}(hD:∀d∈D,Zb lg d){qs:List Wt}(hl:qs.length<=1000)(hq:∀q∈qs,Zj w h q/\Zm D q) :
 vG [.sh (Z0 w h T D),.sh (.lst (qs.map ŝ))]=.ret (.sh (.int (Z1 qs.length (λk=>jy T D (qs.getD k default)):Nat))):=by
 have c1:=ĩ (g:=gT 3 (Đ (gN 1) (Đ (gN 2) (Đ (gN 3) Ĳ)))) (mt:=İ) (me:=ċ (Č iT (Ă 0 (Ċ (Ą Ĕ (ċ (Č iR (Ă 0 (Ă 2 ĉ)))) (Ā 3)) (Ă 1 ĉ))))) ŝ (λq=>PV.bl (jy T D q)) (λρ=>∃a b c,ρ=[.sh (Z0 w h T D),a,b,c]) qs [.sh (Z0 w h T D),.no,.no,.no] [] ⟨_,_,_,rfl⟩ (by simp;omega) (by
  rintro q hm ρ ⟨a,b,c,rfl⟩
  obtain⟨hs,ht⟩:=hq q hm
  obtain⟨TV,e1,e2,e3⟩:=Z07 (w:=w) (h:=h) (T:=T) hD ht
  have e4:=Z0m Y hs e3
  generalize Z0 w h T D=Yv at *
  generalize g_ (pq D q)=O at *
  exact⟨[.sh Yv,.sh (.tup [.int q.1,.int q.2.1]),.sh (.int q.2.2.1),.sh (.int q.2.2.2)],[.sh Yv,.sh (.tup [.int q.1,.int q.2.1]),.sh (.int q.2.2.1),.sh (.int q.2.2.2)],[.sh Yv,.sh (.tup [.int q.1,.int q.2.1]),.sh (.int q.2.2.1),.sh (.int q.2.2.2)],by simp[ŝ],by simp,by simp[e1,e2,e4,-wM],_,_,_,rfl⟩)
 rw[List.nil_append,Zl (λq=>PV.bl (jy T D q)) default qs] at c1
 have e:=Z0l (λk=>jy T D (qs.getD k default)) hl
 generalize (List.range qs.length).map (λk=>PV.bl (jy T D (qs.getD k default)))=B at *
 generalize Z0 w h T D=Yv at *
 generalize qs.map ŝ=QS at *
 simp[vG,Dt,List.replicate,dz,bV,c1,e]
def Z3S{w h:Nat}{T:List Th}(Y:yW w h T){lg:Nat}{D:List Dy}(hD:∀d∈D,Zb lg d){O:List (Th×Int)}(hO:O.length<=9)(Bk:∀o∈O,Z3 o.1.1 o.1.2=true){qs:List Wt}(hl:qs.length<=1000)(hq:∀q∈qs,Zj w h q/\Zm D q) :
 ∃v,lQ [.sh (Z0 w h T D),.sh (.lst (O.map fK)),.bw (qs.map ŝ)]=.ret (.sh v)/\
  Z0o (λk=>(O.getD k default).2) (λc=>Z2 (λk=>Z1 qs.length (λj=>gZ D (O.getD k default).1 (qs.getD j default))) O.length c (Z1 qs.length (λk=>jy T D (qs.getD k default)))) O.length qs.length v:=by
 have k1:=Z2C (T:=T) hq
 have c1:=ĩ (g:=gT 2 (Đ (gN 0) (Đ (gN 1) Ĳ))) (mt:=İ) (me:=Ę 1) fK (λo=>PV.int o.2) (λρ=>∃a b,ρ=[a,b]) O [.no,.no] [] ⟨_,_,rfl⟩ (by simp;omega) (by
  rintro t _ ρ ⟨a,b,rfl⟩
  exact⟨[.sh (ů t.1),.sh (.int t.2)],[.sh (ů t.1),.sh (.int t.2)],[.sh (ů t.1),.sh (.int t.2)],by simp[fK],by simp,by simp,_,_,rfl⟩)
 have c2:=ĩ (g:=gT 2 (Đ (gN 2) (Đ (gN 3) Ĳ))) (mt:=İ) (me:=ċ (Č oO (Ă 0 (Ă 2 (Ă 1 ĉ))))) fK (λo=>PV.int (Z1 qs.length (λk=>gZ D o.1 (qs.getD k default)):Nat)) (λρ=>∃a b,ρ=[.sh (Z0 w h T D),.bw (qs.map ŝ),a,b]) O [.sh (Z0 w h T D),.bw (qs.map ŝ),.no,.no] [] ⟨_,_,rfl⟩ (by simp;omega) (by
  rintro t ht ρ ⟨a,b,rfl⟩
  have e:=Z3P Y hD (Bk t ht) hl hq
  generalize Z0 w h T D=Yv at *
  generalize qs.map ŝ=QS at *
  exact⟨[.sh Yv,.bw QS,.sh (ů t.1),.sh (.int t.2)],[.sh Yv,.bw QS,.sh (ů t.1),.sh (.int t.2)],[.sh Yv,.bw QS,.sh (ů t.1),.sh (.int t.2)],by simp[fK],by simp,by simp[e],_,_,rfl⟩)
 have k2:=Z3Q Y hD hl hq
 rw[List.nil_append,Zl (λo:Th×Int=>PV.int o.2) default O] at c1
 rw[List.nil_append,Zl (λo:Th×Int=>PV.int ((Z1 qs.length (λk=>gZ D o.1 (qs.getD k default)):Nat):Int)) default O] at c2
 obtain⟨v,k3,hv⟩:=Z0a (λk=>(O.getD k default).2) (λk=>Z1 qs.length (λj=>gZ D (O.getD k default).1 (qs.getD j default))) (n:=O.length) (many:=qs.length) hO hl (Z1 qs.length (λk=>jy T D (qs.getD k default)))
 have hv:=Z0F _ _ hv
 have Sh:((qs.map ŝ).length:Int)=(qs.length:Int):=by simp
 refine⟨v,?_,hv⟩
 clear hv
 generalize (List.range O.length).map (λk=>PV.int ((Z1 qs.length (λj=>gZ D (O.getD k default).1 (qs.getD j default)):Nat):Int))=CV at *
 generalize (List.range O.length).map (λk=>PV.int (O.getD k default).2)=PR at *
 generalize Z1 qs.length (λk=>jy T D (qs.getD k default))=B0 at *
 generalize Z0 w h T D=Yv at *
 generalize qs.map ŝ=QS at *
 generalize O.map fK=OS at *
 simp[lQ,Du,List.replicate,dz,bV,k1,c1,c2,k2,k3,Sh]
def Z2K{w h:Nat}{T:List Th}(Y:yW w h T){lg:Nat}{D:List Dy}(hD:∀d∈D,Zb lg d){O:List (Th×Int)}(hO:O.length<=9)(Bk:∀o∈O,Z3 o.1.1 o.1.2=true){qs:List Wt}(hl:qs.length<=1000)(hq:∀q∈qs,Zj w h q/\Zm D q) :
 ∃v,lQ [.sh (Z0 w h T D),.sh (.lst (O.map fK)),.sh (.lst (qs.map ŝ))]=.ret (.sh v)/\
  Z0o (λk=>(O.getD k default).2) (λc=>Z2 (λk=>Z1 qs.length (λj=>gZ D (O.getD k default).1 (qs.getD j default))) O.length c (Z1 qs.length (λk=>jy T D (qs.getD k default)))) O.length qs.length v:=by
 have k1:=Z1E (T:=T) hq
 have c1:=ĩ (g:=gT 2 (Đ (gN 0) (Đ (gN 1) Ĳ))) (mt:=İ) (me:=Ę 1) fK (λo=>PV.int o.2) (λρ=>∃a b,ρ=[a,b]) O [.no,.no] [] ⟨_,_,rfl⟩ (by simp;omega) (by
  rintro t _ ρ ⟨a,b,rfl⟩
  exact⟨[.sh (ů t.1),.sh (.int t.2)],[.sh (ů t.1),.sh (.int t.2)],[.sh (ů t.1),.sh (.int t.2)],by simp[fK],by simp,by simp,_,_,rfl⟩)
 have c2:=ĩ (g:=gT 2 (Đ (gN 2) (Đ (gN 3) Ĳ))) (mt:=İ) (me:=ċ (Č oO (Ă 0 (Ă 2 (Ă 1 ĉ))))) fK (λo=>PV.int (Z1 qs.length (λk=>gZ D o.1 (qs.getD k default)):Nat)) (λρ=>∃a b,ρ=[.sh (Z0 w h T D),.sh (.lst (qs.map ŝ)),a,b]) O [.sh (Z0 w h T D),.sh (.lst (qs.map ŝ)),.no,.no] [] ⟨_,_,rfl⟩ (by simp;omega) (by
  rintro t ht ρ ⟨a,b,rfl⟩
  have e:=Z2I Y hD (Bk t ht) hl hq
  generalize Z0 w h T D=Yv at *
  generalize qs.map ŝ=QS at *
  exact⟨[.sh Yv,.sh (.lst QS),.sh (ů t.1),.sh (.int t.2)],[.sh Yv,.sh (.lst QS),.sh (ů t.1),.sh (.int t.2)],[.sh Yv,.sh (.lst QS),.sh (ů t.1),.sh (.int t.2)],by simp[fK],by simp,by simp[e],_,_,rfl⟩)
 have k2:=Z2J Y hD hl hq
 rw[List.nil_append,Zl (λo:Th×Int=>PV.int o.2) default O] at c1
 rw[List.nil_append,Zl (λo:Th×Int=>PV.int ((Z1 qs.length (λk=>gZ D o.1 (qs.getD k default)):Nat):Int)) default O] at c2
 obtain⟨v,k3,hv⟩:=Z0a (λk=>(O.getD k default).2) (λk=>Z1 qs.length (λj=>gZ D (O.getD k default).1 (qs.getD j default))) (n:=O.length) (many:=qs.length) hO hl (Z1 qs.length (λk=>jy T D (qs.getD k default)))
 have hv:=Z0F _ _ hv
 have Sh:((qs.map ŝ).length:Int)=(qs.length:Int):=by simp
 refine⟨v,?_,hv⟩
 clear hv
 generalize (List.range O.length).map (λk=>PV.int ((Z1 qs.length (λj=>gZ D (O.getD k default).1 (qs.getD j default)):Nat):Int))=CV at *
 generalize (List.range O.length).map (λk=>PV.int (O.getD k default).2)=PR at *
 generalize Z1 qs.length (λk=>jy T D (qs.getD k default))=B0 at *
 generalize Z0 w h T D=Yv at *
 generalize qs.map ŝ=QS at *
 generalize O.map fK=OS at *
 simp[lQ,Du,List.replicate,dz,bV,k1,c1,c2,k2,k3,Sh]
def Z3o{w h:Nat}(hw:0<w){q:Wt}(hs:Zj w h q):∃k,k<w*h/\((q.1,q.2.1):Hu.Pt)=kW w k/\q.2.1*(w:Int)+q.1=(k:Int):=by
 obtain⟨k,hk,e⟩:=Z1i hw hs
 refine⟨k,hk,e,?_⟩
 have e1:q.1=((k % w:Nat):Int):=congrArg Prod.fst e
 have e2:q.2.1=((k / w:Nat):Int):=congrArg Prod.snd e
 rw[e1,e2]
 have:=Nat.div_add_mod k w
 have h3:k / w*w+k % w=k:=by rw[Nat.mul_comm];exact this
 exact_mod_cast h3
def Z1k{D:List Dy}{lg:Nat}(hD:∀d∈D,Zb lg d){q:Wt}(hq:Zm D q):∃(i t:Nat) (nm:Str) (len:Int) (TV:List PV),q.2.2.1=(i:Int)/\q.2.2.2=(t:Int)/\(D.map aD)[i]?=some (.tup [.str nm,.int len,.lst TV])/\TV[t]?=some (g_ (pq D q))/\Py (pq D q):=by
 obtain⟨⟨a1,a2⟩,a3,a4⟩:=hq
 obtain⟨i,hi⟩:∃i:Nat,q.2.2.1=(i:Int):=⟨q.2.2.1.toNat,by omega⟩
 obtain⟨t,ht⟩:∃t:Nat,q.2.2.2=(t:Int):=⟨q.2.2.2.toNat,by omega⟩
 have hil:i<D.length:=by omega
 have hg:D.getD q.2.2.1.toNat default=D[i]:=by rw[hi];simp[hil]
 rw[hg] at a4
 have htl:t<D[i].2.2.length:=by omega
 have ho:pq D q=D[i].2.2[t]:=by
  unfold pq
  rw[hg,ht]
  simp[htl]
 refine⟨i,t,D[i].1,D[i].2.1,D[i].2.2.map g_,hi,ht,by simp[hil,aD],?_,?_⟩
 ·rw[ho];simp[htl]
 ·rw[ho];exact(hD D[i] (List.getElem_mem hil)).2.2 _ (List.getElem_mem htl)
def Z3T{w h:Nat}{T:List Th}(Y:yW w h T){D:List Dy}{q:Wt}(hst:Zj w h q):∃k:Nat,q.2.1*(w:Int)+q.1=(k:Int)/\(dkA w h T (pq D q)).testBit k=jy T D q:=by
 obtain⟨k,hk,e1,e2⟩:=Z3o Y.w0 hst
 refine⟨k,e2,?_⟩
 unfold dkA
 rw[ZE,decide_eq_true hk,Bool.true_and]
 unfold jy Sg
 cases pq D q with
 |none=>rfl
 |some r=>unfold yV;dsimp only;rw[<-e1]
def Z16(f:Nat->Bool)(j:Nat):((Z1 (j+1) f:Nat):Int)=(Z1 j f:Nat)+(if f j then 2 ^ j else 0):=by
 cases hf:f j with
 |false=>simp[Z1,hf]
 |true=>simp[Z1,hf]
def Z2c{w h:Nat}{T:List Th}(Y:yW w h T){lg:Nat}{D:List Dy}(hD:∀d∈D,Zb lg d){qs:List Wt}(hl:qs.length<=1000)(hq:∀q∈qs,Zj w h q/\Zm D q){j:Nat}(hj:j<qs.length)(a b c d:P.Slot) :
 ∃a' b' c' d',rZ [.sh (Z0 w h T D),.bw (qs.map ŝ),.sh (.int (Z1 j (λk=>jy T D (qs.getD k default)):Nat)),.sh (.int j),a,b,c,d]=.ok .nx [.sh (Z0 w h T D),.bw (qs.map ŝ),.sh (.int (Z1 (j+1) (λk=>jy T D (qs.getD k default)):Nat)),.sh (.int j),a',b',c',d']:=by
 rw[Z16]
 have hgd:qs.getD j default=qs[j]:=by simp[hj]
 obtain⟨hst,htu⟩:=hq qs[j] (List.getElem_mem hj)
 have hx:(qs.map ŝ)[j]?=some (ŝ qs[j]):=by simp[hj]
 rw[hgd]
 generalize qs[j]=q at *
 obtain⟨i,t,nm,len,TV,hi,ht,hdx,htx,Sd⟩:=Z1k hD htu
 obtain⟨k,e2,hbit⟩:=Z3T Y (D:=D) hst
 have hdk:=Z3f Y.w0 Y.w1 Y.h1 Y.wh Y.tl D Y.tg Sd
 have h1:=ZJ (dkA w h T (pq D q)) k
 rw[hbit] at h1
 have yw:=y_w w h T D
 have yd:=y_d w h T D
 have mo:ō q.2.1 (w:Int)=true:=by
  obtain⟨_,b3,b4⟩:=hst
  have:=Y.w1
  have:=Y.h1
  exact bh (by omega) (by omega)
 have po:bW 1 (j:Int)=true:=by simp[bW];omega
 have po0:bW 0 (j:Int)=true:=by simp[bW];omega
 generalize Z1 j (λk=>jy T D (qs.getD k default))=Bj at *
 generalize dkA w h T (pq D q)=B at *
 generalize g_ (pq D q)=OV at *
 generalize D.map aD=DV at *
 generalize Z0 w h T D=Yv at *
 generalize qs.map ŝ=QS at *
 refine⟨.sh (.int B),.sh (.tup [.int q.1,.int q.2.1]),.sh (.int i),.sh (.int t),?_⟩
 cases hb:jy T D q with
 |true=>
  rw[hb] at h1
  simp at h1
  simp[rZ,hx,ŝ,hi,ht,yd,hdx,htx,hdk,yw,mo,e2,Zr,h1,po]
 |false=>
  rw[hb] at h1
  simp at h1
  simp[rZ,hx,ŝ,hi,ht,yd,hdx,htx,hdk,yw,mo,e2,Zr,h1,po0]
theorem Z0G{w h:Nat}{T:List Th}(Y:yW w h T){lg:Nat}{D:List Dy}(hD:∀d∈D,Zb lg d){qs:List Wt}(hl:qs.length<=1000)(hq:∀q∈qs,Zj w h q/\Zm D q):∀(n j:Nat) (z a b c d:P.Slot),j+n<=qs.length->
 ∃z' a' b' c' d',forL (gN 3) rZ ((List.range' j n).map λ(k:Nat)=>PV.int (k:Int)) [.sh (Z0 w h T D),.bw (qs.map ŝ),.sh (.int (Z1 j (λk=>jy T D (qs.getD k default)):Nat)),z,a,b,c,d]=.ok .nx [.sh (Z0 w h T D),.bw (qs.map ŝ),.sh (.int (Z1 (j+n) (λk=>jy T D (qs.getD k default)):Nat)),z',a',b',c',d']
 |0,j,z,a,b,c,d,_=>⟨z,a,b,c,d,rfl⟩
 |n+1,j,z,a,b,c,d,hj=>by
  obtain⟨a1,b1,c1,d1,e1⟩:=Z2c Y hD hl hq (show j<qs.length by omega) a b c d
  obtain⟨z',a',b',c',d',e2⟩:=Z0G Y hD hl hq n (j+1) (.sh (.int j)) a1 b1 c1 d1 (by omega)
  refine⟨z',a',b',c',d',?_⟩
  rw[List.range'_succ,List.map_cons,forL]
  rw[show j+(n+1)=j+1+n by omega]
  generalize Z1 (j+1+n) (λk=>jy T D (qs.getD k default))=B3 at *
  generalize Z1 (j+1) (λk=>jy T D (qs.getD k default))=B2 at *
  generalize Z1 j (λk=>jy T D (qs.getD k default))=B1 at *
  generalize Z0 w h T D=Yv at *
  generalize qs.map ŝ=QS at *
  simp[e1]
  simpa using e2
def Z2L{w h:Nat}{T:List Th}(Y:yW w h T){lg:Nat}{D:List Dy}(hD:∀d∈D,Zb lg d){qs:List Wt}(hl:qs.length<=1000)(hq:∀q∈qs,Zj w h q/\Zm D q):vM [.sh (Z0 w h T D),.bw (qs.map ŝ)]=.ret (.sh (.int (Z1 qs.length (λk=>jy T D (qs.getD k default)):Nat))):=by
 obtain⟨z',a',b',c',d',e⟩:=Z0G Y hD hl hq qs.length 0 .no .no .no .no .no (by omega)
 have rr:=Zs (n:=qs.length) hl
 have Sh:((qs.map ŝ).length:Int)=(qs.length:Int):=by simp
 rw[<-List.range_eq_range',Nat.zero_add] at e
 have z:((Z1 0 (λk=>jy T D (qs.getD k default)):Nat):Int)=0:=rfl
 rw[z] at e
 generalize Z1 qs.length (λk=>jy T D (qs.getD k default))=B at *
 generalize Z0 w h T D=Yv at *
 generalize qs.map ŝ=QS at *
 simp[vM,Ng,List.replicate,Sh,rr,e]
def Z1F{w h:Nat}{T:List Th}(Y:yW w h T){lg:Nat}{D:List Dy}(hD:∀d∈D,Zb lg d){th:Th}(hg:Z3 th.1 th.2=true){qs:List Wt}(hl:qs.length<=1000)(hq:∀q∈qs,Zj w h q/\Zm D q){j:Nat}(hj:j<qs.length)(a b c d:P.Slot) :
 ∃a' b' c' d',nP [.sh (ů th),.bw (D.map aD),.bw (qs.map ŝ),.sh (.int (Z1 j (λk=>gZ D th (qs.getD k default)):Nat)),.sh (.int j),a,b,c,d]=.ok .nx [.sh (ů th),.bw (D.map aD),.bw (qs.map ŝ),.sh (.int (Z1 (j+1) (λk=>gZ D th (qs.getD k default)):Nat)),.sh (.int j),a',b',c',d']:=by
 rw[Z16]
 have hgd:qs.getD j default=qs[j]:=by simp[hj]
 obtain⟨hst,htu⟩:=hq qs[j] (List.getElem_mem hj)
 have hx:(qs.map ŝ)[j]?=some (ŝ qs[j]):=by simp[hj]
 rw[hgd]
 generalize qs[j]=q at *
 obtain⟨i,t,nm,len,TV,hi,ht,hdx,htx,Sd⟩:=Z1k hD htu
 have po:bW 1 (j:Int)=true:=by simp[bW];omega
 have hb:PB (tQ ((q.1,q.2.1):Hu.Pt)):=by
  have w1:=Y.w1
  have h1:=Y.h1
  obtain⟨⟨b1,b2⟩,b3,b4⟩:=hst
  unfold PB tQ
  dsimp only
  omega
 unfold gZ
 generalize Z1 j (λk=>gZ D th (qs.getD k default))=Bj at *
 generalize D.map aD=DV at *
 generalize qs.map ŝ=QS at *
 cases e:pq D q with
 |none=>
  rw[e] at htx
  generalize ů th=V at *
  refine⟨.sh .non,.sh (.tup [.int q.1,.int q.2.1]),.sh (.int i),.sh (.int t),?_⟩
  have Sq:TV[t]?=some .non:=htx
  simp[nP,hx,ŝ,hi,ht,hdx,Sq,nA]
 |some r=>
  rw[e] at Sd htx
  have hsh:=ZY hg Sd.1 hb
  have e1:pt ((q.1,q.2.1):Hu.Pt)=.tup [.int q.1,.int q.2.1]:=rfl
  rw[e1] at hsh
  have hsh':jD [.sh (ů th),.sh (.tup [.int q.1,.int q.2.1]),.sh (c3 r)]=.ret (.sh (.bl (R_ th.1 th.2 (q.1,q.2.1) r))):=hsh
  have Sq:TV[t]?=some (c3 r):=htx
  have hn:nA (c3 r)=false:=rfl
  generalize ů th=V at *
  generalize c3 r=R at *
  refine⟨.sh R,.sh (.tup [.int q.1,.int q.2.1]),.sh (.int i),.sh (.int t),?_⟩
  cases hs:R_ th.1 th.2 (q.1,q.2.1) r with
  |true=>
   rw[hs] at hsh'
   simp[nP,hx,ŝ,hi,ht,hdx,Sq,hn,hsh',po,hs]
  |false=>
   rw[hs] at hsh'
   simp[nP,hx,ŝ,hi,ht,hdx,Sq,hn,hsh',hs]
theorem Z0p{w h:Nat}{T:List Th}(Y:yW w h T){lg:Nat}{D:List Dy}(hD:∀d∈D,Zb lg d){th:Th}(hg:Z3 th.1 th.2=true){qs:List Wt}(hl:qs.length<=1000)(hq:∀q∈qs,Zj w h q/\Zm D q):∀(n j:Nat) (z a b c d:P.Slot),j+n<=qs.length->
 ∃z' a' b' c' d',forL (gN 4) nP ((List.range' j n).map λ(k:Nat)=>PV.int (k:Int)) [.sh (ů th),.bw (D.map aD),.bw (qs.map ŝ),.sh (.int (Z1 j (λk=>gZ D th (qs.getD k default)):Nat)),z,a,b,c,d]=.ok .nx [.sh (ů th),.bw (D.map aD),.bw (qs.map ŝ),.sh (.int (Z1 (j+n) (λk=>gZ D th (qs.getD k default)):Nat)),z',a',b',c',d']
 |0,j,z,a,b,c,d,_=>⟨z,a,b,c,d,rfl⟩
 |n+1,j,z,a,b,c,d,hj=>by
  obtain⟨a1,b1,c1,d1,e1⟩:=Z1F Y hD hg hl hq (show j<qs.length by omega) a b c d
  obtain⟨z',a',b',c',d',e2⟩:=Z0p Y hD hg hl hq n (j+1) (.sh (.int j)) a1 b1 c1 d1 (by omega)
  refine⟨z',a',b',c',d',?_⟩
  rw[List.range'_succ,List.map_cons,forL]
  rw[show j+(n+1)=j+1+n by omega]
  generalize Z1 (j+1+n) (λk=>gZ D th (qs.getD k default))=B3 at *
  generalize Z1 (j+1) (λk=>gZ D th (qs.getD k default))=B2 at *
  generalize Z1 j (λk=>gZ D th (qs.getD k default))=B1 at *
  generalize ů th=V at *
  generalize D.map aD=DV at *
  generalize qs.map ŝ=QS at *
  simp[e1]
  simpa using e2
def Z2d{w h:Nat}{T:List Th}(Y:yW w h T){lg:Nat}{D:List Dy}(hD:∀d∈D,Zb lg d){th:Th}(hg:Z3 th.1 th.2=true){qs:List Wt}(hl:qs.length<=1000)(hq:∀q∈qs,Zj w h q/\Zm D q):vN [.sh (ů th),.bw (D.map aD),.bw (qs.map ŝ)]=.ret (.sh (.int (Z1 qs.length (λk=>gZ D th (qs.getD k default)):Nat))):=by
 obtain⟨z',a',b',c',d',e⟩:=Z0p Y hD hg hl hq qs.length 0 .no .no .no .no .no (by omega)
 have rr:=Zs (n:=qs.length) hl
 have Sh:((qs.map ŝ).length:Int)=(qs.length:Int):=by simp
 rw[<-List.range_eq_range',Nat.zero_add] at e
 have z:((Z1 0 (λk=>gZ D th (qs.getD k default)):Nat):Int)=0:=rfl
 rw[z] at e
 generalize Z1 qs.length (λk=>gZ D th (qs.getD k default))=B at *
 generalize ů th=V at *
 generalize D.map aD=DV at *
 generalize qs.map ŝ=QS at *
 simp[vN,Nh,List.replicate,Sh,rr,e]
def Z48:BZ 2 0=some 0:=rfl
def Z49:BZ 2 1=some 1:=rfl
def Z2e{w h:Nat}(hw:0<w)(hh:0<h){lg:Nat}{D:List Dy}(hD:∀d∈D,Zb lg d)(hl:0<D.length)(c:Int)(Q:List Wt)(hQ:Q.length<=1000)(z a b:P.Slot):∃(q:Wt) (a' b':P.Slot),Gq [z,.sh (.tup [.int w,.int h]),.bw (D.map aD),.ow (Q.map ŝ),.sh (.int c),a,b]=.ok .nx [z,.sh (.tup [.int w,.int h]),.bw (D.map aD),.ow ((Q ++ [q]).map ŝ),.sh (.int c),a',b']/\Zj w h q/\Zm D q:=by
 obtain⟨xs,eg,hx,_⟩:=Zy c (n:=4) (by omega)
 obtain⟨a0,x0⟩:∃a,(xs.map PV.int)[0]?=some (.int a):=⟨xs[0],by simp⟩
 obtain⟨a1,x1⟩:∃a,(xs.map PV.int)[1]?=some (.int a):=⟨xs[1],by simp⟩
 obtain⟨a2,x2⟩:∃a,(xs.map PV.int)[2]?=some (.int a):=⟨xs[2],by simp⟩
 obtain⟨a3,x3⟩:∃a,(xs.map PV.int)[3]?=some (.int a):=⟨xs[3],by simp⟩
 have f1:∀(b:Int) {n:Nat},0<n->b.fmod (n:Int)=b % n/\0<=b % (n:Int)/\b % (n:Int)<n:=λb n hn=>⟨Int.fmod_eq_emod_of_nonneg _ (by omega),Int.emod_nonneg _ (by omega),Int.emod_lt_of_pos _ (by omega)⟩
 obtain⟨g1,g2,g3⟩:=f1 a0 hl
 obtain⟨i,hi⟩:∃i:Nat,a0 % (D.length:Int)=(i:Int):=⟨(a0 % (D.length:Int)).toNat,by omega⟩
 have hil:i<D.length:=by omega
 have hdk:=hD D[i] (List.getElem_mem hil)
 have hlen:=hdk.2.1.1
 obtain⟨w1,w2,w3⟩:=f1 a1 hw
 obtain⟨h1,h2,h3⟩:=f1 a2 hh
 obtain⟨t1,t2,t3⟩:=f1 a3 (show 0<D[i].2.2.length by omega)
 refine⟨(a1 % w,a2 % h,i,a3 % D[i].2.2.length),.ow (xs.map .int),.sh (.int i),?_,⟨⟨w2,w3⟩,h2,h3⟩,⟨⟨by dsimp only;omega,by dsimp only;omega⟩,t2,?_⟩⟩
 ·have hdl:(D.map aD).length=D.length:=by simp
  have hdx:(D.map aD)[i]?=some (.tup [.str D[i].1,.int D[i].2.1,.lst (D[i].2.2.map g_)]):=by simp[hil,aD]
  have htl:(D[i].2.2.map g_).length=D[i].2.2.length:=by simp
  have hQl:(Q.map ŝ).length<16777216:=by rw[List.length_map];omega
  have z1:¬w=0:=by omega
  have z2:¬h=0:=by omega
  have z3:¬D.length=0:=by omega
  have z4:¬D[i].2.2.length=0:=by omega
  have eg':b_ [.sh (.int c),.sh (.int 4)]=.ret (.ow (xs.map .int)):=eg
  rw[List.map_append]
  rw[<-hdl] at g1 z3 hi
  rw[<-htl] at t1 z4 ⊢
  generalize Q.map ŝ=QS at *
  generalize D[i].2.2.map g_=TV at *
  generalize D.map aD=DV at *
  generalize xs.map PV.int=XS at *
  simp[Gq,eg',x0,x1,x2,x3,g1,hi,hdx,z1,z2,z3,z4,w1,h1,t1,ŝ,hQl,Z48,Z49]
 ·have hg:D.getD ((i:Int)).toNat default=D[i]:=by simp[hil]
  dsimp only
  rw[hg]
  exact t3
theorem Z0H{w h:Nat}(hw:0<w)(hh:0<h){lg:Nat}{D:List Dy}(hD:∀d∈D,Zb lg d)(hl:0<D.length)(z:P.Slot):∀(cs:List Int) (Q:List Wt) (c a b:P.Slot),Q.length+cs.length<=1000->(∀q∈Q,Zj w h q/\Zm D q)->∃(Q':List Wt) (c' a' b':P.Slot),forL (gN 4) Gq (cs.map .int) [z,.sh (.tup [.int w,.int h]),.bw (D.map aD),.ow (Q.map ŝ),c,a,b]=.ok .nx [z,.sh (.tup [.int w,.int h]),.bw (D.map aD),.ow (Q'.map ŝ),c',a',b']/\Q'.length=Q.length+cs.length/\∀q∈Q',Zj w h q/\Zm D q
 | [],Q,c,a,b,_,hq=>⟨Q,c,a,b,rfl,rfl,hq⟩
 |x::cs,Q,c,a,b,hn,hq=>by
  simp only[List.length_cons] at hn
  obtain⟨q,a1,b1,e1,g1⟩:=Z2e hw hh hD hl x Q (by omega) z a b
  obtain⟨Q',c',a',b',e2,l2,g2⟩:=Z0H hw hh hD hl z cs (Q ++ [q]) (.sh (.int x)) a1 b1 (by simp;omega) (by
   intro y hy
   rcases List.mem_append.mp hy with hy|hy
   ·exact hq y hy
   ·rw[List.mem_singleton.mp hy];exact g1)
  refine⟨Q',c',a',b',?_,by simp at l2 ⊢;omega,g2⟩
  rw[List.map_cons,forL]
  generalize (Q ++ [q]).map ŝ=Q1 at *
  generalize Q'.map ŝ=Q2 at *
  generalize Q.map ŝ=QS at *
  generalize D.map aD=DV at *
  simp[e1]
  exact e2
def Z1G{w h:Nat}(hw:0<w)(hh:0<h){lg:Nat}{D:List Dy}(hD:∀d∈D,Zb lg d)(hl:0<D.length)(cs:List Int)(hc:cs.length<=1000):∃qs:List Wt,Lw [.sh (.lst (cs.map .int)),.sh (.tup [.int w,.int h]),.bw (D.map aD)]=.ret (.ow (qs.map ŝ))/\qs.length=cs.length/\∀q∈qs,Zj w h q/\Zm D q:=by
 obtain⟨Q',c',a',b',e,l,g⟩:=Z0H hw hh hD hl (.sh (.lst (cs.map .int))) cs [] .no .no .no (by simpa using hc) (by simp)
 refine⟨Q',?_,by simpa using l,g⟩
 rw[List.map_nil] at e
 generalize cs.map PV.int=CS at *
 generalize Q'.map ŝ=Q2 at *
 generalize D.map aD=DV at *
 simp[Lw,Wd,List.replicate,e]
def Z4a(c:Char):c.toNat<1114112:=by
 have h:=c.valid
 show c.val.toNat<1114112
 rcases h with h|⟨_,h⟩
 ·have:c.val.toNat<55296:=h
  omega
 ·exact h
def Z2f(s:String):∀x∈(Str.ofString s).cps.toList,x<1114112:=by
 intro x hx
 rw[PyProof.Rows.signs_ofString] at hx
 obtain⟨c,_,rfl⟩:=List.mem_map.mp hx
 exact Z4a c
def Z2g{x:Str}:PyData.strOk x=true↔∀c∈x.cps.toList,c<1114112:=by
 unfold PyData.strOk
 rw[<-Array.all_toList,List.all_eq_true]
 simp
theorem Z17{sep:List Nat}{x:Nat}:∀{ys:List (List Nat)},x∈gC sep ys->x∈sep\/∃y∈ys,x∈y
 | [],h=>by simp[gC] at h
 | [y],h=>.inr ⟨y,by simp,h⟩
 |y::z::r,h=>by
  rw[gC,List.mem_append,List.mem_append] at h
  rcases h with(h|h)|h
  ·exact .inr ⟨y,by simp,h⟩
  ·exact .inl h
  ·rcases Z17 h with q|⟨y',q1,q2⟩
   ·exact .inl q
   ·exact .inr ⟨y',List.mem_cons_of_mem _ q1,q2⟩
def Z3p{n:Int}(h1: -1000000000<=n)(h2:n<=1000000000):(Str.ofString (toString n)).cps.toList.length<=20:=by
 rw[PyProof.Rows.signs_ofString,List.length_map]
 have key:∀m:Nat,m<=1000000000->(toString m:String).length<=10:=by
  intro m hm
  show m.repr.length<=10
  exact(Nat.length_repr_le_iff (by decide)).mpr (by omega)
 cases n with
 |ofNat m=>
  have:=key m (by have:((m:Nat):Int)<=1000000000:=h2;omega)
  have e:(toString (Int.ofNat m):String)=toString m:=rfl
  rw[e,String.length_toList]
  omega
 |negSucc m=>
  have:=key (m+1) (by have:(-1000000000:Int)<=Int.negSucc m:=h1;omega)
  have e:(toString (Int.negSucc m):String)= "-" ++ toString (m+1):=rfl
  rw[e,String.length_toList,String.length_append]
  have e1:("-" :String).length=1:=rfl
  omega
def Z01(w:Str)(xs:List Int):Str:=S (gC (Str.ofString " ").cps.toList (w.cps.toList::xs.map λn=>(Str.ofString (toString n)).cps.toList))
def Z3q(w:Str)(xs:List Int):strsOf (.str w::xs.map λn=>.str (Str.ofString (toString n)))=some (w.cps.toList::xs.map λn=>(Str.ofString (toString n)).cps.toList):=by
 have:∀ys:List Int,strsOf (ys.map λn=>.str (Str.ofString (toString n)))=some (ys.map λn=>(Str.ofString (toString n)).cps.toList):=by
  intro ys
  induction ys with
  |nil=>rfl
  |cons y ys ih=>rw[List.map_cons,strsOf,ih];rfl
 rw[strsOf,this]
 rfl
def Z3U{l:List Nat}{b:Nat}(h:∀x∈l,x<=b):l.sum<=l.length*b:=by
 induction l with
 |nil=>simp
 |cons x l ih=>
  rw[List.sum_cons,List.length_cons,Nat.succ_mul]
  have:=h x (by simp)
  have:=ih λy hy=>h y (List.mem_cons_of_mem _ hy)
  omega
def Z3r{w:Str}{xs:List Int}(hw:w.cps.toList.length<=1000)(hl:xs.length<=100)(hx:∀n∈xs,-1000000000<=n/\n<=1000000000):zQ (.str (Str.ofString " ")) [.lst (.str w::xs.map λn=>.str (Str.ofString (toString n)))]=some (.str (Z01 w xs)):=by
 unfold zQ
 dsimp only
 rw[Z3q]
 have hs:((w.cps.toList::xs.map λn=>(Str.ofString (toString n)).cps.toList).map List.length).sum<=1000+100*20:=by
  rw[List.map_cons,List.sum_cons,List.map_map]
  have:=Z3U (l:=xs.map (List.length ∘ λn=>(Str.ofString (toString n)).cps.toList)) (b:=20) (λx h=>by
   obtain⟨n,hn,rfl⟩:=List.mem_map.mp h
   exact Z3p (hx n hn).1 (hx n hn).2)
  rw[List.length_map] at this
  have:xs.length*20<=100*20:=Nat.mul_le_mul_right 20 hl
  omega
 have hz:(Str.ofString " ").length=1:=by decide +kernel
 have hc:(w.cps.toList::xs.map λn=>(Str.ofString (toString n)).cps.toList).length<=101:=by simp;omega
 show(if _ then some (PV.str (S (gC (Str.ofString " ").cps.toList (w.cps.toList::xs.map λn=>(Str.ofString (toString n)).cps.toList)))) else none)=_
 rw[if_pos (by rw[hz];omega)]
 rfl
def Z2M{w:Str}(hw:PyData.strOk w=true)(xs:List Int):PyData.strOk (Z01 w xs)=true:=by
 rw[Z2g] at hw ⊢
 intro c hc
 have hc':c∈gC (Str.ofString " ").cps.toList (w.cps.toList::xs.map λn=>(Str.ofString (toString n)).cps.toList):=by simpa[Z01] using hc
 rcases Z17 hc' with q|⟨y,q1,q2⟩
 ·exact Z2f _ _ q
 ·rcases List.mem_cons.mp q1 with rfl|q1
  ·exact hw c q2
  ·obtain⟨n,_,rfl⟩:=List.mem_map.mp q1
   exact Z2f _ _ q2
def Z2h{xs:List Int}(hl:xs.length<=100)(hx:∀n∈xs,-1000000000<=n/\n<=1000000000):Ľ (gN 0) İ (aM HS (ă (Ā 0) ĕ)) (xs.map .int) [.no] []=some (xs.map λn=>.str (Str.ofString (toString n))):=by
 have:=ĩ (g:=gN 0) (mt:=İ) (me:=aM HS (ă (Ā 0) ĕ)) PV.int (λn=>.str (Str.ofString (toString n))) (λρ=>∃s,ρ=[s]) xs [.no] [] ⟨_,rfl⟩ (by simp;omega) (by
  rintro n hn ρ ⟨s,rfl⟩
  have h:=hx n hn
  have ZhV:n.natAbs.log2<1920:=by
   by_cases h0:n.natAbs=0
   ·rw[h0];decide
   ·rw[Nat.log2_lt h0]
    exact Nat.lt_of_lt_of_le (show n.natAbs<2 ^ 30 by omega) (Nat.pow_le_pow_right (by decide) (by decide))
  exact⟨[.sh (.int n)],[.sh (.int n)],[.sh (.int n)],by simp,by simp,by simp[ZhV],_,rfl⟩)
 rw[this]
 simp
def Z4b{C:String}(hC:(["Thing","Post","Fence","Sail","Cloth","House"]:List String).contains C=true)(w:Str)(xs:List Int):Ů ["Thing","Post","Fence","Sail","Cloth","House"] (Str.ofString "word") (Z4 C w xs)=some (.str w):=by
 unfold Ů Z4
 dsimp only
 rw[if_pos hC]
 rfl
def Z4c{C:String}(hC:(["Thing","Post","Fence","Sail","Cloth","House"]:List String).contains C=true)(w:Str)(xs:List Int):Ů ["Thing","Post","Fence","Sail","Cloth","House"] (Str.ofString "numbers") (Z4 C w xs)=some (.lst (xs.map .int)):=by
 unfold Ů Z4
 dsimp only
 rw[if_pos hC]
 have:(Str.ofString "numbers" == Str.ofString "word")=false:=by decide +kernel
 show List.lookup _ [(_,_),(_,_)]=_
 rw[List.lookup_cons,this]
 simp
def Z3V{C:String}(hC:(["Thing","Post","Fence","Sail","Cloth","House"]:List String).contains C=true){w:Str}{xs:List Int}(hw:w.cps.toList.length<=1000)(hl:xs.length<=100)(hx:∀n∈xs,-1000000000<=n/\n<=1000000000):ĵ [.sh (Z4 C w xs)]=.ret (.sh (.str (Z01 w xs))):=by
 have h1:=Z2h hl hx
 have h2:=Z3r hw hl hx
 have h3:=Z4b hC w xs
 have h4:=Z4c hC w xs
 have hL:(xs.map λn=>PV.str (Str.ofString (toString n))).length=xs.length:=List.length_map _
 generalize (xs.map λn=>PV.str (Str.ofString (toString n)))=L at *
 have hg:L.length+1<=16777216:=by omega
 have hg':1+L.length<=16777216:=by omega
 generalize Z4 C w xs=v at *
 simp[ĵ,Ni,List.replicate,h3,h4,h1,h2,add_l,hg,hg']
def Z3s{w:Str}{xs:List Int}(h:Z3 w xs=true):xs.length<=100/\(∀n∈xs,-1000000000<=n/\n<=1000000000)/\w.cps.toList.length<=1000:=by
 have hp:Zk xs=true->xs.length<=100/\(∀n∈xs,-1000000000<=n/\n<=1000000000):=by
  intro h
  match xs,h with
  | [a,b,c],h=>
    simp[Zk,aJ,yX] at h
    refine⟨by simp,λn hn=>?_⟩
    simp at hn
    rcases hn with rfl|rfl|rfl<;>omega
 have he:Zh xs=true->xs.length<=100/\(∀n∈xs,-1000000000<=n/\n<=1000000000):=by
  intro h
  match xs,h with
  | [a,b,c,d,e],h=>
    simp[Zh,aJ,yX] at h
    refine⟨by simp,λn hn=>?_⟩
    simp at hn
    rcases hn with rfl|rfl|rfl|rfl|rfl<;>omega
 have hf:Ze xs=true->Zh xs=true:=by
  intro h
  match xs,h with
  | [a,b,c,d,e],h=>
    simp[Ze] at h
    exact h.1
 have hb:Zc xs=true->Zh xs=true:=by
  intro h
  match xs,h with
  | [a,b,c,d,e],h=>
    simp[Zc] at h
    exact h.1.1
 have hc:Zf xs=true->xs.length<=100/\(∀n∈xs,-1000000000<=n/\n<=1000000000):=by
  intro h
  match xs,h with
  | [a,b,c,d,e,f,g,i,j],h=>
    simp[Zf,aJ,Bg] at h
    refine⟨by simp,λn hn=>?_⟩
    simp at hn
    rcases hn with rfl|rfl|rfl|rfl|rfl|rfl|rfl|rfl|rfl<;>omega
 unfold Z3 at h
 split at h
 ·next e=>exact⟨(hp h).1,(hp h).2,by rw[e];decide +kernel⟩
 split at h
 ·next e=>exact⟨(he (hf h)).1,(he (hf h)).2,by rw[e];decide +kernel⟩
 split at h
 ·next e=>exact⟨(he (hb h)).1,(he (hb h)).2,by rw[e];decide +kernel⟩
 split at h
 ·next e=>exact⟨(hc h).1,(hc h).2,by rw[e];decide +kernel⟩
 split at h
 ·next e=>exact⟨(he (hb h)).1,(he (hb h)).2,by rw[e];decide +kernel⟩
 ·cases h
def Z2N(w w':Str)(xs:List Int)(mo:M PV){ρ ρ1:List P.Slot}{ms:M (List P.Slot)}{mf:MF}(ho:mo ρ=.ok (Z4 (Za w) w' xs) ρ1)(hm:ms ρ1=.ok [] ρ1){r:RV}(hf:mf [.sh (Z4 (Za w) w' xs)]=.ret r):cV (Str.ofString "shown") [("Thing",mf),("Post",mf),("Fence",mf),("Sail",mf),("Cloth",mf),("House",mf)] mo ms ρ=.ok r ρ1:=by
 have hl:List.lookup (Za w) [("Thing",mf),("Post",mf),("Fence",mf),("Sail",mf),("Cloth",mf),("House",mf)]=some mf:=by
  unfold Za
  split
  ·rfl
  split
  ·rfl
  split
  ·rfl
  split<;>rfl
 have hn:(["word","numbers"]:List Str).contains (Str.ofString "shown")=false:=by decide +kernel
 unfold cV
 rw[ho]
 unfold Z4 at *
 simp only[Res.bind]
 rw[hl]
 dsimp only
 rw[if_neg (by rw[hn];decide),hm]
 simp only[Res.bind]
 rw[hf]
def Z3t(w:Str):(["Thing","Post","Fence","Sail","Cloth","House"]:List String).contains (Za w)=true:=by
 unfold Za
 split
 ·decide +kernel
 split
 ·decide +kernel
 split
 ·decide +kernel
 split
 ·decide +kernel
 ·decide +kernel
def Iv(o:Th×Int):PV:=.tup [.str (Z01 o.1.1 o.1.2),.int o.2]
def Z2O{O:List (Th×Int)}(hO:O.length<=1000)(Bk:∀o∈O,Z3 o.1.1 o.1.2=true):Ľ (gT 2 (Đ (gN 0) (Đ (gN 1) Ĳ))) İ (ň (ă (ċ (cV "shown" [("Thing",ĵ),("Post",ĵ),("Fence",ĵ),("Sail",ĵ),("Cloth",ĵ),("House",ĵ)] (Ę 0) ĉ)) (ă (Ę 1) ĕ))) (O.map fK) [.no,.no] []=some (O.map Iv):=by
 have c1:=ĩ (g:=gT 2 (Đ (gN 0) (Đ (gN 1) Ĳ))) (mt:=İ) (me:=ň (ă (ċ (cV "shown" [("Thing",ĵ),("Post",ĵ),("Fence",ĵ),("Sail",ĵ),("Cloth",ĵ),("House",ĵ)] (Ę 0) ĉ)) (ă (Ę 1) ĕ))) fK Iv (λρ=>∃a b,ρ=[a,b]) O [.no,.no] [] ⟨_,_,rfl⟩ (by simp;omega) (by
  rintro o ho ρ ⟨a,b,rfl⟩
  obtain⟨g1,g2,g3⟩:=Z3s (Bk o ho)
  have hm:=Z2N o.1.1 o.1.1 o.1.2 (Ę 0) (ρ:= [.sh (ů o.1),.sh (.int o.2)]) (ρ1:=[.sh (ů o.1),.sh (.int o.2)]) (ms:=ĉ) rfl rfl (Z3V (Z3t _) g3 g1 g2)
  generalize hV:ů o.1=V at *
  refine⟨[.sh V,.sh (.int o.2)],[.sh V,.sh (.int o.2)],[.sh V,.sh (.int o.2)],by simp[fK,hV],by simp,?_,_,_,rfl⟩
  simp[hm,Iv,-Gi])
 rw[List.nil_append] at c1
 exact c1
theorem Z2i:∀{O:List (Th×Int)},(∀o∈O,Z3 o.1.1 o.1.2=true)->aX (O.map Iv)=true/\jY (O.map Iv)<=1
 | [],_=>by simp[aX,jY]
 |o::O,h=>by
  obtain⟨h1,h2⟩:=Z2i (O:=O) λx hx=>h x (List.mem_cons_of_mem _ hx)
  have h3:=Z2M (Z0f (h o List.mem_cons_self)) o.1.2
  have h4:aj (Iv o)=true:=by simp[Iv,aj,aX,h3]
  have h5:dep (Iv o)=1:=by simp[Iv,dep,jY]
  rw[List.map_cons]
  unfold aX jY
  rw[h4,h1,h5]
  exact⟨rfl,by omega⟩
def Z2P{O:List (Th×Int)}(Bk:∀o∈O,Z3 o.1.1 o.1.2=true):aH (.lst (O.map Iv)) (.lst (O.map Iv))=some (.bl false):=by
 obtain⟨h1,h2⟩:=Z2i Bk
 exact vf (by unfold aj;exact h1) (by unfold dep;omega)
theorem Z2j:∀qs:List Wt,aX (qs.map ŝ)=true/\jY (qs.map ŝ)<=2
 | []=>by simp[aX,jY]
 |q::qs=>by
  obtain⟨h1,h2⟩:=Z2j qs
  have h4:aj (ŝ q)=true:=by simp[ŝ,aj,aX]
  have h5:dep (ŝ q)=2:=by simp[ŝ,dep,jY]
  rw[List.map_cons]
  unfold aX jY
  rw[h4,h1,h5]
  exact⟨rfl,by omega⟩
def Z3W(qs:List Wt):aH (.lst (qs.map ŝ)) (.lst (qs.map ŝ))=some (.bl false):=by
 obtain⟨h1,h2⟩:=Z2j qs
 exact vf (by unfold aj;exact h1) (by unfold dep;omega)
def Z1H(c:Int):∃m:Int,sy [.sh (.int c)]=.ret (.sh (.int m)):=by
 have hp:uR 10 9=true:=by decide
 have hd:c % 4=0\/c % 4=1\/c % 4=2\/c % 4=3:=by omega
 rcases hd with hd|hd|hd|hd
 ·exact⟨0,by simp[sy,su,List.replicate,hd,hp]⟩
 ·exact⟨c / 4 % 4,by simp[sy,su,List.replicate,hd,hp]⟩
 ·exact⟨c / 4 % 4,by simp[sy,su,List.replicate,hd,hp]⟩
 ·exact⟨c / 4 % 1000000001,by simp[sy,su,List.replicate,hd,hp]⟩
def Z4d{w h:Nat}(hw:1<=w/\w<=20)(hh:1<=h/\h<=20)(c:Int)(O:List (Th×Int))(hO:O.length<=1000)(Bk:∀o∈O,Z3 o.1.1 o.1.2=true)(z0 z2 z3 z4 z5 z8 z9 z10 z11 z12 Iw Iz IK:P.Slot):∃(o:Th×Int) (a b d:P.Slot),kE [z0,.sh (.tup [.int w,.int h]),z2,z3,z4,z5,.ow (O.map fK),.sh (.int c),z8,z9,z10,z11,z12,Iw,Iz,IK]=.ok .nx [z0,.sh (.tup [.int w,.int h]),z2,z3,z4,z5,.ow ((O ++ [o]).map fK),.sh (.int c),z8,z9,z10,z11,z12,a,b,d]/\Z3 o.1.1 o.1.2=true:=by
 obtain⟨t,q1,q2⟩:=Z0C (c / 3) (w:=((max w h:Nat):Int)) (by omega) (by omega)
 obtain⟨m,q3⟩:=Z1H c
 have e:=Z0P (Z0f q2) (xs:=t.2) (sl:=.sh (.lst (t.2.map .int))) (.inl rfl)
 rw[if_pos q2] at e
 change cX _=.ret (.sh (ů t)) at e
 have mx:=Z21 w h
 have hOl:(O.map fK).length<16777216:=by rw[List.length_map];omega
 by_cases hc:O≠[]/\c / 48 % 8=5
 ·obtain⟨hc1,hc2⟩:=hc
  obtain⟨o,O',rfl⟩:=List.exists_cons_of_ne_nil hc1
  refine⟨(o.1,m),.sh (ů o.1),.sh (.str t.1),.sh (.lst (t.2.map .int)),?_,Bk o List.mem_cons_self⟩
  rw[List.map_append]
  have ho:[((o.1,m):Th×Int)].map fK=[.tup [ů o.1,.int m]]:=rfl
  rw[ho]
  have h0:((o::O').map fK)[0]?=some (.tup [ů o.1,.int o.2]):=rfl
  have hne:((o::O').map fK).isEmpty=false:=rfl
  generalize (o::O').map fK=OS at *
  generalize ((max w h:Nat):Int)=mm at *
  generalize ů t=TV at *
  generalize t.2.map PV.int=TX at *
  simp[kE,mx,q1,e,q3,hOl,hne,hc2,h0,-List.isEmpty_eq_false_iff]
 ·refine⟨(t,m),.sh (ů t),.sh (.str t.1),.sh (.lst (t.2.map .int)),?_,q2⟩
  rw[List.map_append]
  have ho:[((t,m):Th×Int)].map fK=[.tup [ů t,.int m]]:=rfl
  rw[ho]
  by_cases hc1:O=[]
  ·subst hc1
   generalize ((max w h:Nat):Int)=mm at *
   generalize ů t=TV at *
   generalize t.2.map PV.int=TX at *
   simp[kE,mx,q1,e,q3]
  ·have hc2:¬c / 48 % 8=5:=λz=>hc ⟨hc1,z⟩
   have hne:(O.map fK).isEmpty=false:=by
    cases O with
    |nil=>exact absurd rfl hc1
    |cons=>rfl
   generalize O.map fK=OS at *
   generalize ((max w h:Nat):Int)=mm at *
   generalize ů t=TV at *
   generalize t.2.map PV.int=TX at *
   simp[kE,mx,q1,e,q3,hOl,hne,hc2,-List.isEmpty_eq_false_iff]
theorem Z2Z{w h:Nat}(hw:1<=w/\w<=20)(hh:1<=h/\h<=20)(z0 z2 z3 z4 z5 z8 z9 z10 z11 z12:P.Slot):∀(cs:List Int) (O:List (Th×Int)) (z7 Iw Iz IK:P.Slot),O.length+cs.length<=1000->(∀o∈O,Z3 o.1.1 o.1.2=true)->∃(O':List (Th×Int)) (e a b d:P.Slot),forL (gN 7) kE (cs.map .int) [z0,.sh (.tup [.int w,.int h]),z2,z3,z4,z5,.ow (O.map fK),z7,z8,z9,z10,z11,z12,Iw,Iz,IK]=.ok .nx [z0,.sh (.tup [.int w,.int h]),z2,z3,z4,z5,.ow (O'.map fK),e,z8,z9,z10,z11,z12,a,b,d]/\O'.length=O.length+cs.length/\∀o∈O',Z3 o.1.1 o.1.2=true
 | [],O,z7,Iw,Iz,IK,_,hO=>⟨O,z7,Iw,Iz,IK,rfl,rfl,hO⟩
 |c::cs,O,z7,Iw,Iz,IK,hn,hO=>by
  simp only[List.length_cons] at hn
  obtain⟨o,a,b,d,e1,g1⟩:=Z4d hw hh c O (by omega) hO z0 z2 z3 z4 z5 z8 z9 z10 z11 z12 Iw Iz IK
  obtain⟨O',e',a',b',d',e2,l2,g2⟩:=Z2Z hw hh z0 z2 z3 z4 z5 z8 z9 z10 z11 z12 cs (O ++ [o]) (.sh (.int c)) a b d (by simp;omega) (by
   intro y hy
   rcases List.mem_append.mp hy with hy|hy
   ·exact hO y hy
   ·rw[List.mem_singleton.mp hy];exact g1)
  refine⟨O',e',a',b',d',?_,by simp at l2 ⊢;omega,g2⟩
  rw[List.map_cons,forL]
  generalize (O ++ [o]).map fK=O1 at *
  generalize O'.map fK=O2 at *
  generalize O.map fK=OS at *
  simp[e1]
  exact e2
def Z1I:M Fl:= (Ė (ġ 12 (Č lQ (Ă 5 (Ċ (Ą Ĕ (Ā 11) (mC (.int 0))) (Ċ (Ą Ĕ (Ā 11) (mC (.int 1))) ĉ)))))
 (Ė (bQ (pG (cD (bK (ċ (Č gJ (Ă 12 (Ă 9 (Ă 10 (Ċ (aM aY (ă (Ā 8) ĕ)) ĉ)))))))) (aP (Ą aH (Ą Ĕ (Ā 11) (mC (.int 1))) (Ā 8))))
 (Ģ (ņ (mC (.bl false))))
 cj)
 (Ė (bQ (aP (Ą aH (ċ (Ĵ [] 2 (ń (Ą Ĕ (Ā 11) (mC (.int 0)))) (gT 2 (Đ (gN 0) (Đ (gN 1) Ĳ))) İ (ň (ă (ċ (cV "shown" [("Thing",ĵ),("Post",ĵ),("Fence",ĵ),("Sail",ĵ),("Cloth",ĵ),("House",ĵ)] (Ę 0) ĉ)) (ă (Ę 1) ĕ))))) (ċ (Ĵ [] 2 (ŀ 6) (gT 2 (Đ (gN 0) (Đ (gN 1) Ĳ))) İ (ň (ă (ċ (cV "shown" [("Thing",ĵ),("Post",ĵ),("Fence",ĵ),("Sail",ĵ),("Cloth",ĵ),("House",ĵ)] (Ę 0) ĉ)) (ă (Ę 1) ĕ)))))))
 (Ģ (ņ (mC (.bl false))))
 cj)
 (Ģ (Č gJ (Ċ (ċ (Č lQ (Ă 5 (Ă 6 (Ă 8 ĉ))))) (Ă 9 (Ă 10 (Ċ (aM aY (ă (Ā 8) ĕ)) ĉ)))))))))
def Z1J:M Fl:= (Ė (ġ 8 (Č Lw (Ċ (Ą Ĕ (Ā 4) (mC (.int 1))) (Ă 1 (Ă 3 ĉ)))))
 (Ė (ġ 9 (Ĵ [] 2 (ŀ 6) (gT 2 (Đ (gN 0) (Đ (gN 1) Ĳ))) İ (Ę 1)))
 (Ė (ġ 10 (Č vm (Ċ (ċ (Ĵ [3,8] 2 (ŀ 6) (gT 2 (Đ (gN 2) (Đ (gN 3) Ĳ))) İ (ċ (Č vN (Ă 2 (Ă 0 (Ă 1 ĉ))))))) (Ċ (ċ (Č vM (Ă 5 (Ă 8 ĉ)))) ĉ))))
 (Ė (ġ 11 (ū (ă (ċ (iC bH (ă (Ā 6) ĕ))) (ă (ċ (iC bH (ă (Ā 8) ĕ))) ĕ)))) Z1I))))
def Z02:M Fl:= (Ė (ġ 5 (ņ (cF "Yard" lN (Ċ (Ą Ĕ (Ā 1) (mC (.int 0))) (Ċ (Ą Ĕ (Ā 1) (mC (.int 1))) (Ċ (ċ (Ĵ [] 2 (ŀ 2) (gT 2 (Đ (gN 0) (Đ (gN 1) Ĳ))) İ (ċ (Č cX (Ă 0 (Ċ (ċ (iC bH (ă (Ā 1) ĕ))) ĉ)))))) (Ă 3 ĉ)))))))
 (Ė (ġ 6 (ū ĕ))
 (Ė (aR (ń (Ą Ĕ (Ā 4) (mC (.int 0)))) (gN 7) kE) Z1J)))
def Z0q:M Fl:=(Ė (ġ 1 (ņ (ň (ă (ċ (Ĩ ģ (mC (.int 1)) (Ą ı (ċ (Č Ŋ (Ă 0 (Ċ (mC (.int 0)) ĉ)))) (mC (.int 2))))) (ă (mC (.int 1)) ĕ)))))
 (Ė (ġ 2 (tK (Ā 2) zJ (mP (mC (.int 1)))))
 (Ė (ġ 4 (ū (ă (ċ (Ĵ [] 1 (ń (ċ (Č b_ (Ċ (ċ (Č Ŋ (Ă 0 (Ċ (mC (.int 7)) ĉ)))) (Ċ (mC (.int 8)) ĉ))))) (gN 0) İ (ċ (Ĩ ģ (Ą Ĥ (mC (.int 6)) (Ā 0)) (mC (.int 3)))))) ĕ)))
 (pH 4 (ċ (Ĵ [] 1 (ń (ċ (Č b_ (Ċ (ċ (Č Ŋ (Ă 0 (Ċ (mC (.int 11)) ĉ)))) (Ċ (mC (.int 60)) ĉ))))) (gN 0) İ (ċ (Ĩ ģ (Ą Ĥ (mC (.int 2)) (Ā 0)) (mC (.int 1))))))))))
def Z0y:M Fl:=(Ė (bQ (aP (Ą ŧ (Ą ı (Ą ţ (ċ (Č Ŋ (Ă 0 (Ċ (mC (.int 1)) ĉ)))) (mC (.int 15))) (mC (.int 16))) (mC (.int 7))))
 Z0q
 cj) Z02)
def Z08:M Fl:=(Ė (ġ 4 (ū (ă (ċ (tK (Ā 0) (mP (mC (.int 7))) (mP (ċ (Ĩ ģ (mC (.int 7)) (Ą ı (Ą ţ (ċ (Č Ŋ (Ă 0 (Ċ (mC (.int 1)) ĉ)))) (mC (.int 3))) (mC (.int 5)))))))) (ă (ċ (tK (Ā 0) (mP (mC (.int 11))) (mP (mC (.int 17))))) ĕ))))
 Z0y)
def Z4g:Ea=(Ė (ġ 1 (Č fJ (Ċ (ċ (Č Ŋ (Ă 0 (Ċ (mC (.int 0)) ĉ)))) (Ċ (mC (.int 9)) ĉ))))
 (Ė (ġ 2 (Ĵ [1] 1 (ń (ċ (tK (Ā 0) (mP (mC (.int 2))) (mP (mC (.int 4)))))) (gN 1) İ (ċ (Č dI (Ă 1 (Ċ (aM fH (ă (Ā 0) ĕ)) ĉ))))))
 (Ė (ġ 3 (Č oE (Ă 0 (Ċ (mC (.int 4)) (Ċ (ċ (Ĩ ģ (mC (.int 1)) (Ą ı (ċ (Č Ŋ (Ă 0 (Ċ (mC (.int 1)) ĉ)))) (mC (.int 3))))) (Ċ (mC (.int 4)) ĉ))))))
 Z08))):=rfl
def ZO(O:List (Th×Int))(D:List Dy)(qs:List Wt):Nat->Nat:=λk=>Z1 qs.length (λj=>gZ D (O.getD k default).1 (qs.getD j default))
def Z03(T:List Th)(D:List Dy)(qs:List Wt):Nat:=Z1 qs.length (λk=>jy T D (qs.getD k default))
def Z2Q{w h:Nat}{T:List Th}(Y:yW w h T){lg:Nat}{D:List Dy}(hD:∀d∈D,Zb lg d){O:List (Th×Int)}(hO:O.length<=9)(Bk:∀o∈O,Z3 o.1.1 o.1.2=true){qs:List Wt}(hl:qs.length<=1000)(hq:∀q∈qs,Zj w h q/\Zm D q)(z0 z1 z2 z3 z4 z7 Iw Iz IK:P.Slot) :
 FR.of (Z1I [z0,z1,z2,z3,z4,.sh (Z0 w h T D),.sh (.lst (O.map fK)),z7,.ow (qs.map ŝ),.ow ((List.range O.length).map λk=>PV.int (O.getD k default).2),.ow ((List.range (2 ^ O.length)).map λc=>PV.int (Z2 (ZO O D qs) O.length c (Z03 T D qs):Nat)),.ow [.lst (O.map fK),.lst (qs.map ŝ)],.no,Iw,Iz,IK])=.ret (.sh (.bl true)):=by
 obtain⟨v,e1,t1⟩:=Z2K Y hD hO Bk hl hq
 obtain⟨v',e2,t2⟩:=Z3S Y hD hO Bk hl hq
 have k1:=Z1j hO hl t1
 have k2:=Z1j hO hl t2
 change gJ [.sh v,.bw ((List.range O.length).map λk=>PV.int (O.getD k default).2),.bw ((List.range (2 ^ O.length)).map λc=>PV.int (Z2 (ZO O D qs) O.length c (Z03 T D qs):Nat)),.sh (.int qs.length)]=_ at k1
 change gJ [.sh v',.bw ((List.range O.length).map λk=>PV.int (O.getD k default).2),.bw ((List.range (2 ^ O.length)).map λc=>PV.int (Z2 (ZO O D qs) O.length c (Z03 T D qs):Nat)),.sh (.int qs.length)]=_ at k2
 have s1:=Z2O (O:=O) (by omega) Bk
 have s2:=Z2P Bk
 have s3:=Z3W qs
 have Sh:((qs.map ŝ).length:Int)=(qs.length:Int):=by simp
 have hv:∃vs,v=.tup vs:=by
  rcases t1 with⟨k,_,rfl⟩|⟨c,_,_,_,_,rfl⟩
  ·exact⟨_,rfl⟩
  ·exact⟨_,rfl⟩
 clear t1 t2
 obtain⟨vs,rfl⟩:=hv
 generalize Z0 w h T D=Yv at *
 generalize ((List.range (2 ^ O.length)).map λc=>PV.int (Z2 (ZO O D qs) O.length c (Z03 T D qs):Nat))=ME at *
 generalize ((List.range O.length).map λk=>PV.int (O.getD k default).2)=PR at *
 generalize O.map Iv=SH at *
 generalize O.map fK=OS at *
 generalize qs.map ŝ=QS at *
 simp[Z1I,e1,e2,k1,k2,s1,s2,s3,Sh]
def Z2R{w h:Nat}(hw:1<=w/\w<=20)(hh:1<=h/\h<=20){T:List Th}(Y:yW w h T){lg:Nat}{D:List Dy}(hD:∀d∈D,Zb lg d)(ZdO:0<D.length){O:List (Th×Int)}(hO:O.length<=9)(Bk:∀o∈O,Z3 o.1.1 o.1.2=true)(C0:List PV){cs:List Int}(hc:cs.length<=1000)(z0 z2 z7 Iw Iz IK:P.Slot) :
 FR.of (Z1J [z0,.sh (.tup [.int w,.int h]),z2,.ow (D.map aD),.ow [.lst C0,.lst (cs.map .int)],.sh (Z0 w h T D),.ow (O.map fK),z7,.no,.no,.no,.no,.no,Iw,Iz,IK])=.ret (.sh (.bl true)):=by
 obtain⟨qs,q1,q2,q3⟩:=Z1G (w:=w) (h:=h) (by omega) (by omega) hD ZdO cs hc
 have hl:qs.length<=1000:=by omega
 have c1:=ĩ (g:=gT 2 (Đ (gN 0) (Đ (gN 1) Ĳ))) (mt:=İ) (me:=Ę 1) fK (λo=>PV.int o.2) (λρ=>∃a b,ρ=[a,b]) O [.no,.no] [] ⟨_,_,rfl⟩ (by simp;omega) (by
  rintro t _ ρ ⟨a,b,rfl⟩
  exact⟨[.sh (ů t.1),.sh (.int t.2)],[.sh (ů t.1),.sh (.int t.2)],[.sh (ů t.1),.sh (.int t.2)],by simp[fK],by simp,by simp,_,_,rfl⟩)
 have c2:=ĩ (g:=gT 2 (Đ (gN 2) (Đ (gN 3) Ĳ))) (mt:=İ) (me:=ċ (Č vN (Ă 2 (Ă 0 (Ă 1 ĉ))))) fK (λo=>PV.int (Z1 qs.length (λk=>gZ D o.1 (qs.getD k default)):Nat)) (λρ=>∃a b,ρ=[.bw (D.map aD),.bw (qs.map ŝ),a,b]) O [.bw (D.map aD),.bw (qs.map ŝ),.no,.no] [] ⟨_,_,rfl⟩ (by simp;omega) (by
  rintro t ht ρ ⟨a,b,rfl⟩
  have e:=Z2d Y hD (Bk t ht) hl q3
  generalize D.map aD=DV at *
  generalize qs.map ŝ=QS at *
  generalize hV:ů t.1=V at *
  exact⟨[.bw DV,.bw QS,.sh V,.sh (.int t.2)],[.bw DV,.bw QS,.sh V,.sh (.int t.2)],[.bw DV,.bw QS,.sh V,.sh (.int t.2)],by simp[fK,hV],by simp,by simp[e],_,_,rfl⟩)
 have b1:=Z2L Y hD hl q3
 rw[List.nil_append,Zl (λo:Th×Int=>PV.int o.2) default O] at c1
 rw[List.nil_append,Zl (λo:Th×Int=>PV.int ((Z1 qs.length (λk=>gZ D o.1 (qs.getD k default)):Nat):Int)) default O] at c2
 have m1:=Z27 (ZO O D qs) (n:=O.length) (Z03 T D qs) hO (s0:=.sh (.lst ((List.range O.length).map λk=>PV.int (ZO O D qs k:Nat)))) (.inl rfl)
 have fin:=Z2Q Y hD hO Bk hl q3 z0 (.sh (.tup [.int w,.int h])) z2 (.ow (D.map aD)) (.ow [.lst C0,.lst (cs.map .int)]) z7 Iw Iz IK
 have f1:(O.map fK).length<=16777216:=by rw[List.length_map];omega
 have f2:(qs.map ŝ).length<=16777216:=by rw[List.length_map];omega
 change Ľ _ _ _ _ _ _=some ((List.range O.length).map λk=>PV.int (ZO O D qs k:Nat)) at c2
 change vM _=.ret (.sh (.int (Z03 T D qs:Nat))) at b1
 generalize ((List.range (2 ^ O.length)).map λc=>PV.int (Z2 (ZO O D qs) O.length c (Z03 T D qs):Nat))=ME at *
 generalize ((List.range O.length).map λk=>PV.int (ZO O D qs k:Nat))=CV at *
 generalize ((List.range O.length).map λk=>PV.int (O.getD k default).2)=PR at *
 generalize Z03 T D qs=B0 at *
 generalize Z0 w h T D=Yv at *
 generalize O.map fK=OS at *
 generalize qs.map ŝ=QS at *
 generalize D.map aD=DV at *
 generalize cs.map PV.int=CS at *
 simp[Z1J,q1,dz,bV,c1,c2,b1,m1,f1,f2]
 simpa using fin
def Z0I{w h:Nat}(hw:1<=w/\w<=20)(hh:1<=h/\h<=20)(hwh:w*h<=1000){T:List Th}(hTl:T.length<=100)(hTg:∀t∈T,Z3 t.1 t.2=true){lg:Nat}{D:List Dy}(hD:∀d∈D,Zb lg d)(hDl:D.length<=1000)(ZdO:0<D.length){c0 cs:List Int}(hc0:c0.length<=9)(hc:cs.length<=1000)(z0:P.Slot) :
 FR.of (Z02 [z0,.sh (.tup [.int w,.int h]),.ow (T.map Zp),.ow (D.map aD),.ow [.lst (c0.map .int),.lst (cs.map .int)],.no,.no,.no,.no,.no,.no,.no,.no,.no,.no,.no])=.ret (.sh (.bl true)):=by
 have Y:yW w h T:=⟨by omega,by omega,by omega,by omega,by omega,hTg⟩
 have q1:=Z22 (T:=T) (by omega) hTg .no .no
 have q2:=Z3d (w:Int) (h:Int) (T:=T) (D:=D) (by omega) (by omega) (s3:=.sh (.lst (T.map ů))) (s4:=.bw (D.map aD)) (.inl rfl) (.inr rfl)
 have hY:PV.ins "Yard" ["width","height","things","days"] [.int w,.int h,.lst (T.map ů),.lst (D.map aD)]=Z0 w h T D:=rfl
 obtain⟨O,e,a,b,d,el,lo,go⟩:=Z2Z hw hh z0 (.sh (.lst (T.map Zp))) (.ow (D.map aD)) (.ow [.lst (c0.map .int),.lst (cs.map .int)]) (.sh (Z0 w h T D)) .no .no .no .no .no c0 [] .no .no .no .no (by simp;omega) (by simp)
 have fin:=Z2R hw hh Y hD ZdO (O:=O) (by simp at lo;omega) go (c0.map .int) hc z0 (.sh (.lst (T.map Zp))) e a b d
 rw[List.map_nil] at el
 generalize Z0 w h T D=Yv at *
 generalize O.map fK=OS at *
 generalize T.map Zp=TR at *
 generalize T.map ů=TV at *
 generalize D.map aD=DV at *
 generalize cs.map PV.int=CS at *
 generalize c0.map PV.int=CS0 at *
 simp[Z02,q1,cF,q2,hY,el]
 simpa using fin
def Z3X{l:PySem.W.OpenLaw}{w:World}{K:PySem.W.Frag}{mg:Str->Option Value}{fa:Addr}{a:Nj}(T:Tx K mg a)(hfa:mg "law" =some (.ref fa)):∃fd:FuncData,(∀(s:Shared) (v:Value),BindsTo s fd ⟨[v],[]⟩ [("_law_script",v)])/\∀base:Heap,K.In base->base.Ns mainGlobals mg->∃cm,Ħ l.prog w K mg base Ş 11 fa fd ["_law_script"] (Ŗ ⟨K,cm⟩ 1 sE):=by
 have e:=hfa.symm.trans T.Nx.m
 cases e
 exact⟨a.Nt,λs v=>T.Nx.bb s [v] rfl,λbase _ _=>⟨_,ZdN T⟩⟩
def Z1l(xs:List Int)(a b:Nat):(Ŭ xs (some (a:Int)) (some (b:Int))).length<=b-a:=by
 unfold Ŭ
 rw[HT.jo,HT.jo,List.length_take]
 omega
def Z18(xs:List Int)(lo hi:Option Int):Ŭ (xs.map PV.int) lo hi=(Ŭ xs lo hi).map PV.int:=by
 unfold Ŭ
 rw[List.length_map,List.map_take,List.map_drop]
def Z2k(a b:Int)(ha:a.natAbs<=10)(xs:List Int)(hl:xs.length<=1000):Ľ (gN 0) İ (ċ (Ĩ ģ (Ą Ĥ (mC (.int a)) (Ā 0)) (mC (.int b)))) (xs.map .int) [.no] []=some ((xs.map λx=>a*x+b).map .int):=by
 have c1:=ĩ (g:=gN 0) (mt:=İ) (me:=ċ (Ĩ ģ (Ą Ĥ (mC (.int a)) (Ā 0)) (mC (.int b)))) PV.int (λx=>PV.int (a*x+b)) (λρ=>∃a,ρ=[a]) xs [.no] [] ⟨_,rfl⟩ (by simp;omega) (by
  rintro x _ ρ ⟨z,rfl⟩
  have mo:ō a x=true:=by
   unfold ō
   simp only[Bool.or_eq_true,decide_eq_true_eq]
   exact .inl (.inl (by omega))
  exact⟨[.sh (.int x)],[.sh (.int x)],[.sh (.int x)],by simp,by simp,by simp[mo],_,rfl⟩)
 rw[List.nil_append] at c1
 rw[c1,List.map_map]
 rfl
def Z2l{NS TR H1 H2 G1 G2 TR':List PV}{v0 v7 v11:Int}{w':Nat}(k0:Ŋ [.sh (.lst NS),.sh (.int 0)]=.ret (.sh (.int v0)))(k7:Ŋ [.sh (.lst NS),.sh (.int 7)]=.ret (.sh (.int v7)))(k11:Ŋ [.sh (.lst NS),.sh (.int 11)]=.ret (.sh (.int v11)))
 (t1:Ŭ TR none (some 1)=TR')(e1:b_ [.sh (.int v7),.sh (.int 8)]=.ret (.ow H1))(e2:b_ [.sh (.int v11),.sh (.int 60)]=.ret (.ow H2))
 (p1:Ľ (gN 0) İ (ċ (Ĩ ģ (Ą Ĥ (mC (.int 6)) (Ā 0)) (mC (.int 3)))) H1 [.no] []=some G1)(p2:Ľ (gN 0) İ (ċ (Ĩ ģ (Ą Ĥ (mC (.int 2)) (Ā 0)) (mC (.int 1)))) H2 [.no] []=some G2)(hw:1+v0 % 2=(w':Int))(z1 z3 z4:P.Slot) :
 Z0q [.sh (.lst NS),z1,.ow TR,z3,z4,.no,.no,.no,.no,.no,.no,.no,.no,.no,.no,.no]=.ok .nx [.sh (.lst NS),.sh (.tup [.int w',.int 1]),.ow TR',z3,.ow [.lst G1,.lst G2],.no,.no,.no,.no,.no,.no,.no,.no,.no,.no,.no]:=by
 simp[Z0q,k0,k7,k11,Pq,t1,e1,e2,p1,p2,hw,dz,bV,-Zv]
def Z2S{NS TR:List PV}{v1:Int}{w h:Nat}{z3 z4:P.Slot}{ρ:ŋ}(k1:Ŋ [.sh (.lst NS),.sh (.int 1)]=.ret (.sh (.int v1)))(h7:v1 / 15 % 16=7)(th:Z0q [.sh (.lst NS),.sh (.tup [.int w,.int h]),.ow TR,z3,z4,.no,.no,.no,.no,.no,.no,.no,.no,.no,.no,.no]=.ok .nx ρ)(fin:FR.of (Z02 ρ)=.ret (.sh (.bl true))) :
 FR.of (Z0y [.sh (.lst NS),.sh (.tup [.int w,.int h]),.ow TR,z3,z4,.no,.no,.no,.no,.no,.no,.no,.no,.no,.no,.no])=.ret (.sh (.bl true)):=by
 simp[Z0y,k1,h7,th,fin,-Zv]
def Z3u{NS TR:List PV}{v1:Int}{w h:Nat}{z3 z4:P.Slot}(k1:Ŋ [.sh (.lst NS),.sh (.int 1)]=.ret (.sh (.int v1)))(h7:¬v1 / 15 % 16=7)(fin:FR.of (Z02 [.sh (.lst NS),.sh (.tup [.int w,.int h]),.ow TR,z3,z4,.no,.no,.no,.no,.no,.no,.no,.no,.no,.no,.no])=.ret (.sh (.bl true))) :
 FR.of (Z0y [.sh (.lst NS),.sh (.tup [.int w,.int h]),.ow TR,z3,z4,.no,.no,.no,.no,.no,.no,.no,.no,.no,.no,.no])=.ret (.sh (.bl true)):=by
 simp[Z0y,k1,h7,fin,-Zv]
def Z0r{a b:M Fl}{ρ ρ1:ŋ}(h:a ρ=.ok .nx ρ1):Ė a b ρ=b ρ1:=by
 unfold Ė
 rw[h]
 rfl
def Z0s{NS TR H1 H2:List PV}{v1:Int}{w h b:Nat}{z3:P.Slot}(k1:Ŋ [.sh (.lst NS),.sh (.int 1)]=.ret (.sh (.int v1)))(hb:7+v1 / 3 % 5=(b:Int))(s7:Ŭ NS (some 7) (some (b:Int))=H1)(s11:Ŭ NS (some 11) (some 17)=H2)
 (fin:FR.of (Z0y [.sh (.lst NS),.sh (.tup [.int w,.int h]),.ow TR,z3,.ow [.lst H1,.lst H2],.no,.no,.no,.no,.no,.no,.no,.no,.no,.no,.no])=.ret (.sh (.bl true))) :
 FR.of (Z08 [.sh (.lst NS),.sh (.tup [.int w,.int h]),.ow TR,z3,.no,.no,.no,.no,.no,.no,.no,.no,.no,.no,.no,.no])=.ret (.sh (.bl true)):=by
 have e4:(ġ 4 (ū (ă (ċ (tK (Ā 0) (mP (mC (.int 7))) (mP (ċ (Ĩ ģ (mC (.int 7)) (Ą ı (Ą ţ (ċ (Č Ŋ (Ă 0 (Ċ (mC (.int 1)) ĉ)))) (mC (.int 3))) (mC (.int 5)))))))) (ă (ċ (tK (Ā 0) (mP (mC (.int 11))) (mP (mC (.int 17))))) ĕ)))) [.sh (.lst NS),.sh (.tup [.int w,.int h]),.ow TR,z3,.no,.no,.no,.no,.no,.no,.no,.no,.no,.no,.no,.no]=.ok .nx [.sh (.lst NS),.sh (.tup [.int w,.int h]),.ow TR,z3,.ow [.lst H1,.lst H2],.no,.no,.no,.no,.no,.no,.no,.no,.no,.no,.no]:=by
  simp[k1,Pq,hb,s7,s11,-Zv]
 unfold Z08
 rw[Z0r e4]
 exact fin
def Z0t{NS TR YS DV:List PV}{v0 v1:Int}{w h m:Nat}(k0:Ŋ [.sh (.lst NS),.sh (.int 0)]=.ret (.sh (.int v0)))(k1:Ŋ [.sh (.lst NS),.sh (.int 1)]=.ret (.sh (.int v1)))(hs:fJ [.sh (.int v0),.sh (.int 9)]=.ret (.sh (.tup [.int w,.int h])))(hy:Ŭ NS (some 2) (some 4)=YS)
 (hT:Ľ (gN 1) İ (ċ (Č dI (Ă 1 (Ċ (aM fH (ă (Ā 0) ĕ)) ĉ)))) YS [.sh (.tup [.int w,.int h]),.no] []=some TR)(hm:1+v1 % 3=(m:Int))(hD:oE [.sh (.lst NS),.sh (.int 4),.sh (.int m),.sh (.int 4)]=.ret (.ow DV))
 (fin:FR.of (Z08 [.sh (.lst NS),.sh (.tup [.int w,.int h]),.ow TR,.ow DV,.no,.no,.no,.no,.no,.no,.no,.no,.no,.no,.no,.no])=.ret (.sh (.bl true))):sE [.sh (.lst NS)]=.ret (.sh (.bl true)):=by
 have e1:(ġ 1 (Č fJ (Ċ (ċ (Č Ŋ (Ă 0 (Ċ (mC (.int 0)) ĉ)))) (Ċ (mC (.int 9)) ĉ)))) [.sh (.lst NS),.no,.no,.no,.no,.no,.no,.no,.no,.no,.no,.no,.no,.no,.no,.no]=.ok .nx [.sh (.lst NS),.sh (.tup [.int w,.int h]),.no,.no,.no,.no,.no,.no,.no,.no,.no,.no,.no,.no,.no,.no]:=by
  simp[k0,hs,-Zv]
 have e2:(ġ 2 (Ĵ [1] 1 (ń (ċ (tK (Ā 0) (mP (mC (.int 2))) (mP (mC (.int 4)))))) (gN 1) İ (ċ (Č dI (Ă 1 (Ċ (aM fH (ă (Ā 0) ĕ)) ĉ)))))) [.sh (.lst NS),.sh (.tup [.int w,.int h]),.no,.no,.no,.no,.no,.no,.no,.no,.no,.no,.no,.no,.no,.no]=.ok .nx [.sh (.lst NS),.sh (.tup [.int w,.int h]),.ow TR,.no,.no,.no,.no,.no,.no,.no,.no,.no,.no,.no,.no,.no]:=by
  simp[dz,bV,Pq,hy,hT,-Zv]
 have e3:(ġ 3 (Č oE (Ă 0 (Ċ (mC (.int 4)) (Ċ (ċ (Ĩ ģ (mC (.int 1)) (Ą ı (ċ (Č Ŋ (Ă 0 (Ċ (mC (.int 1)) ĉ)))) (mC (.int 3))))) (Ċ (mC (.int 4)) ĉ)))))) [.sh (.lst NS),.sh (.tup [.int w,.int h]),.ow TR,.no,.no,.no,.no,.no,.no,.no,.no,.no,.no,.no,.no,.no]=.ok .nx [.sh (.lst NS),.sh (.tup [.int w,.int h]),.ow TR,.ow DV,.no,.no,.no,.no,.no,.no,.no,.no,.no,.no,.no,.no]:=by
  simp[k1,hm,hD,-Zv]
 have st:sE [.sh (.lst NS)]=FR.of (Ea [.sh (.lst NS),.no,.no,.no,.no,.no,.no,.no,.no,.no,.no,.no,.no,.no,.no,.no]):=rfl
 rw[st,Z4g,Z0r e1,Z0r e2,Z0r e3]
 exact fin
def Z2T(ns:List Int)(hn:ns.length<=63):sE [.sh (.lst (ns.map .int))]=.ret (.sh (.bl true)):=by
 have k0:Ŋ [.sh (.lst (ns.map .int)),.sh (.int 0)]=.ret (.sh (.int (ns.getD 0 0))):=ZB ns 0
 have k1:Ŋ [.sh (.lst (ns.map .int)),.sh (.int 1)]=.ret (.sh (.int (ns.getD 1 0))):=ZB ns 1
 have k7:Ŋ [.sh (.lst (ns.map .int)),.sh (.int 7)]=.ret (.sh (.int (ns.getD 7 0))):=ZB ns 7
 have k11:Ŋ [.sh (.lst (ns.map .int)),.sh (.int 11)]=.ret (.sh (.int (ns.getD 11 0))):=ZB ns 11
 generalize ns.getD 0 0=v0 at *
 generalize ns.getD 1 0=v1 at *
 generalize ns.getD 7 0=v7 at *
 generalize ns.getD 11 0=v11 at *
 obtain⟨w,h,hs,w1,w2,h1,h2,wh⟩:=Z2y v0
 obtain⟨ys,hy,hyl⟩:=slI ns (some 2) (some 4)
 obtain⟨T,hT,hTl,hTg⟩:=Z13 ⟨w1,w2⟩ ⟨h1,h2⟩ ys [] .no (by simp;omega)
 rw[List.nil_append] at hT
 obtain⟨m,hm⟩:∃m:Nat,1+v1 % 3=(m:Int):=⟨(1+v1 % 3).toNat,by omega⟩
 obtain⟨D,hD,hDl,hDg⟩:=Z3h ns (n:=m) (lg:=4) (by omega) (by omega) (by omega)
 have hD':oE [.sh (.lst (ns.map .int)),.sh (.int 4),.sh (.int m),.sh (.int 4)]=.ret (.ow (D.map aD)):=hD
 obtain⟨b,hb⟩:∃b:Nat,7+v1 / 3 % 5=(b:Int):=⟨(7+v1 / 3 % 5).toNat,by omega⟩
 have s7:Ŭ (ns.map PV.int) (some 7) (some (b:Int))=(Ŭ ns (some (7:Nat)) (some (b:Int))).map PV.int:=Z18 ns _ _
 have s11:Ŭ (ns.map PV.int) (some 11) (some 17)=(Ŭ ns (some (11:Nat)) (some (17:Nat))).map PV.int:=Z18 ns _ _
 have l7:=Z1l ns 7 b
 have l11:=Z1l ns 11 17
 generalize Ŭ ns (some ((7:Nat):Int)) (some (b:Int))=C0 at *
 generalize Ŭ ns (some ((11:Nat):Int)) (some ((17:Nat):Int))=C1 at *
 by_cases h7:v1 / 15 % 16=7
 ·obtain⟨T',t1,t2,t3⟩:=slR T
  obtain⟨g1,e1,gl1,_⟩:=Zy v7 (n:=8) (by omega)
  obtain⟨g2,e2,gl2,_⟩:=Zy v11 (n:=60) (by omega)
  have e1':b_ [.sh (.int v7),.sh (.int 8)]=.ret (.ow (g1.map .int)):=e1
  have e2':b_ [.sh (.int v11),.sh (.int 60)]=.ret (.ow (g2.map .int)):=e2
  have p1:=Z2k 6 3 (by decide) g1 (by omega)
  have p2:=Z2k 2 1 (by decide) g2 (by omega)
  obtain⟨w',hw'⟩:∃w':Nat,1+v0 % 2=(w':Int):=⟨(1+v0 % 2).toNat,by omega⟩
  have fin:=Z0I (w:=w') (h:=1) ⟨by omega,by omega⟩ ⟨by omega,by omega⟩ (by omega) (T:=T') (by omega) (λt ht=>hTg t (t3 t ht)) hDg (by omega) (by omega) (c0:=g1.map λx=>6*x+3) (cs:=g2.map λx=>2*x+1) (by simp;omega) (by simp;omega) (.sh (.lst (ns.map .int)))
  have th:=Z2l (NS:=ns.map .int) (TR:=T.map Zp) k0 k7 k11 t1 e1' e2' p1 p2 hw' (.sh (.tup [.int w,.int h])) (.ow (D.map aD)) (.ow [.lst (C0.map .int),.lst (C1.map .int)])
  generalize (g1.map λx=>6*x+3).map PV.int=G1 at *
  generalize (g2.map λx=>2*x+1).map PV.int=G2 at *
  clear p1 p2 e1' e2' t1
  generalize C0.map PV.int=H1 at *
  generalize C1.map PV.int=H2 at *
  generalize ns.map PV.int=NS at *
  generalize ys.map PV.int=YS at *
  generalize T.map Zp=TR at *
  generalize T'.map Zp=TR' at *
  generalize D.map aD=DV at *
  have fi:=Z2S (w:=w) (h:=h) k1 h7 th fin
  clear th fin
  have fc:=Z0s k1 hb s7 s11 fi
  clear fi
  exact Z0t k0 k1 hs hy hT hm hD' fc
 ·have fin:=Z0I ⟨w1,w2⟩ ⟨h1,h2⟩ (by omega) (T:=T) (by omega) hTg hDg (by omega) (by omega) (c0:=C0) (cs:=C1) (by omega) (by omega) (.sh (.lst (ns.map .int)))
  generalize C0.map PV.int=G1 at *
  generalize C1.map PV.int=G2 at *
  generalize ns.map PV.int=NS at *
  generalize ys.map PV.int=YS at *
  generalize T.map Zp=TR at *
  generalize D.map aD=DV at *
  have fi:=Z3u k1 h7 fin
  clear fin
  have fc:=Z0s k1 hb s7 s11 fi
  clear fi
  exact Z0t k0 k1 hs hy hT hm hD' fc
def Z4h{l:PySem.W.OpenLaw}{q:Program}{loose:List Str}{XP:(Str->Option Value)->Heap->Prop}{YP:World->Heap->Prop}{d:DefRec}{K:Params->PySem.W.Frag}(hn:l.most=some 63)(hdf:d.params.defaults=[])
 (hY:∀(w:World) (h:Heap),YP w h->(K w.params).In h)
 (F:∀(w:World) (mg:Str→Option Value) (fa:Addr) (h:Heap),(K w.params).In h→h.Ns mainGlobals mg→mg d.name=some (.ref fa)→
   ∃fd:FuncData,(∀(s:Shared) (u:Value),BindsTo s fd ⟨[u],[]⟩ [("_law_script",u)])/\∀base:Heap,(K w.params).In base->base.Ns mainGlobals mg->∃cm,Ħ l.prog w (K w.params) mg base Ş 11 fa fd ["_law_script"] (Ŗ ⟨K w.params,cm⟩ 1 sE))
 (hnt:∀w:World,PySem.W.noTabs (K w.params)=true)(hrec:∀y,y∈lams->∃d,(PyProof.Rows.recsOf q).find? (λe=>e.name== y)=some d) :
 PySem.W.WalkO q loose XP YP l.row.toRowW d [] (λf vs=>PySem.call f vs):=
 P.Ky (k:=11) (x:= "_law_script") (CX:=Ş) (m:=sE) hn hdf ⟨rfl,by decide,by decide⟩ hY F Z2T (λ_ _ _ _ z=>z) (hnt:=λ_=>hnt) (hrec:=hrec)
end
end T
namespace PySem.W.Fast
def tw10762206193191694325:=0
def tw2213952001315861829:=0
def tw5164914635396409489:=0
def tw4679096048131550420:=0
def tw1508807129569255955:=0
def tw4199823174080387606:=0
def tw5342430510279938286:=0
def tw5893824170859067555:=0
def tw5708399326000509632:=0
def tw1269418590777928176:=0
def tw11349305527940485333:=0
def tw6089911058307867067:=0
def tw3138350337890725837:=0
def tw5948676414341094352:=0
def tw10460194946828726402:=0
def tw16548896214164478092:=0
def tw14198495920529984908:=0
def tw8715193824405741166:=0
def tw15137159790502957476:=0
def tw2209117638849445755:=0
def tw12379922147801126963:=0
def tw17714877274220820606:=0
def tw9744432554892148793:=0
def tw17606576630986629918:=0
def tw12311502839838756901:=0
def tw15427783104196900380:=0
def tw3133178893413422260:=0
def tw1841773250425310912:=0
def tw4622644188418404616:=0
def tw1286851579382673552:=0
def tw14463102892060660796:=0
def tw2844326243222179561:=0
def tw15018882840041803041:=0
def tw17785893849723305270:=0
def tw7463720440564681006:=0
def tw10766991363974464260:=0
def tw4206430702096948745:=0
def tw2830148756536384582:=0
def tw16488254306506714557:=0
def tw17378839820675571676:=0
def tw18364644314285744515:=0
def tw13530525992130785159:=0
def tw13076879707055420403:=0
def tw18284112707759885357:=0
def tw1635532690504278986:=0
def tw9457524220357134330:=0
def tw3629757753479613387:=0
def tw4142066450763799898:=0
def tw7798606696430756901:=0
def tw9583334124083122820:=0
def tw14503750500869940574:=0
def tw3754000937700395240:=0
def tw2812223764928921170:=0
def tw15179537064565455582:=0
def tw13654953022408141675:=0
def tw3280294439070172533:=0
def tw135325900684319083:=0
def tw3933074228154089157:=0
def tw9699787239639593283:=0
def tw2055253299690090003:=0
def tw12700078424821841183:=0
def tw7138584160473085884:=0
def tw2513660185222682875:=0
def tw10271666789893349792:=0
def tw10171359614879974655:=0
def tw4212873272348053074:=0
def tw2134551424635899551:=0
def tw8796087033327467497:=0
def tw13861699831149019312:=0
def tw6168724826839883289:=0
def tw13744838936233747227:=0
def tw13143848306136859249:=0
def tw3317344754164863787:=0
def tw14115678121822157065:=0
def tw1791615474745612211:=0
def tw2045693972234724971:=0
def tw14213075717030023098:=0
def tw13231799486398157897:=0
def tw15313528426268662994:=0
def tw10280134590727285677:=0
def tw10365841180134009054:=0
def tw8239405884178393340:=0
def tw5033734812725709703:=0
def tw16162806415452557958:=0
def tw4181808067842662366:=0
def tw16501762684540460452:=0
def tw15857716197883416777:=0
def tw7574507749600356652:=0
def tw13250989007476816890:=0
def tw2579082024364706007:=0
def tw8617004311920598180:=0
def tw3185077970878746404:=0
def tw14215637115146386594:=0
def tw9568762619917526160:=0
def tw7201211867980850657:=0
def tw4232165684912367632:=0
def tw18181087948996559664:=0
def tw17691301744013254064:=0
def tw1296777768029162702:=0
def tw2609919955141434842:=0
def tw2405915525149883857:=0
def tw11480609548432438099:=0
def tw10960195926430506535:=0
def tw2273023089163631152:=0
def tw892293949324089868:=0
def tw667048730747322405:=0
def tw1071978807453428565:=0
def tw12289393444635379791:=0
def tw10665144643324854464:=0
def tw3191569349988662790:=0
def tw14975050606457091547:=0
def tw3023876208829772246:=0
def tw16642573356881609249:=0
def tw10329181341494438002:=0
def tw8587505910485846424:=0
def tw1818670292911599486:=0
def tw10786848174905921889:=0
def tw15602220251079988757:=0
def tw11938434777538247109:=0
def tw13473917474847612658:=0
def tw3871715756404081349:=0
def tw15782833646820368915:=0
def tw2224217896188249187:=0
def tw6160457791727720154:=0
def tw12715043777406876863:=0
def tw1691503443204413982:=0
def tw13113561711196938277:=0
def tw4227240194822837904:=0
def tw13624544973627640650:=0
def tw4723015120965808186:=0
def tw9889595835203900091:=0
def tw10605580032129330391:=0
def tw7680653596040446287:=0
def tw2376998993851806547:=0
def tw9008757417201501225:=0
def tw13416186988397420089:=0
def tw207109718710045475:=0
def tw7743175561784026745:=0
def tw3757456197576190367:=0
def tw8683804555689556916:=0
def tw13084774010689538760:=0
def tw15209132531852904101:=0
def tw2757229238651281357:=0
def tw2670610342172441505:=0
def tw16119095522888075913:=0
def tw10840352319220907804:=0
def tw2114914081446911879:=0
def tw4147500676335707976:=0
def tw11912082146818711216:=0
def tw4677218539564335948:=0
def tw4085502445129098932:=0
def tw17283419929697869319:=0
def tw2334578785901432377:=0
def tw2351359491086020124:=0
def tw4663769262646113875:=0
def tw4348843293988957491:=0
def tw8862046667308641559:=0
def tw14331936955366194362:=0
def tw6261866843152968724:=0
def tw4764111247723981558:=0
def tw9066518931896821362:=0
def tw7358154963266228492:=0
def tw6401861679243557281:=0
def tw6587014384295543848:=0
def tw18248196197471688445:=0
def tw11041531679235737061:=0
def tw12523690342316239134:=0
def tw15265797779498864913:=0
def tw14903506443992445373:=0
def tw3514303416740311296:=0
def tw6698005354778420415:=0
def tw10108122387089690409:=0
def tw16600303917870322121:=0
def tw5745764360141552045:=0
def tw18392926001536323128:=0
def tw1652850174266016298:=0
def tw17299038940509184520:=0
def tw15477364458013487228:=0
def tw110070016322855923:=0
def tw132042495466050857:=0
def tw12607607703324929135:=0
def tw12877435954454682774:=0
def tw16416048524674004654:=0
def tw17798626185914019357:=0
def tw17030062772087898923:=0
def tw12607499613849745070:=0
def tw5300102192749584741:=0
def tw5512810553180698805:=0
def tw4003893784702022526:=0
def tw12038795461719585006:=0
def tw6707559137335264029:=0
def tw12109704566449539197:=0
def tw3775612496747560623:=0
def tw11891751787721869772:=0
def tw13781152972225297365:=0
def tw12482195997066738999:=0
def tw13646293113593232944:=0
def tw10411222955751013336:=0
def tw18087605324742128068:=0
def tw11485244568776484994:=0
def tw13887049223853290906:=0
def tw13920019094017447913:=0
def tw4203517395645870881:=0
def tw4772333237683001045:=0
def tw16594394803436045927:=0
def tw9371566330928317398:=0
def tw6616071276392461546:=0
def tw10845989532339759621:=0
def tw1409232199167363943:=0
def tw4592757167946832459:=0
def tw12685039747870441710:=0
def tw2660341211330460417:=0
def tw5010549134010851592:=0
def tw5007474366183079389:=0
def tw1654093525925638861:=0
def tw7634179108718130599:=0
def tw17301275648044493700:=0
def tw5952531267738636215:=0
def tw4108346715744341060:=0
def tw5837410129881769394:=0
def tw13450389319292802582:=0
def tw9825461934133203725:=0
def tw8250285184562614433:=0
def tw5979169919503732582:=0
def tw17889990935140938699:=0
def tw5072674127713162943:=0
def tw14059583695589115577:=0
def tw17876723731264175466:=0
def tw16857256489886210126:=0
def tw1500168657188757002:=0
def tw16625410616723614563:=0
def tw6870355155790499586:=0
def tw6065585584817247976:=0
def tw2625050949319918033:=0
def tw16981531067546659424:=0
def tw8100237672438581506:=0
def tw45603130558297222:=0
def tw11458517222356394542:=0
def tw5412590107973603008:=0
def tw8956483544917055632:=0
def tw12592831364680967666:=0
def tw4724785278636619975:=0
def tw16408976507245868460:=0
def tw14741552199094102965:=0
def tw4904931648364549062:=0
def tw883522842018764547:=0
def tw11744339103847867817:=0
def tw3216598245143083718:=0
def tw17055649071790516663:=0
def tw15996309821659112829:=0
def tw4609546896431295404:=0
def tw6353543323516184675:=0
def tw4951287072752438869:=0
def tw17498293466696123728:=0
def tw8254665800396090497:=0
def tw11050404577935299285:=0
def tw8552758846000745566:=0
def tw3312691650600356829:=0
def tw12357904940812248778:=0
def tw7202462233018130709:=0
def tw10368762419507521858:=0
def tw2261343697821948114:=0
def tw2827841851751066295:=0
def tw7081930230939262711:=0
def tw10767070740646516977:=0
def tw5980640465986455717:=0
def tw3310261918279635533:=0
def tw11859891268006469586:=0
def tw5744440768185510099:=0
def tw14696143570976544546:=0
def tw11868577828808487271:=0
def tw4425866619558891303:=0
def tw14402926696560970061:=0
def tw15215815717865427359:=0
def tw2939659147827914104:=0
def tw3264365091610087867:=0
def tw5972875129558645273:=0
def tw13197313417129645311:=0
def tw11406551908803567399:=0
def tw8865205839663617159:=0
def tw16098880392749405005:=0
def tw12472242506091562441:=0
def tw2795679134267820765:=0
def tw12381323090332175483:=0
def tw6819736662281195108:=0
def tw15319894415520839388:=0
def tw3130256453569846392:=0
def tw6860468639497095991:=0
def tw17821688568579766338:=0
def tw9196272128516344379:=0
def tw5455134802280111077:=0
def tw5362229345085415530:=0
def tw6650008236601169170:=0
def tw16137741833952328885:=0
def tw17771586887081061727:=0
def tw16690011119519116863:=0
def tw15466163059711169170:=0
def tw18364240742517874883:=0
def tw13675692242962270092:=0
def tw486016617778956669:=0
def tw1144945014613688336:=0
def tw14198490090439680691:=0
def tw1590978125284344366:=0
def tw8530093902027175685:=0
def tw4852478093096060447:=0
def tw8363435988532490729:=0
def tw6442388051263672659:=0
def tw14466384250060799300:=0
def tw8548056900627461078:=0
def tw129370712890093451:=0
def tw13873832785952412529:=0
def tw6593980764958453807:=0
def tw4498195076256632541:=0
def tw803126082456623822:=0
def tw17367318049476779053:=0
def tw4880214372795788592:=0
def tw13408300519894234427:=0
def tw13259972027563266480:=0
def tw17436127287202472858:=0
def tw1948260465577855279:=0
def tw17220268345222762436:=0
def tw13960864487212280584:=0
def tw14910081510697522938:=0
def tw7927030606225759635:=0
def tw1168122979022361968:=0
def tw9041869551983834360:=0
def tw15718012148650149697:=0
def tw5413002657574037077:=0
def tw4395997185383754217:=0
def tw13782107418029501781:=0
def tw13326898062541295942:=0
def tw12264161703214120864:=0
def tw1228818141870603812:=0
def tw6362669175651158414:=0
def tw10646448332953732485:=0
def tw14984590413995498637:=0
def tw9495152367935093207:=0
def tw9843968287790467214:=0
def tw4467487589597807607:=0
def tw16969911246308946984:=0
def tw2949630943451928889:=0
def tw17970128493509346734:=0
def tw8291307457410010843:=0
def tw2346824960890709787:=0
def tw13784744539712263682:=0
def tw15788798904882375518:=0
def tw1659659224823478684:=0
def tw655450092444327147:=0
def tw13229909044615472129:=0
def tw5415411019709294903:=0
def tw12335076329347340852:=0
def tw18035901740177003534:=0
def tw14034285634709200798:=0
def tw12754495605379046530:=0
def tw7659181065165159740:=0
def tw4179317690030266671:=0
def tw10055822669705123691:=0
def tw7088362183878548505:=0
def tw4749805324160784978:=0
def tw5256842587231613598:=0
def tw1896136442977745209:=0
def tw17090774839113341918:=0
def tw14745468104526074787:=0
def tw2234769599573020946:=0
def tw3622220745032119847:=0
def tw16400817372986722442:=0
def tw3917741854547167802:=0
def tw10080372250342263987:=0
def tw10947680713488568238:=0
def tw2854949820462858701:=0
def tw13515600231354514399:=0
def tw12299458647171382367:=0
def tw3752740991620693346:=0
def tw8487428071540949146:=0
def tw1085975429490535067:=0
def tw6065516904990170204:=0
def tw1024323565769249144:=0
def tw10397604462507930301:=0
def tw2408036964573582797:=0
def tw9860507082615898674:=0
def tw17639219588834510499:=0
def tw945073617677559530:=0
def tw6573003013081271180:=0
def tw6015642488450845862:=0
def tw14256541041824218168:=0
def tw352542555572547648:=0
def tw7952556454471954554:=0
def tw12893133173618891706:=0
def tw5175569653904418630:=0
def tw11997014065988587764:=0
def tw3896119230062050222:=0
def tw619428205505629615:=0
def tw13139143714681505232:=0
def tw17708855978767411481:=0
def tw2228405060249540716:=0
def tw18415684320886254486:=0
def tw8276061956813676441:=0
def tw3298566818311902922:=0
def tw1259242372856224590:=0
def tw8003487721193381988:=0
def tw13122201622682110856:=0
def tw1881936720797479813:=0
def tw3645657211366683374:=0
def tw14363461868184180088:=0
def tw9272397140478044509:=0
def tw12316937646900707828:=0
def tw8058167782796183954:=0
def tw13920105246091631405:=0
def tw14896053191737423876:=0
def tw1987273461060717612:=0
def tw12642255395644592240:=0
def tw14547635726584961941:=0
def tw4084420767785465908:=0
def tw2094960471565787413:=0
def tw15991975908838555004:=0
def tw2293555431724749175:=0
def tw9099617391846206287:=0
def tw10471853444061864754:=0
def tw4608026525090556182:=0
def tw11687331038278127660:=0
def tw10739063616604897517:=0
def tw6768357988845474840:=0
def tw12321238677315917036:=0
def tw3791978270801376537:=0
def tw10585098722368193951:=0
def tw10089073387796043075:=0
def tw14520487780705383942:=0
def tw4698430879556174444:=0
def tw1777217669195569310:=0
def tw9700933202753147541:=0
def tw7545376759514882394:=0
def tw9477673308005778133:=0
def tw17278438802619270619:=0
def tw7051672140152593597:=0
def tw16232925693361148580:=0
def tw8585986127332018838:=0
def tw6094852458131467371:=0
def tw5215624371324287592:=0
def tw1782381543877621293:=0
def tw6482745613292725174:=0
def tw8643628753920109458:=0
def tw9331155928593904032:=0
def tw14008479411354778437:=0
def tw16166137044282624712:=0
def tw9012696771367946767:=0
def tw14293497340830752049:=0
def tw6949396303921108597:=0
def tw2446815503839817690:=0
def tw3706425770351001255:=0
def tw9028504813709620926:=0
def tw17752817280981117981:=0
def tw1678039197170225604:=0
def tw9816847912808560513:=0
def tw12318307048065673156:=0
def tw7389128722900042192:=0
def tw16159021209905932235:=0
def tw2594708548705381329:=0
def tw6554893356692478551:=0
def tw14070535542082334947:=0
def tw18151473300239959976:=0
def tw18243874521234847662:=0
def tw3987897221656435321:=0
def tw4226723157854262659:=0
def tw3756641864223783439:=0
def tw5305176668124198223:=0
def tw5832138993243782568:=0
def tw18347637831740394113:=0
def tw8307768563530022312:=0
def tw17498194175360345106:=0
def tw1105186495230320845:=0
def tw3906295988155314933:=0
def tw7843747303615354379:=0
def tw9731042262449748564:=0
def tw4883750046174597847:=0
def tw13770453379724990672:=0
def tw10769428194160278489:=0
def tw779559490563504756:=0
def tw10129234547996207752:=0
def tw5667600324015893281:=0
def tw18008437003001340076:=0
def tw8754924380000730049:=0
def tw14476323901807832877:=0
def tw1031599798950380517:=0
def tw2649335686377741051:=0
def tw11891828028511495447:=0
def tw2298786466627071246:=0
def tw4378474910967208565:=0
def tw7101321900382864144:=0
def tw15352600904925055475:=0
def tw5591612017999743696:=0
def tw7652718820738513939:=0
def tw6478005276188725374:=0
def tw2996005461788398099:=0
def tw18018889029311583128:=0
def tw760471749130565887:=0
def tw789645989126583744:=0
def tw18212418177741090859:=0
def tw14211912116468682357:=0
def tw12991948605898553146:=0
def tw2665291875207072418:=0
def tw13177704064449052895:=0
def tw16699702073286036178:=0
def tw1303284811301608385:=0
def tw5173324180578876693:=0
def tw6259439542931436991:=0
def tw2814260599317941299:=0
def tw7717741221160446307:=0
def tw8584513073688915314:=0
def tw7285038344247602352:=0
def tw9694956055267645979:=0
def tw9216797466038748632:=0
def tw7157401526916459139:=0
def tw3973117534322407460:=0
def tw4394592743166124599:=0
def tw10004478311890675679:=0
def tw13544225799944273207:=0
def tw14272604164605188561:=0
def tw10327690314055640060:=0
def tw5470706974899960177:=0
def tw14481348668303382236:=0
def tw13032487989836623425:=0
def tw14543106615223803123:=0
def tw5239152171819468470:=0
def tw13799650453953638502:=0
def tw11881123868819631831:=0
def tw7765612007344364617:=0
def tw4445130694572535838:=0
def tw11770685193174496411:=0
def tw5483879698258695446:=0
def tw10790807482036571934:=0
def tw6681634821094272627:=0
def tw16992349208143672699:=0
def tw8073084392624199017:=0
def tw8985116133506129595:=0
def tw13264020028031286964:=0
def tw711131938241162566:=0
def tw4565540267540503397:=0
def tw284543400161019014:=0
def tw2338440925931840453:=0
def tw89163841610304569:=0
def tw5410591992250182020:=0
def tw11296521974604511715:=0
def tw5491679647794133296:=0
def tw16479423891905973552:=0
def tw8674419924437444946:=0
def tw2651372364713311176:=0
def tw4407201508549898636:=0
def tw12281320428171784477:=0
def tw17949904343744966219:=0
def tw14659966482059293432:=0
def tw3301731994342657245:=0
def tw14690250981591790641:=0
def tw13229747562854763294:=0
def tw17342416980706980863:=0
def tw2262872012628573925:=0
def tw10726570738309745072:=0
def tw17173562380929002274:=0
def tw6107370949315515518:=0
def tw13398297212876856694:=0
def tw7636535979267576132:=0
def tw16871654870215272606:=0
def tw5225016343661770267:=0
def tw8562902313533719327:=0
def tw5273009896547247552:=0
def tw17493941283919974849:=0
def tw2213077825024278876:=0
def tw15658516496901145006:=0
def tw9920068990159538224:=0
def tw900252283023474928:=0
def tw9447816939005928337:=0
def tw9953893829794472761:=0
def tw10780233306772121462:=0
def tw17377497130324318279:=0
def tw15342691518211175602:=0
def tw17715088002892603893:=0
def tw2965508448224245564:=0
def tw6058684872080979622:=0
def tw18128919007380738144:=0
def tw16829720728220015071:=0
def tw16338059255638812320:=0
def tw15493280257089799525:=0
def tw5403424704675098727:=0
def tw9815242326910049502:=0
def tw1247640286773363258:=0
def tw7852999209177237047:=0
def tw1456927039027752807:=0
def tw18172414079106225096:=0
def tw10522425380471092389:=0
def tw13128158117825113284:=0
def tw6539515729440742118:=0
def tw16878828038602028332:=0
def tw817021268182947488:=0
def tw18226519725974312922:=0
def tw8880630652324080603:=0
def tw10159076104836360613:=0
def tw9240919305758805510:=0
def tw10268209056114806235:=0
def tw1948446515808564177:=0
def tw1513840664438845041:=0
def tw10294937886562377144:=0
def tw11813099259656691631:=0
def tw8179350734377402777:=0
def tw427344016185503957:=0
def tw12201206339147148074:=0
def tw1216460110336388726:=0
def tw10427916696433660543:=0
def tw2090266704250443193:=0
def tw15447297434241653535:=0
def tw5554901365630777174:=0
def tw5279053762705170053:=0
def tw7282238616062905559:=0
def tw15940887856715022599:=0
def tw5427068783021128742:=0
def tw12756716369427825970:=0
def tw3480598246811357060:=0
def tw9597381067568990003:=0
def tw11544400619239163016:=0
def tw13820486317117565261:=0
def tw16763463884041371726:=0
def tw4702817574858449068:=0
def tw7395046160415132486:=0
def tw563934103374966547:=0
def tw13318026853529930274:=0
def tw14944027972486015480:=0
def tw11770426212301567320:=0
def tw17525983637085500042:=0
def tw1773073618792229709:=0
def tw4010720002156264249:=0
def tw10626906371184488796:=0
def tw2176785252957186999:=0
def tw9159772747072500479:=0
def tw4843266373100971253:=0
def tw12412070658885478357:=0
def tw1133152197155670022:=0
def tw11098558398114293095:=0
def tw4623011372386421640:=0
def tw2295047111984647298:=0
def tw10609574307182275824:=0
def tw9904438952064874809:=0
def tw13731203188850373078:=0
def tw13159560422060802115:=0
def tw8587408672669391227:=0
def tw12552190082928322945:=0
def tw14771421458936236519:=0
def tw54082905323394867:=0
def tw3122536709987929059:=0
def tw10942563891727834449:=0
def tw1110059973839954704:=0
def tw8611251749694440584:=0
def tw2290091576407286780:=0
def tw17070127535976458760:=0
def tw11430392549773971790:=0
def tw15859809482776275106:=0
def tw11718484987181183363:=0
def tw13872636736370948534:=0
def tw13977020624282270587:=0
def tw4389294062449923130:=0
def tw6060702955712673120:=0
def tw1611962310828079139:=0
def tw1534794281628169156:=0
def tw9571940851468504266:=0
def tw15847641053120417043:=0
def tw15494367596614211211:=0
def tw6309012115637526940:=0
def tw5084643014256473677:=0
def tw2817461618636172952:=0
def tw15347479396486627505:=0
def tw17475204290149508648:=0
def tw18235273377858493849:=0
def tw9125435680391794430:=0
def tw14174405300186602978:=0
end PySem.W.Fast
open PySem PySem.W PyProof.Rows
set_option maxRecDepth 100000 in
set_option maxHeartbeats 0 in
theorem PySem.Challenge.cw_shadowpost_k42_keep_dark_holds : PySem.Challenge.rw_shadowpost_k42_keep_dark.Holds := by
 w_on;o_law;k_head;(case hw=>w_witness2)
 k_fill
 refine T.Z4h (l:=PySem.Challenge.rw_shadowpost_k42_keep_dark) rfl rfl (λw h Y=>by first|exact PySem.W.kIn_of Y|exact PySem.W.km_in_of Y) ?F ?hnt ?hrec
 case hnt=>intro w;kernel_rfl
 case hrec=>
  intro y hy
  have e:y=PySem.Str.ofString "cheapest" := by simpa[L2.lams] using hy
  subst e
  exact⟨_,rfl⟩
 case F=>
  intro w mg fa h KX G hmg
  refine' T.Z3X (a:=T.Nj.mk) (T.Tx.mk (mg_of KX G ?_) (mg_of KX G ?_) (mg_of KX G ?_) (mg_of KX G ?_) (mg_of KX G ?_) (mg_of KX G ?_) (mg_of KX G ?_) (P.ħ KX G (λ_ _ _ _ _ _ _ _=>rfl) ?_ ?_ ?_ ?_) (P.ħ KX G (λ_ _ _ _ _ _ _ _=>rfl) ?_ ?_ ?_ ?_) (P.ħ KX G (λ_ _ _ _ _ _ _ _=>rfl) ?_ ?_ ?_ ?_) (P.ħ KX G (λ_ _ _ _ _ _ _=>rfl) ?_ ?_ ?_ ?_) (P.ħ KX G (λ_ _ _ _ _ _ _ _ _ _=>rfl) ?_ ?_ ?_ ?_) (P.oA (λ_ _ _ _ _ _ _ _ _ _ _=>rfl) ?_ ?_ ?_ ?_) (P.ħ KX G (λ_ _ _ _ _ _ _ _ _=>rfl) ?_ ?_ ?_ ?_) (P.ħ KX G (λ_ _ _ _ _ _ _ _=>rfl) ?_ ?_ ?_ ?_) (P.ħ KX G (λ_ _ _ _ _ _ _ _=>rfl) ?_ ?_ ?_ ?_) (P.ħ KX G (λ_ _ _ _ _ _ _ _=>rfl) ?_ ?_ ?_ ?_) (P.ħ KX G (λ_ _ _ _ _ _ _ _=>rfl) ?_ ?_ ?_ ?_) (P.ħ KX G (λ_ _ _ _ _ _ _ _=>rfl) ?_ ?_ ?_ ?_) (P.ħ KX G (λ_ _ _ _ _ _ _ _ _=>rfl) ?_ ?_ ?_ ?_) (P.ħ KX G (λ_ _ _ _ _ _ _ _=>rfl) ?_ ?_ ?_ ?_) (P.ħ KX G (λ_ _ _ _ _ _ _ _=>rfl) ?_ ?_ ?_ ?_) (P.ħ KX G (λ_ _ _ _ _ _ _ _=>rfl) ?_ ?_ ?_ ?_) (P.ħ KX G (λ_ _ _ _ _ _ _ _=>rfl) ?_ ?_ ?_ ?_) (P.ħ KX G (λ_ _ _ _ _ _ _ _ _=>rfl) ?_ ?_ ?_ ?_) (P.Ze0 KX G (λ_ _ _ _ _ _ _ _ _ _ _=>⟨_,rfl,rfl⟩) ?_ ?_ ?d ?_ ?_) (P.ħ KX G (λ_ _ _ _ _ _ _=>rfl) ?_ ?_ ?_ ?_) (P.ħ KX G (λ_ _ _ _ _ _ _=>rfl) ?_ ?_ ?_ ?_) (P.ħ KX G (λ_ _ _ _ _ _ _=>rfl) ?_ ?_ ?_ ?_) (P.ħ KX G (λ_ _ _ _ _ _ _ _=>rfl) ?_ ?_ ?_ ?_) (P.ħ KX G (λ_ _ _ _ _ _ _ _=>rfl) ?_ ?_ ?_ ?_) (P.ħ KX G (λ_ _ _ _ _ _ _=>rfl) ?_ ?_ ?_ ?_) (P.ħ KX G (λ_ _ _ _ _ _ _=>rfl) ?_ ?_ ?_ ?_) (P.ħ KX G (λ_ _ _ _ _ _ _ _=>rfl) ?_ ?_ ?_ ?_) (P.ħ KX G (λ_ _ _ _ _ _ _=>rfl) ?_ ?_ ?_ ?_) (P.ħ KX G (λ_ _ _ _ _ _ _=>rfl) ?_ ?_ ?_ ?_) (P.ħ KX G (λ_ _ _ _ _ _ _ _=>rfl) ?_ ?_ ?_ ?_) (P.ħ KX G (λ_ _ _ _ _ _ _ _=>rfl) ?_ ?_ ?_ ?_) (P.ħ KX G (λ_ _ _ _ _ _ _ _ _=>rfl) ?_ ?_ ?_ ?_) (P.ħ KX G (λ_ _ _ _ _ _ _ _ _=>rfl) ?_ ?_ ?_ ?_) (P.ħ KX G (λ_ _ _ _ _ _ _ _=>rfl) ?_ ?_ ?_ ?_) (P.ħ KX G (λ_ _ _ _ _ _ _=>rfl) ?_ ?_ ?_ ?_) (P.ħ KX G (λ_ _ _ _ _ _ _ _=>rfl) ?_ ?_ ?_ ?_) (P.ħ KX G (λ_ _ _ _ _ _ _ _=>rfl) ?_ ?_ ?_ ?_) (P.ħ KX G (λ_ _ _ _ _ _ _ _=>rfl) ?_ ?_ ?_ ?_) (P.ħ KX G (λ_ _ _ _ _ _ _ _=>rfl) ?_ ?_ ?_ ?_) (P.ħ KX G (λ_ _ _ _ _ _ _ _ _ _ _=>rfl) ?_ ?_ ?_ ?_) (P.ħ KX G (λ_ _ _ _ _ _ _ _ _ _ _=>rfl) ?_ ?_ ?_ ?_) (P.oA (λ_ _ _ _ _ _ _=>rfl) ?_ ?_ ?_ ?_) (P.oA (λ_ _ _ _ _ _ _=>rfl) ?_ ?_ ?_ ?_) (P.oA (λ_ _ _ _ _ _ _=>rfl) ?_ ?_ ?_ ?_) (P.oA (λ_ _ _ _ _ _ _=>rfl) ?_ ?_ ?_ ?_) (P.oA (λ_ _ _ _ _ _ _=>rfl) ?_ ?_ ?_ ?_) (P.ħ KX G (λ_ _ _ _ _ _ _ _=>rfl) ?_ ?_ ?_ ?_) (P.ħ KX G (λ_ _ _ _ _ _ _ _=>rfl) ?_ ?_ ?_ ?_) (P.ħ KX G (λ_ _ _ _ _ _ _ _ _=>rfl) ?_ ?_ ?_ ?_) (P.ħ KX G (λ_ _ _ _ _ _ _ _ _=>rfl) ?_ ?_ ?_ ?_) (P.ħ KX G (λ_ _ _ _ _ _ _ _ _=>rfl) ?_ ?_ ?_ ?_) (P.ħ KX G (λ_ _ _ _ _ _ _ _ _=>rfl) ?_ ?_ ?_ ?_) (P.ħ KX G (λ_ _ _ _ _ _ _ _ _=>rfl) ?_ ?_ ?_ ?_) (P.ħ KX G (λ_ _ _ _ _ _ _ _=>rfl) ?_ ?_ ?_ ?_) (P.ħ KX G (λ_ _ _ _ _ _ _ _ _=>rfl) ?_ ?_ ?_ ?_) (P.ħ KX G (λ_ _ _ _ _ _ _ _=>rfl) ?_ ?_ ?_ ?_) (P.ħ KX G (λ_ _ _ _ _ _ _ _=>rfl) ?_ ?_ ?_ ?_) (P.ħ KX G (λ_ _ _ _ _ _ _=>rfl) ?_ ?_ ?_ ?_) (P.ħ KX G (λ_ _ _ _ _ _ _ _ _=>rfl) ?_ ?_ ?_ ?_) (P.ħ KX G (λ_ _ _ _ _ _ _ _ _ _=>rfl) ?_ ?_ ?_ ?_) (P.ħ KX G (λ_ _ _ _ _ _ _=>rfl) ?_ ?_ ?_ ?_) (P.ħ KX G (λ_ _ _ _ _ _ _ _=>rfl) ?_ ?_ ?_ ?_) (P.ħ KX G (λ_ _ _ _ _ _ _ _=>rfl) ?_ ?_ ?_ ?_) (P.ħ KX G (λ_ _ _ _ _ _ _=>rfl) ?_ ?_ ?_ ?_) (P.ħ KX G (λ_ _ _ _ _ _ _=>rfl) ?_ ?_ ?_ ?_) (P.ħ KX G (λ_ _ _ _ _ _ _=>rfl) ?_ ?_ ?_ ?_) (P.oA (λ_ _ _ _ _ _ _ _ _=>rfl) ?_ ?_ ?_ ?_) (P.ħ KX G (λ_ _ _ _ _ _ _=>rfl) ?_ ?_ ?_ ?_) (P.ħ KX G (λ_ _ _ _ _ _ _=>rfl) ?_ ?_ ?_ ?_) (P.ħ KX G (λ_ _ _ _ _ _ _=>rfl) ?_ ?_ ?_ ?_) (P.ħ KX G (λ_ _ _ _ _ _ _=>rfl) ?_ ?_ ?_ ?_) (P.ħ KX G (λ_ _ _ _ _ _ _=>rfl) ?_ ?_ ?_ ?_) (P.ħ KX G (λ_ _ _ _ _ _ _ _=>rfl) ?_ ?_ ?_ ?_) (P.ħ KX G (λ_ _ _ _ _ _ _ _=>rfl) ?_ ?_ ?_ ?_) (P.ħ KX G (λ_ _ _ _ _ _ _ _ _ _=>rfl) ?_ ?_ ?_ ?_) (P.ħ KX G (λ_ _ _ _ _ _ _ _ _=>rfl) ?_ ?_ ?_ ?_) (P.ħ KX G (λ_ _ _ _ _ _ _ _=>rfl) ?_ ?_ ?_ ?_) (P.ħ KX G (λ_ _ _ _ _ _ _ _=>rfl) ?_ ?_ ?_ ?_) (P.ħ KX G (λ_ _ _ _ _ _ _ _=>rfl) ?_ ?_ ?_ ?_) (P.ħ KX G (λ_ _ _ _ _ _ _ _ _=>rfl) ?_ ?_ ?_ ?_) (P.ħ KX G (λ_ _ _ _ _ _ _=>rfl) ?_ ?_ ?_ ?_) (P.oA (λ_ _ _ _ _ _ _=>rfl) ?_ ?_ ?_ ?_) (P.ħ KX G (λ_ _ _ _ _ _ _=>rfl) ?_ ?_ ?_ ?_) (mg_of KX G ?_) (mg_of KX G ?_) (mg_none_of KX G ?_) (mg_none_of KX G ?_) (mg_none_of KX G ?_) (mg_none_of KX G ?_) (mg_none_of KX G ?_) (mg_none_of KX G ?_) (mg_none_of KX G ?_) (mg_none_of KX G ?_) (mg_none_of KX G ?_) (mg_none_of KX G ?_) (mg_none_of KX G ?_) (mg_none_of KX G ?_) (mg_none_of KX G ?_) (mg_none_of KX G ?_) (mg_none_of KX G ?_) (P.j_ ?_) (P.qW ?_) ?_ ?_ ?_ ?_ (P.j_ ?_) (P.qW ?_) ?_ ?_ (P.bA ?_) (P.j_ ?_) (P.qW ?_) ?_ ?_ (P.bA ?_) (P.bA ?_) (P.j_ ?_) (P.qW ?_) ?_ ?_ (P.bA ?_) (P.bA ?_) (P.j_ ?_) (P.qW ?_) ?_ ?_ (P.bA ?_) (P.bA ?_) (P.j_ ?_) (P.qW ?_) ?_ ?_ (P.bA ?_) (P.bA ?_) (P.j_ ?_) (P.qW ?_) ?_ ?_ (P.bA ?_) (P.bA ?_) ?_) hmg
  any_goals (dsimp only;k_is)
  case d=>k_is
  any_goals first|kernel_rfl|(unfold L2.Ń;kernel_rfl)
  all_goals skip
