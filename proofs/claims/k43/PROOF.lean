import PyProof.Rows.All
import Wide.All
import OpenK.AllK
import Wide.FinOn
import Lean
import PyProof.EqAt
import PyProof.EqKinds
import PyProof.TupleCall
import PySem.Challenge.RW_shadowpost_k43_keep_dark_refused
set_option Elab.async false
set_option linter.all false
set_option maxRecDepth 100000
set_option maxHeartbeats 4000000
namespace L2
open PySem PySem.Spec PyProof.Rows
abbrev Key:=Sum Int Str
def TQ:Key->Value->Bool
 | .inl k,v=>Value.isInt k v
 | .inr x,v=>Value.isStrOf x v
def ZfO(w:World):Key->Int
 | .inl k=>hashInt k
 | .inr x=>hashStr w x
theorem Ű:∀{k:Key} {v:Value},TQ k v=true->(∃i t,k=Sum.inl i/\v=Value.int i t)\/(∃x t,k=Sum.inr x/\v=Value.str x t)
 | .inl i,v,h=>by
   obtain⟨t,e⟩:=Value.isInt_shape (k:=i) (v:=v) h
   exact .inl ⟨i,t,rfl,e⟩
 | .inr x,v,h=>by
   obtain⟨t,e⟩:=Value.isStrOf_shape (x:=x) (v:=v) h
   exact .inr ⟨x,t,rfl,e⟩
def ZaA(a b:Int):decide ((Sum.inl a:Key)=Sum.inl b)=(a== b):=by
 by_cases e:a=b
 ·subst e;simp
 ·have h:¬(Sum.inl a:Key)=Sum.inl b:=λq=>e (Sum.inl.inj q)
  rw[decide_eq_false h]
  exact(beq_eq_false_iff_ne.mpr e).symm
def ZaB(a b:Str):decide ((Sum.inr a:Key)=Sum.inr b)=decide (a=b):=by
 by_cases e:a=b
 ·subst e;simp
 ·have h:¬(Sum.inr a:Key)=Sum.inr b:=λq=>e (Sum.inr.inj q)
  rw[decide_eq_false h,decide_eq_false e]
def ZaC(a:Int)(b:Str):decide ((Sum.inl a:Key)=Sum.inr b)=false:=decide_eq_false (λq=>nomatch q)
def ZaD(a:Str)(b:Int):decide ((Sum.inr a:Key)=Sum.inl b)=false:=decide_eq_false (λq=>nomatch q)
def wD(prog:Program)(w:World):PySem.KeyKind prog w Key where
 is:=TQ
 hash:=ZfO w
 inj:=λv a b ha hb=>by
  rcases Ű ha with⟨i,t,rfl,rfl⟩|⟨x,t,rfl,rfl⟩
  ·rcases Ű hb with⟨j,u,rfl,e⟩|⟨y,u,rfl,e⟩
   ·injection e with e1 _;rw[e1]
   ·exact nomatch e
  ·rcases Ű hb with⟨j,u,rfl,e⟩|⟨y,u,rfl,e⟩
   ·exact nomatch e
   ·injection e with e1 _;rw[e1]
 byValue:=λk v h=>by
  rcases Ű h with⟨i,t,rfl,rfl⟩|⟨x,t,rfl,rfl⟩<;>rfl
 pyHash:=λhv h=>by
  rcases Ű hv with⟨i,t,rfl,rfl⟩|⟨x,t,rfl,rfl⟩
  ·exact wpAny_pyHash_int h
  ·exact wpAny_pyHash_str h
 eqBool:=λhu hv h=>by
  rcases Ű hu with⟨i,t,rfl,rfl⟩|⟨x,t,rfl,rfl⟩
  ·rcases Ű hv with⟨j,u,rfl,rfl⟩|⟨y,u,rfl,rfl⟩
   ·rw[ZaA] at h;exact wpAny_eqBool_int h
   ·rw[ZaC] at h;exact SeqAt.EqAt.int_str i t y u _ _ _ _ h
  ·rcases Ű hv with⟨j,u,rfl,rfl⟩|⟨y,u,rfl,rfl⟩
   ·rw[ZaD] at h;exact SeqAt.EqAt.str_int x t j u _ _ _ _ h
   ·rw[ZaB] at h;exact wpAny_eqBool_str h
 «strs» := fun k x t v h=>by
   rcases Ű h with⟨i,u,rfl,e⟩|⟨y,u,rfl,e⟩
   ·exact nomatch e
   ·injection e with e1 _
    subst e1
    cases v<;>rfl
end L2
namespace L2
open PySem PySem.Spec PyProof.Rows
inductive V where
 |non|bl (b:Bool)|int (i:Int)|str (x:Str)|TX (b:Array UInt8)|flt (b:UInt64)|ref (a:Addr)|ty (n:String)
 deriving DecidableEq
def RelV:V->Value->Prop
 | .non,u=>u=Value.none
 | .bl b,u=>u=Value.bool b
 | .int i,u=>∃t,u=Value.int i t
 | .str x,u=>∃t,u=Value.str x t
 | .TX b,u=>∃t,u=Value.bytes b t
 | .flt b,u=>∃t,u=Value.float b t
 | .ref a,u=>u=Value.ref a
 | .ty n,u=>u=Value.type n
abbrev Vals:List V->List Value->Prop:=Paired RelV
theorem Vals.length{xs:List V}{us:List Value}(r:Vals xs us):xs.length=us.length:=Paired.length r
theorem Vals.get:∀{xs:List V} {us:List Value} {i:Nat} {x:V},Vals xs us->xs[i]?=some x->∃u,us[i]?=some u/\RelV x u
 |_,_,_,_,.nil,e=>by simp at e
 |_,_,0,_,.cons r _,e=>by simp at e;subst e;exact⟨_,rfl,r⟩
 |_,_,i+1,x,.cons _ t,e=>by
  obtain⟨u,h1,h2⟩:=Vals.get (i:=i) (x:=x) t (by simpa using e)
  exact⟨u,by simpa using h1,h2⟩
theorem Vals.set{x:V}{u:Value}(r:RelV x u):∀{xs:List V} {us:List Value} (i:Nat),Vals xs us->Vals (xs.set i x) (us.set i u)
 |_,_,_,.nil=>.nil
 |_,_,0,.cons _ t=>.cons r t
 |_,_,i+1,.cons q t=>.cons q (Vals.set r i t)
theorem Vals.append:∀{xs ys:List V} {us ws:List Value},Vals xs us->Vals ys ws->Vals (xs++ys) (us++ws)
 |_,_,_,_,.nil,s=>s
 |_,_,_,_,.cons r t,s=>.cons r (Vals.append t s)
theorem Vals.take:∀{xs:List V} {us:List Value} (n:Nat),Vals xs us->Vals (xs.take n) (us.take n)
 |_,_,0,_=>.nil
 |_,_,_+1,.nil=>.nil
 |_,_,n+1,.cons r t=>.cons r (Vals.take n t)
theorem Vals.drop:∀{xs:List V} {us:List Value} (n:Nat),Vals xs us->Vals (xs.drop n) (us.drop n)
 |_,_,0,r=>r
 |_,_,_+1,.nil=>.nil
 |_,_,n+1,.cons _ t=>Vals.drop n t
def nJ:Option V->Option Value->Prop
 |some v,some u=>RelV v u
 |none,none=>True
 |_,_=>False
def KV{κ:Type}:List (κ×V)->List (κ×Value)->Prop:=Paired λ(p:κ×V) (q:κ×Value)=>p.1=q.1/\RelV p.2 q.2
def kV:Key->V
 | .inl i=>.int i
 | .inr x=>.str x
inductive HO where
 /-- a list -/
 |lst (xs:List V)
 /-- a tuple (never changes) -/
 |tup (xs:List V)
 /-- a dict whose keys are ints and texts;one whose keys are tuples of ints and texts (the empty one is both) -/
 |dK (kvs:List (Key×V))|dT (kvs:List (List Key×V))
 /-- a set of ints:its members,its size -/
 |set (S:Int->Bool) (n:Nat)
 /-- an instance of the class at C,its dict at dx,its attributes -/
 |ins (C dx:Addr) (fs:List (Str×V))
 /-- the dict of the instance at x -/
 |own (x:Addr)
 /-- the dict of an exception -/
 |xd (fs:List (Str×V))
 /-- a bound method,f of x -/
 |met (f x:Addr)
 /-- a range object lo,lo+1,.. below hi -/
 |rng (lo hi:Int)
 /-- a thing that is known to the object (the script;a dict while a loop walks it):read,never written while it is so -/
 |gD (o:Obj) (u:HO)
 /-- a code object's table -/
 |jF (q:Str)
 /-- a code made of such a table,by its name -/
 |Gn (q:Str)
 /-- any other thing,by what is true of its one object (a def of one's own:ZhI a S n:=HO.ext λh=>..) -/
 |ext (φ:Heap->Prop)
abbrev Hp:=Addr->Option HO
def upd(H:Hp)(a:Addr)(o:HO):Hp:=λb=>if b=a then some o else H b
def Ī{H:Hp}{a:Addr}{o:HO}:upd H a o a=some o:=by unfold upd;rw[if_pos rfl]
def Ę{H:Hp}{a b:Addr}{o:HO}(h:b≠a):upd H a o b=H b:=by unfold upd;rw[if_neg h]
def Ġ{H:Hp}{a b:Addr}{o:HO}(h:H a=some o)(h':H b=none):a≠b:=by
 intro e;subst e;rw[h] at h';cases h'
section
variable(P:Program)(w:World)
def Ź(H:Hp)(h:Heap)(a:Addr):HO->Prop
 | .lst xs=>xs.length<=sizeLine/\∃(its:List Value) (n:Nat),Vals xs its/\h.get? a=some {cls:=.type "list",data:=.seq its.toArray n}
 | .tup xs=>xs.length<=sizeLine/\∃its:List Value,Vals xs its/\IsTup h a its.toArray
 | .dK kvs=>kvs.length<=sizeLine/\(a== sysModules)=false/\∃vs,KV kvs vs/\h.DictOf (wD P w) a vs
 | .dT kvs=>kvs.length≤sizeLine∧(a== sysModules)=false∧∃xs:List (List Key×Addr×Value),
     Paired (λ(p:List Key×V) (q:List Key×Addr×Value)=>p.1=q.1/\H q.2.1=some (.tup (p.1.map kV))/\RelV p.2 q.2.2) kvs xs/\
     ∃o es ep,h.get? a=some o/\o.ExactDict/\o.data=.dict es ep/\es.toList=xs.map (entryOfKey (tupleKind (wD P w)))/\(xs.map (·.1)).Nodup
 | .set S n=>h.SetOf (intKind P w) a S n
 | .ins C dx fs=>H dx=some (.own a)∧fs.length≤1000∧dx≠a∧h.get? a=some (PySem.W.instObj C dx)∧
     ∃mA,h.Ns1 dx mA/\(∀f,nJ (fs.lookup f) (mA f))/\PySem.Within mA (fs.map (·.1))
 | .own _=>∃o,h.get? a=some o
 | .xd fs=>∃mA,h.Ns1 a mA/\∀f,nJ (fs.lookup f) (mA f)
 | .rng lo hi=>∃t u v,h.get? a=some {cls:=.type "range",data:=.fields #[.int lo t,.int hi u,.int 1 v]}
 | .gD o u=>h.get? a=some o/\Ź H h a u
 | .jF q=>∃ps:Array Value,h.get? a=some {cls:=.none,data:=.fields ps}/\TriplesOk ps.toList/\∀pos cv,codeAmong pos ps.toList=some cv->∃c,cv=.ref c/\H c=some (.Gn q)
 | .Gn q=>h.CodeRec (.ref a) q
 | .met f x=>h.get? a=some (PySem.W.methodObj (.ref f) (.ref x))
 | .ext φ=>φ h/\(∃o,h.get? a=some o)/\∀h1 h2:Heap,φ h1->(∀o,h1.get? a=some o->h2.get? a=some o)->φ h2
def gK(H:Hp)(h:Heap):Prop:=∀a o,H a=some o->Ź P w H h a o
end
section
variable{P:Program}{w:World}{H H':Hp}{h h':Heap}{a:Addr}{o:HO}
theorem Ź.lt(x:Ź P w H h a o):a<h.objs.size:=by
 cases o with
 |lst xs=>obtain⟨_,_,_,_,e⟩:=x;exact Heap.lt_size e
 |tup xs=>obtain⟨_,_,_,p⟩:=x;exact p.lt
 |dK kvs=>obtain⟨_,_,_,_,o,_,_,e,_⟩:=x;exact Heap.lt_size e
 |dT kvs=>obtain⟨_,_,_,_,o,_,_,e,_⟩:=x;exact Heap.lt_size e
 |set S n=>obtain⟨o,_,_,_,e,_⟩:=x;exact Heap.lt_size e
 |ins C dx fs=>obtain⟨_,_,_,e,_⟩:=x;exact Heap.lt_size e
 |own y=>obtain⟨_,e⟩:=x;exact Heap.lt_size e
 |xd fs=>obtain⟨_,⟨_,_,_,e,_⟩,_⟩:=x;exact Heap.lt_size e
 |rng lo hi=>obtain⟨_,_,_,e⟩:=x;exact Heap.lt_size e
 |gD ob u=>obtain⟨e,_⟩:=x;exact Heap.lt_size e
 |jF q=>obtain⟨_,e,_⟩:=x;exact Heap.lt_size e
 |Gn q=>obtain⟨c,o,_,_,z,e,_⟩:=x;cases z;exact Heap.lt_size e
 |met f y=>exact Heap.lt_size (show h.get? a=some _ from x)
 |ext φ=>obtain⟨_,⟨_,e⟩,_⟩:=x;exact Heap.lt_size e
theorem Paired.Zdf{α β:Type}{F G:α->β->Prop}:∀{l₁:List α} {l₂:List β},Paired F l₁ l₂->(∀a b,F a b->G a b)->Paired G l₁ l₂
 |_,_,.nil,_=>.nil
 |_,_,.cons r t,f=>.cons (f _ _ r) (Paired.Zdf t f)
def Ź.stay(x:Ź P w H h a o)(k:∀b u,(b=a\/H b=some (.own a))->h.get? b=some u->h'.get? b=some u)
 (ho:∀b,H b=some (.own a)->H' b=some (.own a))(ht:∀b xs,H b=some (.tup xs)->H' b=some (.tup xs))(hc:∀b q,H b=some (.Gn q)->H' b=some (.Gn q):=by exact λ_ _ z=>z):Ź P w H' h' a o:=by
 induction o with
 |lst xs=>obtain⟨z,its,n,r,e⟩:=x;exact⟨z,its,n,r,k _ _ (.inl rfl) e⟩
 |tup xs=>obtain⟨z,its,r,ob,e,c⟩:=x;exact⟨z,its,r,ob,k _ _ (.inl rfl) e,c⟩
 |dK kvs=>obtain⟨z,y,vs,r,ob,es,ep,e,c⟩:=x;exact⟨z,y,vs,r,ob,es,ep,k _ _ (.inl rfl) e,c⟩
 |dT kvs=>
  obtain⟨z,y,xs,r,ob,es,ep,e,c⟩:=x
  exact⟨z,y,xs,Paired.Zdf r λp q z=>⟨z.1,ht _ _ z.2.1,z.2.2⟩,ob,es,ep,k _ _ (.inl rfl) e,c⟩
 |set S n=>obtain⟨ob,es,ep,t,e,c⟩:=x;exact⟨ob,es,ep,t,k _ _ (.inl rfl) e,c⟩
 |ins C dx fs=>
  obtain⟨d,z,ne,e,mA,⟨od,es,ep,e2,c⟩,r⟩:=x
  exact⟨ho _ d,z,ne,k _ _ (.inl rfl) e,mA,⟨od,es,ep,k _ _ (.inr d) e2,c⟩,r⟩
 |own y=>obtain⟨ob,e⟩:=x;exact⟨ob,k _ _ (.inl rfl) e⟩
 |xd fs=>obtain⟨mA,⟨od,es,ep,e,c⟩,r⟩:=x;exact⟨mA,⟨od,es,ep,k _ _ (.inl rfl) e,c⟩,r⟩
 |rng lo hi=>obtain⟨t,u,v,e⟩:=x;exact⟨t,u,v,k _ _ (.inl rfl) e⟩
 |gD ob u ih=>obtain⟨e,q⟩:=x;exact⟨k _ _ (.inl rfl) e,ih q⟩
 |jF q=>
  obtain⟨ps,e,t,r⟩:=x
  exact⟨ps,k a _ (.inl rfl) e,t,λpos cv z=>let ⟨c,z1,z2⟩:=r pos cv z;⟨c,z1,hc c q z2⟩⟩
 |Gn q=>
  obtain⟨c,o,vs,t,z,e,r⟩:=x
  cases z
  exact⟨a,o,vs,t,rfl,k a _ (.inl rfl) e,r⟩
 |met f y=>
  have e:h.get? a=some (PySem.W.methodObj (.ref f) (.ref y)):=x
  show h'.get? a=some (PySem.W.methodObj (.ref f) (.ref y))
  exact k a _ (.inl rfl) e
 |ext φ=>obtain⟨p,⟨o,e⟩,st⟩:=x;exact⟨st _ _ p λo q=>k _ _ (.inl rfl) q,⟨o,k _ _ (.inl rfl) e⟩,st⟩
theorem gK.lt(x:gK P w H h)(e:H a=some o):a<h.objs.size:=(x a o e).lt
def gK.fresh(x:gK P w H h)(e:h.objs.size<=a):H a=none:=by
 cases q:H a with
 |none=>rfl
 |some u=>exact absurd (Nat.lt_of_lt_of_le (x.lt q) e) (Nat.lt_irrefl _)
def gK.kept(x:gK P w H h)(k:∀b u,h.get? b=some u->h'.get? b=some u):gK P w H h':=λa o e=>
 (x a o e).stay (λb u _ q=>k b u q) (λ_ q=>q) λ_ _ q=>q
def gK.laid(x:gK P w H h)(k:∀b u,h.get? b=some u->h'.get? b=some u)(hp:h.objs.size<=a)(new:Ź P w (upd H a o) h' a o):gK P w (upd H a o) h':=λb u e=>by
 have hn:=x.fresh hp
 by_cases hb:b=a
 ·subst hb;rw[Ī] at e;cases e;exact new
 ·rw[Ę hb] at e
  exact(x b u e).stay (λc v _ q=>k c v q) (λc q=>by rw[Ę (Ġ q hn)];exact q) (λc xs q=>by rw[Ę (Ġ q hn)];exact q) λc xs q=>by rw[Ę (Ġ q hn)];exact q
end
def Rd(H:Hp)(a:Addr)(u:HO):Prop:=H a=some u\/∃o,H a=some (.gD o u)
def Rd.ok{P:Program}{w:World}{H:Hp}{h:Heap}{a:Addr}{u:HO}(r:Rd H a u)(x:gK P w H h):Ź P w H h a u:=by
 rcases r with r|⟨o,r⟩
 ·exact x a u r
 ·obtain⟨_,q⟩:=x a _ r
  exact q
def Mut:Option HO->Prop
 |some (.lst _)=>True
 |some (.dK _)=>True
 |some (.dT _)=>True
 |some (.set _ _)=>True
 |some (.ins _ _ _)=>True
 |some (.ext _)=>True
 |some (.xd _)=>True
 |_=>False
section
variable{P:Program}{w:World}{H:Hp}{h h':Heap}{x e:Addr}{o':HO}
def gK.write(ok:gK P w H h)(mu:Mut (H x))(he:e=x\/H e=some (.own x))(k:∀b u,b≠e->h.get? b=some u->h'.get? b=some u)(heo:∃u,h'.get? e=some u)
 (new:Ź P w (upd H x o') h' x o'):gK P w (upd H x o') h':=λb u q=>by
 have Zdg:∀c y,H c=some (.own y)->c≠x:=λc y r z=>by subst z;rw[r] at mu;exact mu
 have ZfP:∀c xs,H c=some (.tup xs)->c≠x:=λc xs r z=>by subst z;rw[r] at mu;exact mu
 have ZfQ:∀c q,H c=some (.Gn q)->c≠x:=λc xs r z=>by subst z;rw[r] at mu;exact mu
 by_cases hb:b=x
 ·subst hb;rw[Ī] at q;cases q;exact new
 ·rw[Ę hb] at q
  by_cases hbe:b=e
  ·have q':H b=some (.own x):=by
    rcases he with z|z
    ·exact absurd (hbe.trans z) hb
    ·rw[hbe];exact z
   rw[q] at q';cases q'
   obtain⟨v,hv⟩:=heo
   exact⟨v,by rw[hbe];exact hv⟩
  ·refine(ok b u q).stay (λc v hc r=>k c v ?_ r) (λc r=>by rw[Ę (Zdg c b r)];exact r) (λc xs r=>by rw[Ę (ZfP c xs r)];exact r) λc xs r=>by rw[Ę (ZfQ c xs r)];exact r
   rcases hc with rfl|hc
   ·exact hbe
   ·rintro rfl
    rcases he with z|z
    ·exact Zdg c b hc z
    ·rw[hc] at z;cases z;exact hb rfl
end
structure Un(fs ex:List Addr)(H H':Hp)(h h':Heap):Prop where
 keep:∀b o,h.get? b=some o->H b=none->b∉fs->b∉ex->h'.get? b=some o
 slot:∀b o,h.get? b=some o->H b=none->b∈fs->b∉ex->∃sl,h'.get? b=some {o with slots:=sl}
 free:∀b o,h.get? b=some o->H b=none->b∉ex->H' b=none
 there:∀b o,h.get? b=some o->b∉ex->∃o',h'.get? b=some o'
 tups:∀b xs,H b=some (.tup xs)->H' b=some (.tup xs)
 iG:∀b o u,H b=some (.gD o u)->H' b=some (.gD o u)
 gF:∀b q,H b=some (.jF q)->H' b=some (.jF q)
section
variable{fs fs' ex ex':List Addr}{H H1 H2:Hp}{h h1 h2 h':Heap}{a x e:Addr}{o:HO}
def Un.any(u:Un fs ex H H1 h h1){b:Addr}{ob:Obj}(q:h.get? b=some ob)(n:H b=none)(hx:b∉ex):∃sl,h1.get? b=some {ob with slots:=sl}:=by
 by_cases hb:b∈fs
 ·exact u.slot b ob q n hb hx
 ·exact⟨ob.slots,u.keep b ob q n hb hx⟩
def Un.kept(k:∀b u,h.get? b=some u->h'.get? b=some u):Un fs ex H H h h':=
 ⟨λb ob q _ _ _=>k b ob q,λb ob q _ _ _=>⟨ob.slots,k b ob q⟩,λ_ _ _ n _=>n,λb ob q _=>⟨ob,k b ob q⟩,λ_ _ q=>q,λ_ _ _ q=>q,λ_ _ q=>q⟩
def Un.refl:Un fs ex H H h h:=Un.kept λ_ _ q=>q
def Un.laid(k:∀b u,h.get? b=some u->h'.get? b=some u)(hp:h.objs.size<=a)(hn:H a=none):Un fs ex H (upd H a o) h h' where
 keep:=λb u q _ _ _=>k b u q
 slot:=λb u q _ _ _=>⟨u.slots,k b u q⟩
 free:=λb u q n _=>by rw[Ę (Nat.ne_of_lt (Nat.lt_of_lt_of_le (Heap.lt_size q) hp))];exact n
 there:=λb u q _=>⟨u,k b u q⟩
 tups:=λb xs q=>by rw[Ę (Ġ q hn)];exact q
 iG:=λb u xs q=>by rw[Ę (Ġ q hn)];exact q
 gF:=λb ps q=>by rw[Ę (Ġ q hn)];exact q
def Un.write(mu:Mut (H x))(he:e=x\/H e=some (.own x))(k:∀b u,b≠e->h.get? b=some u->h'.get? b=some u)(heo:∃u,h'.get? e=some u):Un fs ex H (upd H x o) h h':=by
 have hx:∀b,H b=none->b≠x:=λb n z=>by subst z;rw[n] at mu;exact mu
 have hb:∀b,H b=none->b≠e:=λb n z=>by
  subst z
  rcases he with r|r
  ·exact hx b n r
  ·rw[n] at r;cases r
 have hm:∀b u,H b=some u->¬Mut (some u)->b≠x:=λb u q nm z=>by subst z;rw[q] at mu;exact nm mu
 refine⟨λb u q n _ _=>k b u (hb b n) q,λb u q n _ _=>⟨u.slots,k b u (hb b n) q⟩,λb u q n _=>by rw[Ę (hx b n)];exact n,λb u q _=>?_,
  λb xs q=>by rw[Ę (hm b _ q λz=>z)];exact q,λb u xs q=>by rw[Ę (hm b _ q λz=>z)];exact q,λb ps q=>by rw[Ę (hm b _ q λz=>z)];exact q⟩
 by_cases hbe:b=e
 ·subst hbe;exact heo
 ·exact⟨u,k b u hbe q⟩
end
def trk(h:Heap)(H:Hp):List Addr:=(List.range h.objs.size).filter λa=>(H a).isSome
def uJ(h:Heap)(H:Hp):Heap:=PySem.W.hideAll h (trk h H)
def Jc(h:Heap)(H:Hp):(uJ h H).objs.size=h.objs.size:=PySem.W.hideAll_size _ _
def J_{h:Heap}{H:Hp}{b:Addr}{o:Obj}(e:h.get? b=some o)(n:H b=none):(uJ h H).get? b=some o:=
 PySem.W.hideAll_get _ e λhm=>by
  have q:(H b).isSome=true:=(List.mem_filter.mp hm).2
  rw[n] at q;simp at q
def QC{h:Heap}{H:Hp}{b:Addr}{o:Obj}(e:(uJ h H).get? b=some o):h.get? b=some o/\H b=none:=by
 have e':h.get? b=some o:=PySem.W.of_hideAll (trk h H) e
 refine⟨e',?_⟩
 cases q:H b with
 |none=>rfl
 |some x=>
  have hm:b∈trk h H:=List.mem_filter.mpr ⟨List.mem_range.mpr (Heap.lt_size e'),by simp[q]⟩
  have z:(uJ h H).get? b=none:=PySem.W.hideAll_none (trk h H) hm
  rw[z] at e;cases e
def QD(g h:Heap)(L:Addr):List (Addr×Obj):=(List.range h.objs.size).filterMap λa=>if a=L\/(g.get? a).isSome=true then none else(h.get? a).map λo=>(a,o)
def rest(g h:Heap)(L d:Addr):List (Addr×Obj):=(QD g h L).filter λp=>decide (p.1≠d)
end L2
namespace L2
open PySem PySem.Spec PyProof.Rows
structure Mod(K:PySem.W.Frag)(mg:Str->Option Value)(base:Heap):Prop where
 kin:K.In base
 glob:base.Ns mainGlobals mg
 blt:∃mb,base.Ns builtinsNs mb/\∀x:Str,x≠ "__name__" ->mb x=bootBuiltins x
 nolimit:base.NoLimit
def lams:List Str:=["cheapest"]
abbrev fC(x:Str):Str:=(x ++ ".<locals>.") ++ "<lambda>"
def TabsOk(K:PySem.W.Frag)(mg:Str->Option Value)(base:Heap)(H:Hp):Prop:=∀x c P,x∈lams->PySem.W.tabIn K x=some (c,P)->PySem.W.CodeHd base c P/\H P=some (.jF (fC x))/\base.BuiltinsAt mg P
structure Cx where
 prog:Program
 w:World
 K:PySem.W.Frag
 mg:Str->Option Value
 base:Heap
 A:Around
 N:List Str
 s₀:Shared
 H₀:Hp
 env:Env
 outer:List Env
 stack:List Env
 ex:List Addr
 fn:Str->Bool
 calm:Bool
 pn:List (Addr×Obj)
 xe:Value->Shared->Prop
def frs(l:List Env):List Addr:=l.filterMap (·.frame)
abbrev Cx.fs(X:Cx):List Addr:=frs X.outer
def Ck(sc:Scope)(x:Str):Prop:=sc.names.lookup x=some .local\/sc.names.lookup x=some .cell\/sc.names.lookup x=some .free
def Loc(sc:Scope)(x:Str):Prop:=sc.names.lookup x=some .local\/sc.names.lookup x=some .cell
def Look(env:Env)(h:Heap)(m:Str->Option Value)(x:Str)(u:Value):Prop:=
 (env.kindOf x=some .local/\m x=some u)\/((env.kindOf x=some .cell\/env.kindOf x=some .free)/\∃c,env.cells.lookup x=some c/\h.IsCell c (some u))
structure Cx.Ok(X:Cx):Prop where
 mod:Mod X.K X.mg X.base
 kind:X.env.scope.kind=.function
 glob:X.env.globals=mainGlobals
 blt:X.env.builtins=builtinsNs
 above:X.s₀.heap.objs.size<=X.env.locals
 inj:∀x y c,X.env.cells.lookup x=some c->X.env.cells.lookup y=some c->x=y
 has:∀x,(X.env.kindOf x=some .cell\/X.env.kindOf x=some .free)->∃c,X.env.cells.lookup x=some c
 cab:∀x c,X.fn x=true->X.env.cells.lookup x=some c->X.s₀.heap.objs.size<=c
 hd:X.calm=true->X.A.handled=none
 frames:X.A.frames=some X.stack
 stk:X.stack=X.outer\/(X.stack=X.env::X.outer/\X.env.frame=some X.env.locals)
 exf:∀b∈X.ex,b≠X.env.locals/\∀x c,X.env.cells.lookup x=some c->c≠b
 bs:∀b o,X.base.get? b=some o->X.s₀.heap.get? b=some o/\X.H₀ b=none
 Gp:X.base.objs.size<=X.s₀.heap.objs.size
 uK:∀b o,X.base.get? b=some o->b∉X.ex
 zU:∀b∈X.ex,b∉X.fs
 lV:X.s₀.heap.FunFrames X.base X.outer
 Ka:∀b∈X.fs,X.H₀ b=none
 tb:TabsOk X.K X.mg X.base X.H₀
structure Inv(X:Cx)(pins:List (Addr×Obj))(σ:List (Option V))(H:Hp)(s:Shared):Prop where
 ok:X.Ok
 os:s.os=X.s₀.os
 bare:AllBare s.gens
 base:Un X.fs X.ex X.H₀ H X.s₀.heap s.heap
 loc:∃m,s.heap.Ns X.env.locals m/\∀(i:Nat) (x:Str) (v:V),X.N[i]?=some x->σ[i]?=some (some v)->Ck X.env.scope x->∃u,RelV v u/\Look X.env s.heap m x u
 cell:∀x c,X.env.cells.lookup x=some c->∃v,s.heap.IsCell c v
 free:H X.env.locals=none
 dz:∀x c,X.env.cells.lookup x=some c->H c=none
 pin:∀p∈X.pn++pins,s.heap.get? p.1=some p.2/\H p.1=none/\p.1≠X.env.locals/\p.1∉X.fs/\∀v,p.2.data≠ .cell v
 hok:gK X.prog X.w H s.heap
 len:σ.length=X.N.length
section
variable{X:Cx}{pins:List (Addr×Obj)}{σ:List (Option V)}{H H':Hp}{s:Shared}{h':Heap}
def Cx.Ok.ZfR(ok:X.Ok){b:Addr}{o:Obj}(e:X.base.get? b=some o):b∉X.fs:=λhb=>by
 have:=(ok.lV.mem hb).1
 rw[e] at this;cases this
theorem Inv.bs(I:Inv X pins σ H s):∀b o,X.base.get? b=some o->s.heap.get? b=some o/\H b=none:=λb o e=>
 ⟨I.base.keep b o (I.ok.bs b o e).1 (I.ok.bs b o e).2 (I.ok.ZfR e) (I.ok.uK b o e),I.base.free b o (I.ok.bs b o e).1 (I.ok.bs b o e).2 (I.ok.uK b o e)⟩
def Inv.bk(I:Inv X pins σ H s):∀b o,X.base.get? b=some o->s.heap.get? b=some o:=λb o e=>(I.bs b o e).1
theorem Inv.tb(I:Inv X pins σ H s):TabsOk X.K X.mg X.base H:=λx c P hx e=>⟨(I.ok.tb x c P hx e).1,I.base.gF _ _ (I.ok.tb x c P hx e).2.1,(I.ok.tb x c P hx e).2.2⟩
theorem Inv.mod(I:Inv X pins σ H s):Mod X.K X.mg X.base:=I.ok.mod
def Inv.iH(I:Inv X pins σ H s):X.K.In s.heap:=I.ok.mod.kin.keeps I.bk
theorem Inv.nolimit(I:Inv X pins σ H s):s.heap.NoLimit:=I.ok.mod.nolimit.keeps I.bk
theorem Inv.lt(I:Inv X pins σ H s):X.env.locals<s.heap.objs.size:=let ⟨_,hn,_⟩:=I.loc;hn.lt
def Inv.sz(I:Inv X pins σ H s):X.s₀.heap.objs.size<=s.heap.objs.size:=Nat.le_trans I.ok.above (Nat.le_of_lt I.lt)
def Inv.ZfS(I:Inv X pins σ H s){a:Addr}(h:s.heap.objs.size<=a):a∉X.fs:=λhb=>by
 obtain⟨_,o,ho,_⟩:=I.ok.lV.mem hb
 exact absurd (Nat.lt_of_lt_of_le (Heap.lt_size ho) (Nat.le_trans I.sz h)) (Nat.lt_irrefl _)
def Inv.QF(I:Inv X pins σ H s):∀x c,X.env.cells.lookup x=some c->c≠X.env.locals:=λx c e z=>by
 obtain⟨v,o,ho,hd⟩:=I.cell x c e
 obtain⟨m,⟨o',es,ep,ho',hd',_⟩,_⟩:=I.loc
 rw[z,ho'] at ho;cases ho;rw[hd'] at hd;cases hd
theorem Inv.lV(I:Inv X pins σ H s):s.heap.FunFrames X.base X.outer:=by
 have all:∀(l:List Env),(∀b∈frs l,b∈X.fs)->X.s₀.heap.FunFrames X.base l->s.heap.FunFrames X.base l:=by
  intro l
  induction l with
  |nil=>intro _ _;trivial
  |cons env r ih=>
   intro hs hl
   obtain⟨hk,⟨L,o,hf,hn,ho,hd⟩,hr⟩:=hl
   have hL:L∈X.fs:=hs L (by unfold frs;rw[List.filterMap_cons,hf];exact List.mem_cons_self)
   obtain⟨sl,e⟩:=I.base.slot L o ho (I.ok.Ka L hL) hL λz=>I.ok.zU L z hL
   exact⟨hk,⟨L,_,hf,hn,e,hd⟩,ih (λb hb=>hs b (by unfold frs;rw[List.filterMap_cons,hf];exact List.mem_cons_of_mem _ hb)) hr⟩
 exact all X.outer (λ_ hb=>hb) I.ok.lV
theorem Inv.stack(I:Inv X pins σ H s):s.heap.FunFrames X.base X.stack:=by
 rcases I.ok.stk with e|⟨e,hf⟩
 ·rw[e];exact I.lV
 ·rw[e]
  obtain⟨m,hn,_⟩:=I.loc
  refine .cons (by rw[I.ok.kind];decide) hf hn ?_ I.lV
  exact Heap.get?_none_of_le (Nat.le_trans I.ok.Gp I.ok.above)
def Inv.rK(I:Inv X pins σ H s):∀b∈frs X.stack,b∈X.env.locals::X.fs:=λb hb=>by
 rcases I.ok.stk with e|⟨e,hf⟩
 ·rw[e] at hb;exact List.mem_cons_of_mem _ hb
 ·rw[e] at hb
  unfold frs at hb
  rw[List.filterMap_cons,hf] at hb
  exact hb
def Inv.qZ(I:Inv X pins σ H s):∀b∈frs X.stack,H b=none:=λb hb=>by
 rcases List.mem_cons.mp (I.rK b hb) with e|hb
 ·rw[e];exact I.free
 ·obtain⟨_,o,ho,_⟩:=I.ok.lV.mem hb
  exact I.base.free b o ho (I.ok.Ka b hb) λz=>I.ok.zU b z hb
def Inv.step{g':Array GenState}{t':Nat}{d':Drawn}{ch:List Addr}(I:Inv X pins σ H s)
 (hch:∀b∈ch,(b∈X.ex\/X.s₀.heap.objs.size<=b)/\b≠X.env.locals/\(∀x c,X.env.cells.lookup x=some c->c≠b)/\∀p∈X.pn++pins,p.1≠b)
 (keep:∀b o,b≠X.env.locals->b∉X.fs->b∉ch->s.heap.get? b=some o->H b=none->h'.get? b=some o)
 (slot:∀b o,b≠X.env.locals->b∈X.fs->b∉ch->s.heap.get? b=some o->H b=none->∃sl,h'.get? b=some {o with slots:=sl})(free:∀b o,b∉ch->s.heap.get? b=some o->H b=none->H' b=none)
 (there:∀b o,b∉ch->s.heap.get? b=some o->∃o',h'.get? b=some o')
 (tups:∀b xs,H b=some (.tup xs)->H' b=some (.tup xs))(iG:∀b o u,H b=some (.gD o u)->H' b=some (.gD o u))(gF:∀b q,H b=some (.jF q)->H' b=some (.jF q))
 (ns:∀m,s.heap.Ns X.env.locals m->h'.Ns X.env.locals m)(hok:gK X.prog X.w H' h')(hg:AllBare g') :
 Inv X pins σ H' {s with heap:=h',gens:=g',drawn:=d',toks:=t'}:=by
 have Qt:∀b o,X.s₀.heap.get? b=some o->b≠X.env.locals:=λb o e=>Nat.ne_of_lt (Nat.lt_of_lt_of_le (Heap.lt_size e) I.ok.above)
 have neC:∀b o,X.s₀.heap.get? b=some o->b∉X.ex->b∉ch:=λb o e hx hb=>by
  rcases(hch b hb).1 with z|z
  ·exact hx z
  ·exact absurd (Nat.lt_of_lt_of_le (Heap.lt_size e) z) (Nat.lt_irrefl _)
 have cellK:∀x c,X.env.cells.lookup x=some c->∀v,s.heap.IsCell c v->h'.IsCell c v:=λx c e v ⟨o,ho,hd⟩=>by
  have nch:c∉ch:=λz=>(hch c z).2.2.1 x c e rfl
  by_cases hc:c∈X.fs
  ·obtain⟨sl,q⟩:=slot c o (I.QF x c e) hc nch ho (I.dz x c e)
   exact⟨_,q,hd⟩
  ·exact⟨o,keep c o (I.QF x c e) hc nch ho (I.dz x c e),hd⟩
 refine⟨I.ok,I.os,hg,⟨λb o e n hb hx=>?_,λb o e n hb hx=>?_,λb o e n hx=>?_,λb o e hx=>?_,λb xs e=>tups b xs (I.base.tups b xs e),λb o xs e=>iG b o xs (I.base.iG b o xs e),λb ps e=>?_⟩,?_,λx c e=>?_,?_,λx c e=>?_,λp hp=>?_,hok,I.len⟩
 ·exact keep b o (Qt b o e) hb (neC b o e hx) (I.base.keep b o e n hb hx) (I.base.free b o e n hx)
 ·obtain⟨sl,e1⟩:=I.base.slot b o e n hb hx
  obtain⟨sl',e2⟩:=slot b _ (Qt b o e) hb (neC b o e hx) e1 (I.base.free b o e n hx)
  exact⟨sl',e2⟩
 ·obtain⟨o',e1⟩:=I.base.there b o e hx
  exact free b o' (neC b o e hx) e1 (I.base.free b o e n hx)
 ·obtain⟨o',e1⟩:=I.base.there b o e hx
  exact there b o' (neC b o e hx) e1
 ·exact gF b ps (I.base.gF b ps e)
 ·obtain⟨m,hn,hl⟩:=I.loc
  refine⟨m,ns m hn,λi x v e1 e2 e3=>?_⟩
  obtain⟨u,r,l⟩:=hl i x v e1 e2 e3
  refine⟨u,r,?_⟩
  rcases l with l|⟨k,c,e,z⟩
  ·exact .inl l
  ·exact .inr ⟨k,c,e,cellK x c e _ z⟩
 ·obtain⟨v,z⟩:=I.cell x c e
  exact⟨v,cellK x c e v z⟩
 ·obtain⟨m,⟨o,_,_,ho,_⟩,_⟩:=I.loc
  exact free _ o (λz=>(hch _ z).2.1 rfl) ho I.free
 ·obtain⟨v,o,ho,hd⟩:=I.cell x c e
  exact free c o (λz=>(hch c z).2.2.1 x c e rfl) ho (I.dz x c e)
 ·obtain⟨e,n,ne,nf,d⟩:=I.pin p hp
  have nch:p.1∉ch:=λz=>(hch p.1 z).2.2.2 p hp rfl
  exact⟨keep p.1 p.2 ne nf nch e n,free p.1 p.2 nch e n,ne,nf,d⟩
def Inv.un{t':Nat}(I:Inv X pins σ H s)(u:Un X.fs [] H H' s.heap h')(hok:gK X.prog X.w H' h'):Inv X pins σ H' {s with heap:=h',toks:=t'}:=by
 obtain⟨m,⟨o,es,ep,ho,r⟩,_⟩:=id I.loc
 obtain⟨sl,hL⟩:=u.any ho I.free (by simp)
 exact I.step (g':=s.gens) (d':=s.drawn) (ch:=[]) (λ_ z=>nomatch z) (λb o _ hb _ e n=>u.keep b o e n hb (by simp)) (λb o _ hb _ e n=>u.slot b o e n hb (by simp)) (λb o _ e n=>u.free b o e n (by simp)) (λb o _ e=>u.there b o e (by simp)) u.tups u.iG u.gF (λm' hm=>by
  obtain⟨o',es',ep',ho',r'⟩:=hm
  rw[ho] at ho';cases ho'
  exact⟨_,es',ep',hL,r'⟩) hok I.bare
def Inv.call{g':Array GenState}{t':Nat}{d':Drawn}{ch:List Addr}(I:Inv X pins σ H s)(u:Un (frs X.stack) ch H H' s.heap h')(hok:gK X.prog X.w H' h')(hg:AllBare g')
 (hch:∀b∈ch,(b∈X.ex\/X.s₀.heap.objs.size<=b)/\b≠X.env.locals/\(∀x c,X.env.cells.lookup x=some c->c≠b)/\∀p∈X.pn++pins,p.1≠b) :
 Inv X pins σ H' {s with heap:=h',gens:=g',drawn:=d',toks:=t'}:=by
 obtain⟨m,⟨o,es,ep,ho,r⟩,_⟩:=id I.loc
 obtain⟨sl,hL⟩:=u.any ho I.free λz=>(hch _ z).2.1 rfl
 exact I.step (ch:=ch) hch (λb o hL hb hc e n=>u.keep b o e n (λz=>(List.mem_cons.mp (I.rK b z)).elim hL hb) hc) (λb o _ _ hc e n=>u.any e n hc) (λb o hc e n=>u.free b o e n hc) (λb o hc e=>u.there b o e hc) u.tups u.iG u.gF (λm' hm=>by
  obtain⟨o',es',ep',ho',r'⟩:=hm
  rw[ho] at ho';cases ho'
  exact⟨_,es',ep',hL,r'⟩) hok hg
def Inv.turned{t':Nat}{it:Addr}(I:Inv X pins σ H s)(k:∀b o,b≠it->s.heap.get? b=some o->h'.get? b=some o)(hn:H it=none)(hL:it≠X.env.locals)
 (h1:it∈X.ex\/X.s₀.heap.objs.size<=it)(h2:∀x c,X.env.cells.lookup x=some c->c≠it)(h3:∀p∈X.pn++pins,p.1≠it):Inv X pins σ H {s with heap:=h',toks:=t'}:=by
 have nit:∀b u,H b=some u->b≠it:=λb u e z=>by rw[z,hn] at e;cases e
 refine I.step (g':=s.gens) (d':=s.drawn) (ch:=[it]) (λb hb=>?_) (λb o _ _ hc e _=>k b o (λz=>hc (by simp[z])) e) (λb o _ _ hc e _=>⟨o.slots,k b o (λz=>hc (by simp[z])) e⟩) (λ_ _ _ _ n=>n)
  (λb o hc e=>⟨o,k b o (λz=>hc (by simp[z])) e⟩) (λ_ _ e=>e) (λ_ _ _ e=>e) (λ_ _ e=>e) (λm hm=>?_) (λb u e=>?_) I.bare
 ·have e:b=it:=by simpa using hb
  subst e
  exact⟨h1,hL,h2,h3⟩
 ·obtain⟨o,es,ep,ho,r⟩:=hm
  exact⟨o,es,ep,k _ o (Ne.symm hL) ho,r⟩
 ·refine(I.hok b u e).stay (λc v hc q=>k c v ?_ q) (λ_ q=>q) λ_ _ q=>q
  rcases hc with z|z
  ·rw[z];exact nit b u e
  ·exact nit c _ z
def Inv.tok(I:Inv X pins σ H s)(t:Nat):Inv X pins σ H {s with toks:=t}:=I.un (h':=s.heap) (t':=t) Un.refl I.hok
theorem Inv.kept{t':Nat}(I:Inv X pins σ H s)(k:∀b u,s.heap.get? b=some u->h'.get? b=some u):Inv X pins σ H {s with heap:=h',toks:=t'}:=I.un (Un.kept k) (I.hok.kept k)
theorem Inv.laid{a:Addr}{o:HO}{t':Nat}(I:Inv X pins σ H s)(k:∀b u,s.heap.get? b=some u->h'.get? b=some u)(hp:s.heap.objs.size<=a)(new:Ź X.prog X.w (upd H a o) h' a o) :
 Inv X pins σ (upd H a o) {s with heap:=h',toks:=t'}:=I.un (Un.laid k hp (I.hok.fresh hp)) (I.hok.laid k hp new)
theorem Inv.write{x e:Addr}{o:HO}{t':Nat}(I:Inv X pins σ H s)(mu:Mut (H x))(he:e=x\/H e=some (.own x))(k:∀b u,b≠e->s.heap.get? b=some u->h'.get? b=some u)(heo:∃u,h'.get? e=some u)
 (new:Ź X.prog X.w (upd H x o) h' x o):Inv X pins σ (upd H x o) {s with heap:=h',toks:=t'}:=I.un (Un.write mu he k heo) (I.hok.write mu he k heo new)
def Inv.Gq{fG:List (Addr×Obj)}(I:Inv X pins σ H s)(h:∀p∈fG,s.heap.get? p.1=some p.2/\H p.1=none/\p.1≠X.env.locals/\p.1∉X.fs/\∀v,p.2.data≠ .cell v):Inv X fG σ H s:=
 ⟨I.ok,I.os,I.bare,I.base,I.loc,I.cell,I.free,I.dz,λp hp=>(List.mem_append.mp hp).elim (λz=>I.pin p (List.mem_append_left _ z)) (h p),I.hok,I.len⟩
def rM{N:List Str}(hN:N.Nodup){i j:Nat}{x:Str}(a:N[i]?=some x)(b:N[j]?=some x):i=j:=by
 obtain⟨h1,e1⟩:=List.getElem?_eq_some_iff.mp a
 obtain⟨h2,e2⟩:=List.getElem?_eq_some_iff.mp b
 exact(List.getElem_inj hN).mp (e1.trans e2.symm)
def uU{M:Model}{A:Around}{E:Value->Shared->Prop}{i:Nat}{x:Str}{v:V}{u:Value}{Q:Unit->Shared->Prop}(I:Inv X pins σ H s)(hN:X.N.Nodup)(hi:X.N[i]?=some x)(hx:Loc X.env.scope x)(r:RelV v u)
 (h:∀s',Inv X pins (σ.set i (some v)) H s'->(∃a,Heap.SameBut a s.heap s'.heap/\(a=X.env.locals\/X.env.cells.lookup x=some a))->Q () s')(hf:X.fn x=true\/X.env.scope.names.lookup x=some .local:=by first|exact .inl rfl|exact .inr rfl|assumption):wpAny M A (storeName X.env x u) Q E s:=by
 obtain⟨m,hn,hl⟩:=id I.loc
 have hcls:(X.env.scope.kind== .class || (X.env.scope.kind== .module && X.env.locals != X.env.globals))=false:=by rw[I.ok.kind];rfl
 have Zhw:i < σ.length:=by rw[I.len];exact(List.getElem?_eq_some_iff.mp hi).1
 have QF:=I.QF
 have tracked:∀{a:Addr} {h':Heap},(∃o,s.heap.get? a=some o/\H a=none)->Heap.SameBut a s.heap h'->gK X.prog X.w H h':=fun{a h'} ha hs b ob e=>by
  obtain⟨_,_,hfree⟩:=ha
  refine(I.hok b ob e).stay (λc w' hc q=>(hs.2 c ?_).trans q) (λ_ q=>q) λ_ _ q=>q
  rintro rfl
  rcases hc with rfl|hc
  ·rw[hfree] at e;cases e
  ·rw[hfree] at hc;cases hc
 rcases hx with hk|hk
 ·refine wpAny_storeName_local hk hn (λh' hn' hs=>?_) hcls
  obtain⟨oL,_,_,hoL,_⟩:=id hn
  refine h _ ⟨I.ok,I.os,I.bare,⟨λb o e n hb hx=>?_,λb o e n hb hx=>?_,I.base.free,λb o e hx=>?_,I.base.tups,I.base.iG,I.base.gF⟩,⟨_,hn',λj y v' e1 e2 e3=>?_⟩,λy c e=>?_,I.free,I.dz,λp hp=>?_,tracked ⟨oL,hoL,I.free⟩ hs,by simpa using I.len⟩ ⟨_,hs,.inl rfl⟩
  ·exact(hs.2 b (Nat.ne_of_lt (Nat.lt_of_lt_of_le (Heap.lt_size e) I.ok.above))).trans (I.base.keep b o e n hb hx)
  ·obtain⟨sl,e1⟩:=I.base.slot b o e n hb hx
   exact⟨sl,(hs.2 b (Nat.ne_of_lt (Nat.lt_of_lt_of_le (Heap.lt_size e) I.ok.above))).trans e1⟩
  ·obtain⟨o',e1⟩:=I.base.there b o e hx
   exact⟨o',(hs.2 b (Nat.ne_of_lt (Nat.lt_of_lt_of_le (Heap.lt_size e) I.ok.above))).trans e1⟩
  ·by_cases hj:j=i
   ·subst hj
    rw[hi] at e1;cases e1
    rw[List.getElem?_set_self Zhw] at e2
    cases e2
    exact⟨u,r,.inl ⟨hk,by simp⟩⟩
   ·rw[List.getElem?_set_ne (Ne.symm hj)] at e2
    obtain⟨u',r',q⟩:=hl j y v' e1 e2 e3
    refine⟨u',r',?_⟩
    rcases q with⟨k,e⟩|⟨k,c,e,z⟩
    ·refine .inl ⟨k,?_⟩
     have:y≠x:=λe=>hj (rM hN e1 (e▸hi))
     simp[this,e]
    ·exact .inr ⟨k,c,e,z.sameBut hs (QF y c e)⟩
  ·obtain⟨w',z⟩:=I.cell y c e
   exact⟨w',z.sameBut hs (QF y c e)⟩
  ·obtain⟨e,n,ne,nf,d⟩:=I.pin p hp
   exact⟨(hs.2 p.1 ne).trans e,n,ne,nf,d⟩
 ·have hfn:X.fn x=true:=by
   rcases hf with z|z
   ·exact z
   ·rw[z] at hk;cases hk
  obtain⟨c,hc⟩:=I.ok.has x (.inl hk)
  obtain⟨w',z⟩:=I.cell x c hc
  refine wpAny_storeName_cell I.ok.kind hk hc z (λh' hc' hs=>?_)
  obtain⟨oc,hoc,ZfT⟩:=id z
  refine h {s with heap:=h'} ⟨I.ok,I.os,I.bare,⟨λb o e n hb hx=>?_,λb o e n hb hx=>?_,I.base.free,λb o e hx=>?_,I.base.tups,I.base.iG,I.base.gF⟩,⟨m,hn.sameBut hs (Ne.symm (QF x c hc)),λj y v' e1 e2 e3=>?_⟩,λy c' e=>?_,I.free,I.dz,λp hp=>?_,tracked ⟨oc,hoc,I.dz x c hc⟩ hs,by simpa using I.len⟩ ⟨c,hs,.inr hc⟩
  ·exact(hs.2 b (Nat.ne_of_lt (Nat.lt_of_lt_of_le (Heap.lt_size e) (I.ok.cab x c hfn hc)))).trans (I.base.keep b o e n hb hx)
  ·obtain⟨sl,e1⟩:=I.base.slot b o e n hb hx
   exact⟨sl,(hs.2 b (Nat.ne_of_lt (Nat.lt_of_lt_of_le (Heap.lt_size e) (I.ok.cab x c hfn hc)))).trans e1⟩
  ·obtain⟨o',e1⟩:=I.base.there b o e hx
   exact⟨o',(hs.2 b (Nat.ne_of_lt (Nat.lt_of_lt_of_le (Heap.lt_size e) (I.ok.cab x c hfn hc)))).trans e1⟩
  ·by_cases hj:j=i
   ·subst hj
    rw[hi] at e1;cases e1
    rw[List.getElem?_set_self Zhw] at e2
    cases e2
    exact⟨u,r,.inr ⟨.inl hk,c,hc,hc'⟩⟩
   ·rw[List.getElem?_set_ne (Ne.symm hj)] at e2
    obtain⟨u',r',q⟩:=hl j y v' e1 e2 e3
    refine⟨u',r',?_⟩
    rcases q with q|⟨k,c',e,z'⟩
    ·exact .inl q
    ·refine .inr ⟨k,c',e,z'.sameBut hs ?_⟩
     rintro rfl
     exact hj (rM hN e1 (I.ok.inj _ _ _ e hc▸hi))
  ·by_cases hcc:c'=c
   ·subst hcc;exact⟨_,hc'⟩
   ·obtain⟨w2,z2⟩:=I.cell y c' e
    exact⟨w2,z2.sameBut hs hcc⟩
  ·obtain⟨e,n,ne,nf,d⟩:=I.pin p hp
   refine⟨(hs.2 p.1 ?_).trans e,n,ne,nf,d⟩
   intro q
   rw[q,hoc] at e
   have q':oc=p.2:=Option.some.inj e
   exact d w' (by rw[<-q'];exact ZfT)
def nM{M:Model}{A:Around}{E:Value->Shared->Prop}{i:Nat}{x:Str}{v:V}{u:Value}{Q:Unit->Shared->Prop}(I:Inv X pins σ H s)(hN:X.N.Nodup)(hi:X.N[i]?=some x)(hx:Loc X.env.scope x)(r:RelV v u)
 (h:∀s',Inv X pins (σ.set i (some v)) H s'->Q () s')(hf:X.fn x=true\/X.env.scope.names.lookup x=some .local:=by first|exact .inl rfl|exact .inr rfl|assumption):wpAny M A (storeName X.env x u) Q E s:=
 uU I hN hi hx r (λs' I' _=>h s' I') hf
def Inv.call'{s':Shared}{ch:List Addr}(I:Inv X pins σ H s)(ho:s'.os=s.os)(u:Un (frs X.stack) ch H H' s.heap s'.heap)(hok:gK X.prog X.w H' s'.heap)(hg:AllBare s'.gens)
 (hch:∀b∈ch,(b∈X.ex\/X.s₀.heap.objs.size<=b)/\b≠X.env.locals/\(∀x c,X.env.cells.lookup x=some c->c≠b)/\∀p∈X.pn++pins,p.1≠b):Inv X pins σ H' s':=by
 obtain⟨h',g',d',t',o'⟩:=s'
 have e:o'=s.os:=ho
 subst e
 exact I.call (g':=g') (t':=t') (d':=d') u hok hg hch
end
abbrev XK:=Value->Option Addr->Hp->Prop
abbrev St:=List (Option V)
abbrev VK:=V->Hp->Prop
abbrev TE:=St->Hp->VK->Prop
abbrev TT:=St->Hp->(Bool->Hp->Prop)->Prop
abbrev TA:=St->Hp->(List V->Hp->Prop)->Prop
structure Ends where
 nx:St->Hp->Prop
 rt:VK
 bk:St->Hp->Prop:=λ_ _=>False
 ct:St->Hp->Prop:=λ_ _=>False
abbrev TS:=Ends->St->Hp->Prop
def EP(X:Cx)(pins:List (Addr×Obj))(σ:St)(Q:VK)(u:Value)(s':Shared):Prop:=∃v H',Inv X pins σ H' s'/\RelV v u/\Q v H'
def TP(X:Cx)(pins:List (Addr×Obj))(σ:St)(Q:Bool->Hp->Prop)(b:Bool)(s':Shared):Prop:=∃H',Inv X pins σ H' s'/\Q b H'
def AP(X:Cx)(pins:List (Addr×Obj))(σ:St)(Q:List V->Hp->Prop)(us:List Value)(s':Shared):Prop:=∃vs H',Inv X pins σ H' s'/\Vals vs us/\Q vs H'
def SP(X:Cx)(pins:List (Addr×Obj))(D:Ends)(f:Flow)(s':Shared):Prop:=
 match f with
 | .next=>∃σ' H',Inv X pins σ' H' s'/\D.nx σ' H'
 | .brk=>∃σ' H',Inv X pins σ' H' s'/\D.bk σ' H'
 | .cont=>∃σ' H',Inv X pins σ' H' s'/\D.ct σ' H'
 | .ret u=>∃v σ' H',Inv X pins σ' H' s'/\RelV v u/\D.rt v H'
def PE(X:Cx)(e:Expr)(t:TE):Prop:=
 ∀(pins:List (Addr×Obj)) (s:Shared) (σ:St) (H:Hp) (Q:VK),Inv X pins σ H s->t σ H Q->wpAny (model X.prog X.w) X.A (eval e X.env) (EP X pins σ Q) X.xe s
def PT(X:Cx)(e:Expr)(t:TT):Prop:=
 ∀(pins:List (Addr×Obj)) (s:Shared) (σ:St) (H:Hp) (Q:Bool->Hp->Prop),Inv X pins σ H s->t σ H Q->wpAny (model X.prog X.w) X.A (isTrue e X.env (eval e X.env)) (TP X pins σ Q) X.xe s
def PW(X:Cx)(e:Expr)(t:TT):Prop:=
 ∀(whole:Sem Value) (pins:List (Addr×Obj)) (s:Shared) (σ:St) (H:Hp) (Q:Bool->Hp->Prop),Inv X pins σ H s->t σ H Q->wpAny (model X.prog X.w) X.A (isTrue e X.env whole) (TP X pins σ Q) X.xe s
def PW.pt{X:Cx}{e:Expr}{t:TT}(h:PW X e t):PT X e t:=h _
def PA(X:Cx)(es:List Expr)(t:TA):Prop:=
 ∀(pos:Pos) (pins:List (Addr×Obj)) (s:Shared) (σ:St) (H:Hp) (Q:List V->Hp->Prop),Inv X pins σ H s->t σ H Q->wpAny (model X.prog X.w) X.A (spliced (backTo pos (starEach es X.env))) (AP X pins σ Q) X.xe s
def PS(X:Cx)(st:Stmt)(t:TS):Prop:=
 ∀(pins:List (Addr×Obj)) (s:Shared) (σ:St) (H:Hp) (D:Ends),Inv X pins σ H s->t D σ H->wpAny (model X.prog X.w) X.A (exec st X.env) (SP X pins D) X.xe s
def lW(X:Cx)(st:List Stmt)(t:TS):Prop:=
 ∀(pins:List (Addr×Obj)) (s:Shared) (σ:St) (H:Hp) (D:Ends),Inv X pins σ H s->t D σ H->wpAny (model X.prog X.w) X.A (execs st X.env) (SP X pins D) X.xe s
def Ŭ{α:Type}{t:Sem α}{Q Q':α->Shared->Prop}{M:Model}{A:Around}{E:Value->Shared->Prop}{s:Shared}(h:wpAny M A t Q E s)(hQ:∀a s,Q a s->Q' a s):wpAny M A t Q' E s:=wpAny_mono h hQ λ_ _ x=>x
end L2
namespace L2
open PySem PySem.Spec PyProof.Rows
section
variable{X:Cx}
def wF(i:Nat):TE:=λσ H Q=>∃v,σ[i]?=some (some v)/\Q v H
def tC(v:V):TE:=λ_ H Q=>Q v H
def iI{i:Nat}{x:Str}{pos:Pos}(hN:X.N[i]?=some x)(hv:Ck X.env.scope x)(hd:(x== ("__debug__" :Str))=false:=by decide)(hcd:(x== ("__classdict__" :Str))=false:=by decide):PE X (.Name x pos) (wF i):=by
 intro pins s σ H Q I h
 obtain⟨v,e,h⟩:=h
 obtain⟨m,hn,hl⟩:=I.loc
 obtain⟨u,r,l⟩:=hl i x v hN e hv
 have fin:EP X pins σ Q u s:=⟨v,H,I,r,h⟩
 rcases l with⟨hk,hm⟩|⟨hk,c,hc,hcell⟩
 ·exact wpAny_Name (wpAny_loadName_local I.ok.kind hk hn hm fin) hd
 ·rcases hk with hk|hk
  ·exact wpAny_Name (wpAny_loadName_cell I.ok.kind hk hc hcell fin) hd
  ·exact wpAny_Name (wpAny_loadName_free I.ok.kind hk hc hcell fin hcd) hd
def ZaE{i j pos}:PE X (.Constant (.int i) j pos) (tC (.int i)):=λ_ _ _ H _ I h=>wpAny_Constant_int ⟨.int i,H,I.tok _,⟨_,rfl⟩,h⟩
def Zdh{b j pos}:PE X (.Constant (.bool b) j pos) (tC (.bl b)):=λ_ _ _ H _ I h=>Constant_bool ⟨.bl b,H,I,rfl,h⟩
def ZaF{j pos}:PE X (.Constant .none j pos) (tC .non):=λ_ _ _ H _ I h=>Constant_none ⟨.non,H,I,rfl,h⟩
def ZaG{x j pos}:PE X (.Constant (.str x) j pos) (tC (.str x)):=λ_ _ _ H _ I h=>Calls.Constant_str ⟨.str x,H,I.tok _,⟨_,rfl⟩,h⟩
def Gl(X:Cx)(x:Str):Prop:=X.env.kindOf x=some .globalImplicit
def lB{E:Value->Shared->Prop}{pins:List (Addr×Obj)}{s:Shared}{σ:St}{H:Hp}{x:Str}{u:Value}{pos:Pos}{Q:Value->Shared->Prop}(I:Inv X pins σ H s)(hg:Gl X x)(hm:X.mg x=some u)(h:Q u s)
 (hd:(x== ("__debug__" :Str))=false:=by decide):wpAny (model X.prog X.w) X.A (eval (.Name x pos) X.env) Q E s:=
 Calls.Name_function_global I.ok.kind hg (Calls.loadGlobal_global (by rw[I.ok.glob];exact I.mod.glob.keeps I.bk) hm h) hd
def mX{E:Value->Shared->Prop}{pins:List (Addr×Obj)}{s:Shared}{σ:St}{H:Hp}{x:Str}{u:Value}{pos:Pos}{Q:Value->Shared->Prop}(I:Inv X pins σ H s)(hg:Gl X x)(hm:X.mg x=none)(hv:bootBuiltins x=some u)(h:Q u s)
 (hn:x≠ "__name__" := by decide)(hd:(x== ("__debug__" :Str))=false:=by decide):wpAny (model X.prog X.w) X.A (eval (.Name x pos) X.env) Q E s:=by
 obtain⟨mb,h1,h2⟩:=I.mod.blt
 exact Calls.Name_function_global I.ok.kind hg (Calls.loadGlobal_builtin (by rw[I.ok.glob];exact I.mod.glob.keeps I.bk) hm (by rw[I.ok.blt];exact h1.keeps I.bk) ((h2 x hn).trans hv) h) hd
def bf{x:Str}{v:V}{u:Value}{pos:Pos}(hg:Gl X x)(hm:X.mg x=some u)(r:RelV v u)(hd:(x== ("__debug__" :Str))=false:=by decide):PE X (.Name x pos) (tC v):=
 λ_ _ _ H _ I h=>lB I hg hm ⟨v,H,I,r,h⟩ hd
def QG{x:Str}{v:V}{u:Value}{pos:Pos}(hg:Gl X x)(hm:X.mg x=none)(hv:bootBuiltins x=some u)(r:RelV v u)(hn:x≠ "__name__" := by decide)(hd:(x== ("__debug__" :Str))=false:=by decide):PE X (.Name x pos) (tC v):=
 λ_ _ _ H _ I h=>mX I hg hm hv ⟨v,H,I,r,h⟩ hn hd
variable{a b:Expr}{ta tb:TE}{pos:Pos}
variable{tA tB':TT}{rest:List Expr}
def ZfU(t u:TT):TT:=λσ H Q=>t σ H λc H1=>if c=true then u σ H1 Q else Q false H1
def tOr(t u:TT):TT:=λσ H Q=>t σ H λc H1=>if c=true then Q true H1 else u σ H1 Q
def ZfV(t:TT):TT:=λσ H Q=>t σ H λc H1=>Q (!c) H1
def QH(ha:PT X a tA):PW X (.BoolOp .And [a] pos) tA:=by
 intro wh pins s σ H Q I h
 refine isTrue_and (Ŭ (ha pins s σ H Q I h) λc s1 e=>?_)
 cases c with
 |true=>exact isTrue_and_nil e
 |false=>exact e
def ZaH(ha:PT X a tA):PW X (.BoolOp .Or [a] pos) tA:=by
 intro wh pins s σ H Q I h
 refine isTrue_or (Ŭ (ha pins s σ H Q I h) λc s1 e=>?_)
 cases c with
 |false=>exact isTrue_or_nil e
 |true=>exact e
def ZaI(ha:PT X a tA)(hb:PW X (.BoolOp .And (b::rest) pos) tB'):PW X (.BoolOp .And (a::b::rest) pos) (ZfU tA tB'):=by
 intro wh pins s σ H Q I h
 refine isTrue_and (Ŭ (ha pins s σ H _ I h) λc s1 ⟨H1,I1,q1⟩=>?_)
 cases c with
 |true=>exact hb wh pins s1 σ H1 Q I1 q1
 |false=>exact⟨H1,I1,q1⟩
def Zdi(ha:PT X a tA)(hb:PW X (.BoolOp .Or (b::rest) pos) tB'):PW X (.BoolOp .Or (a::b::rest) pos) (tOr tA tB'):=by
 intro wh pins s σ H Q I h
 refine isTrue_or (Ŭ (ha pins s σ H _ I h) λc s1 ⟨H1,I1,q1⟩=>?_)
 cases c with
 |true=>exact⟨H1,I1,q1⟩
 |false=>exact hb wh pins s1 σ H1 Q I1 q1
def ZaJ(ha:PT X a tA):PT X (.UnaryOp .Not a pos) (ZfV tA):=by
 intro pins s σ H Q I h
 exact isTrue_not (ha pins s σ H (λc H1=>Q (!c) H1) I h)
def ZaK{op}{t:TE}(h:PE X a t):PE X (.BoolOp op [a] pos) t:=λpins s σ H Q I hw=>BoolOp_one (h pins s σ H Q I hw)
end
end L2
namespace L2
open PySem PySem.Spec PyProof.Rows
def aQ(K:PySem.W.Frag)(H:Hp)(a:Addr)(xs:List V):Prop:=
 Rd H a (.lst xs)\/
  ∃(o:Obj) (its:Array Value) (n:Nat),K.lookup a=some o/\o.cls=.type "list" /\o.dict=none/\o.data=.seq its n/\its.size<=sizeLine/\Vals xs its.toList
def gG(K:PySem.W.Frag)(H:Hp)(a:Addr)(xs:List V):Prop:=
 Rd H a (.tup xs)\/
  ∃(o:Obj) (its:Array Value) (n:Nat),K.lookup a=some o/\o.cls=.type "tuple" /\o.data=.seq its n/\its.size<=sizeLine/\Vals xs its.toList
def ZfW:Value->Option V
 | .none=>some .non
 | .bool b=>some (.bl b)
 | .int i _=>some (.int i)
 | .str x _=>some (.str x)
 | .bytes b _=>some (.TX b)
 | .float b _=>some (.flt b)
 | .ref a=>some (.ref a)
 | .type n=>some (.ty n)
 |_=>none
def RelV.abs{x:V}{u:Value}(r:RelV x u):ZfW u=some x:=by
 cases x with
 |non=>cases r;rfl
 |bl _=>cases r;rfl
 |int _=>obtain⟨t,rfl⟩:=r;rfl
 |str _=>obtain⟨t,rfl⟩:=r;rfl
 |TX _=>obtain⟨t,rfl⟩:=r;rfl
 |flt _=>obtain⟨t,rfl⟩:=r;rfl
 |ref _=>cases r;rfl
 |ty _=>cases r;rfl
theorem RelV.inj{x y:V}{u:Value}(r:RelV x u)(q:RelV y u):x=y:=Option.some.inj (r.abs.symm.trans q.abs)
theorem Vals.inj:∀{xs ys:List V} {us:List Value},Vals xs us->Vals ys us->xs=ys
 |_,_,_,.nil,.nil=>rfl
 |_,_,_,.cons r t,.cons r' t'=>by rw[r.inj r',Vals.inj t t']
section
variable{X:Cx}{pins:List (Addr×Obj)}{σ:St}{H:Hp}{s:Shared}{a:Addr}{xs ys:List V}
def aQ.of{K:PySem.W.Frag}(h:H a=some (.lst xs)):aQ K H a xs:=.inl (.inl h)
def gG.of{K:PySem.W.Frag}(h:H a=some (.tup xs)):gG K H a xs:=.inl (.inl h)
def Inv.list(I:Inv X pins σ H s)(h:aQ X.K H a xs):∃its:List Value,Vals xs its/\PlainL s.heap a its.toArray/\xs.length<=sizeLine:=by
 rcases h with h|⟨o,its,n,hk,hc,hd,hs,hz,r⟩
 ·obtain⟨z,its,n,r,e⟩:=h.ok I.hok
  exact⟨its,r,⟨_,n,e,rfl,rfl,rfl⟩,z⟩
 ·refine⟨its.toList,r,⟨o,n,I.iH a o hk,hc,hd,by simpa using hs⟩,?_⟩
  have e:=r.length
  simp only[Array.length_toList] at e
  omega
def Inv.tuple(I:Inv X pins σ H s)(h:gG X.K H a xs):∃its:List Value,Vals xs its/\IsTup s.heap a its.toArray/\xs.length<=sizeLine:=by
 rcases h with h|⟨o,its,n,hk,hc,hs,hz,r⟩
 ·obtain⟨z,its,r,p⟩:=h.ok I.hok
  exact⟨its,r,p,z⟩
 ·refine⟨its.toList,r,⟨o,I.iH a o hk,hc,n,by simpa using hs⟩,?_⟩
  have e:=r.length
  simp only[Array.length_toList] at e
  omega
def Inv.rN(I:Inv X pins σ H s)(h:aQ X.K H a xs)(h':aQ X.K H a ys):xs=ys:=by
 obtain⟨its,r,⟨o,n,e,_,_,d⟩,_⟩:=I.list h
 obtain⟨its',r',⟨o',n',e',_,_,d'⟩,_⟩:=I.list h'
 rw[e] at e';cases e'
 rw[d] at d'
 injection d' with d1 _
 have:its=its':=by simpa using congrArg Array.toList d1
 subst this
 exact r.inj r'
def Inv.uV(I:Inv X pins σ H s)(h:gG X.K H a xs)(h':gG X.K H a ys):xs=ys:=by
 obtain⟨its,r,⟨o,e,_,n,d⟩,_⟩:=I.tuple h
 obtain⟨its',r',⟨o',e',_,n',d'⟩,_⟩:=I.tuple h'
 rw[e] at e';cases e'
 rw[d] at d'
 injection d' with d1 _
 have:its=its':=by simpa using congrArg Array.toList d1
 subst this
 exact r.inj r'
end
abbrev Cx.wish(X:Cx)(E:Value->Shared->Prop):Cx:={X with xe:=E}
abbrev Cx.bD(X:Cx):Cx:=X.wish λ_ _=>False
theorem Cx.Ok.wish{X:Cx}(ok:X.Ok)(E:Value->Shared->Prop):(X.wish E).Ok:=
 ⟨ok.mod,ok.kind,ok.glob,ok.blt,ok.above,ok.inj,ok.has,ok.cab,ok.hd,ok.frames,ok.stk,ok.exf,ok.bs,ok.Gp,ok.uK,ok.zU,ok.lV,ok.Ka,ok.tb⟩
def Cx.Ok.iJ{X:Cx}{E:Value->Shared->Prop}(ok:(X.wish E).Ok):X.Ok:=
 ⟨ok.mod,ok.kind,ok.glob,ok.blt,ok.above,ok.inj,ok.has,ok.cab,ok.hd,ok.frames,ok.stk,ok.exf,ok.bs,ok.Gp,ok.uK,ok.zU,ok.lV,ok.Ka,ok.tb⟩
section
variable{X:Cx}{pins:List (Addr×Obj)}{σ:St}{H:Hp}{s:Shared}{E:Value->Shared->Prop}
theorem Inv.wish(I:Inv X pins σ H s)(E:Value->Shared->Prop):Inv (X.wish E) pins σ H s:=⟨I.ok.wish E,I.os,I.bare,I.base,I.loc,I.cell,I.free,I.dz,I.pin,I.hok,I.len⟩
theorem Inv.iJ(I:Inv (X.wish E) pins σ H s):Inv X pins σ H s:=⟨I.ok.iJ,I.os,I.bare,I.base,I.loc,I.cell,I.free,I.dz,I.pin,I.hok,I.len⟩
theorem SP.iJ{D:Ends}{f:Flow}{s':Shared}(h:SP (X.wish E) pins D f s'):SP X pins D f s':=by
 cases f with
 |next=>obtain⟨σ',H',I,q⟩:=h;exact⟨σ',H',I.iJ,q⟩
 |brk=>obtain⟨σ',H',I,q⟩:=h;exact⟨σ',H',I.iJ,q⟩
 |cont=>obtain⟨σ',H',I,q⟩:=h;exact⟨σ',H',I.iJ,q⟩
 |ret u=>obtain⟨v,σ',H',I,r,q⟩:=h;exact⟨v,σ',H',I.iJ,r,q⟩
theorem PE.bD{e:Expr}{t:TE}(h:PE X.bD e t):PE X e t:=λpins s σ H Q I hw=>
 wpAny_mono (h pins s σ H Q (I.wish _) hw) (λ_ _ ⟨v,H',I',r,q⟩=>⟨v,H',I'.iJ,r,q⟩) λ_ _ z=>False.elim z
end
section
variable{X:Cx}{st:Stmt}{rest:List Stmt}{t u:TS}{e:Expr}{te:TE}{pos:Pos}
def TY:TS:=λD σ H=>D.nx σ H
def Zdj(t u:TS):TS:=λD σ H=>t {D with nx:=u D} σ H
def Gs:lW X [] TY:=λ_ _ σ H _ I h=>wpAny_execs_nil ⟨σ,H,I,h⟩
def zV(h1:PS X st t)(h2:lW X rest u):lW X (st::rest) (Zdj t u):=by
 intro pins s σ H D I h
 refine wpAny_execs_cons (Ŭ (h1 pins s σ H {D with nx:=u D} I h) λf s1 q=>?_)
 cases f with
 |next=>
  obtain⟨σ',H',I',q⟩:=q
  exact h2 pins s1 σ' H' D I' q
 |ret v=>exact q
 |brk=>exact q
 |cont=>exact q
def QJ(h1:PS X st t):lW X [st] t:=by
 intro pins s σ H D I h
 refine wpAny_execs_cons (Ŭ (h1 pins s σ H D I h) λf s1 q=>?_)
 cases f with
 |next=>exact wpAny_execs_nil q
 |ret v=>exact q
 |brk=>exact q
 |cont=>exact q
def Inv.quiet{pins:List (Addr×Obj)}{σ:St}{H:Hp}{s:Shared}(I:Inv X pins σ H s):interactive X.env=false:=by simp[interactive,I.ok.kind]
def Kc(te:TE):TS:=λD σ H=>te σ H λ_ H1=>D.nx σ H1
def fX(he:PE X e te)(hs:swapsWith e none pos.line X.env=pure false:=by rfl):PS X (.Expr e pos) (Kc te):=by
 intro pins s σ H D I h
 exact wpAny_Expr_any (Ŭ (he pins s σ H _ I h) λv s1 ⟨x,H1,I1,r1,q1⟩=>⟨σ,H1,I1,q1⟩) I.quiet hs
def ZfX(te:TE):TS:=λD σ H=>te σ H D.rt
def ZaL(he:PE X e te):PS X (.Return (some e) pos) (ZfX te):=by
 intro pins s σ H D I h
 exact wpAny_Return_some (Ŭ (he pins s σ H _ I h) λv s1 ⟨x,H1,I1,r1,q1⟩=>⟨x,σ,H1,I1,r1,q1⟩)
def ZfY(c:TT)(t u:TS):TS:=λD σ H=>c σ H λb H1=>if b=true then t D σ H1 else u D σ H1
def Zdk{c:Expr}{a b:List Stmt}{tc:TT}(hc:PT X c tc)(ha:lW X a t)(hb:lW X b u):PS X (.If c a b pos) (ZfY tc t u):=by
 intro pins s σ H D I h
 refine wpAny_If (Ŭ (hc pins s σ H _ I h) λd s1 ⟨H1,I1,q1⟩=>?_)
 cases d with
 |true=>exact ha pins s1 σ H1 D I1 q1
 |false=>exact hb pins s1 σ H1 D I1 q1
end
abbrev TG:=V->St->Hp->(St->Hp->Prop)->Prop
abbrev Kd:=List V->St->Hp->(St->Hp->Prop)->Prop
def PG(X:Cx)(target:Expr)(t:TG):Prop:=
 ∀(pins:List (Addr×Obj)) (s:Shared) (σ:St) (H:Hp) (v:V) (u:Value) (Q:St->Hp->Prop),Inv X pins σ H s->RelV v u->t v σ H Q->
  wpAny (model X.prog X.w) X.A (assign target X.env u) (λ_ s'=>∃σ' H',Inv X pins σ' H' s'/\Q σ' H') X.xe s
def Cm(X:Cx)(ts:List Expr)(t:Kd):Prop:=
 ∀(pins:List (Addr×Obj)) (s:Shared) (σ:St) (H:Hp) (vs:List V) (us:List Value) (Q:St->Hp->Prop),Inv X pins σ H s->Vals vs us->t vs σ H Q->
  wpAny (model X.prog X.w) X.A (assignInOrder ((assignEach ts X.env).map (·.2)) us) (λ_ s'=>∃σ' H',Inv X pins σ' H' s'/\Q σ' H') X.xe s
abbrev ZaM:=V->V->V->Hp->(Hp->Prop)->Prop
def Zdl(X:Cx)(t:ZaM):Prop:=
 ∀(pins:List (Addr×Obj)) (s:Shared) (σ:St) (H:Hp) (o i v:V) (ov iv u:Value) (Q:Hp->Prop),Inv X pins σ H s->RelV o ov->RelV i iv->RelV v u->t o i v H Q->
  wpAny (model X.prog X.w) X.A (setItem ov iv u) (λ_ s'=>∃H',Inv X pins σ H' s'/\Q H') X.xe s
abbrev TIp:=V->V->Hp->VK->Prop
def PIp(X:Cx)(op:Operator)(t:TIp):Prop:=
 ∀(pins:List (Addr×Obj)) (s:Shared) (σ:St) (H:Hp) (x y:V) (v u:Value) (Q:VK),Inv X pins σ H s->RelV x v->RelV y u->t x y H Q->
  wpAny (model X.prog X.w) X.A (inplaceOp op v u) (EP X pins σ Q) X.xe s
section
variable{X:Cx}{pos:Pos}
def T_(i:Nat):TG:=λv σ H Q=>Q (σ.set i (some v)) H
def QK{i:Nat}{x:Str}(hN:X.N.Nodup)(hi:X.N[i]?=some x)(hx:Loc X.env.scope x)(hf:X.fn x=true\/X.env.scope.names.lookup x=some .local:=by first|exact .inl rfl|exact .inr rfl|assumption):PG X (.Name x pos) (T_ i):=by
 intro pins s σ H v u Q I r h
 exact wpAny_assign_Name (nM I hN hi hx r (λs' I'=>⟨_,H,I',h⟩) hf)
def ZfZ:Kd:=λvs σ H Q=>vs=[]/\Q σ H
def Zdm(t:TG)(u:Kd):Kd:=λvs σ H Q=>∃v r,vs=v::r/\t v σ H λσ' H'=>u r σ' H' Q
def QL:Cm X [] ZfZ:=by
 intro pins s σ H vs us Q I r h
 obtain⟨e,h⟩:=h
 subst e
 cases r
 exact assignInOrder_nil ⟨σ,H,I,h⟩
def Ke{e:Expr}{es:List Expr}{t:TG}{u:Kd}(h1:PG X e t)(h2:Cm X es u)
 (hs:(assignEach (e::es) X.env).map (·.2)=assign e X.env::(assignEach es X.env).map (·.2):=by rfl):Cm X (e::es) (Zdm t u):=by
 intro pins s σ H vs us Q I r h
 obtain⟨v,vr,e1,h⟩:=h
 subst e1
 cases r with
 |cons r rr=>
  rw[hs]
  refine assignInOrder_cons (Ŭ (h1 pins s σ H _ _ _ I r h) λ_ s1 ⟨σ1,H1,I1,q1⟩=>?_)
  exact h2 pins s1 σ1 H1 _ _ Q I1 rr q1
def Zf0(K:PySem.W.Frag)(n:Nat)(t:Kd):TG:=λv σ H Q=>∃a xs,v=.ref a/\gG K H a xs/\xs.length=n/\t xs σ H Q
def Kf{es:List Expr}{k:Nat}{t:Kd}{n:Nat}(hc:X.calm=true)(h:Cm X es t)
 (hn:(assignEach es X.env).length=n:=by rfl)(hst:(assignEach es X.env).findIdx? (·.1)=none:=by rfl):PG X (.Tuple es k pos) (Zf0 X.K n t):=by
 intro pins s σ H v u Q I r hw
 obtain⟨a,xs,e1,hq,hl,hw⟩:=hw
 subst e1
 cases r
 obtain⟨its,rv,ht,hz⟩:=I.tuple hq
 refine assign_Tuple_tuple (I.ok.hd hc) ht (by simp[hn,<-hl,rv.length]) hst λh' hx=>?_
 have I1:Inv X pins σ H {s with heap:=h'}:=I.kept (t':=s.toks) λb o e=>hx b o (Nat.ne_of_lt (Heap.lt_size e)) e
 exact h pins _ σ H xs _ Q I1 (by simpa using rv) hw
def Zf1(to ti:TE)(t:ZaM):TG:=λv σ H Q=>to σ H λo H1=>ti σ H1 λi H2=>t o i v H2 λH3=>Q σ H3
def ZaN{o i:Expr}{to ti:TE}{t:ZaM}(ho:PE X o to)(hi:PE X i ti)(hs:Zdl X t)
 (ha:∀v,assign (.Subscript o i pos) X.env v=(do
   let ov <-holding [v] (eval o X.env)
   let iv <-holding [v,ov] (eval i X.env)
   standAt pos
   holding [v,ov,iv] (setItem ov iv v)
   release [v,ov,iv] []):=by intro _;rfl):PG X (.Subscript o i pos) (Zf1 to ti t):=by
 intro pins s σ H v u Q I r h
 rw[ha]
 refine wpAny_bind (wpAny_holding (Ŭ (ho pins s σ H _ I h) λov s1 ⟨x,H1,I1,r1,q1⟩=>?_))
 refine wpAny_bind (wpAny_holding (Ŭ (hi pins s1 σ H1 _ I1 q1) λiv s2 ⟨y,H2,I2,r2,q2⟩=>?_))
 refine wpAny_bind (wpAny_standAt (wpAny_bind (wpAny_holding (Ŭ (hs pins s2 σ H2 x y v ov iv u _ I2 r1 r2 r q2) λ_ s3 ⟨H3,I3,q3⟩=>?_))))
 exact wpAny_release ⟨σ,H3,I3,q3⟩
def Zdn(te:TE)(g:TG):TS:=λD σ H=>te σ H λx H1=>g x σ H1 D.nx
def Kg{tg e:Expr}{te:TE}{g:TG}(he:PE X e te)(hg:PG X tg g)(hs:swapsWithSole [tg] e pos.line X.env=pure false:=by rfl)(hw:swappedStores [tg] e X.env=pure none:=by rfl)
 (h1:(assignEach [tg] X.env).map (·.2)=[assign tg X.env]:=by rfl):PS X (.Assign [tg] e pos) (Zdn te g):=by
 intro pins s σ H D I h
 refine wpAny_Assign_stores (Ŭ (he pins s σ H _ I h) λv s1 ⟨x,H1,I1,r1,q1⟩=>?_) hs hw
 rw[h1]
 exact Ŭ (hg pins s1 σ H1 x v _ I1 r1 q1) λ_ s2 q=>q
def ZaO{i:Nat}{x:Str}{e:Expr}{te:TE}{pos':Pos}(hN:X.N.Nodup)(hi:X.N[i]?=some x)(hx:Loc X.env.scope x)(he:PE X e te)(hs:swapsWith e (some (.Name x pos')) pos.line X.env=pure false:=by rfl)(hf:X.fn x=true\/X.env.scope.names.lookup x=some .local:=by first|exact .inl rfl|exact .inr rfl|assumption) :
 PS X (.Assign [.Name x pos'] e pos) (Zdn te (T_ i)):=by
 intro pins s σ H D I h
 refine wpAny_Assign_Name (Ŭ (he pins s σ H _ I h) λv s1 ⟨y,H1,I1,r1,q1⟩=>?_) hs
 exact nM I1 hN hi hx r1 (λs2 I2=>⟨_,H1,I2,q1⟩) hf
def Zf2(i:Nat)(te:TE)(ti:TIp):TS:=λD σ H=>∃x,σ[i]?=some (some x)/\te σ H λy H1=>ti x y H1 λz H2=>D.nx (σ.set i (some z)) H2
def ZaP{i:Nat}{x:Str}{e:Expr}{te:TE}{op:Operator}{ti:TIp}{pos':Pos}(hN:X.N.Nodup)(hi:X.N[i]?=some x)(hx:Loc X.env.scope x)(he:PE X e te)(ho:PIp X op ti)(hf:X.fn x=true\/X.env.scope.names.lookup x=some .local:=by first|exact .inl rfl|exact .inr rfl|assumption) :
 PS X (.AugAssign (.Name x pos') op e pos) (Zf2 i te ti):=by
 intro pins s σ H D I h
 obtain⟨v,e1,h⟩:=h
 obtain⟨m,hn,hl⟩:=I.loc
 have vis:Ck X.env.scope x:=by rcases hx with k|k;exact .inl k;exact .inr (.inl k)
 obtain⟨u,r,l⟩:=hl i x v hi e1 vis
 refine wpAny_AugAssign_Name ?_
 have go:wpAny (model X.prog X.w) X.A (eval e X.env) (λw s₂=>wpAny (model X.prog X.w) X.A (inplaceOp op u w) (λr s₃=>wpAny (model X.prog X.w) X.A (storeName X.env x r) (λ_=>SP X pins D .next) X.xe s₃) X.xe s₂) X.xe s:=by
  refine Ŭ (he pins s σ H _ I h) λw s1 ⟨y,H1,I1,r1,q1⟩=>?_
  refine Ŭ (ho pins s1 σ H1 v y u w _ I1 r r1 q1) λz s2 ⟨zv,H2,I2,r2,q2⟩=>?_
  exact nM I2 hN hi hx r2 (λs3 I3=>⟨_,H2,I3,q2⟩) hf
 rcases l with⟨hk,hm⟩|⟨hk,c,hc,hcell⟩
 ·exact wpAny_loadName_local I.ok.kind hk hn hm go
 ·rcases hk with hk|hk
  ·exact wpAny_loadName_cell I.ok.kind hk hc hcell go
  ·rcases hx with k|k
   ·have:X.env.scope.names.lookup x=some .free:=hk
    rw[k] at this;cases this
   ·have:X.env.scope.names.lookup x=some .free:=hk
    rw[k] at this;cases this
def ipI(f:Int->Int->Int):TIp:=λx y H Q=>∃i j,x=.int i/\y=.int j/\Q (.int (f i j)) H
end
section
variable{X:Cx}{pos:Pos}
def ZaQ(c:TT)(tb:TS):TS:=λD σ H=>∃W:Nat->St->Hp->Prop,(∃m,W m σ H)/\∀m σ H,W m σ H->
 c σ H λb H1=>if b=true then ∃N:St->Hp->Prop,(∀σ' H',N σ' H'->∃m',m'<m/\W m' σ' H')/\tb {D with nx:=N,ct:=N,bk:=D.nx} σ H1 else D.nx σ H1
def Kh{c:Expr}{body:List Stmt}{tc:TT}{tb:TS}(hp:PassesOwn (model X.prog X.w) X.A X.env X.xe)(hc:PT X c tc)(hb:lW X body tb):PS X (.While c body [] pos) (ZaQ tc tb):=by
 intro pins s σ H D I h
 obtain⟨W,⟨m0,w0⟩,turn⟩:=h
 refine wpAny_While (codeAny_whileLoop (λn s'=>∃σ' H',Inv X pins σ' H' s'/\W n σ' H') ?_ m0 ⟨σ,H,I,w0⟩)
 rintro n s1 ⟨σ1,H1,I1,w1⟩
 refine wpAny_passesOwn hp (Ŭ (hc pins s1 σ1 H1 _ I1 (turn n σ1 H1 w1)) λb s2 ⟨H2,I2,q2⟩=>?_)
 cases b with
 |true=>
  obtain⟨N,hN,q2⟩:=q2
  rw[if_pos rfl]
  refine wpAny_passesOwn hp (Ŭ (hb pins s2 σ1 H2 _ I2 q2) λf s3 q3=>?_)
  cases f with
  |next=>
   obtain⟨σ3,H3,I3,n3⟩:=q3
   obtain⟨m',hm,w3⟩:=hN σ3 H3 n3
   exact⟨m',hm,σ3,H3,I3,w3⟩
  |cont=>
   obtain⟨σ3,H3,I3,n3⟩:=q3
   obtain⟨m',hm,w3⟩:=hN σ3 H3 n3
   exact⟨m',hm,σ3,H3,I3,w3⟩
  |brk=>exact q3
  |ret v=>exact q3
 |false=>
  rw[if_neg Bool.false_ne_true]
  exact wpAny_execs_nil ⟨σ1,H2,I2,q2⟩
end
structure It where
 go:Nat->Hp->Prop
 yld:Nat->Hp->V->Hp->Prop
 stop:Nat->Hp->Prop
def dB(X:Cx)(pins:List (Addr×Obj))(H:Hp)(b:Addr):Prop:=
 H b=none/\b≠X.env.locals/\b∉X.fs/\(b∈X.ex\/X.s₀.heap.objs.size<=b)/\(∀x c,X.env.cells.lookup x=some c->c≠b)/\∀p∈X.pn++pins,p.1≠b
def Inv.uL{X:Cx}{pins:List (Addr×Obj)}{σ:St}{H H':Hp}{s:Shared}{b:Addr}(I:Inv X pins σ H s)(hb:s.heap.objs.size<=b)(hn:H' b=none):dB X pins H' b:=by
 refine⟨hn,Nat.ne_of_gt (Nat.lt_of_lt_of_le I.lt hb),I.ZfS hb,.inr (Nat.le_trans I.sz hb),λx c e z=>?_,λp hp z=>?_⟩
 ·obtain⟨v,q⟩:=I.cell x c e
  exact absurd (Nat.lt_of_lt_of_le q.lt (by rw[z];exact hb)) (Nat.lt_irrefl _)
 ·exact absurd (Nat.lt_of_lt_of_le (Heap.lt_size (I.pin p hp).1) (by rw[z];exact hb)) (Nat.lt_irrefl _)
structure Turn(P:Program)(w:World)(K:PySem.W.Frag)(tg:Expr)(J:It)(fp:List Addr)(it:Addr)(tn:Nat->Heap->Prop):Prop where
 mem:it∈fp
 obj:∀i h,tn i h->∀b∈fp,∃o,h.get? b=some o/\∀v,o.data≠ .cell v
 keep:∀i h h',tn i h->(∀b∈fp,∀o,h.get? b=some o->h'.get? b=some o)->tn i h'
 item:∀(X:Cx),X.prog=P->X.w=w->X.K=K->X.calm=true->∀(i:Nat) (pins:List (Addr×Obj)) (s:Shared) (σ:St) (H:Hp) (E:Value->Shared->Prop),Inv X pins σ H s->(∀b∈fp,dB X pins H b)->tn i s.heap->J.go i H->
  wpAny (model P w) X.A (pyNext (.ref it)) (λr s1=>∃u,r=some u/\
   wpAny (model P w) X.A (letOwnedTupleGo tg (.ref it) u) (λ_ s2=>∃x H',Inv X pins σ H' s2/\RelV x u/\J.yld i H x H'/\tn (i+1) s2.heap/\∀b∈fp,H' b=none) E s1) E s
 done:∀(X:Cx),X.prog=P->X.w=w->X.K=K->X.calm=true->∀(i:Nat) (pins:List (Addr×Obj)) (s:Shared) (σ:St) (H:Hp) (E:Value->Shared->Prop),Inv X pins σ H s->(∀b∈fp,dB X pins H b)->tn i s.heap->J.stop i H->
  wpAny (model P w) X.A (pyNext (.ref it)) (λr s1=>r=none/\Inv X pins σ H s1) E s
 self:∀(A:Around) (i:Nat) (s:Shared) (Q:Value->Shared->Prop) (E:Value->Shared->Prop),tn i s.heap->Q (.ref it) s->wpAny (model P w) A (pyIter (.ref it)) Q E s
abbrev TI:=St->Hp->(It->Hp->Prop)->Prop
def PIE(X:Cx)(pins:List (Addr×Obj))(σ:St)(tg:Expr)(R:It->Hp->Prop)(itv:Value)(s2:Shared):Prop:=
 ∃(it:Addr) (fp:List Addr) (tn:Nat->Heap->Prop) (J:It) (H':Hp),itv=.ref it/\Inv X pins σ H' s2/\Turn X.prog X.w X.K tg J fp it tn/\tn 0 s2.heap/\(∀b∈fp,dB X pins H' b)/\R J H'
def PI(X:Cx)(tg iter:Expr)(wi:TI):Prop:=
 ∀(pins:List (Addr×Obj)) (s:Shared) (σ:St) (H:Hp) (R:It->Hp->Prop),Inv X pins σ H s->wi σ H R->
  wpAny (model X.prog X.w) X.A (eval iter X.env) (λv s1=>wpAny (model X.prog X.w) X.A (pyIter v) (PIE X pins σ tg R) X.xe s1) X.xe s
def Gu{M:Model}{A:Around}{E:Value->Shared->Prop}{s:Shared}{tg:Expr}{it:Addr}{u:Value}{o:Obj}{n:String}{vs:Array Value}{Q:Unit->Shared->Prop}(ho:s.heap.get? it=some o)(hc:o.cls=.type n)(hd:o.data=.fields vs)
 (hn:["enumerate","zip","dict_itemiterator","dict_reverseitemiterator","odict_iterator","itertools.zip_longest","itertools.pairwise"].contains n=false)(hQ:Q () s):wpAny M A (letOwnedTupleGo tg (.ref it) u) Q E s:=by
 unfold letOwnedTupleGo
 cases tg<;>first
  |exact wpAny_pure hQ
  |(cases u<;>first
     |exact wpAny_pure hQ
     |(refine wpAny_bind (wpAny_load ho ?_)
       rw[hc,hd]
       show wpAny M A (if(["enumerate","zip","dict_itemiterator","dict_reverseitemiterator","odict_iterator","itertools.zip_longest","itertools.pairwise"].contains n && vs[0]?== some (rawInt _))=true then _ else _) Q E s
       rw[if_neg (by intro h;rw[hn,Bool.false_and] at h;cases h)]
       exact wpAny_pure hQ))
def Itl(K:PySem.W.Frag)(a:Addr):It:=
 ⟨λi H=>∃xs x,aQ K H a xs/\xs[i]?=some x,λi H x H'=>H'=H/\∀xs,aQ K H a xs->xs[i]?=some x,λi H=>∃xs,aQ K H a xs/\xs.length<=i⟩
def Itt(K:PySem.W.Frag)(a:Addr):It:=
 ⟨λi H=>∃xs x,gG K H a xs/\xs[i]?=some x,λi H x H'=>H'=H/\∀xs,gG K H a xs->xs[i]?=some x,λi H=>∃xs,gG K H a xs/\xs.length<=i⟩
def Itr(lo:Int)(n:Nat):It:=⟨λi _=>i<n,λi H x H'=>H'=H/\x=.int (lo+i),λi _=>n<=i⟩
def Jd{P:Program}{w:World}{K:PySem.W.Frag}{tg:Expr}(a it:Addr):Turn P w K tg (Itl K a) [it] it (λi h=>h.IsListIter it a i) where
 mem:=by simp
 obj:=λi h st b hb=>by
  have e:b=it:=by simpa using hb
  subst e
  obtain⟨o,e,c,d⟩:=st
  exact⟨o,e,λv z=>by rw[d] at z;cases z⟩
 keep:=λi h h' st k=>st.at λo e=>k it (by simp) o e
 item:=by
  intro X hP hw hK hc i pins s σ H E I hf st hg
  subst hP hw hK
  obtain⟨xs,x,hq,hx⟩:=hg
  obtain⟨its,rv,p,hz⟩:=I.list hq
  obtain⟨u,hu,ru⟩:=rv.get hx
  obtain⟨f0,f1,f2,f3,f4,f5⟩:=hf it (by simp)
  refine wpAny_pyNext_list_item st p.isList (x:=u) (by simpa using hu) λh' st' sb=>?_
  have I1:Inv X pins σ H {s with heap:=h'}:=I.turned (t':=s.toks) (λb o hb e=>(sb.2 b hb).trans e) f0 f1 f3 f4 f5
  obtain⟨o,e,c,d⟩:=id st'
  exact⟨u,rfl,Gu (s:={s with heap:=h'}) e c d (by decide) ⟨x,H,I1,ru,⟨rfl,λys hy=>by rw[I.rN hy hq];exact hx⟩,st',λb hb=>(hf b hb).1⟩⟩
 done:=by
  intro X hP hw hK hc i pins s σ H E I hf st hg
  subst hP hw hK
  obtain⟨xs,hq,hx⟩:=hg
  obtain⟨its,rv,p,hz⟩:=I.list hq
  obtain⟨f0,f1,f2,f3,f4,f5⟩:=hf it (by simp)
  have hl:=rv.length
  exact wpAny_pyNext_list_end (I.ok.hd hc) st p.isList (by simp;omega) λh' eb=>⟨rfl,I.turned (t':=s.toks) (λb o hb e=>eb b o hb e) f0 f1 f3 f4 f5⟩
 self:=λ_ _ _ _ _ st h=>wpAny_pyIter_listiter st h
def Cp{P:Program}{w:World}{K:PySem.W.Frag}{tg:Expr}(a it:Addr):Turn P w K tg (Itt K a) [it] it (λi h=>h.IsTupleIter it a i) where
 mem:=by simp
 obj:=λi h st b hb=>by
  have e:b=it:=by simpa using hb
  subst e
  obtain⟨o,e,c,d⟩:=st
  exact⟨o,e,λv z=>by rw[d] at z;cases z⟩
 keep:=λi h h' st k=>st.at λo e=>k it (by simp) o e
 item:=by
  intro X hP hw hK hc i pins s σ H E I hf st hg
  subst hP hw hK
  obtain⟨xs,x,hq,hx⟩:=hg
  obtain⟨its,rv,p,hz⟩:=I.tuple hq
  obtain⟨u,hu,ru⟩:=rv.get hx
  obtain⟨f0,f1,f2,f3,f4,f5⟩:=hf it (by simp)
  refine wpAny_pyNext_tuple_item st (show s.heap.IsTuple a its.toArray from p) (x:=u) (by simpa using hu) λh' st' sb=>?_
  have I1:Inv X pins σ H {s with heap:=h'}:=I.turned (t':=s.toks) (λb o hb e=>(sb.2 b hb).trans e) f0 f1 f3 f4 f5
  obtain⟨o,e,c,d⟩:=id st'
  exact⟨u,rfl,Gu (s:={s with heap:=h'}) e c d (by decide) ⟨x,H,I1,ru,⟨rfl,λys hy=>by rw[I.uV hy hq];exact hx⟩,st',λb hb=>(hf b hb).1⟩⟩
 done:=by
  intro X hP hw hK hc i pins s σ H E I hf st hg
  subst hP hw hK
  obtain⟨xs,hq,hx⟩:=hg
  obtain⟨its,rv,p,hz⟩:=I.tuple hq
  obtain⟨f0,f1,f2,f3,f4,f5⟩:=hf it (by simp)
  have hl:=rv.length
  exact wpAny_pyNext_tuple_end (I.ok.hd hc) st (show s.heap.IsTuple a its.toArray from p) (by simp;omega) λh' eb=>⟨rfl,I.turned (t':=s.toks) (λb o hb e=>eb b o hb e) f0 f1 f3 f4 f5⟩
 self:=λ_ _ _ _ _ st h=>wpAny_pyIter_tupleiter st h
def Cq{P:Program}{w:World}{K:PySem.W.Frag}{tg:Expr}(it:Addr)(lo:Int)(n:Nat):Turn P w K tg (Itr lo n) [it] it (λi h=>IsRangeIter h it (lo+(i:Nat)*1) ((n:Int)-(i:Nat)) 1) where
 mem:=by simp
 obj:=λi h st b hb=>by
  have e:b=it:=by simpa using hb
  subst e
  exact⟨_,st,λv z=>by
   have z':Data.fields _=Data.cell v:=z
   cases z'⟩
 keep:=λi h h' st k=>k it (by simp) _ st
 item:=by
  intro X hP hw hK hc i pins s σ H E I hf st hg
  subst hP hw hK
  obtain⟨f0,f1,f2,f3,f4,f5⟩:=hf it (by simp)
  have W:=Walks.range (prog:=X.prog) (w:=X.w) (I.ok.hd hc) it lo 1 n
  refine W.item i s _ _ hg st λv h' tk hv st' kk=>?_
  obtain⟨t,rfl⟩:=hv
  have I1:Inv X pins σ H {s with heap:=h',toks:=tk}:=I.turned (λb o hb e=>kk b o (by simpa using hb) e) f0 f1 f3 f4 f5
  refine⟨_,rfl,Gu (s:={s with heap:=h',toks:=tk}) (n:= "range_iterator") st' rfl rfl (by decide) ⟨.int (lo+i),H,I1,⟨t,?_⟩,⟨rfl,rfl⟩,st',λb hb=>(hf b hb).1⟩⟩
  rw[Int.mul_one]
 done:=by
  intro X hP hw hK hc i pins s σ H E I hf st hg
  subst hP hw hK
  obtain⟨f0,f1,f2,f3,f4,f5⟩:=hf it (by simp)
  exact wpAny_pyNext_range_end (I.ok.hd hc) st (by have:n<=i:=hg;omega) λh' eb=>⟨rfl,I.turned (t':=s.toks) (λb o hb e=>eb b o hb e) f0 f1 f3 f4 f5⟩
 self:=λ_ _ _ _ _ st h=>wpAny_pyIter_rangeiter st h
end L2
namespace L2
open PySem PySem.Spec PyProof.Rows
section
variable{X:Cx}{tg:Expr}
def Kl{pins:List (Addr×Obj)}{σ:St}{H:Hp}{s:Shared}{R:It->Hp->Prop}{E:Value->Shared->Prop}{lo hi:Int}{t u v:Tok}{tk:Nat}(I:Inv X pins σ H s)(h1: -(2 ^ 62)<=lo)(h2:lo<2 ^ 62)(h3: -(2 ^ 62)<=hi)(h4:hi<2 ^ 62)
 (q:R (Itr lo (hi-lo).toNat) H):wpAny (model X.prog X.w) X.A (pyIter (.ref s.heap.objs.size)) (PIE X pins σ tg R) E {s with heap:=s.heap.push {cls:=.type "range",data:=.fields #[.int lo t,.int hi u,.int 1 v]},toks:=tk}:=by
 refine wpAny_pyIter_range (IsRange.new ..) (small_one h1 h2 h3 h4) ?_
 have I1:Inv X pins σ H {s with heap:=s.heap.push {cls:=.type "range",data:=.fields #[.int lo t,.int hi u,.int 1 v]},toks:=tk}:=I.kept λb o e=>Heap.get?_push_of_some _ e
 refine⟨(s.heap.push {cls:=.type "range",data:=.fields #[.int lo t,.int hi u,.int 1 v]}).objs.size,[(s.heap.push {cls:=.type "range",data:=.fields #[.int lo t,.int hi u,.int 1 v]}).objs.size],_,_,H,rfl,
  I1.kept (t':=tk) λb o e=>Heap.get?_push_of_some _ e,Cq _ lo (hi-lo).toNat,?_,λb hb=>?_,q⟩
 ·have e1:lo+((0:Nat):Int)*1=lo:=by simp
  have e2:(((hi-lo).toNat:Nat):Int)-((0:Nat):Int)=Builtin.Range.rangeSize lo hi 1:=by rw[rangeSize_one];split<;>omega
  show IsRangeIter _ _ (lo+((0:Nat):Int)*1) ((((hi-lo).toNat:Nat):Int)-((0:Nat):Int)) 1
  rw[e1,e2]
  exact Heap.get?_push_size _ rfl
 ·have e:b=(s.heap.push {cls:=.type "range",data:=.fields #[.int lo t,.int hi u,.int 1 v]}).objs.size:=by simpa using hb
  subst e
  exact I1.uL (Nat.le_refl _) (I1.hok.fresh (Nat.le_refl _))
def Zdo(ta:TA):TI:=λσ H R=>ta σ H λvs H1=>∃j:Int,vs=[.int j]/\ -(2 ^ 62)<=j/\j<2 ^ 62/\R (Itr 0 j.toNat) H1
def Je{a:Expr}{ta:TA}{p pos:Pos}(hg:Gl X "range")(hm:X.mg "range" =none)(ha:PA X [a] ta)(hs:starEach [a] X.env=[(false,eval a X.env)]:=by rfl):PI X tg (.Call (.Name "range" p) [a] [] pos) (Zdo ta):=by
 intro pins s σ H R I h
 refine Call_ (mX I hg hm boot_range (PyProof.Rows.callWith_type1 (Ŭ (ha pos pins s σ H _ I h) λus s1 ⟨vs,H1,I1,r1,q1⟩=>?_) hs rfl))
 obtain⟨j,e,q1,q2,q⟩:=q1
 subst e
 cases r1 with
 |cons r rr=>
  cases rr
  obtain⟨t,rfl⟩:=r
  exact call_range_1 (Kl I1 (by omega) (by omega) q1 q2 (by simpa using q))
def Zf3(wi:TI)(g:TG)(tb:TS):TS:=λD σ H=>wi σ H λJ H1=>∃W:Nat->Nat->St->Hp->Prop,(∃m,W 0 m σ H1)/\∀i m σ H,W i m σ H->
 (J.stop i H/\D.nx σ H)\/(J.go i H/\∃N:St->Hp->Prop,(∀σ' H',N σ' H'->∃m',m'<m/\W (i+1) m' σ' H')/\∀x H',J.yld i H x H'->g x σ H' λσ2 H2=>tb {D with nx:=N,ct:=N,bk:=D.nx} σ2 H2)
def oW(fp:List Addr)(h:Heap):List (Addr×Obj):=fp.filterMap λb=>(h.get? b).map λo=>(b,o)
def aR{fp:List Addr}{h:Heap}{b:Addr}{o:Obj}(hb:b∈fp)(e:h.get? b=some o):(b,o)∈oW fp h:=List.mem_filterMap.mpr ⟨b,hb,by rw[e];rfl⟩
def Jf{fp:List Addr}{h:Heap}{p:Addr×Obj}(hp:p∈oW fp h):p.1∈fp/\h.get? p.1=some p.2:=by
 obtain⟨b,hb,e⟩:=List.mem_filterMap.mp hp
 cases q:h.get? b with
 |none=>rw[q] at e;cases e
 |some o=>
  rw[q] at e
  have e':(b,o)=p:=Option.some.inj e
  subst e'
  exact⟨hb,q⟩
def Inv.pinned{pins:List (Addr×Obj)}{σ:St}{H:Hp}{s:Shared}{fp:List Addr}(I:Inv X pins σ H s)(hf:∀b∈fp,dB X pins H b)(ho:∀b∈fp,∃o,s.heap.get? b=some o/\∀v,o.data≠ .cell v):Inv X (pins++oW fp s.heap) σ H s:=
 I.Gq fun p hp=>(List.mem_append.mp hp).elim (fun z=>I.pin p (List.mem_append_right _ z)) fun z=>by
   obtain⟨hb,e⟩:=Jf z
   obtain⟨f0,f1,f2,_⟩:=hf p.1 hb
   obtain⟨o,e',d⟩:=ho p.1 hb
   rw[e] at e';cases e'
   exact⟨e,f0,f1,f2,d⟩
def Inv.gO{pins pl:List (Addr×Obj)}{σ:St}{H:Hp}{s:Shared}(I:Inv X (pins++pl) σ H s):Inv X pins σ H s:=I.Gq λp hp=>I.pin p (List.mem_append_right _ (List.mem_append_left _ hp))
def ZaR{iter:Expr}{body:List Stmt}{wi:TI}{g:TG}{tb:TS}{pos:Pos}(hp:PassesOwn (model X.prog X.w) X.A X.env X.xe)(hc:X.calm=true)(hi:PI X tg iter wi)(hg:PG X tg g)(hb:lW X body tb)
 (hs:∀x,foldedSetIterable iter X.env x=pure x:=by intro _;rfl):PS X (.For tg iter body [] pos) (Zf3 wi g tb):=by
 intro pins s σ H D I h
 refine wpAny_For (Ŭ (hi pins s σ H _ I h) λv s1 h1=>Ŭ h1 λitv s2 h2=>?_) hs
 obtain⟨it,fp,tn,J,H2,e,I2,T,st2,f2,W,⟨m0,w0⟩,turn⟩:=h2
 subst e
 -- what stays true of the iterator's objects through the loop
 have stat:∀{H':Hp},(∀b∈fp,H' b=none)->∀b∈fp,dB X pins H' b:=λhn b hb=>⟨hn b hb,(f2 b hb).2⟩
 refine codeAny_forLoop_any (λn s'=>∃i σ' H',Inv X pins σ' H' s'/\tn i s'.heap/\(∀b∈fp,H' b=none)/\W i n σ' H') ?_ m0 ⟨0,σ,H2,I2,st2,λb hb=>(f2 b hb).1,w0⟩
 rintro n s3 ⟨i,σ3,H3,I3,st3,fr3,w3⟩
 rcases turn i n σ3 H3 w3 with⟨stop,qn⟩|⟨go,N,hN,step⟩
 ·refine wpAny_passesOwn hp (Ŭ (T.done X rfl rfl rfl hc i pins s3 σ3 H3 X.xe I3 (stat fr3) st3 stop) λr s4 ⟨hr,I4⟩=>?_)
  subst hr
  exact wpAny_execs_nil ⟨σ3,H3,I4,qn⟩
 ·refine wpAny_passesOwn hp (Ŭ (T.item X rfl rfl rfl hc i pins s3 σ3 H3 X.xe I3 (stat fr3) st3 go) λr s4 ⟨u,hr,h4⟩=>?_)
  subst hr
  refine wpAny_passesOwn hp (Ŭ h4 λ_ s5 ⟨x,H5,I5,r5,y5,QM,fr5⟩=>?_)
  have I5':=I5.pinned (stat fr5) (T.obj _ _ QM)
  refine wpAny_passesOwn hp (Ŭ (hg _ s5 σ3 H5 x u _ I5' r5 (step x H5 y5)) λ_ s6 ⟨σ6,H6,I6,q6⟩=>?_)
  refine wpAny_passesOwn hp (Ŭ (hb _ s6 σ6 H6 _ I6 q6) λf s7 q7=>?_)
  have again:∀{σ7:St} {H7:Hp},Inv X (pins++oW fp s5.heap) σ7 H7 s7->N σ7 H7->∃m,m<n/\∃i σ' H',Inv X pins σ' H' s7/\tn i s7.heap/\(∀b∈fp,H' b=none)/\W i m σ' H':=fun{σ7 H7} I7 n7=>by
   obtain⟨m',hm,w7⟩:=hN σ7 H7 n7
   refine⟨m',hm,i+1,σ7,H7,I7.gO,T.keep _ _ _ QM λb hb o e=>(I7.pin (b,o) (List.mem_append_right _ (List.mem_append_right _ (aR hb e)))).1,λb hb=>?_,w7⟩
   obtain⟨o,e,d⟩:=T.obj _ _ QM b hb
   exact(I7.pin (b,o) (List.mem_append_right _ (List.mem_append_right _ (aR hb e)))).2.1
  cases f with
  |next=>obtain⟨σ7,H7,I7,n7⟩:=q7;exact again I7 n7
  |cont=>obtain⟨σ7,H7,I7,n7⟩:=q7;exact again I7 n7
  |brk=>obtain⟨σ7,H7,I7,q7⟩:=q7;exact⟨σ7,H7,I7.gO,q7⟩
  |ret v=>obtain⟨x7,σ7,H7,I7,r7,q7⟩:=q7;exact⟨x7,σ7,H7,I7.gO,r7,q7⟩
end
end L2
namespace L2
open PySem PySem.Spec PyProof.Rows
abbrev R2:=V->V->Hp->VK->Prop
def aP(X:Cx)(f:Value->Value->Sem Value)(r:R2):Prop:=
 ∀(pins:List (Addr×Obj)) (s:Shared) (σ:St) (H:Hp) (x y:V) (v u:Value) (Q:VK),Inv X pins σ H s->RelV x v->RelV y u->r x y H Q->
  wpAny (model X.prog X.w) X.A (f v u) (EP X pins σ Q) X.xe s
def QT(X:Cx)(f:Value->Sem Value)(r:V->Hp->VK->Prop):Prop:=
 ∀(pins:List (Addr×Obj)) (s:Shared) (σ:St) (H:Hp) (x:V) (v:Value) (Q:VK),Inv X pins σ H s->RelV x v->r x H Q->
  wpAny (model X.prog X.w) X.A (f v) (EP X pins σ Q) X.xe s
def ž(X:Cx)(f:Value)(r:List V->Hp->VK->Prop):Prop:=
 ∀(pins:List (Addr×Obj)) (s:Shared) (σ:St) (H:Hp) (xs:List V) (us:List Value) (Q:VK),Inv X pins σ H s->Vals xs us->r xs H Q->
  wpAny (model X.prog X.w) X.A (call f us) (EP X pins σ Q) X.xe s
def Zf4(X:Cx)(r:V->Hp->(Bool->Hp->Prop)->Prop):Prop:=
 ∀(pins:List (Addr×Obj)) (s:Shared) (σ:St) (H:Hp) (x:V) (v:Value) (Q:Bool->Hp->Prop),Inv X pins σ H s->RelV x v->r x H Q->
  wpAny (model X.prog X.w) X.A (truthy v) (TP X pins σ Q) X.xe s
def tOp(r:R2)(ta tb:TE):TE:=λσ H Q=>ta σ H λx H1=>tb σ H1 λy H2=>r x y H2 Q
def tUn(r:V->Hp->VK->Prop)(ta:TE):TE:=λσ H Q=>ta σ H λx H1=>r x H1 Q
def rI(C:Int->Int->Prop)(g:Int->Int->V):R2:=λx y H Q=>∃i j,x=.int i/\y=.int j/\C i j/\Q (g i j) H
def Qu(g:Int->Int->V):R2:=λx y H Q=>∃i j,x=.int i/\y=.int j/\Q (g i j) H
def rU(g:Int->V):V->Hp->VK->Prop:=λx H Q=>∃i,x=.int i/\Q (g i) H
section
variable{X:Cx}{a b c:Expr}{ta tb tc:TE}{pos:Pos}
def ZaS(ha:PE X a ta)(hb:PE X b tb){pins:List (Addr×Obj)}{s:Shared}{σ:St}{H:Hp}{R:V->V->Hp->Prop}(I:Inv X pins σ H s)
 (h:ta σ H λx H1=>tb σ H1 λy H2=>R x y H2){Q:Value->Shared->Prop}{f:Value->Value->Sem Value}
 (hf:∀v u s2 x y H2,Inv X pins σ H2 s2->RelV x v->RelV y u->R x y H2->wpAny (model X.prog X.w) X.A (f v u) Q X.xe s2) :
 wpAny (model X.prog X.w) X.A (eval a X.env) (λv s₁=>wpAny (model X.prog X.w) X.A (eval b X.env) (λu s₂=>wpAny (model X.prog X.w) X.A (f v u) Q X.xe s₂) X.xe s₁) X.xe s:=by
 refine Ŭ (ha pins s σ H _ I h) λv s1 ⟨x,H1,I1,r1,q1⟩=>?_
 refine Ŭ (hb pins s1 σ H1 _ I1 q1) λu s2 ⟨y,H2,I2,r2,q2⟩=>?_
 exact hf v u s2 x y H2 I2 r1 r2 q2
def Ua{op:Operator}{r:R2}(ho:aP X (binaryOp op) r)(ha:PE X a ta)(hb:PE X b tb):PE X (.BinOp a op b pos) (tOp r ta tb):=by
 intro pins s σ H Q I h
 exact wpAny_BinOp (ZaS ha hb I h λv u s2 x y H2 I2 rx ry q=>ho pins s2 σ H2 x y v u Q I2 rx ry q)
def Zdp{op:UnaryOp}{r:V->Hp->VK->Prop}(ho:QT X (unaryOp op) r)(ha:PE X a ta):PE X (.UnaryOp op a pos) (tUn r ta):=by
 intro pins s σ H Q I h
 exact UnaryOp_ (Ŭ (ha pins s σ H _ I h) λv s1 ⟨x,H1,I1,r1,q1⟩=>ho pins s1 σ H1 x v Q I1 r1 q1)
def Gv{f:Value->Value->Sem Value}{C:Int->Int->Prop}{g:Int->Int->Int}
 (rule:∀(i j:Int) (t u:Tok) (s:Shared) (Q:Value->Shared->Prop) (E:Value->Shared->Prop),C i j->Q (.int (g i j) s.toks) {s with toks:=s.toks+1}->wpAny (model X.prog X.w) X.A (f (.int i t) (.int j u)) Q E s) :
 aP X f (rI C λi j=>.int (g i j)):=by
 intro pins s σ H x y v u Q I rx ry h
 obtain⟨i,j,rfl,rfl,hc,q⟩:=h
 obtain⟨t,rfl⟩:=rx
 obtain⟨t',rfl⟩:=ry
 exact rule i j t t' s _ _ hc ⟨.int (g i j),H,I.tok _,⟨_,rfl⟩,q⟩
def zW{f:Value->Value->Sem Value}{g:Int->Int->Int}
 (rule:∀(i j:Int) (t u:Tok) (s:Shared) (Q:Value->Shared->Prop) (E:Value->Shared->Prop),Q (.int (g i j) s.toks) {s with toks:=s.toks+1}->wpAny (model X.prog X.w) X.A (f (.int i t) (.int j u)) Q E s) :
 aP X f (Qu λi j=>.int (g i j)):=by
 intro pins s σ H x y v u Q I rx ry h
 obtain⟨i,j,rfl,rfl,q⟩:=h
 obtain⟨t,rfl⟩:=rx
 obtain⟨t',rfl⟩:=ry
 exact rule i j t t' s _ _ ⟨.int (g i j),H,I.tok _,⟨_,rfl⟩,q⟩
def QV{f:Value->Value->Sem Value}{g:Int->Int->Bool}
 (rule:∀(i j:Int) (t u:Tok) (s:Shared) (Q:Value->Shared->Prop) (E:Value->Shared->Prop),Q (.bool (g i j)) s->wpAny (model X.prog X.w) X.A (f (.int i t) (.int j u)) Q E s) :
 aP X f (Qu λi j=>.bl (g i j)):=by
 intro pins s σ H x y v u Q I rx ry h
 obtain⟨i,j,rfl,rfl,q⟩:=h
 obtain⟨t,rfl⟩:=rx
 obtain⟨t',rfl⟩:=ry
 exact rule i j t t' s _ _ ⟨.bl (g i j),H,I,rfl,q⟩
def Jg(i j:Int):Prop:=0<=j/\j<=1000000/\i.natAbs<2 ^ 64
def ZaT(i j:Int):Prop:=(-(2 ^ 64)<i/\i<2 ^ 64)\/(-(2 ^ 64)<j/\j<2 ^ 64)
def ZaT.ok{i j:Int}(h:ZaT i j):IntMulOk i j:=by
 rcases h with⟨h1,h2⟩|⟨h1,h2⟩
 ·exact .of_left (intBits_le_64 h1 h2)
 ·exact .of_right (intBits_le_64 h1 h2)
def Cr(k:Nat):(0:Int)<=2 ^ k:=by
 rw[two_pow_cast]
 exact Int.natCast_nonneg _
def ZaU:aP X (binaryOp .Add) (Qu λi j=>.int (i+j)):=zW λ_ _ _ _ _ _ _ q=>add_int q
def ZaV:aP X (binaryOp .Sub) (Qu λi j=>.int (i-j)):=zW λ_ _ _ _ _ _ _ q=>sub_int q
def QW:aP X (binaryOp .Mod) (rI (λ_ j=>j≠0) λi j=>.int (i.fmod j)):=Gv λ_ _ _ _ _ _ _ hc q=>mod_int' hc q
def ZaW:aP X (binaryOp .Pow) (rI Jg λi j=>.int (i ^ j.toNat)):=Gv λ_ _ _ _ _ _ _ hc q=>pow_int_small hc.1 hc.2.1 hc.2.2 q
def ZaX:aP X (binaryOp .LShift) (rI Jg λi j=>.int (i*2 ^ j.toNat)):=Gv λ_ _ _ _ _ _ _ hc q=>lshift_int_small hc.1 hc.2.1 hc.2.2 q
def ZaY:aP X (binaryOp .RShift) (rI (λ_ j=>0<=j) λi j=>.int (i / 2 ^ j.toNat)):=Gv λi j _ _ _ _ _ hc q=>
 rshift_int hc (by rw[Int.fdiv_eq_ediv_of_nonneg i (Cr _)];exact q)
def ZaZ:aP X (binaryOp .BitAnd) (Qu λi j=>.int (Builtin.bitAnd i j)):=zW λ_ _ _ _ _ _ _ q=>and_int q
def unI{f:Value->Sem Value}{g:Int->Int}
 (rule:∀(i:Int) (t:Tok) (s:Shared) (Q:Value->Shared->Prop) (E:Value->Shared->Prop),Q (.int (g i) s.toks) {s with toks:=s.toks+1}->wpAny (model X.prog X.w) X.A (f (.int i t)) Q E s) :
 QT X f (rU λi=>.int (g i)):=by
 intro pins s σ H x v Q I rx h
 obtain⟨i,rfl,q⟩:=h
 obtain⟨t,rfl⟩:=rx
 exact rule i t s _ _ ⟨.int (g i),H,I.tok _,⟨_,rfl⟩,q⟩
def Za0:QT X (unaryOp .USub) (rU λi=>.int (-i)):=unI λ_ _ _ _ _ q=>neg_int q
end
section
variable{X:Cx}{a b c:Expr}{ta tb tc:TE}{pos:Pos}
def Km{pins:List (Addr×Obj)}{σ:St}{H:Hp}{s:Shared}{Q:VK}{k k':Bool}(I:Inv X pins σ H s)(q:Q (.bl k) H)(e:k=k'):EP X pins σ Q (.bool k') s:=by
 subst e
 exact⟨.bl k,H,I,rfl,q⟩
def Zdq:aP X (compareOp .Lt) (Qu λi j=>.bl (decide (i<j))):=QV λ_ _ _ _ _ _ _ q=>lt_int q
def Zdr:aP X (compareOp .LtE) (Qu λi j=>.bl (decide (i<=j))):=QV λ_ _ _ _ _ _ _ q=>le_int q
def Zds:aP X (compareOp .Gt) (Qu λi j=>.bl (decide (j<i))):=QV λ_ _ _ _ _ _ _ q=>gt_int q
def Zdt:aP X (compareOp .GtE) (Qu λi j=>.bl (decide (j<=i))):=QV λ_ _ _ _ _ _ _ q=>ge_int q
def wG:aP X (compareOp .Is) (λx y H Q=>y=.non/\Q (.bl (decide (x=.non))) H):=by
 intro pins s σ H x y v u Q I rx ry h
 obtain⟨rfl,q⟩:=h
 cases ry
 refine is_none_gen (Km I q ?_)
 cases x<;>first
  |(cases rx;rfl)
  |(obtain⟨t,rfl⟩:=rx;rfl)
def wH:aP X (compareOp .IsNot) (λx y H Q=>y=.non/\Q (.bl (!decide (x=.non))) H):=by
 intro pins s σ H x y v u Q I rx ry h
 obtain⟨rfl,q⟩:=h
 cases ry
 refine isnot_none_gen (Km I q ?_)
 cases x<;>first
  |(cases rx;rfl)
  |(obtain⟨t,rfl⟩:=rx;rfl)
def aP.or{f:Value->Value->Sem Value}{r r':R2}(h:aP X f r)(h':aP X f r'):aP X f (λx y H Q=>r x y H Q\/r' x y H Q):=by
 intro pins s σ H x y v u Q I rx ry q
 rcases q with q|q
 ·exact h pins s σ H x y v u Q I rx ry q
 ·exact h' pins s σ H x y v u Q I rx ry q
def Ĺ(b:Expr){op:CmpOp}(h:op≠ .In:=by decide)(h2:op≠ .NotIn:=by decide):behindInMarks op b=false:=by
 have e1:(op== CmpOp.In)=false:=by cases op<;>first|rfl|exact absurd rfl h
 have e2:(op== CmpOp.NotIn)=false:=by cases op<;>first|rfl|exact absurd rfl h2
 cases b<;>simp[behindInMarks,e1,e2]
def QX{op:CmpOp}{r:R2}(ho:aP X (compareOp op) r)(ha:PE X a ta)(hb:PE X b tb)(hm:behindInMarks op b=false):PE X (.Compare a [op] [b] pos) (tOp r ta tb):=by
 intro pins s σ H Q I h
 exact wpAny_Compare1 (ZaS ha hb I h λv u s2 x y H2 I2 rx ry q=>ho pins s2 σ H2 x y v u Q I2 rx ry q) hm
def Za1(K:PySem.W.Frag)(x:V)(H:Hp)(k:Bool):Prop:=
 match x with
 | .non=>k=false
 | .bl b=>k=b
 | .int i=>k=(i != 0)
 | .str y=>y.length<=sizeLine/\k=((y.length:Int) != 0)
 | .TX y=>y.size<=sizeLine/\k=((y.size:Int) != 0)
 | .ref p=>(∃xs,aQ K H p xs/\k=!xs.isEmpty)\/(∃xs,gG K H p xs/\k=!xs.isEmpty)\/∃kvs,H p=some (.dK kvs)/\k=!kvs.isEmpty
 |_=>False
def Cu{κ:Type}{kvs:List (κ×V)}{vs:List (κ×Value)}(r:KV kvs vs):(!vs.isEmpty)=!kvs.isEmpty:=by
 cases r<;>rfl
def rP{xs:List V}{its:List Value}(r:Vals xs its):(!its.toArray.isEmpty)=!xs.isEmpty:=by
 cases r<;>simp
def oX:(sizeLine:Nat)<2 ^ 63:=by rw[sizeLine_eq];decide
def Za2:Zf4 X (λx H Q=>∃k,Za1 X.K x H k/\Q k H):=by
 intro pins s σ H x v Q I rx h
 obtain⟨k,e,q⟩:=h
 have hl:=oX
 have hs:sizeLine=16777216:=sizeLine_eq
 cases x with
 |non=>
  cases rx
  have e':k=false:=e
  subst e'
  exact truthy_none ⟨H,I,q⟩
 |bl b=>
  cases rx
  have e':k=b:=e
  subst e'
  exact wpAny_truthy_bool ⟨H,I,q⟩
 |int i=>
  obtain⟨t,rfl⟩:=rx
  have e':k=(i != 0):=e
  subst e'
  exact PySem.P.truthy_int ⟨H,I,q⟩
 |str y=>
  obtain⟨t,rfl⟩:=rx
  obtain⟨hy,e'⟩:y.length<=sizeLine/\k=((y.length:Int) != 0):=e
  subst e'
  exact PySem.P.truthy_str (by omega) ⟨H,I.tok _,q⟩
 |TX y=>
  obtain⟨t,rfl⟩:=rx
  obtain⟨hy,e'⟩:y.size<=sizeLine/\k=((y.size:Int) != 0):=e
  subst e'
  exact PySem.W.truthy_bytes (by omega) ⟨H,I.tok _,q⟩
 |ref p=>
  cases rx
  have e':(∃xs,aQ X.K H p xs/\k=!xs.isEmpty)\/(∃xs,gG X.K H p xs/\k=!xs.isEmpty)\/∃kvs,H p=some (.dK kvs)/\k=!kvs.isEmpty:=e
  rcases e' with⟨xs,hx,e'⟩|⟨xs,hx,e'⟩|⟨kvs,hx,e'⟩
  ·subst e'
   obtain⟨its,r,pl,hz⟩:=I.list hx
   have hlen:=r.length
   exact wpAny_truthy_list pl.isList (by simp only[List.size_toArray];omega) ⟨H,I.tok _,by rw[rP r];exact q⟩
  ·subst e'
   obtain⟨its,r,pl,hz⟩:=I.tuple hx
   have hlen:=r.length
   exact truthy_tuple pl (by simp only[List.size_toArray];omega) ⟨H,I.tok _,by rw[rP r];exact q⟩
  ·subst e'
   obtain⟨hz,hS,vs,r,m⟩:kvs.length<=sizeLine/\(p== sysModules)=false/\∃vs,KV kvs vs/\s.heap.DictOf (wD X.prog X.w) p vs:=I.hok p _ hx
   have hlen:kvs.length=vs.length:=Paired.length r
   exact wpAny_truthy_dict hS m (by omega) ⟨H,I.tok _,by rw[Cu r];exact q⟩
 |_=>exact(show False from e).elim
def Ko(ha:PE X a ta)(he:∀whole,isTrue a X.env whole=(do let v <-whole;standAt a.pos;holding [v] (truthy v))) :
 PT X a (λσ H Q=>ta σ H λx H'=>∃k,Za1 X.K x H' k/\Q k H'):=by
 intro pins s σ H Q I h
 exact isTrue_plain (Ŭ (ha pins s σ H _ I h) λv s1 ⟨x,H1,I1,r1,q1⟩=>Za2 pins s1 σ H1 x v Q I1 r1 q1) (he _)
def Cv:aP X (binaryOp .Add) (λx y H Q=>∃i j,x=.str i/\y=.str j/\i.length+j.length<=sizeLine/\Q (.str (i++j)) H):=by
 intro pins s σ H x y v u Q I rx ry h
 obtain⟨i,j,rfl,rfl,hz,q⟩:=h
 obtain⟨t,rfl⟩:=rx
 obtain⟨t',rfl⟩:=ry
 exact add_str (λt' tk=>⟨.str (i++j),H,I.tok _,⟨_,rfl⟩,q⟩) hz
def vals1{x:V}{us:List Value}(r:Vals [x] us):∃u,us=[u]/\RelV x u:=by
 cases r with
 |cons r1 r2=>cases r2;exact⟨_,rfl,r1⟩
def vals2{x y:V}{us:List Value}(r:Vals [x,y] us):∃u w',us=[u,w']/\RelV x u/\RelV y w':=by
 cases r with
 |cons r1 r2=>
  cases r2 with
  |cons r3 r4=>cases r4;exact⟨_,_,rfl,r1,r3⟩
def Kp:ž X (.builtin "abs") (λxs H Q=>∃i,xs=[.int i]/\Q (.int (if i<0 then -i else i)) H):=by
 intro pins s σ H xs us Q I r h
 obtain⟨i,rfl,q⟩:=h
 obtain⟨u,rfl,t,rfl⟩:=vals1 r
 exact call_abs_int λu tk=>⟨.int (if i<0 then -i else i),H,I.tok _,⟨_,rfl⟩,q⟩
def Jh(hc:X.calm=true):ž X (.builtin "min") (λxs H Q=>∃i j,xs=[.int i,.int j]/\Q (.int (if j<i then j else i)) H):=by
 intro pins s σ H xs us Q I r h
 obtain⟨i,j,rfl,q⟩:=h
 obtain⟨u,w',rfl,⟨t,rfl⟩,⟨t',rfl⟩⟩:=vals2 r
 refine min_two_ints (I.ok.hd hc) λh' tk k=>⟨_,H,I.kept k,?_,q⟩
 by_cases hj:j<i
 ·rw[if_pos hj,if_pos hj];exact⟨_,rfl⟩
 ·rw[if_neg hj,if_neg hj];exact⟨_,rfl⟩
def Ji:ž X (.type "int") (λxs H Q=>(∃i,xs=[.int i]/\Q (.int i) H)\/∃k,xs=[.bl k]/\Q (.int (if k then 1 else 0)) H):=by
 intro pins s σ H xs us Q I r h
 rcases h with⟨i,rfl,q⟩|⟨k,rfl,q⟩
 ·obtain⟨u,rfl,t,rfl⟩:=vals1 r
  exact call_int_int ⟨.int i,H,I,⟨_,rfl⟩,q⟩
 ·obtain⟨u,rfl,r1⟩:=vals1 r
  cases r1
  exact call_int_bool ⟨.int (if k then 1 else 0),H,I.tok _,⟨_,rfl⟩,q⟩
def Zf5(K:PySem.W.Frag)(x:V)(H:Hp)(n:Nat):Prop:=
 match x with
 | .str y=>y.length<=sizeLine/\n=y.length
 | .TX y=>y.size<=sizeLine/\n=y.size
 | .ref p=>(∃xs,aQ K H p xs/\n=xs.length)\/∃xs,gG K H p xs/\n=xs.length
 |_=>False
def Kq:ž X (.builtin "len") (λxs H Q=>∃x n,xs=[x]/\Zf5 X.K x H n/\Q (.int n) H):=by
 intro pins s σ H xs us Q I r h
 obtain⟨x,n,rfl,e,q⟩:=h
 obtain⟨u,rfl,rx⟩:=vals1 r
 have hl:=oX
 have hs:sizeLine=16777216:=sizeLine_eq
 cases x with
 |str y=>
  obtain⟨t,rfl⟩:=rx
  obtain⟨hy,e'⟩:y.length<=sizeLine/\n=y.length:=e
  subst e'
  exact len_str (by omega) ⟨.int _,H,I.tok _,⟨_,rfl⟩,q⟩
 |TX y=>
  obtain⟨t,rfl⟩:=rx
  obtain⟨hy,e'⟩:y.size<=sizeLine/\n=y.size:=e
  subst e'
  exact PySem.W.len_bytes (by omega) ⟨.int _,H,I.tok _,⟨_,rfl⟩,q⟩
 |ref p=>
  cases rx
  have e':(∃xs,aQ X.K H p xs/\n=xs.length)\/∃xs,gG X.K H p xs/\n=xs.length:=e
  rcases e' with⟨xs,hx,e'⟩|⟨xs,hx,e'⟩
  ·subst e'
   obtain⟨its,r',pl,hz⟩:=I.list hx
   have hlen:=r'.length
   exact Calls.call_len_list pl.isList (by simp only[List.size_toArray];omega) ⟨.int xs.length,H,I.tok _,⟨_,by simp only[List.size_toArray];rw[hlen]⟩,q⟩
  ·subst e'
   obtain⟨its,r',pl,hz⟩:=I.tuple hx
   have hlen:=r'.length
   exact len_tuple pl (by simp only[List.size_toArray];omega) ⟨.int xs.length,H,I.tok _,⟨_,by simp only[List.size_toArray];rw[hlen]⟩,q⟩
 |_=>exact(show False from e).elim
end
end L2
namespace L2
open PySem PySem.Spec PyProof.Rows
structure Cw(h:Heap)(x dx C:Addr)(mA:Str->Option Value):Prop where
 obj:h.get? x=some (PySem.W.instObj C dx)
 ns:h.Ns1 dx mA
 ne:dx≠x
def oY{h:Heap}{dx:Addr}{mA:Str->Option Value}(n:h.Ns1 dx mA):∃od,h.get? dx=some od/\∀name,PySem.W.lookIn name od=some (mA name):=by
 obtain⟨o,es,ep,ho,hd,hk,_,hm⟩:=n
 refine⟨o,ho,λname=>?_⟩
 have e:=hm name
 unfold nsFind findBy at e
 rw[<-Array.find?_toList] at e
 unfold PySem.W.lookIn
 rw[hd]
 dsimp only
 split
 ·rename_i y q
  rw[q] at e
  exact congrArg some e
 ·rename_i q
  rw[q] at e
  have a:es.toList.any (·.refKey)=false:=by
   rw[List.any_eq_false]
   intro y hy
   obtain⟨z,t,hkey⟩:=hk y (Array.mem_toList_iff.mp hy)
   simp[DictEntry.refKey,hkey]
  have a':¬es.toList.any (·.refKey)=true:=by rw[a];exact Bool.false_ne_true
  rw[if_neg a']
  exact congrArg some e
def Cw.look{h:Heap}{x dx C:Addr}{mA:Str->Option Value}(I:Cw h x dx C mA):∃od,PySem.W.InstAt h x (PySem.W.instObj C dx) C (some od)/\∀name,PySem.W.lookIn name od=some (mA name):=
 let ⟨od,ho,hl⟩:=oY I.ns
 ⟨od,⟨I.obj,rfl,rfl,ho⟩,hl⟩
section
variable{prog:Program}{w:World}{A:Around}{E:Value->Shared->Prop}{s:Shared}{K:PySem.W.Frag}{x dx C f:Addr}{mA:Str->Option Value}{name:Str}{v:Value}
def get_map{expr:Bool}{Q:Value->Shared->Prop}(X:K.In s.heap)(I:Cw s.heap x dx C mA)(hg:PySem.W.plainGet K C name=true)(hh:PySem.W.hasDictIn K C=true)
 (ha:PySem.W.findIn K (.ref C) name=some none)(hv:mA name=some v)(hv':PySem.W.handedIn v=true)(h:Q v {s with toks:=s.toks+1}) :
 wpAny (model prog w) A (getAttr (.ref x) name expr) Q E s:=by
 obtain⟨od,J,hl⟩:=I.look
 exact PySem.W.get_value X J (PySem.W.plainGet_of hg).1 (PySem.W.findObj_own hh ha rfl (by rw[hl,hv])) hv' h
def Kr{pl:Sem Bool}{Q:Value×List Value->Shared->Prop}(X:K.In s.heap)(I:Cw s.heap x dx C mA)(hg:PySem.W.plainGet K C name=true)
 (hf:PySem.W.findIn K (.ref C) name=some (some (.ref f)))(ht:PySem.W.isFn K (.ref f)=true)(hv:mA name=none)(h:Q (.ref f,[.ref x]) s) :
 wpAny (model prog w) A (getMethod (.ref x) name pl) Q E s:=by
 obtain⟨od,J,hl⟩:=I.look
 exact PySem.W.method_fn X J (PySem.W.plainGet_of hg).1 (PySem.W.plainGet_of hg).2 hf (beq_iff_eq.mp ht) (by show(PySem.W.lookIn name od).map (·.isSome)=some false;rw[hl,hv];rfl) h
def QZ{ns:List Str}{Q:Unit->Shared->Prop}(X:K.In s.heap)(I:Cw s.heap x dx C mA)
 (hs:PySem.W.findIn K (.ref C) "__setattr__" =some (some (.builtin "object.__setattr__")))(hp:PySem.W.plainOver K C=true)(ht:PySem.W.takerIn K C name=some none)(hh:PySem.W.hasDictIn K C=true)
 (hw:PySem.Within mA ns)(hsz:ns.length<=sizeLine)
 (h:∀h',Cw h' x dx C (λy=>if y=name then some v else mA y)->Heap.SameBut dx s.heap h'->Q () {s with heap:=h',toks:=s.toks+2}) :
 wpAny (model prog w) A (setAttr (.ref x) name v) Q E s:=by
 obtain⟨od,J,hl⟩:=I.look
 refine PySem.W.set_plain X J hs (PySem.W.osa_open (s:={s with toks:=s.toks+1}) (r:=none) X J hp ht λb=>?_)
 obtain⟨cd,hc,hd'⟩:=PySem.W.any_some hh
 have hx:s.heap.get? x=some ⟨.ref C,some dx,.plain,#[]⟩:=I.obj
 refine wpAny_bind (wpAny_pure (wpAny_bind (wpAny_bind (wpAny_loadPart hx (wpAny_bind (PySem.W.Looks.here (s:={s with toks:=s.toks+1}) (PySem.W.looks_clsIn X hc) ?_))))))
 rw[hd']
 refine wpAny_pure (a:=some dx) (wpAny_bind (wpAny_pure (wpAny_bind ?_)))
 refine wpAny_nsSet1 (s:={s with toks:=s.toks+1}) I.ns λh' hn2 hs2=>?_
 obtain⟨oD,esD,epD,hoD,hdD,hcD⟩:=hn2.count (PySem.Within.cons name v hw)
 refine wpAny_bind (wpAny_lookBehind hoD (by rw[hdD];exact pastItsLine_dict (Nat.le_trans hcD (by rw[List.length_cons];omega))) ?_)
 exact wpAny_pure (h _ ⟨(hs2.2 _ (Ne.symm I.ne)).trans I.obj,hn2,I.ne⟩ hs2)
def Ks{R:Result->Shared->Prop}{vs:List Value}{kw:List (Str×Value)}(X:K.In s.heap)(hm:PySem.W.makesIn K C=true)
 (hi:PySem.W.findIn K (.ref C) "__init__" =some (some (.ref f)))(hf:PySem.W.typeIn K (.ref f)=some (.type "function"))
 (h:codeAny (model prog w) (A.under (.builtin "type.__call__" ⟨.ref C::vs,kw⟩)) (.call (.ref f) ⟨.ref (s.heap.objs.size+1)::vs,kw⟩) (PySem.W.InitBack (s.heap.objs.size+1) R)
   {s with heap:=(s.heap.push PySem.W.emptyDict).push (PySem.W.instObj C s.heap.objs.size)}) :
 codeAny (model prog w) A (.call (.ref C) ⟨vs,kw⟩) R s:=by
 obtain⟨hh,g,d,t,os⟩:=s
 exact PySem.W.make_core (PySem.W.makes_of X hm) (PySem.W.looks_findIn X hi) (λself=>PySem.W.bind_fn X self hf) (.inl rfl) h
end
def cj(f:Str)(v:V):List (Str×V)->List (Str×V)
 | []=>[(f,v)]
 |(g,x)::r=>if g=f then(g,v)::r else(g,x)::cj f v r
theorem jG(f g:Str)(v:V):∀fs:List (Str×V),(cj f v fs).lookup g=if g=f then some v else fs.lookup g
 | []=>by
   show List.lookup g [(f,v)]=_
   by_cases h:g=f
   ·have hb:(g== f)=true:=beq_iff_eq.mpr h
    simp only[List.lookup,hb,if_pos h]
   ·have hb:(g== f)=false:=beq_eq_false_iff_ne.mpr h
    simp only[List.lookup,hb,if_neg h]
 |(k,x)::r=>by
  have ih:=jG f g v r
  rw[show cj f v ((k,x)::r)=(if k=f then(k,v)::r else(k,x)::cj f v r) from rfl]
  by_cases hk:k=f
  ·rw[if_pos hk]
   by_cases h:g=k
   ·have hb:(g== k)=true:=beq_iff_eq.mpr h
    simp only[List.lookup,hb,if_pos (h.trans hk)]
   ·have hb:(g== k)=false:=beq_eq_false_iff_ne.mpr h
    simp only[List.lookup,hb,if_neg (λe:g=f=>h (e.trans hk.symm))]
  ·rw[if_neg hk]
   by_cases h:g=k
   ·have hb:(g== k)=true:=beq_iff_eq.mpr h
    simp only[List.lookup,hb,if_neg (λe:g=f=>hk (h.symm.trans e))]
   ·have hb:(g== k)=false:=beq_eq_false_iff_ne.mpr h
    simp only[List.lookup,hb]
    exact ih
theorem oZ(f:Str)(v:V):∀fs:List (Str×V),f∈(cj f v fs).map (·.1)/\∀g,g∈fs.map (·.1)->g∈(cj f v fs).map (·.1)
 | []=>⟨by simp[cj],λg h=>by simp at h⟩
 |(k,x)::r=>by
  obtain⟨i1,i2⟩:=oZ f v r
  rw[show cj f v ((k,x)::r)=(if k=f then(k,v)::r else(k,x)::cj f v r) from rfl]
  by_cases hk:k=f
  ·rw[if_pos hk]
   subst hk
   exact⟨by simp,λg h=>by simpa using h⟩
  ·rw[if_neg hk]
   refine⟨?_,λg h=>?_⟩
   ·rw[List.map_cons]
    exact List.mem_cons_of_mem _ i1
   ·rw[List.map_cons] at h ⊢
    rcases List.mem_cons.mp h with e|e
    ·exact List.mem_cons.mpr (.inl e)
    ·exact List.mem_cons_of_mem _ (i2 g e)
theorem jH(f:Str)(v:V):∀fs:List (Str×V),(cj f v fs).length<=fs.length+1
 | []=>by simp[cj]
 |(k,x)::r=>by
  have ih:=jH f v r
  rw[show cj f v ((k,x)::r)=(if k=f then(k,v)::r else(k,x)::cj f v r) from rfl]
  by_cases hk:k=f
  ·rw[if_pos hk,List.length_cons,List.length_cons];omega
  ·rw[if_neg hk,List.length_cons,List.length_cons];omega
def nJ.some_of{v:V}{o:Option Value}(r:nJ (some v) o):∃u,o=some u/\RelV v u:=by
 cases o with
 |none=>exact(show False from r).elim
 |some u=>exact⟨u,rfl,r⟩
def nJ.none_of{o:Option Value}(r:nJ none o):o=none:=by
 cases o with
 |none=>rfl
 |some u=>exact(show False from r).elim
def uW{v:V}{u:Value}(r:RelV v u):PySem.W.handedIn u=true:=by
 cases v with
 |non=>cases(show u=Value.none from r);rfl
 |bl b=>cases(show u=Value.bool b from r);rfl
 |int i=>obtain⟨t,e⟩:=(show ∃t,u=Value.int i t from r);cases e;rfl
 |str x=>obtain⟨t,e⟩:=(show ∃t,u=Value.str x t from r);cases e;rfl
 |TX b=>obtain⟨t,e⟩:=(show ∃t,u=Value.bytes b t from r);cases e;rfl
 |flt b=>obtain⟨t,e⟩:=(show ∃t,u=Value.float b t from r);cases e;rfl
 |ref a=>cases(show u=Value.ref a from r);rfl
 |ty n=>cases(show u=Value.type n from r);rfl
section
variable{P:Program}{w:World}{H H':Hp}{h h':Heap}{a C dx:Addr}{fs fs':List (Str×V)}
def q_(hok:gK P w H h)(e:H a=some (.ins C dx fs)):∃mA,Cw h a dx C mA/\(∀f,nJ (fs.lookup f) (mA f))/\PySem.Within mA (fs.map (·.1))/\fs.length<=1000/\H dx=some (.own a):=by
 obtain⟨d,z,ne,ob,mA,n,r,q⟩:=(show Ź P w H h a (.ins C dx fs) from hok a _ e)
 exact⟨mA,⟨ob,n,ne⟩,r,q,z,d⟩
end
structure Cls(K:PySem.W.Frag)(C:Addr):Prop where
 pg:PySem.W.plainGet K C Str.empty=true
 hd:PySem.W.hasDictIn K C=true
 po:PySem.W.plainOver K C=true
 sa:PySem.W.findIn K (.ref C) "__setattr__" =some (some (.builtin "object.__setattr__"))
def Cls.get{K:PySem.W.Frag}{C:Addr}(c:Cls K C)(f:Str):PySem.W.plainGet K C f=true:=c.pg
def Ņ(K:PySem.W.Frag)(C:Addr)(f:Str):Prop:=PySem.W.findIn K (.ref C) f=some none
def Ņ.taker{K:PySem.W.Frag}{C:Addr}{f:Str}(n:Ņ K C f):PySem.W.takerIn K C f=some none:=by
 unfold PySem.W.takerIn
 rw[show PySem.W.findIn K (.ref C) f=some none from n]
 rfl
structure Meth(K:PySem.W.Frag)(C:Addr)(m:Str)(f:Addr):Prop where
 at_:PySem.W.findIn K (.ref C) m=some (some (.ref f))
 fn:PySem.W.isFn K (.ref f)=true
 kp:PySem.W.keepIn K (.ref f)=true
section
variable{X:Cx}{pins:List (Addr×Obj)}{σ:St}{H:Hp}{s:Shared}{a C dx:Addr}{fs:List (Str×V)}{f:Str}{v:V}{A:Around}{E:Value->Shared->Prop}
def Cy{b:Bool}{Q:Value->Shared->Prop}(I:Inv X pins σ H s)(e:H a=some (.ins C dx fs))(c:Cls X.K C)(n:Ņ X.K C f)(l:fs.lookup f=some v)
 (h:∀u s',Inv X pins σ H s'->RelV v u->Q u s'):wpAny (model X.prog X.w) A (getAttr (.ref a) f b) Q E s:=by
 obtain⟨mA,O,r,_,_,_⟩:=q_ I.hok e
 obtain⟨u,hu,ru⟩:=nJ.some_of (v:=v) (o:=mA f) (by rw[<-l];exact r f)
 exact get_map I.iH O (c.get f) c.hd n hu (uW ru) (h u _ (I.tok _) ru)
def Cz{m:Str}{g:Addr}{pl:Sem Bool}{Q:Value×List Value->Shared->Prop}(I:Inv X pins σ H s)(e:H a=some (.ins C dx fs))(c:Cls X.K C)(k:Meth X.K C m g)(l:fs.lookup m=none)
 (h:Q (.ref g,[.ref a]) s):wpAny (model X.prog X.w) A (getMethod (.ref a) m pl) Q E s:=by
 obtain⟨mA,O,r,_,_,_⟩:=q_ I.hok e
 have hn:mA m=none:=nJ.none_of (by rw[<-l];exact r m)
 exact Kr I.iH O (c.get m) k.at_ k.fn hn h
def CG{y:V}{u:Value}{Q:Unit->Shared->Prop}(I:Inv X pins σ H s)(e:H a=some (.ins C dx fs))(c:Cls X.K C)(n:Ņ X.K C f)(hl:fs.length<1000)(ry:RelV y u)
 (h:∀s',Inv X pins σ (upd H a (.ins C dx (cj f y fs))) s'->Q () s'):wpAny (model X.prog X.w) A (setAttr (.ref a) f u) Q E s:=by
 obtain⟨mA,O,r,wi,_,ho⟩:=q_ I.hok e
 have hz:(fs.map (·.1)).length<=sizeLine:=by rw[List.length_map,sizeLine_eq];omega
 refine QZ I.iH O c.sa c.po n.taker c.hd wi hz λh' O' sb=>h _ ?_
 have hd:∃o,h'.get? dx=some o:=let ⟨o,_,_,e',_⟩:=O'.ns;⟨o,e'⟩
 refine I.write (x:=a) (e:=dx) (by rw[e];exact True.intro) (.inr ho) (λb q hb z=>(sb.2 b hb).trans z) hd ?_
 refine⟨by rw[Ę O.ne];exact ho,?_,O.ne,O'.obj,_,O'.ns,λg=>?_,λg hg=>?_⟩
 ·have:=jH f y fs;omega
 ·show nJ ((cj f y fs).lookup g) (if g=f then some u else mA g)
  rw[jG]
  by_cases q:g=f
  ·rw[if_pos q,if_pos q];exact ry
  ·rw[if_neg q,if_neg q];exact r g
 ·by_cases q:g=f
  ·rw[q];exact(oZ f y fs).1
  ·refine(oZ f y fs).2 g (wi g λz=>hg ?_)
   show(if g=f then some u else mA g)=none
   rw[if_neg q];exact z
def Inv.made(I:Inv X pins σ H s):Inv X pins σ (upd (upd H s.heap.objs.size (.own (s.heap.objs.size+1))) (s.heap.objs.size+1) (.ins C s.heap.objs.size []))
 {s with heap:=(s.heap.push PySem.W.emptyDict).push (PySem.W.instObj C s.heap.objs.size)}:=by
 have e1:(s.heap.push PySem.W.emptyDict).get? s.heap.objs.size=some PySem.W.emptyDict:=Heap.get?_push_size s.heap rfl
 have e2:((s.heap.push PySem.W.emptyDict).push (PySem.W.instObj C s.heap.objs.size)).get? (s.heap.objs.size+1)=some (PySem.W.instObj C s.heap.objs.size):=by
  have:=Heap.get?_push_size (s.heap.push PySem.W.emptyDict) (o:=PySem.W.instObj C s.heap.objs.size) rfl
  rwa [Heap.size_push] at this
 have e3:(s.heap.push PySem.W.emptyDict).Ns s.heap.objs.size (λ_=>none):=⟨PySem.W.emptyDict,#[],_,e1,rfl,(λe he=>absurd he (by simp)),λ_=>rfl⟩
 have I1:=I.laid (a:=s.heap.objs.size) (o:=.own (s.heap.objs.size+1)) (h':=s.heap.push PySem.W.emptyDict) (t':=s.toks) (λb u q=>Heap.get?_push_of_some _ q) (Nat.le_refl _) ⟨_,e1⟩
 refine I1.laid (a:=s.heap.objs.size+1) (o:=.ins C s.heap.objs.size []) (t':=s.toks) (λb u q=>Heap.get?_push_of_some _ q) (Nat.le_of_eq (Heap.size_push _ _)) ?_
 have ne:s.heap.objs.size≠s.heap.objs.size+1:=Nat.ne_of_lt (Nat.lt_succ_self _)
 refine⟨by rw[Ę ne,Ī],Nat.zero_le _,ne,e2,λ_=>none,(Heap.Ns1.of_empty e3).at λo q=>Heap.get?_push_of_some _ q,λ_=>True.intro,λy hy=>absurd rfl hy⟩
def Gw{prog:Program}{w:World}{env:Env}{e:Expr}{f:Str}{pos:Pos}{s:Shared}{Q:Value->Shared->Prop}(hb:attributeBase e f env (eval e env)=eval e env)
 (h:wpAny (model prog w) A (eval e env) (λo s₁=>wpAny (model prog w) A (getAttr o f true) Q E s₁) E s):wpAny (model prog w) A (eval (.Attribute e f pos) env) Q E s:=
 Attribute_any_ h (by rw[arm_eval_Attribute,hb])
end
def Zf6(K:PySem.W.Frag)(ta:TE)(f:Str):TE:=λσ H Q=>ta σ H λx H1=>∃a C dx fs v,x=.ref a/\H1 a=some (.ins C dx fs)/\Cls K C/\Ņ K C f/\fs.lookup f=some v/\Q v H1
def Zf7(K:PySem.W.Frag)(ta tv:TE)(f:Str):TS:=λD σ H=>tv σ H λy H1=>ta σ H1 λx H2=>∃a C dx fs,x=.ref a/\H2 a=some (.ins C dx fs)/\Cls K C/\Ņ K C f/\fs.length<1000/\
 D.nx σ (upd H2 a (.ins C dx (cj f y fs)))
section
variable{X:Cx}{o e value:Expr}{f:Str}{pos pos' tpos:Pos}{ta tv:TE}
def Za3(he:PE X e ta)(hb:attributeBase e f X.env (eval e X.env)=eval e X.env):PE X (.Attribute e f pos) (Zf6 X.K ta f):=by
 intro pins s σ H Q I h
 refine Gw hb (Ŭ (he pins s σ H _ I h) λu s1 ⟨x,H1,I1,rx,a,C,dx,fs,v,ex,ea,c,n,l,q⟩=>?_)
 subst ex
 obtain rfl:u=Value.ref a:=rx
 exact Cy I1 ea c n l λu' s2 I2 ru=>⟨v,H1,I2,ru,q⟩
def Za4(ha:PE X o ta)(hv:PE X value tv)(hs:swapsWith value (some (.Attribute o f pos')) pos.line X.env=pure false):PS X (.Assign [.Attribute o f pos'] value pos) (Zf7 X.K ta tv f):=by
 intro pins s σ H D I h
 refine plainObj_wpAny_Assign_Attribute (Ŭ (hv pins s σ H _ I h) λu s1 ⟨y,H1,I1,ry,q⟩=>Ŭ (ha pins s1 σ H1 _ I1 q) λov s2 ⟨x,H2,I2,rx,a,C,dx,fs,ex,ea,c,n,l,q2⟩=>?_) hs
 subst ex
 obtain rfl:ov=Value.ref a:=rx
 exact CG I2 ea c n l ry λs3 I3=>⟨σ,_,I3,q2⟩
end
section
variable{X:Cx}{pins:List (Addr×Obj)}{σ:St}{H:Hp}{s:Shared}{A:Around}{E:Value->Shared->Prop}{Q:Value->Shared->Prop}{c:Value}{b:Bool}
inductive o_(K:PySem.W.Frag)(H:Hp):V->Value->Prop where
 |non:o_ K H .non (.type "NoneType")
 |bl (x:Bool):o_ K H (.bl x) (.type "bool")
 |int (i:Int):o_ K H (.int i) (.type "int")
 |str (x:Str):o_ K H (.str x) (.type "str")
 |flt (x:UInt64):o_ K H (.flt x) (.type "float")
 |lst {a:Addr} {xs:List V} (e:H a=some (.lst xs)):o_ K H (.ref a) (.type "list")
 |gD {a:Addr} {o:Obj} {xs:List V} (e:H a=some (.gD o (.lst xs))):o_ K H (.ref a) (.type "list")
 |tup {a:Addr} {xs:List V} (e:H a=some (.tup xs)):o_ K H (.ref a) (.type "tuple")
 |dK {a:Addr} {kvs:List (Key×V)} (e:H a=some (.dK kvs)):o_ K H (.ref a) (.type "dict")
 |dT {a:Addr} {kvs:List (List Key×V)} (e:H a=some (.dT kvs)):o_ K H (.ref a) (.type "dict")
 |ins {a C dx:Addr} {fs:List (Str×V)} (e:H a=some (.ins C dx fs)) (cl:Cls K C) (ha:PySem.W.findIn K (.ref C) "__class__" =some (some (.builtin "object.__class__")))
   (hn:PySem.W.specialIn K (.builtin "object.__class__") "__get__" =some (some (.builtin "getset_descriptor.__get__"))) (htk:PySem.W.takesIn K (.builtin "object.__class__")=some true)
   (hm:PySem.W.mroIn K C (.type "object")=some true):o_ K H (.ref a) (.ref C)
def gP{x:V}{u t:Value}(I:Inv X pins σ H s)(rx:RelV x u)(ty:o_ X.K H x t)(e:PySem.W.kitOne X.K t c=some b)(h:∀tk,Q (.bool b) {s with toks:=tk}) :
 wpAny (model X.prog X.w) A (call (.builtin "isinstance") [u,c]) Q E s:=by
 cases ty with
 |non=>cases(show u=Value.none from rx);exact PySem.W.kia_one PySem.W.kitx_none I.iH True.intro e (λz=>nomatch z) h
 |bl y=>cases(show u=Value.bool y from rx);exact PySem.W.kia_one PySem.W.kitx_bool I.iH True.intro e (λz=>nomatch z) h
 |int i=>obtain⟨t,q⟩:=(show ∃t,u=Value.int i t from rx);cases q;exact PySem.W.kia_one PySem.W.kitx_int I.iH True.intro e (λz=>nomatch z) h
 |str y=>obtain⟨t,q⟩:=(show ∃t,u=Value.str y t from rx);cases q;exact PySem.W.kia_one PySem.W.kitx_str I.iH True.intro e (λz=>nomatch z) h
 |flt y=>obtain⟨t,q⟩:=(show ∃t,u=Value.float y t from rx);cases q;exact PySem.W.kia_one PySem.W.kitx_float I.iH True.intro e (λz=>nomatch z) h
 |@lst a xs ea=>
  cases(show u=Value.ref a from rx)
  obtain⟨_,_,n,_,h1⟩:=(show Ź X.prog X.w H s.heap a (.lst xs) from I.hok a _ ea)
  exact PySem.W.kia_one PySem.W.kitx_list I.iH ⟨_,h1,rfl⟩ e (λz=>nomatch z) h
 |@gD a ob xs ea=>
  cases(show u=Value.ref a from rx)
  obtain⟨_,_,_,n,_,h1⟩:=(show Ź X.prog X.w H s.heap a (.gD ob (.lst xs)) from I.hok a _ ea)
  exact PySem.W.kia_one PySem.W.kitx_list I.iH ⟨_,h1,rfl⟩ e (λz=>nomatch z) h
 |@tup a xs ea=>
  cases(show u=Value.ref a from rx)
  obtain⟨_,_,_,p⟩:=(show Ź X.prog X.w H s.heap a (.tup xs) from I.hok a _ ea)
  obtain⟨o,h1,h2,_⟩:=p
  exact PySem.W.kia_one PySem.W.kitx_tuple I.iH ⟨o,h1,h2⟩ e (λz=>nomatch z) h
 |@dK a kvs ea=>
  cases(show u=Value.ref a from rx)
  obtain⟨_,_,vs,_,p⟩:=(show Ź X.prog X.w H s.heap a (.dK kvs) from I.hok a _ ea)
  obtain⟨o,es,ep,h1,h2,_⟩:=p
  exact PySem.W.kia_one PySem.W.kitx_dict I.iH ⟨o,h1,h2.1⟩ e (λz=>nomatch z) h
 |@dT a kvs ea=>
  cases(show u=Value.ref a from rx)
  obtain⟨_,_,xs,_,o,es,ep,h1,h2,_⟩:=(show Ź X.prog X.w H s.heap a (.dT kvs) from I.hok a _ ea)
  exact PySem.W.kia_one PySem.W.kitx_dict I.iH ⟨o,h1,h2.1⟩ e (λz=>nomatch z) h
 |@ins a C dx fs ea cl ha hn htk hm=>
  cases(show u=Value.ref a from rx)
  obtain⟨mA,O,_⟩:=q_ I.hok ea
  obtain⟨od,J,_⟩:=O.look
  exact PySem.W.kia_one (PySem.W.kitx_own (cl.get _) cl.hd ha hn htk hm) I.iH J e (λz=>nomatch z) h
end
end L2
namespace L2
open PySem PySem.Spec PyProof.Rows
structure aD(k:Nat)(A:Around):Prop where
 hd:A.handled=none
 dp:A.depth+3*k+5<recursionLimit
 un:A.units+16*k+200<cLine
def aD.mono{j k:Nat}{A:Around}(r:aD k A)(h:j<=k):aD j A:=⟨r.hd,by have:=r.dp;omega,by have:=r.un;omega⟩
def aD.mo{j k:Nat}{A:Around}(r:aD k A)(h:j<=k:= by decide):aD j A:= r.mono h
theorem aD.deeper{k:Nat}{A:Around}(r:aD (k+1) A)(env:Env):aD k (A.deeper env):=
 ⟨r.hd,by have:=r.dp;show A.depth+1+3*k+5<_;omega,by have:=r.un;show A.units+3+16*k+200<_;omega⟩
theorem aD.in1{k:Nat}{A:Around}(r:aD (k+1) A):aD k A.in1:=
 ⟨r.hd,by have:=r.dp;show A.depth+3*k+5<_;omega,by have:=r.un;show A.units+1+16*k+200<_;omega⟩
def CJ{A:Around}{C:Addr}{us:List Value}{kw:List (Str×Value)}:(A.under (.builtin "type.__call__" ⟨.ref C::us,kw⟩)).depth=A.depth+1:=by
 first|rfl|simp[Around.under,Code.weight,Code.isCreation,Code.isGuard,Code.isCaller,Code.frames,Code.isFrame,guardIds]
def CK{A:Around}{C:Addr}{us:List Value}{kw:List (Str×Value)}:(A.under (.builtin "type.__call__" ⟨.ref C::us,kw⟩)).units=A.units+1:=by
 first|rfl|simp[Around.under,Code.cUnits,Code.frames,Code.isFrame]
def aD.make{k:Nat}{A:Around}(r:aD (k+1) A)(C:Addr)(us:List Value)(kw:List (Str×Value)):aD k (A.under (.builtin "type.__call__" ⟨.ref C::us,kw⟩)):=
 ⟨r.hd,by have:=r.dp;rw[CJ];omega,by have:=r.un;rw[CK];omega⟩
theorem aD.depth{k:Nat}{A:Around}(r:aD k A):A.depth<recursionLimit:=by have:=r.dp;omega
theorem aD.units{k:Nat}{A:Around}(r:aD k A):A.units+64<cLine:=by have:=r.un;omega
def Zdu:TA:=λ_ H Q=>Q [] H
def Ub(ta:TE)(tr:TA):TA:=λσ H Q=>ta σ H λx H1=>tr σ H1 λxs H2=>Q (x::xs) H2
section
variable{X:Cx}{e:Expr}{es:List Expr}{te:TE}{t:TA}{pos:Pos}
def mY:PA X [] Zdu:=λ_ _ _ _ H Q I h=>Calls.spliced_nil ⟨[],H,I,.nil,h⟩
def dY(ha:PE X e te)(hr:PA X es t)(hs:starEach (e::es) X.env=(false,eval e X.env)::starEach es X.env:=by rfl):PA X (e::es) (Ub te t):=by
 intro pos pins s σ H Q I h
 rw[hs]
 show wpAny _ _ (spliced ((false,eval e X.env)::backTo pos (starEach es X.env))) _ _ s
 refine Calls.spliced_cons (Ŭ (ha pins s σ H _ I h) λu s1 ⟨x,H1,I1,r1,q1⟩=>?_)
 exact Ŭ (hr pos pins s1 σ H1 _ I1 q1) λus s2 ⟨xs,H2,I2,r2,q2⟩=>⟨x::xs,H2,I2,.cons r1 r2,q2⟩
def Zf8(t:TA):TE:=λσ H Q=>t σ H λxs H1=>xs.length<=sizeLine/\∀p,H1 p=none->Q (.ref p) (upd H1 p (.tup xs))
def Zf9(t:TA):TE:=λσ H Q=>t σ H λxs H1=>xs.length<=sizeLine/\∀p,H1 p=none->Q (.ref p) (upd H1 p (.lst xs))
def Za5{x1}(h:PA X es t):PE X (.Tuple es x1 pos) (Zf8 t):=by
 intro pins s σ H Q I hq
 refine wpAny_Tuple_spliced (Ŭ (h pos pins s σ H _ I hq) λus s1 ⟨xs,H1,I1,r,z,q⟩=>⟨by rw[<-r.length];exact z,?_⟩)
 have hf:H1 s1.heap.objs.size=none:=I1.hok.fresh (Nat.le_refl _)
 refine⟨.ref s1.heap.objs.size,upd H1 s1.heap.objs.size (.tup xs),I1.laid (t':=s1.toks) (λb u e=>Heap.get?_push_of_some _ e) (Nat.le_refl _) ?_,rfl,q _ hf⟩
 exact⟨z,us,r,⟨_,Heap.get?_push_size _ rfl,rfl,_,rfl⟩⟩
def Za6(h:PA X es t):PE X (.List es pos) (Zf9 t):=by
 intro pins s σ H Q I hq
 refine wpAny_List_spliced (Ŭ (h pos pins s σ H _ I hq) λus s1 ⟨xs,H1,I1,r,z,q⟩=>⟨by rw[<-r.length];exact z,?_⟩)
 have hf:H1 s1.heap.objs.size=none:=I1.hok.fresh (Nat.le_refl _)
 refine⟨.ref s1.heap.objs.size,upd H1 s1.heap.objs.size (.lst xs),I1.laid (t':=s1.toks) (λb u e=>Heap.get?_push_of_some _ e) (Nat.le_refl _) ?_,rfl,q _ hf⟩
 exact⟨z,us,0,r,Heap.get?_push_size _ rfl⟩
end
abbrev Sp:=List V->Hp->VK->XK->Prop
abbrev qj:=List Env->Hp->Shared->XK->Value->Shared->Prop
structure CN(P:Program)(w:World)(K:PySem.W.Frag)(mg:Str->Option Value)(base:Heap)(A:Around)(outer:List Env)(s:Shared)(H:Hp):Prop where
 frames:A.frames=some outer
 mod:Mod K mg base
 bs:∀b o,base.get? b=some o->s.heap.get? b=some o/\H b=none
 Gp:base.objs.size<=s.heap.objs.size
 lV:s.heap.FunFrames base outer
 Ka:∀b∈frs outer,H b=none
 hok:gK P w H s.heap
 bare:AllBare s.gens
 tb:TabsOk K mg base H
def CE(outer:List Env)(P:Program)(w:World)(H:Hp)(s:Shared)(Q:VK)(u:Value)(s':Shared):Prop:=
 ∃v H',s'.os=s.os/\AllBare s'.gens/\Un (frs outer) [] H H' s.heap s'.heap/\gK P w H' s'.heap/\RelV v u/\Q v H'
def CR(CX:qj)(outer:List Env)(P:Program)(w:World)(H:Hp)(s:Shared)(Q:VK)(E:XK)(r:Result)(s':Shared):Prop:=
 match r with
 | .ok (.ret u)=>CE outer P w H s Q u s'
 | .ok _=>False
 | .error e=>CX outer H s E e s'
structure ī(P:Program)(w:World)(K:PySem.W.Frag)(mg:Str->Option Value)(base:Heap)(CX:qj)(k:Nat)(f:Addr)(fd:FuncData)(ps:List Str)(sp:Sp):Prop where
 len:∀vs H Q E,sp vs H Q E->vs.length=ps.length
 run:∀(A:Around) (outer:List Env) (s:Shared) (H:Hp) (args:Args) (us:List Value) (vs:List V) (Q:VK) (E:XK),aD k A->CN P w K mg base A outer s H->BindsTo s fd args (ps.zip us)->Vals vs us->sp vs H Q E->
  codeAny (model P w) A (.call (.ref f) args) (CR CX outer P w H s Q E) s
theorem ī.mono{P:Program}{w:World}{K:PySem.W.Frag}{mg:Str->Option Value}{base:Heap}{CX:qj}{j k:Nat}{f:Addr}{fd:FuncData}{ps:List Str}{sp:Sp}(F:ī P w K mg base CX j f fd ps sp)(h:j<=k) :
 ī P w K mg base CX k f fd ps sp:=⟨F.len,λA outer s H args us vs Q E hr=>F.run A outer s H args us vs Q E (hr.mono h)⟩
def ī.imp{P:Program}{w:World}{K:PySem.W.Frag}{mg:Str->Option Value}{base:Heap}{CX:qj}{k:Nat}{f:Addr}{fd:FuncData}{ps:List Str}{sp sp':Sp}(F:ī P w K mg base CX k f fd ps sp)
 (h:∀vs H Q E,sp' vs H Q E->sp vs H Q E):ī P w K mg base CX k f fd ps sp':=
 ⟨λvs H Q E q=>F.len vs H Q E (h _ _ _ _ q),λA outer s H args us vs Q E hr he hb hv hs=>F.run A outer s H args us vs Q E hr he hb hv (h _ _ _ _ hs)⟩
def CN.make{P:Program}{w:World}{K:PySem.W.Frag}{mg:Str->Option Value}{base:Heap}{A:Around}{outer:List Env}{s:Shared}{H:Hp}(e:CN P w K mg base A outer s H)(C:Addr)(us:List Value)(kw:List (Str×Value)) :
 CN P w K mg base (A.under (.builtin "type.__call__" ⟨.ref C::us,kw⟩)) outer s H:=⟨by first|exact e.frames|(simpa[Around.under,Code.envs,Code.isFrame,pushEnvs] using e.frames),e.mod,e.bs,e.Gp,e.lV,e.Ka,e.hok,e.bare,e.tb⟩
section
variable{X:Cx}{pins:List (Addr×Obj)}{σ:St}{H:Hp}{s s':Shared}
def Inv.env0(I:Inv X pins σ H s):CN X.prog X.w X.K X.mg X.base X.A X.stack s H:=
 ⟨I.ok.frames,I.ok.mod,I.bs,Nat.le_trans I.ok.Gp I.sz,I.stack,I.qZ,I.hok,I.bare,I.tb⟩
def Inv.after{Q:VK}{u:Value}(I:Inv X pins σ H s)(h:CE X.stack X.prog X.w H s Q u s'):EP X pins σ Q u s':=by
 obtain⟨v,H',os,bare,un,hok,r,q⟩:=h
 obtain⟨hh,g,d,t,os'⟩:=s'
 obtain rfl:os'=s.os:=os
 exact⟨v,H',I.call (h':=hh) (g':=g) (d':=d) (t':=t) (ch:=[]) un hok bare (λb z=>absurd z (by simp)),r,q⟩
end
def Binds(K:PySem.W.Frag)(fd:FuncData)(ps:List Str)(ds:List Value):Prop:=
 ∀(s:Shared) (us:List Value),K.In s.heap->(us++ds).length=ps.length->BindsTo s fd ⟨us,[]⟩ (ps.zip (us++ds))
def Binds.all{K:PySem.W.Frag}{fd:FuncData}{ps:List Str}(h:∀us:List Value,us.length=ps.length->bindArgs fd ⟨us,[]⟩=pure (ps.zip us)):Binds K fd ps []:=λs us _ hl=>by
 rw[List.append_nil] at hl ⊢
 exact .of_eq (h us hl)
section
variable{X:Cx}{CX:qj}{k:Nat}{f C:Addr}{fd:FuncData}{ps:List Str}{sp:Sp}{dvs:List V}{ds:List Value}{E:XK}{x m:Str}{p pos apos:Pos}{e o:Expr}{es:List Expr}{ta:TE}{t:TA}
structure Mk(K:PySem.W.Frag)(C f:Addr):Prop where
 makes:PySem.W.makesIn K C=true
 init:PySem.W.findIn K (.ref C) "__init__" =some (some (.ref f))
 fn:PySem.W.isFn K (.ref f)=true
 kp:PySem.W.keepIn K (.ref C)=true
end
section
variable{X:Cx}{CX:qj}{k:Nat}{f C:Addr}{fd:FuncData}{ps ks:List Str}{sp:Sp}{E:XK}{x m:Str}{p pos apos kpos:Pos}{e o:Expr}{es:List Expr}{kws:List Keyword}{te ta:TE}{t tk:TA}{nm:Option Str}
variable{g:List Value->List Value->List Value}{gV:List V->List V->List V}
end
structure Ė(N P:List Str)(sc:Scope):Prop where
 kind:sc.kind=.function
 co:sc.isCoroutine=false
 gen:sc.isGenerator=false
 nd:N.Nodup
 pre:N.take P.length=P
 par:∀x∈P,sc.names.lookup x=some .local\/sc.names.lookup x=some .cell
 Za7:∀y∈sc.names,y.2≠ .free
theorem uX{kindOf:Str->Option NameKind}{x:Str}:∀{binds:List (Str×Value)} {m:Str->Option Value},(∀v,(x,v)∉binds)->bindL kindOf binds m x=m x
 | [],_,_=>rfl
 |(n,v)::r,m,h=>by
  unfold bindL
  rw[uX λw hw=>h w (List.mem_cons_of_mem _ hw)]
  split
  ·have:x≠n:=by rintro rfl;exact h v List.mem_cons_self
   simp[this]
  ·rfl
theorem uY{kindOf:Str->Option NameKind}{x:Str}:∀{binds:List (Str×Value)} {m:Str->Option Value},(∀v,(x,v)∉binds)->bindC kindOf binds m x=m x
 | [],_,_=>rfl
 |(n,v)::r,m,h=>by
  unfold bindC
  rw[uY λw hw=>h w (List.mem_cons_of_mem _ hw)]
  split
  ·rfl
  ·have:x≠n:=by rintro rfl;exact h v List.mem_cons_self
   simp[this]
theorem uZ{kindOf:Str->Option NameKind}{x:Str}{v:Value}:∀{P:List Str} {vs:List Value} {i:Nat} {m:Str->Option Value},P.Nodup->P[i]?=some x->vs[i]?=some v->kindOf x=some .local->
 bindL kindOf (P.zip vs) m x=some v
 | [],_,_,_,_,h,_,_=>by simp at h
 |_::_,[],_,_,_,_,h,_=>by simp at h
 |p::P,w::vs,0,m,nd,h1,h2,hk=>by
  simp at h1 h2;subst h1;subst h2
  show bindL kindOf ((p,w)::P.zip vs) m p=_
  unfold bindL
  rw[uX λv hv=>(List.nodup_cons.mp nd).1 (List.of_mem_zip hv).1,if_pos hk]
  simp
 |p::P,w::vs,i+1,m,nd,h1,h2,hk=>by
  show bindL kindOf ((p,w)::P.zip vs) m x=_
  unfold bindL
  exact uZ (i:=i) (List.nodup_cons.mp nd).2 (by simpa using h1) (by simpa using h2) hk
theorem u_{kindOf:Str->Option NameKind}{x:Str}{v:Value}:∀{P:List Str} {vs:List Value} {i:Nat} {m:Str->Option Value},P.Nodup->P[i]?=some x->vs[i]?=some v->kindOf x≠some .local->
 bindC kindOf (P.zip vs) m x=some v
 | [],_,_,_,_,h,_,_=>by simp at h
 |_::_,[],_,_,_,_,h,_=>by simp at h
 |p::P,w::vs,0,m,nd,h1,h2,hk=>by
  simp at h1 h2;subst h1;subst h2
  show bindC kindOf ((p,w)::P.zip vs) m p=_
  unfold bindC
  rw[uY λv hv=>(List.nodup_cons.mp nd).1 (List.of_mem_zip hv).1,if_neg hk]
  simp
 |p::P,w::vs,i+1,m,nd,h1,h2,hk=>by
  show bindC kindOf ((p,w)::P.zip vs) m x=_
  unfold bindC
  exact u_ (i:=i) (List.nodup_cons.mp nd).2 (by simpa using h1) (by simpa using h2) hk
def start(N:List Str)(vs:List V):St:=vs.map some++List.replicate (N.length-vs.length) none
def cQ(CX:qj)(P:Program)(w:World)(K:PySem.W.Frag)(mg:Str->Option Value)(base:Heap)(N:List Str)(qual:Str)(scope:Scope)(f:Addr)(cd:Value)(A:Around)(outer:List Env)(s:Shared)(H:Hp)(E:XK):Cx where
 prog:=P
 w:=w
 K:=K
 mg:=mg
 base:=base
 A:=A.deeper (envOfC qual scope s.heap.objs.size f cd)
 N:=N
 s₀:= s
 H₀:= H
 env:=envOfC qual scope s.heap.objs.size f cd
 outer:=outer
 stack:=envOfC qual scope s.heap.objs.size f cd::outer
 ex:=[]
 calm:=true
 fn:=λ_=>true
 pn:=[]
 xe:=λe s'=>wpAny (model P w) (A.deeper (envOfC qual scope s.heap.objs.size f cd)) (leaving (envOfC qual scope s.heap.objs.size f cd) e) (λ_ s''=>CX outer H s E e s'') (λe' s''=>CX outer H s E e' s'') s'
def nO{sc:Scope}{n:Nat}{x:Str}(h:sc.names.lookup x=some .cell):∃c,(cellsFrom n sc.names []).lookup x=some c:=by
 have q:=PySem.W.cellsFrom_some sc.names n [] (.inl h)
 exact Option.isSome_iff_exists.mp q
def Jj{CX:qj}{P:Program}{w:World}{K:PySem.W.Frag}{mg:Str->Option Value}{base:Heap}{N ps:List Str}{qual:Str}{scope:Scope}{f:Addr}{cd:Value}{A:Around}{outer:List Env}{s s1:Shared}{H:Hp}{E:XK}{us:List Value}{vs:List V}
 (S:Ė N ps scope)(hd:A.handled=none)(e0:CN P w K mg base A outer s H)(hl:vs.length=ps.length)(r:Vals vs us)
 (x:InCallC s s.heap.objs.size (bindL (envOfC qual scope s.heap.objs.size f cd).kindOf (ps.zip us) λ_=>none) (cellsFrom (s.heap.objs.size+1) scope.names []) (bindC (envOfC qual scope s.heap.objs.size f cd).kindOf (ps.zip us) λ_=>none) s1) :
 Inv (cQ CX P w K mg base N qual scope f cd A outer s H E) [] (start N vs) H s1:=by
 have hpl:ps.length<=N.length:=by have:=congrArg List.length S.pre;rw[List.length_take] at this;omega
 obtain⟨h1,tk,rfl,hk⟩:=x.done
 have noA:∀b:Addr,b∉(cQ CX P w K mg base N qual scope f cd A outer s H E).ex:=λb z=>absurd (show b∈([]:List Addr) from z) (by simp)
 refine⟨⟨e0.mod,S.kind,rfl,rfl,Nat.le_refl _,λy z c h1 h2=>?_,λy hy=>?_,λy c _ h=>?_,λ_=>hd,Around.frames_deeper e0.frames,.inr ⟨rfl,rfl⟩,λb z=>absurd z (noA b),e0.bs,e0.Gp,λb _ _=>noA b,λb z=>absurd z (noA b),e0.lV,e0.Ka,e0.tb⟩,
  rfl,e0.bare,Un.kept hk,⟨_,x.toInCall.ns,λi y v h1 h2 h3=>?_⟩,λy c h=>⟨_,x.cell y c h⟩,e0.hok.fresh (Nat.le_refl _),λy c h=>?_,λp hp=>absurd (show p∈([]:List (Addr×Obj)) from hp) (by simp),e0.hok.kept hk,?_⟩
 ·exact name_of_addr x.apart (PySem.mem_of_lookup h1) (PySem.mem_of_lookup h2)
 ·have hy:scope.names.lookup y=some .cell\/scope.names.lookup y=some .free:=hy
  rcases hy with hy|hy
  ·exact nO hy
  ·exact absurd rfl (S.Za7 _ (PySem.mem_of_lookup hy))
 ·exact Nat.le_of_lt (x.above y c (PySem.mem_of_lookup h))
 ·have hi:i<vs.length:=by
   unfold start at h2
   by_cases hi:i<vs.length
   ·exact hi
   ·rw[List.getElem?_append_right (by simpa using hi)] at h2
    rw[List.getElem?_replicate] at h2
    split at h2<;>cases h2
  have ha:vs[i]?=some v:=by
   unfold start at h2
   rw[List.getElem?_append_left (by simpa using hi),List.getElem?_map] at h2
   cases e:vs[i]? with
   |none=>rw[e] at h2;cases h2
   |some a=>rw[e] at h2;cases h2;rfl
  obtain⟨u,hu,rv⟩:=r.get ha
  have hp:ps[i]?=some y:=by
   rw[<-S.pre,List.getElem?_take_of_lt (by omega)];exact h1
  have ndP:ps.Nodup:=by rw[<-S.pre];exact S.nd.sublist (List.take_sublist _ _)
  refine⟨u,rv,?_⟩
  rcases S.par y (List.mem_of_getElem? hp) with k|k
  ·exact .inl ⟨k,uZ ndP hp hu k⟩
  ·obtain⟨c,e⟩:=nO (n:=s.heap.objs.size+1) k
   refine .inr ⟨.inl k,c,e,?_⟩
   have q:=x.cell y c e
   rw[u_ ndP hp hu (by show scope.names.lookup y≠_;rw[k];decide)] at q
   exact q
 ·exact e0.hok.fresh (Nat.le_of_lt (x.above y c (PySem.mem_of_lookup h)))
 ·unfold start
  show _=N.length
  rw[List.length_append,List.length_map,List.length_replicate]
  omega
def zX{CX:qj}{P:Program}{w:World}{K:PySem.W.Frag}{mg:Str->Option Value}{base:Heap}{k:Nat}{f:Addr}{name qual:Str}{params:Arguments}{body:List Stmt}{scope:Scope}{dV kV doc pm cdv ct oc:Value}{an od:Option Addr}
 {osl:Array (Option Value)}{N ps:List Str}{sp:Sp}(lk:K.lookup f=some ⟨oc,od,.func (PySem.W.fnOf name qual params body scope dV kV doc pm an cdv ct),osl⟩)(hcd:PySem.W.codeIn K cdv qual=true)(S:Ė N ps scope)
 (len:∀vs H Q E,sp vs H Q E->vs.length=ps.length)
 (hbody:∀(A:Around) (outer:List Env) (s:Shared) (H:Hp) (vs:List V) (Q:VK) (E:XK),aD k (A.deeper (envOfC qual scope s.heap.objs.size f cdv))→sp vs H Q E→
   ∃t,lW (cQ CX P w K mg base N qual scope f cdv A outer s H E) body t/\t {nx:=λ_ H'=>Q .non H',rt:=Q} (start N vs) H) :
 ī P w K mg base CX (k+1) f (PySem.W.fnOf name qual params body scope dV kV doc pm an cdv ct) ps sp:=by
 refine⟨len,λA outer s H args us vs Q E hr e0 hb r hsp=>?_⟩
 have hl:=len _ _ _ _ hsp
 have KX:K.In s.heap:=e0.mod.kin.keeps λb o e=>(e0.bs b o e).1
 have lim:s.heap.NoLimit:=e0.mod.nolimit.keeps λb o e=>(e0.bs b o e).1
 have hkind:∀y∈ps.zip us,scope.names.lookup y.1=some .local\/(scope.names.lookup y.1=some .cell/\((cellsFrom (s.heap.objs.size+1) scope.names []).lookup y.1).isSome=true):=λ⟨n,v⟩ hy=>by
  rcases S.par n (List.of_mem_zip hy).1 with q|q
  ·exact .inl q
  ·exact .inr ⟨q,PySem.W.cellsFrom_some _ _ _ (.inl q)⟩
 refine codeAny_call_function hr.depth (KX _ _ lk) rfl S.co S.gen rfl (PySem.W.codeRec_of KX hcd) (hb _ _ _ _ ?_)
 refine wpAny_newFunctionEnv_cells S.kind hkind λenv he s1 x=>?_
 subst he
 refine⟨lim.keeps x.toInCall.keep,codeAny_func ?_⟩
 obtain⟨t,ht,hq⟩:=hbody A outer s H vs Q E (hr.deeper _) hsp
 have I:Inv (cQ CX P w K mg base N qual scope f cdv A outer s H E) [] (start N vs) H s1:=Jj S hr.hd e0 hl r x
 refine wpAny_mono (ht [] s1 (start N vs) H _ I hq) (λfl s' hs=>?_) λe s' hs=>hs
 have fin:∀{σ':St} {H':Hp} {v:V} {u:Value},Inv (cQ CX P w K mg base N qual scope f cdv A outer s H E) [] σ' H' s'->RelV v u->Q v H'->CE outer P w H s Q u s':=
  fun{σ' H' v u} J rv q=>⟨v,H',J.os,J.bare,J.base,J.hok,rv,q⟩
 cases fl with
 |ret u=>
  obtain⟨v,σ',H',J,rv,q⟩:=hs
  exact fin J rv q
 |next=>
  obtain⟨σ',H',J,q⟩:=hs
  exact fin (v:=V.non) (u:=Value.none) J rfl q
 |brk=>
  obtain⟨_,_,_,q⟩:=hs
  exact False.elim q
 |cont=>
  obtain⟨_,_,_,q⟩:=hs
  exact False.elim q
end L2
namespace L2
open PySem PySem.Spec PyProof.Rows
section
variable{X:Cx}{x:Str}{p pos:Pos}{e:Expr}{es:List Expr}{t:TA}{id T:String}{r:List V->Hp->VK->Prop}
def tCB(r:List V->Hp->VK->Prop)(t:TA):TE:=λσ H Q=>t σ H λvs H1=>r vs H1 Q
def ĩ(hc:ž X (.builtin id) r)(hg:Gl X x)(hm:X.mg x=none)(hv:bootBuiltins x=some (.builtin id))(ha:PA X (e::es) t)(hn:x≠ "__name__" := by decide)(hdb:(x== ("__debug__" :Str))=false:=by decide)
 (he:starEach (e::es) X.env=(false,eval e X.env)::starEach es X.env:=by rfl)(hpl:(backTo pos (starEach es X.env)).any (·.1)=false:=by rfl):PE X (.Call (.Name x p) (e::es) [] pos) (tCB r t):=by
 intro pins s σ H Q I h
 refine wpAny_Call_Name_kw (mX I hg hm hv ?_ hn hdb)
 exact PyProof.Rows.callWith_builtin1 (Ŭ (ha pos pins s σ H _ I h) λus s1 ⟨vs,H1,I1,r1,q1⟩=>hc pins s1 σ H1 vs us Q I1 r1 q1) he hpl
def ſ(hc:ž X (.type T) r)(hg:Gl X x)(hm:X.mg x=none)(hv:bootBuiltins x=some (.type T))(ha:PA X (e::es) t)(hn:x≠ "__name__" := by decide)(hdb:(x== ("__debug__" :Str))=false:=by decide)
 (he:starEach (e::es) X.env=(false,eval e X.env)::starEach es X.env:=by rfl)(hpl:(backTo pos (starEach es X.env)).any (·.1)=false:=by rfl):PE X (.Call (.Name x p) (e::es) [] pos) (tCB r t):=by
 intro pins s σ H Q I h
 refine wpAny_Call_Name_kw (mX I hg hm hv ?_ hn hdb)
 exact PyProof.Rows.callWith_type1 (Ŭ (ha pos pins s σ H _ I h) λus s1 ⟨vs,H1,I1,r1,q1⟩=>hc pins s1 σ H1 vs us Q I1 r1 q1) he hpl
end
end L2
namespace HT
open PySem PyProof.Rows
section
open PySem.SeqAt
open PySem.AutoSeq1 (wpAny_loadPart')
open PySem.MeetsSeq PySem.MeetsSeq2 PySem.MeetsSeq3
end
section
variable{prog:Program}{w:World}{A:Around}{E:Value->Shared->Prop}{s:Shared}
def jD(n d:Nat):Option Int->Nat
 |none=>d
 |some v=>if v<0 then(v+(n:Int)).toNat else min v.toNat n
def lE(n d k:Nat):jD n d (some (k:Int))=min k n:=by
 show(if(k:Int)<0 then((k:Int)+(n:Int)).toNat else min (k:Int).toNat n)=min k n
 rw[if_neg (by omega),Int.toNat_natCast]
def Ku(n d:Nat)(hd:d<=n)(o:Option Int):jD n d o<=n:=by
 cases o with
 |none=>exact hd
 |some v=>
  show(if v<0 then(v+(n:Int)).toNat else min v.toNat n)<=n
  by_cases hv:v<0
  ·rw[if_pos hv];omega
  ·rw[if_neg hv];exact Nat.min_le_right _ _
end
end HT
namespace L2
open PySem PySem.Spec PyProof.Rows
abbrev TO:=St->Hp->(Option Int->Hp->Prop)->Prop
def PO(X:Cx)(e:Option Expr)(t:TO):Prop:=
 ∀(pins:List (Addr×Obj)) (s:Shared) (σ:St) (H:Hp) (Q:Option Int->Hp->Prop),Inv X pins σ H s->t σ H Q->
  wpAny (model X.prog X.w) X.A (evalPart e X.env) (λu s'=>∃o H',Inv X pins σ H' s'/\IsPart u o/\Q o H') X.xe s
def Q_:TO:=λ_ H Q=>Q none H
section
variable{X:Cx}{e:Expr}{te:TE}{lo hi:Option Expr}{tl th:TO}{pos p2:Pos}
def Ra:PO X none Q_:=by
 intro pins s σ H Q I h
 rw[evalPart_none]
 exact wpAny_pure ⟨none,H,I,.none,h⟩
def Gx(X:Cx)(r:V->Option Int->Option Int->Hp->VK->Prop):Prop:=
 ∀(pins:List (Addr×Obj)) (s:Shared) (σ:St) (H:Hp) (x:V) (v vl vu:Value) (lo hi:Option Int) (sl:Addr) (Q:VK),Inv X pins σ H s->RelV x v->s.heap.IsSliceOf sl vl vu .none->IsPart vl lo->IsPart vu hi->r x lo hi H Q->
  ∃T id,typeLookup (.type T) "__getitem__" =pure (some (.builtin id))/\s.TypeIs v T/\wpAny (model X.prog X.w) X.A (getItem v (.ref sl)) (EP X pins σ Q) X.xe s
def Gx.or{r r':V->Option Int->Option Int->Hp->VK->Prop}(h:Gx X r)(h':Gx X r'):Gx X (λx lo hi H Q=>r x lo hi H Q\/r' x lo hi H Q):=by
 intro pins s σ H x v vl vu lo hi sl Q I rx hs pl pu q
 rcases q with q|q
 ·exact h pins s σ H x v vl vu lo hi sl Q I rx hs pl pu q
 ·exact h' pins s σ H x v vl vu lo hi sl Q I rx hs pl pu q
def tSl(r:V->Option Int->Option Int->Hp->VK->Prop)(te:TE)(tl th:TO):TE:=λσ H Q=>te σ H λx H1=>tl σ H1 λl H2=>th σ H2 λu H3=>r x l u H3 Q
def Kv{r:V->Option Int->Option Int->Hp->VK->Prop}(hr:Gx X r)(he:PE X e te)(hl:PO X lo tl)(hu:PO X hi th):PE X (.Subscript e (.Slice lo hi none p2) pos) (tSl r te tl th):=by
 intro pins s σ H Q I h
 refine Subscript_ (Ŭ (he pins s σ H _ I h) λv s1 ⟨x,H1,I1,r1,q1⟩=>?_)
 refine wpAny_Slice (Ŭ (hl pins s1 σ H1 _ I1 q1) λvl s2 ⟨l,H2,I2,pl,q2⟩=>Ŭ (hu pins s2 σ H2 _ I2 q2) λvu s3 ⟨u,H3,I3,pu,q3⟩=>?_)
 rw[evalPart_none]
 refine wpAny_pure ?_
 have I4:Inv X pins σ H3 {s3 with heap:=s3.heap.push {cls:=.type "slice",data:=.fields #[vl,vu,.none]}}:=I3.kept (t':=s3.toks) λb ob q=>Heap.get?_push_of_some _ q
 obtain⟨T,id,hT,ht,hg⟩:=hr pins {s3 with heap:=s3.heap.push {cls:=.type "slice",data:=.fields #[vl,vu,.none]}} σ H3 x v vl vu l u s3.heap.objs.size Q I4 r1 (Heap.IsSliceOf.new ..) pl pu q3
 show wpAny (model X.prog X.w) X.A (subscriptTail e (.Slice lo hi none p2) v (.ref s3.heap.objs.size)) (EP X pins σ Q) X.xe {s3 with heap:=s3.heap.push {cls:=.type "slice",data:=.fields #[vl,vu,.none]}}
 exact tail_any (ops:=[.ref s3.heap.objs.size,v]) ht hT hg (by with_unfolding_all rfl)
def zY(xs:List V)(lo hi:Option Int):List V:=(xs.drop (HT.jD xs.length 0 lo)).take (HT.jD xs.length xs.length hi-HT.jD xs.length 0 lo)
def zZ(xs:List V)(lo hi:Option Int):(zY xs lo hi).length<=xs.length:=by
 unfold zY
 rw[List.length_take,List.length_drop]
 omega
end
end L2
namespace L2
open PySem PySem.Spec PyProof.Rows
def z_(n:Nat)(i:Int):Option Nat:=if 0<=i then(if i<n then some i.toNat else none) else if -(n:Int)<=i then some (i+n).toNat else none
def uM{α:Type}(xs:List α)(i:Int):Option α:= (z_ xs.length i).bind λj=>xs[j]?
def Gy{n:Nat}{i:Int}{j:Nat}(h:z_ n i=some j):seqIndex? i n=some j/\j<n/\ -(n:Int)<=i/\i<n:=by
 unfold z_ at h
 by_cases h0:0<=i
 ·rw[if_pos h0] at h
  by_cases h1:i<n
  ·rw[if_pos h1] at h
   have e:i.toNat=j:=Option.some.inj h
   exact⟨by rw[seqIndex_of h0 h1,e],by omega,by omega,h1⟩
  ·rw[if_neg h1] at h;cases h
 ·rw[if_neg h0] at h
  by_cases h1: -(n:Int)<=i
  ·rw[if_pos h1] at h
   have e:(i+n).toNat=j:=Option.some.inj h
   exact⟨by rw[seqIndex_neg (by omega) h1,e],by omega,h1,by omega⟩
  ·rw[if_neg h1] at h;cases h
def wI{α:Type}{xs:List α}{i:Int}{v:α}(h:uM xs i=some v):∃j,seqIndex? i xs.length=some j/\xs[j]?=some v/\j<xs.length/\ -(xs.length:Int)<=i/\i<xs.length:=by
 unfold uM at h
 cases e:z_ xs.length i with
 |none=>rw[e] at h;cases h
 |some j=>
  rw[e] at h
  obtain⟨h1,h2,h3,h4⟩:=Gy e
  exact⟨j,h1,h,h2,h3,h4⟩
def Gz(b:Expr):Prop:=∀o i,subscripted b false o i=operate [o,i] (getItem o i)
def CP(X:Cx)(r:R2):Prop:=
 ∀(value slice:Expr) (pins:List (Addr×Obj)) (s:Shared) (σ:St) (H:Hp) (x y:V) (v u:Value) (Q:VK),Inv X pins σ H s->RelV x v->RelV y u->r x y H Q->
  subscripted slice false v u=operate [v,u] (getItem v u)->wpAny (model X.prog X.w) X.A (subscriptTail value slice v u) (EP X pins σ Q) X.xe s
def MtR(X:Cx)(id:String)(r:V->List V->Hp->VK->Prop):Prop:=
 ∀(pins:List (Addr×Obj)) (s:Shared) (σ:St) (H:Hp) (x:V) (xs:List V) (v:Value) (us:List Value) (Q:VK),Inv X pins σ H s->RelV x v->Vals xs us->r x xs H Q->
  wpAny (model X.prog X.w) X.A (call (.builtin id) (v::us)) (EP X pins σ Q) X.xe s
section
variable{X:Cx}{a b:Expr}{ta tb:TE}{pos:Pos}
def CP.or{r r':R2}(h:CP X r)(h':CP X r'):CP X (λx y H Q=>r x y H Q\/r' x y H Q):=by
 intro value slice pins s σ H x y v u Q I rx ry q hs
 rcases q with q|q
 ·exact h value slice pins s σ H x y v u Q I rx ry q hs
 ·exact h' value slice pins s σ H x y v u Q I rx ry q hs
def Zdv{r:R2}(hr:CP X r)(ha:PE X a ta)(hb:PE X b tb)(hs:Gz b):PE X (.Subscript a b pos) (tOp r ta tb):=by
 intro pins s σ H Q I h
 exact Subscript_ (ZaS ha hb I h λv u s2 x y H2 I2 rx ry q=>hr a b pins s2 σ H2 x y v u Q I2 rx ry q (hs _ _))
def Zdw(K:PySem.W.Frag):R2:=λx y H Q=>∃p xs i v,x=.ref p/\y=.int i/\aQ K H p xs/\uM xs i=some v/\Q v H
def Zdx(K:PySem.W.Frag):R2:=λx y H Q=>∃p xs i v,x=.ref p/\y=.int i/\gG K H p xs/\uM xs i=some v/\Q v H
def Zdy:R2:=λx y H Q=>∃z i c,x=.str z/\y=.int i/\z.length<=sizeLine/\uM z.cps.toList i=some c/\Q (.str ⟨#[c]⟩) H
def Rb:CP X (Zdw X.K):=by
 intro value slice pins s σ H x y v u Q I rx ry h hs
 obtain⟨p,xs,i,z,rfl,rfl,hq,he,q⟩:=h
 cases rx
 obtain⟨t,rfl⟩:=ry
 obtain⟨its,r,pl,hz⟩:=I.list hq
 obtain⟨j,h1,h2,h3,h4,h5⟩:=wI he
 obtain⟨w,ew,rw'⟩:=r.get h2
 have hl:=r.length
 have hn:=oX
 have fin:EP X pins σ Q w s:=⟨z,H,I,rw',q⟩
 by_cases h0:0<=i
 ·have hj:i.toNat=j:=by
   rw[seqIndex_of h0 h5] at h1
   exact Option.some.inj h1
  exact item_listR pl.isList h0 (by omega) (by rw[hj];simpa using ew) fin hs
 ·have hj:(i+(its.toArray.size:Int)).toNat=j:=by
   rw[seqIndex_neg (by omega) h4] at h1
   rw[List.size_toArray,<-hl]
   exact Option.some.inj h1
  exact subscriptTail_builtinR (x:=w) pl.isList.typeIs slot_list_getitem.lookup
   (wpAny_getItem_list_neg (Q:=λr s'=>r=w/\EP X pins σ Q r s') pl.isList (by omega) (by rw[List.size_toArray]<;>omega) (by omega) (by rw[hj];simpa using ew) ⟨rfl,fin⟩) hs
def Za8:CP X (Zdx X.K):=by
 intro value slice pins s σ H x y v u Q I rx ry h hs
 obtain⟨p,xs,i,z,rfl,rfl,hq,he,q⟩:=h
 cases rx
 obtain⟨t,rfl⟩:=ry
 obtain⟨its,r,pl,hz⟩:=I.tuple hq
 obtain⟨j,h1,h2,h3,h4,h5⟩:=wI he
 obtain⟨w,ew,rw'⟩:=r.get h2
 have hl:=r.length
 have hn:=oX
 have fin:EP X pins σ Q w s:=⟨z,H,I,rw',q⟩
 exact subscriptTail_builtinR (x:=w) pl.typeIs slot_tuple_getitem.lookup
  (getItem_tuple (j:=j) (Q:=λr s'=>r=w/\EP X pins σ Q r s') pl (by omega) (by omega) (by rw[List.size_toArray,<-hl];exact h1) (by simpa using ew) ⟨rfl,fin⟩) hs
def Za9:CP X Zdy:=by
 intro value slice pins s σ H x y v u Q I rx ry h hs
 obtain⟨z,i,c,rfl,rfl,hz,he,q⟩:=h
 obtain⟨t,rfl⟩:=rx
 obtain⟨t',rfl⟩:=ry
 obtain⟨j,h1,h2,h3,h4,h5⟩:=wI he
 have hl:z.cps.toList.length=z.length:=by simp[Str.length]
 rw[hl] at h1 h4 h5
 have hn:=oX
 exact tail_any (typeIs_str s z t) slot_str_getitem.lookup (getItem_str (c:=c) (by
  have e1:decide (i < -(2 ^ 63:Int))=false:=decide_eq_false (by omega)
  have e2:decide (i >= 2 ^ 63)=false:=decide_eq_false (by omega)
  rw[e1,e2,Bool.or_false]) (by rw[h1];simpa using h2) ⟨.str ⟨#[c]⟩,H,I.tok _,⟨_,rfl⟩,q⟩) hs
def rIx(K:PySem.W.Frag):R2:=λx y H Q=>Zdw K x y H Q\/Zdx K x y H Q\/Zdy x y H Q
def Za_:CP X (rIx X.K):=Rb.or (Za8.or Za9)
def CQ(its:List Value)(n j:Nat)(u:Value):Obj.mapSeq (·.setIfInBounds j u) {cls:=.type "list",data:=.seq its.toArray n}= {cls:=.type "list",data:=.seq (its.set j u).toArray n}:=by
 simp[Obj.mapSeq]
theorem Inv.lst{pins:List (Addr×Obj)}{σ:St}{H:Hp}{s:Shared}{p:Addr}{xs:List V}(I:Inv X pins σ H s)(h:H p=some (.lst xs)) :
 ∃(its:List Value) (n:Nat),Vals xs its/\s.heap.get? p=some {cls:=.type "list",data:=.seq its.toArray n}/\xs.length<=sizeLine:=by
 obtain⟨z,its,n,r,e⟩:=I.hok p _ h
 exact⟨its,n,r,e,z⟩
def Inv.Zba{pins:List (Addr×Obj)}{σ:St}{H:Hp}{s:Shared}{p:Addr}{xs ys:List V}{its its':List Value}{n n':Nat}{f:Obj->Obj}(I:Inv X pins σ H s)(h:H p=some (.lst xs))
 (ho:s.heap.get? p=some {cls:=.type "list",data:=.seq its.toArray n})(hf:f {cls:=.type "list",data:=.seq its.toArray n}= {cls:=.type "list",data:=.seq its'.toArray n'})(r:Vals ys its')(hz:ys.length<=sizeLine)(t:Nat) :
 Inv X pins σ (upd H p (.lst ys)) {s with heap:=s.heap.update p f,toks:=t}:=by
 have e:(s.heap.update p f).get? p=some {cls:=.type "list",data:=.seq its'.toArray n'}:=by
  rw[Heap.get?_update_self f ho (by rw[hf]<;>rfl),hf]
 refine I.write (x:=p) (e:=p) (by rw[h];trivial) (.inl rfl) (λb u hb q=>(Heap.get?_update_other _ _ (Ne.symm hb)).trans q) ⟨_,e⟩ ?_
 exact⟨hz,its',n',r,e⟩
def Zdz:V->V->V->Hp->(Hp->Prop)->Prop:=λo i v H Q=>∃p xs k j,o=.ref p/\i=.int k/\H p=some (.lst xs)/\z_ xs.length k=some j/\Q (upd H p (.lst (xs.set j v)))
def set_list:Zdl X Zdz:=by
 intro pins s σ H o i v ov iv u Q I ro ri rv h
 obtain⟨p,xs,k,j,rfl,rfl,hp,hj,q⟩:=h
 cases ro
 obtain⟨t,rfl⟩:=ri
 obtain⟨its,n,r,ho,hz⟩:=I.lst hp
 obtain⟨h1,h2,h3,h4⟩:=Gy hj
 have hl:=r.length
 have hn:=oX
 have I':Inv X pins σ (upd H p (.lst (xs.set j v))) {s with heap:=s.heap.update p (Obj.mapSeq (·.setIfInBounds j u))}:=
  I.Zba hp ho (CQ its n j u) (r.set rv j) (by rw[List.length_set];exact hz) s.toks
 by_cases h0:0<=k
 ·have hk:k.toNat=j:=by
   rw[seqIndex_of h0 h4] at h1
   exact Option.some.inj h1
  exact PySem.W.ki_setAt ho h0 (by omega) (by rw[List.size_toArray,<-hl];exact h4) (by rw[hk];exact⟨_,I',q⟩)
 ·have hk:(k+(its.toArray.size:Int)).toNat=j:=by
   rw[seqIndex_neg (by omega) h3] at h1
   rw[List.size_toArray,<-hl]
   exact Option.some.inj h1
  exact PySem.W.ki_setBack ho (by omega) (by rw[List.size_toArray,<-hl];exact h3) (by omega) (by rw[hk];exact⟨_,I',q⟩)
def wJ(lo hi:Option Int)(n:Nat):(sliceBounds lo hi none n).1=((HT.jD n 0 lo:Nat):Int)/\(sliceBounds lo hi none n).2.1=((HT.jD n n hi:Nat):Int)/\(sliceBounds lo hi none n).2.2=1:=by
 refine⟨?_,?_,rfl⟩
 ·cases lo with
  |none=>simp[sliceBounds,HT.jD]
  |some i=>
   simp only[sliceBounds,HT.jD,Option.getD_none,show(1:Int)>0 by decide,if_true]
   by_cases h:i<0
   ·simp only[h,if_true]<;>omega
   ·simp only[h,if_false]<;>omega
 ·cases hi with
  |none=>simp[sliceBounds,HT.jD]
  |some i=>
   simp only[sliceBounds,HT.jD,Option.getD_none,show(1:Int)>0 by decide,if_true]
   by_cases h:i<0
   ·simp only[h,if_true]<;>omega
   ·simp only[h,if_false]<;>omega
def uN(its:List Value)(lo hi:Option Int):slicePick its.toArray lo hi none=((its.drop (HT.jD its.length 0 lo)).take (HT.jD its.length its.length hi-HT.jD its.length 0 lo)).toArray:=by
 obtain⟨h1,h2,h3⟩:=wJ lo hi its.toArray.size
 unfold slicePick
 rw[h1,h2,h3]
 simp only[sliceRange_one,pick_run,List.size_toArray]<;>rfl
def Zf_(K:PySem.W.Frag):V->Option Int->Option Int->Hp->VK->Prop:=λx lo hi H Q=>∃a xs,x=.ref a/\aQ K H a xs/\∀p,H p=none->Q (.ref p) (upd H p (.lst (zY xs lo hi)))
def Rf:Gx X (Zf_ X.K):=by
 intro pins s σ H x v vl vu lo hi sl Q I rx hs pl pu h
 obtain⟨a,xs,rfl,hx,q⟩:=h
 cases rx
 obtain⟨its,r,ht,hz⟩:=I.list hx
 have hlen:=r.length
 refine⟨"list",_,slot_list_getitem.lookup,ht.isList.typeIs,?_⟩
 refine wpAny_getItem_list_slice ht.isList hs pl pu .none (by simp) ?_ (by rw[List.size_toArray]<;>omega)
 rw[uN,<-hlen]
 refine⟨.ref s.heap.objs.size,_,I.laid (t':=s.toks) (o:=.lst (zY xs lo hi)) (λb ob q=>Heap.get?_push_of_some _ q) (Nat.le_refl _) ?_,rfl,q _ (I.hok.fresh (Nat.le_refl _))⟩
 exact⟨Nat.le_trans (zZ xs lo hi) hz,_,0,(r.drop (HT.jD xs.length 0 lo)).take (HT.jD xs.length xs.length hi-HT.jD xs.length 0 lo),Heap.get?_push_size _ rfl⟩
def wK:ž X (.type "list") (λxs H Q=>∃p ys,xs=[.ref p]/\(aQ X.K H p ys\/gG X.K H p ys)/\∀l,H l=none->Q (.ref l) (upd H l (.lst ys))):=by
 intro pins s σ H xs us Q I r h
 obtain⟨p,ys,rfl,hq,q⟩:=h
 obtain⟨u,rfl,rx⟩:=vals1 r
 cases rx
 have fin:∀(its:List Value),Vals ys its->ys.length<=sizeLine->∀(h':Heap) (c':Nat),(∀b o',s.heap.get? b=some o'->h'.get? b=some o')->
  h'.get? s.heap.objs.size=some {cls:=.type "list",dict:=none,data:=.seq its.toArray c',slots:=#[]}->EP X pins σ Q (.ref s.heap.objs.size) {s with heap:=h'}:=λits r' hz h' c' kp e=>
  ⟨.ref s.heap.objs.size,_,I.laid (t':=s.toks) kp (Nat.le_refl _) (show Ź X.prog X.w _ h' _ (.lst ys) from⟨hz,its,c',r',e⟩),rfl,q _ (I.hok.fresh (Nat.le_refl _))⟩
 rcases hq with hq|hq
 ·obtain⟨its,r',pl,hz⟩:=I.list hq
  have hlen:=r'.length
  obtain⟨o,ho,hc,n,hd⟩:=pl.isList
  exact call_list_seq p (.inl rfl) ho hc hd (λh' c' kp e=>fin its r' hz h' c' kp e) (by simp only[List.size_toArray]<;>omega)
 ·obtain⟨its,r',pl,hz⟩:=I.tuple hq
  have hlen:=r'.length
  obtain⟨o,ho,hc,n,hd⟩:=pl
  exact call_list_seq p (.inr rfl) ho hc hd (λh' c' kp e=>fin its r' hz h' c' kp e) (by simp only[List.size_toArray]<;>omega)
def uO:ž X (.type "tuple") (λxs H Q=>∃p ys,xs=[.ref p]/\((aQ X.K H p ys/\∀l,H l=none->Q (.ref l) (upd H l (.tup ys)))\/(gG X.K H p ys/\Q (.ref p) H))):=by
 intro pins s σ H xs us Q I r h
 obtain⟨p,ys,rfl,h⟩:=h
 obtain⟨u,rfl,rx⟩:=vals1 r
 cases rx
 rcases h with⟨hq,q⟩|⟨hq,q⟩
 ·obtain⟨its,r',pl,hz⟩:=I.list hq
  have hlen:=r'.length
  refine call_tuple_list pl.isList (λh' kp=>?_) (by simp only[List.size_toArray]<;>omega)
  have I1:Inv X pins σ H {s with heap:=h'}:=I.kept (t':=s.toks) kp
  have I2:Inv X pins σ (upd H h'.objs.size (.tup ys)) {s with heap:=h'.push {cls:=.type "tuple",data:=.seq its.toArray}}:=
   I1.laid (t':=s.toks) (λb o e=>Heap.get?_push_of_some _ e) (Nat.le_refl _) (show Ź X.prog X.w _ _ _ (.tup ys) from⟨hz,its,r',IsTup.new _ _⟩)
  exact⟨.ref h'.objs.size,_,I2,rfl,q _ (I1.hok.fresh (Nat.le_refl _))⟩
 ·obtain⟨its,r',pl,hz⟩:=I.tuple hq
  exact call_tuple_same pl ⟨.ref p,H,I,rfl,q⟩
def tyV(K:PySem.W.Frag)(T:String)(x:V)(H:Hp):Prop:=match x with
 | .str _=>T= "str"
 | .int _=>T= "int"
 | .ref p=>(T= "list" ∧∃xs,aQ K H p xs)∨(T= "tuple" ∧∃o,K.lookup p=some o∧o.cls=.type "tuple" ∧o.dict=none)∨
     (T= "dict" /\((∃kvs,H p=some (.dK kvs))\/∃kvs,H p=some (.dT kvs)))\/(T= "set" /\∃S n,H p=some (.set S n))
 |_=>False
def Zbb{pins:List (Addr×Obj)}{σ:St}{H:Hp}{s:Shared}{T:String}{x:V}{v:Value}(I:Inv X pins σ H s)(r:RelV x v)(ty:tyV X.K T x H) :
 s.TypeIs v T/\∀a,v=.ref a->∃ob,s.heap.get? a=some ob/\ob.dict=none:=by
 cases x with
 |str z=>
  obtain⟨t,rfl⟩:=r
  cases(show T= "str" from ty)
  exact⟨typeIs_str s z t,λ_ e=>nomatch e⟩
 |int i=>
  obtain⟨t,rfl⟩:=r
  cases(show T= "int" from ty)
  exact⟨typeIs_int s i t,λ_ e=>nomatch e⟩
 |ref p=>
  cases r
  rcases ty with⟨rfl,xs,hq⟩|⟨rfl,o,hk,hc,hd⟩|⟨rfl,hk⟩|⟨rfl,S,n,hk⟩
  ·obtain⟨its,_,pl,_⟩:=I.list hq
   refine⟨pl.isList.typeIs,λa e=>?_⟩
   cases e
   obtain⟨o,n,e,c,hd,_⟩:=pl
   exact⟨o,e,hd⟩
  ·refine⟨⟨o,I.iH p o hk,hc⟩,λa e=>?_⟩
   cases e
   exact⟨o,I.iH _ o hk,hd⟩
  ·have z:∃o,s.heap.get? p=some o∧o.ExactDict:=by
    rcases hk with⟨kvs,hk⟩|⟨kvs,hk⟩
    ·obtain⟨_,_,_,_,o,_,_,e,ex,_⟩:=I.hok p _ hk
     exact⟨o,e,ex⟩
    ·obtain⟨_,_,_,_,o,_,_,e,ex,_⟩:=I.hok p _ hk
     exact⟨o,e,ex⟩
   obtain⟨o,e,ex⟩:=z
   refine⟨⟨o,e,ex.1⟩,λa e2=>?_⟩
   cases e2
   exact⟨o,e,ex.2.1⟩
  ·obtain⟨o,_,_,_,e,ex,_⟩:=I.hok p _ hk
   refine⟨⟨o,e,ex.1⟩,λa e2=>?_⟩
   cases e2
   exact⟨o,e,ex.2.1⟩
 |_=>exact False.elim ty
def tBM(K:PySem.W.Frag)(T:String)(r:V->List V->Hp->VK->Prop)(to:TE)(t:TA):TE:=λσ H Q=>to σ H λx H1=>tyV K T x H1/\t σ H1 λxs H2=>r x xs H2 Q
variable{o e:Expr}{es:List Expr}{to:TE}{t:TA}{name:Str}{apos cpos:Pos}{T id:String}{r:V->List V->Hp->VK->Prop}
def rQ(pa:PlainAttrs T)(slot:Slot T name id)(hty:typeOf (.builtin id)=pure (.type "method_descriptor"))(hm:MtR X id r)(ho:PE X o to)(ha:PA X (e::es) t)
 (hbase:attributeBase o name X.env (eval o X.env)=eval o X.env:=by rfl)
 (hfew:((backTo cpos (starEach (e::es) X.env)).all (fun x=>!x.1) && (backToKw cpos (keywordEach [] X.env)).all (fun x=>x.1.isSome)
   && decide ((e::es).length+([]:List Keyword).length+(if([]:List Keyword).isEmpty then 0 else 1)<30))=true:=by rfl)
 (hline:(apos.endLine== cpos.line)=true:=by rfl)(hs:starEach (e::es) X.env=(false,eval e X.env)::starEach es X.env:=by rfl)(hplain:(backTo cpos (starEach es X.env)).any (·.1)=false:=by rfl) :
 PE X (.Call (.Attribute o name apos) (e::es) [] cpos) (tBM X.K T r to t):=by
 intro pins s σ H Q I h
 refine wpAny_Call_method_late hbase hfew hline rfl (Ŭ (ho pins s σ H _ I h) λv s1 ⟨x,H1,I1,r1,ty,q1⟩=>?_)
 obtain⟨h1,h2⟩:=Zbb I1 r1 ty
 refine⟨T,id,pa,slot,hty,h1,h2,?_⟩
 have hA:=ha cpos pins s1 σ H1 _ I1 q1
 rw[hs] at hA ⊢
 refine Calls.callWith_builtin (by show(false || (backTo cpos (starEach es X.env)).any (·.1))=false;rw[hplain]<;>rfl) (Calls.evalArgs_plain ?_)
 exact Ŭ hA λus s2 ⟨vs,H2,I2,r2,q2⟩=>hm pins s2 σ H2 x vs v us Q I2 r1 r2 q2
end
end L2
namespace L2
open PySem PySem.Spec PyProof.Rows
def MtM(X:Cx)(id:String)(r:V->List V->Hp->VK->Prop):Prop:=
 ∀(pins:List (Addr×Obj)) (s:Shared) (σ:St) (H:Hp) (x:V) (xs:List V) (v:Value) (us:List Value) (Q:VK),Inv X pins σ H s->RelV x v->Vals xs us->r x xs H Q->
  wpAny (model X.prog X.w) X.A (call (.builtin id) (v::us)) (EP X pins σ Q) X.xe s
theorem Vals.one:∀{x:V} {us:List Value},Vals [x] us->∃u,us=[u]/\RelV x u
 |_,_,.cons r .nil=>⟨_,rfl,r⟩
section
variable{X:Cx}{pins:List (Addr×Obj)}{σ:St}{H:Hp}{s:Shared}{l b:Addr}{xs ys zs:List V}
def Inv.ZdA{its its':List Value}{n:Nat}{f:Array Value->Array Value}{t':Nat}(I:Inv X pins σ H s)(hH:H l=some (.lst xs))
 (e:s.heap.get? l=some {cls:=.type "list",data:=.seq its.toArray n})(hf:f its.toArray=its'.toArray)(hv:Vals ys its')(hz:ys.length<=sizeLine) :
 Inv X pins σ (upd H l (.lst ys)) {s with heap:=s.heap.update l (Obj.mapSeq f),toks:=t'}:=by
 have q:=PySem.IsL.update e f
 rw[hf] at q
 refine I.write (x:=l) (e:=l) (by rw[hH];exact trivial) (.inl rfl) (λb' u hb hu=>(Heap.get?_update_other s.heap (Obj.mapSeq f) (Ne.symm hb)).trans hu) ⟨_,q⟩ ?_
 exact⟨hz,its',_,hv,q⟩
def Inv.Zga{its:List Value}{t':Nat}(I:Inv X pins σ H s)(hv:Vals ys its)(hz:ys.length<=sizeLine) :
 Inv X pins σ (upd H s.heap.objs.size (.lst ys)) {s with heap:=s.heap.push {cls:=.type "list",data:=.seq its.toArray},toks:=t'}:=
 I.laid (λ_ _ q=>Heap.get?_push_of_some _ q) (Nat.le_refl _) ⟨hz,its,0,hv,Heap.get?_push_size _ rfl⟩
theorem Inv.fresh(I:Inv X pins σ H s):H s.heap.objs.size=none:=I.hok.fresh (Nat.le_refl _)
def Inv.Zbc(I:Inv X pins σ H s)(hH:H l=some (.lst xs)):xs.length<=sizeLine/\∃(its:List Value) (n:Nat),Vals xs its/\xs.length=its.length/\s.heap.get? l=some {cls:=.type "list",data:=.seq its.toArray n}:=by
 obtain⟨z,its,n,r,e⟩:=I.hok l _ hH
 exact⟨z,its,n,r,r.length,e⟩
def Kw{n:Nat}(h:n<=sizeLine):Builtin.List.listTooLong n=false:=by
 unfold Builtin.List.listTooLong
 exact decide_eq_false (by omega)
end
section
variable{X:Cx}
def GC:V->List V->Hp->VK->Prop:=λx vs H Q=>∃l xs y,x=.ref l/\vs=[y]/\H l=some (.lst xs)/\xs.length<sizeLine/\Q .non (upd H l (.lst (xs ++ [y])))
def cR:MtM X "list.append" GC:=by
 intro pins s σ H x vs v us Q I rx rv h
 obtain⟨l,xs,y,rfl,rfl,hH,hz,q⟩:=h
 cases rx
 obtain⟨u,rfl,ru⟩:=rv.one
 obtain⟨z,its,n,r,hl,e⟩:=I.Zbc hH
 refine call_meets F.slot_list_append ⟨_,e,rfl⟩ F.entry_list_append (F.args_list_append_2 _ _) (PySem.list_append l its.toArray n u (by rw[List.size_toArray];omega)) ⟨e,?_⟩
 refine⟨.non,_,I.ZdA (its':=its ++ [u]) hH e (by simp) (r.append (.cons ru .nil)) ?_,rfl,q⟩
 rw[List.length_append,List.length_singleton]
 omega
def GD:V->List V->Hp->VK->Prop:=λx vs H Q=>∃l b xs zs,x=.ref l/\vs=[.ref b]/\H l=some (.lst xs)/\H b=some (.lst zs)/\xs.length+zs.length<=sizeLine/\Q .non (upd H l (.lst (xs++zs)))
def vd:MtM X "list.extend" GD:=by
 intro pins s σ H x vs v us Q I rx rv h
 obtain⟨l,b,xs,zs,rfl,rfl,hH,hB,hz,q⟩:=h
 cases rx
 obtain⟨u,rfl,ru⟩:=rv.one
 cases ru
 obtain⟨z,its,n,r,hl,e⟩:=I.Zbc hH
 obtain⟨z2,its2,n2,r2,hl2,e2⟩:=I.Zbc hB
 have hsz:its.toArray.size+its2.toArray.size<=sizeLine:=by rw[List.size_toArray,List.size_toArray];omega
 have ZdB:¬(!its.toArray.isEmpty && Builtin.List.listTooLong (its.toArray.size+its2.toArray.size))=true:=by
  rw[Kw hsz,Bool.and_false]
  exact Bool.false_ne_true
 refine call_meets F.slot_list_extend ⟨_,e,rfl⟩ F.entry_list_extend (F.args_list_extend_2 _ _)
  (AutoSeq1.list_extend_list_list_0 l its.toArray n b its2.toArray n2 ZdB (by rw[List.size_toArray];omega) (by omega)) ⟨e,e2,?_⟩
 refine⟨.non,_,I.ZdA (its':=its++its2) hH e (by simp) (r.append r2) ?_,rfl,q⟩
 rw[List.length_append]
 omega
end
section
variable{prog:Program}{w:World}{A:Around}{E:Value->Shared->Prop}{s:Shared}
end
section
variable{X:Cx}
end
end L2
namespace Att
open PySem PySem.W PySem.Calls PyProof.Rows
def qN{P:Params}{h:Heap}:∀(ns:List Int) (vs:List Value),WellAll P h vs (ns.map WData.int)->IntsAre vs ns:=by
 intro ns
 induction ns with
 |nil=>
  intro vs w
  rw[List.map_nil] at w
  cases w
  exact .nil
 |cons n ns ih=>
  intro vs w
  rw[List.map_cons] at w
  cases w with
  |cons a b=>
   cases a
   exact .cons _ _ (ih _ b)
def Jk{l:OpenLaw}{n:Nat}(hn:l.most=some n){P:Params}{h:Heap}{args:List WData}{vals:List Value}
 (hpre:l.row.toRowW.claim.pre args=true)(hwl:WellAll P h vals args) :
 ∃a vs ns,vals=[Value.ref a]/\args=[WData.list (ns.map WData.int)]/\h.get? a=some {cls:=.type "list",data:=.seq vs.toArray}/\IntsAre vs ns/\ns.length<=n:=by
 have hsh:WShape.hasAll [] args [.list .int]=true:=(pre_splitW hpre).1
 have hc:l.pre.holds [] {args:=args}=true:=(pre_splitW hpre).2
 obtain⟨d,r,rfl,h1,h2⟩:=hasAllW_cons hsh
 obtain rfl:=hasAllW_nil h2
 obtain⟨xs,rfl,h3⟩:=hasW_list h1
 obtain⟨ns,rfl⟩:=items_int h3
 have hlen:ns.length<=n:=by
  unfold OpenLaw.pre at hc
  have h4:(WTm.not (.lt (.lit (.int (n:Int))) (.len (.arg 0)))).holds [] {args:=[.list (ns.map .int)]}=true:=by
   have h4:=(holds_andW hc).1
   rw[hn] at h4
   exact h4
  have h5:=condW_of h4 (w_not (w_lt w_lit (w_len_list (w_arg rfl))))
  rw[List.length_map] at h5
  refine Nat.le_of_not_lt λq=>?_
  have q':(n:Int)<((ns.length:Nat):Int):=by omega
  first
   |(rw[decide_eq_true q'] at h5;exact absurd h5 (by decide))
   |(simp at h5;omega)
 cases hwl with
 |cons w1 w2=>
  cases w2
  cases w1 with
  |list ho hall=>exact⟨_,_,ns,rfl,rfl,ho,qN ns _ hall,hlen⟩
def Jl(l:OpenLaw)(args:List WData):l.row.toRowW.claim.post args (.bool true) args=true:=
 postW_of (r:=l.row.toRowW) (X:=(true== true))
  (show WShape.has [] (.bool true) .bool=true by first|rfl|decide|simp[WShape.has,WShape.arms,WShape.armsAll])
  (show(WTm.eq .res (.lit (.bool true))).value [] {args:=args,res:=some (.bool true),after:=args}=some (.bool (true== true)) from w_eq_bool (w_res rfl) w_lit) rfl
def Aa{l:OpenLaw}{n:Nat}{q:Program}{loose:List Str}{XP:(Str->Option Value)->Heap->Prop}{YP:World->Heap->Prop}{d:DefRec}
 (hn:l.most=some n)(hdf:d.params.defaults=[])
 (call:∀(w:World) (s₀ s₁:Shared) (mg mb:Str→Option Value) (fa:Addr) (o:Obj) (pm cd doc:Value) (a:Addr) (vs:List Value) (ns:List Int),
   Ground q loose [] XP w s₀ mg mb s₁.heap->YP w s₁.heap->
   s₁.heap.get? fa=some o->o.data=.func (docDef d.name d.params d.body d.scope pm cd doc)->s₁.heap.CodeRec cd d.name->mg d.name=some (.ref fa)->
   s₁.heap.get? a=some {cls:=.type "list",data:=.seq vs.toArray}->IntsAre vs ns->ns.length<=n->s₁.gens= #[]->
   codeAny (model l.prog w) callerA (.call (.ref fa) ⟨[.ref a],[]⟩) (λr s'=>r=.ok (.ret (.bool true))/\OldK s₁.heap s'.heap/\s'.os=s₁.os/\AllBare s'.gens) s₁) :
 WalkO q loose XP YP l.row.toRowW d [] (λf vs=>PySem.call f vs):=by
 intro w s₀ s₁ mg mb G Y fa o pm cd doc dV kV ho hd hcd hD hmg hg args vals as hpre hlay hrd hwl hlo
 obtain rfl:dV=.none:=Dflts.none hD hdf
 obtain rfl:kV=.none:=Dflts.noKw hD
 obtain⟨a,vs,ns,rfl,rfl,hobj,hints,hlen⟩:=Jk hn hpre hwl
 refine enter_call (codeAny_mono (call w s₀ s₁ mg mb fa o pm cd doc a vs ns G Y ho (fd_plain hd) hcd hmg hobj hints hlen hg) λr s' hq=>?_)
 obtain⟨rfl,h2,h3,h4⟩:=hq
 exact⟨.inl ⟨.bool true,.bool true,[],rfl,λ_=>rfl,.bool true,Jl l _,λ_=>⟨List.Pairwise.nil,λ_ hm=>(nomatch hm)⟩⟩,h2,h3,h4⟩
section
variable{prog:Program}{w:World}{A:Around}{E:Value->Shared->Prop}{s:Shared}{K:Frag}
end
end Att
namespace L2
open PySem PySem.Spec PyProof.Rows
theorem bZ:∀{vs:List Value} {ns:List Int},IntsAre vs ns->Vals (ns.map V.int) vs
 |_,_,.nil=>.nil
 |_,_,.cons n t h=>.cons ⟨t,rfl⟩ (bZ h)
def Only(H:Hp):Prop:=∀b,H b=none\/(∃o xs,H b=some (.gD o (.lst xs)))\/∃q,H b=some (.jF q)
def jJ(K:PySem.W.Frag):List Str->Hp
 | []=>λ_=>none
 |y::r=>λb=>match PySem.W.tabIn K y with
  |some (_,P)=>if b=P then some (.jF (fC y)) else jJ K r b
  |none=>jJ K r b
theorem fY{K:PySem.W.Frag}:∀{l:List Str} {b:Addr} {u:HO},jJ K l b=some u->∃y c,y∈l/\PySem.W.tabIn K y=some (c,b)/\u=.jF (fC y)
 | [],_,_,h=>by cases(show(none:Option HO)=some _ from h)
 |y::r,b,u,h=>by
  have h':(match PySem.W.tabIn K y with
   |some (_,P)=>if b=P then some (.jF (fC y)) else jJ K r b
   |none=>jJ K r b)=some u:=h
  have rc:jJ K r b=some u->∃z c,z∈y::r/\PySem.W.tabIn K z=some (c,b)/\u=.jF (fC z):=λq=>
   let ⟨z,c,h1,h2,h3⟩:=fY q
   ⟨z,c,List.mem_cons_of_mem _ h1,h2,h3⟩
  cases e:PySem.W.tabIn K y with
  |none=>rw[e] at h';exact rc h'
  |some p=>
   obtain⟨c,P⟩:=p
   rw[e] at h'
   have h2:(if b=P then some (HO.jF (fC y)) else jJ K r b)=some u:=h'
   by_cases hb:b=P
   ·rw[if_pos hb] at h2
    cases h2
    exact⟨y,c,List.mem_cons_self,by rw[hb];exact e,rfl⟩
   ·rw[if_neg hb] at h2
    exact rc h2
theorem GF{K:PySem.W.Frag}{y:Str}{c P:Addr}(e:PySem.W.tabIn K y=some (c,P)):∀{l:List Str},(∀z∈l,z=y)->y∈l->jJ K l P=some (.jF (fC y))
 | [],_,h=>by cases h
 |z::r,h1,_=>by
  have hz:=h1 z List.mem_cons_self
  subst hz
  show(match PySem.W.tabIn K z with
   |some (_,Q)=>if P=Q then some (HO.jF (fC z)) else jJ K r P
   |none=>jJ K r P)=_
  rw[e]
  exact if_pos rfl
def Ky{P:Program}{w:World}{K:PySem.W.Frag}{mg mb:Str->Option Value}{CX:qj}{k:Nat}{fa a:Addr}{fd:FuncData}{x:Str}{sp:Sp}{s₁:Shared}{vs:List Value}{ns:List Int}
 (KX:K.In s₁.heap)(hns:s₁.heap.Ns mainGlobals mg)(hb:s₁.heap.Ns builtinsNs mb)(hbb:∀x:Str,x≠ "__name__" ->mb x=bootBuiltins x)(hlim:s₁.heap.NoLimit)(hg:s₁.gens= #[])
 (ha:s₁.heap.get? a=some {cls:=.type "list",data:=.seq vs.toArray})(hi:IntsAre vs ns)(hl:ns.length<=sizeLine)(hr:aD k callerA)
 (F:∀base:Heap,K.In base->base.Ns mainGlobals mg->ī P w K mg base CX k fa fd [x] sp)(hbind:∀(s:Shared) (u:Value),BindsTo s fd ⟨[u],[]⟩ [(x,u)])
 (hsp:∀H:Hp,Only H->aQ K H a (ns.map V.int)->sp [.ref a] H (λv _=>v=.bl true) λ_ _ _=>False)
 (hCX:∀H e s',CX [] H s₁ (λ_ _ _=>False) e s'->False)
 (hnt:lams≠[]->PySem.W.noTabs K=true)(hone:∀y z,y∈lams->z∈lams->y=z)(htb:∀y c Pt,y∈lams->PySem.W.tabIn K y=some (c,Pt)->PySem.W.CodeHd s₁.heap c Pt/\s₁.heap.get? Pt=some (PySem.W.tabObj #[])/\s₁.heap.BuiltinsAt mg Pt) :
 codeAny (model P w) callerA (.call (.ref fa) ⟨[.ref a],[]⟩) (λr s'=>r=.ok (.ret (.bool true))/\OldK s₁.heap s'.heap/\s'.os=s₁.os/\AllBare s'.gens) s₁:= by
 have rv:=bZ hi
 have lenV:=hi.length
 -- from an abstract heap in which nothing but the script may be tracked
 have core:∀H:Hp,Only H->aQ K H a (ns.map V.int)->gK P w H s₁.heap->(∀b,H b≠none->b=a\/∃y c,y∈lams/\PySem.W.tabIn K y=some (c,b))->(H a≠none->K.lookup a=none)->(∀y c Pt,y∈lams->PySem.W.tabIn K y=some (c,Pt)->H Pt=some (.jF (fC y)))->
  codeAny (model P w) callerA (.call (.ref fa) ⟨[.ref a],[]⟩) (λr s'=>r=.ok (.ret (.bool true))/\OldK s₁.heap s'.heap/\s'.os=s₁.os/\AllBare s'.gens) s₁:= by
  intro H hO hS hok hA hK hT
  have rm:∀{b:Addr} {o:Obj},s₁.heap.get? b=some o->H b=none->(uJ s₁.heap H).get? b=some o:=λe n=>J_ e n
  have noA:∀{b:Addr} {o:Obj} {es:Array DictEntry} {ep:Nat},s₁.heap.get? b=some o->o.data=.dict es ep->H b=none:=fun{b o es ep} e d=>by
   cases q:H b with
   |none=>rfl
   |some u=>
    rcases hA b (by rw[q];simp) with e'|⟨y,c,hy,hty⟩
    ·subst e'
     rw[ha] at e;cases e
     have d':Data.seq vs.toArray _=Data.dict es ep:=d
     cases d'
    ·have e2:=(htb y c b hy hty).2.1
     rw[e] at e2;cases e2;cases d
  have nsK:∀{b:Addr} {m:Str->Option Value},s₁.heap.Ns b m->(uJ s₁.heap H).Ns b m:=fun{b m} ⟨o,es,ep,e,d,r⟩=>⟨o,es,ep,rm e (noA e d),d,r⟩
  have hKb:K.In (uJ s₁.heap H):=λb o e=>rm (KX b o e) (by
   cases q:H b with
   |none=>rfl
   |some u=>
    rcases hA b (by rw[q];simp) with e'|⟨y,c,hy,hty⟩
    ·subst e'
     rw[hK (by rw[q];simp)] at e;cases e
    ·have e2:=(htb y c b hy hty).2.1
     rw[KX b o e] at e2
     cases e2
     have h2:=List.all_eq_true.mp (hnt (λz=>by rw[z] at hy;cases hy)) (b,_) (PySem.W.mem_of_lookupK e)
     exact absurd (show false=true from h2) Bool.false_ne_true)
  have hM:Mod K mg (uJ s₁.heap H):=⟨hKb,nsK hns,⟨mb,nsK hb,hbb⟩,let ⟨mc,h1,h2⟩:=hlim;⟨mc,nsK h1,h2⟩⟩
  have hTB:TabsOk K mg (uJ s₁.heap H) H:=λy c Pt hy hty=>by
   obtain⟨⟨o,us,file,tf,flags,tg,inF,text,tt,e1,r1,r2⟩,_,bm,ob,b1,b2,b3,b4,b5,b6,b7⟩:=htb y c Pt hy hty
   refine⟨⟨o,us,file,tf,flags,tg,inF,text,tt,rm e1 ?_,r1,r2⟩,hT y c Pt hy hty,bm,ob,b1,b2,b3,b4,rm b5 ?_,b6,b7⟩
   rotate_left
   ·cases q:H bm with
    |none=>rfl
    |some u=>
     rcases hA bm (by rw[q];simp) with e'|⟨z,c2,hz,htz⟩
     ·rw[e',ha] at b5;cases b5;exact absurd (Value.type.inj b6) (by decide)
     ·have e2:=(htb z c2 bm hz htz).2.1
      rw[b5] at e2;cases e2;cases b6
   cases q:H c with
   |none=>rfl
   |some u=>
    rcases hA c (by rw[q];simp) with e'|⟨z,c2,hz,htz⟩
    ·rw[e',ha] at e1;cases e1;exact absurd (Value.type.inj r1) (by decide)
    ·have e2:=(htb z c2 c hz htz).2.1
     rw[e1] at e2;cases e2;cases r1
  have e0:CN P w K mg (uJ s₁.heap H) callerA [] s₁ H:=⟨rfl,hM,λb o e=>QC e,Nat.le_of_eq (Jc _ _),trivial,λb hb=>absurd (show b∈([]:List Addr) from hb) (by simp),hok,.of_eq hg,hTB⟩
  refine codeAny_mono ((F _ hKb (nsK hns)).run callerA [] s₁ H ⟨[.ref a],[]⟩ [.ref a] [.ref a] _ _ hr e0 (hbind s₁ (.ref a)) (.cons rfl .nil) (hsp H hO hS)) λr s' h=>?_
  cases r with
  |error e=>exact(hCX H e s' h).elim
  |ok fl=>
   cases fl with
   |next=>exact False.elim h
   |brk=>exact False.elim h
   |cont=>exact False.elim h
   |ret u=>
    obtain⟨v,H',os,bare,un,hok',r',q⟩:=h
    have q':v=.bl true:=q
    subst q'
    obtain rfl:u=Value.bool true:=r'
    have old:∀b o,s₁.heap.get? b=some o->(∀t,H b≠some (.jF t))->s'.heap.get? b=some o:=?_
    ·refine⟨rfl,⟨λb o e=>?_,λb o e=>?_⟩,os,bare⟩
     ·by_cases ht:∃t,H b=some (.jF t)
      ·obtain⟨t,ht⟩:=ht
       obtain⟨ps,e1,_⟩:=hok' b _ (un.gF b t ht)
       rcases hA b (by rw[ht];simp) with e'|⟨y,c,hy,hty⟩
       ·subst e'
        obtain⟨ps2,e3,_⟩:=hok b _ ht
        rw[ha] at e3;cases e3
       ·obtain⟨⟨o2,us,file,tf,flags,tg,inF,text,tt,f1,f2,f3,f4,_⟩,e2,_⟩:=htb y c b hy hty
        rw[e] at e2;cases e2
        exact .inr (.inl ⟨⟨c,o2,us,f1,f2,f3,f4⟩,rfl,#[],ps,rfl,by rw[e1];simp⟩)
      ·exact .inl (old b o e λt z=>ht ⟨t,z⟩)
     ·by_cases ht:∃t,H b=some (.jF t)
      ·obtain⟨t,ht⟩:=ht
       obtain⟨ps,e1,_⟩:=hok' b _ (un.gF b t ht)
       exact⟨_,e1⟩
      ·exact⟨o,old b o e λt z=>ht ⟨t,z⟩⟩
    intro b o e nt
    cases q:H b with
    |none=>exact un.keep b o e q (by intro z;exact absurd (show b∈([]:List Addr) from z) (by simp)) (by simp)
    |some u=>
     rcases hO b with z|⟨ob,xs,z⟩|⟨t,z⟩
     ·rw[q] at z;cases z
     rotate_left
     ·exact absurd z (nt t)
     ·have z2:=un.iG b ob _ z
      obtain⟨e1,_⟩:=hok b _ z
      obtain⟨e2,_⟩:=hok' b _ z2
      rw[e] at e1;cases e1
      exact e2
 cases hk:K.lookup a with
 |some o=>
  -- the script is one of the module's own objects
  have e:=KX a o hk
  rw[ha] at e
  cases e
  refine core (jJ K lams) (λb=>?_) (.inr ⟨_,vs.toArray,_,hk,rfl,rfl,rfl,by rw[List.size_toArray,lenV];exact hl,by simpa using rv⟩) (λb u z=>?_) (λb z=>?_) (λz=>?_) λy c Pt hy hty=>GF hty (λz hz=>hone z y hz hy) hy
  ·cases q:jJ K lams b with
   |none=>exact .inl rfl
   |some u=>obtain⟨y,c,_,_,rfl⟩:=fY q;exact .inr (.inr ⟨_,rfl⟩)
  ·obtain⟨y,c,hy,hty,rfl⟩:=fY z
   exact⟨#[],(htb y c b hy hty).2.1,trivial,λpos cv z=>by cases z⟩
  ·cases q:jJ K lams b with
   |none=>exact absurd q z
   |some u=>obtain⟨y,c,hy,hty,_⟩:=fY q;exact .inr ⟨y,c,hy,hty⟩
  ·cases q:jJ K lams a with
   |none=>exact absurd q z
   |some u=>
    obtain⟨y,c,hy,hty,_⟩:=fY q
    have e2:=(htb y c a hy hty).2.1
    rw[ha] at e2;cases e2
 |none=>
  refine core (λb=>if b=a then some (.gD {cls:=.type "list",data:=.seq vs.toArray} (.lst (ns.map V.int))) else jJ K lams b) (λb=>?_) (.inl (.inr ⟨{cls:=.type "list",data:=.seq vs.toArray},if_pos rfl⟩)) (λb u z=>?_) (λb z=>?_) (λ_=>hk) λy c Pt hy hty=>?_
  ·by_cases hb:b=a
   ·exact .inr (.inl ⟨_,_,if_pos hb⟩)
   ·cases q:jJ K lams b with
    |none=>exact .inl ((if_neg hb).trans q)
    |some u=>obtain⟨y,c,_,_,rfl⟩:=fY q;exact .inr (.inr ⟨_,(if_neg hb).trans q⟩)
  ·by_cases hb:b=a
   ·have z':=(if_pos hb).symm.trans z
    cases z'
    subst hb
    exact⟨ha,by rw[List.length_map];exact hl,vs,_,rv,ha⟩
   ·have z':=(if_neg hb).symm.trans z
    obtain⟨y,c,hy,hty,rfl⟩:=fY z'
    exact⟨#[],(htb y c b hy hty).2.1,trivial,λpos cv z=>by cases z⟩
  ·by_cases hb:b=a
   ·exact .inl hb
   ·cases q:jJ K lams b with
    |none=>exact absurd ((if_neg hb).trans q) z
    |some u=>obtain⟨y,c,hy,hty,_⟩:=fY q;exact .inr ⟨y,c,hy,hty⟩
  ·have ne:Pt≠a:=fun z=>by
    subst z
    have e2:=(htb y c _ hy hty).2.1
    rw[ha] at e2;cases e2
   exact(if_neg ne).trans (GF hty (λz hz=>hone z y hz hy) hy)
end L2
namespace L2
open PySem PySem.Spec PyProof.Rows
def Rg{p:Program}{loose:List Str}{mean:ExcName->Option Value}{mg mb:Str->Option Value}{h:Heap}{K:PySem.W.Frag}{d:DefRec}{x:Str}{c P:Addr}(T:Top p loose mean mg mb h)(X:K.In h)(hr:(recsOf p).find? (λe=>e.name== x)=some d)(ht:PySem.W.tabIn K x=some (c,P)) :
 PySem.W.CodeHd h c P/\h.get? P=some (PySem.W.tabObj #[])/\h.BuiltinsAt mg P:=by
 obtain⟨h1,h2⟩:=PySem.W.tab_of T X hr ht
 obtain⟨bm,ob,b1,b2,b3,b4,b5,b6⟩:=T.bmain
 have hbP:bm≠P:=λq=>by rw[q,h2] at b3;cases b3;cases b4
 have hbG:bm≠mainGlobals:=λq=>by
  obtain⟨o,es,ep,e,hd,_⟩:=T.g
  rw[q,e] at b3;cases b3;rw[hd] at b6;cases b6
 exact⟨h1,h2,bm,ob,b1,b2,hbG,hbP,b3,b4,b5,b6⟩
def Rh{l:PySem.W.OpenLaw}{n k:Nat}{q:Program}{loose:List Str}{XP:(Str->Option Value)->Heap->Prop}{YP:World->Heap->Prop}{d:DefRec}{K:Params->PySem.W.Frag}{CX:World->qj}{sp:World->Sp}{x:Str}
 (hn:l.most=some n)(hn2:n<=sizeLine)(hdf:d.params.defaults=[])(hr:aD k callerA)
 (hY:∀(w:World) (h:Heap),YP w h->(K w.params).In h)
 (F:∀(w:World) (mg:Str→Option Value) (fa:Addr) (h:Heap),(K w.params).In h→h.Ns mainGlobals mg→mg d.name=some (.ref fa)→
   ∃fd:FuncData,(∀(s:Shared) (u:Value),BindsTo s fd ⟨[u],[]⟩ [(x,u)])/\
    ∀base:Heap,(K w.params).In base->base.Ns mainGlobals mg->ī l.prog w (K w.params) mg base (CX w) k fa fd [x] (sp w))
 (hsp:∀(w:World) (H:Hp) (a:Addr) (ns:List Int),ns.length<=n->Only H->aQ (K w.params) H a (ns.map V.int)->sp w [.ref a] H (λv _=>v=.bl true) λ_ _ _=>False)
 (hCX:∀(w:World) (H:Hp) (s:Shared) (e:Value) (s':Shared),CX w [] H s (λ_ _ _=>False) e s'->False)
 (hnt:lams≠[]->∀w:World,PySem.W.noTabs (K w.params)=true:=by intro z;exact absurd rfl z)(hone:∀y z,y∈lams->z∈lams->y=z:=by simp[lams])(hrec:∀y,y∈lams->∃d,(recsOf q).find? (λe=>e.name== y)=some d:=by simp[lams]) :
 PySem.W.WalkO q loose XP YP l.row.toRowW d [] (λf vs=>PySem.call f vs):=by
 refine Att.Aa hn hdf λw s₀ s₁ mg mb fa o pm cd doc a vs ns G Y ho hd hcd hmg hobj hints hlen hg=>?_
 have KX:=hY w _ Y
 obtain⟨fd,hb,hF⟩:=F w mg fa _ KX G.T.g hmg
 exact Ky KX G.T.g G.T.b G.T.builtins G.T.nolimit hg hobj hints (Nat.le_trans hlen hn2) hr hF hb (λH hO hS=>hsp w H a ns hlen hO hS) (λH e s'=>hCX w H s₁ e s') (λz=>hnt z w) hone λy c Pt hy hty=>let ⟨_,hr'⟩:=hrec y hy;Rg G.T KX hr' hty
end L2
namespace L2
open PySem PySem.Spec PyProof.Rows
def inClass(s:Stmt)(j:Nat):Stmt:=match s with
 | .ClassDef _ _ _ body _ _ _ _ _ _ _=>body.getD j (.Pass ⟨0,0,0,0⟩)
 |_=>.Pass ⟨0,0,0,0⟩
def Ũ(s:Stmt):Arguments:=match s with
 | .FunctionDef _ a _ _ _ _ _ _ _ _=>a
 |_=> {posonlyargs:=[],args:=[],vararg:=none,kwonlyargs:=[],kw_defaults:=[],kwarg:=none,defaults:=[]}
def Ŗ(s:Stmt):List Stmt:=match s with
 | .FunctionDef _ _ b _ _ _ _ _ _ _=>b
 |_=>[]
def ć(s:Stmt):Scope:=match s with
 | .FunctionDef _ _ _ _ _ _ sc _ _ _=>sc
 |_=> {kind:=.function,names:=[],isGenerator:=false,isCoroutine:=false}
structure Kz(K:PySem.W.Frag)(x qual:Str)(st:Stmt)(f:Addr)(fd:FuncData):Prop where
 ex:∃(oc:Value) (od:Option Addr) (kV doc pm:Value) (an:Option Addr) (cdv ct:Value) (osl:Array (Option Value)),
   fd=PySem.W.fnOf x qual (Ũ st) (Ŗ st) (ć st) .none kV doc pm an cdv ct/\K.lookup f=some ⟨oc,od,.func fd,osl⟩/\PySem.W.codeIn K cdv qual=true
 kp:PySem.W.keepIn K (.ref f)=true
section
variable{P:Program}{w:World}{K:PySem.W.Frag}{mg:Str->Option Value}{base:Heap}
def Kz.binds{x qual:Str}{st:Stmt}{f:Addr}{fd:FuncData}{ps:List Str}(F:Kz K x qual st f fd)
 (h:∀(kV doc pm:Value) (an:Option Addr) (cdv ct:Value) (us:List Value),us.length=ps.length->bindArgs (PySem.W.fnOf x qual (Ũ st) (Ŗ st) (ć st) .none kV doc pm an cdv ct) ⟨us,[]⟩=pure (ps.zip us)):Binds K fd ps []:=by
 obtain⟨oc,od,kV,doc,pm,an,cdv,ct,osl,rfl,lk,hcd⟩:=F.ex
 exact .all (h kV doc pm an cdv ct)
def KC{x qual:Str}{st:Stmt}{f:Addr}{oc:Value}{od an:Option Addr}{osl:Array (Option Value)}{kV doc pm cdv ct:Value}(l:K.lookup f=some ⟨oc,od,.func (PySem.W.fnOf x qual (Ũ st) (Ŗ st) (ć st) .none kV doc pm an cdv ct),osl⟩)
 (c:PySem.W.codeIn K cdv qual=true)(k:PySem.W.keepIn K (.ref f)=true):Kz K x qual st f (PySem.W.fnOf x qual (Ũ st) (Ŗ st) (ć st) .none kV doc pm an cdv ct):=⟨⟨oc,od,kV,doc,pm,an,cdv,ct,osl,rfl,l,c⟩,k⟩
end
section
variable{X:Cx}
def pv(i:Nat){x:Str}{pos:Pos}(hN:X.N[i]?=some x:=by rfl)(hv:Ck X.env.scope x:=by first|exact Or.inl rfl|exact Or.inr (Or.inl rfl)|exact Or.inr (Or.inr rfl))(hd:(x== ("__debug__" :Str))=false:=by decide)
 (hcd:(x== ("__classdict__" :Str))=false:=by decide):PE X (.Name x pos) (wF i):=iI hN hv hd hcd
end
def Same(H H':Hp):Prop:=∀b o,H b=some o->H' b=some o
def Same.refl(H:Hp):Same H H:=λ_ _ h=>h
def Same.trans{H H1 H2:Hp}(a:Same H H1)(b:Same H1 H2):Same H H2:=λc o h=>b c o (a c o h)
def Same.free{H H':Hp}(e:Same H H'){l:Addr}(h:H' l=Option.none):H l=Option.none:=by
 cases q:H l with
 |none=>rfl
 |some o=>
  rw[e l o q] at h
  cases h
def Same.seq{K:PySem.W.Frag}{H H':Hp}{a:Addr}{xs:List V}(e:Same H H')(h:aQ K H a xs):aQ K H' a xs:=by
 rcases h with(h|⟨o,h⟩)|h
 ·exact .inl (.inl (e _ _ h))
 ·exact .inl (.inr ⟨o,e _ _ h⟩)
 ·exact .inr h
end L2
namespace M2
open PySem PySem.Spec PyProof.Rows L2
section
variable{X:Cx}{a b c e:Expr}{ta tb tc te:TE}{pos:Pos}
def PE.wk{t t':TE}(h:PE X e t)(i:∀σ H Q,t' σ H Q->t σ H Q):PE X e t':=λpins s σ H Q I q=>h pins s σ H Q I (i σ H Q q)
def PS.wk{st:Stmt}{t t':TS}(h:PS X st t)(i:∀D σ H,t' D σ H->t D σ H):PS X st t':=λpins s σ H D I q=>h pins s σ H D I (i D σ H q)
def aP.wk{f:Value->Value->Sem Value}{r r':R2}(h:aP X f r)(i:∀x y H Q,r' x y H Q->r x y H Q):aP X f r':=λpins s σ H x y v u Q I rx ry q=>h pins s σ H x y v u Q I rx ry (i x y H Q q)
def QT.wk{f:Value->Sem Value}{r r':V->Hp->VK->Prop}(h:QT X f r)(i:∀x H Q,r' x H Q->r x H Q):QT X f r':=λpins s σ H x v Q I rx q=>h pins s σ H x v Q I rx (i x H Q q)
def ž.wk{f:Value}{r r':List V->Hp->VK->Prop}(h:ž X f r)(i:∀xs H Q,r' xs H Q->r xs H Q):ž X f r':=λpins s σ H xs us Q I r q=>h pins s σ H xs us Q I r (i xs H Q q)
def CP.wk{r r':R2}(h:CP X r)(i:∀x y H Q,r' x y H Q->r x y H Q):CP X r':=λva sl pins s σ H x y v u Q I rx ry q=>h va sl pins s σ H x y v u Q I rx ry (i x y H Q q)
def Gx.wk{r r':V->Option Int->Option Int->Hp->VK->Prop}(h:Gx X r)(i:∀x lo hi H Q,r' x lo hi H Q->r x lo hi H Q):Gx X r':=λpins s σ H x v vl vu lo hi sl Q I rx hs pl pu q=>h pins s σ H x v vl vu lo hi sl Q I rx hs pl pu (i x lo hi H Q q)
def Zbd(i:Nat):TE:=λσ H Q=>match σ[i]? with
 |some (some v)=>Q v H
 |_=>False
def Ri{i:Nat}{σ:L2.St}{H:Hp}{Q:VK}(h:Zbd i σ H Q):wF i σ H Q:=by
 unfold Zbd at h
 split at h
 ·exact⟨_,by assumption,h⟩
 ·exact h.elim
def mv(i:Nat){x:Str}{pos:Pos}(hN:X.N[i]?=some x:=by rfl)(hv:Ck X.env.scope x:=by first|exact Or.inl rfl|exact Or.inr (Or.inl rfl)|exact Or.inr (Or.inr rfl))(hd:(x== ("__debug__" :Str))=false:=by decide)
 (hcd:(x== ("__classdict__" :Str))=false:=by decide):PE X (.Name x pos) (Zbd i):=PE.wk (iI hN hv hd hcd) λ_ _ _ h=>Ri h
def bOf(x:V)(k:Bool->Prop):Prop:=match x with
 | .bl c=>k c
 |_=>False
def pq{x:V}{k:Bool->Prop}(h:bOf x k):∃c,x=.bl c/\k c:=by
 cases x with
 |bl c=>exact⟨c,rfl,h⟩
 |_=>exact h.elim
def KD(t:TE):TT:=λσ H Q=>t σ H λx H1=>bOf x λc=>Q c H1
def Zbe{op:CmpOp}{r:R2}(ho:aP X (compareOp op) r)(ha:PE X a ta)(hb:PE X b tb)(hm:behindInMarks op b=false):PT X (.Compare a [op] [b] pos) (KD (tOp r ta tb)):=by
 intro pins s σ H Q I h
 refine wpAny_isTrue_Compare1 (Ŭ (ha pins s σ H _ I h) λv s1 ⟨x,H1,I1,r1,q1⟩=>Ŭ (hb pins s1 σ H1 _ I1 q1) λu s2 ⟨y,H2,I2,r2,q2⟩=>
  Ŭ (ho pins s2 σ H2 x y v u _ I2 r1 r2 q2) λc s3 ⟨z,H3,I3,r3,q3⟩=>?_) hm
 obtain⟨k,e,q3⟩:=pq q3
 subst e
 cases r3
 exact wpAny_truthy_bool ⟨H3,I3,q3⟩
def CT(r r':R2)(ta tb tc:TE):TE:=λσ H Q=>ta σ H λx H1=>tb σ H1 λy H2=>r x y H2 λz H3=>bOf z λk=>
 (if k=true then tc σ H3 λw' H4=>r' y w' H4 Q else Q (.bl false) H3)
def KH{op op':CmpOp}{r r':R2}(ho:aP X (compareOp op) r)(ho':aP X (compareOp op') r')(ha:PE X a ta)(hb:PE X b tb)(hc:PE X c tc)
 (hm:lastMarks [op,op'] [b,c]=false:=by with_unfolding_all rfl):PE X (.Compare a [op,op'] [b,c] pos) (CT r r' ta tb tc):=by
 intro pins s σ H Q I h
 refine Compare_chain (Ŭ (ha pins s σ H _ I h) λv s1 ⟨x,H1,I1,r1,q1⟩=>chain_link (Ŭ (hb pins s1 σ H1 _ I1 q1) λu s2 ⟨y,H2,I2,r2,q2⟩=>
  Ŭ (ho pins s2 σ H2 x y v u _ I2 r1 r2 q2) λd s3 ⟨z,H3,I3,r3,q3⟩=>?_)) hm
 obtain⟨k,e,q3⟩:=pq q3
 subst e
 cases r3
 refine wpAny_truthy_bool ?_
 cases k with
 |false=>exact ite_ff ⟨.bl false,H3,I3,rfl,q3⟩
 |true=>exact ite_tt (chain_last (Ŭ (hc pins s3 σ H3 _ I3 q3) λw' s4 ⟨z',H4,I4,r4,q4⟩=>ho' pins s4 σ H4 y z' u w' Q I4 r2 r4 q4))
def KJ{op op':CmpOp}{r r':R2}(ho:aP X (compareOp op) r)(ho':aP X (compareOp op') r')(ha:PE X a ta)(hb:PE X b tb)(hc:PE X c tc)
 (hm:lastMarks [op,op'] [b,c]=false:=by with_unfolding_all rfl):PT X (.Compare a [op,op'] [b,c] pos) (KD (CT r r' ta tb tc)):=by
 intro pins s σ H Q I h
 refine isTrue_chain (Ŭ (ha pins s σ H _ I h) λv s1 ⟨x,H1,I1,r1,q1⟩=>test_link (Ŭ (hb pins s1 σ H1 _ I1 q1) λu s2 ⟨y,H2,I2,r2,q2⟩=>
  Ŭ (ho pins s2 σ H2 x y v u _ I2 r1 r2 q2) λd s3 ⟨z,H3,I3,r3,q3⟩=>?_)) hm
 obtain⟨k,e,q3⟩:=pq q3
 subst e
 cases r3
 refine wpAny_truthy_bool ?_
 cases k with
 |false=>exact ite_ff ⟨H3,I3,q3⟩
 |true=>
  refine ite_tt (test_last (Ŭ (hc pins s3 σ H3 _ I3 q3) λw' s4 ⟨z',H4,I4,r4,q4⟩=>Ŭ (ho' pins s4 σ H4 y z' u w' _ I4 r2 r4 q4) λd' s5 ⟨z2,H5,I5,r5,q5⟩=>?_))
  obtain⟨k2,e2,q5⟩:=pq q5
  subst e2
  cases r5
  exact wpAny_truthy_bool ⟨H5,I5,q5⟩
def ZdC(ta tb:TE):TE:=λσ H Q=>ta σ H λx H1=>bOf x λc=>if c=true then tb σ H1 Q else Q (.bl false) H1
def ZdD(ta:TE):TE:=λσ H Q=>ta σ H λx H1=>bOf x λc=>Q (.bl (!c)) H1
variable{rest:List Expr}
def Zbf(ha:PE X a ta)(hb:PE X (.BoolOp .And (b::rest) pos) tb):PE X (.BoolOp .And (a::b::rest) pos) (ZdC ta tb):=by
 intro pins s σ H Q I h
 refine BoolOp_and (Ŭ (ha pins s σ H _ I h) λv s1 ⟨x,H1,I1,r1,q1⟩=>?_)
 obtain⟨c,rfl,q1⟩:=pq q1
 cases r1
 refine wpAny_truthy_bool ?_
 cases c with
 |true=>exact hb pins s1 σ H1 Q I1 q1
 |false=>exact⟨.bl false,H1,I1,rfl,q1⟩
def Zbg(ha:PE X a ta):PE X (.UnaryOp .Not a pos) (ZdD ta):=by
 intro pins s σ H Q I h
 refine UnaryOp_ (Ŭ (ha pins s σ H _ I h) λv s1 ⟨x,H1,I1,r1,q1⟩=>?_)
 obtain⟨c,rfl,q1⟩:=pq q1
 cases r1
 exact not_of (wpAny_truthy_bool ⟨.bl (!c),H1,I1,rfl,q1⟩)
def mI(C:Int->Int->Prop)(g:Int->Int->V):R2:=λx y H Q=>match x,y with
 | .int i,.int j=>C i j/\Q (g i j) H
 |_,_=>False
def CW(g:Int->Int->V):R2:=λx y H Q=>match x,y with
 | .int i,.int j=>Q (g i j) H
 |_,_=>False
def vf{C:Int->Int->Prop}{g:Int->Int->V}(x y:V)(H:Hp)(Q:VK)(h:mI C g x y H Q):rI C g x y H Q:=by
 cases x with
 |int i=>
  cases y with
  |int j=>exact⟨i,j,rfl,rfl,h.1,h.2⟩
  |_=>exact h.elim
 |_=>exact h.elim
def pA{g:Int->Int->V}(x y:V)(H:Hp)(Q:VK)(h:CW g x y H Q):Qu g x y H Q:=by
 cases x with
 |int i=>
  cases y with
  |int j=>exact⟨i,j,rfl,rfl,h⟩
  |_=>exact h.elim
 |_=>exact h.elim
def ZdE:R2:=λx y H Q=>match x,y with
 | .int i,.int j=>Q (.int (i+j)) H
 | .str i,.str j=>i.length+j.length<=sizeLine/\Q (.str (i++j)) H
 |_,_=>False
def Zbh:aP X (binaryOp .Add) ZdE:=aP.wk (ZaU.or Cv) λx y H Q h=>by
 cases x with
 |int i=>
  cases y with
  |int j=>exact .inl ⟨i,j,rfl,rfl,h⟩
  |_=>exact h.elim
 |str i=>
  cases y with
  |str j=>exact .inr ⟨i,j,rfl,rfl,h.1,h.2⟩
  |_=>exact h.elim
 |_=>exact h.elim
def Ŝ:aP X (binaryOp .Sub) (CW λi j=>.int (i-j)):=aP.wk ZaV pA
def vg(i j:Int):Prop:=ZaT i j\/(Builtin.Int.intBits i<=1048576/\Builtin.Int.intBits j<=1048576)
theorem vg.ok{i j:Int}(h:vg i j):IntMulOk i j:=by
 rcases h with h|⟨h1,h2⟩
 ·exact h.ok
 ·exact IntMulOk.of_le h1 h2 (by decide)
def Zbi:aP X (binaryOp .Mult) (mI vg λi j=>.int (i*j)):=aP.wk (Gv (C:=vg) (g:=λi j=>i*j) λ_ _ _ _ _ _ _ hc q=>mul_int q hc.ok) vf
def Jm(_ j:Int):Prop:=j≠0/\Builtin.Int.intBits j<=8000
def Jm.py{i j:Int}(h:Jm i j):Builtin.divisionGoesByPylong i j=false:=by
 refine PyProof.noPylong_of_log2 ?_
 have hb:=intBits_le_iff.mp h.2
 have h0:j.natAbs≠0:=by have:=h.1;omega
 exact Nat.lt_of_lt_of_le ((Nat.log2_lt h0).mpr hb) (by decide)
def Ś:aP X (binaryOp .FloorDiv) (mI Jm λi j=>.int (i.fdiv j)):=aP.wk (Gv (C:=Jm) (g:=λi j=>i.fdiv j) λ_ _ _ _ _ _ _ hc q=>floordiv_int hc.1 q (.inl hc.py)) vf
def ĵ:aP X (binaryOp .Mod) (mI (λ_ j=>j≠0) λi j=>.int (i.fmod j)):=aP.wk QW vf
def jK:aP X (binaryOp .Pow) (mI Jg λi j=>.int (i ^ j.toNat)):=aP.wk ZaW vf
def lZ:aP X (compareOp .Lt) (CW λi j=>.bl (decide (i<j))):=aP.wk Zdq pA
def gQ:aP X (compareOp .LtE) (CW λi j=>.bl (decide (i<=j))):=aP.wk Zdr pA
def ZdF:aP X (compareOp .Gt) (CW λi j=>.bl (decide (j<i))):=aP.wk Zds pA
def ZdG:aP X (compareOp .GtE) (CW λi j=>.bl (decide (j<=i))):=aP.wk Zdt pA
def mU(g:Int->V):V->Hp->VK->Prop:=λx H Q=>match x with
 | .int i=>Q (g i) H
 |_=>False
def jL:QT X (unaryOp .USub) (mU λi=>.int (-i)):=QT.wk Za0 λx H Q h=>by
 cases x with
 |int i=>exact⟨i,rfl,h⟩
 |_=>exact h.elim
def mAbs:List V->Hp->VK->Prop:=λxs H Q=>match xs with
 | [.int i]=>Q (.int (if i<0 then -i else i)) H
 |_=>False
def Zbj:ž X (.builtin "abs") mAbs:=ž.wk Kp λxs H Q h=>by
 unfold mAbs at h
 split at h
 ·exact⟨_,rfl,h⟩
 ·exact h.elim
def KN:List V->Hp->VK->Prop:=λxs H Q=>match xs with
 | [.int i,.int j]=>Q (.int (if j<i then j else i)) H
 |_=>False
def wL(hc:X.calm=true):ž X (.builtin "min") KN:=ž.wk (Jh hc) λxs H Q h=>by
 unfold KN at h
 split at h
 ·exact⟨_,_,rfl,h⟩
 ·exact h.elim
def Zbk(K:PySem.W.Frag):List V->Hp->VK->Prop:=λxs H Q=>match xs with
 | [.str y]=>y.length<=sizeLine/\Q (.int (y.length:Int)) H
 | [.ref p]=>∃ys,(aQ K H p ys\/gG K H p ys)/\Q (.int (ys.length:Int)) H
 |_=>False
def bT:ž X (.builtin "len") (Zbk X.K):=ž.wk Kq λxs H Q h=>by
 unfold Zbk at h
 split at h
 ·exact⟨_,_,rfl,⟨h.1,rfl⟩,h.2⟩
 ·obtain⟨ys,h1,h2⟩:=h
  refine⟨_,ys.length,rfl,?_,h2⟩
  rcases h1 with h1|h1
  ·exact .inl ⟨ys,h1,rfl⟩
  ·exact .inr ⟨ys,h1,rfl⟩
 ·exact h.elim
def mIx(K:PySem.W.Frag):R2:=λx y H Q=>match x,y with
 | .ref p,.int i=>∃xs v,(aQ K H p xs\/gG K H p xs)/\uM xs i=some v/\Q v H
 | .str z,.int i=>∃c,z.length<=sizeLine/\uM z.cps.toList i=some c/\Q (.str ⟨#[c]⟩) H
 |_,_=>False
def Ĕ:CP X (mIx X.K):=CP.wk Za_ λx y H Q h=>by
 cases x with
 |ref p=>
  cases y with
  |int i=>
   obtain⟨xs,v,h1,h2,h3⟩:=h
   rcases h1 with h1|h1
   ·exact .inl ⟨p,xs,i,v,rfl,rfl,h1,h2,h3⟩
   ·exact .inr (.inl ⟨p,xs,i,v,rfl,rfl,h1,h2,h3⟩)
  |_=>exact h.elim
 |str z=>
  cases y with
  |int i=>
   obtain⟨c,h1,h2,h3⟩:=h
   exact .inr (.inr ⟨z,i,c,rfl,rfl,h1,h2,h3⟩)
  |_=>exact h.elim
 |_=>exact h.elim
def iOf(x:V)(k:Int->Prop):Prop:=match x with
 | .int i=>k i
 |_=>False
def ZdH(t:TE):TO:=λσ H Q=>t σ H λx H1=>iOf x λi=>Q (some i) H1
def KQ(h:PE X e te):PO X (some e) (ZdH te):=by
 intro pins s σ H Q I hw
 rw[evalPart_some]
 refine Ŭ (h pins s σ H _ I hw) λu s1 ⟨x,H1,I1,r1,q1⟩=>?_
 cases x with
 |int i=>
  obtain⟨t,rfl⟩:=r1
  exact⟨some i,H1,I1,.int i t,q1⟩
 |_=>exact q1.elim
def Zgb(K:PySem.W.Frag):V->Option Int->Option Int->Hp->VK->Prop:=λx lo hi H Q=>match x with
 | .ref a=>∃xs,aQ K H a xs/\∀p,H p=none->Q (.ref p) (upd H p (.lst (zY xs lo hi)))
 |_=>False
def KR:Gx X (Zgb X.K):=Gx.wk Rf λx lo hi H Q h=>by
 cases x with
 |ref a=>
  obtain⟨xs,h1,h2⟩:=h
  exact⟨a,xs,rfl,h1,h2⟩
 |_=>exact h.elim
end
end M2
namespace M2
open PySem PySem.Spec PyProof.Rows L2
section
variable{X:Cx}{tg:Expr}
end
mutual
def Rp(K:PySem.W.Frag)(H:Hp):PyData->V->Prop
 | .none,v=>v=.non
 | .bool b,v=>v=.bl b
 | .int i,v=>v=.int i
 | .str x,v=>v=.str x
 | .tuple ds,v=>∃a xs,v=.ref a/\gG K H a xs/\pB K H ds xs
 | .list ds,v=>∃a xs,v=.ref a/\aQ K H a xs/\pB K H ds xs
 | .dict _,_=>False
def pB(K:PySem.W.Frag)(H:Hp):List PyData->List V->Prop
 | [],xs=>xs=[]
 |d::ds,xs=>∃x r,xs=x::r/\Rp K H d x/\pB K H ds r
end
def Same.tup{K:PySem.W.Frag}{H H':Hp}{a:Addr}{xs:List V}(e:Same H H')(h:gG K H a xs):gG K H' a xs:=by
 rcases h with(h|⟨o,h⟩)|h
 ·exact .inl (.inl (e _ _ h))
 ·exact .inl (.inr ⟨o,e _ _ h⟩)
 ·exact .inr h
theorem Same.upd{H:Hp}{p:Addr}{o:HO}(h:H p=none):Same H (upd H p o):=λb u e=>by
 rw[Ę (Ġ e h)]
 exact e
mutual
theorem Rp.same{K:PySem.W.Frag}{H H':Hp}(e:Same H H'):∀(d:PyData) (v:V),Rp K H d v->Rp K H' d v
 | .none,_,h=>by unfold Rp at h ⊢;exact h
 | .bool _,_,h=>by unfold Rp at h ⊢;exact h
 | .int _,_,h=>by unfold Rp at h ⊢;exact h
 | .str _,_,h=>by unfold Rp at h ⊢;exact h
 | .tuple ds,_,h=>by
   unfold Rp at h ⊢
   obtain⟨a,xs,h1,h2,h3⟩:=h
   exact⟨a,xs,h1,Same.tup e h2,pB.same e ds xs h3⟩
 | .list ds,_,h=>by
   unfold Rp at h ⊢
   obtain⟨a,xs,h1,h2,h3⟩:=h
   exact⟨a,xs,h1,e.seq h2,pB.same e ds xs h3⟩
 | .dict _,_,h=>by unfold Rp at h;exact h.elim
theorem pB.same{K:PySem.W.Frag}{H H':Hp}(e:Same H H'):∀(ds:List PyData) (xs:List V),pB K H ds xs->pB K H' ds xs
 | [],_,h=>by unfold pB at h ⊢;exact h
 |d::ds,_,h=>by
  unfold pB at h ⊢
  obtain⟨x,r,h1,h2,h3⟩:=h
  exact⟨x,r,h1,Rp.same e d x h2,pB.same e ds r h3⟩
end
section
variable{X:Cx}{pins:List (Addr×Obj)}{σ:L2.St}{H:Hp}{s:Shared}
mutual
theorem Rp.reads(I:Inv X pins σ H s):∀(d:PyData) (v:V) (u:Value),Rp X.K H d v->RelV v u->∃as,Reads s.heap u d as
 | .none,v,u,h,r=>by
   unfold Rp at h;subst h;cases r;exact⟨_,.none⟩
 | .bool b,v,u,h,r=>by
   unfold Rp at h;subst h;cases r;exact⟨_,.bool b⟩
 | .int i,v,u,h,r=>by
   unfold Rp at h;subst h;obtain⟨t,rfl⟩:=r;exact⟨_,.int i t⟩
 | .str x,v,u,h,r=>by
   unfold Rp at h;subst h;obtain⟨t,rfl⟩:=r;exact⟨_,.str x t⟩
 | .tuple ds,v,u,h,r=>by
   unfold Rp at h
   obtain⟨a,xs,h1,h2,h3⟩:=h
   subst h1
   cases r
   obtain⟨its,rv,⟨o,e,hc,n,hd⟩,hz⟩:=I.tuple h2
   obtain⟨as,ra⟩:=pB.reads I ds xs its h3 rv
   exact⟨_,.tuple e hc hd (by simpa using ra)⟩
 | .list ds,v,u,h,r=>by
   unfold Rp at h
   obtain⟨a,xs,h1,h2,h3⟩:=h
   subst h1
   cases r
   obtain⟨its,rv,⟨o,n,e,hc,hdd,hd⟩,hz⟩:=I.list h2
   obtain⟨as,ra⟩:=pB.reads I ds xs its h3 rv
   exact⟨_,.list e hc hd (by simpa using ra)⟩
 | .dict _,_,_,h,_=>by unfold Rp at h;exact h.elim
theorem pB.reads(I:Inv X pins σ H s):∀(ds:List PyData) (xs:List V) (us:List Value),pB X.K H ds xs->Vals xs us->∃as,ReadsAll s.heap us ds as
 | [],xs,us,h,r=>by
   unfold pB at h;subst h;cases r;exact⟨_,.nil⟩
 |d::ds,xs,us,h,r=>by
  unfold pB at h
  obtain⟨x,q,h1,h2,h3⟩:=h
  subst h1
  cases r with
  |cons r1 r2=>
   obtain⟨as,ra⟩:=Rp.reads I d x _ h2 r1
   obtain⟨bs,rb⟩:=pB.reads I ds q _ h3 r2
   exact⟨_,.cons ra rb⟩
end
end
def Rj(K:PySem.W.Frag)(neg:Bool):R2:=λx y H Q=>∃d e,Rp K H d x/\Rp K H e y/\d.canLay0=true/\e.canLay0=true/\min d.depth e.depth<=60/\Q (.bl (if neg then !PyData.eqv d e else PyData.eqv d e)) H
section
variable{X:Cx}
def ř(hu:X.A.units+64<cLine):aP X (compareOp .Eq) (Rj X.K false):=by
 intro pins s σ H x y v u Q I rx ry h
 obtain⟨d,e,h1,h2,h3,h4,h5,q⟩:=h
 obtain⟨as,ra⟩:=Rp.reads I d x v h1 rx
 obtain⟨bs,rb⟩:=Rp.reads I e y u h2 ry
 exact SeqAt.compareEq_reads ra rb h3 h4 (by omega) ⟨.bl _,H,I,rfl,q⟩
def wM(hu:X.A.units+64<cLine):aP X (compareOp .NotEq) (Rj X.K true):=by
 intro pins s σ H x y v u Q I rx ry h
 obtain⟨d,e,h1,h2,h3,h4,h5,q⟩:=h
 obtain⟨as,ra⟩:=Rp.reads I d x v h1 rx
 obtain⟨bs,rb⟩:=Rp.reads I e y u h2 ry
 exact SeqAt.compareNe_reads ra rb h3 h4 (by omega) ⟨.bl _,H,I,rfl,q⟩
end
section
variable{K:PySem.W.Frag}
end
end M2
namespace M3
open PySem PySem.Spec PyProof.Rows L2 M2
def GJ{P:Program}{w:World}{H:Hp}{h h':Heap}{C:Addr}(x:gK P w H h)(hC:H C=none)(k:∀b u,b≠C->h.get? b=some u->h'.get? b=some u):gK P w H h':=λa o e=>
 (x a o e).stay (fun b u hb q=>k b u (by
   rcases hb with hb|hb
   ·rw[hb];exact Ġ e hC
   ·exact Ġ hb hC) q) (λ_ q=>q) λ_ _ q=>q
theorem mZ{env:Env}:∀(ns:List (Str×NameKind)) (cs:List (Str×Addr)),(∀y∈ns,y.2=.free->∃c,env.cells.lookup y.1=some c)->(∀x c,cs.lookup x=some c->env.cells.lookup x=some c)->
 ∃cl,(forIn ns cs (λ(x:Str×NameKind) r=>if(x.2== .free)=true then(do let c <-cellOf env x.1;pure (ForInStep.yield ((x.1,c)::r))) else pure (ForInStep.yield r)):Sem (List (Str×Addr)))=pure cl/\
  (∀x c,cl.lookup x=some c->env.cells.lookup x=some c)/\(∀x,(∃c,cs.lookup x=some c)->∃c,cl.lookup x=some c)/\∀y∈ns,y.2=.free->∃c,cl.lookup y.1=some c
 | [],cs,_,h2=>⟨cs,rfl,h2,λ_ z=>z,λ_ z=>nomatch z⟩
 |(n,k)::ns,cs,h1,h2=>by
  by_cases hk:k=.free
  ·subst hk
   obtain⟨c,hc⟩:=h1 (n,.free) List.mem_cons_self rfl
   have e:cellOf env n=pure c:=by unfold cellOf;rw[hc]
   have h2':∀x d,((n,c)::cs).lookup x=some d->env.cells.lookup x=some d:=λx d q=>by
    rw[List.lookup_cons] at q
    cases hx:x== n with
    |true=>
     rw[hx] at q
     have:x=n:=eq_of_beq hx
     subst this
     cases q
     exact hc
    |false=>
     rw[hx] at q
     exact h2 x d q
   obtain⟨cl,q1,q2,q3,q4⟩:=mZ ns ((n,c)::cs) (λy hy=>h1 y (List.mem_cons_of_mem _ hy)) h2'
   refine⟨cl,?_,q2,λx ⟨d,hd⟩=>q3 x ?_,λy hy hf=>?_⟩
   ·rw[List.forIn_cons]
    simp only[beq_self_eq_true,if_true,e,pure_bind]
    exact q1
   ·rw[List.lookup_cons]
    cases hx:x== n with
    |true=>exact⟨c,rfl⟩
    |false=>exact⟨d,hd⟩
   ·rcases List.mem_cons.mp hy with rfl|hy
    ·exact q3 n ⟨c,by rw[List.lookup_cons,beq_self_eq_true]⟩
    ·exact q4 y hy hf
  ·have hb:(k== NameKind.free)=false:=by simpa using hk
   obtain⟨cl,q1,q2,q3,q4⟩:=mZ ns cs (λy hy=>h1 y (List.mem_cons_of_mem _ hy)) h2
   refine⟨cl,?_,q2,q3,λy hy hf=>?_⟩
   ·rw[List.forIn_cons]
    simp only[hb,Bool.false_eq_true,if_false,pure_bind]
    exact q1
   ·rcases List.mem_cons.mp hy with rfl|hy
    ·exact absurd hf hk
    ·exact q4 y hy hf
def iK{scope:Scope}{env:Env}(h:∀y∈scope.names,y.2=.free->∃c,env.cells.lookup y.1=some c) :
 ∃cl,closureFor scope env=pure cl/\(∀x c,cl.lookup x=some c->env.cells.lookup x=some c)/\∀y∈scope.names,y.2=.free->∃c,cl.lookup y.1=some c:=by
 obtain⟨cl,q1,q2,_,q4⟩:=mZ (env:=env) scope.names [] h (λx c z=>by simp at z)
 refine⟨cl,?_,q2,q4⟩
 unfold closureFor
 have e:(forIn scope.names [] (λ(x:Str×NameKind) (r:List (Str×Addr))=>match x with
  |(name,kind)=>if(kind== .free)=true then(do let a <-cellOf env name;pure (ForInStep.yield ((name,a)::r))) else pure (ForInStep.yield r)):Sem (List (Str×Addr)))=pure cl:=q1
 first
  |(simp only[bind_pure];exact q1)
  |(rw[show ∀(t:Sem (List (Str×Addr))),(do let r <-t;pure r)=t from λt=>by simp];exact q1)
  |(simp only[q1,pure_bind])
def lF(X:Cx)(N':List Str)(scope:Scope)(cl:List (Str×Addr))(C:Addr)(s:Shared)(H:Hp)(fp:List Addr):Cx where
 prog:=X.prog
 w:=X.w
 K:=X.K
 mg:=X.mg
 base:=X.base
 A:=X.A
 N:=N'
 s₀:= s
 H₀:= H
 env:=compEnvC scope cl C X.env
 outer:=X.stack
 stack:=X.stack
 ex:=fp
 fn:=λx=>scope.names.lookup x== some .cell
 calm:=X.calm
 pn:=[]
 xe:=λ_ _=>False
def jM(X:Cx)(sc scope:Scope):List Str->List Nat->Prop
 |x::xs,j::js=>X.N[j]?=some x/\(scope.names.lookup x=some .free/\(sc.names.lookup x=some .cell\/sc.names.lookup x=some .free))/\jM X sc scope xs js
 |_,[]=>True
 | [],_::_=>False
def gR(js:List Nat)(nl:Nat)(σ:L2.St):L2.St:=js.map (λj:Nat=>(σ[j]?).getD none)++List.replicate nl none
theorem pC{X:Cx}{sc scope:Scope}{σ:L2.St}{nl:Nat}:∀{N':List Str} {js:List Nat} {i:Nat} {x:Str} {v:V},jM X sc scope N' js->N'[i]?=some x->(gR js nl σ)[i]?=some (some v)->
 ∃j:Nat,X.N[j]?=some x/\σ[j]?=some (some v)/\scope.names.lookup x=some .free/\(sc.names.lookup x=some .cell\/sc.names.lookup x=some .free)
 |N',[],i,x,v,_,_,h=>by
  unfold gR at h
  rw[List.map_nil,List.nil_append,List.getElem?_replicate] at h
  split at h<;>cases h
 | [],_::_,_,_,_,c,_,_=>c.elim
 |y::N',j::js,0,x,v,c,h1,h2=>by
  obtain⟨c1,c2,_⟩:=c
  simp at h1
  subst h1
  have e:(σ[j]?).getD none=some v:=by simpa[gR] using h2
  refine⟨j,c1,?_,c2⟩
  cases q:σ[j]? with
  |none=>rw[q] at e;cases e
  |some o=>rw[q] at e;exact congrArg some e
 |y::N',j::js,i+1,x,v,c,h1,h2=>by
  exact pC (N':=N') (js:=js) (i:=i) c.2.2 (by simpa using h1) (by simpa[gR] using h2)
section
variable{prog:Program}{w:World}{A:Around}{R:Result->Shared->Prop}{s:Shared}
def nP{elt target iter:Expr}{ifs:List Expr}{scope:Scope}{pos:Pos}{it acc:Value}{env:Env}(I:Nat->Shared->Prop)
 (turn:∀n s,I n s→wpAny (model prog w) A (pyNext it) (fun r s₁=>match r with
   |none=>R (.ok .next) s₁
   |some v=>wpAny (model prog w) A (letOwnedTupleGo target it v) (fun _ s₁'=>wpAny (model prog w) A (assign target env v) (fun _ s₂=>
     wpAny (model prog w) A (forIn ifs true λc r=>if r=true then do let ok <-isTrue c env (eval c env);pure (ForInStep.yield ok) else pure (ForInStep.yield r)) (λok s₃=>
      if ok=true then wpAny (model prog w) A (eval elt env) (λx s₄=>
       wpAny (model prog w) A (call (.builtin "list.append") [acc,x]) (λ_ s₅=>∃m,m<n/\I m s₅) (λ_ _=>False) s₄) (λ_ _=>False) s₃
      else ∃m,m<n/\I m s₃) (λ_ _=>False) s₂) (λ_ _=>False) s₁') (λ_ _=>False) s₁) (λ_ _=>False) s)
 (n:Nat)(h:I n s) :
 codeAny (model prog w) A (.compLoop (.ListComp elt [⟨target,iter,ifs,0⟩] scope pos) 0 it acc env) R s:=by
 refine codeAny_loop rfl I (λn s hI=>?_) n h
 show wpAny _ A ((compTurn (.ListComp elt [⟨target,iter,ifs,0⟩] scope pos) 0 it acc env).onRaise (λx=>do noteFrame x env;theTreesLotGoes x)) _ _ s
 refine wpAny_noted (wpAny_noRaise ?_)
 rw[compTurn_list]
 refine wpAny_bind (wpAny_standAt (wpAny_bind (wpAny_mono (turn n s hI) (λr s₁ h₁=>?_) λ_ _ h'=>h')))
 cases r with
 |none=>exact wpAny_pure h₁
 |some v=>
  refine wpAny_bind (wpAny_mono h₁ (λ_ s₁' h₁'=>?_) λ_ _ h'=>h')
  refine wpAny_bind (wpAny_mono h₁' (λ_ s₂ h₂=>wpAny_bind (wpAny_mono h₂ (λok s₃ h₃=>?_) λ_ _ h'=>h')) λ_ _ h'=>h')
  cases ok with
  |false=>exact wpAny_pure ⟨rfl,h₃⟩
  |true=>
   exact wpAny_bind (wpAny_bind (wpAny_mono h₃ (λx s₄ h₄=>wpAny_bind (wpAny_mono h₄ (λ_ s₅ h₅=>wpAny_pure (wpAny_pure ⟨rfl,h₅⟩)) λ_ _ h'=>h')) λ_ _ h'=>h'))
end
def Uc(X:Cx)(ifs:List Expr)(t:TT):Prop:=
 ∀(pins:List (Addr×Obj)) (s:Shared) (σ:L2.St) (H:Hp) (Q:Bool->Hp->Prop),Inv X pins σ H s->t σ H Q->
  wpAny (model X.prog X.w) X.A (forIn ifs true λc r=>if r=true then do let ok <-isTrue c X.env (eval c X.env);pure (ForInStep.yield ok) else pure (ForInStep.yield r)) (TP X pins σ Q) X.xe s
def Zgc:TT:=λ_ H Q=>Q true H
def Rk{X:Cx}:Uc X [] Zgc:=λ_ _ _ H _ I h=>wpAny_tests_nil ⟨H,I,h⟩
def Rm{X:Cx}{c:Expr}{t:TT}(h:PT X c t):Uc X [c] t:=λpins s σ H Q I hw=>wpAny_tests_one (h pins s σ H Q I hw)
def KY(js:List Nat)(nl:Nat)(wi:TI)(g:TG)(tt:TT)(te:TE):TE:=λσ H Q=>wi σ H λJ H1=>∀D,H1 D=none->
 ∃W:Nat->Nat->L2.St->Hp->Prop,(∃m,W 0 m (gR js nl σ) (upd H1 D (.lst [])))/\∀i m σ' H',W i m σ' H'->
  (J.stop i H'∧Q (.ref D) H')∨(J.go i H'∧∃N:L2.St→Hp→Prop,(∀σ2 H2,N σ2 H2→∃m',m'<m∧W (i+1) m' σ2 H2)∧∀x H2,J.yld i H' x H2→g x σ' H2 fun σ2 H3=>tt σ2 H3 fun c H4=>
    if c=true then te σ2 H4 λy H5=>∃ys,H5 D=some (.lst ys)/\ys.length<sizeLine/\N σ2 (upd H5 D (.lst (ys ++ [y]))) else N σ2 H4)
section
variable{X:Cx}{elt tg iter:Expr}{ifs:List Expr}{scope:Scope}{pos:Pos}{wi:TI}{g:TG}{tt:TT}{te:TE}
theorem iM{env:Env}:∀{names:List (Str×NameKind)} {x:Str} {k:NameKind},(k=.cell\/k=.free)->
 (names.map λ(n,k)=>if(k== NameKind.free && env.scope.kind== .function && env.kindOf n== some .cell) then(n,NameKind.cell) else(n,k)).lookup x=some k->(x,NameKind.free)∈names\/(x,NameKind.cell)∈names
 | [],x,k,_,h=>by simp at h
 |(n,q)::r,x,k,hk,h=>by
  have ih:=@iM env r x k hk
  rw[List.map_cons] at h
  by_cases hx:x=n
  ·subst hx
   by_cases hf:q=.free
   ·subst hf
    exact .inl List.mem_cons_self
   ·have hb:(q== NameKind.free)=false:=by simpa using hf
    have e:(if(q== NameKind.free && env.scope.kind== .function && env.kindOf x== some .cell)=true then(x,NameKind.cell) else(x,q))=(x,q):=by
     rw[hb];rfl
    have h2:=h
    simp only[e,List.lookup_cons,beq_self_eq_true] at h2
    have:q=k:=Option.some.inj h2
    rcases hk with hk|hk
    ·rw[this,hk]
     exact .inr List.mem_cons_self
    ·exact absurd (this.trans hk) hf
  ·have hn:(x== n)=false:=by simpa using hx
   have h3:(x,NameKind.free)∈r\/(x,NameKind.cell)∈r:=ih (by
    by_cases c:(q== NameKind.free && env.scope.kind== .function && env.kindOf n== some .cell)=true
    ·simp only[c,if_true,List.lookup_cons,hn] at h
     exact h
    ·simp only[c,if_false,Bool.false_eq_true,List.lookup_cons,hn] at h
     exact h)
   rcases h3 with h3|h3
   ·exact .inl (List.mem_cons_of_mem _ h3)
   ·exact .inr (List.mem_cons_of_mem _ h3)
theorem aJ:∀(names:List (Str×NameKind)) (n:Nat) (acc:List (Str×Addr)),cellsFrom n names acc=cellsFrom n names []++acc
 | [],_,_=>rfl
 |(x,k)::r,n,acc=>by
  unfold cellsFrom
  split
  ·rw[aJ r (n+1) ((x,n)::acc),aJ r (n+1) [(x,n)],List.append_assoc]
   rfl
  ·exact aJ r n acc
theorem iQ:∀(names:List (Str×NameKind)) (n:Nat) {x:Str} {c:Addr},(x,c)∈cellsFrom n names []->(x,NameKind.cell)∈names
 | [],_,_,_,h=>by simp[cellsFrom] at h
 |(y,k)::r,n,x,c,h=>by
  unfold cellsFrom at h
  split at h
  ·rename_i hk
   rw[aJ r (n+1) [(y,n)]] at h
   rcases List.mem_append.mp h with h|h
   ·exact List.mem_cons_of_mem _ (iQ r _ h)
   ·have e:(x,c)=(y,n):=by simpa using h
    cases e
    rw[beq_iff_eq.mp hk]
    exact List.mem_cons_self
  ·exact List.mem_cons_of_mem _ (iQ r _ h)
structure Blk(X:Cx)(scope:Scope)(n:Nat)(h:Heap)(cl:List (Str×Addr)):Prop where
 at_:∀x c,cl.lookup x=some c->(X.env.cells.lookup x=some c/\scope.names.lookup x≠some .cell)\/(n<c/\h.IsCell c none/\scope.names.lookup x=some .cell)
 inj:∀x y c,cl.lookup x=some c->cl.lookup y=some c->n<c->x=y
 has:∀x,((x,NameKind.free)∈scope.names\/(x,NameKind.cell)∈scope.names)->∃c,cl.lookup x=some c
def KZ{X:Cx}{scope:Scope}{n:Nat}{h:Heap}{cl:List (Str×Addr)}(hcell:∀y∈scope.names,y.2=.cell->scope.names.lookup y.1=some .cell)
 (h1:∀x c,cl.lookup x=some c->X.env.cells.lookup x=some c)(h2:∀y∈scope.names,y.2=.free->∃c,cl.lookup y.1=some c)(hlt:∀x c,X.env.cells.lookup x=some c->c<n)
 (ok:CellsOk h (n+1) (cellsFrom (n+1) scope.names [])):Blk X scope n h (cellsFrom (n+1) scope.names cl):=by
 have sp:∀x c,(cellsFrom (n+1) scope.names cl).lookup x=some c->(cl.lookup x=some c/\(cellsFrom (n+1) scope.names []).lookup x=none)\/(cellsFrom (n+1) scope.names []).lookup x=some c:=λx c e=>by
  rw[aJ,List.lookup_append] at e
  cases q:(cellsFrom (n+1) scope.names []).lookup x with
  |none=>rw[q] at e;exact .inl ⟨by simpa using e,rfl⟩
  |some d=>rw[q] at e;exact .inr (by simpa using e)
 refine⟨λx c e=>?_,λx y c e1 e2 hc=>?_,λx hx=>?_⟩
 ·rcases sp x c e with⟨e,q⟩|e
  ·refine .inl ⟨h1 x c e,λz=>?_⟩
   obtain⟨d,hd⟩:=nO (sc:=scope) (n:=n+1) z
   rw[hd] at q
   cases q
  ·have m:=mem_of_lookup e
   exact .inr ⟨(ok.empty x c m).2,(ok.empty x c m).1,hcell _ (iQ _ _ m) rfl⟩
 ·have nw:∀z,(cellsFrom (n+1) scope.names cl).lookup z=some c→(cellsFrom (n+1) scope.names []).lookup z=some c:=fun z e=>by
   rcases sp z c e with⟨e,q⟩|e
   ·exact absurd (hlt z c (h1 z c e)) (Nat.lt_asymm hc)
   ·exact e
  exact name_of_addr ok.apart (mem_of_lookup (nw x e1)) (mem_of_lookup (nw y e2))
 ·rw[aJ,List.lookup_append]
  rcases hx with hx|hx
  ·obtain⟨c,hc⟩:=h2 _ hx rfl
   cases q:(cellsFrom (n+1) scope.names []).lookup x with
   |none=>exact⟨c,by simpa using hc⟩
   |some d=>exact⟨d,rfl⟩
  ·obtain⟨d,hd⟩:=nO (sc:=scope) (n:=n+1) (hcell _ hx rfl)
   rw[hd]
   exact⟨d,rfl⟩
def mj{M:Model}{A:Around}{E:Value->Shared->Prop}{s:Shared}{scope:Scope}{globals:Addr}{closure:List (Str×Addr)}{qual:Str}
 {func:Option Addr}{code:Value}{env0:Env}{builtins:Addr}{Q:Env->Shared->Prop}
 (hQ:∀h',h'.Ns s.heap.objs.size (fun _=>none)→(∀b o,s.heap.get? b=some o→h'.get? b=some o)→CellsOk h' (s.heap.objs.size+1) (cellsFrom (s.heap.objs.size+1) scope.names [])→
   Q (newEnv scope s.heap.objs.size globals (cellsFrom (s.heap.objs.size+1) scope.names closure) qual func code (some env0) builtins) {s with heap:=h'}) :
 wpAny M A (newFunctionEnv scope globals closure [] qual func code (some env0) builtins) Q E s:=by
 simp only[newFunctionEnv,Option.isSome_some,if_true]
 refine wpAny_bind (wpAny_alloc ?_)
 refine wpAny_bind (wpAny_layCells _ (λname kind cells=>by cases hkc:kind== NameKind.cell<;>simp[hkc]) _ _ _ _ ?_)
 have ok:=cellsFrom_ok scope.names (s.heap.push {cls:=.type "dict",data:=.dict #[]}) (s.heap.objs.size+1) [] ⟨λ_ _ hm=>(nomatch hm),List.Pairwise.nil⟩ (by rw[Heap.size_push];exact Nat.le_refl _)
 rw[Heap.size_push] at ok
 rw[show({s with heap:=s.heap.push {cls:=.type "dict",data:=.dict #[]}}:Shared).heap.objs.size=s.heap.objs.size+1 from Heap.size_push ..]
 refine wpAny_bind ?_
 rw[List.forIn_nil]
 exact wpAny_pure (wpAny_pure (hQ _ ((Heap.Ns.new s.heap (.type "dict")).keeps (pushCells_keeps _ _)) (λb o e=>pushCells_keeps _ _ b o (Heap.get?_push_of_some _ e)) ok))
theorem nQ{env:Env}:∀{names:List (Str×NameKind)} {x:Str},names.lookup x=some .free->
 ¬(names.map λ(n,k)=>if(k== NameKind.free && env.scope.kind== .function && env.kindOf n== some .cell) then(n,NameKind.cell) else(n,k)).lookup x=some .local
 | [],x,h=>by simp at h
 |(n,q)::r,x,h=>by
  intro h2
  rw[List.map_cons] at h2
  rw[List.lookup_cons] at h
  cases hx:x== n with
  |true=>
   rw[hx] at h
   cases h
   by_cases c:(NameKind.free== NameKind.free && env.scope.kind== .function && env.kindOf n== some .cell)=true
   ·simp only[c,if_true,List.lookup_cons,hx] at h2
    cases h2
   ·simp only[c,if_false,Bool.false_eq_true,List.lookup_cons,hx] at h2
    cases h2
  |false=>
   rw[hx] at h
   have ih:=nQ (env:=env) h
   by_cases c:(q== NameKind.free && env.scope.kind== .function && env.kindOf n== some .cell)=true
   ·simp only[c,if_true,List.lookup_cons,hx] at h2
    exact ih h2
   ·simp only[c,if_false,Bool.false_eq_true,List.lookup_cons,hx] at h2
    exact ih h2
def vh{pins:List (Addr×Obj)}{σ:L2.St}{H:Hp}{s:Shared}{N':List Str}{js:List Nat}{nl:Nat}{sc:Scope}{cl:List (Str×Addr)}{fp:List Addr}{h':Heap}{tk:Nat}
 (hsc:X.env.scope=sc)(hk:scope.kind=.function)(hcap:jM X sc scope N' js)(hlen:js.length+nl=N'.length)(B:Blk X scope s.heap.objs.size h' cl)
 (I:Inv X pins σ H s)(hf:∀b∈fp,dB X pins H b)(hlt:∀b∈fp,b<s.heap.objs.size)
 (hn:h'.Ns s.heap.objs.size (λ_=>none))(kp:∀b o,s.heap.get? b=some o->h'.get? b=some o) :
 Inv (lF X N' scope cl s.heap.objs.size s H fp) [] (gR js nl σ) H {s with heap:=h',toks:=tk}:=by
 have K_:∀x,((lF X N' scope cl s.heap.objs.size s H fp).env.kindOf x=some .cell\/(lF X N' scope cl s.heap.objs.size s H fp).env.kindOf x=some .free)->∃c,cl.lookup x=some c:=λx hx=>by
  rcases hx with hx|hx
  ·exact B.has x (iM (.inl rfl) hx)
  ·exact B.has x (iM (.inr rfl) hx)
 have lt:∀x c,X.env.cells.lookup x=some c->c<s.heap.objs.size:=λx c e=>by
  obtain⟨v,o,ho,_⟩:=I.cell x c e
  exact Heap.lt_size ho
 have inj:∀x y c,cl.lookup x=some c->cl.lookup y=some c->x=y:=λx y c e1 e2=>by
  rcases B.at_ x c e1 with⟨q1,_⟩|⟨q1,_⟩
  ·rcases B.at_ y c e2 with⟨q2,_⟩|⟨q2,_⟩
   ·exact I.ok.inj x y c q1 q2
   ·exact absurd (lt x c q1) (Nat.lt_asymm q2)
  ·exact B.inj x y c e1 e2 q1
 refine⟨⟨I.ok.mod,hk,I.ok.glob,I.ok.blt,Nat.le_refl _,inj,K_,λx c z e=>by
  rcases B.at_ x c e with⟨_,q⟩|⟨q,_⟩
  ·exact absurd (beq_iff_eq.mp z) q
  ·exact Nat.le_of_lt q,I.ok.hd,I.ok.frames,.inl rfl,λb hb=>⟨Nat.ne_of_lt (hlt b hb),λx c e=>by
  rcases B.at_ x c e with⟨q,_⟩|⟨q,_⟩
  ·exact(hf b hb).2.2.2.2.1 x c q
  ·exact Nat.ne_of_gt (Nat.lt_trans (hlt b hb) q)⟩,
  I.bs,Nat.le_trans I.ok.Gp I.sz,fun b o e hb=>?_,fun b hb hz=>?_,I.stack,I.qZ,I.tb⟩,rfl,I.bare,Un.kept kp,⟨_,hn,fun i x v e1 e2 e3=>?_⟩,fun x c e=>?_,I.hok.fresh (Nat.le_refl _),fun x c e=>by
    rcases B.at_ x c e with⟨q,_⟩|⟨q,_⟩
    ·exact I.dz x c q
    ·exact I.hok.fresh (Nat.le_of_lt q),λp hp=>?_,I.hok.kept kp,?_⟩
 ·rcases(hf b hb).2.2.2.1 with z|z
  ·exact I.ok.uK b o e z
  ·exact absurd (Nat.lt_of_lt_of_le (Heap.lt_size e) (Nat.le_trans I.ok.Gp z)) (Nat.lt_irrefl _)
 ·rcases List.mem_cons.mp (I.rK b hz) with z|z
  ·exact(hf b hb).2.1 z
  ·exact(hf b hb).2.2.1 z
 ·obtain⟨j,q1,q2,q0,q3⟩:=pC hcap e1 e2
  obtain⟨m,hm,hl⟩:=I.loc
  have Zbl:Ck X.env.scope x:=by
   rw[hsc]
   rcases q3 with q3|q3
   ·exact .inr (.inl q3)
   ·exact .inr (.inr q3)
  obtain⟨u,ru,lk⟩:=hl j x v q1 q2 Zbl
  refine⟨u,ru,?_⟩
  rcases lk with⟨k1,_⟩|⟨k1,c,hc,ic⟩
  ·exfalso
   have k1':sc.names.lookup x=some .local:=by rw[<-hsc];exact k1
   rcases q3 with q3|q3<;>(rw[k1'] at q3;cases q3)
  ·have e3':(lF X N' scope cl s.heap.objs.size s H fp).env.kindOf x=some .local\/(lF X N' scope cl s.heap.objs.size s H fp).env.kindOf x=some .cell\/(lF X N' scope cl s.heap.objs.size s H fp).env.kindOf x=some .free:=e3
   rcases e3' with z|z
   ·exact absurd z (nQ (env:=X.env) q0)
   ·obtain⟨d,hd⟩:=K_ x z
    have:d=c:=by
     rcases B.at_ x d hd with⟨q,_⟩|⟨_,_,q⟩
     ·rw[hc] at q
      exact(Option.some.inj q).symm
     ·rw[q0] at q
      cases q
    subst this
    exact .inr ⟨z,d,hd,by
     obtain⟨o,ho,hd'⟩:=ic
     exact⟨o,kp _ _ ho,hd'⟩⟩
 ·rcases B.at_ x c e with⟨q,_⟩|⟨_,q,_⟩
  ·obtain⟨v,o,ho,hd⟩:=I.cell x c q
   exact⟨v,o,kp _ _ ho,hd⟩
  ·exact⟨none,q⟩
 ·exact absurd hp (by simp[lF])
 ·show _=N'.length
  rw[<-hlen]
  simp[gR]
def rT{pins:List (Addr×Obj)}{σ σ':L2.St}{H H':Hp}{s s':Shared}{N':List Str}{cl:List (Str×Addr)}{fp:List Addr}{h':Heap}(I:Inv X pins σ H s)(hf:∀b∈fp,dB X pins H b)
 (J:Inv (lF X N' scope cl s.heap.objs.size s H fp) [] σ' H' s')(kp:∀b u,b≠s.heap.objs.size->s'.heap.get? b=some u->h'.get? b=some u):Inv X pins σ H' {s' with heap:=h'}:=by
 have ne:∀{b:Addr} {o:Obj},s.heap.get? b=some o->b≠s.heap.objs.size:=λe=>Nat.ne_of_lt (Heap.lt_size e)
 have u:=J.base
 refine I.call' (ch:=fp) J.os ⟨λb o e n hb hx=>kp b o (ne e) (u.keep b o e n hb hx),λb o e n hb hx=>?_,λb o e n hx=>u.free b o e n hx,λb o e hx=>?_,u.tups,u.iG,u.gF⟩ (GJ J.hok J.free kp) J.bare λb hb=>?_
 ·obtain⟨sl,q⟩:=u.slot b o e n hb hx
  exact⟨sl,kp b _ (ne e) q⟩
 ·obtain⟨o',q⟩:=u.there b o e hx
  exact⟨o',kp b _ (ne e) q⟩
 ·exact⟨(hf b hb).2.2.2.1,(hf b hb).2.1,(hf b hb).2.2.2.2.1,(hf b hb).2.2.2.2.2⟩
def Rn(N':List Str)(js:List Nat)(nl:Nat)(sc:Scope)(hsc:X.env.scope=sc)(hcalm:X.calm=true)
 (hi:PI X.bD tg iter wi)(hg:∀cl C s H fp,PG (lF X.bD N' scope cl C s H fp) tg g)(ht:∀cl C s H fp,Uc (lF X.bD N' scope cl C s H fp) ifs tt)(he:∀cl C s H fp,PE (lF X.bD N' scope cl C s H fp) elt te)
 (hcap:jM X.bD sc scope N' js)(hlen:js.length+nl=N'.length:=by rfl)
 (hk:scope.kind=.function:=by rfl)(hcell:∀y∈scope.names,y.2=.cell->scope.names.lookup y.1=some .cell:=by decide +kernel)(hnames:∀y∈scope.names,y.2=.local->scope.names.lookup y.1=some .local:=by decide +kernel)
 (hfree:∀y∈scope.names,y.2=.free->(sc.names.lookup y.1=some .cell\/sc.names.lookup y.1=some .free):=by decide +kernel)
 (hs:∀x,foldedSetIterable iter X.env x=pure x:=by intro _;rfl) :
 PE X.bD (.ListComp elt [⟨tg,iter,ifs,0⟩] scope pos) (KY js nl wi g tt te):=by
 intro pins s σ H Q I h
 obtain⟨cl0,c1,c2,c3⟩:=iK (scope:=scope) (env:=X.bD.env) λy hy hf=>I.ok.has y.1 (by
  have:=hfree y hy hf
  rw[<-hsc] at this
  exact this)
 rw[eval_ListComp]
 refine wpAny_comprehension_free (use:=none) rfl hs c1 hk hnames (Ŭ (hi pins s σ H _ I h) λv s1 h1=>Ŭ h1 λitv s2 h2=>?_)
 obtain⟨it,fp,tn,J,H2,e,I2,T,st2,f2,q2⟩:=h2
 subst e
 refine wpAny_newObj_type (mj (λh₁ hns₁ old Zbm=>?_))
 dsimp only at hns₁ old Zbm ⊢
 generalize hH3:s2.heap.push {cls:=.type "list",dict:=none,data:=.seq ([]:List Value).toArray}=dZ at hns₁ old Zbm ⊢
 have hD:H2 s2.heap.objs.size=none:=I2.hok.fresh (Nat.le_refl _)
 have I3:Inv X.bD pins σ (upd H2 s2.heap.objs.size (.lst [])) {s2 with heap:=dZ}:=by
  rw[<-hH3]
  exact I2.laid (t':=s2.toks) (λb u e=>Heap.get?_push_of_some _ e) (Nat.le_refl _) ⟨Nat.zero_le _,[],0,.nil,Heap.get?_push_size _ rfl⟩
 have La:∀b∈fp,b<s2.heap.objs.size:=λb hb=>by
  obtain⟨o,ho,_⟩:=T.obj 0 _ st2 b hb
  exact Heap.lt_size ho
 have sz3:dZ.objs.size=s2.heap.objs.size+1:=by rw[<-hH3,Heap.size_push]
 have f3:∀b∈fp,dB X.bD pins (upd H2 s2.heap.objs.size (.lst [])) b:=λb hb=>by
  obtain⟨g0,g1⟩:=f2 b hb
  exact⟨by rw[Ę (Nat.ne_of_lt (La b hb))];exact g0,g1⟩
 have B:=KZ (X:=X.bD) (cl:=cl0) hcell c2 c3 (λx c e=>by
  obtain⟨v,o,ho,_⟩:=I3.cell x c e
  exact Heap.lt_size ho) Zbm
 generalize cellsFrom (dZ.objs.size+1) scope.names cl0=cl at B ⊢
 obtain⟨W,⟨m0,w0⟩,turn⟩:=q2 s2.heap.objs.size hD
 have I4:=vh (X:=X.bD) (N':=N') (js:=js) (nl:=nl) (sc:=sc) (scope:=scope) (cl:=cl) (fp:=fp) (h':=h₁) (tk:=s2.toks) hsc hk hcap hlen B I3 f3 (λb hb=>by show b<dZ.objs.size;rw[sz3];exact Nat.lt_succ_of_lt (La b hb)) hns₁ old
 have st4:tn 0 h₁:= T.keep 0 _ _ st2 λb hb o e=>old b o (by rw[<-hH3];exact Heap.get?_push_of_some _ e)
 have fr4:∀b∈fp,(upd H2 s2.heap.objs.size (.lst [])) b=none:=λb hb=>(f3 b hb).1
 have stat:∀{H':Hp},(∀b∈fp,H' b=none)->∀b∈fp,dB (lF X.bD N' scope cl dZ.objs.size {s2 with heap:=dZ} (upd H2 s2.heap.objs.size (.lst [])) fp) [] H' b:=fun{H'} hn b hb=>by
  obtain⟨g0,g1,g2,g3,g4,g5⟩:=f3 b hb
  refine⟨hn b hb,Nat.ne_of_lt (by show b<dZ.objs.size;rw[sz3];exact Nat.lt_succ_of_lt (La b hb)),λz=>?_,.inl hb,λx c e=>by
   rcases B.at_ x c e with⟨q,_⟩|⟨q,_⟩
   ·exact g4 x c q
   ·exact Nat.ne_of_gt (Nat.lt_trans (by show b<dZ.objs.size;rw[sz3];exact Nat.lt_succ_of_lt (La b hb)) q),λp hp=>absurd hp (by simp[lF])⟩
  rcases List.mem_cons.mp (I3.rK b z) with z|z
  ·exact g1 z
  ·exact g2 z
 have loop:∀s₃:Shared,s₃= {s2 with heap:=h₁}->
  codeAny (model X.prog X.w) X.A (.compLoop (.ListComp elt [⟨tg,iter,ifs,0⟩] scope pos) 0 (.ref it) (.ref s2.heap.objs.size) (compEnvC scope cl dZ.objs.size X.bD.env))
   (compPost (model X.prog X.w) X.A X.bD.xe none (EP X.bD pins σ Q) (.ref s2.heap.objs.size) dZ.objs.size) s₃:= by
  rintro s₃ rfl
  refine nP (λn s'=>∃i σ' H',Inv (lF X.bD N' scope cl dZ.objs.size {s2 with heap:=dZ} (upd H2 s2.heap.objs.size (.lst [])) fp) [] σ' H' s'/\tn i s'.heap/\(∀b∈fp,H' b=none)/\W i n σ' H') ?_ m0 ⟨0,_,_,I4,st4,fr4,w0⟩
  rintro n s5 ⟨i,σ5,H5,I5,QM,fr5,w5⟩
  rcases turn i n σ5 H5 w5 with⟨stop,qn⟩|⟨go,N,hN,step⟩
  ·refine Ŭ (T.done (lF X.bD N' scope cl dZ.objs.size {s2 with heap:=dZ} (upd H2 s2.heap.objs.size (.lst [])) fp) rfl rfl rfl hcalm i [] s5 σ5 H5 (λ_ _=>False) I5 (stat fr5) QM stop) λr s6 ⟨hr,I6⟩=>?_
   subst hr
   obtain⟨m,hm,_⟩:=I6.loc
   refine⟨m,hm,λh' hs'=>⟨.ref s2.heap.objs.size,H5,rT I3 f3 I6 (λb u hb e=>hs'.extBut b u hb e),rfl,qn⟩⟩
  ·refine Ŭ (T.item (lF X.bD N' scope cl dZ.objs.size {s2 with heap:=dZ} (upd H2 s2.heap.objs.size (.lst [])) fp) rfl rfl rfl hcalm i [] s5 σ5 H5 (λ_ _=>False) I5 (stat fr5) QM go) λr s6 ⟨u,hr,h6⟩=>?_
   subst hr
   refine Ŭ h6 λ_ s7 ⟨x,H7,I7,r7,y7,st7,fr7⟩=>?_
   have I7':=I7.pinned (stat fr7) (T.obj _ _ st7)
   have again:∀{s8:Shared} {σ8:L2.St} {H8:Hp},Inv (lF X.bD N' scope cl dZ.objs.size {s2 with heap:=dZ} (upd H2 s2.heap.objs.size (.lst [])) fp) ([]++oW fp s7.heap) σ8 H8 s8->
    Inv (lF X.bD N' scope cl dZ.objs.size {s2 with heap:=dZ} (upd H2 s2.heap.objs.size (.lst [])) fp) [] σ8 H8 s8/\tn (i+1) s8.heap/\∀b∈fp,H8 b=none:=fun{s8 σ8 H8} I8=>by
    refine⟨I8.gO,T.keep _ _ _ st7 λb hb o e=>(I8.pin (b,o) (List.mem_append_right _ (List.mem_append_right _ (aR hb e)))).1,λb hb=>?_⟩
    obtain⟨o,e,d⟩:=T.obj _ _ st7 b hb
    exact(I8.pin (b,o) (List.mem_append_right _ (List.mem_append_right _ (aR hb e)))).2.1
   refine Ŭ (hg cl _ _ _ fp _ s7 σ5 H7 x u _ I7' r7 (step x H7 y7)) λ_ s8 ⟨σ8,H8,I8,q8⟩=>?_
   refine Ŭ (ht cl _ _ _ fp _ s8 σ8 H8 _ I8 q8) λc s9 ⟨H9,I9,q9⟩=>?_
   cases c with
   |false=>
    rw[if_neg Bool.false_ne_true] at q9 ⊢
    obtain⟨m',hm',w9⟩:=hN _ _ q9
    obtain⟨a1,a2,a3⟩:=again I9
    exact⟨m',hm',i+1,σ8,H9,a1,a2,a3,w9⟩
   |true=>
    rw[if_pos rfl] at q9 ⊢
    refine Ŭ (he cl _ _ _ fp _ s9 σ8 H9 _ I9 q9) λyv s10 ⟨y,H10,I10,r10,ys,e10,l10,w10⟩=>?_
    refine Ŭ (cR _ s10 σ8 H10 (.ref s2.heap.objs.size) [y] (.ref s2.heap.objs.size) [yv] (λ_ H11=>N σ8 H11) I10 rfl (.cons r10 .nil) ⟨_,ys,y,rfl,rfl,e10,l10,w10⟩) λ_ s11 ⟨v11,H11,I11,_,w11⟩=>?_
    obtain⟨a1,a2,a3⟩:=again I11
    obtain⟨m',hm',w11⟩:=hN _ _ w11
    exact⟨m',hm',i+1,σ8,H11,a1,a2,a3,w11⟩
 exact codeAny_compStart_list (loop _ rfl) (T.self _ 0 _ _ _ st4 (loop _ rfl))
end
def Its(z:Str):It:=⟨λi _=>i<z.cps.size,λi H x H'=>H'=H/\∃c,z.cps.toList[i]?=some c/\x=.str ⟨#[c]⟩,λi _=>i=z.cps.size⟩
def Jo{P:Program}{w:World}{K:PySem.W.Frag}{tg:Expr}(it:Addr)(z:Str)(t:Tok)(ty:String)
 (hW:∀A:Around,A.handled=none->Walks P w A it [it] [it] z.cps.size (SignAt z) (λi h=>h.IsStrIter it ty z t i))
 (hS:∀(A:Around) (i:Nat) (s:Shared) (Q:Value->Shared->Prop) (E:Value->Shared->Prop),s.heap.IsStrIter it ty z t i->Q (.ref it) s->wpAny (model P w) A (pyIter (.ref it)) Q E s)
 (hty:["enumerate","zip","dict_itemiterator","dict_reverseitemiterator","odict_iterator","itertools.zip_longest","itertools.pairwise"].contains ty=false):Turn P w K tg (Its z) [it] it (λi h=>h.IsStrIter it ty z t i) where
 mem:=by simp
 obj:=λi h st b hb=>by
  have e:b=it:=by simpa using hb
  subst e
  obtain⟨o,e,c,d⟩:=st
  exact⟨o,e,λv z=>by rw[d] at z;cases z⟩
 keep:=λi h h' st k=>by
  obtain⟨o,e,c,d⟩:=st
  exact⟨o,k it (by simp) o e,c,d⟩
 item:=by
  intro X hP hw hK hc i pins s σ H E I hf st hg
  subst hP hw hK
  obtain⟨f0,f1,f2,f3,f4,f5⟩:=hf it (by simp)
  refine(hW X.A (I.ok.hd hc)).item i s _ _ hg st λv h' tk hv st' kk=>?_
  obtain⟨c,u,hcu,rfl⟩:=hv
  have I1:Inv X pins σ H {s with heap:=h',toks:=tk}:=I.turned (λb o hb e=>kk b o (by simpa using hb) e) f0 f1 f3 f4 f5
  obtain⟨o,e,cl,d⟩:=id st'
  exact⟨_,rfl,Gu (s:={s with heap:=h',toks:=tk}) e cl d hty ⟨.str ⟨#[c]⟩,H,I1,⟨u,rfl⟩,⟨rfl,c,by simpa using hcu,rfl⟩,st',λb hb=>(hf b hb).1⟩⟩
 done:=by
  intro X hP hw hK hc i pins s σ H E I hf st hg
  subst hP hw hK
  obtain⟨f0,f1,f2,f3,f4,f5⟩:=hf it (by simp)
  have e:i=z.cps.size:=hg
  subst e
  exact(hW X.A (I.ok.hd hc)).done s _ _ st λh' tk kk=>⟨rfl,I.turned (λb o hb e=>kk b o (by simpa using hb) e) f0 f1 f3 f4 f5⟩
 self:=hS
section
variable{X:Cx}{tg:Expr}
end
end M3
namespace M4
open PySem PySem.Spec PyProof.Rows L2 M2 M3
section
variable{X:Cx}
def Ro{bs:List Bool}:∀{us:List Value},Vals (bs.map V.bl) us->us=bs.map Value.bool:=by
 induction bs with
 |nil=>intro us r;rw[List.map_nil] at r;cases r;rfl
 |cons b bs ih=>
  intro us r
  rw[List.map_cons] at r
  cases r with
  |cons r1 r2=>
   cases r1
   rw[ih r2]
   rfl
def all_range(bs:List Bool):(List.range (bs.map Value.bool).toArray.size).all (λi=>bs.getD i false)=bs.all id:=by
 have e:(bs.map Value.bool).toArray.size=bs.length:=by simp
 rw[e,Bool.eq_iff_iff]
 simp only[List.all_eq_true,List.mem_range,id]
 constructor
 ·intro h b hb
  obtain⟨i,hi,rfl⟩:=List.mem_iff_getElem.mp hb
  have:=h i hi
  rw[List.getD_eq_getElem?_getD,List.getElem?_eq_getElem hi] at this
  exact this
 ·intro h i hi
  rw[List.getD_eq_getElem?_getD,List.getElem?_eq_getElem hi]
  exact h _ (List.getElem_mem hi)
def Ab{prog:Program}{w:World}{A:Around}(bs:List Bool):TruthOf prog w A (λi v=>(bs.map Value.bool).toArray[i]?=some v) (λi=>bs.getD i false):=by
 intro i v s Q E hv hq
 have hv':bs[i]?.map Value.bool=some v:=by
  rw[<-List.getElem?_map]
  simpa using hv
 cases hb:bs[i]? with
 |none=>rw[hb] at hv';cases hv'
 |some b=>
  rw[hb] at hv'
  cases hv'
  dsimp only at hq
  rw[List.getD_eq_getElem?_getD,hb] at hq
  exact wpAny_truthy_bool hq
def Zbn(K:PySem.W.Frag):List V->Hp->VK->Prop:=λxs H Q=>match xs with
 | [.ref p]=>∃bs:List Bool,aQ K H p (bs.map V.bl)/\Q (.bl (bs.all id)) H
 |_=>False
def wN(hc:X.calm=true):ž X (.builtin "all") (Zbn X.K):=by
 intro pins s σ H xs us Q I r h
 unfold Zbn at h
 split at h
 ·rename_i p
  obtain⟨bs,hS,q⟩:=h
  obtain⟨u,rfl,ru⟩:=vals1 r
  cases ru
  obtain⟨its,rv,pl,hz⟩:=I.list hS
  have e:=Ro rv
  subst e
  have hp:p≠s.heap.objs.size:=by
   obtain⟨o,n,e,_⟩:=pl
   exact Nat.ne_of_lt (Heap.lt_size e)
  refine call_all_walk (wpAny_pyIter_list pl.isList ?_)
  refine⟨s.heap.objs.size,_,_,_,_,_,_,rfl,Walks.list (A:=X.A.in1) (show X.A.in1.handled=none from I.ok.hd hc) s.heap.objs.size p hp (bs.map Value.bool).toArray,⟨⟨_,Heap.get?_push_size _ rfl,rfl,rfl⟩,pl.isList.at λo e=>Heap.get?_push_of_some _ e⟩,Ab bs,λh' tk k=>?_⟩
  rw[all_range]
  exact⟨.bl _,H,I.kept λb o e=>k b o (by simpa using Nat.ne_of_lt (Heap.lt_size e)) (Heap.get?_push_of_some _ e),rfl,q⟩
 ·exact h.elim
end
abbrev S(l:List Nat):Str:=⟨l.toArray⟩
def Zgd(z:Str):S z.cps.toList=z:=by
 cases z
 simp
def ZdI(l:List Nat):(S l).length=l.length:=by simp[Str.length]
def Ac(z:Str):z.cps.toList.length=z.length:=by simp[Str.length]
def wO(xs:List Nat)(lo hi:Option Int):List Nat:=(xs.drop (HT.jD xs.length 0 lo)).take (HT.jD xs.length xs.length hi-HT.jD xs.length 0 lo)
def idx_eq(z:Str)(lo hi:Option Int):Builtin.Str.strSliceIndices lo hi 1 z.length=(List.range (HT.jD z.length z.length hi-HT.jD z.length 0 lo)).map (HT.jD z.length 0 lo + ·):=by
 have hc:∀(o:Option Int) (d:Nat),d<=z.length->(match o with|none=>((d:Nat):Int)|some i=>max 0 (min (if i<0 then i+(z.length:Int) else i) (z.length:Int)))=((HT.jD z.length d o:Nat):Int):=by
  intro o d hd
  cases o with
  |none=>rfl
  |some i=>
   show max 0 (min (if i<0 then i+(z.length:Int) else i) (z.length:Int))=((if i<0 then(i+(z.length:Int)).toNat else min i.toNat z.length:Nat):Int)
   by_cases h:i<0
   ·rw[if_pos h,if_pos h];omega
   ·rw[if_neg h,if_neg h];omega
 have e:Builtin.Str.strSliceIndices lo hi 1 z.length=sliceRange ((HT.jD z.length 0 lo:Nat):Int) ((HT.jD z.length z.length hi:Nat):Int) 1:=by
  have h1:=hc lo 0 (Nat.zero_le _)
  have h2:=hc hi z.length (Nat.le_refl _)
  unfold Builtin.Str.strSliceIndices
  simp only[show(1:Int)>0 by decide,if_true]
  rw[<-h1,<-h2]
  cases lo<;>cases hi<;>rfl
 rw[e,sliceRange_one]
def Rq(z:Str)(lo hi:Option Int):(Builtin.Str.strSliceIndices lo hi 1 z.length).filterMap (z.cps[·]?)=wO z.cps.toList lo hi:=by
 rw[idx_eq,pick_run]
 unfold wO
 rw[Ac]
def Rr(xs:List Nat)(lo hi:Option Int):(wO xs lo hi).length<=xs.length:=by
 unfold wO
 rw[List.length_take,List.length_drop]
 omega
def Lb{z:Str}{t:Tok}{l u:Option (Int×Tok)}{Q:Value->Shared->Prop}{s:Shared}(hz:z.length<=sizeLine)
 (h:∀t' k,Q (.str (S (wO z.cps.toList (l.map (·.1)) (u.map (·.1)))) t') {s with toks:=k}):(sliceMade z t l u none).post Q s:=by
 have e:=Rq z (l.map (·.1)) (u.map (·.1))
 unfold sliceMade
 have ep:slicePicked z l u none=Builtin.Str.strSliceIndices (l.map (·.1)) (u.map (·.1)) 1 z.length:=rfl
 rw[ep]
 split
 ·rename_i hc
  have hl:(Builtin.Str.strSliceIndices (l.map (·.1)) (u.map (·.1)) 1 z.length).length=z.length:=by simpa using hc
  have hz2:wO z.cps.toList (l.map (·.1)) (u.map (·.1))=z.cps.toList:=by
   rw[idx_eq,List.length_map,List.length_range] at hl
   have hi:=HT.Ku z.length 0 (Nat.zero_le _) (l.map (·.1))
   have hj:=HT.Ku z.length z.length (Nat.le_refl _) (u.map (·.1))
   unfold wO
   rw[Ac]
   have hl2:=Ac z
   have a0:HT.jD z.length 0 (l.map (·.1))=0\/z.length=0:=by omega
   rcases a0 with a0|a0
   ·rw[a0] at hl ⊢
    rw[List.drop_zero]
    exact List.take_of_length_le (by omega)
   ·have:z.cps.toList=[]:=List.eq_nil_of_length_eq_zero (by omega)
    rw[this]
    simp
  have:=h t s.toks
  rw[hz2,Zgd] at this
  exact this
 ·rw[e]
  exact⟨by rw[ZdI];have:=Rr z.cps.toList (l.map (·.1)) (u.map (·.1));rw[Ac] at this;omega,h _ _⟩
section
variable{X:Cx}
def Zge:V->Option Int->Option Int->Hp->VK->Prop:=λx lo hi H Q=>match x with
 | .str z=>z.length<=sizeLine/\Q (.str (S (wO z.cps.toList lo hi))) H
 |_=>False
def Rt:Gx X Zge:=by
 intro pins s σ H x v vl vu lo hi sl Q I rx hs pl pu h
 cases x with
 |str z=>
  obtain⟨t,rfl⟩:=rx
  obtain⟨hz,q⟩:=h
  obtain⟨l,el,el2⟩:∃l:Option (Int×Tok),partValue l=vl/\l.map (·.1)=lo:=by
   cases pl with
   |none=>exact⟨none,rfl,rfl⟩
   |int i t=>exact⟨some (i,t),rfl,rfl⟩
  obtain⟨u,eu,eu2⟩:∃u:Option (Int×Tok),partValue u=vu/\u.map (·.1)=hi:=by
   cases pu with
   |none=>exact⟨none,rfl,rfl⟩
   |int i t=>exact⟨some (i,t),rfl,rfl⟩
  subst el el2 eu eu2
  exact⟨"str",_,F.slot_str_getitem.lookup,typeIs_str s z t,wpAny_getItem_str_slice (l:=l) (u:=u) (st:=none) hs rfl (Lb hz λt' k=>⟨.str _,H,I.tok _,⟨_,rfl⟩,q⟩)⟩
 |_=>exact h.elim
def Zgf(K:PySem.W.Frag):V->Option Int->Option Int->Hp->VK->Prop:=λx lo hi H Q=>match x with
 | .ref a=>∃xs,aQ K H a xs/\∀p,H p=none->Q (.ref p) (upd H p (.lst (zY xs lo hi)))
 | .str z=>z.length<=sizeLine/\Q (.str (S (wO z.cps.toList lo hi))) H
 |_=>False
def slm:Gx X (Zgf X.K):=Gx.wk (KR.or Rt) λx lo hi H Q h=>by
 cases x with
 |ref a=>exact .inl h
 |str z=>exact .inr h
 |_=>exact h.elim
def mul_eq(z:Str){n:Int}(h:0<=n):Txt.mul z n=S (List.replicate n.toNat z.cps.toList).flatten:=by
 have key:∀(k:Nat) (acc:Array Nat),((List.replicate k z.cps).foldl (·++ ·) acc).toList=acc.toList++(List.replicate k z.cps.toList).flatten:=by
  intro k
  induction k with
  |zero=>intro acc;simp
  |succ k ih=>
   intro acc
   rw[List.replicate_succ,List.foldl_cons,ih,List.replicate_succ,List.flatten_cons]
   simp
 unfold Txt.mul
 refine PyProof.Rows.ext_toList ?_
 by_cases h1:n<1
 ·rw[if_pos h1]
  have:n.toNat=0:=by omega
  rw[this]
  simp[Str.empty]
 ·rw[if_neg h1]
  split
  ·rename_i hc
   rw[Bool.or_eq_true] at hc
   rcases hc with hc|hc
   ·have:n=1:=by simpa using hc
    subst this
    simp
   ·have h0:z.cps.toList=[]:=List.eq_nil_of_length_eq_zero (by rw[Ac];simpa using hc)
    rw[h0]
    simp
  ·rw[key]
   simp
def Ld(z:Str)(n:Int):Prop:=0<=n/\n<=1000/\z.length<=1000
def Ld.ok{z:Str}{n:Int}(h:Ld z n):MulOk z n:=by
 obtain⟨h0,h1,h2⟩:=h
 refine⟨?_,λhn _=>?_,λhn _=>?_⟩
 ·rw[decide_eq_false (by omega),decide_eq_false (by omega)]
  rfl
 ·have:(9000000000000000:Int)≤(2 ^ 63-1) / n:=by
   rw[Int.le_ediv_iff_mul_le (by omega)]
   omega
  omega
 ·have:z.length*n.toNat<=1000*1000:=Nat.mul_le_mul h2 (by omega)
  unfold Builtin.Str.tooLong
  simp
  rw[sizeLine_eq]
  omega
def Le:R2:=λx y H Q=>match x,y with
 | .int i,.int j=>vg i j/\Q (.int (i*j)) H
 | .str z,.int n=>Ld z n/\Q (.str (S (List.replicate n.toNat z.cps.toList).flatten)) H
 |_,_=>False
def Ļ:aP X (binaryOp .Mult) Le:=by
 intro pins s σ H x y v u Q I rx ry h
 unfold Le at h
 split at h
 ·exact Zbi pins s σ H _ _ v u Q I rx ry h
 ·obtain⟨t,rfl⟩:=rx
  obtain⟨t',rfl⟩:=ry
  exact SB.mul h.1.ok λt' k=>⟨.str _,H,I.tok _,⟨_,by rw[mul_eq _ h.1.1]⟩,h.2⟩
 ·exact h.elim
end
end M4
namespace M5
open PySem PySem.Spec PyProof.Rows L2 M2 M3
def CZ{p2:Pos}{c:Value}{a b:Int}{cv:Value}(l:List Value)(h:TriplesOk l)(e:codeAmong p2 (l ++ [rawInt a,rawInt b,c])=some cv):codeAmong p2 l=some cv\/cv=c:=by
 fun_induction TriplesOk l with
 |case1=>
  right
  simp only[List.nil_append,codeAmong,rawInt] at e
  split at e
  ·exact(Option.some.inj e).symm
  ·cases e
 |case2 a' t b' u x rest ih=>
  simp only[List.cons_append,codeAmong] at e ⊢
  split at e
  ·rename_i hc;rw[if_pos hc];exact .inl e
  ·rename_i hc;rw[if_neg hc];exact ih h e
 |case3 l h1 h2=>exact h.elim
section
variable{X:Cx}{pins:List (Addr×Obj)}{σ:L2.St}{H:Hp}{s:Shared}{x:Str}{c P:Addr}{params:Arguments}{body:Expr}{scope:Scope}{pos:Pos}{cl:List (Str×Addr)}
def Lf{Q:Value->Shared->Prop}{E:Value->Shared->Prop}(I:Inv X pins σ H s)(hx:x∈lams)(ht:PySem.W.tabIn X.K x=some (c,P))(hcode:X.env.code=.ref c)(hq:X.env.qual=x ++ ".<locals>.")(hdef:defaultsOf params X.env=([],[]))(hcl:closureFor scope X.env=pure cl)
 (h:∀f c' pm ctv H' s',Inv X pins σ H' s'->(∀a,H a=none->H' a=none\/a=c')->Same H H'->H' c'=some (.Gn (fC x))->s'.heap.get? f=some (PySem.W.kla_obj "<lambda>" (fC x) params body scope cl pm c' ctv)->dB X pins H' f->Q (.ref f) s') :
 wpAny (model X.prog X.w) X.A (eval (.Lambda params body scope pos) X.env) Q E s:=by
 obtain⟨C,hT,hB⟩:=I.tb x c P hx ht
 obtain⟨ps,hP,tr,ent⟩:=I.hok P _ hT
 have hg:=I.ok.mod.glob.keeps I.bk
 have hgP:mainGlobals≠P:=λq=>by
  obtain⟨o,es,ep,e,hd,_⟩:=hg
  rw[q,hP] at e;cases e;cases hd
 have hB':s.heap.BuiltinsAt X.mg P:=by
  obtain⟨bm,ob,b1,b2,b3,b4,b5,b6⟩:=hB
  exact⟨bm,ob,b1,b2,b3,b4,I.bk _ _ b5,b6⟩
 refine PySem.W.kla_eval hdef ?_
 rw[hq]
 cases hf:codeAmong pos ps.toList with
 |none=>
  refine PySem.W.kla_makeFunction (mg:=X.mg) hcl I.ok.glob hg hcode (C.keeps I.bk) hP tr hf hgP hB' λc' ctv h' tk hxb hge hlt hrec htb=>?_
  have hc':H c'=none:=I.hok.fresh hge
  have hcP:c'≠P:=λz=>by rw[z,hT] at hc';cases hc'
  have neP:∀b,H b=none->b≠P:=λb n z=>by rw[z,hT] at n;cases n
  have old:∀b o,b≠P->s.heap.get? b=some o->(h'.push (PySem.W.kla_obj "<lambda>" (fC x) params body scope cl ((X.mg "__name__").getD .none) c' ctv)).get? b=some o:=λb o hb e=>Heap.get?_push_of_some _ (hxb b o hb e)
  have u:Un X.fs [] H (upd H c' (.Gn (fC x))) s.heap (h'.push (PySem.W.kla_obj "<lambda>" (fC x) params body scope cl ((X.mg "__name__").getD .none) c' ctv)):=by
   refine⟨λb o e n _ _=>old b o (neP b n) e,λb o e n _ _=>⟨o.slots,old b o (neP b n) e⟩,λb o e n _=>?_,λb o e _=>?_,λb xs e=>by rw[Ę (Ġ e hc')];exact e,λb o u e=>by rw[Ę (Ġ e hc')];exact e,λb q e=>by rw[Ę (Ġ e hc')];exact e⟩
   ·rw[Ę (Nat.ne_of_lt (Nat.lt_of_lt_of_le (Heap.lt_size e) hge))];exact n
   ·by_cases hb:b=P
    ·exact⟨_,by rw[hb];exact Heap.get?_push_of_some _ htb⟩
    ·exact⟨o,old b o hb e⟩
  have hok:gK X.prog X.w (upd H c' (.Gn (fC x))) (h'.push (PySem.W.kla_obj "<lambda>" (fC x) params body scope cl ((X.mg "__name__").getD .none) c' ctv)):=λb v e=>by
   by_cases hb:b=c'
   ·subst hb
    rw[Ī] at e;cases e
    obtain⟨c2,o,vs,t,z,e1,r⟩:=hrec
    exact⟨c2,o,vs,t,z,Heap.get?_push_of_some _ e1,r⟩
   ·rw[Ę hb] at e
    by_cases hbP:b=P
    ·subst hbP
     rw[hT] at e;cases e
     refine⟨_,Heap.get?_push_of_some _ htb,?_,λp2 cv z=>?_⟩
     ·have:=TriplesOk_snoc pos.line pos.col (.ref c') ps.toList tr
      simpa using this
     ·rcases CZ (a:=pos.line) (b:=pos.col) (c:=.ref c') ps.toList tr (by simpa using z) with z|z
      ·obtain⟨d,z1,z2⟩:=ent p2 cv z
       exact⟨d,z1,by rw[Ę (Ġ z2 hc')];exact z2⟩
      ·exact⟨c',z,Ī⟩
    ·exact(I.hok b v e).stay (fun b2 o hb2 q=>old b2 o (by
      rcases hb2 with z|z
      ·rw[z];exact hbP
      ·intro z2;rw[z2,hT] at z;cases z) q) (λd q=>by rw[Ę (Ġ q hc')];exact q) (λd xs q=>by rw[Ę (Ġ q hc')];exact q) λd xs q=>by rw[Ę (Ġ q hc')];exact q
  have hfz:s.heap.objs.size<=h'.objs.size:=Nat.le_of_lt (Nat.lt_of_le_of_lt hge hlt)
  refine h h'.objs.size c' _ ctv (upd H c' (.Gn (fC x))) _ (I.un (t':=tk) u hok) (λa n=>?_) (λb v e=>by rw[Ę (Ġ e hc')];exact e) Ī (Heap.get?_push_size _ rfl) (I.uL hfz (by rw[Ę (Nat.ne_of_gt hlt)];exact I.hok.fresh hfz))
  by_cases ha:a=c'
  ·exact .inr ha
  ·exact .inl (by rw[Ę ha];exact n)
 |some cv=>
  obtain⟨c',rfl,hcc⟩:=ent pos cv hf
  refine PySem.W.kla_makeFunctionHit (mg:=X.mg) hcl I.ok.glob hg hcode (C.keeps I.bk) hP tr hf hB' λctv h' tk hk hsz=>?_
  exact h h'.objs.size c' _ ctv H _ (I.kept (t':=tk) λb o e=>Heap.get?_push_of_some _ (hk b o e)) (λ_ n=>.inl n) (Same.refl H) hcc (Heap.get?_push_size _ rfl) (I.uL hsz (I.hok.fresh hsz))
end
def JW(X:Cx)(N':List Str)(qual:Str)(scope:Scope)(cl:List (Str×Addr))(f:Addr)(c':Addr)(A:Around)(s:Shared)(H:Hp):Cx where
 prog:=X.prog
 w:=X.w
 K:=X.K
 mg:=X.mg
 base:=X.base
 A:=A.deeper (PySem.W.envX qual scope s.heap.objs.size f (.ref c') cl)
 N:=N'
 s₀:= s
 H₀:= H
 env:=PySem.W.envX qual scope s.heap.objs.size f (.ref c') cl
 outer:=X.stack
 stack:=PySem.W.envX qual scope s.heap.objs.size f (.ref c') cl::X.stack
 ex:=[]
 fn:=λ_=>false
 calm:=true
 pn:=[]
 xe:=λ_ _=>False
def gU(js:List Nat)(σ:L2.St)(v:V):L2.St:=js.map (λj:Nat=>(σ[j]?).getD none) ++ [some v]
section
variable{X:Cx}{pins:List (Addr×Obj)}{σ:L2.St}{H:Hp}{s:Shared}{params:Arguments}{body:Expr}{scope sc:Scope}{cl:List (Str×Addr)}{N0:List Str}{js:List Nat}{qual px:Str}{f c':Addr}{A:Around}
def Ru(hsc:X.env.scope=sc)(hk:scope.kind=.function)(hcap:jM X sc scope N0 js)(hlen:js.length=N0.length)(hcell:∀y∈scope.names,y.2≠ .cell)(hpx:scope.names.lookup px=some .local)
 (hA:A.frames=some X.stack)(hhd:A.handled=none)(c2:∀x c,cl.lookup x=some c->X.env.cells.lookup x=some c)(c3:∀y∈scope.names,y.2=.free->∃c,cl.lookup y.1=some c)
 (I:Inv X pins σ H s){v:V}{u:Value}(r:RelV v u){h':Heap}{tk:Nat}(hn:h'.Ns s.heap.objs.size (λy=>[(px,u)].reverse.lookup y))(kp:∀b o,s.heap.get? b=some o->h'.get? b=some o) :
 Inv (JW X (N0 ++ [px]) qual scope cl f c' A s H) [] (gU js σ v) H {s with heap:=h',toks:=tk}:=by
 have has:∀y,(scope.names.lookup y=some .cell\/scope.names.lookup y=some .free)->∃c,cl.lookup y=some c:=λy hy=>by
  rcases hy with hy|hy
  ·exact absurd rfl (hcell _ (PySem.mem_of_lookup hy))
  ·exact c3 _ (PySem.mem_of_lookup hy) rfl
 refine⟨⟨I.ok.mod,hk,rfl,rfl,Nat.le_refl _,λx y c e1 e2=>I.ok.inj x y c (c2 x c e1) (c2 y c e2),has,(λ_ _ z _=>absurd (show false=true from z) Bool.false_ne_true),λ_=>hhd,Around.frames_deeper hA,.inr ⟨rfl,rfl⟩,λb hb=>absurd hb (by simp[JW]),
  I.bs,Nat.le_trans I.ok.Gp I.sz,λb _ _ hb=>absurd hb (by simp[JW]),λb hb=>absurd hb (by simp[JW]),I.stack,I.qZ,I.tb⟩,rfl,I.bare,Un.kept kp,⟨_,hn,λi x w e1 e2 e3=>?_⟩,λx c e=>?_,I.hok.fresh (Nat.le_refl _),λx c e=>I.dz x c (c2 x c e),λp hp=>absurd hp (by simp[JW]),I.hok.kept kp,?_⟩
 ·by_cases hi:i<js.length
  ·have e1':N0[i]?=some x:=by
    have:=e1
    rwa [show(JW X (N0 ++ [px]) qual scope cl f c' A s H).N=N0 ++ [px] from rfl,List.getElem?_append_left (by omega)] at this
   have e2':(gR js 0 σ)[i]?=some (some w):=by
    unfold gR
    unfold gU at e2
    rw[List.getElem?_append_left (by simpa using hi)] at e2 ⊢
    exact e2
   obtain⟨j,q1,q2,q0,q3⟩:=pC hcap e1' e2'
   obtain⟨m,hm,hl⟩:=I.loc
   have Zbl:Ck X.env.scope x:=by
    rw[hsc]
    rcases q3 with q3|q3
    ·exact .inr (.inl q3)
    ·exact .inr (.inr q3)
   obtain⟨u',ru,lk⟩:=hl j x w q1 q2 Zbl
   refine⟨u',ru,?_⟩
   rcases lk with⟨k1,_⟩|⟨k1,c,hc,ic⟩
   ·exfalso
    have k1':sc.names.lookup x=some .local:=by rw[<-hsc];exact k1
    rcases q3 with q3|q3<;>(rw[k1'] at q3;cases q3)
   ·obtain⟨d,hd⟩:=has x (.inr q0)
    have:d=c:=by
     have:=c2 x d hd
     rw[hc] at this
     exact(Option.some.inj this).symm
    subst this
    exact .inr ⟨.inr q0,d,hd,by
     obtain⟨o,ho,hd'⟩:=ic
     exact⟨o,kp _ _ ho,hd'⟩⟩
  ·have hi2:i=js.length:=by
    have l2:=(List.getElem?_eq_some_iff.mp e2).1
    unfold gU at l2
    simp at l2
    omega
   subst hi2
   unfold gU at e2
   rw[List.getElem?_append_right (by simp)] at e2
   have ev:v=w:=by simpa using e2
   subst ev
   have ex:px=x:=by
    have:=e1
    rw[show(JW X (N0 ++ [px]) qual scope cl f c' A s H).N=N0 ++ [px] from rfl,List.getElem?_append_right (by omega),hlen] at this
    simpa using this
   subst ex
   exact⟨u,r,.inl ⟨hpx,by simp[List.lookup]⟩⟩
 ·obtain⟨w,o,ho,hd⟩:=I.cell x c (c2 x c e)
  exact⟨w,o,kp _ _ ho,hd⟩
 ·show _=(N0 ++ [px]).length
  unfold gU
  simp[hlen]
def Lg{te:TE}{pm ctv:Value}(hsc:X.env.scope=sc)(hk:scope.kind=.function)(hcap:jM X sc scope N0 js)(hlen:js.length=N0.length)(hcell:∀y∈scope.names,y.2≠ .cell)(hpx:scope.names.lookup px=some .local)(hco:scope.isCoroutine=false)(hgen:scope.isGenerator=false)
 (hA:A.frames=some X.stack)(hhd:A.handled=none)(Zbo:A.depth<recursionLimit)(c2:∀x c,cl.lookup x=some c->X.env.cells.lookup x=some c)(c3:∀y∈scope.names,y.2=.free->∃c,cl.lookup y.1=some c)
 (hbind:∀u:Value,bindArgs (PySem.W.kla_fn "<lambda>" qual params body scope cl pm (.ref c') ctv) ⟨[u],[]⟩=pure [(px,u)])
 (he:∀s H,PE (JW X (N0 ++ [px]) qual scope cl f c' A s H) body te)
 (I:Inv X pins σ H s)(hf:s.heap.get? f=some (PySem.W.kla_obj "<lambda>" qual params body scope cl pm c' ctv))(hc:H c'=some (.Gn qual)){v:V}{u:Value}(r:RelV v u){Q:VK}{E:Value->Shared->Prop}(h:te (gU js σ v) H Q) :
 wpAny (model X.prog X.w) A (call (.ref f) [u]) (EP X pins σ Q) E s:=by
 refine wpAny_call (PySem.W.kla_callFunE Zbo hf rfl hco hgen rfl (I.hok c' _ hc) ?_)
 rw[hbind u]
 refine wpAny_pure (wpAny_newFunctionEnv hcell (λy hy=>by rw[List.mem_singleton.mp hy];exact hpx) (λh₁ hns hsb=>⟨(I.nolimit).fresh _ hsb,?_⟩) hk)
 have kp:∀b o,s.heap.get? b=some o->h₁.get? b=some o:=λb o e=>hsb.extBut b o (Nat.ne_of_lt (Heap.lt_size e)) (Heap.get?_push_of_some _ e)
 have J:=Ru (qual:=qual) (f:=f) (c':=c') (tk:=s.toks + [(px,u)].length) hsc hk hcap hlen hcell hpx hA hhd c2 c3 I r hns kp
 show codeAny _ _ (.expr body (PySem.W.envX qual scope s.heap.objs.size f (.ref c') cl)) _ _
 refine PySem.W.kla_codeExpr (wpAny_mono (he s H [] _ _ H Q J h) (λy s' hy=>?_) λ_ _ z=>z.elim)
 obtain⟨w,H',J',rw',q⟩:=hy
 exact I.after ⟨w,H',J'.os,J'.bare,J'.base,J'.hok,rw',q⟩
end
section
variable{X:Cx}{pins:List (Addr×Obj)}{σ:L2.St}{H:Hp}{s:Shared}
def vm{fp:List Addr}{t:Sem Value}{A:Around}{Qv:V->Hp->Prop}{R:Value->Shared->Prop}(I:Inv X pins σ H s)(hf:∀b∈fp,dB X pins H b)(ho:∀b∈fp,∃o,s.heap.get? b=some o/\∀v,o.data≠ .cell v)
 (run:∀fG,Inv X fG σ H s->wpAny (model X.prog X.w) A t (EP X fG σ Qv) (λ_ _=>False) s)
 (k:∀y u H2 s2,Inv X pins σ H2 s2->RelV y u->Qv y H2->(∀b∈fp,dB X pins H2 b)->(∀b∈fp,∀o,s.heap.get? b=some o->s2.heap.get? b=some o)->R u s2):wpAny (model X.prog X.w) A t R (λ_ _=>False) s:=by
 refine wpAny_mono (run _ (I.pinned hf ho)) (λu s2 ⟨y,H2,I2,r,q⟩=>?_) λ_ _ z=>z
 refine k y u H2 s2 I2.gO r q (λb hb=>?_) λb hb o e=>(I2.pin (b,o) (List.mem_append_right _ (List.mem_append_right _ (aR hb e)))).1
 obtain⟨o,e,_⟩:=ho b hb
 exact⟨(I2.pin (b,o) (List.mem_append_right _ (List.mem_append_right _ (aR hb e)))).2.1,(hf b hb).2⟩
def cT{h':Heap}{t':Nat}{b:Addr}(I:Inv X pins σ H s)(hf:dB X pins H b)(k:∀c o,c≠b->s.heap.get? c=some o->h'.get? c=some o):Inv X pins σ H {s with heap:=h',toks:=t'}:=
 let ⟨f0,f1,_,f3,f4,f5⟩:=hf
 I.turned k f0 f1 f3 f4 f5
variable{R:Result->Shared->Prop}{f l S It:Addr}{oF:Obj}{xs:List V}(ks:Nat->Int)(W:Nat->Hp->Prop)
def GK{h:Heap}{l It:Addr}{its:Array Value}{i:Nat}(hl:h.IsList l its)(hit:h.IsListIter It l i):l≠It:=λz=>by
 obtain⟨o,e,c,_⟩:=hl
 obtain⟨o',e',c',_⟩:=hit
 rw[z,e'] at e
 cases e
 rw[c] at c'
 exact absurd (Value.type.inj c') (by decide)
def C_{h:Heap}{S It l:Addr}{vs:Array Value}{n i:Nat}(hS:h.get? S=some (seqObj "list" vs n))(hit:h.IsListIter It l i):S≠It:=λz=>by
 obtain⟨o',e',c',_⟩:=hit
 rw[z,e'] at hS
 cases hS
 exact absurd (Value.type.inj c') (by decide)
def Jp(hh:X.A.handled=none)(hl:∀k H,W k H->aQ X.K H l xs)(hdF:∀v,oF.data≠ .cell v)(hFS:f≠S)(hFI:f≠It)
 (turn:∀k v,xs[k]?=some v->∀pins H s u,Inv X pins σ H s->W k H->RelV v u->s.heap.get? f=some oF->wpAny (model X.prog X.w) X.A.in1 (call (.ref f) [u]) (EP X pins σ λy H'=>y=.int (ks k)/\W (k+1) H') (λ_ _=>False) s)
 (hR:∀i v u H s,xs[i]?=some v->RelV v u->(∀j,j<xs.length->ks i<=ks j/\(j<i->ks i<ks j))->Inv X pins σ H s->W xs.length H->R (.ok (.ret u)) s) :
 ∀(r j i:Nat) (H:Hp) (s:Shared) (vb:Value) (tb:Tok) (c:Nat) (v:V),xs.length-(j+1)=r->j+1<=xs.length->Inv X pins σ H s->W (j+1) H->
  s.heap.get? S=some (seqObj "list" #[vb,.int (ks i) tb] c)->s.heap.IsListIter It l (j+1)->s.heap.get? f=some oF->(∀b∈[S,It,f],dB X pins H b)->xs[i]?=some v->RelV v vb->i<=j->(∀j',j'<=j->ks i<=ks j'/\(j'<i->ks i<ks j'))->
  codeAny (model X.prog X.w) X.A (.builtin "min.loop" ⟨[.ref It,.ref f,.ref S],[]⟩) R s:=by
 have hname:(toString "min" ++ toString ".loop" :String)= "min.loop" := by decide
 intro r
 induction r with
 |zero=>
  intro j i H s vb tb c v hr hj I w hS hit hF fpo hv rv hij hbest
  have hin:j+1=xs.length:=by omega
  obtain⟨its,ri,pl,_⟩:=I.list (hl _ _ w)
  have hsz:its.toArray.size=xs.length:=by rw[List.size_toArray,ri.length]
  have W':=Walks.list (prog:=X.prog) (w:=X.w) (A:=X.A.in1) hh It l (GK pl.isList hit) its.toArray
  refine codeAny_builtin PySem.F.entry_min_loop ?_
  rw[Around.under_plainId PySem.F.plain_min_loop _]
  show wpAny _ X.A.in1 (seqItems? (.ref S) >>= _) _ _ _
  refine wpAny_bind (wpAny_seqItems hS rfl ?_)
  show wpAny _ X.A.in1 (tryCatch (pyNext (.ref It)) _ >>= _) _ _ _
  refine wpAny_bind (wpAny_tryCatch (W'.done _ _ _ ⟨by rw[hsz,<-hin];exact hit,pl.isList⟩ λh' tk' hk'=>?_))
  have I1:=cT (h':=h') (t':=tk') I (fpo It (by simp)) λb o hb e=>hk' b o (by simpa using hb) e
  have hS':=hk' S _ (by simpa using C_ hS hit) hS
  have s1:=Heap.SameBut.update h' S (Obj.mapSeq λ_=>(#[]:Array Value))
  show wpAny _ X.A.in1 (updateSeq S (λ_=> #[]) >>= _) _ _ _
  refine wpAny_bind ?_
  refine wpAny_updateSeq hS' rfl (wpAny_bind (wpAny_letGo (wpAny_pure ?_)))
  exact hR i v vb H _ hv rv (λj' hj'=>hbest j' (by omega)) (cT (t':=tk') I1 (fpo S (by simp)) λb o hb e=>(s1.2 b hb).trans e) (hin▸w)
 |succ r ih=>
  intro j i H s vb tb c v hr hj I w hS hit hF fpo hv rv hij hbest
  have hlt:j+1<xs.length:=by omega
  obtain⟨its,ri,pl,_⟩:=I.list (hl _ _ w)
  have hsz:its.toArray.size=xs.length:=by rw[List.size_toArray,ri.length]
  have W':=Walks.list (prog:=X.prog) (w:=X.w) (A:=X.A.in1) hh It l (GK pl.isList hit) its.toArray
  refine codeAny_builtin PySem.F.entry_min_loop ?_
  rw[Around.under_plainId PySem.F.plain_min_loop _]
  show wpAny _ X.A.in1 (seqItems? (.ref S) >>= _) _ _ _
  refine wpAny_bind (wpAny_seqItems hS rfl ?_)
  show wpAny _ X.A.in1 (tryCatch (pyNext (.ref It)) _ >>= _) _ _ _
  refine wpAny_bind (wpAny_tryCatch (W'.item (j+1) _ _ _ (by rw[hsz];exact hlt) ⟨hit,pl.isList⟩ λu h' tk' hP hst' hk'=>?_))
  have hu:its[j+1]?=some u:=by simpa using hP
  have hx2:xs[j+1]?=some xs[j+1]:=List.getElem?_eq_getElem hlt
  have ru:RelV xs[j+1] u:=by
   obtain⟨u2,h2,r2⟩:=ri.get hx2
   rw[hu] at h2
   cases h2
   exact r2
  obtain⟨oI',hoI',hoc,hod⟩:=id hst'.1
  have I1:=cT (h':=h') (t':=tk') I (fpo It (by simp)) λb o hb e=>hk' b o (by simpa using hb) e
  have hS1:=hk' S _ (by simpa using C_ hS hit) hS
  have hF1:=hk' f _ (by simpa using hFI) hF
  show wpAny _ X.A.in1 (tryCatch (holding [u] (call (.ref f) [u])) _ >>= _) _ _ _
  refine wpAny_bind (wpAny_tryCatch (wpAny_holding (wpAny_mono (vm (fp:=[S,It,f]) I1 fpo (λb hb=>?_) (λfG I'=>turn (j+1) _ hx2 fG H _ u I' w ru hF1) λy u2 H2 s2 I2 ry ⟨ey,w2⟩ Jq kp2=>?_) (λ_ _ z=>z) λ_ _ hF=>hF.elim)))
  ·rcases List.mem_cons.mp hb with rfl|hb
   ·exact⟨_,hS1,λv z=>by cases z⟩
   ·rcases List.mem_cons.mp hb with rfl|hb
    ·exact⟨oI',hoI',λv z=>by rw[hod] at z;cases z⟩
    ·rw[List.mem_singleton.mp hb]
     exact⟨oF,hF1,hdF⟩
  ·subst ey
   obtain⟨t2,rfl⟩:=ry
   have hS2:=kp2 S (by simp) _ hS1
   have hI2:=kp2 It (by simp) _ hoI'
   have hF2:=kp2 f (by simp) _ hF1
   have hit2:s2.heap.IsListIter It l (j+1+1):=⟨oI',hI2,hoc,hod⟩
   show wpAny _ X.A.in1 (tryCatch (holding [u,.int (ks (j+1)) t2] (richCompare .Lt (.int (ks (j+1)) t2) (.int (ks i) tb) >>= _)) _ >>= _) _ _ _
   refine wpAny_bind (wpAny_tryCatch (wpAny_holding (wpAny_bind (CmpOf.ints_lt (prog:=X.prog) (w:=X.w) (A:=X.A.in1) (P:=λi v=>∃t,v=.int (ks i) t) ks (λi v h=>h) (j+1) i _ _ _ _ _ ⟨t2,rfl⟩ ⟨tb,rfl⟩ ?_))))
   refine wpAny_bind (wpAny_holding (wpAny_truthy_bool ?_))
   refine wpAny_bind (wpAny_letGo (wpAny_pure ?_))
   by_cases hb':ks (j+1)<ks i
   ·have s1:=Heap.SameBut.update s2.heap S (Obj.mapSeq λ_=> #[u,.int (ks (j+1)) t2])
    obtain⟨cc,hc2⟩:∃cc,(s2.heap.update S (Obj.mapSeq λ_=> #[u,.int (ks (j+1)) t2])).get? S=some (seqObj "list" #[u,.int (ks (j+1)) t2] cc):=⟨_,get?_update_seq hS2 λ_=> #[u,.int (ks (j+1)) t2]⟩
    simp only[hb',decide_true,if_true]
    refine wpAny_bind ?_
    refine wpAny_updateSeq hS2 rfl (wpAny_bind (wpAny_letGo ?_))
    rw[hname]
    have nIS:=C_ hS2 hit2
    refine wpAny_pure ⟨plainId_quiet PySem.F.plain_min_loop _,ih (j+1) (j+1) H2 _ u t2 cc _ (by omega) hlt (cT (t':=s2.toks) I2 (Jq S (by simp)) λb o hb e=>(s1.2 b hb).trans e) w2 hc2 ⟨oI',(s1.2 It nIS.symm).trans hI2,hoc,hod⟩ ((s1.2 f hFS).trans hF2) Jq hx2 ru (Nat.le_refl _) λj' hj'=>?_⟩
    by_cases e:j'=j+1
    ·subst e
     exact⟨by omega,λ_=>by omega⟩
    ·have hb1:=hbest j' (by omega)
     have hb2:=hb1.1
     exact⟨by omega,λ_=>by omega⟩
   ·simp only[hb',decide_false,Bool.false_eq_true,if_false]
    refine wpAny_bind (wpAny_letGo ?_)
    rw[hname]
    refine wpAny_pure ⟨plainId_quiet PySem.F.plain_min_loop _,ih (j+1) i H2 s2 vb tb c v (by omega) hlt I2 w2 hS2 hit2 hF2 Jq hv rv (by omega) λj' hj'=>?_⟩
    by_cases e:j'=j+1
    ·subst e
     exact⟨by omega,λ_=>by omega⟩
    ·exact hbest j' (by omega)
def Jr{Q:Value->Shared->Prop}{E:Value->Shared->Prop}(hh:X.A.handled=none)(hl:∀k H,W k H->aQ X.K H l xs)(hdF:∀v,oF.data≠ .cell v)(hne:0<xs.length)
 (turn:∀k v,xs[k]?=some v->∀pins H s u,Inv X pins σ H s->W k H->RelV v u->s.heap.get? f=some oF->wpAny (model X.prog X.w) X.A.in1 (call (.ref f) [u]) (EP X pins σ λy H'=>y=.int (ks k)/\W (k+1) H') (λ_ _=>False) s)
 (hQ:∀i v u H s,xs[i]?=some v->RelV v u->(∀j,j<xs.length->ks i<=ks j/\(j<i->ks i<ks j))->Inv X pins σ H s->W xs.length H->Q u s)
 (I:Inv X pins σ H s)(w0:W 0 H)(hF:s.heap.get? f=some oF)(hfo:dB X pins H f) :
 wpAny (model X.prog X.w) X.A (call (.builtin "min") [.ref l] [(Str.ofString "key",.ref f)]) Q E s:=by
 have hname:(toString "min" ++ toString ".loop" :String)= "min.loop" := by decide
 obtain⟨its,ri,pl,_⟩:=I.list (hl _ _ w0)
 have hls:=pl.isList
 obtain⟨ol,hol,_⟩:=id hls
 have hll:l<s.heap.objs.size:=Heap.lt_size hol
 refine kmk_tree PySem.F.kind_min PySem.F.plain_min PySem.F.entry_min (kmk_min_key _ _) ?_
 show wpAny _ X.A.in1 (Builtin.Builtins.bindParams "min" ["key","default"] 0 ⟨[],[(Str.ofString "key",.ref f)]⟩ >>= _) _ _ s
 refine wpAny_bind (wpAny_of_eq (show Builtin.Builtins.bindParams "min" ["key","default"] 0 ⟨[],[(Str.ofString "key",.ref f)]⟩=pure [some (.ref f),none] from rfl) ?_)
 refine wpAny_bind (wpAny_pure ?_)
 refine wpAny_bind (wpAny_pyIter_list hls ?_)
 refine wpAny_bind (wpAny_newList ?_ (Nat.zero_le _))
 rw[hname]
 have hS:(s.heap.push {cls:=.type "list_iterator",data:=.fields #[.ref l,.int 0 0]}).objs.size=s.heap.objs.size+1:=size_push' ..
 generalize hSd:(s.heap.push {cls:=.type "list_iterator",data:=.fields #[.ref l,.int 0 0]}).objs.size=S at hS ⊢
 refine wpAny_pure ⟨plainId_quiet PySem.F.plain_min_loop _,?_⟩
 have k0:∀b o,s.heap.get? b=some o->((s.heap.push {cls:=.type "list_iterator",data:=.fields #[.ref l,.int 0 0]}).push (seqObj "list" #[] 0)).get? b=some o:=λb o e=>Heap.get?_push_of_some _ (Heap.get?_push_of_some _ e)
 have gI:((s.heap.push {cls:=.type "list_iterator",data:=.fields #[.ref l,.int 0 0]}).push (seqObj "list" #[] 0)).get? s.heap.objs.size=some {cls:=.type "list_iterator",data:=.fields #[.ref l,.int 0 0]}:=
  Heap.get?_push_of_some _ (Heap.get?_push_size _ rfl)
 have gS:((s.heap.push {cls:=.type "list_iterator",data:=.fields #[.ref l,.int 0 0]}).push (seqObj "list" #[] 0)).get? S=some (seqObj "list" #[] 0):=by rw[<-hSd];exact Heap.get?_push_size _ rfl
 have I0:Inv X pins σ H {s with heap:=(s.heap.push {cls:=.type "list_iterator",data:=.fields #[.ref l,.int 0 0]}).push (seqObj "list" #[] 0)}:=I.kept (t':=s.toks) k0
 have fI:dB X pins H s.heap.objs.size:=I.uL (Nat.le_refl _) (I.hok.fresh (Nat.le_refl _))
 have fS:dB X pins H S:=I.uL (by omega) (I.hok.fresh (by omega))
 have hlf:f<s.heap.objs.size:=Heap.lt_size hF
 have hFI:f≠s.heap.objs.size:=Nat.ne_of_lt hlf
 have hFS:f≠S:=Nat.ne_of_lt (by rw[hS];exact Nat.lt_succ_of_lt hlf)
 have hSI:S≠s.heap.objs.size:=by omega
 have fpo:∀b∈[S,s.heap.objs.size,f],dB X pins H b:=λb hb=>by
  rcases List.mem_cons.mp hb with rfl|hb
  ·exact fS
  ·rcases List.mem_cons.mp hb with rfl|hb
   ·exact fI
   ·rw[List.mem_singleton.mp hb];exact hfo
 obtain⟨Zbp,ri0,pl0,_⟩:=I0.list (hl _ _ w0)
 have hsz:Zbp.toArray.size=xs.length:=by rw[List.size_toArray,ri0.length]
 have W':=Walks.list (prog:=X.prog) (w:=X.w) (A:=X.A.in1) hh s.heap.objs.size l (Nat.ne_of_lt hll) Zbp.toArray
 refine codeAny_builtin PySem.F.entry_min_loop ?_
 rw[Around.under_plainId PySem.F.plain_min_loop _]
 show wpAny _ X.A.in1 (seqItems? (.ref _) >>= _) _ _ _
 refine wpAny_bind (wpAny_seqItems gS rfl ?_)
 show wpAny _ X.A.in1 (tryCatch (pyNext (.ref s.heap.objs.size)) _ >>= _) _ _ _
 refine wpAny_bind (wpAny_tryCatch (W'.item 0 _ _ _ (by rw[hsz];exact hne) ⟨⟨_,gI,rfl,rfl⟩,pl0.isList⟩ λu h' tk' hP hst' hk'=>?_))
 have hu:Zbp[0]?=some u:=by simpa using hP
 have hx0:xs[0]?=some xs[0]:=List.getElem?_eq_getElem hne
 have ru:RelV xs[0] u:=by
  obtain⟨u2,h2,r2⟩:=ri0.get hx0
  rw[hu] at h2
  cases h2
  exact r2
 obtain⟨oI',hoI',hoc,hod⟩:=id hst'.1
 have I1:=cT (h':=h') (t':=tk') I0 fI λb o hb e=>hk' b o (by simpa using hb) e
 have hS1:=hk' S _ (by simpa using hSI) gS
 have hF1:=hk' f _ (by simpa using hFI) (k0 _ _ hF)
 show wpAny _ X.A.in1 (tryCatch (holding [u] (call (.ref f) [u])) _ >>= _) _ _ _
 refine wpAny_bind (wpAny_tryCatch (wpAny_holding (wpAny_mono (vm (fp:=[S,s.heap.objs.size,f]) I1 fpo (λb hb=>?_) (λfG I'=>turn 0 _ hx0 fG H _ u I' w0 ru hF1) λy u2 H2 s2 I2 ry ⟨ey,w2⟩ Jq kp2=>?_) (λ_ _ z=>z) λ_ _ hF=>hF.elim)))
 ·rcases List.mem_cons.mp hb with rfl|hb
  ·exact⟨_,hS1,λv z=>by cases z⟩
  ·rcases List.mem_cons.mp hb with rfl|hb
   ·exact⟨oI',hoI',λv z=>by rw[hod] at z;cases z⟩
   ·rw[List.mem_singleton.mp hb]
    exact⟨oF,hF1,hdF⟩
 ·subst ey
  obtain⟨t2,rfl⟩:=ry
  have hS2:=kp2 S (by simp) _ hS1
  have hI2:=kp2 s.heap.objs.size (by simp) _ hoI'
  have hF2:=kp2 f (by simp) _ hF1
  have s1:=Heap.SameBut.update s2.heap S (Obj.mapSeq λ_=> #[u,.int (ks 0) t2])
  obtain⟨cc,hc2⟩:∃cc,(s2.heap.update S (Obj.mapSeq λ_=> #[u,.int (ks 0) t2])).get? S=some (seqObj "list" #[u,.int (ks 0) t2] cc):=⟨_,get?_update_seq hS2 λ_=> #[u,.int (ks 0) t2]⟩
  show wpAny _ X.A.in1 (updateSeq S (λ_=> #[u,.int (ks 0) t2]) >>= _) _ _ _
  refine wpAny_bind ?_
  refine wpAny_updateSeq hS2 rfl ?_
  rw[hname]
  refine wpAny_pure ⟨plainId_quiet PySem.F.plain_min_loop _,Jp ks W hh hl hdF hFS hFI turn (λi v u' H' s' a1 a2 a3 a4 a5=>hQ i v u' H' s' a1 a2 a3 a4 a5) _ 0 0 H2 _ u t2 cc _ rfl hne (cT (t':=s2.toks) I2 (Jq S (by simp)) λb o hb e=>(s1.2 b hb).trans e) w2 hc2 ⟨oI',(s1.2 _ hSI.symm).trans hI2,hoc,hod⟩ ((s1.2 f hFS).trans hF2) Jq hx0 ru (Nat.le_refl _) λj' hj'=>?_⟩
  have e:j'=0:=by omega
  subst e
  exact⟨by omega,λh=>absurd h (Nat.lt_irrefl _)⟩
end
def ZdJ(K:PySem.W.Frag)(ta:TA)(js:List Nat)(te:TE):TE:=λσ H Q=>ta σ H λvs H1=>∃l xs,vs=[.ref l]/\aQ K H1 l xs/\0<xs.length/\∀c q H2,Same H1 H2->H2 c=some (.Gn q)->(∀a,H1 a=none->H2 a=none\/a=c)->
 ∃(ks:Nat->Int) (W:Nat->Hp->Prop),W 0 H2/\(∀k H,W k H->Same H2 H)/\(∀k v H,xs[k]?=some v->W k H->te (gU js σ v) H λy H'=>y=.int (ks k)/\W (k+1) H')/\
  ∀i v H,xs[i]?=some v->(∀j,j<xs.length->ks i<=ks j/\(j<i->ks i<ks j))->W xs.length H->Q v H
section
variable{X:Cx}{x px:Str}{c P:Addr}{params:Arguments}{body e:Expr}{scope:Scope}{p pos Rv kpos:Pos}{ta:TA}{te:TE}
def Rw(N0:List Str)(js:List Nat)(sc:Scope)(hsc:X.env.scope=sc)(hcalm:X.calm=true)(Zbo:X.A.depth<recursionLimit)(hx:x∈lams)(ht:PySem.W.tabIn X.K x=some (c,P))(hcode:X.env.code=.ref c)(hq:X.env.qual=x ++ ".<locals>.")
 (hg:Gl X "min")(hm:X.mg "min" =none)(ha:PA X [e] ta)(he:∀cl f c' s H,PE (JW X (N0 ++ [px]) (fC x) scope cl f c' X.A.in1 s H) body te)(hcap:jM X sc scope N0 js)(hlen:js.length=N0.length:=by rfl)
 (hbind:∀(cl:List (Str×Addr)) (pm ctv:Value) (c':Addr) (u:Value),bindArgs (PySem.W.kla_fn "<lambda>" (fC x) params body scope cl pm (.ref c') ctv) ⟨[u],[]⟩=pure [(px,u)]:=by intros;rfl)
 (hk:scope.kind=.function:=by rfl)(hcell:∀y∈scope.names,y.2≠ .cell:=by decide +kernel)(hpx:scope.names.lookup px=some .local:=by rfl)(hco:scope.isCoroutine=false:=by rfl)(hgen:scope.isGenerator=false:=by rfl)
 (hfree:∀y∈scope.names,y.2=.free->(sc.names.lookup y.1=some .cell\/sc.names.lookup y.1=some .free):=by decide +kernel)(hdef:defaultsOf params X.env=([],[]):=by rfl)
 (hst:starEach [e] X.env=[(false,eval e X.env)]:=by rfl)(hpl:(backTo pos (starEach [e] X.env)).any (·.1)=false:=by rfl) :
 PE X (.Call (.Name "min" p) [e] [⟨some "key",.Lambda params body scope Rv,kpos⟩] pos) (ZdJ X.K ta js te):=by
 intro pins s σ H Q I h
 obtain⟨cl,c1,c2,c3⟩:=iK (scope:=scope) (env:=X.env) λy hy hf=>I.ok.has y.1 (by
  have:=hfree y hy hf
  rw[<-hsc] at this
  exact this)
 have hh:=I.ok.hd hcalm
 refine wpAny_Call_Name_kw (mX I hg hm (show bootBuiltins "min" =some (.builtin "min") by kernel_rfl) ?_ (by decide) (by decide))
 refine callWith_kw (Ŭ (ha pos pins s σ H _ I h) λus s1 ⟨vs,H1,I1,r1,q1⟩=>?_) (by rw[hst];rfl) hpl rfl rfl
 obtain⟨l,xs,rfl,hs1,hne,q1⟩:=q1
 have eus:us=[.ref l]:=by
  cases r1 with
  |cons a b=>
   cases b
   exact congrArg (λz=>[z]) (show _=Value.ref l from a)
 subst eus
 show wpAny _ _ (evalAll ((do let v <-eval (.Lambda params body scope Rv) X.env;standAt pos;pure v)::[])) _ _ s1
 refine wpAny_evalAll_cons (wpAny_bind (Lf I1 hx ht hcode hq hdef c1 λf c' pm ctv H2 s2 I2 nw sm hc hf fo=>wpAny_bind (wpAny_standAt (wpAny_pure ?_))))
 refine wpAny_evalAll_nil ?_
 obtain⟨ks,W,w0,wm,wt,wq⟩:=q1 c' _ H2 sm hc nw
 refine Jr (xs:=xs) ks W hh (λk H w=>(wm k H w).seq (sm.seq hs1)) (λv z=>by cases z) hne (λk v hv fG H' s' u I' w ru hf'=>?_) (λi v u H' s' hv ru hb I' w=>⟨v,H',I',ru,wq i v H' hv hb w⟩) I2 w0 hf fo
 exact Lg (A:=X.A.in1) (te:=te) (N0:=N0) (js:=js) hsc hk hcap hlen hcell hpx hco hgen I.ok.frames hh Zbo c2 c3 (hbind cl pm ctv c') (λs H=>he cl f c' s H) I' hf' (wm k H' w c' _ hc) ru (wt k v H' hv w)
end
end M5
namespace P
def nst:PySem.Expr->Bool
 | .Starred .. =>false
 |_=>true
def Ĵ{e:PySem.Expr}{es:List PySem.Expr}{env:PySem.Env}(h:nst e=true):PySem.starEach (e::es) env=(false,PySem.eval e env)::PySem.starEach es env:=by
 cases e<;>first|rfl|cases h
def Li{a b:PySem.Expr}{env:PySem.Env}(h:nst a=true)(h2:nst b=true):PySem.starEach [a,b] env=[(false,PySem.eval a env),(false,PySem.eval b env)]:=by
 rw[Ĵ h,Ĵ h2];rfl
open PySem PySem.Spec PyProof.Rows L2 M2
structure KK where
 K:PySem.W.Frag
 cm:String->Addr
abbrev kk(X:Cx)(cm:String->Addr):KK:=⟨X.K,cm⟩
inductive PV where
 |non|bl (b:Bool)|int (i:Int)|str (x:Str)|tup (xs:List PV)|lst (xs:List PV)
 |ins (C:String) (ns:List Str) (xs:List PV)|xc (C:String) (ns:List Str) (xs:List PV)|ty (n:String)|cls (C:String)
def xo(a C:Addr)(d:Option Addr):HO:=.ext λh=>∃o vs,h.get? a=some o/\o.cls=.ref C/\o.dict=d/\o.data=.fields vs
def qm(F:Hp)(d:Option Addr)(fs:List (Str×V)):Prop:=(d=none/\fs=[])\/∃a,d=some a/\F a=some (.xd fs)
mutual
def Rep(K:KK)(F:Hp):PV->V->Prop
 | .non,v=>v=.non
 | .bl b,v=>v=.bl b
 | .int i,v=>v=.int i
 | .str x,v=>v=.str x
 | .tup ps,v=>∃a xs,v=.ref a/\gG K.K F a xs/\Ģ K F ps xs
 | .lst ps,v=>∃a xs,v=.ref a/\aQ K.K F a xs/\Ģ K F ps xs
 | .ins C ns ps,v=>∃a dx fs,v=.ref a/\F a=some (.ins (K.cm C) dx fs)/\fs.map (·.1)=ns/\Ģ K F ps (fs.map (·.2))
 | .xc C ns ps,v=>∃a d fs,v=.ref a/\F a=some (xo a (K.cm C) d)/\qm F d fs/\fs.map (·.1)=ns/\Ģ K F ps (fs.map (·.2))
 | .ty n,v=>v=.ty n
 | .cls C,v=>v=.ref (K.cm C)
def Ģ(K:KK)(F:Hp):List PV->List V->Prop
 | [],xs=>xs=[]
 |p::ps,xs=>∃x r,xs=x::r/\Rep K F p x/\Ģ K F ps r
end
section
variable{K:KK}{F F' H H':Hp}
def qm.same{d:Option Addr}{fs:List (Str×V)}(e:Same F F')(h:qm F d fs):qm F' d fs:=by
 rcases h with h|⟨a,h1,h2⟩
 ·exact .inl h
 ·exact .inr ⟨a,h1,e _ _ h2⟩
mutual
theorem Rep.same(e:Same F F'):∀(p:PV) (v:V),Rep K F p v->Rep K F' p v
 | .non,_,h=>by unfold Rep at h ⊢;exact h
 | .bl _,_,h=>by unfold Rep at h ⊢;exact h
 | .int _,_,h=>by unfold Rep at h ⊢;exact h
 | .str _,_,h=>by unfold Rep at h ⊢;exact h
 | .ty _,_,h=>by unfold Rep at h ⊢;exact h
 | .cls _,_,h=>by unfold Rep at h ⊢;exact h
 | .tup ps,_,h=>by
   unfold Rep at h ⊢
   obtain⟨a,xs,h1,h2,h3⟩:=h
   exact⟨a,xs,h1,Same.tup e h2,Ģ.same e ps xs h3⟩
 | .lst ps,_,h=>by
   unfold Rep at h ⊢
   obtain⟨a,xs,h1,h2,h3⟩:=h
   exact⟨a,xs,h1,e.seq h2,Ģ.same e ps xs h3⟩
 | .ins C ns ps,_,h=>by
   unfold Rep at h ⊢
   obtain⟨a,dx,fs,h1,h2,h3,h4⟩:=h
   exact⟨a,dx,fs,h1,e _ _ h2,h3,Ģ.same e ps _ h4⟩
 | .xc C ns ps,_,h=>by
   unfold Rep at h ⊢
   obtain⟨a,d,fs,h1,h2,hd,h3,h4⟩:=h
   exact⟨a,d,fs,h1,e _ _ h2,hd.same e,h3,Ģ.same e ps _ h4⟩
theorem Ģ.same(e:Same F F'):∀(ps:List PV) (xs:List V),Ģ K F ps xs->Ģ K F' ps xs
 | [],_,h=>by unfold Ģ at h ⊢;exact h
 |p::ps,_,h=>by
  unfold Ģ at h ⊢
  obtain⟨x,r,h1,h2,h3⟩:=h
  exact⟨x,r,h1,Rep.same e p x h2,Ģ.same e ps r h3⟩
end
theorem Ģ.pr:∀{ps:List PV} {vs:List V},Ģ K F ps vs->Paired (Rep K F) ps vs
 | [],_,h=>by unfold Ģ at h;subst h;exact .nil
 |p::ps,_,h=>by
  unfold Ģ at h
  obtain⟨x,r,rfl,h2,h3⟩:=h
  exact .cons h2 (Ģ.pr h3)
theorem Ģ.of:∀{ps:List PV} {vs:List V},Paired (Rep K F) ps vs->Ģ K F ps vs
 | [],_,.nil=>by unfold Ģ;rfl
 |p::ps,_,.cons h t=>by unfold Ģ;exact⟨_,_,rfl,h,Ģ.of t⟩
theorem Ģ.nil:Ģ K F [] []:=Ģ.of .nil
theorem Ģ.cons{p:PV}{v:V}{ps:List PV}{vs:List V}(h:Rep K F p v)(t:Ģ K F ps vs):Ģ K F (p::ps) (v::vs):=Ģ.of (.cons h t.pr)
theorem Ģ.length{ps:List PV}{vs:List V}(h:Ģ K F ps vs):ps.length=vs.length:=Paired.length h.pr
theorem cU{α β:Type}{G:α->β->Prop}:∀{l:List α} {m:List β} {i:Nat} {x:α},Paired G l m->l[i]?=some x->∃y,m[i]?=some y/\G x y
 |_,_,_,_,.nil,e=>by simp at e
 |_,_,0,_,.cons r _,e=>by simp at e;subst e;exact⟨_,rfl,r⟩
 |_,_,i+1,x,.cons _ t,e=>by
  obtain⟨y,h1,h2⟩:=cU (i:=i) (x:=x) t (by simpa using e)
  exact⟨y,by simpa using h1,h2⟩
theorem Lj{α β:Type}{G:α->β->Prop}:∀{l l2:List α} {m m2:List β},Paired G l m->Paired G l2 m2->Paired G (l++l2) (m++m2)
 |_,_,_,_,.nil,t=>t
 |_,_,_,_,.cons r s,t=>.cons r (Lj s t)
theorem Lk{α β:Type}{G:α->β->Prop}{x:α}{y:β}(r:G x y):∀{l:List α} {m:List β} (i:Nat),Paired G l m->Paired G (l.set i x) (m.set i y)
 |_,_,_,.nil=>.nil
 |_,_,0,.cons _ t=>.cons r t
 |_,_,i+1,.cons q t=>.cons q (Lk r i t)
theorem GP{α β:Type}{G:α->β->Prop}:∀{l:List α} {m:List β} (n:Nat),Paired G l m->Paired G (l.take n) (m.take n)
 |_,_,0,_=>.nil
 |_,_,_+1,.nil=>.nil
 |_,_,n+1,.cons r t=>.cons r (GP n t)
theorem GQ{α β:Type}{G:α->β->Prop}:∀{l:List α} {m:List β} (n:Nat),Paired G l m->Paired G (l.drop n) (m.drop n)
 |_,_,0,h=>h
 |_,_,_+1,.nil=>.nil
 |_,_,n+1,.cons _ t=>GQ n t
def Ģ.append{ps qs:List PV}{vs us:List V}(h:Ģ K F ps vs)(t:Ģ K F qs us):Ģ K F (ps++qs) (vs++us):=Ģ.of (Lj h.pr t.pr)
end
inductive Slot where
 |no|sh (p:PV)|ow (ps:List PV)|bw (ps:List PV)|rc (C:String) (ns:List Str) (ps:List PV)|ot (ps qs:List PV)|ol (GR:List (List PV))
abbrev ŝ:=List Slot
def Slot.own:Slot->Bool
 | .ow _=>true
 | .rc _ _ _=>true
 | .ot _ _=>true
 | .ol _=>true
 |_=>false
structure Ctx where
 B:Hp
 F₀:Hp
 /-- what is lent here:read,never changed,never kept -/
 L:Hp
 /-- which objects may be held as one's own:address,dict,class -/
 S:Addr->Addr->String->Prop
def bF(K:KK)(c:Ctx)(F H:Hp)(o:Option V):Slot->Prop
 | .no=>True
 | .sh p=>∃v,o=some v/\Rep K F p v
 | .ow ps=>∃a vs,o=some (.ref a)/\H a=some (.lst vs)/\F a=none/\c.B a=none/\Ģ K F ps vs
 | .bw ps=>∃a vs,o=some (.ref a)/\c.L a=some (.lst vs)/\Ģ K F ps vs
 | .rc C ns ps=>∃a dx fs,o=some (.ref a)/\H a=some (.ins (K.cm C) dx fs)/\F a=none/\c.B a=none/\fs.map (·.1)=ns/\Ģ K F ps (fs.map (·.2))/\c.S a dx C
 | .ot ps qs=>∃p a xs vs,o=some (.ref p)/\F p=some (.tup (xs ++ [.ref a]))/\Ģ K F ps xs/\H a=some (.lst vs)/\F a=none/\c.B a=none/\Ģ K F qs vs
 | .ol GR=>∃(p:Addr) (as:List Addr),o=some (.ref p)/\F p=some (.lst (as.map V.ref))/\as.Nodup/\Paired (λ(a:Addr) (ps:List PV)=>∃vs,H a=some (.lst vs)/\F a=none/\c.B a=none/\Ģ K F ps vs) as GR
def Slot.at_(F:Hp)(x:V)(a:Addr):Slot->Prop
 | .ot _ _=>∃p xs,x=.ref p/\F p=some (.tup (xs ++ [.ref a]))
 | .ol _=>∃(p:Addr) (as:List Addr),x=.ref p/\F p=some (.lst (as.map V.ref))/\a∈as
 | .ow _=>x=.ref a
 | .rc _ _ _=>x=.ref a
 |_=>False
def ť(F:Hp)(σ:L2.St)(ρ:ŝ)(i:Nat)(a:Addr):Prop:=∃s x,ρ[i]?=some s/\σ[i]?=some (some x)/\s.at_ F x a
structure Rel(K:KK)(c:Ctx)(F H:Hp)(σ:L2.St)(ρ:ŝ):Prop where
 sub:Same F H
 base:Same c.B H
 f0:Same c.F₀ F
 gD:∀a,c.B a≠none->c.F₀ a=none->F a=none
 lent:∀a u,c.L a=some u->H a=some u/\F a=none
 lb:∀a,c.B a=none->c.L a=none
 len:σ.length=ρ.length
 slot:∀(i:Nat) s,ρ[i]?=some s->bF K c F H ((σ[i]?).getD none) s
 sep:∀i j a,ť F σ ρ i a->ť F σ ρ j a->i=j
def qt(F:Hp)(σ:L2.St)(ρ:ŝ)(a:Addr):Prop:=∀i,¬ť F σ ρ i a
section
variable{K:KK}{c:Ctx}{F F' H H':Hp}{σ:L2.St}{ρ:ŝ}{a:Addr}{o:HO}
def jN{s:Slot}{x:V}(h:s.at_ F x a):s.own=true:=by
 cases s<;>first|rfl|exact h.elim
theorem rW:∀{as bs:List Addr},as.map V.ref=bs.map V.ref->as=bs
 | [],[],_=>rfl
 | [],_::_,h=>by cases h
 |_::_,[],h=>by cases h
 |a::as,b::bs,h=>by
  injection h with h1 h2
  injection h1 with h1
  rw[h1,rW h2]
def rz{ps qs:List PV}{x:V}{b:Addr}(h:(Slot.ot ps qs).at_ F x a)(h':(Slot.ot ps qs).at_ F x b):a=b:=by
 obtain⟨p,xs,h1,h2⟩:=h
 obtain⟨q,ys,h3,h4⟩:=h'
 rw[h1] at h3
 cases h3
 rw[h2] at h4
 have e:xs ++ [V.ref a]=ys ++ [V.ref b]:=by
  injection h4 with h4
  injection h4
 have e2:=congrArg List.getLast? e
 simp at e2
 exact e2
theorem Lp{α β:Type}{G:α->β->Prop}:∀{l:List α} {m:List β} {x:α},Paired G l m->x∈l->∃y,y∈m/\G x y
 |_,_,_,.nil,h=>by simp at h
 |_,_,x,.cons r t,h=>by
  rcases List.mem_cons.mp h with rfl|h
  ·exact⟨_,List.mem_cons_self,r⟩
  ·obtain⟨y,h1,h2⟩:=Lp t h
   exact⟨y,List.mem_cons_of_mem _ h1,h2⟩
theorem Lq{α β:Type}{G G':α->β->Prop}:∀{l:List α} {m:List β},Paired G l m->(∀x y,x∈l->G x y->G' x y)->Paired G' l m
 |_,_,.nil,_=>.nil
 |_,_,.cons r t,h=>.cons (h _ _ List.mem_cons_self r) (Lq t λx y hx=>h x y (List.mem_cons_of_mem _ hx))
def bF.grow{s:Slot}{x:Option V}(h:bF K c F H x s)(eF:Same F F')(eH:∀b vs,(∃y,x=some y/\s.at_ F y b)->H b=some vs->F b=none->c.B b=none->H' b=some vs/\F' b=none):bF K c F' H' x s:=by
 cases s with
 |no=>trivial
 |sh p=>obtain⟨v,h1,h2⟩:=h;exact⟨v,h1,h2.same eF p v⟩
 |ow ps=>
  obtain⟨b,vs,h1,h2,h3,h4,h5⟩:=h
  obtain⟨e1,e2⟩:=eH b _ ⟨_,h1,rfl⟩ h2 h3 h4
  exact⟨b,vs,h1,e1,e2,h4,h5.same eF ps vs⟩
 |bw ps=>obtain⟨b,vs,h1,h2,h3⟩:=h;exact⟨b,vs,h1,h2,h3.same eF ps vs⟩
 |rc C ns ps=>
  obtain⟨b,dx,fs,h1,h2,h3,h4,h5,h6⟩:=h
  obtain⟨e1,e2⟩:=eH b _ ⟨_,h1,rfl⟩ h2 h3 h4
  exact⟨b,dx,fs,h1,e1,e2,h4,h5,h6.1.same eF ps _,h6.2⟩
 |ot ps qs=>
  obtain⟨p,b,xs,vs,h1,h2,h3,h4,h5,h6,h7⟩:=h
  obtain⟨e1,e2⟩:=eH b _ ⟨_,h1,p,xs,rfl,h2⟩ h4 h5 h6
  exact⟨p,b,xs,vs,h1,eF _ _ h2,h3.same eF ps xs,e1,e2,h6,h7.same eF qs vs⟩
 |ol GR=>
  obtain⟨p,as,h1,h2,h3,h4⟩:=h
  refine⟨p,as,h1,eF _ _ h2,h3,Lq h4 λb ps hb ⟨vs,k1,k2,k3,k4⟩=>?_⟩
  obtain⟨e1,e2⟩:=eH b _ ⟨_,h1,p,as,rfl,h2,hb⟩ k1 k2 k3
  exact⟨vs,e1,e2,k3,k4.same eF ps vs⟩
def bF.owned{s:Slot}{y:V}(h:bF K c F H (some y) s)(ha:s.at_ F y a):∃u,H a=some u/\F a=none/\c.B a=none:=by
 cases s with
 |no=>exact ha.elim
 |sh p=>exact ha.elim
 |bw ps=>exact ha.elim
 |ow ps=>
  obtain⟨b,vs,h1,h2,h3,h4,h5⟩:=h
  rw[show y=.ref a from ha] at h1
  cases h1
  exact⟨_,h2,h3,h4⟩
 |rc C ns ps=>
  obtain⟨b,dx,fs,h1,h2,h3,h4,h5,h6⟩:=h
  rw[show y=.ref a from ha] at h1
  cases h1
  exact⟨_,h2,h3,h4⟩
 |ot ps qs=>
  obtain⟨p,b,xs,vs,h1,h2,h3,h4,h5,h6,h7⟩:=h
  cases h1
  cases rz (ps:=ps) (qs:=qs) ha ⟨p,xs,rfl,h2⟩
  exact⟨_,h4,h5,h6⟩
 |ol GR=>
  obtain⟨p,as,h1,h2,h3,h4⟩:=h
  cases h1
  obtain⟨q,bs,e1,e2,e3⟩:=ha
  cases e1
  rw[h2] at e2
  have e:as=bs:=rW (by injection e2 with e2;injection e2)
  subst e
  obtain⟨ps,_,vs,k1,k2,k3,_⟩:=Lp h4 e3
  exact⟨_,k1,k2,k3⟩
def bF.back{s:Slot}{y:V}(h:bF K c F H (some y) s)(e:Same F F')(ha:s.at_ F' y a):s.at_ F y a:=by
 cases s with
 |ot ps qs=>
  obtain⟨p,b,xs,vs,h1,h2,h3,h4,h5,h6,h7⟩:=h
  cases h1
  cases rz (ps:=ps) (qs:=qs) ha ⟨p,xs,rfl,e _ _ h2⟩
  exact⟨p,xs,rfl,h2⟩
 |ol GR=>
  obtain⟨p,as,h1,h2,h3,h4⟩:=h
  cases h1
  obtain⟨q,bs,e1,e2,e3⟩:=ha
  cases e1
  rw[e _ _ h2] at e2
  have z:as=bs:=rW (by injection e2 with e2;injection e2)
  subst z
  exact⟨p,as,rfl,h2,e3⟩
 |_=>exact ha
def jO{i:Nat}{x:V}(e:σ[i]?=some (some x)):(σ[i]?).getD none=some x:=by rw[e];rfl
def Lr{i:Nat}{x:V}(e:(σ[i]?).getD none=some x):σ[i]?=some (some x):=by
 cases q:σ[i]? with
 |none=>rw[q] at e;cases e
 |some y=>rw[q] at e;exact congrArg some e
theorem Rel.owned(r:Rel K c F H σ ρ){i:Nat}(h:ť F σ ρ i a):(∃u,H a=some u)/\F a=none/\c.B a=none:=by
 obtain⟨s,x,h1,h2,h3⟩:=h
 have q:=r.slot i s h1
 rw[jO h2] at q
 obtain⟨u,q⟩:=q.owned h3
 exact⟨⟨u,q.1⟩,q.2⟩
theorem Rel.back(r:Rel K c F H σ ρ)(e:Same F F'){i:Nat}(h:ť F' σ ρ i a):ť F σ ρ i a:=by
 obtain⟨s,x,h1,h2,h3⟩:=h
 have q:=r.slot i s h1
 rw[jO h2] at q
 exact⟨s,x,h1,h2,q.back e h3⟩
def Rel.Zbq(r:Rel K c F H σ ρ)(e:Same F F'):∀i j a,ť F' σ ρ i a->ť F' σ ρ j a->i=j:=λi j a h1 h2=>r.sep i j a (r.back e h1) (r.back e h2)
def Rel.wQ(r:Rel K c F H σ ρ)(e:Same F F')(h:qt F σ ρ a):qt F' σ ρ a:=λi q=>h i (r.back e q)
def Rel.fresh(r:Rel K c F H σ ρ)(h:H a=none):qt F σ ρ a:=λi q=>by
 obtain⟨⟨u,e⟩,_⟩:=r.owned q
 rw[h] at e;cases e
def Rel.alloc(r:Rel K c F H σ ρ)(h:H a=none):Rel K c (upd F a o) (upd H a o) σ ρ where
 sub:=λb u e=>by
  by_cases hb:b=a
  ·subst hb;rw[Ī] at e ⊢;exact e
  ·rw[Ę hb] at e ⊢;exact r.sub b u e
 base:=λb u e=>by
  have hb:b≠a:=λz=>by rw[z] at e;rw[r.base _ _ e] at h;cases h
  rw[Ę hb];exact r.base b u e
 f0:=fun b u e=>by
   have hb:b≠a:=λz=>by rw[z] at e;rw[r.sub _ _ (r.f0 _ _ e)] at h;cases h
   rw[Ę hb];exact r.f0 b u e
 gD:=λb h1 h2=>by
  have hb:b≠a:=λz=>by
   subst z
   cases q:c.B b with
   |none=>exact h1 q
   |some u=>rw[r.base _ _ q] at h;cases h
  rw[Ę hb];exact r.gD b h1 h2
 lent:=λb u e=>by
  obtain⟨h1,h2⟩:=r.lent b u e
  have hb:b≠a:=λz=>by rw[z,h] at h1;cases h1
  rw[Ę hb,Ę hb];exact⟨h1,h2⟩
 lb:=r.lb
 len:=r.len
 slot:=λi s e=>by
  have hF:F a=none:=r.sub.free h
  refine(r.slot i s e).grow (Same.upd hF) λb u _ h1 h2 h3=>?_
  have hb:b≠a:=λz=>by rw[z,h] at h1;cases h1
  rw[Ę hb,Ę hb];exact⟨h1,h2⟩
 sep:=r.Zbq (Same.upd (r.sub.free h))
def Rel.made(r:Rel K c F H σ ρ)(h:H a=none):Rel K c F (upd H a o) σ ρ where
 sub:=r.sub.trans (Same.upd h)
 base:=r.base.trans (Same.upd h)
 f0:=r.f0
 gD:=r.gD
 lent:=λb u e=>⟨Same.upd h b u (r.lent b u e).1,(r.lent b u e).2⟩
 lb:=r.lb
 len:=r.len
 slot:=λi s e=>(r.slot i s e).grow (Same.refl F) λb u _ h1 h2 h3=>⟨Same.upd h b u h1,h2⟩
 sep:=r.sep
def Rel.freeze(r:Rel K c F H σ ρ)(h:H a=some o)(hB:c.B a=none)(hF:F a=none)(hf:qt F σ ρ a):Rel K c (upd F a o) H σ ρ where
 sub:=λb u e=>by
  by_cases hb:b=a
  ·subst hb;rw[Ī] at e;rw[h];exact e
  ·rw[Ę hb] at e;exact r.sub b u e
 base:=r.base
 f0:=r.f0.trans (Same.upd hF)
 gD:=λb h1 h2=>by
  have hb:b≠a:=λz=>h1 (by rw[z];exact hB)
  rw[Ę hb];exact r.gD b h1 h2
 lent:=λb u e=>by
  have hb:b≠a:=λz=>by rw[z,r.lb a hB] at e;cases e
  rw[Ę hb];exact r.lent b u e
 lb:=r.lb
 len:=r.len
 slot:=λi s e=>(r.slot i s e).grow (Same.upd hF) λb' u' ⟨y,e1',ha⟩ h1 h2 h3=>by
  have hb:b'≠a:=λz=>by
   subst z
   exact hf i ⟨s,y,e,Lr e1',ha⟩
  rw[Ę hb];exact⟨h1,h2⟩
 sep:=r.Zbq (Same.upd hF)
def bh{α:Type}{l:List α}{i j:Nat}{x y:α}(h:(l.set i x)[j]?=some y):(j=i/\y=x/\i<l.length)\/(j≠i/\l[j]?=some y):=by
 by_cases hj:j=i
 ·subst hj
  have hl:j<l.length:=by
   have:=(List.getElem?_eq_some_iff.mp h).1
   simpa using this
  rw[List.getElem?_set_self hl] at h
  exact .inl ⟨rfl,(Option.some.inj h).symm,hl⟩
 ·rw[List.getElem?_set_ne (Ne.symm hj)] at h
  exact .inr ⟨hj,h⟩
def Ls{l:L2.St}{i:Nat}{x:Option V}(h:i<l.length):((l.set i x)[i]?).getD none=x:=by rw[List.getElem?_set_self h];rfl
def GX{l:L2.St}{i j:Nat}{x:Option V}(h:j≠i):((l.set i x)[j]?).getD none=(l[j]?).getD none:=by rw[List.getElem?_set_ne (Ne.symm h)]
def ť.off{i j:Nat}{x:Option V}{s:Slot}(h:ť F (σ.set i x) (ρ.set i s) j a)(hj:j≠i):ť F σ ρ j a:=by
 obtain⟨s',y,h1,h2,h3⟩:=h
 rw[List.getElem?_set_ne (Ne.symm hj)] at h1 h2
 exact⟨s',y,h1,h2,h3⟩
def Rel.put(r:Rel K c F H σ ρ){i:Nat}{x:Option V}{s:Slot}(hs:s.own=false)(h:bF K c F H x s):Rel K c F H (σ.set i x) (ρ.set i s) where
 sub:=r.sub
 base:=r.base
 f0:=r.f0
 gD:=r.gD
 lent:=r.lent
 lb:=r.lb
 len:=by simpa using r.len
 slot:=λj s' e=>by
  rcases bh e with⟨rfl,rfl,hl⟩|⟨hj,e⟩
  ·rw[Ls (by rw[r.len];exact hl)];exact h
  ·rw[GX hj];exact r.slot j s' e
 sep:=λj k b h1 h2=>by
  have off:∀{j},ť F (σ.set i x) (ρ.set i s) j b->j≠i:=fun{j} q z=>by
   subst z
   obtain⟨s',y,q1,_,q2⟩:=q
   rcases bh q1 with⟨_,rfl,_⟩|⟨q,_⟩
   ·have:=jN q2;rw[hs] at this;cases this
   ·exact q rfl
  exact r.sep j k b (h1.off (off h1)) (h2.off (off h2))
def Rel.Ud(r:Rel K c F H σ ρ){i:Nat}{s:Slot}(hs:s.own=false)(h:bF K c F H ((σ[i]?).getD none) s):Rel K c F H σ (ρ.set i s) where
 sub:=r.sub
 base:=r.base
 f0:=r.f0
 gD:=r.gD
 lent:=r.lent
 lb:=r.lb
 len:=by simpa using r.len
 slot:=λj s' e=>by
  rcases bh e with⟨rfl,rfl,hl⟩|⟨hj,e⟩
  ·exact h
  ·exact r.slot j s' e
 sep:=λj k b h1 h2=>by
  have off:∀{j},ť F σ (ρ.set i s) j b->ť F σ ρ j b:=fun{j} ⟨s',y,q1,q3,q2⟩=>by
   rcases bh q1 with⟨_,rfl,_⟩|⟨_,q⟩
   ·have:=jN q2;rw[hs] at this;cases this
   ·exact⟨s',y,q,q3,q2⟩
  exact r.sep j k b (off h1) (off h2)
def Rel.Rx(r:Rel K c F H σ ρ){i:Nat}{x:V}{s:Slot}(h:bF K c F H (some x) s)(hf:∀a,s.at_ F x a->qt F σ ρ a):Rel K c F H (σ.set i (some x)) (ρ.set i s) where
 sub:=r.sub
 base:=r.base
 f0:=r.f0
 gD:=r.gD
 lent:=r.lent
 lb:=r.lb
 len:=by simpa using r.len
 slot:=λj s' e=>by
  rcases bh e with⟨rfl,rfl,hl⟩|⟨hj,e⟩
  ·rw[Ls (by rw[r.len];exact hl)];exact h
  ·rw[GX hj];exact r.slot j s' e
 sep:=λj k b h1 h2=>by
  have Zbr:∀{j},ť F (σ.set i (some x)) (ρ.set i s) j b->(j=i/\s.at_ F x b)\/(j≠i/\ť F σ ρ j b):=fun{j} q=>by
   by_cases hj:j=i
   ·subst hj
    obtain⟨s',y,q1,q2,q3⟩:=q
    rcases bh q2 with⟨_,e,_⟩|⟨z,_⟩
    ·cases e
     rcases bh q1 with⟨_,e,_⟩|⟨z,_⟩
     ·cases e
      exact .inl ⟨rfl,q3⟩
     ·exact absurd rfl z
    ·exact absurd rfl z
   ·exact .inr ⟨hj,q.off hj⟩
  rcases Zbr h1 with⟨e1,z1⟩|⟨e1,o1⟩
  ·rcases Zbr h2 with⟨e2,z2⟩|⟨e2,o2⟩
   ·rw[e1,e2]
   ·exact absurd o2 (hf b z1 k)
  ·rcases Zbr h2 with⟨e2,z2⟩|⟨e2,o2⟩
   ·exact absurd o1 (hf b z2 j)
   ·exact r.sep j k b o1 o2
def Rel.Zbs(r:Rel K c F H σ ρ){i:Nat}{s:Slot}(ho:ť F σ ρ i a)(h:bF K c F (upd H a o) ((σ[i]?).getD none) s)(hs:∀x b,σ[i]?=some (some x)->s.at_ F x b->ť F σ ρ i b):Rel K c F (upd H a o) σ (ρ.set i s) where
 sub:=λb u e=>by
  have hb:b≠a:=λz=>by rw[z,(r.owned ho).2.1] at e;cases e
  rw[Ę hb];exact r.sub b u e
 base:=λb u e=>by
  have hb:b≠a:=λz=>by rw[z,(r.owned ho).2.2] at e;cases e
  rw[Ę hb];exact r.base b u e
 f0:=r.f0
 gD:=r.gD
 lent:=λb u e=>by
  have hb:b≠a:=λz=>by rw[z,r.lb a (r.owned ho).2.2] at e;cases e
  rw[Ę hb];exact r.lent b u e
 lb:=r.lb
 len:=by simpa using r.len
 slot:=λj s' e=>by
  rcases bh e with⟨rfl,rfl,hl⟩|⟨hj,e⟩
  ·exact h
  ·refine(r.slot j s' e).grow (Same.refl F) λb u ⟨y,e1,e2⟩ h1 h2 h3=>?_
   have hb:b≠a:=λz=>by
    subst z
    exact hj (r.sep j i b ⟨s',y,e,Lr e1,e2⟩ ho)
   exact⟨by rw[Ę hb];exact h1,h2⟩
 sep:=λj k b h1 h2=>by
  have off:∀{j},ť F σ (ρ.set i s) j b->ť F σ ρ j b:=fun{j} ⟨s',y,q1,q3,q2⟩=>by
   rcases bh q1 with⟨e,rfl,_⟩|⟨_,q⟩
   ·subst e
    exact hs y b q3 q2
   ·exact⟨s',y,q,q3,q2⟩
  exact r.sep j k b (off h1) (off h2)
def Rel.write(r:Rel K c F H σ ρ){i:Nat}{s:Slot}(ho:ť F σ ρ i a)(hx:σ[i]?=some (some (.ref a)))(h:bF K c F (upd H a o) (some (.ref a)) s)(hs:∀b,s.at_ F (.ref a) b->b=a):Rel K c F (upd H a o) σ (ρ.set i s):=
 r.Zbs ho (by rw[hx];exact h) λx b e q=>by rw[hx] at e;cases e;rw[hs b q];exact ho
structure Gr(F H F' H':Hp):Prop where
 h:Same H H'
 f:Same F F'
 sub:Same F' H'
 out:∀a,H a≠none->F a=none->F' a=none
def Rel.call(r:Rel K c F H σ ρ)(g:Gr F H F' H'):Rel K c F' H' σ ρ where
 sub:=g.sub
 base:=r.base.trans g.h
 f0:=r.f0.trans g.f
 gD:=λb h1 h2=>by
  refine g.out b (λz=>h1 ?_) (r.gD b h1 h2)
  cases q:c.B b with
  |none=>rfl
  |some u=>rw[r.base _ _ q] at z;cases z
 lent:=λb u e=>⟨g.h b u (r.lent b u e).1,g.out b (by rw[(r.lent b u e).1];intro z;cases z) (r.lent b u e).2⟩
 lb:=r.lb
 len:=r.len
 slot:=λi s e=>(r.slot i s e).grow g.f λb u _ h1 h2 h3=>⟨g.h b u h1,g.out b (by rw[h1];intro z;cases z) h2⟩
 sep:=r.Zbq g.f
def ctx0(F H:Hp):Ctx:=⟨H,F,λa=>match F a with
 |none=>H a
 |some _=>none,λ_ _ _=>True⟩
def gH{a:Addr}{u:HO}(h:(ctx0 F H).L a=some u):H a=some u/\F a=none:=by
 unfold ctx0 at h
 dsimp only at h
 cases q:F a with
 |none=>rw[q] at h;exact⟨h,rfl⟩
 |some o=>rw[q] at h;cases h
def Rel.gr(r:Rel K (ctx0 F H) F' H' σ ρ):Gr F H F' H':=⟨r.base,r.f0,r.sub,r.gD⟩
def fH(K:KK)(F H:Hp):Slot->V->Prop
 | .sh p,v=>Rep K F p v
 | .bw ps,v=>∃a vs,v=.ref a/\H a=some (.lst vs)/\F a=none/\Ģ K F ps vs
 |_,_=>False
def fH.slot{s:Slot}{v:V}(h:fH K F H s v):bF K (ctx0 F H) F H (some v) s/\s.own=false:=by
 cases s with
 |sh p=>exact⟨⟨v,rfl,h⟩,rfl⟩
 |bw ps=>
  obtain⟨a,vs,rfl,h1,h2,h3⟩:=h
  refine⟨⟨a,vs,rfl,?_,h3⟩,rfl⟩
  show(match F a with|none=>H a|some _=>none)=_
  rw[h2]
  exact h1
 |no=>exact h.elim
 |ow ps=>exact h.elim
 |rc C ns ps=>exact h.elim
 |ot ps qs=>exact h.elim
 |ol GR=>exact h.elim
def startP(n:Nat)(as:List Slot):ŝ:=as++List.replicate (n-as.length) .no
theorem Rel.start{N:List Str}{as:List Slot}{vs:List V}(s:Same F H)(h:Paired (fH K F H) as vs):Rel K (ctx0 F H) F H (L2.start N vs) (startP N.length as) where
 sub:=s
 base:=Same.refl H
 f0:=Same.refl F
 gD:=λ_ _ h=>h
 lent:=λ_ _ e=>gH e
 lb:=fun a e=>by
   cases q:(ctx0 F H).L a with
   |none=>rfl
   |some u=>
    have e':H a=none:=e
    rw[(gH q).1] at e'
    cases e'
 len:=by unfold L2.start startP;simp[Paired.length h]
 slot:=λi s' e=>by
  unfold startP at e
  by_cases hi:i<as.length
  ·rw[List.getElem?_append_left hi] at e
   obtain⟨v,h1,h2⟩:=cU h e
   have hv:((L2.start N vs)[i]?).getD none=some v:=by
    unfold L2.start
    rw[List.getElem?_append_left (by simpa[<-Paired.length h] using hi),List.getElem?_map,h1];rfl
   rw[hv]
   exact(fH.slot h2).1
  ·rw[List.getElem?_append_right (by omega),List.getElem?_replicate] at e
   split at e
   ·cases e;trivial
   ·cases e
 sep:=λi j a h1 _=>by
  obtain⟨s',y,h1,_,h2⟩:=h1
  have h2:=jN h2
  exfalso
  unfold startP at h1
  by_cases hi:i<as.length
  ·rw[List.getElem?_append_left hi] at h1
   obtain⟨v,_,h3⟩:=cU h h1
   rw[(fH.slot h3).2] at h2
   cases h2
  ·rw[List.getElem?_append_right (by omega),List.getElem?_replicate] at h1
   split at h1
   ·cases h1;cases h2
   ·cases h1
end
structure PX where
 C:String
 ns:List Str
 ps:List PV
def Js(K:KK)(F:Hp)(x:PX)(C:Value)(d:Option Addr):Prop:=C=.ref (K.cm x.C)/\∃fs,qm F d fs/\fs.map (·.1)=x.ns/\Ģ K F x.ps (fs.map (·.2))
inductive Res(α:Type) where
 |ok (a:α) (ρ:ŝ)|exc (x:PX) (ρ:ŝ)|bad
def Res.bind{α β:Type}(r:Res α)(f:α->ŝ->Res β):Res β:= match r with
 | .ok a ρ=>f a ρ
 | .exc x ρ=>.exc x ρ
 | .bad=>.bad
@[simp] theorem Res.cB{α β:Type}{a:α}{ρ:ŝ}{f:α->ŝ->Res β}:(Res.ok a ρ).bind f=f a ρ:= rfl
@[simp] theorem Res.ZdK{α β:Type}{x:PX}{ρ:ŝ}{f:α->ŝ->Res β}:(Res.exc x ρ:Res α).bind f=.exc x ρ:= rfl
@[simp] theorem Res.ZdL{α β:Type}{f:α->ŝ->Res β}:(Res.bad:Res α).bind f=.bad:=rfl
def Res.rC{α:Type}(o:Option α)(ρ:ŝ):Res α:= match o with
 |some a=>.ok a ρ
 |none=>.bad
@[simp] theorem Res.ZdM{α:Type}{a:α}{ρ:ŝ}:Res.rC (some a) ρ=.ok a ρ:= rfl
@[simp] theorem Res.ZdN{α:Type}{ρ:ŝ}:Res.rC (none:Option α) ρ=.bad:=rfl
abbrev M(α:Type):=ŝ->Res α
inductive RV where
 |sh (p:PV)|ow (ps:List PV)|ot (ps qs:List PV)
def RV.val:RV->PV
 | .sh p=>p
 | .ow ps=>.lst ps
 | .ot ps qs=>.tup (ps ++ [.lst qs])
def RV.slot:RV->Slot
 | .sh p=>.sh p
 | .ow ps=>.ow ps
 | .ot ps qs=>.ot ps qs
abbrev RR(α β:Type):=Ctx->L2.St->ŝ->Hp->Hp->α->β->Prop
def rV(K:KK):RR PV V:=λ_ _ _ F _ p v=>Rep K F p v
def GZ(K:KK)(F H:Hp)(p:PV)(v:V):Prop:=match p with
 | .lst ps=>∃a vs,v=.ref a/\H a=some (.lst vs)/\Ģ K F ps vs
 | .ins C ns ps=>∃a dx fs,v=.ref a/\H a=some (.ins (K.cm C) dx fs)/\fs.map (·.1)=ns/\Ģ K F ps (fs.map (·.2))
 |_=>False
def rR(K:KK):RR PV V:=λ_ _ _ F H p v=>Rep K F p v\/GZ K F H p v
def rA(K:KK):RR (List Slot) (List V):=λ_ _ _ F H as vs=>Paired (fH K F H) as vs
def Held(K:KK)(c:Ctx)(σ:L2.St)(ρ:ŝ)(F H:Hp)(ps:List PV)(v:V):Prop:=∃a vs,v=.ref a/\H a=some (.lst vs)/\F a=none/\c.B a=none/\qt F σ ρ a/\Ģ K F ps vs
def G_(K:KK)(c:Ctx)(σ:L2.St)(ρ:ŝ)(F H:Hp)(ps qs:List PV)(v:V):Prop:=∃p a xs vs,v=.ref p/\F p=some (.tup (xs ++ [.ref a]))/\Ģ K F ps xs/\H a=some (.lst vs)/\F a=none/\c.B a=none/\qt F σ ρ a/\Ģ K F qs vs
def rO(K:KK):RR RV V:=λc σ ρ F H r v=>match r with
 | .sh p=>Rep K F p v
 | .ow ps=>Held K c σ ρ F H ps v
 | .ot ps qs=>G_ K c σ ρ F H ps qs v
def rL(K:KK):RR (List PV) (List V):=λ_ _ _ F _ p v=>Ģ K F p v
def rRL(K:KK):RR (List PV) (List V):=λc σ ρ F H p v=>Paired (rR K c σ ρ F H) p v
def rB:RR Bool Bool:=λ_ _ _ _ _ p v=>p=v
def rI:RR (Option Int) (Option Int):=λ_ _ _ _ _ p v=>p=v
def cP{α β:Type}(K:KK)(E:L2.St->XK)(R:RR α β)(c:Ctx)(F H:Hp)(σ:L2.St)(Q:β->Hp->Prop):Res α->Prop
 | .ok p ρ'=>∀v F' H',Rel K c F' H' σ ρ'->Same F F'->Same H H'->R c σ ρ' F' H' p v->Q v H'
 | .exc x ρ'=>∀C d F' H',Rel K c F' H' σ ρ'->Same F F'->Js K F' x C d->E σ C d H'
 | .bad=>False
def tG{α β:Type}(K:KK)(E:L2.St->XK)(R:RR α β)(m:M α):L2.St->Hp->(β->Hp->Prop)->Prop:=λσ H Q=>∃c F ρ,Rel K c F H σ ρ/\cP K E R c F H σ Q (m ρ)
section
variable{α β α' β':Type}{K:KK}{E:L2.St->XK}{R:RR α β}{R':RR α' β'}{c:Ctx}{F F1 H H1:Hp}{σ:L2.St}
def cP.mono{Q:β->Hp->Prop}{r:Res α}(h:cP K E R c F H σ Q r)(sF:Same F F1)(sH:Same H H1):cP K E R c F1 H1 σ Q r:=by
 cases r with
 |ok p ρ'=>exact λv F' H' rel s1 s2 q=>h v F' H' rel (sF.trans s1) (sH.trans s2) q
 |exc x ρ'=>exact λC d F' H' rel s1 q=>h C d F' H' rel (sF.trans s1) q
 |bad=>exact h
theorem cP.bind{Q:β->Hp->Prop}{Q':β'->Hp->Prop}{r:Res α}{f:α->ŝ->Res α'}(h:cP K E R' c F H σ Q' (r.bind f))
 (k:∀p ρ1 v F1 H1,Rel K c F1 H1 σ ρ1->Same F F1->Same H H1->R c σ ρ1 F1 H1 p v->cP K E R' c F1 H1 σ Q' (f p ρ1)->Q v H1):cP K E R c F H σ Q r:=by
 cases r with
 |ok p ρ'=>exact λv F' H' rel s1 s2 q=>k p ρ' v F' H' rel s1 s2 q (cP.mono (show cP K E R' c F H σ Q' (f p ρ') from h) s1 s2)
 |exc x ρ'=>exact h
 |bad=>exact h
theorem cP.rel{R2:RR α β}{Q:β->Hp->Prop}{r:Res α}(h:cP K E R c F H σ Q r)(k:∀p ρ' v F' H',Rel K c F' H' σ ρ'->R2 c σ ρ' F' H' p v->R c σ ρ' F' H' p v):cP K E R2 c F H σ Q r:=by
 cases r with
 |ok p ρ'=>exact λv F' H' rel s1 s2 q=>h v F' H' rel s1 s2 (k p ρ' v F' H' rel q)
 |exc x ρ'=>exact h
 |bad=>exact h
end
abbrev tV(K:KK)(E:L2.St->XK)(m:M PV):TE:=tG K E (rV K) m
abbrev tR(K:KK)(E:L2.St->XK)(m:M PV):TE:=tG K E (rR K) m
abbrev tO(K:KK)(E:L2.St->XK)(m:M RV):TE:=tG K E (rO K) m
abbrev tL(K:KK)(E:L2.St->XK)(m:M (List PV)):TA:=tG K E (rL K) m
abbrev tA(K:KK)(E:L2.St->XK)(m:M (List Slot)):TA:=tG K E (rA K) m
abbrev tRL(K:KK)(E:L2.St->XK)(m:M (List PV)):TA:=tG K E (rRL K) m
abbrev tB(K:KK)(E:L2.St->XK)(m:M Bool):TT:=tG K E rB m
inductive Fl where
 |nx|bk|ct|rt (r:RV)
def ű(K:KK)(E:L2.St->XK)(c:Ctx)(F:Hp)(D:Ends):Res Fl->Prop
 | .ok .nx ρ'=>∀σ' F' H',Rel K c F' H' σ' ρ'->Same F F'->D.nx σ' H'
 | .ok .bk ρ'=>∀σ' F' H',Rel K c F' H' σ' ρ'->Same F F'->D.bk σ' H'
 | .ok .ct ρ'=>∀σ' F' H',Rel K c F' H' σ' ρ'->Same F F'->D.ct σ' H'
 | .ok (.rt r) ρ'=>∀v σ' F' H',Rel K c F' H' σ' ρ'->Same F F'->rO K c σ' ρ' F' H' r v->D.rt v H'
 | .exc x ρ'=>∀σ' C d F' H',Rel K c F' H' σ' ρ'->Same F F'->Js K F' x C d->E σ' C d H'
 | .bad=>False
def tS(K:KK)(E:L2.St->XK)(m:M Fl):TS:=λD σ H=>∃c F ρ,Rel K c F H σ ρ/\ű K E c F D (m ρ)
section
variable{K:KK}{E:L2.St->XK}{c:Ctx}{F F1:Hp}{D:Ends}
def ű.mono{r:Res Fl}(h:ű K E c F D r)(sF:Same F F1):ű K E c F1 D r:=by
 cases r with
 |ok f ρ'=>
  cases f with
  |rt v=>exact λv σ' F' H' rel s1 q=>h v σ' F' H' rel (sF.trans s1) q
  |nx=>exact λσ' F' H' rel s1=>h σ' F' H' rel (sF.trans s1)
  |bk=>exact λσ' F' H' rel s1=>h σ' F' H' rel (sF.trans s1)
  |ct=>exact λσ' F' H' rel s1=>h σ' F' H' rel (sF.trans s1)
 |exc x ρ'=>exact λσ' C d F' H' rel s1 q=>h σ' C d F' H' rel (sF.trans s1) q
 |bad=>exact h
theorem ű.bind{α β:Type}{R:RR α β}{σ:L2.St}{H:Hp}{Q:β->Hp->Prop}{r:Res α}{f:α->ŝ->Res Fl}(h:ű K E c F D (r.bind f))
 (k:∀p ρ1 v F1 H1,Rel K c F1 H1 σ ρ1->Same F F1->R c σ ρ1 F1 H1 p v->ű K E c F1 D (f p ρ1)->Q v H1):cP K E R c F H σ Q r:=by
 cases r with
 |ok p ρ'=>exact λv F' H' rel s1 s2 q=>k p ρ' v F' H' rel s1 q (ű.mono (show ű K E c F D (f p ρ') from h) s1)
 |exc x ρ'=>exact λC d F' H' rel s1 q=>h σ C d F' H' rel s1 q
 |bad=>exact h
end
end P
namespace P
open PySem PySem.Spec PyProof.Rows L2 M2
def ĝ(i:Nat):M PV:=λρ=>match ρ[i]? with
 |some (.sh p)=>.ok p ρ
 |some (.ow ps)=>.ok (.lst ps) (ρ.set i (.sh (.lst ps)))
 |_=>.bad
def ā(i:Nat):M PV:=λρ=>match ρ[i]? with
 |some (.sh p)=>.ok p ρ
 |some (.ow ps)=>.ok (.lst ps) ρ
 |some (.bw ps)=>.ok (.lst ps) ρ
 |some (.rc C ns ps)=>.ok (.ins C ns ps) ρ
 |_=>.bad
def fJ(i:Nat):M RV:=λρ=>match ρ[i]? with
 |some (.sh p)=>.ok (.sh p) ρ
 |some (.ow ps)=>.ok (.ow ps) (ρ.set i .no)
 |_=>.bad
def mC(p:PV):M PV:=λρ=>.ok p ρ
def ş(m:M PV):M RV:=λρ=>(m ρ).bind λp ρ1=>.ok (.sh p) ρ1
def ē(m:M RV):M PV:=λρ=>(m ρ).bind λr ρ1=>.ok r.val ρ1
section
variable{K:KK}{c:Ctx}{F H:Hp}{σ:L2.St}{ρ:ŝ}
def at_of{i:Nat}{x:V}(h:(σ[i]?).getD none=some x):σ[i]?=some (some x):=by
 cases q:σ[i]? with
 |none=>rw[q] at h;cases h
 |some y=>rw[q] at h;exact congrArg some h
theorem Rel.ow(r:Rel K c F H σ ρ){i:Nat}{ps:List PV}(e:ρ[i]?=some (.ow ps)):∃a vs,σ[i]?=some (some (.ref a))/\H a=some (.lst vs)/\F a=none/\c.B a=none/\Ģ K F ps vs/\ť F σ ρ i a:=by
 obtain⟨a,vs,h1,h2,h3,h4,h5⟩:=r.slot i _ e
 exact⟨a,vs,at_of h1,h2,h3,h4,h5,⟨_,_,e,at_of h1,rfl⟩⟩
def Rel.move(r:Rel K c F H σ ρ){i:Nat}{a:Addr}(h:ť F σ ρ i a):Rel K c F H σ (ρ.set i .no)/\qt F σ (ρ.set i .no) a:=by
 refine⟨r.Ud rfl trivial,λj ⟨s,y,q1,q3,q2⟩=>?_⟩
 rcases bh q1 with⟨_,rfl,_⟩|⟨hj,q⟩
 ·exact q2.elim
 ·exact hj (r.sep j i a ⟨s,y,q,q3,q2⟩ h)
def Rel.share(r:Rel K c F H σ ρ){i:Nat}{ps:List PV}(e:ρ[i]?=some (.ow ps)):∃a vs,σ[i]?=some (some (.ref a))/\F a=none/\Rep K (upd F a (.lst vs)) (.lst ps) (.ref a)/\Rel K c (upd F a (.lst vs)) H σ (ρ.set i (.sh (.lst ps))):=by
 obtain⟨a,vs,h1,h2,h3,h4,h5,ho⟩:=r.ow e
 obtain⟨m1,m2⟩:=r.move ho
 have rp:Rep K (upd F a (.lst vs)) (.lst ps) (.ref a):=by
  unfold Rep
  exact⟨a,vs,rfl,aQ.of Ī,h5.same (Same.upd h3) ps vs⟩
 have q:=(m1.freeze h2 h4 h3 m2).Ud (i:=i) (s:=.sh (.lst ps)) rfl (show bF K c _ H _ (.sh (.lst ps)) from⟨.ref a,by rw[h1];rfl,rp⟩)
 rw[List.set_set] at q
 exact⟨a,vs,h1,h3,rp,q⟩
def GZ.mono{F1 H1:Hp}{p:PV}{v:V}(h:GZ K F H p v)(sF:Same F F1)(sH:Same H H1):GZ K F1 H1 p v:=by
 cases p with
 |lst ps=>
  obtain⟨a,vs,h2,h3,h4⟩:=h
  exact⟨a,vs,h2,sH _ _ h3,h4.same sF ps vs⟩
 |ins C ns ps=>
  obtain⟨a,dx,fs,h2,h3,h4,h5⟩:=h
  exact⟨a,dx,fs,h2,sH _ _ h3,h4,h5.same sF ps _⟩
 |_=>exact h.elim
theorem rR.mono{c:Ctx}{σ:L2.St}{ρ ρ':ŝ}{F1 H1:Hp}{p:PV}{v:V}(h:rR K c σ ρ F H p v)(sF:Same F F1)(sH:Same H H1):rR K c σ ρ' F1 H1 p v:=by
 rcases h with h|h
 ·exact .inl (h.same sF p v)
 ·exact .inr (h.mono sF sH)
theorem rR.lst{c:Ctx}{σ:L2.St}{ρ:ŝ}{ps:List PV}{v:V}(s:Same F H)(h:rR K c σ ρ F H (.lst ps) v):∃a vs,v=.ref a/\aQ K.K H a vs/\Ģ K F ps vs:=by
 rcases h with h|⟨a,vs,h2,h3,h4⟩
 ·unfold Rep at h
  obtain⟨a,xs,h1,h2,h3⟩:=h
  exact⟨a,xs,h1,s.seq h2,h3⟩
 ·exact⟨a,vs,h2,aQ.of h3,h4⟩
theorem rR.tup{c:Ctx}{σ:L2.St}{ρ:ŝ}{ps:List PV}{v:V}(s:Same F H)(h:rR K c σ ρ F H (.tup ps) v):∃a vs,v=.ref a/\gG K.K H a vs/\Ģ K F ps vs:=by
 rcases h with h|h
 ·unfold Rep at h
  obtain⟨a,xs,h1,h2,h3⟩:=h
  exact⟨a,xs,h1,Same.tup s h2,h3⟩
 ·exact h.elim
theorem rR.int{c:Ctx}{σ:L2.St}{ρ:ŝ}{i:Int}{v:V}(h:rR K c σ ρ F H (.int i) v):v=.int i:=by
 rcases h with h|h
 ·unfold Rep at h;exact h
 ·exact h.elim
theorem rR.str{c:Ctx}{σ:L2.St}{ρ:ŝ}{i:Str}{v:V}(h:rR K c σ ρ F H (.str i) v):v=.str i:=by
 rcases h with h|h
 ·unfold Rep at h;exact h
 ·exact h.elim
theorem rR.bl{c:Ctx}{σ:L2.St}{ρ:ŝ}{i:Bool}{v:V}(h:rR K c σ ρ F H (.bl i) v):v=.bl i:=by
 rcases h with h|h
 ·unfold Rep at h;exact h
 ·exact h.elim
theorem rR.non{c:Ctx}{σ:L2.St}{ρ:ŝ}{v:V}(h:rR K c σ ρ F H .non v):v=.non:=by
 rcases h with h|h
 ·unfold Rep at h;exact h
 ·exact h.elim
theorem rR.ty{c:Ctx}{σ:L2.St}{ρ:ŝ}{n:String}{v:V}(h:rR K c σ ρ F H (.ty n) v):v=.ty n:=by
 rcases h with h|h
 ·unfold Rep at h;exact h
 ·exact h.elim
theorem Rep.int{i:Int}:Rep K F (.int i) (.int i):=by unfold Rep;rfl
theorem Rep.str{i:Str}:Rep K F (.str i) (.str i):=by unfold Rep;rfl
theorem Rep.bl{i:Bool}:Rep K F (.bl i) (.bl i):=by unfold Rep;rfl
theorem Rep.non:Rep K F .non .non:=by unfold Rep;rfl
end
section
variable{X:Cx}{cm:String->Addr}{E:L2.St->XK}{a b e:Expr}{es:List Expr}{pos:Pos}{m ma mb mc:M PV}{mo:M RV}
def PT.wk{t t':TT}(h:PT X e t)(i:∀σ H Q,t' σ H Q->t σ H Q):PT X e t':=λpins s σ H Q I q=>h pins s σ H Q I (i σ H Q q)
def PA.wk{t t':TA}(h:PA X es t)(i:∀σ H Q,t' σ H Q->t σ H Q):PA X es t':=λpos pins s σ H Q I q=>h pos pins s σ H Q I (i σ H Q q)
def PW.wk{t t':TT}(h:PW X e t)(i:∀σ H Q,t' σ H Q->t σ H Q):PW X e t':=λwh pins s σ H Q I q=>h wh pins s σ H Q I (i σ H Q q)
def lW.wk{st:List Stmt}{t t':TS}(h:lW X st t)(i:∀D σ H,t' D σ H->t D σ H):lW X st t':=λpins s σ H D I q=>h pins s σ H D I (i D σ H q)
def v_var(i:Nat){x:Str}{pos:Pos}(hN:X.N[i]?=some x:=by rfl)(hv:Ck X.env.scope x:=by first|exact Or.inl rfl|exact Or.inr (Or.inl rfl)|exact Or.inr (Or.inr rfl))(hd:(x== ("__debug__" :Str))=false:=by decide)
 (hcd:(x== ("__classdict__" :Str))=false:=by decide):PE X (.Name x pos) (tV (kk X cm) E (ĝ i)):=PE.wk (iI hN hv hd hcd) λσ H Q ⟨c,F,ρ,rel,h⟩=>by
 unfold ĝ at h
 split at h
 ·rename_i p e
  obtain⟨v,h1,h2⟩:=rel.slot i _ e
  exact⟨v,at_of h1,h v F H rel (Same.refl F) (Same.refl H) h2⟩
 ·rename_i ps e
  obtain⟨a,vs,h1,h2,h3,h4⟩:=rel.share e
  exact⟨.ref a,h1,h _ _ H h4 (Same.upd h2) (Same.refl H) h3⟩
 ·exact h.elim
def ă(i:Nat){x:Str}{pos:Pos}(hN:X.N[i]?=some x:=by rfl)(hv:Ck X.env.scope x:=by first|exact Or.inl rfl|exact Or.inr (Or.inl rfl)|exact Or.inr (Or.inr rfl))(hd:(x== ("__debug__" :Str))=false:=by decide)
 (hcd:(x== ("__classdict__" :Str))=false:=by decide):PE X (.Name x pos) (tR (kk X cm) E (ā i)):=PE.wk (iI hN hv hd hcd) λσ H Q ⟨c,F,ρ,rel,h⟩=>by
 unfold ā at h
 split at h
 ·rename_i p e
  obtain⟨v,h1,h2⟩:=rel.slot i _ e
  exact⟨v,at_of h1,h v F H rel (Same.refl F) (Same.refl H) (.inl h2)⟩
 ·rename_i ps e
  obtain⟨a,vs,h1,h2,h3,h4,h5,_⟩:=rel.ow e
  exact⟨.ref a,h1,h _ F H rel (Same.refl F) (Same.refl H) (.inr ⟨a,vs,rfl,h2,h5⟩)⟩
 ·rename_i ps e
  obtain⟨a,vs,h1,h2,h3⟩:=rel.slot i _ e
  exact⟨.ref a,at_of h1,h _ F H rel (Same.refl F) (Same.refl H) (.inr ⟨a,vs,rfl,(rel.lent a _ h2).1,h3⟩)⟩
 ·rename_i C ns ps e
  obtain⟨a,dx,fs,h1,h2,h3,h4,h5,h6⟩:=rel.slot i _ e
  exact⟨.ref a,at_of h1,h _ F H rel (Same.refl F) (Same.refl H) (.inr ⟨a,dx,fs,rfl,h2,h5,h6.1⟩)⟩
 ·exact h.elim
def jq(i:Nat){x:Str}{pos:Pos}(hN:X.N[i]?=some x:=by rfl)(hv:Ck X.env.scope x:=by first|exact Or.inl rfl|exact Or.inr (Or.inl rfl)|exact Or.inr (Or.inr rfl))(hd:(x== ("__debug__" :Str))=false:=by decide)
 (hcd:(x== ("__classdict__" :Str))=false:=by decide):PE X (.Name x pos) (tO (kk X cm) E (fJ i)):=PE.wk (iI hN hv hd hcd) λσ H Q ⟨c,F,ρ,rel,h⟩=>by
 unfold fJ at h
 split at h
 ·rename_i p e
  obtain⟨v,h1,h2⟩:=rel.slot i _ e
  exact⟨v,at_of h1,h v F H rel (Same.refl F) (Same.refl H) h2⟩
 ·rename_i ps e
  obtain⟨a,vs,h1,h2,h3,h4,h5,h6⟩:=rel.ow e
  obtain⟨m1,m2⟩:=rel.move h6
  exact⟨.ref a,h1,h _ F H m1 (Same.refl F) (Same.refl H) ⟨a,vs,rfl,h2,h3,h4,m2,h5⟩⟩
 ·exact h.elim
def zR{v:V}(p:PV)(h:PE X e (tC v))(hr:∀F,Rep (kk X cm) F p v:=by intro _;unfold Rep;rfl):PE X e (tV (kk X cm) E (mC p)):=PE.wk h λσ H Q ⟨c,F,ρ,rel,h⟩=>h v F H rel (Same.refl F) (Same.refl H) (hr F)
def Ă{i j pos}:PE X (.Constant (.int i) j pos) (tV (kk X cm) E (mC (.int i))):=zR _ ZaE
def Dc{i j pos}:PE X (.Constant (.bool i) j pos) (tV (kk X cm) E (mC (.bl i))):=zR _ Zdh
def jP{j pos}:PE X (.Constant .none j pos) (tV (kk X cm) E (mC .non)):=zR _ ZaF
def aj{x j pos}:PE X (.Constant (.str x) j pos) (tV (kk X cm) E (mC (.str x))):=zR _ ZaG
def Ā(h:PE X e (tV (kk X cm) E m)):PE X e (tR (kk X cm) E m):=PE.wk h λσ H Q ⟨c,F,ρ,rel,h⟩=>⟨c,F,ρ,rel,h.rel λ_ _ _ _ _ _ q=>.inl q⟩
def į(h:PE X e (tV (kk X cm) E m)):PE X e (tO (kk X cm) E (ş m)):=PE.wk h λσ H Q ⟨c,F,ρ,rel,h⟩=>⟨c,F,ρ,rel,h.bind λp ρ1 v F1 H1 ě s1 s2 q h1=>h1 v F1 H1 ě (Same.refl _) (Same.refl _) q⟩
def Held.share{K:KK}{c:Ctx}{F H:Hp}{σ:L2.St}{ρ:ŝ}{ps:List PV}{v:V}(rel:Rel K c F H σ ρ)(h:Held K c σ ρ F H ps v):∃F1,Same F F1/\Rel K c F1 H σ ρ/\Rep K F1 (.lst ps) v:=by
 obtain⟨a,vs,rfl,h1,h2,h3,h4,h5⟩:=h
 refine⟨_,Same.upd h2,rel.freeze h1 h3 h2 h4,?_⟩
 unfold Rep
 exact⟨a,vs,rfl,aQ.of Ī,h5.same (Same.upd h2) ps vs⟩
def G_.share{K:KK}{c:Ctx}{F H:Hp}{σ:L2.St}{ρ:ŝ}{ps qs:List PV}{v:V}(rel:Rel K c F H σ ρ)(h:G_ K c σ ρ F H ps qs v):∃F1,Same F F1/\Rel K c F1 H σ ρ/\Rep K F1 (.tup (ps ++ [.lst qs])) v:=by
 obtain⟨p,a,xs,vs,rfl,h0,hx,h1,h2,h3,h4,h5⟩:=h
 refine⟨_,Same.upd h2,rel.freeze h1 h3 h2 h4,?_⟩
 have ra:Rep K (upd F a (.lst vs)) (.lst qs) (.ref a):=by
  unfold Rep
  exact⟨a,vs,rfl,aQ.of Ī,h5.same (Same.upd h2) qs vs⟩
 unfold Rep
 exact⟨p,_,rfl,gG.of (Same.upd h2 _ _ h0),Ģ.append (hx.same (Same.upd h2) ps xs) (Ģ.cons ra Ģ.nil)⟩
def ę(h:PE X e (tO (kk X cm) E mo)):PE X e (tV (kk X cm) E (ē mo)):=PE.wk h λσ H Q ⟨c,F,ρ,rel,h⟩=>⟨c,F,ρ,rel,h.bind λr ρ1 v F1 H1 ě s1 s2 q h1=>by
 cases r with
 |sh p=>exact h1 v F1 H1 ě (Same.refl _) (Same.refl _) q
 |ow ps=>
  obtain⟨F2,s3,ŏ,rp⟩:=Held.share ě q
  exact h1 v F2 H1 ŏ s3 (Same.refl _) rp
 |ot ps qs=>
  obtain⟨F2,s3,ŏ,rp⟩:=G_.share ě q
  exact h1 v F2 H1 ŏ s3 (Same.refl _) rp⟩
def ĉ(f:PV->PV->Option PV)(ma mb:M PV):M PV:=λρ=>(ma ρ).bind λp ρ1=>(mb ρ1).bind λq ρ2=>Res.rC (f p q) ρ2
def ļ(f:PV->PV->Option RV)(ma mb:M PV):M RV:=λρ=>(ma ρ).bind λp ρ1=>(mb ρ1).bind λq ρ2=>Res.rC (f p q) ρ2
def mq(K:KK)(r:R2)(f:PV->PV->Option PV):Prop:=∀{c:Ctx} {F H:Hp} {σ:L2.St} {ρ:ŝ} {p q pv:PV} {v u:V} {Q:VK},Rel K c F H σ ρ->rR K c σ ρ F H p v->rR K c σ ρ F H q u->f p q=some pv->
 (∀z F' H',Rel K c F' H' σ ρ->Same F F'->Same H H'->Rep K F' pv z->Q z H')->r v u H Q
def OpO(K:KK)(r:R2)(f:PV->PV->Option RV):Prop:=∀{c:Ctx} {F H:Hp} {σ:L2.St} {ρ:ŝ} {p q:PV} {pv:RV} {v u:V} {Q:VK},Rel K c F H σ ρ->rR K c σ ρ F H p v->rR K c σ ρ F H q u->f p q=some pv->
 (∀z F' H',Rel K c F' H' σ ρ->Same F F'->Same H H'->rO K c σ ρ F' H' pv z->Q z H')->r v u H Q
def Hf{r:R2}{f:PV->PV->Option PV}(hf:mq (kk X cm) r f){σ:L2.St}{H:Hp}{Q:VK}(h:tV (kk X cm) E (ĉ f ma mb) σ H Q):tOp r (tR (kk X cm) E ma) (tR (kk X cm) E mb) σ H Q:=by
 obtain⟨c,F,ρ,rel,h⟩:=h
 refine⟨c,F,ρ,rel,h.bind λp ρ1 v F1 H1 ě _ _ r1 h1=>⟨c,F1,ρ1,ě,h1.bind λq ρ2 u F2 H2 ŏ sF sH r2 h2=>?_⟩⟩
 cases e:f p q with
 |none=>rw[e] at h2;exact h2.elim
 |some pv=>rw[e] at h2;exact hf ŏ (r1.mono sF sH) r2 e λz F' H' dD s1 s2 q'=>h2 z F' H' dD s1 s2 q'
def ZdO{r:R2}{f:PV->PV->Option RV}(hf:OpO (kk X cm) r f){σ:L2.St}{H:Hp}{Q:VK}(h:tO (kk X cm) E (ļ f ma mb) σ H Q):tOp r (tR (kk X cm) E ma) (tR (kk X cm) E mb) σ H Q:=by
 obtain⟨c,F,ρ,rel,h⟩:=h
 refine⟨c,F,ρ,rel,h.bind λp ρ1 v F1 H1 ě _ _ r1 h1=>⟨c,F1,ρ1,ě,h1.bind λq ρ2 u F2 H2 ŏ sF sH r2 h2=>?_⟩⟩
 cases e:f p q with
 |none=>rw[e] at h2;exact h2.elim
 |some pv=>rw[e] at h2;exact hf ŏ (r1.mono sF sH) r2 e λz F' H' dD s1 s2 q'=>h2 z F' H' dD s1 s2 q'
def đ{op:Operator}{r:R2}{f:PV->PV->Option PV}(hf:mq (kk X cm) r f)(ho:aP X (binaryOp op) r)(ha:PE X a (tR (kk X cm) E ma))(hb:PE X b (tR (kk X cm) E mb)):PE X (.BinOp a op b pos) (tV (kk X cm) E (ĉ f ma mb)):=PE.wk (Ua ho ha hb) λ_ _ _ h=>Hf hf h
def Ō{op:Operator}{r:R2}{f:PV->PV->Option RV}(hf:OpO (kk X cm) r f)(ho:aP X (binaryOp op) r)(ha:PE X a (tR (kk X cm) E ma))(hb:PE X b (tR (kk X cm) E mb)):PE X (.BinOp a op b pos) (tO (kk X cm) E (ļ f ma mb)):=PE.wk (Ua ho ha hb) λ_ _ _ h=>ZdO hf h
def dR{op:CmpOp}{r:R2}{f:PV->PV->Option PV}(hf:mq (kk X cm) r f)(ho:aP X (compareOp op) r)(ha:PE X a (tR (kk X cm) E ma))(hb:PE X b (tR (kk X cm) E mb))(hm:behindInMarks op b=false):PE X (.Compare a [op] [b] pos) (tV (kk X cm) E (ĉ f ma mb)):=
 PE.wk (QX ho ha hb hm) λ_ _ _ h=>Hf hf h
def ģ{r:R2}{f:PV->PV->Option PV}(hf:mq (kk X cm) r f)(hr:CP X r)(ha:PE X a (tR (kk X cm) E ma))(hb:PE X b (tR (kk X cm) E mb))(hs:Gz b):PE X (.Subscript a b pos) (tV (kk X cm) E (ĉ f ma mb)):=
 PE.wk (Zdv hr ha hb hs) λ_ _ _ h=>Hf hf h
def pD(f:PV->Option PV)(ma:M PV):M PV:=λρ=>(ma ρ).bind λp ρ1=>Res.rC (f p) ρ1
def UnV(K:KK)(r:V->Hp->VK->Prop)(f:PV->Option PV):Prop:=∀{c:Ctx} {F H:Hp} {σ:L2.St} {ρ:ŝ} {p pv:PV} {v:V} {Q:VK},Rel K c F H σ ρ->rR K c σ ρ F H p v->f p=some pv->
 (∀z F' H',Rel K c F' H' σ ρ->Same F F'->Same H H'->Rep K F' pv z->Q z H')->r v H Q
def Ad{op:UnaryOp}{r:V->Hp->VK->Prop}{f:PV->Option PV}(hf:UnV (kk X cm) r f)(ho:QT X (unaryOp op) r)(ha:PE X a (tR (kk X cm) E ma)):PE X (.UnaryOp op a pos) (tV (kk X cm) E (pD f ma)):=PE.wk (Zdp ho ha) λσ H Q ⟨c,F,ρ,rel,h⟩=>
 ⟨c,F,ρ,rel,h.bind fun p ρ1 v F1 H1 ě _ _ r1 h1=>by
   cases e:f p with
   |none=>rw[e] at h1;exact h1.elim
   |some pv=>rw[e] at h1;exact hf ě r1 e λz F' H' dD s1 s2 q'=>h1 z F' H' dD s1 s2 q'⟩
def tru:PV->Option Bool
 | .bl b=>some b
 | .int i=>some (i != 0)
 | .non=>some false
 | .str y=>if y.length<=sizeLine then some ((y.length:Int) != 0) else none
 | .lst ps=>some (!ps.isEmpty)
 | .tup ps=>some (!ps.isEmpty)
 |_=>none
def eE(m:M PV):M Bool:=λρ=>(m ρ).bind λp ρ1=>Res.rC (tru p) ρ1
def ZdP{K:KK}{c:Ctx}{F H:Hp}{σ:L2.St}{ρ:ŝ}{p:PV}{v:V}{k:Bool}(s:Same F H)(r:rR K c σ ρ F H p v)(h:tru p=some k):Za1 K.K v H k:=by
 cases p with
 |bl b=>cases r.bl;cases h;rfl
 |int i=>cases r.int;cases h;rfl
 |non=>cases r.non;cases h;rfl
 |str y=>
  cases r.str
  have h':(if y.length<=sizeLine then some ((y.length:Int) != 0) else none)=some k:=h
  split at h'
  ·rename_i hy;cases h';exact⟨hy,rfl⟩
  ·cases h'
 |lst ps=>
  obtain⟨a,vs,rfl,h1,h2⟩:=r.lst s
  cases h
  have e:ps.isEmpty=vs.isEmpty:=by cases h2.pr<;>rfl
  exact .inl ⟨vs,h1,by rw[e]⟩
 |tup ps=>
  obtain⟨a,vs,rfl,h1,h2⟩:=r.tup s
  cases h
  have e:ps.isEmpty=vs.isEmpty:=by cases h2.pr<;>rfl
  exact .inr (.inl ⟨vs,h1,by rw[e]⟩)
 |ins C ns ps=>cases h
 |xc C ns ps=>cases h
 |ty n=>cases h
 |cls C=>cases h
def b_(ha:PE X a (tR (kk X cm) E ma))(he:∀whole,isTrue a X.env whole=(do let v <-whole;standAt a.pos;holding [v] (truthy v)):=by intro _;rfl):PT X a (tB (kk X cm) E (eE ma)):=PT.wk (Ko ha he) λσ H Q ⟨c,F,ρ,rel,h⟩=>
 ⟨c,F,ρ,rel,h.bind fun p ρ1 v F1 H1 ě _ _ r1 h1=>by
   cases e:tru p with
   |none=>rw[e] at h1;exact h1.elim
   |some k=>rw[e] at h1;exact⟨k,ZdP ě.sub r1 e,h1 k F1 H1 ě (Same.refl _) (Same.refl _) rfl⟩⟩
def gW(m:M PV):M Bool:=λρ=>(m ρ).bind λp ρ1=>match p with
 | .bl b=>.ok b ρ1
 |_=>.bad
def Ue{σ:L2.St}{H:Hp}{Q:Bool->Hp->Prop}(h:tB (kk X cm) E (gW m) σ H Q):M2.KD (tV (kk X cm) E m) σ H Q:=by
 obtain⟨c,F,ρ,rel,h⟩:=h
 refine⟨c,F,ρ,rel,h.bind λp ρ1 v F1 H1 ě _ _ r1 h1=>?_⟩
 cases p with
 |bl b=>
  have e:v=.bl b:=by have r1':Rep (kk X cm) F1 (.bl b) v:=r1;unfold Rep at r1';exact r1'
  subst e
  exact h1 b F1 H1 ě (Same.refl _) (Same.refl _) rfl
 |_=>exact h1.elim
def Ŧ{op:CmpOp}{r:R2}{f:PV->PV->Option PV}(hf:mq (kk X cm) r f)(ho:aP X (compareOp op) r)(ha:PE X a (tR (kk X cm) E ma))(hb:PE X b (tR (kk X cm) E mb))(hm:behindInMarks op b=false):PT X (.Compare a [op] [b] pos) (tB (kk X cm) E (gW (ĉ f ma mb))):=
 PT.wk (Zbe ho ha hb hm) fun σ H Q h=>by
   obtain⟨c,F,ρ,rel,h⟩:=Ue h
   exact Hf hf ⟨c,F,ρ,rel,h⟩
def pF(f g:PV->PV->Option PV)(ma mb mc:M PV):M PV:=λρ=>(ma ρ).bind λp ρ1=>(mb ρ1).bind λq ρ2=>(Res.rC (f p q) ρ2).bind λz ρ3=>match z with
 | .bl true=>(mc ρ3).bind λw ρ4=>Res.rC (g q w) ρ4
 | .bl false=>.ok (.bl false) ρ3
 |_=>.bad
def Ug{r r':R2}{f g:PV->PV->Option PV}(hf:mq (kk X cm) r f)(hg:mq (kk X cm) r' g){σ:L2.St}{H:Hp}{Q:VK}(h:tV (kk X cm) E (pF f g ma mb mc) σ H Q):M2.CT r r' (tR (kk X cm) E ma) (tR (kk X cm) E mb) (tR (kk X cm) E mc) σ H Q:=by
 obtain⟨c,F,ρ,rel,h⟩:=h
 refine⟨c,F,ρ,rel,h.bind λp ρ1 v F1 H1 ě _ _ r1 h1=>⟨c,F1,ρ1,ě,h1.bind λq ρ2 u F2 H2 ŏ sF sH r2 h2=>?_⟩⟩
 cases e:f p q with
 |none=>rw[e] at h2;exact h2.elim
 |some pv=>
  rw[e] at h2
  refine hf ŏ (r1.mono sF sH) r2 e λz F' H' dD s1 s2 q'=>?_
  cases pv with
  |bl k=>
   have ez:z=.bl k:=by unfold Rep at q';exact q'
   subst ez
   cases k with
   |false=>exact h2 _ F' H' dD s1 s2 q'
   |true=>
    refine⟨c,F',ρ2,dD,cP.bind (cP.mono h2 s1 s2) λw ρ4 x F4 H4 Ae s3 s4 r4 h4=>?_⟩
    cases e':g q w with
    |none=>rw[e'] at h4;exact h4.elim
    |some pv'=>rw[e'] at h4;exact hg Ae (r2.mono (s1.trans s3) (s2.trans s4)) r4 e' λz F' H' dD s1 s2 q'=>h4 z F' H' dD s1 s2 q'
  |_=>exact h2.elim
def vo{op op':CmpOp}{r r':R2}{f g:PV->PV->Option PV}{c:Expr}(hf:mq (kk X cm) r f)(hg:mq (kk X cm) r' g)(ho:aP X (compareOp op) r)(ho':aP X (compareOp op') r')(ha:PE X a (tR (kk X cm) E ma))(hb:PE X b (tR (kk X cm) E mb))(hc:PE X c (tR (kk X cm) E mc))
 (hm:lastMarks [op,op'] [b,c]=false:=by with_unfolding_all rfl):PE X (.Compare a [op,op'] [b,c] pos) (tV (kk X cm) E (pF f g ma mb mc)):=PE.wk (KH ho ho' ha hb hc hm) λ_ _ _ h=>Ug hf hg h
def Lw{op op':CmpOp}{r r':R2}{f g:PV->PV->Option PV}{c:Expr}(hf:mq (kk X cm) r f)(hg:mq (kk X cm) r' g)(ho:aP X (compareOp op) r)(ho':aP X (compareOp op') r')(ha:PE X a (tR (kk X cm) E ma))(hb:PE X b (tR (kk X cm) E mb))(hc:PE X c (tR (kk X cm) E mc))
 (hm:lastMarks [op,op'] [b,c]=false:=by with_unfolding_all rfl):PT X (.Compare a [op,op'] [b,c] pos) (tB (kk X cm) E (gW (pF f g ma mb mc))):=PT.wk (KJ ho ho' ha hb hc hm) λσ H Q h=>by
 obtain⟨c,F,ρ,rel,h⟩:=Ue h
 exact Ug hf hg ⟨c,F,ρ,rel,h⟩
def gY(m:M Bool):M Bool:=λρ=>(m ρ).bind λb ρ1=>.ok (!b) ρ1
def mz{m:M Bool}(h:PT X a (tB (kk X cm) E m)):PT X (.UnaryOp .Not a pos) (tB (kk X cm) E (gY m)):=PT.wk (ZaJ h) λσ H Q ⟨c,F,ρ,rel,h⟩=>
 ⟨c,F,ρ,rel,h.bind λp ρ1 v F1 H1 ě _ _ r1 h1=>h1 _ F1 H1 ě (Same.refl _) (Same.refl _) (by have e:p=v:=r1;rw[e];rfl)⟩
def nR(ma mb:M Bool):M Bool:=λρ=>(ma ρ).bind λb ρ1=>if b=true then mb ρ1 else .ok false ρ1
def Af(ma mb:M Bool):M Bool:=λρ=>(ma ρ).bind λb ρ1=>if b=true then .ok true ρ1 else mb ρ1
variable{ta tb:M Bool}{rest:List Expr}
def m_(h:PT X a (tB (kk X cm) E ta)):PW X (.BoolOp .And [a] pos) (tB (kk X cm) E ta):=QH h
def vp(h:PT X a (tB (kk X cm) E ta)):PW X (.BoolOp .Or [a] pos) (tB (kk X cm) E ta):=ZaH h
def w_and(ha:PT X a (tB (kk X cm) E ta))(hb:PW X (.BoolOp .And (b::rest) pos) (tB (kk X cm) E tb)):PW X (.BoolOp .And (a::b::rest) pos) (tB (kk X cm) E (nR ta tb)):=PW.wk (ZaI ha hb) λσ H Q ⟨c,F,ρ,rel,h⟩=>
 ⟨c,F,ρ,rel,h.bind fun p ρ1 v F1 H1 ě _ _ r1 h1=>by
   have e:p=v:=r1
   subst e
   cases p with
   |true=>exact⟨c,F1,ρ1,ě,h1⟩
   |false=>exact h1 false F1 H1 ě (Same.refl _) (Same.refl _) rfl⟩
def w_or(ha:PT X a (tB (kk X cm) E ta))(hb:PW X (.BoolOp .Or (b::rest) pos) (tB (kk X cm) E tb)):PW X (.BoolOp .Or (a::b::rest) pos) (tB (kk X cm) E (Af ta tb)):=PW.wk (Zdi ha hb) λσ H Q ⟨c,F,ρ,rel,h⟩=>
 ⟨c,F,ρ,rel,h.bind fun p ρ1 v F1 H1 ě _ _ r1 h1=>by
   have e:p=v:=r1
   subst e
   cases p with
   |false=>exact⟨c,F1,ρ1,ě,h1⟩
   |true=>exact h1 true F1 H1 ě (Same.refl _) (Same.refl _) rfl⟩
def gZ(ma mb:M PV):M PV:=λρ=>(ma ρ).bind λp ρ1=>match p with
 | .bl true=>mb ρ1
 | .bl false=>.ok (.bl false) ρ1
 |_=>.bad
def Zbt(ma:M PV):M PV:=λρ=>(ma ρ).bind λp ρ1=>match p with
 | .bl b=>.ok (.bl (!b)) ρ1
 |_=>.bad
def wR{K:KK}{F:Hp}{b:Bool}{v:V}(h:Rep K F (.bl b) v):v=.bl b:=by unfold Rep at h;exact h
def jQ{op}(h:PE X a (tV (kk X cm) E ma)):PE X (.BoolOp op [a] pos) (tV (kk X cm) E ma):=ZaK h
def v_and(ha:PE X a (tV (kk X cm) E ma))(hb:PE X (.BoolOp .And (b::rest) pos) (tV (kk X cm) E mb)):PE X (.BoolOp .And (a::b::rest) pos) (tV (kk X cm) E (gZ ma mb)):=PE.wk (Zbf ha hb) λσ H Q ⟨c,F,ρ,rel,h⟩=>
 ⟨c,F,ρ,rel,h.bind fun p ρ1 v F1 H1 ě _ _ r1 h1=>by
   cases p with
   |bl k=>
    cases wR r1
    cases k with
    |true=>exact⟨c,F1,ρ1,ě,h1⟩
    |false=>exact h1 _ F1 H1 ě (Same.refl _) (Same.refl _) r1
   |_=>exact h1.elim⟩
def v_not(ha:PE X a (tV (kk X cm) E ma)):PE X (.UnaryOp .Not a pos) (tV (kk X cm) E (Zbt ma)):=PE.wk (Zbg ha) λσ H Q ⟨c,F,ρ,rel,h⟩=>
 ⟨c,F,ρ,rel,h.bind fun p ρ1 v F1 H1 ě _ _ r1 h1=>by
   cases p with
   |bl k=>
    cases wR r1
    exact h1 _ F1 H1 ě (Same.refl _) (Same.refl _) Rep.bl
   |_=>exact h1.elim⟩
def gM{α:Type}(t:M Bool)(ma mb:M α):M α:= λρ=>(t ρ).bind λb ρ1=>if b=true then ma ρ1 else mb ρ1
def Ĝ:M (List PV):=λρ=>.ok [] ρ
def ą(ma:M PV)(mr:M (List PV)):M (List PV):=λρ=>(ma ρ).bind λp ρ1=>(mr ρ1).bind λps ρ2=>.ok (p::ps) ρ2
variable{mr:M (List PV)}
def ħ:PA X [] (tL (kk X cm) E Ĝ):=PA.wk mY λσ H Q ⟨c,F,ρ,rel,h⟩=>h [] F H rel (Same.refl _) (Same.refl _) Ģ.nil
def Ĉ(ha:PE X e (tV (kk X cm) E ma))(hr:PA X es (tL (kk X cm) E mr))(hs:starEach (e::es) X.env=(false,eval e X.env)::starEach es X.env:=by exact Ĵ rfl):PA X (e::es) (tL (kk X cm) E (ą ma mr)):=PA.wk (dY ha hr hs) λσ H Q ⟨c,F,ρ,rel,h⟩=>
 ⟨c,F,ρ,rel,h.bind λp ρ1 v F1 H1 ě _ _ r1 h1=>⟨c,F1,ρ1,ě,h1.bind λps ρ2 vs F2 H2 ŏ sF sH r2 h2=>h2 _ F2 H2 ŏ (Same.refl _) (Same.refl _) (Ģ.cons (Rep.same sF p v r1) r2)⟩⟩
def ĭ:PA X [] (tRL (kk X cm) E Ĝ):=PA.wk mY λσ H Q ⟨c,F,ρ,rel,h⟩=>h [] F H rel (Same.refl _) (Same.refl _) .nil
def ğ(ha:PE X e (tR (kk X cm) E ma))(hr:PA X es (tRL (kk X cm) E mr))(hs:starEach (e::es) X.env=(false,eval e X.env)::starEach es X.env:=by exact Ĵ rfl):PA X (e::es) (tRL (kk X cm) E (ą ma mr)):=PA.wk (dY ha hr hs) λσ H Q ⟨c,F,ρ,rel,h⟩=>
 ⟨c,F,ρ,rel,h.bind λp ρ1 v F1 H1 ě _ _ r1 h1=>⟨c,F1,ρ1,ě,h1.bind λps ρ2 vs F2 H2 ŏ sF sH r2 h2=>h2 _ F2 H2 ŏ (Same.refl _) (Same.refl _) (.cons (rR.mono r1 sF sH) r2)⟩⟩
def č:M (List Slot):=λρ=>.ok [] ρ
def ď(ma:M PV)(mr:M (List Slot)):M (List Slot):=λρ=>(ma ρ).bind λp ρ1=>(mr ρ1).bind λas ρ2=>.ok (.sh p::as) ρ2
def g_:Slot->Option Slot
 | .sh p=>some (.sh p)
 | .ow ps=>some (.bw ps)
 | .bw ps=>some (.bw ps)
 |_=>none
def Ą(i:Nat)(mr:M (List Slot)):M (List Slot):=λρ=>match(ρ[i]?).bind g_ with
 |none=>.bad
 |some _=>(mr ρ).bind λas ρ2=>match(ρ2[i]?).bind g_ with
  |some s=>.ok (s::as) ρ2
  |none=>.bad
variable{ms:M (List Slot)}
def Ď:PA X [] (tA (kk X cm) E č):=PA.wk mY λσ H Q ⟨c,F,ρ,rel,h⟩=>h [] F H rel (Same.refl _) (Same.refl _) .nil
def ė(ha:PE X e (tV (kk X cm) E ma))(hr:PA X es (tA (kk X cm) E ms))(hs:starEach (e::es) X.env=(false,eval e X.env)::starEach es X.env:=by exact Ĵ rfl):PA X (e::es) (tA (kk X cm) E (ď ma ms)):=PA.wk (dY ha hr hs) λσ H Q ⟨c,F,ρ,rel,h⟩=>
 ⟨c,F,ρ,rel,h.bind λp ρ1 v F1 H1 ě _ _ r1 h1=>⟨c,F1,ρ1,ě,h1.bind λas ρ2 vs F2 H2 ŏ sF sH r2 h2=>h2 _ F2 H2 ŏ (Same.refl _) (Same.refl _) (.cons (show fH _ _ _ (.sh p) v from Rep.same sF p v r1) r2)⟩⟩
def Hg{K:KK}{c:Ctx}{F H:Hp}{σ:L2.St}{ρ:ŝ}{i:Nat}{s:Slot}(rel:Rel K c F H σ ρ)(h:(ρ[i]?).bind g_=some s):∃v,σ[i]?=some (some v)/\fH K F H s v:=by
 cases e:ρ[i]? with
 |none=>rw[e] at h;cases h
 |some sl=>
  rw[e] at h
  have h':g_ sl=some s:=h
  cases sl with
  |sh p=>
   cases h'
   obtain⟨v,h1,h2⟩:=rel.slot i _ e
   exact⟨v,at_of h1,h2⟩
  |ow ps=>
   cases h'
   obtain⟨a,vs,h1,h2,h3,h4,h5,_⟩:=rel.ow e
   exact⟨.ref a,h1,a,vs,rfl,h2,h3,h5⟩
  |bw ps=>
   cases h'
   obtain⟨a,vs,h1,h2,h3⟩:=rel.slot i _ e
   exact⟨.ref a,at_of h1,a,vs,rfl,(rel.lent a _ h2).1,(rel.lent a _ h2).2,h3⟩
  |no=>cases h'
  |rc C ns ps=>cases h'
  |ot ps qs=>cases h'
  |ol GR=>cases h'
def Ć(i:Nat){x:Str}{px:Pos}(hN:X.N[i]?=some x:=by rfl)(hv:Ck X.env.scope x:=by first|exact Or.inl rfl|exact Or.inr (Or.inl rfl)|exact Or.inr (Or.inr rfl))(hd:(x== ("__debug__" :Str))=false:=by decide)
 (hcd:(x== ("__classdict__" :Str))=false:=by decide)(hr:PA X es (tA (kk X cm) E ms))(hs:starEach (.Name x px::es) X.env=(false,eval (.Name x px) X.env)::starEach es X.env:=by exact Ĵ rfl):PA X (.Name x px::es) (tA (kk X cm) E (Ą i ms)):=
 PA.wk (dY (iI hN hv hd hcd) hr hs) fun σ H Q ⟨c,F,ρ,rel,h⟩=>by
   unfold Ą at h
   cases e:(ρ[i]?).bind g_ with
   |none=>rw[e] at h;exact h.elim
   |some s0=>
    rw[e] at h
    obtain⟨v,hv,_⟩:=Hg rel e
    refine⟨v,hv,c,F,ρ,rel,cP.bind h λas ρ2 vs F2 H2 ŏ sF sH r2 h2=>?_⟩
    cases e2:(ρ2[i]?).bind g_ with
    |none=>simp only[e2] at h2;exact h2.elim
    |some s=>
     simp only[e2] at h2
     obtain⟨v',hv',r1⟩:=Hg ŏ e2
     rw[hv] at hv'
     cases hv'
     exact h2 _ F2 H2 ŏ (Same.refl _) (Same.refl _) (.cons r1 r2)
def ś(mr:M (List PV)):M PV:=λρ=>(mr ρ).bind λps ρ1=>if ps.length<=16777216 then .ok (.tup ps) ρ1 else .bad
def bU(mr:M (List PV)):M RV:=λρ=>(mr ρ).bind λps ρ1=>if ps.length<=16777216 then .ok (.ow ps) ρ1 else .bad
def Ř:sizeLine=16777216:=sizeLine_eq
def Ő{x1}(h:PA X es (tL (kk X cm) E mr)):PE X (.Tuple es x1 pos) (tV (kk X cm) E (ś mr)):=PE.wk (Za5 h) λσ H Q ⟨c,F,ρ,rel,h⟩=>
 ⟨c,F,ρ,rel,h.bind fun ps ρ1 vs F1 H1 ě _ _ r1 h1=>by
   split at h1
   ·rename_i hz
    refine⟨by rw[<-Ģ.length r1,Ř];exact hz,λp hp=>h1 _ _ _ (ě.alloc hp) (Same.upd (ě.sub.free hp)) (Same.upd hp) ?_⟩
    show Rep _ _ _ _
    unfold Rep
    exact⟨p,vs,rfl,gG.of Ī,Ģ.same (Same.upd (ě.sub.free hp)) ps vs r1⟩
   ·exact h1.elim⟩
def jR{K:KK}{c:Ctx}{F H:Hp}{σ:L2.St}{ρ:ŝ}{ps:List PV}{vs:List V}{a:Addr}(rel:Rel K c F H σ ρ)(ha:H a=none)(r:Ģ K F ps vs):Rel K c F (upd H a (.lst vs)) σ ρ/\Held K c σ ρ F (upd H a (.lst vs)) ps (.ref a):=
 ⟨rel.made ha,a,vs,rfl,Ī,rel.sub.free ha,rel.base.free ha,rel.fresh ha,r⟩
def ź(h:PA X es (tL (kk X cm) E mr)):PE X (.List es pos) (tO (kk X cm) E (bU mr)):=PE.wk (Za6 h) λσ H Q ⟨c,F,ρ,rel,h⟩=>
 ⟨c,F,ρ,rel,h.bind fun ps ρ1 vs F1 H1 ě _ _ r1 h1=>by
   split at h1
   ·rename_i hz
    refine⟨by rw[<-Ģ.length r1,Ř];exact hz,λp hp=>?_⟩
    obtain⟨q1,q2⟩:=jR ě hp r1
    exact h1 _ _ _ q1 (Same.refl _) (Same.upd hp) q2
   ·exact h1.elim⟩
def dU(f:List PV->Option PV)(mr:M (List PV)):M PV:=λρ=>(mr ρ).bind λps ρ1=>Res.rC (f ps) ρ1
def pG(f:List PV->Option RV)(mr:M (List PV)):M RV:=λρ=>(mr ρ).bind λps ρ1=>Res.rC (f ps) ρ1
def h_(K:KK)(r:List V->Hp->VK->Prop)(f:List PV->Option PV):Prop:=∀{c:Ctx} {F H:Hp} {σ:L2.St} {ρ:ŝ} {ps:List PV} {pv:PV} {vs:List V} {Q:VK},Rel K c F H σ ρ->rRL K c σ ρ F H ps vs->f ps=some pv->
 (∀z F' H',Rel K c F' H' σ ρ->Same F F'->Same H H'->Rep K F' pv z->Q z H')->r vs H Q
def Uh(K:KK)(r:List V->Hp->VK->Prop)(f:List PV->Option RV):Prop:=∀{c:Ctx} {F H:Hp} {σ:L2.St} {ρ:ŝ} {ps:List PV} {pv:RV} {vs:List V} {Q:VK},Rel K c F H σ ρ->rRL K c σ ρ F H ps vs->f ps=some pv->
 (∀z F' H',Rel K c F' H' σ ρ->Same F F'->Same H H'->rO K c σ ρ F' H' pv z->Q z H')->r vs H Q
def ak{r:List V->Hp->VK->Prop}{f:List PV->Option PV}(hf:h_ (kk X cm) r f){σ:L2.St}{H:Hp}{Q:VK}(h:tV (kk X cm) E (dU f mr) σ H Q):tCB r (tRL (kk X cm) E mr) σ H Q:=by
 obtain⟨c,F,ρ,rel,h⟩:=h
 refine⟨c,F,ρ,rel,h.bind λp ρ1 v F1 H1 ě _ _ r1 h1=>?_⟩
 cases e:f p with
 |none=>rw[e] at h1;exact h1.elim
 |some pv=>rw[e] at h1;exact hf ě r1 e λz F' H' dD s1 s2 q'=>h1 z F' H' dD s1 s2 q'
def wU{r:List V->Hp->VK->Prop}{f:List PV->Option RV}(hf:Uh (kk X cm) r f){σ:L2.St}{H:Hp}{Q:VK}(h:tO (kk X cm) E (pG f mr) σ H Q):tCB r (tRL (kk X cm) E mr) σ H Q:=by
 obtain⟨c,F,ρ,rel,h⟩:=h
 refine⟨c,F,ρ,rel,h.bind λp ρ1 v F1 H1 ě _ _ r1 h1=>?_⟩
 cases e:f p with
 |none=>rw[e] at h1;exact h1.elim
 |some pv=>rw[e] at h1;exact hf ě r1 e λz F' H' dD s1 s2 q'=>h1 z F' H' dD s1 s2 q'
end
end P
namespace P
open PySem PySem.Spec PyProof.Rows L2 M2 M3
def ig:M Fl:=λρ=>.ok .nx ρ
def ġ(a b:M Fl):M Fl:=λρ=>(a ρ).bind λf ρ1=>match f with
 | .nx=>b ρ1
 |f=>.ok f ρ1
def Ķ(i:Nat)(m:M RV):M Fl:=λρ=>(m ρ).bind λr ρ1=>.ok .nx (ρ1.set i r.slot)
def İ(m:M RV):M Fl:=λρ=>(m ρ).bind λr ρ1=>.ok (.rt r) ρ1
def vq(m:M PV):M Fl:=λρ=>(m ρ).bind λ_ ρ1=>.ok .nx ρ1
section
variable{X:Cx}{cm:String->Addr}{E:L2.St->XK}{a b e:Expr}{st:Stmt}{rest:List Stmt}{es:List Expr}{pos:Pos}{m1 m2:M Fl}{mo:M RV}{mv:M PV}
def ŉ:lW X [] (tS (kk X cm) E ig):=lW.wk Gs λD σ H ⟨c,F,ρ,rel,h⟩=>h σ F H rel (Same.refl F)
def Č(h:PS X st (tS (kk X cm) E m1)):lW X [st] (tS (kk X cm) E m1):=QJ h
def Ry{c:Ctx}{F:Hp}{D:Ends}{r:Res Fl}(h:ű (kk X cm) E c F D (r.bind λf ρ1=>match f with| .nx=>m2 ρ1|f=>.ok f ρ1)):ű (kk X cm) E c F {D with nx:=tS (kk X cm) E m2 D} r:=by
 cases r with
 |ok f ρ1=>
  cases f with
  |nx=>exact λσ' F' H' dD s=>⟨c,F',ρ1,dD,ű.mono h s⟩
  |bk=>exact h
  |ct=>exact h
  |rt v=>exact h
 |exc x ρ1=>exact h
 |bad=>exact h
def ċ(h1:PS X st (tS (kk X cm) E m1))(h2:lW X rest (tS (kk X cm) E m2)):lW X (st::rest) (tS (kk X cm) E (ġ m1 m2)):=lW.wk (zV h1 h2) λD σ H ⟨c,F,ρ,rel,h⟩=>⟨c,F,ρ,rel,Ry h⟩
def Ĭ{i:Nat}{x:Str}{pos':Pos}(hN:X.N.Nodup)(hi:X.N[i]?=some x)(hx:Loc X.env.scope x)(he:PE X e (tO (kk X cm) E mo))(hs:swapsWith e (some (.Name x pos')) pos.line X.env=pure false:=by rfl)(hf:X.fn x=true\/X.env.scope.names.lookup x=some .local:=by first|exact .inl rfl|exact .inr rfl|assumption) :
 PS X (.Assign [.Name x pos'] e pos) (tS (kk X cm) E (Ķ i mo)):=PS.wk (ZaO hN hi hx he hs hf) λD σ H ⟨c,F,ρ,rel,h⟩=>⟨c,F,ρ,rel,ű.bind h λr ρ1 v F1 H1 ě s1 q h1=>by
 cases r with
 |sh p=>exact h1 _ F1 H1 (ě.put rfl ⟨v,rfl,q⟩) (Same.refl _)
 |ow ps=>
  obtain⟨a,vs,rfl,q1,q2,q3,q4,q5⟩:=q
  exact h1 _ F1 H1 (ě.Rx ⟨a,vs,rfl,q1,q2,q3,q5⟩ λ_ z=>V.ref.inj z▸q4) (Same.refl _)
 |ot ps qs=>
  obtain⟨p,a,xs,vs,rfl,q0,qx,q1,q2,q3,q4,q5⟩:=q
  exact h1 _ F1 H1 (ě.Rx (s:=.ot ps qs) ⟨p,a,xs,vs,rfl,q0,qx,q1,q2,q3,q5⟩ λ_ z=>rz (ps:=ps) (qs:=qs) z ⟨p,xs,rfl,q0⟩▸q4) (Same.refl _)⟩
def ĥ(he:PE X e (tO (kk X cm) E mo)):PS X (.Return (some e) pos) (tS (kk X cm) E (İ mo)):=PS.wk (ZaL he) λD σ H ⟨c,F,ρ,rel,h⟩=>⟨c,F,ρ,rel,ű.bind h λr ρ1 v F1 H1 ě s1 q h1=>h1 v σ F1 H1 ě (Same.refl _) q⟩
def wV(he:PE X e (tV (kk X cm) E mv))(hs:swapsWith e none pos.line X.env=pure false:=by rfl):PS X (.Expr e pos) (tS (kk X cm) E (vq mv)):=PS.wk (fX he hs) λD σ H ⟨c,F,ρ,rel,h⟩=>⟨c,F,ρ,rel,ű.bind h λr ρ1 v F1 H1 ě s1 q h1=>h1 σ F1 H1 ě (Same.refl _)⟩
def aF{t:M Bool}{ss ss':List Stmt}(hc:PT X a (tB (kk X cm) E t))(ha:lW X ss (tS (kk X cm) E m1))(hb:lW X ss' (tS (kk X cm) E m2)):PS X (.If a ss ss' pos) (tS (kk X cm) E (gM t m1 m2)):=PS.wk (Zdk hc ha hb) λD σ H ⟨c,F,ρ,rel,h⟩=>⟨c,F,ρ,rel,ű.bind h λr ρ1 v F1 H1 ě s1 q h1=>by
 have e:r=v:=q
 subst e
 cases r with
 |true=>exact⟨c,F1,ρ1,ě,h1⟩
 |false=>exact⟨c,F1,ρ1,ě,h1⟩⟩
abbrev Tg:=PV->ŝ->Option ŝ
abbrev JX:=List PV->ŝ->Option ŝ
def ZdQ(K:KK)(c:Ctx)(F H:Hp)(Q:L2.St->Hp->Prop):Option ŝ->Prop
 |some ρ'=>∀σ',Rel K c F H σ' ρ'->Q σ' H
 |none=>False
def tT(K:KK)(g:Tg):TG:=λv σ H Q=>∃c F ρ p,Rel K c F H σ ρ/\Rep K F p v/\ZdQ K c F H Q (g p ρ)
def tTs(K:KK)(g:JX):Kd:=λv σ H Q=>∃c F ρ p,Rel K c F H σ ρ/\Ģ K F p v/\ZdQ K c F H Q (g p ρ)
def gN(i:Nat):Tg:=λp ρ=>some (ρ.set i (.sh p))
def Ť:JX:=λps ρ=>match ps with
 | []=>some ρ
 |_=>none
def Ğ(g:Tg)(gs:JX):JX:=λps ρ=>match ps with
 |p::ps=>(g p ρ).bind λρ1=>gs ps ρ1
 | []=>none
def gT(n:Nat)(gs:JX):Tg:=λp ρ=>match p with
 | .tup ps=>if ps.length=n then gs ps ρ else none
 |_=>none
def PG.wk'{tg:Expr}{t t':TG}(h:PG X tg t)(i:∀v σ H Q,t' v σ H Q->t v σ H Q):PG X tg t':=λpins s σ H v u Q I r q=>h pins s σ H v u Q I r (i v σ H Q q)
def Cm.wk{tg:List Expr}{t t':Kd}(h:Cm X tg t)(i:∀v σ H Q,t' v σ H Q->t v σ H Q):Cm X tg t':=λpins s σ H v u Q I r q=>h pins s σ H v u Q I r (i v σ H Q q)
def Ħ{i:Nat}{x:Str}(hN:X.N.Nodup)(hi:X.N[i]?=some x)(hx:Loc X.env.scope x)(hf:X.fn x=true\/X.env.scope.names.lookup x=some .local:=by first|exact .inl rfl|exact .inr rfl|assumption):PG X (.Name x pos) (tT (kk X cm) (gN i)):=
 PG.wk' (QK hN hi hx hf) λv σ H Q ⟨c,F,ρ,p,rel,rp,h⟩=>h _ (rel.put rfl ⟨v,rfl,rp⟩)
def bV:Cm X [] (tTs (kk X cm) Ť):=Cm.wk QL λv σ H Q ⟨c,F,ρ,p,rel,rp,h⟩=>by
 cases p with
 |nil=>
  have e:v=[]:=by have:=rp;unfold Ģ at this;exact this
  exact⟨e,h σ rel⟩
 |cons _ _=>exact h.elim
def ĺ{es:List Expr}{g:Tg}{gs:JX}(h1:PG X e (tT (kk X cm) g))(h2:Cm X es (tTs (kk X cm) gs))(hs:(assignEach (e::es) X.env).map (·.2)=assign e X.env::(assignEach es X.env).map (·.2):=by rfl):Cm X (e::es) (tTs (kk X cm) (Ğ g gs)):=
 Cm.wk (Ke h1 h2 hs) λv σ H Q ⟨c,F,ρ,p,rel,rp,h⟩=>by
  cases p with
  |nil=>exact h.elim
  |cons p ps=>
   unfold Ģ at rp
   obtain⟨x,r,rfl,r1,r2⟩:=rp
   refine⟨x,r,rfl,c,F,ρ,p,rel,r1,?_⟩
   unfold Ğ at h
   dsimp only at h
   cases eg:g p ρ with
   |none=>rw[eg] at h;exact h.elim
   |some ρ1=>rw[eg] at h;exact λσ' dD=>⟨c,F,ρ1,ps,dD,r2,h⟩
def jT{es:List Expr}{k:Nat}{gs:JX}{n:Nat}(hc:X.calm=true)(h:Cm X es (tTs (kk X cm) gs))(hn:(assignEach es X.env).length=n:=by rfl)(hst:(assignEach es X.env).findIdx? (·.1)=none:=by rfl):PG X (.Tuple es k pos) (tT (kk X cm) (gT n gs)):=
 PG.wk' (Kf hc h hn hst) fun v σ H Q ⟨c,F,ρ,p,rel,rp,h⟩=>by
   cases p with
   |tup ps=>
    unfold Rep at rp
    obtain⟨a,xs,h1,h2,h3⟩:=rp
    unfold gT at h
    dsimp only at h
    split at h
    ·rename_i hl
     exact⟨a,xs,h1,Same.tup rel.sub h2,by rw[<-h3.length];exact hl,c,F,ρ,ps,rel,h3,h⟩
    ·exact h.elim
   |_=>exact h.elim
def Jt(g:Tg)(m:M PV):M Fl:=λρ=>(m ρ).bind λp ρ1=>match g p ρ1 with
 |some ρ2=>.ok .nx ρ2
 |none=>.bad
def Hh{tg:Expr}{g:Tg}(he:PE X e (tV (kk X cm) E mv))(hg:PG X tg (tT (kk X cm) g))(hs:swapsWithSole [tg] e pos.line X.env=pure false:=by rfl)(hw:swappedStores [tg] e X.env=pure none:=by rfl)
 (h1:(assignEach [tg] X.env).map (·.2)=[assign tg X.env]:=by rfl):PS X (.Assign [tg] e pos) (tS (kk X cm) E (Jt g mv)):=PS.wk (Kg he hg hs hw h1) λD σ H ⟨c,F,ρ,rel,h⟩=>⟨c,F,ρ,rel,ű.bind h λr ρ1 v F1 H1 ě s1 q h1=>by
 refine⟨c,F1,ρ1,r,ě,q,?_⟩
 cases eg:g r ρ1 with
 |none=>rw[eg] at h1;exact h1.elim
 |some ρ2=>rw[eg] at h1;exact λσ' dD=>h1 σ' F1 H1 dD (Same.refl _)⟩
def wW(i:Nat)(mi:M PV)(m:M PV):M Fl:=λρ=>(m ρ).bind λp ρ1=>match ρ1[i]? with
 |some (.ow _)=>(mi ρ1).bind λq ρ2=>match ρ2[i]?,q with
  |some (.ow ps),.int k=>match z_ ps.length k with
   |some j=>.ok .nx (ρ2.set i (.ow (ps.set j p)))
   |none=>.bad
  |_,_=>.bad
 |_=>.bad
def Hi{i:Nat}{x:Str}{ix:Expr}{mi:M PV}{px Dg:Pos}(he:PE X e (tV (kk X cm) E mv))(hi:PE X ix (tV (kk X cm) E mi))(ho:PE X (.Name x px) (wF i))
 (hsub:∀v,assign (.Subscript (.Name x px) ix Dg) X.env v=(do
   let ov <-holding [v] (eval (.Name x px) X.env)
   let iv <-holding [v,ov] (eval ix X.env)
   standAt Dg
   holding [v,ov,iv] (setItem ov iv v)
   release [v,ov,iv] []):=by intro _;rfl)
 (hs:swapsWithSole [.Subscript (.Name x px) ix Dg] e pos.line X.env=pure false:=by rfl)(hw:swappedStores [.Subscript (.Name x px) ix Dg] e X.env=pure none:=by rfl)
 (h1:(assignEach [.Subscript (.Name x px) ix Dg] X.env).map (·.2)=[assign (.Subscript (.Name x px) ix Dg) X.env]:=by rfl) :
 PS X (.Assign [.Subscript (.Name x px) ix Dg] e pos) (tS (kk X cm) E (wW i mi mv)):=PS.wk (Kg he (ZaN ho hi set_list hsub) hs hw h1) λD σ H ⟨c,F,ρ,rel,h⟩=>⟨c,F,ρ,rel,ű.bind h λp ρ1 v F1 H1 ě s1 q h1=>by
 cases e1:ρ1[i]? with
 |none=>rw[e1] at h1;exact h1.elim
 |some sl=>
  rw[e1] at h1
  cases sl with
  |ow ps0=>
   obtain⟨a,vs0,z1,_,_,_,_,_⟩:=ě.ow e1
   refine⟨.ref a,z1,c,F1,ρ1,ě,ű.bind h1 λq' ρ2 u F2 H2 ŏ s2 r2 h2=>?_⟩
   cases e2:ρ2[i]? with
   |none=>rw[e2] at h2;exact h2.elim
   |some sl2=>
    rw[e2] at h2
    cases sl2 with
    |ow ps=>
     cases q' with
     |int k=>
      have eu:u=.int k:=by have:Rep (kk X cm) F2 (.int k) u:=r2;unfold Rep at this;exact this
      subst eu
      dsimp only at h2
      obtain⟨a2,vs,w1,w2,w3,w4,w5,w6⟩:=ŏ.ow e2
      rw[z1] at w1
      cases w1
      cases ej:z_ ps.length k with
      |none=>rw[ej] at h2;exact h2.elim
      |some j=>
       rw[ej] at h2
       refine⟨a,vs,k,j,rfl,rfl,w2,by rw[<-w5.length];exact ej,h2 σ F2 _ (ŏ.write w6 z1 ⟨a,vs.set j v,rfl,Ī,w3,w4,?_⟩ λ_ z=>(V.ref.inj z).symm) (Same.refl _)⟩
       exact Ģ.of (Lk (Rep.same s2 p v q) j w5.pr)
     |_=>exact h2.elim
    |_=>exact h2.elim
  |_=>exact h1.elim⟩
def Ag(i:Nat)(m:M PV):M Fl:=λρ=>match ρ[i]? with
 |some (.ow _)=>(m ρ).bind λp ρ1=>match ρ1[i]? with
  |some (.ow ps)=>if ps.length<16777216 then .ok .nx (ρ1.set i (.ow (ps ++ [p]))) else .bad
  |_=>.bad
 |_=>.bad
def nU{i:Nat}{D:Ends}{σ:L2.St}{H:Hp}(h:tS (kk X cm) E (Ag i mv) D σ H):Kc (tBM X.K "list" GC (wF i) (tL (kk X cm) E (ą mv Ĝ))) D σ H:=by
 obtain⟨c,F,ρ,rel,h⟩:=h
 unfold Ag at h
 cases e1:ρ[i]? with
 |none=>rw[e1] at h;exact h.elim
 |some sl=>
  rw[e1] at h
  cases sl with
  |ow ps0=>
   obtain⟨a,vs0,z1,z2,z3,z4,z5,z6⟩:=rel.ow e1
   refine⟨.ref a,z1,.inl ⟨rfl,_,aQ.of z2⟩,c,F,ρ,rel,?_⟩
   dsimp only at h
   unfold ą
   cases em:mv ρ with
   |bad=>rw[em] at h;exact h
   |exc x ρ1=>rw[em] at h;exact λC d F' H' dD s1 q=>h σ C d F' H' dD s1 q
   |ok p ρ1=>
    rw[em] at h
    intro us F1 H1 ě s1 s2 r1
    have r1':Ģ (kk X cm) F1 [p] us:=r1
    cases r1'.pr with
    |cons rp t=>
     rename_i v vs'
     cases t
     cases e2:ρ1[i]? with
     |none=>simp only[Res.cB,e2] at h;exact h.elim
     |some sl2=>
      simp only[Res.cB,e2] at h
      cases sl2 with
      |ow ps=>
       obtain⟨a2,vs,w1,w2,w3,w4,w5,w6⟩:=ě.ow e2
       rw[z1] at w1
       cases w1
       dsimp only at h
       split at h
       ·rename_i hz
        refine⟨a,vs,v,rfl,rfl,w2,by rw[<-w5.length,Ř];exact hz,h σ F1 _ (ě.write w6 z1 ⟨a,vs ++ [v],rfl,Ī,w3,w4,Ģ.append w5 (Ģ.cons rp Ģ.nil)⟩ λ_ z=>(V.ref.inj z).symm) s1⟩
       ·exact h.elim
      |_=>exact h.elim
  |_=>exact h.elim
def Ŋ(mc:M Bool)(mb:M Fl):Nat->ŝ->Res Fl
 |0,_=>.bad
 |n+1,ρ=>(mc ρ).bind λb ρ1=>if b=true then(mb ρ1).bind λf ρ2=>match f with
  | .nx=>Ŋ mc mb n ρ2
  | .ct=>Ŋ mc mb n ρ2
  | .bk=>.ok .nx ρ2
  | .rt r=>.ok (.rt r) ρ2 else .ok .nx ρ1
theorem aU{mc:M Bool}{mb:M Fl}(n:Nat)(ρ:ŝ):Ŋ mc mb (n+1) ρ=(mc ρ).bind λb ρ1=>if b=true then(mb ρ1).bind λf ρ2=>match f with
 | .nx=>Ŋ mc mb n ρ2
 | .ct=>Ŋ mc mb n ρ2
 | .bk=>.ok .nx ρ2
 | .rt r=>.ok (.rt r) ρ2 else .ok .nx ρ1:=rfl
open Classical in
noncomputable def aV(mc:M Bool)(mb:M Fl):M Fl:=λρ=>if h:∃n,Ŋ mc mb n ρ≠ .bad then Ŋ mc mb (Classical.choose h) ρ else .bad
theorem jU{mc:M Bool}{mb:M Fl}:∀(n:Nat) (ρ:ŝ),Ŋ mc mb n ρ≠ .bad->Ŋ mc mb (n+1) ρ=Ŋ mc mb n ρ
 |0,ρ,h=>absurd rfl h
 |n+1,ρ,h=>by
  rw[aU] at h
  rw[aU (n+1),aU n]
  cases e:mc ρ with
  |bad=>rfl
  |exc x ρ1=>rfl
  |ok b ρ1=>
   rw[e] at h
   simp only[Res.cB] at h ⊢
   cases b with
   |false=>rfl
   |true=>
    simp only[if_true] at h ⊢
    cases e2:mb ρ1 with
    |bad=>rfl
    |exc x ρ2=>rfl
    |ok f ρ2=>
     rw[e2] at h
     simp only[Res.cB] at h ⊢
     cases f with
     |nx=>exact jU n ρ2 h
     |ct=>exact jU n ρ2 h
     |bk=>rfl
     |rt r=>rfl
def vA{mc:M Bool}{mb:M Fl}{n m:Nat}{ρ:ŝ}(h:Ŋ mc mb n ρ≠ .bad)(hm:n<=m):Ŋ mc mb m ρ=Ŋ mc mb n ρ:= by
 induction hm with
 |refl=>rfl
 |step _ ih=>rw[jU _ _ (by rw[ih];exact h),ih]
def bx{mc:M Bool}{mb:M Fl}{ρ:ŝ}(n:Nat)(h:Ŋ mc mb n ρ≠ .bad):aV mc mb ρ=Ŋ mc mb n ρ:= by
 unfold aV
 have hx:∃n,Ŋ mc mb n ρ≠ .bad:=⟨n,h⟩
 rw[dif_pos hx]
 have hc:=Classical.choose_spec hx
 rcases Nat.le_total n (Classical.choose hx) with hle|hle
 ·exact vA h hle
 ·exact(vA hc hle).symm
theorem jV{mc:M Bool}{mb:M Fl}{ρ:ŝ}:aV mc mb ρ=(mc ρ).bind λb ρ1=>if b=true then(mb ρ1).bind λf ρ2=>match f with
 | .nx=>aV mc mb ρ2
 | .ct=>aV mc mb ρ2
 | .bk=>.ok .nx ρ2
 | .rt r=>.ok (.rt r) ρ2 else .ok .nx ρ1:=by
 have go:∀ρ2,aV mc mb ρ2=.bad\/∃n,aV mc mb ρ2=Ŋ mc mb n ρ2/\Ŋ mc mb n ρ2≠ .bad:=λρ2=>by
  by_cases hx:∃n,Ŋ mc mb n ρ2≠ .bad
  ·obtain⟨n,h⟩:=hx
   exact .inr ⟨n,bx n h,h⟩
  ·left;unfold aV;rw[dif_neg hx]
 have Zgg:∀ρ2,aV mc mb ρ2=.bad->∀n,Ŋ mc mb n ρ2=.bad:=λρ2 h n=>by
  refine Classical.byContradiction λz=>?_
  rw[bx n z] at h
  exact z h
 have fin:∀n,Ŋ mc mb (n+1) ρ≠ .bad->aV mc mb ρ=Ŋ mc mb (n+1) ρ:= λn h=>bx _ h
 cases e:mc ρ with
 |bad=>rcases go ρ with h|⟨n,h1,h2⟩
       ·rw[h];rfl
       ·cases n with
        |zero=>exact absurd rfl h2
        |succ n=>rw[aU,e] at h2;exact absurd rfl h2
 |exc x ρ1=>
  have h:Ŋ mc mb 1 ρ=.exc x ρ1:=by rw[aU,e];rfl
  rw[bx 1 (by rw[h];intro z;cases z),h];rfl
 |ok b ρ1=>
  simp only[Res.cB]
  cases b with
  |false=>
   have h:Ŋ mc mb 1 ρ=.ok .nx ρ1:=by rw[aU,e];rfl
   rw[bx 1 (by rw[h];intro z;cases z),h];rfl
  |true=>
   simp only[if_true]
   have one:∀n,Ŋ mc mb (n+1) ρ=(mb ρ1).bind λf ρ2=>match f with
    | .nx=>Ŋ mc mb n ρ2
    | .ct=>Ŋ mc mb n ρ2
    | .bk=>.ok .nx ρ2
    | .rt r=>.ok (.rt r) ρ2:=λn=>by rw[aU,e];rfl
   cases e2:mb ρ1 with
   |bad=>
    rcases go ρ with h|⟨n,h1,h2⟩
    ·rw[h];rfl
    ·cases n with
     |zero=>exact absurd rfl h2
     |succ n=>rw[one,e2] at h2;exact absurd rfl h2
   |exc x ρ2=>
    have h:Ŋ mc mb 1 ρ=.exc x ρ2:=by rw[one,e2];rfl
    rw[bx 1 (by rw[h];intro z;cases z),h];rfl
   |ok f ρ2=>
    have turn:(∀n,Ŋ mc mb (n+1) ρ=Ŋ mc mb n ρ2)->aV mc mb ρ=aV mc mb ρ2:=λhn=>by
     rcases go ρ2 with h|⟨n,h1,h2⟩
     ·rcases go ρ with h'|⟨n,h1,h2⟩
      ·rw[h,h']
      ·cases n with
       |zero=>exact absurd rfl h2
       |succ n=>rw[hn,Zgg ρ2 h n] at h2;exact absurd rfl h2
     ·rw[h1,<-hn n]
      exact fin n (by rw[hn n];exact h2)
    cases f with
    |nx=>exact turn λn=>by rw[one,e2];rfl
    |ct=>exact turn λn=>by rw[one,e2];rfl
    |bk=>
     have h:Ŋ mc mb 1 ρ=.ok .nx ρ2:=by rw[one,e2];rfl
     rw[bx 1 (by rw[h];intro z;cases z),h];rfl
    |rt r=>
     have h:Ŋ mc mb 1 ρ=.ok (.rt r) ρ2:=by rw[one,e2];rfl
     rw[bx 1 (by rw[h];intro z;cases z),h];rfl
def Rz{c:Expr}{body:List Stmt}{mc:M Bool}{mb:M Fl}(hp:PassesOwn (model X.prog X.w) X.A X.env X.xe)(hc:PT X c (tB (kk X cm) E mc))(hb:lW X body (tS (kk X cm) E mb)):PS X (.While c body [] pos) (tS (kk X cm) E (aV mc mb)):=PS.wk (Kh hp hc hb) λD σ H ⟨c,F,ρ,rel,h⟩=>by
 obtain⟨n,hn⟩:∃n,ű (kk X cm) E c F D (Ŋ mc mb n ρ):=by
  by_cases hx:∃n,Ŋ mc mb n ρ≠ .bad
  ·obtain⟨n,hn⟩:=hx
   rw[bx n hn] at h
   exact⟨n,h⟩
  ·unfold aV at h
   rw[dif_neg hx] at h
   exact h.elim
 refine⟨λm σ' H'=>∃F2 ρ2,Rel (kk X cm) c F2 H' σ' ρ2/\Same F F2/\ű (kk X cm) E c F2 D (Ŋ mc mb m ρ2),⟨n,F,ρ,rel,Same.refl _,hn⟩,?_⟩
 rintro m σ1 H1 ⟨F1,ρ1,ě,s1,h1⟩
 cases m with
 |zero=>exact h1.elim
 |succ m=>
  rw[aU] at h1
  refine⟨c,F1,ρ1,ě,ű.bind h1 λk ρ2 v F2 H2 ŏ s2 q h2=>?_⟩
  have e:k=v:=q
  subst e
  cases k with
  |false=>
   rw[if_neg Bool.false_ne_true]
   rw[if_neg Bool.false_ne_true] at h2
   exact h2 σ1 F2 H2 ŏ (Same.refl _)
  |true=>
   rw[if_pos rfl]
   rw[if_pos rfl] at h2
   refine⟨_,λσ' H' z=>z,c,F2,ρ2,ŏ,?_⟩
   have nxt:∀{ρ3:ŝ},ű (kk X cm) E c F2 D (Ŋ mc mb m ρ3)->∀σ' F' H',Rel (kk X cm) c F' H' σ' ρ3->Same F2 F'->∃m',m'<m+1/\∃F2 ρ2,Rel (kk X cm) c F2 H' σ' ρ2/\Same F F2/\ű (kk X cm) E c F2 D (Ŋ mc mb m' ρ2):=
    fun{ρ3} h3 σ' F' H' dD s'=>⟨m,Nat.lt_succ_self m,F',ρ3,dD,(s1.trans s2).trans s',ű.mono h3 s'⟩
   cases e2:mb ρ2 with
   |bad=>rw[e2] at h2;exact h2
   |exc x ρ3=>rw[e2] at h2;exact h2
   |ok f ρ3=>
    rw[e2] at h2
    cases f with
    |nx=>exact nxt h2
    |ct=>exact nxt h2
    |bk=>exact h2
    |rt r=>exact h2
def jC(K:KK)(Lh F:Hp)(J:It)(items:List PV):Prop:=∀(c:Ctx) (i:Nat) (F2 H:Hp) (σ:L2.St) (ρ:ŝ),Rel K c F2 H σ ρ->Same F F2->Same Lh H->
 (∀p,items[i]?=some p->J.go i H/\∀x H',J.yld i H x H'->∃F3,Rel K c F3 H' σ ρ/\Same F2 F3/\Same H H'/\Rep K F3 p x)/\(i=items.length->J.stop i H)
def rIt(K:KK):RR (List PV) It:=λc _ _ F _ items J=>jC K c.L F J items
abbrev tI(K:KK)(E:L2.St->XK)(m:M (List PV)):TI:=tG K E (rIt K) m
def forL(g:Tg)(mb:M Fl):List PV->M Fl
 | [],ρ=>.ok .nx ρ
 |p::ps,ρ=>match g p ρ with
  |none=>.bad
  |some ρ1=>(mb ρ1).bind λf ρ2=>match f with
   | .nx=>forL g mb ps ρ2
   | .ct=>forL g mb ps ρ2
   | .bk=>.ok .nx ρ2
   | .rt r=>.ok (.rt r) ρ2
def iu(mi:M (List PV))(g:Tg)(mb:M Fl):M Fl:=λρ=>(mi ρ).bind λitems ρ1=>forL g mb items ρ1
def dF{iter tg:Expr}{body:List Stmt}{mi:M (List PV)}{g:Tg}{mb:M Fl}(hp:PassesOwn (model X.prog X.w) X.A X.env X.xe)(hc:X.calm=true)(hi:PI X tg iter (tI (kk X cm) E mi))(hg:PG X tg (tT (kk X cm) g))(hb:lW X body (tS (kk X cm) E mb))
 (hs:∀x,foldedSetIterable iter X.env x=pure x:=by intro _;rfl):PS X (.For tg iter body [] pos) (tS (kk X cm) E (iu mi g mb)):=PS.wk (ZaR hp hc hi hg hb hs) λD σ H ⟨c,F,ρ,rel,h⟩=>⟨c,F,ρ,rel,ű.bind h λitems ρ1 J F1 H1 ě s1 ito h1=>by
 refine⟨λi m σ' H'=>∃F2 ρ2,i<=items.length/\m=items.length-i/\Rel (kk X cm) c F2 H' σ' ρ2/\Same F1 F2/\ű (kk X cm) E c F2 D (forL g mb (items.drop i) ρ2),⟨_,F1,ρ1,Nat.zero_le _,rfl,ě,Same.refl _,h1⟩,?_⟩
 rintro i m σ2 H2 ⟨F2,ρ2,hle,rfl,ŏ,s2,h2⟩
 obtain⟨go,stop⟩:=ito c i F2 H2 σ2 ρ2 ŏ s2 λb u e=>(ŏ.lent b u e).1
 by_cases hlt:i<items.length
 ·obtain⟨g1,g2⟩:=go items[i] (List.getElem?_eq_getElem hlt)
  rw[List.drop_eq_getElem_cons hlt] at h2
  unfold forL at h2
  refine .inr ⟨g1,_,λσ' H' z=>z,λx H3 hy=>?_⟩
  obtain⟨F3,lX,s3,_,rp⟩:=g2 x H3 hy
  refine⟨c,F3,ρ2,items[i],lX,rp,?_⟩
  cases eg:g items[i] ρ2 with
  |none=>rw[eg] at h2;exact h2.elim
  |some ρ3=>
   rw[eg] at h2
   dsimp only at h2
   intro σ4 Ae
   refine⟨c,F3,ρ3,Ae,?_⟩
   have nxt:∀{ρ4:ŝ},ű (kk X cm) E c F2 D (forL g mb (items.drop (i+1)) ρ4)->∀σ' F' H',Rel (kk X cm) c F' H' σ' ρ4->Same F3 F'->∃m',m'<items.length-i/\∃F2 ρ2,i+1<=items.length/\m'=items.length-(i+1)/\Rel (kk X cm) c F2 H' σ' ρ2/\Same F1 F2/\ű (kk X cm) E c F2 D (forL g mb (items.drop (i+1)) ρ2):=
    fun{ρ4} h3 σ' F' H' dD s'=>⟨items.length-(i+1),by omega,F',ρ4,hlt,rfl,dD,(s2.trans s3).trans s',ű.mono h3 (s3.trans s')⟩
   have h2':=ű.mono h2 s3
   cases e2:mb ρ3 with
   |bad=>rw[e2] at h2;exact h2
   |exc x ρ4=>rw[e2] at h2';exact h2'
   |ok f ρ4=>
    rw[e2] at h2 h2'
    cases f with
    |nx=>exact nxt h2
    |ct=>exact nxt h2
    |bk=>exact h2'
    |rt r=>exact h2'
 ·have e:i=items.length:=by omega
  refine .inl ⟨stop e,?_⟩
  rw[List.drop_eq_nil_of_le (by omega)] at h2
  unfold forL at h2
  exact h2 σ2 F2 H2 ŏ (Same.refl _)⟩
end
end P
namespace P
open PySem PySem.Spec PyProof.Rows L2 M2 M3
inductive FR where
 |ret (r:RV)|exc (x:PX)|bad
abbrev MF:=List Slot->FR
def FR.of:Res Fl->FR
 | .ok (.rt r) _=>.ret r
 | .ok .nx _=>.ret (.sh .non)
 | .exc x _=>.exc x
 |_=>.bad
def ń(n k:Nat)(mb:M Fl):MF:=λas=>if as.length=n then FR.of (mb (startP k as)) else .bad
def rF(K:KK)(H F' H':Hp):RV->V->Prop
 | .sh p,v=>Rep K F' p v
 | .ow ps,v=>∃a vs,v=.ref a/\H' a=some (.lst vs)/\F' a=none/\H a=none/\Ģ K F' ps vs
 | .ot ps qs,v=>∃p a xs vs,v=.ref p/\F' p=some (.tup (xs ++ [.ref a]))/\Ģ K F' ps xs/\H' a=some (.lst vs)/\F' a=none/\H a=none/\Ģ K F' qs vs
def Zgh(K:KK)(E:XK)(F H:Hp)(Q:VK):FR->Prop
 | .ret r=>∀v F' H',Gr F H F' H'->rF K H F' H' r v->Q v H'
 | .exc x=>∀C d F' H',Gr F H F' H'->Js K F' x C d->E C d H'
 | .bad=>False
def ż(K:KK)(n:Nat)(mf:MF):Sp:=λvs H Q E=>∃F as,as.length=n/\Same F H/\Paired (fH K F H) as vs/\Zgh K E F H Q (mf as)
def cV(CX:qj)(X:Cx)(E:L2.St->XK):Prop:=∀(pins:List (Addr×Obj)) (σ:L2.St) (H:Hp) (s:Shared) (e:Value) (s':Shared),Inv X pins σ H s->CX X.stack H s (E σ) e s'->X.xe e s'
section
variable{P:Program}{w:World}{K:PySem.W.Frag}{cm:String->Addr}{mg:Str->Option Value}{base:Heap}{CX:qj}
def fnP{x qual:Str}{st:Stmt}{f:Addr}{fd:FuncData}{N ps:List Str}{k:Nat}{mb:M Fl}(F:Kz K x qual st f fd)(S:Ė N ps (ć st))
 (hbody:∀(cdv:Value) (A:Around) (outer:List Env) (s:Shared) (H:Hp) (E:XK),aD k (A.deeper (envOfC qual (ć st) s.heap.objs.size f cdv))→
   lW (cQ CX P w K mg base N qual (ć st) f cdv A outer s H E) (Ŗ st) (tS ⟨K,cm⟩ (λ_=>E) mb)):ī P w K mg base CX (k+1) f fd ps (ż ⟨K,cm⟩ ps.length (ń ps.length N.length mb)):=by
 obtain⟨oc,od,kV,doc,pm,an,cdv,ct,osl,rfl,lk,hcd⟩:=F.ex
 refine zX lk hcd S (λvs H Q E ⟨F,ps',h1,_,h2,_⟩=>by rw[<-Paired.length h2];exact h1) λA outer s H vs Q E hr hsp=>?_
 obtain⟨F,ps',h1,h2,h3,h4⟩:=hsp
 refine⟨_,hbody cdv A outer s H E hr,ctx0 F H,F,startP N.length ps',Rel.start h2 h3,?_⟩
 unfold ń at h4
 rw[if_pos h1] at h4
 cases e:mb (startP N.length ps') with
 |bad=>rw[e] at h4;exact h4
 |exc x ρ'=>rw[e] at h4;exact λσ' C d F' H' rel s1 q=>h4 C d F' H' rel.gr q
 |ok fl ρ'=>
  rw[e] at h4
  cases fl with
  |nx=>exact λσ' F' H' rel s1=>h4 .non F' H' rel.gr (Rep.non (K:=⟨K,cm⟩) (F:=F'))
  |bk=>exact h4.elim
  |ct=>exact h4.elim
  |rt r=>
   intro v σ' F' H' rel s1 q
   refine h4 v F' H' rel.gr ?_
   cases r with
   |sh p=>exact q
   |ow qs=>
    obtain⟨a,vs',e1,e2,e3,e4,_,e5⟩:=q
    exact⟨a,vs',e1,e2,e3,e4,e5⟩
   |ot qs ts=>
    obtain⟨p,a,xs,vs',e1,e0,ex,e2,e3,e4,_,e5⟩:=q
    exact⟨p,a,xs,vs',e1,e0,ex,e2,e3,e4,e5⟩
def bA{x qual:Str}{st:Stmt}{f:Addr}{fd:FuncData}{N ps:List Str}{k n j:Nat}{mb:M Fl}{mf:MF}(F:Kz K x qual st f fd)(S:Ė N ps (ć st))(hn:ps.length=n)(hj:N.length=j)(hf:mf=ń n j mb)
 (hbody:∀(cdv:Value) (A:Around) (outer:List Env) (s:Shared) (H:Hp) (E:XK),aD k (A.deeper (envOfC qual (ć st) s.heap.objs.size f cdv))→
   lW (cQ CX P w K mg base N qual (ć st) f cdv A outer s H E) (Ŗ st) (tS ⟨K,cm⟩ (λ_=>E) mb)):ī P w K mg base CX (k+1) f fd ps (ż ⟨K,cm⟩ n mf):=by
 subst hn hj hf
 exact fnP F S hbody
end
def Đ(mf:MF)(mr:M (List Slot)):M RV:=λρ=>(mr ρ).bind λps ρ1=>match mf ps with
 | .ret r=>.ok r ρ1
 | .exc x=>.exc x ρ1
 | .bad=>.bad
section
variable{X:Cx}{cm:String->Addr}{E:L2.St->XK}{CX:qj}{k n:Nat}{f:Addr}{fd:FuncData}{ps:List Str}{mf:MF}{mr:M (List Slot)}{x:Str}{p pos:Pos}{e:Expr}{es:List Expr}
def Hj{sp:Sp}{pins:List (Addr×Obj)}{σ:L2.St}{H:Hp}{s:Shared}{Q:VK}{us:List Value}{vs:List V}(F:ī X.prog X.w X.K X.mg X.base CX k f fd ps sp)(hr:aD k X.A)(hb:Binds X.K fd ps [])(hx:cV CX X E)
 (I:Inv X pins σ H s)(r:Vals vs us)(h:sp vs H Q (E σ)):wpAny (model X.prog X.w) X.A (call (.ref f) us) (EP X pins σ Q) X.xe s:=by
 have hl:(us ++ []).length=ps.length:=by rw[List.append_nil,<-r.length];exact F.len _ _ _ _ h
 have hbd:=hb s us I.iH hl
 rw[List.append_nil] at hbd
 refine wpAny_call (codeAny_mono (F.run X.A X.stack s H ⟨us,[]⟩ us vs Q (E σ) hr I.env0 hbd r h) λr s' hq=>?_)
 cases r with
 |error e=>exact hx pins σ H s e s' I hq
 |ok fl=>
  cases fl with
  |ret u=>exact I.after hq
  |next=>exact False.elim hq
  |brk=>exact False.elim hq
  |cont=>exact False.elim hq
def Ah{c:Ctx}{F1 H1:Hp}{σ:L2.St}{ρ1:ŝ}{Q:VK}{ps:List Slot}{vs:List V}(hlen:(∃r,mf ps=r/\∀z,r=z->z≠ .bad)->ps.length=n)(ě:Rel (kk X cm) c F1 H1 σ ρ1)(r1:Paired (fH (kk X cm) F1 H1) ps vs)
 (h:cP (kk X cm) E (rO (kk X cm)) c F1 H1 σ Q (match mf ps with| .ret r=>.ok r ρ1| .exc x=>.exc x ρ1| .bad=>.bad)):ż (kk X cm) n mf vs H1 Q (E σ):=by
 refine⟨F1,ps,?_,ě.sub,r1,?_⟩
 ·refine hlen ⟨_,rfl,λz hz hb=>?_⟩
  rw[hz,hb] at h
  exact h
 ·cases em:mf ps with
  |bad=>rw[em] at h;exact h
  |exc x=>rw[em] at h;exact λC d F' H' g rx=>h C d F' H' (ě.call g) g.f rx
  |ret r=>
   rw[em] at h
   intro v F' H' g rf
   refine h v F' H' (ě.call g) g.f g.h ?_
   cases r with
   |sh p=>exact rf
   |ow qs=>
    obtain⟨a,vs',e1,e2,e3,e4,e5⟩:=rf
    exact⟨a,vs',e1,e2,e3,ě.base.free e4,ě.wQ g.f (ě.fresh e4),e5⟩
   |ot qs ts=>
    obtain⟨p,a,xs,vs',e1,e0,ex,e2,e3,e4,e5⟩:=rf
    exact⟨p,a,xs,vs',e1,e0,ex,e2,e3,ě.base.free e4,ě.wQ g.f (ě.fresh e4),e5⟩
def Ċ{n k:Nat}{mb:M Fl}{ps:List Slot}(h:∃r,ń n k mb ps=r/\∀z,r=z->z≠ .bad):ps.length=n:=by
 obtain⟨r,h1,h2⟩:=h
 unfold ń at h1
 by_cases hl:ps.length=n
 ·exact hl
 ·rw[if_neg hl] at h1
  exact absurd h1.symm (λz=>h2 .bad (by rw[<-h1]) rfl)
def Ē(F:ī X.prog X.w X.K X.mg X.base CX k f fd ps (ż (kk X cm) n mf))(hlen:∀{ps:List Slot},(∃r,mf ps=r/\∀z,r=z->z≠ .bad)->ps.length=n)(hr:aD k X.A)(hg:Gl X x)(hm:X.mg x=some (.ref f))(hk:PySem.W.keepIn X.K (.ref f)=true)(hb:Binds X.K fd ps [])(hx:cV CX X E)
 (ha:PA X (e::es) (tA (kk X cm) E mr))(hdb:(x== ("__debug__" :Str))=false:=by decide)(he:starEach (e::es) X.env=(false,eval e X.env)::starEach es X.env:=by exact Ĵ rfl)(hpl:(backTo pos (starEach es X.env)).any (·.1)=false:=by rfl) :
 PE X (.Call (.Name x p) (e::es) [] pos) (tO (kk X cm) E (Đ mf mr)):=by
 intro pins s σ H Q I h
 obtain⟨c,F,ρ,rel,h⟩:=h
 refine wpAny_Call_Name_kw (lB I hg hm ?_ hdb)
 refine PySem.W.callWith_K (h₀:= X.base) I.ok.mod.kin hk (Ŭ (ha pos pins s σ H (λvs H1=>ż (kk X cm) n mf vs H1 Q (E σ)) I ⟨c,F,ρ,rel,h.bind λps' ρ1 vs F1 H1 ě _ _ r1 h1=>Ah hlen ě r1 h1⟩) λus s1 ⟨vs,H1,I1,r,q⟩=>⟨I1.iH,?_⟩) he hpl
 exact Hj (by assumption) hr hb hx I1 r q
end
def au(m:M PV):M (List PV):=λρ=>(m ρ).bind λp ρ1=>match p with
 | .lst ps=>.ok ps ρ1
 | .tup ps=>.ok ps ρ1
 | .str z=>.ok (z.cps.toList.map λc=>.str ⟨#[c]⟩) ρ1
 |_=>.bad
section
variable{X:Cx}{cm:String->Addr}{E:L2.St->XK}{tg:Expr}
def Zgi(K:PySem.W.Frag)(tl:TE):TI:=λσ H R=>tl σ H λx H1=>(∃a,x=.ref a/\(∃xs,aQ K H1 a xs)/\R (Itl K a) H1)\/(∃a,x=.ref a/\(∃xs,gG K H1 a xs)/\R (Itt K a) H1)\/∃z,x=.str z/\R (Its z) H1
def Lx{l:Expr}{tl:TE}(hl:PE X l tl):PI X tg l (Zgi X.K tl):=by
 intro pins s σ H R I h
 refine Ŭ (hl pins s σ H _ I h) λv s1 ⟨x,H1,I1,r1,q1⟩=>?_
 rcases q1 with⟨a,e,⟨xs,hq⟩,q⟩|⟨a,e,⟨xs,hq⟩,q⟩|⟨z,e,q⟩
 ·subst e
  cases r1
  obtain⟨its,rv,p,hz⟩:=I1.list hq
  refine wpAny_pyIter_list p.isList ?_
  refine⟨s1.heap.objs.size,[s1.heap.objs.size],_,_,H1,rfl,I1.kept (t':=s1.toks) λb o e=>Heap.get?_push_of_some _ e,Jd a _,⟨_,Heap.get?_push_size _ rfl,rfl,rfl⟩,λb hb=>?_,q⟩
  have e:b=s1.heap.objs.size:=by simpa using hb
  subst e
  exact I1.uL (Nat.le_refl _) (I1.hok.fresh (Nat.le_refl _))
 ·subst e
  cases r1
  obtain⟨its,rv,p,hz⟩:=I1.tuple hq
  refine wpAny_pyIter_tuple (show s1.heap.IsTuple a its.toArray from p) ?_
  refine⟨s1.heap.objs.size,[s1.heap.objs.size],_,_,H1,rfl,I1.kept (t':=s1.toks) λb o e=>Heap.get?_push_of_some _ e,Cp a _,⟨_,Heap.get?_push_size _ rfl,rfl,rfl⟩,λb hb=>?_,q⟩
  have e:b=s1.heap.objs.size:=by simpa using hb
  subst e
  exact I1.uL (Nat.le_refl _) (I1.hok.fresh (Nat.le_refl _))
 ·subst e
  obtain⟨t,rfl⟩:=r1
  have fin:∀ty,(∀A:Around,A.handled=none->Walks X.prog X.w A s1.heap.objs.size [s1.heap.objs.size] [s1.heap.objs.size] z.cps.size (SignAt z) (λi h=>h.IsStrIter s1.heap.objs.size ty z t i))->
   (∀(A:Around) (i:Nat) (s:Shared) (Q:Value->Shared->Prop) (E:Value->Shared->Prop),s.heap.IsStrIter s1.heap.objs.size ty z t i->Q (.ref s1.heap.objs.size) s->wpAny (model X.prog X.w) A (pyIter (.ref s1.heap.objs.size)) Q E s)->
   (["enumerate","zip","dict_itemiterator","dict_reverseitemiterator","odict_iterator","itertools.zip_longest","itertools.pairwise"].contains ty=false)->
   PIE X pins σ tg R (.ref s1.heap.objs.size) {s1 with heap:=s1.heap.push {cls:=.type ty,data:=.fields #[.str z t,.int 0 0]}}:=λty hW hS hty=>by
   refine⟨s1.heap.objs.size,[s1.heap.objs.size],_,_,H1,rfl,I1.kept (t':=s1.toks) λb o e=>Heap.get?_push_of_some _ e,Jo _ z t ty hW hS hty,⟨_,Heap.get?_push_size _ rfl,rfl,rfl⟩,λb hb=>?_,q⟩
   have e:b=s1.heap.objs.size:=by simpa using hb
   subst e
   exact I1.uL (Nat.le_refl _) (I1.hok.fresh (Nat.le_refl _))
  cases ha:z.cps.all (·< 128) with
  |true=>exact wpAny_pyIter_ascii ha (fin _ (λA hA=>Walks.strAscii hA _ z t) (λA i s Q E st q=>wpAny_pyIter_striter_ascii st q) (by decide))
  |false=>exact wpAny_pyIter_wide ha (fin _ (λA hA=>Walks.strWide hA _ z t) (λA i s Q E st q=>wpAny_pyIter_striter_wide st q) (by decide))
def jr{l:Expr}{m:M PV}(hl:PE X l (tV (kk X cm) E m)):PI X tg l (tI (kk X cm) E (au m)):=λpins s σ H R I h=>Lx hl pins s σ H R I (by
 obtain⟨c,F,ρ,rel,h⟩:=h
 refine⟨c,F,ρ,rel,h.bind λp ρ1 v F1 H1 ě s1 s2 q h1=>?_⟩
 cases p with
 |lst ps=>
  have q':Rep (kk X cm) F1 (.lst ps) v:=q
  unfold Rep at q'
  obtain⟨a,vs,rfl,e1,e2⟩:=q'
  refine .inl ⟨a,rfl,⟨vs,ě.sub.seq e1⟩,h1 _ F1 H1 ě (Same.refl _) (Same.refl _) ?_⟩
  intro c' i F2 H2 σ2 ρ2 ŏ sF _
  have hq:aQ X.K H2 a vs:=(sF.trans ŏ.sub).seq e1
  refine⟨λp hp=>?_,λhi=>⟨vs,hq,by rw[hi,e2.length];exact Nat.le_refl _⟩⟩
  obtain⟨u,hu,ru⟩:=cU e2.pr hp
  refine⟨⟨vs,u,hq,hu⟩,λx H' ⟨hH,hx⟩=>?_⟩
  subst hH
  have:vs[i]?=some x:=hx vs hq
  rw[hu] at this
  cases this
  exact⟨F2,ŏ,Same.refl _,Same.refl _,Rep.same sF p u ru⟩
 |tup ps=>
  have q':Rep (kk X cm) F1 (.tup ps) v:=q
  unfold Rep at q'
  obtain⟨a,vs,rfl,e1,e2⟩:=q'
  refine .inr (.inl ⟨a,rfl,⟨vs,Same.tup ě.sub e1⟩,h1 _ F1 H1 ě (Same.refl _) (Same.refl _) ?_⟩)
  intro c' i F2 H2 σ2 ρ2 ŏ sF _
  have hq:gG X.K H2 a vs:=Same.tup (sF.trans ŏ.sub) e1
  refine⟨λp hp=>?_,λhi=>⟨vs,hq,by rw[hi,e2.length];exact Nat.le_refl _⟩⟩
  obtain⟨u,hu,ru⟩:=cU e2.pr hp
  refine⟨⟨vs,u,hq,hu⟩,λx H' ⟨hH,hx⟩=>?_⟩
  subst hH
  have:vs[i]?=some x:=hx vs hq
  rw[hu] at this
  cases this
  exact⟨F2,ŏ,Same.refl _,Same.refl _,Rep.same sF p u ru⟩
 |str z=>
  have q':v=.str z:=by have q':Rep (kk X cm) F1 (.str z) v:=q;unfold Rep at q';exact q'
  subst q'
  refine .inr (.inr ⟨z,rfl,h1 _ F1 H1 ě (Same.refl _) (Same.refl _) ?_⟩)
  intro c' i F2 H2 σ2 ρ2 ŏ sF _
  refine⟨λp hp=>?_,λhi=>by rw[hi,List.length_map];show _=_;simp⟩
  rw[List.getElem?_map] at hp
  cases ez:z.cps.toList[i]? with
  |none=>rw[ez] at hp;cases hp
  |some cc=>
   rw[ez] at hp
   cases hp
   refine⟨by have:=(List.getElem?_eq_some_iff.mp ez).1;show i<z.cps.size;simpa using this,λx H' ⟨hH,c2,hc,hx⟩=>?_⟩
   subst hH hx
   rw[ez] at hc
   cases hc
   exact⟨F2,ŏ,Same.refl _,Same.refl _,Rep.str⟩
 |_=>exact h1.elim)
def š(i:Nat):M (List PV):=λρ=>match ρ[i]? with
 |some (.bw ps)=>.ok ps ρ
 |some (.sh (.lst ps))=>.ok ps ρ
 |some (.sh (.tup ps))=>.ok ps ρ
 |some (.sh (.str z))=>.ok (z.cps.toList.map λc=>.str ⟨#[c]⟩) ρ
 |some (.ow ps)=>.ok ps (ρ.set i (.sh (.lst ps)))
 |_=>.bad
def aW(i:Nat){x:Str}{px:Pos}(hN:X.N[i]?=some x:=by rfl)(hv:Ck X.env.scope x:=by first|exact Or.inl rfl|exact Or.inr (Or.inl rfl)|exact Or.inr (Or.inr rfl))(hd:(x== ("__debug__" :Str))=false:=by decide)
 (hcd:(x== ("__classdict__" :Str))=false:=by decide):PI X tg (.Name x px) (tI (kk X cm) E (š i)):=λpins s σ H R I h=>by
 obtain⟨c,F,ρ,rel,h⟩:=h
 cases e:ρ[i]? with
 |none=>unfold š at h;rw[e] at h;exact h.elim
 |some sl=>
  have RD:cP (kk X cm) E (rIt (kk X cm)) c F H σ R (au (ĝ i) ρ)->wpAny (model X.prog X.w) X.A (eval (.Name x px) X.env) (λv s1=>wpAny (model X.prog X.w) X.A (pyIter v) (PIE X pins σ tg R) X.xe s1) X.xe s:=λh'=>
   jr (v_var i hN hv hd hcd) pins s σ H R I ⟨c,F,ρ,rel,h'⟩
  unfold š at h
  rw[e] at h
  cases sl with
  |no=>exact h.elim
  |rc C ns ps=>exact h.elim
  |ot ps qs=>exact h.elim
  |ol GR=>exact h.elim
  |ow ps=>exact RD (by unfold au ĝ;rw[e];exact h)
  |sh p=>
   cases p with
   |lst ps=>exact RD (by unfold au ĝ;rw[e];exact h)
   |tup ps=>exact RD (by unfold au ĝ;rw[e];exact h)
   |str z=>exact RD (by unfold au ĝ;rw[e];exact h)
   |_=>exact h.elim
  |bw ps=>
   obtain⟨a,vs,h1,h2,h3⟩:=rel.slot i _ e
   refine Lx (iI hN hv hd hcd) pins s σ H R I ⟨.ref a,at_of h1,.inl ⟨a,rfl,⟨vs,aQ.of (rel.lent a _ h2).1⟩,h _ F H rel (Same.refl _) (Same.refl _) ?_⟩⟩
   intro c' j F2 H2 σ2 ρ2 ŏ sF sL
   have hq:aQ X.K H2 a vs:=aQ.of (sL a _ h2)
   refine⟨λp hp=>?_,λhi=>⟨vs,hq,by rw[hi,h3.length];exact Nat.le_refl _⟩⟩
   obtain⟨u,hu,ru⟩:=cU h3.pr hp
   refine⟨⟨vs,u,hq,hu⟩,λx H' ⟨hH,hx⟩=>?_⟩
   subst hH
   have:vs[j]?=some x:=hx vs hq
   rw[hu] at this
   cases this
   exact⟨F2,ŏ,Same.refl _,Same.refl _,Rep.same sF p u ru⟩
def jW(lo:Int)(n:Nat)(c:Int):List PV:=(List.range n).map λ(i:Nat)=>.int (lo+i*c)
def rY(i:Int):Bool:=decide (i.natAbs<1152921504606846976)
def bI:List PV->Option (List PV)
 | [.int j]=>if rY j=true then some (jW 0 j.toNat 1) else none
 |_=>none
def bG(f:List PV->Option (List PV))(mr:M (List PV)):M (List PV):=λρ=>(mr ρ).bind λps ρ1=>Res.rC (f ps) ρ1
def Dh{lo c:Int}{n i:Nat}{p:PV}(h:(jW lo n c)[i]?=some p):i<n/\p=.int (lo+i*c):=by
 unfold jW at h
 by_cases hn:i<n
 ·rw[List.getElem?_map,List.getElem?_range hn] at h
  exact⟨hn,(Option.some.inj h).symm⟩
 ·rw[List.getElem?_eq_none (by simpa using hn)] at h
  cases h
def Di{lo c:Int}{n:Nat}:(jW lo n c).length=n:=by simp[jW]
def Zbu{K:KK}{Lh F:Hp}(lo:Int)(n:Nat):jC K Lh F (Itr lo n) (jW lo n 1):=λc i F2 H σ ρ rel sF _=>
 ⟨fun p hp=>by
   obtain⟨h1,rfl⟩:=Dh hp
   refine⟨h1,λx H' ⟨e1,e2⟩=>?_⟩
   subst e1 e2
   exact⟨F2,rel,Same.refl _,Same.refl _,by rw[Int.mul_one];exact Rep.int⟩,λhi=>by rw[Di] at hi;subst hi;exact Nat.le_refl _⟩
def Ju{i:Int}(h:rY i=true): -(2 ^ 60)<=i/\i<2 ^ 60:=by
 unfold rY at h
 rw[decide_eq_true_eq] at h
 omega
variable{a b d:Expr}{p pos:Pos}{mr:M (List PV)}
def Ly{K:KK}{F:Hp}{ps:List PV}{vs:List V}(h:Ģ K F ps vs):(∀i r,ps=.int i::r->∃r',vs=.int i::r'/\Ģ K F r r')/\(ps=[]->vs=[]):=by
 refine⟨λi r e=>?_,λe=>?_⟩
 ·subst e
  unfold Ģ at h
  obtain⟨x,r',h1,h2,h3⟩:=h
  unfold Rep at h2
  exact⟨r',by rw[h1,h2],h3⟩
 ·subst e
  unfold Ģ at h
  exact h
def aG(hg:Gl X "range")(hm:X.mg "range" =none)(ha:PA X [a] (tL (kk X cm) E mr))(hs:starEach [a] X.env=[(false,eval a X.env)]:=by exact Ĵ rfl):PI X tg (.Call (.Name "range" p) [a] [] pos) (tI (kk X cm) E (bG bI mr)):=
 λpins s σ H R I h=>Je hg hm ha hs pins s σ H R I (by
  obtain⟨c,F,ρ,rel,h⟩:=h
  refine⟨c,F,ρ,rel,h.bind λps ρ1 vs F1 H1 ě s1 s2 q h1=>?_⟩
  have q':Ģ (kk X cm) F1 ps vs:=q
  unfold bI at h1
  split at h1
  ·rename_i j
   split at h1
   ·rename_i hj
    obtain⟨r',e1,e2⟩:=(Ly q').1 _ _ rfl
    cases(Ly e2).2 rfl
    obtain⟨k1,k2⟩:=Ju hj
    exact⟨j,e1,by omega,by omega,h1 _ F1 H1 ě (Same.refl _) (Same.refl _) (Zbu 0 j.toNat)⟩
   ·exact h1.elim
  ·exact h1.elim)
end
def iR:Slot->Slot
 | .sh p=>.sh p
 | .ow ps=>.bw ps
 | .bw ps=>.bw ps
 |_=>.no
def ni(js:List Nat)(nl:Nat)(ρ:ŝ):ŝ:=js.map (λ(j:Nat)=>iR ((ρ[j]?).getD .no))++List.replicate nl .no
def ŕ(g:Tg)(mt:M Bool)(me:M PV):List PV->ŝ->List PV->Option (List PV)
 | [],_,acc=>some acc
 |p::ps,ρ,acc=>match g p ρ with
  |none=>none
  |some ρ1=>match mt ρ1 with
   | .ok true ρ2=>match me ρ2 with
     | .ok q ρ3=>if acc.length<16777216 then ŕ g mt me ps ρ3 (acc ++ [q]) else none
     |_=>none
   | .ok false ρ2=>ŕ g mt me ps ρ2 acc
   |_=>none
def Š(js:List Nat)(nl:Nat)(mi:M (List PV))(g:Tg)(mt:M Bool)(me:M PV):M RV:=λρ=>(mi ρ).bind λitems ρ1=>match ŕ g mt me items (ni js nl ρ1) [] with
 |some ps=>.ok (.ow ps) ρ1
 |none=>.bad
abbrev EF:L2.St->XK:=λ_ _ _ _=>False
def œ:M Bool:=λρ=>.ok true ρ
section
variable{K:KK}{c:Ctx}{F H:Hp}{σ:L2.St}{ρ:ŝ}
def uP(F H H1:Hp):Ctx:=⟨H1,F,(ctx0 F H).L,λ_ _ _=>True⟩
def Rel.cap(js:List Nat)(nl:Nat)(rel:Rel K c F H σ ρ){D:Addr}{o:HO}(hD:H D=none):Rel K (uP F H (upd H D o)) F (upd H D o) (gR js nl σ) (ni js nl ρ) where
 sub:=rel.sub.trans (Same.upd hD)
 base:=Same.refl _
 f0:=Same.refl _
 gD:=λ_ _ z=>z
 lent:=λa u e=>⟨Same.upd hD a u (gH e).1,(gH e).2⟩
 lb:=fun a e=>by
   cases q:(uP F H (upd H D o)).L a with
   |none=>rfl
   |some u=>
    have e':upd H D o a=none:=e
    rw[Same.upd hD a u (gH q).1] at e'
    cases e'
 len:=by simp[gR,ni]
 slot:= λi s e=>by
  unfold ni at e
  by_cases hi:i<js.length
  ·rw[List.getElem?_append_left (by simpa using hi),List.getElem?_map] at e
   cases ej:js[i]? with
   |none=>rw[ej] at e;cases e
   |some j=>
    rw[ej] at e
    have e':iR ((ρ[j]?).getD .no)=s:=Option.some.inj e
    subst e'
    have hx:((gR js nl σ)[i]?).getD none=(σ[j]?).getD none:=by
     unfold gR
     rw[List.getElem?_append_left (by simpa using hi),List.getElem?_map,ej]
     rfl
    rw[hx]
    cases er:ρ[j]? with
    |none=>trivial
    |some sl=>
     have q:=rel.slot j sl er
     cases sl with
     |no=>trivial
     |sh p=>exact q
     |ow ps=>
      obtain⟨a,vs,h1,h2,h3,h4,h5⟩:=q
      refine⟨a,vs,h1,?_,h5⟩
      show(match F a with|none=>H a|some _=>none)=_
      rw[h3]
      exact h2
     |bw ps=>
      obtain⟨a,vs,h1,h2,h3⟩:=q
      obtain⟨l1,l2⟩:=rel.lent a _ h2
      refine⟨a,vs,h1,?_,h3⟩
      show(match F a with|none=>H a|some _=>none)=_
      rw[l2]
      exact l1
     |rc C ns ps=>trivial
     |ot ps qs=>trivial
     |ol GR=>trivial
  ·rw[List.getElem?_append_right (by simpa using hi),List.getElem?_replicate] at e
   split at e
   ·cases e;trivial
   ·cases e
 sep:=λi j a h1 _=>by
  exfalso
  obtain⟨s,y,h1,_,h2⟩:=h1
  have h2:=jN h2
  unfold ni at h1
  by_cases hi:i<js.length
  ·rw[List.getElem?_append_left (by simpa using hi),List.getElem?_map] at h1
   cases ej:js[i]? with
   |none=>rw[ej] at h1;cases h1
   |some j=>
    rw[ej] at h1
    have e':iR ((ρ[j]?).getD .no)=s:=Option.some.inj h1
    subst e'
    cases q:(ρ[j]?).getD .no<;>rw[q] at h2<;>cases h2
  ·rw[List.getElem?_append_right (by simpa using hi),List.getElem?_replicate] at h1
   split at h1
   ·cases h1;cases h2
   ·cases h1
def Rel.rebase{H1 F1:Hp}{D:Addr}{ys zs:List V}(hD:H1 D=none)(hF:F1 D=none)(rel:Rel K (uP F1 H1 (upd H1 D (.lst ys))) F H σ ρ):Rel K (uP F1 H1 (upd H1 D (.lst zs))) F (upd H D (.lst zs)) σ ρ:= by
 have fD:F D=none:=rel.gD D (by show upd H1 D _ D≠none;rw[Ī];intro z;cases z) hF
 have lD:∀b u,(uP F1 H1 (upd H1 D (.lst ys))).L b=some u->b≠D:=λb u e z=>by
  have q:=(gH (F:=F1) (H:=H1) (a:=b) (u:=u) e).1
  rw[z,hD] at q
  cases q
 have ne:∀b,(uP F1 H1 (upd H1 D (.lst ys))).B b=none->b≠D:=λb z q=>by
  subst q
  have z':upd H1 b (.lst ys) b=none:=z
  rw[Ī] at z';cases z'
 have back:∀b,b≠D->(uP F1 H1 (upd H1 D (.lst ys))).B b=none->(uP F1 H1 (upd H1 D (.lst zs))).B b=none:=λb hb z=>by
  have z':upd H1 D (.lst ys) b=none:=z
  show upd H1 D (.lst zs) b=none
  rw[Ę hb] at z' ⊢;exact z'
 refine⟨λb u e=>?_,λb u e=>?_,rel.f0,λb h1 h2=>?_,λb u e=>?_,λb e=>?_,rel.len,λi s e=>?_,rel.sep⟩
 ·have hb:b≠D:=λz=>by rw[z,fD] at e;cases e
  rw[Ę hb];exact rel.sub b u e
 ·by_cases hb:b=D
  ·subst hb
   have e':upd H1 b (.lst zs) b=some u:=e
   rw[Ī] at e' ⊢;exact e'
  ·have e':upd H1 D (.lst zs) b=some u:=e
   rw[Ę hb] at e' ⊢
   exact rel.base b u (by show upd H1 D _ b=some u;rw[Ę hb];exact e')
 ·refine rel.gD b (λz=>h1 ?_) h2
  exact back b (ne b z) z
 ·rw[Ę (lD b u e)]
  exact rel.lent b u e
 ·refine rel.lb b ?_
  have z':upd H1 D (.lst zs) b=none:=e
  have hb:b≠D:=λq=>by rw[q,Ī] at z';cases z'
  show upd H1 D (.lst ys) b=none
  rw[Ę hb] at z' ⊢;exact z'
 ·have q:=rel.slot i s e
  cases s with
  |no=>trivial
  |sh p=>exact q
  |bw ps=>exact q
  |ow ps=>
   obtain⟨a,vs,q1,q2,q3,q4,q5⟩:=q
   have hb:=ne a q4
   exact⟨a,vs,q1,by rw[Ę hb];exact q2,q3,back a hb q4,q5⟩
  |rc C ns ps=>
   obtain⟨a,dx,fs,q1,q2,q3,q4,q5⟩:=q
   have hb:=ne a q4
   exact⟨a,dx,fs,q1,by rw[Ę hb];exact q2,q3,back a hb q4,q5⟩
  |ot ps qs=>
   obtain⟨p,a,xs,vs,q1,q0,qx,q2,q3,q4,q5⟩:=q
   have hb:=ne a q4
   exact⟨p,a,xs,vs,q1,q0,qx,by rw[Ę hb];exact q2,q3,back a hb q4,q5⟩
  |ol GR=>
   obtain⟨p,as,q1,q0,qn,qp⟩:=q
   refine⟨p,as,q1,q0,qn,Lq qp λa ps _ ⟨vs,q2,q3,q4,q5⟩=>?_⟩
   have hb:=ne a q4
   exact⟨vs,by rw[Ę hb];exact q2,q3,back a hb q4,q5⟩
end
section
variable{X:Cx}{cm:String->Addr}{E:L2.St->XK}{elt tg iter:Expr}{ifs:List Expr}{scope:Scope}{pos:Pos}{mi:M (List PV)}{g:Tg}{mt:M Bool}{me:M PV}
def Ţ:Uc X [] (tB (kk X cm) E œ):=λpins s σ H Q I h=>Rk pins s σ H Q I (by
 obtain⟨c,F,ρ,rel,h⟩:=h
 exact h true F H rel (Same.refl _) (Same.refl _) rfl)
def Lz{a:Expr}(h:PT X a (tB (kk X cm) E mt)):Uc X [a] (tB (kk X cm) E mt):=Rm h
def Ai{js:List Nat}{nl:Nat}{σ:L2.St}{H:Hp}{Q:VK}(h:tO (kk X cm) E (Š js nl mi g mt me) σ H Q):KY js nl (tI (kk X cm) E mi) (tT (kk X cm) g) (tB (kk X cm) EF mt) (tV (kk X cm) EF me) σ H Q:=by
 obtain⟨c,F,ρ,rel,h⟩:=h
 refine⟨c,F,ρ,rel,h.bind λitems ρ1 J F1 H1 ě s1 s2 ito h1=>?_⟩
 intro D hD
 have hF:F1 D=none:=ě.sub.free hD
 cases ec:ŕ g mt me items (ni js nl ρ1) [] with
 |none=>rw[ec] at h1;exact h1.elim
 |some res=>
  rw[ec] at h1
  refine⟨λi m σ' H'=>∃F' ρ' ys acc,i<=items.length/\m=items.length-i/\Rel (kk X cm) (uP F1 H1 (upd H1 D (.lst ys))) F' H' σ' ρ'/\Ģ (kk X cm) F' acc ys/\ŕ g mt me (items.drop i) ρ' acc=some res,
   ⟨_,F1,_,[],[],Nat.zero_le _,rfl,?_,Ģ.nil,ec⟩,?_⟩
  ·exact ě.cap js nl hD
  ·rintro i m σ2 H2 ⟨F2,ρ2,ys,acc,hle,rfl,ŏ,ra,h2⟩
   have s12:Same F1 F2:=ŏ.f0
   have ZdR:∀{b:Addr} {u:HO},c.L b=some u->(uP F1 H1 (upd H1 D (.lst ys))).L b=some u:=fun{b u} e=>by
    obtain⟨l1,l2⟩:=ě.lent b u e
    show(match F1 b with|none=>H1 b|some _=>none)=some u
    rw[l2]
    exact l1
   obtain⟨go,stop⟩:=ito _ i F2 H2 σ2 ρ2 ŏ s12 λb u e=>(ŏ.lent b u (ZdR e)).1
   have hH2:H2 D=some (.lst ys):=ŏ.base D _ (show upd H1 D _ D=_ from Ī)
   have fD:F2 D=none:=ŏ.gD D (by show upd H1 D _ D≠none;rw[Ī];intro z;cases z) hF
   by_cases hlt:i<items.length
   ·obtain⟨g1,g2⟩:=go items[i] (List.getElem?_eq_getElem hlt)
    rw[List.drop_eq_getElem_cons hlt] at h2
    unfold ŕ at h2
    refine .inr ⟨g1,_,λσ' H' z=>z,λx H3 hy=>?_⟩
    obtain⟨F3,lX,s3,sH3,rp⟩:=g2 x H3 hy
    refine⟨_,F3,ρ2,items[i],lX,rp,?_⟩
    cases eg:g items[i] ρ2 with
    |none=>rw[eg] at h2;cases h2
    |some ρ3=>
     rw[eg] at h2
     dsimp only at h2
     intro σ4 Ae
     refine⟨_,F3,ρ3,Ae,?_⟩
     cases em:mt ρ3 with
     |bad=>rw[em] at h2;cases h2
     |exc x ρ4=>rw[em] at h2;cases h2
     |ok b ρ4=>
      rw[em] at h2
      intro b' F5 H5 ZdS s5 Ui eb
      have eb':b=b':=eb
      subst eb'
      cases b with
      |false=>
       rw[if_neg Bool.false_ne_true]
       dsimp only at h2
       exact⟨items.length-(i+1),by omega,F5,ρ4,ys,acc,hlt,rfl,ZdS,Ģ.same (s3.trans s5) acc ys ra,h2⟩
      |true=>
       rw[if_pos rfl]
       dsimp only at h2
       refine⟨_,F5,ρ4,ZdS,?_⟩
       cases ee:me ρ4 with
       |bad=>rw[ee] at h2;cases h2
       |exc x ρ5=>rw[ee] at h2;cases h2
       |ok q ρ5=>
        rw[ee] at h2
        dsimp only at h2
        intro y F6 H6 ZdT s6 s6' rq
        split at h2
        ·rename_i hz
         have ra6:=Ģ.same ((s3.trans s5).trans s6) acc ys ra
         refine⟨ys,ZdT.base D _ (show upd H1 D _ D=_ from Ī),by rw[<-ra6.length,Ř];exact hz,?_⟩
         exact⟨items.length-(i+1),by omega,F6,ρ5,ys ++ [y],acc ++ [q],hlt,rfl,ZdT.rebase hD hF,Ģ.append ra6 (Ģ.cons rq Ģ.nil),h2⟩
        ·cases h2
   ·have e:i=items.length:=by omega
    refine .inl ⟨stop e,?_⟩
    rw[List.drop_eq_nil_of_le (by omega)] at h2
    unfold ŕ at h2
    cases h2
    have gr:Gr F1 H1 F2 H2:=⟨λb u e=>ŏ.base b u (by show upd H1 D _ b=_;rw[Ę (Ġ e hD)];exact e),s12,ŏ.sub,λb hb hf=>ŏ.gD b (by
     show upd H1 D _ b≠none
     by_cases hbD:b=D
     ·rw[hbD,Ī];intro z;cases z
     ·rw[Ę hbD];exact hb) hf⟩
    have Zgj:=ě.call gr
    exact h1 _ F2 H2 Zgj s12 gr.h ⟨D,ys,rfl,hH2,fD,ě.base.free hD,ě.wQ gr.f (ě.fresh hD),ra⟩
def bH(N':List Str)(js:List Nat)(nl:Nat)(sc:Scope)(hsc:X.env.scope=sc)(hcalm:X.calm=true)
 (hi:PI X.bD tg iter (tI (kk X cm) E mi))(hg:∀cl C s H fp,PG (lF X.bD N' scope cl C s H fp) tg (tT (kk X cm) g))(ht:∀cl C s H fp,Uc (lF X.bD N' scope cl C s H fp) ifs (tB (kk X cm) EF mt))(he:∀cl C s H fp,PE (lF X.bD N' scope cl C s H fp) elt (tV (kk X cm) EF me))
 (hcap:jM X.bD sc scope N' js)(hlen:js.length+nl=N'.length:=by rfl)
 (hk:scope.kind=.function:=by rfl)(hcell:∀y∈scope.names,y.2=.cell->scope.names.lookup y.1=some .cell:=by decide +kernel)(hnames:∀y∈scope.names,y.2=.local->scope.names.lookup y.1=some .local:=by decide +kernel)
 (hfree:∀y∈scope.names,y.2=.free->(sc.names.lookup y.1=some .cell\/sc.names.lookup y.1=some .free):=by decide +kernel)
 (hs:∀x,foldedSetIterable iter X.env x=pure x:=by intro _;rfl) :
 PE X (.ListComp elt [⟨tg,iter,ifs,0⟩] scope pos) (tO (kk X cm) E (Š js nl mi g mt me)):=
 PE.wk (PE.bD (Rn N' js nl sc hsc hcalm hi hg ht he hcap hlen hk hcell hnames hfree hs)) λ_ _ _ h=>Ai h
end
end P
namespace P
open PySem PySem.Spec PyProof.Rows L2 M2 M3 M4
abbrev bits(x:Int):Nat:=Builtin.Int.intBits x
section
variable{X:Cx}{cm:String->Addr}{K:KK}
def Uj(K:PySem.W.Frag):R2:=λx y H Q=>∃l b xs zs,x=.ref l/\y=.ref b/\aQ K H l xs/\aQ K H b zs/\xs.length+zs.length<=sizeLine/\∀p,H p=none->Q (.ref p) (upd H p (.lst (xs++zs)))
def RG:aP X (binaryOp .Add) (Uj X.K):=by
 intro pins s σ H x y v u Q I rx ry h
 obtain⟨l,b,xs,zs,rfl,rfl,hH,hB,hz,q⟩:=h
 cases rx
 cases ry
 obtain⟨its,r,pl,z⟩:=I.list hH
 obtain⟨its2,r2,pl2,z2⟩:=I.list hB
 obtain⟨⟨c1,d1,t1,sl1⟩,n,e,hc,hd,hs⟩:=pl
 obtain⟨⟨c2,d2,t2,sl2⟩,n2,e2,hc2,hd2,hs2⟩:=pl2
 simp only at hc hd hs hc2 hd2 hs2
 subst hc hd hs hc2 hd2 hs2
 have hl:=r.length
 have hl2:=r2.length
 have ea:its.toArray++its2.toArray=(its++its2).toArray:=by simp
 refine concat_meets ⟨_,e,rfl⟩ ⟨_,e2,rfl⟩ noFill_list_add seq_list_add PySem.F.slot_list_add PySem.F.entry_list_add (PySem.F.args_list_add_2 _ _) (list_addW l b its.toArray its2.toArray n n2 none none sl1 sl2 (by simp only[List.size_toArray];omega)) ⟨e,e2,?_⟩
 rw[ea]
 exact⟨.ref _,_,I.Zga (t':=s.toks) (r.append r2) (by rw[List.length_append];omega),rfl,q _ I.fresh⟩
def Uk(K:PySem.W.Frag):R2:=λx y H Q=>∃l b xs zs,x=.ref l/\y=.ref b/\gG K H l xs/\gG K H b zs/\xs≠[]/\zs≠[]/\xs.length+zs.length<=sizeLine/\∀p,H p=none->Q (.ref p) (upd H p (.tup (xs++zs)))
def RJ:aP X (binaryOp .Add) (Uk X.K):=by
 intro pins s σ H x y v u Q I rx ry h
 obtain⟨l,b,xs,zs,rfl,rfl,hH,hB,nx,nz,hz,q⟩:=h
 cases rx
 cases ry
 obtain⟨its,r,pl,z⟩:=I.tuple hH
 obtain⟨its2,r2,pl2,z2⟩:=I.tuple hB
 obtain⟨⟨c1,d1,t1,sl1⟩,e,hc,n,hd⟩:=pl
 obtain⟨⟨c2,d2,t2,sl2⟩,e2,hc2,n2,hd2⟩:=pl2
 simp only at hc hd hc2 hd2
 subst hc hd hc2 hd2
 have hl:=r.length
 have hl2:=r2.length
 have ne1:its≠[]:=λz=>by rw[z] at hl;exact nx (List.length_eq_zero_iff.mp hl)
 have ne2:its2≠[]:=λz=>by rw[z] at hl2;exact nz (List.length_eq_zero_iff.mp hl2)
 have ea:its.toArray++its2.toArray=(its++its2).toArray:=by simp
 refine concat_meets ⟨_,e,rfl⟩ ⟨_,e2,rfl⟩ noFill_tuple_add seq_tuple_add PySem.F.slot_tuple_add PySem.F.entry_tuple_add (PySem.F.args_tuple_add_2 _ _) (tuple_addW2 l b its.toArray its2.toArray n n2 d1 d2 sl1 sl2 (by simpa using ne1) (by simpa using ne2) (by simp only[List.size_toArray];omega)) ⟨e,e2,?_⟩
 rw[ea]
 exact⟨.ref _,_,I.laid (o:=.tup (xs++zs)) (t':=s.toks) (λ_ _ q=>Heap.get?_push_of_some _ q) (Nat.le_refl _) ⟨by rw[List.length_append];omega,(its++its2),r.append r2,⟨_,Heap.get?_push_size _ rfl,rfl,_,rfl⟩⟩,rfl,q _ I.fresh⟩
def ķ:PV->PV->Option RV
 | .int i,.int j=>some (.sh (.int (i+j)))
 | .str i,.str j=>if i.length+j.length<=16777216 then some (.sh (.str (i++j))) else none
 | .lst ps,.lst qs=>if ps.length+qs.length<=16777216 then some (.ow (ps++qs)) else none
 | .tup (p::ps),.tup (q::qs)=>if(p::ps).length+(q::qs).length<=16777216 then some (.sh (.tup ((p::ps)++(q::qs)))) else none
 |_,_=>none
def Ul(K:PySem.W.Frag):R2:=λx y H Q=>ZdE x y H Q\/(Uj K x y H Q\/Uk K x y H Q)
def Ĳ:aP X (binaryOp .Add) (Ul X.K):=Zbh.or (RG.or RJ)
def ĳ:OpO K (Ul K.K) ķ:=by
 intro c F H σ ρ p q pv v u Q rel r1 r2 e k
 unfold ķ at e
 split at e
 ·cases e
  cases r1.int
  cases r2.int
  exact .inl (k _ F H rel (Same.refl _) (Same.refl _) (Rep.int (K:=K) (F:=F)))
 ·split at e
  ·rename_i hz
   cases e
   cases r1.str
   cases r2.str
   exact .inl ⟨by rw[Ř];exact hz,k _ F H rel (Same.refl _) (Same.refl _) (Rep.str (K:=K) (F:=F))⟩
  ·cases e
 ·split at e
  ·rename_i hz
   cases e
   obtain⟨a,xs,rfl,h1,h2⟩:=r1.lst rel.sub
   obtain⟨b,ys,rfl,h3,h4⟩:=r2.lst rel.sub
   refine .inr (.inl ⟨a,b,xs,ys,rfl,rfl,h1,h3,by rw[<-h2.length,<-h4.length,Ř];exact hz,λd hd=>?_⟩)
   obtain⟨q1,q2⟩:=jR rel hd (Ģ.append h2 h4)
   exact k _ F _ q1 (Same.refl _) (Same.upd hd) q2
  ·cases e
 ·split at e
  ·rename_i hz
   cases e
   obtain⟨a,xs,rfl,h1,h2⟩:=r1.tup rel.sub
   obtain⟨b,ys,rfl,h3,h4⟩:=r2.tup rel.sub
   have l1:=h2.length
   have l2:=h4.length
   refine .inr (.inr ⟨a,b,xs,ys,rfl,rfl,h1,h3,(λz=>by rw[z] at l1;cases l1),(λz=>by rw[z] at l2;cases l2),by rw[<-l1,<-l2,Ř];exact hz,λl hl=>k _ _ _ (rel.alloc hl) (Same.upd (rel.sub.free hl)) (Same.upd hl) ?_⟩)
   show Rep K _ _ _
   unfold Rep
   exact⟨l,xs++ys,rfl,gG.of Ī,Ģ.same (Same.upd (rel.sub.free hl)) _ _ (Ģ.append h2 h4)⟩
  ·cases e
 ·cases e
def zW(g:Int->Int->Int):PV->PV->Option PV
 | .int i,.int j=>some (.int (g i j))
 |_,_=>none
def Gv(C:Int->Int->Bool)(g:Int->Int->Int):PV->PV->Option PV
 | .int i,.int j=>if C i j=true then some (.int (g i j)) else none
 |_,_=>none
def opC(g:Int->Int->Bool):PV->PV->Option PV
 | .int i,.int j=>some (.bl (g i j))
 |_,_=>none
def Um{g:Int->Int->Int}:mq K (CW λi j=>.int (g i j)) (zW g):=by
 intro c F H σ ρ p q pv v u Q rel r1 r2 e k
 unfold zW at e
 split at e
 ·cases e
  cases r1.int
  cases r2.int
  exact k _ F H rel (Same.refl _) (Same.refl _) Rep.int
 ·cases e
def RK{g:Int->Int->Bool}:mq K (CW λi j=>.bl (g i j)) (opC g):=by
 intro c F H σ ρ p q pv v u Q rel r1 r2 e k
 unfold opC at e
 split at e
 ·cases e
  cases r1.int
  cases r2.int
  exact k _ F H rel (Same.refl _) (Same.refl _) Rep.bl
 ·cases e
def LC{C:Int->Int->Bool}{C':Int->Int->Prop}{g:Int->Int->Int}(hC:∀i j,C i j=true->C' i j):mq K (mI C' λi j=>.int (g i j)) (Gv C g):=by
 intro c F H σ ρ p q pv v u Q rel r1 r2 e k
 unfold Gv at e
 split at e
 ·split at e
  ·rename_i hc
   cases e
   cases r1.int
   cases r2.int
   exact⟨hC _ _ hc,k _ F H rel (Same.refl _) (Same.refl _) Rep.int⟩
  ·cases e
 ·cases e
def Ų:=zW λi j=>i-j
def Ş:mq K (CW λi j=>.int (i-j)) Ų:=Um
def nW(_ j:Int):Bool:=decide (j≠0) && decide (bits j<=8000)
def aH:=Gv nW λi j=>i.fdiv j
def ŭ:mq K (mI Jm λi j=>.int (i.fdiv j)) aH:=LC λi j h=>by unfold nW at h;simpa[Jm] using h
def Hl(_ j:Int):Bool:=decide (j≠0)
def Ń:=Gv Hl λi j=>i.fmod j
def ĸ:mq K (mI (λ_ j=>j≠0) λi j=>.int (i.fmod j)) Ń:=LC λi j h=>by unfold Hl at h;simpa using h
def rZ(i j:Int):Bool:=decide (0<=j) && decide (j.natAbs<=1000000) && decide (i.natAbs<18446744073709551616)
def mD:=Gv rZ λi j=>i ^ j.toNat
def jX:mq K (mI Jg λi j=>.int (i ^ j.toNat)) mD:=LC λi j h=>by
 unfold rZ at h
 simp only[Bool.and_eq_true,decide_eq_true_eq] at h
 exact⟨h.1.1,by omega,by have:=h.2;simpa using this⟩
def su(i j:Int):Bool:=decide (0<=j) && decide (j.natAbs<=1000000) && decide (i.natAbs<18446744073709551616)
def Ho:=Gv su λi j=>i*2 ^ j.toNat
def LK:mq K (mI Jg λi j=>.int (i*2 ^ j.toNat)) Ho:=LC λi j h=>by
 unfold su at h
 simp only[Bool.and_eq_true,decide_eq_true_eq] at h
 exact⟨h.1.1,by omega,by have:=h.2;simpa using this⟩
def Aj(_ j:Int):Bool:=decide (0<=j)
def Ak:=Gv Aj λi j=>i / 2 ^ j.toNat
def LQ:mq K (mI (λ_ j=>0<=j) λi j=>.int (i / 2 ^ j.toNat)) Ak:=LC λi j h=>by unfold Aj at h;simpa using h
def sy:=zW λi j=>Builtin.bitAnd i j
def Hq:mq K (CW λi j=>.int (Builtin.bitAnd i j)) sy:=Um
def LR:aP X (binaryOp .LShift) (mI Jg λi j=>.int (i*2 ^ j.toNat)):=aP.wk ZaX vf
def L_:aP X (binaryOp .RShift) (mI (λ_ j=>0<=j) λi j=>.int (i / 2 ^ j.toNat)):=aP.wk ZaY vf
def Hr:aP X (binaryOp .BitAnd) (CW λi j=>.int (Builtin.bitAnd i j)):=aP.wk ZaZ pA
def qO:=opC λi j=>decide (i<j)
def nj:=opC λi j=>decide (i<=j)
def Zbv:=opC λi j=>decide (j<i)
def Ma:=opC λi j=>decide (j<=i)
def mF:mq K (CW λi j=>.bl (decide (i<j))) qO:=RK
def iw:mq K (CW λi j=>.bl (decide (i<=j))) nj:=RK
def ZdU:mq K (CW λi j=>.bl (decide (j<i))) Zbv:=RK
def ZdV:mq K (CW λi j=>.bl (decide (j<=i))) Ma:=RK
def aq(i j:Int):Bool:=decide (i.natAbs<18446744073709551616) || decide (j.natAbs<18446744073709551616) || (decide (bits i<=1048576) && decide (bits j<=1048576))
def Mf{i j:Int}(h:aq i j=true):vg i j:=by
 unfold aq at h
 simp only[Bool.or_eq_true,Bool.and_eq_true,decide_eq_true_eq] at h
 rcases h with(h|h)|h
 ·exact .inl (.inl ⟨by omega,by omega⟩)
 ·exact .inl (.inr ⟨by omega,by omega⟩)
 ·exact .inr h
def Ľ:PV->PV->Option PV
 | .int i,.int j=>if aq i j=true then some (.int (i*j)) else none
 | .str z,.int n=>if 0<=n/\n<=1000/\z.length<=1000 then some (.str (S (List.replicate n.toNat z.cps.toList).flatten)) else none
 |_,_=>none
def ō:mq K Le Ľ:=by
 intro c F H σ ρ p q pv v u Q rel r1 r2 e k
 unfold Ľ at e
 split at e
 ·split at e
  ·rename_i hc
   cases e
   cases r1.int
   cases r2.int
   exact⟨Mf hc,k _ F H rel (Same.refl _) (Same.refl _) Rep.int⟩
  ·cases e
 ·split at e
  ·rename_i hc
   cases e
   cases r1.str
   cases r2.int
   exact⟨hc,k _ F H rel (Same.refl _) (Same.refl _) Rep.str⟩
  ·cases e
 ·cases e
variable{E:L2.St->XK}{a b e:Expr}{es:List Expr}{pos:Pos}{ma mb:M PV}{mr:M (List PV)}
def jY:PV->Option PV
 | .int i=>some (.int (-i))
 |_=>none
def jZ:UnV K (mU λi=>.int (-i)) jY:=by
 intro c F H σ ρ p pv v Q rel r1 e k
 unfold jY at e
 split at e
 ·cases e
  cases r1.int
  exact k _ F H rel (Same.refl _) (Same.refl _) Rep.int
 ·cases e
mutual
def eqB:PV->PV->Bool
 | .non,.non=>true
 | .bl a,.bl b=>a== b
 | .bl a,.int j=>(if a then 1 else 0)== j
 | .int i,.bl b=>i== (if b then 1 else 0)
 | .int i,.int j=>i== j
 | .str x,.str y=>x== y
 | .lst xs,.lst ys=>iU xs ys
 | .tup xs,.tup ys=>iU xs ys
 |_,_=>false
def iU:List PV->List PV->Bool
 | [],[]=>true
 |x::xs,y::ys=>eqB x y && iU xs ys
 |_,_=>false
end
mutual
def cA:PV->Bool
 | .non| .bl _| .int _=>true
 | .str x=>PyData.strOk x
 | .lst xs=>fV xs
 | .tup xs=>fV xs
 |_=>false
def fV:List PV->Bool
 | []=>true
 |x::xs=>cA x && fV xs
end
mutual
def dep:PV->Nat
 | .lst xs=>Al xs+1
 | .tup xs=>Al xs+1
 |_=>0
def Al:List PV->Nat
 | []=>0
 |x::xs=>max (dep x) (Al xs)
end
mutual
def toD:PV->PyData
 | .non=>.none
 | .bl b=>.bool b
 | .int i=>.int i
 | .str x=>.str x
 | .lst xs=>.list (iy xs)
 | .tup xs=>.tuple (iy xs)
 |_=>.none
def iy:List PV->List PyData
 | []=>[]
 |x::xs=>toD x::iy xs
end
mutual
theorem iV:∀p:PV,cA p=true->(toD p).canLay0=true
 | .non,_=>rfl
 | .bl _,_=>rfl
 | .int _,_=>rfl
 | .str x,h=>by unfold cA at h;unfold toD PyData.canLay0;exact h
 | .lst xs,h=>by unfold cA at h;unfold toD PyData.canLay0;exact j_ xs h
 | .tup xs,h=>by unfold cA at h;unfold toD PyData.canLay0;exact j_ xs h
 | .ins _ _ _,h=>by simp[cA] at h
 | .xc _ _ _,h=>by simp[cA] at h
 | .ty _,h=>by simp[cA] at h
 | .cls _,h=>by simp[cA] at h
theorem j_:∀ps:List PV,fV ps=true->PyData.canLayAll0 (iy ps)=true
 | [],_=>rfl
 |p::ps,h=>by
  unfold fV at h
  rw[Bool.and_eq_true] at h
  unfold iy PyData.canLayAll0
  rw[iV p h.1,j_ ps h.2]
  rfl
end
mutual
theorem iW:∀p:PV,(toD p).depth=dep p
 | .non=>rfl
 | .bl _=>rfl
 | .int _=>rfl
 | .str x=>rfl
 | .lst xs=>by unfold toD PyData.depth dep;rw[sE xs]
 | .tup xs=>by unfold toD PyData.depth dep;rw[sE xs]
 | .ins _ _ _=>rfl
 | .xc _ _ _=>rfl
 | .ty _=>rfl
 | .cls _=>rfl
theorem sE:∀ps:List PV,PyData.depthAll (iy ps)=Al ps
 | []=>rfl
 |p::ps=>by unfold iy PyData.depthAll Al;rw[iW p,sE ps]
end
mutual
theorem wX:∀p q:PV,cA p=true->cA q=true->PyData.eqv (toD p) (toD q)=eqB p q
 | .lst xs,.lst ys,h1,h2=>by
   unfold cA at h1 h2
   unfold toD eqB PyData.eqv
   exact wY xs ys h1 h2
 | .tup xs,.tup ys,h1,h2=>by
   unfold cA at h1 h2
   unfold toD eqB PyData.eqv
   exact wY xs ys h1 h2
 | .ins _ _ _,_,h,_=>by simp[cA] at h
 | .xc _ _ _,_,h,_=>by simp[cA] at h
 | .ty _,_,h,_=>by simp[cA] at h
 | .cls _,_,h,_=>by simp[cA] at h
 | .non,q,_,h=>by cases q<;>first|rfl|(simp[cA] at h)|(simp[toD,eqB,PyData.eqv])
 | .bl _,q,_,h=>by cases q<;>first|rfl|(simp[cA] at h)|(simp[toD,eqB,PyData.eqv])
 | .int _,q,_,h=>by cases q<;>first|rfl|(simp[cA] at h)|(simp[toD,eqB,PyData.eqv])
 | .str _,q,_,h=>by cases q<;>first|rfl|(simp[cA] at h;done)|(simp[toD,eqB,PyData.eqv])
 | .lst _,.non,_,_=>by simp[toD,eqB,PyData.eqv]
 | .lst _,.bl _,_,_=>by simp[toD,eqB,PyData.eqv]
 | .lst _,.int _,_,_=>by simp[toD,eqB,PyData.eqv]
 | .lst _,.str _,_,_=>by simp[toD,eqB,PyData.eqv]
 | .lst _,.tup _,_,_=>by simp[toD,eqB,PyData.eqv]
 | .lst _,.ins _ _ _,_,h=>by simp[cA] at h
 | .lst _,.xc _ _ _,_,h=>by simp[cA] at h
 | .lst _,.ty _,_,h=>by simp[cA] at h
 | .lst _,.cls _,_,h=>by simp[cA] at h
 | .tup _,.non,_,_=>by simp[toD,eqB,PyData.eqv]
 | .tup _,.bl _,_,_=>by simp[toD,eqB,PyData.eqv]
 | .tup _,.int _,_,_=>by simp[toD,eqB,PyData.eqv]
 | .tup _,.str _,_,_=>by simp[toD,eqB,PyData.eqv]
 | .tup _,.lst _,_,_=>by simp[toD,eqB,PyData.eqv]
 | .tup _,.ins _ _ _,_,h=>by simp[cA] at h
 | .tup _,.xc _ _ _,_,h=>by simp[cA] at h
 | .tup _,.ty _,_,h=>by simp[cA] at h
 | .tup _,.cls _,_,h=>by simp[cA] at h
theorem wY:∀ps qs:List PV,fV ps=true->fV qs=true->PyData.eqvAll (iy ps) (iy qs)=iU ps qs
 | [],[],_,_=>by simp[iy,iU,PyData.eqvAll]
 | [],_::_,_,_=>by simp[iy,iU,PyData.eqvAll]
 |_::_,[],_,_=>by simp[iy,iU,PyData.eqvAll]
 |p::ps,q::qs,h1,h2=>by
  unfold fV at h1 h2
  rw[Bool.and_eq_true] at h1 h2
  unfold iy iU PyData.eqvAll
  rw[wX p q h1.1 h2.1,wY ps qs h1.2 h2.2]
end
mutual
theorem Mg{F:Hp}:∀(p:PV) (v:V),cA p=true->Rep K F p v->Rp K.K F (toD p) v
 | .non,_,_,r=>by unfold Rep at r;unfold toD Rp;exact r
 | .bl _,_,_,r=>by unfold Rep at r;unfold toD Rp;exact r
 | .int _,_,_,r=>by unfold Rep at r;unfold toD Rp;exact r
 | .str _,_,_,r=>by unfold Rep at r;unfold toD Rp;exact r
 | .lst xs,_,h,r=>by
   unfold cA at h
   unfold Rep at r
   unfold toD Rp
   obtain⟨a,vs,h1,h2,h3⟩:=r
   exact⟨a,vs,h1,h2,lG xs vs h h3⟩
 | .tup xs,_,h,r=>by
   unfold cA at h
   unfold Rep at r
   unfold toD Rp
   obtain⟨a,vs,h1,h2,h3⟩:=r
   exact⟨a,vs,h1,h2,lG xs vs h h3⟩
 | .ins _ _ _,_,h,_=>by simp[cA] at h
 | .xc _ _ _,_,h,_=>by simp[cA] at h
 | .ty _,_,h,_=>by simp[cA] at h
 | .cls _,_,h,_=>by simp[cA] at h
theorem lG{F:Hp}:∀(ps:List PV) (vs:List V),fV ps=true->Ģ K F ps vs->pB K.K F (iy ps) vs
 | [],_,_,r=>by unfold Ģ at r;unfold iy pB;exact r
 |p::ps,_,h,r=>by
  unfold fV at h
  rw[Bool.and_eq_true] at h
  unfold Ģ at r
  unfold iy pB
  obtain⟨x,t,h1,h2,h3⟩:=r
  exact⟨x,t,h1,Mg p x h.1 h2,lG ps t h.2 h3⟩
end
def lH{c:Ctx}{F H:Hp}{σ:L2.St}{ρ:ŝ}{p:PV}{v:V}(s:Same F H)(h:cA p=true)(r:rR K c σ ρ F H p v):Rp K.K H (toD p) v:=by
 rcases r with r|r
 ·exact Rp.same s _ _ (Mg p v h r)
 ·cases p with
  |lst ps=>
   obtain⟨a,vs,rfl,h3,h4⟩:=r
   unfold cA at h
   unfold toD Rp
   exact⟨a,vs,rfl,aQ.of h3,pB.same s _ _ (lG ps vs h h4)⟩
  |ins C ns ps=>simp[cA] at h
  |_=>exact r.elim
def wZ(p q:PV):Bool:=cA p && cA q && decide (min (dep p) (dep q)<=60)
def aA(p q:PV):Option PV:=if wZ p q=true then some (.bl (eqB p q)) else none
def pH(p q:PV):Option PV:=if wZ p q=true then some (.bl (!eqB p q)) else none
def Ż:mq K (Rj K.K false) aA:=by
 intro c F H σ ρ p q pv v u Q rel r1 r2 e k
 unfold aA at e
 split at e
 ·rename_i hz
  cases e
  unfold wZ at hz
  simp only[Bool.and_eq_true,decide_eq_true_eq] at hz
  refine⟨toD p,toD q,lH rel.sub hz.1.1 r1,lH rel.sub hz.1.2 r2,iV p hz.1.1,iV q hz.1.2,by rw[iW,iW];exact hz.2,?_⟩
  rw[wX p q hz.1.1 hz.1.2]
  exact k _ F H rel (Same.refl _) (Same.refl _) Rep.bl
 ·cases e
def Hs:mq K (Rj K.K true) pH:=by
 intro c F H σ ρ p q pv v u Q rel r1 r2 e k
 unfold pH at e
 split at e
 ·rename_i hz
  cases e
  unfold wZ at hz
  simp only[Bool.and_eq_true,decide_eq_true_eq] at hz
  refine⟨toD p,toD q,lH rel.sub hz.1.1 r1,lH rel.sub hz.1.2 r2,iV p hz.1.1,iV q hz.1.2,by rw[iW,iW];exact hz.2,?_⟩
  rw[wX p q hz.1.1 hz.1.2]
  exact k _ F H rel (Same.refl _) (Same.refl _) Rep.bl
 ·cases e
def Am:PV->Bool
 | .non=>true
 |_=>false
def xg(p q:PV):Option PV:=match q with
 | .non=>some (.bl (Am p))
 |_=>none
def iY(p q:PV):Option PV:=match q with
 | .non=>some (.bl (!Am p))
 |_=>none
def Ht{c:Ctx}{F H:Hp}{σ:L2.St}{ρ:ŝ}{p:PV}{v:V}(r:rR K c σ ρ F H p v):decide (v=.non)=Am p:=by
 rcases r with r|r
 ·cases p<;>unfold Rep at r<;>first
   |(subst r;rfl)
   |(obtain⟨a,xs,rfl,_⟩:=r;rfl)
   |(obtain⟨a,xs,ys,rfl,_⟩:=r;rfl)
 ·cases p with
  |lst ps=>obtain⟨a,vs,rfl,_⟩:=r;rfl
  |ins C ns ps=>obtain⟨a,dx,fs,rfl,_⟩:=r;rfl
  |_=>exact r.elim
def Hv:mq K (λx y H Q=>y=.non/\Q (.bl (decide (x=.non))) H) xg:=by
 intro c F H σ ρ p q pv v u Q rel r1 r2 e k
 unfold xg at e
 split at e
 ·cases e
  refine⟨r2.non,?_⟩
  rw[Ht r1]
  exact k _ F H rel (Same.refl _) (Same.refl _) Rep.bl
 ·cases e
def sG:mq K (λx y H Q=>y=.non/\Q (.bl (!decide (x=.non))) H) iY:=by
 intro c F H σ ρ p q pv v u Q rel r1 r2 e k
 unfold iY at e
 split at e
 ·cases e
  refine⟨r2.non,?_⟩
  rw[Ht r1]
  exact k _ F H rel (Same.refl _) (Same.refl _) Rep.bl
 ·cases e
def Ě:PV->PV->Option PV
 | .lst ps,.int i=>uM ps i
 | .tup ps,.int i=>uM ps i
 | .str z,.int i=>if z.length<=16777216 then(uM z.cps.toList i).map λc=>.str ⟨#[c]⟩ else none
 |_,_=>none
def Hw{F:Hp}{ps:List PV}{vs:List V}{i:Int}{p:PV}(r:Ģ K F ps vs)(h:uM ps i=some p):∃v,uM vs i=some v/\Rep K F p v:=by
 unfold uM at h ⊢
 rw[r.length] at h
 cases e:z_ vs.length i with
 |none=>rw[e] at h;cases h
 |some j=>
  rw[e] at h
  obtain⟨v,h1,h2⟩:=cU r.pr h
  exact⟨v,h1,h2⟩
def ĕ:mq K (mIx K.K) Ě:=by
 intro c F H σ ρ p q pv v u Q rel r1 r2 e k
 unfold Ě at e
 split at e
 ·obtain⟨a,vs,rfl,h1,h2⟩:=r1.lst rel.sub
  cases r2.int
  obtain⟨x,h3,h4⟩:=Hw h2 e
  exact⟨vs,x,.inl h1,h3,k _ F H rel (Same.refl _) (Same.refl _) h4⟩
 ·obtain⟨a,vs,rfl,h1,h2⟩:=r1.tup rel.sub
  cases r2.int
  obtain⟨x,h3,h4⟩:=Hw h2 e
  exact⟨vs,x,.inr h1,h3,k _ F H rel (Same.refl _) (Same.refl _) h4⟩
 ·split at e
  ·rename_i z i hz
   cases r1.str
   cases r2.int
   cases ea:uM z.cps.toList i with
   |none=>rw[ea] at e;cases e
   |some cc=>
    rw[ea] at e
    cases e
    exact⟨cc,by rw[Ř];exact hz,ea,k _ F H rel (Same.refl _) (Same.refl _) Rep.str⟩
  ·cases e
 ·cases e
def Ao:M (Option Int):=λρ=>.ok none ρ
def mP(m:M PV):M (Option Int):=λρ=>(m ρ).bind λp ρ1=>match p with
 | .int i=>.ok (some i) ρ1
 |_=>.bad
abbrev tP(K:KK)(E:L2.St->XK)(m:M (Option Int)):TO:=tG K E rI m
def sI:PO X none (tP (kk X cm) E Ao):=λpins s σ H Q I h=>Ra pins s σ H Q I (by
 obtain⟨c,F,ρ,rel,h⟩:=h
 exact h none F H rel (Same.refl _) (Same.refl _) rfl)
def bW(ha:PE X e (tV (kk X cm) E ma)):PO X (some e) (tP (kk X cm) E (mP ma)):=λpins s σ H Q I h=>KQ ha pins s σ H Q I (by
 obtain⟨c,F,ρ,rel,h⟩:=h
 refine⟨c,F,ρ,rel,h.bind λp ρ1 v F1 H1 ě _ _ r1 h1=>?_⟩
 cases p with
 |int i=>
  have e:v=.int i:=by have r1':Rep (kk X cm) F1 (.int i) v:=r1;unfold Rep at r1';exact r1'
  subst e
  exact h1 (some i) F1 H1 ě (Same.refl _) (Same.refl _) rfl
 |_=>exact h1.elim)
def dG{α:Type}(xs:List α)(lo hi:Option Int):List α:= (xs.drop (HT.jD xs.length 0 lo)).take (HT.jD xs.length xs.length hi-HT.jD xs.length 0 lo)
def Uo(p:PV)(lo hi:Option Int):Option RV:=match p with
 | .lst ps=>some (.ow (dG ps lo hi))
 | .str z=>if z.length<=16777216 then some (.sh (.str (S (dG z.cps.toList lo hi)))) else none
 |_=>none
def Dj(ma:M PV)(ml mh:M (Option Int)):M RV:=λρ=>(ma ρ).bind λp ρ1=>(ml ρ1).bind λlo ρ2=>(mh ρ2).bind λhi ρ3=>Res.rC (Uo p lo hi) ρ3
def cW{ml mh:M (Option Int)}{lo hi:Option Expr}{p2:Pos}(ha:PE X a (tR (kk X cm) E ma))(hl:PO X lo (tP (kk X cm) E ml))(hh:PO X hi (tP (kk X cm) E mh)):PE X (.Subscript a (.Slice lo hi none p2) pos) (tO (kk X cm) E (Dj ma ml mh)):=
 PE.wk (Kv slm ha hl hh) fun σ H Q ⟨c,F,ρ,rel,h⟩=>⟨c,F,ρ,rel,h.bind fun p ρ1 v F1 H1 ě _ _ r1 h1=>⟨c,F1,ρ1,ě,h1.bind fun lo ρ2 lo' F2 H2 ŏ sF sH r2 h2=>⟨c,F2,ρ2,ŏ,h2.bind fun hi ρ3 hi' F3 H3 lX sF3 sH3 r3 h3=>by
   have e2:lo=lo':=r2
   have e3:hi=hi':=r3
   subst e2 e3
   have r1':rR (kk X cm) c σ ρ3 F3 H3 p v:=r1.mono (sF.trans sF3) (sH.trans sH3)
   cases p with
   |lst ps=>
    obtain⟨a,vs,rfl,q1,q2⟩:=r1'.lst lX.sub
    refine⟨vs,q1,λd hd=>?_⟩
    have e:Ģ (kk X cm) F3 (dG ps lo hi) (zY vs lo hi):=by
     unfold dG zY
     rw[q2.length]
     exact Ģ.of (GP _ (GQ _ q2.pr))
    obtain⟨z1,z2⟩:=jR lX hd e
    exact h3 _ F3 _ z1 (Same.refl _) (Same.upd hd) z2
   |str z=>
    cases r1'.str
    unfold Uo at h3
    dsimp only at h3
    split at h3
    ·rename_i hz
     exact⟨by rw[Ř];exact hz,h3 _ F3 H3 lX (Same.refl _) (Same.refl _) (Rep.str (K:=kk X cm) (F:=F3))⟩
    ·exact h3.elim
   |_=>exact h3.elim⟩⟩⟩
def Dk{c:Ctx}{F H:Hp}{σ:L2.St}{ρ:ŝ}{p:PV}{vs:List V}(h:rRL K c σ ρ F H [p] vs):∃v,vs=[v]/\rR K c σ ρ F H p v:=by
 cases h with
 |cons r t=>cases t;exact⟨_,rfl,r⟩
def rl2{c:Ctx}{F H:Hp}{σ:L2.St}{ρ:ŝ}{p q:PV}{vs:List V}(h:rRL K c σ ρ F H [p,q] vs):∃v u,vs=[v,u]/\rR K c σ ρ F H p v/\rR K c σ ρ F H q u:=by
 cases h with
 |cons r t=>
  cases t with
  |cons r' t=>cases t;exact⟨_,_,rfl,r,r'⟩
def fW:List PV->Option PV
 | [.lst ps]=>some (.int ps.length)
 | [.tup ps]=>some (.int ps.length)
 | [.str z]=>if z.length<=16777216 then some (.int z.length) else none
 |_=>none
def bY:h_ K (Zbk K.K) fW:=by
 intro c F H σ ρ ps pv vs Q rel r e k
 unfold fW at e
 split at e
 ·cases e
  obtain⟨v,rfl,r1⟩:=Dk r
  obtain⟨a,xs,rfl,h1,h2⟩:=r1.lst rel.sub
  refine⟨xs,.inl h1,?_⟩
  rw[<-h2.length]
  exact k _ F H rel (Same.refl _) (Same.refl _) Rep.int
 ·cases e
  obtain⟨v,rfl,r1⟩:=Dk r
  obtain⟨a,xs,rfl,h1,h2⟩:=r1.tup rel.sub
  refine⟨xs,.inr h1,?_⟩
  rw[<-h2.length]
  exact k _ F H rel (Same.refl _) (Same.refl _) Rep.int
 ·split at e
  ·rename_i hz
   cases e
   obtain⟨v,rfl,r1⟩:=Dk r
   cases r1.str
   exact⟨by rw[Ř];exact hz,k _ F H rel (Same.refl _) (Same.refl _) Rep.int⟩
  ·cases e
 ·cases e
def RL:List PV->Option PV
 | [.int i]=>some (.int (if i<0 then -i else i))
 |_=>none
def Zbw:h_ K mAbs RL:=by
 intro c F H σ ρ ps pv vs Q rel r e k
 unfold RL at e
 split at e
 ·cases e
  obtain⟨v,rfl,r1⟩:=Dk r
  cases r1.int
  exact k _ F H rel (Same.refl _) (Same.refl _) Rep.int
 ·cases e
def vB:List PV->Option PV
 | [.int i,.int j]=>some (.int (if j<i then j else i))
 |_=>none
def xq:h_ K KN vB:=by
 intro c F H σ ρ ps pv vs Q rel r e k
 unfold vB at e
 split at e
 ·cases e
  obtain⟨v,u,rfl,r1,r2⟩:=rl2 r
  cases r1.int
  cases r2.int
  exact k _ F H rel (Same.refl _) (Same.refl _) Rep.int
 ·cases e
def fK:List PV->Option RV
 | [.lst ps]=>some (.ow ps)
 | [.tup ps]=>some (.ow ps)
 |_=>none
def Hx(K:PySem.W.Frag):List V->Hp->VK->Prop:=λxs H Q=>∃p ys,xs=[.ref p]/\(aQ K H p ys\/gG K H p ys)/\∀l,H l=none->Q (.ref l) (upd H l (.lst ys))
def eG:ž X (.type "list") (Hx X.K):=wK
def eN:Uh K (Hx K.K) fK:=by
 intro c F H σ ρ ps pv vs Q rel r e k
 unfold fK at e
 split at e
 ·cases e
  obtain⟨v,rfl,r1⟩:=Dk r
  obtain⟨a,xs,rfl,h1,h2⟩:=r1.lst rel.sub
  refine⟨a,xs,rfl,.inl h1,λl hl=>?_⟩
  obtain⟨q1,q2⟩:=jR rel hl h2
  exact k _ F _ q1 (Same.refl _) (Same.upd hl) q2
 ·cases e
  obtain⟨v,rfl,r1⟩:=Dk r
  obtain⟨a,xs,rfl,h1,h2⟩:=r1.tup rel.sub
  refine⟨a,xs,rfl,.inr h1,λl hl=>?_⟩
  obtain⟨q1,q2⟩:=jR rel hl h2
  exact k _ F _ q1 (Same.refl _) (Same.upd hl) q2
 ·cases e
def uQ:PV->String->Option Bool
 | .int _,"int" =>some true
 | .int _,"bool" =>some false
 | .int _,"str" =>some false
 | .int _,"tuple" =>some false
 | .int _,"list" =>some false
 | .bl _,"int" =>some true
 | .bl _,"bool" =>some true
 | .lst _,"list" =>some true
 | .lst _,"tuple" =>some false
 | .lst _,"int" =>some false
 | .lst _,"str" =>some false
 | .tup _,"tuple" =>some true
 | .tup _,"list" =>some false
 | .tup _,"int" =>some false
 | .tup _,"str" =>some false
 | .str _,"str" =>some true
 | .str _,"int" =>some false
 | .str _,"list" =>some false
 | .str _,"tuple" =>some false
 | .non,"int" =>some false
 | .non,"str" =>some false
 | .non,"tuple" =>some false
 | .non,"list" =>some false
 |_,_=>none
end
theorem Aq{K:KK}{F:Hp}:∀ns:List Int,Ģ K F (ns.map .int) (ns.map V.int)
 | []=>Ģ.nil
 |n::ns=>Ģ.cons Rep.int (Aq ns)
def ZdW(K:PySem.W.Frag):Sp:=λvs H Q _=>∃(sa:Addr) (ns:List Int),vs=[.ref sa]/\aQ K H sa (ns.map V.int)/\ns.length<=63/\∀v H',v=.bl true->Q v H'
end P
namespace P
open PySem PySem.Spec PyProof.Rows L2 M2 M3 M4
section
variable{X:Cx}{cm:String->Addr}{K:KK}
def TyP(K:PySem.W.Frag)(H:Hp)(x:V)(t:Value):Prop:=match x with
 | .non=>t=.type "NoneType"
 | .bl _=>t=.type "bool"
 | .int _=>t=.type "int"
 | .str _=>t=.type "str"
 | .ref a=>(t=.type "list" /\∃xs,aQ K H a xs)\/(t=.type "tuple" /\∃xs,gG K H a xs)\/o_ K H (.ref a) t
 |_=>False
def Hy(K:PySem.W.Frag):List V->Hp->VK->Prop:=λxs H Q=>match xs with
 | [x,.ty n]=>∃t b,TyP K H x t/\PySem.W.kitOne K t (.type n)=some b/\Q (.bl b) H
 | [x,.ref C]=>∃t b,TyP K H x t/\PySem.W.kitOne K t (.ref C)=some b/\Q (.bl b) H
 |_=>False
def Hz{pins:List (Addr×Obj)}{σ:L2.St}{H:Hp}{s:Shared}{A:Around}{E:Value->Shared->Prop}{Q:Value->Shared->Prop}{c:Value}{b:Bool}{x:V}{u t:Value}(I:Inv X pins σ H s)(rx:RelV x u)(ty:TyP X.K H x t)(e:PySem.W.kitOne X.K t c=some b)(h:∀tk,Q (.bool b) {s with toks:=tk}) :
 wpAny (model X.prog X.w) A (call (.builtin "isinstance") [u,c]) Q E s:=by
 cases x with
 |non=>cases(show t=_ from ty);exact gP I rx .non e h
 |bl y=>cases(show t=_ from ty);exact gP I rx (.bl y) e h
 |int y=>cases(show t=_ from ty);exact gP I rx (.int y) e h
 |str y=>cases(show t=_ from ty);exact gP I rx (.str y) e h
 |ref a=>
  cases(show u=Value.ref a from rx)
  rcases ty with⟨rfl,xs,hS⟩|⟨rfl,xs,hS⟩|ty
  ·obtain⟨its,r,⟨o,n,h1,h2,_⟩,_⟩:=I.list hS
   exact PySem.W.kia_one PySem.W.kitx_list I.iH ⟨o,h1,h2⟩ e (λz=>nomatch z) h
  ·obtain⟨its,r,⟨o,h1,h2,_⟩,_⟩:=I.tuple hS
   exact PySem.W.kia_one PySem.W.kitx_tuple I.iH ⟨o,h1,h2⟩ e (λz=>nomatch z) h
  ·exact gP I rx ty e h
 |_=>exact ty.elim
def Zbx:ž X (.builtin "isinstance") (Hy X.K):=by
 intro pins s σ H xs us Q I r h
 unfold Hy at h
 split at h
 ·obtain⟨t,b,h1,h2,h3⟩:=h
  obtain⟨u,w',rfl,r1,r2⟩:=vals2 r
  cases r2
  exact Hz I r1 h1 h2 λtk=>⟨.bl b,H,I.tok _,rfl,h3⟩
 ·obtain⟨t,b,h1,h2,h3⟩:=h
  obtain⟨u,w',rfl,r1,r2⟩:=vals2 r
  cases r2
  exact Hz I r1 h1 h2 λtk=>⟨.bl b,H,I.tok _,rfl,h3⟩
 ·exact h.elim
def tyN:PV->String
 | .non=> "NoneType"
 | .bl _=> "bool"
 | .int _=> "int"
 | .str _=> "str"
 | .lst _=> "list"
 | .tup _=> "tuple"
 |_=> ""
def Mh{F:PySem.W.Frag}{p:PV}{n:String}{b:Bool}(h:uQ p n=some b):PySem.W.kitOne F (.type (tyN p)) (.type n)=some b:=by
 unfold uQ at h
 split at h<;>first
  |(cases h;first|rfl|decide +kernel|kernel_rfl)
  |cases h
def RM{c:Ctx}{F H:Hp}{σ:L2.St}{ρ:ŝ}{p:PV}{v:V}(s:Same F H)(r:rR K c σ ρ F H p v)(h:∃n b,uQ p n=some b):TyP K.K H v (.type (tyN p)):=by
 obtain⟨n,b,h⟩:=h
 cases p with
 |non=>cases r.non;rfl
 |bl _=>cases r.bl;rfl
 |int _=>cases r.int;rfl
 |str _=>cases r.str;rfl
 |lst ps=>
  obtain⟨a,vs,rfl,h1,h2⟩:=r.lst s
  exact .inl ⟨rfl,vs,h1⟩
 |tup ps=>
  obtain⟨a,vs,rfl,h1,h2⟩:=r.tup s
  exact .inr (.inl ⟨rfl,vs,h1⟩)
 |ins _ _ _=>simp[uQ] at h
 |xc _ _ _=>simp[uQ] at h
 |ty _=>simp[uQ] at h
 |cls _=>simp[uQ] at h
def Mi:List PV->Option PV
 | [p,.ty n]=>(uQ p n).map .bl
 |_=>none
def Mj:h_ K (Hy K.K) Mi:=by
 intro c F H σ ρ ps pv vs Q rel r e k
 unfold Mi at e
 split at e
 ·rename_i p n
  obtain⟨v,u,rfl,r1,r2⟩:=rl2 r
  cases r2.ty
  cases eb:uQ p n with
  |none=>rw[eb] at e;cases e
  |some b=>
   rw[eb] at e
   cases e
   exact⟨_,b,RM rel.sub r1 ⟨n,b,eb⟩,Mh eb,k _ F H rel (Same.refl _) (Same.refl _) Rep.bl⟩
 ·cases e
def sJ:List PV->Option PV
 | [.lst ps]=>some (.tup ps)
 | [.tup ps]=>some (.tup ps)
 |_=>none
def Ml(K:PySem.W.Frag):List V->Hp->VK->Prop:=λxs H Q=>∃p ys,xs=[.ref p]/\((aQ K H p ys/\∀l,H l=none->Q (.ref l) (upd H l (.tup ys)))\/(gG K H p ys/\Q (.ref p) H))
def Mp:ž X (.type "tuple") (Ml X.K):=uO
def Mq:h_ K (Ml K.K) sJ:=by
 intro c F H σ ρ ps pv vs Q rel r e k
 unfold sJ at e
 split at e
 ·cases e
  obtain⟨v,rfl,r1⟩:=Dk r
  obtain⟨a,xs,rfl,h1,h2⟩:=r1.lst rel.sub
  refine⟨a,xs,rfl,.inl ⟨h1,λl hl=>k _ _ _ (rel.alloc hl) (Same.upd (rel.sub.free hl)) (Same.upd hl) ?_⟩⟩
  unfold Rep
  exact⟨l,xs,rfl,gG.of Ī,Ģ.same (Same.upd (rel.sub.free hl)) _ _ h2⟩
 ·cases e
  obtain⟨v,rfl,r1⟩:=Dk r
  have r1':=r1
  obtain⟨a,xs,rfl,h1,h2⟩:=r1.tup rel.sub
  refine⟨a,xs,rfl,.inr ⟨h1,k _ F H rel (Same.refl _) (Same.refl _) ?_⟩⟩
  rcases r1' with q|q
  ·exact q
  ·exact q.elim
 ·cases e
def boolsOf:List PV->Option (List Bool)
 | []=>some []
 | .bl b::ps=>(boolsOf ps).map (b:: ·)
 |_::_=>none
theorem vC{F:Hp}:∀{ps:List PV} {vs:List V} {bs:List Bool},Ģ K F ps vs->boolsOf ps=some bs->vs=bs.map V.bl
 | [],vs,bs,r,h=>by
   cases h
   have r':=r.pr
   cases r'
   rfl
 |p::ps,vs,bs,r,h=>by
  cases p with
  |bl b=>
   unfold boolsOf at h
   cases eb:boolsOf ps with
   |none=>rw[eb] at h;cases h
   |some cs=>
    rw[eb] at h
    cases h
    have r':=r.pr
    cases r' with
    |cons r1 t=>
     rw[wR r1,vC (Ģ.of t) eb]
     rfl
  |_=>simp[boolsOf] at h
def xr:List PV->Option PV
 | [.lst ps]=>(boolsOf ps).map λbs=>.bl (bs.all id)
 |_=>none
def xu:h_ K (Zbn K.K) xr:=by
 intro c F H σ ρ ps pv vs Q rel r e k
 unfold xr at e
 split at e
 ·rename_i ps
  obtain⟨v,rfl,r1⟩:=Dk r
  obtain⟨a,xs,rfl,h1,h2⟩:=r1.lst rel.sub
  cases eb:boolsOf ps with
  |none=>rw[eb] at e;cases e
  |some bs=>
   rw[eb] at e
   cases e
   refine⟨bs,by rw[<-vC h2 eb];exact h1,k _ F H rel (Same.refl _) (Same.refl _) Rep.bl⟩
 ·cases e
end
end P
namespace P
open PySem PySem.Spec PyProof.Rows L2 M2 M3 M4
section
variable{α β:Type}{ρ:ŝ}{i j n k:Nat}{p q:PV}{ps:List PV}{m ma mb mc:M PV}{mo:M RV}{a b:M Fl}{ta tb:M Bool}{mr:M (List PV)}{f:PV->PV->Option PV}{fo:PV->PV->Option RV}{fl:List PV->Option PV}{flo:List PV->Option RV}{g:Tg}{gs:JX}
@[simp] theorem Zhx:ig ρ=.ok .nx ρ:= rfl
@[simp] theorem Zgk:ġ a b ρ=(a ρ).bind λf ρ1=>match f with| .nx=>b ρ1|f=>.ok f ρ1:=rfl
@[simp] theorem Zgl:Ķ i mo ρ=(mo ρ).bind λr ρ1=>.ok .nx (ρ1.set i r.slot):=rfl
@[simp] theorem Zgm:İ mo ρ=(mo ρ).bind λr ρ1=>.ok (.rt r) ρ1:=rfl
@[simp] theorem Ze9:vq m ρ=(m ρ).bind λ_ ρ1=>.ok .nx ρ1:=rfl
@[simp] theorem ZhJ:mC p ρ=.ok p ρ:= rfl
@[simp] theorem Zhy:ş m ρ=(m ρ).bind λp ρ1=>.ok (.sh p) ρ1:=rfl
@[simp] theorem Zgn:ē mo ρ=(mo ρ).bind λr ρ1=>.ok r.val ρ1:=rfl
@[simp] theorem Zgo:(RV.sh p).val=p:=rfl
@[simp] theorem Zgp:(RV.ow ps).val=.lst ps:=rfl
@[simp] theorem Zgq:(RV.sh p).slot=.sh p:=rfl
@[simp] theorem Zgr:(RV.ow ps).slot=.ow ps:=rfl
@[simp] theorem Zgs:ĉ f ma mb ρ=(ma ρ).bind λp ρ1=>(mb ρ1).bind λq ρ2=>Res.rC (f p q) ρ2:=rfl
@[simp] theorem Ze_:ļ fo ma mb ρ=(ma ρ).bind λp ρ1=>(mb ρ1).bind λq ρ2=>Res.rC (fo p q) ρ2:=rfl
@[simp] theorem Zhz{u:PV->Option PV}:pD u ma ρ=(ma ρ).bind λp ρ1=>Res.rC (u p) ρ1:=rfl
@[simp] theorem Zgt:eE m ρ=(m ρ).bind λp ρ1=>Res.rC (tru p) ρ1:=rfl
@[simp] theorem ZhA:gW m ρ=(m ρ).bind λp ρ1=>match p with| .bl b=>.ok b ρ1|_=>.bad:=rfl
@[simp] theorem Zfa:gY ta ρ=(ta ρ).bind λb ρ1=>.ok (!b) ρ1:=rfl
@[simp] theorem Zfb:nR ta tb ρ=(ta ρ).bind λb ρ1=>if b=true then tb ρ1 else .ok false ρ1:=rfl
@[simp] theorem Zgu:Af ta tb ρ=(ta ρ).bind λb ρ1=>if b=true then .ok true ρ1 else tb ρ1:=rfl
@[simp] theorem Zgv:gZ ma mb ρ=(ma ρ).bind fun p ρ1=>match p with| .bl b=>if b=true then mb ρ1 else .ok (.bl false) ρ1|_=>.bad:=by
  unfold gZ
  congr
  funext p ρ1
  cases p with
  |bl b=>cases b<;>rfl
  |_=>rfl
@[simp] theorem Zgw:Zbt ma ρ=(ma ρ).bind λp ρ1=>match p with| .bl b=>.ok (.bl (!b)) ρ1|_=>.bad:=rfl
@[simp] theorem ZhB{x y:M α}:gM ta x y ρ=(ta ρ).bind λb ρ1=>if b=true then x ρ1 else y ρ1:=rfl
@[simp] theorem Zgx{f g:PV→PV→Option PV}:pF f g ma mb mc ρ=(ma ρ).bind fun p ρ1=>(mb ρ1).bind fun q ρ2=>(Res.rC (f p q) ρ2).bind fun z ρ3=>match z with
  | .bl true=>(mc ρ3).bind λw ρ4=>Res.rC (g q w) ρ4
  | .bl false=>.ok (.bl false) ρ3
  |_=>.bad:=rfl
@[simp] theorem Zgy:Ĝ ρ=.ok [] ρ:= rfl
@[simp] theorem Zfc:ą ma mr ρ=(ma ρ).bind λp ρ1=>(mr ρ1).bind λps ρ2=>.ok (p::ps) ρ2:=rfl
@[simp] theorem Zgz:ś mr ρ=(mr ρ).bind λps ρ1=>if ps.length<=16777216 then .ok (.tup ps) ρ1 else .bad:=rfl
@[simp] theorem ZgA:bU mr ρ=(mr ρ).bind λps ρ1=>if ps.length<=16777216 then .ok (.ow ps) ρ1 else .bad:=rfl
@[simp] theorem ZhC:dU fl mr ρ=(mr ρ).bind λps ρ1=>Res.rC (fl ps) ρ1:=rfl
@[simp] theorem ZgB:pG flo mr ρ=(mr ρ).bind λps ρ1=>Res.rC (flo ps) ρ1:=rfl
@[simp] theorem Zfd{mf:MF}{ms:M (List Slot)}:Đ mf ms ρ=(ms ρ).bind λps ρ1=>match mf ps with| .ret r=>.ok r ρ1| .exc x=>.exc x ρ1| .bad=>.bad:=rfl
@[simp] theorem ZhD:ĝ i ρ=(match ρ[i]? with|some (.sh p)=>.ok p ρ|some (.ow ps)=>.ok (.lst ps) (ρ.set i (.sh (.lst ps)))|_=>.bad):=rfl
@[simp] theorem ZhE:ā i ρ=(match ρ[i]? with|some (.sh p)=>.ok p ρ|some (.ow ps)=>.ok (.lst ps) ρ|some (.bw ps)=>.ok (.lst ps) ρ|some (.rc C ns ps)=>.ok (.ins C ns ps) ρ|_=>.bad):=rfl
@[simp] theorem ZhF:fJ i ρ=(match ρ[i]? with|some (.sh p)=>.ok (.sh p) ρ|some (.ow ps)=>.ok (.ow ps) (ρ.set i .no)|_=>.bad):=rfl
@[simp] theorem ZgC:Jt g m ρ=(m ρ).bind λp ρ1=>match g p ρ1 with|some ρ2=>.ok .nx ρ2|none=>.bad:=rfl
@[simp] theorem Mr:gN i p ρ=some (ρ.set i (.sh p)):=rfl
@[simp] theorem ZdX:Ť [] ρ=some ρ:= rfl
@[simp] theorem Zdc:Ğ g gs (p::ps) ρ=(g p ρ).bind λρ1=>gs ps ρ1:=rfl
@[simp] theorem ZhG:gT n gs (.tup ps) ρ=if ps.length=n then gs ps ρ else none:=rfl
@[simp] theorem ZgD:Ag i m ρ=(match ρ[i]? with
  |some (.ow _)=>(m ρ).bind λp ρ1=>match ρ1[i]? with
   |some (.ow ps)=>if ps.length<16777216 then .ok .nx (ρ1.set i (.ow (ps ++ [p]))) else .bad
   |_=>.bad
  |_=>.bad):=rfl
@[simp] theorem ZdY{mi:M PV}:wW i mi m ρ=(m ρ).bind fun p ρ1=>match ρ1[i]? with
  |some (.ow _)=>(mi ρ1).bind λq ρ2=>match ρ2[i]?,q with
   |some (.ow ps),.int k=>match z_ ps.length k with
    |some j=>.ok .nx (ρ2.set i (.ow (ps.set j p)))
    |none=>.bad
   |_,_=>.bad
  |_=>.bad:=rfl
@[simp] theorem ZgE:Ao ρ=.ok none ρ:= rfl
@[simp] theorem ZhK:mP m ρ=(m ρ).bind λp ρ1=>match p with| .int i=>.ok (some i) ρ1|_=>.bad:=rfl
@[simp] theorem ZhH{ml mh:M (Option Int)}:Dj ma ml mh ρ=(ma ρ).bind λp ρ1=>(ml ρ1).bind λlo ρ2=>(mh ρ2).bind λhi ρ3=>Res.rC (Uo p lo hi) ρ3:=rfl
@[simp] theorem ZgF{lo hi:Option Int}:Uo (.lst ps) lo hi=some (.ow (dG ps lo hi)):=rfl
@[simp] theorem ZdZ:au m ρ=(m ρ).bind fun p ρ1=>match p with
  | .lst ps=>.ok ps ρ1
  | .tup ps=>.ok ps ρ1
  | .str z=>.ok (z.cps.toList.map λc=>.str ⟨#[c]⟩) ρ1
  |_=>.bad:=rfl
@[simp] theorem Zd0{h:List PV->Option (List PV)}:bG h mr ρ=(mr ρ).bind λps ρ1=>Res.rC (h ps) ρ1:=rfl
@[simp] theorem Zby{mi:M (List PV)}:iu mi g b ρ=(mi ρ).bind λitems ρ1=>forL g b items ρ1:=rfl
@[simp] theorem Zfe{js:List Nat}{nl:Nat}{mi:M (List PV)}{mt:M Bool}{me:M PV}:Š js nl mi g mt me ρ=(mi ρ).bind fun items ρ1=>match ŕ g mt me items (ni js nl ρ1) [] with
  |some ps=>.ok (.ow ps) ρ1
  |none=>.bad:=rfl
@[simp] theorem ZgG:œ ρ=.ok true ρ:= rfl
@[simp] theorem ZgH{mbd:M Fl}{as:List Slot}:ń n k mbd as=if as.length=n then FR.of (mbd (startP k as)) else .bad:=rfl
@[simp] theorem ZgI{r:RV}:FR.of (.ok (.rt r) ρ)=.ret r:=rfl
@[simp] theorem ZgJ:FR.of (.ok .nx ρ)=.ret (.sh .non):=rfl
@[simp] theorem ZgK{x:PX}:FR.of (.exc x ρ)=.exc x:=rfl
@[simp] theorem ZgL:FR.of .bad=.bad:=rfl
@[simp] theorem Zd1{as:List Slot}:startP k as=as++List.replicate (k-as.length) .no:=rfl
@[simp] theorem Zff:č ρ=.ok [] ρ:= rfl
@[simp] theorem Zd2{ms:M (List Slot)}:ď ma ms ρ=(ma ρ).bind λp ρ1=>(ms ρ1).bind λas ρ2=>.ok (.sh p::as) ρ2:=rfl
@[simp] theorem Zd3{ms:M (List Slot)}:Ą i ms ρ=(match(ρ[i]?).bind g_ with
  |none=>.bad
  |some _=>(ms ρ).bind λas ρ2=>match(ρ2[i]?).bind g_ with
   |some s=>.ok (s::as) ρ2
   |none=>.bad):=rfl
@[simp] theorem ZgM:g_ (.sh p)=some (.sh p):=rfl
@[simp] theorem ZgN:g_ (.ow ps)=some (.bw ps):=rfl
@[simp] theorem ZgO:g_ (.bw ps)=some (.bw ps):=rfl
@[simp] theorem ZgP:iR (.sh p)=.sh p:=rfl
@[simp] theorem ZgQ:iR (.ow ps)=.bw ps:=rfl
@[simp] theorem ZgR:iR (.bw ps)=.bw ps:=rfl
@[simp] theorem ZgS{js:List Nat}{nl:Nat}:ni js nl ρ=js.map (λ(j:Nat)=>iR ((ρ[j]?).getD .no))++List.replicate nl .no:=rfl
@[simp] theorem Dl:š i ρ=(match ρ[i]? with
  |some (.bw ps)=>.ok ps ρ
  |some (.sh (.lst ps))=>.ok ps ρ
  |some (.sh (.tup ps))=>.ok ps ρ
  |some (.sh (.str z))=>.ok (z.cps.toList.map λc=>.str ⟨#[c]⟩) ρ
  |some (.ow ps)=>.ok ps (ρ.set i (.sh (.lst ps)))
  |_=>.bad):=rfl
@[simp] theorem Zfg{x y:Int}:ķ (.int x) (.int y)=some (.sh (.int (x+y))):=rfl
@[simp] theorem Zfh{x y:Int}:Ų (.int x) (.int y)=some (.int (x-y)):=rfl
@[simp] theorem Zfi{x y:Int}:Ľ (.int x) (.int y)=if aq x y=true then some (.int (x*y)) else none:=rfl
@[simp] theorem Zfj{x y:Int}:aH (.int x) (.int y)=if nW x y=true then some (.int (x.fdiv y)) else none:=rfl
@[simp] theorem Zfk{x y:Int}:Ń (.int x) (.int y)=if Hl x y=true then some (.int (x.fmod y)) else none:=rfl
@[simp] theorem Zfl{x y:Int}:mD (.int x) (.int y)=if rZ x y=true then some (.int (x ^ y.toNat)) else none:=rfl
@[simp] theorem Zfm{x y:Int}:Ho (.int x) (.int y)=if su x y=true then some (.int (x*2 ^ y.toNat)) else none:=rfl
@[simp] theorem Zfn{x y:Int}:Ak (.int x) (.int y)=if Aj x y=true then some (.int (x / 2 ^ y.toNat)) else none:=rfl
@[simp] theorem Zfo{x:Int}:jY (.int x)=some (.int (-x)):=rfl
@[simp] theorem ZgT{x y:Int}:qO (.int x) (.int y)=some (.bl (decide (x<y))):=rfl
@[simp] theorem ZgU{x y:Int}:nj (.int x) (.int y)=some (.bl (decide (x<=y))):=rfl
@[simp] theorem ZgV{x y:Int}:Zbv (.int x) (.int y)=some (.bl (decide (y<x))):=rfl
@[simp] theorem ZgW{x y:Int}:Ma (.int x) (.int y)=some (.bl (decide (y<=x))):=rfl
@[simp] theorem ZgX{x y:Int}:aA (.int x) (.int y)=some (.bl (decide (x=y))):=by
  have h:eqB (.int x) (.int y)=decide (x=y):=by rw[eqB.eq_def];rfl
  rw[<-h];rfl
@[simp] theorem ZgY{x y:Int}:pH (.int x) (.int y)=some (.bl (!decide (x=y))):=by
  have h:eqB (.int x) (.int y)=decide (x=y):=by rw[eqB.eq_def];rfl
  rw[<-h];rfl
@[simp] theorem ZgZ{x y:Bool}:aA (.bl x) (.bl y)=some (.bl (x== y)):=rfl
@[simp] theorem Zg0{x y:Bool}:pH (.bl x) (.bl y)=some (.bl (!(x== y))):=rfl
@[simp] theorem Zg1{p:PV}:xg p .non=some (.bl (Am p)):=rfl
@[simp] theorem Zfp{p:PV}:iY p .non=some (.bl (!Am p)):=rfl
@[simp] theorem Ms{x:Int}:Ě (.lst ps) (.int x)=uM ps x:=rfl
@[simp] theorem Zg2{x:Int}:Ě (.tup ps) (.int x)=uM ps x:=rfl
@[simp] theorem xG:fW [.lst ps]=some (.int ps.length):=rfl
@[simp] theorem Zfq:fW [.tup ps]=some (.int ps.length):=rfl
@[simp] theorem Zg3{x:Int}:RL [.int x]=some (.int (if x<0 then -x else x)):=rfl
@[simp] theorem Zg4{x y:Int}:vB [.int x,.int y]=some (.int (if y<x then y else x)):=rfl
@[simp] theorem Zd4:fK [.lst ps]=some (.ow ps):=rfl
@[simp] theorem Zd5:fK [.tup ps]=some (.ow ps):=rfl
@[simp] theorem Zfr:sJ [.lst ps]=some (.tup ps):=rfl
@[simp] theorem Zfs:sJ [.tup ps]=some (.tup ps):=rfl
@[simp] theorem Zg5{t:String}:Mi [p,.ty t]=(uQ p t).map .bl:=rfl
@[simp] theorem Zft{x:Bool}:tru (.bl x)=some x:=rfl
@[simp] theorem Zfu{x:Int}:tru (.int x)=some (x != 0):=rfl
@[simp] theorem Zfv:tru (.lst ps)=some (!ps.isEmpty):=rfl
@[simp] theorem Mt(xs:List α)(n:Nat):uM xs (n:Int)=xs[n]?:= by
  unfold uM z_
  rw[if_pos (by omega)]
  by_cases h:n<xs.length
  ·rw[if_pos (by omega)]
   simp
  ·rw[if_neg (by omega)]
   simp
   omega
@[simp] theorem Zfw(xs:List α)(n:Nat):uM xs (no_index (OfNat.ofNat n):Int)=xs[(no_index (OfNat.ofNat n):Nat)]?:= Mt xs n
@[simp] theorem Zdd{x y:Int}:Hl x y=decide (y≠0):=rfl
end
def iz{x y:Int}(h1: -(2 ^ 64)<x)(h2:x<2 ^ 64):aq x y=true:=by unfold aq;rw[decide_eq_true (by omega:x.natAbs<18446744073709551616)];rfl
def mul_r{x y:Int}(h1: -(2 ^ 64)<y)(h2:y<2 ^ 64):aq x y=true:=by unfold aq;rw[decide_eq_true (by omega:y.natAbs<18446744073709551616)];simp
def Zd6{x y:Int}(h1:bits x<=1048576)(h2:bits y<=1048576):aq x y=true:=by unfold aq;simp[h1,h2]
def Mu{x y:Int}(h1:y≠0)(h2:bits y<=8000):nW x y=true:=by unfold nW;simp[h1,h2]
section
variable{g:Tg}{mb:M Fl}{mc mt:M Bool}{me:M PV}{items:List PV}{ρ:ŝ}
theorem Œ{α:Type}(c f:α->PV)(I:ŝ->Prop):∀(xs:List α) (ρ:ŝ) (acc:List PV),I ρ->acc.length+xs.length<=16777216->
 (∀x∈xs,∀ρ,I ρ->∃ρ1 ρ2 ρ3,g (c x) ρ=some ρ1/\mt ρ1=.ok true ρ2/\me ρ2=.ok (f x) ρ3/\I ρ3)->ŕ g mt me (xs.map c) ρ acc=some (acc++xs.map f)
 | [],ρ,acc,_,_,_=>by simp[ŕ]
 |x::xs,ρ,acc,h,hz,hs=>by
  obtain⟨ρ1,ρ2,ρ3,h1,h2,h3,h4⟩:=hs x List.mem_cons_self ρ h
  rw[List.map_cons,ŕ,h1]
  dsimp only
  rw[h2]
  dsimp only
  rw[h3]
  dsimp only
  rw[if_pos (by simp at hz;omega),Œ c f I xs ρ3 (acc ++ [f x]) h4 (by simp at hz ⊢;omega) λy hy=>hs y (List.mem_cons_of_mem _ hy)]
  simp
def Dp{β:Type}(st:β->ŝ)(I:β->Prop)(μ:β->Nat)(hs:∀b,I b->mc (st b)=.ok false (st b)\/(mc (st b)=.ok true (st b)/\∃b',mb (st b)=.ok .nx (st b')/\I b'/\μ b' < μ b)){b:β}(h0:I b) :
 ∃b',aV mc mb (st b)=.ok .nx (st b')/\I b'/\mc (st b')=.ok false (st b'):=by
 have go:∀n b,μ b<=n->I b->∃b',aV mc mb (st b)=.ok .nx (st b')/\I b'/\mc (st b')=.ok false (st b'):=by
  intro n
  induction n with
  |zero=>
   intro b hn hi
   rcases hs b hi with e|⟨e,b',_,_,hl⟩
   ·exact⟨b,by rw[jV,e];rfl,hi,e⟩
   ·omega
  |succ n ih=>
   intro b hn hi
   rcases hs b hi with e|⟨e,b',e2,hi',hl⟩
   ·exact⟨b,by rw[jV,e];rfl,hi,e⟩
   ·obtain⟨b2,q1,q2⟩:=ih b' (by omega) hi'
    refine⟨b2,?_,q2⟩
    rw[jV,e]
    simp only[Res.cB,if_true,e2]
    exact q1
 exact go (μ b) b (Nat.le_refl _) h0
end
end P
namespace P
open PySem PySem.Spec PyProof.Rows L2 M2 M3 M4
def iZ(Q:String->Prop):List String->Prop
 | []=>True
 |c::cs=>Q c/\iZ Q cs
theorem iZ.get{Q:String->Prop}:∀{cs:List String} {C:String},iZ Q cs->cs.contains C=true->Q C
 | [],_,_,h=>by simp at h
 |c::cs,C,⟨h1,h2⟩,h=>by
  by_cases e:C=c
  ·rw[e];exact h1
  ·refine h2.get ?_
   rw[List.contains_cons] at h
   have:(C== c)=false:=by simpa using e
   rw[this,Bool.false_or] at h
   exact h
section
variable{X:Cx}{cm:String->Addr}{K:KK}{E:L2.St->XK}{a b e o:Expr}{es:List Expr}{pos apos:Pos}{m ma mb:M PV}{f:Str}
theorem nq{F:Hp}:∀{fs:List (Str×V)} {ps:List PV} {p:PV},Ģ K F ps (fs.map (·.2))->((fs.map (·.1)).zip ps).lookup f=some p->∃v,fs.lookup f=some v/\Rep K F p v
 | [],ps,p,_,h=>by simp at h
 |(g,v)::fs,ps,p,r,h=>by
  have r':=r.pr
  rw[List.map_cons] at r'
  cases r' with
  |cons r1 t=>
   rename_i q qs
   rw[List.map_cons,List.zip_cons_cons,List.lookup_cons] at h
   rw[List.lookup_cons]
   cases hg:f== g with
   |true=>
    simp only[hg] at h
    cases h
    exact⟨v,rfl,r1⟩
   |false=>
    simp only[hg] at h
    exact nq (Ģ.of t) h
theorem rR.ins{c:Ctx}{F H:Hp}{σ:L2.St}{ρ:ŝ}{C:String}{ns:List Str}{ps:List PV}{v:V}(s:Same F H)(h:rR K c σ ρ F H (.ins C ns ps) v):∃a dx fs,v=.ref a/\H a=some (.ins (K.cm C) dx fs)/\fs.map (·.1)=ns/\Ģ K F ps (fs.map (·.2)):=by
 rcases h with h|h
 ·unfold Rep at h
  obtain⟨a,dx,fs,h1,h2,h3,h4⟩:=h
  exact⟨a,dx,fs,h1,s _ _ h2,h3,h4⟩
 ·exact h
def dJ(cs:List String)(f:Str):PV->Option PV
 | .ins C ns ps=>if cs.contains C=true then(ns.zip ps).lookup f else none
 |_=>none
def jt(cs:List String)(hcs:iZ (λC=>Cls X.K (cm C)/\Ņ X.K (cm C) f) cs)(he:PE X e (tR (kk X cm) E m))(hb:attributeBase e f X.env (eval e X.env)=eval e X.env:=by rfl):PE X (.Attribute e f pos) (tV (kk X cm) E (pD (dJ cs f) m)):=
 PE.wk (Za3 he hb) fun σ H Q ⟨c,F,ρ,rel,h⟩=>⟨c,F,ρ,rel,h.bind fun p ρ1 v F1 H1 ě _ _ r1 h1=>by
   cases p with
   |ins C ns ps=>
    unfold dJ at h1
    dsimp only at h1
    split at h1
    ·rename_i hc
     obtain⟨a,dx,fs,rfl,q2,q3,q4⟩:=r1.ins ě.sub
     cases el:(ns.zip ps).lookup f with
     |none=>rw[el] at h1;exact h1.elim
     |some q=>
      rw[el] at h1
      subst q3
      obtain⟨v,e1,e2⟩:=nq q4 el
      obtain⟨k1,k2⟩:=hcs.get hc
      exact⟨a,_,dx,fs,v,rfl,q2,k1,k2,e1,h1 v F1 H1 ě (Same.refl _) (Same.refl _) e2⟩
    ·exact h1.elim
   |_=>exact h1.elim⟩
def Mv(X:Cx)(cm:String->Addr)(CX:qj)(k n:Nat)(m:Str)(C:String)(mf:MF):Prop:=Cls X.K (cm C)/\∃f fd ps,Meth X.K (cm C) m f/\ī X.prog X.w X.K X.mg X.base CX k f fd ps (ż (kk X cm) n mf)/\Binds X.K fd ps []/\
 ∀{ps:List Slot},(∃r,mf ps=r/\∀z,r=z->z≠ .bad)->ps.length=n
def Mw(Q:String->MF->Prop):List (String×MF)->Prop
 | []=>True
 |(c,mf)::cs=>Q c mf/\Mw Q cs
theorem Mw.get{Q:String->MF->Prop}:∀{cs:List (String×MF)} {C:String} {mf:MF},Mw Q cs->cs.lookup C=some mf->Q C mf
 | [],_,_,_,h=>by simp at h
 |(c,g)::cs,C,mf,⟨h1,h2⟩,h=>by
  rw[List.lookup_cons] at h
  cases hc:C== c with
  |true=>
   rw[hc] at h
   cases h
   have:C=c:=by simpa using hc
   rw[this];exact h1
  |false=>
   rw[hc] at h
   exact h2.get h
def sO(m:Str)(jF:List (String×MF))(mo:M PV)(ms:M (List Slot)):M RV:=λρ=>(mo ρ).bind λp ρ1=>match p with
 | .ins C ns ps=>match jF.lookup C with
   |some mf=>if ns.contains m=true then .bad else(ms ρ1).bind λas ρ2=>match mf (.sh (.ins C ns ps)::as) with
    | .ret r=>.ok r ρ2
    | .exc x=>.exc x ρ2
    | .bad=>.bad
   |none=>.bad
 |_=>.bad
theorem pI{m:Str}:∀{fs:List (Str×V)},(fs.map (·.1)).contains m=false->fs.lookup m=none
 | [],_=>rfl
 |(g,v)::fs,h=>by
  rw[List.map_cons,List.contains_cons,Bool.or_eq_false_iff] at h
  rw[List.lookup_cons,h.1]
  exact pI h.2
variable{CX:qj}{k n:Nat}{Qw:Str}{jF:List (String×MF)}{ms:M (List Slot)}
def Mx{c:Ctx}{F H:Hp}{σ:L2.St}{ρ:ŝ}{Q:VK}(rel:Rel (kk X cm) c F H σ ρ)(h:cP (kk X cm) E (rO (kk X cm)) c F H σ Q (sO Qw jF m ms ρ))(Zbz:Mw (λC mf=>Mv X cm CX k n Qw C mf) jF) :
 cP (kk X cm) E (rV (kk X cm)) c F H σ (λx H1=>∃a C dx fs g fd ps mf,x=.ref a/\H1 a=some (.ins C dx fs)/\Cls X.K C/\Meth X.K C Qw g/\fs.lookup Qw=none/\ī X.prog X.w X.K X.mg X.base CX k g fd ps (ż (kk X cm) n mf)/\Binds X.K fd ps []/\
  tA (kk X cm) E ms σ H1 λvs H2=>ż (kk X cm) n mf (.ref a::vs) H2 Q (E σ)) (m ρ):=
 cP.bind h λp ρ1 v F1 H1 ě _ _ r1 h1=>by
  cases p with
  |ins C ns ps=>
   dsimp only at h1
   cases el:jF.lookup C with
   |none=>rw[el] at h1;exact h1.elim
   |some mf=>
    rw[el] at h1
    dsimp only at h1
    split at h1
    ·exact h1.elim
    ·rename_i hn
     obtain⟨k1,f,fd,qs,k2,k3,k4,k5⟩:=Zbz.get el
     have r1':Rep (kk X cm) F1 (.ins C ns ps) v:=r1
     have r2:=r1'
     unfold Rep at r2
     obtain⟨a,dx,fs,rfl,q2,q3,q4⟩:=r2
     refine⟨a,_,dx,fs,f,fd,qs,mf,rfl,ě.sub _ _ q2,k1,k2,pI (by rw[q3];simpa using hn),k3,k4,c,F1,ρ1,ě,cP.bind h1 λas ρ2 vs F2 H2 ŏ sF sH r3 h3=>?_⟩
     exact Ah (vs:=.ref a::vs) k5 ŏ (.cons (show fH _ _ _ (.sh _) _ from Rep.same sF _ _ r1') r3) h3
  |_=>exact h1.elim
def RN{pl:Sem Bool}(Zbz:Mw (λC mf=>Mv X cm CX k n Qw C mf) jF)(hr:aD k X.A)(hx:cV CX X E)(he:PE X o (tV (kk X cm) E m))
 (ht:eval (.Call (.Attribute o Qw apos) [] [] pos) X.env=(do
   let ov <-eval o X.env
   standAt apos.atName
   let (f,first) <-holding [ov] (getMethod ov Qw pl)
   callWith pos f first (backTo pos (starEach [] X.env)) (backToKw pos (keywordEach [] X.env))):=by rfl) :
 PE X (.Call (.Attribute o Qw apos) [] [] pos) (tO (kk X cm) E (sO Qw jF m č)):=by
 intro pins s σ H Q I ⟨c,F,ρ,rel,h⟩
 refine PySem.W.methodCall_KW (pl:=pl) (Ŭ (he pins s σ H _ I ⟨c,F,ρ,rel,Mx rel h Zbz⟩) λu s1 ⟨x,H1,I1,rx,a,C,dx,fs,g,fd,ps,mf,ex,ea,cl,k2,l,k3,k4,q⟩=>?_) ht
 subst ex
 obtain rfl:u=Value.ref a:=rx
 refine Cz I1 ea cl k2 l ?_
 obtain⟨c1,F1,ρ1,ě,q⟩:=q
 exact PySem.W.callWith_K0 (first:=[.ref a]) I1.iH k2.kp (Hj (us:=[.ref a]) (vs:=[.ref a]) k3 hr k4 hx I1 (.cons rfl .nil) (q [] F1 H1 ě (Same.refl _) (Same.refl _) .nil))
def putN(f:Str):List Str->List Str
 | []=>[f]
 |g::r=>if g=f then g::r else g::putN f r
def qP(f:Str)(p:PV):List Str->List PV->List PV
 | [],_=>[p]
 |g::r,q::qs=>if g=f then p::qs else q::qP f p r qs
 |_::_,[]=>[]
theorem xH{F:Hp}{p:PV}{y:V}(ry:Rep K F p y):∀{fs:List (Str×V)} {ps:List PV},Ģ K F ps (fs.map (·.2))->(cj f y fs).map (·.1)=putN f (fs.map (·.1))/\Ģ K F (qP f p (fs.map (·.1)) ps) ((cj f y fs).map (·.2))
 | [],ps,r=>⟨rfl,Ģ.cons ry Ģ.nil⟩
 |(g,v)::fs,ps,r=>by
  have r':=r.pr
  rw[List.map_cons] at r'
  cases r' with
  |cons r1 t=>
   rename_i q qs
   unfold cj
   rw[List.map_cons]
   unfold putN qP
   by_cases hg:g=f
   ·rw[if_pos hg,if_pos hg,if_pos hg]
    exact⟨rfl,Ģ.cons ry (Ģ.of t)⟩
   ·rw[if_neg hg,if_neg hg,if_neg hg]
    obtain⟨h1,h2⟩:=xH ry (Ģ.of t)
    exact⟨by rw[List.map_cons,h1],Ģ.cons r1 h2⟩
def mG(i:Nat)(cs:List String)(f:Str)(mv:M PV):M Fl:=λρ=>(mv ρ).bind λp ρ1=>match ρ1[i]? with
 |some (.rc C ns ps)=>if cs.contains C=true/\ns.length<1000 then .ok .nx (ρ1.set i (.rc C (putN f ns) (qP f p ns ps))) else .bad
 |_=>.bad
def cC{i:Nat}{x:Str}{px pos':Pos}(cs:List String)(hcs:iZ (λC=>Cls X.K (cm C)/\Ņ X.K (cm C) f) cs)(ho:PE X (.Name x px) (wF i))(he:PE X e (tV (kk X cm) E m))(hs:swapsWith e (some (.Attribute (.Name x px) f pos')) pos.line X.env=pure false:=by rfl) :
 PS X (.Assign [.Attribute (.Name x px) f pos'] e pos) (tS (kk X cm) E (mG i cs f m)):=PS.wk (Za4 ho he hs) λD σ H ⟨c,F,ρ,rel,h⟩=>⟨c,F,ρ,rel,ű.bind h λp ρ1 y F1 H1 ě s1 ry h1=>by
 cases e1:ρ1[i]? with
 |none=>rw[e1] at h1;exact h1.elim
 |some sl=>
  rw[e1] at h1
  cases sl with
  |rc C ns ps=>
   dsimp only at h1
   split at h1
   ·rename_i hc
    obtain⟨a,dx,fs,q1,q2,q3,q4,q5,q6,q7⟩:=ě.slot i _ e1
    subst q5
    obtain⟨k1,k2⟩:=hcs.get hc.1
    refine⟨.ref a,at_of q1,a,_,dx,fs,rfl,q2,k1,k2,by simpa using hc.2,?_⟩
    obtain⟨z1,z2⟩:=xH (f:=f) (p:=p) ry q6
    exact h1 σ F1 _ (ě.write ⟨_,_,e1,at_of q1,rfl⟩ (at_of q1) ⟨a,dx,_,rfl,Ī,q3,q4,z1,z2,q7⟩ λ_ z=>(V.ref.inj z).symm) (Same.refl _)
   ·exact h1.elim
  |_=>exact h1.elim⟩
inductive IR where
 |ok (ns:List Str) (ps:List PV)|exc (x:PX)|bad
abbrev MI:=List Slot->IR
def IR.of:Res Fl->IR
 | .ok .nx (.rc _ ns ps::_)=>.ok ns ps
 | .exc x _=>.exc x
 |_=>.bad
def fZ(n k:Nat)(C:String)(mb:M Fl):MI:=λas=>if as.length+1=n then IR.of (mb (.rc C [] []::startP (k-1) as)) else .bad
structure GrB(a:Addr)(F H F' H':Hp):Prop where
 h:∀b u,b≠a->H b=some u->H' b=some u
 f:Same F F'
 sub:Same F' H'
 out:∀b,b≠a->H b≠none->F b=none->F' b=none
def Zg6(K:KK)(E:XK)(F H:Hp)(Q:VK)(a dx:Addr)(C:String):IR->Prop
 | .ok ns ps=>∀F' H' fs,GrB a F H F' H'->H' a=some (.ins (K.cm C) dx fs)->F' a=none->fs.map (·.1)=ns->Ģ K F' ps (fs.map (·.2))->Q .non H'
 | .exc x=>∀C' d F' H',GrB a F H F' H'->Js K F' x C' d->E C' d H'
 | .bad=>False
def Qx(K:KK)(n:Nat)(C:String)(mi:MI):Sp:=λvs H Q E=>∃F a dx vs' as,vs=.ref a::vs'/\as.length+1=n/\H a=some (.ins (K.cm C) dx [])/\F a=none/\Same F H/\Paired (fH K F H) as vs'/\Zg6 K E F H Q a dx C (mi as)
def RP(a dx:Addr)(C:String)(F H:Hp):Ctx:=⟨λb=>if b=a then none else H b,F,λb=>if b=a then none else(ctx0 F H).L b,λa' dx' C'=>a'=a/\dx'=dx/\C'=C⟩
def Rel.gri{σ:L2.St}{ρ:ŝ}{a dx:Addr}{C:String}{F H F' H':Hp}(r:Rel K (RP a dx C F H) F' H' σ ρ):GrB a F H F' H':=
 ⟨λb u hb e=>r.base b u (by show(if b=a then none else H b)=_;rw[if_neg hb];exact e),r.f0,r.sub,λb hb h1 h2=>r.gD b (by show(if b=a then none else H b)≠none;rw[if_neg hb];exact h1) h2⟩
def Rel.ZbA{F H:Hp}{N:List Str}{as:List Slot}{vs:List V}{a dx:Addr}{C:String}(s:Same F H)(ha:H a=some (.ins (K.cm C) dx []))(hF:F a=none)(h:Paired (fH K F H) as vs) :
 Rel K (RP a dx C F H) F H (L2.start N (.ref a::vs)) (.rc C [] []::startP (N.length-1) as):=by
 have r0:=Rel.start (N:=N) (K:=K) s (as:=.sh (.int 0)::as) (vs:=.int 0::vs) (.cons (Rep.int (K:=K) (F:=F) (i:=0)) h)
 have est:L2.start N (.ref a::vs)=some (.ref a)::(L2.start N (.int 0::vs)).tail:=by unfold L2.start;simp
 have Zg7:(L2.start N (V.int 0::vs)).tail.length=(startP (N.length-1) as).length:=by
  unfold L2.start startP
  simp[Paired.length h]
  omega
 have tl:∀i:Nat,(L2.start N (.int 0::vs)).tail[i]?=(L2.start N (.int 0::vs))[i+1]?:= λi=>by simp
 have sp:∀i:Nat,(startP (N.length-1) as)[i]?=(startP N.length (.sh (.int 0)::as))[i+1]?:= λi=>by
  unfold startP
  simp only[List.cons_append,List.getElem?_cons_succ,List.length_cons]
  rw[show N.length-1-as.length=N.length-(as.length+1) by omega]
 have Ar:∀(i:Nat) (s':Slot),(startP (N.length-1) as)[i]?=some s'->s'.own=false:=λi s' e=>by
  unfold startP at e
  by_cases hi:i<as.length
  ·rw[List.getElem?_append_left hi] at e
   obtain⟨v,_,h3⟩:=cU h e
   exact(fH.slot h3).2
  ·rw[List.getElem?_append_right (by omega),List.getElem?_replicate] at e
   split at e
   ·cases e;rfl
   ·cases e
 rw[est]
 refine⟨s,λb u e=>?_,Same.refl _,λ_ _ z=>z,λb u e=>?_,λb e=>?_,?_,λi s' e=>?_,λi j b h1 h2=>?_⟩
 ·have e':(if b=a then none else H b)=some u:=e
  split at e'
  ·cases e'
  ·exact e'
 ·have e':(if b=a then none else(ctx0 F H).L b)=some u:=e
  split at e'
  ·cases e'
  ·exact gH e'
 ·show(if b=a then none else(ctx0 F H).L b)=none
  have e':(if b=a then none else H b)=none:=e
  split
  ·rfl
  ·rename_i hb
   rw[if_neg hb] at e'
   exact r0.lb b e'
 ·simp[Zg7]
 ·cases i with
  |zero=>
   cases e
   exact⟨a,dx,[],rfl,ha,hF,by show(if a=a then none else H a)=none;rw[if_pos rfl],rfl,Ģ.nil,rfl,rfl,rfl⟩
  |succ i=>
   have e':(startP (N.length-1) as)[i]?=some s':=by simpa using e
   have q:=r0.slot (i+1) s' (by rw[<-sp];exact e')
   rw[<-tl] at q
   show bF K (RP a dx C F H) F H (((some (V.ref a)::(L2.start N (.int 0::vs)).tail)[i+1]?).getD none) s'
   rw[List.getElem?_cons_succ]
   cases s' with
   |no=>trivial
   |sh p=>exact q
   |bw ps=>
    obtain⟨b,ws,q1,q2,q3⟩:=q
    refine⟨b,ws,q1,?_,q3⟩
    show(if b=a then none else(ctx0 F H).L b)=_
    rw[if_neg (λz=>by
     have:=(gH q2).1
     rw[z,ha] at this
     cases this)]
    exact q2
   |ow ps=>have:=Ar i _ e';cases this
   |rc C ns ps=>have:=Ar i _ e';cases this
   |ot ps qs=>have:=Ar i _ e';cases this
   |ol GR=>have:=Ar i _ e';cases this
 ·have at0:∀{i},ť F (some (.ref a)::(L2.start N (.int 0::vs)).tail) (Slot.rc C [] []::startP (N.length-1) as) i b→i=0:=fun{i} ⟨s',y,q1,_,q2⟩=>by
   have q2:=jN q2
   cases i with
   |zero=>rfl
   |succ i=>
    have:=Ar i s' (by simpa using q1)
    rw[this] at q2
    cases q2
  rw[at0 h1,at0 h2]
end
section
variable{P:Program}{w:World}{K:PySem.W.Frag}{cm:String->Addr}{mg:Str->Option Value}{base:Heap}{CX:qj}
def fnI{x qual:Str}{st:Stmt}{f:Addr}{fd:FuncData}{N ps:List Str}{k n j:Nat}{C:String}{mb:M Fl}{mi:MI}(F:Kz K x qual st f fd)(S:Ė N ps (ć st))(hn:ps.length=n)(hj:N.length=j)(hf:mi=fZ n j C mb)
 (hbody:∀(cdv:Value) (A:Around) (outer:List Env) (s:Shared) (H:Hp) (E:XK),aD k (A.deeper (envOfC qual (ć st) s.heap.objs.size f cdv))→
   lW (cQ CX P w K mg base N qual (ć st) f cdv A outer s H E) (Ŗ st) (tS ⟨K,cm⟩ (λ_=>E) mb)):ī P w K mg base CX (k+1) f fd ps (Qx ⟨K,cm⟩ n C mi):=by
 subst hn hj hf
 obtain⟨oc,od,kV,doc,pm,an,cdv,ct,osl,rfl,lk,hcd⟩:=F.ex
 refine zX lk hcd S (λvs H Q E ⟨F,a,dx,vs',as,h1,h2,_,_,_,h3,_⟩=>by rw[h1,List.length_cons,<-Paired.length h3];exact h2) λA outer s H vs Q E hr hsp=>?_
 obtain⟨F,a,dx,vs',as,rfl,h2,h3,h4,h5,h6,h7⟩:=hsp
 refine⟨_,hbody cdv A outer s H E hr,RP a dx C F H,F,_,Rel.ZbA h5 h3 h4 h6,?_⟩
 unfold fZ at h7
 rw[if_pos h2] at h7
 cases e:mb (.rc C [] []::startP (N.length-1) as) with
 |bad=>rw[e] at h7;exact h7
 |exc x ρ'=>rw[e] at h7;exact λσ' C' d F' H' rel s1 q=>h7 C' d F' H' rel.gri q
 |ok fl ρ'=>
  rw[e] at h7
  cases fl with
  |nx=>
   cases ρ' with
   |nil=>exact h7.elim
   |cons sl ρ'=>
    cases sl with
    |rc C' ns qs=>
     intro σ' F' H' rel s1
     obtain⟨b,dy,fs,q1,q2,q3,q4,q5,q6,rfl,rfl,rfl⟩:=rel.slot 0 _ rfl
     exact h7 F' H' fs rel.gri q2 q3 q5 q6
    |_=>exact h7.elim
  |bk=>exact h7.elim
  |ct=>exact h7.elim
  |rt r=>exact h7.elim
end
def dW(C:String)(mi:MI)(ms:M (List Slot)):M PV:=λρ=>(ms ρ).bind λas ρ1=>match mi as with
 | .ok ns ps=>.ok (.ins C ns ps) ρ1
 | .exc x=>.exc x ρ1
 | .bad=>.bad
section
variable{X:Cx}{cm:String->Addr}{E:L2.St->XK}{e:Expr}{es:List Expr}{pos p:Pos}{CX:qj}{k n:Nat}{f:Addr}{fd:FuncData}{ps:List Str}{C:String}{mi:MI}{ms:M (List Slot)}{x:Str}
def Mz{c:Ctx}{F1 H1:Hp}{σ:L2.St}{ρ1:ŝ}{Q:VK}{as:List Slot}{vs:List V}(hlen:(∃r,mi as=r/\∀z,r=z->z≠ .bad)->as.length+1=n)(ě:Rel (kk X cm) c F1 H1 σ ρ1)(r1:Paired (fH (kk X cm) F1 H1) as vs)
 (h:cP (kk X cm) E (rV (kk X cm)) c F1 H1 σ Q (match mi as with| .ok ns ps=>.ok (.ins C ns ps) ρ1| .exc x=>.exc x ρ1| .bad=>.bad)) :
 ∀x dx,H1 x=none->H1 dx=none->dx≠x->Qx (kk X cm) n C mi (.ref x::vs) (upd (upd H1 dx (.own x)) x (.ins (cm C) dx [])) (λv H2=>v=.non/\Q (.ref x) H2) (E σ):=by
 intro x dx hx hdx hne
 have up:∀b u,H1 b=some u->upd (upd H1 dx (.own x)) x (.ins (cm C) dx []) b=some u:=λb u e=>by
  rw[Ę (Ġ e hx),Ę (Ġ e hdx)];exact e
 have RQ:∀{F' H':Hp},GrB x F1 (upd (upd H1 dx (.own x)) x (.ins (cm C) dx [])) F' H'->Gr F1 H1 F' H':=fun{F' H'} g=>
  ⟨fun b u e=>g.h b u (Ġ e hx) (up b u e),g.f,g.sub,fun b hb hf=>by
    obtain⟨u,hu⟩:∃u,H1 b=some u:=by
     cases q:H1 b with
     |none=>exact absurd q hb
     |some u=>exact⟨u,rfl⟩
    exact g.out b (Ġ hu hx) (by rw[up b u hu];intro z;cases z) hf⟩
 refine⟨F1,x,dx,vs,as,rfl,?_,Ī,ě.sub.free hx,λb u e=>up b u (ě.sub b u e),?_,?_⟩
 ·refine hlen ⟨_,rfl,λz hz hb=>?_⟩
  rw[hz,hb] at h
  exact h
 ·refine Paired.mono (λs v hs=>?_) r1
  cases s with
  |sh p=>exact hs
  |bw qs=>
   obtain⟨b,ws,q1,q2,q3,q4⟩:=hs
   exact⟨b,ws,q1,up b _ q2,q3,q4⟩
  |_=>exact hs.elim
 ·cases em:mi as with
  |bad=>rw[em] at h;exact h
  |exc y=>rw[em] at h;exact λC' d F' H' g rx=>h C' d F' H' (ě.call (RQ g)) g.f rx
  |ok ns qs=>
   rw[em] at h
   intro F' H' fs g hx' hF' hn hr
   have r2:=ě.call (RQ g)
   have r3:=r2.freeze hx' (ě.base.free hx) hF' (ě.wQ (RQ g).f (ě.fresh hx))
   refine⟨rfl,h _ _ H' r3 (g.f.trans (Same.upd hF')) (RQ g).h ?_⟩
   show Rep _ _ _ _
   unfold Rep
   exact⟨x,dx,fs,rfl,Ī,hn,Ģ.same (Same.upd hF') qs _ hr⟩
def Jv{pins:List (Addr×Obj)}{σ:L2.St}{H:Hp}{s:Shared}{Q:VK}{us:List Value}{vs:List V}{sp:Sp}{C:Addr}(M:Mk X.K C f)(F:ī X.prog X.w X.K X.mg X.base CX k f fd ps sp)(hr:aD (k+1) X.A)(hb:Binds X.K fd ps [])
 (hx:cV CX X E)(I:Inv X pins σ H s)(r:Vals vs us)
 (h:∀x dx,H x=none->H dx=none->dx≠x->sp (.ref x::vs) (upd (upd H dx (.own x)) x (.ins C dx [])) (λv H2=>v=.non/\Q (.ref x) H2) (E σ)) :
 wpAny (model X.prog X.w) X.A (call (.ref C) us) (EP X pins σ Q) X.xe s:=by
 have hq:=h (s.heap.objs.size+1) s.heap.objs.size (I.hok.fresh (Nat.le_succ _)) (I.hok.fresh (Nat.le_refl _)) (Nat.ne_of_lt (Nat.lt_succ_self _))
 have I2:=Inv.made (C:=C) I
 have r2:Vals (V.ref (s.heap.objs.size+1)::vs) (Value.ref (s.heap.objs.size+1)::us):=.cons rfl r
 have hl:(Value.ref (s.heap.objs.size+1)::us ++ []).length=ps.length:=by
  have e:=r2.length
  rw[F.len _ _ _ _ hq] at e
  rw[List.append_nil]
  exact e.symm
 have hbd:=hb {s with heap:=(s.heap.push PySem.W.emptyDict).push (PySem.W.instObj C s.heap.objs.size)} (Value.ref (s.heap.objs.size+1)::us) I2.iH hl
 rw[List.append_nil] at hbd
 refine wpAny_call (Ks (f:=f) I.iH M.makes M.init (beq_iff_eq.mp M.fn) (codeAny_mono (F.run _ X.stack _ _ ⟨Value.ref (s.heap.objs.size+1)::us,[]⟩ _ _ _ (E σ) (hr.make C us []) (I2.env0.make C us []) hbd r2 hq) λr s' hq'=>?_))
 cases r with
 |error e=>exact hx pins σ _ _ e s' I2 hq'
 |ok fl=>
  cases fl with
  |ret u=>
   obtain⟨v,H',I3,rv,ev,q3⟩:=I2.after hq'
   subst ev
   exact⟨rv,⟨V.ref (s.heap.objs.size+1),H',I3,rfl,q3⟩⟩
  |next=>exact False.elim hq'
  |brk=>exact False.elim hq'
  |cont=>exact False.elim hq'
def fu{n k:Nat}{C:String}{mb:M Fl}{as:List Slot}(h:∃r,fZ n k C mb as=r/\∀z,r=z->z≠ .bad):as.length+1=n:=by
 obtain⟨r,h1,h2⟩:=h
 unfold fZ at h1
 by_cases hl:as.length+1=n
 ·exact hl
 ·rw[if_neg hl] at h1
  exact absurd h1.symm (λz=>h2 .bad (by rw[<-h1]) rfl)
def pJ(M:Mk X.K (cm C) f)(F:ī X.prog X.w X.K X.mg X.base CX k f fd ps (Qx (kk X cm) n C mi))(hlen:∀{as:List Slot},(∃r,mi as=r/\∀z,r=z->z≠ .bad)->as.length+1=n)(hr:aD (k+1) X.A)(hg:Gl X x)(hm:X.mg x=some (.ref (cm C)))(hb:Binds X.K fd ps [])(hx:cV CX X E)
 (ha:PA X (e::es) (tA (kk X cm) E ms))(hdb:(x== ("__debug__" :Str))=false:=by decide)(he:starEach (e::es) X.env=(false,eval e X.env)::starEach es X.env:=by exact Ĵ rfl)(hpl:(backTo pos (starEach es X.env)).any (·.1)=false:=by rfl) :
 PE X (.Call (.Name x p) (e::es) [] pos) (tV (kk X cm) E (dW C mi ms)):=by
 intro pins s σ H Q I ⟨c,F',ρ,rel,h⟩
 refine wpAny_Call_Name_kw (lB I hg hm ?_ hdb)
 refine PySem.W.callWith_K (h₀:= X.base) I.ok.mod.kin M.kp (Ŭ (ha pos pins s σ H (λvs H1=>∀x dx,H1 x=none->H1 dx=none->dx≠x->Qx (kk X cm) n C mi (.ref x::vs) (upd (upd H1 dx (.own x)) x (.ins (cm C) dx [])) (λv H2=>v=.non/\Q (.ref x) H2) (E σ)) I
  ⟨c,F',ρ,rel,cP.bind h λas ρ1 vs F1 H1 ě _ _ r1 h1=>Mz hlen ě r1 h1⟩) λus s1 ⟨vs,H1,I1,r,q⟩=>⟨I1.iH,?_⟩) he hpl
 exact Jv M F hr hb hx I1 r q
end
end P
namespace P
open PySem PySem.Spec PyProof.Rows L2 M2 M3 M4
def Uq(B:Heap)(e:Addr)(C:Value)(d:Option Addr)(fl:Value)(h:Heap):Prop:=
 ∃oe vs T oT ts,h.get? e=some oe/\(oe.cls=C/\oe.dict=d)/\oe.data=.fields vs/\vs[1]?=some (.ref T)/\B.get? T=none/\T≠e/\h.get? T=some oT/\oT.data=.fields ts/\ts[3]?=some fl
structure Moved(h h':Heap):Prop where
 up:h.UpToSlots h'
 there:∀b o,h.get? b=some o->∃o',h'.get? b=some o'
theorem Moved.trans{h h1 h2:Heap}(a:Moved h h1)(b:Moved h1 h2):Moved h h2:=⟨a.up.trans b.up,λc o e=>let ⟨o1,e1⟩:=a.there c o e;b.there c o1 e1⟩
def Jw(o:Obj)(f:Array Value->Array Value):(o.mapFields f).dict=o.dict:=by
 obtain⟨c,d,dt,sl⟩:=o
 cases dt<;>rfl
section
variable{M:Model}{A:Around}{E:Value->Shared->Prop}{s:Shared}{B:Heap}{env:Env}{outer:List Env}{L e:Addr}{Q:Unit->Shared->Prop}
def Zd7{oe:Obj}{vs:Array Value}{head:Value}{nxt:Bool}(hfr:A.frames=some (env::outer))(hl:s.heap.FunFrames B (env::outer))(hf:env.frame=some L)
 (he:s.heap.get? e=some oe)(hkb:B.StaysIn s.heap)(hen:B.get? e=none)(hd:oe.data=.fields vs)(hsz:1<vs.size)
 (k:∀h',B.StaysIn h'->h'.FunFrames B (env::outer)->Uq B e oe.cls oe.dict (rawInt L) h'->Moved s.heap h'->Q () {s with heap:=h'}) :
 wpAny M A (do
  let a <-frameOf env
  let pl <-entryPlaceOf L nxt
  let b <-EntryCells.newEntry head a .none (rawInt L) .none pl
  setField (.ref e) 1 b) Q E s:=by
 have out:e∉(env::outer).filterMap (·.frame):=λz=>by
  obtain⟨_,o,ho,hn⟩:=hl.mem z
  rw[he] at ho
  cases ho
  exact hn vs hd
 refine wpAny_bind (wpAny_frameOf_fun hfr hl hf λg1 so=>?_)
 refine wpAny_bind (wpAny_entryPlaceOf λpl hpl=>?_)
 unfold EntryCells.newEntry newFields
 refine wpAny_bind (wpAny_newObj_type ?_ (hpl.sizeOk5 _ _ _ _ _))
 have e1:g1.get? e=some oe:=(so.2.1 e out).trans he
 have b1:B.StaysIn g1:=λb o q=>(so.2.1 b λz=>by
  rw[(hl.mem z).1] at q
  cases q).trans (hkb b o q)
 generalize hnw:([head,Value.ref L,.none,rawInt L,.none]++(if pl.isEmpty then List.replicate 6 Value.none else pl))=nw
 have n3:nw.toArray[3]?=some (rawInt L):=by rw[<-hnw];simp
 dsimp only
 have e2:=Heap.get?_push_of_some (h:=g1) {cls:=.type "traceback",dict:=none,data:=.fields nw.toArray} e1
 refine wpAny_setField e2 hd hsz ?_
 have ne:g1.objs.size≠e:=Nat.ne_of_gt (Heap.lt_size e1)
 have d3:=Obj.data_mapFields hd (·.setIfInBounds 1 (Value.ref g1.objs.size))
 have e3:=Heap.get?_update_self (Obj.mapFields (·.setIfInBounds 1 (Value.ref g1.objs.size))) e2 (Obj.isFreed_of_fields d3)
 have kp:∀b o,b≠e->g1.get? b=some o->((g1.push {cls:=.type "traceback",dict:=none,data:=.fields nw.toArray}).update e (Obj.mapFields (·.setIfInBounds 1 (Value.ref g1.objs.size)))).get? b=some o:=λb o hb q=>by
  rw[Heap.get?_update_other _ _ (Ne.symm hb)]
  exact Heap.get?_push_of_some _ q
 have t3:((g1.push {cls:=.type "traceback",dict:=none,data:=.fields nw.toArray}).update e (Obj.mapFields (·.setIfInBounds 1 (Value.ref g1.objs.size)))).get? g1.objs.size=some {cls:=.type "traceback",dict:=none,data:=.fields nw.toArray}:=by
  rw[Heap.get?_update_other _ _ (Ne.symm ne)]
  exact Heap.get?_push_size g1 rfl
 have nr:∀b o,s.heap.get? b=some o->(∀ws,o.data≠ .fields ws)->b≠e:=λb o q hn z=>by
  rw[z,he] at q
  cases q
  exact hn vs hd
 refine k _ (λb o q=>kp b o (λz=>by rw[z,hen] at q;cases q) (b1 b o q)) (hl.of_keeps λb o q hn=>?_) ?_ ⟨λb o q hn=>?_,λb o q=>?_⟩
 ·obtain⟨sl,z⟩:=so.2.2 b o q
  exact⟨_,kp b _ (nr b o q hn) z,rfl⟩
 ·exact⟨_,_,g1.objs.size,_,_,e3,⟨Obj.cls_mapFields _ _,Jw _ _⟩,d3,by simp[hsz],b1.fresh,ne,t3,rfl,n3⟩
 ·obtain⟨sl,z⟩:=so.2.2 b o q
  exact⟨sl,kp b _ (nr b o q hn) z⟩
 ·obtain⟨sl,z⟩:=so.2.2 b o q
  by_cases hb:b=e
  ·rw[hb];exact⟨_,e3⟩
  ·exact⟨_,kp b _ hb z⟩
def RT{oe:Obj}{vs:Array Value}(hfr:A.frames=some (env::outer))(hl:s.heap.FunFrames B (env::outer))(hf:env.frame=some L)(he:s.heap.get? e=some oe)(hkb:B.StaysIn s.heap)(hen:B.get? e=none)
 (hd:oe.data=.fields vs)(h1:vs[1]?=some .none)(k:∀h',B.StaysIn h'->h'.FunFrames B (env::outer)->Uq B e oe.cls oe.dict (rawInt L) h'->Moved s.heap h'->Q () {s with heap:=h'}) :
 wpAny M A (noteFrame (.ref e) env) Q E s:=by
 unfold noteFrame
 simp only[hf]
 refine wpAny_bind (wpAny_field he hd h1 ?_)
 rw[if_neg (by decide)]
 exact Zd7 hfr hl hf he hkb hen hd (Array.getElem?_eq_some_iff.mp h1).1 k
def MJ{C:Value}{d:Option Addr}(hfr:A.frames=some (env::outer))(hl:s.heap.FunFrames B (env::outer))(hf:env.frame=some L)(ht:Uq B e C d .none s.heap)(hkb:B.StaysIn s.heap)(hen:B.get? e=none)
 (k:∀h',B.StaysIn h'->h'.FunFrames B (env::outer)->Uq B e C d (rawInt L) h'->Moved s.heap h'->Q () {s with heap:=h'}):wpAny M A (noteFrame (.ref e) env) Q E s:=by
 obtain⟨oe,vs,T,oT,ts,he,⟨rfl,rfl⟩,hd,h1,hT,hTe,hT2,hdT,h3⟩:=ht
 unfold noteFrame
 simp only[hf]
 refine wpAny_bind (wpAny_field he hd h1 ?_)
 rw[if_pos (show(Value.ref T != Value.none)=true by simp)]
 refine wpAny_bind (wpAny_field hT2 hdT h3 ?_)
 rw[if_neg (show ¬((Value.none== rawInt L)=true) by simp[rawInt])]
 refine wpAny_bind (wpAny_setField hT2 hdT (Array.getElem?_eq_some_iff.mp h3).1 ?_)
 have oth:∀b,b≠T->(s.heap.update T (Obj.mapFields (·.setIfInBounds 3 Value.none))).get? b=s.heap.get? b:=λb hb=>Heap.get?_update_other _ _ (Ne.symm hb)
 have nr:∀b o,s.heap.get? b=some o->(∀ws,o.data≠ .fields ws)->b≠T:=λb o q hn z=>by
  rw[z,hT2] at q
  cases q
  exact hn ts hdT
 refine Zd7 hfr (hl.of_keeps λb o q hn=>⟨o,(oth b (nr b o q hn)).trans q,rfl⟩) hf ((oth e (Ne.symm hTe)).trans he) (λb o q=>(oth b λz=>by rw[z,hT] at q;cases q).trans (hkb b o q)) hen hd (Array.getElem?_eq_some_iff.mp h1).1
  λh' x1 x2 x3 x4=>k h' x1 x2 x3 (Moved.trans ⟨λb o q hn=>⟨o.slots,(oth b (nr b o q hn)).trans q⟩,λb o q=>?_⟩ x4)
 by_cases hb:b=T
 ·rw[hb];exact⟨_,Heap.get?_update_self _ hT2 (Obj.isFreed_of_fields (Obj.data_mapFields hdT _))⟩
 ·exact⟨o,(oth b hb).trans q⟩
def rD{C fl:Value}{d:Option Addr}{l:List Env}(hkb:B.StaysIn s.heap)(hl:s.heap.FunFrames B l)(ht:Uq B e C d fl s.heap)
 (k:∀h',B.StaysIn h'->h'.FunFrames B l->Uq B e C d .none h'->Moved s.heap h'->Q () {s with heap:=h'}):wpAny M A (setFlight (.ref e) none) Q E s:=by
 obtain⟨oe,vs,T,oT,ts,he,hc,hd,h1,hT,hTe,hT2,hdT,h3⟩:=ht
 have z3:3<ts.size:=(Array.getElem?_eq_some_iff.mp h3).1
 have oth:∀b,b≠T->(s.heap.update T (Obj.mapFields (·.setIfInBounds 3 ((none:Option Addr).elim Value.none λf=>rawInt f)))).get? b=s.heap.get? b:=λb hb=>Heap.get?_update_other _ _ (Ne.symm hb)
 have nr:∀b o,s.heap.get? b=some o->(∀ws,o.data≠ .fields ws)->b≠T:=λb o q hn z=>by
  rw[z,hT2] at q
  cases q
  exact hn ts hdT
 unfold setFlight
 refine wpAny_bind (wpAny_field he hd h1 ?_)
 rw[if_pos (show(Value.ref T != Value.none)=true by simp)]
 refine wpAny_setField hT2 hdT z3 (k _ (λb o q=>(oth b λz=>by rw[z,hT] at q;cases q).trans (hkb b o q)) (hl.of_keeps λb o q hn=>⟨o,(oth b (nr b o q hn)).trans q,rfl⟩) ?_ ⟨λb o q hn=>⟨o.slots,(oth b (nr b o q hn)).trans q⟩,λb o q=>?_⟩)
 rotate_left
 ·by_cases hb:b=T
  ·rw[hb];exact⟨_,Heap.get?_update_self _ hT2 (Obj.isFreed_of_fields (Obj.data_mapFields hdT _))⟩
  ·exact⟨o,(oth b hb).trans q⟩
 exact⟨oe,vs,T,_,_,(oth e (Ne.symm hTe)).trans he,hc,hd,h1,hT,hTe,Heap.get?_update_self _ hT2 (Obj.isFreed_of_fields (Obj.data_mapFields hdT _)),Obj.data_mapFields hdT _,by simp[z3]⟩
end
def sS{P:Program}{w:World}{H:Hp}{h:Heap}{a:Addr}{o:HO}(x:Ź P w H h a o):∃ob,h.get? a=some ob:=by
 cases o with
 |lst xs=>obtain⟨_,_,_,_,e⟩:=x;exact⟨_,e⟩
 |tup xs=>obtain⟨_,_,_,ob,e,_⟩:=x;exact⟨_,e⟩
 |dK kvs=>obtain⟨_,_,_,_,ob,_,_,e,_⟩:=x;exact⟨_,e⟩
 |dT kvs=>obtain⟨_,_,_,_,ob,_,_,e,_⟩:=x;exact⟨_,e⟩
 |set S n=>obtain⟨ob,_,_,_,e,_⟩:=x;exact⟨_,e⟩
 |ins C dx fs=>obtain⟨_,_,_,e,_⟩:=x;exact⟨_,e⟩
 |own y=>exact x
 |xd fs=>obtain⟨_,⟨ob,_,_,e,_⟩,_⟩:=x;exact⟨_,e⟩
 |rng lo hi=>obtain⟨_,_,_,e⟩:=x;exact⟨_,e⟩
 |gD ob u=>obtain⟨e,_⟩:=x;exact⟨_,e⟩
 |jF q=>obtain⟨_,e,_⟩:=x;exact⟨_,e⟩
 |Gn q=>obtain⟨c,o,_,_,z,e,_⟩:=x;cases z;exact⟨_,e⟩
 |met f y=>exact⟨_,(show h.get? a=some _ from x)⟩
 |ext φ=>obtain⟨_,e,_⟩:=x;exact e
def gK.sub{P:Program}{w:World}{H:Hp}{h B:Heap}(x:gK P w H h)(k:∀b o u,H b=some u->h.get? b=some o->B.get? b=some o):gK P w H B:=λa o e=>
 (x a o e).stay (fun b u hb q=>by
   rcases hb with rfl|hb
   ·exact k _ _ _ e q
   ·exact k _ _ _ hb q) (λ_ q=>q) λ_ _ q=>q
structure UnX(fs:List Addr)(H H':Hp)(h B h':Heap):Prop where
 keep:∀b o,h.get? b=some o->H b=none->b∉fs->B.get? b=some o
 slot:∀b o,h.get? b=some o->H b=none->b∈fs->∃sl,h'.get? b=some {o with slots:=sl}
 free:∀b o,h.get? b=some o->H b=none->H' b=none
 there:∀b o,h.get? b=some o->∃o',h'.get? b=some o'
 tups:∀b xs,H b=some (.tup xs)->H' b=some (.tup xs)
 iG:∀b o u,H b=some (.gD o u)->H' b=some (.gD o u)
 gF:∀b q,H b=some (.jF q)->H' b=some (.jF q)
def UnX.un{fs:List Addr}{H H':Hp}{h B h':Heap}(u:UnX fs H H' h B h')(k:B.StaysIn h'):Un fs [] H H' h h':=
 ⟨λb o e n hb _=>k b o (u.keep b o e n hb),λb o e n hb _=>u.slot b o e n hb,λb o e n _=>u.free b o e n,λb o e _=>u.there b o e,u.tups,u.iG,u.gF⟩
structure Lies(P:Program)(w:World)(outer:List Env)(H:Hp)(s:Shared)(ea:Addr)(C:Value)(d:Option Addr)(fl:Value)(H':Hp)(B:Heap)(s':Shared):Prop where
 os:s'.os=s.os
 bare:AllBare s'.gens
 st:B.StaysIn s'.heap
 en:B.get? ea=none
 fr:s'.heap.FunFrames B outer
 tr:Uq B ea C d fl s'.heap
 hok:gK P w H' B
 un:UnX (frs outer) H H' s.heap B s'.heap
 no:H' ea=none
 new:s.heap.get? ea=none
def Lies.move{P:Program}{w:World}{outer:List Env}{H:Hp}{s s':Shared}{ea:Addr}{C fl fl':Value}{d:Option Addr}{H':Hp}{B h':Heap}(l:Lies P w outer H s ea C d fl H' B s')(st:B.StaysIn h')(fr:h'.FunFrames B outer)(tr:Uq B ea C d fl' h')(mv:Moved s'.heap h') :
 Lies P w outer H s ea C d fl' H' B {s' with heap:=h'}:=
 ⟨l.os,l.bare,st,l.en,fr,tr,l.hok,⟨l.un.keep,fun b o q n hb=>by
   obtain⟨sl,q2⟩:=l.un.slot b o q n hb
   obtain⟨_,o',q3,hn⟩:=l.fr.mem hb
   rw[q2] at q3
   cases q3
   obtain⟨sl3,q3⟩:=mv.up b _ q2 hn
   exact⟨sl3,q3⟩,l.un.free,λb o q=>by
   obtain⟨o2,q2⟩:=l.un.there b o q
   exact mv.there b o2 q2,l.un.tups,l.un.iG,l.un.gF⟩,l.no,l.new⟩
def Ů(P:Program)(w:World):qj:=λouter H s E e s'=>∃ea C d H' B,e=.ref ea/\Lies P w outer H s ea C d .none H' B s'/\E C d H'
def vD{P:Program}{w:World}{outer:List Env}{H:Hp}{s s':Shared}{e:Value}(h:Ů P w outer H s (λ_ _ _=>False) e s'):False:=by
 obtain⟨_,_,_,_,_,_,_,h⟩:=h
 exact h
def ů{P:Program}{w:World}{X:Cx}:cV (Ů P w) X EF:=λ_ _ _ _ _ _ _ h=>(vD h).elim
section
variable{P:Program}{w:World}{K:PySem.W.Frag}{mg:Str->Option Value}{base:Heap}{N:List Str}{qual:Str}{scope:Scope}{f:Addr}{cdv:Value}{A:Around}{outer:List Env}{s₀:Shared}{H₀:Hp}{E:XK}
def Ĥ:cV (Ů P w) (cQ (Ů P w) P w K mg base N qual scope f cdv A outer s₀ H₀ E) (λ_=>E):=by
 intro pins σ H s e s' I h
 obtain⟨ea,C,d,H',B,rfl,l,hE⟩:=h
 have hfr:(A.deeper (envOfC qual scope s₀.heap.objs.size f cdv)).frames=some (envOfC qual scope s₀.heap.objs.size f cdv::outer):=I.ok.frames
 show wpAny _ _ (leaving _ _) _ _ s'
 unfold leaving
 refine wpAny_bind (MJ hfr l.fr rfl l.tr l.st l.en λh1 x1 x2 x3 x4=>?_)
 refine rD (s:={s' with heap:=h1}) x1 x2 x3 λh2 y1 y2 y3 y4=>?_
 obtain⟨_,_,y2'⟩:=y2
 have mv:=x4.trans y4
 have Qt:∀b o,s₀.heap.get? b=some o->b∉frs outer->b∉frs (envOfC qual scope s₀.heap.objs.size f cdv::outer):=λb o q hb z=>by
  rcases List.mem_cons.mp (show b∈s₀.heap.objs.size::frs outer from z) with z|z
  ·exact absurd (Heap.lt_size q) (by rw[z];exact Nat.lt_irrefl _)
  ·exact hb z
 have inL:∀b,b∈frs outer->b∈frs (envOfC qual scope s₀.heap.objs.size f cdv::outer):=λb z=>List.mem_cons_of_mem _ z
 refine⟨ea,C,d,H',B,rfl,⟨l.os.trans I.os,l.bare,y1,l.en,y2',y3,l.hok,⟨λb o q n hb=>?_,λb o q n hb=>?_,λb o q n=>?_,λb o q=>?_,λb xs q=>l.un.tups b xs (I.base.tups b xs q),λb o u q=>l.un.iG b o u (I.base.iG b o u q),λb ps q=>?_⟩,l.no,?_⟩,hE⟩
 ·exact l.un.keep b o (I.base.keep b o q n hb (by simp[cQ])) (I.base.free b o q n (by simp[cQ])) (Qt b o q hb)
 ·obtain⟨sl,q1⟩:=I.base.slot b o q n hb (by simp[cQ])
  obtain⟨sl2,q2⟩:=l.un.slot b _ q1 (I.base.free b o q n (by simp[cQ])) (inL b hb)
  have nf:∀vs,o.data≠ .fields vs:=by
   obtain⟨_,o',q3,hn⟩:=l.fr.mem (inL b hb)
   rw[q2] at q3
   cases q3
   exact hn
  obtain⟨sl3,q3⟩:=mv.up b _ q2 nf
  exact⟨sl3,q3⟩
 ·obtain⟨o1,q1⟩:=I.base.there b o q (by simp[cQ])
  exact l.un.free b o1 q1 (I.base.free b o q n (by simp[cQ]))
 ·obtain⟨o1,q1⟩:=I.base.there b o q (by simp[cQ])
  obtain⟨o2,q2⟩:=l.un.there b o1 q1
  exact mv.there b o2 q2
 ·exact l.un.gF b ps (I.base.gF b ps q)
 ·cases q:s₀.heap.get? ea with
  |none=>rfl
  |some o=>
   obtain⟨o1,q1⟩:=I.base.there ea o q (by simp[cQ])
   rw[l.new] at q1
   cases q1
def ZbB{pins:List (Addr×Obj)}{σ:L2.St}{H:Hp}{s:Shared}{e:Addr}{oe:Obj}{vs:Array Value}(I:Inv (cQ (Ů P w) P w K mg base N qual scope f cdv A outer s₀ H₀ E) pins σ H s)
 (he:s.heap.get? e=some oe)(hd:oe.data=.fields vs)(h1:vs[1]?=some .none)(hn:H e=none)(hnew:s₀.heap.get? e=none)(hE:E oe.cls oe.dict H) :
 (cQ (Ů P w) P w K mg base N qual scope f cdv A outer s₀ H₀ E).xe (.ref e) s:=by
 have hfr:(A.deeper (envOfC qual scope s₀.heap.objs.size f cdv)).frames=some (envOfC qual scope s₀.heap.objs.size f cdv::outer):=I.ok.frames
 have st:s.heap.FunFrames base (envOfC qual scope s₀.heap.objs.size f cdv::outer):=I.stack
 have nof:e∉frs (envOfC qual scope s₀.heap.objs.size f cdv::outer):=λz=>by
  obtain⟨_,o,q,hn⟩:=st.mem z
  rw[he] at q
  cases q
  exact hn vs hd
 have hin:∀env∈(envOfC qual scope s₀.heap.objs.size f cdv::outer),∀a,env.frame=some a->a∈e::frs (envOfC qual scope s₀.heap.objs.size f cdv::outer):=λenv h1 a h2=>List.mem_cons_of_mem _ (List.mem_filterMap.mpr ⟨env,h1,h2⟩)
 have hl:s.heap.FunFrames (PySem.W.hideAll s.heap (e::frs (envOfC qual scope s₀.heap.objs.size f cdv::outer))) (envOfC qual scope s₀.heap.objs.size f cdv::outer):=PySem.W.funFrames_hide st hin
 have hB:∀b o,s.heap.get? b=some o->b≠e->b∉frs (envOfC qual scope s₀.heap.objs.size f cdv::outer)->(PySem.W.hideAll s.heap (e::frs (envOfC qual scope s₀.heap.objs.size f cdv::outer))).get? b=some o:=λb o q h1 h2=>
  PySem.W.hideAll_get _ q λz=>(List.mem_cons.mp z).elim h1 h2
 have Qt:∀b o,s₀.heap.get? b=some o->b∉frs outer->b∉frs (envOfC qual scope s₀.heap.objs.size f cdv::outer):=λb o q hb z=>by
  rcases List.mem_cons.mp (show b∈s₀.heap.objs.size::frs outer from z) with z|z
  ·exact absurd (Heap.lt_size q) (by rw[z];exact Nat.lt_irrefl _)
  ·exact hb z
 have ne0:∀b o,s₀.heap.get? b=some o->b≠e:=λb o q z=>by rw[z,hnew] at q;cases q
 have kb:(PySem.W.hideAll s.heap (e::frs (envOfC qual scope s₀.heap.objs.size f cdv::outer))).StaysIn s.heap:=λb o q=>PySem.W.of_hideAll _ q
 have en:(PySem.W.hideAll s.heap (e::frs (envOfC qual scope s₀.heap.objs.size f cdv::outer))).get? e=none:=PySem.W.hideAll_none _ List.mem_cons_self
 show wpAny _ _ (leaving _ _) _ _ s
 unfold leaving
 refine wpAny_bind (RT hfr hl rfl he kb en hd h1 λg1 x1 x2 x3 x4=>?_)
 refine rD (s:={s with heap:=g1}) x1 x2 x3 λg2 y1 y2 y3 y4=>?_
 obtain⟨_,_,y2'⟩:=y2
 have mv:=x4.trans y4
 refine⟨e,oe.cls,oe.dict,H,_,rfl,⟨I.os,I.bare,y1,en,y2',y3,?_,⟨λb o q n hb=>?_,λb o q n hb=>?_,λb o q n=>?_,λb o q=>?_,I.base.tups,I.base.iG,I.base.gF⟩,hn,hnew⟩,hE⟩
 ·refine gK.sub I.hok λb o u hu q=>hB b o q (λz=>by rw[z,hn] at hu;cases hu) λz=>?_
  have:=I.qZ b z
  rw[hu] at this
  cases this
 ·exact hB b o (I.base.keep b o q n hb (by simp[cQ])) (ne0 b o q) (Qt b o q hb)
 ·obtain⟨sl,q1⟩:=I.base.slot b o q n hb (by simp[cQ])
  have nf:∀vs,o.data≠ .fields vs:=by
   obtain⟨_,o',q3,hn⟩:=st.mem (List.mem_cons_of_mem _ hb)
   rw[q1] at q3
   cases q3
   exact hn
  obtain⟨sl3,q3⟩:=mv.up b _ q1 nf
  exact⟨sl3,q3⟩
 ·exact I.base.free b o q n (by simp[cQ])
 ·obtain⟨o1,q1⟩:=I.base.there b o q (by simp[cQ])
  exact mv.there b o1 q1
end
end P
namespace P
open PySem PySem.Spec PyProof.Rows L2 M2 M3 M4
abbrev HB:List Value:=[.type "ValueError",.type "Exception",.type "BaseException",.type "object"]
abbrev nwV:String:= "ValueError.__new__"
section
variable{K:PySem.W.Frag}{h:Heap}{C:Addr}{bmB:List Value}{newId:String}
def ZbC(X:K.In h)(q:PySem.W.excIn K C bmB newId=true) :
 ∃bm N nm qn bs hd sn sub ab col dd k0 k1 k2 k3 k5 mN,h.get? C=some (excClassObj nm qn C N bs bm hd sn sub ab col dd k0 k1 k2 k3 k5 newId)/\h.Ns N mN/\mN "__init__" =none/\OwnTail h bmB bm:=by
 unfold PySem.W.excIn at q
 split at q
 case h_2=>cases q
 rename_i dd cd sl ho
 split at q
 case h_2=>cases q
 rename_i C1 bm k0 k1 k2 k3 n1 k5 e1 e2
 simp only[Bool.and_eq_true,beq_iff_eq,Bool.not_eq_true'] at q
 obtain⟨⟨⟨⟨⟨z1,z2⟩,z3⟩,z4⟩,z5⟩,z6⟩:=q
 subst z1 z2
 obtain⟨nm,bs,mro,ns,qn,hd,sn,sub,ab,col,del⟩:=cd
 dsimp only at e1 z3 z5 z6
 subst e1 z3
 obtain⟨sll⟩:=sl
 dsimp only at e2
 subst e2
 exact⟨bm,ns,nm,qn,bs,hd,sn,sub,ab,col,dd,k0,k1,k2,k3,k5,_,X _ _ ho,.of_isNs (PySem.W.isNs_of_in X z5),PySem.W.nsMap_none_of_in X z5 z6,PySem.W.tail_of_in X z4⟩
end
def xJ(X:Cx)(E:L2.St->XK):Prop:=∀(pins:List (Addr×Obj)) (σ:L2.St) (H:Hp) (s:Shared) (e:Addr) (oe:Obj) (vs:Array Value),Inv X pins σ H s->s.heap.get? e=some oe->oe.data=.fields vs->vs[1]?=some .none->H e=none->
 X.s₀.heap.get? e=none->E σ oe.cls oe.dict H->X.xe (.ref e) s
def rE{P:Program}{w:World}{K:PySem.W.Frag}{mg:Str->Option Value}{base:Heap}{N:List Str}{qual:Str}{scope:Scope}{f:Addr}{cdv:Value}{A:Around}{outer:List Env}{s₀:Shared}{H₀:Hp}{E:XK} :
 xJ (cQ (Ů P w) P w K mg base N qual scope f cdv A outer s₀ H₀ E) (λ_=>E):=λ_ _ _ _ _ _ _ I he hd h1 hn hnew hE=>ZbB I he hd h1 hn hnew hE
def xK(C:String):M Fl:=λρ=>.exc ⟨C,[],[]⟩ ρ
section
variable{X:Cx}{cm:String->Addr}{E:L2.St->XK}{x:Str}{C:String}{np cpos pos:Pos}
def xM{P:Program}{w:World}{H:Hp}{h:Heap}{e:Addr}(k:gK P w H h)(q:h.get? e=none):H e=none:=by
 cases z:H e with
 |none=>rfl
 |some u=>
  obtain⟨o,ho⟩:=sS (k e u z)
  rw[q] at ho
  cases ho
def Inv.Zd8{pins:List (Addr×Obj)}{σ:L2.St}{H:Hp}{s:Shared}{e:Addr}(I:Inv X pins σ H s)(hex:X.ex=[])(q:s.heap.get? e=none):X.s₀.heap.get? e=none:=by
 cases z:X.s₀.heap.get? e with
 |none=>rfl
 |some o=>
  obtain⟨o1,q1⟩:=I.base.there e o z (by rw[hex];simp)
  rw[q] at q1
  cases q1
def Av(hc:X.calm=true)(hex:X.ex=[])(hr:xJ X E)(hg:Gl X x)(hm:X.mg x=some (.ref (cm C)))(q:PySem.W.excIn X.K (cm C) HB nwV=true)(hdb:(x== ("__debug__" :Str))=false:=by decide) :
 PS X (.Raise (some (.Call (.Name x np) [] [] cpos)) none pos) (tS (kk X cm) E (xK C)):=by
 intro pins s σ H D I ⟨c,F,ρ,rel,h⟩
 obtain⟨bm,N,nm,qn,bs,hd,sn,sub,ab,col,dd,k0,k1,k2,k3,k5,mN,hC,hN,hni,T⟩:=ZbC I.iH q
 refine wpAny_Raise_call_subT (C:=cm C) (nm:=nm) (q:=qn) (N:=N) (bs:=bs) (bm:=bm) (hdct:=hd) (sn:=sn) (sub:=sub) (ab:=ab) (col:=col) (dd:=dd) (k0:=k0) (k1:=k1) (k2:=k2) (k3:=k3) (k5:=k5)
  PySem.F.excBase_ValueError (mN:=mN) (T.hasType (by decide)) (I.ok.hd hc) rfl hni (lB I hg hm ⟨rfl,?_⟩ hdb)
 refine evalArgs_empty ⟨rfl,Nat.zero_le _,hC,hN,T,λh' e hx=>?_⟩
 obtain⟨t,he,_,_⟩:=hx.there
 have I2:Inv X pins σ H {s with heap:=h'}:=I.kept (t':=s.toks) hx.keeps
 exact hr pins σ H _ e _ _ I2 he rfl rfl (xM I.hok hx.new) (Inv.Zd8 I hex hx.new) (h σ _ _ F H rel (Same.refl _) ⟨rfl,[],.inl ⟨rfl,rfl⟩,rfl,Ģ.nil⟩)
end
section
variable{M:Model}{A:Around}{E:Value->Shared->Prop}{s:Shared}{K:PySem.W.Frag}{e C D:Addr}{oe:Obj}{b:Bool}{Q:Bool->Shared->Prop}
def vG(X:K.In s.heap)(hk:PySem.W.kitCls K (.ref C) (.ref D)=some b)(hx:PySem.W.mroIn K D (.type "BaseException")=some true)(he:s.heap.get? e=some oe)(hc:oe.cls=.ref C)(hq:Q b s):wpAny M A (excMatches (.ref e) (.ref D)) Q E s:=by
 obtain⟨l1,l2,l3⟩:=PySem.W.kit_cls (M:=M) X hk
 have l4:=PySem.W.looks_mroIn (M:=M) X hx
 have f:=tc_notTuple
 unfold excMatches isInstance
 refine wpAny_bind (wpAny_bind (l1.here ?_))
 rw[f]
 refine wpAny_pure ?_
 simp only[Bool.false_eq_true,if_false]
 refine wpAny_bind (wpAny_pure ?_)
 simp only[List.forIn_cons,List.forIn_nil]
 unfold isExcClass
 refine wpAny_bind (wpAny_bind (wpAny_bind (wpAny_bind (l2.here ?_))))
 rw[if_pos rfl]
 refine l4.here ?_
 rw[if_neg (by decide)]
 refine wpAny_pure (wpAny_pure ?_)
 refine wpAny_bind (wpAny_typeOf_ref he ?_)
 rw[hc]
 refine wpAny_bind (wpAny_bind (wpAny_bind (l3.here ?_)))
 cases b with
 |true=>exact wpAny_pure (wpAny_pure (wpAny_pure hq))
 |false=>exact wpAny_pure (wpAny_pure (wpAny_pure hq))
end
def Aw(X:Cx)(xe:Value->Shared->Prop)(pins:List (Addr×Obj)):Cx:={X with xe:=xe,pn:=X.pn++pins}
def markX(X:Cx)(e:Value):Cx:={X with A:=X.A.mark (some e),calm:=false,xe:=λ_ _=>False}
section
variable{X:Cx}{pins:List (Addr×Obj)}{σ:L2.St}{H:Hp}{s:Shared}{xe:Value->Shared->Prop}
def Inv.Zd9(I:Inv X pins σ H s):Inv (Aw X xe pins) [] σ H s:=
 ⟨⟨I.ok.mod,I.ok.kind,I.ok.glob,I.ok.blt,I.ok.above,I.ok.inj,I.ok.has,I.ok.cab,I.ok.hd,I.ok.frames,I.ok.stk,I.ok.exf,I.ok.bs,I.ok.Gp,I.ok.uK,I.ok.zU,I.ok.lV,I.ok.Ka,I.ok.tb⟩,
   I.os,I.bare,I.base,I.loc,I.cell,I.free,I.dz,λp hp=>I.pin p (by simpa[Aw] using hp),I.hok,I.len⟩
def Inv.sU{fG:List (Addr×Obj)}(I:Inv (Aw X xe pins) fG σ H s):Inv X pins σ H s:=
 ⟨⟨I.ok.mod,I.ok.kind,I.ok.glob,I.ok.blt,I.ok.above,I.ok.inj,I.ok.has,I.ok.cab,I.ok.hd,I.ok.frames,I.ok.stk,I.ok.exf,I.ok.bs,I.ok.Gp,I.ok.uK,I.ok.zU,I.ok.lV,I.ok.Ka,I.ok.tb⟩,
   I.os,I.bare,I.base,I.loc,I.cell,I.free,I.dz,λp hp=>I.pin p (List.mem_append_left _ hp),I.hok,I.len⟩
theorem SP.sU{fG:List (Addr×Obj)}{D:Ends}{f:Flow}(h:SP (Aw X xe pins) fG D f s):SP X pins D f s:=by
 cases f with
 |next=>obtain⟨σ',H',I,q⟩:=h;exact⟨σ',H',Inv.sU I,q⟩
 |brk=>obtain⟨σ',H',I,q⟩:=h;exact⟨σ',H',Inv.sU I,q⟩
 |cont=>obtain⟨σ',H',I,q⟩:=h;exact⟨σ',H',Inv.sU I,q⟩
 |ret u=>obtain⟨v,σ',H',I,r,q⟩:=h;exact⟨v,σ',H',Inv.sU I,r,q⟩
def Inv.mark(I:Inv X pins σ H s)(e:Value):Inv (markX X e) pins σ H s:=
 ⟨⟨I.ok.mod,I.ok.kind,I.ok.glob,I.ok.blt,I.ok.above,I.ok.inj,I.ok.has,I.ok.cab,(fun z=>nomatch z),I.ok.frames,I.ok.stk,I.ok.exf,I.ok.bs,I.ok.Gp,I.ok.uK,I.ok.zU,I.ok.lV,I.ok.Ka,I.ok.tb⟩,
   I.os,I.bare,I.base,I.loc,I.cell,I.free,I.dz,I.pin,I.hok,I.len⟩
def Inv.unmark{e:Value}(I:Inv (markX X e) pins σ H s)(hd:X.calm=true->X.A.handled=none):Inv X pins σ H s:=
 ⟨⟨I.ok.mod,I.ok.kind,I.ok.glob,I.ok.blt,I.ok.above,I.ok.inj,I.ok.has,I.ok.cab,hd,I.ok.frames,I.ok.stk,I.ok.exf,I.ok.bs,I.ok.Gp,I.ok.uK,I.ok.zU,I.ok.lV,I.ok.Ka,I.ok.tb⟩,
   I.os,I.bare,I.base,I.loc,I.cell,I.free,I.dz,I.pin,I.hok,I.len⟩
def Inv.gone{i:Nat}{n:Str}{m:Str->Option Value}{v:Option Value}{h':Heap}{tk:Nat}(I:Inv X pins σ H s)(hN:X.N.Nodup)(hi:X.N[i]?=some n)(hx:X.env.scope.names.lookup n=some .local)
 (hn:s.heap.Ns X.env.locals m)(hm:∀(j:Nat) (x:Str) (v:V),X.N[j]?=some x->σ[j]?=some (some v)->Ck X.env.scope x->∃u,RelV v u/\Look X.env s.heap m x u)
 (hn':h'.Ns X.env.locals (λx=>if x=n then v else m x))(hs:Heap.SameBut X.env.locals s.heap h'):Inv X pins (σ.set i none) H {s with heap:=h',toks:=tk}:=by
 have Qt:∀b o,X.s₀.heap.get? b=some o->b≠X.env.locals:=λb o q=>Nat.ne_of_lt (Nat.lt_of_lt_of_le (Heap.lt_size q) I.ok.above)
 refine⟨I.ok,I.os,I.bare,⟨λb o q z hb hx=>(hs.2 b (Qt b o q)).trans (I.base.keep b o q z hb hx),λb o q z hb hx=>?_,I.base.free,λb o q hx=>?_,I.base.tups,I.base.iG,I.base.gF⟩,⟨_,hn',λj x v e1 e2 e3=>?_⟩,λx c e=>?_,I.free,I.dz,λp hp=>?_,λb o e=>?_,by simpa using I.len⟩
 ·obtain⟨sl,q1⟩:=I.base.slot b o q z hb hx
  exact⟨sl,(hs.2 b (Qt b o q)).trans q1⟩
 ·obtain⟨o1,q1⟩:=I.base.there b o q hx
  exact⟨o1,(hs.2 b (Qt b o q)).trans q1⟩
 ·have hj:j≠i:=fun z=>by
   subst z
   rcases bh e2 with⟨_,q,_⟩|⟨q,_⟩
   ·cases q
   ·exact q rfl
  rw[List.getElem?_set_ne (Ne.symm hj)] at e2
  obtain⟨u,r,q⟩:=hm j x v e1 e2 e3
  refine⟨u,r,?_⟩
  have hxn:x≠n:=λz=>hj (rM hN e1 (z▸hi))
  rcases q with⟨k,e⟩|⟨k,c,e,z⟩
  ·exact .inl ⟨k,by simp[hxn,e]⟩
  ·exact .inr ⟨k,c,e,z.sameBut hs (I.QF x c e)⟩
 ·obtain⟨w',z⟩:=I.cell x c e
  exact⟨w',z.sameBut hs (I.QF x c e)⟩
 ·obtain⟨e,z,ne,nf,d⟩:=I.pin p hp
  exact⟨(hs.2 p.1 ne).trans e,z,ne,nf,d⟩
 ·refine(I.hok b o e).stay (λc u hc q=>(hs.2 c ?_).trans q) (λ_ q=>q) λ_ _ q=>q
  rintro rfl
  rcases hc with hc|hc
  ·rw[<-hc,I.free] at e;cases e
  ·rw[I.free] at hc;cases hc
end
end P
namespace P
open PySem PySem.Spec PyProof.Rows L2 M2 M3 M4
abbrev MH:=PX->ŝ->Res Fl
def Ax:MH:=λ_ _=>.bad
def rG(i:Nat)(yes no:List String)(mh:M Fl)(rest:MH):MH:=λx ρ=>if yes.contains x.C=true then(match mh (ρ.set i (.sh (.xc x.C x.ns x.ps))) with
 | .ok f ρ2=>.ok f (ρ2.set i .no)
 |_=>.bad) else if no.contains x.C=true then rest x ρ else .bad
def RW(mb:M Fl)(mh:MH):M Fl:=λρ=>match mb ρ with
 | .exc x ρ1=>mh x ρ1
 |r=>r
def PH(X:Cx)(cm:String->Addr)(E:L2.St->XK)(hs:List ExceptHandler)(mh:MH):Prop:=∀(pins:List (Addr×Obj)) (σ:L2.St) (H Hc:Hp) (s sc:Shared) (ea:Addr) (C:Value) (d:Option Addr) (B:Heap) (D:Ends) (c:Ctx) (F:Hp) (ρ:ŝ) (x:PX),
 Inv X pins σ Hc sc->Lies X.prog X.w X.stack Hc sc ea C d .none H B s->Rel (kk X cm) c F H σ ρ->Js (kk X cm) F x C d->ű (kk X cm) E c F D (mh x ρ)->wpAny (model X.prog X.w) X.A (handleBy (.ref ea) X.env hs) (SP X pins D) X.xe s
section
variable{X:Cx}{cm:String->Addr}{E:L2.St->XK}{pins:List (Addr×Obj)}{σ:L2.St}{H Hc:Hp}{s sc:Shared}{ea:Addr}{C:Value}{d:Option Addr}{B:Heap}
def RX(I:Inv X pins σ Hc sc){fl:Value}(l:Lies X.prog X.w X.stack Hc sc ea C d fl H B s):Inv X pins σ H s:=I.call' l.os (l.un.un l.st) (l.hok.kept l.st) l.bare λb z=>absurd z (by simp)
def gK.exc{P:Program}{w:World}{H:Hp}{h:Heap}{ea Ca:Addr}{d:Option Addr}{oe:Obj}{vs:Array Value}(k:gK P w H h)(hn:H ea=none)(he:h.get? ea=some oe)(hc:oe.cls=.ref Ca)(hdi:oe.dict=d)(hd:oe.data=.fields vs):gK P w (upd H ea (xo ea Ca d)) h:=λb u e=>by
 by_cases hb:b=ea
 ·subst hb
  rw[Ī] at e
  cases e
  refine⟨⟨oe,vs,he,hc,hdi,hd⟩,⟨oe,he⟩,?_⟩
  rintro h1 h2 ⟨o,ws,q1,q2⟩ kk
  exact⟨o,ws,kk o q1,q2⟩
 ·rw[Ę hb] at e
  exact(k b u e).stay (λ_ _ _ q=>q) (λc q=>by rw[Ę (Ġ q hn)];exact q) (λc xs q=>by rw[Ę (Ġ q hn)];exact q) λc xs q=>by rw[Ę (Ġ q hn)];exact q
def RZ(I:Inv X pins σ Hc sc){fl:Value}{Ca:Addr}(l:Lies X.prog X.w X.stack Hc sc ea (.ref Ca) d fl H B s):Inv X pins σ (upd H ea (xo ea Ca d)) s:=by
 obtain⟨oe,vs,T,oT,ts,he,⟨hc,hdi⟩,hd,_⟩:=l.tr
 have hw:gK X.prog X.w (upd H ea (xo ea Ca d)) s.heap:=gK.exc (l.hok.kept l.st) l.no he hc hdi hd
 have u:=l.un.un l.st
 refine I.call' l.os ⟨u.keep,u.slot,λb o q n hx=>?_,u.there,λb xs q=>?_,λb o v q=>?_,λb ps q=>?_⟩ hw l.bare λb z=>absurd z (by simp)
 ·have hb:b≠ea:=λz=>by rw[z,l.new] at q;cases q
  rw[Ę hb]
  exact u.free b o q n hx
 ·have q':=u.tups b xs q
  rw[Ę (Ġ q' l.no)];exact q'
 ·have q':=u.iG b o v q
  rw[Ę (Ġ q' l.no)];exact q'
 ·have q':=u.gF b ps q
  rw[Ę (Ġ q' l.no)];exact q'
def Zd_:PH X cm E [] Ax:=λ_ _ _ _ _ _ _ _ _ _ _ _ _ _ _ _ _ _ _ h=>h.elim
variable{y n:Str}{Dn:String}{i:Nat}{yp hpos:Pos}{b₀:Stmt}{suite:List Stmt}{rest:List ExceptHandler}{yes no:List String}{mh:M Fl}{mr:MH}
def R_{K:KK}{c:Ctx}{F' H':Hp}{σ':L2.St}{ρ2:ŝ}{r:RV}{v:V}(h:rO K c σ' ρ2 F' H' r v):rO K c (σ'.set i none) (ρ2.set i .no) F' H' r v:=by
 cases r with
 |sh p=>exact h
 |ow ps=>
  obtain⟨a,vs,h1,h2,h3,h4,h5,h6⟩:=h
  refine⟨a,vs,h1,h2,h3,h4,λj q=>?_,h6⟩
  have hj:j≠i:=λz=>by
   subst z
   obtain⟨s',y,q1,_,q2⟩:=q
   have q2:=jN q2
   rcases bh q1 with⟨_,rfl,_⟩|⟨q,_⟩
   ·cases q2
   ·exact q rfl
  exact h5 j (q.off hj)
 |ot ps qs=>
  obtain⟨p,a,xs,vs,h1,h0,hx,h2,h3,h4,h5,h6⟩:=h
  refine⟨p,a,xs,vs,h1,h0,hx,h2,h3,h4,λj q=>?_,h6⟩
  have hj:j≠i:=λz=>by
   subst z
   obtain⟨s',y,q1,_,q2⟩:=q
   have q2:=jN q2
   rcases bh q1 with⟨_,rfl,_⟩|⟨q,_⟩
   ·cases q2
   ·exact q rfl
  exact h5 j (q.off hj)
def Zg8(hN:X.N.Nodup)(hi:X.N[i]?=some n)(hx:X.env.scope.names.lookup n=some .local)(hg:Gl X y)(hm:X.mg y=some (.ref (cm Dn)))(hex:PySem.W.mroIn X.K (cm Dn) (.type "BaseException")=some true)
 (hyes:iZ (λc=>PySem.W.kitCls X.K (.ref (cm c)) (.ref (cm Dn))=some true) yes)(hno:iZ (λc=>PySem.W.kitCls X.K (.ref (cm c)) (.ref (cm Dn))=some false) no)
 (hb:∀e:Value,lW (markX X e) (b₀::suite) (tS (kk X cm) EF mh))(hr:PH X cm E rest mr)(hdb:(y== ("__debug__" :Str))=false:=by decide) :
 PH X cm E (.ExceptHandler (some (.Name y yp)) (some n) (b₀::suite) hpos::rest) (rG i yes no mh mr):=by
 intro pins σ H Hc s sc ea C d B D c F ρ x I l rel rx h
 have I1:=RX I l
 obtain⟨oe,vs,T,oT,ts,he,⟨hc,hdi⟩,hd,_⟩:=id l.tr
 obtain⟨eC,fs,hfd,hns,hps⟩:=rx
 have hcx:oe.cls=.ref (cm x.C):=hc.trans eC
 refine wpAny_handleBy_cons (codeAny_handlers_test (lB (X:=markX X (.ref ea)) (Inv.mark I1 (.ref ea)) hg hm ?_ hdb)) (by intro q;cases q)
 unfold rG at h
 split at h
 ·rename_i hy
  refine vG I1.iH (hyes.get hy) hex he hcx (codeAny_handlers_suite_as ?_)
  refine rD l.st l.fr l.tr λh1 x1 x2 x3 x4=>?_
  have l2:=l.move x1 x2 x3 x4
  subst eC
  have I2:=Inv.mark (RZ I l2) (.ref ea)
  have ŏ:=rel.alloc (o:=xo ea (cm x.C) d) l.no
  have hF:F ea=none:=rel.sub.free l.no
  have rp:Rep (kk X cm) (upd F ea (xo ea (cm x.C) d)) (.xc x.C x.ns x.ps) (.ref ea):=by
   unfold Rep
   exact⟨ea,d,fs,rfl,Ī,hfd.same (Same.upd hF),hns,Ģ.same (Same.upd hF) _ _ hps⟩
  refine nM (X:=markX X (.ref ea)) I2 hN hi (.inl hx) (v:=.ref ea) rfl (λs6 I6=>?_) (.inr hx)
  have lX:=ŏ.put (i:=i) (x:=some (.ref ea)) (s:=.sh (.xc x.C x.ns x.ps)) rfl ⟨_,rfl,rp⟩
  refine wpAny_mono (hb (.ref ea) pins s6 _ _ {nx:=λσ' H'=>D.nx (σ'.set i none) H',rt:=D.rt,bk:=λσ' H'=>D.bk (σ'.set i none) H',ct:=λσ' H'=>D.ct (σ'.set i none) H'} I6 ⟨c,_,_,lX,?_⟩) (λf s7 q=>?_) λ_ _ z=>z.elim
  ·have sF:Same F (upd F ea (xo ea (cm x.C) d)):=Same.upd hF
   cases em:mh (ρ.set i (.sh (.xc x.C x.ns x.ps))) with
   |bad=>rw[em] at h;exact h
   |exc z ρ2=>rw[em] at h;exact h.elim
   |ok f ρ2=>
    rw[em] at h
    cases f with
    |nx=>exact λσ' F' H' r s1=>h _ F' H' (r.put (s:=.no) rfl trivial) (sF.trans s1)
    |bk=>exact λσ' F' H' r s1=>h _ F' H' (r.put (s:=.no) rfl trivial) (sF.trans s1)
    |ct=>exact λσ' F' H' r s1=>h _ F' H' (r.put (s:=.no) rfl trivial) (sF.trans s1)
    |rt r0=>exact λv σ' F' H' r s1 q=>h v _ F' H' (r.put (s:=.no) rfl trivial) (sF.trans s1) (R_ q)
  ·have fin:∀{σ7:L2.St} {H7:Hp},Inv (markX X (.ref ea)) pins σ7 H7 s7→(∀s8,Inv X pins (σ7.set i none) H7 s8→SP X pins D f s8)→
    wpAny (model X.prog X.w) X.A (do bindName X.env n .none;unbindBehindTheSuite X.env n hpos) (λ_ s8=>SP X pins D f s8) X.xe s7:=fun{σ7 H7} I7 k=>by
    have I8:=Inv.unmark I7 I.ok.hd
    obtain⟨m,hn,hl⟩:=id I8.loc
    refine wpAny_nameGoes_keeps hx hn (by rw[I.ok.kind];rfl) λh' v hn' hs=>k _ ?_
    exact Inv.gone I8 hN hi hx hn hl hn' hs
   cases f with
   |next=>obtain⟨σ7,H7,I7,q7⟩:=q;exact fin I7 λs8 I8=>⟨_,_,I8,q7⟩
   |brk=>obtain⟨σ7,H7,I7,q7⟩:=q;exact fin I7 λs8 I8=>⟨_,_,I8,q7⟩
   |cont=>obtain⟨σ7,H7,I7,q7⟩:=q;exact fin I7 λs8 I8=>⟨_,_,I8,q7⟩
   |ret u=>obtain⟨v,σ7,H7,I7,rv,q7⟩:=q;exact fin I7 λs8 I8=>⟨_,_,_,I8,rv,q7⟩
 ·split at h
  ·rename_i hn
   refine vG I1.iH (hno.get hn) hex he hcx ?_
   exact hr pins σ H Hc s sc ea C d B D c F ρ x I l rel ⟨eC,fs,hfd,hns,hps⟩ h
  ·exact h.elim
def Zea{body:List Stmt}{h0:ExceptHandler}{hs:List ExceptHandler}{pos:Pos}{mb:M Fl}{mh:MH}(hst:∃env outer,X.stack=env::outer/\X.env=env/\env.frame=some env.locals)
 (hb:∀(xe:Value->Shared->Prop) (pins:List (Addr×Obj)) (Et:L2.St->XK),cV (Ů X.prog X.w) (Aw X xe pins) Et->lW (Aw X xe pins) body (tS (kk X cm) Et mb))
 (hh:PH X cm E (h0::hs) mh):PS X (.Try body (h0::hs) [] [] pos) (tS (kk X cm) E (RW mb mh)):=by
 intro pins s σ H D I ⟨c,F,ρ,rel,h⟩
 refine wpAny_Try_except ?_
 obtain⟨env,outer,ZbD,rfl,hfr⟩:=hst
 have hframes:X.A.frames=some (X.env::outer):=by rw[<-ZbD];exact I.ok.frames
 have J:Inv (Aw X (λe s₁=>wpAny (model X.prog X.w) X.A (noteFrame e X.env) (λ_ s₂=>wpAny (model X.prog X.w) X.A (setFlight e none) (λ_ s₃=>wpAny (model X.prog X.w) X.A (handleBy e X.env (h0::hs)) (SP X pins D) X.xe s₃) X.xe s₂) X.xe s₁) pins) [] σ H s:=Inv.Zd9 I
 refine Ŭ (hb _ pins (λσ1 C d H'=>∃c F ρ x,Rel (kk X cm) c F H' σ1 ρ/\Js (kk X cm) F x C d/\ű (kk X cm) E c F D (mh x ρ)) ?_ [] s σ H D J ⟨c,F,ρ,rel,?_⟩) λf s1 q=>?_
 ·intro fG σ1 H1 s1 e s2 I1 hx
  obtain⟨ea,C,d,H',B,rfl,l,c1,F1,ρ1,x,ě,rx,h1⟩:=hx
  have I2:=Inv.sU I1
  have lfr:s2.heap.FunFrames B (X.env::outer):=by
   have:=l.fr
   rw[show(Aw X _ pins).stack=X.env::outer from ZbD] at this
   exact this
  show wpAny (model X.prog X.w) X.A (noteFrame (.ref ea) X.env) _ X.xe s2
  refine MJ hframes lfr hfr l.tr l.st l.en λg1 x1 x2 x3 x4=>?_
  refine rD (s:={s2 with heap:=g1}) x1 x2 x3 λg2 y1 y2 y3 y4=>?_
  have l':Lies X.prog X.w X.stack H1 s1 ea C d .none H' B s2:=l
  have l2:=l'.move y1 (by rw[ZbD];exact y2) y3 (x4.trans y4)
  exact hh pins σ1 H' H1 _ s1 ea C d B D c1 F1 ρ1 x I2 l2 ě rx h1
 ·unfold RW at h
  cases em:mb ρ with
  |bad=>rw[em] at h;exact h
  |ok f ρ1=>
   rw[em] at h
   cases f<;>exact h
  |exc x ρ1=>
   rw[em] at h
   exact λσ' C d F' H' r s1 rx=>⟨c,F',ρ1,x,r,rx,ű.mono h s1⟩
 ·have q':=SP.sU q
  cases f with
  |next=>exact wpAny_execs_nil q'
  |brk=>exact q'
  |cont=>exact q'
  |ret u=>exact q'
end
end P
namespace P
open PySem PySem.Spec PyProof.Rows L2 M2 M3 M4 Builtin Builtin.ObjectAttr
def aX(K:PySem.W.Frag)(C:Addr):Bool:=match K.lookup C with
 |some ⟨.type "type",_,.cls cd,sl⟩=>(match cd.mro,sl.toList with
  | .ref C'::bm,[_,_,_,_,some (.builtin n),_]=>C'== C && n== nwV && !cd.hasDel && cd.hasDict && PySem.W.tailIn K HB bm && PySem.W.findIn K (.ref C) "__setattr__" == some (some (.builtin "object.__setattr__")) &&
      PySem.W.findIn K (.ref C) "__getattribute__" == some (some (.builtin "BaseException.__getattribute__")) && PySem.W.findIn K (.ref C) "__getattr__" == some none
  |_,_=>false)
 |_=>false
structure lY(K:PySem.W.Frag)(C:Addr)(cd:ClassData)(bm:List Value):Prop where
 at_:∃dd k0 k1 k2 k3 k5,K.lookup C=some ⟨.type "type",dd,.cls cd,#[k0,k1,k2,k3,some (.builtin nwV),k5]⟩
 mro:cd.mro=.ref C::bm
 del:cd.hasDel=false
 dict:cd.hasDict=true
 tail:PySem.W.tailIn K HB bm=true
 sa:PySem.W.findIn K (.ref C) "__setattr__" =some (some (.builtin "object.__setattr__"))
 ga:PySem.W.findIn K (.ref C) "__getattribute__" =some (some (.builtin "BaseException.__getattribute__"))
 gg:PySem.W.findIn K (.ref C) "__getattr__" =some none
def i_{K:PySem.W.Frag}{C:Addr}(q:aX K C=true):∃cd bm,lY K C cd bm:=by
 unfold aX at q
 split at q
 case h_2=>cases q
 rename_i dd cd sl ho
 split at q
 case h_2=>cases q
 rename_i C1 bm k0 k1 k2 k3 n1 k5 e1 e2
 simp only[Bool.and_eq_true,beq_iff_eq,Bool.not_eq_true'] at q
 obtain⟨⟨⟨⟨⟨⟨⟨z1,z2⟩,z3⟩,z4⟩,z5⟩,z6⟩,z7⟩,z8⟩:=q
 subst z1 z2
 obtain⟨sll⟩:=sl
 dsimp only at e2
 subst e2
 exact⟨cd,bm,⟨dd,k0,k1,k2,k3,k5,ho⟩,e1,z3,z4,z5,z6,z7,z8⟩
section
variable{K:PySem.W.Frag}{h:Heap}{C:Addr}{cd:ClassData}{bm:List Value}
def lY.own(x:lY K C cd bm)(X:K.In h):OwnTail h HB bm:=PySem.W.tail_of_in X x.tail
def lY.cls(x:lY K C cd bm):PySem.W.clsIn K C=some cd:=by
 obtain⟨_,_,_,_,_,_,e⟩:=x.at_
 unfold PySem.W.clsIn
 rw[e]
theorem Ay{T:String}(hT:HB.contains (.type T)=true):∀{l:List Value},PySem.W.tailIn K HB l=true->l.contains (.type T)=true
 | [],e=>by cases(show(HB== [])=true from e)
 |v::r,e=>by
  unfold PySem.W.tailIn at e
  rcases Bool.or_eq_true_iff.mp e with q|q
  ·rw[beq_iff_eq.mp q];exact hT
  ·split at q
   ·split at q
    ·simp only[Bool.and_eq_true,beq_iff_eq] at q
     rw[List.contains_cons,Ay hT q.2,Bool.or_true]
    ·cases q
   ·cases q
theorem qu(self:Value):∀{l:List Value},PySem.W.tailIn K HB l=true->refuseLoop self "__setattr__" l=pure ()
 | [],e=>by cases(show(HB== [])=true from e)
 |v::r,e=>by
  unfold PySem.W.tailIn at e
  rcases Bool.or_eq_true_iff.mp e with q|q
  ·rw[beq_iff_eq.mp q];exact PySem.F.store_ValueError.passes self
  ·split at q
   ·split at q
    ·simp only[Bool.and_eq_true,beq_iff_eq] at q
     rw[refuseLoop_ref]
     exact qu self q.2
    ·cases q
   ·cases q
def lY.mroIs(x:lY K C cd bm){T:String}(hT:HB.contains (.type T)=true):PySem.W.mroIn K C (.type T)=some true:=by
 unfold PySem.W.mroIn
 rw[x.cls,Option.bind_some,if_neg (by rw[x.mro];simp),x.mro,List.contains_cons,Ay hT x.tail,Bool.or_true]
def lY.Zeb(x:lY K C cd bm):PySem.W.hasDictIn K C=true:=by
 unfold PySem.W.hasDictIn
 rw[x.cls]
 exact x.dict
end
section
variable{prog:Program}{w:World}{A:Around}{E:Value->Shared->Prop}{h:Heap}{g:Array GenState}{d:Drawn}{t:Nat}{os:OsState}
variable{nm q:Str}{C N:Addr}{bs bm bmB:List Value}{hdct:Bool}{sn:List Str}{sub:List Value}{ab:Bool}{col:Option Bool}{dd:Option Addr}{k0 k1 k2 k3 k5:Option Value}{B newId initId:String}
def qQ(F:ExcBaseFacts B newId initId bmB)(T:OwnTail h bmB bm){rest:List Value}{fI:Addr}{oI:Obj}{Q:Fin->Shared->Prop}
 (hC:h.get? C=some (excClassObj nm q C N bs bm hdct sn sub ab col dd k0 k1 k2 k3 k5 newId))(hi:PySem.W.Looks (model prog w) h (typeLookup (.ref C) "__init__") (some (.ref fI)))
 (hfI:h.get? fI=some oI)(hfc:oI.cls=.type "function")
 (hq:∀h' e,Heap.MadeExcOf h h' e (.ref C) rest→
   wpAny (model prog w) A (call (.ref fI) (.ref e::rest)) (λr s'=>r=.none/\Q (.done (.ret (.ref e))) s') E ⟨h',g,d,t,os⟩)(hrest:rest.length<=sizeLine) :
 wpAny (model prog w) A (Builtin.«type.__call__» ⟨.ref C::rest,[]⟩) Q E ⟨h,g,d,t,os⟩:=by
 repeat (first|with_reducible refine wpAny_loadPart_at hC ?_|with_reducible refine wpAny_madeBy_exc hC ?_|wp_step)
 refine codeAny_call_builtin_code (Code.quiet_builtin _ F.quiet) (wpAny_check_new_subT F T hC ?_)
 refine codeAny_exc_new_subT F T hC ?_ hrest
 show wpAny _ _ _ _ _ _
 have hC₁:= Heap.get?_push_of_some {cls:=.ref C,data:=.fields #[.ref h.objs.size,.none,.none,.none,.bool false,.none]}
  (Heap.get?_push_of_some {cls:=.type "tuple",data:=.seq rest.toArray} hC)
 have hfI₁:= Heap.get?_push_of_some {cls:=.ref C,data:=.fields #[.ref h.objs.size,.none,.none,.none,.bool false,.none]}
  (Heap.get?_push_of_some {cls:=.type "tuple",data:=.seq rest.toArray} hfI)
 have hi₁:= hi.keeps (h':=(h.push {cls:=.type "tuple",data:=.seq rest.toArray}).push {cls:=.ref C,data:=.fields #[.ref h.objs.size,.none,.none,.none,.bool false,.none]}) λb o e=>Heap.get?_push_of_some _ (Heap.get?_push_of_some _ e)
 have hget:((h.push {cls:=.type "tuple",data:=.seq rest.toArray}).push
  {cls:=.ref C,data:=.fields #[.ref h.objs.size,.none,.none,.none,.bool false,.none]}).get? (h.objs.size+1)=some
  {cls:=.ref C,data:=.fields #[.ref h.objs.size,.none,.none,.none,.bool false,.none]}:=by heap_get
 have hcC:(Value.ref C::bm).contains (.ref C)=true:=by simp
 unfold isInstance
 repeat (first|with_reducible refine wpAny_loadPart_at hget ?_|(with_reducible refine wpAny_isSubtype_exc hC₁ ?_;rw[hcC])|wp_step)
 show wpAny _ _ (typeLookup (.ref C) _) _ _ _
 refine hi₁.at ?_
 refine wpAny_holding (wpAny_bind ?_)
 unfold bindSpecial
 refine wpAny_bind (wpAny_typeOf (T:= "function") ⟨_,hfI₁,hfc⟩ ?_)
 rw[if_pos (by decide)]
 refine wpAny_pure (wpAny_bind (wpAny_mono (hq _ (h.objs.size+1) ⟨λb o hb=>Heap.get?_push_of_some _ (Heap.get?_push_of_some _ hb),Heap.get?_none_of_le (Nat.le_succ _),h.objs.size,hget,Heap.get?_none_of_le (Nat.le_refl _),?_⟩) (λr s' hr=>?_) λ_ _ x=>x))
 ·exact Heap.get?_push_of_some _ (Heap.get?_push_at rfl rfl)
 ·obtain⟨rfl,hQ⟩:=hr
  wp_walk
  exact hQ
def Dq(F:ExcBaseFacts B newId initId bmB)(T:OwnTail h bmB bm){rest:List Value}{fI:Addr}{oI:Obj}{Q:Value->Shared->Prop}
 (hC:h.get? C=some (excClassObj nm q C N bs bm hdct sn sub ab col dd k0 k1 k2 k3 k5 newId))(hi:PySem.W.Looks (model prog w) h (typeLookup (.ref C) "__init__") (some (.ref fI)))
 (hfI:h.get? fI=some oI)(hfc:oI.cls=.type "function")
 (hq:∀h' e,Heap.MadeExcOf h h' e (.ref C) rest→
   wpAny (model prog w) (A.under (.builtin "type.__call__" ⟨.ref C::rest,[]⟩)) (call (.ref fI) (.ref e::rest)) (λr s'=>r=.none/\Q (.ref e) s') E ⟨h',g,d,t,os⟩)(hrest:rest.length<=sizeLine) :
 wpAny (model prog w) A (call (.ref C) rest) Q E ⟨h,g,d,t,os⟩:=by
 have f1:=tc_lookup
 have f2:=tc_bind (.ref C)
 have hT:(⟨h,g,d,t,os⟩:Shared).TypeIs (.ref C) "type" := ⟨_,hC,rfl⟩
 refine wpAny_call (codeAny_of_tree ?_)
 show wpAny _ _ (callAny (.ref C) _) _ _ _
 repeat (any_goals (first|assumption|with_reducible refine wpAny_loadPart_at hC ?_|wp_step))
 refine⟨rfl,?_⟩
 refine codeAny_call_builtin_at (Code.quiet_builtin _ (by decide +kernel)) entry_typeCall (wpAny_check_type_call_sub hC (qQ (hrest:=hrest) F T hC hi hfI hfc λh' e hm=>?_))
 exact hq h' e hm
end
section
variable{prog:Program}{w:World}{A:Around}{E:Value->Shared->Prop}{s:Shared}{K:PySem.W.Frag}{x C:Addr}{cd:ClassData}{bm:List Value}{ox:Obj}{od:Option Obj}{name:Str}{v:Value}
def Zec{rest:List Value}{fI:Addr}{Q:Value->Shared->Prop}(X:K.In s.heap)(c:lY K C cd bm)(hi:PySem.W.findIn K (.ref C) "__init__" =some (some (.ref fI)))(hf:PySem.W.typeIn K (.ref fI)=some (.type "function"))(hrest:rest.length<=sizeLine)
 (hq:∀h' e,Heap.MadeExcOf s.heap h' e (.ref C) rest->wpAny (model prog w) (A.under (.builtin "type.__call__" ⟨.ref C::rest,[]⟩)) (call (.ref fI) (.ref e::rest)) (λr s'=>r=.none/\Q (.ref e) s') E {s with heap:=h'}) :
 wpAny (model prog w) A (call (.ref C) rest) Q E s:=by
 obtain⟨dd,k0,k1,k2,k3,k5,e⟩:=c.at_
 obtain⟨oI,hoI,hfc⟩:=Option.map_eq_some_iff.mp hf
 have hC:=X _ _ e
 have T:=c.own X
 obtain⟨nm,bs,mro,ns,qn,hd,sn,sub,ab,col,del⟩:=cd
 obtain rfl:mro=.ref C::bm:=c.mro
 obtain rfl:del=false:=c.del
 obtain⟨hh,g,d,t,os⟩:=s
 exact Dq (C:=C) (nm:=nm) (q:=qn) (N:=ns) (bs:=bs) (bm:=bm) (hdct:=hd) (sn:=sn) (sub:=sub) (ab:=ab) (col:=col) (dd:=dd) (k0:=k0) (k1:=k1) (k2:=k2) (k3:=k3) (k5:=k5) PySem.F.excBase_ValueError T hC (PySem.W.looks_findIn X hi) (X _ _ hoI) hfc hq hrest
def Az{tk:Tok}{R:Result->Shared->Prop}(X:K.In s.heap)(I:PySem.W.InstAt s.heap x ox C od)(c:lY K C cd bm)(ht:Ņ K C name)
 (h:∀b,wpAny (model prog w) A.in1 (storeInOwnDict (.ref x) (.ref C) (.str name tk) name v b)
   (λfin s'=>match fin with| .done f=>R (.ok f) s'| .again c'=>c'.quiet=true/\codeAny (model prog w) A c' R s') (λe s'=>R (.error e) s') s) :
 codeAny (model prog w) A (.call (.builtin "object.__setattr__") ⟨[.ref x,.str name tk,v],[]⟩) R s:=by
 have SF:=PySem.F.store_object
 have sub:PySem.W.Looks (model prog w) s.heap (isInstance (.ref x) (.type "object")) true:=I.type.andThen (PySem.W.looks_mroIn X (c.mroIs (by decide)))
 refine codeAny_call_builtin SF.slot.plain SF.entry (@PySem.W.check_slot (model prog w) _ _ s "object.__setattr__" "object" "__setattr__" (.ref x) [.str name tk,v] [] _ SF.kind SF.split sub (SF.args (.ref x) (.str name tk) v) ?_)
 have hm:PySem.W.Looks (model prog w) s.heap (mroOf (.ref C)) cd.mro:=(PySem.W.looks_clsIn X c.cls).andThen .now
 have L3:PySem.W.Looks (model prog w) s.heap (typeLookup (.ref C) name) none:=PySem.W.looks_findIn X ht
 rw[PySem.W.osa_eq,refuse_eq]
 refine wpAny_bind (wpAny_bind (I.type.here (wpAny_bind (hm.here ?_))))
 rw[c.mro,refuseLoop_ref,qu _ c.tail]
 refine wpAny_pure (wpAny_bind (I.type.here (wpAny_bind (L3.here (wpAny_bind (wpAny_pure ?_))))))
 exact h _
def MK{sl:Array (Option Value)}{vs:Array Value}{Q:Unit->Shared->Prop}(X:K.In s.heap)(hx:s.heap.get? x=some ⟨.ref C,none,.fields vs,sl⟩)(c:lY K C cd bm)(ht:Ņ K C name)
 (h:∀h',h'.get? x=some ⟨.ref C,some s.heap.objs.size,.fields vs,sl⟩->h'.Ns1 s.heap.objs.size (λy=>if y=name then some v else none)->(∀b o,b≠x->s.heap.get? b=some o->h'.get? b=some o)->Q () {s with heap:=h',toks:=s.toks+2}) :
 wpAny (model prog w) A (setAttr (.ref x) name v) Q E s:=by
 have J:PySem.W.InstAt s.heap x ⟨.ref C,none,.fields vs,sl⟩ C none:=⟨hx,rfl,rfl,trivial⟩
 refine PySem.W.set_plain X J c.sa (Az (s:={s with toks:=s.toks+1}) X J c ht λb=>?_)
 refine wpAny_bind (wpAny_pure (wpAny_bind (wpAny_bind (wpAny_loadPart hx (wpAny_bind (PySem.W.Looks.here (s:={s with toks:=s.toks+1}) (PySem.W.looks_clsIn X c.cls) ?_))))))
 rw[c.dict]
 have hxs:x≠s.heap.objs.size:=Nat.ne_of_lt (Heap.lt_size hx)
 have hx₁:(s.heap.push {cls:=.type "dict",data:=.dict #[]}).get? x=some ⟨.ref C,none,.fields vs,sl⟩:=Heap.get?_push_of_some _ hx
 refine wpAny_bind (wpAny_alloc ?_)
 refine wpAny_bind (wpAny_update hx₁ ?_)
 refine wpAny_pure (a:=some s.heap.objs.size) (wpAny_bind (wpAny_pure (wpAny_bind ?_)))
 have hgd:((s.heap.push {cls:=.type "dict",data:=.dict #[]}).update x λo=> {cls:=o.cls,dict:=some s.heap.objs.size,data:=o.data,slots:=o.slots}).get? s.heap.objs.size
  = some {cls:=.type "dict",data:=.dict #[]}:=(Heap.get?_update_ne _ _ _ _ hxs.symm).trans (Heap.get?_push_at rfl rfl)
 have hnd:((s.heap.push {cls:=.type "dict",data:=.dict #[]}).update x λo=> {cls:=o.cls,dict:=some s.heap.objs.size,data:=o.data,slots:=o.slots}).Ns s.heap.objs.size (λ_=>none):=
  ⟨_,#[],_,hgd,rfl,λe he=>absurd he (by simp),λ_=>rfl⟩
 refine wpAny_nsSet1 (Heap.Ns1.of_empty hnd) λh' hn' hs=>?_
 obtain⟨oD,esD,epD,hoD,hdD,hcD⟩:=hn'.count (PySem.Within.cons name v PySem.Within.nil)
 refine wpAny_bind (wpAny_lookBehind hoD (by rw[hdD];exact pastItsLine_dict (Nat.le_trans hcD (by rw[List.length_cons,List.length_nil,sizeLine_eq];omega))) ?_)
 refine wpAny_pure (h h' ?_ hn' λb o hb q=>?_)
 ·exact(hs.2 x hxs).trans (Heap.get?_update_self _ hx₁ rfl)
 ·exact(hs.2 b (Nat.ne_of_lt (Heap.lt_size q))).trans ((Heap.get?_update_ne _ _ _ _ hb).trans (Heap.get?_push_of_some _ q))
def Jx{sl:Array (Option Value)}{vs:Array Value}{dx:Addr}{mA:Str->Option Value}{ns:List Str}{Q:Unit->Shared->Prop}(X:K.In s.heap)(hx:s.heap.get? x=some ⟨.ref C,some dx,.fields vs,sl⟩)(hn:s.heap.Ns1 dx mA)(hw:PySem.Within mA ns)(hsz:ns.length<sizeLine)(c:lY K C cd bm)(ht:Ņ K C name)
 (h:∀h',h'.Ns1 dx (λy=>if y=name then some v else mA y)->Heap.SameBut dx s.heap h'->Q () {s with heap:=h',toks:=s.toks+2}) :
 wpAny (model prog w) A (setAttr (.ref x) name v) Q E s:=by
 obtain⟨od,hod,_⟩:=oY hn
 have J:PySem.W.InstAt s.heap x ⟨.ref C,some dx,.fields vs,sl⟩ C (some od):=⟨hx,rfl,rfl,hod⟩
 refine PySem.W.set_plain X J c.sa (Az (s:={s with toks:=s.toks+1}) X J c ht λb=>?_)
 refine wpAny_bind (wpAny_pure (wpAny_bind (wpAny_bind (wpAny_loadPart hx (wpAny_bind (PySem.W.Looks.here (s:={s with toks:=s.toks+1}) (PySem.W.looks_clsIn X c.cls) ?_))))))
 rw[c.dict]
 refine wpAny_pure (a:=some dx) (wpAny_bind (wpAny_pure (wpAny_bind ?_)))
 refine wpAny_nsSet1 (s:={s with toks:=s.toks+1}) hn λh' hn2 hs2=>?_
 obtain⟨oD,esD,epD,hoD,hdD,hcD⟩:=hn2.count (PySem.Within.cons name v hw)
 refine wpAny_bind (wpAny_lookBehind hoD (by rw[hdD];exact pastItsLine_dict (Nat.le_trans hcD (by rw[List.length_cons];omega))) ?_)
 exact wpAny_pure (h _ hn2 hs2)
def xga{R:Result->Shared->Prop}{u:Value}{od:Obj}{tk:Tok}(X:K.In s.heap)(I:PySem.W.InstAt s.heap x ox C (some od))(c:lY K C cd bm)(ht:Ņ K C name)(hl:PySem.W.lookIn name od=some (some u))
 (h:R (.ok (.ret u)) s):codeAny (model prog w) A (.call (.builtin "BaseException.__getattribute__") ⟨[.ref x,.str name tk],[]⟩) R s:=by
 have hk:builtinKind "BaseException.__getattribute__" =some .slot:=by decide +kernel
 have hsplit:splitId "BaseException.__getattribute__" =some ("BaseException","__getattribute__"):=by decide +kernel
 have L0:=I.type (M:=model prog w)
 have L3:=PySem.W.looks_find (M:=model prog w) X I (PySem.W.findObj_own c.Zeb ht rfl hl)
 have hsub:PySem.W.Looks (model prog w) s.heap (isInstance (.ref x) (.type "BaseException")) true:=L0.andThen (PySem.W.looks_mroIn X (c.mroIs (by decide)))
 refine codeAny_call_builtin PySem.F.attrBase_ValueError.ga.plain PySem.F.entry_bexc_ga (@PySem.W.check_slot (model prog w) _ _ s "BaseException.__getattribute__" "BaseException" "__getattribute__" (.ref x) [.str name tk] [] _ hk hsplit hsub (PySem.F.args_bexc_ga (.ref x) (.str name tk)) ?_)
 unfold Builtin.«object.__getattribute__»
 refine wpAny_bind (wpAny_pure (wpAny_bind (wpAny_pure (wpAny_bind (L0.here (wpAny_bind (L3.here (wpAny_pure ?_))))))))
 exact h
def Zg9{expr:Bool}{u:Value}{od:Obj}{Q:Value->Shared->Prop}(X:K.In s.heap)(I:PySem.W.InstAt s.heap x ox C (some od))(c:lY K C cd bm)(ht:Ņ K C name)(hl:PySem.W.lookIn name od=some (some u))(hh:PySem.W.handedIn u=true)
 (h:Q u {s with toks:=s.toks+1}):wpAny (model prog w) A (getAttr (.ref x) name expr) Q E s:=by
 have FB:=PySem.F.attrBase_ValueError
 obtain⟨hp,g,d,t,os⟩:=s
 have L0:=I.type (M:=model prog w)
 have L1:=PySem.W.looks_findIn (M:=model prog w) X c.ga
 have L2:=PySem.W.looks_findIn (M:=model prog w) X c.gg
 have L3:=PySem.W.looks_find (M:=model prog w) X I (PySem.W.findObj_own c.Zeb ht rfl hl)
 have hsub:PySem.W.Looks (model prog w) hp (isInstance (.ref x) (.type "BaseException")) true:=L0.andThen (PySem.W.looks_mroIn X (c.mroIs (by decide)))
 unfold getAttr getAttrBy
 refine wpAny_bind (wpAny_mkText (wpAny_holding (wpAny_bind (L0.at (wpAny_bind (L1.at ?_))))))
 show wpAny _ _ (getAttrByItsOwn _ _ _ _ _ _) _ _ _
 have f3:=FB.ga.bind (.ref x)
 have hx0:(expr && onTheHeap (Value.builtin "BaseException.__getattribute__"))=false:=by cases expr<;>rfl
 unfold getAttrByItsOwn hookBefore callGetattribute
 refine wpAny_bind (L2.at ?_)
 rw[hx0]
 have hk:builtinKind "BaseException.__getattribute__" =some .slot:=by decide +kernel
 have hsplit:splitId "BaseException.__getattribute__" =some ("BaseException","__getattribute__"):=by decide +kernel
 refine wpAny_bind (wpAny_attempt (wpAny_holding ?_))
 rw[if_neg (by decide)]
 unfold boundAndCalled
 rw[f3]
 refine wpAny_bind (wpAny_pure (wpAny_call ?_))
 exact xga X I c ht hl (show wpAny _ _ (handedOut u) _ _ _ by rw[PySem.W.handedOut_of hh];exact wpAny_pure h)
end
end P
namespace P
open PySem PySem.Spec PyProof.Rows L2 M2 M3 M4
def xn(a C:Addr)(d:Option Addr):HO:=.ext λh=>∃o vs,h.get? a=some o/\o.cls=.ref C/\o.dict=d/\o.data=.fields vs/\vs[1]?=some .none
def XDh(H:Hp)(a:Addr)(d:Option Addr)(fs:List (Str×V)):Prop:=(d=none/\fs=[])\/∃d0,d=some d0/\H d0=some (.xd fs)/\d0≠a
def XDn(H:Hp)(a:Addr)(d:Option Addr)(d':Addr):Prop:=d=some d'\/(d=none/\H d'=none/\d'≠a)
def A_(H:Hp)(a C:Addr)(d:Option Addr)(d':Addr)(fs:List (Str×V)):Hp:=match d with
 |some _=>upd H d' (.xd fs)
 |none=>upd (upd H d' (.xd fs)) a (xn a C (some d'))
def Ba{f g:Str}{y:V}{u:Value}{fs:List (Str×V)}{mA:Str->Option Value}(ry:RelV y u)(r:∀g,nJ (fs.lookup g) (mA g)):nJ ((cj f y fs).lookup g) (if g=f then some u else mA g):=by
 rw[jG]
 split
 ·exact ry
 ·exact r g
section
variable{X:Cx}{pins:List (Addr×Obj)}{σ:L2.St}{H:Hp}{s:Shared}{a C:Addr}{cd:ClassData}{bm:List Value}{d:Option Addr}{fs:List (Str×V)}{f:Str}{y:V}{u:Value}{A:Around}{E:Value->Shared->Prop}
def Sd{Q:Unit->Shared->Prop}(I:Inv X pins σ H s)(c:lY X.K C cd bm)(ha:H a=some (xn a C d))(hD:XDh H a d fs)(n:Ņ X.K C f)(hl:fs.length<1000)(ry:RelV y u)
 (h:∀s' d',XDn H a d d'->Inv X pins σ (A_ H a C d d' (cj f y fs)) s'->Q () s'):wpAny (model X.prog X.w) A (setAttr (.ref a) f u) Q E s:=by
 obtain⟨⟨o,vs,ho,hcl,hdi,hda,hv1⟩,_,_⟩:=(show Ź X.prog X.w H s.heap a (xn a C d) from I.hok a _ ha)
 obtain⟨ocls,odict,odata,osl⟩:=o
 dsimp only at hcl hdi hda
 subst hcl hdi hda
 rcases hD with⟨rfl,rfl⟩|⟨d0,rfl,hd0,hne⟩
 ·refine MK I.iH ho c n λh' hx' hns k=>h _ s.heap.objs.size (.inr ⟨rfl,I.hok.fresh (Nat.le_refl _),λz=>?_⟩) ?_
  ·have:=Heap.lt_size ho
   rw[z] at this
   exact Nat.lt_irrefl _ this
  ·obtain⟨od,es,ep,e1,e2⟩:=id hns
   have hfr:=(Heap.get?_some_iff.mp e1).2
   have g1:(s.heap.push od).get? s.heap.objs.size=some od:=Heap.get?_push_at rfl hfr
   have ne:s.heap.objs.size≠a:=λz=>by
    have:=Heap.lt_size ho
    rw[<-z] at this
    exact Nat.lt_irrefl _ this
   have I1:Inv X pins σ (upd H s.heap.objs.size (.xd (cj f y []))) {s with heap:=s.heap.push od,toks:=s.toks}:=
    I.laid (λb o q=>Heap.get?_push_of_some _ q) (Nat.le_refl _) ⟨_,hns.at λo q=>by rw[e1] at q;cases q;exact g1,λg=>Ba (fs:=[]) (mA:=λ_=>none) ry λ_=>trivial⟩
   refine I1.write (x:=a) (e:=a) (h':=h') (by rw[Ę (Ne.symm ne),ha];exact trivial) (.inl rfl) (λb o hb q=>?_) ⟨_,hx'⟩ ?_
   ·rcases Heap.get?_push_cases q with⟨rfl,rfl⟩|q
    ·exact e1
    ·exact k b o hb q
   ·refine⟨⟨_,vs,hx',rfl,rfl,rfl,hv1⟩,⟨_,hx'⟩,?_⟩
    rintro h1 h2 ⟨o,ws,q1,q2⟩ kk
    exact⟨o,ws,kk o q1,q2⟩
 ·obtain⟨mA,hns,r⟩:=(show Ź X.prog X.w H s.heap d0 (.xd fs) from I.hok d0 _ hd0)
  have wi:PySem.Within mA (fs.map (·.1)):=λg hg=>by
   refine Classical.byContradiction λhn=>hg (nJ.none_of ?_)
   rw[<-pI (m:=g) (fs:=fs) (by simpa using hn)]
   exact r g
  refine Jx I.iH ho hns wi (by rw[List.length_map,sizeLine_eq];omega) c n λh' hn2 sb=>h _ d0 (.inl rfl) ?_
  exact I.write (x:=d0) (e:=d0) (by rw[hd0];exact trivial) (.inl rfl) (λb o hb q=>(sb.2 b hb).trans q) (let ⟨o,_,_,e,_⟩:=hn2;⟨o,e⟩) ⟨_,hn2,λg=>Ba ry r⟩
def tXF(C:Addr)(f:Str)(j:Nat):TS:=λD σ H=>∃a d fs y,σ[0]?=some (some (.ref a))/\σ[j]?=some (some y)/\H a=some (xn a C d)/\XDh H a d fs/\fs.length<1000/\∀d',XDn H a d d'->D.nx σ (A_ H a C d d' (cj f y fs))
def tXB(C:Addr):List (Str×Nat)->TS
 | []=>TY
 |(f,j)::r=>Zdj (tXF C f j) (tXB C r)
variable{o value:Expr}{pos pos':Pos}{j:Nat}{ss:List Stmt}{r:List (Str×Nat)}
def MN(q:aX X.K C=true)(n:Ņ X.K C f)(ho:PE X o (wF 0))(hv:PE X value (wF j))(hs:swapsWith value (some (.Attribute o f pos')) pos.line X.env=pure false:=by rfl):PS X (.Assign [.Attribute o f pos'] value pos) (tXF C f j):=by
 intro pins s σ H D I ⟨a,d,fs,y,h0,hj,ha,hD,hl,h⟩
 obtain⟨cd,bm,c⟩:=i_ q
 refine plainObj_wpAny_Assign_Attribute (Ŭ (hv pins s σ H (λv H1=>v=y/\H1=H) I ⟨y,hj,rfl,rfl⟩) λu s1 ⟨y1,H1,I1,ry,e1,e2⟩=>?_) hs
 subst e1 e2
 refine Ŭ (ho pins s1 σ _ (λv H2=>v=.ref a/\H2=H1) I1 ⟨_,h0,rfl,rfl⟩) λov s2 ⟨x,H2,I2,rx,e1,e2⟩=>?_
 subst e1 e2
 obtain rfl:ov=Value.ref a:=rx
 exact Sd I2 c ha hD n hl ry λs3 d' hn I3=>⟨σ,_,I3,h d' hn⟩
def MP:lW X [] (tXB C []):=Gs
def xO(h1:PS X (.Assign [.Attribute o f pos'] value pos) (tXF C f j))(h2:lW X ss (tXB C r)):lW X (.Assign [.Attribute o f pos'] value pos::ss) (tXB C ((f,j)::r)):=zV h1 h2
end
def xiV:List (Str×Nat)->List V->List (Str×V)->Option (List (Str×V))
 | [],_,fs=>some fs
 |(f,j)::r,vs,fs=>match vs[j]? with
  |some v=>xiV r vs (cj f v fs)
  |none=>none
theorem M_{D:Ends}{σ:L2.St}{a C:Addr}{vs:List V}(h0:σ[0]?=some (some (.ref a)))(hσ:∀(j:Nat) v,vs[j]?=some v->σ[j]?=some (some v)):∀{fl:List (Str×Nat)} {d:Option Addr} {fs fs':List (Str×V)} {H:Hp},H a=some (xn a C d)->XDh H a d fs->fs.length+fl.length<1000->xiV fl vs fs=some fs'->
 (∀H' d',H' a=some (xn a C d')->XDh H' a d' fs'->(∀b u,b≠a->d≠some b->H b=some u->H' b=some u)->(∀d0,d'=some d0->d=some d0\/H d0=none)->D.nx σ H')->tXB C fl D σ H
 | [],d,fs,fs',H,ha,hD,hl,e,k=>by
   cases e
   exact k H d ha hD (λ_ _ _ _ q=>q) λd0 q=>.inl q
 |(f,j)::r,d,fs,fs',H,ha,hD,hl,e,k=>by
  unfold xiV at e
  cases ej:vs[j]? with
  |none=>rw[ej] at e;cases e
  |some y=>
   rw[ej] at e
   rw[List.length_cons] at hl
   refine⟨a,d,fs,y,h0,hσ j y ej,ha,hD,by omega,λd' hn=>?_⟩
   have hda:d'≠a:=by
    rcases hn with rfl|⟨_,_,q⟩
    ·rcases hD with⟨q,_⟩|⟨d0,q,_,z⟩
     ·cases q
     ·cases q;exact z
    ·exact q
   have e1:A_ H a C d d' (cj f y fs) a=some (xn a C (some d')):=by
    unfold A_
    rcases hn with rfl|⟨rfl,_,_⟩
    ·dsimp only;rw[Ę (Ne.symm hda)];exact ha
    ·exact Ī
   have e2:A_ H a C d d' (cj f y fs) d'=some (.xd (cj f y fs)):=by
    unfold A_
    cases d with
    |some _=>exact Ī
    |none=>dsimp only;rw[Ę hda];exact Ī
   have e3:∀b,b≠a->b≠d'->A_ H a C d d' (cj f y fs) b=H b:=λb h1 h2=>by
    unfold A_
    cases d with
    |some _=>exact Ę h2
    |none=>dsimp only;rw[Ę h1,Ę h2]
   have hlen:=jH f y fs
   show tXB C r _ σ _
   refine M_ (fl:=r) (d:=some d') (fs:=cj f y fs) (fs':=fs') h0 hσ e1 (.inr ⟨d',rfl,e2,hda⟩) (by omega) e λH' d'' q1 q2 q3 q4=>k H' d'' q1 q2 (λb u h1 h2 h3=>?_) λd0 z=>?_
   ·have hb:b≠d':=fun z=>by
     rcases hn with q|⟨_,q,_⟩
     ·exact h2 (by rw[q,z])
     ·rw[z,q] at h3;cases h3
    exact q3 b u h1 (λz=>hb (by cases z;rfl)) (by rw[e3 b h1 hb];exact h3)
   ·rcases q4 d0 z with q|q
    ·cases q
     rcases hn with q|⟨_,q,_⟩
     ·exact .inl q
     ·exact .inr q
    ·have n1:d0≠a:=λz=>by rw[z,e1] at q;cases q
     have n2:d0≠d':=λz=>by rw[z,e2] at q;cases q
     rw[e3 d0 n1 n2] at q
     exact .inr q
def spX(n:Nat)(C:Addr)(fl:List (Str×Nat)):Sp:=λvs H Q _=>∃a vs' fs,vs=.ref a::vs'/\vs'.length+1=n/\H a=some (xn a C none)/\fl.length<1000/\xiV fl vs []=some fs/\
 ∀H' d',H' a=some (xn a C d')->XDh H' a d' fs->(∀b u,b≠a->H b=some u->H' b=some u)->(∀d0,d'=some d0->H d0=none)->Q .non H'
def vH{N:List Str}{vs:List V}{j:Nat}{v:V}(e:vs[j]?=some v):(L2.start N vs)[j]?=some (some v):=by
 unfold L2.start
 obtain⟨hj,e'⟩:=List.getElem?_eq_some_iff.mp e
 rw[List.getElem?_append_left (by simpa using hj)]
 simp[e]
section
variable{P:Program}{w:World}{K:PySem.W.Frag}{mg:Str->Option Value}{base:Heap}{CX:qj}
def fnX{x qual:Str}{st:Stmt}{f:Addr}{fd:FuncData}{N ps:List Str}{k n:Nat}{C:Addr}{fl:List (Str×Nat)}(F:Kz K x qual st f fd)(S:Ė N ps (ć st))(hn:ps.length=n)
 (hbody:∀(cdv:Value) (A:Around) (outer:List Env) (s:Shared) (H:Hp) (E:XK),lW (cQ CX P w K mg base N qual (ć st) f cdv A outer s H E) (Ŗ st) (tXB C fl)):ī P w K mg base CX (k+1) f fd ps (spX n C fl):=by
 subst hn
 obtain⟨oc,od,kV,doc,pm,an,cdv,ct,osl,rfl,lk,hcd⟩:=F.ex
 refine zX lk hcd S (λvs H Q E ⟨a,vs',fs,h1,h2,_⟩=>by rw[h1,List.length_cons];exact h2) λA outer s H vs Q E hr hsp=>?_
 obtain⟨a,vs',fs,rfl,h2,h3,h4,h5,h6⟩:=hsp
 refine⟨_,hbody cdv A outer s H E,M_ (vs:=.ref a::vs') (vH rfl) (λj v e=>vH e) h3 (.inl ⟨rfl,rfl⟩) (by simpa using h4) h5 λH' d' q1 q2 q3 q4=>h6 H' d' q1 q2 (λb u hb q=>q3 b u hb (by intro z;cases z) q) λd0 z=>?_⟩
 rcases q4 d0 z with q|q
 ·cases q
 ·exact q
end
def gK.Zg_{P:Program}{w:World}{H:Hp}{h:Heap}{ea Ca:Addr}{d:Option Addr}{oe:Obj}{vs:Array Value}(k:gK P w H h)(hn:H ea=none)(he:h.get? ea=some oe)(hc:oe.cls=.ref Ca)(hdi:oe.dict=d)(hd:oe.data=.fields vs)(h1:vs[1]?=some .none):gK P w (upd H ea (xn ea Ca d)) h:=λb u e=>by
 by_cases hb:b=ea
 ·subst hb
  rw[Ī] at e
  cases e
  refine⟨⟨oe,vs,he,hc,hdi,hd,h1⟩,⟨oe,he⟩,?_⟩
  rintro h1 h2 ⟨o,ws,q1,q2⟩ kk
  exact⟨o,ws,kk o q1,q2⟩
 ·rw[Ę hb] at e
  exact(k b u e).stay (λ_ _ _ q=>q) (λc q=>by rw[Ę (Ġ q hn)];exact q) (λc xs q=>by rw[Ę (Ġ q hn)];exact q) λc xs q=>by rw[Ę (Ġ q hn)];exact q
def Inv.Zha{X:Cx}{pins:List (Addr×Obj)}{σ:L2.St}{H:Hp}{s:Shared}{h':Heap}{e Ca:Addr}{d:Option Addr}{oe:Obj}{vs:Array Value}{t':Nat}(I:Inv X pins σ H s)(k:∀b o,s.heap.get? b=some o->h'.get? b=some o)(new:s.heap.get? e=none)
 (he:h'.get? e=some oe)(hc:oe.cls=.ref Ca)(hdi:oe.dict=d)(hd:oe.data=.fields vs)(h1:vs[1]?=some .none):Inv X pins σ (upd H e (xn e Ca d)) {s with heap:=h',toks:=t'}:=by
 have hn:H e=none:=xM I.hok new
 have u:Un X.fs [] H H s.heap h':=Un.kept k
 refine I.un ⟨u.keep,u.slot,λb o q n hx=>?_,u.there,λb xs q=>?_,λb o v q=>?_,λb ps q=>?_⟩ (gK.Zg_ (I.hok.kept k) hn he hc hdi hd h1)
 ·have hb:b≠e:=λz=>by rw[z,new] at q;cases q
  rw[Ę hb];exact n
 ·rw[Ę (Ġ q hn)];exact q
 ·rw[Ę (Ġ q hn)];exact q
 ·rw[Ę (Ġ q hn)];exact q
def Nb:List (Str×Nat)->List PV->List Str->List PV->Option (List Str×List PV)
 | [],_,ns,qs=>some (ns,qs)
 |(_,0)::_,_,_,_=>none
 |(f,j+1)::r,ps,ns,qs=>match ps[j]? with
  |some p=>Nb r ps (putN f ns) (qP f p ns qs)
  |none=>none
theorem Bb{K:KK}{F:Hp}:∀{ps:List PV} {vs:List V} {j:Nat} {p:PV},Ģ K F ps vs->ps[j]?=some p->∃v,vs[j]?=some v/\Rep K F p v
 | [],_,_,_,_,e=>by simp at e
 |q::ps,vs,j,p,h,e=>by
  unfold Ģ at h
  obtain⟨x,r,rfl,h1,h2⟩:=h
  cases j with
  |zero=>cases e;exact⟨x,rfl,h1⟩
  |succ j=>rw[List.getElem?_cons_succ] at e ⊢;exact Bb h2 e
theorem Nf{K:KK}{F:Hp}{ps:List PV}{vs:List V}{e:V}(h:Ģ K F ps vs):∀{fl:List (Str×Nat)} {ns ns':List Str} {qs qs':List PV} {fs:List (Str×V)},Nb fl ps ns qs=some (ns',qs')->fs.map (·.1)=ns->Ģ K F qs (fs.map (·.2))->
 ∃fs',xiV fl (e::vs) fs=some fs'/\fs'.map (·.1)=ns'/\Ģ K F qs' (fs'.map (·.2))
 | [],ns,ns',qs,qs',fs,z,hn,hq=>by cases z;exact⟨fs,rfl,hn,hq⟩
 |(f,0)::r,ns,ns',qs,qs',fs,z,hn,hq=>by cases z
 |(f,j+1)::r,ns,ns',qs,qs',fs,z,hn,hq=>by
  unfold Nb at z
  cases ej:ps[j]? with
  |none=>rw[ej] at z;cases z
  |some p=>
   rw[ej] at z
   obtain⟨v,ev,rv⟩:=Bb h ej
   unfold xiV
   rw[List.getElem?_cons_succ,ev]
   subst hn
   obtain⟨z1,z2⟩:=xH (f:=f) (p:=p) rv hq
   exact Nf h (fs:=cj f v fs) z z1 z2
def rH(C:String)(n:Nat)(fl:List (Str×Nat))(ms:M (List PV)):M Fl:=λρ=>(ms ρ).bind λps ρ1=>if ps.length+1=n/\ps.length<1000/\fl.length<1000 then(match Nb fl ps [] [] with
 |some (ns,qs)=>.exc ⟨C,ns,qs⟩ ρ1
 |none=>.bad) else .bad
section
variable{X:Cx}{cm:String->Addr}{E:L2.St->XK}{e:Expr}{es:List Expr}{pos p:Pos}{CX:qj}{k n:Nat}{f:Addr}{fd:FuncData}{ps:List Str}{C:String}{fl:List (Str×Nat)}{ms:M (List PV)}{x:Str}
structure XMk(K:PySem.W.Frag)(C f:Addr):Prop where
 x:aX K C=true
 kp:PySem.W.keepIn K (.ref C)=true
 init:PySem.W.findIn K (.ref C) "__init__" =some (some (.ref f))
 fn:PySem.W.typeIn K (.ref f)=some (.type "function")
def Jy{pins:List (Addr×Obj)}{σ:L2.St}{H:Hp}{s:Shared}{G:Value->Shared->Prop}{us:List Value}{vs:List V}{sp:Sp}{C:Addr}{T:Addr->Hp->Prop}(M:XMk X.K C f)(F:ī X.prog X.w X.K X.mg X.base CX k f fd ps sp)(hr:aD (k+1) X.A)(hb:Binds X.K fd ps [])
 (hx:cV CX X E)(I:Inv X pins σ H s)(r:Vals vs us)(hl:us.length<=sizeLine)
 (h:∀x,H x=none->sp (.ref x::vs) (upd H x (xn x C none)) (λv H2=>v=.non/\T x H2) (E σ))
 (k:∀x H2 s',H x=none->s.heap.get? x=none->Inv X pins σ H2 s'->T x H2->G (.ref x) s') :
 wpAny (model X.prog X.w) X.A (call (.ref C) us) G X.xe s:=by
 obtain⟨cd,bm,c⟩:=i_ M.x
 refine Zec I.iH c M.init M.fn hl λh' e hm=>?_
 obtain⟨t,he,_,_⟩:=hm.there
 have hn:H e=none:=xM I.hok hm.new
 have I2:Inv X pins σ (upd H e (xn e C none)) {s with heap:=h',toks:=s.toks}:=Inv.Zha I hm.keeps hm.new he rfl rfl rfl rfl
 have hq:=h e hn
 have r2:Vals (V.ref e::vs) (Value.ref e::us):=.cons rfl r
 have hl:(Value.ref e::us ++ []).length=ps.length:=by
  have q:=r2.length
  rw[F.len _ _ _ _ hq] at q
  rw[List.append_nil]
  exact q.symm
 have hbd:=hb {s with heap:=h'} (Value.ref e::us) I2.iH hl
 rw[List.append_nil] at hbd
 refine wpAny_call (codeAny_mono (F.run _ X.stack _ _ ⟨Value.ref e::us,[]⟩ _ _ _ (E σ) (hr.make C us []) (I2.env0.make C us []) hbd r2 hq) λr s' hq'=>?_)
 cases r with
 |error e=>exact hx pins σ _ _ e s' I2 hq'
 |ok fl=>
  cases fl with
  |ret u=>
   obtain⟨v,H',I3,rv,ev,q3⟩:=I2.after hq'
   subst ev
   exact⟨rv,k e H' s' hn hm.new I3 q3⟩
  |next=>exact False.elim hq'
  |brk=>exact False.elim hq'
  |cont=>exact False.elim hq'
def rem(H:Hp)(a:Addr):Hp:=λb=>if b=a then none else H b
def jc{H:Hp}{a b:Addr}(h:b≠a):rem H a b=H b:=if_neg h
def Bc{H:Hp}{a:Addr}:rem H a a=none:=if_pos rfl
def nY{H:Hp}{a b:Addr}(h:H b=none):rem H a b=none:=by
 unfold rem
 split
 ·rfl
 ·exact h
def Inv.drop{pins:List (Addr×Obj)}{σ:L2.St}{H:Hp}{s:Shared}{a:Addr}{φ:Heap->Prop}(I:Inv X pins σ H s)(ha:H a=some (.ext φ)):Inv X pins σ (rem H a) s:=by
 have ne:∀b u,H b=some u->(∀ψ,u≠ .ext ψ)->b≠a:=λb u q n z=>by rw[z,ha] at q;cases q;exact n _ rfl
 refine⟨I.ok,I.os,I.bare,⟨I.base.keep,I.base.slot,λb o q n hx=>nY (I.base.free b o q n hx),I.base.there,λb xs q=>?_,λb o u q=>?_,λb ps q=>?_⟩,I.loc,I.cell,nY I.free,λx c e=>nY (I.dz x c e),λp hp=>?_,λb u e=>?_,I.len⟩
 ·have q':=I.base.tups b xs q
  rw[jc (ne b _ q' (by intro ψ z;cases z))];exact q'
 ·have q':=I.base.iG b o u q
  rw[jc (ne b _ q' (by intro ψ z;cases z))];exact q'
 ·have q':=I.base.gF b ps q
  rw[jc (ne b _ q' (by intro ψ z;cases z))];exact q'
 ·obtain⟨h1,h2,h3⟩:=I.pin p hp
  exact⟨h1,nY h2,h3⟩
 ·have hb:b≠a:=λz=>by rw[z,Bc] at e;cases e
  rw[jc hb] at e
  exact(I.hok b u e).stay (λ_ _ _ q=>q) (λc q=>by rw[jc (ne c _ q (by intro ψ z;cases z))];exact q) (λc xs q=>by rw[jc (ne c _ q (by intro ψ z;cases z))];exact q) λc xs q=>by rw[jc (ne c _ q (by intro ψ z;cases z))];exact q
def Zed{K:KK}{c:Ctx}{F1 H1 H':Hp}{σ:L2.St}{ρ1:ŝ}{x Ca:Addr}{d':Option Addr}{fs:List (Str×V)}(ě:Rel K c F1 H1 σ ρ1)(hx:H1 x=none)(hD:XDh H' x d' fs)(hH:∀b u,b≠x->upd H1 x (xn x Ca none) b=some u->H' b=some u)
 (hd:∀d0,d'=some d0->upd H1 x (xn x Ca none) d0=none):∃F',Rel K c F' H' σ ρ1/\Same F1 F'/\Same H1 H'/\qm F' d' fs/\F' x=none:=by
 have sH:Same H1 H':=λb u e=>hH b u (Ġ e hx) (by rw[Ę (Ġ e hx)];exact e)
 have r2:Rel K c F1 H' σ ρ1:=ě.call ⟨sH,Same.refl _,ě.sub.trans sH,λ_ _ q=>q⟩
 rcases hD with⟨rfl,rfl⟩|⟨d0,rfl,h2,hne⟩
 ·exact⟨F1,r2,Same.refl _,sH,.inl ⟨rfl,rfl⟩,ě.sub.free hx⟩
 ·have n0:H1 d0=none:=by
   have:=hd d0 rfl
   rw[Ę hne] at this
   exact this
  refine⟨upd F1 d0 (.xd fs),r2.freeze h2 (ě.base.free n0) (ě.sub.free n0) (ě.fresh n0),Same.upd (ě.sub.free n0),sH,.inr ⟨d0,rfl,Ī⟩,?_⟩
  rw[Ę (Ne.symm hne)]
  exact ě.sub.free hx
end
section
variable{M:Model}{A:Around}{E:Value->Shared->Prop}{s:Shared}{K:PySem.W.Frag}{env:Env}
def Sg{x:Sem Value}{Q:Flow->Shared->Prop}(hh:A.handled=none)
 (h:wpAny M A x (λv s₁=>∃e C oe vs oC,v=.ref e/\K.In s₁.heap/\s₁.heap.get? C=some oC/\oC.cls=.type "type" /\PySem.W.mroIn K C (.type "BaseException")=some true/\s₁.heap.get? e=some oe/\oe.cls=.ref C/\oe.data=.fields vs/\vs[1]?=some .none/\E (.ref e) s₁) E s) :
 wpAny M A (raiseStmt env (some x) none) Q E s:=by
 unfold raiseStmt
 refine wpAny_bind (wpAny_mono h (λv s₁ h₁=>?_) λ_ _ x=>x)
 obtain⟨e,C,oe,vs,oC,rfl,KX,hC,hCt,hm,he,hc,hd,h1,hE⟩:=h₁
 have L4:=PySem.W.looks_mroIn (M:=M) KX hm
 obtain⟨hp,g,d,tk,os⟩:=s₁
 obtain⟨ocls,odict,odata,osl⟩:=oe
 dsimp only at hc hd
 subst hc hd
 repeat (first|with_reducible refine wpAny_loadPart_at he ?_|(with_reducible refine wpAny_loadPart_at hC ?_;rw[hCt])|with_reducible refine PySem.W.Looks.at L4 ?_|with_reducible refine wpAny_field he rfl h1 ?_|wp_step)
 exact wpAny_raiseNew_none hh hE
end
section
variable{X:Cx}{cm:String->Addr}{E:L2.St->XK}{e:Expr}{es:List Expr}{pos cpos np:Pos}{CX:qj}{k n:Nat}{f:Addr}{fd:FuncData}{ps:List Str}{C:String}{fl:List (Str×Nat)}{ms:M (List PV)}{x:Str}
def ű.bindL{K:KK}{c:Ctx}{F H:Hp}{σ:L2.St}{D:Ends}{Q':List V->Hp->Prop}{r:Res (List PV)}{g:List PV->ŝ->Res Fl}(h:ű K E c F D (r.bind g))
 (k:∀p ρ1 v F1 H1,Rel K c F1 H1 σ ρ1->Same F F1->Same H H1->Ģ K F1 p v->ű K E c F1 D (g p ρ1)->Q' v H1):cP K E (rL K) c F H σ Q' r:=by
 cases r with
 |bad=>exact h
 |exc x ρ'=>exact λC d F' H' rel s1 q=>h σ C d F' H' rel s1 q
 |ok p ρ1=>exact λv F' H' rel s1 s2 q=>k p ρ1 v F' H' rel s1 s2 q (ű.mono h s1)
def Dr{c:Ctx}{F1 H1:Hp}{σ:L2.St}{ρ1:ŝ}{D:Ends}{qs:List PV}{vs:List V}(ě:Rel (kk X cm) c F1 H1 σ ρ1)(r1:Ģ (kk X cm) F1 qs vs)
 (h:ű (kk X cm) E c F1 D (if qs.length+1=n/\qs.length<1000/\fl.length<1000 then(match Nb fl qs [] [] with|some (ns,qs)=>.exc ⟨C,ns,qs⟩ ρ1|none=>.bad) else .bad)) :
 vs.length<=sizeLine/\∀x,H1 x=none->spX n (cm C) fl (.ref x::vs) (upd H1 x (xn x (cm C) none)) (λv H2=>v=.non/\∃d',H2 x=some (xn x (cm C) d')/\E σ (.ref (cm C)) d' (rem H2 x)) (E σ):=by
 split at h
 case isFalse=>exact h.elim
 rename_i hz
 cases ex:Nb fl qs [] [] with
 |none=>rw[ex] at h;exact h.elim
 |some z=>
  obtain⟨ns,ws⟩:=z
  rw[ex] at h
  refine⟨by rw[<-Ģ.length r1,Ř];omega,λx hx=>?_⟩
  obtain⟨fs,e1,e2,e3⟩:=Nf (e:=.ref x) r1 (fs:=[]) ex rfl Ģ.nil
  refine⟨x,vs,fs,rfl,by rw[<-Ģ.length r1];exact hz.1,Ī,hz.2.2,e1,λH' d' q1 q2 q3 q4=>⟨rfl,d',q1,?_⟩⟩
  have q2':XDh (rem H' x) x d' fs:=by
   rcases q2 with q|⟨d0,z1,z2,z3⟩
   ·exact .inl q
   ·exact .inr ⟨d0,z1,by rw[jc z3];exact z2,z3⟩
  obtain⟨F',rl,sF,sH,xd,fx⟩:=Zed (Ca:=cm C) ě hx q2' (λb u hb q=>by rw[jc hb];exact q3 b u hb q) q4
  exact h σ _ _ F' _ rl sF ⟨rfl,fs,xd,e2,Ģ.same sF _ _ e3⟩
def Bd(hc:X.calm=true)(hex:X.ex=[])(hrs:xJ X E)(M:XMk X.K (cm C) f)(F:ī X.prog X.w X.K X.mg X.base CX k f fd ps (spX n (cm C) fl))(hr:aD (k+1) X.A)(hg:Gl X x)(hm:X.mg x=some (.ref (cm C)))(hb:Binds X.K fd ps [])(hx:cV CX X E)
 (ha:PA X (e::es) (tL (kk X cm) E ms))(hdb:(x== ("__debug__" :Str))=false:=by decide)(he:starEach (e::es) X.env=(false,eval e X.env)::starEach es X.env:=by exact Ĵ rfl)(hpl:(backTo cpos (starEach es X.env)).any (·.1)=false:=by rfl) :
 PS X (.Raise (some (.Call (.Name x np) (e::es) [] cpos)) none pos) (tS (kk X cm) E (rH C n fl ms)):=by
 intro pins s σ H D I ⟨c,F',ρ,rel,h⟩
 rw[arm_exec_Raise]
 refine wpAny_bind (wpAny_standAt ?_)
 show wpAny _ _ (raiseStmt X.env (some (do let v <-eval (.Call (.Name x np) (e::es) [] cpos) X.env;standAt pos;pure v)) none) _ _ _
 refine Sg (K:=X.K) (I.ok.hd hc) (wpAny_bind ?_)
 obtain⟨cd,bm,xc⟩:=i_ M.x
 obtain⟨dd,k0,k1,k2,k3,k5,lC⟩:=xc.at_
 refine wpAny_mono (wpAny_Call_Name_kw (lB I hg hm (PySem.W.callWith_K (h₀:= X.base) I.ok.mod.kin M.kp (Ŭ (ha cpos pins s σ H (λvs H1=>vs.length<=sizeLine/\∀x,H1 x=none->spX n (cm C) fl (.ref x::vs) (upd H1 x (xn x (cm C) none)) (λv H2=>v=.non/\∃d',H2 x=some (xn x (cm C) d')/\E σ (.ref (cm C)) d' (rem H2 x)) (E σ)) I
  ⟨c,F',ρ,rel,ű.bindL h fun qs ρ1 vs F1 H1 ě _ _ r1 h1=>Dr ě r1 h1⟩) fun us s1 ⟨vs,H1,I1,r,q0,q⟩=>⟨I1.iH,Jy (G:=fun v s₁=>∃e C oe vs oC,v=.ref e∧X.K.In s₁.heap∧s₁.heap.get? C=some oC∧oC.cls=.type "type" ∧PySem.W.mroIn X.K C (.type "BaseException")=some true∧s₁.heap.get? e=some oe∧oe.cls=.ref C∧oe.data=.fields vs∧vs[1]?=some .none∧X.xe (.ref e) s₁)
    M F hr hb hx I1 r (by rw[<-Vals.length r];exact q0) q λy H2 s' _ hnew I3 ⟨d',h1,h2⟩=>?_⟩) he hpl) hdb)) (λv s3 h3=>wpAny_bind (wpAny_standAt (wpAny_pure h3))) λ_ _ z=>z
 obtain⟨⟨oe,ws,ho,hcl,hdi,hda,hv1⟩,_,_⟩:=(show Ź X.prog X.w H2 s'.heap y (xn y (cm C) d') from I3.hok y _ h1)
 refine⟨y,cm C,oe,ws,_,rfl,I3.iH,I3.iH _ _ lC,rfl,xc.mroIs (by decide),ho,hcl,hda,hv1,?_⟩
 exact hrs pins σ (rem H2 y) s' y oe ws (Inv.drop I3 h1) ho hda hv1 Bc (Inv.Zd8 I1 hex hnew) (by rw[hcl,hdi];exact h2)
def kh(cs:List String)(f:Str):PV->Option PV
 | .xc C ns ps=>if cs.contains C=true then(ns.zip ps).lookup f else none
 |_=>none
def Ds{fn:Str}{m:M PV}(cs:List String)(hcs:iZ (λC=>aX X.K (cm C)=true/\Ņ X.K (cm C) fn) cs)(he:PE X e (tV (kk X cm) E m))(hb:attributeBase e fn X.env (eval e X.env)=eval e X.env:=by rfl):PE X (.Attribute e fn pos) (tV (kk X cm) E (pD (kh cs fn) m)):=by
 intro pins s σ H Q I ⟨c,F,ρ,rel,h⟩
 refine Gw hb (Ŭ (he pins s σ H (λx H1=>∃a C d d0 fs v,x=.ref a/\H1 a=some (xo a C d)/\d=some d0/\H1 d0=some (.xd fs)/\aX X.K C=true/\Ņ X.K C fn/\fs.lookup fn=some v/\Q v H1) I ⟨c,F,ρ,rel,h.bind λp ρ1 v F1 H1 ě _ _ r1 h1=>?_⟩) λu s1 ⟨x,H1,I1,rx,a,C,d,d0,fs,v,ex,e1,e2,e3,k1,k2,l,q⟩=>?_)
 ·cases p with
  |xc C ns ps=>
   unfold kh at h1
   dsimp only at h1
   split at h1
   ·rename_i hc
    have r2:Rep (kk X cm) F1 (.xc C ns ps) v:=r1
    unfold Rep at r2
    obtain⟨a,d,fs,rfl,q2,q3,q4,q5⟩:=r2
    cases el:(ns.zip ps).lookup fn with
    |none=>rw[el] at h1;exact h1.elim
    |some q=>
     rw[el] at h1
     subst q4
     obtain⟨v,e1,e2⟩:=nq q5 el
     obtain⟨k1,k2⟩:=hcs.get hc
     rcases q3 with⟨_,rfl⟩|⟨d0,z1,z2⟩
     ·cases e1
     ·exact⟨a,_,d,d0,fs,v,rfl,ě.sub _ _ q2,z1,ě.sub _ _ z2,k1,k2,e1,h1 v F1 H1 ě (Same.refl _) (Same.refl _) e2⟩
   ·exact h1.elim
  |_=>exact h1.elim
 ·subst ex e2
  obtain rfl:u=Value.ref a:=rx
  obtain⟨cd,bm,xc⟩:=i_ k1
  obtain⟨⟨o,ws,ho,hcl,hdi,hda⟩,_,_⟩:=(show Ź X.prog X.w H1 s1.heap a (xo a C (some d0)) from I1.hok a _ e1)
  obtain⟨mA,hns,r⟩:=(show Ź X.prog X.w H1 s1.heap d0 (.xd fs) from I1.hok d0 _ e3)
  obtain⟨od,hod,hlk⟩:=oY hns
  obtain⟨u,hu,ru⟩:=nJ.some_of (v:=v) (o:=mA fn) (by rw[<-l];exact r fn)
  obtain⟨ocls,odict,odata,osl⟩:=o
  dsimp only at hcl hdi hda
  subst hcl hdi hda
  exact Zg9 I1.iH (ox:=⟨.ref C,some d0,.fields ws,osl⟩) (od:=od) ⟨ho,rfl,rfl,hod⟩ xc k2 (by rw[hlk,hu]) (uW ru) ⟨v,H1,I1.tok _,ru,q⟩
end
end P
namespace P
open PySem PySem.Spec PyProof.Rows L2 M2 M3 M4 Builtin Builtin.ObjectAttr
def cD(K:PySem.W.Frag)(C:Addr):Bool:=aX K C && PySem.W.findIn K (.ref C) "__class__" == some (some (.builtin "object.__class__")) && PySem.W.specialIn K (.builtin "object.__class__") "__get__" == some (some (.builtin "getset_descriptor.__get__")) && PySem.W.takesIn K (.builtin "object.__class__")== some true
def sV{K:PySem.W.Frag}{C:Addr}(q:cD K C=true):aX K C=true/\PySem.W.findIn K (.ref C) "__class__" =some (some (.builtin "object.__class__"))/\PySem.W.specialIn K (.builtin "object.__class__") "__get__" =some (some (.builtin "getset_descriptor.__get__"))/\PySem.W.takesIn K (.builtin "object.__class__")=some true:=by
 unfold cD at q
 simp only[Bool.and_eq_true,beq_iff_eq] at q
 obtain⟨⟨⟨z1,z2⟩,z3⟩,z4⟩:=q
 exact⟨z1,z2,z3,z4⟩
section
variable{prog:Program}{w:World}{A:Around}{E:Value->Shared->Prop}{s:Shared}{K:PySem.W.Frag}{x C:Addr}{ox:Obj}{od:Option Obj}
def Sh{R:Result->Shared->Prop}{tk:Tok}(X:K.In s.heap)(I:PySem.W.InstAt s.heap x ox C od)(q:cD K C=true)
 (h:R (.ok (.ret (.ref C))) s):codeAny (model prog w) A (.call (.builtin "BaseException.__getattribute__") ⟨[.ref x,.str "__class__" tk],[]⟩) R s:=by
 obtain⟨q0,q1,q2,q3⟩:=sV q
 obtain⟨cd,bm,c⟩:=i_ q0
 have hk:builtinKind "BaseException.__getattribute__" =some .slot:=by decide +kernel
 have hsplit:splitId "BaseException.__getattribute__" =some ("BaseException","__getattribute__"):=by decide +kernel
 have L0:=I.type (M:=model prog w)
 have hf:PySem.W.findObj K C od "__class__" =some (.bind (.builtin "getset_descriptor.__get__") (.builtin "object.__class__")):=by
  unfold PySem.W.findObj
  rw[c.cls,Option.bind_some,q1,Option.bind_some]
  simp[q2,q3]
 have L3:=PySem.W.looks_find (M:=model prog w) X I hf
 have hsub:PySem.W.Looks (model prog w) s.heap (isInstance (.ref x) (.type "BaseException")) true:=L0.andThen (PySem.W.looks_mroIn X (c.mroIs (by decide)))
 refine codeAny_call_builtin PySem.F.attrBase_ValueError.ga.plain PySem.F.entry_bexc_ga (@PySem.W.check_slot (model prog w) _ _ s "BaseException.__getattribute__" "BaseException" "__getattribute__" (.ref x) [.str "__class__" tk] [] _ hk hsplit hsub (PySem.F.args_bexc_ga (.ref x) (.str "__class__" tk)) ?_)
 unfold Builtin.«object.__getattribute__»
 refine wpAny_bind (wpAny_pure (wpAny_bind (wpAny_pure (wpAny_bind (L0.here (wpAny_bind (L3.here ?_)))))))
 refine wpAny_bind (wpAny_holding (wpAny_call (PySem.W.class_get X I (c.mroIs (by decide)) ?_)))
 exact wpAny_pure h
def Ng{Q:Option Value->Shared->Prop}(X:K.In s.heap)(I:PySem.W.InstAt s.heap x ox C od)(q:cD K C=true)
 (h:Q (some (.ref C)) {s with toks:=s.toks+1}):wpAny (model prog w) A (getAttr? (.ref x) "__class__") Q E s:=by
 obtain⟨q0,q1,q2,q3⟩:=sV q
 obtain⟨cd,bm,c⟩:=i_ q0
 have FB:=PySem.F.attrBase_ValueError
 obtain⟨hp,g,d,t,os⟩:=s
 have L0:=I.type (M:=model prog w)
 have L1:=PySem.W.looks_findIn (M:=model prog w) X c.ga
 have L2:=PySem.W.looks_findIn (M:=model prog w) X c.gg
 unfold getAttr? getAttrBy? getAttrBy
 refine wpAny_bind (wpAny_mkText (wpAny_bind (wpAny_attempt (wpAny_holding (wpAny_bind (L0.at (wpAny_bind (L1.at ?_))))))))
 show wpAny _ _ (getAttrByItsOwn _ _ _ _ _ _) _ _ _
 have f3:=FB.ga.bind (.ref x)
 unfold getAttrByItsOwn hookBefore callGetattribute
 refine wpAny_bind (L2.at ?_)
 refine wpAny_bind (wpAny_attempt (wpAny_holding ?_))
 rw[if_neg (by decide)]
 unfold boundAndCalled
 rw[f3]
 refine wpAny_bind (wpAny_pure (wpAny_call ?_))
 exact Sh (s:=⟨hp,g,d,t+1,os⟩) X I q (show wpAny _ _ (handedOut (.ref C)) _ _ _ by rw[PySem.W.handedOut_of rfl];exact wpAny_pure (wpAny_pure h))
end
def Bf{K:PySem.W.Frag}{x D:Addr}(q:cD K D=true):PySem.W.KitX K (.ref x) (.ref D) (λh=>∃ox od,PySem.W.InstAt h x ox D od):=by
 obtain⟨q0,q1,q2,q3⟩:=sV q
 obtain⟨cd,bm,c⟩:=i_ q0
 obtain⟨dd,k0,k1,k2,k3,k5,lC⟩:=c.at_
 refine⟨λ_ _ _ ⟨ox,od,I⟩=>I.type,λ_ _ X _=>?_,λh tp dd its n sl X htp=>?_,λX ⟨ox,od,I⟩ k=>Ng X I q k⟩
 ·intro A' Q' E' s' k q
  unfold isType loadHead
  exact wpAny_bind (wpAny_loadPart (k _ _ (X _ _ lC)) (wpAny_pure q))
 ·refine Bool.eq_false_iff.mpr λq=>?_
  have e:D=tp:=Value.ref.inj (beq_iff_eq.mp q)
  subst e
  have z:=congrArg Obj.cls (Option.some.inj ((X _ _ lC).symm.trans htp))
  exact absurd (Value.type.inj z) (by decide)
section
variable{X:Cx}{cm:String->Addr}{K:KK}
def Nh(K:PySem.W.Frag):List V->Hp->VK->Prop:=λxs H Q=>Hy K xs H Q\/∃a C d fs c cv b,xs=[.ref a,c]/\RelV c cv/\(∀u,RelV c u->u=cv)/\H a=some (xo a C d)/\qm H d fs/\cD K C=true/\PySem.W.kitOne K (.ref C) cv=some b/\Q (.bl b) H
def lJ:ž X (.builtin "isinstance") (Nh X.K):=by
 intro pins s σ H xs us Q I r h
 rcases h with h|⟨a,C,d,fs,c,cv,b,rfl,rc,uq,ha,hD,q,hk,hQ⟩
 ·exact Zbx pins s σ H xs us Q I r h
 ·obtain⟨u,w',rfl,r1,r2⟩:=vals2 r
  cases(show u=Value.ref a from r1)
  rw[uq w' r2]
  obtain⟨⟨o,ws,ho,hcl,hdi,hda⟩,_,_⟩:=(show Ź X.prog X.w H s.heap a (xo a C d) from I.hok a _ ha)
  obtain⟨ocls,odict,odata,osl⟩:=o
  dsimp only at hcl hdi hda
  subst hcl hdi hda
  have J:∃ox od,PySem.W.InstAt s.heap a ox C od:=by
   rcases hD with⟨rfl,_⟩|⟨d0,rfl,z⟩
   ·exact⟨_,none,ho,rfl,rfl,trivial⟩
   ·obtain⟨od,z'⟩:=sS (I.hok d0 _ z)
    exact⟨_,some od,ho,rfl,rfl,z'⟩
  exact PySem.W.kia_one (Bf q) I.iH J hk (λz=>nomatch z) λtk=>⟨.bl b,H,I.tok _,rfl,hQ⟩
def qR(Q:String->String->Bool->Prop):List ((String×String)×Bool)->Prop
 | []=>True
 |((c,d),b)::r=>Q c d b/\qR Q r
theorem qR.get{Q:String->String->Bool->Prop}:∀{t:List ((String×String)×Bool)} {c d:String} {b:Bool},qR Q t->t.lookup (c,d)=some b->Q c d b
 | [],_,_,_,_,h=>by simp at h
 |((c',d'),b')::r,c,d,b,⟨h1,h2⟩,h=>by
  rw[List.lookup_cons] at h
  cases e:(c,d)== (c',d') with
  |true=>
   rw[e] at h
   cases h
   obtain⟨rfl,rfl⟩:=Prod.mk.inj (beq_iff_eq.mp e)
   exact h1
  |false=>
   rw[e] at h
   exact h2.get h
def dX(tc tt:List ((String×String)×Bool))(ds nt:List String):List PV->Option PV
 | [.xc C _ _,.cls D]=>(tc.lookup (C,D)).map .bl
 | [.xc C _ _,.ty D]=>(tt.lookup (C,D)).map .bl
 | [.non,.cls D]=>if ds.contains D=true then some (.bl false) else none
 | [.non,.ty D]=>if nt.contains D=true then some (.bl false) else Mi [.non,.ty D]
 |ps=>Mi ps
def lK{tc tt:List ((String×String)×Bool)}{ds nt:List String}(hc:qR (λC D b=>cD K.K (K.cm C)=true/\PySem.W.kitOne K.K (.ref (K.cm C)) (.ref (K.cm D))=some b) tc)
 (ht:qR (λC D b=>cD K.K (K.cm C)=true/\PySem.W.kitOne K.K (.ref (K.cm C)) (.type D)=some b) tt)(hd:iZ (λD=>PySem.W.kitOne K.K (.type "NoneType") (.ref (K.cm D))=some false) ds)
 (hn:iZ (λD=>PySem.W.kitOne K.K (.type "NoneType") (.type D)=some false) nt):h_ K (Nh K.K) (dX tc tt ds nt):=by
 intro c F H σ ρ ps pv vs Q rel r e k
 unfold dX at e
 split at e
 ·rename_i C ns qs D
  obtain⟨v,u,rfl,r1,r2⟩:=rl2 r
  cases eb:tc.lookup (C,D) with
  |none=>rw[eb] at e;cases e
  |some b=>
   rw[eb] at e
   cases e
   obtain⟨k1,k2⟩:=hc.get eb
   have r1':Rep K F (.xc C ns qs) v:=by rcases r1 with q|q;exact q;exact q.elim
   have r2':Rep K F (.cls D) u:=by rcases r2 with q|q;exact q;exact q.elim
   unfold Rep at r1' r2'
   obtain⟨a,d,fs,rfl,q2,q3,q4,q5⟩:=r1'
   subst r2'
   exact .inr ⟨a,_,d,fs,_,.ref (K.cm D),b,rfl,rfl,λu z=>z,rel.sub _ _ q2,q3.same rel.sub,k1,k2,k _ F H rel (Same.refl _) (Same.refl _) Rep.bl⟩
 ·rename_i C ns qs D
  obtain⟨v,u,rfl,r1,r2⟩:=rl2 r
  cases eb:tt.lookup (C,D) with
  |none=>rw[eb] at e;cases e
  |some b=>
   rw[eb] at e
   cases e
   obtain⟨k1,k2⟩:=ht.get eb
   have r1':Rep K F (.xc C ns qs) v:=by rcases r1 with q|q;exact q;exact q.elim
   have r2':Rep K F (.ty D) u:=by rcases r2 with q|q;exact q;exact q.elim
   unfold Rep at r1' r2'
   obtain⟨a,d,fs,rfl,q2,q3,q4,q5⟩:=r1'
   subst r2'
   exact .inr ⟨a,_,d,fs,_,.type D,b,rfl,rfl,λu z=>z,rel.sub _ _ q2,q3.same rel.sub,k1,k2,k _ F H rel (Same.refl _) (Same.refl _) Rep.bl⟩
 ·rename_i D
  obtain⟨v,u,rfl,r1,r2⟩:=rl2 r
  split at e
  ·rename_i hD
   cases e
   cases r1.non
   have r2':Rep K F (.cls D) u:=by rcases r2 with q|q;exact q;exact q.elim
   unfold Rep at r2'
   subst r2'
   exact .inl ⟨_,false,rfl,hd.get hD,k _ F H rel (Same.refl _) (Same.refl _) Rep.bl⟩
  ·cases e
 ·rename_i D
  split at e
  ·rename_i hD
   obtain⟨v,u,rfl,r1,r2⟩:=rl2 r
   cases e
   cases r1.non
   cases r2.ty
   exact .inl ⟨_,false,rfl,hn.get hD,k _ F H rel (Same.refl _) (Same.refl _) Rep.bl⟩
  ·exact .inl (Mj rel r e k)
 ·exact .inl (Mj rel r e k)
end
def ZbE(K:PySem.W.Frag)(cm:String->Addr)(cs:List String)(D:String)(b:Bool):Bool:=match cs with
 | []=>true
 |c::r=>PySem.W.kitCls K (.ref (cm c)) (.ref (cm D))== some b && ZbE K cm r D b
theorem xP{K:PySem.W.Frag}{cm:String->Addr}{D:String}{b:Bool}:∀{cs:List String},ZbE K cm cs D b=true->iZ (λc=>PySem.W.kitCls K (.ref (cm c)) (.ref (cm D))=some b) cs
 | [],_=>trivial
 |c::r,h=>by
  unfold ZbE at h
  rw[Bool.and_eq_true] at h
  exact⟨beq_iff_eq.mp h.1,xP h.2⟩
def isC(K:PySem.W.Frag)(cm:String->Addr):List ((String×String)×Bool)->Bool
 | []=>true
 |((c,d),b)::r=>cD K (cm c) && PySem.W.kitOne K (.ref (cm c)) (.ref (cm d))== some b && isC K cm r
theorem Ni{K:PySem.W.Frag}{cm:String->Addr}:∀{t:List ((String×String)×Bool)},isC K cm t=true->qR (λC D b=>cD K (cm C)=true/\PySem.W.kitOne K (.ref (cm C)) (.ref (cm D))=some b) t
 | [],_=>trivial
 |((c,d),b)::r,h=>by
  unfold isC at h
  rw[Bool.and_eq_true,Bool.and_eq_true] at h
  exact⟨⟨h.1.1,beq_iff_eq.mp h.1.2⟩,Ni h.2⟩
def isT(K:PySem.W.Frag)(cm:String->Addr):List ((String×String)×Bool)->Bool
 | []=>true
 |((c,d),b)::r=>cD K (cm c) && PySem.W.kitOne K (.ref (cm c)) (.type d)== some b && isT K cm r
theorem Nj{K:PySem.W.Frag}{cm:String->Addr}:∀{t:List ((String×String)×Bool)},isT K cm t=true->qR (λC D b=>cD K (cm C)=true/\PySem.W.kitOne K (.ref (cm C)) (.type D)=some b) t
 | [],_=>trivial
 |((c,d),b)::r,h=>by
  unfold isT at h
  rw[Bool.and_eq_true,Bool.and_eq_true] at h
  exact⟨⟨h.1.1,beq_iff_eq.mp h.1.2⟩,Nj h.2⟩
def isD(K:PySem.W.Frag)(cm:String->Addr):List String->Bool
 | []=>true
 |d::r=>PySem.W.kitOne K (.type "NoneType") (.ref (cm d))== some false && isD K cm r
theorem Nk{K:PySem.W.Frag}{cm:String->Addr}:∀{t:List String},isD K cm t=true->iZ (λD=>PySem.W.kitOne K (.type "NoneType") (.ref (cm D))=some false) t
 | [],_=>trivial
 |d::r,h=>by
  unfold isD at h
  rw[Bool.and_eq_true] at h
  exact⟨beq_iff_eq.mp h.1,Nk h.2⟩
def ZbF(K:PySem.W.Frag):List String->Bool
 | []=>true
 |d::r=>PySem.W.kitOne K (.type "NoneType") (.type d)== some false && ZbF K r
theorem HD{K:PySem.W.Frag}:∀{t:List String},ZbF K t=true->iZ (λD=>PySem.W.kitOne K (.type "NoneType") (.type D)=some false) t
 | [],_=>trivial
 |d::r,h=>by
  unfold ZbF at h
  rw[Bool.and_eq_true] at h
  exact⟨beq_iff_eq.mp h.1,HD h.2⟩
def Ur(K:PySem.W.Frag)(C f:Addr):Bool:=aX K C && PySem.W.keepIn K (.ref C) && PySem.W.findIn K (.ref C) "__init__" == some (some (.ref f)) && PySem.W.typeIn K (.ref f)== some (.type "function")
def xQ{K:PySem.W.Frag}{C f:Addr}(h:Ur K C f=true):XMk K C f:=by
 unfold Ur at h
 simp only[Bool.and_eq_true,beq_iff_eq] at h
 exact⟨h.1.1.1,h.1.1.2,h.1.2,h.2⟩
def Jz{l:PySem.W.OpenLaw}{k:Nat}{x:Str}{m:MF}{q:Program}{loose:List Str}{XP:(Str->Option Value)->Heap->Prop}{YP:World->Heap->Prop}{d:DefRec}{K:Params->PySem.W.Frag}(hn:l.most=some 63)(hdf:d.params.defaults=[])(hr:aD k callerA)
 (hY:∀(w:World) (h:Heap),YP w h->(K w.params).In h)
 (F:∀(w:World) (mg:Str→Option Value) (fa:Addr) (h:Heap),(K w.params).In h→h.Ns mainGlobals mg→mg d.name=some (.ref fa)→
   ∃fd:FuncData,(∀(s:Shared) (u:Value),BindsTo s fd ⟨[u],[]⟩ [(x,u)])/\∀base:Heap,(K w.params).In base->base.Ns mainGlobals mg->∃cm,ī l.prog w (K w.params) mg base (Ů l.prog w) k fa fd [x] (ż ⟨K w.params,cm⟩ 1 m))
 (ht:∀ns:List Int,ns.length<=63->m [.sh (.lst (ns.map .int))]=.ret (.sh (.bl true)))
 (hnt:lams≠[]->∀w:World,PySem.W.noTabs (K w.params)=true:=by intro z;exact absurd rfl z)(hone:∀y z,y∈lams->z∈lams->y=z:=by simp[lams])(hrec:∀y,y∈lams->∃d,(recsOf q).find? (λe=>e.name== y)=some d:=by simp[lams]) :
 PySem.W.WalkO q loose XP YP l.row.toRowW d [] (λf vs=>PySem.call f vs):=by
 refine L2.Rh (n:=63) (k:=k) (x:=x) (CX:=λw=>Ů l.prog w) (sp:=λw=>ZdW (K w.params)) hn (by decide) hdf hr hY (λw mg fa h h1 h2 h3=>?_) (λw H a ns hl _ hS=>⟨a,ns,rfl,hS,hl,λ_ _ z=>z⟩) (λw H s e s' z=>vD z) hnt hone hrec
 obtain⟨fd,hb,hF⟩:=F w mg fa h h1 h2 h3
 refine⟨fd,hb,λbase k1 k2=>?_⟩
 obtain⟨cm,G⟩:=hF base k1 k2
 refine G.imp λvs H Q E hs=>?_
 obtain⟨sa,ns,rfl,hS,hl,hq⟩:=hs
 refine⟨H,[.sh (.lst (ns.map .int))],rfl,Same.refl _,.cons ?_ .nil,?_⟩
 ·show Rep _ _ _ _
  unfold Rep
  exact⟨sa,_,rfl,hS,Aq ns⟩
 ·rw[ht ns hl]
  intro v F' H' g rf
  have e:v=.bl true:=wR (K:=⟨K w.params,cm⟩) (F:=F') rf
  exact hq v H' e
section
variable{ρ:ŝ}{C:String}{n i:Nat}{fl:List (Str×Nat)}{ms:M (List PV)}{mb mh:M Fl}{mr:MH}{yes no:List String}{x:PX}
@[simp] theorem Zee:xK C ρ=.exc ⟨C,[],[]⟩ ρ:= rfl
@[simp] theorem Zde:rH C n fl ms ρ=(ms ρ).bind fun ps ρ1=>if ps.length+1=n∧ps.length<1000∧fl.length<1000 then(match Nb fl ps [] [] with
  |some (ns,qs)=>.exc ⟨C,ns,qs⟩ ρ1
  |none=>.bad) else .bad:=rfl
@[simp] theorem Zhb:RW mb mr ρ=(match mb ρ with
  | .exc x ρ1=>mr x ρ1
  |r=>r):=rfl
@[simp] theorem Zhc:rG i yes no mh mr x ρ=(if yes.contains x.C=true then(match mh (ρ.set i (.sh (.xc x.C x.ns x.ps))) with
  | .ok f ρ2=>.ok f (ρ2.set i .no)
  |_=>.bad) else if no.contains x.C=true then mr x ρ else .bad):=rfl
end
end P
namespace P
open PySem PySem.Spec PyProof.Rows L2 M2 M3 M4
section
variable{X:Cx}{cm:String->Addr}{E:L2.St->XK}{y:Str}{Dn:String}{yp hpos:Pos}{b₀:Stmt}{suite:List Stmt}{rest:List ExceptHandler}{yes no:List String}{mh:M Fl}{mr:MH}
end
end P
namespace P
open PySem PySem.Spec PyProof.Rows L2 M2 M3 M4
section
variable{X:Cx}{cm:String->Addr}{K:KK}
def Us:List V->Hp->VK->Prop:=λxs H Q=>(∃i,xs=[.int i]/\Q (.int i) H)\/∃k,xs=[.bl k]/\Q (.int (if k then 1 else 0)) H
def ZbG:ž X (.type "int") Us:=Ji
def Nm:List PV->Option PV
 | [.int i]=>some (.int i)
 | [.bl k]=>some (.int (if k then 1 else 0))
 |_=>none
def ZbH:h_ K Us Nm:=by
 intro c F H σ ρ ps pv vs Q rel r e k
 unfold Nm at e
 split at e
 ·cases e
  obtain⟨v,rfl,r1⟩:=Dk r
  cases r1.int
  exact .inl ⟨_,rfl,k _ F H rel (Same.refl _) (Same.refl _) Rep.int⟩
 ·cases e
  obtain⟨v,rfl,r1⟩:=Dk r
  cases r1.bl
  exact .inr ⟨_,rfl,k _ F H rel (Same.refl _) (Same.refl _) Rep.int⟩
 ·cases e
theorem bZ:∀{ns:List Int} {its:List Value},Vals (ns.map V.int) its->IntsAre its ns
 | [],its,h=>by cases h;exact .nil
 |n::ns,its,h=>by
  cases h with
  |cons r t=>
   obtain⟨k,e⟩:=(show ∃k,_=Value.int n k from r)
   subst e
   exact .cons n k (bZ t)
def Zef(K:PySem.W.Frag):List V->Hp->VK->Prop:=λxs H Q=>∃(p:Addr) (ns:List Int),xs=[.ref p]/\aQ K H p (ns.map V.int)/\Q (.int ns.sum) H
def xR(hc:X.calm=true):ž X (.builtin "sum") (Zef X.K):=by
 intro pins s σ H xs us Q I r h
 obtain⟨p,ns,rfl,hS,q⟩:=h
 obtain⟨u,rfl,ru⟩:=vals1 r
 cases ru
 obtain⟨its,rv,pl,hz⟩:=I.list hS
 have hi:=bZ rv
 obtain⟨ys,e⟩:=hi.allInts.items
 have hns:ns=ys.toList.map (·.1):=by rw[<-hi.numsOf,<-nums_intItems,<-e]
 have hl:=pl.isList
 rw[e] at hl
 refine sum_intListG (show X.A.handled=none from I.ok.hd hc) hl λh' tk t' hk=>?_
 refine⟨.int ns.sum,H,I.kept hk,⟨t',?_⟩,q⟩
 rw[preSum_eq,List.take_of_length_le (by simp),<-hns]
section
variable{prog:Program}{w:World}{A:Around}{E:Value->Shared->Prop}{s:Shared}{l:Addr}{xs:Array (Int×Tok)}
def Bg{Q:Value->Shared->Prop}(hl:s.heap.IsTuple l (intItems xs))
 (h:∀s₂:Shared,s₂= {s with heap:=s.heap.push {cls:=.type "tuple_iterator",data:=.fields #[.ref l,.int 0 0]}}→
   (s₂.heap.IsTupleIter s.heap.objs.size l 0/\s₂.heap.IsTuple l (intItems xs))->(∀b∈[s.heap.objs.size,l],b<s₂.heap.objs.size)->l≠s.heap.objs.size->(∀h':Heap,(∀b o,b∉[s.heap.objs.size]->s₂.heap.get? b=some o->h'.get? b=some o)->∀b o,s.heap.get? b=some o->h'.get? b=some o)->Q (.ref s.heap.objs.size) s₂) :
 wpAny (model prog w) A (pyIter (.ref l)) Q E s:=by
 have hlt:l<s.heap.objs.size:=by obtain⟨_,e,_⟩:=hl;exact Heap.lt_size e
 refine wpAny_pyIter_tuple hl (h _ rfl ⟨⟨_,Heap.get?_push_size _ rfl,rfl,rfl⟩,hl.push _⟩ (λb hb=>?_) (Nat.ne_of_lt hlt) λh' hk b o e=>?_)
 ·show b<(s.heap.push _).objs.size
  rw[Heap.size_push]
  rcases List.mem_cons.mp hb with rfl|hb
  ·exact Nat.lt_succ_self _
  ·rcases List.mem_cons.mp hb with rfl|hb
   ·exact Nat.lt_succ_of_lt hlt
   ·cases hb
 ·refine hk b o (λhm=>?_) (Heap.get?_push_of_some _ e)
  rcases List.mem_cons.mp hm with e1|hm
  ·exact absurd (e1▸Heap.lt_size e) (Nat.lt_irrefl _)
  ·cases hm
def Dt{Q:Value->Shared->Prop}(hh:A.handled=none)(hl:s.heap.IsTuple l (intItems xs))(hne:0<xs.size)
 (h:∀v h' tk,(intItems xs)[argBest (λi j=>decide (numAt xs i>numAt xs j)) (xs.size-1)]?=some v->(∀b o,s.heap.get? b=some o->h'.get? b=some o)->Q v {s with heap:=h',toks:=tk}) :
 wpAny (model prog w) A (call (.builtin "max") [.ref l]) Q E s:=by
 refine call_max_walk (Bg hl λs₂ e st hfp hlI hk0=>?_)
 subst e
 refine⟨_,_,_,_,_,_,_,rfl,Walks.tuple (A:=A.in1) hh _ l hlI (intItems xs),st,hfp,by simpa[intItems] using hne,CmpOf.ints_gt (numAt xs) (λ_ _=>intItems_at),λv h' tk hP hk=>?_⟩
 exact h v h' tk (by simpa[intItems] using hP) (hk0 h' hk)
end
def Zeg(K:PySem.W.Frag):List V->Hp->VK->Prop:=λxs H Q=>∃(p:Addr) (ns:List Int),xs=[.ref p]/\(aQ K H p (ns.map V.int)\/gG K H p (ns.map V.int))/\0<ns.length/\∀M,M∈ns->(∀a∈ns,a<=M)->Q (.int M) H
def Du(hc:X.calm=true):ž X (.builtin "max") (Zeg X.K):=by
 intro pins s σ H xs us Q I r h
 obtain⟨p,ns,rfl,hS,hne,q⟩:=h
 obtain⟨u,rfl,ru⟩:=vals1 r
 cases ru
 have fin:∀(ys:Array (Int×Tok)),ns=ys.toList.map (·.1)->0<ys.size->∀v h' tk,(intItems ys)[argBest (λi j=>decide (numAt ys i>numAt ys j)) (ys.size-1)]?=some v->(∀b o,s.heap.get? b=some o->h'.get? b=some o)->EP X pins σ Q v {s with heap:=h',toks:=tk}:=by
  intro ys hns hsz v h' tk hv hk
  obtain⟨t,rfl⟩:=intItems_at hv
  obtain⟨h1,h2⟩:=argBest_gt (numAt ys) (ys.size-1)
  refine⟨.int _,H,I.kept hk,⟨t,rfl⟩,q _ ?_ λa ha=>?_⟩
  ·rw[hns,numAt_eq]
   have hj:argBest (λi j=>decide (numAt ys i>numAt ys j)) (ys.size-1)<(ys.toList.map (·.1)).length:=by rw[List.length_map,Array.length_toList];omega
   rw[List.getD_eq_getElem?_getD,List.getElem?_eq_getElem hj]
   exact List.getElem_mem _
  ·rw[hns] at ha
   obtain⟨j,hj,rfl⟩:=List.mem_iff_getElem.mp ha
   rw[List.length_map,Array.length_toList] at hj
   have:=h2 j (by omega)
   rw[numAt_eq ys j,List.getD_eq_getElem?_getD,List.getElem?_eq_getElem (by rw[List.length_map,Array.length_toList];exact hj)] at this
   exact this
 rcases hS with hS|hS
 ·obtain⟨its,rv,pl,hz⟩:=I.list hS
  have hi:=bZ rv
  obtain⟨ys,e⟩:=hi.allInts.items
  have hns:ns=ys.toList.map (·.1):=by rw[<-hi.numsOf,<-nums_intItems,<-e]
  have hl:=pl.isList
  rw[e] at hl
  have hsz:0<ys.size:=by rw[hns,List.length_map,Array.length_toList] at hne;exact hne
  exact max_intList (show X.A.handled=none from I.ok.hd hc) hl hsz (fin ys hns hsz)
 ·obtain⟨its,rv,pl,hz⟩:=I.tuple hS
  have hi:=bZ rv
  obtain⟨ys,e⟩:=hi.allInts.items
  have hns:ns=ys.toList.map (·.1):=by rw[<-hi.numsOf,<-nums_intItems,<-e]
  have hl:s.heap.IsTuple p its.toArray:=pl
  rw[e] at hl
  have hsz:0<ys.size:=by rw[hns,List.length_map,Array.length_toList] at hne;exact hne
  exact Dt (show X.A.handled=none from I.ok.hd hc) hl hsz (fin ys hns hsz)
def Zeh(K:PySem.W.Frag):List V->Hp->VK->Prop:=λxs H Q=>∃(p:Addr) (ns:List Int),xs=[.ref p]/\aQ K H p (ns.map V.int)/\0<ns.length/\∀M,M∈ns->(∀a∈ns,M<=a)->Q (.int M) H
def Dv(hc:X.calm=true):ž X (.builtin "min") (Zeh X.K):=by
 intro pins s σ H xs us Q I r h
 obtain⟨p,ns,rfl,hS,hne,q⟩:=h
 obtain⟨u,rfl,ru⟩:=vals1 r
 cases ru
 obtain⟨its,rv,pl,hz⟩:=I.list hS
 have hi:=bZ rv
 obtain⟨ys,e⟩:=hi.allInts.items
 have hns:ns=ys.toList.map (·.1):=by rw[<-hi.numsOf,<-nums_intItems,<-e]
 have hl:=pl.isList
 rw[e] at hl
 have hsz:0<ys.size:=by rw[hns,List.length_map,Array.length_toList] at hne;exact hne
 refine min_intList (show X.A.handled=none from I.ok.hd hc) hl hsz λv h' tk hv hk=>?_
 obtain⟨t,rfl⟩:=intItems_at hv
 obtain⟨h1,h2⟩:=argBest_lt (numAt ys) (ys.size-1)
 refine⟨.int _,H,I.kept hk,⟨t,rfl⟩,q _ ?_ λa ha=>?_⟩
 ·rw[hns,numAt_eq]
  have hj:argBest (λi j=>decide (numAt ys i<numAt ys j)) (ys.size-1)<(ys.toList.map (·.1)).length:=by rw[List.length_map,Array.length_toList];omega
  rw[List.getD_eq_getElem?_getD,List.getElem?_eq_getElem hj]
  exact List.getElem_mem _
 ·rw[hns] at ha
  obtain⟨j,hj,rfl⟩:=List.mem_iff_getElem.mp ha
  rw[List.length_map,Array.length_toList] at hj
  have:=h2 j (by omega)
  rw[numAt_eq ys j,List.getD_eq_getElem?_getD,List.getElem?_eq_getElem (by rw[List.length_map,Array.length_toList];exact hj)] at this
  exact this
def intsOf:List PV->Option (List Int)
 | []=>some []
 | .int b::ps=>(intsOf ps).map (b:: ·)
 |_::_=>none
@[simp] theorem nu:∀ns:List Int,intsOf (ns.map PV.int)=some ns
  | []=>rfl
  |n::ns=>by rw[List.map_cons,intsOf,nu ns];rfl
theorem ints_rep{F:Hp}:∀{ps:List PV} {vs:List V} {bs:List Int},Ģ K F ps vs->intsOf ps=some bs->vs=bs.map V.int
 | [],vs,bs,r,h=>by
   cases h
   cases r.pr
   rfl
 |p::ps,vs,bs,r,h=>by
  cases r.pr with
  |cons r1 t=>
   cases p with
   |int b=>
    unfold intsOf at h
    obtain⟨cs,e,rfl⟩:=Option.map_eq_some_iff.mp h
    rw[ints_rep (Ģ.of t) e,show _=V.int b from r1]
    rfl
   |_=>cases h
def best(f:Int->Int->Int):List Int->Option Int
 | []=>none
 |n::ns=>some (ns.foldl f n)
theorem foldl_max:∀(ns:List Int) (n:Int),ns.foldl max n∈n::ns/\∀a∈n::ns,a<=ns.foldl max n
 | [],n=>by simp
 |m::ns,n=>by
  obtain⟨h1,h2⟩:=foldl_max ns (max n m)
  rw[List.foldl_cons]
  refine⟨?_,λa ha=>?_⟩
  ·rcases List.mem_cons.mp h1 with e|e
   ·rw[e]
    by_cases h:n<=m
    ·rw[Int.max_eq_right h];simp
    ·rw[Int.max_eq_left (by omega)];simp
   ·simp[e]
  ·have hm:=h2 (max n m) List.mem_cons_self
   rcases List.mem_cons.mp ha with rfl|ha
   ·omega
   ·rcases List.mem_cons.mp ha with rfl|ha
    ·omega
    ·exact h2 a (List.mem_cons_of_mem _ ha)
theorem foldl_min:∀(ns:List Int) (n:Int),ns.foldl min n∈n::ns/\∀a∈n::ns,ns.foldl min n<=a
 | [],n=>by simp
 |m::ns,n=>by
  obtain⟨h1,h2⟩:=foldl_min ns (min n m)
  rw[List.foldl_cons]
  refine⟨?_,λa ha=>?_⟩
  ·rcases List.mem_cons.mp h1 with e|e
   ·rw[e]
    by_cases h:n<=m
    ·rw[Int.min_eq_left h];simp
    ·rw[Int.min_eq_right (by omega)];simp
   ·simp[e]
  ·have hm:=h2 (min n m) List.mem_cons_self
   rcases List.mem_cons.mp ha with rfl|ha
   ·omega
   ·rcases List.mem_cons.mp ha with rfl|ha
    ·omega
    ·exact h2 a (List.mem_cons_of_mem _ ha)
def sW:List PV->Option PV
 | [.lst ps]=>(intsOf ps).map λns=>.int ns.sum
 |_=>none
def mH:List PV->Option PV
 | [.lst ps]=>((intsOf ps).bind (best max)).map .int
 | [.tup ps]=>((intsOf ps).bind (best max)).map .int
 |_=>none
def nZ:List PV->Option PV
 | [.lst ps]=>((intsOf ps).bind (best min)).map .int
 |_=>none
def xT:h_ K (Zef K.K) sW:=by
 intro c F H σ ρ ps pv vs Q rel r e k
 unfold sW at e
 split at e
 ·rename_i ps
  obtain⟨v,rfl,r1⟩:=Dk r
  obtain⟨a,xs,rfl,h1,h2⟩:=r1.lst rel.sub
  obtain⟨ns,eb,rfl⟩:=Option.map_eq_some_iff.mp e
  exact⟨a,ns,rfl,by rw[<-ints_rep h2 eb];exact h1,k _ F H rel (Same.refl _) (Same.refl _) Rep.int⟩
 ·cases e
def Dw:h_ K (Zeg K.K) mH:=by
 intro c F H σ ρ ps pv vs Q rel r e k
 have fin:∀(ps:List PV) (xs:List V),Ģ K F ps xs->((intsOf ps).bind (best max)).map PV.int=some pv->∃ns:List Int,xs=ns.map V.int/\0<ns.length/\∀M,M∈ns->(∀a∈ns,a<=M)->Q (.int M) H:=by
  intro ps xs h2 e
  obtain⟨m,em,rfl⟩:=Option.map_eq_some_iff.mp e
  obtain⟨ns,eb,hb⟩:=Option.bind_eq_some_iff.mp em
  cases ns with
  |nil=>cases hb
  |cons n ns=>
   cases hb
   obtain⟨z1,z2⟩:=foldl_max ns n
   refine⟨n::ns,ints_rep h2 eb,by simp,λM m1 m2=>?_⟩
   have:M=ns.foldl max n:=Int.le_antisymm (z2 M m1) (m2 _ z1)
   rw[this]
   exact k _ F H rel (Same.refl _) (Same.refl _) Rep.int
 unfold mH at e
 split at e
 ·rename_i ps
  obtain⟨v,rfl,r1⟩:=Dk r
  obtain⟨a,xs,rfl,h1,h2⟩:=r1.lst rel.sub
  obtain⟨ns,rfl,hl,hq⟩:=fin ps xs h2 e
  exact⟨a,ns,rfl,.inl h1,hl,hq⟩
 ·rename_i ps
  obtain⟨v,rfl,r1⟩:=Dk r
  obtain⟨a,xs,rfl,h1,h2⟩:=r1.tup rel.sub
  obtain⟨ns,rfl,hl,hq⟩:=fin ps xs h2 e
  exact⟨a,ns,rfl,.inr h1,hl,hq⟩
 ·cases e
def Dz:h_ K (Zeh K.K) nZ:=by
 intro c F H σ ρ ps pv vs Q rel r e k
 unfold nZ at e
 split at e
 ·rename_i ps
  obtain⟨v,rfl,r1⟩:=Dk r
  obtain⟨a,xs,rfl,h1,h2⟩:=r1.lst rel.sub
  obtain⟨m,em,rfl⟩:=Option.map_eq_some_iff.mp e
  obtain⟨ns,eb,hb⟩:=Option.bind_eq_some_iff.mp em
  cases ns with
  |nil=>cases hb
  |cons n ns=>
   cases hb
   obtain⟨z1,z2⟩:=foldl_min ns n
   refine⟨a,n::ns,rfl,by rw[<-ints_rep h2 eb];exact h1,by simp,λM m1 m2=>?_⟩
   have:M=ns.foldl min n:=Int.le_antisymm (m2 _ z1) (z2 M m1)
   rw[this]
   exact k _ F H rel (Same.refl _) (Same.refl _) Rep.int
 ·cases e
@[simp] theorem Zfx{i:Int}:Nm [.int i]=some (.int i):=rfl
@[simp] theorem Zfy{b:Bool}:Nm [.bl b]=some (.int (if b then 1 else 0)):=rfl
@[simp] theorem lM{ps:List PV}:sW [.lst ps]=(intsOf ps).map λns=>.int ns.sum:=rfl
@[simp] theorem Sq{ps:List PV}:mH [.lst ps]=((intsOf ps).bind (best max)).map .int:=rfl
@[simp] theorem HF{ps:List PV}:nZ [.lst ps]=((intsOf ps).bind (best min)).map .int:=rfl
@[simp] theorem Zfz{f:Int->Int->Int}{n:Int}{ns:List Int}:best f (n::ns)=some (ns.foldl f n):=rfl
end
end P
namespace P
open PySem PySem.Spec PyProof.Rows L2 M2 M3 M4
def Zei(K:PySem.W.Frag)(C:Addr):Bool:=PySem.W.plainGet K C Str.empty && PySem.W.hasDictIn K C && PySem.W.plainOver K C && PySem.W.findIn K (.ref C) "__setattr__" == some (some (.builtin "object.__setattr__"))
def nA{K:PySem.W.Frag}{C:Addr}(h:Zei K C=true):Cls K C:=by
 unfold Zei at h
 simp only[Bool.and_eq_true,beq_iff_eq] at h
 exact⟨h.1.1.1,h.1.1.2,h.1.2,h.2⟩
def Ut(K:PySem.W.Frag)(C:Addr)(m:Str)(f:Addr):Bool:=PySem.W.findIn K (.ref C) m== some (some (.ref f)) && PySem.W.isFn K (.ref f) && PySem.W.keepIn K (.ref f)
def n_{K:PySem.W.Frag}{C f:Addr}{m:Str}(h:Ut K C m f=true):Meth K C m f:=by
 unfold Ut at h
 simp only[Bool.and_eq_true,beq_iff_eq] at h
 exact⟨h.1.1,h.1.2,h.2⟩
def mkB(K:PySem.W.Frag)(C f:Addr):Bool:=PySem.W.makesIn K C && PySem.W.findIn K (.ref C) "__init__" == some (some (.ref f)) && PySem.W.isFn K (.ref f) && PySem.W.keepIn K (.ref C)
def sX{K:PySem.W.Frag}{C f:Addr}(h:mkB K C f=true):Mk K C f:=by
 unfold mkB at h
 simp only[Bool.and_eq_true,beq_iff_eq] at h
 exact⟨h.1.1.1,h.1.1.2,h.1.2,h.2⟩
section
variable{ρ:ŝ}{i n k:Nat}{C:String}{cs:List String}{f m:Str}{mv mo:M PV}{mi:MI}{ms:M (List Slot)}{mb:M Fl}{jF:List (String×MF)}{as:List Slot}{ns:List Str}{ps:List PV}
@[simp] theorem ZfA:mG i cs f mv ρ=(mv ρ).bind fun p ρ1=>match ρ1[i]? with
  |some (.rc C ns ps)=>if cs.contains C=true/\ns.length<1000 then .ok .nx (ρ1.set i (.rc C (putN f ns) (qP f p ns ps))) else .bad
  |_=>.bad:=rfl
@[simp] theorem ZfB:fZ n k C mb as=if as.length+1=n then IR.of (mb (.rc C [] []::startP (k-1) as)) else .bad:=rfl
@[simp] theorem Zhd{C:String}:IR.of (.ok .nx (.rc C ns ps::ρ))=.ok ns ps:=rfl
@[simp] theorem ZfC:dW C mi ms ρ=(ms ρ).bind fun as ρ1=>match mi as with
  | .ok ns ps=>.ok (.ins C ns ps) ρ1
  | .exc x=>.exc x ρ1
  | .bad=>.bad:=rfl
@[simp] theorem Zhe:dJ cs f (.ins C ns ps)=if cs.contains C=true then(ns.zip ps).lookup f else none:=rfl
@[simp] theorem Ss:sO m jF mo ms ρ=(mo ρ).bind fun p ρ1=>match p with
  | .ins C ns ps=>match jF.lookup C with
    |some mf=>if ns.contains m=true then .bad else(ms ρ1).bind λas ρ2=>match mf (.sh (.ins C ns ps)::as) with
     | .ret r=>.ok r ρ2
     | .exc x=>.exc x ρ2
     | .bad=>.bad
    |none=>.bad
  |_=>.bad:=rfl
end
end P
namespace M3
open PySem PySem.Spec PyProof.Rows L2 M2
section
variable{X:Cx}{elt tg iter:Expr}{ifs:List Expr}{scope:Scope}{pos:Pos}{wi:TI}{g:TG}{tt:TT}{te:TE}
def Sv{iv:Nat}{y:Str}{py spos:Pos}(hN:X.N.Nodup)(hiN:X.N[iv]?=some y)(hy:X.env.scope.names.lookup y=some .local)(hsw:swapsWith (.ListComp elt [⟨tg,iter,ifs,0⟩] scope pos) (some (.Name y py)) spos.line X.env=pure true)(N':List Str)(js:List Nat)(nl:Nat)(sc:Scope)(hsc:X.env.scope=sc)(hcalm:X.calm=true)
 (hi:PI X.bD tg iter wi)(hg:∀cl C s H fp,PG (lF X.bD N' scope cl C s H fp) tg g)(ht:∀cl C s H fp,Uc (lF X.bD N' scope cl C s H fp) ifs tt)(he:∀cl C s H fp,PE (lF X.bD N' scope cl C s H fp) elt te)
 (hcap:jM X.bD sc scope N' js)(hlen:js.length+nl=N'.length:=by rfl)
 (hk:scope.kind=.function:=by rfl)(hcell:∀y∈scope.names,y.2=.cell->scope.names.lookup y.1=some .cell:=by decide +kernel)(hnames:∀y∈scope.names,y.2=.local->scope.names.lookup y.1=some .local:=by decide +kernel)
 (hfree:∀y∈scope.names,y.2=.free->(sc.names.lookup y.1=some .cell\/sc.names.lookup y.1=some .free):=by decide +kernel)
 (hs:∀x,foldedSetIterable iter X.env x=pure x:=by intro _;rfl) :
 PS X.bD (.Assign [.Name y py] (.ListComp elt [⟨tg,iter,ifs,0⟩] scope pos) spos) (λD σ H=>KY js nl wi g tt te σ H λv H'=>D.nx (σ.set iv (some v)) H'):=by
 intro pins s σ H D I h
 obtain⟨cl0,c1,c2,c3⟩:=iK (scope:=scope) (env:=X.bD.env) λy hy hf=>I.ok.has y.1 (by
  have:=hfree y hy hf
  rw[<-hsc] at this
  exact this)
 rw[exec_Assign_Name_used _ _ _ _ (show swapsWith _ _ _ X.bD.env=pure true from hsw)]
 refine wpAny_bind (wpAny_standAt (wpAny_bind ?_))
 show wpAny _ X.A (do let _ <-comprehension (.ListComp elt [⟨tg,iter,ifs,0⟩] scope pos) scope X.bD.env _ (newList []) false (eval iter X.bD.env) (some (assign (.Name y py) X.bD.env))) _ _ s
 refine wpAny_bind (wpAny_mono (wpAny_comprehension_free (Q:=λ_ s'=>SP X.bD pins D .next s') (use:=some (assign (.Name y py) X.bD.env)) rfl hs c1 hk hnames (Ŭ (hi pins s σ H _ I h) λv s1 h1=>Ŭ h1 λitv s2 h2=>?_)) (λ_ s' hq=>wpAny_pure (wpAny_pure hq)) λ_ _ e=>e)
 obtain⟨it,fp,tn,J,H2,e,I2,T,st2,f2,q2⟩:=h2
 subst e
 refine wpAny_newObj_type (mj (λh₁ hns₁ old Zbm=>?_))
 dsimp only at hns₁ old Zbm ⊢
 generalize hH3:s2.heap.push {cls:=.type "list",dict:=none,data:=.seq ([]:List Value).toArray}=dZ at hns₁ old Zbm ⊢
 have hD:H2 s2.heap.objs.size=none:=I2.hok.fresh (Nat.le_refl _)
 have I3:Inv X.bD pins σ (upd H2 s2.heap.objs.size (.lst [])) {s2 with heap:=dZ}:=by
  rw[<-hH3]
  exact I2.laid (t':=s2.toks) (λb u e=>Heap.get?_push_of_some _ e) (Nat.le_refl _) ⟨Nat.zero_le _,[],0,.nil,Heap.get?_push_size _ rfl⟩
 have La:∀b∈fp,b<s2.heap.objs.size:=λb hb=>by
  obtain⟨o,ho,_⟩:=T.obj 0 _ st2 b hb
  exact Heap.lt_size ho
 have sz3:dZ.objs.size=s2.heap.objs.size+1:=by rw[<-hH3,Heap.size_push]
 have f3:∀b∈fp,dB X.bD pins (upd H2 s2.heap.objs.size (.lst [])) b:=λb hb=>by
  obtain⟨g0,g1⟩:=f2 b hb
  exact⟨by rw[Ę (Nat.ne_of_lt (La b hb))];exact g0,g1⟩
 have B:=KZ (X:=X.bD) (cl:=cl0) hcell c2 c3 (λx c e=>by
  obtain⟨v,o,ho,_⟩:=I3.cell x c e
  exact Heap.lt_size ho) Zbm
 generalize cellsFrom (dZ.objs.size+1) scope.names cl0=cl at B ⊢
 obtain⟨W,⟨m0,w0⟩,turn⟩:=q2 s2.heap.objs.size hD
 have I4:=vh (X:=X.bD) (N':=N') (js:=js) (nl:=nl) (sc:=sc) (scope:=scope) (cl:=cl) (fp:=fp) (h':=h₁) (tk:=s2.toks) hsc hk hcap hlen B I3 f3 (λb hb=>by show b<dZ.objs.size;rw[sz3];exact Nat.lt_succ_of_lt (La b hb)) hns₁ old
 have st4:tn 0 h₁:= T.keep 0 _ _ st2 λb hb o e=>old b o (by rw[<-hH3];exact Heap.get?_push_of_some _ e)
 have fr4:∀b∈fp,(upd H2 s2.heap.objs.size (.lst [])) b=none:=λb hb=>(f3 b hb).1
 have stat:∀{H':Hp},(∀b∈fp,H' b=none)->∀b∈fp,dB (lF X.bD N' scope cl dZ.objs.size {s2 with heap:=dZ} (upd H2 s2.heap.objs.size (.lst [])) fp) [] H' b:=fun{H'} hn b hb=>by
  obtain⟨g0,g1,g2,g3,g4,g5⟩:=f3 b hb
  refine⟨hn b hb,Nat.ne_of_lt (by show b<dZ.objs.size;rw[sz3];exact Nat.lt_succ_of_lt (La b hb)),λz=>?_,.inl hb,λx c e=>by
   rcases B.at_ x c e with⟨q,_⟩|⟨q,_⟩
   ·exact g4 x c q
   ·exact Nat.ne_of_gt (Nat.lt_trans (by show b<dZ.objs.size;rw[sz3];exact Nat.lt_succ_of_lt (La b hb)) q),λp hp=>absurd hp (by simp[lF])⟩
  rcases List.mem_cons.mp (I3.rK b z) with z|z
  ·exact g1 z
  ·exact g2 z
 have loop:∀s₃:Shared,s₃= {s2 with heap:=h₁}->
  codeAny (model X.prog X.w) X.A (.compLoop (.ListComp elt [⟨tg,iter,ifs,0⟩] scope pos) 0 (.ref it) (.ref s2.heap.objs.size) (compEnvC scope cl dZ.objs.size X.bD.env))
   (compPost (model X.prog X.w) X.A X.bD.xe (some (assign (.Name y py) X.bD.env)) (λ_ s'=>SP X.bD pins D .next s') (.ref s2.heap.objs.size) dZ.objs.size) s₃:= by
  rintro s₃ rfl
  refine nP (λn s'=>∃i σ' H',Inv (lF X.bD N' scope cl dZ.objs.size {s2 with heap:=dZ} (upd H2 s2.heap.objs.size (.lst [])) fp) [] σ' H' s'/\tn i s'.heap/\(∀b∈fp,H' b=none)/\W i n σ' H') ?_ m0 ⟨0,_,_,I4,st4,fr4,w0⟩
  rintro n s5 ⟨i,σ5,H5,I5,QM,fr5,w5⟩
  rcases turn i n σ5 H5 w5 with⟨stop,qn⟩|⟨go,N,hN,step⟩
  ·refine Ŭ (T.done (lF X.bD N' scope cl dZ.objs.size {s2 with heap:=dZ} (upd H2 s2.heap.objs.size (.lst [])) fp) rfl rfl rfl hcalm i [] s5 σ5 H5 (λ_ _=>False) I5 (stat fr5) QM stop) λr s6 ⟨hr,I6⟩=>?_
   subst hr
   obtain⟨m,hm,_⟩:=I6.loc
   have I7:Inv X.bD pins σ H5 s6:=rT (h':=s6.heap) I3 f3 I6 (λb u hb e=>e)
   have hCL:dZ.objs.size≠X.bD.env.locals:=Nat.ne_of_gt I3.lt
   have hcC:∀x c,X.bD.env.cells.lookup x=some c->c≠dZ.objs.size:=λx c e z=>by
    obtain⟨v,o,ho,_⟩:=I3.cell x c e
    exact absurd (Heap.lt_size ho) (by rw[z];exact Nat.lt_irrefl _)
   have hpC:∀p∈X.bD.pn++pins,p.1≠dZ.objs.size:=λp hp z=>by
    have:=Heap.lt_size (I3.pin p hp).1
    rw[z] at this
    exact Nat.lt_irrefl _ this
   have hnC:H5 dZ.objs.size=none:=I6.free
   refine wpAny_assign_Name (uU (X:=X.bD) (i:=iv) I7 hN hiN (.inl hy) (v:=.ref s2.heap.objs.size) rfl (λs8 I8 ⟨a8,sb8,ha8⟩=>?_) (.inr hy))
   have ne8:dZ.objs.size≠a8:=by
    rcases ha8 with rfl|ha8
    ·exact hCL
    ·exact λz=>hcC _ _ ha8 z.symm
   refine⟨m,hm.sameBut sb8 ne8,λh' hs'=>⟨_,H5,?_,qn⟩⟩
   have kp:∀b o,b≠dZ.objs.size->s8.heap.get? b=some o->h'.get? b=some o:=λb o hb e=>hs'.extBut b o hb e
   have kp':∀b o,b∉[dZ.objs.size]->s8.heap.get? b=some o->h'.get? b=some o:=λb o hb e=>kp b o (λz=>hb (by rw[z];exact List.mem_cons_self)) e
   refine I8.call' (ch:=[dZ.objs.size]) (s':={s8 with heap:=h'}) rfl ⟨λb o e _ _ hx=>kp' b o hx e,λb o e _ _ hx=>⟨o.slots,kp' b o hx e⟩,λb o _ n _=>n,λb o e hx=>⟨o,kp' b o hx e⟩,λ_ _ q=>q,λ_ _ _ q=>q,λ_ ps q=>q⟩ (GJ I8.hok hnC kp) I8.bare λb hb=>?_
   cases List.mem_singleton.mp hb
   exact⟨.inr I3.sz,hCL,hcC,hpC⟩
  ·refine Ŭ (T.item (lF X.bD N' scope cl dZ.objs.size {s2 with heap:=dZ} (upd H2 s2.heap.objs.size (.lst [])) fp) rfl rfl rfl hcalm i [] s5 σ5 H5 (λ_ _=>False) I5 (stat fr5) QM go) λr s6 ⟨u,hr,h6⟩=>?_
   subst hr
   refine Ŭ h6 λ_ s7 ⟨x,H7,I7,r7,y7,st7,fr7⟩=>?_
   have I7':=I7.pinned (stat fr7) (T.obj _ _ st7)
   have again:∀{s8:Shared} {σ8:L2.St} {H8:Hp},Inv (lF X.bD N' scope cl dZ.objs.size {s2 with heap:=dZ} (upd H2 s2.heap.objs.size (.lst [])) fp) ([]++oW fp s7.heap) σ8 H8 s8->
    Inv (lF X.bD N' scope cl dZ.objs.size {s2 with heap:=dZ} (upd H2 s2.heap.objs.size (.lst [])) fp) [] σ8 H8 s8/\tn (i+1) s8.heap/\∀b∈fp,H8 b=none:=fun{s8 σ8 H8} I8=>by
    refine⟨I8.gO,T.keep _ _ _ st7 λb hb o e=>(I8.pin (b,o) (List.mem_append_right _ (List.mem_append_right _ (aR hb e)))).1,λb hb=>?_⟩
    obtain⟨o,e,d⟩:=T.obj _ _ st7 b hb
    exact(I8.pin (b,o) (List.mem_append_right _ (List.mem_append_right _ (aR hb e)))).2.1
   refine Ŭ (hg cl _ _ _ fp _ s7 σ5 H7 x u _ I7' r7 (step x H7 y7)) λ_ s8 ⟨σ8,H8,I8,q8⟩=>?_
   refine Ŭ (ht cl _ _ _ fp _ s8 σ8 H8 _ I8 q8) λc s9 ⟨H9,I9,q9⟩=>?_
   cases c with
   |false=>
    rw[if_neg Bool.false_ne_true] at q9 ⊢
    obtain⟨m',hm',w9⟩:=hN _ _ q9
    obtain⟨a1,a2,a3⟩:=again I9
    exact⟨m',hm',i+1,σ8,H9,a1,a2,a3,w9⟩
   |true=>
    rw[if_pos rfl] at q9 ⊢
    refine Ŭ (he cl _ _ _ fp _ s9 σ8 H9 _ I9 q9) λyv s10 ⟨y,H10,I10,r10,ys,e10,l10,w10⟩=>?_
    refine Ŭ (cR _ s10 σ8 H10 (.ref s2.heap.objs.size) [y] (.ref s2.heap.objs.size) [yv] (λ_ H11=>N σ8 H11) I10 rfl (.cons r10 .nil) ⟨_,ys,y,rfl,rfl,e10,l10,w10⟩) λ_ s11 ⟨v11,H11,I11,_,w11⟩=>?_
    obtain⟨a1,a2,a3⟩:=again I11
    obtain⟨m',hm',w11⟩:=hN _ _ w11
    exact⟨m',hm',i+1,σ8,H11,a1,a2,a3,w11⟩
 exact codeAny_compStart_list (loop _ rfl) (T.self _ 0 _ _ _ st4 (loop _ rfl))
end
end M3
namespace P
open PySem PySem.Spec PyProof.Rows L2 M2 M3 M4
section
variable{X:Cx}{cm:String->Addr}{E:L2.St->XK}{elt tg iter:Expr}{ifs:List Expr}{scope:Scope}{pos:Pos}{mi:M (List PV)}{g:Tg}{mt:M Bool}{me:M PV}
theorem PS.bD{st:Stmt}{t:TS}(h:PS X.bD st t):PS X st t:=λpins s σ H D I hw=>
 wpAny_mono (h pins s σ H D (I.wish _) hw) (λ_ _ q=>q.iJ) λ_ _ z=>False.elim z
def fL{i:Nat}{y:Str}{py spos:Pos}(hN:X.N.Nodup)(hi0:X.N[i]?=some y)(hy:X.env.scope.names.lookup y=some .local)(N':List Str)(js:List Nat)(nl:Nat)(sc:Scope)(hsc:X.env.scope=sc)(hcalm:X.calm=true)
 (hi:PI X.bD tg iter (tI (kk X cm) E mi))(hg:∀cl C s H fp,PG (lF X.bD N' scope cl C s H fp) tg (tT (kk X cm) g))(ht:∀cl C s H fp,Uc (lF X.bD N' scope cl C s H fp) ifs (tB (kk X cm) EF mt))(he:∀cl C s H fp,PE (lF X.bD N' scope cl C s H fp) elt (tV (kk X cm) EF me))
 (hcap:jM X.bD sc scope N' js)(hlen:js.length+nl=N'.length:=by rfl)
 (hk:scope.kind=.function:=by rfl)(hcell:∀y∈scope.names,y.2=.cell->scope.names.lookup y.1=some .cell:=by decide +kernel)(hnames:∀y∈scope.names,y.2=.local->scope.names.lookup y.1=some .local:=by decide +kernel)
 (hfree:∀y∈scope.names,y.2=.free->(sc.names.lookup y.1=some .cell\/sc.names.lookup y.1=some .free):=by decide +kernel)
 (hs:∀x,foldedSetIterable iter X.env x=pure x:=by intro _;rfl)(hsw:swapsWith (.ListComp elt [⟨tg,iter,ifs,0⟩] scope pos) (some (.Name y py)) spos.line X.env=pure true:=by rfl) :
 PS X (.Assign [.Name y py] (.ListComp elt [⟨tg,iter,ifs,0⟩] scope pos) spos) (tS (kk X cm) E (Ķ i (Š js nl mi g mt me))):=
 PS.wk (PS.bD (Sv hN hi0 hy hsw N' js nl sc hsc hcalm hi hg ht he hcap hlen hk hcell hnames hfree hs)) fun D σ H ⟨c,F,ρ,rel,h⟩=>Ai ⟨c,F,ρ,rel,ű.bind h fun r ρ1 v F1 H1 ě s1 q h1=>by
   cases r with
   |sh p=>exact h1 _ F1 H1 (ě.put rfl ⟨v,rfl,q⟩) (Same.refl _)
   |ow ps=>
    obtain⟨a,vs,rfl,q1,q2,q3,q4,q5⟩:=q
    exact h1 _ F1 H1 (ě.Rx ⟨a,vs,rfl,q1,q2,q3,q5⟩ λ_ z=>V.ref.inj z▸q4) (Same.refl _)
   |ot ps qs=>
    obtain⟨p,a,xs,vs,rfl,q0,qx,q1,q2,q3,q4,q5⟩:=q
    exact h1 _ F1 H1 (ě.Rx (s:=.ot ps qs) ⟨p,a,xs,vs,rfl,q0,qx,q1,q2,q3,q5⟩ λ_ z=>rz (ps:=ps) (qs:=qs) z ⟨p,xs,rfl,q0⟩▸q4) (Same.refl _)⟩
end
end P
namespace P
open PySem PySem.Spec PyProof.Rows L2 M2 M3 M4
section
variable{X:Cx}{cm:String->Addr}{K:KK}{E:L2.St->XK}{o e:Expr}{es:List Expr}{name:Str}{apos cpos:Pos}{id:String}{r:V->List V->Hp->VK->Prop}{f:PV->List PV->Option PV}{mo:M PV}{ms:M (List PV)}
end
end P
namespace P
open PySem PySem.Spec PyProof.Rows L2 M2 M3 M4
section
variable{X:Cx}{pins:List (Addr×Obj)}{σ:L2.St}{H:Hp}{s:Shared}{h':Heap}
def turns{t':Nat}{fp:List Addr}(I:Inv X pins σ H s)(k:∀b o,b∉fp->s.heap.get? b=some o->h'.get? b=some o)(hf:∀b∈fp,dB X pins H b):Inv X pins σ H {s with heap:=h',toks:=t'}:=by
 have nit:∀b u,H b=some u->b∉fp:=λb u e z=>by rw[(hf b z).1] at e;cases e
 have hL:X.env.locals∉fp:=λz=>(hf _ z).2.1 rfl
 refine I.step (g':=s.gens) (d':=s.drawn) (ch:=fp) (λb hb=>?_) (λb o _ _ hc e _=>k b o hc e) (λb o _ _ hc e _=>⟨o.slots,k b o hc e⟩) (λ_ _ _ _ n=>n)
  (λb o hc e=>⟨o,k b o hc e⟩) (λ_ _ e=>e) (λ_ _ _ e=>e) (λb ps e=>e) (λm hm=>?_) (λb u e=>?_) I.bare
 ·obtain⟨f0,f1,f2,f3,f4,f5⟩:=hf b hb
  exact⟨f3,f1,f4,f5⟩
 ·obtain⟨o,es,ep,ho,r⟩:=hm
  exact⟨o,es,ep,k _ o hL ho,r⟩
 ·refine(I.hok b u e).stay (λc v hc q=>k c v ?_ q) (λ_ q=>q) λ_ _ q=>q
  rcases hc with z|z
  ·rw[z];exact nit b u e
  ·exact nit c _ z
def ZbI{a b:Addr}{o:HO}(f:dB X pins H b)(h:b≠a):dB X pins (upd H a o) b:=⟨by rw[Ę h];exact f.1,f.2⟩
def sY{t':Nat}{fp:List Addr}{u1 u2:Value}{x1 x2:V}(I:Inv X pins σ H s)(r1:RelV x1 u1)(r2:RelV x2 u2)(ht:∃o,h'.get? s.heap.objs.size=some o/\o= {cls:=.type "tuple",data:=.seq #[u1,u2]})
 (k:∀b o,b∉fp->s.heap.get? b=some o->h'.get? b=some o)(hf:∀b∈fp,dB X pins H b)(hlt:∀b∈fp,b<s.heap.objs.size) :
 Inv X pins σ (upd H s.heap.objs.size (.tup [x1,x2])) {s with heap:=h',toks:=t'}:=by
 have I1:Inv X pins σ (upd H s.heap.objs.size (.tup [x1,x2])) {s with heap:=s.heap.push {cls:=.type "tuple",data:=.seq #[u1,u2]},toks:=s.toks}:=
  I.laid (t':=s.toks) (λb u e=>Heap.get?_push_of_some _ e) (Nat.le_refl _) ⟨by show 2<=sizeLine;decide,[u1,u2],.cons r1 (.cons r2 .nil),⟨_,Heap.get?_push_size _ rfl,rfl,_,rfl⟩⟩
 refine turns (fp:=fp) (s:={s with heap:=s.heap.push {cls:=.type "tuple",data:=.seq #[u1,u2]},toks:=s.toks}) (h':=h') (t':=t') I1 (λb o hb e=>?_) λb hb=>ZbI (hf b hb) (Nat.ne_of_lt (hlt b hb))
 rcases Heap.get?_push_cases e with⟨rfl,rfl⟩|e
 ·obtain⟨o,h1,h2⟩:=ht
  rw[h1,h2]
 ·exact k b o hb e
end
def Ite(K:PySem.W.Frag)(a:Addr):It:=
 ⟨λi H=>∃xs x,aQ K H a xs/\xs[i]?=some x,λi H y H'=>∃x T,(∀xs,aQ K H a xs->xs[i]?=some x)/\H T=none/\y=.ref T/\H'=upd H T (.tup [.int i,x]),λi H=>∃xs,aQ K H a xs/\xs.length<=i⟩
def JB{P:Program}{w:World}{K:PySem.W.Frag}{elts:List Expr}{k:Nat}{pos:Pos}(a e it:Addr)(hne:e≠it):Turn P w K (.Tuple elts k pos) (Ite K a) [e,it] e (λi h=>(∃old,IsEnum h e it i old)/\h.IsListIter it a i) where
 mem:=by simp
 obj:=λi h st b hb=>by
  obtain⟨⟨old,he⟩,hit⟩:=st
  rcases List.mem_cons.mp hb with rfl|hb
  ·exact⟨_,he,fun v z=>by
    have z':Data.fields _=Data.cell v:=z
    cases z'⟩
  ·have e':b=it:=by simpa using hb
   subst e'
   obtain⟨o,e1,c,d⟩:=hit
   exact⟨o,e1,λv z=>by rw[d] at z;cases z⟩
 keep:=λi h h' st k=>⟨let ⟨old,he⟩:=st.1;⟨old,k e (by simp) _ he⟩,st.2.at λo q=>k it (by simp) o q⟩
 item:=by
  intro X hP hw hK hc i pins s σ H E I hf st hg
  subst hP hw hK
  obtain⟨⟨old,he⟩,hit⟩:=st
  obtain⟨xs,x,hq,hx⟩:=hg
  obtain⟨its,rv,p,hz⟩:=I.list hq
  obtain⟨u,hu,ru⟩:=rv.get hx
  have elt:e<s.heap.objs.size:=Heap.lt_size he
  have ilt:it<s.heap.objs.size:=by obtain⟨_,q,_⟩:=hit;exact Heap.lt_size q
  refine wpAny_pyNext_enum_item he hit p.isList (x:=u) (by simpa using hu) hne λh' ho hit' hT hsz hk=>?_
  refine⟨.ref s.heap.objs.size,rfl,wpAny_letOwnedTupleGo_enum ho λh'' he' hs'=>?_⟩
  have hs2:Heap.SameBut e h' h'':=hs'
  have hlt:∀b∈[e,it],b<s.heap.objs.size:=λb hb=>by
   rcases List.mem_cons.mp hb with rfl|hb
   ·exact elt
   ·have e':b=it:=by simpa using hb
    subst e';exact ilt
  have I2:=sY (fp:=[e,it]) (h':=h'') (t':=s.toks+1) (x1:=.int i) I ⟨s.toks,rfl⟩ ru ⟨_,(hs2.2 _ (Nat.ne_of_gt elt)).trans hT,rfl⟩ (λb o hb q=>by
   have hbe:b≠e:=λz=>hb (by simp[z])
   have hbi:b≠it:=λz=>hb (by simp[z])
   exact(hs2.2 b hbe).trans (hk b o hbe hbi q)) hf hlt
  refine⟨.ref s.heap.objs.size,_,I2,rfl,⟨x,s.heap.objs.size,λys hy=>by rw[I.rN hy hq];exact hx,I.fresh,rfl,rfl⟩,⟨⟨u,?_⟩,hit'.at λo q=>(hs2.2 it hne.symm).trans q⟩,λb hb=>?_⟩
  ·have he2:IsEnum h'' e it ((i:Int)+1) u:=he'
   show IsEnum h'' e it (((i+1:Nat):Int)) u
   rw[Int.natCast_add]
   exact he2
  ·rw[Ę (Nat.ne_of_lt (hlt b hb))];exact(hf b hb).1
 done:=by
  intro X hP hw hK hc i pins s σ H E I hf st hg
  subst hP hw hK
  obtain⟨⟨old,he⟩,hit⟩:=st
  obtain⟨xs,hq,hx⟩:=hg
  obtain⟨its,rv,p,hz⟩:=I.list hq
  have hl:=rv.length
  refine wpAny_pyNext_enum_end (I.ok.hd hc) he hit p.isList (by simp;omega) λh' eb=>⟨rfl,turns (fp:=[e,it]) (t':=s.toks) I (λb o hb q=>eb b o (λz=>hb (by simp[z])) q) hf⟩
 self:=λ_ _ _ _ _ st h=>let ⟨_,he⟩:=st.1;wpAny_pyIter_enum he h
section
variable{X:Cx}{elts:List Expr}{k:Nat}{tp:Pos}
def Zej(K:PySem.W.Frag)(ta:TA):TI:=λσ H R=>ta σ H λvs H1=>∃a,vs=[.ref a]/\(∃xs,aQ K H1 a xs)/\R (Ite K a) H1
def Sw{l:Expr}{ta:TA}{p pos:Pos}(hg:Gl X "enumerate")(hm:X.mg "enumerate" =none)(ha:PA X [l] ta)(hs:starEach [l] X.env=[(false,eval l X.env)]:=by exact Ĵ rfl):PI X (.Tuple elts k tp) (.Call (.Name "enumerate" p) [l] [] pos) (Zej X.K ta):=by
 intro pins s σ H R I h
 refine Call_ (mX I hg hm boot_enumerate (PyProof.Rows.callWith_type1 (Ŭ (ha pos pins s σ H _ I h) λus s1 ⟨vs,H1,I1,r1,q1⟩=>?_) hs rfl))
 obtain⟨a,e,⟨xs,hq⟩,q⟩:=q1
 subst e
 obtain⟨u,rfl,ru⟩:=r1.one
 cases ru
 obtain⟨its,rv,pl,hz⟩:=I1.list hq
 refine call_enumerate_list pl.isList λh' he hit hsz hk=>?_
 have I2:Inv X pins σ H1 {s1 with heap:=h'}:=I1.kept (t':=s1.toks) hk
 refine wpAny_pyIter_enum (s:={s1 with heap:=h'}) he ⟨s1.heap.objs.size+1,[s1.heap.objs.size+1,s1.heap.objs.size],_,_,H1,rfl,I2,JB a _ _ (Nat.succ_ne_self _),⟨⟨_,he⟩,hit⟩,λb hb=>?_,q⟩
 have hb':s1.heap.objs.size<=b:=by
  rcases List.mem_cons.mp hb with rfl|hb
  ·exact Nat.le_succ _
  ·have e':b=s1.heap.objs.size:=by simpa using hb
   exact Nat.le_of_eq e'.symm
 exact I1.uL hb' (I1.hok.fresh hb')
end
def rLs(K:KK):RR (List PV) V:=λc _ _ F H items v=>∃a,v=.ref a/\(∃xs,aQ K.K H a xs)/\jC K c.L F (Itl K.K a) items
def rTs(K:KK):RR (List PV) V:=λc _ _ F H items v=>∃a,v=.ref a/\(∃xs,gG K.K H a xs)/\jC K c.L F (Itt K.K a) items
def rSq(K:KK):RR (List PV) V:=λc σ ρ F H items v=>rLs K c σ ρ F H items v\/rTs K c σ ρ F H items v
def oh{K:KK}{L F:Hp}{ps:List PV}{v:V}(h:Rep K F (.lst ps) v):∃a,v=.ref a/\(∃xs,aQ K.K F a xs)/\jC K L F (Itl K.K a) ps:=by
 unfold Rep at h
 obtain⟨a,vs,rfl,e1,e2⟩:=h
 refine⟨a,rfl,⟨vs,e1⟩,?_⟩
 intro c' i F2 H2 σ2 ρ2 ŏ sF _
 have hq:aQ K.K H2 a vs:=(sF.trans ŏ.sub).seq e1
 refine⟨λp hp=>?_,λhi=>⟨vs,hq,by rw[hi,e2.length];exact Nat.le_refl _⟩⟩
 obtain⟨u,hu,ru⟩:=cU e2.pr hp
 refine⟨⟨vs,u,hq,hu⟩,λx H' ⟨hH,hx⟩=>?_⟩
 subst hH
 have:vs[i]?=some x:=hx vs hq
 rw[hu] at this
 cases this
 exact⟨F2,ŏ,Same.refl _,Same.refl _,Rep.same sF p u ru⟩
def Np{K:KK}{L F:Hp}{ps:List PV}{v:V}(h:Rep K F (.tup ps) v):∃a,v=.ref a/\(∃xs,gG K.K F a xs)/\jC K L F (Itt K.K a) ps:=by
 unfold Rep at h
 obtain⟨a,vs,rfl,e1,e2⟩:=h
 refine⟨a,rfl,⟨vs,e1⟩,?_⟩
 intro c' i F2 H2 σ2 ρ2 ŏ sF _
 have hq:gG K.K H2 a vs:=Same.tup (sF.trans ŏ.sub) e1
 refine⟨λp hp=>?_,λhi=>⟨vs,hq,by rw[hi,e2.length];exact Nat.le_refl _⟩⟩
 obtain⟨u,hu,ru⟩:=cU e2.pr hp
 refine⟨⟨vs,u,hq,hu⟩,λx H' ⟨hH,hx⟩=>?_⟩
 subst hH
 have:vs[i]?=some x:=hx vs hq
 rw[hu] at this
 cases this
 exact⟨F2,ŏ,Same.refl _,Same.refl _,Rep.same sF p u ru⟩
def vI{K:KK}{c:Ctx}{F:Hp}{a:Addr}{vs:List V}{ps:List PV}(h2:c.L a=some (.lst vs))(h3:Ģ K F ps vs):jC K c.L F (Itl K.K a) ps:=by
 intro c' j F2 H2 σ2 ρ2 ŏ sF sL
 have hq:aQ K.K H2 a vs:=aQ.of (sL a _ h2)
 refine⟨λp hp=>?_,λhi=>⟨vs,hq,by rw[hi,h3.length];exact Nat.le_refl _⟩⟩
 obtain⟨u,hu,ru⟩:=cU h3.pr hp
 refine⟨⟨vs,u,hq,hu⟩,λx H' ⟨hH,hx⟩=>?_⟩
 subst hH
 have:vs[j]?=some x:=hx vs hq
 rw[hu] at this
 cases this
 exact⟨F2,ŏ,Same.refl _,Same.refl _,Rep.same sF p u ru⟩
def jC.mono{K:KK}{L F F1:Hp}{J:It}{ps:List PV}(h:jC K L F J ps)(s:Same F F1):jC K L F1 J ps:=λc i F2 H σ ρ rel sF sL=>h c i F2 H σ ρ rel (s.trans sF) sL
def JC(i:Nat):M (List PV):=λρ=>match ρ[i]? with
 |some (.bw ps)=>.ok ps ρ
 |some (.sh (.lst ps))=>.ok ps ρ
 |some (.ow ps)=>.ok ps (ρ.set i (.sh (.lst ps)))
 |_=>.bad
def Nq(i:Nat):M (List PV):=λρ=>match ρ[i]? with
 |some (.bw ps)=>.ok ps ρ
 |some (.sh (.lst ps))=>.ok ps ρ
 |some (.sh (.tup ps))=>.ok ps ρ
 |some (.ow ps)=>.ok ps (ρ.set i (.sh (.lst ps)))
 |_=>.bad
section
variable{X:Cx}{cm:String->Addr}{E:L2.St->XK}{e:Expr}{m:M PV}
def Uu(i:Nat){x:Str}{px:Pos}(hN:X.N[i]?=some x:=by rfl)(hv:Ck X.env.scope x:=by first|exact Or.inl rfl|exact Or.inr (Or.inl rfl)|exact Or.inr (Or.inr rfl))(hd:(x== ("__debug__" :Str))=false:=by decide)
 (hcd:(x== ("__classdict__" :Str))=false:=by decide):PE X (.Name x px) (tG (kk X cm) E (rSq (kk X cm)) (Nq i)):=PE.wk (iI hN hv hd hcd) λσ H Q ⟨c,F,ρ,rel,h⟩=>by
 unfold Nq at h
 cases e:ρ[i]? with
 |none=>rw[e] at h;exact h.elim
 |some sl=>
  rw[e] at h
  cases sl with
  |no=>exact h.elim
  |rc C ns ps=>exact h.elim
  |ot ps qs=>exact h.elim
  |ol GR=>exact h.elim
  |ow ps=>
   obtain⟨a,vs,z1,z2,z3,z4⟩:=rel.share e
   obtain⟨a',e1,⟨xs,e2⟩,e3⟩:=oh (L:=c.L) z3
   cases e1
   exact⟨.ref a,z1,h _ _ H z4 (Same.upd z2) (Same.refl _) (.inl ⟨a,rfl,⟨xs,z4.sub.seq e2⟩,e3⟩)⟩
  |bw ps=>
   obtain⟨a,vs,h1,h2,h3⟩:=rel.slot i _ e
   exact⟨.ref a,at_of h1,h _ F H rel (Same.refl _) (Same.refl _) (.inl ⟨a,rfl,⟨vs,aQ.of (rel.lent a _ h2).1⟩,vI h2 h3⟩)⟩
  |sh p=>
   obtain⟨v,h1,h2⟩:=rel.slot i _ e
   cases p with
   |lst ps=>
    obtain⟨a,e1,⟨xs,e2⟩,e3⟩:=oh (L:=c.L) h2
    exact⟨v,at_of h1,h v F H rel (Same.refl _) (Same.refl _) (.inl ⟨a,e1,⟨xs,rel.sub.seq e2⟩,e3⟩)⟩
   |tup ps=>
    obtain⟨a,e1,⟨xs,e2⟩,e3⟩:=Np (L:=c.L) h2
    exact⟨v,at_of h1,h v F H rel (Same.refl _) (Same.refl _) (.inr ⟨a,e1,⟨xs,Same.tup rel.sub e2⟩,e3⟩)⟩
   |_=>exact h.elim
def Nr(i:Nat){x:Str}{px:Pos}(hN:X.N[i]?=some x:=by rfl)(hv:Ck X.env.scope x:=by first|exact Or.inl rfl|exact Or.inr (Or.inl rfl)|exact Or.inr (Or.inr rfl))(hd:(x== ("__debug__" :Str))=false:=by decide)
 (hcd:(x== ("__classdict__" :Str))=false:=by decide):PE X (.Name x px) (tG (kk X cm) E (rLs (kk X cm)) (JC i)):=PE.wk (iI hN hv hd hcd) λσ H Q ⟨c,F,ρ,rel,h⟩=>by
 unfold JC at h
 cases e:ρ[i]? with
 |none=>rw[e] at h;exact h.elim
 |some sl=>
  rw[e] at h
  cases sl with
  |no=>exact h.elim
  |rc C ns ps=>exact h.elim
  |ot ps qs=>exact h.elim
  |ol GR=>exact h.elim
  |ow ps=>
   obtain⟨a,vs,z1,z2,z3,z4⟩:=rel.share e
   obtain⟨a',e1,⟨xs,e2⟩,e3⟩:=oh (L:=c.L) z3
   cases e1
   exact⟨.ref a,z1,h _ _ H z4 (Same.upd z2) (Same.refl _) ⟨a,rfl,⟨xs,z4.sub.seq e2⟩,e3⟩⟩
  |bw ps=>
   obtain⟨a,vs,h1,h2,h3⟩:=rel.slot i _ e
   exact⟨.ref a,at_of h1,h _ F H rel (Same.refl _) (Same.refl _) ⟨a,rfl,⟨vs,aQ.of (rel.lent a _ h2).1⟩,vI h2 h3⟩⟩
  |sh p=>
   obtain⟨v,h1,h2⟩:=rel.slot i _ e
   cases p with
   |lst ps=>
    obtain⟨a,e1,⟨xs,e2⟩,e3⟩:=oh (L:=c.L) h2
    exact⟨v,at_of h1,h v F H rel (Same.refl _) (Same.refl _) ⟨a,e1,⟨xs,rel.sub.seq e2⟩,e3⟩⟩
   |_=>exact h.elim
def mJ:Nat->List PV->List PV
 |_,[]=>[]
 |k,p::ps=>.tup [.int k,p]::mJ (k+1) ps
theorem vJ:∀(k:Nat) (ps:List PV),(mJ k ps).length=ps.length
 |_,[]=>rfl
 |k,_::ps=>congrArg (·+ 1) (vJ (k+1) ps)
theorem vK:∀(k:Nat) (ps:List PV) (i:Nat),(mJ k ps)[i]?=ps[i]?.map λp=>.tup [.int ((k+i:Nat):Int),p]
 |_,[],_=>rfl
 |k,p::ps,0=>rfl
 |k,p::ps,i+1=>by
  show(mJ (k+1) ps)[i]?=_
  rw[vK (k+1) ps i,List.getElem?_cons_succ,show k+1+i=k+(i+1) by omega]
def Bh(m:M (List PV)):M (List PV):=λρ=>(m ρ).bind λps ρ1=>.ok (mJ 0 ps) ρ1
def HJ{K:KK}{c:Ctx}{F H:Hp}{σ:L2.St}{ρ:ŝ}{T:Addr}{p q:PV}{x y:V}(rel:Rel K c F H σ ρ)(hT:H T=none)(r1:Rep K F p x)(r2:Rep K F q y):Rel K c (upd F T (.tup [x,y])) (upd H T (.tup [x,y])) σ ρ/\Rep K (upd F T (.tup [x,y])) (.tup [p,q]) (.ref T):=by
 have hF:=rel.sub.free hT
 refine⟨rel.alloc hT,?_⟩
 unfold Rep
 exact⟨T,[x,y],rfl,gG.of Ī,Ģ.cons (Rep.same (Same.upd hF) p x r1) (Ģ.cons (Rep.same (Same.upd hF) q y r2) Ģ.nil)⟩
def JD{K:KK}{L F:Hp}{a:Addr}{ps:List PV}(h:jC K L F (Itl K.K a) ps):jC K L F (Ite K.K a) (mJ 0 ps):=by
 intro c i F2 H σ ρ rel sF sL
 obtain⟨g,st⟩:=h c i F2 H σ ρ rel sF sL
 refine⟨λp hp=>?_,λhi=>st (by rw[hi,vJ])⟩
 rw[vK] at hp
 cases eq:ps[i]? with
 |none=>rw[eq] at hp;cases hp
 |some q=>
  rw[eq] at hp
  have hp':PV.tup [.int ((0+i:Nat):Int),q]=p:=Option.some.inj hp
  subst hp'
  obtain⟨⟨xs,x,hq,hx⟩,g2⟩:=g q eq
  refine⟨⟨xs,x,hq,hx⟩,λy H' ⟨x',T,h1,hT,ey,eH⟩=>?_⟩
  subst ey eH
  obtain⟨F3,lX,s3,_,rp⟩:=g2 x' H ⟨rfl,h1⟩
  obtain⟨r1,r2⟩:=HJ (p:=.int i) (x:=.int i) lX hT (by unfold Rep;rfl) rp
  refine⟨_,r1,s3.trans (Same.upd (lX.sub.free hT)),Same.upd hT,?_⟩
  rw[Nat.zero_add]
  exact r2
def DG{elts:List Expr}{k:Nat}{tp p pos:Pos}{mi:M (List PV)}(hg:Gl X "enumerate")(hm:X.mg "enumerate" =none)(hl:PE X e (tG (kk X cm) E (rLs (kk X cm)) mi))(hs:starEach [e] X.env=[(false,eval e X.env)]:=by exact Ĵ rfl) :
 PI X (.Tuple elts k tp) (.Call (.Name "enumerate" p) [e] [] pos) (tI (kk X cm) E (Bh mi)):=λpins s σ H R I h=>Sw hg hm (dY hl mY hs) hs pins s σ H R I (by
 obtain⟨c,F,ρ,rel,h⟩:=h
 refine⟨c,F,ρ,rel,h.bind λps ρ1 v F1 H1 ě s1 s2 q h1=>?_⟩
 obtain⟨a,e1,e2,e3⟩:=q
 subst e1
 exact⟨a,rfl,e2,h1 _ F1 H1 ě (Same.refl _) (Same.refl _) (JD e3)⟩)
def DK(i:Nat)(mo:M RV):M Fl:=λρ=>match ρ[i]? with
 |some (.ow _)=>(mo ρ).bind λr ρ1=>match ρ1[i]?,r with
  |some (.ow ps),.ow qs=>if ps.length+qs.length<=16777216 then .ok .nx (ρ1.set i (.ow (ps++qs))) else .bad
  |_,_=>.bad
 |_=>.bad
def HN{i:Nat}{mo:M RV}{D:Ends}{σ:L2.St}{H:Hp}(h:tS (kk X cm) E (DK i mo) D σ H):Kc (tBM X.K "list" GD (wF i) (Ub (tO (kk X cm) E mo) Zdu)) D σ H:=by
 obtain⟨c,F,ρ,rel,h⟩:=h
 unfold DK at h
 cases e1:ρ[i]? with
 |none=>rw[e1] at h;exact h.elim
 |some sl=>
  rw[e1] at h
  cases sl with
  |ow ps0=>
   obtain⟨a,vs0,z1,z2,z3,z4,z5,z6⟩:=rel.ow e1
   refine⟨.ref a,z1,.inl ⟨rfl,_,aQ.of z2⟩,c,F,ρ,rel,?_⟩
   refine ű.bind h λr ρ1 v F1 H1 ě s1 q h1=>?_
   cases e2:ρ1[i]? with
   |none=>simp only[e2] at h1;exact h1.elim
   |some sl2=>
    simp only[e2] at h1
    cases sl2 with
    |ow ps=>
     cases r with
     |ow qs=>
      obtain⟨b,us,eb,hb1,hb2,hb3,hb4,hb5⟩:=q
      subst eb
      obtain⟨a2,vs,w1,w2,w3,w4,w5,w6⟩:=ě.ow e2
      rw[z1] at w1
      cases w1
      dsimp only at h1
      split at h1
      ·rename_i hz
       refine⟨a,b,vs,us,rfl,rfl,w2,hb1,by rw[<-w5.length,<-hb5.length,Ř];exact hz,h1 σ F1 _ (ě.write w6 z1 ⟨a,vs++us,rfl,Ī,w3,w4,Ģ.append w5 hb5⟩ λ_ z=>(V.ref.inj z).symm) (Same.refl _)⟩
      ·exact h1.elim
     |_=>exact h1.elim
    |_=>exact h1.elim
  |_=>exact h.elim
@[simp] theorem Zhf{i:Nat}{mo:M RV}{ρ:ŝ}:DK i mo ρ=(match ρ[i]? with
  |some (.ow _)=>(mo ρ).bind λr ρ1=>match ρ1[i]?,r with
   |some (.ow ps),.ow qs=>if ps.length+qs.length<=16777216 then .ok .nx (ρ1.set i (.ow (ps++qs))) else .bad
   |_,_=>.bad
  |_=>.bad):=rfl
@[simp] theorem ZfD{mi:M (List PV)}{ρ:ŝ}:Bh mi ρ=(mi ρ).bind λps ρ1=>.ok (mJ 0 ps) ρ1:=rfl
@[simp] theorem Zhg{i:Nat}{ρ:ŝ}:JC i ρ=(match ρ[i]? with
  |some (.bw ps)=>.ok ps ρ
  |some (.sh (.lst ps))=>.ok ps ρ
  |some (.ow ps)=>.ok ps (ρ.set i (.sh (.lst ps)))
  |_=>.bad):=rfl
@[simp] theorem Zhh{i:Nat}{ρ:ŝ}:Nq i ρ=(match ρ[i]? with
  |some (.bw ps)=>.ok ps ρ
  |some (.sh (.lst ps))=>.ok ps ρ
  |some (.sh (.tup ps))=>.ok ps ρ
  |some (.ow ps)=>.ok ps (ρ.set i (.sh (.lst ps)))
  |_=>.bad):=rfl
end
end P
namespace P
open PySem PySem.Spec PyProof.Rows L2 M2 M3 M4
def Zek{X:Cx}:PIp X .BitOr (ipI λi j=>Builtin.bitOr i j):=by
 intro pins s σ H x y v u Q I r1 r2 h
 obtain⟨i,j,e1,e2,q⟩:=h
 subst e1;subst e2
 obtain⟨t,rfl⟩:=r1
 obtain⟨t',rfl⟩:=r2
 exact ior_int ⟨.int _,H,I.tok _,⟨_,rfl⟩,q⟩
def Bj(i:Nat)(m:M PV):M Fl:=λρ=>match ρ[i]? with
 |some (.sh (.int _))=>(m ρ).bind λq ρ1=>match ρ1[i]?,q with
  |some (.sh (.int k)),.int j=>.ok .nx (ρ1.set i (.sh (.int (Builtin.bitOr k j))))
  |_,_=>.bad
 |_=>.bad
@[simp] theorem ZfE{i:Nat}{m:M PV}{ρ:ŝ}:Bj i m ρ=(match ρ[i]? with
  |some (.sh (.int _))=>(m ρ).bind λq ρ1=>match ρ1[i]?,q with
   |some (.sh (.int k)),.int j=>.ok .nx (ρ1.set i (.sh (.int (Builtin.bitOr k j))))
   |_,_=>.bad
  |_=>.bad):=rfl
section
variable{X:Cx}{cm:String->Addr}{E:L2.St->XK}{e a b:Expr}{m ma mb:M PV}{pos:Pos}
def xU{K:KK}{F:Hp}{i:Int}{v:V}(h:Rep K F (.int i) v):v=.int i:=by unfold Rep at h;exact h
def Nt{i:Nat}{x:Str}{pos':Pos}(hN:X.N.Nodup)(hi:X.N[i]?=some x)(hx:Loc X.env.scope x)(he:PE X e (tV (kk X cm) E m))(hf:X.fn x=true\/X.env.scope.names.lookup x=some .local:=by first|exact .inl rfl|exact .inr rfl|assumption) :
 PS X (.AugAssign (.Name x pos') .BitOr e pos) (tS (kk X cm) E (Bj i m)):=PS.wk (ZaP hN hi hx he Zek hf) λD σ H ⟨c,F,ρ,rel,h⟩=>by
 unfold Bj at h
 cases e1:ρ[i]? with
 |none=>rw[e1] at h;exact h.elim
 |some sl=>
  rw[e1] at h
  cases sl with
  |sh p=>
   cases p with
   |int k0=>
    obtain⟨v,h1,h2⟩:=rel.slot i _ e1
    cases xU h2
    refine⟨.int k0,at_of h1,c,F,ρ,rel,ű.bind h λq ρ1 u F1 H1 ě s1 rq h1'=>?_⟩
    cases e2:ρ1[i]? with
    |none=>simp only[e2] at h1';exact h1'.elim
    |some sl2=>
     simp only[e2] at h1'
     cases sl2 with
     |sh p2=>
      cases p2 with
      |int k=>
       cases q with
       |int j=>
        obtain⟨v2,w1,w2⟩:=ě.slot i _ e2
        cases xU w2
        rw[h1] at w1
        cases w1
        cases xU rq
        exact⟨k0,j,rfl,rfl,h1' _ F1 H1 (ě.put rfl ⟨_,rfl,Rep.int⟩) (Same.refl _)⟩
       |_=>exact h1'.elim
      |_=>exact h1'.elim
     |_=>exact h1'.elim
   |_=>exact h.elim
  |_=>exact h.elim
end
section
variable{X:Cx}{K:KK}
end
end P
namespace P
open PySem PySem.Spec PyProof.Rows L2 M2 M3 M4
section
variable{prog:Program}{w:World}{A:Around}{E:Value->Shared->Prop}{s:Shared}
def ou{it l:Addr}{i:Nat}{items}{x:Value}{Q:Value->Shared->Prop}(hit:s.heap.IsTupleIter it l i)
 (hl:s.heap.IsTuple l items)(hx:items[i]?=some x)
 (hQ:∀h',h'.IsTupleIter it l (i+1)->Heap.SameBut it s.heap h'->Q x {s with heap:=h'}) :
 wpAny (model prog w) A (Builtin.SmallTypes.nextOf (.ref it)) Q E s:=by
 obtain⟨o,ho,hc,hd⟩:=id hit
 obtain⟨ol,hol,_,nl,hdl⟩:=hl
 unfold Builtin.SmallTypes.nextOf
 refine wpAny_bind (wpAny_callSpecial?_slot (name:=Str.ofString "__next__") hit.typeIs F.slot_tuple_iterator_next
  (wpAny_call_entry F.slot_tuple_iterator_next hit.typeIs F.entry_tuple_iterator_next ?_ (F.args_tuple_iterator_next_1 _)))
 show wpAny _ _ (field (.ref it) 0 >>= _) _ _ s
 refine wpAny_bind (wpAny_field ho hd (x:=.ref l) rfl ?_)
 show wpAny _ _ (if(Value.ref l== Value.none)=true then _ else _) _ _ s
 rw[if_neg (show ¬((Value.ref l== Value.none)=true) from Bool.false_ne_true)]
 show wpAny _ _ (field (.ref it) 1 >>= _) _ _ s
 refine wpAny_bind (wpAny_field ho hd (x:=.int i 0) rfl ?_)
 show wpAny _ _ (seqItems? (.ref l) >>= _) _ _ s
 refine wpAny_bind (wpAny_seqItems hol hdl ?_)
 simp only[Int.toNat_natCast,hx]
 refine wpAny_bind (wpAny_setField ho hd (by simp) (wpAny_pure ⟨x,rfl,wpAny_pure (hQ _ ?_ (Heap.SameBut.update ..))⟩))
 exact⟨_,Heap.get?_update_self _ ho (Obj.isFreed_of_fields (Obj.data_mapFields hd _)),(Obj.cls_mapFields ..).trans hc,by
  rw[Obj.data_mapFields hd];simp[rawInt]⟩
def pK{it l:Addr}{i:Nat}{items}{Q:Value->Shared->Prop}(hh:A.handled=none)
 (hit:s.heap.IsTupleIter it l i)(hl:s.heap.IsTuple l items)(hx:items[i]?=none)
 (hE:∀h' e,Heap.ExtBut it s.heap h'->(∃o,h'.get? e=some o/\o.cls=.type "StopIteration")->E (.ref e) {s with heap:=h'}) :
 wpAny (model prog w) A (Builtin.SmallTypes.nextOf (.ref it)) Q E s:=by
 obtain⟨o,ho,hc,hd⟩:=id hit
 obtain⟨ol,hol,_,nl,hdl⟩:=hl
 unfold Builtin.SmallTypes.nextOf
 refine wpAny_bind (wpAny_callSpecial?_slot (name:=Str.ofString "__next__") hit.typeIs F.slot_tuple_iterator_next
  (wpAny_call_entry F.slot_tuple_iterator_next hit.typeIs F.entry_tuple_iterator_next ?_ (F.args_tuple_iterator_next_1 _)))
 show wpAny _ _ (field (.ref it) 0 >>= _) _ _ s
 refine wpAny_bind (wpAny_field ho hd (x:=.ref l) rfl ?_)
 show wpAny _ _ (if(Value.ref l== Value.none)=true then _ else _) _ _ s
 rw[if_neg (show ¬((Value.ref l== Value.none)=true) from Bool.false_ne_true)]
 show wpAny _ _ (field (.ref it) 1 >>= _) _ _ s
 refine wpAny_bind (wpAny_field ho hd (x:=.int i 0) rfl ?_)
 show wpAny _ _ (seqItems? (.ref l) >>= _) _ _ s
 refine wpAny_bind (wpAny_seqItems hol hdl ?_)
 simp only[Int.toNat_natCast,hx]
 refine wpAny_bind (wpAny_rule (wpAny_bind (wpAny_setField ho hd (by simp) ?_)))
 show wpAny _ _ (newExc (.type "StopIteration") [] >>= _) _ _ _
 refine wpAny_bind ?_
 simp only[newExc,newTuple]
 refine wpAny_bind (wpAny_newObj_type ?_ (by size_fits))
 refine wpAny_bind (m:=firstArgMember _ _) (wpAny_of_eq (a:=Value.none) (by first|rfl|(simp only[firstArgMember];rfl)) ?_)
 refine wpAny_newObj_type ?_ (by size_fits)
 simp only[raiseNew]
 refine wpAny_bind (wpAny_handled ?_)
 first|rw[show A.in1.handled=none from hh]|rw[hh]
 refine wpAny_bind (wpAny_pure (wpAny_throw ?_))
 exact hE _ _ (((Heap.SameBut.update ..).extBut.push _).push _) ⟨_,Heap.get?_push_size _ rfl,rfl⟩
end
def Bk{prog:Program}{w:World}{A:Around}(hh:A.handled=none)(it l:Addr)(hne:l≠it)(items:Array Value) :
 Draws prog w A it [it,l] items.size (λi v=>items[i]?=some v) (λi h=>h.IsTupleIter it l i/\h.IsTuple l items) where
 live:=λ_ _ st=>let ⟨o,ho,_⟩:=st.1;⟨o,ho⟩
 frame:=λ_ _ _ st hk=>⟨let ⟨o,ho,r⟩:=st.1;⟨o,hk it (by simp) o ho,r⟩,let ⟨o,ho,r⟩:=st.2;⟨o,hk l (by simp) o ho,r⟩⟩
 item:=λi s Q E hi st hQ=>by
  refine ou st.1 st.2 (x:=items[i]) (by simp[hi]) λh' hit' hs'=>?_
  exact hQ _ h' s.toks (by simp[hi]) ⟨hit',st.2.extBut hs'.extBut hne⟩ hs'
 done:=λs Q E st hE=>pK hh st.1 st.2 (by simp) hE
structure ZAp(z TI TO i1 i2:Addr)(f1 f2:List Addr):Prop where
 TIz:TI≠z
 TOz:TO≠z
 i1z:i1≠z
 i2z:i2≠z
 TITO:TI≠TO
 TIi1:TI≠i1
 TIi2:TI≠i2
 TOi1:TO≠i1
 TOi2:TO≠i2
 i12:i1≠i2
 z1:z∉f1
 z2:z∉f2
 t1:TO∉f1
 t2:TO∉f2
 a1:i1∉f2
 a2:i2∉f1
section
variable{prog:Program}{w:World}{A:Around}{E:Value->Shared->Prop}{s:Shared}
def sZ{z TI TO i1 i2:Addr}{f1 f2:List Addr}{n1 n2 k1 k2:Nat}{P1 P2:Nat->Value->Prop}{S1 S2:Nat->Heap->Prop}{a b:Value}{Q:Value->Shared->Prop}(D:ZAp z TI TO i1 i2 f1 f2)
 (D1:Draws prog w A i1 f1 n1 P1 S1)(D2:Draws prog w A i2 f2 n2 P2 S2)
 (hz:IsZip s.heap z TI TO .none)(hTI:IsPair s.heap TI (.ref i1) (.ref i2))(hTO:IsPair s.heap TO a b)(h1:S1 k1 s.heap)(h2:S2 k2 s.heap)(hk1:k1<n1)(hk2:k2<n2)
 (hQ:∀x y h' tk,P1 k1 x→P2 k2 y→IsZip h' z TI TO (rawInt s.heap.objs.size)→IsPair h' TO x y→S1 (k1+1) h'→S2 (k2+1) h'→IsPair h' s.heap.objs.size x y→h'.objs.size=s.heap.objs.size+1→
   (∀c o,c≠z->c≠TO->c≠i1->c≠i2->s.heap.get? c=some o->h'.get? c=some o)->Q (.ref s.heap.objs.size) {s with heap:=h',toks:=tk}) :
 wpAny (model prog w) A (Builtin.«zip.__next__» ⟨[.ref z],[]⟩) (λfin s'=>∃v,fin=.done (.ret v)/\Q v s') E s:=by
 have Uv:∀{b},b∈f1->b≠z/\b≠TO/\b≠i2:=λhb=>⟨λe=>D.z1 (e▸hb),λe=>D.t1 (e▸hb),λe=>D.a2 (e▸hb)⟩
 have Sx:∀{b},b∈f2->b≠z/\b≠TO/\b≠i1:=λhb=>⟨λe=>D.z2 (e▸hb),λe=>D.t2 (e▸hb),λe=>D.a1 (e▸hb)⟩
 obtain⟨hp,g,d,tk0,os⟩:=s
 show wpAny _ _ (field (.ref z) 2 >>= _) _ _ _
 refine wpAny_bind (wpAny_field hz rfl (x:=.bool false) rfl ?_)
 show wpAny _ _ (field (.ref z) 3 >>= _) _ _ _
 refine wpAny_bind (wpAny_field hz rfl (x:=.ref TI) rfl ?_)
 refine wpAny_bind (wpAny_seqItems hTI rfl ?_)
 show wpAny _ _ (Builtin.SmallTypes.ownedTupleIsFree (.ref z) >>= _) _ _ _
 refine wpAny_bind ?_
 unfold Builtin.SmallTypes.ownedTupleIsFree
 refine wpAny_bind (wpAny_field hz rfl (x:=.none) rfl (wpAny_pure ?_))
 simp only[if_true]
 refine wpAny_bind (wpAny_rule ?_)
 refine wpAny_bind (wpAny_field hz rfl (x:=.ref TO) rfl ?_)
 refine wpAny_bind (wpAny_setField_rec hz (by simp) λh₁ hz₁ hs₁=>?_)
 replace hs₁:Heap.SameBut z hp h₁:= hs₁
 replace hz₁:IsZip h₁ z TI TO .ellipsis:=hz₁
 refine wpAny_bind ?_
 simp only[List.zipIdx_cons,List.zipIdx_nil,List.forIn_cons,List.forIn_nil]
 refine wpAny_bind (wpAny_bind (wpAny_onRaise ?_))
 show wpAny _ _ (Builtin.SmallTypes.nextOf (.ref i1) >>= _) _ _ _
 refine wpAny_bind (D1.item k1 _ _ _ hk1 (D1.frame _ _ _ h1 λb hb o e=>hs₁.extBut b o (Uv hb).1 e) λx h₂ tk hPx h1₂ hs₂=>wpAny_pure ?_)
 replace hs₂:Heap.SameBut i1 h₁ h₂:= hs₂
 have hTO₂:IsPair h₂ TO a b:=hs₂.extBut _ _ D.TOi1 (hs₁.extBut _ _ D.TOz hTO)
 refine wpAny_bind (wpAny_seqItems hTO₂ rfl ?_)
 refine wpAny_bind (wpAny_updateSeq_pair hTO₂ λh₃ hTO₃ hs₃=>?_)
 replace hs₃:Heap.SameBut TO h₂ h₃:= hs₃
 replace hTO₃:IsPair h₃ TO x b:=hTO₃
 refine wpAny_bind (wpAny_letGo (wpAny_pure ?_))
 refine wpAny_bind (wpAny_bind (wpAny_onRaise ?_))
 show wpAny _ _ (Builtin.SmallTypes.nextOf (.ref i2) >>= _) _ _ _
 refine wpAny_bind (D2.item k2 _ _ _ hk2 (D2.frame _ _ _ h2 λb hb o e=>hs₃.extBut b o (Sx hb).2.1 (hs₂.extBut b o (Sx hb).2.2 (hs₁.extBut b o (Sx hb).1 e))) λy h₄ tk' hPy h2₄ hs₄=>wpAny_pure ?_)
 replace hs₄:Heap.SameBut i2 h₃ h₄:= hs₄
 have hTO₄:IsPair h₄ TO x b:=hs₄.extBut _ _ D.TOi2 hTO₃
 refine wpAny_bind (wpAny_seqItems hTO₄ rfl ?_)
 refine wpAny_bind (wpAny_updateSeq_pair hTO₄ λh₅ hTO₅ hs₅=>?_)
 replace hs₅:Heap.SameBut TO h₄ h₅:= hs₅
 replace hTO₅:IsPair h₅ TO x y:=hTO₅
 refine wpAny_bind (wpAny_letGo (wpAny_pure (wpAny_pure ?_)))
 refine wpAny_bind (wpAny_seqItems hTO₅ rfl ?_)
 refine wpAny_bind (wpAny_newTuple ?_)
 have hsz:h₅.objs.size=hp.objs.size:=by rw[hs₅.1,hs₄.1,hs₃.1,hs₂.1,hs₁.1]
 have hz₅:IsZip h₅ z TI TO .ellipsis:=hs₅.extBut _ _ D.TOz.symm (hs₄.extBut _ _ D.i2z.symm (hs₃.extBut _ _ D.TOz.symm (hs₂.extBut _ _ D.i1z.symm hz₁)))
 have hk₅:∀c o,c≠z->c≠TO->c≠i1->c≠i2->hp.get? c=some o->h₅.get? c=some o:=λc o c1 c2 c3 c4 e=>
  hs₅.extBut _ _ c2 (hs₄.extBut _ _ c4 (hs₃.extBut _ _ c2 (hs₂.extBut _ _ c3 (hs₁.extBut _ _ c1 e))))
 have h1₅:S1 (k1+1) h₅:= D1.frame _ _ _ h1₂ λb hb o e=>hs₅.extBut b o (Uv hb).2.1 (hs₄.extBut b o (Uv hb).2.2 (hs₃.extBut b o (Uv hb).2.1 e))
 have h2₅:S2 (k2+1) h₅:= D2.frame _ _ _ h2₄ λb hb o e=>hs₅.extBut b o (Sx hb).2.1 e
 have hzlt:z<h₅.objs.size:=Heap.lt_size hz₅
 show wpAny _ _ (Builtin.SmallTypes.ownedTupleHandOut (.ref z) (.ref h₅.objs.size) >>= _) _ _ _
 refine wpAny_bind ?_
 unfold Builtin.SmallTypes.ownedTupleHandOut
 have hz₆:IsZip (h₅.push {cls:=.type "tuple",data:=.seq #[x,y]}) z TI TO .ellipsis:=Heap.get?_push_of_some _ hz₅
 refine wpAny_bind (wpAny_setField_rec hz₆ (by simp) λh₇ hz₇ hs₇=>?_)
 replace hz₇:IsZip h₇ z TI TO (rawInt h₅.objs.size):=hz₇
 refine wpAny_setField_rec hz₇ (by simp) λh₈ hz₈ hs₈=>?_
 replace hz₈:IsZip h₈ z TI TO (rawInt h₅.objs.size):=hz₈
 have up:∀c o,c≠z->h₅.get? c=some o->h₈.get? c=some o:=λc o c1 e=>hs₈.extBut _ _ c1 (hs₇.extBut _ _ c1 (Heap.get?_push_of_some _ e))
 have hT₈:IsPair h₈ h₅.objs.size x y:=hs₈.extBut _ _ (Nat.ne_of_gt hzlt) (hs₇.extBut _ _ (Nat.ne_of_gt hzlt) (Heap.get?_push_size _ rfl))
 have hz8:h₈.objs.size=h₅.objs.size+1:=by rw[hs₈.1,hs₇.1,Heap.size_push]
 rw[hsz] at hz₈ hT₈ hz8
 refine wpAny_pure ⟨_,rfl,?_⟩
 show Q (.ref h₅.objs.size) _
 rw[hsz]
 exact hQ x y h₈ tk' hPx hPy hz₈ (up _ _ D.TOz hTO₅) (D1.frame _ _ _ h1₅ λb hb o e=>up b o (Uv hb).1 e) (D2.frame _ _ _ h2₅ λb hb o e=>up b o (Sx hb).1 e) hT₈ hz8 λc o c1 c2 c3 c4 e=>up c o c1 (hk₅ c o c1 c2 c3 c4 e)
def uR{z TI TO i1 i2:Addr}{f1 f2:List Addr}{n1 n2 k1 k2:Nat}{P1 P2:Nat->Value->Prop}{S1 S2:Nat->Heap->Prop}{a b:Value}{Q:Fin->Shared->Prop}(D:ZAp z TI TO i1 i2 f1 f2)
 (D1:Draws prog w A i1 f1 n1 P1 S1)(D2:Draws prog w A i2 f2 n2 P2 S2)
 (hz:IsZip s.heap z TI TO .none)(hTI:IsPair s.heap TI (.ref i1) (.ref i2))(hTO:IsPair s.heap TO a b)(h1:S1 k1 s.heap)(h2:S2 k2 s.heap)(hend:k1=n1\/(k1<n1/\k2=n2))
 (hE:∀h' e tk,(∀c o,c≠z->c≠TO->c≠i1->c≠i2->s.heap.get? c=some o->h'.get? c=some o)->(∃o,h'.get? e=some o/\o.cls=.type "StopIteration")->E (.ref e) {s with heap:=h',toks:=tk}) :
 wpAny (model prog w) A (Builtin.«zip.__next__» ⟨[.ref z],[]⟩) Q E s:=by
 have Uv:∀{b},b∈f1->b≠z/\b≠TO/\b≠i2:=λhb=>⟨λe=>D.z1 (e▸hb),λe=>D.t1 (e▸hb),λe=>D.a2 (e▸hb)⟩
 have Sx:∀{b},b∈f2->b≠z/\b≠TO/\b≠i1:=λhb=>⟨λe=>D.z2 (e▸hb),λe=>D.t2 (e▸hb),λe=>D.a1 (e▸hb)⟩
 obtain⟨hp,g,d,tk0,os⟩:=s
 show wpAny _ _ (field (.ref z) 2 >>= _) _ _ _
 refine wpAny_bind (wpAny_field hz rfl (x:=.bool false) rfl ?_)
 show wpAny _ _ (field (.ref z) 3 >>= _) _ _ _
 refine wpAny_bind (wpAny_field hz rfl (x:=.ref TI) rfl ?_)
 refine wpAny_bind (wpAny_seqItems hTI rfl ?_)
 show wpAny _ _ (Builtin.SmallTypes.ownedTupleIsFree (.ref z) >>= _) _ _ _
 refine wpAny_bind ?_
 unfold Builtin.SmallTypes.ownedTupleIsFree
 refine wpAny_bind (wpAny_field hz rfl (x:=.none) rfl (wpAny_pure ?_))
 simp only[if_true]
 refine wpAny_bind (wpAny_rule ?_)
 refine wpAny_bind (wpAny_field hz rfl (x:=.ref TO) rfl ?_)
 refine wpAny_bind (wpAny_setField_rec hz (by simp) λh₁ hz₁ hs₁=>?_)
 replace hs₁:Heap.SameBut z hp h₁:= hs₁
 replace hz₁:IsZip h₁ z TI TO .ellipsis:=hz₁
 refine wpAny_bind ?_
 simp only[List.zipIdx_cons,List.zipIdx_nil,List.forIn_cons,List.forIn_nil]
 refine wpAny_bind (wpAny_bind (wpAny_onRaise ?_))
 show wpAny _ _ (Builtin.SmallTypes.nextOf (.ref i1) >>= _) _ _ _
 rcases hend with rfl|⟨hk1,rfl⟩
 ·refine wpAny_bind (D1.done _ _ _ (D1.frame _ _ _ h1 λb hb o e=>hs₁.extBut b o (Uv hb).1 e) λh₂ e hs₂ he=>?_)
  obtain⟨oe,hoe,hce⟩:=he
  replace hs₂:Heap.ExtBut i1 h₁ h₂:= hs₂
  have hz₂:IsZip h₂ z TI TO .ellipsis:=hs₂ _ _ D.i1z.symm hz₁
  have hez:e≠z:=λx=>by subst x;rw[hz₂] at hoe;cases hoe;simp at hce
  exact wpAny_setField_rec hz₂ (by simp) λh₃ _ hs₃=>hE h₃ e tk0 (λc o c1 _ c3 _ x=>hs₃.extBut _ _ c1 (hs₂ _ _ c3 (hs₁.extBut _ _ c1 x))) ⟨oe,hs₃.extBut _ _ hez hoe,hce⟩
 ·refine wpAny_bind (D1.item k1 _ _ _ hk1 (D1.frame _ _ _ h1 λb hb o e=>hs₁.extBut b o (Uv hb).1 e) λx h₂ tk hPx h1₂ hs₂=>wpAny_pure ?_)
  replace hs₂:Heap.SameBut i1 h₁ h₂:= hs₂
  have hTO₂:IsPair h₂ TO a b:=hs₂.extBut _ _ D.TOi1 (hs₁.extBut _ _ D.TOz hTO)
  refine wpAny_bind (wpAny_seqItems hTO₂ rfl ?_)
  refine wpAny_bind (wpAny_updateSeq_pair hTO₂ λh₃ hTO₃ hs₃=>?_)
  replace hs₃:Heap.SameBut TO h₂ h₃:= hs₃
  refine wpAny_bind (wpAny_letGo (wpAny_pure ?_))
  refine wpAny_bind (wpAny_bind (wpAny_onRaise ?_))
  show wpAny _ _ (Builtin.SmallTypes.nextOf (.ref i2) >>= _) _ _ _
  refine wpAny_bind (D2.done _ _ _ (D2.frame _ _ _ h2 λb hb o e=>hs₃.extBut b o (Sx hb).2.1 (hs₂.extBut b o (Sx hb).2.2 (hs₁.extBut b o (Sx hb).1 e))) λh₄ e hs₄ he=>?_)
  obtain⟨oe,hoe,hce⟩:=he
  replace hs₄:Heap.ExtBut i2 h₃ h₄:= hs₄
  have hz₄:IsZip h₄ z TI TO .ellipsis:=hs₄ _ _ D.i2z.symm (hs₃.extBut _ _ D.TOz.symm (hs₂.extBut _ _ D.i1z.symm hz₁))
  have hez:e≠z:=λx=>by subst x;rw[hz₄] at hoe;cases hoe;simp at hce
  exact wpAny_setField_rec hz₄ (by simp) λh₅ _ hs₅=>hE h₅ e tk (λc o c1 c2 c3 c4 x=>hs₅.extBut _ _ c1 (hs₄ _ _ c4 (hs₃.extBut _ _ c2 (hs₂.extBut _ _ c3 (hs₁.extBut _ _ c1 x))))) ⟨oe,hs₅.extBut _ _ hez hoe,hce⟩
end
section
variable{prog:Program}{w:World}{A:Around}{E:Value->Shared->Prop}{s:Shared}
def pL{z TI TO i1 i2:Addr}{f1 f2:List Addr}{n1 n2 k1 k2:Nat}{P1 P2:Nat->Value->Prop}{S1 S2:Nat->Heap->Prop}{a b:Value}{Q:Option Value->Shared->Prop}(D:ZAp z TI TO i1 i2 f1 f2)
 (D1:Draws prog w A.in1 i1 f1 n1 P1 S1)(D2:Draws prog w A.in1 i2 f2 n2 P2 S2)
 (hz:IsZip s.heap z TI TO .none)(hTI:IsPair s.heap TI (.ref i1) (.ref i2))(hTO:IsPair s.heap TO a b)(h1:S1 k1 s.heap)(h2:S2 k2 s.heap)(hk1:k1<n1)(hk2:k2<n2)
 (hQ:∀x y h' tk,P1 k1 x→P2 k2 y→IsZip h' z TI TO (rawInt s.heap.objs.size)→IsPair h' TO x y→S1 (k1+1) h'→S2 (k2+1) h'→IsPair h' s.heap.objs.size x y→h'.objs.size=s.heap.objs.size+1→
   (∀c o,c≠z->c≠TO->c≠i1->c≠i2->s.heap.get? c=some o->h'.get? c=some o)->Q (some (.ref s.heap.objs.size)) {s with heap:=h',toks:=tk}) :
 wpAny (model prog w) A (pyNext (.ref z)) Q E s:=by
 have hT:s.TypeIs (.ref z) "zip" := ⟨_,hz,rfl⟩
 unfold pyNext
 exact wpAny_bind (wpAny_attempt (wpAny_callSpecial?_slot (name:=Str.ofString "__next__") hT F.slot_zip_next
  (wpAny_call_entry F.slot_zip_next hT F.entry_zip_next
    (sZ D D1 D2 hz hTI hTO h1 h2 hk1 hk2 λx y h' tk a0 b0 a1 a2 a3 a4 a5 a6 a7=>wpAny_pure (hQ x y h' tk a0 b0 a1 a2 a3 a4 a5 a6 a7)) (F.args_zip_next_1 _))))
def qT{z TI TO i1 i2:Addr}{f1 f2:List Addr}{n1 n2 k1 k2:Nat}{P1 P2:Nat->Value->Prop}{S1 S2:Nat->Heap->Prop}{a b:Value}{Q:Option Value->Shared->Prop}(D:ZAp z TI TO i1 i2 f1 f2)
 (D1:Draws prog w A.in1 i1 f1 n1 P1 S1)(D2:Draws prog w A.in1 i2 f2 n2 P2 S2)
 (hz:IsZip s.heap z TI TO .none)(hTI:IsPair s.heap TI (.ref i1) (.ref i2))(hTO:IsPair s.heap TO a b)(h1:S1 k1 s.heap)(h2:S2 k2 s.heap)(hend:k1=n1\/(k1<n1/\k2=n2))
 (hQ:∀h' tk,(∀c o,c≠z->c≠TO->c≠i1->c≠i2->s.heap.get? c=some o->h'.get? c=some o)->Q none {s with heap:=h',toks:=tk}):wpAny (model prog w) A (pyNext (.ref z)) Q E s:=by
 have hT:s.TypeIs (.ref z) "zip" := ⟨_,hz,rfl⟩
 unfold pyNext
 refine wpAny_bind (wpAny_attempt (wpAny_callSpecial?_slot (name:=Str.ofString "__next__") hT F.slot_zip_next
  (wpAny_call_entry F.slot_zip_next hT F.entry_zip_next (uR D D1 D2 hz hTI hTO h1 h2 hend λh' e tk hk he=>?_) (F.args_zip_next_1 _))))
 obtain⟨o,ho,hc⟩:=he
 refine wpAny_bind (wpAny_isInstance (T:= "StopIteration") (b:=true) ⟨o,ho,hc⟩ isSubtype_stop ?_)
 exact wpAny_pure (hQ _ _ hk)
end
def uH(K:PySem.W.Frag)(b:Bool)(H:Hp)(a:Addr)(xs:List V):Prop:=if b=true then gG K H a xs else aQ K H a xs
def ju(b:Bool)(h:Heap)(it l:Addr)(i:Nat):Prop:=if b=true then h.IsTupleIter it l i else h.IsListIter it l i
def JF(b:Bool)(h:Heap)(l:Addr)(its:Array Value):Prop:=if b=true then h.IsTuple l its else h.IsList l its
def nmB(b:Bool):String:=if b=true then "tuple_iterator" else "list_iterator"
def rJ{prog:Program}{w:World}{A:Around}(b:Bool)(hh:A.handled=none)(it l:Addr)(hne:l≠it)(items:Array Value) :
 Draws prog w A it [it,l] items.size (λi v=>items[i]?=some v) (λi h=>ju b h it l i/\JF b h l items):=by
 cases b with
 |true=>exact Bk hh it l hne items
 |false=>exact Draws.list hh it l hne items
def ju.ex{b:Bool}{h:Heap}{it l:Addr}{i:Nat}(x:ju b h it l i):∃o,h.get? it=some o/\o.cls=.type (nmB b)/\o.data=.fields #[.ref l,.int i 0]:=by
 cases b with
 |true=>exact x
 |false=>exact x
def ju.of{b:Bool}{h:Heap}{it l:Addr}{i:Nat}{o:Obj}(h1:h.get? it=some o)(h2:o.cls=.type (nmB b))(h3:o.data=.fields #[.ref l,.int i 0]):ju b h it l i:=by
 cases b with
 |true=>exact⟨o,h1,h2,h3⟩
 |false=>exact⟨o,h1,h2,h3⟩
def ju.keep{b:Bool}{h h':Heap}{it l:Addr}{i:Nat}(x:ju b h it l i)(k:∀o,h.get? it=some o->h'.get? it=some o):ju b h' it l i:=by
 obtain⟨o,h1,h2,h3⟩:=x.ex
 exact .of (k o h1) h2 h3
def Sy(K:PySem.W.Frag)(b:Bool)(H:Hp)(l:Addr)(i:Nat)(xs:List V):Prop:=xs.length<=i/\∀j,j<i->∃ys y,uH K b H l ys/\ys[j]?=some y
def Itz(K:PySem.W.Frag)(b1 b2:Bool)(l1 l2:Addr):It:=
 ⟨λi H=>(∃xs x,uH K b1 H l1 xs/\xs[i]?=some x)/\∃ys y,uH K b2 H l2 ys/\ys[i]?=some y,
  λi H z H'=>∃x y T,(∀xs,uH K b1 H l1 xs->xs[i]?=some x)/\(∀ys,uH K b2 H l2 ys->ys[i]?=some y)/\H T=none/\z=.ref T/\H'=upd H T (.tup [x,y]),
  λi H=>(∃xs,uH K b1 H l1 xs)/\(∃ys,uH K b2 H l2 ys)/\((∃xs,uH K b1 H l1 xs/\Sy K b1 H l1 i xs)\/((∃xs x,uH K b1 H l1 xs/\xs[i]?=some x)/\∃ys,uH K b2 H l2 ys/\Sy K b2 H l2 i ys))⟩
section
variable{X:Cx}{pins:List (Addr×Obj)}{σ:L2.St}{H:Hp}{s:Shared}
def vL{b:Bool}{a:Addr}{xs:List V}(I:Inv X pins σ H s)(h:uH X.K b H a xs):∃its:List Value,Vals xs its/\JF b s.heap a its.toArray/\xs.length<=sizeLine:=by
 cases b with
 |true=>
  obtain⟨its,r,p,z⟩:=I.tuple h
  exact⟨its,r,p,z⟩
 |false=>
  obtain⟨its,r,p,z⟩:=I.list h
  exact⟨its,r,p.isList,z⟩
def vM{b:Bool}{a:Addr}{xs ys:List V}(I:Inv X pins σ H s)(h:uH X.K b H a xs)(h':uH X.K b H a ys):xs=ys:=by
 cases b with
 |true=>exact I.uV h h'
 |false=>exact I.rN h h'
def Uw{b:Bool}{l:Addr}{i:Nat}{xs:List V}(I:Inv X pins σ H s)(h:uH X.K b H l xs)(q:Sy X.K b H l i xs):xs.length=i:=by
 obtain⟨h1,h2⟩:=q
 refine Nat.le_antisymm h1 ?_
 cases i with
 |zero=>omega
 |succ i=>
  obtain⟨ys,y,e1,e2⟩:=h2 i (by omega)
  rw[vM I e1 h] at e2
  have:=(List.getElem?_eq_some_iff.mp e2).1
  omega
def HS{bb:Bool}{a b:Addr}{xs:List V}(I:Inv X pins σ H s)(f:dB X pins H b)(h:uH X.K bb H a xs):a≠b:=by
 intro e
 subst e
 have hk:∀o,X.K.lookup a=some o->False:=λo e=>by
  have hb:=I.ok.mod.kin a o e
  rcases f.2.2.2.1 with z|z
  ·exact I.ok.uK a o hb z
  ·exact absurd (Nat.lt_of_lt_of_le (Heap.lt_size (I.ok.bs a o hb).1) z) (Nat.lt_irrefl _)
 have hr:∀u,Rd H a u->False:=λu r=>by
  rcases r with r|⟨o,r⟩<;>(rw[f.1] at r;cases r)
 cases bb with
 |true=>
  have h':gG X.K H a xs:=h
  rcases h' with q|⟨o,_,_,q,_⟩
  ·exact hr _ q
  ·exact hk o q
 |false=>
  have h':aQ X.K H a xs:=h
  rcases h' with q|⟨o,_,_,q,_⟩
  ·exact hr _ q
  ·exact hk o q
end
def Nu{P:Program}{w:World}{K:PySem.W.Frag}{elts:List Expr}{k:Nat}{pos:Pos}(b1 b2:Bool)(l1 l2 z TI TO i1 i2:Addr)(nd:[z,TI,TO,i1,i2].Nodup) :
 Turn P w K (.Tuple elts k pos) (Itz K b1 b2 l1 l2) [z,TI,TO,i1,i2] z (λi h=>IsZip h z TI TO .none/\IsPair h TI (.ref i1) (.ref i2)/\(∃a b,IsPair h TO a b)/\ju b1 h i1 l1 i/\ju b2 h i2 l2 i) where
 mem:=by simp
 obj:=λi h st b hb=>by
  obtain⟨hz,hTI,⟨x,y,hTO⟩,h1,h2⟩:=st
  simp only[List.mem_cons,List.not_mem_nil,or_false] at hb
  rcases hb with rfl|rfl|rfl|rfl|rfl
  ·exact⟨_,hz,λv z=>by have z':Data.fields _=Data.cell v:=z;cases z'⟩
  ·exact⟨_,hTI,λv z=>by have z':Data.seq _ _=Data.cell v:=z;cases z'⟩
  ·exact⟨_,hTO,λv z=>by have z':Data.seq _ _=Data.cell v:=z;cases z'⟩
  ·obtain⟨o,e1,c,d⟩:=h1.ex
   exact⟨o,e1,λv z=>by rw[d] at z;cases z⟩
  ·obtain⟨o,e1,c,d⟩:=h2.ex
   exact⟨o,e1,λv z=>by rw[d] at z;cases z⟩
 keep:=λi h h' st k=>by
  obtain⟨hz,hTI,⟨x,y,hTO⟩,h1,h2⟩:=st
  exact⟨k z (by simp) _ hz,k TI (by simp) _ hTI,⟨x,y,k TO (by simp) _ hTO⟩,h1.keep λo q=>k i1 (by simp) o q,h2.keep λo q=>k i2 (by simp) o q⟩
 item:=by
  intro X hP hw hK hc i pins s σ H E I hf st hg
  subst hP hw hK
  obtain⟨hz,hTI,⟨a,b,hTO⟩,h1,h2⟩:=st
  obtain⟨⟨xs,x,hq1,hx⟩,ys,y,hq2,hy⟩:=hg
  obtain⟨DN,rv1,p1,_⟩:=vL I hq1
  obtain⟨its2,rv2,p2,_⟩:=vL I hq2
  obtain⟨u1,hu1,ru1⟩:=rv1.get hx
  obtain⟨u2,hu2,ru2⟩:=rv2.get hy
  have ne1:∀b∈[z,TI,TO,i1,i2],l1≠b:=λb hb=>HS I (hf b hb) hq1
  have ne2:∀b∈[z,TI,TO,i1,i2],l2≠b:=λb hb=>HS I (hf b hb) hq2
  have hh:X.A.in1.handled=none:=I.ok.hd hc
  simp only[List.nodup_cons,List.mem_cons,List.not_mem_nil,or_false,not_or,List.nodup_nil,not_false_eq_true,and_true] at nd
  obtain⟨⟨n1,n2,n3,n4⟩,⟨n5,n6,n7⟩,⟨n8,n9⟩,n10⟩:=nd
  have D:ZAp z TI TO i1 i2 [i1,l1] [i2,l2]:=by
   refine⟨Ne.symm n1,Ne.symm n2,Ne.symm n3,Ne.symm n4,n5,n6,n7,n8,n9,n10,?_,?_,?_,?_,?_,?_⟩<;>simp only[List.mem_cons,List.not_mem_nil,or_false,not_or]
   ·exact⟨n3,(ne1 z (by simp)).symm⟩
   ·exact⟨n4,(ne2 z (by simp)).symm⟩
   ·exact⟨n8,(ne1 TO (by simp)).symm⟩
   ·exact⟨n9,(ne2 TO (by simp)).symm⟩
   ·exact⟨n10,(ne2 i1 (by simp)).symm⟩
   ·exact⟨Ne.symm n10,(ne1 i2 (by simp)).symm⟩
  have lt1:i<DN.toArray.size:=by
   rw[List.size_toArray]
   exact(List.getElem?_eq_some_iff.mp hu1).1
  have La:i<its2.toArray.size:=by
   rw[List.size_toArray]
   exact(List.getElem?_eq_some_iff.mp hu2).1
  have hlt:∀b∈[z,TI,TO,i1,i2],b<s.heap.objs.size:=λb hb=>by
   simp only[List.mem_cons,List.not_mem_nil,or_false] at hb
   rcases hb with rfl|rfl|rfl|rfl|rfl
   ·exact Heap.lt_size hz
   ·exact Heap.lt_size hTI
   ·exact Heap.lt_size hTO
   ·obtain⟨o,e1,_⟩:=h1.ex;exact Heap.lt_size e1
   ·obtain⟨o,e1,_⟩:=h2.ex;exact Heap.lt_size e1
  refine pL D (rJ (A:=X.A.in1) b1 hh i1 l1 (ne1 i1 (by simp)) DN.toArray) (rJ (A:=X.A.in1) b2 hh i2 l2 (ne2 i2 (by simp)) its2.toArray) hz hTI hTO ⟨h1,p1⟩ ⟨h2,p2⟩ lt1 La λx' y' h' tk hPx hPy hz' Zhi s1 s2 hT hsz hk=>?_
  have ex:x'=u1:=by
   have:DN.toArray[i]?=some x':=hPx
   rw[show DN.toArray[i]?=some u1 by simpa using hu1] at this
   exact(Option.some.inj this).symm
  have ey:y'=u2:=by
   have:its2.toArray[i]?=some y':=hPy
   rw[show its2.toArray[i]?=some u2 by simpa using hu2] at this
   exact(Option.some.inj this).symm
  subst ex ey
  refine⟨.ref s.heap.objs.size,rfl,wpAny_letOwnedTupleGo_zip hz' λh'' hz'' hs'=>?_⟩
  have hs2:Heap.SameBut z h' h'':=hs'
  have I2:=sY (fp:=[z,TI,TO,i1,i2]) (h':=h'') (t':=tk) I ru1 ru2 ⟨_,(hs2.2 _ (Nat.ne_of_gt (hlt z (by simp)))).trans hT,rfl⟩ (λb o hb q=>by
   have hne:∀c∈[z,TI,TO,i1,i2],b≠c:=λc hc e=>hb (e▸hc)
   exact(hs2.2 b (hne z (by simp))).trans (hk b o (hne z (by simp)) (hne TO (by simp)) (hne i1 (by simp)) (hne i2 (by simp)) q)) hf hlt
  refine⟨.ref s.heap.objs.size,_,I2,rfl,⟨x,y,s.heap.objs.size,λzs hzs=>by rw[vM I hzs hq1];exact hx,λzs hzs=>by rw[vM I hzs hq2];exact hy,I.fresh,rfl,rfl⟩,
   ⟨hz'',(hs2.2 TI (Ne.symm n1)).trans (hk TI _ (Ne.symm n1) n5 n6 n7 hTI),⟨_,_,(hs2.2 TO (Ne.symm n2)).trans Zhi⟩,s1.1.keep λo q=>(hs2.2 i1 (Ne.symm n3)).trans q,s2.1.keep λo q=>(hs2.2 i2 (Ne.symm n4)).trans q⟩,λb hb=>?_⟩
  rw[Ę (Nat.ne_of_lt (hlt b hb))];exact(hf b hb).1
 done:=by
  intro X hP hw hK hc i pins s σ H E I hf st hg
  subst hP hw hK
  obtain⟨hz,hTI,⟨a,b,hTO⟩,h1,h2⟩:=st
  obtain⟨⟨xs,hq1⟩,⟨ys,hq2⟩,hend'⟩:=hg
  have hend:xs.length=i\/(i<xs.length/\ys.length=i):=by
   rcases hend' with⟨xs',q1,q2⟩|⟨⟨xs',x,q1,q2⟩,ys',q3,q4⟩
   ·left;rw[vM I hq1 q1];exact Uw I q1 q2
   ·right
    rw[vM I hq1 q1,vM I hq2 q3]
    exact⟨(List.getElem?_eq_some_iff.mp q2).1,Uw I q3 q4⟩
  obtain⟨DN,rv1,p1,_⟩:=vL I hq1
  obtain⟨its2,rv2,p2,_⟩:=vL I hq2
  have hl1:=rv1.length
  have hl2:=rv2.length
  have ne1:∀b∈[z,TI,TO,i1,i2],l1≠b:=λb hb=>HS I (hf b hb) hq1
  have ne2:∀b∈[z,TI,TO,i1,i2],l2≠b:=λb hb=>HS I (hf b hb) hq2
  have hh:X.A.in1.handled=none:=I.ok.hd hc
  simp only[List.nodup_cons,List.mem_cons,List.not_mem_nil,or_false,not_or,List.nodup_nil,not_false_eq_true,and_true] at nd
  obtain⟨⟨n1,n2,n3,n4⟩,⟨n5,n6,n7⟩,⟨n8,n9⟩,n10⟩:=nd
  have D:ZAp z TI TO i1 i2 [i1,l1] [i2,l2]:=by
   refine⟨Ne.symm n1,Ne.symm n2,Ne.symm n3,Ne.symm n4,n5,n6,n7,n8,n9,n10,?_,?_,?_,?_,?_,?_⟩<;>simp only[List.mem_cons,List.not_mem_nil,or_false,not_or]
   ·exact⟨n3,(ne1 z (by simp)).symm⟩
   ·exact⟨n4,(ne2 z (by simp)).symm⟩
   ·exact⟨n8,(ne1 TO (by simp)).symm⟩
   ·exact⟨n9,(ne2 TO (by simp)).symm⟩
   ·exact⟨n10,(ne2 i1 (by simp)).symm⟩
   ·exact⟨Ne.symm n10,(ne1 i2 (by simp)).symm⟩
  refine qT D (rJ (A:=X.A.in1) b1 hh i1 l1 (ne1 i1 (by simp)) DN.toArray) (rJ (A:=X.A.in1) b2 hh i2 l2 (ne2 i2 (by simp)) its2.toArray) hz hTI hTO ⟨h1,p1⟩ ⟨h2,p2⟩ ?_ λh' tk hk=>⟨rfl,turns (fp:=[z,TI,TO,i1,i2]) (t':=tk) I (λb o hb q=>?_) hf⟩
  ·rw[List.size_toArray,List.size_toArray]
   omega
  ·have hne:∀c∈[z,TI,TO,i1,i2],b≠c:=λc hc e=>hb (e▸hc)
   exact hk b o (hne z (by simp)) (hne TO (by simp)) (hne i1 (by simp)) (hne i2 (by simp)) q
 self:=λ_ _ _ _ _ st h=>wpAny_pyIter_zip st.1 h
section
abbrev zB1(b:Bool)(h:Heap)(l1:Addr):Heap:=h.push {cls:=.type (nmB b),data:=.fields #[.ref l1,.int 0 0]}
abbrev zB2(b b':Bool)(h:Heap)(l1 l2:Addr):Heap:=(zB1 b h l1).push {cls:=.type (nmB b'),data:=.fields #[.ref l2,.int 0 0]}
abbrev zB3(b b':Bool)(h:Heap)(l1 l2:Addr):Heap:=(zB2 b b' h l1 l2).push {cls:=.type "tuple",data:=.seq #[.ref h.objs.size,.ref (zB1 b h l1).objs.size]}
abbrev zB4(b b':Bool)(h:Heap)(l1 l2:Addr):Heap:=(zB3 b b' h l1 l2).push {cls:=.type "tuple",data:=.seq #[.none,.none]}
abbrev zB5(b b':Bool)(h:Heap)(l1 l2:Addr):Heap:=(zB4 b b' h l1 l2).push {cls:=.type "zip",data:=.fields #[.none,.bool false,.bool false,.ref (zB2 b b' h l1 l2).objs.size,.ref (zB3 b b' h l1 l2).objs.size]}
def Bl{prog:Program}{w:World}{A:Around}{E:Value->Shared->Prop}{s:Shared}{b:Bool}{l:Addr}{its:Array Value}{Q:Value->Shared->Prop}(hl:JF b s.heap l its)
 (hQ:Q (.ref s.heap.objs.size) {s with heap:=s.heap.push {cls:=.type (nmB b),data:=.fields #[.ref l,.int 0 0]}}):wpAny (model prog w) A (pyIter (.ref l)) Q E s:=by
 cases b with
 |true=>exact wpAny_pyIter_tuple hl hQ
 |false=>exact wpAny_pyIter_list hl hQ
theorem JF.push{b:Bool}{h:Heap}{l:Addr}{its:Array Value}(x:JF b h l its)(o:Obj):JF b (h.push o) l its:=by
 cases b with
 |true=>exact Heap.IsTuple.push x o
 |false=>exact Heap.IsList.push x o
def Bm(b b':Bool)(l1 l2:Addr)(xs ys:Array Value) :
 Meets (Builtin.«zip.__new__» ⟨[.type "zip",.ref l1,.ref l2],[]⟩) (λ_ R s=>JF b s.heap l1 xs/\JF b' s.heap l2 ys/\
  R (.ok (.ret (.ref (zB4 b b' s.heap l1 l2).objs.size))) {s with heap:=zB5 b b' s.heap l1 l2}):=
 .of_wp fun prog w A R s h=>by
   obtain⟨hp,g,d,tk,os⟩:=s;obtain⟨hl1,hl2,h⟩:=h
   have hsub:=sub_zip
   have hL1:JF b (Shared.heap ⟨hp,g,d,tk,os⟩) l1 xs:=hl1
   have hL2:JF b' (Shared.heap ⟨hp.push {cls:=.type (nmB b),data:=.fields #[.ref l1,.int 0 0]},g,d,tk,os⟩) l2 ys:=JF.push hl2 _
   wp_walk using Bl hL1,Bl hL2
   exact⟨_,rfl,h⟩
variable{prog:Program}{w:World}{A:Around}{E:Value->Shared->Prop}{s:Shared}
def DP{b b':Bool}{l1 l2:Addr}{xs ys:Array Value}{Q:Value->Shared->Prop}(hl1:JF b s.heap l1 xs)(hl2:JF b' s.heap l2 ys)
 (h:∀h',IsZip h' (s.heap.objs.size+4) (s.heap.objs.size+2) (s.heap.objs.size+3) .none→IsPair h' (s.heap.objs.size+2) (.ref s.heap.objs.size) (.ref (s.heap.objs.size+1))→
   IsPair h' (s.heap.objs.size+3) .none .none->ju b h' s.heap.objs.size l1 0->ju b' h' (s.heap.objs.size+1) l2 0->h'.objs.size=s.heap.objs.size+5->
   (∀c o,s.heap.get? c=some o->h'.get? c=some o)->Q (.ref (s.heap.objs.size+4)) {s with heap:=h'}) :
 wpAny (model prog w) A (call (.type "zip") [.ref l1,.ref l2]) Q E s:=by
 refine callType_new F.called_zip (by decide) (F.typeCall_zip_2 _ _) (F.newCall_zip_2 _ _) (λobj=>F.args_object_init_3 obj _ _) F.entry_zip_new
  (Bm b b' l1 l2 xs ys) ⟨hl1,hl2,?_⟩
 have z1:(zB1 b s.heap l1).objs.size=s.heap.objs.size+1:=Heap.size_push ..
 have z2:(zB2 b b' s.heap l1 l2).objs.size=s.heap.objs.size+2:=by rw[Heap.size_push,z1]
 have z3:(zB3 b b' s.heap l1 l2).objs.size=s.heap.objs.size+3:=by rw[Heap.size_push,z2]
 have z4:(zB4 b b' s.heap l1 l2).objs.size=s.heap.objs.size+4:=by rw[Heap.size_push,z3]
 have z5:(zB5 b b' s.heap l1 l2).objs.size=s.heap.objs.size+5:=by rw[Heap.size_push,z4]
 have g5:(zB5 b b' s.heap l1 l2).get? (zB4 b b' s.heap l1 l2).objs.size=some _:=Heap.get?_push_size _ rfl
 have g4:(zB5 b b' s.heap l1 l2).get? (zB3 b b' s.heap l1 l2).objs.size=some _:=Heap.get?_push_of_some _ (Heap.get?_push_size _ rfl)
 have g3:(zB5 b b' s.heap l1 l2).get? (zB2 b b' s.heap l1 l2).objs.size=some _:=Heap.get?_push_of_some _ (Heap.get?_push_of_some _ (Heap.get?_push_size _ rfl))
 have g2:(zB5 b b' s.heap l1 l2).get? (zB1 b s.heap l1).objs.size=some _:=Heap.get?_push_of_some _ (Heap.get?_push_of_some _ (Heap.get?_push_of_some _ (Heap.get?_push_size _ rfl)))
 have g1:(zB5 b b' s.heap l1 l2).get? s.heap.objs.size=some _:=Heap.get?_push_of_some _ (Heap.get?_push_of_some _ (Heap.get?_push_of_some _ (Heap.get?_push_of_some _ (Heap.get?_push_size _ rfl))))
 show _/\_
 rw[z2,z3,z4] at g5
 rw[z1,z2] at g3
 rw[z3] at g4
 rw[z1] at g2
 rw[z4]
 exact⟨⟨_,g5,rfl⟩,h _ g5 g3 g4 (.of g1 rfl rfl) (.of g2 rfl rfl) z5 λc o x=>
  Heap.get?_push_of_some _ (Heap.get?_push_of_some _ (Heap.get?_push_of_some _ (Heap.get?_push_of_some _ (Heap.get?_push_of_some _ x))))⟩
end
section
variable{X:Cx}{elts:List Expr}{k:Nat}{tp:Pos}
def Zhj(K:PySem.W.Frag)(ta:TA):TI:=λσ H R=>ta σ H λvs H1=>∃b1 b2 l1 l2,vs=[.ref l1,.ref l2]/\(∃xs,uH K b1 H1 l1 xs)/\(∃xs,uH K b2 H1 l2 xs)/\R (Itz K b1 b2 l1 l2) H1
def ZbJ{e1 e2:Expr}{ta:TA}{p pos:Pos}(hg:Gl X "zip")(hm:X.mg "zip" =none)(ha:PA X [e1,e2] ta)(hs:starEach [e1,e2] X.env=[(false,eval e1 X.env),(false,eval e2 X.env)]:=by exact Li rfl rfl)(hs2:starEach [e2] X.env=[(false,eval e2 X.env)]:=by exact Ĵ rfl) :
 PI X (.Tuple elts k tp) (.Call (.Name "zip" p) [e1,e2] [] pos) (Zhj X.K ta):=by
 intro pins s σ H R I h
 refine Call_ (mX I hg hm boot_zip (PyProof.Rows.callWith_type1 (Ŭ (ha pos pins s σ H _ I h) λus s1 ⟨vs,H1,I1,r1,q1⟩=>?_) (by rw[hs,hs2]) (by rw[hs2];rfl)))
 obtain⟨b1,b2,l1,l2,e,⟨xs,hq1⟩,⟨ys,hq2⟩,q⟩:=q1
 subst e
 obtain⟨u1,u2,rfl,ru1,ru2⟩:=vals2 r1
 cases ru1
 cases ru2
 obtain⟨DN,rv1,p1,_⟩:=vL I1 hq1
 obtain⟨its2,rv2,p2,_⟩:=vL I1 hq2
 refine DP p1 p2 λh' hz hTI hTO h1 h2 hsz hk=>?_
 have I2:Inv X pins σ H1 {s1 with heap:=h'}:=I1.kept (t':=s1.toks) hk
 refine wpAny_pyIter_zip (s:={s1 with heap:=h'}) hz ⟨s1.heap.objs.size+4,[s1.heap.objs.size+4,s1.heap.objs.size+2,s1.heap.objs.size+3,s1.heap.objs.size,s1.heap.objs.size+1],_,_,H1,rfl,I2,Nu b1 b2 l1 l2 _ _ _ _ _ (by simp),⟨hz,hTI,⟨_,_,hTO⟩,h1,h2⟩,λb hb=>?_,q⟩
 have hb':s1.heap.objs.size<=b:=by
  simp only[List.mem_cons,List.not_mem_nil,or_false] at hb
  rcases hb with rfl|rfl|rfl|rfl|rfl<;>omega
 exact I1.uL hb' (I1.hok.fresh hb')
end
def oA:List PV->List PV->List PV
 |p::ps,q::qs=>.tup [p,q]::oA ps qs
 |_,_=>[]
theorem Bo:∀(ps qs:List PV) (i:Nat) (r:PV),(oA ps qs)[i]?=some r->∃p q,ps[i]?=some p/\qs[i]?=some q/\r=.tup [p,q]
 | [],_,_,_,h=>by simp[oA] at h
 |_::_,[],_,_,h=>by simp[oA] at h
 |p::ps,q::qs,0,r,h=>by
  have h':some (PV.tup [p,q])=some r:=h
  cases h'
  exact⟨p,q,rfl,rfl,rfl⟩
 |p::ps,q::qs,i+1,r,h=>Bo ps qs i r h
theorem Bp:∀(ps qs:List PV),(oA ps qs).length=min ps.length qs.length
 | [],_=>by simp[oA]
 |_::_,[]=>by simp[oA]
 |_::ps,_::qs=>by
  show(oA ps qs).length+1=_
  rw[Bp ps qs,List.length_cons,List.length_cons]
  omega
def JG(m1 m2:M (List PV)):M (List PV):=λρ=>(m1 ρ).bind λps ρ1=>(m2 ρ1).bind λqs ρ2=>.ok (oA ps qs) ρ2
def Itb(K:PySem.W.Frag)(b:Bool)(a:Addr):It:=if b=true then Itt K a else Itl K a
def tu{K:KK}{L F:Hp}{b:Bool}{a:Addr}{ps:List PV}(h:jC K L F (Itb K.K b a) ps){c:Ctx}{F2 H:Hp}{σ:L2.St}{ρ:ŝ}(rel:Rel K c F2 H σ ρ)(sF:Same F F2)(sL:Same L H)(i:Nat)(p:PV)(hp:ps[i]?=some p) :
 (∃xs x,uH K.K b H a xs/\xs[i]?=some x)/\∀x,(∀xs,uH K.K b H a xs->xs[i]?=some x)->∃F3,Rel K c F3 H σ ρ/\Same F2 F3/\Rep K F3 p x:=by
 obtain⟨g,_⟩:=h c i F2 H σ ρ rel sF sL
 obtain⟨g1,g2⟩:=g p hp
 cases b with
 |true=>exact⟨g1,λx hx=>let ⟨F3,r3,s3,_,rp⟩:=g2 x H ⟨rfl,hx⟩;⟨F3,r3,s3,rp⟩⟩
 |false=>exact⟨g1,λx hx=>let ⟨F3,r3,s3,_,rp⟩:=g2 x H ⟨rfl,hx⟩;⟨F3,r3,s3,rp⟩⟩
def xW{K:KK}{L F:Hp}{b:Bool}{a:Addr}{ps:List PV}(h:jC K L F (Itb K.K b a) ps){c:Ctx}{F2 H:Hp}{σ:L2.St}{ρ:ŝ}(rel:Rel K c F2 H σ ρ)(sF:Same F F2)(sL:Same L H) :
 ∃xs,uH K.K b H a xs/\Sy K.K b H a ps.length xs:=by
 obtain⟨_,st⟩:=h c ps.length F2 H σ ρ rel sF sL
 have st':∃xs,uH K.K b H a xs/\xs.length<=ps.length:=by
  cases b with
  |true=>exact st rfl
  |false=>exact st rfl
 obtain⟨xs,h1,h2⟩:=st'
 exact⟨xs,h1,h2,λj hj=>(tu h rel sF sL j _ (List.getElem?_eq_getElem hj)).1⟩
def Nv{K:KK}{L F:Hp}{b1 b2:Bool}{a1 a2:Addr}{ps qs:List PV}(h1:jC K L F (Itb K.K b1 a1) ps)(h2:jC K L F (Itb K.K b2 a2) qs):jC K L F (Itz K.K b1 b2 a1 a2) (oA ps qs):=by
 intro c i F2 H σ ρ rel sF sL
 refine⟨λr hr=>?_,λhi=>?_⟩
 ·obtain⟨p,q,hp,hq,rfl⟩:=Bo ps qs i r hr
  obtain⟨g1,y1⟩:=tu h1 rel sF sL i p hp
  refine⟨⟨g1,(tu h2 rel sF sL i q hq).1⟩,λz H' ⟨x,y,T,e1,e2,hT,ez,eH⟩=>?_⟩
  subst ez eH
  obtain⟨F3,lX,s3,rp⟩:=y1 x e1
  obtain⟨F4,Ae,s4,rq⟩:=(tu h2 lX (sF.trans s3) sL i q hq).2 y e2
  obtain⟨r1,r2⟩:=HJ Ae hT (Rep.same s4 p x rp) rq
  exact⟨_,r1,(s3.trans s4).trans (Same.upd (Ae.sub.free hT)),Same.upd hT,r2⟩
 ·rw[Bp] at hi
  obtain⟨xs,x1,x2⟩:=xW h1 rel sF sL
  obtain⟨ys,y1,y2⟩:=xW h2 rel sF sL
  refine⟨⟨xs,x1⟩,⟨ys,y1⟩,?_⟩
  by_cases hl:ps.length<=qs.length
  ·left
   have e:i=ps.length:=by omega
   exact⟨xs,x1,e▸x2⟩
  ·right
   have e:i=qs.length:=by omega
   exact⟨(tu h1 rel sF sL i _ (List.getElem?_eq_getElem (by omega))).1,ys,y1,e▸y2⟩
def Zel{K:KK}{c:Ctx}{σ:L2.St}{ρ:ŝ}{F H:Hp}{ps:List PV}{v:V}(h:rSq K c σ ρ F H ps v):∃b a,v=.ref a/\(∃xs,uH K.K b H a xs)/\jC K c.L F (Itb K.K b a) ps:=by
 rcases h with⟨a,e1,e2,e3⟩|⟨a,e1,e2,e3⟩
 ·exact⟨false,a,e1,e2,e3⟩
 ·exact⟨true,a,e1,e2,e3⟩
section
variable{X:Cx}{cm:String->Addr}{E:L2.St->XK}{e e2:Expr}
def Zem{elts:List Expr}{k:Nat}{tp p pos:Pos}{m1 m2:M (List PV)}(hg:Gl X "zip")(hm:X.mg "zip" =none)(h1:PE X e (tG (kk X cm) E (rSq (kk X cm)) m1))(h2:PE X e2 (tG (kk X cm) E (rSq (kk X cm)) m2))
 (hs:starEach [e,e2] X.env=[(false,eval e X.env),(false,eval e2 X.env)]:=by exact Li rfl rfl)(hs2:starEach [e2] X.env=[(false,eval e2 X.env)]:=by exact Ĵ rfl) :
 PI X (.Tuple elts k tp) (.Call (.Name "zip" p) [e,e2] [] pos) (tI (kk X cm) E (JG m1 m2)):=λpins s σ H R I h=>ZbJ hg hm (dY h1 (dY h2 mY hs2) (by rw[hs,hs2])) hs hs2 pins s σ H R I (by
 obtain⟨c,F,ρ,rel,h⟩:=h
 refine⟨c,F,ρ,rel,cP.bind h λps ρ1 v F1 H1 ě s1 s2 q h1=>⟨c,F1,ρ1,ě,cP.bind h1 λqs ρ2 u F2 H2 ŏ s3 s4 q2 h2=>?_⟩⟩
 obtain⟨b1,a1,e1,_,e3⟩:=Zel q
 obtain⟨b2,a2,f1,f2,f3⟩:=Zel q2
 subst e1 f1
 obtain⟨xs,x1,_⟩:=xW (e3.mono s3) ŏ (Same.refl _) λb u e=>(ŏ.lent b u e).1
 exact⟨b1,b2,a1,a2,rfl,⟨xs,x1⟩,f2,h2 _ F2 H2 ŏ (Same.refl _) (Same.refl _) (Nv (e3.mono s3) f3)⟩)
end
end P
namespace P
open PySem PySem.Spec PyProof.Rows L2 M2 M3 M4
def Zen(K:PySem.W.Frag)(neg:Bool):R2:=λx y H Q=>∃d es a xs,Rp K H d x/\y=.ref a/\(aQ K H a xs\/gG K H a xs)/\pB K H es xs/\d.canLay0=true/\PyData.canLayAll0 es=true/\d.depth<=60/\Q (.bl (if neg then !(es.any λe=>PyData.eqv e d) else es.any λe=>PyData.eqv e d)) H
open Classical in
noncomputable def Qy(h:Heap)(d:PyData)(y:Value):Bool:=if ∃e as,Reads h y e as/\e.canLay0=true/\PyData.eqv e d=true then true else false
def Nx{h:Heap}{d e:PyData}{y:Value}{as:List Addr}(r:Reads h y e as)(hc:e.canLay0=true):Qy h d y=PyData.eqv e d:=by
 unfold Qy
 cases q:PyData.eqv e d with
 |true=>rw[if_pos ⟨e,as,r,hc,q⟩]
 |false=>
  rw[if_neg]
  rintro ⟨e',as',r',hc',q'⟩
  have:=SeqAt.Reads.unique e e' y as as' hc r r'
  subst this
  rw[q] at q'
  cases q'
theorem xX{h:Heap}{d:PyData}:∀{us:List Value} {es:List PyData} {as:List Addr},ReadsAll h us es as->PyData.canLayAll0 es=true->us.any (Qy h d)=es.any λe=>PyData.eqv e d
 |_,_,_,.nil,_=>rfl
 |_,_,_,.cons r rs,hc=>by
  unfold PyData.canLayAll0 at hc
  rw[Bool.and_eq_true] at hc
  rw[List.any_cons,List.any_cons,Nx r hc.1,xX rs hc.2]
theorem xY{A:Around}{s:Shared}{d:PyData}{v:Value}{bs:List Addr}(rv:Reads s.heap v d bs)(hd:d.canLay0=true)(hu:A.units+d.depth<cLine):∀{us:List Value} {es:List PyData} {as:List Addr},ReadsAll s.heap us es as->PyData.canLayAll0 es=true->∀u∈us,SeqAt.EqAt A s u v (Qy s.heap d u)
 |_,_,_,.nil,_=>λu hu=>by cases hu
 |_,_,_,.cons r rs,hc=>λu hm=>by
  unfold PyData.canLayAll0 at hc
  rw[Bool.and_eq_true] at hc
  rcases List.mem_cons.mp hm with rfl|hm
  ·rw[Nx r hc.1]
   exact SeqAt.eqAt_reads _ _ A s _ _ _ _ r rv hc.1 hd (by omega)
  ·exact xY rv hd hu rs hc.2 u hm
section
variable{X:Cx}
def JH(hu:X.A.units+64<cLine):aP X (compareOp .NotIn) (Zen X.K true):=by
 intro pins s σ H x y v u Q I rx ry h
 obtain⟨d,es,a,xs,h1,rfl,hq,h3,h4,h5,h6,q⟩:=h
 cases ry
 obtain⟨as,ra⟩:=Rp.reads I d x v h1 rx
 have hu1:X.A.in1.units+d.depth<cLine:=by
  have:X.A.in1.units=X.A.units+1:=rfl
  omega
 rcases hq with hq|hq
 ·obtain⟨its,r,pl,hz⟩:=I.list hq
  obtain⟨bs,rb⟩:=pB.reads I es xs its h3 r
  refine SeqAt.notIn_listAt (Qy s.heap d) pl.isList (λw hw=>xY ra h4 hu1 rb h5 w (by simpa using hw)) ⟨.bl _,H,I,rfl,?_⟩
  rw[show its.toArray.any (Qy s.heap d)=its.any (Qy s.heap d) by simp,xX rb h5]
  exact q
 ·obtain⟨its,r,pl,hz⟩:=I.tuple hq
  obtain⟨bs,rb⟩:=pB.reads I es xs its h3 r
  refine SeqAt.notIn_tupleAt (Qy s.heap d) pl (λw hw=>xY ra h4 hu1 rb h5 w (by simpa using hw)) ⟨.bl _,H,I,rfl,?_⟩
  rw[show its.toArray.any (Qy s.heap d)=its.any (Qy s.heap d) by simp,xX rb h5]
  exact q
end
def inD(neg:Bool)(p q:PV):Option PV:=match q with
 | .lst ps=>if cA p && fV ps && decide (dep p<=60) then some (.bl (if neg then !(ps.any λy=>eqB y p) else ps.any λy=>eqB y p)) else none
 | .tup ps=>if cA p && fV ps && decide (dep p<=60) then some (.bl (if neg then !(ps.any λy=>eqB y p) else ps.any λy=>eqB y p)) else none
 |_=>none
theorem xZ{p:PV}(h:cA p=true):∀{ps:List PV},fV ps=true->(iy ps).any (λe=>PyData.eqv e (toD p))=ps.any λy=>eqB y p
 | [],_=>rfl
 |y::ps,hp=>by
  unfold fV at hp
  rw[Bool.and_eq_true] at hp
  unfold iy
  rw[List.any_cons,List.any_cons,wX y p hp.1 h,xZ h hp.2]
def ZbK{K:KK}{neg:Bool}:mq K (Zen K.K neg) (inD neg):=by
 intro c F H σ ρ p q pv v u Q rel r1 r2 e k
 unfold inD at e
 split at e
 ·rename_i ps
  split at e
  ·rename_i hc
   rw[Bool.and_eq_true,Bool.and_eq_true,decide_eq_true_eq] at hc
   cases e
   obtain⟨a,xs,rfl,h1,h2⟩:=r2.lst rel.sub
   refine⟨toD p,iy ps,a,xs,lH rel.sub hc.1.1 r1,rfl,.inl h1,pB.same rel.sub _ _ (lG ps xs hc.1.2 h2),iV p hc.1.1,j_ ps hc.1.2,by rw[iW];exact hc.2,?_⟩
   rw[xZ hc.1.1 hc.1.2]
   exact k _ F H rel (Same.refl _) (Same.refl _) Rep.bl
  ·cases e
 ·rename_i ps
  split at e
  ·rename_i hc
   rw[Bool.and_eq_true,Bool.and_eq_true,decide_eq_true_eq] at hc
   cases e
   obtain⟨a,xs,rfl,h1,h2⟩:=r2.tup rel.sub
   refine⟨toD p,iy ps,a,xs,lH rel.sub hc.1.1 r1,rfl,.inr h1,pB.same rel.sub _ _ (lG ps xs hc.1.2 h2),iV p hc.1.1,j_ ps hc.1.2,by rw[iW];exact hc.2,?_⟩
   rw[xZ hc.1.1 hc.1.2]
   exact k _ F H rel (Same.refl _) (Same.refl _) Rep.bl
  ·cases e
 ·cases e
def DQ{α:Type}(m:M α):M α:= λρ=>match m ρ with
 | .ok a ρ'=>.ok a ρ'
 |_=>.bad
@[simp] theorem Zhk{α:Type}{m:M α}{ρ:ŝ}:DQ m ρ=(match m ρ with
  | .ok a ρ'=>.ok a ρ'
  |_=>.bad):=rfl
def Ny{X:Cx}{cm:String->Addr}{E:L2.St->XK}{tg l:Expr}{mi:M (List PV)}(h:PI X tg l (tI (kk X cm) EF mi)):PI X tg l (tI (kk X cm) E (DQ mi)):=λpins s σ H R I hh=>h pins s σ H R I (by
 obtain⟨c,F,ρ,rel,h'⟩:=hh
 refine⟨c,F,ρ,rel,?_⟩
 unfold DQ at h'
 cases e:mi ρ with
 |ok a ρ'=>rw[e] at h';exact h'
 |exc x ρ'=>rw[e] at h';exact h'.elim
 |bad=>rw[e] at h';exact h')
end P
namespace P
open PySem PySem.Spec PyProof.Rows L2 M2 M3 M4
def yc{x:Int}{n:Nat}(h1: -(2 ^ n:Int)<x)(h2:x<2 ^ n):bits x<=n:=by
 refine intBits_le_iff.mpr ?_
 have e:((2 ^ n:Nat):Int)=(2:Int) ^ n:=by simp
 have:((x.natAbs:Nat):Int)<((2 ^ n:Nat):Int):=by rw[e];omega
 omega
def Zeo{x y:Int}(h:y≠0)(h1: -18446744073709551616<y)(h2:y<18446744073709551616):nW x y=true:=Mu h (Nat.le_trans (yc (n:=64) (by omega) (by omega)) (by decide))
@[simp] theorem ZfF{x:Int}{n:Nat}(h:n≠0)(h2:n<18446744073709551616):nW x (no_index (OfNat.ofNat n):Int)=true:=by
  have e:(no_index (OfNat.ofNat n):Int)=(n:Int):=rfl
  rw[e]
  exact Zeo (by omega) (by omega) (by omega)
@[simp] theorem Zep{x:Int}{n:Nat}(h:n<18446744073709551616):aq x (no_index (OfNat.ofNat n):Int)=true:=by
  have e:(no_index (OfNat.ofNat n):Int)=(n:Int):=rfl
  rw[e]
  exact mul_r (by omega) (by omega)
@[simp] theorem Zeq{x:Int}{n:Nat}(h:n<18446744073709551616):aq (no_index (OfNat.ofNat n):Int) x=true:=by
  have e:(no_index (OfNat.ofNat n):Int)=(n:Int):=rfl
  rw[e]
  exact iz (by omega) (by omega)
@[simp] theorem ZfG{m n:Nat}(h:m<18446744073709551616)(h2:n≤1000000):rZ (no_index (OfNat.ofNat m):Int) (no_index (OfNat.ofNat n):Int)=true:=by
  have e:(no_index (OfNat.ofNat m):Int)=(m:Int):=rfl
  have e2:(no_index (OfNat.ofNat n):Int)=(n:Int):=rfl
  rw[e,e2]
  unfold rZ
  simp
  omega
@[simp] theorem Zer{x:Int}{n:Nat}:x.fdiv (no_index (OfNat.ofNat n):Int)=x / (no_index (OfNat.ofNat n):Int):=Int.fdiv_eq_ediv_of_nonneg x (Int.natCast_nonneg n)
@[simp] theorem Zes{x:Int}{n:Nat}:x.fmod (no_index (OfNat.ofNat n):Int)=x % (no_index (OfNat.ofNat n):Int):=Int.fmod_eq_emod_of_nonneg x (Int.natCast_nonneg n)
end P
namespace P
open PySem PySem.Spec PyProof.Rows L2 M2 M3 M4
def add_l{xs ys:List PV}(h:xs.length+ys.length<=16777216):ķ (.lst xs) (.lst ys)=some (.ow (xs++ys)):=by
 unfold ķ
 simp[h]
def ZbL{x y z w:Int}:eqB (.tup [.int x,.int y]) (.tup [.int z,.int w])=(decide (x=z) && decide (y=w)):=by
 rw[eqB.eq_def]
 show iU [.int x,.int y] [.int z,.int w]=_
 rw[iU.eq_def]
 show(eqB (.int x) (.int z) && iU [.int y] [.int w])=_
 rw[iU.eq_def]
 show(eqB (.int x) (.int z) && (eqB (.int y) (.int w) && iU [] []))=_
 have h1:eqB (.int x) (.int z)=decide (x=z):=by rw[eqB.eq_def];rfl
 have h2:eqB (.int y) (.int w)=decide (y=w):=by rw[eqB.eq_def];rfl
 have h3:iU [] []=true:=by rw[iU.eq_def]
 rw[h1,h2,h3,Bool.and_true]
mutual
theorem Bq:∀p:PV,cA p=true->eqB p p=true
 | .non,_=>by unfold eqB;rfl
 | .bl b,_=>by unfold eqB;simp
 | .int i,_=>by unfold eqB;simp
 | .str x,_=>by unfold eqB;simp
 | .lst xs,h=>by unfold cA at h;unfold eqB;exact pN xs h
 | .tup xs,h=>by unfold cA at h;unfold eqB;exact pN xs h
 | .ins _ _ _,h=>by simp[cA] at h
 | .xc _ _ _,h=>by simp[cA] at h
 | .ty _,h=>by simp[cA] at h
 | .cls _,h=>by simp[cA] at h
theorem pN:∀ps:List PV,fV ps=true->iU ps ps=true
 | [],_=>by unfold iU;rfl
 |p::ps,h=>by
  unfold fV at h
  rw[Bool.and_eq_true] at h
  unfold iU
  rw[Bq p h.1,pN ps h.2]
  rfl
end
def JK{p:PV}(h:cA p=true)(hd:dep p<=60):aA p p=some (.bl true):=by
 unfold aA wZ
 rw[h,Bq p h,decide_eq_true (by omega:min (dep p) (dep p)<=60)]
 rfl
def fM{a b:Str}(ha:PyData.strOk a=true)(hb:PyData.strOk b=true):aA (.str a) (.str b)=some (.bl (decide (a=b))):=by
 have h:eqB (.str a) (.str b)=decide (a=b):=by unfold eqB;rfl
 unfold aA wZ
 rw[show cA (.str a)=true by unfold cA;exact ha,show cA (.str b)=true by unfold cA;exact hb,h]
 rfl
end P
namespace P
open PySem PySem.Spec PyProof.Rows L2 M2 M3 M4
section
variable{g:Tg}{mb:M Fl}{mt:M Bool}{me:M PV}
theorem pO{α β:Type}(c:α->PV)(step:β->α->β)(J:β->ŝ->Prop):∀(xs:List α),(∀x∈xs,∀b ρ,J b ρ->∃ρ1 ρ2,g (c x) ρ=some ρ1/\mb ρ1=.ok .nx ρ2/\J (step b x) ρ2)->∀b ρ,J b ρ->∃ρ',forL g mb (xs.map c) ρ=.ok .nx ρ'/\J (xs.foldl step b) ρ'
 | [],_,b,ρ,h=>⟨ρ,rfl,h⟩
 |x::xs,hs,b,ρ,h=>by
  obtain⟨ρ1,ρ2,h1,h2,h3⟩:=hs x (by simp) b ρ h
  obtain⟨ρ',e,h4⟩:=pO c step J xs (λy hy=>hs y (List.mem_cons_of_mem _ hy)) (step b x) ρ2 h3
  refine⟨ρ',?_,h4⟩
  rw[List.map_cons,forL,h1]
  dsimp only
  rw[h2]
  exact e
theorem fB{α γ:Type}(c:α->PV)(t:α->Option γ)(v:γ->RV)(J:ŝ->Prop):∀(xs:List α),(∀x∈xs,∀ρ,J ρ->∃ρ1,g (c x) ρ=some ρ1/\((∃r ρ2,t x=some r/\mb ρ1=.ok (.rt (v r)) ρ2)\/(∃ρ2,t x=none/\mb ρ1=.ok .nx ρ2/\J ρ2)))->∀ρ,J ρ->
 (∃r ρ',xs.findSome? t=some r/\forL g mb (xs.map c) ρ=.ok (.rt (v r)) ρ')\/(∃ρ',xs.findSome? t=none/\forL g mb (xs.map c) ρ=.ok .nx ρ'/\J ρ')
 | [],_,ρ,h=>.inr ⟨ρ,rfl,rfl,h⟩
 |x::xs,hs,ρ,h=>by
  obtain⟨ρ1,h1,h2⟩:=hs x (by simp) ρ h
  rcases h2 with⟨r,ρ2,e1,e2⟩|⟨ρ2,e1,e2,e3⟩
  ·refine .inl ⟨r,ρ2,by rw[List.findSome?_cons,e1],?_⟩
   rw[List.map_cons,forL,h1]
   dsimp only
   rw[e2]
   rfl
  ·have hf:List.findSome? t (x::xs)=List.findSome? t xs:=by rw[List.findSome?_cons,e1]
   have hl:forL g mb ((x::xs).map c) ρ=forL g mb (xs.map c) ρ2:=by
    rw[List.map_cons,forL,h1]
    dsimp only
    rw[e2]
    rfl
   rw[hf,hl]
   exact fB c t v J xs (λy hy=>hs y (List.mem_cons_of_mem _ hy)) ρ2 e3
theorem eO{α:Type}(c f:α->PV)(q:α->Bool)(I:ŝ->Prop):∀(xs:List α) (ρ:ŝ) (acc:List PV),I ρ->acc.length+xs.length<=16777216->
 (∀x∈xs,∀ρ,I ρ->∃ρ1 ρ2,g (c x) ρ=some ρ1/\mt ρ1=.ok (q x) ρ2/\(q x=false->I ρ2)/\(q x=true->∃ρ3,me ρ2=.ok (f x) ρ3/\I ρ3))->ŕ g mt me (xs.map c) ρ acc=some (acc++(xs.filter q).map f)
 | [],ρ,acc,_,_,_=>by simp[ŕ]
 |x::xs,ρ,acc,h,hz,hs=>by
  obtain⟨ρ1,ρ2,h1,h2,h3,h4⟩:=hs x List.mem_cons_self ρ h
  cases e:q x with
  |true=>
   obtain⟨ρ3,h5,h6⟩:=h4 e
   rw[e] at h2
   rw[List.map_cons,ŕ,h1]
   dsimp only
   rw[h2]
   dsimp only
   rw[h5]
   dsimp only
   rw[if_pos (by simp at hz;omega),eO c f q I xs ρ3 (acc ++ [f x]) h6 (by simp at hz ⊢;omega) λy hy=>hs y (List.mem_cons_of_mem _ hy)]
   simp[e]
  |false=>
   rw[e] at h2
   rw[List.map_cons,ŕ,h1]
   dsimp only
   rw[h2]
   dsimp only
   rw[eO c f q I xs ρ2 acc (h3 e) (by simp at hz ⊢;omega) λy hy=>hs y (List.mem_cons_of_mem _ hy)]
   simp[e]
end
end P
namespace P
open PySem PySem.Spec PyProof.Rows L2 M2 M3 M4
def Zhl(K:PySem.W.Frag)(n:Nat)(t:Kd):TG:=λv σ H Q=>∃a xs,v=.ref a/\aQ K H a xs/\xs.length=n/\t xs σ H Q
section
variable{X:Cx}{cm:String->Addr}{pos:Pos}
def ZbM{es:List Expr}{k:Nat}{t:Kd}{n:Nat}(hc:X.calm=true)(h:Cm X es t)
 (hn:(assignEach es X.env).length=n:=by rfl)(hst:(assignEach es X.env).findIdx? (·.1)=none:=by rfl):PG X (.Tuple es k pos) (Zhl X.K n t):=by
 intro pins s σ H v u Q I r hw
 obtain⟨a,xs,e1,hq,hl,hw⟩:=hw
 subst e1
 cases r
 obtain⟨its,rv,ht,hz⟩:=I.list hq
 rw[assign_Tuple]
 refine wpAny_bind (wpAny_standAt ?_)
 unfold unpack
 rw[show(assignEach es X.env).length=its.toArray.size by simp[hn,<-hl,rv.length],hst]
 refine wpAny_bind (wpAny_holding (PySem.W.kun_itemsOf (I.ok.hd hc) ht.isList λh' hx=>?_))
 have I1:Inv X pins σ H {s with heap:=h'}:=I.kept (t':=s.toks) λb o e=>hx b o (Nat.ne_of_lt (Heap.lt_size e)) e
 exact h pins _ σ H xs _ Q I1 (by simpa using rv) hw
def gS(n:Nat)(gs:JX):Tg:=λp ρ=>match p with
 | .tup ps=>if ps.length=n then gs ps ρ else none
 | .lst ps=>if ps.length=n then gs ps ρ else none
 |_=>none
@[simp] theorem Zhm{n:Nat}{gs:JX}{ps:List PV}{ρ:ŝ}:gS n gs (.tup ps) ρ=if ps.length=n then gs ps ρ else none:=rfl
@[simp] theorem Zhn{n:Nat}{gs:JX}{ps:List PV}{ρ:ŝ}:gS n gs (.lst ps) ρ=if ps.length=n then gs ps ρ else none:=rfl
def HW{es:List Expr}{k:Nat}{gs:JX}{n:Nat}(hc:X.calm=true)(h:Cm X es (tTs (kk X cm) gs))(hn:(assignEach es X.env).length=n:=by rfl)(hst:(assignEach es X.env).findIdx? (·.1)=none:=by rfl):PG X (.Tuple es k pos) (tT (kk X cm) (gS n gs)):=by
 intro pins s σ H v u Q I r hw
 obtain⟨c,F,ρ,p,rel,rp,hw⟩:=hw
 cases p with
 |tup ps=>
  unfold Rep at rp
  obtain⟨a,xs,h1,h2,h3⟩:=rp
  unfold gS at hw
  dsimp only at hw
  split at hw
  ·rename_i hl
   exact Kf hc h hn hst pins s σ H v u Q I r ⟨a,xs,h1,Same.tup rel.sub h2,by rw[<-h3.length];exact hl,c,F,ρ,ps,rel,h3,hw⟩
  ·exact hw.elim
 |lst ps=>
  unfold Rep at rp
  obtain⟨a,xs,h1,h2,h3⟩:=rp
  unfold gS at hw
  dsimp only at hw
  split at hw
  ·rename_i hl
   exact ZbM hc h hn hst pins s σ H v u Q I r ⟨a,xs,h1,rel.sub.seq h2,by rw[<-h3.length];exact hl,c,F,ρ,ps,rel,h3,hw⟩
  ·exact hw.elim
 |_=>exact hw.elim
end
end P
namespace P
open PySem PySem.Spec PyProof.Rows L2 M2 M3 M4
section
variable{X:Cx}{cm:String->Addr}{E:L2.St->XK}{a:Expr}{p p1 pos pos1:Pos}{mr:M (List PV)}
end
end P
namespace P
open PySem PySem.Spec PyProof.Rows L2 M2 M3 M4
section
variable{X:Cx}{cm:String->Addr}{E:L2.St->XK}{e o:Expr}{es:List Expr}{pos:Pos}{m:M Bool}{mo:M RV}{ma:M PV}
@[simp] theorem Zho{ps qs:List PV}:(RV.ot ps qs).val=.tup (ps ++ [.lst qs]):=rfl
@[simp] theorem Zhp{ps qs:List PV}:(RV.ot ps qs).slot=.ot ps qs:=rfl
end
end P
namespace P
open PySem PySem.Spec PyProof.Rows L2 M2 M3 M4
section
variable{X:Cx}{K:KK}
def Ux(K:PySem.W.Frag):List V->Hp->VK->Prop:=λxs H Q=>Nh K xs H Q\/∃(a:Addr) (C:Addr) (d:Option Addr) (fs:List (Str×V)) (p:Addr) (cs:List Addr) (b:Bool),xs=[.ref a,.ref p]/\H a=some (xo a C d)/\qm H d fs/\cD K C=true/\gG K H p (cs.map V.ref)/\PySem.W.kitAny K (.ref C) (cs.map Value.ref)=some b/\Q (.bl b) H
theorem vN:∀{cs:List Addr} {its:List Value},Vals (cs.map V.ref) its->its=cs.map Value.ref
 | [],_,.nil=>rfl
 |c::cs,_,.cons r t=>by
  rw[vN t,show _=Value.ref c from r]
  rfl
def SJ:ž X (.builtin "isinstance") (Ux X.K):=by
 intro pins s σ H xs us Q I r h
 rcases h with h|⟨a,C,d,fs,p,cs,b,rfl,ha,hD,q,hp,hk,hQ⟩
 ·exact lJ pins s σ H xs us Q I r h
 ·obtain⟨u,w',rfl,r1,r2⟩:=vals2 r
  cases(show u=Value.ref a from r1)
  cases(show w'=Value.ref p from r2)
  obtain⟨⟨o,ws,ho,hcl,hdi,hda⟩,_,_⟩:=(show Ź X.prog X.w H s.heap a (xo a C d) from I.hok a _ ha)
  obtain⟨ocls,odict,odata,osl⟩:=o
  dsimp only at hcl hdi hda
  subst hcl hdi hda
  have J:∃ox od,PySem.W.InstAt s.heap a ox C od:=by
   rcases hD with⟨rfl,_⟩|⟨d0,rfl,z⟩
   ·exact⟨_,none,ho,rfl,rfl,trivial⟩
   ·obtain⟨od,z'⟩:=sS (I.hok d0 _ z)
    exact⟨_,some od,ho,rfl,rfl,z'⟩
  obtain⟨its,rv,⟨⟨tc,td,tda,tsl⟩,ht,hc,n,hd⟩,_⟩:=I.tuple hp
  dsimp only at hc hd
  subst hc hd
  rw[vN rv] at ht
  exact PySem.W.kia_tup (Bf q) I.iH J ht hk (λz=>nomatch z) λtk=>⟨.bl b,H,I.tok _,rfl,hQ⟩
def qU(tc:List ((String×String)×Bool))(C:String):List PV->Option Bool
 | []=>some false
 | .cls D::r=>match tc.lookup (C,D),qU tc C r with
   |some b,some b'=>some (b || b')
   |_,_=>none
 |_=>none
def Br(tc tt:List ((String×String)×Bool))(ds nt:List String):List PV->Option PV
 | [.xc C _ _,.tup (q::qs)]=>(qU tc C (q::qs)).map .bl
 |ps=>dX tc tt ds nt ps
theorem HX{tc:List ((String×String)×Bool)}{C:String}(hc:qR (λC D b=>cD K.K (K.cm C)=true/\PySem.W.kitOne K.K (.ref (K.cm C)) (.ref (K.cm D))=some b) tc){F:Hp}:∀{qs:List PV} {xs:List V} {b:Bool},Ģ K F qs xs->qU tc C qs=some b->
 ∃cs:List Addr,xs=cs.map V.ref/\PySem.W.kitAny K.K (.ref (K.cm C)) (cs.map Value.ref)=some b/\(qs≠[]->cD K.K (K.cm C)=true)
 | [],xs,b,r,e=>by
   unfold Ģ at r
   subst r
   unfold qU at e
   cases e
   exact⟨[],rfl,rfl,λz=>absurd rfl z⟩
 |q::qs,xs,b,r,e=>by
  unfold Ģ at r
  obtain⟨x,xs',rfl,r1,r2⟩:=r
  cases q with
  |cls D=>
   unfold qU at e
   cases e1:tc.lookup (C,D) with
   |none=>rw[e1] at e;cases e
   |some b1=>
    cases e2:qU tc C qs with
    |none=>rw[e1,e2] at e;cases e
    |some b2=>
     rw[e1,e2] at e
     cases e
     obtain⟨k1,k2⟩:=hc.get e1
     obtain⟨cs,rfl,h2,_⟩:=HX hc r2 e2
     unfold Rep at r1
     subst r1
     refine⟨K.cm D::cs,rfl,?_,λ_=>k1⟩
     show PySem.W.kitAny K.K (.ref (K.cm C)) (Value.ref (K.cm D)::cs.map Value.ref)=_
     unfold PySem.W.kitAny
     rw[k2]
     cases b1 with
     |true=>rfl
     |false=>exact h2
  |_=>unfold qU at e;cases e
def SM{tc tt:List ((String×String)×Bool)}{ds nt:List String}(hc:qR (λC D b=>cD K.K (K.cm C)=true/\PySem.W.kitOne K.K (.ref (K.cm C)) (.ref (K.cm D))=some b) tc)
 (ht:qR (λC D b=>cD K.K (K.cm C)=true/\PySem.W.kitOne K.K (.ref (K.cm C)) (.type D)=some b) tt)(hd:iZ (λD=>PySem.W.kitOne K.K (.type "NoneType") (.ref (K.cm D))=some false) ds)
 (hn:iZ (λD=>PySem.W.kitOne K.K (.type "NoneType") (.type D)=some false) nt):h_ K (Ux K.K) (Br tc tt ds nt):=by
 intro c F H σ ρ ps pv vs Q rel r e k
 unfold Br at e
 split at e
 ·rename_i C ns qs0 q qs
  obtain⟨v,u,rfl,r1,r2⟩:=rl2 r
  cases eb:qU tc C (q::qs) with
  |none=>rw[eb] at e;cases e
  |some b=>
   rw[eb] at e
   cases e
   have r1':Rep K F (.xc C ns qs0) v:=by rcases r1 with q|q;exact q;exact q.elim
   unfold Rep at r1'
   obtain⟨a,d,fs,rfl,h1,h2,h3,h4⟩:=r1'
   obtain⟨p,xs,rfl,h5,h6⟩:=r2.tup rel.sub
   obtain⟨cs,rfl,h7,h8⟩:=HX hc h6 eb
   exact .inr ⟨a,_,d,fs,p,cs,b,rfl,rel.sub _ _ h1,h2.same rel.sub,h8 (by simp),h5,h7,k _ F H rel (Same.refl _) (Same.refl _) Rep.bl⟩
 ·exact .inl (lK hc ht hd hn rel r e k)
end
end P
namespace P
open PySem PySem.Spec PyProof.Rows L2 M2 M3 M4
section
variable{K:KK}{c c':Ctx}{F F' H H':Hp}{σ:L2.St}{ρ:ŝ}
end
section
variable{X:Cx}{cm:String->Addr}{E:L2.St->XK}{elt tg iter:Expr}{ifs:List Expr}{scope:Scope}{pos:Pos}{mi:M (List PV)}{g:Tg}{mt:M Bool}{me:M RV}
end
section
variable{K:KK}{c:Ctx}{F H:Hp}{σ:L2.St}{ρ:ŝ}
end
section
variable{X:Cx}{cm:String->Addr}{E:L2.St->XK}{e:Expr}{es:List Expr}{m:M Bool}{mv:M PV}{ms:M (List Slot)}
end
end P
namespace P
open PySem PySem.Spec PyProof.Rows L2 M2 M3 M4
section
variable{X:Cx}{K:KK}
end
section
variable{ρ:ŝ}{i x j:Nat}{m:M Bool}{mv:M PV}{ms:M (List Slot)}{mp:M (List (List PV))}{g:Tg}{mt:M Bool}{me:M RV}{mi:M (List PV)}{js:List Nat}{nl:Nat}
end
end P
namespace P
open PySem PySem.Spec PyProof.Rows L2 M2 M3 M5
def lamP(js:List Nat)(ρ:ŝ)(p:PV):ŝ:=js.map (λ(j:Nat)=>iR ((ρ[j]?).getD .no)) ++ [.sh p]
def Bs(js:List Nat)(me:M PV)(ρ:ŝ):List PV->Option (List Int)
 | []=>some []
 |p::ps=>match me (lamP js ρ p) with
  | .ok (.int k) _=>(Bs js me ρ ps).map (k:: ·)
  |_=>none
def dM(p:PV)(k:Int):List PV->List Int->PV
 |q::qs,m::ms=>if m<k then dM q m qs ms else dM p k qs ms
 |_,_=>p
def lN:List PV->List Int->Option PV
 |p::ps,k::ks=>some (dM p k ps ks)
 |_,_=>none
def Nz(js:List Nat)(me:M PV)(mr:M (List PV)):M PV:=λρ=>(mr ρ).bind λps ρ1=>match ps with
 | [.lst items]=>match Bs js me ρ1 items with
   |some ks=>Res.rC (lN items ks) ρ1
   |none=>.bad
 |_=>.bad
theorem vO{js:List Nat}{me:M PV}{ρ:ŝ}:∀{items:List PV} {ks:List Int},Bs js me ρ items=some ks->ks.length=items.length/\∀(k:Nat) (p:PV),items[k]?=some p->∃ρ',me (lamP js ρ p)=.ok (.int (ks.getD k 0)) ρ'
 | [],ks,h=>by
   cases(show some []=some ks from h)
   exact⟨rfl,λk p z=>by simp at z⟩
 |q::r,ks,h=>by
  have h':(match me (lamP js ρ q) with
   | .ok (.int k) _=>(Bs js me ρ r).map (k:: ·)
   |_=>none)=some ks:=h
  split at h'
  ·rename_i k ρ' e
   cases e2:Bs js me ρ r with
   |none=>rw[e2] at h';cases h'
   |some ks'=>
    rw[e2] at h'
    cases(show some (k::ks')=some ks from h')
    obtain⟨h1,h2⟩:=vO e2
    refine⟨by simp[h1],λn p hp=>?_⟩
    cases n with
    |zero=>
     simp at hp
     subst hp
     exact⟨ρ',e⟩
    |succ n=>
     simp at hp
     simpa using h2 n p hp
  ·cases h'
theorem gb:∀{qs:List PV} {ms:List Int} {p:PV} {k:Int} {i:Nat} {x:PV},ms.length=qs.length->(p::qs)[i]?=some x->(∀j,j<(p::qs).length->(k::ms).getD i 0<=(k::ms).getD j 0/\(j<i->(k::ms).getD i 0<(k::ms).getD j 0))->dM p k qs ms=x
 | [],[],p,k,i,x,_,hx,_=>by
   cases i with
   |zero=>simpa[dM] using hx
   |succ i=>simp at hx
 | [],_::_,_,_,_,_,h,_,_=>by simp at h
 |_::_,[],_,_,_,_,h,_,_=>by simp at h
 |q::qs,m::ms,p,k,i,x,hl,hx,hb=>by
  have hl':ms.length=qs.length:=by simpa using hl
  unfold dM
  by_cases hm:m<k
  ·rw[if_pos hm]
   cases i with
   |zero=>
    have:=(hb 1 (by simp)).1
    simp at this
    omega
   |succ i=>
    refine gb (i:=i) hl' (by simpa using hx) λj hj=>?_
    have:=hb (j+1) (by simpa using hj)
    refine⟨by simpa using this.1,λhji=>by simpa using this.2 (by omega)⟩
  ·rw[if_neg hm]
   cases i with
   |zero=>
    refine gb (i:=0) hl' (by simpa using hx) λj hj=>?_
    cases j with
    |zero=>exact⟨Int.le_refl _,λz=>absurd z (Nat.lt_irrefl _)⟩
    |succ j=>
     have:=hb (j+1+1) (by simpa using hj)
     exact⟨by simpa using this.1,λz=>absurd z (by omega)⟩
   |succ i=>
    cases i with
    |zero=>
     have:=(hb 0 (by simp)).2 (by omega)
     simp at this
     omega
    |succ i=>
     refine gb (i:=i+1) hl' (by simpa using hx) λj hj=>?_
     cases j with
     |zero=>
      have:=hb 0 (by simp)
      exact⟨by simpa using this.1,λ_=>by simpa using this.2 (by omega)⟩
     |succ j=>
      have:=hb (j+1+1) (by simpa using hj)
      exact⟨by simpa using this.1,λz=>by simpa using this.2 (by omega)⟩
def yg{items:List PV}{ks:List Int}{i:Nat}{x b:PV}(hl:ks.length=items.length)(h:lN items ks=some b)(hx:items[i]?=some x)(hb:∀j,j<items.length->ks.getD i 0<=ks.getD j 0/\(j<i->ks.getD i 0<ks.getD j 0)):b=x:=by
 cases items with
 |nil=>simp at hx
 |cons p ps=>
  cases ks with
  |nil=>simp at hl
  |cons k ks=>
   have h':dM p k ps ks=b:=Option.some.inj h
   rw[<-h']
   exact gb (by simpa using hl) hx hb
section
variable{K:KK}{c:Ctx}{F H:Hp}{σ:L2.St}{ρ:ŝ}
theorem Gr.refl(s:Same F H):Gr F H F H:=⟨Same.refl _,Same.refl _,s,λ_ _ z=>z⟩
theorem Gr.trans{F1 H1 F2 H2:Hp}(a:Gr F H F1 H1)(b:Gr F1 H1 F2 H2):Gr F H F2 H2:=
 ⟨a.h.trans b.h,a.f.trans b.f,b.sub,fun x hx hf=>b.out x (fun z=>by
   cases q:H x with
   |none=>exact hx q
   |some u=>rw[a.h x u q] at z;cases z) (a.out x hx hf)⟩
def Rel.lam(js:List Nat)(rel:Rel K c F H σ ρ){p:PV}{v:V}(hp:Rep K F p v):Rel K (ctx0 F H) F H (gU js σ v) (lamP js ρ p) where
 sub:=rel.sub
 base:=Same.refl _
 f0:=Same.refl _
 gD:=λ_ _ z=>z
 lent:=λa u e=>gH e
 lb:=fun a e=>by
   cases q:(ctx0 F H).L a with
   |none=>rfl
   |some u=>
    have e':H a=none:=e
    rw[(gH q).1] at e'
    cases e'
 len:=by simp[gU,lamP]
 slot:= λi s e=>by
  unfold lamP at e
  by_cases hi:i<js.length
  ·rw[List.getElem?_append_left (by simpa using hi),List.getElem?_map] at e
   cases ej:js[i]? with
   |none=>rw[ej] at e;cases e
   |some j=>
    rw[ej] at e
    have e':iR ((ρ[j]?).getD .no)=s:=Option.some.inj e
    subst e'
    have hx:((gU js σ v)[i]?).getD none=(σ[j]?).getD none:=by
     unfold gU
     rw[List.getElem?_append_left (by simpa using hi),List.getElem?_map,ej]
     rfl
    rw[hx]
    cases er:ρ[j]? with
    |none=>trivial
    |some sl=>
     have q:=rel.slot j sl er
     cases sl with
     |no=>trivial
     |sh p=>exact q
     |ow ps=>
      obtain⟨a,vs,h1,h2,h3,h4,h5⟩:=q
      refine⟨a,vs,h1,?_,h5⟩
      show(match F a with|none=>H a|some _=>none)=_
      rw[h3]
      exact h2
     |bw ps=>
      obtain⟨a,vs,h1,h2,h3⟩:=q
      obtain⟨l1,l2⟩:=rel.lent a _ h2
      refine⟨a,vs,h1,?_,h3⟩
      show(match F a with|none=>H a|some _=>none)=_
      rw[l2]
      exact l1
     |rc C ns ps=>trivial
     |ot ps qs=>trivial
     |ol GR=>trivial
  ·have hi2:i=js.length:=by
    have l2:=(List.getElem?_eq_some_iff.mp e).1
    simp at l2
    omega
   subst hi2
   rw[List.getElem?_append_right (by simp)] at e
   have e':Slot.sh p=s:=by simpa using e
   subst e'
   have hx:((gU js σ v)[js.length]?).getD none=some v:=by
    unfold gU
    rw[List.getElem?_append_right (by simp)]
    simp
   rw[hx]
   exact⟨v,rfl,hp⟩
 sep:=λi j a h1 _=>by
  exfalso
  obtain⟨s,y,h1,_,h2⟩:=h1
  have h2:=jN h2
  unfold lamP at h1
  by_cases hi:i<js.length
  ·rw[List.getElem?_append_left (by simpa using hi),List.getElem?_map] at h1
   cases ej:js[i]? with
   |none=>rw[ej] at h1;cases h1
   |some j=>
    rw[ej] at h1
    have e':iR ((ρ[j]?).getD .no)=s:=Option.some.inj h1
    subst e'
    cases er:ρ[j]? with
    |none=>rw[er] at h2;cases h2
    |some sl=>rw[er] at h2;cases sl<;>cases h2
  ·have hi2:i=js.length:=by
    have l2:=(List.getElem?_eq_some_iff.mp h1).1
    simp at l2
    omega
   subst hi2
   rw[List.getElem?_append_right (by simp)] at h1
   have e':Slot.sh p=s:=by simpa using h1
   subst e'
   cases h2
end
section
variable{X:Cx}{cm:String->Addr}{E:L2.St->XK}{x px:Str}{c Pt:Addr}{params:Arguments}{body e:Expr}{scope:Scope}{p pos Rv kpos:Pos}{mr:M (List PV)}{me:M PV}
def ZbN{k:Nat}(N0:List Str)(js:List Nat)(sc:Scope)(hr:aD (k+2) X.A)(hsc:X.env.scope=sc)(hcalm:X.calm=true)(hx:x∈lams)(ht:PySem.W.tabIn X.K x=some (c,Pt))(hcode:X.env.code=.ref c)(hq:X.env.qual=x ++ ".<locals>.")
 (hg:Gl X "min")(hm:X.mg "min" =none)(ha:PA X [e] (tRL (kk X cm) E mr))(he:∀cl f c' s H,aD k (JW X (N0 ++ [px]) (fC x) scope cl f c' X.A.in1 s H).A->(JW X (N0 ++ [px]) (fC x) scope cl f c' X.A.in1 s H).A.units+64<cLine->PE (JW X (N0 ++ [px]) (fC x) scope cl f c' X.A.in1 s H) body (tV (kk X cm) EF me))(hcap:jM X sc scope N0 js)(hlen:js.length=N0.length:=by rfl)
 (hbind:∀(cl:List (Str×Addr)) (pm ctv:Value) (c':Addr) (u:Value),bindArgs (PySem.W.kla_fn "<lambda>" (fC x) params body scope cl pm (.ref c') ctv) ⟨[u],[]⟩=pure [(px,u)]:=by intros;rfl)
 (hk:scope.kind=.function:=by rfl)(hcell:∀y∈scope.names,y.2≠ .cell:=by decide +kernel)(hpx:scope.names.lookup px=some .local:=by rfl)(hco:scope.isCoroutine=false:=by rfl)(hgen:scope.isGenerator=false:=by rfl)
 (hfree:∀y∈scope.names,y.2=.free->(sc.names.lookup y.1=some .cell\/sc.names.lookup y.1=some .free):=by decide +kernel)(hdef:defaultsOf params X.env=([],[]):=by rfl)
 (hst:starEach [e] X.env=[(false,eval e X.env)]:=by exact Ĵ rfl)(hpl:(backTo pos (starEach [e] X.env)).any (·.1)=false:=by rfl) :
 PE X (.Call (.Name "min" p) [e] [⟨some "key",.Lambda params body scope Rv,kpos⟩] pos) (tV (kk X cm) E (Nz js me mr)):=λpins s σ H Q I h=>
 Rw N0 js sc hsc hcalm hr.depth hx ht hcode hq hg hm ha (λcl f c' s H=>he cl f c' s H (hr.in1.deeper _) (hr.in1.deeper _).units) hcap hlen hbind hk hcell hpx hco hgen hfree hdef hst hpl pins s σ H Q I (by
  obtain⟨cc,F,ρ,rel,h⟩:=h
  refine⟨cc,F,ρ,rel,h.bind λps ρ1 vs F1 H1 ě s1 s2 q h1=>?_⟩
  split at h1
  rotate_left
  ·exact h1.elim
  rename_i items
  split at h1
  rotate_left
  ·exact h1.elim
  rename_i kl hk'
  obtain⟨kl1,kl2⟩:=vO hk'
  cases hb:lN items kl with
  |none=>rw[hb] at h1;exact h1.elim
  |some b=>
   rw[hb] at h1
   have q':Paired (rR (kk X cm) cc σ ρ1 F1 H1) [.lst items] vs:=q
   obtain⟨l,xs,rfl,hs,hr⟩:∃l xs,vs=[.ref l]/\aQ X.K H1 l xs/\Ģ (kk X cm) F1 items xs:=by
    cases q' with
    |cons a b=>
     cases b
     rcases a with a|a
     ·unfold Rep at a
      obtain⟨l,xs,rfl,e1,e2⟩:=a
      exact⟨l,xs,rfl,ě.sub.seq e1,e2⟩
     ·obtain⟨l,xs,rfl,e1,e2⟩:=a
      exact⟨l,xs,rfl,aQ.of e1,e2⟩
   have len:items.length=xs.length:=hr.length
   have hne:0<xs.length:=by
    rw[<-len]
    cases items with
    |nil=>simp[lN] at hb
    |cons _ _=>simp
   refine⟨l,xs,rfl,hs,hne,λc q H2 sm hc nw=>⟨λk=>kl.getD k 0,λ_ H=>∃F',Gr F1 H2 F' H,⟨F1,Gr.refl (ě.sub.trans sm)⟩,λk H ⟨F',g⟩=>g.h,λk v H hv ⟨F',g⟩=>?_,λi v H hv hbest ⟨F',g⟩=>?_⟩⟩
   ·have ŏ:Rel (kk X cm) cc F1 H2 σ ρ1:=ě.call ⟨sm,Same.refl _,ě.sub.trans sm,λ_ _ z=>z⟩
    have hki:k<items.length:=by rw[len];exact(List.getElem?_eq_some_iff.mp hv).1
    obtain⟨ρ',hme⟩:=kl2 k items[k] (List.getElem?_eq_getElem hki)
    obtain⟨v',hv',rv⟩:=cU hr.pr (List.getElem?_eq_getElem hki)
    rw[hv] at hv'
    cases hv'
    refine⟨ctx0 F' H,F',lamP js ρ1 items[k],(ŏ.call g).lam js (Rep.same g.f _ _ rv),?_⟩
    rw[hme]
    intro y F2 H3 lX _ _ ry
    have ry':Rep (kk X cm) F2 (.int (kl.getD k 0)) y:=ry
    unfold Rep at ry'
    exact⟨ry',F2,g.trans lX.gr⟩
   ·have ŏ:Rel (kk X cm) cc F1 H2 σ ρ1:=ě.call ⟨sm,Same.refl _,ě.sub.trans sm,λ_ _ z=>z⟩
    have hii:i<items.length:=by rw[len];exact(List.getElem?_eq_some_iff.mp hv).1
    obtain⟨v',hv',rv⟩:=cU hr.pr (List.getElem?_eq_getElem hii)
    rw[hv] at hv'
    cases hv'
    have eb:=yg kl1 hb (List.getElem?_eq_getElem hii) (λj hj=>hbest j (by rw[<-len];exact hj))
    subst eb
    exact h1 v F' H (ŏ.call g) g.f (sm.trans g.h) (Rep.same g.f _ _ rv))
end
def ZbO(K:PySem.W.Frag)(x:Str)(f:Addr):Bool:=PySem.W.nsIn K mainGlobals x== some (some (.ref f)) && (PySem.W.tabIn K x).isSome
section
variable{P:Program}{w:World}{K:PySem.W.Frag}{cm:String->Addr}{mg:Str->Option Value}{base:Heap}{CX:qj}
def SN{x qual:Str}{st:Stmt}{f:Addr}{fd:FuncData}(F:Kz K x qual st f fd){c Pt:Addr}(h:PySem.W.nsIn K mainGlobals x=some (some (.ref f)))(ht:PySem.W.tabIn K x=some (c,Pt)):fd.code=.ref c:=by
 obtain⟨oc,od,kV,doc,pm,an,cdv,ct,osl,rfl,lk,hcd⟩:=F.ex
 unfold PySem.W.tabIn at ht
 split at ht
 ·rename_i f2 hf
  rw[h] at hf
  cases hf
  split at ht
  ·rename_i hfo
   rw[lk] at hfo
   cases hfo
   split at ht
   ·rename_i c2 hc
    split at ht
    ·split at ht
     ·cases ht
      exact hc
     ·cases ht
    ·cases ht
   ·cases ht
  ·cases ht
 ·cases ht
def Zhq{x qual:Str}{st:Stmt}{f:Addr}{fd:FuncData}{N ps:List Str}{k n j:Nat}{mb:M Fl}{mf:MF}(F:Kz K x qual st f fd)(S:Ė N ps (ć st))(hn:ps.length=n)(hj:N.length=j)(hf:mf=ń n j mb)(htb:ZbO K x f=true)
 (hbody:∀(c Pt:Addr),PySem.W.tabIn K x=some (c,Pt)→∀(A:Around) (outer:List Env) (s:Shared) (H:Hp) (E:XK),aD k (A.deeper (envOfC qual (ć st) s.heap.objs.size f (.ref c)))→
   lW (cQ CX P w K mg base N qual (ć st) f (.ref c) A outer s H E) (Ŗ st) (tS ⟨K,cm⟩ (λ_=>E) mb)):ī P w K mg base CX (k+1) f fd ps (ż ⟨K,cm⟩ n mf):=by
 subst hn hj hf
 unfold ZbO at htb
 simp only[Bool.and_eq_true,beq_iff_eq] at htb
 obtain⟨h1,h2⟩:=htb
 obtain⟨⟨c,Pt⟩,ht⟩:=Option.isSome_iff_exists.mp h2
 have hc:=SN F h1 ht
 obtain⟨oc,od,kV,doc,pm,an,cdv,ct,osl,rfl,lk,hcd⟩:=id F.ex
 have hc':cdv=.ref c:=hc
 subst hc'
 refine zX lk hcd S (λvs H Q E ⟨F,ps',h1,_,h2,_⟩=>by rw[<-Paired.length h2];exact h1) λA outer s H vs Q E hr hsp=>?_
 obtain⟨F,ps',h1,h2,h3,h4⟩:=hsp
 refine⟨_,hbody c Pt ht A outer s H E hr,ctx0 F H,F,startP N.length ps',Rel.start h2 h3,?_⟩
 unfold ń at h4
 rw[if_pos h1] at h4
 cases e:mb (startP N.length ps') with
 |bad=>rw[e] at h4;exact h4
 |exc x ρ'=>rw[e] at h4;exact λσ' C d F' H' rel s1 q=>h4 C d F' H' rel.gr q
 |ok fl ρ'=>
  rw[e] at h4
  cases fl with
  |nx=>exact λσ' F' H' rel s1=>h4 .non F' H' rel.gr (Rep.non (K:=⟨K,cm⟩) (F:=F'))
  |bk=>exact h4.elim
  |ct=>exact h4.elim
  |rt r=>
   intro v σ' F' H' rel s1 q
   refine h4 v F' H' rel.gr ?_
   cases r with
   |sh p=>exact q
   |ow qs=>
    obtain⟨a,vs',e1,e2,e3,e4,_,e5⟩:=q
    exact⟨a,vs',e1,e2,e3,e4,e5⟩
   |ot qs ts=>
    obtain⟨p,a,xs,vs',e1,e0,ex,e2,e3,e4,_,e5⟩:=q
    exact⟨p,a,xs,vs',e1,e0,ex,e2,e3,e4,e5⟩
structure ZbP(K:PySem.W.Frag)(x qual:Str)(st:Stmt)(f:Addr)(fd:FuncData):Prop where
 ex:∃(oc:Value) (od:Option Addr) (dV kV doc pm:Value) (an:Option Addr) (cdv ct:Value) (osl:Array (Option Value)),
   fd=PySem.W.fnOf x qual (Ũ st) (Ŗ st) (ć st) dV kV doc pm an cdv ct/\K.lookup f=some ⟨oc,od,.func fd,osl⟩/\PySem.W.codeIn K cdv qual=true
 kp:PySem.W.keepIn K (.ref f)=true
def SQ{x qual:Str}{st:Stmt}{f:Addr}{oc:Value}{od an:Option Addr}{osl:Array (Option Value)}{dV kV doc pm cdv ct:Value}(l:K.lookup f=some ⟨oc,od,.func (PySem.W.fnOf x qual (Ũ st) (Ŗ st) (ć st) dV kV doc pm an cdv ct),osl⟩)
 (c:PySem.W.codeIn K cdv qual=true)(k:PySem.W.keepIn K (.ref f)=true):ZbP K x qual st f (PySem.W.fnOf x qual (Ũ st) (Ŗ st) (ć st) dV kV doc pm an cdv ct):=⟨⟨oc,od,dV,kV,doc,pm,an,cdv,ct,osl,rfl,l,c⟩,k⟩
def Zhr{x qual:Str}{st:Stmt}{f:Addr}{fd:FuncData}{N ps:List Str}{k n j:Nat}{mb:M Fl}{mf:MF}(F:ZbP K x qual st f fd)(S:Ė N ps (ć st))(hn:ps.length=n)(hj:N.length=j)(hf:mf=ń n j mb)
 (hbody:∀(cdv:Value) (A:Around) (outer:List Env) (s:Shared) (H:Hp) (E:XK),aD k (A.deeper (envOfC qual (ć st) s.heap.objs.size f cdv))→
   lW (cQ CX P w K mg base N qual (ć st) f cdv A outer s H E) (Ŗ st) (tS ⟨K,cm⟩ (λ_=>E) mb)):ī P w K mg base CX (k+1) f fd ps (ż ⟨K,cm⟩ n mf):=by
 subst hn hj hf
 obtain⟨oc,od,dV,kV,doc,pm,an,cdv,ct,osl,rfl,lk,hcd⟩:=F.ex
 refine zX lk hcd S (λvs H Q E ⟨F,ps',h1,_,h2,_⟩=>by rw[<-Paired.length h2];exact h1) λA outer s H vs Q E hr hsp=>?_
 obtain⟨F,ps',h1,h2,h3,h4⟩:=hsp
 refine⟨_,hbody cdv A outer s H E hr,ctx0 F H,F,startP N.length ps',Rel.start h2 h3,?_⟩
 unfold ń at h4
 rw[if_pos h1] at h4
 cases e:mb (startP N.length ps') with
 |bad=>rw[e] at h4;exact h4
 |exc x ρ'=>rw[e] at h4;exact λσ' C d F' H' rel s1 q=>h4 C d F' H' rel.gr q
 |ok fl ρ'=>
  rw[e] at h4
  cases fl with
  |nx=>exact λσ' F' H' rel s1=>h4 .non F' H' rel.gr (Rep.non (K:=⟨K,cm⟩) (F:=F'))
  |bk=>exact h4.elim
  |ct=>exact h4.elim
  |rt r=>
   intro v σ' F' H' rel s1 q
   refine h4 v F' H' rel.gr ?_
   cases r with
   |sh p=>exact q
   |ow qs=>
    obtain⟨a,vs',e1,e2,e3,e4,_,e5⟩:=q
    exact⟨a,vs',e1,e2,e3,e4,e5⟩
   |ot qs ts=>
    obtain⟨p,a,xs,vs',e1,e0,ex,e2,e3,e4,_,e5⟩:=q
    exact⟨p,a,xs,vs',e1,e0,ex,e2,e3,e4,e5⟩
def DR{x qual:Str}{st:Stmt}{ps:List Str}{T:Addr}{oT:Obj}{items:Array Value}{nT:Nat}{kV doc pm:Value}{an:Option Addr}{cdv ct:Value}(hT:K.lookup T=some oT)(hs:oT.data=.seq items nT)
 (h:∀us:List Value,us.length=ps.length->∃k:Option (Array Value)->Sem (List (Str×Value)),bindArgs (PySem.W.fnOf x qual (Ũ st) (Ŗ st) (ć st) (.ref T) kV doc pm an cdv ct) ⟨us,[]⟩=seqItems? (.ref T) >>= k/\k (some items)=pure (ps.zip us)) :
 Binds K (PySem.W.fnOf x qual (Ũ st) (Ŗ st) (ć st) (.ref T) kV doc pm an cdv ct) ps []:=λs us X hl=>by
 rw[List.append_nil] at hl ⊢
 obtain⟨k,h1,h2⟩:=h us hl
 exact PySem.W.binds_K X rfl hT hs h1 h2
end
section
variable{js:List Nat}{me:M PV}{mr:M (List PV)}{ρ:ŝ}
theorem SX:Nz js me mr ρ=(mr ρ).bind λps ρ1=>match ps with
 | [.lst items]=>match Bs js me ρ1 items with
   |some ks=>Res.rC (lN items ks) ρ1
   |none=>.bad
 |_=>.bad:=rfl
end
end P
namespace P
open PySem PySem.Spec PyProof.Rows L2 M2 M3 M5
end P
namespace P
open PySem PySem.Spec PyProof.Rows L2 M2 M3 M5
section
variable{X:Cx}{cm:String->Addr}{E:L2.St->XK}{CX:qj}{k n:Nat}{f:Addr}{fd:FuncData}{ps:List Str}{mf:MF}{mr:M (List Slot)}{x:Str}{p pos:Pos}{e:Expr}{es:List Expr}{ds:List Value}{dvs:List V}{dps:List Slot}
end
end P
namespace P
open PySem PySem.Spec PyProof.Rows L2 M2 M3 M5
def BN:Nat->(List Value->Prop)->Prop
 |0,p=>p []
 |n+1,p=>∀u,BN n λus=>p (u::us)
theorem tD:∀{n:Nat} {p:List Value->Prop},BN n p->∀us,us.length=n->p us
 |0,p,h,[],_=>h
 |0,p,h,_::_,e=>by cases e
 |n+1,p,h,[],e=>by cases e
 |n+1,p,h,u::us,e=>tD (h u) us (Nat.succ.inj e)
structure Df(K:PySem.W.Frag)(mg:Str->Option Value)(x:Str)(st:Stmt)(ps:List Str)(f:Addr)(fd:FuncData):Prop where
 F:Kz K x x st f fd
 m:mg x=some (.ref f)
 b:Binds K fd ps []
 bb:∀(s:Shared) (us:List Value),us.length=ps.length->BindsTo s fd ⟨us,[]⟩ (ps.zip us)
structure Dm(K:PySem.W.Frag)(C:Addr)(x q:Str)(st:Stmt)(ps:List Str)(f:Addr)(fd:FuncData):Prop where
 F:Kz K x q st f fd
 b:Binds K fd ps []
structure Dd(K:PySem.W.Frag)(mg:Str->Option Value)(x:Str)(st:Stmt)(ps:List Str)(v:Int)(f:Addr)(fd:FuncData):Prop where
 F:ZbP K x x st f fd
 m:mg x=some (.ref f)
 b:Binds K fd ps []
section
variable{K:PySem.W.Frag}{h:Heap}{mg:Str->Option Value}{x q:Str}{st:Stmt}{ps:List Str}{f C:Addr}{oc kV dc pm cd ct:Value}{od an:Option Addr}{sl:Array (Option Value)}
def ı(X:K.In h)(G:h.Ns mainGlobals mg)(hb:∀(kV dc pm:Value) (an:Option Addr) (cd ct:Value),BN ps.length λus=>bindArgs (PySem.W.fnOf x x (Ũ st) (Ŗ st) (ć st) .none kV dc pm an cd ct) ⟨us,[]⟩=pure (ps.zip us))
 (a:PySem.W.nsIn K mainGlobals x=some (some (.ref f)))(l:K.lookup f=some ⟨oc,od,.func (PySem.W.fnOf x x (Ũ st) (Ŗ st) (ć st) .none kV dc pm an cd ct),sl⟩)(c:PySem.W.codeIn K cd x=true)(k:PySem.W.keepIn K (.ref f)=true) :
 Df K mg x st ps f (PySem.W.fnOf x x (Ũ st) (Ŗ st) (ć st) .none kV dc pm an cd ct):=
 have F:=KC (st:=st) l c k
 ⟨F,PySem.W.mg_of X G a,F.binds λkV dc pm an cd ct us hl=>tD (hb kV dc pm an cd ct) us hl,λs us hl=>.of_eq (tD (hb kV dc pm an cd ct) us hl)⟩
def kj(hb:∀(kV dc pm:Value) (an:Option Addr) (cd ct:Value),BN ps.length λus=>bindArgs (PySem.W.fnOf x q (Ũ st) (Ŗ st) (ć st) .none kV dc pm an cd ct) ⟨us,[]⟩=pure (ps.zip us))
 (a:PySem.W.findIn K (.ref C) x=some (some (.ref f)))(l:K.lookup f=some ⟨oc,od,.func (PySem.W.fnOf x q (Ũ st) (Ŗ st) (ć st) .none kV dc pm an cd ct),sl⟩)(c:PySem.W.codeIn K cd q=true)(k:PySem.W.keepIn K (.ref f)=true) :
 Dm K C x q st ps f (PySem.W.fnOf x q (Ũ st) (Ŗ st) (ć st) .none kV dc pm an cd ct):=
 have F:=KC (st:=st) l c k
 ⟨F,F.binds λkV dc pm an cd ct us hl=>tD (hb kV dc pm an cd ct) us hl⟩
def Zet{v:Int}{T:Addr}{dk:Tok}{dn:Nat}{ds:Array (Option Value)}{dd:Option Addr}{dO:Value}(X:K.In h)(G:h.Ns mainGlobals mg)
 (hb:∀(dk:Tok) (kV dc pm:Value) (an:Option Addr) (cd ct:Value),BN ps.length λus=>∃k:Option (Array Value)->Sem (List (Str×Value)),bindArgs (PySem.W.fnOf x x (Ũ st) (Ŗ st) (ć st) (.ref T) kV dc pm an cd ct) ⟨us,[]⟩=seqItems? (.ref T) >>= k/\k (some #[.int v dk])=pure (ps.zip us))
 (a:PySem.W.nsIn K mainGlobals x=some (some (.ref f)))(l:K.lookup f=some ⟨oc,od,.func (PySem.W.fnOf x x (Ũ st) (Ŗ st) (ć st) (.ref T) kV dc pm an cd ct),sl⟩)(d:K.lookup T=some ⟨dO,dd,.seq #[.int v dk] dn,ds⟩)(c:PySem.W.codeIn K cd x=true)(k:PySem.W.keepIn K (.ref f)=true) :
 Dd K mg x st ps v f (PySem.W.fnOf x x (Ũ st) (Ŗ st) (ć st) (.ref T) kV dc pm an cd ct):=
 ⟨SQ (st:=st) l c k,PySem.W.mg_of X G a,DR d rfl λus hl=>tD (hb dk kV dc pm an cd ct) us hl⟩
end
end P
namespace P
open PySem PySem.Spec PyProof.Rows L2 M2 M3 M5
def aK{N ps:List Str}{sc:Scope}(h1:sc.kind=.function:=by rfl)(h2:sc.isCoroutine=false:=by rfl)(h3:sc.isGenerator=false:=by rfl)(h4:N.Nodup:=by decide +kernel)(h5:N.take ps.length=ps:=by rfl)(h6:∀x∈ps,sc.names.lookup x=some .local\/sc.names.lookup x=some .cell:=by decide +kernel)
 (h7:∀y∈sc.names,y.2≠ .free:=by decide +kernel):Ė N ps sc:=⟨h1,h2,h3,h4,h5,h6,h7⟩
section
variable{X:Cx}{cm:String->Addr}{E:L2.St->XK}{CX:qj}{k j n:Nat}{f:Addr}{fd:FuncData}{ps:List Str}{mf:MF}{mr:M (List Slot)}{x:Str}{st:Stmt}{p pos:Pos}{e:Expr}{es:List Expr}
end
section
variable{Pg:Program}{w:World}{K:PySem.W.Frag}{mg:Str->Option Value}{base:Heap}{CX:qj}{cm:String->Addr}
end
end P
namespace My
def gd(a b:Int):Int:=((Int.gcd a b:Nat):Int)
def Z28(a b:Int):gd b (Int.fmod a b)=gd a b:=by
 unfold gd
 rw[Int.fmod_def,Int.gcd_sub_mul_left_right,Int.gcd_comm]
def Z29(a:Int){b:Int}(h:b≠0):(Int.fmod a b).natAbs<b.natAbs:=by
 rcases(by omega:0<b\/b<0) with h|h
 ·have h1:=Int.fmod_nonneg_of_pos a h
  have h2:=Int.fmod_lt_of_pos a h
  omega
 ·have e:=Int.neg_fmod_neg a b
  have h1:=Int.fmod_nonneg_of_pos (-a) (show 0 < -b by omega)
  have h2:=Int.fmod_lt_of_pos (-a) (show 0 < -b by omega)
  omega
def Z2a(a:Int):gd a 0=if a<0 then -a else a:=by
 unfold gd
 rw[Int.gcd_zero]
 split<;>omega
def Z2v(a:Int){b:Int}(h:b≠0):0<gd a b:=by
 have:=Int.gcd_ne_zero_right (a:=a) h
 unfold gd
 omega
def Z13(a b:Int):0<=gd a b:=by
 unfold gd
 omega
def Z2T(a:Int){b:Int}(h:b≠0):gd a b<=b.natAbs:=by
 unfold gd
 have:=Int.gcd_dvd_natAbs_right a b
 have:=Nat.le_of_dvd (by omega) this
 omega
def dv(t b:Int):Int:=if b<0 then-gd t b else gd t b
end My
namespace Hu
abbrev Pt:=Int×Int
def tn(a b c:Pt):Int:=(b.1-a.1)*(c.2-a.2)-(b.2-a.2)*(c.1-a.1)
section
variable{S:List Pt}{p:Pt}
end
abbrev Ln:=Int×Int×Int
def hd(l:Ln)(p:Pt):Bool:=decide (l.1*p.1+l.2.1*p.2<=l.2.2)
def Z2(a b:Pt):Ln:=(b.2-a.2,a.1-b.1,(b.2-a.2)*a.1+(a.1-b.1)*a.2)
def Z22{a b s:Pt}:hd (Z2 a b) s=true↔0<=tn a b s:=by
 unfold hd Z2
 rw[decide_eq_true_iff]
 have e:tn a b s=((b.2-a.2)*a.1+(a.1-b.1)*a.2)-((b.2-a.2)*s.1+(a.1-b.1)*s.2):=by simp only[tn];grind
 dsimp only
 omega
def Z1(S:List Pt):List Pt:=S.foldl (λk x=>if x∈k then k else k ++ [x]) []
theorem Z0a(x:Pt):∀(S k:List Pt),x∈S.foldl (λk x=>if x∈k then k else k ++ [x]) k↔x∈k\/x∈S
 | [],k=>by simp
 |y::S,k=>by
  rw[List.foldl_cons,Z0a x S]
  by_cases h:y∈k
  ·rw[if_pos h]
   constructor
   ·rintro (q|q)
    ·exact .inl q
    ·exact .inr (List.mem_cons_of_mem _ q)
   ·rintro (q|q)
    ·exact .inl q
    ·rcases List.mem_cons.mp q with e|e
     ·exact .inl (e▸h)
     ·exact .inr e
  ·rw[if_neg h]
   simp only[List.mem_append,List.mem_cons,List.not_mem_nil,or_false]
   constructor
   ·rintro ((q|q)|q)
    ·exact .inl q
    ·exact .inr (.inl q)
    ·exact .inr (.inr q)
   ·rintro (q|q|q)
    ·exact .inl (.inl q)
    ·exact .inl (.inr q)
    ·exact .inr q
def Zl{x:Pt}{S:List Pt}:x∈Z1 S↔x∈S:=by unfold Z1;rw[Z0a];simp
def Zx(S:List Pt):List Ln:=(Z1 S).flatMap λa=>(Z1 S).filterMap λb=>if a≠b/\(Z1 S).all (hd (Z2 a b)) then some (Z2 a b) else none
def Z14{S:List Pt}{l:Ln}:l∈Zx S↔∃a∈S,∃b∈S,a≠b/\(∀s∈S,0<=tn a b s)/\l=Z2 a b:=by
 unfold Zx
 simp only[List.mem_flatMap,List.mem_filterMap]
 constructor
 ·rintro ⟨a,ha,b,hb,h⟩
  split at h
  ·rename_i hc
   refine⟨a,Zl.mp ha,b,Zl.mp hb,hc.1,λs hs=>?_,(Option.some.inj h).symm⟩
   exact Z22.mp (List.all_eq_true.mp hc.2 s (Zl.mpr hs))
  ·cases h
 ·rintro ⟨a,ha,b,hb,h1,h2,rfl⟩
  refine⟨a,Zl.mpr ha,b,Zl.mpr hb,?_⟩
  rw[if_pos ⟨h1,List.all_eq_true.mpr λs hs=>Z22.mpr (h2 s (Zl.mp hs))⟩]
def mx(l:List Int):Int:=l.tail.foldl max (l.headD 0)
def mn(l:List Int):Int:=l.tail.foldl min (l.headD 0)
def box(S:List Pt):List Ln:=[(1,0,mx (S.map (·.1))),(-1,0,- mn (S.map (·.1))),(0,1,mx (S.map (·.2))),(0,-1,- mn (S.map (·.2)))]
def Zy(S:List Pt):List Ln:=box S++Zx S
def Z02(S:List Pt)(p:Pt):Option Ln:=(Zy S).find? λl=>!hd l p
def yj(a b c p:Pt):List Int:=[tn p b c,tn a p c,tn a b p]
def yq(a b p:Pt):List Int:=
 let g:=(b.1-a.1)*(p.1-a.1)+(b.2-a.2)*(p.2-a.2)
 [(b.1-a.1)*(b.1-a.1)+(b.2-a.2)*(b.2-a.2)-g,g]
def Zu(w:List Int):Bool:=decide (w.sum≠0) && w.all λs=>decide (0<=s*w.sum)
def at_(S:List Pt)(i:Nat):Pt:=S.getD i (0,0)
def Z2w{S:List Pt}{i:Nat}(h:i<S.length):at_ S i∈S:=by
 unfold at_
 rw[List.getD_eq_getElem?_getD,List.getElem?_eq_getElem h]
 exact List.getElem_mem h
def Z7(n:Nat):List (Nat×Nat):=(List.range n).flatMap λj=>(List.range j).map λi=>(i,j)
def Z9(n:Nat):List (Nat×Nat×Nat):=(List.range n).flatMap λk=>(Z7 k).map λq=>(q.1,q.2,k)
def ZM{n i j:Nat}:(i,j)∈Z7 n↔i<j/\j<n:=by
 unfold Z7
 simp only[List.mem_flatMap,List.mem_range,List.mem_map,Prod.mk.injEq]
 constructor
 ·rintro ⟨k,hk,m,hm,rfl,rfl⟩;exact⟨hm,hk⟩
 ·rintro ⟨h1,h2⟩;exact⟨j,h2,i,h1,rfl,rfl⟩
def Z0B{n i j k:Nat}:(i,j,k)∈Z9 n↔i<j/\j<k/\k<n:=by
 unfold Z9
 simp only[List.mem_flatMap,List.mem_range,List.mem_map,Prod.mk.injEq]
 constructor
 ·rintro ⟨m,hm,⟨a,b⟩,hq,rfl,rfl,rfl⟩
  have:=ZM.mp hq
  exact⟨this.1,this.2,hm⟩
 ·rintro ⟨h1,h2,h3⟩;exact⟨k,h3,(i,j),ZM.mpr ⟨h1,h2⟩,rfl,rfl,rfl⟩
def Z2x(S:List Pt)(p:Pt):Option (List Int×List Nat):=(Z9 S.length).findSome? λq=>if Zu (yj (at_ S q.1) (at_ S q.2.1) (at_ S q.2.2) p) then some (yj (at_ S q.1) (at_ S q.2.1) (at_ S q.2.2) p,[q.1,q.2.1,q.2.2]) else none
def Z2y(S:List Pt)(p:Pt):Option (List Int×List Nat):=(Z7 S.length).findSome? λq=>if Zu (yq (at_ S q.1) (at_ S q.2) p) then some (yq (at_ S q.1) (at_ S q.2) p,[q.1,q.2]) else none
def Z0N(S:List Pt)(p:Pt):List Int×List Nat:=((Z2x S p).orElse λ_=>Z2y S p).getD ([1],[0])
structure Z36(S:List Pt)(p:Pt)(w:List Int)(q:List Nat):Prop where
 len:w.length=q.length
 sum:w.sum≠0
 sign:∀s∈w,0<=s*w.sum
 nd:q.Nodup
 lt:∀i∈q,i<S.length
 x:((w.zip q).map λa=>a.1*(at_ S a.2).1).sum=w.sum*p.1
 y:((w.zip q).map λa=>a.1*(at_ S a.2).2).sum=w.sum*p.2
def Z0j{w:List Int}:Zu w=true↔w.sum≠0/\∀s∈w,0<=s*w.sum:=by
 unfold Zu
 simp
end Hu
namespace Fr
def lay(l:List Int)(a:List (Int×Nat)):List Int:=a.foldl (λacc a=>acc.set a.2 a.1) l
end Fr
namespace T
open PySem L2 M2 M3 M4 P
noncomputable section
def top(i:Nat):Stmt:=PySem.Challenge.pw_shadowpost_k43_keep_dark_refused.main.body.getD i (.Pass ⟨0,0,0,0⟩)
abbrev Uy:Stmt:=top 86
abbrev Uz:Stmt:=top 80
abbrev UG:Stmt:=top 81
abbrev UJ:Stmt:=top 85
abbrev NK:Stmt:=top 87
abbrev NP:Stmt:=inClass (top 47) 0
abbrev UL:Stmt:=top 83
abbrev UW:Stmt:=top 82
abbrev NQ:Stmt:=top 84
abbrev U_:Stmt:=top 62
abbrev Va:Stmt:=top 63
abbrev Vb:Stmt:=top 65
abbrev Vc:Stmt:=inClass (top 72) 0
abbrev NT:Stmt:=top 66
abbrev Vd:Stmt:=top 67
abbrev Zeu:Stmt:=top 68
abbrev Zev:Stmt:=top 64
abbrev NZ:Stmt:=top 69
abbrev Ve:Stmt:=top 78
abbrev Zew:Stmt:=top 88
abbrev Vf:Stmt:=top 48
abbrev Vg:Stmt:=top 51
abbrev Vh:Stmt:=top 50
abbrev Vi:Stmt:=top 49
abbrev Vj:Stmt:=top 52
abbrev Vk:Stmt:=top 54
abbrev N_:Stmt:=top 4
abbrev Oa:Stmt:=top 6
abbrev Vl:Stmt:=top 3
abbrev Vm:Stmt:=top 5
abbrev HY:Stmt:=top 7
abbrev Vn:Stmt:=top 2
abbrev H_:Stmt:=top 22
abbrev Vo:Stmt:=top 24
abbrev Vp:Stmt:=top 23
abbrev Vq:Stmt:=top 21
abbrev Ob:Stmt:=top 25
abbrev Vr:Stmt:=top 26
abbrev Vs:Stmt:=top 27
abbrev Oc:Stmt:=top 33
abbrev Od:Stmt:=top 34
abbrev Zex:Stmt:=top 18
abbrev Vt:Stmt:=top 19
abbrev Oe:Stmt:=top 32
abbrev Vu:Stmt:=top 28
abbrev Zey:Stmt:=top 29
abbrev Og:Stmt:=top 31
abbrev Vv:Stmt:=top 30
abbrev Ia:Stmt:=top 35
abbrev Vw:Stmt:=top 36
abbrev Vx:Stmt:=top 38
abbrev Vy:Stmt:=top 70
abbrev Vz:Stmt:=top 71
abbrev VB:Stmt:=inClass (top 73) 0
abbrev VD:Stmt:=inClass (top 74) 0
abbrev VF:Stmt:=inClass (top 75) 0
abbrev Oh:Stmt:=inClass (top 76) 0
abbrev VG:Stmt:=inClass (top 77) 0
abbrev Oi:Stmt:=top 41
abbrev VH:Stmt:=top 39
abbrev VJ:Stmt:=top 42
abbrev VL:Stmt:=top 43
abbrev VN:Stmt:=top 56
abbrev Oj:Stmt:=top 57
abbrev VP:Stmt:=top 45
abbrev Ol:Stmt:=top 55
abbrev Ib:Stmt:=top 58
abbrev VR:Stmt:=top 92
abbrev Zez:Stmt:=top 90
abbrev V_:Stmt:=top 89
abbrev Wa:Stmt:=top 91
abbrev Wb:Stmt:=top 93
abbrev vP:Stmt:=top 94
abbrev ZeA:Stmt:=inClass (top 12) 0
abbrev ZeB:Stmt:=inClass (top 13) 0
abbrev Zhs:Stmt:=inClass (top 14) 0
abbrev Zht:Stmt:=inClass (top 16) 0
def Za:List ((String×String)×Bool):=[(("YardError","BadRow"),false),(("YardError","BadThing"),false),(("YardError","NoDay"),false),(("YardError","NoNumber"),false),(("YardError","NoRow"),false),(("YardError","NoStone"),false),(("YardError","NoTurn"),false),(("NoNumber","BadRow"),false),(("NoNumber","BadThing"),false),(("NoNumber","NoDay"),false),(("NoNumber","NoNumber"),true),(("NoNumber","NoRow"),false),(("NoNumber","NoStone"),false),(("NoNumber","NoTurn"),false),(("BadThing","BadRow"),false),(("BadThing","BadThing"),true),(("BadThing","NoDay"),false),(("BadThing","NoNumber"),false),(("BadThing","NoRow"),false),(("BadThing","NoStone"),false),(("BadThing","NoTurn"),false),(("NoStone","BadRow"),false),(("NoStone","BadThing"),false),(("NoStone","NoDay"),false),(("NoStone","NoNumber"),false),(("NoStone","NoRow"),false),(("NoStone","NoStone"),true),(("NoStone","NoTurn"),false),(("NoTurn","BadRow"),false),(("NoTurn","BadThing"),false),(("NoTurn","NoDay"),false),(("NoTurn","NoNumber"),false),(("NoTurn","NoRow"),false),(("NoTurn","NoStone"),false),(("NoTurn","NoTurn"),true),(("BadRow","BadRow"),true),(("BadRow","BadThing"),false),(("BadRow","NoDay"),false),(("BadRow","NoNumber"),false),(("BadRow","NoRow"),false),(("BadRow","NoStone"),false),(("BadRow","NoTurn"),false),(("NoRow","BadRow"),false),(("NoRow","BadThing"),false),(("NoRow","NoDay"),false),(("NoRow","NoNumber"),false),(("NoRow","NoRow"),true),(("NoRow","NoStone"),false),(("NoRow","NoTurn"),false),(("NoDay","BadRow"),false),(("NoDay","BadThing"),false),(("NoDay","NoDay"),true),(("NoDay","NoNumber"),false),(("NoDay","NoRow"),false),(("NoDay","NoStone"),false),(("NoDay","NoTurn"),false)]
def Zh:List ((String×String)×Bool):=[(("YardError","ValueError"),true),(("NoNumber","ValueError"),true),(("BadThing","ValueError"),true),(("NoStone","ValueError"),true),(("NoTurn","ValueError"),true),(("BadRow","ValueError"),true),(("NoRow","ValueError"),true),(("NoDay","ValueError"),true)]
def Zm:List String:=["BadRow","BadThing","NoDay","NoNumber","NoRow","NoStone","NoTurn"]
def Zn:List String:=["ValueError"]
def cmB(c0:Addr)(c1:Addr)(c2:Addr)(c3:Addr)(c4:Addr)(c5:Addr)(c6:Addr)(c7:Addr)(c8:Addr)(c9:Addr)(c10:Addr)(c11:Addr)(c12:Addr)(c13:Addr)(c14:Addr):String->Addr:=λs=>match s with
 | "YardError" =>c0
 | "NoNumber" =>c1
 | "BadThing" =>c2
 | "NoStone" =>c3
 | "NoTurn" =>c4
 | "BadRow" =>c5
 | "NoRow" =>c6
 | "NoDay" =>c7
 | "Yard" =>c8
 | "Thing" =>c9
 | "Post" =>c10
 | "Fence" =>c11
 | "Sail" =>c12
 | "Cloth" =>c13
 | "House" =>c14
 |_=>0
def jd:M Fl:=(ġ (gM (nR (gW (ĉ aA (ĉ Ń (ĉ aH (ā 0) (mC (.int 7))) (mC (.int 16))) (mC (.int 11)))) (gW (ĉ Zbv (ā 1) (mC (.int 6)))))
 (İ (ş (ĉ Ě (ē (bU (ą (ś (ą (mC (.int 1)) (ą (mC (.int 20)) Ĝ))) (ą (ś (ą (mC (.int 20)) (ą (mC (.int 1)) Ĝ))) Ĝ)))) (ĉ Ń (ā 0) (mC (.int 2))))))
 ig)
 (ġ (Ķ 2 (ļ ķ (mC (.int 1)) (ĉ Ń (ā 0) (dU vB (ą (mC (.int 5)) (ą (ā 1) Ĝ))))))
 (İ (ş (ś (ą (ĝ 2) (ą (ē (ļ ķ (mC (.int 1)) (ĉ Ń (ĉ aH (ā 0) (mC (.int 5))) (dU vB (ą (mC (.int 4)) (ą (ĉ aH (ā 1) (ā 2)) Ĝ)))))) Ĝ)))))))
def kE:MF:=ń 2 3 jd
def yr:M Fl:=(ġ (gM (gW (ĉ qO (ā 1) (dU fW (ą (ā 0) Ĝ))))
 (İ (ş (ĉ Ě (ā 0) (ā 1))))
 ig)
 (İ (ş (mC (.int 0)))))
def ao:MF:=ń 2 2 yr
def pP:M Fl:=(gM (gW (ĉ aA (ĉ Ń (ā 0) (mC (.int 2))) (mC (.int 0))))
 (ġ (Ag 2 (ĉ Ń (ā 3) (mC (.int 524287))))
 (Ķ 3 (ş (ĉ aH (ā 3) (mC (.int 524287))))))
 (ġ (Ķ 3 (ş (ĉ Ń (ē (ļ ķ (ē (ļ ķ (ĉ Ľ (ā 3) (mC (.int 49157))) (mC (.int 24593)))) (ĉ Ľ (mC (.int 2)) (ā 4)))) (mC (.int 8388593)))))
 (Ag 2 (ĉ aH (ā 3) (mC (.int 16))))))
def yu:M Fl:=(ġ (Ķ 2 (bU Ĝ))
 (ġ (Ķ 3 (ş (ĉ aH (ā 0) (mC (.int 2)))))
 (ġ (gM (gW (ĉ aA (ĉ Ń (ā 0) (mC (.int 2))) (mC (.int 1))))
 (Ķ 3 (ş (ĉ Ń (ā 3) (mC (.int 8388593)))))
 ig)
 (ġ (iu (bG bI (ą (ĝ 1) Ĝ)) (gN 4) pP)
 (İ (fJ 2))))))
def oE:MF:=ń 2 5 yu
def yx:M Fl:=(ġ (gM (gW (ĉ aA (ĉ Ń (ĉ Ě (ā 0) (mC (.int 4))) (mC (.int 6))) (mC (.int 4))))
 (İ (ş (mC .non)))
 ig)
 (ġ (Ķ 1 (ş (ĉ Ě (ē (bU (ą (mC (.int 1)) (ą (mC (.int 1)) (ą (mC (.int 3)) (ą (ĉ mD (mC (.int 10)) (mC (.int 5))) Ĝ)))))) (ĉ Ń (ĉ Ě (ā 0) (mC (.int 3))) (mC (.int 4))))))
 (İ (ş (ś (ą (ĉ Ľ (ĉ Ų (ĉ Ń (ĉ Ě (ā 0) (mC (.int 0))) (mC (.int 13))) (mC (.int 6))) (ā 1)) (ą (ĉ Ľ (ĉ Ų (ĉ Ń (ĉ Ě (ā 0) (mC (.int 1))) (mC (.int 13))) (mC (.int 6))) (ā 1)) (ą (ĉ Ľ (ē (ļ ķ (mC (.int 1)) (ĉ Ń (ĉ Ě (ā 0) (mC (.int 2))) (mC (.int 5))))) (ā 1)) Ĝ))))))))
def tE:MF:=ń 1 2 yx
def yC:M Fl:=(ġ (Ķ 8 (Đ oE (ď (ē (ļ ķ (ĉ aH (ē (Đ ao (Ą 0 (ď (ē (ļ ķ (ā 1) (ā 7))) č)))) (mC (.int 12))) (ĉ Ľ (mC (.int 5)) (ā 7)))) (ď (ē (ļ ķ (ĉ Ľ (mC (.int 5)) (ā 3)) (mC (.int 2)))) č))))
 (ġ (Ķ 9 (Š [8] 1 (bG bI (ą (ē (ļ ķ (mC (.int 1)) (ĉ Ń (ĉ Ě (ā 8) (mC (.int 1))) (ā 3)))) Ĝ)) (gN 1) œ (ē (Đ tE (ď (ē (Dj (ā 0) (mP (ē (ļ ķ (mC (.int 2)) (ĉ Ľ (mC (.int 5)) (ā 1))))) (mP (ē (ļ ķ (mC (.int 7)) (ĉ Ľ (mC (.int 5)) (ā 1))))))) č)))))
 (Ag 6 (ś (ą (ĉ Ě (ā 4) (ā 7)) (ą (ē (ļ ķ (mC (.int 1)) (ĉ Ń (ĉ Ľ (ĉ Ě (ā 8) (mC (.int 0))) (mC (.int 1907))) (ĉ mD (mC (.int 10)) (mC (.int 9)))))) (ą (ĝ 9) Ĝ)))))))
def DW:M Fl:=(ġ (Ķ 4 (bU (ą (mC (.str "ab")) (ą (mC (.str "a")) (ą (mC (.str "abc")) (ą (mC (.str "b")) (ą (mC (.str "ba")) (ą (mC (.str "z")) (ą (mC (.str "zz")) (ą (mC (.str "zzz")) (ą (mC (.str "abcdefgh")) (ą (mC (.str "abcdefgi")) (ą (mC (.str "aa")) (ą (mC (.str "bb")) Ĝ))))))))))))))
 (ġ (Ķ 5 (ş (ĉ Ń (ē (Đ ao (Ą 0 (Ą 1 č)))) (mC (.int 12)))))
 (ġ (Ķ 4 (ļ ķ (ē (Dj (ā 4) (mP (ĝ 5)) Ao)) (ē (Dj (ā 4) Ao (mP (ĝ 5))))))
 (ġ (Ķ 6 (bU Ĝ))
 (ġ (iu (bG bI (ą (ĝ 2) Ĝ)) (gN 7) yC)
 (İ (fJ 6)))))))
def vQ:MF:=ń 4 10 DW
def DX:M Fl:=(ġ (mG 0 ["Yard"] "width" (ĝ 1))
 (ġ (mG 0 ["Yard"] "height" (ĝ 2))
 (ġ (mG 0 ["Yard"] "things" (ē (pG fK (ą (ā 3) Ĝ))))
 (mG 0 ["Yard"] "days" (ē (Š [] 3 (š 4) (gT 3 (Ğ (gN 0) (Ğ (gN 1) (Ğ (gN 2) Ť)))) œ (ś (ą (ĝ 0) (ą (ĝ 1) (ą (ē (pG fK (ą (ā 2) Ĝ))) Ĝ))))))))))
def oG:MI:=fZ 5 5 "Yard" DX
def yD:M Fl:=(ġ (gM (gW (ĉ aA (ĉ Ń (ĉ aH (ā 0) (mC (.int 512))) (mC (.int 12))) (mC (.int 7))))
 (İ (ļ ķ (mC (.int 1)) (ĉ Ń (ĉ Ľ (ā 0) (mC (.int 1907))) (ĉ mD (mC (.int 10)) (mC (.int 9))))))
 ig)
 (İ (ļ ķ (mC (.int 1)) (ĉ Ń (ā 0) (mC (.int 9))))))
def vR:MF:=ń 1 1 yD
def yE:M Fl:=(ġ (gM (gW (ĉ aA (ĉ Ń (ĉ aH (ā 0) (mC (.int 512))) (mC (.int 16))) (mC (.int 5))))
 (İ (ļ ķ (ĉ Ų (ĉ Ń (ĉ Ľ (ā 0) (mC (.int 3813))) (ĉ Ų (ĉ Ľ (mC (.int 2)) (ĉ mD (mC (.int 10)) (mC (.int 9)))) (mC (.int 99)))) (ĉ mD (mC (.int 10)) (mC (.int 9)))) (mC (.int 50))))
 ig)
 (İ (ş (ĉ Ų (ĉ Ń (ā 0) (ē (ļ ķ (ĉ Ľ (mC (.int 2)) (ā 1)) (mC (.int 9))))) (mC (.int 4))))))
def mK:MF:=ń 2 2 yE
def nC:M Fl:=(ġ (Ķ 2 (Đ oE (Ą 0 (ď (mC (.int 14)) č))))
 (ġ (Jt (gS 2 (Ğ (gN 5) (Ğ (gN 6) Ť))) (ē (Š [1,2] 1 (bG bI (ą (mC (.int 2)) Ĝ)) (gN 2) œ (ē (Đ mK (ď (ĉ Ě (ā 1) (ā 2)) (Ą 0 č)))))))
 (ġ (Ķ 3 (Đ vR (ď (ĉ Ě (ā 2) (mC (.int 2))) č)))
 (ġ (Ķ 4 (ş (ĉ Ń (ĉ Ě (ā 2) (mC (.int 3))) (mC (.int 5)))))
 (ġ (gM (gW (ĉ aA (ā 4) (mC (.int 0))))
 (İ (ş (ś (ą (mC (.str "post")) (ą (ē (bU (ą (ĉ aH (ā 5) (mC (.int 2))) (ą (ĉ aH (ā 6) (mC (.int 2))) (ą (ĝ 3) Ĝ))))) Ĝ)))))
 ig)
 (ġ (gM (gW (ĉ aA (ā 4) (mC (.int 1))))
 (ġ (Jt (gS 2 (Ğ (gN 7) (Ğ (gN 8) Ť))) (ē (bU (ą (ĉ Ų (ē (ļ ķ (ā 5) (ĉ Ń (ĉ Ě (ā 2) (mC (.int 4))) (mC (.int 9))))) (mC (.int 4))) (ą (ĉ Ų (ē (ļ ķ (ā 6) (ĉ Ń (ĉ Ě (ā 2) (mC (.int 5))) (mC (.int 9))))) (mC (.int 4))) Ĝ)))))
 (İ (ş (ś (ą (mC (.str "fence")) (ą (ē (bU (ą (ĝ 5) (ą (ĝ 6) (ą (ē (ļ ķ (ā 7) (dU Nm (ą (ĉ aA (ś (ą (ĝ 5) (ą (ĝ 6) Ĝ))) (ś (ą (ĝ 7) (ą (ĝ 8) Ĝ)))) Ĝ)))) (ą (ĝ 8) (ą (ĝ 3) Ĝ))))))) Ĝ))))))
 ig)
 (ġ (gM (gW (ĉ aA (ā 4) (mC (.int 2))))
 (İ (ş (ś (ą (mC (.str "cloth")) (ą (ē (ļ ķ (ē (ļ ķ (ē (bU (ą (ĝ 5) (ą (ĝ 6) (ą (ĉ Ń (ĉ Ě (ā 2) (mC (.int 6))) (mC (.int 10))) Ĝ))))) (ē (bU (ą (ē (Đ mK (ď (ĉ Ě (ā 2) (mC (.int 7))) (Ą 1 č)))) (ą (ē (Đ mK (ď (ĉ Ě (ā 2) (mC (.int 8))) (Ą 1 č)))) (ą (ĝ 3) Ĝ))))))) (ē (bU (ą (ē (Đ mK (ď (ĉ Ě (ā 2) (mC (.int 9))) (Ą 1 č)))) (ą (ē (Đ mK (ď (ĉ Ě (ā 2) (mC (.int 10))) (Ą 1 č)))) (ą (ē (Đ vR (ď (ĉ Ě (ā 2) (mC (.int 11))) č))) Ĝ))))))) Ĝ)))))
 ig)
 (İ (ş (ś (ą (ĉ Ě (ē (bU (ą (mC (.str "sail")) (ą (mC (.str "house")) Ĝ)))) (ĉ Ų (ā 4) (mC (.int 3)))) (ą (ē (bU (ą (ĝ 5) (ą (ĝ 6) (ą (ē (ļ ķ (ē (ļ ķ (ā 5) (mC (.int 1)))) (ĉ Ń (ĉ Ě (ā 2) (mC (.int 4))) (mC (.int 8))))) (ą (ē (ļ ķ (ē (ļ ķ (ā 6) (mC (.int 1)))) (ĉ Ń (ĉ Ě (ā 2) (mC (.int 5))) (mC (.int 8))))) (ą (ĝ 3) Ĝ))))))) Ĝ))))))))))))
def kI:MF:=ń 2 9 nC
def DY:M Fl:=(İ (ş (pF nj nj (pD jY (mC (.int (1000000000)))) (ā 0) (mC (.int (1000000000))))))
def qw:MF:=ń 1 1 DY
def D_:M Fl:=(İ (ş (pF nj nj (mC (.int 1)) (ā 0) (mC (.int (1000000000))))))
def Bt:MF:=ń 1 1 D_
def yF:M Fl:=(İ (ş (gZ (ĉ aA (dU fW (ą (ā 0) Ĝ)) (mC (.int 3))) (gZ (ē (Đ qw (ď (ĉ Ě (ā 0) (mC (.int 0))) č))) (gZ (ē (Đ qw (ď (ĉ Ě (ā 0) (mC (.int 1))) č))) (ē (Đ Bt (ď (ĉ Ě (ā 0) (mC (.int 2))) č))))))))
def Bu:MF:=ń 1 1 yF
def dN:M Fl:=(ġ (mG 0 ["Thing","Post","Fence","Sail","Cloth","House"] "word" (ĝ 1))
 (mG 0 ["Thing","Post","Fence","Sail","Cloth","House"] "numbers" (ē (pG fK (ą (ā 2) Ĝ)))))
def yG:MI:=fZ 3 3 "Post" dN
def tH:MI:=fZ 3 3 "Fence" dN
def yH:MI:=fZ 3 3 "Sail" dN
def tK:MI:=fZ 3 3 "Cloth" dN
def tM:MI:=fZ 3 3 "House" dN
def yI:M Fl:=(İ (ş (gZ (ĉ aA (dU fW (ą (ā 0) Ĝ)) (mC (.int 5))) (gZ (dU xr (ą (ē (Š [] 1 (au (ē (Dj (ā 0) Ao (mP (mC (.int 4)))))) (gN 0) œ (ē (Đ qw (Ą 0 č))))) Ĝ)) (ē (Đ Bt (ď (ĉ Ě (ā 0) (mC (.int 4))) č)))))))
def vU:MF:=ń 1 1 yI
def yJ:M Fl:=(İ (ş (gZ (ē (Đ vU (Ą 0 č))) (ĉ pH (ē (Dj (ā 0) Ao (mP (mC (.int 2))))) (ē (Dj (ā 0) (mP (mC (.int 2))) (mP (mC (.int 4)))))))))
def Bv:MF:=ń 1 1 yJ
def Ie:M Fl:=(İ (ş (gZ (ē (Đ vU (Ą 0 č))) (gZ (ĉ qO (ĉ Ě (ā 0) (mC (.int 0))) (ĉ Ě (ā 0) (mC (.int 2)))) (ĉ qO (ĉ Ě (ā 0) (mC (.int 1))) (ĉ Ě (ā 0) (mC (.int 3))))))))
def JL:MF:=ń 1 1 Ie
def Om:M Fl:=(İ (ş (gZ (ē (Đ qw (ď (ĉ Ě (ā 0) (mC (.int 0))) č))) (gZ (ē (Đ qw (ď (ĉ Ě (ā 0) (mC (.int 1))) č))) (pF nj nj (mC (.int 0)) (ĉ Ě (ā 0) (mC (.int 2))) (mC (.int (1000000000))))))))
def S_:MF:=ń 1 1 Om
def yK:M Fl:=(İ (ş (gZ (ĉ aA (dU fW (ą (ā 0) Ĝ)) (mC (.int 9))) (dU xr (ą (ē (Š [0] 1 (au (ś (ą (mC (.int 0)) (ą (mC (.int 3)) (ą (mC (.int 6)) Ĝ))))) (gN 1) œ (ē (Đ S_ (ď (ē (Dj (ā 0) (mP (ĝ 1)) (mP (ē (ļ ķ (ā 1) (mC (.int 3))))))) č))))) Ĝ)))))
def Bw:MF:=ń 1 1 yK
def kJ:M Fl:=(ġ (gM (nR (gW (ĉ aA (ā 0) (mC (.str "post")))) (eE (ē (Đ Bu (Ą 1 č)))))
 (İ (ş (dW "Post" yG (Ą 0 (Ą 1 č)))))
 ig)
 (ġ (gM (nR (gW (ĉ aA (ā 0) (mC (.str "fence")))) (eE (ē (Đ Bv (Ą 1 č)))))
 (İ (ş (dW "Fence" tH (Ą 0 (Ą 1 č)))))
 ig)
 (ġ (gM (nR (gW (ĉ aA (ā 0) (mC (.str "sail")))) (eE (ē (Đ JL (Ą 1 č)))))
 (İ (ş (dW "Sail" yH (Ą 0 (Ą 1 č)))))
 ig)
 (ġ (gM (nR (gW (ĉ aA (ā 0) (mC (.str "cloth")))) (eE (ē (Đ Bw (Ą 1 č)))))
 (İ (ş (dW "Cloth" tK (Ą 0 (Ą 1 č)))))
 ig)
 (ġ (gM (nR (gW (ĉ aA (ā 0) (mC (.str "house")))) (eE (ē (Đ JL (Ą 1 č)))))
 (İ (ş (dW "House" tM (Ą 0 (Ą 1 č)))))
 ig)
 (xK "BadThing"))))))
def iB:MF:=ń 2 2 kJ
def Oo:M Fl:=(ġ (Ķ 3 (Đ oE (Ą 0 (ď (mC (.int 4)) č))))
 (ġ (Ķ 4 (ş (ĉ Ń (ĉ Ě (ā 3) (mC (.int 0))) (dU fW (ą (ā 2) Ĝ)))))
 (İ (ş (ś (ą (ś (ą (ĉ Ń (ĉ Ě (ā 3) (mC (.int 1))) (ĉ Ě (ā 1) (mC (.int 0)))) (ą (ĉ Ń (ĉ Ě (ā 3) (mC (.int 2))) (ĉ Ě (ā 1) (mC (.int 1)))) Ĝ))) (ą (ĝ 4) (ą (ĉ Ń (ĉ Ě (ā 3) (mC (.int 3))) (dU fW (ą (ĉ Ě (ĉ Ě (ā 2) (ā 4)) (mC (.int 2))) Ĝ))) Ĝ))))))))
def Ea:MF:=ń 3 5 Oo
def nD:M Fl:=(İ (ş (gZ (pF nj qO (mC (.int 0)) (ĉ Ě (ā 1) (mC (.int 0))) (pD (dJ ["Yard"] "width") (ā 0))) (pF nj qO (mC (.int 0)) (ĉ Ě (ā 1) (mC (.int 1))) (pD (dJ ["Yard"] "height") (ā 0))))))
def oH:MF:=ń 2 2 nD
def yL:M Fl:=(gM (gY (eE (ē (Đ oH (Ą 0 (Ą 1 č))))))
 (rH "NoStone" 2 [("stone",1)] (ą (ĝ 1) Ĝ))
 ig)
def vV:MF:=ń 2 2 yL
def tQ:M Fl:=(İ (ş (pF nj qO (mC (.int 0)) (ā 1) (dU fW (ą (pD (dJ ["Yard"] "days") (ā 0)) Ĝ)))))
def vW:MF:=ń 2 2 tQ
def Eb:M Fl:=(İ (ş (ĉ Ě (ĉ Ě (pD (dJ ["Yard"] "days") (ā 0)) (ā 1)) (mC (.int 2)))))
def oJ:MF:=ń 2 2 Eb
def pQ:M Fl:=(gM (Af (gY (eE (ē (Đ vW (Ą 0 (Ą 1 č)))))) (gY (gW (pF nj qO (mC (.int 0)) (ā 2) (dU fW (ą (ē (Đ oJ (Ą 0 (Ą 1 č)))) Ĝ))))))
 (rH "NoTurn" 3 [("day",1),("turn",2)] (ą (ĝ 1) (ą (ĝ 2) Ĝ)))
 ig)
def qy:MF:=ń 3 3 pQ
def je:M Fl:=(ġ (vq (ē (Đ vV (Ą 0 (Ą 2 č)))))
 (vq (ē (Đ qy (Ą 0 (Ą 3 (Ą 4 č)))))))
def yM:M Fl:=(iu (š 1) (gT 3 (Ğ (gN 2) (Ğ (gN 3) (Ğ (gN 4) Ť)))) je)
def vX:MF:=ń 2 5 yM
def Ec:M Fl:=(İ (Š [1] 2 (Bh (JC 0)) (gT 2 (Ğ (gN 1) (Ğ (gN 2) Ť))) (eE (ĉ sy (ĉ Ak (ā 0) (ā 1)) (mC (.int 1)))) (ĝ 2)))
def qC:MF:=ń 2 2 Ec
def Ed:M Fl:=(İ (ş (Nz [0] (dU sW (ą (ē (Đ qC (Ą 0 (Ą 1 č)))) Ĝ)) (ą (ā 1) Ĝ))))
def Ig:MF:=ń 2 2 Ed
def yN:M Fl:=(gM (gY (eE (ĉ sy (ĉ Ak (ā 0) (ā 2)) (mC (.int 1)))))
 (İ (fJ 2))
 ig)
def yO:M Fl:=(ġ (iu (bG bI (ą (ĝ 1) Ĝ)) (gN 2) yN)
 (İ (ş (mC .non))))
def vY:MF:=ń 2 3 yO
def Ef:M Fl:=(Bj 3 (ĝ 4))
def Eh:M Fl:=(ġ (Ķ 3 (ş (ĝ 2)))
 (ġ (iu (au (ē (Đ qC (Ą 0 (Ą 1 č))))) (gN 4) Ef)
 (İ (fJ 3))))
def Bx:MF:=ń 3 5 Eh
def yP:M Fl:=(ġ (Ķ 4 (Š [2,1,3] 1 (bG bI (ą (ĉ Ho (mC (.int 1)) (dU fW (ą (ā 0) Ĝ))) Ĝ)) (gN 3) œ (ē (Đ vY (ď (ē (Đ Bx (Ą 1 (Ą 3 (Ą 2 č))))) (Ą 0 č))))))
 (ġ (gM (gW (ĉ iY (ĉ Ě (ā 4) (pD jY (mC (.int 1)))) (mC .non)))
 (İ (ş (ś (ą (mC (.str "none")) (ą (ĉ Ě (ā 4) (pD jY (mC (.int 1)))) Ĝ)))))
 ig)
 (ġ (Ķ 5 (Đ Ig (Ą 0 (ď (ē (Š [] 2 (Bh (JC 4)) (gT 2 (Ğ (gN 0) (Ğ (gN 1) Ť))) (gW (ĉ xg (ā 1) (mC .non))) (ĝ 0))) č))))
 (İ (ş (ś (ą (mC (.str "choice")) (ą (ĝ 5) (ą (dU sW (ą (ē (Đ qC (Ą 0 (Ą 5 č)))) Ĝ)) (ą (ĝ 4) Ĝ))))))))))
def BJ:MF:=ń 4 6 yP
def tU:M Fl:=(gM (eE (ā 3))
 (Bj 1 (ĉ Ho (mC (.int 1)) (ā 2)))
 ig)
def Ei:M Fl:=(ġ (Ķ 1 (ş (mC (.int 0))))
 (ġ (iu (Bh (JC 0)) (gT 2 (Ğ (gN 2) (Ğ (gN 3) Ť))) tU)
 (İ (fJ 1))))
def BK:MF:=ń 1 4 Ei
def Ej:M Fl:=(ġ (Ķ 1 (Š [] 1 (š 0) (gN 0) œ (ĉ Ě (ā 0) (mC (.int 0)))))
 (ġ (Ķ 2 (Š [] 1 (š 0) (gN 0) œ (ĉ Ě (ā 0) (mC (.int 1)))))
 (İ (bU (ą (ś (ą (mC (.int 1)) (ą (mC (.int 0)) (ą (dU mH (ą (ā 1) Ĝ)) Ĝ)))) (ą (ś (ą (pD jY (mC (.int 1))) (ą (mC (.int 0)) (ą (pD jY (dU nZ (ą (ā 1) Ĝ))) Ĝ)))) (ą (ś (ą (mC (.int 0)) (ą (mC (.int 1)) (ą (dU mH (ą (ā 2) Ĝ)) Ĝ)))) (ą (ś (ą (mC (.int 0)) (ą (pD jY (mC (.int 1))) (ą (pD jY (dU nZ (ą (ā 2) Ĝ))) Ĝ)))) Ĝ))))))))
def Ih:MF:=ń 1 3 Ej
def pR:M Fl:=(gM (gW (ĉ (inD true) (ā 2) (ā 1)))
 (Ag 1 (ĝ 2))
 ig)
def Ek:M Fl:=(ġ (Ķ 1 (bU Ĝ))
 (ġ (iu (š 0) (gN 2) pR)
 (İ (fJ 1))))
def Ii:MF:=ń 1 3 Ek
def El:M Fl:=(ġ (Ķ 2 (ş (ĉ Ų (ĉ Ě (ā 1) (mC (.int 1))) (ĉ Ě (ā 0) (mC (.int 1))))))
 (ġ (Ķ 3 (ş (ĉ Ų (ĉ Ě (ā 0) (mC (.int 0))) (ĉ Ě (ā 1) (mC (.int 0))))))
 (İ (ş (ś (ą (ĝ 2) (ą (ĝ 3) (ą (ē (ļ ķ (ĉ Ľ (ā 2) (ĉ Ě (ā 0) (mC (.int 0)))) (ĉ Ľ (ā 3) (ĉ Ě (ā 0) (mC (.int 1)))))) Ĝ))))))))
def Ij:MF:=ń 2 4 El
def Em:M Fl:=(İ (ş (ĉ nj (ē (ļ ķ (ĉ Ľ (ĉ Ě (ā 0) (mC (.int 0))) (ĉ Ě (ā 1) (mC (.int 0)))) (ĉ Ľ (ĉ Ě (ā 0) (mC (.int 1))) (ĉ Ě (ā 1) (mC (.int 1)))))) (ĉ Ě (ā 0) (mC (.int 2))))))
def tW:MF:=ń 2 2 Em
def pU:M Fl:=(ġ (Ķ 5 (Đ Ij (Ą 3 (Ą 4 č))))
 (gM (nR (gW (ĉ pH (ā 3) (ā 4))) (eE (dU xr (ą (ē (Š [5] 1 (š 2) (gN 1) œ (ē (Đ tW (Ą 0 (Ą 1 č)))))) Ĝ))))
 (Ag 1 (ĝ 5))
 ig))
def yQ:M Fl:=(iu (š 2) (gN 4) pU)
def En:M Fl:=(ġ (Ķ 1 (bU Ĝ))
 (ġ (Ķ 2 (Đ Ii (Ą 0 č)))
 (ġ (iu (š 2) (gN 3) yQ)
 (İ (fJ 1)))))
def Ik:MF:=ń 1 6 En
def Eo:M Fl:=(İ (ļ ķ (ē (Đ Ih (Ą 0 č))) (ē (Đ Ik (Ą 0 č)))))
def Il:MF:=ń 1 1 Eo
def yR:M Fl:=(gM (gY (eE (ē (Đ tW (Ą 2 (Ą 1 č))))))
 (İ (fJ 2))
 ig)
def yS:M Fl:=(ġ (iu (au (ē (Đ Il (Ą 0 č)))) (gN 2) yR)
 (İ (ş (mC .non))))
def BL:MF:=ń 2 3 yS
def tX:M Fl:=(DK 1 (Š [2] 1 (bG bI (ą (ĝ 2) Ĝ)) (gN 1) œ (ś (ą (ĝ 1) (ą (ĝ 0) Ĝ)))))
def Ep:M Fl:=(ġ (Ķ 1 (bU Ĝ))
 (ġ (iu (bG bI (ą (ĝ 0) Ĝ)) (gN 2) tX)
 (İ (fJ 1))))
def BP:MF:=ń 1 3 Ep
def tY:M Fl:=(DK 1 (Š [2] 1 (DQ (au (ē (Đ BP (Ą 2 č))))) (gN 1) œ (ś (ą (ĉ Ě (ā 1) (mC (.int 0))) (ą (ĉ Ě (ā 1) (mC (.int 1))) (ą (ĝ 0) Ĝ))))))
def Er:M Fl:=(ġ (Ķ 1 (bU Ĝ))
 (ġ (iu (bG bI (ą (ĝ 0) Ĝ)) (gN 2) tY)
 (İ (fJ 1))))
def Im:MF:=ń 1 3 Er
def Wc:M Fl:=(aV (gW (ĉ pH (ā 1) (mC (.int 0))))
 (ġ (Ķ 2 (ş (ĉ Ń (ā 0) (ā 1))))
 (ġ (Ķ 0 (ş (ĝ 1)))
 (Ķ 1 (ş (ĝ 2))))))
def Oq:M Fl:=(ġ Wc
 (İ (ş (dU RL (ą (ā 0) Ĝ)))))
def Tc:MF:=ń 2 3 Oq
def yU:M Fl:=(ġ (gM (gW (ĉ aA (ā 1) (mC (.int 0))))
 (xK "NoNumber")
 ig)
 (ġ (Ķ 2 (Đ Tc (Ą 0 (Ą 1 č))))
 (ġ (gM (gW (ĉ qO (ā 1) (mC (.int 0))))
 (Ķ 2 (ş (pD jY (ā 2))))
 ig)
 (İ (ş (ś (ą (ĉ aH (ā 0) (ā 2)) (ą (ĉ aH (ā 1) (ā 2)) Ĝ))))))))
def qD:MF:=ń 2 3 yU
def yV:M Fl:=(wW 4 (ĝ 6) (ē (Đ qD (Ą 5 (Ą 3 č)))))
def pW:M Fl:=(ġ (Ķ 3 (ş (dU sW (ą (ā 0) Ĝ))))
 (ġ (Ķ 4 (Š [3] 1 (bG bI (ą (ĝ 2) Ĝ)) (gN 1) œ (ē (Đ qD (ď (mC (.int 0)) (Ą 0 č))))))
 (ġ (iu (JG (Nq 0) (Nq 1)) (gT 2 (Ğ (gN 5) (Ğ (gN 6) Ť))) yV)
 (İ (fJ 4)))))
def oK:MF:=ń 3 7 pW
def Es:M Fl:=(ġ (Ķ 3 (ş (ĉ Ľ (ĉ Ų (ĉ Ě (ā 1) (mC (.int 0))) (ĉ Ě (ā 0) (mC (.int 0)))) (ĉ Ų (ĉ Ě (ā 2) (mC (.int 1))) (ĉ Ě (ā 0) (mC (.int 1)))))))
 (İ (ş (ĉ Ų (ā 3) (ĉ Ľ (ĉ Ų (ĉ Ě (ā 1) (mC (.int 1))) (ĉ Ě (ā 0) (mC (.int 1)))) (ĉ Ų (ĉ Ě (ā 2) (mC (.int 0))) (ĉ Ě (ā 0) (mC (.int 0)))))))))
def vZ:MF:=ń 3 4 Es
def Ot:M Fl:=(ġ (Ķ 2 (ş (ĉ Ě (ā 0) (mC (.int 0)))))
 (ġ (Ķ 3 (ş (ĉ Ě (ā 0) (mC (.int 1)))))
 (ġ (Ķ 4 (ş (ĉ Ě (ā 0) (mC (.int 2)))))
 (İ (bU (ą (ē (Đ vZ (Ą 1 (Ą 3 (Ą 4 č))))) (ą (ē (Đ vZ (Ą 2 (Ą 1 (Ą 4 č))))) (ą (ē (Đ vZ (Ą 2 (Ą 3 (Ą 1 č))))) Ĝ))))))))
def Td:MF:=ń 2 5 Ot
def yW:M Fl:=(ġ (Ķ 1 (ş (dU sW (ą (ā 0) Ĝ))))
 (İ (ş (gZ (ĉ pH (ā 1) (mC (.int 0))) (dU xr (ą (ē (Š [1] 1 (š 0) (gN 1) œ (ĉ Ma (ĉ Ľ (ā 1) (ā 0)) (mC (.int 0))))) Ĝ))))))
def wg:MF:=ń 1 2 yW
def Eu:M Fl:=(ġ (Ķ 2 (ş (ĉ Ų (ĉ Ě (ĉ Ě (ā 0) (mC (.int 1))) (mC (.int 0))) (ĉ Ě (ĉ Ě (ā 0) (mC (.int 0))) (mC (.int 0))))))
 (ġ (Ķ 3 (ş (ĉ Ų (ĉ Ě (ĉ Ě (ā 0) (mC (.int 1))) (mC (.int 1))) (ĉ Ě (ĉ Ě (ā 0) (mC (.int 0))) (mC (.int 1))))))
 (ġ (Ķ 4 (ļ ķ (ĉ Ľ (ā 2) (ĉ Ų (ĉ Ě (ā 1) (mC (.int 0))) (ĉ Ě (ĉ Ě (ā 0) (mC (.int 0))) (mC (.int 0))))) (ĉ Ľ (ā 3) (ĉ Ų (ĉ Ě (ā 1) (mC (.int 1))) (ĉ Ě (ĉ Ě (ā 0) (mC (.int 0))) (mC (.int 1)))))))
 (İ (bU (ą (ĉ Ų (ē (ļ ķ (ĉ Ľ (ā 2) (ā 2)) (ĉ Ľ (ā 3) (ā 3)))) (ā 4)) (ą (ĝ 4) Ĝ)))))))
def Io:MF:=ń 2 5 Eu
def yX:M Fl:=(ġ (Ķ 4 (Đ Io (ď (ē (Š [0] 1 (š 3) (gN 1) œ (ĉ Ě (ā 0) (ā 1)))) (Ą 1 č))))
 (gM (eE (ē (Đ wg (Ą 4 č))))
 (İ (Đ oK (Ą 4 (Ą 3 (Ą 2 č)))))
 ig))
def yZ:M Fl:=(ġ (Ķ 4 (Đ Td (ď (ē (Š [0] 1 (š 3) (gN 1) œ (ĉ Ě (ā 0) (ā 1)))) (Ą 1 č))))
 (gM (eE (ē (Đ wg (Ą 4 č))))
 (İ (Đ oK (Ą 4 (Ą 3 (Ą 2 č)))))
 ig))
def tZ:M Fl:=(ġ (Ķ 2 (ş (dU fW (ą (ā 0) Ĝ))))
 (ġ (iu (au (ē (Đ Im (Ą 2 č)))) (gN 3) yZ)
 (ġ (iu (au (ē (Đ BP (Ą 2 č)))) (gN 3) yX)
 (İ (Đ oK (ď (ē (bU (ą (mC (.int 1)) Ĝ))) (ď (ē (bU (ą (mC (.int 0)) Ĝ))) (Ą 2 č))))))))
def wj:MF:=ń 2 5 tZ
def za:M Fl:=(ġ (Ķ 2 (Đ BL (Ą 0 (Ą 1 č))))
 (ġ (gM (gW (ĉ xg (ā 2) (mC .non)))
 (İ (ş (ś (ą (mC (.str "in")) (ą (ē (Đ wj (Ą 0 (Ą 1 č)))) Ĝ)))))
 ig)
 (İ (ş (ś (ą (mC (.str "out")) (ą (ĝ 2) Ĝ)))))))
def BR:MF:=ń 2 3 za
def Ew:M Fl:=(İ (ş (ś (ą (ē (ļ ķ (ĉ Ľ (ĉ Ě (ā 1) (mC (.int 2))) (ĉ Ě (ā 0) (mC (.int 0)))) (ĉ Ľ (ĉ Ě (ā 1) (mC (.int 0))) (ĉ Ě (ā 0) (mC (.int 2)))))) (ą (ē (ļ ķ (ĉ Ľ (ĉ Ě (ā 1) (mC (.int 2))) (ĉ Ě (ā 0) (mC (.int 1)))) (ĉ Ľ (ĉ Ě (ā 1) (mC (.int 1))) (ĉ Ě (ā 0) (mC (.int 2)))))) Ĝ)))))
def t_:MF:=ń 2 2 Ew
def Ey:M Fl:=(İ (bU (ą (ś (ą (ĝ 0) (ą (ĝ 1) (ą (ĝ 4) Ĝ)))) (ą (ś (ą (ĝ 2) (ą (ĝ 1) (ą (ĝ 4) Ĝ)))) (ą (ś (ą (ĝ 2) (ą (ĝ 3) (ą (ĝ 4) Ĝ)))) (ą (ś (ą (ĝ 0) (ą (ĝ 3) (ą (ĝ 4) Ĝ)))) Ĝ))))))
def wu:MF:=ń 5 5 Ey
def Ez:M Fl:=(İ (ļ ķ (ē (Đ wu (Ą 0 (Ą 1 (Ą 2 (Ą 3 (ď (mC (.int 0)) č))))))) (ē (Đ wu (Ą 0 (Ą 1 (Ą 2 (Ą 3 (Ą 4 č)))))))))
def BW:MF:=ń 5 5 Ez
def EY:M Fl:=(ġ (Ķ 1 (ş (ĉ Ľ (mC (.int 2)) (ĉ Ě (pD (dJ ["Thing","Post","Fence","Sail","Cloth","House"] "numbers") (ā 0)) (mC (.int 0))))))
 (ġ (Ķ 2 (ş (ĉ Ľ (mC (.int 2)) (ĉ Ě (pD (dJ ["Thing","Post","Fence","Sail","Cloth","House"] "numbers") (ā 0)) (mC (.int 1))))))
 (İ (Đ BW (ď (ĉ Ų (ā 1) (mC (.int 1))) (ď (ĉ Ų (ā 2) (mC (.int 1))) (ď (ē (ļ ķ (ā 1) (mC (.int 1)))) (ď (ē (ļ ķ (ā 2) (mC (.int 1)))) (ď (ĉ Ě (pD (dJ ["Thing","Post","Fence","Sail","Cloth","House"] "numbers") (ā 0)) (mC (.int 2))) č)))))))))
def qF:MF:=ń 1 3 EY
def E_:M Fl:=(ġ (Ķ 1 (ş (pD (dJ ["Thing","Post","Fence","Sail","Cloth","House"] "numbers") (ā 0))))
 (ġ (Ķ 2 (ş (ś (ą (ĉ Ě (ā 1) (mC (.int 0))) (ą (ĉ Ě (ā 1) (mC (.int 1))) Ĝ)))))
 (ġ (Ķ 3 (ş (ś (ą (ĉ Ě (ā 1) (mC (.int 2))) (ą (ĉ Ě (ā 1) (mC (.int 3))) Ĝ)))))
 (İ (bU (ą (ē (ļ ķ (ā 2) (ś (ą (mC (.int 0)) Ĝ)))) (ą (ē (ļ ķ (ā 3) (ś (ą (mC (.int 0)) Ĝ)))) (ą (ē (ļ ķ (ā 3) (ś (ą (ĉ Ě (ā 1) (mC (.int 4))) Ĝ)))) (ą (ē (ļ ķ (ā 2) (ś (ą (ĉ Ě (ā 1) (mC (.int 4))) Ĝ)))) Ĝ)))))))))
def qG:MF:=ń 1 4 E_
def Fb:M Fl:=(ġ (Ķ 1 (ş (pD (dJ ["Thing","Post","Fence","Sail","Cloth","House"] "numbers") (ā 0))))
 (İ (Đ wu (ď (ĉ Ě (ā 1) (mC (.int 0))) (ď (ĉ Ě (ā 1) (mC (.int 1))) (ď (ĉ Ě (ā 1) (mC (.int 2))) (ď (ĉ Ě (ā 1) (mC (.int 3))) (ď (ĉ Ě (ā 1) (mC (.int 4))) č))))))))
def qH:MF:=ń 1 2 Fb
def Fd:M Fl:=(İ (Š [0] 1 (au (ś (ą (mC (.int 0)) (ą (mC (.int 3)) (ą (mC (.int 6)) Ĝ))))) (gN 1) œ (dU sJ (ą (ē (Dj (pD (dJ ["Thing","Post","Fence","Sail","Cloth","House"] "numbers") (ā 0)) (mP (ĝ 1)) (mP (ē (ļ ķ (ā 1) (mC (.int 3))))))) Ĝ))))
def qI:MF:=ń 1 1 Fd
def Fe:M Fl:=(ġ (Ķ 1 (ş (pD (dJ ["Thing","Post","Fence","Sail","Cloth","House"] "numbers") (ā 0))))
 (İ (Đ BW (ď (ĉ Ě (ā 1) (mC (.int 0))) (ď (ĉ Ě (ā 1) (mC (.int 1))) (ď (ĉ Ě (ā 1) (mC (.int 2))) (ď (ĉ Ě (ā 1) (mC (.int 3))) (ď (ĉ Ě (ā 1) (mC (.int 4))) č))))))))
def qJ:MF:=ń 1 2 Fe
def Fg:M Fl:=(İ (Š [1] 1 (DQ (au (ē (sO "corners" [("Post",qF),("Fence",qG),("Sail",qH),("Cloth",qI),("House",qJ)] (ĝ 0) č)))) (gN 1) œ (ē (Đ t_ (Ą 1 (Ą 0 č))))))
def Ip:MF:=ń 2 2 Fg
def Fi:M Fl:=(İ (Đ t_ (ď (ś (ą (ĉ Ľ (mC (.int 2)) (ĉ Ě (ā 0) (mC (.int 0)))) (ą (ĉ Ľ (mC (.int 2)) (ĉ Ě (ā 0) (mC (.int 1)))) (ą (mC (.int 0)) Ĝ)))) (Ą 1 č))))
def Ir:MF:=ń 2 2 Fi
def Fj:M Fl:=(İ (Đ BR (ď (ē (Đ Ip (Ą 0 (Ą 2 č)))) (ď (ē (Đ Ir (Ą 1 (Ą 2 č)))) č))))
def Iu:MF:=ń 3 3 Fj
def zc:M Fl:=(İ (ş (ĉ aA (ĉ Ě (ē (Đ Iu (Ą 0 (Ą 1 (Ą 2 č))))) (mC (.int 0))) (mC (.str "in")))))
def qK:MF:=ń 3 3 zc
def zf:M Fl:=(İ (ş (gZ (ĉ iY (ā 2) (mC .non)) (ē (Đ qK (Ą 0 (Ą 1 (Ą 2 č))))))))
def wz:MF:=ń 3 3 zf
def Fo:M Fl:=(İ (Đ BK (ď (ē (Š [1,0] 3 (š 2) (gT 3 (Ğ (gN 2) (Ğ (gN 3) (Ğ (gN 4) Ť)))) œ (ē (Đ wz (Ą 0 (Ą 2 (ď (ĉ Ě (ē (Đ oJ (Ą 1 (Ą 3 č)))) (ā 4)) č))))))) č)))
def BX:MF:=ń 3 3 Fo
def zj:M Fl:=(gM (eE (ē (Đ qK (Ą 3 (Ą 2 (Ą 1 č))))))
 (İ (ş (mC (.bl true))))
 ig)
def uc:M Fl:=(ġ (gM (gW (ĉ xg (ā 1) (mC .non)))
 (İ (ş (mC (.bl true))))
 ig)
 (ġ (iu (au (pD (dJ ["Yard"] "things") (ā 0))) (gN 3) zj)
 (İ (ş (mC (.bl false))))))
def mL:MF:=ń 3 4 uc
def Fp:M Fl:=(İ (Đ BK (ď (ē (Š [0] 3 (š 1) (gT 3 (Ğ (gN 1) (Ğ (gN 2) (Ğ (gN 3) Ť)))) œ (ē (Đ mL (Ą 0 (ď (ĉ Ě (ē (Đ oJ (Ą 0 (Ą 2 č)))) (ā 3)) (Ą 1 č))))))) č)))
def Iv:MF:=ń 2 2 Fp
def zm:M Fl:=(ġ (vq (ē (Đ vX (Ą 0 (Ą 2 č)))))
 (ġ (Ķ 3 (Š [] 2 (š 1) (gT 2 (Ğ (gN 0) (Ğ (gN 1) Ť))) œ (ĝ 1)))
 (ġ (Ķ 4 (Š [0,2] 2 (š 1) (gT 2 (Ğ (gN 2) (Ğ (gN 3) Ť))) œ (ē (Đ BX (Ą 0 (Ą 2 (Ą 1 č)))))))
 (İ (Đ BJ (Ą 3 (Ą 4 (ď (dU fW (ą (ā 2) Ĝ)) (ď (ē (Đ Iv (Ą 0 (Ą 2 č)))) č)))))))))
def qL:MF:=ń 3 5 zm
def zp:M Fl:=(ġ (Ķ 3 (ş (mC .non)))
 (ġ (RW (vq (ē (Đ qL (Ą 0 (Ą 1 (Ą 2 č)))))) (rG 4 ["YardError","NoNumber","BadThing","NoStone","NoTurn","BadRow","NoRow","NoDay"] [] (Ķ 3 (ş (ĝ 4))) Ax))
 (İ (fJ 3))))
def kO:MF:=ń 3 5 zp
def mO:M Fl:=(ġ (Ķ 3 (ş (ĉ Ľ (ĉ Ń (ĉ aH (ā 0) (mC (.int 12))) (ĉ mD (mC (.int 10)) (mC (.int 9)))) (ĉ aH (ĉ Ń (ĉ aH (ā 0) (mC (.int 4))) (mC (.int 3))) (mC (.int 2))))))
 (ġ (Ķ 3 (ş (dU vB (ą (ā 3) (ą (ĉ Ų (ĉ mD (mC (.int 10)) (mC (.int 9))) (mC (.int 30))) Ĝ)))))
 (ġ (Ķ 4 (ş (ĉ Ě (ē (bU (ą (ē (ļ ķ (ĉ Ě (ā 1) (ĉ Ń (ā 0) (mC (.int 2)))) (ā 3))) (ą (ĉ Ų (ĉ Ų (mC (.int 0)) (mC (.int 1))) (ā 3)) Ĝ)))) (ĉ Ń (ĉ aH (ā 0) (mC (.int 2))) (mC (.int 2))))))
 (İ (ş (ĉ Ě (ē (bU (ą (ś (ą (ĝ 4) (ą (ĉ Ě (ā 2) (mC (.int 1))) Ĝ))) (ą (ś (ą (ĉ Ě (ā 2) (mC (.int 0))) (ą (ĝ 4) Ĝ))) Ĝ)))) (ĉ Ń (ā 0) (mC (.int 2)))))))))
def ud:MF:=ń 3 5 mO
def pX:M Fl:=(ġ (Ķ 2 (ş (ĉ Ľ (ĉ Ń (ĉ aH (ā 0) (mC (.int 2))) (ĉ mD (mC (.int 10)) (mC (.int 12)))) (ĉ Ń (ĉ aH (ā 0) (mC (.int 3))) (mC (.int 2))))))
 (İ (ş (ĉ Ě (ē (bU (ą (ē (ļ ķ (ā 1) (ā 2))) (ą (ĉ Ų (ĉ Ų (mC (.int 0)) (mC (.int 1))) (ā 2)) Ĝ)))) (ĉ Ń (ā 0) (mC (.int 2)))))))
def oM:MF:=ń 2 3 pX
def pY:M Fl:=(ġ (Jt (gS 3 (Ğ (gN 6) (Ğ (gN 7) (Ğ (gN 8) Ť)))) (ĝ 1))
 (ġ (Ķ 4 (ş (ĉ Ń (ā 0) (mC (.int 4)))))
 (ġ (Ķ 5 (ş (ĉ aH (ā 0) (mC (.int 4)))))
 (ġ (gM (Af (gW (ĉ aA (ā 4) (mC (.int 0)))) (gW (ĉ aA (ā 4) (mC (.int 3)))))
 (Ķ 6 (Đ ud (Ą 5 (Ą 2 (Ą 6 č)))))
 ig)
 (ġ (gM (Af (gW (ĉ aA (ā 4) (mC (.int 1)))) (gW (ĉ aA (ā 4) (mC (.int 3)))))
 (Ķ 7 (Đ oM (ď (ĉ aH (ā 5) (mC (.int 48))) (ď (dU fW (ą (ā 3) Ĝ)) č))))
 ig)
 (ġ (gM (gW (ĉ aA (ā 4) (mC (.int 2))))
 (Ķ 8 (Đ oM (Ą 5 (ď (dU fW (ą (ĉ Ě (ĉ Ě (ā 3) (ā 7)) (mC (.int 2))) Ĝ)) č))))
 ig)
 (İ (ş (ś (ą (ĝ 6) (ą (ĝ 7) (ą (ĝ 8) Ĝ))))))))))))
def uf:MF:=ń 4 9 pY
def nF:M Fl:=(ġ (Jt (gS 3 (Ğ (gN 3) (Ğ (gN 4) (Ğ (gN 5) Ť)))) (ĝ 1))
 (ġ (gM (Af (eE (dU (Br Za Zh Zm Zn) (ą (ā 0) (ą (ś (ą (mC (.cls "BadRow")) (ą (mC (.cls "BadThing")) (ą (mC (.cls "NoDay")) (ą (mC (.cls "NoNumber")) (ą (mC (.cls "NoRow")) Ĝ)))))) Ĝ)))) (gY (eE (dU (dX Za Zh Zm Zn) (ą (ā 0) (ą (mC (.ty "ValueError")) Ĝ))))))
 (İ (ş (mC (.bl false))))
 ig)
 (ġ (gM (Af (gY (gW (pF nj qO (mC (.int 0)) (ĉ Ě (ā 3) (mC (.int 0))) (ĉ Ě (ā 2) (mC (.int 0)))))) (gY (gW (pF nj qO (mC (.int 0)) (ĉ Ě (ā 3) (mC (.int 1))) (ĉ Ě (ā 2) (mC (.int 1)))))))
 (İ (ş (gZ (dU (dX Za Zh Zm Zn) (ą (ā 0) (ą (mC (.cls "NoStone")) Ĝ))) (gZ (Zbt (dU (dX Za Zh Zm Zn) (ą (ā 0) (ą (mC (.cls "NoTurn")) Ĝ)))) (ĉ aA (pD (kh ["NoStone"] "stone") (ĝ 0)) (ā 3))))))
 ig)
 (ġ (gM (Af (gY (eE (dU (dX Za Zh Zm Zn) (ą (ā 0) (ą (mC (.cls "NoTurn")) Ĝ))))) (eE (dU (dX Za Zh Zm Zn) (ą (ā 0) (ą (mC (.cls "NoStone")) Ĝ)))))
 (İ (ş (mC (.bl false))))
 ig)
 (İ (ş (gZ (ĉ aA (pD (kh ["NoTurn"] "day") (ĝ 0)) (ā 4)) (ĉ aA (pD (kh ["NoTurn"] "turn") (ĝ 0)) (ā 5)))))))))
def kW:MF:=ń 3 6 nF
def pZ:M Fl:=(wW 8 (ĉ Ě (ā 9) (ā 10)) (ē (Đ uf (ď (ē (Đ ao (Ą 0 (ď (ē (ļ ķ (mC (.int 14)) (ā 10))) č)))) (ď (ĉ Ě (ā 7) (ĉ Ě (ā 9) (ā 10))) (Ą 1 (Ą 4 č)))))))
def Fq:M Fl:=(ġ (Ķ 1 (Đ kE (ď (ē (Đ ao (Ą 0 (ď (mC (.int 0)) č)))) (ď (mC (.int 9)) č))))
 (ġ (Ķ 2 (Š [1] 1 (au (ē (Dj (ā 0) (mP (mC (.int 2))) (mP (mC (.int 4)))))) (gN 1) œ (ē (Đ kI (Ą 1 (ď (dU mH (ą (ā 0) Ĝ)) č))))))
 (ġ (Ķ 3 (Š [] 2 (š 2) (gT 2 (Ğ (gN 0) (Ğ (gN 1) Ť))) œ (ē (Đ iB (Ą 0 (ď (ē (pG fK (ą (ā 1) Ĝ))) č))))))
 (ġ (Ķ 4 (Đ vQ (Ą 0 (ď (mC (.int 4)) (ď (ē (ļ ķ (mC (.int 1)) (ĉ Ń (ē (Đ ao (Ą 0 (ď (mC (.int 1)) č)))) (mC (.int 3))))) (ď (mC (.int 4)) č))))))
 (ġ (Ķ 5 (ş (dW "Yard" oG (ď (ĉ Ě (ā 1) (mC (.int 0))) (ď (ĉ Ě (ā 1) (mC (.int 1))) (ď (ē (Dj (ā 3) (mP (mC (.int 1))) Ao)) (Ą 4 č)))))))
 (ġ (Ķ 6 (Š [] 1 (š 3) (gN 0) œ (ś (ą (ĝ 0) (ą (mC (.int 5)) Ĝ)))))
 (ġ (Ķ 7 (Š [1,4,0] 1 (DQ (bG bI (ą (ē (ļ ķ (mC (.int 1)) (ĉ Ń (ĉ aH (ē (Đ ao (Ą 0 (ď (mC (.int 1)) č)))) (mC (.int 3))) (mC (.int 5))))) Ĝ))) (gN 3) œ (ē (Đ Ea (ď (ē (Đ ao (Ą 2 (ď (ē (ļ ķ (mC (.int 7)) (ā 3))) č)))) (Ą 0 (Ą 1 č)))))))
 (ġ (gM (gW (ĉ iY (ē (Đ kO (Ą 5 (Ą 6 (Ą 7 č))))) (mC .non)))
 (İ (ş (mC (.bl false))))
 ig)
 (ġ (Ķ 8 (pG fK (ą (ā 7) Ĝ)))
 (ġ (Ķ 9 (bU (ą (ĉ Ń (ē (Đ ao (Ą 0 (ď (mC (.int 12)) č)))) (dU fW (ą (ā 7) Ĝ))) (ą (ĉ Ń (ē (Đ ao (Ą 0 (ď (mC (.int 13)) č)))) (dU fW (ą (ā 7) Ĝ))) Ĝ))))
 (ġ (iu (bG bI (ą (mC (.int 2)) Ĝ)) (gN 10) pZ)
 (ġ (gM (gY (eE (ē (Đ kW (ď (ē (Đ kO (Ą 5 (Ą 6 (Ą 8 č))))) (ď (ĉ Ě (ā 8) (dU nZ (ą (ā 9) Ĝ))) (Ą 1 č)))))))
 (İ (ş (mC (.bl false))))
 ig)
 (İ (ş (ĉ xg (ē (Đ kO (Ą 5 (Ą 6 (Ą 7 č))))) (mC .non))))))))))))))))
def wA:MF:=ń 1 11 Fq
set_option genInjectivity false
set_option genSizeOf false
structure zq where
 {Wd Wf Wg Wh Wi Ou Wj Wk Wm Wn Wo Wq jw Wr Ws ZeC ZeD Wu Wv ZeE Ww Wx Wy Wz WD WK WL Ov WM WQ WR WT WW WX WY W_ Xa Xb Xc Xd Xe ZeF Xf Xg Xh ZeG Xi Xj Xk Xl Xm Xn Xo Ow Ox Oz OD OJ Xp Xq Xr Xu Xw Xx Xy Xz XC XD ZeH XF XH XJ XM ZbQ ZbR ZeI ZeJ qM ug uh qb um uo Iw zu Ft zx Fv zy Fw zA zB:Addr}
 {XQ XR X_ Yb Yc Yd Ye Yg Yh Yi Yj Yk wB Yl Ym ZeK ZeL Yn Yo ZeM Yp Yq Yr Ys Yt Yu Yw Yx Yy Yz YB YC YD YF YG YH YJ YK YL YM YQ ZeN YT YW YX ZeO YZ Y_ Z_ Zaa Zab Zac Zad Zae Zaf Zag Zah Zai Zaj Zak Zal Zam Zan Zao Zap Zaq Zar Zas ZeP Zat Zau Zav O_ ZeQ ZeR Zhu Zhv:FuncData}
 {uT zE:Tok}
def Ĩ(a:zq):String->Addr:=cmB a.qM a.ug a.uh a.qb a.um a.uo a.Iw a.zu a.Ft a.zx a.Fv a.zy a.Fw a.zA a.zB
structure Tx(K:PySem.W.Frag)(mg:Str->Option Value)(a:zq):Prop where
 BZ:mg "YardError" =some (.ref a.qM)
 Fx:mg "NoNumber" =some (.ref a.ug)
 Fy:mg "BadThing" =some (.ref a.uh)
 JM:mg "NoStone" =some (.ref a.qb)
 Pa:mg "NoTurn" =some (.ref a.um)
 Pb:mg "BadRow" =some (.ref a.uo)
 Te:mg "NoRow" =some (.ref a.Iw)
 Tf:mg "NoDay" =some (.ref a.zu)
 ZbS:mg "Yard" =some (.ref a.Ft)
 ZfH:mg "Thing" =some (.ref a.zx)
 ZbT:mg "Post" =some (.ref a.Fv)
 Ti:mg "Fence" =some (.ref a.zy)
 ZbU:mg "Sail" =some (.ref a.Fw)
 Tj:mg "Cloth" =some (.ref a.zA)
 Tn:mg "House" =some (.ref a.zB)
 gj:Df K mg "_law_size" Uy ["_law_cell","_law_most"] a.Wd a.XQ
 Į:Df K mg "_law_at" Uz ["_law_script","_law_k"] a.Wf a.XR
 ŗ:Df K mg "_law_grains" UG ["_law_cell","_law_many"] a.Wg a.X_
 jf:Df K mg "_law_sky" UJ ["_law_xs"] a.Wh a.Yb
 gk:Df K mg "_law_days" NK ["_law_script","_law_start","_law_many","_law_long"] a.Wi a.Yc
 jx:Dm K a.Ft "__init__" "Yard.__init__" NP ["self","width","height","things","days"] a.Ou a.Yd
 Ŵ:Df K mg "_law_height" UL ["_law_number"] a.Wj a.Ye
 ľ:Df K mg "_law_place" UW ["_law_number","_law_wide"] a.Wk a.Yg
 eU:Df K mg "_law_thing" NQ ["_law_cell","_law_wide"] a.Wm a.Yh
 ő:Df K mg "is_place" U_ ["number"] a.Wn a.Yi
 aY:Df K mg "is_height" Va ["number"] a.Wo a.Yj
 eV:Df K mg "makes_post" Vb ["numbers"] a.Wq a.Yk
 ň:Dm K a.zx "__init__" "Thing.__init__" Vc ["self","word","numbers"] a.jw a.wB
 ŧ:Df K mg "has_two_ends" NT ["numbers"] a.Wr a.Yl
 cX:Df K mg "makes_fence" Vd ["numbers"] a.Ws a.Ym
 ŋ:Df K mg "makes_sail_or_house" Zeu ["numbers"] a.ZeC a.ZeK
 aN:Df K mg "is_cloth_corner" Zev ["numbers"] a.ZeD a.ZeL
 cY:Df K mg "makes_cloth" NZ ["numbers"] a.Wu a.Yn
 jg:Df K mg "thing_of" Ve ["word","numbers"] a.Wv a.Yo
 bB:Df K mg "_law_good_want" Zew ["_law_cell","_law_size_here","_law_days_here"] a.ZeE a.ZeM
 gn:Df K mg "has_stone" Vf ["yard","stone"] a.Ww a.Yp
 cZ:Df K mg "check_stone" Vg ["yard","stone"] a.Wx a.Yq
 lO:Df K mg "has_day" Vh ["yard","day"] a.Wy a.Yr
 ŵ:Df K mg "turns_of" Vi ["yard","day"] a.Wz a.Ys
 eX:Df K mg "check_turn" Vj ["yard","day","turn"] a.WD a.Yt
 dg:Df K mg "check_wants" Vk ["yard","wants"] a.WK a.Yu
 bJ:Df K mg "chosen" N_ ["values","choice"] a.WL a.Yw
 jh:Df K mg "cheapest" Oa ["prices","choices"] a.Ov a.Yx
 bM:Df K mg "least_missing" Vl ["met","many"] a.WM a.Yy
 oN:Df K mg "met_by" Vm ["covers","choice","base"] a.WQ a.Yz
 cF:Dd K mg "least_choice" HY ["prices","covers","many","base"] 0 a.WR a.YB
 Ŷ:Df K mg "set_of_true" Vn ["truths"] a.WT a.YC
 gq:Df K mg "box_lines" H_ ["points"] a.WW a.YD
 gw:Df K mg "each_once" Vo ["points"] a.WX a.YF
 cG:Df K mg "line_through" Vp ["one","other"] a.WY a.YG
 ji:Df K mg "holds" Vq ["line","pair"] a.W_ a.YH
 eY:Df K mg "edge_lines" Ob ["points"] a.Xa a.YJ
 dh:Df K mg "lines_about" Vr ["points"] a.Xb a.YK
 cH:Df K mg "parting_line" Vs ["points","point"] a.Xc a.YL
 ŷ:Df K mg "pairs_below" Oc ["many"] a.Xd a.YM
 bN:Df K mg "triples_below" Od ["many"] a.Xe a.YQ
 aB:Df K mg "greatest_divisor" Zex ["one","other"] a.ZeF a.ZeN
 jj:Df K mg "ratio" Vt ["top","bottom"] a.Xf a.YT
 bK:Df K mg "spread" Oe ["shares","places","many"] a.Xg a.YW
 bL:Df K mg "turned" Vu ["one","other","third"] a.Xh a.YX
 aO:Df K mg "shares_of_three" Zey ["corners","point"] a.ZeG a.ZeO
 Ÿ:Df K mg "are_weights" Og ["shares"] a.Xi a.YZ
 bO:Df K mg "shares_of_two" Vv ["ends","point"] a.Xj a.Y_
 eZ:Df K mg "weights_of" Ia ["points","point"] a.Xk a.Z_
 zF:Df K mg "held" Vw ["points","point"] a.Xl a.Zaa
 nG:Df K mg "cast" Vx ["point","ray"] a.Xm a.Zab
 Ŏ:Df K mg "level_corners" Vy ["x","y","u","v","z"] a.Xn a.Zac
 ţ:Df K mg "block_corners" Vz ["x","y","u","v","h"] a.Xo a.Zad
 kY:Dm K a.Fv "corners" "Post.corners" VB ["self"] a.Ow a.Zae
 jy:Dm K a.zy "corners" "Fence.corners" VD ["self"] a.Ox a.Zaf
 kZ:Dm K a.Fw "corners" "Sail.corners" VF ["self"] a.Oz a.Zag
 jz:Dm K a.zA "corners" "Cloth.corners" Oh ["self"] a.OD a.Zah
 jA:Dm K a.zB "corners" "House.corners" VG ["self"] a.OJ a.Zai
 cI:Df K mg "corner_casts" Oi ["thing","ray"] a.Xp a.Zaj
 fj:Df K mg "stone_cast" VH ["stone","ray"] a.Xq a.Zak
 lQ:Df K mg "shading" VJ ["thing","stone","ray"] a.Xr a.Zal
 fO:Df K mg "shades" VL ["thing","stone","ray"] a.Xu a.Zam
 dj:Df K mg "gives_shade" VN ["thing","stone","turn"] a.Xw a.Zan
 cJ:Df K mg "met_by_thing" Oj ["yard","thing","wants"] a.Xx a.Zao
 lR:Df K mg "is_dark" VP ["yard","turn","stone"] a.Xy a.Zap
 dw:Df K mg "met_at_once" Ol ["yard","wants"] a.Xz a.Zaq
 gA:Df K mg "keep_dark" Ib ["yard","offers","wants"] a.XC a.Zar
 Ŕ:Df K mg "_law_refused" VR ["_law_yard","_law_offers","_law_wants"] a.XD a.Zas
 Ž:Df K mg "_law_stone_beside" Zez ["_law_cell","_law_size_here","_law_stone"] a.ZeH a.ZeP
 aZ:Df K mg "_law_none" V_ ["_law_cell","_law_many"] a.XF a.Zat
 bQ:Df K mg "_law_odd_want" Wa ["_law_cell","_law_want","_law_size_here","_law_days_here"] a.XH a.Zau
 gB:Df K mg "_law_said" Wb ["_law_caught","_law_want","_law_size_here"] a.XJ a.Zav
 Ph:Df K mg "law" vP ["_law_script"] a.XM a.O_
 fP:Dm K a.qb "__init__" "NoStone.__init__" ZeA ["self","stone"] a.ZbQ a.ZeQ
 gC:Dm K a.um "__init__" "NoTurn.__init__" ZeB ["self","day","turn"] a.ZbR a.ZeR
 Iz:Dm K a.uo "__init__" "BadRow.__init__" Zhs ["self","row"] a.ZeI a.Zhu
 JN:Dm K a.zu "__init__" "NoDay.__init__" Zht ["self","name"] a.ZeJ a.Zhv
 mQ:mg "MOST_HEIGHT" =some (.int (1000000000) a.uT)
 oO:mg "MOST_PLACE" =some (.int (1000000000) a.zE)
 zG:mg "ValueError" =none
 ZeS:mg "abs" =none
 IK:mg "all" =none
 k_:mg "enumerate" =none
 ZeT:mg "int" =none
 bC:mg "isinstance" =none
 fQ:mg "len" =none
 jk:mg "list" =none
 Pj:mg "max" =none
 ur:mg "min" =none
 bR:mg "range" =none
 IV:mg "sum" =none
 Tp:mg "tuple" =none
 ZeU:mg "zip" =none
 Zaw:PySem.W.excIn K (Ĩ a "YardError") HB nwV=true
 Zax:PySem.W.keepIn K (.ref (Ĩ a "YardError"))=true
 Zay:aX K (Ĩ a "YardError")=true
 Fz:PySem.W.excIn K (Ĩ a "NoNumber") HB nwV=true
 ZbV:PySem.W.keepIn K (.ref (Ĩ a "NoNumber"))=true
 ZbW:aX K (Ĩ a "NoNumber")=true
 FJ:PySem.W.excIn K (Ĩ a "BadThing") HB nwV=true
 ZbX:PySem.W.keepIn K (.ref (Ĩ a "BadThing"))=true
 ZbY:aX K (Ĩ a "BadThing")=true
 JQ:XMk K (Ĩ a "NoStone") a.ZbQ
 wC:aX K (Ĩ a "NoStone")=true
 jB:Ņ K (Ĩ a "NoStone") "stone"
 Pk:XMk K (Ĩ a "NoTurn") a.ZbR
 oR:aX K (Ĩ a "NoTurn")=true
 oU:Ņ K (Ĩ a "NoTurn") "day"
 mR:Ņ K (Ĩ a "NoTurn") "turn"
 ZeV:XMk K (Ĩ a "BadRow") a.ZeI
 ZeW:aX K (Ĩ a "BadRow")=true
 Tq:Ņ K (Ĩ a "BadRow") "row"
 ZfI:PySem.W.excIn K (Ĩ a "NoRow") HB nwV=true
 ZfJ:PySem.W.keepIn K (.ref (Ĩ a "NoRow"))=true
 ZfK:aX K (Ĩ a "NoRow")=true
 ZfL:XMk K (Ĩ a "NoDay") a.ZeJ
 ZfM:aX K (Ĩ a "NoDay")=true
 Tr:Ņ K (Ĩ a "NoDay") "name"
 jl:Cls K (Ĩ a "Yard")
 ZbZ:Mk K (Ĩ a "Yard") a.Ou
 oV:Ņ K (Ĩ a "Yard") "width"
 mV:Ņ K (Ĩ a "Yard") "height"
 mW:Ņ K (Ĩ a "Yard") "things"
 lq:Ņ K (Ĩ a "Yard") "days"
 ų:Cls K (Ĩ a "Thing")
 ZfN:Mk K (Ĩ a "Thing") a.jw
 cL:Ņ K (Ĩ a "Thing") "word"
 Ŀ:Ņ K (Ĩ a "Thing") "numbers"
 aL:Cls K (Ĩ a "Post")
 Zb0:Mk K (Ĩ a "Post") a.jw
 dH:Ņ K (Ĩ a "Post") "word"
 ņ:Ņ K (Ĩ a "Post") "numbers"
 uw:Meth K (Ĩ a "Post") "corners" a.Ow
 ũ:Cls K (Ĩ a "Fence")
 Tt:Mk K (Ĩ a "Fence") a.jw
 cM:Ņ K (Ĩ a "Fence") "word"
 ŀ:Ņ K (Ĩ a "Fence") "numbers"
 qW:Meth K (Ĩ a "Fence") "corners" a.Ox
 aM:Cls K (Ĩ a "Sail")
 Zb1:Mk K (Ĩ a "Sail") a.jw
 dI:Ņ K (Ĩ a "Sail") "word"
 Ň:Ņ K (Ĩ a "Sail") "numbers"
 ux:Meth K (Ĩ a "Sail") "corners" a.Oz
 Ū:Cls K (Ĩ a "Cloth")
 Tw:Mk K (Ĩ a "Cloth") a.jw
 cN:Ņ K (Ĩ a "Cloth") "word"
 Ł:Ņ K (Ĩ a "Cloth") "numbers"
 qX:Meth K (Ĩ a "Cloth") "corners" a.OD
 ū:Cls K (Ĩ a "House")
 Tz:Mk K (Ĩ a "House") a.jw
 cO:Ņ K (Ĩ a "House") "word"
 ł:Ņ K (Ĩ a "House") "numbers"
 qY:Meth K (Ĩ a "House") "corners" a.OJ
 FN:ZbO K "cheapest" a.Ov=true
 B_:PySem.W.mroIn K (Ĩ a "YardError") (.type "BaseException")=some true
 zH:iZ (λc=>PySem.W.kitCls K (.ref (Ĩ a c)) (.ref (Ĩ a "YardError"))=some true) ["YardError","NoNumber","BadThing","NoStone","NoTurn","BadRow","NoRow","NoDay"]
 zJ:iZ (λc=>PySem.W.kitCls K (.ref (Ĩ a c)) (.ref (Ĩ a "YardError"))=some false) []
 iC:qR (λC D b=>cD K (Ĩ a C)=true/\PySem.W.kitOne K (.ref (Ĩ a C)) (.ref (Ĩ a D))=some b) Za
 iT:qR (λC D b=>cD K (Ĩ a C)=true/\PySem.W.kitOne K (.ref (Ĩ a C)) (.type D)=some b) Zh
 iD:iZ (λD=>PySem.W.kitOne K (.type "NoneType") (.ref (Ĩ a D))=some false) Zm
 iN:iZ (λD=>PySem.W.kitOne K (.type "NoneType") (.type D)=some false) Zn
def Z0k{K:PySem.W.Frag}{mg:Str->Option Value}{a:zq}(T:Tx K mg a):mg "YardError" =some (.ref (Ĩ a "YardError")):=T.BZ
def ZZ{K:PySem.W.Frag}{mg:Str->Option Value}{a:zq}(T:Tx K mg a):mg "NoNumber" =some (.ref (Ĩ a "NoNumber")):=T.Fx
def Z00{K:PySem.W.Frag}{mg:Str->Option Value}{a:zq}(T:Tx K mg a):mg "BadThing" =some (.ref (Ĩ a "BadThing")):=T.Fy
def ZD{K:PySem.W.Frag}{mg:Str->Option Value}{a:zq}(T:Tx K mg a):mg "NoStone" =some (.ref (Ĩ a "NoStone")):=T.JM
def ZN{K:PySem.W.Frag}{mg:Str->Option Value}{a:zq}(T:Tx K mg a):mg "NoTurn" =some (.ref (Ĩ a "NoTurn")):=T.Pa
def Z15{K:PySem.W.Frag}{mg:Str->Option Value}{a:zq}(T:Tx K mg a):mg "BadRow" =some (.ref (Ĩ a "BadRow")):=T.Pb
def Z1x{K:PySem.W.Frag}{mg:Str->Option Value}{a:zq}(T:Tx K mg a):mg "NoRow" =some (.ref (Ĩ a "NoRow")):=T.Te
def Z1y{K:PySem.W.Frag}{mg:Str->Option Value}{a:zq}(T:Tx K mg a):mg "NoDay" =some (.ref (Ĩ a "NoDay")):=T.Tf
def Z2b{K:PySem.W.Frag}{mg:Str->Option Value}{a:zq}(T:Tx K mg a):mg "Yard" =some (.ref (Ĩ a "Yard")):=T.ZbS
def Z2c{K:PySem.W.Frag}{mg:Str->Option Value}{a:zq}(T:Tx K mg a):mg "Post" =some (.ref (Ĩ a "Post")):=T.ZbT
def Z1z{K:PySem.W.Frag}{mg:Str->Option Value}{a:zq}(T:Tx K mg a):mg "Fence" =some (.ref (Ĩ a "Fence")):=T.Ti
def Z2d{K:PySem.W.Frag}{mg:Str->Option Value}{a:zq}(T:Tx K mg a):mg "Sail" =some (.ref (Ĩ a "Sail")):=T.ZbU
def Z1A{K:PySem.W.Frag}{mg:Str->Option Value}{a:zq}(T:Tx K mg a):mg "Cloth" =some (.ref (Ĩ a "Cloth")):=T.Tj
def Z1B{K:PySem.W.Frag}{mg:Str->Option Value}{a:zq}(T:Tx K mg a):mg "House" =some (.ref (Ĩ a "House")):=T.Tn
def Pn:Ė ["_law_cell","_law_most","_law_width"] ["_law_cell","_law_most"] (ć Uy):=aK
def Zb2:Ė ["_law_script","_law_k"] ["_law_script","_law_k"] (ć Uz):=aK
def nH:Ė ["_law_cell","_law_many","_law_found","_law_number","_law_k"] ["_law_cell","_law_many"] (ć UG):=aK
def Pq:Ė ["_law_xs","_law_scale"] ["_law_xs"] (ć UJ):=aK
def lu:Ė ["_law_script","_law_start","_law_many","_law_long","_law_names","_law_turned","_law_days_here","_law_k","_law_xs","_law_turns"] ["_law_script","_law_start","_law_many","_law_long"] (ć NK):=aK
def Zb3:Ė ["self","width","height","things","days"] ["self","width","height","things","days"] (ć NP):=aK
def Zb4:Ė ["_law_number"] ["_law_number"] (ć UL):=aK
def Zb5:Ė ["_law_number","_law_wide"] ["_law_number","_law_wide"] (ć UW):=aK
def lA:Ė ["_law_cell","_law_wide","_law_xs","_law_h","_law_kind","_law_x","_law_y","_law_u","_law_v"] ["_law_cell","_law_wide"] (ć NQ):=aK
def Zb6:Ė ["number"] ["number"] (ć U_):=aK
def Zb7:Ė ["number"] ["number"] (ć Va):=aK
def Zb8:Ė ["numbers"] ["numbers"] (ć Vb):=aK
def uy:Ė ["self","word","numbers"] ["self","word","numbers"] (ć Vc):=aK
def Zb9:Ė ["numbers"] ["numbers"] (ć NT):=aK
def Zb_:Ė ["numbers"] ["numbers"] (ć Vd):=aK
def ZeX:Ė ["numbers"] ["numbers"] (ć Zeu):=aK
def ZeY:Ė ["numbers"] ["numbers"] (ć Zev):=aK
def Zca:Ė ["numbers"] ["numbers"] (ć NZ):=aK
def Zcb:Ė ["word","numbers"] ["word","numbers"] (ć Ve):=aK
def Pr:Ė ["_law_cell","_law_size_here","_law_days_here","_law_xs","_law_day"] ["_law_cell","_law_size_here","_law_days_here"] (ć Zew):=aK
def Zcc:Ė ["yard","stone"] ["yard","stone"] (ć Vf):=aK
def Zcd:Ė ["yard","stone"] ["yard","stone"] (ć Vg):=aK
def Zce:Ė ["yard","day"] ["yard","day"] (ć Vh):=aK
def Zcf:Ė ["yard","day"] ["yard","day"] (ć Vi):=aK
def Zcg:Ė ["yard","day","turn"] ["yard","day","turn"] (ć Vj):=aK
def zK:Ė ["yard","wants","stone","day","turn"] ["yard","wants"] (ć Vk):=aK
def Zch:Ė ["values","choice"] ["values","choice"] (ć N_):=aK
def Zci:Ė ["prices","choices"] ["prices","choices"] (ć Oa):=aK
def Pu:Ė ["met","many","want"] ["met","many"] (ć Vl):=aK
def zL:Ė ["covers","choice","base","met","cover"] ["covers","choice","base"] (ć Vm):=aK
def FP:Ė ["prices","covers","many","base","paper","choice"] ["prices","covers","many","base"] (ć HY):=aK
def uz:Ė ["truths","bits","number","truth"] ["truths"] (ć Vn):=aK
def FQ:Ė ["points","rights","downs"] ["points"] (ć H_):=aK
def FT:Ė ["points","kept","point"] ["points"] (ć Vo):=aK
def FW:Ė ["one","other","l","m"] ["one","other"] (ć Vp):=aK
def Zcj:Ė ["line","pair"] ["line","pair"] (ć Vq):=aK
def qd:Ė ["points","lines","apart","one","other","line"] ["points"] (ć Ob):=aK
def Zck:Ė ["points"] ["points"] (ć Vr):=aK
def Px:Ė ["points","point","line"] ["points","point"] (ć Vs):=aK
def FZ:Ė ["many","pairs","second"] ["many"] (ć Oc):=aK
def Ga:Ė ["many","triples","third"] ["many"] (ć Od):=aK
def IW:Ė ["one","other","rest"] ["one","other"] (ć Zex):=aK
def Gb:Ė ["top","bottom","divisor"] ["top","bottom"] (ć Vt):=aK
def uD:Ė ["shares","places","many","whole","weights","share","place"] ["shares","places","many"] (ć Oe):=aK
def Py:Ė ["one","other","third","right"] ["one","other","third"] (ć Vu):=aK
def I_:Ė ["corners","point","one","other","third"] ["corners","point"] (ć Zey):=aK
def Pz:Ė ["shares","whole"] ["shares"] (ć Og):=aK
def zM:Ė ["ends","point","right","down","gone"] ["ends","point"] (ć Vv):=aK
def qe:Ė ["points","point","many","places","shares"] ["points","point"] (ć Ia):=aK
def PJ:Ė ["points","point","line"] ["points","point"] (ć Vw):=aK
def Zcl:Ė ["point","ray"] ["point","ray"] (ć Vx):=aK
def Zcm:Ė ["x","y","u","v","z"] ["x","y","u","v","z"] (ć Vy):=aK
def Zcn:Ė ["x","y","u","v","h"] ["x","y","u","v","h"] (ć Vz):=aK
def Gd:Ė ["self","right","down"] ["self"] (ć VB):=aK
def zN:Ė ["self","given","one","other"] ["self"] (ć VD):=aK
def PK:Ė ["self","given"] ["self"] (ć VF):=aK
def Zco:Ė ["self"] ["self"] (ć Oh):=aK
def PN:Ė ["self","given"] ["self"] (ć VG):=aK
def Zcp:Ė ["thing","ray"] ["thing","ray"] (ć Oi):=aK
def Zcq:Ė ["stone","ray"] ["stone","ray"] (ć VH):=aK
def Zcr:Ė ["thing","stone","ray"] ["thing","stone","ray"] (ć VJ):=aK
def Zcs:Ė ["thing","stone","ray"] ["thing","stone","ray"] (ć VL):=aK
def Zct:Ė ["thing","stone","turn"] ["thing","stone","turn"] (ć VN):=aK
def Zcu:Ė ["yard","thing","wants"] ["yard","thing","wants"] (ć Oj):=aK
def P_:Ė ["yard","turn","stone","thing"] ["yard","turn","stone"] (ć VP):=aK
def Zcv:Ė ["yard","wants"] ["yard","wants"] (ć Ol):=aK
def Ge:Ė ["yard","offers","wants","prices","covers"] ["yard","offers","wants"] (ć Ib):=aK
def zO:Ė ["_law_yard","_law_offers","_law_wants","_law_caught","e"] ["_law_yard","_law_offers","_law_wants"] (ć VR):=aK
def Ja:Ė ["_law_cell","_law_size_here","_law_stone","_law_far","_law_odd"] ["_law_cell","_law_size_here","_law_stone"] (ć Zez):=aK
def Qa:Ė ["_law_cell","_law_many","_law_far"] ["_law_cell","_law_many"] (ć V_):=aK
def jm:Ė ["_law_cell","_law_want","_law_size_here","_law_days_here","_law_kind","_law_rest","_law_stone","_law_day","_law_turn"] ["_law_cell","_law_want","_law_size_here","_law_days_here"] (ć Wa):=aK
def zP:Ė ["_law_caught","_law_want","_law_size_here","_law_stone","_law_day","_law_turn"] ["_law_caught","_law_want","_law_size_here"] (ć Wb):=aK
def fU:Ė ["_law_script","_law_size_here","_law_drawn","_law_some","_law_days_here","_law_yard","_law_offers","_law_wants","_law_odd","_law_places","_law_k"] ["_law_script"] (ć vP):=aK
def ZeZ:Ė ["self","stone"] ["self","stone"] (ć ZeA):=aK
def Ze0:Ė ["self","day","turn"] ["self","day","turn"] (ć ZeB):=aK
section
variable{P:Program}{w:World}{K:PySem.W.Frag}{mg:Str->Option Value}{base:Heap}{a:zq}
def Ze1(T:Tx K mg a):ī P w K mg base (Ů P w) 1 a.ZbQ a.ZeQ ["self","stone"] (spX 2 (Ĩ a "NoStone") [("stone",1)]):=
 fnX T.fP.F ZeZ rfl λcdv A outer s H E=>(xO (MN T.wC T.jB (pv 0) (pv 1)) MP)
def Ze2(T:Tx K mg a):ī P w K mg base (Ů P w) 1 a.ZbR a.ZeR ["self","day","turn"] (spX 3 (Ĩ a "NoTurn") [("day",1),("turn",2)]):=
 fnX T.gC.F Ze0 rfl λcdv A outer s H E=>(xO (MN T.oR T.oU (pv 0) (pv 1)) (xO (MN T.oR T.mR (pv 0) (pv 2)) MP))
def Zcw(T:Tx K mg a):ī P w K mg base (Ů P w) 1 a.Wd a.XQ ["_law_cell","_law_most"] (ż ⟨K,Ĩ a⟩ 2 kE):=by
 refine bA (cm:=Ĩ a) (mb:=jd) T.gj.F Pn rfl rfl rfl λcdv A outer s H E hr=>?_
 have hu:=hr.units
 exact(ċ (aF (PW.pt (w_and (Ŧ Ż (ř hu) (Ā (đ ĸ ĵ (Ā (đ ŭ Ś (ă 0) (Ā Ă))) (Ā Ă))) (Ā Ă) (Ĺ _)) (m_ (Ŧ ZdU ZdF (ă 1) (Ā Ă) (Ĺ _)))))
  (Č (ĥ (į (ģ ĕ Ĕ (Ā (ę (ź (Ĉ (Ő (Ĉ Ă (Ĉ Ă ħ))) (Ĉ (Ő (Ĉ Ă (Ĉ Ă ħ))) ħ))))) (Ā (đ ĸ ĵ (ă 0) (Ā Ă))) (λ_ _=>rfl)))))
  ŉ)
  (ċ (Ĭ (i:=2) Pn.nd rfl (Or.inl rfl) (Ō ĳ Ĳ (Ā Ă) (Ā (đ ĸ ĵ (ă 0) (Ā (PE.wk (ĩ (wL rfl) (by rfl) T.ur PyProof.Rows.boot_min (ğ (Ā Ă) (ğ (ă 1) ĭ))) λ_ _ _ h=>ak xq h))))))
  (Č (ĥ (į (Ő (Ĉ (v_var 2) (Ĉ (ę (Ō ĳ Ĳ (Ā Ă) (Ā (đ ĸ ĵ (Ā (đ ŭ Ś (ă 0) (Ā Ă))) (Ā (PE.wk (ĩ (wL rfl) (by rfl) T.ur PyProof.Rows.boot_min (ğ (Ā Ă) (ğ (Ā (đ ŭ Ś (ă 1) (ă 2))) ĭ))) λ_ _ _ h=>ak xq h)))))) ħ))))))))
def jo(T:Tx K mg a):ī P w K mg base (Ů P w) 1 a.Wf a.XR ["_law_script","_law_k"] (ż ⟨K,Ĩ a⟩ 2 ao):=by
 refine bA (cm:=Ĩ a) (mb:=yr) T.Į.F Zb2 rfl rfl rfl λcdv A outer s H E hr=>?_
 have hu:=hr.units
 exact(ċ (aF (Ŧ mF lZ (ă 1) (Ā (PE.wk (ĩ bT (by rfl) T.fQ PySem.boot_len (ğ (ă 0) ĭ)) λ_ _ _ h=>ak bY h)) (Ĺ _))
  (Č (ĥ (į (ģ ĕ Ĕ (ă 0) (ă 1) (λ_ _=>rfl)))))
  ŉ)
  (Č (ĥ (į Ă))))
def Gf(T:Tx K mg a):ī P w K mg base (Ů P w) 1 a.Wg a.X_ ["_law_cell","_law_many"] (ż ⟨K,Ĩ a⟩ 2 oE):=by
 refine bA (cm:=Ĩ a) (mb:=yu) T.ŗ.F nH rfl rfl rfl λcdv A outer s H E hr=>?_
 have hu:=hr.units
 exact(ċ (Ĭ (i:=2) nH.nd rfl (Or.inl rfl) (ź ħ))
  (ċ (Ĭ (i:=3) nH.nd rfl (Or.inl rfl) (į (đ ŭ Ś (ă 0) (Ā Ă))))
  (ċ (aF (Ŧ Ż (ř hu) (Ā (đ ĸ ĵ (ă 0) (Ā Ă))) (Ā Ă) (Ĺ _))
  (Č (Ĭ (i:=3) nH.nd rfl (Or.inl rfl) (į (đ ĸ ĵ (ă 3) (Ā Ă)))))
  ŉ)
  (ċ (dF PassesOwn.leaving rfl (aG rfl T.bR (Ĉ (v_var 1) ħ)) (Ħ (i:=4) nH.nd rfl (Or.inl rfl))
  (Č (aF (Ŧ Ż (ř hu) (Ā (đ ĸ ĵ (ă 0) (Ā Ă))) (Ā Ă) (Ĺ _))
  (ċ (PS.wk (fX (rQ PySem.F.plainAttrs_list PySem.F.slot_list_append PySem.F.type_list_append cR (pv 2) (Ĉ (đ ĸ ĵ (ă 3) (Ā Ă)) ħ))) λ_ _ _ h=>nU h)
  (Č (Ĭ (i:=3) nH.nd rfl (Or.inl rfl) (į (đ ŭ Ś (ă 3) (Ā Ă))))))
  (ċ (Ĭ (i:=3) nH.nd rfl (Or.inl rfl) (į (đ ĸ ĵ (Ā (ę (Ō ĳ Ĳ (Ā (ę (Ō ĳ Ĳ (Ā (đ ō Ļ (ă 3) (Ā Ă))) (Ā Ă)))) (Ā (đ ō Ļ (Ā Ă) (ă 4)))))) (Ā Ă))))
  (Č (PS.wk (fX (rQ PySem.F.plainAttrs_list PySem.F.slot_list_append PySem.F.type_list_append cR (pv 2) (Ĉ (đ ŭ Ś (ă 3) (Ā Ă)) ħ))) λ_ _ _ h=>nU h))))))
  (Č (ĥ (jq 2)))))))
def Zcx(T:Tx K mg a):ī P w K mg base (Ů P w) 1 a.Wh a.Yb ["_law_xs"] (ż ⟨K,Ĩ a⟩ 1 tE):=by
 refine bA (cm:=Ĩ a) (mb:=yx) T.jf.F Pq rfl rfl rfl λcdv A outer s H E hr=>?_
 have hu:=hr.units
 exact(@ċ _ _ _ _ _ _ _ (@aF _ _ _ _ _ _ _ _ _ _ (@Ŧ _ _ _ _ _ _ _ _ _ _ _ (@Ż _) (@ř _ hu) (@Ā _ _ _ _ _ (@đ _ _ _ _ _ _ _ _ _ _ _ (@ĸ _) (@ĵ _) (@Ā _ _ _ _ _ (@ģ _ _ _ _ _ _ _ _ _ _ (@ĕ _) (@Ĕ _) (@ă _ _ _ 0 _ _ (by rfl) (by first|exact Or.inl rfl|exact Or.inr (Or.inl rfl)|exact Or.inr (Or.inr rfl)) (by decide) (by decide)) (@Ā _ _ _ _ _ (@Ă _ _ _ _ _ _)) (λ_ _=>rfl))) (@Ā _ _ _ _ _ (@Ă _ _ _ _ _ _)))) (@Ā _ _ _ _ _ (@Ă _ _ _ _ _ _)) (Ĺ _)) (@Č _ _ _ _ _ (@ĥ _ _ _ _ _ _ (@į _ _ _ _ _ (@jP _ _ _ _ _)))) (@ŉ _ _ _)) (@ċ _ _ _ _ _ _ _ (@Ĭ _ _ _ _ _ _ 1 _ _ Pq.nd rfl (Or.inl rfl) (@į _ _ _ _ _ (@ģ _ _ _ _ _ _ _ _ _ _ (@ĕ _) (@Ĕ _) (@Ā _ _ _ _ _ (@ę _ _ _ _ _ (@ź _ _ _ _ _ _ (@Ĉ _ _ _ _ _ _ _ (@Ă _ _ _ _ _ _) (@Ĉ _ _ _ _ _ _ _ (@Ă _ _ _ _ _ _) (@Ĉ _ _ _ _ _ _ _ (@Ă _ _ _ _ _ _) (@Ĉ _ _ _ _ _ _ _ (@đ _ _ _ _ _ _ _ _ _ _ _ (@jX _) (@jK _) (@Ā _ _ _ _ _ (@Ă _ _ _ _ _ _)) (@Ā _ _ _ _ _ (@Ă _ _ _ _ _ _))) (@ħ _ _ _) (by exact Ĵ rfl)) (by exact Ĵ rfl)) (by exact Ĵ rfl)) (by exact Ĵ rfl))))) (@Ā _ _ _ _ _ (@đ _ _ _ _ _ _ _ _ _ _ _ (@ĸ _) (@ĵ _) (@Ā _ _ _ _ _ (@ģ _ _ _ _ _ _ _ _ _ _ (@ĕ _) (@Ĕ _) (@ă _ _ _ 0 _ _ (by rfl) (by first|exact Or.inl rfl|exact Or.inr (Or.inl rfl)|exact Or.inr (Or.inr rfl)) (by decide) (by decide)) (@Ā _ _ _ _ _ (@Ă _ _ _ _ _ _)) (λ_ _=>rfl))) (@Ā _ _ _ _ _ (@Ă _ _ _ _ _ _)))) (λ_ _=>rfl))) (by rfl) (by first|exact .inl rfl|exact .inr rfl|assumption)) (@Č _ _ _ _ _ (@ĥ _ _ _ _ _ _ (@į _ _ _ _ _ (@Ő _ _ _ _ _ _ _ (@Ĉ _ _ _ _ _ _ _ (@đ _ _ _ _ _ _ _ _ _ _ _ (@ō _) (@Ļ _) (@Ā _ _ _ _ _ (@đ _ _ _ _ _ _ _ _ _ _ _ (@Ş _) (@Ŝ _) (@Ā _ _ _ _ _ (@đ _ _ _ _ _ _ _ _ _ _ _ (@ĸ _) (@ĵ _) (@Ā _ _ _ _ _ (@ģ _ _ _ _ _ _ _ _ _ _ (@ĕ _) (@Ĕ _) (@ă _ _ _ 0 _ _ (by rfl) (by first|exact Or.inl rfl|exact Or.inr (Or.inl rfl)|exact Or.inr (Or.inr rfl)) (by decide) (by decide)) (@Ā _ _ _ _ _ (@Ă _ _ _ _ _ _)) (λ_ _=>rfl))) (@Ā _ _ _ _ _ (@Ă _ _ _ _ _ _)))) (@Ā _ _ _ _ _ (@Ă _ _ _ _ _ _)))) (@ă _ _ _ 1 _ _ (by rfl) (by first|exact Or.inl rfl|exact Or.inr (Or.inl rfl)|exact Or.inr (Or.inr rfl)) (by decide) (by decide))) (@Ĉ _ _ _ _ _ _ _ (@đ _ _ _ _ _ _ _ _ _ _ _ (@ō _) (@Ļ _) (@Ā _ _ _ _ _ (@đ _ _ _ _ _ _ _ _ _ _ _ (@Ş _) (@Ŝ _) (@Ā _ _ _ _ _ (@đ _ _ _ _ _ _ _ _ _ _ _ (@ĸ _) (@ĵ _) (@Ā _ _ _ _ _ (@ģ _ _ _ _ _ _ _ _ _ _ (@ĕ _) (@Ĕ _) (@ă _ _ _ 0 _ _ (by rfl) (by first|exact Or.inl rfl|exact Or.inr (Or.inl rfl)|exact Or.inr (Or.inr rfl)) (by decide) (by decide)) (@Ā _ _ _ _ _ (@Ă _ _ _ _ _ _)) (λ_ _=>rfl))) (@Ā _ _ _ _ _ (@Ă _ _ _ _ _ _)))) (@Ā _ _ _ _ _ (@Ă _ _ _ _ _ _)))) (@ă _ _ _ 1 _ _ (by rfl) (by first|exact Or.inl rfl|exact Or.inr (Or.inl rfl)|exact Or.inr (Or.inr rfl)) (by decide) (by decide))) (@Ĉ _ _ _ _ _ _ _ (@đ _ _ _ _ _ _ _ _ _ _ _ (@ō _) (@Ļ _) (@Ā _ _ _ _ _ (@ę _ _ _ _ _ (@Ō _ _ _ _ _ _ _ _ _ _ _ (@ĳ _) (@Ĳ _) (@Ā _ _ _ _ _ (@Ă _ _ _ _ _ _)) (@Ā _ _ _ _ _ (@đ _ _ _ _ _ _ _ _ _ _ _ (@ĸ _) (@ĵ _) (@Ā _ _ _ _ _ (@ģ _ _ _ _ _ _ _ _ _ _ (@ĕ _) (@Ĕ _) (@ă _ _ _ 0 _ _ (by rfl) (by first|exact Or.inl rfl|exact Or.inr (Or.inl rfl)|exact Or.inr (Or.inr rfl)) (by decide) (by decide)) (@Ā _ _ _ _ _ (@Ă _ _ _ _ _ _)) (λ_ _=>rfl))) (@Ā _ _ _ _ _ (@Ă _ _ _ _ _ _))))))) (@ă _ _ _ 1 _ _ (by rfl) (by first|exact Or.inl rfl|exact Or.inr (Or.inl rfl)|exact Or.inr (Or.inr rfl)) (by decide) (by decide))) (@ħ _ _ _) (by exact Ĵ rfl)) (by exact Ĵ rfl)) (by exact Ĵ rfl))))))))
def Zcy(T:Tx K mg a):ī P w K mg base (Ů P w) 2 a.Wi a.Yc ["_law_script","_law_start","_law_many","_law_long"] (ż ⟨K,Ĩ a⟩ 4 vQ):=by
 refine bA (cm:=Ĩ a) (mb:=DW) T.gk.F lu rfl rfl rfl λcdv A outer s H E hr=>?_
 have hu:=hr.units
 exact(@ċ _ _ _ _ _ _ _ (@Ĭ _ _ _ _ _ _ 4 _ _ lu.nd rfl (Or.inl rfl) (@ź _ _ _ _ _ _ (@Ĉ _ _ _ _ _ _ _ (@aj _ _ _ _ _ _) (@Ĉ _ _ _ _ _ _ _ (@aj _ _ _ _ _ _) (@Ĉ _ _ _ _ _ _ _ (@aj _ _ _ _ _ _) (@Ĉ _ _ _ _ _ _ _ (@aj _ _ _ _ _ _) (@Ĉ _ _ _ _ _ _ _ (@aj _ _ _ _ _ _) (@Ĉ _ _ _ _ _ _ _ (@aj _ _ _ _ _ _) (@Ĉ _ _ _ _ _ _ _ (@aj _ _ _ _ _ _) (@Ĉ _ _ _ _ _ _ _ (@aj _ _ _ _ _ _) (@Ĉ _ _ _ _ _ _ _ (@aj _ _ _ _ _ _) (@Ĉ _ _ _ _ _ _ _ (@aj _ _ _ _ _ _) (@Ĉ _ _ _ _ _ _ _ (@aj _ _ _ _ _ _) (@Ĉ _ _ _ _ _ _ _ (@aj _ _ _ _ _ _) (@ħ _ _ _) (by exact Ĵ rfl)) (by exact Ĵ rfl)) (by exact Ĵ rfl)) (by exact Ĵ rfl)) (by exact Ĵ rfl)) (by exact Ĵ rfl)) (by exact Ĵ rfl)) (by exact Ĵ rfl)) (by exact Ĵ rfl)) (by exact Ĵ rfl)) (by exact Ĵ rfl)) (by exact Ĵ rfl))) (by rfl) (by first|exact .inl rfl|exact .inr rfl|assumption)) (@ċ _ _ _ _ _ _ _ (@Ĭ _ _ _ _ _ _ 5 _ _ lu.nd rfl (Or.inl rfl) (@į _ _ _ _ _ (@đ _ _ _ _ _ _ _ _ _ _ _ (@ĸ _) (@ĵ _) (@Ā _ _ _ _ _ (@ę _ _ _ _ _ (@Ē _ _ _ _ _ _ _ _ _ _ _ _ _ _ _ _ (jo T) Ċ hr.mo rfl T.Į.m T.Į.F.kp T.Į.b (@Ĥ _ _ _ _ _ _ _ _ _ _ _ _ _ _ _) (@Ć _ _ _ _ _ 0 _ _ (by rfl) (by first|exact Or.inl rfl|exact Or.inr (Or.inl rfl)|exact Or.inr (Or.inr rfl)) (by decide) (by decide) (@Ć _ _ _ _ _ 1 _ _ (by rfl) (by first|exact Or.inl rfl|exact Or.inr (Or.inl rfl)|exact Or.inr (Or.inr rfl)) (by decide) (by decide) (@Ď _ _ _) (by exact Ĵ rfl)) (by exact Ĵ rfl)) (by decide) (by exact Ĵ rfl) (by rfl)))) (@Ā _ _ _ _ _ (@Ă _ _ _ _ _ _)))) (by rfl) (by first|exact .inl rfl|exact .inr rfl|assumption)) (@ċ _ _ _ _ _ _ _ (@Ĭ _ _ _ _ _ _ 4 _ _ lu.nd rfl (Or.inl rfl) (@Ō _ _ _ _ _ _ _ _ _ _ _ (@ĳ _) (@Ĳ _) (@Ā _ _ _ _ _ (@ę _ _ _ _ _ (@cW _ _ _ _ _ _ _ _ _ _ _ (@ă _ _ _ 4 _ _ (by rfl) (by first|exact Or.inl rfl|exact Or.inr (Or.inl rfl)|exact Or.inr (Or.inr rfl)) (by decide) (by decide)) (@bW _ _ _ _ _ (@v_var _ _ _ 5 _ _ (by rfl) (by first|exact Or.inl rfl|exact Or.inr (Or.inl rfl)|exact Or.inr (Or.inr rfl)) (by decide) (by decide))) (@sI _ _ _)))) (@Ā _ _ _ _ _ (@ę _ _ _ _ _ (@cW _ _ _ _ _ _ _ _ _ _ _ (@ă _ _ _ 4 _ _ (by rfl) (by first|exact Or.inl rfl|exact Or.inr (Or.inl rfl)|exact Or.inr (Or.inr rfl)) (by decide) (by decide)) (@sI _ _ _) (@bW _ _ _ _ _ (@v_var _ _ _ 5 _ _ (by rfl) (by first|exact Or.inl rfl|exact Or.inr (Or.inl rfl)|exact Or.inr (Or.inr rfl)) (by decide) (by decide))))))) (by rfl) (by first|exact .inl rfl|exact .inr rfl|assumption)) (@ċ _ _ _ _ _ _ _ (@Ĭ _ _ _ _ _ _ 6 _ _ lu.nd rfl (Or.inl rfl) (@ź _ _ _ _ _ _ (@ħ _ _ _)) (by rfl) (by first|exact .inl rfl|exact .inr rfl|assumption)) (@ċ _ _ _ _ _ _ _ (@dF _ _ _ _ _ _ _ _ _ _ PassesOwn.leaving rfl (@aG _ _ _ _ _ _ _ _ rfl T.bR (@Ĉ _ _ _ _ _ _ _ (@v_var _ _ _ 2 _ _ (by rfl) (by first|exact Or.inl rfl|exact Or.inr (Or.inl rfl)|exact Or.inr (Or.inr rfl)) (by decide) (by decide)) (@ħ _ _ _) (by exact Ĵ rfl)) (by exact Ĵ rfl)) (@Ħ _ _ _ 7 _ lu.nd rfl (Or.inl rfl) (by first|exact .inl rfl|exact .inr rfl|assumption)) (@ċ _ _ _ _ _ _ _ (@Ĭ _ _ _ _ _ _ 8 _ _ lu.nd rfl (by first|exact Or.inl rfl|exact Or.inr rfl) (@Ē _ _ _ _ _ _ _ _ _ _ _ _ _ _ _ _ (Gf T) Ċ hr.mo rfl T.ŗ.m T.ŗ.F.kp T.ŗ.b (@Ĥ _ _ _ _ _ _ _ _ _ _ _ _ _ _ _) (@ė _ _ _ _ _ _ _ (@ę _ _ _ _ _ (@Ō _ _ _ _ _ _ _ _ _ _ _ (@ĳ _) (@Ĳ _) (@Ā _ _ _ _ _ (@đ _ _ _ _ _ _ _ _ _ _ _ (@ŭ _) (@Ś _) (@Ā _ _ _ _ _ (@ę _ _ _ _ _ (@Ē _ _ _ _ _ _ _ _ _ _ _ _ _ _ _ _ (jo T) Ċ hr.mo rfl T.Į.m T.Į.F.kp T.Į.b (@Ĥ _ _ _ _ _ _ _ _ _ _ _ _ _ _ _) (@Ć _ _ _ _ _ 0 _ _ (by rfl) (by first|exact Or.inl rfl|exact Or.inr (Or.inl rfl)|exact Or.inr (Or.inr rfl)) (by decide) (by decide) (@ė _ _ _ _ _ _ _ (@ę _ _ _ _ _ (@Ō _ _ _ _ _ _ _ _ _ _ _ (@ĳ _) (@Ĳ _) (@ă _ _ _ 1 _ _ (by rfl) (by first|exact Or.inl rfl|exact Or.inr (Or.inl rfl)|exact Or.inr (Or.inr rfl)) (by decide) (by decide)) (@ă _ _ _ 7 _ _ (by rfl) (by first|exact Or.inl rfl|exact Or.inr (Or.inl rfl)|exact Or.inr (Or.inr rfl)) (by decide) (by decide)))) (@Ď _ _ _) (by exact Ĵ rfl)) (by exact Ĵ rfl)) (by decide) (by exact Ĵ rfl) (by rfl)))) (@Ā _ _ _ _ _ (@Ă _ _ _ _ _ _)))) (@Ā _ _ _ _ _ (@đ _ _ _ _ _ _ _ _ _ _ _ (@ō _) (@Ļ _) (@Ā _ _ _ _ _ (@Ă _ _ _ _ _ _)) (@ă _ _ _ 7 _ _ (by rfl) (by first|exact Or.inl rfl|exact Or.inr (Or.inl rfl)|exact Or.inr (Or.inr rfl)) (by decide) (by decide)))))) (@ė _ _ _ _ _ _ _ (@ę _ _ _ _ _ (@Ō _ _ _ _ _ _ _ _ _ _ _ (@ĳ _) (@Ĳ _) (@Ā _ _ _ _ _ (@đ _ _ _ _ _ _ _ _ _ _ _ (@ō _) (@Ļ _) (@Ā _ _ _ _ _ (@Ă _ _ _ _ _ _)) (@ă _ _ _ 3 _ _ (by rfl) (by first|exact Or.inl rfl|exact Or.inr (Or.inl rfl)|exact Or.inr (Or.inr rfl)) (by decide) (by decide)))) (@Ā _ _ _ _ _ (@Ă _ _ _ _ _ _)))) (@Ď _ _ _) (by exact Ĵ rfl)) (by exact Ĵ rfl)) (by decide) (by exact Ĵ rfl) (by rfl)) (by rfl) (by first|exact .inl rfl|exact .inr rfl|assumption)) (@ċ _ _ _ _ _ _ _ (fL (i:=9) lu.nd rfl rfl ["_law_xs","_law_j"] [8] 1 (ć NK) rfl rfl (@aG _ _ _ _ _ _ _ _ rfl T.bR (@Ĉ _ _ _ _ _ _ _ (@ę _ _ _ _ _ (@Ō _ _ _ _ _ _ _ _ _ _ _ (@ĳ _) (@Ĳ _) (@Ā _ _ _ _ _ (@Ă _ _ _ _ _ _)) (@Ā _ _ _ _ _ (@đ _ _ _ _ _ _ _ _ _ _ _ (@ĸ _) (@ĵ _) (@Ā _ _ _ _ _ (@ģ _ _ _ _ _ _ _ _ _ _ (@ĕ _) (@Ĕ _) (@ă _ _ _ 8 _ _ (by rfl) (by first|exact Or.inl rfl|exact Or.inr (Or.inl rfl)|exact Or.inr (Or.inr rfl)) (by decide) (by decide)) (@Ā _ _ _ _ _ (@Ă _ _ _ _ _ _)) (λ_ _=>rfl))) (@ă _ _ _ 3 _ _ (by rfl) (by first|exact Or.inl rfl|exact Or.inr (Or.inl rfl)|exact Or.inr (Or.inr rfl)) (by decide) (by decide)))))) (@ħ _ _ _) (by exact Ĵ rfl)) (by exact Ĵ rfl)) (λ_ _ _ _ _=>(@Ħ _ _ _ 1 _ (show(["_law_xs","_law_j"]:List Str).Nodup by decide +kernel) rfl (Or.inl rfl) (Or.inr rfl))) (λ_ _ _ _ _=>(@Ţ _ _ _)) (λ_ _ _ _ _=>(@ę _ _ _ _ _ (@Ē _ _ _ _ _ _ _ _ _ _ _ _ _ _ _ _ (Zcx T) Ċ hr.mo rfl T.jf.m T.jf.F.kp T.jf.b (@ů _ _ _) (@ė _ _ _ _ _ _ _ (@ę _ _ _ _ _ (@cW _ _ _ _ _ _ _ _ _ _ _ (@ă _ _ _ 0 _ _ (by rfl) (by first|exact Or.inl rfl|exact Or.inr (Or.inl rfl)|exact Or.inr (Or.inr rfl)) (by decide) (by decide)) (@bW _ _ _ _ _ (@ę _ _ _ _ _ (@Ō _ _ _ _ _ _ _ _ _ _ _ (@ĳ _) (@Ĳ _) (@Ā _ _ _ _ _ (@Ă _ _ _ _ _ _)) (@Ā _ _ _ _ _ (@đ _ _ _ _ _ _ _ _ _ _ _ (@ō _) (@Ļ _) (@Ā _ _ _ _ _ (@Ă _ _ _ _ _ _)) (@ă _ _ _ 1 _ _ (by rfl) (by first|exact Or.inl rfl|exact Or.inr (Or.inl rfl)|exact Or.inr (Or.inr rfl)) (by decide) (by decide))))))) (@bW _ _ _ _ _ (@ę _ _ _ _ _ (@Ō _ _ _ _ _ _ _ _ _ _ _ (@ĳ _) (@Ĳ _) (@Ā _ _ _ _ _ (@Ă _ _ _ _ _ _)) (@Ā _ _ _ _ _ (@đ _ _ _ _ _ _ _ _ _ _ _ (@ō _) (@Ļ _) (@Ā _ _ _ _ _ (@Ă _ _ _ _ _ _)) (@ă _ _ _ 1 _ _ (by rfl) (by first|exact Or.inl rfl|exact Or.inr (Or.inl rfl)|exact Or.inr (Or.inr rfl)) (by decide) (by decide))))))))) (@Ď _ _ _) (by exact Ĵ rfl)) (by decide) (by exact Ĵ rfl) (by rfl)))) ⟨rfl,⟨rfl,Or.inl rfl⟩,trivial⟩) (@Č _ _ _ _ _ (@PS.wk _ _ _ _ (fX (rQ PySem.F.plainAttrs_list PySem.F.slot_list_append PySem.F.type_list_append cR (pv 6) (@Ĉ _ _ _ _ _ _ _ (@Ő _ _ _ _ _ _ _ (@Ĉ _ _ _ _ _ _ _ (@ģ _ _ _ _ _ _ _ _ _ _ (@ĕ _) (@Ĕ _) (@ă _ _ _ 4 _ _ (by rfl) (by first|exact Or.inl rfl|exact Or.inr (Or.inl rfl)|exact Or.inr (Or.inr rfl)) (by decide) (by decide)) (@ă _ _ _ 7 _ _ (by rfl) (by first|exact Or.inl rfl|exact Or.inr (Or.inl rfl)|exact Or.inr (Or.inr rfl)) (by decide) (by decide)) (λ_ _=>rfl)) (@Ĉ _ _ _ _ _ _ _ (@ę _ _ _ _ _ (@Ō _ _ _ _ _ _ _ _ _ _ _ (@ĳ _) (@Ĳ _) (@Ā _ _ _ _ _ (@Ă _ _ _ _ _ _)) (@Ā _ _ _ _ _ (@đ _ _ _ _ _ _ _ _ _ _ _ (@ĸ _) (@ĵ _) (@Ā _ _ _ _ _ (@đ _ _ _ _ _ _ _ _ _ _ _ (@ō _) (@Ļ _) (@Ā _ _ _ _ _ (@ģ _ _ _ _ _ _ _ _ _ _ (@ĕ _) (@Ĕ _) (@ă _ _ _ 8 _ _ (by rfl) (by first|exact Or.inl rfl|exact Or.inr (Or.inl rfl)|exact Or.inr (Or.inr rfl)) (by decide) (by decide)) (@Ā _ _ _ _ _ (@Ă _ _ _ _ _ _)) (λ_ _=>rfl))) (@Ā _ _ _ _ _ (@Ă _ _ _ _ _ _)))) (@Ā _ _ _ _ _ (@đ _ _ _ _ _ _ _ _ _ _ _ (@jX _) (@jK _) (@Ā _ _ _ _ _ (@Ă _ _ _ _ _ _)) (@Ā _ _ _ _ _ (@Ă _ _ _ _ _ _)))))))) (@Ĉ _ _ _ _ _ _ _ (@v_var _ _ _ 9 _ _ (by rfl) (by first|exact Or.inl rfl|exact Or.inr (Or.inl rfl)|exact Or.inr (Or.inr rfl)) (by decide) (by decide)) (@ħ _ _ _) (by exact Ĵ rfl)) (by exact Ĵ rfl)) (by exact Ĵ rfl))) (@ħ _ _ _) (by exact Ĵ rfl)))) (λ_ _ _ h=> @nU _ _ _ _ _ _ _ _ h))))) (by intro _;rfl)) (@Č _ _ _ _ _ (@ĥ _ _ _ _ _ _ (@jq _ _ _ 6 _ _ (by rfl) (by first|exact Or.inl rfl|exact Or.inr (Or.inl rfl)|exact Or.inr (Or.inr rfl)) (by decide) (by decide)))))))))
def Qc(T:Tx K mg a):ī P w K mg base (Ů P w) 1 a.Ou a.Yd ["self","width","height","things","days"] (Qx ⟨K,Ĩ a⟩ 5 "Yard" oG):=by
 refine fnI (cm:=Ĩ a) (mb:=DX) T.jx.F Zb3 rfl rfl rfl λcdv A outer s H E hr=>?_
 have hu:=hr.units
 exact(ċ (cC (i:=0) ["Yard"] ⟨⟨T.jl,T.oV⟩,trivial⟩ (pv 0) (v_var 1))
  (ċ (cC (i:=0) ["Yard"] ⟨⟨T.jl,T.mV⟩,trivial⟩ (pv 0) (v_var 2))
  (ċ (cC (i:=0) ["Yard"] ⟨⟨T.jl,T.mW⟩,trivial⟩ (pv 0) (ę (PE.wk (ſ eG (by rfl) T.jk PyProof.Rows.boot_list (ğ (ă 3) ĭ)) λ_ _ _ h=>wU eN h)))
  (Č (cC (i:=0) ["Yard"] ⟨⟨T.jl,T.lq⟩,trivial⟩ (pv 0) (ę (bH ["name","times","turns"] [] 3 (ć NP) rfl rfl (aW 4) (λ_ _ _ _ _=>(jT rfl (ĺ (Ħ (i:=0) (show(["name","times","turns"]:List Str).Nodup by decide +kernel) rfl (Or.inl rfl) (hf:=Or.inr rfl)) (ĺ (Ħ (i:=1) (show(["name","times","turns"]:List Str).Nodup by decide +kernel) rfl (Or.inl rfl) (hf:=Or.inr rfl)) (ĺ (Ħ (i:=2) (show(["name","times","turns"]:List Str).Nodup by decide +kernel) rfl (Or.inl rfl) (hf:=Or.inr rfl)) bV))))) (λ_ _ _ _ _=>Ţ) (λ_ _ _ _ _=>(Ő (Ĉ (v_var 0) (Ĉ (v_var 1) (Ĉ (ę (PE.wk (ſ eG (by rfl) T.jk PyProof.Rows.boot_list (ğ (ă 2) ĭ)) λ_ _ _ h=>wU eN h)) ħ))))) trivial)))))))
def Qd(T:Tx K mg a):ī P w K mg base (Ů P w) 1 a.Wj a.Ye ["_law_number"] (ż ⟨K,Ĩ a⟩ 1 vR):=by
 refine bA (cm:=Ĩ a) (mb:=yD) T.Ŵ.F Zb4 rfl rfl rfl λcdv A outer s H E hr=>?_
 have hu:=hr.units
 exact(ċ (aF (Ŧ Ż (ř hu) (Ā (đ ĸ ĵ (Ā (đ ŭ Ś (ă 0) (Ā Ă))) (Ā Ă))) (Ā Ă) (Ĺ _))
  (Č (ĥ (Ō ĳ Ĳ (Ā Ă) (Ā (đ ĸ ĵ (Ā (đ ō Ļ (ă 0) (Ā Ă))) (Ā (đ jX jK (Ā Ă) (Ā Ă))))))))
  ŉ)
  (Č (ĥ (Ō ĳ Ĳ (Ā Ă) (Ā (đ ĸ ĵ (ă 0) (Ā Ă)))))))
def uE(T:Tx K mg a):ī P w K mg base (Ů P w) 1 a.Wk a.Yg ["_law_number","_law_wide"] (ż ⟨K,Ĩ a⟩ 2 mK):=by
 refine bA (cm:=Ĩ a) (mb:=yE) T.ľ.F Zb5 rfl rfl rfl λcdv A outer s H E hr=>?_
 have hu:=hr.units
 exact(ċ (aF (Ŧ Ż (ř hu) (Ā (đ ĸ ĵ (Ā (đ ŭ Ś (ă 0) (Ā Ă))) (Ā Ă))) (Ā Ă) (Ĺ _))
  (Č (ĥ (Ō ĳ Ĳ (Ā (đ Ş Ŝ (Ā (đ ĸ ĵ (Ā (đ ō Ļ (ă 0) (Ā Ă))) (Ā (đ Ş Ŝ (Ā (đ ō Ļ (Ā Ă) (Ā (đ jX jK (Ā Ă) (Ā Ă))))) (Ā Ă))))) (Ā (đ jX jK (Ā Ă) (Ā Ă))))) (Ā Ă))))
  ŉ)
  (Č (ĥ (į (đ Ş Ŝ (Ā (đ ĸ ĵ (ă 0) (Ā (ę (Ō ĳ Ĳ (Ā (đ ō Ļ (Ā Ă) (ă 1))) (Ā Ă)))))) (Ā Ă))))))
def Zcz(T:Tx K mg a):ī P w K mg base (Ů P w) 2 a.Wm a.Yh ["_law_cell","_law_wide"] (ż ⟨K,Ĩ a⟩ 2 kI):=by
 refine bA (cm:=Ĩ a) (mb:=nC) T.eU.F lA rfl rfl rfl λcdv A outer s H E hr=>?_
 have hu:=hr.units
 exact(ċ (Ĭ (i:=2) lA.nd rfl (by first|exact Or.inl rfl|exact Or.inr rfl) (Ē (Gf T) Ċ hr.mo rfl T.ŗ.m T.ŗ.F.kp T.ŗ.b Ĥ (Ć 0 (hr:=(ė Ă Ď)))))
  (ċ (Hh (ę (bH ["_law_wide","_law_xs","_law_k"] [1,2] 1 (ć NQ) rfl rfl (aG rfl T.bR (Ĉ Ă ħ)) (λ_ _ _ _ _=>(Ħ (i:=2) (show(["_law_wide","_law_xs","_law_k"]:List Str).Nodup by decide +kernel) rfl (Or.inl rfl) (hf:=Or.inr rfl))) (λ_ _ _ _ _=>Ţ) (λ_ _ _ _ _=>(ę (Ē (uE T) Ċ hr.mo rfl T.ľ.m T.ľ.F.kp T.ľ.b ů (ė (ģ ĕ Ĕ (ă 1) (ă 2) (λ_ _=>rfl)) (Ć 0 (hr:=Ď)))))) ⟨rfl,⟨rfl,Or.inl rfl⟩,⟨rfl,⟨rfl,Or.inl rfl⟩,trivial⟩⟩)) (HW rfl (ĺ (Ħ (i:=5) lA.nd rfl (Or.inl rfl)) (ĺ (Ħ (i:=6) lA.nd rfl (Or.inl rfl)) bV))))
  (ċ (Ĭ (i:=3) lA.nd rfl (Or.inl rfl) (Ē (Qd T) Ċ hr.mo rfl T.Ŵ.m T.Ŵ.F.kp T.Ŵ.b Ĥ (ė (ģ ĕ Ĕ (ă 2) (Ā Ă) (λ_ _=>rfl)) Ď)))
  (ċ (Ĭ (i:=4) lA.nd rfl (Or.inl rfl) (į (đ ĸ ĵ (Ā (ģ ĕ Ĕ (ă 2) (Ā Ă) (λ_ _=>rfl))) (Ā Ă))))
  (ċ (aF (Ŧ Ż (ř hu) (ă 4) (Ā Ă) (Ĺ _))
  (Č (ĥ (į (Ő (Ĉ aj (Ĉ (ę (ź (Ĉ (đ ŭ Ś (ă 5) (Ā Ă)) (Ĉ (đ ŭ Ś (ă 6) (Ā Ă)) (Ĉ (v_var 3) ħ))))) ħ))))))
  ŉ)
  (ċ (aF (Ŧ Ż (ř hu) (ă 4) (Ā Ă) (Ĺ _))
  (ċ (Hh (ę (ź (Ĉ (đ Ş Ŝ (Ā (ę (Ō ĳ Ĳ (ă 5) (Ā (đ ĸ ĵ (Ā (ģ ĕ Ĕ (ă 2) (Ā Ă) (λ_ _=>rfl))) (Ā Ă)))))) (Ā Ă)) (Ĉ (đ Ş Ŝ (Ā (ę (Ō ĳ Ĳ (ă 6) (Ā (đ ĸ ĵ (Ā (ģ ĕ Ĕ (ă 2) (Ā Ă) (λ_ _=>rfl))) (Ā Ă)))))) (Ā Ă)) ħ)))) (HW rfl (ĺ (Ħ (i:=7) lA.nd rfl (Or.inl rfl)) (ĺ (Ħ (i:=8) lA.nd rfl (Or.inl rfl)) bV))))
  (Č (ĥ (į (Ő (Ĉ aj (Ĉ (ę (ź (Ĉ (v_var 5) (Ĉ (v_var 6) (Ĉ (ę (Ō ĳ Ĳ (ă 7) (Ā (PE.wk (ſ ZbG (by rfl) T.ZeT PyProof.Rows.boot_int (ğ (Ā (dR Ż (ř hu) (Ā (Ő (Ĉ (v_var 5) (Ĉ (v_var 6) ħ)))) (Ā (Ő (Ĉ (v_var 7) (Ĉ (v_var 8) ħ)))) (Ĺ _))) ĭ)) λ_ _ _ h=>ak ZbH h)))) (Ĉ (v_var 8) (Ĉ (v_var 3) ħ))))))) ħ)))))))
  ŉ)
  (ċ (aF (Ŧ Ż (ř hu) (ă 4) (Ā Ă) (Ĺ _))
  (Č (ĥ (į (Ő (Ĉ aj (Ĉ (ę (Ō ĳ Ĳ (Ā (ę (Ō ĳ Ĳ (Ā (ę (ź (Ĉ (v_var 5) (Ĉ (v_var 6) (Ĉ (đ ĸ ĵ (Ā (ģ ĕ Ĕ (ă 2) (Ā Ă) (λ_ _=>rfl))) (Ā Ă)) ħ)))))) (Ā (ę (ź (Ĉ (ę (Ē (uE T) Ċ hr.mo rfl T.ľ.m T.ľ.F.kp T.ľ.b Ĥ (ė (ģ ĕ Ĕ (ă 2) (Ā Ă) (λ_ _=>rfl)) (Ć 1 (hr:=Ď))))) (Ĉ (ę (Ē (uE T) Ċ hr.mo rfl T.ľ.m T.ľ.F.kp T.ľ.b Ĥ (ė (ģ ĕ Ĕ (ă 2) (Ā Ă) (λ_ _=>rfl)) (Ć 1 (hr:=Ď))))) (Ĉ (v_var 3) ħ))))))))) (Ā (ę (ź (Ĉ (ę (Ē (uE T) Ċ hr.mo rfl T.ľ.m T.ľ.F.kp T.ľ.b Ĥ (ė (ģ ĕ Ĕ (ă 2) (Ā Ă) (λ_ _=>rfl)) (Ć 1 (hr:=Ď))))) (Ĉ (ę (Ē (uE T) Ċ hr.mo rfl T.ľ.m T.ľ.F.kp T.ľ.b Ĥ (ė (ģ ĕ Ĕ (ă 2) (Ā Ă) (λ_ _=>rfl)) (Ć 1 (hr:=Ď))))) (Ĉ (ę (Ē (Qd T) Ċ hr.mo rfl T.Ŵ.m T.Ŵ.F.kp T.Ŵ.b Ĥ (ė (ģ ĕ Ĕ (ă 2) (Ā Ă) (λ_ _=>rfl)) Ď))) ħ)))))))) ħ))))))
  ŉ)
  (Č (ĥ (į (Ő (Ĉ (ģ ĕ Ĕ (Ā (ę (ź (Ĉ aj (Ĉ aj ħ))))) (Ā (đ Ş Ŝ (ă 4) (Ā Ă))) (λ_ _=>rfl)) (Ĉ (ę (ź (Ĉ (v_var 5) (Ĉ (v_var 6) (Ĉ (ę (Ō ĳ Ĳ (Ā (ę (Ō ĳ Ĳ (ă 5) (Ā Ă)))) (Ā (đ ĸ ĵ (Ā (ģ ĕ Ĕ (ă 2) (Ā Ă) (λ_ _=>rfl))) (Ā Ă))))) (Ĉ (ę (Ō ĳ Ĳ (Ā (ę (Ō ĳ Ĳ (ă 6) (Ā Ă)))) (Ā (đ ĸ ĵ (Ā (ģ ĕ Ĕ (ă 2) (Ā Ă) (λ_ _=>rfl))) (Ā Ă))))) (Ĉ (v_var 3) ħ))))))) ħ)))))))))))))
def uF(T:Tx K mg a):ī P w K mg base (Ů P w) 1 a.Wn a.Yi ["number"] (ż ⟨K,Ĩ a⟩ 1 qw):=by
 refine bA (cm:=Ĩ a) (mb:=DY) T.ő.F Zb6 rfl rfl rfl λcdv A outer s H E hr=>?_
 have hu:=hr.units
 exact(Č (ĥ (į (vo iw iw gQ gQ (Ā (Ad jZ jL (Ā (zR (.int (1000000000)) (bf (v:=.int (1000000000)) rfl T.oO ⟨_,rfl⟩))))) (ă 0) (Ā (zR (.int (1000000000)) (bf (v:=.int (1000000000)) rfl T.oO ⟨_,rfl⟩)))))))
def Qe(T:Tx K mg a):ī P w K mg base (Ů P w) 1 a.Wo a.Yj ["number"] (ż ⟨K,Ĩ a⟩ 1 Bt):=by
 refine bA (cm:=Ĩ a) (mb:=D_) T.aY.F Zb7 rfl rfl rfl λcdv A outer s H E hr=>?_
 have hu:=hr.units
 exact(Č (ĥ (į (vo iw iw gQ gQ (Ā Ă) (ă 0) (Ā (zR (.int (1000000000)) (bf (v:=.int (1000000000)) rfl T.mQ ⟨_,rfl⟩)))))))
def ZcA(T:Tx K mg a):ī P w K mg base (Ů P w) 2 a.Wq a.Yk ["numbers"] (ż ⟨K,Ĩ a⟩ 1 Bu):=by
 refine bA (cm:=Ĩ a) (mb:=yF) T.eV.F Zb8 rfl rfl rfl λcdv A outer s H E hr=>?_
 have hu:=hr.units
 exact(Č (ĥ (į (v_and (dR Ż (ř hu) (Ā (PE.wk (ĩ bT (by rfl) T.fQ PySem.boot_len (ğ (ă 0) ĭ)) λ_ _ _ h=>ak bY h)) (Ā Ă) (Ĺ _)) (v_and (ę (Ē (uF T) Ċ hr.mo rfl T.ő.m T.ő.F.kp T.ő.b Ĥ (ė (ģ ĕ Ĕ (ă 0) (Ā Ă) (λ_ _=>rfl)) Ď))) (v_and (ę (Ē (uF T) Ċ hr.mo rfl T.ő.m T.ő.F.kp T.ő.b Ĥ (ė (ģ ĕ Ĕ (ă 0) (Ā Ă) (λ_ _=>rfl)) Ď))) (jQ (ę (Ē (Qe T) Ċ hr.mo rfl T.aY.m T.aY.F.kp T.aY.b Ĥ (ė (ģ ĕ Ĕ (ă 0) (Ā Ă) (λ_ _=>rfl)) Ď))))))))))
def Qf(T:Tx K mg a):ī P w K mg base (Ů P w) 1 a.jw a.wB ["self","word","numbers"] (Qx ⟨K,Ĩ a⟩ 3 "Post" yG):=by
 refine fnI (cm:=Ĩ a) (mb:=dN) T.ň.F uy rfl rfl rfl λcdv A outer s H E hr=>?_
 have hu:=hr.units
 exact(ċ (cC (i:=0) ["Thing","Post","Fence","Sail","Cloth","House"] ⟨⟨T.ų,T.cL⟩,⟨⟨T.aL,T.dH⟩,⟨⟨T.ũ,T.cM⟩,⟨⟨T.aM,T.dI⟩,⟨⟨T.Ū,T.cN⟩,⟨⟨T.ū,T.cO⟩,trivial⟩⟩⟩⟩⟩⟩ (pv 0) (v_var 1))
  (Č (cC (i:=0) ["Thing","Post","Fence","Sail","Cloth","House"] ⟨⟨T.ų,T.Ŀ⟩,⟨⟨T.aL,T.ņ⟩,⟨⟨T.ũ,T.ŀ⟩,⟨⟨T.aM,T.Ň⟩,⟨⟨T.Ū,T.Ł⟩,⟨⟨T.ū,T.ł⟩,trivial⟩⟩⟩⟩⟩⟩ (pv 0) (ę (PE.wk (ſ eG (by rfl) T.jk PyProof.Rows.boot_list (ğ (ă 2) ĭ)) λ_ _ _ h=>wU eN h)))))
def JR(T:Tx K mg a):ī P w K mg base (Ů P w) 1 a.jw a.wB ["self","word","numbers"] (Qx ⟨K,Ĩ a⟩ 3 "Fence" tH):=by
 refine fnI (cm:=Ĩ a) (mb:=dN) T.ň.F uy rfl rfl rfl λcdv A outer s H E hr=>?_
 have hu:=hr.units
 exact(ċ (cC (i:=0) ["Thing","Post","Fence","Sail","Cloth","House"] ⟨⟨T.ų,T.cL⟩,⟨⟨T.aL,T.dH⟩,⟨⟨T.ũ,T.cM⟩,⟨⟨T.aM,T.dI⟩,⟨⟨T.Ū,T.cN⟩,⟨⟨T.ū,T.cO⟩,trivial⟩⟩⟩⟩⟩⟩ (pv 0) (v_var 1))
  (Č (cC (i:=0) ["Thing","Post","Fence","Sail","Cloth","House"] ⟨⟨T.ų,T.Ŀ⟩,⟨⟨T.aL,T.ņ⟩,⟨⟨T.ũ,T.ŀ⟩,⟨⟨T.aM,T.Ň⟩,⟨⟨T.Ū,T.Ł⟩,⟨⟨T.ū,T.ł⟩,trivial⟩⟩⟩⟩⟩⟩ (pv 0) (ę (PE.wk (ſ eG (by rfl) T.jk PyProof.Rows.boot_list (ğ (ă 2) ĭ)) λ_ _ _ h=>wU eN h)))))
def Qg(T:Tx K mg a):ī P w K mg base (Ů P w) 1 a.jw a.wB ["self","word","numbers"] (Qx ⟨K,Ĩ a⟩ 3 "Sail" yH):=by
 refine fnI (cm:=Ĩ a) (mb:=dN) T.ň.F uy rfl rfl rfl λcdv A outer s H E hr=>?_
 have hu:=hr.units
 exact(ċ (cC (i:=0) ["Thing","Post","Fence","Sail","Cloth","House"] ⟨⟨T.ų,T.cL⟩,⟨⟨T.aL,T.dH⟩,⟨⟨T.ũ,T.cM⟩,⟨⟨T.aM,T.dI⟩,⟨⟨T.Ū,T.cN⟩,⟨⟨T.ū,T.cO⟩,trivial⟩⟩⟩⟩⟩⟩ (pv 0) (v_var 1))
  (Č (cC (i:=0) ["Thing","Post","Fence","Sail","Cloth","House"] ⟨⟨T.ų,T.Ŀ⟩,⟨⟨T.aL,T.ņ⟩,⟨⟨T.ũ,T.ŀ⟩,⟨⟨T.aM,T.Ň⟩,⟨⟨T.Ū,T.Ł⟩,⟨⟨T.ū,T.ł⟩,trivial⟩⟩⟩⟩⟩⟩ (pv 0) (ę (PE.wk (ſ eG (by rfl) T.jk PyProof.Rows.boot_list (ğ (ă 2) ĭ)) λ_ _ _ h=>wU eN h)))))
def JT(T:Tx K mg a):ī P w K mg base (Ů P w) 1 a.jw a.wB ["self","word","numbers"] (Qx ⟨K,Ĩ a⟩ 3 "Cloth" tK):=by
 refine fnI (cm:=Ĩ a) (mb:=dN) T.ň.F uy rfl rfl rfl λcdv A outer s H E hr=>?_
 have hu:=hr.units
 exact(ċ (cC (i:=0) ["Thing","Post","Fence","Sail","Cloth","House"] ⟨⟨T.ų,T.cL⟩,⟨⟨T.aL,T.dH⟩,⟨⟨T.ũ,T.cM⟩,⟨⟨T.aM,T.dI⟩,⟨⟨T.Ū,T.cN⟩,⟨⟨T.ū,T.cO⟩,trivial⟩⟩⟩⟩⟩⟩ (pv 0) (v_var 1))
  (Č (cC (i:=0) ["Thing","Post","Fence","Sail","Cloth","House"] ⟨⟨T.ų,T.Ŀ⟩,⟨⟨T.aL,T.ņ⟩,⟨⟨T.ũ,T.ŀ⟩,⟨⟨T.aM,T.Ň⟩,⟨⟨T.Ū,T.Ł⟩,⟨⟨T.ū,T.ł⟩,trivial⟩⟩⟩⟩⟩⟩ (pv 0) (ę (PE.wk (ſ eG (by rfl) T.jk PyProof.Rows.boot_list (ğ (ă 2) ĭ)) λ_ _ _ h=>wU eN h)))))
def JV(T:Tx K mg a):ī P w K mg base (Ů P w) 1 a.jw a.wB ["self","word","numbers"] (Qx ⟨K,Ĩ a⟩ 3 "House" tM):=by
 refine fnI (cm:=Ĩ a) (mb:=dN) T.ň.F uy rfl rfl rfl λcdv A outer s H E hr=>?_
 have hu:=hr.units
 exact(ċ (cC (i:=0) ["Thing","Post","Fence","Sail","Cloth","House"] ⟨⟨T.ų,T.cL⟩,⟨⟨T.aL,T.dH⟩,⟨⟨T.ũ,T.cM⟩,⟨⟨T.aM,T.dI⟩,⟨⟨T.Ū,T.cN⟩,⟨⟨T.ū,T.cO⟩,trivial⟩⟩⟩⟩⟩⟩ (pv 0) (v_var 1))
  (Č (cC (i:=0) ["Thing","Post","Fence","Sail","Cloth","House"] ⟨⟨T.ų,T.Ŀ⟩,⟨⟨T.aL,T.ņ⟩,⟨⟨T.ũ,T.ŀ⟩,⟨⟨T.aM,T.Ň⟩,⟨⟨T.Ū,T.Ł⟩,⟨⟨T.ū,T.ł⟩,trivial⟩⟩⟩⟩⟩⟩ (pv 0) (ę (PE.wk (ſ eG (by rfl) T.jk PyProof.Rows.boot_list (ğ (ă 2) ĭ)) λ_ _ _ h=>wU eN h)))))
def Qh(T:Tx K mg a):ī P w K mg base (Ů P w) 2 a.Wr a.Yl ["numbers"] (ż ⟨K,Ĩ a⟩ 1 vU):=by
 refine bA (cm:=Ĩ a) (mb:=yI) T.ŧ.F Zb9 rfl rfl rfl λcdv A outer s H E hr=>?_
 have hu:=hr.units
 exact(Č (ĥ (į (v_and (dR Ż (ř hu) (Ā (PE.wk (ĩ bT (by rfl) T.fQ PySem.boot_len (ğ (ă 0) ĭ)) λ_ _ _ h=>ak bY h)) (Ā Ă) (Ĺ _)) (v_and (PE.wk (ĩ (wN rfl) (by rfl) T.IK PyProof.Rows.boot_all (ğ (Ā (ę (bH ["number"] [] 1 (ć NT) rfl rfl (jr (ę (cW (ă 0) sI (bW Ă)))) (λ_ _ _ _ _=>(Ħ (i:=0) (show(["number"]:List Str).Nodup by decide +kernel) rfl (Or.inl rfl) (hf:=Or.inr rfl))) (λ_ _ _ _ _=>Ţ) (λ_ _ _ _ _=>(ę (Ē (uF T) Ċ hr.mo rfl T.ő.m T.ő.F.kp T.ő.b ů (Ć 0 (hr:=Ď))))) trivial))) ĭ)) λ_ _ _ h=>ak xu h) (jQ (ę (Ē (Qe T) Ċ hr.mo rfl T.aY.m T.aY.F.kp T.aY.b Ĥ (ė (ģ ĕ Ĕ (ă 0) (Ā Ă) (λ_ _=>rfl)) Ď)))))))))
def ZcB(T:Tx K mg a):ī P w K mg base (Ů P w) 3 a.Ws a.Ym ["numbers"] (ż ⟨K,Ĩ a⟩ 1 Bv):=by
 refine bA (cm:=Ĩ a) (mb:=yJ) T.cX.F Zb_ rfl rfl rfl λcdv A outer s H E hr=>?_
 have hu:=hr.units
 exact(Č (ĥ (į (v_and (ę (Ē (Qh T) Ċ hr.mo rfl T.ŧ.m T.ŧ.F.kp T.ŧ.b Ĥ (Ć 0 (hr:=Ď)))) (jQ (dR Hs (wM hu) (Ā (ę (cW (ă 0) sI (bW Ă)))) (Ā (ę (cW (ă 0) (bW Ă) (bW Ă)))) (Ĺ _)))))))
def Zaz(T:Tx K mg a):ī P w K mg base (Ů P w) 3 a.ZeC a.ZeK ["numbers"] (ż ⟨K,Ĩ a⟩ 1 JL):=by
 refine bA (cm:=Ĩ a) (mb:=Ie) T.ŋ.F ZeX rfl rfl rfl λcdv A outer s H E hr=>?_
 have hu:=hr.units
 exact(Č (ĥ (į (v_and (ę (Ē (Qh T) Ċ hr.mo rfl T.ŧ.m T.ŧ.F.kp T.ŧ.b Ĥ (Ć 0 (hr:=Ď)))) (v_and (dR mF lZ (Ā (ģ ĕ Ĕ (ă 0) (Ā Ă) (λ_ _=>rfl))) (Ā (ģ ĕ Ĕ (ă 0) (Ā Ă) (λ_ _=>rfl))) (Ĺ _)) (jQ (dR mF lZ (Ā (ģ ĕ Ĕ (ă 0) (Ā Ă) (λ_ _=>rfl))) (Ā (ģ ĕ Ĕ (ă 0) (Ā Ă) (λ_ _=>rfl))) (Ĺ _))))))))
def Ze3(T:Tx K mg a):ī P w K mg base (Ů P w) 2 a.ZeD a.ZeL ["numbers"] (ż ⟨K,Ĩ a⟩ 1 S_):=by
 refine bA (cm:=Ĩ a) (mb:=Om) T.aN.F ZeY rfl rfl rfl λcdv A outer s H E hr=>?_
 have hu:=hr.units
 exact(Č (ĥ (į (v_and (ę (Ē (uF T) Ċ hr.mo rfl T.ő.m T.ő.F.kp T.ő.b Ĥ (ė (ģ ĕ Ĕ (ă 0) (Ā Ă) (λ_ _=>rfl)) Ď))) (v_and (ę (Ē (uF T) Ċ hr.mo rfl T.ő.m T.ő.F.kp T.ő.b Ĥ (ė (ģ ĕ Ĕ (ă 0) (Ā Ă) (λ_ _=>rfl)) Ď))) (jQ (vo iw iw gQ gQ (Ā Ă) (Ā (ģ ĕ Ĕ (ă 0) (Ā Ă) (λ_ _=>rfl))) (Ā (zR (.int (1000000000)) (bf (v:=.int (1000000000)) rfl T.mQ ⟨_,rfl⟩))))))))))
def ZcC(T:Tx K mg a):ī P w K mg base (Ů P w) 3 a.Wu a.Yn ["numbers"] (ż ⟨K,Ĩ a⟩ 1 Bw):=by
 refine bA (cm:=Ĩ a) (mb:=yK) T.cY.F Zca rfl rfl rfl λcdv A outer s H E hr=>?_
 have hu:=hr.units
 exact(@Č _ _ _ _ _ (@ĥ _ _ _ _ _ _ (@į _ _ _ _ _ (@v_and _ _ _ _ _ _ _ _ _ (@dR _ _ _ _ _ _ _ _ _ _ _ (@Ż _) (@ř _ hu) (@Ā _ _ _ _ _ (@PE.wk _ _ _ _ (ĩ bT (by rfl) T.fQ PySem.boot_len (@ğ _ _ _ _ _ _ _ (@ă _ _ _ 0 _ _ (by rfl) (by first|exact Or.inl rfl|exact Or.inr (Or.inl rfl)|exact Or.inr (Or.inr rfl)) (by decide) (by decide)) (@ĭ _ _ _) (by exact Ĵ rfl))) (λ_ _ _ h=> @ak _ _ _ _ _ _ (@bY _) _ _ _ h))) (@Ā _ _ _ _ _ (@Ă _ _ _ _ _ _)) (Ĺ _)) (@jQ _ _ _ _ _ _ _ (@PE.wk _ _ _ _ (ĩ (@wN _ rfl) (by rfl) T.IK PyProof.Rows.boot_all (@ğ _ _ _ _ _ _ _ (@Ā _ _ _ _ _ (@ę _ _ _ _ _ (bH ["numbers","place"] [0] 1 (ć NZ) rfl rfl (@jr _ _ _ _ _ _ (@Ő _ _ _ _ _ _ _ (@Ĉ _ _ _ _ _ _ _ (@Ă _ _ _ _ _ _) (@Ĉ _ _ _ _ _ _ _ (@Ă _ _ _ _ _ _) (@Ĉ _ _ _ _ _ _ _ (@Ă _ _ _ _ _ _) (@ħ _ _ _) (by exact Ĵ rfl)) (by exact Ĵ rfl)) (by exact Ĵ rfl)))) (λ_ _ _ _ _=>(@Ħ _ _ _ 1 _ (show(["numbers","place"]:List Str).Nodup by decide +kernel) rfl (Or.inl rfl) (Or.inr rfl))) (λ_ _ _ _ _=>(@Ţ _ _ _)) (λ_ _ _ _ _=>(@ę _ _ _ _ _ (@Ē _ _ _ _ _ _ _ _ _ _ _ _ _ _ _ _ (Ze3 T) Ċ hr.mo rfl T.aN.m T.aN.F.kp T.aN.b (@ů _ _ _) (@ė _ _ _ _ _ _ _ (@ę _ _ _ _ _ (@cW _ _ _ _ _ _ _ _ _ _ _ (@ă _ _ _ 0 _ _ (by rfl) (by first|exact Or.inl rfl|exact Or.inr (Or.inl rfl)|exact Or.inr (Or.inr rfl)) (by decide) (by decide)) (@bW _ _ _ _ _ (@v_var _ _ _ 1 _ _ (by rfl) (by first|exact Or.inl rfl|exact Or.inr (Or.inl rfl)|exact Or.inr (Or.inr rfl)) (by decide) (by decide))) (@bW _ _ _ _ _ (@ę _ _ _ _ _ (@Ō _ _ _ _ _ _ _ _ _ _ _ (@ĳ _) (@Ĳ _) (@ă _ _ _ 1 _ _ (by rfl) (by first|exact Or.inl rfl|exact Or.inr (Or.inl rfl)|exact Or.inr (Or.inr rfl)) (by decide) (by decide)) (@Ā _ _ _ _ _ (@Ă _ _ _ _ _ _))))))) (@Ď _ _ _) (by exact Ĵ rfl)) (by decide) (by exact Ĵ rfl) (by rfl)))) ⟨rfl,⟨rfl,Or.inl rfl⟩,trivial⟩))) (@ĭ _ _ _) (by exact Ĵ rfl))) (λ_ _ _ h=> @ak _ _ _ _ _ _ (@xu _) _ _ _ h)))))))
def ZcD(T:Tx K mg a):ī P w K mg base (Ů P w) 4 a.Wv a.Yo ["word","numbers"] (ż ⟨K,Ĩ a⟩ 2 iB):=by
 refine bA (cm:=Ĩ a) (mb:=kJ) T.jg.F Zcb rfl rfl rfl λcdv A outer s H E hr=>?_
 have hu:=hr.units
 exact(ċ (aF (PW.pt (w_and (Ŧ Ż (ř hu) (ă 0) (Ā aj) (Ĺ _)) (m_ (b_ (Ā (ę (Ē (ZcA T) Ċ hr.mo rfl T.eV.m T.eV.F.kp T.eV.b Ĥ (Ć 1 (hr:=Ď)))))))))
  (Č (ĥ (į (pJ T.Zb0 (Qf T) fu hr.mo rfl (Z2c T) T.ň.b Ĥ (Ć 0 (hr:=(Ć 1 (hr:=Ď))))))))
  ŉ)
  (ċ (aF (PW.pt (w_and (Ŧ Ż (ř hu) (ă 0) (Ā aj) (Ĺ _)) (m_ (b_ (Ā (ę (Ē (ZcB T) Ċ hr.mo rfl T.cX.m T.cX.F.kp T.cX.b Ĥ (Ć 1 (hr:=Ď)))))))))
  (Č (ĥ (į (pJ T.Tt (JR T) fu hr.mo rfl (Z1z T) T.ň.b Ĥ (Ć 0 (hr:=(Ć 1 (hr:=Ď))))))))
  ŉ)
  (ċ (aF (PW.pt (w_and (Ŧ Ż (ř hu) (ă 0) (Ā aj) (Ĺ _)) (m_ (b_ (Ā (ę (Ē (Zaz T) Ċ hr.mo rfl T.ŋ.m T.ŋ.F.kp T.ŋ.b Ĥ (Ć 1 (hr:=Ď)))))))))
  (Č (ĥ (į (pJ T.Zb1 (Qg T) fu hr.mo rfl (Z2d T) T.ň.b Ĥ (Ć 0 (hr:=(Ć 1 (hr:=Ď))))))))
  ŉ)
  (ċ (aF (PW.pt (w_and (Ŧ Ż (ř hu) (ă 0) (Ā aj) (Ĺ _)) (m_ (b_ (Ā (ę (Ē (ZcC T) Ċ hr.mo rfl T.cY.m T.cY.F.kp T.cY.b Ĥ (Ć 1 (hr:=Ď)))))))))
  (Č (ĥ (į (pJ T.Tw (JT T) fu hr.mo rfl (Z1A T) T.ň.b Ĥ (Ć 0 (hr:=(Ć 1 (hr:=Ď))))))))
  ŉ)
  (ċ (aF (PW.pt (w_and (Ŧ Ż (ř hu) (ă 0) (Ā aj) (Ĺ _)) (m_ (b_ (Ā (ę (Ē (Zaz T) Ċ hr.mo rfl T.ŋ.m T.ŋ.F.kp T.ŋ.b Ĥ (Ć 1 (hr:=Ď)))))))))
  (Č (ĥ (į (pJ T.Tz (JV T) fu hr.mo rfl (Z1B T) T.ň.b Ĥ (Ć 0 (hr:=(Ć 1 (hr:=Ď))))))))
  ŉ)
  (Č (Av (C:= "BadThing") rfl rfl rE rfl (Z00 T) T.FJ)))))))
def Ze4(T:Tx K mg a):ī P w K mg base (Ů P w) 2 a.ZeE a.ZeM ["_law_cell","_law_size_here","_law_days_here"] (ż ⟨K,Ĩ a⟩ 3 Ea):=by
 refine bA (cm:=Ĩ a) (mb:=Oo) T.bB.F Pr rfl rfl rfl λcdv A outer s H E hr=>?_
 have hu:=hr.units
 exact(ċ (Ĭ (i:=3) Pr.nd rfl (Or.inl rfl) (Ē (Gf T) Ċ hr.mo rfl T.ŗ.m T.ŗ.F.kp T.ŗ.b Ĥ (Ć 0 (hr:=(ė Ă Ď)))))
  (ċ (Ĭ (i:=4) Pr.nd rfl (Or.inl rfl) (į (đ ĸ ĵ (Ā (ģ ĕ Ĕ (ă 3) (Ā Ă) (λ_ _=>rfl))) (Ā (PE.wk (ĩ bT (by rfl) T.fQ PySem.boot_len (ğ (ă 2) ĭ)) λ_ _ _ h=>ak bY h)))))
  (Č (ĥ (į (Ő (Ĉ (Ő (Ĉ (đ ĸ ĵ (Ā (ģ ĕ Ĕ (ă 3) (Ā Ă) (λ_ _=>rfl))) (Ā (ģ ĕ Ĕ (ă 1) (Ā Ă) (λ_ _=>rfl)))) (Ĉ (đ ĸ ĵ (Ā (ģ ĕ Ĕ (ă 3) (Ā Ă) (λ_ _=>rfl))) (Ā (ģ ĕ Ĕ (ă 1) (Ā Ă) (λ_ _=>rfl)))) ħ))) (Ĉ (v_var 4) (Ĉ (đ ĸ ĵ (Ā (ģ ĕ Ĕ (ă 3) (Ā Ă) (λ_ _=>rfl))) (Ā (PE.wk (ĩ bT (by rfl) T.fQ PySem.boot_len (ğ (Ā (ģ ĕ Ĕ (Ā (ģ ĕ Ĕ (ă 2) (ă 4) (λ_ _=>rfl))) (Ā Ă) (λ_ _=>rfl))) ĭ)) λ_ _ _ h=>ak bY h))) ħ)))))))))
def ZcE(T:Tx K mg a):ī P w K mg base (Ů P w) 1 a.Ww a.Yp ["yard","stone"] (ż ⟨K,Ĩ a⟩ 2 oH):=by
 refine bA (cm:=Ĩ a) (mb:=nD) T.gn.F Zcc rfl rfl rfl λcdv A outer s H E hr=>?_
 have hu:=hr.units
 exact(Č (ĥ (į (v_and (vo iw mF gQ lZ (Ā Ă) (Ā (ģ ĕ Ĕ (ă 1) (Ā Ă) (λ_ _=>rfl))) (Ā (jt ["Yard"] ⟨⟨T.jl,T.oV⟩,trivial⟩ (ă 0)))) (jQ (vo iw mF gQ lZ (Ā Ă) (Ā (ģ ĕ Ĕ (ă 1) (Ā Ă) (λ_ _=>rfl))) (Ā (jt ["Yard"] ⟨⟨T.jl,T.mV⟩,trivial⟩ (ă 0)))))))))
def ZcF(T:Tx K mg a):ī P w K mg base (Ů P w) 3 a.Wx a.Yq ["yard","stone"] (ż ⟨K,Ĩ a⟩ 2 vV):=by
 refine bA (cm:=Ĩ a) (mb:=yL) T.cZ.F Zcd rfl rfl rfl λcdv A outer s H E hr=>?_
 have hu:=hr.units
 exact(Č (aF (mz (b_ (Ā (ę (Ē (ZcE T) Ċ hr.mo rfl T.gn.m T.gn.F.kp T.gn.b Ĥ (Ć 0 (hr:=(Ć 1 (hr:=Ď)))))))))
  (Č (Bd (C:= "NoStone") rfl rfl rE T.JQ (Ze1 T) hr.mo rfl (ZD T) T.fP.b Ĥ (Ĉ (v_var 1) ħ)))
  ŉ))
def ZcG(T:Tx K mg a):ī P w K mg base (Ů P w) 1 a.Wy a.Yr ["yard","day"] (ż ⟨K,Ĩ a⟩ 2 vW):=by
 refine bA (cm:=Ĩ a) (mb:=tQ) T.lO.F Zce rfl rfl rfl λcdv A outer s H E hr=>?_
 have hu:=hr.units
 exact(Č (ĥ (į (vo iw mF gQ lZ (Ā Ă) (ă 1) (Ā (PE.wk (ĩ bT (by rfl) T.fQ PySem.boot_len (ğ (Ā (jt ["Yard"] ⟨⟨T.jl,T.lq⟩,trivial⟩ (ă 0))) ĭ)) λ_ _ _ h=>ak bY h))))))
def Gg(T:Tx K mg a):ī P w K mg base (Ů P w) 1 a.Wz a.Ys ["yard","day"] (ż ⟨K,Ĩ a⟩ 2 oJ):=by
 refine bA (cm:=Ĩ a) (mb:=Eb) T.ŵ.F Zcf rfl rfl rfl λcdv A outer s H E hr=>?_
 have hu:=hr.units
 exact(Č (ĥ (į (ģ ĕ Ĕ (Ā (ģ ĕ Ĕ (Ā (jt ["Yard"] ⟨⟨T.jl,T.lq⟩,trivial⟩ (ă 0))) (ă 1) (λ_ _=>rfl))) (Ā Ă) (λ_ _=>rfl)))))
def ZcH(T:Tx K mg a):ī P w K mg base (Ů P w) 3 a.WD a.Yt ["yard","day","turn"] (ż ⟨K,Ĩ a⟩ 3 qy):=by
 refine bA (cm:=Ĩ a) (mb:=pQ) T.eX.F Zcg rfl rfl rfl λcdv A outer s H E hr=>?_
 have hu:=hr.units
 exact(Č (aF (PW.pt (w_or (mz (b_ (Ā (ę (Ē (ZcG T) Ċ hr.mo rfl T.lO.m T.lO.F.kp T.lO.b Ĥ (Ć 0 (hr:=(Ć 1 (hr:=Ď))))))))) (vp (mz (Lw iw mF gQ lZ (Ā Ă) (ă 2) (Ā (PE.wk (ĩ bT (by rfl) T.fQ PySem.boot_len (ğ (Ā (ę (Ē (Gg T) Ċ hr.mo rfl T.ŵ.m T.ŵ.F.kp T.ŵ.b Ĥ (Ć 0 (hr:=(Ć 1 (hr:=Ď))))))) ĭ)) λ_ _ _ h=>ak bY h)))))))
  (Č (Bd (C:= "NoTurn") rfl rfl rE T.Pk (Ze2 T) hr.mo rfl (ZN T) T.gC.b Ĥ (Ĉ (v_var 1) (Ĉ (v_var 2) ħ))))
  ŉ))
def ZcI(T:Tx K mg a):ī P w K mg base (Ů P w) 4 a.WK a.Yu ["yard","wants"] (ż ⟨K,Ĩ a⟩ 2 vX):=by
 refine bA (cm:=Ĩ a) (mb:=yM) T.dg.F zK rfl rfl rfl λcdv A outer s H E hr=>?_
 have hu:=hr.units
 exact(Č (dF PassesOwn.leaving rfl (aW 1) (jT rfl (ĺ (Ħ (i:=2) zK.nd rfl (Or.inl rfl)) (ĺ (Ħ (i:=3) zK.nd rfl (Or.inl rfl)) (ĺ (Ħ (i:=4) zK.nd rfl (Or.inl rfl)) bV))))
  (ċ (wV (ę (Ē (ZcF T) Ċ hr.mo rfl T.cZ.m T.cZ.F.kp T.cZ.b Ĥ (Ć 0 (hr:=(Ć 2 (hr:=Ď)))))))
  (Č (wV (ę (Ē (ZcH T) Ċ hr.mo rfl T.eX.m T.eX.F.kp T.eX.b Ĥ (Ć 0 (hr:=(Ć 3 (hr:=(Ć 4 (hr:=Ď)))))))))))))
def Gh(T:Tx K mg a):ī P w K mg base (Ů P w) 1 a.WL a.Yw ["values","choice"] (ż ⟨K,Ĩ a⟩ 2 qC):=by
 refine bA (cm:=Ĩ a) (mb:=Ec) T.bJ.F Zch rfl rfl rfl λcdv A outer s H E hr=>?_
 have hu:=hr.units
 exact(Č (ĥ (bH ["choice","number","value"] [1] 2 (ć N_) rfl rfl (DG rfl T.k_ (Nr 0)) (λ_ _ _ _ _=>(jT rfl (ĺ (Ħ (i:=1) (show(["choice","number","value"]:List Str).Nodup by decide +kernel) rfl (Or.inl rfl) (hf:=Or.inr rfl)) (ĺ (Ħ (i:=2) (show(["choice","number","value"]:List Str).Nodup by decide +kernel) rfl (Or.inl rfl) (hf:=Or.inr rfl)) bV)))) (λ_ _ _ _ _=>(Lz (b_ (Ā (đ Hq Hr (Ā (đ LQ L_ (ă 0) (ă 1))) (Ā Ă)))))) (λ_ _ _ _ _=>(v_var 2)) ⟨rfl,⟨rfl,Or.inl rfl⟩,trivial⟩)))
def ZcJ(T:Tx K mg a):ī P w K mg base (Ů P w) 4 a.Ov a.Yx ["prices","choices"] (ż ⟨K,Ĩ a⟩ 2 Ig):=by
 refine Zhq (cm:=Ĩ a) (mb:=Ed) T.jh.F Zci rfl rfl rfl T.FN λcc Pt htb A outer s H E hr=>?_
 have hu:=hr.units
 exact(Č (ĥ (į (ZbN (k:=1) ["prices"] [0] (ć Oa) hr.mo rfl rfl (by simp[lams]) htb rfl rfl rfl T.ur (ğ (ă 1) ĭ) (λ_ _ _ _ _ hr hu=>(PE.wk (ĩ (xR rfl) (by rfl) T.IV PyProof.Rows.boot_sum (ğ (Ā (ę (Ē (Gh T) Ċ hr.mo rfl T.bJ.m T.bJ.F.kp T.bJ.b ů (Ć 0 (hr:=(Ć 1 (hr:=Ď))))))) ĭ)) λ_ _ _ h=>ak xT h)) ⟨rfl,⟨rfl,Or.inl rfl⟩,trivial⟩))))
def ZcK(T:Tx K mg a):ī P w K mg base (Ů P w) 1 a.WM a.Yy ["met","many"] (ż ⟨K,Ĩ a⟩ 2 vY):=by
 refine bA (cm:=Ĩ a) (mb:=yO) T.bM.F Pu rfl rfl rfl λcdv A outer s H E hr=>?_
 have hu:=hr.units
 exact(ċ (dF PassesOwn.leaving rfl (aG rfl T.bR (Ĉ (v_var 1) ħ)) (Ħ (i:=2) Pu.nd rfl (Or.inl rfl))
  (Č (aF (mz (b_ (Ā (đ Hq Hr (Ā (đ LQ L_ (ă 0) (ă 2))) (Ā Ă)))))
  (Č (ĥ (jq 2)))
  ŉ)))
  (Č (ĥ (į jP))))
def ZcL(T:Tx K mg a):ī P w K mg base (Ů P w) 2 a.WQ a.Yz ["covers","choice","base"] (ż ⟨K,Ĩ a⟩ 3 Bx):=by
 refine bA (cm:=Ĩ a) (mb:=Eh) T.oN.F zL rfl rfl rfl λcdv A outer s H E hr=>?_
 have hu:=hr.units
 exact(ċ (Ĭ (i:=3) zL.nd rfl (Or.inl rfl) (į (v_var 2)))
  (ċ (dF PassesOwn.leaving rfl (jr (ę (Ē (Gh T) Ċ hr.mo rfl T.bJ.m T.bJ.F.kp T.bJ.b Ĥ (Ć 0 (hr:=(Ć 1 (hr:=Ď))))))) (Ħ (i:=4) zL.nd rfl (Or.inl rfl))
  (Č (Nt (i:=3) zL.nd rfl (Or.inl rfl) (v_var 4))))
  (Č (ĥ (jq 3)))))
def ZcM(T:Tx K mg a):ī P w K mg base (Ů P w) 5 a.WR a.YB ["prices","covers","many","base"] (ż ⟨K,Ĩ a⟩ 4 BJ):=by
 refine Zhr (cm:=Ĩ a) (mb:=yP) T.cF.F FP rfl rfl rfl λcdv A outer s H E hr=>?_
 have hu:=hr.units
 exact(ċ (fL (i:=4) FP.nd rfl rfl ["many","covers","base","choice"] [2,1,3] 1 (ć HY) rfl rfl (aG rfl T.bR (Ĉ (đ LK LR (Ā Ă) (Ā (PE.wk (ĩ bT (by rfl) T.fQ PySem.boot_len (ğ (ă 0) ĭ)) λ_ _ _ h=>ak bY h))) ħ)) (λ_ _ _ _ _=>(Ħ (i:=3) (show(["many","covers","base","choice"]:List Str).Nodup by decide +kernel) rfl (Or.inl rfl) (hf:=Or.inr rfl))) (λ_ _ _ _ _=>Ţ) (λ_ _ _ _ _=>(ę (Ē (ZcK T) Ċ hr.mo rfl T.bM.m T.bM.F.kp T.bM.b ů (ė (ę (Ē (ZcL T) Ċ hr.mo rfl T.oN.m T.oN.F.kp T.oN.b ů (Ć 1 (hr:=(Ć 3 (hr:=(Ć 2 (hr:=Ď)))))))) (Ć 0 (hr:=Ď)))))) ⟨rfl,⟨rfl,Or.inl rfl⟩,⟨rfl,⟨rfl,Or.inl rfl⟩,⟨rfl,⟨rfl,Or.inl rfl⟩,trivial⟩⟩⟩)
  (ċ (aF (Ŧ sG wH (Ā (ģ ĕ Ĕ (ă 4) (Ā (Ad jZ jL (Ā Ă))) (λ_ _=>rfl))) (Ā jP) (Ĺ _))
  (Č (ĥ (į (Ő (Ĉ aj (Ĉ (ģ ĕ Ĕ (ă 4) (Ā (Ad jZ jL (Ā Ă))) (λ_ _=>rfl)) ħ))))))
  ŉ)
  (ċ (Ĭ (i:=5) FP.nd rfl (Or.inl rfl) (Ē (ZcJ T) Ċ hr.mo rfl T.jh.m T.jh.F.kp T.jh.b Ĥ (Ć 0 (hr:=(ė (ę (bH ["number","want"] [] 2 (ć HY) rfl rfl (DG rfl T.k_ (Nr 4)) (λ_ _ _ _ _=>(jT rfl (ĺ (Ħ (i:=0) (show(["number","want"]:List Str).Nodup by decide +kernel) rfl (Or.inl rfl) (hf:=Or.inr rfl)) (ĺ (Ħ (i:=1) (show(["number","want"]:List Str).Nodup by decide +kernel) rfl (Or.inl rfl) (hf:=Or.inr rfl)) bV)))) (λ_ _ _ _ _=>(Lz (Ŧ Hv wG (ă 1) (Ā jP) (Ĺ _)))) (λ_ _ _ _ _=>(v_var 0)) trivial)) Ď)))))
  (Č (ĥ (į (Ő (Ĉ aj (Ĉ (v_var 5) (Ĉ (PE.wk (ĩ (xR rfl) (by rfl) T.IV PyProof.Rows.boot_sum (ğ (Ā (ę (Ē (Gh T) Ċ hr.mo rfl T.bJ.m T.bJ.F.kp T.bJ.b Ĥ (Ć 0 (hr:=(Ć 5 (hr:=Ď))))))) ĭ)) λ_ _ _ h=>ak xT h) (Ĉ (v_var 4) ħ)))))))))))
def Qi(T:Tx K mg a):ī P w K mg base (Ů P w) 1 a.WT a.YC ["truths"] (ż ⟨K,Ĩ a⟩ 1 BK):=by
 refine bA (cm:=Ĩ a) (mb:=Ei) T.Ŷ.F uz rfl rfl rfl λcdv A outer s H E hr=>?_
 have hu:=hr.units
 exact(ċ (Ĭ (i:=1) uz.nd rfl (Or.inl rfl) (į Ă))
  (ċ (dF PassesOwn.leaving rfl (DG rfl T.k_ (Nr 0)) (jT rfl (ĺ (Ħ (i:=2) uz.nd rfl (Or.inl rfl)) (ĺ (Ħ (i:=3) uz.nd rfl (Or.inl rfl)) bV)))
  (Č (aF (b_ (ă 3))
  (Č (Nt (i:=1) uz.nd rfl (Or.inl rfl) (đ LK LR (Ā Ă) (ă 2))))
  ŉ)))
  (Č (ĥ (jq 1)))))
def ZcN(T:Tx K mg a):ī P w K mg base (Ů P w) 1 a.WW a.YD ["points"] (ż ⟨K,Ĩ a⟩ 1 Ih):=by
 refine bA (cm:=Ĩ a) (mb:=Ej) T.gq.F FQ rfl rfl rfl λcdv A outer s H E hr=>?_
 have hu:=hr.units
 exact(ċ (fL (i:=1) FQ.nd rfl rfl ["point"] [] 1 (ć H_) rfl rfl (aW 0) (λ_ _ _ _ _=>(Ħ (i:=0) (show(["point"]:List Str).Nodup by decide +kernel) rfl (Or.inl rfl) (hf:=Or.inr rfl))) (λ_ _ _ _ _=>Ţ) (λ_ _ _ _ _=>(ģ ĕ Ĕ (ă 0) (Ā Ă) (λ_ _=>rfl))) trivial)
  (ċ (fL (i:=2) FQ.nd rfl rfl ["point"] [] 1 (ć H_) rfl rfl (aW 0) (λ_ _ _ _ _=>(Ħ (i:=0) (show(["point"]:List Str).Nodup by decide +kernel) rfl (Or.inl rfl) (hf:=Or.inr rfl))) (λ_ _ _ _ _=>Ţ) (λ_ _ _ _ _=>(ģ ĕ Ĕ (ă 0) (Ā Ă) (λ_ _=>rfl))) trivial)
  (Č (ĥ (ź (Ĉ (Ő (Ĉ Ă (Ĉ Ă (Ĉ (PE.wk (ĩ (Du rfl) (by rfl) T.Pj PyProof.Rows.boot_max (ğ (ă 1) ĭ)) λ_ _ _ h=>ak Dw h) ħ)))) (Ĉ (Ő (Ĉ (Ad jZ jL (Ā Ă)) (Ĉ Ă (Ĉ (Ad jZ jL (Ā (PE.wk (ĩ (Dv rfl) (by rfl) T.ur PyProof.Rows.boot_min (ğ (ă 1) ĭ)) λ_ _ _ h=>ak Dz h))) ħ)))) (Ĉ (Ő (Ĉ Ă (Ĉ Ă (Ĉ (PE.wk (ĩ (Du rfl) (by rfl) T.Pj PyProof.Rows.boot_max (ğ (ă 2) ĭ)) λ_ _ _ h=>ak Dw h) ħ)))) (Ĉ (Ő (Ĉ Ă (Ĉ (Ad jZ jL (Ā Ă)) (Ĉ (Ad jZ jL (Ā (PE.wk (ĩ (Dv rfl) (by rfl) T.ur PyProof.Rows.boot_min (ğ (ă 2) ĭ)) λ_ _ _ h=>ak Dz h))) ħ)))) ħ)))))))))
def ZcO(T:Tx K mg a):ī P w K mg base (Ů P w) 1 a.WX a.YF ["points"] (ż ⟨K,Ĩ a⟩ 1 Ii):=by
 refine bA (cm:=Ĩ a) (mb:=Ek) T.gw.F FT rfl rfl rfl λcdv A outer s H E hr=>?_
 have hu:=hr.units
 exact(ċ (Ĭ (i:=1) FT.nd rfl (Or.inl rfl) (ź ħ))
  (ċ (dF PassesOwn.leaving rfl (aW 0) (Ħ (i:=2) FT.nd rfl (Or.inl rfl))
  (Č (aF (Ŧ ZbK (JH hu) (ă 2) (ă 1) (by with_unfolding_all rfl))
  (Č (PS.wk (fX (rQ PySem.F.plainAttrs_list PySem.F.slot_list_append PySem.F.type_list_append cR (pv 1) (Ĉ (v_var 2) ħ))) λ_ _ _ h=>nU h))
  ŉ)))
  (Č (ĥ (jq 1)))))
def ZcP(T:Tx K mg a):ī P w K mg base (Ů P w) 1 a.WY a.YG ["one","other"] (ż ⟨K,Ĩ a⟩ 2 Ij):=by
 refine bA (cm:=Ĩ a) (mb:=El) T.cG.F FW rfl rfl rfl λcdv A outer s H E hr=>?_
 have hu:=hr.units
 exact(ċ (Ĭ (i:=2) FW.nd rfl (Or.inl rfl) (į (đ Ş Ŝ (Ā (ģ ĕ Ĕ (ă 1) (Ā Ă) (λ_ _=>rfl))) (Ā (ģ ĕ Ĕ (ă 0) (Ā Ă) (λ_ _=>rfl))))))
  (ċ (Ĭ (i:=3) FW.nd rfl (Or.inl rfl) (į (đ Ş Ŝ (Ā (ģ ĕ Ĕ (ă 0) (Ā Ă) (λ_ _=>rfl))) (Ā (ģ ĕ Ĕ (ă 1) (Ā Ă) (λ_ _=>rfl))))))
  (Č (ĥ (į (Ő (Ĉ (v_var 2) (Ĉ (v_var 3) (Ĉ (ę (Ō ĳ Ĳ (Ā (đ ō Ļ (ă 2) (Ā (ģ ĕ Ĕ (ă 0) (Ā Ă) (λ_ _=>rfl))))) (Ā (đ ō Ļ (ă 3) (Ā (ģ ĕ Ĕ (ă 0) (Ā Ă) (λ_ _=>rfl))))))) ħ)))))))))
def Qj(T:Tx K mg a):ī P w K mg base (Ů P w) 1 a.W_ a.YH ["line","pair"] (ż ⟨K,Ĩ a⟩ 2 tW):=by
 refine bA (cm:=Ĩ a) (mb:=Em) T.ji.F Zcj rfl rfl rfl λcdv A outer s H E hr=>?_
 have hu:=hr.units
 exact(Č (ĥ (į (dR iw gQ (Ā (ę (Ō ĳ Ĳ (Ā (đ ō Ļ (Ā (ģ ĕ Ĕ (ă 0) (Ā Ă) (λ_ _=>rfl))) (Ā (ģ ĕ Ĕ (ă 1) (Ā Ă) (λ_ _=>rfl))))) (Ā (đ ō Ļ (Ā (ģ ĕ Ĕ (ă 0) (Ā Ă) (λ_ _=>rfl))) (Ā (ģ ĕ Ĕ (ă 1) (Ā Ă) (λ_ _=>rfl)))))))) (Ā (ģ ĕ Ĕ (ă 0) (Ā Ă) (λ_ _=>rfl))) (Ĺ _)))))
def ZcQ(T:Tx K mg a):ī P w K mg base (Ů P w) 2 a.Xa a.YJ ["points"] (ż ⟨K,Ĩ a⟩ 1 Ik):=by
 refine bA (cm:=Ĩ a) (mb:=En) T.eY.F qd rfl rfl rfl λcdv A outer s H E hr=>?_
 have hu:=hr.units
 exact(ċ (Ĭ (i:=1) qd.nd rfl (Or.inl rfl) (ź ħ))
  (ċ (Ĭ (i:=2) qd.nd rfl (Or.inl rfl) (Ē (ZcO T) Ċ hr.mo rfl T.gw.m T.gw.F.kp T.gw.b Ĥ (Ć 0 (hr:=Ď))))
  (ċ (dF PassesOwn.leaving rfl (aW 2) (Ħ (i:=3) qd.nd rfl (Or.inl rfl))
  (Č (dF PassesOwn.leaving rfl (aW 2) (Ħ (i:=4) qd.nd rfl (Or.inl rfl))
  (ċ (Ĭ (i:=5) qd.nd rfl (by first|exact Or.inl rfl|exact Or.inr rfl) (Ē (ZcP T) Ċ hr.mo rfl T.cG.m T.cG.F.kp T.cG.b Ĥ (Ć 3 (hr:=(Ć 4 (hr:=Ď))))))
  (Č (aF (PW.pt (w_and (Ŧ Hs (wM hu) (ă 3) (ă 4) (Ĺ _)) (m_ (b_ (Ā (PE.wk (ĩ (wN rfl) (by rfl) T.IK PyProof.Rows.boot_all (ğ (Ā (ę (bH ["line","point"] [5] 1 (ć Ob) rfl rfl (aW 2) (λ_ _ _ _ _=>(Ħ (i:=1) (show(["line","point"]:List Str).Nodup by decide +kernel) rfl (Or.inl rfl) (hf:=Or.inr rfl))) (λ_ _ _ _ _=>Ţ) (λ_ _ _ _ _=>(ę (Ē (Qj T) Ċ hr.mo rfl T.ji.m T.ji.F.kp T.ji.b ů (Ć 0 (hr:=(Ć 1 (hr:=Ď))))))) ⟨rfl,⟨rfl,Or.inl rfl⟩,trivial⟩))) ĭ)) λ_ _ _ h=>ak xu h))))))
  (Č (PS.wk (fX (rQ PySem.F.plainAttrs_list PySem.F.slot_list_append PySem.F.type_list_append cR (pv 1) (Ĉ (v_var 5) ħ))) λ_ _ _ h=>nU h))
  ŉ))))))
  (Č (ĥ (jq 1))))))
def ZcR(T:Tx K mg a):ī P w K mg base (Ů P w) 3 a.Xb a.YK ["points"] (ż ⟨K,Ĩ a⟩ 1 Il):=by
 refine bA (cm:=Ĩ a) (mb:=Eo) T.dh.F Zck rfl rfl rfl λcdv A outer s H E hr=>?_
 have hu:=hr.units
 exact(Č (ĥ (Ō ĳ Ĳ (Ā (ę (Ē (ZcN T) Ċ hr.mo rfl T.gq.m T.gq.F.kp T.gq.b Ĥ (Ć 0 (hr:=Ď))))) (Ā (ę (Ē (ZcQ T) Ċ hr.mo rfl T.eY.m T.eY.F.kp T.eY.b Ĥ (Ć 0 (hr:=Ď))))))))
def ZcS(T:Tx K mg a):ī P w K mg base (Ů P w) 4 a.Xc a.YL ["points","point"] (ż ⟨K,Ĩ a⟩ 2 BL):=by
 refine bA (cm:=Ĩ a) (mb:=yS) T.cH.F Px rfl rfl rfl λcdv A outer s H E hr=>?_
 have hu:=hr.units
 exact(ċ (dF PassesOwn.leaving rfl (jr (ę (Ē (ZcR T) Ċ hr.mo rfl T.dh.m T.dh.F.kp T.dh.b Ĥ (Ć 0 (hr:=Ď))))) (Ħ (i:=2) Px.nd rfl (Or.inl rfl))
  (Č (aF (mz (b_ (Ā (ę (Ē (Qj T) Ċ hr.mo rfl T.ji.m T.ji.F.kp T.ji.b Ĥ (Ć 2 (hr:=(Ć 1 (hr:=Ď)))))))))
  (Č (ĥ (jq 2)))
  ŉ)))
  (Č (ĥ (į jP))))
def Qk(T:Tx K mg a):ī P w K mg base (Ů P w) 1 a.Xd a.YM ["many"] (ż ⟨K,Ĩ a⟩ 1 BP):=by
 refine bA (cm:=Ĩ a) (mb:=Ep) T.ŷ.F FZ rfl rfl rfl λcdv A outer s H E hr=>?_
 have hu:=hr.units
 exact(ċ (Ĭ (i:=1) FZ.nd rfl (Or.inl rfl) (ź ħ))
  (ċ (dF PassesOwn.leaving rfl (aG rfl T.bR (Ĉ (v_var 0) ħ)) (Ħ (i:=2) FZ.nd rfl (by first|exact Or.inl rfl|exact Or.inr rfl))
  (Č (PS.wk (fX (rQ PySem.F.plainAttrs_list PySem.F.slot_list_extend PySem.F.type_list_extend vd (pv 1) (dY (bH ["second","first"] [2] 1 (ć Oc) rfl rfl (aG rfl T.bR (Ĉ (v_var 2) ħ)) (λ_ _ _ _ _=>(Ħ (i:=1) (show(["second","first"]:List Str).Nodup by decide +kernel) rfl (Or.inl rfl) (hf:=Or.inr rfl))) (λ_ _ _ _ _=>Ţ) (λ_ _ _ _ _=>(Ő (Ĉ (v_var 1) (Ĉ (v_var 0) ħ)))) ⟨rfl,⟨rfl,Or.inl rfl⟩,trivial⟩) mY))) λ_ _ _ h=>HN h)))
  (Č (ĥ (jq 1)))))
def ZcT(T:Tx K mg a):ī P w K mg base (Ů P w) 2 a.Xe a.YQ ["many"] (ż ⟨K,Ĩ a⟩ 1 Im):=by
 refine bA (cm:=Ĩ a) (mb:=Er) T.bN.F Ga rfl rfl rfl λcdv A outer s H E hr=>?_
 have hu:=hr.units
 exact(ċ (Ĭ (i:=1) Ga.nd rfl (Or.inl rfl) (ź ħ))
  (ċ (dF PassesOwn.leaving rfl (aG rfl T.bR (Ĉ (v_var 0) ħ)) (Ħ (i:=2) Ga.nd rfl (by first|exact Or.inl rfl|exact Or.inr rfl))
  (Č (PS.wk (fX (rQ PySem.F.plainAttrs_list PySem.F.slot_list_extend PySem.F.type_list_extend vd (pv 1) (dY (bH ["third","pair"] [2] 1 (ć Od) rfl rfl (Ny (jr (ę (Ē (Qk T) Ċ hr.mo rfl T.ŷ.m T.ŷ.F.kp T.ŷ.b ů (Ć 2 (hr:=Ď)))))) (λ_ _ _ _ _=>(Ħ (i:=1) (show(["third","pair"]:List Str).Nodup by decide +kernel) rfl (Or.inl rfl) (hf:=Or.inr rfl))) (λ_ _ _ _ _=>Ţ) (λ_ _ _ _ _=>(Ő (Ĉ (ģ ĕ Ĕ (ă 1) (Ā Ă) (λ_ _=>rfl)) (Ĉ (ģ ĕ Ĕ (ă 1) (Ā Ă) (λ_ _=>rfl)) (Ĉ (v_var 0) ħ))))) ⟨rfl,⟨rfl,Or.inl rfl⟩,trivial⟩) mY))) λ_ _ _ h=>HN h)))
  (Č (ĥ (jq 1)))))
def Ze5(T:Tx K mg a):ī P w K mg base (Ů P w) 1 a.ZeF a.ZeN ["one","other"] (ż ⟨K,Ĩ a⟩ 2 Tc):=by
 refine bA (cm:=Ĩ a) (mb:=Oq) T.aB.F IW rfl rfl rfl λcdv A outer s H E hr=>?_
 have hu:=hr.units
 exact(ċ (Rz PassesOwn.leaving (Ŧ Hs (wM hu) (ă 1) (Ā Ă) (Ĺ _))
  (ċ (Ĭ (i:=2) IW.nd rfl (Or.inl rfl) (į (đ ĸ ĵ (ă 0) (ă 1))))
  (ċ (Ĭ (i:=0) IW.nd rfl (Or.inl rfl) (į (v_var 1)))
  (Č (Ĭ (i:=1) IW.nd rfl (Or.inl rfl) (į (v_var 2)))))))
  (Č (ĥ (į (PE.wk (ĩ Zbj (by rfl) T.ZeS PyProof.Rows.boot_abs (ğ (ă 0) ĭ)) λ_ _ _ h=>ak Zbw h)))))
def Ql(T:Tx K mg a):ī P w K mg base (Ů P w) 2 a.Xf a.YT ["top","bottom"] (ż ⟨K,Ĩ a⟩ 2 qD):=by
 refine bA (cm:=Ĩ a) (mb:=yU) T.jj.F Gb rfl rfl rfl λcdv A outer s H E hr=>?_
 have hu:=hr.units
 exact(ċ (aF (Ŧ Ż (ř hu) (ă 1) (Ā Ă) (Ĺ _))
  (Č (Av (C:= "NoNumber") rfl rfl rE rfl (ZZ T) T.Fz))
  ŉ)
  (ċ (Ĭ (i:=2) Gb.nd rfl (Or.inl rfl) (Ē (Ze5 T) Ċ hr.mo rfl T.aB.m T.aB.F.kp T.aB.b Ĥ (Ć 0 (hr:=(Ć 1 (hr:=Ď))))))
  (ċ (aF (Ŧ mF lZ (ă 1) (Ā Ă) (Ĺ _))
  (Č (Ĭ (i:=2) Gb.nd rfl (Or.inl rfl) (į (Ad jZ jL (ă 2)))))
  ŉ)
  (Č (ĥ (į (Ő (Ĉ (đ ŭ Ś (ă 0) (ă 2)) (Ĉ (đ ŭ Ś (ă 1) (ă 2)) ħ)))))))))
def Gi(T:Tx K mg a):ī P w K mg base (Ů P w) 3 a.Xg a.YW ["shares","places","many"] (ż ⟨K,Ĩ a⟩ 3 oK):=by
 refine bA (cm:=Ĩ a) (mb:=pW) T.bK.F uD rfl rfl rfl λcdv A outer s H E hr=>?_
 have hu:=hr.units
 exact(ċ (Ĭ (i:=3) uD.nd rfl (by first|exact Or.inl rfl|exact Or.inr rfl) (į (PE.wk (ĩ (xR rfl) (by rfl) T.IV PyProof.Rows.boot_sum (ğ (ă 0) ĭ)) λ_ _ _ h=>ak xT h)))
  (ċ (fL (i:=4) uD.nd rfl rfl ["whole","place"] [3] 1 (ć Oe) rfl rfl (aG rfl T.bR (Ĉ (v_var 2) ħ)) (λ_ _ _ _ _=>(Ħ (i:=1) (show(["whole","place"]:List Str).Nodup by decide +kernel) rfl (Or.inl rfl) (hf:=Or.inr rfl))) (λ_ _ _ _ _=>Ţ) (λ_ _ _ _ _=>(ę (Ē (Ql T) Ċ hr.mo rfl T.jj.m T.jj.F.kp T.jj.b ů (ė Ă (Ć 0 (hr:=Ď)))))) ⟨rfl,⟨rfl,Or.inl rfl⟩,trivial⟩)
  (ċ (dF PassesOwn.leaving rfl (Zem rfl T.ZeU (Uu 0) (Uu 1)) (jT rfl (ĺ (Ħ (i:=5) uD.nd rfl (Or.inl rfl)) (ĺ (Ħ (i:=6) uD.nd rfl (Or.inl rfl)) bV)))
  (Č (Hi (i:=4) (ę (Ē (Ql T) Ċ hr.mo rfl T.jj.m T.jj.F.kp T.jj.b Ĥ (Ć 5 (hr:=(Ć 3 (hr:=Ď)))))) (v_var 6) (pv 4))))
  (Č (ĥ (jq 4))))))
def Gj(T:Tx K mg a):ī P w K mg base (Ů P w) 1 a.Xh a.YX ["one","other","third"] (ż ⟨K,Ĩ a⟩ 3 vZ):=by
 refine bA (cm:=Ĩ a) (mb:=Es) T.bL.F Py rfl rfl rfl λcdv A outer s H E hr=>?_
 have hu:=hr.units
 exact(ċ (Ĭ (i:=3) Py.nd rfl (Or.inl rfl) (į (đ ō Ļ (Ā (đ Ş Ŝ (Ā (ģ ĕ Ĕ (ă 1) (Ā Ă) (λ_ _=>rfl))) (Ā (ģ ĕ Ĕ (ă 0) (Ā Ă) (λ_ _=>rfl))))) (Ā (đ Ş Ŝ (Ā (ģ ĕ Ĕ (ă 2) (Ā Ă) (λ_ _=>rfl))) (Ā (ģ ĕ Ĕ (ă 0) (Ā Ă) (λ_ _=>rfl))))))))
  (Č (ĥ (į (đ Ş Ŝ (ă 3) (Ā (đ ō Ļ (Ā (đ Ş Ŝ (Ā (ģ ĕ Ĕ (ă 1) (Ā Ă) (λ_ _=>rfl))) (Ā (ģ ĕ Ĕ (ă 0) (Ā Ă) (λ_ _=>rfl))))) (Ā (đ Ş Ŝ (Ā (ģ ĕ Ĕ (ă 2) (Ā Ă) (λ_ _=>rfl))) (Ā (ģ ĕ Ĕ (ă 0) (Ā Ă) (λ_ _=>rfl))))))))))))
def Ze6(T:Tx K mg a):ī P w K mg base (Ů P w) 2 a.ZeG a.ZeO ["corners","point"] (ż ⟨K,Ĩ a⟩ 2 Td):=by
 refine bA (cm:=Ĩ a) (mb:=Ot) T.aO.F I_ rfl rfl rfl λcdv A outer s H E hr=>?_
 have hu:=hr.units
 exact(ċ (Ĭ (i:=2) I_.nd rfl (Or.inl rfl) (į (ģ ĕ Ĕ (ă 0) (Ā Ă) (λ_ _=>rfl))))
  (ċ (Ĭ (i:=3) I_.nd rfl (Or.inl rfl) (į (ģ ĕ Ĕ (ă 0) (Ā Ă) (λ_ _=>rfl))))
  (ċ (Ĭ (i:=4) I_.nd rfl (Or.inl rfl) (į (ģ ĕ Ĕ (ă 0) (Ā Ă) (λ_ _=>rfl))))
  (Č (ĥ (ź (Ĉ (ę (Ē (Gj T) Ċ hr.mo rfl T.bL.m T.bL.F.kp T.bL.b Ĥ (Ć 1 (hr:=(Ć 3 (hr:=(Ć 4 (hr:=Ď)))))))) (Ĉ (ę (Ē (Gj T) Ċ hr.mo rfl T.bL.m T.bL.F.kp T.bL.b Ĥ (Ć 2 (hr:=(Ć 1 (hr:=(Ć 4 (hr:=Ď)))))))) (Ĉ (ę (Ē (Gj T) Ċ hr.mo rfl T.bL.m T.bL.F.kp T.bL.b Ĥ (Ć 2 (hr:=(Ć 3 (hr:=(Ć 1 (hr:=Ď)))))))) ħ)))))))))
def Qm(T:Tx K mg a):ī P w K mg base (Ů P w) 1 a.Xi a.YZ ["shares"] (ż ⟨K,Ĩ a⟩ 1 wg):=by
 refine bA (cm:=Ĩ a) (mb:=yW) T.Ÿ.F Pz rfl rfl rfl λcdv A outer s H E hr=>?_
 have hu:=hr.units
 exact(ċ (Ĭ (i:=1) Pz.nd rfl (by first|exact Or.inl rfl|exact Or.inr rfl) (į (PE.wk (ĩ (xR rfl) (by rfl) T.IV PyProof.Rows.boot_sum (ğ (ă 0) ĭ)) λ_ _ _ h=>ak xT h)))
  (Č (ĥ (į (v_and (dR Hs (wM hu) (ă 1) (Ā Ă) (Ĺ _)) (jQ (PE.wk (ĩ (wN rfl) (by rfl) T.IK PyProof.Rows.boot_all (ğ (Ā (ę (bH ["whole","share"] [1] 1 (ć Og) rfl rfl (aW 0) (λ_ _ _ _ _=>(Ħ (i:=1) (show(["whole","share"]:List Str).Nodup by decide +kernel) rfl (Or.inl rfl) (hf:=Or.inr rfl))) (λ_ _ _ _ _=>Ţ) (λ_ _ _ _ _=>(dR ZdV ZdG (Ā (đ ō Ļ (ă 1) (ă 0))) (Ā Ă) (Ĺ _))) ⟨rfl,⟨rfl,Or.inl rfl⟩,trivial⟩))) ĭ)) λ_ _ _ h=>ak xu h)))))))
def ZcU(T:Tx K mg a):ī P w K mg base (Ů P w) 1 a.Xj a.Y_ ["ends","point"] (ż ⟨K,Ĩ a⟩ 2 Io):=by
 refine bA (cm:=Ĩ a) (mb:=Eu) T.bO.F zM rfl rfl rfl λcdv A outer s H E hr=>?_
 have hu:=hr.units
 exact(ċ (Ĭ (i:=2) zM.nd rfl (Or.inl rfl) (į (đ Ş Ŝ (Ā (ģ ĕ Ĕ (Ā (ģ ĕ Ĕ (ă 0) (Ā Ă) (λ_ _=>rfl))) (Ā Ă) (λ_ _=>rfl))) (Ā (ģ ĕ Ĕ (Ā (ģ ĕ Ĕ (ă 0) (Ā Ă) (λ_ _=>rfl))) (Ā Ă) (λ_ _=>rfl))))))
  (ċ (Ĭ (i:=3) zM.nd rfl (Or.inl rfl) (į (đ Ş Ŝ (Ā (ģ ĕ Ĕ (Ā (ģ ĕ Ĕ (ă 0) (Ā Ă) (λ_ _=>rfl))) (Ā Ă) (λ_ _=>rfl))) (Ā (ģ ĕ Ĕ (Ā (ģ ĕ Ĕ (ă 0) (Ā Ă) (λ_ _=>rfl))) (Ā Ă) (λ_ _=>rfl))))))
  (ċ (Ĭ (i:=4) zM.nd rfl (Or.inl rfl) (Ō ĳ Ĳ (Ā (đ ō Ļ (ă 2) (Ā (đ Ş Ŝ (Ā (ģ ĕ Ĕ (ă 1) (Ā Ă) (λ_ _=>rfl))) (Ā (ģ ĕ Ĕ (Ā (ģ ĕ Ĕ (ă 0) (Ā Ă) (λ_ _=>rfl))) (Ā Ă) (λ_ _=>rfl))))))) (Ā (đ ō Ļ (ă 3) (Ā (đ Ş Ŝ (Ā (ģ ĕ Ĕ (ă 1) (Ā Ă) (λ_ _=>rfl))) (Ā (ģ ĕ Ĕ (Ā (ģ ĕ Ĕ (ă 0) (Ā Ă) (λ_ _=>rfl))) (Ā Ă) (λ_ _=>rfl)))))))))
  (Č (ĥ (ź (Ĉ (đ Ş Ŝ (Ā (ę (Ō ĳ Ĳ (Ā (đ ō Ļ (ă 2) (ă 2))) (Ā (đ ō Ļ (ă 3) (ă 3)))))) (ă 4)) (Ĉ (v_var 4) ħ))))))))
def ZcV(T:Tx K mg a):ī P w K mg base (Ů P w) 4 a.Xk a.Z_ ["points","point"] (ż ⟨K,Ĩ a⟩ 2 wj):=by
 refine bA (cm:=Ĩ a) (mb:=tZ) T.eZ.F qe rfl rfl rfl λcdv A outer s H E hr=>?_
 have hu:=hr.units
 exact(ċ (Ĭ (i:=2) qe.nd rfl (Or.inl rfl) (į (PE.wk (ĩ bT (by rfl) T.fQ PySem.boot_len (ğ (ă 0) ĭ)) λ_ _ _ h=>ak bY h)))
  (ċ (dF PassesOwn.leaving rfl (jr (ę (Ē (ZcT T) Ċ hr.mo rfl T.bN.m T.bN.F.kp T.bN.b Ĥ (Ć 2 (hr:=Ď))))) (Ħ (i:=3) qe.nd rfl (Or.inl rfl))
  (ċ (Ĭ (i:=4) qe.nd rfl (Or.inl rfl) (Ē (Ze6 T) Ċ hr.mo rfl T.aO.m T.aO.F.kp T.aO.b Ĥ (ė (ę (bH ["points","place"] [0] 1 (ć Ia) rfl rfl (aW 3) (λ_ _ _ _ _=>(Ħ (i:=1) (show(["points","place"]:List Str).Nodup by decide +kernel) rfl (Or.inl rfl) (hf:=Or.inr rfl))) (λ_ _ _ _ _=>Ţ) (λ_ _ _ _ _=>(ģ ĕ Ĕ (ă 0) (ă 1) (λ_ _=>rfl))) ⟨rfl,⟨rfl,Or.inl rfl⟩,trivial⟩)) (Ć 1 (hr:=Ď)))))
  (Č (aF (b_ (Ā (ę (Ē (Qm T) Ċ hr.mo rfl T.Ÿ.m T.Ÿ.F.kp T.Ÿ.b Ĥ (Ć 4 (hr:=Ď))))))
  (Č (ĥ (Ē (Gi T) Ċ hr.mo rfl T.bK.m T.bK.F.kp T.bK.b Ĥ (Ć 4 (hr:=(Ć 3 (hr:=(Ć 2 (hr:=Ď)))))))))
  ŉ))))
  (ċ (dF PassesOwn.leaving rfl (jr (ę (Ē (Qk T) Ċ hr.mo rfl T.ŷ.m T.ŷ.F.kp T.ŷ.b Ĥ (Ć 2 (hr:=Ď))))) (Ħ (i:=3) qe.nd rfl (Or.inl rfl))
  (ċ (Ĭ (i:=4) qe.nd rfl (Or.inl rfl) (Ē (ZcU T) Ċ hr.mo rfl T.bO.m T.bO.F.kp T.bO.b Ĥ (ė (ę (bH ["points","place"] [0] 1 (ć Ia) rfl rfl (aW 3) (λ_ _ _ _ _=>(Ħ (i:=1) (show(["points","place"]:List Str).Nodup by decide +kernel) rfl (Or.inl rfl) (hf:=Or.inr rfl))) (λ_ _ _ _ _=>Ţ) (λ_ _ _ _ _=>(ģ ĕ Ĕ (ă 0) (ă 1) (λ_ _=>rfl))) ⟨rfl,⟨rfl,Or.inl rfl⟩,trivial⟩)) (Ć 1 (hr:=Ď)))))
  (Č (aF (b_ (Ā (ę (Ē (Qm T) Ċ hr.mo rfl T.Ÿ.m T.Ÿ.F.kp T.Ÿ.b Ĥ (Ć 4 (hr:=Ď))))))
  (Č (ĥ (Ē (Gi T) Ċ hr.mo rfl T.bK.m T.bK.F.kp T.bK.b Ĥ (Ć 4 (hr:=(Ć 3 (hr:=(Ć 2 (hr:=Ď)))))))))
  ŉ))))
  (Č (ĥ (Ē (Gi T) Ċ hr.mo rfl T.bK.m T.bK.F.kp T.bK.b Ĥ (ė (ę (ź (Ĉ Ă ħ))) (ė (ę (ź (Ĉ Ă ħ))) (Ć 2 (hr:=Ď))))))))))
def ZcW(T:Tx K mg a):ī P w K mg base (Ů P w) 5 a.Xl a.Zaa ["points","point"] (ż ⟨K,Ĩ a⟩ 2 BR):=by
 refine bA (cm:=Ĩ a) (mb:=za) T.zF.F PJ rfl rfl rfl λcdv A outer s H E hr=>?_
 have hu:=hr.units
 exact(ċ (Ĭ (i:=2) PJ.nd rfl (Or.inl rfl) (Ē (ZcS T) Ċ hr.mo rfl T.cH.m T.cH.F.kp T.cH.b Ĥ (Ć 0 (hr:=(Ć 1 (hr:=Ď))))))
  (ċ (aF (Ŧ Hv wG (ă 2) (Ā jP) (Ĺ _))
  (Č (ĥ (į (Ő (Ĉ aj (Ĉ (ę (Ē (ZcV T) Ċ hr.mo rfl T.eZ.m T.eZ.F.kp T.eZ.b Ĥ (Ć 0 (hr:=(Ć 1 (hr:=Ď)))))) ħ))))))
  ŉ)
  (Č (ĥ (į (Ő (Ĉ aj (Ĉ (v_var 2) ħ))))))))
def Qn(T:Tx K mg a):ī P w K mg base (Ů P w) 1 a.Xm a.Zab ["point","ray"] (ż ⟨K,Ĩ a⟩ 2 t_):=by
 refine bA (cm:=Ĩ a) (mb:=Ew) T.nG.F Zcl rfl rfl rfl λcdv A outer s H E hr=>?_
 have hu:=hr.units
 exact(Č (ĥ (į (Ő (Ĉ (ę (Ō ĳ Ĳ (Ā (đ ō Ļ (Ā (ģ ĕ Ĕ (ă 1) (Ā Ă) (λ_ _=>rfl))) (Ā (ģ ĕ Ĕ (ă 0) (Ā Ă) (λ_ _=>rfl))))) (Ā (đ ō Ļ (Ā (ģ ĕ Ĕ (ă 1) (Ā Ă) (λ_ _=>rfl))) (Ā (ģ ĕ Ĕ (ă 0) (Ā Ă) (λ_ _=>rfl))))))) (Ĉ (ę (Ō ĳ Ĳ (Ā (đ ō Ļ (Ā (ģ ĕ Ĕ (ă 1) (Ā Ă) (λ_ _=>rfl))) (Ā (ģ ĕ Ĕ (ă 0) (Ā Ă) (λ_ _=>rfl))))) (Ā (đ ō Ļ (Ā (ģ ĕ Ĕ (ă 1) (Ā Ă) (λ_ _=>rfl))) (Ā (ģ ĕ Ĕ (ă 0) (Ā Ă) (λ_ _=>rfl))))))) ħ))))))
def Gk(T:Tx K mg a):ī P w K mg base (Ů P w) 1 a.Xn a.Zac ["x","y","u","v","z"] (ż ⟨K,Ĩ a⟩ 5 wu):=by
 refine bA (cm:=Ĩ a) (mb:=Ey) T.Ŏ.F Zcm rfl rfl rfl λcdv A outer s H E hr=>?_
 have hu:=hr.units
 exact(Č (ĥ (ź (Ĉ (Ő (Ĉ (v_var 0) (Ĉ (v_var 1) (Ĉ (v_var 4) ħ)))) (Ĉ (Ő (Ĉ (v_var 2) (Ĉ (v_var 1) (Ĉ (v_var 4) ħ)))) (Ĉ (Ő (Ĉ (v_var 2) (Ĉ (v_var 3) (Ĉ (v_var 4) ħ)))) (Ĉ (Ő (Ĉ (v_var 0) (Ĉ (v_var 3) (Ĉ (v_var 4) ħ)))) ħ)))))))
def Qo(T:Tx K mg a):ī P w K mg base (Ů P w) 2 a.Xo a.Zad ["x","y","u","v","h"] (ż ⟨K,Ĩ a⟩ 5 BW):=by
 refine bA (cm:=Ĩ a) (mb:=Ez) T.ţ.F Zcn rfl rfl rfl λcdv A outer s H E hr=>?_
 have hu:=hr.units
 exact(Č (ĥ (Ō ĳ Ĳ (Ā (ę (Ē (Gk T) Ċ hr.mo rfl T.Ŏ.m T.Ŏ.F.kp T.Ŏ.b Ĥ (Ć 0 (hr:=(Ć 1 (hr:=(Ć 2 (hr:=(Ć 3 (hr:=(ė Ă Ď)))))))))))) (Ā (ę (Ē (Gk T) Ċ hr.mo rfl T.Ŏ.m T.Ŏ.F.kp T.Ŏ.b Ĥ (Ć 0 (hr:=(Ć 1 (hr:=(Ć 2 (hr:=(Ć 3 (hr:=(Ć 4 (hr:=Ď))))))))))))))))
def ZcX(T:Tx K mg a):ī P w K mg base (Ů P w) 3 a.Ow a.Zae ["self"] (ż ⟨K,Ĩ a⟩ 1 qF):=by
 refine bA (cm:=Ĩ a) (mb:=EY) T.kY.F Gd rfl rfl rfl λcdv A outer s H E hr=>?_
 have hu:=hr.units
 exact(ċ (Ĭ (i:=1) Gd.nd rfl (Or.inl rfl) (į (đ ō Ļ (Ā Ă) (Ā (ģ ĕ Ĕ (Ā (jt ["Thing","Post","Fence","Sail","Cloth","House"] ⟨⟨T.ų,T.Ŀ⟩,⟨⟨T.aL,T.ņ⟩,⟨⟨T.ũ,T.ŀ⟩,⟨⟨T.aM,T.Ň⟩,⟨⟨T.Ū,T.Ł⟩,⟨⟨T.ū,T.ł⟩,trivial⟩⟩⟩⟩⟩⟩ (ă 0))) (Ā Ă) (λ_ _=>rfl))))))
  (ċ (Ĭ (i:=2) Gd.nd rfl (Or.inl rfl) (į (đ ō Ļ (Ā Ă) (Ā (ģ ĕ Ĕ (Ā (jt ["Thing","Post","Fence","Sail","Cloth","House"] ⟨⟨T.ų,T.Ŀ⟩,⟨⟨T.aL,T.ņ⟩,⟨⟨T.ũ,T.ŀ⟩,⟨⟨T.aM,T.Ň⟩,⟨⟨T.Ū,T.Ł⟩,⟨⟨T.ū,T.ł⟩,trivial⟩⟩⟩⟩⟩⟩ (ă 0))) (Ā Ă) (λ_ _=>rfl))))))
  (Č (ĥ (Ē (Qo T) Ċ hr.mo rfl T.ţ.m T.ţ.F.kp T.ţ.b Ĥ (ė (đ Ş Ŝ (ă 1) (Ā Ă)) (ė (đ Ş Ŝ (ă 2) (Ā Ă)) (ė (ę (Ō ĳ Ĳ (ă 1) (Ā Ă))) (ė (ę (Ō ĳ Ĳ (ă 2) (Ā Ă))) (ė (ģ ĕ Ĕ (Ā (jt ["Thing","Post","Fence","Sail","Cloth","House"] ⟨⟨T.ų,T.Ŀ⟩,⟨⟨T.aL,T.ņ⟩,⟨⟨T.ũ,T.ŀ⟩,⟨⟨T.aM,T.Ň⟩,⟨⟨T.Ū,T.Ł⟩,⟨⟨T.ū,T.ł⟩,trivial⟩⟩⟩⟩⟩⟩ (ă 0))) (Ā Ă) (λ_ _=>rfl)) Ď))))))))))
def ZcY(T:Tx K mg a):ī P w K mg base (Ů P w) 1 a.Ox a.Zaf ["self"] (ż ⟨K,Ĩ a⟩ 1 qG):=by
 refine bA (cm:=Ĩ a) (mb:=E_) T.jy.F zN rfl rfl rfl λcdv A outer s H E hr=>?_
 have hu:=hr.units
 exact(ċ (Ĭ (i:=1) zN.nd rfl (Or.inl rfl) (į (jt ["Thing","Post","Fence","Sail","Cloth","House"] ⟨⟨T.ų,T.Ŀ⟩,⟨⟨T.aL,T.ņ⟩,⟨⟨T.ũ,T.ŀ⟩,⟨⟨T.aM,T.Ň⟩,⟨⟨T.Ū,T.Ł⟩,⟨⟨T.ū,T.ł⟩,trivial⟩⟩⟩⟩⟩⟩ (ă 0))))
  (ċ (Ĭ (i:=2) zN.nd rfl (Or.inl rfl) (į (Ő (Ĉ (ģ ĕ Ĕ (ă 1) (Ā Ă) (λ_ _=>rfl)) (Ĉ (ģ ĕ Ĕ (ă 1) (Ā Ă) (λ_ _=>rfl)) ħ)))))
  (ċ (Ĭ (i:=3) zN.nd rfl (Or.inl rfl) (į (Ő (Ĉ (ģ ĕ Ĕ (ă 1) (Ā Ă) (λ_ _=>rfl)) (Ĉ (ģ ĕ Ĕ (ă 1) (Ā Ă) (λ_ _=>rfl)) ħ)))))
  (Č (ĥ (ź (Ĉ (ę (Ō ĳ Ĳ (ă 2) (Ā (Ő (Ĉ Ă ħ))))) (Ĉ (ę (Ō ĳ Ĳ (ă 3) (Ā (Ő (Ĉ Ă ħ))))) (Ĉ (ę (Ō ĳ Ĳ (ă 3) (Ā (Ő (Ĉ (ģ ĕ Ĕ (ă 1) (Ā Ă) (λ_ _=>rfl)) ħ))))) (Ĉ (ę (Ō ĳ Ĳ (ă 2) (Ā (Ő (Ĉ (ģ ĕ Ĕ (ă 1) (Ā Ă) (λ_ _=>rfl)) ħ))))) ħ))))))))))
def ZcZ(T:Tx K mg a):ī P w K mg base (Ů P w) 2 a.Oz a.Zag ["self"] (ż ⟨K,Ĩ a⟩ 1 qH):=by
 refine bA (cm:=Ĩ a) (mb:=Fb) T.kZ.F PK rfl rfl rfl λcdv A outer s H E hr=>?_
 have hu:=hr.units
 exact(ċ (Ĭ (i:=1) PK.nd rfl (Or.inl rfl) (į (jt ["Thing","Post","Fence","Sail","Cloth","House"] ⟨⟨T.ų,T.Ŀ⟩,⟨⟨T.aL,T.ņ⟩,⟨⟨T.ũ,T.ŀ⟩,⟨⟨T.aM,T.Ň⟩,⟨⟨T.Ū,T.Ł⟩,⟨⟨T.ū,T.ł⟩,trivial⟩⟩⟩⟩⟩⟩ (ă 0))))
  (Č (ĥ (Ē (Gk T) Ċ hr.mo rfl T.Ŏ.m T.Ŏ.F.kp T.Ŏ.b Ĥ (ė (ģ ĕ Ĕ (ă 1) (Ā Ă) (λ_ _=>rfl)) (ė (ģ ĕ Ĕ (ă 1) (Ā Ă) (λ_ _=>rfl)) (ė (ģ ĕ Ĕ (ă 1) (Ā Ă) (λ_ _=>rfl)) (ė (ģ ĕ Ĕ (ă 1) (Ā Ă) (λ_ _=>rfl)) (ė (ģ ĕ Ĕ (ă 1) (Ā Ă) (λ_ _=>rfl)) Ď)))))))))
def Zc0(T:Tx K mg a):ī P w K mg base (Ů P w) 1 a.OD a.Zah ["self"] (ż ⟨K,Ĩ a⟩ 1 qI):=by
 refine bA (cm:=Ĩ a) (mb:=Fd) T.jz.F Zco rfl rfl rfl λcdv A outer s H E hr=>?_
 have hu:=hr.units
 exact(@Č _ _ _ _ _ (@ĥ _ _ _ _ _ _ (bH ["self","place"] [0] 1 (ć Oh) rfl rfl (@jr _ _ _ _ _ _ (@Ő _ _ _ _ _ _ _ (@Ĉ _ _ _ _ _ _ _ (@Ă _ _ _ _ _ _) (@Ĉ _ _ _ _ _ _ _ (@Ă _ _ _ _ _ _) (@Ĉ _ _ _ _ _ _ _ (@Ă _ _ _ _ _ _) (@ħ _ _ _) (by exact Ĵ rfl)) (by exact Ĵ rfl)) (by exact Ĵ rfl)))) (λ_ _ _ _ _=>(@Ħ _ _ _ 1 _ (show(["self","place"]:List Str).Nodup by decide +kernel) rfl (Or.inl rfl) (Or.inr rfl))) (λ_ _ _ _ _=>(@Ţ _ _ _)) (λ_ _ _ _ _=>(@PE.wk _ _ _ _ (ſ Mp (by rfl) T.Tp PyProof.Rows.boot_tuple (@ğ _ _ _ _ _ _ _ (@Ā _ _ _ _ _ (@ę _ _ _ _ _ (@cW _ _ _ _ _ _ _ _ _ _ _ (@Ā _ _ _ _ _ (@jt _ _ _ _ _ _ _ ["Thing","Post","Fence","Sail","Cloth","House"] ⟨⟨T.ų,T.Ŀ⟩,⟨⟨T.aL,T.ņ⟩,⟨⟨T.ũ,T.ŀ⟩,⟨⟨T.aM,T.Ň⟩,⟨⟨T.Ū,T.Ł⟩,⟨⟨T.ū,T.ł⟩,trivial⟩⟩⟩⟩⟩⟩ (@ă _ _ _ 0 _ _ (by rfl) (by first|exact Or.inl rfl|exact Or.inr (Or.inl rfl)|exact Or.inr (Or.inr rfl)) (by decide) (by decide)) (by rfl))) (@bW _ _ _ _ _ (@v_var _ _ _ 1 _ _ (by rfl) (by first|exact Or.inl rfl|exact Or.inr (Or.inl rfl)|exact Or.inr (Or.inr rfl)) (by decide) (by decide))) (@bW _ _ _ _ _ (@ę _ _ _ _ _ (@Ō _ _ _ _ _ _ _ _ _ _ _ (@ĳ _) (@Ĳ _) (@ă _ _ _ 1 _ _ (by rfl) (by first|exact Or.inl rfl|exact Or.inr (Or.inl rfl)|exact Or.inr (Or.inr rfl)) (by decide) (by decide)) (@Ā _ _ _ _ _ (@Ă _ _ _ _ _ _)))))))) (@ĭ _ _ _) (by exact Ĵ rfl))) (λ_ _ _ h=> @ak _ _ _ _ _ _ (@Mq _) _ _ _ h))) ⟨rfl,⟨rfl,Or.inl rfl⟩,trivial⟩)))
def Zc1(T:Tx K mg a):ī P w K mg base (Ů P w) 3 a.OJ a.Zai ["self"] (ż ⟨K,Ĩ a⟩ 1 qJ):=by
 refine bA (cm:=Ĩ a) (mb:=Fe) T.jA.F PN rfl rfl rfl λcdv A outer s H E hr=>?_
 have hu:=hr.units
 exact(ċ (Ĭ (i:=1) PN.nd rfl (Or.inl rfl) (į (jt ["Thing","Post","Fence","Sail","Cloth","House"] ⟨⟨T.ų,T.Ŀ⟩,⟨⟨T.aL,T.ņ⟩,⟨⟨T.ũ,T.ŀ⟩,⟨⟨T.aM,T.Ň⟩,⟨⟨T.Ū,T.Ł⟩,⟨⟨T.ū,T.ł⟩,trivial⟩⟩⟩⟩⟩⟩ (ă 0))))
  (Č (ĥ (Ē (Qo T) Ċ hr.mo rfl T.ţ.m T.ţ.F.kp T.ţ.b Ĥ (ė (ģ ĕ Ĕ (ă 1) (Ā Ă) (λ_ _=>rfl)) (ė (ģ ĕ Ĕ (ă 1) (Ā Ă) (λ_ _=>rfl)) (ė (ģ ĕ Ĕ (ă 1) (Ā Ă) (λ_ _=>rfl)) (ė (ģ ĕ Ĕ (ă 1) (Ā Ă) (λ_ _=>rfl)) (ė (ģ ĕ Ĕ (ă 1) (Ā Ă) (λ_ _=>rfl)) Ď)))))))))
def Zc2(T:Tx K mg a):ī P w K mg base (Ů P w) 4 a.Xp a.Zaj ["thing","ray"] (ż ⟨K,Ĩ a⟩ 2 Ip):=by
 refine bA (cm:=Ĩ a) (mb:=Fg) T.cI.F Zcp rfl rfl rfl λcdv A outer s H E hr=>?_
 have hu:=hr.units
 exact(Č (ĥ (bH ["ray","corner"] [1] 1 (ć Oi) rfl rfl (Ny (jr (ę (RN (Qw:= "corners") (k:=3) (n:=1) (jF:=[("Post",qF),("Fence",qG),("Sail",qH),("Cloth",qI),("House",qJ)]) ⟨⟨T.aL,_,_,_,T.uw,(ZcX T).mono (by decide),T.kY.b,Ċ⟩,⟨⟨T.ũ,_,_,_,T.qW,(ZcY T).mono (by decide),T.jy.b,Ċ⟩,⟨⟨T.aM,_,_,_,T.ux,(ZcZ T).mono (by decide),T.kZ.b,Ċ⟩,⟨⟨T.Ū,_,_,_,T.qX,(Zc0 T).mono (by decide),T.jz.b,Ċ⟩,⟨⟨T.ū,_,_,_,T.qY,(Zc1 T).mono (by decide),T.jA.b,Ċ⟩,trivial⟩⟩⟩⟩⟩ hr.mo ů (v_var 0))))) (λ_ _ _ _ _=>(Ħ (i:=1) (show(["ray","corner"]:List Str).Nodup by decide +kernel) rfl (Or.inl rfl) (hf:=Or.inr rfl))) (λ_ _ _ _ _=>Ţ) (λ_ _ _ _ _=>(ę (Ē (Qn T) Ċ hr.mo rfl T.nG.m T.nG.F.kp T.nG.b ů (Ć 1 (hr:=(Ć 0 (hr:=Ď))))))) ⟨rfl,⟨rfl,Or.inl rfl⟩,trivial⟩)))
def Zc3(T:Tx K mg a):ī P w K mg base (Ů P w) 2 a.Xq a.Zak ["stone","ray"] (ż ⟨K,Ĩ a⟩ 2 Ir):=by
 refine bA (cm:=Ĩ a) (mb:=Fi) T.fj.F Zcq rfl rfl rfl λcdv A outer s H E hr=>?_
 have hu:=hr.units
 exact(Č (ĥ (Ē (Qn T) Ċ hr.mo rfl T.nG.m T.nG.F.kp T.nG.b Ĥ (ė (Ő (Ĉ (đ ō Ļ (Ā Ă) (Ā (ģ ĕ Ĕ (ă 0) (Ā Ă) (λ_ _=>rfl)))) (Ĉ (đ ō Ļ (Ā Ă) (Ā (ģ ĕ Ĕ (ă 0) (Ā Ă) (λ_ _=>rfl)))) (Ĉ Ă ħ)))) (Ć 1 (hr:=Ď))))))
def Zc4(T:Tx K mg a):ī P w K mg base (Ů P w) 6 a.Xr a.Zal ["thing","stone","ray"] (ż ⟨K,Ĩ a⟩ 3 Iu):=by
 refine bA (cm:=Ĩ a) (mb:=Fj) T.lQ.F Zcr rfl rfl rfl λcdv A outer s H E hr=>?_
 have hu:=hr.units
 exact(Č (ĥ (Ē (ZcW T) Ċ hr.mo rfl T.zF.m T.zF.F.kp T.zF.b Ĥ (ė (ę (Ē (Zc2 T) Ċ hr.mo rfl T.cI.m T.cI.F.kp T.cI.b Ĥ (Ć 0 (hr:=(Ć 2 (hr:=Ď)))))) (ė (ę (Ē (Zc3 T) Ċ hr.mo rfl T.fj.m T.fj.F.kp T.fj.b Ĥ (Ć 1 (hr:=(Ć 2 (hr:=Ď)))))) Ď)))))
def Qp(T:Tx K mg a):ī P w K mg base (Ů P w) 7 a.Xu a.Zam ["thing","stone","ray"] (ż ⟨K,Ĩ a⟩ 3 qK):=by
 refine bA (cm:=Ĩ a) (mb:=zc) T.fO.F Zcs rfl rfl rfl λcdv A outer s H E hr=>?_
 have hu:=hr.units
 exact(Č (ĥ (į (dR Ż (ř hu) (Ā (ģ ĕ Ĕ (Ā (ę (Ē (Zc4 T) Ċ hr.mo rfl T.lQ.m T.lQ.F.kp T.lQ.b Ĥ (Ć 0 (hr:=(Ć 1 (hr:=(Ć 2 (hr:=Ď))))))))) (Ā Ă) (λ_ _=>rfl))) (Ā aj) (Ĺ _)))))
def Zc5(T:Tx K mg a):ī P w K mg base (Ů P w) 8 a.Xw a.Zan ["thing","stone","turn"] (ż ⟨K,Ĩ a⟩ 3 wz):=by
 refine bA (cm:=Ĩ a) (mb:=zf) T.dj.F Zct rfl rfl rfl λcdv A outer s H E hr=>?_
 have hu:=hr.units
 exact(Č (ĥ (į (v_and (dR sG wH (ă 2) (Ā jP) (Ĺ _)) (jQ (ę (Ē (Qp T) Ċ hr.mo rfl T.fO.m T.fO.F.kp T.fO.b Ĥ (Ć 0 (hr:=(Ć 1 (hr:=(Ć 2 (hr:=Ď)))))))))))))
def Zc6(T:Tx K mg a):ī P w K mg base (Ů P w) 9 a.Xx a.Zao ["yard","thing","wants"] (ż ⟨K,Ĩ a⟩ 3 BX):=by
 refine bA (cm:=Ĩ a) (mb:=Fo) T.cJ.F Zcu rfl rfl rfl λcdv A outer s H E hr=>?_
 have hu:=hr.units
 exact(Č (ĥ (Ē (Qi T) Ċ hr.mo rfl T.Ŷ.m T.Ŷ.F.kp T.Ŷ.b Ĥ (ė (ę (bH ["thing","yard","stone","day","turn"] [1,0] 3 (ć Oj) rfl rfl (aW 2) (λ_ _ _ _ _=>(jT rfl (ĺ (Ħ (i:=2) (show(["thing","yard","stone","day","turn"]:List Str).Nodup by decide +kernel) rfl (Or.inl rfl) (hf:=Or.inr rfl)) (ĺ (Ħ (i:=3) (show(["thing","yard","stone","day","turn"]:List Str).Nodup by decide +kernel) rfl (Or.inl rfl) (hf:=Or.inr rfl)) (ĺ (Ħ (i:=4) (show(["thing","yard","stone","day","turn"]:List Str).Nodup by decide +kernel) rfl (Or.inl rfl) (hf:=Or.inr rfl)) bV))))) (λ_ _ _ _ _=>Ţ) (λ_ _ _ _ _=>(ę (Ē (Zc5 T) Ċ hr.mo rfl T.dj.m T.dj.F.kp T.dj.b ů (Ć 0 (hr:=(Ć 2 (hr:=(ė (ģ ĕ Ĕ (Ā (ę (Ē (Gg T) Ċ hr.mo rfl T.ŵ.m T.ŵ.F.kp T.ŵ.b ů (Ć 1 (hr:=(Ć 3 (hr:=Ď))))))) (ă 4) (λ_ _=>rfl)) Ď)))))))) ⟨rfl,⟨rfl,Or.inl rfl⟩,⟨rfl,⟨rfl,Or.inl rfl⟩,trivial⟩⟩)) Ď))))
def Zc7(T:Tx K mg a):ī P w K mg base (Ů P w) 8 a.Xy a.Zap ["yard","turn","stone"] (ż ⟨K,Ĩ a⟩ 3 mL):=by
 refine bA (cm:=Ĩ a) (mb:=uc) T.lR.F P_ rfl rfl rfl λcdv A outer s H E hr=>?_
 have hu:=hr.units
 exact(ċ (aF (Ŧ Hv wG (ă 1) (Ā jP) (Ĺ _))
  (Č (ĥ (į Dc)))
  ŉ)
  (ċ (dF PassesOwn.leaving rfl (jr (jt ["Yard"] ⟨⟨T.jl,T.mW⟩,trivial⟩ (ă 0))) (Ħ (i:=3) P_.nd rfl (Or.inl rfl))
  (Č (aF (b_ (Ā (ę (Ē (Qp T) Ċ hr.mo rfl T.fO.m T.fO.F.kp T.fO.b Ĥ (Ć 3 (hr:=(Ć 2 (hr:=(Ć 1 (hr:=Ď))))))))))
  (Č (ĥ (į Dc)))
  ŉ)))
  (Č (ĥ (į Dc)))))
def Zc8(T:Tx K mg a):ī P w K mg base (Ů P w) 9 a.Xz a.Zaq ["yard","wants"] (ż ⟨K,Ĩ a⟩ 2 Iv):=by
 refine bA (cm:=Ĩ a) (mb:=Fp) T.dw.F Zcv rfl rfl rfl λcdv A outer s H E hr=>?_
 have hu:=hr.units
 exact(Č (ĥ (Ē (Qi T) Ċ hr.mo rfl T.Ŷ.m T.Ŷ.F.kp T.Ŷ.b Ĥ (ė (ę (bH ["yard","stone","day","turn"] [0] 3 (ć Ol) rfl rfl (aW 1) (λ_ _ _ _ _=>(jT rfl (ĺ (Ħ (i:=1) (show(["yard","stone","day","turn"]:List Str).Nodup by decide +kernel) rfl (Or.inl rfl) (hf:=Or.inr rfl)) (ĺ (Ħ (i:=2) (show(["yard","stone","day","turn"]:List Str).Nodup by decide +kernel) rfl (Or.inl rfl) (hf:=Or.inr rfl)) (ĺ (Ħ (i:=3) (show(["yard","stone","day","turn"]:List Str).Nodup by decide +kernel) rfl (Or.inl rfl) (hf:=Or.inr rfl)) bV))))) (λ_ _ _ _ _=>Ţ) (λ_ _ _ _ _=>(ę (Ē (Zc7 T) Ċ hr.mo rfl T.lR.m T.lR.F.kp T.lR.b ů (Ć 0 (hr:=(ė (ģ ĕ Ĕ (Ā (ę (Ē (Gg T) Ċ hr.mo rfl T.ŵ.m T.ŵ.F.kp T.ŵ.b ů (Ć 0 (hr:=(Ć 2 (hr:=Ď))))))) (ă 3) (λ_ _=>rfl)) (Ć 1 (hr:=Ď)))))))) ⟨rfl,⟨rfl,Or.inl rfl⟩,trivial⟩)) Ď))))
def Zc9(T:Tx K mg a):ī P w K mg base (Ů P w) 10 a.XC a.Zar ["yard","offers","wants"] (ż ⟨K,Ĩ a⟩ 3 qL):=by
 refine bA (cm:=Ĩ a) (mb:=zm) T.gA.F Ge rfl rfl rfl λcdv A outer s H E hr=>?_
 have hu:=hr.units
 exact(ċ (wV (ę (Ē (ZcI T) Ċ hr.mo rfl T.dg.m T.dg.F.kp T.dg.b Ĥ (Ć 0 (hr:=(Ć 2 (hr:=Ď)))))))
  (ċ (fL (i:=3) Ge.nd rfl rfl ["thing","price"] [] 2 (ć Ib) rfl rfl (aW 1) (λ_ _ _ _ _=>(jT rfl (ĺ (Ħ (i:=0) (show(["thing","price"]:List Str).Nodup by decide +kernel) rfl (Or.inl rfl) (hf:=Or.inr rfl)) (ĺ (Ħ (i:=1) (show(["thing","price"]:List Str).Nodup by decide +kernel) rfl (Or.inl rfl) (hf:=Or.inr rfl)) bV)))) (λ_ _ _ _ _=>Ţ) (λ_ _ _ _ _=>(v_var 1)) trivial)
  (ċ (fL (i:=4) Ge.nd rfl rfl ["yard","wants","thing","price"] [0,2] 2 (ć Ib) rfl rfl (aW 1) (λ_ _ _ _ _=>(jT rfl (ĺ (Ħ (i:=2) (show(["yard","wants","thing","price"]:List Str).Nodup by decide +kernel) rfl (Or.inl rfl) (hf:=Or.inr rfl)) (ĺ (Ħ (i:=3) (show(["yard","wants","thing","price"]:List Str).Nodup by decide +kernel) rfl (Or.inl rfl) (hf:=Or.inr rfl)) bV)))) (λ_ _ _ _ _=>Ţ) (λ_ _ _ _ _=>(ę (Ē (Zc6 T) Ċ hr.mo rfl T.cJ.m T.cJ.F.kp T.cJ.b ů (Ć 0 (hr:=(Ć 2 (hr:=(Ć 1 (hr:=Ď))))))))) ⟨rfl,⟨rfl,Or.inl rfl⟩,⟨rfl,⟨rfl,Or.inl rfl⟩,trivial⟩⟩)
  (Č (ĥ (Ē (ZcM T) Ċ hr.mo rfl T.cF.m T.cF.F.kp T.cF.b Ĥ (Ć 3 (hr:=(Ć 4 (hr:=(ė (PE.wk (ĩ bT (by rfl) T.fQ PySem.boot_len (ğ (ă 2) ĭ)) λ_ _ _ h=>ak bY h) (ė (ę (Ē (Zc8 T) Ċ hr.mo rfl T.dw.m T.dw.F.kp T.dw.b Ĥ (Ć 0 (hr:=(Ć 2 (hr:=Ď)))))) Ď))))))))))))
def Gm(T:Tx K mg a):ī P w K mg base (Ů P w) 11 a.XD a.Zas ["_law_yard","_law_offers","_law_wants"] (ż ⟨K,Ĩ a⟩ 3 kO):=by
 refine bA (cm:=Ĩ a) (mb:=zp) T.Ŕ.F zO rfl rfl rfl λcdv A outer s H E hr=>?_
 have hu:=hr.units
 exact(ċ (Ĭ (i:=3) zO.nd rfl (Or.inl rfl) (į jP))
  (ċ (Zea ⟨_,outer,rfl,rfl,rfl⟩ (λ_ _ _ hpx=>(Č (wV (ę (Ē (Zc9 T) Ċ hr.mo rfl T.gA.m T.gA.F.kp T.gA.b hpx (Ć 0 (hr:=(Ć 1 (hr:=(Ć 2 (hr:=Ď)))))))))))
  (Zg8 (Dn:= "YardError") (i:=4) zO.nd rfl rfl rfl (Z0k T) T.B_ T.zH T.zJ (λe=>(Č (Ĭ (i:=3) zO.nd rfl (Or.inl rfl) (į (v_var 4)))))
  Zd_))
  (Č (ĥ (jq 3)))))
def Ze7(T:Tx K mg a):ī P w K mg base (Ů P w) 1 a.ZeH a.ZeP ["_law_cell","_law_size_here","_law_stone"] (ż ⟨K,Ĩ a⟩ 3 ud):=by
 refine bA (cm:=Ĩ a) (mb:=mO) T.Ž.F Ja rfl rfl rfl λcdv A outer s H E hr=>?_
 have hu:=hr.units
 exact(ċ (Ĭ (i:=3) Ja.nd rfl (Or.inl rfl) (į (đ ō Ļ (Ā (đ ĸ ĵ (Ā (đ ŭ Ś (ă 0) (Ā Ă))) (Ā (đ jX jK (Ā Ă) (Ā Ă))))) (Ā (đ ŭ Ś (Ā (đ ĸ ĵ (Ā (đ ŭ Ś (ă 0) (Ā Ă))) (Ā Ă))) (Ā Ă))))))
  (ċ (Ĭ (i:=3) Ja.nd rfl (Or.inl rfl) (į (PE.wk (ĩ (wL rfl) (by rfl) T.ur PyProof.Rows.boot_min (ğ (ă 3) (ğ (Ā (đ Ş Ŝ (Ā (đ jX jK (Ā Ă) (Ā Ă))) (Ā Ă))) ĭ))) λ_ _ _ h=>ak xq h)))
  (ċ (Ĭ (i:=4) Ja.nd rfl (Or.inl rfl) (į (ģ ĕ Ĕ (Ā (ę (ź (Ĉ (ę (Ō ĳ Ĳ (Ā (ģ ĕ Ĕ (ă 1) (Ā (đ ĸ ĵ (ă 0) (Ā Ă))) (λ_ _=>rfl))) (ă 3))) (Ĉ (đ Ş Ŝ (Ā (đ Ş Ŝ (Ā Ă) (Ā Ă))) (ă 3)) ħ))))) (Ā (đ ĸ ĵ (Ā (đ ŭ Ś (ă 0) (Ā Ă))) (Ā Ă))) (λ_ _=>rfl))))
  (Č (ĥ (į (ģ ĕ Ĕ (Ā (ę (ź (Ĉ (Ő (Ĉ (v_var 4) (Ĉ (ģ ĕ Ĕ (ă 2) (Ā Ă) (λ_ _=>rfl)) ħ))) (Ĉ (Ő (Ĉ (ģ ĕ Ĕ (ă 2) (Ā Ă) (λ_ _=>rfl)) (Ĉ (v_var 4) ħ))) ħ))))) (Ā (đ ĸ ĵ (ă 0) (Ā Ă))) (λ_ _=>rfl))))))))
def Qq(T:Tx K mg a):ī P w K mg base (Ů P w) 1 a.XF a.Zat ["_law_cell","_law_many"] (ż ⟨K,Ĩ a⟩ 2 oM):=by
 refine bA (cm:=Ĩ a) (mb:=pX) T.aZ.F Qa rfl rfl rfl λcdv A outer s H E hr=>?_
 have hu:=hr.units
 exact(ċ (Ĭ (i:=2) Qa.nd rfl (Or.inl rfl) (į (đ ō Ļ (Ā (đ ĸ ĵ (Ā (đ ŭ Ś (ă 0) (Ā Ă))) (Ā (đ jX jK (Ā Ă) (Ā Ă))))) (Ā (đ ĸ ĵ (Ā (đ ŭ Ś (ă 0) (Ā Ă))) (Ā Ă))))))
  (Č (ĥ (į (ģ ĕ Ĕ (Ā (ę (ź (Ĉ (ę (Ō ĳ Ĳ (ă 1) (ă 2))) (Ĉ (đ Ş Ŝ (Ā (đ Ş Ŝ (Ā Ă) (Ā Ă))) (ă 2)) ħ))))) (Ā (đ ĸ ĵ (ă 0) (Ā Ă))) (λ_ _=>rfl))))))
def Zc_(T:Tx K mg a):ī P w K mg base (Ů P w) 2 a.XH a.Zau ["_law_cell","_law_want","_law_size_here","_law_days_here"] (ż ⟨K,Ĩ a⟩ 4 uf):=by
 refine bA (cm:=Ĩ a) (mb:=pY) T.bQ.F jm rfl rfl rfl λcdv A outer s H E hr=>?_
 have hu:=hr.units
 exact(ċ (Hh (v_var 1) (HW rfl (ĺ (Ħ (i:=6) jm.nd rfl (Or.inl rfl)) (ĺ (Ħ (i:=7) jm.nd rfl (Or.inl rfl)) (ĺ (Ħ (i:=8) jm.nd rfl (Or.inl rfl)) bV)))))
  (ċ (Ĭ (i:=4) jm.nd rfl (Or.inl rfl) (į (đ ĸ ĵ (ă 0) (Ā Ă))))
  (ċ (Ĭ (i:=5) jm.nd rfl (Or.inl rfl) (į (đ ŭ Ś (ă 0) (Ā Ă))))
  (ċ (aF (PW.pt (w_or (Ŧ Ż (ř hu) (ă 4) (Ā Ă) (Ĺ _)) (vp (Ŧ Ż (ř hu) (ă 4) (Ā Ă) (Ĺ _)))))
  (Č (Ĭ (i:=6) jm.nd rfl (Or.inl rfl) (Ē (Ze7 T) Ċ hr.mo rfl T.Ž.m T.Ž.F.kp T.Ž.b Ĥ (Ć 5 (hr:=(Ć 2 (hr:=(Ć 6 (hr:=Ď)))))))))
  ŉ)
  (ċ (aF (PW.pt (w_or (Ŧ Ż (ř hu) (ă 4) (Ā Ă) (Ĺ _)) (vp (Ŧ Ż (ř hu) (ă 4) (Ā Ă) (Ĺ _)))))
  (Č (Ĭ (i:=7) jm.nd rfl (Or.inl rfl) (Ē (Qq T) Ċ hr.mo rfl T.aZ.m T.aZ.F.kp T.aZ.b Ĥ (ė (đ ŭ Ś (ă 5) (Ā Ă)) (ė (PE.wk (ĩ bT (by rfl) T.fQ PySem.boot_len (ğ (ă 3) ĭ)) λ_ _ _ h=>ak bY h) Ď)))))
  ŉ)
  (ċ (aF (Ŧ Ż (ř hu) (ă 4) (Ā Ă) (Ĺ _))
  (Č (Ĭ (i:=8) jm.nd rfl (Or.inl rfl) (Ē (Qq T) Ċ hr.mo rfl T.aZ.m T.aZ.F.kp T.aZ.b Ĥ (Ć 5 (hr:=(ė (PE.wk (ĩ bT (by rfl) T.fQ PySem.boot_len (ğ (Ā (ģ ĕ Ĕ (Ā (ģ ĕ Ĕ (ă 3) (ă 7) (λ_ _=>rfl))) (Ā Ă) (λ_ _=>rfl))) ĭ)) λ_ _ _ h=>ak bY h) Ď))))))
  ŉ)
  (Č (ĥ (į (Ő (Ĉ (v_var 6) (Ĉ (v_var 7) (Ĉ (v_var 8) ħ)))))))))))))
def Zda(T:Tx K mg a):ī P w K mg base (Ů P w) 1 a.XJ a.Zav ["_law_caught","_law_want","_law_size_here"] (ż ⟨K,Ĩ a⟩ 3 kW):=by
 refine bA (cm:=Ĩ a) (mb:=nF) T.gB.F zP rfl rfl rfl λcdv A outer s H E hr=>?_
 have hu:=hr.units
 exact(ċ (Hh (v_var 1) (HW rfl (ĺ (Ħ (i:=3) zP.nd rfl (Or.inl rfl)) (ĺ (Ħ (i:=4) zP.nd rfl (Or.inl rfl)) (ĺ (Ħ (i:=5) zP.nd rfl (Or.inl rfl)) bV)))))
  (ċ (aF (PW.pt (w_or (b_ (Ā (PE.wk (ĩ SJ (by rfl) T.bC PyProof.Rows.boot_isinstance (ğ (ă 0) (ğ (Ā (Ő (Ĉ (zR (.cls "BadRow") (bf (v:=.ref (Ĩ a "BadRow")) rfl (Z15 T) rfl)) (Ĉ (zR (.cls "BadThing") (bf (v:=.ref (Ĩ a "BadThing")) rfl (Z00 T) rfl)) (Ĉ (zR (.cls "NoDay") (bf (v:=.ref (Ĩ a "NoDay")) rfl (Z1y T) rfl)) (Ĉ (zR (.cls "NoNumber") (bf (v:=.ref (Ĩ a "NoNumber")) rfl (ZZ T) rfl)) (Ĉ (zR (.cls "NoRow") (bf (v:=.ref (Ĩ a "NoRow")) rfl (Z1x T) rfl)) ħ))))))) ĭ))) λ_ _ _ h=>ak (SM T.iC T.iT T.iD T.iN) h))) (vp (mz (b_ (Ā (PE.wk (ĩ lJ (by rfl) T.bC PyProof.Rows.boot_isinstance (ğ (ă 0) (ğ (Ā (zR (.ty "ValueError") (QG (v:=.ty "ValueError") rfl T.zG (show bootBuiltins "ValueError" =some (.type "ValueError") by kernel_rfl) rfl))) ĭ))) λ_ _ _ h=>ak (lK T.iC T.iT T.iD T.iN) h)))))))
  (Č (ĥ (į Dc)))
  ŉ)
  (ċ (aF (PW.pt (w_or (mz (Lw iw mF gQ lZ (Ā Ă) (Ā (ģ ĕ Ĕ (ă 3) (Ā Ă) (λ_ _=>rfl))) (Ā (ģ ĕ Ĕ (ă 2) (Ā Ă) (λ_ _=>rfl))))) (vp (mz (Lw iw mF gQ lZ (Ā Ă) (Ā (ģ ĕ Ĕ (ă 3) (Ā Ă) (λ_ _=>rfl))) (Ā (ģ ĕ Ĕ (ă 2) (Ā Ă) (λ_ _=>rfl))))))))
  (Č (ĥ (į (v_and (PE.wk (ĩ lJ (by rfl) T.bC PyProof.Rows.boot_isinstance (ğ (ă 0) (ğ (Ā (zR (.cls "NoStone") (bf (v:=.ref (Ĩ a "NoStone")) rfl (ZD T) rfl))) ĭ))) λ_ _ _ h=>ak (lK T.iC T.iT T.iD T.iN) h) (v_and (v_not (PE.wk (ĩ lJ (by rfl) T.bC PyProof.Rows.boot_isinstance (ğ (ă 0) (ğ (Ā (zR (.cls "NoTurn") (bf (v:=.ref (Ĩ a "NoTurn")) rfl (ZN T) rfl))) ĭ))) λ_ _ _ h=>ak (lK T.iC T.iT T.iD T.iN) h)) (jQ (dR Ż (ř hu) (Ā (Ds ["NoStone"] ⟨⟨T.wC,T.jB⟩,trivial⟩ (v_var 0))) (ă 3) (Ĺ _))))))))
  ŉ)
  (ċ (aF (PW.pt (w_or (mz (b_ (Ā (PE.wk (ĩ lJ (by rfl) T.bC PyProof.Rows.boot_isinstance (ğ (ă 0) (ğ (Ā (zR (.cls "NoTurn") (bf (v:=.ref (Ĩ a "NoTurn")) rfl (ZN T) rfl))) ĭ))) λ_ _ _ h=>ak (lK T.iC T.iT T.iD T.iN) h)))) (vp (b_ (Ā (PE.wk (ĩ lJ (by rfl) T.bC PyProof.Rows.boot_isinstance (ğ (ă 0) (ğ (Ā (zR (.cls "NoStone") (bf (v:=.ref (Ĩ a "NoStone")) rfl (ZD T) rfl))) ĭ))) λ_ _ _ h=>ak (lK T.iC T.iT T.iD T.iN) h))))))
  (Č (ĥ (į Dc)))
  ŉ)
  (Č (ĥ (į (v_and (dR Ż (ř hu) (Ā (Ds ["NoTurn"] ⟨⟨T.oR,T.oU⟩,trivial⟩ (v_var 0))) (ă 4) (Ĺ _)) (jQ (dR Ż (ř hu) (Ā (Ds ["NoTurn"] ⟨⟨T.oR,T.mR⟩,trivial⟩ (v_var 0))) (ă 5) (Ĺ _)))))))))))
def Zdb(T:Tx K mg a):ī P w K mg base (Ů P w) 12 a.XM a.O_ ["_law_script"] (ż ⟨K,Ĩ a⟩ 1 wA):=by
 refine bA (cm:=Ĩ a) (mb:=Fq) T.Ph.F fU rfl rfl rfl λcdv A outer s H E hr=>?_
 have hu:=hr.units
 exact(ċ (Ĭ (i:=1) fU.nd rfl (by first|exact Or.inl rfl|exact Or.inr rfl) (Ē (Zcw T) Ċ hr.mo rfl T.gj.m T.gj.F.kp T.gj.b Ĥ (ė (ę (Ē (jo T) Ċ hr.mo rfl T.Į.m T.Į.F.kp T.Į.b Ĥ (Ć 0 (hr:=(ė Ă Ď))))) (ė Ă Ď))))
  (ċ (fL (i:=2) fU.nd rfl rfl ["_law_size_here","_law_cell"] [1] 1 (ć vP) rfl rfl (jr (ę (cW (ă 0) (bW Ă) (bW Ă)))) (λ_ _ _ _ _=>(Ħ (i:=1) (show(["_law_size_here","_law_cell"]:List Str).Nodup by decide +kernel) rfl (Or.inl rfl) (hf:=Or.inr rfl))) (λ_ _ _ _ _=>Ţ) (λ_ _ _ _ _=>(ę (Ē (Zcz T) Ċ hr.mo rfl T.eU.m T.eU.F.kp T.eU.b ů (Ć 1 (hr:=(ė (PE.wk (ĩ (Du rfl) (by rfl) T.Pj PyProof.Rows.boot_max (ğ (ă 0) ĭ)) λ_ _ _ h=>ak Dw h) Ď)))))) ⟨rfl,⟨rfl,Or.inl rfl⟩,trivial⟩)
  (ċ (fL (i:=3) fU.nd rfl rfl ["_law_word","_law_numbers"] [] 2 (ć vP) rfl rfl (aW 2) (λ_ _ _ _ _=>(jT rfl (ĺ (Ħ (i:=0) (show(["_law_word","_law_numbers"]:List Str).Nodup by decide +kernel) rfl (Or.inl rfl) (hf:=Or.inr rfl)) (ĺ (Ħ (i:=1) (show(["_law_word","_law_numbers"]:List Str).Nodup by decide +kernel) rfl (Or.inl rfl) (hf:=Or.inr rfl)) bV)))) (λ_ _ _ _ _=>Ţ) (λ_ _ _ _ _=>(ę (Ē (ZcD T) Ċ hr.mo rfl T.jg.m T.jg.F.kp T.jg.b ů (Ć 0 (hr:=(ė (ę (PE.wk (ſ eG (by rfl) T.jk PyProof.Rows.boot_list (ğ (ă 1) ĭ)) λ_ _ _ h=>wU eN h)) Ď)))))) trivial)
  (ċ (Ĭ (i:=4) fU.nd rfl (by first|exact Or.inl rfl|exact Or.inr rfl) (Ē (Zcy T) Ċ hr.mo rfl T.gk.m T.gk.F.kp T.gk.b Ĥ (Ć 0 (hr:=(ė Ă (ė (ę (Ō ĳ Ĳ (Ā Ă) (Ā (đ ĸ ĵ (Ā (ę (Ē (jo T) Ċ hr.mo rfl T.Į.m T.Į.F.kp T.Į.b Ĥ (Ć 0 (hr:=(ė Ă Ď)))))) (Ā Ă))))) (ė Ă Ď)))))))
  (ċ (Ĭ (i:=5) fU.nd rfl (Or.inl rfl) (į (pJ T.ZbZ (Qc T) fu hr.mo rfl (Z2b T) T.jx.b Ĥ (ė (ģ ĕ Ĕ (ă 1) (Ā Ă) (λ_ _=>rfl)) (ė (ģ ĕ Ĕ (ă 1) (Ā Ă) (λ_ _=>rfl)) (ė (ę (cW (ă 3) (bW Ă) sI)) (Ć 4 (hr:=Ď))))))))
  (ċ (fL (i:=6) fU.nd rfl rfl ["_law_thing_here"] [] 1 (ć vP) rfl rfl (aW 3) (λ_ _ _ _ _=>(Ħ (i:=0) (show(["_law_thing_here"]:List Str).Nodup by decide +kernel) rfl (Or.inl rfl) (hf:=Or.inr rfl))) (λ_ _ _ _ _=>Ţ) (λ_ _ _ _ _=>(Ő (Ĉ (v_var 0) (Ĉ Ă ħ)))) trivial)
  (ċ (fL (i:=7) fU.nd rfl rfl ["_law_size_here","_law_days_here","_law_script","_law_k"] [1,4,0] 1 (ć vP) rfl rfl (Ny (aG rfl T.bR (Ĉ (ę (Ō ĳ Ĳ (Ā Ă) (Ā (đ ĸ ĵ (Ā (đ ŭ Ś (Ā (ę (Ē (jo T) Ċ hr.mo rfl T.Į.m T.Į.F.kp T.Į.b ů (Ć 0 (hr:=(ė Ă Ď)))))) (Ā Ă))) (Ā Ă))))) ħ))) (λ_ _ _ _ _=>(Ħ (i:=3) (show(["_law_size_here","_law_days_here","_law_script","_law_k"]:List Str).Nodup by decide +kernel) rfl (Or.inl rfl) (hf:=Or.inr rfl))) (λ_ _ _ _ _=>Ţ) (λ_ _ _ _ _=>(ę (Ē (Ze4 T) Ċ hr.mo rfl T.bB.m T.bB.F.kp T.bB.b ů (ė (ę (Ē (jo T) Ċ hr.mo rfl T.Į.m T.Į.F.kp T.Į.b ů (Ć 2 (hr:=(ė (ę (Ō ĳ Ĳ (Ā Ă) (ă 3))) Ď))))) (Ć 0 (hr:=(Ć 1 (hr:=Ď)))))))) ⟨rfl,⟨rfl,Or.inl rfl⟩,⟨rfl,⟨rfl,Or.inl rfl⟩,⟨rfl,⟨rfl,Or.inl rfl⟩,trivial⟩⟩⟩)
  (ċ (aF (Ŧ sG wH (Ā (ę (Ē (Gm T) Ċ hr.mo rfl T.Ŕ.m T.Ŕ.F.kp T.Ŕ.b Ĥ (Ć 5 (hr:=(Ć 6 (hr:=(Ć 7 (hr:=Ď))))))))) (Ā jP) (Ĺ _))
  (Č (ĥ (į Dc)))
  ŉ)
  (ċ (Ĭ (i:=8) fU.nd rfl (Or.inl rfl) (PE.wk (ſ eG (by rfl) T.jk PyProof.Rows.boot_list (ğ (ă 7) ĭ)) λ_ _ _ h=>wU eN h))
  (ċ (Ĭ (i:=9) fU.nd rfl (Or.inl rfl) (ź (Ĉ (đ ĸ ĵ (Ā (ę (Ē (jo T) Ċ hr.mo rfl T.Į.m T.Į.F.kp T.Į.b Ĥ (Ć 0 (hr:=(ė Ă Ď)))))) (Ā (PE.wk (ĩ bT (by rfl) T.fQ PySem.boot_len (ğ (ă 7) ĭ)) λ_ _ _ h=>ak bY h))) (Ĉ (đ ĸ ĵ (Ā (ę (Ē (jo T) Ċ hr.mo rfl T.Į.m T.Į.F.kp T.Į.b Ĥ (Ć 0 (hr:=(ė Ă Ď)))))) (Ā (PE.wk (ĩ bT (by rfl) T.fQ PySem.boot_len (ğ (ă 7) ĭ)) λ_ _ _ h=>ak bY h))) ħ))))
  (ċ (dF PassesOwn.leaving rfl (aG rfl T.bR (Ĉ Ă ħ)) (Ħ (i:=10) fU.nd rfl (Or.inl rfl))
  (Č (Hi (i:=8) (ę (Ē (Zc_ T) Ċ hr.mo rfl T.bQ.m T.bQ.F.kp T.bQ.b Ĥ (ė (ę (Ē (jo T) Ċ hr.mo rfl T.Į.m T.Į.F.kp T.Į.b Ĥ (Ć 0 (hr:=(ė (ę (Ō ĳ Ĳ (Ā Ă) (ă 10))) Ď))))) (ė (ģ ĕ Ĕ (ă 7) (Ā (ģ ĕ Ĕ (ă 9) (ă 10) (λ_ _=>rfl))) (λ_ _=>rfl)) (Ć 1 (hr:=(Ć 4 (hr:=Ď)))))))) (ģ ĕ Ĕ (ă 9) (ă 10) (λ_ _=>rfl)) (pv 8))))
  (ċ (aF (mz (b_ (Ā (ę (Ē (Zda T) Ċ hr.mo rfl T.gB.m T.gB.F.kp T.gB.b Ĥ (ė (ę (Ē (Gm T) Ċ hr.mo rfl T.Ŕ.m T.Ŕ.F.kp T.Ŕ.b Ĥ (Ć 5 (hr:=(Ć 6 (hr:=(Ć 8 (hr:=Ď)))))))) (ė (ģ ĕ Ĕ (ă 8) (Ā (PE.wk (ĩ (Dv rfl) (by rfl) T.ur PyProof.Rows.boot_min (ğ (ă 9) ĭ)) λ_ _ _ h=>ak Dz h)) (λ_ _=>rfl)) (Ć 1 (hr:=Ď)))))))))
  (Č (ĥ (į Dc)))
  ŉ)
  (Č (ĥ (į (dR Hv wG (Ā (ę (Ē (Gm T) Ċ hr.mo rfl T.Ŕ.m T.Ŕ.F.kp T.Ŕ.b Ĥ (Ć 5 (hr:=(Ć 6 (hr:=(Ć 7 (hr:=Ď))))))))) (Ā jP) (Ĺ _)))))))))))))))))
end
def pt(p:Hu.Pt):PV:=.tup [.int p.1,.int p.2]
def jE(l:Hu.Ln):PV:=.tup [.int l.1,.int l.2.1,.int l.2.2]
def Sm(p:Hu.Pt):Prop:=-100000000000000000<=p.1/\p.1<=100000000000000000/\ -100000000000000000<=p.2/\p.2<=100000000000000000
def SmL(l:Hu.Ln):Prop:=-1000000000000000000<=l.1/\l.1<=1000000000000000000/\ -1000000000000000000<=l.2.1/\l.2.1<=1000000000000000000
def Z0l{x y:Hu.Pt}:eqB (pt y) (pt x)=decide (y=x):=by
 obtain⟨a,b⟩:=x
 obtain⟨c,d⟩:=y
 unfold pt
 rw[ZbL,Bool.eq_iff_iff]
 simp
def ZW(x:Hu.Pt):cA (pt x)=true:=by simp[pt,cA,fV]
def ZO(x:Hu.Pt):dep (pt x)=1:=by simp[pt,dep,Al]
def Z2z(S:List Hu.Pt):fV (S.map pt)=true:=by
 induction S with
 |nil=>simp[fV]
 |cons p S ih=>simp[fV,ZW,ih]
theorem Z16(x:Hu.Pt):∀k:List Hu.Pt,(k.map pt).any (λy=>eqB y (pt x))=decide (x∈k)
 | []=>by simp
 |y::k=>by
  rw[List.map_cons,List.any_cons,Z16 x k,Z0l,Bool.eq_iff_iff]
  simp
  constructor
  ·rintro (e|e)
   ·exact .inl e.symm
   ·exact .inr e
  ·rintro (e|e)
   ·exact .inl e.symm
   ·exact .inr e
def Z0m(x:Hu.Pt)(k:List Hu.Pt):inD true (pt x) (.lst (k.map pt))=some (.bl (!decide (x∈k))):=by
 unfold inD
 simp only[ZW,Z2z,ZO,Z16]
 rfl
def Z0O(x y:Hu.Pt):pH (pt x) (pt y)=some (.bl (!decide (x=y))):=by
 unfold pH wZ
 rw[ZW,ZW,ZO,ZO,Z0l]
 rfl
def Z2e{a b:Hu.Pt}(ha:Sm a)(hb:Sm b):Ij [.sh (pt a),.sh (pt b)]=.ret (.sh (jE (Hu.Z2 a b))):=by
 obtain⟨a1,a2,a3,a4⟩:=ha
 obtain⟨b1,b2,b3,b4⟩:=hb
 have m1:aq (b.2-a.2) a.1=true:=iz (by omega) (by omega)
 have m2:aq (a.1-b.1) a.2=true:=iz (by omega) (by omega)
 simp[Ij,El,List.replicate,pt,jE,Hu.Z2,m1,m2]
def Z0n{l:Hu.Ln}(hl:SmL l)(p:Hu.Pt):tW [.sh (jE l),.sh (pt p)]=.ret (.sh (.bl (Hu.hd l p))):=by
 obtain⟨a1,a2,a3,a4⟩:=hl
 have m1:aq l.1 p.1=true:=iz (by omega) (by omega)
 have m2:aq l.2.1 p.2=true:=iz (by omega) (by omega)
 simp[tW,Em,List.replicate,pt,jE,Hu.hd,m1,m2]
def Z0E{a b:Hu.Pt}(ha:Sm a)(hb:Sm b):SmL (Hu.Z2 a b):=by
 obtain⟨a1,a2,a3,a4⟩:=ha
 obtain⟨b1,b2,b3,b4⟩:=hb
 simp only[SmL,Hu.Z2]
 omega
def Sl(s:P.Slot)(ps:List PV):Prop:=s=.sh (.lst ps)\/s=.bw ps
def Sl.lend{s:P.Slot}{ps:List PV}(h:Sl s ps):g_ s=some s:=by rcases h with rfl|rfl<;>rfl
def Sl.it{s:P.Slot}{ps:List PV}(h:Sl s ps){i:Nat}{ρ:ŝ}(e:ρ[i]?=some s):š i ρ=.ok ps ρ:= by
 rcases h with rfl|rfl<;>simp[e]
def Z2f{S:List Hu.Pt}{sl:P.Slot}(hs:Sl sl (S.map pt))(hl:S.length<=1000):Ii [sl]=.ret (.ow ((Hu.Z1 S).map pt)):=by
 have hlen:∀(xs k:List Hu.Pt),(xs.foldl (λk x=>if x∈k then k else k ++ [x]) k).length<=k.length+xs.length:=by
  intro xs
  induction xs with
  |nil=>intro k;simp
  |cons x xs ih=>
   intro k
   rw[List.foldl_cons]
   refine Nat.le_trans (ih _) ?_
   split
   ·simp
   ·simp;omega
 have key:∀(xs:List Hu.Pt) (k:List Hu.Pt) (s2:P.Slot),k.length+xs.length<=1000->∃s2',forL (gN 2) pR (xs.map pt) [sl,.ow (k.map pt),s2]=.ok .nx [sl,.ow ((xs.foldl (λk x=>if x∈k then k else k ++ [x]) k).map pt),s2']:=by
  intro xs
  induction xs with
  |nil=>intro k s2 _;exact⟨s2,rfl⟩
  |cons x xs ih=>
   intro k s2 hk
   rw[List.length_cons] at hk
   by_cases hx:x∈k
   ·obtain⟨s2',e⟩:=ih k (.sh (pt x)) (by omega)
    refine⟨s2',?_⟩
    have hb:pR [sl,.ow (k.map pt),.sh (pt x)]=.ok .nx [sl,.ow (k.map pt),.sh (pt x)]:=by simp[pR,Z0m,hx]
    rw[List.map_cons,List.foldl_cons,if_pos hx,forL]
    simp[hb,e]
   ·obtain⟨s2',e⟩:=ih (k ++ [x]) (.sh (pt x)) (by simp;omega)
    refine⟨s2',?_⟩
    have h3:k.length<16777216:=by omega
    have hb:pR [sl,.ow (k.map pt),.sh (pt x)]=.ok .nx [sl,.ow ((k ++ [x]).map pt),.sh (pt x)]:=by simp[pR,Z0m,hx,h3]
    rw[List.map_cons,List.foldl_cons,if_neg hx,forL]
    simp only[Mr,List.set_cons_succ,List.set_cons_zero,hb,Res.cB]
    exact e
 obtain⟨s2,e⟩:=key S [] .no (by simpa using hl)
 have hit:=hs.it (i:=0) (ρ:= [sl,.ow [],.no]) rfl
 simp only[List.map_nil] at e
 simp[Ii,Ek,List.replicate,-Dl,hit,e]
 rfl
def Z17(x:Int)(l:List Int):mH [.lst ((x::l).map .int)]=some (.int (Hu.mx (x::l))):=by
 show((intsOf ((x::l).map .int)).bind (best max)).map PV.int=_
 rw[nu]
 rfl
def Z18(x:Int)(l:List Int):nZ [.lst ((x::l).map .int)]=some (.int (Hu.mn (x::l))):=by
 show((intsOf ((x::l).map .int)).bind (best min)).map PV.int=_
 rw[nu]
 rfl
def Z2A{S:List Hu.Pt}{sl:P.Slot}(hs:Sl sl (S.map pt))(h0:S≠[])(hl:S.length<=1000):Ih [sl]=.ret (.ow ((Hu.box S).map jE)):=by
 have c1:ŕ (gN 0) œ (ĉ Ě (ā 0) (mC (.int 0))) (S.map pt) [.no] []=some ((S.map (·.1)).map .int):=by
  have:=Œ (g:=gN 0) (mt:=œ) (me:=ĉ Ě (ā 0) (mC (.int 0))) pt (λp=>.int p.1) (λρ=>∃s,ρ=[s]) S [.no] [] ⟨_,rfl⟩ (by simp;omega) (by
   rintro x hx ρ ⟨s,rfl⟩
   exact⟨[.sh (pt x)],[.sh (pt x)],[.sh (pt x)],by simp,by simp,by simp[pt],_,rfl⟩)
  rw[this]
  simp
 have c2:ŕ (gN 0) œ (ĉ Ě (ā 0) (mC (.int 1))) (S.map pt) [.no] []=some ((S.map (·.2)).map .int):=by
  have:=Œ (g:=gN 0) (mt:=œ) (me:=ĉ Ě (ā 0) (mC (.int 1))) pt (λp=>.int p.2) (λρ=>∃s,ρ=[s]) S [.no] [] ⟨_,rfl⟩ (by simp;omega) (by
   rintro x hx ρ ⟨s,rfl⟩
   exact⟨[.sh (pt x)],[.sh (pt x)],[.sh (pt x)],by simp,by simp,by simp[pt],_,rfl⟩)
  rw[this]
  simp
 obtain⟨p,R,rfl⟩:=List.exists_cons_of_ne_nil h0
 have x1:=Z17 p.1 (R.map (·.1))
 have x2:=Z18 p.1 (R.map (·.1))
 have x3:=Z17 p.2 (R.map (·.2))
 have x4:=Z18 p.2 (R.map (·.2))
 have hit:∀s1 s2,š 0 [sl,s1,s2]=.ok ((p::R).map pt) [sl,s1,s2]:=λs1 s2=>hs.it rfl
 have b:(Hu.box (p::R)).map jE=[.tup [.int 1,.int 0,.int (Hu.mx (p.1::R.map (·.1)))],.tup [.int (-1),.int 0,.int (- Hu.mn (p.1::R.map (·.1)))],.tup [.int 0,.int 1,.int (Hu.mx (p.2::R.map (·.2)))],.tup [.int 0,.int (-1),.int (- Hu.mn (p.2::R.map (·.2)))]]:=rfl
 rw[b]
 generalize (p::R).map pt=ps at hit c1 c2
 rw[List.map_cons] at c1 c2
 generalize (p.1::R.map (·.1)).map PV.int=us at c1 x1 x2
 generalize (p.2::R.map (·.2)).map PV.int=vs at c2 x3 x4
 simp[Ih,Ej,List.replicate,-Dl,-Sq,-HF,hit,c1,c2,x1,x2,x3,x4]
theorem Z0b:∀l:List Bool,boolsOf (l.map .bl)=some l
 | []=>rfl
 |x::l=>by rw[List.map_cons,boolsOf,Z0b l];rfl
def Z19(l:List Bool):xr [.lst (l.map .bl)]=some (.bl (l.all id)):=by
 show(boolsOf (l.map .bl)).map (λbs=>PV.bl (bs.all id))=_
 rw[Z0b]
 rfl
def ZE(S:List Hu.Pt):(Hu.Z1 S).length<=S.length:=by
 have:∀(xs k:List Hu.Pt),(xs.foldl (λk x=>if x∈k then k else k ++ [x]) k).length<=k.length+xs.length:=by
  intro xs
  induction xs with
  |nil=>intro k;simp
  |cons x xs ih=>
   intro k
   rw[List.foldl_cons]
   refine Nat.le_trans (ih _) ?_
   split
   ·simp
   ·simp;omega
 have h:=this S []
 rw[List.length_nil,Nat.zero_add] at h
 exact h
def Z1a{S:List Hu.Pt}(hS:∀p∈S,Sm p)(hl:S.length<=1000){a b:Hu.Pt}(ha:a∈S)(hb:b∈S)(s0 s5:P.Slot)(L:List Hu.Ln)(hL:L.length<16777216) :
 pU [s0,.ow (L.map jE),.sh (.lst ((Hu.Z1 S).map pt)),.sh (pt a),.sh (pt b),s5]=.ok .nx [s0,.ow ((L++(if a≠b/\(Hu.Z1 S).all (Hu.hd (Hu.Z2 a b)) then[Hu.Z2 a b] else[])).map jE),.sh (.lst ((Hu.Z1 S).map pt)),.sh (pt a),.sh (pt b),.sh (jE (Hu.Z2 a b))]:=by
 have hsm:=Z0E (hS a ha) (hS b hb)
 have c1:ŕ (gN 1) œ (ē (Đ tW (Ą 0 (Ą 1 č)))) ((Hu.Z1 S).map pt) [.sh (jE (Hu.Z2 a b)),.no] []=some (((Hu.Z1 S).map (Hu.hd (Hu.Z2 a b))).map .bl):=by
  have hlen:(Hu.Z1 S).length<=16777216:=by have:=ZE S;omega
  have:=Œ (g:=gN 1) (mt:=œ) (me:=ē (Đ tW (Ą 0 (Ą 1 č)))) pt (λp=>.bl (Hu.hd (Hu.Z2 a b) p)) (λρ=>∃s,ρ=[.sh (jE (Hu.Z2 a b)),s]) (Hu.Z1 S) [.sh (jE (Hu.Z2 a b)),.no] [] ⟨_,rfl⟩ (by simpa using hlen) (by
   rintro x hx ρ ⟨s,rfl⟩
   exact⟨[.sh (jE (Hu.Z2 a b)),.sh (pt x)],[.sh (jE (Hu.Z2 a b)),.sh (pt x)],[.sh (jE (Hu.Z2 a b)),.sh (pt x)],by simp,by simp,by simp[Z0n hsm],_,rfl⟩)
  rw[this]
  simp
 have c2:=Z19 ((Hu.Z1 S).map (Hu.hd (Hu.Z2 a b)))
 have e1:=Z2e (hS a ha) (hS b hb)
 have e3:((Hu.Z1 S).map (Hu.hd (Hu.Z2 a b))).all id=(Hu.Z1 S).all (Hu.hd (Hu.Z2 a b)):=by simp
 rw[e3] at c2
 generalize ((Hu.Z1 S).map (Hu.hd (Hu.Z2 a b))).map PV.bl=bs at c1 c2
 by_cases h1:a=b
 ·subst h1
  simp[pU,e1,Z0O]
 ·by_cases h2:(Hu.Z1 S).all (Hu.hd (Hu.Z2 a b))=true
  ·rw[h2] at c2
   simp[pU,e1,Z0O,h1,c1,c2,h2,hL,-List.all_eq_true]
  ·rw[Bool.not_eq_true] at h2
   rw[h2] at c2
   simp[pU,e1,Z0O,h1,c1,c2,h2,hL,-List.all_eq_true,-List.all_eq_false]
def Z1C{S:List Hu.Pt}(hS:∀p∈S,Sm p)(hl:S.length<=1000){a:Hu.Pt}(ha:a∈S)(s0:P.Slot):∀(xs:List Hu.Pt) (L:List Hu.Ln) (s4 s5:P.Slot),(∀x∈xs,x∈S)->L.length+xs.length<16777216->
 ∃Qz Ui,forL (gN 4) pU (xs.map pt) [s0,.ow (L.map jE),.sh (.lst ((Hu.Z1 S).map pt)),.sh (pt a),s4,s5]=.ok .nx [s0,.ow ((L++xs.filterMap λb=>if a≠b/\(Hu.Z1 S).all (Hu.hd (Hu.Z2 a b)) then some (Hu.Z2 a b) else none).map jE),.sh (.lst ((Hu.Z1 S).map pt)),.sh (pt a),Qz,Ui]:=by
 intro xs
 induction xs with
 |nil=>intro L s4 s5 _ _;exact⟨s4,s5,by simp[forL]⟩
 |cons b xs ih=>
  intro L s4 s5 hx hL
  rw[List.length_cons] at hL
  have hb:=Z1a hS hl ha (hx b (by simp)) s0 s5 L (by omega)
  obtain⟨Qz,Ui,e⟩:=ih (L++(if a≠b/\(Hu.Z1 S).all (Hu.hd (Hu.Z2 a b)) then[Hu.Z2 a b] else[])) (.sh (pt b)) (.sh (jE (Hu.Z2 a b))) (λx h=>hx x (List.mem_cons_of_mem _ h)) (by
   rw[List.length_append]
   split
   ·simp;omega
   ·simp;omega)
  refine⟨Qz,Ui,?_⟩
  rw[List.map_cons,forL]
  simp only[Mr,List.set_cons_succ,List.set_cons_zero,hb,Res.cB]
  rw[e,List.filterMap_cons]
  by_cases hc:a≠b/\(Hu.Z1 S).all (Hu.hd (Hu.Z2 a b))=true
  ·rw[if_pos hc,if_pos hc]
   simp only[List.append_assoc,List.cons_append,List.nil_append]
  ·rw[if_neg hc,if_neg hc]
   simp only[List.append_nil]
def ZL{α β:Type}(f:α->Option β)(l:List α):(l.filterMap f).length<=l.length:=List.length_filterMap_le ..
def Z1D{S:List Hu.Pt}(hS:∀p∈S,Sm p)(hl:S.length<=1000)(s0:P.Slot):∀(xs:List Hu.Pt) (L:List Hu.Ln) (s3 s4 s5:P.Slot),(∀x∈xs,x∈S)->L.length+xs.length*1000<10000000->
 ∃s3' Qz Ui,forL (gN 3) yQ (xs.map pt) [s0,.ow (L.map jE),.sh (.lst ((Hu.Z1 S).map pt)),s3,s4,s5]=.ok .nx [s0,.ow ((L++xs.flatMap λa=>(Hu.Z1 S).filterMap λb=>if a≠b/\(Hu.Z1 S).all (Hu.hd (Hu.Z2 a b)) then some (Hu.Z2 a b) else none).map jE),.sh (.lst ((Hu.Z1 S).map pt)),s3',Qz,Ui]:=by
 intro xs
 induction xs with
 |nil=>intro L s3 s4 s5 _ _;exact⟨s3,s4,s5,by simp[forL]⟩
 |cons a xs ih=>
  intro L s3 s4 s5 hx hL
  rw[List.length_cons] at hL
  have ho:=ZE S
  obtain⟨a4,a5,e1⟩:=Z1C hS hl (hx a (by simp)) s0 (Hu.Z1 S) L s4 s5 (λx h=>Hu.Zl.mp h) (by omega)
  have hf:=ZL (λb=>if a≠b/\(Hu.Z1 S).all (Hu.hd (Hu.Z2 a b))=true then some (Hu.Z2 a b) else none) (Hu.Z1 S)
  obtain⟨s3',Qz,Ui,e2⟩:=ih (L++(Hu.Z1 S).filterMap λb=>if a≠b/\(Hu.Z1 S).all (Hu.hd (Hu.Z2 a b))=true then some (Hu.Z2 a b) else none) (.sh (pt a)) a4 a5 (λx h=>hx x (List.mem_cons_of_mem _ h)) (by rw[List.length_append];omega)
  refine⟨s3',Qz,Ui,?_⟩
  have hb:yQ [s0,.ow (L.map jE),.sh (.lst ((Hu.Z1 S).map pt)),.sh (pt a),s4,s5]=.ok .nx [s0,.ow ((L++(Hu.Z1 S).filterMap λb=>if a≠b/\(Hu.Z1 S).all (Hu.hd (Hu.Z2 a b))=true then some (Hu.Z2 a b) else none).map jE),.sh (.lst ((Hu.Z1 S).map pt)),.sh (pt a),a4,a5]:=by
   unfold yQ
   simp only[Zby,Dl,List.getElem?_cons_succ,List.getElem?_cons_zero,Res.cB]
   exact e1
  rw[List.map_cons,forL]
  simp only[Mr,List.set_cons_succ,List.set_cons_zero,hb,Res.cB]
  rw[e2,List.flatMap_cons,List.append_assoc]
def Z1E{S:List Hu.Pt}{sl:P.Slot}(hs:Sl sl (S.map pt))(hS:∀p∈S,Sm p)(hl:S.length<=1000):Ik [sl]=.ret (.ow ((Hu.Zx S).map jE)):=by
 have h1:=Z2f hs hl
 have ho:=ZE S
 obtain⟨s3,s4,s5,e⟩:=Z1D hS hl sl (Hu.Z1 S) [] .no .no .no (λx h=>Hu.Zl.mp h) (by simp;omega)
 have he:[]++((Hu.Z1 S).flatMap λa=>(Hu.Z1 S).filterMap λb=>if a≠b/\(Hu.Z1 S).all (Hu.hd (Hu.Z2 a b))=true then some (Hu.Z2 a b) else none)=Hu.Zx S:=rfl
 rw[he] at e
 generalize Hu.Zx S=ed at e
 generalize (Hu.Z1 S).map pt=os at e h1
 simp only[List.map_nil] at e
 simp[Ik,En,List.replicate,hs.lend,h1,e]
def Z1b(S:List Hu.Pt)(hl:S.length<=1000):(Hu.Zx S).length<=1000000:=by
 have ho:=ZE S
 have:∀(xs:List Hu.Pt) (f:Hu.Pt->List Hu.Ln),(∀x,(f x).length<=1000)->(xs.flatMap f).length<=xs.length*1000:=by
  intro xs f hf
  induction xs with
  |nil=>simp
  |cons x xs ih=>rw[List.flatMap_cons,List.length_append,List.length_cons];have:=hf x;omega
 refine Nat.le_trans (this (Hu.Z1 S) _ λx=>Nat.le_trans (ZL _ _) (by omega)) (by omega)
def Z1F{S:List Hu.Pt}{sl:P.Slot}(hs:Sl sl (S.map pt))(hS:∀p∈S,Sm p)(h0:S≠[])(hl:S.length<=1000):Il [sl]=.ret (.ow ((Hu.Zy S).map jE)):=by
 have h1:=Z2A hs h0 hl
 have h2:=Z1E hs hS hl
 have h3:ķ (.lst ((Hu.box S).map jE)) (.lst ((Hu.Zx S).map jE))=some (.ow ((Hu.Zy S).map jE)):=by
  rw[add_l (by have:=Z1b S hl;simp[Hu.box];omega),<-List.map_append]
  rfl
 simp[Il,Eo,List.replicate,hs.lend,h1,h2,h3]
def Z2B{S:List Hu.Pt}{l:Hu.Ln}(h:l∈Hu.Zy S)(hS:∀p∈S,Sm p):SmL l:=by
 rcases List.mem_append.mp h with h|h
 ·unfold Hu.box at h
  simp only[List.mem_cons,List.not_mem_nil,or_false] at h
  rcases h with e|e|e|e<;>subst e<;>simp only[SmL]<;>omega
 ·obtain⟨a,ha,b,hb,_,_,rfl⟩:=Hu.Z14.mp h
  exact Z0E (hS a ha) (hS b hb)
def Z0P(n:Nat):jW 0 n 1=(List.range n).map λ(i:Nat)=>PV.int (i:Int):=by
 unfold jW
 refine List.map_congr_left λi _=>?_
 simp
def Zw{n:Nat}(h:n<=1000):bI [.int (n:Int)]=some ((List.range n).map λ(i:Nat)=>PV.int (i:Int)):=by
 have hs:rY (n:Int)=true:=by unfold rY;simp;omega
 unfold bI
 simp[hs,Z0P]
def SlT(s:P.Slot)(ps:List PV):Prop:=s=.sh (.lst ps)\/s=.bw ps
def cg(x:Int):Bool:=decide (-1000000000<=x/\x<=1000000000)
def Ce(x:Int):Bool:=decide (1<=x/\x<=1000000000)
def Cg(x:Int):Bool:=decide (0<=x/\x<=1000000000)
def Z03(x:Int):qw [.sh (.int x)]=.ret (.sh (.bl (cg x))):=by
 unfold cg
 by_cases h1: -1000000000<=x<;>by_cases h2:x<=1000000000<;>simp[qw,DY,List.replicate,h1,h2]
def Z0c(x:Int):Bt [.sh (.int x)]=.ret (.sh (.bl (Ce x))):=by
 unfold Ce
 by_cases h1:1<=x<;>by_cases h2:x<=1000000000<;>simp[Bt,D_,List.replicate,h1,h2]
def Zf:List Int->Bool
 | [p,q,h]=>cg p && cg q && Ce h
 |_=>false
def Zg:List Int->Bool
 | [x,y,u,v,h]=>cg x && cg y && cg u && cg v && Ce h
 |_=>false
def Zc:List Int->Bool
 | [x,y,u,v,h]=>Zg [x,y,u,v,h] && !(decide (x=u) && decide (y=v))
 |_=>false
def Z8:List Int->Bool
 | [x,y,u,v,h]=>Zg [x,y,u,v,h] && decide (x<u) && decide (y<v)
 |_=>false
def Zd:List Int->Bool
 | [a,b,c,d,e,f,g,h,i]=>cg a && cg b && Cg c && (cg d && cg e && Cg f) && (cg g && cg h && Cg i)
 |_=>false
def Z2C(a b c:Bool):xr [.lst [.bl a,.bl b,.bl c]]=some (.bl (a && b && c)):=by cases a<;>cases b<;>cases c<;>rfl
def Z2D(a b c d:Bool):xr [.lst [.bl a,.bl b,.bl c,.bl d]]=some (.bl (a && b && c && d)):=by cases a<;>cases b<;>cases c<;>cases d<;>rfl
def Z0h{xs:List Int}{sl:P.Slot}(hs:SlT sl (xs.map .int)):Bu [sl]=.ret (.sh (.bl (Zf xs))):=by
 by_cases hl:xs.length=3
 ·match xs,hl with
  | [a,b,c],_=>
    have h:Zf [a,b,c]=(cg a && cg b && Ce c):=rfl
    rw[h]
    rcases hs with rfl|rfl<;>cases ea:cg a<;>cases eb:cg b<;>cases ec:Ce c<;>simp[Bu,yF,List.replicate,Z03,Z0c,ea,eb,ec]
 ·have h:Zf xs=false:=by
   unfold Zf
   split
   ·simp at hl
   ·rfl
  rw[h]
  have hl':¬((xs.length:Nat):Int)=3:=by omega
  rcases hs with rfl|rfl<;>simp[Bu,yF,List.replicate,hl']
def Z0F{xs:List Int}{sl:P.Slot}(hs:SlT sl (xs.map .int)):vU [sl]=.ret (.sh (.bl (Zg xs))):=by
 by_cases hl:xs.length=5
 ·match xs,hl with
  | [a,b,c,d,e],_=>
    have h:Zg [a,b,c,d,e]=(cg a && cg b && cg c && cg d && Ce e):=rfl
    rw[h]
    have hc:dG ([.int a,.int b,.int c,.int d,.int e]:List PV) none (some 4)=[.int a,.int b,.int c,.int d]:=rfl
    have hb:=Z2D (cg a) (cg b) (cg c) (cg d)
    rcases hs with rfl|rfl<;>cases ea:(cg a && cg b && cg c && cg d)<;>cases ec:Ce e<;>rw[ea] at hb<;>simp[vU,yI,List.replicate,Z03,Z0c,hc,ŕ,hb,ec]
 ·have h:Zg xs=false:=by
   unfold Zg
   split
   ·simp at hl
   ·rfl
  rw[h]
  have hl':¬((xs.length:Nat):Int)=5:=by omega
  rcases hs with rfl|rfl<;>simp[vU,yI,List.replicate,hl']
def Z2E(a b c d:Int):pH (.lst [.int a,.int b]) (.lst [.int c,.int d])=some (.bl (!(decide (a=c) && decide (b=d)))):=by
 have h:eqB (.lst [.int a,.int b]) (.lst [.int c,.int d])=(decide (a=c) && decide (b=d)):=by
  simp[eqB,iU]
  rw[Bool.eq_iff_iff]
  simp
 unfold pH wZ
 rw[h]
 simp[cA,fV,dep,Al]
def Z23{xs:List Int}(hl:¬xs.length=5):Zg xs=false:=by
 unfold Zg
 split
 ·simp at hl
 ·rfl
def Z0Q{s:P.Slot}{ps:List PV}(h:SlT s ps):g_ s=some s:=by rcases h with rfl|rfl<;>rfl
def Z1G{xs:List Int}{sl:P.Slot}(hs:SlT sl (xs.map .int)):Bv [sl]=.ret (.sh (.bl (Zc xs))):=by
 have he:=Z0F hs
 by_cases hl:xs.length=5
 ·match xs,hl with
  | [a,b,c,d,e],_=>
    have h:Zc [a,b,c,d,e]=(Zg [a,b,c,d,e] && !(decide (a=c) && decide (b=d))):=rfl
    rw[h]
    have h1:dG ([.int a,.int b,.int c,.int d,.int e]:List PV) none (some 2)=[.int a,.int b]:=rfl
    have h2:dG ([.int a,.int b,.int c,.int d,.int e]:List PV) (some 2) (some 4)=[.int c,.int d]:=rfl
    have h3:=Z2E a b c d
    generalize Zg [a,b,c,d,e]=q at *
    generalize (!(decide (a=c) && decide (b=d)))=r at *
    rcases hs with rfl|rfl<;>cases q<;>simp_all [Bv,yJ,List.replicate]
 ·have h:Zc xs=false:=by
   unfold Zc
   split
   ·simp at hl
   ·rfl
  rw[h]
  rw[Z23 hl] at he
  simp[Bv,yJ,List.replicate,Z0Q hs,he]
def Z2g{xs:List Int}{sl:P.Slot}(hs:SlT sl (xs.map .int)):JL [sl]=.ret (.sh (.bl (Z8 xs))):=by
 have he:=Z0F hs
 by_cases hl:xs.length=5
 ·match xs,hl with
  | [a,b,c,d,e],_=>
    have h:Z8 [a,b,c,d,e]=(Zg [a,b,c,d,e] && decide (a<c) && decide (b<d)):=rfl
    rw[h]
    generalize Zg [a,b,c,d,e]=q at *
    rcases hs with rfl|rfl<;>simp only[List.map_cons,List.map_nil] at he<;>cases q<;>by_cases h1:a<c<;>by_cases h2:b<d<;>simp[JL,Ie,List.replicate,he,h1,h2]
 ·have h:Z8 xs=false:=by
   unfold Z8
   split
   ·simp at hl
   ·rfl
  rw[h]
  rw[Z23 hl] at he
  simp[JL,Ie,List.replicate,Z0Q hs,he]
def ZP(a b c:Int):S_ [.sh (.lst [.int a,.int b,.int c])]=.ret (.sh (.bl (cg a && cg b && Cg c))):=by
 unfold Cg
 cases ea:cg a<;>cases eb:cg b<;>by_cases h1:0<=c<;>by_cases h2:c<=1000000000<;>simp[S_,Om,List.replicate,Z03,ea,eb,h1,h2]
def Z1H{xs:List Int}{sl:P.Slot}(hs:SlT sl (xs.map .int)):Bw [sl]=.ret (.sh (.bl (Zd xs))):=by
 by_cases hl:xs.length=9
 ·match xs,hl with
  | [a,b,c,d,e,f,g,h,i],_=>
    have hc:Zd [a,b,c,d,e,f,g,h,i]=((cg a && cg b && Cg c) && (cg d && cg e && Cg f) && (cg g && cg h && Cg i)):=rfl
    rw[hc]
    have h1:dG ([.int a,.int b,.int c,.int d,.int e,.int f,.int g,.int h,.int i]:List PV) (some 0) (some 3)=[.int a,.int b,.int c]:=rfl
    have h2:dG ([.int a,.int b,.int c,.int d,.int e,.int f,.int g,.int h,.int i]:List PV) (some 3) (some 6)=[.int d,.int e,.int f]:=rfl
    have h3:dG ([.int a,.int b,.int c,.int d,.int e,.int f,.int g,.int h,.int i]:List PV) (some 6) (some 9)=[.int g,.int h,.int i]:=rfl
    have hb:=Z2C (cg a && cg b && Cg c) (cg d && cg e && Cg f) (cg g && cg h && Cg i)
    have k1:=ZP a b c
    have k2:=ZP d e f
    have k3:=ZP g h i
    generalize (cg a && cg b && Cg c)=q1 at *
    generalize (cg d && cg e && Cg f)=q2 at *
    generalize (cg g && cg h && Cg i)=q3 at *
    rcases hs with rfl|rfl<;>simp[Bw,yK,List.replicate,ŕ,h1,h2,h3,k1,k2,k3,hb]
 ·have h:Zd xs=false:=by
   unfold Zd
   split
   ·simp at hl
   ·rfl
  rw[h]
  have hl':¬((xs.length:Nat):Int)=9:=by omega
  rcases hs with rfl|rfl<;>simp[Bw,yK,List.replicate,hl']
def Zb(w:Str):String:=if w= "post" then "Post" else if w= "fence" then "Fence" else if w= "sail" then "Sail" else if w= "cloth" then "Cloth" else "House"
def Z4(C:String)(w:Str)(xs:List Int):PV:=.ins C ["word","numbers"] [.str w,.lst (xs.map .int)]
def Z5(w:Str)(xs:List Int):Bool:=if w= "post" then Zf xs else if w= "fence" then Zc xs else if w= "sail" then Z8 xs else if w= "cloth" then Zd xs else if w= "house" then Z8 xs else false
def wn:((Str.ofString "word")=(Str.ofString "numbers"))=False:=eq_false (by decide +kernel)
def ZB{C:String}(hC:(["Thing","Post","Fence","Sail","Cloth","House"]:List String).contains C=true)(w:Str){xs:List Int}{sl:P.Slot}(hs:SlT sl (xs.map .int)):fZ 3 3 C dN [.sh (.str w),sl]=.ok ["word","numbers"] [.str w,.lst (xs.map .int)]:=by
 rcases hs with rfl|rfl<;>simp[fZ,dN,mG,IR.of,List.replicate,putN,qP,hC,wn,-List.contains_eq_mem,-List.contains_cons]
def s1:PyData.strOk (Str.ofString "post")=true:=by decide +kernel
def s2:PyData.strOk (Str.ofString "fence")=true:=by decide +kernel
def s3:PyData.strOk (Str.ofString "sail")=true:=by decide +kernel
def s4:PyData.strOk (Str.ofString "cloth")=true:=by decide +kernel
def s5:PyData.strOk (Str.ofString "house")=true:=by decide +kernel
def d12:(Str.ofString "post" =Str.ofString "fence")=False:=eq_false (by decide +kernel)
def d13:(Str.ofString "post" =Str.ofString "sail")=False:=eq_false (by decide +kernel)
def d14:(Str.ofString "post" =Str.ofString "cloth")=False:=eq_false (by decide +kernel)
def d15:(Str.ofString "post" =Str.ofString "house")=False:=eq_false (by decide +kernel)
def d23:(Str.ofString "fence" =Str.ofString "sail")=False:=eq_false (by decide +kernel)
def d24:(Str.ofString "fence" =Str.ofString "cloth")=False:=eq_false (by decide +kernel)
def d25:(Str.ofString "fence" =Str.ofString "house")=False:=eq_false (by decide +kernel)
def d34:(Str.ofString "sail" =Str.ofString "cloth")=False:=eq_false (by decide +kernel)
def d35:(Str.ofString "sail" =Str.ofString "house")=False:=eq_false (by decide +kernel)
def d45:(Str.ofString "cloth" =Str.ofString "house")=False:=eq_false (by decide +kernel)
def Z1I{w:Str}(hw:PyData.strOk w=true){xs:List Int}{sl:P.Slot}(hs:SlT sl (xs.map .int)):iB [.sh (.str w),sl]=if Z5 w xs=true then .ret (.sh (Z4 (Zb w) w xs)) else .exc ⟨"BadThing",[],[]⟩:=by
 have e1:=fM hw s1
 have e2:=fM hw s2
 have e3:=fM hw s3
 have e4:=fM hw s4
 have e5:=fM hw s5
 have p1:=Z0h hs
 have p2:=Z1G hs
 have p3:=Z2g hs
 have p4:=Z1H hs
 have i1:yG [.sh (.str w),sl]=_:=ZB (by decide) w hs
 have i2:tH [.sh (.str w),sl]=_:=ZB (by decide) w hs
 have i3:yH [.sh (.str w),sl]=_:=ZB (by decide) w hs
 have i4:tK [.sh (.str w),sl]=_:=ZB (by decide) w hs
 have i5:tM [.sh (.str w),sl]=_:=ZB (by decide) w hs
 have hle:=Z0Q hs
 unfold Z5 Zb Z4
 by_cases h1:w=Str.ofString "post"
 ·have n2:¬w=Str.ofString "fence" := λz=>(d12▸(h1.symm.trans z):False)
  have n3:¬w=Str.ofString "sail" := λz=>(d13▸(h1.symm.trans z):False)
  have n4:¬w=Str.ofString "cloth" := λz=>(d14▸(h1.symm.trans z):False)
  have n5:¬w=Str.ofString "house" := λz=>(d15▸(h1.symm.trans z):False)
  rw[decide_eq_true h1] at e1
  rw[decide_eq_false n2] at e2
  rw[decide_eq_false n3] at e3
  rw[decide_eq_false n4] at e4
  rw[decide_eq_false n5] at e5
  have hg:(if w=Str.ofString "post" then Zf xs else if w=Str.ofString "fence" then Zc xs else if w=Str.ofString "sail" then Z8 xs else if w=Str.ofString "cloth" then Zd xs else if w=Str.ofString "house" then Z8 xs else false)=Zf xs:=by rw[if_pos h1]
  have hc:(if w=Str.ofString "post" then "Post" else if w=Str.ofString "fence" then "Fence" else if w=Str.ofString "sail" then "Sail" else if w=Str.ofString "cloth" then "Cloth" else "House")= "Post" := by rw[if_pos h1]
  rw[hg,hc]
  cases q:Zf xs<;>rw[q] at p1<;>simp[iB,kJ,dW,List.replicate,e1,e2,e3,e4,e5,hle,p1,i1]
 ·skip
  by_cases h2:w=Str.ofString "fence"
  ·have n1:=h1
   have n3:¬w=Str.ofString "sail" := λz=>(d23▸(h2.symm.trans z):False)
   have n4:¬w=Str.ofString "cloth" := λz=>(d24▸(h2.symm.trans z):False)
   have n5:¬w=Str.ofString "house" := λz=>(d25▸(h2.symm.trans z):False)
   rw[decide_eq_true h2] at e2
   rw[decide_eq_false n1] at e1
   rw[decide_eq_false n3] at e3
   rw[decide_eq_false n4] at e4
   rw[decide_eq_false n5] at e5
   have hg:(if w=Str.ofString "post" then Zf xs else if w=Str.ofString "fence" then Zc xs else if w=Str.ofString "sail" then Z8 xs else if w=Str.ofString "cloth" then Zd xs else if w=Str.ofString "house" then Z8 xs else false)=Zc xs:=by rw[if_neg n1,if_pos h2]
   have hc:(if w=Str.ofString "post" then "Post" else if w=Str.ofString "fence" then "Fence" else if w=Str.ofString "sail" then "Sail" else if w=Str.ofString "cloth" then "Cloth" else "House")= "Fence" := by rw[if_neg n1,if_pos h2]
   rw[hg,hc]
   cases q:Zc xs<;>rw[q] at p2<;>simp[iB,kJ,dW,List.replicate,e1,e2,e3,e4,e5,hle,p2,i2]
  ·skip
   by_cases h3:w=Str.ofString "sail"
   ·have n1:=h1
    have n2:=h2
    have n4:¬w=Str.ofString "cloth" := λz=>(d34▸(h3.symm.trans z):False)
    have n5:¬w=Str.ofString "house" := λz=>(d35▸(h3.symm.trans z):False)
    rw[decide_eq_true h3] at e3
    rw[decide_eq_false n1] at e1
    rw[decide_eq_false n2] at e2
    rw[decide_eq_false n4] at e4
    rw[decide_eq_false n5] at e5
    have hg:(if w=Str.ofString "post" then Zf xs else if w=Str.ofString "fence" then Zc xs else if w=Str.ofString "sail" then Z8 xs else if w=Str.ofString "cloth" then Zd xs else if w=Str.ofString "house" then Z8 xs else false)=Z8 xs:=by rw[if_neg n1,if_neg n2,if_pos h3]
    have hc:(if w=Str.ofString "post" then "Post" else if w=Str.ofString "fence" then "Fence" else if w=Str.ofString "sail" then "Sail" else if w=Str.ofString "cloth" then "Cloth" else "House")= "Sail" := by rw[if_neg n1,if_neg n2,if_pos h3]
    rw[hg,hc]
    cases q:Z8 xs<;>rw[q] at p3<;>simp[iB,kJ,dW,List.replicate,e1,e2,e3,e4,e5,hle,p3,i3]
   ·skip
    by_cases h4:w=Str.ofString "cloth"
    ·have n1:=h1
     have n2:=h2
     have n3:=h3
     have n5:¬w=Str.ofString "house" := λz=>(d45▸(h4.symm.trans z):False)
     rw[decide_eq_true h4] at e4
     rw[decide_eq_false n1] at e1
     rw[decide_eq_false n2] at e2
     rw[decide_eq_false n3] at e3
     rw[decide_eq_false n5] at e5
     have hg:(if w=Str.ofString "post" then Zf xs else if w=Str.ofString "fence" then Zc xs else if w=Str.ofString "sail" then Z8 xs else if w=Str.ofString "cloth" then Zd xs else if w=Str.ofString "house" then Z8 xs else false)=Zd xs:=by rw[if_neg n1,if_neg n2,if_neg n3,if_pos h4]
     have hc:(if w=Str.ofString "post" then "Post" else if w=Str.ofString "fence" then "Fence" else if w=Str.ofString "sail" then "Sail" else if w=Str.ofString "cloth" then "Cloth" else "House")= "Cloth" := by rw[if_neg n1,if_neg n2,if_neg n3,if_pos h4]
     rw[hg,hc]
     cases q:Zd xs<;>rw[q] at p4<;>simp[iB,kJ,dW,List.replicate,e1,e2,e3,e4,e5,hle,p4,i4]
    ·skip
     by_cases h5:w=Str.ofString "house"
     ·have n1:=h1
      have n2:=h2
      have n3:=h3
      have n4:=h4
      rw[decide_eq_true h5] at e5
      rw[decide_eq_false n1] at e1
      rw[decide_eq_false n2] at e2
      rw[decide_eq_false n3] at e3
      rw[decide_eq_false n4] at e4
      have hg:(if w=Str.ofString "post" then Zf xs else if w=Str.ofString "fence" then Zc xs else if w=Str.ofString "sail" then Z8 xs else if w=Str.ofString "cloth" then Zd xs else if w=Str.ofString "house" then Z8 xs else false)=Z8 xs:=by rw[if_neg n1,if_neg n2,if_neg n3,if_neg n4,if_pos h5]
      have hc:(if w=Str.ofString "post" then "Post" else if w=Str.ofString "fence" then "Fence" else if w=Str.ofString "sail" then "Sail" else if w=Str.ofString "cloth" then "Cloth" else "House")= "House" := by rw[if_neg n1,if_neg n2,if_neg n3,if_neg n4]
      rw[hg,hc]
      cases q:Z8 xs<;>rw[q] at p3<;>simp[iB,kJ,dW,List.replicate,e1,e2,e3,e4,e5,hle,p3,i5]
     ·skip
      rw[decide_eq_false h1] at e1
      rw[decide_eq_false h2] at e2
      rw[decide_eq_false h3] at e3
      rw[decide_eq_false h4] at e4
      rw[decide_eq_false h5] at e5
      rw[if_neg h1,if_neg h2,if_neg h3,if_neg h4,if_neg h5]
      simp[iB,kJ,dW,List.replicate,e1,e2,e3,e4,e5]
abbrev P3:=Int×Int×Int
def c3(p:P3):PV:=.tup [.int p.1,.int p.2.1,.int p.2.2]
def Zv(x y u v z:Int):List P3:=[(x,y,z),(u,y,z),(u,v,z),(x,v,z)]
def ZX(x y u v h:Int):List P3:=Zv x y u v 0++Zv x y u v h
def Z3(C:String)(xs:List Int):List P3:=
 if C= "Post" then(match xs with
  | [p,q,h]=>ZX (2*p-1) (2*q-1) (2*p+1) (2*q+1) h
  |_=>[])
 else if C= "Fence" then(match xs with
  | [x,y,u,v,h]=>[(x,y,0),(u,v,0),(u,v,h),(x,y,h)]
  |_=>[])
 else if C= "Sail" then(match xs with
  | [x,y,u,v,h]=>Zv x y u v h
  |_=>[])
 else if C= "Cloth" then(match xs with
  | [a,b,c,d,e,f,g,h,i]=>[(a,b,c),(d,e,f),(g,h,i)]
  |_=>[])
 else(match xs with
  | [x,y,u,v,h]=>ZX x y u v h
  |_=>[])
def Zi(w:Str)(xs:List Int):List P3:=Z3 (Zb w) xs
def ZQ{C:String}(hC:(["Thing","Post","Fence","Sail","Cloth","House"]:List String).contains C=true)(w:Str)(xs:List Int):dJ ["Thing","Post","Fence","Sail","Cloth","House"] (Str.ofString "numbers") (Z4 C w xs)=some (.lst (xs.map .int)):=by
 unfold dJ Z4
 dsimp only
 rw[if_pos hC]
 have:(Str.ofString "numbers" == Str.ofString "word")=false:=by decide +kernel
 show List.lookup _ [(_,_),(_,_)]=_
 rw[List.lookup_cons,this]
 simp
def Z0o(x y u v z:Int):wu [.sh (.int x),.sh (.int y),.sh (.int u),.sh (.int v),.sh (.int z)]=.ret (.ow ((Zv x y u v z).map c3)):=by
 simp[wu,Ey,List.replicate,Zv,c3]
def Z0p(x y u v h:Int):BW [.sh (.int x),.sh (.int y),.sh (.int u),.sh (.int v),.sh (.int h)]=.ret (.ow ((ZX x y u v h).map c3)):=by
 simp[BW,Ez,List.replicate,Z0o,ZX,Zv,add_l]
def Z2F{xs:List Int}(h:Zf xs=true)(w:Str):qF [.sh (Z4 "Post" w xs)]=.ret (.ow ((Z3 "Post" xs).map c3)):=by
 match xs,h with
 | [p,q,h],hh=>
   simp[Zf,cg,Ce] at hh
   have hf:=ZQ (C:= "Post") (by decide) w [p,q,h]
   generalize Z4 "Post" w [p,q,h]=v at *
   have e:=Z0p (2*p-1) (2*q-1) (2*p+1) (2*q+1) h
   simp[qF,EY,List.replicate,hf,e,Z3]
def Z2h{xs:List Int}(h:Zc xs=true)(w:Str):qG [.sh (Z4 "Fence" w xs)]=.ret (.ow ((Z3 "Fence" xs).map c3)):=by
 match xs,h with
 | [x,y,u,v,h],hh=>
   have hf:=ZQ (C:= "Fence") (by decide) w [x,y,u,v,h]
   generalize Z4 "Fence" w [x,y,u,v,h]=t at *
   simp[qG,E_,List.replicate,hf,Z3,c3,ķ]
def Z2G{xs:List Int}(h:Z8 xs=true)(w:Str):qH [.sh (Z4 "Sail" w xs)]=.ret (.ow ((Z3 "Sail" xs).map c3)):=by
 match xs,h with
 | [x,y,u,v,h],hh=>
   have hf:=ZQ (C:= "Sail") (by decide) w [x,y,u,v,h]
   generalize Z4 "Sail" w [x,y,u,v,h]=t at *
   have e:=Z0o x y u v h
   simp[qH,Fb,List.replicate,hf,e,Z3]
def Z2i{xs:List Int}(h:Z8 xs=true)(w:Str):qJ [.sh (Z4 "House" w xs)]=.ret (.ow ((Z3 "House" xs).map c3)):=by
 match xs,h with
 | [x,y,u,v,h],hh=>
   have hf:=ZQ (C:= "House") (by decide) w [x,y,u,v,h]
   generalize Z4 "House" w [x,y,u,v,h]=t at *
   have e:=Z0p x y u v h
   simp[qJ,Fe,List.replicate,hf,e,Z3]
def Z2j{xs:List Int}(h:Zd xs=true)(w:Str):qI [.sh (Z4 "Cloth" w xs)]=.ret (.ow ((Z3 "Cloth" xs).map c3)):=by
 match xs,h with
 | [a,b,c,d,e,f,g,i,j],hh=>
   have hf:=ZQ (C:= "Cloth") (by decide) w [a,b,c,d,e,f,g,i,j]
   generalize Z4 "Cloth" w [a,b,c,d,e,f,g,i,j]=t at *
   simp[qI,Fd,List.replicate,hf,Z3,c3,ŕ,Uo,dG]
   exact⟨rfl,rfl,rfl⟩
def cst(r p:P3):Hu.Pt:=(r.2.2*p.1+r.1*p.2.2,r.2.2*p.2.1+r.2.1*p.2.2)
def RB(r:P3):Prop:=-1000000<=r.1/\r.1<=1000000/\ -1000000<=r.2.1/\r.2.1<=1000000/\ -1000000<=r.2.2/\r.2.2<=1000000
def PB(p:P3):Prop:=-10000000000<=p.1/\p.1<=10000000000/\ -10000000000<=p.2.1/\p.2.1<=10000000000/\ -10000000000<=p.2.2/\p.2.2<=10000000000
def Z0G{r:P3}(hr:RB r)(p:P3):t_ [.sh (c3 p),.sh (c3 r)]=.ret (.sh (pt (cst r p))):=by
 obtain⟨a1,a2,a3,a4,a5,a6⟩:=hr
 have m1:aq r.2.2 p.1=true:=iz (by omega) (by omega)
 have m2:aq r.2.2 p.2.1=true:=iz (by omega) (by omega)
 have m3:aq r.1 p.2.2=true:=iz (by omega) (by omega)
 have m4:aq r.2.1 p.2.2=true:=iz (by omega) (by omega)
 simp[t_,Ew,List.replicate,pt,c3,cst,m1,m2,m3,m4]
def Z0i{x y A B:Int}(h1: -A<=x)(h2:x<=A)(h3: -B<=y)(h4:y<=B): -(A*B)<=x*y/\x*y<=A*B:=by
 have hA:0<=A:=by omega
 have hB:0<=B:=by omega
 have e:(x*y).natAbs<=A.natAbs*B.natAbs:=by
  rw[Int.natAbs_mul]
  exact Nat.mul_le_mul (by omega) (by omega)
 have e2:((A*B).natAbs)=A.natAbs*B.natAbs:=Int.natAbs_mul A B
 have e3:0<=A*B:=Int.mul_nonneg hA hB
 omega
def Z1c{r p:P3}(hr:RB r)(hp:PB p):Sm (cst r p):=by
 obtain⟨a1,a2,a3,a4,a5,a6⟩:=hr
 obtain⟨b1,b2,b3,b4,b5,b6⟩:=hp
 have q1:=Z0i a5 a6 b1 b2
 have q2:=Z0i a5 a6 b3 b4
 have q3:=Z0i a1 a2 b5 b6
 have q4:=Z0i a3 a4 b5 b6
 simp only[Sm,cst]
 omega
def Z1d{w:Str}{xs:List Int}(hg:Z5 w xs=true){mo:M PV}{ρ ρ1:List P.Slot}(ho:mo ρ=.ok (Z4 (Zb w) w xs) ρ1):sO (Str.ofString "corners") [("Post",qF),("Fence",qG),("Sail",qH),("Cloth",qI),("House",qJ)] mo č ρ=.ok (.ow ((Zi w xs).map c3)) ρ1:=by
 have hn:(["word","numbers"]:List Str).contains (Str.ofString "corners")=false:=by decide +kernel
 have key:∀(C:String) (mf:MF),Zb w=C->List.lookup C [("Post",qF),("Fence",qG),("Sail",qH),("Cloth",qI),("House",qJ)]=some mf->mf [.sh (Z4 C w xs)]=.ret (.ow ((Z3 C xs).map c3))->sO (Str.ofString "corners") [("Post",qF),("Fence",qG),("Sail",qH),("Cloth",qI),("House",qJ)] mo č ρ=.ok (.ow ((Zi w xs).map c3)) ρ1:=by
  intro C mf hC hl hf
  unfold Zi
  rw[hC] at ho ⊢
  unfold sO
  rw[ho]
  unfold Z4 at *
  simp only[Res.bind]
  rw[hl]
  dsimp only
  rw[if_neg (by rw[hn];decide)]
  simp only[č,Res.bind]
  rw[hf]
 unfold Z5 at hg
 by_cases e1:w= "post"
 ·rw[if_pos e1] at hg
  exact key "Post" _ (by unfold Zb;rw[if_pos e1]) rfl (Z2F hg w)
 rw[if_neg e1] at hg
 by_cases e2:w= "fence"
 ·rw[if_pos e2] at hg
  exact key "Fence" _ (by unfold Zb;rw[if_neg e1,if_pos e2]) rfl (Z2h hg w)
 rw[if_neg e2] at hg
 by_cases e3:w= "sail"
 ·rw[if_pos e3] at hg
  exact key "Sail" _ (by unfold Zb;rw[if_neg e1,if_neg e2,if_pos e3]) rfl (Z2G hg w)
 rw[if_neg e3] at hg
 by_cases e4:w= "cloth"
 ·rw[if_pos e4] at hg
  exact key "Cloth" _ (by unfold Zb;rw[if_neg e1,if_neg e2,if_neg e3,if_pos e4]) rfl (Z2j hg w)
 rw[if_neg e4] at hg
 by_cases e5:w= "house"
 ·rw[if_pos e5] at hg
  exact key "House" _ (by unfold Zb;rw[if_neg e1,if_neg e2,if_neg e3,if_neg e4]) rfl (Z2i hg w)
 ·rw[if_neg e5] at hg
  cases hg
def Z0R{r:P3}(hr:RB r){L:List P3}(hl:L.length<=100)(s1:P.Slot):ŕ (gN 1) œ (ē (Đ t_ (Ą 1 (Ą 0 č)))) (L.map c3) [.sh (c3 r),s1] []=some ((L.map (cst r)).map pt):=by
 have:=Œ (g:=gN 1) (mt:=œ) (me:=ē (Đ t_ (Ą 1 (Ą 0 č)))) c3 (λp=>pt (cst r p)) (λρ=>∃s,ρ=[.sh (c3 r),s]) L [.sh (c3 r),s1] [] ⟨_,rfl⟩ (by simp;omega) (by
  rintro p hp ρ ⟨s,rfl⟩
  have e:=Z0G hr p
  generalize c3 r=R at *
  generalize c3 p=Q at *
  exact⟨[R |> .sh,.sh Q],[.sh R,.sh Q],[.sh R,.sh Q],by simp,by simp,by simp[e],_,rfl⟩)
 rw[this]
 simp
def Z1J{w:Str}{xs:List Int}(hg:Z5 w xs=true)(hl:(Zi w xs).length<=100){r:P3}(hr:RB r):Ip [.sh (Z4 (Zb w) w xs),.sh (c3 r)]=.ret (.ow (((Zi w xs).map (cst r)).map pt)):=by
 have h1:=Z1d hg (mo:=ĝ 0) (ρ:= [.sh (Z4 (Zb w) w xs),.sh (c3 r)]) (ρ1:=[.sh (Z4 (Zb w) w xs),.sh (c3 r)]) (by simp)
 have h2:=Z0R hr hl
 generalize ((Zi w xs).map (cst r)).map pt=Y at *
 generalize (Zi w xs).map c3=Z at *
 generalize Z4 (Zb w) w xs=v at *
 generalize c3 r=R at *
 simp[Ip,Fg,List.replicate,h1,h2,-Ss]
def Ci(s:Hu.Pt):P3:=(2*s.1,2*s.2,0)
def Z1K{w:Str}{xs:List Int}(hg:Z5 w xs=true):(Zi w xs).length<=8/\Zi w xs≠[]/\∀p∈Zi w xs,PB p:=by
 have hp:Zf xs=true->(Z3 "Post" xs).length<=8/\Z3 "Post" xs≠[]/\∀p∈Z3 "Post" xs,PB p:=by
  intro h
  match xs,h with
  | [a,b,c],h=>
    simp[Zf,cg,Ce] at h
    simp[Z3,ZX,Zv,PB]
    omega
 have hf:Zc xs=true->(Z3 "Fence" xs).length<=8/\Z3 "Fence" xs≠[]/\∀p∈Z3 "Fence" xs,PB p:=by
  intro h
  match xs,h with
  | [a,b,c,d,e],h=>
    simp[Zc,Zg,cg,Ce] at h
    simp[Z3,PB]
    omega
 have hs:Z8 xs=true->(Z3 "Sail" xs).length<=8/\Z3 "Sail" xs≠[]/\∀p∈Z3 "Sail" xs,PB p:=by
  intro h
  match xs,h with
  | [a,b,c,d,e],h=>
    simp[Z8,Zg,cg,Ce] at h
    simp[Z3,Zv,PB]
    omega
 have hh:Z8 xs=true->(Z3 "House" xs).length<=8/\Z3 "House" xs≠[]/\∀p∈Z3 "House" xs,PB p:=by
  intro h
  match xs,h with
  | [a,b,c,d,e],h=>
    simp[Z8,Zg,cg,Ce] at h
    simp[Z3,ZX,Zv,PB]
    omega
 have hc:Zd xs=true->(Z3 "Cloth" xs).length<=8/\Z3 "Cloth" xs≠[]/\∀p∈Z3 "Cloth" xs,PB p:=by
  intro h
  match xs,h with
  | [a,b,c,d,e,f,g,i,j],h=>
    simp[Zd,cg,Cg] at h
    simp[Z3,PB]
    omega
 unfold Z5 at hg
 unfold Zi Zb
 by_cases e1:w= "post"
 ·rw[if_pos e1] at hg ⊢;exact hp hg
 rw[if_neg e1] at hg ⊢
 by_cases e2:w= "fence"
 ·rw[if_pos e2] at hg ⊢;exact hf hg
 rw[if_neg e2] at hg ⊢
 by_cases e3:w= "sail"
 ·rw[if_pos e3] at hg ⊢;exact hs hg
 rw[if_neg e3] at hg ⊢
 by_cases e4:w= "cloth"
 ·rw[if_pos e4] at hg ⊢;exact hc hg
 rw[if_neg e4] at hg ⊢
 by_cases e5:w= "house"
 ·rw[if_pos e5] at hg;exact hh hg
 ·rw[if_neg e5] at hg;cases hg
def shB(w:Str)(xs:List Int)(s:Hu.Pt)(r:P3):Bool:=(Hu.Z02 ((Zi w xs).map (cst r)) (cst r (Ci s))).isNone
abbrev Th:=Str×List Int
def gJ(t:Th):PV:=Z4 (Zb t.1) t.1 t.2
def lU:Option P3->PV
 |none=>.non
 |some r=>c3 r
abbrev Dy:=Str×Int×List (Option P3)
def cu(d:Dy):PV:=.tup [.str d.1,.int d.2.1,.lst (d.2.2.map lU)]
def Z0(w h:Int)(T:List Th)(D:List Dy):PV:=.ins "Yard" ["width","height","things","days"] [.int w,.int h,.lst (T.map gJ),.lst (D.map cu)]
def ywh:(Str.ofString "width" =Str.ofString "height")=False:=eq_false (by decide +kernel)
def ywt:(Str.ofString "width" =Str.ofString "things")=False:=eq_false (by decide +kernel)
def ywd:(Str.ofString "width" =Str.ofString "days")=False:=eq_false (by decide +kernel)
def yht:(Str.ofString "height" =Str.ofString "things")=False:=eq_false (by decide +kernel)
def yhd:(Str.ofString "height" =Str.ofString "days")=False:=eq_false (by decide +kernel)
def ytd:(Str.ofString "things" =Str.ofString "days")=False:=eq_false (by decide +kernel)
def y_w(w h:Int)(T:List Th)(D:List Dy):dJ ["Yard"] (Str.ofString "width") (Z0 w h T D)=some (.int w):=by
 unfold dJ Z0
 simp
def y_h(w h:Int)(T:List Th)(D:List Dy):dJ ["Yard"] (Str.ofString "height") (Z0 w h T D)=some (.int h):=by
 have:(Str.ofString "height" == Str.ofString "width")=false:=by decide +kernel
 unfold dJ Z0
 simp[List.lookup_cons,this]
def y_t(w h:Int)(T:List Th)(D:List Dy):dJ ["Yard"] (Str.ofString "things") (Z0 w h T D)=some (.lst (T.map gJ)):=by
 have e1:(Str.ofString "things" == Str.ofString "width")=false:=by decide +kernel
 have e2:(Str.ofString "things" == Str.ofString "height")=false:=by decide +kernel
 unfold dJ Z0
 simp[List.lookup_cons,e1,e2]
def y_d(w h:Int)(T:List Th)(D:List Dy):dJ ["Yard"] (Str.ofString "days") (Z0 w h T D)=some (.lst (D.map cu)):=by
 have e1:(Str.ofString "days" == Str.ofString "width")=false:=by decide +kernel
 have e2:(Str.ofString "days" == Str.ofString "height")=false:=by decide +kernel
 have e3:(Str.ofString "days" == Str.ofString "things")=false:=by decide +kernel
 unfold dJ Z0
 simp[List.lookup_cons,e1,e2,e3]
def Z1e(D:List Dy)(hD:D.length<=100000)(s0 s1 s2:P.Slot):ŕ (gT 3 (Ğ (gN 0) (Ğ (gN 1) (Ğ (gN 2) Ť)))) œ (ś (ą (ĝ 0) (ą (ĝ 1) (ą (ē (pG fK (ą (ā 2) Ĝ))) Ĝ)))) (D.map cu) [s0,s1,s2] []=some (D.map cu):=by
 have h:=Œ (g:=gT 3 (Ğ (gN 0) (Ğ (gN 1) (Ğ (gN 2) Ť)))) (mt:=œ) (me:=ś (ą (ĝ 0) (ą (ĝ 1) (ą (ē (pG fK (ą (ā 2) Ĝ))) Ĝ)))) cu cu (λρ=>∃a b c,ρ=[a,b,c]) D [s0,s1,s2] [] ⟨_,_,_,rfl⟩ (by simp;omega) (by
  rintro d _ ρ ⟨a,b,c,rfl⟩
  refine⟨[.sh (.str d.1),.sh (.int d.2.1),.sh (.lst (d.2.2.map lU))],[.sh (.str d.1),.sh (.int d.2.1),.sh (.lst (d.2.2.map lU))],[.sh (.str d.1),.sh (.int d.2.1),.sh (.lst (d.2.2.map lU))],by simp[cu],rfl,by simp[cu],_,_,_,rfl⟩)
 simpa using h
def Z2k(w h:Int){T:List Th}{D:List Dy}(hT:T.length<=100000)(hD:D.length<=100000){s3 s4:P.Slot}(h3:Sl s3 (T.map gJ))(h4:Sl s4 (D.map cu)):oG [.sh (.int w),.sh (.int h),s3,s4]=.ok ["width","height","things","days"] [.int w,.int h,.lst (T.map gJ),.lst (D.map cu)]:=by
 have c:=Z1e D hD .no .no .no
 generalize hx:T.map gJ=tx at *
 generalize hy:D.map cu=dx at *
 rcases h3 with rfl|rfl<;>rcases h4 with rfl|rfl<;>simp[oG,fZ,DX,mG,IR.of,List.replicate,putN,qP,ywh,ywt,ywd,yht,yhd,ytd,c]
def Z1f(b:Nat):Builtin.bitNot (b:Int)= -(b:Int)-1:=rfl
def Z1g(a b:Nat):Builtin.bitOr a b=((a ||| b:Nat):Int):=by
 unfold Builtin.bitOr Builtin.bitAnd
 rw[Z1f,Z1f]
 have h1:decide (0<= -(a:Int)-1)=false:=by simp;omega
 have h2:decide (0<= -(b:Int)-1)=false:=by simp;omega
 rw[h1,h2]
 have e1:(Builtin.bitNot (-(a:Int)-1)).toNat=a:=by unfold Builtin.bitNot;omega
 have e2:(Builtin.bitNot (-(b:Int)-1)).toNat=b:=by unfold Builtin.bitNot;omega
 simp only[e1,e2]
 unfold Builtin.bitNot
 omega
def Z2l(a k:Nat):(a:Int) / 2 ^ k=((a >>> k:Nat):Int):=by
 rw[Nat.shiftRight_eq_div_pow]
 simp
def Z0H(a k:Nat):(a:Int) / 2 ^ k % 2=if a.testBit k then 1 else 0:=by
 rw[Z2l]
 have:(a >>> k) % 2=if a.testBit k then 1 else 0:=by
  rw[Nat.testBit]
  have h:1 &&& (a >>> k)=(a >>> k) % 2:=by rw[Nat.and_comm];exact Nat.and_one_is_mod _
  rw[h]
  have:(a >>> k) % 2=0\/(a >>> k) % 2=1:=by omega
  rcases this with e|e<;>simp[e]
 by_cases q:a.testBit k=true
 ·rw[if_pos q] at this ⊢;omega
 ·rw[if_neg q] at this ⊢;omega
def Z24(a:Int):Builtin.bitAnd a 1=a % 2:=PyProof.Rows.bitAnd_m1 a
def Z6:Nat->(Nat->Bool)->Nat
 |0,_=>0
 |n+1,p=>Z6 n p+if p n then 2 ^ n else 0
theorem Z0q(p:Nat->Bool):∀n,Z6 n p<2 ^ n
 |0=>by simp[Z6]
 |n+1=>by
  have:=Z0q p n
  unfold Z6
  rw[Nat.pow_succ]
  split<;>omega
def uG(w k:Nat):Hu.Pt:=(((k % w:Nat):Int),((k / w:Nat):Int))
def JZ(t:Th)(s:Hu.Pt)(r:P3):Bool:=shB t.1 t.2 s r
def dkp(w:Nat)(T:List Th):Option P3->Nat->Bool
 |none,_=>true
 |some r,k=>T.any λt=>JZ t (uG w k) r
def RB'(o:Option P3):Prop:=match o with|none=>True|some r=>RB r/\0<r.2.2
def Zr(ns:List Int)(k:Nat):ao [.sh (.lst (ns.map .int)),.sh (.int k)]=.ret (.sh (.int (ns.getD k 0))):=by
 by_cases h:k<ns.length
 ·have h':(k:Int)<(ns.length:Int):=by omega
  simp[ao,yr,List.replicate,h',List.getElem?_eq_getElem h]
 ·have h':¬(k:Int)<(ns.length:Int):=by omega
  simp[ao,yr,List.replicate,h',List.getElem?_eq_none (Nat.le_of_not_lt h)]
@[simp] theorem ZC(ns:List Int)(k:Nat):ao [.sh (.lst (ns.map .int)),.sh (.int (no_index (OfNat.ofNat k)))]=.ret (.sh (.int (ns.getD k 0))):=Zr ns k
def Gr(x:Int):Prop:=0<=x/\x<524288
theorem Zt(c:Int)(s1:P.Slot):∀(ks:List Nat) (acc:List Int) (n:Int) (s4:P.Slot),acc.length+ks.length<=100000->(∀k∈ks,k<=100000)->(∀x∈acc,Gr x)->∃(acc':List Int) (n':Int) (Qz:P.Slot),forL (gN 4) pP (ks.map λ(i:Nat)=>PV.int (i:Int)) [.sh (.int c),s1,.ow (acc.map .int),.sh (.int n),s4]=.ok .nx [.sh (.int c),s1,.ow (acc'.map .int),.sh (.int n'),Qz]/\acc'.length=acc.length+ks.length/\∀x∈acc',Gr x
 | [],acc,n,s4,_,_,h=>⟨acc,n,s4,rfl,rfl,h⟩
 |k::ks,acc,n,s4,hl,hk,h=>by
  have hk0:=hk k List.mem_cons_self
  have hl0:acc.length<16777216:=by simp at hl;omega
  rw[List.map_cons,forL]
  have hg:gN 4 (PV.int (k:Int)) [.sh (.int c),s1,.ow (acc.map .int),.sh (.int n),s4]=some [.sh (.int c),s1,.ow (acc.map .int),.sh (.int n),.sh (.int k)]:=rfl
  rw[hg]
  dsimp only
  by_cases h0:c % 2=0
  ·have e:pP [.sh (.int c),s1,.ow (acc.map .int),.sh (.int n),.sh (.int k)]=.ok .nx [.sh (.int c),s1,.ow ((acc ++ [n % 524287]).map .int),.sh (.int (n / 524287)),.sh (.int k)]:=by
    simp[pP,h0,hl0]
   rw[e]
   obtain⟨a,b,d,q1,q2,q3⟩:=Zt c s1 ks (acc ++ [n % 524287]) (n / 524287) (.sh (.int k)) (by simp at hl ⊢;omega) (λx hx=>hk x (List.mem_cons_of_mem _ hx)) (by
    intro x hx
    rcases List.mem_append.mp hx with hx|hx
    ·exact h x hx
    ·rw[List.mem_singleton.mp hx];unfold Gr;omega)
   exact⟨a,b,d,q1,by simp at q2 ⊢;omega,q3⟩
  ·obtain⟨m,hm⟩:∃m,(n*49157+24593+2*(k:Int)) % 8388593=m:=⟨_,rfl⟩
   have e:pP [.sh (.int c),s1,.ow (acc.map .int),.sh (.int n),.sh (.int k)]=.ok .nx [.sh (.int c),s1,.ow ((acc ++ [m / 16]).map .int),.sh (.int m),.sh (.int k)]:=by
    simp[pP,h0,hl0,hm]
   rw[e]
   obtain⟨a,b,d,q1,q2,q3⟩:=Zt c s1 ks (acc ++ [m / 16]) m (.sh (.int k)) (by simp at hl ⊢;omega) (λx hx=>hk x (List.mem_cons_of_mem _ hx)) (by
    intro x hx
    rcases List.mem_append.mp hx with hx|hx
    ·exact h x hx
    ·rw[List.mem_singleton.mp hx];unfold Gr;omega)
   exact⟨a,b,d,q1,by simp at q2 ⊢;omega,q3⟩
def ZR(c:Int){n:Nat}(hn:n<=1000):∃xs:List Int,oE [.sh (.int c),.sh (.int n)]=.ret (.ow (xs.map .int))/\xs.length=n/\∀x∈xs,Gr x:=by
 have rr:=Zw hn
 by_cases h:c % 2=1
 ·obtain⟨a,b,d,q1,q2,q3⟩:=Zt c (.sh (.int n)) (List.range n) [] (c / 2 % 8388593) .no (by simp;omega) (λk hk=>by have:=List.mem_range.mp hk;omega) (by simp)
  refine⟨a,?_,by simpa using q2,q3⟩
  simp at q1
  simp[oE,yu,List.replicate,h,rr,q1]
 ·obtain⟨a,b,d,q1,q2,q3⟩:=Zt c (.sh (.int n)) (List.range n) [] (c / 2) .no (by simp;omega) (λk hk=>by have:=List.mem_range.mp hk;omega) (by simp)
  refine⟨a,?_,by simpa using q2,q3⟩
  simp at q1
  simp[oE,yu,List.replicate,h,rr,q1]
def Pl(x:Int):Prop:=-1000000000+50<=x/\x<=1000000000-50
def Zq(n:Int){w:Int}(h1:1<=w)(h2:w<=1000):∃x:Int,mK [.sh (.int n),.sh (.int w)]=.ret (.sh (.int x))/\Pl x:=by
 by_cases h:n / 512 % 16=5
 ·exact⟨n*3813 % 1999999901-1000000000+50,by simp[mK,yE,List.replicate,h],by unfold Pl;omega⟩
 ·have m0:¬(2*w+9=0):=by omega
  have p:=Int.emod_nonneg n (show(2*w+9)≠0 by omega)
  have q:=Int.emod_lt_of_pos n (show 0<(2*w+9) by omega)
  have e:n.fmod (2*w+9)=n % (2*w+9):=Int.fmod_eq_emod_of_nonneg n (by omega)
  exact⟨n % (2*w+9)-4,by simp[mK,yE,List.replicate,h,m0,e],by unfold Pl;omega⟩
def Z05(n:Int):∃x:Int,vR [.sh (.int n)]=.ret (.sh (.int x))/\1<=x/\x<=1000000000:=by
 by_cases h:n / 512 % 12=7
 ·exact⟨1+n*1907 % 1000000000,by simp[vR,yD,List.replicate,h],by omega,by omega⟩
 ·exact⟨1+n % 9,by simp[vR,yD,List.replicate,h],by omega,by omega⟩
def Z1h{x y h:Int}(a:Pl x)(b:Pl y)(c:1<=h/\h<=1000000000):Z5 "post" [x / 2,y / 2,h]=true:=by
 unfold Pl at a b
 unfold Z5 Zf cg Ce
 simp
 omega
def QB{a b:String}(h:decide (Str.ofString a=Str.ofString b)=false):¬(Str.ofString a=Str.ofString b):=of_decide_eq_false h
def Z0S{x y u v h:Int}(a:Pl x)(b:Pl y)(hu: -4<=u/\u<=4)(hv: -4<=v/\v<=4)(c:1<=h/\h<=1000000000)(e:Int)(he:e=if u=0/\v=0 then 1 else 0):Z5 "fence" [x,y,x+u+e,y+v,h]=true:=by
 have h1:¬(Str.ofString "fence" =Str.ofString "post"):=QB (by decide +kernel)
 unfold Pl at a b
 unfold Z5
 rw[if_neg h1,if_pos rfl]
 unfold Zc Zg cg Ce
 simp
 split at he<;>omega
def Z0r{w:Str}(hw:w= "sail" \/w= "house"){x y u v h:Int}(a:Pl x)(b:Pl y)(hu:0<=u/\u<=8)(hv:0<=v/\v<=8)(c:1<=h/\h<=1000000000):Z5 w [x,y,x+1+u,y+1+v,h]=true:=by
 have hb:Z8 [x,y,x+1+u,y+1+v,h]=true:=by
  unfold Pl at a b
  unfold Z8 Zg cg Ce
  simp
  omega
 unfold Z5
 rcases hw with rfl|rfl
 ·rw[if_neg (QB (by decide +kernel)),if_neg (QB (by decide +kernel)),if_pos rfl]
  exact hb
 ·rw[if_neg (QB (by decide +kernel)),if_neg (QB (by decide +kernel)),if_neg (QB (by decide +kernel)),if_neg (QB (by decide +kernel)),if_pos rfl]
  exact hb
def Z0T{x y z a b c d e f:Int}(h1:Pl x)(h2:Pl y)(h3:0<=z/\z<=1000000000)(h4:Pl a)(h5:Pl b)(h6:1<=c/\c<=1000000000)(h7:Pl d)(h8:Pl e)(h9:1<=f/\f<=1000000000):Z5 "cloth" [x,y,z,a,b,c,d,e,f]=true:=by
 unfold Z5
 rw[if_neg (QB (by decide +kernel)),if_neg (QB (by decide +kernel)),if_neg (QB (by decide +kernel)),if_pos rfl]
 unfold Pl at *
 unfold Zd cg Cg
 simp
 omega
theorem Z2U:∀(xs:List Int),xs.length=14->∃a b c d e f g h i j k l m n,xs=[a,b,c,d,e,f,g,h,i,j,k,l,m,n]
 | [a,b,c,d,e,f,g,h,i,j,k,l,m,n],_=>⟨a,b,c,d,e,f,g,h,i,j,k,l,m,n,rfl⟩
def Z2V(x y:Hu.Pt):aA (pt x) (pt y)=some (.bl (decide (x=y))):=by
 unfold aA wZ
 rw[ZW,ZW,ZO,ZO,Z0l]
 rfl
def Z0s:bI [.int 2]=some [.int 0,.int 1]:=by rfl
def Z1i(c:Int){w:Int}(hw1:1<=w)(hw2:w<=1000):∃t:Th,kI [.sh (.int c),.sh (.int w)]=.ret (.sh (.tup [.str t.1,.lst (t.2.map .int)]))/\Z5 t.1 t.2=true:=by
 obtain⟨xs,eg,hl,hx⟩:=ZR c (n:=14) (by omega)
 obtain⟨x0,x1,x2,x3,x4,x5,x6,x7,x8,x9,x10,x11,x12,x13,rfl⟩:=Z2U xs hl
 clear hl hx
 obtain⟨p0,e0,q0⟩:=Zq x0 hw1 hw2
 obtain⟨p1,e1,q1⟩:=Zq x1 hw1 hw2
 obtain⟨z,ez,qz⟩:=Z05 x2
 have eg':oE [.sh (.int c),.sh (.int 14)]=.ret (.ow [.int x0,.int x1,.int x2,.int x3,.int x4,.int x5,.int x6,.int x7,.int x8,.int x9,.int x10,.int x11,.int x12,.int x13]):=eg
 clear eg
 have hc:ŕ (gN 2) œ (ē (Đ mK (ď (ĉ Ě (ā 1) (ā 2)) (Ą 0 č)))) [PV.int 0,PV.int 1] [.sh (.int w),.bw [.int x0,.int x1,.int x2,.int x3,.int x4,.int x5,.int x6,.int x7,.int x8,.int x9,.int x10,.int x11,.int x12,.int x13],.no] []=some [.int p0,.int p1]:=by
  simp[ŕ,e0,e1]
 have k:0<=x3 % 5/\x3 % 5<5:=by omega
 obtain⟨kd,hkd⟩:∃kd,x3 % 5=kd:=⟨_,rfl⟩
 rw[hkd] at k
 by_cases k0:kd=0
 ·refine⟨("post",[p0 / 2,p1 / 2,z]),?_,Z1h q0 q1 qz⟩
  simp[kI,nC,List.replicate,eg',Z0s,hc,ez,hkd,k0]
 ·by_cases k1:kd=1
  ·refine⟨("fence",[p0,p1,p0+(x4 % 9-4)+(if x4 % 9-4=0/\x5 % 9-4=0 then 1 else 0),p1+(x5 % 9-4),z]),?_,Z0S q0 q1 (by omega) (by omega) qz _ rfl⟩
   have hq:=Z2V (p0,p1) (p0+x4 % 9-4,p1+x5 % 9-4)
   unfold pt at hq
   dsimp only at hq
   have hi:(if x4 % 9-4=0/\x5 % 9-4=0 then(1:Int) else 0)=if decide ((p0,p1)=(p0+x4 % 9-4,p1+x5 % 9-4))=true then 1 else 0:=by
    simp only[decide_eq_true_eq,Prod.mk.injEq]
    split<;>split<;>omega
   generalize decide ((p0,p1)=(p0+x4 % 9-4,p1+x5 % 9-4))=bb at *
   have a1:p0+(x4 % 9-4)=p0+x4 % 9-4:=by omega
   have a2:p1+(x5 % 9-4)=p1+x5 % 9-4:=by omega
   rw[a1,a2,hi]
   cases bb<;>simp[kI,nC,List.replicate,eg',Z0s,hc,ez,hkd,k1,hq]
  ·by_cases k2:kd=2
   ·obtain⟨p7,e7,q7⟩:=Zq x7 hw1 hw2
    obtain⟨p8,e8,q8⟩:=Zq x8 hw1 hw2
    obtain⟨p9,e9,q9⟩:=Zq x9 hw1 hw2
    obtain⟨p10,e10,q10⟩:=Zq x10 hw1 hw2
    obtain⟨z2,ez2,qz2⟩:=Z05 x11
    refine⟨("cloth",[p0,p1,x6 % 10,p7,p8,z,p9,p10,z2]),?_,Z0T q0 q1 (by omega) q7 q8 qz q9 q10 qz2⟩
    simp[kI,nC,List.replicate,eg',Z0s,hc,ez,hkd,k2,e7,e8,e9,e10,ez2,add_l]
   ·by_cases k3:kd=3
    ·refine⟨("sail",[p0,p1,p0+1+x4 % 8,p1+1+x5 % 8,z]),?_,Z0r (.inl rfl) q0 q1 (by omega) (by omega) qz⟩
     simp[kI,nC,List.replicate,eg',Z0s,hc,ez,hkd,k3]
    ·have k4:kd=4:=by omega
     refine⟨("house",[p0,p1,p0+1+x4 % 8,p1+1+x5 % 8,z]),?_,Z0r (.inr rfl) q0 q1 (by omega) (by omega) qz⟩
     simp[kI,nC,List.replicate,eg',Z0s,hc,ez,hkd,k4]
def Z2m{α:Type}(xs:List α)(a b:Nat)(h1:a<=b)(h2:b<=xs.length):dG xs (some (a:Int)) (some (b:Int))=(xs.drop a).take (b-a):=by
 unfold dG
 rw[HT.lE,HT.lE,Nat.min_eq_left h2,Nat.min_eq_left (Nat.le_trans h1 h2)]
theorem Z31:∀(xs:List Int),xs.length=5->∃a b c d e,xs=[a,b,c,d,e]
 | [a,b,c,d,e],_=>⟨a,b,c,d,e,rfl⟩
def Z2H{xs:List Int}(h:xs.length=5):∃o:Option P3,tE [.sh (.lst (xs.map .int))]=.ret (.sh (lU o))/\RB' o:=by
 obtain⟨a,b,c,d,e,rfl⟩:=Z31 xs h
 by_cases he:e % 6=4
 ·exact⟨none,by simp[tE,yx,List.replicate,he,lU],trivial⟩
 ·have a1:0<=a % 13/\a % 13<13:=by omega
  have b1:0<=b % 13/\b % 13<13:=by omega
  have c1:0<=c % 5/\c % 5<5:=by omega
  have go:∀s:Int,(s=1\/s=3\/s=100000)->Ě (.lst [.int 1,.int 1,.int 3,.int 100000]) (.int (d % 4))=some (.int s)->∃o:Option P3,tE [.sh (.lst ([a,b,c,d,e].map .int))]=.ret (.sh (lU o))/\RB' o:=by
   intro s hs hx
   have m1:∀x:Int,aq x s=true:=λx=>mul_r (by omega) (by omega)
   refine⟨some ((a % 13-6)*s,(b % 13-6)*s,(1+c % 5)*s),?_,?_⟩
   ·simp[tE,yx,List.replicate,he,lU,hx,m1,c3]
   ·rcases hs with rfl|rfl|rfl<;>refine⟨⟨?_,?_,?_,?_,?_,?_⟩,?_⟩<;>dsimp only<;>omega
  have hd:d % 4=0\/d % 4=1\/d % 4=2\/d % 4=3:=by omega
  rcases hd with hd|hd|hd|hd
  ·exact go 1 (by omega) (by rw[hd];rfl)
  ·exact go 1 (by omega) (by rw[hd];rfl)
  ·exact go 3 (by omega) (by rw[hd];rfl)
  ·exact go 100000 (by omega) (by rw[hd];rfl)
def Z1L(t:Int)(h:0<=t)(h2:t<12)(N:List Str)(hN:N.length=12):∃L:List Str,ķ (.lst (dG (N.map PV.str) (some t) none)) (.lst (dG (N.map PV.str) none (some t)))=some (.ow (L.map .str))/\L.length=12:=by
 obtain⟨k,rfl⟩:=Int.eq_ofNat_of_zero_le h
 have e1:dG (N.map PV.str) (some (k:Int)) none=(N.drop k).map PV.str:=by
  unfold dG
  rw[HT.lE,List.length_map,Nat.min_eq_left (by omega)]
  show List.take (N.length-k) _=_
  rw[<-List.map_drop]
  exact List.take_of_length_le (by simp)
 have e2:dG (N.map PV.str) none (some (k:Int))=(N.take k).map PV.str:=by
  unfold dG
  rw[HT.lE,List.length_map,Nat.min_eq_left (by omega)]
  show List.take (k-0) (List.drop 0 _)=_
  simp[List.map_take]
 rw[e1,e2,add_l (by simp;omega)]
 exact⟨N.drop k++N.take k,by simp,by simp;omega⟩
def Zs(lg:Nat)(d:Dy):Prop:=(1<=d.2.1/\d.2.1<=1000000000)/\(1<=d.2.2.length/\d.2.2.length<=lg)/\∀o∈d.2.2,RB' o
def sl5{xs:List Int}{n lg j:Nat}(hl:xs.length=5*lg+2)(hj:j<lg):∃ys:List Int,dG (xs.map PV.int) (some (2+5*(j:Int))) (some (7+5*(j:Int)))=ys.map .int/\ys.length=5:=by
 refine⟨(xs.drop (2+5*j)).take 5,?_,by simp;omega⟩
 have:=Z2m (xs.map PV.int) (2+5*j) (7+5*j) (by omega) (by simp;omega)
 have e1:((2+5*j:Nat):Int)=2+5*(j:Int):=by omega
 have e2:((7+5*j:Nat):Int)=7+5*(j:Int):=by omega
 rw[e1,e2] at this
 rw[this,List.map_take,List.map_drop]
 congr 1
 omega
theorem Z0t{xs:List Int}{lg:Nat}(hl:xs.length=5*lg+2)(hlg:lg<=100):∀(js:List Nat),(∀j∈js,j<lg)->∀(acc:List PV) (s1:P.Slot),acc.length+js.length<=1000->∃os:List (Option P3),ŕ (gN 1) œ (ē (Đ tE (ď (ē (Dj (ā 0) (mP (ē (ļ ķ (mC (.int 2)) (ĉ Ľ (mC (.int 5)) (ā 1))))) (mP (ē (ļ ķ (mC (.int 7)) (ĉ Ľ (mC (.int 5)) (ā 1))))))) č))) (js.map λ(i:Nat)=>PV.int (i:Int)) [.bw (xs.map .int),s1] acc=some (acc++os.map lU)/\os.length=js.length/\∀o∈os,RB' o
 | [],_,acc,s1,_=>⟨[],by simp[ŕ],rfl,by simp⟩
 |j::js,hj,acc,s1,ha=>by
  obtain⟨ys,e1,e2⟩:=sl5 (n:=0) hl (hj j List.mem_cons_self)
  obtain⟨o,e3,e4⟩:=Z2H e2
  obtain⟨os,q1,q2,q3⟩:=Z0t hl hlg js (λx hx=>hj x (List.mem_cons_of_mem _ hx)) (acc ++ [lU o]) (.sh (.int j)) (by simp at ha ⊢;omega)
  refine⟨o::os,?_,by simp[q2],?_⟩
  ·have hz:acc.length<16777216:=by simp at ha;omega
   generalize xs.map PV.int=X at *
   generalize ys.map PV.int=Y at *
   rw[List.map_cons,ŕ]
   simp[Uo,e1,e3,hz]
   simpa using q1
  ·intro x hx
   rcases List.mem_cons.mp hx with rfl|hx
   ·exact e4
   ·exact q3 x hx
def Z1M(ns:List Int){k lg:Nat}(hk:k<12)(hlg:lg<=100)(hl0:0<lg){L:List Str}(hL:L.length=12)(s2 s5 s8 s9:P.Slot)(D:List Dy)(hD:D.length<=12) :
 ∃(d:Dy) (s8' s9':P.Slot),yC [.sh (.lst (ns.map .int)),.sh (.int 4),s2,.sh (.int lg),.ow (L.map .str),s5,.ow (D.map cu),.sh (.int k),s8,s9]=.ok .nx [.sh (.lst (ns.map .int)),.sh (.int 4),s2,.sh (.int lg),.ow (L.map .str),s5,.ow ((D ++ [d]).map cu),.sh (.int k),s8',s9']/\Zs lg d:=by
 have ha:=Zr ns (4+k)
 have e6:((4+k:Nat):Int)=4+(k:Int):=by omega
 rw[e6] at ha
 obtain⟨v,hv⟩:∃v,ns.getD (4+k) 0=v:=⟨_,rfl⟩
 rw[hv] at ha
 obtain⟨xs,eg,hl,hx⟩:=ZR (v / 12+5*k) (n:=5*lg+2) (by omega)
 have el:((5*lg+2:Nat):Int)=5*(lg:Int)+2:=by omega
 rw[el] at eg
 have x0:∃a,(xs.map PV.int)[0]?=some (.int a):=⟨xs[0],by simp⟩
 have x1:∃b,(xs.map PV.int)[1]?=some (.int b):=⟨xs[1],by simp⟩
 obtain⟨a,x0⟩:=x0
 obtain⟨b,x1⟩:=x1
 have hm:¬((lg:Int)=0):=by omega
 have hm2:¬lg=0:=by omega
 have hf:b.fmod (lg:Int)=b % lg:=Int.fmod_eq_emod_of_nonneg b (by omega)
 have b1:=Int.emod_nonneg b hm
 have b2:=Int.emod_lt_of_pos b (show 0<(lg:Int) by omega)
 obtain⟨m,hmm⟩:∃m:Nat,1+b % lg=(m:Int):=⟨(1+b % lg).toNat,by omega⟩
 have rr:=Zw (n:=m) (by omega)
 obtain⟨os,q1,q2,q3⟩:=Z0t hl hlg (List.range m) (λj hj=>by have:=List.mem_range.mp hj;omega) [] .no (by simp;omega)
 have hLk:(L.map PV.str)[k]?=some (.str L[k]):=by simp[hL,hk]
 refine⟨(L[k],1+a*1907 % 1000000000,os),.ow (xs.map .int),.sh (.lst (os.map lU)),?_,⟨by dsimp only;omega,by simp at q2;dsimp only;omega,q3⟩⟩
 have hz:D.length<16777216:=by omega
 rw[List.nil_append] at q1
 have hdl:(D.map cu).length=D.length:=by simp
 generalize ns.map PV.int=NS at *
 generalize xs.map PV.int=XS at *
 generalize L[k]=nm at *
 generalize hLL:L.map PV.str=LS at *
 have hmp:(D ++ [((nm,1+a*1907 % 1000000000,os):Dy)]).map cu=D.map cu ++ [.tup [.str nm,.int (1+a*1907 % 1000000000),.lst (os.map lU)]]:=by simp[cu]
 rw[hmp]
 generalize D.map cu=DS at *
 generalize hos:os.map lU=OS at *
 rw[<-hdl] at hz
 simp[yC,ha,eg,x0,x1,hm2,hf,hmm,rr,q1,hLk,hz,-ZC]
theorem Z0d(ns:List Int){n lg:Nat}(hlg:lg<=100)(hl0:0<lg){L:List Str}(hL:L.length=12){v:Int}:∀(ks:List Nat),(∀k∈ks,k<12)->∀(D:List Dy) (s7 s8 s9:P.Slot),D.length+ks.length<=12->(∀d∈D,Zs lg d)->∃ρ',forL (gN 7) yC (ks.map λ(i:Nat)=>PV.int (i:Int)) [.sh (.lst (ns.map .int)),.sh (.int 4),.sh (.int n),.sh (.int lg),.ow (L.map .str),.sh (.int v),.ow (D.map cu),s7,s8,s9]=.ok .nx ρ'/\∃(D':List Dy) (s7 s8 s9:P.Slot),ρ'=[.sh (.lst (ns.map .int)),.sh (.int 4),.sh (.int n),.sh (.int lg),.ow (L.map .str),.sh (.int v),.ow (D'.map cu),s7,s8,s9]/\D'.length=D.length+ks.length/\∀d∈D',Zs lg d
 | [],_,D,s7,s8,s9,_,h=>⟨_,rfl,D,s7,s8,s9,rfl,rfl,h⟩
 |k::ks,hk,D,s7,s8,s9,hl,h=>by
  obtain⟨d,s8',s9',e,hd⟩:=Z1M ns (hk k List.mem_cons_self) hlg hl0 hL (.sh (.int n)) (.sh (.int v)) s8 s9 D (by simp at hl;omega)
  obtain⟨ρ',q1,D',a,b,c,q2,q3,q4⟩:=Z0d ns (n:=n) hlg hl0 hL (v:=v) ks (λx hx=>hk x (List.mem_cons_of_mem _ hx)) (D ++ [d]) (.sh (.int k)) s8' s9' (by simp at hl ⊢;omega) (by
   intro x hx
   rcases List.mem_append.mp hx with hx|hx
   ·exact h x hx
   ·rw[List.mem_singleton.mp hx];exact hd)
  refine⟨ρ',?_,D',a,b,c,q2,by simp at q3 ⊢;omega,q4⟩
  rw[List.map_cons,forL]
  have hg:gN 7 (PV.int (k:Int)) [.sh (.lst (ns.map .int)),.sh (.int 4),.sh (.int n),.sh (.int lg),.ow (L.map .str),.sh (.int v),.ow (D.map cu),s7,s8,s9]=some [.sh (.lst (ns.map .int)),.sh (.int 4),.sh (.int n),.sh (.int lg),.ow (L.map .str),.sh (.int v),.ow (D.map cu),.sh (.int k),s8,s9]:=rfl
  rw[hg]
  dsimp only
  rw[e]
  exact q1
def Z2n(ns:List Int){n lg:Nat}(hn:n<=12)(hlg:lg<=100)(hl0:0<lg):∃D:List Dy,vQ [.sh (.lst (ns.map .int)),.sh (.int 4),.sh (.int n),.sh (.int lg)]=.ret (.ow (D.map cu))/\D.length=n/\∀d∈D,Zs lg d:=by
 have h6:ao [.sh (.lst (ns.map .int)),.sh (.int 4)]=.ret (.sh (.int (ns.getD 4 0))):=Zr ns 4
 obtain⟨v,hv⟩:∃v,ns.getD 4 0=v:=⟨_,rfl⟩
 rw[hv] at h6
 obtain⟨L,e1,hL⟩:=Z1L (v % 12) (by omega) (by omega) [Str.ofString "ab",Str.ofString "a",Str.ofString "abc",Str.ofString "b",Str.ofString "ba",Str.ofString "z",Str.ofString "zz",Str.ofString "zzz",Str.ofString "abcdefgh",Str.ofString "abcdefgi",Str.ofString "aa",Str.ofString "bb"] rfl
 obtain⟨ρ',q1,D,s7,s8,s9,rfl,q2,q3⟩:=Z0d ns (n:=n) hlg hl0 hL (v:=v % 12) (List.range n) (λk hk=>by have:=List.mem_range.mp hk;omega) [] .no .no .no (by simp;omega) (by simp)
 have rr:=Zw (n:=n) (by omega)
 refine⟨D,?_,by simpa using q2,q3⟩
 generalize ns.map PV.int=NS at *
 simp only[List.map_cons,List.map_nil] at e1
 simp only[List.map_nil] at q1
 generalize D.map cu=DS at *
 generalize L.map PV.str=LS at *
 simp[vQ,DW,List.replicate,Uo,h6,e1,rr,q1,-ZC]
def Z1N(c:Int):∃w h:Nat,kE [.sh (.int c),.sh (.int 9)]=.ret (.sh (.tup [.int w,.int h]))/\1<=w/\w<=20/\1<=h/\h<=20/\w*h<=20:=by
 by_cases h0:c / 7 % 16=11
 ·have hd:c % 2=0\/c % 2=1:=by omega
  rcases hd with hd|hd
  ·exact⟨1,20,by simp[kE,jd,List.replicate,h0,hd],by omega,by omega,by omega,by omega,by omega⟩
  ·exact⟨20,1,by simp[kE,jd,List.replicate,h0,hd],by omega,by omega,by omega,by omega,by omega⟩
 ·have hd:c % 5=0\/c % 5=1\/c % 5=2\/c % 5=3\/c % 5=4:=by omega
  rcases hd with hd|hd|hd|hd|hd
  ·obtain⟨h,hh⟩:∃h:Nat,1+c / 5 % 4=(h:Int):=⟨(1+c / 5 % 4).toNat,by omega⟩
   exact⟨1,h,by simp[kE,jd,List.replicate,h0,hd,hh],by omega,by omega,by omega,by omega,by omega⟩
  ·obtain⟨h,hh⟩:∃h:Nat,1+c / 5 % 4=(h:Int):=⟨(1+c / 5 % 4).toNat,by omega⟩
   exact⟨2,h,by simp[kE,jd,List.replicate,h0,hd,hh],by omega,by omega,by omega,by omega,by omega⟩
  ·obtain⟨h,hh⟩:∃h:Nat,1+c / 5 % 3=(h:Int):=⟨(1+c / 5 % 3).toNat,by omega⟩
   exact⟨3,h,by simp[kE,jd,List.replicate,h0,hd,hh],by omega,by omega,by omega,by omega,by omega⟩
  ·obtain⟨h,hh⟩:∃h:Nat,1+c / 5 % 2=(h:Int):=⟨(1+c / 5 % 2).toNat,by omega⟩
   exact⟨4,h,by simp[kE,jd,List.replicate,h0,hd,hh],by omega,by omega,by omega,by omega,by omega⟩
  ·exact⟨5,1,by simp[kE,jd,List.replicate,h0,hd],by omega,by omega,by omega,by omega,by omega⟩
def Z0u:Option Hu.Ln->PV
 |some l=>jE l
 |none=>.non
def Z0U{S:List Hu.Pt}{sl:P.Slot}(hs:Sl sl (S.map pt))(hS:∀p∈S,Sm p)(h0:S≠[])(hl:S.length<=1000)(p:Hu.Pt):BL [sl,.sh (pt p)]=.ret (.sh (Z0u (Hu.Z02 S p))):=by
 have h1:=Z1F hs hS h0 hl
 have e:(Hu.Zy S).findSome? (λl=>if Hu.hd l p=true then none else some l)=Hu.Z02 S p:=by
  unfold Hu.Z02
  generalize Hu.Zy S=L
  induction L with
  |nil=>rfl
  |cons l L ih=>
   rw[List.findSome?_cons,List.find?_cons]
   cases q:Hu.hd l p with
   |true=>simpa using ih
   |false=>simp
 rcases fB (g:=gN 2) (mb:=yR) jE (λl=>if Hu.hd l p=true then none else some l) (λl=>.sh (jE l)) (λρ=>∃s2,ρ=[sl,.sh (pt p),s2]) (Hu.Zy S) (by
  rintro l hm ρ ⟨s2,rfl⟩
  refine⟨[sl,.sh (pt p),.sh (jE l)],by simp,?_⟩
  have hh:=Z0n (Z2B hm hS) p
  cases q:Hu.hd l p with
  |true=>
   rw[q] at hh
   exact .inr ⟨[sl,.sh (pt p),.sh (jE l)],by simp,by simp[yR,hh],_,rfl⟩
  |false=>
   rw[q] at hh
   exact .inl ⟨l,[sl,.sh (pt p),.sh (jE l)],by simp,by simp[yR,hh]⟩) [sl,.sh (pt p),.no] ⟨_,rfl⟩ with⟨l,ρ',q1,q2⟩|⟨ρ',q1,q2,_⟩
 ·rw[e] at q1
  rw[q1]
  simp[BL,yS,List.replicate,hs.lend,h1,q2,Z0u]
 ·rw[e] at q1
  rw[q1]
  simp[BL,yS,List.replicate,hs.lend,h1,q2,Z0u]
def uI(q:Nat×Nat):PV:=.tup [.int q.1,.int q.2]
def Cj(q:Nat×Nat×Nat):PV:=.tup [.int q.1,.int q.2.1,.int q.2.2]
def Z1j(j:Nat)(hj:j<=1000)(acc:List PV)(s0:P.Slot)(ha:acc.length+j<=16777216):tX [s0,.ow acc,.sh (.int j)]=.ok .nx [s0,.ow (acc++((List.range j).map λi=>(i,j)).map uI),.sh (.int j)]:=by
 have c1:ŕ (gN 1) œ (ś (ą (ĝ 1) (ą (ĝ 0) Ĝ))) ((List.range j).map λ(i:Nat)=>PV.int (i:Int)) [.sh (.int j),.no] []=some (((List.range j).map λi=>(i,j)).map uI):=by
  have:=Œ (g:=gN 1) (mt:=œ) (me:=ś (ą (ĝ 1) (ą (ĝ 0) Ĝ))) (λ(i:Nat)=>PV.int (i:Int)) (λi=>uI (i,j)) (λρ=>∃s,ρ=[.sh (.int j),s]) (List.range j) [.sh (.int j),.no] [] ⟨_,rfl⟩ (by simp;omega) (by
   rintro x hx ρ ⟨s,rfl⟩
   exact⟨[.sh (.int j),.sh (.int x)],[.sh (.int j),.sh (.int x)],[.sh (.int j),.sh (.int x)],by simp,by simp,by simp[uI],_,rfl⟩)
  rw[this,List.map_map]
  rfl
 have hl:acc.length+(((List.range j).map λi=>(i,j)).map uI).length<=16777216:=by simpa using ha
 generalize ((List.range j).map λi=>(i,j)).map uI=qs at c1 hl
 simp[tX,Zw hj,c1,hl]
def Z06(k:Nat):Hu.Z7 (k+1)=Hu.Z7 k++(List.range k).map λi=>(i,k):=by
 unfold Hu.Z7
 rw[List.range_succ,List.flatMap_append]
 simp
theorem Zz:∀n,(Hu.Z7 n).length<=n*n
 |0=>by simp[Hu.Z7]
 |n+1=>by
  have:=Zz n
  rw[Z06,List.length_append,List.length_map,List.length_range,Nat.succ_mul,Nat.mul_succ]
  omega
def ZS(k:Nat):Hu.Z9 (k+1)=Hu.Z9 k++(Hu.Z7 k).map λq=>(q.1,q.2,k):=by
 unfold Hu.Z9
 rw[List.range_succ,List.flatMap_append]
 simp
theorem ZF{g:Tg}{mb:M Fl}(nb:∀ρ ρ',mb ρ≠ .ok .bk ρ'):∀(xs ys:List PV) (ρ ρ1:ŝ),forL g mb xs ρ=.ok .nx ρ1->forL g mb (xs++ys) ρ=forL g mb ys ρ1
 | [],ys,ρ,ρ1,h=>by
   have e:Res.ok Fl.nx ρ=.ok .nx ρ1:=h
   cases e
   rfl
 |x::xs,ys,ρ,ρ1,h=>by
  rw[List.cons_append,forL]
  rw[forL] at h
  cases e:g x ρ with
  |none=>rw[e] at h;cases h
  |some ρ2=>
   rw[e] at h
   dsimp only at h ⊢
   cases e2:mb ρ2 with
   |bad=>rw[e2] at h;cases h
   |exc x ρ3=>rw[e2] at h;cases h
   |ok f ρ3=>
    rw[e2] at h
    cases f with
    |nx=>exact ZF nb xs ys ρ3 ρ1 h
    |ct=>exact ZF nb xs ys ρ3 ρ1 h
    |bk=>exact absurd e2 (nb ρ2 ρ3)
    |rt r=>cases h
def Z0v{g:Tg}{mb:M Fl}{p:PV}{ρ ρ1 ρ2:ŝ}(h1:g p ρ=some ρ1)(h2:mb ρ1=.ok .nx ρ2):forL g mb [p] ρ=.ok .nx ρ2:=by
 rw[forL,h1]
 dsimp only
 rw[h2]
 rfl
def Z1k{i:Nat}{mo:M RV}{ρ ρ':ŝ}:DK i mo ρ≠ .ok .bk ρ':=by
 unfold DK
 intro h
 split at h
 ·cases e:mo ρ with
  |bad=>rw[e] at h;cases h
  |exc x ρ1=>rw[e] at h;cases h
  |ok r ρ1=>
   rw[e] at h
   simp only[Res.cB] at h
   split at h
   ·split at h<;>cases h
   ·cases h
 ·cases h
def Z0w(n:Nat)(hn:n<=100):BP [.sh (.int n)]=.ret (.ow ((Hu.Z7 n).map uI)):=by
 have key:∀k,k<=n->∃s2,forL (gN 2) tX ((List.range k).map λ(i:Nat)=>PV.int (i:Int)) [.sh (.int n),.ow [],.no]=.ok .nx [.sh (.int n),.ow ((Hu.Z7 k).map uI),s2]:=by
  intro k
  induction k with
  |zero=>intro _;exact⟨.no,rfl⟩
  |succ k ih=>
   intro hk
   obtain⟨s2,e⟩:=ih (by omega)
   refine⟨.sh (.int k),?_⟩
   rw[List.range_succ,List.map_append,ZF (mb:=tX) (λ_ _=>Z1k) _ _ _ _ e,Z06,List.map_append]
   have hlen:=Zz k
   have hm:k*k<=100*100:=Nat.mul_le_mul (by omega) (by omega)
   exact Z0v rfl (Z1j k (by omega) ((Hu.Z7 k).map uI) (.sh (.int n)) (by rw[List.length_map];omega))
 obtain⟨s2,e⟩:=key n (Nat.le_refl n)
 have hr:=Zw (show n<=1000 by omega)
 simp[BP,Ep,List.replicate,hr,e]
def Z0C(k:Nat)(hk:k<=100)(acc:List PV)(s0:P.Slot)(ha:acc.length<=10000000):tY [s0,.ow acc,.sh (.int k)]=.ok .nx [s0,.ow (acc++((Hu.Z7 k).map λq=>(q.1,q.2,k)).map Cj),.sh (.int k)]:=by
 have hlen:=Zz k
 have hm:k*k<=100*100:=Nat.mul_le_mul (by omega) (by omega)
 have c1:ŕ (gN 1) œ (ś (ą (ĉ Ě (ā 1) (mC (.int 0))) (ą (ĉ Ě (ā 1) (mC (.int 1))) (ą (ĝ 0) Ĝ)))) ((Hu.Z7 k).map uI) [.sh (.int k),.no] []=some (((Hu.Z7 k).map λq=>(q.1,q.2,k)).map Cj):=by
  have:=Œ (g:=gN 1) (mt:=œ) (me:=ś (ą (ĉ Ě (ā 1) (mC (.int 0))) (ą (ĉ Ě (ā 1) (mC (.int 1))) (ą (ĝ 0) Ĝ)))) uI (λq=>Cj (q.1,q.2,k)) (λρ=>∃s,ρ=[.sh (.int k),s]) (Hu.Z7 k) [.sh (.int k),.no] [] ⟨_,rfl⟩ (by simp;omega) (by
   rintro x hx ρ ⟨s,rfl⟩
   exact⟨[.sh (.int k),.sh (uI x)],[.sh (.int k),.sh (uI x)],[.sh (.int k),.sh (uI x)],by simp,by simp,by simp[uI,Cj],_,rfl⟩)
  rw[this,List.map_map]
  rfl
 have hl:acc.length+(((Hu.Z7 k).map λq=>(q.1,q.2,k)).map Cj).length<=16777216:=by simp;omega
 have hp:=Z0w k hk
 generalize ((Hu.Z7 k).map λq=>(q.1,q.2,k)).map Cj=qs at c1 hl
 simp[tY,hp,c1,hl]
theorem Z01:∀n,n<=100->(Hu.Z9 n).length<=n*10000
 |0,_=>by simp[Hu.Z9]
 |n+1,h=>by
  have:=Z01 n (by omega)
  have h2:=Zz n
  have hm:n*n<=100*100:=Nat.mul_le_mul (by omega) (by omega)
  rw[ZS,List.length_append,List.length_map]
  omega
def Z0V(n:Nat)(hn:n<=100):Im [.sh (.int n)]=.ret (.ow ((Hu.Z9 n).map Cj)):=by
 have key:∀k,k<=n->∃s2,forL (gN 2) tY ((List.range k).map λ(i:Nat)=>PV.int (i:Int)) [.sh (.int n),.ow [],.no]=.ok .nx [.sh (.int n),.ow ((Hu.Z9 k).map Cj),s2]:=by
  intro k
  induction k with
  |zero=>intro _;exact⟨.no,rfl⟩
  |succ k ih=>
   intro hk
   obtain⟨s2,e⟩:=ih (by omega)
   refine⟨.sh (.int k),?_⟩
   rw[List.range_succ,List.map_append,ZF (mb:=tY) (λ_ _=>Z1k) _ _ _ _ e,ZS,List.map_append]
   have hlen:=Z01 k (by omega)
   exact Z0v rfl (Z0C k (by omega) ((Hu.Z9 k).map Cj) (.sh (.int n)) (by rw[List.length_map];omega))
 obtain⟨s2,e⟩:=key n (Nat.le_refl n)
 have hr:=Zw (show n<=1000 by omega)
 simp[Im,Er,List.replicate,hr,e]
def W(x:Int):Prop:=-100000000000000000000000000000000000000000000000000<x/\x<100000000000000000000000000000000000000000000000000
theorem W.bits{x:Int}(h:W x):bits x<=200:=yc (n:=200) (by have:=h.1;omega) (by have:=h.2;omega)
def dif{a b:Int}(h1: -100000000000000000<=a)(h2:a<=100000000000000000)(h3: -100000000000000000<=b)(h4:b<=100000000000000000): -200000000000000000<=a-b/\a-b<=200000000000000000:=by omega
def Z09{a b c d:Int}(h1: -c<=a)(h2:a<=c)(h3: -d<=b)(h4:b<=d)(hc:0<=c)(hd:0<=d): -(c*d)<=a*b/\a*b<=c*d:=by
 have e1:(a*b).natAbs=a.natAbs*b.natAbs:=Int.natAbs_mul a b
 have e2:a.natAbs*b.natAbs<=c.natAbs*d.natAbs:=Nat.mul_le_mul (by omega) (by omega)
 have e3:(c*d).natAbs=c.natAbs*d.natAbs:=Int.natAbs_mul c d
 have e4:0<=c*d:=Int.mul_nonneg hc hd
 omega
def ZT{a b c:Hu.Pt}(ha:Sm a)(hb:Sm b)(hc:Sm c):vZ [.sh (pt a),.sh (pt b),.sh (pt c)]=.ret (.sh (.int (Hu.tn a b c))):=by
 obtain⟨a1,a2,a3,a4⟩:=ha
 obtain⟨b1,b2,b3,b4⟩:=hb
 obtain⟨c1,c2,c3,c4⟩:=hc
 have m1:aq (b.1-a.1) (c.2-a.2)=true:=iz (by omega) (by omega)
 have m2:aq (b.2-a.2) (c.1-a.1)=true:=iz (by omega) (by omega)
 simp[vZ,Es,List.replicate,pt,Hu.tn,m1,m2]
def Z1O{a b c:Hu.Pt}(ha:Sm a)(hb:Sm b)(hc:Sm c): -80000000000000000000000000000000000<=Hu.tn a b c/\Hu.tn a b c<=80000000000000000000000000000000000:=by
 obtain⟨a1,a2,a3,a4⟩:=ha
 obtain⟨b1,b2,b3,b4⟩:=hb
 obtain⟨c1,c2,c3,c4⟩:=hc
 obtain⟨x1,x2⟩:=dif b1 b2 a1 a2
 obtain⟨y1,y2⟩:=dif c3 c4 a3 a4
 obtain⟨z1,z2⟩:=dif b3 b4 a3 a4
 obtain⟨w1,w2⟩:=dif c1 c2 a1 a2
 obtain⟨p1,p2⟩:=Z09 x1 x2 y1 y2 (by decide) (by decide)
 obtain⟨q1,q2⟩:=Z09 z1 z2 w1 w2 (by decide) (by decide)
 unfold Hu.tn
 omega
def Z1P{a b c p:Hu.Pt}(ha:Sm a)(hb:Sm b)(hc:Sm c)(hp:Sm p):Td [.sh (.lst [pt a,pt b,pt c]),.sh (pt p)]=.ret (.ow ((Hu.yj a b c p).map .int)):=by
 simp[Td,Ot,List.replicate,ZT hp hb hc,ZT ha hp hc,ZT ha hb hp,Hu.yj]
def Z2I{a b p:Hu.Pt}(ha:Sm a)(hb:Sm b)(hp:Sm p):Io [.sh (.lst [pt a,pt b]),.sh (pt p)]=.ret (.ow ((Hu.yq a b p).map .int)):=by
 obtain⟨a1,a2,a3,a4⟩:=ha
 obtain⟨b1,b2,b3,b4⟩:=hb
 obtain⟨c1,c2,c3,c4⟩:=hp
 have m1:∀x,aq (b.1-a.1) x=true:=λx=>iz (by omega) (by omega)
 have m2:∀x,aq (b.2-a.2) x=true:=λx=>iz (by omega) (by omega)
 simp[Io,Eu,List.replicate,pt,Hu.yq,m1,m2]
def Z2W{a b c p:Hu.Pt}(ha:Sm a)(hb:Sm b)(hc:Sm c)(hp:Sm p):∀s∈Hu.yj a b c p,-400000000000000000000000000000000000<=s/\s<=400000000000000000000000000000000000:=by
 have h1:=Z1O hp hb hc
 have h2:=Z1O ha hp hc
 have h3:=Z1O ha hb hp
 intro s hs
 simp only[Hu.yj,List.mem_cons,List.not_mem_nil,or_false] at hs
 rcases hs with e|e|e<;>omega
def Z2X{a b p:Hu.Pt}(ha:Sm a)(hb:Sm b)(hp:Sm p):∀s∈Hu.yq a b p,-400000000000000000000000000000000000<=s/\s<=400000000000000000000000000000000000:=by
 obtain⟨a1,a2,a3,a4⟩:=ha
 obtain⟨b1,b2,b3,b4⟩:=hb
 obtain⟨c1,c2,c3,c4⟩:=hp
 obtain⟨x1,x2⟩:=dif b1 b2 a1 a2
 obtain⟨z1,z2⟩:=dif b3 b4 a3 a4
 obtain⟨y1,y2⟩:=dif c1 c2 a1 a2
 obtain⟨w1,w2⟩:=dif c3 c4 a3 a4
 obtain⟨p1,p2⟩:=Z09 x1 x2 y1 y2 (by decide) (by decide)
 obtain⟨q1,q2⟩:=Z09 z1 z2 w1 w2 (by decide) (by decide)
 obtain⟨r1,r2⟩:=Z09 x1 x2 x1 x2 (by decide) (by decide)
 obtain⟨t1,t2⟩:=Z09 z1 z2 z1 z2 (by decide) (by decide)
 intro s hs
 simp only[Hu.yq,List.mem_cons,List.not_mem_nil,or_false] at hs
 rcases hs with e|e<;>omega
def ShB(w:List Int):Prop:=w.length<=3/\∀s∈w,-400000000000000000000000000000000000<=s/\s<=400000000000000000000000000000000000
theorem ShB.sum{w:List Int}(h:ShB w): -2000000000000000000000000000000000000<=w.sum/\w.sum<=2000000000000000000000000000000000000:=by
 obtain⟨h1,h2⟩:=h
 match w,h1,h2 with
 | [],_,_=>simp
 | [a],_,h2=>have:=h2 a (by simp);simp;omega
 | [a,b],_,h2=>have:=h2 a (by simp);have:=h2 b (by simp);simp;omega
 | [a,b,c],_,h2=>have:=h2 a (by simp);have:=h2 b (by simp);have:=h2 c (by simp);simp;omega
def Z04{x:Int}(h1: -2000000000000000000000000000000000000<=x)(h2:x<=2000000000000000000000000000000000000):bits x<=200:=yc (n:=200) (by omega) (by omega)
def Z25{w:List Int}(h:ShB w){sl:P.Slot}(hs:Sl sl (w.map .int)):wg [sl]=.ret (.sh (.bl (Hu.Zu w))):=by
 obtain⟨s1,s2⟩:=h.sum
 have hb:=Z04 s1 s2
 have c1:ŕ (gN 1) œ (ĉ Ma (ĉ Ľ (ā 1) (ā 0)) (mC (.int 0))) (w.map .int) [.sh (.int w.sum),.no] []=some ((w.map λs=>decide (0<=s*w.sum)).map .bl):=by
  have:=Œ (g:=gN 1) (mt:=œ) (me:=ĉ Ma (ĉ Ľ (ā 1) (ā 0)) (mC (.int 0))) PV.int (λs=>.bl (decide (0<=s*w.sum))) (λρ=>∃s,ρ=[.sh (.int w.sum),s]) w [.sh (.int w.sum),.no] [] ⟨_,rfl⟩ (by have:=h.1;simp;omega) (by
   rintro x hx ρ ⟨s,rfl⟩
   have hx':=h.2 x hx
   have hm:aq x w.sum=true:=Zd6 (Nat.le_trans (Z04 (by omega) (by omega)) (by decide)) (Nat.le_trans hb (by decide))
   exact⟨[.sh (.int w.sum),.sh (.int x)],[.sh (.int w.sum),.sh (.int x)],[.sh (.int w.sum),.sh (.int x)],by simp,by simp,by simp[hm],_,rfl⟩)
  rw[this,List.map_map]
  rfl
 have c2:=Z19 (w.map λs=>decide (0<=s*w.sum))
 have c3:(w.map λs=>decide (0<=s*w.sum)).all id=w.all λs=>decide (0<=s*w.sum):=by simp
 rw[c3] at c2
 unfold Hu.Zu
 have hsum:sW [.lst (w.map .int)]=some (.int w.sum):=by simp
 unfold Sl at hs
 generalize (w.map λs=>decide (0<=s*w.sum)).map PV.bl=bs at c1 c2
 generalize (w.all λs=>decide (0<=s*w.sum))=q at c2
 generalize w.map PV.int=ws at c1 hsum hs
 generalize w.sum=S at c1 hsum
 by_cases h0:S=0
 ·subst h0
  rcases hs with rfl|rfl<;>simp[wg,yW,List.replicate,-lM,hsum]
 ·rcases hs with rfl|rfl<;>simp[wg,yW,List.replicate,-lM,hsum,c1,c2,h0]
def Z26(x y:Int):Tc [.sh (.int x),.sh (.int y)]=.ret (.sh (.int (My.gd x y))):=by
 obtain⟨⟨u,v,r⟩,e1,e2,e3⟩:=Dp (mc:=(gW (ĉ pH (ā 1) (mC (.int 0))))) (mb:=(ġ (Ķ 2 (ş (ĉ Ń (ā 0) (ā 1)))) (ġ (Ķ 0 (ş (ĝ 1))) (Ķ 1 (ş (ĝ 2))))))
  (fun b:Int×Int×P.Slot=>[.sh (.int b.1),.sh (.int b.2.1),b.2.2]) (fun b=>My.gd b.1 b.2.1=My.gd x y) (fun b=>b.2.1.natAbs) (b:=(x,y,.no)) (by
    rintro ⟨u,v,r⟩ e
    by_cases hv:v=0
    ·left;simp[hv]
    ·right;exact⟨by simp[hv],(v,u.fmod v,.sh (.int (u.fmod v))),by simp[hv],(My.Z28 u v).trans e,My.Z29 u hv⟩) rfl
 have hv:v=0:=by simpa using e3
 subst hv
 have e1':Wc [.sh (.int x),.sh (.int y),.no]=_:=e1
 simp[Tc,Oq,List.replicate,e1',<-e2,My.Z2a]
def Z2o(t:Int){b:Int}{n:Nat}(h:b≠0)(hb:bits b<=n):bits (My.gd t b)<=n:=by
 refine intBits_le_of_natAbs ?_ hb
 have h1:=My.Z2T t h
 have h2:=My.Z13 t b
 omega
def rt(t b:Int):Int×Int:=(t.fdiv (My.dv t b),b.fdiv (My.dv t b))
def Z0x{t b:Int}(h:b≠0)(hz:bits b<=8000):qD [.sh (.int t),.sh (.int b)]=.ret (.sh (pt (rt t b))):=by
 have g1:=Z2o t h hz
 have g0:=My.Z2v t h
 by_cases hn:b<0
 ·have e:My.dv t b= - My.gd t b:=if_pos hn
  have c:∀i,nW i (- My.gd t b)=true:=λi=>Mu (by omega) (intBits_neg_le g1)
  simp[qD,yU,List.replicate,h,Z26,hn,c,e,pt,rt]
 ·have e:My.dv t b=My.gd t b:=if_neg hn
  have c:∀i,nW i (My.gd t b)=true:=λi=>Mu (by omega) g1
  simp[qD,yU,List.replicate,h,Z26,hn,c,e,pt,rt]
def ZU{w:List Int}{q:List Nat}{n:Nat}(hw:ShB w)(h0:w.sum≠0)(hl:w.length=q.length)(hq:∀i∈q,i<n)(hn:n<=100){s0 s1:P.Slot}(hs0:Sl s0 (w.map .int))(hs1:s1=.sh (.lst (q.map λ(i:Nat)=>.int (i:Int)))\/s1=.sh (.tup (q.map λ(i:Nat)=>.int (i:Int)))) :
 oK [s0,s1,.sh (.int n)]=.ret (.ow ((Fr.lay (List.replicate n 0) (w.zip q)).map λs=>pt (rt s w.sum))):=by
 obtain⟨b1,b2⟩:=hw.sum
 have hb:=Nat.le_trans (Z04 b1 b2) (show 200<=8000 by decide)
 have hsum:sW [.lst (w.map .int)]=some (.int w.sum):=by simp
 have c1:ŕ (gN 1) œ (ē (Đ qD (ď (mC (.int 0)) (Ą 0 č)))) ((List.range n).map λ(i:Nat)=>PV.int (i:Int)) [.sh (.int w.sum),.no] []=some ((List.replicate n (0:Int)).map λs=>pt (rt s w.sum)):=by
  have:=Œ (g:=gN 1) (mt:=œ) (me:=ē (Đ qD (ď (mC (.int 0)) (Ą 0 č)))) (λ(i:Nat)=>PV.int (i:Int)) (λ_=>pt (rt 0 w.sum)) (λρ=>∃s,ρ=[.sh (.int w.sum),s]) (List.range n) [.sh (.int w.sum),.no] [] ⟨_,rfl⟩ (by simp;omega) (by
   rintro x hx ρ ⟨s,rfl⟩
   exact⟨[.sh (.int w.sum),.sh (.int x)],[.sh (.int w.sum),.sh (.int x)],[.sh (.int w.sum),.sh (.int x)],by simp,by simp,by simp[Z0x h0 hb],_,rfl⟩)
  rw[this]
  simp[List.map_const']
 have hz:oA (w.map .int) (q.map λ(i:Nat)=>PV.int (i:Int))=(w.zip q).map λa=>.tup [.int a.1,.int (a.2:Int)]:=by
  clear hw h0 hl hq hs0 hs1 hsum c1 hb b1 b2
  induction w generalizing q with
  |nil=>simp[oA]
  |cons x w ih=>
   cases q with
   |nil=>simp[oA]
   |cons i q=>simp[oA,ih]
 have loop:∀s0' s1',∃ρ',forL (gT 2 (Ğ (gN 5) (Ğ (gN 6) Ť))) yV ((w.zip q).map λa=>.tup [.int a.1,.int (a.2:Int)]) [s0',s1',.sh (.int n),.sh (.int w.sum),.ow ((List.replicate n (0:Int)).map λs=>pt (rt s w.sum)),.no,.no]=.ok .nx ρ'/\ρ'[4]?=some (.ow ((Fr.lay (List.replicate n 0) (w.zip q)).map λs=>pt (rt s w.sum))):=by
  intro s0' s1'
  obtain⟨ρ',e,s5,s6,hρ,_⟩:=pO (g:=gT 2 (Ğ (gN 5) (Ğ (gN 6) Ť))) (mb:=yV) (λa:Int×Nat=>.tup [.int a.1,.int (a.2:Int)]) (λacc a=>acc.set a.2 a.1)
   (fun acc ρ=>∃s5 s6,ρ=[s0',s1',.sh (.int n),.sh (.int w.sum),.ow (acc.map fun s=>pt (rt s w.sum)),s5,s6]∧acc.length=n) (w.zip q) (by
     rintro ⟨x,i⟩ hx acc ρ ⟨s5,s6,rfl,hlen⟩
     have hi:i<n:=hq i (List.of_mem_zip hx).2
     have hix:z_ acc.length (i:Int)=some i:=by
      unfold z_
      rw[if_pos (by omega),if_pos (by omega)]
      simp
     refine⟨[s0',s1',.sh (.int n),.sh (.int w.sum),.ow (acc.map λs=>pt (rt s w.sum)),.sh (.int x),.sh (.int i)],[s0',s1',.sh (.int n),.sh (.int w.sum),.ow ((acc.set i x).map λs=>pt (rt s w.sum)),.sh (.int x),.sh (.int i)],by simp,?_,_,_,rfl,by simpa using hlen⟩
     simp[yV,Z0x h0 hb,hix,List.map_set]) (List.replicate n 0) [s0',s1',.sh (.int n),.sh (.int w.sum),.ow ((List.replicate n (0:Int)).map λs=>pt (rt s w.sum)),.no,.no] ⟨_,_,rfl,by simp⟩
  refine⟨ρ',e,?_⟩
  subst hρ
  rfl
 have hr:=Zw (show n<=1000 by omega)
 generalize (List.replicate n (0:Int)).map (λs=>pt (rt s w.sum))=zs at c1 loop
 generalize (Fr.lay (List.replicate n 0) (w.zip q)).map (λs=>pt (rt s w.sum))=rs at loop
 generalize ((w.zip q).map λa=>PV.tup [.int a.1,.int (a.2:Int)])=ls at hz loop
 generalize w.map PV.int=ws at hs0 hsum hz
 generalize w.sum=S at hsum c1 loop
 generalize (q.map λ(i:Nat)=>PV.int (i:Int))=qs at hz hs1
 rcases hs0 with rfl|rfl<;>rcases hs1 with rfl|rfl
 ·obtain⟨ρ',e,e4⟩:=loop (.sh (.lst ws)) (.sh (.lst qs))
  simp[oK,pW,List.replicate,-lM,hsum,hr,c1,hz,JG,e,e4]
 ·obtain⟨ρ',e,e4⟩:=loop (.sh (.lst ws)) (.sh (.tup qs))
  simp[oK,pW,List.replicate,-lM,hsum,hr,c1,hz,JG,e,e4]
 ·obtain⟨ρ',e,e4⟩:=loop (.bw ws) (.sh (.lst qs))
  simp[oK,pW,List.replicate,-lM,hsum,hr,c1,hz,JG,e,e4]
 ·obtain⟨ρ',e,e4⟩:=loop (.bw ws) (.sh (.tup qs))
  simp[oK,pW,List.replicate,-lM,hsum,hr,c1,hz,JG,e,e4]
def wts(S:List Hu.Pt)(r:List Int×List Nat):List PV:=(Fr.lay (List.replicate S.length 0) (r.1.zip r.2)).map λs=>pt (rt s r.1.sum)
def jO{S:List Hu.Pt}{i:Nat}(h:i<S.length):(S.map pt)[i]?=some (pt (Hu.at_ S i)):=by
 unfold Hu.at_
 rw[List.getElem?_map,List.getD_eq_getElem?_getD,List.getElem?_eq_getElem h]
 rfl
def Z2Y{S:List Hu.Pt}{sl:P.Slot}(hs:Sl sl (S.map pt)){i j k:Nat}(hi:i<S.length)(hj:j<S.length)(hk:k<S.length)(s3:P.Slot):ŕ (gN 1) œ (ĉ Ě (ā 0) (ā 1)) [.int (i:Int),.int (j:Int),.int (k:Int)] [sl,s3] []=some [pt (Hu.at_ S i),pt (Hu.at_ S j),pt (Hu.at_ S k)]:=by
 rcases hs with rfl|rfl<;>simp[ŕ,jO hi,jO hj,jO hk,-List.getElem?_map]
def Z2Z{S:List Hu.Pt}{sl:P.Slot}(hs:Sl sl (S.map pt)){i j:Nat}(hi:i<S.length)(hj:j<S.length)(s3:P.Slot):ŕ (gN 1) œ (ĉ Ě (ā 0) (ā 1)) [.int (i:Int),.int (j:Int)] [sl,s3] []=some [pt (Hu.at_ S i),pt (Hu.at_ S j)]:=by
 rcases hs with rfl|rfl<;>simp[ŕ,jO hi,jO hj,-List.getElem?_map]
def Sl.cap{s:P.Slot}{ps:List PV}(h:Sl s ps):iR s=s:=by rcases h with rfl|rfl<;>rfl
def Z2J{a b c p:Hu.Pt}(ha:Sm a)(hb:Sm b)(hc:Sm c)(hp:Sm p):ShB (Hu.yj a b c p):=⟨by simp[Hu.yj],Z2W ha hb hc hp⟩
def Z2K{a b p:Hu.Pt}(ha:Sm a)(hb:Sm b)(hp:Sm p):ShB (Hu.yq a b p):=⟨by simp[Hu.yq],Z2X ha hb hp⟩
def Z0W{S:List Hu.Pt}{sl:P.Slot}(hs:Sl sl (S.map pt))(hS:∀p∈S,Sm p)(h0:S≠[])(hl:S.length<=100){p:Hu.Pt}(hp:Sm p):wj [sl,.sh (pt p)]=.ret (.ow (wts S (Hu.Z0N S p))):=by
 have hat:∀i,i<S.length->Sm (Hu.at_ S i):=λi h=>hS _ (Hu.Z2w h)
 have ht:=Z0V S.length hl
 have hpr:=Z0w S.length hl
 have hlen:fW [.lst (S.map pt)]=some (.int S.length):=by simp
 have F3:=fB (g:=gN 3) (mb:=yZ) Cj (λq=>if Hu.Zu (Hu.yj (Hu.at_ S q.1) (Hu.at_ S q.2.1) (Hu.at_ S q.2.2) p)=true then some (Hu.yj (Hu.at_ S q.1) (Hu.at_ S q.2.1) (Hu.at_ S q.2.2) p,[q.1,q.2.1,q.2.2]) else none) (λr=>.ow (wts S r)) (λρ=>∃s3 s4,ρ=[sl,.sh (pt p),.sh (.int S.length),s3,s4]) (Hu.Z9 S.length) (by
  rintro ⟨i,j,k⟩ hm ρ ⟨s3,s4,rfl⟩
  obtain⟨h1,h2,h3⟩:=Hu.Z0B.mp hm
  have hi:i<S.length:=by omega
  have hj:j<S.length:=by omega
  have hb:=Z2J (hat i hi) (hat j hj) (hat k h3) hp
  have e1:=Z1P (hat i hi) (hat j hj) (hat k h3) hp
  have e2:=Z25 hb (sl:=.bw ((Hu.yj (Hu.at_ S i) (Hu.at_ S j) (Hu.at_ S k) p).map .int)) (.inr rfl)
  have e0:=Z2Y hs hi hj h3 .no
  refine⟨[sl,.sh (pt p),.sh (.int S.length),.sh (Cj (i,j,k)),s4],rfl,?_⟩
  cases q:Hu.Zu (Hu.yj (Hu.at_ S i) (Hu.at_ S j) (Hu.at_ S k) p) with
  |true=>
   left
   have hg:=Hu.Z0j.mp q
   have e3:=ZU (q:=[i,j,k]) (n:=S.length) hb hg.1 rfl (by simp;omega) hl (s0:=.bw ((Hu.yj (Hu.at_ S i) (Hu.at_ S j) (Hu.at_ S k) p).map .int)) (s1:=.sh (.tup [.int i,.int j,.int k])) (.inr rfl) (.inr rfl)
   rw[q] at e2
   refine⟨_,[sl,.sh (pt p),.sh (.int S.length),.sh (Cj (i,j,k)),.ow ((Hu.yj (Hu.at_ S i) (Hu.at_ S j) (Hu.at_ S k) p).map .int)],rfl,?_⟩
   generalize Hu.yj (Hu.at_ S i) (Hu.at_ S j) (Hu.at_ S k) p=w at *
   generalize hws:w.map PV.int=ws at *
   simp[yZ,Cj,hs.cap,e0,e1,e2,e3,wts]
  |false=>
   right
   rw[q] at e2
   refine⟨[sl,.sh (pt p),.sh (.int S.length),.sh (Cj (i,j,k)),.ow ((Hu.yj (Hu.at_ S i) (Hu.at_ S j) (Hu.at_ S k) p).map .int)],rfl,?_,_,_,rfl⟩
   generalize Hu.yj (Hu.at_ S i) (Hu.at_ S j) (Hu.at_ S k) p=w at *
   generalize hws:w.map PV.int=ws at *
   simp[yZ,Cj,hs.cap,e0,e1,e2])
 have F2:=fB (g:=gN 3) (mb:=yX) uI (λq=>if Hu.Zu (Hu.yq (Hu.at_ S q.1) (Hu.at_ S q.2) p)=true then some (Hu.yq (Hu.at_ S q.1) (Hu.at_ S q.2) p,[q.1,q.2]) else none) (λr=>.ow (wts S r)) (λρ=>∃s3 s4,ρ=[sl,.sh (pt p),.sh (.int S.length),s3,s4]) (Hu.Z7 S.length) (by
  rintro ⟨i,j⟩ hm ρ ⟨s3,s4,rfl⟩
  obtain⟨h1,h2⟩:=Hu.ZM.mp hm
  have hi:i<S.length:=by omega
  have hb:=Z2K (hat i hi) (hat j h2) hp
  have e1:=Z2I (hat i hi) (hat j h2) hp
  have e2:=Z25 hb (sl:=.bw ((Hu.yq (Hu.at_ S i) (Hu.at_ S j) p).map .int)) (.inr rfl)
  have e0:=Z2Z hs hi h2 .no
  refine⟨[sl,.sh (pt p),.sh (.int S.length),.sh (uI (i,j)),s4],rfl,?_⟩
  cases q:Hu.Zu (Hu.yq (Hu.at_ S i) (Hu.at_ S j) p) with
  |true=>
   left
   have hg:=Hu.Z0j.mp q
   have e3:=ZU (q:=[i,j]) (n:=S.length) hb hg.1 rfl (by simp;omega) hl (s0:=.bw ((Hu.yq (Hu.at_ S i) (Hu.at_ S j) p).map .int)) (s1:=.sh (.tup [.int i,.int j])) (.inr rfl) (.inr rfl)
   rw[q] at e2
   refine⟨_,[sl,.sh (pt p),.sh (.int S.length),.sh (uI (i,j)),.ow ((Hu.yq (Hu.at_ S i) (Hu.at_ S j) p).map .int)],rfl,?_⟩
   generalize Hu.yq (Hu.at_ S i) (Hu.at_ S j) p=w at *
   generalize hws:w.map PV.int=ws at *
   simp[yX,uI,hs.cap,e0,e1,e2,e3,wts]
  |false=>
   right
   rw[q] at e2
   refine⟨[sl,.sh (pt p),.sh (.int S.length),.sh (uI (i,j)),.ow ((Hu.yq (Hu.at_ S i) (Hu.at_ S j) p).map .int)],rfl,?_,_,_,rfl⟩
   generalize Hu.yq (Hu.at_ S i) (Hu.at_ S j) p=w at *
   generalize hws:w.map PV.int=ws at *
   simp[yX,uI,hs.cap,e0,e1,e2])
 have e3:(Hu.Z9 S.length).findSome? (λq=>if Hu.Zu (Hu.yj (Hu.at_ S q.1) (Hu.at_ S q.2.1) (Hu.at_ S q.2.2) p)=true then some (Hu.yj (Hu.at_ S q.1) (Hu.at_ S q.2.1) (Hu.at_ S q.2.2) p,[q.1,q.2.1,q.2.2]) else none)=Hu.Z2x S p:=rfl
 have e2:(Hu.Z7 S.length).findSome? (λq=>if Hu.Zu (Hu.yq (Hu.at_ S q.1) (Hu.at_ S q.2) p)=true then some (Hu.yq (Hu.at_ S q.1) (Hu.at_ S q.2) p,[q.1,q.2]) else none)=Hu.Z2y S p:=rfl
 rw[e3] at F3
 rw[e2] at F2
 have e1:=ZU (w:=[1]) (q:=[0]) (n:=S.length) ⟨by simp,by simp⟩ (by simp) rfl (by simpa using List.length_pos_iff.mpr h0) hl (s0:=.sh (.lst [.int 1])) (s1:=.sh (.lst [.int 0])) (.inl rfl) (.inl rfl)
 have hw1:(Fr.lay (List.replicate S.length 0) ([1].zip [0])).map (λs=>pt (rt s [1].sum))=wts S ([1],[0]):=rfl
 rw[hw1] at e1
 generalize hn:(S.length:Int)=N at *
 generalize (Hu.Z9 S.length).map Cj=ts at *
 generalize (Hu.Z7 S.length).map uI=prs at *
 unfold Hu.Z0N
 rcases F3 [sl,.sh (pt p),.sh (.int N),.no,.no] ⟨_,_,rfl⟩ with⟨r,ρ',q1,q2⟩|⟨ρ',q1,q2,s3,s4,hρ⟩
 ·rw[q1]
  rcases hs with rfl|rfl<;>simp[wj,tZ,List.replicate,-xG,hlen,ht,q2]
 ·subst hρ
  rw[q1]
  rcases F2 [sl,.sh (pt p),.sh (.int N),s3,s4] ⟨_,_,rfl⟩ with⟨r,ρ',q3,q4⟩|⟨ρ',q3,q4,s3',Qz,hρ⟩
  ·rw[q3]
   rcases hs with rfl|rfl<;>simp[wj,tZ,List.replicate,-xG,hlen,ht,hpr,q2,q4]
  ·subst hρ
   rw[q3]
   rcases hs with rfl|rfl<;>simp[wj,tZ,List.replicate,-xG,hlen,ht,hpr,q2,q4,e1]
def Z07(S:List Hu.Pt)(p:Hu.Pt):PV:=match Hu.Z02 S p with
 |some l=>.tup [.str "out",jE l]
 |none=>.tup [.str "in",.lst (wts S (Hu.Z0N S p))]
def Z2p{S:List Hu.Pt}{sl:P.Slot}(hs:Sl sl (S.map pt))(hS:∀p∈S,Sm p)(h0:S≠[])(hl:S.length<=100){p:Hu.Pt}(hp:Sm p):BR [sl,.sh (pt p)]=.ret (.sh (Z07 S p)):=by
 have h1:=Z0U hs hS h0 (by omega) p
 have h2:=Z0W hs hS h0 hl hp
 unfold Z07
 cases e:Hu.Z02 S p with
 |some l=>
  rw[e] at h1
  simp[BR,za,List.replicate,hs.lend,h1,Z0u,jE,Am]
 |none=>
  rw[e] at h1
  simp[BR,za,List.replicate,hs.lend,h1,Z0u,h2,Am]
def Z1Q{r:P3}(hr:RB r)(s:Hu.Pt):Ir [.sh (pt s),.sh (c3 r)]=.ret (.sh (pt (cst r (Ci s)))):=by
 have e:=Z0G hr (Ci s)
 have e':PV.tup [.int (2*s.1),.int (2*s.2),.int 0]=c3 (Ci s):=rfl
 generalize hR:c3 r=R at *
 unfold pt
 simp[Ir,Fi,List.replicate,e',e]
 rfl
def Z0X{w:Str}{xs:List Int}(hg:Z5 w xs=true){r:P3}(hr:RB r){s:Hu.Pt}(hs:PB (Ci s)):Iu [.sh (Z4 (Zb w) w xs),.sh (pt s),.sh (c3 r)]=.ret (.sh (Z07 ((Zi w xs).map (cst r)) (cst r (Ci s)))):=by
 obtain⟨g1,g2,g3⟩:=Z1K hg
 have h1:=Z1J hg (by omega) hr
 have h2:=Z1Q hr s
 have h3:=Z2p (S:=(Zi w xs).map (cst r)) (sl:=.sh (.lst (((Zi w xs).map (cst r)).map pt))) (.inl rfl) (by
  intro p hp
  obtain⟨q,hq,rfl⟩:=List.mem_map.mp hp
  exact Z1c hr (g3 q hq)) (by simpa using g2) (by simp;omega) (p:=cst r (Ci s)) (Z1c hr hs)
 generalize Z07 ((Zi w xs).map (cst r)) (cst r (Ci s))=V at *
 generalize ((Zi w xs).map (cst r)).map pt=Y at *
 generalize pt (cst r (Ci s))=Z at *
 generalize Z4 (Zb w) w xs=v at *
 generalize c3 r=R at *
 generalize pt s=Q at *
 simp[Iu,Fj,List.replicate,h1,h2,h3]
def sIn:PyData.strOk (Str.ofString "in")=true:=by decide +kernel
def Z32:PyData.strOk (Str.ofString "out")=true:=by decide +kernel
def dIO:(Str.ofString "out" =Str.ofString "in")=False:=eq_false (by decide +kernel)
def Z0e{w:Str}{xs:List Int}(hg:Z5 w xs=true){r:P3}(hr:RB r){s:Hu.Pt}(hs:PB (Ci s)):qK [.sh (Z4 (Zb w) w xs),.sh (pt s),.sh (c3 r)]=.ret (.sh (.bl (shB w xs s r))):=by
 have h1:=Z0X hg hr hs
 unfold Z07 at h1
 unfold shB
 generalize Z4 (Zb w) w xs=v at *
 generalize c3 r=R at *
 generalize pt s=Q at *
 cases e:Hu.Z02 ((Zi w xs).map (cst r)) (cst r (Ci s)) with
 |none=>
  rw[e] at h1
  dsimp only at h1
  generalize wts ((Zi w xs).map (cst r)) (Hu.Z0N ((Zi w xs).map (cst r)) (cst r (Ci s)))=Y at *
  simp[qK,zc,List.replicate,h1,fM sIn sIn]
 |some l=>
  rw[e] at h1
  dsimp only at h1
  generalize jE l=Y at *
  simp[qK,zc,List.replicate,h1,fM Z32 sIn,dIO]
structure YOk(w h:Nat)(T:List Th):Prop where
 w0:0<w
 w1:w<=60
 h1:h<=1000
 wh:w*h<=1000
 tl:T.length<=1000
 tg:∀t∈T,Z5 t.1 t.2=true
def Z2L{w k n:Nat}(hk:k<1000):PB (Ci (uG w k)):=by
 have h1:k % w<=k:=Nat.mod_le k w
 have h2:k / w<=k:=Nat.div_le_self k w
 unfold PB Ci uG
 dsimp only
 generalize k % w=a at *
 generalize k / w=b at *
 omega
def Z1l{w h:Nat}{T:List Th}(Y:YOk w h T)(D:List Dy){o:Option P3}(ho:RB' o){k:Nat}(hk:k<1000):mL [.sh (Z0 w h T D),.sh (lU o),.sh (pt (uG w k))]=.ret (.sh (.bl (dkp w T o k))):=by
 cases o with
 |none=>
  generalize Z0 w h T D=Yv at *
  simp[mL,uc,List.replicate,lU,Am,dkp]
 |some r=>
  have ho:RB r/\0<r.2.2:=ho
  have yt:=y_t w h T D
  have e:T.findSome? (λt=>if JZ t (uG w k) r=true then some () else none)=if(T.any λt=>JZ t (uG w k) r)=true then some () else none:=by
   generalize T=T'
   induction T' with
   |nil=>rfl
   |cons t T' ih=>
    rw[List.findSome?_cons,List.any_cons]
    cases q:JZ t (uG w k) r with
    |true=>simp
    |false=>rw[Bool.false_or,<-ih];simp
  have hn:Am (c3 r)=false:=by simp[c3,Am]
  rcases fB (g:=gN 3) (mb:=zj) gJ (λt=>if JZ t (uG w k) r=true then some () else none) (λ_=>.sh (.bl true)) (λρ=>∃s,ρ=[.sh (Z0 w h T D),.sh (c3 r),.sh (pt (uG w k)),s]) T (by
   rintro t ht ρ ⟨s,rfl⟩
   have es:qK [.sh (gJ t),.sh (pt (uG w k)),.sh (c3 r)]=.ret (.sh (.bl (JZ t (uG w k) r))):=Z0e (Y.tg t ht) ho.1 (Z2L (n:=0) hk)
   refine⟨[.sh (Z0 w h T D),.sh (c3 r),.sh (pt (uG w k)),.sh (gJ t)],rfl,?_⟩
   generalize Z0 w h T D=Yv at *
   generalize c3 r=R at *
   generalize gJ t=Tv at *
   generalize hP:pt (uG w k)=Pv at *
   cases q:JZ t (uG w k) r with
   |true=>
    rw[q] at es
    exact .inl ⟨(),[.sh Yv,.sh R,.sh Pv,.sh Tv],by simp,by simp[zj,es]⟩
   |false=>
    rw[q] at es
    exact .inr ⟨[.sh Yv,.sh R,.sh Pv,.sh Tv],by simp,by simp[zj,es],_,rfl⟩) [.sh (Z0 w h T D),.sh (c3 r),.sh (pt (uG w k)),.no] ⟨_,rfl⟩ with⟨_,ρ',q1,q2⟩|⟨ρ',q1,q2,_⟩
  ·rw[e] at q1
   have hd:dkp w T (some r) k=true:=by
    show(T.any λt=>JZ t (uG w k) r)=true
    cases q:T.any (λt=>JZ t (uG w k) r) with
    |true=>rfl
    |false=>rw[q] at q1;simp at q1
   rw[hd]
   show mL [_,.sh (c3 r),_]=_
   generalize Z0 w h T D=Yv at *
   generalize c3 r=R at *
   generalize pt (uG w k)=Pv at *
   simp[mL,uc,List.replicate,hn,yt,q2]
  ·rw[e] at q1
   have hd:dkp w T (some r) k=false:=by
    show(T.any λt=>JZ t (uG w k) r)=false
    cases q:T.any (λt=>JZ t (uG w k) r) with
    |false=>rfl
    |true=>rw[q] at q1;simp at q1
   rw[hd]
   show mL [_,.sh (c3 r),_]=_
   generalize Z0 w h T D=Yv at *
   generalize c3 r=R at *
   generalize pt (uG w k)=Pv at *
   simp[mL,uc,List.replicate,hn,yt,q2]
def ZG{w h:Nat}{T:List Th}{D:List Dy}{i:Nat}(hi:i<D.length):oJ [.sh (Z0 w h T D),.sh (.int i)]=.ret (.sh (.lst (D[i].2.2.map lU))):=by
 have yd:=y_d w h T D
 have hx:(D.map cu)[i]?=some (cu D[i]):=by simp[hi]
 generalize Z0 w h T D=Yv at *
 generalize D.map cu=DV at *
 simp[oJ,Eb,List.replicate,yd,hx]
 simp[cu]
theorem Z0f(f:Nat->PV):∀(n a:Nat),mJ a ((List.range' a n).map f)=(List.range' a n).map λ(k:Nat)=>PV.tup [.int k,f k]
 |0,a=>rfl
 |n+1,a=>by
  rw[List.range'_succ,List.map_cons,List.map_cons]
  show _::mJ (a+1) _=_
  rw[Z0f f n (a+1)]
def Z0Y(f:Nat->PV)(n:Nat):mJ 0 ((List.range n).map f)=(List.range n).map λ(k:Nat)=>PV.tup [.int k,f k]:=by
 rw[List.range_eq_range']
 exact Z0f f n 0
def ZH(t:Th):PV:=.tup [.str t.1,.lst (t.2.map .int)]
def Z2M(w h:Nat):mH [.tup [.int w,.int h]]=some (.int ((max w h:Nat):Int)):=by
 show some (PV.int (max (w:Int) h))=_
 congr 2
 omega
theorem Z0y{w h:Nat}(hw:1<=w/\w<=20)(hh:1<=h/\h<=20):∀(cs:List Int) (acc:List PV) (s1:P.Slot),acc.length+cs.length<=1000->∃T:List Th,ŕ (gN 1) œ (ē (Đ kI (Ą 1 (ď (dU mH (ą (ā 0) Ĝ)) č)))) (cs.map .int) [.sh (.tup [.int w,.int h]),s1] acc=some (acc++T.map ZH)/\T.length=cs.length/\∀t∈T,Z5 t.1 t.2=true
 | [],acc,s1,_=>⟨[],by simp[ŕ],rfl,by simp⟩
 |c::cs,acc,s1,ha=>by
  obtain⟨t,e1,e2⟩:=Z1i c (w:=((max w h:Nat):Int)) (by omega) (by omega)
  obtain⟨T,q1,q2,q3⟩:=Z0y hw hh cs (acc ++ [ZH t]) (.sh (.int c)) (by simp at ha ⊢;omega)
  refine⟨t::T,?_,by simp[q2],?_⟩
  ·have hz:acc.length<16777216:=by simp at ha;omega
   have mx:=Z2M w h
   change kI _=.ret (.sh (ZH t)) at e1
   generalize hR:ZH t=R at *
   generalize ((max w h:Nat):Int)=m at *
   rw[List.map_cons,ŕ]
   simp[mx,e1,hz,hR]
   simpa using q1
  ·intro x hx
   rcases List.mem_cons.mp hx with rfl|hx
   ·exact e2
   ·exact q3 x hx
def Z1R{w:Str}{xs:List Int}(h:Z5 w xs=true):PyData.strOk w=true:=by
 unfold Z5 at h
 by_cases e1:w= "post"
 ·rw[e1];exact s1
 rw[if_neg e1] at h
 by_cases e2:w= "fence"
 ·rw[e2];exact s2
 rw[if_neg e2] at h
 by_cases e3:w= "sail"
 ·rw[e3];exact s3
 rw[if_neg e3] at h
 by_cases e4:w= "cloth"
 ·rw[e4];exact s4
 rw[if_neg e4] at h
 by_cases e5:w= "house"
 ·rw[e5];exact s5
 rw[if_neg e5] at h
 cases h
def Z1m{T:List Th}(hl:T.length<=1000)(hg:∀t∈T,Z5 t.1 t.2=true)(s0 s1:P.Slot):ŕ (gT 2 (Ğ (gN 0) (Ğ (gN 1) Ť))) œ (ē (Đ iB (Ą 0 (ď (ē (pG fK (ą (ā 1) Ĝ))) č)))) (T.map ZH) [s0,s1] []=some (T.map gJ):=by
 have hc:=Œ (g:=gT 2 (Ğ (gN 0) (Ğ (gN 1) Ť))) (mt:=œ) (me:=ē (Đ iB (Ą 0 (ď (ē (pG fK (ą (ā 1) Ĝ))) č)))) ZH gJ (λρ=>∃a b,ρ=[a,b]) T [s0,s1] [] ⟨_,_,rfl⟩ (by simp;omega) (by
  rintro t ht ρ ⟨a,b,rfl⟩
  have e:=Z1I (Z1R (hg t ht)) (xs:=t.2) (sl:=.sh (.lst (t.2.map .int))) (.inl rfl)
  rw[if_pos (hg t ht)] at e
  change iB _=.ret (.sh (gJ t)) at e
  refine⟨[.sh (.str t.1),.sh (.lst (t.2.map .int))],_,[.sh (.str t.1),.sh (.lst (t.2.map .int))],by simp[ZH],rfl,?_,_,_,rfl⟩
  generalize t.2.map PV.int=X at *
  generalize gJ t=V at *
  simp[e])
 simpa using hc
def slI(xs:List Int)(lo hi:Option Int):∃ys:List Int,dG (xs.map PV.int) lo hi=ys.map PV.int/\ys.length<=xs.length:=by
 refine⟨(xs.drop (HT.jD xs.length 0 lo)).take (HT.jD xs.length xs.length hi-HT.jD xs.length 0 lo),?_,by simp;omega⟩
 unfold dG
 rw[List.length_map,List.map_take,List.map_drop]
abbrev Wt:=Int×Int×Int×Int
def aC(q:Wt):PV:=.tup [.tup [.int q.1,.int q.2.1],.int q.2.2.1,.int q.2.2.2]
def Ze(w h:Nat)(q:Wt):Prop:=(0<=q.1/\q.1<w)/\(0<=q.2.1/\q.2.1<h)
def Zj(D:List Dy)(q:Wt):Prop:=(0<=q.2.2.1/\q.2.2.1<D.length)/\(0<=q.2.2.2/\q.2.2.2<(D.getD q.2.2.1.toNat default).2.2.length)
def Z1n{w h:Nat}{T:List Th}(D:List Dy){x y:Int}(hx:¬((0<=x/\x<w)/\(0<=y/\y<h))):oH [.sh (Z0 w h T D),.sh (.tup [.int x,.int y])]=.ret (.sh (.bl false)):=by
 have yw:=y_w w h T D
 have yh:=y_h w h T D
 generalize Z0 w h T D=Yv at *
 by_cases a1:0<=x
 ·by_cases a2:x<(w:Int)
  ·by_cases a3:0<=y
   ·have a4:¬y<(h:Int):=λa4=>hx ⟨⟨a1,a2⟩,a3,a4⟩
    simp[oH,nD,List.replicate,yw,yh,a1,a2,a3,a4]
   ·simp[oH,nD,List.replicate,yw,yh,a1,a2,a3]
  ·simp[oH,nD,List.replicate,yw,yh,a1,a2]
 ·simp[oH,nD,List.replicate,yw,yh,a1]
def Z0Z{w h:Nat}{T:List Th}(D:List Dy){x y:Int}(hx:(0<=x/\x<w)/\(0<=y/\y<h)):oH [.sh (Z0 w h T D),.sh (.tup [.int x,.int y])]=.ret (.sh (.bl true)):=by
 have yw:=y_w w h T D
 have yh:=y_h w h T D
 generalize Z0 w h T D=Yv at *
 obtain⟨⟨a1,a2⟩,a3,a4⟩:=hx
 simp[oH,nD,List.replicate,yw,yh,a1,a2,a3,a4]
def xSt(x y:Int):PX:=⟨"NoStone",["stone"],[.tup [.int x,.int y]]⟩
def TF(d t:Int):PX:=⟨"NoTurn",["day","turn"],[.int d,.int t]⟩
def Z1o{w h:Nat}{T:List Th}(D:List Dy){x y:Int}(hx:¬((0<=x/\x<w)/\(0<=y/\y<h))):vV [.sh (Z0 w h T D),.sh (.tup [.int x,.int y])]=.exc (xSt x y):=by
 have hs:=Z1n (T:=T) D hx
 generalize Z0 w h T D=Yv at *
 simp[vV,yL,List.replicate,hs,Nb,putN,qP,xSt]
def ZI{w h:Nat}{T:List Th}(D:List Dy){x y:Int}(hx:(0<=x/\x<w)/\(0<=y/\y<h)):vV [.sh (Z0 w h T D),.sh (.tup [.int x,.int y])]=.ret (.sh .non):=by
 have hs:=Z0Z (T:=T) D hx
 generalize Z0 w h T D=Yv at *
 simp[vV,yL,List.replicate,hs]
def y35:(Str.ofString "day" =Str.ofString "turn")=False:=eq_false (by decide +kernel)
def Z10:(Str.ofString "turn" == Str.ofString "day")=false:=by decide +kernel
def Z0I{w h:Nat}{T:List Th}{D:List Dy}(d:Int):vW [.sh (Z0 w h T D),.sh (.int d)]=.ret (.sh (.bl (decide (0<=d/\d<D.length)))):=by
 have yd:=y_d w h T D
 have hl:(D.map cu).length=D.length:=by simp
 rw[<-hl]
 generalize Z0 w h T D=Yv at *
 generalize D.map cu=DV at *
 by_cases a1:0<=d
 ·by_cases a2:d<(DV.length:Int)
  ·simp[vW,tQ,List.replicate,yd,a1,a2]
  ·simp[vW,tQ,List.replicate,yd,a1,a2]
 ·simp[vW,tQ,List.replicate,yd,a1]
def Z1S{w h:Nat}{T:List Th}{D:List Dy}{d t:Int}(hd:¬((0<=d/\d<D.length)/\(0<=t/\t<(D.getD d.toNat default).2.2.length))):qy [.sh (Z0 w h T D),.sh (.int d),.sh (.int t)]=.exc (TF d t):=by
 have hd0:=Z0I (w:=w) (h:=h) (T:=T) (D:=D) d
 by_cases hq:0<=d/\d<D.length
 ·obtain⟨i,rfl⟩:∃i:Nat,d=(i:Int):=⟨d.toNat,by omega⟩
  have hi:i<D.length:=by omega
  have ht:=ZG (w:=w) (h:=h) (T:=T) hi
  have hg:D.getD (i:Int).toNat default=D[i]:=by simp[hi]
  rw[hg] at hd
  have hl:(D[i].2.2.map lU).length=D[i].2.2.length:=by simp
  rw[<-hl] at hd
  rw[decide_eq_true hq] at hd0
  generalize D[i].2.2.map lU=TV at *
  generalize Z0 w h T D=Yv at *
  by_cases a1:0<=t
  ·have a2:¬t<(TV.length:Int):=λa2=>hd ⟨hq,a1,a2⟩
   simp[qy,pQ,List.replicate,hd0,ht,a1,a2,Nb,putN,qP,TF,y35,Z10]
  ·simp[qy,pQ,List.replicate,hd0,ht,a1,Nb,putN,qP,TF,y35,Z10]
 ·rw[decide_eq_false hq] at hd0
  generalize Z0 w h T D=Yv at *
  simp[qy,pQ,List.replicate,hd0,Nb,putN,qP,TF,y35,Z10]
def Z0g{w h:Nat}{T:List Th}{D:List Dy}{d t:Int}(hd:(0<=d/\d<D.length)/\(0<=t/\t<(D.getD d.toNat default).2.2.length)):qy [.sh (Z0 w h T D),.sh (.int d),.sh (.int t)]=.ret (.sh .non):=by
 have hd0:=Z0I (w:=w) (h:=h) (T:=T) (D:=D) d
 obtain⟨hq,a1,a2⟩:=hd
 obtain⟨i,rfl⟩:∃i:Nat,d=(i:Int):=⟨d.toNat,by omega⟩
 have hi:i<D.length:=by omega
 have ht:=ZG (w:=w) (h:=h) (T:=T) hi
 have hg:D.getD (i:Int).toNat default=D[i]:=by simp[hi]
 rw[hg] at a2
 have hl:(D[i].2.2.map lU).length=D[i].2.2.length:=by simp
 rw[<-hl] at a2
 rw[decide_eq_true hq] at hd0
 generalize D[i].2.2.map lU=TV at *
 generalize Z0 w h T D=Yv at *
 simp[qy,pQ,List.replicate,hd0,ht,a1,a2]
theorem Z0J{w h:Nat}{T:List Th}{D:List Dy}:∀(qs:List Wt) (z s2 s3 s4:P.Slot),(∀q∈qs,Ze w h q/\Zj D q)->∃a b c:P.Slot,forL (gT 3 (Ğ (gN 2) (Ğ (gN 3) (Ğ (gN 4) Ť)))) je (qs.map aC) [.sh (Z0 w h T D),z,s2,s3,s4]=.ok .nx [.sh (Z0 w h T D),z,a,b,c]
 | [],z,s2,s3,s4,_=>⟨s2,s3,s4,rfl⟩
 |q::qs,z,s2,s3,s4,hq=>by
  obtain⟨h1,h2⟩:=hq q List.mem_cons_self
  have e1:=ZI (T:=T) D h1
  have e2:=Z0g (w:=w) (h:=h) (T:=T) h2
  obtain⟨a,b,c,e⟩:=Z0J qs z (.sh (.tup [.int q.1,.int q.2.1])) (.sh (.int q.2.2.1)) (.sh (.int q.2.2.2)) (λx hx=>hq x (List.mem_cons_of_mem _ hx))
  refine⟨a,b,c,?_⟩
  generalize Z0 w h T D=Yv at *
  have eb:je [.sh Yv,z,.sh (.tup [.int q.1,.int q.2.1]),.sh (.int q.2.2.1),.sh (.int q.2.2.2)]=.ok .nx [.sh Yv,z,.sh (.tup [.int q.1,.int q.2.1]),.sh (.int q.2.2.1),.sh (.int q.2.2.2)]:=by simp[je,e1,e2]
  rw[List.map_cons,forL]
  simp[aC,eb]
  exact e
theorem Z1p{w h:Nat}{T:List Th}{D:List Dy}(r:List Wt){q:Wt}{X:PX}(hX:(¬Ze w h q/\X=xSt q.1 q.2.1)\/(Ze w h q/\¬Zj D q/\X=TF q.2.2.1 q.2.2.2)):∀(qs:List Wt) (z s2 s3 s4:P.Slot),(∀q∈qs,Ze w h q/\Zj D q)->∃ρ,forL (gT 3 (Ğ (gN 2) (Ğ (gN 3) (Ğ (gN 4) Ť)))) je ((qs++q::r).map aC) [.sh (Z0 w h T D),z,s2,s3,s4]=.exc X ρ
 | [],z,s2,s3,s4,_=>by
   rcases hX with⟨h1,rfl⟩|⟨h1,h2,rfl⟩
   ·have e1:=Z1o (T:=T) D h1
    generalize Z0 w h T D=Yv at *
    generalize xSt q.1 q.2.1=X at *
    refine⟨[.sh Yv,z,.sh (.tup [.int q.1,.int q.2.1]),.sh (.int q.2.2.1),.sh (.int q.2.2.2)],?_⟩
    rw[List.nil_append,List.map_cons,forL]
    simp[aC,je,e1]
   ·have e1:=ZI (T:=T) D h1
    have e2:=Z1S (w:=w) (h:=h) (T:=T) h2
    generalize Z0 w h T D=Yv at *
    generalize TF q.2.2.1 q.2.2.2=X at *
    refine⟨[.sh Yv,z,.sh (.tup [.int q.1,.int q.2.1]),.sh (.int q.2.2.1),.sh (.int q.2.2.2)],?_⟩
    rw[List.nil_append,List.map_cons,forL]
    simp[aC,je,e1,e2]
 |q'::qs,z,s2,s3,s4,hq=>by
  obtain⟨h1,h2⟩:=hq q' List.mem_cons_self
  have e1:=ZI (T:=T) D h1
  have e2:=Z0g (w:=w) (h:=h) (T:=T) h2
  obtain⟨ρ,e⟩:=Z1p r hX qs z (.sh (.tup [.int q'.1,.int q'.2.1])) (.sh (.int q'.2.2.1)) (.sh (.int q'.2.2.2)) (λx hx=>hq x (List.mem_cons_of_mem _ hx))
  refine⟨ρ,?_⟩
  generalize Z0 w h T D=Yv at *
  have eb:je [.sh Yv,z,.sh (.tup [.int q'.1,.int q'.2.1]),.sh (.int q'.2.2.1),.sh (.int q'.2.2.2)]=.ok .nx [.sh Yv,z,.sh (.tup [.int q'.1,.int q'.2.1]),.sh (.int q'.2.2.1),.sh (.int q'.2.2.2)]:=by simp[je,e1,e2]
  rw[List.cons_append,List.map_cons,forL]
  generalize (qs++q::r).map aC=QS at *
  simp[aC,eb]
  exact e
def Z1T{w h:Nat}{T:List Th}{D:List Dy}{qs:List Wt}(hq:∀q∈qs,Ze w h q/\Zj D q):vX [.sh (Z0 w h T D),.bw (qs.map aC)]=.ret (.sh .non):=by
 obtain⟨a,b,c,e⟩:=Z0J (T:=T) qs (.bw (qs.map aC)) .no .no .no hq
 generalize Z0 w h T D=Yv at *
 generalize qs.map aC=QS at *
 simp[vX,yM,List.replicate,e]
def Z2q{w h:Nat}{T:List Th}{D:List Dy}{qs r:List Wt}{q:Wt}{X:PX}(hX:(¬Ze w h q/\X=xSt q.1 q.2.1)\/(Ze w h q/\¬Zj D q/\X=TF q.2.2.1 q.2.2.2))(hq:∀q∈qs,Ze w h q/\Zj D q):vX [.sh (Z0 w h T D),.bw ((qs++q::r).map aC)]=.exc X:=by
 obtain⟨ρ,e⟩:=Z1p (T:=T) r hX qs (.bw ((qs++q::r).map aC)) .no .no .no hq
 generalize Z0 w h T D=Yv at *
 generalize (qs++q::r).map aC=QS at *
 simp[vX,yM,List.replicate,e]
def Z1U(p:Nat->Bool)(i:Nat):(Z6 i p ||| 2 ^ i)=Z6 i p+2 ^ i:=by
 have h:=Nat.two_pow_add_eq_or_of_lt (Z0q p i) 1
 rw[Nat.mul_one] at h
 rw[Nat.or_comm,<-h,Nat.add_comm]
theorem Z0z(f:Nat->Bool):∀(n a:Nat) (z s2 s3:P.Slot),a+n<=1000->∃s2' s3',forL (gT 2 (Ğ (gN 2) (Ğ (gN 3) Ť))) tU ((List.range' a n).map λ(k:Nat)=>PV.tup [.int k,.bl (f k)]) [z,.sh (.int (Z6 a f:Nat)),s2,s3]=.ok .nx [z,.sh (.int (Z6 (a+n) f:Nat)),s2',s3']
 |0,a,z,s2,s3,_=>⟨s2,s3,rfl⟩
 |n+1,a,z,s2,s3,hn=>by
  obtain⟨s2',s3',e⟩:=Z0z f n (a+1) z (.sh (.int a)) (.sh (.bl (f a))) (by omega)
  refine⟨s2',s3',?_⟩
  have eb:tU [z,.sh (.int (Z6 a f:Nat)),.sh (.int a),.sh (.bl (f a))]=.ok .nx [z,.sh (.int (Z6 (a+1) f:Nat)),.sh (.int a),.sh (.bl (f a))]:=by
   have po:su 1 (a:Int)=true:=by simp[su];omega
   cases hf:f a with
   |false=>simp[tU,Z6,hf]
   |true=>
    have hb:Builtin.bitOr ((Z6 a f:Nat):Int) (2 ^ a)=((Z6 (a+1) f:Nat):Int):=by
     have:=Z1g (Z6 a f) (2 ^ a)
     rw[Z1U] at this
     have e2:Z6 (a+1) f=Z6 a f+2 ^ a:=by simp[Z6,hf]
     rw[e2]
     simpa using this
    simp[tU,hb,po]
  rw[List.range'_succ,List.map_cons,forL]
  simp[eb]
  rw[show a+(n+1)=a+1+n by omega]
  exact e
def Z1q(f:Nat->Bool){n:Nat}(hn:n<=1000):BK [.sh (.lst ((List.range n).map λ(k:Nat)=>PV.bl (f k)))]=.ret (.sh (.int (Z6 n f:Nat))):=by
 obtain⟨a,b,e⟩:=Z0z f n 0 (.sh (.lst ((List.range n).map λ(k:Nat)=>PV.bl (f k)))) .no .no (by omega)
 have en:=Z0Y (λk=>PV.bl (f k)) n
 rw[<-List.range_eq_range',Nat.zero_add] at e
 have z:Z6 0 f=0:=rfl
 rw[z] at e
 generalize (List.range n).map (λ(k:Nat)=>PV.bl (f k))=L at *
 simp[BK,Ei,List.replicate,en]
 simp at e
 rw[e]
 simp
def ZY(i j:Int):sy (.int i) (.int j)=some (.int (Builtin.bitAnd i j)):=rfl
def Z08(c k:Nat):Aj (c:Int) (k:Int)=true:=by simp[Aj]
def ZV(f:Nat->PV){n:Nat}(hn:n<=1000)(c:Nat):qC [.bw ((List.range n).map f),.sh (.int c)]=.ret (.ow (((List.range n).filter λk=>c.testBit k).map f)):=by
 have en:=Z0Y f n
 have e:=eO (g:=gT 2 (Ğ (gN 1) (Ğ (gN 2) Ť))) (mt:=eE (ĉ sy (ĉ Ak (ā 0) (ā 1)) (mC (.int 1)))) (me:=ĝ 2) (λ(k:Nat)=>PV.tup [.int k,f k]) f (λk=>c.testBit k) (λρ=>∃a b,ρ=[.sh (.int c),a,b]) (List.range n) [.sh (.int c),.no,.no] [] ⟨_,_,rfl⟩ (by simp;omega) (by
  rintro k _ ρ ⟨a,b,rfl⟩
  refine⟨[.sh (.int c),.sh (.int k),.sh (f k)],[.sh (.int c),.sh (.int k),.sh (f k)],by simp,?_,λ_=>⟨_,_,rfl⟩,λ_=>⟨[.sh (.int c),.sh (.int k),.sh (f k)],by simp,_,_,rfl⟩⟩
  have h1:=Z0H c k
  have h2:Builtin.bitAnd ((c:Int) / 2 ^ k) 1=if c.testBit k then 1 else 0:=by rw[Z24];exact h1
  cases hb:c.testBit k with
  |true=>rw[hb] at h2;simp at h2;simp[h2,Z08,ZY]
  |false=>rw[hb] at h2;simp at h2;simp[h2,Z08,ZY])
 rw[List.nil_append] at e
 generalize (List.range n).map f=L at *
 generalize ((List.range n).filter λk=>c.testBit k).map f=R at *
 simp[qC,Ec,List.replicate,ni,iR,en,e]
def Zk(cov:Nat->Nat)(n c base:Nat):Nat:=((List.range n).filter λk=>c.testBit k).foldl (λb k=>b ||| cov k) base
def Z1V(cov:Nat->Nat){n:Nat}(hn:n<=1000)(c base:Nat):Bx [.bw ((List.range n).map λk=>PV.int (cov k:Nat)),.sh (.int c),.sh (.int base)]=.ret (.sh (.int (Zk cov n c base:Nat))):=by
 have e1:=ZV (λk=>PV.int (cov k:Nat)) hn c
 obtain⟨ρ',e2,a,rfl⟩:=pO (g:=gN 4) (mb:=Ef) (λk=>PV.int (cov k:Nat)) (λ(b:Nat) k=>b ||| cov k) (λb ρ=>∃a,ρ=[.bw ((List.range n).map λk=>PV.int (cov k:Nat)),.sh (.int c),.sh (.int base),.sh (.int (b:Nat)),a]) ((List.range n).filter λk=>c.testBit k) (by
  rintro k _ b ρ ⟨a,rfl⟩
  exact⟨_,_,rfl,by simp[Ef,Z1g];rfl,_,rfl⟩) base [.bw ((List.range n).map λk=>PV.int (cov k:Nat)),.sh (.int c),.sh (.int base),.sh (.int base),.no] ⟨_,rfl⟩
 unfold Zk
 generalize ((List.range n).filter λk=>c.testBit k).foldl (λb k=>b ||| cov k) base=M at *
 generalize ((List.range n).filter λk=>c.testBit k).map (λk=>PV.int (cov k:Nat))=R at *
 generalize (List.range n).map (λk=>PV.int (cov k:Nat))=L at *
 simp[Bx,Eh,List.replicate,e1,e2]
def zT(m many:Nat):Option Nat:=(List.range many).findSome? λk=>if m.testBit k then none else some k
def Cd:Option Nat->PV
 |some k=>.int k
 |none=>.non
def Z1r(m:Nat){many:Nat}(hm:many<=1000):vY [.sh (.int m),.sh (.int many)]=.ret (.sh (Cd (zT m many))):=by
 have rr:=Zw (n:=many) hm
 rcases fB (g:=gN 2) (mb:=yN) (λ(k:Nat)=>PV.int (k:Int)) (λk=>if m.testBit k then none else some k) (λk=>RV.sh (.int (k:Nat))) (λρ=>∃a,ρ=[.sh (.int m),.sh (.int many),a]) (List.range many) (by
  rintro k _ ρ ⟨a,rfl⟩
  refine⟨[.sh (.int m),.sh (.int many),.sh (.int k)],rfl,?_⟩
  have h1:=Z0H m k
  have h2:Builtin.bitAnd ((m:Int) / 2 ^ k) 1=if m.testBit k then 1 else 0:=by rw[Z24];exact h1
  cases hb:m.testBit k with
  |true=>rw[hb] at h2;simp at h2;exact .inr ⟨[.sh (.int m),.sh (.int many),.sh (.int k)],by simp,by simp[yN,h2,Z08,ZY],_,rfl⟩
  |false=>rw[hb] at h2;simp at h2;exact .inl ⟨k,[.sh (.int m),.sh (.int many),.sh (.int k)],by simp,by simp[yN,h2,Z08,ZY]⟩) [.sh (.int m),.sh (.int many),.no] ⟨_,rfl⟩ with⟨r,ρ',e1,e2⟩|⟨ρ',e1,e2,a,rfl⟩
 ·unfold zT
  rw[e1]
  simp[vY,yO,List.replicate,rr,e2,Cd]
 ·unfold zT
  rw[e1]
  simp[vY,yO,List.replicate,rr,e2,Cd]
def ZJ(pr:Nat->Int)(n c:Nat):Int:=(((List.range n).filter λk=>c.testBit k).map pr).sum
theorem Z0K(pr:Nat->Int){n:Nat}(hn:n<=1000)(z:P.Slot):∀cs:List Nat,Bs [0] (dU sW (ą (ē (Đ qC (Ą 0 (Ą 1 č)))) Ĝ)) [.bw ((List.range n).map λk=>PV.int (pr k)),z] (cs.map λ(c:Nat)=>PV.int (c:Int))=some (cs.map (ZJ pr n))
 | []=>rfl
 |c::cs=>by
  have ih:=Z0K pr hn z cs
  have e1:=ZV (λk=>PV.int (pr k)) hn c
  have e2:((List.range n).filter λk=>c.testBit k).map (λk=>PV.int (pr k))=(((List.range n).filter λk=>c.testBit k).map pr).map PV.int:=by simp
  rw[e2] at e1
  rw[List.map_cons,List.map_cons,Bs]
  have e3:(dU sW (ą (ē (Đ qC (Ą 0 (Ą 1 č)))) Ĝ)) (lamP [0] [.bw ((List.range n).map λk=>PV.int (pr k)),z] (.int c))=.ok (.int (ZJ pr n c)) [.bw ((List.range n).map λk=>PV.int (pr k)),.sh (.int c)]:=by
   unfold ZJ
   generalize ((List.range n).filter λk=>c.testBit k).map pr=R at *
   generalize (List.range n).map (λk=>PV.int (pr k))=L at *
   simp[lamP,iR,e1]
  rw[e3]
  dsimp only
  rw[ih]
  rfl
theorem ZK:∀(qs:List PV) (ms:List Int) (p:PV) (k:Int),dM p k qs ms∈p::qs
 | [],_,p,k=>by simp[dM]
 |q::qs,[],p,k=>by simp[dM]
 |q::qs,m::ms,p,k=>by
  unfold dM
  split
  ·have:=ZK qs ms q m
   exact List.mem_cons_of_mem _ this
  ·have:=ZK qs ms p k
   rcases List.mem_cons.mp this with h|h
   ·rw[h];exact List.mem_cons_self
   ·exact List.mem_cons_of_mem _ (List.mem_cons_of_mem _ h)
def Z0D(pr:Nat->Int){n:Nat}(hn:n<=1000){cs:List Nat}(hc:cs≠[]):∃c∈cs,Ig [.bw ((List.range n).map λk=>PV.int (pr k)),.sh (.lst (cs.map λ(c:Nat)=>PV.int (c:Int)))]=.ret (.sh (.int (c:Nat))):=by
 have e:=Z0K pr hn (.sh (.lst (cs.map λ(c:Nat)=>PV.int (c:Int)))) cs
 cases cs with
 |nil=>exact absurd rfl hc
 |cons c0 cs=>
  have hm:=ZK (cs.map λ(c:Nat)=>PV.int (c:Int)) (cs.map (ZJ pr n)) (.int (c0:Int)) (ZJ pr n c0)
  have hp:lN ((c0::cs).map λ(c:Nat)=>PV.int (c:Int)) ((c0::cs).map (ZJ pr n))=some (dM (.int (c0:Int)) (ZJ pr n c0) (cs.map λ(c:Nat)=>PV.int (c:Int)) (cs.map (ZJ pr n))):=rfl
  rw[<-List.map_cons (f:=λ(c:Nat)=>PV.int (c:Int))] at hm
  obtain⟨c,hcm,hce⟩:=List.mem_map.mp hm
  rw[<-hce] at hp
  refine⟨c,hcm,?_⟩
  generalize (c0::cs).map (λ(c:Nat)=>PV.int (c:Int))=CS at *
  generalize (c0::cs).map (ZJ pr n)=KS at *
  generalize (List.range n).map (λk=>PV.int (pr k))=L at *
  simp[Ig,Ed,List.replicate,SX,e,hp]
def ZA{α β:Type}(F:α->β)(d:α)(qs:List α):qs.map F=(List.range qs.length).map λk=>F (qs.getD k d):=by
 refine List.ext_getElem (by simp) λi h1 h2=>?_
 have hi:i<qs.length:=by simpa using h1
 simp[hi]
def Z2r(f:Nat->PV){n:Nat}(hn:0<n):Ě (.lst ((List.range n).map f)) (.int (-1))=some (f (n-1)):=by
 show uM _ _=_
 unfold uM z_
 simp
 rw[if_pos (by omega)]
 have e:(-1+(n:Int)).toNat=n-1:=by omega
 simp[e]
 exact⟨n-1,by rw[List.getElem?_range (by omega)],rfl⟩
def Z1s(pr:Nat->Int)(cov:Nat->Nat){n many:Nat}(hn:n<=9)(hm:many<=1000)(base:Nat):∃v,BJ [.bw ((List.range n).map λk=>PV.int (pr k)),.bw ((List.range n).map λk=>PV.int (cov k:Nat)),.sh (.int many),.sh (.int base)]=.ret (.sh v):=by
 have hp:2 ^ n<=512:=by
  have:=Nat.pow_le_pow_right (show 0<2 by omega) hn
  simpa using this
 have hp0:0<2 ^ n:=Nat.two_pow_pos n
 have rr:=Zw (n:=2 ^ n) (by omega)
 have hl:((List.range n).map λk=>PV.int (pr k)).length=n:=by simp
 have so:su 1 (n:Int)=true:=by simp[su];omega
 have rr':bI [.int (2 ^ n)]=some ((List.range (2 ^ n)).map λ(i:Nat)=>PV.int (i:Int)):=by
  have:((2 ^ n:Nat):Int)=2 ^ n:=by simp
  rw[this] at rr
  exact rr
 have c1:=Œ (g:=gN 3) (mt:=œ) (me:=ē (Đ vY (ď (ē (Đ Bx (Ą 1 (Ą 3 (Ą 2 č))))) (Ą 0 č)))) (λ(c:Nat)=>PV.int (c:Int)) (λc=>Cd (zT (Zk cov n c base) many)) (λρ=>∃a,ρ=[.sh (.int many),.bw ((List.range n).map λk=>PV.int (cov k:Nat)),.sh (.int base),a]) (List.range (2 ^ n)) [.sh (.int many),.bw ((List.range n).map λk=>PV.int (cov k:Nat)),.sh (.int base),.no] [] ⟨_,rfl⟩ (by simp;omega) (by
  rintro c _ ρ ⟨a,rfl⟩
  have e1:=Z1V cov (show n<=1000 by omega) c base
  have e2:=Z1r (Zk cov n c base) hm
  generalize (List.range n).map (λk=>PV.int (cov k:Nat))=L at *
  exact⟨[.sh (.int many),.bw L,.sh (.int base),.sh (.int c)],[.sh (.int many),.bw L,.sh (.int base),.sh (.int c)],[.sh (.int many),.bw L,.sh (.int base),.sh (.int c)],by simp,by simp,by simp[e1,e2],_,rfl⟩)
 rw[List.nil_append] at c1
 have il:=Z2r (λc=>Cd (zT (Zk cov n c base) many)) hp0
 cases hq:zT (Zk cov n (2 ^ n-1) base) many with
 |some k=>
  rw[hq] at il
  generalize (List.range (2 ^ n)).map (λc=>Cd (zT (Zk cov n c base) many))=PA at *
  generalize (List.range n).map (λk=>PV.int (cov k:Nat))=L at *
  generalize (List.range n).map (λk=>PV.int (pr k))=PR at *
  refine⟨.tup [.str "none",.int k],?_⟩
  simp[BJ,yP,List.replicate,ni,iR,hl,so,rr',c1,il,Cd,Am]
 |none=>
  rw[hq] at il
  have c2:=eO (g:=gT 2 (Ğ (gN 0) (Ğ (gN 1) Ť))) (mt:=gW (ĉ xg (ā 1) (mC .non))) (me:=ĝ 0) (λ(c:Nat)=>PV.tup [.int c,Cd (zT (Zk cov n c base) many)]) (λ(c:Nat)=>PV.int (c:Int)) (λc=>(zT (Zk cov n c base) many).isNone) (λρ=>∃a b,ρ=[a,b]) (List.range (2 ^ n)) [.no,.no] [] ⟨_,_,rfl⟩ (by simp;omega) (by
   rintro c _ ρ ⟨a,b,rfl⟩
   refine⟨[.sh (.int c),.sh (Cd (zT (Zk cov n c base) many))],[.sh (.int c),.sh (Cd (zT (Zk cov n c base) many))],by simp,?_,λ_=>⟨_,_,rfl⟩,λ_=>⟨[.sh (.int c),.sh (Cd (zT (Zk cov n c base) many))],by simp,_,_,rfl⟩⟩
   cases zT (Zk cov n c base) many with
   |none=>simp[Cd,Am]
   |some k=>simp[Cd,Am])
  rw[List.nil_append] at c2
  have en:=Z0Y (λc=>Cd (zT (Zk cov n c base) many)) (2 ^ n)
  obtain⟨c,_,c3⟩:=Z0D pr (show n<=1000 by omega) (cs:=(List.range (2 ^ n)).filter λc=>(zT (Zk cov n c base) many).isNone) (List.ne_nil_of_mem (List.mem_filter.mpr ⟨List.mem_range.mpr (show 2 ^ n-1<2 ^ n by omega),by rw[hq];rfl⟩))
  have c4:=ZV (λk=>PV.int (pr k)) (show n<=1000 by omega) c
  have e2:((List.range n).filter λk=>c.testBit k).map (λk=>PV.int (pr k))=(((List.range n).filter λk=>c.testBit k).map pr).map PV.int:=by simp
  rw[e2] at c4
  generalize ((List.range n).filter λk=>c.testBit k).map pr=R at *
  generalize ((List.range (2 ^ n)).filter λc=>(zT (Zk cov n c base) many).isNone).map (λ(c:Nat)=>PV.int (c:Int))=CS at *
  generalize (List.range (2 ^ n)).map (λ(c:Nat)=>PV.tup [.int c,Cd (zT (Zk cov n c base) many)])=ES at *
  generalize (List.range (2 ^ n)).map (λc=>Cd (zT (Zk cov n c base) many))=PA at *
  generalize (List.range n).map (λk=>PV.int (cov k:Nat))=L at *
  generalize (List.range n).map (λk=>PV.int (pr k))=PR at *
  refine⟨.tup [.str "choice",.int c,.int R.sum,.lst PA],?_⟩
  simp[BJ,yP,List.replicate,ni,iR,hl,so,rr',c1,il,Cd,Am,en,c2,c3,c4]
def Jb(D:List Dy)(q:Wt):Option P3:=(D.getD q.2.2.1.toNat default).2.2.getD q.2.2.2.toNat none
def Qs(D:List Dy)(t:Th)(q:Wt):Bool:=match Jb D q with
 |none=>false
 |some r=>shB t.1 t.2 (q.1,q.2.1) r
def TJ(T:List Th)(D:List Dy)(q:Wt):Bool:=match Jb D q with
 |none=>true
 |some r=>T.any λt=>shB t.1 t.2 (q.1,q.2.1) r
def Z2s{w h:Nat}(hw:0<w){q:Wt}(hs:Ze w h q):∃k,k<w*h/\((q.1,q.2.1):Hu.Pt)=uG w k:=by
 obtain⟨⟨b1,b2⟩,b3,b4⟩:=hs
 obtain⟨a,ha⟩:∃a:Nat,q.1=(a:Int):=⟨q.1.toNat,by omega⟩
 obtain⟨b,hb⟩:∃b:Nat,q.2.1=(b:Int):=⟨q.2.1.toNat,by omega⟩
 rw[ha] at b1 b2 ⊢
 rw[hb] at b3 b4 ⊢
 have ha':a<w:=by omega
 have hb':b<h:=by omega
 refine⟨a+w*b,?_,?_⟩
 ·have:w*(b+1)<=w*h:=Nat.mul_le_mul_left w (by omega)
  rw[Nat.mul_add] at this
  omega
 ·have e1:(a+w*b) % w=a:=by rw[Nat.add_mul_mod_self_left,Nat.mod_eq_of_lt ha']
  have e2:(a+w*b) / w=b:=by rw[Nat.add_mul_div_left _ _ hw,Nat.div_eq_of_lt ha',Nat.zero_add]
  unfold uG
  rw[e1,e2]
def Z0L{w h:Nat}{T:List Th}{D:List Dy}{lg:Nat}(hD:∀d∈D,Zs lg d){q:Wt}(hq:Zj D q):∃TV:List PV,oJ [.sh (Z0 w h T D),.sh (.int q.2.2.1)]=.ret (.sh (.lst TV))/\Ě (.lst TV) (.int q.2.2.2)=some (lU (Jb D q))/\RB' (Jb D q):=by
 obtain⟨⟨a1,a2⟩,a3,a4⟩:=hq
 obtain⟨i,hi⟩:∃i:Nat,q.2.2.1=(i:Int):=⟨q.2.2.1.toNat,by omega⟩
 obtain⟨j,hj⟩:∃j:Nat,q.2.2.2=(j:Int):=⟨q.2.2.2.toNat,by omega⟩
 have hil:i<D.length:=by omega
 have hg:D.getD q.2.2.1.toNat default=D[i]:=by rw[hi];simp[hil]
 rw[hg] at a4
 have hjl:j<D[i].2.2.length:=by omega
 have ho:Jb D q=D[i].2.2[j]:=by
  unfold Jb
  rw[hg,hj]
  simp[hjl]
 refine⟨D[i].2.2.map lU,by rw[hi];exact ZG hil,?_,?_⟩
 ·rw[ho,hj]
  simp[hjl]
 ·rw[ho]
  exact(hD D[i] (List.getElem_mem hil)).2.2 _ (List.getElem_mem hjl)
def Z1W{w h:Nat}{T:List Th}(Y:YOk w h T){D:List Dy}{t:Th}(hg:Z5 t.1 t.2=true){q:Wt}(hs:Ze w h q)(ho:RB' (Jb D q)):wz [.sh (gJ t),.sh (.tup [.int q.1,.int q.2.1]),.sh (lU (Jb D q))]=.ret (.sh (.bl (Qs D t q))):=by
 unfold Qs
 have hb:PB (Ci ((q.1,q.2.1):Hu.Pt)):=by
  have w1:=Y.w1
  have h1:=Y.h1
  obtain⟨⟨b1,b2⟩,b3,b4⟩:=hs
  unfold PB Ci
  dsimp only
  omega
 cases e:Jb D q with
 |none=>
  generalize gJ t=V at *
  simp[wz,zf,List.replicate,lU,Am]
 |some r=>
  rw[e] at ho
  have hsh:=Z0e hg ho.1 hb
  have e1:pt ((q.1,q.2.1):Hu.Pt)=.tup [.int q.1,.int q.2.1]:=rfl
  rw[e1] at hsh
  have e2:lU (some r)=c3 r:=rfl
  rw[e2]
  have hsh':qK [.sh (gJ t),.sh (.tup [.int q.1,.int q.2.1]),.sh (c3 r)]=.ret (.sh (.bl (shB t.1 t.2 (q.1,q.2.1) r))):=hsh
  have hn:Am (c3 r)=false:=rfl
  generalize gJ t=V at *
  generalize PV.tup [.int q.1,.int q.2.1]=Q at *
  generalize c3 r=R at *
  simp[wz,zf,List.replicate,hsh',hn]
def Z11{w h:Nat}{T:List Th}(Y:YOk w h T){D:List Dy}{q:Wt}(hs:Ze w h q)(ho:RB' (Jb D q)):mL [.sh (Z0 w h T D),.sh (lU (Jb D q)),.sh (.tup [.int q.1,.int q.2.1])]=.ret (.sh (.bl (TJ T D q))):=by
 obtain⟨k,hk,e⟩:=Z2s Y.w0 hs
 have h1:=Z1l Y D ho (k:=k) (by have:=Y.wh;omega)
 rw[<-e] at h1
 have e1:pt ((q.1,q.2.1):Hu.Pt)=.tup [.int q.1,.int q.2.1]:=rfl
 rw[e1] at h1
 rw[h1]
 unfold TJ
 cases Jb D q with
 |none=>rfl
 |some r=>unfold dkp JZ;dsimp only;rw[<-e]
def Z2N{w h:Nat}{T:List Th}(Y:YOk w h T){lg:Nat}{D:List Dy}(hD:∀d∈D,Zs lg d){t:Th}(hg:Z5 t.1 t.2=true){qs:List Wt}(hl:qs.length<=1000)(hq:∀q∈qs,Ze w h q/\Zj D q) :
 BX [.sh (Z0 w h T D),.sh (gJ t),.bw (qs.map aC)]=.ret (.sh (.int (Z6 qs.length (λk=>Qs D t (qs.getD k default)):Nat))):=by
 have c1:=Œ (g:=gT 3 (Ğ (gN 2) (Ğ (gN 3) (Ğ (gN 4) Ť)))) (mt:=œ) (me:=ē (Đ wz (Ą 0 (Ą 2 (ď (ĉ Ě (ē (Đ oJ (Ą 1 (Ą 3 č)))) (ā 4)) č))))) aC (λq=>PV.bl (Qs D t q)) (λρ=>∃a b c,ρ=[.sh (gJ t),.sh (Z0 w h T D),a,b,c]) qs [.sh (gJ t),.sh (Z0 w h T D),.no,.no,.no] [] ⟨_,_,_,rfl⟩ (by simp;omega) (by
  rintro q hm ρ ⟨a,b,c,rfl⟩
  obtain⟨hs,ht⟩:=hq q hm
  obtain⟨TV,e1,e2,e3⟩:=Z0L (w:=w) (h:=h) (T:=T) hD ht
  have e4:=Z1W Y hg hs e3
  generalize Z0 w h T D=Yv at *
  generalize gJ t=V at *
  generalize lU (Jb D q)=O at *
  exact⟨[.sh V,.sh Yv,.sh (.tup [.int q.1,.int q.2.1]),.sh (.int q.2.2.1),.sh (.int q.2.2.2)],[.sh V,.sh Yv,.sh (.tup [.int q.1,.int q.2.1]),.sh (.int q.2.2.1),.sh (.int q.2.2.2)],[.sh V,.sh Yv,.sh (.tup [.int q.1,.int q.2.1]),.sh (.int q.2.2.1),.sh (.int q.2.2.2)],by simp[aC],by simp,by simp[e1,e2,e4,-Ms],_,_,_,rfl⟩)
 rw[List.nil_append,ZA (λq=>PV.bl (Qs D t q)) default qs] at c1
 have e:=Z1q (λk=>Qs D t (qs.getD k default)) hl
 generalize (List.range qs.length).map (λk=>PV.bl (Qs D t (qs.getD k default)))=B at *
 generalize Z0 w h T D=Yv at *
 generalize gJ t=V at *
 generalize qs.map aC=QS at *
 simp[BX,Fo,List.replicate,ni,iR,c1,e]
def Z2O{w h:Nat}{T:List Th}(Y:YOk w h T){lg:Nat}{D:List Dy}(hD:∀d∈D,Zs lg d){qs:List Wt}(hl:qs.length<=1000)(hq:∀q∈qs,Ze w h q/\Zj D q) :
 Iv [.sh (Z0 w h T D),.bw (qs.map aC)]=.ret (.sh (.int (Z6 qs.length (λk=>TJ T D (qs.getD k default)):Nat))):=by
 have c1:=Œ (g:=gT 3 (Ğ (gN 1) (Ğ (gN 2) (Ğ (gN 3) Ť)))) (mt:=œ) (me:=ē (Đ mL (Ą 0 (ď (ĉ Ě (ē (Đ oJ (Ą 0 (Ą 2 č)))) (ā 3)) (Ą 1 č))))) aC (λq=>PV.bl (TJ T D q)) (λρ=>∃a b c,ρ=[.sh (Z0 w h T D),a,b,c]) qs [.sh (Z0 w h T D),.no,.no,.no] [] ⟨_,_,_,rfl⟩ (by simp;omega) (by
  rintro q hm ρ ⟨a,b,c,rfl⟩
  obtain⟨hs,ht⟩:=hq q hm
  obtain⟨TV,e1,e2,e3⟩:=Z0L (w:=w) (h:=h) (T:=T) hD ht
  have e4:=Z11 Y hs e3
  generalize Z0 w h T D=Yv at *
  generalize lU (Jb D q)=O at *
  exact⟨[.sh Yv,.sh (.tup [.int q.1,.int q.2.1]),.sh (.int q.2.2.1),.sh (.int q.2.2.2)],[.sh Yv,.sh (.tup [.int q.1,.int q.2.1]),.sh (.int q.2.2.1),.sh (.int q.2.2.2)],[.sh Yv,.sh (.tup [.int q.1,.int q.2.1]),.sh (.int q.2.2.1),.sh (.int q.2.2.2)],by simp[aC],by simp,by simp[e1,e2,e4,-Ms],_,_,_,rfl⟩)
 rw[List.nil_append,ZA (λq=>PV.bl (TJ T D q)) default qs] at c1
 have e:=Z1q (λk=>TJ T D (qs.getD k default)) hl
 generalize (List.range qs.length).map (λk=>PV.bl (TJ T D (qs.getD k default)))=B at *
 generalize Z0 w h T D=Yv at *
 generalize qs.map aC=QS at *
 simp[Iv,Fp,List.replicate,ni,iR,c1,e]
def zQ(t:Th):PV:=.tup [gJ t,.int 5]
def Z1t{w h:Nat}{T:List Th}(Y:YOk w h T){lg:Nat}{D:List Dy}(hD:∀d∈D,Zs lg d){O:List Th}(hO:O.length<=9)(hOg:∀t∈O,Z5 t.1 t.2=true){qs:List Wt}(hl:qs.length<=1000)(hq:∀q∈qs,Ze w h q/\Zj D q) :
 ∃v,qL [.sh (Z0 w h T D),.bw (O.map zQ),.bw (qs.map aC)]=.ret (.sh v):=by
 have k1:=Z1T (T:=T) hq
 have c1:=Œ (g:=gT 2 (Ğ (gN 0) (Ğ (gN 1) Ť))) (mt:=œ) (me:=ĝ 1) zQ (λ_=>PV.int 5) (λρ=>∃a b,ρ=[a,b]) O [.no,.no] [] ⟨_,_,rfl⟩ (by simp;omega) (by
  rintro t _ ρ ⟨a,b,rfl⟩
  exact⟨[.sh (gJ t),.sh (.int 5)],[.sh (gJ t),.sh (.int 5)],[.sh (gJ t),.sh (.int 5)],by simp[zQ],by simp,by simp,_,_,rfl⟩)
 have c2:=Œ (g:=gT 2 (Ğ (gN 2) (Ğ (gN 3) Ť))) (mt:=œ) (me:=ē (Đ BX (Ą 0 (Ą 2 (Ą 1 č))))) zQ (λt=>PV.int (Z6 qs.length (λk=>Qs D t (qs.getD k default)):Nat)) (λρ=>∃a b,ρ=[.sh (Z0 w h T D),.bw (qs.map aC),a,b]) O [.sh (Z0 w h T D),.bw (qs.map aC),.no,.no] [] ⟨_,_,rfl⟩ (by simp;omega) (by
  rintro t ht ρ ⟨a,b,rfl⟩
  have e:=Z2N Y hD (hOg t ht) hl hq
  generalize Z0 w h T D=Yv at *
  generalize qs.map aC=QS at *
  exact⟨[.sh Yv,.bw QS,.sh (gJ t),.sh (.int 5)],[.sh Yv,.bw QS,.sh (gJ t),.sh (.int 5)],[.sh Yv,.bw QS,.sh (gJ t),.sh (.int 5)],by simp[zQ],by simp,by simp[e],_,_,rfl⟩)
 have k2:=Z2O Y hD hl hq
 rw[List.nil_append,ZA (λ_=>PV.int 5) default O] at c1
 rw[List.nil_append,ZA (λt=>PV.int ((Z6 qs.length (λk=>Qs D t (qs.getD k default)):Nat):Int)) default O] at c2
 obtain⟨v,k3⟩:=Z1s (λ_=>5) (λk=>Z6 qs.length (λj=>Qs D (O.getD k default) (qs.getD j default))) (n:=O.length) (many:=qs.length) hO hl (Z6 qs.length (λk=>TJ T D (qs.getD k default)))
 have hlq:((qs.map aC).length:Int)=(qs.length:Int):=by simp
 refine⟨v,?_⟩
 generalize (List.range O.length).map (λk=>PV.int ((Z6 qs.length (λj=>Qs D (O.getD k default) (qs.getD j default)):Nat):Int))=CV at *
 generalize (List.range O.length).map (λ_=>PV.int 5)=PR at *
 generalize Z6 qs.length (λk=>TJ T D (qs.getD k default))=B0 at *
 generalize Z0 w h T D=Yv at *
 generalize qs.map aC=QS at *
 generalize O.map zQ=OS at *
 simp[qL,zm,List.replicate,ni,iR,k1,c1,c2,k2,k3,hlq]
def Z1X{w h:Nat}{T:List Th}{D:List Dy}(OS:List PV){qs r:List Wt}{q:Wt}{X:PX}(hX:(¬Ze w h q/\X=xSt q.1 q.2.1)\/(Ze w h q/\¬Zj D q/\X=TF q.2.2.1 q.2.2.2))(hq:∀q∈qs,Ze w h q/\Zj D q):qL [.sh (Z0 w h T D),.bw OS,.bw ((qs++q::r).map aC)]=.exc X:=by
 have k1:=Z2q (T:=T) (r:=r) hX hq
 generalize Z0 w h T D=Yv at *
 generalize (qs++q::r).map aC=QS at *
 simp[qL,zm,List.replicate,k1]
def xV(x:PX):PV:=.xc x.C x.ns x.ps
def Z2t{Yv:PV}{OS QS:List PV}{v:PV}(h:qL [.sh Yv,.bw OS,.bw QS]=.ret (.sh v)):kO [.sh Yv,.bw OS,.bw QS]=.ret (.sh .non):=by
 simp[kO,zp,List.replicate,h]
def Z2P{Yv:PV}{OS QS:List PV}{x:PX}(h:qL [.sh Yv,.bw OS,.bw QS]=.exc x)(hc:x.C= "NoStone" \/x.C= "NoTurn"):kO [.sh Yv,.bw OS,.bw QS]=.ret (.sh (xV x)):=by
 have hy:x.C∈(["YardError","NoNumber","BadThing","NoStone","NoTurn","BadRow","NoRow","NoDay"]:List String):=by
  rcases hc with hc|hc<;>rw[hc]<;>decide
 generalize hL:(["YardError","NoNumber","BadThing","NoStone","NoTurn","BadRow","NoRow","NoDay"]:List String)=L at *
 simp[kO,zp,List.replicate,h,hL,hy,xV]
def Zo:z_ 2 0=some 0:=rfl
def Zp:z_ 2 1=some 1:=rfl
def Z1Y{w h:Nat}(hw:0<w)(hh:0<h){lg:Nat}{D:List Dy}(hD:∀d∈D,Zs lg d)(hl:0<D.length)(c:Int):∃q:Wt,Ea [.sh (.int c),.sh (.tup [.int w,.int h]),.bw (D.map cu)]=.ret (.sh (aC q))/\Ze w h q/\Zj D q:=by
 obtain⟨xs,eg,hx,_⟩:=ZR c (n:=4) (by omega)
 obtain⟨a0,x0⟩:∃a,(xs.map PV.int)[0]?=some (.int a):=⟨xs[0],by simp⟩
 obtain⟨a1,x1⟩:∃a,(xs.map PV.int)[1]?=some (.int a):=⟨xs[1],by simp⟩
 obtain⟨a2,x2⟩:∃a,(xs.map PV.int)[2]?=some (.int a):=⟨xs[2],by simp⟩
 obtain⟨a3,x3⟩:∃a,(xs.map PV.int)[3]?=some (.int a):=⟨xs[3],by simp⟩
 have f1:∀(b:Int) {n:Nat},0<n->b.fmod (n:Int)=b % n/\0<=b % (n:Int)/\b % (n:Int)<n:=λb n hn=>⟨Int.fmod_eq_emod_of_nonneg _ (by omega),Int.emod_nonneg _ (by omega),Int.emod_lt_of_pos _ (by omega)⟩
 obtain⟨g1,g2,g3⟩:=f1 a0 hl
 obtain⟨i,hi⟩:∃i:Nat,a0 % (D.length:Int)=(i:Int):=⟨(a0 % (D.length:Int)).toNat,by omega⟩
 have hil:i<D.length:=by omega
 have hdk:=hD D[i] (List.getElem_mem hil)
 have hlen:=hdk.2.1.1
 obtain⟨w1,w2,w3⟩:=f1 a1 hw
 obtain⟨h1,h2,h3⟩:=f1 a2 hh
 obtain⟨t1,t2,t3⟩:=f1 a3 (show 0<D[i].2.2.length by omega)
 refine⟨(a1 % w,a2 % h,i,a3 % D[i].2.2.length),?_,⟨⟨w2,w3⟩,h2,h3⟩,⟨⟨by dsimp only;omega,by dsimp only;omega⟩,t2,?_⟩⟩
 ·have hdl:(D.map cu).length=D.length:=by simp
  have hdx:(D.map cu)[i]?=some (.tup [.str D[i].1,.int D[i].2.1,.lst (D[i].2.2.map lU)]):=by simp[hil,cu]
  have htl:(D[i].2.2.map lU).length=D[i].2.2.length:=by simp
  have z1:¬w=0:=by omega
  have z2:¬h=0:=by omega
  have z3:¬D.length=0:=by omega
  have z4:¬D[i].2.2.length=0:=by omega
  have eg':oE [.sh (.int c),.sh (.int 4)]=.ret (.ow (xs.map .int)):=eg
  rw[<-hdl] at g1 z3 hi
  rw[<-htl] at t1 z4 ⊢
  generalize D[i].2.2.map lU=TV at *
  generalize D.map cu=DV at *
  generalize xs.map PV.int=XS at *
  simp[Ea,Oo,List.replicate,eg',x0,x1,x2,x3,g1,hi,hdx,z1,z2,z3,z4,w1,h1,t1,aC,Zo,Zp]
 ·have hg:D.getD ((i:Int)).toNat default=D[i]:=by simp[hil]
  dsimp only
  rw[hg]
  exact t3
def Z30(c:Int){w h:Nat}(a b:Int):∃x y:Int,ud [.sh (.int c),.sh (.tup [.int w,.int h]),.sh (.tup [.int a,.int b])]=.ret (.sh (.tup [.int x,.int y]))/\¬((0<=x/\x<w)/\(0<=y/\y<h)):=by
 have i1:c % 2=0\/c % 2=1:=by omega
 have i2:c / 4 % 3 / 2=0\/c / 4 % 3 / 2=1:=by omega
 have i3:c / 2 % 2=0\/c / 2 % 2=1:=by omega
 have hp:rZ 10 9=true:=by decide
 obtain⟨F,hF,hF0⟩:∃F:Int,(if 999999970<c / 12 % 1000000000 then(999999970:Int) else c / 12 % 1000000000)=F/\0<=F:=⟨_,rfl,by split<;>omega⟩
 rcases i1 with i1|i1
 ·rcases i2 with i2|i2
  ·rcases i3 with i3|i3
   ·refine⟨w,b,?_,by omega⟩
    simp[ud,mO,List.replicate,i1,i2,i3,hp,Zo,Zp]
   ·refine⟨-1,b,?_,by omega⟩
    simp[ud,mO,List.replicate,i1,i2,i3,hp,Zo,Zp]
  ·rcases i3 with i3|i3
   ·refine⟨w+F,b,?_,by omega⟩
    simp[ud,mO,List.replicate,i1,i2,i3,hp,Zo,Zp,hF]
   ·refine⟨-1-F,b,?_,by omega⟩
    simp[ud,mO,List.replicate,i1,i2,i3,hp,Zo,Zp,hF]
 ·rcases i2 with i2|i2
  ·rcases i3 with i3|i3
   ·refine⟨a,h,?_,by omega⟩
    simp[ud,mO,List.replicate,i1,i2,i3,hp,Zo,Zp]
   ·refine⟨a,-1,?_,by omega⟩
    simp[ud,mO,List.replicate,i1,i2,i3,hp,Zo,Zp]
  ·rcases i3 with i3|i3
   ·refine⟨a,h+F,?_,by omega⟩
    simp[ud,mO,List.replicate,i1,i2,i3,hp,Zo,Zp,hF]
   ·refine⟨a,-1-F,?_,by omega⟩
    simp[ud,mO,List.replicate,i1,i2,i3,hp,Zo,Zp,hF]
def Z0M(c:Int)(n:Nat):∃d:Int,oM [.sh (.int c),.sh (.int n)]=.ret (.sh (.int d))/\¬(0<=d/\d<n):=by
 have i1:c % 2=0\/c % 2=1:=by omega
 have i2:c / 3 % 2=0\/c / 3 % 2=1:=by omega
 have hp:rZ 10 12=true:=by decide
 have f0:0<=c / 2 % 1000000000000:=by omega
 rcases i1 with i1|i1
 ·rcases i2 with i2|i2
  ·exact⟨n,by simp[oM,pX,List.replicate,i1,i2,hp,Zo,Zp],by omega⟩
  ·exact⟨n+c / 2 % 1000000000000,by simp[oM,pX,List.replicate,i1,i2,hp,Zo,Zp],by omega⟩
 ·rcases i2 with i2|i2
  ·exact⟨-1,by simp[oM,pX,List.replicate,i1,i2,hp,Zo,Zp],by omega⟩
  ·exact⟨-1-c / 2 % 1000000000000,by simp[oM,pX,List.replicate,i1,i2,hp,Zo,Zp],by omega⟩
def Z12(w h:Nat)(D:List Dy)(q:Wt)(X:PX):Prop:=(¬Ze w h q/\X=xSt q.1 q.2.1)\/(Ze w h q/\¬Zj D q/\X=TF q.2.2.1 q.2.2.2)
def Z2Q{w h:Nat}{D:List Dy}(c:Int){q:Wt}(hs:Ze w h q)(ht:Zj D q):∃(q':Wt) (X:PX),uf [.sh (.int c),.sh (aC q),.sh (.tup [.int w,.int h]),.bw (D.map cu)]=.ret (.sh (aC q'))/\Z12 w h D q' X:=by
 obtain⟨x,y,e1,n1⟩:=Z30 (c / 4) (w:=w) (h:=h) q.1 q.2.1
 obtain⟨d,e2,n2⟩:=Z0M (c / 4 / 48) D.length
 obtain⟨t,e3,n3⟩:=Z0M (c / 4) (D.getD q.2.2.1.toNat default).2.2.length
 have hk:c % 4=0\/c % 4=1\/c % 4=2\/c % 4=3:=by omega
 have hdl:(D.map cu).length=D.length:=by simp
 have e2':oM [.sh (.int (c / 4 / 48)),.sh (.int ((D.map cu).length:Int))]=.ret (.sh (.int d)):=by rw[hdl];exact e2
 rcases hk with hk|hk|hk|hk
 ·refine⟨(x,y,q.2.2.1,q.2.2.2),_,?_,.inl ⟨n1,rfl⟩⟩
  generalize D.map cu=DV at *
  simp[uf,pY,List.replicate,aC,hk,e1]
 ·refine⟨(q.1,q.2.1,d,q.2.2.2),_,?_,.inr ⟨hs,λz=>n2 z.1,rfl⟩⟩
  generalize D.map cu=DV at *
  simp[uf,pY,List.replicate,aC,hk,e2']
 ·refine⟨(q.1,q.2.1,q.2.2.1,t),_,?_,.inr ⟨hs,λz=>n3 z.2,rfl⟩⟩
  obtain⟨⟨a1,a2⟩,_,_⟩:=ht
  obtain⟨i,hi⟩:∃i:Nat,q.2.2.1=(i:Int):=⟨q.2.2.1.toNat,by omega⟩
  have hil:i<D.length:=by omega
  have hg:D.getD q.2.2.1.toNat default=D[i]:=by rw[hi];simp[hil]
  rw[hg] at e3
  have hdx:(D.map cu)[i]?=some (.tup [.str D[i].1,.int D[i].2.1,.lst (D[i].2.2.map lU)]):=by simp[hil,cu]
  have htl:(D[i].2.2.map lU).length=D[i].2.2.length:=by simp
  rw[<-htl] at e3
  generalize D[i].2.2.map lU=TV at *
  generalize D.map cu=DV at *
  simp[uf,pY,List.replicate,aC,hk,hi,hdx,e3]
 ·refine⟨(x,y,d,q.2.2.2),_,?_,.inl ⟨n1,rfl⟩⟩
  generalize D.map cu=DV at *
  simp[uf,pY,List.replicate,aC,hk,e1,e2']
def isx{C D:String}{ns:List Str}{ps:List PV}:dX Za Zh Zm Zn [.xc C ns ps,.cls D]=(Za.lookup (C,D)).map .bl:=rfl
def isv{C D:String}{ns:List Str}{ps:List PV}:dX Za Zh Zm Zn [.xc C ns ps,.ty D]=(Zh.lookup (C,D)).map .bl:=rfl
def a1:Za.lookup ("NoStone","NoStone")=some true:=by decide +kernel
def a2:Zh.lookup ("NoStone","ValueError")=some true:=by decide +kernel
def a3:Za.lookup ("NoStone","NoTurn")=some false:=by decide +kernel
def a5:Za.lookup ("NoTurn","NoTurn")=some true:=by decide +kernel
def a6:Zh.lookup ("NoTurn","ValueError")=some true:=by decide +kernel
def a7:Za.lookup ("NoTurn","NoStone")=some false:=by decide +kernel
def z1:qU Za "NoStone" [.cls "BadRow",.cls "BadThing",.cls "NoDay",.cls "NoNumber",.cls "NoRow"]=some false:=by decide +kernel
def z2:qU Za "NoTurn" [.cls "BadRow",.cls "BadThing",.cls "NoDay",.cls "NoNumber",.cls "NoRow"]=some false:=by decide +kernel
def Z2u{w h:Nat}{D:List Dy}{q:Wt}{X:PX}(hb:Z12 w h D q X):kW [.sh (xV X),.sh (aC q),.sh (.tup [.int w,.int h])]=.ret (.sh (.bl true)):=by
 rcases hb with⟨hs,rfl⟩|⟨hs,ht,rfl⟩
 ·have h1:Br Za Zh Zm Zn [.xc "NoStone" ["stone"] [.tup [.int q.1,.int q.2.1]],.tup [.cls "BadRow",.cls "BadThing",.cls "NoDay",.cls "NoNumber",.cls "NoRow"]]=some (.bl false):=by
   show(qU Za "NoStone" [.cls "BadRow",.cls "BadThing",.cls "NoDay",.cls "NoNumber",.cls "NoRow"]).map PV.bl=_
   rw[z1];rfl
  have h2:kh ["NoStone"] "stone" (.xc "NoStone" ["stone"] [.tup [.int q.1,.int q.2.1]])=some (.tup [.int q.1,.int q.2.1]):=by
   simp[kh,List.lookup]
  have h4:aA (.tup [.int q.1,.int q.2.1]) (.tup [.int q.1,.int q.2.1])=some (.bl true):=JK (by simp[cA,fV]) (by simp[dep,Al])
  have h5:dX Za Zh Zm Zn [.xc "NoStone" ["stone"] [.tup [.int q.1,.int q.2.1]],.cls "NoStone"]=some (.bl true):=by rw[isx,a1];rfl
  have h6:dX Za Zh Zm Zn [.xc "NoStone" ["stone"] [.tup [.int q.1,.int q.2.1]],.ty "ValueError"]=some (.bl true):=by rw[isv,a2];rfl
  have h7:dX Za Zh Zm Zn [.xc "NoStone" ["stone"] [.tup [.int q.1,.int q.2.1]],.cls "NoTurn"]=some (.bl false):=by rw[isx,a3];rfl
  show kW [.sh (.xc "NoStone" ["stone"] [.tup [.int q.1,.int q.2.1]]),.sh (aC q),_]=_
  generalize PV.xc "NoStone" ["stone"] [.tup [.int q.1,.int q.2.1]]=Xv at *
  have hs':¬((0<=q.1/\q.1<w)/\(0<=q.2.1/\q.2.1<h)):=hs
  by_cases b1:0<=q.1
  ·by_cases b2:q.1<(w:Int)
   ·by_cases b3:0<=q.2.1
    ·have b4:¬q.2.1<(h:Int):=λb4=>hs' ⟨⟨b1,b2⟩,b3,b4⟩
     simp[kW,nF,List.replicate,aC,h1,h2,h4,h5,h6,h7,b1,b2,b3,b4]
    ·simp[kW,nF,List.replicate,aC,h1,h2,h4,h5,h6,h7,b1,b2,b3]
   ·simp[kW,nF,List.replicate,aC,h1,h2,h4,h5,h6,h7,b1,b2]
  ·simp[kW,nF,List.replicate,aC,h1,h2,h4,h5,h6,h7,b1]
 ·have h1:Br Za Zh Zm Zn [.xc "NoTurn" ["day","turn"] [.int q.2.2.1,.int q.2.2.2],.tup [.cls "BadRow",.cls "BadThing",.cls "NoDay",.cls "NoNumber",.cls "NoRow"]]=some (.bl false):=by
   show(qU Za "NoTurn" [.cls "BadRow",.cls "BadThing",.cls "NoDay",.cls "NoNumber",.cls "NoRow"]).map PV.bl=_
   rw[z2];rfl
  have h2:kh ["NoTurn"] "day" (.xc "NoTurn" ["day","turn"] [.int q.2.2.1,.int q.2.2.2])=some (.int q.2.2.1):=by
   simp[kh,List.lookup]
  have h3:kh ["NoTurn"] "turn" (.xc "NoTurn" ["day","turn"] [.int q.2.2.1,.int q.2.2.2])=some (.int q.2.2.2):=by
   simp[kh,List.lookup,Z10]
  have h5:dX Za Zh Zm Zn [.xc "NoTurn" ["day","turn"] [.int q.2.2.1,.int q.2.2.2],.cls "NoTurn"]=some (.bl true):=by rw[isx,a5];rfl
  have h6:dX Za Zh Zm Zn [.xc "NoTurn" ["day","turn"] [.int q.2.2.1,.int q.2.2.2],.ty "ValueError"]=some (.bl true):=by rw[isv,a6];rfl
  have h7:dX Za Zh Zm Zn [.xc "NoTurn" ["day","turn"] [.int q.2.2.1,.int q.2.2.2],.cls "NoStone"]=some (.bl false):=by rw[isx,a7];rfl
  show kW [.sh (.xc "NoTurn" ["day","turn"] [.int q.2.2.1,.int q.2.2.2]),.sh (aC q),_]=_
  generalize PV.xc "NoTurn" ["day","turn"] [.int q.2.2.1,.int q.2.2.2]=Xv at *
  obtain⟨⟨b1,b2⟩,b3,b4⟩:=hs
  simp[kW,nF,List.replicate,aC,h1,h2,h3,h5,h6,h7,b1,b2,b3,b4]
def Z27:M Fl:=(ġ (gM (gY (eE (ē (Đ kW (ď (ē (Đ kO (Ą 5 (Ą 6 (Ą 8 č))))) (ď (ĉ Ě (ā 8) (dU nZ (ą (ā 9) Ĝ))) (Ą 1 č))))))) (İ (ş (mC (.bl false)))) ig) (İ (ş (ĉ xg (ē (Đ kO (Ą 5 (Ą 6 (Ą 7 č))))) (mC .non)))))
def Z0A:M Fl:=(ġ (gM (gW (ĉ iY (ē (Đ kO (Ą 5 (Ą 6 (Ą 7 č))))) (mC .non))) (İ (ş (mC (.bl false)))) ig) (ġ (Ķ 8 (pG fK (ą (ā 7) Ĝ))) (ġ (Ķ 9 (bU (ą (ĉ Ń (ē (Đ ao (Ą 0 (ď (mC (.int 12)) č)))) (dU fW (ą (ā 7) Ĝ))) (ą (ĉ Ń (ē (Đ ao (Ą 0 (ď (mC (.int 13)) č)))) (dU fW (ą (ā 7) Ĝ))) Ĝ)))) (ġ (iu (bG bI (ą (mC (.int 2)) Ĝ)) (gN 10) pZ) Z27))))
def Z33:Fq=(ġ (Ķ 1 (Đ kE (ď (ē (Đ ao (Ą 0 (ď (mC (.int 0)) č)))) (ď (mC (.int 9)) č)))) (ġ (Ķ 2 (Š [1] 1 (au (ē (Dj (ā 0) (mP (mC (.int 2))) (mP (mC (.int 4)))))) (gN 1) œ (ē (Đ kI (Ą 1 (ď (dU mH (ą (ā 0) Ĝ)) č)))))) (ġ (Ķ 3 (Š [] 2 (š 2) (gT 2 (Ğ (gN 0) (Ğ (gN 1) Ť))) œ (ē (Đ iB (Ą 0 (ď (ē (pG fK (ą (ā 1) Ĝ))) č)))))) (ġ (Ķ 4 (Đ vQ (Ą 0 (ď (mC (.int 4)) (ď (ē (ļ ķ (mC (.int 1)) (ĉ Ń (ē (Đ ao (Ą 0 (ď (mC (.int 1)) č)))) (mC (.int 3))))) (ď (mC (.int 4)) č)))))) (ġ (Ķ 5 (ş (dW "Yard" oG (ď (ĉ Ě (ā 1) (mC (.int 0))) (ď (ĉ Ě (ā 1) (mC (.int 1))) (ď (ē (Dj (ā 3) (mP (mC (.int 1))) Ao)) (Ą 4 č))))))) (ġ (Ķ 6 (Š [] 1 (š 3) (gN 0) œ (ś (ą (ĝ 0) (ą (mC (.int 5)) Ĝ))))) (ġ (Ķ 7 (Š [1,4,0] 1 (DQ (bG bI (ą (ē (ļ ķ (mC (.int 1)) (ĉ Ń (ĉ aH (ē (Đ ao (Ą 0 (ď (mC (.int 1)) č)))) (mC (.int 3))) (mC (.int 5))))) Ĝ))) (gN 3) œ (ē (Đ Ea (ď (ē (Đ ao (Ą 2 (ď (ē (ļ ķ (mC (.int 7)) (ā 3))) č)))) (Ą 0 (Ą 1 č))))))) Z0A))))))):=rfl
def slT(T:List Th):∃T':List Th,dG (T.map gJ) (some 1) none=T'.map gJ/\T'.length<=T.length/\∀t∈T',t∈T:=by
 refine⟨T.drop (HT.jD T.length 0 (some 1)),?_,by simp,λt ht=>List.mem_of_mem_drop ht⟩
 unfold dG
 rw[List.length_map]
 show List.take (T.length-_) (List.drop _ (T.map gJ))=_
 rw[<-List.map_drop,<-List.map_take,List.take_of_length_le (by simp)]
def two:bI [.int 2]=some [.int 0,.int 1]:=by
 have:=Zw (n:=2) (by omega)
 simpa[List.range_succ] using this
def Z34(a b:Nat):nZ [.lst [.int a,.int b]]=some (.int ((min a b:Nat):Int)):=by
 simp[intsOf,best]
 omega
def Z2R{T:List Th}(hl:T.length<=1000):ŕ (gN 0) œ (ś (ą (ĝ 0) (ą (mC (.int 5)) Ĝ))) (T.map gJ) [.no] []=some (T.map zQ):=by
 have c1:=Œ (g:=gN 0) (mt:=œ) (me:=ś (ą (ĝ 0) (ą (mC (.int 5)) Ĝ))) gJ zQ (λρ=>∃a,ρ=[a]) T [.no] [] ⟨_,rfl⟩ (by simp;omega) (by
  rintro t _ ρ ⟨a,rfl⟩
  exact⟨[.sh (gJ t)],[.sh (gJ t)],[.sh (gJ t)],by simp,by simp,by simp[zQ],_,rfl⟩)
 rw[List.nil_append] at c1
 exact c1
def Z1Z(ns:List Int){w h:Nat}(hw:0<w)(hh:0<h){lg:Nat}{D:List Dy}(hD:∀d∈D,Zs lg d)(hl:0<D.length){n:Nat}(hn:n<=1000):∃qs:List Wt,ŕ (gN 3) œ (ē (Đ Ea (ď (ē (Đ ao (Ą 2 (ď (ē (ļ ķ (mC (.int 7)) (ā 3))) č)))) (Ą 0 (Ą 1 č))))) ((List.range n).map λ(i:Nat)=>PV.int (i:Int)) [.sh (.tup [.int w,.int h]),.bw (D.map cu),.sh (.lst (ns.map .int)),.no] []=some (qs.map aC)/\qs.length=n/\∀q∈qs,Ze w h q/\Zj D q:=by
 obtain⟨F,hF⟩:=Classical.axiomOfChoice (λc=>Z1Y hw hh hD hl c)
 have c1:=Œ (g:=gN 3) (mt:=œ) (me:=ē (Đ Ea (ď (ē (Đ ao (Ą 2 (ď (ē (ļ ķ (mC (.int 7)) (ā 3))) č)))) (Ą 0 (Ą 1 č))))) (λ(i:Nat)=>PV.int (i:Int)) (λk=>aC (F (ns.getD (7+k) 0))) (λρ=>∃a,ρ=[.sh (.tup [.int w,.int h]),.bw (D.map cu),.sh (.lst (ns.map .int)),a]) (List.range n) [.sh (.tup [.int w,.int h]),.bw (D.map cu),.sh (.lst (ns.map .int)),.no] [] ⟨_,rfl⟩ (by simp;omega) (by
  rintro k _ ρ ⟨a,rfl⟩
  have e1:=Zr ns (7+k)
  have e7:((7+k:Nat):Int)=7+(k:Int):=by omega
  rw[e7] at e1
  obtain⟨e2,_⟩:=hF (ns.getD (7+k) 0)
  generalize F (ns.getD (7+k) 0)=q at *
  generalize ns.getD (7+k) 0=v at *
  generalize aC q=V at *
  generalize ns.map PV.int=NS at *
  generalize D.map cu=DV at *
  exact⟨[.sh (.tup [.int w,.int h]),.bw DV,.sh (.lst NS),.sh (.int k)],[.sh (.tup [.int w,.int h]),.bw DV,.sh (.lst NS),.sh (.int k)],[.sh (.tup [.int w,.int h]),.bw DV,.sh (.lst NS),.sh (.int k)],by simp,by simp,by simp[e1,e2,-ZC],_,rfl⟩)
 refine⟨(List.range n).map λk=>F (ns.getD (7+k) 0),?_,by simp,λq hq=>?_⟩
 ·rw[List.nil_append] at c1
  rw[c1,List.map_map]
  rfl
 ·obtain⟨k,_,rfl⟩:=List.mem_map.mp hq
  exact(hF _).2
def Z1u(ns:List Int){w h:Nat}{D:List Dy}{qs O:List Wt}(hl:O.length=qs.length)(hq:∀q∈qs,Ze w h q/\Zj D q){p:Nat->Nat}(hp:∀k,p k<qs.length)(z2 z3 z5 z6:P.Slot){k:Nat}(hk:k<2) :
 ∃(q':Wt) (X:PX),Z12 w h D q' X/\pZ [.sh (.lst (ns.map .int)),.sh (.tup [.int w,.int h]),z2,z3,.ow (D.map cu),z5,z6,.ow (qs.map aC),.ow (O.map aC),.ow [.int (p 0:Nat),.int (p 1:Nat)],.sh (.int k)]=.ok .nx [.sh (.lst (ns.map .int)),.sh (.tup [.int w,.int h]),z2,z3,.ow (D.map cu),z5,z6,.ow (qs.map aC),.ow ((O.set (p k) q').map aC),.ow [.int (p 0:Nat),.int (p 1:Nat)],.sh (.int k)]:=by
 have e1:=Zr ns (14+k)
 have e7:((14+k:Nat):Int)=14+(k:Int):=by omega
 rw[e7] at e1
 have Ze8:=hp k
 obtain⟨h1,h2⟩:=hq qs[p k] (List.getElem_mem Ze8)
 obtain⟨q',X,e2,hb⟩:=Z2Q (ns.getD (14+k) 0) h1 h2
 refine⟨q',X,hb,?_⟩
 have hx:(qs.map aC)[p k]?=some (aC qs[p k]):=by simp[hp k]
 have hi:z_ (O.map aC).length ((p k:Nat):Int)=some (p k):=by
  unfold z_
  simp[hl]
  omega
 have hpk:([.int (p 0:Nat),.int (p 1:Nat)]:List PV)[k]?=some (.int (p k:Nat)):=by
  have:k=0\/k=1:=by omega
  rcases this with rfl|rfl<;>rfl
 rw[List.map_set]
 generalize ns.getD (14+k) 0=v at *
 generalize aC qs[p k]=V at *
 generalize aC q'=V' at *
 clear Ze8 h1 h2
 generalize hPL:([.int (p 0:Nat),.int (p 1:Nat)]:List PV)=PL at *
 generalize p k=j at *
 generalize ns.map PV.int=NS at *
 generalize D.map cu=DV at *
 generalize qs.map aC=QS at *
 generalize O.map aC=OS at *
 simp[pZ,e1,e2,hx,hi,hpk,-ZC]
def Z20{α:Type}{qs:List α}{i j:Nat}(hi:i<qs.length)(hj:j<qs.length)(a b:α):((qs.set i a).set j b)[min i j]?=some (if j<=i then b else a):=by
 by_cases h:j<=i
 ·rw[if_pos h,Nat.min_eq_right h]
  simp[hj]
 ·rw[if_neg h,Nat.min_eq_left (by omega)]
  rw[List.getElem?_set_ne (by omega)]
  simp[hi]
def Z1v{α:Type}{P:α->Prop}{qs:List α}{i j:Nat}(a b:α)(hq:∀q∈qs,P q):∀q∈((qs.set i a).set j b).take (min i j),P q:=λq hm=>by
 obtain⟨k,hk⟩:=List.mem_iff_getElem?.mp hm
 have hkm:k<min i j:=by
  have:=(List.getElem?_eq_some_iff.mp hk).1
  simp at this
  omega
 rw[List.getElem?_take_of_lt hkm,List.getElem?_set_ne (by omega),List.getElem?_set_ne (by omega)] at hk
 exact hq q (List.mem_of_getElem? hk)
def Z1w(ns:List Int){w h:Nat}{T:List Th}(Y:YOk w h T){lg:Nat}{D:List Dy}(hD:∀d∈D,Zs lg d){O:List Th}(hO:O.length<=9)(hOg:∀t∈O,Z5 t.1 t.2=true){qs:List Wt}(hl:qs.length<=1000)(hl0:0<qs.length)(hq:∀q∈qs,Ze w h q/\Zj D q)(z2 z3:P.Slot) :
 FR.of (Z0A [.sh (.lst (ns.map .int)),.sh (.tup [.int w,.int h]),z2,z3,.ow (D.map cu),.sh (Z0 w h T D),.ow (O.map zQ),.ow (qs.map aC),.no,.no,.no])=.ret (.sh (.bl true)):=by
 have k12:ao [.sh (.lst (ns.map .int)),.sh (.int 12)]=.ret (.sh (.int (ns.getD 12 0))):=Zr ns 12
 have k13:ao [.sh (.lst (ns.map .int)),.sh (.int 13)]=.ret (.sh (.int (ns.getD 13 0))):=Zr ns 13
 obtain⟨c12,e12⟩:∃c,ns.getD 12 0=c:=⟨_,rfl⟩
 obtain⟨c13,e13⟩:∃c,ns.getD 13 0=c:=⟨_,rfl⟩
 rw[e12] at k12
 rw[e13] at k13
 have f1:∀(b:Int),b.fmod (qs.length:Int)=b % qs.length/\0<=b % (qs.length:Int)/\b % (qs.length:Int)<qs.length:=λb=>⟨Int.fmod_eq_emod_of_nonneg _ (by omega),Int.emod_nonneg _ (by omega),Int.emod_lt_of_pos _ (by omega)⟩
 obtain⟨u1,u2,u3⟩:=f1 c12
 obtain⟨v1,v2,v3⟩:=f1 c13
 obtain⟨i,hi⟩:∃i:Nat,c12 % (qs.length:Int)=(i:Int):=⟨(c12 % (qs.length:Int)).toNat,by omega⟩
 obtain⟨j,hj⟩:∃j:Nat,c13 % (qs.length:Int)=(j:Int):=⟨(c13 % (qs.length:Int)).toNat,by omega⟩
 have hil:i<qs.length:=by omega
 have hjl:j<qs.length:=by omega
 obtain⟨v,kg⟩:=Z1t Y hD hO hOg hl hq
 have r1:=Z2t kg
 have hp:∀k:Nat,(λk:Nat=>if k=0 then i else j) k<qs.length:=λk=>by dsimp only;split<;>omega
 obtain⟨q0,X0,b0,s0⟩:=Z1u ns (w:=w) (h:=h) (D:=D) (qs:=qs) (O:=qs) rfl hq hp z2 z3 (.sh (Z0 w h T D)) (.ow (O.map zQ)) (k:=0) (by omega)
 obtain⟨q1,X1,b1,s1⟩:=Z1u ns (w:=w) (h:=h) (D:=D) (qs:=qs) (O:=qs.set i q0) (by simp) hq hp z2 z3 (.sh (Z0 w h T D)) (.ow (O.map zQ)) (k:=1) (by omega)
 have g1:=Z20 hil hjl q0 q1
 have g2:=Z1v (i:=i) (j:=j) q0 q1 hq
 obtain⟨q,X,hqe,hb⟩:∃q X,(if j<=i then q1 else q0)=q/\Z12 w h D q X:=by
  split
  ·exact⟨q1,X1,rfl,b1⟩
  ·exact⟨q0,X0,rfl,b0⟩
 rw[hqe] at g1
 obtain⟨hmn,hme⟩:=List.getElem?_eq_some_iff.mp g1
 have hsplit:(qs.set i q0).set j q1=((qs.set i q0).set j q1).take (min i j)++q::((qs.set i q0).set j q1).drop (min i j+1):=by
  rw[<-hme,<-List.drop_eq_getElem_cons hmn,List.take_append_drop]
 have kb:=Z1X (w:=w) (h:=h) (T:=T) (D:=D) (O.map zQ) (r:=((qs.set i q0).set j q1).drop (min i j+1)) hb g2
 rw[<-hsplit] at kb
 have hXc:X.C= "NoStone" \/X.C= "NoTurn" := by
  rcases hb with⟨_,rfl⟩|⟨_,_,rfl⟩
  ·exact .inl rfl
  ·exact .inr rfl
 have r2:=Z2P kb hXc
 have sd:=Z2u hb
 have gm:(((qs.set i q0).set j q1).map aC)[min i j]?=some (aC q):=by
  rw[List.getElem?_map,g1];rfl
 have mn:=Z34 i j
 have hll:((qs.map aC).length:Int)=(qs.length:Int):=by simp
 have z:¬qs.length=0:=by omega
 have zl:(qs.map aC).length<=16777216:=by rw[List.length_map];omega
 have zn:¬(qs.map aC).length=0:=by rw[List.length_map];omega
 have s0':pZ [.sh (.lst (ns.map .int)),.sh (.tup [.int w,.int h]),z2,z3,.ow (D.map cu),.sh (Z0 w h T D),.ow (O.map zQ),.ow (qs.map aC),.ow (qs.map aC),.ow [.int (i:Nat),.int (j:Nat)],.sh (.int 0)]=.ok .nx [.sh (.lst (ns.map .int)),.sh (.tup [.int w,.int h]),z2,z3,.ow (D.map cu),.sh (Z0 w h T D),.ow (O.map zQ),.ow (qs.map aC),.ow ((qs.set i q0).map aC),.ow [.int (i:Nat),.int (j:Nat)],.sh (.int 0)]:=s0
 have s1':pZ [.sh (.lst (ns.map .int)),.sh (.tup [.int w,.int h]),z2,z3,.ow (D.map cu),.sh (Z0 w h T D),.ow (O.map zQ),.ow (qs.map aC),.ow ((qs.set i q0).map aC),.ow [.int (i:Nat),.int (j:Nat)],.sh (.int 1)]=.ok .nx [.sh (.lst (ns.map .int)),.sh (.tup [.int w,.int h]),z2,z3,.ow (D.map cu),.sh (Z0 w h T D),.ow (O.map zQ),.ow (qs.map aC),.ow (((qs.set i q0).set j q1).map aC),.ow [.int (i:Nat),.int (j:Nat)],.sh (.int 1)]:=s1
 rw[<-hll] at u1 v1 hi hj
 generalize ((qs.set i q0).set j q1).map aC=Q2 at *
 generalize (qs.set i q0).map aC=Q1 at *
 generalize qs.map aC=QS at *
 generalize Z0 w h T D=Yv at *
 generalize O.map zQ=OS at *
 generalize D.map cu=DV at *
 generalize ns.map PV.int=NS at *
 generalize aC q=V at *
 generalize xV X=Xv at *
 simp[Z0A,Z27,r1,r2,sd,two,forL,s0',s1',k12,k13,u1,v1,hi,hj,zn,zl,gm,mn,Am,-ZC,-HF]
def Z2S{l:PySem.W.OpenLaw}{w:World}{K:PySem.W.Frag}{mg:Str->Option Value}{fa:Addr}{a:zq}(T:Tx K mg a)(hfa:mg "law" =some (.ref fa)):∃fd:FuncData,(∀(s:Shared) (v:Value),BindsTo s fd ⟨[v],[]⟩ [("_law_script",v)])/\∀base:Heap,K.In base->base.Ns mainGlobals mg->∃cm,ī l.prog w K mg base (Ů l.prog w) 12 fa fd ["_law_script"] (ż ⟨K,cm⟩ 1 wA):=by
 have e:=hfa.symm.trans T.Ph.m
 cases e
 exact⟨a.O_,λs v=>T.Ph.bb s [v] rfl,λbase _ _=>⟨_,Zdb T⟩⟩
def Z21(ns:List Int)(hn:ns.length<=63):wA [.sh (.lst (ns.map .int))]=.ret (.sh (.bl true)):=by
 have k0:ao [.sh (.lst (ns.map .int)),.sh (.int 0)]=.ret (.sh (.int (ns.getD 0 0))):=Zr ns 0
 have k1:ao [.sh (.lst (ns.map .int)),.sh (.int 1)]=.ret (.sh (.int (ns.getD 1 0))):=Zr ns 1
 obtain⟨c0,e0⟩:∃c,ns.getD 0 0=c:=⟨_,rfl⟩
 obtain⟨c1,e1⟩:∃c,ns.getD 1 0=c:=⟨_,rfl⟩
 rw[e0] at k0
 rw[e1] at k1
 obtain⟨w,h,hs,w1,w2,h1,h2,wh⟩:=Z1N c0
 obtain⟨ys,hy,hyl⟩:=slI ns (some 2) (some 4)
 have ZhL:ys.length<=2:=by
  have e:=congrArg List.length hy
  unfold dG at e
  simp at e
  have s1:HT.jD ns.length ns.length (some (4:Int))=min 4 ns.length:=HT.lE _ _ 4
  have s2:HT.jD ns.length 0 (some (2:Int))=min 2 ns.length:=HT.lE _ _ 2
  rw[s1,s2] at e
  omega
 obtain⟨T,hT,hTl,hTg⟩:=Z0y ⟨w1,w2⟩ ⟨h1,h2⟩ ys [] .no (by simp;omega)
 rw[List.nil_append] at hT
 obtain⟨m,hm⟩:∃m:Nat,1+c1 % 3=(m:Int):=⟨(1+c1 % 3).toNat,by omega⟩
 obtain⟨D,hD,hDl,hDg⟩:=Z2n ns (n:=m) (lg:=4) (by omega) (by omega) (by omega)
 have hD':vQ [.sh (.lst (ns.map .int)),.sh (.int 4),.sh (.int m),.sh (.int 4)]=.ret (.ow (D.map cu)):=hD
 obtain⟨T',hsl,ZhM,hTm⟩:=slT T
 have Y:YOk w h T':=⟨by omega,by omega,by omega,by omega,by omega,λt ht=>hTg t (hTm t ht)⟩
 have q1:=Z1m (T:=T) (by omega) hTg .no .no
 have q2:=Z2k (w:Int) (h:Int) (T:=T') (D:=D) (by omega) (by omega) (s3:=.sh (.lst (T'.map gJ))) (s4:=.bw (D.map cu)) (.inl rfl) (.inr rfl)
 have q3:=Z2R (T:=T) (by omega)
 obtain⟨n,hnn⟩:∃n:Nat,1+c1 / 3 % 5=(n:Int):=⟨(1+c1 / 3 % 5).toNat,by omega⟩
 obtain⟨qs,q4,ql,qg⟩:=Z1Z ns (w:=w) (h:=h) (by omega) (by omega) hDg (by omega) (n:=n) (by omega)
 have rr:=Zw (n:=n) (by omega)
 have fin:=Z1w ns Y hDg (O:=T) (by omega) hTg (by omega) (by omega) qg (.sh (.lst (T.map ZH))) (.sh (.lst (T.map gJ)))
 have hY:PV.ins "Yard" ["width","height","things","days"] [.int w,.int h,.lst (T'.map gJ),.lst (D.map cu)]=Z0 w h T' D:=rfl
 have ZhN:(T.map gJ).length<=16777216:=by rw[List.length_map];omega
 generalize Z0 w h T' D=Yv at *
 generalize ns.map PV.int=NS at *
 generalize ys.map PV.int=YS at *
 generalize T.map ZH=TR at *
 generalize T'.map gJ=TV' at *
 generalize T.map gJ=TV at *
 generalize T.map zQ=OV at *
 generalize D.map cu=DV at *
 generalize qs.map aC=QS at *
 simp[wA,Z33,List.replicate,ni,iR,k0,k1,hs,Uo,hy,hT,hm,hD',q1,hsl,dW,q2,hY,q3,hnn,rr,q4,-ZC]
 simpa using fin
def Z35{l:PySem.W.OpenLaw}{q:Program}{loose:List Str}{XP:(Str->Option Value)->Heap->Prop}{YP:World->Heap->Prop}{d:DefRec}{K:Params->PySem.W.Frag}(hn:l.most=some 63)(hdf:d.params.defaults=[])
 (hY:∀(w:World) (h:Heap),YP w h->(K w.params).In h)
 (F:∀(w:World) (mg:Str→Option Value) (fa:Addr) (h:Heap),(K w.params).In h→h.Ns mainGlobals mg→mg d.name=some (.ref fa)→
   ∃fd:FuncData,(∀(s:Shared) (u:Value),BindsTo s fd ⟨[u],[]⟩ [("_law_script",u)])/\∀base:Heap,(K w.params).In base->base.Ns mainGlobals mg->∃cm,ī l.prog w (K w.params) mg base (Ů l.prog w) 12 fa fd ["_law_script"] (ż ⟨K w.params,cm⟩ 1 wA))
 (hnt:∀w:World,PySem.W.noTabs (K w.params)=true)(hrec:∀y,y∈lams->∃d,(PyProof.Rows.recsOf q).find? (λe=>e.name== y)=some d) :
 PySem.W.WalkO q loose XP YP l.row.toRowW d [] (λf vs=>PySem.call f vs):=
 P.Jz (k:=12) (x:= "_law_script") (m:=wA) hn hdf ⟨rfl,by decide,by decide⟩ hY F Z21 (hnt:=λ_=>hnt) (hrec:=hrec)
end
end T
namespace PySem.W.Fast
def tw6016104225292327335:=0
def tw5221243346345198958:=0
def tw10664459574586318396:=0
def tw13095285747826737865:=0
def tw18059338176344976562:=0
def tw12533368669665483430:=0
def tw7784950144678304418:=0
def tw230372625533184350:=0
def tw5107318699821310017:=0
def tw14633532091524715717:=0
def tw3407934604385897153:=0
def tw4651089208733604625:=0
def tw2883296850219092433:=0
def tw1298358012284326824:=0
def tw15980670840018921942:=0
def tw9121526890229588168:=0
def tw5066276236578487911:=0
def tw264951870093189406:=0
def tw9539509744014437512:=0
def tw331881828874348697:=0
def tw3026280089161186490:=0
def tw3158041294282404183:=0
def tw11948659582640161413:=0
def tw8037508870090865102:=0
def tw7271428206366158997:=0
def tw9542261735217044945:=0
def tw3923011816656085610:=0
def tw7928958107772258019:=0
def tw5906158683069763314:=0
def tw1070414916173107292:=0
def tw5460846111530431181:=0
def tw8952398322551162837:=0
def tw16007643131108513983:=0
def tw3878038503078113761:=0
def tw9451419800683887229:=0
def tw14797252237459015874:=0
def tw9349020450143436408:=0
def tw4263155889584136478:=0
def tw3218902253062981137:=0
def tw11509938149910612923:=0
def tw3075170258590969875:=0
def tw16705697473019933872:=0
def tw3759001748746912759:=0
def tw15522717795127864118:=0
def tw9983206079081623331:=0
def tw5209853454478141247:=0
def tw2486046566444418747:=0
def tw7775348200281273885:=0
def tw6103527033541133141:=0
def tw9366973100273769712:=0
def tw16066068282477452969:=0
def tw10523740110118683491:=0
def tw10635215353609687139:=0
def tw10897750334020050447:=0
def tw12892417558415167480:=0
def tw15216496802135606377:=0
def tw13567772412124090976:=0
def tw15224272544625984575:=0
def tw8099342834956818816:=0
def tw11204960611438081000:=0
def tw13102457784948812566:=0
def tw6679486441376735090:=0
def tw1897401400296024592:=0
def tw3766585479390179510:=0
def tw16608465693756020563:=0
def tw4189102059300038509:=0
def tw126488051618948808:=0
def tw271785521806002560:=0
def tw17748893607740600862:=0
def tw4869908166094158226:=0
def tw10487202643455828797:=0
def tw18140324549777101689:=0
def tw15634805532914127490:=0
def tw11181810792540184081:=0
def tw10534198650066679097:=0
def tw4467422993019943460:=0
def tw14794933431474910545:=0
def tw9525250721449784095:=0
def tw14773672515181188355:=0
def tw18075476380801521927:=0
def tw4649224892935432974:=0
def tw14604739619985108152:=0
def tw507156034757607872:=0
def tw3882217931206017570:=0
def tw11802602473288553607:=0
def tw8176277905567783505:=0
def tw14038367974901332711:=0
def tw7242938533784790427:=0
def tw3744426976859541040:=0
def tw15034856752177593340:=0
def tw4055715882974122205:=0
def tw6575145496174478806:=0
def tw13160600360324234840:=0
def tw11720653110071373407:=0
def tw16066332548104595995:=0
def tw3204230997950160217:=0
def tw3237379044926014679:=0
def tw17645833119254706842:=0
def tw5763028287085118515:=0
def tw3586563291930261695:=0
def tw5821231261175978265:=0
def tw7939593186175782656:=0
def tw15118341287912161741:=0
def tw15790767351863146395:=0
def tw3657400855081207326:=0
def tw7832439033038905332:=0
def tw18136669506527210088:=0
def tw7029361349454374532:=0
def tw8581481901582252788:=0
def tw18320185022049871716:=0
def tw9142141324172236918:=0
def tw773880673476401088:=0
def tw5082074316708663441:=0
def tw5693710197786739505:=0
def tw11527645421972713585:=0
def tw10134860839226238545:=0
def tw11615924963255291498:=0
def tw15317905548246211992:=0
def tw5328713124788130589:=0
def tw12425673795501261982:=0
def tw12632973680080144119:=0
def tw9858690109490071110:=0
def tw2142874657116459107:=0
def tw17826392638097587826:=0
def tw6000014410627172393:=0
def tw17208111175180349145:=0
def tw3482061792843405268:=0
def tw18008565092070645457:=0
def tw10526876561996117318:=0
def tw17282079710093309762:=0
def tw8501748911174049090:=0
def tw586556765676757493:=0
def tw9025923044188282035:=0
def tw7930800617558319698:=0
def tw16833768859567894583:=0
def tw1722868519018208657:=0
def tw15062841824759341162:=0
def tw18240402152570740328:=0
def tw8687267570502753445:=0
def tw16962000754822291564:=0
def tw3478983054172452701:=0
def tw10827961340749890327:=0
def tw10270765571518067133:=0
def tw1789048229914327988:=0
def tw5509475189325508787:=0
def tw6333850618318510973:=0
def tw177705703024557879:=0
def tw7202677298066510033:=0
def tw14544623926061611451:=0
def tw1587638638978506672:=0
def tw11929143563016392942:=0
def tw94958510741718836:=0
def tw8756775290162803685:=0
def tw18252318508687132661:=0
def tw6819411963877427409:=0
def tw1139552780694924737:=0
def tw6392261157311606465:=0
def tw4871224274688452855:=0
def tw12707909585579807790:=0
def tw15112017982880224884:=0
def tw648234951114550243:=0
def tw225701657501905438:=0
def tw7199495799539796858:=0
def tw3378654505212273558:=0
def tw5578036680762941208:=0
def tw2688271493844145964:=0
def tw4987676003707130306:=0
def tw5467380634373125474:=0
def tw1634964839012102567:=0
def tw10710276395245637488:=0
def tw10978754869420253868:=0
def tw10082892090628779040:=0
def tw15925893290575644639:=0
def tw9595460129871862353:=0
def tw15864390786506404565:=0
def tw11272321764345741746:=0
def tw6002826304038690018:=0
def tw1056100154976658458:=0
def tw1913309442063786106:=0
def tw11671923407249949129:=0
def tw8786942118244450011:=0
def tw10551307086722043404:=0
def tw2013655126603103780:=0
def tw4801461683143940187:=0
def tw2745395751762011002:=0
def tw11029950321724729777:=0
def tw10960965566543160350:=0
def tw15040882148549948207:=0
def tw8868460444064678523:=0
def tw3205786866409830714:=0
def tw18213231219343033843:=0
def tw18025579336584545754:=0
def tw3409477918296400286:=0
def tw8981068767963866127:=0
def tw3626414155920550745:=0
def tw9276200073433991885:=0
def tw5592144264562055598:=0
def tw9729291069782688545:=0
def tw11516131690389412114:=0
def tw11023465872096801426:=0
def tw12262613061354860020:=0
def tw5432040179581317766:=0
def tw224895243086283009:=0
def tw4275316086972766176:=0
def tw9067107615360643843:=0
def tw11572826980231881506:=0
def tw15155198071622918437:=0
def tw7761509697459308629:=0
def tw12894803065276765764:=0
def tw2766622200602873651:=0
def tw15614053169962535127:=0
def tw2840886995843666910:=0
def tw18120116598397212444:=0
def tw15486692613094955694:=0
def tw345676435330924286:=0
def tw7606141905875561426:=0
def tw18156714960993363888:=0
def tw10738388782462507090:=0
def tw3655553067594163827:=0
def tw12257812431795860972:=0
def tw7282537554727358007:=0
def tw3907989916908872367:=0
def tw2607884326529303326:=0
def tw9240193130016636714:=0
def tw201078020567796035:=0
def tw6072372561661166726:=0
def tw816440000132947229:=0
def tw18233204630509791353:=0
def tw14276378602054977105:=0
def tw7785966949437084117:=0
def tw1984848660987642455:=0
def tw9949520233807916504:=0
def tw1219506342816328841:=0
def tw1247535762498839872:=0
def tw4832025996837225404:=0
def tw8171038270190533030:=0
def tw13617720773370649728:=0
def tw17095280172833599654:=0
def tw8026139398048460588:=0
def tw2425013107683677223:=0
def tw11114052384097451529:=0
def tw8026892122121927268:=0
def tw13184300758076202290:=0
def tw18280887593870574282:=0
def tw4508862738995299632:=0
def tw14167844278553267625:=0
def tw336932343494549353:=0
def tw14426164556350087258:=0
def tw9006013097056636066:=0
def tw2432651064243493707:=0
def tw5499377179130325041:=0
def tw14253527910643104951:=0
def tw8680856889681825905:=0
def tw4122805680457538018:=0
def tw12173591535116942065:=0
def tw10235589338643835741:=0
def tw2027785460727496686:=0
def tw12400144394847395121:=0
def tw3237638150336915380:=0
def tw15953649363480626687:=0
def tw15966931669696266186:=0
def tw18341401499688717256:=0
def tw4458481251985188390:=0
def tw4850868786421410767:=0
def tw14237982290115240377:=0
def tw16849816307057734991:=0
def tw16601951165802858110:=0
def tw4177229394038791898:=0
def tw1138232274018830750:=0
def tw7362494029350014142:=0
def tw4152761366061188913:=0
def tw10609424344331884863:=0
def tw16033944759025407787:=0
def tw7473329742481881229:=0
def tw3456520454107846327:=0
def tw838300213965275663:=0
def tw5076536072235753520:=0
def tw8696478930148941238:=0
def tw15777270092527473072:=0
def tw15504962375956886369:=0
def tw15647315250605973046:=0
def tw1576520166873728634:=0
def tw1890987121738033191:=0
def tw4335661346152611310:=0
def tw13638867293177169870:=0
def tw6872991337225744514:=0
def tw11446583926574758152:=0
def tw12377880827653313061:=0
def tw15809900877445056183:=0
def tw7569997130798404474:=0
def tw16833368137108785504:=0
def tw2380317527283666382:=0
def tw13701503414432070031:=0
def tw1857413189627331600:=0
def tw10206660754442277614:=0
def tw3497435714048991450:=0
def tw17392767366095864310:=0
def tw18276466569637005723:=0
def tw4826809200845414659:=0
def tw5166929558870552369:=0
def tw11657361047330696731:=0
def tw13797310876771835431:=0
def tw260299958273238443:=0
def tw6548153859734356292:=0
def tw12520818506930089011:=0
def tw9822141899448148577:=0
def tw3431565612881526915:=0
def tw6736072512850410532:=0
def tw15674203166263430610:=0
def tw14174758131176286831:=0
def tw176700820853629373:=0
def tw1200446771784215586:=0
def tw3959908741133143552:=0
def tw1972338797649282501:=0
def tw12277260319519339965:=0
def tw552596562118840069:=0
def tw13109669411053168044:=0
def tw14581390338308729666:=0
def tw11527261688231347118:=0
def tw2505183032371666614:=0
def tw17326790851370550826:=0
def tw12678617454972879869:=0
def tw18415407544228135549:=0
def tw8012046616220163575:=0
def tw12196584380325325262:=0
def tw13077753881582599032:=0
def tw8205248777911693129:=0
def tw16524721829572313986:=0
def tw4847448853236652693:=0
def tw5064033105042543735:=0
def tw10140044963279597779:=0
def tw5018755715803283487:=0
def tw2530092537608815806:=0
def tw13171634161595893775:=0
def tw12775930930292817137:=0
def tw11844708957070995466:=0
def tw2837197338838491017:=0
def tw17635009262585824039:=0
def tw17864793178089413121:=0
def tw11322295632864549344:=0
def tw14934952793527570066:=0
def tw1889312533379614953:=0
def tw16441245707195513271:=0
def tw6205660121528073409:=0
def tw14691272559031314476:=0
def tw12570603416900586036:=0
def tw7204876893398829718:=0
def tw3163901867006597703:=0
def tw1271750796901057771:=0
def tw11932054917391937435:=0
def tw16128915564234712264:=0
def tw12452083821812278467:=0
def tw14878777365347198567:=0
def tw12261285646546189139:=0
def tw1962234181748050572:=0
def tw1172362665956799976:=0
def tw13286259839780243374:=0
def tw17033089476276775107:=0
def tw13114150902957589322:=0
def tw3636239020542457506:=0
def tw11481361393810411854:=0
def tw7525430043642572292:=0
def tw12000241322728461347:=0
def tw14109441135772233426:=0
def tw3178024810150974204:=0
def tw13439917527743984476:=0
def tw2170290887061438451:=0
def tw1305430336880074757:=0
def tw2204006445025129488:=0
def tw12310596761719330220:=0
def tw9809156956515117782:=0
def tw14172167763588854627:=0
def tw18352095570857422915:=0
def tw13325062416053603813:=0
def tw8068248185243588711:=0
def tw8622576241344284482:=0
def tw13925579226120257506:=0
def tw15730329600252842476:=0
def tw6209507065450735910:=0
def tw429922259475887162:=0
def tw516420170748491921:=0
def tw12796376518601807650:=0
def tw15510949917123082374:=0
def tw12225209855226854866:=0
def tw16572934454511910650:=0
def tw11186933942030211961:=0
def tw13569389051349017882:=0
def tw4941060113528371540:=0
def tw2787463017126157558:=0
def tw17755579795359272835:=0
def tw12267072588793025968:=0
def tw4105989473588039952:=0
def tw9853253303697952429:=0
def tw9064164623224861068:=0
def tw6658958100900906319:=0
def tw1042444107236169254:=0
def tw16511755713440901483:=0
def tw18009606087863831127:=0
def tw10916567674431352072:=0
def tw8549775998966817767:=0
def tw17382463071199353446:=0
def tw4574071646115501256:=0
def tw16054139987775725476:=0
def tw9390760485494027724:=0
def tw16174433901904951830:=0
def tw16846996773151265957:=0
def tw9376526535022352571:=0
def tw16493373661395286191:=0
def tw17328476080443405790:=0
def tw11571601349774701740:=0
def tw14382946332782772049:=0
def tw11602767231384266749:=0
def tw4124782839244705064:=0
def tw9746636094096185246:=0
def tw3126303646668583604:=0
def tw16849368377682191632:=0
def tw3288429061126649869:=0
def tw994454001210838092:=0
def tw7708799594998420487:=0
def tw6094574152396111210:=0
def tw9945029091034564436:=0
def tw11124392777682065271:=0
def tw13131533498621794898:=0
def tw4642352092160965264:=0
def tw378718320548457134:=0
def tw11776325850567084765:=0
def tw5801082296529342545:=0
def tw7383120892212047132:=0
def tw10205454679602408487:=0
def tw10319397072488009477:=0
def tw16853570788232492840:=0
def tw6828808054557060193:=0
def tw14971597707791087672:=0
def tw10475649784965656257:=0
def tw8545196728346042019:=0
def tw618365385531649388:=0
def tw10637820267217605137:=0
def tw14827226101845063121:=0
def tw14063890929653022392:=0
def tw17860498633047959147:=0
def tw14997260917068036207:=0
def tw5340670547057078445:=0
def tw2415978031668550135:=0
def tw17133343294281244084:=0
def tw5586078048108667303:=0
def tw15362282143474243644:=0
def tw13364531522216797510:=0
def tw4908407362307385705:=0
def tw8488533702679235461:=0
def tw3318909471540111000:=0
def tw2441700587033574812:=0
def tw6760372709617871138:=0
def tw6989220897341207308:=0
def tw17596967132992517273:=0
def tw13671553803775709029:=0
def tw16956286615066672921:=0
def tw12568449563675438285:=0
def tw1170701630300672741:=0
def tw1293006894674384477:=0
def tw11086435386007167336:=0
def tw3999791040529054730:=0
def tw8622114727749147365:=0
def tw12479407847376443470:=0
end PySem.W.Fast
open PySem PySem.W PyProof.Rows
set_option maxRecDepth 100000 in
set_option maxHeartbeats 0 in
theorem PySem.Challenge.cw_shadowpost_k43_keep_dark_refused_holds : PySem.Challenge.rw_shadowpost_k43_keep_dark_refused.Holds := by
 w_on;o_law;k_head;(case hw=>w_witness2)
 k_fill
 refine T.Z35 (l:=PySem.Challenge.rw_shadowpost_k43_keep_dark_refused) rfl rfl (λw h Y=>by first|exact PySem.W.kIn_of Y|exact PySem.W.km_in_of Y) ?F ?hnt ?hrec
 case hnt=>intro w;kernel_rfl
 case hrec=>
  intro y hy
  have e:y=PySem.Str.ofString "cheapest" := by simpa[L2.lams] using hy
  subst e
  exact⟨_,rfl⟩
 case F=>
  intro w mg fa h KX G hmg
  refine' T.Z2S (a:=T.zq.mk) (T.Tx.mk (mg_of KX G ?_) (mg_of KX G ?_) (mg_of KX G ?_) (mg_of KX G ?_) (mg_of KX G ?_) (mg_of KX G ?_) (mg_of KX G ?_) (mg_of KX G ?_) (mg_of KX G ?_) (mg_of KX G ?_) (mg_of KX G ?_) (mg_of KX G ?_) (mg_of KX G ?_) (mg_of KX G ?_) (mg_of KX G ?_) (P.ı KX G (λ_ _ _ _ _ _ _ _=>rfl) ?_ ?_ ?_ ?_) (P.ı KX G (λ_ _ _ _ _ _ _ _=>rfl) ?_ ?_ ?_ ?_) (P.ı KX G (λ_ _ _ _ _ _ _ _=>rfl) ?_ ?_ ?_ ?_) (P.ı KX G (λ_ _ _ _ _ _ _=>rfl) ?_ ?_ ?_ ?_) (P.ı KX G (λ_ _ _ _ _ _ _ _ _ _=>rfl) ?_ ?_ ?_ ?_) (P.kj (λ_ _ _ _ _ _ _ _ _ _ _=>rfl) ?_ ?_ ?_ ?_) (P.ı KX G (λ_ _ _ _ _ _ _=>rfl) ?_ ?_ ?_ ?_) (P.ı KX G (λ_ _ _ _ _ _ _ _=>rfl) ?_ ?_ ?_ ?_) (P.ı KX G (λ_ _ _ _ _ _ _ _=>rfl) ?_ ?_ ?_ ?_) (P.ı KX G (λ_ _ _ _ _ _ _=>rfl) ?_ ?_ ?_ ?_) (P.ı KX G (λ_ _ _ _ _ _ _=>rfl) ?_ ?_ ?_ ?_) (P.ı KX G (λ_ _ _ _ _ _ _=>rfl) ?_ ?_ ?_ ?_) (P.kj (λ_ _ _ _ _ _ _ _ _=>rfl) ?_ ?_ ?_ ?_) (P.ı KX G (λ_ _ _ _ _ _ _=>rfl) ?_ ?_ ?_ ?_) (P.ı KX G (λ_ _ _ _ _ _ _=>rfl) ?_ ?_ ?_ ?_) (P.ı KX G (λ_ _ _ _ _ _ _=>rfl) ?_ ?_ ?_ ?_) (P.ı KX G (λ_ _ _ _ _ _ _=>rfl) ?_ ?_ ?_ ?_) (P.ı KX G (λ_ _ _ _ _ _ _=>rfl) ?_ ?_ ?_ ?_) (P.ı KX G (λ_ _ _ _ _ _ _ _=>rfl) ?_ ?_ ?_ ?_) (P.ı KX G (λ_ _ _ _ _ _ _ _ _=>rfl) ?_ ?_ ?_ ?_) (P.ı KX G (λ_ _ _ _ _ _ _ _=>rfl) ?_ ?_ ?_ ?_) (P.ı KX G (λ_ _ _ _ _ _ _ _=>rfl) ?_ ?_ ?_ ?_) (P.ı KX G (λ_ _ _ _ _ _ _ _=>rfl) ?_ ?_ ?_ ?_) (P.ı KX G (λ_ _ _ _ _ _ _ _=>rfl) ?_ ?_ ?_ ?_) (P.ı KX G (λ_ _ _ _ _ _ _ _ _=>rfl) ?_ ?_ ?_ ?_) (P.ı KX G (λ_ _ _ _ _ _ _ _=>rfl) ?_ ?_ ?_ ?_) (P.ı KX G (λ_ _ _ _ _ _ _ _=>rfl) ?_ ?_ ?_ ?_) (P.ı KX G (λ_ _ _ _ _ _ _ _=>rfl) ?_ ?_ ?_ ?_) (P.ı KX G (λ_ _ _ _ _ _ _ _=>rfl) ?_ ?_ ?_ ?_) (P.ı KX G (λ_ _ _ _ _ _ _ _ _=>rfl) ?_ ?_ ?_ ?_) (P.Zet KX G (λ_ _ _ _ _ _ _ _ _ _ _=>⟨_,rfl,rfl⟩) ?_ ?_ ?d ?_ ?_) (P.ı KX G (λ_ _ _ _ _ _ _=>rfl) ?_ ?_ ?_ ?_) (P.ı KX G (λ_ _ _ _ _ _ _=>rfl) ?_ ?_ ?_ ?_) (P.ı KX G (λ_ _ _ _ _ _ _=>rfl) ?_ ?_ ?_ ?_) (P.ı KX G (λ_ _ _ _ _ _ _ _=>rfl) ?_ ?_ ?_ ?_) (P.ı KX G (λ_ _ _ _ _ _ _ _=>rfl) ?_ ?_ ?_ ?_) (P.ı KX G (λ_ _ _ _ _ _ _=>rfl) ?_ ?_ ?_ ?_) (P.ı KX G (λ_ _ _ _ _ _ _=>rfl) ?_ ?_ ?_ ?_) (P.ı KX G (λ_ _ _ _ _ _ _ _=>rfl) ?_ ?_ ?_ ?_) (P.ı KX G (λ_ _ _ _ _ _ _=>rfl) ?_ ?_ ?_ ?_) (P.ı KX G (λ_ _ _ _ _ _ _=>rfl) ?_ ?_ ?_ ?_) (P.ı KX G (λ_ _ _ _ _ _ _ _=>rfl) ?_ ?_ ?_ ?_) (P.ı KX G (λ_ _ _ _ _ _ _ _=>rfl) ?_ ?_ ?_ ?_) (P.ı KX G (λ_ _ _ _ _ _ _ _ _=>rfl) ?_ ?_ ?_ ?_) (P.ı KX G (λ_ _ _ _ _ _ _ _ _=>rfl) ?_ ?_ ?_ ?_) (P.ı KX G (λ_ _ _ _ _ _ _ _=>rfl) ?_ ?_ ?_ ?_) (P.ı KX G (λ_ _ _ _ _ _ _=>rfl) ?_ ?_ ?_ ?_) (P.ı KX G (λ_ _ _ _ _ _ _ _=>rfl) ?_ ?_ ?_ ?_) (P.ı KX G (λ_ _ _ _ _ _ _ _=>rfl) ?_ ?_ ?_ ?_) (P.ı KX G (λ_ _ _ _ _ _ _ _=>rfl) ?_ ?_ ?_ ?_) (P.ı KX G (λ_ _ _ _ _ _ _ _=>rfl) ?_ ?_ ?_ ?_) (P.ı KX G (λ_ _ _ _ _ _ _ _ _ _ _=>rfl) ?_ ?_ ?_ ?_) (P.ı KX G (λ_ _ _ _ _ _ _ _ _ _ _=>rfl) ?_ ?_ ?_ ?_) (P.kj (λ_ _ _ _ _ _ _=>rfl) ?_ ?_ ?_ ?_) (P.kj (λ_ _ _ _ _ _ _=>rfl) ?_ ?_ ?_ ?_) (P.kj (λ_ _ _ _ _ _ _=>rfl) ?_ ?_ ?_ ?_) (P.kj (λ_ _ _ _ _ _ _=>rfl) ?_ ?_ ?_ ?_) (P.kj (λ_ _ _ _ _ _ _=>rfl) ?_ ?_ ?_ ?_) (P.ı KX G (λ_ _ _ _ _ _ _ _=>rfl) ?_ ?_ ?_ ?_) (P.ı KX G (λ_ _ _ _ _ _ _ _=>rfl) ?_ ?_ ?_ ?_) (P.ı KX G (λ_ _ _ _ _ _ _ _ _=>rfl) ?_ ?_ ?_ ?_) (P.ı KX G (λ_ _ _ _ _ _ _ _ _=>rfl) ?_ ?_ ?_ ?_) (P.ı KX G (λ_ _ _ _ _ _ _ _ _=>rfl) ?_ ?_ ?_ ?_) (P.ı KX G (λ_ _ _ _ _ _ _ _ _=>rfl) ?_ ?_ ?_ ?_) (P.ı KX G (λ_ _ _ _ _ _ _ _ _=>rfl) ?_ ?_ ?_ ?_) (P.ı KX G (λ_ _ _ _ _ _ _ _=>rfl) ?_ ?_ ?_ ?_) (P.ı KX G (λ_ _ _ _ _ _ _ _ _=>rfl) ?_ ?_ ?_ ?_) (P.ı KX G (λ_ _ _ _ _ _ _ _ _=>rfl) ?_ ?_ ?_ ?_) (P.ı KX G (λ_ _ _ _ _ _ _ _ _=>rfl) ?_ ?_ ?_ ?_) (P.ı KX G (λ_ _ _ _ _ _ _ _=>rfl) ?_ ?_ ?_ ?_) (P.ı KX G (λ_ _ _ _ _ _ _ _ _ _=>rfl) ?_ ?_ ?_ ?_) (P.ı KX G (λ_ _ _ _ _ _ _ _ _=>rfl) ?_ ?_ ?_ ?_) (P.ı KX G (λ_ _ _ _ _ _ _=>rfl) ?_ ?_ ?_ ?_) (P.kj (λ_ _ _ _ _ _ _ _=>rfl) ?_ ?_ ?_ ?_) (P.kj (λ_ _ _ _ _ _ _ _ _=>rfl) ?_ ?_ ?_ ?_) (P.kj (λ_ _ _ _ _ _ _ _=>rfl) ?_ ?_ ?_ ?_) (P.kj (λ_ _ _ _ _ _ _ _=>rfl) ?_ ?_ ?_ ?_) (mg_of KX G ?_) (mg_of KX G ?_) (mg_none_of KX G ?_) (mg_none_of KX G ?_) (mg_none_of KX G ?_) (mg_none_of KX G ?_) (mg_none_of KX G ?_) (mg_none_of KX G ?_) (mg_none_of KX G ?_) (mg_none_of KX G ?_) (mg_none_of KX G ?_) (mg_none_of KX G ?_) (mg_none_of KX G ?_) (mg_none_of KX G ?_) (mg_none_of KX G ?_) (mg_none_of KX G ?_) ?_ ?_ ?_ ?_ ?_ ?_ ?_ ?_ ?_ (P.xQ ?_) ?_ ?_ (P.xQ ?_) ?_ ?_ ?_ (P.xQ ?_) ?_ ?_ ?_ ?_ ?_ (P.xQ ?_) ?_ ?_ (P.nA ?_) (P.sX ?_) ?_ ?_ ?_ ?_ (P.nA ?_) (P.sX ?_) ?_ ?_ (P.nA ?_) (P.sX ?_) ?_ ?_ (P.n_ ?_) (P.nA ?_) (P.sX ?_) ?_ ?_ (P.n_ ?_) (P.nA ?_) (P.sX ?_) ?_ ?_ (P.n_ ?_) (P.nA ?_) (P.sX ?_) ?_ ?_ (P.n_ ?_) (P.nA ?_) (P.sX ?_) ?_ ?_ (P.n_ ?_) ?_ ?_ (P.xP ?_) (P.xP ?_) (P.Ni ?_) (P.Nj ?_) (P.Nk ?_) (P.HD ?_)) hmg
  any_goals (dsimp only;k_is)
  case d=>k_is
  any_goals first|kernel_rfl|(unfold L2.Ņ;kernel_rfl)
  all_goals skip
