import PyProof.Rows.All
import Wide.All
import OpenK.AllK
import Wide.FinOn
import Lean
import PyProof.EqAt
import PyProof.EqKinds
import PyProof.TupleCall
import PySem.Challenge.RW_shadowpost_k52_what_a_dial_tells
set_option Elab.async false
set_option linter.all false
set_option maxRecDepth 100000
set_option maxHeartbeats 4000000
namespace L2
open PySem PySem.Spec PyProof.Rows
abbrev Key:=Sum Int Str
def oN:Key->Value->Bool
 | .inl k,v=>Value.isInt k v
 | .inr x,v=>Value.isStrOf x v
def ZaP(w:World):Key->Int
 | .inl k=>hashInt k
 | .inr x=>hashStr w x
theorem Ľ:∀{k:Key} {v:Value},oN k v=true->(∃i t,k=Sum.inl i/\v=Value.int i t)\/(∃x t,k=Sum.inr x/\v=Value.str x t)
 | .inl i,v,h=>by
   obtain⟨t,e⟩:=Value.isInt_shape (k:=i) (v:=v) h
   exact .inl ⟨i,t,rfl,e⟩
 | .inr x,v,h=>by
   obtain⟨t,e⟩:=Value.isStrOf_shape (x:=x) (v:=v) h
   exact .inr ⟨x,t,rfl,e⟩
def zp(i:Int)(t:Tok):oN (.inl i) (.int i t)=true:=by simp[oN,Value.isInt]
def zq(x:Str)(t:Tok):oN (.inr x) (.str x t)=true:=by simp[oN,Value.isStrOf]
def Ph(a b:Int):decide ((Sum.inl a:Key)=Sum.inl b)=(a== b):=by
 by_cases e:a=b
 ·subst e;simp
 ·have h:¬(Sum.inl a:Key)=Sum.inl b:=λq=>e (Sum.inl.inj q)
  rw[decide_eq_false h]
  exact(beq_eq_false_iff_ne.mpr e).symm
def Pj(a b:Str):decide ((Sum.inr a:Key)=Sum.inr b)=decide (a=b):=by
 by_cases e:a=b
 ·subst e;simp
 ·have h:¬(Sum.inr a:Key)=Sum.inr b:=λq=>e (Sum.inr.inj q)
  rw[decide_eq_false h,decide_eq_false e]
def Pk(a:Int)(b:Str):decide ((Sum.inl a:Key)=Sum.inr b)=false:=decide_eq_false (λq=>nomatch q)
def Pn(a:Str)(b:Int):decide ((Sum.inr a:Key)=Sum.inl b)=false:=decide_eq_false (λq=>nomatch q)
def ı(prog:Program)(w:World):PySem.KeyKind prog w Key where
 is:=oN
 hash:=ZaP w
 inj:=λv a b ha hb=>by
  rcases Ľ ha with⟨i,t,rfl,rfl⟩|⟨x,t,rfl,rfl⟩
  ·rcases Ľ hb with⟨j,u,rfl,e⟩|⟨y,u,rfl,e⟩
   ·injection e with e1 _;rw[e1]
   ·exact nomatch e
  ·rcases Ľ hb with⟨j,u,rfl,e⟩|⟨y,u,rfl,e⟩
   ·exact nomatch e
   ·injection e with e1 _;rw[e1]
 byValue:=λk v h=>by
  rcases Ľ h with⟨i,t,rfl,rfl⟩|⟨x,t,rfl,rfl⟩<;>rfl
 pyHash:=λhv h=>by
  rcases Ľ hv with⟨i,t,rfl,rfl⟩|⟨x,t,rfl,rfl⟩
  ·exact wpAny_pyHash_int h
  ·exact wpAny_pyHash_str h
 eqBool:=λhu hv h=>by
  rcases Ľ hu with⟨i,t,rfl,rfl⟩|⟨x,t,rfl,rfl⟩
  ·rcases Ľ hv with⟨j,u,rfl,rfl⟩|⟨y,u,rfl,rfl⟩
   ·rw[Ph] at h;exact wpAny_eqBool_int h
   ·rw[Pk] at h;exact SeqAt.EqAt.int_str i t y u _ _ _ _ h
  ·rcases Ľ hv with⟨j,u,rfl,rfl⟩|⟨y,u,rfl,rfl⟩
   ·rw[Pn] at h;exact SeqAt.EqAt.str_int x t j u _ _ _ _ h
   ·rw[Pj] at h;exact wpAny_eqBool_str h
 «strs» := fun k x t v h=>by
   rcases Ľ h with⟨i,u,rfl,e⟩|⟨y,u,rfl,e⟩
   ·exact nomatch e
   ·injection e with e1 _
    subst e1
    cases v<;>rfl
def su(prog:Program)(w:World)(i:Int)(t:Tok):(ı prog w).is (.inl i) (.int i t)=true:=zp i t
def sy(prog:Program)(w:World)(x:Str)(t:Tok):(ı prog w).is (.inr x) (.str x t)=true:=zq x t
end L2
namespace L2
open PySem PySem.Spec PyProof.Rows
inductive V where
 |non|bl (b:Bool)|int (i:Int)|str (x:Str)|Kr (b:Array UInt8)|flt (b:UInt64)|ref (a:Addr)|ty (n:String)
 deriving DecidableEq
def RelV:V->Value->Prop
 | .non,u=>u=Value.none
 | .bl b,u=>u=Value.bool b
 | .int i,u=>∃t,u=Value.int i t
 | .str x,u=>∃t,u=Value.str x t
 | .Kr b,u=>∃t,u=Value.bytes b t
 | .flt b,u=>∃t,u=Value.float b t
 | .ref a,u=>u=Value.ref a
 | .ty n,u=>u=Value.type n
abbrev Vals:List V->List Value->Prop:=Paired RelV
theorem Vals.length{xs:List V}{us:List Value}(r:Vals xs us):xs.length=us.length:=Paired.length r
theorem Vals.get:∀{xs:List V} {us:List Value} {i:Nat} {x:V},Vals xs us->xs[i]?=some x->∃u,us[i]?=some u/\RelV x u
 |_,_,_,_,.nil,e=>by simp at e
 |_,_,0,_,.cons r _,e=>by simp at e;subst e;exact⟨_,rfl,r⟩
 |_,_,i+1,x,.cons _ t,e=>by
  obtain⟨u,h1,h2⟩:=Vals.get (i:=i) (x:=x) t (by simpa using e)
  exact⟨u,by simpa using h1,h2⟩
theorem Vals.append:∀{xs ys:List V} {us ws:List Value},Vals xs us->Vals ys ws->Vals (xs++ys) (us++ws)
 |_,_,_,_,.nil,s=>s
 |_,_,_,_,.cons r t,s=>.cons r (Vals.append t s)
theorem Vals.take:∀{xs:List V} {us:List Value} (n:Nat),Vals xs us->Vals (xs.take n) (us.take n)
 |_,_,0,_=>.nil
 |_,_,_+1,.nil=>.nil
 |_,_,n+1,.cons r t=>.cons r (Vals.take n t)
theorem Vals.drop:∀{xs:List V} {us:List Value} (n:Nat),Vals xs us->Vals (xs.drop n) (us.drop n)
 |_,_,0,r=>r
 |_,_,_+1,.nil=>.nil
 |_,_,n+1,.cons _ t=>Vals.drop n t
def gU:Option V->Option Value->Prop
 |some v,some u=>RelV v u
 |none,none=>True
 |_,_=>False
def KV{κ:Type}:List (κ×V)->List (κ×Value)->Prop:=Paired λ(p:κ×V) (q:κ×Value)=>p.1=q.1/\RelV p.2 q.2
def kV:Key->V
 | .inl i=>.int i
 | .inr x=>.str x
inductive HO where
 /-- a list -/
 |lst (xs:List V)
 /-- a tuple (never changes) -/
 |tup (xs:List V)
 /-- a dict whose keys are ints and texts;one whose keys are tuples of ints and texts (the empty one is both) -/
 |dK (kvs:List (Key×V))|dT (kvs:List (List Key×V))
 /-- a set of ints:its members,its size -/
 |set (S:Int->Bool) (n:Nat)
 /-- an instance of the class at C,its dict at dx,its attributes -/
 |ins (C dx:Addr) (fs:List (Str×V))
 /-- the dict of the instance at x -/
 |own (x:Addr)
 /-- the dict of an exception -/
 |xd (fs:List (Str×V))
 /-- a bound method,f of x -/
 |met (f x:Addr)
 /-- a range object lo,lo+1,.. below hi -/
 |rng (lo hi:Int)
 /-- a thing that is known to the object (the script;a dict while a loop walks it):read,never written while it is so -/
 |bI (o:Obj) (u:HO)
 /-- a code object's table -/
 |nQ (q:Str)
 /-- a code made of such a table,by its name -/
 |Pq (q:Str)
 /-- any other thing,by what is true of its one object (a def of one's own:ZcO a S n:=HO.ext λh=>..) -/
 |ext (φ:Heap->Prop)
abbrev Hp:=Addr->Option HO
def upd(H:Hp)(a:Addr)(o:HO):Hp:=λb=>if b=a then some o else H b
def č{H:Hp}{a:Addr}{o:HO}:upd H a o a=some o:=by unfold upd;rw[if_pos rfl]
def ċ{H:Hp}{a b:Addr}{o:HO}(h:b≠a):upd H a o b=H b:=by unfold upd;rw[if_neg h]
def Ks{H:Hp}{a b:Addr}{o u:HO}(h:H a=some o)(h':H b=some u)(d:o≠u):a≠b:=by
 intro e;subst e;rw[h] at h';exact d (Option.some.inj h')
def ĩ{H:Hp}{a b:Addr}{o:HO}(h:H a=some o)(h':H b=none):a≠b:=by
 intro e;subst e;rw[h] at h';cases h'
section
variable(P:Program)(w:World)
def ľ(H:Hp)(h:Heap)(a:Addr):HO->Prop
 | .lst xs=>xs.length<=sizeLine/\∃(its:List Value) (n:Nat),Vals xs its/\h.get? a=some {cls:=.type "list",data:=.seq its.toArray n}
 | .tup xs=>xs.length<=sizeLine/\∃its:List Value,Vals xs its/\IsTup h a its.toArray
 | .dK kvs=>kvs.length<=sizeLine/\(a== sysModules)=false/\∃vs,KV kvs vs/\h.DictOf (ı P w) a vs
 | .dT kvs=>kvs.length≤sizeLine∧(a== sysModules)=false∧∃xs:List (List Key×Addr×Value),
     Paired (λ(p:List Key×V) (q:List Key×Addr×Value)=>p.1=q.1/\H q.2.1=some (.tup (p.1.map kV))/\RelV p.2 q.2.2) kvs xs/\
     ∃o es ep,h.get? a=some o/\o.ExactDict/\o.data=.dict es ep/\es.toList=xs.map (entryOfKey (tupleKind (ı P w)))/\(xs.map (·.1)).Nodup
 | .set S n=>h.SetOf (intKind P w) a S n
 | .ins C dx fs=>H dx=some (.own a)∧fs.length≤1000∧dx≠a∧h.get? a=some (PySem.W.instObj C dx)∧
     ∃mA,h.Ns1 dx mA/\(∀f,gU (fs.lookup f) (mA f))/\PySem.Within mA (fs.map (·.1))
 | .own _=>∃o,h.get? a=some o
 | .xd fs=>∃mA,h.Ns1 a mA/\∀f,gU (fs.lookup f) (mA f)
 | .rng lo hi=>∃t u v,h.get? a=some {cls:=.type "range",data:=.fields #[.int lo t,.int hi u,.int 1 v]}
 | .bI o u=>h.get? a=some o/\ľ H h a u
 | .nQ q=>∃ps:Array Value,h.get? a=some {cls:=.none,data:=.fields ps}/\TriplesOk ps.toList/\∀pos cv,codeAmong pos ps.toList=some cv->∃c,cv=.ref c/\H c=some (.Pq q)
 | .Pq q=>h.CodeRec (.ref a) q
 | .met f x=>h.get? a=some (PySem.W.methodObj (.ref f) (.ref x))
 | .ext φ=>φ h/\(∃o,h.get? a=some o)/\∀h1 h2:Heap,φ h1->(∀o,h1.get? a=some o->h2.get? a=some o)->φ h2
def cJ(H:Hp)(h:Heap):Prop:=∀a o,H a=some o->ľ P w H h a o
end
section
variable{P:Program}{w:World}{H H':Hp}{h h':Heap}{a:Addr}{o:HO}
theorem ľ.lt(x:ľ P w H h a o):a<h.objs.size:=by
 cases o with
 |lst xs=>obtain⟨_,_,_,_,e⟩:=x;exact Heap.lt_size e
 |tup xs=>obtain⟨_,_,_,p⟩:=x;exact p.lt
 |dK kvs=>obtain⟨_,_,_,_,o,_,_,e,_⟩:=x;exact Heap.lt_size e
 |dT kvs=>obtain⟨_,_,_,_,o,_,_,e,_⟩:=x;exact Heap.lt_size e
 |set S n=>obtain⟨o,_,_,_,e,_⟩:=x;exact Heap.lt_size e
 |ins C dx fs=>obtain⟨_,_,_,e,_⟩:=x;exact Heap.lt_size e
 |own y=>obtain⟨_,e⟩:=x;exact Heap.lt_size e
 |xd fs=>obtain⟨_,⟨_,_,_,e,_⟩,_⟩:=x;exact Heap.lt_size e
 |rng lo hi=>obtain⟨_,_,_,e⟩:=x;exact Heap.lt_size e
 |bI ob u=>obtain⟨e,_⟩:=x;exact Heap.lt_size e
 |nQ q=>obtain⟨_,e,_⟩:=x;exact Heap.lt_size e
 |Pq q=>obtain⟨c,o,_,_,z,e,_⟩:=x;cases z;exact Heap.lt_size e
 |met f y=>exact Heap.lt_size (show h.get? a=some _ from x)
 |ext φ=>obtain⟨_,⟨_,e⟩,_⟩:=x;exact Heap.lt_size e
theorem Paired.Pr{α β:Type}{F G:α->β->Prop}:∀{l₁:List α} {l₂:List β},Paired F l₁ l₂->(∀a b,F a b->G a b)->Paired G l₁ l₂
 |_,_,.nil,_=>.nil
 |_,_,.cons r t,f=>.cons (f _ _ r) (Paired.Pr t f)
def ľ.stay(x:ľ P w H h a o)(k:∀b u,(b=a\/H b=some (.own a))->h.get? b=some u->h'.get? b=some u)
 (ho:∀b,H b=some (.own a)->H' b=some (.own a))(ht:∀b xs,H b=some (.tup xs)->H' b=some (.tup xs))(hc:∀b q,H b=some (.Pq q)->H' b=some (.Pq q):=by exact λ_ _ z=>z):ľ P w H' h' a o:=by
 induction o with
 |lst xs=>obtain⟨z,its,n,r,e⟩:=x;exact⟨z,its,n,r,k _ _ (.inl rfl) e⟩
 |tup xs=>obtain⟨z,its,r,ob,e,c⟩:=x;exact⟨z,its,r,ob,k _ _ (.inl rfl) e,c⟩
 |dK kvs=>obtain⟨z,y,vs,r,ob,es,ep,e,c⟩:=x;exact⟨z,y,vs,r,ob,es,ep,k _ _ (.inl rfl) e,c⟩
 |dT kvs=>
  obtain⟨z,y,xs,r,ob,es,ep,e,c⟩:=x
  exact⟨z,y,xs,Paired.Pr r λp q z=>⟨z.1,ht _ _ z.2.1,z.2.2⟩,ob,es,ep,k _ _ (.inl rfl) e,c⟩
 |set S n=>obtain⟨ob,es,ep,t,e,c⟩:=x;exact⟨ob,es,ep,t,k _ _ (.inl rfl) e,c⟩
 |ins C dx fs=>
  obtain⟨d,z,ne,e,mA,⟨od,es,ep,e2,c⟩,r⟩:=x
  exact⟨ho _ d,z,ne,k _ _ (.inl rfl) e,mA,⟨od,es,ep,k _ _ (.inr d) e2,c⟩,r⟩
 |own y=>obtain⟨ob,e⟩:=x;exact⟨ob,k _ _ (.inl rfl) e⟩
 |xd fs=>obtain⟨mA,⟨od,es,ep,e,c⟩,r⟩:=x;exact⟨mA,⟨od,es,ep,k _ _ (.inl rfl) e,c⟩,r⟩
 |rng lo hi=>obtain⟨t,u,v,e⟩:=x;exact⟨t,u,v,k _ _ (.inl rfl) e⟩
 |bI ob u ih=>obtain⟨e,q⟩:=x;exact⟨k _ _ (.inl rfl) e,ih q⟩
 |nQ q=>
  obtain⟨ps,e,t,r⟩:=x
  exact⟨ps,k a _ (.inl rfl) e,t,λpos cv z=>let ⟨c,z1,z2⟩:=r pos cv z;⟨c,z1,hc c q z2⟩⟩
 |Pq q=>
  obtain⟨c,o,vs,t,z,e,r⟩:=x
  cases z
  exact⟨a,o,vs,t,rfl,k a _ (.inl rfl) e,r⟩
 |met f y=>
  have e:h.get? a=some (PySem.W.methodObj (.ref f) (.ref y)):=x
  show h'.get? a=some (PySem.W.methodObj (.ref f) (.ref y))
  exact k a _ (.inl rfl) e
 |ext φ=>obtain⟨p,⟨o,e⟩,st⟩:=x;exact⟨st _ _ p λo q=>k _ _ (.inl rfl) q,⟨o,k _ _ (.inl rfl) e⟩,st⟩
theorem cJ.lt(x:cJ P w H h)(e:H a=some o):a<h.objs.size:=(x a o e).lt
def cJ.fresh(x:cJ P w H h)(e:h.objs.size<=a):H a=none:=by
 cases q:H a with
 |none=>rfl
 |some u=>exact absurd (Nat.lt_of_lt_of_le (x.lt q) e) (Nat.lt_irrefl _)
def cJ.kept(x:cJ P w H h)(k:∀b u,h.get? b=some u->h'.get? b=some u):cJ P w H h':=λa o e=>
 (x a o e).stay (λb u _ q=>k b u q) (λ_ q=>q) λ_ _ q=>q
def cJ.laid(x:cJ P w H h)(k:∀b u,h.get? b=some u->h'.get? b=some u)(hp:h.objs.size<=a)(new:ľ P w (upd H a o) h' a o):cJ P w (upd H a o) h':=λb u e=>by
 have hn:=x.fresh hp
 by_cases hb:b=a
 ·subst hb;rw[č] at e;cases e;exact new
 ·rw[ċ hb] at e
  exact(x b u e).stay (λc v _ q=>k c v q) (λc q=>by rw[ċ (ĩ q hn)];exact q) (λc xs q=>by rw[ċ (ĩ q hn)];exact q) λc xs q=>by rw[ċ (ĩ q hn)];exact q
end
def Rd(H:Hp)(a:Addr)(u:HO):Prop:=H a=some u\/∃o,H a=some (.bI o u)
def Rd.ok{P:Program}{w:World}{H:Hp}{h:Heap}{a:Addr}{u:HO}(r:Rd H a u)(x:cJ P w H h):ľ P w H h a u:=by
 rcases r with r|⟨o,r⟩
 ·exact x a u r
 ·obtain⟨_,q⟩:=x a _ r
  exact q
def Vn:Option HO->Prop
 |some (.lst _)=>True
 |some (.dK _)=>True
 |some (.dT _)=>True
 |some (.set _ _)=>True
 |some (.ins _ _ _)=>True
 |some (.ext _)=>True
 |some (.xd _)=>True
 |_=>False
section
variable{P:Program}{w:World}{H:Hp}{h h':Heap}{x e:Addr}{o':HO}
def cJ.write(ok:cJ P w H h)(mu:Vn (H x))(he:e=x\/H e=some (.own x))(k:∀b u,b≠e->h.get? b=some u->h'.get? b=some u)(heo:∃u,h'.get? e=some u)
 (new:ľ P w (upd H x o') h' x o'):cJ P w (upd H x o') h':=λb u q=>by
 have Vo:∀c y,H c=some (.own y)->c≠x:=λc y r z=>by subst z;rw[r] at mu;exact mu
 have ZaQ:∀c xs,H c=some (.tup xs)->c≠x:=λc xs r z=>by subst z;rw[r] at mu;exact mu
 have ZaR:∀c q,H c=some (.Pq q)->c≠x:=λc xs r z=>by subst z;rw[r] at mu;exact mu
 by_cases hb:b=x
 ·subst hb;rw[č] at q;cases q;exact new
 ·rw[ċ hb] at q
  by_cases hbe:b=e
  ·have q':H b=some (.own x):=by
    rcases he with z|z
    ·exact absurd (hbe.trans z) hb
    ·rw[hbe];exact z
   rw[q] at q';cases q'
   obtain⟨v,hv⟩:=heo
   exact⟨v,by rw[hbe];exact hv⟩
  ·refine(ok b u q).stay (λc v hc r=>k c v ?_ r) (λc r=>by rw[ċ (Vo c b r)];exact r) (λc xs r=>by rw[ċ (ZaQ c xs r)];exact r) λc xs r=>by rw[ċ (ZaR c xs r)];exact r
   rcases hc with rfl|hc
   ·exact hbe
   ·rintro rfl
    rcases he with z|z
    ·exact Vo c b hc z
    ·rw[hc] at z;cases z;exact hb rfl
end
structure Un(fs ex:List Addr)(H H':Hp)(h h':Heap):Prop where
 keep:∀b o,h.get? b=some o->H b=none->b∉fs->b∉ex->h'.get? b=some o
 slot:∀b o,h.get? b=some o->H b=none->b∈fs->b∉ex->∃sl,h'.get? b=some {o with slots:=sl}
 free:∀b o,h.get? b=some o->H b=none->b∉ex->H' b=none
 there:∀b o,h.get? b=some o->b∉ex->∃o',h'.get? b=some o'
 tups:∀b xs,H b=some (.tup xs)->H' b=some (.tup xs)
 nU:∀b o u,H b=some (.bI o u)->H' b=some (.bI o u)
 jE:∀b q,H b=some (.nQ q)->H' b=some (.nQ q)
section
variable{fs fs' ex ex':List Addr}{H H1 H2:Hp}{h h1 h2 h':Heap}{a x e:Addr}{o:HO}
def Un.any(u:Un fs ex H H1 h h1){b:Addr}{ob:Obj}(q:h.get? b=some ob)(n:H b=none)(hx:b∉ex):∃sl,h1.get? b=some {ob with slots:=sl}:=by
 by_cases hb:b∈fs
 ·exact u.slot b ob q n hb hx
 ·exact⟨ob.slots,u.keep b ob q n hb hx⟩
def Un.kept(k:∀b u,h.get? b=some u->h'.get? b=some u):Un fs ex H H h h':=
 ⟨λb ob q _ _ _=>k b ob q,λb ob q _ _ _=>⟨ob.slots,k b ob q⟩,λ_ _ _ n _=>n,λb ob q _=>⟨ob,k b ob q⟩,λ_ _ q=>q,λ_ _ _ q=>q,λ_ _ q=>q⟩
def Un.refl:Un fs ex H H h h:=Un.kept λ_ _ q=>q
def Un.laid(k:∀b u,h.get? b=some u->h'.get? b=some u)(hp:h.objs.size<=a)(hn:H a=none):Un fs ex H (upd H a o) h h' where
 keep:=λb u q _ _ _=>k b u q
 slot:=λb u q _ _ _=>⟨u.slots,k b u q⟩
 free:=λb u q n _=>by rw[ċ (Nat.ne_of_lt (Nat.lt_of_lt_of_le (Heap.lt_size q) hp))];exact n
 there:=λb u q _=>⟨u,k b u q⟩
 tups:=λb xs q=>by rw[ċ (ĩ q hn)];exact q
 nU:=λb u xs q=>by rw[ċ (ĩ q hn)];exact q
 jE:=λb ps q=>by rw[ċ (ĩ q hn)];exact q
def Un.write(mu:Vn (H x))(he:e=x\/H e=some (.own x))(k:∀b u,b≠e->h.get? b=some u->h'.get? b=some u)(heo:∃u,h'.get? e=some u):Un fs ex H (upd H x o) h h':=by
 have hx:∀b,H b=none->b≠x:=λb n z=>by subst z;rw[n] at mu;exact mu
 have hb:∀b,H b=none->b≠e:=λb n z=>by
  subst z
  rcases he with r|r
  ·exact hx b n r
  ·rw[n] at r;cases r
 have hm:∀b u,H b=some u->¬Vn (some u)->b≠x:=λb u q nm z=>by subst z;rw[q] at mu;exact nm mu
 refine⟨λb u q n _ _=>k b u (hb b n) q,λb u q n _ _=>⟨u.slots,k b u (hb b n) q⟩,λb u q n _=>by rw[ċ (hx b n)];exact n,λb u q _=>?_,
  λb xs q=>by rw[ċ (hm b _ q λz=>z)];exact q,λb u xs q=>by rw[ċ (hm b _ q λz=>z)];exact q,λb ps q=>by rw[ċ (hm b _ q λz=>z)];exact q⟩
 by_cases hbe:b=e
 ·subst hbe;exact heo
 ·exact⟨u,k b u hbe q⟩
end
def trk(h:Heap)(H:Hp):List Addr:=(List.range h.objs.size).filter λa=>(H a).isSome
def nW(h:Heap)(H:Hp):Heap:=PySem.W.hideAll h (trk h H)
def zu(h:Heap)(H:Hp):(nW h H).objs.size=h.objs.size:=PySem.W.hideAll_size _ _
def Bj{h:Heap}{H:Hp}{b:Addr}{o:Obj}(e:h.get? b=some o)(n:H b=none):(nW h H).get? b=some o:=
 PySem.W.hideAll_get _ e λhm=>by
  have q:(H b).isSome=true:=(List.mem_filter.mp hm).2
  rw[n] at q;simp at q
def Ht{h:Heap}{H:Hp}{b:Addr}{o:Obj}(e:(nW h H).get? b=some o):h.get? b=some o/\H b=none:=by
 have e':h.get? b=some o:=PySem.W.of_hideAll (trk h H) e
 refine⟨e',?_⟩
 cases q:H b with
 |none=>rfl
 |some x=>
  have hm:b∈trk h H:=List.mem_filter.mpr ⟨List.mem_range.mpr (Heap.lt_size e'),by simp[q]⟩
  have z:(nW h H).get? b=none:=PySem.W.hideAll_none (trk h H) hm
  rw[z] at e;cases e
def Hu(g h:Heap)(L:Addr):List (Addr×Obj):=(List.range h.objs.size).filterMap λa=>if a=L\/(g.get? a).isSome=true then none else(h.get? a).map λo=>(a,o)
def rest(g h:Heap)(L d:Addr):List (Addr×Obj):=(Hu g h L).filter λp=>decide (p.1≠d)
end L2
namespace L2
open PySem PySem.Spec PyProof.Rows
structure Mod(K:PySem.W.Frag)(mg:Str->Option Value)(base:Heap):Prop where
 Vp:K.In base
 glob:base.Ns mainGlobals mg
 blt:∃mb,base.Ns builtinsNs mb/\∀x:Str,x≠ "__name__" ->mb x=bootBuiltins x
 nolimit:base.NoLimit
def lams:List Str:=[]
abbrev qe(x:Str):Str:=(x ++ ".<locals>.") ++ "<lambda>"
def TabsOk(K:PySem.W.Frag)(mg:Str->Option Value)(base:Heap)(H:Hp):Prop:=∀x c P,x∈lams->PySem.W.tabIn K x=some (c,P)->PySem.W.CodeHd base c P/\H P=some (.nQ (qe x))/\base.BuiltinsAt mg P
structure Cx where
 prog:Program
 w:World
 K:PySem.W.Frag
 mg:Str->Option Value
 base:Heap
 A:Around
 N:List Str
 s₀:Shared
 H₀:Hp
 env:Env
 outer:List Env
 stack:List Env
 ex:List Addr
 fn:Str->Bool
 calm:Bool
 pn:List (Addr×Obj)
 xe:Value->Shared->Prop
def frs(l:List Env):List Addr:=l.filterMap (·.frame)
abbrev Cx.fs(X:Cx):List Addr:=frs X.outer
def sE(sc:Scope)(x:Str):Prop:=sc.names.lookup x=some .local\/sc.names.lookup x=some .cell\/sc.names.lookup x=some .free
def Loc(sc:Scope)(x:Str):Prop:=sc.names.lookup x=some .local\/sc.names.lookup x=some .cell
def Look(env:Env)(h:Heap)(m:Str->Option Value)(x:Str)(u:Value):Prop:=
 (env.kindOf x=some .local/\m x=some u)\/((env.kindOf x=some .cell\/env.kindOf x=some .free)/\∃c,env.cells.lookup x=some c/\h.IsCell c (some u))
structure Cx.Ok(X:Cx):Prop where
 mod:Mod X.K X.mg X.base
 kind:X.env.scope.kind=.function
 glob:X.env.globals=mainGlobals
 blt:X.env.builtins=builtinsNs
 above:X.s₀.heap.objs.size<=X.env.locals
 inj:∀x y c,X.env.cells.lookup x=some c->X.env.cells.lookup y=some c->x=y
 has:∀x,(X.env.kindOf x=some .cell\/X.env.kindOf x=some .free)->∃c,X.env.cells.lookup x=some c
 cab:∀x c,X.fn x=true->X.env.cells.lookup x=some c->X.s₀.heap.objs.size<=c
 hd:X.calm=true->X.A.handled=none
 frames:X.A.frames=some X.stack
 stk:X.stack=X.outer\/(X.stack=X.env::X.outer/\X.env.frame=some X.env.locals)
 exf:∀b∈X.ex,b≠X.env.locals/\∀x c,X.env.cells.lookup x=some c->c≠b
 bs:∀b o,X.base.get? b=some o->X.s₀.heap.get? b=some o/\X.H₀ b=none
 Hv:X.base.objs.size<=X.s₀.heap.objs.size
 zx:∀b o,X.base.get? b=some o->b∉X.ex
 Hw:∀b∈X.ex,b∉X.fs
 jF:X.s₀.heap.FunFrames X.base X.outer
 Pu:∀b∈X.fs,X.H₀ b=none
 tb:TabsOk X.K X.mg X.base X.H₀
structure Inv(X:Cx)(pins:List (Addr×Obj))(σ:List (Option V))(H:Hp)(s:Shared):Prop where
 ok:X.Ok
 os:s.os=X.s₀.os
 bare:AllBare s.gens
 base:Un X.fs X.ex X.H₀ H X.s₀.heap s.heap
 loc:∃m,s.heap.Ns X.env.locals m/\∀(i:Nat) (x:Str) (v:V),X.N[i]?=some x->σ[i]?=some (some v)->sE X.env.scope x->∃u,RelV v u/\Look X.env s.heap m x u
 cell:∀x c,X.env.cells.lookup x=some c->∃v,s.heap.IsCell c v
 free:H X.env.locals=none
 dJ:∀x c,X.env.cells.lookup x=some c->H c=none
 pin:∀p∈X.pn++pins,s.heap.get? p.1=some p.2/\H p.1=none/\p.1≠X.env.locals/\p.1∉X.fs/\∀v,p.2.data≠ .cell v
 hok:cJ X.prog X.w H s.heap
 len:σ.length=X.N.length
section
variable{X:Cx}{pins:List (Addr×Obj)}{σ:List (Option V)}{H H':Hp}{s:Shared}{h':Heap}
def Cx.Ok.ZaS(ok:X.Ok){b:Addr}{o:Obj}(e:X.base.get? b=some o):b∉X.fs:=λhb=>by
 have:=(ok.jF.mem hb).1
 rw[e] at this;cases this
theorem Inv.bs(I:Inv X pins σ H s):∀b o,X.base.get? b=some o->s.heap.get? b=some o/\H b=none:=λb o e=>
 ⟨I.base.keep b o (I.ok.bs b o e).1 (I.ok.bs b o e).2 (I.ok.ZaS e) (I.ok.zx b o e),I.base.free b o (I.ok.bs b o e).1 (I.ok.bs b o e).2 (I.ok.zx b o e)⟩
def Inv.bk(I:Inv X pins σ H s):∀b o,X.base.get? b=some o->s.heap.get? b=some o:=λb o e=>(I.bs b o e).1
theorem Inv.tb(I:Inv X pins σ H s):TabsOk X.K X.mg X.base H:=λx c P hx e=>⟨(I.ok.tb x c P hx e).1,I.base.jE _ _ (I.ok.tb x c P hx e).2.1,(I.ok.tb x c P hx e).2.2⟩
theorem Inv.mod(I:Inv X pins σ H s):Mod X.K X.mg X.base:=I.ok.mod
def Inv.jQ(I:Inv X pins σ H s):X.K.In s.heap:=I.ok.mod.Vp.keeps I.bk
theorem Inv.lt(I:Inv X pins σ H s):X.env.locals<s.heap.objs.size:=let ⟨_,hn,_⟩:=I.loc;hn.lt
def Inv.sz(I:Inv X pins σ H s):X.s₀.heap.objs.size<=s.heap.objs.size:=Nat.le_trans I.ok.above (Nat.le_of_lt I.lt)
def Inv.ZaT(I:Inv X pins σ H s){a:Addr}(h:s.heap.objs.size<=a):a∉X.fs:=λhb=>by
 obtain⟨_,o,ho,_⟩:=I.ok.jF.mem hb
 exact absurd (Nat.lt_of_lt_of_le (Heap.lt_size ho) (Nat.le_trans I.sz h)) (Nat.lt_irrefl _)
def Inv.Px(I:Inv X pins σ H s):∀x c,X.env.cells.lookup x=some c->c≠X.env.locals:=λx c e z=>by
 obtain⟨v,o,ho,hd⟩:=I.cell x c e
 obtain⟨m,⟨o',es,ep,ho',hd',_⟩,_⟩:=I.loc
 rw[z,ho'] at ho;cases ho;rw[hd'] at hd;cases hd
theorem Inv.jF(I:Inv X pins σ H s):s.heap.FunFrames X.base X.outer:=by
 have all:∀(l:List Env),(∀b∈frs l,b∈X.fs)->X.s₀.heap.FunFrames X.base l->s.heap.FunFrames X.base l:=by
  intro l
  induction l with
  |nil=>intro _ _;trivial
  |cons env r ih=>
   intro hs hl
   obtain⟨hk,⟨L,o,hf,hn,ho,hd⟩,hr⟩:=hl
   have hL:L∈X.fs:=hs L (by unfold frs;rw[List.filterMap_cons,hf];exact List.mem_cons_self)
   obtain⟨sl,e⟩:=I.base.slot L o ho (I.ok.Pu L hL) hL λz=>I.ok.Hw L z hL
   exact⟨hk,⟨L,_,hf,hn,e,hd⟩,ih (λb hb=>hs b (by unfold frs;rw[List.filterMap_cons,hf];exact List.mem_cons_of_mem _ hb)) hr⟩
 exact all X.outer (λ_ hb=>hb) I.ok.jF
theorem Inv.stack(I:Inv X pins σ H s):s.heap.FunFrames X.base X.stack:=by
 rcases I.ok.stk with e|⟨e,hf⟩
 ·rw[e];exact I.jF
 ·rw[e]
  obtain⟨m,hn,_⟩:=I.loc
  refine .cons (by rw[I.ok.kind];decide) hf hn ?_ I.jF
  exact Heap.get?_none_of_le (Nat.le_trans I.ok.Hv I.ok.above)
def Inv.kW(I:Inv X pins σ H s):∀b∈frs X.stack,b∈X.env.locals::X.fs:=λb hb=>by
 rcases I.ok.stk with e|⟨e,hf⟩
 ·rw[e] at hb;exact List.mem_cons_of_mem _ hb
 ·rw[e] at hb
  unfold frs at hb
  rw[List.filterMap_cons,hf] at hb
  exact hb
def Inv.wQ(I:Inv X pins σ H s):∀b∈frs X.stack,H b=none:=λb hb=>by
 rcases List.mem_cons.mp (I.kW b hb) with e|hb
 ·rw[e];exact I.free
 ·obtain⟨_,o,ho,_⟩:=I.ok.jF.mem hb
  exact I.base.free b o ho (I.ok.Pu b hb) λz=>I.ok.Hw b z hb
def Inv.step{g':Array GenState}{t':Nat}{d':Drawn}{ch:List Addr}(I:Inv X pins σ H s)
 (hch:∀b∈ch,(b∈X.ex\/X.s₀.heap.objs.size<=b)/\b≠X.env.locals/\(∀x c,X.env.cells.lookup x=some c->c≠b)/\∀p∈X.pn++pins,p.1≠b)
 (keep:∀b o,b≠X.env.locals->b∉X.fs->b∉ch->s.heap.get? b=some o->H b=none->h'.get? b=some o)
 (slot:∀b o,b≠X.env.locals->b∈X.fs->b∉ch->s.heap.get? b=some o->H b=none->∃sl,h'.get? b=some {o with slots:=sl})(free:∀b o,b∉ch->s.heap.get? b=some o->H b=none->H' b=none)
 (there:∀b o,b∉ch->s.heap.get? b=some o->∃o',h'.get? b=some o')
 (tups:∀b xs,H b=some (.tup xs)->H' b=some (.tup xs))(nU:∀b o u,H b=some (.bI o u)->H' b=some (.bI o u))(jE:∀b q,H b=some (.nQ q)->H' b=some (.nQ q))
 (ns:∀m,s.heap.Ns X.env.locals m->h'.Ns X.env.locals m)(hok:cJ X.prog X.w H' h')(hg:AllBare g') :
 Inv X pins σ H' {s with heap:=h',gens:=g',drawn:=d',toks:=t'}:=by
 have neL:∀b o,X.s₀.heap.get? b=some o->b≠X.env.locals:=λb o e=>Nat.ne_of_lt (Nat.lt_of_lt_of_le (Heap.lt_size e) I.ok.above)
 have neC:∀b o,X.s₀.heap.get? b=some o->b∉X.ex->b∉ch:=λb o e hx hb=>by
  rcases(hch b hb).1 with z|z
  ·exact hx z
  ·exact absurd (Nat.lt_of_lt_of_le (Heap.lt_size e) z) (Nat.lt_irrefl _)
 have cellK:∀x c,X.env.cells.lookup x=some c->∀v,s.heap.IsCell c v->h'.IsCell c v:=λx c e v ⟨o,ho,hd⟩=>by
  have Vq:c∉ch:=λz=>(hch c z).2.2.1 x c e rfl
  by_cases hc:c∈X.fs
  ·obtain⟨sl,q⟩:=slot c o (I.Px x c e) hc Vq ho (I.dJ x c e)
   exact⟨_,q,hd⟩
  ·exact⟨o,keep c o (I.Px x c e) hc Vq ho (I.dJ x c e),hd⟩
 refine⟨I.ok,I.os,hg,⟨λb o e n hb hx=>?_,λb o e n hb hx=>?_,λb o e n hx=>?_,λb o e hx=>?_,λb xs e=>tups b xs (I.base.tups b xs e),λb o xs e=>nU b o xs (I.base.nU b o xs e),λb ps e=>?_⟩,?_,λx c e=>?_,?_,λx c e=>?_,λp hp=>?_,hok,I.len⟩
 ·exact keep b o (neL b o e) hb (neC b o e hx) (I.base.keep b o e n hb hx) (I.base.free b o e n hx)
 ·obtain⟨sl,e1⟩:=I.base.slot b o e n hb hx
  obtain⟨sl',e2⟩:=slot b _ (neL b o e) hb (neC b o e hx) e1 (I.base.free b o e n hx)
  exact⟨sl',e2⟩
 ·obtain⟨o',e1⟩:=I.base.there b o e hx
  exact free b o' (neC b o e hx) e1 (I.base.free b o e n hx)
 ·obtain⟨o',e1⟩:=I.base.there b o e hx
  exact there b o' (neC b o e hx) e1
 ·exact jE b ps (I.base.jE b ps e)
 ·obtain⟨m,hn,hl⟩:=I.loc
  refine⟨m,ns m hn,λi x v e1 e2 e3=>?_⟩
  obtain⟨u,r,l⟩:=hl i x v e1 e2 e3
  refine⟨u,r,?_⟩
  rcases l with l|⟨k,c,e,z⟩
  ·exact .inl l
  ·exact .inr ⟨k,c,e,cellK x c e _ z⟩
 ·obtain⟨v,z⟩:=I.cell x c e
  exact⟨v,cellK x c e v z⟩
 ·obtain⟨m,⟨o,_,_,ho,_⟩,_⟩:=I.loc
  exact free _ o (λz=>(hch _ z).2.1 rfl) ho I.free
 ·obtain⟨v,o,ho,hd⟩:=I.cell x c e
  exact free c o (λz=>(hch c z).2.2.1 x c e rfl) ho (I.dJ x c e)
 ·obtain⟨e,n,ne,nf,d⟩:=I.pin p hp
  have Vq:p.1∉ch:=λz=>(hch p.1 z).2.2.2 p hp rfl
  exact⟨keep p.1 p.2 ne nf Vq e n,free p.1 p.2 Vq e n,ne,nf,d⟩
def Inv.un{t':Nat}(I:Inv X pins σ H s)(u:Un X.fs [] H H' s.heap h')(hok:cJ X.prog X.w H' h'):Inv X pins σ H' {s with heap:=h',toks:=t'}:=by
 obtain⟨m,⟨o,es,ep,ho,r⟩,_⟩:=id I.loc
 obtain⟨sl,hL⟩:=u.any ho I.free (by simp)
 exact I.step (g':=s.gens) (d':=s.drawn) (ch:=[]) (λ_ z=>nomatch z) (λb o _ hb _ e n=>u.keep b o e n hb (by simp)) (λb o _ hb _ e n=>u.slot b o e n hb (by simp)) (λb o _ e n=>u.free b o e n (by simp)) (λb o _ e=>u.there b o e (by simp)) u.tups u.nU u.jE (λm' hm=>by
  obtain⟨o',es',ep',ho',r'⟩:=hm
  rw[ho] at ho';cases ho'
  exact⟨_,es',ep',hL,r'⟩) hok I.bare
def Inv.call{g':Array GenState}{t':Nat}{d':Drawn}{ch:List Addr}(I:Inv X pins σ H s)(u:Un (frs X.stack) ch H H' s.heap h')(hok:cJ X.prog X.w H' h')(hg:AllBare g')
 (hch:∀b∈ch,(b∈X.ex\/X.s₀.heap.objs.size<=b)/\b≠X.env.locals/\(∀x c,X.env.cells.lookup x=some c->c≠b)/\∀p∈X.pn++pins,p.1≠b) :
 Inv X pins σ H' {s with heap:=h',gens:=g',drawn:=d',toks:=t'}:=by
 obtain⟨m,⟨o,es,ep,ho,r⟩,_⟩:=id I.loc
 obtain⟨sl,hL⟩:=u.any ho I.free λz=>(hch _ z).2.1 rfl
 exact I.step (ch:=ch) hch (λb o hL hb hc e n=>u.keep b o e n (λz=>(List.mem_cons.mp (I.kW b z)).elim hL hb) hc) (λb o _ _ hc e n=>u.any e n hc) (λb o hc e n=>u.free b o e n hc) (λb o hc e=>u.there b o e hc) u.tups u.nU u.jE (λm' hm=>by
  obtain⟨o',es',ep',ho',r'⟩:=hm
  rw[ho] at ho';cases ho'
  exact⟨_,es',ep',hL,r'⟩) hok hg
def Inv.turned{t':Nat}{it:Addr}(I:Inv X pins σ H s)(k:∀b o,b≠it->s.heap.get? b=some o->h'.get? b=some o)(hn:H it=none)(hL:it≠X.env.locals)
 (h1:it∈X.ex\/X.s₀.heap.objs.size<=it)(h2:∀x c,X.env.cells.lookup x=some c->c≠it)(h3:∀p∈X.pn++pins,p.1≠it):Inv X pins σ H {s with heap:=h',toks:=t'}:=by
 have Vr:∀b u,H b=some u->b≠it:=λb u e z=>by rw[z,hn] at e;cases e
 refine I.step (g':=s.gens) (d':=s.drawn) (ch:=[it]) (λb hb=>?_) (λb o _ _ hc e _=>k b o (λz=>hc (by simp[z])) e) (λb o _ _ hc e _=>⟨o.slots,k b o (λz=>hc (by simp[z])) e⟩) (λ_ _ _ _ n=>n)
  (λb o hc e=>⟨o,k b o (λz=>hc (by simp[z])) e⟩) (λ_ _ e=>e) (λ_ _ _ e=>e) (λ_ _ e=>e) (λm hm=>?_) (λb u e=>?_) I.bare
 ·have e:b=it:=by simpa using hb
  subst e
  exact⟨h1,hL,h2,h3⟩
 ·obtain⟨o,es,ep,ho,r⟩:=hm
  exact⟨o,es,ep,k _ o (Ne.symm hL) ho,r⟩
 ·refine(I.hok b u e).stay (λc v hc q=>k c v ?_ q) (λ_ q=>q) λ_ _ q=>q
  rcases hc with z|z
  ·rw[z];exact Vr b u e
  ·exact Vr c _ z
def Inv.tok(I:Inv X pins σ H s)(t:Nat):Inv X pins σ H {s with toks:=t}:=I.un (h':=s.heap) (t':=t) Un.refl I.hok
theorem Inv.kept{t':Nat}(I:Inv X pins σ H s)(k:∀b u,s.heap.get? b=some u->h'.get? b=some u):Inv X pins σ H {s with heap:=h',toks:=t'}:=I.un (Un.kept k) (I.hok.kept k)
theorem Inv.laid{a:Addr}{o:HO}{t':Nat}(I:Inv X pins σ H s)(k:∀b u,s.heap.get? b=some u->h'.get? b=some u)(hp:s.heap.objs.size<=a)(new:ľ X.prog X.w (upd H a o) h' a o) :
 Inv X pins σ (upd H a o) {s with heap:=h',toks:=t'}:=I.un (Un.laid k hp (I.hok.fresh hp)) (I.hok.laid k hp new)
theorem Inv.write{x e:Addr}{o:HO}{t':Nat}(I:Inv X pins σ H s)(mu:Vn (H x))(he:e=x\/H e=some (.own x))(k:∀b u,b≠e->s.heap.get? b=some u->h'.get? b=some u)(heo:∃u,h'.get? e=some u)
 (new:ľ X.prog X.w (upd H x o) h' x o):Inv X pins σ (upd H x o) {s with heap:=h',toks:=t'}:=I.un (Un.write mu he k heo) (I.hok.write mu he k heo new)
def Inv.wR{Ku:List (Addr×Obj)}(I:Inv X pins σ H s)(h:∀p∈Ku,s.heap.get? p.1=some p.2/\H p.1=none/\p.1≠X.env.locals/\p.1∉X.fs/\∀v,p.2.data≠ .cell v):Inv X Ku σ H s:=
 ⟨I.ok,I.os,I.bare,I.base,I.loc,I.cell,I.free,I.dJ,λp hp=>(List.mem_append.mp hp).elim (λz=>I.pin p (List.mem_append_left _ z)) (h p),I.hok,I.len⟩
def sG{N:List Str}(hN:N.Nodup){i j:Nat}{x:Str}(a:N[i]?=some x)(b:N[j]?=some x):i=j:=by
 obtain⟨h1,e1⟩:=List.getElem?_eq_some_iff.mp a
 obtain⟨h2,e2⟩:=List.getElem?_eq_some_iff.mp b
 exact(List.getElem_inj hN).mp (e1.trans e2.symm)
def oO{M:Model}{A:Around}{E:Value->Shared->Prop}{i:Nat}{x:Str}{v:V}{u:Value}{Q:Unit->Shared->Prop}(I:Inv X pins σ H s)(hN:X.N.Nodup)(hi:X.N[i]?=some x)(hx:Loc X.env.scope x)(r:RelV v u)
 (h:∀s',Inv X pins (σ.set i (some v)) H s'->(∃a,Heap.SameBut a s.heap s'.heap/\(a=X.env.locals\/X.env.cells.lookup x=some a))->Q () s')(hf:X.fn x=true\/X.env.scope.names.lookup x=some .local:=by first|exact .inl rfl|exact .inr rfl|assumption):wpAny M A (storeName X.env x u) Q E s:=by
 obtain⟨m,hn,hl⟩:=id I.loc
 have hcls:(X.env.scope.kind== .class || (X.env.scope.kind== .module && X.env.locals != X.env.globals))=false:=by rw[I.ok.kind];rfl
 have Zcz:i < σ.length:=by rw[I.len];exact(List.getElem?_eq_some_iff.mp hi).1
 have Px:=I.Px
 have tracked:∀{a:Addr} {h':Heap},(∃o,s.heap.get? a=some o/\H a=none)->Heap.SameBut a s.heap h'->cJ X.prog X.w H h':=fun{a h'} ha hs b ob e=>by
  obtain⟨_,_,hfree⟩:=ha
  refine(I.hok b ob e).stay (λc w' hc q=>(hs.2 c ?_).trans q) (λ_ q=>q) λ_ _ q=>q
  rintro rfl
  rcases hc with rfl|hc
  ·rw[hfree] at e;cases e
  ·rw[hfree] at hc;cases hc
 rcases hx with hk|hk
 ·refine wpAny_storeName_local hk hn (λh' hn' hs=>?_) hcls
  obtain⟨oL,_,_,hoL,_⟩:=id hn
  refine h _ ⟨I.ok,I.os,I.bare,⟨λb o e n hb hx=>?_,λb o e n hb hx=>?_,I.base.free,λb o e hx=>?_,I.base.tups,I.base.nU,I.base.jE⟩,⟨_,hn',λj y v' e1 e2 e3=>?_⟩,λy c e=>?_,I.free,I.dJ,λp hp=>?_,tracked ⟨oL,hoL,I.free⟩ hs,by simpa using I.len⟩ ⟨_,hs,.inl rfl⟩
  ·exact(hs.2 b (Nat.ne_of_lt (Nat.lt_of_lt_of_le (Heap.lt_size e) I.ok.above))).trans (I.base.keep b o e n hb hx)
  ·obtain⟨sl,e1⟩:=I.base.slot b o e n hb hx
   exact⟨sl,(hs.2 b (Nat.ne_of_lt (Nat.lt_of_lt_of_le (Heap.lt_size e) I.ok.above))).trans e1⟩
  ·obtain⟨o',e1⟩:=I.base.there b o e hx
   exact⟨o',(hs.2 b (Nat.ne_of_lt (Nat.lt_of_lt_of_le (Heap.lt_size e) I.ok.above))).trans e1⟩
  ·by_cases hj:j=i
   ·subst hj
    rw[hi] at e1;cases e1
    rw[List.getElem?_set_self Zcz] at e2
    cases e2
    exact⟨u,r,.inl ⟨hk,by simp⟩⟩
   ·rw[List.getElem?_set_ne (Ne.symm hj)] at e2
    obtain⟨u',r',q⟩:=hl j y v' e1 e2 e3
    refine⟨u',r',?_⟩
    rcases q with⟨k,e⟩|⟨k,c,e,z⟩
    ·refine .inl ⟨k,?_⟩
     have:y≠x:=λe=>hj (sG hN e1 (e▸hi))
     simp[this,e]
    ·exact .inr ⟨k,c,e,z.sameBut hs (Px y c e)⟩
  ·obtain⟨w',z⟩:=I.cell y c e
   exact⟨w',z.sameBut hs (Px y c e)⟩
  ·obtain⟨e,n,ne,nf,d⟩:=I.pin p hp
   exact⟨(hs.2 p.1 ne).trans e,n,ne,nf,d⟩
 ·have hfn:X.fn x=true:=by
   rcases hf with z|z
   ·exact z
   ·rw[z] at hk;cases hk
  obtain⟨c,hc⟩:=I.ok.has x (.inl hk)
  obtain⟨w',z⟩:=I.cell x c hc
  refine wpAny_storeName_cell I.ok.kind hk hc z (λh' hc' hs=>?_)
  obtain⟨oc,hoc,ZaU⟩:=id z
  refine h {s with heap:=h'} ⟨I.ok,I.os,I.bare,⟨λb o e n hb hx=>?_,λb o e n hb hx=>?_,I.base.free,λb o e hx=>?_,I.base.tups,I.base.nU,I.base.jE⟩,⟨m,hn.sameBut hs (Ne.symm (Px x c hc)),λj y v' e1 e2 e3=>?_⟩,λy c' e=>?_,I.free,I.dJ,λp hp=>?_,tracked ⟨oc,hoc,I.dJ x c hc⟩ hs,by simpa using I.len⟩ ⟨c,hs,.inr hc⟩
  ·exact(hs.2 b (Nat.ne_of_lt (Nat.lt_of_lt_of_le (Heap.lt_size e) (I.ok.cab x c hfn hc)))).trans (I.base.keep b o e n hb hx)
  ·obtain⟨sl,e1⟩:=I.base.slot b o e n hb hx
   exact⟨sl,(hs.2 b (Nat.ne_of_lt (Nat.lt_of_lt_of_le (Heap.lt_size e) (I.ok.cab x c hfn hc)))).trans e1⟩
  ·obtain⟨o',e1⟩:=I.base.there b o e hx
   exact⟨o',(hs.2 b (Nat.ne_of_lt (Nat.lt_of_lt_of_le (Heap.lt_size e) (I.ok.cab x c hfn hc)))).trans e1⟩
  ·by_cases hj:j=i
   ·subst hj
    rw[hi] at e1;cases e1
    rw[List.getElem?_set_self Zcz] at e2
    cases e2
    exact⟨u,r,.inr ⟨.inl hk,c,hc,hc'⟩⟩
   ·rw[List.getElem?_set_ne (Ne.symm hj)] at e2
    obtain⟨u',r',q⟩:=hl j y v' e1 e2 e3
    refine⟨u',r',?_⟩
    rcases q with q|⟨k,c',e,z'⟩
    ·exact .inl q
    ·refine .inr ⟨k,c',e,z'.sameBut hs ?_⟩
     rintro rfl
     exact hj (sG hN e1 (I.ok.inj _ _ _ e hc▸hi))
  ·by_cases hcc:c'=c
   ·subst hcc;exact⟨_,hc'⟩
   ·obtain⟨w2,z2⟩:=I.cell y c' e
    exact⟨w2,z2.sameBut hs hcc⟩
  ·obtain⟨e,n,ne,nf,d⟩:=I.pin p hp
   refine⟨(hs.2 p.1 ?_).trans e,n,ne,nf,d⟩
   intro q
   rw[q,hoc] at e
   have q':oc=p.2:=Option.some.inj e
   exact d w' (by rw[<-q'];exact ZaU)
def sI{M:Model}{A:Around}{E:Value->Shared->Prop}{i:Nat}{x:Str}{v:V}{u:Value}{Q:Unit->Shared->Prop}(I:Inv X pins σ H s)(hN:X.N.Nodup)(hi:X.N[i]?=some x)(hx:Loc X.env.scope x)(r:RelV v u)
 (h:∀s',Inv X pins (σ.set i (some v)) H s'->Q () s')(hf:X.fn x=true\/X.env.scope.names.lookup x=some .local:=by first|exact .inl rfl|exact .inr rfl|assumption):wpAny M A (storeName X.env x u) Q E s:=
 oO I hN hi hx r (λs' I' _=>h s' I') hf
def Inv.call'{s':Shared}{ch:List Addr}(I:Inv X pins σ H s)(ho:s'.os=s.os)(u:Un (frs X.stack) ch H H' s.heap s'.heap)(hok:cJ X.prog X.w H' s'.heap)(hg:AllBare s'.gens)
 (hch:∀b∈ch,(b∈X.ex\/X.s₀.heap.objs.size<=b)/\b≠X.env.locals/\(∀x c,X.env.cells.lookup x=some c->c≠b)/\∀p∈X.pn++pins,p.1≠b):Inv X pins σ H' s':=by
 obtain⟨h',g',d',t',o'⟩:=s'
 have e:o'=s.os:=ho
 subst e
 exact I.call (g':=g') (t':=t') (d':=d') u hok hg hch
end
abbrev XK:=Value->Option Addr->Hp->Prop
abbrev St:=List (Option V)
abbrev VK:=V->Hp->Prop
abbrev TE:=St->Hp->VK->Prop
abbrev TT:=St->Hp->(Bool->Hp->Prop)->Prop
abbrev TA:=St->Hp->(List V->Hp->Prop)->Prop
structure Ends where
 nx:St->Hp->Prop
 rt:VK
 bk:St->Hp->Prop:=λ_ _=>False
 ct:St->Hp->Prop:=λ_ _=>False
abbrev TS:=Ends->St->Hp->Prop
def EP(X:Cx)(pins:List (Addr×Obj))(σ:St)(Q:VK)(u:Value)(s':Shared):Prop:=∃v H',Inv X pins σ H' s'/\RelV v u/\Q v H'
def TP(X:Cx)(pins:List (Addr×Obj))(σ:St)(Q:Bool->Hp->Prop)(b:Bool)(s':Shared):Prop:=∃H',Inv X pins σ H' s'/\Q b H'
def AP(X:Cx)(pins:List (Addr×Obj))(σ:St)(Q:List V->Hp->Prop)(us:List Value)(s':Shared):Prop:=∃vs H',Inv X pins σ H' s'/\Vals vs us/\Q vs H'
def SP(X:Cx)(pins:List (Addr×Obj))(D:Ends)(f:Flow)(s':Shared):Prop:=
 match f with
 | .next=>∃σ' H',Inv X pins σ' H' s'/\D.nx σ' H'
 | .brk=>∃σ' H',Inv X pins σ' H' s'/\D.bk σ' H'
 | .cont=>∃σ' H',Inv X pins σ' H' s'/\D.ct σ' H'
 | .ret u=>∃v σ' H',Inv X pins σ' H' s'/\RelV v u/\D.rt v H'
def PE(X:Cx)(e:Expr)(t:TE):Prop:=
 ∀(pins:List (Addr×Obj)) (s:Shared) (σ:St) (H:Hp) (Q:VK),Inv X pins σ H s->t σ H Q->wpAny (model X.prog X.w) X.A (eval e X.env) (EP X pins σ Q) X.xe s
def PT(X:Cx)(e:Expr)(t:TT):Prop:=
 ∀(pins:List (Addr×Obj)) (s:Shared) (σ:St) (H:Hp) (Q:Bool->Hp->Prop),Inv X pins σ H s->t σ H Q->wpAny (model X.prog X.w) X.A (isTrue e X.env (eval e X.env)) (TP X pins σ Q) X.xe s
def PW(X:Cx)(e:Expr)(t:TT):Prop:=
 ∀(whole:Sem Value) (pins:List (Addr×Obj)) (s:Shared) (σ:St) (H:Hp) (Q:Bool->Hp->Prop),Inv X pins σ H s->t σ H Q->wpAny (model X.prog X.w) X.A (isTrue e X.env whole) (TP X pins σ Q) X.xe s
def PW.pt{X:Cx}{e:Expr}{t:TT}(h:PW X e t):PT X e t:=h _
def PA(X:Cx)(es:List Expr)(t:TA):Prop:=
 ∀(pos:Pos) (pins:List (Addr×Obj)) (s:Shared) (σ:St) (H:Hp) (Q:List V->Hp->Prop),Inv X pins σ H s->t σ H Q->wpAny (model X.prog X.w) X.A (spliced (backTo pos (starEach es X.env))) (AP X pins σ Q) X.xe s
def PS(X:Cx)(st:Stmt)(t:TS):Prop:=
 ∀(pins:List (Addr×Obj)) (s:Shared) (σ:St) (H:Hp) (D:Ends),Inv X pins σ H s->t D σ H->wpAny (model X.prog X.w) X.A (exec st X.env) (SP X pins D) X.xe s
def fG(X:Cx)(st:List Stmt)(t:TS):Prop:=
 ∀(pins:List (Addr×Obj)) (s:Shared) (σ:St) (H:Hp) (D:Ends),Inv X pins σ H s->t D σ H->wpAny (model X.prog X.w) X.A (execs st X.env) (SP X pins D) X.xe s
def ļ{α:Type}{t:Sem α}{Q Q':α->Shared->Prop}{M:Model}{A:Around}{E:Value->Shared->Prop}{s:Shared}(h:wpAny M A t Q E s)(hQ:∀a s,Q a s->Q' a s):wpAny M A t Q' E s:=wpAny_mono h hQ λ_ _ x=>x
end L2
namespace L2
open PySem PySem.Spec PyProof.Rows
section
variable{X:Cx}
def nY(i:Nat):TE:=λσ H Q=>∃v,σ[i]?=some (some v)/\Q v H
def tC(v:V):TE:=λ_ H Q=>Q v H
def Ů{i:Nat}{x:Str}{pos:Pos}(hN:X.N[i]?=some x)(hv:sE X.env.scope x)(hd:(x== ("__debug__" :Str))=false:=by decide)(hcd:(x== ("__classdict__" :Str))=false:=by decide):PE X (.Name x pos) (nY i):=by
 intro pins s σ H Q I h
 obtain⟨v,e,h⟩:=h
 obtain⟨m,hn,hl⟩:=I.loc
 obtain⟨u,r,l⟩:=hl i x v hN e hv
 have fin:EP X pins σ Q u s:=⟨v,H,I,r,h⟩
 rcases l with⟨hk,hm⟩|⟨hk,c,hc,hcell⟩
 ·exact wpAny_Name (wpAny_loadName_local I.ok.kind hk hn hm fin) hd
 ·rcases hk with hk|hk
  ·exact wpAny_Name (wpAny_loadName_cell I.ok.kind hk hc hcell fin) hd
  ·exact wpAny_Name (wpAny_loadName_free I.ok.kind hk hc hcell fin hcd) hd
def Bk{i j pos}:PE X (.Constant (.int i) j pos) (tC (.int i)):=λ_ _ _ H _ I h=>wpAny_Constant_int ⟨.int i,H,I.tok _,⟨_,rfl⟩,h⟩
def Vs{b j pos}:PE X (.Constant (.bool b) j pos) (tC (.bl b)):=λ_ _ _ H _ I h=>Constant_bool ⟨.bl b,H,I,rfl,h⟩
def Py{j pos}:PE X (.Constant .none j pos) (tC .non):=λ_ _ _ H _ I h=>Constant_none ⟨.non,H,I,rfl,h⟩
def Pz{x j pos}:PE X (.Constant (.str x) j pos) (tC (.str x)):=λ_ _ _ H _ I h=>Calls.Constant_str ⟨.str x,H,I.tok _,⟨_,rfl⟩,h⟩
def Gl(X:Cx)(x:Str):Prop:=X.env.kindOf x=some .globalImplicit
def qg{E:Value->Shared->Prop}{pins:List (Addr×Obj)}{s:Shared}{σ:St}{H:Hp}{x:Str}{u:Value}{pos:Pos}{Q:Value->Shared->Prop}(I:Inv X pins σ H s)(hg:Gl X x)(hm:X.mg x=some u)(h:Q u s)
 (hd:(x== ("__debug__" :Str))=false:=by decide):wpAny (model X.prog X.w) X.A (eval (.Name x pos) X.env) Q E s:=
 Calls.Name_function_global I.ok.kind hg (Calls.loadGlobal_global (by rw[I.ok.glob];exact I.mod.glob.keeps I.bk) hm h) hd
def eX{E:Value->Shared->Prop}{pins:List (Addr×Obj)}{s:Shared}{σ:St}{H:Hp}{x:Str}{u:Value}{pos:Pos}{Q:Value->Shared->Prop}(I:Inv X pins σ H s)(hg:Gl X x)(hm:X.mg x=none)(hv:bootBuiltins x=some u)(h:Q u s)
 (hn:x≠ "__name__" := by decide)(hd:(x== ("__debug__" :Str))=false:=by decide):wpAny (model X.prog X.w) X.A (eval (.Name x pos) X.env) Q E s:=by
 obtain⟨mb,h1,h2⟩:=I.mod.blt
 exact Calls.Name_function_global I.ok.kind hg (Calls.loadGlobal_builtin (by rw[I.ok.glob];exact I.mod.glob.keeps I.bk) hm (by rw[I.ok.blt];exact h1.keeps I.bk) ((h2 x hn).trans hv) h) hd
def jR{x:Str}{v:V}{u:Value}{pos:Pos}(hg:Gl X x)(hm:X.mg x=some u)(r:RelV v u)(hd:(x== ("__debug__" :Str))=false:=by decide):PE X (.Name x pos) (tC v):=
 λ_ _ _ H _ I h=>qg I hg hm ⟨v,H,I,r,h⟩ hd
def ť{x:Str}{v:V}{u:Value}{pos:Pos}(hg:Gl X x)(hm:X.mg x=none)(hv:bootBuiltins x=some u)(r:RelV v u)(hn:x≠ "__name__" := by decide)(hd:(x== ("__debug__" :Str))=false:=by decide):PE X (.Name x pos) (tC v):=
 λ_ _ _ H _ I h=>eX I hg hm hv ⟨v,H,I,r,h⟩ hn hd
variable{a b:Expr}{ta tb:TE}{pos:Pos}
def PC(X:Cx)(op:CmpOp)(a b:Expr)(t:TE):Prop:=
 ∀(pins:List (Addr×Obj)) (s:Shared) (σ:St) (H:Hp) (Q:VK),Inv X pins σ H s->t σ H Q->
  wpAny (model X.prog X.w) X.A (eval a X.env) (λv s₁=>wpAny (model X.prog X.w) X.A (eval b X.env) (λu s₂=>wpAny (model X.prog X.w) X.A (compareOp op v u) (EP X pins σ Q) X.xe s₂) X.xe s₁) X.xe s
def tB(t:TE):TT:=λσ H Q=>t σ H λx H1=>∃c,x=.bl c/\Q c H1
def PB{op:CmpOp}{t:TE}(h:PC X op a b t)(h1:behindInMarks op b=false:=by first|exact Bm _ (by decide) (by decide)|rfl):PT X (.Compare a [op] [b] pos) (tB t):=by
 intro pins s σ H Q I hw
 refine wpAny_isTrue_Compare1 (ļ (h pins s σ H _ I hw) λv s1 h1=>ļ h1 λu s2 h2=>ļ h2 λc s3 ⟨x,H1,I1,r1,q1⟩=>?_) h1
 obtain⟨d,rfl,q⟩:=q1
 cases r1
 exact wpAny_truthy_bool ⟨H1,I1,q⟩
variable{tA Vt:TT}{rest:List Expr}
def ZaV(t u:TT):TT:=λσ H Q=>t σ H λc H1=>if c=true then u σ H1 Q else Q false H1
def tOr(t u:TT):TT:=λσ H Q=>t σ H λc H1=>if c=true then Q true H1 else u σ H1 Q
def ZaW(t:TT):TT:=λσ H Q=>t σ H λc H1=>Q (!c) H1
def Hx(ha:PT X a tA):PW X (.BoolOp .And [a] pos) tA:=by
 intro wh pins s σ H Q I h
 refine isTrue_and (ļ (ha pins s σ H Q I h) λc s1 e=>?_)
 cases c with
 |true=>exact isTrue_and_nil e
 |false=>exact e
def PJ(ha:PT X a tA):PW X (.BoolOp .Or [a] pos) tA:=by
 intro wh pins s σ H Q I h
 refine isTrue_or (ļ (ha pins s σ H Q I h) λc s1 e=>?_)
 cases c with
 |false=>exact isTrue_or_nil e
 |true=>exact e
def PL(ha:PT X a tA)(hb:PW X (.BoolOp .And (b::rest) pos) Vt):PW X (.BoolOp .And (a::b::rest) pos) (ZaV tA Vt):=by
 intro wh pins s σ H Q I h
 refine isTrue_and (ļ (ha pins s σ H _ I h) λc s1 ⟨H1,I1,q1⟩=>?_)
 cases c with
 |true=>exact hb wh pins s1 σ H1 Q I1 q1
 |false=>exact⟨H1,I1,q1⟩
def Vu(ha:PT X a tA)(hb:PW X (.BoolOp .Or (b::rest) pos) Vt):PW X (.BoolOp .Or (a::b::rest) pos) (tOr tA Vt):=by
 intro wh pins s σ H Q I h
 refine isTrue_or (ļ (ha pins s σ H _ I h) λc s1 ⟨H1,I1,q1⟩=>?_)
 cases c with
 |true=>exact⟨H1,I1,q1⟩
 |false=>exact hb wh pins s1 σ H1 Q I1 q1
def PN(ha:PT X a tA):PT X (.UnaryOp .Not a pos) (ZaW tA):=by
 intro pins s σ H Q I h
 exact isTrue_not (ha pins s σ H (λc H1=>Q (!c) H1) I h)
def P_{op}{t:TE}(h:PE X a t):PE X (.BoolOp op [a] pos) t:=λpins s σ H Q I hw=>BoolOp_one (h pins s σ H Q I hw)
end
end L2
namespace L2
open PySem PySem.Spec PyProof.Rows
def Ř(K:PySem.W.Frag)(H:Hp)(a:Addr)(xs:List V):Prop:=
 Rd H a (.lst xs)\/
  ∃(o:Obj) (its:Array Value) (n:Nat),K.lookup a=some o/\o.cls=.type "list" /\o.dict=none/\o.data=.seq its n/\its.size<=sizeLine/\Vals xs its.toList
def bx(K:PySem.W.Frag)(H:Hp)(a:Addr)(xs:List V):Prop:=
 Rd H a (.tup xs)\/
  ∃(o:Obj) (its:Array Value) (n:Nat),K.lookup a=some o/\o.cls=.type "tuple" /\o.data=.seq its n/\its.size<=sizeLine/\Vals xs its.toList
def ZaX:Value->Option V
 | .none=>some .non
 | .bool b=>some (.bl b)
 | .int i _=>some (.int i)
 | .str x _=>some (.str x)
 | .bytes b _=>some (.Kr b)
 | .float b _=>some (.flt b)
 | .ref a=>some (.ref a)
 | .type n=>some (.ty n)
 |_=>none
def RelV.abs{x:V}{u:Value}(r:RelV x u):ZaX u=some x:=by
 cases x with
 |non=>cases r;rfl
 |bl _=>cases r;rfl
 |int _=>obtain⟨t,rfl⟩:=r;rfl
 |str _=>obtain⟨t,rfl⟩:=r;rfl
 |Kr _=>obtain⟨t,rfl⟩:=r;rfl
 |flt _=>obtain⟨t,rfl⟩:=r;rfl
 |ref _=>cases r;rfl
 |ty _=>cases r;rfl
theorem RelV.inj{x y:V}{u:Value}(r:RelV x u)(q:RelV y u):x=y:=Option.some.inj (r.abs.symm.trans q.abs)
theorem Vals.inj:∀{xs ys:List V} {us:List Value},Vals xs us->Vals ys us->xs=ys
 |_,_,_,.nil,.nil=>rfl
 |_,_,_,.cons r t,.cons r' t'=>by rw[r.inj r',Vals.inj t t']
section
variable{X:Cx}{pins:List (Addr×Obj)}{σ:St}{H:Hp}{s:Shared}{a:Addr}{xs ys:List V}
def Ř.of{K:PySem.W.Frag}(h:H a=some (.lst xs)):Ř K H a xs:=.inl (.inl h)
def bx.of{K:PySem.W.Frag}(h:H a=some (.tup xs)):bx K H a xs:=.inl (.inl h)
def Inv.list(I:Inv X pins σ H s)(h:Ř X.K H a xs):∃its:List Value,Vals xs its/\PlainL s.heap a its.toArray/\xs.length<=sizeLine:=by
 rcases h with h|⟨o,its,n,hk,hc,hd,hs,hz,r⟩
 ·obtain⟨z,its,n,r,e⟩:=h.ok I.hok
  exact⟨its,r,⟨_,n,e,rfl,rfl,rfl⟩,z⟩
 ·refine⟨its.toList,r,⟨o,n,I.jQ a o hk,hc,hd,by simpa using hs⟩,?_⟩
  have e:=r.length
  simp only[Array.length_toList] at e
  omega
def Inv.tuple(I:Inv X pins σ H s)(h:bx X.K H a xs):∃its:List Value,Vals xs its/\IsTup s.heap a its.toArray/\xs.length<=sizeLine:=by
 rcases h with h|⟨o,its,n,hk,hc,hs,hz,r⟩
 ·obtain⟨z,its,r,p⟩:=h.ok I.hok
  exact⟨its,r,p,z⟩
 ·refine⟨its.toList,r,⟨o,I.jQ a o hk,hc,n,by simpa using hs⟩,?_⟩
  have e:=r.length
  simp only[Array.length_toList] at e
  omega
def Inv.kY(I:Inv X pins σ H s)(h:Ř X.K H a xs)(h':Ř X.K H a ys):xs=ys:=by
 obtain⟨its,r,⟨o,n,e,_,_,d⟩,_⟩:=I.list h
 obtain⟨its',r',⟨o',n',e',_,_,d'⟩,_⟩:=I.list h'
 rw[e] at e';cases e'
 rw[d] at d'
 injection d' with d1 _
 have:its=its':=by simpa using congrArg Array.toList d1
 subst this
 exact r.inj r'
def Inv.oR(I:Inv X pins σ H s)(h:bx X.K H a xs)(h':bx X.K H a ys):xs=ys:=by
 obtain⟨its,r,⟨o,e,_,n,d⟩,_⟩:=I.tuple h
 obtain⟨its',r',⟨o',e',_,n',d'⟩,_⟩:=I.tuple h'
 rw[e] at e';cases e'
 rw[d] at d'
 injection d' with d1 _
 have:its=its':=by simpa using congrArg Array.toList d1
 subst this
 exact r.inj r'
end
abbrev Cx.wish(X:Cx)(E:Value->Shared->Prop):Cx:={X with xe:=E}
abbrev Cx.ŀ(X:Cx):Cx:=X.wish λ_ _=>False
theorem Cx.Ok.wish{X:Cx}(ok:X.Ok)(E:Value->Shared->Prop):(X.wish E).Ok:=
 ⟨ok.mod,ok.kind,ok.glob,ok.blt,ok.above,ok.inj,ok.has,ok.cab,ok.hd,ok.frames,ok.stk,ok.exf,ok.bs,ok.Hv,ok.zx,ok.Hw,ok.jF,ok.Pu,ok.tb⟩
def Cx.Ok.bJ{X:Cx}{E:Value->Shared->Prop}(ok:(X.wish E).Ok):X.Ok:=
 ⟨ok.mod,ok.kind,ok.glob,ok.blt,ok.above,ok.inj,ok.has,ok.cab,ok.hd,ok.frames,ok.stk,ok.exf,ok.bs,ok.Hv,ok.zx,ok.Hw,ok.jF,ok.Pu,ok.tb⟩
section
variable{X:Cx}{pins:List (Addr×Obj)}{σ:St}{H:Hp}{s:Shared}{E:Value->Shared->Prop}
theorem Inv.wish(I:Inv X pins σ H s)(E:Value->Shared->Prop):Inv (X.wish E) pins σ H s:=⟨I.ok.wish E,I.os,I.bare,I.base,I.loc,I.cell,I.free,I.dJ,I.pin,I.hok,I.len⟩
theorem Inv.bJ(I:Inv (X.wish E) pins σ H s):Inv X pins σ H s:=⟨I.ok.bJ,I.os,I.bare,I.base,I.loc,I.cell,I.free,I.dJ,I.pin,I.hok,I.len⟩
theorem SP.bJ{D:Ends}{f:Flow}{s':Shared}(h:SP (X.wish E) pins D f s'):SP X pins D f s':=by
 cases f with
 |next=>obtain⟨σ',H',I,q⟩:=h;exact⟨σ',H',I.bJ,q⟩
 |brk=>obtain⟨σ',H',I,q⟩:=h;exact⟨σ',H',I.bJ,q⟩
 |cont=>obtain⟨σ',H',I,q⟩:=h;exact⟨σ',H',I.bJ,q⟩
 |ret u=>obtain⟨v,σ',H',I,r,q⟩:=h;exact⟨v,σ',H',I.bJ,r,q⟩
theorem PE.ŀ{e:Expr}{t:TE}(h:PE X.ŀ e t):PE X e t:=λpins s σ H Q I hw=>
 wpAny_mono (h pins s σ H Q (I.wish _) hw) (λ_ _ ⟨v,H',I',r,q⟩=>⟨v,H',I'.bJ,r,q⟩) λ_ _ z=>False.elim z
end
section
variable{X:Cx}{st:Stmt}{rest:List Stmt}{t u:TS}{e:Expr}{te:TE}{pos:Pos}
def Vv:TS:=λD σ H=>D.nx σ H
def ZaY(t u:TS):TS:=λD σ H=>t {D with nx:=u D} σ H
def Hy:fG X [] Vv:=λ_ _ σ H _ I h=>wpAny_execs_nil ⟨σ,H,I,h⟩
def Bo(h1:PS X st t)(h2:fG X rest u):fG X (st::rest) (ZaY t u):=by
 intro pins s σ H D I h
 refine wpAny_execs_cons (ļ (h1 pins s σ H {D with nx:=u D} I h) λf s1 q=>?_)
 cases f with
 |next=>
  obtain⟨σ',H',I',q⟩:=q
  exact h2 pins s1 σ' H' D I' q
 |ret v=>exact q
 |brk=>exact q
 |cont=>exact q
def Hz(h1:PS X st t):fG X [st] t:=by
 intro pins s σ H D I h
 refine wpAny_execs_cons (ļ (h1 pins s σ H D I h) λf s1 q=>?_)
 cases f with
 |next=>exact wpAny_execs_nil q
 |ret v=>exact q
 |brk=>exact q
 |cont=>exact q
def Vw:TS:=λD σ H=>D.ct σ H
def sJ:PS X (.Continue pos) Vw:=λ_ _ σ H _ I h=>wpAny_Continue ⟨σ,H,I,h⟩
def Inv.quiet{pins:List (Addr×Obj)}{σ:St}{H:Hp}{s:Shared}(I:Inv X pins σ H s):interactive X.env=false:=by simp[interactive,I.ok.kind]
def Bp(te:TE):TS:=λD σ H=>te σ H λ_ H1=>D.nx σ H1
def bK(he:PE X e te)(hs:swapsWith e none pos.line X.env=pure false:=by rfl):PS X (.Expr e pos) (Bp te):=by
 intro pins s σ H D I h
 exact wpAny_Expr_any (ļ (he pins s σ H _ I h) λv s1 ⟨x,H1,I1,r1,q1⟩=>⟨σ,H1,I1,q1⟩) I.quiet hs
def ZaZ(te:TE):TS:=λD σ H=>te σ H D.rt
def Qa(he:PE X e te):PS X (.Return (some e) pos) (ZaZ te):=by
 intro pins s σ H D I h
 exact wpAny_Return_some (ļ (he pins s σ H _ I h) λv s1 ⟨x,H1,I1,r1,q1⟩=>⟨x,σ,H1,I1,r1,q1⟩)
def Za0(c:TT)(t u:TS):TS:=λD σ H=>c σ H λb H1=>if b=true then t D σ H1 else u D σ H1
def Vx{c:Expr}{a b:List Stmt}{tc:TT}(hc:PT X c tc)(ha:fG X a t)(hb:fG X b u):PS X (.If c a b pos) (Za0 tc t u):=by
 intro pins s σ H D I h
 refine wpAny_If (ļ (hc pins s σ H _ I h) λd s1 ⟨H1,I1,q1⟩=>?_)
 cases d with
 |true=>exact ha pins s1 σ H1 D I1 q1
 |false=>exact hb pins s1 σ H1 D I1 q1
def Qc:TS:=λ_ _ _=>False
def Bq:PS X st Qc:=λ_ _ _ _ _ _ h=>h.elim
end
abbrev TG:=V->St->Hp->(St->Hp->Prop)->Prop
abbrev Br:=List V->St->Hp->(St->Hp->Prop)->Prop
def PG(X:Cx)(target:Expr)(t:TG):Prop:=
 ∀(pins:List (Addr×Obj)) (s:Shared) (σ:St) (H:Hp) (v:V) (u:Value) (Q:St->Hp->Prop),Inv X pins σ H s->RelV v u->t v σ H Q->
  wpAny (model X.prog X.w) X.A (assign target X.env u) (λ_ s'=>∃σ' H',Inv X pins σ' H' s'/\Q σ' H') X.xe s
def vo(X:Cx)(ts:List Expr)(t:Br):Prop:=
 ∀(pins:List (Addr×Obj)) (s:Shared) (σ:St) (H:Hp) (vs:List V) (us:List Value) (Q:St->Hp->Prop),Inv X pins σ H s->Vals vs us->t vs σ H Q->
  wpAny (model X.prog X.w) X.A (assignInOrder ((assignEach ts X.env).map (·.2)) us) (λ_ s'=>∃σ' H',Inv X pins σ' H' s'/\Q σ' H') X.xe s
section
variable{X:Cx}{pos:Pos}
def Kv(i:Nat):TG:=λv σ H Q=>Q (σ.set i (some v)) H
def HB{i:Nat}{x:Str}(hN:X.N.Nodup)(hi:X.N[i]?=some x)(hx:Loc X.env.scope x)(hf:X.fn x=true\/X.env.scope.names.lookup x=some .local:=by first|exact .inl rfl|exact .inr rfl|assumption):PG X (.Name x pos) (Kv i):=by
 intro pins s σ H v u Q I r h
 exact wpAny_assign_Name (sI I hN hi hx r (λs' I'=>⟨_,H,I',h⟩) hf)
def Za1:Br:=λvs σ H Q=>vs=[]/\Q σ H
def Vy(t:TG)(u:Br):Br:=λvs σ H Q=>∃v r,vs=v::r/\t v σ H λσ' H'=>u r σ' H' Q
def HD:vo X [] Za1:=by
 intro pins s σ H vs us Q I r h
 obtain⟨e,h⟩:=h
 subst e
 cases r
 exact assignInOrder_nil ⟨σ,H,I,h⟩
def Bs{e:Expr}{es:List Expr}{t:TG}{u:Br}(h1:PG X e t)(h2:vo X es u)
 (hs:(assignEach (e::es) X.env).map (·.2)=assign e X.env::(assignEach es X.env).map (·.2):=by rfl):vo X (e::es) (Vy t u):=by
 intro pins s σ H vs us Q I r h
 obtain⟨v,vr,e1,h⟩:=h
 subst e1
 cases r with
 |cons r rr=>
  rw[hs]
  refine assignInOrder_cons (ļ (h1 pins s σ H _ _ _ I r h) λ_ s1 ⟨σ1,H1,I1,q1⟩=>?_)
  exact h2 pins s1 σ1 H1 _ _ Q I1 rr q1
def Za2(K:PySem.W.Frag)(n:Nat)(t:Br):TG:=λv σ H Q=>∃a xs,v=.ref a/\bx K H a xs/\xs.length=n/\t xs σ H Q
def Bt{es:List Expr}{k:Nat}{t:Br}{n:Nat}(hc:X.calm=true)(h:vo X es t)
 (hn:(assignEach es X.env).length=n:=by rfl)(hst:(assignEach es X.env).findIdx? (·.1)=none:=by rfl):PG X (.Tuple es k pos) (Za2 X.K n t):=by
 intro pins s σ H v u Q I r hw
 obtain⟨a,xs,e1,hq,hl,hw⟩:=hw
 subst e1
 cases r
 obtain⟨its,rv,ht,hz⟩:=I.tuple hq
 refine assign_Tuple_tuple (I.ok.hd hc) ht (by simp[hn,<-hl,rv.length]) hst λh' hx=>?_
 have I1:Inv X pins σ H {s with heap:=h'}:=I.kept (t':=s.toks) λb o e=>hx b o (Nat.ne_of_lt (Heap.lt_size e)) e
 exact h pins _ σ H xs _ Q I1 (by simpa using rv) hw
def Vz(te:TE)(g:TG):TS:=λD σ H=>te σ H λx H1=>g x σ H1 D.nx
def Qd{tg e:Expr}{te:TE}{g:TG}(he:PE X e te)(hg:PG X tg g)(hs:swapsWithSole [tg] e pos.line X.env=pure false:=by rfl)(hw:swappedStores [tg] e X.env=pure none:=by rfl)
 (h1:(assignEach [tg] X.env).map (·.2)=[assign tg X.env]:=by rfl):PS X (.Assign [tg] e pos) (Vz te g):=by
 intro pins s σ H D I h
 refine wpAny_Assign_stores (ļ (he pins s σ H _ I h) λv s1 ⟨x,H1,I1,r1,q1⟩=>?_) hs hw
 rw[h1]
 exact ļ (hg pins s1 σ H1 x v _ I1 r1 q1) λ_ s2 q=>q
def qj{i:Nat}{x:Str}{e:Expr}{te:TE}{pos':Pos}(hN:X.N.Nodup)(hi:X.N[i]?=some x)(hx:Loc X.env.scope x)(he:PE X e te)(hs:swapsWith e (some (.Name x pos')) pos.line X.env=pure false:=by rfl)(hf:X.fn x=true\/X.env.scope.names.lookup x=some .local:=by first|exact .inl rfl|exact .inr rfl|assumption) :
 PS X (.Assign [.Name x pos'] e pos) (Vz te (Kv i)):=by
 intro pins s σ H D I h
 refine wpAny_Assign_Name (ļ (he pins s σ H _ I h) λv s1 ⟨y,H1,I1,r1,q1⟩=>?_) hs
 exact sI I1 hN hi hx r1 (λs2 I2=>⟨_,H1,I2,q1⟩) hf
end
section
variable{X:Cx}{pos:Pos}
end
structure It where
 go:Nat->Hp->Prop
 yld:Nat->Hp->V->Hp->Prop
 stop:Nat->Hp->Prop
def cL(X:Cx)(pins:List (Addr×Obj))(H:Hp)(b:Addr):Prop:=
 H b=none/\b≠X.env.locals/\b∉X.fs/\(b∈X.ex\/X.s₀.heap.objs.size<=b)/\(∀x c,X.env.cells.lookup x=some c->c≠b)/\∀p∈X.pn++pins,p.1≠b
def Inv.zy{X:Cx}{pins:List (Addr×Obj)}{σ:St}{H H':Hp}{s:Shared}{b:Addr}(I:Inv X pins σ H s)(hb:s.heap.objs.size<=b)(hn:H' b=none):cL X pins H' b:=by
 refine⟨hn,Nat.ne_of_gt (Nat.lt_of_lt_of_le I.lt hb),I.ZaT hb,.inr (Nat.le_trans I.sz hb),λx c e z=>?_,λp hp z=>?_⟩
 ·obtain⟨v,q⟩:=I.cell x c e
  exact absurd (Nat.lt_of_lt_of_le q.lt (by rw[z];exact hb)) (Nat.lt_irrefl _)
 ·exact absurd (Nat.lt_of_lt_of_le (Heap.lt_size (I.pin p hp).1) (by rw[z];exact hb)) (Nat.lt_irrefl _)
structure Turn(P:Program)(w:World)(K:PySem.W.Frag)(tg:Expr)(J:It)(fp:List Addr)(it:Addr)(tn:Nat->Heap->Prop):Prop where
 mem:it∈fp
 obj:∀i h,tn i h->∀b∈fp,∃o,h.get? b=some o/\∀v,o.data≠ .cell v
 keep:∀i h h',tn i h->(∀b∈fp,∀o,h.get? b=some o->h'.get? b=some o)->tn i h'
 item:∀(X:Cx),X.prog=P->X.w=w->X.K=K->X.calm=true->∀(i:Nat) (pins:List (Addr×Obj)) (s:Shared) (σ:St) (H:Hp) (E:Value->Shared->Prop),Inv X pins σ H s->(∀b∈fp,cL X pins H b)->tn i s.heap->J.go i H->
  wpAny (model P w) X.A (pyNext (.ref it)) (λr s1=>∃u,r=some u/\
   wpAny (model P w) X.A (letOwnedTupleGo tg (.ref it) u) (λ_ s2=>∃x H',Inv X pins σ H' s2/\RelV x u/\J.yld i H x H'/\tn (i+1) s2.heap/\∀b∈fp,H' b=none) E s1) E s
 done:∀(X:Cx),X.prog=P->X.w=w->X.K=K->X.calm=true->∀(i:Nat) (pins:List (Addr×Obj)) (s:Shared) (σ:St) (H:Hp) (E:Value->Shared->Prop),Inv X pins σ H s->(∀b∈fp,cL X pins H b)->tn i s.heap->J.stop i H->
  wpAny (model P w) X.A (pyNext (.ref it)) (λr s1=>r=none/\Inv X pins σ H s1) E s
 self:∀(A:Around) (i:Nat) (s:Shared) (Q:Value->Shared->Prop) (E:Value->Shared->Prop),tn i s.heap->Q (.ref it) s->wpAny (model P w) A (pyIter (.ref it)) Q E s
abbrev TI:=St->Hp->(It->Hp->Prop)->Prop
def PIE(X:Cx)(pins:List (Addr×Obj))(σ:St)(tg:Expr)(R:It->Hp->Prop)(itv:Value)(s2:Shared):Prop:=
 ∃(it:Addr) (fp:List Addr) (tn:Nat->Heap->Prop) (J:It) (H':Hp),itv=.ref it/\Inv X pins σ H' s2/\Turn X.prog X.w X.K tg J fp it tn/\tn 0 s2.heap/\(∀b∈fp,cL X pins H' b)/\R J H'
def PI(X:Cx)(tg iter:Expr)(wi:TI):Prop:=
 ∀(pins:List (Addr×Obj)) (s:Shared) (σ:St) (H:Hp) (R:It->Hp->Prop),Inv X pins σ H s->wi σ H R->
  wpAny (model X.prog X.w) X.A (eval iter X.env) (λv s1=>wpAny (model X.prog X.w) X.A (pyIter v) (PIE X pins σ tg R) X.xe s1) X.xe s
def wU{M:Model}{A:Around}{E:Value->Shared->Prop}{s:Shared}{tg:Expr}{it:Addr}{u:Value}{o:Obj}{n:String}{vs:Array Value}{Q:Unit->Shared->Prop}(ho:s.heap.get? it=some o)(hc:o.cls=.type n)(hd:o.data=.fields vs)
 (hn:["enumerate","zip","dict_itemiterator","dict_reverseitemiterator","odict_iterator","itertools.zip_longest","itertools.pairwise"].contains n=false)(hQ:Q () s):wpAny M A (letOwnedTupleGo tg (.ref it) u) Q E s:=by
 unfold letOwnedTupleGo
 cases tg<;>first
  |exact wpAny_pure hQ
  |(cases u<;>first
     |exact wpAny_pure hQ
     |(refine wpAny_bind (wpAny_load ho ?_)
       rw[hc,hd]
       show wpAny M A (if(["enumerate","zip","dict_itemiterator","dict_reverseitemiterator","odict_iterator","itertools.zip_longest","itertools.pairwise"].contains n && vs[0]?== some (rawInt _))=true then _ else _) Q E s
       rw[if_neg (by intro h;rw[hn,Bool.false_and] at h;cases h)]
       exact wpAny_pure hQ))
def Qe(K:PySem.W.Frag)(a:Addr):It:=
 ⟨λi H=>∃xs x,Ř K H a xs/\xs[i]?=some x,λi H x H'=>H'=H/\∀xs,Ř K H a xs->xs[i]?=some x,λi H=>∃xs,Ř K H a xs/\xs.length<=i⟩
def VB(K:PySem.W.Frag)(a:Addr):It:=
 ⟨λi H=>∃xs x,bx K H a xs/\xs[i]?=some x,λi H x H'=>H'=H/\∀xs,bx K H a xs->xs[i]?=some x,λi H=>∃xs,bx K H a xs/\xs.length<=i⟩
def Itr(lo:Int)(n:Nat):It:=⟨λi _=>i<n,λi H x H'=>H'=H/\x=.int (lo+i),λi _=>n<=i⟩
def zB{P:Program}{w:World}{K:PySem.W.Frag}{tg:Expr}(a it:Addr):Turn P w K tg (Qe K a) [it] it (λi h=>h.IsListIter it a i) where
 mem:=by simp
 obj:=λi h st b hb=>by
  have e:b=it:=by simpa using hb
  subst e
  obtain⟨o,e,c,d⟩:=st
  exact⟨o,e,λv z=>by rw[d] at z;cases z⟩
 keep:=λi h h' st k=>st.at λo e=>k it (by simp) o e
 item:=by
  intro X hP hw hK hc i pins s σ H E I hf st hg
  subst hP hw hK
  obtain⟨xs,x,hq,hx⟩:=hg
  obtain⟨its,rv,p,hz⟩:=I.list hq
  obtain⟨u,hu,ru⟩:=rv.get hx
  obtain⟨f0,f1,f2,f3,f4,f5⟩:=hf it (by simp)
  refine wpAny_pyNext_list_item st p.isList (x:=u) (by simpa using hu) λh' st' sb=>?_
  have I1:Inv X pins σ H {s with heap:=h'}:=I.turned (t':=s.toks) (λb o hb e=>(sb.2 b hb).trans e) f0 f1 f3 f4 f5
  obtain⟨o,e,c,d⟩:=id st'
  exact⟨u,rfl,wU (s:={s with heap:=h'}) e c d (by decide) ⟨x,H,I1,ru,⟨rfl,λys hy=>by rw[I.kY hy hq];exact hx⟩,st',λb hb=>(hf b hb).1⟩⟩
 done:=by
  intro X hP hw hK hc i pins s σ H E I hf st hg
  subst hP hw hK
  obtain⟨xs,hq,hx⟩:=hg
  obtain⟨its,rv,p,hz⟩:=I.list hq
  obtain⟨f0,f1,f2,f3,f4,f5⟩:=hf it (by simp)
  have hl:=rv.length
  exact wpAny_pyNext_list_end (I.ok.hd hc) st p.isList (by simp;omega) λh' eb=>⟨rfl,I.turned (t':=s.toks) (λb o hb e=>eb b o hb e) f0 f1 f3 f4 f5⟩
 self:=λ_ _ _ _ _ st h=>wpAny_pyIter_listiter st h
def vq{P:Program}{w:World}{K:PySem.W.Frag}{tg:Expr}(a it:Addr):Turn P w K tg (VB K a) [it] it (λi h=>h.IsTupleIter it a i) where
 mem:=by simp
 obj:=λi h st b hb=>by
  have e:b=it:=by simpa using hb
  subst e
  obtain⟨o,e,c,d⟩:=st
  exact⟨o,e,λv z=>by rw[d] at z;cases z⟩
 keep:=λi h h' st k=>st.at λo e=>k it (by simp) o e
 item:=by
  intro X hP hw hK hc i pins s σ H E I hf st hg
  subst hP hw hK
  obtain⟨xs,x,hq,hx⟩:=hg
  obtain⟨its,rv,p,hz⟩:=I.tuple hq
  obtain⟨u,hu,ru⟩:=rv.get hx
  obtain⟨f0,f1,f2,f3,f4,f5⟩:=hf it (by simp)
  refine wpAny_pyNext_tuple_item st (show s.heap.IsTuple a its.toArray from p) (x:=u) (by simpa using hu) λh' st' sb=>?_
  have I1:Inv X pins σ H {s with heap:=h'}:=I.turned (t':=s.toks) (λb o hb e=>(sb.2 b hb).trans e) f0 f1 f3 f4 f5
  obtain⟨o,e,c,d⟩:=id st'
  exact⟨u,rfl,wU (s:={s with heap:=h'}) e c d (by decide) ⟨x,H,I1,ru,⟨rfl,λys hy=>by rw[I.oR hy hq];exact hx⟩,st',λb hb=>(hf b hb).1⟩⟩
 done:=by
  intro X hP hw hK hc i pins s σ H E I hf st hg
  subst hP hw hK
  obtain⟨xs,hq,hx⟩:=hg
  obtain⟨its,rv,p,hz⟩:=I.tuple hq
  obtain⟨f0,f1,f2,f3,f4,f5⟩:=hf it (by simp)
  have hl:=rv.length
  exact wpAny_pyNext_tuple_end (I.ok.hd hc) st (show s.heap.IsTuple a its.toArray from p) (by simp;omega) λh' eb=>⟨rfl,I.turned (t':=s.toks) (λb o hb e=>eb b o hb e) f0 f1 f3 f4 f5⟩
 self:=λ_ _ _ _ _ st h=>wpAny_pyIter_tupleiter st h
def vA{P:Program}{w:World}{K:PySem.W.Frag}{tg:Expr}(it:Addr)(lo:Int)(n:Nat):Turn P w K tg (Itr lo n) [it] it (λi h=>IsRangeIter h it (lo+(i:Nat)*1) ((n:Int)-(i:Nat)) 1) where
 mem:=by simp
 obj:=λi h st b hb=>by
  have e:b=it:=by simpa using hb
  subst e
  exact⟨_,st,λv z=>by
   have z':Data.fields _=Data.cell v:=z
   cases z'⟩
 keep:=λi h h' st k=>k it (by simp) _ st
 item:=by
  intro X hP hw hK hc i pins s σ H E I hf st hg
  subst hP hw hK
  obtain⟨f0,f1,f2,f3,f4,f5⟩:=hf it (by simp)
  have W:=Walks.range (prog:=X.prog) (w:=X.w) (I.ok.hd hc) it lo 1 n
  refine W.item i s _ _ hg st λv h' tk hv st' kk=>?_
  obtain⟨t,rfl⟩:=hv
  have I1:Inv X pins σ H {s with heap:=h',toks:=tk}:=I.turned (λb o hb e=>kk b o (by simpa using hb) e) f0 f1 f3 f4 f5
  refine⟨_,rfl,wU (s:={s with heap:=h',toks:=tk}) (n:= "range_iterator") st' rfl rfl (by decide) ⟨.int (lo+i),H,I1,⟨t,?_⟩,⟨rfl,rfl⟩,st',λb hb=>(hf b hb).1⟩⟩
  rw[Int.mul_one]
 done:=by
  intro X hP hw hK hc i pins s σ H E I hf st hg
  subst hP hw hK
  obtain⟨f0,f1,f2,f3,f4,f5⟩:=hf it (by simp)
  exact wpAny_pyNext_range_end (I.ok.hd hc) st (by have:n<=i:=hg;omega) λh' eb=>⟨rfl,I.turned (t':=s.toks) (λb o hb e=>eb b o hb e) f0 f1 f3 f4 f5⟩
 self:=λ_ _ _ _ _ st h=>wpAny_pyIter_rangeiter st h
end L2
namespace L2
open PySem PySem.Spec PyProof.Rows
section
variable{X:Cx}{tg:Expr}
def Bu{pins:List (Addr×Obj)}{σ:St}{H:Hp}{s:Shared}{R:It->Hp->Prop}{E:Value->Shared->Prop}{lo hi:Int}{t u v:Tok}{tk:Nat}(I:Inv X pins σ H s)(h1: -(2 ^ 62)<=lo)(h2:lo<2 ^ 62)(h3: -(2 ^ 62)<=hi)(h4:hi<2 ^ 62)
 (q:R (Itr lo (hi-lo).toNat) H):wpAny (model X.prog X.w) X.A (pyIter (.ref s.heap.objs.size)) (PIE X pins σ tg R) E {s with heap:=s.heap.push {cls:=.type "range",data:=.fields #[.int lo t,.int hi u,.int 1 v]},toks:=tk}:=by
 refine wpAny_pyIter_range (IsRange.new ..) (small_one h1 h2 h3 h4) ?_
 have I1:Inv X pins σ H {s with heap:=s.heap.push {cls:=.type "range",data:=.fields #[.int lo t,.int hi u,.int 1 v]},toks:=tk}:=I.kept λb o e=>Heap.get?_push_of_some _ e
 refine⟨(s.heap.push {cls:=.type "range",data:=.fields #[.int lo t,.int hi u,.int 1 v]}).objs.size,[(s.heap.push {cls:=.type "range",data:=.fields #[.int lo t,.int hi u,.int 1 v]}).objs.size],_,_,H,rfl,
  I1.kept (t':=tk) λb o e=>Heap.get?_push_of_some _ e,vA _ lo (hi-lo).toNat,?_,λb hb=>?_,q⟩
 ·have e1:lo+((0:Nat):Int)*1=lo:=by simp
  have e2:(((hi-lo).toNat:Nat):Int)-((0:Nat):Int)=Builtin.Range.rangeSize lo hi 1:=by rw[rangeSize_one];split<;>omega
  show IsRangeIter _ _ (lo+((0:Nat):Int)*1) ((((hi-lo).toNat:Nat):Int)-((0:Nat):Int)) 1
  rw[e1,e2]
  exact Heap.get?_push_size _ rfl
 ·have e:b=(s.heap.push {cls:=.type "range",data:=.fields #[.int lo t,.int hi u,.int 1 v]}).objs.size:=by simpa using hb
  subst e
  exact I1.zy (Nat.le_refl _) (I1.hok.fresh (Nat.le_refl _))
def VD(ta:TA):TI:=λσ H R=>ta σ H λvs H1=>∃j:Int,vs=[.int j]/\ -(2 ^ 62)<=j/\j<2 ^ 62/\R (Itr 0 j.toNat) H1
def zE{a:Expr}{ta:TA}{p pos:Pos}(hg:Gl X "range")(hm:X.mg "range" =none)(ha:PA X [a] ta)(hs:starEach [a] X.env=[(false,eval a X.env)]:=by rfl):PI X tg (.Call (.Name "range" p) [a] [] pos) (VD ta):=by
 intro pins s σ H R I h
 refine Call_ (eX I hg hm boot_range (PyProof.Rows.callWith_type1 (ļ (ha pos pins s σ H _ I h) λus s1 ⟨vs,H1,I1,r1,q1⟩=>?_) hs rfl))
 obtain⟨j,e,q1,q2,q⟩:=q1
 subst e
 cases r1 with
 |cons r rr=>
  cases rr
  obtain⟨t,rfl⟩:=r
  exact call_range_1 (Bu I1 (by omega) (by omega) q1 q2 (by simpa using q))
def VF(wi:TI)(g:TG)(tb:TS):TS:=λD σ H=>wi σ H λJ H1=>∃W:Nat->Nat->St->Hp->Prop,(∃m,W 0 m σ H1)/\∀i m σ H,W i m σ H->
 (J.stop i H/\D.nx σ H)\/(J.go i H/\∃N:St->Hp->Prop,(∀σ' H',N σ' H'->∃m',m'<m/\W (i+1) m' σ' H')/\∀x H',J.yld i H x H'->g x σ H' λσ2 H2=>tb {D with nx:=N,ct:=N,bk:=D.nx} σ2 H2)
def gW(fp:List Addr)(h:Heap):List (Addr×Obj):=fp.filterMap λb=>(h.get? b).map λo=>(b,o)
def ţ{fp:List Addr}{h:Heap}{b:Addr}{o:Obj}(hb:b∈fp)(e:h.get? b=some o):(b,o)∈gW fp h:=List.mem_filterMap.mpr ⟨b,hb,by rw[e];rfl⟩
def zF{fp:List Addr}{h:Heap}{p:Addr×Obj}(hp:p∈gW fp h):p.1∈fp/\h.get? p.1=some p.2:=by
 obtain⟨b,hb,e⟩:=List.mem_filterMap.mp hp
 cases q:h.get? b with
 |none=>rw[q] at e;cases e
 |some o=>
  rw[q] at e
  have e':(b,o)=p:=Option.some.inj e
  subst e'
  exact⟨hb,q⟩
def Inv.pinned{pins:List (Addr×Obj)}{σ:St}{H:Hp}{s:Shared}{fp:List Addr}(I:Inv X pins σ H s)(hf:∀b∈fp,cL X pins H b)(ho:∀b∈fp,∃o,s.heap.get? b=some o/\∀v,o.data≠ .cell v):Inv X (pins++gW fp s.heap) σ H s:=
 I.wR fun p hp=>(List.mem_append.mp hp).elim (fun z=>I.pin p (List.mem_append_right _ z)) fun z=>by
   obtain⟨hb,e⟩:=zF z
   obtain⟨f0,f1,f2,_⟩:=hf p.1 hb
   obtain⟨o,e',d⟩:=ho p.1 hb
   rw[e] at e';cases e'
   exact⟨e,f0,f1,f2,d⟩
def Inv.cM{pins pl:List (Addr×Obj)}{σ:St}{H:Hp}{s:Shared}(I:Inv X (pins++pl) σ H s):Inv X pins σ H s:=I.wR λp hp=>I.pin p (List.mem_append_right _ (List.mem_append_left _ hp))
def Qf{iter:Expr}{body:List Stmt}{wi:TI}{g:TG}{tb:TS}{pos:Pos}(hp:PassesOwn (model X.prog X.w) X.A X.env X.xe)(hc:X.calm=true)(hi:PI X tg iter wi)(hg:PG X tg g)(hb:fG X body tb)
 (hs:∀x,foldedSetIterable iter X.env x=pure x:=by intro _;rfl):PS X (.For tg iter body [] pos) (VF wi g tb):=by
 intro pins s σ H D I h
 refine wpAny_For (ļ (hi pins s σ H _ I h) λv s1 h1=>ļ h1 λitv s2 h2=>?_) hs
 obtain⟨it,fp,tn,J,H2,e,I2,T,st2,f2,W,⟨m0,w0⟩,turn⟩:=h2
 subst e
 -- what stays true of the iterator's objects through the loop
 have stat:∀{H':Hp},(∀b∈fp,H' b=none)->∀b∈fp,cL X pins H' b:=λhn b hb=>⟨hn b hb,(f2 b hb).2⟩
 refine codeAny_forLoop_any (λn s'=>∃i σ' H',Inv X pins σ' H' s'/\tn i s'.heap/\(∀b∈fp,H' b=none)/\W i n σ' H') ?_ m0 ⟨0,σ,H2,I2,st2,λb hb=>(f2 b hb).1,w0⟩
 rintro n s3 ⟨i,σ3,H3,I3,st3,fr3,w3⟩
 rcases turn i n σ3 H3 w3 with⟨stop,qn⟩|⟨go,N,hN,step⟩
 ·refine wpAny_passesOwn hp (ļ (T.done X rfl rfl rfl hc i pins s3 σ3 H3 X.xe I3 (stat fr3) st3 stop) λr s4 ⟨hr,I4⟩=>?_)
  subst hr
  exact wpAny_execs_nil ⟨σ3,H3,I4,qn⟩
 ·refine wpAny_passesOwn hp (ļ (T.item X rfl rfl rfl hc i pins s3 σ3 H3 X.xe I3 (stat fr3) st3 go) λr s4 ⟨u,hr,h4⟩=>?_)
  subst hr
  refine wpAny_passesOwn hp (ļ h4 λ_ s5 ⟨x,H5,I5,r5,y5,HF,Qg⟩=>?_)
  have I5':=I5.pinned (stat Qg) (T.obj _ _ HF)
  refine wpAny_passesOwn hp (ļ (hg _ s5 σ3 H5 x u _ I5' r5 (step x H5 y5)) λ_ s6 ⟨σ6,H6,I6,q6⟩=>?_)
  refine wpAny_passesOwn hp (ļ (hb _ s6 σ6 H6 _ I6 q6) λf s7 q7=>?_)
  have again:∀{σ7:St} {H7:Hp},Inv X (pins++gW fp s5.heap) σ7 H7 s7->N σ7 H7->∃m,m<n/\∃i σ' H',Inv X pins σ' H' s7/\tn i s7.heap/\(∀b∈fp,H' b=none)/\W i m σ' H':=fun{σ7 H7} I7 n7=>by
   obtain⟨m',hm,w7⟩:=hN σ7 H7 n7
   refine⟨m',hm,i+1,σ7,H7,I7.cM,T.keep _ _ _ HF λb hb o e=>(I7.pin (b,o) (List.mem_append_right _ (List.mem_append_right _ (ţ hb e)))).1,λb hb=>?_,w7⟩
   obtain⟨o,e,d⟩:=T.obj _ _ HF b hb
   exact(I7.pin (b,o) (List.mem_append_right _ (List.mem_append_right _ (ţ hb e)))).2.1
  cases f with
  |next=>obtain⟨σ7,H7,I7,n7⟩:=q7;exact again I7 n7
  |cont=>obtain⟨σ7,H7,I7,n7⟩:=q7;exact again I7 n7
  |brk=>obtain⟨σ7,H7,I7,q7⟩:=q7;exact⟨σ7,H7,I7.cM,q7⟩
  |ret v=>obtain⟨x7,σ7,H7,I7,r7,q7⟩:=q7;exact⟨x7,σ7,H7,I7.cM,r7,q7⟩
end
end L2
namespace L2
open PySem PySem.Spec PyProof.Rows
abbrev R2:=V->V->Hp->VK->Prop
def Š(X:Cx)(f:Value->Value->Sem Value)(r:R2):Prop:=
 ∀(pins:List (Addr×Obj)) (s:Shared) (σ:St) (H:Hp) (x y:V) (v u:Value) (Q:VK),Inv X pins σ H s->RelV x v->RelV y u->r x y H Q->
  wpAny (model X.prog X.w) X.A (f v u) (EP X pins σ Q) X.xe s
def HJ(X:Cx)(f:Value->Sem Value)(r:V->Hp->VK->Prop):Prop:=
 ∀(pins:List (Addr×Obj)) (s:Shared) (σ:St) (H:Hp) (x:V) (v:Value) (Q:VK),Inv X pins σ H s->RelV x v->r x H Q->
  wpAny (model X.prog X.w) X.A (f v) (EP X pins σ Q) X.xe s
def ŕ(X:Cx)(f:Value)(r:List V->Hp->VK->Prop):Prop:=
 ∀(pins:List (Addr×Obj)) (s:Shared) (σ:St) (H:Hp) (xs:List V) (us:List Value) (Q:VK),Inv X pins σ H s->Vals xs us->r xs H Q->
  wpAny (model X.prog X.w) X.A (call f us) (EP X pins σ Q) X.xe s
def Za3(X:Cx)(r:V->Hp->(Bool->Hp->Prop)->Prop):Prop:=
 ∀(pins:List (Addr×Obj)) (s:Shared) (σ:St) (H:Hp) (x:V) (v:Value) (Q:Bool->Hp->Prop),Inv X pins σ H s->RelV x v->r x H Q->
  wpAny (model X.prog X.w) X.A (truthy v) (TP X pins σ Q) X.xe s
def Qh(r:R2)(ta tb:TE):TE:=λσ H Q=>ta σ H λx H1=>tb σ H1 λy H2=>r x y H2 Q
def tUn(r:V->Hp->VK->Prop)(ta:TE):TE:=λσ H Q=>ta σ H λx H1=>r x H1 Q
def rI(C:Int->Int->Prop)(g:Int->Int->V):R2:=λx y H Q=>∃i j,x=.int i/\y=.int j/\C i j/\Q (g i j) H
def Qi(g:Int->Int->V):R2:=λx y H Q=>∃i j,x=.int i/\y=.int j/\Q (g i j) H
def rU(g:Int->V):V->Hp->VK->Prop:=λx H Q=>∃i,x=.int i/\Q (g i) H
section
variable{X:Cx}{a b c:Expr}{ta tb tc:TE}{pos:Pos}
def Qj(ha:PE X a ta)(hb:PE X b tb){pins:List (Addr×Obj)}{s:Shared}{σ:St}{H:Hp}{R:V->V->Hp->Prop}(I:Inv X pins σ H s)
 (h:ta σ H λx H1=>tb σ H1 λy H2=>R x y H2){Q:Value->Shared->Prop}{f:Value->Value->Sem Value}
 (hf:∀v u s2 x y H2,Inv X pins σ H2 s2->RelV x v->RelV y u->R x y H2->wpAny (model X.prog X.w) X.A (f v u) Q X.xe s2) :
 wpAny (model X.prog X.w) X.A (eval a X.env) (λv s₁=>wpAny (model X.prog X.w) X.A (eval b X.env) (λu s₂=>wpAny (model X.prog X.w) X.A (f v u) Q X.xe s₂) X.xe s₁) X.xe s:=by
 refine ļ (ha pins s σ H _ I h) λv s1 ⟨x,H1,I1,r1,q1⟩=>?_
 refine ļ (hb pins s1 σ H1 _ I1 q1) λu s2 ⟨y,H2,I2,r2,q2⟩=>?_
 exact hf v u s2 x y H2 I2 r1 r2 q2
def Kw{op:Operator}{r:R2}(ho:Š X (binaryOp op) r)(ha:PE X a ta)(hb:PE X b tb):PE X (.BinOp a op b pos) (Qh r ta tb):=by
 intro pins s σ H Q I h
 exact wpAny_BinOp (Qj ha hb I h λv u s2 x y H2 I2 rx ry q=>ho pins s2 σ H2 x y v u Q I2 rx ry q)
def VG{op:UnaryOp}{r:V->Hp->VK->Prop}(ho:HJ X (unaryOp op) r)(ha:PE X a ta):PE X (.UnaryOp op a pos) (tUn r ta):=by
 intro pins s σ H Q I h
 exact UnaryOp_ (ļ (ha pins s σ H _ I h) λv s1 ⟨x,H1,I1,r1,q1⟩=>ho pins s1 σ H1 x v Q I1 r1 q1)
def Ho{f:Value->Value->Sem Value}{C:Int->Int->Prop}{g:Int->Int->Int}
 (rule:∀(i j:Int) (t u:Tok) (s:Shared) (Q:Value->Shared->Prop) (E:Value->Shared->Prop),C i j->Q (.int (g i j) s.toks) {s with toks:=s.toks+1}->wpAny (model X.prog X.w) X.A (f (.int i t) (.int j u)) Q E s) :
 Š X f (rI C λi j=>.int (g i j)):=by
 intro pins s σ H x y v u Q I rx ry h
 obtain⟨i,j,rfl,rfl,hc,q⟩:=h
 obtain⟨t,rfl⟩:=rx
 obtain⟨t',rfl⟩:=ry
 exact rule i j t t' s _ _ hc ⟨.int (g i j),H,I.tok _,⟨_,rfl⟩,q⟩
def zG{f:Value->Value->Sem Value}{g:Int->Int->Int}
 (rule:∀(i j:Int) (t u:Tok) (s:Shared) (Q:Value->Shared->Prop) (E:Value->Shared->Prop),Q (.int (g i j) s.toks) {s with toks:=s.toks+1}->wpAny (model X.prog X.w) X.A (f (.int i t) (.int j u)) Q E s) :
 Š X f (Qi λi j=>.int (g i j)):=by
 intro pins s σ H x y v u Q I rx ry h
 obtain⟨i,j,rfl,rfl,q⟩:=h
 obtain⟨t,rfl⟩:=rx
 obtain⟨t',rfl⟩:=ry
 exact rule i j t t' s _ _ ⟨.int (g i j),H,I.tok _,⟨_,rfl⟩,q⟩
def VH{f:Value->Value->Sem Value}{g:Int->Int->Bool}
 (rule:∀(i j:Int) (t u:Tok) (s:Shared) (Q:Value->Shared->Prop) (E:Value->Shared->Prop),Q (.bool (g i j)) s->wpAny (model X.prog X.w) X.A (f (.int i t) (.int j u)) Q E s) :
 Š X f (Qi λi j=>.bl (g i j)):=by
 intro pins s σ H x y v u Q I rx ry h
 obtain⟨i,j,rfl,rfl,q⟩:=h
 obtain⟨t,rfl⟩:=rx
 obtain⟨t',rfl⟩:=ry
 exact rule i j t t' s _ _ ⟨.bl (g i j),H,I,rfl,q⟩
def VJ(i j:Int):Prop:=0<j/\j<1073741824
def Qk(i j:Int):Prop:=0<=j/\j<=1000000/\i.natAbs<2 ^ 64
def Ql(i j:Int):Prop:=(-(2 ^ 64)<i/\i<2 ^ 64)\/(-(2 ^ 64)<j/\j<2 ^ 64)
def Ql.ok{i j:Int}(h:Ql i j):IntMulOk i j:=by
 rcases h with⟨h1,h2⟩|⟨h1,h2⟩
 ·exact .of_left (intBits_le_64 h1 h2)
 ·exact .of_right (intBits_le_64 h1 h2)
def Qm:Š X (binaryOp .Add) (Qi λi j=>.int (i+j)):=zG λ_ _ _ _ _ _ _ q=>add_int q
def Qn:Š X (binaryOp .Sub) (Qi λi j=>.int (i-j)):=zG λ_ _ _ _ _ _ _ q=>sub_int q
def HN:Š X (binaryOp .Mod) (rI (λ_ j=>j≠0) λi j=>.int (i.fmod j)):=Ho λ_ _ _ _ _ _ _ hc q=>mod_int' hc q
def Qo:Š X (binaryOp .Pow) (rI Qk λi j=>.int (i ^ j.toNat)):=Ho λ_ _ _ _ _ _ _ hc q=>pow_int_small hc.1 hc.2.1 hc.2.2 q
def unI{f:Value->Sem Value}{g:Int->Int}
 (rule:∀(i:Int) (t:Tok) (s:Shared) (Q:Value->Shared->Prop) (E:Value->Shared->Prop),Q (.int (g i) s.toks) {s with toks:=s.toks+1}->wpAny (model X.prog X.w) X.A (f (.int i t)) Q E s) :
 HJ X f (rU λi=>.int (g i)):=by
 intro pins s σ H x v Q I rx h
 obtain⟨i,rfl,q⟩:=h
 obtain⟨t,rfl⟩:=rx
 exact rule i t s _ _ ⟨.int (g i),H,I.tok _,⟨_,rfl⟩,q⟩
def Qp:HJ X (unaryOp .USub) (rU λi=>.int (-i)):=unI λ_ _ _ _ _ q=>neg_int q
end
section
variable{X:Cx}{a b c:Expr}{ta tb tc:TE}{pos:Pos}
def Bv{pins:List (Addr×Obj)}{σ:St}{H:Hp}{s:Shared}{Q:VK}{k k':Bool}(I:Inv X pins σ H s)(q:Q (.bl k) H)(e:k=k'):EP X pins σ Q (.bool k') s:=by
 subst e
 exact⟨.bl k,H,I,rfl,q⟩
def VL:Š X (compareOp .Lt) (Qi λi j=>.bl (decide (i<j))):=VH λ_ _ _ _ _ _ _ q=>lt_int q
def VN:Š X (compareOp .LtE) (Qi λi j=>.bl (decide (i<=j))):=VH λ_ _ _ _ _ _ _ q=>le_int q
def gY:Š X (compareOp .Is) (λx y H Q=>y=.non/\Q (.bl (decide (x=.non))) H):=by
 intro pins s σ H x y v u Q I rx ry h
 obtain⟨rfl,q⟩:=h
 cases ry
 refine is_none_gen (Bv I q ?_)
 cases x<;>first
  |(cases rx;rfl)
  |(obtain⟨t,rfl⟩:=rx;rfl)
def wV:Š X (compareOp .IsNot) (λx y H Q=>y=.non/\Q (.bl (!decide (x=.non))) H):=by
 intro pins s σ H x y v u Q I rx ry h
 obtain⟨rfl,q⟩:=h
 cases ry
 refine isnot_none_gen (Bv I q ?_)
 cases x<;>first
  |(cases rx;rfl)
  |(obtain⟨t,rfl⟩:=rx;rfl)
def Š.or{f:Value->Value->Sem Value}{r r':R2}(h:Š X f r)(h':Š X f r'):Š X f (λx y H Q=>r x y H Q\/r' x y H Q):=by
 intro pins s σ H x y v u Q I rx ry q
 rcases q with q|q
 ·exact h pins s σ H x y v u Q I rx ry q
 ·exact h' pins s σ H x y v u Q I rx ry q
def Ő(b:Expr){op:CmpOp}(h:op≠ .In:=by decide)(h2:op≠ .NotIn:=by decide):behindInMarks op b=false:=by
 have e1:(op== CmpOp.In)=false:=by cases op<;>first|rfl|exact absurd rfl h
 have e2:(op== CmpOp.NotIn)=false:=by cases op<;>first|rfl|exact absurd rfl h2
 cases b<;>simp[behindInMarks,e1,e2]
def HS{op:CmpOp}{r:R2}(ho:Š X (compareOp op) r)(ha:PE X a ta)(hb:PE X b tb)(hm:behindInMarks op b=false):PE X (.Compare a [op] [b] pos) (Qh r ta tb):=by
 intro pins s σ H Q I h
 exact wpAny_Compare1 (Qj ha hb I h λv u s2 x y H2 I2 rx ry q=>ho pins s2 σ H2 x y v u Q I2 rx ry q) hm
def Qq(K:PySem.W.Frag)(x:V)(H:Hp)(k:Bool):Prop:=
 match x with
 | .non=>k=false
 | .bl b=>k=b
 | .int i=>k=(i != 0)
 | .str y=>y.length<=sizeLine/\k=((y.length:Int) != 0)
 | .Kr y=>y.size<=sizeLine/\k=((y.size:Int) != 0)
 | .ref p=>(∃xs,Ř K H p xs/\k=!xs.isEmpty)\/(∃xs,bx K H p xs/\k=!xs.isEmpty)\/∃kvs,H p=some (.dK kvs)/\k=!kvs.isEmpty
 |_=>False
def vB{κ:Type}{kvs:List (κ×V)}{vs:List (κ×Value)}(r:KV kvs vs):(!vs.isEmpty)=!kvs.isEmpty:=by
 cases r<;>rfl
def kZ{xs:List V}{its:List Value}(r:Vals xs its):(!its.toArray.isEmpty)=!xs.isEmpty:=by
 cases r<;>simp
def k_:(sizeLine:Nat)<2 ^ 63:=by rw[sizeLine_eq];decide
def Qs:Za3 X (λx H Q=>∃k,Qq X.K x H k/\Q k H):=by
 intro pins s σ H x v Q I rx h
 obtain⟨k,e,q⟩:=h
 have hl:=k_
 have hs:sizeLine=16777216:=sizeLine_eq
 cases x with
 |non=>
  cases rx
  have e':k=false:=e
  subst e'
  exact truthy_none ⟨H,I,q⟩
 |bl b=>
  cases rx
  have e':k=b:=e
  subst e'
  exact wpAny_truthy_bool ⟨H,I,q⟩
 |int i=>
  obtain⟨t,rfl⟩:=rx
  have e':k=(i != 0):=e
  subst e'
  exact PySem.P.truthy_int ⟨H,I,q⟩
 |str y=>
  obtain⟨t,rfl⟩:=rx
  obtain⟨hy,e'⟩:y.length<=sizeLine/\k=((y.length:Int) != 0):=e
  subst e'
  exact PySem.P.truthy_str (by omega) ⟨H,I.tok _,q⟩
 |Kr y=>
  obtain⟨t,rfl⟩:=rx
  obtain⟨hy,e'⟩:y.size<=sizeLine/\k=((y.size:Int) != 0):=e
  subst e'
  exact PySem.W.truthy_bytes (by omega) ⟨H,I.tok _,q⟩
 |ref p=>
  cases rx
  have e':(∃xs,Ř X.K H p xs/\k=!xs.isEmpty)\/(∃xs,bx X.K H p xs/\k=!xs.isEmpty)\/∃kvs,H p=some (.dK kvs)/\k=!kvs.isEmpty:=e
  rcases e' with⟨xs,hx,e'⟩|⟨xs,hx,e'⟩|⟨kvs,hx,e'⟩
  ·subst e'
   obtain⟨its,r,pl,hz⟩:=I.list hx
   have hlen:=r.length
   exact wpAny_truthy_list pl.isList (by simp only[List.size_toArray];omega) ⟨H,I.tok _,by rw[kZ r];exact q⟩
  ·subst e'
   obtain⟨its,r,pl,hz⟩:=I.tuple hx
   have hlen:=r.length
   exact truthy_tuple pl (by simp only[List.size_toArray];omega) ⟨H,I.tok _,by rw[kZ r];exact q⟩
  ·subst e'
   obtain⟨hz,hS,vs,r,m⟩:kvs.length<=sizeLine/\(p== sysModules)=false/\∃vs,KV kvs vs/\s.heap.DictOf (ı X.prog X.w) p vs:=I.hok p _ hx
   have hlen:kvs.length=vs.length:=Paired.length r
   exact wpAny_truthy_dict hS m (by omega) ⟨H,I.tok _,by rw[vB r];exact q⟩
 |_=>exact(show False from e).elim
def Bw(ha:PE X a ta)(he:∀whole,isTrue a X.env whole=(do let v <-whole;standAt a.pos;holding [v] (truthy v))) :
 PT X a (λσ H Q=>ta σ H λx H'=>∃k,Qq X.K x H' k/\Q k H'):=by
 intro pins s σ H Q I h
 exact isTrue_plain (ļ (ha pins s σ H _ I h) λv s1 ⟨x,H1,I1,r1,q1⟩=>Qs pins s1 σ H1 x v Q I1 r1 q1) (he _)
def vC:Š X (binaryOp .Add) (λx y H Q=>∃i j,x=.str i/\y=.str j/\i.length+j.length<=sizeLine/\Q (.str (i++j)) H):=by
 intro pins s σ H x y v u Q I rx ry h
 obtain⟨i,j,rfl,rfl,hz,q⟩:=h
 obtain⟨t,rfl⟩:=rx
 obtain⟨t',rfl⟩:=ry
 exact add_str (λt' tk=>⟨.str (i++j),H,I.tok _,⟨_,rfl⟩,q⟩) hz
def vals1{x:V}{us:List Value}(r:Vals [x] us):∃u,us=[u]/\RelV x u:=by
 cases r with
 |cons r1 r2=>cases r2;exact⟨_,rfl,r1⟩
def vals2{x y:V}{us:List Value}(r:Vals [x,y] us):∃u w',us=[u,w']/\RelV x u/\RelV y w':=by
 cases r with
 |cons r1 r2=>
  cases r2 with
  |cons r3 r4=>cases r4;exact⟨_,_,rfl,r1,r3⟩
def zH:ŕ X (.type "int") (λxs H Q=>(∃i,xs=[.int i]/\Q (.int i) H)\/∃k,xs=[.bl k]/\Q (.int (if k then 1 else 0)) H):=by
 intro pins s σ H xs us Q I r h
 rcases h with⟨i,rfl,q⟩|⟨k,rfl,q⟩
 ·obtain⟨u,rfl,t,rfl⟩:=vals1 r
  exact call_int_int ⟨.int i,H,I,⟨_,rfl⟩,q⟩
 ·obtain⟨u,rfl,r1⟩:=vals1 r
  cases r1
  exact call_int_bool ⟨.int (if k then 1 else 0),H,I.tok _,⟨_,rfl⟩,q⟩
def Za4(K:PySem.W.Frag)(x:V)(H:Hp)(n:Nat):Prop:=
 match x with
 | .str y=>y.length<=sizeLine/\n=y.length
 | .Kr y=>y.size<=sizeLine/\n=y.size
 | .ref p=>(∃xs,Ř K H p xs/\n=xs.length)\/∃xs,bx K H p xs/\n=xs.length
 |_=>False
def Bx:ŕ X (.builtin "len") (λxs H Q=>∃x n,xs=[x]/\Za4 X.K x H n/\Q (.int n) H):=by
 intro pins s σ H xs us Q I r h
 obtain⟨x,n,rfl,e,q⟩:=h
 obtain⟨u,rfl,rx⟩:=vals1 r
 have hl:=k_
 have hs:sizeLine=16777216:=sizeLine_eq
 cases x with
 |str y=>
  obtain⟨t,rfl⟩:=rx
  obtain⟨hy,e'⟩:y.length<=sizeLine/\n=y.length:=e
  subst e'
  exact len_str (by omega) ⟨.int _,H,I.tok _,⟨_,rfl⟩,q⟩
 |Kr y=>
  obtain⟨t,rfl⟩:=rx
  obtain⟨hy,e'⟩:y.size<=sizeLine/\n=y.size:=e
  subst e'
  exact PySem.W.len_bytes (by omega) ⟨.int _,H,I.tok _,⟨_,rfl⟩,q⟩
 |ref p=>
  cases rx
  have e':(∃xs,Ř X.K H p xs/\n=xs.length)\/∃xs,bx X.K H p xs/\n=xs.length:=e
  rcases e' with⟨xs,hx,e'⟩|⟨xs,hx,e'⟩
  ·subst e'
   obtain⟨its,r',pl,hz⟩:=I.list hx
   have hlen:=r'.length
   exact Calls.call_len_list pl.isList (by simp only[List.size_toArray];omega) ⟨.int xs.length,H,I.tok _,⟨_,by simp only[List.size_toArray];rw[hlen]⟩,q⟩
  ·subst e'
   obtain⟨its,r',pl,hz⟩:=I.tuple hx
   have hlen:=r'.length
   exact len_tuple pl (by simp only[List.size_toArray];omega) ⟨.int xs.length,H,I.tok _,⟨_,by simp only[List.size_toArray];rw[hlen]⟩,q⟩
 |_=>exact(show False from e).elim
def sO:ŕ X (.builtin "divmod") (λxs H Q=>∃i j,xs=[.int i,.int j]/\VJ i j/\∀p,H p=none->Q (.ref p) (upd H p (.tup [.int (i / j),.int (i % j)]))):=by
 intro pins s σ H xs us Q I r h
 obtain⟨i,j,rfl,⟨h1,h2⟩,q⟩:=h
 obtain⟨u,w',rfl,⟨t,rfl⟩,⟨t',rfl⟩⟩:=vals2 r
 refine divmod_int (by omega) ?_ (.inl (PyProof.noPylong_small (by omega)))
 rw[Int.fdiv_eq_ediv_of_nonneg i (by omega),Int.fmod_eq_emod_of_nonneg i (by omega)]
 have hn:H s.heap.objs.size=none:=I.hok.fresh (Nat.le_refl _)
 refine⟨.ref s.heap.objs.size,_,?_,rfl,q _ hn⟩
 refine I.laid (λb o e=>Heap.get?_push_of_some _ e) (Nat.le_refl _) ⟨by simp only[List.length_cons,List.length_nil];rw[sizeLine_eq];decide,[.int (i / j) s.toks,.int (i % j) (s.toks+1)],.cons ⟨_,rfl⟩ (.cons ⟨_,rfl⟩ .nil),?_⟩
 exact⟨_,Heap.get?_push_size s.heap rfl,rfl,0,rfl⟩
end
end L2
namespace L2
open PySem PySem.Spec PyProof.Rows
structure zJ(h:Heap)(x dx C:Addr)(mA:Str->Option Value):Prop where
 obj:h.get? x=some (PySem.W.instObj C dx)
 ns:h.Ns1 dx mA
 ne:dx≠x
def zK{h:Heap}{dx:Addr}{mA:Str->Option Value}(n:h.Ns1 dx mA):∃od,h.get? dx=some od/\∀name,PySem.W.lookIn name od=some (mA name):=by
 obtain⟨o,es,ep,ho,hd,hk,_,hm⟩:=n
 refine⟨o,ho,λname=>?_⟩
 have e:=hm name
 unfold nsFind findBy at e
 rw[<-Array.find?_toList] at e
 unfold PySem.W.lookIn
 rw[hd]
 dsimp only
 split
 ·rename_i y q
  rw[q] at e
  exact congrArg some e
 ·rename_i q
  rw[q] at e
  have a:es.toList.any (·.refKey)=false:=by
   rw[List.any_eq_false]
   intro y hy
   obtain⟨z,t,hkey⟩:=hk y (Array.mem_toList_iff.mp hy)
   simp[DictEntry.refKey,hkey]
  have a':¬es.toList.any (·.refKey)=true:=by rw[a];exact Bool.false_ne_true
  rw[if_neg a']
  exact congrArg some e
def zJ.look{h:Heap}{x dx C:Addr}{mA:Str->Option Value}(I:zJ h x dx C mA):∃od,PySem.W.InstAt h x (PySem.W.instObj C dx) C (some od)/\∀name,PySem.W.lookIn name od=some (mA name):=
 let ⟨od,ho,hl⟩:=zK I.ns
 ⟨od,⟨I.obj,rfl,rfl,ho⟩,hl⟩
section
variable{prog:Program}{w:World}{A:Around}{E:Value->Shared->Prop}{s:Shared}{K:PySem.W.Frag}{x dx C f:Addr}{mA:Str->Option Value}{name:Str}{v:Value}
def get_map{expr:Bool}{Q:Value->Shared->Prop}(X:K.In s.heap)(I:zJ s.heap x dx C mA)(hg:PySem.W.plainGet K C name=true)(hh:PySem.W.hasDictIn K C=true)
 (ha:PySem.W.findIn K (.ref C) name=some none)(hv:mA name=some v)(hv':PySem.W.handedIn v=true)(h:Q v {s with toks:=s.toks+1}) :
 wpAny (model prog w) A (getAttr (.ref x) name expr) Q E s:=by
 obtain⟨od,J,hl⟩:=I.look
 exact PySem.W.get_value X J (PySem.W.plainGet_of hg).1 (PySem.W.findObj_own hh ha rfl (by rw[hl,hv])) hv' h
def HW{ns:List Str}{Q:Unit->Shared->Prop}(X:K.In s.heap)(I:zJ s.heap x dx C mA)
 (hs:PySem.W.findIn K (.ref C) "__setattr__" =some (some (.builtin "object.__setattr__")))(hp:PySem.W.plainOver K C=true)(ht:PySem.W.takerIn K C name=some none)(hh:PySem.W.hasDictIn K C=true)
 (hw:PySem.Within mA ns)(hsz:ns.length<=sizeLine)
 (h:∀h',zJ h' x dx C (λy=>if y=name then some v else mA y)->Heap.SameBut dx s.heap h'->Q () {s with heap:=h',toks:=s.toks+2}) :
 wpAny (model prog w) A (setAttr (.ref x) name v) Q E s:=by
 obtain⟨od,J,hl⟩:=I.look
 refine PySem.W.set_plain X J hs (PySem.W.osa_open (s:={s with toks:=s.toks+1}) (r:=none) X J hp ht λb=>?_)
 obtain⟨cd,hc,hd'⟩:=PySem.W.any_some hh
 have hx:s.heap.get? x=some ⟨.ref C,some dx,.plain,#[]⟩:=I.obj
 refine wpAny_bind (wpAny_pure (wpAny_bind (wpAny_bind (wpAny_loadPart hx (wpAny_bind (PySem.W.Looks.here (s:={s with toks:=s.toks+1}) (PySem.W.looks_clsIn X hc) ?_))))))
 rw[hd']
 refine wpAny_pure (a:=some dx) (wpAny_bind (wpAny_pure (wpAny_bind ?_)))
 refine wpAny_nsSet1 (s:={s with toks:=s.toks+1}) I.ns λh' hn2 hs2=>?_
 obtain⟨oD,esD,epD,hoD,hdD,hcD⟩:=hn2.count (PySem.Within.cons name v hw)
 refine wpAny_bind (wpAny_lookBehind hoD (by rw[hdD];exact pastItsLine_dict (Nat.le_trans hcD (by rw[List.length_cons];omega))) ?_)
 exact wpAny_pure (h _ ⟨(hs2.2 _ (Ne.symm I.ne)).trans I.obj,hn2,I.ne⟩ hs2)
def BJ{R:Result->Shared->Prop}{vs:List Value}{kw:List (Str×Value)}(X:K.In s.heap)(hm:PySem.W.makesIn K C=true)
 (hi:PySem.W.findIn K (.ref C) "__init__" =some (some (.ref f)))(hf:PySem.W.typeIn K (.ref f)=some (.type "function"))
 (h:codeAny (model prog w) (A.under (.builtin "type.__call__" ⟨.ref C::vs,kw⟩)) (.call (.ref f) ⟨.ref (s.heap.objs.size+1)::vs,kw⟩) (PySem.W.InitBack (s.heap.objs.size+1) R)
   {s with heap:=(s.heap.push PySem.W.emptyDict).push (PySem.W.instObj C s.heap.objs.size)}) :
 codeAny (model prog w) A (.call (.ref C) ⟨vs,kw⟩) R s:=by
 obtain⟨hh,g,d,t,os⟩:=s
 exact PySem.W.make_core (PySem.W.makes_of X hm) (PySem.W.looks_findIn X hi) (λself=>PySem.W.bind_fn X self hf) (.inl rfl) h
end
def bL(f:Str)(v:V):List (Str×V)->List (Str×V)
 | []=>[(f,v)]
 |(g,x)::r=>if g=f then(g,v)::r else(g,x)::bL f v r
theorem i_(f g:Str)(v:V):∀fs:List (Str×V),(bL f v fs).lookup g=if g=f then some v else fs.lookup g
 | []=>by
   show List.lookup g [(f,v)]=_
   by_cases h:g=f
   ·have hb:(g== f)=true:=beq_iff_eq.mpr h
    simp only[List.lookup,hb,if_pos h]
   ·have hb:(g== f)=false:=beq_eq_false_iff_ne.mpr h
    simp only[List.lookup,hb,if_neg h]
 |(k,x)::r=>by
  have ih:=i_ f g v r
  rw[show bL f v ((k,x)::r)=(if k=f then(k,v)::r else(k,x)::bL f v r) from rfl]
  by_cases hk:k=f
  ·rw[if_pos hk]
   by_cases h:g=k
   ·have hb:(g== k)=true:=beq_iff_eq.mpr h
    simp only[List.lookup,hb,if_pos (h.trans hk)]
   ·have hb:(g== k)=false:=beq_eq_false_iff_ne.mpr h
    simp only[List.lookup,hb,if_neg (λe:g=f=>h (e.trans hk.symm))]
  ·rw[if_neg hk]
   by_cases h:g=k
   ·have hb:(g== k)=true:=beq_iff_eq.mpr h
    simp only[List.lookup,hb,if_neg (λe:g=f=>hk (h.symm.trans e))]
   ·have hb:(g== k)=false:=beq_eq_false_iff_ne.mpr h
    simp only[List.lookup,hb]
    exact ih
theorem gZ(f:Str)(v:V):∀fs:List (Str×V),f∈(bL f v fs).map (·.1)/\∀g,g∈fs.map (·.1)->g∈(bL f v fs).map (·.1)
 | []=>⟨by simp[bL],λg h=>by simp at h⟩
 |(k,x)::r=>by
  obtain⟨i1,i2⟩:=gZ f v r
  rw[show bL f v ((k,x)::r)=(if k=f then(k,v)::r else(k,x)::bL f v r) from rfl]
  by_cases hk:k=f
  ·rw[if_pos hk]
   subst hk
   exact⟨by simp,λg h=>by simpa using h⟩
  ·rw[if_neg hk]
   refine⟨?_,λg h=>?_⟩
   ·rw[List.map_cons]
    exact List.mem_cons_of_mem _ i1
   ·rw[List.map_cons] at h ⊢
    rcases List.mem_cons.mp h with e|e
    ·exact List.mem_cons.mpr (.inl e)
    ·exact List.mem_cons_of_mem _ (i2 g e)
theorem jc(f:Str)(v:V):∀fs:List (Str×V),(bL f v fs).length<=fs.length+1
 | []=>by simp[bL]
 |(k,x)::r=>by
  have ih:=jc f v r
  rw[show bL f v ((k,x)::r)=(if k=f then(k,v)::r else(k,x)::bL f v r) from rfl]
  by_cases hk:k=f
  ·rw[if_pos hk,List.length_cons,List.length_cons];omega
  ·rw[if_neg hk,List.length_cons,List.length_cons];omega
def gU.some_of{v:V}{o:Option Value}(r:gU (some v) o):∃u,o=some u/\RelV v u:=by
 cases o with
 |none=>exact(show False from r).elim
 |some u=>exact⟨u,rfl,r⟩
def zL{v:V}{u:Value}(r:RelV v u):PySem.W.handedIn u=true:=by
 cases v with
 |non=>cases(show u=Value.none from r);rfl
 |bl b=>cases(show u=Value.bool b from r);rfl
 |int i=>obtain⟨t,e⟩:=(show ∃t,u=Value.int i t from r);cases e;rfl
 |str x=>obtain⟨t,e⟩:=(show ∃t,u=Value.str x t from r);cases e;rfl
 |Kr b=>obtain⟨t,e⟩:=(show ∃t,u=Value.bytes b t from r);cases e;rfl
 |flt b=>obtain⟨t,e⟩:=(show ∃t,u=Value.float b t from r);cases e;rfl
 |ref a=>cases(show u=Value.ref a from r);rfl
 |ty n=>cases(show u=Value.type n from r);rfl
section
variable{P:Program}{w:World}{H H':Hp}{h h':Heap}{a C dx:Addr}{fs fs':List (Str×V)}
def ql(hok:cJ P w H h)(e:H a=some (.ins C dx fs)):∃mA,zJ h a dx C mA/\(∀f,gU (fs.lookup f) (mA f))/\PySem.Within mA (fs.map (·.1))/\fs.length<=1000/\H dx=some (.own a):=by
 obtain⟨d,z,ne,ob,mA,n,r,q⟩:=(show ľ P w H h a (.ins C dx fs) from hok a _ e)
 exact⟨mA,⟨ob,n,ne⟩,r,q,z,d⟩
end
structure Cls(K:PySem.W.Frag)(C:Addr):Prop where
 pg:PySem.W.plainGet K C Str.empty=true
 hd:PySem.W.hasDictIn K C=true
 po:PySem.W.plainOver K C=true
 sa:PySem.W.findIn K (.ref C) "__setattr__" =some (some (.builtin "object.__setattr__"))
def Cls.get{K:PySem.W.Frag}{C:Addr}(c:Cls K C)(f:Str):PySem.W.plainGet K C f=true:=c.pg
def Ħ(K:PySem.W.Frag)(C:Addr)(f:Str):Prop:=PySem.W.findIn K (.ref C) f=some none
def Ħ.taker{K:PySem.W.Frag}{C:Addr}{f:Str}(n:Ħ K C f):PySem.W.takerIn K C f=some none:=by
 unfold PySem.W.takerIn
 rw[show PySem.W.findIn K (.ref C) f=some none from n]
 rfl
section
variable{X:Cx}{pins:List (Addr×Obj)}{σ:St}{H:Hp}{s:Shared}{a C dx:Addr}{fs:List (Str×V)}{f:Str}{v:V}{A:Around}{E:Value->Shared->Prop}
def vD{b:Bool}{Q:Value->Shared->Prop}(I:Inv X pins σ H s)(e:H a=some (.ins C dx fs))(c:Cls X.K C)(n:Ħ X.K C f)(l:fs.lookup f=some v)
 (h:∀u s',Inv X pins σ H s'->RelV v u->Q u s'):wpAny (model X.prog X.w) A (getAttr (.ref a) f b) Q E s:=by
 obtain⟨mA,O,r,_,_,_⟩:=ql I.hok e
 obtain⟨u,hu,ru⟩:=gU.some_of (v:=v) (o:=mA f) (by rw[<-l];exact r f)
 exact get_map I.jQ O (c.get f) c.hd n hu (zL ru) (h u _ (I.tok _) ru)
def vG{y:V}{u:Value}{Q:Unit->Shared->Prop}(I:Inv X pins σ H s)(e:H a=some (.ins C dx fs))(c:Cls X.K C)(n:Ħ X.K C f)(hl:fs.length<1000)(ry:RelV y u)
 (h:∀s',Inv X pins σ (upd H a (.ins C dx (bL f y fs))) s'->Q () s'):wpAny (model X.prog X.w) A (setAttr (.ref a) f u) Q E s:=by
 obtain⟨mA,O,r,wi,_,ho⟩:=ql I.hok e
 have hz:(fs.map (·.1)).length<=sizeLine:=by rw[List.length_map,sizeLine_eq];omega
 refine HW I.jQ O c.sa c.po n.taker c.hd wi hz λh' O' sb=>h _ ?_
 have hd:∃o,h'.get? dx=some o:=let ⟨o,_,_,e',_⟩:=O'.ns;⟨o,e'⟩
 refine I.write (x:=a) (e:=dx) (by rw[e];exact True.intro) (.inr ho) (λb q hb z=>(sb.2 b hb).trans z) hd ?_
 refine⟨by rw[ċ O.ne];exact ho,?_,O.ne,O'.obj,_,O'.ns,λg=>?_,λg hg=>?_⟩
 ·have:=jc f y fs;omega
 ·show gU ((bL f y fs).lookup g) (if g=f then some u else mA g)
  rw[i_]
  by_cases q:g=f
  ·rw[if_pos q,if_pos q];exact ry
  ·rw[if_neg q,if_neg q];exact r g
 ·by_cases q:g=f
  ·rw[q];exact(gZ f y fs).1
  ·refine(gZ f y fs).2 g (wi g λz=>hg ?_)
   show(if g=f then some u else mA g)=none
   rw[if_neg q];exact z
def Inv.made(I:Inv X pins σ H s):Inv X pins σ (upd (upd H s.heap.objs.size (.own (s.heap.objs.size+1))) (s.heap.objs.size+1) (.ins C s.heap.objs.size []))
 {s with heap:=(s.heap.push PySem.W.emptyDict).push (PySem.W.instObj C s.heap.objs.size)}:=by
 have e1:(s.heap.push PySem.W.emptyDict).get? s.heap.objs.size=some PySem.W.emptyDict:=Heap.get?_push_size s.heap rfl
 have e2:((s.heap.push PySem.W.emptyDict).push (PySem.W.instObj C s.heap.objs.size)).get? (s.heap.objs.size+1)=some (PySem.W.instObj C s.heap.objs.size):=by
  have:=Heap.get?_push_size (s.heap.push PySem.W.emptyDict) (o:=PySem.W.instObj C s.heap.objs.size) rfl
  rwa [Heap.size_push] at this
 have e3:(s.heap.push PySem.W.emptyDict).Ns s.heap.objs.size (λ_=>none):=⟨PySem.W.emptyDict,#[],_,e1,rfl,(λe he=>absurd he (by simp)),λ_=>rfl⟩
 have I1:=I.laid (a:=s.heap.objs.size) (o:=.own (s.heap.objs.size+1)) (h':=s.heap.push PySem.W.emptyDict) (t':=s.toks) (λb u q=>Heap.get?_push_of_some _ q) (Nat.le_refl _) ⟨_,e1⟩
 refine I1.laid (a:=s.heap.objs.size+1) (o:=.ins C s.heap.objs.size []) (t':=s.toks) (λb u q=>Heap.get?_push_of_some _ q) (Nat.le_of_eq (Heap.size_push _ _)) ?_
 have ne:s.heap.objs.size≠s.heap.objs.size+1:=Nat.ne_of_lt (Nat.lt_succ_self _)
 refine⟨by rw[ċ ne,č],Nat.zero_le _,ne,e2,λ_=>none,(Heap.Ns1.of_empty e3).at λo q=>Heap.get?_push_of_some _ q,λ_=>True.intro,λy hy=>absurd rfl hy⟩
def HX{prog:Program}{w:World}{env:Env}{e:Expr}{f:Str}{pos:Pos}{s:Shared}{Q:Value->Shared->Prop}(hb:attributeBase e f env (eval e env)=eval e env)
 (h:wpAny (model prog w) A (eval e env) (λo s₁=>wpAny (model prog w) A (getAttr o f true) Q E s₁) E s):wpAny (model prog w) A (eval (.Attribute e f pos) env) Q E s:=
 Attribute_any_ h (by rw[arm_eval_Attribute,hb])
end
def Za5(K:PySem.W.Frag)(ta:TE)(f:Str):TE:=λσ H Q=>ta σ H λx H1=>∃a C dx fs v,x=.ref a/\H1 a=some (.ins C dx fs)/\Cls K C/\Ħ K C f/\fs.lookup f=some v/\Q v H1
def Za6(K:PySem.W.Frag)(ta tv:TE)(f:Str):TS:=λD σ H=>tv σ H λy H1=>ta σ H1 λx H2=>∃a C dx fs,x=.ref a/\H2 a=some (.ins C dx fs)/\Cls K C/\Ħ K C f/\fs.length<1000/\
 D.nx σ (upd H2 a (.ins C dx (bL f y fs)))
section
variable{X:Cx}{o e value:Expr}{f:Str}{pos pos' tpos:Pos}{ta tv:TE}
def Qt(he:PE X e ta)(hb:attributeBase e f X.env (eval e X.env)=eval e X.env):PE X (.Attribute e f pos) (Za5 X.K ta f):=by
 intro pins s σ H Q I h
 refine HX hb (ļ (he pins s σ H _ I h) λu s1 ⟨x,H1,I1,rx,a,C,dx,fs,v,ex,ea,c,n,l,q⟩=>?_)
 subst ex
 obtain rfl:u=Value.ref a:=rx
 exact vD I1 ea c n l λu' s2 I2 ru=>⟨v,H1,I2,ru,q⟩
def Qu(ha:PE X o ta)(hv:PE X value tv)(hs:swapsWith value (some (.Attribute o f pos')) pos.line X.env=pure false):PS X (.Assign [.Attribute o f pos'] value pos) (Za6 X.K ta tv f):=by
 intro pins s σ H D I h
 refine plainObj_wpAny_Assign_Attribute (ļ (hv pins s σ H _ I h) λu s1 ⟨y,H1,I1,ry,q⟩=>ļ (ha pins s1 σ H1 _ I1 q) λov s2 ⟨x,H2,I2,rx,a,C,dx,fs,ex,ea,c,n,l,q2⟩=>?_) hs
 subst ex
 obtain rfl:ov=Value.ref a:=rx
 exact vG I2 ea c n l ry λs3 I3=>⟨σ,_,I3,q2⟩
end
section
variable{X:Cx}{pins:List (Addr×Obj)}{σ:St}{H:Hp}{s:Shared}{A:Around}{E:Value->Shared->Prop}{Q:Value->Shared->Prop}{c:Value}{b:Bool}
inductive g_(K:PySem.W.Frag)(H:Hp):V->Value->Prop where
 |non:g_ K H .non (.type "NoneType")
 |bl (x:Bool):g_ K H (.bl x) (.type "bool")
 |int (i:Int):g_ K H (.int i) (.type "int")
 |str (x:Str):g_ K H (.str x) (.type "str")
 |flt (x:UInt64):g_ K H (.flt x) (.type "float")
 |lst {a:Addr} {xs:List V} (e:H a=some (.lst xs)):g_ K H (.ref a) (.type "list")
 |bI {a:Addr} {o:Obj} {xs:List V} (e:H a=some (.bI o (.lst xs))):g_ K H (.ref a) (.type "list")
 |tup {a:Addr} {xs:List V} (e:H a=some (.tup xs)):g_ K H (.ref a) (.type "tuple")
 |dK {a:Addr} {kvs:List (Key×V)} (e:H a=some (.dK kvs)):g_ K H (.ref a) (.type "dict")
 |dT {a:Addr} {kvs:List (List Key×V)} (e:H a=some (.dT kvs)):g_ K H (.ref a) (.type "dict")
 |ins {a C dx:Addr} {fs:List (Str×V)} (e:H a=some (.ins C dx fs)) (cl:Cls K C) (ha:PySem.W.findIn K (.ref C) "__class__" =some (some (.builtin "object.__class__")))
   (hn:PySem.W.specialIn K (.builtin "object.__class__") "__get__" =some (some (.builtin "getset_descriptor.__get__"))) (htk:PySem.W.takesIn K (.builtin "object.__class__")=some true)
   (hm:PySem.W.mroIn K C (.type "object")=some true):g_ K H (.ref a) (.ref C)
def bA{x:V}{u t:Value}(I:Inv X pins σ H s)(rx:RelV x u)(ty:g_ X.K H x t)(e:PySem.W.kitOne X.K t c=some b)(h:∀tk,Q (.bool b) {s with toks:=tk}) :
 wpAny (model X.prog X.w) A (call (.builtin "isinstance") [u,c]) Q E s:=by
 cases ty with
 |non=>cases(show u=Value.none from rx);exact PySem.W.kia_one PySem.W.kitx_none I.jQ True.intro e (λz=>nomatch z) h
 |bl y=>cases(show u=Value.bool y from rx);exact PySem.W.kia_one PySem.W.kitx_bool I.jQ True.intro e (λz=>nomatch z) h
 |int i=>obtain⟨t,q⟩:=(show ∃t,u=Value.int i t from rx);cases q;exact PySem.W.kia_one PySem.W.kitx_int I.jQ True.intro e (λz=>nomatch z) h
 |str y=>obtain⟨t,q⟩:=(show ∃t,u=Value.str y t from rx);cases q;exact PySem.W.kia_one PySem.W.kitx_str I.jQ True.intro e (λz=>nomatch z) h
 |flt y=>obtain⟨t,q⟩:=(show ∃t,u=Value.float y t from rx);cases q;exact PySem.W.kia_one PySem.W.kitx_float I.jQ True.intro e (λz=>nomatch z) h
 |@lst a xs ea=>
  cases(show u=Value.ref a from rx)
  obtain⟨_,_,n,_,h1⟩:=(show ľ X.prog X.w H s.heap a (.lst xs) from I.hok a _ ea)
  exact PySem.W.kia_one PySem.W.kitx_list I.jQ ⟨_,h1,rfl⟩ e (λz=>nomatch z) h
 |@bI a ob xs ea=>
  cases(show u=Value.ref a from rx)
  obtain⟨_,_,_,n,_,h1⟩:=(show ľ X.prog X.w H s.heap a (.bI ob (.lst xs)) from I.hok a _ ea)
  exact PySem.W.kia_one PySem.W.kitx_list I.jQ ⟨_,h1,rfl⟩ e (λz=>nomatch z) h
 |@tup a xs ea=>
  cases(show u=Value.ref a from rx)
  obtain⟨_,_,_,p⟩:=(show ľ X.prog X.w H s.heap a (.tup xs) from I.hok a _ ea)
  obtain⟨o,h1,h2,_⟩:=p
  exact PySem.W.kia_one PySem.W.kitx_tuple I.jQ ⟨o,h1,h2⟩ e (λz=>nomatch z) h
 |@dK a kvs ea=>
  cases(show u=Value.ref a from rx)
  obtain⟨_,_,vs,_,p⟩:=(show ľ X.prog X.w H s.heap a (.dK kvs) from I.hok a _ ea)
  obtain⟨o,es,ep,h1,h2,_⟩:=p
  exact PySem.W.kia_one PySem.W.kitx_dict I.jQ ⟨o,h1,h2.1⟩ e (λz=>nomatch z) h
 |@dT a kvs ea=>
  cases(show u=Value.ref a from rx)
  obtain⟨_,_,xs,_,o,es,ep,h1,h2,_⟩:=(show ľ X.prog X.w H s.heap a (.dT kvs) from I.hok a _ ea)
  exact PySem.W.kia_one PySem.W.kitx_dict I.jQ ⟨o,h1,h2.1⟩ e (λz=>nomatch z) h
 |@ins a C dx fs ea cl ha hn htk hm=>
  cases(show u=Value.ref a from rx)
  obtain⟨mA,O,_⟩:=ql I.hok ea
  obtain⟨od,J,_⟩:=O.look
  exact PySem.W.kia_one (PySem.W.kitx_own (cl.get _) cl.hd ha hn htk hm) I.jQ J e (λz=>nomatch z) h
end
end L2
namespace L2
open PySem PySem.Spec PyProof.Rows
structure ŗ(k:Nat)(A:Around):Prop where
 hd:A.handled=none
 dp:A.depth+3*k+5<recursionLimit
 un:A.units+16*k+200<cLine
def ŗ.mono{j k:Nat}{A:Around}(r:ŗ k A)(h:j<=k):ŗ j A:=⟨r.hd,by have:=r.dp;omega,by have:=r.un;omega⟩
def ŗ.mo{j k:Nat}{A:Around}(r:ŗ k A)(h:j<=k:= by decide):ŗ j A:= r.mono h
theorem ŗ.deeper{k:Nat}{A:Around}(r:ŗ (k+1) A)(env:Env):ŗ k (A.deeper env):=
 ⟨r.hd,by have:=r.dp;show A.depth+1+3*k+5<_;omega,by have:=r.un;show A.units+3+16*k+200<_;omega⟩
def vH{A:Around}{C:Addr}{us:List Value}{kw:List (Str×Value)}:(A.under (.builtin "type.__call__" ⟨.ref C::us,kw⟩)).depth=A.depth+1:=by
 first|rfl|simp[Around.under,Code.weight,Code.isCreation,Code.isGuard,Code.isCaller,Code.frames,Code.isFrame,guardIds]
def vI{A:Around}{C:Addr}{us:List Value}{kw:List (Str×Value)}:(A.under (.builtin "type.__call__" ⟨.ref C::us,kw⟩)).units=A.units+1:=by
 first|rfl|simp[Around.under,Code.cUnits,Code.frames,Code.isFrame]
def ŗ.make{k:Nat}{A:Around}(r:ŗ (k+1) A)(C:Addr)(us:List Value)(kw:List (Str×Value)):ŗ k (A.under (.builtin "type.__call__" ⟨.ref C::us,kw⟩)):=
 ⟨r.hd,by have:=r.dp;rw[vH];omega,by have:=r.un;rw[vI];omega⟩
theorem ŗ.depth{k:Nat}{A:Around}(r:ŗ k A):A.depth<recursionLimit:=by have:=r.dp;omega
theorem ŗ.units{k:Nat}{A:Around}(r:ŗ k A):A.units+64<cLine:=by have:=r.un;omega
def Za7:TA:=λ_ H Q=>Q [] H
def VP(ta:TE)(tr:TA):TA:=λσ H Q=>ta σ H λx H1=>tr σ H1 λxs H2=>Q (x::xs) H2
section
variable{X:Cx}{e:Expr}{es:List Expr}{te:TE}{t:TA}{pos:Pos}
def eY:PA X [] Za7:=λ_ _ _ _ H Q I h=>Calls.spliced_nil ⟨[],H,I,.nil,h⟩
def Ŧ(ha:PE X e te)(hr:PA X es t)(hs:starEach (e::es) X.env=(false,eval e X.env)::starEach es X.env:=by rfl):PA X (e::es) (VP te t):=by
 intro pos pins s σ H Q I h
 rw[hs]
 show wpAny _ _ (spliced ((false,eval e X.env)::backTo pos (starEach es X.env))) _ _ s
 refine Calls.spliced_cons (ļ (ha pins s σ H _ I h) λu s1 ⟨x,H1,I1,r1,q1⟩=>?_)
 exact ļ (hr pos pins s1 σ H1 _ I1 q1) λus s2 ⟨xs,H2,I2,r2,q2⟩=>⟨x::xs,H2,I2,.cons r1 r2,q2⟩
def Za8(t:TA):TE:=λσ H Q=>t σ H λxs H1=>xs.length<=sizeLine/\∀p,H1 p=none->Q (.ref p) (upd H1 p (.tup xs))
def Za9(t:TA):TE:=λσ H Q=>t σ H λxs H1=>xs.length<=sizeLine/\∀p,H1 p=none->Q (.ref p) (upd H1 p (.lst xs))
def BK{x1}(h:PA X es t):PE X (.Tuple es x1 pos) (Za8 t):=by
 intro pins s σ H Q I hq
 refine wpAny_Tuple_spliced (ļ (h pos pins s σ H _ I hq) λus s1 ⟨xs,H1,I1,r,z,q⟩=>⟨by rw[<-r.length];exact z,?_⟩)
 have hf:H1 s1.heap.objs.size=none:=I1.hok.fresh (Nat.le_refl _)
 refine⟨.ref s1.heap.objs.size,upd H1 s1.heap.objs.size (.tup xs),I1.laid (t':=s1.toks) (λb u e=>Heap.get?_push_of_some _ e) (Nat.le_refl _) ?_,rfl,q _ hf⟩
 exact⟨z,us,r,⟨_,Heap.get?_push_size _ rfl,rfl,_,rfl⟩⟩
def Qv(h:PA X es t):PE X (.List es pos) (Za9 t):=by
 intro pins s σ H Q I hq
 refine wpAny_List_spliced (ļ (h pos pins s σ H _ I hq) λus s1 ⟨xs,H1,I1,r,z,q⟩=>⟨by rw[<-r.length];exact z,?_⟩)
 have hf:H1 s1.heap.objs.size=none:=I1.hok.fresh (Nat.le_refl _)
 refine⟨.ref s1.heap.objs.size,upd H1 s1.heap.objs.size (.lst xs),I1.laid (t':=s1.toks) (λb u e=>Heap.get?_push_of_some _ e) (Nat.le_refl _) ?_,rfl,q _ hf⟩
 exact⟨z,us,0,r,Heap.get?_push_size _ rfl⟩
end
abbrev Sp:=List V->Hp->VK->XK->Prop
abbrev h_:=List Env->Hp->Shared->XK->Value->Shared->Prop
structure vJ(P:Program)(w:World)(K:PySem.W.Frag)(mg:Str->Option Value)(base:Heap)(A:Around)(outer:List Env)(s:Shared)(H:Hp):Prop where
 frames:A.frames=some outer
 mod:Mod K mg base
 bs:∀b o,base.get? b=some o->s.heap.get? b=some o/\H b=none
 Hv:base.objs.size<=s.heap.objs.size
 jF:s.heap.FunFrames base outer
 Pu:∀b∈frs outer,H b=none
 hok:cJ P w H s.heap
 bare:AllBare s.gens
 tb:TabsOk K mg base H
def CE(outer:List Env)(P:Program)(w:World)(H:Hp)(s:Shared)(Q:VK)(u:Value)(s':Shared):Prop:=
 ∃v H',s'.os=s.os/\AllBare s'.gens/\Un (frs outer) [] H H' s.heap s'.heap/\cJ P w H' s'.heap/\RelV v u/\Q v H'
def CR(CX:h_)(outer:List Env)(P:Program)(w:World)(H:Hp)(s:Shared)(Q:VK)(E:XK)(r:Result)(s':Shared):Prop:=
 match r with
 | .ok (.ret u)=>CE outer P w H s Q u s'
 | .ok _=>False
 | .error e=>CX outer H s E e s'
structure ī(P:Program)(w:World)(K:PySem.W.Frag)(mg:Str->Option Value)(base:Heap)(CX:h_)(k:Nat)(f:Addr)(fd:FuncData)(ps:List Str)(sp:Sp):Prop where
 len:∀vs H Q E,sp vs H Q E->vs.length=ps.length
 run:∀(A:Around) (outer:List Env) (s:Shared) (H:Hp) (args:Args) (us:List Value) (vs:List V) (Q:VK) (E:XK),ŗ k A->vJ P w K mg base A outer s H->BindsTo s fd args (ps.zip us)->Vals vs us->sp vs H Q E->
  codeAny (model P w) A (.call (.ref f) args) (CR CX outer P w H s Q E) s
def ī.imp{P:Program}{w:World}{K:PySem.W.Frag}{mg:Str->Option Value}{base:Heap}{CX:h_}{k:Nat}{f:Addr}{fd:FuncData}{ps:List Str}{sp sp':Sp}(F:ī P w K mg base CX k f fd ps sp)
 (h:∀vs H Q E,sp' vs H Q E->sp vs H Q E):ī P w K mg base CX k f fd ps sp':=
 ⟨λvs H Q E q=>F.len vs H Q E (h _ _ _ _ q),λA outer s H args us vs Q E hr he hb hv hs=>F.run A outer s H args us vs Q E hr he hb hv (h _ _ _ _ hs)⟩
def vJ.make{P:Program}{w:World}{K:PySem.W.Frag}{mg:Str->Option Value}{base:Heap}{A:Around}{outer:List Env}{s:Shared}{H:Hp}(e:vJ P w K mg base A outer s H)(C:Addr)(us:List Value)(kw:List (Str×Value)) :
 vJ P w K mg base (A.under (.builtin "type.__call__" ⟨.ref C::us,kw⟩)) outer s H:=⟨by first|exact e.frames|(simpa[Around.under,Code.envs,Code.isFrame,pushEnvs] using e.frames),e.mod,e.bs,e.Hv,e.jF,e.Pu,e.hok,e.bare,e.tb⟩
section
variable{X:Cx}{pins:List (Addr×Obj)}{σ:St}{H:Hp}{s s':Shared}
def Inv.env0(I:Inv X pins σ H s):vJ X.prog X.w X.K X.mg X.base X.A X.stack s H:=
 ⟨I.ok.frames,I.ok.mod,I.bs,Nat.le_trans I.ok.Hv I.sz,I.stack,I.wQ,I.hok,I.bare,I.tb⟩
def Inv.after{Q:VK}{u:Value}(I:Inv X pins σ H s)(h:CE X.stack X.prog X.w H s Q u s'):EP X pins σ Q u s':=by
 obtain⟨v,H',os,bare,un,hok,r,q⟩:=h
 obtain⟨hh,g,d,t,os'⟩:=s'
 obtain rfl:os'=s.os:=os
 exact⟨v,H',I.call (h':=hh) (g':=g) (d':=d) (t':=t) (ch:=[]) un hok bare (λb z=>absurd z (by simp)),r,q⟩
end
def Binds(K:PySem.W.Frag)(fd:FuncData)(ps:List Str)(ds:List Value):Prop:=
 ∀(s:Shared) (us:List Value),K.In s.heap->(us++ds).length=ps.length->BindsTo s fd ⟨us,[]⟩ (ps.zip (us++ds))
def Binds.all{K:PySem.W.Frag}{fd:FuncData}{ps:List Str}(h:∀us:List Value,us.length=ps.length->bindArgs fd ⟨us,[]⟩=pure (ps.zip us)):Binds K fd ps []:=λs us _ hl=>by
 rw[List.append_nil] at hl ⊢
 exact .of_eq (h us hl)
section
variable{X:Cx}{CX:h_}{k:Nat}{f C:Addr}{fd:FuncData}{ps:List Str}{sp:Sp}{dvs:List V}{ds:List Value}{E:XK}{x m:Str}{p pos apos:Pos}{e o:Expr}{es:List Expr}{ta:TE}{t:TA}
structure Mk(K:PySem.W.Frag)(C f:Addr):Prop where
 makes:PySem.W.makesIn K C=true
 init:PySem.W.findIn K (.ref C) "__init__" =some (some (.ref f))
 fn:PySem.W.isFn K (.ref f)=true
 kp:PySem.W.keepIn K (.ref C)=true
end
section
variable{X:Cx}{CX:h_}{k:Nat}{f C:Addr}{fd:FuncData}{ps ks:List Str}{sp:Sp}{E:XK}{x m:Str}{p pos apos kpos:Pos}{e o:Expr}{es:List Expr}{kws:List Keyword}{te ta:TE}{t tk:TA}{nm:Option Str}
variable{g:List Value->List Value->List Value}{gV:List V->List V->List V}
end
structure Ď(N P:List Str)(sc:Scope):Prop where
 kind:sc.kind=.function
 co:sc.isCoroutine=false
 gen:sc.isGenerator=false
 nd:N.Nodup
 pre:N.take P.length=P
 par:∀x∈P,sc.names.lookup x=some .local\/sc.names.lookup x=some .cell
 Qw:∀y∈sc.names,y.2≠ .free
theorem oU{kindOf:Str->Option NameKind}{x:Str}:∀{binds:List (Str×Value)} {m:Str->Option Value},(∀v,(x,v)∉binds)->bindL kindOf binds m x=m x
 | [],_,_=>rfl
 |(n,v)::r,m,h=>by
  unfold bindL
  rw[oU λw hw=>h w (List.mem_cons_of_mem _ hw)]
  split
  ·have:x≠n:=by rintro rfl;exact h v List.mem_cons_self
   simp[this]
  ·rfl
theorem oV{kindOf:Str->Option NameKind}{x:Str}:∀{binds:List (Str×Value)} {m:Str->Option Value},(∀v,(x,v)∉binds)->bindC kindOf binds m x=m x
 | [],_,_=>rfl
 |(n,v)::r,m,h=>by
  unfold bindC
  rw[oV λw hw=>h w (List.mem_cons_of_mem _ hw)]
  split
  ·rfl
  ·have:x≠n:=by rintro rfl;exact h v List.mem_cons_self
   simp[this]
theorem oW{kindOf:Str->Option NameKind}{x:Str}{v:Value}:∀{P:List Str} {vs:List Value} {i:Nat} {m:Str->Option Value},P.Nodup->P[i]?=some x->vs[i]?=some v->kindOf x=some .local->
 bindL kindOf (P.zip vs) m x=some v
 | [],_,_,_,_,h,_,_=>by simp at h
 |_::_,[],_,_,_,_,h,_=>by simp at h
 |p::P,w::vs,0,m,nd,h1,h2,hk=>by
  simp at h1 h2;subst h1;subst h2
  show bindL kindOf ((p,w)::P.zip vs) m p=_
  unfold bindL
  rw[oU λv hv=>(List.nodup_cons.mp nd).1 (List.of_mem_zip hv).1,if_pos hk]
  simp
 |p::P,w::vs,i+1,m,nd,h1,h2,hk=>by
  show bindL kindOf ((p,w)::P.zip vs) m x=_
  unfold bindL
  exact oW (i:=i) (List.nodup_cons.mp nd).2 (by simpa using h1) (by simpa using h2) hk
theorem oX{kindOf:Str->Option NameKind}{x:Str}{v:Value}:∀{P:List Str} {vs:List Value} {i:Nat} {m:Str->Option Value},P.Nodup->P[i]?=some x->vs[i]?=some v->kindOf x≠some .local->
 bindC kindOf (P.zip vs) m x=some v
 | [],_,_,_,_,h,_,_=>by simp at h
 |_::_,[],_,_,_,_,h,_=>by simp at h
 |p::P,w::vs,0,m,nd,h1,h2,hk=>by
  simp at h1 h2;subst h1;subst h2
  show bindC kindOf ((p,w)::P.zip vs) m p=_
  unfold bindC
  rw[oV λv hv=>(List.nodup_cons.mp nd).1 (List.of_mem_zip hv).1,if_neg hk]
  simp
 |p::P,w::vs,i+1,m,nd,h1,h2,hk=>by
  show bindC kindOf ((p,w)::P.zip vs) m x=_
  unfold bindC
  exact oX (i:=i) (List.nodup_cons.mp nd).2 (by simpa using h1) (by simpa using h2) hk
def start(N:List Str)(vs:List V):St:=vs.map some++List.replicate (N.length-vs.length) none
def qm(CX:h_)(P:Program)(w:World)(K:PySem.W.Frag)(mg:Str->Option Value)(base:Heap)(N:List Str)(qual:Str)(scope:Scope)(f:Addr)(cd:Value)(A:Around)(outer:List Env)(s:Shared)(H:Hp)(E:XK):Cx where
 prog:=P
 w:=w
 K:=K
 mg:=mg
 base:=base
 A:=A.deeper (envOfC qual scope s.heap.objs.size f cd)
 N:=N
 s₀:= s
 H₀:= H
 env:=envOfC qual scope s.heap.objs.size f cd
 outer:=outer
 stack:=envOfC qual scope s.heap.objs.size f cd::outer
 ex:=[]
 calm:=true
 fn:=λ_=>true
 pn:=[]
 xe:=λe s'=>wpAny (model P w) (A.deeper (envOfC qual scope s.heap.objs.size f cd)) (leaving (envOfC qual scope s.heap.objs.size f cd) e) (λ_ s''=>CX outer H s E e s'') (λe' s''=>CX outer H s E e' s'') s'
def fH{sc:Scope}{n:Nat}{x:Str}(h:sc.names.lookup x=some .cell):∃c,(cellsFrom n sc.names []).lookup x=some c:=by
 have q:=PySem.W.cellsFrom_some sc.names n [] (.inl h)
 exact Option.isSome_iff_exists.mp q
def zM{CX:h_}{P:Program}{w:World}{K:PySem.W.Frag}{mg:Str->Option Value}{base:Heap}{N ps:List Str}{qual:Str}{scope:Scope}{f:Addr}{cd:Value}{A:Around}{outer:List Env}{s s1:Shared}{H:Hp}{E:XK}{us:List Value}{vs:List V}
 (S:Ď N ps scope)(hd:A.handled=none)(e0:vJ P w K mg base A outer s H)(hl:vs.length=ps.length)(r:Vals vs us)
 (x:InCallC s s.heap.objs.size (bindL (envOfC qual scope s.heap.objs.size f cd).kindOf (ps.zip us) λ_=>none) (cellsFrom (s.heap.objs.size+1) scope.names []) (bindC (envOfC qual scope s.heap.objs.size f cd).kindOf (ps.zip us) λ_=>none) s1) :
 Inv (qm CX P w K mg base N qual scope f cd A outer s H E) [] (start N vs) H s1:=by
 have hpl:ps.length<=N.length:=by have:=congrArg List.length S.pre;rw[List.length_take] at this;omega
 obtain⟨h1,tk,rfl,hk⟩:=x.done
 have VR:∀b:Addr,b∉(qm CX P w K mg base N qual scope f cd A outer s H E).ex:=λb z=>absurd (show b∈([]:List Addr) from z) (by simp)
 refine⟨⟨e0.mod,S.kind,rfl,rfl,Nat.le_refl _,λy z c h1 h2=>?_,λy hy=>?_,λy c _ h=>?_,λ_=>hd,Around.frames_deeper e0.frames,.inr ⟨rfl,rfl⟩,λb z=>absurd z (VR b),e0.bs,e0.Hv,λb _ _=>VR b,λb z=>absurd z (VR b),e0.jF,e0.Pu,e0.tb⟩,
  rfl,e0.bare,Un.kept hk,⟨_,x.toInCall.ns,λi y v h1 h2 h3=>?_⟩,λy c h=>⟨_,x.cell y c h⟩,e0.hok.fresh (Nat.le_refl _),λy c h=>?_,λp hp=>absurd (show p∈([]:List (Addr×Obj)) from hp) (by simp),e0.hok.kept hk,?_⟩
 ·exact name_of_addr x.apart (PySem.mem_of_lookup h1) (PySem.mem_of_lookup h2)
 ·have hy:scope.names.lookup y=some .cell\/scope.names.lookup y=some .free:=hy
  rcases hy with hy|hy
  ·exact fH hy
  ·exact absurd rfl (S.Qw _ (PySem.mem_of_lookup hy))
 ·exact Nat.le_of_lt (x.above y c (PySem.mem_of_lookup h))
 ·have hi:i<vs.length:=by
   unfold start at h2
   by_cases hi:i<vs.length
   ·exact hi
   ·rw[List.getElem?_append_right (by simpa using hi)] at h2
    rw[List.getElem?_replicate] at h2
    split at h2<;>cases h2
  have ha:vs[i]?=some v:=by
   unfold start at h2
   rw[List.getElem?_append_left (by simpa using hi),List.getElem?_map] at h2
   cases e:vs[i]? with
   |none=>rw[e] at h2;cases h2
   |some a=>rw[e] at h2;cases h2;rfl
  obtain⟨u,hu,rv⟩:=r.get ha
  have hp:ps[i]?=some y:=by
   rw[<-S.pre,List.getElem?_take_of_lt (by omega)];exact h1
  have ndP:ps.Nodup:=by rw[<-S.pre];exact S.nd.sublist (List.take_sublist _ _)
  refine⟨u,rv,?_⟩
  rcases S.par y (List.mem_of_getElem? hp) with k|k
  ·exact .inl ⟨k,oW ndP hp hu k⟩
  ·obtain⟨c,e⟩:=fH (n:=s.heap.objs.size+1) k
   refine .inr ⟨.inl k,c,e,?_⟩
   have q:=x.cell y c e
   rw[oX ndP hp hu (by show scope.names.lookup y≠_;rw[k];decide)] at q
   exact q
 ·exact e0.hok.fresh (Nat.le_of_lt (x.above y c (PySem.mem_of_lookup h)))
 ·unfold start
  show _=N.length
  rw[List.length_append,List.length_map,List.length_replicate]
  omega
def Ky{CX:h_}{P:Program}{w:World}{K:PySem.W.Frag}{mg:Str->Option Value}{base:Heap}{k:Nat}{f:Addr}{name qual:Str}{params:Arguments}{body:List Stmt}{scope:Scope}{dV kV doc pm cdv ct oc:Value}{an od:Option Addr}
 {osl:Array (Option Value)}{N ps:List Str}{sp:Sp}(lk:K.lookup f=some ⟨oc,od,.func (PySem.W.fnOf name qual params body scope dV kV doc pm an cdv ct),osl⟩)(hcd:PySem.W.codeIn K cdv qual=true)(S:Ď N ps scope)
 (len:∀vs H Q E,sp vs H Q E->vs.length=ps.length)
 (hbody:∀(A:Around) (outer:List Env) (s:Shared) (H:Hp) (vs:List V) (Q:VK) (E:XK),ŗ k (A.deeper (envOfC qual scope s.heap.objs.size f cdv))→sp vs H Q E→
   ∃t,fG (qm CX P w K mg base N qual scope f cdv A outer s H E) body t/\t {nx:=λ_ H'=>Q .non H',rt:=Q} (start N vs) H) :
 ī P w K mg base CX (k+1) f (PySem.W.fnOf name qual params body scope dV kV doc pm an cdv ct) ps sp:=by
 refine⟨len,λA outer s H args us vs Q E hr e0 hb r hsp=>?_⟩
 have hl:=len _ _ _ _ hsp
 have KX:K.In s.heap:=e0.mod.Vp.keeps λb o e=>(e0.bs b o e).1
 have lim:s.heap.NoLimit:=e0.mod.nolimit.keeps λb o e=>(e0.bs b o e).1
 have hkind:∀y∈ps.zip us,scope.names.lookup y.1=some .local\/(scope.names.lookup y.1=some .cell/\((cellsFrom (s.heap.objs.size+1) scope.names []).lookup y.1).isSome=true):=λ⟨n,v⟩ hy=>by
  rcases S.par n (List.of_mem_zip hy).1 with q|q
  ·exact .inl q
  ·exact .inr ⟨q,PySem.W.cellsFrom_some _ _ _ (.inl q)⟩
 refine codeAny_call_function hr.depth (KX _ _ lk) rfl S.co S.gen rfl (PySem.W.codeRec_of KX hcd) (hb _ _ _ _ ?_)
 refine wpAny_newFunctionEnv_cells S.kind hkind λenv he s1 x=>?_
 subst he
 refine⟨lim.keeps x.toInCall.keep,codeAny_func ?_⟩
 obtain⟨t,ht,hq⟩:=hbody A outer s H vs Q E (hr.deeper _) hsp
 have I:Inv (qm CX P w K mg base N qual scope f cdv A outer s H E) [] (start N vs) H s1:=zM S hr.hd e0 hl r x
 refine wpAny_mono (ht [] s1 (start N vs) H _ I hq) (λfl s' hs=>?_) λe s' hs=>hs
 have fin:∀{σ':St} {H':Hp} {v:V} {u:Value},Inv (qm CX P w K mg base N qual scope f cdv A outer s H E) [] σ' H' s'->RelV v u->Q v H'->CE outer P w H s Q u s':=
  fun{σ' H' v u} J rv q=>⟨v,H',J.os,J.bare,J.base,J.hok,rv,q⟩
 cases fl with
 |ret u=>
  obtain⟨v,σ',H',J,rv,q⟩:=hs
  exact fin J rv q
 |next=>
  obtain⟨σ',H',J,q⟩:=hs
  exact fin (v:=V.non) (u:=Value.none) J rfl q
 |brk=>
  obtain⟨_,_,_,q⟩:=hs
  exact False.elim q
 |cont=>
  obtain⟨_,_,_,q⟩:=hs
  exact False.elim q
end L2
namespace L2
open PySem PySem.Spec PyProof.Rows
section
variable{X:Cx}{x:Str}{p pos:Pos}{e:Expr}{es:List Expr}{t:TA}{id T:String}{r:List V->Hp->VK->Prop}
def tCB(r:List V->Hp->VK->Prop)(t:TA):TE:=λσ H Q=>t σ H λvs H1=>r vs H1 Q
def sS(hc:ŕ X (.builtin id) r)(hg:Gl X x)(hm:X.mg x=none)(hv:bootBuiltins x=some (.builtin id))(ha:PA X (e::es) t)(hn:x≠ "__name__" := by decide)(hdb:(x== ("__debug__" :Str))=false:=by decide)
 (he:starEach (e::es) X.env=(false,eval e X.env)::starEach es X.env:=by rfl)(hpl:(backTo pos (starEach es X.env)).any (·.1)=false:=by rfl):PE X (.Call (.Name x p) (e::es) [] pos) (tCB r t):=by
 intro pins s σ H Q I h
 refine wpAny_Call_Name_kw (eX I hg hm hv ?_ hn hdb)
 exact PyProof.Rows.callWith_builtin1 (ļ (ha pos pins s σ H _ I h) λus s1 ⟨vs,H1,I1,r1,q1⟩=>hc pins s1 σ H1 vs us Q I1 r1 q1) he hpl
def oY(hc:ŕ X (.type T) r)(hg:Gl X x)(hm:X.mg x=none)(hv:bootBuiltins x=some (.type T))(ha:PA X (e::es) t)(hn:x≠ "__name__" := by decide)(hdb:(x== ("__debug__" :Str))=false:=by decide)
 (he:starEach (e::es) X.env=(false,eval e X.env)::starEach es X.env:=by rfl)(hpl:(backTo pos (starEach es X.env)).any (·.1)=false:=by rfl):PE X (.Call (.Name x p) (e::es) [] pos) (tCB r t):=by
 intro pins s σ H Q I h
 refine wpAny_Call_Name_kw (eX I hg hm hv ?_ hn hdb)
 exact PyProof.Rows.callWith_type1 (ļ (ha pos pins s σ H _ I h) λus s1 ⟨vs,H1,I1,r1,q1⟩=>hc pins s1 σ H1 vs us Q I1 r1 q1) he hpl
end
end L2
namespace HT
open PySem PyProof.Rows
section
open PySem.SeqAt
open PySem.AutoSeq1 (wpAny_loadPart')
open PySem.MeetsSeq PySem.MeetsSeq2 PySem.MeetsSeq3
end
section
variable{prog:Program}{w:World}{A:Around}{E:Value->Shared->Prop}{s:Shared}
def fJ(n d:Nat):Option Int->Nat
 |none=>d
 |some v=>if v<0 then(v+(n:Int)).toNat else min v.toNat n
def BL(n d:Nat)(hd:d<=n)(o:Option Int):fJ n d o<=n:=by
 cases o with
 |none=>exact hd
 |some v=>
  show(if v<0 then(v+(n:Int)).toNat else min v.toNat n)<=n
  by_cases hv:v<0
  ·rw[if_pos hv];omega
  ·rw[if_neg hv];exact Nat.min_le_right _ _
end
end HT
namespace L2
open PySem PySem.Spec PyProof.Rows
abbrev TO:=St->Hp->(Option Int->Hp->Prop)->Prop
def PO(X:Cx)(e:Option Expr)(t:TO):Prop:=
 ∀(pins:List (Addr×Obj)) (s:Shared) (σ:St) (H:Hp) (Q:Option Int->Hp->Prop),Inv X pins σ H s->t σ H Q->
  wpAny (model X.prog X.w) X.A (evalPart e X.env) (λu s'=>∃o H',Inv X pins σ H' s'/\IsPart u o/\Q o H') X.xe s
def HY:TO:=λ_ H Q=>Q none H
section
variable{X:Cx}{e:Expr}{te:TE}{lo hi:Option Expr}{tl th:TO}{pos p2:Pos}
def H_:PO X none HY:=by
 intro pins s σ H Q I h
 rw[evalPart_none]
 exact wpAny_pure ⟨none,H,I,.none,h⟩
def wW(X:Cx)(r:V->Option Int->Option Int->Hp->VK->Prop):Prop:=
 ∀(pins:List (Addr×Obj)) (s:Shared) (σ:St) (H:Hp) (x:V) (v vl vu:Value) (lo hi:Option Int) (sl:Addr) (Q:VK),Inv X pins σ H s->RelV x v->s.heap.IsSliceOf sl vl vu .none->IsPart vl lo->IsPart vu hi->r x lo hi H Q->
  ∃T id,typeLookup (.type T) "__getitem__" =pure (some (.builtin id))/\s.TypeIs v T/\wpAny (model X.prog X.w) X.A (getItem v (.ref sl)) (EP X pins σ Q) X.xe s
def wW.or{r r':V->Option Int->Option Int->Hp->VK->Prop}(h:wW X r)(h':wW X r'):wW X (λx lo hi H Q=>r x lo hi H Q\/r' x lo hi H Q):=by
 intro pins s σ H x v vl vu lo hi sl Q I rx hs pl pu q
 rcases q with q|q
 ·exact h pins s σ H x v vl vu lo hi sl Q I rx hs pl pu q
 ·exact h' pins s σ H x v vl vu lo hi sl Q I rx hs pl pu q
def tSl(r:V->Option Int->Option Int->Hp->VK->Prop)(te:TE)(tl th:TO):TE:=λσ H Q=>te σ H λx H1=>tl σ H1 λl H2=>th σ H2 λu H3=>r x l u H3 Q
def BP{r:V->Option Int->Option Int->Hp->VK->Prop}(hr:wW X r)(he:PE X e te)(hl:PO X lo tl)(hu:PO X hi th):PE X (.Subscript e (.Slice lo hi none p2) pos) (tSl r te tl th):=by
 intro pins s σ H Q I h
 refine Subscript_ (ļ (he pins s σ H _ I h) λv s1 ⟨x,H1,I1,r1,q1⟩=>?_)
 refine wpAny_Slice (ļ (hl pins s1 σ H1 _ I1 q1) λvl s2 ⟨l,H2,I2,pl,q2⟩=>ļ (hu pins s2 σ H2 _ I2 q2) λvu s3 ⟨u,H3,I3,pu,q3⟩=>?_)
 rw[evalPart_none]
 refine wpAny_pure ?_
 have I4:Inv X pins σ H3 {s3 with heap:=s3.heap.push {cls:=.type "slice",data:=.fields #[vl,vu,.none]}}:=I3.kept (t':=s3.toks) λb ob q=>Heap.get?_push_of_some _ q
 obtain⟨T,id,hT,ht,hg⟩:=hr pins {s3 with heap:=s3.heap.push {cls:=.type "slice",data:=.fields #[vl,vu,.none]}} σ H3 x v vl vu l u s3.heap.objs.size Q I4 r1 (Heap.IsSliceOf.new ..) pl pu q3
 show wpAny (model X.prog X.w) X.A (subscriptTail e (.Slice lo hi none p2) v (.ref s3.heap.objs.size)) (EP X pins σ Q) X.xe {s3 with heap:=s3.heap.push {cls:=.type "slice",data:=.fields #[vl,vu,.none]}}
 exact tail_any (ops:=[.ref s3.heap.objs.size,v]) ht hT hg (by with_unfolding_all rfl)
def sU(xs:List V)(lo hi:Option Int):List V:=(xs.drop (HT.fJ xs.length 0 lo)).take (HT.fJ xs.length xs.length hi-HT.fJ xs.length 0 lo)
def sV(xs:List V)(lo hi:Option Int):(sU xs lo hi).length<=xs.length:=by
 unfold sU
 rw[List.length_take,List.length_drop]
 omega
end
end L2
namespace L2
open PySem PySem.Spec PyProof.Rows
def Qx(n:Nat)(i:Int):Option Nat:=if 0<=i then(if i<n then some i.toNat else none) else if -(n:Int)<=i then some (i+n).toNat else none
def nZ{α:Type}(xs:List α)(i:Int):Option α:= (Qx xs.length i).bind λj=>xs[j]?
def Ia{n:Nat}{i:Int}{j:Nat}(h:Qx n i=some j):seqIndex? i n=some j/\j<n/\ -(n:Int)<=i/\i<n:=by
 unfold Qx at h
 by_cases h0:0<=i
 ·rw[if_pos h0] at h
  by_cases h1:i<n
  ·rw[if_pos h1] at h
   have e:i.toNat=j:=Option.some.inj h
   exact⟨by rw[seqIndex_of h0 h1,e],by omega,by omega,h1⟩
  ·rw[if_neg h1] at h;cases h
 ·rw[if_neg h0] at h
  by_cases h1: -(n:Int)<=i
  ·rw[if_pos h1] at h
   have e:(i+n).toNat=j:=Option.some.inj h
   exact⟨by rw[seqIndex_neg (by omega) h1,e],by omega,h1,by omega⟩
  ·rw[if_neg h1] at h;cases h
def qt{α:Type}{xs:List α}{i:Int}{v:α}(h:nZ xs i=some v):∃j,seqIndex? i xs.length=some j/\xs[j]?=some v/\j<xs.length/\ -(xs.length:Int)<=i/\i<xs.length:=by
 unfold nZ at h
 cases e:Qx xs.length i with
 |none=>rw[e] at h;cases h
 |some j=>
  rw[e] at h
  obtain⟨h1,h2,h3,h4⟩:=Ia e
  exact⟨j,h1,h,h2,h3,h4⟩
def jT(b:Expr):Prop:=∀o i,subscripted b false o i=operate [o,i] (getItem o i)
def vK(X:Cx)(r:R2):Prop:=
 ∀(value slice:Expr) (pins:List (Addr×Obj)) (s:Shared) (σ:St) (H:Hp) (x y:V) (v u:Value) (Q:VK),Inv X pins σ H s->RelV x v->RelV y u->r x y H Q->
  subscripted slice false v u=operate [v,u] (getItem v u)->wpAny (model X.prog X.w) X.A (subscriptTail value slice v u) (EP X pins σ Q) X.xe s
def MtR(X:Cx)(id:String)(r:V->List V->Hp->VK->Prop):Prop:=
 ∀(pins:List (Addr×Obj)) (s:Shared) (σ:St) (H:Hp) (x:V) (xs:List V) (v:Value) (us:List Value) (Q:VK),Inv X pins σ H s->RelV x v->Vals xs us->r x xs H Q->
  wpAny (model X.prog X.w) X.A (call (.builtin id) (v::us)) (EP X pins σ Q) X.xe s
section
variable{X:Cx}{a b:Expr}{ta tb:TE}{pos:Pos}
def vK.or{r r':R2}(h:vK X r)(h':vK X r'):vK X (λx y H Q=>r x y H Q\/r' x y H Q):=by
 intro value slice pins s σ H x y v u Q I rx ry q hs
 rcases q with q|q
 ·exact h value slice pins s σ H x y v u Q I rx ry q hs
 ·exact h' value slice pins s σ H x y v u Q I rx ry q hs
def Kz{r:R2}(hr:vK X r)(ha:PE X a ta)(hb:PE X b tb)(hs:jT b):PE X (.Subscript a b pos) (Qh r ta tb):=by
 intro pins s σ H Q I h
 exact Subscript_ (Qj ha hb I h λv u s2 x y H2 I2 rx ry q=>hr a b pins s2 σ H2 x y v u Q I2 rx ry q (hs _ _))
def V_(K:PySem.W.Frag):R2:=λx y H Q=>∃p xs i v,x=.ref p/\y=.int i/\Ř K H p xs/\nZ xs i=some v/\Q v H
def Wa(K:PySem.W.Frag):R2:=λx y H Q=>∃p xs i v,x=.ref p/\y=.int i/\bx K H p xs/\nZ xs i=some v/\Q v H
def Wb:R2:=λx y H Q=>∃z i c,x=.str z/\y=.int i/\z.length<=sizeLine/\nZ z.cps.toList i=some c/\Q (.str ⟨#[c]⟩) H
def Ib:vK X (V_ X.K):=by
 intro value slice pins s σ H x y v u Q I rx ry h hs
 obtain⟨p,xs,i,z,rfl,rfl,hq,he,q⟩:=h
 cases rx
 obtain⟨t,rfl⟩:=ry
 obtain⟨its,r,pl,hz⟩:=I.list hq
 obtain⟨j,h1,h2,h3,h4,h5⟩:=qt he
 obtain⟨w,ew,BR⟩:=r.get h2
 have hl:=r.length
 have hn:=k_
 have fin:EP X pins σ Q w s:=⟨z,H,I,BR,q⟩
 by_cases h0:0<=i
 ·have hj:i.toNat=j:=by
   rw[seqIndex_of h0 h5] at h1
   exact Option.some.inj h1
  exact item_listR pl.isList h0 (by omega) (by rw[hj];simpa using ew) fin hs
 ·have hj:(i+(its.toArray.size:Int)).toNat=j:=by
   rw[seqIndex_neg (by omega) h4] at h1
   rw[List.size_toArray,<-hl]
   exact Option.some.inj h1
  exact subscriptTail_builtinR (x:=w) pl.isList.typeIs slot_list_getitem.lookup
   (wpAny_getItem_list_neg (Q:=λr s'=>r=w/\EP X pins σ Q r s') pl.isList (by omega) (by rw[List.size_toArray]<;>omega) (by omega) (by rw[hj];simpa using ew) ⟨rfl,fin⟩) hs
def Qy:vK X (Wa X.K):=by
 intro value slice pins s σ H x y v u Q I rx ry h hs
 obtain⟨p,xs,i,z,rfl,rfl,hq,he,q⟩:=h
 cases rx
 obtain⟨t,rfl⟩:=ry
 obtain⟨its,r,pl,hz⟩:=I.tuple hq
 obtain⟨j,h1,h2,h3,h4,h5⟩:=qt he
 obtain⟨w,ew,BR⟩:=r.get h2
 have hl:=r.length
 have hn:=k_
 have fin:EP X pins σ Q w s:=⟨z,H,I,BR,q⟩
 exact subscriptTail_builtinR (x:=w) pl.typeIs slot_tuple_getitem.lookup
  (getItem_tuple (j:=j) (Q:=λr s'=>r=w/\EP X pins σ Q r s') pl (by omega) (by omega) (by rw[List.size_toArray,<-hl];exact h1) (by simpa using ew) ⟨rfl,fin⟩) hs
def Qz:vK X Wb:=by
 intro value slice pins s σ H x y v u Q I rx ry h hs
 obtain⟨z,i,c,rfl,rfl,hz,he,q⟩:=h
 obtain⟨t,rfl⟩:=rx
 obtain⟨t',rfl⟩:=ry
 obtain⟨j,h1,h2,h3,h4,h5⟩:=qt he
 have hl:z.cps.toList.length=z.length:=by simp[Str.length]
 rw[hl] at h1 h4 h5
 have hn:=k_
 exact tail_any (typeIs_str s z t) slot_str_getitem.lookup (getItem_str (c:=c) (by
  have e1:decide (i < -(2 ^ 63:Int))=false:=decide_eq_false (by omega)
  have e2:decide (i >= 2 ^ 63)=false:=decide_eq_false (by omega)
  rw[e1,e2,Bool.or_false]) (by rw[h1];simpa using h2) ⟨.str ⟨#[c]⟩,H,I.tok _,⟨_,rfl⟩,q⟩) hs
def rIx(K:PySem.W.Frag):R2:=λx y H Q=>V_ K x y H Q\/Wa K x y H Q\/Wb x y H Q
def BW:vK X (rIx X.K):=Ib.or (Qy.or Qz)
def qu(lo hi:Option Int)(n:Nat):(sliceBounds lo hi none n).1=((HT.fJ n 0 lo:Nat):Int)/\(sliceBounds lo hi none n).2.1=((HT.fJ n n hi:Nat):Int)/\(sliceBounds lo hi none n).2.2=1:=by
 refine⟨?_,?_,rfl⟩
 ·cases lo with
  |none=>simp[sliceBounds,HT.fJ]
  |some i=>
   simp only[sliceBounds,HT.fJ,Option.getD_none,show(1:Int)>0 by decide,if_true]
   by_cases h:i<0
   ·simp only[h,if_true]<;>omega
   ·simp only[h,if_false]<;>omega
 ·cases hi with
  |none=>simp[sliceBounds,HT.fJ]
  |some i=>
   simp only[sliceBounds,HT.fJ,Option.getD_none,show(1:Int)>0 by decide,if_true]
   by_cases h:i<0
   ·simp only[h,if_true]<;>omega
   ·simp only[h,if_false]<;>omega
def n_(its:List Value)(lo hi:Option Int):slicePick its.toArray lo hi none=((its.drop (HT.fJ its.length 0 lo)).take (HT.fJ its.length its.length hi-HT.fJ its.length 0 lo)).toArray:=by
 obtain⟨h1,h2,h3⟩:=qu lo hi its.toArray.size
 unfold slicePick
 rw[h1,h2,h3]
 simp only[sliceRange_one,pick_run,List.size_toArray]<;>rfl
def Za_(K:PySem.W.Frag):V->Option Int->Option Int->Hp->VK->Prop:=λx lo hi H Q=>∃a xs,x=.ref a/\Ř K H a xs/\∀p,H p=none->Q (.ref p) (upd H p (.lst (sU xs lo hi)))
def Ie:wW X (Za_ X.K):=by
 intro pins s σ H x v vl vu lo hi sl Q I rx hs pl pu h
 obtain⟨a,xs,rfl,hx,q⟩:=h
 cases rx
 obtain⟨its,r,ht,hz⟩:=I.list hx
 have hlen:=r.length
 refine⟨"list",_,slot_list_getitem.lookup,ht.isList.typeIs,?_⟩
 refine wpAny_getItem_list_slice ht.isList hs pl pu .none (by simp) ?_ (by rw[List.size_toArray]<;>omega)
 rw[n_,<-hlen]
 refine⟨.ref s.heap.objs.size,_,I.laid (t':=s.toks) (o:=.lst (sU xs lo hi)) (λb ob q=>Heap.get?_push_of_some _ q) (Nat.le_refl _) ?_,rfl,q _ (I.hok.fresh (Nat.le_refl _))⟩
 exact⟨Nat.le_trans (sV xs lo hi) hz,_,0,(r.drop (HT.fJ xs.length 0 lo)).take (HT.fJ xs.length xs.length hi-HT.fJ xs.length 0 lo),Heap.get?_push_size _ rfl⟩
def qw:ŕ X (.type "list") (λxs H Q=>∃p ys,xs=[.ref p]/\(Ř X.K H p ys\/bx X.K H p ys)/\∀l,H l=none->Q (.ref l) (upd H l (.lst ys))):=by
 intro pins s σ H xs us Q I r h
 obtain⟨p,ys,rfl,hq,q⟩:=h
 obtain⟨u,rfl,rx⟩:=vals1 r
 cases rx
 have fin:∀(its:List Value),Vals ys its->ys.length<=sizeLine->∀(h':Heap) (c':Nat),(∀b o',s.heap.get? b=some o'->h'.get? b=some o')->
  h'.get? s.heap.objs.size=some {cls:=.type "list",dict:=none,data:=.seq its.toArray c',slots:=#[]}->EP X pins σ Q (.ref s.heap.objs.size) {s with heap:=h'}:=λits r' hz h' c' kp e=>
  ⟨.ref s.heap.objs.size,_,I.laid (t':=s.toks) kp (Nat.le_refl _) (show ľ X.prog X.w _ h' _ (.lst ys) from⟨hz,its,c',r',e⟩),rfl,q _ (I.hok.fresh (Nat.le_refl _))⟩
 rcases hq with hq|hq
 ·obtain⟨its,r',pl,hz⟩:=I.list hq
  have hlen:=r'.length
  obtain⟨o,ho,hc,n,hd⟩:=pl.isList
  exact call_list_seq p (.inl rfl) ho hc hd (λh' c' kp e=>fin its r' hz h' c' kp e) (by simp only[List.size_toArray]<;>omega)
 ·obtain⟨its,r',pl,hz⟩:=I.tuple hq
  have hlen:=r'.length
  obtain⟨o,ho,hc,n,hd⟩:=pl
  exact call_list_seq p (.inr rfl) ho hc hd (λh' c' kp e=>fin its r' hz h' c' kp e) (by simp only[List.size_toArray]<;>omega)
def tyV(K:PySem.W.Frag)(T:String)(x:V)(H:Hp):Prop:=match x with
 | .str _=>T= "str"
 | .int _=>T= "int"
 | .ref p=>(T= "list" ∧∃xs,Ř K H p xs)∨(T= "tuple" ∧∃o,K.lookup p=some o∧o.cls=.type "tuple" ∧o.dict=none)∨
     (T= "dict" /\((∃kvs,H p=some (.dK kvs))\/∃kvs,H p=some (.dT kvs)))\/(T= "set" /\∃S n,H p=some (.set S n))
 |_=>False
def QB{pins:List (Addr×Obj)}{σ:St}{H:Hp}{s:Shared}{T:String}{x:V}{v:Value}(I:Inv X pins σ H s)(r:RelV x v)(ty:tyV X.K T x H) :
 s.TypeIs v T/\∀a,v=.ref a->∃ob,s.heap.get? a=some ob/\ob.dict=none:=by
 cases x with
 |str z=>
  obtain⟨t,rfl⟩:=r
  cases(show T= "str" from ty)
  exact⟨typeIs_str s z t,λ_ e=>nomatch e⟩
 |int i=>
  obtain⟨t,rfl⟩:=r
  cases(show T= "int" from ty)
  exact⟨typeIs_int s i t,λ_ e=>nomatch e⟩
 |ref p=>
  cases r
  rcases ty with⟨rfl,xs,hq⟩|⟨rfl,o,hk,hc,hd⟩|⟨rfl,hk⟩|⟨rfl,S,n,hk⟩
  ·obtain⟨its,_,pl,_⟩:=I.list hq
   refine⟨pl.isList.typeIs,λa e=>?_⟩
   cases e
   obtain⟨o,n,e,c,hd,_⟩:=pl
   exact⟨o,e,hd⟩
  ·refine⟨⟨o,I.jQ p o hk,hc⟩,λa e=>?_⟩
   cases e
   exact⟨o,I.jQ _ o hk,hd⟩
  ·have z:∃o,s.heap.get? p=some o∧o.ExactDict:=by
    rcases hk with⟨kvs,hk⟩|⟨kvs,hk⟩
    ·obtain⟨_,_,_,_,o,_,_,e,ex,_⟩:=I.hok p _ hk
     exact⟨o,e,ex⟩
    ·obtain⟨_,_,_,_,o,_,_,e,ex,_⟩:=I.hok p _ hk
     exact⟨o,e,ex⟩
   obtain⟨o,e,ex⟩:=z
   refine⟨⟨o,e,ex.1⟩,λa e2=>?_⟩
   cases e2
   exact⟨o,e,ex.2.1⟩
  ·obtain⟨o,_,_,_,e,ex,_⟩:=I.hok p _ hk
   refine⟨⟨o,e,ex.1⟩,λa e2=>?_⟩
   cases e2
   exact⟨o,e,ex.2.1⟩
 |_=>exact False.elim ty
def tBM(K:PySem.W.Frag)(T:String)(r:V->List V->Hp->VK->Prop)(to:TE)(t:TA):TE:=λσ H Q=>to σ H λx H1=>tyV K T x H1/\t σ H1 λxs H2=>r x xs H2 Q
variable{o e:Expr}{es:List Expr}{to:TE}{t:TA}{name:Str}{apos cpos:Pos}{T id:String}{r:V->List V->Hp->VK->Prop}
def lq(pa:PlainAttrs T)(slot:Slot T name id)(hty:typeOf (.builtin id)=pure (.type "method_descriptor"))(hm:MtR X id r)(ho:PE X o to)(ha:PA X (e::es) t)
 (hbase:attributeBase o name X.env (eval o X.env)=eval o X.env:=by rfl)
 (hfew:((backTo cpos (starEach (e::es) X.env)).all (fun x=>!x.1) && (backToKw cpos (keywordEach [] X.env)).all (fun x=>x.1.isSome)
   && decide ((e::es).length+([]:List Keyword).length+(if([]:List Keyword).isEmpty then 0 else 1)<30))=true:=by rfl)
 (hline:(apos.endLine== cpos.line)=true:=by rfl)(hs:starEach (e::es) X.env=(false,eval e X.env)::starEach es X.env:=by rfl)(hplain:(backTo cpos (starEach es X.env)).any (·.1)=false:=by rfl) :
 PE X (.Call (.Attribute o name apos) (e::es) [] cpos) (tBM X.K T r to t):=by
 intro pins s σ H Q I h
 refine wpAny_Call_method_late hbase hfew hline rfl (ļ (ho pins s σ H _ I h) λv s1 ⟨x,H1,I1,r1,ty,q1⟩=>?_)
 obtain⟨h1,h2⟩:=QB I1 r1 ty
 refine⟨T,id,pa,slot,hty,h1,h2,?_⟩
 have hA:=ha cpos pins s1 σ H1 _ I1 q1
 rw[hs] at hA ⊢
 refine Calls.callWith_builtin (by show(false || (backTo cpos (starEach es X.env)).any (·.1))=false;rw[hplain]<;>rfl) (Calls.evalArgs_plain ?_)
 exact ļ hA λus s2 ⟨vs,H2,I2,r2,q2⟩=>hm pins s2 σ H2 x vs v us Q I2 r1 r2 q2
end
end L2
namespace L2
open PySem PySem.Spec PyProof.Rows
def MtM(X:Cx)(id:String)(r:V->List V->Hp->VK->Prop):Prop:=
 ∀(pins:List (Addr×Obj)) (s:Shared) (σ:St) (H:Hp) (x:V) (xs:List V) (v:Value) (us:List Value) (Q:VK),Inv X pins σ H s->RelV x v->Vals xs us->r x xs H Q->
  wpAny (model X.prog X.w) X.A (call (.builtin id) (v::us)) (EP X pins σ Q) X.xe s
theorem Vals.one:∀{x:V} {us:List Value},Vals [x] us->∃u,us=[u]/\RelV x u
 |_,_,.cons r .nil=>⟨_,rfl,r⟩
section
variable{X:Cx}{pins:List (Addr×Obj)}{σ:St}{H:Hp}{s:Shared}{l b:Addr}{xs ys zs:List V}
def Inv.Zba{its its':List Value}{n:Nat}{f:Array Value->Array Value}{t':Nat}(I:Inv X pins σ H s)(hH:H l=some (.lst xs))
 (e:s.heap.get? l=some {cls:=.type "list",data:=.seq its.toArray n})(hf:f its.toArray=its'.toArray)(hv:Vals ys its')(hz:ys.length<=sizeLine) :
 Inv X pins σ (upd H l (.lst ys)) {s with heap:=s.heap.update l (Obj.mapSeq f),toks:=t'}:=by
 have q:=PySem.IsL.update e f
 rw[hf] at q
 refine I.write (x:=l) (e:=l) (by rw[hH];exact trivial) (.inl rfl) (λb' u hb hu=>(Heap.get?_update_other s.heap (Obj.mapSeq f) (Ne.symm hb)).trans hu) ⟨_,q⟩ ?_
 exact⟨hz,its',_,hv,q⟩
def Inv.Zbb{its:List Value}{t':Nat}(I:Inv X pins σ H s)(hv:Vals ys its)(hz:ys.length<=sizeLine) :
 Inv X pins σ (upd H s.heap.objs.size (.lst ys)) {s with heap:=s.heap.push {cls:=.type "list",data:=.seq its.toArray},toks:=t'}:=
 I.laid (λ_ _ q=>Heap.get?_push_of_some _ q) (Nat.le_refl _) ⟨hz,its,0,hv,Heap.get?_push_size _ rfl⟩
theorem Inv.fresh(I:Inv X pins σ H s):H s.heap.objs.size=none:=I.hok.fresh (Nat.le_refl _)
def Inv.Zbc(I:Inv X pins σ H s)(hH:H l=some (.lst xs)):xs.length<=sizeLine/\∃(its:List Value) (n:Nat),Vals xs its/\xs.length=its.length/\s.heap.get? l=some {cls:=.type "list",data:=.seq its.toArray n}:=by
 obtain⟨z,its,n,r,e⟩:=I.hok l _ hH
 exact⟨z,its,n,r,r.length,e⟩
end
section
variable{X:Cx}
def qy:V->List V->Hp->VK->Prop:=λx vs H Q=>∃l xs y,x=.ref l/\vs=[y]/\H l=some (.lst xs)/\xs.length<sizeLine/\Q .non (upd H l (.lst (xs ++ [y])))
def ō:MtM X "list.append" qy:=by
 intro pins s σ H x vs v us Q I rx rv h
 obtain⟨l,xs,y,rfl,rfl,hH,hz,q⟩:=h
 cases rx
 obtain⟨u,rfl,ru⟩:=rv.one
 obtain⟨z,its,n,r,hl,e⟩:=I.Zbc hH
 refine call_meets F.slot_list_append ⟨_,e,rfl⟩ F.entry_list_append (F.args_list_append_2 _ _) (PySem.list_append l its.toArray n u (by rw[List.size_toArray];omega)) ⟨e,?_⟩
 refine⟨.non,_,I.Zba (its':=its ++ [u]) hH e (by simp) (r.append (.cons ru .nil)) ?_,rfl,q⟩
 rw[List.length_append,List.length_singleton]
 omega
end
section
variable{prog:Program}{w:World}{A:Around}{E:Value->Shared->Prop}{s:Shared}
end
section
variable{X:Cx}
end
end L2
namespace Att
open PySem PySem.W PySem.Calls PyProof.Rows
def jG{P:Params}{h:Heap}:∀(ns:List Int) (vs:List Value),WellAll P h vs (ns.map WData.int)->IntsAre vs ns:=by
 intro ns
 induction ns with
 |nil=>
  intro vs w
  rw[List.map_nil] at w
  cases w
  exact .nil
 |cons n ns ih=>
  intro vs w
  rw[List.map_cons] at w
  cases w with
  |cons a b=>
   cases a
   exact .cons _ _ (ih _ b)
def zN{l:OpenLaw}{n:Nat}(hn:l.most=some n){P:Params}{h:Heap}{args:List WData}{vals:List Value}
 (hpre:l.row.toRowW.claim.pre args=true)(hwl:WellAll P h vals args) :
 ∃a vs ns,vals=[Value.ref a]/\args=[WData.list (ns.map WData.int)]/\h.get? a=some {cls:=.type "list",data:=.seq vs.toArray}/\IntsAre vs ns/\ns.length<=n:=by
 have hsh:WShape.hasAll [] args [.list .int]=true:=(pre_splitW hpre).1
 have hc:l.pre.holds [] {args:=args}=true:=(pre_splitW hpre).2
 obtain⟨d,r,rfl,h1,h2⟩:=hasAllW_cons hsh
 obtain rfl:=hasAllW_nil h2
 obtain⟨xs,rfl,h3⟩:=hasW_list h1
 obtain⟨ns,rfl⟩:=items_int h3
 have hlen:ns.length<=n:=by
  unfold OpenLaw.pre at hc
  have h4:(WTm.not (.lt (.lit (.int (n:Int))) (.len (.arg 0)))).holds [] {args:=[.list (ns.map .int)]}=true:=by
   have h4:=(holds_andW hc).1
   rw[hn] at h4
   exact h4
  have h5:=condW_of h4 (w_not (w_lt w_lit (w_len_list (w_arg rfl))))
  rw[List.length_map] at h5
  refine Nat.le_of_not_lt λq=>?_
  have q':(n:Int)<((ns.length:Nat):Int):=by omega
  first
   |(rw[decide_eq_true q'] at h5;exact absurd h5 (by decide))
   |(simp at h5;omega)
 cases hwl with
 |cons w1 w2=>
  cases w2
  cases w1 with
  |list ho hall=>exact⟨_,_,ns,rfl,rfl,ho,jG ns _ hall,hlen⟩
def zO(l:OpenLaw)(args:List WData):l.row.toRowW.claim.post args (.bool true) args=true:=
 postW_of (r:=l.row.toRowW) (X:=(true== true))
  (show WShape.has [] (.bool true) .bool=true by first|rfl|decide|simp[WShape.has,WShape.arms,WShape.armsAll])
  (show(WTm.eq .res (.lit (.bool true))).value [] {args:=args,res:=some (.bool true),after:=args}=some (.bool (true== true)) from w_eq_bool (w_res rfl) w_lit) rfl
def sW{l:OpenLaw}{n:Nat}{q:Program}{loose:List Str}{XP:(Str->Option Value)->Heap->Prop}{YP:World->Heap->Prop}{d:DefRec}
 (hn:l.most=some n)(hdf:d.params.defaults=[])
 (call:∀(w:World) (s₀ s₁:Shared) (mg mb:Str→Option Value) (fa:Addr) (o:Obj) (pm cd doc:Value) (a:Addr) (vs:List Value) (ns:List Int),
   Ground q loose [] XP w s₀ mg mb s₁.heap->YP w s₁.heap->
   s₁.heap.get? fa=some o->o.data=.func (docDef d.name d.params d.body d.scope pm cd doc)->s₁.heap.CodeRec cd d.name->mg d.name=some (.ref fa)->
   s₁.heap.get? a=some {cls:=.type "list",data:=.seq vs.toArray}->IntsAre vs ns->ns.length<=n->s₁.gens= #[]->
   codeAny (model l.prog w) callerA (.call (.ref fa) ⟨[.ref a],[]⟩) (λr s'=>r=.ok (.ret (.bool true))/\OldK s₁.heap s'.heap/\s'.os=s₁.os/\AllBare s'.gens) s₁) :
 WalkO q loose XP YP l.row.toRowW d [] (λf vs=>PySem.call f vs):=by
 intro w s₀ s₁ mg mb G Y fa o pm cd doc dV kV ho hd hcd hD hmg hg args vals as hpre hlay hrd hwl hlo
 obtain rfl:dV=.none:=Dflts.none hD hdf
 obtain rfl:kV=.none:=Dflts.noKw hD
 obtain⟨a,vs,ns,rfl,rfl,hobj,hints,hlen⟩:=zN hn hpre hwl
 refine enter_call (codeAny_mono (call w s₀ s₁ mg mb fa o pm cd doc a vs ns G Y ho (fd_plain hd) hcd hmg hobj hints hlen hg) λr s' hq=>?_)
 obtain⟨rfl,h2,h3,h4⟩:=hq
 exact⟨.inl ⟨.bool true,.bool true,[],rfl,λ_=>rfl,.bool true,zO l _,λ_=>⟨List.Pairwise.nil,λ_ hm=>(nomatch hm)⟩⟩,h2,h3,h4⟩
section
variable{prog:Program}{w:World}{A:Around}{E:Value->Shared->Prop}{s:Shared}{K:Frag}
end
end Att
namespace L2
open PySem PySem.Spec PyProof.Rows
theorem ig:∀{vs:List Value} {ns:List Int},IntsAre vs ns->Vals (ns.map V.int) vs
 |_,_,.nil=>.nil
 |_,_,.cons n t h=>.cons ⟨t,rfl⟩ (ig h)
def Only(H:Hp):Prop:=∀b,H b=none\/(∃o xs,H b=some (.bI o (.lst xs)))\/∃q,H b=some (.nQ q)
def cO(K:PySem.W.Frag):List Str->Hp
 | []=>λ_=>none
 |y::r=>λb=>match PySem.W.tabIn K y with
  |some (_,P)=>if b=P then some (.nQ (qe y)) else cO K r b
  |none=>cO K r b
theorem aC{K:PySem.W.Frag}:∀{l:List Str} {b:Addr} {u:HO},cO K l b=some u->∃y c,y∈l/\PySem.W.tabIn K y=some (c,b)/\u=.nQ (qe y)
 | [],_,_,h=>by cases(show(none:Option HO)=some _ from h)
 |y::r,b,u,h=>by
  have h':(match PySem.W.tabIn K y with
   |some (_,P)=>if b=P then some (.nQ (qe y)) else cO K r b
   |none=>cO K r b)=some u:=h
  have rc:cO K r b=some u->∃z c,z∈y::r/\PySem.W.tabIn K z=some (c,b)/\u=.nQ (qe z):=λq=>
   let ⟨z,c,h1,h2,h3⟩:=aC q
   ⟨z,c,List.mem_cons_of_mem _ h1,h2,h3⟩
  cases e:PySem.W.tabIn K y with
  |none=>rw[e] at h';exact rc h'
  |some p=>
   obtain⟨c,P⟩:=p
   rw[e] at h'
   have h2:(if b=P then some (HO.nQ (qe y)) else cO K r b)=some u:=h'
   by_cases hb:b=P
   ·rw[if_pos hb] at h2
    cases h2
    exact⟨y,c,List.mem_cons_self,by rw[hb];exact e,rfl⟩
   ·rw[if_neg hb] at h2
    exact rc h2
theorem wX{K:PySem.W.Frag}{y:Str}{c P:Addr}(e:PySem.W.tabIn K y=some (c,P)):∀{l:List Str},(∀z∈l,z=y)->y∈l->cO K l P=some (.nQ (qe y))
 | [],_,h=>by cases h
 |z::r,h1,_=>by
  have hz:=h1 z List.mem_cons_self
  subst hz
  show(match PySem.W.tabIn K z with
   |some (_,Q)=>if P=Q then some (HO.nQ (qe z)) else cO K r P
   |none=>cO K r P)=_
  rw[e]
  exact if_pos rfl
def BX{P:Program}{w:World}{K:PySem.W.Frag}{mg mb:Str->Option Value}{CX:h_}{k:Nat}{fa a:Addr}{fd:FuncData}{x:Str}{sp:Sp}{s₁:Shared}{vs:List Value}{ns:List Int}
 (KX:K.In s₁.heap)(hns:s₁.heap.Ns mainGlobals mg)(hb:s₁.heap.Ns builtinsNs mb)(hbb:∀x:Str,x≠ "__name__" ->mb x=bootBuiltins x)(hlim:s₁.heap.NoLimit)(hg:s₁.gens= #[])
 (ha:s₁.heap.get? a=some {cls:=.type "list",data:=.seq vs.toArray})(hi:IntsAre vs ns)(hl:ns.length<=sizeLine)(hr:ŗ k callerA)
 (F:∀base:Heap,K.In base->base.Ns mainGlobals mg->ī P w K mg base CX k fa fd [x] sp)(hbind:∀(s:Shared) (u:Value),BindsTo s fd ⟨[u],[]⟩ [(x,u)])
 (hsp:∀H:Hp,Only H->Ř K H a (ns.map V.int)->sp [.ref a] H (λv _=>v=.bl true) λ_ _ _=>False)
 (Wc:∀H e s',CX [] H s₁ (λ_ _ _=>False) e s'->False)
 (hnt:lams≠[]->PySem.W.noTabs K=true)(hone:∀y z,y∈lams->z∈lams->y=z)(htb:∀y c Pt,y∈lams->PySem.W.tabIn K y=some (c,Pt)->PySem.W.CodeHd s₁.heap c Pt/\s₁.heap.get? Pt=some (PySem.W.tabObj #[])/\s₁.heap.BuiltinsAt mg Pt) :
 codeAny (model P w) callerA (.call (.ref fa) ⟨[.ref a],[]⟩) (λr s'=>r=.ok (.ret (.bool true))/\OldK s₁.heap s'.heap/\s'.os=s₁.os/\AllBare s'.gens) s₁:= by
 have rv:=ig hi
 have lenV:=hi.length
 -- from an abstract heap in which nothing but the script may be tracked
 have core:∀H:Hp,Only H->Ř K H a (ns.map V.int)->cJ P w H s₁.heap->(∀b,H b≠none->b=a\/∃y c,y∈lams/\PySem.W.tabIn K y=some (c,b))->(H a≠none->K.lookup a=none)->(∀y c Pt,y∈lams->PySem.W.tabIn K y=some (c,Pt)->H Pt=some (.nQ (qe y)))->
  codeAny (model P w) callerA (.call (.ref fa) ⟨[.ref a],[]⟩) (λr s'=>r=.ok (.ret (.bool true))/\OldK s₁.heap s'.heap/\s'.os=s₁.os/\AllBare s'.gens) s₁:= by
  intro H hO hS hok hA hK hT
  have jU:∀{b:Addr} {o:Obj},s₁.heap.get? b=some o->H b=none->(nW s₁.heap H).get? b=some o:=λe n=>Bj e n
  have VR:∀{b:Addr} {o:Obj} {es:Array DictEntry} {ep:Nat},s₁.heap.get? b=some o->o.data=.dict es ep->H b=none:=fun{b o es ep} e d=>by
   cases q:H b with
   |none=>rfl
   |some u=>
    rcases hA b (by rw[q];simp) with e'|⟨y,c,hy,hty⟩
    ·subst e'
     rw[ha] at e;cases e
     have d':Data.seq vs.toArray _=Data.dict es ep:=d
     cases d'
    ·have e2:=(htb y c b hy hty).2.1
     rw[e] at e2;cases e2;cases d
  have nsK:∀{b:Addr} {m:Str->Option Value},s₁.heap.Ns b m->(nW s₁.heap H).Ns b m:=fun{b m} ⟨o,es,ep,e,d,r⟩=>⟨o,es,ep,jU e (VR e d),d,r⟩
  have hKb:K.In (nW s₁.heap H):=λb o e=>jU (KX b o e) (by
   cases q:H b with
   |none=>rfl
   |some u=>
    rcases hA b (by rw[q];simp) with e'|⟨y,c,hy,hty⟩
    ·subst e'
     rw[hK (by rw[q];simp)] at e;cases e
    ·have e2:=(htb y c b hy hty).2.1
     rw[KX b o e] at e2
     cases e2
     have h2:=List.all_eq_true.mp (hnt (λz=>by rw[z] at hy;cases hy)) (b,_) (PySem.W.mem_of_lookupK e)
     exact absurd (show false=true from h2) Bool.false_ne_true)
  have hM:Mod K mg (nW s₁.heap H):=⟨hKb,nsK hns,⟨mb,nsK hb,hbb⟩,let ⟨mc,h1,h2⟩:=hlim;⟨mc,nsK h1,h2⟩⟩
  have hTB:TabsOk K mg (nW s₁.heap H) H:=λy c Pt hy hty=>by
   obtain⟨⟨o,us,file,tf,flags,tg,inF,text,tt,e1,r1,r2⟩,_,bm,ob,b1,b2,b3,b4,b5,b6,b7⟩:=htb y c Pt hy hty
   refine⟨⟨o,us,file,tf,flags,tg,inF,text,tt,jU e1 ?_,r1,r2⟩,hT y c Pt hy hty,bm,ob,b1,b2,b3,b4,jU b5 ?_,b6,b7⟩
   rotate_left
   ·cases q:H bm with
    |none=>rfl
    |some u=>
     rcases hA bm (by rw[q];simp) with e'|⟨z,c2,hz,htz⟩
     ·rw[e',ha] at b5;cases b5;exact absurd (Value.type.inj b6) (by decide)
     ·have e2:=(htb z c2 bm hz htz).2.1
      rw[b5] at e2;cases e2;cases b6
   cases q:H c with
   |none=>rfl
   |some u=>
    rcases hA c (by rw[q];simp) with e'|⟨z,c2,hz,htz⟩
    ·rw[e',ha] at e1;cases e1;exact absurd (Value.type.inj r1) (by decide)
    ·have e2:=(htb z c2 c hz htz).2.1
     rw[e1] at e2;cases e2;cases r1
  have e0:vJ P w K mg (nW s₁.heap H) callerA [] s₁ H:=⟨rfl,hM,λb o e=>Ht e,Nat.le_of_eq (zu _ _),trivial,λb hb=>absurd (show b∈([]:List Addr) from hb) (by simp),hok,.of_eq hg,hTB⟩
  refine codeAny_mono ((F _ hKb (nsK hns)).run callerA [] s₁ H ⟨[.ref a],[]⟩ [.ref a] [.ref a] _ _ hr e0 (hbind s₁ (.ref a)) (.cons rfl .nil) (hsp H hO hS)) λr s' h=>?_
  cases r with
  |error e=>exact(Wc H e s' h).elim
  |ok fl=>
   cases fl with
   |next=>exact False.elim h
   |brk=>exact False.elim h
   |cont=>exact False.elim h
   |ret u=>
    obtain⟨v,H',os,bare,un,hok',r',q⟩:=h
    have q':v=.bl true:=q
    subst q'
    obtain rfl:u=Value.bool true:=r'
    have old:∀b o,s₁.heap.get? b=some o->(∀t,H b≠some (.nQ t))->s'.heap.get? b=some o:=?_
    ·refine⟨rfl,⟨λb o e=>?_,λb o e=>?_⟩,os,bare⟩
     ·by_cases ht:∃t,H b=some (.nQ t)
      ·obtain⟨t,ht⟩:=ht
       obtain⟨ps,e1,_⟩:=hok' b _ (un.jE b t ht)
       rcases hA b (by rw[ht];simp) with e'|⟨y,c,hy,hty⟩
       ·subst e'
        obtain⟨ps2,e3,_⟩:=hok b _ ht
        rw[ha] at e3;cases e3
       ·obtain⟨⟨o2,us,file,tf,flags,tg,inF,text,tt,f1,f2,f3,f4,_⟩,e2,_⟩:=htb y c b hy hty
        rw[e] at e2;cases e2
        exact .inr (.inl ⟨⟨c,o2,us,f1,f2,f3,f4⟩,rfl,#[],ps,rfl,by rw[e1];simp⟩)
      ·exact .inl (old b o e λt z=>ht ⟨t,z⟩)
     ·by_cases ht:∃t,H b=some (.nQ t)
      ·obtain⟨t,ht⟩:=ht
       obtain⟨ps,e1,_⟩:=hok' b _ (un.jE b t ht)
       exact⟨_,e1⟩
      ·exact⟨o,old b o e λt z=>ht ⟨t,z⟩⟩
    intro b o e nt
    cases q:H b with
    |none=>exact un.keep b o e q (by intro z;exact absurd (show b∈([]:List Addr) from z) (by simp)) (by simp)
    |some u=>
     rcases hO b with z|⟨ob,xs,z⟩|⟨t,z⟩
     ·rw[q] at z;cases z
     rotate_left
     ·exact absurd z (nt t)
     ·have z2:=un.nU b ob _ z
      obtain⟨e1,_⟩:=hok b _ z
      obtain⟨e2,_⟩:=hok' b _ z2
      rw[e] at e1;cases e1
      exact e2
 cases hk:K.lookup a with
 |some o=>
  -- the script is one of the module's own objects
  have e:=KX a o hk
  rw[ha] at e
  cases e
  refine core (cO K lams) (λb=>?_) (.inr ⟨_,vs.toArray,_,hk,rfl,rfl,rfl,by rw[List.size_toArray,lenV];exact hl,by simpa using rv⟩) (λb u z=>?_) (λb z=>?_) (λz=>?_) λy c Pt hy hty=>wX hty (λz hz=>hone z y hz hy) hy
  ·cases q:cO K lams b with
   |none=>exact .inl rfl
   |some u=>obtain⟨y,c,_,_,rfl⟩:=aC q;exact .inr (.inr ⟨_,rfl⟩)
  ·obtain⟨y,c,hy,hty,rfl⟩:=aC z
   exact⟨#[],(htb y c b hy hty).2.1,trivial,λpos cv z=>by cases z⟩
  ·cases q:cO K lams b with
   |none=>exact absurd q z
   |some u=>obtain⟨y,c,hy,hty,_⟩:=aC q;exact .inr ⟨y,c,hy,hty⟩
  ·cases q:cO K lams a with
   |none=>exact absurd q z
   |some u=>
    obtain⟨y,c,hy,hty,_⟩:=aC q
    have e2:=(htb y c a hy hty).2.1
    rw[ha] at e2;cases e2
 |none=>
  refine core (λb=>if b=a then some (.bI {cls:=.type "list",data:=.seq vs.toArray} (.lst (ns.map V.int))) else cO K lams b) (λb=>?_) (.inl (.inr ⟨{cls:=.type "list",data:=.seq vs.toArray},if_pos rfl⟩)) (λb u z=>?_) (λb z=>?_) (λ_=>hk) λy c Pt hy hty=>?_
  ·by_cases hb:b=a
   ·exact .inr (.inl ⟨_,_,if_pos hb⟩)
   ·cases q:cO K lams b with
    |none=>exact .inl ((if_neg hb).trans q)
    |some u=>obtain⟨y,c,_,_,rfl⟩:=aC q;exact .inr (.inr ⟨_,(if_neg hb).trans q⟩)
  ·by_cases hb:b=a
   ·have z':=(if_pos hb).symm.trans z
    cases z'
    subst hb
    exact⟨ha,by rw[List.length_map];exact hl,vs,_,rv,ha⟩
   ·have z':=(if_neg hb).symm.trans z
    obtain⟨y,c,hy,hty,rfl⟩:=aC z'
    exact⟨#[],(htb y c b hy hty).2.1,trivial,λpos cv z=>by cases z⟩
  ·by_cases hb:b=a
   ·exact .inl hb
   ·cases q:cO K lams b with
    |none=>exact absurd ((if_neg hb).trans q) z
    |some u=>obtain⟨y,c,hy,hty,_⟩:=aC q;exact .inr ⟨y,c,hy,hty⟩
  ·have ne:Pt≠a:=fun z=>by
    subst z
    have e2:=(htb y c _ hy hty).2.1
    rw[ha] at e2;cases e2
   exact(if_neg ne).trans (wX hty (λz hz=>hone z y hz hy) hy)
end L2
namespace L2
open PySem PySem.Spec PyProof.Rows
def Ig{p:Program}{loose:List Str}{mean:ExcName->Option Value}{mg mb:Str->Option Value}{h:Heap}{K:PySem.W.Frag}{d:DefRec}{x:Str}{c P:Addr}(T:Top p loose mean mg mb h)(X:K.In h)(hr:(recsOf p).find? (λe=>e.name== x)=some d)(ht:PySem.W.tabIn K x=some (c,P)) :
 PySem.W.CodeHd h c P/\h.get? P=some (PySem.W.tabObj #[])/\h.BuiltinsAt mg P:=by
 obtain⟨h1,h2⟩:=PySem.W.tab_of T X hr ht
 obtain⟨bm,ob,b1,b2,b3,b4,b5,b6⟩:=T.bmain
 have hbP:bm≠P:=λq=>by rw[q,h2] at b3;cases b3;cases b4
 have hbG:bm≠mainGlobals:=λq=>by
  obtain⟨o,es,ep,e,hd,_⟩:=T.g
  rw[q,e] at b3;cases b3;rw[hd] at b6;cases b6
 exact⟨h1,h2,bm,ob,b1,b2,hbG,hbP,b3,b4,b5,b6⟩
def Ih{l:PySem.W.OpenLaw}{n k:Nat}{q:Program}{loose:List Str}{XP:(Str->Option Value)->Heap->Prop}{YP:World->Heap->Prop}{d:DefRec}{K:Params->PySem.W.Frag}{CX:World->h_}{sp:World->Sp}{x:Str}
 (hn:l.most=some n)(hn2:n<=sizeLine)(hdf:d.params.defaults=[])(hr:ŗ k callerA)
 (hY:∀(w:World) (h:Heap),YP w h->(K w.params).In h)
 (F:∀(w:World) (mg:Str→Option Value) (fa:Addr) (h:Heap),(K w.params).In h→h.Ns mainGlobals mg→mg d.name=some (.ref fa)→
   ∃fd:FuncData,(∀(s:Shared) (u:Value),BindsTo s fd ⟨[u],[]⟩ [(x,u)])/\
    ∀base:Heap,(K w.params).In base->base.Ns mainGlobals mg->ī l.prog w (K w.params) mg base (CX w) k fa fd [x] (sp w))
 (hsp:∀(w:World) (H:Hp) (a:Addr) (ns:List Int),ns.length<=n->Only H->Ř (K w.params) H a (ns.map V.int)->sp w [.ref a] H (λv _=>v=.bl true) λ_ _ _=>False)
 (Wc:∀(w:World) (H:Hp) (s:Shared) (e:Value) (s':Shared),CX w [] H s (λ_ _ _=>False) e s'->False)
 (hnt:lams≠[]->∀w:World,PySem.W.noTabs (K w.params)=true:=by intro z;exact absurd rfl z)(hone:∀y z,y∈lams->z∈lams->y=z:=by simp[lams])(hrec:∀y,y∈lams->∃d,(recsOf q).find? (λe=>e.name== y)=some d:=by simp[lams]) :
 PySem.W.WalkO q loose XP YP l.row.toRowW d [] (λf vs=>PySem.call f vs):=by
 refine Att.sW hn hdf λw s₀ s₁ mg mb fa o pm cd doc a vs ns G Y ho hd hcd hmg hobj hints hlen hg=>?_
 have KX:=hY w _ Y
 obtain⟨fd,hb,hF⟩:=F w mg fa _ KX G.T.g hmg
 exact BX KX G.T.g G.T.b G.T.builtins G.T.nolimit hg hobj hints (Nat.le_trans hlen hn2) hr hF hb (λH hO hS=>hsp w H a ns hlen hO hS) (λH e s'=>Wc w H s₁ e s') (λz=>hnt z w) hone λy c Pt hy hty=>let ⟨_,hr'⟩:=hrec y hy;Ig G.T KX hr' hty
end L2
namespace L2
open PySem PySem.Spec PyProof.Rows
def inClass(s:Stmt)(j:Nat):Stmt:=match s with
 | .ClassDef _ _ _ body _ _ _ _ _ _ _=>body.getD j (.Pass ⟨0,0,0,0⟩)
 |_=>.Pass ⟨0,0,0,0⟩
def ŧ(s:Stmt):Arguments:=match s with
 | .FunctionDef _ a _ _ _ _ _ _ _ _=>a
 |_=> {posonlyargs:=[],args:=[],vararg:=none,kwonlyargs:=[],kw_defaults:=[],kwarg:=none,defaults:=[]}
def ŉ(s:Stmt):List Stmt:=match s with
 | .FunctionDef _ _ b _ _ _ _ _ _ _=>b
 |_=>[]
def Ć(s:Stmt):Scope:=match s with
 | .FunctionDef _ _ _ _ _ _ sc _ _ _=>sc
 |_=> {kind:=.function,names:=[],isGenerator:=false,isCoroutine:=false}
abbrev aR:h_:=λ_ _ _ _ _ _=>False
structure Ii(K:PySem.W.Frag)(x qual:Str)(st:Stmt)(f:Addr)(fd:FuncData):Prop where
 ex:∃(oc:Value) (od:Option Addr) (kV doc pm:Value) (an:Option Addr) (cdv ct:Value) (osl:Array (Option Value)),
   fd=PySem.W.fnOf x qual (ŧ st) (ŉ st) (Ć st) .none kV doc pm an cdv ct/\K.lookup f=some ⟨oc,od,.func fd,osl⟩/\PySem.W.codeIn K cdv qual=true
 kp:PySem.W.keepIn K (.ref f)=true
section
variable{P:Program}{w:World}{K:PySem.W.Frag}{mg:Str->Option Value}{base:Heap}
def Ii.binds{x qual:Str}{st:Stmt}{f:Addr}{fd:FuncData}{ps:List Str}(F:Ii K x qual st f fd)
 (h:∀(kV doc pm:Value) (an:Option Addr) (cdv ct:Value) (us:List Value),us.length=ps.length->bindArgs (PySem.W.fnOf x qual (ŧ st) (ŉ st) (Ć st) .none kV doc pm an cdv ct) ⟨us,[]⟩=pure (ps.zip us)):Binds K fd ps []:=by
 obtain⟨oc,od,kV,doc,pm,an,cdv,ct,osl,rfl,lk,hcd⟩:=F.ex
 exact .all (h kV doc pm an cdv ct)
def BZ{x qual:Str}{st:Stmt}{f:Addr}{oc:Value}{od an:Option Addr}{osl:Array (Option Value)}{kV doc pm cdv ct:Value}(l:K.lookup f=some ⟨oc,od,.func (PySem.W.fnOf x qual (ŧ st) (ŉ st) (Ć st) .none kV doc pm an cdv ct),osl⟩)
 (c:PySem.W.codeIn K cdv qual=true)(k:PySem.W.keepIn K (.ref f)=true):Ii K x qual st f (PySem.W.fnOf x qual (ŧ st) (ŉ st) (Ć st) .none kV doc pm an cdv ct):=⟨⟨oc,od,kV,doc,pm,an,cdv,ct,osl,rfl,l,c⟩,k⟩
end
section
variable{X:Cx}
def pv(i:Nat){x:Str}{pos:Pos}(hN:X.N[i]?=some x:=by rfl)(hv:sE X.env.scope x:=by first|exact Or.inl rfl|exact Or.inr (Or.inl rfl)|exact Or.inr (Or.inr rfl))(hd:(x== ("__debug__" :Str))=false:=by decide)
 (hcd:(x== ("__classdict__" :Str))=false:=by decide):PE X (.Name x pos) (nY i):=Ů hN hv hd hcd
end
def Same(H H':Hp):Prop:=∀b o,H b=some o->H' b=some o
def Same.refl(H:Hp):Same H H:=λ_ _ h=>h
def Same.trans{H H1 H2:Hp}(a:Same H H1)(b:Same H1 H2):Same H H2:=λc o h=>b c o (a c o h)
def Same.free{H H':Hp}(e:Same H H'){l:Addr}(h:H' l=Option.none):H l=Option.none:=by
 cases q:H l with
 |none=>rfl
 |some o=>
  rw[e l o q] at h
  cases h
def Same.seq{K:PySem.W.Frag}{H H':Hp}{a:Addr}{xs:List V}(e:Same H H')(h:Ř K H a xs):Ř K H' a xs:=by
 rcases h with(h|⟨o,h⟩)|h
 ·exact .inl (.inl (e _ _ h))
 ·exact .inl (.inr ⟨o,e _ _ h⟩)
 ·exact .inr h
end L2
namespace M2
open PySem PySem.Spec PyProof.Rows L2
section
variable{X:Cx}{a b c e:Expr}{ta tb tc te:TE}{pos:Pos}
def PE.wk{t t':TE}(h:PE X e t)(i:∀σ H Q,t' σ H Q->t σ H Q):PE X e t':=λpins s σ H Q I q=>h pins s σ H Q I (i σ H Q q)
def PS.wk{st:Stmt}{t t':TS}(h:PS X st t)(i:∀D σ H,t' D σ H->t D σ H):PS X st t':=λpins s σ H D I q=>h pins s σ H D I (i D σ H q)
def Š.wk{f:Value->Value->Sem Value}{r r':R2}(h:Š X f r)(i:∀x y H Q,r' x y H Q->r x y H Q):Š X f r':=λpins s σ H x y v u Q I rx ry q=>h pins s σ H x y v u Q I rx ry (i x y H Q q)
def HJ.wk{f:Value->Sem Value}{r r':V->Hp->VK->Prop}(h:HJ X f r)(i:∀x H Q,r' x H Q->r x H Q):HJ X f r':=λpins s σ H x v Q I rx q=>h pins s σ H x v Q I rx (i x H Q q)
def ŕ.wk{f:Value}{r r':List V->Hp->VK->Prop}(h:ŕ X f r)(i:∀xs H Q,r' xs H Q->r xs H Q):ŕ X f r':=λpins s σ H xs us Q I r q=>h pins s σ H xs us Q I r (i xs H Q q)
def vK.wk{r r':R2}(h:vK X r)(i:∀x y H Q,r' x y H Q->r x y H Q):vK X r':=λva sl pins s σ H x y v u Q I rx ry q=>h va sl pins s σ H x y v u Q I rx ry (i x y H Q q)
def wW.wk{r r':V->Option Int->Option Int->Hp->VK->Prop}(h:wW X r)(i:∀x lo hi H Q,r' x lo hi H Q->r x lo hi H Q):wW X r':=λpins s σ H x v vl vu lo hi sl Q I rx hs pl pu q=>h pins s σ H x v vl vu lo hi sl Q I rx hs pl pu (i x lo hi H Q q)
def QC(i:Nat):TE:=λσ H Q=>match σ[i]? with
 |some (some v)=>Q v H
 |_=>False
def Ij{i:Nat}{σ:L2.St}{H:Hp}{Q:VK}(h:QC i σ H Q):nY i σ H Q:=by
 unfold QC at h
 split at h
 ·exact⟨_,by assumption,h⟩
 ·exact h.elim
def mv(i:Nat){x:Str}{pos:Pos}(hN:X.N[i]?=some x:=by rfl)(hv:sE X.env.scope x:=by first|exact Or.inl rfl|exact Or.inr (Or.inl rfl)|exact Or.inr (Or.inr rfl))(hd:(x== ("__debug__" :Str))=false:=by decide)
 (hcd:(x== ("__classdict__" :Str))=false:=by decide):PE X (.Name x pos) (QC i):=PE.wk (Ů hN hv hd hcd) λ_ _ _ h=>Ij h
def Wd(x:V)(k:Bool->Prop):Prop:=match x with
 | .bl c=>k c
 |_=>False
def iu{x:V}{k:Bool->Prop}(h:Wd x k):∃c,x=.bl c/\k c:=by
 cases x with
 |bl c=>exact⟨c,rfl,h⟩
 |_=>exact h.elim
def B_(t:TE):TT:=λσ H Q=>t σ H λx H1=>Wd x λc=>Q c H1
def QD{op:CmpOp}{r:R2}(ho:Š X (compareOp op) r)(ha:PE X a ta)(hb:PE X b tb)(hm:behindInMarks op b=false):PT X (.Compare a [op] [b] pos) (B_ (Qh r ta tb)):=by
 intro pins s σ H Q I h
 refine wpAny_isTrue_Compare1 (ļ (ha pins s σ H _ I h) λv s1 ⟨x,H1,I1,r1,q1⟩=>ļ (hb pins s1 σ H1 _ I1 q1) λu s2 ⟨y,H2,I2,r2,q2⟩=>
  ļ (ho pins s2 σ H2 x y v u _ I2 r1 r2 q2) λc s3 ⟨z,H3,I3,r3,q3⟩=>?_) hm
 obtain⟨k,e,q3⟩:=iu q3
 subst e
 cases r3
 exact wpAny_truthy_bool ⟨H3,I3,q3⟩
def vL(r r':R2)(ta tb tc:TE):TE:=λσ H Q=>ta σ H λx H1=>tb σ H1 λy H2=>r x y H2 λz H3=>Wd z λk=>
 (if k=true then tc σ H3 λw' H4=>r' y w' H4 Q else Q (.bl false) H3)
def Ca{op op':CmpOp}{r r':R2}(ho:Š X (compareOp op) r)(ho':Š X (compareOp op') r')(ha:PE X a ta)(hb:PE X b tb)(hc:PE X c tc)
 (hm:lastMarks [op,op'] [b,c]=false:=by with_unfolding_all rfl):PE X (.Compare a [op,op'] [b,c] pos) (vL r r' ta tb tc):=by
 intro pins s σ H Q I h
 refine Compare_chain (ļ (ha pins s σ H _ I h) λv s1 ⟨x,H1,I1,r1,q1⟩=>chain_link (ļ (hb pins s1 σ H1 _ I1 q1) λu s2 ⟨y,H2,I2,r2,q2⟩=>
  ļ (ho pins s2 σ H2 x y v u _ I2 r1 r2 q2) λd s3 ⟨z,H3,I3,r3,q3⟩=>?_)) hm
 obtain⟨k,e,q3⟩:=iu q3
 subst e
 cases r3
 refine wpAny_truthy_bool ?_
 cases k with
 |false=>exact ite_ff ⟨.bl false,H3,I3,rfl,q3⟩
 |true=>exact ite_tt (chain_last (ļ (hc pins s3 σ H3 _ I3 q3) λw' s4 ⟨z',H4,I4,r4,q4⟩=>ho' pins s4 σ H4 y z' u w' Q I4 r2 r4 q4))
def Cd{op op':CmpOp}{r r':R2}(ho:Š X (compareOp op) r)(ho':Š X (compareOp op') r')(ha:PE X a ta)(hb:PE X b tb)(hc:PE X c tc)
 (hm:lastMarks [op,op'] [b,c]=false:=by with_unfolding_all rfl):PT X (.Compare a [op,op'] [b,c] pos) (B_ (vL r r' ta tb tc)):=by
 intro pins s σ H Q I h
 refine isTrue_chain (ļ (ha pins s σ H _ I h) λv s1 ⟨x,H1,I1,r1,q1⟩=>test_link (ļ (hb pins s1 σ H1 _ I1 q1) λu s2 ⟨y,H2,I2,r2,q2⟩=>
  ļ (ho pins s2 σ H2 x y v u _ I2 r1 r2 q2) λd s3 ⟨z,H3,I3,r3,q3⟩=>?_)) hm
 obtain⟨k,e,q3⟩:=iu q3
 subst e
 cases r3
 refine wpAny_truthy_bool ?_
 cases k with
 |false=>exact ite_ff ⟨H3,I3,q3⟩
 |true=>
  refine ite_tt (test_last (ļ (hc pins s3 σ H3 _ I3 q3) λw' s4 ⟨z',H4,I4,r4,q4⟩=>ļ (ho' pins s4 σ H4 y z' u w' _ I4 r2 r4 q4) λd' s5 ⟨z2,H5,I5,r5,q5⟩=>?_))
  obtain⟨k2,e2,q5⟩:=iu q5
  subst e2
  cases r5
  exact wpAny_truthy_bool ⟨H5,I5,q5⟩
def Wf(ta tb:TE):TE:=λσ H Q=>ta σ H λx H1=>Wd x λc=>if c=true then tb σ H1 Q else Q (.bl false) H1
def Wg(ta:TE):TE:=λσ H Q=>ta σ H λx H1=>Wd x λc=>Q (.bl (!c)) H1
variable{rest:List Expr}
def QF(ha:PE X a ta)(hb:PE X (.BoolOp .And (b::rest) pos) tb):PE X (.BoolOp .And (a::b::rest) pos) (Wf ta tb):=by
 intro pins s σ H Q I h
 refine BoolOp_and (ļ (ha pins s σ H _ I h) λv s1 ⟨x,H1,I1,r1,q1⟩=>?_)
 obtain⟨c,rfl,q1⟩:=iu q1
 cases r1
 refine wpAny_truthy_bool ?_
 cases c with
 |true=>exact hb pins s1 σ H1 Q I1 q1
 |false=>exact⟨.bl false,H1,I1,rfl,q1⟩
def QG(ha:PE X a ta):PE X (.UnaryOp .Not a pos) (Wg ta):=by
 intro pins s σ H Q I h
 refine UnaryOp_ (ļ (ha pins s σ H _ I h) λv s1 ⟨x,H1,I1,r1,q1⟩=>?_)
 obtain⟨c,rfl,q1⟩:=iu q1
 cases r1
 exact not_of (wpAny_truthy_bool ⟨.bl (!c),H1,I1,rfl,q1⟩)
def mI(C:Int->Int->Prop)(g:Int->Int->V):R2:=λx y H Q=>match x,y with
 | .int i,.int j=>C i j/\Q (g i j) H
 |_,_=>False
def Ik(g:Int->Int->V):R2:=λx y H Q=>match x,y with
 | .int i,.int j=>Q (g i j) H
 |_,_=>False
def wY{C:Int->Int->Prop}{g:Int->Int->V}(x y:V)(H:Hp)(Q:VK)(h:mI C g x y H Q):rI C g x y H Q:=by
 cases x with
 |int i=>
  cases y with
  |int j=>exact⟨i,j,rfl,rfl,h.1,h.2⟩
  |_=>exact h.elim
 |_=>exact h.elim
def vM{g:Int->Int->V}(x y:V)(H:Hp)(Q:VK)(h:Ik g x y H Q):Qi g x y H Q:=by
 cases x with
 |int i=>
  cases y with
  |int j=>exact⟨i,j,rfl,rfl,h⟩
  |_=>exact h.elim
 |_=>exact h.elim
def Wh:R2:=λx y H Q=>match x,y with
 | .int i,.int j=>Q (.int (i+j)) H
 | .str i,.str j=>i.length+j.length<=sizeLine/\Q (.str (i++j)) H
 |_,_=>False
def QH:Š X (binaryOp .Add) Wh:=Š.wk (Qm.or vC) λx y H Q h=>by
 cases x with
 |int i=>
  cases y with
  |int j=>exact .inl ⟨i,j,rfl,rfl,h⟩
  |_=>exact h.elim
 |str i=>
  cases y with
  |str j=>exact .inr ⟨i,j,rfl,rfl,h.1,h.2⟩
  |_=>exact h.elim
 |_=>exact h.elim
def QJ:Š X (binaryOp .Sub) (Ik λi j=>.int (i-j)):=Š.wk Qn vM
def oZ(i j:Int):Prop:=Ql i j\/(Builtin.Int.intBits i<=1048576/\Builtin.Int.intBits j<=1048576)
theorem oZ.ok{i j:Int}(h:oZ i j):IntMulOk i j:=by
 rcases h with h|⟨h1,h2⟩
 ·exact h.ok
 ·exact IntMulOk.of_le h1 h2 (by decide)
def QK:Š X (binaryOp .Mult) (mI oZ λi j=>.int (i*j)):=Š.wk (Ho (C:=oZ) (g:=λi j=>i*j) λ_ _ _ _ _ _ _ hc q=>mul_int q hc.ok) wY
def zP(_ j:Int):Prop:=j≠0/\Builtin.Int.intBits j<=8000
def zP.py{i j:Int}(h:zP i j):Builtin.divisionGoesByPylong i j=false:=by
 refine PyProof.noPylong_of_log2 ?_
 have hb:=intBits_le_iff.mp h.2
 have h0:j.natAbs≠0:=by have:=h.1;omega
 exact Nat.lt_of_lt_of_le ((Nat.log2_lt h0).mpr hb) (by decide)
def Il:Š X (binaryOp .FloorDiv) (mI zP λi j=>.int (i.fdiv j)):=Š.wk (Ho (C:=zP) (g:=λi j=>i.fdiv j) λ_ _ _ _ _ _ _ hc q=>floordiv_int hc.1 q (.inl hc.py)) wY
def QL:Š X (binaryOp .Mod) (mI (λ_ j=>j≠0) λi j=>.int (i.fmod j)):=Š.wk HN wY
def Ŷ:Š X (binaryOp .Pow) (mI Qk λi j=>.int (i ^ j.toNat)):=Š.wk Qo wY
def jd:Š X (compareOp .Lt) (Ik λi j=>.bl (decide (i<j))):=Š.wk VL vM
def dM:Š X (compareOp .LtE) (Ik λi j=>.bl (decide (i<=j))):=Š.wk VN vM
def mU(g:Int->V):V->Hp->VK->Prop:=λx H Q=>match x with
 | .int i=>Q (g i) H
 |_=>False
def QM:HJ X (unaryOp .USub) (mU λi=>.int (-i)):=HJ.wk Qp λx H Q h=>by
 cases x with
 |int i=>exact⟨i,rfl,h⟩
 |_=>exact h.elim
def QS(K:PySem.W.Frag):List V->Hp->VK->Prop:=λxs H Q=>match xs with
 | [.str y]=>y.length<=sizeLine/\Q (.int (y.length:Int)) H
 | [.ref p]=>∃ys,(Ř K H p ys\/bx K H p ys)/\Q (.int (ys.length:Int)) H
 |_=>False
def bM:ŕ X (.builtin "len") (QS X.K):=ŕ.wk Bx λxs H Q h=>by
 unfold QS at h
 split at h
 ·exact⟨_,_,rfl,⟨h.1,rfl⟩,h.2⟩
 ·obtain⟨ys,h1,h2⟩:=h
  refine⟨_,ys.length,rfl,?_,h2⟩
  rcases h1 with h1|h1
  ·exact .inl ⟨ys,h1,rfl⟩
  ·exact .inr ⟨ys,h1,rfl⟩
 ·exact h.elim
def mIx(K:PySem.W.Frag):R2:=λx y H Q=>match x,y with
 | .ref p,.int i=>∃xs v,(Ř K H p xs\/bx K H p xs)/\nZ xs i=some v/\Q v H
 | .str z,.int i=>∃c,z.length<=sizeLine/\nZ z.cps.toList i=some c/\Q (.str ⟨#[c]⟩) H
 |_,_=>False
def Wi:vK X (mIx X.K):=vK.wk BW λx y H Q h=>by
 cases x with
 |ref p=>
  cases y with
  |int i=>
   obtain⟨xs,v,h1,h2,h3⟩:=h
   rcases h1 with h1|h1
   ·exact .inl ⟨p,xs,i,v,rfl,rfl,h1,h2,h3⟩
   ·exact .inr (.inl ⟨p,xs,i,v,rfl,rfl,h1,h2,h3⟩)
  |_=>exact h.elim
 |str z=>
  cases y with
  |int i=>
   obtain⟨c,h1,h2,h3⟩:=h
   exact .inr (.inr ⟨z,i,c,rfl,rfl,h1,h2,h3⟩)
  |_=>exact h.elim
 |_=>exact h.elim
def iOf(x:V)(k:Int->Prop):Prop:=match x with
 | .int i=>k i
 |_=>False
def Wj(t:TE):TO:=λσ H Q=>t σ H λx H1=>iOf x λi=>Q (some i) H1
def Ce(h:PE X e te):PO X (some e) (Wj te):=by
 intro pins s σ H Q I hw
 rw[evalPart_some]
 refine ļ (h pins s σ H _ I hw) λu s1 ⟨x,H1,I1,r1,q1⟩=>?_
 cases x with
 |int i=>
  obtain⟨t,rfl⟩:=r1
  exact⟨some i,H1,I1,.int i t,q1⟩
 |_=>exact q1.elim
def Zbd(K:PySem.W.Frag):V->Option Int->Option Int->Hp->VK->Prop:=λx lo hi H Q=>match x with
 | .ref a=>∃xs,Ř K H a xs/\∀p,H p=none->Q (.ref p) (upd H p (.lst (sU xs lo hi)))
 |_=>False
def Cg:wW X (Zbd X.K):=wW.wk Ie λx lo hi H Q h=>by
 cases x with
 |ref a=>
  obtain⟨xs,h1,h2⟩:=h
  exact⟨a,xs,rfl,h1,h2⟩
 |_=>exact h.elim
end
end M2
namespace M2
open PySem PySem.Spec PyProof.Rows L2
section
variable{X:Cx}{tg:Expr}
end
mutual
def Rp(K:PySem.W.Frag)(H:Hp):PyData->V->Prop
 | .none,v=>v=.non
 | .bool b,v=>v=.bl b
 | .int i,v=>v=.int i
 | .str x,v=>v=.str x
 | .tuple ds,v=>∃a xs,v=.ref a/\bx K H a xs/\nR K H ds xs
 | .list ds,v=>∃a xs,v=.ref a/\Ř K H a xs/\nR K H ds xs
 | .dict _,_=>False
def nR(K:PySem.W.Frag)(H:Hp):List PyData->List V->Prop
 | [],xs=>xs=[]
 |d::ds,xs=>∃x r,xs=x::r/\Rp K H d x/\nR K H ds r
end
def Same.tup{K:PySem.W.Frag}{H H':Hp}{a:Addr}{xs:List V}(e:Same H H')(h:bx K H a xs):bx K H' a xs:=by
 rcases h with(h|⟨o,h⟩)|h
 ·exact .inl (.inl (e _ _ h))
 ·exact .inl (.inr ⟨o,e _ _ h⟩)
 ·exact .inr h
theorem Same.upd{H:Hp}{p:Addr}{o:HO}(h:H p=none):Same H (upd H p o):=λb u e=>by
 rw[ċ (ĩ e h)]
 exact e
mutual
theorem Rp.same{K:PySem.W.Frag}{H H':Hp}(e:Same H H'):∀(d:PyData) (v:V),Rp K H d v->Rp K H' d v
 | .none,_,h=>by unfold Rp at h ⊢;exact h
 | .bool _,_,h=>by unfold Rp at h ⊢;exact h
 | .int _,_,h=>by unfold Rp at h ⊢;exact h
 | .str _,_,h=>by unfold Rp at h ⊢;exact h
 | .tuple ds,_,h=>by
   unfold Rp at h ⊢
   obtain⟨a,xs,h1,h2,h3⟩:=h
   exact⟨a,xs,h1,Same.tup e h2,nR.same e ds xs h3⟩
 | .list ds,_,h=>by
   unfold Rp at h ⊢
   obtain⟨a,xs,h1,h2,h3⟩:=h
   exact⟨a,xs,h1,e.seq h2,nR.same e ds xs h3⟩
 | .dict _,_,h=>by unfold Rp at h;exact h.elim
theorem nR.same{K:PySem.W.Frag}{H H':Hp}(e:Same H H'):∀(ds:List PyData) (xs:List V),nR K H ds xs->nR K H' ds xs
 | [],_,h=>by unfold nR at h ⊢;exact h
 |d::ds,_,h=>by
  unfold nR at h ⊢
  obtain⟨x,r,h1,h2,h3⟩:=h
  exact⟨x,r,h1,Rp.same e d x h2,nR.same e ds r h3⟩
end
section
variable{X:Cx}{pins:List (Addr×Obj)}{σ:L2.St}{H:Hp}{s:Shared}
mutual
theorem Rp.reads(I:Inv X pins σ H s):∀(d:PyData) (v:V) (u:Value),Rp X.K H d v->RelV v u->∃as,Reads s.heap u d as
 | .none,v,u,h,r=>by
   unfold Rp at h;subst h;cases r;exact⟨_,.none⟩
 | .bool b,v,u,h,r=>by
   unfold Rp at h;subst h;cases r;exact⟨_,.bool b⟩
 | .int i,v,u,h,r=>by
   unfold Rp at h;subst h;obtain⟨t,rfl⟩:=r;exact⟨_,.int i t⟩
 | .str x,v,u,h,r=>by
   unfold Rp at h;subst h;obtain⟨t,rfl⟩:=r;exact⟨_,.str x t⟩
 | .tuple ds,v,u,h,r=>by
   unfold Rp at h
   obtain⟨a,xs,h1,h2,h3⟩:=h
   subst h1
   cases r
   obtain⟨its,rv,⟨o,e,hc,n,hd⟩,hz⟩:=I.tuple h2
   obtain⟨as,ra⟩:=nR.reads I ds xs its h3 rv
   exact⟨_,.tuple e hc hd (by simpa using ra)⟩
 | .list ds,v,u,h,r=>by
   unfold Rp at h
   obtain⟨a,xs,h1,h2,h3⟩:=h
   subst h1
   cases r
   obtain⟨its,rv,⟨o,n,e,hc,hdd,hd⟩,hz⟩:=I.list h2
   obtain⟨as,ra⟩:=nR.reads I ds xs its h3 rv
   exact⟨_,.list e hc hd (by simpa using ra)⟩
 | .dict _,_,_,h,_=>by unfold Rp at h;exact h.elim
theorem nR.reads(I:Inv X pins σ H s):∀(ds:List PyData) (xs:List V) (us:List Value),nR X.K H ds xs->Vals xs us->∃as,ReadsAll s.heap us ds as
 | [],xs,us,h,r=>by
   unfold nR at h;subst h;cases r;exact⟨_,.nil⟩
 |d::ds,xs,us,h,r=>by
  unfold nR at h
  obtain⟨x,q,h1,h2,h3⟩:=h
  subst h1
  cases r with
  |cons r1 r2=>
   obtain⟨as,ra⟩:=Rp.reads I d x _ h2 r1
   obtain⟨bs,rb⟩:=nR.reads I ds q _ h3 r2
   exact⟨_,.cons ra rb⟩
end
end
def Im(K:PySem.W.Frag)(neg:Bool):R2:=λx y H Q=>∃d e,Rp K H d x/\Rp K H e y/\d.canLay0=true/\e.canLay0=true/\min d.depth e.depth<=60/\Q (.bl (if neg then !PyData.eqv d e else PyData.eqv d e)) H
section
variable{X:Cx}
def Ci(hu:X.A.units+64<cLine):Š X (compareOp .Eq) (Im X.K false):=by
 intro pins s σ H x y v u Q I rx ry h
 obtain⟨d,e,h1,h2,h3,h4,h5,q⟩:=h
 obtain⟨as,ra⟩:=Rp.reads I d x v h1 rx
 obtain⟨bs,rb⟩:=Rp.reads I e y u h2 ry
 exact SeqAt.compareEq_reads ra rb h3 h4 (by omega) ⟨.bl _,H,I,rfl,q⟩
def Cj(hu:X.A.units+64<cLine):Š X (compareOp .NotEq) (Im X.K true):=by
 intro pins s σ H x y v u Q I rx ry h
 obtain⟨d,e,h1,h2,h3,h4,h5,q⟩:=h
 obtain⟨as,ra⟩:=Rp.reads I d x v h1 rx
 obtain⟨bs,rb⟩:=Rp.reads I e y u h2 ry
 exact SeqAt.compareNe_reads ra rb h3 h4 (by omega) ⟨.bl _,H,I,rfl,q⟩
end
section
variable{K:PySem.W.Frag}
end
end M2
namespace M3
open PySem PySem.Spec PyProof.Rows L2 M2
def wZ{P:Program}{w:World}{H:Hp}{h h':Heap}{C:Addr}(x:cJ P w H h)(hC:H C=none)(k:∀b u,b≠C->h.get? b=some u->h'.get? b=some u):cJ P w H h':=λa o e=>
 (x a o e).stay (fun b u hb q=>k b u (by
   rcases hb with hb|hb
   ·rw[hb];exact ĩ e hC
   ·exact ĩ hb hC) q) (λ_ q=>q) λ_ _ q=>q
theorem eZ{env:Env}:∀(ns:List (Str×NameKind)) (cs:List (Str×Addr)),(∀y∈ns,y.2=.free->∃c,env.cells.lookup y.1=some c)->(∀x c,cs.lookup x=some c->env.cells.lookup x=some c)->
 ∃cl,(forIn ns cs (λ(x:Str×NameKind) r=>if(x.2== .free)=true then(do let c <-cellOf env x.1;pure (ForInStep.yield ((x.1,c)::r))) else pure (ForInStep.yield r)):Sem (List (Str×Addr)))=pure cl/\
  (∀x c,cl.lookup x=some c->env.cells.lookup x=some c)/\(∀x,(∃c,cs.lookup x=some c)->∃c,cl.lookup x=some c)/\∀y∈ns,y.2=.free->∃c,cl.lookup y.1=some c
 | [],cs,_,h2=>⟨cs,rfl,h2,λ_ z=>z,λ_ z=>nomatch z⟩
 |(n,k)::ns,cs,h1,h2=>by
  by_cases hk:k=.free
  ·subst hk
   obtain⟨c,hc⟩:=h1 (n,.free) List.mem_cons_self rfl
   have e:cellOf env n=pure c:=by unfold cellOf;rw[hc]
   have h2':∀x d,((n,c)::cs).lookup x=some d->env.cells.lookup x=some d:=λx d q=>by
    rw[List.lookup_cons] at q
    cases hx:x== n with
    |true=>
     rw[hx] at q
     have:x=n:=eq_of_beq hx
     subst this
     cases q
     exact hc
    |false=>
     rw[hx] at q
     exact h2 x d q
   obtain⟨cl,q1,q2,q3,q4⟩:=eZ ns ((n,c)::cs) (λy hy=>h1 y (List.mem_cons_of_mem _ hy)) h2'
   refine⟨cl,?_,q2,λx ⟨d,hd⟩=>q3 x ?_,λy hy hf=>?_⟩
   ·rw[List.forIn_cons]
    simp only[beq_self_eq_true,if_true,e,pure_bind]
    exact q1
   ·rw[List.lookup_cons]
    cases hx:x== n with
    |true=>exact⟨c,rfl⟩
    |false=>exact⟨d,hd⟩
   ·rcases List.mem_cons.mp hy with rfl|hy
    ·exact q3 n ⟨c,by rw[List.lookup_cons,beq_self_eq_true]⟩
    ·exact q4 y hy hf
  ·have hb:(k== NameKind.free)=false:=by simpa using hk
   obtain⟨cl,q1,q2,q3,q4⟩:=eZ ns cs (λy hy=>h1 y (List.mem_cons_of_mem _ hy)) h2
   refine⟨cl,?_,q2,q3,λy hy hf=>?_⟩
   ·rw[List.forIn_cons]
    simp only[hb,Bool.false_eq_true,if_false,pure_bind]
    exact q1
   ·rcases List.mem_cons.mp hy with rfl|hy
    ·exact absurd hf hk
    ·exact q4 y hy hf
def fK{scope:Scope}{env:Env}(h:∀y∈scope.names,y.2=.free->∃c,env.cells.lookup y.1=some c) :
 ∃cl,closureFor scope env=pure cl/\(∀x c,cl.lookup x=some c->env.cells.lookup x=some c)/\∀y∈scope.names,y.2=.free->∃c,cl.lookup y.1=some c:=by
 obtain⟨cl,q1,q2,_,q4⟩:=eZ (env:=env) scope.names [] h (λx c z=>by simp at z)
 refine⟨cl,?_,q2,q4⟩
 unfold closureFor
 have e:(forIn scope.names [] (λ(x:Str×NameKind) (r:List (Str×Addr))=>match x with
  |(name,kind)=>if(kind== .free)=true then(do let a <-cellOf env name;pure (ForInStep.yield ((name,a)::r))) else pure (ForInStep.yield r)):Sem (List (Str×Addr)))=pure cl:=q1
 first
  |(simp only[bind_pure];exact q1)
  |(rw[show ∀(t:Sem (List (Str×Addr))),(do let r <-t;pure r)=t from λt=>by simp];exact q1)
  |(simp only[q1,pure_bind])
def aU(X:Cx)(N':List Str)(scope:Scope)(cl:List (Str×Addr))(C:Addr)(s:Shared)(H:Hp)(fp:List Addr):Cx where
 prog:=X.prog
 w:=X.w
 K:=X.K
 mg:=X.mg
 base:=X.base
 A:=X.A
 N:=N'
 s₀:= s
 H₀:= H
 env:=compEnvC scope cl C X.env
 outer:=X.stack
 stack:=X.stack
 ex:=fp
 fn:=λx=>scope.names.lookup x== some .cell
 calm:=X.calm
 pn:=[]
 xe:=λ_ _=>False
def fL(X:Cx)(sc scope:Scope):List Str->List Nat->Prop
 |x::xs,j::js=>X.N[j]?=some x/\(scope.names.lookup x=some .free/\(sc.names.lookup x=some .cell\/sc.names.lookup x=some .free))/\fL X sc scope xs js
 |_,[]=>True
 | [],_::_=>False
def cP(js:List Nat)(nl:Nat)(σ:L2.St):L2.St:=js.map (λj:Nat=>(σ[j]?).getD none)++List.replicate nl none
theorem o_{X:Cx}{sc scope:Scope}{σ:L2.St}{nl:Nat}:∀{N':List Str} {js:List Nat} {i:Nat} {x:Str} {v:V},fL X sc scope N' js->N'[i]?=some x->(cP js nl σ)[i]?=some (some v)->
 ∃j:Nat,X.N[j]?=some x/\σ[j]?=some (some v)/\scope.names.lookup x=some .free/\(sc.names.lookup x=some .cell\/sc.names.lookup x=some .free)
 |N',[],i,x,v,_,_,h=>by
  unfold cP at h
  rw[List.map_nil,List.nil_append,List.getElem?_replicate] at h
  split at h<;>cases h
 | [],_::_,_,_,_,c,_,_=>c.elim
 |y::N',j::js,0,x,v,c,h1,h2=>by
  obtain⟨c1,c2,_⟩:=c
  simp at h1
  subst h1
  have e:(σ[j]?).getD none=some v:=by simpa[cP] using h2
  refine⟨j,c1,?_,c2⟩
  cases q:σ[j]? with
  |none=>rw[q] at e;cases e
  |some o=>rw[q] at e;exact congrArg some e
 |y::N',j::js,i+1,x,v,c,h1,h2=>by
  exact o_ (N':=N') (js:=js) (i:=i) c.2.2 (by simpa using h1) (by simpa[cP] using h2)
section
variable{prog:Program}{w:World}{A:Around}{R:Result->Shared->Prop}{s:Shared}
def fM{elt target iter:Expr}{ifs:List Expr}{scope:Scope}{pos:Pos}{it acc:Value}{env:Env}(I:Nat->Shared->Prop)
 (turn:∀n s,I n s→wpAny (model prog w) A (pyNext it) (fun r s₁=>match r with
   |none=>R (.ok .next) s₁
   |some v=>wpAny (model prog w) A (letOwnedTupleGo target it v) (fun _ s₁'=>wpAny (model prog w) A (assign target env v) (fun _ s₂=>
     wpAny (model prog w) A (forIn ifs true λc r=>if r=true then do let ok <-isTrue c env (eval c env);pure (ForInStep.yield ok) else pure (ForInStep.yield r)) (λok s₃=>
      if ok=true then wpAny (model prog w) A (eval elt env) (λx s₄=>
       wpAny (model prog w) A (call (.builtin "list.append") [acc,x]) (λ_ s₅=>∃m,m<n/\I m s₅) (λ_ _=>False) s₄) (λ_ _=>False) s₃
      else ∃m,m<n/\I m s₃) (λ_ _=>False) s₂) (λ_ _=>False) s₁') (λ_ _=>False) s₁) (λ_ _=>False) s)
 (n:Nat)(h:I n s) :
 codeAny (model prog w) A (.compLoop (.ListComp elt [⟨target,iter,ifs,0⟩] scope pos) 0 it acc env) R s:=by
 refine codeAny_loop rfl I (λn s hI=>?_) n h
 show wpAny _ A ((compTurn (.ListComp elt [⟨target,iter,ifs,0⟩] scope pos) 0 it acc env).onRaise (λx=>do noteFrame x env;theTreesLotGoes x)) _ _ s
 refine wpAny_noted (wpAny_noRaise ?_)
 rw[compTurn_list]
 refine wpAny_bind (wpAny_standAt (wpAny_bind (wpAny_mono (turn n s hI) (λr s₁ h₁=>?_) λ_ _ h'=>h')))
 cases r with
 |none=>exact wpAny_pure h₁
 |some v=>
  refine wpAny_bind (wpAny_mono h₁ (λ_ s₁' h₁'=>?_) λ_ _ h'=>h')
  refine wpAny_bind (wpAny_mono h₁' (λ_ s₂ h₂=>wpAny_bind (wpAny_mono h₂ (λok s₃ h₃=>?_) λ_ _ h'=>h')) λ_ _ h'=>h')
  cases ok with
  |false=>exact wpAny_pure ⟨rfl,h₃⟩
  |true=>
   exact wpAny_bind (wpAny_bind (wpAny_mono h₃ (λx s₄ h₄=>wpAny_bind (wpAny_mono h₄ (λ_ s₅ h₅=>wpAny_pure (wpAny_pure ⟨rfl,h₅⟩)) λ_ _ h'=>h')) λ_ _ h'=>h'))
end
def Hq(X:Cx)(ifs:List Expr)(t:TT):Prop:=
 ∀(pins:List (Addr×Obj)) (s:Shared) (σ:L2.St) (H:Hp) (Q:Bool->Hp->Prop),Inv X pins σ H s->t σ H Q->
  wpAny (model X.prog X.w) X.A (forIn ifs true λc r=>if r=true then do let ok <-isTrue c X.env (eval c X.env);pure (ForInStep.yield ok) else pure (ForInStep.yield r)) (TP X pins σ Q) X.xe s
def Zbe:TT:=λ_ H Q=>Q true H
def Io{X:Cx}:Hq X [] Zbe:=λ_ _ _ H _ I h=>wpAny_tests_nil ⟨H,I,h⟩
def Ck(js:List Nat)(nl:Nat)(wi:TI)(g:TG)(tt:TT)(te:TE):TE:=λσ H Q=>wi σ H λJ H1=>∀D,H1 D=none->
 ∃W:Nat->Nat->L2.St->Hp->Prop,(∃m,W 0 m (cP js nl σ) (upd H1 D (.lst [])))/\∀i m σ' H',W i m σ' H'->
  (J.stop i H'∧Q (.ref D) H')∨(J.go i H'∧∃N:L2.St→Hp→Prop,(∀σ2 H2,N σ2 H2→∃m',m'<m∧W (i+1) m' σ2 H2)∧∀x H2,J.yld i H' x H2→g x σ' H2 fun σ2 H3=>tt σ2 H3 fun c H4=>
    if c=true then te σ2 H4 λy H5=>∃ys,H5 D=some (.lst ys)/\ys.length<sizeLine/\N σ2 (upd H5 D (.lst (ys ++ [y]))) else N σ2 H4)
section
variable{X:Cx}{elt tg iter:Expr}{ifs:List Expr}{scope:Scope}{pos:Pos}{wi:TI}{g:TG}{tt:TT}{te:TE}
theorem bN{env:Env}:∀{names:List (Str×NameKind)} {x:Str} {k:NameKind},(k=.cell\/k=.free)->
 (names.map λ(n,k)=>if(k== NameKind.free && env.scope.kind== .function && env.kindOf n== some .cell) then(n,NameKind.cell) else(n,k)).lookup x=some k->(x,NameKind.free)∈names\/(x,NameKind.cell)∈names
 | [],x,k,_,h=>by simp at h
 |(n,q)::r,x,k,hk,h=>by
  have ih:=@bN env r x k hk
  rw[List.map_cons] at h
  by_cases hx:x=n
  ·subst hx
   by_cases hf:q=.free
   ·subst hf
    exact .inl List.mem_cons_self
   ·have hb:(q== NameKind.free)=false:=by simpa using hf
    have e:(if(q== NameKind.free && env.scope.kind== .function && env.kindOf x== some .cell)=true then(x,NameKind.cell) else(x,q))=(x,q):=by
     rw[hb];rfl
    have h2:=h
    simp only[e,List.lookup_cons,beq_self_eq_true] at h2
    have:q=k:=Option.some.inj h2
    rcases hk with hk|hk
    ·rw[this,hk]
     exact .inr List.mem_cons_self
    ·exact absurd (this.trans hk) hf
  ·have hn:(x== n)=false:=by simpa using hx
   have h3:(x,NameKind.free)∈r\/(x,NameKind.cell)∈r:=ih (by
    by_cases c:(q== NameKind.free && env.scope.kind== .function && env.kindOf n== some .cell)=true
    ·simp only[c,if_true,List.lookup_cons,hn] at h
     exact h
    ·simp only[c,if_false,Bool.false_eq_true,List.lookup_cons,hn] at h
     exact h)
   rcases h3 with h3|h3
   ·exact .inl (List.mem_cons_of_mem _ h3)
   ·exact .inr (List.mem_cons_of_mem _ h3)
theorem Ň:∀(names:List (Str×NameKind)) (n:Nat) (acc:List (Str×Addr)),cellsFrom n names acc=cellsFrom n names []++acc
 | [],_,_=>rfl
 |(x,k)::r,n,acc=>by
  unfold cellsFrom
  split
  ·rw[Ň r (n+1) ((x,n)::acc),Ň r (n+1) [(x,n)],List.append_assoc]
   rfl
  ·exact Ň r n acc
theorem bO:∀(names:List (Str×NameKind)) (n:Nat) {x:Str} {c:Addr},(x,c)∈cellsFrom n names []->(x,NameKind.cell)∈names
 | [],_,_,_,h=>by simp[cellsFrom] at h
 |(y,k)::r,n,x,c,h=>by
  unfold cellsFrom at h
  split at h
  ·rename_i hk
   rw[Ň r (n+1) [(y,n)]] at h
   rcases List.mem_append.mp h with h|h
   ·exact List.mem_cons_of_mem _ (bO r _ h)
   ·have e:(x,c)=(y,n):=by simpa using h
    cases e
    rw[beq_iff_eq.mp hk]
    exact List.mem_cons_self
  ·exact List.mem_cons_of_mem _ (bO r _ h)
structure Blk(X:Cx)(scope:Scope)(n:Nat)(h:Heap)(cl:List (Str×Addr)):Prop where
 at_:∀x c,cl.lookup x=some c->(X.env.cells.lookup x=some c/\scope.names.lookup x≠some .cell)\/(n<c/\h.IsCell c none/\scope.names.lookup x=some .cell)
 inj:∀x y c,cl.lookup x=some c->cl.lookup y=some c->n<c->x=y
 has:∀x,((x,NameKind.free)∈scope.names\/(x,NameKind.cell)∈scope.names)->∃c,cl.lookup x=some c
def Cm{X:Cx}{scope:Scope}{n:Nat}{h:Heap}{cl:List (Str×Addr)}(hcell:∀y∈scope.names,y.2=.cell->scope.names.lookup y.1=some .cell)
 (h1:∀x c,cl.lookup x=some c->X.env.cells.lookup x=some c)(h2:∀y∈scope.names,y.2=.free->∃c,cl.lookup y.1=some c)(hlt:∀x c,X.env.cells.lookup x=some c->c<n)
 (ok:CellsOk h (n+1) (cellsFrom (n+1) scope.names [])):Blk X scope n h (cellsFrom (n+1) scope.names cl):=by
 have sp:∀x c,(cellsFrom (n+1) scope.names cl).lookup x=some c->(cl.lookup x=some c/\(cellsFrom (n+1) scope.names []).lookup x=none)\/(cellsFrom (n+1) scope.names []).lookup x=some c:=λx c e=>by
  rw[Ň,List.lookup_append] at e
  cases q:(cellsFrom (n+1) scope.names []).lookup x with
  |none=>rw[q] at e;exact .inl ⟨by simpa using e,rfl⟩
  |some d=>rw[q] at e;exact .inr (by simpa using e)
 refine⟨λx c e=>?_,λx y c e1 e2 hc=>?_,λx hx=>?_⟩
 ·rcases sp x c e with⟨e,q⟩|e
  ·refine .inl ⟨h1 x c e,λz=>?_⟩
   obtain⟨d,hd⟩:=fH (sc:=scope) (n:=n+1) z
   rw[hd] at q
   cases q
  ·have m:=mem_of_lookup e
   exact .inr ⟨(ok.empty x c m).2,(ok.empty x c m).1,hcell _ (bO _ _ m) rfl⟩
 ·have nw:∀z,(cellsFrom (n+1) scope.names cl).lookup z=some c→(cellsFrom (n+1) scope.names []).lookup z=some c:=fun z e=>by
   rcases sp z c e with⟨e,q⟩|e
   ·exact absurd (hlt z c (h1 z c e)) (Nat.lt_asymm hc)
   ·exact e
  exact name_of_addr ok.apart (mem_of_lookup (nw x e1)) (mem_of_lookup (nw y e2))
 ·rw[Ň,List.lookup_append]
  rcases hx with hx|hx
  ·obtain⟨c,hc⟩:=h2 _ hx rfl
   cases q:(cellsFrom (n+1) scope.names []).lookup x with
   |none=>exact⟨c,by simpa using hc⟩
   |some d=>exact⟨d,rfl⟩
  ·obtain⟨d,hd⟩:=fH (sc:=scope) (n:=n+1) (hcell _ hx rfl)
   rw[hd]
   exact⟨d,rfl⟩
def dN{M:Model}{A:Around}{E:Value->Shared->Prop}{s:Shared}{scope:Scope}{globals:Addr}{closure:List (Str×Addr)}{qual:Str}
 {func:Option Addr}{code:Value}{env0:Env}{builtins:Addr}{Q:Env->Shared->Prop}
 (hQ:∀h',h'.Ns s.heap.objs.size (fun _=>none)→(∀b o,s.heap.get? b=some o→h'.get? b=some o)→CellsOk h' (s.heap.objs.size+1) (cellsFrom (s.heap.objs.size+1) scope.names [])→
   Q (newEnv scope s.heap.objs.size globals (cellsFrom (s.heap.objs.size+1) scope.names closure) qual func code (some env0) builtins) {s with heap:=h'}) :
 wpAny M A (newFunctionEnv scope globals closure [] qual func code (some env0) builtins) Q E s:=by
 simp only[newFunctionEnv,Option.isSome_some,if_true]
 refine wpAny_bind (wpAny_alloc ?_)
 refine wpAny_bind (wpAny_layCells _ (λname kind cells=>by cases hkc:kind== NameKind.cell<;>simp[hkc]) _ _ _ _ ?_)
 have ok:=cellsFrom_ok scope.names (s.heap.push {cls:=.type "dict",data:=.dict #[]}) (s.heap.objs.size+1) [] ⟨λ_ _ hm=>(nomatch hm),List.Pairwise.nil⟩ (by rw[Heap.size_push];exact Nat.le_refl _)
 rw[Heap.size_push] at ok
 rw[show({s with heap:=s.heap.push {cls:=.type "dict",data:=.dict #[]}}:Shared).heap.objs.size=s.heap.objs.size+1 from Heap.size_push ..]
 refine wpAny_bind ?_
 rw[List.forIn_nil]
 exact wpAny_pure (wpAny_pure (hQ _ ((Heap.Ns.new s.heap (.type "dict")).keeps (pushCells_keeps _ _)) (λb o e=>pushCells_keeps _ _ b o (Heap.get?_push_of_some _ e)) ok))
theorem fO{env:Env}:∀{names:List (Str×NameKind)} {x:Str},names.lookup x=some .free->
 ¬(names.map λ(n,k)=>if(k== NameKind.free && env.scope.kind== .function && env.kindOf n== some .cell) then(n,NameKind.cell) else(n,k)).lookup x=some .local
 | [],x,h=>by simp at h
 |(n,q)::r,x,h=>by
  intro h2
  rw[List.map_cons] at h2
  rw[List.lookup_cons] at h
  cases hx:x== n with
  |true=>
   rw[hx] at h
   cases h
   by_cases c:(NameKind.free== NameKind.free && env.scope.kind== .function && env.kindOf n== some .cell)=true
   ·simp only[c,if_true,List.lookup_cons,hx] at h2
    cases h2
   ·simp only[c,if_false,Bool.false_eq_true,List.lookup_cons,hx] at h2
    cases h2
  |false=>
   rw[hx] at h
   have ih:=fO (env:=env) h
   by_cases c:(q== NameKind.free && env.scope.kind== .function && env.kindOf n== some .cell)=true
   ·simp only[c,if_true,List.lookup_cons,hx] at h2
    exact ih h2
   ·simp only[c,if_false,Bool.false_eq_true,List.lookup_cons,hx] at h2
    exact ih h2
def pq{pins:List (Addr×Obj)}{σ:L2.St}{H:Hp}{s:Shared}{N':List Str}{js:List Nat}{nl:Nat}{sc:Scope}{cl:List (Str×Addr)}{fp:List Addr}{h':Heap}{tk:Nat}
 (hsc:X.env.scope=sc)(hk:scope.kind=.function)(hcap:fL X sc scope N' js)(hlen:js.length+nl=N'.length)(B:Blk X scope s.heap.objs.size h' cl)
 (I:Inv X pins σ H s)(hf:∀b∈fp,cL X pins H b)(hlt:∀b∈fp,b<s.heap.objs.size)
 (hn:h'.Ns s.heap.objs.size (λ_=>none))(kp:∀b o,s.heap.get? b=some o->h'.get? b=some o) :
 Inv (aU X N' scope cl s.heap.objs.size s H fp) [] (cP js nl σ) H {s with heap:=h',toks:=tk}:=by
 have Cp:∀x,((aU X N' scope cl s.heap.objs.size s H fp).env.kindOf x=some .cell\/(aU X N' scope cl s.heap.objs.size s H fp).env.kindOf x=some .free)->∃c,cl.lookup x=some c:=λx hx=>by
  rcases hx with hx|hx
  ·exact B.has x (bN (.inl rfl) hx)
  ·exact B.has x (bN (.inr rfl) hx)
 have lt:∀x c,X.env.cells.lookup x=some c->c<s.heap.objs.size:=λx c e=>by
  obtain⟨v,o,ho,_⟩:=I.cell x c e
  exact Heap.lt_size ho
 have inj:∀x y c,cl.lookup x=some c->cl.lookup y=some c->x=y:=λx y c e1 e2=>by
  rcases B.at_ x c e1 with⟨q1,_⟩|⟨q1,_⟩
  ·rcases B.at_ y c e2 with⟨q2,_⟩|⟨q2,_⟩
   ·exact I.ok.inj x y c q1 q2
   ·exact absurd (lt x c q1) (Nat.lt_asymm q2)
  ·exact B.inj x y c e1 e2 q1
 refine⟨⟨I.ok.mod,hk,I.ok.glob,I.ok.blt,Nat.le_refl _,inj,Cp,λx c z e=>by
  rcases B.at_ x c e with⟨_,q⟩|⟨q,_⟩
  ·exact absurd (beq_iff_eq.mp z) q
  ·exact Nat.le_of_lt q,I.ok.hd,I.ok.frames,.inl rfl,λb hb=>⟨Nat.ne_of_lt (hlt b hb),λx c e=>by
  rcases B.at_ x c e with⟨q,_⟩|⟨q,_⟩
  ·exact(hf b hb).2.2.2.2.1 x c q
  ·exact Nat.ne_of_gt (Nat.lt_trans (hlt b hb) q)⟩,
  I.bs,Nat.le_trans I.ok.Hv I.sz,fun b o e hb=>?_,fun b hb hz=>?_,I.stack,I.wQ,I.tb⟩,rfl,I.bare,Un.kept kp,⟨_,hn,fun i x v e1 e2 e3=>?_⟩,fun x c e=>?_,I.hok.fresh (Nat.le_refl _),fun x c e=>by
    rcases B.at_ x c e with⟨q,_⟩|⟨q,_⟩
    ·exact I.dJ x c q
    ·exact I.hok.fresh (Nat.le_of_lt q),λp hp=>?_,I.hok.kept kp,?_⟩
 ·rcases(hf b hb).2.2.2.1 with z|z
  ·exact I.ok.zx b o e z
  ·exact absurd (Nat.lt_of_lt_of_le (Heap.lt_size e) (Nat.le_trans I.ok.Hv z)) (Nat.lt_irrefl _)
 ·rcases List.mem_cons.mp (I.kW b hz) with z|z
  ·exact(hf b hb).2.1 z
  ·exact(hf b hb).2.2.1 z
 ·obtain⟨j,q1,q2,q0,q3⟩:=o_ hcap e1 e2
  obtain⟨m,hm,hl⟩:=I.loc
  have Zbf:sE X.env.scope x:=by
   rw[hsc]
   rcases q3 with q3|q3
   ·exact .inr (.inl q3)
   ·exact .inr (.inr q3)
  obtain⟨u,ru,lk⟩:=hl j x v q1 q2 Zbf
  refine⟨u,ru,?_⟩
  rcases lk with⟨k1,_⟩|⟨k1,c,hc,ic⟩
  ·exfalso
   have k1':sc.names.lookup x=some .local:=by rw[<-hsc];exact k1
   rcases q3 with q3|q3<;>(rw[k1'] at q3;cases q3)
  ·have e3':(aU X N' scope cl s.heap.objs.size s H fp).env.kindOf x=some .local\/(aU X N' scope cl s.heap.objs.size s H fp).env.kindOf x=some .cell\/(aU X N' scope cl s.heap.objs.size s H fp).env.kindOf x=some .free:=e3
   rcases e3' with z|z
   ·exact absurd z (fO (env:=X.env) q0)
   ·obtain⟨d,hd⟩:=Cp x z
    have:d=c:=by
     rcases B.at_ x d hd with⟨q,_⟩|⟨_,_,q⟩
     ·rw[hc] at q
      exact(Option.some.inj q).symm
     ·rw[q0] at q
      cases q
    subst this
    exact .inr ⟨z,d,hd,by
     obtain⟨o,ho,hd'⟩:=ic
     exact⟨o,kp _ _ ho,hd'⟩⟩
 ·rcases B.at_ x c e with⟨q,_⟩|⟨_,q,_⟩
  ·obtain⟨v,o,ho,hd⟩:=I.cell x c q
   exact⟨v,o,kp _ _ ho,hd⟩
  ·exact⟨none,q⟩
 ·exact absurd hp (by simp[aU])
 ·show _=N'.length
  rw[<-hlen]
  simp[cP]
def lu{pins:List (Addr×Obj)}{σ σ':L2.St}{H H':Hp}{s s':Shared}{N':List Str}{cl:List (Str×Addr)}{fp:List Addr}{h':Heap}(I:Inv X pins σ H s)(hf:∀b∈fp,cL X pins H b)
 (J:Inv (aU X N' scope cl s.heap.objs.size s H fp) [] σ' H' s')(kp:∀b u,b≠s.heap.objs.size->s'.heap.get? b=some u->h'.get? b=some u):Inv X pins σ H' {s' with heap:=h'}:=by
 have ne:∀{b:Addr} {o:Obj},s.heap.get? b=some o->b≠s.heap.objs.size:=λe=>Nat.ne_of_lt (Heap.lt_size e)
 have u:=J.base
 refine I.call' (ch:=fp) J.os ⟨λb o e n hb hx=>kp b o (ne e) (u.keep b o e n hb hx),λb o e n hb hx=>?_,λb o e n hx=>u.free b o e n hx,λb o e hx=>?_,u.tups,u.nU,u.jE⟩ (wZ J.hok J.free kp) J.bare λb hb=>?_
 ·obtain⟨sl,q⟩:=u.slot b o e n hb hx
  exact⟨sl,kp b _ (ne e) q⟩
 ·obtain⟨o',q⟩:=u.there b o e hx
  exact⟨o',kp b _ (ne e) q⟩
 ·exact⟨(hf b hb).2.2.2.1,(hf b hb).2.1,(hf b hb).2.2.2.2.1,(hf b hb).2.2.2.2.2⟩
def Ip(N':List Str)(js:List Nat)(nl:Nat)(sc:Scope)(hsc:X.env.scope=sc)(hcalm:X.calm=true)
 (hi:PI X.ŀ tg iter wi)(hg:∀cl C s H fp,PG (aU X.ŀ N' scope cl C s H fp) tg g)(ht:∀cl C s H fp,Hq (aU X.ŀ N' scope cl C s H fp) ifs tt)(he:∀cl C s H fp,PE (aU X.ŀ N' scope cl C s H fp) elt te)
 (hcap:fL X.ŀ sc scope N' js)(hlen:js.length+nl=N'.length:=by rfl)
 (hk:scope.kind=.function:=by rfl)(hcell:∀y∈scope.names,y.2=.cell->scope.names.lookup y.1=some .cell:=by decide +kernel)(hnames:∀y∈scope.names,y.2=.local->scope.names.lookup y.1=some .local:=by decide +kernel)
 (hfree:∀y∈scope.names,y.2=.free->(sc.names.lookup y.1=some .cell\/sc.names.lookup y.1=some .free):=by decide +kernel)
 (hs:∀x,foldedSetIterable iter X.env x=pure x:=by intro _;rfl) :
 PE X.ŀ (.ListComp elt [⟨tg,iter,ifs,0⟩] scope pos) (Ck js nl wi g tt te):=by
 intro pins s σ H Q I h
 obtain⟨Wk,c1,c2,c3⟩:=fK (scope:=scope) (env:=X.ŀ.env) λy hy hf=>I.ok.has y.1 (by
  have:=hfree y hy hf
  rw[<-hsc] at this
  exact this)
 rw[eval_ListComp]
 refine wpAny_comprehension_free (use:=none) rfl hs c1 hk hnames (ļ (hi pins s σ H _ I h) λv s1 h1=>ļ h1 λitv s2 h2=>?_)
 obtain⟨it,fp,tn,J,H2,e,I2,T,st2,f2,q2⟩:=h2
 subst e
 refine wpAny_newObj_type (dN (λh₁ hns₁ old QT=>?_))
 dsimp only at hns₁ old QT ⊢
 generalize QV:s2.heap.push {cls:=.type "list",dict:=none,data:=.seq ([]:List Value).toArray}=ű at hns₁ old QT ⊢
 have hD:H2 s2.heap.objs.size=none:=I2.hok.fresh (Nat.le_refl _)
 have I3:Inv X.ŀ pins σ (upd H2 s2.heap.objs.size (.lst [])) {s2 with heap:=ű}:=by
  rw[<-QV]
  exact I2.laid (t':=s2.toks) (λb u e=>Heap.get?_push_of_some _ e) (Nat.le_refl _) ⟨Nat.zero_le _,[],0,.nil,Heap.get?_push_size _ rfl⟩
 have Cq:∀b∈fp,b<s2.heap.objs.size:=λb hb=>by
  obtain⟨o,ho,_⟩:=T.obj 0 _ st2 b hb
  exact Heap.lt_size ho
 have QW:ű.objs.size=s2.heap.objs.size+1:=by rw[<-QV,Heap.size_push]
 have f3:∀b∈fp,cL X.ŀ pins (upd H2 s2.heap.objs.size (.lst [])) b:=λb hb=>by
  obtain⟨g0,g1⟩:=f2 b hb
  exact⟨by rw[ċ (Nat.ne_of_lt (Cq b hb))];exact g0,g1⟩
 have B:=Cm (X:=X.ŀ) (cl:=Wk) hcell c2 c3 (λx c e=>by
  obtain⟨v,o,ho,_⟩:=I3.cell x c e
  exact Heap.lt_size ho) QT
 generalize cellsFrom (ű.objs.size+1) scope.names Wk=cl at B ⊢
 obtain⟨W,⟨m0,w0⟩,turn⟩:=q2 s2.heap.objs.size hD
 have I4:=pq (X:=X.ŀ) (N':=N') (js:=js) (nl:=nl) (sc:=sc) (scope:=scope) (cl:=cl) (fp:=fp) (h':=h₁) (tk:=s2.toks) hsc hk hcap hlen B I3 f3 (λb hb=>by show b<ű.objs.size;rw[QW];exact Nat.lt_succ_of_lt (Cq b hb)) hns₁ old
 have Wm:tn 0 h₁:= T.keep 0 _ _ st2 λb hb o e=>old b o (by rw[<-QV];exact Heap.get?_push_of_some _ e)
 have fr4:∀b∈fp,(upd H2 s2.heap.objs.size (.lst [])) b=none:=λb hb=>(f3 b hb).1
 have stat:∀{H':Hp},(∀b∈fp,H' b=none)->∀b∈fp,cL (aU X.ŀ N' scope cl ű.objs.size {s2 with heap:=ű} (upd H2 s2.heap.objs.size (.lst [])) fp) [] H' b:=fun{H'} hn b hb=>by
  obtain⟨g0,g1,g2,g3,g4,g5⟩:=f3 b hb
  refine⟨hn b hb,Nat.ne_of_lt (by show b<ű.objs.size;rw[QW];exact Nat.lt_succ_of_lt (Cq b hb)),λz=>?_,.inl hb,λx c e=>by
   rcases B.at_ x c e with⟨q,_⟩|⟨q,_⟩
   ·exact g4 x c q
   ·exact Nat.ne_of_gt (Nat.lt_trans (by show b<ű.objs.size;rw[QW];exact Nat.lt_succ_of_lt (Cq b hb)) q),λp hp=>absurd hp (by simp[aU])⟩
  rcases List.mem_cons.mp (I3.kW b z) with z|z
  ·exact g1 z
  ·exact g2 z
 have loop:∀s₃:Shared,s₃= {s2 with heap:=h₁}->
  codeAny (model X.prog X.w) X.A (.compLoop (.ListComp elt [⟨tg,iter,ifs,0⟩] scope pos) 0 (.ref it) (.ref s2.heap.objs.size) (compEnvC scope cl ű.objs.size X.ŀ.env))
   (compPost (model X.prog X.w) X.A X.ŀ.xe none (EP X.ŀ pins σ Q) (.ref s2.heap.objs.size) ű.objs.size) s₃:= by
  rintro s₃ rfl
  refine fM (λn s'=>∃i σ' H',Inv (aU X.ŀ N' scope cl ű.objs.size {s2 with heap:=ű} (upd H2 s2.heap.objs.size (.lst [])) fp) [] σ' H' s'/\tn i s'.heap/\(∀b∈fp,H' b=none)/\W i n σ' H') ?_ m0 ⟨0,_,_,I4,Wm,fr4,w0⟩
  rintro n s5 ⟨i,σ5,H5,I5,HF,Qg,w5⟩
  rcases turn i n σ5 H5 w5 with⟨stop,qn⟩|⟨go,N,hN,step⟩
  ·refine ļ (T.done (aU X.ŀ N' scope cl ű.objs.size {s2 with heap:=ű} (upd H2 s2.heap.objs.size (.lst [])) fp) rfl rfl rfl hcalm i [] s5 σ5 H5 (λ_ _=>False) I5 (stat Qg) HF stop) λr s6 ⟨hr,I6⟩=>?_
   subst hr
   obtain⟨m,hm,_⟩:=I6.loc
   refine⟨m,hm,λh' hs'=>⟨.ref s2.heap.objs.size,H5,lu I3 f3 I6 (λb u hb e=>hs'.extBut b u hb e),rfl,qn⟩⟩
  ·refine ļ (T.item (aU X.ŀ N' scope cl ű.objs.size {s2 with heap:=ű} (upd H2 s2.heap.objs.size (.lst [])) fp) rfl rfl rfl hcalm i [] s5 σ5 H5 (λ_ _=>False) I5 (stat Qg) HF go) λr s6 ⟨u,hr,h6⟩=>?_
   subst hr
   refine ļ h6 λ_ s7 ⟨x,H7,I7,r7,y7,QX,fr7⟩=>?_
   have I7':=I7.pinned (stat fr7) (T.obj _ _ QX)
   have again:∀{s8:Shared} {σ8:L2.St} {H8:Hp},Inv (aU X.ŀ N' scope cl ű.objs.size {s2 with heap:=ű} (upd H2 s2.heap.objs.size (.lst [])) fp) ([]++gW fp s7.heap) σ8 H8 s8->
    Inv (aU X.ŀ N' scope cl ű.objs.size {s2 with heap:=ű} (upd H2 s2.heap.objs.size (.lst [])) fp) [] σ8 H8 s8/\tn (i+1) s8.heap/\∀b∈fp,H8 b=none:=fun{s8 σ8 H8} I8=>by
    refine⟨I8.cM,T.keep _ _ _ QX λb hb o e=>(I8.pin (b,o) (List.mem_append_right _ (List.mem_append_right _ (ţ hb e)))).1,λb hb=>?_⟩
    obtain⟨o,e,d⟩:=T.obj _ _ QX b hb
    exact(I8.pin (b,o) (List.mem_append_right _ (List.mem_append_right _ (ţ hb e)))).2.1
   refine ļ (hg cl _ _ _ fp _ s7 σ5 H7 x u _ I7' r7 (step x H7 y7)) λ_ s8 ⟨σ8,H8,I8,q8⟩=>?_
   refine ļ (ht cl _ _ _ fp _ s8 σ8 H8 _ I8 q8) λc s9 ⟨H9,I9,q9⟩=>?_
   cases c with
   |false=>
    rw[if_neg Bool.false_ne_true] at q9 ⊢
    obtain⟨m',hm',w9⟩:=hN _ _ q9
    obtain⟨a1,a2,a3⟩:=again I9
    exact⟨m',hm',i+1,σ8,H9,a1,a2,a3,w9⟩
   |true=>
    rw[if_pos rfl] at q9 ⊢
    refine ļ (he cl _ _ _ fp _ s9 σ8 H9 _ I9 q9) λyv aD ⟨y,H10,I10,r10,ys,e10,l10,w10⟩=>?_
    refine ļ (ō _ aD σ8 H10 (.ref s2.heap.objs.size) [y] (.ref s2.heap.objs.size) [yv] (λ_ QZ=>N σ8 QZ) I10 rfl (.cons r10 .nil) ⟨_,ys,y,rfl,rfl,e10,l10,w10⟩) λ_ Bd ⟨v11,QZ,I11,_,w11⟩=>?_
    obtain⟨a1,a2,a3⟩:=again I11
    obtain⟨m',hm',w11⟩:=hN _ _ w11
    exact⟨m',hm',i+1,σ8,QZ,a1,a2,a3,w11⟩
 exact codeAny_compStart_list (loop _ rfl) (T.self _ 0 _ _ _ Wm (loop _ rfl))
end
def Its(z:Str):It:=⟨λi _=>i<z.cps.size,λi H x H'=>H'=H/\∃c,z.cps.toList[i]?=some c/\x=.str ⟨#[c]⟩,λi _=>i=z.cps.size⟩
def zQ{P:Program}{w:World}{K:PySem.W.Frag}{tg:Expr}(it:Addr)(z:Str)(t:Tok)(ty:String)
 (hW:∀A:Around,A.handled=none->Walks P w A it [it] [it] z.cps.size (SignAt z) (λi h=>h.IsStrIter it ty z t i))
 (hS:∀(A:Around) (i:Nat) (s:Shared) (Q:Value->Shared->Prop) (E:Value->Shared->Prop),s.heap.IsStrIter it ty z t i->Q (.ref it) s->wpAny (model P w) A (pyIter (.ref it)) Q E s)
 (hty:["enumerate","zip","dict_itemiterator","dict_reverseitemiterator","odict_iterator","itertools.zip_longest","itertools.pairwise"].contains ty=false):Turn P w K tg (Its z) [it] it (λi h=>h.IsStrIter it ty z t i) where
 mem:=by simp
 obj:=λi h st b hb=>by
  have e:b=it:=by simpa using hb
  subst e
  obtain⟨o,e,c,d⟩:=st
  exact⟨o,e,λv z=>by rw[d] at z;cases z⟩
 keep:=λi h h' st k=>by
  obtain⟨o,e,c,d⟩:=st
  exact⟨o,k it (by simp) o e,c,d⟩
 item:=by
  intro X hP hw hK hc i pins s σ H E I hf st hg
  subst hP hw hK
  obtain⟨f0,f1,f2,f3,f4,f5⟩:=hf it (by simp)
  refine(hW X.A (I.ok.hd hc)).item i s _ _ hg st λv h' tk hv st' kk=>?_
  obtain⟨c,u,hcu,rfl⟩:=hv
  have I1:Inv X pins σ H {s with heap:=h',toks:=tk}:=I.turned (λb o hb e=>kk b o (by simpa using hb) e) f0 f1 f3 f4 f5
  obtain⟨o,e,cl,d⟩:=id st'
  exact⟨_,rfl,wU (s:={s with heap:=h',toks:=tk}) e cl d hty ⟨.str ⟨#[c]⟩,H,I1,⟨u,rfl⟩,⟨rfl,c,by simpa using hcu,rfl⟩,st',λb hb=>(hf b hb).1⟩⟩
 done:=by
  intro X hP hw hK hc i pins s σ H E I hf st hg
  subst hP hw hK
  obtain⟨f0,f1,f2,f3,f4,f5⟩:=hf it (by simp)
  have e:i=z.cps.size:=hg
  subst e
  exact(hW X.A (I.ok.hd hc)).done s _ _ st λh' tk kk=>⟨rfl,I.turned (λb o hb e=>kk b o (by simpa using hb) e) f0 f1 f3 f4 f5⟩
 self:=hS
section
variable{X:Cx}{tg:Expr}
end
end M3
namespace M4
open PySem PySem.Spec PyProof.Rows L2 M2 M3
section
variable{X:Cx}
def Ir{bs:List Bool}:∀{us:List Value},Vals (bs.map V.bl) us->us=bs.map Value.bool:=by
 induction bs with
 |nil=>intro us r;rw[List.map_nil] at r;cases r;rfl
 |cons b bs ih=>
  intro us r
  rw[List.map_cons] at r
  cases r with
  |cons r1 r2=>
   cases r1
   rw[ih r2]
   rfl
def all_range(bs:List Bool):(List.range (bs.map Value.bool).toArray.size).all (λi=>bs.getD i false)=bs.all id:=by
 have e:(bs.map Value.bool).toArray.size=bs.length:=by simp
 rw[e,Bool.eq_iff_iff]
 simp only[List.all_eq_true,List.mem_range,id]
 constructor
 ·intro h b hb
  obtain⟨i,hi,rfl⟩:=List.mem_iff_getElem.mp hb
  have:=h i hi
  rw[List.getD_eq_getElem?_getD,List.getElem?_eq_getElem hi] at this
  exact this
 ·intro h i hi
  rw[List.getD_eq_getElem?_getD,List.getElem?_eq_getElem hi]
  exact h _ (List.getElem_mem hi)
def sZ{prog:Program}{w:World}{A:Around}(bs:List Bool):TruthOf prog w A (λi v=>(bs.map Value.bool).toArray[i]?=some v) (λi=>bs.getD i false):=by
 intro i v s Q E hv hq
 have hv':bs[i]?.map Value.bool=some v:=by
  rw[<-List.getElem?_map]
  simpa using hv
 cases hb:bs[i]? with
 |none=>rw[hb] at hv';cases hv'
 |some b=>
  rw[hb] at hv'
  cases hv'
  dsimp only at hq
  rw[List.getD_eq_getElem?_getD,hb] at hq
  exact wpAny_truthy_bool hq
def Q_(K:PySem.W.Frag):List V->Hp->VK->Prop:=λxs H Q=>match xs with
 | [.ref p]=>∃bs:List Bool,Ř K H p (bs.map V.bl)/\Q (.bl (bs.all id)) H
 |_=>False
def vN(hc:X.calm=true):ŕ X (.builtin "all") (Q_ X.K):=by
 intro pins s σ H xs us Q I r h
 unfold Q_ at h
 split at h
 ·rename_i p
  obtain⟨bs,hS,q⟩:=h
  obtain⟨u,rfl,ru⟩:=vals1 r
  cases ru
  obtain⟨its,rv,pl,hz⟩:=I.list hS
  have e:=Ir rv
  subst e
  have hp:p≠s.heap.objs.size:=by
   obtain⟨o,n,e,_⟩:=pl
   exact Nat.ne_of_lt (Heap.lt_size e)
  refine call_all_walk (wpAny_pyIter_list pl.isList ?_)
  refine⟨s.heap.objs.size,_,_,_,_,_,_,rfl,Walks.list (A:=X.A.in1) (show X.A.in1.handled=none from I.ok.hd hc) s.heap.objs.size p hp (bs.map Value.bool).toArray,⟨⟨_,Heap.get?_push_size _ rfl,rfl,rfl⟩,pl.isList.at λo e=>Heap.get?_push_of_some _ e⟩,sZ bs,λh' tk k=>?_⟩
  rw[all_range]
  exact⟨.bl _,H,I.kept λb o e=>k b o (by simpa using Nat.ne_of_lt (Heap.lt_size e)) (Heap.get?_push_of_some _ e),rfl,q⟩
 ·exact h.elim
end
abbrev S(l:List Nat):Str:=⟨l.toArray⟩
def Zbg(z:Str):S z.cps.toList=z:=by
 cases z
 simp
def Wn(l:List Nat):(S l).length=l.length:=by simp[Str.length]
def tD(z:Str):z.cps.toList.length=z.length:=by simp[Str.length]
def qz(xs:List Nat)(lo hi:Option Int):List Nat:=(xs.drop (HT.fJ xs.length 0 lo)).take (HT.fJ xs.length xs.length hi-HT.fJ xs.length 0 lo)
def idx_eq(z:Str)(lo hi:Option Int):Builtin.Str.strSliceIndices lo hi 1 z.length=(List.range (HT.fJ z.length z.length hi-HT.fJ z.length 0 lo)).map (HT.fJ z.length 0 lo + ·):=by
 have hc:∀(o:Option Int) (d:Nat),d<=z.length->(match o with|none=>((d:Nat):Int)|some i=>max 0 (min (if i<0 then i+(z.length:Int) else i) (z.length:Int)))=((HT.fJ z.length d o:Nat):Int):=by
  intro o d hd
  cases o with
  |none=>rfl
  |some i=>
   show max 0 (min (if i<0 then i+(z.length:Int) else i) (z.length:Int))=((if i<0 then(i+(z.length:Int)).toNat else min i.toNat z.length:Nat):Int)
   by_cases h:i<0
   ·rw[if_pos h,if_pos h];omega
   ·rw[if_neg h,if_neg h];omega
 have e:Builtin.Str.strSliceIndices lo hi 1 z.length=sliceRange ((HT.fJ z.length 0 lo:Nat):Int) ((HT.fJ z.length z.length hi:Nat):Int) 1:=by
  have h1:=hc lo 0 (Nat.zero_le _)
  have h2:=hc hi z.length (Nat.le_refl _)
  unfold Builtin.Str.strSliceIndices
  simp only[show(1:Int)>0 by decide,if_true]
  rw[<-h1,<-h2]
  cases lo<;>cases hi<;>rfl
 rw[e,sliceRange_one]
def Iu(z:Str)(lo hi:Option Int):(Builtin.Str.strSliceIndices lo hi 1 z.length).filterMap (z.cps[·]?)=qz z.cps.toList lo hi:=by
 rw[idx_eq,pick_run]
 unfold qz
 rw[tD]
def Iv(xs:List Nat)(lo hi:Option Int):(qz xs lo hi).length<=xs.length:=by
 unfold qz
 rw[List.length_take,List.length_drop]
 omega
def Cr{z:Str}{t:Tok}{l u:Option (Int×Tok)}{Q:Value->Shared->Prop}{s:Shared}(hz:z.length<=sizeLine)
 (h:∀t' k,Q (.str (S (qz z.cps.toList (l.map (·.1)) (u.map (·.1)))) t') {s with toks:=k}):(sliceMade z t l u none).post Q s:=by
 have e:=Iu z (l.map (·.1)) (u.map (·.1))
 unfold sliceMade
 have ep:slicePicked z l u none=Builtin.Str.strSliceIndices (l.map (·.1)) (u.map (·.1)) 1 z.length:=rfl
 rw[ep]
 split
 ·rename_i hc
  have hl:(Builtin.Str.strSliceIndices (l.map (·.1)) (u.map (·.1)) 1 z.length).length=z.length:=by simpa using hc
  have hz2:qz z.cps.toList (l.map (·.1)) (u.map (·.1))=z.cps.toList:=by
   rw[idx_eq,List.length_map,List.length_range] at hl
   have hi:=HT.BL z.length 0 (Nat.zero_le _) (l.map (·.1))
   have hj:=HT.BL z.length z.length (Nat.le_refl _) (u.map (·.1))
   unfold qz
   rw[tD]
   have hl2:=tD z
   have a0:HT.fJ z.length 0 (l.map (·.1))=0\/z.length=0:=by omega
   rcases a0 with a0|a0
   ·rw[a0] at hl ⊢
    rw[List.drop_zero]
    exact List.take_of_length_le (by omega)
   ·have:z.cps.toList=[]:=List.eq_nil_of_length_eq_zero (by omega)
    rw[this]
    simp
  have:=h t s.toks
  rw[hz2,Zbg] at this
  exact this
 ·rw[e]
  exact⟨by rw[Wn];have:=Iv z.cps.toList (l.map (·.1)) (u.map (·.1));rw[tD] at this;omega,h _ _⟩
section
variable{X:Cx}
def Zbh:V->Option Int->Option Int->Hp->VK->Prop:=λx lo hi H Q=>match x with
 | .str z=>z.length<=sizeLine/\Q (.str (S (qz z.cps.toList lo hi))) H
 |_=>False
def Iw:wW X Zbh:=by
 intro pins s σ H x v vl vu lo hi sl Q I rx hs pl pu h
 cases x with
 |str z=>
  obtain⟨t,rfl⟩:=rx
  obtain⟨hz,q⟩:=h
  obtain⟨l,el,el2⟩:∃l:Option (Int×Tok),partValue l=vl/\l.map (·.1)=lo:=by
   cases pl with
   |none=>exact⟨none,rfl,rfl⟩
   |int i t=>exact⟨some (i,t),rfl,rfl⟩
  obtain⟨u,eu,eu2⟩:∃u:Option (Int×Tok),partValue u=vu/\u.map (·.1)=hi:=by
   cases pu with
   |none=>exact⟨none,rfl,rfl⟩
   |int i t=>exact⟨some (i,t),rfl,rfl⟩
  subst el el2 eu eu2
  exact⟨"str",_,F.slot_str_getitem.lookup,typeIs_str s z t,wpAny_getItem_str_slice (l:=l) (u:=u) (st:=none) hs rfl (Cr hz λt' k=>⟨.str _,H,I.tok _,⟨_,rfl⟩,q⟩)⟩
 |_=>exact h.elim
def Zbi(K:PySem.W.Frag):V->Option Int->Option Int->Hp->VK->Prop:=λx lo hi H Q=>match x with
 | .ref a=>∃xs,Ř K H a xs/\∀p,H p=none->Q (.ref p) (upd H p (.lst (sU xs lo hi)))
 | .str z=>z.length<=sizeLine/\Q (.str (S (qz z.cps.toList lo hi))) H
 |_=>False
def slm:wW X (Zbi X.K):=wW.wk (Cg.or Iw) λx lo hi H Q h=>by
 cases x with
 |ref a=>exact .inl h
 |str z=>exact .inr h
 |_=>exact h.elim
def mul_eq(z:Str){n:Int}(h:0<=n):Txt.mul z n=S (List.replicate n.toNat z.cps.toList).flatten:=by
 have key:∀(k:Nat) (acc:Array Nat),((List.replicate k z.cps).foldl (·++ ·) acc).toList=acc.toList++(List.replicate k z.cps.toList).flatten:=by
  intro k
  induction k with
  |zero=>intro acc;simp
  |succ k ih=>
   intro acc
   rw[List.replicate_succ,List.foldl_cons,ih,List.replicate_succ,List.flatten_cons]
   simp
 unfold Txt.mul
 refine PyProof.Rows.ext_toList ?_
 by_cases h1:n<1
 ·rw[if_pos h1]
  have:n.toNat=0:=by omega
  rw[this]
  simp[Str.empty]
 ·rw[if_neg h1]
  split
  ·rename_i hc
   rw[Bool.or_eq_true] at hc
   rcases hc with hc|hc
   ·have:n=1:=by simpa using hc
    subst this
    simp
   ·have h0:z.cps.toList=[]:=List.eq_nil_of_length_eq_zero (by rw[tD];simpa using hc)
    rw[h0]
    simp
  ·rw[key]
   simp
def Cu(z:Str)(n:Int):Prop:=0<=n/\n<=1000/\z.length<=1000
def Cu.ok{z:Str}{n:Int}(h:Cu z n):MulOk z n:=by
 obtain⟨h0,h1,h2⟩:=h
 refine⟨?_,λhn _=>?_,λhn _=>?_⟩
 ·rw[decide_eq_false (by omega),decide_eq_false (by omega)]
  rfl
 ·have:(9000000000000000:Int)≤(2 ^ 63-1) / n:=by
   rw[Int.le_ediv_iff_mul_le (by omega)]
   omega
  omega
 ·have:z.length*n.toNat<=1000*1000:=Nat.mul_le_mul h2 (by omega)
  unfold Builtin.Str.tooLong
  simp
  rw[sizeLine_eq]
  omega
def Cv:R2:=λx y H Q=>match x,y with
 | .int i,.int j=>oZ i j/\Q (.int (i*j)) H
 | .str z,.int n=>Cu z n/\Q (.str (S (List.replicate n.toNat z.cps.toList).flatten)) H
 |_,_=>False
def Iz:Š X (binaryOp .Mult) Cv:=by
 intro pins s σ H x y v u Q I rx ry h
 unfold Cv at h
 split at h
 ·exact QK pins s σ H _ _ v u Q I rx ry h
 ·obtain⟨t,rfl⟩:=rx
  obtain⟨t',rfl⟩:=ry
  exact SB.mul h.1.ok λt' k=>⟨.str _,H,I.tok _,⟨_,by rw[mul_eq _ h.1.1]⟩,h.2⟩
 ·exact h.elim
end
end M4
namespace M5
open PySem PySem.Spec PyProof.Rows L2 M2 M3
section
variable{X:Cx}{pins:List (Addr×Obj)}{σ:L2.St}{H:Hp}{s:Shared}{x:Str}{c P:Addr}{params:Arguments}{body:Expr}{scope:Scope}{pos:Pos}{cl:List (Str×Addr)}
end
section
variable{X:Cx}{pins:List (Addr×Obj)}{σ:L2.St}{H:Hp}{s:Shared}{params:Arguments}{body:Expr}{scope sc:Scope}{cl:List (Str×Addr)}{N0:List Str}{js:List Nat}{qual px:Str}{f c':Addr}{A:Around}
end
section
variable{X:Cx}{pins:List (Addr×Obj)}{σ:L2.St}{H:Hp}{s:Shared}
variable{R:Result->Shared->Prop}{f l S It:Addr}{oF:Obj}{xs:List V}(ks:Nat->Int)(W:Nat->Hp->Prop)
end
section
variable{X:Cx}{x px:Str}{c P:Addr}{params:Arguments}{body e:Expr}{scope:Scope}{p pos Ra kpos:Pos}{ta:TA}{te:TE}
end
end M5
namespace P
def nst:PySem.Expr->Bool
 | .Starred .. =>false
 |_=>true
def š{e:PySem.Expr}{es:List PySem.Expr}{env:PySem.Env}(h:nst e=true):PySem.starEach (e::es) env=(false,PySem.eval e env)::PySem.starEach es env:=by
 cases e<;>first|rfl|cases h
def Cw{a b:PySem.Expr}{env:PySem.Env}(h:nst a=true)(h2:nst b=true):PySem.starEach [a,b] env=[(false,PySem.eval a env),(false,PySem.eval b env)]:=by
 rw[š h,š h2];rfl
open PySem PySem.Spec PyProof.Rows L2 M2
structure KK where
 K:PySem.W.Frag
 cm:String->Addr
abbrev kk(X:Cx)(cm:String->Addr):KK:=⟨X.K,cm⟩
inductive PV where
 |non|bl (b:Bool)|int (i:Int)|str (x:Str)|tup (xs:List PV)|lst (xs:List PV)
 |ins (C:String) (ns:List Str) (xs:List PV)|xc (C:String) (ns:List Str) (xs:List PV)|ty (n:String)|cls (C:String)
def xo(a C:Addr)(d:Option Addr):HO:=.ext λh=>∃o vs,h.get? a=some o/\o.cls=.ref C/\o.dict=d/\o.data=.fields vs
def tE(F:Hp)(d:Option Addr)(fs:List (Str×V)):Prop:=(d=none/\fs=[])\/∃a,d=some a/\F a=some (.xd fs)
mutual
def Rep(K:KK)(F:Hp):PV->V->Prop
 | .non,v=>v=.non
 | .bl b,v=>v=.bl b
 | .int i,v=>v=.int i
 | .str x,v=>v=.str x
 | .tup ps,v=>∃a xs,v=.ref a/\F a=some (.tup xs)/\Ĉ K F ps xs
 | .lst ps,v=>∃a xs,v=.ref a/\Ř K.K F a xs/\Ĉ K F ps xs
 | .ins C ns ps,v=>∃a dx fs,v=.ref a/\F a=some (.ins (K.cm C) dx fs)/\fs.map (·.1)=ns/\Ĉ K F ps (fs.map (·.2))
 | .xc C ns ps,v=>∃a d fs,v=.ref a/\F a=some (xo a (K.cm C) d)/\tE F d fs/\fs.map (·.1)=ns/\Ĉ K F ps (fs.map (·.2))
 | .ty n,v=>v=.ty n
 | .cls C,v=>v=.ref (K.cm C)
def Ĉ(K:KK)(F:Hp):List PV->List V->Prop
 | [],xs=>xs=[]
 |p::ps,xs=>∃x r,xs=x::r/\Rep K F p x/\Ĉ K F ps r
end
section
variable{K:KK}{F F' H H':Hp}
def tE.same{d:Option Addr}{fs:List (Str×V)}(e:Same F F')(h:tE F d fs):tE F' d fs:=by
 rcases h with h|⟨a,h1,h2⟩
 ·exact .inl h
 ·exact .inr ⟨a,h1,e _ _ h2⟩
mutual
theorem Rep.same(e:Same F F'):∀(p:PV) (v:V),Rep K F p v->Rep K F' p v
 | .non,_,h=>by unfold Rep at h ⊢;exact h
 | .bl _,_,h=>by unfold Rep at h ⊢;exact h
 | .int _,_,h=>by unfold Rep at h ⊢;exact h
 | .str _,_,h=>by unfold Rep at h ⊢;exact h
 | .ty _,_,h=>by unfold Rep at h ⊢;exact h
 | .cls _,_,h=>by unfold Rep at h ⊢;exact h
 | .tup ps,_,h=>by
   unfold Rep at h ⊢
   obtain⟨a,xs,h1,h2,h3⟩:=h
   exact⟨a,xs,h1,e _ _ h2,Ĉ.same e ps xs h3⟩
 | .lst ps,_,h=>by
   unfold Rep at h ⊢
   obtain⟨a,xs,h1,h2,h3⟩:=h
   exact⟨a,xs,h1,e.seq h2,Ĉ.same e ps xs h3⟩
 | .ins C ns ps,_,h=>by
   unfold Rep at h ⊢
   obtain⟨a,dx,fs,h1,h2,h3,h4⟩:=h
   exact⟨a,dx,fs,h1,e _ _ h2,h3,Ĉ.same e ps _ h4⟩
 | .xc C ns ps,_,h=>by
   unfold Rep at h ⊢
   obtain⟨a,d,fs,h1,h2,hd,h3,h4⟩:=h
   exact⟨a,d,fs,h1,e _ _ h2,hd.same e,h3,Ĉ.same e ps _ h4⟩
theorem Ĉ.same(e:Same F F'):∀(ps:List PV) (xs:List V),Ĉ K F ps xs->Ĉ K F' ps xs
 | [],_,h=>by unfold Ĉ at h ⊢;exact h
 |p::ps,_,h=>by
  unfold Ĉ at h ⊢
  obtain⟨x,r,h1,h2,h3⟩:=h
  exact⟨x,r,h1,Rep.same e p x h2,Ĉ.same e ps r h3⟩
end
theorem Ĉ.pr:∀{ps:List PV} {vs:List V},Ĉ K F ps vs->Paired (Rep K F) ps vs
 | [],_,h=>by unfold Ĉ at h;subst h;exact .nil
 |p::ps,_,h=>by
  unfold Ĉ at h
  obtain⟨x,r,rfl,h2,h3⟩:=h
  exact .cons h2 (Ĉ.pr h3)
theorem Ĉ.of:∀{ps:List PV} {vs:List V},Paired (Rep K F) ps vs->Ĉ K F ps vs
 | [],_,.nil=>by unfold Ĉ;rfl
 |p::ps,_,.cons h t=>by unfold Ĉ;exact⟨_,_,rfl,h,Ĉ.of t⟩
theorem Ĉ.nil:Ĉ K F [] []:=Ĉ.of .nil
theorem Ĉ.cons{p:PV}{v:V}{ps:List PV}{vs:List V}(h:Rep K F p v)(t:Ĉ K F ps vs):Ĉ K F (p::ps) (v::vs):=Ĉ.of (.cons h t.pr)
theorem Ĉ.length{ps:List PV}{vs:List V}(h:Ĉ K F ps vs):ps.length=vs.length:=Paired.length h.pr
theorem ŷ{α β:Type}{G:α->β->Prop}:∀{l:List α} {m:List β} {i:Nat} {x:α},Paired G l m->l[i]?=some x->∃y,m[i]?=some y/\G x y
 |_,_,_,_,.nil,e=>by simp at e
 |_,_,0,_,.cons r _,e=>by simp at e;subst e;exact⟨_,rfl,r⟩
 |_,_,i+1,x,.cons _ t,e=>by
  obtain⟨y,h1,h2⟩:=ŷ (i:=i) (x:=x) t (by simpa using e)
  exact⟨y,by simpa using h1,h2⟩
theorem Cy{α β:Type}{G:α->β->Prop}:∀{l l2:List α} {m m2:List β},Paired G l m->Paired G l2 m2->Paired G (l++l2) (m++m2)
 |_,_,_,_,.nil,t=>t
 |_,_,_,_,.cons r s,t=>.cons r (Cy s t)
theorem xg{α β:Type}{G:α->β->Prop}:∀{l:List α} {m:List β} (n:Nat),Paired G l m->Paired G (l.take n) (m.take n)
 |_,_,0,_=>.nil
 |_,_,_+1,.nil=>.nil
 |_,_,n+1,.cons r t=>.cons r (xg n t)
theorem xq{α β:Type}{G:α->β->Prop}:∀{l:List α} {m:List β} (n:Nat),Paired G l m->Paired G (l.drop n) (m.drop n)
 |_,_,0,h=>h
 |_,_,_+1,.nil=>.nil
 |_,_,n+1,.cons _ t=>xq n t
def Ĉ.append{ps qs:List PV}{vs us:List V}(h:Ĉ K F ps vs)(t:Ĉ K F qs us):Ĉ K F (ps++qs) (vs++us):=Ĉ.of (Cy h.pr t.pr)
end
abbrev DK:=Sum Int (List Int)
inductive Slot where
 |no|sh (p:PV)|ow (ps:List PV)|bw (ps:List PV)|rc (C:String) (ns:List Str) (ps:List PV)|ot (ps qs rs:List PV)|ol (Bf:List (List PV))|od (t:Bool) (kvs:List (DK×PV))|bd (t:Bool) (kvs:List (DK×PV))
abbrev Ĳ:=List Slot
def Slot.own:Slot->Bool
 | .ow _=>true
 | .rc _ _ _=>true
 | .ot _ _ _=>true
 | .ol _=>true
 | .od _ _=>true
 |_=>false
structure Ctx where
 B:Hp
 F₀:Hp
 /-- what is lent here:read,never changed,never kept -/
 L:Hp
 /-- which objects may be held as one's own:address,dict,class -/
 S:Addr->Addr->String->Prop
def qC(K:KK)(F:Hp)(t:Bool)(kvs:List (DK×PV))(u:HO):Prop:=
 (t=false/\∃ks:List (Key×V),u=.dK ks/\Paired (λ(p:DK×PV) (q:Key×V)=>(∃i:Int,p.1=.inl i/\q.1=.inl i)/\Rep K F p.2 q.2) kvs ks)\/
 t=true/\∃ks:List (List Key×V),u=.dT ks/\Paired (λ(p:DK×PV) (q:List Key×V)=>(∃is:List Int,p.1=.inr is/\q.1=is.map .inl)/\Rep K F p.2 q.2) kvs ks
def Ō(K:KK)(c:Ctx)(F H:Hp)(o:Option V):Slot->Prop
 | .no=>True
 | .sh p=>∃v,o=some v/\Rep K F p v
 | .ow ps=>∃a vs,o=some (.ref a)/\H a=some (.lst vs)/\F a=none/\c.B a=none/\Ĉ K F ps vs
 | .bw ps=>∃a vs,o=some (.ref a)/\c.L a=some (.lst vs)/\Ĉ K F ps vs
 | .rc C ns ps=>∃a dx fs,o=some (.ref a)/\H a=some (.ins (K.cm C) dx fs)/\F a=none/\c.B a=none/\fs.map (·.1)=ns/\Ĉ K F ps (fs.map (·.2))/\c.S a dx C
 | .ot ps qs rs=>∃p a xs vs ys,o=some (.ref p)/\F p=some (.tup (xs ++ .ref a::ys))/\Ĉ K F ps xs/\H a=some (.lst vs)/\F a=none/\c.B a=none/\Ĉ K F qs vs/\Ĉ K F rs ys
 | .ol Bf=>∃(p:Addr) (as:List Addr),o=some (.ref p)/\F p=some (.lst (as.map V.ref))/\as.Nodup/\Paired (λ(a:Addr) (ps:List PV)=>∃vs,H a=some (.lst vs)/\F a=none/\c.B a=none/\Ĉ K F ps vs) as Bf
 | .od t kvs=>∃a u,o=some (.ref a)/\H a=some u/\F a=none/\c.B a=none/\qC K F t kvs u
 | .bd t kvs=>∃a u,o=some (.ref a)/\(c.L a=some u\/∃ob,F a=some (.bI ob u))/\qC K F t kvs u
def Slot.at_(F:Hp)(x:V)(a:Addr):Slot->Prop
 | .ot ps _ _=>∃p xs ys,x=.ref p/\F p=some (.tup (xs ++ .ref a::ys))/\xs.length=ps.length
 | .ol _=>∃(p:Addr) (as:List Addr),x=.ref p/\F p=some (.lst (as.map V.ref))/\a∈as
 | .ow _=>x=.ref a
 | .od _ _=>x=.ref a
 | .rc _ _ _=>x=.ref a
 |_=>False
def ĳ(F:Hp)(σ:L2.St)(ρ:Ĳ)(i:Nat)(a:Addr):Prop:=∃s x,ρ[i]?=some s/\σ[i]?=some (some x)/\s.at_ F x a
structure Rel(K:KK)(c:Ctx)(F H:Hp)(σ:L2.St)(ρ:Ĳ):Prop where
 sub:Same F H
 base:Same c.B H
 f0:Same c.F₀ F
 bI:∀a,c.B a≠none->c.F₀ a=none->F a=none
 lent:∀a u,c.L a=some u->H a=some u/\F a=none
 lb:∀a,c.B a=none->c.L a=none
 len:σ.length=ρ.length
 slot:∀(i:Nat) s,ρ[i]?=some s->Ō K c F H ((σ[i]?).getD none) s
 sep:∀i j a,ĳ F σ ρ i a->ĳ F σ ρ j a->i=j
def je(F:Hp)(σ:L2.St)(ρ:Ĳ)(a:Addr):Prop:=∀i,¬ĳ F σ ρ i a
section
variable{K:KK}{c:Ctx}{F F' H H':Hp}{σ:L2.St}{ρ:Ĳ}{a:Addr}{o:HO}
def lC{s:Slot}{x:V}(h:s.at_ F x a):s.own=true:=by
 cases s<;>first|rfl|exact h.elim
theorem lE:∀{as bs:List Addr},as.map V.ref=bs.map V.ref->as=bs
 | [],[],_=>rfl
 | [],_::_,h=>by cases h
 |_::_,[],h=>by cases h
 |a::as,b::bs,h=>by
  injection h with h1 h2
  injection h1 with h1
  rw[h1,lE h2]
def dz{ps qs rs:List PV}{x:V}{b:Addr}(h:(Slot.ot ps qs rs).at_ F x a)(h':(Slot.ot ps qs rs).at_ F x b):a=b:=by
 obtain⟨p,xs,us,h1,h2,l1⟩:=h
 obtain⟨q,ys,ws,h3,h4,l2⟩:=h'
 rw[h1] at h3
 cases h3
 rw[h2] at h4
 have e:xs++V.ref a::us=ys++V.ref b::ws:=by
  injection h4 with h4
  injection h4
 have e2:=(List.append_inj e (by omega)).2
 injection e2 with e2
 injection e2
theorem Cz{α β:Type}{G:α->β->Prop}:∀{l:List α} {m:List β} {x:α},Paired G l m->x∈l->∃y,y∈m/\G x y
 |_,_,_,.nil,h=>by simp at h
 |_,_,x,.cons r t,h=>by
  rcases List.mem_cons.mp h with rfl|h
  ·exact⟨_,List.mem_cons_self,r⟩
  ·obtain⟨y,h1,h2⟩:=Cz t h
   exact⟨y,List.mem_cons_of_mem _ h1,h2⟩
theorem tH{α β:Type}{G G':α->β->Prop}:∀{l:List α} {m:List β},Paired G l m->(∀x y,x∈l->G x y->G' x y)->Paired G' l m
 |_,_,.nil,_=>.nil
 |_,_,.cons r t,h=>.cons (h _ _ List.mem_cons_self r) (tH t λx y hx=>h x y (List.mem_cons_of_mem _ hx))
theorem qC.same{t:Bool}{kvs:List (DK×PV)}{u:HO}(h:qC K F t kvs u)(e:Same F F'):qC K F' t kvs u:=by
 rcases h with⟨ht,ks,h1,h2⟩|⟨ht,ks,h1,h2⟩
 ·exact .inl ⟨ht,ks,h1,tH h2 λp q _ ⟨r1,r2⟩=>⟨r1,r2.same e p.2 q.2⟩⟩
 ·exact .inr ⟨ht,ks,h1,tH h2 λp q _ ⟨r1,r2⟩=>⟨r1,r2.same e p.2 q.2⟩⟩
def Ō.grow{s:Slot}{x:Option V}(h:Ō K c F H x s)(eF:Same F F')(eH:∀b vs,(∃y,x=some y/\s.at_ F y b)->H b=some vs->F b=none->c.B b=none->H' b=some vs/\F' b=none):Ō K c F' H' x s:=by
 cases s with
 |no=>trivial
 |sh p=>obtain⟨v,h1,h2⟩:=h;exact⟨v,h1,h2.same eF p v⟩
 |ow ps=>
  obtain⟨b,vs,h1,h2,h3,h4,h5⟩:=h
  obtain⟨e1,e2⟩:=eH b _ ⟨_,h1,rfl⟩ h2 h3 h4
  exact⟨b,vs,h1,e1,e2,h4,h5.same eF ps vs⟩
 |bw ps=>obtain⟨b,vs,h1,h2,h3⟩:=h;exact⟨b,vs,h1,h2,h3.same eF ps vs⟩
 |bd t kvs=>obtain⟨b,u,h1,h2,h3⟩:=h;exact⟨b,u,h1,h2.imp id λ⟨ob,e⟩=>⟨ob,eF _ _ e⟩,h3.same eF⟩
 |od t kvs=>
  obtain⟨b,u,h1,h2,h3,h4,h5⟩:=h
  obtain⟨e1,e2⟩:=eH b _ ⟨_,h1,rfl⟩ h2 h3 h4
  exact⟨b,u,h1,e1,e2,h4,h5.same eF⟩
 |rc C ns ps=>
  obtain⟨b,dx,fs,h1,h2,h3,h4,h5,h6⟩:=h
  obtain⟨e1,e2⟩:=eH b _ ⟨_,h1,rfl⟩ h2 h3 h4
  exact⟨b,dx,fs,h1,e1,e2,h4,h5,h6.1.same eF ps _,h6.2⟩
 |ot ps qs rs=>
  obtain⟨p,b,xs,vs,ys,h1,h2,h3,h4,h5,h6,h7,h8⟩:=h
  obtain⟨e1,e2⟩:=eH b _ ⟨_,h1,p,xs,ys,rfl,h2,h3.length.symm⟩ h4 h5 h6
  exact⟨p,b,xs,vs,ys,h1,eF _ _ h2,h3.same eF ps xs,e1,e2,h6,h7.same eF qs vs,h8.same eF rs ys⟩
 |ol Bf=>
  obtain⟨p,as,h1,h2,h3,h4⟩:=h
  refine⟨p,as,h1,eF _ _ h2,h3,tH h4 λb ps hb ⟨vs,k1,k2,k3,k4⟩=>?_⟩
  obtain⟨e1,e2⟩:=eH b _ ⟨_,h1,p,as,rfl,h2,hb⟩ k1 k2 k3
  exact⟨vs,e1,e2,k3,k4.same eF ps vs⟩
def Ō.owned{s:Slot}{y:V}(h:Ō K c F H (some y) s)(ha:s.at_ F y a):∃u,H a=some u/\F a=none/\c.B a=none:=by
 cases s with
 |no=>exact ha.elim
 |sh p=>exact ha.elim
 |bw ps=>exact ha.elim
 |bd t kvs=>exact ha.elim
 |od t kvs=>
  obtain⟨b,u,h1,h2,h3,h4,h5⟩:=h
  rw[show y=.ref a from ha] at h1
  cases h1
  exact⟨_,h2,h3,h4⟩
 |ow ps=>
  obtain⟨b,vs,h1,h2,h3,h4,h5⟩:=h
  rw[show y=.ref a from ha] at h1
  cases h1
  exact⟨_,h2,h3,h4⟩
 |rc C ns ps=>
  obtain⟨b,dx,fs,h1,h2,h3,h4,h5,h6⟩:=h
  rw[show y=.ref a from ha] at h1
  cases h1
  exact⟨_,h2,h3,h4⟩
 |ot ps qs rs=>
  obtain⟨p,b,xs,vs,ys,h1,h2,h3,h4,h5,h6,h7,h8⟩:=h
  cases h1
  cases dz (ps:=ps) (qs:=qs) (rs:=rs) ha ⟨p,xs,ys,rfl,h2,h3.length.symm⟩
  exact⟨_,h4,h5,h6⟩
 |ol Bf=>
  obtain⟨p,as,h1,h2,h3,h4⟩:=h
  cases h1
  obtain⟨q,bs,e1,e2,e3⟩:=ha
  cases e1
  rw[h2] at e2
  have e:as=bs:=lE (by injection e2 with e2;injection e2)
  subst e
  obtain⟨ps,_,vs,k1,k2,k3,_⟩:=Cz h4 e3
  exact⟨_,k1,k2,k3⟩
def Ō.back{s:Slot}{y:V}(h:Ō K c F H (some y) s)(e:Same F F')(ha:s.at_ F' y a):s.at_ F y a:=by
 cases s with
 |ot ps qs rs=>
  obtain⟨p,b,xs,vs,ys,h1,h2,h3,h4,h5,h6,h7,h8⟩:=h
  cases h1
  cases dz (ps:=ps) (qs:=qs) (rs:=rs) ha ⟨p,xs,ys,rfl,e _ _ h2,h3.length.symm⟩
  exact⟨p,xs,ys,rfl,h2,h3.length.symm⟩
 |ol Bf=>
  obtain⟨p,as,h1,h2,h3,h4⟩:=h
  cases h1
  obtain⟨q,bs,e1,e2,e3⟩:=ha
  cases e1
  rw[e _ _ h2] at e2
  have z:as=bs:=lE (by injection e2 with e2;injection e2)
  subst z
  exact⟨p,as,rfl,h2,e3⟩
 |_=>exact ha
def CG{i:Nat}{x:V}(e:σ[i]?=some (some x)):(σ[i]?).getD none=some x:=by rw[e];rfl
def CJ{i:Nat}{x:V}(e:(σ[i]?).getD none=some x):σ[i]?=some (some x):=by
 cases q:σ[i]? with
 |none=>rw[q] at e;cases e
 |some y=>rw[q] at e;exact congrArg some e
theorem Rel.owned(r:Rel K c F H σ ρ){i:Nat}(h:ĳ F σ ρ i a):(∃u,H a=some u)/\F a=none/\c.B a=none:=by
 obtain⟨s,x,h1,h2,h3⟩:=h
 have q:=r.slot i s h1
 rw[CG h2] at q
 obtain⟨u,q⟩:=q.owned h3
 exact⟨⟨u,q.1⟩,q.2⟩
theorem Rel.back(r:Rel K c F H σ ρ)(e:Same F F'){i:Nat}(h:ĳ F' σ ρ i a):ĳ F σ ρ i a:=by
 obtain⟨s,x,h1,h2,h3⟩:=h
 have q:=r.slot i s h1
 rw[CG h2] at q
 exact⟨s,x,h1,h2,q.back e h3⟩
def Rel.Rb(r:Rel K c F H σ ρ)(e:Same F F'):∀i j a,ĳ F' σ ρ i a->ĳ F' σ ρ j a->i=j:=λi j a h1 h2=>r.sep i j a (r.back e h1) (r.back e h2)
def Rel.lF(r:Rel K c F H σ ρ)(e:Same F F')(h:je F σ ρ a):je F' σ ρ a:=λi q=>h i (r.back e q)
def Rel.fresh(r:Rel K c F H σ ρ)(h:H a=none):je F σ ρ a:=λi q=>by
 obtain⟨⟨u,e⟩,_⟩:=r.owned q
 rw[h] at e;cases e
def Rel.alloc(r:Rel K c F H σ ρ)(h:H a=none):Rel K c (upd F a o) (upd H a o) σ ρ where
 sub:=λb u e=>by
  by_cases hb:b=a
  ·subst hb;rw[č] at e ⊢;exact e
  ·rw[ċ hb] at e ⊢;exact r.sub b u e
 base:=λb u e=>by
  have hb:b≠a:=λz=>by rw[z] at e;rw[r.base _ _ e] at h;cases h
  rw[ċ hb];exact r.base b u e
 f0:=fun b u e=>by
   have hb:b≠a:=λz=>by rw[z] at e;rw[r.sub _ _ (r.f0 _ _ e)] at h;cases h
   rw[ċ hb];exact r.f0 b u e
 bI:=λb h1 h2=>by
  have hb:b≠a:=λz=>by
   subst z
   cases q:c.B b with
   |none=>exact h1 q
   |some u=>rw[r.base _ _ q] at h;cases h
  rw[ċ hb];exact r.bI b h1 h2
 lent:=λb u e=>by
  obtain⟨h1,h2⟩:=r.lent b u e
  have hb:b≠a:=λz=>by rw[z,h] at h1;cases h1
  rw[ċ hb,ċ hb];exact⟨h1,h2⟩
 lb:=r.lb
 len:=r.len
 slot:=λi s e=>by
  have hF:F a=none:=r.sub.free h
  refine(r.slot i s e).grow (Same.upd hF) λb u _ h1 h2 h3=>?_
  have hb:b≠a:=λz=>by rw[z,h] at h1;cases h1
  rw[ċ hb,ċ hb];exact⟨h1,h2⟩
 sep:=r.Rb (Same.upd (r.sub.free h))
def Rel.made(r:Rel K c F H σ ρ)(h:H a=none):Rel K c F (upd H a o) σ ρ where
 sub:=r.sub.trans (Same.upd h)
 base:=r.base.trans (Same.upd h)
 f0:=r.f0
 bI:=r.bI
 lent:=λb u e=>⟨Same.upd h b u (r.lent b u e).1,(r.lent b u e).2⟩
 lb:=r.lb
 len:=r.len
 slot:=λi s e=>(r.slot i s e).grow (Same.refl F) λb u _ h1 h2 h3=>⟨Same.upd h b u h1,h2⟩
 sep:=r.sep
def Rel.freeze(r:Rel K c F H σ ρ)(h:H a=some o)(hB:c.B a=none)(hF:F a=none)(hf:je F σ ρ a):Rel K c (upd F a o) H σ ρ where
 sub:=λb u e=>by
  by_cases hb:b=a
  ·subst hb;rw[č] at e;rw[h];exact e
  ·rw[ċ hb] at e;exact r.sub b u e
 base:=r.base
 f0:=r.f0.trans (Same.upd hF)
 bI:=λb h1 h2=>by
  have hb:b≠a:=λz=>h1 (by rw[z];exact hB)
  rw[ċ hb];exact r.bI b h1 h2
 lent:=λb u e=>by
  have hb:b≠a:=λz=>by rw[z,r.lb a hB] at e;cases e
  rw[ċ hb];exact r.lent b u e
 lb:=r.lb
 len:=r.len
 slot:=λi s e=>(r.slot i s e).grow (Same.upd hF) λb' u' ⟨y,e1',ha⟩ h1 h2 h3=>by
  have hb:b'≠a:=λz=>by
   subst z
   exact hf i ⟨s,y,e,CJ e1',ha⟩
  rw[ċ hb];exact⟨h1,h2⟩
 sep:=r.Rb (Same.upd hF)
def Ũ{α:Type}{l:List α}{i j:Nat}{x y:α}(h:(l.set i x)[j]?=some y):(j=i/\y=x/\i<l.length)\/(j≠i/\l[j]?=some y):=by
 by_cases hj:j=i
 ·subst hj
  have hl:j<l.length:=by
   have:=(List.getElem?_eq_some_iff.mp h).1
   simpa using this
  rw[List.getElem?_set_self hl] at h
  exact .inl ⟨rfl,(Option.some.inj h).symm,hl⟩
 ·rw[List.getElem?_set_ne (Ne.symm hj)] at h
  exact .inr ⟨hj,h⟩
def CK{l:L2.St}{i:Nat}{x:Option V}(h:i<l.length):((l.set i x)[i]?).getD none=x:=by rw[List.getElem?_set_self h];rfl
def xr{l:L2.St}{i j:Nat}{x:Option V}(h:j≠i):((l.set i x)[j]?).getD none=(l[j]?).getD none:=by rw[List.getElem?_set_ne (Ne.symm h)]
def ĳ.off{i j:Nat}{x:Option V}{s:Slot}(h:ĳ F (σ.set i x) (ρ.set i s) j a)(hj:j≠i):ĳ F σ ρ j a:=by
 obtain⟨s',y,h1,h2,h3⟩:=h
 rw[List.getElem?_set_ne (Ne.symm hj)] at h1 h2
 exact⟨s',y,h1,h2,h3⟩
def Rel.put(r:Rel K c F H σ ρ){i:Nat}{x:Option V}{s:Slot}(hs:s.own=false)(h:Ō K c F H x s):Rel K c F H (σ.set i x) (ρ.set i s) where
 sub:=r.sub
 base:=r.base
 f0:=r.f0
 bI:=r.bI
 lent:=r.lent
 lb:=r.lb
 len:=by simpa using r.len
 slot:=λj s' e=>by
  rcases Ũ e with⟨rfl,rfl,hl⟩|⟨hj,e⟩
  ·rw[CK (by rw[r.len];exact hl)];exact h
  ·rw[xr hj];exact r.slot j s' e
 sep:=λj k b h1 h2=>by
  have off:∀{j},ĳ F (σ.set i x) (ρ.set i s) j b->j≠i:=fun{j} q z=>by
   subst z
   obtain⟨s',y,q1,_,q2⟩:=q
   rcases Ũ q1 with⟨_,rfl,_⟩|⟨q,_⟩
   ·have:=lC q2;rw[hs] at this;cases this
   ·exact q rfl
  exact r.sep j k b (h1.off (off h1)) (h2.off (off h2))
def Rel.CN(r:Rel K c F H σ ρ){i:Nat}{s:Slot}(hs:s.own=false)(h:Ō K c F H ((σ[i]?).getD none) s):Rel K c F H σ (ρ.set i s) where
 sub:=r.sub
 base:=r.base
 f0:=r.f0
 bI:=r.bI
 lent:=r.lent
 lb:=r.lb
 len:=by simpa using r.len
 slot:=λj s' e=>by
  rcases Ũ e with⟨rfl,rfl,hl⟩|⟨hj,e⟩
  ·exact h
  ·exact r.slot j s' e
 sep:=λj k b h1 h2=>by
  have off:∀{j},ĳ F σ (ρ.set i s) j b->ĳ F σ ρ j b:=fun{j} ⟨s',y,q1,q3,q2⟩=>by
   rcases Ũ q1 with⟨_,rfl,_⟩|⟨_,q⟩
   ·have:=lC q2;rw[hs] at this;cases this
   ·exact⟨s',y,q,q3,q2⟩
  exact r.sep j k b (off h1) (off h2)
def Rel.zR(r:Rel K c F H σ ρ){i:Nat}{x:V}{s:Slot}(h:Ō K c F H (some x) s)(hf:∀a,s.at_ F x a->je F σ ρ a):Rel K c F H (σ.set i (some x)) (ρ.set i s) where
 sub:=r.sub
 base:=r.base
 f0:=r.f0
 bI:=r.bI
 lent:=r.lent
 lb:=r.lb
 len:=by simpa using r.len
 slot:=λj s' e=>by
  rcases Ũ e with⟨rfl,rfl,hl⟩|⟨hj,e⟩
  ·rw[CK (by rw[r.len];exact hl)];exact h
  ·rw[xr hj];exact r.slot j s' e
 sep:=λj k b h1 h2=>by
  have Rf:∀{j},ĳ F (σ.set i (some x)) (ρ.set i s) j b->(j=i/\s.at_ F x b)\/(j≠i/\ĳ F σ ρ j b):=fun{j} q=>by
   by_cases hj:j=i
   ·subst hj
    obtain⟨s',y,q1,q2,q3⟩:=q
    rcases Ũ q2 with⟨_,e,_⟩|⟨z,_⟩
    ·cases e
     rcases Ũ q1 with⟨_,e,_⟩|⟨z,_⟩
     ·cases e
      exact .inl ⟨rfl,q3⟩
     ·exact absurd rfl z
    ·exact absurd rfl z
   ·exact .inr ⟨hj,q.off hj⟩
  rcases Rf h1 with⟨e1,z1⟩|⟨e1,o1⟩
  ·rcases Rf h2 with⟨e2,z2⟩|⟨e2,o2⟩
   ·rw[e1,e2]
   ·exact absurd o2 (hf b z1 k)
  ·rcases Rf h2 with⟨e2,z2⟩|⟨e2,o2⟩
   ·exact absurd o1 (hf b z2 j)
   ·exact r.sep j k b o1 o2
def Rel.qD(r:Rel K c F H σ ρ){i:Nat}{s:Slot}(ho:ĳ F σ ρ i a)(h:Ō K c F (upd H a o) ((σ[i]?).getD none) s)(hs:∀x b,σ[i]?=some (some x)->s.at_ F x b->ĳ F σ ρ i b):Rel K c F (upd H a o) σ (ρ.set i s) where
 sub:=λb u e=>by
  have hb:b≠a:=λz=>by rw[z,(r.owned ho).2.1] at e;cases e
  rw[ċ hb];exact r.sub b u e
 base:=λb u e=>by
  have hb:b≠a:=λz=>by rw[z,(r.owned ho).2.2] at e;cases e
  rw[ċ hb];exact r.base b u e
 f0:=r.f0
 bI:=r.bI
 lent:=λb u e=>by
  have hb:b≠a:=λz=>by rw[z,r.lb a (r.owned ho).2.2] at e;cases e
  rw[ċ hb];exact r.lent b u e
 lb:=r.lb
 len:=by simpa using r.len
 slot:=λj s' e=>by
  rcases Ũ e with⟨rfl,rfl,hl⟩|⟨hj,e⟩
  ·exact h
  ·refine(r.slot j s' e).grow (Same.refl F) λb u ⟨y,e1,e2⟩ h1 h2 h3=>?_
   have hb:b≠a:=λz=>by
    subst z
    exact hj (r.sep j i b ⟨s',y,e,CJ e1,e2⟩ ho)
   exact⟨by rw[ċ hb];exact h1,h2⟩
 sep:=λj k b h1 h2=>by
  have off:∀{j},ĳ F σ (ρ.set i s) j b->ĳ F σ ρ j b:=fun{j} ⟨s',y,q1,q3,q2⟩=>by
   rcases Ũ q1 with⟨e,rfl,_⟩|⟨_,q⟩
   ·subst e
    exact hs y b q3 q2
   ·exact⟨s',y,q,q3,q2⟩
  exact r.sep j k b (off h1) (off h2)
def Rel.write(r:Rel K c F H σ ρ){i:Nat}{s:Slot}(ho:ĳ F σ ρ i a)(hx:σ[i]?=some (some (.ref a)))(h:Ō K c F (upd H a o) (some (.ref a)) s)(hs:∀b,s.at_ F (.ref a) b->b=a):Rel K c F (upd H a o) σ (ρ.set i s):=
 r.qD ho (by rw[hx];exact h) λx b e q=>by rw[hx] at e;cases e;rw[hs b q];exact ho
structure Gr(F H F' H':Hp):Prop where
 h:Same H H'
 f:Same F F'
 sub:Same F' H'
 out:∀a,H a≠none->F a=none->F' a=none
def Rel.call(r:Rel K c F H σ ρ)(g:Gr F H F' H'):Rel K c F' H' σ ρ where
 sub:=g.sub
 base:=r.base.trans g.h
 f0:=r.f0.trans g.f
 bI:=λb h1 h2=>by
  refine g.out b (λz=>h1 ?_) (r.bI b h1 h2)
  cases q:c.B b with
  |none=>rfl
  |some u=>rw[r.base _ _ q] at z;cases z
 lent:=λb u e=>⟨g.h b u (r.lent b u e).1,g.out b (by rw[(r.lent b u e).1];intro z;cases z) (r.lent b u e).2⟩
 lb:=r.lb
 len:=r.len
 slot:=λi s e=>(r.slot i s e).grow g.f λb u _ h1 h2 h3=>⟨g.h b u h1,g.out b (by rw[h1];intro z;cases z) h2⟩
 sep:=r.Rb g.f
def ctx0(F H:Hp):Ctx:=⟨H,F,λa=>match F a with
 |none=>H a
 |some _=>none,λ_ _ _=>True⟩
def bQ{a:Addr}{u:HO}(h:(ctx0 F H).L a=some u):H a=some u/\F a=none:=by
 unfold ctx0 at h
 dsimp only at h
 cases q:F a with
 |none=>rw[q] at h;exact⟨h,rfl⟩
 |some o=>rw[q] at h;cases h
def Rel.gr(r:Rel K (ctx0 F H) F' H' σ ρ):Gr F H F' H':=⟨r.base,r.f0,r.sub,r.bI⟩
def aF(K:KK)(F H:Hp):Slot->V->Prop
 | .sh p,v=>Rep K F p v
 | .bw ps,v=>∃a vs,v=.ref a/\H a=some (.lst vs)/\F a=none/\Ĉ K F ps vs
 |_,_=>False
def aF.slot{s:Slot}{v:V}(h:aF K F H s v):Ō K (ctx0 F H) F H (some v) s/\s.own=false:=by
 cases s with
 |sh p=>exact⟨⟨v,rfl,h⟩,rfl⟩
 |bw ps=>
  obtain⟨a,vs,rfl,h1,h2,h3⟩:=h
  refine⟨⟨a,vs,rfl,?_,h3⟩,rfl⟩
  show(match F a with|none=>H a|some _=>none)=_
  rw[h2]
  exact h1
 |no=>exact h.elim
 |ow ps=>exact h.elim
 |rc C ns ps=>exact h.elim
 |ot ps qs rs=>exact h.elim
 |ol Bf=>exact h.elim
 |od t kvs=>exact h.elim
 |bd t kvs=>exact h.elim
def startP(n:Nat)(as:List Slot):Ĳ:=as++List.replicate (n-as.length) .no
theorem Rel.start{N:List Str}{as:List Slot}{vs:List V}(s:Same F H)(h:Paired (aF K F H) as vs):Rel K (ctx0 F H) F H (L2.start N vs) (startP N.length as) where
 sub:=s
 base:=Same.refl H
 f0:=Same.refl F
 bI:=λ_ _ h=>h
 lent:=λ_ _ e=>bQ e
 lb:=fun a e=>by
   cases q:(ctx0 F H).L a with
   |none=>rfl
   |some u=>
    have e':H a=none:=e
    rw[(bQ q).1] at e'
    cases e'
 len:=by unfold L2.start startP;simp[Paired.length h]
 slot:=λi s' e=>by
  unfold startP at e
  by_cases hi:i<as.length
  ·rw[List.getElem?_append_left hi] at e
   obtain⟨v,h1,h2⟩:=ŷ h e
   have hv:((L2.start N vs)[i]?).getD none=some v:=by
    unfold L2.start
    rw[List.getElem?_append_left (by simpa[<-Paired.length h] using hi),List.getElem?_map,h1];rfl
   rw[hv]
   exact(aF.slot h2).1
  ·rw[List.getElem?_append_right (by omega),List.getElem?_replicate] at e
   split at e
   ·cases e;trivial
   ·cases e
 sep:=λi j a h1 _=>by
  obtain⟨s',y,h1,_,h2⟩:=h1
  have h2:=lC h2
  exfalso
  unfold startP at h1
  by_cases hi:i<as.length
  ·rw[List.getElem?_append_left hi] at h1
   obtain⟨v,_,h3⟩:=ŷ h h1
   rw[(aF.slot h3).2] at h2
   cases h2
  ·rw[List.getElem?_append_right (by omega),List.getElem?_replicate] at h1
   split at h1
   ·cases h1;cases h2
   ·cases h1
end
structure PX where
 C:String
 ns:List Str
 ps:List PV
def IK(K:KK)(F:Hp)(x:PX)(C:Value)(d:Option Addr):Prop:=C=.ref (K.cm x.C)/\∃fs,tE F d fs/\fs.map (·.1)=x.ns/\Ĉ K F x.ps (fs.map (·.2))
inductive Res(α:Type) where
 |ok (a:α) (ρ:Ĳ)|exc (x:PX) (ρ:Ĳ)|bad
def Res.bind{α β:Type}(r:Res α)(f:α->Ĳ->Res β):Res β:= match r with
 | .ok a ρ=>f a ρ
 | .exc x ρ=>.exc x ρ
 | .bad=>.bad
@[simp] theorem Res.jV{α β:Type}{a:α}{ρ:Ĳ}{f:α->Ĳ->Res β}:(Res.ok a ρ).bind f=f a ρ:= rfl
@[simp] theorem Res.Wo{α β:Type}{x:PX}{ρ:Ĳ}{f:α->Ĳ->Res β}:(Res.exc x ρ:Res α).bind f=.exc x ρ:= rfl
@[simp] theorem Res.Wq{α β:Type}{f:α->Ĳ->Res β}:(Res.bad:Res α).bind f=.bad:=rfl
def Res.jW{α:Type}(o:Option α)(ρ:Ĳ):Res α:= match o with
 |some a=>.ok a ρ
 |none=>.bad
@[simp] theorem Res.Wr{α:Type}{a:α}{ρ:Ĳ}:Res.jW (some a) ρ=.ok a ρ:= rfl
@[simp] theorem Res.Ws{α:Type}{ρ:Ĳ}:Res.jW (none:Option α) ρ=.bad:=rfl
abbrev M(α:Type):=Ĳ->Res α
inductive RV where
 |sh (p:PV)|ow (ps:List PV)|ot (ps qs rs:List PV)
def RV.val:RV->PV
 | .sh p=>p
 | .ow ps=>.lst ps
 | .ot ps qs rs=>.tup (ps ++ .lst qs::rs)
def RV.slot:RV->Slot
 | .sh p=>.sh p
 | .ow ps=>.ow ps
 | .ot ps qs rs=>.ot ps qs rs
abbrev RR(α β:Type):=Ctx->L2.St->Ĳ->Hp->Hp->α->β->Prop
def rV(K:KK):RR PV V:=λ_ _ _ F _ p v=>Rep K F p v
def xu(K:KK)(F H:Hp)(p:PV)(v:V):Prop:=match p with
 | .lst ps=>∃a vs,v=.ref a/\H a=some (.lst vs)/\Ĉ K F ps vs
 | .ins C ns ps=>∃a dx fs,v=.ref a/\H a=some (.ins (K.cm C) dx fs)/\fs.map (·.1)=ns/\Ĉ K F ps (fs.map (·.2))
 |_=>False
def rR(K:KK):RR PV V:=λ_ _ _ F H p v=>Rep K F p v\/xu K F H p v
def rA(K:KK):RR (List Slot) (List V):=λ_ _ _ F H as vs=>Paired (aF K F H) as vs
def Held(K:KK)(c:Ctx)(σ:L2.St)(ρ:Ĳ)(F H:Hp)(ps:List PV)(v:V):Prop:=∃a vs,v=.ref a/\H a=some (.lst vs)/\F a=none/\c.B a=none/\je F σ ρ a/\Ĉ K F ps vs
def xG(K:KK)(c:Ctx)(σ:L2.St)(ρ:Ĳ)(F H:Hp)(ps qs rs:List PV)(v:V):Prop:=∃p a xs vs ys,v=.ref p/\F p=some (.tup (xs ++ .ref a::ys))/\Ĉ K F ps xs/\H a=some (.lst vs)/\F a=none/\c.B a=none/\je F σ ρ a/\Ĉ K F qs vs/\Ĉ K F rs ys
def rO(K:KK):RR RV V:=λc σ ρ F H r v=>match r with
 | .sh p=>Rep K F p v
 | .ow ps=>Held K c σ ρ F H ps v
 | .ot ps qs rs=>xG K c σ ρ F H ps qs rs v
def rL(K:KK):RR (List PV) (List V):=λ_ _ _ F _ p v=>Ĉ K F p v
def Wt(K:KK):RR (List PV) (List V):=λc σ ρ F H p v=>Paired (rR K c σ ρ F H) p v
def rB:RR Bool Bool:=λ_ _ _ _ _ p v=>p=v
def rI:RR (Option Int) (Option Int):=λ_ _ _ _ _ p v=>p=v
def Ų{α β:Type}(K:KK)(E:L2.St->XK)(R:RR α β)(c:Ctx)(F H:Hp)(σ:L2.St)(Q:β->Hp->Prop):Res α->Prop
 | .ok p ρ'=>∀v F' H',Rel K c F' H' σ ρ'->Same F F'->Same H H'->R c σ ρ' F' H' p v->Q v H'
 | .exc x ρ'=>∀C d F' H',Rel K c F' H' σ ρ'->Same F F'->IK K F' x C d->E σ C d H'
 | .bad=>False
def tG{α β:Type}(K:KK)(E:L2.St->XK)(R:RR α β)(m:M α):L2.St->Hp->(β->Hp->Prop)->Prop:=λσ H Q=>∃c F ρ,Rel K c F H σ ρ/\Ų K E R c F H σ Q (m ρ)
section
variable{α β α' β':Type}{K:KK}{E:L2.St->XK}{R:RR α β}{R':RR α' β'}{c:Ctx}{F F1 H H1:Hp}{σ:L2.St}
def Ų.mono{Q:β->Hp->Prop}{r:Res α}(h:Ų K E R c F H σ Q r)(sF:Same F F1)(sH:Same H H1):Ų K E R c F1 H1 σ Q r:=by
 cases r with
 |ok p ρ'=>exact λv F' H' rel s1 s2 q=>h v F' H' rel (sF.trans s1) (sH.trans s2) q
 |exc x ρ'=>exact λC d F' H' rel s1 q=>h C d F' H' rel (sF.trans s1) q
 |bad=>exact h
theorem Ų.bind{Q:β->Hp->Prop}{Q':β'->Hp->Prop}{r:Res α}{f:α->Ĳ->Res α'}(h:Ų K E R' c F H σ Q' (r.bind f))
 (k:∀p ρ1 v F1 H1,Rel K c F1 H1 σ ρ1->Same F F1->Same H H1->R c σ ρ1 F1 H1 p v->Ų K E R' c F1 H1 σ Q' (f p ρ1)->Q v H1):Ų K E R c F H σ Q r:=by
 cases r with
 |ok p ρ'=>exact λv F' H' rel s1 s2 q=>k p ρ' v F' H' rel s1 s2 q (Ų.mono (show Ų K E R' c F H σ Q' (f p ρ') from h) s1 s2)
 |exc x ρ'=>exact h
 |bad=>exact h
theorem Ų.rel{R2:RR α β}{Q:β->Hp->Prop}{r:Res α}(h:Ų K E R c F H σ Q r)(k:∀p ρ' v F' H',Rel K c F' H' σ ρ'->R2 c σ ρ' F' H' p v->R c σ ρ' F' H' p v):Ų K E R2 c F H σ Q r:=by
 cases r with
 |ok p ρ'=>exact λv F' H' rel s1 s2 q=>h v F' H' rel s1 s2 (k p ρ' v F' H' rel q)
 |exc x ρ'=>exact h
 |bad=>exact h
end
abbrev tV(K:KK)(E:L2.St->XK)(m:M PV):TE:=tG K E (rV K) m
abbrev tR(K:KK)(E:L2.St->XK)(m:M PV):TE:=tG K E (rR K) m
abbrev tO(K:KK)(E:L2.St->XK)(m:M RV):TE:=tG K E (rO K) m
abbrev tL(K:KK)(E:L2.St->XK)(m:M (List PV)):TA:=tG K E (rL K) m
abbrev tA(K:KK)(E:L2.St->XK)(m:M (List Slot)):TA:=tG K E (rA K) m
abbrev KC(K:KK)(E:L2.St->XK)(m:M (List PV)):TA:=tG K E (Wt K) m
abbrev tB(K:KK)(E:L2.St->XK)(m:M Bool):TT:=tG K E rB m
inductive Fl where
 |nx|bk|ct|rt (r:RV)
def ř(K:KK)(E:L2.St->XK)(c:Ctx)(F:Hp)(D:Ends):Res Fl->Prop
 | .ok .nx ρ'=>∀σ' F' H',Rel K c F' H' σ' ρ'->Same F F'->D.nx σ' H'
 | .ok .bk ρ'=>∀σ' F' H',Rel K c F' H' σ' ρ'->Same F F'->D.bk σ' H'
 | .ok .ct ρ'=>∀σ' F' H',Rel K c F' H' σ' ρ'->Same F F'->D.ct σ' H'
 | .ok (.rt r) ρ'=>∀v σ' F' H',Rel K c F' H' σ' ρ'->Same F F'->rO K c σ' ρ' F' H' r v->D.rt v H'
 | .exc x ρ'=>∀σ' C d F' H',Rel K c F' H' σ' ρ'->Same F F'->IK K F' x C d->E σ' C d H'
 | .bad=>False
def tS(K:KK)(E:L2.St->XK)(m:M Fl):TS:=λD σ H=>∃c F ρ,Rel K c F H σ ρ/\ř K E c F D (m ρ)
section
variable{K:KK}{E:L2.St->XK}{c:Ctx}{F F1:Hp}{D:Ends}
def ř.mono{r:Res Fl}(h:ř K E c F D r)(sF:Same F F1):ř K E c F1 D r:=by
 cases r with
 |ok f ρ'=>
  cases f with
  |rt v=>exact λv σ' F' H' rel s1 q=>h v σ' F' H' rel (sF.trans s1) q
  |nx=>exact λσ' F' H' rel s1=>h σ' F' H' rel (sF.trans s1)
  |bk=>exact λσ' F' H' rel s1=>h σ' F' H' rel (sF.trans s1)
  |ct=>exact λσ' F' H' rel s1=>h σ' F' H' rel (sF.trans s1)
 |exc x ρ'=>exact λσ' C d F' H' rel s1 q=>h σ' C d F' H' rel (sF.trans s1) q
 |bad=>exact h
theorem ř.bind{α β:Type}{R:RR α β}{σ:L2.St}{H:Hp}{Q:β->Hp->Prop}{r:Res α}{f:α->Ĳ->Res Fl}(h:ř K E c F D (r.bind f))
 (k:∀p ρ1 v F1 H1,Rel K c F1 H1 σ ρ1->Same F F1->R c σ ρ1 F1 H1 p v->ř K E c F1 D (f p ρ1)->Q v H1):Ų K E R c F H σ Q r:=by
 cases r with
 |ok p ρ'=>exact λv F' H' rel s1 s2 q=>k p ρ' v F' H' rel s1 q (ř.mono (show ř K E c F D (f p ρ') from h) s1)
 |exc x ρ'=>exact λC d F' H' rel s1 q=>h σ C d F' H' rel s1 q
 |bad=>exact h
end
end P
namespace P
open PySem PySem.Spec PyProof.Rows L2 M2
def Ė(i:Nat):M PV:=λρ=>match ρ[i]? with
 |some (.sh p)=>.ok p ρ
 |some (.ow ps)=>.ok (.lst ps) (ρ.set i (.sh (.lst ps)))
 |_=>.bad
def Ā(i:Nat):M PV:=λρ=>match ρ[i]? with
 |some (.sh p)=>.ok p ρ
 |some (.ow ps)=>.ok (.lst ps) ρ
 |some (.bw ps)=>.ok (.lst ps) ρ
 |some (.rc C ns ps)=>.ok (.ins C ns ps) ρ
 |_=>.bad
def jf(i:Nat):M RV:=λρ=>match ρ[i]? with
 |some (.sh p)=>.ok (.sh p) ρ
 |some (.ow ps)=>.ok (.ow ps) (ρ.set i .no)
 |_=>.bad
def mC(p:PV):M PV:=λρ=>.ok p ρ
def Ś(m:M PV):M RV:=λρ=>(m ρ).bind λp ρ1=>.ok (.sh p) ρ1
def ē(m:M RV):M PV:=λρ=>(m ρ).bind λr ρ1=>.ok r.val ρ1
section
variable{K:KK}{c:Ctx}{F H:Hp}{σ:L2.St}{ρ:Ĳ}
def at_of{i:Nat}{x:V}(h:(σ[i]?).getD none=some x):σ[i]?=some (some x):=by
 cases q:σ[i]? with
 |none=>rw[q] at h;cases h
 |some y=>rw[q] at h;exact congrArg some h
theorem Rel.ow(r:Rel K c F H σ ρ){i:Nat}{ps:List PV}(e:ρ[i]?=some (.ow ps)):∃a vs,σ[i]?=some (some (.ref a))/\H a=some (.lst vs)/\F a=none/\c.B a=none/\Ĉ K F ps vs/\ĳ F σ ρ i a:=by
 obtain⟨a,vs,h1,h2,h3,h4,h5⟩:=r.slot i _ e
 exact⟨a,vs,at_of h1,h2,h3,h4,h5,⟨_,_,e,at_of h1,rfl⟩⟩
def Rel.move(r:Rel K c F H σ ρ){i:Nat}{a:Addr}(h:ĳ F σ ρ i a):Rel K c F H σ (ρ.set i .no)/\je F σ (ρ.set i .no) a:=by
 refine⟨r.CN rfl trivial,λj ⟨s,y,q1,q3,q2⟩=>?_⟩
 rcases Ũ q1 with⟨_,rfl,_⟩|⟨hj,q⟩
 ·exact q2.elim
 ·exact hj (r.sep j i a ⟨s,y,q,q3,q2⟩ h)
def Rel.share(r:Rel K c F H σ ρ){i:Nat}{ps:List PV}(e:ρ[i]?=some (.ow ps)):∃a vs,σ[i]?=some (some (.ref a))/\F a=none/\Rep K (upd F a (.lst vs)) (.lst ps) (.ref a)/\Rel K c (upd F a (.lst vs)) H σ (ρ.set i (.sh (.lst ps))):=by
 obtain⟨a,vs,h1,h2,h3,h4,h5,ho⟩:=r.ow e
 obtain⟨m1,m2⟩:=r.move ho
 have rp:Rep K (upd F a (.lst vs)) (.lst ps) (.ref a):=by
  unfold Rep
  exact⟨a,vs,rfl,Ř.of č,h5.same (Same.upd h3) ps vs⟩
 have q:=(m1.freeze h2 h4 h3 m2).CN (i:=i) (s:=.sh (.lst ps)) rfl (show Ō K c _ H _ (.sh (.lst ps)) from⟨.ref a,by rw[h1];rfl,rp⟩)
 rw[List.set_set] at q
 exact⟨a,vs,h1,h3,rp,q⟩
def xu.mono{F1 H1:Hp}{p:PV}{v:V}(h:xu K F H p v)(sF:Same F F1)(sH:Same H H1):xu K F1 H1 p v:=by
 cases p with
 |lst ps=>
  obtain⟨a,vs,h2,h3,h4⟩:=h
  exact⟨a,vs,h2,sH _ _ h3,h4.same sF ps vs⟩
 |ins C ns ps=>
  obtain⟨a,dx,fs,h2,h3,h4,h5⟩:=h
  exact⟨a,dx,fs,h2,sH _ _ h3,h4,h5.same sF ps _⟩
 |_=>exact h.elim
theorem rR.mono{c:Ctx}{σ:L2.St}{ρ ρ':Ĳ}{F1 H1:Hp}{p:PV}{v:V}(h:rR K c σ ρ F H p v)(sF:Same F F1)(sH:Same H H1):rR K c σ ρ' F1 H1 p v:=by
 rcases h with h|h
 ·exact .inl (h.same sF p v)
 ·exact .inr (h.mono sF sH)
theorem rR.lst{c:Ctx}{σ:L2.St}{ρ:Ĳ}{ps:List PV}{v:V}(s:Same F H)(h:rR K c σ ρ F H (.lst ps) v):∃a vs,v=.ref a/\Ř K.K H a vs/\Ĉ K F ps vs:=by
 rcases h with h|⟨a,vs,h2,h3,h4⟩
 ·unfold Rep at h
  obtain⟨a,xs,h1,h2,h3⟩:=h
  exact⟨a,xs,h1,s.seq h2,h3⟩
 ·exact⟨a,vs,h2,Ř.of h3,h4⟩
theorem rR.tup{c:Ctx}{σ:L2.St}{ρ:Ĳ}{ps:List PV}{v:V}(s:Same F H)(h:rR K c σ ρ F H (.tup ps) v):∃a vs,v=.ref a/\bx K.K H a vs/\Ĉ K F ps vs:=by
 rcases h with h|h
 ·unfold Rep at h
  obtain⟨a,xs,h1,h2,h3⟩:=h
  exact⟨a,xs,h1,bx.of (s _ _ h2),h3⟩
 ·exact h.elim
theorem rR.int{c:Ctx}{σ:L2.St}{ρ:Ĳ}{i:Int}{v:V}(h:rR K c σ ρ F H (.int i) v):v=.int i:=by
 rcases h with h|h
 ·unfold Rep at h;exact h
 ·exact h.elim
theorem rR.str{c:Ctx}{σ:L2.St}{ρ:Ĳ}{i:Str}{v:V}(h:rR K c σ ρ F H (.str i) v):v=.str i:=by
 rcases h with h|h
 ·unfold Rep at h;exact h
 ·exact h.elim
theorem rR.bl{c:Ctx}{σ:L2.St}{ρ:Ĳ}{i:Bool}{v:V}(h:rR K c σ ρ F H (.bl i) v):v=.bl i:=by
 rcases h with h|h
 ·unfold Rep at h;exact h
 ·exact h.elim
theorem rR.non{c:Ctx}{σ:L2.St}{ρ:Ĳ}{v:V}(h:rR K c σ ρ F H .non v):v=.non:=by
 rcases h with h|h
 ·unfold Rep at h;exact h
 ·exact h.elim
theorem rR.ty{c:Ctx}{σ:L2.St}{ρ:Ĳ}{n:String}{v:V}(h:rR K c σ ρ F H (.ty n) v):v=.ty n:=by
 rcases h with h|h
 ·unfold Rep at h;exact h
 ·exact h.elim
theorem Rep.int{i:Int}:Rep K F (.int i) (.int i):=by unfold Rep;rfl
theorem Rep.str{i:Str}:Rep K F (.str i) (.str i):=by unfold Rep;rfl
theorem Rep.bl{i:Bool}:Rep K F (.bl i) (.bl i):=by unfold Rep;rfl
theorem Rep.non:Rep K F .non .non:=by unfold Rep;rfl
end
section
variable{X:Cx}{cm:String->Addr}{E:L2.St->XK}{a b e:Expr}{es:List Expr}{pos:Pos}{m ma mb mc:M PV}{mo:M RV}
def PT.wk{t t':TT}(h:PT X e t)(i:∀σ H Q,t' σ H Q->t σ H Q):PT X e t':=λpins s σ H Q I q=>h pins s σ H Q I (i σ H Q q)
def PA.wk{t t':TA}(h:PA X es t)(i:∀σ H Q,t' σ H Q->t σ H Q):PA X es t':=λpos pins s σ H Q I q=>h pos pins s σ H Q I (i σ H Q q)
def PW.wk{t t':TT}(h:PW X e t)(i:∀σ H Q,t' σ H Q->t σ H Q):PW X e t':=λwh pins s σ H Q I q=>h wh pins s σ H Q I (i σ H Q q)
def fG.wk{st:List Stmt}{t t':TS}(h:fG X st t)(i:∀D σ H,t' D σ H->t D σ H):fG X st t':=λpins s σ H D I q=>h pins s σ H D I (i D σ H q)
def v_var(i:Nat){x:Str}{pos:Pos}(hN:X.N[i]?=some x:=by rfl)(hv:sE X.env.scope x:=by first|exact Or.inl rfl|exact Or.inr (Or.inl rfl)|exact Or.inr (Or.inr rfl))(hd:(x== ("__debug__" :Str))=false:=by decide)
 (hcd:(x== ("__classdict__" :Str))=false:=by decide):PE X (.Name x pos) (tV (kk X cm) E (Ė i)):=PE.wk (Ů hN hv hd hcd) λσ H Q ⟨c,F,ρ,rel,h⟩=>by
 unfold Ė at h
 split at h
 ·rename_i p e
  obtain⟨v,h1,h2⟩:=rel.slot i _ e
  exact⟨v,at_of h1,h v F H rel (Same.refl F) (Same.refl H) h2⟩
 ·rename_i ps e
  obtain⟨a,vs,h1,h2,h3,h4⟩:=rel.share e
  exact⟨.ref a,h1,h _ _ H h4 (Same.upd h2) (Same.refl H) h3⟩
 ·exact h.elim
def ā(i:Nat){x:Str}{pos:Pos}(hN:X.N[i]?=some x:=by rfl)(hv:sE X.env.scope x:=by first|exact Or.inl rfl|exact Or.inr (Or.inl rfl)|exact Or.inr (Or.inr rfl))(hd:(x== ("__debug__" :Str))=false:=by decide)
 (hcd:(x== ("__classdict__" :Str))=false:=by decide):PE X (.Name x pos) (tR (kk X cm) E (Ā i)):=PE.wk (Ů hN hv hd hcd) λσ H Q ⟨c,F,ρ,rel,h⟩=>by
 unfold Ā at h
 split at h
 ·rename_i p e
  obtain⟨v,h1,h2⟩:=rel.slot i _ e
  exact⟨v,at_of h1,h v F H rel (Same.refl F) (Same.refl H) (.inl h2)⟩
 ·rename_i ps e
  obtain⟨a,vs,h1,h2,h3,h4,h5,_⟩:=rel.ow e
  exact⟨.ref a,h1,h _ F H rel (Same.refl F) (Same.refl H) (.inr ⟨a,vs,rfl,h2,h5⟩)⟩
 ·rename_i ps e
  obtain⟨a,vs,h1,h2,h3⟩:=rel.slot i _ e
  exact⟨.ref a,at_of h1,h _ F H rel (Same.refl F) (Same.refl H) (.inr ⟨a,vs,rfl,(rel.lent a _ h2).1,h3⟩)⟩
 ·rename_i C ns ps e
  obtain⟨a,dx,fs,h1,h2,h3,h4,h5,h6⟩:=rel.slot i _ e
  exact⟨.ref a,at_of h1,h _ F H rel (Same.refl F) (Same.refl H) (.inr ⟨a,dx,fs,rfl,h2,h5,h6.1⟩)⟩
 ·exact h.elim
def tK(i:Nat){x:Str}{pos:Pos}(hN:X.N[i]?=some x:=by rfl)(hv:sE X.env.scope x:=by first|exact Or.inl rfl|exact Or.inr (Or.inl rfl)|exact Or.inr (Or.inr rfl))(hd:(x== ("__debug__" :Str))=false:=by decide)
 (hcd:(x== ("__classdict__" :Str))=false:=by decide):PE X (.Name x pos) (tO (kk X cm) E (jf i)):=PE.wk (Ů hN hv hd hcd) λσ H Q ⟨c,F,ρ,rel,h⟩=>by
 unfold jf at h
 split at h
 ·rename_i p e
  obtain⟨v,h1,h2⟩:=rel.slot i _ e
  exact⟨v,at_of h1,h v F H rel (Same.refl F) (Same.refl H) h2⟩
 ·rename_i ps e
  obtain⟨a,vs,h1,h2,h3,h4,h5,h6⟩:=rel.ow e
  obtain⟨m1,m2⟩:=rel.move h6
  exact⟨.ref a,h1,h _ F H m1 (Same.refl F) (Same.refl H) ⟨a,vs,rfl,h2,h3,h4,m2,h5⟩⟩
 ·exact h.elim
def rY{v:V}(p:PV)(h:PE X e (tC v))(hr:∀F,Rep (kk X cm) F p v:=by intro _;unfold Rep;rfl):PE X e (tV (kk X cm) E (mC p)):=PE.wk h λσ H Q ⟨c,F,ρ,rel,h⟩=>h v F H rel (Same.refl F) (Same.refl H) (hr F)
def ŏ{i j pos}:PE X (.Constant (.int i) j pos) (tV (kk X cm) E (mC (.int i))):=rY _ Bk
def Rg{i j pos}:PE X (.Constant (.bool i) j pos) (tV (kk X cm) E (mC (.bl i))):=rY _ Vs
def tM{j pos}:PE X (.Constant .none j pos) (tV (kk X cm) E (mC .non)):=rY _ Py
def fP{x j pos}:PE X (.Constant (.str x) j pos) (tV (kk X cm) E (mC (.str x))):=rY _ Pz
def ĝ(h:PE X e (tV (kk X cm) E m)):PE X e (tR (kk X cm) E m):=PE.wk h λσ H Q ⟨c,F,ρ,rel,h⟩=>⟨c,F,ρ,rel,h.rel λ_ _ _ _ _ _ q=>.inl q⟩
def cF(h:PE X e (tV (kk X cm) E m)):PE X e (tO (kk X cm) E (Ś m)):=PE.wk h λσ H Q ⟨c,F,ρ,rel,h⟩=>⟨c,F,ρ,rel,h.bind λp ρ1 v F1 H1 ć s1 s2 q h1=>h1 v F1 H1 ć (Same.refl _) (Same.refl _) q⟩
def Held.share{K:KK}{c:Ctx}{F H:Hp}{σ:L2.St}{ρ:Ĳ}{ps:List PV}{v:V}(rel:Rel K c F H σ ρ)(h:Held K c σ ρ F H ps v):∃F1,Same F F1/\Rel K c F1 H σ ρ/\Rep K F1 (.lst ps) v:=by
 obtain⟨a,vs,rfl,h1,h2,h3,h4,h5⟩:=h
 refine⟨_,Same.upd h2,rel.freeze h1 h3 h2 h4,?_⟩
 unfold Rep
 exact⟨a,vs,rfl,Ř.of č,h5.same (Same.upd h2) ps vs⟩
def xG.share{K:KK}{c:Ctx}{F H:Hp}{σ:L2.St}{ρ:Ĳ}{ps qs rs:List PV}{v:V}(rel:Rel K c F H σ ρ)(h:xG K c σ ρ F H ps qs rs v):∃F1,Same F F1/\Rel K c F1 H σ ρ/\Rep K F1 (.tup (ps ++ .lst qs::rs)) v:=by
 obtain⟨p,a,xs,vs,ys,rfl,h0,hx,h1,h2,h3,h4,h5,h6⟩:=h
 refine⟨_,Same.upd h2,rel.freeze h1 h3 h2 h4,?_⟩
 have ra:Rep K (upd F a (.lst vs)) (.lst qs) (.ref a):=by
  unfold Rep
  exact⟨a,vs,rfl,Ř.of č,h5.same (Same.upd h2) qs vs⟩
 unfold Rep
 exact⟨p,_,rfl,Same.upd h2 _ _ h0,Ĉ.append (hx.same (Same.upd h2) ps xs) (Ĉ.cons ra (h6.same (Same.upd h2) rs ys))⟩
def Ĭ(h:PE X e (tO (kk X cm) E mo)):PE X e (tV (kk X cm) E (ē mo)):=PE.wk h λσ H Q ⟨c,F,ρ,rel,h⟩=>⟨c,F,ρ,rel,h.bind λr ρ1 v F1 H1 ć s1 s2 q h1=>by
 cases r with
 |sh p=>exact h1 v F1 H1 ć (Same.refl _) (Same.refl _) q
 |ow ps=>
  obtain⟨F2,s3,Ġ,rp⟩:=Held.share ć q
  exact h1 v F2 H1 Ġ s3 (Same.refl _) rp
 |ot ps qs rs=>
  obtain⟨F2,s3,Ġ,rp⟩:=xG.share ć q
  exact h1 v F2 H1 Ġ s3 (Same.refl _) rp⟩
def ă(f:PV->PV->Option PV)(ma mb:M PV):M PV:=λρ=>(ma ρ).bind λp ρ1=>(mb ρ1).bind λq ρ2=>Res.jW (f p q) ρ2
def ģ(f:PV->PV->Option RV)(ma mb:M PV):M RV:=λρ=>(ma ρ).bind λp ρ1=>(mb ρ1).bind λq ρ2=>Res.jW (f p q) ρ2
def jg(K:KK)(r:R2)(f:PV->PV->Option PV):Prop:=∀{c:Ctx} {F H:Hp} {σ:L2.St} {ρ:Ĳ} {p q pv:PV} {v u:V} {Q:VK},Rel K c F H σ ρ->rR K c σ ρ F H p v->rR K c σ ρ F H q u->f p q=some pv->
 (∀z F' H',Rel K c F' H' σ ρ->Same F F'->Same H H'->Rep K F' pv z->Q z H')->r v u H Q
def OpO(K:KK)(r:R2)(f:PV->PV->Option RV):Prop:=∀{c:Ctx} {F H:Hp} {σ:L2.St} {ρ:Ĳ} {p q:PV} {pv:RV} {v u:V} {Q:VK},Rel K c F H σ ρ->rR K c σ ρ F H p v->rR K c σ ρ F H q u->f p q=some pv->
 (∀z F' H',Rel K c F' H' σ ρ->Same F F'->Same H H'->rO K c σ ρ F' H' pv z->Q z H')->r v u H Q
def xH{r:R2}{f:PV->PV->Option PV}(hf:jg (kk X cm) r f){σ:L2.St}{H:Hp}{Q:VK}(h:tV (kk X cm) E (ă f ma mb) σ H Q):Qh r (tR (kk X cm) E ma) (tR (kk X cm) E mb) σ H Q:=by
 obtain⟨c,F,ρ,rel,h⟩:=h
 refine⟨c,F,ρ,rel,h.bind λp ρ1 v F1 H1 ć _ _ r1 h1=>⟨c,F1,ρ1,ć,h1.bind λq ρ2 u F2 H2 Ġ sF sH r2 h2=>?_⟩⟩
 cases e:f p q with
 |none=>rw[e] at h2;exact h2.elim
 |some pv=>rw[e] at h2;exact hf Ġ (r1.mono sF sH) r2 e λz F' H' ş s1 s2 q'=>h2 z F' H' ş s1 s2 q'
def Wu{r:R2}{f:PV->PV->Option RV}(hf:OpO (kk X cm) r f){σ:L2.St}{H:Hp}{Q:VK}(h:tO (kk X cm) E (ģ f ma mb) σ H Q):Qh r (tR (kk X cm) E ma) (tR (kk X cm) E mb) σ H Q:=by
 obtain⟨c,F,ρ,rel,h⟩:=h
 refine⟨c,F,ρ,rel,h.bind λp ρ1 v F1 H1 ć _ _ r1 h1=>⟨c,F1,ρ1,ć,h1.bind λq ρ2 u F2 H2 Ġ sF sH r2 h2=>?_⟩⟩
 cases e:f p q with
 |none=>rw[e] at h2;exact h2.elim
 |some pv=>rw[e] at h2;exact hf Ġ (r1.mono sF sH) r2 e λz F' H' ş s1 s2 q'=>h2 z F' H' ş s1 s2 q'
def Ÿ{op:Operator}{r:R2}{f:PV->PV->Option PV}(hf:jg (kk X cm) r f)(ho:Š X (binaryOp op) r)(ha:PE X a (tR (kk X cm) E ma))(hb:PE X b (tR (kk X cm) E mb)):PE X (.BinOp a op b pos) (tV (kk X cm) E (ă f ma mb)):=PE.wk (Kw ho ha hb) λ_ _ _ h=>xH hf h
def Wv{op:Operator}{r:R2}{f:PV->PV->Option RV}(hf:OpO (kk X cm) r f)(ho:Š X (binaryOp op) r)(ha:PE X a (tR (kk X cm) E ma))(hb:PE X b (tR (kk X cm) E mb)):PE X (.BinOp a op b pos) (tO (kk X cm) E (ģ f ma mb)):=PE.wk (Kw ho ha hb) λ_ _ _ h=>Wu hf h
def tQ{op:CmpOp}{r:R2}{f:PV->PV->Option PV}(hf:jg (kk X cm) r f)(ho:Š X (compareOp op) r)(ha:PE X a (tR (kk X cm) E ma))(hb:PE X b (tR (kk X cm) E mb))(hm:behindInMarks op b=false):PE X (.Compare a [op] [b] pos) (tV (kk X cm) E (ă f ma mb)):=
 PE.wk (HS ho ha hb hm) λ_ _ _ h=>xH hf h
def Zbj{r:R2}{f:PV->PV->Option PV}(hf:jg (kk X cm) r f)(hr:vK X r)(ha:PE X a (tR (kk X cm) E ma))(hb:PE X b (tR (kk X cm) E mb))(hs:jT b):PE X (.Subscript a b pos) (tV (kk X cm) E (ă f ma mb)):=
 PE.wk (Kz hr ha hb hs) λ_ _ _ h=>xH hf h
def IV(f:PV->Option PV)(ma:M PV):M PV:=λρ=>(ma ρ).bind λp ρ1=>Res.jW (f p) ρ1
def UnV(K:KK)(r:V->Hp->VK->Prop)(f:PV->Option PV):Prop:=∀{c:Ctx} {F H:Hp} {σ:L2.St} {ρ:Ĳ} {p pv:PV} {v:V} {Q:VK},Rel K c F H σ ρ->rR K c σ ρ F H p v->f p=some pv->
 (∀z F' H',Rel K c F' H' σ ρ->Same F F'->Same H H'->Rep K F' pv z->Q z H')->r v H Q
def Zbk{op:UnaryOp}{r:V->Hp->VK->Prop}{f:PV->Option PV}(hf:UnV (kk X cm) r f)(ho:HJ X (unaryOp op) r)(ha:PE X a (tR (kk X cm) E ma)):PE X (.UnaryOp op a pos) (tV (kk X cm) E (IV f ma)):=PE.wk (VG ho ha) λσ H Q ⟨c,F,ρ,rel,h⟩=>
 ⟨c,F,ρ,rel,h.bind fun p ρ1 v F1 H1 ć _ _ r1 h1=>by
   cases e:f p with
   |none=>rw[e] at h1;exact h1.elim
   |some pv=>rw[e] at h1;exact hf ć r1 e λz F' H' ş s1 s2 q'=>h1 z F' H' ş s1 s2 q'⟩
def Rh:PV->Option Bool
 | .bl b=>some b
 | .int i=>some (i != 0)
 | .non=>some false
 | .str y=>if y.length<=sizeLine then some ((y.length:Int) != 0) else none
 | .lst ps=>some (!ps.isEmpty)
 | .tup ps=>some (!ps.isEmpty)
 |_=>none
def jH(m:M PV):M Bool:=λρ=>(m ρ).bind λp ρ1=>Res.jW (Rh p) ρ1
def Ww{K:KK}{c:Ctx}{F H:Hp}{σ:L2.St}{ρ:Ĳ}{p:PV}{v:V}{k:Bool}(s:Same F H)(r:rR K c σ ρ F H p v)(h:Rh p=some k):Qq K.K v H k:=by
 cases p with
 |bl b=>cases r.bl;cases h;rfl
 |int i=>cases r.int;cases h;rfl
 |non=>cases r.non;cases h;rfl
 |str y=>
  cases r.str
  have h':(if y.length<=sizeLine then some ((y.length:Int) != 0) else none)=some k:=h
  split at h'
  ·rename_i hy;cases h';exact⟨hy,rfl⟩
  ·cases h'
 |lst ps=>
  obtain⟨a,vs,rfl,h1,h2⟩:=r.lst s
  cases h
  have e:ps.isEmpty=vs.isEmpty:=by cases h2.pr<;>rfl
  exact .inl ⟨vs,h1,by rw[e]⟩
 |tup ps=>
  obtain⟨a,vs,rfl,h1,h2⟩:=r.tup s
  cases h
  have e:ps.isEmpty=vs.isEmpty:=by cases h2.pr<;>rfl
  exact .inr (.inl ⟨vs,h1,by rw[e]⟩)
 |ins C ns ps=>cases h
 |xc C ns ps=>cases h
 |ty n=>cases h
 |cls C=>cases h
def dO(ha:PE X a (tR (kk X cm) E ma))(he:∀whole,isTrue a X.env whole=(do let v <-whole;standAt a.pos;holding [v] (truthy v)):=by intro _;rfl):PT X a (tB (kk X cm) E (jH ma)):=PT.wk (Bw ha he) λσ H Q ⟨c,F,ρ,rel,h⟩=>
 ⟨c,F,ρ,rel,h.bind fun p ρ1 v F1 H1 ć _ _ r1 h1=>by
   cases e:Rh p with
   |none=>rw[e] at h1;exact h1.elim
   |some k=>rw[e] at h1;exact⟨k,Ww ć.sub r1 e,h1 k F1 H1 ć (Same.refl _) (Same.refl _) rfl⟩⟩
def cH(m:M PV):M Bool:=λρ=>(m ρ).bind λp ρ1=>match p with
 | .bl b=>.ok b ρ1
 |_=>.bad
def KD{σ:L2.St}{H:Hp}{Q:Bool->Hp->Prop}(h:tB (kk X cm) E (cH m) σ H Q):M2.B_ (tV (kk X cm) E m) σ H Q:=by
 obtain⟨c,F,ρ,rel,h⟩:=h
 refine⟨c,F,ρ,rel,h.bind λp ρ1 v F1 H1 ć _ _ r1 h1=>?_⟩
 cases p with
 |bl b=>
  have e:v=.bl b:=by have r1':Rep (kk X cm) F1 (.bl b) v:=r1;unfold Rep at r1';exact r1'
  subst e
  exact h1 b F1 H1 ć (Same.refl _) (Same.refl _) rfl
 |_=>exact h1.elim
def cQ{op:CmpOp}{r:R2}{f:PV->PV->Option PV}(hf:jg (kk X cm) r f)(ho:Š X (compareOp op) r)(ha:PE X a (tR (kk X cm) E ma))(hb:PE X b (tR (kk X cm) E mb))(hm:behindInMarks op b=false):PT X (.Compare a [op] [b] pos) (tB (kk X cm) E (cH (ă f ma mb))):=
 PT.wk (QD ho ha hb hm) fun σ H Q h=>by
   obtain⟨c,F,ρ,rel,h⟩:=KD h
   exact xH hf ⟨c,F,ρ,rel,h⟩
def lG(f g:PV->PV->Option PV)(ma mb mc:M PV):M PV:=λρ=>(ma ρ).bind λp ρ1=>(mb ρ1).bind λq ρ2=>(Res.jW (f p q) ρ2).bind λz ρ3=>match z with
 | .bl true=>(mc ρ3).bind λw ρ4=>Res.jW (g q w) ρ4
 | .bl false=>.ok (.bl false) ρ3
 |_=>.bad
def KH{r r':R2}{f g:PV->PV->Option PV}(hf:jg (kk X cm) r f)(hg:jg (kk X cm) r' g){σ:L2.St}{H:Hp}{Q:VK}(h:tV (kk X cm) E (lG f g ma mb mc) σ H Q):M2.vL r r' (tR (kk X cm) E ma) (tR (kk X cm) E mb) (tR (kk X cm) E mc) σ H Q:=by
 obtain⟨c,F,ρ,rel,h⟩:=h
 refine⟨c,F,ρ,rel,h.bind λp ρ1 v F1 H1 ć _ _ r1 h1=>⟨c,F1,ρ1,ć,h1.bind λq ρ2 u F2 H2 Ġ sF sH r2 h2=>?_⟩⟩
 cases e:f p q with
 |none=>rw[e] at h2;exact h2.elim
 |some pv=>
  rw[e] at h2
  refine hf Ġ (r1.mono sF sH) r2 e λz F' H' ş s1 s2 q'=>?_
  cases pv with
  |bl k=>
   have ez:z=.bl k:=by unfold Rep at q';exact q'
   subst ez
   cases k with
   |false=>exact h2 _ F' H' ş s1 s2 q'
   |true=>
    refine⟨c,F',ρ2,ş,Ų.bind (Ų.mono h2 s1 s2) λw ρ4 x F4 H4 tU s3 s4 r4 h4=>?_⟩
    cases e':g q w with
    |none=>rw[e'] at h4;exact h4.elim
    |some pv'=>rw[e'] at h4;exact hg tU (r2.mono (s1.trans s3) (s2.trans s4)) r4 e' λz F' H' ş s1 s2 q'=>h4 z F' H' ş s1 s2 q'
  |_=>exact h2.elim
def tW{op op':CmpOp}{r r':R2}{f g:PV->PV->Option PV}{c:Expr}(hf:jg (kk X cm) r f)(hg:jg (kk X cm) r' g)(ho:Š X (compareOp op) r)(ho':Š X (compareOp op') r')(ha:PE X a (tR (kk X cm) E ma))(hb:PE X b (tR (kk X cm) E mb))(hc:PE X c (tR (kk X cm) E mc))
 (hm:lastMarks [op,op'] [b,c]=false:=by with_unfolding_all rfl):PE X (.Compare a [op,op'] [b,c] pos) (tV (kk X cm) E (lG f g ma mb mc)):=PE.wk (Ca ho ho' ha hb hc hm) λ_ _ _ h=>KH hf hg h
def KJ{op op':CmpOp}{r r':R2}{f g:PV->PV->Option PV}{c:Expr}(hf:jg (kk X cm) r f)(hg:jg (kk X cm) r' g)(ho:Š X (compareOp op) r)(ho':Š X (compareOp op') r')(ha:PE X a (tR (kk X cm) E ma))(hb:PE X b (tR (kk X cm) E mb))(hc:PE X c (tR (kk X cm) E mc))
 (hm:lastMarks [op,op'] [b,c]=false:=by with_unfolding_all rfl):PT X (.Compare a [op,op'] [b,c] pos) (tB (kk X cm) E (cH (lG f g ma mb mc))):=PT.wk (Cd ho ho' ha hb hc hm) λσ H Q h=>by
 obtain⟨c,F,ρ,rel,h⟩:=KD h
 exact KH hf hg ⟨c,F,ρ,rel,h⟩
def pA(m:M Bool):M Bool:=λρ=>(m ρ).bind λb ρ1=>.ok (!b) ρ1
def xJ{m:M Bool}(h:PT X a (tB (kk X cm) E m)):PT X (.UnaryOp .Not a pos) (tB (kk X cm) E (pA m)):=PT.wk (PN h) λσ H Q ⟨c,F,ρ,rel,h⟩=>
 ⟨c,F,ρ,rel,h.bind λp ρ1 v F1 H1 ć _ _ r1 h1=>h1 _ F1 H1 ć (Same.refl _) (Same.refl _) (by have e:p=v:=r1;rw[e];rfl)⟩
def jh(ma mb:M Bool):M Bool:=λρ=>(ma ρ).bind λb ρ1=>if b=true then mb ρ1 else .ok false ρ1
def CP(ma mb:M Bool):M Bool:=λρ=>(ma ρ).bind λb ρ1=>if b=true then .ok true ρ1 else mb ρ1
variable{ta tb:M Bool}{rest:List Expr}
def iw(h:PT X a (tB (kk X cm) E ta)):PW X (.BoolOp .And [a] pos) (tB (kk X cm) E ta):=Hx h
def CQ(h:PT X a (tB (kk X cm) E ta)):PW X (.BoolOp .Or [a] pos) (tB (kk X cm) E ta):=PJ h
def w_and(ha:PT X a (tB (kk X cm) E ta))(hb:PW X (.BoolOp .And (b::rest) pos) (tB (kk X cm) E tb)):PW X (.BoolOp .And (a::b::rest) pos) (tB (kk X cm) E (jh ta tb)):=PW.wk (PL ha hb) λσ H Q ⟨c,F,ρ,rel,h⟩=>
 ⟨c,F,ρ,rel,h.bind fun p ρ1 v F1 H1 ć _ _ r1 h1=>by
   have e:p=v:=r1
   subst e
   cases p with
   |true=>exact⟨c,F1,ρ1,ć,h1⟩
   |false=>exact h1 false F1 H1 ć (Same.refl _) (Same.refl _) rfl⟩
def w_or(ha:PT X a (tB (kk X cm) E ta))(hb:PW X (.BoolOp .Or (b::rest) pos) (tB (kk X cm) E tb)):PW X (.BoolOp .Or (a::b::rest) pos) (tB (kk X cm) E (CP ta tb)):=PW.wk (Vu ha hb) λσ H Q ⟨c,F,ρ,rel,h⟩=>
 ⟨c,F,ρ,rel,h.bind fun p ρ1 v F1 H1 ć _ _ r1 h1=>by
   have e:p=v:=r1
   subst e
   cases p with
   |false=>exact⟨c,F1,ρ1,ć,h1⟩
   |true=>exact h1 true F1 H1 ć (Same.refl _) (Same.refl _) rfl⟩
def bR(ma mb:M PV):M PV:=λρ=>(ma ρ).bind λp ρ1=>match p with
 | .bl true=>mb ρ1
 | .bl false=>.ok (.bl false) ρ1
 |_=>.bad
def Ri(ma:M PV):M PV:=λρ=>(ma ρ).bind λp ρ1=>match p with
 | .bl b=>.ok (.bl (!b)) ρ1
 |_=>.bad
def qF{K:KK}{F:Hp}{b:Bool}{v:V}(h:Rep K F (.bl b) v):v=.bl b:=by unfold Rep at h;exact h
def dR{op}(h:PE X a (tV (kk X cm) E ma)):PE X (.BoolOp op [a] pos) (tV (kk X cm) E ma):=P_ h
def v_and(ha:PE X a (tV (kk X cm) E ma))(hb:PE X (.BoolOp .And (b::rest) pos) (tV (kk X cm) E mb)):PE X (.BoolOp .And (a::b::rest) pos) (tV (kk X cm) E (bR ma mb)):=PE.wk (QF ha hb) λσ H Q ⟨c,F,ρ,rel,h⟩=>
 ⟨c,F,ρ,rel,h.bind fun p ρ1 v F1 H1 ć _ _ r1 h1=>by
   cases p with
   |bl k=>
    cases qF r1
    cases k with
    |true=>exact⟨c,F1,ρ1,ć,h1⟩
    |false=>exact h1 _ F1 H1 ć (Same.refl _) (Same.refl _) r1
   |_=>exact h1.elim⟩
def v_not(ha:PE X a (tV (kk X cm) E ma)):PE X (.UnaryOp .Not a pos) (tV (kk X cm) E (Ri ma)):=PE.wk (QG ha) λσ H Q ⟨c,F,ρ,rel,h⟩=>
 ⟨c,F,ρ,rel,h.bind fun p ρ1 v F1 H1 ć _ _ r1 h1=>by
   cases p with
   |bl k=>
    cases qF r1
    exact h1 _ F1 H1 ć (Same.refl _) (Same.refl _) Rep.bl
   |_=>exact h1.elim⟩
def fj{α:Type}(t:M Bool)(ma mb:M α):M α:= λρ=>(t ρ).bind λb ρ1=>if b=true then ma ρ1 else mb ρ1
def ĕ:M (List PV):=λρ=>.ok [] ρ
def Ą(ma:M PV)(mr:M (List PV)):M (List PV):=λρ=>(ma ρ).bind λp ρ1=>(mr ρ1).bind λps ρ2=>.ok (p::ps) ρ2
variable{mr:M (List PV)}
def Ě:PA X [] (tL (kk X cm) E ĕ):=PA.wk eY λσ H Q ⟨c,F,ρ,rel,h⟩=>h [] F H rel (Same.refl _) (Same.refl _) Ĉ.nil
def ą(ha:PE X e (tV (kk X cm) E ma))(hr:PA X es (tL (kk X cm) E mr))(hs:starEach (e::es) X.env=(false,eval e X.env)::starEach es X.env:=by exact š rfl):PA X (e::es) (tL (kk X cm) E (Ą ma mr)):=PA.wk (Ŧ ha hr hs) λσ H Q ⟨c,F,ρ,rel,h⟩=>
 ⟨c,F,ρ,rel,h.bind λp ρ1 v F1 H1 ć _ _ r1 h1=>⟨c,F1,ρ1,ć,h1.bind λps ρ2 vs F2 H2 Ġ sF sH r2 h2=>h2 _ F2 H2 Ġ (Same.refl _) (Same.refl _) (Ĉ.cons (Rep.same sF p v r1) r2)⟩⟩
def ĥ:PA X [] (KC (kk X cm) E ĕ):=PA.wk eY λσ H Q ⟨c,F,ρ,rel,h⟩=>h [] F H rel (Same.refl _) (Same.refl _) .nil
def ď(ha:PE X e (tR (kk X cm) E ma))(hr:PA X es (KC (kk X cm) E mr))(hs:starEach (e::es) X.env=(false,eval e X.env)::starEach es X.env:=by exact š rfl):PA X (e::es) (KC (kk X cm) E (Ą ma mr)):=PA.wk (Ŧ ha hr hs) λσ H Q ⟨c,F,ρ,rel,h⟩=>
 ⟨c,F,ρ,rel,h.bind λp ρ1 v F1 H1 ć _ _ r1 h1=>⟨c,F1,ρ1,ć,h1.bind λps ρ2 vs F2 H2 Ġ sF sH r2 h2=>h2 _ F2 H2 Ġ (Same.refl _) (Same.refl _) (.cons (rR.mono r1 sF sH) r2)⟩⟩
def Ę:M (List Slot):=λρ=>.ok [] ρ
def Ī(ma:M PV)(mr:M (List Slot)):M (List Slot):=λρ=>(ma ρ).bind λp ρ1=>(mr ρ1).bind λas ρ2=>.ok (.sh p::as) ρ2
def b_:Slot->Option Slot
 | .sh p=>some (.sh p)
 | .ow ps=>some (.bw ps)
 | .bw ps=>some (.bw ps)
 |_=>none
def ĉ(i:Nat)(mr:M (List Slot)):M (List Slot):=λρ=>match(ρ[i]?).bind b_ with
 |none=>.bad
 |some _=>(mr ρ).bind λas ρ2=>match(ρ2[i]?).bind b_ with
  |some s=>.ok (s::as) ρ2
  |none=>.bad
variable{ms:M (List Slot)}
def đ:PA X [] (tA (kk X cm) E Ę):=PA.wk eY λσ H Q ⟨c,F,ρ,rel,h⟩=>h [] F H rel (Same.refl _) (Same.refl _) .nil
def ħ(ha:PE X e (tV (kk X cm) E ma))(hr:PA X es (tA (kk X cm) E ms))(hs:starEach (e::es) X.env=(false,eval e X.env)::starEach es X.env:=by exact š rfl):PA X (e::es) (tA (kk X cm) E (Ī ma ms)):=PA.wk (Ŧ ha hr hs) λσ H Q ⟨c,F,ρ,rel,h⟩=>
 ⟨c,F,ρ,rel,h.bind λp ρ1 v F1 H1 ć _ _ r1 h1=>⟨c,F1,ρ1,ć,h1.bind λas ρ2 vs F2 H2 Ġ sF sH r2 h2=>h2 _ F2 H2 Ġ (Same.refl _) (Same.refl _) (.cons (show aF _ _ _ (.sh p) v from Rep.same sF p v r1) r2)⟩⟩
def xK{K:KK}{c:Ctx}{F H:Hp}{σ:L2.St}{ρ:Ĳ}{i:Nat}{s:Slot}(rel:Rel K c F H σ ρ)(h:(ρ[i]?).bind b_=some s):∃v,σ[i]?=some (some v)/\aF K F H s v:=by
 cases e:ρ[i]? with
 |none=>rw[e] at h;cases h
 |some sl=>
  rw[e] at h
  have h':b_ sl=some s:=h
  cases sl with
  |sh p=>
   cases h'
   obtain⟨v,h1,h2⟩:=rel.slot i _ e
   exact⟨v,at_of h1,h2⟩
  |ow ps=>
   cases h'
   obtain⟨a,vs,h1,h2,h3,h4,h5,_⟩:=rel.ow e
   exact⟨.ref a,h1,a,vs,rfl,h2,h3,h5⟩
  |bw ps=>
   cases h'
   obtain⟨a,vs,h1,h2,h3⟩:=rel.slot i _ e
   exact⟨.ref a,at_of h1,a,vs,rfl,(rel.lent a _ h2).1,(rel.lent a _ h2).2,h3⟩
  |no=>cases h'
  |rc C ns ps=>cases h'
  |ot ps qs rs=>cases h'
  |ol Bf=>cases h'
  |od _ _=>cases h'
  |bd _ _=>cases h'
def IW(i:Nat){x:Str}{px:Pos}(hN:X.N[i]?=some x:=by rfl)(hv:sE X.env.scope x:=by first|exact Or.inl rfl|exact Or.inr (Or.inl rfl)|exact Or.inr (Or.inr rfl))(hd:(x== ("__debug__" :Str))=false:=by decide)
 (hcd:(x== ("__classdict__" :Str))=false:=by decide)(hr:PA X es (tA (kk X cm) E ms))(hs:starEach (.Name x px::es) X.env=(false,eval (.Name x px) X.env)::starEach es X.env:=by exact š rfl):PA X (.Name x px::es) (tA (kk X cm) E (ĉ i ms)):=
 PA.wk (Ŧ (Ů hN hv hd hcd) hr hs) fun σ H Q ⟨c,F,ρ,rel,h⟩=>by
   unfold ĉ at h
   cases e:(ρ[i]?).bind b_ with
   |none=>rw[e] at h;exact h.elim
   |some s0=>
    rw[e] at h
    obtain⟨v,hv,_⟩:=xK rel e
    refine⟨v,hv,c,F,ρ,rel,Ų.bind h λas ρ2 vs F2 H2 Ġ sF sH r2 h2=>?_⟩
    cases e2:(ρ2[i]?).bind b_ with
    |none=>simp only[e2] at h2;exact h2.elim
    |some s=>
     simp only[e2] at h2
     obtain⟨v',hv',r1⟩:=xK Ġ e2
     rw[hv] at hv'
     cases hv'
     exact h2 _ F2 H2 Ġ (Same.refl _) (Same.refl _) (.cons r1 r2)
def Ŕ(mr:M (List PV)):M PV:=λρ=>(mr ρ).bind λps ρ1=>if ps.length<=16777216 then .ok (.tup ps) ρ1 else .bad
def dH(mr:M (List PV)):M RV:=λρ=>(mr ρ).bind λps ρ1=>if ps.length<=16777216 then .ok (.ow ps) ρ1 else .bad
def ğ:sizeLine=16777216:=sizeLine_eq
def Ń{x1}(h:PA X es (tL (kk X cm) E mr)):PE X (.Tuple es x1 pos) (tV (kk X cm) E (Ŕ mr)):=PE.wk (BK h) λσ H Q ⟨c,F,ρ,rel,h⟩=>
 ⟨c,F,ρ,rel,h.bind fun ps ρ1 vs F1 H1 ć _ _ r1 h1=>by
   split at h1
   ·rename_i hz
    refine⟨by rw[<-Ĉ.length r1,ğ];exact hz,λp hp=>h1 _ _ _ (ć.alloc hp) (Same.upd (ć.sub.free hp)) (Same.upd hp) ?_⟩
    show Rep _ _ _ _
    unfold Rep
    exact⟨p,vs,rfl,č,Ĉ.same (Same.upd (ć.sub.free hp)) ps vs r1⟩
   ·exact h1.elim⟩
def Ź{K:KK}{c:Ctx}{F H:Hp}{σ:L2.St}{ρ:Ĳ}{ps:List PV}{vs:List V}{a:Addr}(rel:Rel K c F H σ ρ)(ha:H a=none)(r:Ĉ K F ps vs):Rel K c F (upd H a (.lst vs)) σ ρ/\Held K c σ ρ F (upd H a (.lst vs)) ps (.ref a):=
 ⟨rel.made ha,a,vs,rfl,č,rel.sub.free ha,rel.base.free ha,rel.fresh ha,r⟩
def aG(h:PA X es (tL (kk X cm) E mr)):PE X (.List es pos) (tO (kk X cm) E (dH mr)):=PE.wk (Qv h) λσ H Q ⟨c,F,ρ,rel,h⟩=>
 ⟨c,F,ρ,rel,h.bind fun ps ρ1 vs F1 H1 ć _ _ r1 h1=>by
   split at h1
   ·rename_i hz
    refine⟨by rw[<-Ĉ.length r1,ğ];exact hz,λp hp=>?_⟩
    obtain⟨q1,q2⟩:=Ź ć hp r1
    exact h1 _ _ _ q1 (Same.refl _) (Same.upd hp) q2
   ·exact h1.elim⟩
def gQ(f:List PV->Option PV)(mr:M (List PV)):M PV:=λρ=>(mr ρ).bind λps ρ1=>Res.jW (f ps) ρ1
def qG(f:List PV->Option RV)(mr:M (List PV)):M RV:=λρ=>(mr ρ).bind λps ρ1=>Res.jW (f ps) ρ1
def ji(K:KK)(r:List V->Hp->VK->Prop)(f:List PV->Option PV):Prop:=∀{c:Ctx} {F H:Hp} {σ:L2.St} {ρ:Ĳ} {ps:List PV} {pv:PV} {vs:List V} {Q:VK},Rel K c F H σ ρ->Wt K c σ ρ F H ps vs->f ps=some pv->
 (∀z F' H',Rel K c F' H' σ ρ->Same F F'->Same H H'->Rep K F' pv z->Q z H')->r vs H Q
def CT(K:KK)(r:List V->Hp->VK->Prop)(f:List PV->Option RV):Prop:=∀{c:Ctx} {F H:Hp} {σ:L2.St} {ρ:Ĳ} {ps:List PV} {pv:RV} {vs:List V} {Q:VK},Rel K c F H σ ρ->Wt K c σ ρ F H ps vs->f ps=some pv->
 (∀z F' H',Rel K c F' H' σ ρ->Same F F'->Same H H'->rO K c σ ρ F' H' pv z->Q z H')->r vs H Q
def Wx{r:List V->Hp->VK->Prop}{f:List PV->Option PV}(hf:ji (kk X cm) r f){σ:L2.St}{H:Hp}{Q:VK}(h:tV (kk X cm) E (gQ f mr) σ H Q):tCB r (KC (kk X cm) E mr) σ H Q:=by
 obtain⟨c,F,ρ,rel,h⟩:=h
 refine⟨c,F,ρ,rel,h.bind λp ρ1 v F1 H1 ć _ _ r1 h1=>?_⟩
 cases e:f p with
 |none=>rw[e] at h1;exact h1.elim
 |some pv=>rw[e] at h1;exact hf ć r1 e λz F' H' ş s1 s2 q'=>h1 z F' H' ş s1 s2 q'
def Zbl{r:List V->Hp->VK->Prop}{f:List PV->Option RV}(hf:CT (kk X cm) r f){σ:L2.St}{H:Hp}{Q:VK}(h:tO (kk X cm) E (qG f mr) σ H Q):tCB r (KC (kk X cm) E mr) σ H Q:=by
 obtain⟨c,F,ρ,rel,h⟩:=h
 refine⟨c,F,ρ,rel,h.bind λp ρ1 v F1 H1 ć _ _ r1 h1=>?_⟩
 cases e:f p with
 |none=>rw[e] at h1;exact h1.elim
 |some pv=>rw[e] at h1;exact hf ć r1 e λz F' H' ş s1 s2 q'=>h1 z F' H' ş s1 s2 q'
end
end P
namespace P
open PySem PySem.Spec PyProof.Rows L2 M2 M3
def fQ:M Fl:=λρ=>.ok .nx ρ
def mCt:M Fl:=λρ=>.ok .ct ρ
def ę(a b:M Fl):M Fl:=λρ=>(a ρ).bind λf ρ1=>match f with
 | .nx=>b ρ1
 |f=>.ok f ρ1
def Ĺ(i:Nat)(m:M RV):M Fl:=λρ=>(m ρ).bind λr ρ1=>.ok .nx (ρ1.set i r.slot)
def Į(m:M RV):M Fl:=λρ=>(m ρ).bind λr ρ1=>.ok (.rt r) ρ1
section
variable{X:Cx}{cm:String->Addr}{E:L2.St->XK}{a b e:Expr}{st:Stmt}{rest:List Stmt}{es:List Expr}{pos:Pos}{m1 m2:M Fl}{mo:M RV}{mv:M PV}
def ĭ:fG X [] (tS (kk X cm) E fQ):=fG.wk Hy λD σ H ⟨c,F,ρ,rel,h⟩=>h σ F H rel (Same.refl F)
def vO:PS X (.Continue pos) (tS (kk X cm) E mCt):=PS.wk sJ λD σ H ⟨c,F,ρ,rel,h⟩=>h σ F H rel (Same.refl F)
def Ĩ(h:PS X st (tS (kk X cm) E m1)):fG X [st] (tS (kk X cm) E m1):=Hz h
def I_{c:Ctx}{F:Hp}{D:Ends}{r:Res Fl}(h:ř (kk X cm) E c F D (r.bind λf ρ1=>match f with| .nx=>m2 ρ1|f=>.ok f ρ1)):ř (kk X cm) E c F {D with nx:=tS (kk X cm) E m2 D} r:=by
 cases r with
 |ok f ρ1=>
  cases f with
  |nx=>exact λσ' F' H' ş s=>⟨c,F',ρ1,ş,ř.mono h s⟩
  |bk=>exact h
  |ct=>exact h
  |rt v=>exact h
 |exc x ρ1=>exact h
 |bad=>exact h
def Ċ(h1:PS X st (tS (kk X cm) E m1))(h2:fG X rest (tS (kk X cm) E m2)):fG X (st::rest) (tS (kk X cm) E (ę m1 m2)):=fG.wk (Bo h1 h2) λD σ H ⟨c,F,ρ,rel,h⟩=>⟨c,F,ρ,rel,I_ h⟩
def Wy{i:Nat}{x:Str}{pos':Pos}(hN:X.N.Nodup)(hi:X.N[i]?=some x)(hx:Loc X.env.scope x)(he:PE X e (tO (kk X cm) E mo))(hs:swapsWith e (some (.Name x pos')) pos.line X.env=pure false:=by rfl)(hf:X.fn x=true\/X.env.scope.names.lookup x=some .local:=by first|exact .inl rfl|exact .inr rfl|assumption) :
 PS X (.Assign [.Name x pos'] e pos) (tS (kk X cm) E (Ĺ i mo)):=PS.wk (qj hN hi hx he hs hf) λD σ H ⟨c,F,ρ,rel,h⟩=>⟨c,F,ρ,rel,ř.bind h λr ρ1 v F1 H1 ć s1 q h1=>by
 cases r with
 |sh p=>exact h1 _ F1 H1 (ć.put rfl ⟨v,rfl,q⟩) (Same.refl _)
 |ow ps=>
  obtain⟨a,vs,rfl,q1,q2,q3,q4,q5⟩:=q
  exact h1 _ F1 H1 (ć.zR ⟨a,vs,rfl,q1,q2,q3,q5⟩ λ_ z=>V.ref.inj z▸q4) (Same.refl _)
 |ot ps qs rs=>
  obtain⟨p,a,xs,vs,ys,rfl,q0,qx,q1,q2,q3,q4,q5,q6⟩:=q
  exact h1 _ F1 H1 (ć.zR (s:=.ot ps qs rs) ⟨p,a,xs,vs,ys,rfl,q0,qx,q1,q2,q3,q5,q6⟩ λ_ z=>dz (ps:=ps) (qs:=qs) (rs:=rs) z ⟨p,xs,ys,rfl,q0,qx.length.symm⟩▸q4) (Same.refl _)⟩
def Wz(he:PE X e (tO (kk X cm) E mo)):PS X (.Return (some e) pos) (tS (kk X cm) E (Į mo)):=PS.wk (Qa he) λD σ H ⟨c,F,ρ,rel,h⟩=>⟨c,F,ρ,rel,ř.bind h λr ρ1 v F1 H1 ć s1 q h1=>h1 v σ F1 H1 ć (Same.refl _) q⟩
def ś{t:M Bool}{ss ss':List Stmt}(hc:PT X a (tB (kk X cm) E t))(ha:fG X ss (tS (kk X cm) E m1))(hb:fG X ss' (tS (kk X cm) E m2)):PS X (.If a ss ss' pos) (tS (kk X cm) E (fj t m1 m2)):=PS.wk (Vx hc ha hb) λD σ H ⟨c,F,ρ,rel,h⟩=>⟨c,F,ρ,rel,ř.bind h λr ρ1 v F1 H1 ć s1 q h1=>by
 have e:r=v:=q
 subst e
 cases r with
 |true=>exact⟨c,F1,ρ1,ć,h1⟩
 |false=>exact⟨c,F1,ρ1,ć,h1⟩⟩
def Rj{α:Type}:M α:= λ_=>.bad
def Ja:PS X st (tS (kk X cm) E Rj):=PS.wk Bq λD σ H ⟨c,F,ρ,rel,h⟩=>h
abbrev Tg:=PV->Ĳ->Option Ĳ
abbrev Bg:=List PV->Ĳ->Option Ĳ
def WD(K:KK)(c:Ctx)(F H:Hp)(Q:L2.St->Hp->Prop):Option Ĳ->Prop
 |some ρ'=>∀σ',Rel K c F H σ' ρ'->Q σ' H
 |none=>False
def tT(K:KK)(g:Tg):TG:=λv σ H Q=>∃c F ρ p,Rel K c F H σ ρ/\Rep K F p v/\WD K c F H Q (g p ρ)
def WK(K:KK)(g:Bg):Br:=λv σ H Q=>∃c F ρ p,Rel K c F H σ ρ/\Ĉ K F p v/\WD K c F H Q (g p ρ)
def gN(i:Nat):Tg:=λp ρ=>some (ρ.set i (.sh p))
def ń:Bg:=λps ρ=>match ps with
 | []=>some ρ
 |_=>none
def Č(g:Tg)(gs:Bg):Bg:=λps ρ=>match ps with
 |p::ps=>(g p ρ).bind λρ1=>gs ps ρ1
 | []=>none
def gT(n:Nat)(gs:Bg):Tg:=λp ρ=>match p with
 | .tup ps=>if ps.length=n then gs ps ρ else none
 |_=>none
def PG.wk'{tg:Expr}{t t':TG}(h:PG X tg t)(i:∀v σ H Q,t' v σ H Q->t v σ H Q):PG X tg t':=λpins s σ H v u Q I r q=>h pins s σ H v u Q I r (i v σ H Q q)
def vo.wk{tg:List Expr}{t t':Br}(h:vo X tg t)(i:∀v σ H Q,t' v σ H Q->t v σ H Q):vo X tg t':=λpins s σ H v u Q I r q=>h pins s σ H v u Q I r (i v σ H Q q)
def CV{i:Nat}{x:Str}(hN:X.N.Nodup)(hi:X.N[i]?=some x)(hx:Loc X.env.scope x)(hf:X.fn x=true\/X.env.scope.names.lookup x=some .local:=by first|exact .inl rfl|exact .inr rfl|assumption):PG X (.Name x pos) (tT (kk X cm) (gN i)):=
 PG.wk' (HB hN hi hx hf) λv σ H Q ⟨c,F,ρ,p,rel,rp,h⟩=>h _ (rel.put rfl ⟨v,rfl,rp⟩)
def aV:vo X [] (WK (kk X cm) ń):=vo.wk HD λv σ H Q ⟨c,F,ρ,p,rel,rp,h⟩=>by
 cases p with
 |nil=>
  have e:v=[]:=by have:=rp;unfold Ĉ at this;exact this
  exact⟨e,h σ rel⟩
 |cons _ _=>exact h.elim
def Ĥ{es:List Expr}{g:Tg}{gs:Bg}(h1:PG X e (tT (kk X cm) g))(h2:vo X es (WK (kk X cm) gs))(hs:(assignEach (e::es) X.env).map (·.2)=assign e X.env::(assignEach es X.env).map (·.2):=by rfl):vo X (e::es) (WK (kk X cm) (Č g gs)):=
 vo.wk (Bs h1 h2 hs) λv σ H Q ⟨c,F,ρ,p,rel,rp,h⟩=>by
  cases p with
  |nil=>exact h.elim
  |cons p ps=>
   unfold Ĉ at rp
   obtain⟨x,r,rfl,r1,r2⟩:=rp
   refine⟨x,r,rfl,c,F,ρ,p,rel,r1,?_⟩
   unfold Č at h
   dsimp only at h
   cases eg:g p ρ with
   |none=>rw[eg] at h;exact h.elim
   |some ρ1=>rw[eg] at h;exact λσ' ş=>⟨c,F,ρ1,ps,ş,r2,h⟩
def lH{es:List Expr}{k:Nat}{gs:Bg}{n:Nat}(hc:X.calm=true)(h:vo X es (WK (kk X cm) gs))(hn:(assignEach es X.env).length=n:=by rfl)(hst:(assignEach es X.env).findIdx? (·.1)=none:=by rfl):PG X (.Tuple es k pos) (tT (kk X cm) (gT n gs)):=
 PG.wk' (Bt hc h hn hst) fun v σ H Q ⟨c,F,ρ,p,rel,rp,h⟩=>by
   cases p with
   |tup ps=>
    unfold Rep at rp
    obtain⟨a,xs,h1,h2,h3⟩:=rp
    unfold gT at h
    dsimp only at h
    split at h
    ·rename_i hl
     exact⟨a,xs,h1,bx.of (rel.sub _ _ h2),by rw[<-h3.length];exact hl,c,F,ρ,ps,rel,h3,h⟩
    ·exact h.elim
   |_=>exact h.elim
def CW(g:Tg)(m:M PV):M Fl:=λρ=>(m ρ).bind λp ρ1=>match g p ρ1 with
 |some ρ2=>.ok .nx ρ2
 |none=>.bad
def CZ{tg:Expr}{g:Tg}(he:PE X e (tV (kk X cm) E mv))(hg:PG X tg (tT (kk X cm) g))(hs:swapsWithSole [tg] e pos.line X.env=pure false:=by rfl)(hw:swappedStores [tg] e X.env=pure none:=by rfl)
 (h1:(assignEach [tg] X.env).map (·.2)=[assign tg X.env]:=by rfl):PS X (.Assign [tg] e pos) (tS (kk X cm) E (CW g mv)):=PS.wk (Qd he hg hs hw h1) λD σ H ⟨c,F,ρ,rel,h⟩=>⟨c,F,ρ,rel,ř.bind h λr ρ1 v F1 H1 ć s1 q h1=>by
 refine⟨c,F1,ρ1,r,ć,q,?_⟩
 cases eg:g r ρ1 with
 |none=>rw[eg] at h1;exact h1.elim
 |some ρ2=>rw[eg] at h1;exact λσ' ş=>h1 σ' F1 H1 ş (Same.refl _)⟩
def qH(i:Nat)(m:M PV):M Fl:=λρ=>match ρ[i]? with
 |some (.ow _)=>(m ρ).bind λp ρ1=>match ρ1[i]? with
  |some (.ow ps)=>if ps.length<16777216 then .ok .nx (ρ1.set i (.ow (ps ++ [p]))) else .bad
  |_=>.bad
 |_=>.bad
def dB{i:Nat}{D:Ends}{σ:L2.St}{H:Hp}(h:tS (kk X cm) E (qH i mv) D σ H):Bp (tBM X.K "list" qy (nY i) (tL (kk X cm) E (Ą mv ĕ))) D σ H:=by
 obtain⟨c,F,ρ,rel,h⟩:=h
 unfold qH at h
 cases e1:ρ[i]? with
 |none=>rw[e1] at h;exact h.elim
 |some sl=>
  rw[e1] at h
  cases sl with
  |ow ps0=>
   obtain⟨a,vs0,z1,z2,z3,z4,z5,z6⟩:=rel.ow e1
   refine⟨.ref a,z1,.inl ⟨rfl,_,Ř.of z2⟩,c,F,ρ,rel,?_⟩
   dsimp only at h
   unfold Ą
   cases em:mv ρ with
   |bad=>rw[em] at h;exact h
   |exc x ρ1=>rw[em] at h;exact λC d F' H' ş s1 q=>h σ C d F' H' ş s1 q
   |ok p ρ1=>
    rw[em] at h
    intro us F1 H1 ć s1 s2 r1
    have r1':Ĉ (kk X cm) F1 [p] us:=r1
    cases r1'.pr with
    |cons rp t=>
     rename_i v vs'
     cases t
     cases e2:ρ1[i]? with
     |none=>simp only[Res.jV,e2] at h;exact h.elim
     |some sl2=>
      simp only[Res.jV,e2] at h
      cases sl2 with
      |ow ps=>
       obtain⟨a2,vs,w1,w2,w3,w4,w5,w6⟩:=ć.ow e2
       rw[z1] at w1
       cases w1
       dsimp only at h
       split at h
       ·rename_i hz
        refine⟨a,vs,v,rfl,rfl,w2,by rw[<-w5.length,ğ];exact hz,h σ F1 _ (ć.write w6 z1 ⟨a,vs ++ [v],rfl,č,w3,w4,Ĉ.append w5 (Ĉ.cons rp Ĉ.nil)⟩ λ_ z=>(V.ref.inj z).symm) s1⟩
       ·exact h.elim
      |_=>exact h.elim
  |_=>exact h.elim
def bB(K:KK)(Lh F:Hp)(J:It)(items:List PV):Prop:=∀(c:Ctx) (i:Nat) (F2 H:Hp) (σ:L2.St) (ρ:Ĳ),Rel K c F2 H σ ρ->Same F F2->Same Lh H->
 (∀p,items[i]?=some p->J.go i H/\∀x H',J.yld i H x H'->∃F3,Rel K c F3 H' σ ρ/\Same F2 F3/\Same H H'/\Rep K F3 p x)/\(i=items.length->J.stop i H)
def rIt(K:KK):RR (List PV) It:=λc _ _ F _ items J=>bB K c.L F J items
abbrev tI(K:KK)(E:L2.St->XK)(m:M (List PV)):TI:=tG K E (rIt K) m
def forL(g:Tg)(mb:M Fl):List PV->M Fl
 | [],ρ=>.ok .nx ρ
 |p::ps,ρ=>match g p ρ with
  |none=>.bad
  |some ρ1=>(mb ρ1).bind λf ρ2=>match f with
   | .nx=>forL g mb ps ρ2
   | .ct=>forL g mb ps ρ2
   | .bk=>.ok .nx ρ2
   | .rt r=>.ok (.rt r) ρ2
def fU(mi:M (List PV))(g:Tg)(mb:M Fl):M Fl:=λρ=>(mi ρ).bind λitems ρ1=>forL g mb items ρ1
def Rk{c:Ctx}{F1 H1:Hp}{σ:L2.St}{ρ1:Ĳ}{D:Ends}{J:It}{items:List PV}{g:Tg}{mb:M Fl}(ć:Rel (kk X cm) c F1 H1 σ ρ1)(ito:bB (kk X cm) c.L F1 J items)(h1:ř (kk X cm) E c F1 D (forL g mb items ρ1)):VF (λ_ H' R=>R J H') (tT (kk X cm) g) (tS (kk X cm) E mb) D σ H1:=by
 refine⟨λi m σ' H'=>∃F2 ρ2,i<=items.length/\m=items.length-i/\Rel (kk X cm) c F2 H' σ' ρ2/\Same F1 F2/\ř (kk X cm) E c F2 D (forL g mb (items.drop i) ρ2),⟨_,F1,ρ1,Nat.zero_le _,rfl,ć,Same.refl _,h1⟩,?_⟩
 rintro i m σ2 H2 ⟨F2,ρ2,hle,rfl,Ġ,s2,h2⟩
 obtain⟨go,stop⟩:=ito c i F2 H2 σ2 ρ2 Ġ s2 λb u e=>(Ġ.lent b u e).1
 by_cases hlt:i<items.length
 ·obtain⟨g1,g2⟩:=go items[i] (List.getElem?_eq_getElem hlt)
  rw[List.drop_eq_getElem_cons hlt] at h2
  unfold forL at h2
  refine .inr ⟨g1,_,λσ' H' z=>z,λx H3 hy=>?_⟩
  obtain⟨F3,fV,s3,_,rp⟩:=g2 x H3 hy
  refine⟨c,F3,ρ2,items[i],fV,rp,?_⟩
  cases eg:g items[i] ρ2 with
  |none=>rw[eg] at h2;exact h2.elim
  |some ρ3=>
   rw[eg] at h2
   dsimp only at h2
   intro σ4 tU
   refine⟨c,F3,ρ3,tU,?_⟩
   have nxt:∀{ρ4:Ĳ},ř (kk X cm) E c F2 D (forL g mb (items.drop (i+1)) ρ4)->∀σ' F' H',Rel (kk X cm) c F' H' σ' ρ4->Same F3 F'->∃m',m'<items.length-i/\∃F2 ρ2,i+1<=items.length/\m'=items.length-(i+1)/\Rel (kk X cm) c F2 H' σ' ρ2/\Same F1 F2/\ř (kk X cm) E c F2 D (forL g mb (items.drop (i+1)) ρ2):=
    fun{ρ4} h3 σ' F' H' ş s'=>⟨items.length-(i+1),by omega,F',ρ4,hlt,rfl,ş,(s2.trans s3).trans s',ř.mono h3 (s3.trans s')⟩
   have h2':=ř.mono h2 s3
   cases e2:mb ρ3 with
   |bad=>rw[e2] at h2;exact h2
   |exc x ρ4=>rw[e2] at h2';exact h2'
   |ok f ρ4=>
    rw[e2] at h2 h2'
    cases f with
    |nx=>exact nxt h2
    |ct=>exact nxt h2
    |bk=>exact h2'
    |rt r=>exact h2'
 ·have e:i=items.length:=by omega
  refine .inl ⟨stop e,?_⟩
  rw[List.drop_eq_nil_of_le (by omega)] at h2
  unfold forL at h2
  exact h2 σ2 F2 H2 Ġ (Same.refl _)
def cg{iter tg:Expr}{body:List Stmt}{mi:M (List PV)}{g:Tg}{mb:M Fl}(hp:PassesOwn (model X.prog X.w) X.A X.env X.xe)(hc:X.calm=true)(hi:PI X tg iter (tI (kk X cm) E mi))(hg:PG X tg (tT (kk X cm) g))(hb:fG X body (tS (kk X cm) E mb))
 (hs:∀x,foldedSetIterable iter X.env x=pure x:=by intro _;rfl):PS X (.For tg iter body [] pos) (tS (kk X cm) E (fU mi g mb)):=PS.wk (Qf hp hc hi hg hb hs) λD σ H ⟨c,F,ρ,rel,h⟩=>⟨c,F,ρ,rel,ř.bind h λitems ρ1 J F1 H1 ć s1 ito h1=>Rk ć ito h1⟩
end
end P
namespace P
open PySem PySem.Spec PyProof.Rows L2 M2 M3
inductive FR where
 |ret (r:RV)|exc (x:PX)|bad
abbrev MF:=List Slot->FR
def FR.of:Res Fl->FR
 | .ok (.rt r) _=>.ret r
 | .ok .nx _=>.ret (.sh .non)
 | .exc x _=>.exc x
 |_=>.bad
def ĺ(n k:Nat)(mb:M Fl):MF:=λas=>if as.length=n then FR.of (mb (startP k as)) else .bad
def rF(K:KK)(H F' H':Hp):RV->V->Prop
 | .sh p,v=>Rep K F' p v
 | .ow ps,v=>∃a vs,v=.ref a/\H' a=some (.lst vs)/\F' a=none/\H a=none/\Ĉ K F' ps vs
 | .ot ps qs rs,v=>∃p a xs vs ys,v=.ref p/\F' p=some (.tup (xs ++ .ref a::ys))/\Ĉ K F' ps xs/\H' a=some (.lst vs)/\F' a=none/\H a=none/\Ĉ K F' qs vs/\Ĉ K F' rs ys
def Zbm(K:KK)(E:XK)(F H:Hp)(Q:VK):FR->Prop
 | .ret r=>∀v F' H',Gr F H F' H'->rF K H F' H' r v->Q v H'
 | .exc x=>∀C d F' H',Gr F H F' H'->IK K F' x C d->E C d H'
 | .bad=>False
def aW(K:KK)(n:Nat)(mf:MF):Sp:=λvs H Q E=>∃F as,as.length=n/\Same F H/\Paired (aF K F H) as vs/\Zbm K E F H Q (mf as)
def dD(CX:h_)(X:Cx)(E:L2.St->XK):Prop:=∀(pins:List (Addr×Obj)) (σ:L2.St) (H:Hp) (s:Shared) (e:Value) (s':Shared),Inv X pins σ H s->CX X.stack H s (E σ) e s'->X.xe e s'
def Ē{X:Cx}{E:L2.St->XK}:dD aR X E:=λ_ _ _ _ _ _ _ h=>h.elim
section
variable{P:Program}{w:World}{K:PySem.W.Frag}{cm:String->Addr}{mg:Str->Option Value}{base:Heap}{CX:h_}
def fnP{x qual:Str}{st:Stmt}{f:Addr}{fd:FuncData}{N ps:List Str}{k:Nat}{mb:M Fl}(F:Ii K x qual st f fd)(S:Ď N ps (Ć st))
 (hbody:∀(cdv:Value) (A:Around) (outer:List Env) (s:Shared) (H:Hp) (E:XK),ŗ k (A.deeper (envOfC qual (Ć st) s.heap.objs.size f cdv))→
   fG (qm CX P w K mg base N qual (Ć st) f cdv A outer s H E) (ŉ st) (tS ⟨K,cm⟩ (λ_=>E) mb)):ī P w K mg base CX (k+1) f fd ps (aW ⟨K,cm⟩ ps.length (ĺ ps.length N.length mb)):=by
 obtain⟨oc,od,kV,doc,pm,an,cdv,ct,osl,rfl,lk,hcd⟩:=F.ex
 refine Ky lk hcd S (λvs H Q E ⟨F,ps',h1,_,h2,_⟩=>by rw[<-Paired.length h2];exact h1) λA outer s H vs Q E hr hsp=>?_
 obtain⟨F,ps',h1,h2,h3,h4⟩:=hsp
 refine⟨_,hbody cdv A outer s H E hr,ctx0 F H,F,startP N.length ps',Rel.start h2 h3,?_⟩
 unfold ĺ at h4
 rw[if_pos h1] at h4
 cases e:mb (startP N.length ps') with
 |bad=>rw[e] at h4;exact h4
 |exc x ρ'=>rw[e] at h4;exact λσ' C d F' H' rel s1 q=>h4 C d F' H' rel.gr q
 |ok fl ρ'=>
  rw[e] at h4
  cases fl with
  |nx=>exact λσ' F' H' rel s1=>h4 .non F' H' rel.gr (Rep.non (K:=⟨K,cm⟩) (F:=F'))
  |bk=>exact h4.elim
  |ct=>exact h4.elim
  |rt r=>
   intro v σ' F' H' rel s1 q
   refine h4 v F' H' rel.gr ?_
   cases r with
   |sh p=>exact q
   |ow qs=>
    obtain⟨a,vs',e1,e2,e3,e4,_,e5⟩:=q
    exact⟨a,vs',e1,e2,e3,e4,e5⟩
   |ot qs ts rs=>
    obtain⟨p,a,xs,vs',ys,e1,e0,ex,e2,e3,e4,_,e5⟩:=q
    exact⟨p,a,xs,vs',ys,e1,e0,ex,e2,e3,e4,e5⟩
def fnQ{x qual:Str}{st:Stmt}{f:Addr}{fd:FuncData}{N ps:List Str}{k n j:Nat}{mb:M Fl}{mf:MF}(F:Ii K x qual st f fd)(S:Ď N ps (Ć st))(hn:ps.length=n)(hj:N.length=j)(hf:mf=ĺ n j mb)
 (hbody:∀(cdv:Value) (A:Around) (outer:List Env) (s:Shared) (H:Hp) (E:XK),ŗ k (A.deeper (envOfC qual (Ć st) s.heap.objs.size f cdv))→
   fG (qm CX P w K mg base N qual (Ć st) f cdv A outer s H E) (ŉ st) (tS ⟨K,cm⟩ (λ_=>E) mb)):ī P w K mg base CX (k+1) f fd ps (aW ⟨K,cm⟩ n mf):=by
 subst hn hj hf
 exact fnP F S hbody
end
def Ĝ(mf:MF)(mr:M (List Slot)):M RV:=λρ=>(mr ρ).bind λps ρ1=>match mf ps with
 | .ret r=>.ok r ρ1
 | .exc x=>.exc x ρ1
 | .bad=>.bad
section
variable{X:Cx}{cm:String->Addr}{E:L2.St->XK}{CX:h_}{k n:Nat}{f:Addr}{fd:FuncData}{ps:List Str}{mf:MF}{mr:M (List Slot)}{x:Str}{p pos:Pos}{e:Expr}{es:List Expr}
def Jb{sp:Sp}{pins:List (Addr×Obj)}{σ:L2.St}{H:Hp}{s:Shared}{Q:VK}{us:List Value}{vs:List V}(F:ī X.prog X.w X.K X.mg X.base CX k f fd ps sp)(hr:ŗ k X.A)(hb:Binds X.K fd ps [])(hx:dD CX X E)
 (I:Inv X pins σ H s)(r:Vals vs us)(h:sp vs H Q (E σ)):wpAny (model X.prog X.w) X.A (call (.ref f) us) (EP X pins σ Q) X.xe s:=by
 have hl:(us ++ []).length=ps.length:=by rw[List.append_nil,<-r.length];exact F.len _ _ _ _ h
 have hbd:=hb s us I.jQ hl
 rw[List.append_nil] at hbd
 refine wpAny_call (codeAny_mono (F.run X.A X.stack s H ⟨us,[]⟩ us vs Q (E σ) hr I.env0 hbd r h) λr s' hq=>?_)
 cases r with
 |error e=>exact hx pins σ H s e s' I hq
 |ok fl=>
  cases fl with
  |ret u=>exact I.after hq
  |next=>exact False.elim hq
  |brk=>exact False.elim hq
  |cont=>exact False.elim hq
def C_{c:Ctx}{F1 H1:Hp}{σ:L2.St}{ρ1:Ĳ}{Q:VK}{ps:List Slot}{vs:List V}(hlen:(∃r,mf ps=r/\∀z,r=z->z≠ .bad)->ps.length=n)(ć:Rel (kk X cm) c F1 H1 σ ρ1)(r1:Paired (aF (kk X cm) F1 H1) ps vs)
 (h:Ų (kk X cm) E (rO (kk X cm)) c F1 H1 σ Q (match mf ps with| .ret r=>.ok r ρ1| .exc x=>.exc x ρ1| .bad=>.bad)):aW (kk X cm) n mf vs H1 Q (E σ):=by
 refine⟨F1,ps,?_,ć.sub,r1,?_⟩
 ·refine hlen ⟨_,rfl,λz hz hb=>?_⟩
  rw[hz,hb] at h
  exact h
 ·cases em:mf ps with
  |bad=>rw[em] at h;exact h
  |exc x=>rw[em] at h;exact λC d F' H' g rx=>h C d F' H' (ć.call g) g.f rx
  |ret r=>
   rw[em] at h
   intro v F' H' g rf
   refine h v F' H' (ć.call g) g.f g.h ?_
   cases r with
   |sh p=>exact rf
   |ow qs=>
    obtain⟨a,vs',e1,e2,e3,e4,e5⟩:=rf
    exact⟨a,vs',e1,e2,e3,ć.base.free e4,ć.lF g.f (ć.fresh e4),e5⟩
   |ot qs ts rs=>
    obtain⟨p,a,xs,vs',ys,e1,e0,ex,e2,e3,e4,e5⟩:=rf
    exact⟨p,a,xs,vs',ys,e1,e0,ex,e2,e3,ć.base.free e4,ć.lF g.f (ć.fresh e4),e5⟩
def fW{n k:Nat}{mb:M Fl}{ps:List Slot}(h:∃r,ĺ n k mb ps=r/\∀z,r=z->z≠ .bad):ps.length=n:=by
 obtain⟨r,h1,h2⟩:=h
 unfold ĺ at h1
 by_cases hl:ps.length=n
 ·exact hl
 ·rw[if_neg hl] at h1
  exact absurd h1.symm (λz=>h2 .bad (by rw[<-h1]) rfl)
def Dc(F:ī X.prog X.w X.K X.mg X.base CX k f fd ps (aW (kk X cm) n mf))(hlen:∀{ps:List Slot},(∃r,mf ps=r/\∀z,r=z->z≠ .bad)->ps.length=n)(hr:ŗ k X.A)(hg:Gl X x)(hm:X.mg x=some (.ref f))(hk:PySem.W.keepIn X.K (.ref f)=true)(hb:Binds X.K fd ps [])(hx:dD CX X E)
 (ha:PA X (e::es) (tA (kk X cm) E mr))(hdb:(x== ("__debug__" :Str))=false:=by decide)(he:starEach (e::es) X.env=(false,eval e X.env)::starEach es X.env:=by exact š rfl)(hpl:(backTo pos (starEach es X.env)).any (·.1)=false:=by rfl) :
 PE X (.Call (.Name x p) (e::es) [] pos) (tO (kk X cm) E (Ĝ mf mr)):=by
 intro pins s σ H Q I h
 obtain⟨c,F,ρ,rel,h⟩:=h
 refine wpAny_Call_Name_kw (qg I hg hm ?_ hdb)
 refine PySem.W.callWith_K (h₀:= X.base) I.ok.mod.Vp hk (ļ (ha pos pins s σ H (λvs H1=>aW (kk X cm) n mf vs H1 Q (E σ)) I ⟨c,F,ρ,rel,h.bind λps' ρ1 vs F1 H1 ć _ _ r1 h1=>C_ hlen ć r1 h1⟩) λus s1 ⟨vs,H1,I1,r,q⟩=>⟨I1.jQ,?_⟩) he hpl
 exact Jb (by assumption) hr hb hx I1 r q
end
def ů(m:M PV):M (List PV):=λρ=>(m ρ).bind λp ρ1=>match p with
 | .lst ps=>.ok ps ρ1
 | .tup ps=>.ok ps ρ1
 | .str z=>.ok (z.cps.toList.map λc=>.str ⟨#[c]⟩) ρ1
 |_=>.bad
section
variable{X:Cx}{cm:String->Addr}{E:L2.St->XK}{tg:Expr}
def Zbn(K:PySem.W.Frag)(tl:TE):TI:=λσ H R=>tl σ H λx H1=>(∃a,x=.ref a/\(∃xs,Ř K H1 a xs)/\R (Qe K a) H1)\/(∃a,x=.ref a/\(∃xs,bx K H1 a xs)/\R (VB K a) H1)\/∃z,x=.str z/\R (Its z) H1
def Dd{l:Expr}{tl:TE}(hl:PE X l tl):PI X tg l (Zbn X.K tl):=by
 intro pins s σ H R I h
 refine ļ (hl pins s σ H _ I h) λv s1 ⟨x,H1,I1,r1,q1⟩=>?_
 rcases q1 with⟨a,e,⟨xs,hq⟩,q⟩|⟨a,e,⟨xs,hq⟩,q⟩|⟨z,e,q⟩
 ·subst e
  cases r1
  obtain⟨its,rv,p,hz⟩:=I1.list hq
  refine wpAny_pyIter_list p.isList ?_
  refine⟨s1.heap.objs.size,[s1.heap.objs.size],_,_,H1,rfl,I1.kept (t':=s1.toks) λb o e=>Heap.get?_push_of_some _ e,zB a _,⟨_,Heap.get?_push_size _ rfl,rfl,rfl⟩,λb hb=>?_,q⟩
  have e:b=s1.heap.objs.size:=by simpa using hb
  subst e
  exact I1.zy (Nat.le_refl _) (I1.hok.fresh (Nat.le_refl _))
 ·subst e
  cases r1
  obtain⟨its,rv,p,hz⟩:=I1.tuple hq
  refine wpAny_pyIter_tuple (show s1.heap.IsTuple a its.toArray from p) ?_
  refine⟨s1.heap.objs.size,[s1.heap.objs.size],_,_,H1,rfl,I1.kept (t':=s1.toks) λb o e=>Heap.get?_push_of_some _ e,vq a _,⟨_,Heap.get?_push_size _ rfl,rfl,rfl⟩,λb hb=>?_,q⟩
  have e:b=s1.heap.objs.size:=by simpa using hb
  subst e
  exact I1.zy (Nat.le_refl _) (I1.hok.fresh (Nat.le_refl _))
 ·subst e
  obtain⟨t,rfl⟩:=r1
  have fin:∀ty,(∀A:Around,A.handled=none->Walks X.prog X.w A s1.heap.objs.size [s1.heap.objs.size] [s1.heap.objs.size] z.cps.size (SignAt z) (λi h=>h.IsStrIter s1.heap.objs.size ty z t i))->
   (∀(A:Around) (i:Nat) (s:Shared) (Q:Value->Shared->Prop) (E:Value->Shared->Prop),s.heap.IsStrIter s1.heap.objs.size ty z t i->Q (.ref s1.heap.objs.size) s->wpAny (model X.prog X.w) A (pyIter (.ref s1.heap.objs.size)) Q E s)->
   (["enumerate","zip","dict_itemiterator","dict_reverseitemiterator","odict_iterator","itertools.zip_longest","itertools.pairwise"].contains ty=false)->
   PIE X pins σ tg R (.ref s1.heap.objs.size) {s1 with heap:=s1.heap.push {cls:=.type ty,data:=.fields #[.str z t,.int 0 0]}}:=λty hW hS hty=>by
   refine⟨s1.heap.objs.size,[s1.heap.objs.size],_,_,H1,rfl,I1.kept (t':=s1.toks) λb o e=>Heap.get?_push_of_some _ e,zQ _ z t ty hW hS hty,⟨_,Heap.get?_push_size _ rfl,rfl,rfl⟩,λb hb=>?_,q⟩
   have e:b=s1.heap.objs.size:=by simpa using hb
   subst e
   exact I1.zy (Nat.le_refl _) (I1.hok.fresh (Nat.le_refl _))
  cases ha:z.cps.all (·< 128) with
  |true=>exact wpAny_pyIter_ascii ha (fin _ (λA hA=>Walks.strAscii hA _ z t) (λA i s Q E st q=>wpAny_pyIter_striter_ascii st q) (by decide))
  |false=>exact wpAny_pyIter_wide ha (fin _ (λA hA=>Walks.strWide hA _ z t) (λA i s Q E st q=>wpAny_pyIter_striter_wide st q) (by decide))
def pB{l:Expr}{m:M PV}(hl:PE X l (tV (kk X cm) E m)):PI X tg l (tI (kk X cm) E (ů m)):=λpins s σ H R I h=>Dd hl pins s σ H R I (by
 obtain⟨c,F,ρ,rel,h⟩:=h
 refine⟨c,F,ρ,rel,h.bind λp ρ1 v F1 H1 ć s1 s2 q h1=>?_⟩
 cases p with
 |lst ps=>
  have q':Rep (kk X cm) F1 (.lst ps) v:=q
  unfold Rep at q'
  obtain⟨a,vs,rfl,e1,e2⟩:=q'
  refine .inl ⟨a,rfl,⟨vs,ć.sub.seq e1⟩,h1 _ F1 H1 ć (Same.refl _) (Same.refl _) ?_⟩
  intro c' i F2 H2 σ2 ρ2 Ġ sF _
  have hq:Ř X.K H2 a vs:=(sF.trans Ġ.sub).seq e1
  refine⟨λp hp=>?_,λhi=>⟨vs,hq,by rw[hi,e2.length];exact Nat.le_refl _⟩⟩
  obtain⟨u,hu,ru⟩:=ŷ e2.pr hp
  refine⟨⟨vs,u,hq,hu⟩,λx H' ⟨hH,hx⟩=>?_⟩
  subst hH
  have:vs[i]?=some x:=hx vs hq
  rw[hu] at this
  cases this
  exact⟨F2,Ġ,Same.refl _,Same.refl _,Rep.same sF p u ru⟩
 |tup ps=>
  have q':Rep (kk X cm) F1 (.tup ps) v:=q
  unfold Rep at q'
  obtain⟨a,vs,rfl,e1,e2⟩:=q'
  refine .inr (.inl ⟨a,rfl,⟨vs,bx.of (ć.sub _ _ e1)⟩,h1 _ F1 H1 ć (Same.refl _) (Same.refl _) ?_⟩)
  intro c' i F2 H2 σ2 ρ2 Ġ sF _
  have hq:bx X.K H2 a vs:=bx.of ((sF.trans Ġ.sub) _ _ e1)
  refine⟨λp hp=>?_,λhi=>⟨vs,hq,by rw[hi,e2.length];exact Nat.le_refl _⟩⟩
  obtain⟨u,hu,ru⟩:=ŷ e2.pr hp
  refine⟨⟨vs,u,hq,hu⟩,λx H' ⟨hH,hx⟩=>?_⟩
  subst hH
  have:vs[i]?=some x:=hx vs hq
  rw[hu] at this
  cases this
  exact⟨F2,Ġ,Same.refl _,Same.refl _,Rep.same sF p u ru⟩
 |str z=>
  have q':v=.str z:=by have q':Rep (kk X cm) F1 (.str z) v:=q;unfold Rep at q';exact q'
  subst q'
  refine .inr (.inr ⟨z,rfl,h1 _ F1 H1 ć (Same.refl _) (Same.refl _) ?_⟩)
  intro c' i F2 H2 σ2 ρ2 Ġ sF _
  refine⟨λp hp=>?_,λhi=>by rw[hi,List.length_map];show _=_;simp⟩
  rw[List.getElem?_map] at hp
  cases ez:z.cps.toList[i]? with
  |none=>rw[ez] at hp;cases hp
  |some cc=>
   rw[ez] at hp
   cases hp
   refine⟨by have:=(List.getElem?_eq_some_iff.mp ez).1;show i<z.cps.size;simpa using this,λx H' ⟨hH,c2,hc,hx⟩=>?_⟩
   subst hH hx
   rw[ez] at hc
   cases hc
   exact⟨F2,Ġ,Same.refl _,Same.refl _,Rep.str⟩
 |_=>exact h1.elim)
def bT(i:Nat):M (List PV):=λρ=>match ρ[i]? with
 |some (.bw ps)=>.ok ps ρ
 |some (.sh (.lst ps))=>.ok ps ρ
 |some (.sh (.tup ps))=>.ok ps ρ
 |some (.sh (.str z))=>.ok (z.cps.toList.map λc=>.str ⟨#[c]⟩) ρ
 |some (.ow ps)=>.ok ps (ρ.set i (.sh (.lst ps)))
 |_=>.bad
def lJ(i:Nat){x:Str}{px:Pos}(hN:X.N[i]?=some x:=by rfl)(hv:sE X.env.scope x:=by first|exact Or.inl rfl|exact Or.inr (Or.inl rfl)|exact Or.inr (Or.inr rfl))(hd:(x== ("__debug__" :Str))=false:=by decide)
 (hcd:(x== ("__classdict__" :Str))=false:=by decide):PI X tg (.Name x px) (tI (kk X cm) E (bT i)):=λpins s σ H R I h=>by
 obtain⟨c,F,ρ,rel,h⟩:=h
 cases e:ρ[i]? with
 |none=>unfold bT at h;rw[e] at h;exact h.elim
 |some sl=>
  have Jc:Ų (kk X cm) E (rIt (kk X cm)) c F H σ R (ů (Ė i) ρ)->wpAny (model X.prog X.w) X.A (eval (.Name x px) X.env) (λv s1=>wpAny (model X.prog X.w) X.A (pyIter v) (PIE X pins σ tg R) X.xe s1) X.xe s:=λh'=>
   pB (v_var i hN hv hd hcd) pins s σ H R I ⟨c,F,ρ,rel,h'⟩
  unfold bT at h
  rw[e] at h
  cases sl with
  |no=>exact h.elim
  |rc C ns ps=>exact h.elim
  |ot ps qs rs=>exact h.elim
  |ol Bf=>exact h.elim
  |od _ _=>exact h.elim
  |bd _ _=>exact h.elim
  |ow ps=>exact Jc (by unfold ů Ė;rw[e];exact h)
  |sh p=>
   cases p with
   |lst ps=>exact Jc (by unfold ů Ė;rw[e];exact h)
   |tup ps=>exact Jc (by unfold ů Ė;rw[e];exact h)
   |str z=>exact Jc (by unfold ů Ė;rw[e];exact h)
   |_=>exact h.elim
  |bw ps=>
   obtain⟨a,vs,h1,h2,h3⟩:=rel.slot i _ e
   refine Dd (Ů hN hv hd hcd) pins s σ H R I ⟨.ref a,at_of h1,.inl ⟨a,rfl,⟨vs,Ř.of (rel.lent a _ h2).1⟩,h _ F H rel (Same.refl _) (Same.refl _) ?_⟩⟩
   intro c' j F2 H2 σ2 ρ2 Ġ sF sL
   have hq:Ř X.K H2 a vs:=Ř.of (sL a _ h2)
   refine⟨λp hp=>?_,λhi=>⟨vs,hq,by rw[hi,h3.length];exact Nat.le_refl _⟩⟩
   obtain⟨u,hu,ru⟩:=ŷ h3.pr hp
   refine⟨⟨vs,u,hq,hu⟩,λx H' ⟨hH,hx⟩=>?_⟩
   subst hH
   have:vs[j]?=some x:=hx vs hq
   rw[hu] at this
   cases this
   exact⟨F2,Ġ,Same.refl _,Same.refl _,Rep.same sF p u ru⟩
def bU(lo:Int)(n:Nat)(c:Int):List PV:=(List.range n).map λ(i:Nat)=>.int (lo+i*c)
def iy(i:Int):Bool:=decide (i.natAbs<1152921504606846976)
def aH:List PV->Option (List PV)
 | [.int j]=>if iy j=true then some (bU 0 j.toNat 1) else none
 |_=>none
def aX(f:List PV->Option (List PV))(mr:M (List PV)):M (List PV):=λρ=>(mr ρ).bind λps ρ1=>Res.jW (f ps) ρ1
def vP{lo c:Int}{n i:Nat}{p:PV}(h:(bU lo n c)[i]?=some p):i<n/\p=.int (lo+i*c):=by
 unfold bU at h
 by_cases hn:i<n
 ·rw[List.getElem?_map,List.getElem?_range hn] at h
  exact⟨hn,(Option.some.inj h).symm⟩
 ·rw[List.getElem?_eq_none (by simpa using hn)] at h
  cases h
def vQ{lo c:Int}{n:Nat}:(bU lo n c).length=n:=by simp[bU]
def Rm{K:KK}{Lh F:Hp}(lo:Int)(n:Nat):bB K Lh F (Itr lo n) (bU lo n 1):=λc i F2 H σ ρ rel sF _=>
 ⟨fun p hp=>by
   obtain⟨h1,rfl⟩:=vP hp
   refine⟨h1,λx H' ⟨e1,e2⟩=>?_⟩
   subst e1 e2
   exact⟨F2,rel,Same.refl _,Same.refl _,by rw[Int.mul_one];exact Rep.int⟩,λhi=>by rw[vQ] at hi;subst hi;exact Nat.le_refl _⟩
def zT{i:Int}(h:iy i=true): -(2 ^ 60)<=i/\i<2 ^ 60:=by
 unfold iy at h
 rw[decide_eq_true_eq] at h
 omega
variable{a b d:Expr}{p pos:Pos}{mr:M (List PV)}
def Dg{K:KK}{F:Hp}{ps:List PV}{vs:List V}(h:Ĉ K F ps vs):(∀i r,ps=.int i::r->∃r',vs=.int i::r'/\Ĉ K F r r')/\(ps=[]->vs=[]):=by
 refine⟨λi r e=>?_,λe=>?_⟩
 ·subst e
  unfold Ĉ at h
  obtain⟨x,r',h1,h2,h3⟩:=h
  unfold Rep at h2
  exact⟨r',by rw[h1,h2],h3⟩
 ·subst e
  unfold Ĉ at h
  exact h
def ũ(hg:Gl X "range")(hm:X.mg "range" =none)(ha:PA X [a] (tL (kk X cm) E mr))(hs:starEach [a] X.env=[(false,eval a X.env)]:=by exact š rfl):PI X tg (.Call (.Name "range" p) [a] [] pos) (tI (kk X cm) E (aX aH mr)):=
 λpins s σ H R I h=>zE hg hm ha hs pins s σ H R I (by
  obtain⟨c,F,ρ,rel,h⟩:=h
  refine⟨c,F,ρ,rel,h.bind λps ρ1 vs F1 H1 ć s1 s2 q h1=>?_⟩
  have q':Ĉ (kk X cm) F1 ps vs:=q
  unfold aH at h1
  split at h1
  ·rename_i j
   split at h1
   ·rename_i hj
    obtain⟨r',e1,e2⟩:=(Dg q').1 _ _ rfl
    cases(Dg e2).2 rfl
    obtain⟨k1,k2⟩:=zT hj
    exact⟨j,e1,by omega,by omega,h1 _ F1 H1 ć (Same.refl _) (Same.refl _) (Rm 0 j.toNat)⟩
   ·exact h1.elim
  ·exact h1.elim)
end
def fX:Slot->Slot
 | .sh p=>.sh p
 | .ow ps=>.bw ps
 | .bw ps=>.bw ps
 | .od t kvs=>.bd t kvs
 | .bd t kvs=>.bd t kvs
 |_=>.no
def fY(js:List Nat)(nl:Nat)(ρ:Ĳ):Ĳ:=js.map (λ(j:Nat)=>fX ((ρ[j]?).getD .no))++List.replicate nl .no
def Ŝ(g:Tg)(mt:M Bool)(me:M PV):List PV->Ĳ->List PV->Option (List PV)
 | [],_,acc=>some acc
 |p::ps,ρ,acc=>match g p ρ with
  |none=>none
  |some ρ1=>match mt ρ1 with
   | .ok true ρ2=>match me ρ2 with
     | .ok q ρ3=>if acc.length<16777216 then Ŝ g mt me ps ρ3 (acc ++ [q]) else none
     |_=>none
   | .ok false ρ2=>Ŝ g mt me ps ρ2 acc
   |_=>none
def ź(js:List Nat)(nl:Nat)(mi:M (List PV))(g:Tg)(mt:M Bool)(me:M PV):M RV:=λρ=>(mi ρ).bind λitems ρ1=>match Ŝ g mt me items (fY js nl ρ1) [] with
 |some ps=>.ok (.ow ps) ρ1
 |none=>.bad
abbrev EF:L2.St->XK:=λ_ _ _ _=>False
def bV:M Bool:=λρ=>.ok true ρ
section
variable{K:KK}{c:Ctx}{F H:Hp}{σ:L2.St}{ρ:Ĳ}
def qI(F H H1:Hp):Ctx:=⟨H1,F,(ctx0 F H).L,λ_ _ _=>True⟩
def Rel.cap(js:List Nat)(nl:Nat)(rel:Rel K c F H σ ρ){D:Addr}{o:HO}(hD:H D=none):Rel K (qI F H (upd H D o)) F (upd H D o) (cP js nl σ) (fY js nl ρ) where
 sub:=rel.sub.trans (Same.upd hD)
 base:=Same.refl _
 f0:=Same.refl _
 bI:=λ_ _ z=>z
 lent:=λa u e=>⟨Same.upd hD a u (bQ e).1,(bQ e).2⟩
 lb:=fun a e=>by
   cases q:(qI F H (upd H D o)).L a with
   |none=>rfl
   |some u=>
    have e':upd H D o a=none:=e
    rw[Same.upd hD a u (bQ q).1] at e'
    cases e'
 len:=by simp[cP,fY]
 slot:= λi s e=>by
  unfold fY at e
  by_cases hi:i<js.length
  ·rw[List.getElem?_append_left (by simpa using hi),List.getElem?_map] at e
   cases ej:js[i]? with
   |none=>rw[ej] at e;cases e
   |some j=>
    rw[ej] at e
    have e':fX ((ρ[j]?).getD .no)=s:=Option.some.inj e
    subst e'
    have hx:((cP js nl σ)[i]?).getD none=(σ[j]?).getD none:=by
     unfold cP
     rw[List.getElem?_append_left (by simpa using hi),List.getElem?_map,ej]
     rfl
    rw[hx]
    cases er:ρ[j]? with
    |none=>trivial
    |some sl=>
     have q:=rel.slot j sl er
     cases sl with
     |no=>trivial
     |sh p=>exact q
     |ow ps=>
      obtain⟨a,vs,h1,h2,h3,h4,h5⟩:=q
      refine⟨a,vs,h1,?_,h5⟩
      show(match F a with|none=>H a|some _=>none)=_
      rw[h3]
      exact h2
     |bw ps=>
      obtain⟨a,vs,h1,h2,h3⟩:=q
      obtain⟨l1,l2⟩:=rel.lent a _ h2
      refine⟨a,vs,h1,?_,h3⟩
      show(match F a with|none=>H a|some _=>none)=_
      rw[l2]
      exact l1
     |rc C ns ps=>trivial
     |ot ps qs rs=>trivial
     |ol Bf=>trivial
     |od t kvs=>
      obtain⟨a,u,h1,h2,h3,h4,h5⟩:=q
      refine⟨a,u,h1,.inl ?_,h5⟩
      show(match F a with|none=>H a|some _=>none)=_
      rw[h3]
      exact h2
     |bd t kvs=>
      obtain⟨a,u,h1,h2,h3⟩:=q
      refine⟨a,u,h1,h2.imp (λh2=>?_) id,h3⟩
      obtain⟨l1,l2⟩:=rel.lent a _ h2
      show(match F a with|none=>H a|some _=>none)=_
      rw[l2]
      exact l1
  ·rw[List.getElem?_append_right (by simpa using hi),List.getElem?_replicate] at e
   split at e
   ·cases e;trivial
   ·cases e
 sep:=λi j a h1 _=>by
  exfalso
  obtain⟨s,y,h1,_,h2⟩:=h1
  have h2:=lC h2
  unfold fY at h1
  by_cases hi:i<js.length
  ·rw[List.getElem?_append_left (by simpa using hi),List.getElem?_map] at h1
   cases ej:js[i]? with
   |none=>rw[ej] at h1;cases h1
   |some j=>
    rw[ej] at h1
    have e':fX ((ρ[j]?).getD .no)=s:=Option.some.inj h1
    subst e'
    cases q:(ρ[j]?).getD .no<;>rw[q] at h2<;>cases h2
  ·rw[List.getElem?_append_right (by simpa using hi),List.getElem?_replicate] at h1
   split at h1
   ·cases h1;cases h2
   ·cases h1
def Rel.rebase{H1 F1:Hp}{D:Addr}{ys zs:List V}(hD:H1 D=none)(hF:F1 D=none)(rel:Rel K (qI F1 H1 (upd H1 D (.lst ys))) F H σ ρ):Rel K (qI F1 H1 (upd H1 D (.lst zs))) F (upd H D (.lst zs)) σ ρ:= by
 have fD:F D=none:=rel.bI D (by show upd H1 D _ D≠none;rw[č];intro z;cases z) hF
 have lD:∀b u,(qI F1 H1 (upd H1 D (.lst ys))).L b=some u->b≠D:=λb u e z=>by
  have q:=(bQ (F:=F1) (H:=H1) (a:=b) (u:=u) e).1
  rw[z,hD] at q
  cases q
 have ne:∀b,(qI F1 H1 (upd H1 D (.lst ys))).B b=none->b≠D:=λb z q=>by
  subst q
  have z':upd H1 b (.lst ys) b=none:=z
  rw[č] at z';cases z'
 have back:∀b,b≠D->(qI F1 H1 (upd H1 D (.lst ys))).B b=none->(qI F1 H1 (upd H1 D (.lst zs))).B b=none:=λb hb z=>by
  have z':upd H1 D (.lst ys) b=none:=z
  show upd H1 D (.lst zs) b=none
  rw[ċ hb] at z' ⊢;exact z'
 refine⟨λb u e=>?_,λb u e=>?_,rel.f0,λb h1 h2=>?_,λb u e=>?_,λb e=>?_,rel.len,λi s e=>?_,rel.sep⟩
 ·have hb:b≠D:=λz=>by rw[z,fD] at e;cases e
  rw[ċ hb];exact rel.sub b u e
 ·by_cases hb:b=D
  ·subst hb
   have e':upd H1 b (.lst zs) b=some u:=e
   rw[č] at e' ⊢;exact e'
  ·have e':upd H1 D (.lst zs) b=some u:=e
   rw[ċ hb] at e' ⊢
   exact rel.base b u (by show upd H1 D _ b=some u;rw[ċ hb];exact e')
 ·refine rel.bI b (λz=>h1 ?_) h2
  exact back b (ne b z) z
 ·rw[ċ (lD b u e)]
  exact rel.lent b u e
 ·refine rel.lb b ?_
  have z':upd H1 D (.lst zs) b=none:=e
  have hb:b≠D:=λq=>by rw[q,č] at z';cases z'
  show upd H1 D (.lst ys) b=none
  rw[ċ hb] at z' ⊢;exact z'
 ·have q:=rel.slot i s e
  cases s with
  |no=>trivial
  |sh p=>exact q
  |bw ps=>exact q
  |ow ps=>
   obtain⟨a,vs,q1,q2,q3,q4,q5⟩:=q
   have hb:=ne a q4
   exact⟨a,vs,q1,by rw[ċ hb];exact q2,q3,back a hb q4,q5⟩
  |bd t kvs=>exact q
  |od t kvs=>
   obtain⟨a,u,q1,q2,q3,q4,q5⟩:=q
   have hb:=ne a q4
   exact⟨a,u,q1,by rw[ċ hb];exact q2,q3,back a hb q4,q5⟩
  |rc C ns ps=>
   obtain⟨a,dx,fs,q1,q2,q3,q4,q5⟩:=q
   have hb:=ne a q4
   exact⟨a,dx,fs,q1,by rw[ċ hb];exact q2,q3,back a hb q4,q5⟩
  |ot ps qs rs=>
   obtain⟨p,a,xs,vs,ys,q1,q0,qx,q2,q3,q4,q5⟩:=q
   have hb:=ne a q4
   exact⟨p,a,xs,vs,ys,q1,q0,qx,by rw[ċ hb];exact q2,q3,back a hb q4,q5⟩
  |ol Bf=>
   obtain⟨p,as,q1,q0,qn,qp⟩:=q
   refine⟨p,as,q1,q0,qn,tH qp λa ps _ ⟨vs,q2,q3,q4,q5⟩=>?_⟩
   have hb:=ne a q4
   exact⟨vs,by rw[ċ hb];exact q2,q3,back a hb q4,q5⟩
end
section
variable{X:Cx}{cm:String->Addr}{E:L2.St->XK}{elt tg iter:Expr}{ifs:List Expr}{scope:Scope}{pos:Pos}{mi:M (List PV)}{g:Tg}{mt:M Bool}{me:M PV}
def cR:Hq X [] (tB (kk X cm) E bV):=λpins s σ H Q I h=>Io pins s σ H Q I (by
 obtain⟨c,F,ρ,rel,h⟩:=h
 exact h true F H rel (Same.refl _) (Same.refl _) rfl)
def Dh(K:KK):RR (List PV) It:=λ_ _ _ F H items J=>bB K (ctx0 F H).L F J items
def WL{K:KK}{c:Ctx}{F H:Hp}{σ:L2.St}{ρ:Ĳ}(rel:Rel K c F H σ ρ){b:Addr}{u:HO}(e:c.L b=some u):(ctx0 F H).L b=some u:=by
 obtain⟨l1,l2⟩:=rel.lent b u e
 show(match F b with|none=>H b|some _=>none)=some u
 rw[l2]
 exact l1
def KN(h:PI X tg iter (tI (kk X cm) E mi)):PI X tg iter (tG (kk X cm) E (Dh (kk X cm)) mi):=λpins s σ H R I ⟨c,F,ρ,rel,q⟩=>h pins s σ H R I ⟨c,F,ρ,rel,Ų.bind (R':=Dh (kk X cm)) (f:=λp ρ=>.ok p ρ) (by revert q;cases mi ρ <;> exact id) λp ρ1 v F1 H1 ć s1 s2 q h1=>h1 v F1 H1 ć (Same.refl _) (Same.refl _) λc' i F2 H2 σ2 ρ2 Ġ sF sL=>q c' i F2 H2 σ2 ρ2 Ġ sF λb u e=>sL b u (WL ć e)⟩
def tX{js:List Nat}{nl:Nat}{σ:L2.St}{H:Hp}{Q:VK}(h:tO (kk X cm) E (ź js nl mi g mt me) σ H Q):Ck js nl (tG (kk X cm) E (Dh (kk X cm)) mi) (tT (kk X cm) g) (tB (kk X cm) EF mt) (tV (kk X cm) EF me) σ H Q:=by
 obtain⟨c,F,ρ,rel,h⟩:=h
 refine⟨c,F,ρ,rel,h.bind λitems ρ1 J F1 H1 ć s1 s2 ito h1=>?_⟩
 intro D hD
 have hF:F1 D=none:=ć.sub.free hD
 cases ec:Ŝ g mt me items (fY js nl ρ1) [] with
 |none=>rw[ec] at h1;exact h1.elim
 |some res=>
  rw[ec] at h1
  refine⟨λi m σ' H'=>∃F' ρ' ys acc,i<=items.length/\m=items.length-i/\Rel (kk X cm) (qI F1 H1 (upd H1 D (.lst ys))) F' H' σ' ρ'/\Ĉ (kk X cm) F' acc ys/\Ŝ g mt me (items.drop i) ρ' acc=some res,
   ⟨_,F1,_,[],[],Nat.zero_le _,rfl,?_,Ĉ.nil,ec⟩,?_⟩
  ·exact ć.cap js nl hD
  ·rintro i m σ2 H2 ⟨F2,ρ2,ys,acc,hle,rfl,Ġ,ra,h2⟩
   have s12:Same F1 F2:=Ġ.f0
   obtain⟨go,stop⟩:=ito _ i F2 H2 σ2 ρ2 Ġ s12 λb u e=>(Ġ.lent b u e).1
   have hH2:H2 D=some (.lst ys):=Ġ.base D _ (show upd H1 D _ D=_ from č)
   have fD:F2 D=none:=Ġ.bI D (by show upd H1 D _ D≠none;rw[č];intro z;cases z) hF
   by_cases hlt:i<items.length
   ·obtain⟨g1,g2⟩:=go items[i] (List.getElem?_eq_getElem hlt)
    rw[List.drop_eq_getElem_cons hlt] at h2
    unfold Ŝ at h2
    refine .inr ⟨g1,_,λσ' H' z=>z,λx H3 hy=>?_⟩
    obtain⟨F3,fV,s3,sH3,rp⟩:=g2 x H3 hy
    refine⟨_,F3,ρ2,items[i],fV,rp,?_⟩
    cases eg:g items[i] ρ2 with
    |none=>rw[eg] at h2;cases h2
    |some ρ3=>
     rw[eg] at h2
     dsimp only at h2
     intro σ4 tU
     refine⟨_,F3,ρ3,tU,?_⟩
     cases em:mt ρ3 with
     |bad=>rw[em] at h2;cases h2
     |exc x ρ4=>rw[em] at h2;cases h2
     |ok b ρ4=>
      rw[em] at h2
      intro b' F5 H5 WM s5 KQ eb
      have eb':b=b':=eb
      subst eb'
      cases b with
      |false=>
       rw[if_neg Bool.false_ne_true]
       dsimp only at h2
       exact⟨items.length-(i+1),by omega,F5,ρ4,ys,acc,hlt,rfl,WM,Ĉ.same (s3.trans s5) acc ys ra,h2⟩
      |true=>
       rw[if_pos rfl]
       dsimp only at h2
       refine⟨_,F5,ρ4,WM,?_⟩
       cases ee:me ρ4 with
       |bad=>rw[ee] at h2;cases h2
       |exc x ρ5=>rw[ee] at h2;cases h2
       |ok q ρ5=>
        rw[ee] at h2
        dsimp only at h2
        intro y F6 H6 WQ s6 UJ rq
        split at h2
        ·rename_i hz
         have ra6:=Ĉ.same ((s3.trans s5).trans s6) acc ys ra
         refine⟨ys,WQ.base D _ (show upd H1 D _ D=_ from č),by rw[<-ra6.length,ğ];exact hz,?_⟩
         exact⟨items.length-(i+1),by omega,F6,ρ5,ys ++ [y],acc ++ [q],hlt,rfl,WQ.rebase hD hF,Ĉ.append ra6 (Ĉ.cons rq Ĉ.nil),h2⟩
        ·cases h2
   ·have e:i=items.length:=by omega
    refine .inl ⟨stop e,?_⟩
    rw[List.drop_eq_nil_of_le (by omega)] at h2
    unfold Ŝ at h2
    cases h2
    have gr:Gr F1 H1 F2 H2:=⟨λb u e=>Ġ.base b u (by show upd H1 D _ b=_;rw[ċ (ĩ e hD)];exact e),s12,Ġ.sub,λb hb hf=>Ġ.bI b (by
     show upd H1 D _ b≠none
     by_cases hbD:b=D
     ·rw[hbD,č];intro z;cases z
     ·rw[ċ hbD];exact hb) hf⟩
    have Zbo:=ć.call gr
    exact h1 _ F2 H2 Zbo s12 gr.h ⟨D,ys,rfl,hH2,fD,ć.base.free hD,ć.lF gr.f (ć.fresh hD),ra⟩
def Jd(N':List Str)(js:List Nat)(nl:Nat)(sc:Scope)(hsc:X.env.scope=sc)(hcalm:X.calm=true)
 (hi:PI X.ŀ tg iter (tG (kk X cm) E (Dh (kk X cm)) mi))(hg:∀cl C s H fp,PG (aU X.ŀ N' scope cl C s H fp) tg (tT (kk X cm) g))(ht:∀cl C s H fp,Hq (aU X.ŀ N' scope cl C s H fp) ifs (tB (kk X cm) EF mt))(he:∀cl C s H fp,PE (aU X.ŀ N' scope cl C s H fp) elt (tV (kk X cm) EF me))
 (hcap:fL X.ŀ sc scope N' js)(hlen:js.length+nl=N'.length:=by rfl)
 (hk:scope.kind=.function:=by rfl)(hcell:∀y∈scope.names,y.2=.cell->scope.names.lookup y.1=some .cell:=by decide +kernel)(hnames:∀y∈scope.names,y.2=.local->scope.names.lookup y.1=some .local:=by decide +kernel)
 (hfree:∀y∈scope.names,y.2=.free->(sc.names.lookup y.1=some .cell\/sc.names.lookup y.1=some .free):=by decide +kernel)
 (hs:∀x,foldedSetIterable iter X.env x=pure x:=by intro _;rfl) :
 PE X (.ListComp elt [⟨tg,iter,ifs,0⟩] scope pos) (tO (kk X cm) E (ź js nl mi g mt me)):=
 PE.wk (PE.ŀ (Ip N' js nl sc hsc hcalm hi hg ht he hcap hlen hk hcell hnames hfree hs)) λ_ _ _ h=>tX h
end
end P
namespace P
open PySem PySem.Spec PyProof.Rows L2 M2 M3 M4
abbrev bits(x:Int):Nat:=Builtin.Int.intBits x
section
variable{X:Cx}{cm:String->Addr}{K:KK}
def KR(K:PySem.W.Frag):R2:=λx y H Q=>∃l b xs zs,x=.ref l/\y=.ref b/\Ř K H l xs/\Ř K H b zs/\xs.length+zs.length<=sizeLine/\∀p,H p=none->Q (.ref p) (upd H p (.lst (xs++zs)))
def Je:Š X (binaryOp .Add) (KR X.K):=by
 intro pins s σ H x y v u Q I rx ry h
 obtain⟨l,b,xs,zs,rfl,rfl,hH,hB,hz,q⟩:=h
 cases rx
 cases ry
 obtain⟨its,r,pl,z⟩:=I.list hH
 obtain⟨its2,r2,pl2,z2⟩:=I.list hB
 obtain⟨⟨c1,d1,t1,sl1⟩,n,e,hc,hd,hs⟩:=pl
 obtain⟨⟨c2,d2,t2,sl2⟩,n2,e2,hc2,hd2,hs2⟩:=pl2
 simp only at hc hd hs hc2 hd2 hs2
 subst hc hd hs hc2 hd2 hs2
 have hl:=r.length
 have hl2:=r2.length
 have ea:its.toArray++its2.toArray=(its++its2).toArray:=by simp
 refine concat_meets ⟨_,e,rfl⟩ ⟨_,e2,rfl⟩ noFill_list_add seq_list_add PySem.F.slot_list_add PySem.F.entry_list_add (PySem.F.args_list_add_2 _ _) (list_addW l b its.toArray its2.toArray n n2 none none sl1 sl2 (by simp only[List.size_toArray];omega)) ⟨e,e2,?_⟩
 rw[ea]
 exact⟨.ref _,_,I.Zbb (t':=s.toks) (r.append r2) (by rw[List.length_append];omega),rfl,q _ I.fresh⟩
def KY(K:PySem.W.Frag):R2:=λx y H Q=>∃l b xs zs,x=.ref l/\y=.ref b/\bx K H l xs/\bx K H b zs/\xs≠[]/\zs≠[]/\xs.length+zs.length<=sizeLine/\∀p,H p=none->Q (.ref p) (upd H p (.tup (xs++zs)))
def Jf:Š X (binaryOp .Add) (KY X.K):=by
 intro pins s σ H x y v u Q I rx ry h
 obtain⟨l,b,xs,zs,rfl,rfl,hH,hB,nx,nz,hz,q⟩:=h
 cases rx
 cases ry
 obtain⟨its,r,pl,z⟩:=I.tuple hH
 obtain⟨its2,r2,pl2,z2⟩:=I.tuple hB
 obtain⟨⟨c1,d1,t1,sl1⟩,e,hc,n,hd⟩:=pl
 obtain⟨⟨c2,d2,t2,sl2⟩,e2,hc2,n2,hd2⟩:=pl2
 simp only at hc hd hc2 hd2
 subst hc hd hc2 hd2
 have hl:=r.length
 have hl2:=r2.length
 have ne1:its≠[]:=λz=>by rw[z] at hl;exact nx (List.length_eq_zero_iff.mp hl)
 have ne2:its2≠[]:=λz=>by rw[z] at hl2;exact nz (List.length_eq_zero_iff.mp hl2)
 have ea:its.toArray++its2.toArray=(its++its2).toArray:=by simp
 refine concat_meets ⟨_,e,rfl⟩ ⟨_,e2,rfl⟩ noFill_tuple_add seq_tuple_add PySem.F.slot_tuple_add PySem.F.entry_tuple_add (PySem.F.args_tuple_add_2 _ _) (tuple_addW2 l b its.toArray its2.toArray n n2 d1 d2 sl1 sl2 (by simpa using ne1) (by simpa using ne2) (by simp only[List.size_toArray];omega)) ⟨e,e2,?_⟩
 rw[ea]
 exact⟨.ref _,_,I.laid (o:=.tup (xs++zs)) (t':=s.toks) (λ_ _ q=>Heap.get?_push_of_some _ q) (Nat.le_refl _) ⟨by rw[List.length_append];omega,(its++its2),r.append r2,⟨_,Heap.get?_push_size _ rfl,rfl,_,rfl⟩⟩,rfl,q _ I.fresh⟩
def ġ:PV->PV->Option RV
 | .int i,.int j=>some (.sh (.int (i+j)))
 | .str i,.str j=>if i.length+j.length<=16777216 then some (.sh (.str (i++j))) else none
 | .lst ps,.lst qs=>if ps.length+qs.length<=16777216 then some (.ow (ps++qs)) else none
 | .tup (p::ps),.tup (q::qs)=>if(p::ps).length+(q::qs).length<=16777216 then some (.sh (.tup ((p::ps)++(q::qs)))) else none
 |_,_=>none
def KZ(K:PySem.W.Frag):R2:=λx y H Q=>Wh x y H Q\/(KR K x y H Q\/KY K x y H Q)
def Rn:Š X (binaryOp .Add) (KZ X.K):=QH.or (Je.or Jf)
def Ro:OpO K (KZ K.K) ġ:=by
 intro c F H σ ρ p q pv v u Q rel r1 r2 e k
 unfold ġ at e
 split at e
 ·cases e
  cases r1.int
  cases r2.int
  exact .inl (k _ F H rel (Same.refl _) (Same.refl _) (Rep.int (K:=K) (F:=F)))
 ·split at e
  ·rename_i hz
   cases e
   cases r1.str
   cases r2.str
   exact .inl ⟨by rw[ğ];exact hz,k _ F H rel (Same.refl _) (Same.refl _) (Rep.str (K:=K) (F:=F))⟩
  ·cases e
 ·split at e
  ·rename_i hz
   cases e
   obtain⟨a,xs,rfl,h1,h2⟩:=r1.lst rel.sub
   obtain⟨b,ys,rfl,h3,h4⟩:=r2.lst rel.sub
   refine .inr (.inl ⟨a,b,xs,ys,rfl,rfl,h1,h3,by rw[<-h2.length,<-h4.length,ğ];exact hz,λd hd=>?_⟩)
   obtain⟨q1,q2⟩:=Ź rel hd (Ĉ.append h2 h4)
   exact k _ F _ q1 (Same.refl _) (Same.upd hd) q2
  ·cases e
 ·split at e
  ·rename_i hz
   cases e
   obtain⟨a,xs,rfl,h1,h2⟩:=r1.tup rel.sub
   obtain⟨b,ys,rfl,h3,h4⟩:=r2.tup rel.sub
   have l1:=h2.length
   have l2:=h4.length
   refine .inr (.inr ⟨a,b,xs,ys,rfl,rfl,h1,h3,(λz=>by rw[z] at l1;cases l1),(λz=>by rw[z] at l2;cases l2),by rw[<-l1,<-l2,ğ];exact hz,λl hl=>k _ _ _ (rel.alloc hl) (Same.upd (rel.sub.free hl)) (Same.upd hl) ?_⟩)
   show Rep K _ _ _
   unfold Rep
   exact⟨l,xs++ys,rfl,č,Ĉ.same (Same.upd (rel.sub.free hl)) _ _ (Ĉ.append h2 h4)⟩
  ·cases e
 ·cases e
def zG(g:Int->Int->Int):PV->PV->Option PV
 | .int i,.int j=>some (.int (g i j))
 |_,_=>none
def Ho(C:Int->Int->Bool)(g:Int->Int->Int):PV->PV->Option PV
 | .int i,.int j=>if C i j=true then some (.int (g i j)) else none
 |_,_=>none
def opC(g:Int->Int->Bool):PV->PV->Option PV
 | .int i,.int j=>some (.bl (g i j))
 |_,_=>none
def WR{g:Int->Int->Int}:jg K (Ik λi j=>.int (g i j)) (zG g):=by
 intro c F H σ ρ p q pv v u Q rel r1 r2 e k
 unfold zG at e
 split at e
 ·cases e
  cases r1.int
  cases r2.int
  exact k _ F H rel (Same.refl _) (Same.refl _) Rep.int
 ·cases e
def WT{g:Int->Int->Bool}:jg K (Ik λi j=>.bl (g i j)) (opC g):=by
 intro c F H σ ρ p q pv v u Q rel r1 r2 e k
 unfold opC at e
 split at e
 ·cases e
  cases r1.int
  cases r2.int
  exact k _ F H rel (Same.refl _) (Same.refl _) Rep.bl
 ·cases e
def Rq{C:Int->Int->Bool}{C':Int->Int->Prop}{g:Int->Int->Int}(hC:∀i j,C i j=true->C' i j):jg K (mI C' λi j=>.int (g i j)) (Ho C g):=by
 intro c F H σ ρ p q pv v u Q rel r1 r2 e k
 unfold Ho at e
 split at e
 ·split at e
  ·rename_i hc
   cases e
   cases r1.int
   cases r2.int
   exact⟨hC _ _ hc,k _ F H rel (Same.refl _) (Same.refl _) Rep.int⟩
  ·cases e
 ·cases e
def bC:=zG λi j=>i-j
def Rr:jg K (Ik λi j=>.int (i-j)) bC:=WR
def fZ(_ j:Int):Bool:=decide (j≠0) && decide (bits j<=8000)
def İ:=Ho fZ λi j=>i.fdiv j
def Rt:jg K (mI zP λi j=>.int (i.fdiv j)) İ:=Rq λi j h=>by unfold fZ at h;simpa[zP] using h
def tY(_ j:Int):Bool:=decide (j≠0)
def Ğ:=Ho tY λi j=>i.fmod j
def Ru:jg K (mI (λ_ j=>j≠0) λi j=>.int (i.fmod j)) Ğ:=Rq λi j h=>by unfold tY at h;simpa using h
def tZ(i j:Int):Bool:=decide (0<=j) && decide (j.natAbs<=1000000) && decide (i.natAbs<18446744073709551616)
def Ż:=Ho tZ λi j=>i ^ j.toNat
def ż:jg K (mI Qk λi j=>.int (i ^ j.toNat)) Ż:=Rq λi j h=>by
 unfold tZ at h
 simp only[Bool.and_eq_true,decide_eq_true_eq] at h
 exact⟨h.1.1,by omega,by have:=h.2;simpa using this⟩
def oh:=opC λi j=>decide (i<j)
def jJ:=opC λi j=>decide (i<=j)
def jj:jg K (Ik λi j=>.bl (decide (i<j))) oh:=WT
def dU:jg K (Ik λi j=>.bl (decide (i<=j))) jJ:=WT
def Ņ(i j:Int):Bool:=decide (i.natAbs<18446744073709551616) || decide (j.natAbs<18446744073709551616) || (decide (bits i<=1048576) && decide (bits j<=1048576))
def Di{i j:Int}(h:Ņ i j=true):oZ i j:=by
 unfold Ņ at h
 simp only[Bool.or_eq_true,Bool.and_eq_true,decide_eq_true_eq] at h
 rcases h with(h|h)|h
 ·exact .inl (.inl ⟨by omega,by omega⟩)
 ·exact .inl (.inr ⟨by omega,by omega⟩)
 ·exact .inr h
def Ģ:PV->PV->Option PV
 | .int i,.int j=>if Ņ i j=true then some (.int (i*j)) else none
 | .str z,.int n=>if 0<=n/\n<=1000/\z.length<=1000 then some (.str (S (List.replicate n.toNat z.cps.toList).flatten)) else none
 |_,_=>none
def Rv:jg K Cv Ģ:=by
 intro c F H σ ρ p q pv v u Q rel r1 r2 e k
 unfold Ģ at e
 split at e
 ·split at e
  ·rename_i hc
   cases e
   cases r1.int
   cases r2.int
   exact⟨Di hc,k _ F H rel (Same.refl _) (Same.refl _) Rep.int⟩
  ·cases e
 ·split at e
  ·rename_i hc
   cases e
   cases r1.str
   cases r2.int
   exact⟨hc,k _ F H rel (Same.refl _) (Same.refl _) Rep.str⟩
  ·cases e
 ·cases e
variable{E:L2.St->XK}{a b e:Expr}{es:List Expr}{pos:Pos}{ma mb:M PV}{mr:M (List PV)}
def xM:PV->Option PV
 | .int i=>some (.int (-i))
 |_=>none
def Rw:UnV K (mU λi=>.int (-i)) xM:=by
 intro c F H σ ρ p pv v Q rel r1 e k
 unfold xM at e
 split at e
 ·cases e
  cases r1.int
  exact k _ F H rel (Same.refl _) (Same.refl _) Rep.int
 ·cases e
mutual
def eqB:PV->PV->Bool
 | .non,.non=>true
 | .bl a,.bl b=>a== b
 | .bl a,.int j=>(if a then 1 else 0)== j
 | .int i,.bl b=>i== (if b then 1 else 0)
 | .int i,.int j=>i== j
 | .str x,.str y=>x== y
 | .lst xs,.lst ys=>qJ xs ys
 | .tup xs,.tup ys=>qJ xs ys
 |_,_=>false
def qJ:List PV->List PV->Bool
 | [],[]=>true
 |x::xs,y::ys=>eqB x y && qJ xs ys
 |_,_=>false
end
mutual
def ao:PV->Bool
 | .non| .bl _| .int _=>true
 | .str x=>PyData.strOk x
 | .lst xs=>lK xs
 | .tup xs=>lK xs
 |_=>false
def lK:List PV->Bool
 | []=>true
 |x::xs=>ao x && lK xs
end
mutual
def dep:PV->Nat
 | .lst xs=>zU xs+1
 | .tup xs=>zU xs+1
 |_=>0
def zU:List PV->Nat
 | []=>0
 |x::xs=>max (dep x) (zU xs)
end
mutual
def toD:PV->PyData
 | .non=>.none
 | .bl b=>.bool b
 | .int i=>.int i
 | .str x=>.str x
 | .lst xs=>.list (dI xs)
 | .tup xs=>.tuple (dI xs)
 |_=>.none
def dI:List PV->List PyData
 | []=>[]
 |x::xs=>toD x::dI xs
end
mutual
theorem gb:∀p:PV,ao p=true->(toD p).canLay0=true
 | .non,_=>rfl
 | .bl _,_=>rfl
 | .int _,_=>rfl
 | .str x,h=>by unfold ao at h;unfold toD PyData.canLay0;exact h
 | .lst xs,h=>by unfold ao at h;unfold toD PyData.canLay0;exact lM xs h
 | .tup xs,h=>by unfold ao at h;unfold toD PyData.canLay0;exact lM xs h
 | .ins _ _ _,h=>by simp[ao] at h
 | .xc _ _ _,h=>by simp[ao] at h
 | .ty _,h=>by simp[ao] at h
 | .cls _,h=>by simp[ao] at h
theorem lM:∀ps:List PV,lK ps=true->PyData.canLayAll0 (dI ps)=true
 | [],_=>rfl
 |p::ps,h=>by
  unfold lK at h
  rw[Bool.and_eq_true] at h
  unfold dI PyData.canLayAll0
  rw[gb p h.1,lM ps h.2]
  rfl
end
mutual
theorem gj:∀p:PV,(toD p).depth=dep p
 | .non=>rfl
 | .bl _=>rfl
 | .int _=>rfl
 | .str x=>rfl
 | .lst xs=>by unfold toD PyData.depth dep;rw[lN xs]
 | .tup xs=>by unfold toD PyData.depth dep;rw[lN xs]
 | .ins _ _ _=>rfl
 | .xc _ _ _=>rfl
 | .ty _=>rfl
 | .cls _=>rfl
theorem lN:∀ps:List PV,PyData.depthAll (dI ps)=zU ps
 | []=>rfl
 |p::ps=>by unfold dI PyData.depthAll zU;rw[gj p,lN ps]
end
mutual
theorem vR:∀p q:PV,ao p=true->ao q=true->PyData.eqv (toD p) (toD q)=eqB p q
 | .lst xs,.lst ys,h1,h2=>by
   unfold ao at h1 h2
   unfold toD eqB PyData.eqv
   exact qK xs ys h1 h2
 | .tup xs,.tup ys,h1,h2=>by
   unfold ao at h1 h2
   unfold toD eqB PyData.eqv
   exact qK xs ys h1 h2
 | .ins _ _ _,_,h,_=>by simp[ao] at h
 | .xc _ _ _,_,h,_=>by simp[ao] at h
 | .ty _,_,h,_=>by simp[ao] at h
 | .cls _,_,h,_=>by simp[ao] at h
 | .non,q,_,h=>by cases q<;>first|rfl|(simp[ao] at h)|(simp[toD,eqB,PyData.eqv])
 | .bl _,q,_,h=>by cases q<;>first|rfl|(simp[ao] at h)|(simp[toD,eqB,PyData.eqv])
 | .int _,q,_,h=>by cases q<;>first|rfl|(simp[ao] at h)|(simp[toD,eqB,PyData.eqv])
 | .str _,q,_,h=>by cases q<;>first|rfl|(simp[ao] at h;done)|(simp[toD,eqB,PyData.eqv])
 | .lst _,.non,_,_=>by simp[toD,eqB,PyData.eqv]
 | .lst _,.bl _,_,_=>by simp[toD,eqB,PyData.eqv]
 | .lst _,.int _,_,_=>by simp[toD,eqB,PyData.eqv]
 | .lst _,.str _,_,_=>by simp[toD,eqB,PyData.eqv]
 | .lst _,.tup _,_,_=>by simp[toD,eqB,PyData.eqv]
 | .lst _,.ins _ _ _,_,h=>by simp[ao] at h
 | .lst _,.xc _ _ _,_,h=>by simp[ao] at h
 | .lst _,.ty _,_,h=>by simp[ao] at h
 | .lst _,.cls _,_,h=>by simp[ao] at h
 | .tup _,.non,_,_=>by simp[toD,eqB,PyData.eqv]
 | .tup _,.bl _,_,_=>by simp[toD,eqB,PyData.eqv]
 | .tup _,.int _,_,_=>by simp[toD,eqB,PyData.eqv]
 | .tup _,.str _,_,_=>by simp[toD,eqB,PyData.eqv]
 | .tup _,.lst _,_,_=>by simp[toD,eqB,PyData.eqv]
 | .tup _,.ins _ _ _,_,h=>by simp[ao] at h
 | .tup _,.xc _ _ _,_,h=>by simp[ao] at h
 | .tup _,.ty _,_,h=>by simp[ao] at h
 | .tup _,.cls _,_,h=>by simp[ao] at h
theorem qK:∀ps qs:List PV,lK ps=true->lK qs=true->PyData.eqvAll (dI ps) (dI qs)=qJ ps qs
 | [],[],_,_=>by simp[dI,qJ,PyData.eqvAll]
 | [],_::_,_,_=>by simp[dI,qJ,PyData.eqvAll]
 |_::_,[],_,_=>by simp[dI,qJ,PyData.eqvAll]
 |p::ps,q::qs,h1,h2=>by
  unfold lK at h1 h2
  rw[Bool.and_eq_true] at h1 h2
  unfold dI qJ PyData.eqvAll
  rw[vR p q h1.1 h2.1,qK ps qs h1.2 h2.2]
end
mutual
theorem Dj{F:Hp}:∀(p:PV) (v:V),ao p=true->Rep K F p v->Rp K.K F (toD p) v
 | .non,_,_,r=>by unfold Rep at r;unfold toD Rp;exact r
 | .bl _,_,_,r=>by unfold Rep at r;unfold toD Rp;exact r
 | .int _,_,_,r=>by unfold Rep at r;unfold toD Rp;exact r
 | .str _,_,_,r=>by unfold Rep at r;unfold toD Rp;exact r
 | .lst xs,_,h,r=>by
   unfold ao at h
   unfold Rep at r
   unfold toD Rp
   obtain⟨a,vs,h1,h2,h3⟩:=r
   exact⟨a,vs,h1,h2,jX xs vs h h3⟩
 | .tup xs,_,h,r=>by
   unfold ao at h
   unfold Rep at r
   unfold toD Rp
   obtain⟨a,vs,h1,h2,h3⟩:=r
   exact⟨a,vs,h1,bx.of h2,jX xs vs h h3⟩
 | .ins _ _ _,_,h,_=>by simp[ao] at h
 | .xc _ _ _,_,h,_=>by simp[ao] at h
 | .ty _,_,h,_=>by simp[ao] at h
 | .cls _,_,h,_=>by simp[ao] at h
theorem jX{F:Hp}:∀(ps:List PV) (vs:List V),lK ps=true->Ĉ K F ps vs->nR K.K F (dI ps) vs
 | [],_,_,r=>by unfold Ĉ at r;unfold dI nR;exact r
 |p::ps,_,h,r=>by
  unfold lK at h
  rw[Bool.and_eq_true] at h
  unfold Ĉ at r
  unfold dI nR
  obtain⟨x,t,h1,h2,h3⟩:=r
  exact⟨x,t,h1,Dj p x h.1 h2,jX ps t h.2 h3⟩
end
def jY{c:Ctx}{F H:Hp}{σ:L2.St}{ρ:Ĳ}{p:PV}{v:V}(s:Same F H)(h:ao p=true)(r:rR K c σ ρ F H p v):Rp K.K H (toD p) v:=by
 rcases r with r|r
 ·exact Rp.same s _ _ (Dj p v h r)
 ·cases p with
  |lst ps=>
   obtain⟨a,vs,rfl,h3,h4⟩:=r
   unfold ao at h
   unfold toD Rp
   exact⟨a,vs,rfl,Ř.of h3,nR.same s _ _ (jX ps vs h h4)⟩
  |ins C ns ps=>simp[ao] at h
  |_=>exact r.elim
def zV(p q:PV):Bool:=ao p && ao q && decide (min (dep p) (dep q)<=60)
def ő(p q:PV):Option PV:=if zV p q=true then some (.bl (eqB p q)) else none
def gk(p q:PV):Option PV:=if zV p q=true then some (.bl (!eqB p q)) else none
def K_:jg K (Im K.K false) ő:=by
 intro c F H σ ρ p q pv v u Q rel r1 r2 e k
 unfold ő at e
 split at e
 ·rename_i hz
  cases e
  unfold zV at hz
  simp only[Bool.and_eq_true,decide_eq_true_eq] at hz
  refine⟨toD p,toD q,jY rel.sub hz.1.1 r1,jY rel.sub hz.1.2 r2,gb p hz.1.1,gb q hz.1.2,by rw[gj,gj];exact hz.2,?_⟩
  rw[vR p q hz.1.1 hz.1.2]
  exact k _ F H rel (Same.refl _) (Same.refl _) Rep.bl
 ·cases e
def La:jg K (Im K.K true) gk:=by
 intro c F H σ ρ p q pv v u Q rel r1 r2 e k
 unfold gk at e
 split at e
 ·rename_i hz
  cases e
  unfold zV at hz
  simp only[Bool.and_eq_true,decide_eq_true_eq] at hz
  refine⟨toD p,toD q,jY rel.sub hz.1.1 r1,jY rel.sub hz.1.2 r2,gb p hz.1.1,gb q hz.1.2,by rw[gj,gj];exact hz.2,?_⟩
  rw[vR p q hz.1.1 hz.1.2]
  exact k _ F H rel (Same.refl _) (Same.refl _) Rep.bl
 ·cases e
def pC:PV->Bool
 | .non=>true
 |_=>false
def qL(p q:PV):Option PV:=match q with
 | .non=>some (.bl (pC p))
 |_=>none
def gn(p q:PV):Option PV:=match q with
 | .non=>some (.bl (!pC p))
 |_=>none
def xO{c:Ctx}{F H:Hp}{σ:L2.St}{ρ:Ĳ}{p:PV}{v:V}(r:rR K c σ ρ F H p v):decide (v=.non)=pC p:=by
 rcases r with r|r
 ·cases p<;>unfold Rep at r<;>first
   |(subst r;rfl)
   |(obtain⟨a,xs,rfl,_⟩:=r;rfl)
   |(obtain⟨a,xs,ys,rfl,_⟩:=r;rfl)
 ·cases p with
  |lst ps=>obtain⟨a,vs,rfl,_⟩:=r;rfl
  |ins C ns ps=>obtain⟨a,dx,fs,rfl,_⟩:=r;rfl
  |_=>exact r.elim
def pD:jg K (λx y H Q=>y=.non/\Q (.bl (decide (x=.non))) H) qL:=by
 intro c F H σ ρ p q pv v u Q rel r1 r2 e k
 unfold qL at e
 split at e
 ·cases e
  refine⟨r2.non,?_⟩
  rw[xO r1]
  exact k _ F H rel (Same.refl _) (Same.refl _) Rep.bl
 ·cases e
def t_:jg K (λx y H Q=>y=.non/\Q (.bl (!decide (x=.non))) H) gn:=by
 intro c F H σ ρ p q pv v u Q rel r1 r2 e k
 unfold gn at e
 split at e
 ·cases e
  refine⟨r2.non,?_⟩
  rw[xO r1]
  exact k _ F H rel (Same.refl _) (Same.refl _) Rep.bl
 ·cases e
def ė:PV->PV->Option PV
 | .lst ps,.int i=>nZ ps i
 | .tup ps,.int i=>nZ ps i
 | .str z,.int i=>if z.length<=16777216 then(nZ z.cps.toList i).map λc=>.str ⟨#[c]⟩ else none
 |_,_=>none
def xP{F:Hp}{ps:List PV}{vs:List V}{i:Int}{p:PV}(r:Ĉ K F ps vs)(h:nZ ps i=some p):∃v,nZ vs i=some v/\Rep K F p v:=by
 unfold nZ at h ⊢
 rw[r.length] at h
 cases e:Qx vs.length i with
 |none=>rw[e] at h;cases h
 |some j=>
  rw[e] at h
  obtain⟨v,h1,h2⟩:=ŷ r.pr h
  exact⟨v,h1,h2⟩
def WW:jg K (mIx K.K) ė:=by
 intro c F H σ ρ p q pv v u Q rel r1 r2 e k
 unfold ė at e
 split at e
 ·obtain⟨a,vs,rfl,h1,h2⟩:=r1.lst rel.sub
  cases r2.int
  obtain⟨x,h3,h4⟩:=xP h2 e
  exact⟨vs,x,.inl h1,h3,k _ F H rel (Same.refl _) (Same.refl _) h4⟩
 ·obtain⟨a,vs,rfl,h1,h2⟩:=r1.tup rel.sub
  cases r2.int
  obtain⟨x,h3,h4⟩:=xP h2 e
  exact⟨vs,x,.inr h1,h3,k _ F H rel (Same.refl _) (Same.refl _) h4⟩
 ·split at e
  ·rename_i z i hz
   cases r1.str
   cases r2.int
   cases ea:nZ z.cps.toList i with
   |none=>rw[ea] at e;cases e
   |some cc=>
    rw[ea] at e
    cases e
    exact⟨cc,by rw[ğ];exact hz,ea,k _ F H rel (Same.refl _) (Same.refl _) Rep.str⟩
  ·cases e
 ·cases e
def Jg:M (Option Int):=λρ=>.ok none ρ
def mP(m:M PV):M (Option Int):=λρ=>(m ρ).bind λp ρ1=>match p with
 | .int i=>.ok (some i) ρ1
 |_=>.bad
abbrev tP(K:KK)(E:L2.St->XK)(m:M (Option Int)):TO:=tG K E rI m
def Dk:PO X none (tP (kk X cm) E Jg):=λpins s σ H Q I h=>H_ pins s σ H Q I (by
 obtain⟨c,F,ρ,rel,h⟩:=h
 exact h none F H rel (Same.refl _) (Same.refl _) rfl)
def iz(ha:PE X e (tV (kk X cm) E ma)):PO X (some e) (tP (kk X cm) E (mP ma)):=λpins s σ H Q I h=>Ce ha pins s σ H Q I (by
 obtain⟨c,F,ρ,rel,h⟩:=h
 refine⟨c,F,ρ,rel,h.bind λp ρ1 v F1 H1 ć _ _ r1 h1=>?_⟩
 cases p with
 |int i=>
  have e:v=.int i:=by have r1':Rep (kk X cm) F1 (.int i) v:=r1;unfold Rep at r1';exact r1'
  subst e
  exact h1 (some i) F1 H1 ć (Same.refl _) (Same.refl _) rfl
 |_=>exact h1.elim)
def lO{α:Type}(xs:List α)(lo hi:Option Int):List α:= (xs.drop (HT.fJ xs.length 0 lo)).take (HT.fJ xs.length xs.length hi-HT.fJ xs.length 0 lo)
def slF(p:PV)(lo hi:Option Int):Option RV:=match p with
 | .lst ps=>some (.ow (lO ps lo hi))
 | .str z=>if z.length<=16777216 then some (.sh (.str (S (lO z.cps.toList lo hi)))) else none
 |_=>none
def UL(ma:M PV)(ml mh:M (Option Int)):M RV:=λρ=>(ma ρ).bind λp ρ1=>(ml ρ1).bind λlo ρ2=>(mh ρ2).bind λhi ρ3=>Res.jW (slF p lo hi) ρ3
def jZ{ml mh:M (Option Int)}{lo hi:Option Expr}{p2:Pos}(ha:PE X a (tR (kk X cm) E ma))(hl:PO X lo (tP (kk X cm) E ml))(hh:PO X hi (tP (kk X cm) E mh)):PE X (.Subscript a (.Slice lo hi none p2) pos) (tO (kk X cm) E (UL ma ml mh)):=
 PE.wk (BP slm ha hl hh) fun σ H Q ⟨c,F,ρ,rel,h⟩=>⟨c,F,ρ,rel,h.bind fun p ρ1 v F1 H1 ć _ _ r1 h1=>⟨c,F1,ρ1,ć,h1.bind fun lo ρ2 lo' F2 H2 Ġ sF sH r2 h2=>⟨c,F2,ρ2,Ġ,h2.bind fun hi ρ3 hi' F3 H3 fV sF3 sH3 r3 h3=>by
   have e2:lo=lo':=r2
   have e3:hi=hi':=r3
   subst e2 e3
   have r1':rR (kk X cm) c σ ρ3 F3 H3 p v:=r1.mono (sF.trans sF3) (sH.trans sH3)
   cases p with
   |lst ps=>
    obtain⟨a,vs,rfl,q1,q2⟩:=r1'.lst fV.sub
    refine⟨vs,q1,λd hd=>?_⟩
    have e:Ĉ (kk X cm) F3 (lO ps lo hi) (sU vs lo hi):=by
     unfold lO sU
     rw[q2.length]
     exact Ĉ.of (xg _ (xq _ q2.pr))
    obtain⟨z1,z2⟩:=Ź fV hd e
    exact h3 _ F3 _ z1 (Same.refl _) (Same.upd hd) z2
   |str z=>
    cases r1'.str
    unfold slF at h3
    dsimp only at h3
    split at h3
    ·rename_i hz
     exact⟨by rw[ğ];exact hz,h3 _ F3 H3 fV (Same.refl _) (Same.refl _) (Rep.str (K:=kk X cm) (F:=F3))⟩
    ·exact h3.elim
   |_=>exact h3.elim⟩⟩⟩
def Lb{c:Ctx}{F H:Hp}{σ:L2.St}{ρ:Ĳ}{p:PV}{vs:List V}(h:Wt K c σ ρ F H [p] vs):∃v,vs=[v]/\rR K c σ ρ F H p v:=by
 cases h with
 |cons r t=>cases t;exact⟨_,rfl,r⟩
def rl2{c:Ctx}{F H:Hp}{σ:L2.St}{ρ:Ĳ}{p q:PV}{vs:List V}(h:Wt K c σ ρ F H [p,q] vs):∃v u,vs=[v,u]/\rR K c σ ρ F H p v/\rR K c σ ρ F H q u:=by
 cases h with
 |cons r t=>
  cases t with
  |cons r' t=>cases t;exact⟨_,_,rfl,r,r'⟩
def iB:List PV->Option PV
 | [.lst ps]=>some (.int ps.length)
 | [.tup ps]=>some (.int ps.length)
 | [.str z]=>if z.length<=16777216 then some (.int z.length) else none
 |_=>none
def bW:ji K (QS K.K) iB:=by
 intro c F H σ ρ ps pv vs Q rel r e k
 unfold iB at e
 split at e
 ·cases e
  obtain⟨v,rfl,r1⟩:=Lb r
  obtain⟨a,xs,rfl,h1,h2⟩:=r1.lst rel.sub
  refine⟨xs,.inl h1,?_⟩
  rw[<-h2.length]
  exact k _ F H rel (Same.refl _) (Same.refl _) Rep.int
 ·cases e
  obtain⟨v,rfl,r1⟩:=Lb r
  obtain⟨a,xs,rfl,h1,h2⟩:=r1.tup rel.sub
  refine⟨xs,.inr h1,?_⟩
  rw[<-h2.length]
  exact k _ F H rel (Same.refl _) (Same.refl _) Rep.int
 ·split at e
  ·rename_i hz
   cases e
   obtain⟨v,rfl,r1⟩:=Lb r
   cases r1.str
   exact⟨by rw[ğ];exact hz,k _ F H rel (Same.refl _) (Same.refl _) Rep.int⟩
  ·cases e
 ·cases e
def dW:List PV->Option RV
 | [.lst ps]=>some (.ow ps)
 | [.tup ps]=>some (.ow ps)
 |_=>none
def xQ(K:PySem.W.Frag):List V->Hp->VK->Prop:=λxs H Q=>∃p ys,xs=[.ref p]/\(Ř K H p ys\/bx K H p ys)/\∀l,H l=none->Q (.ref l) (upd H l (.lst ys))
def aJ:ŕ X (.type "list") (xQ X.K):=qw
def aK:CT K (xQ K.K) dW:=by
 intro c F H σ ρ ps pv vs Q rel r e k
 unfold dW at e
 split at e
 ·cases e
  obtain⟨v,rfl,r1⟩:=Lb r
  obtain⟨a,xs,rfl,h1,h2⟩:=r1.lst rel.sub
  refine⟨a,xs,rfl,.inl h1,λl hl=>?_⟩
  obtain⟨q1,q2⟩:=Ź rel hl h2
  exact k _ F _ q1 (Same.refl _) (Same.upd hl) q2
 ·cases e
  obtain⟨v,rfl,r1⟩:=Lb r
  obtain⟨a,xs,rfl,h1,h2⟩:=r1.tup rel.sub
  refine⟨a,xs,rfl,.inr h1,λl hl=>?_⟩
  obtain⟨q1,q2⟩:=Ź rel hl h2
  exact k _ F _ q1 (Same.refl _) (Same.upd hl) q2
 ·cases e
def au:PV->String->Option Bool
 | .int _,"int" =>some true
 | .int _,"bool" =>some false
 | .int _,"str" =>some false
 | .int _,"tuple" =>some false
 | .int _,"list" =>some false
 | .bl _,"int" =>some true
 | .bl _,"bool" =>some true
 | .lst _,"list" =>some true
 | .lst _,"tuple" =>some false
 | .lst _,"int" =>some false
 | .lst _,"str" =>some false
 | .tup _,"tuple" =>some true
 | .tup _,"list" =>some false
 | .tup _,"int" =>some false
 | .tup _,"str" =>some false
 | .str _,"str" =>some true
 | .str _,"int" =>some false
 | .str _,"list" =>some false
 | .str _,"tuple" =>some false
 | .non,"int" =>some false
 | .non,"str" =>some false
 | .non,"tuple" =>some false
 | .non,"list" =>some false
 |_,_=>none
end
theorem uc{K:KK}{F:Hp}:∀ns:List Int,Ĉ K F (ns.map .int) (ns.map V.int)
 | []=>Ĉ.nil
 |n::ns=>Ĉ.cons Rep.int (uc ns)
def WX(K:PySem.W.Frag):Sp:=λvs H Q _=>∃(sa:Addr) (ns:List Int),vs=[.ref sa]/\Ř K H sa (ns.map V.int)/\ns.length<=63/\∀v H',v=.bl true->Q v H'
def Dl{l:PySem.W.OpenLaw}{k:Nat}{x:Str}{CX:h_}{m:MF}{q:Program}{loose:List Str}{XP:(Str->Option Value)->Heap->Prop}{YP:World->Heap->Prop}{d:DefRec}{K:Params->PySem.W.Frag}(hn:l.most=some 63)(hdf:d.params.defaults=[])(hr:ŗ k callerA)
 (hY:∀(w:World) (h:Heap),YP w h->(K w.params).In h)
 (F:∀(w:World) (mg:Str→Option Value) (fa:Addr) (h:Heap),(K w.params).In h→h.Ns mainGlobals mg→mg d.name=some (.ref fa)→
   ∃fd:FuncData,(∀(s:Shared) (u:Value),BindsTo s fd ⟨[u],[]⟩ [(x,u)])/\∀base:Heap,(K w.params).In base->base.Ns mainGlobals mg->∃cm,ī l.prog w (K w.params) mg base CX k fa fd [x] (aW ⟨K w.params,cm⟩ 1 m))
 (ht:∀ns:List Int,ns.length<=63->m [.sh (.lst (ns.map .int))]=.ret (.sh (.bl true)))
 (Wc:∀(H:Hp) (s:Shared) (e:Value) (s':Shared),CX [] H s (λ_ _ _=>False) e s'->False)
 (hnt:lams≠[]->∀w:World,PySem.W.noTabs (K w.params)=true:=by intro z;exact absurd rfl z)(hone:∀y z,y∈lams->z∈lams->y=z:=by simp[lams])(hrec:∀y,y∈lams->∃d,(recsOf q).find? (λe=>e.name== y)=some d:=by simp[lams]) :
 PySem.W.WalkO q loose XP YP l.row.toRowW d [] (λf vs=>PySem.call f vs):=by
 refine L2.Ih (n:=63) (k:=k) (x:=x) (CX:=λ_=>CX) (sp:=λw=>WX (K w.params)) hn (by decide) hdf hr hY (λw mg fa h h1 h2 h3=>?_) (λw H a ns hl _ hS=>⟨a,ns,rfl,hS,hl,λ_ _ z=>z⟩) (λw H s e s' z=>Wc H s e s' z) hnt hone hrec
 obtain⟨fd,hb,hF⟩:=F w mg fa h h1 h2 h3
 refine⟨fd,hb,λbase k1 k2=>?_⟩
 obtain⟨cm,G⟩:=hF base k1 k2
 refine G.imp λvs H Q E hs=>?_
 obtain⟨sa,ns,rfl,hS,hl,hq⟩:=hs
 refine⟨H,[.sh (.lst (ns.map .int))],rfl,Same.refl _,.cons ?_ .nil,?_⟩
 ·show Rep _ _ _ _
  unfold Rep
  exact⟨sa,_,rfl,hS,uc ns⟩
 ·rw[ht ns hl]
  intro v F' H' g rf
  have e:v=.bl true:=qF (K:=⟨K w.params,cm⟩) (F:=F') rf
  exact hq v H' e
end P
namespace P
open PySem PySem.Spec PyProof.Rows L2 M2 M3 M4
section
variable{X:Cx}{cm:String->Addr}{K:KK}
def TyP(K:PySem.W.Frag)(H:Hp)(x:V)(t:Value):Prop:=match x with
 | .non=>t=.type "NoneType"
 | .bl _=>t=.type "bool"
 | .int _=>t=.type "int"
 | .str _=>t=.type "str"
 | .ref a=>(t=.type "list" /\∃xs,Ř K H a xs)\/(t=.type "tuple" /\∃xs,bx K H a xs)\/g_ K H (.ref a) t
 |_=>False
def Dp(K:PySem.W.Frag):List V->Hp->VK->Prop:=λxs H Q=>match xs with
 | [x,.ty n]=>∃t b,TyP K H x t/\PySem.W.kitOne K t (.type n)=some b/\Q (.bl b) H
 | [x,.ref C]=>∃t b,TyP K H x t/\PySem.W.kitOne K t (.ref C)=some b/\Q (.bl b) H
 |_=>False
def xR{pins:List (Addr×Obj)}{σ:L2.St}{H:Hp}{s:Shared}{A:Around}{E:Value->Shared->Prop}{Q:Value->Shared->Prop}{c:Value}{b:Bool}{x:V}{u t:Value}(I:Inv X pins σ H s)(rx:RelV x u)(ty:TyP X.K H x t)(e:PySem.W.kitOne X.K t c=some b)(h:∀tk,Q (.bool b) {s with toks:=tk}) :
 wpAny (model X.prog X.w) A (call (.builtin "isinstance") [u,c]) Q E s:=by
 cases x with
 |non=>cases(show t=_ from ty);exact bA I rx .non e h
 |bl y=>cases(show t=_ from ty);exact bA I rx (.bl y) e h
 |int y=>cases(show t=_ from ty);exact bA I rx (.int y) e h
 |str y=>cases(show t=_ from ty);exact bA I rx (.str y) e h
 |ref a=>
  cases(show u=Value.ref a from rx)
  rcases ty with⟨rfl,xs,hS⟩|⟨rfl,xs,hS⟩|ty
  ·obtain⟨its,r,⟨o,n,h1,h2,_⟩,_⟩:=I.list hS
   exact PySem.W.kia_one PySem.W.kitx_list I.jQ ⟨o,h1,h2⟩ e (λz=>nomatch z) h
  ·obtain⟨its,r,⟨o,h1,h2,_⟩,_⟩:=I.tuple hS
   exact PySem.W.kia_one PySem.W.kitx_tuple I.jQ ⟨o,h1,h2⟩ e (λz=>nomatch z) h
  ·exact bA I rx ty e h
 |_=>exact ty.elim
def aY:ŕ X (.builtin "isinstance") (Dp X.K):=by
 intro pins s σ H xs us Q I r h
 unfold Dp at h
 split at h
 ·obtain⟨t,b,h1,h2,h3⟩:=h
  obtain⟨u,w',rfl,r1,r2⟩:=vals2 r
  cases r2
  exact xR I r1 h1 h2 λtk=>⟨.bl b,H,I.tok _,rfl,h3⟩
 ·obtain⟨t,b,h1,h2,h3⟩:=h
  obtain⟨u,w',rfl,r1,r2⟩:=vals2 r
  cases r2
  exact xR I r1 h1 h2 λtk=>⟨.bl b,H,I.tok _,rfl,h3⟩
 ·exact h.elim
def tyN:PV->String
 | .non=> "NoneType"
 | .bl _=> "bool"
 | .int _=> "int"
 | .str _=> "str"
 | .lst _=> "list"
 | .tup _=> "tuple"
 |_=> ""
def Dq{F:PySem.W.Frag}{p:PV}{n:String}{b:Bool}(h:au p n=some b):PySem.W.kitOne F (.type (tyN p)) (.type n)=some b:=by
 unfold au at h
 split at h<;>first
  |(cases h;first|rfl|decide +kernel|kernel_rfl)
  |cases h
def Jh{c:Ctx}{F H:Hp}{σ:L2.St}{ρ:Ĳ}{p:PV}{v:V}(s:Same F H)(r:rR K c σ ρ F H p v)(h:∃n b,au p n=some b):TyP K.K H v (.type (tyN p)):=by
 obtain⟨n,b,h⟩:=h
 cases p with
 |non=>cases r.non;rfl
 |bl _=>cases r.bl;rfl
 |int _=>cases r.int;rfl
 |str _=>cases r.str;rfl
 |lst ps=>
  obtain⟨a,vs,rfl,h1,h2⟩:=r.lst s
  exact .inl ⟨rfl,vs,h1⟩
 |tup ps=>
  obtain⟨a,vs,rfl,h1,h2⟩:=r.tup s
  exact .inr (.inl ⟨rfl,vs,h1⟩)
 |ins _ _ _=>simp[au] at h
 |xc _ _ _=>simp[au] at h
 |ty _=>simp[au] at h
 |cls _=>simp[au] at h
def iC:List PV->Option PV
 | [p,.ty n]=>(au p n).map .bl
 |_=>none
def aZ:ji K (Dp K.K) iC:=by
 intro c F H σ ρ ps pv vs Q rel r e k
 unfold iC at e
 split at e
 ·rename_i p n
  obtain⟨v,u,rfl,r1,r2⟩:=rl2 r
  cases r2.ty
  cases eb:au p n with
  |none=>rw[eb] at e;cases e
  |some b=>
   rw[eb] at e
   cases e
   exact⟨_,b,Jh rel.sub r1 ⟨n,b,eb⟩,Dq eb,k _ F H rel (Same.refl _) (Same.refl _) Rep.bl⟩
 ·cases e
def boolsOf:List PV->Option (List Bool)
 | []=>some []
 | .bl b::ps=>(boolsOf ps).map (b:: ·)
 |_::_=>none
theorem pF{F:Hp}:∀{ps:List PV} {vs:List V} {bs:List Bool},Ĉ K F ps vs->boolsOf ps=some bs->vs=bs.map V.bl
 | [],vs,bs,r,h=>by
   cases h
   have r':=r.pr
   cases r'
   rfl
 |p::ps,vs,bs,r,h=>by
  cases p with
  |bl b=>
   unfold boolsOf at h
   cases eb:boolsOf ps with
   |none=>rw[eb] at h;cases h
   |some cs=>
    rw[eb] at h
    cases h
    have r':=r.pr
    cases r' with
    |cons r1 t=>
     rw[qF r1,pF (Ĉ.of t) eb]
     rfl
  |_=>simp[boolsOf] at h
def ud:List PV->Option PV
 | [.lst ps]=>(boolsOf ps).map λbs=>.bl (bs.all id)
 |_=>none
def vU:ji K (Q_ K.K) ud:=by
 intro c F H σ ρ ps pv vs Q rel r e k
 unfold ud at e
 split at e
 ·rename_i ps
  obtain⟨v,rfl,r1⟩:=Lb r
  obtain⟨a,xs,rfl,h1,h2⟩:=r1.lst rel.sub
  cases eb:boolsOf ps with
  |none=>rw[eb] at e;cases e
  |some bs=>
   rw[eb] at e
   cases e
   refine⟨bs,by rw[<-pF h2 eb];exact h1,k _ F H rel (Same.refl _) (Same.refl _) Rep.bl⟩
 ·cases e
def xT(_ j:Int):Bool:=decide (0<j) && decide (j.natAbs<1073741824)
def gq:List PV->Option PV
 | [.int i,.int j]=>if xT i j=true then some (.tup [.int (i / j),.int (i % j)]) else none
 |_=>none
def xU:List V->Hp->VK->Prop:=λxs H Q=>∃i j,xs=[.int i,.int j]/\VJ i j/\∀p,H p=none->Q (.ref p) (upd H p (.tup [.int (i / j),.int (i % j)]))
def zW:ŕ X (.builtin "divmod") xU:=sO
def zZ:ji K xU gq:=by
 intro c F H σ ρ ps pv vs Q rel r e k
 unfold gq at e
 split at e
 ·split at e
  ·rename_i i j hd
   cases e
   obtain⟨v,u,rfl,r1,r2⟩:=rl2 r
   cases r1.int
   cases r2.int
   unfold xT at hd
   simp only[Bool.and_eq_true,decide_eq_true_eq] at hd
   refine⟨i,j,rfl,⟨hd.1,by omega⟩,λl hl=>k _ _ _ (rel.alloc hl) (Same.upd (rel.sub.free hl)) (Same.upd hl) ?_⟩
   unfold Rep
   exact⟨l,_,rfl,č,Ĉ.cons Rep.int (Ĉ.cons Rep.int Ĉ.nil)⟩
  ·cases e
 ·cases e
end
end P
namespace P
open PySem PySem.Spec PyProof.Rows L2 M2 M3 M4
section
variable{α β:Type}{ρ:Ĳ}{i j n k:Nat}{p q:PV}{ps:List PV}{m ma mb mc:M PV}{mo:M RV}{a b:M Fl}{ta tb:M Bool}{mr:M (List PV)}{f:PV->PV->Option PV}{fo:PV->PV->Option RV}{fl:List PV->Option PV}{flo:List PV->Option RV}{g:Tg}{gs:Bg}
@[simp] theorem ZcA:fQ ρ=.ok .nx ρ:= rfl
@[simp] theorem ZcB:mCt ρ=.ok .ct ρ:= rfl
@[simp] theorem Zbp:(Rj:M α) ρ=.bad:=rfl
@[simp] theorem Zbq:ę a b ρ=(a ρ).bind λf ρ1=>match f with| .nx=>b ρ1|f=>.ok f ρ1:=rfl
@[simp] theorem Zbr:Ĺ i mo ρ=(mo ρ).bind λr ρ1=>.ok .nx (ρ1.set i r.slot):=rfl
@[simp] theorem Zbs:Į mo ρ=(mo ρ).bind λr ρ1=>.ok (.rt r) ρ1:=rfl
@[simp] theorem ZcP:mC p ρ=.ok p ρ:= rfl
@[simp] theorem ZcC:Ś m ρ=(m ρ).bind λp ρ1=>.ok (.sh p) ρ1:=rfl
@[simp] theorem Zbt:ē mo ρ=(mo ρ).bind λr ρ1=>.ok r.val ρ1:=rfl
@[simp] theorem Zbu:(RV.sh p).val=p:=rfl
@[simp] theorem Zbv:(RV.ow ps).val=.lst ps:=rfl
@[simp] theorem Zbw:(RV.sh p).slot=.sh p:=rfl
@[simp] theorem Zbx:(RV.ow ps).slot=.ow ps:=rfl
@[simp] theorem Zby:ă f ma mb ρ=(ma ρ).bind λp ρ1=>(mb ρ1).bind λq ρ2=>Res.jW (f p q) ρ2:=rfl
@[simp] theorem Zag:ģ fo ma mb ρ=(ma ρ).bind λp ρ1=>(mb ρ1).bind λq ρ2=>Res.jW (fo p q) ρ2:=rfl
@[simp] theorem ZcD{u:PV->Option PV}:IV u ma ρ=(ma ρ).bind λp ρ1=>Res.jW (u p) ρ1:=rfl
@[simp] theorem Zbz:jH m ρ=(m ρ).bind λp ρ1=>Res.jW (Rh p) ρ1:=rfl
@[simp] theorem ZcE:cH m ρ=(m ρ).bind λp ρ1=>match p with| .bl b=>.ok b ρ1|_=>.bad:=rfl
@[simp] theorem Zah:pA ta ρ=(ta ρ).bind λb ρ1=>.ok (!b) ρ1:=rfl
@[simp] theorem Zai:jh ta tb ρ=(ta ρ).bind λb ρ1=>if b=true then tb ρ1 else .ok false ρ1:=rfl
@[simp] theorem ZbA:CP ta tb ρ=(ta ρ).bind λb ρ1=>if b=true then .ok true ρ1 else tb ρ1:=rfl
@[simp] theorem ZbB:bR ma mb ρ=(ma ρ).bind fun p ρ1=>match p with| .bl b=>if b=true then mb ρ1 else .ok (.bl false) ρ1|_=>.bad:=by
  unfold bR
  congr
  funext p ρ1
  cases p with
  |bl b=>cases b<;>rfl
  |_=>rfl
@[simp] theorem ZbC:Ri ma ρ=(ma ρ).bind λp ρ1=>match p with| .bl b=>.ok (.bl (!b)) ρ1|_=>.bad:=rfl
@[simp] theorem ZcF{x y:M α}:fj ta x y ρ=(ta ρ).bind λb ρ1=>if b=true then x ρ1 else y ρ1:=rfl
@[simp] theorem ZbD{f g:PV→PV→Option PV}:lG f g ma mb mc ρ=(ma ρ).bind fun p ρ1=>(mb ρ1).bind fun q ρ2=>(Res.jW (f p q) ρ2).bind fun z ρ3=>match z with
  | .bl true=>(mc ρ3).bind λw ρ4=>Res.jW (g q w) ρ4
  | .bl false=>.ok (.bl false) ρ3
  |_=>.bad:=rfl
@[simp] theorem ZbE:ĕ ρ=.ok [] ρ:= rfl
@[simp] theorem Zaj:Ą ma mr ρ=(ma ρ).bind λp ρ1=>(mr ρ1).bind λps ρ2=>.ok (p::ps) ρ2:=rfl
@[simp] theorem ZbF:Ŕ mr ρ=(mr ρ).bind λps ρ1=>if ps.length<=16777216 then .ok (.tup ps) ρ1 else .bad:=rfl
@[simp] theorem ZbG:dH mr ρ=(mr ρ).bind λps ρ1=>if ps.length<=16777216 then .ok (.ow ps) ρ1 else .bad:=rfl
@[simp] theorem ZcG:gQ fl mr ρ=(mr ρ).bind λps ρ1=>Res.jW (fl ps) ρ1:=rfl
@[simp] theorem ZbH:qG flo mr ρ=(mr ρ).bind λps ρ1=>Res.jW (flo ps) ρ1:=rfl
@[simp] theorem Zak{mf:MF}{ms:M (List Slot)}:Ĝ mf ms ρ=(ms ρ).bind λps ρ1=>match mf ps with| .ret r=>.ok r ρ1| .exc x=>.exc x ρ1| .bad=>.bad:=rfl
@[simp] theorem ZcH:Ė i ρ=(match ρ[i]? with|some (.sh p)=>.ok p ρ|some (.ow ps)=>.ok (.lst ps) (ρ.set i (.sh (.lst ps)))|_=>.bad):=rfl
@[simp] theorem ZcI:Ā i ρ=(match ρ[i]? with|some (.sh p)=>.ok p ρ|some (.ow ps)=>.ok (.lst ps) ρ|some (.bw ps)=>.ok (.lst ps) ρ|some (.rc C ns ps)=>.ok (.ins C ns ps) ρ|_=>.bad):=rfl
@[simp] theorem ZcJ:jf i ρ=(match ρ[i]? with|some (.sh p)=>.ok (.sh p) ρ|some (.ow ps)=>.ok (.ow ps) (ρ.set i .no)|_=>.bad):=rfl
@[simp] theorem ZbI:CW g m ρ=(m ρ).bind λp ρ1=>match g p ρ1 with|some ρ2=>.ok .nx ρ2|none=>.bad:=rfl
@[simp] theorem ZcK:gN i p ρ=some (ρ.set i (.sh p)):=rfl
@[simp] theorem WY:ń [] ρ=some ρ:= rfl
@[simp] theorem UW:Č g gs (p::ps) ρ=(g p ρ).bind λρ1=>gs ps ρ1:=rfl
@[simp] theorem ZcL:gT n gs (.tup ps) ρ=if ps.length=n then gs ps ρ else none:=rfl
@[simp] theorem ZbJ:qH i m ρ=(match ρ[i]? with
  |some (.ow _)=>(m ρ).bind λp ρ1=>match ρ1[i]? with
   |some (.ow ps)=>if ps.length<16777216 then .ok .nx (ρ1.set i (.ow (ps ++ [p]))) else .bad
   |_=>.bad
  |_=>.bad):=rfl
@[simp] theorem ZbK:Jg ρ=.ok none ρ:= rfl
@[simp] theorem ZcQ:mP m ρ=(m ρ).bind λp ρ1=>match p with| .int i=>.ok (some i) ρ1|_=>.bad:=rfl
@[simp] theorem ZcM{ml mh:M (Option Int)}:UL ma ml mh ρ=(ma ρ).bind λp ρ1=>(ml ρ1).bind λlo ρ2=>(mh ρ2).bind λhi ρ3=>Res.jW (slF p lo hi) ρ3:=rfl
@[simp] theorem ZbL{lo hi:Option Int}:slF (.lst ps) lo hi=some (.ow (lO ps lo hi)):=rfl
@[simp] theorem W_:ů m ρ=(m ρ).bind fun p ρ1=>match p with
  | .lst ps=>.ok ps ρ1
  | .tup ps=>.ok ps ρ1
  | .str z=>.ok (z.cps.toList.map λc=>.str ⟨#[c]⟩) ρ1
  |_=>.bad:=rfl
@[simp] theorem Xa{h:List PV->Option (List PV)}:aX h mr ρ=(mr ρ).bind λps ρ1=>Res.jW (h ps) ρ1:=rfl
@[simp] theorem ZbM{mi:M (List PV)}:fU mi g b ρ=(mi ρ).bind λitems ρ1=>forL g b items ρ1:=rfl
@[simp] theorem Zal{js:List Nat}{nl:Nat}{mi:M (List PV)}{mt:M Bool}{me:M PV}:ź js nl mi g mt me ρ=(mi ρ).bind fun items ρ1=>match Ŝ g mt me items (fY js nl ρ1) [] with
  |some ps=>.ok (.ow ps) ρ1
  |none=>.bad:=rfl
@[simp] theorem ZbN:bV ρ=.ok true ρ:= rfl
@[simp] theorem ZbO{mbd:M Fl}{as:List Slot}:ĺ n k mbd as=if as.length=n then FR.of (mbd (startP k as)) else .bad:=rfl
@[simp] theorem ZbP{r:RV}:FR.of (.ok (.rt r) ρ)=.ret r:=rfl
@[simp] theorem ZbQ:FR.of (.ok .nx ρ)=.ret (.sh .non):=rfl
@[simp] theorem ZbR{x:PX}:FR.of (.exc x ρ)=.exc x:=rfl
@[simp] theorem ZbS:FR.of .bad=.bad:=rfl
@[simp] theorem Xb{as:List Slot}:startP k as=as++List.replicate (k-as.length) .no:=rfl
@[simp] theorem Zam:Ę ρ=.ok [] ρ:= rfl
@[simp] theorem Xc{ms:M (List Slot)}:Ī ma ms ρ=(ma ρ).bind λp ρ1=>(ms ρ1).bind λas ρ2=>.ok (.sh p::as) ρ2:=rfl
@[simp] theorem Xd{ms:M (List Slot)}:ĉ i ms ρ=(match(ρ[i]?).bind b_ with
  |none=>.bad
  |some _=>(ms ρ).bind λas ρ2=>match(ρ2[i]?).bind b_ with
   |some s=>.ok (s::as) ρ2
   |none=>.bad):=rfl
@[simp] theorem ZbT:b_ (.sh p)=some (.sh p):=rfl
@[simp] theorem ZbU:b_ (.ow ps)=some (.bw ps):=rfl
@[simp] theorem ZbV:b_ (.bw ps)=some (.bw ps):=rfl
@[simp] theorem ZbW:fX (.sh p)=.sh p:=rfl
@[simp] theorem ZbX:fX (.ow ps)=.bw ps:=rfl
@[simp] theorem ZbY:fX (.bw ps)=.bw ps:=rfl
@[simp] theorem ZbZ{t:Bool}{kvs:List (DK×PV)}:fX (.od t kvs)=.bd t kvs:=rfl
@[simp] theorem Zb0{t:Bool}{kvs:List (DK×PV)}:fX (.bd t kvs)=.bd t kvs:=rfl
@[simp] theorem Zb1{js:List Nat}{nl:Nat}:fY js nl ρ=js.map (λ(j:Nat)=>fX ((ρ[j]?).getD .no))++List.replicate nl .no:=rfl
@[simp] theorem Zb2:bT i ρ=(match ρ[i]? with
  |some (.bw ps)=>.ok ps ρ
  |some (.sh (.lst ps))=>.ok ps ρ
  |some (.sh (.tup ps))=>.ok ps ρ
  |some (.sh (.str z))=>.ok (z.cps.toList.map λc=>.str ⟨#[c]⟩) ρ
  |some (.ow ps)=>.ok ps (ρ.set i (.sh (.lst ps)))
  |_=>.bad):=rfl
@[simp] theorem Zan{x y:Int}:ġ (.int x) (.int y)=some (.sh (.int (x+y))):=rfl
@[simp] theorem Zao{x y:Int}:bC (.int x) (.int y)=some (.int (x-y)):=rfl
@[simp] theorem Zap{x y:Int}:Ģ (.int x) (.int y)=if Ņ x y=true then some (.int (x*y)) else none:=rfl
@[simp] theorem Zaq{x y:Int}:İ (.int x) (.int y)=if fZ x y=true then some (.int (x.fdiv y)) else none:=rfl
@[simp] theorem xV{x y:Int}:Ğ (.int x) (.int y)=if tY x y=true then some (.int (x.fmod y)) else none:=rfl
@[simp] theorem Ji{x y:Int}:Ż (.int x) (.int y)=if tZ x y=true then some (.int (x ^ y.toNat)) else none:=rfl
@[simp] theorem Zar{x:Int}:xM (.int x)=some (.int (-x)):=rfl
@[simp] theorem Zb3{x y:Int}:oh (.int x) (.int y)=some (.bl (decide (x<y))):=rfl
@[simp] theorem Zb4{x y:Int}:jJ (.int x) (.int y)=some (.bl (decide (x<=y))):=rfl
@[simp] theorem Zb5{x y:Int}:ő (.int x) (.int y)=some (.bl (decide (x=y))):=by
  have h:eqB (.int x) (.int y)=decide (x=y):=by rw[eqB.eq_def];rfl
  rw[<-h];rfl
@[simp] theorem Zb6{x y:Int}:gk (.int x) (.int y)=some (.bl (!decide (x=y))):=by
  have h:eqB (.int x) (.int y)=decide (x=y):=by rw[eqB.eq_def];rfl
  rw[<-h];rfl
@[simp] theorem Zb7{x y:Bool}:ő (.bl x) (.bl y)=some (.bl (x== y)):=rfl
@[simp] theorem Zb8{x y:Bool}:gk (.bl x) (.bl y)=some (.bl (!(x== y))):=rfl
@[simp] theorem Zb9{p:PV}:qL p .non=some (.bl (pC p)):=rfl
@[simp] theorem Zas{p:PV}:gn p .non=some (.bl (!pC p)):=rfl
@[simp] theorem Dr{x:Int}:ė (.lst ps) (.int x)=nZ ps x:=rfl
@[simp] theorem Zb_{x:Int}:ė (.tup ps) (.int x)=nZ ps x:=rfl
@[simp] theorem Zat:iB [.lst ps]=some (.int ps.length):=rfl
@[simp] theorem Zau:iB [.tup ps]=some (.int ps.length):=rfl
@[simp] theorem Xe:dW [.lst ps]=some (.ow ps):=rfl
@[simp] theorem Xf:dW [.tup ps]=some (.ow ps):=rfl
@[simp] theorem Zca{t:String}:iC [p,.ty t]=(au p t).map .bl:=rfl
@[simp] theorem Zav{x:Bool}:Rh (.bl x)=some x:=rfl
@[simp] theorem Zaw{x:Int}:Rh (.int x)=some (x != 0):=rfl
@[simp] theorem Zax:Rh (.lst ps)=some (!ps.isEmpty):=rfl
@[simp] theorem Ds(xs:List α)(n:Nat):nZ xs (n:Int)=xs[n]?:= by
  unfold nZ Qx
  rw[if_pos (by omega)]
  by_cases h:n<xs.length
  ·rw[if_pos (by omega)]
   simp
  ·rw[if_neg (by omega)]
   simp
   omega
@[simp] theorem Zay(xs:List α)(n:Nat):nZ xs (no_index (OfNat.ofNat n):Int)=xs[(no_index (OfNat.ofNat n):Nat)]?:= Ds xs n
@[simp] theorem U_{x y:Int}:tY x y=decide (y≠0):=rfl
end
def cj{x y:Int}(h1: -(2 ^ 64)<x)(h2:x<2 ^ 64):Ņ x y=true:=by unfold Ņ;rw[decide_eq_true (by omega:x.natAbs<18446744073709551616)];rfl
def mul_r{x y:Int}(h1: -(2 ^ 64)<y)(h2:y<2 ^ 64):Ņ x y=true:=by unfold Ņ;rw[decide_eq_true (by omega:y.natAbs<18446744073709551616)];simp
def Xg{x y:Int}(h1:y≠0)(h2:bits y<=8000):fZ x y=true:=by unfold fZ;simp[h1,h2]
section
variable{g:Tg}{mb:M Fl}{mc mt:M Bool}{me:M PV}{items:List PV}{ρ:Ĳ}
theorem bD{α:Type}(c f:α->PV)(I:Ĳ->Prop):∀(xs:List α) (ρ:Ĳ) (acc:List PV),I ρ->acc.length+xs.length<=16777216->
 (∀x∈xs,∀ρ,I ρ->∃ρ1 ρ2 ρ3,g (c x) ρ=some ρ1/\mt ρ1=.ok true ρ2/\me ρ2=.ok (f x) ρ3/\I ρ3)->Ŝ g mt me (xs.map c) ρ acc=some (acc++xs.map f)
 | [],ρ,acc,_,_,_=>by simp[Ŝ]
 |x::xs,ρ,acc,h,hz,hs=>by
  obtain⟨ρ1,ρ2,ρ3,h1,h2,h3,h4⟩:=hs x List.mem_cons_self ρ h
  rw[List.map_cons,Ŝ,h1]
  dsimp only
  rw[h2]
  dsimp only
  rw[h3]
  dsimp only
  rw[if_pos (by simp at hz;omega),bD c f I xs ρ3 (acc ++ [f x]) h4 (by simp at hz ⊢;omega) λy hy=>hs y (List.mem_cons_of_mem _ hy)]
  simp
end
end P
namespace P
open PySem PySem.Spec PyProof.Rows L2 M2 M3 M4
def lQ(Q:String->Prop):List String->Prop
 | []=>True
 |c::cs=>Q c/\lQ Q cs
theorem lQ.get{Q:String->Prop}:∀{cs:List String} {C:String},lQ Q cs->cs.contains C=true->Q C
 | [],_,_,h=>by simp at h
 |c::cs,C,⟨h1,h2⟩,h=>by
  by_cases e:C=c
  ·rw[e];exact h1
  ·refine h2.get ?_
   rw[List.contains_cons] at h
   have:(C== c)=false:=by simpa using e
   rw[this,Bool.false_or] at h
   exact h
section
variable{X:Cx}{cm:String->Addr}{K:KK}{E:L2.St->XK}{a b e o:Expr}{es:List Expr}{pos apos:Pos}{m ma mb:M PV}{f:Str}
theorem lR{F:Hp}:∀{fs:List (Str×V)} {ps:List PV} {p:PV},Ĉ K F ps (fs.map (·.2))->((fs.map (·.1)).zip ps).lookup f=some p->∃v,fs.lookup f=some v/\Rep K F p v
 | [],ps,p,_,h=>by simp at h
 |(g,v)::fs,ps,p,r,h=>by
  have r':=r.pr
  rw[List.map_cons] at r'
  cases r' with
  |cons r1 t=>
   rename_i q qs
   rw[List.map_cons,List.zip_cons_cons,List.lookup_cons] at h
   rw[List.lookup_cons]
   cases hg:f== g with
   |true=>
    simp only[hg] at h
    cases h
    exact⟨v,rfl,r1⟩
   |false=>
    simp only[hg] at h
    exact lR (Ĉ.of t) h
theorem rR.ins{c:Ctx}{F H:Hp}{σ:L2.St}{ρ:Ĳ}{C:String}{ns:List Str}{ps:List PV}{v:V}(s:Same F H)(h:rR K c σ ρ F H (.ins C ns ps) v):∃a dx fs,v=.ref a/\H a=some (.ins (K.cm C) dx fs)/\fs.map (·.1)=ns/\Ĉ K F ps (fs.map (·.2)):=by
 rcases h with h|h
 ·unfold Rep at h
  obtain⟨a,dx,fs,h1,h2,h3,h4⟩:=h
  exact⟨a,dx,fs,h1,s _ _ h2,h3,h4⟩
 ·exact h
def gw(cs:List String)(f:Str):PV->Option PV
 | .ins C ns ps=>if cs.contains C=true then(ns.zip ps).lookup f else none
 |_=>none
def uf(cs:List String)(hcs:lQ (λC=>Cls X.K (cm C)/\Ħ X.K (cm C) f) cs)(he:PE X e (tR (kk X cm) E m))(hb:attributeBase e f X.env (eval e X.env)=eval e X.env:=by rfl):PE X (.Attribute e f pos) (tV (kk X cm) E (IV (gw cs f) m)):=
 PE.wk (Qt he hb) fun σ H Q ⟨c,F,ρ,rel,h⟩=>⟨c,F,ρ,rel,h.bind fun p ρ1 v F1 H1 ć _ _ r1 h1=>by
   cases p with
   |ins C ns ps=>
    unfold gw at h1
    dsimp only at h1
    split at h1
    ·rename_i hc
     obtain⟨a,dx,fs,rfl,q2,q3,q4⟩:=r1.ins ć.sub
     cases el:(ns.zip ps).lookup f with
     |none=>rw[el] at h1;exact h1.elim
     |some q=>
      rw[el] at h1
      subst q3
      obtain⟨v,e1,e2⟩:=lR q4 el
      obtain⟨k1,k2⟩:=hcs.get hc
      exact⟨a,_,dx,fs,v,rfl,q2,k1,k2,e1,h1 v F1 H1 ć (Same.refl _) (Same.refl _) e2⟩
    ·exact h1.elim
   |_=>exact h1.elim⟩
variable{CX:h_}{k n:Nat}{mth:Str}{nQ:List (String×MF)}{ms:M (List Slot)}
def putN(f:Str):List Str->List Str
 | []=>[f]
 |g::r=>if g=f then g::r else g::putN f r
def vV(f:Str)(p:PV):List Str->List PV->List PV
 | [],_=>[p]
 |g::r,q::qs=>if g=f then p::qs else q::vV f p r qs
 |_::_,[]=>[]
theorem xW{F:Hp}{p:PV}{y:V}(ry:Rep K F p y):∀{fs:List (Str×V)} {ps:List PV},Ĉ K F ps (fs.map (·.2))->(bL f y fs).map (·.1)=putN f (fs.map (·.1))/\Ĉ K F (vV f p (fs.map (·.1)) ps) ((bL f y fs).map (·.2))
 | [],ps,r=>⟨rfl,Ĉ.cons ry Ĉ.nil⟩
 |(g,v)::fs,ps,r=>by
  have r':=r.pr
  rw[List.map_cons] at r'
  cases r' with
  |cons r1 t=>
   rename_i q qs
   unfold bL
   rw[List.map_cons]
   unfold putN vV
   by_cases hg:g=f
   ·rw[if_pos hg,if_pos hg,if_pos hg]
    exact⟨rfl,Ĉ.cons ry (Ĉ.of t)⟩
   ·rw[if_neg hg,if_neg hg,if_neg hg]
    obtain⟨h1,h2⟩:=xW ry (Ĉ.of t)
    exact⟨by rw[List.map_cons,h1],Ĉ.cons r1 h2⟩
def dX(i:Nat)(cs:List String)(f:Str)(mv:M PV):M Fl:=λρ=>(mv ρ).bind λp ρ1=>match ρ1[i]? with
 |some (.rc C ns ps)=>if cs.contains C=true/\ns.length<1000 then .ok .nx (ρ1.set i (.rc C (putN f ns) (vV f p ns ps))) else .bad
 |_=>.bad
def ŝ{i:Nat}{x:Str}{px pos':Pos}(cs:List String)(hcs:lQ (λC=>Cls X.K (cm C)/\Ħ X.K (cm C) f) cs)(ho:PE X (.Name x px) (nY i))(he:PE X e (tV (kk X cm) E m))(hs:swapsWith e (some (.Attribute (.Name x px) f pos')) pos.line X.env=pure false:=by rfl) :
 PS X (.Assign [.Attribute (.Name x px) f pos'] e pos) (tS (kk X cm) E (dX i cs f m)):=PS.wk (Qu ho he hs) λD σ H ⟨c,F,ρ,rel,h⟩=>⟨c,F,ρ,rel,ř.bind h λp ρ1 y F1 H1 ć s1 ry h1=>by
 cases e1:ρ1[i]? with
 |none=>rw[e1] at h1;exact h1.elim
 |some sl=>
  rw[e1] at h1
  cases sl with
  |rc C ns ps=>
   dsimp only at h1
   split at h1
   ·rename_i hc
    obtain⟨a,dx,fs,q1,q2,q3,q4,q5,q6,q7⟩:=ć.slot i _ e1
    subst q5
    obtain⟨k1,k2⟩:=hcs.get hc.1
    refine⟨.ref a,at_of q1,a,_,dx,fs,rfl,q2,k1,k2,by simpa using hc.2,?_⟩
    obtain⟨z1,z2⟩:=xW (f:=f) (p:=p) ry q6
    exact h1 σ F1 _ (ć.write ⟨_,_,e1,at_of q1,rfl⟩ (at_of q1) ⟨a,dx,_,rfl,č,q3,q4,z1,z2,q7⟩ λ_ z=>(V.ref.inj z).symm) (Same.refl _)
   ·exact h1.elim
  |_=>exact h1.elim⟩
inductive IR where
 |ok (ns:List Str) (ps:List PV)|exc (x:PX)|bad
abbrev MI:=List Slot->IR
def IR.of:Res Fl->IR
 | .ok .nx (.rc _ ns ps::_)=>.ok ns ps
 | .exc x _=>.exc x
 |_=>.bad
def aL(n k:Nat)(C:String)(mb:M Fl):MI:=λas=>if as.length+1=n then IR.of (mb (.rc C [] []::startP (k-1) as)) else .bad
structure GrB(a:Addr)(F H F' H':Hp):Prop where
 h:∀b u,b≠a->H b=some u->H' b=some u
 f:Same F F'
 sub:Same F' H'
 out:∀b,b≠a->H b≠none->F b=none->F' b=none
def Zcb(K:KK)(E:XK)(F H:Hp)(Q:VK)(a dx:Addr)(C:String):IR->Prop
 | .ok ns ps=>∀F' H' fs,GrB a F H F' H'->H' a=some (.ins (K.cm C) dx fs)->F' a=none->fs.map (·.1)=ns->Ĉ K F' ps (fs.map (·.2))->Q .non H'
 | .exc x=>∀C' d F' H',GrB a F H F' H'->IK K F' x C' d->E C' d H'
 | .bad=>False
def Hr(K:KK)(n:Nat)(C:String)(mi:MI):Sp:=λvs H Q E=>∃F a dx vs' as,vs=.ref a::vs'/\as.length+1=n/\H a=some (.ins (K.cm C) dx [])/\F a=none/\Same F H/\Paired (aF K F H) as vs'/\Zcb K E F H Q a dx C (mi as)
def Jj(a dx:Addr)(C:String)(F H:Hp):Ctx:=⟨λb=>if b=a then none else H b,F,λb=>if b=a then none else(ctx0 F H).L b,λa' dx' C'=>a'=a/\dx'=dx/\C'=C⟩
def Rel.gri{σ:L2.St}{ρ:Ĳ}{a dx:Addr}{C:String}{F H F' H':Hp}(r:Rel K (Jj a dx C F H) F' H' σ ρ):GrB a F H F' H':=
 ⟨λb u hb e=>r.base b u (by show(if b=a then none else H b)=_;rw[if_neg hb];exact e),r.f0,r.sub,λb hb h1 h2=>r.bI b (by show(if b=a then none else H b)≠none;rw[if_neg hb];exact h1) h2⟩
def Rel.Rx{F H:Hp}{N:List Str}{as:List Slot}{vs:List V}{a dx:Addr}{C:String}(s:Same F H)(ha:H a=some (.ins (K.cm C) dx []))(hF:F a=none)(h:Paired (aF K F H) as vs) :
 Rel K (Jj a dx C F H) F H (L2.start N (.ref a::vs)) (.rc C [] []::startP (N.length-1) as):=by
 have r0:=Rel.start (N:=N) (K:=K) s (as:=.sh (.int 0)::as) (vs:=.int 0::vs) (.cons (Rep.int (K:=K) (F:=F) (i:=0)) h)
 have est:L2.start N (.ref a::vs)=some (.ref a)::(L2.start N (.int 0::vs)).tail:=by unfold L2.start;simp
 have Zcc:(L2.start N (V.int 0::vs)).tail.length=(startP (N.length-1) as).length:=by
  unfold L2.start startP
  simp[Paired.length h]
  omega
 have tl:∀i:Nat,(L2.start N (.int 0::vs)).tail[i]?=(L2.start N (.int 0::vs))[i+1]?:= λi=>by simp
 have sp:∀i:Nat,(startP (N.length-1) as)[i]?=(startP N.length (.sh (.int 0)::as))[i+1]?:= λi=>by
  unfold startP
  simp only[List.cons_append,List.getElem?_cons_succ,List.length_cons]
  rw[show N.length-1-as.length=N.length-(as.length+1) by omega]
 have pG:∀(i:Nat) (s':Slot),(startP (N.length-1) as)[i]?=some s'->s'.own=false:=λi s' e=>by
  unfold startP at e
  by_cases hi:i<as.length
  ·rw[List.getElem?_append_left hi] at e
   obtain⟨v,_,h3⟩:=ŷ h e
   exact(aF.slot h3).2
  ·rw[List.getElem?_append_right (by omega),List.getElem?_replicate] at e
   split at e
   ·cases e;rfl
   ·cases e
 rw[est]
 refine⟨s,λb u e=>?_,Same.refl _,λ_ _ z=>z,λb u e=>?_,λb e=>?_,?_,λi s' e=>?_,λi j b h1 h2=>?_⟩
 ·have e':(if b=a then none else H b)=some u:=e
  split at e'
  ·cases e'
  ·exact e'
 ·have e':(if b=a then none else(ctx0 F H).L b)=some u:=e
  split at e'
  ·cases e'
  ·exact bQ e'
 ·show(if b=a then none else(ctx0 F H).L b)=none
  have e':(if b=a then none else H b)=none:=e
  split
  ·rfl
  ·rename_i hb
   rw[if_neg hb] at e'
   exact r0.lb b e'
 ·simp[Zcc]
 ·cases i with
  |zero=>
   cases e
   exact⟨a,dx,[],rfl,ha,hF,by show(if a=a then none else H a)=none;rw[if_pos rfl],rfl,Ĉ.nil,rfl,rfl,rfl⟩
  |succ i=>
   have e':(startP (N.length-1) as)[i]?=some s':=by simpa using e
   have q:=r0.slot (i+1) s' (by rw[<-sp];exact e')
   rw[<-tl] at q
   show Ō K (Jj a dx C F H) F H (((some (V.ref a)::(L2.start N (.int 0::vs)).tail)[i+1]?).getD none) s'
   rw[List.getElem?_cons_succ]
   cases s' with
   |no=>trivial
   |sh p=>exact q
   |bw ps=>
    obtain⟨b,ws,q1,q2,q3⟩:=q
    refine⟨b,ws,q1,?_,q3⟩
    show(if b=a then none else(ctx0 F H).L b)=_
    rw[if_neg (λz=>by
     have:=(bQ q2).1
     rw[z,ha] at this
     cases this)]
    exact q2
   |ow ps=>have:=pG i _ e';cases this
   |rc C ns ps=>have:=pG i _ e';cases this
   |ot ps qs rs=>have:=pG i _ e';cases this
   |ol Bf=>have:=pG i _ e';cases this
   |od t kvs=>have:=pG i _ e';cases this
   |bd t kvs=>
    obtain⟨b,u,q1,q2,q3⟩:=q
    refine⟨b,u,q1,q2.imp (λq2=>?_) id,q3⟩
    show(if b=a then none else(ctx0 F H).L b)=_
    rw[if_neg (λz=>by
     have:=(bQ q2).1
     rw[z,ha] at this
     rcases q3 with⟨_,ks,rfl,_⟩|⟨_,ks,rfl,_⟩<;>cases this)]
    exact q2
 ·have at0:∀{i},ĳ F (some (.ref a)::(L2.start N (.int 0::vs)).tail) (Slot.rc C [] []::startP (N.length-1) as) i b→i=0:=fun{i} ⟨s',y,q1,_,q2⟩=>by
   have q2:=lC q2
   cases i with
   |zero=>rfl
   |succ i=>
    have:=pG i s' (by simpa using q1)
    rw[this] at q2
    cases q2
  rw[at0 h1,at0 h2]
end
section
variable{P:Program}{w:World}{K:PySem.W.Frag}{cm:String->Addr}{mg:Str->Option Value}{base:Heap}{CX:h_}
def Va{x qual:Str}{st:Stmt}{f:Addr}{fd:FuncData}{N ps:List Str}{k n j:Nat}{C:String}{mb:M Fl}{mi:MI}(F:Ii K x qual st f fd)(S:Ď N ps (Ć st))(hn:ps.length=n)(hj:N.length=j)(hf:mi=aL n j C mb)
 (hbody:∀(cdv:Value) (A:Around) (outer:List Env) (s:Shared) (H:Hp) (E:XK),ŗ k (A.deeper (envOfC qual (Ć st) s.heap.objs.size f cdv))→
   fG (qm CX P w K mg base N qual (Ć st) f cdv A outer s H E) (ŉ st) (tS ⟨K,cm⟩ (λ_=>E) mb)):ī P w K mg base CX (k+1) f fd ps (Hr ⟨K,cm⟩ n C mi):=by
 subst hn hj hf
 obtain⟨oc,od,kV,doc,pm,an,cdv,ct,osl,rfl,lk,hcd⟩:=F.ex
 refine Ky lk hcd S (λvs H Q E ⟨F,a,dx,vs',as,h1,h2,_,_,_,h3,_⟩=>by rw[h1,List.length_cons,<-Paired.length h3];exact h2) λA outer s H vs Q E hr hsp=>?_
 obtain⟨F,a,dx,vs',as,rfl,h2,h3,h4,h5,h6,h7⟩:=hsp
 refine⟨_,hbody cdv A outer s H E hr,Jj a dx C F H,F,_,Rel.Rx h5 h3 h4 h6,?_⟩
 unfold aL at h7
 rw[if_pos h2] at h7
 cases e:mb (.rc C [] []::startP (N.length-1) as) with
 |bad=>rw[e] at h7;exact h7
 |exc x ρ'=>rw[e] at h7;exact λσ' C' d F' H' rel s1 q=>h7 C' d F' H' rel.gri q
 |ok fl ρ'=>
  rw[e] at h7
  cases fl with
  |nx=>
   cases ρ' with
   |nil=>exact h7.elim
   |cons sl ρ'=>
    cases sl with
    |rc C' ns qs=>
     intro σ' F' H' rel s1
     obtain⟨b,dy,fs,q1,q2,q3,q4,q5,q6,rfl,rfl,rfl⟩:=rel.slot 0 _ rfl
     exact h7 F' H' fs rel.gri q2 q3 q5 q6
    |_=>exact h7.elim
  |bk=>exact h7.elim
  |ct=>exact h7.elim
  |rt r=>exact h7.elim
end
def aM(C:String)(mi:MI)(ms:M (List Slot)):M PV:=λρ=>(ms ρ).bind λas ρ1=>match mi as with
 | .ok ns ps=>.ok (.ins C ns ps) ρ1
 | .exc x=>.exc x ρ1
 | .bad=>.bad
section
variable{X:Cx}{cm:String->Addr}{E:L2.St->XK}{e:Expr}{es:List Expr}{pos p:Pos}{CX:h_}{k n:Nat}{f:Addr}{fd:FuncData}{ps:List Str}{C:String}{mi:MI}{ms:M (List Slot)}{x:Str}
def Dt{c:Ctx}{F1 H1:Hp}{σ:L2.St}{ρ1:Ĳ}{Q:VK}{as:List Slot}{vs:List V}(hlen:(∃r,mi as=r/\∀z,r=z->z≠ .bad)->as.length+1=n)(ć:Rel (kk X cm) c F1 H1 σ ρ1)(r1:Paired (aF (kk X cm) F1 H1) as vs)
 (h:Ų (kk X cm) E (rV (kk X cm)) c F1 H1 σ Q (match mi as with| .ok ns ps=>.ok (.ins C ns ps) ρ1| .exc x=>.exc x ρ1| .bad=>.bad)) :
 ∀x dx,H1 x=none->H1 dx=none->dx≠x->Hr (kk X cm) n C mi (.ref x::vs) (upd (upd H1 dx (.own x)) x (.ins (cm C) dx [])) (λv H2=>v=.non/\Q (.ref x) H2) (E σ):=by
 intro x dx hx hdx hne
 have up:∀b u,H1 b=some u->upd (upd H1 dx (.own x)) x (.ins (cm C) dx []) b=some u:=λb u e=>by
  rw[ċ (ĩ e hx),ċ (ĩ e hdx)];exact e
 have Jk:∀{F' H':Hp},GrB x F1 (upd (upd H1 dx (.own x)) x (.ins (cm C) dx [])) F' H'->Gr F1 H1 F' H':=fun{F' H'} g=>
  ⟨fun b u e=>g.h b u (ĩ e hx) (up b u e),g.f,g.sub,fun b hb hf=>by
    obtain⟨u,hu⟩:∃u,H1 b=some u:=by
     cases q:H1 b with
     |none=>exact absurd q hb
     |some u=>exact⟨u,rfl⟩
    exact g.out b (ĩ hu hx) (by rw[up b u hu];intro z;cases z) hf⟩
 refine⟨F1,x,dx,vs,as,rfl,?_,č,ć.sub.free hx,λb u e=>up b u (ć.sub b u e),?_,?_⟩
 ·refine hlen ⟨_,rfl,λz hz hb=>?_⟩
  rw[hz,hb] at h
  exact h
 ·refine Paired.mono (λs v hs=>?_) r1
  cases s with
  |sh p=>exact hs
  |bw qs=>
   obtain⟨b,ws,q1,q2,q3,q4⟩:=hs
   exact⟨b,ws,q1,up b _ q2,q3,q4⟩
  |_=>exact hs.elim
 ·cases em:mi as with
  |bad=>rw[em] at h;exact h
  |exc y=>rw[em] at h;exact λC' d F' H' g rx=>h C' d F' H' (ć.call (Jk g)) g.f rx
  |ok ns qs=>
   rw[em] at h
   intro F' H' fs g hx' hF' hn hr
   have r2:=ć.call (Jk g)
   have r3:=r2.freeze hx' (ć.base.free hx) hF' (ć.lF (Jk g).f (ć.fresh hx))
   refine⟨rfl,h _ _ H' r3 (g.f.trans (Same.upd hF')) (Jk g).h ?_⟩
   show Rep _ _ _ _
   unfold Rep
   exact⟨x,dx,fs,rfl,č,hn,Ĉ.same (Same.upd hF') qs _ hr⟩
def z_{pins:List (Addr×Obj)}{σ:L2.St}{H:Hp}{s:Shared}{Q:VK}{us:List Value}{vs:List V}{sp:Sp}{C:Addr}(M:Mk X.K C f)(F:ī X.prog X.w X.K X.mg X.base CX k f fd ps sp)(hr:ŗ (k+1) X.A)(hb:Binds X.K fd ps [])
 (hx:dD CX X E)(I:Inv X pins σ H s)(r:Vals vs us)
 (h:∀x dx,H x=none->H dx=none->dx≠x->sp (.ref x::vs) (upd (upd H dx (.own x)) x (.ins C dx [])) (λv H2=>v=.non/\Q (.ref x) H2) (E σ)) :
 wpAny (model X.prog X.w) X.A (call (.ref C) us) (EP X pins σ Q) X.xe s:=by
 have hq:=h (s.heap.objs.size+1) s.heap.objs.size (I.hok.fresh (Nat.le_succ _)) (I.hok.fresh (Nat.le_refl _)) (Nat.ne_of_lt (Nat.lt_succ_self _))
 have I2:=Inv.made (C:=C) I
 have r2:Vals (V.ref (s.heap.objs.size+1)::vs) (Value.ref (s.heap.objs.size+1)::us):=.cons rfl r
 have hl:(Value.ref (s.heap.objs.size+1)::us ++ []).length=ps.length:=by
  have e:=r2.length
  rw[F.len _ _ _ _ hq] at e
  rw[List.append_nil]
  exact e.symm
 have hbd:=hb {s with heap:=(s.heap.push PySem.W.emptyDict).push (PySem.W.instObj C s.heap.objs.size)} (Value.ref (s.heap.objs.size+1)::us) I2.jQ hl
 rw[List.append_nil] at hbd
 refine wpAny_call (BJ (f:=f) I.jQ M.makes M.init (beq_iff_eq.mp M.fn) (codeAny_mono (F.run _ X.stack _ _ ⟨Value.ref (s.heap.objs.size+1)::us,[]⟩ _ _ _ (E σ) (hr.make C us []) (I2.env0.make C us []) hbd r2 hq) λr s' hq'=>?_))
 cases r with
 |error e=>exact hx pins σ _ _ e s' I2 hq'
 |ok fl=>
  cases fl with
  |ret u=>
   obtain⟨v,H',I3,rv,ev,q3⟩:=I2.after hq'
   subst ev
   exact⟨rv,⟨V.ref (s.heap.objs.size+1),H',I3,rfl,q3⟩⟩
  |next=>exact False.elim hq'
  |brk=>exact False.elim hq'
  |cont=>exact False.elim hq'
def Ŵ{n k:Nat}{C:String}{mb:M Fl}{as:List Slot}(h:∃r,aL n k C mb as=r/\∀z,r=z->z≠ .bad):as.length+1=n:=by
 obtain⟨r,h1,h2⟩:=h
 unfold aL at h1
 by_cases hl:as.length+1=n
 ·exact hl
 ·rw[if_neg hl] at h1
  exact absurd h1.symm (λz=>h2 .bad (by rw[<-h1]) rfl)
def iD(M:Mk X.K (cm C) f)(F:ī X.prog X.w X.K X.mg X.base CX k f fd ps (Hr (kk X cm) n C mi))(hlen:∀{as:List Slot},(∃r,mi as=r/\∀z,r=z->z≠ .bad)->as.length+1=n)(hr:ŗ (k+1) X.A)(hg:Gl X x)(hm:X.mg x=some (.ref (cm C)))(hb:Binds X.K fd ps [])(hx:dD CX X E)
 (ha:PA X (e::es) (tA (kk X cm) E ms))(hdb:(x== ("__debug__" :Str))=false:=by decide)(he:starEach (e::es) X.env=(false,eval e X.env)::starEach es X.env:=by exact š rfl)(hpl:(backTo pos (starEach es X.env)).any (·.1)=false:=by rfl) :
 PE X (.Call (.Name x p) (e::es) [] pos) (tV (kk X cm) E (aM C mi ms)):=by
 intro pins s σ H Q I ⟨c,F',ρ,rel,h⟩
 refine wpAny_Call_Name_kw (qg I hg hm ?_ hdb)
 refine PySem.W.callWith_K (h₀:= X.base) I.ok.mod.Vp M.kp (ļ (ha pos pins s σ H (λvs H1=>∀x dx,H1 x=none->H1 dx=none->dx≠x->Hr (kk X cm) n C mi (.ref x::vs) (upd (upd H1 dx (.own x)) x (.ins (cm C) dx [])) (λv H2=>v=.non/\Q (.ref x) H2) (E σ)) I
  ⟨c,F',ρ,rel,Ų.bind h λas ρ1 vs F1 H1 ć _ _ r1 h1=>Dt hlen ć r1 h1⟩) λus s1 ⟨vs,H1,I1,r,q⟩=>⟨I1.jQ,?_⟩) he hpl
 exact z_ M F hr hb hx I1 r q
end
end P
namespace P
open PySem PySem.Spec PyProof.Rows L2 M2 M3 M4
section
variable{M:Model}{A:Around}{E:Value->Shared->Prop}{s:Shared}{B:Heap}{env:Env}{outer:List Env}{L e:Addr}{Q:Unit->Shared->Prop}
end
def cJ.sub{P:Program}{w:World}{H:Hp}{h B:Heap}(x:cJ P w H h)(k:∀b o u,H b=some u->h.get? b=some o->B.get? b=some o):cJ P w H B:=λa o e=>
 (x a o e).stay (fun b u hb q=>by
   rcases hb with rfl|hb
   ·exact k _ _ _ e q
   ·exact k _ _ _ hb q) (λ_ q=>q) λ_ _ q=>q
section
variable{P:Program}{w:World}{K:PySem.W.Frag}{mg:Str->Option Value}{base:Heap}{N:List Str}{qual:Str}{scope:Scope}{f:Addr}{cdv:Value}{A:Around}{outer:List Env}{s₀:Shared}{H₀:Hp}{E:XK}
end
end P
namespace P
open PySem PySem.Spec PyProof.Rows L2 M2 M3 M4
section
variable{K:PySem.W.Frag}{h:Heap}{C:Addr}{bmB:List Value}{newId:String}
end
section
variable{X:Cx}{cm:String->Addr}{E:L2.St->XK}{x:Str}{C:String}{np cpos pos:Pos}
end
section
variable{M:Model}{A:Around}{E:Value->Shared->Prop}{s:Shared}{K:PySem.W.Frag}{e C D:Addr}{oe:Obj}{b:Bool}{Q:Bool->Shared->Prop}
end
section
variable{X:Cx}{pins:List (Addr×Obj)}{σ:L2.St}{H:Hp}{s:Shared}{xe:Value->Shared->Prop}
end
end P
namespace P
open PySem PySem.Spec PyProof.Rows L2 M2 M3 M4
abbrev MH:=PX->Ĳ->Res Fl
section
variable{X:Cx}{cm:String->Addr}{E:L2.St->XK}{pins:List (Addr×Obj)}{σ:L2.St}{H Hc:Hp}{s sc:Shared}{ea:Addr}{C:Value}{d:Option Addr}{B:Heap}
variable{y n:Str}{Dn:String}{i:Nat}{yp hpos:Pos}{b₀:Stmt}{suite:List Stmt}{rest:List ExceptHandler}{yes no:List String}{mh:M Fl}{mr:MH}
end
end P
namespace P
open PySem PySem.Spec PyProof.Rows L2 M2 M3 M4 Builtin Builtin.ObjectAttr
section
variable{K:PySem.W.Frag}{h:Heap}{C:Addr}{cd:ClassData}{bm:List Value}
end
section
variable{prog:Program}{w:World}{A:Around}{E:Value->Shared->Prop}{h:Heap}{g:Array GenState}{d:Drawn}{t:Nat}{os:OsState}
variable{nm q:Str}{C N:Addr}{bs bm bmB:List Value}{hdct:Bool}{sn:List Str}{sub:List Value}{ab:Bool}{col:Option Bool}{dd:Option Addr}{k0 k1 k2 k3 k5:Option Value}{B newId initId:String}
end
section
variable{prog:Program}{w:World}{A:Around}{E:Value->Shared->Prop}{s:Shared}{K:PySem.W.Frag}{x C:Addr}{cd:ClassData}{bm:List Value}{ox:Obj}{od:Option Obj}{name:Str}{v:Value}
end
end P
namespace P
open PySem PySem.Spec PyProof.Rows L2 M2 M3 M4
section
variable{X:Cx}{pins:List (Addr×Obj)}{σ:L2.St}{H:Hp}{s:Shared}{a C:Addr}{cd:ClassData}{bm:List Value}{d:Option Addr}{fs:List (Str×V)}{f:Str}{y:V}{u:Value}{A:Around}{E:Value->Shared->Prop}
variable{o value:Expr}{pos pos':Pos}{j:Nat}{ss:List Stmt}{r:List (Str×Nat)}
end
section
variable{P:Program}{w:World}{K:PySem.W.Frag}{mg:Str->Option Value}{base:Heap}{CX:h_}
end
section
variable{X:Cx}{cm:String->Addr}{E:L2.St->XK}{e:Expr}{es:List Expr}{pos p:Pos}{CX:h_}{k n:Nat}{f:Addr}{fd:FuncData}{ps:List Str}{C:String}{fl:List (Str×Nat)}{ms:M (List PV)}{x:Str}
end
section
variable{M:Model}{A:Around}{E:Value->Shared->Prop}{s:Shared}{K:PySem.W.Frag}{env:Env}
end
section
variable{X:Cx}{cm:String->Addr}{E:L2.St->XK}{e:Expr}{es:List Expr}{pos cpos np:Pos}{CX:h_}{k n:Nat}{f:Addr}{fd:FuncData}{ps:List Str}{C:String}{fl:List (Str×Nat)}{ms:M (List PV)}{x:Str}
end
end P
namespace P
open PySem PySem.Spec PyProof.Rows L2 M2 M3 M4 Builtin Builtin.ObjectAttr
section
variable{prog:Program}{w:World}{A:Around}{E:Value->Shared->Prop}{s:Shared}{K:PySem.W.Frag}{x C:Addr}{ox:Obj}{od:Option Obj}
end
section
variable{X:Cx}{cm:String->Addr}{K:KK}
end
section
variable{ρ:Ĳ}{C:String}{n i:Nat}{fl:List (Str×Nat)}{ms:M (List PV)}{mb mh:M Fl}{mr:MH}{yes no:List String}{x:PX}
end
end P
namespace P
open PySem PySem.Spec PyProof.Rows L2 M2 M3 M4
section
variable{X:Cx}{cm:String->Addr}{E:L2.St->XK}{y:Str}{Dn:String}{yp hpos:Pos}{b₀:Stmt}{suite:List Stmt}{rest:List ExceptHandler}{yes no:List String}{mh:M Fl}{mr:MH}
end
end P
namespace P
open PySem PySem.Spec PyProof.Rows L2 M2 M3 M4
section
variable{X:Cx}{cm:String->Addr}{K:KK}
def Ld:List V->Hp->VK->Prop:=λxs H Q=>(∃i,xs=[.int i]/\Q (.int i) H)\/∃k,xs=[.bl k]/\Q (.int (if k then 1 else 0)) H
def Ry:ŕ X (.type "int") Ld:=zH
def qM:List PV->Option PV
 | [.int i]=>some (.int i)
 | [.bl k]=>some (.int (if k then 1 else 0))
 |_=>none
def Rz:ji K Ld qM:=by
 intro c F H σ ρ ps pv vs Q rel r e k
 unfold qM at e
 split at e
 ·cases e
  obtain⟨v,rfl,r1⟩:=Lb r
  cases r1.int
  exact .inl ⟨_,rfl,k _ F H rel (Same.refl _) (Same.refl _) Rep.int⟩
 ·cases e
  obtain⟨v,rfl,r1⟩:=Lb r
  cases r1.bl
  exact .inr ⟨_,rfl,k _ F H rel (Same.refl _) (Same.refl _) Rep.int⟩
 ·cases e
section
variable{prog:Program}{w:World}{A:Around}{E:Value->Shared->Prop}{s:Shared}{l:Addr}{xs:Array (Int×Tok)}
end
@[simp] theorem Zaz{i:Int}:qM [.int i]=some (.int i):=rfl
@[simp] theorem ZaA{b:Bool}:qM [.bl b]=some (.int (if b then 1 else 0)):=rfl
end
end P
namespace P
open PySem PySem.Spec PyProof.Rows L2 M2 M3 M4
def Xh(K:PySem.W.Frag)(C:Addr):Bool:=PySem.W.plainGet K C Str.empty && PySem.W.hasDictIn K C && PySem.W.plainOver K C && PySem.W.findIn K (.ref C) "__setattr__" == some (some (.builtin "object.__setattr__"))
def fu{K:PySem.W.Frag}{C:Addr}(h:Xh K C=true):Cls K C:=by
 unfold Xh at h
 simp only[Bool.and_eq_true,beq_iff_eq] at h
 exact⟨h.1.1.1,h.1.1.2,h.1.2,h.2⟩
def mkB(K:PySem.W.Frag)(C f:Addr):Bool:=PySem.W.makesIn K C && PySem.W.findIn K (.ref C) "__init__" == some (some (.ref f)) && PySem.W.isFn K (.ref f) && PySem.W.keepIn K (.ref C)
def lU{K:PySem.W.Frag}{C f:Addr}(h:mkB K C f=true):Mk K C f:=by
 unfold mkB at h
 simp only[Bool.and_eq_true,beq_iff_eq] at h
 exact⟨h.1.1.1,h.1.1.2,h.1.2,h.2⟩
section
variable{ρ:Ĳ}{i n k:Nat}{C:String}{cs:List String}{f m:Str}{mv mo:M PV}{mi:MI}{ms:M (List Slot)}{mb:M Fl}{nQ:List (String×MF)}{as:List Slot}{ns:List Str}{ps:List PV}
@[simp] theorem ZaB:dX i cs f mv ρ=(mv ρ).bind fun p ρ1=>match ρ1[i]? with
  |some (.rc C ns ps)=>if cs.contains C=true/\ns.length<1000 then .ok .nx (ρ1.set i (.rc C (putN f ns) (vV f p ns ps))) else .bad
  |_=>.bad:=rfl
@[simp] theorem ZaC:aL n k C mb as=if as.length+1=n then IR.of (mb (.rc C [] []::startP (k-1) as)) else .bad:=rfl
@[simp] theorem Zcd{C:String}:IR.of (.ok .nx (.rc C ns ps::ρ))=.ok ns ps:=rfl
@[simp] theorem ZaD:aM C mi ms ρ=(ms ρ).bind fun as ρ1=>match mi as with
  | .ok ns ps=>.ok (.ins C ns ps) ρ1
  | .exc x=>.exc x ρ1
  | .bad=>.bad:=rfl
@[simp] theorem Zce:gw cs f (.ins C ns ps)=if cs.contains C=true then(ns.zip ps).lookup f else none:=rfl
end
end P
namespace M3
open PySem PySem.Spec PyProof.Rows L2 M2
section
variable{X:Cx}{elt tg iter:Expr}{ifs:List Expr}{scope:Scope}{pos:Pos}{wi:TI}{g:TG}{tt:TT}{te:TE}
def Jl{iv:Nat}{y:Str}{py spos:Pos}(hN:X.N.Nodup)(hiN:X.N[iv]?=some y)(hy:X.env.scope.names.lookup y=some .local)(hsw:swapsWith (.ListComp elt [⟨tg,iter,ifs,0⟩] scope pos) (some (.Name y py)) spos.line X.env=pure true)(N':List Str)(js:List Nat)(nl:Nat)(sc:Scope)(hsc:X.env.scope=sc)(hcalm:X.calm=true)
 (hi:PI X.ŀ tg iter wi)(hg:∀cl C s H fp,PG (aU X.ŀ N' scope cl C s H fp) tg g)(ht:∀cl C s H fp,Hq (aU X.ŀ N' scope cl C s H fp) ifs tt)(he:∀cl C s H fp,PE (aU X.ŀ N' scope cl C s H fp) elt te)
 (hcap:fL X.ŀ sc scope N' js)(hlen:js.length+nl=N'.length:=by rfl)
 (hk:scope.kind=.function:=by rfl)(hcell:∀y∈scope.names,y.2=.cell->scope.names.lookup y.1=some .cell:=by decide +kernel)(hnames:∀y∈scope.names,y.2=.local->scope.names.lookup y.1=some .local:=by decide +kernel)
 (hfree:∀y∈scope.names,y.2=.free->(sc.names.lookup y.1=some .cell\/sc.names.lookup y.1=some .free):=by decide +kernel)
 (hs:∀x,foldedSetIterable iter X.env x=pure x:=by intro _;rfl) :
 PS X.ŀ (.Assign [.Name y py] (.ListComp elt [⟨tg,iter,ifs,0⟩] scope pos) spos) (λD σ H=>Ck js nl wi g tt te σ H λv H'=>D.nx (σ.set iv (some v)) H'):=by
 intro pins s σ H D I h
 obtain⟨Wk,c1,c2,c3⟩:=fK (scope:=scope) (env:=X.ŀ.env) λy hy hf=>I.ok.has y.1 (by
  have:=hfree y hy hf
  rw[<-hsc] at this
  exact this)
 rw[exec_Assign_Name_used _ _ _ _ (show swapsWith _ _ _ X.ŀ.env=pure true from hsw)]
 refine wpAny_bind (wpAny_standAt (wpAny_bind ?_))
 show wpAny _ X.A (do let _ <-comprehension (.ListComp elt [⟨tg,iter,ifs,0⟩] scope pos) scope X.ŀ.env _ (newList []) false (eval iter X.ŀ.env) (some (assign (.Name y py) X.ŀ.env))) _ _ s
 refine wpAny_bind (wpAny_mono (wpAny_comprehension_free (Q:=λ_ s'=>SP X.ŀ pins D .next s') (use:=some (assign (.Name y py) X.ŀ.env)) rfl hs c1 hk hnames (ļ (hi pins s σ H _ I h) λv s1 h1=>ļ h1 λitv s2 h2=>?_)) (λ_ s' hq=>wpAny_pure (wpAny_pure hq)) λ_ _ e=>e)
 obtain⟨it,fp,tn,J,H2,e,I2,T,st2,f2,q2⟩:=h2
 subst e
 refine wpAny_newObj_type (dN (λh₁ hns₁ old QT=>?_))
 dsimp only at hns₁ old QT ⊢
 generalize QV:s2.heap.push {cls:=.type "list",dict:=none,data:=.seq ([]:List Value).toArray}=ű at hns₁ old QT ⊢
 have hD:H2 s2.heap.objs.size=none:=I2.hok.fresh (Nat.le_refl _)
 have I3:Inv X.ŀ pins σ (upd H2 s2.heap.objs.size (.lst [])) {s2 with heap:=ű}:=by
  rw[<-QV]
  exact I2.laid (t':=s2.toks) (λb u e=>Heap.get?_push_of_some _ e) (Nat.le_refl _) ⟨Nat.zero_le _,[],0,.nil,Heap.get?_push_size _ rfl⟩
 have Cq:∀b∈fp,b<s2.heap.objs.size:=λb hb=>by
  obtain⟨o,ho,_⟩:=T.obj 0 _ st2 b hb
  exact Heap.lt_size ho
 have QW:ű.objs.size=s2.heap.objs.size+1:=by rw[<-QV,Heap.size_push]
 have f3:∀b∈fp,cL X.ŀ pins (upd H2 s2.heap.objs.size (.lst [])) b:=λb hb=>by
  obtain⟨g0,g1⟩:=f2 b hb
  exact⟨by rw[ċ (Nat.ne_of_lt (Cq b hb))];exact g0,g1⟩
 have B:=Cm (X:=X.ŀ) (cl:=Wk) hcell c2 c3 (λx c e=>by
  obtain⟨v,o,ho,_⟩:=I3.cell x c e
  exact Heap.lt_size ho) QT
 generalize cellsFrom (ű.objs.size+1) scope.names Wk=cl at B ⊢
 obtain⟨W,⟨m0,w0⟩,turn⟩:=q2 s2.heap.objs.size hD
 have I4:=pq (X:=X.ŀ) (N':=N') (js:=js) (nl:=nl) (sc:=sc) (scope:=scope) (cl:=cl) (fp:=fp) (h':=h₁) (tk:=s2.toks) hsc hk hcap hlen B I3 f3 (λb hb=>by show b<ű.objs.size;rw[QW];exact Nat.lt_succ_of_lt (Cq b hb)) hns₁ old
 have Wm:tn 0 h₁:= T.keep 0 _ _ st2 λb hb o e=>old b o (by rw[<-QV];exact Heap.get?_push_of_some _ e)
 have fr4:∀b∈fp,(upd H2 s2.heap.objs.size (.lst [])) b=none:=λb hb=>(f3 b hb).1
 have stat:∀{H':Hp},(∀b∈fp,H' b=none)->∀b∈fp,cL (aU X.ŀ N' scope cl ű.objs.size {s2 with heap:=ű} (upd H2 s2.heap.objs.size (.lst [])) fp) [] H' b:=fun{H'} hn b hb=>by
  obtain⟨g0,g1,g2,g3,g4,g5⟩:=f3 b hb
  refine⟨hn b hb,Nat.ne_of_lt (by show b<ű.objs.size;rw[QW];exact Nat.lt_succ_of_lt (Cq b hb)),λz=>?_,.inl hb,λx c e=>by
   rcases B.at_ x c e with⟨q,_⟩|⟨q,_⟩
   ·exact g4 x c q
   ·exact Nat.ne_of_gt (Nat.lt_trans (by show b<ű.objs.size;rw[QW];exact Nat.lt_succ_of_lt (Cq b hb)) q),λp hp=>absurd hp (by simp[aU])⟩
  rcases List.mem_cons.mp (I3.kW b z) with z|z
  ·exact g1 z
  ·exact g2 z
 have loop:∀s₃:Shared,s₃= {s2 with heap:=h₁}->
  codeAny (model X.prog X.w) X.A (.compLoop (.ListComp elt [⟨tg,iter,ifs,0⟩] scope pos) 0 (.ref it) (.ref s2.heap.objs.size) (compEnvC scope cl ű.objs.size X.ŀ.env))
   (compPost (model X.prog X.w) X.A X.ŀ.xe (some (assign (.Name y py) X.ŀ.env)) (λ_ s'=>SP X.ŀ pins D .next s') (.ref s2.heap.objs.size) ű.objs.size) s₃:= by
  rintro s₃ rfl
  refine fM (λn s'=>∃i σ' H',Inv (aU X.ŀ N' scope cl ű.objs.size {s2 with heap:=ű} (upd H2 s2.heap.objs.size (.lst [])) fp) [] σ' H' s'/\tn i s'.heap/\(∀b∈fp,H' b=none)/\W i n σ' H') ?_ m0 ⟨0,_,_,I4,Wm,fr4,w0⟩
  rintro n s5 ⟨i,σ5,H5,I5,HF,Qg,w5⟩
  rcases turn i n σ5 H5 w5 with⟨stop,qn⟩|⟨go,N,hN,step⟩
  ·refine ļ (T.done (aU X.ŀ N' scope cl ű.objs.size {s2 with heap:=ű} (upd H2 s2.heap.objs.size (.lst [])) fp) rfl rfl rfl hcalm i [] s5 σ5 H5 (λ_ _=>False) I5 (stat Qg) HF stop) λr s6 ⟨hr,I6⟩=>?_
   subst hr
   obtain⟨m,hm,_⟩:=I6.loc
   have I7:Inv X.ŀ pins σ H5 s6:=lu (h':=s6.heap) I3 f3 I6 (λb u hb e=>e)
   have hCL:ű.objs.size≠X.ŀ.env.locals:=Nat.ne_of_gt I3.lt
   have hcC:∀x c,X.ŀ.env.cells.lookup x=some c->c≠ű.objs.size:=λx c e z=>by
    obtain⟨v,o,ho,_⟩:=I3.cell x c e
    exact absurd (Heap.lt_size ho) (by rw[z];exact Nat.lt_irrefl _)
   have hpC:∀p∈X.ŀ.pn++pins,p.1≠ű.objs.size:=λp hp z=>by
    have:=Heap.lt_size (I3.pin p hp).1
    rw[z] at this
    exact Nat.lt_irrefl _ this
   have hnC:H5 ű.objs.size=none:=I6.free
   refine wpAny_assign_Name (oO (X:=X.ŀ) (i:=iv) I7 hN hiN (.inl hy) (v:=.ref s2.heap.objs.size) rfl (λs8 I8 ⟨a8,sb8,ha8⟩=>?_) (.inr hy))
   have ne8:ű.objs.size≠a8:=by
    rcases ha8 with rfl|ha8
    ·exact hCL
    ·exact λz=>hcC _ _ ha8 z.symm
   refine⟨m,hm.sameBut sb8 ne8,λh' hs'=>⟨_,H5,?_,qn⟩⟩
   have kp:∀b o,b≠ű.objs.size->s8.heap.get? b=some o->h'.get? b=some o:=λb o hb e=>hs'.extBut b o hb e
   have kp':∀b o,b∉[ű.objs.size]->s8.heap.get? b=some o->h'.get? b=some o:=λb o hb e=>kp b o (λz=>hb (by rw[z];exact List.mem_cons_self)) e
   refine I8.call' (ch:=[ű.objs.size]) (s':={s8 with heap:=h'}) rfl ⟨λb o e _ _ hx=>kp' b o hx e,λb o e _ _ hx=>⟨o.slots,kp' b o hx e⟩,λb o _ n _=>n,λb o e hx=>⟨o,kp' b o hx e⟩,λ_ _ q=>q,λ_ _ _ q=>q,λ_ ps q=>q⟩ (wZ I8.hok hnC kp) I8.bare λb hb=>?_
   cases List.mem_singleton.mp hb
   exact⟨.inr I3.sz,hCL,hcC,hpC⟩
  ·refine ļ (T.item (aU X.ŀ N' scope cl ű.objs.size {s2 with heap:=ű} (upd H2 s2.heap.objs.size (.lst [])) fp) rfl rfl rfl hcalm i [] s5 σ5 H5 (λ_ _=>False) I5 (stat Qg) HF go) λr s6 ⟨u,hr,h6⟩=>?_
   subst hr
   refine ļ h6 λ_ s7 ⟨x,H7,I7,r7,y7,QX,fr7⟩=>?_
   have I7':=I7.pinned (stat fr7) (T.obj _ _ QX)
   have again:∀{s8:Shared} {σ8:L2.St} {H8:Hp},Inv (aU X.ŀ N' scope cl ű.objs.size {s2 with heap:=ű} (upd H2 s2.heap.objs.size (.lst [])) fp) ([]++gW fp s7.heap) σ8 H8 s8->
    Inv (aU X.ŀ N' scope cl ű.objs.size {s2 with heap:=ű} (upd H2 s2.heap.objs.size (.lst [])) fp) [] σ8 H8 s8/\tn (i+1) s8.heap/\∀b∈fp,H8 b=none:=fun{s8 σ8 H8} I8=>by
    refine⟨I8.cM,T.keep _ _ _ QX λb hb o e=>(I8.pin (b,o) (List.mem_append_right _ (List.mem_append_right _ (ţ hb e)))).1,λb hb=>?_⟩
    obtain⟨o,e,d⟩:=T.obj _ _ QX b hb
    exact(I8.pin (b,o) (List.mem_append_right _ (List.mem_append_right _ (ţ hb e)))).2.1
   refine ļ (hg cl _ _ _ fp _ s7 σ5 H7 x u _ I7' r7 (step x H7 y7)) λ_ s8 ⟨σ8,H8,I8,q8⟩=>?_
   refine ļ (ht cl _ _ _ fp _ s8 σ8 H8 _ I8 q8) λc s9 ⟨H9,I9,q9⟩=>?_
   cases c with
   |false=>
    rw[if_neg Bool.false_ne_true] at q9 ⊢
    obtain⟨m',hm',w9⟩:=hN _ _ q9
    obtain⟨a1,a2,a3⟩:=again I9
    exact⟨m',hm',i+1,σ8,H9,a1,a2,a3,w9⟩
   |true=>
    rw[if_pos rfl] at q9 ⊢
    refine ļ (he cl _ _ _ fp _ s9 σ8 H9 _ I9 q9) λyv aD ⟨y,H10,I10,r10,ys,e10,l10,w10⟩=>?_
    refine ļ (ō _ aD σ8 H10 (.ref s2.heap.objs.size) [y] (.ref s2.heap.objs.size) [yv] (λ_ QZ=>N σ8 QZ) I10 rfl (.cons r10 .nil) ⟨_,ys,y,rfl,rfl,e10,l10,w10⟩) λ_ Bd ⟨v11,QZ,I11,_,w11⟩=>?_
    obtain⟨a1,a2,a3⟩:=again I11
    obtain⟨m',hm',w11⟩:=hN _ _ w11
    exact⟨m',hm',i+1,σ8,QZ,a1,a2,a3,w11⟩
 exact codeAny_compStart_list (loop _ rfl) (T.self _ 0 _ _ _ Wm (loop _ rfl))
end
end M3
namespace P
open PySem PySem.Spec PyProof.Rows L2 M2 M3 M4
section
variable{X:Cx}{cm:String->Addr}{E:L2.St->XK}{elt tg iter:Expr}{ifs:List Expr}{scope:Scope}{pos:Pos}{mi:M (List PV)}{g:Tg}{mt:M Bool}{me:M PV}
theorem PS.ŀ{st:Stmt}{t:TS}(h:PS X.ŀ st t):PS X st t:=λpins s σ H D I hw=>
 wpAny_mono (h pins s σ H D (I.wish _) hw) (λ_ _ q=>q.bJ) λ_ _ z=>False.elim z
def RB{i:Nat}{y:Str}{py spos:Pos}(hN:X.N.Nodup)(hi0:X.N[i]?=some y)(hy:X.env.scope.names.lookup y=some .local)(N':List Str)(js:List Nat)(nl:Nat)(sc:Scope)(hsc:X.env.scope=sc)(hcalm:X.calm=true)
 (hi:PI X.ŀ tg iter (tI (kk X cm) E mi))(hg:∀cl C s H fp,PG (aU X.ŀ N' scope cl C s H fp) tg (tT (kk X cm) g))(ht:∀cl C s H fp,Hq (aU X.ŀ N' scope cl C s H fp) ifs (tB (kk X cm) EF mt))(he:∀cl C s H fp,PE (aU X.ŀ N' scope cl C s H fp) elt (tV (kk X cm) EF me))
 (hcap:fL X.ŀ sc scope N' js)(hlen:js.length+nl=N'.length:=by rfl)
 (hk:scope.kind=.function:=by rfl)(hcell:∀y∈scope.names,y.2=.cell->scope.names.lookup y.1=some .cell:=by decide +kernel)(hnames:∀y∈scope.names,y.2=.local->scope.names.lookup y.1=some .local:=by decide +kernel)
 (hfree:∀y∈scope.names,y.2=.free->(sc.names.lookup y.1=some .cell\/sc.names.lookup y.1=some .free):=by decide +kernel)
 (hs:∀x,foldedSetIterable iter X.env x=pure x:=by intro _;rfl)(hsw:swapsWith (.ListComp elt [⟨tg,iter,ifs,0⟩] scope pos) (some (.Name y py)) spos.line X.env=pure true:=by rfl) :
 PS X (.Assign [.Name y py] (.ListComp elt [⟨tg,iter,ifs,0⟩] scope pos) spos) (tS (kk X cm) E (Ĺ i (ź js nl mi g mt me))):=
 PS.wk (PS.ŀ (Jl hN hi0 hy hsw N' js nl sc hsc hcalm (KN hi) hg ht he hcap hlen hk hcell hnames hfree hs)) fun D σ H ⟨c,F,ρ,rel,h⟩=>tX ⟨c,F,ρ,rel,ř.bind h fun r ρ1 v F1 H1 ć s1 q h1=>by
   cases r with
   |sh p=>exact h1 _ F1 H1 (ć.put rfl ⟨v,rfl,q⟩) (Same.refl _)
   |ow ps=>
    obtain⟨a,vs,rfl,q1,q2,q3,q4,q5⟩:=q
    exact h1 _ F1 H1 (ć.zR ⟨a,vs,rfl,q1,q2,q3,q5⟩ λ_ z=>V.ref.inj z▸q4) (Same.refl _)
   |ot ps qs rs=>
    obtain⟨p,a,xs,vs,ys,rfl,q0,qx,q1,q2,q3,q4,q5,q6⟩:=q
    exact h1 _ F1 H1 (ć.zR (s:=.ot ps qs rs) ⟨p,a,xs,vs,ys,rfl,q0,qx,q1,q2,q3,q5,q6⟩ λ_ z=>dz (ps:=ps) (qs:=qs) (rs:=rs) z ⟨p,xs,ys,rfl,q0,qx.length.symm⟩▸q4) (Same.refl _)⟩
end
end P
namespace P
open PySem PySem.Spec PyProof.Rows L2 M2 M3 M4
section
variable{X:Cx}{cm:String->Addr}{K:KK}{E:L2.St->XK}{o e:Expr}{es:List Expr}{name:Str}{apos cpos:Pos}{id:String}{r:V->List V->Hp->VK->Prop}{f:PV->List PV->Option PV}{mo:M PV}{ms:M (List PV)}
end
end P
namespace P
open PySem PySem.Spec PyProof.Rows L2 M2 M3 M4
section
variable{X:Cx}{pins:List (Addr×Obj)}{σ:L2.St}{H:Hp}{s:Shared}{h':Heap}
def turns{t':Nat}{fp:List Addr}(I:Inv X pins σ H s)(k:∀b o,b∉fp->s.heap.get? b=some o->h'.get? b=some o)(hf:∀b∈fp,cL X pins H b):Inv X pins σ H {s with heap:=h',toks:=t'}:=by
 have Vr:∀b u,H b=some u->b∉fp:=λb u e z=>by rw[(hf b z).1] at e;cases e
 have hL:X.env.locals∉fp:=λz=>(hf _ z).2.1 rfl
 refine I.step (g':=s.gens) (d':=s.drawn) (ch:=fp) (λb hb=>?_) (λb o _ _ hc e _=>k b o hc e) (λb o _ _ hc e _=>⟨o.slots,k b o hc e⟩) (λ_ _ _ _ n=>n)
  (λb o hc e=>⟨o,k b o hc e⟩) (λ_ _ e=>e) (λ_ _ _ e=>e) (λb ps e=>e) (λm hm=>?_) (λb u e=>?_) I.bare
 ·obtain⟨f0,f1,f2,f3,f4,f5⟩:=hf b hb
  exact⟨f3,f1,f4,f5⟩
 ·obtain⟨o,es,ep,ho,r⟩:=hm
  exact⟨o,es,ep,k _ o hL ho,r⟩
 ·refine(I.hok b u e).stay (λc v hc q=>k c v ?_ q) (λ_ q=>q) λ_ _ q=>q
  rcases hc with z|z
  ·rw[z];exact Vr b u e
  ·exact Vr c _ z
def RD{a b:Addr}{o:HO}(f:cL X pins H b)(h:b≠a):cL X pins (upd H a o) b:=⟨by rw[ċ h];exact f.1,f.2⟩
def lV{t':Nat}{fp:List Addr}{u1 u2:Value}{x1 x2:V}(I:Inv X pins σ H s)(r1:RelV x1 u1)(r2:RelV x2 u2)(ht:∃o,h'.get? s.heap.objs.size=some o/\o= {cls:=.type "tuple",data:=.seq #[u1,u2]})
 (k:∀b o,b∉fp->s.heap.get? b=some o->h'.get? b=some o)(hf:∀b∈fp,cL X pins H b)(hlt:∀b∈fp,b<s.heap.objs.size) :
 Inv X pins σ (upd H s.heap.objs.size (.tup [x1,x2])) {s with heap:=h',toks:=t'}:=by
 have I1:Inv X pins σ (upd H s.heap.objs.size (.tup [x1,x2])) {s with heap:=s.heap.push {cls:=.type "tuple",data:=.seq #[u1,u2]},toks:=s.toks}:=
  I.laid (t':=s.toks) (λb u e=>Heap.get?_push_of_some _ e) (Nat.le_refl _) ⟨by show 2<=sizeLine;decide,[u1,u2],.cons r1 (.cons r2 .nil),⟨_,Heap.get?_push_size _ rfl,rfl,_,rfl⟩⟩
 refine turns (fp:=fp) (s:={s with heap:=s.heap.push {cls:=.type "tuple",data:=.seq #[u1,u2]},toks:=s.toks}) (h':=h') (t':=t') I1 (λb o hb e=>?_) λb hb=>RD (hf b hb) (Nat.ne_of_lt (hlt b hb))
 rcases Heap.get?_push_cases e with⟨rfl,rfl⟩|e
 ·obtain⟨o,h1,h2⟩:=ht
  rw[h1,h2]
 ·exact k b o hb e
end
def Ite(K:PySem.W.Frag)(a:Addr):It:=
 ⟨λi H=>∃xs x,Ř K H a xs/\xs[i]?=some x,λi H y H'=>∃x T,(∀xs,Ř K H a xs->xs[i]?=some x)/\H T=none/\y=.ref T/\H'=upd H T (.tup [.int i,x]),λi H=>∃xs,Ř K H a xs/\xs.length<=i⟩
def Aa{P:Program}{w:World}{K:PySem.W.Frag}{elts:List Expr}{k:Nat}{pos:Pos}(a e it:Addr)(hne:e≠it):Turn P w K (.Tuple elts k pos) (Ite K a) [e,it] e (λi h=>(∃old,IsEnum h e it i old)/\h.IsListIter it a i) where
 mem:=by simp
 obj:=λi h st b hb=>by
  obtain⟨⟨old,he⟩,hit⟩:=st
  rcases List.mem_cons.mp hb with rfl|hb
  ·exact⟨_,he,fun v z=>by
    have z':Data.fields _=Data.cell v:=z
    cases z'⟩
  ·have e':b=it:=by simpa using hb
   subst e'
   obtain⟨o,e1,c,d⟩:=hit
   exact⟨o,e1,λv z=>by rw[d] at z;cases z⟩
 keep:=λi h h' st k=>⟨let ⟨old,he⟩:=st.1;⟨old,k e (by simp) _ he⟩,st.2.at λo q=>k it (by simp) o q⟩
 item:=by
  intro X hP hw hK hc i pins s σ H E I hf st hg
  subst hP hw hK
  obtain⟨⟨old,he⟩,hit⟩:=st
  obtain⟨xs,x,hq,hx⟩:=hg
  obtain⟨its,rv,p,hz⟩:=I.list hq
  obtain⟨u,hu,ru⟩:=rv.get hx
  have elt:e<s.heap.objs.size:=Heap.lt_size he
  have ilt:it<s.heap.objs.size:=by obtain⟨_,q,_⟩:=hit;exact Heap.lt_size q
  refine wpAny_pyNext_enum_item he hit p.isList (x:=u) (by simpa using hu) hne λh' ho hit' hT hsz hk=>?_
  refine⟨.ref s.heap.objs.size,rfl,wpAny_letOwnedTupleGo_enum ho λh'' he' hs'=>?_⟩
  have hs2:Heap.SameBut e h' h'':=hs'
  have hlt:∀b∈[e,it],b<s.heap.objs.size:=λb hb=>by
   rcases List.mem_cons.mp hb with rfl|hb
   ·exact elt
   ·have e':b=it:=by simpa using hb
    subst e';exact ilt
  have I2:=lV (fp:=[e,it]) (h':=h'') (t':=s.toks+1) (x1:=.int i) I ⟨s.toks,rfl⟩ ru ⟨_,(hs2.2 _ (Nat.ne_of_gt elt)).trans hT,rfl⟩ (λb o hb q=>by
   have hbe:b≠e:=λz=>hb (by simp[z])
   have hbi:b≠it:=λz=>hb (by simp[z])
   exact(hs2.2 b hbe).trans (hk b o hbe hbi q)) hf hlt
  refine⟨.ref s.heap.objs.size,_,I2,rfl,⟨x,s.heap.objs.size,λys hy=>by rw[I.kY hy hq];exact hx,I.fresh,rfl,rfl⟩,⟨⟨u,?_⟩,hit'.at λo q=>(hs2.2 it hne.symm).trans q⟩,λb hb=>?_⟩
  ·have he2:IsEnum h'' e it ((i:Int)+1) u:=he'
   show IsEnum h'' e it (((i+1:Nat):Int)) u
   rw[Int.natCast_add]
   exact he2
  ·rw[ċ (Nat.ne_of_lt (hlt b hb))];exact(hf b hb).1
 done:=by
  intro X hP hw hK hc i pins s σ H E I hf st hg
  subst hP hw hK
  obtain⟨⟨old,he⟩,hit⟩:=st
  obtain⟨xs,hq,hx⟩:=hg
  obtain⟨its,rv,p,hz⟩:=I.list hq
  have hl:=rv.length
  refine wpAny_pyNext_enum_end (I.ok.hd hc) he hit p.isList (by simp;omega) λh' eb=>⟨rfl,turns (fp:=[e,it]) (t':=s.toks) I (λb o hb q=>eb b o (λz=>hb (by simp[z])) q) hf⟩
 self:=λ_ _ _ _ _ st h=>let ⟨_,he⟩:=st.1;wpAny_pyIter_enum he h
section
variable{X:Cx}{elts:List Expr}{k:Nat}{tp:Pos}
def Xi(K:PySem.W.Frag)(ta:TA):TI:=λσ H R=>ta σ H λvs H1=>∃a,vs=[.ref a]/\(∃xs,Ř K H1 a xs)/\R (Ite K a) H1
def Jm{l:Expr}{ta:TA}{p pos:Pos}(hg:Gl X "enumerate")(hm:X.mg "enumerate" =none)(ha:PA X [l] ta)(hs:starEach [l] X.env=[(false,eval l X.env)]:=by exact š rfl):PI X (.Tuple elts k tp) (.Call (.Name "enumerate" p) [l] [] pos) (Xi X.K ta):=by
 intro pins s σ H R I h
 refine Call_ (eX I hg hm boot_enumerate (PyProof.Rows.callWith_type1 (ļ (ha pos pins s σ H _ I h) λus s1 ⟨vs,H1,I1,r1,q1⟩=>?_) hs rfl))
 obtain⟨a,e,⟨xs,hq⟩,q⟩:=q1
 subst e
 obtain⟨u,rfl,ru⟩:=r1.one
 cases ru
 obtain⟨its,rv,pl,hz⟩:=I1.list hq
 refine call_enumerate_list pl.isList λh' he hit hsz hk=>?_
 have I2:Inv X pins σ H1 {s1 with heap:=h'}:=I1.kept (t':=s1.toks) hk
 refine wpAny_pyIter_enum (s:={s1 with heap:=h'}) he ⟨s1.heap.objs.size+1,[s1.heap.objs.size+1,s1.heap.objs.size],_,_,H1,rfl,I2,Aa a _ _ (Nat.succ_ne_self _),⟨⟨_,he⟩,hit⟩,λb hb=>?_,q⟩
 have hb':s1.heap.objs.size<=b:=by
  rcases List.mem_cons.mp hb with rfl|hb
  ·exact Nat.le_succ _
  ·have e':b=s1.heap.objs.size:=by simpa using hb
   exact Nat.le_of_eq e'.symm
 exact I1.zy hb' (I1.hok.fresh hb')
end
def rLs(K:KK):RR (List PV) V:=λc _ _ F H items v=>∃a,v=.ref a/\(∃xs,Ř K.K H a xs)/\bB K c.L F (Qe K.K a) items
def rTs(K:KK):RR (List PV) V:=λc _ _ F H items v=>∃a,v=.ref a/\(∃xs,bx K.K H a xs)/\bB K c.L F (VB K.K a) items
def rSq(K:KK):RR (List PV) V:=λc σ ρ F H items v=>rLs K c σ ρ F H items v\/rTs K c σ ρ F H items v
def lW{K:KK}{L F:Hp}{ps:List PV}{v:V}(h:Rep K F (.lst ps) v):∃a,v=.ref a/\(∃xs,Ř K.K F a xs)/\bB K L F (Qe K.K a) ps:=by
 unfold Rep at h
 obtain⟨a,vs,rfl,e1,e2⟩:=h
 refine⟨a,rfl,⟨vs,e1⟩,?_⟩
 intro c' i F2 H2 σ2 ρ2 Ġ sF _
 have hq:Ř K.K H2 a vs:=(sF.trans Ġ.sub).seq e1
 refine⟨λp hp=>?_,λhi=>⟨vs,hq,by rw[hi,e2.length];exact Nat.le_refl _⟩⟩
 obtain⟨u,hu,ru⟩:=ŷ e2.pr hp
 refine⟨⟨vs,u,hq,hu⟩,λx H' ⟨hH,hx⟩=>?_⟩
 subst hH
 have:vs[i]?=some x:=hx vs hq
 rw[hu] at this
 cases this
 exact⟨F2,Ġ,Same.refl _,Same.refl _,Rep.same sF p u ru⟩
def Du{K:KK}{L F:Hp}{ps:List PV}{v:V}(h:Rep K F (.tup ps) v):∃a,v=.ref a/\(∃xs,bx K.K F a xs)/\bB K L F (VB K.K a) ps:=by
 unfold Rep at h
 obtain⟨a,vs,rfl,e1,e2⟩:=h
 refine⟨a,rfl,⟨vs,bx.of e1⟩,?_⟩
 intro c' i F2 H2 σ2 ρ2 Ġ sF _
 have hq:bx K.K H2 a vs:=bx.of ((sF.trans Ġ.sub) _ _ e1)
 refine⟨λp hp=>?_,λhi=>⟨vs,hq,by rw[hi,e2.length];exact Nat.le_refl _⟩⟩
 obtain⟨u,hu,ru⟩:=ŷ e2.pr hp
 refine⟨⟨vs,u,hq,hu⟩,λx H' ⟨hH,hx⟩=>?_⟩
 subst hH
 have:vs[i]?=some x:=hx vs hq
 rw[hu] at this
 cases this
 exact⟨F2,Ġ,Same.refl _,Same.refl _,Rep.same sF p u ru⟩
def Ab{K:KK}{c:Ctx}{F:Hp}{a:Addr}{vs:List V}{ps:List PV}(h2:c.L a=some (.lst vs))(h3:Ĉ K F ps vs):bB K c.L F (Qe K.K a) ps:=by
 intro c' j F2 H2 σ2 ρ2 Ġ sF sL
 have hq:Ř K.K H2 a vs:=Ř.of (sL a _ h2)
 refine⟨λp hp=>?_,λhi=>⟨vs,hq,by rw[hi,h3.length];exact Nat.le_refl _⟩⟩
 obtain⟨u,hu,ru⟩:=ŷ h3.pr hp
 refine⟨⟨vs,u,hq,hu⟩,λx H' ⟨hH,hx⟩=>?_⟩
 subst hH
 have:vs[j]?=some x:=hx vs hq
 rw[hu] at this
 cases this
 exact⟨F2,Ġ,Same.refl _,Same.refl _,Rep.same sF p u ru⟩
def bB.mono{K:KK}{L F F1:Hp}{J:It}{ps:List PV}(h:bB K L F J ps)(s:Same F F1):bB K L F1 J ps:=λc i F2 H σ ρ rel sF sL=>h c i F2 H σ ρ rel (s.trans sF) sL
def mLs(m:M PV):M (List PV):=λρ=>(m ρ).bind λp ρ1=>match p with
 | .lst ps=>.ok ps ρ1
 |_=>.bad
def vW(i:Nat):M (List PV):=λρ=>match ρ[i]? with
 |some (.bw ps)=>.ok ps ρ
 |some (.sh (.lst ps))=>.ok ps ρ
 |some (.sh (.tup ps))=>.ok ps ρ
 |some (.ow ps)=>.ok ps (ρ.set i (.sh (.lst ps)))
 |_=>.bad
section
variable{X:Cx}{cm:String->Addr}{E:L2.St->XK}{e:Expr}{m:M PV}
def Zcf(h:PE X e (tV (kk X cm) E m)):PE X e (tG (kk X cm) E (rLs (kk X cm)) (mLs m)):=PE.wk h λσ H Q ⟨c,F,ρ,rel,h⟩=>⟨c,F,ρ,rel,h.bind λp ρ1 v F1 H1 ć s1 s2 q h1=>by
 cases p with
 |lst ps=>
  obtain⟨a,e1,⟨xs,e2⟩,e3⟩:=lW (L:=c.L) (show Rep (kk X cm) F1 (.lst ps) v from q)
  exact h1 v F1 H1 ć (Same.refl _) (Same.refl _) ⟨a,e1,⟨xs,ć.sub.seq e2⟩,e3⟩
 |_=>exact h1.elim⟩
def Le(i:Nat){x:Str}{px:Pos}(hN:X.N[i]?=some x:=by rfl)(hv:sE X.env.scope x:=by first|exact Or.inl rfl|exact Or.inr (Or.inl rfl)|exact Or.inr (Or.inr rfl))(hd:(x== ("__debug__" :Str))=false:=by decide)
 (hcd:(x== ("__classdict__" :Str))=false:=by decide):PE X (.Name x px) (tG (kk X cm) E (rSq (kk X cm)) (vW i)):=PE.wk (Ů hN hv hd hcd) λσ H Q ⟨c,F,ρ,rel,h⟩=>by
 unfold vW at h
 cases e:ρ[i]? with
 |none=>rw[e] at h;exact h.elim
 |some sl=>
  rw[e] at h
  cases sl with
  |no=>exact h.elim
  |rc C ns ps=>exact h.elim
  |ot ps qs rs=>exact h.elim
  |ol Bf=>exact h.elim
  |od _ _=>exact h.elim
  |bd _ _=>exact h.elim
  |ow ps=>
   obtain⟨a,vs,z1,z2,z3,z4⟩:=rel.share e
   obtain⟨a',e1,⟨xs,e2⟩,e3⟩:=lW (L:=c.L) z3
   cases e1
   exact⟨.ref a,z1,h _ _ H z4 (Same.upd z2) (Same.refl _) (.inl ⟨a,rfl,⟨xs,z4.sub.seq e2⟩,e3⟩)⟩
  |bw ps=>
   obtain⟨a,vs,h1,h2,h3⟩:=rel.slot i _ e
   exact⟨.ref a,at_of h1,h _ F H rel (Same.refl _) (Same.refl _) (.inl ⟨a,rfl,⟨vs,Ř.of (rel.lent a _ h2).1⟩,Ab h2 h3⟩)⟩
  |sh p=>
   obtain⟨v,h1,h2⟩:=rel.slot i _ e
   cases p with
   |lst ps=>
    obtain⟨a,e1,⟨xs,e2⟩,e3⟩:=lW (L:=c.L) h2
    exact⟨v,at_of h1,h v F H rel (Same.refl _) (Same.refl _) (.inl ⟨a,e1,⟨xs,rel.sub.seq e2⟩,e3⟩)⟩
   |tup ps=>
    obtain⟨a,e1,⟨xs,e2⟩,e3⟩:=Du (L:=c.L) h2
    exact⟨v,at_of h1,h v F H rel (Same.refl _) (Same.refl _) (.inr ⟨a,e1,⟨xs,Same.tup rel.sub e2⟩,e3⟩)⟩
   |_=>exact h.elim
def cT:Nat->List PV->List PV
 |_,[]=>[]
 |k,p::ps=>.tup [.int k,p]::cT (k+1) ps
theorem pH:∀(k:Nat) (ps:List PV),(cT k ps).length=ps.length
 |_,[]=>rfl
 |k,_::ps=>congrArg (·+ 1) (pH (k+1) ps)
theorem pI:∀(k:Nat) (ps:List PV) (i:Nat),(cT k ps)[i]?=ps[i]?.map λp=>.tup [.int ((k+i:Nat):Int),p]
 |_,[],_=>rfl
 |k,p::ps,0=>rfl
 |k,p::ps,i+1=>by
  show(cT (k+1) ps)[i]?=_
  rw[pI (k+1) ps i,List.getElem?_cons_succ,show k+1+i=k+(i+1) by omega]
def Dv(m:M (List PV)):M (List PV):=λρ=>(m ρ).bind λps ρ1=>.ok (cT 0 ps) ρ1
def xX{K:KK}{c:Ctx}{F H:Hp}{σ:L2.St}{ρ:Ĳ}{T:Addr}{p q:PV}{x y:V}(rel:Rel K c F H σ ρ)(hT:H T=none)(r1:Rep K F p x)(r2:Rep K F q y):Rel K c (upd F T (.tup [x,y])) (upd H T (.tup [x,y])) σ ρ/\Rep K (upd F T (.tup [x,y])) (.tup [p,q]) (.ref T):=by
 have hF:=rel.sub.free hT
 refine⟨rel.alloc hT,?_⟩
 unfold Rep
 exact⟨T,[x,y],rfl,č,Ĉ.cons (Rep.same (Same.upd hF) p x r1) (Ĉ.cons (Rep.same (Same.upd hF) q y r2) Ĉ.nil)⟩
def Ac{K:KK}{L F:Hp}{a:Addr}{ps:List PV}(h:bB K L F (Qe K.K a) ps):bB K L F (Ite K.K a) (cT 0 ps):=by
 intro c i F2 H σ ρ rel sF sL
 obtain⟨g,st⟩:=h c i F2 H σ ρ rel sF sL
 refine⟨λp hp=>?_,λhi=>st (by rw[hi,pH])⟩
 rw[pI] at hp
 cases eq:ps[i]? with
 |none=>rw[eq] at hp;cases hp
 |some q=>
  rw[eq] at hp
  have hp':PV.tup [.int ((0+i:Nat):Int),q]=p:=Option.some.inj hp
  subst hp'
  obtain⟨⟨xs,x,hq,hx⟩,g2⟩:=g q eq
  refine⟨⟨xs,x,hq,hx⟩,λy H' ⟨x',T,h1,hT,ey,eH⟩=>?_⟩
  subst ey eH
  obtain⟨F3,fV,s3,_,rp⟩:=g2 x' H ⟨rfl,h1⟩
  obtain⟨r1,r2⟩:=xX (p:=.int i) (x:=.int i) fV hT (by unfold Rep;rfl) rp
  refine⟨_,r1,s3.trans (Same.upd (fV.sub.free hT)),Same.upd hT,?_⟩
  rw[Nat.zero_add]
  exact r2
def RJ{elts:List Expr}{k:Nat}{tp p pos:Pos}{mi:M (List PV)}(hg:Gl X "enumerate")(hm:X.mg "enumerate" =none)(hl:PE X e (tG (kk X cm) E (rLs (kk X cm)) mi))(hs:starEach [e] X.env=[(false,eval e X.env)]:=by exact š rfl) :
 PI X (.Tuple elts k tp) (.Call (.Name "enumerate" p) [e] [] pos) (tI (kk X cm) E (Dv mi)):=λpins s σ H R I h=>Jm hg hm (Ŧ hl eY hs) hs pins s σ H R I (by
 obtain⟨c,F,ρ,rel,h⟩:=h
 refine⟨c,F,ρ,rel,h.bind λps ρ1 v F1 H1 ć s1 s2 q h1=>?_⟩
 obtain⟨a,e1,e2,e3⟩:=q
 subst e1
 exact⟨a,rfl,e2,h1 _ F1 H1 ć (Same.refl _) (Same.refl _) (Ac e3)⟩)
@[simp] theorem ZaE{mi:M (List PV)}{ρ:Ĳ}:Dv mi ρ=(mi ρ).bind λps ρ1=>.ok (cT 0 ps) ρ1:=rfl
@[simp] theorem ZcN{ρ:Ĳ}:mLs m ρ=(m ρ).bind fun p ρ1=>match p with
  | .lst ps=>.ok ps ρ1
  |_=>.bad:=rfl
@[simp] theorem Zcg{i:Nat}{ρ:Ĳ}:vW i ρ=(match ρ[i]? with
  |some (.bw ps)=>.ok ps ρ
  |some (.sh (.lst ps))=>.ok ps ρ
  |some (.sh (.tup ps))=>.ok ps ρ
  |some (.ow ps)=>.ok ps (ρ.set i (.sh (.lst ps)))
  |_=>.bad):=rfl
end
end P
namespace P
open PySem PySem.Spec PyProof.Rows L2 M2 M3 M4
section
variable{X:Cx}{cm:String->Addr}{E:L2.St->XK}{e a b:Expr}{m ma mb:M PV}{pos:Pos}
end
section
variable{X:Cx}{K:KK}
end
end P
namespace P
open PySem PySem.Spec PyProof.Rows L2 M2 M3 M4
section
variable{prog:Program}{w:World}{A:Around}{E:Value->Shared->Prop}{s:Shared}
def gA{it l:Addr}{i:Nat}{items}{x:Value}{Q:Value->Shared->Prop}(hit:s.heap.IsTupleIter it l i)
 (hl:s.heap.IsTuple l items)(hx:items[i]?=some x)
 (hQ:∀h',h'.IsTupleIter it l (i+1)->Heap.SameBut it s.heap h'->Q x {s with heap:=h'}) :
 wpAny (model prog w) A (Builtin.SmallTypes.nextOf (.ref it)) Q E s:=by
 obtain⟨o,ho,hc,hd⟩:=id hit
 obtain⟨ol,hol,_,nl,hdl⟩:=hl
 unfold Builtin.SmallTypes.nextOf
 refine wpAny_bind (wpAny_callSpecial?_slot (name:=Str.ofString "__next__") hit.typeIs F.slot_tuple_iterator_next
  (wpAny_call_entry F.slot_tuple_iterator_next hit.typeIs F.entry_tuple_iterator_next ?_ (F.args_tuple_iterator_next_1 _)))
 show wpAny _ _ (field (.ref it) 0 >>= _) _ _ s
 refine wpAny_bind (wpAny_field ho hd (x:=.ref l) rfl ?_)
 show wpAny _ _ (if(Value.ref l== Value.none)=true then _ else _) _ _ s
 rw[if_neg (show ¬((Value.ref l== Value.none)=true) from Bool.false_ne_true)]
 show wpAny _ _ (field (.ref it) 1 >>= _) _ _ s
 refine wpAny_bind (wpAny_field ho hd (x:=.int i 0) rfl ?_)
 show wpAny _ _ (seqItems? (.ref l) >>= _) _ _ s
 refine wpAny_bind (wpAny_seqItems hol hdl ?_)
 simp only[Int.toNat_natCast,hx]
 refine wpAny_bind (wpAny_setField ho hd (by simp) (wpAny_pure ⟨x,rfl,wpAny_pure (hQ _ ?_ (Heap.SameBut.update ..))⟩))
 exact⟨_,Heap.get?_update_self _ ho (Obj.isFreed_of_fields (Obj.data_mapFields hd _)),(Obj.cls_mapFields ..).trans hc,by
  rw[Obj.data_mapFields hd];simp[rawInt]⟩
def iG{it l:Addr}{i:Nat}{items}{Q:Value->Shared->Prop}(hh:A.handled=none)
 (hit:s.heap.IsTupleIter it l i)(hl:s.heap.IsTuple l items)(hx:items[i]?=none)
 (hE:∀h' e,Heap.ExtBut it s.heap h'->(∃o,h'.get? e=some o/\o.cls=.type "StopIteration")->E (.ref e) {s with heap:=h'}) :
 wpAny (model prog w) A (Builtin.SmallTypes.nextOf (.ref it)) Q E s:=by
 obtain⟨o,ho,hc,hd⟩:=id hit
 obtain⟨ol,hol,_,nl,hdl⟩:=hl
 unfold Builtin.SmallTypes.nextOf
 refine wpAny_bind (wpAny_callSpecial?_slot (name:=Str.ofString "__next__") hit.typeIs F.slot_tuple_iterator_next
  (wpAny_call_entry F.slot_tuple_iterator_next hit.typeIs F.entry_tuple_iterator_next ?_ (F.args_tuple_iterator_next_1 _)))
 show wpAny _ _ (field (.ref it) 0 >>= _) _ _ s
 refine wpAny_bind (wpAny_field ho hd (x:=.ref l) rfl ?_)
 show wpAny _ _ (if(Value.ref l== Value.none)=true then _ else _) _ _ s
 rw[if_neg (show ¬((Value.ref l== Value.none)=true) from Bool.false_ne_true)]
 show wpAny _ _ (field (.ref it) 1 >>= _) _ _ s
 refine wpAny_bind (wpAny_field ho hd (x:=.int i 0) rfl ?_)
 show wpAny _ _ (seqItems? (.ref l) >>= _) _ _ s
 refine wpAny_bind (wpAny_seqItems hol hdl ?_)
 simp only[Int.toNat_natCast,hx]
 refine wpAny_bind (wpAny_rule (wpAny_bind (wpAny_setField ho hd (by simp) ?_)))
 show wpAny _ _ (newExc (.type "StopIteration") [] >>= _) _ _ _
 refine wpAny_bind ?_
 simp only[newExc,newTuple]
 refine wpAny_bind (wpAny_newObj_type ?_ (by size_fits))
 refine wpAny_bind (m:=firstArgMember _ _) (wpAny_of_eq (a:=Value.none) (by first|rfl|(simp only[firstArgMember];rfl)) ?_)
 refine wpAny_newObj_type ?_ (by size_fits)
 simp only[raiseNew]
 refine wpAny_bind (wpAny_handled ?_)
 first|rw[show A.in1.handled=none from hh]|rw[hh]
 refine wpAny_bind (wpAny_pure (wpAny_throw ?_))
 exact hE _ _ (((Heap.SameBut.update ..).extBut.push _).push _) ⟨_,Heap.get?_push_size _ rfl,rfl⟩
end
def ug{prog:Program}{w:World}{A:Around}(hh:A.handled=none)(it l:Addr)(hne:l≠it)(items:Array Value) :
 Draws prog w A it [it,l] items.size (λi v=>items[i]?=some v) (λi h=>h.IsTupleIter it l i/\h.IsTuple l items) where
 live:=λ_ _ st=>let ⟨o,ho,_⟩:=st.1;⟨o,ho⟩
 frame:=λ_ _ _ st hk=>⟨let ⟨o,ho,r⟩:=st.1;⟨o,hk it (by simp) o ho,r⟩,let ⟨o,ho,r⟩:=st.2;⟨o,hk l (by simp) o ho,r⟩⟩
 item:=λi s Q E hi st hQ=>by
  refine gA st.1 st.2 (x:=items[i]) (by simp[hi]) λh' hit' hs'=>?_
  exact hQ _ h' s.toks (by simp[hi]) ⟨hit',st.2.extBut hs'.extBut hne⟩ hs'
 done:=λs Q E st hE=>iG hh st.1 st.2 (by simp) hE
structure Vb(z TI TO i1 i2:Addr)(f1 f2:List Addr):Prop where
 TIz:TI≠z
 TOz:TO≠z
 i1z:i1≠z
 i2z:i2≠z
 TITO:TI≠TO
 TIi1:TI≠i1
 TIi2:TI≠i2
 TOi1:TO≠i1
 TOi2:TO≠i2
 i12:i1≠i2
 z1:z∉f1
 z2:z∉f2
 t1:TO∉f1
 t2:TO∉f2
 a1:i1∉f2
 a2:i2∉f1
section
variable{prog:Program}{w:World}{A:Around}{E:Value->Shared->Prop}{s:Shared}
def lX{z TI TO i1 i2:Addr}{f1 f2:List Addr}{n1 n2 k1 k2:Nat}{P1 P2:Nat->Value->Prop}{S1 S2:Nat->Heap->Prop}{a b:Value}{Q:Value->Shared->Prop}(D:Vb z TI TO i1 i2 f1 f2)
 (D1:Draws prog w A i1 f1 n1 P1 S1)(D2:Draws prog w A i2 f2 n2 P2 S2)
 (hz:IsZip s.heap z TI TO .none)(hTI:IsPair s.heap TI (.ref i1) (.ref i2))(hTO:IsPair s.heap TO a b)(h1:S1 k1 s.heap)(h2:S2 k2 s.heap)(hk1:k1<n1)(hk2:k2<n2)
 (hQ:∀x y h' tk,P1 k1 x→P2 k2 y→IsZip h' z TI TO (rawInt s.heap.objs.size)→IsPair h' TO x y→S1 (k1+1) h'→S2 (k2+1) h'→IsPair h' s.heap.objs.size x y→h'.objs.size=s.heap.objs.size+1→
   (∀c o,c≠z->c≠TO->c≠i1->c≠i2->s.heap.get? c=some o->h'.get? c=some o)->Q (.ref s.heap.objs.size) {s with heap:=h',toks:=tk}) :
 wpAny (model prog w) A (Builtin.«zip.__next__» ⟨[.ref z],[]⟩) (λfin s'=>∃v,fin=.done (.ret v)/\Q v s') E s:=by
 have Lf:∀{b},b∈f1->b≠z/\b≠TO/\b≠i2:=λhb=>⟨λe=>D.z1 (e▸hb),λe=>D.t1 (e▸hb),λe=>D.a2 (e▸hb)⟩
 have Jo:∀{b},b∈f2->b≠z/\b≠TO/\b≠i1:=λhb=>⟨λe=>D.z2 (e▸hb),λe=>D.t2 (e▸hb),λe=>D.a1 (e▸hb)⟩
 obtain⟨hp,g,d,tk0,os⟩:=s
 show wpAny _ _ (field (.ref z) 2 >>= _) _ _ _
 refine wpAny_bind (wpAny_field hz rfl (x:=.bool false) rfl ?_)
 show wpAny _ _ (field (.ref z) 3 >>= _) _ _ _
 refine wpAny_bind (wpAny_field hz rfl (x:=.ref TI) rfl ?_)
 refine wpAny_bind (wpAny_seqItems hTI rfl ?_)
 show wpAny _ _ (Builtin.SmallTypes.ownedTupleIsFree (.ref z) >>= _) _ _ _
 refine wpAny_bind ?_
 unfold Builtin.SmallTypes.ownedTupleIsFree
 refine wpAny_bind (wpAny_field hz rfl (x:=.none) rfl (wpAny_pure ?_))
 simp only[if_true]
 refine wpAny_bind (wpAny_rule ?_)
 refine wpAny_bind (wpAny_field hz rfl (x:=.ref TO) rfl ?_)
 refine wpAny_bind (wpAny_setField_rec hz (by simp) λh₁ hz₁ hs₁=>?_)
 replace hs₁:Heap.SameBut z hp h₁:= hs₁
 replace hz₁:IsZip h₁ z TI TO .ellipsis:=hz₁
 refine wpAny_bind ?_
 simp only[List.zipIdx_cons,List.zipIdx_nil,List.forIn_cons,List.forIn_nil]
 refine wpAny_bind (wpAny_bind (wpAny_onRaise ?_))
 show wpAny _ _ (Builtin.SmallTypes.nextOf (.ref i1) >>= _) _ _ _
 refine wpAny_bind (D1.item k1 _ _ _ hk1 (D1.frame _ _ _ h1 λb hb o e=>hs₁.extBut b o (Lf hb).1 e) λx h₂ tk hPx h1₂ hs₂=>wpAny_pure ?_)
 replace hs₂:Heap.SameBut i1 h₁ h₂:= hs₂
 have hTO₂:IsPair h₂ TO a b:=hs₂.extBut _ _ D.TOi1 (hs₁.extBut _ _ D.TOz hTO)
 refine wpAny_bind (wpAny_seqItems hTO₂ rfl ?_)
 refine wpAny_bind (wpAny_updateSeq_pair hTO₂ λh₃ hTO₃ hs₃=>?_)
 replace hs₃:Heap.SameBut TO h₂ h₃:= hs₃
 replace hTO₃:IsPair h₃ TO x b:=hTO₃
 refine wpAny_bind (wpAny_letGo (wpAny_pure ?_))
 refine wpAny_bind (wpAny_bind (wpAny_onRaise ?_))
 show wpAny _ _ (Builtin.SmallTypes.nextOf (.ref i2) >>= _) _ _ _
 refine wpAny_bind (D2.item k2 _ _ _ hk2 (D2.frame _ _ _ h2 λb hb o e=>hs₃.extBut b o (Jo hb).2.1 (hs₂.extBut b o (Jo hb).2.2 (hs₁.extBut b o (Jo hb).1 e))) λy h₄ tk' hPy h2₄ hs₄=>wpAny_pure ?_)
 replace hs₄:Heap.SameBut i2 h₃ h₄:= hs₄
 have hTO₄:IsPair h₄ TO x b:=hs₄.extBut _ _ D.TOi2 hTO₃
 refine wpAny_bind (wpAny_seqItems hTO₄ rfl ?_)
 refine wpAny_bind (wpAny_updateSeq_pair hTO₄ λh₅ hTO₅ hs₅=>?_)
 replace hs₅:Heap.SameBut TO h₄ h₅:= hs₅
 replace hTO₅:IsPair h₅ TO x y:=hTO₅
 refine wpAny_bind (wpAny_letGo (wpAny_pure (wpAny_pure ?_)))
 refine wpAny_bind (wpAny_seqItems hTO₅ rfl ?_)
 refine wpAny_bind (wpAny_newTuple ?_)
 have hsz:h₅.objs.size=hp.objs.size:=by rw[hs₅.1,hs₄.1,hs₃.1,hs₂.1,hs₁.1]
 have hz₅:IsZip h₅ z TI TO .ellipsis:=hs₅.extBut _ _ D.TOz.symm (hs₄.extBut _ _ D.i2z.symm (hs₃.extBut _ _ D.TOz.symm (hs₂.extBut _ _ D.i1z.symm hz₁)))
 have hk₅:∀c o,c≠z->c≠TO->c≠i1->c≠i2->hp.get? c=some o->h₅.get? c=some o:=λc o c1 c2 c3 c4 e=>
  hs₅.extBut _ _ c2 (hs₄.extBut _ _ c4 (hs₃.extBut _ _ c2 (hs₂.extBut _ _ c3 (hs₁.extBut _ _ c1 e))))
 have h1₅:S1 (k1+1) h₅:= D1.frame _ _ _ h1₂ λb hb o e=>hs₅.extBut b o (Lf hb).2.1 (hs₄.extBut b o (Lf hb).2.2 (hs₃.extBut b o (Lf hb).2.1 e))
 have h2₅:S2 (k2+1) h₅:= D2.frame _ _ _ h2₄ λb hb o e=>hs₅.extBut b o (Jo hb).2.1 e
 have hzlt:z<h₅.objs.size:=Heap.lt_size hz₅
 show wpAny _ _ (Builtin.SmallTypes.ownedTupleHandOut (.ref z) (.ref h₅.objs.size) >>= _) _ _ _
 refine wpAny_bind ?_
 unfold Builtin.SmallTypes.ownedTupleHandOut
 have hz₆:IsZip (h₅.push {cls:=.type "tuple",data:=.seq #[x,y]}) z TI TO .ellipsis:=Heap.get?_push_of_some _ hz₅
 refine wpAny_bind (wpAny_setField_rec hz₆ (by simp) λh₇ hz₇ hs₇=>?_)
 replace hz₇:IsZip h₇ z TI TO (rawInt h₅.objs.size):=hz₇
 refine wpAny_setField_rec hz₇ (by simp) λh₈ hz₈ hs₈=>?_
 replace hz₈:IsZip h₈ z TI TO (rawInt h₅.objs.size):=hz₈
 have up:∀c o,c≠z->h₅.get? c=some o->h₈.get? c=some o:=λc o c1 e=>hs₈.extBut _ _ c1 (hs₇.extBut _ _ c1 (Heap.get?_push_of_some _ e))
 have hT₈:IsPair h₈ h₅.objs.size x y:=hs₈.extBut _ _ (Nat.ne_of_gt hzlt) (hs₇.extBut _ _ (Nat.ne_of_gt hzlt) (Heap.get?_push_size _ rfl))
 have hz8:h₈.objs.size=h₅.objs.size+1:=by rw[hs₈.1,hs₇.1,Heap.size_push]
 rw[hsz] at hz₈ hT₈ hz8
 refine wpAny_pure ⟨_,rfl,?_⟩
 show Q (.ref h₅.objs.size) _
 rw[hsz]
 exact hQ x y h₈ tk' hPx hPy hz₈ (up _ _ D.TOz hTO₅) (D1.frame _ _ _ h1₅ λb hb o e=>up b o (Lf hb).1 e) (D2.frame _ _ _ h2₅ λb hb o e=>up b o (Jo hb).1 e) hT₈ hz8 λc o c1 c2 c3 c4 e=>up c o c1 (hk₅ c o c1 c2 c3 c4 e)
def ou{z TI TO i1 i2:Addr}{f1 f2:List Addr}{n1 n2 k1 k2:Nat}{P1 P2:Nat->Value->Prop}{S1 S2:Nat->Heap->Prop}{a b:Value}{Q:Fin->Shared->Prop}(D:Vb z TI TO i1 i2 f1 f2)
 (D1:Draws prog w A i1 f1 n1 P1 S1)(D2:Draws prog w A i2 f2 n2 P2 S2)
 (hz:IsZip s.heap z TI TO .none)(hTI:IsPair s.heap TI (.ref i1) (.ref i2))(hTO:IsPair s.heap TO a b)(h1:S1 k1 s.heap)(h2:S2 k2 s.heap)(hend:k1=n1\/(k1<n1/\k2=n2))
 (hE:∀h' e tk,(∀c o,c≠z->c≠TO->c≠i1->c≠i2->s.heap.get? c=some o->h'.get? c=some o)->(∃o,h'.get? e=some o/\o.cls=.type "StopIteration")->E (.ref e) {s with heap:=h',toks:=tk}) :
 wpAny (model prog w) A (Builtin.«zip.__next__» ⟨[.ref z],[]⟩) Q E s:=by
 have Lf:∀{b},b∈f1->b≠z/\b≠TO/\b≠i2:=λhb=>⟨λe=>D.z1 (e▸hb),λe=>D.t1 (e▸hb),λe=>D.a2 (e▸hb)⟩
 have Jo:∀{b},b∈f2->b≠z/\b≠TO/\b≠i1:=λhb=>⟨λe=>D.z2 (e▸hb),λe=>D.t2 (e▸hb),λe=>D.a1 (e▸hb)⟩
 obtain⟨hp,g,d,tk0,os⟩:=s
 show wpAny _ _ (field (.ref z) 2 >>= _) _ _ _
 refine wpAny_bind (wpAny_field hz rfl (x:=.bool false) rfl ?_)
 show wpAny _ _ (field (.ref z) 3 >>= _) _ _ _
 refine wpAny_bind (wpAny_field hz rfl (x:=.ref TI) rfl ?_)
 refine wpAny_bind (wpAny_seqItems hTI rfl ?_)
 show wpAny _ _ (Builtin.SmallTypes.ownedTupleIsFree (.ref z) >>= _) _ _ _
 refine wpAny_bind ?_
 unfold Builtin.SmallTypes.ownedTupleIsFree
 refine wpAny_bind (wpAny_field hz rfl (x:=.none) rfl (wpAny_pure ?_))
 simp only[if_true]
 refine wpAny_bind (wpAny_rule ?_)
 refine wpAny_bind (wpAny_field hz rfl (x:=.ref TO) rfl ?_)
 refine wpAny_bind (wpAny_setField_rec hz (by simp) λh₁ hz₁ hs₁=>?_)
 replace hs₁:Heap.SameBut z hp h₁:= hs₁
 replace hz₁:IsZip h₁ z TI TO .ellipsis:=hz₁
 refine wpAny_bind ?_
 simp only[List.zipIdx_cons,List.zipIdx_nil,List.forIn_cons,List.forIn_nil]
 refine wpAny_bind (wpAny_bind (wpAny_onRaise ?_))
 show wpAny _ _ (Builtin.SmallTypes.nextOf (.ref i1) >>= _) _ _ _
 rcases hend with rfl|⟨hk1,rfl⟩
 ·refine wpAny_bind (D1.done _ _ _ (D1.frame _ _ _ h1 λb hb o e=>hs₁.extBut b o (Lf hb).1 e) λh₂ e hs₂ he=>?_)
  obtain⟨oe,hoe,hce⟩:=he
  replace hs₂:Heap.ExtBut i1 h₁ h₂:= hs₂
  have hz₂:IsZip h₂ z TI TO .ellipsis:=hs₂ _ _ D.i1z.symm hz₁
  have hez:e≠z:=λx=>by subst x;rw[hz₂] at hoe;cases hoe;simp at hce
  exact wpAny_setField_rec hz₂ (by simp) λh₃ _ hs₃=>hE h₃ e tk0 (λc o c1 _ c3 _ x=>hs₃.extBut _ _ c1 (hs₂ _ _ c3 (hs₁.extBut _ _ c1 x))) ⟨oe,hs₃.extBut _ _ hez hoe,hce⟩
 ·refine wpAny_bind (D1.item k1 _ _ _ hk1 (D1.frame _ _ _ h1 λb hb o e=>hs₁.extBut b o (Lf hb).1 e) λx h₂ tk hPx h1₂ hs₂=>wpAny_pure ?_)
  replace hs₂:Heap.SameBut i1 h₁ h₂:= hs₂
  have hTO₂:IsPair h₂ TO a b:=hs₂.extBut _ _ D.TOi1 (hs₁.extBut _ _ D.TOz hTO)
  refine wpAny_bind (wpAny_seqItems hTO₂ rfl ?_)
  refine wpAny_bind (wpAny_updateSeq_pair hTO₂ λh₃ hTO₃ hs₃=>?_)
  replace hs₃:Heap.SameBut TO h₂ h₃:= hs₃
  refine wpAny_bind (wpAny_letGo (wpAny_pure ?_))
  refine wpAny_bind (wpAny_bind (wpAny_onRaise ?_))
  show wpAny _ _ (Builtin.SmallTypes.nextOf (.ref i2) >>= _) _ _ _
  refine wpAny_bind (D2.done _ _ _ (D2.frame _ _ _ h2 λb hb o e=>hs₃.extBut b o (Jo hb).2.1 (hs₂.extBut b o (Jo hb).2.2 (hs₁.extBut b o (Jo hb).1 e))) λh₄ e hs₄ he=>?_)
  obtain⟨oe,hoe,hce⟩:=he
  replace hs₄:Heap.ExtBut i2 h₃ h₄:= hs₄
  have hz₄:IsZip h₄ z TI TO .ellipsis:=hs₄ _ _ D.i2z.symm (hs₃.extBut _ _ D.TOz.symm (hs₂.extBut _ _ D.i1z.symm hz₁))
  have hez:e≠z:=λx=>by subst x;rw[hz₄] at hoe;cases hoe;simp at hce
  exact wpAny_setField_rec hz₄ (by simp) λh₅ _ hs₅=>hE h₅ e tk (λc o c1 c2 c3 c4 x=>hs₅.extBut _ _ c1 (hs₄ _ _ c4 (hs₃.extBut _ _ c2 (hs₂.extBut _ _ c3 (hs₁.extBut _ _ c1 x))))) ⟨oe,hs₅.extBut _ _ hez hoe,hce⟩
end
section
variable{prog:Program}{w:World}{A:Around}{E:Value->Shared->Prop}{s:Shared}
def iH{z TI TO i1 i2:Addr}{f1 f2:List Addr}{n1 n2 k1 k2:Nat}{P1 P2:Nat->Value->Prop}{S1 S2:Nat->Heap->Prop}{a b:Value}{Q:Option Value->Shared->Prop}(D:Vb z TI TO i1 i2 f1 f2)
 (D1:Draws prog w A.in1 i1 f1 n1 P1 S1)(D2:Draws prog w A.in1 i2 f2 n2 P2 S2)
 (hz:IsZip s.heap z TI TO .none)(hTI:IsPair s.heap TI (.ref i1) (.ref i2))(hTO:IsPair s.heap TO a b)(h1:S1 k1 s.heap)(h2:S2 k2 s.heap)(hk1:k1<n1)(hk2:k2<n2)
 (hQ:∀x y h' tk,P1 k1 x→P2 k2 y→IsZip h' z TI TO (rawInt s.heap.objs.size)→IsPair h' TO x y→S1 (k1+1) h'→S2 (k2+1) h'→IsPair h' s.heap.objs.size x y→h'.objs.size=s.heap.objs.size+1→
   (∀c o,c≠z->c≠TO->c≠i1->c≠i2->s.heap.get? c=some o->h'.get? c=some o)->Q (some (.ref s.heap.objs.size)) {s with heap:=h',toks:=tk}) :
 wpAny (model prog w) A (pyNext (.ref z)) Q E s:=by
 have hT:s.TypeIs (.ref z) "zip" := ⟨_,hz,rfl⟩
 unfold pyNext
 exact wpAny_bind (wpAny_attempt (wpAny_callSpecial?_slot (name:=Str.ofString "__next__") hT F.slot_zip_next
  (wpAny_call_entry F.slot_zip_next hT F.entry_zip_next
    (lX D D1 D2 hz hTI hTO h1 h2 hk1 hk2 λx y h' tk a0 b0 a1 a2 a3 a4 a5 a6 a7=>wpAny_pure (hQ x y h' tk a0 b0 a1 a2 a3 a4 a5 a6 a7)) (F.args_zip_next_1 _))))
def jK{z TI TO i1 i2:Addr}{f1 f2:List Addr}{n1 n2 k1 k2:Nat}{P1 P2:Nat->Value->Prop}{S1 S2:Nat->Heap->Prop}{a b:Value}{Q:Option Value->Shared->Prop}(D:Vb z TI TO i1 i2 f1 f2)
 (D1:Draws prog w A.in1 i1 f1 n1 P1 S1)(D2:Draws prog w A.in1 i2 f2 n2 P2 S2)
 (hz:IsZip s.heap z TI TO .none)(hTI:IsPair s.heap TI (.ref i1) (.ref i2))(hTO:IsPair s.heap TO a b)(h1:S1 k1 s.heap)(h2:S2 k2 s.heap)(hend:k1=n1\/(k1<n1/\k2=n2))
 (hQ:∀h' tk,(∀c o,c≠z->c≠TO->c≠i1->c≠i2->s.heap.get? c=some o->h'.get? c=some o)->Q none {s with heap:=h',toks:=tk}):wpAny (model prog w) A (pyNext (.ref z)) Q E s:=by
 have hT:s.TypeIs (.ref z) "zip" := ⟨_,hz,rfl⟩
 unfold pyNext
 refine wpAny_bind (wpAny_attempt (wpAny_callSpecial?_slot (name:=Str.ofString "__next__") hT F.slot_zip_next
  (wpAny_call_entry F.slot_zip_next hT F.entry_zip_next (ou D D1 D2 hz hTI hTO h1 h2 hend λh' e tk hk he=>?_) (F.args_zip_next_1 _))))
 obtain⟨o,ho,hc⟩:=he
 refine wpAny_bind (wpAny_isInstance (T:= "StopIteration") (b:=true) ⟨o,ho,hc⟩ isSubtype_stop ?_)
 exact wpAny_pure (hQ _ _ hk)
end
def nT(K:PySem.W.Frag)(b:Bool)(H:Hp)(a:Addr)(xs:List V):Prop:=if b=true then bx K H a xs else Ř K H a xs
def cu(b:Bool)(h:Heap)(it l:Addr)(i:Nat):Prop:=if b=true then h.IsTupleIter it l i else h.IsListIter it l i
def Ad(b:Bool)(h:Heap)(l:Addr)(its:Array Value):Prop:=if b=true then h.IsTuple l its else h.IsList l its
def Vc(b:Bool):String:=if b=true then "tuple_iterator" else "list_iterator"
def j_{prog:Program}{w:World}{A:Around}(b:Bool)(hh:A.handled=none)(it l:Addr)(hne:l≠it)(items:Array Value) :
 Draws prog w A it [it,l] items.size (λi v=>items[i]?=some v) (λi h=>cu b h it l i/\Ad b h l items):=by
 cases b with
 |true=>exact ug hh it l hne items
 |false=>exact Draws.list hh it l hne items
def cu.ex{b:Bool}{h:Heap}{it l:Addr}{i:Nat}(x:cu b h it l i):∃o,h.get? it=some o/\o.cls=.type (Vc b)/\o.data=.fields #[.ref l,.int i 0]:=by
 cases b with
 |true=>exact x
 |false=>exact x
def cu.of{b:Bool}{h:Heap}{it l:Addr}{i:Nat}{o:Obj}(h1:h.get? it=some o)(h2:o.cls=.type (Vc b))(h3:o.data=.fields #[.ref l,.int i 0]):cu b h it l i:=by
 cases b with
 |true=>exact⟨o,h1,h2,h3⟩
 |false=>exact⟨o,h1,h2,h3⟩
def cu.keep{b:Bool}{h h':Heap}{it l:Addr}{i:Nat}(x:cu b h it l i)(k:∀o,h.get? it=some o->h'.get? it=some o):cu b h' it l i:=by
 obtain⟨o,h1,h2,h3⟩:=x.ex
 exact .of (k o h1) h2 h3
def Jp(K:PySem.W.Frag)(b:Bool)(H:Hp)(l:Addr)(i:Nat)(xs:List V):Prop:=xs.length<=i/\∀j,j<i->∃ys y,nT K b H l ys/\ys[j]?=some y
def Itz(K:PySem.W.Frag)(b1 b2:Bool)(l1 l2:Addr):It:=
 ⟨λi H=>(∃xs x,nT K b1 H l1 xs/\xs[i]?=some x)/\∃ys y,nT K b2 H l2 ys/\ys[i]?=some y,
  λi H z H'=>∃x y T,(∀xs,nT K b1 H l1 xs->xs[i]?=some x)/\(∀ys,nT K b2 H l2 ys->ys[i]?=some y)/\H T=none/\z=.ref T/\H'=upd H T (.tup [x,y]),
  λi H=>(∃xs,nT K b1 H l1 xs)/\(∃ys,nT K b2 H l2 ys)/\((∃xs,nT K b1 H l1 xs/\Jp K b1 H l1 i xs)\/((∃xs x,nT K b1 H l1 xs/\xs[i]?=some x)/\∃ys,nT K b2 H l2 ys/\Jp K b2 H l2 i ys))⟩
section
variable{X:Cx}{pins:List (Addr×Obj)}{σ:L2.St}{H:Hp}{s:Shared}
def pJ{b:Bool}{a:Addr}{xs:List V}(I:Inv X pins σ H s)(h:nT X.K b H a xs):∃its:List Value,Vals xs its/\Ad b s.heap a its.toArray/\xs.length<=sizeLine:=by
 cases b with
 |true=>
  obtain⟨its,r,p,z⟩:=I.tuple h
  exact⟨its,r,p,z⟩
 |false=>
  obtain⟨its,r,p,z⟩:=I.list h
  exact⟨its,r,p.isList,z⟩
def pK{b:Bool}{a:Addr}{xs ys:List V}(I:Inv X pins σ H s)(h:nT X.K b H a xs)(h':nT X.K b H a ys):xs=ys:=by
 cases b with
 |true=>exact I.oR h h'
 |false=>exact I.kY h h'
def Lg{b:Bool}{l:Addr}{i:Nat}{xs:List V}(I:Inv X pins σ H s)(h:nT X.K b H l xs)(q:Jp X.K b H l i xs):xs.length=i:=by
 obtain⟨h1,h2⟩:=q
 refine Nat.le_antisymm h1 ?_
 cases i with
 |zero=>omega
 |succ i=>
  obtain⟨ys,y,e1,e2⟩:=h2 i (by omega)
  rw[pK I e1 h] at e2
  have:=(List.getElem?_eq_some_iff.mp e2).1
  omega
def xY{bb:Bool}{a b:Addr}{xs:List V}(I:Inv X pins σ H s)(f:cL X pins H b)(h:nT X.K bb H a xs):a≠b:=by
 intro e
 subst e
 have hk:∀o,X.K.lookup a=some o->False:=λo e=>by
  have hb:=I.ok.mod.Vp a o e
  rcases f.2.2.2.1 with z|z
  ·exact I.ok.zx a o hb z
  ·exact absurd (Nat.lt_of_lt_of_le (Heap.lt_size (I.ok.bs a o hb).1) z) (Nat.lt_irrefl _)
 have hr:∀u,Rd H a u->False:=λu r=>by
  rcases r with r|⟨o,r⟩<;>(rw[f.1] at r;cases r)
 cases bb with
 |true=>
  have h':bx X.K H a xs:=h
  rcases h' with q|⟨o,_,_,q,_⟩
  ·exact hr _ q
  ·exact hk o q
 |false=>
  have h':Ř X.K H a xs:=h
  rcases h' with q|⟨o,_,_,q,_⟩
  ·exact hr _ q
  ·exact hk o q
end
def Dw{P:Program}{w:World}{K:PySem.W.Frag}{elts:List Expr}{k:Nat}{pos:Pos}(b1 b2:Bool)(l1 l2 z TI TO i1 i2:Addr)(nd:[z,TI,TO,i1,i2].Nodup) :
 Turn P w K (.Tuple elts k pos) (Itz K b1 b2 l1 l2) [z,TI,TO,i1,i2] z (λi h=>IsZip h z TI TO .none/\IsPair h TI (.ref i1) (.ref i2)/\(∃a b,IsPair h TO a b)/\cu b1 h i1 l1 i/\cu b2 h i2 l2 i) where
 mem:=by simp
 obj:=λi h st b hb=>by
  obtain⟨hz,hTI,⟨x,y,hTO⟩,h1,h2⟩:=st
  simp only[List.mem_cons,List.not_mem_nil,or_false] at hb
  rcases hb with rfl|rfl|rfl|rfl|rfl
  ·exact⟨_,hz,λv z=>by have z':Data.fields _=Data.cell v:=z;cases z'⟩
  ·exact⟨_,hTI,λv z=>by have z':Data.seq _ _=Data.cell v:=z;cases z'⟩
  ·exact⟨_,hTO,λv z=>by have z':Data.seq _ _=Data.cell v:=z;cases z'⟩
  ·obtain⟨o,e1,c,d⟩:=h1.ex
   exact⟨o,e1,λv z=>by rw[d] at z;cases z⟩
  ·obtain⟨o,e1,c,d⟩:=h2.ex
   exact⟨o,e1,λv z=>by rw[d] at z;cases z⟩
 keep:=λi h h' st k=>by
  obtain⟨hz,hTI,⟨x,y,hTO⟩,h1,h2⟩:=st
  exact⟨k z (by simp) _ hz,k TI (by simp) _ hTI,⟨x,y,k TO (by simp) _ hTO⟩,h1.keep λo q=>k i1 (by simp) o q,h2.keep λo q=>k i2 (by simp) o q⟩
 item:=by
  intro X hP hw hK hc i pins s σ H E I hf st hg
  subst hP hw hK
  obtain⟨hz,hTI,⟨a,b,hTO⟩,h1,h2⟩:=st
  obtain⟨⟨xs,x,hq1,hx⟩,ys,y,hq2,hy⟩:=hg
  obtain⟨vX,rv1,p1,_⟩:=pJ I hq1
  obtain⟨its2,rv2,p2,_⟩:=pJ I hq2
  obtain⟨u1,hu1,ru1⟩:=rv1.get hx
  obtain⟨u2,hu2,ru2⟩:=rv2.get hy
  have ne1:∀b∈[z,TI,TO,i1,i2],l1≠b:=λb hb=>xY I (hf b hb) hq1
  have ne2:∀b∈[z,TI,TO,i1,i2],l2≠b:=λb hb=>xY I (hf b hb) hq2
  have hh:X.A.in1.handled=none:=I.ok.hd hc
  simp only[List.nodup_cons,List.mem_cons,List.not_mem_nil,or_false,not_or,List.nodup_nil,not_false_eq_true,and_true] at nd
  obtain⟨⟨n1,n2,n3,n4⟩,⟨n5,n6,n7⟩,⟨n8,n9⟩,n10⟩:=nd
  have D:Vb z TI TO i1 i2 [i1,l1] [i2,l2]:=by
   refine⟨Ne.symm n1,Ne.symm n2,Ne.symm n3,Ne.symm n4,n5,n6,n7,n8,n9,n10,?_,?_,?_,?_,?_,?_⟩<;>simp only[List.mem_cons,List.not_mem_nil,or_false,not_or]
   ·exact⟨n3,(ne1 z (by simp)).symm⟩
   ·exact⟨n4,(ne2 z (by simp)).symm⟩
   ·exact⟨n8,(ne1 TO (by simp)).symm⟩
   ·exact⟨n9,(ne2 TO (by simp)).symm⟩
   ·exact⟨n10,(ne2 i1 (by simp)).symm⟩
   ·exact⟨Ne.symm n10,(ne1 i2 (by simp)).symm⟩
  have lt1:i<vX.toArray.size:=by
   rw[List.size_toArray]
   exact(List.getElem?_eq_some_iff.mp hu1).1
  have Cq:i<its2.toArray.size:=by
   rw[List.size_toArray]
   exact(List.getElem?_eq_some_iff.mp hu2).1
  have hlt:∀b∈[z,TI,TO,i1,i2],b<s.heap.objs.size:=λb hb=>by
   simp only[List.mem_cons,List.not_mem_nil,or_false] at hb
   rcases hb with rfl|rfl|rfl|rfl|rfl
   ·exact Heap.lt_size hz
   ·exact Heap.lt_size hTI
   ·exact Heap.lt_size hTO
   ·obtain⟨o,e1,_⟩:=h1.ex;exact Heap.lt_size e1
   ·obtain⟨o,e1,_⟩:=h2.ex;exact Heap.lt_size e1
  refine iH D (j_ (A:=X.A.in1) b1 hh i1 l1 (ne1 i1 (by simp)) vX.toArray) (j_ (A:=X.A.in1) b2 hh i2 l2 (ne2 i2 (by simp)) its2.toArray) hz hTI hTO ⟨h1,p1⟩ ⟨h2,p2⟩ lt1 Cq λx' y' h' tk hPx hPy hz' Zch s1 s2 hT hsz hk=>?_
  have ex:x'=u1:=by
   have:vX.toArray[i]?=some x':=hPx
   rw[show vX.toArray[i]?=some u1 by simpa using hu1] at this
   exact(Option.some.inj this).symm
  have ey:y'=u2:=by
   have:its2.toArray[i]?=some y':=hPy
   rw[show its2.toArray[i]?=some u2 by simpa using hu2] at this
   exact(Option.some.inj this).symm
  subst ex ey
  refine⟨.ref s.heap.objs.size,rfl,wpAny_letOwnedTupleGo_zip hz' λh'' hz'' hs'=>?_⟩
  have hs2:Heap.SameBut z h' h'':=hs'
  have I2:=lV (fp:=[z,TI,TO,i1,i2]) (h':=h'') (t':=tk) I ru1 ru2 ⟨_,(hs2.2 _ (Nat.ne_of_gt (hlt z (by simp)))).trans hT,rfl⟩ (λb o hb q=>by
   have hne:∀c∈[z,TI,TO,i1,i2],b≠c:=λc hc e=>hb (e▸hc)
   exact(hs2.2 b (hne z (by simp))).trans (hk b o (hne z (by simp)) (hne TO (by simp)) (hne i1 (by simp)) (hne i2 (by simp)) q)) hf hlt
  refine⟨.ref s.heap.objs.size,_,I2,rfl,⟨x,y,s.heap.objs.size,λzs hzs=>by rw[pK I hzs hq1];exact hx,λzs hzs=>by rw[pK I hzs hq2];exact hy,I.fresh,rfl,rfl⟩,
   ⟨hz'',(hs2.2 TI (Ne.symm n1)).trans (hk TI _ (Ne.symm n1) n5 n6 n7 hTI),⟨_,_,(hs2.2 TO (Ne.symm n2)).trans Zch⟩,s1.1.keep λo q=>(hs2.2 i1 (Ne.symm n3)).trans q,s2.1.keep λo q=>(hs2.2 i2 (Ne.symm n4)).trans q⟩,λb hb=>?_⟩
  rw[ċ (Nat.ne_of_lt (hlt b hb))];exact(hf b hb).1
 done:=by
  intro X hP hw hK hc i pins s σ H E I hf st hg
  subst hP hw hK
  obtain⟨hz,hTI,⟨a,b,hTO⟩,h1,h2⟩:=st
  obtain⟨⟨xs,hq1⟩,⟨ys,hq2⟩,hend'⟩:=hg
  have hend:xs.length=i\/(i<xs.length/\ys.length=i):=by
   rcases hend' with⟨xs',q1,q2⟩|⟨⟨xs',x,q1,q2⟩,ys',q3,q4⟩
   ·left;rw[pK I hq1 q1];exact Lg I q1 q2
   ·right
    rw[pK I hq1 q1,pK I hq2 q3]
    exact⟨(List.getElem?_eq_some_iff.mp q2).1,Lg I q3 q4⟩
  obtain⟨vX,rv1,p1,_⟩:=pJ I hq1
  obtain⟨its2,rv2,p2,_⟩:=pJ I hq2
  have hl1:=rv1.length
  have hl2:=rv2.length
  have ne1:∀b∈[z,TI,TO,i1,i2],l1≠b:=λb hb=>xY I (hf b hb) hq1
  have ne2:∀b∈[z,TI,TO,i1,i2],l2≠b:=λb hb=>xY I (hf b hb) hq2
  have hh:X.A.in1.handled=none:=I.ok.hd hc
  simp only[List.nodup_cons,List.mem_cons,List.not_mem_nil,or_false,not_or,List.nodup_nil,not_false_eq_true,and_true] at nd
  obtain⟨⟨n1,n2,n3,n4⟩,⟨n5,n6,n7⟩,⟨n8,n9⟩,n10⟩:=nd
  have D:Vb z TI TO i1 i2 [i1,l1] [i2,l2]:=by
   refine⟨Ne.symm n1,Ne.symm n2,Ne.symm n3,Ne.symm n4,n5,n6,n7,n8,n9,n10,?_,?_,?_,?_,?_,?_⟩<;>simp only[List.mem_cons,List.not_mem_nil,or_false,not_or]
   ·exact⟨n3,(ne1 z (by simp)).symm⟩
   ·exact⟨n4,(ne2 z (by simp)).symm⟩
   ·exact⟨n8,(ne1 TO (by simp)).symm⟩
   ·exact⟨n9,(ne2 TO (by simp)).symm⟩
   ·exact⟨n10,(ne2 i1 (by simp)).symm⟩
   ·exact⟨Ne.symm n10,(ne1 i2 (by simp)).symm⟩
  refine jK D (j_ (A:=X.A.in1) b1 hh i1 l1 (ne1 i1 (by simp)) vX.toArray) (j_ (A:=X.A.in1) b2 hh i2 l2 (ne2 i2 (by simp)) its2.toArray) hz hTI hTO ⟨h1,p1⟩ ⟨h2,p2⟩ ?_ λh' tk hk=>⟨rfl,turns (fp:=[z,TI,TO,i1,i2]) (t':=tk) I (λb o hb q=>?_) hf⟩
  ·rw[List.size_toArray,List.size_toArray]
   omega
  ·have hne:∀c∈[z,TI,TO,i1,i2],b≠c:=λc hc e=>hb (e▸hc)
   exact hk b o (hne z (by simp)) (hne TO (by simp)) (hne i1 (by simp)) (hne i2 (by simp)) q
 self:=λ_ _ _ _ _ st h=>wpAny_pyIter_zip st.1 h
section
abbrev zB1(b:Bool)(h:Heap)(l1:Addr):Heap:=h.push {cls:=.type (Vc b),data:=.fields #[.ref l1,.int 0 0]}
abbrev zB2(b b':Bool)(h:Heap)(l1 l2:Addr):Heap:=(zB1 b h l1).push {cls:=.type (Vc b'),data:=.fields #[.ref l2,.int 0 0]}
abbrev zB3(b b':Bool)(h:Heap)(l1 l2:Addr):Heap:=(zB2 b b' h l1 l2).push {cls:=.type "tuple",data:=.seq #[.ref h.objs.size,.ref (zB1 b h l1).objs.size]}
abbrev zB4(b b':Bool)(h:Heap)(l1 l2:Addr):Heap:=(zB3 b b' h l1 l2).push {cls:=.type "tuple",data:=.seq #[.none,.none]}
abbrev RK(b b':Bool)(h:Heap)(l1 l2:Addr):Heap:=(zB4 b b' h l1 l2).push {cls:=.type "zip",data:=.fields #[.none,.bool false,.bool false,.ref (zB2 b b' h l1 l2).objs.size,.ref (zB3 b b' h l1 l2).objs.size]}
def uh{prog:Program}{w:World}{A:Around}{E:Value->Shared->Prop}{s:Shared}{b:Bool}{l:Addr}{its:Array Value}{Q:Value->Shared->Prop}(hl:Ad b s.heap l its)
 (hQ:Q (.ref s.heap.objs.size) {s with heap:=s.heap.push {cls:=.type (Vc b),data:=.fields #[.ref l,.int 0 0]}}):wpAny (model prog w) A (pyIter (.ref l)) Q E s:=by
 cases b with
 |true=>exact wpAny_pyIter_tuple hl hQ
 |false=>exact wpAny_pyIter_list hl hQ
theorem Ad.push{b:Bool}{h:Heap}{l:Addr}{its:Array Value}(x:Ad b h l its)(o:Obj):Ad b (h.push o) l its:=by
 cases b with
 |true=>exact Heap.IsTuple.push x o
 |false=>exact Heap.IsList.push x o
def um(b b':Bool)(l1 l2:Addr)(xs ys:Array Value) :
 Meets (Builtin.«zip.__new__» ⟨[.type "zip",.ref l1,.ref l2],[]⟩) (λ_ R s=>Ad b s.heap l1 xs/\Ad b' s.heap l2 ys/\
  R (.ok (.ret (.ref (zB4 b b' s.heap l1 l2).objs.size))) {s with heap:=RK b b' s.heap l1 l2}):=
 .of_wp fun prog w A R s h=>by
   obtain⟨hp,g,d,tk,os⟩:=s;obtain⟨hl1,hl2,h⟩:=h
   have hsub:=sub_zip
   have hL1:Ad b (Shared.heap ⟨hp,g,d,tk,os⟩) l1 xs:=hl1
   have hL2:Ad b' (Shared.heap ⟨hp.push {cls:=.type (Vc b),data:=.fields #[.ref l1,.int 0 0]},g,d,tk,os⟩) l2 ys:=Ad.push hl2 _
   wp_walk using uh hL1,uh hL2
   exact⟨_,rfl,h⟩
variable{prog:Program}{w:World}{A:Around}{E:Value->Shared->Prop}{s:Shared}
def vY{b b':Bool}{l1 l2:Addr}{xs ys:Array Value}{Q:Value->Shared->Prop}(hl1:Ad b s.heap l1 xs)(hl2:Ad b' s.heap l2 ys)
 (h:∀h',IsZip h' (s.heap.objs.size+4) (s.heap.objs.size+2) (s.heap.objs.size+3) .none→IsPair h' (s.heap.objs.size+2) (.ref s.heap.objs.size) (.ref (s.heap.objs.size+1))→
   IsPair h' (s.heap.objs.size+3) .none .none->cu b h' s.heap.objs.size l1 0->cu b' h' (s.heap.objs.size+1) l2 0->h'.objs.size=s.heap.objs.size+5->
   (∀c o,s.heap.get? c=some o->h'.get? c=some o)->Q (.ref (s.heap.objs.size+4)) {s with heap:=h'}) :
 wpAny (model prog w) A (call (.type "zip") [.ref l1,.ref l2]) Q E s:=by
 refine callType_new F.called_zip (by decide) (F.typeCall_zip_2 _ _) (F.newCall_zip_2 _ _) (λobj=>F.args_object_init_3 obj _ _) F.entry_zip_new
  (um b b' l1 l2 xs ys) ⟨hl1,hl2,?_⟩
 have z1:(zB1 b s.heap l1).objs.size=s.heap.objs.size+1:=Heap.size_push ..
 have z2:(zB2 b b' s.heap l1 l2).objs.size=s.heap.objs.size+2:=by rw[Heap.size_push,z1]
 have z3:(zB3 b b' s.heap l1 l2).objs.size=s.heap.objs.size+3:=by rw[Heap.size_push,z2]
 have z4:(zB4 b b' s.heap l1 l2).objs.size=s.heap.objs.size+4:=by rw[Heap.size_push,z3]
 have z5:(RK b b' s.heap l1 l2).objs.size=s.heap.objs.size+5:=by rw[Heap.size_push,z4]
 have g5:(RK b b' s.heap l1 l2).get? (zB4 b b' s.heap l1 l2).objs.size=some _:=Heap.get?_push_size _ rfl
 have g4:(RK b b' s.heap l1 l2).get? (zB3 b b' s.heap l1 l2).objs.size=some _:=Heap.get?_push_of_some _ (Heap.get?_push_size _ rfl)
 have g3:(RK b b' s.heap l1 l2).get? (zB2 b b' s.heap l1 l2).objs.size=some _:=Heap.get?_push_of_some _ (Heap.get?_push_of_some _ (Heap.get?_push_size _ rfl))
 have g2:(RK b b' s.heap l1 l2).get? (zB1 b s.heap l1).objs.size=some _:=Heap.get?_push_of_some _ (Heap.get?_push_of_some _ (Heap.get?_push_of_some _ (Heap.get?_push_size _ rfl)))
 have g1:(RK b b' s.heap l1 l2).get? s.heap.objs.size=some _:=Heap.get?_push_of_some _ (Heap.get?_push_of_some _ (Heap.get?_push_of_some _ (Heap.get?_push_of_some _ (Heap.get?_push_size _ rfl))))
 show _/\_
 rw[z2,z3,z4] at g5
 rw[z1,z2] at g3
 rw[z3] at g4
 rw[z1] at g2
 rw[z4]
 exact⟨⟨_,g5,rfl⟩,h _ g5 g3 g4 (.of g1 rfl rfl) (.of g2 rfl rfl) z5 λc o x=>
  Heap.get?_push_of_some _ (Heap.get?_push_of_some _ (Heap.get?_push_of_some _ (Heap.get?_push_of_some _ (Heap.get?_push_of_some _ x))))⟩
end
section
variable{X:Cx}{elts:List Expr}{k:Nat}{tp:Pos}
def Zci(K:PySem.W.Frag)(ta:TA):TI:=λσ H R=>ta σ H λvs H1=>∃b1 b2 l1 l2,vs=[.ref l1,.ref l2]/\(∃xs,nT K b1 H1 l1 xs)/\(∃xs,nT K b2 H1 l2 xs)/\R (Itz K b1 b2 l1 l2) H1
def RL{e1 e2:Expr}{ta:TA}{p pos:Pos}(hg:Gl X "zip")(hm:X.mg "zip" =none)(ha:PA X [e1,e2] ta)(hs:starEach [e1,e2] X.env=[(false,eval e1 X.env),(false,eval e2 X.env)]:=by exact Cw rfl rfl)(hs2:starEach [e2] X.env=[(false,eval e2 X.env)]:=by exact š rfl) :
 PI X (.Tuple elts k tp) (.Call (.Name "zip" p) [e1,e2] [] pos) (Zci X.K ta):=by
 intro pins s σ H R I h
 refine Call_ (eX I hg hm boot_zip (PyProof.Rows.callWith_type1 (ļ (ha pos pins s σ H _ I h) λus s1 ⟨vs,H1,I1,r1,q1⟩=>?_) (by rw[hs,hs2]) (by rw[hs2];rfl)))
 obtain⟨b1,b2,l1,l2,e,⟨xs,hq1⟩,⟨ys,hq2⟩,q⟩:=q1
 subst e
 obtain⟨u1,u2,rfl,ru1,ru2⟩:=vals2 r1
 cases ru1
 cases ru2
 obtain⟨vX,rv1,p1,_⟩:=pJ I1 hq1
 obtain⟨its2,rv2,p2,_⟩:=pJ I1 hq2
 refine vY p1 p2 λh' hz hTI hTO h1 h2 hsz hk=>?_
 have I2:Inv X pins σ H1 {s1 with heap:=h'}:=I1.kept (t':=s1.toks) hk
 refine wpAny_pyIter_zip (s:={s1 with heap:=h'}) hz ⟨s1.heap.objs.size+4,[s1.heap.objs.size+4,s1.heap.objs.size+2,s1.heap.objs.size+3,s1.heap.objs.size,s1.heap.objs.size+1],_,_,H1,rfl,I2,Dw b1 b2 l1 l2 _ _ _ _ _ (by simp),⟨hz,hTI,⟨_,_,hTO⟩,h1,h2⟩,λb hb=>?_,q⟩
 have hb':s1.heap.objs.size<=b:=by
  simp only[List.mem_cons,List.not_mem_nil,or_false] at hb
  rcases hb with rfl|rfl|rfl|rfl|rfl<;>omega
 exact I1.zy hb' (I1.hok.fresh hb')
end
def iI:List PV->List PV->List PV
 |p::ps,q::qs=>.tup [p,q]::iI ps qs
 |_,_=>[]
theorem uo:∀(ps qs:List PV) (i:Nat) (r:PV),(iI ps qs)[i]?=some r->∃p q,ps[i]?=some p/\qs[i]?=some q/\r=.tup [p,q]
 | [],_,_,_,h=>by simp[iI] at h
 |_::_,[],_,_,h=>by simp[iI] at h
 |p::ps,q::qs,0,r,h=>by
  have h':some (PV.tup [p,q])=some r:=h
  cases h'
  exact⟨p,q,rfl,rfl,rfl⟩
 |p::ps,q::qs,i+1,r,h=>uo ps qs i r h
theorem uq:∀(ps qs:List PV),(iI ps qs).length=min ps.length qs.length
 | [],_=>by simp[iI]
 |_::_,[]=>by simp[iI]
 |_::ps,_::qs=>by
  show(iI ps qs).length+1=_
  rw[uq ps qs,List.length_cons,List.length_cons]
  omega
def Jq(m1 m2:M (List PV)):M (List PV):=λρ=>(m1 ρ).bind λps ρ1=>(m2 ρ1).bind λqs ρ2=>.ok (iI ps qs) ρ2
def Xj(K:PySem.W.Frag)(b:Bool)(a:Addr):It:=if b=true then VB K a else Qe K a
def lY{K:KK}{L F:Hp}{b:Bool}{a:Addr}{ps:List PV}(h:bB K L F (Xj K.K b a) ps){c:Ctx}{F2 H:Hp}{σ:L2.St}{ρ:Ĳ}(rel:Rel K c F2 H σ ρ)(sF:Same F F2)(sL:Same L H)(i:Nat)(p:PV)(hp:ps[i]?=some p) :
 (∃xs x,nT K.K b H a xs/\xs[i]?=some x)/\∀x,(∀xs,nT K.K b H a xs->xs[i]?=some x)->∃F3,Rel K c F3 H σ ρ/\Same F2 F3/\Rep K F3 p x:=by
 obtain⟨g,_⟩:=h c i F2 H σ ρ rel sF sL
 obtain⟨g1,g2⟩:=g p hp
 cases b with
 |true=>exact⟨g1,λx hx=>let ⟨F3,r3,s3,_,rp⟩:=g2 x H ⟨rfl,hx⟩;⟨F3,r3,s3,rp⟩⟩
 |false=>exact⟨g1,λx hx=>let ⟨F3,r3,s3,_,rp⟩:=g2 x H ⟨rfl,hx⟩;⟨F3,r3,s3,rp⟩⟩
def qN{K:KK}{L F:Hp}{b:Bool}{a:Addr}{ps:List PV}(h:bB K L F (Xj K.K b a) ps){c:Ctx}{F2 H:Hp}{σ:L2.St}{ρ:Ĳ}(rel:Rel K c F2 H σ ρ)(sF:Same F F2)(sL:Same L H) :
 ∃xs,nT K.K b H a xs/\Jp K.K b H a ps.length xs:=by
 obtain⟨_,st⟩:=h c ps.length F2 H σ ρ rel sF sL
 have st':∃xs,nT K.K b H a xs/\xs.length<=ps.length:=by
  cases b with
  |true=>exact st rfl
  |false=>exact st rfl
 obtain⟨xs,h1,h2⟩:=st'
 exact⟨xs,h1,h2,λj hj=>(lY h rel sF sL j _ (List.getElem?_eq_getElem hj)).1⟩
def DN{K:KK}{L F:Hp}{b1 b2:Bool}{a1 a2:Addr}{ps qs:List PV}(h1:bB K L F (Xj K.K b1 a1) ps)(h2:bB K L F (Xj K.K b2 a2) qs):bB K L F (Itz K.K b1 b2 a1 a2) (iI ps qs):=by
 intro c i F2 H σ ρ rel sF sL
 refine⟨λr hr=>?_,λhi=>?_⟩
 ·obtain⟨p,q,hp,hq,rfl⟩:=uo ps qs i r hr
  obtain⟨g1,y1⟩:=lY h1 rel sF sL i p hp
  refine⟨⟨g1,(lY h2 rel sF sL i q hq).1⟩,λz H' ⟨x,y,T,e1,e2,hT,ez,eH⟩=>?_⟩
  subst ez eH
  obtain⟨F3,fV,s3,rp⟩:=y1 x e1
  obtain⟨F4,tU,s4,rq⟩:=(lY h2 fV (sF.trans s3) sL i q hq).2 y e2
  obtain⟨r1,r2⟩:=xX tU hT (Rep.same s4 p x rp) rq
  exact⟨_,r1,(s3.trans s4).trans (Same.upd (tU.sub.free hT)),Same.upd hT,r2⟩
 ·rw[uq] at hi
  obtain⟨xs,x1,x2⟩:=qN h1 rel sF sL
  obtain⟨ys,y1,y2⟩:=qN h2 rel sF sL
  refine⟨⟨xs,x1⟩,⟨ys,y1⟩,?_⟩
  by_cases hl:ps.length<=qs.length
  ·left
   have e:i=ps.length:=by omega
   exact⟨xs,x1,e▸x2⟩
  ·right
   have e:i=qs.length:=by omega
   exact⟨(lY h1 rel sF sL i _ (List.getElem?_eq_getElem (by omega))).1,ys,y1,e▸y2⟩
def Xk{K:KK}{c:Ctx}{σ:L2.St}{ρ:Ĳ}{F H:Hp}{ps:List PV}{v:V}(h:rSq K c σ ρ F H ps v):∃b a,v=.ref a/\(∃xs,nT K.K b H a xs)/\bB K c.L F (Xj K.K b a) ps:=by
 rcases h with⟨a,e1,e2,e3⟩|⟨a,e1,e2,e3⟩
 ·exact⟨false,a,e1,e2,e3⟩
 ·exact⟨true,a,e1,e2,e3⟩
section
variable{X:Cx}{cm:String->Addr}{E:L2.St->XK}{e e2:Expr}
def Xl{elts:List Expr}{k:Nat}{tp p pos:Pos}{m1 m2:M (List PV)}(hg:Gl X "zip")(hm:X.mg "zip" =none)(h1:PE X e (tG (kk X cm) E (rSq (kk X cm)) m1))(h2:PE X e2 (tG (kk X cm) E (rSq (kk X cm)) m2))
 (hs:starEach [e,e2] X.env=[(false,eval e X.env),(false,eval e2 X.env)]:=by exact Cw rfl rfl)(hs2:starEach [e2] X.env=[(false,eval e2 X.env)]:=by exact š rfl) :
 PI X (.Tuple elts k tp) (.Call (.Name "zip" p) [e,e2] [] pos) (tI (kk X cm) E (Jq m1 m2)):=λpins s σ H R I h=>RL hg hm (Ŧ h1 (Ŧ h2 eY hs2) (by rw[hs,hs2])) hs hs2 pins s σ H R I (by
 obtain⟨c,F,ρ,rel,h⟩:=h
 refine⟨c,F,ρ,rel,Ų.bind h λps ρ1 v F1 H1 ć s1 s2 q h1=>⟨c,F1,ρ1,ć,Ų.bind h1 λqs ρ2 u F2 H2 Ġ s3 s4 q2 h2=>?_⟩⟩
 obtain⟨b1,a1,e1,_,e3⟩:=Xk q
 obtain⟨b2,a2,f1,f2,f3⟩:=Xk q2
 subst e1 f1
 obtain⟨xs,x1,_⟩:=qN (e3.mono s3) Ġ (Same.refl _) λb u e=>(Ġ.lent b u e).1
 exact⟨b1,b2,a1,a2,rfl,⟨xs,x1⟩,f2,h2 _ F2 H2 Ġ (Same.refl _) (Same.refl _) (DN (e3.mono s3) f3)⟩)
end
end P
namespace P
open PySem PySem.Spec PyProof.Rows L2 M2 M3 M4
section
variable{X:Cx}
end
end P
namespace P
open PySem PySem.Spec PyProof.Rows L2 M2 M3 M4
def Jr{x:Int}{n:Nat}(h1: -(2 ^ n:Int)<x)(h2:x<2 ^ n):bits x<=n:=by
 refine intBits_le_iff.mpr ?_
 have e:((2 ^ n:Nat):Int)=(2:Int) ^ n:=by simp
 have:((x.natAbs:Nat):Int)<((2 ^ n:Nat):Int):=by rw[e];omega
 omega
def DP{x y:Int}(h:y≠0)(h1: -18446744073709551616<y)(h2:y<18446744073709551616):fZ x y=true:=Xg h (Nat.le_trans (Jr (n:=64) (by omega) (by omega)) (by decide))
@[simp] theorem ZaF{x:Int}{n:Nat}(h:n≠0)(h2:n<18446744073709551616):fZ x (no_index (OfNat.ofNat n):Int)=true:=by
  have e:(no_index (OfNat.ofNat n):Int)=(n:Int):=rfl
  rw[e]
  exact DP (by omega) (by omega) (by omega)
@[simp] theorem Xm{x:Int}{n:Nat}(h:n<18446744073709551616):Ņ x (no_index (OfNat.ofNat n):Int)=true:=by
  have e:(no_index (OfNat.ofNat n):Int)=(n:Int):=rfl
  rw[e]
  exact mul_r (by omega) (by omega)
@[simp] theorem Xn{x:Int}{n:Nat}(h:n<18446744073709551616):Ņ (no_index (OfNat.ofNat n):Int) x=true:=by
  have e:(no_index (OfNat.ofNat n):Int)=(n:Int):=rfl
  rw[e]
  exact cj (by omega) (by omega)
@[simp] theorem ZaG{m n:Nat}(h:m<18446744073709551616)(h2:n≤1000000):tZ (no_index (OfNat.ofNat m):Int) (no_index (OfNat.ofNat n):Int)=true:=by
  have e:(no_index (OfNat.ofNat m):Int)=(m:Int):=rfl
  have e2:(no_index (OfNat.ofNat n):Int)=(n:Int):=rfl
  rw[e,e2]
  unfold tZ
  simp
  omega
@[simp] theorem Xo{x:Int}{n:Nat}:x.fdiv (no_index (OfNat.ofNat n):Int)=x / (no_index (OfNat.ofNat n):Int):=Int.fdiv_eq_ediv_of_nonneg x (Int.natCast_nonneg n)
@[simp] theorem Xp{x:Int}{n:Nat}:x.fmod (no_index (OfNat.ofNat n):Int)=x % (no_index (OfNat.ofNat n):Int):=Int.fmod_eq_emod_of_nonneg x (Int.natCast_nonneg n)
end P
namespace P
open PySem PySem.Spec PyProof.Rows L2 M2 M3 M4
def œ{a b:Str}(ha:PyData.strOk a=true)(hb:PyData.strOk b=true):ő (.str a) (.str b)=some (.bl (decide (a=b))):=by
 have h:eqB (.str a) (.str b)=decide (a=b):=by unfold eqB;rfl
 unfold ő zV
 rw[show ao (.str a)=true by unfold ao;exact ha,show ao (.str b)=true by unfold ao;exact hb,h]
 rfl
end P
namespace P
open PySem PySem.Spec PyProof.Rows L2 M2 M3 M4
section
variable{g:Tg}{mb:M Fl}{mt:M Bool}{me:M PV}
end
end P
namespace P
open PySem PySem.Spec PyProof.Rows L2 M2 M3 M4
def Zcj(K:PySem.W.Frag)(n:Nat)(t:Br):TG:=λv σ H Q=>∃a xs,v=.ref a/\Ř K H a xs/\xs.length=n/\t xs σ H Q
section
variable{X:Cx}{cm:String->Addr}{pos:Pos}
def RM{es:List Expr}{k:Nat}{t:Br}{n:Nat}(hc:X.calm=true)(h:vo X es t)
 (hn:(assignEach es X.env).length=n:=by rfl)(hst:(assignEach es X.env).findIdx? (·.1)=none:=by rfl):PG X (.Tuple es k pos) (Zcj X.K n t):=by
 intro pins s σ H v u Q I r hw
 obtain⟨a,xs,e1,hq,hl,hw⟩:=hw
 subst e1
 cases r
 obtain⟨its,rv,ht,hz⟩:=I.list hq
 rw[assign_Tuple]
 refine wpAny_bind (wpAny_standAt ?_)
 unfold unpack
 rw[show(assignEach es X.env).length=its.toArray.size by simp[hn,<-hl,rv.length],hst]
 refine wpAny_bind (wpAny_holding (PySem.W.kun_itemsOf (I.ok.hd hc) ht.isList λh' hx=>?_))
 have I1:Inv X pins σ H {s with heap:=h'}:=I.kept (t':=s.toks) λb o e=>hx b o (Nat.ne_of_lt (Heap.lt_size e)) e
 exact h pins _ σ H xs _ Q I1 (by simpa using rv) hw
def gS(n:Nat)(gs:Bg):Tg:=λp ρ=>match p with
 | .tup ps=>if ps.length=n then gs ps ρ else none
 | .lst ps=>if ps.length=n then gs ps ρ else none
 |_=>none
@[simp] theorem Zck{n:Nat}{gs:Bg}{ps:List PV}{ρ:Ĳ}:gS n gs (.tup ps) ρ=if ps.length=n then gs ps ρ else none:=rfl
@[simp] theorem Zcl{n:Nat}{gs:Bg}{ps:List PV}{ρ:Ĳ}:gS n gs (.lst ps) ρ=if ps.length=n then gs ps ρ else none:=rfl
def DQ{es:List Expr}{k:Nat}{gs:Bg}{n:Nat}(hc:X.calm=true)(h:vo X es (WK (kk X cm) gs))(hn:(assignEach es X.env).length=n:=by rfl)(hst:(assignEach es X.env).findIdx? (·.1)=none:=by rfl):PG X (.Tuple es k pos) (tT (kk X cm) (gS n gs)):=by
 intro pins s σ H v u Q I r hw
 obtain⟨c,F,ρ,p,rel,rp,hw⟩:=hw
 cases p with
 |tup ps=>
  unfold Rep at rp
  obtain⟨a,xs,h1,h2,h3⟩:=rp
  unfold gS at hw
  dsimp only at hw
  split at hw
  ·rename_i hl
   exact Bt hc h hn hst pins s σ H v u Q I r ⟨a,xs,h1,bx.of (rel.sub _ _ h2),by rw[<-h3.length];exact hl,c,F,ρ,ps,rel,h3,hw⟩
  ·exact hw.elim
 |lst ps=>
  unfold Rep at rp
  obtain⟨a,xs,h1,h2,h3⟩:=rp
  unfold gS at hw
  dsimp only at hw
  split at hw
  ·rename_i hl
   exact RM hc h hn hst pins s σ H v u Q I r ⟨a,xs,h1,rel.sub.seq h2,by rw[<-h3.length];exact hl,c,F,ρ,ps,rel,h3,hw⟩
  ·exact hw.elim
 |_=>exact hw.elim
end
end P
namespace P
open PySem PySem.Spec PyProof.Rows L2 M2 M3 M4
section
variable{X:Cx}{cm:String->Addr}{E:L2.St->XK}{a:Expr}{p p1 pos pos1:Pos}{mr:M (List PV)}
end
end P
namespace P
open PySem PySem.Spec PyProof.Rows L2 M2 M3 M4
def Rel.keep{K:KK}{c:Ctx}{F H H':Hp}{σ:L2.St}{ρ:Ĳ}(r:Rel K c F H σ ρ)(e:Same H H'):Rel K c F H' σ ρ:= r.call ⟨e,Same.refl F,r.sub.trans e,λ_ _ h=>h⟩
def Rel.RN{K:KK}{c:Ctx}{F H:Hp}{σ:L2.St}{ρ:Ĳ}(r:Rel K c F H σ ρ){i:Nat}{ps qs rs:List PV}(e:ρ[i]?=some (.ot ps qs rs)):∃F',Same F F'/\Rel K c F' H σ (ρ.set i (.sh (.tup (ps ++ .lst qs::rs)))):=by
 obtain⟨p,a,xs,vs,ys,h1,h2,h3,h4,h5,h6,h7,h8⟩:=r.slot i _ e
 obtain⟨m1,m2⟩:=r.move (a:=a) ⟨_,_,e,at_of h1,p,xs,ys,rfl,h2,h3.length.symm⟩
 have ra:Rep K (upd F a (.lst vs)) (.lst qs) (.ref a):=by
  unfold Rep
  exact⟨a,vs,rfl,Ř.of č,h7.same (Same.upd h5) qs vs⟩
 have rp:Rep K (upd F a (.lst vs)) (.tup (ps ++ .lst qs::rs)) (.ref p):=by
  unfold Rep
  exact⟨p,_,rfl,Same.upd h5 _ _ h2,Ĉ.append (h3.same (Same.upd h5) ps xs) (Ĉ.cons ra (h8.same (Same.upd h5) rs ys))⟩
 have q:=(m1.freeze h4 h6 h5 m2).CN (i:=i) (s:=.sh (.tup (ps ++ .lst qs::rs))) rfl (show Ō K c _ H _ (.sh (.tup (ps ++ .lst qs::rs))) from⟨.ref p,by rw[at_of h1];rfl,rp⟩)
 rw[List.set_set] at q
 exact⟨_,Same.upd h5,q⟩
def jk(i:Nat)(m:M Bool):M Bool:=λρ=>match ρ[i]? with
 |some (.ot ps qs rs)=>match m (ρ.set i (.sh (.tup (ps ++ .lst qs::rs)))) with
  | .ok b _=>.ok b ρ
  |_=>.bad
 |_=>m ρ
section
variable{X:Cx}{cm:String->Addr}{E:L2.St->XK}{e o:Expr}{es:List Expr}{pos:Pos}{m:M Bool}{mo:M RV}{ma:M PV}
def DR(i:Nat)(h:PT X e (tB (kk X cm) E m)):PT X e (tB (kk X cm) E (jk i m)):=PT.wk h λσ H Q ⟨c,F,ρ,rel,h⟩=>by
 unfold jk at h
 cases e1:ρ[i]? with
 |none=>rw[e1] at h;exact⟨c,F,ρ,rel,h⟩
 |some s=>
  rw[e1] at h
  cases s with
  |ot ps qs rs=>
   obtain⟨F',sF,ş⟩:=rel.RN e1
   refine⟨c,F',_,ş,?_⟩
   dsimp only at h
   cases em:m (ρ.set i (.sh (.tup (ps ++ .lst qs::rs)))) with
   |ok b ρ1=>rw[em] at h;exact λv F2 H2 r1 s1 s2 q=>h v F H2 (rel.keep s2) (Same.refl _) s2 q
   |exc x ρ1=>rw[em] at h;exact h.elim
   |bad=>rw[em] at h;exact h.elim
  |_=>exact⟨c,F,ρ,rel,h⟩
structure Js where
 ps:List PV
 r:RV
 rs:List PV
def rLO(K:KK):RR Js (List V):=λc σ ρ F H r vs=>∃xs v ys,vs=xs++v::ys/\Ĉ K F r.ps xs/\rO K c σ ρ F H r.r v/\Ĉ K F r.rs ys
def xZ(mo:M RV):M Js:=λρ=>(mo ρ).bind λr ρ1=>.ok ⟨[],r,[]⟩ ρ1
def qO(ma:M PV)(mr:M Js):M Js:=λρ=>(ma ρ).bind λp ρ1=>(mr ρ1).bind λr ρ2=>.ok ⟨p::r.ps,r.r,r.rs⟩ ρ2
def RP(he:PE X e (tO (kk X cm) E mo))(hs:starEach [e] X.env=(false,eval e X.env)::starEach [] X.env:=by exact š rfl):PA X [e] (tG (kk X cm) E (rLO (kk X cm)) (xZ mo)):=
 PA.wk (Ŧ he eY hs) λσ H Q ⟨c,F,ρ,rel,h⟩=>⟨c,F,ρ,rel,h.bind λr ρ1 v F1 H1 ć _ _ r1 h1=>h1 _ F1 H1 ć (Same.refl _) (Same.refl _) ⟨[],v,[],rfl,Ĉ.nil,r1,Ĉ.nil⟩⟩
def Jt{mr:M Js}(ha:PE X e (tV (kk X cm) E ma))(hr:PA X es (tG (kk X cm) E (rLO (kk X cm)) mr))(hs:starEach (e::es) X.env=(false,eval e X.env)::starEach es X.env:=by exact š rfl):PA X (e::es) (tG (kk X cm) E (rLO (kk X cm)) (qO ma mr)):=
 PA.wk (Ŧ ha hr hs) λσ H Q ⟨c,F,ρ,rel,h⟩=>⟨c,F,ρ,rel,h.bind λp ρ1 v F1 H1 ć _ _ r1 h1=>⟨c,F1,ρ1,ć,h1.bind λr ρ2 vs F2 H2 Ġ sF sH ⟨xs,u,ys,e1,e2,e3,e4⟩ h2=>h2 _ F2 H2 Ġ (Same.refl _) (Same.refl _) ⟨v::xs,u,ys,by rw[e1];rfl,Ĉ.cons (Rep.same sF p v r1) e2,e3,e4⟩⟩⟩
def yc(mr:M Js):M RV:=λρ=>(mr ρ).bind λr ρ1=>if r.ps.length+r.rs.length<16777216 then(match r.r with
 | .ow qs=>.ok (.ot r.ps qs r.rs) ρ1
 | .sh p=>.ok (.sh (.tup (r.ps++p::r.rs))) ρ1
 |_=>.bad) else .bad
def RQ{x1}{mr:M Js}(h:PA X es (tG (kk X cm) E (rLO (kk X cm)) mr)):PE X (.Tuple es x1 pos) (tO (kk X cm) E (yc mr)):=PE.wk (BK h) λσ H Q ⟨c,F,ρ,rel,h⟩=>
 ⟨c,F,ρ,rel,h.bind fun r ρ1 vs F1 H1 ć _ _ ⟨xs,v,ys,e1,e2,e3,e4⟩ h1=>by
   subst e1
   split at h1
   ·rename_i hz
    refine⟨by rw[List.length_append,<-e2.length,ğ];simp only[List.length_cons,<-e4.length];omega,λp hp=>?_⟩
    have Ġ:=ć.alloc (o:=.tup (xs++v::ys)) hp
    have sF:Same F1 (upd F1 p (.tup (xs++v::ys))):=Same.upd (ć.sub.free hp)
    obtain⟨ps,rv,rs⟩:=r
    cases rv with
    |sh q=>
     refine h1 _ _ _ Ġ sF (Same.upd hp) ?_
     show Rep _ _ _ _
     unfold Rep
     exact⟨p,_,rfl,č,Ĉ.append (e2.same sF ps xs) (Ĉ.cons (Rep.same sF q v e3) (e4.same sF rs ys))⟩
    |ow qs=>
     obtain⟨a,vs,rfl,q1,q2,q3,q4,q5⟩:=e3
     have na:a≠p:=λz=>by rw[z,hp] at q1;cases q1
     exact h1 _ _ _ Ġ sF (Same.upd hp) ⟨p,a,xs,vs,ys,rfl,č,e2.same sF ps xs,by rw[ċ na];exact q1,by rw[ċ na];exact q2,q3,ć.lF sF q4,q5.same sF qs vs,e4.same sF rs ys⟩
    |ot _ _ _=>exact h1.elim
   ·exact h1.elim⟩
def ur(i j:Nat)(m:M PV):M Fl:=λρ=>match ρ[i]? with
 |some (.ot ps _ _)=>if ps.length=j then(m ρ).bind λp ρ1=>match ρ1[i]? with
  |some (.ot ps' qs rs)=>if ps'.length=j/\qs.length<16777216 then .ok .nx (ρ1.set i (.ot ps' (qs ++ [p]) rs)) else .bad
  |_=>.bad
  else .bad
 |_=>.bad
def DW{xs ys:List V}{v:V}{j:Nat}(h:xs.length=j):nZ (xs++v::ys) (j:Int)=some v:=by
 subst h
 have h1:((xs.length:Nat):Int)<((xs++v::ys).length:Int):=by simp;omega
 unfold nZ Qx
 rw[if_pos (by omega),if_pos h1]
 simp
def D_{i j:Nat}{D:Ends}{σ:L2.St}{H:Hp}(h:tS (kk X cm) E (ur i j ma) D σ H):Bp (tBM X.K "list" qy (Qh (rIx X.K) (nY i) (tC (.int j))) (tL (kk X cm) E (Ą ma ĕ))) D σ H:=by
 obtain⟨c,F,ρ,rel,h⟩:=h
 unfold ur at h
 cases e1:ρ[i]? with
 |none=>rw[e1] at h;exact h.elim
 |some sl=>
  rw[e1] at h
  cases sl with
  |ot ps0 qs0 rs0=>
   obtain⟨p,a,xs,vs0,ys,z1,z2,z3,z4,z5,z6,z7,z8⟩:=rel.slot i _ e1
   dsimp only at h
   split at h
   ·rename_i hj
    refine⟨.ref p,at_of z1,.inr (.inl ⟨p,xs ++ .ref a::ys,(j:Int),.ref a,rfl,rfl,bx.of (rel.sub _ _ z2),DW (by rw[<-z3.length];exact hj),.inl ⟨rfl,_,Ř.of z4⟩,c,F,ρ,rel,?_⟩)⟩
    unfold Ą
    cases em:ma ρ with
    |bad=>rw[em] at h;exact h
    |exc x ρ1=>rw[em] at h;exact λC d F' H' ş s1 q=>h σ C d F' H' ş s1 q
    |ok p1 ρ1=>
     rw[em] at h
     intro us F1 H1 ć s1 s2 r1
     have r1':Ĉ (kk X cm) F1 [p1] us:=r1
     cases r1'.pr with
     |cons rp t=>
      rename_i v vs'
      cases t
      cases e2:ρ1[i]? with
      |none=>simp only[Res.jV,e2] at h;exact h.elim
      |some sl2=>
       simp only[Res.jV,e2] at h
       cases sl2 with
       |ot ps qs rs=>
        obtain⟨p2,a2,xs2,vs,ys2,w1,w2,w3,w4,w5,w6,w7,w8⟩:=ć.slot i _ e2
        have own:ĳ F1 σ ρ1 i a2:=⟨_,_,e2,at_of w1,p2,xs2,ys2,rfl,w2,w3.length.symm⟩
        have e3:=at_of z1
        rw[at_of w1] at e3
        have e3':p2=p:=by injection e3 with e3;injection e3 with e3;injection e3
        subst e3'
        dsimp only at h
        split at h
        ·rename_i hz
         have hlen:xs.length=ps.length:=by rw[hz.1,<-hj,z3.length]
         have e4:a2=a:=dz (ps:=ps) (qs:=qs) (rs:=rs) (x:=.ref p2) ⟨p2,xs2,ys2,rfl,w2,w3.length.symm⟩ ⟨p2,xs,ys,rfl,s1 _ _ z2,hlen⟩
         subst e4
         refine⟨a2,vs,v,rfl,rfl,w4,by rw[<-w7.length,ğ];exact hz.2,h σ F1 _ (ć.qD own ⟨p2,a2,xs2,vs ++ [v],ys2,w1,w2,w3,č,w5,w6,Ĉ.append w7 (Ĉ.cons rp Ĉ.nil),w8⟩ λx b ex q=>?_) s1⟩
         rw[at_of w1] at ex
         cases ex
         rw[dz (ps:=ps) (qs:=qs ++ [p1]) (rs:=rs) q ⟨p2,xs2,ys2,rfl,w2,w3.length.symm⟩]
         exact own
        ·exact h.elim
       |_=>exact h.elim
   ·exact h.elim
  |_=>exact h.elim
@[simp] theorem Zcm{ps qs rs:List PV}:(RV.ot ps qs rs).val=.tup (ps ++ .lst qs::rs):=rfl
@[simp] theorem Zcn{ps qs rs:List PV}:(RV.ot ps qs rs).slot=.ot ps qs rs:=rfl
@[simp] theorem ZaH{i:Nat}{ρ:Ĳ}:jk i m ρ=(match ρ[i]? with
  |some (.ot ps qs rs)=>match m (ρ.set i (.sh (.tup (ps ++ .lst qs::rs)))) with
   | .ok b _=>.ok b ρ
   |_=>.bad
  |_=>m ρ):=rfl
@[simp] theorem ZaI{ρ:Ĳ}:xZ mo ρ=(mo ρ).bind λr ρ1=>.ok ⟨[],r,[]⟩ ρ1:=rfl
@[simp] theorem Xq{mr:M Js}{ρ:Ĳ}:qO ma mr ρ=(ma ρ).bind λp ρ1=>(mr ρ1).bind λr ρ2=>.ok ⟨p::r.ps,r.r,r.rs⟩ ρ2:=rfl
@[simp] theorem Xr{mr:M Js}{ρ:Ĳ}:yc mr ρ=(mr ρ).bind fun r ρ1=>if r.ps.length+r.rs.length<16777216 then(match r.r with
  | .ow qs=>.ok (.ot r.ps qs r.rs) ρ1
  | .sh p=>.ok (.sh (.tup (r.ps++p::r.rs))) ρ1
  |_=>.bad) else .bad:=rfl
@[simp] theorem ZaJ{i j:Nat}{ρ:Ĳ}:ur i j ma ρ=(match ρ[i]? with
  |some (.ot ps _ _)=>if ps.length=j then(ma ρ).bind λp ρ1=>match ρ1[i]? with
   |some (.ot ps' qs rs)=>if ps'.length=j/\qs.length<16777216 then .ok .nx (ρ1.set i (.ot ps' (qs ++ [p]) rs)) else .bad
   |_=>.bad
   else .bad
  |_=>.bad):=rfl
end
end P
namespace P
open PySem PySem.Spec PyProof.Rows L2 M2 M3 M4
section
variable{X:Cx}{K:KK}
end
end P
namespace P
open PySem PySem.Spec PyProof.Rows L2 M2 M3 M4
section
variable{K:KK}{c c':Ctx}{F F' H H':Hp}{σ:L2.St}{ρ:Ĳ}
end
section
variable{X:Cx}{cm:String->Addr}{E:L2.St->XK}{elt tg iter:Expr}{ifs:List Expr}{scope:Scope}{pos:Pos}{mi:M (List PV)}{g:Tg}{mt:M Bool}{me:M RV}
end
section
variable{K:KK}{c:Ctx}{F H:Hp}{σ:L2.St}{ρ:Ĳ}
end
section
variable{X:Cx}{cm:String->Addr}{E:L2.St->XK}{e:Expr}{es:List Expr}{m:M Bool}{mv:M PV}{ms:M (List Slot)}
end
end P
namespace P
open PySem PySem.Spec PyProof.Rows L2 M2 M3 M4
section
variable{X:Cx}{K:KK}
end
section
variable{ρ:Ĳ}{i x j:Nat}{m:M Bool}{mv:M PV}{ms:M (List Slot)}{mp:M (List (List PV))}{g:Tg}{mt:M Bool}{me:M RV}{mi:M (List PV)}{js:List Nat}{nl:Nat}
end
end P
namespace P
open PySem PySem.Spec PyProof.Rows L2 M2 M3 M5
section
variable{K:KK}{c:Ctx}{F H:Hp}{σ:L2.St}{ρ:Ĳ}
end
section
variable{X:Cx}{cm:String->Addr}{E:L2.St->XK}{x px:Str}{c Pt:Addr}{params:Arguments}{body e:Expr}{scope:Scope}{p pos Ra kpos:Pos}{mr:M (List PV)}{me:M PV}
end
section
variable{P:Program}{w:World}{K:PySem.W.Frag}{cm:String->Addr}{mg:Str->Option Value}{base:Heap}{CX:h_}
end
section
variable{js:List Nat}{me:M PV}{mr:M (List PV)}{ρ:Ĳ}
end
end P
namespace P
open PySem PySem.Spec PyProof.Rows L2 M2 M3 M5
end P
namespace P
open PySem PySem.Spec PyProof.Rows L2 M2 M3 M5
section
variable{X:Cx}{cm:String->Addr}{E:L2.St->XK}{CX:h_}{k n:Nat}{f:Addr}{fd:FuncData}{ps:List Str}{mf:MF}{mr:M (List Slot)}{x:Str}{p pos:Pos}{e:Expr}{es:List Expr}{ds:List Value}{dvs:List V}{dps:List Slot}
end
end P
namespace P
open PySem PySem.Spec PyProof.Rows L2 M2 M3 M5
def BN:Nat->(List Value->Prop)->Prop
 |0,p=>p []
 |n+1,p=>∀u,BN n λus=>p (u::us)
theorem qP:∀{n:Nat} {p:List Value->Prop},BN n p->∀us,us.length=n->p us
 |0,p,h,[],_=>h
 |0,p,h,_::_,e=>by cases e
 |n+1,p,h,[],e=>by cases e
 |n+1,p,h,u::us,e=>qP (h u) us (Nat.succ.inj e)
structure Df(K:PySem.W.Frag)(mg:Str->Option Value)(x:Str)(st:Stmt)(ps:List Str)(f:Addr)(fd:FuncData):Prop where
 F:Ii K x x st f fd
 m:mg x=some (.ref f)
 b:Binds K fd ps []
 bb:∀(s:Shared) (us:List Value),us.length=ps.length->BindsTo s fd ⟨us,[]⟩ (ps.zip us)
structure Dm(K:PySem.W.Frag)(C:Addr)(x q:Str)(st:Stmt)(ps:List Str)(f:Addr)(fd:FuncData):Prop where
 F:Ii K x q st f fd
 b:Binds K fd ps []
section
variable{K:PySem.W.Frag}{h:Heap}{mg:Str->Option Value}{x q:Str}{st:Stmt}{ps:List Str}{f C:Addr}{oc kV dc pm cd ct:Value}{od an:Option Addr}{sl:Array (Option Value)}
def Ļ(X:K.In h)(G:h.Ns mainGlobals mg)(hb:∀(kV dc pm:Value) (an:Option Addr) (cd ct:Value),BN ps.length λus=>bindArgs (PySem.W.fnOf x x (ŧ st) (ŉ st) (Ć st) .none kV dc pm an cd ct) ⟨us,[]⟩=pure (ps.zip us))
 (a:PySem.W.nsIn K mainGlobals x=some (some (.ref f)))(l:K.lookup f=some ⟨oc,od,.func (PySem.W.fnOf x x (ŧ st) (ŉ st) (Ć st) .none kV dc pm an cd ct),sl⟩)(c:PySem.W.codeIn K cd x=true)(k:PySem.W.keepIn K (.ref f)=true) :
 Df K mg x st ps f (PySem.W.fnOf x x (ŧ st) (ŉ st) (Ć st) .none kV dc pm an cd ct):=
 have F:=BZ (st:=st) l c k
 ⟨F,PySem.W.mg_of X G a,F.binds λkV dc pm an cd ct us hl=>qP (hb kV dc pm an cd ct) us hl,λs us hl=>.of_eq (qP (hb kV dc pm an cd ct) us hl)⟩
def Li(hb:∀(kV dc pm:Value) (an:Option Addr) (cd ct:Value),BN ps.length λus=>bindArgs (PySem.W.fnOf x q (ŧ st) (ŉ st) (Ć st) .none kV dc pm an cd ct) ⟨us,[]⟩=pure (ps.zip us))
 (a:PySem.W.findIn K (.ref C) x=some (some (.ref f)))(l:K.lookup f=some ⟨oc,od,.func (PySem.W.fnOf x q (ŧ st) (ŉ st) (Ć st) .none kV dc pm an cd ct),sl⟩)(c:PySem.W.codeIn K cd q=true)(k:PySem.W.keepIn K (.ref f)=true) :
 Dm K C x q st ps f (PySem.W.fnOf x q (ŧ st) (ŉ st) (Ć st) .none kV dc pm an cd ct):=
 have F:=BZ (st:=st) l c k
 ⟨F,F.binds λkV dc pm an cd ct us hl=>qP (hb kV dc pm an cd ct) us hl⟩
end
end P
namespace P
open PySem PySem.Spec PyProof.Rows L2 M2 M3 M5
def dY{N ps:List Str}{sc:Scope}(h1:sc.kind=.function:=by rfl)(h2:sc.isCoroutine=false:=by rfl)(h3:sc.isGenerator=false:=by rfl)(h4:N.Nodup:=by decide +kernel)(h5:N.take ps.length=ps:=by rfl)(h6:∀x∈ps,sc.names.lookup x=some .local\/sc.names.lookup x=some .cell:=by decide +kernel)
 (h7:∀y∈sc.names,y.2≠ .free:=by decide +kernel):Ď N ps sc:=⟨h1,h2,h3,h4,h5,h6,h7⟩
section
variable{X:Cx}{cm:String->Addr}{E:L2.St->XK}{CX:h_}{k j n:Nat}{f:Addr}{fd:FuncData}{ps:List Str}{mf:MF}{mr:M (List Slot)}{x:Str}{st:Stmt}{p pos:Pos}{e:Expr}{es:List Expr}
def Đ(F:ī X.prog X.w X.K X.mg X.base CX k f fd ps (aW (kk X cm) n mf))(D:Df X.K X.mg x st ps f fd)(hr:ŗ j X.A)(hx:dD CX X E)
 (ha:PA X (e::es) (tA (kk X cm) E mr))(hlen:∀{ps:List Slot},(∃r,mf ps=r/\∀z,r=z->z≠ .bad)->ps.length=n:=by exact fW)(hg:Gl X x:=by rfl)(hkj:k<=j:=by decide)(hdb:(x== ("__debug__" :Str))=false:=by decide)(he:starEach (e::es) X.env=(false,eval e X.env)::starEach es X.env:=by exact š rfl)(hpl:(backTo pos (starEach es X.env)).any (·.1)=false:=by rfl) :
 PE X (.Call (.Name x p) (e::es) [] pos) (tO (kk X cm) E (Ĝ mf mr)):=Dc F hlen (hr.mono hkj) hg D.m D.F.kp D.b hx ha hdb he hpl
end
section
variable{Pg:Program}{w:World}{K:PySem.W.Frag}{mg:Str->Option Value}{base:Heap}{CX:h_}{cm:String->Addr}
def Ş{x qual:Str}{st:Stmt}{f:Addr}{fd:FuncData}{N ps:List Str}{k n j:Nat}{mb:M Fl}{mf:MF}(F:Ii K x qual st f fd)(S:Ď N ps (Ć st))
 (hbody:∀(cdv:Value) (A:Around) (outer:List Env) (s:Shared) (H:Hp) (E:XK),ŗ k (A.deeper (envOfC qual (Ć st) s.heap.objs.size f cdv))→(A.deeper (envOfC qual (Ć st) s.heap.objs.size f cdv)).units+64<cLine→
   fG (qm CX Pg w K mg base N qual (Ć st) f cdv A outer s H E) (ŉ st) (tS ⟨K,cm⟩ (λ_=>E) mb))(hn:ps.length=n:=by rfl)(hj:N.length=j:=by rfl)(hf:mf=ĺ n j mb:=by rfl):ī Pg w K mg base CX (k+1) f fd ps (aW ⟨K,cm⟩ n mf):=
 fnQ F S hn hj hf λcdv A outer s H E hr=>hbody cdv A outer s H E hr hr.units
end
end P
namespace P
open PySem PySem.Spec PyProof.Rows L2 M2 M3 M4
section
variable{X:Cx}{cm:String->Addr}{E:L2.St->XK}{e:Expr}{m:M PV}
end
end P
namespace P
open PySem PySem.Spec PyProof.Rows L2 M2 M3 M4
def tgN:Expr->List Str
 | .Name x _=>[x]
 | .Tuple es _ _=>es.flatMap fun e=>match e with
   | .Name x _=>[x]
   |_=>[]
 |_=>[]
def cN(X:Cx)(js:List Nat)(tg:Expr):List Str:=js.map (λ(j:Nat)=>(X.N[j]?).getD "")++tgN tg
def ndB{l:List Str}(h:decide l.Nodup=true):l.Nodup:=of_decide_eq_true h
def frB{a b:Scope}(h:(a.names.all λy=>decide (y.2=.free->(b.names.lookup y.1=some .cell\/b.names.lookup y.1=some .free)))=true):∀y∈a.names,y.2=.free->(b.names.lookup y.1=some .cell\/b.names.lookup y.1=some .free):=λy hy=>of_decide_eq_true (List.all_eq_true.mp h y hy)
section
variable{X:Cx}{cm:String->Addr}{E:L2.St->XK}{elt tg iter:Expr}{ifs:List Expr}{scope:Scope}{pos:Pos}{mi:M (List PV)}{g:Tg}{mt:M Bool}{me:M PV}{js:List Nat}{nl:Nat}
end
end P
namespace P
open PySem PySem.Spec PyProof.Rows L2 M2 M3 M4
section
variable{X:Cx}
end
section
variable{X:Cx}{cm:String->Addr}{K:KK}{E:L2.St->XK}{o e:Expr}{es:List Expr}{name:Str}{apos cpos:Pos}{id:String}{r:V->List V->Hp->VK->Prop}{f:PV->List PV->Option PV}{mo:M PV}{ms:M (List PV)}
end
end P
namespace P
open PySem PySem.Spec PyProof.Rows L2 M2 M3 M4
section
variable{X:Cx}{cm:String->Addr}{E:L2.St->XK}{a b e:Expr}{es:List Expr}{ma mb m:M PV}{mo:M RV}{pos p:Pos}
def Ă{i j pos}:PE X (.Constant (.int i) j pos) (tR (kk X cm) E (mC (.int i))):=ĝ ŏ
def jl{j pos}:PE X (.Constant .none j pos) (tR (kk X cm) E (mC .non)):=ĝ tM
def jm{x j pos}:PE X (.Constant (.str x) j pos) (tR (kk X cm) E (mC (.str x))):=ĝ fP
def aA(ha:PE X a (tR (kk X cm) E ma))(hb:PE X b (tR (kk X cm) E mb))(hs:jT b:=by exact λ_ _=>rfl):PE X (.Subscript a b pos) (tV (kk X cm) E (ă ė ma mb)):=Zbj WW Wi ha hb hs
def Ŀ(ha:PE X a (tR (kk X cm) E ma))(hb:PE X b (tR (kk X cm) E mb))(hs:jT b:=by exact λ_ _=>rfl):PE X (.Subscript a b pos) (tR (kk X cm) E (ă ė ma mb)):=ĝ (aA ha hb hs)
def v_mod(ha:PE X a (tR (kk X cm) E ma))(hb:PE X b (tR (kk X cm) E mb)):PE X (.BinOp a .Mod b pos) (tV (kk X cm) E (ă Ğ ma mb)):=Ÿ Ru QL ha hb
def Ĵ(ha:PE X a (tR (kk X cm) E ma))(hb:PE X b (tR (kk X cm) E mb)):PE X (.BinOp a .Mod b pos) (tR (kk X cm) E (ă Ğ ma mb)):=ĝ (v_mod ha hb)
def v_mul(ha:PE X a (tR (kk X cm) E ma))(hb:PE X b (tR (kk X cm) E mb)):PE X (.BinOp a .Mult b pos) (tV (kk X cm) E (ă Ģ ma mb)):=Ÿ Rv Iz ha hb
def Ŋ(ha:PE X a (tR (kk X cm) E ma))(hb:PE X b (tR (kk X cm) E mb)):PE X (.BinOp a .Mult b pos) (tR (kk X cm) E (ă Ģ ma mb)):=ĝ (v_mul ha hb)
def v_sub(ha:PE X a (tR (kk X cm) E ma))(hb:PE X b (tR (kk X cm) E mb)):PE X (.BinOp a .Sub b pos) (tV (kk X cm) E (ă bC ma mb)):=Ÿ Rr QJ ha hb
def Ea(ha:PE X a (tR (kk X cm) E ma))(hb:PE X b (tR (kk X cm) E mb)):PE X (.BinOp a .Sub b pos) (tR (kk X cm) E (ă bC ma mb)):=ĝ (v_sub ha hb)
def lZ(ha:PE X a (tR (kk X cm) E ma))(hb:PE X b (tR (kk X cm) E mb)):PE X (.BinOp a .FloorDiv b pos) (tV (kk X cm) E (ă İ ma mb)):=Ÿ Rt Il ha hb
def ņ(ha:PE X a (tR (kk X cm) E ma))(hb:PE X b (tR (kk X cm) E mb)):PE X (.BinOp a .FloorDiv b pos) (tR (kk X cm) E (ă İ ma mb)):=ĝ (lZ ha hb)
def jo(ha:PE X a (tR (kk X cm) E ma))(hb:PE X b (tR (kk X cm) E mb)):PE X (.BinOp a .Add b pos) (tO (kk X cm) E (ģ ġ ma mb)):=Wv Ro Rn ha hb
def v_add(ha:PE X a (tR (kk X cm) E ma))(hb:PE X b (tR (kk X cm) E mb)):PE X (.BinOp a .Add b pos) (tV (kk X cm) E (ē (ģ ġ ma mb))):=Ĭ (jo ha hb)
def cU(ha:PE X a (tR (kk X cm) E ma))(hb:PE X b (tR (kk X cm) E mb)):PE X (.BinOp a .Add b pos) (tR (kk X cm) E (ē (ģ ġ ma mb))):=ĝ (v_add ha hb)
def t_eq(hu:X.A.units+64<cLine)(ha:PE X a (tR (kk X cm) E ma))(hb:PE X b (tR (kk X cm) E mb)):PT X (.Compare a [.Eq] [b] pos) (tB (kk X cm) E (cH (ă ő ma mb))):=cQ K_ (Ci hu) ha hb (Ő _)
def Ju(hu:X.A.units+64<cLine)(ha:PE X a (tR (kk X cm) E ma))(hb:PE X b (tR (kk X cm) E mb)):PT X (.Compare a [.NotEq] [b] pos) (tB (kk X cm) E (cH (ă gk ma mb))):=cQ La (Cj hu) ha hb (Ő _)
def v_eq(hu:X.A.units+64<cLine)(ha:PE X a (tR (kk X cm) E ma))(hb:PE X b (tR (kk X cm) E mb)):PE X (.Compare a [.Eq] [b] pos) (tV (kk X cm) E (ă ő ma mb)):=tQ K_ (Ci hu) ha hb (Ő _)
def cA(he:PE X e (tO (kk X cm) E mo)):fG X [.Return (some e) pos] (tS (kk X cm) E (Į mo)):=Ĩ (Wz he)
def ł(he:PE X e (tV (kk X cm) E m)):fG X [.Return (some e) pos] (tS (kk X cm) E (Į (Ś m))):=cA (cF he)
def Eb{N ps:List Str}{sc:Scope}{i:Nat}{x:Str}{pos':Pos}(S:Ď N ps sc)(he:PE X e (tO (kk X cm) E mo))(hN:X.N=N:=by rfl)(hi:X.N[i]?=some x:=by rfl)(hx:Loc X.env.scope x:=by first|exact Or.inl rfl|exact Or.inr rfl)(hs:swapsWith e (some (.Name x pos')) pos.line X.env=pure false:=by rfl)(hf:X.fn x=true\/X.env.scope.names.lookup x=some .local:=by first|exact .inl rfl|exact .inr rfl|assumption) :
 PS X (.Assign [.Name x pos'] e pos) (tS (kk X cm) E (Ĺ i mo)):=Wy (hN▸S.nd) hi hx he hs hf
def Ŏ{N ps:List Str}{sc:Scope}{i:Nat}{x:Str}{pos':Pos}{rest:List Stmt}{m2:M Fl}(S:Ď N ps sc)(he:PE X e (tO (kk X cm) E mo))(h2:fG X rest (tS (kk X cm) E m2))(hN:X.N=N:=by rfl)(hi:X.N[i]?=some x:=by rfl)(hx:Loc X.env.scope x:=by first|exact Or.inl rfl|exact Or.inr rfl)(hs:swapsWith e (some (.Name x pos')) pos.line X.env=pure false:=by rfl)(hf:X.fn x=true\/X.env.scope.names.lookup x=some .local:=by first|exact .inl rfl|exact .inr rfl|assumption) :
 fG X (.Assign [.Name x pos'] e pos::rest) (tS (kk X cm) E (ę (Ĺ i mo) m2)):=Ċ (Eb S he hN hi hx hs hf) h2
def Ū{N ps:List Str}{sc:Scope}{i:Nat}{x:Str}(S:Ď N ps sc)(hN:X.N=N:=by rfl)(hi:X.N[i]?=some x:=by rfl)(hx:Loc X.env.scope x:=by first|exact Or.inl rfl|exact Or.inr rfl)(hf:X.fn x=true\/X.env.scope.names.lookup x=some .local:=by first|exact .inl rfl|exact .inr rfl|assumption):PG X (.Name x pos) (tT (kk X cm) (gN i)):=CV (hN▸S.nd) hi hx hf
def iJ{i:Nat}{x:Str}(hN:X.N.Nodup:=by exact ndB (by kernel_rfl))(hi:X.N[i]?=some x:=by rfl)(hx:Loc X.env.scope x:=by first|exact Or.inl rfl|exact Or.inr rfl)(hf:X.fn x=true\/X.env.scope.names.lookup x=some .local:=by first|exact .inl rfl|exact .inr rfl):PG X (.Name x pos) (tT (kk X cm) (gN i)):=CV hN hi hx hf
def Ĕ(i:Nat){x:Str}{px:Pos}{ms:M (List Slot)}(hr:PA X es (tA (kk X cm) E ms))(hN:X.N[i]?=some x:=by rfl)(hv:sE X.env.scope x:=by first|exact Or.inl rfl|exact Or.inr (Or.inl rfl)|exact Or.inr (Or.inr rfl))(hd:(x== ("__debug__" :Str))=false:=by decide)
 (hcd:(x== ("__classdict__" :Str))=false:=by decide)(hs:starEach (.Name x px::es) X.env=(false,eval (.Name x px) X.env)::starEach es X.env:=by exact š rfl):PA X (.Name x px::es) (tA (kk X cm) E (ĉ i ms)):=IW i hN hv hd hcd hr hs
def Ž{id:String}{x:Str}{r:List V->Hp->VK->Prop}{f:List PV->Option PV}{mr:M (List PV)}(hc:ŕ X (.builtin id) r)(hf:ji (kk X cm) r f)(hm:X.mg x=none)(hv:bootBuiltins x=some (.builtin id))(ha:PA X (e::es) (KC (kk X cm) E mr))(hg:Gl X x:=by rfl)(hn:x≠ "__name__" := by decide)(hdb:(x== ("__debug__" :Str))=false:=by decide)
 (he:starEach (e::es) X.env=(false,eval e X.env)::starEach es X.env:=by rfl)(hpl:(backTo pos (starEach es X.env)).any (·.1)=false:=by rfl):PE X (.Call (.Name x p) (e::es) [] pos) (tV (kk X cm) E (gQ f mr)):=PE.wk (sS hc hg hm hv ha hn hdb he hpl) λ_ _ _ h=>Wx hf h
def Zco{T:String}{x:Str}{r:List V->Hp->VK->Prop}{f:List PV->Option PV}{mr:M (List PV)}(hc:ŕ X (.type T) r)(hf:ji (kk X cm) r f)(hm:X.mg x=none)(hv:bootBuiltins x=some (.type T))(ha:PA X (e::es) (KC (kk X cm) E mr))(hg:Gl X x:=by rfl)(hn:x≠ "__name__" := by decide)(hdb:(x== ("__debug__" :Str))=false:=by decide)
 (he:starEach (e::es) X.env=(false,eval e X.env)::starEach es X.env:=by rfl)(hpl:(backTo pos (starEach es X.env)).any (·.1)=false:=by rfl):PE X (.Call (.Name x p) (e::es) [] pos) (tV (kk X cm) E (gQ f mr)):=PE.wk (oY hc hg hm hv ha hn hdb he hpl) λ_ _ _ h=>Wx hf h
def uw{T:String}{x:Str}{r:List V->Hp->VK->Prop}{f:List PV->Option RV}{mr:M (List PV)}(hc:ŕ X (.type T) r)(hf:CT (kk X cm) r f)(hm:X.mg x=none)(hv:bootBuiltins x=some (.type T))(ha:PA X (e::es) (KC (kk X cm) E mr))(hg:Gl X x:=by rfl)(hn:x≠ "__name__" := by decide)(hdb:(x== ("__debug__" :Str))=false:=by decide)
 (he:starEach (e::es) X.env=(false,eval e X.env)::starEach es X.env:=by rfl)(hpl:(backTo pos (starEach es X.env)).any (·.1)=false:=by rfl):PE X (.Call (.Name x p) (e::es) [] pos) (tO (kk X cm) E (qG f mr)):=PE.wk (oY hc hg hm hv ha hn hdb he hpl) λ_ _ _ h=>Zbl hf h
end
section
variable{X:Cx}{cm:String->Addr}{E:L2.St->XK}{elt tg iter t:Expr}{ifs:List Expr}{scope:Scope}{pos:Pos}{mi:M (List PV)}{g:Tg}{mt:M Bool}{me:M PV}{js:List Nat}{nl:Nat}
structure CF(X:Cx)(js:List Nat)(nl:Nat)(tg iter:Expr)(scope:Scope):Prop where
 hcap:fL X.ŀ X.env.scope scope (cN X js tg) js
 hcalm:X.calm=true
 hlen:js.length+nl=(cN X js tg).length
 hk:scope.kind=.function
 hcell:∀y∈scope.names,y.2=.cell->scope.names.lookup y.1=some .cell
 hnames:∀y∈scope.names,y.2=.local->scope.names.lookup y.1=some .local
 hfree:∀y∈scope.names,y.2=.free->(X.env.scope.names.lookup y.1=some .cell\/X.env.scope.names.lookup y.1=some .free)
 hs:∀x,foldedSetIterable iter X.env x=pure x
def cf(hcap:fL X.ŀ X.env.scope scope (cN X js tg) js:=by repeat' first|exact True.intro|refine⟨rfl,⟨rfl,by first|exact Or.inl rfl|exact Or.inr rfl⟩,?_⟩)(hcalm:X.calm=true:=by rfl)(hlen:js.length+nl=(cN X js tg).length:=by rfl)
 (hk:scope.kind=.function:=by rfl)(hcell:∀y∈scope.names,y.2=.cell->scope.names.lookup y.1=some .cell:=by decide +kernel)(hnames:∀y∈scope.names,y.2=.local->scope.names.lookup y.1=some .local:=by decide +kernel)
 (hfree:∀y∈scope.names,y.2=.free->(X.env.scope.names.lookup y.1=some .cell\/X.env.scope.names.lookup y.1=some .free):=by exact frB (by kernel_rfl))(hs:∀x,foldedSetIterable iter X.env x=pure x:=by intro _;rfl):CF X js nl tg iter scope:=⟨hcap,hcalm,hlen,hk,hcell,hnames,hfree,hs⟩
def Zcp(hi:PI X.ŀ tg iter (tG (kk X cm) E (Dh (kk X cm)) mi))(hg:∀{cl C s H fp},PG (aU X.ŀ (cN X js tg) scope cl C s H fp) tg (tT (kk X cm) g))(ht:∀{cl C s H fp},Hq (aU X.ŀ (cN X js tg) scope cl C s H fp) ifs (tB (kk X cm) EF mt))(he:∀{cl C s H fp},PE (aU X.ŀ (cN X js tg) scope cl C s H fp) elt (tV (kk X cm) EF me))(h:CF X js nl tg iter scope:=by exact cf) :
 PE X (.ListComp elt [⟨tg,iter,ifs,0⟩] scope pos) (tO (kk X cm) E (ź js nl mi g mt me)):=Jd (cN X js tg) js nl X.env.scope rfl h.hcalm hi (λ_ _ _ _ _=>hg) (λ_ _ _ _ _=>ht) (λ_ _ _ _ _=>he) h.hcap h.hlen h.hk h.hcell h.hnames h.hfree h.hs
def Ae(hi:PI X.ŀ tg iter (tI (kk X cm) E mi))(hg:∀{cl C s H fp},PG (aU X.ŀ (cN X js tg) scope cl C s H fp) tg (tT (kk X cm) g))(ht:∀{cl C s H fp},Hq (aU X.ŀ (cN X js tg) scope cl C s H fp) ifs (tB (kk X cm) EF mt))(he:∀{cl C s H fp},PE (aU X.ŀ (cN X js tg) scope cl C s H fp) elt (tV (kk X cm) EF me))(h:CF X js nl tg iter scope:=by exact cf) :
 PE X (.ListComp elt [⟨tg,iter,ifs,0⟩] scope pos) (tO (kk X cm) E (ź js nl mi g mt me)):=Zcp (KN hi) hg ht he h
def Xu{N ps:List Str}{sc:Scope}{i:Nat}{y:Str}{py spos:Pos}(S:Ď N ps sc)(hi:PI X.ŀ tg iter (tI (kk X cm) E mi))(hg:∀{cl C s H fp},PG (aU X.ŀ (cN X js tg) scope cl C s H fp) tg (tT (kk X cm) g))(ht:∀{cl C s H fp},Hq (aU X.ŀ (cN X js tg) scope cl C s H fp) ifs (tB (kk X cm) EF mt))(he:∀{cl C s H fp},PE (aU X.ŀ (cN X js tg) scope cl C s H fp) elt (tV (kk X cm) EF me))
 (h:CF X js nl tg iter scope:=by exact cf)(hN:X.N=N:=by rfl)(hi0:X.N[i]?=some y:=by rfl)(hy:X.env.scope.names.lookup y=some .local:=by rfl)(hsw:swapsWith (.ListComp elt [⟨tg,iter,ifs,0⟩] scope pos) (some (.Name y py)) spos.line X.env=pure true:=by rfl) :
 PS X (.Assign [.Name y py] (.ListComp elt [⟨tg,iter,ifs,0⟩] scope pos) spos) (tS (kk X cm) E (Ĺ i (ź js nl mi g mt me))):=RB (hN▸S.nd) hi0 hy (cN X js tg) js nl X.env.scope rfl h.hcalm hi (λ_ _ _ _ _=>hg) (λ_ _ _ _ _=>ht) (λ_ _ _ _ _=>he) h.hcap h.hlen h.hk h.hcell h.hnames h.hfree h.hs hsw
end
end P
namespace P
open PySem PySem.Spec PyProof.Rows L2 M2 M3 M5
end P
namespace P
open PySem PySem.Spec PyProof.Rows L2 M2 M3 M4 M5
variable{X:Cx}{cm:String->Addr}{E:L2.St->XK}{a:Expr}{pos:Pos}{ma:M PV}
end P
namespace M5
open PySem PySem.Spec PyProof.Rows L2 M2 M3
section
variable{X:Cx}{pins:List (Addr×Obj)}{σ:L2.St}{H:Hp}{s:Shared}
variable{R:Result->Shared->Prop}{f l S It:Addr}{oF:Obj}{xs:List V}(ks:Nat->Int)(W:Nat->Hp->Prop)
end
section
variable{X:Cx}{x px:Str}{c P:Addr}{params:Arguments}{body e:Expr}{scope:Scope}{p pos Ra kpos dpos Xv:Pos}{dj:Nat}{ta:TA}{te:TE}
end
end M5
namespace P
open PySem PySem.Spec PyProof.Rows L2 M2 M3 M5
section
variable{X:Cx}{cm:String->Addr}{E:L2.St->XK}{x px:Str}{c Pt:Addr}{params:Arguments}{body e:Expr}{scope:Scope}{p pos Ra kpos dpos Xv:Pos}{dj:Nat}{mr:M (List PV)}{me:M PV}
end
end P
namespace PySem
namespace F
end F
section
variable{prog:Program}{w:World}{A:Around}{E:Value->Shared->Prop}{s:Shared}
end
end PySem
namespace P
open PySem PySem.Spec PyProof.Rows L2 M2 M3 M4
section
variable{X:Cx}{cm:String->Addr}{E:L2.St->XK}{tg e l:Expr}{p pos p1 pos1:Pos}{mi:M (List PV)}
end
end P
namespace P
open PySem PySem.Spec PyProof.Rows L2 M2 M3 M4
section
variable{X:Cx}{cm:String->Addr}{E:L2.St->XK}{tg:Expr}{a b d:Expr}{p pos:Pos}{mr:M (List PV)}
end
end P
namespace P
open PySem PySem.Spec PyProof.Rows L2 M2 M3 M4
section
variable{X:Cx}{cm:String->Addr}{E:L2.St->XK}
end
end P
namespace L2
open PySem PySem.Spec PyProof.Rows
end L2
namespace L2
open PySem PySem.Spec PyProof.Rows
section
variable(P:Program)(w:World)
end
section
variable{P:Program}{w:World}{H H':Hp}{h h':Heap}{a:Addr}{o:HO}
end
section
variable{P:Program}{w:World}{H:Hp}{h h':Heap}{x e:Addr}{o':HO}
end
section
variable{fs fs' ex ex':List Addr}{H H1 H2:Hp}{h h1 h2 h':Heap}{a x e:Addr}{o:HO}
end
end L2
namespace L2
open PySem PySem.Spec PyProof.Rows
section
variable{X:Cx}{pins:List (Addr×Obj)}{σ:List (Option V)}{H H':Hp}{s:Shared}{h':Heap}
end
end L2
namespace L2
open PySem PySem.Spec PyProof.Rows
section
variable{X:Cx}
variable{a b:Expr}{ta tb:TE}{pos:Pos}
variable{tA Vt:TT}{rest:List Expr}
end
end L2
namespace L2
open PySem PySem.Spec PyProof.Rows
section
variable{X:Cx}{pins:List (Addr×Obj)}{σ:St}{H:Hp}{s:Shared}{a:Addr}{xs ys:List V}
end
section
variable{X:Cx}{pins:List (Addr×Obj)}{σ:St}{H:Hp}{s:Shared}{E:Value->Shared->Prop}
end
section
variable{X:Cx}{st:Stmt}{rest:List Stmt}{t u:TS}{e:Expr}{te:TE}{pos:Pos}
end
section
variable{X:Cx}{pos:Pos}
end
section
variable{X:Cx}{pos:Pos}
end
end L2
namespace L2
open PySem PySem.Spec PyProof.Rows
section
variable{X:Cx}{tg:Expr}
end
end L2
namespace L2
open PySem PySem.Spec PyProof.Rows
section
variable{X:Cx}{a b c:Expr}{ta tb tc:TE}{pos:Pos}
end
section
variable{X:Cx}{a b c:Expr}{ta tb tc:TE}{pos:Pos}
end
end L2
namespace L2
open PySem PySem.Spec PyProof.Rows
section
variable{prog:Program}{w:World}{A:Around}{E:Value->Shared->Prop}{s:Shared}{K:PySem.W.Frag}{x dx C f:Addr}{mA:Str->Option Value}{name:Str}{v:Value}
end
section
variable{P:Program}{w:World}{H H':Hp}{h h':Heap}{a C dx:Addr}{fs fs':List (Str×V)}
end
section
variable{X:Cx}{pins:List (Addr×Obj)}{σ:St}{H:Hp}{s:Shared}{a C dx:Addr}{fs:List (Str×V)}{f:Str}{v:V}{A:Around}{E:Value->Shared->Prop}
end
section
variable{X:Cx}{o e value:Expr}{f:Str}{pos pos' tpos:Pos}{ta tv:TE}
end
section
variable{X:Cx}{pins:List (Addr×Obj)}{σ:St}{H:Hp}{s:Shared}{A:Around}{E:Value->Shared->Prop}{Q:Value->Shared->Prop}{c:Value}{b:Bool}
end
end L2
namespace L2
open PySem PySem.Spec PyProof.Rows
section
variable{X:Cx}{e:Expr}{es:List Expr}{te:TE}{t:TA}{pos:Pos}
end
section
variable{X:Cx}{pins:List (Addr×Obj)}{σ:St}{H:Hp}{s s':Shared}
end
section
variable{X:Cx}{CX:h_}{k:Nat}{f C:Addr}{fd:FuncData}{ps:List Str}{sp:Sp}{dvs:List V}{ds:List Value}{E:XK}{x m:Str}{p pos apos:Pos}{e o:Expr}{es:List Expr}{ta:TE}{t:TA}
end
section
variable{X:Cx}{CX:h_}{k:Nat}{f C:Addr}{fd:FuncData}{ps ks:List Str}{sp:Sp}{E:XK}{x m:Str}{p pos apos kpos:Pos}{e o:Expr}{es:List Expr}{kws:List Keyword}{te ta:TE}{t tk:TA}{nm:Option Str}
variable{g:List Value->List Value->List Value}{gV:List V->List V->List V}
end
end L2
namespace L2
open PySem PySem.Spec PyProof.Rows
section
variable{X:Cx}{x:Str}{p pos:Pos}{e:Expr}{es:List Expr}{t:TA}{id T:String}{r:List V->Hp->VK->Prop}
end
end L2
namespace L2
open PySem PySem.Spec PyProof.Rows
section
variable{κ:Type}[DecidableEq κ]
def aB(kvs:List (κ×V))(k:κ):Option V:=(kvs.find? λkv=>decide (kv.1=k)).map (·.2)
def putK(kvs:List (κ×V))(k:κ)(v:V):List (κ×V):=
 if(kvs.any λkv=>decide (kv.1=k))=true then kvs.map (λkv=>if kv.1=k then(kv.1,v) else kv) else kvs ++ [(k,v)]
def gB{p:κ×V}{r:List (κ×V)}{k:κ}(e:p.1=k):aB (p::r) k=some p.2:=by simp[aB,List.find?_cons,e]
def gC{p:κ×V}{r:List (κ×V)}{k:κ}(e:¬p.1=k):aB (p::r) k=aB r k:=by simp[aB,List.find?_cons,e]
theorem ux(k:κ):∀kvs:List (κ×V),(kvs.any λkv=>decide (kv.1=k))=(aB kvs k).isSome
 | []=>rfl
 |p::r=>by
  rw[List.any_cons]
  by_cases e:p.1=k
  ·simp only[gB e,decide_eq_true e,Bool.true_or,Option.isSome_some]
  ·rw[gC e,decide_eq_false e,Bool.false_or];exact ux k r
def cV(kvs:List (κ×V))(k:κ)(v:V):(putK kvs k v).length<=kvs.length+1:=by
 unfold putK
 split
 ·rw[List.length_map];omega
 ·rw[List.length_append,List.length_cons,List.length_nil];omega
def gU.iK{o:Option V}{u:Option Value}(r:gU o u):o.isSome=u.isSome:=by
 cases o with
 |none=>cases u with
  |none=>rfl
  |some _=>exact(show False from r).elim
 |some _=>cases u with
  |none=>exact(show False from r).elim
  |some _=>rfl
def KV.val{kvs:List (κ×V)}{vs:List (κ×Value)}(r:KV kvs vs)(k:κ):gU (aB kvs k) (valueAt vs k):=by
 unfold KV at r
 induction r with
 |nil=>exact True.intro
 |@cons p q ps qs h t ih=>
  obtain⟨h1,h2⟩:=h
  by_cases e:p.1=k
  ·have e':q.1=k:=h1.symm.trans e
   have b:valueAt (q::qs) k=some q.2:=by simp[valueAt,List.find?_cons,e']
   rw[gB e,b];exact h2
  ·have e':¬q.1=k:=λz=>e (h1.trans z)
   have b:valueAt (q::qs) k=valueAt qs k:=by simp[valueAt,List.find?_cons,e']
   rw[gC e,b];exact ih
theorem KV.any{kvs:List (κ×V)}{vs:List (κ×Value)}(r:KV kvs vs)(k:κ):(kvs.any λkv=>decide (kv.1=k))=vs.any λkv=>decide (kv.1=k):=by
 unfold KV at r
 induction r with
 |nil=>rfl
 |cons h t ih=>rw[List.any_cons,List.any_cons,ih,h.1]
def KV.repl{kvs:List (κ×V)}{vs:List (κ×Value)}(r:KV kvs vs)(k:κ){y:V}{u:Value}(ry:RelV y u) :
 KV (kvs.map λkv=>if kv.1=k then(kv.1,y) else kv) (vs.map λkv=>if kv.1=k then(kv.1,u) else kv):=by
 unfold KV at r ⊢
 induction r with
 |nil=>exact .nil
 |@cons p q ps qs h t ih=>
  rw[List.map_cons,List.map_cons]
  refine .cons ?_ ih
  obtain⟨h1,h2⟩:=h
  by_cases e:p.1=k
  ·rw[if_pos e,if_pos (h1.symm.trans e)];exact⟨h1,ry⟩
  ·rw[if_neg e,if_neg (λz=>e (h1.trans z))];exact⟨h1,h2⟩
def KV.put{kvs:List (κ×V)}{vs:List (κ×Value)}(r:KV kvs vs)(k:κ){y:V}{u:Value}(ry:RelV y u):KV (putK kvs k y) (stored vs k u):=by
 unfold putK stored
 rw[r.any k]
 by_cases e:(vs.any λkv=>decide (kv.1=k))=true
 ·rw[if_pos e,if_pos e];exact r.repl k ry
 ·rw[if_neg e,if_neg e];exact Paired.snoc r ⟨rfl,ry⟩
theorem KV.length{kvs:List (κ×V)}{vs:List (κ×Value)}(r:KV kvs vs):kvs.length=vs.length:=Paired.length r
end
def yg{P:Program}{w:World}{k:Key}{u:Value}(r:RelV (kV k) u):(ı P w).is k u=true:=by
 cases k with
 |inl i=>obtain⟨t,e⟩:=(show ∃t,u=Value.int i t from r);subst e;exact su P w i t
 |inr x=>obtain⟨t,e⟩:=(show ∃t,u=Value.str x t from r);subst e;exact sy P w x t
theorem pL{P:Program}{w:World}:∀{ks:List Key} {us:List Value},Vals (ks.map kV) us->ItemsAre (ı P w) ks us
 | [],_,r=>by rw[List.map_nil] at r;cases r;exact .nil
 |k::ks,_,r=>by
  rw[List.map_cons] at r
  cases r with
  |cons h t=>exact .cons (yg h) (pL t)
abbrev KT(H:Hp):List (List Key×V)->List (List Key×Addr×Value)->Prop:=Paired λp q=>p.1=q.1/\H q.2.1=some (.tup (p.1.map kV))/\RelV p.2 q.2.2
def KT.val{H:Hp}{kvs:List (List Key×V)}{xs:List (List Key×Addr×Value)}(r:KT H kvs xs)(k:List Key):gU (aB kvs k) ((atKey xs k).map (·.2)):=by
 induction r with
 |nil=>exact True.intro
 |@cons p q ps qs h t ih=>
  obtain⟨h1,_,h2⟩:=h
  by_cases e:p.1=k
  ·have e':q.1=k:=h1.symm.trans e
   have b:atKey (q::qs) k=some q.2:=by simp[atKey,List.find?_cons,e']
   rw[gB e,b];exact h2
  ·have e':¬q.1=k:=λz=>e (h1.trans z)
   have b:atKey (q::qs) k=atKey qs k:=by simp[atKey,List.find?_cons,e']
   rw[gC e,b];exact ih
def KT.repl{H:Hp}{kvs:List (List Key×V)}{xs:List (List Key×Addr×Value)}(r:KT H kvs xs)(k:List Key){y:V}{u:Value}(ry:RelV y u) :
 KT H (kvs.map λkv=>if kv.1=k then(kv.1,y) else kv) (xs.map (putAt k u)):=by
 induction r with
 |nil=>exact .nil
 |@cons p q ps qs h t ih=>
  rw[List.map_cons,List.map_cons]
  refine .cons ?_ ih
  obtain⟨h1,h2,h3⟩:=h
  unfold putAt
  by_cases e:p.1=k
  ·rw[if_pos e,if_pos (h1.symm.trans e)];exact⟨h1,h2,ry⟩
  ·rw[if_neg e,if_neg (λz=>e (h1.trans z))];exact⟨h1,h2,h3⟩
def KT.put{H:Hp}{kvs:List (List Key×V)}{xs:List (List Key×Addr×Value)}(r:KT H kvs xs)(k:List Key){b:Addr}{y:V}{u:Value}(hb:H b=some (.tup (k.map kV)))(ry:RelV y u) :
 KT H (putK kvs k y) (storedH xs k b u):=by
 have e:(kvs.any λkv=>decide (kv.1=k))=(atKey xs k).isSome:=by
  rw[ux,(r.val k).iK,Option.isSome_map]
 unfold putK storedH
 rw[e]
 by_cases q:(atKey xs k).isSome=true
 ·rw[if_pos q,if_pos q];exact r.repl k ry
 ·rw[if_neg q,if_neg q];exact Paired.snoc r ⟨rfl,hb,ry⟩
def KT.keeps{H H':Hp}{kvs:List (List Key×V)}{xs:List (List Key×Addr×Value)}(r:KT H kvs xs)(ht:∀b ys,H b=some (.tup ys)->H' b=some (.tup ys)):KT H' kvs xs:=
 Paired.Pr r λ_ _ z=>⟨z.1,ht _ _ z.2.1,z.2.2⟩
section
variable{P:Program}{w:World}{H:Hp}{h:Heap}{a:Addr}
def Lj{u:HO}(ok:cJ P w H h)(e:Rd H a u):ľ P w H h a u:=e.ok ok
def mj{kvs:List (Key×V)}(ok:cJ P w H h)(e:Rd H a (.dK kvs)):kvs.length<=sizeLine/\(a== sysModules)=false/\∃vs,KV kvs vs/\h.DictOf (ı P w) a vs:=
 show ľ P w H h a (.dK kvs) from Lj ok e
def Xw{kvs:List (Key×V)}(ok:cJ P w H h)(e:H a=some (.dK kvs)):kvs.length<=sizeLine/\(a== sysModules)=false/\∃vs,KV kvs vs/\h.DictOf (ı P w) a vs:=mj ok (.inl e)
def mq{ks:List Key}(ok:cJ P w H h)(e:H a=some (.tup (ks.map kV))):(tupleKind (ı P w)).is h ks a:=by
 obtain⟨_,its,r,o,h1,h2,n,h3⟩:=(show ľ P w H h a (.tup (ks.map kV)) from ok a _ e)
 exact⟨o,its.toArray,n,h1,h2,h3,by simpa using pL r⟩
def uy{kvs:List (List Key×V)}(ok:cJ P w H h)(e:Rd H a (.dT kvs)):kvs.length<=sizeLine/\(a== sysModules)=false/\
 ∃xs,KT H kvs xs/\h.DictOfH (tupleKind (ı P w)) a xs:=by
 obtain⟨z,y,xs,r,o,es,ep,h1,h2,h3,h4,h5⟩:=(show ľ P w H h a (.dT kvs) from Lj ok e)
 refine⟨z,y,xs,r,o,es,ep,h1,h2,h3,h4,λx hx=>?_,h5⟩
 have all:∀{l:List (List Key×V)} {m:List (List Key×Addr×Value)},KT H l m->∀x∈m,(tupleKind (ı P w)).is h x.1 x.2.1:=by
  intro l m q
  induction q with
  |nil=>intro x hx;exact nomatch hx
  |@cons p q ps qs hq t ih=>
   intro x hx
   rcases List.mem_cons.mp hx with e|hx
   ·subst e
    exact mq ok (by rw[<-hq.1];exact hq.2.1)
   ·exact ih x hx
 exact all r x hx
def Lk{kvs:List (List Key×V)}(ok:cJ P w H h)(e:H a=some (.dT kvs)):kvs.length<=sizeLine/\(a== sysModules)=false/\
 ∃xs,KT H kvs xs/\h.DictOfH (tupleKind (ı P w)) a xs:=uy ok (.inl e)
end
def oA(H:Hp)(a:Addr)(y:V)(r:Option V):Prop:=
 (∃kvs k,Rd H a (.dK kvs)/\y=kV k/\r=aB kvs k)\/∃kvs k b,Rd H a (.dT kvs)/\y=.ref b/\H b=some (.tup (k.map kV))/\r=aB kvs k
def vZ(H:Hp)(a:Addr)(y v:V)(H':Hp):Prop:=
 (∃kvs k,H a=some (.dK kvs)/\y=kV k/\kvs.length<sizeLine/\H'=upd H a (.dK (putK kvs k v)))\/
 ∃kvs k b,H a=some (.dT kvs)/\y=.ref b/\H b=some (.tup (k.map kV))/\kvs.length<sizeLine/\H'=upd H a (.dT (putK kvs k v))
theorem oA.k{H:Hp}{a:Addr}{kvs:List (Key×V)}{k:Key}(e:H a=some (.dK kvs)):oA H a (kV k) (aB kvs k):=.inl ⟨kvs,k,.inl e,rfl,rfl⟩
def oA.t{H:Hp}{a b:Addr}{kvs:List (List Key×V)}{k:List Key}(e:H a=some (.dT kvs))(eb:H b=some (.tup (k.map kV))):oA H a (.ref b) (aB kvs k):=.inr ⟨kvs,k,b,.inl e,rfl,eb,rfl⟩
theorem vZ.k{H:Hp}{a:Addr}{kvs:List (Key×V)}{k:Key}{v:V}(e:H a=some (.dK kvs))(hl:kvs.length<sizeLine):vZ H a (kV k) v (upd H a (.dK (putK kvs k v))):=.inl ⟨kvs,k,e,rfl,hl,rfl⟩
def vZ.t{H:Hp}{a b:Addr}{kvs:List (List Key×V)}{k:List Key}{v:V}(e:H a=some (.dT kvs))(eb:H b=some (.tup (k.map kV)))(hl:kvs.length<sizeLine) :
 vZ H a (.ref b) v (upd H a (.dT (putK kvs k v))):=.inr ⟨kvs,k,b,e,rfl,eb,hl,rfl⟩
section
variable{X:Cx}{pins:List (Addr×Obj)}{σ:St}{H:Hp}{s:Shared}{a:Addr}{y v:V}{u r:Value}{o:Option V}{A:Around}{E:Value->Shared->Prop}
def Inv.big(I:Inv X pins σ H s):sysModules<s.heap.objs.size:=by
 have h:mainGlobals<s.heap.objs.size:=(I.mod.glob.keeps I.bk).lt
 exact Nat.lt_trans (by decide) h
def Af{Q:Value->Shared->Prop}(hu:A.units+1<cLine)(I:Inv X pins σ H s)(g:oA H a y (some v))(ry:RelV y u)(h:∀w' s',Inv X pins σ H s'->RelV v w'->Q w' s') :
 wpAny (model X.prog X.w) A (getItem (.ref a) u) Q E s:=by
 rcases g with⟨kvs,k,e,ey,l⟩|⟨kvs,k,b,e,ey,eb,l⟩
 ·subst ey
  obtain⟨z,hd,vs,rel,dd⟩:=mj I.hok e
  obtain⟨w',hw,BR⟩:=gU.some_of (v:=v) (o:=valueAt vs k) (by rw[l];exact rel.val k)
  exact wpAny_getItem_of (yg ry) dd.mapOf hw (h w' _ (I.tok _) BR)
 ·subst ey
  cases(show u=Value.ref b from ry)
  obtain⟨z,hd,xs,rel,dd⟩:=uy I.hok e
  obtain⟨w',hw,BR⟩:=gU.some_of (v:=v) (o:=(atKey xs k).map (·.2)) (by rw[l];exact rel.val k)
  obtain⟨p,hp,hp2⟩:=Option.map_eq_some_iff.mp hw
  refine wpAny_getItem_heap (tupleKind_room_in1 hu) (mq I.hok eb) dd hp ?_
  rw[hp2]
  exact h w' _ (I.tok _) BR
def Jv{Q:Value->Shared->Prop}(hu:A.units+1<cLine)(I:Inv X pins σ H s)(g:oA H a y o)(ry:RelV y u)(h:∀s',Inv X pins σ H s'->Q (.bool (!o.isSome)) s') :
 wpAny (model X.prog X.w) A (compareOp .NotIn u (.ref a)) Q E s:=by
 rcases g with⟨kvs,k,e,ey,l⟩|⟨kvs,k,b,e,ey,eb,l⟩
 ·subst ey
  obtain⟨z,hd,vs,rel,dd⟩:=mj I.hok e
  refine wpAny_notIn_of (yg ry) hd dd.mapOf ?_
  rw[<-(rel.val k).iK,<-l]
  exact h _ (I.tok _)
 ·subst ey
  cases(show u=Value.ref b from ry)
  obtain⟨z,hd,xs,rel,dd⟩:=uy I.hok e
  refine wpAny_notIn_heap (tupleKind_room_in1 hu) (mq I.hok eb) hd dd ?_
  have q:=(rel.val k).iK
  rw[Option.isSome_map] at q
  rw[<-q,<-l]
  exact h _ (I.tok _)
def qQ{h':Heap}{t':Nat}{ob:HO}(I:Inv X pins σ H s)(mu:Vn (H a))(hs:Heap.SameBut a s.heap h')(he:∃q,h'.get? a=some q)(new:ľ X.prog X.w (upd H a ob) h' a ob) :
 Inv X pins σ (upd H a ob) {s with heap:=h',toks:=t'}:=
 I.write (x:=a) (e:=a) mu (.inl rfl) (λb q hb z=>(hs.2 b hb).trans z) he new
def RT{P:Program}{w:World}{H':Hp}{h':Heap}{kvs:List (Key×V)}{vs:List (Key×Value)}(z:kvs.length<=sizeLine)(hd:(a== sysModules)=false)(rel:KV kvs vs)(dd:h'.DictOf (ı P w) a vs) :
 ľ P w H' h' a (.dK kvs):=⟨z,hd,vs,rel,dd⟩
def Ag{H':Hp}{Q:Unit->Shared->Prop}(hu:A.units+1<cLine)(I:Inv X pins σ H s)(g:vZ H a y v H')(ry:RelV y u)(rv:RelV v r)(h:∀s',Inv X pins σ H' s'->Q () s') :
 wpAny (model X.prog X.w) A (setItem (.ref a) u r) Q E s:=by
 rcases g with⟨kvs,k,e,ey,l,eH⟩|⟨kvs,k,b,e,ey,eb,l,eH⟩
 ·subst ey eH
  obtain⟨z,hd,vs,rel,dd⟩:=Xw I.hok e
  have hz:vs.length<=sizeLine:=by rw[<-rel.length];exact z
  have hl:(putK kvs k v).length<=sizeLine:=by have:=cV kvs k v;omega
  refine wpAny_setItem_pairs (hsz:=hz) (yg ry) dd λh' Vd hs=>h _ ?_
  have he:∃q,h'.get? a=some q:=let ⟨q,_,_,hq,_⟩:=Vd;⟨q,hq⟩
  exact qQ I (by rw[e];exact True.intro) hs he (RT hl hd (rel.put k rv) Vd)
 ·subst ey eH
  cases(show u=Value.ref b from ry)
  obtain⟨z,hd,xs,rel,dd⟩:=Lk I.hok e
  have hz:xs.length<=sizeLine:=by rw[<-Paired.length rel];exact z
  have hl:(putK kvs k v).length<=sizeLine:=by have:=cV kvs k v;omega
  refine wpAny_setItem_heap (hsz:=hz) (tupleKind_room_in1 hu) (mq I.hok eb) dd λh' Vd hs=>h _ ?_
  obtain⟨q,es,ep,hq,h2,h3,h4,_,h5⟩:=Vd
  refine qQ I (by rw[e];exact True.intro) hs ⟨q,hq⟩ ⟨hl,hd,_,(rel.put k eb rv).keeps λc ys ec=>?_,q,es,ep,hq,h2,h3,h4,h5⟩
  rw[ċ (Ks ec e (λz=>nomatch z))]
  exact ec
end
section
variable{X:Cx}{pins:List (Addr×Obj)}{σ:St}{H:Hp}{s:Shared}{a:Addr}{kvs:List (Key×V)}{k:Key}{u:Value}{A:Around}{E:Value->Shared->Prop}
end
def RW(i:Expr):Prop:=∀ov iv,subscripted i false ov iv=operate [ov,iv] (getItem ov iv)
def Jw{prog:Program}{w:World}{A:Around}{E:Value->Shared->Prop}{s:Shared}{env:Env}{value slice:Expr}{pos:Pos}{T id:String}{Q:Value->Shared->Prop}
 (hl:typeLookup (.type T) "__getitem__" =pure (some (.builtin id)))(hs:RW slice)
 (h:wpAny (model prog w) A (eval value env) (λo s₁=>wpAny (model prog w) A (eval slice env) (λi s₂=>s₂.TypeIs o T/\wpAny (model prog w) A (getItem o i) Q E s₂) E s₁) E s) :
 wpAny (model prog w) A (eval (.Subscript value slice pos) env) Q E s:=by
 refine Subscript_ (wpAny_mono h (λo s₁ h₁=>wpAny_mono h₁ (λi s₂ h₂=>?_) λ_ _ x=>x) λ_ _ x=>x)
 obtain⟨hT,h₂⟩:=h₂
 unfold subscriptTail
 refine wpAny_bind ?_
 rw[getitemInPython_of_ne hT.not_modules]
 refine wpAny_bind (wpAny_specialOf hT hl ?_)
 have fin:wpAny (model prog w) A (subscripted slice false o i) (λr s₃=>wpAny (model prog w) A (letTemporaryGo value o r >>= λ_=>pure r) Q E s₃) E s₂:= by
  rw[hs o i]
  exact wpAny_operating (wpAny_mono h₂ (λr s₃ h₃=>wpAny_bind (wpAny_letTemporaryGo (wpAny_pure h₃))) λ_ _ x=>x)
 first
  |exact wpAny_pure (wpAny_bind fin)
  |exact wpAny_bind (wpAny_pure (wpAny_bind fin))
  |exact wpAny_bind fin
def uz{X:Cx}{pins:List (Addr×Obj)}{σ:St}{H:Hp}{s:Shared}{a:Addr}{y:V}{o:Option V}(I:Inv X pins σ H s)(g:oA H a y o):s.TypeIs (.ref a) "dict" := by
 rcases g with⟨kvs,k,e,_,_⟩|⟨kvs,k,b,e,_,_,_⟩
 ·obtain⟨_,_,vs,_,dd⟩:=mj I.hok e
  exact dd.typeIs
 ·obtain⟨_,_,xs,_,dd⟩:=uy I.hok e
  exact dd.typeIs
def Xx(td ty:TE):TE:=λσ H Q=>td σ H λx H1=>ty σ H1 λy H2=>∃a v,x=.ref a/\oA H2 a y (some v)/\Q v H2
def yj(ty td:TE):TE:=λσ H Q=>ty σ H λy H1=>td σ H1 λx H2=>∃a o,x=.ref a/\oA H2 a y o/\Q (.bl (!o.isSome)) H2
def Xy(td ty tv:TE):TS:=λD σ H=>tv σ H λv H1=>td σ H1 λx H2=>ty σ H2 λy H3=>∃a H4,x=.ref a/\vZ H3 a y v H4/\D.nx σ H4
section
variable{X:Cx}{o i e value:Expr}{pos pos' tpos:Pos}{td ty tv:TE}
def Jx(hu:X.A.units+1<cLine)(ho:PE X o td)(hi:PE X i ty)(hs:RW i):PE X (.Subscript o i pos) (Xx td ty):=by
 intro pins s σ H Q I h
 refine Jw PySem.F.slot_dict_getitem.lookup hs (ļ (ho pins s σ H _ I h) λu s1 ⟨x,H1,I1,rx,q1⟩=>ļ (hi pins s1 σ H1 _ I1 q1) λiv s2 ⟨y,H2,I2,ry,a,v,ex,g,q2⟩=>?_)
 subst ex
 obtain rfl:u=Value.ref a:=rx
 exact⟨uz I2 g,Af hu I2 g ry λw' s3 I3 BR=>⟨v,H2,I3,BR,q2⟩⟩
def Ah(hu:X.A.units+1<cLine)(hi:PE X i ty)(ho:PE X o td):PC X .NotIn i o (yj ty td):=by
 intro pins s σ H Q I h
 refine ļ (hi pins s σ H _ I h) λiv s1 ⟨y,H1,I1,ry,q1⟩=>ļ (ho pins s1 σ H1 _ I1 q1) λu s2 ⟨x,H2,I2,rx,a,ov,ex,g,q2⟩=>?_
 subst ex
 obtain rfl:u=Value.ref a:=rx
 exact Jv hu I2 g ry λs3 I3=>⟨.bl (!ov.isSome),H2,I3,rfl,q2⟩
def Jy(hu:X.A.units+1<cLine)(ho:PE X o td)(hi:PE X i ty)(hv:PE X value tv)(hs:swapsWith value (some (.Subscript o i pos')) pos.line X.env=pure false) :
 PS X (.Assign [.Subscript o i pos'] value pos) (Xy td ty tv):=by
 intro pins s σ H D I h
 refine wpAny_Assign_Subscript (ļ (hv pins s σ H _ I h) λr s1 ⟨v,H1,I1,rv,q1⟩=>ļ (ho pins s1 σ H1 _ I1 q1) λu s2 ⟨x,H2,I2,rx,q2⟩=>ļ (hi pins s2 σ H2 _ I2 q2) λiv s3 ⟨y,H3,I3,ry,a,H4,ex,g,q3⟩=>?_) hs
 subst ex
 obtain rfl:u=Value.ref a:=rx
 exact Ag hu I3 g ry rv λs4 I4=>⟨σ,H4,I4,q3⟩
end
def Ec{P:Program}{w:World}{H:Hp}(h:Heap)(hb:sysModules<h.objs.size):ľ P w H (h.push {cls:=.type "dict",data:=.dict #[]}) h.objs.size (.dK []):=
 ⟨Nat.zero_le _,beq_eq_false_iff_ne.mpr (Ne.symm (Nat.ne_of_lt hb)),[],.nil,Heap.DictOf.new h⟩
def Ed{P:Program}{w:World}{H:Hp}(h:Heap)(hb:sysModules<h.objs.size):ľ P w H (h.push {cls:=.type "dict",data:=.dict #[]}) h.objs.size (.dT []):=
 ⟨Nat.zero_le _,beq_eq_false_iff_ne.mpr (Ne.symm (Nat.ne_of_lt hb)),[],.nil,_,#[],0,Heap.get?_push_size _ rfl,⟨rfl,rfl,rfl⟩,rfl,rfl,List.nodup_nil⟩
def RX:TE:=λ_ H Q=>∀p,H p=none->Q (.ref p) (upd H p (.dK []))
def RZ:TE:=λ_ H Q=>∀p,H p=none->Q (.ref p) (upd H p (.dT []))
section
variable{X:Cx}{pos:Pos}
def Ef:PE X (.Dict [] [] pos) RX:=λpins s σ H Q I h=>
 wpAny_Dict_empty ⟨.ref s.heap.objs.size,_,I.laid (a:=s.heap.objs.size) (o:=.dK []) (t':=s.toks) (λ_ _ q=>Heap.get?_push_of_some _ q) (Nat.le_refl _) (Ec s.heap I.big),rfl,h _ (I.hok.fresh (Nat.le_refl _))⟩
def Eh:PE X (.Dict [] [] pos) RZ:=λpins s σ H Q I h=>
 wpAny_Dict_empty ⟨.ref s.heap.objs.size,_,I.laid (a:=s.heap.objs.size) (o:=.dT []) (t':=s.toks) (λ_ _ q=>Heap.get?_push_of_some _ q) (Nat.le_refl _) (Ed s.heap I.big),rfl,h _ (I.hok.fresh (Nat.le_refl _))⟩
end
structure M2(X:Cx)(o:Expr)(m:Str)(apos:Pos)(e f:Expr)(cpos:Pos):Prop where
 base:attributeBase o m X.env (eval o X.env)=eval o X.env
 few:((backTo cpos (starEach [e,f] X.env)).all (λx=>!x.1) && (backToKw cpos (keywordEach [] X.env)).all (λx=>x.1.isSome)
  && decide (([e,f]:List Expr).length+([]:List Keyword).length+(if([]:List Keyword).isEmpty then 0 else 1)<30))=true
 line:(apos.endLine== cpos.line)=true
 trees:backTo cpos (starEach [e,f] X.env)=[(false,eval e X.env),(false,eval f X.env)]
def IsD(H:Hp)(a:Addr):Prop:=(∃kvs,Rd H a (.dK kvs))\/∃kvs,Rd H a (.dT kvs)
def R_{X:Cx}{pins:List (Addr×Obj)}{σ:St}{H:Hp}{s:Shared}{a:Addr}(I:Inv X pins σ H s)(d:IsD H a) :
 s.TypeIs (.ref a) "dict" /\(∀b,Value.ref a=.ref b->∃ob,s.heap.get? b=some ob/\ob.dict=none)/\(a== sysModules)=false:=by
 rcases d with⟨kvs,e⟩|⟨kvs,e⟩
 ·obtain⟨_,hd,vs,_,dd⟩:=mj I.hok e
  refine⟨dd.typeIs,λb q=>?_,hd⟩
  cases q
  obtain⟨ob,_,_,h1,h2,_⟩:=dd
  exact⟨ob,h1,h2.2.1⟩
 ·obtain⟨_,hd,xs,_,dd⟩:=uy I.hok e
  refine⟨dd.typeIs,λb q=>?_,hd⟩
  cases q
  obtain⟨ob,_,_,h1,h2,_⟩:=dd
  exact⟨ob,h1,h2.2.1⟩
section
variable{X:Cx}{pins:List (Addr×Obj)}{σ:St}{H:Hp}{s:Shared}{a:Addr}{y d:V}{u r:Value}{o:Option V}{A:Around}{E:Value->Shared->Prop}
end
section
variable{X:Cx}{o e f:Expr}{apos cpos:Pos}{td ty tx:TE}
end
section
variable{X:Cx}{pins:List (Addr×Obj)}{σ:St}{H:Hp}{s:Shared}{a:Addr}{kvs:List (Key×V)}{A:Around}{E:Value->Shared->Prop}
end
section
variable{X:Cx}{pins:List (Addr×Obj)}{σ:St}{H:Hp}{s:Shared}{a:Addr}{y:V}{u:Value}{A:Around}{E:Value->Shared->Prop}
end
end L2
namespace Att
open PySem PySem.W PySem.Calls PyProof.Rows
section
variable{prog:Program}{w:World}{A:Around}{E:Value->Shared->Prop}{s:Shared}{K:Frag}
end
end Att
namespace L2
open PySem PySem.Spec PyProof.Rows
end L2
namespace L2
open PySem PySem.Spec PyProof.Rows
end L2
namespace L2
open PySem PySem.Spec PyProof.Rows
section
variable{P:Program}{w:World}{K:PySem.W.Frag}{mg:Str->Option Value}{base:Heap}
end
section
variable{X:Cx}
end
section
variable{κ:Type}[DecidableEq κ]
end
end L2
namespace P
open PySem PySem.Spec PyProof.Rows L2 M2 M3 M4
def pN:List PV->Option (List Int)
 | []=>some []
 | .int i::ps=>(pN ps).map (i:: ·)
 |_::_=>none
def Ai(t:Bool):PV->Option DK
 | .int i=>if t then none else some (.inl i)
 | .tup ps=>if t then(pN ps).map .inr else none
 |_=>none
def dval(kvs:List (DK×PV))(k:DK):Option PV:=(kvs.find? λkv=>decide (kv.1=k)).map (·.2)
def dput(kvs:List (DK×PV))(k:DK)(v:PV):List (DK×PV):=
 if(kvs.any λkv=>decide (kv.1=k))=true then kvs.map λkv=>if kv.1=k then(kv.1,v) else kv else kvs ++ [(k,v)]
section
variable{K:KK}{F:Hp}{α κ:Type}[DecidableEq κ]{c:α->DK}{kf:α->κ}(hc:∀{x y},c x=c y->x=y)(hk:∀{x y},kf x=kf y->x=y)
abbrev DG(K:KK)(F:Hp)(c:α->DK)(kf:α->κ):DK×PV->κ×V->Prop:=λp q=>(∃i,p.1=c i/\q.1=kf i)/\Rep K F p.2 q.2
include hc hk in
def mD{p:DK×PV}{q:κ×V}(h:DG K F c kf p q)(i:α):(p.1=c i)↔(q.1=kf i):=by
 obtain⟨⟨j,h1,h2⟩,_⟩:=h
 rw[h1,h2]
 exact⟨λe=>by rw[hc e],λe=>by rw[hk e]⟩
include hc hk in
theorem mF(i:α):∀{kvs:List (DK×PV)} {ks:List (κ×V)},Paired (DG K F c kf) kvs ks->(dval kvs (c i)=none/\aB ks (kf i)=none)\/∃p v,dval kvs (c i)=some p/\aB ks (kf i)=some v/\Rep K F p v
 |_,_,.nil=>.inl ⟨rfl,rfl⟩
 |p::kvs,q::ks,.cons r t=>by
  by_cases e:p.1=c i
  ·refine .inr ⟨p.2,q.2,?_,gB ((mD hc hk r i).mp e),r.2⟩
   simp[dval,List.find?_cons,e]
  ·have e2:=λz=>e ((mD hc hk r i).mpr z)
   have h1:dval (p::kvs) (c i)=dval kvs (c i):=by simp[dval,List.find?_cons,e]
   rw[h1,gC e2]
   exact mF i t
include hc hk in
theorem Ei(i:α):∀{kvs:List (DK×PV)} {ks:List (κ×V)},Paired (DG K F c kf) kvs ks->(kvs.any λkv=>decide (kv.1=c i))=ks.any λkv=>decide (kv.1=kf i)
 |_,_,.nil=>rfl
 |p::kvs,q::ks,.cons r t=>by
  rw[List.any_cons,List.any_cons,Ei i t]
  congr 1
  exact decide_eq_decide.mpr (mD hc hk r i)
theorem yq{α β:Type}{G:α->β->Prop}{x:α}{y:β}(h:G x y):∀{l:List α} {m:List β},Paired G l m->Paired G (l ++ [x]) (m ++ [y])
 |_,_,.nil=>.cons h .nil
 |_,_,.cons r t=>.cons r (yq h t)
include hc hk in
theorem Ej(i:α){p:PV}{v:V}(hr:Rep K F p v):∀{kvs:List (DK×PV)} {ks:List (κ×V)},Paired (DG K F c kf) kvs ks->Paired (DG K F c kf) (kvs.map λkv=>if kv.1=c i then(kv.1,p) else kv) (ks.map λkv=>if kv.1=kf i then(kv.1,v) else kv)
 |_,_,.nil=>.nil
 |a::kvs,b::ks,.cons r t=>by
  refine .cons ?_ (Ej i hr t)
  dsimp only
  by_cases e:a.1=c i
  ·rw[if_pos e,if_pos ((mD hc hk r i).mp e)]
   exact⟨r.1,hr⟩
  ·rw[if_neg e,if_neg λz=>e ((mD hc hk r i).mpr z)]
   exact r
include hc hk in
def Ek(i:α){p:PV}{v:V}(hr:Rep K F p v){kvs:List (DK×PV)}{ks:List (κ×V)}(h:Paired (DG K F c kf) kvs ks):Paired (DG K F c kf) (dput kvs (c i) p) (putK ks (kf i) v):=by
 unfold dput putK
 rw[Ei hc hk i h]
 split
 ·exact Ej hc hk i hr h
 ·exact yq ⟨⟨i,rfl,rfl⟩,hr⟩ h
end
def aN{β γ:Type}{x y:β}(h:(Sum.inl x:Sum β γ)=.inl y):x=y:=by injection h
def wg{K:KK}{F:Hp}{kvs:List (DK×PV)}{u:HO}(h:qC K F false kvs u):∃ks:List (Key×V),u=.dK ks/\Paired (DG K F (Sum.inl:Int->DK) (Sum.inl:Int->Key)) kvs ks:=by
 rcases h with⟨_,ks,h1,h2⟩|⟨h0,_⟩
 ·exact⟨ks,h1,h2⟩
 ·cases h0
def yr{K:KK}{F:Hp}{kvs:List (DK×PV)}{ks:List (Key×V)}(h:Paired (DG K F (Sum.inl:Int->DK) (Sum.inl:Int->Key)) kvs ks):qC K F false kvs (.dK ks):=.inl ⟨rfl,ks,rfl,h⟩
section
variable{X:Cx}{cm:String->Addr}{E:L2.St->XK}{e o:Expr}{pos:Pos}{ma mk mv:M PV}
def El{H:Hp}{a:Addr}{kvs:List (Key×V)}{k:Key}(e:Rd H a (.dK kvs)):oA H a (kV k) (aB kvs k):=.inl ⟨kvs,k,e,rfl,rfl⟩
def gD(ρ:Ĳ)(i:Nat):Option (List (DK×PV)):=match ρ[i]? with
 |some (.od false kvs)=>some kvs
 |some (.bd false kvs)=>some kvs
 |_=>none
def mG{c:Ctx}{F H:Hp}{σ:L2.St}{ρ:Ĳ}{i:Nat}{kvs:List (DK×PV)}{K:KK}(rel:Rel K c F H σ ρ)(h:gD ρ i=some kvs):∃a ks,σ[i]?=some (some (.ref a))/\Rd H a (.dK ks)/\Paired (DG K F (Sum.inl:Int->DK) (Sum.inl:Int->Key)) kvs ks:=by
 unfold gD at h
 split at h
 ·rename_i kvs' e
  cases h
  obtain⟨a,u,h1,h2,h3,h4,h5⟩:=rel.slot i _ e
  obtain⟨ks,rfl,h6⟩:=wg h5
  exact⟨a,ks,at_of h1,.inl h2,h6⟩
 ·rename_i kvs' e
  cases h
  obtain⟨a,u,h1,h2,h3⟩:=rel.slot i _ e
  obtain⟨ks,rfl,h6⟩:=wg h3
  exact⟨a,ks,at_of h1,h2.elim (λh2=>.inl (rel.lent a _ h2).1) λ⟨ob,e⟩=>.inr ⟨ob,rel.sub _ _ e⟩,h6⟩
 ·cases h
def jq(i:Nat)(mk:M PV):M PV:=λρ=>match gD ρ i with
 |some _=>(mk ρ).bind λk ρ1=>match gD ρ1 i,k with
  |some kvs,.int j=>Res.jW (dval kvs (.inl j)) ρ1
  |_,_=>.bad
 |none=>.bad
def wj(i:Nat){x:Str}{px:Pos}(hu:X.A.units+64<cLine)(hk:PE X e (tV (kk X cm) E mk))(hs:RW e:=by intro _ _;rfl)(hN:X.N[i]?=some x:=by rfl)(hv:sE X.env.scope x:=by first|exact Or.inl rfl|exact Or.inr (Or.inl rfl)|exact Or.inr (Or.inr rfl))(hd:(x== ("__debug__" :Str))=false:=by decide)
 (hcd:(x== ("__classdict__" :Str))=false:=by decide):PE X (.Subscript (.Name x px) e pos) (tV (kk X cm) E (jq i mk)):=PE.wk (Jx (by omega) (Ů hN hv hd hcd) hk hs) λσ H Q ⟨c,F,ρ,rel,h⟩=>by
 unfold jq at h
 cases e1:gD ρ i with
 |none=>rw[e1] at h;exact h.elim
 |some Xz=>
  rw[e1] at h
  obtain⟨a,ks0,z1,_,_⟩:=mG rel e1
  refine⟨.ref a,z1,c,F,ρ,rel,h.bind λk ρ1 y F1 H1 ć s1 s2 r1 h1=>?_⟩
  cases e2:gD ρ1 i with
  |none=>rw[e2] at h1;exact h1.elim
  |some kvs=>
   rw[e2] at h1
   cases k with
   |int j=>
    obtain⟨b,ks,w1,w2,w3⟩:=mG ć e2
    rw[z1] at w1
    cases w1
    have ey:y=.int j:=by have:Rep (kk X cm) F1 (.int j) y:=r1;unfold Rep at this;exact this
    subst ey
    dsimp only at h1
    rcases mF (c:=(Sum.inl:Int->DK)) (kf:=(Sum.inl:Int->Key)) aN aN j w3 with⟨q1,_⟩|⟨p,v,q1,q2,q3⟩
    ·rw[q1] at h1;exact h1.elim
    ·rw[q1] at h1
     refine⟨a,v,rfl,?_,h1 v F1 H1 ć (Same.refl _) (Same.refl _) q3⟩
     have:=El (k:=.inl j) w2
     rw[q2] at this
     exact this
   |_=>exact h1.elim
def Jz(b:Bool)(i:Nat)(mk:M PV):M PV:=λρ=>(mk ρ).bind λk ρ1=>match gD ρ1 i,k with
 |some kvs,.int j=>.ok (.bl ((dval kvs (.inl j)).isSome != b)) ρ1
 |_,_=>.bad
def Sd{m:M PV}{σ:L2.St}{H:Hp}{Q:Bool->Hp->Prop}(h:tB (kk X cm) E (cH m) σ H Q):tV (kk X cm) E m σ H λx H1=>∃b,x=.bl b/\Q b H1:=by
 obtain⟨c,F,ρ,rel,h⟩:=h
 refine⟨c,F,ρ,rel,h.bind λp ρ1 v F1 H1 ć _ _ r1 h1=>?_⟩
 cases p with
 |bl b=>
  have e:v=.bl b:=by have r1':Rep (kk X cm) F1 (.bl b) v:=r1;unfold Rep at r1';exact r1'
  subst e
  exact⟨b,rfl,h1 b F1 H1 ć (Same.refl _) (Same.refl _) rfl⟩
 |_=>exact h1.elim
def Sg{i:Nat}{σ:L2.St}{H:Hp}{Q:V->Hp->Prop}(h:tV (kk X cm) E (Jz true i mk) σ H Q):yj (tV (kk X cm) E mk) (nY i) σ H Q:=by
 obtain⟨c,F,ρ,rel,h⟩:=h
 exact⟨c,F,ρ,rel,h.bind λk ρ1 y F1 H1 ć s1 s2 r1 h1=>by
  cases e2:gD ρ1 i with
  |none=>rw[e2] at h1;exact h1.elim
  |some kvs=>
   rw[e2] at h1
   cases k with
   |int j=>
    obtain⟨b,ks,w1,w2,w3⟩:=mG ć e2
    have ey:y=.int j:=by have:Rep (kk X cm) F1 (.int j) y:=r1;unfold Rep at this;exact this
    subst ey
    dsimp only at h1
    refine⟨.ref b,w1,b,_,rfl,El (k:=.inl j) w2,?_⟩
    have eq:(!(aB ks (Sum.inl j)).isSome)=((dval kvs (.inl j)).isSome != true):=by
     rcases mF (c:=(Sum.inl:Int->DK)) (kf:=(Sum.inl:Int->Key)) aN aN j w3 with⟨q1,q2⟩|⟨p,v,q1,q2,_⟩<;>rw[q1,q2]<;>rfl
    rw[eq]
    exact h1 _ F1 H1 ć (Same.refl _) (Same.refl _) (by show Rep _ _ _ _;unfold Rep;rfl)
   |_=>exact h1.elim⟩
def Sh(i:Nat){x:Str}{px:Pos}(hu:X.A.units+64<cLine)(hk:PE X e (tV (kk X cm) E mk))(hN:X.N[i]?=some x:=by rfl)(hv:sE X.env.scope x:=by first|exact Or.inl rfl|exact Or.inr (Or.inl rfl)|exact Or.inr (Or.inr rfl))(hd:(x== ("__debug__" :Str))=false:=by decide)
 (hcd:(x== ("__classdict__" :Str))=false:=by decide)(h1:behindInMarks .NotIn (.Name x px)=false:=by first|exact Bm _ (by decide) (by decide)|rfl):PT X (.Compare e [.NotIn] [.Name x px] pos) (tB (kk X cm) E (cH (Jz true i mk))):=PT.wk (PB (Ah (by omega) hk (Ů hN hv hd hcd)) h1) λσ H Q h=>Sg (Sd h)
def yt(i:Nat):M Fl:=λρ=>.ok .nx (ρ.set i (.od false []))
def Em{i:Nat}{x:Str}{pos' p0:Pos}(hN:X.N.Nodup)(hi:X.N[i]?=some x)(hx:Loc X.env.scope x)(hs:swapsWith (.Dict [] [] p0) (some (.Name x pos')) pos.line X.env=pure false:=by rfl)(hf:X.fn x=true\/X.env.scope.names.lookup x=some .local:=by first|exact .inl rfl|exact .inr rfl|assumption) :
 PS X (.Assign [.Name x pos'] (.Dict [] [] p0) pos) (tS (kk X cm) E (yt i)):=PS.wk (qj hN hi hx Ef hs hf) λD σ H ⟨c,F,ρ,rel,h⟩ p hp=>by
 have ć:=rel.made (o:=.dK []) hp
 exact h _ F _ (ć.zR (s:=.od false []) ⟨p,.dK [],rfl,č,rel.sub.free hp,rel.base.free hp,yr .nil⟩ λ_ z=>V.ref.inj z▸rel.fresh hp) (Same.refl _)
def yu(i:Nat)(mk mv:M PV):M Fl:=λρ=>(mv ρ).bind λp ρ1=>match ρ1[i]? with
 |some (.od false _)=>(mk ρ1).bind λk ρ2=>match ρ2[i]?,k with
  |some (.od false kvs),.int j=>if kvs.length<16777216 then .ok .nx (ρ2.set i (.od false (dput kvs (.inl j) p))) else .bad
  |_,_=>.bad
 |_=>.bad
def Eo{i:Nat}{x:Str}{ix:Expr}{px XC:Pos}(hu:X.A.units+64<cLine)(he:PE X e (tV (kk X cm) E mv))(hi:PE X ix (tV (kk X cm) E mk))(ho:PE X (.Name x px) (nY i))
 (hs:swapsWith e (some (.Subscript (.Name x px) ix XC)) pos.line X.env=pure false:=by rfl) :
 PS X (.Assign [.Subscript (.Name x px) ix XC] e pos) (tS (kk X cm) E (yu i mk mv)):=PS.wk (Jy (by omega) ho hi he hs) λD σ H ⟨c,F,ρ,rel,h⟩=>⟨c,F,ρ,rel,ř.bind h λp ρ1 v F1 H1 ć s1 q h1=>by
 cases e1:ρ1[i]? with
 |none=>rw[e1] at h1;exact h1.elim
 |some sl=>
  rw[e1] at h1
  cases sl with
  |od t0 Xz=>
   cases t0 with
   |true=>exact h1.elim
   |false=>
    obtain⟨a,u0,z1,_,_,_,_⟩:=ć.slot i _ e1
    refine⟨.ref a,at_of z1,c,F1,ρ1,ć,ř.bind h1 λq' ρ2 y F2 H2 Ġ s2 r2 h2=>?_⟩
    cases e2:ρ2[i]? with
    |none=>rw[e2] at h2;exact h2.elim
    |some sl2=>
     rw[e2] at h2
     cases sl2 with
     |od t kvs=>
      cases t with
      |true=>exact h2.elim
      |false=>
       cases q' with
       |int j=>
        have ey:y=.int j:=by have:Rep (kk X cm) F2 (.int j) y:=r2;unfold Rep at this;exact this
        subst ey
        dsimp only at h2
        obtain⟨a2,u,w1,w2,w3,w4,w5⟩:=Ġ.slot i _ e2
        obtain⟨ks,rfl,w6⟩:=wg w5
        have e3:=at_of z1
        rw[at_of w1] at e3
        have e3':a2=a:=by injection e3 with e3;injection e3 with e3;injection e3
        subst e3'
        split at h2
        ·rename_i hz
         have hl:ks.length<sizeLine:=by rw[<-Paired.length w6,ğ];exact hz
         refine⟨a2,_,rfl,vZ.k (k:=.inl j) w2 hl,h2 σ F2 _ (Ġ.qD ⟨_,_,e2,at_of w1,rfl⟩ ⟨a2,_,w1,č,w3,w4,yr (Ek aN aN j (Rep.same s2 p v q) w6)⟩ λx' b ex z=>?_) (Same.refl _)⟩
         rw[at_of w1] at ex
         cases ex
         have:a2=b:=V.ref.inj z
         subst this
         exact⟨_,_,e2,at_of w1,rfl⟩
        ·exact h2.elim
       |_=>exact h2.elim
     |_=>exact h2.elim
  |_=>exact h1.elim⟩
@[simp] theorem ZaK{i:Nat}{ρ:Ĳ}:yt i ρ=.ok .nx (ρ.set i (.od false [])):=rfl
@[simp] theorem ZaL{i:Nat}{ρ:Ĳ}:yu i mk mv ρ=(mv ρ).bind fun p ρ1=>match ρ1[i]? with
  |some (.od false _)=>(mk ρ1).bind λk ρ2=>match ρ2[i]?,k with
   |some (.od false kvs),.int j=>if kvs.length<16777216 then .ok .nx (ρ2.set i (.od false (dput kvs (.inl j) p))) else .bad
   |_,_=>.bad
  |_=>.bad:=rfl
@[simp] theorem ZaM{i:Nat}{ρ:Ĳ}:jq i mk ρ=(match gD ρ i with
  |some _=>(mk ρ).bind λk ρ1=>match gD ρ1 i,k with
   |some kvs,.int j=>Res.jW (dval kvs (.inl j)) ρ1
   |_,_=>.bad
  |none=>.bad):=rfl
@[simp] theorem Zcq{b:Bool}{i:Nat}{ρ:Ĳ}:Jz b i mk ρ=(mk ρ).bind fun k ρ1=>match gD ρ1 i,k with
  |some kvs,.int j=>.ok (.bl ((dval kvs (.inl j)).isSome != b)) ρ1
  |_,_=>.bad:=rfl
end
end P
namespace P
open PySem PySem.Spec PyProof.Rows L2 M2 M3 M4
theorem gF{P:Program}{w:World}:∀{kvs:List (Key×V)} {vs:List (Key×Value)} {acc:List Value} {ns:List Int},KV kvs vs->kvs.map (·.1)=ns.map .inl->acc.length=vs.length->(∀(j:Nat) v,acc[j]?=some v->∃k x,vs[j]?=some (k,x)/\(ı P w).is k v=true)->IntsAre acc ns
 | [],[],acc,ns,_,h1,h2,_=>by
   cases ns with
   |cons n ns=>cases h1
   |nil=>
    cases acc with
    |nil=>exact .nil
    |cons a acc=>simp at h2
 |kv::kvs,q::vs,acc,ns,.cons r t,h1,h2,h3=>by
  cases ns with
  |nil=>cases h1
  |cons n ns=>
   cases acc with
   |nil=>simp at h2
   |cons a acc=>
    injection h1 with e1 e2
    obtain⟨k,x,hx,hk⟩:=h3 0 a rfl
    have eq:q=(k,x):=by simpa using hx
    have ek:k=.inl n:=by
     have h:=r.1
     rw[eq] at h
     exact h.symm.trans e1
    subst ek
    have ih:=gF t e2 (by simpa using h2) λj v hv=>by simpa using h3 (j+1) v (by simpa using hv)
    have hk:Value.isInt n a=true:=hk
    obtain⟨t,rfl⟩:∃t,a=.int n t:=by
     cases a<;>simp[Value.isInt] at hk
     exact⟨_,by rw[hk]⟩
    exact .cons n t ih
section
variable{X:Cx}{cm:String->Addr}{E:L2.St->XK}{e:Expr}{pos:Pos}
end
end P
namespace P
open PySem PySem.Spec PyProof.Rows L2 M2 M3 M4
def insI(n:Int):List Int->List Int
 | []=>[n]
 |m::ms=>if n<=m then n::m::ms else m::insI n ms
def gG:List Int->List Int
 | []=>[]
 |n::ns=>insI n (gG ns)
theorem insI_perm(n:Int):∀ms,(insI n ms).Perm (n::ms)
 | []=>.refl _
 |m::ms=>by
  unfold insI
  split
  ·exact .refl _
  ·exact((insI_perm n ms).cons m).trans (.swap n m ms)
theorem ŵ:∀ns,(gG ns).Perm ns
 | []=>.refl _
 |n::ns=>(insI_perm n _).trans ((ŵ ns).cons n)
theorem jr(n:Int):∀{ms:List Int},ms.Pairwise (·<= ·)->(insI n ms).Pairwise (·<= ·)
 | [],_=>by simp[insI]
 |m::ms,h=>by
  obtain⟨h1,h2⟩:=List.pairwise_cons.mp h
  unfold insI
  split
  ·rename_i hn
   refine List.pairwise_cons.mpr ⟨λx hx=>?_,h⟩
   rcases List.mem_cons.mp hx with rfl|hx
   ·exact hn
   ·exact Int.le_trans hn (h1 x hx)
  ·rename_i hn
   refine List.pairwise_cons.mpr ⟨λx hx=>?_,jr n h2⟩
   rcases List.mem_cons.mp ((insI_perm n ms).mem_iff.mp hx) with rfl|hx
   ·omega
   ·exact h1 x hx
theorem ū:∀ns,(gG ns).Pairwise (·<= ·)
 | []=>.nil
 |n::ns=>jr n (ū ns)
theorem dF:∀{l m:List Int},l.Pairwise (·<= ·)->m.Pairwise (·<= ·)->l.Perm m->l=m
 | [],m,_,_,h=>(List.nil_perm.mp h).symm
 |a::l,[],_,_,h=>by simpa using h.length_eq
 |a::l,b::m,h1,h2,h=>by
  obtain⟨p1,p2⟩:=List.pairwise_cons.mp h1
  obtain⟨q1,q2⟩:=List.pairwise_cons.mp h2
  have ab:a=b:=by
   have m1:a∈b::m:=h.mem_iff.mp List.mem_cons_self
   have m2:b∈a::l:=h.mem_iff.mpr List.mem_cons_self
   rcases List.mem_cons.mp m1 with e|m1
   ·exact e
   ·rcases List.mem_cons.mp m2 with e|m2
    ·exact e.symm
    ·have:=p1 b m2
     have:=q1 a m1
     omega
  subst ab
  rw[dF p2 q2 (h.cons_inv)]
def bF(kvs:List (DK×PV)):List Int:=kvs.filterMap λkv=>match kv.1 with
 | .inl i=>some i
 | .inr _=>none
theorem yx{K:KK}{F:Hp}:∀{kvs:List (DK×PV)} {ks:List (Key×V)},Paired (DG K F (Sum.inl:Int->DK) (Sum.inl:Int->Key)) kvs ks->ks.map (·.1)=(bF kvs).map .inl/\(bF kvs).length=kvs.length
 |_,_,.nil=>⟨rfl,rfl⟩
 |p::kvs,q::ks,.cons ⟨⟨i,r1,r2⟩,_⟩ t=>by
  obtain⟨h1,h2⟩:=yx t
  have e:bF (p::kvs)=i::bF kvs:=by
   unfold bF
   rw[List.filterMap_cons,r1]
  rw[e,List.map_cons,List.map_cons,h1,r2]
  exact⟨rfl,by simp[h2]⟩
section
variable{X:Cx}{cm:String->Addr}{E:L2.St->XK}{pos:Pos}
theorem pO{K:KK}{F:Hp}:∀ms:List Int,Ĉ K F (ms.map .int) (ms.map V.int)
 | []=>Ĉ.nil
 |m::ms=>Ĉ.cons (by unfold Rep;rfl) (pO ms)
end
end P
namespace P
open PySem PySem.Spec PyProof.Rows L2 M2 M3 M4
section
variable{X:Cx}{cm:String->Addr}{E:L2.St->XK}{tg:Expr}{pos:Pos}
end
end P
namespace P
open PySem PySem.Spec PyProof.Rows L2 M2 M3 M4
def keyV:Value->Int
 | .int n _=>n
 |_=>0
section
variable{prog:Program}{w:World}{A:Around}{E:Value->Shared->Prop}{s:Shared}
end
end P
namespace P
open PySem PySem.Spec PyProof.Rows L2 M2 M3 M4
section
variable{prog:Program}{w:World}{A:Around}{E:Value->Shared->Prop}{s:Shared}{it a:Addr}{es:Array (Int×Value)}{ep:Nat}{t:SetTable}
end
end P
namespace P
open PySem PySem.Spec PyProof.Rows L2 M2 M3 M4
section
variable{prog:Program}{w:World}{A:Around}{E:Value->Shared->Prop}{s:Shared}{it a:Addr}{es:Array (Int×Value)}{ep:Nat}{t:SetTable}
end
end P
namespace P
open PySem PySem.Spec PyProof.Rows L2 M2 M3 M4
section
variable{prog:Program}{w:World}{A:Around}{E:Value->Shared->Prop}{s:Shared}{it a:Addr}{es:Array (Int×Value)}{ep:Nat}{t:SetTable}
end
end P
namespace P
open PySem PySem.Spec PyProof.Rows L2 M2 M3 M4
section
variable{prog:Program}{w:World}{A:Around}{E:Value->Shared->Prop}{s:Shared}{a:Addr}{es:Array (Int×Value)}{ep:Nat}{t:SetTable}
end
end P
namespace P
open PySem PySem.Spec PyProof.Rows L2 M2 M3 M4
section
variable{prog:Program}{w:World}{A:Around}{E:Value->Shared->Prop}{s:Shared}{a:Addr}{es:Array (Int×Value)}{ep:Nat}{t:SetTable}
end
end P
namespace P
open PySem PySem.Spec PyProof.Rows L2 M2 M3 M4
section
variable{X:Cx}{cm:String->Addr}{E:L2.St->XK}{l:Expr}{p pos p1 pos1:Pos}
def qR:∀{ws vs:List Value} {ns:List Int},ws.Perm vs->IntsAre vs ns->∃ms,IntsAre ws ms/\ms.Perm ns:=by
 intro ws vs ns h
 induction h generalizing ns with
 |nil=>intro hi;exact⟨ns,hi,.refl _⟩
 |cons x _ ih=>
  intro hi
  cases hi with
  |cons n t r=>obtain⟨ms,m1,m2⟩:=ih r;exact⟨n::ms,.cons n t m1,m2.cons n⟩
 |swap x y _=>
  intro hi
  cases hi with
  |cons n t r=>
   cases r with
   |cons m t2 r=>exact⟨m::n::_,.cons m t2 (.cons n t r),.swap _ _ _⟩
 |trans _ _ ih1 ih2=>
  intro hi
  obtain⟨ms,m1,m2⟩:=ih2 hi
  obtain⟨ks,k1,k2⟩:=ih1 m1
  exact⟨ks,k1,k2.trans m2⟩
end
end P
namespace iM
open PySem PyProof.Rows
abbrev SM:=StateT SortSt Sem
def aO:Bool->Keyed->Array Keyed->Nat->Nat->Nat->SM (Option Nat):=sortPriv% PySem.Builtin.gallop
abbrev GS:=Option (Option Nat)×Nat×Nat
def JB(f:Nat->SM (Option Bool))(n lo hi:Nat):SM (Option Nat):=
 (forIn [:n] ((none,lo,hi):GS) fun _ q=>if q.2.1 ≥ q.2.2 then pure (ForInStep.done (none,q.2.1,q.2.2)) else f (q.2.1+(q.2.2-q.2.1) / 2) >>= fun r=>match r with
   |some c=>if c=true then pure (.yield (none,q.2.1+(q.2.2-q.2.1) / 2+1,q.2.2)) else pure (.yield (none,q.2.1,q.2.1+(q.2.2-q.2.1) / 2))
   |_=>pure (.done (some none,q.2.1,q.2.2))) >>= λq=>match q.1 with
   |some r=>pure r
   |none=>pure (some q.2.2)
def gR(f:Nat->SM (Option Bool))(n h:Nat):SM GS:=
 forIn [:n] ((none,0,1):GS) λ_ q=>if q.2.2 >= n-h then pure (.done (none,q.2.1,q.2.2)) else f (h+q.2.2) >>= λr=>match r with
  |some c=>if(!c)=true then pure (.done (none,q.2.1,q.2.2)) else pure (.yield (none,q.2.2,2*q.2.2+1))
  |_=>pure (.done (some none,q.2.1,q.2.2))
def gL(f:Nat->SM (Option Bool))(n h:Nat):SM GS:=
 forIn [:n] ((none,0,1):GS) λ_ q=>if q.2.2 >= h+1 then pure (.done (none,q.2.1,q.2.2)) else f (h-q.2.2) >>= λr=>match r with
  |some c=>if c=true then pure (.done (none,q.2.1,q.2.2)) else pure (.yield (none,q.2.2,2*q.2.2+1))
  |_=>pure (.done (some none,q.2.1,q.2.2))
def gal(f:Nat->SM (Option Bool))(n h:Nat):SM (Option Nat):=
 f h >>= fun r=>match r with
   |some c=>if c=true then gR f n h >>= fun q=>(match q.1 with
     |some r=>pure r
     |none=>JB f n (h+q.2.1+1) (h+min q.2.2 (n-h)))
    else gL f n h >>= λq=>(match q.1 with
     |some r=>pure r
     |none=>JB f n (h+1-min q.2.2 (h+1)) (h-q.2.1))
   |_=>pure none
def bey(left:Bool)(k:Keyed)(arr:Array Keyed)(base:Nat)(i:Nat):SM (Option Bool):=
 elem' arr (base+i) >>= λx=>if left=true then lt' x k else lt' k x >>= λr=>pure (r.map (!·))
def Aj(left:Bool)(k:Keyed)(arr:Array Keyed)(base n h:Nat):aO left k arr base n h=gal (bey left k arr base) n h:=by kernel_rfl
section
variable{M:Model}{A:Around}{E:Value->Shared->Prop}{s:Shared}{st:SortSt}{f:Nat->SM (Option Bool)}{b:Nat->Bool}{n h:Nat}
structure Cut(b:Nat->Bool)(n r:Nat):Prop where
 le:r<=n
 yes:∀i,i<r->b i=true
 no:∀i,r<=i->i<n->b i=false
def yC{lo hi:Nat}{Q:Option Nat->SortSt->Prop}(hf:∀i,i<n->∀Q:Option Bool->SortSt->Prop,Q (some (b i)) st->wpS M A E s (f i) Q st)(mono:∀i j,i<=j->j<n->b j=true->b i=true)
 (h1:lo<=hi)(h2:hi<=n)(h3:∀i,i<lo->b i=true)(h4:∀i,hi<=i->i<n->b i=false)(h:∀r,Cut b n r->Q (some r) st):wpS M A E s (JB f n lo hi) Q st:=by
 unfold JB
 refine wpS_bind (wpS_mono (wpS_forRange (I:=λx c st'=>st'=st/\∃lo hi,c=(none,lo,hi)/\lo<=hi/\hi<=n/\hi-lo<=n-x/\(∀i,i<lo->b i=true)/\(∀i,hi<=i->i<n->b i=false)) (Q:=λc st'=>st'=st/\∃r,c=(none,r,r)/\Cut b n r) ?step ?fin ⟨rfl,lo,hi,rfl,h1,h2,by omega,h3,h4⟩) ?post)
 case fin=>
  rintro c st' ⟨rfl,lo,hi,rfl,a1,a2,a3,a4,a5⟩
  have e:lo=hi:=by omega
  subst e
  exact⟨rfl,lo,rfl,a2,a4,a5⟩
 case step=>
  rintro x c st' _ hx ⟨rfl,lo,hi,rfl,a1,a2,a3,a4,a5⟩
  dsimp only
  by_cases hl:lo >= hi
  ·rw[if_pos hl]
   have e:lo=hi:=by omega
   subst e
   exact wpS_pure ⟨rfl,lo,rfl,a2,a4,a5⟩
  ·rw[if_neg hl]
   refine wpS_bind (hf _ (by omega) _ ?_)
   dsimp only
   cases hb:b (lo+(hi-lo) / 2) with
   |true=>
    rw[if_pos rfl]
    refine wpS_pure ⟨rfl,_,_,rfl,by omega,a2,by omega,λi hi'=>mono i _ (by omega) (by omega) hb,a5⟩
   |false=>
    rw[if_neg Bool.false_ne_true]
    refine wpS_pure ⟨rfl,_,_,rfl,by omega,by omega,by omega,a4,λi hi' hn=>?_⟩
    cases hc:b i with
    |false=>rfl
    |true=>rw[mono _ i hi' hn hc] at hb;cases hb
 case post=>
  rintro c st' ⟨rfl,r,rfl,hc⟩
  exact wpS_pure (h r hc)
def Sq{Q:Option Nat->SortSt->Prop}(hf:∀i,i<n->∀Q:Option Bool->SortSt->Prop,Q (some (b i)) st->wpS M A E s (f i) Q st)(mono:∀i j,i<=j->j<n->b j=true->b i=true)
 (hn:h<n)(hq:∀r,Cut b n r->Q (some r) st):wpS M A E s (gal f n h) Q st:=by
 have XD:∀i j,i<=j->j<n->b i=false->b j=false:=λi j z1 z2 z3=>by
  cases hc:b j with
  |false=>rfl
  |true=>rw[mono i j z1 z2 hc] at z3;cases z3
 unfold gal
 refine wpS_bind (hf h hn _ ?_)
 dsimp only
 cases hb:b h with
 |true=>
  rw[if_pos rfl]
  unfold gR
  refine wpS_bind (wpS_mono (wpS_forRange (I:=λx c st'=>st'=st/\∃lo ofs,c=(none,lo,ofs)/\lo<ofs/\x+1<=ofs/\lo<n-h/\b (h+lo)=true) (Q:=λc st'=>st'=st/\∃lo ofs,c=(none,lo,ofs)/\lo<ofs/\lo<n-h/\b (h+lo)=true/\(ofs<n-h->b (h+ofs)=false)) ?step ?fin ⟨rfl,0,1,rfl,by omega,by omega,by omega,hb⟩) ?post)
  case fin=>
   rintro c st' ⟨rfl,lo,ofs,rfl,a1,a2,a3,a4⟩
   exact⟨rfl,lo,ofs,rfl,a1,a3,a4,λz=>by omega⟩
  case step=>
   rintro x c st' _ hx ⟨rfl,lo,ofs,rfl,a1,a2,a3,a4⟩
   dsimp only
   by_cases hl:ofs >= n-h
   ·rw[if_pos hl]
    exact wpS_pure ⟨rfl,lo,ofs,rfl,a1,a3,a4,λz=>by omega⟩
   ·rw[if_neg hl]
    refine wpS_bind (hf _ (by omega) _ ?_)
    dsimp only
    cases hc:b (h+ofs) with
    |true=>
     rw[if_neg (by simp)]
     exact wpS_pure ⟨rfl,ofs,_,rfl,by omega,by omega,by omega,hc⟩
    |false=>
     rw[if_pos (show(!false)=true from rfl)]
     exact wpS_pure ⟨rfl,lo,ofs,rfl,a1,a3,a4,λ_=>hc⟩
  case post=>
   rintro c st' ⟨rfl,lo,ofs,rfl,a1,a2,a3,a4⟩
   dsimp only
   refine yC hf mono (by omega) (by omega) (λi hi=>mono i _ (by omega) (by omega) a3) (λi hi hin=>?_) hq
   by_cases hz:ofs<n-h
   ·exact XD _ i (by omega) hin (a4 hz)
   ·omega
 |false=>
  rw[if_neg Bool.false_ne_true]
  unfold gL
  refine wpS_bind (wpS_mono (wpS_forRange (I:=λx c st'=>st'=st/\∃lo ofs,c=(none,lo,ofs)/\lo<ofs/\x+1<=ofs/\lo<=h/\b (h-lo)=false) (Q:=λc st'=>st'=st/\∃lo ofs,c=(none,lo,ofs)/\lo<ofs/\lo<=h/\b (h-lo)=false/\(ofs<=h->b (h-ofs)=true)) ?step ?fin ⟨rfl,0,1,rfl,by omega,by omega,by omega,hb⟩) ?post)
  case fin=>
   rintro c st' ⟨rfl,lo,ofs,rfl,a1,a2,a3,a4⟩
   exact⟨rfl,lo,ofs,rfl,a1,a3,a4,λz=>by omega⟩
  case step=>
   rintro x c st' _ hx ⟨rfl,lo,ofs,rfl,a1,a2,a3,a4⟩
   dsimp only
   by_cases hl:ofs >= h+1
   ·rw[if_pos hl]
    exact wpS_pure ⟨rfl,lo,ofs,rfl,a1,a3,a4,λz=>by omega⟩
   ·rw[if_neg hl]
    refine wpS_bind (hf _ (by omega) _ ?_)
    dsimp only
    cases hc:b (h-ofs) with
    |true=>
     rw[if_pos rfl]
     exact wpS_pure ⟨rfl,lo,ofs,rfl,a1,a3,a4,λ_=>hc⟩
    |false=>
     rw[if_neg Bool.false_ne_true]
     exact wpS_pure ⟨rfl,ofs,_,rfl,by omega,by omega,by omega,hc⟩
  case post=>
   rintro c st' ⟨rfl,lo,ofs,rfl,a1,a2,a3,a4⟩
   dsimp only
   refine yC hf mono (by omega) (by omega) (λi hi=>?_) (λi hi hin=>XD _ i (by omega) hin a3) hq
   by_cases hz:ofs<=h
   ·exact mono i _ (by omega) (by omega) (a4 hz)
   ·omega
end
end iM
namespace iM
open PySem PyProof.Rows
def cW(k:Keyed->Int)(l:List Keyed):Prop:=l.Pairwise λx y=>k x<=k y
def cW.app{k:Keyed->Int}{l m:List Keyed}(h1:cW k l)(h2:cW k m)(h:∀x∈l,∀y∈m,k x<=k y):cW k (l++m):=List.pairwise_append.mpr ⟨h1,h2,h⟩
structure MI(k:Keyed->Int)(N out ra rb:List Keyed):Prop where
 perm:(out++ra++rb).Perm N
 so:cW k out
 sa:cW k ra
 sb:cW k rb
 oa:∀x∈out,∀y∈ra,k x<=k y
 ob:∀x∈out,∀y∈rb,k x<=k y
section
variable{k:Keyed->Int}{N out ra rb p r:List Keyed}
def MI.uD(h:MI k N out (p++r) rb)(hp:∀x∈p,∀y∈rb,k x<=k y):MI k N (out++p) r rb:=by
 obtain⟨h1,h2,h3⟩:=List.pairwise_append.mp h.sa
 refine⟨?_,h.so.app h1 λx hx y hy=>h.oa x hx y (List.mem_append_left _ hy),h2,h.sb,λx hx y hy=>?_,λx hx y hy=>?_⟩
 ·have:=h.perm
  simpa[List.append_assoc] using this
 ·rcases List.mem_append.mp hx with z|z
  ·exact h.oa x z y (List.mem_append_right _ hy)
  ·exact h3 x z y hy
 ·rcases List.mem_append.mp hx with z|z
  ·exact h.ob x z y hy
  ·exact hp x z y hy
def MI.uE(h:MI k N out ra (p++r))(hp:∀x∈p,∀y∈ra,k x<=k y):MI k N (out++p) ra r:=by
 obtain⟨h1,h2,h3⟩:=List.pairwise_append.mp h.sb
 refine⟨?_,h.so.app h1 λx hx y hy=>h.ob x hx y (List.mem_append_left _ hy),h.sa,h2,λx hx y hy=>?_,λx hx y hy=>?_⟩
 ·refine List.Perm.trans ?_ h.perm
  rw[List.append_assoc,List.append_assoc,List.append_assoc]
  refine List.Perm.append_left _ ?_
  rw[<-List.append_assoc,<-List.append_assoc]
  exact List.perm_append_comm.append_right _
 ·rcases List.mem_append.mp hx with z|z
  ·exact h.oa x z y hy
  ·exact hp x z y hy
 ·rcases List.mem_append.mp hx with z|z
  ·exact h.ob x z y (List.mem_append_right _ hy)
  ·exact h3 x z y hy
def Good(k:Keyed->Int)(N:List Keyed)(l:List Keyed):Prop:=l.Perm N/\cW k l
def MI.Ep(h:MI k N out ra []):Good k N (out++ra ++ []):=⟨h.perm,by rw[List.append_nil];exact h.so.app h.sa h.oa⟩
def MI.Er(h:MI k N out [] rb):Good k N (out ++ []++rb):=⟨h.perm,by rw[List.append_nil];exact h.so.app h.sb h.ob⟩
def MI.XF(h:MI k N out ra rb)(hl:∀y∈rb,∀x∈ra,k y<=k x):Good k N (out++rb++ra):=by
 refine⟨List.Perm.trans ?_ h.perm,(h.so.app h.sb h.ob).app h.sa λx hx y hy=>?_⟩
 ·rw[List.append_assoc,List.append_assoc]
  exact List.Perm.append_left _ List.perm_append_comm
 ·rcases List.mem_append.mp hx with z|z
  ·exact h.oa x z y hy
  ·exact hl x z y hy
end
def dG{a:Array Keyed}{i:Nat}(h:i<a.size):a.toList.drop i=a[i]::a.toList.drop (i+1):=by
 rw[List.drop_eq_getElem_cons (by simpa using h)]
 simp
def ž(a:Array Keyed)(i j:Nat):(a.extract i j).toList=(a.toList.drop i).take (j-i):=by
 rw[Array.toList_extract]
 first|done|simp[List.extract_eq_take_drop]
def kh(a:Array Keyed)(i:Nat):(a.extract i a.size).toList=a.toList.drop i:=by
 rw[ž,List.take_of_length_le (by simp)]
def mH(l:List Keyed)(i m:Nat):l.drop i=(l.drop i).take m++l.drop (i+m):=by
 conv=>lhs;rw[<-List.take_append_drop m (l.drop i)]
 rw[List.drop_drop]
section
variable{prog:Program}{w:World}{A:Around}{E:Value->Shared->Prop}{s:Shared}{st:SortSt}{κ:SortKind}{k:Keyed->Int}{D:Keyed->Prop}
def iQ(prog:Program)(w:World)(A:Around)(s:Shared)(κ:SortKind)(k:Keyed->Int)(D:Keyed->Prop):Prop:=
 ∀x y,D x->D y->∀(Q:Bool->Shared->Prop) (E:Value->Shared->Prop),Q (decide (k x<k y)) s->wpAny (model prog w) A (keyLt' κ x.1 y.1) Q E s
def w_lt(hc:iQ prog w A s κ k D)(hk:kindOf st=κ){x y:Keyed}(hx:D x)(hy:D y){Q:Option Bool->SortSt->Prop}(h:Q (some (decide (k x<k y))) st):wpS (model prog w) A E s (lt' x y) Q st:=by
 rw[lt'_eq]
 refine wpS_bind (wpS_get ?_)
 rw[hk]
 refine wpS_bind (wpS_lift (wpAny_attempt (hc x y hx hy _ _ ⟨rfl,?_⟩)))
 exact wpS_pure h
def Ķ{arr:Array Keyed}{i:Nat}(hi:i<arr.size){Q:Keyed->SortSt->Prop}(h:Q arr[i] st):wpS (model prog w) A E s (elem' arr i) Q st:=by
 rw[elem'_eq,Array.getElem?_eq_getElem hi]
 exact wpS_pure h
def pP(hc:iQ prog w A s κ k D)(hk:kindOf st=κ){left:Bool}{y:Keyed}{arr:Array Keyed}{base n h:Nat}{Q:Option Nat->SortSt->Prop}(hy:D y)(ha:∀x∈arr.toList,D x)(hz:base+n<=arr.size)(hn:h<n)(hs:cW k ((arr.toList.drop base).take n))
 (hq:∀r,r<=n->(∀x∈(arr.toList.drop base).take r,if left=true then k x<k y else k x<=k y)->(∀x∈((arr.toList.drop base).take n).drop r,if left=true then k y<=k x else k y<k x)->Q (some r) st):wpS (model prog w) A E s (aO left y arr base n h) Q st:=by
 rw[Aj]
 have at_:∀i (hi:i<n),((arr.toList.drop base).take n)[i]?=some (arr[base+i]'(by omega)):=λi hi=>by
  rw[List.getElem?_take_of_lt hi,List.getElem?_drop,Array.getElem?_toList,Array.getElem?_eq_getElem (by omega)]
 let b:Nat->Bool:=λi=>match arr[base+i]? with
  |some x=>if left=true then decide (k x<k y) else !decide (k y<k x)
  |none=>false
 have bi:∀i (hi:i<n),b i=if left=true then decide (k (arr[base+i]'(by omega))<k y) else !decide (k y<k (arr[base+i]'(by omega))):=λi hi=>by
  show(match arr[base+i]? with|some x=>if left=true then decide (k x<k y) else !decide (k y<k x)|none=>false)=_
  rw[Array.getElem?_eq_getElem (by omega)]
 have le:∀i j (hij:i<=j) (hj:j<n),k (arr[base+i]'(by omega))<=k (arr[base+j]'(by omega)):=λi j hij hj=>by
  by_cases e:i=j
  ·subst e;exact Int.le_refl _
  ·obtain⟨i1,i2⟩:=List.getElem?_eq_some_iff.mp (at_ i (by omega))
   obtain⟨j1,j2⟩:=List.getElem?_eq_some_iff.mp (at_ j hj)
   have:=List.pairwise_iff_getElem.mp hs i j i1 j1 (by omega)
   rw[i2,j2] at this
   exact this
 refine Sq (b:=b) (λi hi Q' h'=>?_) (λi j hij hj hb=>?_) hn (λr hr=>?_)
 ·unfold bey
  rw[bi i hi] at h'
  have hD:D (arr[base+i]'(by omega)):=ha _ (by simp)
  refine wpS_bind (Ķ (by omega) ?_)
  cases left with
  |true=>rw[if_pos rfl] at h' ⊢;exact w_lt hc hk hD hy h'
  |false=>rw[if_neg Bool.false_ne_true] at h' ⊢;exact wpS_bind (w_lt hc hk hy hD (wpS_pure h'))
 ·rw[bi j hj] at hb
  rw[bi i (by omega)]
  have:=le i j hij hj
  cases left with
  |true=>simp at hb ⊢;omega
  |false=>simp at hb ⊢;omega
 ·refine hq r hr.le (λx hx=>?_) (λx hx=>?_)
  ·obtain⟨i,hi⟩:=List.getElem?_of_mem hx
   have hir:i<r:=by have:=(List.getElem?_eq_some_iff.mp hi).1;simp at this;omega
   have hin:i<n:=by have:=hr.le;omega
   rw[List.getElem?_take_of_lt hir,<-List.getElem?_take_of_lt hin,at_ i hin] at hi
   cases hi
   have:=hr.yes i hir
   rw[bi i hin] at this
   cases left with
   |true=>simpa using this
   |false=>simp at this ⊢;omega
  ·obtain⟨i,hi⟩:=List.getElem?_of_mem hx
   rw[List.getElem?_drop] at hi
   have hin:r+i<n:=by have:=(List.getElem?_eq_some_iff.mp hi).1;simp at this;omega
   rw[at_ _ hin] at hi
   cases hi
   have:=hr.no (r+i) (by omega) hin
   rw[bi _ hin] at this
   cases left with
   |true=>simp at this ⊢;omega
   |false=>simp at this ⊢;omega
end
end iM
namespace iM
open PySem PyProof.Rows
def mJ:Array Keyed->Array Keyed->SM (Array Keyed):=sortPriv% PySem.Builtin.mergeLo
def pQ:Nat->SM Unit:=sortPriv% PySem.Builtin.setMinGallop
abbrev OA:=Option (Array Keyed)
abbrev S1:=OA×Array Keyed×Nat×Nat×Nat×Nat
abbrev S2:=OA×Array Keyed×Nat×Nat×Nat×Nat×Nat
abbrev S3:=OA×Array Keyed×Nat×Nat×Nat
section
variable(a b:Array Keyed)
def dn(o:Array Keyed)(i j:Nat):Array Keyed:=o++a.extract i a.size++b.extract j b.size
def la(o:Array Keyed)(i j:Nat):Array Keyed:=o++b.extract j b.size++a.extract i a.size
def lo1(g:Nat)(q:S1):SM (ForInStep S1):=
 elem' b q.2.2.2.1 >>= λy=>elem' a q.2.2.1 >>= λx=>lt' y x >>= λr=>match r with
  |some c=>if c=true then elem' b q.2.2.2.1 >>= fun y=>
    (if(q.2.2.2.1+1== b.size)=true then pure (.done (some (dn a b (q.2.1.push y) q.2.2.1 (q.2.2.2.1+1)),q.2.1.push y,q.2.2.1,q.2.2.2.1+1,0,q.2.2.2.2.2+1))
     else if q.2.2.2.2.2+1 >= g then pure (.done (none,q.2.1.push y,q.2.2.1,q.2.2.2.1+1,0,q.2.2.2.2.2+1)) else pure (.yield (none,q.2.1.push y,q.2.2.1,q.2.2.2.1+1,0,q.2.2.2.2.2+1)))
   else elem' a q.2.2.1 >>= λx=>
    (if(q.2.2.1+1+1== a.size)=true then pure (.done (some (la a b (q.2.1.push x) (q.2.2.1+1) q.2.2.2.1),q.2.1.push x,q.2.2.1+1,q.2.2.2.1,q.2.2.2.2.1+1,0))
     else if q.2.2.2.2.1+1 >= g then pure (.done (none,q.2.1.push x,q.2.2.1+1,q.2.2.2.1,q.2.2.2.2.1+1,0)) else pure (.yield (none,q.2.1.push x,q.2.2.1+1,q.2.2.2.1,q.2.2.2.2.1+1,0)))
  |_=>pure (.done (some (dn a b q.2.1 q.2.2.1 q.2.2.2.1),q.2.1,q.2.2.1,q.2.2.2.1,q.2.2.2.2.1,q.2.2.2.2.2))
def loC(g na nb:Nat)(i:Nat)(o:Array Keyed)(j:Nat):SM (ForInStep S2):=
 elem' a i >>= λx=>if(i+1+1== a.size)=true then pure (.done (some (la a b (o.push x) (i+1) j),o.push x,i+1,j,g,na,nb))
  else if(decide (na<7) && decide (nb<7))=true then pure (.done (none,o.push x,i+1,j,g,na,nb)) else pure (.yield (none,o.push x,i+1,j,g,na,nb))
def loB(g na nb0:Nat)(j:Nat)(o:Array Keyed)(i:Nat):SM (ForInStep S2):=
 elem' b j >>= λy=>if(j+1== b.size)=true then pure (.done (some (dn a b (o.push y) i (j+1)),o.push y,i,j+1,g,na,nb0))
  else elem' a i >>= λx=>aO true x b (j+1) (b.size-(j+1)) 0 >>= λr=>match r with
   |some m=>if m>0 then(if(j+1+m== b.size)=true then pure (.done (some (dn a b (o.push y++b.extract (j+1) (j+1+m)) i (j+1+m)),o.push y++b.extract (j+1) (j+1+m),i,j+1+m,g,na,m)) else loC a b g na m i (o.push y++b.extract (j+1) (j+1+m)) (j+1+m))
    else loC a b g na m i (o.push y) (j+1)
   |_=>pure (.done (some (dn a b (o.push y) i (j+1)),o.push y,i,j+1,g,na,nb0))
def Ve(q:S2)(g:Nat):SM (ForInStep S2):=
 pQ g >>= λ_=>elem' b q.2.2.2.1 >>= λy=>aO false y a q.2.2.1 (a.size-q.2.2.1) 0 >>= λr=>match r with
  |some m=>if m>0 then(if(q.2.2.1+m+1== a.size)=true then pure (.done (some (la a b (q.2.1++a.extract q.2.2.1 (q.2.2.1+m)) (q.2.2.1+m) q.2.2.2.1),q.2.1++a.extract q.2.2.1 (q.2.2.1+m),q.2.2.1+m,q.2.2.2.1,g,m,q.2.2.2.2.2.2))
    else if(q.2.2.1+m== a.size)=true then pure (.done (some (dn a b (q.2.1++a.extract q.2.2.1 (q.2.2.1+m)) (q.2.2.1+m) q.2.2.2.1),q.2.1++a.extract q.2.2.1 (q.2.2.1+m),q.2.2.1+m,q.2.2.2.1,g,m,q.2.2.2.2.2.2))
    else loB a b g m q.2.2.2.2.2.2 q.2.2.2.1 (q.2.1++a.extract q.2.2.1 (q.2.2.1+m)) (q.2.2.1+m))
   else loB a b g m q.2.2.2.2.2.2 q.2.2.2.1 q.2.1 q.2.2.1
  |_=>pure (.done (some (dn a b q.2.1 q.2.2.1 q.2.2.2.1),q.2.1,q.2.2.1,q.2.2.2.1,g,q.2.2.2.2.2.1,q.2.2.2.2.2.2))
def lo2(q:S2):SM (ForInStep S2):=if q.2.2.2.2.1>1 then Ve a b q (q.2.2.2.2.1-1) else Ve a b q q.2.2.2.2.1
def lo3(q:S3):SM (ForInStep S3):=
 (forIn [:a.size+b.size] ((none,q.2.1,q.2.2.1,q.2.2.2.1,0,0):S1) fun _ p=>lo1 a b q.2.2.2.2 p) >>= fun p=>match p.1 with
   |some r=>pure (.done (some r,p.2.1,p.2.2.1,p.2.2.2.1,q.2.2.2.2))
   |none=>liftM (rule "list.sort.gallop") >>= λ_=>(forIn [:a.size+b.size] ((none,p.2.1,p.2.2.1,p.2.2.2.1,q.2.2.2.2+1,p.2.2.2.2.1,p.2.2.2.2.2):S2) λ_ z=>lo2 a b z) >>= λz=>match z.1 with
    |some r=>pure (.done (some r,z.2.1,z.2.2.1,z.2.2.2.1,z.2.2.2.2.1))
    |none=>pQ (z.2.2.2.2.1+1) >>= λ_=>pure (.yield (none,z.2.1,z.2.2.1,z.2.2.2.1,z.2.2.2.2.1+1))
def mlo:SM (Array Keyed):=
 liftM (rule "list.sort.merge-lo") >>= λ_=>elem' b 0 >>= λy=>if(1== b.size)=true then pure (dn a b #[y] 0 1) else if(0+1== a.size)=true then pure (la a b #[y] 0 1)
  else get >>= λst=>(forIn [:a.size+b.size] ((none,#[y],0,1,gallopOf st):S3) λ_ q=>lo3 a b q) >>= λq=>match q.1 with
   |some r=>pure r
   |none=>liftM (unsupported "internal:list.sort.merge-bound")
end
def Ss(a b:Array Keyed):mJ a b=mlo a b:=by kernel_rfl
end iM
namespace iM
open PySem PyProof.Rows
def JC(g:Nat):pQ g=modify λs=>SortSt.mk' (kindOf s) (arrOf s) (pendingOf s) g (failedOf s):=by kernel_rfl
structure Sv(st st':SortSt):Prop where
 kind:kindOf st'=kindOf st
 arr:arrOf st'=arrOf st
 pend:pendingOf st'=pendingOf st
 fail:failedOf st'=failedOf st
def Sv.refl(st:SortSt):Sv st st:=⟨rfl,rfl,rfl,rfl⟩
theorem Sv.trans{a b c:SortSt}(h:Sv a b)(g:Sv b c):Sv a c:=⟨g.kind.trans h.kind,g.arr.trans h.arr,g.pend.trans h.pend,g.fail.trans h.fail⟩
section
variable{prog:Program}{w:World}{A:Around}{E:Value->Shared->Prop}{s:Shared}{st:SortSt}{κ:SortKind}{k:Keyed->Int}{D:Keyed->Prop}{a b o:Array Keyed}{N:List Keyed}{i j g m na nb:Nat}
def qT{Q:Unit->SortSt->Prop}(h:∀st',Sv st st'->Q () st'):wpS (model prog w) A E s (pQ g) Q st:=by
 rw[JC]
 exact wpS_modify (h _ ⟨rfl,rfl,rfl,rfl⟩)
def iR{x:String}{Q:PUnit->SortSt->Prop}(h:Q ⟨⟩ st):wpS (model prog w) A E s (liftM (rule x):SM PUnit) Q st:=wpS_lift (wpAny_rule ⟨rfl,h⟩)
structure rZ(k:Keyed->Int)(N:List Keyed)(a b o:Array Keyed)(i j:Nat):Prop where
 ia:i+1<a.size
 jb:j<b.size
 mi:MI k N o.toList (a.toList.drop i) (b.toList.drop j)
def Ln(a b o:Array Keyed)(i j:Nat):(dn a b o i j).toList=o.toList++a.toList.drop i++b.toList.drop j:=by
 unfold dn
 rw[Array.toList_append,Array.toList_append,kh,kh]
def XH(a b o:Array Keyed)(i j:Nat):(la a b o i j).toList=o.toList++b.toList.drop j++a.toList.drop i:=by
 unfold la
 rw[Array.toList_append,Array.toList_append,kh,kh]
def JD(h:MI k N o.toList (a.toList.drop i) (b.toList.drop j))(hj:j=b.size):Good k N (dn a b o i j).toList:=by
 have e:b.toList.drop j=[]:=List.drop_eq_nil_of_le (by simp[hj])
 rw[Ln,e]
 rw[e] at h
 exact h.Ep
def Zcr(h:MI k N o.toList (a.toList.drop i) (b.toList.drop j))(hi:i=a.size):Good k N (dn a b o i j).toList:=by
 have e:a.toList.drop i=[]:=List.drop_eq_nil_of_le (by simp[hi])
 rw[Ln,e]
 rw[e] at h
 exact h.Er
def JF(hL:∀y∈b.toList,∀x∈a.toList.drop (a.size-1),k y<=k x)(h:MI k N o.toList (a.toList.drop i) (b.toList.drop j))(hi:i+1=a.size):Good k N (la a b o i j).toList:=by
 rw[XH]
 refine h.XF λy hy x hx=>hL y (List.mem_of_mem_drop hy) x ?_
 have:i=a.size-1:=by omega
 rw[<-this]
 exact hx
def Lp(h:MI k N o.toList (a.toList.drop i) (b.toList.drop j))(hi:i<a.size)(hle:∀y∈b.toList.drop j,k a[i]<=k y):MI k N (o.push a[i]).toList (a.toList.drop (i+1)) (b.toList.drop j):=by
 rw[Array.toList_push]
 rw[dG hi] at h
 exact MI.uD (p:=[a[i]]) h λx hx y hy=>by rw[List.mem_singleton.mp hx];exact hle y hy
def Es(h:MI k N o.toList (a.toList.drop i) (b.toList.drop j))(hj:j<b.size)(hle:∀x∈a.toList.drop i,k b[j]<=k x):MI k N (o.push b[j]).toList (a.toList.drop i) (b.toList.drop (j+1)):=by
 rw[Array.toList_push]
 rw[dG hj] at h
 exact MI.uE (p:=[b[j]]) h λx hx y hy=>by rw[List.mem_singleton.mp hx];exact hle y hy
def Lq(h:MI k N o.toList (a.toList.drop i) (b.toList.drop j))(hj:j<b.size):∀y∈b.toList.drop j,k b[j]<=k y:=by
 have:=h.sb
 rw[dG hj] at this ⊢
 intro y hy
 rcases List.mem_cons.mp hy with rfl|hy
 ·exact Int.le_refl _
 ·exact(List.pairwise_cons.mp this).1 y hy
def Lr(h:MI k N o.toList (a.toList.drop i) (b.toList.drop j))(hi:i<a.size):∀x∈a.toList.drop i,k a[i]<=k x:=by
 have:=h.sa
 rw[dG hi] at this ⊢
 intro y hy
 rcases List.mem_cons.mp hy with rfl|hy
 ·exact Int.le_refl _
 ·exact(List.pairwise_cons.mp this).1 y hy
def Sw(hc:iQ prog w A s κ k D)(hk:kindOf st=κ)(ha:∀x∈a.toList,D x)(hb:∀x∈b.toList,D x)(hL:∀y∈b.toList,∀x∈a.toList.drop (a.size-1),k y<=k x)(h:rZ k N a b o i j)(hm:m<=i+j) :
 wpS (model prog w) A E s (lo1 a b g (none,o,i,j,na,nb)) (λr st'=>st'=st/\match r with
  | .done q=>(∃r,q.1=some r/\Good k N r.toList)\/(q.1=none/\rZ k N a b q.2.1 q.2.2.1 q.2.2.2.1/\m<=q.2.2.1+q.2.2.2.1)
  | .yield q=>q.1=none/\rZ k N a b q.2.1 q.2.2.1 q.2.2.2.1/\m<=q.2.2.1+q.2.2.2.1) st:=by
 obtain⟨hi,hj,mi⟩:=h
 have hi':i<a.size:=by omega
 unfold lo1
 dsimp only
 refine wpS_bind (Ķ hj (wpS_bind (Ķ hi' (wpS_bind (w_lt hc hk (hb _ (by simp)) (ha _ (by simp)) ?_)))))
 dsimp only
 by_cases hw:k b[j]<k a[i]
 ·rw[decide_eq_true hw,if_pos rfl]
  refine wpS_bind (Ķ hj ?_)
  have yD:=Es mi hj λx hx=>Int.le_trans (Int.le_of_lt hw) (Lr mi hi' x hx)
  by_cases he:j+1=b.size
  ·rw[if_pos (by simpa using he)]
   exact wpS_pure ⟨rfl,.inl ⟨_,rfl,JD yD he⟩⟩
  ·rw[if_neg (by simpa using he)]
   have I2:rZ k N a b (o.push b[j]) i (j+1):=⟨hi,by omega,yD⟩
   split
   ·exact wpS_pure ⟨rfl,.inr ⟨rfl,I2,by dsimp only;omega⟩⟩
   ·exact wpS_pure ⟨rfl,rfl,I2,by dsimp only;omega⟩
 ·rw[decide_eq_false hw,if_neg Bool.false_ne_true]
  refine wpS_bind (Ķ hi' ?_)
  have yD:=Lp mi hi' λy hy=>Int.le_trans (Int.not_lt.mp hw) (Lq mi hj y hy)
  by_cases he:i+1+1=a.size
  ·rw[if_pos (by simpa using he)]
   exact wpS_pure ⟨rfl,.inl ⟨_,rfl,JF hL yD he⟩⟩
  ·rw[if_neg (by simpa using he)]
   have I2:rZ k N a b (o.push a[i]) (i+1) j:=⟨by omega,hj,yD⟩
   split
   ·exact wpS_pure ⟨rfl,.inr ⟨rfl,I2,by dsimp only;omega⟩⟩
   ·exact wpS_pure ⟨rfl,rfl,I2,by dsimp only;omega⟩
def G2(k:Keyed->Int)(N:List Keyed)(a b:Array Keyed)(m:Nat)(r:ForInStep S2):Prop:=match r with
 | .done q=>(∃r,q.1=some r/\Good k N r.toList)\/(q.1=none/\rZ k N a b q.2.1 q.2.2.1 q.2.2.2.1/\m<=q.2.2.1+q.2.2.2.1)
 | .yield q=>q.1=none/\rZ k N a b q.2.1 q.2.2.1 q.2.2.2.1/\m<=q.2.2.1+q.2.2.2.1
def Et(hL:∀y∈b.toList,∀x∈a.toList.drop (a.size-1),k y<=k x)(hi:i+1<a.size)(hj:j<b.size)(mi:MI k N o.toList (a.toList.drop i) (b.toList.drop j))(hx:∀y∈b.toList.drop j,k (a[i]'(by omega))<=k y)(hm:m<=i+1+j) :
 wpS (model prog w) A E s (loC a b g na nb i o j) (λr st'=>st'=st/\G2 k N a b m r) st:=by
 unfold loC
 refine wpS_bind (Ķ (by omega) ?_)
 have yD:=Lp mi (by omega) hx
 by_cases he:i+1+1=a.size
 ·rw[if_pos (by simpa using he)]
  exact wpS_pure ⟨rfl,.inl ⟨_,rfl,JF hL yD he⟩⟩
 ·rw[if_neg (by simpa using he)]
  have I2:rZ k N a b (o.push (a[i]'(by omega))) (i+1) j:=⟨by omega,hj,yD⟩
  split
  ·exact wpS_pure ⟨rfl,.inr ⟨rfl,I2,hm⟩⟩
  ·exact wpS_pure ⟨rfl,rfl,I2,hm⟩
def Eu(hc:iQ prog w A s κ k D)(hk:kindOf st=κ)(ha:∀x∈a.toList,D x)(hb:∀x∈b.toList,D x)(hL:∀y∈b.toList,∀x∈a.toList.drop (a.size-1),k y<=k x)(hi:i+1<a.size)(hj:j<b.size)(mi:MI k N o.toList (a.toList.drop i) (b.toList.drop j))(hy:∀x∈a.toList.drop i,k b[j]<=k x)(hm:m<=i+j+1) :
 wpS (model prog w) A E s (loB a b g na nb j o i) (λr st'=>st'=st/\G2 k N a b m r) st:=by
 unfold loB
 refine wpS_bind (Ķ hj ?_)
 have yD:=Es mi hj hy
 by_cases he:j+1=b.size
 ·rw[if_pos (by simpa using he)]
  exact wpS_pure ⟨rfl,.inl ⟨_,rfl,JD yD he⟩⟩
 ·rw[if_neg (by simpa using he)]
  have hi':i<a.size:=by omega
  refine wpS_bind (Ķ hi' ?_)
  have ent:(b.toList.drop (j+1)).take (b.size-(j+1))=b.toList.drop (j+1):=List.take_of_length_le (by simp)
  refine wpS_bind (pP hc hk (ha _ (by simp)) hb (by omega) (by omega) (by rw[ent];exact yD.sb) λr hr c1 c2=>?_)
  simp only[if_true] at c1 c2
  rw[ent,List.drop_drop] at c2
  dsimp only
  by_cases hr0:r>0
  ·rw[if_pos hr0]
   have Vf:MI k N (o.push b[j]++b.extract (j+1) (j+1+r)).toList (a.toList.drop i) (b.toList.drop (j+1+r)):=by
    rw[Array.toList_append,ž]
    have e:j+1+r-(j+1)=r:=by omega
    rw[e]
    have XJ:=yD
    rw[mH b.toList (j+1) r] at XJ
    exact XJ.uE λy hy' x hx=>Int.le_trans (Int.le_of_lt (c1 y hy')) (Lr yD hi' x hx)
   by_cases he2:j+1+r=b.size
   ·rw[if_pos (by simpa using he2)]
    exact wpS_pure ⟨rfl,.inl ⟨_,rfl,JD Vf he2⟩⟩
   ·rw[if_neg (by simpa using he2)]
    exact Et hL hi (by omega) Vf c2 (by omega)
  ·rw[if_neg hr0]
   have e:r=0:=by omega
   subst e
   exact Et hL hi (by omega) yD c2 (by omega)
def Sx(hc:iQ prog w A s κ k D)(hk:kindOf st=κ)(ha:∀x∈a.toList,D x)(hb:∀x∈b.toList,D x)(hL:∀y∈b.toList,∀x∈a.toList.drop (a.size-1),k y<=k x)(h:rZ k N a b o i j)(hm:m<=i+j+1){g0:Nat} :
 wpS (model prog w) A E s (Ve a b (none,o,i,j,g0,na,nb) g) (λr st'=>Sv st st'/\G2 k N a b m r) st:=by
 obtain⟨hi,hj,mi⟩:=h
 have hi':i<a.size:=by omega
 unfold Ve
 dsimp only
 refine wpS_bind (qT λst1 sv=>wpS_bind (Ķ hj ?_))
 have hk1:kindOf st1=κ:= sv.kind.trans hk
 have ent:(a.toList.drop i).take (a.size-i)=a.toList.drop i:=List.take_of_length_le (by simp)
 refine wpS_bind (pP hc hk1 (hb _ (by simp)) ha (by omega) (by omega) (by rw[ent];exact mi.sa) λr hr c1 c2=>?_)
 simp only[Bool.false_eq_true,if_false] at c1 c2
 rw[ent,List.drop_drop] at c2
 dsimp only
 by_cases hr0:r>0
 ·rw[if_pos hr0]
  have Vf:MI k N (o++a.extract i (i+r)).toList (a.toList.drop (i+r)) (b.toList.drop j):=by
   rw[Array.toList_append,ž]
   have e:i+r-i=r:=by omega
   rw[e]
   have XJ:=mi
   rw[mH a.toList i r] at XJ
   exact XJ.uD λx hx y hy=>Int.le_trans (c1 x hx) (Lq mi hj y hy)
  by_cases he:i+r+1=a.size
  ·rw[if_pos (by simpa using he)]
   exact wpS_pure ⟨sv,.inl ⟨_,rfl,JF hL Vf he⟩⟩
  ·rw[if_neg (by simpa using he)]
   by_cases he2:i+r=a.size
   ·rw[if_pos (by simpa using he2)]
    exact wpS_pure ⟨sv,.inl ⟨_,rfl,Zcr Vf he2⟩⟩
   ·rw[if_neg (by simpa using he2)]
    exact wpS_mono (Eu hc hk1 ha hb hL (by omega) hj Vf (λx hx=>Int.le_of_lt (c2 x hx)) (by omega)) λr st' ⟨e,z⟩=>⟨e▸sv,z⟩
 ·rw[if_neg hr0]
  have e:r=0:=by omega
  subst e
  exact wpS_mono (Eu hc hk1 ha hb hL hi hj mi (λx hx=>Int.le_of_lt (c2 x hx)) hm) λr st' ⟨e,z⟩=>⟨e▸sv,z⟩
def Sy(hc:iQ prog w A s κ k D)(hk:kindOf st=κ)(ha:∀x∈a.toList,D x)(hb:∀x∈b.toList,D x)(hL:∀y∈b.toList,∀x∈a.toList.drop (a.size-1),k y<=k x)(h:rZ k N a b o i j)(hm:m<=i+j) :
 wpS (model prog w) A E s (lo3 a b (none,o,i,j,g)) (λr st'=>Sv st st'/\match r with
  | .done q=>∃r,q.1=some r/\Good k N r.toList
  | .yield q=>q.1=none/\rZ k N a b q.2.1 q.2.2.1 q.2.2.2.1/\m+1<=q.2.2.1+q.2.2.2.1) st:=by
 unfold lo3
 dsimp only
 refine wpS_bind (wpS_mono (wpS_forRange (I:=λ_ (c:S1) st'=>st'=st/\c.1=none/\rZ k N a b c.2.1 c.2.2.1 c.2.2.2.1/\m<=c.2.2.1+c.2.2.2.1) (Q:=λ(c:S1) st'=>st'=st/\((∃r,c.1=some r/\Good k N r.toList)\/(c.1=none/\rZ k N a b c.2.1 c.2.2.1 c.2.2.2.1/\m<=c.2.2.1+c.2.2.2.1))) ?step ?fin ⟨rfl,rfl,h,hm⟩) ?post)
 case fin=>rintro c st' ⟨rfl,z⟩;exact⟨rfl,.inr z⟩
 case step=>
  rintro x ⟨c1,o',i',j',na',nb'⟩ st' _ _ ⟨rfl,rfl,h',hm'⟩
  refine wpS_mono (Sw hc hk ha hb hL h' hm') λr st2 ⟨e,z⟩=>?_
  subst e
  cases r with
  |done q=>exact⟨rfl,z⟩
  |yield q=>exact⟨rfl,z⟩
 case post=>
  rintro ⟨c1,o',i',j',na',nb'⟩ st' ⟨rfl,z⟩
  rcases z with⟨r,e,hg⟩|⟨e,h',hm'⟩
  ·dsimp only at e
   subst e
   exact wpS_pure ⟨Sv.refl _,r,rfl,hg⟩
  ·dsimp only at e h' hm'
   subst e
   refine wpS_bind (iR ?_)
   refine wpS_bind (wpS_mono (wpS_forRange (I:=λx (c:S2) st2=>Sv st' st2/\c.1=none/\rZ k N a b c.2.1 c.2.2.1 c.2.2.2.1/\m+min x 1<=c.2.2.1+c.2.2.2.1) (Q:=λ(c:S2) st2=>Sv st' st2/\((∃r,c.1=some r/\Good k N r.toList)\/(c.1=none/\rZ k N a b c.2.1 c.2.2.1 c.2.2.2.1/\m+1<=c.2.2.1+c.2.2.2.1))) ?uF ?fin2 ⟨Sv.refl _,rfl,h',by dsimp only;omega⟩) ?post2)
   case fin2=>
    rintro c st2 ⟨sv,z1,z2,z3⟩
    refine⟨sv,.inr ⟨z1,z2,?_⟩⟩
    have:=z2.ia
    rw[show min (max 0 (a.size+b.size)) 1=1 by omega] at z3
    exact z3
   case uF=>
    rintro x ⟨c1,o2,i2,j2,g2,Vg,Vh⟩ st2 _ _ ⟨sv,rfl,h2,hm2⟩
    dsimp only at h2 hm2
    have key:∀g',wpS (model prog w) A E s (Ve a b (none,o2,i2,j2,g2,Vg,Vh) g') (λr st3=>Sv st2 st3/\G2 k N a b (m+1) r) st2:=λg'=>Sx hc (sv.kind.trans hk) ha hb hL h2 (by omega)
    have fin:∀g',wpS (model prog w) A E s (Ve a b (none,o2,i2,j2,g2,Vg,Vh) g') _ st2:=λg'=>wpS_mono (key g') (Q':=λr st3=>match r with
     | .done c'=>Sv st' st3/\((∃r,c'.1=some r/\Good k N r.toList)\/(c'.1=none/\rZ k N a b c'.2.1 c'.2.2.1 c'.2.2.2.1/\m+1<=c'.2.2.1+c'.2.2.2.1))
     | .yield c'=>Sv st' st3/\c'.1=none/\rZ k N a b c'.2.1 c'.2.2.1 c'.2.2.2.1/\m+min (x+1) 1<=c'.2.2.1+c'.2.2.2.1) (by
     rintro r st3 ⟨Bh,z⟩
     cases r with
     |done q=>exact⟨sv.trans Bh,z⟩
     |yield q=>exact⟨sv.trans Bh,z.1,z.2.1,by rw[show min (x+1) 1=1 by omega];exact z.2.2⟩)
    unfold lo2
    dsimp only
    split
    ·refine wpS_mono (fin _) λr st3 z=>?_
     cases r<;>exact z
    ·refine wpS_mono (fin _) λr st3 z=>?_
     cases r<;>exact z
   case post2=>
    rintro ⟨c1,o2,i2,j2,g2,Vg,Vh⟩ st2 ⟨sv,z⟩
    rcases z with⟨r,e,hg⟩|⟨e,h2,hm2⟩
    ·dsimp only at e
     subst e
     exact wpS_pure ⟨sv,r,rfl,hg⟩
    ·dsimp only at e h2 hm2
     subst e
     exact wpS_bind (qT λst3 Bh=>wpS_pure ⟨sv.trans Bh,rfl,h2,hm2⟩)
def SJ{Q:Array Keyed->SortSt->Prop}(hc:iQ prog w A s κ k D)(hk:kindOf st=κ)(ha:∀x∈a.toList,D x)(hb:∀x∈b.toList,D x)(sa:cW k a.toList)(sb:cW k b.toList)(h1:0<a.size)(h2:0<b.size)
 (hF:∀x∈a.toList,k b[0]<=k x)(hL:∀y∈b.toList,∀x∈a.toList.drop (a.size-1),k y<=k x)(hq:∀r st',Sv st st'->Good k (a.toList++b.toList) r.toList->Q r st'):wpS (model prog w) A E s (mJ a b) Q st:=by
 rw[Ss]
 unfold mlo
 refine wpS_bind (iR (wpS_bind (Ķ h2 ?_)))
 have mi0:MI k (a.toList++b.toList) (#[]:Array Keyed).toList (a.toList.drop 0) (b.toList.drop 0):=⟨by simp,.nil,sa,sb,λx hx=>by simp at hx,λx hx=>by simp at hx⟩
 have mi:MI k (a.toList++b.toList) (#[b[0]]:Array Keyed).toList (a.toList.drop 0) (b.toList.drop 1):=Es mi0 h2 (by simpa using hF)
 by_cases he:1=b.size
 ·rw[if_pos (by simpa using he)]
  exact wpS_pure (hq _ _ (Sv.refl _) (JD mi he))
 ·rw[if_neg (by simpa using he)]
  by_cases he2:0+1=a.size
  ·rw[if_pos (by simpa using he2)]
   exact wpS_pure (hq _ _ (Sv.refl _) (JF hL mi he2))
  ·rw[if_neg (by simpa using he2)]
   refine wpS_bind (wpS_get ?_)
   refine wpS_bind (wpS_mono (wpS_forRange (I:=λx (c:S3) st'=>Sv st st'/\c.1=none/\rZ k (a.toList++b.toList) a b c.2.1 c.2.2.1 c.2.2.2.1/\x<=c.2.2.1+c.2.2.2.1) (Q:=λ(c:S3) st'=>Sv st st'/\∃r,c.1=some r/\Good k (a.toList++b.toList) r.toList) ?step ?fin ⟨Sv.refl _,rfl,⟨by dsimp only;omega,by dsimp only;omega,mi⟩,by omega⟩) ?post)
   case fin=>
    rintro c st' ⟨_,_,z,z2⟩
    have:=z.ia
    have:=z.jb
    omega
   case step=>
    rintro x ⟨c1,o',i',j',g'⟩ st' _ _ ⟨sv,rfl,h',hx⟩
    refine wpS_mono (Sy hc (sv.kind.trans hk) ha hb hL h' hx) λr st2 ⟨XM,z⟩=>?_
    cases r with
    |done q=>exact⟨sv.trans XM,z⟩
    |yield q=>exact⟨sv.trans XM,z⟩
   case post=>
    rintro ⟨c1,c2⟩ st' ⟨sv,r,e,hg⟩
    dsimp only at e
    subst e
    exact wpS_pure (hq r st' sv hg)
end
end iM
namespace iM
open PySem PyProof.Rows
def mK:Array Keyed->Array Keyed->SM (Array Keyed):=sortPriv% PySem.Builtin.mergeHi
abbrev T1:=OA×Nat×Nat×Array Keyed×Nat×Nat
abbrev T2:=OA×Nat×Nat×Array Keyed×Nat×Nat×Nat
abbrev T3:=OA×Nat×Nat×Array Keyed×Nat
section
variable(a b:Array Keyed)
def dh(o:Array Keyed)(i j:Nat):Array Keyed:=a.extract 0 i++b.extract 0 j++o.reverse
def fb(o:Array Keyed)(i j:Nat):Array Keyed:=b.extract 0 j++a.extract 0 i++o.reverse
def hi1(g:Nat)(q:T1):SM (ForInStep T1):=
 elem' b (q.2.2.1-1) >>= λy=>elem' a (q.2.1-1) >>= λx=>lt' y x >>= λr=>match r with
  |some c=>if c=true then elem' a (q.2.1-1) >>= fun x=>
    (if(q.2.1-1== 0)=true then pure (.done (some (dh a b (q.2.2.2.1.push x) (q.2.1-1) q.2.2.1),q.2.1-1,q.2.2.1,q.2.2.2.1.push x,q.2.2.2.2.1+1,0))
     else if q.2.2.2.2.1+1 >= g then pure (.done (none,q.2.1-1,q.2.2.1,q.2.2.2.1.push x,q.2.2.2.2.1+1,0)) else pure (.yield (none,q.2.1-1,q.2.2.1,q.2.2.2.1.push x,q.2.2.2.2.1+1,0)))
   else elem' b (q.2.2.1-1) >>= λy=>
    (if(q.2.2.1-1== 1)=true then pure (.done (some (fb a b (q.2.2.2.1.push y) q.2.1 (q.2.2.1-1)),q.2.1,q.2.2.1-1,q.2.2.2.1.push y,0,q.2.2.2.2.2+1))
     else if q.2.2.2.2.2+1 >= g then pure (.done (none,q.2.1,q.2.2.1-1,q.2.2.2.1.push y,0,q.2.2.2.2.2+1)) else pure (.yield (none,q.2.1,q.2.2.1-1,q.2.2.2.1.push y,0,q.2.2.2.2.2+1)))
  |_=>pure (.done (some (dh a b q.2.2.2.1 q.2.1 q.2.2.1),q.2.1,q.2.2.1,q.2.2.2.1,q.2.2.2.2.1,q.2.2.2.2.2))
def hiC(g na nb:Nat)(i j:Nat)(o:Array Keyed):SM (ForInStep T2):=
 elem' a (i-1) >>= λx=>if(i-1== 0)=true then pure (.done (some (dh a b (o.push x) (i-1) j),i-1,j,o.push x,g,na,nb))
  else if(decide (na<7) && decide (nb<7))=true then pure (.done (none,i-1,j,o.push x,g,na,nb)) else pure (.yield (none,i-1,j,o.push x,g,na,nb))
def hiB(g na nb0:Nat)(j i:Nat)(o:Array Keyed):SM (ForInStep T2):=
 elem' b (j-1) >>= λy=>if(j-1== 1)=true then pure (.done (some (fb a b (o.push y) i (j-1)),i,j-1,o.push y,g,na,nb0))
  else elem' a (i-1) >>= λx=>aO true x b 0 (j-1) (j-1-1) >>= λr=>match r with
   |some m=>if j-1-m>0 then(if(m== 1)=true then pure (.done (some (fb a b (o.push y++(b.extract m (j-1)).reverse) i m),i,m,o.push y++(b.extract m (j-1)).reverse,g,na,j-1-m))
     else if(m== 0)=true then pure (.done (some (dh a b (o.push y++(b.extract m (j-1)).reverse) i m),i,m,o.push y++(b.extract m (j-1)).reverse,g,na,j-1-m))
     else hiC a b g na (j-1-m) i m (o.push y++(b.extract m (j-1)).reverse))
    else hiC a b g na (j-1-m) i (j-1) (o.push y)
   |_=>pure (.done (some (dh a b (o.push y) i (j-1)),i,j-1,o.push y,g,na,nb0))
def XQ(q:T2)(g:Nat):SM (ForInStep T2):=
 pQ g >>= λ_=>elem' b (q.2.2.1-1) >>= λy=>aO false y a 0 q.2.1 (q.2.1-1) >>= λr=>match r with
  |some m=>if q.2.1-m>0 then(if(m== 0)=true then pure (.done (some (dh a b (q.2.2.2.1++(a.extract m q.2.1).reverse) m q.2.2.1),m,q.2.2.1,q.2.2.2.1++(a.extract m q.2.1).reverse,g,q.2.1-m,q.2.2.2.2.2.2))
    else hiB a b g (q.2.1-m) q.2.2.2.2.2.2 q.2.2.1 m (q.2.2.2.1++(a.extract m q.2.1).reverse))
   else hiB a b g (q.2.1-m) q.2.2.2.2.2.2 q.2.2.1 q.2.1 q.2.2.2.1
  |_=>pure (.done (some (dh a b q.2.2.2.1 q.2.1 q.2.2.1),q.2.1,q.2.2.1,q.2.2.2.1,g,q.2.2.2.2.2.1,q.2.2.2.2.2.2))
def hi2(q:T2):SM (ForInStep T2):=if q.2.2.2.2.1>1 then XQ a b q (q.2.2.2.2.1-1) else XQ a b q q.2.2.2.2.1
def hi3(q:T3):SM (ForInStep T3):=
 (forIn [:a.size+b.size] ((none,q.2.1,q.2.2.1,q.2.2.2.1,0,0):T1) fun _ p=>hi1 a b q.2.2.2.2 p) >>= fun p=>match p.1 with
   |some r=>pure (.done (some r,p.2.1,p.2.2.1,p.2.2.2.1,q.2.2.2.2))
   |none=>liftM (rule "list.sort.gallop") >>= λ_=>(forIn [:a.size+b.size] ((none,p.2.1,p.2.2.1,p.2.2.2.1,q.2.2.2.2+1,p.2.2.2.2.1,p.2.2.2.2.2):T2) λ_ z=>hi2 a b z) >>= λz=>match z.1 with
    |some r=>pure (.done (some r,z.2.1,z.2.2.1,z.2.2.2.1,z.2.2.2.2.1))
    |none=>pQ (z.2.2.2.2.1+1) >>= λ_=>pure (.yield (none,z.2.1,z.2.2.1,z.2.2.2.1,z.2.2.2.2.1+1))
def mhi:SM (Array Keyed):=
 liftM (rule "list.sort.merge-hi") >>= λ_=>elem' a (a.size-1) >>= λx=>if(a.size-1== 0)=true then pure (dh a b #[x] (a.size-1) b.size) else if(b.size== 1)=true then pure (fb a b #[x] (a.size-1) b.size)
  else get >>= λst=>(forIn [:a.size+b.size] ((none,a.size-1,b.size,#[x],gallopOf st):T3) λ_ q=>hi3 a b q) >>= λq=>match q.1 with
   |some r=>pure r
   |none=>liftM (unsupported "internal:list.sort.merge-bound")
end
def SN(a b:Array Keyed):mK a b=mhi a b:=by kernel_rfl
structure MH(k:Keyed->Int)(N ra rb out:List Keyed):Prop where
 perm:(ra++rb++out).Perm N
 so:cW k out
 sa:cW k ra
 sb:cW k rb
 oa:∀x∈ra,∀y∈out,k x<=k y
 ob:∀x∈rb,∀y∈out,k x<=k y
section
variable{k:Keyed->Int}{N out ra rb p r:List Keyed}
def MH.uD(h:MH k N (r++p) rb out)(hp:∀y∈rb,∀x∈p,k y<=k x):MH k N r rb (p++out):=by
 obtain⟨h1,h2,h3⟩:=List.pairwise_append.mp h.sa
 refine⟨?_,cW.app h2 h.so λx hx y hy=>h.oa x (List.mem_append_right _ hx) y hy,h1,h.sb,λx hx y hy=>?_,λx hx y hy=>?_⟩
 ·refine List.Perm.trans ?_ h.perm
  rw[List.append_assoc,List.append_assoc,List.append_assoc]
  refine List.Perm.append_left _ ?_
  rw[<-List.append_assoc,<-List.append_assoc]
  exact List.perm_append_comm.append_right _
 ·rcases List.mem_append.mp hy with z|z
  ·exact h3 x hx y z
  ·exact h.oa x (List.mem_append_left _ hx) y z
 ·rcases List.mem_append.mp hy with z|z
  ·exact hp x hx y z
  ·exact h.ob x hx y z
def MH.uE(h:MH k N ra (r++p) out)(hp:∀x∈ra,∀y∈p,k x<=k y):MH k N ra r (p++out):=by
 obtain⟨h1,h2,h3⟩:=List.pairwise_append.mp h.sb
 refine⟨?_,cW.app h2 h.so λx hx y hy=>h.ob x (List.mem_append_right _ hx) y hy,h.sa,h1,λx hx y hy=>?_,λx hx y hy=>?_⟩
 ·have:=h.perm
  simpa[List.append_assoc] using this
 ·rcases List.mem_append.mp hy with z|z
  ·exact hp x hx y z
  ·exact h.oa x hx y z
 ·rcases List.mem_append.mp hy with z|z
  ·exact h3 x hx y z
  ·exact h.ob x (List.mem_append_left _ hx) y z
def MH.Er(h:MH k N [] rb out):Good k N ([]++rb++out):=⟨h.perm,by rw[List.nil_append];exact h.sb.app h.so h.ob⟩
def MH.Ep(h:MH k N ra [] out):Good k N (ra ++ []++out):=⟨h.perm,by rw[List.append_nil];exact h.sa.app h.so h.oa⟩
def MH.SQ(h:MH k N ra rb out)(hl:∀y∈rb,∀x∈ra,k y<=k x):Good k N (rb++ra++out):=by
 refine⟨List.Perm.trans (List.perm_append_comm.append_right _) h.perm,(h.sb.app h.sa hl).app h.so λx hx y hy=>?_⟩
 rcases List.mem_append.mp hx with z|z
 ·exact h.ob x z y hy
 ·exact h.oa x z y hy
end
def kj{a:Array Keyed}{i:Nat}(h:i<a.size):a.toList.take (i+1)=a.toList.take i ++ [a[i]]:=by
 rw[List.take_add_one,Array.getElem?_toList,Array.getElem?_eq_getElem h]
 rfl
def mL(l:List Keyed){i m:Nat}(h:m<=i):l.take i=l.take m++(l.drop m).take (i-m):=by
 have e:i=m+(i-m):=by omega
 conv=>lhs;rw[e,List.take_add]
section
variable{prog:Program}{w:World}{A:Around}{E:Value->Shared->Prop}{s:Shared}{st:SortSt}{κ:SortKind}{k:Keyed->Int}{D:Keyed->Prop}{a b o:Array Keyed}{N:List Keyed}{i j g m na nb:Nat}
abbrev mO(k:Keyed->Int)(N:List Keyed)(a b o:Array Keyed)(i j:Nat):Prop:=MH k N (a.toList.take i) (b.toList.take j) o.toList.reverse
structure vp(k:Keyed->Int)(N:List Keyed)(a b o:Array Keyed)(i j:Nat):Prop where
 i0:0<i
 ia:i<=a.size
 j1:1<j
 jb:j<=b.size
 mh:mO k N a b o i j
def Ls(a b o:Array Keyed)(i j:Nat):(dh a b o i j).toList=a.toList.take i++b.toList.take j++o.toList.reverse:=by
 unfold dh
 rw[Array.toList_append,Array.toList_append,ž,ž,Array.toList_reverse]
 simp
def XR(a b o:Array Keyed)(i j:Nat):(fb a b o i j).toList=b.toList.take j++a.toList.take i++o.toList.reverse:=by
 unfold fb
 rw[Array.toList_append,Array.toList_append,ž,ž,Array.toList_reverse]
 simp
def JG(h:mO k N a b o 0 j):Good k N (dh a b o 0 j).toList:=by
 rw[Ls]
 exact MH.Er h
def Zcs(h:mO k N a b o i 0):Good k N (dh a b o i 0).toList:=by
 rw[Ls]
 exact MH.Ep h
def JH(hF:∀y∈b.toList.take 1,∀x∈a.toList,k y<=k x)(h:mO k N a b o i 1):Good k N (fb a b o i 1).toList:=by
 rw[XR]
 exact MH.SQ h λy hy x hx=>hF y hy x (List.mem_of_mem_take hx)
def wu(h:mO k N a b o (i+1) j)(hi:i<a.size)(hle:∀y∈b.toList.take j,k y<=k a[i]):mO k N a b (o.push a[i]) i j:=by
 unfold mO
 rw[Array.toList_push,List.reverse_append]
 unfold mO at h
 rw[kj hi] at h
 exact MH.uD (p:=[a[i]]) h λy hy x hx=>by rw[List.mem_singleton.mp hx];exact hle y hy
def Ew(h:mO k N a b o i (j+1))(hj:j<b.size)(hle:∀x∈a.toList.take i,k x<=k b[j]):mO k N a b (o.push b[j]) i j:=by
 unfold mO
 rw[Array.toList_push,List.reverse_append]
 unfold mO at h
 rw[kj hj] at h
 exact MH.uE (p:=[b[j]]) h λx hx y hy=>by rw[List.mem_singleton.mp hy];exact hle x hx
def lastOfA(h:mO k N a b o (i+1) j)(hi:i<a.size):∀x∈a.toList.take (i+1),k x<=k a[i]:=by
 have:=h.sa
 rw[kj hi] at this ⊢
 obtain⟨_,_,h3⟩:=List.pairwise_append.mp this
 intro x hx
 rcases List.mem_append.mp hx with z|z
 ·exact h3 x z _ (.head _)
 ·rw[List.mem_singleton.mp z];exact Int.le_refl _
def yE(h:mO k N a b o i (j+1))(hj:j<b.size):∀x∈b.toList.take (j+1),k x<=k b[j]:=by
 have:=h.sb
 rw[kj hj] at this ⊢
 obtain⟨_,_,h3⟩:=List.pairwise_append.mp this
 intro x hx
 rcases List.mem_append.mp hx with z|z
 ·exact h3 x z _ (.head _)
 ·rw[List.mem_singleton.mp z];exact Int.le_refl _
def SX(hc:iQ prog w A s κ k D)(hk:kindOf st=κ)(ha:∀x∈a.toList,D x)(hb:∀x∈b.toList,D x)(hF:∀y∈b.toList.take 1,∀x∈a.toList,k y<=k x)(h:vp k N a b o i j)(hm:i+j<=m) :
 wpS (model prog w) A E s (hi1 a b g (none,i,j,o,na,nb)) (λr st'=>st'=st/\match r with
  | .done q=>(∃r,q.1=some r/\Good k N r.toList)\/(q.1=none/\vp k N a b q.2.2.2.1 q.2.1 q.2.2.1/\q.2.1+q.2.2.1<=m)
  | .yield q=>q.1=none/\vp k N a b q.2.2.2.1 q.2.1 q.2.2.1/\q.2.1+q.2.2.1<=m) st:=by
 obtain⟨h1,h2,h3,h4,mh⟩:=h
 obtain⟨i,rfl⟩:∃i',i=i'+1:=⟨i-1,by omega⟩
 obtain⟨j,rfl⟩:∃j',j=j'+1:=⟨j-1,by omega⟩
 have hi:i<a.size:=by omega
 have hj:j<b.size:=by omega
 unfold hi1
 dsimp only
 simp only[Nat.add_sub_cancel]
 refine wpS_bind (Ķ hj (wpS_bind (Ķ hi (wpS_bind (w_lt hc hk (hb _ (by simp)) (ha _ (by simp)) ?_)))))
 dsimp only
 by_cases hw:k b[j]<k a[i]
 ·rw[decide_eq_true hw,if_pos rfl]
  refine wpS_bind (Ķ hi ?_)
  have yF:=wu mh hi λy hy=>Int.le_trans (yE mh hj y hy) (Int.le_of_lt hw)
  by_cases he:i=0
  ·subst he
   rw[if_pos (by decide)]
   exact wpS_pure ⟨rfl,.inl ⟨_,rfl,JG yF⟩⟩
  ·rw[if_neg (by simpa using he)]
   have I2:vp k N a b (o.push a[i]) i (j+1):=⟨by omega,by omega,h3,h4,yF⟩
   split
   ·exact wpS_pure ⟨rfl,.inr ⟨rfl,I2,by dsimp only;omega⟩⟩
   ·exact wpS_pure ⟨rfl,rfl,I2,by dsimp only;omega⟩
 ·rw[decide_eq_false hw,if_neg Bool.false_ne_true]
  refine wpS_bind (Ķ hj ?_)
  have yF:=Ew mh hj λx hx=>Int.le_trans (lastOfA mh hi x hx) (Int.not_lt.mp hw)
  by_cases he:j=1
  ·subst he
   rw[if_pos (by decide)]
   exact wpS_pure ⟨rfl,.inl ⟨_,rfl,JH hF yF⟩⟩
  ·rw[if_neg (by simpa using he)]
   have I2:vp k N a b (o.push b[j]) (i+1) j:=⟨by omega,h2,by omega,by omega,yF⟩
   split
   ·exact wpS_pure ⟨rfl,.inr ⟨rfl,I2,by dsimp only;omega⟩⟩
   ·exact wpS_pure ⟨rfl,rfl,I2,by dsimp only;omega⟩
def H2(k:Keyed->Int)(N:List Keyed)(a b:Array Keyed)(m:Nat)(r:ForInStep T2):Prop:=match r with
 | .done q=>(∃r,q.1=some r/\Good k N r.toList)\/(q.1=none/\vp k N a b q.2.2.2.1 q.2.1 q.2.2.1/\q.2.1+q.2.2.1<=m)
 | .yield q=>q.1=none/\vp k N a b q.2.2.2.1 q.2.1 q.2.2.1/\q.2.1+q.2.2.1<=m
def Ey(hi:i<a.size)(hj:1<j)(hjb:j<=b.size)(mh:mO k N a b o (i+1) j)(hx:∀y∈b.toList.take j,k y<=k a[i])(hm:i+j<=m) :
 wpS (model prog w) A E s (hiC a b g na nb (i+1) j o) (λr st'=>st'=st/\H2 k N a b m r) st:=by
 unfold hiC
 simp only[Nat.add_sub_cancel]
 refine wpS_bind (Ķ hi ?_)
 have yF:=wu mh hi hx
 by_cases he:i=0
 ·subst he
  rw[if_pos (by decide)]
  exact wpS_pure ⟨rfl,.inl ⟨_,rfl,JG yF⟩⟩
 ·rw[if_neg (by simpa using he)]
  have I2:vp k N a b (o.push a[i]) i j:=⟨by omega,by omega,hj,hjb,yF⟩
  split
  ·exact wpS_pure ⟨rfl,.inr ⟨rfl,I2,hm⟩⟩
  ·exact wpS_pure ⟨rfl,rfl,I2,hm⟩
def Ez(hc:iQ prog w A s κ k D)(hk:kindOf st=κ)(ha:∀x∈a.toList,D x)(hb:∀x∈b.toList,D x)(hF:∀y∈b.toList.take 1,∀x∈a.toList,k y<=k x)(hi:i<a.size)(h1:0<j)(hj:j<b.size)(mh:mO k N a b o (i+1) (j+1))(hy:∀x∈a.toList.take (i+1),k x<=k b[j])(hm:i+j<=m) :
 wpS (model prog w) A E s (hiB a b g na nb (j+1) (i+1) o) (λr st'=>st'=st/\H2 k N a b m r) st:=by
 unfold hiB
 simp only[Nat.add_sub_cancel]
 refine wpS_bind (Ķ hj ?_)
 have yF:=Ew mh hj hy
 by_cases he:j=1
 ·subst he
  rw[if_pos (by decide)]
  exact wpS_pure ⟨rfl,.inl ⟨_,rfl,JH hF yF⟩⟩
 ·rw[if_neg (by simpa using he)]
  refine wpS_bind (Ķ hi ?_)
  refine wpS_bind (pP hc hk (ha _ (by simp)) hb (by omega) (by omega) yF.sb λr hr c1 c2=>?_)
  simp only[if_true,List.drop_zero] at c1 c2
  dsimp only
  by_cases hr0:j-r>0
  ·rw[if_pos hr0]
   have Vi:mO k N a b (o.push b[j]++(b.extract r j).reverse) (i+1) r:=by
    unfold mO at yF ⊢
    rw[Array.toList_append,Array.toList_reverse,ž,List.reverse_append,List.reverse_reverse]
    have X_:=yF
    rw[mL b.toList hr] at X_
    refine X_.uE λx hx y hy'=>Int.le_trans (lastOfA mh hi x hx) (c2 y ?_)
    rw[List.drop_take]
    exact hy'
   by_cases he2:r=1
   ·subst he2
    rw[if_pos (by decide)]
    exact wpS_pure ⟨rfl,.inl ⟨_,rfl,JH hF Vi⟩⟩
   ·rw[if_neg (by simpa using he2)]
    by_cases he3:r=0
    ·subst he3
     rw[if_pos (by decide)]
     exact wpS_pure ⟨rfl,.inl ⟨_,rfl,Zcs Vi⟩⟩
    ·rw[if_neg (by simpa using he3)]
     exact Ey hi (by omega) (by omega) Vi (λy hy'=>Int.le_of_lt (c1 y hy')) (by omega)
  ·rw[if_neg hr0]
   have e:r=j:=by omega
   subst e
   exact Ey hi (by omega) (by omega) yF (λy hy'=>Int.le_of_lt (c1 y hy')) (by omega)
def S_(hc:iQ prog w A s κ k D)(hk:kindOf st=κ)(ha:∀x∈a.toList,D x)(hb:∀x∈b.toList,D x)(hF:∀y∈b.toList.take 1,∀x∈a.toList,k y<=k x)(h:vp k N a b o i j)(hm:i+j<=m+1){g0:Nat} :
 wpS (model prog w) A E s (XQ a b (none,i,j,o,g0,na,nb) g) (λr st'=>Sv st st'/\H2 k N a b m r) st:=by
 obtain⟨h1,h2,h3,h4,mh⟩:=h
 obtain⟨j,rfl⟩:∃j',j=j'+1:=⟨j-1,by omega⟩
 have hj:j<b.size:=by omega
 unfold XQ
 dsimp only
 simp only[Nat.add_sub_cancel]
 refine wpS_bind (qT λst1 sv=>wpS_bind (Ķ hj ?_))
 have hk1:kindOf st1=κ:= sv.kind.trans hk
 refine wpS_bind (pP hc hk1 (hb _ (by simp)) ha (by omega) (by omega) mh.sa λr hr c1 c2=>?_)
 simp only[Bool.false_eq_true,if_false,List.drop_zero] at c1 c2
 dsimp only
 by_cases hr0:i-r>0
 ·rw[if_pos hr0]
  have Vi:mO k N a b (o++(a.extract r i).reverse) r (j+1):=by
   unfold mO at mh ⊢
   rw[Array.toList_append,Array.toList_reverse,ž,List.reverse_append,List.reverse_reverse]
   have X_:=mh
   rw[mL a.toList hr] at X_
   refine X_.uD λy hy x hx=>Int.le_trans (yE mh hj y hy) (Int.le_of_lt (c2 x ?_))
   rw[List.drop_take]
   exact hx
  by_cases he:r=0
  ·subst he
   rw[if_pos (by decide)]
   exact wpS_pure ⟨sv,.inl ⟨_,rfl,JG Vi⟩⟩
  ·rw[if_neg (by simpa using he)]
   obtain⟨r,rfl⟩:∃r',r=r'+1:=⟨r-1,by omega⟩
   exact wpS_mono (Ez hc hk1 ha hb hF (by omega) (by omega) hj Vi c1 (by omega)) λr st' ⟨e,z⟩=>⟨e▸sv,z⟩
 ·rw[if_neg hr0]
  have e:r=i:=by omega
  subst e
  obtain⟨r,rfl⟩:∃r',r=r'+1:=⟨r-1,by omega⟩
  exact wpS_mono (Ez hc hk1 ha hb hF (by omega) (by omega) hj mh c1 (by omega)) λr st' ⟨e,z⟩=>⟨e▸sv,z⟩
def Tc(hc:iQ prog w A s κ k D)(hk:kindOf st=κ)(ha:∀x∈a.toList,D x)(hb:∀x∈b.toList,D x)(hF:∀y∈b.toList.take 1,∀x∈a.toList,k y<=k x)(h:vp k N a b o i j)(hm:i+j<=m+1) :
 wpS (model prog w) A E s (hi3 a b (none,i,j,o,g)) (λr st'=>Sv st st'/\match r with
  | .done q=>∃r,q.1=some r/\Good k N r.toList
  | .yield q=>q.1=none/\vp k N a b q.2.2.2.1 q.2.1 q.2.2.1/\q.2.1+q.2.2.1<=m) st:=by
 unfold hi3
 dsimp only
 refine wpS_bind (wpS_mono (wpS_forRange (I:=λ_ (c:T1) st'=>st'=st/\c.1=none/\vp k N a b c.2.2.2.1 c.2.1 c.2.2.1/\c.2.1+c.2.2.1<=m+1) (Q:=λ(c:T1) st'=>st'=st/\((∃r,c.1=some r/\Good k N r.toList)\/(c.1=none/\vp k N a b c.2.2.2.1 c.2.1 c.2.2.1/\c.2.1+c.2.2.1<=m+1))) ?step ?fin ⟨rfl,rfl,h,hm⟩) ?post)
 case fin=>rintro c st' ⟨rfl,z⟩;exact⟨rfl,.inr z⟩
 case step=>
  rintro x ⟨c1,i',j',o',na',nb'⟩ st' _ _ ⟨rfl,rfl,h',hm'⟩
  refine wpS_mono (SX hc hk ha hb hF h' hm') λr st2 ⟨e,z⟩=>?_
  subst e
  cases r with
  |done q=>exact⟨rfl,z⟩
  |yield q=>exact⟨rfl,z⟩
 case post=>
  rintro ⟨c1,i',j',o',na',nb'⟩ st' ⟨rfl,z⟩
  rcases z with⟨r,e,hg⟩|⟨e,h',hm'⟩
  ·dsimp only at e
   subst e
   exact wpS_pure ⟨Sv.refl _,r,rfl,hg⟩
  ·dsimp only at e h' hm'
   subst e
   refine wpS_bind (iR ?_)
   refine wpS_bind (wpS_mono (wpS_forRange (I:=λx (c:T2) st2=>Sv st' st2/\c.1=none/\vp k N a b c.2.2.2.1 c.2.1 c.2.2.1/\c.2.1+c.2.2.1+min x 1<=m+1) (Q:=λ(c:T2) st2=>Sv st' st2/\((∃r,c.1=some r/\Good k N r.toList)\/(c.1=none/\vp k N a b c.2.2.2.1 c.2.1 c.2.2.1/\c.2.1+c.2.2.1<=m))) ?uF ?fin2 ⟨Sv.refl _,rfl,h',by dsimp only;omega⟩) ?post2)
   case fin2=>
    rintro c st2 ⟨sv,z1,z2,z3⟩
    refine⟨sv,.inr ⟨z1,z2,?_⟩⟩
    have:=z2.i0
    have:=z2.ia
    rw[show min (max 0 (a.size+b.size)) 1=1 by omega] at z3
    omega
   case uF=>
    rintro x ⟨c1,i2,j2,o2,g2,Vg,Vh⟩ st2 _ _ ⟨sv,rfl,h2,hm2⟩
    dsimp only at h2 hm2
    have key:∀g',wpS (model prog w) A E s (XQ a b (none,i2,j2,o2,g2,Vg,Vh) g') (λr st3=>Sv st2 st3/\H2 k N a b m r) st2:=λg'=>S_ hc (sv.kind.trans hk) ha hb hF h2 (by omega)
    unfold hi2
    dsimp only
    split
    ·refine wpS_mono (key _) λr st3 ⟨Bh,z⟩=>?_
     cases r with
     |done q=>exact⟨sv.trans Bh,z⟩
     |yield q=>exact⟨sv.trans Bh,z.1,z.2.1,by rw[show min (x+1) 1=1 by omega];exact Nat.succ_le_succ z.2.2⟩
    ·refine wpS_mono (key _) λr st3 ⟨Bh,z⟩=>?_
     cases r with
     |done q=>exact⟨sv.trans Bh,z⟩
     |yield q=>exact⟨sv.trans Bh,z.1,z.2.1,by rw[show min (x+1) 1=1 by omega];exact Nat.succ_le_succ z.2.2⟩
   case post2=>
    rintro ⟨c1,i2,j2,o2,g2,Vg,Vh⟩ st2 ⟨sv,z⟩
    rcases z with⟨r,e,hg⟩|⟨e,h2,hm2⟩
    ·dsimp only at e
     subst e
     exact wpS_pure ⟨sv,r,rfl,hg⟩
    ·dsimp only at e h2 hm2
     subst e
     exact wpS_bind (qT λst3 Bh=>wpS_pure ⟨sv.trans Bh,rfl,h2,hm2⟩)
def Td{Q:Array Keyed->SortSt->Prop}(hc:iQ prog w A s κ k D)(hk:kindOf st=κ)(ha:∀x∈a.toList,D x)(hb:∀x∈b.toList,D x)(sa:cW k a.toList)(sb:cW k b.toList)(h1:0<a.size)(h2:0<b.size)
 (hF:∀y∈b.toList.take 1,∀x∈a.toList,k y<=k x)(hL:∀y∈b.toList,∀x∈a.toList.drop (a.size-1),k y<=k x)(hq:∀r st',Sv st st'->Good k (a.toList++b.toList) r.toList->Q r st'):wpS (model prog w) A E s (mK a b) Q st:=by
 rw[SN]
 unfold mhi
 obtain⟨n,hn⟩:∃n,a.size=n+1:=⟨a.size-1,by omega⟩
 have hna:n<a.size:=by omega
 have en:a.size-1=n:=by omega
 rw[en] at hL ⊢
 refine wpS_bind (iR (wpS_bind (Ķ hna ?_)))
 have mh0:mO k (a.toList++b.toList) a b #[] (n+1) b.size:=by
  unfold mO
  rw[List.take_of_length_le (by simp;omega),List.take_of_length_le (by simp)]
  exact⟨by simp,.nil,sa,sb,λx _ y hy=>by simp at hy,λx _ y hy=>by simp at hy⟩
 have mh:mO k (a.toList++b.toList) a b #[a[n]] n b.size:=wu mh0 hna λy hy=>hL y (List.mem_of_mem_take hy) _ (by rw[dG hna];exact .head _)
 by_cases he:n=0
 ·subst he
  rw[if_pos (by decide)]
  exact wpS_pure (hq _ _ (Sv.refl _) (JG mh))
 ·rw[if_neg (by simpa using he)]
  by_cases he2:b.size=1
  ·rw[if_pos (by simpa using he2)]
   rw[he2] at mh ⊢
   exact wpS_pure (hq _ _ (Sv.refl _) (JH hF mh))
  ·rw[if_neg (by simpa using he2)]
   refine wpS_bind (wpS_get ?_)
   refine wpS_bind (wpS_mono (wpS_forRange (I:=λx (c:T3) st'=>Sv st st'/\c.1=none/\vp k (a.toList++b.toList) a b c.2.2.2.1 c.2.1 c.2.2.1/\x+(c.2.1+c.2.2.1)<=a.size+b.size) (Q:=λ(c:T3) st'=>Sv st st'/\∃r,c.1=some r/\Good k (a.toList++b.toList) r.toList) ?step ?fin ⟨Sv.refl _,rfl,⟨by dsimp only;omega,by dsimp only;omega,by dsimp only;omega,Nat.le_refl _,mh⟩,by dsimp only;omega⟩) ?post)
   case fin=>
    rintro c st' ⟨_,_,z,z2⟩
    have:=z.i0
    omega
   case step=>
    rintro x ⟨c1,i',j',o',g'⟩ st' _ hxn ⟨sv,rfl,h',hx⟩
    dsimp only at h' hx
    obtain⟨m,hm⟩:∃m,a.size+b.size-x=m+1:=⟨a.size+b.size-x-1,by omega⟩
    refine wpS_mono (Tc (m:=m) hc (sv.kind.trans hk) ha hb hF h' (by omega)) λr st2 ⟨XM,z⟩=>?_
    cases r with
    |done q=>exact⟨sv.trans XM,z⟩
    |yield q=>exact⟨sv.trans XM,z.1,z.2.1,by have:=z.2.2;omega⟩
   case post=>
    rintro ⟨c1,c2⟩ st' ⟨sv,r,e,hg⟩
    dsimp only at e
    subst e
    exact wpS_pure (hq r st' sv hg)
end
end iM
namespace iM
open PySem PyProof.Rows
abbrev CA:=Option (Option Nat)×Nat
abbrev CD:=Option (Option Nat)×Nat×Nat
def JK(lo a nrem:Nat):SM CA:=
 forIn [a:nrem] ((none,a):CA) λ_ q=>ltAt' (lo+q.2) (lo+q.2-1) >>= λr=>match r with
  |some c=>if c=true then pure (.done (none,q.2)) else pure (.yield (none,q.2+1))
  |_=>pure (.done (some none,q.2))
def yG(lo n nrem:Nat):SM (Option Nat):=
 reverseSlice' lo (lo+n) >>= λ_=>JK lo n nrem >>= λq=>match q.1 with
  |some r=>pure r
  |none=>pure (some q.2)
def EY(lo n nrem:Nat):SM CD:=
 forIn [n:nrem] ((none,n,0):CD) λ_ q=>ltAt' (lo+q.2.1) (lo+q.2.1-1) >>= λr=>match r with
  |some c=>if c=true then(if q.2.2>0 then reverseSlice' (lo+q.2.1-(q.2.2+1)) (lo+q.2.1) >>= λ_=>pure (.yield (none,q.2.1+1,0)) else pure (.yield (none,q.2.1+1,0)))
   else ltAt' (lo+q.2.1-1) (lo+q.2.1) >>= λr=>match r with
    |some c=>if c=true then pure (.done (none,q.2.1,q.2.2)) else pure (.yield (none,q.2.1+1,q.2.2+1))
    |_=>pure (.done (some none,q.2.1,q.2.2))
  |_=>pure (.done (some none,q.2.1,q.2.2))
def yH(lo n nrem:Nat):SM (Option Nat):=
 liftM (rule "list.sort.descending-run") >>= λ_=>EY lo (n+1) nrem >>= λq=>match q.1 with
  |some r=>pure r
  |none=>if q.2.2>0 then reverseSlice' (lo+q.2.1-(q.2.2+1)) (lo+q.2.1) >>= λ_=>yG lo q.2.1 nrem else yG lo q.2.1 nrem
def Yb(lo nrem:Nat):SM (Option Nat):=
 JK lo 1 nrem >>= λq=>match q.1 with
  |some r=>pure r
  |none=>if(q.2== nrem)=true then pure (some q.2) else if q.2>1 then ltAt' lo (lo+q.2-1) >>= fun r=>(match r with
    |some c=>if c=true then pure (some q.2) else reverseSlice' lo (lo+q.2) >>= λ_=>yH lo q.2 nrem
    |_=>pure none)
   else yH lo q.2 nrem
def JL(lo nrem:Nat):countRun' lo nrem=Yb lo nrem:=by kernel_rfl
section
variable{prog:Program}{w:World}{A:Around}{E:Value->Shared->Prop}{s:Shared}{st st0:SortSt}{κ:SortKind}{k:Keyed->Int}{D:Keyed->Prop}{lo n nrem:Nat}
def kx(k:Keyed->Int)(xs:Array Keyed)(i:Nat):Int:=match xs[i]? with
 |some x=>k x
 |none=>0
def cX{xs ys:Array Keyed}{i j:Nat}(h:xs[i]?=ys[j]?):kx k xs i=kx k ys j:=by unfold kx;rw[h]
structure Fm(κ:SortKind)(D:Keyed->Prop)(lo:Nat)(st0 st:SortSt):Prop where
 kind:kindOf st=κ
 pend:pendingOf st=pendingOf st0
 fail:failedOf st=failedOf st0
 perm:(arrOf st).Perm (arrOf st0)
 low:∀i,i<lo->(arrOf st)[i]?=(arrOf st0)[i]?
 dom:∀x∈(arrOf st0).toList,D x
theorem Fm.size(h:Fm κ D lo st0 st):(arrOf st).size=(arrOf st0).size:=h.perm.size_eq
def Fm.set{xs:Array Keyed}(h:Fm κ D lo st0 st)(hp:xs.Perm (arrOf st))(hl:∀i,i<lo->xs[i]?=(arrOf st)[i]?):Fm κ D lo st0 (setArr st xs):=
 ⟨h.kind,h.pend,h.fail,hp.trans h.perm,λi hi=>(hl i hi).trans (h.low i hi),h.dom⟩
def E_(hc:iQ prog w A s κ k D)(h:Fm κ D lo st0 st){i j:Nat}(hi:i<(arrOf st0).size)(hj:j<(arrOf st0).size){Q:Option Bool->SortSt->Prop}(hq:Q (some (decide (kx k (arrOf st) i<kx k (arrOf st) j))) st):wpS (model prog w) A E s (ltAt' i j) Q st:=by
 have hi':i<(arrOf st).size:=by rw[h.size];exact hi
 have hj':j<(arrOf st).size:=by rw[h.size];exact hj
 have hd:∀x∈(arrOf st).toList,D x:=λx hx=>h.dom x (h.perm.toList.mem_iff.mp hx)
 rw[ltAt'_eq]
 refine wpS_bind (wpS_get (wpS_bind (Ķ hi' (wpS_bind (Ķ hj' (w_lt hc h.kind (hd _ (by simp)) (hd _ (by simp)) ?_))))))
 unfold kx at hq
 rw[Array.getElem?_eq_getElem hi',Array.getElem?_eq_getElem hj'] at hq
 exact hq
def w_rev{i j:Nat}{Q:Unit->SortSt->Prop}(h:Q () (setArr st (mirror (arrOf st) i j ((j-i) / 2)))):wpS (model prog w) A E s (reverseSlice' i j) Q st:=by
 rw[reverseSlice'_eq]
 exact wpS_modify h
def wz{xs:Array Keyed}{i j:Nat}(hj:j<=xs.size)(m:Nat):kx k (mirror xs i j ((j-i) / 2)) m=if i<=m/\m<j then kx k xs (i+j-1-m) else kx k xs m:=by
 have e:=getElem?_mirror_all (i:=i) hj m
 by_cases h1:i<=m/\m<j
 ·rw[if_pos h1] at e ⊢;exact cX e
 ·rw[if_neg h1] at e ⊢;exact cX e
def bG{xs:Array Keyed}{i j:Nat}(hj:j<=xs.size)(heq:∀m,i<=m->m<j->kx k xs m=kx k xs (j-1))(m:Nat):kx k (mirror xs i j ((j-i) / 2)) m=kx k xs m:=by
 rw[wz hj]
 split
 ·rw[heq _ (by omega) (by omega),heq m (by omega) (by omega)]
 ·rfl
def Fm.mir(h:Fm κ D lo st0 st){i j:Nat}(hi:lo<=i)(hj:j<=(arrOf st0).size):Fm κ D lo st0 (setArr st (mirror (arrOf st) i j ((j-i) / 2))):=
 h.set (mirror_perm _ _ _ _) λm hm=>by rw[getElem?_mirror_all (by rw[h.size];exact hj),if_neg (by omega)]
def Up(k:Keyed->Int)(xs:Array Keyed)(lo n:Nat):Prop:=∀i j,i<=j->j<n->kx k xs (lo+i)<=kx k xs (lo+j)
def Dn(k:Keyed->Int)(xs:Array Keyed)(lo n:Nat):Prop:=∀i j,i<=j->j<n->kx k xs (lo+j)<=kx k xs (lo+i)
def Up.one(xs:Array Keyed)(lo:Nat):Up k xs lo 1:=λi j h1 h2=>by
 have:i=j:=by omega
 subst this
 exact Int.le_refl _
def yI{a:Nat}{Q:CA->SortSt->Prop}(hc:iQ prog w A s κ k D)(hn:lo+nrem<=(arrOf st0).size)(ha:1<=a)(han:a<=nrem)(hF:Fm κ D lo st0 st)(hs:Up k (arrOf st) lo a)
 (h:∀n,a<=n->n<=nrem->Up k (arrOf st) lo n->(n=nrem\/kx k (arrOf st) (lo+n)<kx k (arrOf st) (lo+n-1))->Q (none,n) st):wpS (model prog w) A E s (JK lo a nrem) Q st:=by
 unfold JK
 refine wpS_forRange (I:=λx c st'=>st'=st/\c=(none,x)/\Up k (arrOf st) lo x) ?step ?fin ⟨rfl,rfl,hs⟩
 case fin=>
  rintro c st' ⟨rfl,rfl,hs'⟩
  rw[show max a nrem=nrem by omega] at hs' ⊢
  exact h nrem han (Nat.le_refl _) hs' (.inl rfl)
 case step=>
  rintro x c st' hax hxn ⟨rfl,rfl,hs'⟩
  dsimp only
  refine wpS_bind (E_ hc hF (by omega) (by omega) ?_)
  by_cases hl:kx k (arrOf st') (lo+x)<kx k (arrOf st') (lo+x-1)
  ·rw[decide_eq_true hl]
   dsimp only
   rw[if_pos rfl]
   exact wpS_pure (h x hax (by omega) hs' (.inr hl))
  ·rw[decide_eq_false hl]
   dsimp only
   rw[if_neg Bool.false_ne_true]
   refine wpS_pure ⟨rfl,rfl,λi j hij hj=>?_⟩
   by_cases hjx:j<x
   ·exact hs' i j hij hjx
   ·have e:j=x:=by omega
    subst e
    by_cases e2:i=j
    ·subst e2;exact Int.le_refl _
    ·have z:=hs' i (j-1) (by omega) (by omega)
     rw[show lo+(j-1)=lo+j-1 by omega] at z
     omega
def uG{Q:Option Nat->SortSt->Prop}(hc:iQ prog w A s κ k D)(hn:lo+nrem<=(arrOf st0).size)(h1:1<=n)(hnn:n<=nrem)(hF:Fm κ D lo st0 st)(hs:Dn k (arrOf st) lo n)
 (h:∀m st',Fm κ D lo st0 st'->1<=m->m<=nrem->Up k (arrOf st') lo m->Q (some m) st'):wpS (model prog w) A E s (yG lo n nrem) Q st:=by
 unfold yG
 have hsz:lo+n<=(arrOf st).size:=by rw[hF.size];omega
 refine wpS_bind (w_rev ?_)
 have hF':=hF.mir (i:=lo) (j:=lo+n) (Nat.le_refl _) (by omega)
 refine wpS_bind (yI hc hn h1 hnn hF' ?_ λm m1 m2 m3 _=>wpS_pure (h m _ hF' (by omega) m2 m3))
 intro i j hij hj
 show kx k (mirror (arrOf st) lo (lo+n) ((lo+n-lo) / 2)) (lo+i)<=kx k (mirror (arrOf st) lo (lo+n) ((lo+n-lo) / 2)) (lo+j)
 rw[wz hsz,wz hsz,if_pos (by omega),if_pos (by omega)]
 have:=hs (n-1-j) (n-1-i) (by omega) (by omega)
 rw[show lo+(lo+n)-1-(lo+i)=lo+(n-1-i) by omega,show lo+(lo+n)-1-(lo+j)=lo+(n-1-j) by omega]
 exact this
def Fb{Q:CD->SortSt->Prop}(hc:iQ prog w A s κ k D)(hn:lo+nrem<=(arrOf st0).size)(h1:1<=n)(hnn:n<=nrem)(hF:Fm κ D lo st0 st)(hs:Dn k (arrOf st) lo n)
 (h:∀m q st',Fm κ D lo st0 st'->n<=m->m<=nrem->Dn k (arrOf st') lo m->q+1<=m->(∀i,lo+m-(q+1)<=i->i<lo+m->kx k (arrOf st') i=kx k (arrOf st') (lo+m-1))->Q (none,m,q) st'):wpS (model prog w) A E s (EY lo n nrem) Q st:=by
 unfold EY
 refine wpS_forRange (I:=λx c st'=>∃q,c=(none,x,q)/\Fm κ D lo st0 st'/\Dn k (arrOf st') lo x/\q+1<=x/\(∀i,lo+x-(q+1)<=i->i<lo+x->kx k (arrOf st') i=kx k (arrOf st') (lo+x-1))) ?step ?fin ⟨0,rfl,hF,hs,by omega,λi z1 z2=>by congr 1;omega⟩
 case fin=>
  rintro c st' ⟨q,rfl,hF',hs',hq,he⟩
  rw[show max n nrem=nrem by omega] at hs' hq he ⊢
  exact h nrem q st' hF' hnn (Nat.le_refl _) hs' hq he
 case step=>
  rintro x c st' hax hxn ⟨q,rfl,hF',hs',hq,he⟩
  dsimp only
  have hsz:lo+x<=(arrOf st').size:=by rw[hF'.size];omega
  refine wpS_bind (E_ hc hF' (by omega) (by omega) ?_)
  by_cases hl:kx k (arrOf st') (lo+x)<kx k (arrOf st') (lo+x-1)
  ·rw[decide_eq_true hl]
   dsimp only
   rw[if_pos rfl]
   have step1:∀xs:Array Keyed,(∀m,kx k xs m=kx k (arrOf st') m)->Dn k xs lo (x+1):=by
    intro xs hk i j hij hj
    rw[hk,hk]
    by_cases hjx:j<x
    ·exact hs' i j hij hjx
    ·have e:j=x:=by omega
     subst e
     by_cases e2:i=j
     ·subst e2;exact Int.le_refl _
     ·have z:=hs' i (j-1) (by omega) (by omega)
      rw[show lo+(j-1)=lo+j-1 by omega] at z
      omega
   by_cases hq0:q>0
   ·rw[if_pos hq0]
    exact wpS_bind (w_rev (wpS_pure ⟨0,rfl,hF'.mir (by omega) (by omega),step1 _ (bG hsz he),by omega,λi z1 z2=>by congr 1;omega⟩))
   ·rw[if_neg hq0]
    exact wpS_pure ⟨0,rfl,hF',step1 _ (λ_=>rfl),by omega,λi z1 z2=>by congr 1;omega⟩
  ·rw[decide_eq_false hl]
   dsimp only
   rw[if_neg Bool.false_ne_true]
   refine wpS_bind (E_ hc hF' (by omega) (by omega) ?_)
   by_cases hg:kx k (arrOf st') (lo+x-1)<kx k (arrOf st') (lo+x)
   ·rw[decide_eq_true hg]
    dsimp only
    rw[if_pos rfl]
    exact wpS_pure (h x q st' hF' hax (by omega) hs' hq he)
   ·rw[decide_eq_false hg]
    dsimp only
    rw[if_neg Bool.false_ne_true]
    have heq:kx k (arrOf st') (lo+x)=kx k (arrOf st') (lo+x-1):=by omega
    refine wpS_pure ⟨q+1,rfl,hF',λi j hij hj=>?_,by omega,λi z1 z2=>?_⟩
    ·by_cases hjx:j<x
     ·exact hs' i j hij hjx
     ·have e:j=x:=by omega
      subst e
      by_cases e2:i=j
      ·subst e2;exact Int.le_refl _
      ·rw[heq]
       have z:=hs' i (j-1) (by omega) (by omega)
       rw[show lo+(j-1)=lo+j-1 by omega] at z
       exact z
    ·rw[show lo+(x+1)-1=lo+x by omega]
     by_cases e:i=lo+x
     ·subst e;rfl
     ·rw[heq];exact he i (by omega) (by omega)
def uH{Q:Option Nat->SortSt->Prop}(hc:iQ prog w A s κ k D)(hn:lo+nrem<=(arrOf st0).size)(hnn:n+1<=nrem)(hF:Fm κ D lo st0 st)(hs:Dn k (arrOf st) lo (n+1))
 (h:∀m st',Fm κ D lo st0 st'->1<=m->m<=nrem->Up k (arrOf st') lo m->Q (some m) st'):wpS (model prog w) A E s (yH lo n nrem) Q st:=by
 unfold yH
 refine wpS_bind (iR ?_)
 refine wpS_bind (Fb hc hn (by omega) hnn hF hs λm q st' hF' m1 m2 hs' hq he=>?_)
 dsimp only
 have hsz:lo+m<=(arrOf st').size:=by rw[hF'.size];omega
 by_cases hq0:q>0
 ·rw[if_pos hq0]
  refine wpS_bind (w_rev (uG hc hn (by omega) m2 (hF'.mir (by omega) (by omega)) ?_ h))
  intro i j hij hj
  show kx k (mirror (arrOf st') _ _ _) (lo+j)<=kx k (mirror (arrOf st') _ _ _) (lo+i)
  rw[bG hsz he,bG hsz he]
  exact hs' i j hij hj
 ·rw[if_neg hq0]
  exact uG hc hn (by omega) m2 hF' hs' h
def JM{Q:Option Nat->SortSt->Prop}(hc:iQ prog w A s κ k D)(hn:lo+nrem<=(arrOf st0).size)(h1:1<=nrem)(hF:Fm κ D lo st0 st)
 (h:∀m st',Fm κ D lo st0 st'->1<=m->m<=nrem->Up k (arrOf st') lo m->Q (some m) st'):wpS (model prog w) A E s (countRun' lo nrem) Q st:=by
 rw[JL]
 unfold Yb
 refine wpS_bind (yI hc hn (Nat.le_refl 1) h1 hF (Up.one _ _) λn n1 n2 hsn hor=>?_)
 dsimp only
 by_cases hnn:n=nrem
 ·rw[if_pos (by simpa using hnn)]
  exact wpS_pure (h n st hF n1 n2 hsn)
 ·rw[if_neg (by simpa using hnn)]
  have hlt:=hor.resolve_left hnn
  by_cases hgt:n>1
  ·rw[if_pos hgt]
   refine wpS_bind (E_ hc hF (by omega) (by omega) ?_)
   by_cases hr:kx k (arrOf st) lo<kx k (arrOf st) (lo+n-1)
   ·rw[decide_eq_true hr]
    dsimp only
    rw[if_pos rfl]
    exact wpS_pure (h n st hF n1 n2 hsn)
   ·rw[decide_eq_false hr]
    dsimp only
    rw[if_neg Bool.false_ne_true]
    have hsz:lo+n<=(arrOf st).size:=by rw[hF.size];omega
    have hall:∀m,lo<=m->m<lo+n->kx k (arrOf st) m=kx k (arrOf st) (lo+n-1):=by
     intro m m1 m2
     have a1:=hsn 0 (m-lo) (by omega) (by omega)
     have a2:=hsn (m-lo) (n-1) (by omega) (by omega)
     rw[show lo+(m-lo)=m by omega] at a1 a2
     rw[show lo+(n-1)=lo+n-1 by omega] at a2
     rw[Nat.add_zero] at a1
     omega
    refine wpS_bind (w_rev (uH hc hn (by omega) (hF.mir (Nat.le_refl _) (by omega)) ?_ h))
    intro i j hij hj
    show kx k (mirror (arrOf st) _ _ _) (lo+j)<=kx k (mirror (arrOf st) _ _ _) (lo+i)
    rw[bG hsz hall,bG hsz hall]
    by_cases hjn:j<n
    ·rw[hall (lo+i) (by omega) (by omega),hall (lo+j) (by omega) (by omega)];exact Int.le_refl _
    ·have e:j=n:=by omega
     subst e
     by_cases e2:i=j
     ·subst e2;exact Int.le_refl _
     ·rw[hall (lo+i) (by omega) (by omega)];exact Int.le_of_lt hlt
  ·rw[if_neg hgt]
   have e:n=1:=by omega
   subst e
   refine uH hc hn (by omega) hF ?_ h
   intro i j hij hj
   by_cases e2:i=j
   ·subst e2;exact Int.le_refl _
   ·have i0:i=0:=by omega
    have j1:j=1:=by omega
    subst i0;subst j1
    exact Int.le_of_lt hlt
end
end iM
namespace iM
open PySem PyProof.Rows
def Fd:Nat->Nat->Nat->SM Bool:=sortPriv% PySem.Builtin.binarySort
abbrev BS:=Option Bool×Nat×Nat
def wA(lo n:Nat):SM BS:=
 forIn [:n] ((none,0,n):BS) λ_ q=>if q.2.1 >= q.2.2 then pure (.done (none,q.2.1,q.2.2)) else ltAt' (lo+n) (lo+(q.2.1+q.2.2) / 2) >>= λr=>match r with
  |some c=>if c=true then pure (.yield (none,q.2.1,(q.2.1+q.2.2) / 2)) else pure (.yield (none,(q.2.1+q.2.2) / 2+1,q.2.2))
  |_=>pure (.done (some false,q.2.1,q.2.2))
def Lw(lo n ok:Nat):SM Bool:=
 (forIn [max ok 1:n] ((none,()):Option Bool×Unit) fun i _=>wA lo i >>= fun q=>match q.1 with
   |some r=>pure (.done (some r,()))
   |none=>moveDown' (lo+i) (lo+q.2.1) >>= λ_=>pure (.yield (none,()))) >>= λq=>match q.1 with
   |some r=>pure r
   |none=>pure true
def Fe(lo n ok:Nat):Fd lo n ok=Lw lo n ok:=by kernel_rfl
section
variable{prog:Program}{w:World}{A:Around}{E:Value->Shared->Prop}{s:Shared}{st st0:SortSt}{κ:SortKind}{k:Keyed->Int}{D:Keyed->Prop}{lo n:Nat}
def Ak{Q:BS->SortSt->Prop}(hc:iQ prog w A s κ k D)(hn:lo+n<(arrOf st0).size)(hF:Fm κ D lo st0 st)(hs:Up k (arrOf st) lo n)
 (h:∀l,l<=n->(∀i,i<l->kx k (arrOf st) (lo+i)<=kx k (arrOf st) (lo+n))->(∀i,l<=i->i<n->kx k (arrOf st) (lo+n)<kx k (arrOf st) (lo+i))->Q (none,l,l) st):wpS (model prog w) A E s (wA lo n) Q st:=by
 unfold wA
 refine wpS_mono (wpS_forRange (I:=λx (c:BS) st'=>st'=st/\∃l r,c=(none,l,r)/\l<=r/\r<=n/\r-l<=n-x/\(∀i,i<l->kx k (arrOf st) (lo+i)<=kx k (arrOf st) (lo+n))/\(∀i,r<=i->i<n->kx k (arrOf st) (lo+n)<kx k (arrOf st) (lo+i)))
  (Q:=λ(c:BS) st'=>st'=st/\∃l,c=(none,l,l)/\l<=n/\(∀i,i<l->kx k (arrOf st) (lo+i)<=kx k (arrOf st) (lo+n))/\(∀i,l<=i->i<n->kx k (arrOf st) (lo+n)<kx k (arrOf st) (lo+i))) ?step ?fin ⟨rfl,0,n,rfl,by omega,by omega,by omega,λi z=>by omega,λi z1 z2=>by omega⟩) ?post
 case fin=>
  rintro c st' ⟨rfl,l,r,rfl,a1,a2,a3,a4,a5⟩
  have e:l=r:=by omega
  subst e
  exact⟨rfl,l,rfl,a2,a4,a5⟩
 case step=>
  rintro x c st' _ hx ⟨rfl,l,r,rfl,a1,a2,a3,a4,a5⟩
  dsimp only
  by_cases hl:l >= r
  ·rw[if_pos hl]
   have e:l=r:=by omega
   subst e
   exact wpS_pure ⟨rfl,l,rfl,a2,a4,a5⟩
  ·rw[if_neg hl]
   refine wpS_bind (E_ hc hF (by omega) (by omega) ?_)
   by_cases hw:kx k (arrOf st') (lo+n)<kx k (arrOf st') (lo+(l+r) / 2)
   ·rw[decide_eq_true hw]
    dsimp only
    rw[if_pos rfl]
    refine wpS_pure ⟨rfl,_,_,rfl,by omega,by omega,by omega,a4,λi z1 z2=>?_⟩
    exact Int.lt_of_lt_of_le hw (hs _ i z1 z2)
   ·rw[decide_eq_false hw]
    dsimp only
    rw[if_neg Bool.false_ne_true]
    refine wpS_pure ⟨rfl,_,_,rfl,by omega,by omega,by omega,λi z=>?_,a5⟩
    exact Int.le_trans (hs i _ (by omega) (by omega)) (Int.not_lt.mp hw)
 case post=>
  rintro c st' ⟨rfl,l,rfl,z1,z2,z3⟩
  exact h l z1 z2 z3
def Fg{xs:Array Keyed}{src d:Nat}(hs:src<xs.size)(hd:d<=src)(m:Nat):kx k (bubble xs src d) m=if m=src-d then kx k xs src else if src-d<m/\m<=src then kx k xs (m-1) else kx k xs m:=by
 have e:=getElem?_bubble hs d hd m
 by_cases h1:m=src-d
 ·rw[if_pos h1] at e ⊢;exact cX e
 ·rw[if_neg h1] at e ⊢
  by_cases h2:src-d<m/\m<=src
  ·rw[if_pos h2] at e ⊢;exact cX e
  ·rw[if_neg h2] at e ⊢;exact cX e
def Fi{ok:Nat}{Q:Bool->SortSt->Prop}(hc:iQ prog w A s κ k D)(hn:lo+n<=(arrOf st0).size)(h1:1<=ok)(hok:ok<=n)(hF:Fm κ D lo st0 st)(hs:Up k (arrOf st) lo ok)
 (h:∀st',Fm κ D lo st0 st'->Up k (arrOf st') lo n->Q true st'):wpS (model prog w) A E s (Fd lo n ok) Q st:=by
 rw[Fe]
 unfold Lw
 refine wpS_bind (wpS_mono (wpS_forRange (I:=λx (c:Option Bool×Unit) st'=>c=(none,())/\Fm κ D lo st0 st'/\Up k (arrOf st') lo x) (Q:=λc st'=>c=(none,())/\Fm κ D lo st0 st'/\Up k (arrOf st') lo n) ?step ?fin ⟨rfl,hF,by rw[show max ok 1=ok by omega];exact hs⟩) ?post)
 case fin=>
  rintro c st' ⟨rfl,z1,z2⟩
  rw[show max (max ok 1) n=n by omega] at z2
  exact⟨rfl,z1,z2⟩
 case step=>
  rintro x c st' hax hxn ⟨rfl,hF',hs'⟩
  refine wpS_bind (Ak hc (by omega) hF' hs' λl hl c1 c2=>?_)
  dsimp only
  have hsz:lo+x<(arrOf st').size:=by rw[hF'.size];omega
  rw[moveDown'_eq]
  refine wpS_bind (wpS_modify (wpS_pure ⟨rfl,hF'.set (bubble_perm _ _ _) λi hi=>?_,λi j hij hj=>?_⟩))
  ·rw[getElem?_bubble hsz _ (by omega),if_neg (by omega),if_neg (by omega)]
  ·show kx k (bubble (arrOf st') (lo+x) (lo+x-(lo+l))) (lo+i)<=kx k (bubble (arrOf st') (lo+x) (lo+x-(lo+l))) (lo+j)
   rw[Fg hsz (by omega),Fg hsz (by omega)]
   have e0:lo+x-(lo+x-(lo+l))=lo+l:=by omega
   rw[e0]
   by_cases i1:i=l
   ·rw[if_pos (by omega)]
    by_cases j1:j=l
    ·rw[if_pos (by omega)];exact Int.le_refl _
    ·rw[if_neg (by omega),if_pos (by omega)]
     have:=c2 (j-1) (by omega) (by omega)
     rw[show lo+(j-1)=lo+j-1 by omega] at this
     exact Int.le_of_lt this
   ·rw[if_neg (by omega)]
    by_cases i2:l<i
    ·rw[if_pos (by omega),if_neg (by omega),if_pos (by omega)]
     have:=hs' (i-1) (j-1) (by omega) (by omega)
     rw[show lo+(i-1)=lo+i-1 by omega,show lo+(j-1)=lo+j-1 by omega] at this
     exact this
    ·rw[if_neg (by omega)]
     by_cases j1:j=l
     ·rw[if_pos (by omega)]
      exact c1 i (by omega)
     ·rw[if_neg (by omega)]
      by_cases j2:l<j
      ·rw[if_pos (by omega)]
       have:=hs' i (j-1) (by omega) (by omega)
       rw[show lo+(j-1)=lo+j-1 by omega] at this
       exact this
      ·rw[if_neg (by omega)]
       exact hs' i j hij (by omega)
 case post=>
  rintro c st' ⟨rfl,z1,z2⟩
  exact wpS_pure (h st' z1 z2)
end
end iM
namespace iM
open PySem PyProof.Rows
def wr(sa:Nat)(m:Array Keyed)(xs:Array Keyed):Array Keyed:=m.toList.zipIdx.foldl (λa z=>match z with|(p,j)=>a.setIfInBounds (sa+j) p) xs
def mWr(sa:Nat)(m:Array Keyed):SM Bool:=modify (λs=>setArr s (wr sa m (arrOf s))) >>= λ_=>get >>= λs=>pure (failedOf s).isNone
def mAt(i:Nat):SM Bool:=get >>= λs=>match((pendingOf s)[i]?,(pendingOf s)[i+1]?) with
 |(some (sa,na,p),some (sb,nb,_))=>set (setPending s (((pendingOf s).setIfInBounds i (sa,na+nb,p)).eraseIdxIfInBounds (i+1))) >>= λ_=>
  elem' (arrOf s) sb >>= λy=>aO false y (arrOf s) sa na 0 >>= λr=>match r with
   |some r=>if(na-r== 0)=true then pure true else elem' (arrOf s) (sa+r+(na-r)-1) >>= λx=>aO true x (arrOf s) sb nb (nb-1) >>= λq=>(match q with
    |some q=>if(q== 0)=true then pure true else if na-r<=q then mJ ((arrOf s).extract (sa+r) sb) ((arrOf s).extract sb (sb+q)) >>= λm=>mWr (sa+r) m
     else mK ((arrOf s).extract (sa+r) sb) ((arrOf s).extract sb (sb+q)) >>= λm=>mWr (sa+r) m
    |_=>pure false)
   |_=>pure false
 |_=>liftM (unsupported "internal:list.sort.pending")
def Te(i:Nat):mergeAt' i=mAt i:=by kernel_rfl
theorem Lx(sa:Nat):∀(l:List Keyed) (o:Nat) (xs:Array Keyed),sa+o+l.length<=xs.size->((l.zipIdx o).foldl (λ(a:Array Keyed) (z:Keyed×Nat)=>match z with|(p,j)=>a.setIfInBounds (sa+j) p) xs).toList=xs.toList.take (sa+o)++l++xs.toList.drop (sa+o+l.length)
 | [],o,xs,_=>by simp
 |x::l,o,xs,h=>by
  rw[List.zipIdx_cons,List.foldl_cons]
  dsimp only
  have hl:sa+o<xs.toList.length:=by simp at h ⊢;omega
  rw[show sa+o+(x::l).length=sa+(o+1)+l.length by simp;omega] at h ⊢
  rw[Lx sa l (o+1) _ (by simpa using h)]
  have e1:(xs.setIfInBounds (sa+o) x).toList=xs.toList.set (sa+o) x:=by simp
  rw[e1,List.drop_set_of_lt (by omega),show sa+(o+1)=(sa+o)+1 by omega,List.take_add_one,List.take_set_of_le (Nat.le_refl _),List.getElem?_set_self hl]
  simp
def Yc(sa:Nat)(m xs:Array Keyed)(h:sa+m.size<=xs.size):(wr sa m xs).toList=xs.toList.take sa++m.toList++xs.toList.drop (sa+m.size):=by
 have:=Lx sa m.toList 0 xs (by simpa using h)
 simpa[wr] using this
section
variable{prog:Program}{w:World}{A:Around}{E:Value->Shared->Prop}{s:Shared}{st:SortSt}{κ:SortKind}{k:Keyed->Int}{D:Keyed->Prop}
def Fj{xs:Array Keyed}{P:List Keyed}{x:Keyed}{T:List Keyed}(h:xs.toList=P++x::T){i:Nat}(hi:P.length=i):∃(hl:i<xs.size),xs[i]=x:=by
 have hl:i<xs.size:=by
  have:=congrArg List.length h
  simp at this
  omega
 refine⟨hl,?_⟩
 have:xs.toList[i]?=some x:=by
  rw[h,List.getElem?_append_right (by omega),hi,Nat.sub_self]
  rfl
 rw[Array.getElem?_toList,Array.getElem?_eq_getElem hl] at this
 exact Option.some.inj this
def Tf{i sa na p nb p2:Nat}{P Al Bl T:List Keyed}{Q:Bool->SortSt->Prop}(hc:iQ prog w A s κ k D)(hk:kindOf st=κ)(hf:failedOf st=none)(hD:∀x∈(arrOf st).toList,D x)(h1:(pendingOf st)[i]?=some (sa,na,p))(h2:(pendingOf st)[i+1]?=some (sa+na,nb,p2))
 (hL:(arrOf st).toList=P++(Al++(Bl++T)))(lP:P.length=sa)(lA:Al.length=na)(lB:Bl.length=nb)(a0:0<na)(b0:0<nb)(sA:cW k Al)(sB:cW k Bl)
 (hq:∀st' C,kindOf st'=κ->failedOf st'=none->pendingOf st'=((pendingOf st).setIfInBounds i (sa,na+nb,p)).eraseIdxIfInBounds (i+1)->(arrOf st').toList=P++(C++T)->C.Perm (Al++Bl)->cW k C->Q true st'):wpS (model prog w) A E s (mergeAt' i) Q st:=by
 rw[Te]
 unfold mAt
 refine wpS_bind (wpS_get ?_)
 rw[h1,h2]
 dsimp only
 obtain⟨y,B',hB⟩:∃y B',Bl=y::B':=by cases Bl with
  |nil=>simp at lB;omega
  |cons y B'=>exact⟨y,B',rfl⟩
 obtain⟨A',z,hA⟩:∃A' z,Al=A' ++ [z]:=⟨Al.dropLast,Al.getLast (by intro e;subst e;simp at lA;omega),(List.dropLast_concat_getLast _).symm⟩
 have Zct:∀{Q:PUnit->SortSt->Prop} (st1:SortSt),Q ⟨⟩ st1->wpS (model prog w) A E s (set st1:SM PUnit) Q st:=λst1 hq=>by
  unfold wpS
  rw[StateT.run_set]
  exact wpAny_pure ⟨rfl,hq⟩
 refine wpS_bind (Zct _ ?_)
 generalize JN:setPending st (((pendingOf st).setIfInBounds i (sa,na+nb,p)).eraseIdxIfInBounds (i+1))=st1
 have k1:kindOf st1=κ:= by rw[<-JN];exact hk
 have f1:failedOf st1=none:=by rw[<-JN];exact hf
 have p1:pendingOf st1=((pendingOf st).setIfInBounds i (sa,na+nb,p)).eraseIdxIfInBounds (i+1):=by rw[<-JN]
 have r1:arrOf st1=arrOf st:=by rw[<-JN]
 generalize hxs:arrOf st=xs at *
 have hsz:sa+na+nb<=xs.size:=by
  have:=congrArg List.length hL
  simp at this
  omega
 have hdA:(xs.toList.drop sa).take na=Al:=by rw[hL,<-lP,List.drop_left,<-lA,List.take_left]
 have hdB:(xs.toList.drop (sa+na)).take nb=Bl:=by
  rw[hL,<-lP,<-lA,<-List.drop_drop,List.drop_left,List.drop_left,<-lB,List.take_left]
 obtain⟨hyl,hy⟩:=Fj (xs:=xs) (P:=P++Al) (x:=y) (T:=B'++T) (i:=sa+na) (by rw[hL,hB];simp) (by simp[lP,lA])
 refine wpS_bind (Ķ hyl ?_)
 rw[hy]
 have Dy:D y:=hD y (by rw[hL,hB];simp)
 have Dz:D z:=hD z (by rw[hL,hA];simp)
 refine wpS_bind (pP hc k1 Dy hD (by omega) a0 (by rw[hdA];exact sA) λr hr c1 c2=>?_)
 simp only[Bool.false_eq_true,if_false] at c1 c2
 rw[hdA] at c2
 have c1':∀x∈Al.take r,k x<=k y:=λx hx=>c1 x (by
  rw[<-hdA,List.take_take,Nat.min_eq_left hr] at hx
  exact hx)
 dsimp only
 have yB:∀x∈Bl,k y<=k x:=by
  rw[hB] at sB ⊢
  intro x hx
  rcases List.mem_cons.mp hx with rfl|hx
  ·exact Int.le_refl _
  ·exact(List.pairwise_cons.mp sB).1 x hx
 have zA:∀x∈Al,k x<=k z:=by
  rw[hA] at sA ⊢
  intro x hx
  rcases List.mem_append.mp hx with hx|hx
  ·exact(List.pairwise_append.mp sA).2.2 x hx z (.head _)
  ·rw[List.mem_singleton.mp hx];exact Int.le_refl _
 by_cases e0:na-r=0
 ·rw[if_pos (by simpa using e0)]
  have er:Al.take r=Al:=List.take_of_length_le (by omega)
  rw[er] at c1'
  refine wpS_pure (hq st1 (Al++Bl) k1 f1 p1 (by rw[r1,hL];simp) (.refl _) (sA.app sB λx hx b hb=>Int.le_trans (c1' x hx) (yB b hb)))
 ·rw[if_neg (by simpa using e0)]
  obtain⟨hzl,hz⟩:=Fj (xs:=xs) (P:=P++A') (x:=z) (T:=Bl++T) (i:=sa+r+(na-r)-1) (by rw[hL,hA];simp) (by rw[hA] at lA;simp at lA ⊢;omega)
  refine wpS_bind (Ķ hzl ?_)
  rw[hz]
  refine wpS_bind (pP hc k1 Dz hD (by omega) (by omega) (by rw[hdB];exact sB) λq hqn d1 d2=>?_)
  simp only[if_true] at d1 d2
  rw[hdB] at d2
  have d1':∀x∈Bl.take q,k x<k z:=λx hx=>d1 x (by
   rw[<-hdB,List.take_take,Nat.min_eq_left hqn] at hx
   exact hx)
  dsimp only
  by_cases q0:q=0
  ·rw[if_pos (by simpa using q0)]
   subst q0
   refine wpS_pure (hq st1 (Al++Bl) k1 f1 p1 (by rw[r1,hL];simp) (.refl _) (sA.app sB λx hx b hb=>Int.le_trans (zA x hx) (d2 b hb)))
  ·rw[if_neg (by simpa using q0)]
   have ex:(xs.extract (sa+r) (sa+na)).toList=Al.drop r:=by
    rw[ž,show sa+na-(sa+r)=na-r by omega,<-List.drop_drop,<-List.drop_take]
    rw[hdA]
   have ey:(xs.extract (sa+na) (sa+na+q)).toList=Bl.take q:=by
    rw[ž,show sa+na+q-(sa+na)=q by omega,<-hdB,List.take_take,Nat.min_eq_left hqn]
   generalize hX:xs.extract (sa+r) (sa+na)=X at ex
   generalize hY:xs.extract (sa+na) (sa+na+q)=Y at ey
   have zX:X.size=na-r:=by rw[<-Array.length_toList,ex,List.length_drop,lA]
   have zY:Y.size=q:=by rw[<-Array.length_toList,ey,List.length_take,lB];omega
   have DX:∀x∈X.toList,D x:=λx hx=>hD x (by rw[ex] at hx;rw[hL];simp[List.mem_of_mem_drop hx])
   have DY:∀x∈Y.toList,D x:=λx hx=>hD x (by rw[ey] at hx;rw[hL];simp[List.mem_of_mem_take hx])
   have sX:cW k X.toList:=by rw[ex];exact sA.sublist (List.drop_sublist _ _)
   have sY:cW k Y.toList:=by rw[ey];exact sB.sublist (List.take_sublist _ _)
   have hFh:∀b∈Y.toList.take 1,∀x∈X.toList,k b<=k x:=λb hb x hx=>by
    rw[ey,hB] at hb
    rw[ex] at hx
    have:b=y:=by
     have hq1:q=(q-1)+1:=by omega
     rw[hq1] at hb
     simpa using hb
    rw[this]
    exact Int.le_of_lt (c2 x hx)
   have hFl:∀(h0:0<Y.size),∀x∈X.toList,k Y[0]<=k x:=λh0 x hx=>hFh Y[0] (by
    rw[show Y.toList=Y[0]::Y.toList.drop 1 from by simpa using dG h0]
    exact .head _) x hx
   have hLl:∀b∈Y.toList,∀x∈X.toList.drop (X.size-1),k b<=k x:=λb hb x hx=>by
    rw[ex,zX,hA,List.drop_drop] at hx
    have la:A'.length+1=na:=by rw[hA] at lA;simpa using lA
    have:x=z:=by
     rw[show r+(na-r-1)=A'.length by omega,List.drop_left] at hx
     simpa using hx
    rw[this]
    rw[ey] at hb
    exact Int.le_of_lt (d1' b hb)
   have fin:∀(m:Array Keyed) (st2:SortSt),Sv st1 st2->Good k (X.toList++Y.toList) m.toList->wpS (model prog w) A E s (mWr (sa+r) m) Q st2:=by
    intro m st2 sv hg
    have mz:m.size=(na-r)+q:=by
     have:=hg.1.length_eq
     simp at this
     omega
    unfold mWr
    refine wpS_bind (wpS_modify (wpS_bind (wpS_get ?_)))
    have f2:failedOf st2=none:=sv.fail.trans f1
    show wpS _ _ _ _ (pure (failedOf st2).isNone) Q _
    rw[f2]
    have a2:arrOf st2=xs:=sv.arr.trans r1
    have hC:(wr (sa+r) m (arrOf st2)).toList=P++((Al.take r++m.toList++Bl.drop q)++T):=by
     rw[a2,Yc _ _ _ (by omega),hL]
     have t1:(P++(Al++(Bl++T))).take (sa+r)=P++Al.take r:=by
      rw[<-lP,List.take_length_add_append,List.take_append_of_le_length (by omega)]
     have t2:(P++(Al++(Bl++T))).drop (sa+r+m.size)=Bl.drop q++T:=by
      rw[show sa+r+m.size=P.length+(Al.length+q) by omega,<-List.drop_drop,List.drop_left,<-List.drop_drop,List.drop_left,List.drop_append_of_le_length (by omega)]
     rw[t1,t2]
     simp
    refine wpS_pure (hq _ (Al.take r++m.toList++Bl.drop q) (sv.kind.trans k1) f2 (sv.pend.trans p1) hC ?_ ?_)
    ·have g1:=hg.1
     rw[ex,ey] at g1
     refine((g1.append_left (Al.take r)).append_right (Bl.drop q)).trans ?_
     have e1:Al.take r++(Al.drop r++Bl.take q)++Bl.drop q=Al++Bl:=by
      rw[<-List.append_assoc,List.take_append_drop,List.append_assoc,List.take_append_drop]
     rw[e1]
    ·have mem:∀x∈m.toList,x∈Al.drop r∨x∈Bl.take q:=fun x hx=>by
      have:=hg.1.mem_iff.mp hx
      rw[ex,ey] at this
      exact List.mem_append.mp this
     refine cW.app (cW.app (sA.sublist (List.take_sublist _ _)) hg.2 λx hx b hb=>?_) (sB.sublist (List.drop_sublist _ _)) λx hx b hb=>?_
     ·rcases mem b hb with z1|z1
      ·have:=sA
       rw[<-List.take_append_drop r Al] at this
       exact(List.pairwise_append.mp this).2.2 x hx b z1
      ·exact Int.le_trans (c1' x hx) (yB b (List.mem_of_mem_take z1))
     ·rcases List.mem_append.mp hx with z1|z1
      ·exact Int.le_trans (zA x (List.mem_of_mem_take z1)) (d2 b hb)
      ·rcases mem x z1 with z2|z2
       ·exact Int.le_trans (zA x (List.mem_of_mem_drop z2)) (d2 b hb)
       ·have:=sB
        rw[<-List.take_append_drop q Bl] at this
        exact(List.pairwise_append.mp this).2.2 x z2 b hb
   split
   ·exact wpS_bind (SJ hc k1 DX DY sX sY (by omega) (by omega) (hFl (by omega)) hLl fin)
   ·exact wpS_bind (Td hc k1 DX DY sX sY (by omega) (by omega) hFh hLl fin)
end
end iM
namespace iM
open PySem PyProof.Rows
abbrev OU:=Option Unit×Unit
def yJ(lo n:Nat):SM (ForInStep (Option Unit×Nat)):=modify (λs=>setPending s ((pendingOf s).push (lo,n,0))) >>= λ_=>pure (.yield (none,lo+n))
def wB(size pw:Nat):SM OU:=forIn [:size] ((none,()):OU) λ_ _=>get >>= λs=>match(if(pendingOf s).size>1 then(pendingOf s)[(pendingOf s).size-2]? else none) with
 |some (_,_,o)=>if o<=pw then pure (.done (none,())) else mergeAt' ((pendingOf s).size-2) >>= λc=>if(!c)=true then pure (.done (some (),())) else pure (.yield (none,()))
 |_=>pure (.done (none,()))
def JQ(size lo n:Nat):SM (ForInStep (Option Unit×Nat)):=get >>= λs=>match(pendingOf s).back? with
 |some (s1,n1,_)=>wB size (power' size (2*s1+n1) (2*s1+n1+n1+n) size) >>= λq=>(match q.1 with
  |some r=>pure (.done (some r,lo))
  |none=>modify (λs=>setPending s ((pendingOf s).modify ((pendingOf s).size-1) λz=>match z with|(st,len,_)=>(st,len,power' size (2*s1+n1) (2*s1+n1+n1+n) size))) >>= λ_=>yJ lo n)
 |_=>yJ lo n
def Fo(size minrun:Nat)(q:Option Unit×Nat):SM (ForInStep (Option Unit×Nat)):=
 if q.2 >= size then pure (.done (none,q.2)) else countRun' q.2 (size-q.2) >>= λr=>match r with
  |some n=>if n<minrun then liftM (rule "list.sort.binary-insertion") >>= λ_=>Fd q.2 (min (size-q.2) minrun) n >>= λc=>(if(!c)=true then pure (.done (some (),q.2)) else JQ size q.2 (min (size-q.2) minrun)) else JQ size q.2 n
  |_=>pure (.done (some (),q.2))
def Fp(p:Array (Nat×Nat×Nat)):Nat:=if Option.any (λx=>decide (x<p[p.size-2+1]?.elim 0 λx=>x.2.1)) (if p.size-2>0 then Option.map (λx=>x.2.1) p[p.size-2-1]? else none)=true then p.size-2-1 else p.size-2
def Yd(size:Nat):SM OU:=forIn [:size] ((none,()):OU) λ_ _=>get >>= λs=>if(pendingOf s).size<=1 then pure (.done (none,())) else mergeAt' (Fp (pendingOf s)) >>= λc=>if(!c)=true then pure (.done (some (),())) else pure (.yield (none,()))
def Ye:SM Unit:=get >>= λs=>(forIn [:(arrOf s).size] ((none,0):Option Unit×Nat) λ_ q=>Fo (arrOf s).size (minRun' (arrOf s).size (arrOf s).size 0) q) >>= λq=>match q.1 with
 |some r=>pure r
 |none=>Yd (arrOf s).size >>= λq=>match q.1 with
  |some r=>pure r
  |none=>pure ()
def JR:sortRuns'=Ye:=by kernel_rfl
def ŋ(k:Keyed->Int):Nat->List (Nat×Nat×Nat)->List (List Keyed)->Prop
 |_,[],[]=>True
 |s,r::rs,g::gs=>r.1=s/\r.2.1=g.length/\0<g.length/\cW k g/\ŋ k (s+g.length) rs gs
 |_,_,_=>False
section
variable{k:Keyed->Int}
theorem ŋ.len:∀{s:Nat} {rs:List (Nat×Nat×Nat)} {gs:List (List Keyed)},ŋ k s rs gs->rs.length=gs.length/\gs.length<=gs.flatten.length
 |_,[],[],_=>⟨rfl,by simp⟩
 |s,r::rs,g::gs,h=>by
  obtain⟨h1,h2⟩:=ŋ.len h.2.2.2.2
  have:=h.2.2.1
  simp[-List.length_flatten]
  omega
 |_,[],_::_,h=>h.elim
 |_,_::_,[],h=>h.elim
theorem ŋ.push{g:List Keyed}(h0:0<g.length)(hg:cW k g){p:Nat}:∀{s:Nat} {rs:List (Nat×Nat×Nat)} {gs:List (List Keyed)},ŋ k s rs gs->ŋ k s (rs ++ [(s+gs.flatten.length,g.length,p)]) (gs ++ [g])
 |s,[],[],_=>⟨by simp,rfl,h0,hg,trivial⟩
 |s,r::rs,g'::gs,h=>by
  refine⟨h.1,h.2.1,h.2.2.1,h.2.2.2.1,?_⟩
  have:=ŋ.push h0 hg (p:=p) h.2.2.2.2
  rw[show s+(g'::gs).flatten.length=s+g'.length+gs.flatten.length by simp[-List.length_flatten];omega]
  exact this
 |_,[],_::_,h=>h.elim
 |_,_::_,[],h=>h.elim
theorem ŋ.mod{f:Nat×Nat×Nat->Nat×Nat×Nat}(hf:∀r,(f r).1=r.1/\(f r).2.1=r.2.1):∀{s:Nat} {rs:List (Nat×Nat×Nat)} {gs:List (List Keyed)} (j:Nat),ŋ k s rs gs->ŋ k s (rs.modify j f) gs
 |s,[],[],j,_=>by cases j<;>exact trivial
 |s,r::rs,g::gs,0,h=>⟨(hf r).1.trans h.1,(hf r).2.trans h.2.1,h.2.2.1,h.2.2.2.1,h.2.2.2.2⟩
 |s,r::rs,g::gs,j+1,h=>⟨h.1,h.2.1,h.2.2.1,h.2.2.2.1,ŋ.mod hf j h.2.2.2.2⟩
 |_,[],_::_,_,h=>h.elim
 |_,_::_,[],_,h=>h.elim
theorem ŋ.split:∀(i:Nat) {s:Nat} {rs:List (Nat×Nat×Nat)} {gs:List (List Keyed)},ŋ k s rs gs->i+1<rs.length->
 ∃R1 R2 G1 G2 Al Bl p p2,rs=R1++(s+G1.flatten.length,Al.length,p)::(s+G1.flatten.length+Al.length,Bl.length,p2)::R2/\R1.length=i/\gs=G1++Al::Bl::G2/\0<Al.length/\0<Bl.length/\cW k Al/\cW k Bl/\
  ∀C:List Keyed,C.length=Al.length+Bl.length->cW k C->ŋ k s (R1++(s+G1.flatten.length,Al.length+Bl.length,p)::R2) (G1++C::G2)
 |0,s,r::r2::rs,g::g2::gs,h,_=>by
  obtain⟨a,n,p⟩:=r
  obtain⟨b,m,p2⟩:=r2
  obtain⟨h1,h2,h3,h4,k1,k2,k3,k4,k5⟩:=h
  dsimp only at h1 h2 k1 k2
  subst h1 h2 k1 k2
  refine⟨[],rs,[],gs,g,g2,p,p2,by simp,rfl,rfl,h3,k3,h4,k4,λC hC sC=>⟨by simp,by simp[hC],by omega,sC,?_⟩⟩
  rw[hC,<-Nat.add_assoc]
  exact k5
 |i+1,s,r::rs,g::gs,h,hl=>by
  obtain⟨R1,R2,G1,G2,Al,Bl,p,p2,e1,e2,e3,e4,e5,e6,e7,e8⟩:=ŋ.split i h.2.2.2.2 (by simpa using hl)
  have ea:s+(g::G1).flatten.length=s+g.length+G1.flatten.length:=by simp[-List.length_flatten];omega
  refine⟨r::R1,R2,g::G1,G2,Al,Bl,p,p2,by rw[ea,e1];rfl,by simp[e2],by rw[e3];rfl,e4,e5,e6,e7,λC hC sC=>⟨h.1,h.2.1,h.2.2.1,h.2.2.2.1,?_⟩⟩
  rw[ea]
  exact e8 C hC sC
 |_,_,[],[],_,hl=>by simp at hl
 |0,_,[_],[_],_,hl=>by simp at hl
 |_,_,[],_::_,h,_=>h.elim
 |_,_,_::_,[],h,_=>h.elim
 |0,_,[_],_::_::_,h,_=>h.2.2.2.2.elim
 |0,_,_::_::_,[_],h,_=>h.2.2.2.2.elim
end
section
variable{prog:Program}{w:World}{A:Around}{E:Value->Shared->Prop}{s:Shared}{st:SortSt}{κ:SortKind}{k:Keyed->Int}{D:Keyed->Prop}{N rest:List Keyed}
structure SI(κ:SortKind)(k:Keyed->Int)(D:Keyed->Prop)(N:List Keyed)(st:SortSt)(rest:List Keyed)(n:Nat):Prop where
 kind:kindOf st=κ
 fail:failedOf st=none
 perm:(arrOf st).toList.Perm N
 dom:∀x∈N,D x
 runs:∃gs,ŋ k 0 (pendingOf st).toList gs/\(arrOf st).toList=gs.flatten++rest/\gs.flatten.length=n
def Ly{i n:Nat}{Q:Bool->SortSt->Prop}(hc:iQ prog w A s κ k D)(h:SI κ k D N st rest n)(hi:i+1<(pendingOf st).size)(hq:∀st',SI κ k D N st' rest n->(pendingOf st').size+1=(pendingOf st).size->Q true st'):wpS (model prog w) A E s (mergeAt' i) Q st:=by
 obtain⟨gs,r1,r2,r3⟩:=h.runs
 obtain⟨R1,R2,G1,G2,Al,Bl,p,p2,e1,e2,e3,e4,e5,e6,e7,e8⟩:=ŋ.split i r1 (by simpa using hi)
 rw[Nat.zero_add] at e1 e8
 have i1:(pendingOf st)[i]?=some (G1.flatten.length,Al.length,p):=by
  rw[<-Array.getElem?_toList,e1,<-e2,List.getElem?_append_right (Nat.le_refl _),Nat.sub_self];rfl
 have i2:(pendingOf st)[i+1]?=some (G1.flatten.length+Al.length,Bl.length,p2):=by
  rw[<-Array.getElem?_toList,e1,<-e2,List.getElem?_append_right (by omega),show R1.length+1-R1.length=1 by omega];rfl
 have hL:(arrOf st).toList=G1.flatten++(Al++(Bl++(G2.flatten++rest))):=by rw[r2,e3];simp
 refine Tf hc h.kind h.fail (λx hx=>h.dom x (h.perm.mem_iff.mp hx)) i1 i2 hL rfl rfl rfl e4 e5 e6 e7 λst' C c1 c2 c3 c4 c5 c6=>?_
 have cl:C.length=Al.length+Bl.length:=by rw[c5.length_eq,List.length_append]
 have ep:(pendingOf st').toList=R1++(G1.flatten.length,Al.length+Bl.length,p)::R2:=by
  rw[c3,Array.toList_eraseIdxIfInBounds,Array.toList_setIfInBounds,e1,List.set_append_right _ _ (by omega),e2,Nat.sub_self,List.set_cons_zero,List.eraseIdx_append_of_length_le (by omega),e2,show i+1-i=1 by omega]
  rfl
 refine hq st' ⟨c1,c2,?_,h.dom,G1++C::G2,by rw[ep];exact e8 C cl c6,by rw[c4];simp,?_⟩ ?_
 ·rw[c4]
  refine List.Perm.trans ?_ h.perm
  rw[hL]
  refine List.Perm.append_left _ ?_
  rw[<-List.append_assoc Al]
  exact c5.append_right _
 ·rw[<-r3,e3]
  simp[cl,-List.length_flatten]
  omega
 ·have z1:=congrArg List.length ep
  have z2:=congrArg List.length e1
  simp at z1 z2
  omega
def Fq{size pw n:Nat}{Q:OU->SortSt->Prop}(hc:iQ prog w A s κ k D)(h:SI κ k D N st rest n)(hq:∀st',SI κ k D N st' rest n->Q (none,()) st'):wpS (model prog w) A E s (wB size pw) Q st:=by
 unfold wB
 refine wpS_mono (wpS_forRange (I:=λ_ (c:OU) st'=>c=(none,())/\SI κ k D N st' rest n) (Q:=λ(c:OU) st'=>c=(none,())/\SI κ k D N st' rest n) ?step ?fin ⟨rfl,h⟩) ?post
 case fin=>rintro c st' z;exact z
 case post=>rintro c st' ⟨rfl,z⟩;exact hq st' z
 case step=>
  rintro x c st' _ _ ⟨rfl,h'⟩
  refine wpS_bind (wpS_get ?_)
  split
  ·rename_i a b o e
   split
   ·exact wpS_pure ⟨rfl,h'⟩
   ·have hs:(pendingOf st').size>1:=by
     by_cases z:(pendingOf st').size>1
     ·exact z
     ·rw[if_neg z] at e;cases e
    exact wpS_bind (Ly hc h' (by omega) λst2 h2 _=>wpS_pure ⟨rfl,h2⟩)
  ·exact wpS_pure ⟨rfl,h'⟩
def yK{lo n:Nat}{Q:ForInStep (Option Unit×Nat)->SortSt->Prop}(h:SI κ k D N st rest lo)(h0:0<n)(hn:n<=rest.length)(hs:cW k (rest.take n))(hq:∀st',SI κ k D N st' (rest.drop n) (lo+n)->Q (.yield (none,lo+n)) st'):wpS (model prog w) A E s (yJ lo n) Q st:=by
 unfold yJ
 refine wpS_bind (wpS_modify (wpS_pure (hq _ ?_)))
 obtain⟨gs,r1,r2,r3⟩:=h.runs
 have hl:(rest.take n).length=n:=by rw[List.length_take];omega
 refine⟨h.kind,h.fail,h.perm,h.dom,gs ++ [rest.take n],?_,?_,?_⟩
 ·have:=ŋ.push (k:=k) (g:=rest.take n) (p:=0) (by omega) hs r1
  rw[hl,r3,Nat.zero_add] at this
  show ŋ k 0 ((pendingOf st).push (lo,n,0)).toList _
  rw[Array.toList_push]
  exact this
 ·show(arrOf st).toList=_
  rw[r2]
  simp
 ·simp only[List.flatten_append,List.length_append,List.flatten_cons,List.flatten_nil,List.append_nil,hl]
  omega
def Ft{size lo n:Nat}{Q:ForInStep (Option Unit×Nat)->SortSt->Prop}(hc:iQ prog w A s κ k D)(h:SI κ k D N st rest lo)(h0:0<n)(hn:n<=rest.length)(hs:cW k (rest.take n))(hq:∀st',SI κ k D N st' (rest.drop n) (lo+n)->Q (.yield (none,lo+n)) st'):wpS (model prog w) A E s (JQ size lo n) Q st:=by
 unfold JQ
 refine wpS_bind (wpS_get ?_)
 split
 ·refine wpS_bind (Fq hc h λst1 h1=>?_)
  dsimp only
  refine wpS_bind (wpS_modify (yK (rest:=rest) ?_ h0 hn hs hq))
  obtain⟨gs,r1,r2,r3⟩:=h1.runs
  refine⟨h1.kind,h1.fail,h1.perm,h1.dom,gs,?_,r2,r3⟩
  show ŋ k 0 ((pendingOf st1).modify _ _).toList gs
  rw[Array.toList_modify]
  refine ŋ.mod ?_ _ r1
  intro r
  exact⟨rfl,rfl⟩
 ·exact yK h h0 hn hs hq
def Fv{xs:Array Keyed}{F rest:List Keyed}{lo m:Nat}(hL:xs.toList=F++rest)(hF:F.length=lo)(hm:m<=rest.length)(h:Up k xs lo m):cW k (rest.take m):=by
 refine List.pairwise_iff_getElem.mpr λi j hi hj hij=>?_
 have at_:∀i (hi:i<(rest.take m).length),kx k xs (lo+i)=k (rest.take m)[i]:=λi hi=>by
  unfold kx
  have:xs[lo+i]?=some (rest.take m)[i]:=by
   rw[<-Array.getElem?_toList,hL,<-hF,List.getElem?_append_right (by omega),show F.length+i-F.length=i by omega,List.getElem_take,List.getElem?_eq_getElem]
  rw[this]
 rw[<-at_ i hi,<-at_ j hj]
 exact h i j (by omega) (by simp at hj;omega)
def SI.fm{lo:Nat}{st':SortSt}(h:SI κ k D N st rest lo)(f:Fm κ D lo st st'):∃rest',SI κ k D N st' rest' lo/\rest'.length=rest.length/\∃F:List Keyed,F.length=lo/\(arrOf st').toList=F++rest':=by
 obtain⟨gs,r1,r2,r3⟩:=h.runs
 have tk:(arrOf st').toList.take lo=gs.flatten:=by
  have e:(arrOf st').toList.take lo=(arrOf st).toList.take lo:=by
   refine List.ext_getElem? λi=>?_
   by_cases hi:i<lo
   ·rw[List.getElem?_take_of_lt hi,List.getElem?_take_of_lt hi,Array.getElem?_toList,Array.getElem?_toList]
    exact f.low i hi
   ·rw[List.getElem?_take_eq_none (by omega),List.getElem?_take_eq_none (by omega)]
  rw[e,r2,<-r3,List.take_left]
 have eL:(arrOf st').toList=gs.flatten++(arrOf st').toList.drop lo:=by rw[<-tk,List.take_append_drop]
 refine⟨(arrOf st').toList.drop lo,⟨f.kind,f.fail.trans h.fail,f.perm.toList.trans h.perm,h.dom,gs,by rw[f.pend];exact r1,eL,r3⟩,?_,gs.flatten,r3,eL⟩
 have z1:=f.perm.toList.length_eq
 have z2:=congrArg List.length r2
 simp[-List.length_flatten] at z1 z2
 rw[List.length_drop]
 simp
 omega
def JT{size mr lo:Nat}(hc:iQ prog w A s κ k D)(h:SI κ k D N st rest lo)(hz:N.length=size) :
 wpS (model prog w) A E s (Fo size mr (none,lo)) (λr st'=>match r with
  | .done q=>q=(none,lo)/\lo >= size/\SI κ k D N st' rest lo
  | .yield q=>∃lo' rest',q=(none,lo')/\lo<lo'/\SI κ k D N st' rest' lo') st:=by
 unfold Fo
 dsimp only
 by_cases hl:lo >= size
 ·rw[if_pos hl]
  exact wpS_pure ⟨rfl,hl,h⟩
 ·rw[if_neg hl]
  have hsz:(arrOf st).size=size:=by rw[<-Array.length_toList,h.perm.length_eq,hz]
  have hrl:rest.length=size-lo:=by
   obtain⟨gs,r1,r2,r3⟩:=h.runs
   have:=congrArg List.length r2
   simp[-List.length_flatten] at this
   omega
  have fm0:Fm κ D lo st st:=⟨h.kind,rfl,rfl,.refl _,λ_ _=>rfl,λx hx=>h.dom x (h.perm.mem_iff.mp hx)⟩
  refine wpS_bind (JM hc (by omega) (by omega) fm0 λm st1 f1 m1 m2 u1=>?_)
  dsimp only
  by_cases hm:m<mr
  ·rw[if_pos hm]
   refine wpS_bind (iR ?_)
   refine wpS_bind (Fi hc (by omega) m1 (by omega) f1 u1 λst2 f2 u2=>?_)
   rw[if_neg (by simp)]
   obtain⟨Yg,h2,l2,F,hF,hL⟩:=h.fm f2
   exact Ft hc h2 (by omega) (by omega) (Fv hL hF (by omega) u2) λst3 h3=>⟨_,_,rfl,by omega,h3⟩
  ·rw[if_neg hm]
   obtain⟨Yg,h2,l2,F,hF,hL⟩:=h.fm f1
   exact Ft hc h2 (by omega) (by omega) (Fv hL hF (by omega) u1) λst3 h3=>⟨_,_,rfl,by omega,h3⟩
def Fw(p:Array (Nat×Nat×Nat))(h:¬p.size<=1):Fp p+1<p.size:=by
 unfold Fp
 generalize Option.any _ _=c
 cases c<;>simp<;>omega
def JV{Q:Unit->SortSt->Prop}(hc:iQ prog w A s κ k D)(hk:kindOf st=κ)(hf:failedOf st=none)(hp:pendingOf st= #[])(hD:∀x∈(arrOf st).toList,D x)
 (hq:∀st',(arrOf st').toList.Perm (arrOf st).toList->failedOf st'=none->cW k (arrOf st').toList->Q () st'):wpS (model prog w) A E s sortRuns' Q st:=by
 rw[JR]
 unfold Ye
 refine wpS_bind (wpS_get ?_)
 have h0:SI κ k D (arrOf st).toList st (arrOf st).toList 0:=⟨hk,hf,.refl _,hD,[],by rw[hp];exact trivial,by simp,rfl⟩
 refine wpS_bind (wpS_mono (wpS_forRange (I:=λx (c:Option Unit×Nat) st'=>∃lo rest,c=(none,lo)/\x<=lo/\SI κ k D (arrOf st).toList st' rest lo) (Q:=λ(c:Option Unit×Nat) st'=>∃lo rest,c=(none,lo)/\(arrOf st).size<=lo/\SI κ k D (arrOf st).toList st' rest lo) ?step ?fin ⟨0,_,rfl,Nat.le_refl _,h0⟩) ?post)
 case fin=>
  rintro c st' ⟨lo,rest,rfl,z1,z2⟩
  exact⟨lo,rest,rfl,by omega,z2⟩
 case step=>
  rintro x c st' _ _ ⟨lo,rest,rfl,z1,z2⟩
  refine wpS_mono (JT hc z2 (by simp)) λr st2 z=>?_
  cases r with
  |done q=>obtain⟨rfl,y1,y2⟩:=z;exact⟨lo,rest,rfl,y1,y2⟩
  |yield q=>obtain⟨lo',rest',rfl,y1,y2⟩:=z;exact⟨lo',rest',rfl,by omega,y2⟩
 case post=>
  rintro c st1 ⟨lo,rest,rfl,z1,z2⟩
  dsimp only
  have hrest:rest=[]:=by
   obtain⟨gs,r1,r2,r3⟩:=z2.runs
   have y1:=congrArg List.length r2
   have y2:=z2.perm.length_eq
   simp[-List.length_flatten] at y1 y2
   exact List.length_eq_zero_iff.mp (by omega)
  subst hrest
  have hlo:lo=(arrOf st).size:=by
   obtain⟨gs,r1,r2,r3⟩:=z2.runs
   have y1:=congrArg List.length r2
   have y2:=z2.perm.length_eq
   simp[-List.length_flatten] at y1 y2
   omega
  unfold Yd
  refine wpS_bind (wpS_mono (wpS_forRange (I:=λx (c:OU) st'=>c=(none,())/\SI κ k D (arrOf st).toList st' [] lo/\(pendingOf st').size+x<=(arrOf st).size+1) (Q:=λ(c:OU) st'=>c=(none,())/\SI κ k D (arrOf st).toList st' [] lo/\(pendingOf st').size<=1) ?uF ?fin2 ⟨rfl,z2,?init⟩) ?post2)
  case init=>
   obtain⟨gs,r1,r2,r3⟩:=z2.runs
   have:=ŋ.len r1
   simp[-List.length_flatten] at this
   omega
  case fin2=>
   rintro c st' ⟨rfl,y1,y2⟩
   exact⟨rfl,y1,by omega⟩
  case uF=>
   rintro x c st' _ _ ⟨rfl,y1,y2⟩
   refine wpS_bind (wpS_get ?_)
   by_cases hs:(pendingOf st').size<=1
   ·rw[if_pos hs]
    exact wpS_pure ⟨rfl,y1,hs⟩
   ·rw[if_neg hs]
    exact wpS_bind (Ly hc y1 (Fw _ hs) λst2 h2 e2=>wpS_pure ⟨rfl,h2,by omega⟩)
  case post2=>
   rintro c st2 ⟨rfl,y1,y2⟩
   dsimp only
   refine wpS_pure (hq st2 y1.perm y1.fail ?_)
   obtain⟨gs,r1,r2,r3⟩:=y1.runs
   rw[r2,List.append_nil]
   have:=(ŋ.len r1).1
   match gs,r1 with
   | [],_=>exact .nil
   | [g],r1=>
     match hh:(pendingOf st2).toList,r1 with
     | [r],r1=>simpa using r1.2.2.2.1
     | [],r1=>exact r1.elim
     |_::_::_,r1=>exact r1.2.2.2.2.elim
   |_::_::_,_=>simp at this;omega
end
end iM
namespace iM
open PySem PyProof.Rows
theorem cY:∀vs:List Value,vs.zip vs=vs.map λv=>(v,v)
 | []=>rfl
 |v::vs=>by rw[List.zip_cons_cons,List.map_cons,cY vs]
def yL(vs:List Value):(vs.toArray.zip vs.toArray).toList=vs.map λv=>(v,v):=by
 rw[<-cY]
 simp
section
variable{prog:Program}{w:World}{A:Around}{E:Value->Shared->Prop}{s:Shared}
def Lz{a:Addr}{vs:List Value}{n:Nat}{κ:SortKind}{kv:Value->Int}{P:PySem.Fin->Shared->Prop}(ho:s.heap.get? a=some (seqObj "list" vs.toArray n))(hz:vs.length<=sizeLine)
 (hkd:2<=vs.length->∀(h':Heap),(∀b o,b≠a->s.heap.get? b=some o->h'.get? b=some o)->∀(Q:SortKind->Shared->Prop),Q κ {s with heap:=h'}->wpAny (model prog w) A (keyKind' vs.toArray) Q E {s with heap:=h'})
 (hcm:∀(h':Heap),(∀b o,b≠a->s.heap.get? b=some o->h'.get? b=some o)->iQ prog w A {s with heap:=h'} κ (λx=>kv x.1) (λx=>x.1∈vs))
 (h:∀out:List Value,out.Perm vs->out.Pairwise (λx y=>kv x<=kv y)->P (.done (.ret .none)) {s with heap:=sortedHeap s.heap a vs out.toArray}) :
 wpAny (model prog w) A (Builtin.«list.sort» ⟨[.ref a],[]⟩) P E s:=by
 rw[list_sort_plain]
 have ha:a<s.heap.objs.size:=Heap.lt_size ho
 refine wpAny_bind (listItems_at ho rfl ?_)
 refine wpAny_bind (listUpdate_at ho rfl ?_ (by simpa using hz))
 obtain⟨e1,ho1⟩:∃e1,(s.heap.update a (Obj.mapSeq λ_=> #[])).get? a=some (seqObj "list" #[] e1):=⟨_,get?_update_seq ho (λ_=> #[])⟩
 refine wpAny_bind (seqEpoch_at ho1 rfl ?_)
 refine wpAny_bind (wpAny_newTuple ?_ (by simpa using hz))
 refine wpAny_bind (wpAny_newList ?_)
 refine wpAny_holding ?_
 have kp:∀b o,b≠a->s.heap.get? b=some o->(((s.heap.update a (Obj.mapSeq λ_=> #[])).push (seqObj "tuple" vs.toArray 0)).push (seqObj "list" #[] 0)).get? b=some o:=λb o hb e=>
  Heap.get?_push_of_some _ (Heap.get?_push_of_some _ ((Heap.get?_update_other _ _ (Ne.symm hb)).trans e))
 have ho6:(((s.heap.update a (Obj.mapSeq λ_=> #[])).push (seqObj "tuple" vs.toArray 0)).push (seqObj "list" #[] 0)).get? a=some (seqObj "list" #[] e1):=Heap.get?_push_of_some _ (Heap.get?_push_of_some _ ho1)
 show wpAny (model prog w) A _ P E {s with heap:=((s.heap.update a (Obj.mapSeq λ_=> #[])).push (seqObj "tuple" vs.toArray 0)).push (seqObj "list" #[] 0)}
 dsimp only
 by_cases h2:vs.toArray.size<2
 ·rw[if_pos h2,if_pos h2]
  refine wpAny_bind (wpAny_pure ?_)
  rw[StateT.run_pure]
  refine wpAny_bind (wpAny_pure ?_)
  dsimp only
  refine wpAny_bind (seqEpoch_at ho6 rfl ?_)
  have eo:(arrOf (SortSt.mk' general' (vs.toArray.zip vs.toArray) #[] 7 none)).map (·.2)=vs.toArray:=by
   show(vs.toArray.zip vs.toArray).map (·.2)=vs.toArray
   apply Array.toList_inj.mp
   rw[Array.toList_map,yL,List.map_map]
   exact List.map_id _
  refine wpAny_bind (listUpdate_at ho6 rfl ?_ (hsz2:=by rw[eo];simp;omega))
  simp only[bne_self_eq_false,Bool.false_eq_true,if_false]
  rw[eo]
  refine wpAny_pure (h vs (.refl _) ?_)
  match vs,h2 with
  | [],_=>exact .nil
  | [_],_=>exact List.pairwise_singleton _ _
  |_::_::_,h2=>simp at h2;omega
 ·rw[if_neg h2,if_neg h2]
  have h2':2<=vs.length:=by simpa using h2
  refine wpAny_bind (hkd h2' _ kp _ ?_)
  have mp:((vs.toArray.zip vs.toArray).toList.map (·.1))=vs/\((vs.toArray.zip vs.toArray).toList.map (·.2))=vs/\∀x∈(vs.toArray.zip vs.toArray).toList,x.1=x.2:=by
   rw[yL]
   refine⟨by rw[List.map_map];exact List.map_id _,by rw[List.map_map];exact List.map_id _,λx hx=>?_⟩
   obtain⟨v,_,rfl⟩:=List.mem_map.mp hx
   rfl
  refine wpAny_bind (wpAny_mono (JV (E:=E) (st:=SortSt.mk' κ (vs.toArray.zip vs.toArray) #[] 7 none) (Q:=λ_ st'=>(arrOf st').toList.Perm (vs.toArray.zip vs.toArray).toList/\failedOf st'=none/\cW (λx=>kv x.1) (arrOf st').toList)
   (hcm _ kp) rfl rfl rfl (fun x hx=>by
     have:=List.mem_map_of_mem (f:=λz:Keyed=>z.1) hx
     rw[mp.1] at this
     exact this) λst' a1 a2 a3=>⟨a1,a2,a3⟩) ?_ λ_ _ e=>e)
  rintro ⟨⟨⟩,st'⟩ s' ⟨rfl,hp,hf,hs⟩
  dsimp only
  refine wpAny_bind (seqEpoch_at ho6 rfl ?_)
  have pm:((arrOf st').map (·.2)).toList.Perm vs:=by
   rw[Array.toList_map]
   have:=hp.map (λz:Keyed=>z.2)
   rw[mp.2.1] at this
   exact this
  refine wpAny_bind (listUpdate_at ho6 rfl ?_ (hsz2:=by rw[<-Array.length_toList,pm.length_eq];omega))
  rw[hf]
  simp only[bne_self_eq_false,Bool.false_eq_true,if_false]
  have eq2:((arrOf st').map (·.2))=((arrOf st').map (·.2)).toList.toArray:=(Array.toArray_toList ..).symm
  rw[eq2]
  refine wpAny_pure (h _ pm ?_)
  rw[Array.toList_map,List.pairwise_map]
  refine hs.imp_of_mem fun{x y} hx hy hxy=>?_
  have z1:=mp.2.2 x (hp.mem_iff.mp hx)
  have z2:=mp.2.2 y (hp.mem_iff.mp hy)
  show kv x.2<=kv y.2
  rw[<-z1,<-z2]
  exact hxy
end
end iM
namespace iM
open PySem PyProof.Rows PySem.W
section
variable{prog:Program}{w:World}{A:Around}{E:Value->Shared->Prop}{s:Shared}
theorem mQ:∀{vs:List Value} {ns:List Int},IntsAre vs ns->∀v∈vs,∃n t,v=.int n t
 |_,_,.nil,v,h=>by cases h
 |_,_,.cons n t r,v,h=>by
  rcases List.mem_cons.mp h with rfl|h
  ·exact⟨n,t,rfl⟩
  ·exact mQ r v h
theorem pR:∀{vs:List Value} {ns:List Int},IntsAre vs ns->vs.map P.keyV=ns
 |_,_,.nil=>rfl
 |_,_,.cons n t r=>by rw[List.map_cons,pR r];rfl
def wC{a:Addr}{vs:List Value}{ns:List Int}{n:Nat}{R:PySem.Fin->Shared->Prop}(ho:s.heap.get? a=some (seqObj "list" vs.toArray n))(hz:vs.length<=sizeLine)(hI:IntsAre vs ns)
 (h:∀(out:Array Value) (ns':List Int),IntsAre out.toList ns'->ns'.Perm ns->ns'.Pairwise (·<= ·)->R (.done (.ret .none)) {s with heap:=sortedHeap s.heap a vs out}):wpAny (model prog w) A (Builtin.«list.sort» ⟨[.ref a],[]⟩) R E s:=by
 refine Lz (κ:= oneType') (kv:=P.keyV) ho hz (λh2 h' _ Q hq=>?_) (λh' _ x y hx hy Q E' hq=>?_) (λout hp hs=>?_)
 ·match vs,h2,hI with
  |v1::v2::rest,_,hI=>
   rw[keyKind_ints hI]
   exact wpAny_pure hq
  | [_],h2,_=>simp at h2
  | [],h2,_=>simp at h2
 ·obtain⟨n1,t1,e1⟩:=mQ hI _ hx
  obtain⟨n2,t2,e2⟩:=mQ hI _ hy
  have hq':Q (decide (n1<n2)) {s with heap:=h'}:=by
   have e:decide (P.keyV x.1<P.keyV y.1)=decide (n1<n2):=by rw[e1,e2];rfl
   rw[<-e]
   exact hq
  rw[e1,e2,keyLt'_oneType]
  exact oneLt_int hq'
 ·obtain⟨ms,m1,m2⟩:=P.qR hp hI
  refine h out.toArray ms (by simpa using m1) m2 ?_
  rw[<-pR m1,List.pairwise_map]
  exact hs
def mR(h:Heap)(M:Int)(v:Value)(p:Int×Int):Prop:=∃b o c t u,v=.ref b/\h.get? b=some o/\o.cls=.type "tuple" /\o.data=.seq #[.int p.1 t,.int p.2 u] c/\0<=p.2/\p.2<M
inductive ķ(h:Heap)(M:Int):List Value->List (Int×Int)->Prop
 |nil:ķ h M [] []
 |cons {v:Value} {p:Int×Int} {vs:List Value} {ps:List (Int×Int)} (x:mR h M v p) (r:ķ h M vs ps):ķ h M (v::vs) (p::ps)
theorem ķ.mem{h:Heap}{M:Int}:∀{vs:List Value} {ps:List (Int×Int)},ķ h M vs ps->∀v∈vs,∃p,mR h M v p
 |_,_,.nil,v,hv=>by cases hv
 |_,_,.cons x r,v,hv=>by
  rcases List.mem_cons.mp hv with rfl|hv
  ·exact⟨_,x⟩
  ·exact r.mem v hv
def ķ.perm{h:Heap}{M:Int}:∀{ws vs:List Value} {ps:List (Int×Int)},ws.Perm vs->ķ h M vs ps->∃qs,ķ h M ws qs/\qs.Perm ps:=by
 intro ws vs ps h
 induction h generalizing ps with
 |nil=>intro hi;exact⟨ps,hi,.refl _⟩
 |cons x _ ih=>
  intro hi
  cases hi with
  |cons z r=>obtain⟨ms,m1,m2⟩:=ih r;exact⟨_::ms,.cons z m1,m2.cons _⟩
 |swap x y _=>
  intro hi
  cases hi with
  |cons z r=>
   cases r with
   |cons z2 r=>exact⟨_::_::_,.cons z2 (.cons z r),.swap _ _ _⟩
 |trans _ _ ih1 ih2=>
  intro hi
  obtain⟨ms,m1,m2⟩:=ih2 hi
  obtain⟨ks,k1,k2⟩:=ih1 m1
  exact⟨ks,k1,k2.trans m2⟩
def Vj(h:Heap)(M:Int):Value->Int
 | .ref b=>match h.get? b with
   |some o=>match o.data with
    | .seq xs _=>match xs.toList with
      | [.int p _,.int q _]=>p*M+q
      |_=>0
    |_=>0
   |none=>0
 |_=>0
def wD{h:Heap}{M:Int}{v:Value}{p:Int×Int}(x:mR h M v p):Vj h M v=p.1*M+p.2:=by
 obtain⟨b,o,c,t,u,rfl,ho,hc,hd,_⟩:=x
 unfold Vj
 dsimp only
 rw[ho]
 dsimp only
 rw[hd]
theorem ķ.keys{h:Heap}{M:Int}:∀{vs:List Value} {ps:List (Int×Int)},ķ h M vs ps->vs.map (Vj h M)=ps.map λp=>p.1*M+p.2
 |_,_,.nil=>rfl
 |_,_,.cons x r=>by rw[List.map_cons,List.map_cons,r.keys,wD x]
theorem ķ.tups{h h':Heap}{M:Int}:∀{vs:List Value} {ps:List (Int×Int)},ķ h M vs ps->(∀b o,h.get? b=some o->o.cls=.type "tuple" ->h'.get? b=some o)->∃fs,KatTups h' vs fs/\fs.length=vs.length/\∀v∈fs,∃n t,v=.int n t
 |_,_,.nil,_=>⟨[],KatTups.nil,rfl,λv hv=>by cases hv⟩
 |_,_,.cons x r,k=>by
  obtain⟨fs,f1,f2,f3⟩:=r.tups k
  obtain⟨b,o,c,t,u,rfl,ho,hc,hd,_⟩:=x
  refine⟨_::fs,KatTups.cons (k b o ho hc) hc hd rfl f1,by simp[f2],λv hv=>?_⟩
  rcases List.mem_cons.mp hv with rfl|hv
  ·exact⟨_,_,rfl⟩
  ·exact f3 v hv
def JW{M p q p' q':Int}(h1:0<=q)(h2:q<M)(h3:0<=q')(h4:q'<M):decide (p*M+q<p'*M+q')=if p=p' then decide (q<q') else decide (p<p'):=by
 have hM:0<M:=by omega
 by_cases e:p=p'
 ·subst e
  rw[if_pos rfl]
  simp
 ·rw[if_neg e]
  by_cases l:p<p'
  ·have:=Int.mul_le_mul_of_nonneg_right (show p+1<=p' by omega) (Int.le_of_lt hM)
   rw[Int.add_mul,Int.one_mul] at this
   simp[l]
   omega
  ·have:=Int.mul_le_mul_of_nonneg_right (show p'+1<=p by omega) (Int.le_of_lt hM)
   rw[Int.add_mul,Int.one_mul] at this
   simp[l]
   omega
def JX{h:Heap}{M:Int}{x y:Value}{p q:Int×Int}{Q:Bool->Shared->Prop}(hx:mR h M x p)(hy:mR h M y q)(k:∀b o,h.get? b=some o->o.cls=.type "tuple" ->s.heap.get? b=some o)(hq:Q (decide (p.1*M+p.2<q.1*M+q.2)) s):wpAny (model prog w) A (keyLt' (tuples' true) x y) Q E s:=by
 obtain⟨b,o,c,t,u,rfl,ho,hc,hd,l1,l2⟩:=hx
 obtain⟨b',o',c',t',u',rfl,ho',hc',hd',l3,l4⟩:=hy
 rw[JW l1 l2 l3 l4] at hq
 refine kat_lt (k b o ho hc) hd (k b' o' ho' hc') hd' ?_
 show KatLex prog w A true _ Q [(.int p.1 t,.int q.1 t'),(.int p.2 u,.int q.2 u')] 0 s
 refine kat_cons (wpAny_eqBool_int (kat_go (λe=>?_) λe=>?_))
 ·have e1:p.1=q.1:=by simpa using e
  rw[if_pos e1] at hq
  refine kat_yes (kat_cons (wpAny_eqBool_int (kat_go (λe2=>?_) λe2=>?_)))
  ·have e3:p.2=q.2:=by simpa using e2
   rw[e3] at hq
   refine kat_yes (kat_nil ?_)
   simpa using hq
  ·refine kat_no (kat_one _ _ (wpAny_lt_int ?_))
   exact hq
 ·have e1:¬p.1=q.1:=by simpa using e
  rw[if_neg e1] at hq
  refine kat_no ?_
  exact oneLt_int hq
def uI{a:Addr}{vs:List Value}{ps:List (Int×Int)}{n:Nat}{M:Int}{R:PySem.Fin->Shared->Prop}(ho:s.heap.get? a=some (seqObj "list" vs.toArray n))(hz:vs.length<=sizeLine)(hI:ķ s.heap M vs ps)
 (h:∀(out:List Value) (qs:List (Int×Int)),out.Perm vs->ķ s.heap M out qs->qs.Perm ps->(qs.map λp=>p.1*M+p.2).Pairwise (·<= ·)->R (.done (.ret .none)) {s with heap:=sortedHeap s.heap a vs out.toArray}):wpAny (model prog w) A (Builtin.«list.sort» ⟨[.ref a],[]⟩) R E s:=by
 have na:∀b o,s.heap.get? b=some o->o.cls=.type "tuple" ->b≠a:=λb o e hc z=>by
  subst z
  rw[ho] at e
  cases e
  simp at hc
 refine Lz (κ:= tuples' true) (kv:=Vj s.heap M) ho hz (λh2 h' kp Q hq=>?_) (λh' kp x y hx hy Q E' hq=>?_) (λout hp hs=>?_)
 ·obtain⟨fs,f1,f2,f3⟩:=hI.tups (h':=h') λb o e hc=>kp b o (na b o e hc) e
  refine kat_kind (s:={s with heap:=h'}) (T:=.type "int") f1 (by omega) (λv hv=>?_) (by decide) hq
  obtain⟨m,t,rfl⟩:=f3 v hv
  exact Looks.of_pure rfl
 ·obtain⟨p,hp⟩:=hI.mem _ hx
  obtain⟨q,hq'⟩:=hI.mem _ hy
  refine JX (s:={s with heap:=h'}) hp hq' (λb o e hc=>kp b o (na b o e hc) e) ?_
  have e:decide (Vj s.heap M x.1<Vj s.heap M y.1)=decide (p.1*M+p.2<q.1*M+q.2):=by rw[wD hp,wD hq']
  rw[<-e]
  exact hq
 ·obtain⟨qs,q1,q2⟩:=hI.perm hp
  refine h out qs hp q1 q2 ?_
  rw[<-q1.keys,List.pairwise_map]
  exact hs
end
end iM
namespace P
open PySem PySem.Spec PyProof.Rows L2 M2 M3 M4
section
variable{X:Cx}{cm:String->Addr}{E:L2.St->XK}{e:Expr}{pos:Pos}
def uJ(hc:X.calm=true):ŕ X (.builtin "sorted") (λxs H Q=>∃a ks,∃ns:List Int,xs=[V.ref a]/\Rd H a (.dK ks)/\ks.map (·.1)=ns.map .inl/\∀p (ms:List Int),ms.Perm ns->ms.Pairwise (·<= ·)->H p=none->Q (.ref p) (upd H p (.lst (ms.map .int)))):=by
 intro pins s σ H xs us Q I r h
 obtain⟨a,ks,ns,rfl,ha,hks,q⟩:=h
 obtain⟨u,rfl,ru⟩:=vals1 r
 cases ru
 obtain⟨hz,lo,vs,Ti,hD⟩:=mj I.hok ha
 obtain⟨ep,hat⟩:=hD.dictAt
 have hh:X.A.handled=none:=I.ok.hd hc
 have hvl:vs.length=ns.length:=by
  have h1:=Paired.length Ti
  have h2:=congrArg List.length hks
  simp at h2
  omega
 have Tj:vs.length<=sizeLine:=by rw[<-Paired.length Ti];exact hz
 refine Calls.call_function_entry kind_sorted plain_sorted entry_sorted (args_sorted1 _) ?_
 unfold Builtin.«sorted»
 refine wpAny_bind (m:=checkCount "sorted" 1 1 _) (wpAny_pure ?_)
 refine wpAny_bind (PySem.W.kdu_collect (A:=X.A.in1) (PySem.W.kdl_dict (knd:=ı X.prog X.w) (kvs:=vs) (ep:=ep) lo) hh hat Tj λh' tk acc hk hacc=>?_)
 have hl:acc.toList.length=vs.length:=by rw[Array.length_toList];exact hacc.1
 have hI:IntsAre acc.toList ns:=gF (P:=X.prog) (w:=X.w) Ti hks hl λj v hv=>hacc.2 j v (by rw[<-Array.getElem?_toList];exact hv)
 refine wpAny_bind (wpAny_newList ?_ (by rw[hl];exact Tj))
 have hoL:(h'.push (seqObj "list" acc.toList.toArray 0)).get? h'.objs.size=some (seqObj "list" acc.toList.toArray 0):=Heap.get?_push_size _ rfl
 refine wpAny_bind (wpAny_holding (wpAny_call_entry slot_list_sort ⟨_,hoL,rfl⟩ entry_list_sort (iM.wC hoL (by rw[hl];exact Tj) hI λout ns' a1 a2 a3=>⟨_,rfl,?_⟩) (args_list_sort _)))
 refine wpAny_pure ⟨_,rfl,?_⟩
 have I':=I.kept (t':=tk) hk
 have kp:∀b o,h'.get? b=some o->(sortedHeap (h'.push (seqObj "list" acc.toList.toArray 0)) h'.objs.size acc.toList out).get? b=some o:=λb o e=>by
  have hlt:=Heap.lt_size e
  rw[sortedHeap_old (Nat.ne_of_lt hlt) (by rw[size_push'];exact Nat.lt_succ_of_lt hlt)]
  exact Heap.get?_push_of_some _ e
 obtain⟨ec,he⟩:=sortedHeap_at (out:=out) hoL
 refine⟨.ref h'.objs.size,_,I'.laid (o:=.lst (ns'.map .int)) (t':=tk) kp (Nat.le_refl _) ⟨?_,out.toList,ec,L2.ig a1,?_⟩,rfl,q _ ns' a2 a3 (I'.hok.fresh (Nat.le_refl _))⟩
 ·have:=a2.length_eq
  simp
  omega
 ·rw[he]
def kE(i:Nat):M RV:=λρ=>match gD ρ i with
 |some kvs=>.ok (.ow ((gG (bF kvs)).map .int)) ρ
 |none=>.bad
def Fx(i:Nat){x:Str}{px p:Pos}(hc:X.calm=true)(hg:Gl X "sorted")(hm:X.mg "sorted" =none)(hN:X.N[i]?=some x:=by rfl)(hv:sE X.env.scope x:=by first|exact Or.inl rfl|exact Or.inr (Or.inl rfl)|exact Or.inr (Or.inr rfl))(hd:(x== ("__debug__" :Str))=false:=by decide)
 (hcd:(x== ("__classdict__" :Str))=false:=by decide)(hs:starEach [.Name x px] X.env=(false,eval (.Name x px) X.env)::starEach [] X.env:=by exact š rfl):PE X (.Call (.Name "sorted" p) [.Name x px] [] pos) (tO (kk X cm) E (kE i)):=
 PE.wk (sS (uJ hc) hg hm PyProof.Rows.boot_sorted (Ŧ (Ů hN hv hd hcd) eY hs) (he:=hs)) fun σ H Q ⟨c,F,ρ,rel,h⟩=>by
   unfold kE at h
   cases e1:gD ρ i with
   |none=>rw[e1] at h;exact h.elim
   |some kvs=>
    rw[e1] at h
    obtain⟨a,ks,z1,z2,z3⟩:=mG rel e1
    obtain⟨k1,k2⟩:=yx z3
    refine⟨.ref a,z1,a,ks,bF kvs,rfl,z2,k1,λp ms m1 m2 hp=>?_⟩
    have em:ms=gG (bF kvs):=dF m2 (ū _) (m1.trans (ŵ _).symm)
    subst em
    obtain⟨q1,q2⟩:=Ź rel hp (pO (K:=kk X cm) (F:=F) (gG (bF kvs)))
    exact h _ _ _ q1 (Same.refl _) (Same.upd hp) q2
@[simp] theorem Vk{i:Nat}{ρ:Ĳ}:kE i ρ=(match gD ρ i with
  |some kvs=>.ok (.ow ((gG (bF kvs)).map .int)) ρ
  |none=>.bad):=rfl
def oE(H:Hp):List (Addr×(Int×Int))->Hp
 | []=>H
 |x::r=>oE (upd H x.1 (.tup [.int x.2.1,.int x.2.2])) r
theorem cZ{b:Addr}:∀(ls:List (Addr×(Int×Int))) (H:Hp),b∉ls.map (·.1)->oE H ls b=H b
 | [],_,_=>rfl
 |x::r,H,hb=>by
  rw[oE,cZ r _ λz=>hb (.tail _ z),ċ λz=>hb (by rw[z];exact .head _)]
theorem yM:∀(ls:List (Addr×(Int×Int))) (H:Hp),(ls.map (·.1)).Nodup->∀x∈ls,oE H ls x.1=some (.tup [.int x.2.1,.int x.2.2])
 | [],_,_,x,hx=>by cases hx
 |y::r,H,hn,x,hx=>by
  obtain⟨n1,n2⟩:=List.nodup_cons.mp hn
  rcases List.mem_cons.mp hx with rfl|hx
  ·rw[oE,cZ r _ n1,č]
  ·exact yM r _ n2 x hx
def Inv.laidN{pins:List (Addr×Obj)}{σ:List (Option V)}{H H':Hp}{s:Shared}{h':Heap}{t':Nat}(I:Inv X pins σ H s)(k:∀b u,s.heap.get? b=some u->h'.get? b=some u)(old:∀b,b<s.heap.objs.size->H' b=H b)(new:∀b u,s.heap.objs.size<=b->H' b=some u->ľ X.prog X.w H' h' b u) :
 Inv X pins σ H' {s with heap:=h',toks:=t'}:=by
 have up:∀b u,H b=some u->H' b=some u:=λb u e=>(old b (I.hok b u e).lt).trans e
 refine I.un ⟨λb ob q _ _ _=>k b ob q,λb ob q _ _ _=>⟨ob.slots,k b ob q⟩,λb ob q n _=>(old b (Heap.lt_size q)).trans n,λb ob q _=>⟨ob,k b ob q⟩,λb xs q=>up _ _ q,λb o u q=>up _ _ q,λb q z=>up _ _ z⟩ λb u e=>?_
 by_cases hb:b<s.heap.objs.size
 ·have e':=e
  rw[old b hb] at e'
  exact(I.hok b u e').stay (λc v _ q=>k c v q) (λc q=>up _ _ q) (λc xs q=>up _ _ q) λc q z=>up _ _ z
 ·exact new b u (Nat.le_of_not_lt hb) e
abbrev MP:Int:=4294967296
def cG(p:Int×Int):Int:=p.1*MP+p.2
def tSI(i:Nat):TE:=λσ H Q=>nY i σ H λx H1=>∃a ks,∃ps:List (Int×Int),x=.ref a/\Rd H1 a (.dK ks)/\ks=ps.map (λp=>(Sum.inl p.1,V.int p.2))/\(∀p∈ps,0<=p.2/\p.2<MP)/\
 ∀(ls:List (Addr×(Int×Int))) (q:Addr),(ls.map (·.2)).Perm ps->((ls.map (·.2)).map cG).Pairwise (·<= ·)->(ls.map (·.1)).Nodup->(∀a∈ls.map (·.1),H1 a=none)->q∉ls.map (·.1)->H1 q=none->Q (.ref q) (upd (oE H1 ls) q (.lst (ls.map λx=>.ref x.1)))
theorem pairs_at{prog:Program}{w:World}{h:Heap}{lo:Addr}:∀{ps:List (Int×Int)} {vs:List (Key×Value)} {as:List Addr},KV (ps.map λp=>((Sum.inl p.1:Key),V.int p.2)) vs->(∀p∈ps,0<=p.2/\p.2<MP)->as.length=vs.length->(∀(j:Nat) (a:Addr),as[j]?=some a->∃key k x,vs[j]?=some (k,x)/\(ı prog w).is k key=true/\h.get? a=some {cls:=.type "tuple",data:=.seq #[key,x]})->iM.ķ h MP (as.map Value.ref) ps
 | [],_,as,hk,_,hl,_=>by
   cases hk
   have:as=[]:=List.length_eq_zero_iff.mp (by simpa using hl)
   subst this
   exact .nil
 |p::ps,_,as,hk,hb,hl,hp=>by
  cases hk with
  |cons r t=>
   cases as with
   |nil=>simp at hl
   |cons a as=>
    obtain⟨key,k,x,h1,h2,h3⟩:=hp 0 a rfl
    have e1:=Option.some.inj h1
    rw[e1] at r
    obtain⟨r1,r2⟩:=r
    have ek:k=.inl p.1:=r1.symm
    subst ek
    have hk2:Value.isInt p.1 key=true:=h2
    obtain⟨tk,rfl⟩:∃t,key=.int p.1 t:=by
     cases key<;>simp[Value.isInt] at hk2
     exact⟨_,by rw[hk2]⟩
    obtain⟨tx,rfl⟩:=r2
    refine .cons ⟨a,_,0,tk,tx,rfl,h3,rfl,rfl,(hb p (.head _)).1,(hb p (.head _)).2⟩ (pairs_at (prog:=prog) (w:=w) (lo:=lo) t (λq hq=>hb q (.tail _ hq)) (by simpa using hl) λj a' hj=>?_)
    obtain⟨key',k',x',z1,z2⟩:=hp (j+1) a' (by simpa using hj)
    exact⟨key',k',x',by simpa using z1,z2⟩
theorem jt{h:Heap}:∀{vs:List Value} {ps:List (Int×Int)},iM.ķ h MP vs ps->∃ls:List (Addr×(Int×Int)),vs=ls.map (λx=>.ref x.1)/\ls.map (·.2)=ps/\∀x∈ls,∃o c t u,h.get? x.1=some o/\o.cls=.type "tuple" /\o.data=.seq #[.int x.2.1 t,.int x.2.2 u] c
 |_,_,.nil=>⟨[],rfl,rfl,λx hx=>by cases hx⟩
 |_,_,.cons (p:=p) x r=>by
  obtain⟨ls,h1,h2,h3⟩:=jt r
  obtain⟨b,o,c,t,u,rfl,ho,hc,hd,_⟩:=x
  refine⟨(b,p)::ls,by rw[h1];rfl,by rw[List.map_cons,h2],λy hy=>?_⟩
  rcases List.mem_cons.mp hy with rfl|hy
  ·exact⟨o,c,t,u,ho,hc,hd⟩
  ·exact h3 y hy
def Am(i:Nat){x:Str}{px p1 ap cp:Pos}(hc:X.calm=true)(hg:Gl X "sorted")(hm:X.mg "sorted" =none)(hN:X.N[i]?=some x)(hv:sE X.env.scope x)(hd:(x== ("__debug__" :Str))=false)(hcd:(x== ("__classdict__" :Str))=false)
 (hbase:attributeBase (.Name x px) "items" X.env (eval (.Name x px) X.env)=eval (.Name x px) X.env)(hline:(ap.endLine== cp.line)=true) :
 PE X (.Call (.Name "sorted" p1) [.Call (.Attribute (.Name x px) "items" ap) [] [] cp] [] pos) (tSI i):=by
 intro pins s σ H Q I h
 refine Call_ (eX I hg hm PyProof.Rows.boot_sorted (PyProof.Rows.callWith_builtin1 ?_ rfl rfl))
 refine Calls.spliced_cons ?_
 refine wpAny_Call_method0_late hbase hline (ļ (Ů (X:=X) hN hv hd hcd pins s σ H _ I h) λv s1 ⟨xv,H1,I1,r1,q1⟩=>?_)
 obtain⟨a,ks,ps,e,ha,hks,hb,q⟩:=q1
 subst e
 cases r1
 obtain⟨hz,lo,vs,Ti,hD⟩:=mj I1.hok ha
 obtain⟨ep,hat⟩:=hD.dictAt
 have hh:X.A.handled=none:=I1.ok.hd hc
 obtain⟨od,es,hod,hexd,_⟩:=id hat
 refine⟨"dict","dict.items",PySem.F.plainAttrs_dict,PySem.F.slot_dict_items,PySem.F.type_dict_items,hD.typeIs,λb e2=>by cases e2;exact⟨od,hod,hexd.2.1⟩,Calls.callWith_builtin rfl (PySem.evalArgs_none ?_)⟩
 refine call_meetsIn PySem.F.slot_dict_items hD.typeIs PySem.F.entry_dict_items (PySem.F.args_dict_items_1 _) (meets_dict_items (ı X.prog X.w) a lo) ⟨⟨vs,hD⟩,?_⟩
 show wpAny _ _ _ _ _ _
 refine Calls.spliced_nil ?_
 have hvl:=Paired.length Ti
 have Tj:vs.length<=sizeLine:=by omega
 have hsz1:(s1.heap.push {cls:=.type "dict_items",data:=.fields #[.ref a]}).objs.size=s1.heap.objs.size+1:=size_push' ..
 refine Calls.call_function_entry kind_sorted plain_sorted entry_sorted (args_sorted1 _) ?_
 unfold Builtin.«sorted»
 refine wpAny_bind (m:=checkCount "sorted" 1 1 _) (wpAny_pure ?_)
 refine wpAny_bind (PySem.W.kdx_collect (A:=X.A.in1) (s:={s1 with heap:=s1.heap.push {cls:=.type "dict_items",data:=.fields #[.ref a]}}) (knd:=ı X.prog X.w) (kvs:=vs) (ep:=ep) hh ⟨_,Heap.get?_push_size _ rfl,rfl,rfl⟩ (hat.push _) Tj λh2 tk as k2 hal hG=>?_)
 subst hks
 have hP:iM.ķ h2 MP (as.map Value.ref) ps:=pairs_at (prog:=X.prog) (w:=X.w) (lo:=0) Ti hb hal hG.pairs
 refine wpAny_bind (wpAny_newList ?_ (by rw[List.length_map,hal];exact Tj))
 have hoL:(h2.push (seqObj "list" (as.map Value.ref).toArray 0)).get? h2.objs.size=some (seqObj "list" (as.map Value.ref).toArray 0):=Heap.get?_push_size _ rfl
 have hP2:iM.ķ (h2.push (seqObj "list" (as.map Value.ref).toArray 0)) MP (as.map Value.ref) ps:=pairs_at (prog:=X.prog) (w:=X.w) (lo:=0) Ti hb hal λj b hj=>let ⟨key,k,x,z1,z2,z3⟩:=hG.pairs j b hj;⟨key,k,x,z1,z2,Heap.get?_push_of_some _ z3⟩
 refine wpAny_bind (wpAny_holding (wpAny_call_entry slot_list_sort ⟨_,hoL,rfl⟩ entry_list_sort (iM.uI (M:=MP) (s:={s1 with heap:=h2.push (seqObj "list" (as.map Value.ref).toArray 0),toks:=tk}) hoL (by rw[List.length_map,hal];exact Tj) hP2 λout qs op o1 o2 o3=>⟨_,rfl,?_⟩) (args_list_sort _)))
 refine wpAny_pure ⟨_,rfl,?_⟩
 obtain⟨ls,l1,l2,l3⟩:=jt o1
 subst l2
 have Zcu:ls.length=ps.length:=by have:=o2.length_eq;simpa using this
 have kp0:∀b u,s1.heap.get? b=some u->h2.get? b=some u:=λb u e=>k2 b u (Heap.get?_push_of_some _ e)
 have hlt2:∀b u,s1.heap.get? b=some u->b<h2.objs.size:=λb u e=>Heap.lt_size (kp0 b u e)
 have kp:∀b u,h2.get? b=some u->(sortedHeap (h2.push (seqObj "list" (as.map Value.ref).toArray 0)) h2.objs.size (as.map Value.ref) out.toArray).get? b=some u:=λb u e=>by
  have hlt:=Heap.lt_size e
  rw[sortedHeap_old (Nat.ne_of_lt hlt) (by rw[size_push'];exact Nat.lt_succ_of_lt hlt)]
  exact Heap.get?_push_of_some _ e
 obtain⟨ec,he⟩:=sortedHeap_at (out:=out.toArray) hoL
 have inj:∀{as bs:List Addr},(as.map Value.ref).Perm (bs.map Value.ref)->as.Perm bs:=fun{as bs} hp=>by
  have:=hp.map λv:Value=>match v with| .ref a=>a|_=>0
  rw[List.map_map,List.map_map] at this
  simpa[Function.comp_def] using this
 have opa:(ls.map (·.1)).Perm as:=inj (by
  rw[l1] at op
  rw[List.map_map]
  exact op)
 have hnd:(ls.map (·.1)).Nodup:=opa.nodup_iff.mpr (hG.rise.imp Nat.ne_of_lt)
 have hab:∀b∈ls.map (·.1),s1.heap.objs.size<=b/\b<h2.objs.size:=λb hb=>by
  have hb':=opa.mem_iff.mp hb
  have:=hG.above b hb'
  refine⟨?_,hG.there hb'⟩
  have h0:s1.heap.objs.size+1<b:=by rw[<-hsz1];exact this
  exact Nat.le_of_lt (Nat.lt_of_succ_lt h0)
 have hq0:h2.objs.size∉ls.map (·.1):=λz=>Nat.lt_irrefl _ (hab _ z).2
 have LC:s1.heap.objs.size<=h2.objs.size:=Nat.le_trans (Nat.le_of_lt (Nat.lt_succ_self _)) (by
  have:h2.get? s1.heap.objs.size=some _:=k2 _ _ (Heap.get?_push_size _ rfl)
  exact Heap.lt_size this)
 have mV:∀b,s1.heap.objs.size<=b->H1 b=none:=λb hb=>I1.hok.fresh hb
 have I3:Inv X pins σ (upd (oE H1 ls) h2.objs.size (.lst (ls.map λx=>.ref x.1))) {s1 with heap:=sortedHeap (h2.push (seqObj "list" (as.map Value.ref).toArray 0)) h2.objs.size (as.map Value.ref) out.toArray,toks:=tk}:=by
  refine Inv.laidN I1 (λb u e=>kp b u (kp0 b u e)) (λb hb=>?_) (λb u hb e=>?_)
  ·rw[ċ (Nat.ne_of_lt (Nat.lt_of_lt_of_le hb LC)),cZ _ _ λz=>Nat.not_lt_of_le (hab b z).1 hb]
  ·by_cases e0:b=h2.objs.size
   ·subst e0
    rw[č] at e
    cases e
    refine⟨by rw[List.length_map,Zcu];have:=congrArg List.length (rfl:ps=ps);simp at hvl;omega,out,ec,?_,?_⟩
    ·rw[l1]
     have vr:∀l:List (Addr×(Int×Int)),Vals (l.map λx=>V.ref x.1) (l.map λx=>Value.ref x.1):=λl=>by
      induction l with
      |nil=>exact .nil
      |cons y l ih=>exact .cons rfl ih
     exact vr ls
    ·rw[he]
   ·rw[ċ e0] at e
    by_cases hm':b∈ls.map (·.1)
    ·obtain⟨y,hy,rfl⟩:=List.mem_map.mp hm'
     rw[yM ls H1 hnd y hy] at e
     cases e
     obtain⟨o,c,t,u2,z1,z2,z3⟩:=l3 y hy
     have z1':h2.get? y.1=some o:=by
      have hne:y.1≠h2.objs.size:=Nat.ne_of_lt (hab _ hm').2
      rw[Heap.get?_push_ne _ _ _ hne] at z1
      exact z1
     exact⟨by show 2<=sizeLine;rw[ğ];omega,[.int y.2.1 t,.int y.2.2 u2],.cons ⟨t,rfl⟩ (.cons ⟨u2,rfl⟩ .nil),o,kp _ _ z1',z2,c,z3⟩
    ·rw[cZ ls H1 hm',mV b hb] at e
     cases e
 refine⟨.ref h2.objs.size,_,I3,rfl,q ls h2.objs.size o2 ?_ hnd (λb hb=>mV b (hab b hb).1) hq0 (mV _ LC)⟩
 exact o3
def bY:List (DK×PV)->Option (List (Int×Int))
 | []=>some []
 |(.inl k,.int v)::r=>if 0<=v/\v<MP then(bY r).map ((k,v):: ·) else none
 |_=>none
def LK(k:Int):Int×Int:=(k / MP,k % MP)
def yN{p:Int×Int}(h1:0<=p.2)(h2:p.2<MP):LK (cG p)=p:=by
 unfold LK cG
 obtain⟨a,b⟩:=p
 dsimp only at h1 h2 ⊢
 rw[Int.add_comm,Int.add_mul_ediv_right _ _ (by decide),Int.add_mul_emod_self_right,Int.ediv_eq_zero_of_lt h1 h2,Int.emod_eq_of_lt h1 h2,Int.zero_add]
def tupP(p:Int×Int):PV:=.tup [.int p.1,.int p.2]
def ų(ps:List (Int×Int)):List (Int×Int):=(gG (ps.map cG)).map LK
def JZ{ls ps:List (Int×Int)}(hp:ls.Perm ps)(hs:(ls.map cG).Pairwise (·<= ·))(hb:∀p∈ps,0<=p.2/\p.2<MP):ls=ų ps:=by
 have e:ls.map cG=gG (ps.map cG):=dF hs (ū _) ((hp.map cG).trans (ŵ _).symm)
 unfold ų
 rw[<-e,List.map_map]
 conv=>lhs;rw[<-List.map_id ls]
 refine List.map_congr_left λp hq=>?_
 have:=hb p (hp.mem_iff.mp hq)
 exact(yN this.1 this.2).symm
theorem pU{K:KK}{F:Hp}:∀{kvs:List (DK×PV)} {ks:List (Key×V)} {ps:List (Int×Int)},bY kvs=some ps->Paired (DG K F (Sum.inl:Int->DK) (Sum.inl:Int->Key)) kvs ks->ks=ps.map (λp=>(Sum.inl p.1,V.int p.2))/\∀p∈ps,0<=p.2/\p.2<MP
 |_,_,ps,h,.nil=>by
  cases h
  exact⟨rfl,λp hp=>by cases hp⟩
 |(a,b)::kvs,(c,d)::ks,ps,h,.cons ⟨⟨j,r1,r2⟩,r3⟩ t=>by
  dsimp only at r1 r2 r3
  cases a with
  |inr l=>cases r1
  |inl k=>
   cases b with
   |int v=>
    unfold bY at h
    split at h
    ·rename_i hv
     obtain⟨qs,h1,rfl⟩:=Option.map_eq_some_iff.mp h
     obtain⟨e1,e2⟩:=pU h1 t
     have ek:k=j:=aN r1
     unfold Rep at r3
     refine⟨by rw[e1,r2,r3,ek];rfl,λp hp=>?_⟩
     rcases List.mem_cons.mp hp with rfl|hp
     ·exact hv
     ·exact e2 p hp
    ·cases h
   |_=>cases h
theorem uK{K:KK}{c:Ctx}{σ:L2.St}{ρ:Ĳ}:∀(ls:List (Addr×(Int×Int))) {F H:Hp},Rel K c F H σ ρ->(ls.map (·.1)).Nodup->(∀a∈ls.map (·.1),H a=none)->∃F',Rel K c F' (oE H ls) σ ρ/\Same F F'/\Same H (oE H ls)/\Ĉ K F' (ls.map λx=>tupP x.2) (ls.map λx=>V.ref x.1)
 | [],F,H,rel,_,_=>⟨F,rel,Same.refl _,Same.refl _,Ĉ.nil⟩
 |x::r,F,H,rel,hn,hz=>by
  obtain⟨n1,n2⟩:=List.nodup_cons.mp hn
  have h0:=hz x.1 (.head _)
  obtain⟨F',r1,r2,r3,r4⟩:=uK r (rel.alloc (o:=.tup [.int x.2.1,.int x.2.2]) h0) n2 λa ha=>by
   rw[ċ (λz:a=x.1=>n1 (by show x.1∈_;rw[<-z];exact ha))]
   exact hz a (.tail _ ha)
  refine⟨F',r1,(Same.upd (rel.sub.free h0)).trans r2,(Same.upd h0).trans r3,Ĉ.cons ?_ r4⟩
  unfold tupP Rep
  refine⟨x.1,[.int x.2.1,.int x.2.2],rfl,r2 _ _ č,Ĉ.cons (by unfold Rep;rfl) (Ĉ.cons (by unfold Rep;rfl) Ĉ.nil)⟩
def kI(i:Nat):M RV:=λρ=>match gD ρ i with
 |some kvs=>match bY kvs with
  |some ps=>.ok (.ow ((ų ps).map tupP)) ρ
  |none=>.bad
 |none=>.bad
@[simp] theorem Vl{i:Nat}{ρ:Ĳ}:kI i ρ=(match gD ρ i with
  |some kvs=>match bY kvs with
   |some ps=>.ok (.ow ((ų ps).map tupP)) ρ
   |none=>.bad
  |none=>.bad):=rfl
def Fy(i:Nat){x:Str}{px p1 ap cp:Pos}(hc:X.calm=true)(hg:Gl X "sorted")(hm:X.mg "sorted" =none)(hN:X.N[i]?=some x:=by rfl)(hv:sE X.env.scope x:=by first|exact Or.inl rfl|exact Or.inr (Or.inl rfl)|exact Or.inr (Or.inr rfl))(hd:(x== ("__debug__" :Str))=false:=by decide)(hcd:(x== ("__classdict__" :Str))=false:=by decide)
 (hbase:attributeBase (.Name x px) "items" X.env (eval (.Name x px) X.env)=eval (.Name x px) X.env:=by rfl)(hline:(ap.endLine== cp.line)=true:=by rfl) :
 PE X (.Call (.Name "sorted" p1) [.Call (.Attribute (.Name x px) "items" ap) [] [] cp] [] pos) (tO (kk X cm) E (kI i)):=PE.wk (Am i hc hg hm hN hv hd hcd hbase hline) λσ H Q ⟨c,F,ρ,rel,h⟩=>by
 unfold kI at h
 cases e1:gD ρ i with
 |none=>rw[e1] at h;exact h.elim
 |some kvs=>
  rw[e1] at h
  dsimp only at h
  cases e2:bY kvs with
  |none=>rw[e2] at h;exact h.elim
  |some ps=>
   rw[e2] at h
   obtain⟨a,ks,z1,z2,z3⟩:=mG rel e1
   obtain⟨k1,k2⟩:=pU e2 z3
   refine⟨.ref a,z1,a,ks,ps,rfl,z2,k1,k2,λls q p1 p2 p3 p4 p5 p6=>?_⟩
   obtain⟨F',r1,r2,r3,r4⟩:=uK (K:=kk X cm) ls rel p3 p4
   have em:=JZ p1 p2 k2
   have er:ls.map (λx=>tupP x.2)=(ų ps).map tupP:=by rw[<-em,List.map_map];rfl
   rw[er] at r4
   have hq:oE H ls q=none:=(cZ ls H p5).trans p6
   obtain⟨q1,q2⟩:=Ź r1 hq r4
   exact h _ _ _ q1 r2 (r3.trans (Same.upd hq)) q2
end
end P
namespace PySem
section
variable{prog:Program}{w:World}{K:Type}[DecidableEq K]{knd:HeapKind prog w K}{A:Around}{E:Value->Shared->Prop}{s:Shared}
def Ao{d a:Addr}{xs:List (K×Addr×Value)}{k:K}{v:Value}{Q:Value->Shared->Prop}(hu:knd.room A)(hkey:knd.is s.heap k a)(hm:s.heap.DictOfH knd d xs)
 (h1:∀p,atKey xs k=some p->Q p.2 {s with toks:=s.toks+knd.draws k})
 (h2:atKey xs k=none->∀h',h'.DictOfH knd d (storedH xs k a v)->Heap.SameBut d s.heap h'->Q v {s with heap:=h',toks:=s.toks+knd.draws k})
 (hsz:xs.length<=sizeLine) :
 wpAny (model prog w) A (dictSetDefault d (.ref a) v) Q E s:=by
 obtain⟨o,es,ep,ho,hc,hd,he,his,hn⟩:=hm
 unfold dictSetDefault
 try with_reducible refine wpAny_holding ?_
 refine wpAny_bind (knd.pyHash hu hkey (wpAny_bind (wpAny_dictFind_heap (s:={s with toks:=s.toks+knd.draws k}) hu hkey ho hd he his hn ?_ ?_)))
 ·intro hno
  have hnot:k∉xs.map (·.1):=not_mem_keys_of_get hno
  have hat:=atKey_none_of_get hno
  refine wpAny_bind (wpAny_rule (wpAny_bind (wpAny_updateDictKeys (hz:=by have e:=size_of_entries he;omega) (s:={s with toks:=s.toks+knd.draws k}) ho hd (wpAny_pure (h2 hat _ ⟨_,_,ep+1,Heap.get?_update_self _ ho (Obj.isFreed_of_dict (Obj.data_mapDictKeys hd _)),
   hc.mapDictKeys _,Obj.data_mapDictKeys hd _,?_,?_,?_⟩ (Heap.SameBut.update ..))))))
  ·rw[storedH_new hat]
   simp[he,entryOfKey]
  ·rw[storedH_new hat]
   intro x hx
   rcases List.mem_append.mp hx with hx|hx
   ·exact knd.keeps (his x hx) ho hd (Heap.SameBut.update ..)
   ·simp only[List.mem_singleton] at hx
    subst hx
    exact knd.keeps hkey ho hd (Heap.SameBut.update ..)
  ·rw[storedH_new hat]
   rw[List.map_append,List.nodup_append]
   refine⟨hn,by simp,?_⟩
   intro x hx y hy
   simp only[List.map_cons,List.map_nil,List.mem_singleton] at hy
   subst hy
   exact λe=>hnot (e▸hx)
 ·intro j p hj
  have h:=h1 _ (atKey_of_get hn hj)
  refine wpAny_bind (wpAny_dictEntries (s:={s with toks:=s.toks+knd.draws k}) ho hd ?_)
  rw[entry_at he j,hj]
  exact wpAny_bind (wpAny_rule (wpAny_pure h))
def Aq(d a:Addr)(hd:(d== sysModules)=false)(dflt:Value) :
 MeetsIn prog w (Builtin.«dict.setdefault» ⟨[.ref d,.ref a,dflt],[]⟩) (λA R s=>knd.room A.in1/\∃k xs,knd.is s.heap k a/\s.heap.DictOfH knd d xs/\xs.length<=sizeLine/\
  (∀p,atKey xs k=some p->R (.ok (.ret p.2)) {s with toks:=s.toks+knd.draws k})/\
  (atKey xs k=none->∀h',h'.DictOfH knd d (storedH xs k a dflt)->Heap.SameBut d s.heap h'->R (.ok (.ret dflt)) {s with heap:=h',toks:=s.toks+knd.draws k})):=
 .of_wp fun A R s ⟨hu,k,xs,hkey,hm,hz,h1,h2⟩=>by
   unfold Builtin.«dict.setdefault»
   refine wpAny_bind ?_
   unfold Builtin.Dict.keyAndDefault
   refine wpAny_bind (wpAny_notOrdered_dict hm.typeIs ?_)
   show wpAny _ _ (pure (d,Value.ref a,some dflt)) _ _ s
   refine wpAny_pure ?_
   show wpAny _ _ (if(d== sysModules)=true then _ else(dictSetDefault d (.ref a) dflt >>= _)) _ _ s
   rw[if_neg (by rw[hd];exact Bool.false_ne_true)]
   exact wpAny_bind (Ao hu hkey hm (λp hp=>wpAny_pure ⟨p.2,rfl,h1 p hp⟩) (λhn h' hm' hs'=>wpAny_pure ⟨dflt,rfl,h2 hn h' hm' hs'⟩) hz)
end
end PySem
namespace P
open PySem PySem.Spec PyProof.Rows L2 M2 M3 M4
section
variable{X:Cx}{pins:List (Addr×Obj)}{σ:L2.St}{H:Hp}{s:Shared}{a b:Addr}{d:V}{r:Value}{A:Around}{E:Value->Shared->Prop}{kvs:List (List Key×V)}{k:List Key}
def Fz{Q:Value->Shared->Prop}(hu:A.units+1<cLine)(I:Inv X pins σ H s)(e:H a=some (.dT kvs))(eb:H b=some (.tup (k.map kV)))(rd:RelV d r)
 (h1:∀v,aB kvs k=some v->∀w' s',Inv X pins σ H s'->RelV v w'->Q w' s')
 (h2:aB kvs k=none->kvs.length<sizeLine/\∀s',Inv X pins σ (upd H a (.dT (putK kvs k d))) s'->Q r s') :
 wpAny (model X.prog X.w) A (call (.builtin "dict.setdefault") [.ref a,.ref b,r]) Q E s:=by
 obtain⟨z,hd,xs,rel,dd⟩:=Lk I.hok e
 have hz:xs.length<=sizeLine:=by rw[<-Paired.length rel];exact z
 refine call_meetsIn PySem.F.slot_dict_setdefault dd.typeIs PySem.F.entry_dict_setdefault (PySem.F.args_dict_setdefault_3 _ _ _) (Aq (knd:=tupleKind (ı X.prog X.w)) a b hd r) ⟨tupleKind_room_in1 hu,k,xs,mq I.hok eb,dd,hz,λp hp=>?_,λhn h' Vd hs=>?_⟩
 ·have q:=rel.val k
  rw[hp] at q
  cases e1:aB kvs k with
  |none=>rw[e1] at q;exact(show False from q).elim
  |some v=>rw[e1] at q;exact h1 v e1 _ _ (I.tok _) q
 ·have q:=rel.val k
  rw[hn] at q
  cases e1:aB kvs k with
  |some v=>rw[e1] at q;exact(show False from q).elim
  |none=>
   obtain⟨hl,h2⟩:=h2 e1
   have hl':(putK kvs k d).length<=sizeLine:=by have:=cV kvs k d;omega
   obtain⟨q,es,ep,hq,g2,g3,g4,_,g5⟩:=Vd
   refine h2 _ (qQ I (by rw[e];exact True.intro) hs ⟨q,hq⟩ ⟨hl',hd,_,(rel.put k eb rd).keeps λc ys ec=>?_,q,es,ep,hq,g2,g3,g4,g5⟩)
   rw[ċ (Ks ec e (λz=>nomatch z))]
   exact ec
end
def Zcv(td ty tx:TE):TE:=λσ H Q=>td σ H λx H1=>∃a,x=.ref a/\IsD H1 a/\ty σ H1 λy H2=>tx σ H2 λz H3=>∃kvs k b,H3 a=some (.dT kvs)/\y=.ref b/\H3 b=some (.tup (k.map kV))/\
 (∀v,aB kvs k=some v->Q v H3)/\(aB kvs k=none->kvs.length<sizeLine/\Q z (upd H3 a (.dT (putK kvs k z))))
section
variable{X:Cx}{o e f:Expr}{apos cpos:Pos}{td ty tx:TE}
def Tn(hu:X.A.units+1<cLine)(ho:PE X o td)(he:PE X e ty)(hf:PE X f tx)(m:L2.M2 X o "setdefault" apos e f cpos):PE X (.Call (.Attribute o "setdefault" apos) [e,f] [] cpos) (Zcv td ty tx):=by
 intro pins s σ H Q I h
 refine wpAny_Call_method m.base m.few m.line PySem.F.plainAttrs_dict PySem.F.slot_dict_setdefault PySem.F.type_dict_setdefault (ļ (ho pins s σ H _ I h) λu s1 ⟨x,H1,I1,rx,a,ex,d,q1⟩=>?_)
 subst ex
 obtain rfl:u=Value.ref a:=rx
 obtain⟨t1,t2,_⟩:=R_ I1 d
 refine⟨t1,t2,?_⟩
 rw[m.trees]
 refine Calls.callWith_builtin rfl (Calls.evalArgs_plain (Calls.spliced_cons (ļ (he pins s1 σ H1 _ I1 q1) λiv s2 ⟨y,H2,I2,ry,q2⟩=>
  Calls.spliced_cons (ļ (hf pins s2 σ H2 _ I2 q2) λfv s3 ⟨z,H3,I3,rz,kvs,k,b,ea,ey,eb,q3,q4⟩=>Calls.spliced_nil ?_))))
 subst ey
 cases(show iv=Value.ref b from ry)
 exact Fz hu I3 ea eb rz (λv l w' s' I4 BR=>⟨v,H3,I4,BR,q3 v l⟩) λl=>⟨(q4 l).1,λs4 I4=>⟨z,_,I4,rz,(q4 l).2⟩⟩
end
theorem pW{K:KK}{F:Hp}:∀{ps:List PV} {is:List Int} {xs:List V},pN ps=some is->Ĉ K F ps xs->xs=(is.map (Sum.inl:Int->Key)).map kV
 | [],is,xs,h,r=>by
   cases h
   unfold Ĉ at r
   rw[r];rfl
 |p::ps,is,xs,h,r=>by
  unfold Ĉ at r
  obtain⟨x,r',rfl,r1,r2⟩:=r
  cases p with
  |int i=>
   unfold pN at h
   obtain⟨js,e1,e2⟩:=Option.map_eq_some_iff.mp h
   subst e2
   have ex:x=.int i:=by unfold Rep at r1;exact r1
   rw[List.map_cons,List.map_cons,<-pW e1 r2,ex]
   rfl
  |_=>exact nomatch h
def Zcw{p:PV}{k:DK}(h:Ai true p=some k):∃ps is,p=.tup ps/\pN ps=some is/\k=.inr is:=by
 cases p with
 |tup ps=>
  have h:(pN ps).map Sum.inr=some k:=h
  obtain⟨is,e1,e2⟩:=Option.map_eq_some_iff.mp h
  exact⟨ps,is,rfl,e1,e2.symm⟩
 |int i=>exact nomatch h
 |_=>exact nomatch h
def FJ{K:KK}{F:Hp}{p:PV}{k:DK}{y:V}(h:Ai true p=some k)(r:Rep K F p y):∃is b,k=.inr is/\y=.ref b/\F b=some (.tup ((is.map (Sum.inl:Int->Key)).map kV)):=by
 obtain⟨ps,is,rfl,e1,e2⟩:=Zcw h
 unfold Rep at r
 obtain⟨b,xs,r1,r2,r3⟩:=r
 exact⟨is,b,e2,r1,by rw[r2,pW e1 r3]⟩
abbrev Hs:List Int->List Key:=λis=>is.map Sum.inl
def qU{β γ:Type}{x y:γ}(h:(Sum.inr x:Sum β γ)=.inr y):x=y:=by injection h
theorem kJ:∀{x y:List Int},Hs x=Hs y->x=y
 | [],[],_=>rfl
 | [],_::_,h=>nomatch h
 |_::_,[],h=>nomatch h
 |a::x,b::y,h=>by
  have h':(Sum.inl a:Key)::Hs x=Sum.inl b::Hs y:=h
  injection h' with h1 h2
  rw[aN h1,kJ h2]
def FN{K:KK}{F:Hp}{kvs:List (DK×PV)}{u:HO}(h:qC K F true kvs u):∃ks:List (List Key×V),u=.dT ks/\Paired (DG K F (Sum.inr:List Int->DK) Hs) kvs ks:=by
 rcases h with⟨h0,_⟩|⟨_,ks,h1,h2⟩
 ·cases h0
 ·exact⟨ks,h1,h2⟩
def uL{K:KK}{F:Hp}{kvs:List (DK×PV)}{ks:List (List Key×V)}(h:Paired (DG K F (Sum.inr:List Int->DK) Hs) kvs ks):qC K F true kvs (.dT ks):=.inr ⟨rfl,ks,rfl,h⟩
section
variable{X:Cx}{cm:String->Addr}{E:L2.St->XK}{e f:Expr}{pos:Pos}{mk mv:M PV}
def wF(i:Nat):M Fl:=λρ=>.ok .nx (ρ.set i (.od true []))
def J_{i:Nat}{x:Str}{pos' p0:Pos}(hN:X.N.Nodup)(hi:X.N[i]?=some x)(hx:Loc X.env.scope x)(hs:swapsWith (.Dict [] [] p0) (some (.Name x pos')) pos.line X.env=pure false:=by rfl)(hf:X.fn x=true\/X.env.scope.names.lookup x=some .local:=by first|exact .inl rfl|exact .inr rfl|assumption) :
 PS X (.Assign [.Name x pos'] (.Dict [] [] p0) pos) (tS (kk X cm) E (wF i)):=PS.wk (qj hN hi hx Eh hs hf) λD σ H ⟨c,F,ρ,rel,h⟩ p hp=>by
 have ć:=rel.made (o:=.dT []) hp
 exact h _ F _ (ć.zR (s:=.od true []) ⟨p,.dT [],rfl,č,rel.sub.free hp,rel.base.free hp,uL .nil⟩ λ_ z=>V.ref.inj z▸rel.fresh hp) (Same.refl _)
def Ka(j i:Nat)(mk mv:M PV):M Fl:=λρ=>match ρ[i]? with
 |some (.od true _)=>(mk ρ).bind λk ρ1=>(mv ρ1).bind λp ρ2=>match ρ2[i]?,Ai true k with
  |some (.od true kvs),some dk=>match dval kvs dk with
   |some q=>.ok .nx (ρ2.set j (.sh q))
   |none=>if kvs.length<16777216 then .ok .nx ((ρ2.set i (.od true (dput kvs dk p))).set j (.sh p)) else .bad
  |_,_=>.bad
 |_=>.bad
def Yh{j i:Nat}{x y:Str}{px pos' ap cp:Pos}(hu:X.A.units+64<cLine)(hN:X.N.Nodup)(hj:X.N[j]?=some y)(hy:Loc X.env.scope y)(he:PE X e (tV (kk X cm) E mk))(hf:PE X f (tV (kk X cm) E mv))(ho:PE X (.Name x px) (nY i))
 (m:L2.M2 X (.Name x px) "setdefault" ap e f cp:=by exact⟨rfl,rfl,rfl,rfl⟩)
 (hs:swapsWith (.Call (.Attribute (.Name x px) "setdefault" ap) [e,f] [] cp) (some (.Name y pos')) pos.line X.env=pure false:=by rfl)(hfn:X.fn y=true\/X.env.scope.names.lookup y=some .local:=by first|exact .inl rfl|exact .inr rfl|assumption) :
 PS X (.Assign [.Name y pos'] (.Call (.Attribute (.Name x px) "setdefault" ap) [e,f] [] cp) pos) (tS (kk X cm) E (Ka j i mk mv)):=PS.wk (qj hN hj hy (Tn (by omega) ho he hf m) hs hfn) λD σ H ⟨c,F,ρ,rel,h⟩=>by
 unfold Ka at h
 cases e0:ρ[i]? with
 |none=>rw[e0] at h;exact h.elim
 |some sl=>
  rw[e0] at h
  cases sl with
  |od t0 Xz=>
   cases t0 with
   |false=>exact h.elim
   |true=>
    obtain⟨a,u0,z1,z2,z3,z4,z5⟩:=rel.slot i _ e0
    obtain⟨ks0,rfl,_⟩:=FN z5
    refine⟨.ref a,at_of z1,a,rfl,.inr ⟨ks0,.inl z2⟩,c,F,ρ,rel,ř.bind h λk ρ1 y1 F1 H1 ć s1 r1 h1=>⟨c,F1,ρ1,ć,ř.bind h1 λp ρ2 v F2 H2 Ġ s2 r2 h2=>?_⟩⟩
    cases e2:ρ2[i]? with
    |none=>rw[e2] at h2;exact h2.elim
    |some sl2=>
     rw[e2] at h2
     cases sl2 with
     |od t kvs=>
      cases t with
      |false=>exact h2.elim
      |true=>
       cases ek:Ai true k with
       |none=>rw[ek] at h2;exact h2.elim
       |some dk=>
        rw[ek] at h2
        dsimp only at h2
        obtain⟨is,b,rfl,ey,eb⟩:=FJ ek (Rep.same s2 k y1 r1)
        obtain⟨a2,u,w1,w2,w3,w4,w5⟩:=Ġ.slot i _ e2
        obtain⟨ks,rfl,w6⟩:=FN w5
        have e3:=at_of z1
        rw[at_of w1] at e3
        have e3':a2=a:=by injection e3 with e3;injection e3 with e3;injection e3
        subst e3'
        refine⟨ks,Hs is,b,w2,ey,Ġ.sub _ _ eb,λv' l=>?_,λl=>?_⟩
        ·rcases mF (c:=(Sum.inr:List Int->DK)) (kf:=Hs) qU kJ is w6 with⟨_,q2⟩|⟨p',v2,q1,q2,q3⟩
         ·rw[q2] at l;cases l
         ·rw[q2] at l
          cases l
          rw[q1] at h2
          exact h2 _ F2 _ (Ġ.put rfl ⟨_,rfl,q3⟩) (Same.refl _)
        ·rcases mF (c:=(Sum.inr:List Int->DK)) (kf:=Hs) qU kJ is w6 with⟨q1,_⟩|⟨p',v2,_,q2,_⟩
         ·rw[q1] at h2
          dsimp only at h2
          split at h2
          ·rename_i hz
           refine⟨by rw[<-Paired.length w6,ğ];exact hz,h2 _ F2 _ ?_ (Same.refl _)⟩
           have fV:=Ġ.qD ⟨_,_,e2,at_of w1,rfl⟩ (o:=.dT (putK ks (Hs is) v)) (s:=.od true (dput kvs (.inr is) p)) ⟨a2,_,w1,č,w3,w4,uL (Ek qU kJ is r2 w6)⟩ λx' b ex z=>by
            rw[at_of w1] at ex
            cases ex
            have:a2=b:=V.ref.inj z
            subst this
            exact⟨_,_,e2,at_of w1,rfl⟩
           exact fV.put rfl ⟨_,rfl,r2⟩
          ·exact h2.elim
         ·rw[q2] at l;cases l
     |_=>exact h2.elim
  |_=>exact h.elim
@[simp] theorem Yi{i:Nat}{ρ:Ĳ}:wF i ρ=.ok .nx (ρ.set i (.od true [])):=rfl
@[simp] theorem Zcx{j i:Nat}{ρ:Ĳ}:Ka j i mk mv ρ=(match ρ[i]? with
  |some (.od true _)=>(mk ρ).bind λk ρ1=>(mv ρ1).bind λp ρ2=>match ρ2[i]?,Ai true k with
   |some (.od true kvs),some dk=>match dval kvs dk with
    |some q=>.ok .nx (ρ2.set j (.sh q))
    |none=>if kvs.length<16777216 then .ok .nx ((ρ2.set i (.od true (dput kvs dk p))).set j (.sh p)) else .bad
   |_,_=>.bad
  |_=>.bad):=rfl
end
end P
namespace My
end My
namespace T
open PySem L2 M2 M3 M4 P
noncomputable section
def top(i:Nat):Stmt:=PySem.Challenge.pw_shadowpost_k52_what_a_dial_tells.main.body.getD i (.Pass ⟨0,0,0,0⟩)
abbrev LQ:Stmt:=top 43
abbrev LR:Stmt:=top 37
abbrev L_:Stmt:=top 38
abbrev Ma:Stmt:=top 39
abbrev Mf:Stmt:=top 40
abbrev Mg:Stmt:=top 41
abbrev Mh:Stmt:=top 10
abbrev Mi:Stmt:=top 11
abbrev Mj:Stmt:=top 13
abbrev Yj:Stmt:=inClass (top 18) 0
abbrev Yk:Stmt:=top 14
abbrev Yl:Stmt:=top 15
abbrev Ym:Stmt:=top 16
abbrev Yn:Stmt:=top 12
abbrev Yo:Stmt:=top 17
abbrev Ml:Stmt:=top 24
abbrev Yp:Stmt:=top 42
abbrev Yq:Stmt:=inClass (top 26) 0
abbrev Mp:Stmt:=top 28
abbrev Mq:Stmt:=top 3
abbrev Mr:Stmt:=top 30
abbrev Yr:Stmt:=top 31
abbrev Ms:Stmt:=top 27
abbrev Mt:Stmt:=top 32
abbrev Ys:Stmt:=top 33
abbrev Mu:Stmt:=top 2
abbrev Mv:Stmt:=top 34
abbrev Mw:Stmt:=top 35
abbrev Mx:Stmt:=top 46
abbrev Mz:Stmt:=top 44
abbrev MJ:Stmt:=top 45
abbrev MK:Stmt:=top 47
def cmB(c0:Addr)(c1:Addr)(c2:Addr)(c3:Addr)(c4:Addr)(c5:Addr)(c6:Addr):String->Addr:=λs=>match s with
 | "Thing" =>c0
 | "Post" =>c1
 | "Fence" =>c2
 | "Sail" =>c3
 | "Cloth" =>c4
 | "House" =>c5
 | "Yard" =>c6
 |_=>0
def wG:M Fl:=(ę (Ĺ 0 (Ś (ă Ğ (Ā 0) (ă Ż (mC (.int 10)) (mC (.int 12))))))
 (ę (fj (cH (ă ő (ă Ğ (Ā 0) (mC (.int 6))) (mC (.int 5))))
 (Į (Ś (Ŕ (Ą (ē (ģ ġ (mC (.int 1)) (ă Ğ (ă İ (Ā 0) (mC (.int 6))) (mC (.int 20))))) (Ą (ē (ģ ġ (mC (.int 1)) (ă Ğ (ă İ (Ā 0) (mC (.int 120))) (mC (.int 20))))) ĕ)))))
 fQ)
 (Į (Ś (Ŕ (Ą (ē (ģ ġ (mC (.int 1)) (ă Ğ (ă İ (Ā 0) (mC (.int 6))) (mC (.int 6))))) (Ą (ē (ģ ġ (mC (.int 1)) (ă Ğ (ă İ (Ā 0) (mC (.int 36))) (mC (.int 6))))) ĕ)))))))
def uM:MF:=ĺ 1 1 wG
def wH:M Fl:=(ę (fj (cH (ă oh (Ā 1) (gQ iB (Ą (Ā 0) ĕ))))
 (Į (Ś (ă ė (Ā 0) (Ā 1))))
 fQ)
 (Į (Ś (mC (.int 0)))))
def ſ:MF:=ĺ 2 2 wH
def FP:M Fl:=(ę (Ĺ 0 (ģ ġ (ē (ģ ġ (ă Ğ (Ā 0) (mC (.int 1073741789))) (ă Ģ (mC (.int 3)) (Ā 1)))) (mC (.int 1))))
 (ę (CW (gS 2 (Č (gN 2) (Č (gN 3) ń))) (gQ gq (Ą (ē (ģ ġ (ă Ģ (Ā 0) (mC (.int 40009))) (ă Ģ (Ā 1) (mC (.int 5501))))) (Ą (mC (.int 32749)) ĕ))))
 (Į (Ś (ă Ğ (ē (ģ ġ (ē (ģ ġ (ă Ģ (Ā 2) (Ā 2)) (ă Ģ (Ā 3) (ē (ģ ġ (Ā 3) (mC (.int 613))))))) (Ā 1))) (mC (.int 1500450271)))))))
def uN:MF:=ĺ 2 4 FP
def iT:M Fl:=(fj (cH (ă ő (Ā 2) (mC (.int 0))))
 (ę (qH 3 (ă Ğ (Ā 0) (ă Ż (mC (.int 10)) (mC (.int 6)))))
 (Ĺ 0 (Ś (ă İ (Ā 0) (ă Ż (mC (.int 10)) (mC (.int 6)))))))
 (qH 3 (ē (Ĝ uN (Ī (ē (ģ ġ (ē (Ĝ uN (ĉ 0 (ĉ 4 Ę)))) (Ā 0))) (ĉ 4 Ę))))))
def FQ:M Fl:=(ę (Ĺ 2 (Ś (ă Ğ (Ā 0) (mC (.int 2)))))
 (ę (Ĺ 0 (Ś (ă Ğ (ă İ (Ā 0) (mC (.int 2))) (ă Ģ (ă Ģ (ă Ż (mC (.int 10)) (mC (.int 60))) (ă Ż (mC (.int 10)) (mC (.int 60)))) (ă Ż (mC (.int 10)) (mC (.int 60)))))))
 (ę (Ĺ 3 (dH ĕ))
 (ę (fU (aX aH (Ą (Ė 1) ĕ)) (gN 4) iT)
 (Į (jf 3))))))
def yO:MF:=ĺ 2 5 FQ
def qW:M Fl:=(ę (CW (gS 3 (Č (gN 4) (Č (gN 5) (Č (gN 6) ń)))) (Ė 2))
 (ę (fj (cH (ă ő (ă Ğ (Ā 0) (mC (.int 7))) (mC (.int 6))))
 (Į (Ś (mC .non)))
 fQ)
 (ę (fj (cH (ă oh (ă Ğ (Ā 0) (mC (.int 5))) (mC (.int 3))))
 (Į (Ś (Ŕ (Ą (ē (ģ ġ (ă Ģ (ă Ģ (mC (.int 2)) (Ā 6)) (Ā 1)) (Ā 4))) (Ą (ē (ģ ġ (Ā 5) (ă Ģ (ă Ģ (mC (.int 2)) (Ā 6)) (ă İ (ă Ğ (ă İ (Ā 0) (mC (.int 35))) (mC (.int 9))) (mC (.int 8)))))) (Ą (Ė 6) ĕ))))))
 fQ)
 (ę (Ĺ 3 (Ś (ă ė (ē (dH (Ą (mC (.int 1)) (Ą (mC (.int 1)) (Ą (ă Ż (mC (.int 10)) (mC (.int 5))) ĕ))))) (ă Ğ (ă İ (Ā 0) (mC (.int 35))) (mC (.int 3))))))
 (Į (Ś (Ŕ (Ą (ă Ģ (Ā 3) (ă bC (ă Ğ (ă İ (Ā 0) (mC (.int 105))) (mC (.int 9))) (mC (.int 4)))) (Ą (ă Ģ (Ā 3) (ă bC (ă Ğ (ă İ (Ā 0) (mC (.int 945))) (mC (.int 9))) (mC (.int 4)))) (Ą (ă Ģ (Ā 3) (ē (ģ ġ (mC (.int 1)) (ă Ğ (ă İ (Ā 0) (mC (.int 8505))) (mC (.int 2)))))) ĕ))))))))))
def dZ:MF:=ĺ 3 7 qW
def iU:M Fl:=(ę (Ĺ 7 (Ĝ ſ (ĉ 0 (Ī (ē (ģ ġ (ē (ģ ġ (Ā 1) (mC (.int 1)))) (Ā 6))) Ę))))
 (ę (Ĺ 8 (Ś (Ŕ (Ą (ă bC (ă Ğ (ă İ (Ā 7) (mC (.int 12))) (mC (.int 5))) (mC (.int 2))) (Ą (ă bC (ă Ğ (ă İ (Ā 7) (mC (.int 60))) (mC (.int 5))) (mC (.int 2))) (Ą (ē (ģ ġ (mC (.int 1)) (ă Ğ (ă İ (Ā 3) (mC (.int 36))) (mC (.int 3))))) ĕ))))))
 (ę (Ĺ 9 (ģ ġ (ē (ģ ġ (mC (.int 1)) (ă Ğ (Ā 7) (mC (.int 4))))) (ă Ģ (ă Ğ (ă İ (Ā 7) (mC (.int 4))) (mC (.int 3))) (ă İ (ă Ğ (ă İ (Ā 3) (mC (.int 3))) (mC (.int 4))) (mC (.int 3))))))
 (ę (fj (cH (ă ő (Ā 5) (mC (.int 1))))
 (Ĺ 9 (ģ ġ (mC (.int 1)) (ă Ğ (Ā 7) (mC (.int 24)))))
 fQ)
 (ę (Ĺ 10 (Ĝ yO (Ī (ă İ (Ā 7) (mC (.int 300))) (ĉ 9 Ę))))
 (ę (Ĺ 11 (ź [8,10] 1 (aX aH (Ą (Ė 9) ĕ)) (gN 2) bV (ē (Ĝ dZ (Ī (ă ė (Ā 1) (Ā 2)) (ĉ 2 (ĉ 0 Ę)))))))
 (ę (Ĺ 12 (ģ ġ (ă ė (mC (.str "abcdefghijkl")) (Ā 6)) (ă Ģ (mC (.str "ab")) (ă Ğ (ă İ (Ā 3) (mC (.int 108))) (mC (.int 4))))))
 (qH 4 (Ŕ (Ą (Ė 12) (Ą (ē (ģ ġ (mC (.int 1)) (ă Ğ (ă İ (Ā 3) (mC (.int 7))) (ă bC (ă Ż (mC (.int 10)) (mC (.int 9))) (mC (.int 1)))))) (Ą (Ė 11) ĕ))))))))))))
def mW:M Fl:=(ę (Ĺ 3 (Ś (ă Ğ (ē (Ĝ ſ (ĉ 0 (ĉ 1 Ę)))) (ă Ż (mC (.int 10)) (mC (.int 12))))))
 (ę (Ĺ 4 (dH ĕ))
 (ę (Ĺ 5 (Ś (gQ qM (Ą (ă ő (ă Ğ (ă İ (Ā 3) (mC (.int 1009))) (mC (.int 16))) (mC (.int 3))) ĕ))))
 (ę (fj (cH (ă ő (ă Ğ (ă İ (Ā 3) (mC (.int 16144))) (mC (.int 16))) (mC (.int 9))))
 (Į (dH ĕ))
 fQ)
 (ę (fU (aX aH (Ą (ē (ģ ġ (mC (.int 1)) (ă Ğ (Ā 3) (ă ė (ē (dH (Ą (Ė 2) (Ą (mC (.int 12)) ĕ)))) (Ā 5))))) ĕ)) (gN 6) iU)
 (Į (jf 4)))))))
def gH:MF:=ĺ 3 13 mW
def FT:M Fl:=(Į (Ś (lG jJ jJ (IV xM (mC (.int (1000000000)))) (Ā 0) (mC (.int (1000000000))))))
def ju:MF:=ĺ 1 1 FT
def FW:M Fl:=(Į (Ś (lG jJ jJ (mC (.int 1)) (Ā 0) (mC (.int (1000000000))))))
def uO:MF:=ĺ 1 1 FW
def wI:M Fl:=(Į (Ś (bR (ă ő (gQ iB (Ą (Ā 0) ĕ)) (mC (.int 3))) (bR (ē (Ĝ ju (Ī (ă ė (Ā 0) (mC (.int 0))) Ę))) (bR (ē (Ĝ ju (Ī (ă ė (Ā 0) (mC (.int 1))) Ę))) (ē (Ĝ uO (Ī (ă ė (Ā 0) (mC (.int 2))) Ę))))))))
def uP:MF:=ĺ 1 1 wI
def cB:M Fl:=(ę (dX 0 ["Thing","Post","Fence","Sail","Cloth","House"] "word" (Ė 1))
 (dX 0 ["Thing","Post","Fence","Sail","Cloth","House"] "numbers" (ē (qG dW (Ą (Ā 2) ĕ)))))
def qX:MI:=aL 3 3 "Post" cB
def mX:MI:=aL 3 3 "Fence" cB
def qY:MI:=aL 3 3 "Sail" cB
def mY:MI:=aL 3 3 "Cloth" cB
def mZ:MI:=aL 3 3 "House" cB
def FZ:M Fl:=(Į (Ś (bR (ă ő (gQ iB (Ą (Ā 0) ĕ)) (mC (.int 5))) (bR (gQ ud (Ą (ē (ź [] 1 (ů (ē (UL (Ā 0) Jg (mP (mC (.int 4)))))) (gN 0) bV (ē (Ĝ ju (ĉ 0 Ę))))) ĕ)) (ē (Ĝ uO (Ī (ă ė (Ā 0) (mC (.int 4))) Ę)))))))
def Ar:MF:=ĺ 1 1 FZ
def Ga:M Fl:=(Į (Ś (bR (ē (Ĝ Ar (ĉ 0 Ę))) (ă gk (ē (UL (Ā 0) Jg (mP (mC (.int 2))))) (ē (UL (Ā 0) (mP (mC (.int 2))) (mP (mC (.int 4)))))))))
def Gb:MF:=ĺ 1 1 Ga
def Gd:M Fl:=(Į (Ś (bR (ē (Ĝ Ar (ĉ 0 Ę))) (bR (ă oh (ă ė (Ā 0) (mC (.int 0))) (ă ė (Ā 0) (mC (.int 2)))) (ă oh (ă ė (Ā 0) (mC (.int 1))) (ă ė (Ā 0) (mC (.int 3))))))))
def Av:MF:=ĺ 1 1 Gd
def MN:M Fl:=(Į (Ś (bR (ē (Ĝ ju (Ī (ă ė (Ā 0) (mC (.int 0))) Ę))) (bR (ē (Ĝ ju (Ī (ă ė (Ā 0) (mC (.int 1))) Ę))) (lG jJ jJ (mC (.int 0)) (ă ė (Ā 0) (mC (.int 2))) (mC (.int (1000000000))))))))
def Kc:MF:=ĺ 1 1 MN
def Ge:M Fl:=(Į (Ś (bR (ă ő (gQ iB (Ą (Ā 0) ĕ)) (mC (.int 9))) (gQ ud (Ą (ē (ź [0] 1 (ů (Ŕ (Ą (mC (.int 0)) (Ą (mC (.int 3)) (Ą (mC (.int 6)) ĕ))))) (gN 1) bV (ē (Ĝ Kc (Ī (ē (UL (Ā 0) (mP (Ė 1)) (mP (ē (ģ ġ (Ā 1) (mC (.int 3))))))) Ę))))) ĕ)))))
def Gf:MF:=ĺ 1 1 Ge
def fB:M Fl:=(ę (fj (jh (cH (ă ő (Ā 0) (mC (.str "post")))) (jH (ē (Ĝ uP (ĉ 1 Ę)))))
 (Į (Ś (aM "Post" qX (ĉ 0 (ĉ 1 Ę)))))
 fQ)
 (ę (fj (jh (cH (ă ő (Ā 0) (mC (.str "fence")))) (jH (ē (Ĝ Gb (ĉ 1 Ę)))))
 (Į (Ś (aM "Fence" mX (ĉ 0 (ĉ 1 Ę)))))
 fQ)
 (ę (fj (jh (cH (ă ő (Ā 0) (mC (.str "sail")))) (jH (ē (Ĝ Av (ĉ 1 Ę)))))
 (Į (Ś (aM "Sail" qY (ĉ 0 (ĉ 1 Ę)))))
 fQ)
 (ę (fj (jh (cH (ă ő (Ā 0) (mC (.str "cloth")))) (jH (ē (Ĝ Gf (ĉ 1 Ę)))))
 (Į (Ś (aM "Cloth" mY (ĉ 0 (ĉ 1 Ę)))))
 fQ)
 (ę (fj (jh (cH (ă ő (Ā 0) (mC (.str "house")))) (jH (ē (Ĝ Av (ĉ 1 Ę)))))
 (Į (Ś (aM "House" mZ (ĉ 0 (ĉ 1 Ę)))))
 fQ)
 Rj)))))
def eE:MF:=ĺ 2 2 fB
def Gg:M Fl:=(ę (Ĺ 0 (Ś (ă Ğ (Ā 0) (ă Ż (mC (.int 10)) (mC (.int 9))))))
 (ę (fj (cH (ă ő (ă Ğ (Ā 0) (mC (.int 2))) (mC (.int 0))))
 (Į (dH ĕ))
 fQ)
 (ę (Ĺ 1 (Ś (ă bC (ă Ğ (ă İ (Ā 0) (mC (.int 2))) (mC (.int 9))) (mC (.int 4)))))
 (ę (Ĺ 2 (Ś (ă bC (ă Ğ (ă İ (Ā 0) (mC (.int 18))) (mC (.int 9))) (mC (.int 4)))))
 (ę (Ĺ 3 (Ś (ă ė (ē (dH (Ą (mC (.str "house")) (Ą (mC (.str "sail")) ĕ)))) (ă Ğ (ă İ (Ā 0) (mC (.int 162))) (mC (.int 2))))))
 (Į (dH (Ą (ē (Ĝ eE (ĉ 3 (Ī (ē (dH (Ą (Ė 1) (Ą (Ė 2) (Ą (ē (ģ ġ (Ā 1) (mC (.int 30)))) (Ą (ē (ģ ġ (Ā 2) (mC (.int 30)))) (Ą (ē (ģ ġ (mC (.int 1)) (ă Ğ (ă İ (Ā 0) (mC (.int 324))) (mC (.int 9))))) ĕ))))))) Ę)))) ĕ))))))))
def Aw:MF:=ĺ 1 4 Gg
def Gh:M Fl:=(ę (dX 0 ["Yard"] "width" (Ė 1))
 (ę (dX 0 ["Yard"] "height" (Ė 2))
 (ę (dX 0 ["Yard"] "things" (ē (qG dW (Ą (Ā 3) ĕ))))
 (dX 0 ["Yard"] "days" (ē (ź [] 3 (bT 4) (gT 3 (Č (gN 0) (Č (gN 1) (Č (gN 2) ń)))) bV (Ŕ (Ą (Ė 0) (Ą (Ė 1) (Ą (ē (qG dW (Ą (Ā 2) ĕ))) ĕ))))))))))
def kO:MI:=aL 5 5 "Yard" Gh
def Gi:M Fl:=(Į (Ś (ă ė (ă ė (IV (gw ["Yard"] "days") (Ā 0)) (Ā 1)) (mC (.int 2)))))
def uQ:MF:=ĺ 2 2 Gi
def Gj:M Fl:=(Į (Ś (Ŕ (Ą (ē (ģ ġ (ă Ģ (ă ė (Ā 1) (mC (.int 2))) (ă ė (Ā 0) (mC (.int 0)))) (ă Ģ (ă ė (Ā 1) (mC (.int 0))) (ă ė (Ā 0) (mC (.int 2)))))) (Ą (ē (ģ ġ (ă Ģ (ă ė (Ā 1) (mC (.int 2))) (ă ė (Ā 0) (mC (.int 1)))) (ă Ģ (ă ė (Ā 1) (mC (.int 1))) (ă ė (Ā 0) (mC (.int 2)))))) ĕ)))))
def yP:MF:=ĺ 2 2 Gj
def Gk:M Fl:=(ę (Ĺ 2 (Ĝ yP (ĉ 0 (ĉ 1 Ę))))
 (ę (Ĺ 3 (Ś (ă ė (Ā 1) (mC (.int 2)))))
 (Į (Ś (Ŕ (Ą (ă İ (ē (ģ ġ (ă ė (Ā 2) (mC (.int 0))) (Ā 3))) (ă Ģ (mC (.int 2)) (Ā 3))) (Ą (ă İ (ē (ģ ġ (ă ė (Ā 2) (mC (.int 1))) (Ā 3))) (ă Ģ (mC (.int 2)) (Ā 3))) ĕ)))))))
def yQ:MF:=ĺ 2 4 Gk
def pX:M Fl:=(fj (cH (ă gn (Ā 5) (mC .non)))
 (qH 2 (Ŕ (Ą (Ė 3) (Ą (Ė 4) (Ą (ē (Ĝ yQ (ĉ 1 (ĉ 5 Ę)))) ĕ)))))
 fQ)
def yR:M Fl:=(fU (Dv (mLs (ē (Ĝ uQ (ĉ 0 (ĉ 3 Ę)))))) (gT 2 (Č (gN 4) (Č (gN 5) ń))) pX)
def M_:M Fl:=(ę (Ĺ 2 (dH ĕ))
 (ę (fU (aX aH (Ą (gQ iB (Ą (IV (gw ["Yard"] "days") (Ā 0)) ĕ)) ĕ)) (gN 3) yR)
 (Į (jf 2))))
def Kd:MF:=ĺ 2 6 M_
def iV:M Fl:=(Į (Ś (bR (lG jJ oh (mC (.int 0)) (ă ė (Ā 1) (mC (.int 0))) (IV (gw ["Yard"] "width") (Ā 0))) (lG jJ oh (mC (.int 0)) (ă ė (Ā 1) (mC (.int 1))) (IV (gw ["Yard"] "height") (Ā 0))))))
def jw:MF:=ĺ 2 2 iV
def iW:M Fl:=(fj (pA (jH (ē (Ĝ jw (ĉ 0 (ĉ 4 Ę))))))
 (Į (Ś (Ŕ (Ą (mC (.str "off")) (Ą (Ė 2) (Ą (Ė 3) ĕ))))))
 fQ)
def wJ:M Fl:=(ę (fU (bT 1) (gT 3 (Č (gN 2) (Č (gN 3) (Č (gN 4) ń)))) iW)
 (Į (Ś (mC .non))))
def uR:MF:=ĺ 2 5 wJ
def jx:M Fl:=(ę (Ka 5 1 (Ė 4) (Ŕ (Ą (Ė 2) (Ą (Ė 3) ĕ))))
 (fj (cH (ă gk (ă ė (Ā 5) (mC (.int 1))) (Ā 3)))
 (Į (Ś (Ŕ (Ą (mC (.str "alike")) (Ą (Ė 5) (Ą (Ŕ (Ą (Ė 2) (Ą (Ė 3) ĕ))) ĕ))))))
 fQ))
def Gm:M Fl:=(ę (wF 1)
 (ę (fU (bT 0) (gT 3 (Č (gN 2) (Č (gN 3) (Č (gN 4) ń)))) jx)
 (Į (Ś (mC .non)))))
def Gn:MF:=ĺ 1 6 Gm
def Gp:M Fl:=(Į (ģ ġ (ă Ģ (ă ė (Ā 0) (mC (.int 1))) (Ā 1)) (ă ė (Ā 0) (mC (.int 0)))))
def yS:MF:=ĺ 2 2 Gp
def qZ:M Fl:=(yu 2 (ē (Ĝ yS (ĉ 5 (Ī (IV (gw ["Yard"] "width") (Ā 0)) Ę)))) (Ė 4))
def Gq:M Fl:=(ę (yt 2)
 (ę (fU (bT 1) (gT 3 (Č (gN 3) (Č (gN 4) (Č (gN 5) ń)))) qZ)
 (Į (kI 2))))
def yU:MF:=ĺ 2 6 Gq
def q_:M Fl:=(ę (Ĺ 2 (Ĝ Kd (ĉ 0 (ĉ 1 Ę))))
 (ę (Ĺ 3 (Ĝ uR (ĉ 0 (ĉ 2 Ę))))
 (ę (fj (cH (ă qL (Ā 3) (mC .non)))
 (Ĺ 3 (Ĝ Gn (ĉ 2 Ę)))
 fQ)
 (ę (fj (cH (ă qL (Ā 3) (mC .non)))
 (Į (yc (qO (mC (.str "marks")) (xZ (Ĝ yU (ĉ 0 (ĉ 2 Ę)))))))
 fQ)
 (Į (jf 3))))))
def pY:MF:=ĺ 2 4 q_
def Z2(mf:MF):M Fl:=(ę (fj (CP (jH (gQ iC (Ą (Ā 1) (Ą (mC (.ty "tuple")) ĕ)))) (jH (gQ iC (Ą (Ā 1) (Ą (mC (.ty "list")) ĕ)))))
     (ę (fj (CP (cH (ă gk (gQ iC (Ą (Ā 1) (Ą (mC (.ty "tuple")) ĕ))) (gQ iC (Ą (Ā 0) (Ą (mC (.ty "tuple")) ĕ))))) (cH (ă gk (gQ iC (Ą (Ā 1) (Ą (mC (.ty "list")) ĕ))) (gQ iC (Ą (Ā 0) (Ą (mC (.ty "list")) ĕ))))))
     (Į (Ś (mC (.bl false))))
     fQ)
     (Į (Ś (bR (ă ő (gQ iB (Ą (Ā 0) ĕ)) (gQ iB (Ą (Ā 1) ĕ))) (gQ ud (Ą (ē (ź [] 2 (Jq (vW 0) (vW 1)) (gT 2 (Č (gN 0) (Č (gN 1) ń))) bV (ē (Ĝ mf (ĉ 0 (ĉ 1 Ę)))))) ĕ))))))
     fQ)
     (ę (fj (jH (gQ iC (Ą (Ā 1) (Ą (mC (.ty "str")) ĕ))))
     (Į (Ś (bR (gQ iC (Ą (Ā 0) (Ą (mC (.ty "str")) ĕ))) (ă ő (Ā 0) (Ā 1)))))
     fQ)
     (ę (fj (cH (ă qL (Ā 1) (mC .non)))
     (Į (Ś (ă qL (Ā 0) (mC .non))))
     fQ)
     (Į (Ś (bR (gQ iC (Ą (Ā 0) (Ą (mC (.ty "int")) ĕ))) (bR (Ri (gQ iC (Ą (Ā 0) (Ą (mC (.ty "bool")) ĕ)))) (ă ő (Ā 0) (Ā 1)))))))))
def Ke:MF:=ĺ 2 2 (Z2 λ_=>.bad)
def oG:MF:=ĺ 2 2 (Z2 Ke)
def oH:MF:=ĺ 2 2 (Z2 oG)
def uT:MF:=ĺ 2 2 (Z2 oH)
def Gs:M Fl:=(ę (Ĺ 4 (ģ ġ (ă Ģ (ă ė (Ā 1) (mC (.int 2))) (ă ė (Ā 0) (Ā 3))) (ă Ģ (ă ė (Ā 1) (Ā 3)) (ă ė (Ā 0) (mC (.int 2))))))
 (qH 2 (ă İ (ē (ģ ġ (Ā 4) (ă ė (Ā 1) (mC (.int 2))))) (ă Ģ (mC (.int 2)) (ă ė (Ā 1) (mC (.int 2)))))))
def Gu:M Fl:=(ę (Ĺ 2 (dH ĕ))
 (ę (fU (aX aH (Ą (mC (.int 2)) ĕ)) (gN 3) Gs)
 (Į (Ś (Ŕ (Ą (ă ė (Ā 2) (mC (.int 0))) (Ą (ă ė (Ā 2) (mC (.int 1))) ĕ)))))))
def yV:MF:=ĺ 2 5 Gu
def ĵ:M Fl:=(ę (Ĺ 7 (Ś (ă ė (ă ė (ă ė (Ā 1) (Ā 5)) (mC (.int 2))) (Ā 6))))
 (ę (fj (cH (ă qL (Ā 7) (mC .non)))
 mCt
 fQ)
 (ę (CW (gS 2 (Č (gN 9) (Č (gN 10) ń))) (ē (Ĝ yV (ĉ 2 (ĉ 7 Ę)))))
 (ę (fj (CP (pA (cH (lG jJ oh (mC (.int 0)) (Ā 9) (ă ė (Ā 0) (mC (.int 0)))))) (pA (cH (lG jJ oh (mC (.int 0)) (Ā 10) (ă ė (Ā 0) (mC (.int 1)))))))
 (Į (Ś (Ŕ (Ą (mC (.str "off")) (Ą (Ė 5) (Ą (Ė 6) ĕ))))))
 fQ)
 (ę (Ĺ 8 (ģ ġ (ă Ģ (Ā 10) (ă ė (Ā 0) (mC (.int 0)))) (Ā 9)))
 (fj (cH (Jz true 3 (Ė 8)))
 (yu 3 (Ė 8) (Ŕ (Ą (Ė 5) (Ą (Ė 6) ĕ))))
 (fj (jh (cH (ă gk (ă ė (jq 3 (Ė 8)) (mC (.int 1))) (Ā 6))) (cH (ă qL (Ā 4) (mC .non))))
 (Ĺ 4 (Ś (Ŕ (Ą (mC (.str "alike")) (Ą (jq 3 (Ė 8)) (Ą (Ŕ (Ą (Ė 5) (Ą (Ė 6) ĕ))) ĕ))))))
 fQ)))))))
def iY:M Fl:=(fU (aX aH (Ą (gQ iB (Ą (ă ė (ă ė (Ā 1) (Ā 5)) (mC (.int 2))) ĕ)) ĕ)) (gN 6) ĵ)
def fC:M Fl:=(ę (yt 3)
 (ę (Ĺ 4 (Ś (mC .non)))
 (ę (fU (aX aH (Ą (gQ iB (Ą (Ā 1) ĕ)) ĕ)) (gN 5) iY)
 (ę (fj (cH (ă gn (Ā 4) (mC .non)))
 (Į (jf 4))
 fQ)
 (Į (Ś (Ŕ (Ą (mC (.str "marks")) (Ą (ē (ź [3] 1 (ů (ē (kE 3))) (gN 1) bV (Ŕ (Ą (Ė 1) (Ą (ă ė (jq 0 (Ė 1)) (mC (.int 1))) ĕ))))) ĕ)))))))))
def gJ:MF:=ĺ 3 11 fC
def m_:M Fl:=(ę (Ĺ 9 (Ĝ pY (ĉ 4 (ĉ 7 Ę))))
 (ę (fj (jk 9 (pA (jH (ē (Ĝ uT (ĉ 9 (Ī (ē (Ĝ gJ (ĉ 1 (ĉ 2 (ĉ 7 Ę))))) Ę)))))))
 (Į (Ś (mC (.bl false))))
 fQ)
 (fj (jk 9 (cH (ă ő (ă ė (Ā 9) (mC (.int 0))) (mC (.str "marks")))))
 (ur 9 1 (Ŕ (Ą (mC (.int 0)) (Ą (mC (.int 0)) ĕ))))
 fQ)))
def ni:M Fl:=(ę (Ĺ 8 (ź [0,6] 1 (aX aH (Ą (mC (.int 3)) ĕ)) (gN 2) bV (ă Ğ (ē (Ĝ ſ (ĉ 0 (Ī (ē (ģ ġ (Ā 1) (Ā 2))) Ę)))) (ă Ż (mC (.int 10)) (mC (.int 9))))))
 (qH 5 (Ŕ (Ą (ă bC (ă Ğ (ă ė (Ā 8) (mC (.int 0))) (mC (.int 19))) (mC (.int 4))) (Ą (ă bC (ă Ğ (ă ė (Ā 8) (mC (.int 1))) (mC (.int 19))) (mC (.int 4))) (Ą (ē (ģ ġ (mC (.int 1)) (ă Ğ (ă ė (Ā 8) (mC (.int 2))) (mC (.int 4))))) ĕ))))))
def Gv:M Fl:=(ę (Ĺ 1 (Ĝ uM (Ī (ē (Ĝ ſ (ĉ 0 (Ī (mC (.int 0)) Ę)))) Ę)))
 (ę (Ĺ 2 (Ĝ gH (ĉ 0 (Ī (mC (.int 7)) (Ī (mC (.int 4)) Ę)))))
 (ę (Ĺ 3 (Ĝ Aw (Ī (ă İ (ē (Ĝ ſ (ĉ 0 (Ī (mC (.int 0)) Ę)))) (mC (.int 7))) Ę)))
 (ę (Ĺ 4 (Ś (aM "Yard" kO (Ī (ă ė (Ā 1) (mC (.int 0))) (Ī (ă ė (Ā 1) (mC (.int 1))) (ĉ 3 (Ī (ē (ź [] 3 (bT 2) (gT 3 (Č (gN 0) (Č (gN 1) (Č (gN 2) ń)))) bV (Ŕ (Ą (Ė 0) (Ą (Ė 1) (Ą (ē (qG dW (Ą (Ā 2) ĕ))) ĕ)))))) Ę)))))))
 (ę (Ĺ 5 (dH ĕ))
 (ę (fU (ů (ē (dH (Ą (mC (.int 1)) (Ą (mC (.int 4)) ĕ))))) (gN 6) ni)
 (ę (fU (ů (ē (dH (Ą (ă ė (Ā 5) (mC (.int 0))) (Ą (ă ė (Ā 5) (mC (.int 1))) (Ą (ă ė (Ā 5) (mC (.int 0))) ĕ)))))) (gN 7) m_)
 (Į (Ś (mC (.bl true)))))))))))
def pZ:MF:=ĺ 1 10 Gv
set_option genInjectivity false
set_option genSizeOf false
structure Gw where
 {Nb Nf Ng Nh Ni Nj Nk Nm Np jL Yt Yu Yw Yx Yy Nq Yz Tp Nr Nt Nu YB Nv Nx YC Ny Nz NK uU NP NQ NT rm Gx yW Gy yX yZ wK:Addr}
 {NZ N_ Oa Ob Oc Od Oe Og Oh Ax YD YF YG YH YJ Oi YK YL Oj Ol Om YM Oo Oq YQ Ot Ou Ov uV Ow Ox Gz:FuncData}
 {oJ rC:Tok}
def ĸ(a:Gw):String->Addr:=cmB a.rm a.Gx a.yW a.Gy a.yX a.yZ a.wK
structure Tx(K:PySem.W.Frag)(mg:Str->Option Value)(a:Gw):Prop where
 ZaN:mg "Thing" =some (.ref a.rm)
 Tq:mg "Post" =some (.ref a.Gx)
 Kf:mg "Fence" =some (.ref a.yW)
 Tr:mg "Sail" =some (.ref a.Gy)
 Kg:mg "Cloth" =some (.ref a.yX)
 Kh:mg "House" =some (.ref a.yZ)
 Tt:mg "Yard" =some (.ref a.wK)
 gK:Df K mg "_law_sides" LQ ["_law_cell_here"] a.Nb a.NZ
 Ŗ:Df K mg "_law_cell" LR ["_law_script","_law_at"] a.Nf a.N_
 bZ:Df K mg "_law_churn" L_ ["_law_number","_law_k"] a.Ng a.Oa
 nj:Df K mg "_law_row" Ma ["_law_cell_here","_law_many"] a.Nh a.Ob
 jy:Df K mg "_law_turn" Mf ["_law_number","_law_t","_law_kind"] a.Ni a.Oc
 jz:Df K mg "_law_days" Mg ["_law_script","_law_at","_law_many"] a.Nj a.Od
 Ť:Df K mg "is_place" Mh ["number"] a.Nk a.Oe
 dg:Df K mg "is_height" Mi ["number"] a.Nm a.Og
 gM:Df K mg "makes_post" Mj ["numbers"] a.Np a.Oh
 ě:Dm K a.rm "__init__" "Thing.__init__" Yj ["self","word","numbers"] a.jL a.Ax
 aj:Df K mg "has_two_ends" Yk ["numbers"] a.Yt a.YD
 eG:Df K mg "makes_fence" Yl ["numbers"] a.Yu a.YF
 ň:Df K mg "makes_sail_or_house" Ym ["numbers"] a.Yw a.YG
 aP:Df K mg "is_cloth_corner" Yn ["numbers"] a.Yx a.YH
 eN:Df K mg "makes_cloth" Yo ["numbers"] a.Yy a.YJ
 nq:Df K mg "thing_of" Ml ["word","numbers"] a.Nq a.Oi
 cC:Df K mg "_law_standing" Yp ["_law_cell_here"] a.Yz a.YK
 cD:Dm K a.wK "__init__" "Yard.__init__" Yq ["self","width","height","things","days"] a.Tp a.YL
 nA:Df K mg "turns_of" Mp ["yard","day"] a.Nr a.Oj
 GC:Df K mg "cast" Mq ["point","ray"] a.Nt a.Ol
 uW:Df K mg "end_of" Mr ["pointer","ray"] a.Nu a.Om
 dw:Df K mg "ends_by_turn" Yr ["yard","pointer"] a.YB a.YM
 jA:Df K mg "has_stone" Ms ["yard","stone"] a.Nv a.Oo
 jB:Df K mg "first_off" Mt ["yard","ends"] a.Nx a.Oq
 eO:Df K mg "first_alike" Ys ["ends"] a.YC a.YQ
 jC:Df K mg "number_of" Mu ["stone","width"] a.Ny a.Ot
 nC:Df K mg "marks_of" Mv ["yard","ends"] a.Nz a.Ou
 GD:Df K mg "dial" Mw ["yard","pointer"] a.NK a.Ov
 Ŭ:Df K mg "_law_same" Mx ["_law_found","_law_due"] a.uU a.uV
 nD:Df K mg "_law_end" Mz ["_law_pointer","_law_ray"] a.NP a.Ow
 jD:Df K mg "_law_dial" MJ ["_law_sides_here","_law_days_here","_law_pointer"] a.NQ a.Ox
 GF:Df K mg "law" MK ["_law_script"] a.NT a.Gz
 eU:mg "MOST_HEIGHT" =some (.int (1000000000) a.oJ)
 gO:mg "MOST_PLACE" =some (.int (1000000000) a.rC)
 GJ:mg "all" =none
 Tv:mg "bool" =none
 GK:mg "divmod" =none
 uX:mg "enumerate" =none
 Oz:mg "int" =none
 į:mg "isinstance" =none
 gP:mg "len" =none
 ak:mg "list" =none
 aQ:mg "range" =none
 uY:mg "sorted" =none
 OD:mg "str" =none
 rD:mg "tuple" =none
 YS:mg "zip" =none
 za:Cls K (ĸ a "Thing")
 ZaO:Mk K (ĸ a "Thing") a.jL
 rE:Ħ K (ĸ a "Thing") "word"
 jM:Ħ K (ĸ a "Thing") "numbers"
 GP:Cls K (ĸ a "Post")
 Tw:Mk K (ĸ a "Post") a.jL
 uZ:Ħ K (ĸ a "Post") "word"
 nF:Ħ K (ĸ a "Post") "numbers"
 zc:Cls K (ĸ a "Fence")
 Kl:Mk K (ĸ a "Fence") a.jL
 rG:Ħ K (ĸ a "Fence") "word"
 jN:Ħ K (ĸ a "Fence") "numbers"
 GQ:Cls K (ĸ a "Sail")
 Tz:Mk K (ĸ a "Sail") a.jL
 u_:Ħ K (ĸ a "Sail") "word"
 nG:Ħ K (ĸ a "Sail") "numbers"
 zf:Cls K (ĸ a "Cloth")
 Km:Mk K (ĸ a "Cloth") a.jL
 rH:Ħ K (ĸ a "Cloth") "word"
 jO:Ħ K (ĸ a "Cloth") "numbers"
 zj:Cls K (ĸ a "House")
 Ko:Mk K (ĸ a "House") a.jL
 rJ:Ħ K (ĸ a "House") "word"
 jP:Ħ K (ĸ a "House") "numbers"
 rK:Cls K (ĸ a "Yard")
 TF:Mk K (ĸ a "Yard") a.Tp
 rM:Ħ K (ĸ a "Yard") "width"
 oK:Ħ K (ĸ a "Yard") "height"
 oM:Ħ K (ĸ a "Yard") "things"
 vd:Ħ K (ĸ a "Yard") "days"
def Z0Y{K:PySem.W.Frag}{mg:Str->Option Value}{a:Gw}(T:Tx K mg a):mg "Post" =some (.ref (ĸ a "Post")):=T.Tq
def Z0A{K:PySem.W.Frag}{mg:Str->Option Value}{a:Gw}(T:Tx K mg a):mg "Fence" =some (.ref (ĸ a "Fence")):=T.Kf
def Z0Z{K:PySem.W.Frag}{mg:Str->Option Value}{a:Gw}(T:Tx K mg a):mg "Sail" =some (.ref (ĸ a "Sail")):=T.Tr
def Z0B{K:PySem.W.Frag}{mg:Str->Option Value}{a:Gw}(T:Tx K mg a):mg "Cloth" =some (.ref (ĸ a "Cloth")):=T.Kg
def Z0C{K:PySem.W.Frag}{mg:Str->Option Value}{a:Gw}(T:Tx K mg a):mg "House" =some (.ref (ĸ a "House")):=T.Kh
def Z10{K:PySem.W.Frag}{mg:Str->Option Value}{a:Gw}(T:Tx K mg a):mg "Yard" =some (.ref (ĸ a "Yard")):=T.Tt
def GR:Ď ["_law_cell_here"] ["_law_cell_here"] (Ć LQ):=dY
def TJ:Ď ["_law_script","_law_at"] ["_law_script","_law_at"] (Ć LR):=dY
def rN:Ď ["_law_number","_law_k","_law_high","_law_low"] ["_law_number","_law_k"] (Ć L_):=dY
def iZ:Ď ["_law_cell_here","_law_many","_law_by","_law_found","_law_k"] ["_law_cell_here","_law_many"] (Ć Ma):=dY
def nH:Ď ["_law_number","_law_t","_law_kind","_law_by","_law_a","_law_b","_law_c"] ["_law_number","_law_t","_law_kind"] (Ć Mf):=dY
def Ű:Ď ["_law_script","_law_at","_law_many","_law_first","_law_days_here","_law_long","_law_k","_law_cell_here","_law_kind","_law_size","_law_xs","_law_turns","_law_name"] ["_law_script","_law_at","_law_many"] (Ć Mg):=dY
def TQ:Ď ["number"] ["number"] (Ć Mh):=dY
def TX:Ď ["number"] ["number"] (Ć Mi):=dY
def TY:Ď ["numbers"] ["numbers"] (Ć Mj):=dY
def vf:Ď ["self","word","numbers"] ["self","word","numbers"] (Ć Yj):=dY
def YT:Ď ["numbers"] ["numbers"] (Ć Yk):=dY
def YW:Ď ["numbers"] ["numbers"] (Ć Yl):=dY
def YX:Ď ["numbers"] ["numbers"] (Ć Ym):=dY
def YZ:Ď ["numbers"] ["numbers"] (Ć Yn):=dY
def Y_:Ď ["numbers"] ["numbers"] (Ć Yo):=dY
def T_:Ď ["word","numbers"] ["word","numbers"] (Ć Ml):=dY
def vg:Ď ["_law_cell_here","_law_x","_law_y","_law_word"] ["_law_cell_here"] (Ć Yp):=dY
def Z_:Ď ["self","width","height","things","days"] ["self","width","height","things","days"] (Ć Yq):=dY
def Ua:Ď ["yard","day"] ["yard","day"] (Ć Mp):=dY
def Ub:Ď ["point","ray"] ["point","ray"] (Ć Mq):=dY
def wL:Ď ["pointer","ray","end","unit"] ["pointer","ray"] (Ć Mr):=dY
def vh:Ď ["yard","pointer","ends","day","number","turn"] ["yard","pointer"] (Ć Yr):=dY
def Uc:Ď ["yard","stone"] ["yard","stone"] (Ć Ms):=dY
def rP:Ď ["yard","ends","day","turn","stone"] ["yard","ends"] (Ć Mt):=dY
def qb:Ď ["ends","seen","day","turn","stone","ahead"] ["ends"] (Ć Ys):=dY
def Ud:Ď ["stone","width"] ["stone","width"] (Ć Mu):=dY
def nJ:Ď ["yard","ends","marks","day","turn","stone"] ["yard","ends"] (Ć Mv):=dY
def rQ:Ď ["yard","pointer","ends","fault"] ["yard","pointer"] (Ć Mw):=dY
def Ue:Ď ["_law_found","_law_due"] ["_law_found","_law_due"] (Ć Mx):=dY
def rT:Ď ["_law_pointer","_law_ray","_law_found","_law_axis","_law_fell"] ["_law_pointer","_law_ray"] (Ć Mz):=dY
def bf:Ď ["_law_sides_here","_law_days_here","_law_pointer","_law_known","_law_late","_law_day","_law_turn_here","_law_ray","_law_number","_law_p","_law_q"] ["_law_sides_here","_law_days_here","_law_pointer"] (Ć MJ):=dY
def bh:Ď ["_law_script","_law_sides_here","_law_days_here","_law_things","_law_yard","_law_pointers","_law_at","_law_pointer","_law_numbers","_law_found"] ["_law_script"] (Ć MK):=dY
section
variable{P:Program}{w:World}{K:PySem.W.Frag}{mg:Str->Option Value}{base:Heap}{a:Gw}
seal PE PT PW PA PS fG PG vo PI Hq
def Zp(T:Tx K mg a):lQ (λC=>Cls K (ĸ a C)/\Ħ K (ĸ a C) "word") ["Thing","Post","Fence","Sail","Cloth","House"]:=⟨⟨T.za,T.rE⟩,⟨⟨T.GP,T.uZ⟩,⟨⟨T.zc,T.rG⟩,⟨⟨T.GQ,T.u_⟩,⟨⟨T.zf,T.rH⟩,⟨⟨T.zj,T.rJ⟩,trivial⟩⟩⟩⟩⟩⟩
def Zh(T:Tx K mg a):lQ (λC=>Cls K (ĸ a C)/\Ħ K (ĸ a C) "numbers") ["Thing","Post","Fence","Sail","Cloth","House"]:=⟨⟨T.za,T.jM⟩,⟨⟨T.GP,T.nF⟩,⟨⟨T.zc,T.jN⟩,⟨⟨T.GQ,T.nG⟩,⟨⟨T.zf,T.jO⟩,⟨⟨T.zj,T.jP⟩,trivial⟩⟩⟩⟩⟩⟩
def Zs(T:Tx K mg a):lQ (λC=>Cls K (ĸ a C)/\Ħ K (ĸ a C) "width") ["Yard"]:=⟨⟨T.rK,T.rM⟩,trivial⟩
def ZC(T:Tx K mg a):lQ (λC=>Cls K (ĸ a C)/\Ħ K (ĸ a C) "height") ["Yard"]:=⟨⟨T.rK,T.oK⟩,trivial⟩
def Z0e(T:Tx K mg a):lQ (λC=>Cls K (ĸ a C)/\Ħ K (ĸ a C) "things") ["Yard"]:=⟨⟨T.rK,T.oM⟩,trivial⟩
def Zw(T:Tx K mg a):lQ (λC=>Cls K (ĸ a C)/\Ħ K (ĸ a C) "days") ["Yard"]:=⟨⟨T.rK,T.vd⟩,trivial⟩
def Ug(T:Tx K mg a):ī P w K mg base aR 1 a.Nb a.NZ ["_law_cell_here"] (aW ⟨K,ĸ a⟩ 1 uM):=by
 refine Ş T.gK.F GR λ_ _ _ _ _ _ _ hu=>?_
 exact Ŏ GR (cF (v_mod (ā 0) (ĝ (Ÿ ż Ŷ Ă Ă)))) (Ċ (ś (t_eq hu (Ĵ (ā 0) Ă) Ă) (ł (Ń (ą (v_add Ă (Ĵ (ņ (ā 0) Ă) Ă)) (ą (v_add Ă (Ĵ (ņ (ā 0) Ă) Ă)) Ě)))) ĭ) (ł (Ń (ą (v_add Ă (Ĵ (ņ (ā 0) Ă) Ă)) (ą (v_add Ă (Ĵ (ņ (ā 0) Ă) Ă)) Ě)))))
def nM(T:Tx K mg a):ī P w K mg base aR 1 a.Nf a.N_ ["_law_script","_law_at"] (aW ⟨K,ĸ a⟩ 2 ſ):=by
 refine Ş T.Ŗ.F TJ λ_ _ _ _ _ _ _ _=>?_
 exact Ċ (ś (cQ jj jd (ā 1) (ĝ (Ž bM bW T.gP PySem.boot_len (ď (ā 0) ĥ))) (Ő _)) (ł (aA (ā 0) (ā 1))) ĭ) (ł ŏ)
def GX(T:Tx K mg a):ī P w K mg base aR 1 a.Ng a.Oa ["_law_number","_law_k"] (aW ⟨K,ĸ a⟩ 2 uN):=by
 refine Ş T.bZ.F rN λ_ _ _ _ _ _ _ _=>?_
 exact Ŏ rN (jo (cU (Ĵ (ā 0) Ă) (Ŋ Ă (ā 1))) Ă) (Ċ (CZ (Ž zW zZ T.GK PyProof.Rows.boot_divmod (ď (cU (Ŋ (ā 0) Ă) (Ŋ (ā 1) Ă)) (ď Ă ĥ))) (DQ rfl (Ĥ (Ū rN) (Ĥ (Ū rN) aV)))) (ł (v_mod (cU (cU (Ŋ (ā 2) (ā 2)) (Ŋ (ā 3) (cU (ā 3) Ă))) (ā 1)) Ă)))
def Uh(T:Tx K mg a):ī P w K mg base aR 2 a.Nh a.Ob ["_law_cell_here","_law_many"] (aW ⟨K,ĸ a⟩ 2 yO):=by
 refine Ş T.nj.F iZ λ_ _ _ _ _ _ hr hu=>?_
 exact Ŏ iZ (cF (v_mod (ā 0) Ă)) (Ŏ iZ (cF (v_mod (ņ (ā 0) Ă) (Ŋ (Ŋ (ĝ (Ÿ ż Ŷ Ă Ă)) (ĝ (Ÿ ż Ŷ Ă Ă))) (ĝ (Ÿ ż Ŷ Ă Ă))))) (Ŏ iZ (aG Ě) (Ċ (cg PassesOwn.leaving rfl (ũ rfl T.aQ (ą (v_var 1) Ě)) (Ū iZ) (Ĩ (ś (t_eq hu (ā 2) Ă) (Ċ (PS.wk (bK (lq PySem.F.plainAttrs_list PySem.F.slot_list_append PySem.F.type_list_append ō (pv 3) (ą (v_mod (ā 0) (ĝ (Ÿ ż Ŷ Ă Ă))) Ě))) λ_ _ _ h=>dB h) (Ĩ (Eb iZ (cF (lZ (ā 0) (ĝ (Ÿ ż Ŷ Ă Ă))))))) (Ĩ (PS.wk (bK (lq PySem.F.plainAttrs_list PySem.F.slot_list_append PySem.F.type_list_append ō (pv 3) (ą (Ĭ (Đ (GX T) T.bZ hr Ē (ħ (v_add (ĝ (Ĭ (Đ (GX T) T.bZ hr Ē (Ĕ 0 (Ĕ 4 đ))))) (ā 0)) (Ĕ 4 đ)))) Ě))) λ_ _ _ h=>dB h))))) (cA (tK 3)))))
def Ui(T:Tx K mg a):ī P w K mg base aR 1 a.Ni a.Oc ["_law_number","_law_t","_law_kind"] (aW ⟨K,ĸ a⟩ 3 dZ):=by
 refine Ş T.jy.F nH λ_ _ _ _ _ _ _ hu=>?_
 exact Ċ (CZ (v_var 2) (DQ rfl (Ĥ (Ū nH) (Ĥ (Ū nH) (Ĥ (Ū nH) aV))))) (Ċ (ś (t_eq hu (Ĵ (ā 0) Ă) Ă) (ł tM) ĭ) (Ċ (ś (cQ jj jd (Ĵ (ā 0) Ă) Ă (Ő _)) (ł (Ń (ą (v_add (Ŋ (Ŋ Ă (ā 6)) (ā 1)) (ā 4)) (ą (v_add (ā 5) (Ŋ (Ŋ Ă (ā 6)) (ņ (Ĵ (ņ (ā 0) Ă) Ă) Ă))) (ą (v_var 6) Ě))))) ĭ) (Ŏ nH (cF (aA (ĝ (Ĭ (aG (ą ŏ (ą ŏ (ą (Ÿ ż Ŷ Ă Ă) Ě)))))) (Ĵ (ņ (ā 0) Ă) Ă))) (ł (Ń (ą (v_mul (ā 3) (Ea (Ĵ (ņ (ā 0) Ă) Ă) Ă)) (ą (v_mul (ā 3) (Ea (Ĵ (ņ (ā 0) Ă) Ă) Ă)) (ą (v_mul (ā 3) (cU Ă (Ĵ (ņ (ā 0) Ă) Ă))) Ě))))))))
def Uj(T:Tx K mg a):ī P w K mg base aR 3 a.Nj a.Od ["_law_script","_law_at","_law_many"] (aW ⟨K,ĸ a⟩ 3 gH):=by
 refine Ş T.jz.F Ű λ_ _ _ _ _ _ hr hu=>?_
 exact Ŏ Ű (cF (v_mod (ĝ (Ĭ (Đ (nM T) T.Ŗ hr Ē (Ĕ 0 (Ĕ 1 đ))))) (ĝ (Ÿ ż Ŷ Ă Ă)))) (Ŏ Ű (aG Ě) (Ŏ Ű (cF (Zco Ry Rz T.Oz PyProof.Rows.boot_int (ď (ĝ (v_eq hu (Ĵ (ņ (ā 3) Ă) Ă) Ă)) ĥ))) (Ċ (ś (t_eq hu (Ĵ (ņ (ā 3) Ă) Ă) Ă) (cA (aG Ě)) ĭ) (Ċ (cg PassesOwn.leaving rfl (ũ rfl T.aQ (ą (v_add Ă (Ĵ (ā 3) (Ŀ (ĝ (Ĭ (aG (ą (v_var 2) (ą ŏ Ě))))) (ā 5)))) Ě)) (Ū Ű) (Ŏ Ű (Đ (nM T) T.Ŗ hr Ē (Ĕ 0 (ħ (v_add (cU (ā 1) Ă) (ā 6)) đ))) (Ŏ Ű (cF (Ń (ą (v_sub (Ĵ (ņ (ā 7) Ă) Ă) Ă) (ą (v_sub (Ĵ (ņ (ā 7) Ă) Ă) Ă) (ą (v_add Ă (Ĵ (ņ (ā 3) Ă) Ă)) Ě))))) (Ŏ Ű (jo (cU Ă (Ĵ (ā 7) Ă)) (Ŋ (Ĵ (ņ (ā 7) Ă) Ă) (ņ (Ĵ (ņ (ā 3) Ă) Ă) Ă))) (Ċ (ś (t_eq hu (ā 5) Ă) (Ĩ (Eb Ű (jo Ă (Ĵ (ā 7) Ă)))) ĭ) (Ŏ Ű (Đ (Uh T) T.nj hr Ē (ħ (lZ (ā 7) Ă) (Ĕ 9 đ))) (Ċ (Xu Ű (ũ rfl T.aQ (ą (v_var 9) Ě)) iJ cR (Ĭ (Đ (Ui T) T.jy hr Ē (ħ (aA (ā 1) (ā 2)) (Ĕ 2 (Ĕ 0 đ)))))) (Ŏ Ű (jo (Ŀ jm (ā 6)) (Ŋ jm (Ĵ (ņ (ā 3) Ă) Ă))) (Ĩ (PS.wk (bK (lq PySem.F.plainAttrs_list PySem.F.slot_list_append PySem.F.type_list_append ō (pv 4) (ą (Ń (ą (v_var 12) (ą (v_add Ă (Ĵ (ņ (ā 3) Ă) (Ea (ĝ (Ÿ ż Ŷ Ă Ă)) Ă))) (ą (v_var 11) Ě)))) Ě))) λ_ _ _ h=>dB h)))))))))) (cA (tK 4))))))
def nO(T:Tx K mg a):ī P w K mg base aR 1 a.Nk a.Oe ["number"] (aW ⟨K,ĸ a⟩ 1 ju):=by
 refine Ş T.Ť.F TQ λ_ _ _ _ _ _ _ _=>?_
 exact ł (tW dU dU dM dM (ĝ (Zbk Rw QM (ĝ (rY (.int 1000000000) (jR (v:=.int 1000000000) rfl T.gO ⟨_,rfl⟩))))) (ā 0) (ĝ (rY (.int 1000000000) (jR (v:=.int 1000000000) rfl T.gO ⟨_,rfl⟩))))
def GZ(T:Tx K mg a):ī P w K mg base aR 1 a.Nm a.Og ["number"] (aW ⟨K,ĸ a⟩ 1 uO):=by
 refine Ş T.dg.F TX λ_ _ _ _ _ _ _ _=>?_
 exact ł (tW dU dU dM dM Ă (ā 0) (ĝ (rY (.int 1000000000) (jR (v:=.int 1000000000) rfl T.eU ⟨_,rfl⟩))))
def Uk(T:Tx K mg a):ī P w K mg base aR 2 a.Np a.Oh ["numbers"] (aW ⟨K,ĸ a⟩ 1 uP):=by
 refine Ş T.gM.F TY λ_ _ _ _ _ _ hr hu=>?_
 exact ł (v_and (v_eq hu (ĝ (Ž bM bW T.gP PySem.boot_len (ď (ā 0) ĥ))) Ă) (v_and (Ĭ (Đ (nO T) T.Ť hr Ē (ħ (aA (ā 0) Ă) đ))) (v_and (Ĭ (Đ (nO T) T.Ť hr Ē (ħ (aA (ā 0) Ă) đ))) (dR (Ĭ (Đ (GZ T) T.dg hr Ē (ħ (aA (ā 0) Ă) đ)))))))
def G_(T:Tx K mg a):ī P w K mg base aR 1 a.jL a.Ax ["self","word","numbers"] (Hr ⟨K,ĸ a⟩ 3 "Post" qX):=by
 refine Va (cm:=ĸ a) (mb:=cB) T.ě.F vf rfl rfl rfl λcdv A outer s H E hr=>?_
 have hu:=hr.units
 exact Ċ (ŝ ["Thing","Post","Fence","Sail","Cloth","House"] (Zp T) (pv 0) (v_var 1)) (Ĩ (ŝ ["Thing","Post","Fence","Sail","Cloth","House"] (Zh T) (pv 0) (Ĭ (uw aJ aK T.ak PyProof.Rows.boot_list (ď (ā 2) ĥ)))))
def Ay(T:Tx K mg a):ī P w K mg base aR 1 a.jL a.Ax ["self","word","numbers"] (Hr ⟨K,ĸ a⟩ 3 "Fence" mX):=by
 refine Va (cm:=ĸ a) (mb:=cB) T.ě.F vf rfl rfl rfl λcdv A outer s H E hr=>?_
 have hu:=hr.units
 exact Ċ (ŝ ["Thing","Post","Fence","Sail","Cloth","House"] (Zp T) (pv 0) (v_var 1)) (Ĩ (ŝ ["Thing","Post","Fence","Sail","Cloth","House"] (Zh T) (pv 0) (Ĭ (uw aJ aK T.ak PyProof.Rows.boot_list (ď (ā 2) ĥ)))))
def Hf(T:Tx K mg a):ī P w K mg base aR 1 a.jL a.Ax ["self","word","numbers"] (Hr ⟨K,ĸ a⟩ 3 "Sail" qY):=by
 refine Va (cm:=ĸ a) (mb:=cB) T.ě.F vf rfl rfl rfl λcdv A outer s H E hr=>?_
 have hu:=hr.units
 exact Ċ (ŝ ["Thing","Post","Fence","Sail","Cloth","House"] (Zp T) (pv 0) (v_var 1)) (Ĩ (ŝ ["Thing","Post","Fence","Sail","Cloth","House"] (Zh T) (pv 0) (Ĭ (uw aJ aK T.ak PyProof.Rows.boot_list (ď (ā 2) ĥ)))))
def Az(T:Tx K mg a):ī P w K mg base aR 1 a.jL a.Ax ["self","word","numbers"] (Hr ⟨K,ĸ a⟩ 3 "Cloth" mY):=by
 refine Va (cm:=ĸ a) (mb:=cB) T.ě.F vf rfl rfl rfl λcdv A outer s H E hr=>?_
 have hu:=hr.units
 exact Ċ (ŝ ["Thing","Post","Fence","Sail","Cloth","House"] (Zp T) (pv 0) (v_var 1)) (Ĩ (ŝ ["Thing","Post","Fence","Sail","Cloth","House"] (Zh T) (pv 0) (Ĭ (uw aJ aK T.ak PyProof.Rows.boot_list (ď (ā 2) ĥ)))))
def A_(T:Tx K mg a):ī P w K mg base aR 1 a.jL a.Ax ["self","word","numbers"] (Hr ⟨K,ĸ a⟩ 3 "House" mZ):=by
 refine Va (cm:=ĸ a) (mb:=cB) T.ě.F vf rfl rfl rfl λcdv A outer s H E hr=>?_
 have hu:=hr.units
 exact Ċ (ŝ ["Thing","Post","Fence","Sail","Cloth","House"] (Zp T) (pv 0) (v_var 1)) (Ĩ (ŝ ["Thing","Post","Fence","Sail","Cloth","House"] (Zh T) (pv 0) (Ĭ (uw aJ aK T.ak PyProof.Rows.boot_list (ď (ā 2) ĥ)))))
def OJ(T:Tx K mg a):ī P w K mg base aR 2 a.Yt a.YD ["numbers"] (aW ⟨K,ĸ a⟩ 1 Ar):=by
 refine Ş T.aj.F YT λ_ _ _ _ _ _ hr hu=>?_
 exact ł (v_and (v_eq hu (ĝ (Ž bM bW T.gP PySem.boot_len (ď (ā 0) ĥ))) Ă) (v_and (Ž (vN rfl) vU T.GJ PyProof.Rows.boot_all (ď (ĝ (Ĭ (Ae (pB (Ĭ (jZ (ā 0) Dk (iz ŏ)))) iJ cR (Ĭ (Đ (nO T) T.Ť hr Ē (Ĕ 0 đ)))))) ĥ)) (dR (Ĭ (Đ (GZ T) T.dg hr Ē (ħ (aA (ā 0) Ă) đ))))))
def Zaa(T:Tx K mg a):ī P w K mg base aR 3 a.Yu a.YF ["numbers"] (aW ⟨K,ĸ a⟩ 1 Gb):=by
 refine Ş T.eG.F YW λ_ _ _ _ _ _ hr hu=>?_
 exact ł (v_and (Ĭ (Đ (OJ T) T.aj hr Ē (Ĕ 0 đ))) (dR (tQ La (Cj hu) (ĝ (Ĭ (jZ (ā 0) Dk (iz ŏ)))) (ĝ (Ĭ (jZ (ā 0) (iz ŏ) (iz ŏ)))) (Ő _))))
def O_(T:Tx K mg a):ī P w K mg base aR 3 a.Yw a.YG ["numbers"] (aW ⟨K,ĸ a⟩ 1 Av):=by
 refine Ş T.ň.F YX λ_ _ _ _ _ _ hr _=>?_
 exact ł (v_and (Ĭ (Đ (OJ T) T.aj hr Ē (Ĕ 0 đ))) (v_and (tQ jj jd (Ŀ (ā 0) Ă) (Ŀ (ā 0) Ă) (Ő _)) (dR (tQ jj jd (Ŀ (ā 0) Ă) (Ŀ (ā 0) Ă) (Ő _)))))
def Zab(T:Tx K mg a):ī P w K mg base aR 2 a.Yx a.YH ["numbers"] (aW ⟨K,ĸ a⟩ 1 Kc):=by
 refine Ş T.aP.F YZ λ_ _ _ _ _ _ hr _=>?_
 exact ł (v_and (Ĭ (Đ (nO T) T.Ť hr Ē (ħ (aA (ā 0) Ă) đ))) (v_and (Ĭ (Đ (nO T) T.Ť hr Ē (ħ (aA (ā 0) Ă) đ))) (dR (tW dU dU dM dM Ă (Ŀ (ā 0) Ă) (ĝ (rY (.int 1000000000) (jR (v:=.int 1000000000) rfl T.eU ⟨_,rfl⟩)))))))
def Zac(T:Tx K mg a):ī P w K mg base aR 3 a.Yy a.YJ ["numbers"] (aW ⟨K,ĸ a⟩ 1 Gf):=by
 refine Ş T.eN.F Y_ λ_ _ _ _ _ _ hr hu=>?_
 exact ł (v_and (v_eq hu (ĝ (Ž bM bW T.gP PySem.boot_len (ď (ā 0) ĥ))) Ă) (dR (Ž (vN rfl) vU T.GJ PyProof.Rows.boot_all (ď (ĝ (Ĭ (Ae (pB (Ń (ą ŏ (ą ŏ (ą ŏ Ě))))) iJ cR (Ĭ (Đ (Zab T) T.aP hr Ē (ħ (Ĭ (jZ (ā 0) (iz (v_var 1)) (iz (v_add (ā 1) Ă)))) đ)))))) ĥ))))
def Ul(T:Tx K mg a):ī P w K mg base aR 4 a.Nq a.Oi ["word","numbers"] (aW ⟨K,ĸ a⟩ 2 eE):=by
 refine Ş T.nq.F T_ λ_ _ _ _ _ _ hr hu=>?_
 exact Ċ (ś (PW.pt (w_and (t_eq hu (ā 0) jm) (iw (dO (ĝ (Ĭ (Đ (Uk T) T.gM hr Ē (Ĕ 1 đ)))))))) (ł (iD T.Tw (G_ T) Ŵ hr.mo rfl (Z0Y T) T.ě.b Ē (Ĕ 0 (Ĕ 1 đ)))) ĭ) (Ċ (ś (PW.pt (w_and (t_eq hu (ā 0) jm) (iw (dO (ĝ (Ĭ (Đ (Zaa T) T.eG hr Ē (Ĕ 1 đ)))))))) (ł (iD T.Kl (Ay T) Ŵ hr.mo rfl (Z0A T) T.ě.b Ē (Ĕ 0 (Ĕ 1 đ)))) ĭ) (Ċ (ś (PW.pt (w_and (t_eq hu (ā 0) jm) (iw (dO (ĝ (Ĭ (Đ (O_ T) T.ň hr Ē (Ĕ 1 đ)))))))) (ł (iD T.Tz (Hf T) Ŵ hr.mo rfl (Z0Z T) T.ě.b Ē (Ĕ 0 (Ĕ 1 đ)))) ĭ) (Ċ (ś (PW.pt (w_and (t_eq hu (ā 0) jm) (iw (dO (ĝ (Ĭ (Đ (Zac T) T.eN hr Ē (Ĕ 1 đ)))))))) (ł (iD T.Km (Az T) Ŵ hr.mo rfl (Z0B T) T.ě.b Ē (Ĕ 0 (Ĕ 1 đ)))) ĭ) (Ċ (ś (PW.pt (w_and (t_eq hu (ā 0) jm) (iw (dO (ĝ (Ĭ (Đ (O_ T) T.ň hr Ē (Ĕ 1 đ)))))))) (ł (iD T.Ko (A_ T) Ŵ hr.mo rfl (Z0C T) T.ě.b Ē (Ĕ 0 (Ĕ 1 đ)))) ĭ) (Ĩ Ja)))))
def Zad(T:Tx K mg a):ī P w K mg base aR 5 a.Yz a.YK ["_law_cell_here"] (aW ⟨K,ĸ a⟩ 1 Aw):=by
 refine Ş T.cC.F vg λ_ _ _ _ _ _ hr hu=>?_
 exact Ŏ vg (cF (v_mod (ā 0) (ĝ (Ÿ ż Ŷ Ă Ă)))) (Ċ (ś (t_eq hu (Ĵ (ā 0) Ă) Ă) (cA (aG Ě)) ĭ) (Ŏ vg (cF (v_sub (Ĵ (ņ (ā 0) Ă) Ă) Ă)) (Ŏ vg (cF (v_sub (Ĵ (ņ (ā 0) Ă) Ă) Ă)) (Ŏ vg (cF (aA (ĝ (Ĭ (aG (ą fP (ą fP Ě))))) (Ĵ (ņ (ā 0) Ă) Ă))) (cA (aG (ą (Ĭ (Đ (Ul T) T.nq hr Ē (Ĕ 3 (ħ (Ĭ (aG (ą (v_var 1) (ą (v_var 2) (ą (v_add (ā 1) Ă) (ą (v_add (ā 2) Ă) (ą (v_add Ă (Ĵ (ņ (ā 0) Ă) Ă)) Ě))))))) đ)))) Ě)))))))
def Hg(T:Tx K mg a):ī P w K mg base aR 1 a.Tp a.YL ["self","width","height","things","days"] (Hr ⟨K,ĸ a⟩ 5 "Yard" kO):=by
 refine Va (cm:=ĸ a) (mb:=Gh) T.cD.F Z_ rfl rfl rfl λcdv A outer s H E hr=>?_
 have hu:=hr.units
 exact Ċ (ŝ ["Yard"] (Zs T) (pv 0) (v_var 1)) (Ċ (ŝ ["Yard"] (ZC T) (pv 0) (v_var 2)) (Ċ (ŝ ["Yard"] (Z0e T) (pv 0) (Ĭ (uw aJ aK T.ak PyProof.Rows.boot_list (ď (ā 3) ĥ)))) (Ĩ (ŝ ["Yard"] (Zw T) (pv 0) (Ĭ (Ae (lJ 4) (lH rfl (Ĥ iJ (Ĥ iJ (Ĥ iJ aV)))) cR (Ń (ą (v_var 0) (ą (v_var 1) (ą (Ĭ (uw aJ aK T.ak PyProof.Rows.boot_list (ď (ā 2) ĥ))) Ě))))))))))
def Um(T:Tx K mg a):ī P w K mg base aR 1 a.Nr a.Oj ["yard","day"] (aW ⟨K,ĸ a⟩ 2 uQ):=by
 refine Ş T.nA.F Ua λ_ _ _ _ _ _ _ _=>?_
 exact ł (aA (Ŀ (ĝ (uf ["Yard"] (Zw T) (ā 0))) (ā 1)) Ă)
def Uo(T:Tx K mg a):ī P w K mg base aR 1 a.Nt a.Ol ["point","ray"] (aW ⟨K,ĸ a⟩ 2 yP):=by
 refine Ş T.GC.F Ub λ_ _ _ _ _ _ _ _=>?_
 exact ł (Ń (ą (v_add (Ŋ (Ŀ (ā 1) Ă) (Ŀ (ā 0) Ă)) (Ŋ (Ŀ (ā 1) Ă) (Ŀ (ā 0) Ă))) (ą (v_add (Ŋ (Ŀ (ā 1) Ă) (Ŀ (ā 0) Ă)) (Ŋ (Ŀ (ā 1) Ă) (Ŀ (ā 0) Ă))) Ě)))
def Uq(T:Tx K mg a):ī P w K mg base aR 2 a.Nu a.Om ["pointer","ray"] (aW ⟨K,ĸ a⟩ 2 yQ):=by
 refine Ş T.uW.F wL λ_ _ _ _ _ _ hr _=>?_
 exact Ŏ wL (Đ (Uo T) T.GC hr Ē (Ĕ 0 (Ĕ 1 đ))) (Ŏ wL (cF (aA (ā 1) Ă)) (ł (Ń (ą (lZ (cU (Ŀ (ā 2) Ă) (ā 3)) (Ŋ Ă (ā 3))) (ą (lZ (cU (Ŀ (ā 2) Ă) (ā 3)) (Ŋ Ă (ā 3))) Ě)))))
def Zae(T:Tx K mg a):ī P w K mg base aR 3 a.YB a.YM ["yard","pointer"] (aW ⟨K,ĸ a⟩ 2 Kd):=by
 refine Ş T.dw.F vh λ_ _ _ _ _ _ hr _=>?_
 exact Ŏ vh (aG Ě) (Ċ (cg PassesOwn.leaving rfl (ũ rfl T.aQ (ą (Ž bM bW T.gP PySem.boot_len (ď (ĝ (uf ["Yard"] (Zw T) (ā 0))) ĥ)) Ě)) (Ū vh) (Ĩ (cg PassesOwn.leaving rfl (RJ rfl T.uX (Zcf (Ĭ (Đ (Um T) T.nA hr Ē (Ĕ 0 (Ĕ 3 đ)))))) (lH rfl (Ĥ (Ū vh) (Ĥ (Ū vh) aV))) (Ĩ (ś (cQ t_ wV (ā 5) jl (Ő _)) (Ĩ (PS.wk (bK (lq PySem.F.plainAttrs_list PySem.F.slot_list_append PySem.F.type_list_append ō (pv 2) (ą (Ń (ą (v_var 3) (ą (v_var 4) (ą (Ĭ (Đ (Uq T) T.uW hr Ē (Ĕ 1 (Ĕ 5 đ)))) Ě)))) Ě))) λ_ _ _ h=>dB h)) ĭ))))) (cA (tK 2)))
def Ur(T:Tx K mg a):ī P w K mg base aR 1 a.Nv a.Oo ["yard","stone"] (aW ⟨K,ĸ a⟩ 2 jw):=by
 refine Ş T.jA.F Uc λ_ _ _ _ _ _ _ _=>?_
 exact ł (v_and (tW dU jj dM jd Ă (Ŀ (ā 1) Ă) (ĝ (uf ["Yard"] (Zs T) (ā 0)))) (dR (tW dU jj dM jd Ă (Ŀ (ā 1) Ă) (ĝ (uf ["Yard"] (ZC T) (ā 0))))))
def Us(T:Tx K mg a):ī P w K mg base aR 2 a.Nx a.Oq ["yard","ends"] (aW ⟨K,ĸ a⟩ 2 uR):=by
 refine Ş T.jB.F rP λ_ _ _ _ _ _ hr _=>?_
 exact Ċ (cg PassesOwn.leaving rfl (lJ 1) (lH rfl (Ĥ (Ū rP) (Ĥ (Ū rP) (Ĥ (Ū rP) aV)))) (Ĩ (ś (xJ (dO (ĝ (Ĭ (Đ (Ur T) T.jA hr Ē (Ĕ 0 (Ĕ 4 đ))))))) (ł (Ń (ą fP (ą (v_var 2) (ą (v_var 3) Ě))))) ĭ))) (ł tM)
def Zaf(T:Tx K mg a):ī P w K mg base aR 1 a.YC a.YQ ["ends"] (aW ⟨K,ĸ a⟩ 1 Gn):=by
 refine Ş T.eO.F qb λ_ _ _ _ _ _ _ hu=>?_
 exact Ċ (J_ (i:=1) qb.nd rfl (Or.inl rfl)) (Ċ (cg PassesOwn.leaving rfl (lJ 0) (lH rfl (Ĥ (Ū qb) (Ĥ (Ū qb) (Ĥ (Ū qb) aV)))) (Ċ (Yh (j:=5) (i:=1) hu qb.nd rfl (Or.inl rfl) (v_var 4) (Ń (ą (v_var 2) (ą (v_var 3) Ě))) (pv 1)) (Ĩ (ś (Ju hu (Ŀ (ā 5) Ă) (ā 3)) (ł (Ń (ą fP (ą (v_var 5) (ą (Ń (ą (v_var 2) (ą (v_var 3) Ě))) Ě))))) ĭ)))) (ł tM))
def Ut(T:Tx K mg a):ī P w K mg base aR 1 a.Ny a.Ot ["stone","width"] (aW ⟨K,ĸ a⟩ 2 yS):=by
 refine Ş T.jC.F Ud λ_ _ _ _ _ _ _ _=>?_
 exact cA (jo (Ŋ (Ŀ (ā 0) Ă) (ā 1)) (Ŀ (ā 0) Ă))
def Uu(T:Tx K mg a):ī P w K mg base aR 2 a.Nz a.Ou ["yard","ends"] (aW ⟨K,ĸ a⟩ 2 yU):=by
 refine Ş T.nC.F nJ λ_ _ _ _ _ _ hr hu=>?_
 exact Ċ (Em (i:=2) nJ.nd rfl (Or.inl rfl)) (Ċ (cg PassesOwn.leaving rfl (lJ 1) (lH rfl (Ĥ (Ū nJ) (Ĥ (Ū nJ) (Ĥ (Ū nJ) aV)))) (Ĩ (Eo (i:=2) hu (v_var 4) (Ĭ (Đ (Ut T) T.jC hr Ē (Ĕ 5 (ħ (uf ["Yard"] (Zs T) (ā 0)) đ)))) (pv 2)))) (cA (Fy 2 rfl rfl T.uY)))
def Uv(T:Tx K mg a):ī P w K mg base aR 4 a.NK a.Ov ["yard","pointer"] (aW ⟨K,ĸ a⟩ 2 pY):=by
 refine Ş T.GD.F rQ λ_ _ _ _ _ _ hr _=>?_
 exact Ŏ rQ (Đ (Zae T) T.dw hr Ē (Ĕ 0 (Ĕ 1 đ))) (Ŏ rQ (Đ (Us T) T.jB hr Ē (Ĕ 0 (Ĕ 2 đ))) (Ċ (ś (cQ pD gY (ā 3) jl (Ő _)) (Ĩ (Eb rQ (Đ (Zaf T) T.eO hr Ē (Ĕ 2 đ)))) ĭ) (Ċ (ś (cQ pD gY (ā 3) jl (Ő _)) (cA (RQ (Jt fP (RP (Đ (Uu T) T.nC hr Ē (Ĕ 0 (Ĕ 2 đ))))))) ĭ) (cA (tK 3)))))
def Zj(T:Tx K mg a){k:Nat}{mf:MF}(hok:ī P w K mg base aR k a.uU a.uV ["_law_found","_law_due"] (aW ⟨K,ĸ a⟩ 2 mf))(hlf:∀{ps:List Slot},(∃r,mf ps=r/\∀z,r=z->z≠ .bad)->ps.length=2):ī P w K mg base aR (k+1) a.uU a.uV ["_law_found","_law_due"] (aW ⟨K,ĸ a⟩ 2 (ĺ 2 2 (Z2 mf))):=by
 refine fnQ (cm:=ĸ a) (mb:=Z2 mf) T.Ŭ.F Ue rfl rfl rfl λcdv A outer s H E hr=>?_
 have hu:=hr.units
 exact Ċ (ś (PW.pt (w_or (dO (ĝ (Ž aY aZ T.į PyProof.Rows.boot_isinstance (ď (ā 1) (ď (ĝ (rY (.ty "tuple") (ť (v:=.ty "tuple") rfl T.rD PyProof.Rows.boot_tuple rfl))) ĥ))))) (CQ (dO (ĝ (Ž aY aZ T.į PyProof.Rows.boot_isinstance (ď (ā 1) (ď (ĝ (rY (.ty "list") (ť (v:=.ty "list") rfl T.ak PyProof.Rows.boot_list rfl))) ĥ)))))))) (Ċ (ś (PW.pt (w_or (Ju hu (ĝ (Ž aY aZ T.į PyProof.Rows.boot_isinstance (ď (ā 1) (ď (ĝ (rY (.ty "tuple") (ť (v:=.ty "tuple") rfl T.rD PyProof.Rows.boot_tuple rfl))) ĥ)))) (ĝ (Ž aY aZ T.į PyProof.Rows.boot_isinstance (ď (ā 0) (ď (ĝ (rY (.ty "tuple") (ť (v:=.ty "tuple") rfl T.rD PyProof.Rows.boot_tuple rfl))) ĥ))))) (CQ (Ju hu (ĝ (Ž aY aZ T.į PyProof.Rows.boot_isinstance (ď (ā 1) (ď (ĝ (rY (.ty "list") (ť (v:=.ty "list") rfl T.ak PyProof.Rows.boot_list rfl))) ĥ)))) (ĝ (Ž aY aZ T.į PyProof.Rows.boot_isinstance (ď (ā 0) (ď (ĝ (rY (.ty "list") (ť (v:=.ty "list") rfl T.ak PyProof.Rows.boot_list rfl))) ĥ)))))))) (ł Rg) ĭ) (ł (v_and (v_eq hu (ĝ (Ž bM bW T.gP PySem.boot_len (ď (ā 0) ĥ))) (ĝ (Ž bM bW T.gP PySem.boot_len (ď (ā 1) ĥ)))) (dR (Ž (vN rfl) vU T.GJ PyProof.Rows.boot_all (ď (ĝ (Ĭ (Ae (Xl rfl T.YS (Le 0) (Le 1)) (lH rfl (Ĥ iJ (Ĥ iJ aV))) cR (Ĭ (Dc hok hlf hr rfl T.Ŭ.m T.Ŭ.F.kp T.Ŭ.b Ē (Ĕ 0 (Ĕ 1 đ))))))) ĥ)))))) ĭ) (Ċ (ś (dO (ĝ (Ž aY aZ T.į PyProof.Rows.boot_isinstance (ď (ā 1) (ď (ĝ (rY (.ty "str") (ť (v:=.ty "str") rfl T.OD PyProof.Rows.boot_str rfl))) ĥ))))) (ł (v_and (Ž aY aZ T.į PyProof.Rows.boot_isinstance (ď (ā 0) (ď (ĝ (rY (.ty "str") (ť (v:=.ty "str") rfl T.OD PyProof.Rows.boot_str rfl))) ĥ))) (dR (v_eq hu (ā 0) (ā 1))))) ĭ) (Ċ (ś (cQ pD gY (ā 1) jl (Ő _)) (ł (tQ pD gY (ā 0) jl (Ő _))) ĭ) (ł (v_and (Ž aY aZ T.į PyProof.Rows.boot_isinstance (ď (ā 0) (ď (ĝ (rY (.ty "int") (ť (v:=.ty "int") rfl T.Oz PyProof.Rows.boot_int rfl))) ĥ))) (v_and (v_not (Ž aY aZ T.į PyProof.Rows.boot_isinstance (ď (ā 0) (ď (ĝ (rY (.ty "bool") (ť (v:=.ty "bool") rfl T.Tv PyProof.Rows.boot_bool rfl))) ĥ)))) (dR (v_eq hu (ā 0) (ā 1))))))))
def Z01(T:Tx K mg a):ī P w K mg base aR 0 a.uU a.uV ["_law_found","_law_due"] (aW ⟨K,ĸ a⟩ 2 λ_=>.bad):=⟨λ_ _ _ _ ⟨_,_,_,_,_,h⟩=>(show False from h).elim,λ_ _ _ _ _ _ _ _ _ _ _ _ _ ⟨_,_,_,_,_,h⟩=>(show False from h).elim⟩
def Uw(T:Tx K mg a):ī P w K mg base aR 4 a.uU a.uV ["_law_found","_law_due"] (aW ⟨K,ĸ a⟩ 2 uT):=Zj T (Zj T (Zj T (Zj T (Z01 T) (λ⟨_,e,h⟩=>(h _ e.symm rfl).elim)) fW) fW) fW
def Ux(T:Tx K mg a):ī P w K mg base aR 1 a.NP a.Ow ["_law_pointer","_law_ray"] (aW ⟨K,ĸ a⟩ 2 yV):=by
 refine Ş T.nD.F rT λ_ _ _ _ _ _ _ _=>?_
 exact Ŏ rT (aG Ě) (Ċ (cg PassesOwn.leaving rfl (ũ rfl T.aQ (ą ŏ Ě)) (Ū rT) (Ŏ rT (jo (Ŋ (Ŀ (ā 1) Ă) (Ŀ (ā 0) (ā 3))) (Ŋ (Ŀ (ā 1) (ā 3)) (Ŀ (ā 0) Ă))) (Ĩ (PS.wk (bK (lq PySem.F.plainAttrs_list PySem.F.slot_list_append PySem.F.type_list_append ō (pv 2) (ą (lZ (cU (ā 4) (Ŀ (ā 1) Ă)) (Ŋ Ă (Ŀ (ā 1) Ă))) Ě))) λ_ _ _ h=>dB h)))) (ł (Ń (ą (aA (ā 2) Ă) (ą (aA (ā 2) Ă) Ě)))))
def Uy(T:Tx K mg a):ī P w K mg base aR 2 a.NQ a.Ox ["_law_sides_here","_law_days_here","_law_pointer"] (aW ⟨K,ĸ a⟩ 3 gJ):=by
 refine Ş T.jD.F bf λ_ _ _ _ _ _ hr hu=>?_
 exact Ċ (Em (i:=3) bf.nd rfl (by first|exact Or.inl rfl|exact Or.inr rfl)) (Ŏ bf (cF tM) (Ċ (cg PassesOwn.leaving rfl (ũ rfl T.aQ (ą (Ž bM bW T.gP PySem.boot_len (ď (ā 1) ĥ)) Ě)) (Ū bf) (Ĩ (cg PassesOwn.leaving rfl (ũ rfl T.aQ (ą (Ž bM bW T.gP PySem.boot_len (ď (Ŀ (Ŀ (ā 1) (ā 5)) Ă) ĥ)) Ě)) (Ū bf) (Ŏ bf (cF (aA (Ŀ (Ŀ (ā 1) (ā 5)) Ă) (ā 6))) (Ċ (ś (cQ pD gY (ā 7) jl (Ő _)) (Ĩ vO) ĭ) (Ċ (CZ (Ĭ (Đ (Ux T) T.nD hr Ē (Ĕ 2 (Ĕ 7 đ)))) (DQ rfl (Ĥ (Ū bf) (Ĥ (Ū bf) aV)))) (Ċ (ś (PW.pt (w_or (xJ (KJ dU jj dM jd Ă (ā 9) (Ŀ (ā 0) Ă))) (CQ (xJ (KJ dU jj dM jd Ă (ā 10) (Ŀ (ā 0) Ă)))))) (ł (Ń (ą fP (ą (v_var 5) (ą (v_var 6) Ě))))) ĭ) (Ŏ bf (jo (Ŋ (ā 10) (Ŀ (ā 0) Ă)) (ā 9)) (Ĩ (ś (Sh 3 hu (v_var 8)) (Ĩ (Eo (i:=3) hu (Ń (ą (v_var 5) (ą (v_var 6) Ě))) (v_var 8) (pv 3))) (Ĩ (ś (PW.pt (w_and (Ju hu (Ŀ (ĝ (wj 3 hu (v_var 8))) Ă) (ā 6)) (iw (cQ pD gY (ā 4) jl (Ő _))))) (Ĩ (Eb bf (cF (Ń (ą fP (ą (wj 3 hu (v_var 8)) (ą (Ń (ą (v_var 5) (ą (v_var 6) Ě))) Ě))))))) ĭ)))))))))))) (Ċ (ś (cQ t_ wV (ā 4) jl (Ő _)) (cA (tK 4)) ĭ) (ł (Ń (ą fP (ą (Ĭ (Ae (pB (Ĭ (Fx 3 rfl rfl T.uY))) iJ cR (Ń (ą (v_var 1) (ą (aA (ĝ (wj 0 hu (v_var 1))) Ă) Ě))))) Ě)))))))
def Uz(T:Tx K mg a):ī P w K mg base aR 6 a.NT a.Gz ["_law_script"] (aW ⟨K,ĸ a⟩ 1 pZ):=by
 refine Ş T.GF.F bh λ_ _ _ _ _ _ hr hu=>?_
 exact Ŏ bh (Đ (Ug T) T.gK hr Ē (ħ (Ĭ (Đ (nM T) T.Ŗ hr Ē (Ĕ 0 (ħ ŏ đ)))) đ)) (Ŏ bh (Đ (Uj T) T.jz hr Ē (Ĕ 0 (ħ ŏ (ħ ŏ đ)))) (Ŏ bh (Đ (Zad T) T.cC hr Ē (ħ (lZ (ĝ (Ĭ (Đ (nM T) T.Ŗ hr Ē (Ĕ 0 (ħ ŏ đ))))) Ă) đ)) (Ŏ bh (cF (iD T.TF (Hg T) Ŵ hr.mo rfl (Z10 T) T.cD.b Ē (ħ (aA (ā 1) Ă) (ħ (aA (ā 1) Ă) (Ĕ 3 (ħ (Ĭ (Ae (lJ 2) (lH rfl (Ĥ iJ (Ĥ iJ (Ĥ iJ aV)))) cR (Ń (ą (v_var 0) (ą (v_var 1) (ą (Ĭ (uw aJ aK T.ak PyProof.Rows.boot_list (ď (ā 2) ĥ))) Ě)))))) đ)))))) (Ŏ bh (aG Ě) (Ċ (cg PassesOwn.leaving rfl (pB (Ĭ (aG (ą ŏ (ą ŏ Ě))))) (Ū bh) (Ċ (Xu bh (ũ rfl T.aQ (ą ŏ Ě)) iJ cR (v_mod (ĝ (Ĭ (Đ (nM T) T.Ŗ hr Ē (Ĕ 0 (ħ (v_add (ā 1) (ā 2)) đ))))) (ĝ (Ÿ ż Ŷ Ă Ă)))) (Ĩ (PS.wk (bK (lq PySem.F.plainAttrs_list PySem.F.slot_list_append PySem.F.type_list_append ō (pv 5) (ą (Ń (ą (v_sub (Ĵ (Ŀ (ā 8) Ă) Ă) Ă) (ą (v_sub (Ĵ (Ŀ (ā 8) Ă) Ă) Ă) (ą (v_add Ă (Ĵ (Ŀ (ā 8) Ă) Ă)) Ě)))) Ě))) λ_ _ _ h=>dB h)))) (Ċ (cg PassesOwn.leaving rfl (pB (Ĭ (aG (ą (aA (ā 5) Ă) (ą (aA (ā 5) Ă) (ą (aA (ā 5) Ă) Ě)))))) (Ū bh) (Ŏ bh (Đ (Uv T) T.GD hr Ē (Ĕ 4 (Ĕ 7 đ))) (Ċ (ś (DR 9 (xJ (dO (ĝ (Ĭ (Đ (Uw T) T.Ŭ hr Ē (Ĕ 9 (ħ (Ĭ (Đ (Uy T) T.jD hr Ē (Ĕ 1 (Ĕ 2 (Ĕ 7 đ))))) đ)))))))) (ł Rg) ĭ) (Ĩ (ś (DR 9 (t_eq hu (Ŀ (ā 9) Ă) jm)) (Ĩ (PS.wk (bK (lq PySem.F.plainAttrs_list PySem.F.slot_list_append PySem.F.type_list_append ō (Kz BW (pv 9) Bk (λ_ _=>rfl)) (ą (Ń (ą ŏ (ą ŏ Ě))) Ě))) λ_ _ _ h=>D_ h)) ĭ))))) (ł Rg)))))))
end
def Zm(ns:List Int)(k:Nat):ſ [.sh (.lst (ns.map .int)),.sh (.int k)]=.ret (.sh (.int (ns.getD k 0))):=by
 by_cases h:k<ns.length
 ·have h':(k:Int)<(ns.length:Int):=by omega
  simp[ſ,wH,List.replicate,h',List.getElem?_eq_getElem h]
 ·have h':¬(k:Int)<(ns.length:Int):=by omega
  simp[ſ,wH,List.replicate,h',List.getElem?_eq_none (Nat.le_of_not_lt h)]
@[simp] theorem Zo(ns:List Int)(k:Nat):ſ [.sh (.lst (ns.map .int)),.sh (.int (no_index (OfNat.ofNat k)))]=.ret (.sh (.int (ns.getD k 0))):=Zm ns k
@[simp] theorem Z1E{x:Int}{n:Nat}(h:n≠0)(h2:n<1073741824):xT x (no_index (OfNat.ofNat n):Int)=true:=by
  have e:(no_index (OfNat.ofNat n):Int)=(n:Int):=rfl
  rw[e]
  unfold xT
  simp
  omega
def Z03(n k:Int)(h0:0<=k)(hk:k<1000):∃x:Int,uN [.sh (.int n),.sh (.int k)]=.ret (.sh (.int x))/\0<=x/\x<1500450271:=by
 have h1:=Int.emod_nonneg n (show(1073741789:Int)≠0 by decide)
 have h2:=Int.emod_lt_of_pos n (show(0:Int)<1073741789 by decide)
 obtain⟨N,hN⟩:∃N,(n % 1073741789+3*k+1)*40009+k*5501=N:=⟨_,rfl⟩
 have b0:0<=N / 32749:=by omega
 have b1:N / 32749<18446744073709551616:=by omega
 have b2:0<=N % 32749:=by omega
 have b3:N % 32749<32749:=by omega
 obtain⟨h,hh⟩:∃h,N / 32749=h:=⟨_,rfl⟩
 obtain⟨l,hl⟩:∃l,N % 32749=l:=⟨_,rfl⟩
 rw[hh] at b0 b1
 rw[hl] at b2 b3
 have m1:Ņ h h=true:=cj (by omega) (by omega)
 have m2:Ņ l (l+613)=true:=cj (by omega) (by omega)
 have hd:gq [.int N,.int 32749]=some (.tup [.int h,.int l]):=by rw[<-hh,<-hl];simp[gq]
 obtain⟨S,hS⟩:∃S,h*h+l*(l+613)+k=S:=⟨_,rfl⟩
 refine⟨S % 1500450271,?_,by omega,by omega⟩
 simp[uN,FP,List.replicate,hN,hd,m1,m2,hS]
def Sl(s:P.Slot)(ps:List PV):Prop:=s=.sh (.lst ps)\/s=.bw ps
def Z0p(n:Nat):bU 0 n 1=(List.range n).map λ(i:Nat)=>PV.int (i:Int):=by
 unfold bU
 refine List.map_congr_left λi _=>?_
 simp
def ZO{n:Nat}(h:n<=1000):aH [.int (n:Int)]=some ((List.range n).map λ(i:Nat)=>PV.int (i:Int)):=by
 have hs:iy (n:Int)=true:=by unfold iy;simp;omega
 unfold aH
 simp[hs,Z0p]
theorem ZD(b:Int)(s1:P.Slot):∀(ks:List Nat) (acc:List Int) (c:Int) (s4:P.Slot),acc.length+ks.length<=100000->(∀k∈ks,k<1000)->∃(acc':List Int) (c':Int) (UG:P.Slot),forL (gN 4) iT (ks.map λ(i:Nat)=>PV.int (i:Int)) [.sh (.int c),s1,.sh (.int b),.ow (acc.map .int),s4]=.ok .nx [.sh (.int c'),s1,.sh (.int b),.ow (acc'.map .int),UG]/\acc'.length=acc.length+ks.length
 | [],acc,c,s4,_,_=>⟨acc,c,s4,rfl,rfl⟩
 |k::ks,acc,c,s4,hl,hk=>by
  have hk0:=hk k List.mem_cons_self
  have hl0:acc.length<16777216:=by simp at hl;omega
  rw[List.map_cons,forL]
  have hg:gN 4 (PV.int (k:Int)) [.sh (.int c),s1,.sh (.int b),.ow (acc.map .int),s4]=some [.sh (.int c),s1,.sh (.int b),.ow (acc.map .int),.sh (.int k)]:=rfl
  rw[hg]
  dsimp only
  by_cases h0:b=0
  ·have e:iT [.sh (.int c),s1,.sh (.int b),.ow (acc.map .int),.sh (.int k)]=.ok .nx [.sh (.int (c / 1000000)),s1,.sh (.int b),.ow ((acc ++ [c % 1000000]).map .int),.sh (.int k)]:=by
    simp[iT,h0,hl0]
   rw[e]
   obtain⟨a,b',d,q1,q2⟩:=ZD b s1 ks (acc ++ [c % 1000000]) (c / 1000000) (.sh (.int k)) (by simp at hl ⊢;omega) (λx hx=>hk x (List.mem_cons_of_mem _ hx))
   exact⟨a,b',d,q1,by simp at q2 ⊢;omega⟩
  ·obtain⟨m,e1,_⟩:=Z03 c k (by omega) (by omega)
   obtain⟨m2,e2,_⟩:=Z03 (m+c) k (by omega) (by omega)
   have e:iT [.sh (.int c),s1,.sh (.int b),.ow (acc.map .int),.sh (.int k)]=.ok .nx [.sh (.int c),s1,.sh (.int b),.ow ((acc ++ [m2]).map .int),.sh (.int k)]:=by
    simp[iT,h0,hl0,e1,e2]
   rw[e]
   obtain⟨a,b',d,q1,q2⟩:=ZD b s1 ks (acc ++ [m2]) c (.sh (.int k)) (by simp at hl ⊢;omega) (λx hx=>hk x (List.mem_cons_of_mem _ hx))
   exact⟨a,b',d,q1,by simp at q2 ⊢;omega⟩
def Z1c(c:Int){n:Nat}(hn:n<=1000):∃xs:List Int,yO [.sh (.int c),.sh (.int n)]=.ret (.ow (xs.map .int))/\xs.length=n:=by
 have rr:=ZO hn
 obtain⟨B,hB⟩:∃B:Int,B=10 ^ 60:=⟨_,rfl⟩
 have p0:Ż (.int 10) (.int 60)=some (.int B):=by rw[hB];rfl
 have b1:Ņ B B=true:=by rw[hB];decide +kernel
 have b2:Ņ (B*B) B=true:=by rw[hB];decide +kernel
 have b3:¬(B*B*B=0):=by rw[hB];decide +kernel
 obtain⟨c2,hc2⟩:∃c2,Ğ (.int (c / 2)) (.int (B*B*B))=some (.int c2):=⟨_,by rw[xV,if_pos (by simp[tY,b3])]⟩
 have m2:Ğ (.int c) (.int 2)=some (.int (c % 2)):=by simp
 obtain⟨a,b,d,q1,q2⟩:=ZD (c % 2) (.sh (.int n)) (List.range n) [] c2 .no (by simp;omega) (λk hk=>by have:=List.mem_range.mp hk;omega)
 refine⟨a,?_,by simpa using q2⟩
 rw[List.map_nil] at q1
 simp[yO,FQ,List.replicate,rr,q1,p0,b1,b2,hc2,m2,-xV,-Ji]
abbrev P3:=Int×Int×Int
def c3(p:P3):PV:=.tup [.int p.1,.int p.2.1,.int p.2.2]
def Pa(s:P.Slot)(ps:List PV):Prop:=s=.sh (.lst ps)\/s=.bw ps
def ŭ(x:Int):Bool:=decide (-1000000000<=x/\x<=1000000000)
def Kp(x:Int):Bool:=decide (1<=x/\x<=1000000000)
def zm(x:Int):Bool:=decide (0<=x/\x<=1000000000)
def ZE(x:Int):ju [.sh (.int x)]=.ret (.sh (.bl (ŭ x))):=by
 unfold ŭ
 by_cases h1: -1000000000<=x<;>by_cases h2:x<=1000000000<;>simp[ju,FT,List.replicate,h1,h2]
def ZT(x:Int):uO [.sh (.int x)]=.ret (.sh (.bl (Kp x))):=by
 unfold Kp
 by_cases h1:1<=x<;>by_cases h2:x<=1000000000<;>simp[uO,FW,List.replicate,h1,h2]
def Zk:List Int->Bool
 | [p,q,h]=>ŭ p && ŭ q && Kp h
 |_=>false
def Zi:List Int->Bool
 | [x,y,u,v,h]=>ŭ x && ŭ y && ŭ u && ŭ v && Kp h
 |_=>false
def Zc:List Int->Bool
 | [x,y,u,v,h]=>Zi [x,y,u,v,h] && !(decide (x=u) && decide (y=v))
 |_=>false
def Z8:List Int->Bool
 | [x,y,u,v,h]=>Zi [x,y,u,v,h] && decide (x<u) && decide (y<v)
 |_=>false
def Zd:List Int->Bool
 | [a,b,c,d,e,f,g,h,i]=>ŭ a && ŭ b && zm c && (ŭ d && ŭ e && zm f) && (ŭ g && ŭ h && zm i)
 |_=>false
def Z1d(a b c:Bool):ud [.lst [.bl a,.bl b,.bl c]]=some (.bl (a && b && c)):=by cases a<;>cases b<;>cases c<;>rfl
def Z1e(a b c d:Bool):ud [.lst [.bl a,.bl b,.bl c,.bl d]]=some (.bl (a && b && c && d)):=by cases a<;>cases b<;>cases c<;>cases d<;>rfl
def Z02{xs:List Int}{sl:P.Slot}(hs:Pa sl (xs.map .int)):uP [sl]=.ret (.sh (.bl (Zk xs))):=by
 by_cases hl:xs.length=3
 ·match xs,hl with
  | [a,b,c],_=>
    have h:Zk [a,b,c]=(ŭ a && ŭ b && Kp c):=rfl
    rw[h]
    rcases hs with rfl|rfl<;>cases ea:ŭ a<;>cases eb:ŭ b<;>cases ec:Kp c<;>simp[uP,wI,List.replicate,ZE,ZT,ea,eb,ec]
 ·have h:Zk xs=false:=by
   unfold Zk
   split
   ·simp at hl
   ·rfl
  rw[h]
  have hl':¬((xs.length:Nat):Int)=3:=by omega
  rcases hs with rfl|rfl<;>simp[uP,wI,List.replicate,hl']
def Z0g{xs:List Int}{sl:P.Slot}(hs:Pa sl (xs.map .int)):Ar [sl]=.ret (.sh (.bl (Zi xs))):=by
 by_cases hl:xs.length=5
 ·match xs,hl with
  | [a,b,c,d,e],_=>
    have h:Zi [a,b,c,d,e]=(ŭ a && ŭ b && ŭ c && ŭ d && Kp e):=rfl
    rw[h]
    have hc:lO ([.int a,.int b,.int c,.int d,.int e]:List PV) none (some 4)=[.int a,.int b,.int c,.int d]:=rfl
    have hb:=Z1e (ŭ a) (ŭ b) (ŭ c) (ŭ d)
    rcases hs with rfl|rfl<;>cases ea:(ŭ a && ŭ b && ŭ c && ŭ d)<;>cases ec:Kp e<;>rw[ea] at hb<;>simp[Ar,FZ,List.replicate,ZE,ZT,hc,Ŝ,hb,ec]
 ·have h:Zi xs=false:=by
   unfold Zi
   split
   ·simp at hl
   ·rfl
  rw[h]
  have hl':¬((xs.length:Nat):Int)=5:=by omega
  rcases hs with rfl|rfl<;>simp[Ar,FZ,List.replicate,hl']
def Z1f(a b c d:Int):gk (.lst [.int a,.int b]) (.lst [.int c,.int d])=some (.bl (!(decide (a=c) && decide (b=d)))):=by
 have h:eqB (.lst [.int a,.int b]) (.lst [.int c,.int d])=(decide (a=c) && decide (b=d)):=by
  simp[eqB,qJ]
  rw[Bool.eq_iff_iff]
  simp
 unfold gk zV
 rw[h]
 simp[ao,lK,dep,zU]
def Z0X{xs:List Int}(hl:¬xs.length=5):Zi xs=false:=by
 unfold Zi
 split
 ·simp at hl
 ·rfl
def Z0q{s:P.Slot}{ps:List PV}(h:Pa s ps):b_ s=some s:=by rcases h with rfl|rfl<;>rfl
def Z0D{xs:List Int}{sl:P.Slot}(hs:Pa sl (xs.map .int)):Gb [sl]=.ret (.sh (.bl (Zc xs))):=by
 have he:=Z0g hs
 by_cases hl:xs.length=5
 ·match xs,hl with
  | [a,b,c,d,e],_=>
    have h:Zc [a,b,c,d,e]=(Zi [a,b,c,d,e] && !(decide (a=c) && decide (b=d))):=rfl
    rw[h]
    have h1:lO ([.int a,.int b,.int c,.int d,.int e]:List PV) none (some 2)=[.int a,.int b]:=rfl
    have h2:lO ([.int a,.int b,.int c,.int d,.int e]:List PV) (some 2) (some 4)=[.int c,.int d]:=rfl
    have h3:=Z1f a b c d
    generalize Zi [a,b,c,d,e]=q at *
    generalize (!(decide (a=c) && decide (b=d)))=r at *
    rcases hs with rfl|rfl<;>cases q<;>simp_all [Gb,Ga,List.replicate]
 ·have h:Zc xs=false:=by
   unfold Zc
   split
   ·simp at hl
   ·rfl
  rw[h]
  rw[Z0X hl] at he
  simp[Gb,Ga,List.replicate,Z0q hs,he]
def Z11{xs:List Int}{sl:P.Slot}(hs:Pa sl (xs.map .int)):Av [sl]=.ret (.sh (.bl (Z8 xs))):=by
 have he:=Z0g hs
 by_cases hl:xs.length=5
 ·match xs,hl with
  | [a,b,c,d,e],_=>
    have h:Z8 [a,b,c,d,e]=(Zi [a,b,c,d,e] && decide (a<c) && decide (b<d)):=rfl
    rw[h]
    generalize Zi [a,b,c,d,e]=q at *
    rcases hs with rfl|rfl<;>simp only[List.map_cons,List.map_nil] at he<;>cases q<;>by_cases h1:a<c<;>by_cases h2:b<d<;>simp[Av,Gd,List.replicate,he,h1,h2]
 ·have h:Z8 xs=false:=by
   unfold Z8
   split
   ·simp at hl
   ·rfl
  rw[h]
  rw[Z0X hl] at he
  simp[Av,Gd,List.replicate,Z0q hs,he]
def Zx(a b c:Int):Kc [.sh (.lst [.int a,.int b,.int c])]=.ret (.sh (.bl (ŭ a && ŭ b && zm c))):=by
 unfold zm
 cases ea:ŭ a<;>cases eb:ŭ b<;>by_cases h1:0<=c<;>by_cases h2:c<=1000000000<;>simp[Kc,MN,List.replicate,ZE,ea,eb,h1,h2]
def Z0E{xs:List Int}{sl:P.Slot}(hs:Pa sl (xs.map .int)):Gf [sl]=.ret (.sh (.bl (Zd xs))):=by
 by_cases hl:xs.length=9
 ·match xs,hl with
  | [a,b,c,d,e,f,g,h,i],_=>
    have hc:Zd [a,b,c,d,e,f,g,h,i]=((ŭ a && ŭ b && zm c) && (ŭ d && ŭ e && zm f) && (ŭ g && ŭ h && zm i)):=rfl
    rw[hc]
    have h1:lO ([.int a,.int b,.int c,.int d,.int e,.int f,.int g,.int h,.int i]:List PV) (some 0) (some 3)=[.int a,.int b,.int c]:=rfl
    have h2:lO ([.int a,.int b,.int c,.int d,.int e,.int f,.int g,.int h,.int i]:List PV) (some 3) (some 6)=[.int d,.int e,.int f]:=rfl
    have h3:lO ([.int a,.int b,.int c,.int d,.int e,.int f,.int g,.int h,.int i]:List PV) (some 6) (some 9)=[.int g,.int h,.int i]:=rfl
    have hb:=Z1d (ŭ a && ŭ b && zm c) (ŭ d && ŭ e && zm f) (ŭ g && ŭ h && zm i)
    have k1:=Zx a b c
    have k2:=Zx d e f
    have k3:=Zx g h i
    generalize (ŭ a && ŭ b && zm c)=q1 at *
    generalize (ŭ d && ŭ e && zm f)=q2 at *
    generalize (ŭ g && ŭ h && zm i)=q3 at *
    rcases hs with rfl|rfl<;>simp[Gf,Ge,List.replicate,Ŝ,h1,h2,h3,k1,k2,k3,hb]
 ·have h:Zd xs=false:=by
   unfold Zd
   split
   ·simp at hl
   ·rfl
  rw[h]
  have hl':¬((xs.length:Nat):Int)=9:=by omega
  rcases hs with rfl|rfl<;>simp[Gf,Ge,List.replicate,hl']
def Z0r(w:Str):String:=if w= "post" then "Post" else if w= "fence" then "Fence" else if w= "sail" then "Sail" else if w= "cloth" then "Cloth" else "House"
def Z04(C:String)(w:Str)(xs:List Int):PV:=.ins C ["word","numbers"] [.str w,.lst (xs.map .int)]
def ZL(w:Str)(xs:List Int):Bool:=if w= "post" then Zk xs else if w= "fence" then Zc xs else if w= "sail" then Z8 xs else if w= "cloth" then Zd xs else if w= "house" then Z8 xs else false
def wn:((Str.ofString "word")=(Str.ofString "numbers"))=False:=eq_false (by decide +kernel)
def Zr{C:String}(hC:(["Thing","Post","Fence","Sail","Cloth","House"]:List String).contains C=true)(w:Str){xs:List Int}{sl:P.Slot}(hs:Pa sl (xs.map .int)):aL 3 3 C cB [.sh (.str w),sl]=.ok ["word","numbers"] [.str w,.lst (xs.map .int)]:=by
 rcases hs with rfl|rfl<;>simp[aL,cB,dX,IR.of,List.replicate,putN,vV,hC,wn,-List.contains_eq_mem,-List.contains_cons]
def s1:PyData.strOk (Str.ofString "post")=true:=by decide +kernel
def s2:PyData.strOk (Str.ofString "fence")=true:=by decide +kernel
def s3:PyData.strOk (Str.ofString "sail")=true:=by decide +kernel
def s4:PyData.strOk (Str.ofString "cloth")=true:=by decide +kernel
def s5:PyData.strOk (Str.ofString "house")=true:=by decide +kernel
def d12:(Str.ofString "post" =Str.ofString "fence")=False:=eq_false (by decide +kernel)
def d13:(Str.ofString "post" =Str.ofString "sail")=False:=eq_false (by decide +kernel)
def d14:(Str.ofString "post" =Str.ofString "cloth")=False:=eq_false (by decide +kernel)
def d15:(Str.ofString "post" =Str.ofString "house")=False:=eq_false (by decide +kernel)
def d23:(Str.ofString "fence" =Str.ofString "sail")=False:=eq_false (by decide +kernel)
def d24:(Str.ofString "fence" =Str.ofString "cloth")=False:=eq_false (by decide +kernel)
def d25:(Str.ofString "fence" =Str.ofString "house")=False:=eq_false (by decide +kernel)
def d31:(Str.ofString "sail" =Str.ofString "post")=False:=eq_false (by decide +kernel)
def d32:(Str.ofString "sail" =Str.ofString "fence")=False:=eq_false (by decide +kernel)
def d34:(Str.ofString "sail" =Str.ofString "cloth")=False:=eq_false (by decide +kernel)
def d35:(Str.ofString "sail" =Str.ofString "house")=False:=eq_false (by decide +kernel)
def d45:(Str.ofString "cloth" =Str.ofString "house")=False:=eq_false (by decide +kernel)
def d51:(Str.ofString "house" =Str.ofString "post")=False:=eq_false (by decide +kernel)
def d52:(Str.ofString "house" =Str.ofString "fence")=False:=eq_false (by decide +kernel)
def d53:(Str.ofString "house" =Str.ofString "sail")=False:=eq_false (by decide +kernel)
def d54:(Str.ofString "house" =Str.ofString "cloth")=False:=eq_false (by decide +kernel)
def Z0F{w:Str}(hw:PyData.strOk w=true){xs:List Int}{sl:P.Slot}(hs:Pa sl (xs.map .int)):eE [.sh (.str w),sl]=if ZL w xs=true then .ret (.sh (Z04 (Z0r w) w xs)) else .bad:=by
 have e1:=œ hw s1
 have e2:=œ hw s2
 have e3:=œ hw s3
 have e4:=œ hw s4
 have e5:=œ hw s5
 have p1:=Z02 hs
 have p2:=Z0D hs
 have p3:=Z11 hs
 have p4:=Z0E hs
 have i1:qX [.sh (.str w),sl]=_:=Zr (by decide) w hs
 have i2:mX [.sh (.str w),sl]=_:=Zr (by decide) w hs
 have i3:qY [.sh (.str w),sl]=_:=Zr (by decide) w hs
 have i4:mY [.sh (.str w),sl]=_:=Zr (by decide) w hs
 have i5:mZ [.sh (.str w),sl]=_:=Zr (by decide) w hs
 have hle:=Z0q hs
 unfold ZL Z0r Z04
 by_cases h1:w=Str.ofString "post"
 ·have n2:¬w=Str.ofString "fence" := λz=>(d12▸(h1.symm.trans z):False)
  have n3:¬w=Str.ofString "sail" := λz=>(d13▸(h1.symm.trans z):False)
  have n4:¬w=Str.ofString "cloth" := λz=>(d14▸(h1.symm.trans z):False)
  have n5:¬w=Str.ofString "house" := λz=>(d15▸(h1.symm.trans z):False)
  rw[decide_eq_true h1] at e1
  rw[decide_eq_false n2] at e2
  rw[decide_eq_false n3] at e3
  rw[decide_eq_false n4] at e4
  rw[decide_eq_false n5] at e5
  have hg:(if w=Str.ofString "post" then Zk xs else if w=Str.ofString "fence" then Zc xs else if w=Str.ofString "sail" then Z8 xs else if w=Str.ofString "cloth" then Zd xs else if w=Str.ofString "house" then Z8 xs else false)=Zk xs:=by rw[if_pos h1]
  have hc:(if w=Str.ofString "post" then "Post" else if w=Str.ofString "fence" then "Fence" else if w=Str.ofString "sail" then "Sail" else if w=Str.ofString "cloth" then "Cloth" else "House")= "Post" := by rw[if_pos h1]
  rw[hg,hc]
  cases q:Zk xs<;>rw[q] at p1<;>simp[eE,fB,aM,List.replicate,e1,e2,e3,e4,e5,hle,p1,i1]
 ·skip
  by_cases h2:w=Str.ofString "fence"
  ·have n1:=h1
   have n3:¬w=Str.ofString "sail" := λz=>(d23▸(h2.symm.trans z):False)
   have n4:¬w=Str.ofString "cloth" := λz=>(d24▸(h2.symm.trans z):False)
   have n5:¬w=Str.ofString "house" := λz=>(d25▸(h2.symm.trans z):False)
   rw[decide_eq_true h2] at e2
   rw[decide_eq_false n1] at e1
   rw[decide_eq_false n3] at e3
   rw[decide_eq_false n4] at e4
   rw[decide_eq_false n5] at e5
   have hg:(if w=Str.ofString "post" then Zk xs else if w=Str.ofString "fence" then Zc xs else if w=Str.ofString "sail" then Z8 xs else if w=Str.ofString "cloth" then Zd xs else if w=Str.ofString "house" then Z8 xs else false)=Zc xs:=by rw[if_neg n1,if_pos h2]
   have hc:(if w=Str.ofString "post" then "Post" else if w=Str.ofString "fence" then "Fence" else if w=Str.ofString "sail" then "Sail" else if w=Str.ofString "cloth" then "Cloth" else "House")= "Fence" := by rw[if_neg n1,if_pos h2]
   rw[hg,hc]
   cases q:Zc xs<;>rw[q] at p2<;>simp[eE,fB,aM,List.replicate,e1,e2,e3,e4,e5,hle,p2,i2]
  ·skip
   by_cases h3:w=Str.ofString "sail"
   ·have n1:=h1
    have n2:=h2
    have n4:¬w=Str.ofString "cloth" := λz=>(d34▸(h3.symm.trans z):False)
    have n5:¬w=Str.ofString "house" := λz=>(d35▸(h3.symm.trans z):False)
    rw[decide_eq_true h3] at e3
    rw[decide_eq_false n1] at e1
    rw[decide_eq_false n2] at e2
    rw[decide_eq_false n4] at e4
    rw[decide_eq_false n5] at e5
    have hg:(if w=Str.ofString "post" then Zk xs else if w=Str.ofString "fence" then Zc xs else if w=Str.ofString "sail" then Z8 xs else if w=Str.ofString "cloth" then Zd xs else if w=Str.ofString "house" then Z8 xs else false)=Z8 xs:=by rw[if_neg n1,if_neg n2,if_pos h3]
    have hc:(if w=Str.ofString "post" then "Post" else if w=Str.ofString "fence" then "Fence" else if w=Str.ofString "sail" then "Sail" else if w=Str.ofString "cloth" then "Cloth" else "House")= "Sail" := by rw[if_neg n1,if_neg n2,if_pos h3]
    rw[hg,hc]
    cases q:Z8 xs<;>rw[q] at p3<;>simp[eE,fB,aM,List.replicate,e1,e2,e3,e4,e5,hle,p3,i3]
   ·skip
    by_cases h4:w=Str.ofString "cloth"
    ·have n1:=h1
     have n2:=h2
     have n3:=h3
     have n5:¬w=Str.ofString "house" := λz=>(d45▸(h4.symm.trans z):False)
     rw[decide_eq_true h4] at e4
     rw[decide_eq_false n1] at e1
     rw[decide_eq_false n2] at e2
     rw[decide_eq_false n3] at e3
     rw[decide_eq_false n5] at e5
     have hg:(if w=Str.ofString "post" then Zk xs else if w=Str.ofString "fence" then Zc xs else if w=Str.ofString "sail" then Z8 xs else if w=Str.ofString "cloth" then Zd xs else if w=Str.ofString "house" then Z8 xs else false)=Zd xs:=by rw[if_neg n1,if_neg n2,if_neg n3,if_pos h4]
     have hc:(if w=Str.ofString "post" then "Post" else if w=Str.ofString "fence" then "Fence" else if w=Str.ofString "sail" then "Sail" else if w=Str.ofString "cloth" then "Cloth" else "House")= "Cloth" := by rw[if_neg n1,if_neg n2,if_neg n3,if_pos h4]
     rw[hg,hc]
     cases q:Zd xs<;>rw[q] at p4<;>simp[eE,fB,aM,List.replicate,e1,e2,e3,e4,e5,hle,p4,i4]
    ·skip
     by_cases h5:w=Str.ofString "house"
     ·have n1:=h1
      have n2:=h2
      have n3:=h3
      have n4:=h4
      rw[decide_eq_true h5] at e5
      rw[decide_eq_false n1] at e1
      rw[decide_eq_false n2] at e2
      rw[decide_eq_false n3] at e3
      rw[decide_eq_false n4] at e4
      have hg:(if w=Str.ofString "post" then Zk xs else if w=Str.ofString "fence" then Zc xs else if w=Str.ofString "sail" then Z8 xs else if w=Str.ofString "cloth" then Zd xs else if w=Str.ofString "house" then Z8 xs else false)=Z8 xs:=by rw[if_neg n1,if_neg n2,if_neg n3,if_neg n4,if_pos h5]
      have hc:(if w=Str.ofString "post" then "Post" else if w=Str.ofString "fence" then "Fence" else if w=Str.ofString "sail" then "Sail" else if w=Str.ofString "cloth" then "Cloth" else "House")= "House" := by rw[if_neg n1,if_neg n2,if_neg n3,if_neg n4]
      rw[hg,hc]
      cases q:Z8 xs<;>rw[q] at p3<;>simp[eE,fB,aM,List.replicate,e1,e2,e3,e4,e5,hle,p3,i5]
     ·skip
      rw[decide_eq_false h1] at e1
      rw[decide_eq_false h2] at e2
      rw[decide_eq_false h3] at e3
      rw[decide_eq_false h4] at e4
      rw[decide_eq_false h5] at e5
      rw[if_neg h1,if_neg h2,if_neg h3,if_neg h4,if_neg h5]
      simp[eE,fB,aM,List.replicate,e1,e2,e3,e4,e5]
abbrev Th:=Str×List Int
def qd(t:Th):PV:=Z04 (Z0r t.1) t.1 t.2
def cI:Option P3->PV
 |none=>.non
 |some r=>c3 r
abbrev Dy:=Str×Int×List (Option P3)
def Ł(d:Dy):PV:=.tup [.str d.1,.int d.2.1,.lst (d.2.2.map cI)]
def Z0(w h:Int)(T:List Th)(D:List Dy):PV:=.ins "Yard" ["width","height","things","days"] [.int w,.int h,.lst (T.map qd),.lst (D.map Ł)]
def ywh:(Str.ofString "width" =Str.ofString "height")=False:=eq_false (by decide +kernel)
def ywt:(Str.ofString "width" =Str.ofString "things")=False:=eq_false (by decide +kernel)
def ywd:(Str.ofString "width" =Str.ofString "days")=False:=eq_false (by decide +kernel)
def yht:(Str.ofString "height" =Str.ofString "things")=False:=eq_false (by decide +kernel)
def yhd:(Str.ofString "height" =Str.ofString "days")=False:=eq_false (by decide +kernel)
def ytd:(Str.ofString "things" =Str.ofString "days")=False:=eq_false (by decide +kernel)
def y_w(w h:Int)(T:List Th)(D:List Dy):gw ["Yard"] (Str.ofString "width") (Z0 w h T D)=some (.int w):=by
 unfold gw Z0
 simp
def y_h(w h:Int)(T:List Th)(D:List Dy):gw ["Yard"] (Str.ofString "height") (Z0 w h T D)=some (.int h):=by
 have:(Str.ofString "height" == Str.ofString "width")=false:=by decide +kernel
 unfold gw Z0
 simp[List.lookup_cons,this]
def y_d(w h:Int)(T:List Th)(D:List Dy):gw ["Yard"] (Str.ofString "days") (Z0 w h T D)=some (.lst (D.map Ł)):=by
 have e1:(Str.ofString "days" == Str.ofString "width")=false:=by decide +kernel
 have e2:(Str.ofString "days" == Str.ofString "height")=false:=by decide +kernel
 have e3:(Str.ofString "days" == Str.ofString "things")=false:=by decide +kernel
 unfold gw Z0
 simp[List.lookup_cons,e1,e2,e3]
def ZU(D:List Dy)(hD:D.length<=100000)(s0 s1 s2:P.Slot):Ŝ (gT 3 (Č (gN 0) (Č (gN 1) (Č (gN 2) ń)))) bV (Ŕ (Ą (Ė 0) (Ą (Ė 1) (Ą (ē (qG dW (Ą (Ā 2) ĕ))) ĕ)))) (D.map Ł) [s0,s1,s2] []=some (D.map Ł):=by
 have h:=bD (g:=gT 3 (Č (gN 0) (Č (gN 1) (Č (gN 2) ń)))) (mt:=bV) (me:=Ŕ (Ą (Ė 0) (Ą (Ė 1) (Ą (ē (qG dW (Ą (Ā 2) ĕ))) ĕ)))) Ł Ł (λρ=>∃a b c,ρ=[a,b,c]) D [s0,s1,s2] [] ⟨_,_,_,rfl⟩ (by simp;omega) (by
  rintro d _ ρ ⟨a,b,c,rfl⟩
  refine⟨[.sh (.str d.1),.sh (.int d.2.1),.sh (.lst (d.2.2.map cI))],[.sh (.str d.1),.sh (.int d.2.1),.sh (.lst (d.2.2.map cI))],[.sh (.str d.1),.sh (.int d.2.1),.sh (.lst (d.2.2.map cI))],by simp[Ł],rfl,by simp[Ł],_,_,_,rfl⟩)
 simpa using h
def Z12(w h:Int){T:List Th}{D:List Dy}(hT:T.length<=100000)(hD:D.length<=100000){s3 s4:P.Slot}(h3:Sl s3 (T.map qd))(h4:Sl s4 (D.map Ł)):kO [.sh (.int w),.sh (.int h),s3,s4]=.ok ["width","height","things","days"] [.int w,.int h,.lst (T.map qd),.lst (D.map Ł)]:=by
 have c:=ZU D hD .no .no .no
 generalize hx:T.map qd=tx at *
 generalize hy:D.map Ł=dx at *
 rcases h3 with rfl|rfl<;>rcases h4 with rfl|rfl<;>simp[kO,aL,Gh,dX,IR.of,List.replicate,putN,vV,ywh,ywt,ywd,yht,yhd,ytd,c]
def Z0s{w h:Int}{T:List Th}{D:List Dy}{i:Nat}(hi:i<D.length):uQ [.sh (Z0 w h T D),.sh (.int i)]=.ret (.sh (.lst (D[i].2.2.map cI))):=by
 have yd:=y_d w h T D
 have hx:(D.map Ł)[i]?=some (Ł D[i]):=by simp[hi]
 generalize Z0 w h T D=Yv at *
 generalize D.map Ł=DV at *
 simp[uQ,Gi,List.replicate,yd,hx]
 simp[Ł]
def Z0G(c:Int):∃W H:Int,uM [.sh (.int c)]=.ret (.sh (.tup [.int W,.int H]))/\1<=W/\W<=20/\1<=H/\H<=20:=by
 by_cases h:c % 1000000000000 % 6=5
 ·refine⟨1+c % 1000000000000 / 6 % 20,1+c % 1000000000000 / 120 % 20,?_,by omega,by omega,by omega,by omega⟩
  simp[uM,wG,List.replicate,h,-Int.emod_emod_of_dvd]
 ·refine⟨1+c % 1000000000000 / 6 % 6,1+c % 1000000000000 / 36 % 6,?_,by omega,by omega,by omega,by omega⟩
  simp[uM,wG,List.replicate,h,-Int.emod_emod_of_dvd]
def RG(r:P3):Prop:=-1000000<=r.1/\r.1<=1000000/\ -1000000<=r.2.1/\r.2.1<=1000000/\1<=r.2.2/\r.2.2<=1000000
def OG(o:Option P3):Prop:=∀r,o=some r->RG r
def Z13{n a b c:Int}{t:Nat}(ht:t<=24)(ha: -2<=a/\a<=2)(hb: -2<=b/\b<=2)(hc:1<=c/\c<=3):∃o,dZ [.sh (.int n),.sh (.int t),.sh (.tup [.int a,.int b,.int c])]=.ret (.sh (cI o))/\OG o:=by
 by_cases h1:n % 7=6
 ·refine⟨none,?_,by intro r h;cases h⟩
  simp[dZ,qW,List.replicate,h1,cI]
 ·by_cases h2:n % 5<3
  ·have mc:∀x,Ņ (2*c) x=true:=λx=>cj (by omega) (by omega)
   refine⟨some (2*c*t+a,b+2*c*(n / 35 % 9 / 8),c),?_,?_⟩
   ·simp[dZ,qW,List.replicate,h1,h2,cI,c3,mc]
   ·intro r h
    cases h
    have:c=1\/c=2\/c=3:=by omega
    unfold RG
    rcases this with rfl|rfl|rfl<;>dsimp only<;>omega
  ·have key:∀B:Int,(B=1∨B=100000)→ė (.lst [.int 1,.int 1,.int 100000]) (.int (n / 35 % 3))=some (.int B)→∃o,dZ [.sh (.int n),.sh (.int t),.sh (.tup [.int a,.int b,.int c])]=.ret (.sh (cI o))∧OG o:=by
    intro B hB hi
    have mB:∀x,Ņ B x=true:=λx=>cj (by omega) (by omega)
    refine⟨some (B*(n / 105 % 9-4),B*(n / 945 % 9-4),B*(1+n / 8505 % 2)),?_,?_⟩
    ·simp[dZ,qW,List.replicate,h1,h2,cI,c3,mB,hi,-Dr]
    ·intro r h
     cases h
     unfold RG
     rcases hB with rfl|rfl<;>dsimp only<;>omega
   have h3:n / 35 % 3=0\/n / 35 % 3=1\/n / 35 % 3=2:=by omega
   rcases h3 with e|e|e
   ·exact key 1 (.inl rfl) (by rw[e];rfl)
   ·exact key 1 (.inl rfl) (by rw[e];rfl)
   ·exact key 100000 (.inr rfl) (by rw[e];rfl)
def nmV(k:Nat):Str:=Str.ofString ((["a","b","c","d","e","f","g","h","i","j","k","l"]:List String).getD k "")
def Z14{k:Nat}(hk:k<12):ė (.str "abcdefghijkl") (.int (k:Int))=some (.str (nmV k)):=by
 have:k=0\/k=1\/k=2\/k=3\/k=4\/k=5\/k=6\/k=7\/k=8\/k=9\/k=10\/k=11:=by omega
 rcases this with rfl|rfl|rfl|rfl|rfl|rfl|rfl|rfl|rfl|rfl|rfl|rfl<;>rfl
def Z15{k:Nat}(hk:k<12){m:Int}(h0:0<=m)(h3:m<=3):∃s u:Str,Ģ (.str "ab") (.int m)=some (.str s)/\ġ (.str (nmV k)) (.str s)=some (.sh (.str u)):=by
 have hm:m=0\/m=1\/m=2\/m=3:=by omega
 have h1:(nmV k).length<=1:=by
  have:k=0\/k=1\/k=2\/k=3\/k=4\/k=5\/k=6\/k=7\/k=8\/k=9\/k=10\/k=11:=by omega
  rcases this with rfl|rfl|rfl|rfl|rfl|rfl|rfl|rfl|rfl|rfl|rfl|rfl<;>decide +kernel
 have key:∀s:Str,s.length<=6->∃u:Str,ġ (.str (nmV k)) (.str s)=some (.sh (.str u)):=λs hs=>⟨_,if_pos (by omega)⟩
 have z:∀m:Int,(m=0\/m=1\/m=2\/m=3)->∃s:Str,Ģ (.str "ab") (.int m)=some (.str s)/\s.length<=6:=by
  intro m hm
  rcases hm with rfl|rfl|rfl|rfl
  ·exact⟨_,rfl,by decide +kernel⟩
  ·exact⟨_,rfl,by decide +kernel⟩
  ·exact⟨_,rfl,by decide +kernel⟩
  ·exact⟨_,rfl,by decide +kernel⟩
 obtain⟨s,e1,e2⟩:=z m hm
 obtain⟨u,e3⟩:=key s e2
 exact⟨s,u,e1,e3⟩
def Ba(d:Dy):Prop:=d.2.2.length<=24/\∀o∈d.2.2,OG o
def Z0t{xs:List Int}{a b c:Int}{m:Nat}(hx:xs.length=m)(hm:m<=24)(ha: -2<=a/\a<=2)(hb: -2<=b/\b<=2)(hc:1<=c/\c<=3):∃os:List (Option P3),os.length=m/\(∀o∈os,OG o)/\
 ∀s:P.Slot,Ŝ (gN 2) bV (ē (Ĝ dZ (Ī (ă ė (Ā 1) (Ā 2)) (ĉ 2 (ĉ 0 Ę))))) ((List.range m).map λ(i:Nat)=>PV.int (i:Int)) [.sh (.tup [.int a,.int b,.int c]),.bw (xs.map .int),s] []=some (os.map cI):=by
 have h:∀k:Nat,∃o,(k<m->dZ [.sh (.int (xs.getD k 0)),.sh (.int k),.sh (.tup [.int a,.int b,.int c])]=.ret (.sh (cI o)))/\OG o:=by
  intro k
  by_cases hk:k<=24
  ·obtain⟨o,h1,h2⟩:=Z13 (n:=xs.getD k 0) hk ha hb hc
   exact⟨o,λ_=>h1,h2⟩
  ·exact⟨none,λz=>absurd z (by omega),by intro r h;cases h⟩
 obtain⟨f,hf⟩:=Classical.skolem.mp h
 refine⟨(List.range m).map f,by simp,?_,λs=>?_⟩
 ·intro o ho
  obtain⟨k,_,rfl⟩:=List.mem_map.mp ho
  exact(hf k).2
 ·have:=bD (g:=gN 2) (mt:=bV) (me:=ē (Ĝ dZ (Ī (ă ė (Ā 1) (Ā 2)) (ĉ 2 (ĉ 0 Ę))))) (fun(i:Nat)=>PV.int (i:Int)) (fun k=>cI (f k)) (fun ρ=>∃s,ρ=[.sh (.tup [.int a,.int b,.int c]),.bw (xs.map .int),s]) (List.range m) [.sh (.tup [.int a,.int b,.int c]),.bw (xs.map .int),s] [] ⟨_,rfl⟩ (by simp;omega) (by
   rintro k hk ρ ⟨s,rfl⟩
   have hk:=List.mem_range.mp hk
   have e:=(hf k).1 hk
   have hx':(xs.map PV.int)[k]?=some (.int (xs.getD k 0)):=by
    have:k<xs.length:=by omega
    simp[this]
   generalize xs.getD k 0=x at *
   generalize xs.map PV.int=X at *
   refine⟨[.sh (.tup [.int a,.int b,.int c]),.bw X,.sh (.int k)],[.sh (.tup [.int a,.int b,.int c]),.bw X,.sh (.int k)],[.sh (.tup [.int a,.int b,.int c]),.bw X,.sh (.int k)],by simp,by simp,?_,_,rfl⟩
   simp[hx',e])
  rw[this,List.nil_append,List.map_map]
  rfl
def Z0u(ns:List Int)(A k:Nat)(hk:k<12)(f lg:Int)(Vm:lg=0\/lg=1)(s2:P.Slot)(acc:List Dy)(hl:acc.length<=100)(s7 s8 s9 aD Bd s12:P.Slot):∃(d:Dy) (Hh Bb Bc nP Hi Hj:P.Slot),Ba d/\iU [.sh (.lst (ns.map .int)),.sh (.int (A:Nat)),s2,.sh (.int f),.ow (acc.map Ł),.sh (.int lg),.sh (.int k),s7,s8,s9,aD,Bd,s12]=.ok .nx [.sh (.lst (ns.map .int)),.sh (.int (A:Nat)),s2,.sh (.int f),.ow ((acc ++ [d]).map Ł),.sh (.int lg),.sh (.int k),Hh,Bb,Bc,nP,Hi,Hj]:=by
 have hc:=Zm ns (A+1+k)
 rw[Int.natCast_add,Int.natCast_add] at hc
 generalize ns.getD (A+1+k) 0=c at hc
 have hc:ſ [.sh (.lst (ns.map .int)),.sh (.int ((A:Int)+1+(k:Int)))]=.ret (.sh (.int c)):=hc
 have hw:∀sz:Int,1<=sz->sz<=24->(sz=if lg=1 then 1+c % 24 else 1+c % 4+c / 4 % 3*(f / 3 % 4 / 3))->∃(d:Dy) (Hh Bb Bc nP Hi Hj:P.Slot),Ba d/\iU [.sh (.lst (ns.map .int)),.sh (.int (A:Nat)),s2,.sh (.int f),.ow (acc.map Ł),.sh (.int lg),.sh (.int k),s7,s8,s9,aD,Bd,s12]=.ok .nx [.sh (.lst (ns.map .int)),.sh (.int (A:Nat)),s2,.sh (.int f),.ow ((acc ++ [d]).map Ł),.sh (.int lg),.sh (.int k),Hh,Bb,Bc,nP,Hi,Hj]:=by
  intro sz z1 z2 z3
  obtain⟨m,rfl⟩:∃m:Nat,sz=m:=⟨sz.toNat,by omega⟩
  obtain⟨xs,x1,x2⟩:=Z1c (c / 300) (n:=m) (by omega)
  obtain⟨os,o1,o2,o3⟩:=Z0t (xs:=xs) (a:=c / 12 % 5-2) (b:=c / 60 % 5-2) (c:=1+f / 36 % 3) x2 (by omega) (by omega) (by omega) (by omega)
  obtain⟨s,u,u1,u2⟩:=Z15 hk (m:=f / 108 % 4) (by omega) (by omega)
  have ui:=Z14 hk
  have rr:=ZO (n:=m) (by omega)
  have o3:=o3 .no
  have hm:Ņ (c / 4 % 3) (f / 3 % 4 / 3)=true:=cj (by omega) (by omega)
  have hla:(acc.map Ł).length<16777216:=by simp;omega
  refine⟨(u,1+f / 7 % 999999999,os),.sh (.int c),.sh (.tup [.int (c / 12 % 5-2),.int (c / 60 % 5-2),.int (1+f / 36 % 3)]),.sh (.int m),.ow (xs.map .int),.sh (.lst (os.map cI)),.sh (.str u),⟨by dsimp only;omega,o2⟩,?_⟩
  have e2:(acc ++ [((u,1+f / 7 % 999999999,os):Dy)]).map Ł=acc.map Ł ++ [.tup [.str u,.int (1+f / 7 % 999999999),.lst (os.map cI)]]:=by simp[Ł]
  rw[e2]
  clear e2 o1 o2 x2
  generalize (List.range m).map (λ(i:Nat)=>PV.int (i:Int))=RR at *
  generalize os.map cI=OS at *
  generalize acc.map Ł=AC at *
  generalize xs.map PV.int=XS at *
  generalize ns.map PV.int=NS at *
  generalize nmV k=nm at *
  rcases Vm with rfl|rfl
  ·simp at z3
   simp[iU,hc,hm,z3.symm,x1,rr,fY,fX,o3,ui,u1,u2,hla,-Zo]
  ·simp at z3
   simp[iU,hc,hm,z3.symm,x1,rr,fY,fX,o3,ui,u1,u2,hla,-Zo]
 by_cases h1:lg=1
 ·exact hw (1+c % 24) (by omega) (by omega) (by rw[if_pos h1])
 ·refine hw (1+c % 4+c / 4 % 3*(f / 3 % 4 / 3)) ?_ ?_ (by rw[if_neg h1])
  ·have:f / 3 % 4 / 3=0\/f / 3 % 4 / 3=1:=by omega
   rcases this with e|e<;>rw[e]<;>omega
  ·have:f / 3 % 4 / 3=0\/f / 3 % 4 / 3=1:=by omega
   rcases this with e|e<;>rw[e]<;>omega
theorem ZV(ns:List Int)(A:Nat)(f lg:Int)(Vm:lg=0\/lg=1)(s2:P.Slot):∀(ks:List Nat) (acc:List Dy) (s6 s7 s8 s9 aD Bd s12:P.Slot),(∀k∈ks,k<12)->acc.length+ks.length<=100->∃(D:List Dy) (UJ Hh Bb Bc nP Hi Hj:P.Slot),D.length=ks.length/\(∀d∈D,Ba d)/\
 forL (gN 6) iU (ks.map λ(i:Nat)=>PV.int (i:Int)) [.sh (.lst (ns.map .int)),.sh (.int (A:Nat)),s2,.sh (.int f),.ow (acc.map Ł),.sh (.int lg),s6,s7,s8,s9,aD,Bd,s12]=.ok .nx [.sh (.lst (ns.map .int)),.sh (.int (A:Nat)),s2,.sh (.int f),.ow ((acc++D).map Ł),.sh (.int lg),UJ,Hh,Bb,Bc,nP,Hi,Hj]
 | [],acc,s6,s7,s8,s9,aD,Bd,s12,_,_=>⟨[],s6,s7,s8,s9,aD,Bd,s12,rfl,by simp,by simp[forL]⟩
 |k::ks,acc,s6,s7,s8,s9,aD,Bd,s12,hk,hl=>by
  obtain⟨d,a7,a8,a9,a10,a11,a12,hd,e1⟩:=Z0u ns A k (hk k List.mem_cons_self) f lg Vm s2 acc (by simp at hl;omega) s7 s8 s9 aD Bd s12
  obtain⟨D,b6,b7,b8,b9,b10,b11,b12,h1,h2,e2⟩:=ZV ns A f lg Vm s2 ks (acc ++ [d]) (.sh (.int k)) a7 a8 a9 a10 a11 a12 (λx hx=>hk x (List.mem_cons_of_mem _ hx)) (by simp at hl ⊢;omega)
  refine⟨d::D,b6,b7,b8,b9,b10,b11,b12,by simp[h1],?_,?_⟩
  ·intro x hx
   rcases List.mem_cons.mp hx with rfl|hx
   ·exact hd
   ·exact h2 x hx
  ·rw[List.append_assoc] at e2
   rw[List.map_cons,forL]
   have g1:gN 6 (.int (k:Int)) [.sh (.lst (ns.map .int)),.sh (.int (A:Nat)),s2,.sh (.int f),.ow (acc.map Ł),.sh (.int lg),s6,s7,s8,s9,aD,Bd,s12]=some [.sh (.lst (ns.map .int)),.sh (.int (A:Nat)),s2,.sh (.int f),.ow (acc.map Ł),.sh (.int lg),.sh (.int k),s7,s8,s9,aD,Bd,s12]:=rfl
   rw[g1]
   dsimp only
   rw[e1]
   exact e2
def Z16(ns:List Int)(A:Nat):∃D:List Dy,D.length<=12/\(∀d∈D,Ba d)/\gH [.sh (.lst (ns.map .int)),.sh (.int (A:Nat)),.sh (.int 4)]=.ret (.ow (D.map Ł)):=by
 have hc:=Zm ns A
 generalize ns.getD A 0=c at hc
 obtain⟨f,hf⟩:∃f,c % 1000000000000=f:=⟨_,rfl⟩
 by_cases h9:f / 16144 % 16=9
 ·refine⟨[],by simp,by simp,?_⟩
  by_cases h3:f / 1009 % 16=3
  ·simp[gH,mW,List.replicate,hc,hf,h9,h3,qM]
  ·simp[gH,mW,List.replicate,hc,hf,h9,h3,qM]
 ·have key:∀(lg:Int) (m:Int),(lg=0∨lg=1)→(m=4∨m=12)→(m=if lg=1 then 12 else 4)→(lg=if f / 1009 % 16=3 then 1 else 0)→∃D:List Dy,D.length≤12∧(∀d∈D,Ba d)∧gH [.sh (.lst (ns.map .int)),.sh (.int (A:Nat)),.sh (.int 4)]=.ret (.ow (D.map Ł)):=by
   intro lg m Vm hm hi hq
   have hm0:m≠0:=by omega
   have b1:0<=f % m:=Int.emod_nonneg _ hm0
   have b2:f % m<m:=Int.emod_lt_of_pos _ (by omega)
   obtain⟨n,hn⟩:∃n:Nat,1+f % m=n:=⟨(1+f % m).toNat,by omega⟩
   have Zcy:n<=12:=by omega
   obtain⟨D,b6,b7,b8,b9,b10,b11,b12,h1,h2,e⟩:=ZV ns A f lg Vm (.sh (.int 4)) (List.range n) [] .no .no .no .no .no .no .no (by intro k hk;have:=List.mem_range.mp hk;omega) (by simp;omega)
   refine⟨D,by rw[h1];simpa using Zcy,h2,?_⟩
   have rr:=ZO (n:=n) (by omega)
   rw[List.map_nil,List.nil_append] at e
   generalize (List.range n).map (λ(i:Nat)=>PV.int (i:Int))=RR at *
   generalize D.map Ł=DV at *
   generalize ns.map PV.int=NS at *
   by_cases h3:f / 1009 % 16=3
   ·rw[if_pos h3] at hq
    subst hq
    rw[if_pos rfl] at hi
    subst hi
    simp[gH,mW,List.replicate,hc,hf,h9,h3,qM,hn,rr,e,-Zo]
   ·rw[if_neg h3] at hq
    subst hq
    rw[if_neg (by decide)] at hi
    subst hi
    simp[gH,mW,List.replicate,hc,hf,h9,h3,qM,hn,rr,e,-Zo]
  by_cases h3:f / 1009 % 16=3
  ·exact key 1 12 (.inr rfl) (.inr rfl) (by rw[if_pos rfl]) (by rw[if_pos h3])
  ·exact key 0 4 (.inl rfl) (.inl rfl) (by rw[if_neg (by decide)]) (by rw[if_neg h3])
def Z0H(x y:Int)(hx: -4<=x/\x<=4)(hy: -4<=y/\y<=4)(z:Int)(hz:1<=z/\z<=9):Z8 [x,y,x+30,y+30,z]=true:=by
 simp[Z8,Zi,ŭ,Kp]
 omega
def Z0f(c:Int):∃T:List Th,T.length<=1/\Aw [.sh (.int c)]=.ret (.ow (T.map qd)):=by
 obtain⟨f,hf⟩:∃f,c % 1000000000=f:=⟨_,rfl⟩
 by_cases h:f % 2=0
 ·refine⟨[],by simp,?_⟩
  simp[Aw,Gg,List.replicate,hf,h]
 ·have key:∀w:Str,PyData.strOk w=true→(ZL w [f / 2 % 9-4,f / 18 % 9-4,f / 2 % 9-4+30,f / 18 % 9-4+30,1+f / 324 % 9]=true)→ė (.lst [.str "house",.str "sail"]) (.int (f / 162 % 2))=some (.str w)→∃T:List Th,T.length≤1∧Aw [.sh (.int c)]=.ret (.ow (T.map qd)):=by
   intro w hw hg hi
   have te:=Z0F hw (xs:=[f / 2 % 9-4,f / 18 % 9-4,f / 2 % 9-4+30,f / 18 % 9-4+30,1+f / 324 % 9]) (sl:=.sh (.lst ([f / 2 % 9-4,f / 18 % 9-4,f / 2 % 9-4+30,f / 18 % 9-4+30,1+f / 324 % 9].map .int))) (.inl rfl)
   rw[if_pos hg] at te
   refine⟨[(w,[f / 2 % 9-4,f / 18 % 9-4,f / 2 % 9-4+30,f / 18 % 9-4+30,1+f / 324 % 9])],by simp,?_⟩
   have te':eE [.sh (.str w),.sh (.lst [.int (f / 2 % 9-4),.int (f / 18 % 9-4),.int (f / 2 % 9-4+30),.int (f / 18 % 9-4+30),.int (1+f / 324 % 9)])]=.ret (.sh (qd (w,[f / 2 % 9-4,f / 18 % 9-4,f / 2 % 9-4+30,f / 18 % 9-4+30,1+f / 324 % 9]))):=te
   rw[List.map_cons,List.map_nil]
   generalize qd (w,[f / 2 % 9-4,f / 18 % 9-4,f / 2 % 9-4+30,f / 18 % 9-4+30,1+f / 324 % 9])=TV at *
   simp[Aw,Gg,List.replicate,hf,h,hi,te',-Dr]
  have hb:=Z0H (f / 2 % 9-4) (f / 18 % 9-4) (by omega) (by omega) (1+f / 324 % 9) (by omega)
  have h2:f / 162 % 2=0\/f / 162 % 2=1:=by omega
  rcases h2 with e|e
  ·refine key "house" s5 ?_ (by rw[e];rfl)
   unfold ZL
   rw[if_neg (by rw[d51];exact id),if_neg (by rw[d52];exact id),if_neg (by rw[d53];exact id),if_neg (by rw[d54];exact id),if_pos rfl]
   exact hb
  ·refine key "sail" s3 ?_ (by rw[e];rfl)
   unfold ZL
   rw[if_neg (by rw[d31];exact id),if_neg (by rw[d32];exact id),if_pos rfl]
   exact hb
def Za(q:P3)(r:P3):Int×Int:=((r.2.2*q.1+r.1*q.2.2+r.2.2) / (2*r.2.2),(r.2.2*q.2.1+r.2.1*q.2.2+r.2.2) / (2*r.2.2))
def Z1g(q:P3){r:P3}(h:RG r):yQ [.sh (c3 q),.sh (c3 r)]=.ret (.sh (.tup [.int (Za q r).1,.int (Za q r).2])):=by
 obtain⟨x,y,z⟩:=q
 obtain⟨a,b,c⟩:=r
 obtain⟨a1,a2,b1,b2,c1,c2⟩:=h
 dsimp only at a1 a2 b1 b2 c1 c2
 have mc:∀x,Ņ c x=true:=λx=>cj (by omega) (by omega)
 have ma:∀x,Ņ a x=true:=λx=>cj (by omega) (by omega)
 have mb:∀x,Ņ b x=true:=λx=>cj (by omega) (by omega)
 have hf:∀x,fZ x (2*c)=true:=λx=>DP (by omega) (by omega) (by omega)
 have he:∀x:Int,x.fdiv (2*c)=x / (2*c):=λx=>Int.fdiv_eq_ediv_of_nonneg x (by omega)
 have h1:yP [.sh (.tup [.int x,.int y,.int z]),.sh (.tup [.int a,.int b,.int c])]=.ret (.sh (.tup [.int (c*x+a*z),.int (c*y+b*z)])):=by
  simp[yP,Gj,List.replicate,mc,ma,mb]
 simp[yQ,Gk,List.replicate,c3,h1,hf,he,Za]
abbrev En:=Nat×Nat×Int×Int
def aq(e:En):PV:=.tup [.int e.1,.int e.2.1,.tup [.int e.2.2.1,.int e.2.2.2]]
def Ze(q:P3)(d:Nat):Nat->List (Option P3)->List En
 |_,[]=>[]
 |t,none::r=>Ze q d (t+1) r
 |t,some x::r=>(d,t,Za q x)::Ze q d (t+1) r
def Z7(q:P3):Nat->List Dy->List En
 |_,[]=>[]
 |d,x::D=>Ze q d 0 x.2.2++Z7 q (d+1) D
theorem Zt(q:P3)(d:Nat):∀(os:List (Option P3)) (t:Nat),(Ze q d t os).length<=os.length
 | [],t=>by simp[Ze]
 |none::r,t=>by have:=Zt q d r (t+1);simp[Ze];omega
 |some x::r,t=>by have:=Zt q d r (t+1);simp[Ze];omega
theorem Zu(q:P3):∀(D:List Dy) (d:Nat),(∀x∈D,Ba x)->(Z7 q d D).length<=D.length*24
 | [],d,_=>by simp[Z7]
 |x::D,d,h=>by
  have h1:=Zu q D (d+1) λy hy=>h y (List.mem_cons_of_mem _ hy)
  have h2:=Zt q d x.2.2 0
  have h3:=(h x List.mem_cons_self).1
  simp[Z7]
  omega
theorem Zy(q:P3)(d:Nat)(s0:P.Slot):∀(os:List (Option P3)) (t:Nat) (acc:List En) (s4 s5:P.Slot),(∀o∈os,OG o)->acc.length+os.length<=1000000->∃UG KQ,forL (gT 2 (Č (gN 4) (Č (gN 5) ń))) pX (cT t (os.map cI)) [s0,.sh (c3 q),.ow (acc.map aq),.sh (.int d),s4,s5]=.ok .nx [s0,.sh (c3 q),.ow ((acc++Ze q d t os).map aq),.sh (.int d),UG,KQ]
 | [],t,acc,s4,s5,_,_=>⟨s4,s5,by simp[forL,cT,Ze]⟩
 |none::os,t,acc,s4,s5,ho,hl=>by
  obtain⟨a,b,e⟩:=Zy q d s0 os (t+1) acc (.sh (.int t)) (.sh .non) (λo h=>ho o (List.mem_cons_of_mem _ h)) (by simp at hl;omega)
  refine⟨a,b,?_⟩
  rw[List.map_cons,Ze]
  show forL _ _ (.tup [.int t,.non]::cT (t+1) (os.map cI)) _=_
  rw[forL]
  have g1:gT 2 (Č (gN 4) (Č (gN 5) ń)) (.tup [.int (t:Int),.non]) [s0,.sh (c3 q),.ow (acc.map aq),.sh (.int d),s4,s5]=some [s0,.sh (c3 q),.ow (acc.map aq),.sh (.int d),.sh (.int t),.sh .non]:=by simp
  rw[g1]
  dsimp only
  have e1:pX [s0,.sh (c3 q),.ow (acc.map aq),.sh (.int d),.sh (.int t),.sh .non]=.ok .nx [s0,.sh (c3 q),.ow (acc.map aq),.sh (.int d),.sh (.int t),.sh .non]:=by simp[pX,pC]
  rw[e1]
  exact e
 |some r::os,t,acc,s4,s5,ho,hl=>by
  have he:=Z1g q (ho _ List.mem_cons_self r rfl)
  obtain⟨a,b,e⟩:=Zy q d s0 os (t+1) (acc ++ [(d,t,Za q r)]) (.sh (.int t)) (.sh (c3 r)) (λo h=>ho o (List.mem_cons_of_mem _ h)) (by simp at hl ⊢;omega)
  have hla:(acc.map aq).length<16777216:=by simp at hl ⊢;omega
  refine⟨a,b,?_⟩
  rw[List.append_assoc] at e
  rw[List.map_cons,Ze]
  show forL _ _ (.tup [.int t,c3 r]::cT (t+1) (os.map cI)) _=_
  rw[forL]
  have g1:gT 2 (Č (gN 4) (Č (gN 5) ń)) (.tup [.int (t:Int),c3 r]) [s0,.sh (c3 q),.ow (acc.map aq),.sh (.int d),s4,s5]=some [s0,.sh (c3 q),.ow (acc.map aq),.sh (.int d),.sh (.int t),.sh (c3 r)]:=by simp
  rw[g1]
  dsimp only
  have e1:pX [s0,.sh (c3 q),.ow (acc.map aq),.sh (.int d),.sh (.int t),.sh (c3 r)]=.ok .nx [s0,.sh (c3 q),.ow ((acc ++ [(d,t,Za q r)]).map aq),.sh (.int d),.sh (.int t),.sh (c3 r)]:=by
   rw[List.map_append]
   have hn:pC (c3 r)=false:=rfl
   generalize acc.map aq=AC at *
   generalize hq:c3 r=C at *
   generalize c3 q=Q at *
   simp[pX,hn,he,hla,aq]
  rw[e1]
  exact e
def Z0I{w h:Int}{T:List Th}{D:List Dy}{i:Nat}{x:Dy}(hi:D[i]?=some x):uQ [.sh (Z0 w h T D),.sh (.int i)]=.ret (.sh (.lst (x.2.2.map cI))):=by
 obtain⟨h1,h2⟩:=List.getElem?_eq_some_iff.mp hi
 have:=Z0s (w:=w) (h:=h) (T:=T) h1
 rw[h2] at this
 exact this
theorem ZW{w h:Int}{T:List Th}{D:List Dy}(q:P3)(hD:∀x∈D,Ba x):∀(r:List Dy) (d:Nat) (acc:List En) (s3 s4 s5:P.Slot),D.drop d=r->acc.length+r.length*24<=100000->∃s3' UG KQ,forL (gN 3) yR ((List.range' d r.length).map λ(i:Nat)=>PV.int (i:Int)) [.sh (Z0 w h T D),.sh (c3 q),.ow (acc.map aq),s3,s4,s5]=.ok .nx [.sh (Z0 w h T D),.sh (c3 q),.ow ((acc++Z7 q d r).map aq),s3',UG,KQ]
 | [],d,acc,s3,s4,s5,_,_=>⟨s3,s4,s5,by simp[forL,Z7]⟩
 |x::r,d,acc,s3,s4,s5,hr,hl=>by
  have hx:D[d]?=some x:=by
   have:=congrArg (λl=>l[0]?) hr
   simpa using this
  have hr':D.drop (d+1)=r:=by
   have:=congrArg List.tail hr
   simpa using this
  have hk:=hD x (List.mem_of_getElem? hx)
  have tu:=Z0I (w:=w) (h:=h) (T:=T) hx
  obtain⟨a,b,e1⟩:=Zy q d (.sh (Z0 w h T D)) x.2.2 0 acc s4 s5 hk.2 (by have:=hk.1;simp at hl;omega)
  have hz:=Zt q d x.2.2 0
  obtain⟨a3,a4,a5,e2⟩:=ZW (w:=w) (h:=h) (T:=T) q hD r (d+1) (acc++Ze q d 0 x.2.2) (.sh (.int d)) a b hr' (by have:=hk.1;simp at hl ⊢;omega)
  refine⟨a3,a4,a5,?_⟩
  rw[List.append_assoc] at e2
  rw[List.length_cons,List.range'_succ,List.map_cons,forL]
  have g1:gN 3 (.int (d:Int)) [.sh (Z0 w h T D),.sh (c3 q),.ow (acc.map aq),s3,s4,s5]=some [.sh (Z0 w h T D),.sh (c3 q),.ow (acc.map aq),.sh (.int d),s4,s5]:=rfl
  rw[g1]
  dsimp only
  have e3:yR [.sh (Z0 w h T D),.sh (c3 q),.ow (acc.map aq),.sh (.int d),s4,s5]=.ok .nx [.sh (Z0 w h T D),.sh (c3 q),.ow ((acc++Ze q d 0 x.2.2).map aq),.sh (.int d),a,b]:=by
   generalize (acc++Ze q d 0 x.2.2).map aq=AE at *
   generalize acc.map aq=AC at *
   generalize x.2.2.map cI=OS at *
   generalize Z0 w h T D=Yv at *
   generalize c3 q=Q at *
   simp[yR,tu,e1]
  rw[e3]
  exact e2
def Z1h{w h:Int}{T:List Th}{D:List Dy}(q:P3)(hD:∀x∈D,Ba x)(hl:D.length<=12):Kd [.sh (Z0 w h T D),.sh (c3 q)]=.ret (.ow ((Z7 q 0 D).map aq)):=by
 obtain⟨a,b,c,e⟩:=ZW (w:=w) (h:=h) (T:=T) q hD D 0 [] .no .no .no rfl (by simp;omega)
 have yd:=y_d w h T D
 have rr:=ZO (n:=D.length) (by omega)
 have hl:(D.map Ł).length=D.length:=by simp
 rw[List.nil_append,List.map_nil,<-List.range_eq_range'] at e
 generalize (Z7 q 0 D).map aq=Q at *
 generalize Z0 w h T D=Yv at *
 generalize (List.range D.length).map (λ(i:Nat)=>PV.int (i:Int))=RR at *
 generalize D.map Ł=DV at *
 generalize c3 q=QQ at *
 simp[Kd,M_,List.replicate,yd,hl,rr,e]
section
variable{α β:Type}[DecidableEq α]
def rW(K:List (α×β))(a:α):Option β:= (K.find? λp=>decide (p.1=a)).map (·.2)
def Z1(f:α->DK)(g:β->PV)(K:List (α×β)):List (DK×PV):=K.map λx=>(f x.1,g x.2)
variable{f:α->DK}{g:β->PV}
def ZA{p:α×β}{K:List (α×β)}{a:α}(e:p.1=a):rW (p::K) a=some p.2:=by simp[rW,List.find?_cons,e]
def ZB{p:α×β}{K:List (α×β)}{a:α}(e:¬p.1=a):rW (p::K) a=rW K a:=by simp[rW,List.find?_cons,e]
def Z05{p:DK×PV}{K:List (DK×PV)}{a:DK}(e:p.1=a):dval (p::K) a=some p.2:=by simp[dval,List.find?_cons,e]
def Z06{p:DK×PV}{K:List (DK×PV)}{a:DK}(e:¬p.1=a):dval (p::K) a=dval K a:=by simp[dval,List.find?_cons,e]
theorem Zn(a:α):∀K:List (α×β),(∀x∈K,f x.1=f a->x.1=a)->dval (Z1 f g K) (f a)=(rW K a).map g
 | [],_=>rfl
 |p::K,h=>by
  have ih:=Zn a K λx hx=>h x (List.mem_cons_of_mem _ hx)
  by_cases e:p.1=a
  ·rw[ZA e]
   exact Z05 (p:=(f p.1,g p.2)) (by rw[e])
  ·rw[ZB e,<-ih]
   exact Z06 (p:=(f p.1,g p.2)) λz=>e (h p List.mem_cons_self z)
theorem ZF(a:DK):∀K:List (DK×PV),(K.any λkv=>decide (kv.1=a))=(dval K a).isSome
 | []=>rfl
 |p::K=>by
  by_cases e:p.1=a
  ·rw[Z05 e,List.any_cons,decide_eq_true e];rfl
  ·rw[Z06 e,List.any_cons,decide_eq_false e,ZF a K];rfl
def ZG{a:α}{K:List (α×β)}{v:β}(h:∀x∈K,f x.1=f a->x.1=a)(hn:rW K a=none):dput (Z1 f g K) (f a) (g v)=Z1 f g (K ++ [(a,v)]):=by
 unfold dput
 rw[ZF,Zn a K h,hn,if_neg (by simp)]
 simp[Z1]
theorem Z0h{a:α}{v:β}:∀{K:List (α×β)},(K.map (·.1)).Nodup->rW K a=some v->∀x∈K,x.1=a->x.2=v
 | [],_,_,x,hx,_=>nomatch hx
 |p::K,hn,hv,x,hx,ex=>by
  rw[List.map_cons,List.nodup_cons] at hn
  by_cases e:p.1=a
  ·rw[ZA e] at hv
   cases hv
   rcases List.mem_cons.mp hx with rfl|hx
   ·rfl
   ·exact absurd (List.mem_map.mpr ⟨x,hx,by rw[ex,e]⟩) hn.1
  ·rw[ZB e] at hv
   rcases List.mem_cons.mp hx with rfl|hx
   ·exact absurd ex e
   ·exact Z0h hn.2 hv x hx ex
def Z0J{a:α}{K:List (α×β)}{v:β}{p:PV}(h:∀x∈K,f x.1=f a->x.1=a)(hn:(K.map (·.1)).Nodup)(hv:rW K a=some v)(hp:g v=p):dput (Z1 f g K) (f a) p=Z1 f g K:=by
 unfold dput
 rw[ZF,Zn a K h,hv,if_pos (by simp)]
 conv=>rhs;rw[<-List.map_id (Z1 f g K)]
 refine List.map_congr_left λkv hk=>?_
 obtain⟨x,hx,rfl⟩:=List.mem_map.mp hk
 by_cases e:f x.1=f a
 ·have:=Z0h hn hv x hx (h x hx e)
  rw[if_pos e,<-hp,this];rfl
 ·rw[if_neg e];rfl
theorem Z07{a:α}:∀{K:List (α×β)},rW K a=none->a∉K.map (·.1)
 | [],_=>by simp
 |p::K,h=>by
  by_cases e:p.1=a
  ·rw[ZA e] at h;cases h
  ·rw[ZB e] at h
   rw[List.map_cons,List.mem_cons]
   rintro (z|z)
   ·exact e z.symm
   ·exact Z07 h z
end
abbrev Sn:=Int×Int
abbrev TT:=Nat×Nat
def bH(W H:Int)(s:Sn):Prop:=0<=s.1/\s.1<W/\0<=s.2/\s.2<H
instance(W H:Int)(s:Sn):Decidable (bH W H s):=by unfold bH;infer_instance
def num(W:Int)(s:Sn):Int:=s.2*W+s.1
def Z17{W H:Int}{s u:Sn}(h1:bH W H s)(h2:bH W H u)(e:num W s=num W u):s=u:=by
 obtain⟨a,b⟩:=s
 obtain⟨c,d⟩:=u
 obtain⟨x1,x2,x3,x4⟩:=h1
 obtain⟨y1,y2,y3,y4⟩:=h2
 unfold num at e
 dsimp only at *
 have e1:(b*W+a) / W=b:=by rw[Int.add_comm,Int.add_mul_ediv_right _ _ (by omega),Int.ediv_eq_zero_of_lt x1 x2,Int.zero_add]
 have e2:(d*W+c) / W=d:=by rw[Int.add_comm,Int.add_mul_ediv_right _ _ (by omega),Int.ediv_eq_zero_of_lt y1 y2,Int.zero_add]
 rw[e,e2] at e1
 subst e1
 have:a=c:=by omega
 rw[this]
def Ţ(s:Sn):PV:=.tup [.int s.1,.int s.2]
def Œ(s:TT):PV:=.tup [.int s.1,.int s.2]
def stK(e:En):Sn:=e.2.2
def wM(e:En):TT:=(e.1,e.2.1)
def Z6(s:Sn):DK:=.inr [s.1,s.2]
def Z3(W:Int)(s:Sn):DK:=.inl (num W s)
def Z0K{s u:Sn}(h:Z6 s=Z6 u):s=u:=by
 unfold Z6 at h
 injection h with h
 injection h with h1 h2
 injection h2 with h2
 exact Prod.ext h1 h2
def ZH{W H:Int}{s u:Sn}(h1:bH W H s)(h2:bH W H u)(h:Z3 W s=Z3 W u):s=u:=by
 unfold Z3 at h
 injection h with h
 exact Z17 h1 h2 h
def Zf(e:En):PV:=.tup [.str "off",.int e.1,.int e.2.1]
def wN(a:TT×TT):PV:=.tup [.str "alike",Œ a.1,Œ a.2]
def Z1p{w h:Int}{T:List Th}{D:List Dy}(s:Sn):jw [.sh (Z0 w h T D),.sh (Ţ s)]=.ret (.sh (.bl (decide (bH w h s)))):=by
 have yw:=y_w w h T D
 have yh:=y_h w h T D
 generalize Z0 w h T D=Yv at *
 obtain⟨a,b⟩:=s
 unfold bH
 dsimp only
 by_cases h1:0<=a
 ·by_cases h2:a<w
  ·by_cases h3:0<=b
   ·by_cases h4:b<h
    ·simp[jw,iV,List.replicate,Ţ,yw,yh,h1,h2,h3,h4]
    ·simp[jw,iV,List.replicate,Ţ,yw,yh,h1,h2,h3,h4]
   ·simp[jw,iV,List.replicate,Ţ,yw,yh,h1,h2,h3]
  ·simp[jw,iV,List.replicate,Ţ,yw,yh,h1,h2]
 ·simp[jw,iV,List.replicate,Ţ,yw,yh,h1]
def Z9(W H:Int)(e:En):Bool:=!decide (bH W H (stK e))
theorem Z08{w h:Int}{T:List Th}{D:List Dy}(s1:P.Slot):∀(E:List En) (s2 s3 s4:P.Slot),∃ρ',forL (gT 3 (Č (gN 2) (Č (gN 3) (Č (gN 4) ń)))) iW (E.map aq) [.sh (Z0 w h T D),s1,s2,s3,s4]=(match E.find? (Z9 w h) with
 |some e=>.ok (.rt (.sh (Zf e))) ρ'
 |none=>.ok .nx ρ')
 | [],s2,s3,s4=>⟨_,rfl⟩
 |e::E,s2,s3,s4=>by
  have hs:=Z1p (w:=w) (h:=h) (T:=T) (D:=D) (stK e)
  rw[List.map_cons,forL]
  have g1:gT 3 (Č (gN 2) (Č (gN 3) (Č (gN 4) ń))) (aq e) [.sh (Z0 w h T D),s1,s2,s3,s4]=some [.sh (Z0 w h T D),s1,.sh (.int e.1),.sh (.int e.2.1),.sh (Ţ (stK e))]:=by simp[aq,Ţ,stK]
  rw[g1]
  dsimp only
  obtain⟨ρ',ih⟩:=Z08 (w:=w) (h:=h) (T:=T) (D:=D) s1 E (.sh (.int e.1)) (.sh (.int e.2.1)) (.sh (Ţ (stK e)))
  by_cases ho:bH w h (stK e)
  ·have e0:Z9 w h e=false:=by simp[Z9,ho]
   rw[decide_eq_true ho] at hs
   have e1:iW [.sh (Z0 w h T D),s1,.sh (.int e.1),.sh (.int e.2.1),.sh (Ţ (stK e))]=.ok .nx [.sh (Z0 w h T D),s1,.sh (.int e.1),.sh (.int e.2.1),.sh (Ţ (stK e))]:=by
    generalize Z0 w h T D=Yv at *
    generalize Ţ (stK e)=S at *
    simp[iW,hs]
   rw[e1,List.find?_cons,e0]
   exact⟨ρ',ih⟩
  ·have e0:Z9 w h e=true:=by simp[Z9,ho]
   rw[decide_eq_false ho] at hs
   have e1:iW [.sh (Z0 w h T D),s1,.sh (.int e.1),.sh (.int e.2.1),.sh (Ţ (stK e))]=.ok (.rt (.sh (Zf e))) [.sh (Z0 w h T D),s1,.sh (.int e.1),.sh (.int e.2.1),.sh (Ţ (stK e))]:=by
    generalize Z0 w h T D=Yv at *
    generalize Ţ (stK e)=S at *
    simp[iW,hs,Zf]
   rw[e1,List.find?_cons,e0]
   exact⟨_,rfl⟩
theorem Z1i{w h:Int}{T:List Th}{D:List Dy}(E:List En):uR [.sh (Z0 w h T D),.bw (E.map aq)]=.ret (.sh (match E.find? (Z9 w h) with
 |some e=>Zf e
 |none=>.non)):=by
 obtain⟨ρ',e⟩:=Z08 (w:=w) (h:=h) (T:=T) (D:=D) (.bw (E.map aq)) E .no .no .no
 cases hf:E.find? (Z9 w h) with
 |some x=>
  rw[hf] at e
  dsimp only at e ⊢
  generalize Z0 w h T D=Yv at *
  generalize E.map aq=EV at *
  simp[uR,wJ,List.replicate,e]
 |none=>
  rw[hf] at e
  dsimp only at e ⊢
  generalize Z0 w h T D=Yv at *
  generalize E.map aq=EV at *
  simp[uR,wJ,List.replicate,e]
abbrev eV:=List (Sn×TT)
def Z5:List En->eV->Option (TT×TT)
 | [],_=>none
 |e::r,K=>match rW K (stK e) with
  |none=>Z5 r (K ++ [(stK e,wM e)])
  |some v=>if v.2=e.2.1 then Z5 r K else some (v,wM e)
def Z4(K:eV)(e:En):eV:=match rW K (stK e) with
 |none=>K ++ [(stK e,wM e)]
 |some _=>K
theorem Zv(s0:P.Slot):∀(E:List En) (K:eV) (s2 s3 s4 s5:P.Slot),K.length+E.length<=100000->∃ρ',forL (gT 3 (Č (gN 2) (Č (gN 3) (Č (gN 4) ń)))) jx (E.map aq) [s0,.od true (Z1 Z6 Œ K),s2,s3,s4,s5]=(match Z5 E K with
 |some a=>.ok (.rt (.sh (wN a))) ρ'
 |none=>.ok .nx ρ')
 | [],K,s2,s3,s4,s5,_=>⟨_,rfl⟩
 |e::E,K,s2,s3,s4,s5,hl=>by
  have hi:∀x∈K,Z6 x.1=Z6 (stK e)->x.1=stK e:=λ_ _ h=>Z0K h
  have hv:=Zn (g:=Œ) (stK e) K hi
  have hk:Ai true (Ţ (stK e))=some (Z6 (stK e)):=rfl
  have hlen:(Z1 Z6 Œ K).length<16777216:=by simp[Z1] at hl ⊢;omega
  rw[List.map_cons,forL]
  have g1:gT 3 (Č (gN 2) (Č (gN 3) (Č (gN 4) ń))) (aq e) [s0,.od true (Z1 Z6 Œ K),s2,s3,s4,s5]=some [s0,.od true (Z1 Z6 Œ K),.sh (.int e.1),.sh (.int e.2.1),.sh (Ţ (stK e)),s5]:=by simp[aq,Ţ,stK]
  rw[g1]
  dsimp only
  have ht:PV.tup [.int e.1,.int e.2.1]=Œ (wM e):=rfl
  cases hx:rW K (stK e) with
  |none=>
   rw[hx] at hv
   obtain⟨ρ',ih⟩:=Zv s0 E (K ++ [(stK e,wM e)]) (.sh (.int e.1)) (.sh (.int e.2.1)) (.sh (Ţ (stK e))) (.sh (Œ (wM e))) (by simp at hl ⊢;omega)
   have hp:=ZG (g:=Œ) (v:=wM e) hi hx
   have e1:jx [s0,.od true (Z1 Z6 Œ K),.sh (.int e.1),.sh (.int e.2.1),.sh (Ţ (stK e)),s5]=.ok .nx [s0,.od true (Z1 Z6 Œ (K ++ [(stK e,wM e)])),.sh (.int e.1),.sh (.int e.2.1),.sh (Ţ (stK e)),.sh (Œ (wM e))]:=by
    rw[<-hp]
    have hix:ė (Œ (wM e)) (.int 1)=some (.int e.2.1):=rfl
    generalize Ţ (stK e)=S at *
    generalize Z1 Z6 Œ K=EK at *
    generalize Z6 (stK e)=KS at *
    simp[jx,hk,hv,hlen,ht,hix]
   rw[e1]
   refine⟨ρ',?_⟩
   simp only[Z5,hx]
   exact ih
  |some v=>
   rw[hx,Option.map_some] at hv
   have hix:ė (Œ v) (.int 1)=some (.int v.2):=rfl
   by_cases h:v.2=e.2.1
   ·obtain⟨ρ',ih⟩:=Zv s0 E K (.sh (.int e.1)) (.sh (.int e.2.1)) (.sh (Ţ (stK e))) (.sh (Œ v)) (by simp at hl ⊢;omega)
    have e1:jx [s0,.od true (Z1 Z6 Œ K),.sh (.int e.1),.sh (.int e.2.1),.sh (Ţ (stK e)),s5]=.ok .nx [s0,.od true (Z1 Z6 Œ K),.sh (.int e.1),.sh (.int e.2.1),.sh (Ţ (stK e)),.sh (Œ v)]:=by
     generalize Ţ (stK e)=S at *
     generalize Z1 Z6 Œ K=EK at *
     generalize Z6 (stK e)=KS at *
     generalize Œ v=VV at *
     simp[jx,hk,hv,hix,h]
    rw[e1]
    refine⟨ρ',?_⟩
    simp only[Z5,hx,h]
    exact ih
   ·have h':¬(v.2:Int)=(e.2.1:Int):=λz=>h (by omega)
    have e1:jx [s0,.od true (Z1 Z6 Œ K),.sh (.int e.1),.sh (.int e.2.1),.sh (Ţ (stK e)),s5]=.ok (.rt (.sh (wN (v,wM e)))) [s0,.od true (Z1 Z6 Œ K),.sh (.int e.1),.sh (.int e.2.1),.sh (Ţ (stK e)),.sh (Œ v)]:=by
     unfold wN
     rw[<-ht]
     generalize Ţ (stK e)=S at *
     generalize Z1 Z6 Œ K=EK at *
     generalize Z6 (stK e)=KS at *
     dsimp only
     generalize Œ v=VV at *
     simp[jx,hk,hv,hix,h,h']
    rw[e1]
    refine⟨[s0,.od true (Z1 Z6 Œ K),.sh (.int e.1),.sh (.int e.2.1),.sh (Ţ (stK e)),.sh (Œ v)],?_⟩
    simp only[Z5,hx,if_neg h]
    rfl
theorem Z0L(E:List En)(hl:E.length<=1000):Gn [.bw (E.map aq)]=.ret (.sh (match Z5 E [] with
 |some a=>wN a
 |none=>.non)):=by
 obtain⟨ρ',e⟩:=Zv (.bw (E.map aq)) E [] .no .no .no .no (by simp;omega)
 have e0:Z1 Z6 Œ []=[]:=rfl
 rw[e0] at e
 cases hf:Z5 E [] with
 |some x=>
  rw[hf] at e
  dsimp only at e ⊢
  generalize E.map aq=EV at *
  simp[Gn,Gm,List.replicate,e]
 |none=>
  rw[hf] at e
  dsimp only at e ⊢
  generalize E.map aq=EV at *
  simp[Gn,Gm,List.replicate,e]
def vm(v:TT):PV:=.int v.2
def Z1j(s:Sn)(w:Int)(hw:0<=w/\w<=1000):yS [.sh (Ţ s),.sh (.int w)]=.ret (.sh (.int (num w s))):=by
 have mb:Ņ s.2 w=true:=mul_r (by omega) (by omega)
 simp[yS,Gp,List.replicate,Ţ,num,mb]
def Z0i{w h:Int}{K:eV}{e:En}(hK:∀x∈K,bH w h x.1)(he:bH w h (stK e)):∀x∈Z4 K e,bH w h x.1:=by
 intro x hx
 unfold Z4 at hx
 split at hx
 ·rcases List.mem_append.mp hx with hx|hx
  ·exact hK x hx
  ·rw[List.mem_singleton.mp hx];exact he
 ·exact hK x hx
def Z0j{K:eV}{e:En}(hK:(K.map (·.1)).Nodup):((Z4 K e).map (·.1)).Nodup:=by
 unfold Z4
 split
 ·rename_i hn
  rw[List.map_append,List.nodup_append]
  refine⟨hK,by simp,λa ha b hb z=>?_⟩
  have:b=stK e:=by simpa using hb
  exact Z07 hn (by rw[<-this,<-z];exact ha)
 ·exact hK
def Z09(K:eV)(e:En):(Z4 K e).length<=K.length+1:=by
 unfold Z4
 split<;>simp
theorem ZM{w h:Int}{T:List Th}{D:List Dy}(hw:0<=w/\w<=1000)(s1:P.Slot):∀(E:List En) (K:eV) (s3 s4 s5:P.Slot),K.length+E.length<=100000->(∀e∈E,bH w h (stK e))->(∀x∈K,bH w h x.1)->(K.map (·.1)).Nodup->Z5 E K=none->∃s3' UG KQ,forL (gT 3 (Č (gN 3) (Č (gN 4) (Č (gN 5) ń)))) qZ (E.map aq) [.sh (Z0 w h T D),s1,.od false (Z1 (Z3 w) vm K),s3,s4,s5]=.ok .nx [.sh (Z0 w h T D),s1,.od false (Z1 (Z3 w) vm (E.foldl Z4 K)),s3',UG,KQ]
 | [],K,s3,s4,s5,_,_,_,_,_=>⟨s3,s4,s5,rfl⟩
 |e::E,K,s3,s4,s5,hl,hE,hK,hN,hA=>by
  have he:=hE e List.mem_cons_self
  have hi:∀x∈K,Z3 w x.1=Z3 w (stK e)->x.1=stK e:=λx hx h=>ZH (hK x hx) he h
  have hlen:(Z1 (Z3 w) vm K).length<16777216:=by simp[Z1] at hl ⊢;omega
  have yw:=y_w w h T D
  have nu:=Z1j (stK e) w hw
  have hp:dput (Z1 (Z3 w) vm K) (.inl (num w (stK e))) (.int e.2.1)=Z1 (Z3 w) vm (Z4 K e)/\Z5 E (Z4 K e)=none:=by
   unfold Z4
   unfold Z5 at hA
   cases hx:rW K (stK e) with
   |none=>
    rw[hx] at hA
    exact⟨ZG (g:=vm) (v:=wM e) hi hx,hA⟩
   |some v=>
    rw[hx] at hA
    dsimp only at hA ⊢
    by_cases h:v.2=e.2.1
    ·rw[if_pos h] at hA
     exact⟨Z0J (g:=vm) hi hN hx (by unfold vm;rw[h]),hA⟩
    ·rw[if_neg h] at hA;cases hA
  obtain⟨a,b,c,ih⟩:=ZM (w:=w) (h:=h) (T:=T) (D:=D) hw s1 E (Z4 K e) (.sh (.int e.1)) (.sh (.int e.2.1)) (.sh (Ţ (stK e))) (by have:=Z09 K e;simp at hl;omega) (λx hx=>hE x (List.mem_cons_of_mem _ hx)) (Z0i hK he) (Z0j hN) hp.2
  refine⟨a,b,c,?_⟩
  rw[List.map_cons,forL]
  have g1:gT 3 (Č (gN 3) (Č (gN 4) (Č (gN 5) ń))) (aq e) [.sh (Z0 w h T D),s1,.od false (Z1 (Z3 w) vm K),s3,s4,s5]=some [.sh (Z0 w h T D),s1,.od false (Z1 (Z3 w) vm K),.sh (.int e.1),.sh (.int e.2.1),.sh (Ţ (stK e))]:=by simp[aq,Ţ,stK]
  rw[g1]
  dsimp only
  have e1:qZ [.sh (Z0 w h T D),s1,.od false (Z1 (Z3 w) vm K),.sh (.int e.1),.sh (.int e.2.1),.sh (Ţ (stK e))]=.ok .nx [.sh (Z0 w h T D),s1,.od false (Z1 (Z3 w) vm (Z4 K e)),.sh (.int e.1),.sh (.int e.2.1),.sh (Ţ (stK e))]:=by
   rw[<-hp.1]
   generalize Ţ (stK e)=S at *
   generalize Z1 (Z3 w) vm K=EK at *
   generalize Z0 w h T D=Yv at *
   generalize num w (stK e)=N at *
   simp[qZ,yw,nu,hlen]
  rw[e1]
  exact ih
def Zb(w:Int)(K:eV):List (Int×Int):=K.map λx=>(num w x.1,(x.2.2:Int))
theorem Z0k(w:Int):∀K:eV,(∀x∈K,x.2.2<1000)->bY (Z1 (Z3 w) vm K)=some (Zb w K)
 | [],_=>rfl
 |x::K,h=>by
  have ih:=Z0k w K λy hy=>h y (List.mem_cons_of_mem _ hy)
  have h0:=h x List.mem_cons_self
  have hM:(1000:Int)<=MP:=by decide
  have hb:0<=(x.2.2:Int)/\(x.2.2:Int)<MP:=⟨by omega,by omega⟩
  show bY ((.inl (num w x.1),.int x.2.2)::Z1 (Z3 w) vm K)=_
  rw[bY,if_pos hb,ih]
  rfl
theorem Z0l{w h:Int}:∀(E:List En) (K:eV),(∀e∈E,bH w h (stK e))->(∀x∈K,bH w h x.1)->∀x∈E.foldl Z4 K,bH w h x.1
 | [],K,_,h=>h
 |e::E,K,hE,h=>Z0l E (Z4 K e) (λx hx=>hE x (List.mem_cons_of_mem _ hx)) (Z0i h (hE e List.mem_cons_self))
theorem Z0m:∀(E:List En) (K:eV),(K.map (·.1)).Nodup->((E.foldl Z4 K).map (·.1)).Nodup
 | [],K,h=>h
 |e::E,K,h=>Z0m E (Z4 K e) (Z0j h)
theorem ZI:∀(E:List En) (K:eV),(E.foldl Z4 K).length<=K.length+E.length
 | [],K=>by simp
 |e::E,K=>by have h1:=ZI E (Z4 K e);have h2:=Z09 K e;simp;omega
theorem ZP:∀(E:List En) (K:eV),(∀e∈E,e.2.1<1000)->(∀x∈K,x.2.2<1000)->∀x∈E.foldl Z4 K,x.2.2<1000
 | [],K,_,h=>h
 |e::E,K,hE,h=>ZP E (Z4 K e) (λx hx=>hE x (List.mem_cons_of_mem _ hx)) (by
  intro x hx
  unfold Z4 at hx
  split at hx
  ·rcases List.mem_append.mp hx with hx|hx
   ·exact h x hx
   ·rw[List.mem_singleton.mp hx];exact hE e List.mem_cons_self
  ·exact h x hx)
def Z0M{w h:Int}{T:List Th}{D:List Dy}(hw:0<=w/\w<=1000)(E:List En)(hl:E.length<=1000)(hE:∀e∈E,bH w h (stK e))(ht:∀e∈E,e.2.1<1000)(hA:Z5 E []=none):yU [.sh (Z0 w h T D),.bw (E.map aq)]=.ret (.ow ((ų (Zb w (E.foldl Z4 []))).map tupP)):=by
 obtain⟨a,b,c,e⟩:=ZM (w:=w) (h:=h) (T:=T) (D:=D) hw (.bw (E.map aq)) E [] .no .no .no (by simp;omega) hE (by simp) (by simp) hA
 have e0:Z1 (Z3 w) vm []=[]:=rfl
 have hp:=Z0k w (E.foldl Z4 []) (ZP E [] ht (by simp))
 rw[e0] at e
 generalize E.map aq=EV at *
 generalize Z0 w h T D=Yv at *
 generalize Z1 (Z3 w) vm (E.foldl Z4 [])=EK at *
 generalize Zb w (E.foldl Z4 [])=PK at *
 simp[yU,Gq,List.replicate,e,gD,hp]
theorem ZQ(q:P3)(d:Nat):∀(os:List (Option P3)) (t:Nat),∀e∈Ze q d t os,e.2.1<t+os.length
 | [],t,e,h=>nomatch h
 |none::r,t,e,h=>by
  have:=ZQ q d r (t+1) e h
  simp;omega
 |some x::r,t,e,h=>by
  rcases List.mem_cons.mp h with rfl|h
  ·simp
  ·have:=ZQ q d r (t+1) e h
   simp;omega
theorem ZR(q:P3):∀(D:List Dy) (d:Nat),(∀x∈D,Ba x)->∀e∈Z7 q d D,e.2.1<1000
 | [],d,_,e,h=>nomatch h
 |x::D,d,hD,e,h=>by
  rcases List.mem_append.mp h with h|h
  ·have:=ZQ q d x.2.2 0 e h
   have:=(hD x List.mem_cons_self).1
   omega
  ·exact ZR q D (d+1) (λy hy=>hD y (List.mem_cons_of_mem _ hy)) e h
theorem Z18{w h:Int}{T:List Th}{D:List Dy}(hw:0<=w/\w<=1000)(q:P3)(hD:∀x∈D,Ba x)(hl:D.length<=12):pY [.sh (Z0 w h T D),.sh (c3 q)]=.ret (match(Z7 q 0 D).find? (Z9 w h) with
 |some e=>.sh (Zf e)
 |none=>match Z5 (Z7 q 0 D) [] with
  |some a=>.sh (wN a)
  |none=>.ot [.str "marks"] ((ų (Zb w ((Z7 q 0 D).foldl Z4 []))).map tupP) []):=by
 have h1:=Z1h (w:=w) (h:=h) (T:=T) q hD hl
 have hel:(Z7 q 0 D).length<=1000:=by have:=Zu q D 0 hD;omega
 have h2:=Z1i (w:=w) (h:=h) (T:=T) (D:=D) (Z7 q 0 D)
 have h3:=Z0L (Z7 q 0 D) hel
 have h4:=ZR q D 0 hD
 have h5:=Z0M (w:=w) (h:=h) (T:=T) (D:=D) hw (Z7 q 0 D) hel
 generalize Z7 q 0 D=E at *
 cases hf:E.find? (Z9 w h) with
 |some e=>
  rw[hf] at h2
  dsimp only at h2 ⊢
  have hn:pC (Zf e)=false:=rfl
  generalize Zf e=O at *
  generalize E.map aq=EV at *
  generalize Z0 w h T D=Yv at *
  generalize c3 q=Q at *
  simp[pY,q_,List.replicate,h1,h2,hn]
 |none=>
  rw[hf] at h2
  have hon:∀e∈E,bH w h (stK e):=by
   intro e he
   have:=List.find?_eq_none.mp hf e he
   simpa[Z9] using this
  cases ha:Z5 E [] with
  |some a=>
   rw[ha] at h3
   dsimp only at h2 h3 ⊢
   have hn:pC (wN a)=false:=rfl
   generalize wN a=O at *
   generalize E.map aq=EV at *
   generalize Z0 w h T D=Yv at *
   generalize c3 q=Q at *
   have hnn:pC .non=true:=rfl
   simp[pY,q_,List.replicate,h1,h2,h3,hn,hnn]
  |none=>
   rw[ha] at h3
   have h6:=h5 hon h4 ha
   dsimp only at h2 h3 ⊢
   generalize (ų (Zb w (E.foldl Z4 []))).map tupP=MM at *
   generalize E.map aq=EV at *
   generalize Z0 w h T D=Yv at *
   generalize c3 q=Q at *
   simp[pY,q_,List.replicate,h1,h2,h3,h6,pC,yc,qO,xZ,Res.bind]
def Zl(S:eV×Option (TT×TT))(e:En):eV×Option (TT×TT):=match rW S.1 (stK e) with
 |none=>(S.1 ++ [(stK e,wM e)],S.2)
 |some v=>if v.2≠e.2.1/\S.2=none then(S.1,some (v,wM e)) else S
def Zg(w h:Int):List En->eV×Option (TT×TT)->Sum En (eV×Option (TT×TT))
 | [],S=>.inr S
 |e::r,S=>if bH w h (stK e) then Zg w h r (Zl S e) else .inl e
theorem Z0a(w h:Int):∀(a b:List En) (S:eV×Option (TT×TT)),Zg w h (a++b) S=(match Zg w h a S with
 | .inl e=>.inl e
 | .inr S'=>Zg w h b S')
 | [],b,S=>rfl
 |e::a,b,S=>by
  rw[List.cons_append,Zg,Zg]
  split
  ·exact Z0a w h a b _
  ·rfl
def Z19(q:P3){r:P3}(h:RG r):yV [.sh (c3 q),.sh (c3 r)]=.ret (.sh (Ţ (Za q r))):=by
 obtain⟨x,y,z⟩:=q
 obtain⟨a,b,c⟩:=r
 obtain⟨a1,a2,b1,b2,c1,c2⟩:=h
 dsimp only at a1 a2 b1 b2 c1 c2
 have mc:∀x,Ņ c x=true:=λx=>cj (by omega) (by omega)
 have ma:∀x,Ņ a x=true:=λx=>cj (by omega) (by omega)
 have mb:∀x,Ņ b x=true:=λx=>cj (by omega) (by omega)
 have hf:∀x,fZ x (2*c)=true:=λx=>DP (by omega) (by omega) (by omega)
 have he:∀x:Int,x.fdiv (2*c)=x / (2*c):=λx=>Int.fdiv_eq_ediv_of_nonneg x (by omega)
 simp[yV,Gu,List.replicate,c3,aH,iy,bU,List.range,List.range.loop,forL,Gs,mc,ma,mb,hf,he,Za,Ţ]
def ltV:Option (TT×TT)->PV
 |none=>.non
 |some a=>wN a
def wO(w h:Int)(s1:P.Slot)(q:P3)(S:eV×Option (TT×TT))(d:Nat)(s6 s7 s8 s9 aD:P.Slot):Ĳ:=[.sh (.tup [.int w,.int h]),s1,.sh (c3 q),.od false (Z1 (Z3 w) Œ S.1),.sh (ltV S.2),.sh (.int d),s6,s7,s8,s9,aD]
def Z0N{w h:Int}{D:List Dy}{s1:P.Slot}(hs:Sl s1 (D.map Ł))(q:P3)(S:eV×Option (TT×TT)){d t:Nat}{x:Dy}(hx:D[d]?=some x)(ho:x.2.2[t]?=some none)(s7 s8 s9 aD:P.Slot) :
 ĵ (wO w h s1 q S d (.sh (.int t)) s7 s8 s9 aD)=.ok .ct (wO w h s1 q S d (.sh (.int t)) (.sh .non) s8 s9 aD):=by
 have h1:(D.map Ł)[d]?=some (Ł x):=by simp[hx]
 have h2:(x.2.2.map cI)[t]?=some .non:=by simp[ho,cI]
 have h3:ė (Ł x) (.int 2)=some (.lst (x.2.2.map cI)):=rfl
 unfold wO
 generalize Z1 (Z3 w) Œ S.1=EK at *
 generalize ltV S.2=L at *
 generalize c3 q=Q at *
 generalize x.2.2.map cI=OS at *
 generalize Ł x=X at *
 generalize D.map Ł=DV at *
 rcases hs with rfl|rfl
 ·simp[ĵ,h1,h2,h3,pC]
 ·simp[ĵ,h1,h2,h3,pC]
def Z0O{w h:Int}(hw:0<=w/\w<=1000){D:List Dy}{s1:P.Slot}(hs:Sl s1 (D.map Ł))(q:P3)(S:eV×Option (TT×TT))(hK:∀x∈S.1,bH w h x.1)(hl:S.1.length<=100000){d t:Nat}{x:Dy}{r:P3}(hx:D[d]?=some x)(ho:x.2.2[t]?=some (some r))(hr:RG r)(s7 s8 s9 aD:P.Slot) :
 ∃Hh Bb Bc nP ρ',ĵ (wO w h s1 q S d (.sh (.int t)) s7 s8 s9 aD)=if bH w h (Za q r) then .ok .nx (wO w h s1 q (Zl S (d,t,Za q r)) d (.sh (.int t)) Hh Bb Bc nP) else .ok (.rt (.sh (Zf (d,t,Za q r)))) ρ':=by
 have h1:(D.map Ł)[d]?=some (Ł x):=by simp[hx]
 have h2:(x.2.2.map cI)[t]?=some (c3 r):=by simp[ho,cI]
 have h3:ė (Ł x) (.int 2)=some (.lst (x.2.2.map cI)):=rfl
 have he:=Z19 q hr
 have hn:pC (c3 r)=false:=rfl
 have hst:stK (d,t,Za q r)=Za q r:=rfl
 have htm:wM (d,t,Za q r)=(d,t):=rfl
 generalize Za q r=u at *
 obtain⟨a,b⟩:=u
 have mb:Ņ b w=true:=mul_r (by omega) (by omega)
 unfold wO
 by_cases hon:bH w h (a,b)
 ·have hi:∀x∈S.1,Z3 w x.1=Z3 w (a,b)->x.1=(a,b):=λx hx h=>ZH (hK x hx) hon h
  have hv:=Zn (g:=Œ) (a,b) S.1 hi
  have hlen:(Z1 (Z3 w) Œ S.1).length<16777216:=by simp[Z1];omega
  have hkN:Z3 w (a,b)=.inl (b*w+a):=rfl
  rw[hkN] at hv
  obtain⟨p1,p2,p3,p4⟩:=hon
  have hon:bH w h (a,b):=⟨p1,p2,p3,p4⟩
  dsimp only at p1 p2 p3 p4
  refine⟨.sh (c3 r),.sh (.int (b*w+a)),.sh (.int a),.sh (.int b),[],?_⟩
  rw[if_pos hon]
  unfold Zl
  rw[hst,htm]
  cases hk:rW S.1 (a,b) with
  |none=>
   rw[hk] at hv
   have hp:=ZG (g:=Œ) (v:=(d,t)) hi hk
   dsimp only
   rw[<-hp,hkN]
   have ht:Œ (d,t)=.tup [.int (d:Int),.int (t:Int)]:=rfl
   rw[ht]
   generalize Z1 (Z3 w) Œ S.1=EK at *
   generalize ltV S.2=L at *
   generalize c3 q=Q at *
   generalize x.2.2.map cI=OS at *
   generalize Ł x=X at *
   generalize D.map Ł=DV at *
   generalize c3 r=R at *
   rcases hs with rfl|rfl
   ·simp[ĵ,h1,h2,h3,hn,he,Ţ,mb,p1,p2,p3,p4,gD,hv,hlen]
   ·simp[ĵ,h1,h2,h3,hn,he,Ţ,mb,p1,p2,p3,p4,gD,hv,hlen]
  |some v=>
   rw[hk,Option.map_some] at hv
   have hix:ė (Œ v) (.int 1)=some (.int v.2):=rfl
   dsimp only
   by_cases hc:v.2=t
   ·rw[if_neg (λz=>z.1 hc)]
    generalize Z1 (Z3 w) Œ S.1=EK at *
    generalize ltV S.2=L at *
    generalize c3 q=Q at *
    generalize x.2.2.map cI=OS at *
    generalize Ł x=X at *
    generalize D.map Ł=DV at *
    generalize c3 r=R at *
    generalize Œ v=VV at *
    rcases hs with rfl|rfl
    ·simp[ĵ,h1,h2,h3,hn,he,Ţ,mb,p1,p2,p3,p4,gD,hv,hlen,hix,hc]
    ·simp[ĵ,h1,h2,h3,hn,he,Ţ,mb,p1,p2,p3,p4,gD,hv,hlen,hix,hc]
   ·have hc':¬(v.2:Int)=(t:Int):=λz=>hc (by omega)
    cases hS:S.2 with
    |none=>
     rw[if_pos ⟨hc,rfl⟩]
     have hlt:ltV none=.non:=rfl
     have hlt2:ltV (some (v,(d,t)))=.tup [.str "alike",Œ v,.tup [.int (d:Int),.int (t:Int)]]:=rfl
     dsimp only
     rw[hlt,hlt2]
     generalize Z1 (Z3 w) Œ S.1=EK at *
     generalize c3 q=Q at *
     generalize x.2.2.map cI=OS at *
     generalize Ł x=X at *
     generalize D.map Ł=DV at *
     generalize c3 r=R at *
     generalize Œ v=VV at *
     have hnn:pC .non=true:=rfl
     rcases hs with rfl|rfl
     ·simp[ĵ,h1,h2,h3,hn,he,Ţ,mb,p1,p2,p3,p4,gD,hv,hlen,hix,hc,hc',hnn]
     ·simp[ĵ,h1,h2,h3,hn,he,Ţ,mb,p1,p2,p3,p4,gD,hv,hlen,hix,hc,hc',hnn]
    |some l=>
     rw[if_neg (λz=>nomatch z.2),hS]
     have hnl:pC (ltV (some l))=false:=rfl
     generalize Z1 (Z3 w) Œ S.1=EK at *
     generalize ltV (some l)=L at *
     generalize c3 q=Q at *
     generalize x.2.2.map cI=OS at *
     generalize Ł x=X at *
     generalize D.map Ł=DV at *
     generalize c3 r=R at *
     generalize Œ v=VV at *
     rcases hs with rfl|rfl
     ·simp[ĵ,h1,h2,h3,hn,he,Ţ,mb,p1,p2,p3,p4,gD,hv,hlen,hix,hc,hc',hnl]
     ·simp[ĵ,h1,h2,h3,hn,he,Ţ,mb,p1,p2,p3,p4,gD,hv,hlen,hix,hc,hc',hnl]
 ·refine⟨s7,s8,s9,aD,[.sh (.tup [.int w,.int h]),s1,.sh (c3 q),.od false (Z1 (Z3 w) Œ S.1),.sh (ltV S.2),.sh (.int d),.sh (.int t),.sh (c3 r),s8,.sh (.int a),.sh (.int b)],?_⟩
  rw[if_neg hon]
  have hof:Zf (d,t,(a,b))=.tup [.str "off",.int (d:Int),.int (t:Int)]:=rfl
  rw[hof]
  have hon:¬(0<=a/\a<w/\0<=b/\b<h):=hon
  generalize Z1 (Z3 w) Œ S.1=EK at *
  generalize ltV S.2=L at *
  generalize c3 q=Q at *
  generalize x.2.2.map cI=OS at *
  generalize Ł x=X at *
  generalize D.map Ł=DV at *
  generalize c3 r=R at *
  by_cases p1:0<=a
  ·by_cases p2:a<w
   ·by_cases p3:0<=b
    ·have p4:¬b<h:=λz=>hon ⟨p1,p2,p3,z⟩
     rcases hs with rfl|rfl
     ·simp[ĵ,h1,h2,h3,hn,he,Ţ,p1,p2,p3,p4]
     ·simp[ĵ,h1,h2,h3,hn,he,Ţ,p1,p2,p3,p4]
    ·rcases hs with rfl|rfl
     ·simp[ĵ,h1,h2,h3,hn,he,Ţ,p1,p2,p3]
     ·simp[ĵ,h1,h2,h3,hn,he,Ţ,p1,p2,p3]
   ·rcases hs with rfl|rfl
    ·simp[ĵ,h1,h2,h3,hn,he,Ţ,p1,p2]
    ·simp[ĵ,h1,h2,h3,hn,he,Ţ,p1,p2]
  ·rcases hs with rfl|rfl
   ·simp[ĵ,h1,h2,h3,hn,he,Ţ,p1]
   ·simp[ĵ,h1,h2,h3,hn,he,Ţ,p1]
def Z0P{w h:Int}{S:eV×Option (TT×TT)}{e:En}(hK:∀x∈S.1,bH w h x.1)(he:bH w h (stK e)):∀x∈(Zl S e).1,bH w h x.1:=by
 intro x hx
 unfold Zl at hx
 split at hx
 ·rcases List.mem_append.mp hx with hx|hx
  ·exact hK x hx
  ·rw[List.mem_singleton.mp hx];exact he
 ·split at hx<;>exact hK x hx
def Z0v(S:eV×Option (TT×TT))(e:En):(Zl S e).1.length<=S.1.length+1:=by
 unfold Zl
 split
 ·simp
 ·split<;>simp
theorem ZJ{w h:Int}(hw:0<=w/\w<=1000){D:List Dy}{s1:P.Slot}(hs:Sl s1 (D.map Ł))(q:P3){d:Nat}{x:Dy}(hx:D[d]?=some x):∀(r:List (Option P3)) (t:Nat) (S:eV×Option (TT×TT)) (s6 s7 s8 s9 aD:P.Slot),x.2.2.drop t=r->(∀o∈r,OG o)->(∀x∈S.1,bH w h x.1)->S.1.length+r.length<=10000->
 (∃e ρ',Zg w h (Ze q d t r) S=.inl e/\forL (gN 6) ĵ ((List.range' t r.length).map λ(i:Nat)=>PV.int (i:Int)) (wO w h s1 q S d s6 s7 s8 s9 aD)=.ok (.rt (.sh (Zf e))) ρ')\/
 ∃S' UJ Hh Bb Bc nP,Zg w h (Ze q d t r) S=.inr S'/\(∀x∈S'.1,bH w h x.1)/\S'.1.length<=S.1.length+r.length/\forL (gN 6) ĵ ((List.range' t r.length).map λ(i:Nat)=>PV.int (i:Int)) (wO w h s1 q S d s6 s7 s8 s9 aD)=.ok .nx (wO w h s1 q S' d UJ Hh Bb Bc nP)
 | [],t,S,s6,s7,s8,s9,aD,_,_,hS,_=>.inr ⟨S,s6,s7,s8,s9,aD,rfl,hS,by simp,rfl⟩
 |o::r,t,S,s6,s7,s8,s9,aD,hr,ho,hS,hl=>by
  have hx2:x.2.2[t]?=some o:=by
   have:=congrArg (λl=>l[0]?) hr
   simpa using this
  have hr':x.2.2.drop (t+1)=r:=by
   have:=congrArg List.tail hr
   simpa using this
  rw[List.length_cons,List.range'_succ,List.map_cons,forL]
  have g1:gN 6 (.int (t:Int)) (wO w h s1 q S d s6 s7 s8 s9 aD)=some (wO w h s1 q S d (.sh (.int t)) s7 s8 s9 aD):=rfl
  rw[g1]
  dsimp only
  have ho':∀o∈r,OG o:=λy hy=>ho y (List.mem_cons_of_mem _ hy)
  cases o with
  |none=>
   rw[Z0N hs q S hx hx2 s7 s8 s9 aD]
   rcases ZJ hw hs q hx r (t+1) S (.sh (.int t)) (.sh .non) s8 s9 aD hr' ho' hS (by simp at hl;omega) with⟨e,ρ',h1,h2⟩|⟨S',a,b,c,f,g,h1,h2,h3,h4⟩
   ·exact .inl ⟨e,ρ',h1,h2⟩
   ·exact .inr ⟨S',a,b,c,f,g,h1,h2,by omega,h4⟩
  |some y=>
   obtain⟨a7,a8,a9,a10,ρ',e1⟩:=Z0O hw hs q S hS (by omega) hx hx2 (ho _ List.mem_cons_self y rfl) s7 s8 s9 aD
   rw[Ze,Zg]
   by_cases hon:bH w h (Za q y)
   ·rw[if_pos hon] at e1
    have Kq:bH w h (stK (d,t,Za q y)):=hon
    rw[if_pos Kq,e1]
    have hz:=Z0v S (d,t,Za q y)
    rcases ZJ hw hs q hx r (t+1) (Zl S (d,t,Za q y)) (.sh (.int t)) a7 a8 a9 a10 hr' ho' (Z0P hS Kq) (by simp at hl;omega) with⟨e,ρ',h1,h2⟩|⟨S',a,b,c,f,g,h1,h2,h3,h4⟩
    ·exact .inl ⟨e,ρ',h1,h2⟩
    ·exact .inr ⟨S',a,b,c,f,g,h1,h2,by omega,h4⟩
   ·rw[if_neg hon] at e1
    have Kq:¬bH w h (stK (d,t,Za q y)):=hon
    rw[if_neg Kq,e1]
    exact .inl ⟨_,ρ',rfl,rfl⟩
theorem Z0b{w h:Int}(hw:0<=w/\w<=1000){D:List Dy}{s1:P.Slot}(hs:Sl s1 (D.map Ł))(q:P3)(hD:∀x∈D,Ba x):∀(r:List Dy) (d:Nat) (S:eV×Option (TT×TT)) (s5 s6 s7 s8 s9 aD:P.Slot),D.drop d=r->(∀x∈S.1,bH w h x.1)->S.1.length+r.length*24<=10000->
 (∃e ρ',Zg w h (Z7 q d r) S=.inl e/\forL (gN 5) iY ((List.range' d r.length).map λ(i:Nat)=>PV.int (i:Int)) [.sh (.tup [.int w,.int h]),s1,.sh (c3 q),.od false (Z1 (Z3 w) Œ S.1),.sh (ltV S.2),s5,s6,s7,s8,s9,aD]=.ok (.rt (.sh (Zf e))) ρ')\/
 ∃S' KQ UJ Hh Bb Bc nP,Zg w h (Z7 q d r) S=.inr S'/\forL (gN 5) iY ((List.range' d r.length).map λ(i:Nat)=>PV.int (i:Int)) [.sh (.tup [.int w,.int h]),s1,.sh (c3 q),.od false (Z1 (Z3 w) Œ S.1),.sh (ltV S.2),s5,s6,s7,s8,s9,aD]=.ok .nx [.sh (.tup [.int w,.int h]),s1,.sh (c3 q),.od false (Z1 (Z3 w) Œ S'.1),.sh (ltV S'.2),KQ,UJ,Hh,Bb,Bc,nP]
 | [],d,S,s5,s6,s7,s8,s9,aD,_,hS,_=>.inr ⟨S,s5,s6,s7,s8,s9,aD,rfl,rfl⟩
 |x::r,d,S,s5,s6,s7,s8,s9,aD,hr,hS,hl=>by
  have hx:D[d]?=some x:=by
   have:=congrArg (λl=>l[0]?) hr
   simpa using this
  have hr':D.drop (d+1)=r:=by
   have:=congrArg List.tail hr
   simpa using this
  have hk:=hD x (List.mem_of_getElem? hx)
  rw[List.length_cons,List.range'_succ,List.map_cons,forL]
  have g1:gN 5 (.int (d:Int)) [.sh (.tup [.int w,.int h]),s1,.sh (c3 q),.od false (Z1 (Z3 w) Œ S.1),.sh (ltV S.2),s5,s6,s7,s8,s9,aD]=some (wO w h s1 q S d s6 s7 s8 s9 aD):=rfl
  rw[g1]
  dsimp only
  have h1:(D.map Ł)[d]?=some (Ł x):=by simp[hx]
  have h3:ė (Ł x) (.int 2)=some (.lst (x.2.2.map cI)):=rfl
  have h4:(x.2.2.map cI).length=x.2.2.length:=by simp
  have rr:=ZO (n:=x.2.2.length) (by have:=hk.1;omega)
  have e0:iY (wO w h s1 q S d s6 s7 s8 s9 aD)=forL (gN 6) ĵ ((List.range' 0 x.2.2.length).map λ(i:Nat)=>PV.int (i:Int)) (wO w h s1 q S d s6 s7 s8 s9 aD):=by
   rw[<-List.range_eq_range']
   unfold wO
   generalize Z1 (Z3 w) Œ S.1=EK at *
   generalize ltV S.2=L at *
   generalize c3 q=Q at *
   generalize (List.range x.2.2.length).map (λ(i:Nat)=>PV.int (i:Int))=RR at *
   generalize x.2.2.map cI=OS at *
   generalize Ł x=X at *
   generalize D.map Ł=DV at *
   rcases hs with rfl|rfl
   ·simp[iY,h1,h3,h4,rr]
   ·simp[iY,h1,h3,h4,rr]
  rw[e0]
  have hk1:=hk.1
  rw[Z7,Z0a]
  rcases ZJ hw hs q hx x.2.2 0 S s6 s7 s8 s9 aD rfl hk.2 hS (by simp at hl;omega) with⟨e,ρ',i1,i2⟩|⟨S',b6,b7,b8,b9,b10,i1,i2,i3,i4⟩
  ·rw[i1,i2]
   exact .inl ⟨e,ρ',rfl,rfl⟩
  ·rw[i1,i4]
   exact Z0b hw hs q hD r (d+1) S' (.sh (.int d)) b6 b7 b8 b9 b10 hr' i2 (by simp at hl;omega)
def Z1k(k:Int):cG (LK k)=k:=by
 unfold cG LK
 dsimp only
 have h1:=Int.emod_def k MP
 have h2:=Int.mul_comm MP (k / MP)
 omega
def ZX{ps:List (Int×Int)}(hb:∀p∈ps,0<=p.2/\p.2<MP):(ų ps).Perm ps:=by
 unfold ų
 have h:=(ŵ (ps.map cG)).map LK
 have e:(ps.map cG).map LK=ps:=by
  rw[List.map_map]
  conv=>rhs;rw[<-List.map_id ps]
  refine List.map_congr_left λp hp=>?_
  exact yN (hb p hp).1 (hb p hp).2
 rw[e] at h
 exact h
def Z0Q{ps:List (Int×Int)}(hb:∀p∈ps,0<=p.2/\p.2<MP):(ų ps).map (·.1)=gG (ps.map (·.1)):=by
 have hp:=ZX hb
 refine dF ?_ (ū _) ((hp.map _).trans (ŵ _).symm)
 have hs:((ų ps).map cG).Pairwise (·<= ·):=by
  unfold ų
  rw[List.map_map]
  have:(gG (ps.map cG)).map (cG ∘ LK)=gG (ps.map cG):=by
   conv=>rhs;rw[<-List.map_id (gG (ps.map cG))]
   exact List.map_congr_left λk _=>Z1k k
  rw[this]
  exact ū _
 rw[List.pairwise_map] at hs ⊢
 refine List.Pairwise.imp_of_mem ?_ hs
 intro a b ha hb' h
 have h1:=hb a (hp.mem_iff.mp ha)
 have h2:=hb b (hp.mem_iff.mp hb')
 unfold cG at h
 have hM:MP=4294967296:=rfl
 rw[hM] at h h1 h2
 omega
def Z1q{w:Int}{K:eV}(ht:∀x∈K,x.2.2<1000):∀p∈Zb w K,0<=p.2/\p.2<MP:=by
 intro p hp
 obtain⟨x,hx,rfl⟩:=List.mem_map.mp hp
 have:=ht x hx
 have hM:MP=4294967296:=rfl
 rw[hM]
 dsimp only
 omega
theorem Z0w{α β:Type}[DecidableEq α]:∀{K:List (α×β)},(K.map (·.1)).Nodup->∀x∈K,rW K x.1=some x.2
 | [],_,x,hx=>nomatch hx
 |p::K,hn,x,hx=>by
  rw[List.map_cons,List.nodup_cons] at hn
  rcases List.mem_cons.mp hx with rfl|hx
  ·exact ZA rfl
  ·by_cases e:p.1=x.1
   ·exact absurd (List.mem_map.mpr ⟨x,hx,e.symm⟩) hn.1
   ·rw[ZB e];exact Z0w hn.2 x hx
theorem ZY(w:Int):∀K:eV,bF (Z1 (Z3 w) Œ K)=(Zb w K).map (·.1)
 | []=>rfl
 |x::K=>by
  have ih:=ZY w K
  show bF ((.inl (num w x.1),Œ x.2)::Z1 (Z3 w) Œ K)=num w x.1::(Zb w K).map (·.1)
  rw[<-ih]
  rfl
def Z0x{w h:Int}{K:eV}(hK:∀x∈K,bH w h x.1)(hn:(K.map (·.1)).Nodup)(ht:∀x∈K,x.2.2<1000)(hl:K.length<=10000)(s:P.Slot):Ŝ (gN 1) bV (Ŕ (Ą (Ė 1) (Ą (ă ė (jq 0 (Ė 1)) (mC (.int 1))) ĕ))) ((gG (bF (Z1 (Z3 w) Œ K))).map .int) [.bd false (Z1 (Z3 w) Œ K),s] []=some ((ų (Zb w K)).map tupP):=by
 have hb:=Z1q (w:=w) ht
 have hp:=ZX hb
 rw[ZY,<-Z0Q hb,List.map_map]
 have:=bD (g:=gN 1) (mt:=bV) (me:=Ŕ (Ą (Ė 1) (Ą (ă ė (jq 0 (Ė 1)) (mC (.int 1))) ĕ))) (λ(p:Int×Int)=>PV.int p.1) tupP (λρ=>∃s,ρ=[.bd false (Z1 (Z3 w) Œ K),s]) (ų (Zb w K)) [.bd false (Z1 (Z3 w) Œ K),s] [] ⟨_,rfl⟩ (by rw[hp.length_eq];simp[Zb];omega) (by
  rintro p hp' ρ ⟨s,rfl⟩
  obtain⟨x,hx,rfl⟩:=List.mem_map.mp (hp.mem_iff.mp hp')
  have hv:=Zn (f:=Z3 w) (g:=Œ) x.1 K λy hy h=>ZH (hK y hy) (hK x hx) h
  rw[Z0w hn x hx,Option.map_some] at hv
  have hkN:Z3 w x.1=.inl (num w x.1):=rfl
  rw[hkN] at hv
  have hix:ė (Œ x.2) (.int 1)=some (.int x.2.2):=rfl
  dsimp only
  generalize Z1 (Z3 w) Œ K=EK at *
  generalize Œ x.2=VV at *
  refine⟨[.bd false EK,.sh (.int (num w x.1))],[.bd false EK,.sh (.int (num w x.1))],[.bd false EK,.sh (.int (num w x.1))],by simp,by simp,?_,_,rfl⟩
  generalize num w x.1=N at *
  simp[gD,hv,hix,tupP])
 rw[List.nil_append] at this
 exact this
theorem ZZ(w h:Int)(a:TT×TT):∀(E:List En) (K:eV),(∀e∈E,bH w h (stK e))->Zg w h E (K,some a)=.inr (E.foldl Z4 K,some a)
 | [],K,_=>rfl
 |e::E,K,hE=>by
  rw[Zg,if_pos (hE e List.mem_cons_self)]
  have:Zl (K,some a) e=(Z4 K e,some a):=by
   unfold Zl Z4
   dsimp only
   cases hx:rW K (stK e) with
   |none=>rfl
   |some v=>dsimp only;rw[if_neg (λz=>nomatch z.2)]
  rw[this]
  exact ZZ w h a E (Z4 K e) λx hx=>hE x (List.mem_cons_of_mem _ hx)
theorem Zq(w h:Int):∀(E:List En) (K:eV),(∀e∈E,bH w h (stK e))->Zg w h E (K,none)=.inr (E.foldl Z4 K,Z5 E K)
 | [],K,_=>rfl
 |e::E,K,hE=>by
  have hE':∀x∈E,bH w h (stK x):=λx hx=>hE x (List.mem_cons_of_mem _ hx)
  rw[Zg,if_pos (hE e List.mem_cons_self),Z5]
  show Zg w h E (Zl (K,none) e)=.inr (E.foldl Z4 (Z4 K e),_)
  unfold Zl Z4
  dsimp only
  cases hx:rW K (stK e) with
  |none=>exact Zq w h E _ hE'
  |some v=>
   dsimp only
   by_cases hc:v.2=e.2.1
   ·rw[if_neg (λz=>z.1 hc),if_pos hc]
    exact Zq w h E _ hE'
   ·rw[if_pos ⟨hc,rfl⟩,if_neg hc]
    exact ZZ w h _ E _ hE'
theorem ZK(w h:Int){x:En}:∀(E:List En) (S:eV×Option (TT×TT)),E.find? (Z9 w h)=some x->Zg w h E S=.inl x
 | [],S,hf=>nomatch hf
 |e::E,S,hf=>by
  rw[Zg]
  by_cases ho:bH w h (stK e)
  ·have e0:Z9 w h e=false:=by simp[Z9,ho]
   rw[List.find?_cons,e0] at hf
   rw[if_pos ho]
   exact ZK w h E _ hf
  ·have e0:Z9 w h e=true:=by simp[Z9,ho]
   rw[List.find?_cons,e0] at hf
   cases hf
   rw[if_neg ho]
def Z0R(w h:Int)(E:List En):PV:=match E.find? (Z9 w h) with
 |some e=>Zf e
 |none=>match Z5 E [] with
  |some a=>wN a
  |none=>.tup [.str "marks",.lst ((ų (Zb w (E.foldl Z4 []))).map tupP)]
def Z0S{w h:Int}(hw:0<=w/\w<=1000){D:List Dy}{s1:P.Slot}(hs:Sl s1 (D.map Ł))(q:P3)(hD:∀x∈D,Ba x)(hl:D.length<=12):gJ [.sh (.tup [.int w,.int h]),s1,.sh (c3 q)]=.ret (.sh (Z0R w h (Z7 q 0 D))):=by
 have rr:=ZO (n:=D.length) (by omega)
 have hlen:(D.map Ł).length=D.length:=by simp
 have hel:=Zu q D 0 hD
 have hot:=Z0b (h:=h) hw hs q hD D 0 ([],none) .no .no .no .no .no .no rfl (by simp) (by simp;omega)
 have h4:=ZR q D 0 hD
 have z1:Z1 (Z3 w) Œ []=[]:=rfl
 have z2:ltV none=.non:=rfl
 rw[<-List.range_eq_range',z1,z2] at hot
 unfold Z0R
 generalize Z7 q 0 D=E at *
 rcases hot with⟨e,ρ',i1,i2⟩|⟨S',b5,b6,b7,b8,b9,b10,i1,i2⟩
 ·cases hf:E.find? (Z9 w h) with
  |none=>
   have hon:∀e∈E,bH w h (stK e):=by
    intro e he
    have:=List.find?_eq_none.mp hf e he
    simpa[Z9] using this
   rw[Zq w h E [] hon] at i1
   cases i1
  |some y=>
   rw[ZK w h E _ hf] at i1
   cases i1
   dsimp only
   generalize Zf e=O at *
   generalize (List.range D.length).map (λ(i:Nat)=>PV.int (i:Int))=RR at *
   generalize D.map Ł=DV at *
   generalize c3 q=Q at *
   rcases hs with rfl|rfl
   ·simp[gJ,fC,List.replicate,hlen,rr,i2]
   ·simp[gJ,fC,List.replicate,hlen,rr,i2]
 ·cases hf:E.find? (Z9 w h) with
  |some y=>
   rw[ZK w h E _ hf] at i1
   cases i1
  |none=>
   have hon:∀e∈E,bH w h (stK e):=by
    intro e he
    have:=List.find?_eq_none.mp hf e he
    simpa[Z9] using this
   rw[Zq w h E [] hon] at i1
   injection i1 with i1
   subst i1
   dsimp only at i2 ⊢
   cases ha:Z5 E [] with
   |some a=>
    rw[ha] at i2
    have hn:pC (ltV (some a))=false:=rfl
    have hq:ltV (some a)=wN a:=rfl
    dsimp only
    rw[<-hq]
    generalize ltV (some a)=L at *
    generalize Z1 (Z3 w) Œ (E.foldl Z4 [])=EK at *
    generalize (List.range D.length).map (λ(i:Nat)=>PV.int (i:Int))=RR at *
    generalize D.map Ł=DV at *
    generalize c3 q=Q at *
    rcases hs with rfl|rfl
    ·simp[gJ,fC,List.replicate,hlen,rr,i2,hn]
    ·simp[gJ,fC,List.replicate,hlen,rr,i2,hn]
   |none=>
    rw[ha] at i2
    have hc:=Z0x (w:=w) (h:=h) (K:=E.foldl Z4 []) (Z0l E [] hon (by simp)) (Z0m E [] (by simp)) (ZP E [] h4 (by simp)) (by have:=ZI E [];simp at this;omega) .no
    rw[z2] at i2
    dsimp only
    generalize (ų (Zb w (E.foldl Z4 []))).map tupP=MM at *
    generalize Z1 (Z3 w) Œ (E.foldl Z4 [])=EK at *
    generalize (List.range D.length).map (λ(i:Nat)=>PV.int (i:Int))=RR at *
    generalize D.map Ł=DV at *
    generalize c3 q=Q at *
    have hnn:pC .non=true:=rfl
    rcases hs with rfl|rfl
    ·simp[gJ,fC,List.replicate,hlen,rr,i2,hnn,fY,fX,gD,hc]
    ·simp[gJ,fC,List.replicate,hlen,rr,i2,hnn,fY,fX,gD,hc]
def Z1r(i:Int):au (.int i) "tuple" =some false:=by rfl
def Z1s(i:Int):au (.int i) "list" =some false:=by rfl
def Z1t(i:Int):au (.int i) "str" =some false:=by rfl
def Z1u(i:Int):au (.int i) "int" =some true:=by rfl
def Z1v(i:Int):au (.int i) "bool" =some false:=by rfl
def Z1w(s:Str):au (.str s) "tuple" =some false:=by rfl
def Z1x(s:Str):au (.str s) "list" =some false:=by rfl
def Z1y(s:Str):au (.str s) "str" =some true:=by rfl
def Z1z(l:List PV):au (.lst l) "tuple" =some false:=by rfl
def Z1A(l:List PV):au (.lst l) "list" =some true:=by rfl
def Z1B(l:List PV):au (.tup l) "tuple" =some true:=by rfl
def Z1C(l:List PV):au (.tup l) "list" =some false:=by rfl
def Z0y:gk (.bl true) (.bl true)=some (.bl false):=rfl
def Z0z:gk (.bl false) (.bl false)=some (.bl false):=rfl
theorem Z00:∀l:List Bool,boolsOf (l.map .bl)=some l
 | []=>rfl
 |b::l=>by
  show(boolsOf (l.map .bl)).map (b:: ·)=_
  rw[Z00 l];rfl
def Z0n{α:Type}(l:List α):ud [.lst (l.map λ_=>PV.bl true)]=some (.bl true):=by
 have e:(l.map λ_=>PV.bl true)=(l.map λ_=>true).map .bl:=by rw[List.map_map];rfl
 rw[e]
 show(boolsOf ((l.map λ_=>true).map .bl)).map (λbs=>PV.bl (bs.all id))=_
 rw[Z00]
 simp
theorem cY:∀l:List PV,iI l l=l.map λx=>PV.tup [x,x]
 | []=>rfl
 |x::l=>by
  rw[iI,cY l]
  rfl
def Zz(mf:MF)(i:Int):ĺ 2 2 (Z2 mf) [.sh (.int i),.sh (.int i)]=.ret (.sh (.bl true)):=by
 simp[Z2,List.replicate,Z1r,Z1s,Z1t,Z1u,Z1v,pC]
def Z0c(mf:MF){s:Str}(h:ő (.str s) (.str s)=some (.bl true)):ĺ 2 2 (Z2 mf) [.sh (.str s),.sh (.str s)]=.ret (.sh (.bl true)):=by
 simp[Z2,List.replicate,Z1w,Z1x,Z1y,pC,h]
def Z0o(mf:MF){L:List PV}(hl:L.length<=1000000)(h:∀p∈L,mf [.sh p,.sh p]=.ret (.sh (.bl true))):Ŝ (gT 2 (Č (gN 0) (Č (gN 1) ń))) bV (ē (Ĝ mf (ĉ 0 (ĉ 1 Ę)))) (iI L L) [.no,.no] []=some (L.map λ_=>PV.bl true):=by
 rw[cY]
 have c:=bD (g:=gT 2 (Č (gN 0) (Č (gN 1) ń))) (mt:=bV) (me:=ē (Ĝ mf (ĉ 0 (ĉ 1 Ę)))) (λb=>PV.tup [b,b]) (λ_=>PV.bl true) (λρ=>∃a b,ρ=[a,b]) L [.no,.no] [] ⟨_,_,rfl⟩ (by simp;omega) (by
  rintro B hB ρ ⟨x,y,rfl⟩
  have e:=h B hB
  exact⟨[.sh B,.sh B],[.sh B,.sh B],[.sh B,.sh B],by simp,by simp,by simp[e],_,_,rfl⟩)
 rw[List.nil_append] at c
 exact c
def ZN(mf:MF){L:List PV}(hl:L.length<=1000000)(h:∀p∈L,mf [.sh p,.sh p]=.ret (.sh (.bl true))):ĺ 2 2 (Z2 mf) [.sh (.tup L),.sh (.tup L)]=.ret (.sh (.bl true)):=by
 have c:=Z0o mf hl h
 have al:=Z0n L
 generalize (L.map λ_=>PV.bl true)=Q at *
 simp[Z2,List.replicate,Z1B,Z1C,Z0y,Z0z,Jq,vW,c,al]
def Z1l(mf:MF){L:List PV}(hl:L.length<=1000000)(h:∀p∈L,mf [.sh p,.sh p]=.ret (.sh (.bl true))):ĺ 2 2 (Z2 mf) [.sh (.lst L),.sh (.lst L)]=.ret (.sh (.bl true)):=by
 have c:=Z0o mf hl h
 have al:=Z0n L
 generalize (L.map λ_=>PV.bl true)=Q at *
 simp[Z2,List.replicate,Z1z,Z1A,Z0y,Z0z,Jq,vW,c,al]
def Z1m:ő (.str "off") (.str "off")=some (.bl true):=by rw[œ (by decide +kernel) (by decide +kernel)];rfl
def Z0T:ő (.str "alike") (.str "alike")=some (.bl true):=by rw[œ (by decide +kernel) (by decide +kernel)];rfl
def Z0d:ő (.str "marks") (.str "marks")=some (.bl true):=by rw[œ (by decide +kernel) (by decide +kernel)];rfl
def Z1n:ő (.str "off") (.str "marks")=some (.bl false):=by rw[œ (by decide +kernel) (by decide +kernel)];rfl
def Z0U:ő (.str "alike") (.str "marks")=some (.bl false):=by rw[œ (by decide +kernel) (by decide +kernel)];rfl
def Z0V(e:En):uT [.sh (Zf e),.sh (Zf e)]=.ret (.sh (.bl true)):=by
 refine ZN _ (by simp) ?_
 intro p hp
 simp at hp
 rcases hp with rfl|rfl|rfl
 ·exact Z0c _ Z1m
 ·exact Zz _ _
 ·exact Zz _ _
def ZS(mf:MF)(hf:∀i:Int,mf [.sh (.int i),.sh (.int i)]=.ret (.sh (.bl true)))(a b:Int):ĺ 2 2 (Z2 mf) [.sh (.tup [.int a,.int b]),.sh (.tup [.int a,.int b])]=.ret (.sh (.bl true)):=by
 refine ZN _ (by simp) ?_
 intro p hp
 simp at hp
 rcases hp with rfl|rfl
 ·exact hf _
 ·exact hf _
def Z1a(a:TT×TT):uT [.sh (wN a),.sh (wN a)]=.ret (.sh (.bl true)):=by
 refine ZN _ (by simp) ?_
 intro p hp
 simp at hp
 rcases hp with rfl|rfl|rfl
 ·exact Z0c _ Z0T
 ·exact ZS _ (λi=>Zz _ i) _ _
 ·exact ZS _ (λi=>Zz _ i) _ _
def Z1b{R:List (Int×Int)}(hl:R.length<=1000000):uT [.sh (.tup [.str "marks",.lst (R.map tupP)]),.sh (.tup [.str "marks",.lst (R.map tupP)])]=.ret (.sh (.bl true)):=by
 refine ZN _ (by simp) ?_
 intro p hp
 rcases List.mem_cons.mp hp with rfl|hp
 ·exact Z0c _ Z0d
 ·rw[List.mem_singleton.mp hp]
  refine Z1l _ (by simpa using hl) ?_
  intro p hp
  obtain⟨x,_,rfl⟩:=List.mem_map.mp hp
  exact ZS _ (λi=>Zz _ i) _ _
def Hl{w h:Int}{T:List Th}{D:List Dy}(hw:0<=w/\w<=1000)(q:P3)(hD:∀x∈D,Ba x)(hl:D.length<=12)(s0 s3 s5 s6 s8 s9:P.Slot):∃Bc,m_ [s0,.sh (.tup [.int w,.int h]),.sh (.lst (D.map Ł)),s3,.sh (Z0 w h T D),s5,s6,.sh (c3 q),s8,s9]=.ok .nx [s0,.sh (.tup [.int w,.int h]),.sh (.lst (D.map Ł)),s3,.sh (Z0 w h T D),s5,s6,.sh (c3 q),s8,Bc]:=by
 have h1:=Z18 (w:=w) (h:=h) (T:=T) hw q hD hl
 have h2:=Z0S (h:=h) hw (s1:=.sh (.lst (D.map Ł))) (.inl rfl) q hD hl
 have hel:=Zu q D 0 hD
 unfold Z0R at h2
 generalize Z7 q 0 D=E at *
 cases hf:E.find? (Z9 w h) with
 |some e=>
  rw[hf] at h1 h2
  dsimp only at h1 h2
  have h3:=Z0V e
  have h4:ė (Zf e) (.int 0)=some (.str "off"):=rfl
  refine⟨.sh (Zf e),?_⟩
  generalize Zf e=O at *
  generalize D.map Ł=DV at *
  generalize Z0 w h T D=Yv at *
  generalize c3 q=Q at *
  simp[m_,jk,h1,h2,h3,h4,Z1n]
 |none=>
  cases ha:Z5 E [] with
  |some a=>
   rw[hf,ha] at h1 h2
   dsimp only at h1 h2
   have h3:=Z1a a
   have h4:ė (wN a) (.int 0)=some (.str "alike"):=rfl
   refine⟨.sh (wN a),?_⟩
   generalize wN a=O at *
   generalize D.map Ł=DV at *
   generalize Z0 w h T D=Yv at *
   generalize c3 q=Q at *
   simp[m_,jk,h1,h2,h3,h4,Z0U]
  |none=>
   rw[hf,ha] at h1 h2
   dsimp only at h1 h2
   have hlen:(ų (Zb w (E.foldl Z4 []))).length<=100000:=by
    have hK:=ZI E []
    have:(ų (Zb w (E.foldl Z4 []))).length=(E.foldl Z4 []).length:=by
     unfold ų
     rw[List.length_map,(ŵ _).length_eq]
     simp[Zb]
    rw[this]
    simp at hK
    omega
   have h3:=Z1b (R:=ų (Zb w (E.foldl Z4 []))) (by omega)
   have hlm:((ų (Zb w (E.foldl Z4 []))).map tupP).length<16777216:=by rw[List.length_map];omega
   refine⟨.ot [.str "marks"] ((ų (Zb w (E.foldl Z4 []))).map tupP ++ [.tup [.int 0,.int 0]]) [],?_⟩
   generalize (ų (Zb w (E.foldl Z4 []))).map tupP=MM at *
   generalize D.map Ł=DV at *
   generalize Z0 w h T D=Yv at *
   generalize c3 q=Q at *
   simp[m_,jk,ur,RV.slot,h1,h2,h3,Z0d,hlm]
def Pb(ns:List Int)(A:Nat)(acc:List PV)(ha:acc.length<=100)(s1 s2 s3 s4 s7 s8 s9:P.Slot):∃(q:P3) (Bb:P.Slot),ni [.sh (.lst (ns.map .int)),s1,s2,s3,s4,.ow acc,.sh (.int (A:Nat)),s7,s8,s9]=.ok .nx [.sh (.lst (ns.map .int)),s1,s2,s3,s4,.ow (acc ++ [c3 q]),.sh (.int (A:Nat)),s7,Bb,s9]:=by
 have c0:=Zm ns A
 have c1:=Zm ns (A+1)
 have c2:=Zm ns (A+2)
 generalize ns.getD A 0=a at c0
 generalize ns.getD (A+1) 0=b at c1
 generalize ns.getD (A+2) 0=c at c2
 have c1:ſ [.sh (.lst (ns.map .int)),.sh (.int ((A:Int)+1))]=.ret (.sh (.int b)):=c1
 have c2:ſ [.sh (.lst (ns.map .int)),.sh (.int ((A:Int)+2))]=.ret (.sh (.int c)):=c2
 have hl:acc.length<16777216:=by omega
 refine⟨(a % 1000000000 % 19-4,b % 1000000000 % 19-4,1+c % 1000000000 % 4),.ow [.int (a % 1000000000),.int (b % 1000000000),.int (c % 1000000000)],?_⟩
 generalize ns.map PV.int=NS at *
 have hcm:Ŝ (gN 2) bV (ă Ğ (ē (Ĝ ſ (ĉ 0 (Ī (ē (ģ ġ (Ā 1) (Ā 2))) Ę)))) (ă Ż (mC (.int 10)) (mC (.int 9)))) [.int 0,.int 1,.int 2] [.sh (.lst NS),.sh (.int (A:Int)),.no] []=some [.int (a % 1000000000),.int (b % 1000000000),.int (c % 1000000000)]:=by
  simp[Ŝ,c0,c1,c2,-Zo]
 have hr:aH [.int 3]=some [.int 0,.int 1,.int 2]:=rfl
 simp[ni,fY,fX,hr,hcm,hl,c3,-Int.emod_emod_of_dvd]
def Z1o{l:PySem.W.OpenLaw}{w:World}{K:PySem.W.Frag}{mg:Str->Option Value}{fa:Addr}{a:Gw}(T:Tx K mg a)(hfa:mg "law" =some (.ref fa)):∃fd:FuncData,(∀(s:Shared) (v:Value),BindsTo s fd ⟨[v],[]⟩ [("_law_script",v)])/\∀base:Heap,K.In base->base.Ns mainGlobals mg->∃cm,ī l.prog w K mg base aR 6 fa fd ["_law_script"] (aW ⟨K,cm⟩ 1 pZ):=by
 have e:=hfa.symm.trans T.GF.m
 cases e
 exact⟨a.Gz,λs v=>T.GF.bb s [v] rfl,λbase _ _=>⟨_,Uz T⟩⟩
def Z0W(ns:List Int)(hn:ns.length<=63):pZ [.sh (.lst (ns.map .int))]=.ret (.sh (.bl true)):=by
 obtain⟨w,h,e1,w1,w2,_,_⟩:=Z0G (ns.getD 0 0)
 obtain⟨D,hl,hD,e2⟩:=Z16 ns 7
 obtain⟨T,hT,e3⟩:=Z0f (ns.getD 0 0 / 7)
 have e2:gH [.sh (.lst (ns.map .int)),.sh (.int 7),.sh (.int 4)]=.ret (.ow (D.map Ł)):=e2
 have e4:=Z12 w h (T:=T) (D:=D) (by omega) (by omega) (s3:=.bw (T.map qd)) (s4:=.sh (.lst (D.map Ł))) (.inr rfl) (.inl rfl)
 have e5:=ZU D (by omega) .no .no .no
 have yv:PV.ins "Yard" ["width","height","things","days"] [.int w,.int h,.lst (T.map qd),.lst (D.map Ł)]=Z0 w h T D:=rfl
 obtain⟨q1,a8,p1⟩:=Pb ns 1 [] (by simp) (.sh (.tup [.int w,.int h])) (.sh (.lst (D.map Ł))) (.ow (T.map qd)) (.sh (Z0 w h T D)) .no .no .no
 obtain⟨q2,b8,p2⟩:=Pb ns 4 [c3 q1] (by simp) (.sh (.tup [.int w,.int h])) (.sh (.lst (D.map Ł))) (.ow (T.map qd)) (.sh (Z0 w h T D)) .no a8 .no
 rw[List.nil_append] at p1
 have p1:ni [.sh (.lst (ns.map .int)),.sh (.tup [.int w,.int h]),.sh (.lst (D.map Ł)),.ow (T.map qd),.sh (Z0 w h T D),.ow [],.sh (.int 1),.no,.no,.no]=.ok .nx [.sh (.lst (ns.map .int)),.sh (.tup [.int w,.int h]),.sh (.lst (D.map Ł)),.ow (T.map qd),.sh (Z0 w h T D),.ow [c3 q1],.sh (.int 1),.no,a8,.no]:=p1
 have p2:ni [.sh (.lst (ns.map .int)),.sh (.tup [.int w,.int h]),.sh (.lst (D.map Ł)),.ow (T.map qd),.sh (Z0 w h T D),.ow [c3 q1],.sh (.int 4),.no,a8,.no]=.ok .nx [.sh (.lst (ns.map .int)),.sh (.tup [.int w,.int h]),.sh (.lst (D.map Ł)),.ow (T.map qd),.sh (Z0 w h T D),.ow [c3 q1,c3 q2],.sh (.int 4),.no,b8,.no]:=p2
 obtain⟨x1,r1⟩:=Hl (w:=w) (h:=h) (T:=T) (by omega) q1 hD hl (.sh (.lst (ns.map .int))) (.ow (T.map qd)) (.ow [c3 q1,c3 q2]) (.sh (.int 4)) b8 .no
 obtain⟨x2,r2⟩:=Hl (w:=w) (h:=h) (T:=T) (by omega) q2 hD hl (.sh (.lst (ns.map .int))) (.ow (T.map qd)) (.ow [c3 q1,c3 q2]) (.sh (.int 4)) b8 x1
 obtain⟨x3,r3⟩:=Hl (w:=w) (h:=h) (T:=T) (by omega) q1 hD hl (.sh (.lst (ns.map .int))) (.ow (T.map qd)) (.ow [c3 q1,c3 q2]) (.sh (.int 4)) b8 x2
 have hc:ſ [.sh (.lst (ns.map .int)),.sh (.int 0)]=.ret (.sh (.int (ns.getD 0 0))):=Zm ns 0
 clear hD hl hT w1 w2
 generalize ns.getD 0 0=c at *
 generalize ns.map PV.int=NS at *
 generalize D.map Ł=DV at *
 generalize T.map qd=TV at *
 generalize Z0 w h T D=Yv at *
 generalize c3 q1=Q1 at *
 generalize c3 q2=Q2 at *
 simp[pZ,Gv,List.replicate,hc,e1,e2,e3,e4,e5,yv,fY,forL,p1,p2,r1,r2,r3,-Zo]
def Z1D{l:PySem.W.OpenLaw}{q:Program}{loose:List Str}{XP:(Str->Option Value)->Heap->Prop}{YP:World->Heap->Prop}{d:DefRec}{K:Params->PySem.W.Frag}(hn:l.most=some 63)(hdf:d.params.defaults=[])
 (hY:∀(w:World) (h:Heap),YP w h->(K w.params).In h)
 (F:∀(w:World) (mg:Str→Option Value) (fa:Addr) (h:Heap),(K w.params).In h→h.Ns mainGlobals mg→mg d.name=some (.ref fa)→
   ∃fd:FuncData,(∀(s:Shared) (u:Value),BindsTo s fd ⟨[u],[]⟩ [("_law_script",u)])/\∀base:Heap,(K w.params).In base->base.Ns mainGlobals mg->∃cm,ī l.prog w (K w.params) mg base aR 6 fa fd ["_law_script"] (aW ⟨K w.params,cm⟩ 1 pZ)) :
 PySem.W.WalkO q loose XP YP l.row.toRowW d [] (λf vs=>PySem.call f vs):=
 P.Dl (k:=6) (x:= "_law_script") (CX:=aR) (m:=pZ) hn hdf ⟨rfl,by decide,by decide⟩ hY F Z0W (λ_ _ _ _ z=>z)
end
end T
namespace PySem.W.Fast
def tw6569222085198573678:=0
def tw10030450963853083814:=0
def tw2658642577730455869:=0
def tw7604562412821019566:=0
def tw11157353146221397291:=0
def tw16295615449617861781:=0
def tw4319712298844890289:=0
def tw18384421869727503482:=0
def tw16135859825807786133:=0
def tw11432009936641025393:=0
def tw13910119179953012308:=0
def tw1365643141664160295:=0
def tw9986430543681836119:=0
def tw13145491000370559164:=0
def tw4487847854383934327:=0
def tw10227111176443605303:=0
def tw2599632044354338451:=0
def tw10700072154851719:=0
def tw4995166305676150318:=0
def tw5137986396945285556:=0
def tw16204756598844477186:=0
def tw11024552864318019916:=0
def tw5220308444316295715:=0
def tw790506549031961659:=0
def tw11947255414984124866:=0
def tw4151431038640706580:=0
def tw9416029184940439666:=0
def tw18374782409811748976:=0
def tw14150856706696521049:=0
def tw4434216256606138369:=0
def tw4476265174012823355:=0
def tw60234454589644839:=0
def tw7867721124185535934:=0
def tw12728909141163730537:=0
def tw16645094691845932220:=0
def tw13232482459900213604:=0
def tw1018925909913063869:=0
def tw9746883369423987072:=0
def tw1671431427454213765:=0
def tw15900013333756940711:=0
def tw17881385297370898231:=0
def tw18028867049228083365:=0
def tw11943737938233635581:=0
def tw13133820010454642858:=0
def tw11692446423885713983:=0
def tw7646795070973073572:=0
def tw17863157002105637947:=0
def tw3441054161546845785:=0
def tw3703515960188872547:=0
def tw11001790965456797493:=0
def tw9973073702304706791:=0
def tw9477962673115906585:=0
def tw15519353248471898126:=0
def tw3221460080342750597:=0
def tw3602822216493082437:=0
def tw13146319277787365554:=0
def tw898283032623640268:=0
def tw13673580889275454710:=0
def tw15505674685263967624:=0
def tw18308968570069706153:=0
def tw3749491356707216055:=0
def tw10157726311478779731:=0
def tw17300401981643740782:=0
def tw7596428458107305506:=0
def tw5385042327906168731:=0
def tw5766014315594831721:=0
def tw13954118168398309675:=0
def tw8016586882709717643:=0
def tw4611819414617934248:=0
def tw275046972807575200:=0
def tw15154721857915527123:=0
def tw3663852876381229286:=0
def tw377204709424266827:=0
def tw14616472953008819285:=0
def tw17423455371146180714:=0
def tw18136217773641544322:=0
def tw5766740575060717371:=0
def tw14776815413816053358:=0
def tw6523485020783078702:=0
def tw13076058007903325559:=0
def tw2879582591109428474:=0
def tw10981129674299345772:=0
def tw5846808840359120269:=0
def tw6030313978708790334:=0
def tw7296947749904865307:=0
def tw3193629364305801057:=0
def tw18169528243169834371:=0
def tw16280134789575644850:=0
def tw4793053475291147792:=0
def tw6332442012818437581:=0
def tw5135535630482251422:=0
def tw8119597124770124453:=0
def tw5554169034616466408:=0
def tw17749412454987573026:=0
def tw12610418930320530122:=0
def tw6993286612130142216:=0
def tw11845544879108903975:=0
def tw6474837685314915623:=0
def tw1165628339739751542:=0
def tw15657636008802135267:=0
def tw15167606111017294930:=0
def tw15150234841881864041:=0
def tw13237724649390401036:=0
def tw125350078014328313:=0
def tw15254596329433482597:=0
def tw3167151483136147065:=0
def tw7783723137733146657:=0
def tw2809504100764035946:=0
def tw9001565330778848554:=0
def tw13007501382133768384:=0
def tw2238516295662279250:=0
def tw10173363123319713267:=0
def tw10818684573887234631:=0
def tw16389082116645899890:=0
def tw6676165256403480515:=0
def tw3408627835843542196:=0
def tw11682880905071028263:=0
def tw1494700454765521957:=0
def tw11061033138078990705:=0
def tw14621647314923222733:=0
def tw2526363316673545301:=0
def tw5485492150900870628:=0
def tw7154996277653218495:=0
def tw17810449376310672564:=0
def tw18302253368450964420:=0
def tw4348557662471812424:=0
def tw14729039131207252515:=0
def tw10896085899869432323:=0
def tw2026390798039257776:=0
def tw10848591358297232866:=0
def tw10785634941771020495:=0
def tw8343376597877145028:=0
def tw3679064653945247069:=0
def tw8263154533808336363:=0
def tw4304709379652274048:=0
def tw3108333354798051512:=0
def tw9667072675447623163:=0
def tw1451020736896594109:=0
def tw6613155836438711312:=0
def tw13421804072715578290:=0
def tw598742606847643043:=0
def tw1823761821552727708:=0
def tw391885341623427053:=0
def tw4431746739811063141:=0
def tw5533924819711996221:=0
def tw3453204862792682446:=0
def tw11769692672382114586:=0
def tw14063164301723479275:=0
def tw14128930263349755041:=0
def tw1756206113988653858:=0
def tw6795564492848092014:=0
def tw12438242023188130735:=0
def tw4916869255578524979:=0
def tw17522104584506659042:=0
def tw13022326107781721595:=0
def tw14905758658265629364:=0
def tw11797475268054502284:=0
def tw12437573440046808741:=0
def tw13970145967337340233:=0
def tw14296166535148749043:=0
def tw6109934497537881649:=0
def tw9727603511430397316:=0
def tw8688735422071491433:=0
def tw15821003825945106253:=0
def tw2629607405540964403:=0
def tw631140478475203789:=0
def tw2303945201632111427:=0
def tw14988104662708652501:=0
def tw16831208419723830401:=0
def tw9941678095696931110:=0
def tw11657657355685373478:=0
def tw14011086731772352269:=0
def tw13780603747936933646:=0
def tw6509908215908807614:=0
def tw279459049963480717:=0
def tw16139517423523602531:=0
def tw14514028113526137459:=0
def tw13228199304100240646:=0
def tw11020032120937822715:=0
def tw8845705819273947365:=0
def tw15713398308415214970:=0
def tw724928823490108807:=0
def tw9007076905593475033:=0
def tw12526560848820345357:=0
def tw11140965061528619058:=0
def tw9206840234000489929:=0
def tw6790700396625232828:=0
def tw17108286922287573976:=0
def tw10821788724135977945:=0
def tw5181415279722604400:=0
def tw3991106922787162530:=0
def tw5330527480939199993:=0
def tw2571714119201368049:=0
def tw4608896902352953667:=0
def tw7529899580791150957:=0
def tw446996977312046607:=0
def tw17398437142170563345:=0
def tw12175706694732324761:=0
def tw9625526207688996358:=0
def tw2843813370123122382:=0
def tw14066849743715411008:=0
def tw14461718045695217868:=0
def tw5652708992018570979:=0
def tw11308813865096382266:=0
def tw16978459037124484967:=0
def tw15146088449733861728:=0
def tw3604435155357292566:=0
def tw17352935474280663183:=0
def tw13537861669274303038:=0
def tw6925327544805664312:=0
def tw18377945743658677390:=0
def tw7101485257429012911:=0
def tw11491175260947286261:=0
def tw7390539261336274821:=0
def tw1399799766130745965:=0
def tw8790739162796878215:=0
def tw14304688574226449435:=0
def tw7734832686617020776:=0
def tw11775719029194864877:=0
def tw3834903795466297537:=0
def tw17200384180689396745:=0
def tw1070944193942849054:=0
def tw17543077094421544979:=0
def tw2263878002353353766:=0
def tw4470582698795242778:=0
def tw16206855941173789949:=0
def tw9710029163044566349:=0
def tw6572387032244334770:=0
def tw17923805303692820061:=0
def tw8700963375488062343:=0
def tw14022503033705799526:=0
def tw7767014348553038416:=0
def tw6399826422474742974:=0
def tw3580262323008529062:=0
def tw18438585158668020271:=0
def tw10750675221795478236:=0
def tw9338374845289800089:=0
def tw4391529218494984093:=0
def tw2766487189156508776:=0
def tw9753305360156993561:=0
def tw10203297882709422777:=0
def tw4478046608514333130:=0
def tw17758289198370400187:=0
def tw5990278815014260420:=0
def tw13737142397767682620:=0
def tw17727808670745512552:=0
def tw7286479108330861991:=0
def tw12020754184963169862:=0
def tw13633915141404563154:=0
def tw1201902274429440032:=0
def tw2567494922737616249:=0
def tw15635406362301612348:=0
def tw9089201228647573268:=0
def tw18337024336754884493:=0
def tw13657007180706954326:=0
def tw1881379438538633168:=0
def tw245717332661345814:=0
def tw14382206328196166773:=0
def tw14892259078594997672:=0
def tw15644788562570324815:=0
def tw4692176247005566618:=0
def tw3242234107069115377:=0
def tw13311229786168012734:=0
def tw122061309384912284:=0
def tw16370539185426174678:=0
def tw2053193552780679866:=0
def tw14887157576760668352:=0
def tw490680632629478276:=0
def tw10331404198387425737:=0
def tw367728946415968891:=0
def tw16154023208226404122:=0
def tw382675285968396598:=0
def tw7167285826867578952:=0
def tw6445699862736326554:=0
def tw10125023011391897354:=0
def tw9437169163854069976:=0
def tw15039769858466814791:=0
def tw6870686580953820360:=0
def tw696544996807579658:=0
def tw18025455765917679512:=0
def tw372117726341978500:=0
def tw2581074500483452338:=0
def tw14963646600051501644:=0
def tw16036519350045471026:=0
def tw4671952982727455394:=0
def tw5257718405306286686:=0
def tw7407096915808140219:=0
def tw3711472725918259872:=0
def tw7350282353170121886:=0
def tw5924805607733909300:=0
def tw13915837641399544039:=0
def tw10541116755009444939:=0
def tw8294269702071309795:=0
def tw17101560583444022406:=0
def tw7230424618294112358:=0
def tw10712097172063985243:=0
def tw5253763290167538722:=0
def tw2710300026137417110:=0
def tw11877887709838118724:=0
def tw11833659087597082370:=0
def tw11822969912259047664:=0
def tw14504569990541554218:=0
def tw2489186867363290637:=0
def tw13858059137744352618:=0
def tw7445557232724818875:=0
def tw6448355006997487059:=0
def tw15154287456449620794:=0
def tw13793569718210977204:=0
def tw6757504881046884622:=0
def tw14432064645984817522:=0
def tw7382906157716455775:=0
def tw8249403203172118482:=0
def tw8772337393859660000:=0
def tw1916063485570060359:=0
def tw15624887492334027197:=0
def tw4930414579768757740:=0
def tw8496312755514484453:=0
def tw16665624660642889105:=0
def tw11564230408302329156:=0
def tw9458202515840059455:=0
def tw9307893375592359753:=0
def tw12789237612344978479:=0
def tw14549131803205324058:=0
def tw12630225385808149773:=0
def tw15745975605166358593:=0
def tw12133708262050668237:=0
def tw6387218173362315798:=0
def tw4314069687323010324:=0
def tw17964884808716328475:=0
def tw8866521638115974627:=0
def tw18270207611125987070:=0
def tw14516404262209290974:=0
def tw14755537515141851942:=0
def tw13394541929288252989:=0
def tw11874226176521147473:=0
def tw12418526159985639018:=0
def tw15958263075219338239:=0
def tw14135392874460297282:=0
def tw5393265684251784168:=0
def tw8913094968392287309:=0
def tw417662509205186603:=0
def tw8109822467485227151:=0
def tw3661550886766884918:=0
def tw6396183935248041293:=0
def tw10221233142405813071:=0
def tw11287746381357633370:=0
def tw3629199941138927554:=0
def tw484350444526775667:=0
def tw4621642127380268475:=0
def tw5760274141219788800:=0
def tw13241734447084986954:=0
def tw11605852036002768030:=0
def tw2262252456371393485:=0
def tw3663454083397194113:=0
def tw4226527084430906142:=0
def tw3118640436568716456:=0
def tw5233941260173163463:=0
def tw5468835409406720233:=0
def tw2090550132008160013:=0
def tw171529914749430293:=0
def tw16848674933500055530:=0
def tw5765644072564548007:=0
def tw7938483600280094874:=0
def tw9252544032273639364:=0
def tw4153812539260378604:=0
def tw9686242730950374045:=0
def tw12736751566022281477:=0
def tw12702694101509985012:=0
def tw11735083935276824360:=0
def tw16776965213670542043:=0
def tw12386483770551663912:=0
def tw3565108091086863205:=0
def tw7683112606256562235:=0
def tw16944638168827248377:=0
end PySem.W.Fast
open PySem PySem.W PyProof.Rows
set_option maxRecDepth 100000 in
set_option maxHeartbeats 0 in
theorem PySem.Challenge.cw_shadowpost_k52_what_a_dial_tells_holds : PySem.Challenge.rw_shadowpost_k52_what_a_dial_tells.Holds := by
 w_on;o_law;k_head;(case hw=>w_witness2)
 k_fill
 refine T.Z1D (l:=PySem.Challenge.rw_shadowpost_k52_what_a_dial_tells) rfl rfl (λw h Y=>by first|exact PySem.W.kIn_of Y|exact PySem.W.km_in_of Y) ?F
 case F=>
  intro w mg fa h KX G hmg
  refine' T.Z1o (a:=T.Gw.mk) (T.Tx.mk (mg_of KX G ?_) (mg_of KX G ?_) (mg_of KX G ?_) (mg_of KX G ?_) (mg_of KX G ?_) (mg_of KX G ?_) (mg_of KX G ?_) (P.Ļ KX G (λ_ _ _ _ _ _ _=>rfl) ?_ ?_ ?_ ?_) (P.Ļ KX G (λ_ _ _ _ _ _ _ _=>rfl) ?_ ?_ ?_ ?_) (P.Ļ KX G (λ_ _ _ _ _ _ _ _=>rfl) ?_ ?_ ?_ ?_) (P.Ļ KX G (λ_ _ _ _ _ _ _ _=>rfl) ?_ ?_ ?_ ?_) (P.Ļ KX G (λ_ _ _ _ _ _ _ _ _=>rfl) ?_ ?_ ?_ ?_) (P.Ļ KX G (λ_ _ _ _ _ _ _ _ _=>rfl) ?_ ?_ ?_ ?_) (P.Ļ KX G (λ_ _ _ _ _ _ _=>rfl) ?_ ?_ ?_ ?_) (P.Ļ KX G (λ_ _ _ _ _ _ _=>rfl) ?_ ?_ ?_ ?_) (P.Ļ KX G (λ_ _ _ _ _ _ _=>rfl) ?_ ?_ ?_ ?_) (P.Li (λ_ _ _ _ _ _ _ _ _=>rfl) ?_ ?_ ?_ ?_) (P.Ļ KX G (λ_ _ _ _ _ _ _=>rfl) ?_ ?_ ?_ ?_) (P.Ļ KX G (λ_ _ _ _ _ _ _=>rfl) ?_ ?_ ?_ ?_) (P.Ļ KX G (λ_ _ _ _ _ _ _=>rfl) ?_ ?_ ?_ ?_) (P.Ļ KX G (λ_ _ _ _ _ _ _=>rfl) ?_ ?_ ?_ ?_) (P.Ļ KX G (λ_ _ _ _ _ _ _=>rfl) ?_ ?_ ?_ ?_) (P.Ļ KX G (λ_ _ _ _ _ _ _ _=>rfl) ?_ ?_ ?_ ?_) (P.Ļ KX G (λ_ _ _ _ _ _ _=>rfl) ?_ ?_ ?_ ?_) (P.Li (λ_ _ _ _ _ _ _ _ _ _ _=>rfl) ?_ ?_ ?_ ?_) (P.Ļ KX G (λ_ _ _ _ _ _ _ _=>rfl) ?_ ?_ ?_ ?_) (P.Ļ KX G (λ_ _ _ _ _ _ _ _=>rfl) ?_ ?_ ?_ ?_) (P.Ļ KX G (λ_ _ _ _ _ _ _ _=>rfl) ?_ ?_ ?_ ?_) (P.Ļ KX G (λ_ _ _ _ _ _ _ _=>rfl) ?_ ?_ ?_ ?_) (P.Ļ KX G (λ_ _ _ _ _ _ _ _=>rfl) ?_ ?_ ?_ ?_) (P.Ļ KX G (λ_ _ _ _ _ _ _ _=>rfl) ?_ ?_ ?_ ?_) (P.Ļ KX G (λ_ _ _ _ _ _ _=>rfl) ?_ ?_ ?_ ?_) (P.Ļ KX G (λ_ _ _ _ _ _ _ _=>rfl) ?_ ?_ ?_ ?_) (P.Ļ KX G (λ_ _ _ _ _ _ _ _=>rfl) ?_ ?_ ?_ ?_) (P.Ļ KX G (λ_ _ _ _ _ _ _ _=>rfl) ?_ ?_ ?_ ?_) (P.Ļ KX G (λ_ _ _ _ _ _ _ _=>rfl) ?_ ?_ ?_ ?_) (P.Ļ KX G (λ_ _ _ _ _ _ _ _=>rfl) ?_ ?_ ?_ ?_) (P.Ļ KX G (λ_ _ _ _ _ _ _ _ _=>rfl) ?_ ?_ ?_ ?_) (P.Ļ KX G (λ_ _ _ _ _ _ _=>rfl) ?_ ?_ ?_ ?_) (mg_of KX G ?_) (mg_of KX G ?_) (mg_none_of KX G ?_) (mg_none_of KX G ?_) (mg_none_of KX G ?_) (mg_none_of KX G ?_) (mg_none_of KX G ?_) (mg_none_of KX G ?_) (mg_none_of KX G ?_) (mg_none_of KX G ?_) (mg_none_of KX G ?_) (mg_none_of KX G ?_) (mg_none_of KX G ?_) (mg_none_of KX G ?_) (mg_none_of KX G ?_) (P.fu ?_) (P.lU ?_) ?_ ?_ (P.fu ?_) (P.lU ?_) ?_ ?_ (P.fu ?_) (P.lU ?_) ?_ ?_ (P.fu ?_) (P.lU ?_) ?_ ?_ (P.fu ?_) (P.lU ?_) ?_ ?_ (P.fu ?_) (P.lU ?_) ?_ ?_ (P.fu ?_) (P.lU ?_) ?_ ?_ ?_ ?_) hmg
  any_goals (dsimp only;k_is)
  any_goals first|kernel_rfl|(unfold L2.Ħ;kernel_rfl)
  all_goals skip
