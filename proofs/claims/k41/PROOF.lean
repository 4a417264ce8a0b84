import PyProof.Rows.All
import Wide.All
import OpenK.AllK
import Wide.FinOn
import Lean
import PyProof.EqAt
import PyProof.EqKinds
import PyProof.TupleCall
import PySem.Challenge.RW_shadowpost_k41_a_choice_and_its_paper
set_option Elab.async false
set_option linter.all false
set_option maxRecDepth 100000
set_option maxHeartbeats 4000000
namespace L2
open PySem PySem.Spec PyProof.Rows
abbrev Key:=Sum Int Str
def yC:Key->Value->Bool
 | .inl k,v=>Value.isInt k v
 | .inr x,v=>Value.isStrOf x v
def KJ(w:World):Key->Int
 | .inl k=>hashInt k
 | .inr x=>hashStr w x
theorem ĭ:∀{k:Key} {v:Value},yC k v=true->(∃i t,k=Sum.inl i/\v=Value.int i t)\/(∃x t,k=Sum.inr x/\v=Value.str x t)
 | .inl i,v,h=>by
   obtain⟨t,e⟩:=Value.isInt_shape (k:=i) (v:=v) h
   exact .inl ⟨i,t,rfl,e⟩
 | .inr x,v,h=>by
   obtain⟨t,e⟩:=Value.isStrOf_shape (x:=x) (v:=v) h
   exact .inr ⟨x,t,rfl,e⟩
def zF(a b:Int):decide ((Sum.inl a:Key)=Sum.inl b)=(a== b):=by
 by_cases e:a=b
 ·subst e;simp
 ·have h:¬(Sum.inl a:Key)=Sum.inl b:=λq=>e (Sum.inl.inj q)
  rw[decide_eq_false h]
  exact(beq_eq_false_iff_ne.mpr e).symm
def zG(a b:Str):decide ((Sum.inr a:Key)=Sum.inr b)=decide (a=b):=by
 by_cases e:a=b
 ·subst e;simp
 ·have h:¬(Sum.inr a:Key)=Sum.inr b:=λq=>e (Sum.inr.inj q)
  rw[decide_eq_false h,decide_eq_false e]
def zH(a:Int)(b:Str):decide ((Sum.inl a:Key)=Sum.inr b)=false:=decide_eq_false (λq=>nomatch q)
def zJ(a:Str)(b:Int):decide ((Sum.inr a:Key)=Sum.inl b)=false:=decide_eq_false (λq=>nomatch q)
def jw(prog:Program)(w:World):PySem.KeyKind prog w Key where
 is:=yC
 hash:=KJ w
 inj:=λv a b ha hb=>by
  rcases ĭ ha with⟨i,t,rfl,rfl⟩|⟨x,t,rfl,rfl⟩
  ·rcases ĭ hb with⟨j,u,rfl,e⟩|⟨y,u,rfl,e⟩
   ·injection e with e1 _;rw[e1]
   ·exact nomatch e
  ·rcases ĭ hb with⟨j,u,rfl,e⟩|⟨y,u,rfl,e⟩
   ·exact nomatch e
   ·injection e with e1 _;rw[e1]
 byValue:=λk v h=>by
  rcases ĭ h with⟨i,t,rfl,rfl⟩|⟨x,t,rfl,rfl⟩<;>rfl
 pyHash:=λhv h=>by
  rcases ĭ hv with⟨i,t,rfl,rfl⟩|⟨x,t,rfl,rfl⟩
  ·exact wpAny_pyHash_int h
  ·exact wpAny_pyHash_str h
 eqBool:=λhu hv h=>by
  rcases ĭ hu with⟨i,t,rfl,rfl⟩|⟨x,t,rfl,rfl⟩
  ·rcases ĭ hv with⟨j,u,rfl,rfl⟩|⟨y,u,rfl,rfl⟩
   ·rw[zF] at h;exact wpAny_eqBool_int h
   ·rw[zH] at h;exact SeqAt.EqAt.int_str i t y u _ _ _ _ h
  ·rcases ĭ hv with⟨j,u,rfl,rfl⟩|⟨y,u,rfl,rfl⟩
   ·rw[zJ] at h;exact SeqAt.EqAt.str_int x t j u _ _ _ _ h
   ·rw[zG] at h;exact wpAny_eqBool_str h
 «strs» := fun k x t v h=>by
   rcases ĭ h with⟨i,u,rfl,e⟩|⟨y,u,rfl,e⟩
   ·exact nomatch e
   ·injection e with e1 _
    subst e1
    cases v<;>rfl
end L2
namespace L2
open PySem PySem.Spec PyProof.Rows
inductive V where
 |non|bl (b:Bool)|int (i:Int)|str (x:Str)|zK (b:Array UInt8)|flt (b:UInt64)|ref (a:Addr)|ty (n:String)
 deriving DecidableEq
def RelV:V->Value->Prop
 | .non,u=>u=Value.none
 | .bl b,u=>u=Value.bool b
 | .int i,u=>∃t,u=Value.int i t
 | .str x,u=>∃t,u=Value.str x t
 | .zK b,u=>∃t,u=Value.bytes b t
 | .flt b,u=>∃t,u=Value.float b t
 | .ref a,u=>u=Value.ref a
 | .ty n,u=>u=Value.type n
abbrev Vals:List V->List Value->Prop:=Paired RelV
theorem Vals.length{xs:List V}{us:List Value}(r:Vals xs us):xs.length=us.length:=Paired.length r
theorem Vals.get:∀{xs:List V} {us:List Value} {i:Nat} {x:V},Vals xs us->xs[i]?=some x->∃u,us[i]?=some u/\RelV x u
 |_,_,_,_,.nil,e=>by simp at e
 |_,_,0,_,.cons r _,e=>by simp at e;subst e;exact⟨_,rfl,r⟩
 |_,_,i+1,x,.cons _ t,e=>by
  obtain⟨u,h1,h2⟩:=Vals.get (i:=i) (x:=x) t (by simpa using e)
  exact⟨u,by simpa using h1,h2⟩
theorem Vals.append:∀{xs ys:List V} {us ws:List Value},Vals xs us->Vals ys ws->Vals (xs++ys) (us++ws)
 |_,_,_,_,.nil,s=>s
 |_,_,_,_,.cons r t,s=>.cons r (Vals.append t s)
def zL:Option V->Option Value->Prop
 |some v,some u=>RelV v u
 |none,none=>True
 |_,_=>False
def KV{κ:Type}:List (κ×V)->List (κ×Value)->Prop:=Paired λ(p:κ×V) (q:κ×Value)=>p.1=q.1/\RelV p.2 q.2
def kV:Key->V
 | .inl i=>.int i
 | .inr x=>.str x
inductive HO where
 /-- a list -/
 |lst (xs:List V)
 /-- a tuple (never changes) -/
 |tup (xs:List V)
 /-- a dict whose keys are ints and texts;one whose keys are tuples of ints and texts (the empty one is both) -/
 |dK (kvs:List (Key×V))|dT (kvs:List (List Key×V))
 /-- a set of ints:its members,its size -/
 |set (S:Int->Bool) (n:Nat)
 /-- an instance of the class at C,its dict at dx,its attributes -/
 |ins (C dx:Addr) (fs:List (Str×V))
 /-- the dict of the instance at x -/
 |own (x:Addr)
 /-- the dict of an exception -/
 |xd (fs:List (Str×V))
 /-- a bound method,f of x -/
 |met (f x:Addr)
 /-- a range object lo,lo+1,.. below hi -/
 |rng (lo hi:Int)
 /-- a thing that is known to the object (the script;a dict while a loop walks it):read,never written while it is so -/
 |ž (o:Obj) (u:HO)
 /-- a code object's table -/
 |gQ (q:Str)
 /-- a code made of such a table,by its name -/
 |pZ (q:Str)
 /-- any other thing,by what is true of its one object (a def of one's own:UJ a S n:=HO.ext λh=>..) -/
 |ext (φ:Heap->Prop)
abbrev Hp:=Addr->Option HO
def upd(H:Hp)(a:Addr)(o:HO):Hp:=λb=>if b=a then some o else H b
def Ē{H:Hp}{a:Addr}{o:HO}:upd H a o a=some o:=by unfold upd;rw[if_pos rfl]
def ć{H:Hp}{a b:Addr}{o:HO}(h:b≠a):upd H a o b=H b:=by unfold upd;rw[if_neg h]
def Ĕ{H:Hp}{a b:Addr}{o:HO}(h:H a=some o)(h':H b=none):a≠b:=by
 intro e;subst e;rw[h] at h';cases h'
section
variable(P:Program)(w:World)
def ō(H:Hp)(h:Heap)(a:Addr):HO->Prop
 | .lst xs=>xs.length<=sizeLine/\∃(its:List Value) (n:Nat),Vals xs its/\h.get? a=some {cls:=.type "list",data:=.seq its.toArray n}
 | .tup xs=>xs.length<=sizeLine/\∃its:List Value,Vals xs its/\IsTup h a its.toArray
 | .dK kvs=>kvs.length<=sizeLine/\(a== sysModules)=false/\∃vs,KV kvs vs/\h.DictOf (jw P w) a vs
 | .dT kvs=>kvs.length≤sizeLine∧(a== sysModules)=false∧∃xs:List (List Key×Addr×Value),
     Paired (λ(p:List Key×V) (q:List Key×Addr×Value)=>p.1=q.1/\H q.2.1=some (.tup (p.1.map kV))/\RelV p.2 q.2.2) kvs xs/\
     ∃o es ep,h.get? a=some o/\o.ExactDict/\o.data=.dict es ep/\es.toList=xs.map (entryOfKey (tupleKind (jw P w)))/\(xs.map (·.1)).Nodup
 | .set S n=>h.SetOf (intKind P w) a S n
 | .ins C dx fs=>H dx=some (.own a)∧fs.length≤1000∧dx≠a∧h.get? a=some (PySem.W.instObj C dx)∧
     ∃mA,h.Ns1 dx mA/\(∀f,zL (fs.lookup f) (mA f))/\PySem.Within mA (fs.map (·.1))
 | .own _=>∃o,h.get? a=some o
 | .xd fs=>∃mA,h.Ns1 a mA/\∀f,zL (fs.lookup f) (mA f)
 | .rng lo hi=>∃t u v,h.get? a=some {cls:=.type "range",data:=.fields #[.int lo t,.int hi u,.int 1 v]}
 | .ž o u=>h.get? a=some o/\ō H h a u
 | .gQ q=>∃ps:Array Value,h.get? a=some {cls:=.none,data:=.fields ps}/\TriplesOk ps.toList/\∀pos cv,codeAmong pos ps.toList=some cv->∃c,cv=.ref c/\H c=some (.pZ q)
 | .pZ q=>h.CodeRec (.ref a) q
 | .met f x=>h.get? a=some (PySem.W.methodObj (.ref f) (.ref x))
 | .ext φ=>φ h/\(∃o,h.get? a=some o)/\∀h1 h2:Heap,φ h1->(∀o,h1.get? a=some o->h2.get? a=some o)->φ h2
def bU(H:Hp)(h:Heap):Prop:=∀a o,H a=some o->ō P w H h a o
end
section
variable{P:Program}{w:World}{H H':Hp}{h h':Heap}{a:Addr}{o:HO}
theorem ō.lt(x:ō P w H h a o):a<h.objs.size:=by
 cases o with
 |lst xs=>obtain⟨_,_,_,_,e⟩:=x;exact Heap.lt_size e
 |tup xs=>obtain⟨_,_,_,p⟩:=x;exact p.lt
 |dK kvs=>obtain⟨_,_,_,_,o,_,_,e,_⟩:=x;exact Heap.lt_size e
 |dT kvs=>obtain⟨_,_,_,_,o,_,_,e,_⟩:=x;exact Heap.lt_size e
 |set S n=>obtain⟨o,_,_,_,e,_⟩:=x;exact Heap.lt_size e
 |ins C dx fs=>obtain⟨_,_,_,e,_⟩:=x;exact Heap.lt_size e
 |own y=>obtain⟨_,e⟩:=x;exact Heap.lt_size e
 |xd fs=>obtain⟨_,⟨_,_,_,e,_⟩,_⟩:=x;exact Heap.lt_size e
 |rng lo hi=>obtain⟨_,_,_,e⟩:=x;exact Heap.lt_size e
 |ž ob u=>obtain⟨e,_⟩:=x;exact Heap.lt_size e
 |gQ q=>obtain⟨_,e,_⟩:=x;exact Heap.lt_size e
 |pZ q=>obtain⟨c,o,_,_,z,e,_⟩:=x;cases z;exact Heap.lt_size e
 |met f y=>exact Heap.lt_size (show h.get? a=some _ from x)
 |ext φ=>obtain⟨_,⟨_,e⟩,_⟩:=x;exact Heap.lt_size e
theorem Paired.El{α β:Type}{F G:α->β->Prop}:∀{l₁:List α} {l₂:List β},Paired F l₁ l₂->(∀a b,F a b->G a b)->Paired G l₁ l₂
 |_,_,.nil,_=>.nil
 |_,_,.cons r t,f=>.cons (f _ _ r) (Paired.El t f)
def ō.stay(x:ō P w H h a o)(k:∀b u,(b=a\/H b=some (.own a))->h.get? b=some u->h'.get? b=some u)
 (ho:∀b,H b=some (.own a)->H' b=some (.own a))(ht:∀b xs,H b=some (.tup xs)->H' b=some (.tup xs))(hc:∀b q,H b=some (.pZ q)->H' b=some (.pZ q):=by exact λ_ _ z=>z):ō P w H' h' a o:=by
 induction o with
 |lst xs=>obtain⟨z,its,n,r,e⟩:=x;exact⟨z,its,n,r,k _ _ (.inl rfl) e⟩
 |tup xs=>obtain⟨z,its,r,ob,e,c⟩:=x;exact⟨z,its,r,ob,k _ _ (.inl rfl) e,c⟩
 |dK kvs=>obtain⟨z,y,vs,r,ob,es,ep,e,c⟩:=x;exact⟨z,y,vs,r,ob,es,ep,k _ _ (.inl rfl) e,c⟩
 |dT kvs=>
  obtain⟨z,y,xs,r,ob,es,ep,e,c⟩:=x
  exact⟨z,y,xs,Paired.El r λp q z=>⟨z.1,ht _ _ z.2.1,z.2.2⟩,ob,es,ep,k _ _ (.inl rfl) e,c⟩
 |set S n=>obtain⟨ob,es,ep,t,e,c⟩:=x;exact⟨ob,es,ep,t,k _ _ (.inl rfl) e,c⟩
 |ins C dx fs=>
  obtain⟨d,z,ne,e,mA,⟨od,es,ep,e2,c⟩,r⟩:=x
  exact⟨ho _ d,z,ne,k _ _ (.inl rfl) e,mA,⟨od,es,ep,k _ _ (.inr d) e2,c⟩,r⟩
 |own y=>obtain⟨ob,e⟩:=x;exact⟨ob,k _ _ (.inl rfl) e⟩
 |xd fs=>obtain⟨mA,⟨od,es,ep,e,c⟩,r⟩:=x;exact⟨mA,⟨od,es,ep,k _ _ (.inl rfl) e,c⟩,r⟩
 |rng lo hi=>obtain⟨t,u,v,e⟩:=x;exact⟨t,u,v,k _ _ (.inl rfl) e⟩
 |ž ob u ih=>obtain⟨e,q⟩:=x;exact⟨k _ _ (.inl rfl) e,ih q⟩
 |gQ q=>
  obtain⟨ps,e,t,r⟩:=x
  exact⟨ps,k a _ (.inl rfl) e,t,λpos cv z=>let ⟨c,z1,z2⟩:=r pos cv z;⟨c,z1,hc c q z2⟩⟩
 |pZ q=>
  obtain⟨c,o,vs,t,z,e,r⟩:=x
  cases z
  exact⟨a,o,vs,t,rfl,k a _ (.inl rfl) e,r⟩
 |met f y=>
  have e:h.get? a=some (PySem.W.methodObj (.ref f) (.ref y)):=x
  show h'.get? a=some (PySem.W.methodObj (.ref f) (.ref y))
  exact k a _ (.inl rfl) e
 |ext φ=>obtain⟨p,⟨o,e⟩,st⟩:=x;exact⟨st _ _ p λo q=>k _ _ (.inl rfl) q,⟨o,k _ _ (.inl rfl) e⟩,st⟩
theorem bU.lt(x:bU P w H h)(e:H a=some o):a<h.objs.size:=(x a o e).lt
def bU.fresh(x:bU P w H h)(e:h.objs.size<=a):H a=none:=by
 cases q:H a with
 |none=>rfl
 |some u=>exact absurd (Nat.lt_of_lt_of_le (x.lt q) e) (Nat.lt_irrefl _)
def bU.kept(x:bU P w H h)(k:∀b u,h.get? b=some u->h'.get? b=some u):bU P w H h':=λa o e=>
 (x a o e).stay (λb u _ q=>k b u q) (λ_ q=>q) λ_ _ q=>q
def bU.laid(x:bU P w H h)(k:∀b u,h.get? b=some u->h'.get? b=some u)(hp:h.objs.size<=a)(new:ō P w (upd H a o) h' a o):bU P w (upd H a o) h':=λb u e=>by
 have hn:=x.fresh hp
 by_cases hb:b=a
 ·subst hb;rw[Ē] at e;cases e;exact new
 ·rw[ć hb] at e
  exact(x b u e).stay (λc v _ q=>k c v q) (λc q=>by rw[ć (Ĕ q hn)];exact q) (λc xs q=>by rw[ć (Ĕ q hn)];exact q) λc xs q=>by rw[ć (Ĕ q hn)];exact q
end
def Rd(H:Hp)(a:Addr)(u:HO):Prop:=H a=some u\/∃o,H a=some (.ž o u)
def Rd.ok{P:Program}{w:World}{H:Hp}{h:Heap}{a:Addr}{u:HO}(r:Rd H a u)(x:bU P w H h):ō P w H h a u:=by
 rcases r with r|⟨o,r⟩
 ·exact x a u r
 ·obtain⟨_,q⟩:=x a _ r
  exact q
def Jc:Option HO->Prop
 |some (.lst _)=>True
 |some (.dK _)=>True
 |some (.dT _)=>True
 |some (.set _ _)=>True
 |some (.ins _ _ _)=>True
 |some (.ext _)=>True
 |some (.xd _)=>True
 |_=>False
section
variable{P:Program}{w:World}{H:Hp}{h h':Heap}{x e:Addr}{o':HO}
def bU.write(ok:bU P w H h)(mu:Jc (H x))(he:e=x\/H e=some (.own x))(k:∀b u,b≠e->h.get? b=some u->h'.get? b=some u)(heo:∃u,h'.get? e=some u)
 (new:ō P w (upd H x o') h' x o'):bU P w (upd H x o') h':=λb u q=>by
 have Em:∀c y,H c=some (.own y)->c≠x:=λc y r z=>by subst z;rw[r] at mu;exact mu
 have KN:∀c xs,H c=some (.tup xs)->c≠x:=λc xs r z=>by subst z;rw[r] at mu;exact mu
 have KQ:∀c q,H c=some (.pZ q)->c≠x:=λc xs r z=>by subst z;rw[r] at mu;exact mu
 by_cases hb:b=x
 ·subst hb;rw[Ē] at q;cases q;exact new
 ·rw[ć hb] at q
  by_cases hbe:b=e
  ·have q':H b=some (.own x):=by
    rcases he with z|z
    ·exact absurd (hbe.trans z) hb
    ·rw[hbe];exact z
   rw[q] at q';cases q'
   obtain⟨v,hv⟩:=heo
   exact⟨v,by rw[hbe];exact hv⟩
  ·refine(ok b u q).stay (λc v hc r=>k c v ?_ r) (λc r=>by rw[ć (Em c b r)];exact r) (λc xs r=>by rw[ć (KN c xs r)];exact r) λc xs r=>by rw[ć (KQ c xs r)];exact r
   rcases hc with rfl|hc
   ·exact hbe
   ·rintro rfl
    rcases he with z|z
    ·exact Em c b hc z
    ·rw[hc] at z;cases z;exact hb rfl
end
structure Un(fs ex:List Addr)(H H':Hp)(h h':Heap):Prop where
 keep:∀b o,h.get? b=some o->H b=none->b∉fs->b∉ex->h'.get? b=some o
 slot:∀b o,h.get? b=some o->H b=none->b∈fs->b∉ex->∃sl,h'.get? b=some {o with slots:=sl}
 free:∀b o,h.get? b=some o->H b=none->b∉ex->H' b=none
 there:∀b o,h.get? b=some o->b∉ex->∃o',h'.get? b=some o'
 tups:∀b xs,H b=some (.tup xs)->H' b=some (.tup xs)
 gY:∀b o u,H b=some (.ž o u)->H' b=some (.ž o u)
 dH:∀b q,H b=some (.gQ q)->H' b=some (.gQ q)
section
variable{fs fs' ex ex':List Addr}{H H1 H2:Hp}{h h1 h2 h':Heap}{a x e:Addr}{o:HO}
def Un.any(u:Un fs ex H H1 h h1){b:Addr}{ob:Obj}(q:h.get? b=some ob)(n:H b=none)(hx:b∉ex):∃sl,h1.get? b=some {ob with slots:=sl}:=by
 by_cases hb:b∈fs
 ·exact u.slot b ob q n hb hx
 ·exact⟨ob.slots,u.keep b ob q n hb hx⟩
def Un.kept(k:∀b u,h.get? b=some u->h'.get? b=some u):Un fs ex H H h h':=
 ⟨λb ob q _ _ _=>k b ob q,λb ob q _ _ _=>⟨ob.slots,k b ob q⟩,λ_ _ _ n _=>n,λb ob q _=>⟨ob,k b ob q⟩,λ_ _ q=>q,λ_ _ _ q=>q,λ_ _ q=>q⟩
def Un.refl:Un fs ex H H h h:=Un.kept λ_ _ q=>q
def Un.laid(k:∀b u,h.get? b=some u->h'.get? b=some u)(hp:h.objs.size<=a)(hn:H a=none):Un fs ex H (upd H a o) h h' where
 keep:=λb u q _ _ _=>k b u q
 slot:=λb u q _ _ _=>⟨u.slots,k b u q⟩
 free:=λb u q n _=>by rw[ć (Nat.ne_of_lt (Nat.lt_of_lt_of_le (Heap.lt_size q) hp))];exact n
 there:=λb u q _=>⟨u,k b u q⟩
 tups:=λb xs q=>by rw[ć (Ĕ q hn)];exact q
 gY:=λb u xs q=>by rw[ć (Ĕ q hn)];exact q
 dH:=λb ps q=>by rw[ć (Ĕ q hn)];exact q
def Un.write(mu:Jc (H x))(he:e=x\/H e=some (.own x))(k:∀b u,b≠e->h.get? b=some u->h'.get? b=some u)(heo:∃u,h'.get? e=some u):Un fs ex H (upd H x o) h h':=by
 have hx:∀b,H b=none->b≠x:=λb n z=>by subst z;rw[n] at mu;exact mu
 have hb:∀b,H b=none->b≠e:=λb n z=>by
  subst z
  rcases he with r|r
  ·exact hx b n r
  ·rw[n] at r;cases r
 have hm:∀b u,H b=some u->¬Jc (some u)->b≠x:=λb u q nm z=>by subst z;rw[q] at mu;exact nm mu
 refine⟨λb u q n _ _=>k b u (hb b n) q,λb u q n _ _=>⟨u.slots,k b u (hb b n) q⟩,λb u q n _=>by rw[ć (hx b n)];exact n,λb u q _=>?_,
  λb xs q=>by rw[ć (hm b _ q λz=>z)];exact q,λb u xs q=>by rw[ć (hm b _ q λz=>z)];exact q,λb ps q=>by rw[ć (hm b _ q λz=>z)];exact q⟩
 by_cases hbe:b=e
 ·subst hbe;exact heo
 ·exact⟨u,k b u hbe q⟩
end
def Jd(h:Heap)(H:Hp):List Addr:=(List.range h.objs.size).filter λa=>(H a).isSome
def gZ(h:Heap)(H:Hp):Heap:=PySem.W.hideAll h (Jd h H)
def qb(h:Heap)(H:Hp):(gZ h H).objs.size=h.objs.size:=PySem.W.hideAll_size _ _
def qT{h:Heap}{H:Hp}{b:Addr}{o:Obj}(e:h.get? b=some o)(n:H b=none):(gZ h H).get? b=some o:=
 PySem.W.hideAll_get _ e λhm=>by
  have q:(H b).isSome=true:=(List.mem_filter.mp hm).2
  rw[n] at q;simp at q
def vW{h:Heap}{H:Hp}{b:Addr}{o:Obj}(e:(gZ h H).get? b=some o):h.get? b=some o/\H b=none:=by
 have e':h.get? b=some o:=PySem.W.of_hideAll (Jd h H) e
 refine⟨e',?_⟩
 cases q:H b with
 |none=>rfl
 |some x=>
  have hm:b∈Jd h H:=List.mem_filter.mpr ⟨List.mem_range.mpr (Heap.lt_size e'),by simp[q]⟩
  have z:(gZ h H).get? b=none:=PySem.W.hideAll_none (Jd h H) hm
  rw[z] at e;cases e
def vX(g h:Heap)(L:Addr):List (Addr×Obj):=(List.range h.objs.size).filterMap λa=>if a=L\/(g.get? a).isSome=true then none else(h.get? a).map λo=>(a,o)
def rest(g h:Heap)(L d:Addr):List (Addr×Obj):=(vX g h L).filter λp=>decide (p.1≠d)
end L2
namespace L2
open PySem PySem.Spec PyProof.Rows
structure Mod(K:PySem.W.Frag)(mg:Str->Option Value)(base:Heap):Prop where
 Ea:K.In base
 glob:base.Ns mainGlobals mg
 blt:∃mb,base.Ns builtinsNs mb/\∀x:Str,x≠ "__name__" ->mb x=bootBuiltins x
 nolimit:base.NoLimit
def lams:List Str:=["cheapest"]
abbrev Ŧ(x:Str):Str:=(x ++ ".<locals>.") ++ "<lambda>"
def TabsOk(K:PySem.W.Frag)(mg:Str->Option Value)(base:Heap)(H:Hp):Prop:=∀x c P,x∈lams->PySem.W.tabIn K x=some (c,P)->PySem.W.CodeHd base c P/\H P=some (.gQ (Ŧ x))/\base.BuiltinsAt mg P
structure Cx where
 prog:Program
 w:World
 K:PySem.W.Frag
 mg:Str->Option Value
 base:Heap
 A:Around
 N:List Str
 s₀:Shared
 H₀:Hp
 env:Env
 outer:List Env
 stack:List Env
 ex:List Addr
 fn:Str->Bool
 calm:Bool
 pn:List (Addr×Obj)
 xe:Value->Shared->Prop
def frs(l:List Env):List Addr:=l.filterMap (·.frame)
abbrev Cx.fs(X:Cx):List Addr:=frs X.outer
def lV(sc:Scope)(x:Str):Prop:=sc.names.lookup x=some .local\/sc.names.lookup x=some .cell\/sc.names.lookup x=some .free
def Loc(sc:Scope)(x:Str):Prop:=sc.names.lookup x=some .local\/sc.names.lookup x=some .cell
def Look(env:Env)(h:Heap)(m:Str->Option Value)(x:Str)(u:Value):Prop:=
 (env.kindOf x=some .local/\m x=some u)\/((env.kindOf x=some .cell\/env.kindOf x=some .free)/\∃c,env.cells.lookup x=some c/\h.IsCell c (some u))
structure Cx.Ok(X:Cx):Prop where
 mod:Mod X.K X.mg X.base
 kind:X.env.scope.kind=.function
 glob:X.env.globals=mainGlobals
 blt:X.env.builtins=builtinsNs
 above:X.s₀.heap.objs.size<=X.env.locals
 inj:∀x y c,X.env.cells.lookup x=some c->X.env.cells.lookup y=some c->x=y
 has:∀x,(X.env.kindOf x=some .cell\/X.env.kindOf x=some .free)->∃c,X.env.cells.lookup x=some c
 cab:∀x c,X.fn x=true->X.env.cells.lookup x=some c->X.s₀.heap.objs.size<=c
 hd:X.calm=true->X.A.handled=none
 frames:X.A.frames=some X.stack
 stk:X.stack=X.outer\/(X.stack=X.env::X.outer/\X.env.frame=some X.env.locals)
 Rj:∀b∈X.ex,b≠X.env.locals/\∀x c,X.env.cells.lookup x=some c->c≠b
 bs:∀b o,X.base.get? b=some o->X.s₀.heap.get? b=some o/\X.H₀ b=none
 vY:X.base.objs.size<=X.s₀.heap.objs.size
 qd:∀b o,X.base.get? b=some o->b∉X.ex
 vZ:∀b∈X.ex,b∉X.fs
 eZ:X.s₀.heap.FunFrames X.base X.outer
 Eb:∀b∈X.fs,X.H₀ b=none
 tb:TabsOk X.K X.mg X.base X.H₀
structure Inv(X:Cx)(pins:List (Addr×Obj))(σ:List (Option V))(H:Hp)(s:Shared):Prop where
 ok:X.Ok
 os:s.os=X.s₀.os
 bare:AllBare s.gens
 base:Un X.fs X.ex X.H₀ H X.s₀.heap s.heap
 loc:∃m,s.heap.Ns X.env.locals m/\∀(i:Nat) (x:Str) (v:V),X.N[i]?=some x->σ[i]?=some (some v)->lV X.env.scope x->∃u,RelV v u/\Look X.env s.heap m x u
 cell:∀x c,X.env.cells.lookup x=some c->∃v,s.heap.IsCell c v
 free:H X.env.locals=none
 aQ:∀x c,X.env.cells.lookup x=some c->H c=none
 pin:∀p∈X.pn++pins,s.heap.get? p.1=some p.2/\H p.1=none/\p.1≠X.env.locals/\p.1∉X.fs/\∀v,p.2.data≠ .cell v
 hok:bU X.prog X.w H s.heap
 len:σ.length=X.N.length
section
variable{X:Cx}{pins:List (Addr×Obj)}{σ:List (Option V)}{H H':Hp}{s:Shared}{h':Heap}
def Cx.Ok.KR(ok:X.Ok){b:Addr}{o:Obj}(e:X.base.get? b=some o):b∉X.fs:=λhb=>by
 have:=(ok.eZ.mem hb).1
 rw[e] at this;cases this
theorem Inv.bs(I:Inv X pins σ H s):∀b o,X.base.get? b=some o->s.heap.get? b=some o/\H b=none:=λb o e=>
 ⟨I.base.keep b o (I.ok.bs b o e).1 (I.ok.bs b o e).2 (I.ok.KR e) (I.ok.qd b o e),I.base.free b o (I.ok.bs b o e).1 (I.ok.bs b o e).2 (I.ok.qd b o e)⟩
def Inv.bk(I:Inv X pins σ H s):∀b o,X.base.get? b=some o->s.heap.get? b=some o:=λb o e=>(I.bs b o e).1
theorem Inv.tb(I:Inv X pins σ H s):TabsOk X.K X.mg X.base H:=λx c P hx e=>⟨(I.ok.tb x c P hx e).1,I.base.dH _ _ (I.ok.tb x c P hx e).2.1,(I.ok.tb x c P hx e).2.2⟩
theorem Inv.mod(I:Inv X pins σ H s):Mod X.K X.mg X.base:=I.ok.mod
def Inv.fj(I:Inv X pins σ H s):X.K.In s.heap:=I.ok.mod.Ea.keeps I.bk
theorem Inv.nolimit(I:Inv X pins σ H s):s.heap.NoLimit:=I.ok.mod.nolimit.keeps I.bk
theorem Inv.lt(I:Inv X pins σ H s):X.env.locals<s.heap.objs.size:=let ⟨_,hn,_⟩:=I.loc;hn.lt
def Inv.sz(I:Inv X pins σ H s):X.s₀.heap.objs.size<=s.heap.objs.size:=Nat.le_trans I.ok.above (Nat.le_of_lt I.lt)
def Inv.KY(I:Inv X pins σ H s){a:Addr}(h:s.heap.objs.size<=a):a∉X.fs:=λhb=>by
 obtain⟨_,o,ho,_⟩:=I.ok.eZ.mem hb
 exact absurd (Nat.lt_of_lt_of_le (Heap.lt_size ho) (Nat.le_trans I.sz h)) (Nat.lt_irrefl _)
def Inv.zM(I:Inv X pins σ H s):∀x c,X.env.cells.lookup x=some c->c≠X.env.locals:=λx c e z=>by
 obtain⟨v,o,ho,hd⟩:=I.cell x c e
 obtain⟨m,⟨o',es,ep,ho',hd',_⟩,_⟩:=I.loc
 rw[z,ho'] at ho;cases ho;rw[hd'] at hd;cases hd
theorem Inv.eZ(I:Inv X pins σ H s):s.heap.FunFrames X.base X.outer:=by
 have all:∀(l:List Env),(∀b∈frs l,b∈X.fs)->X.s₀.heap.FunFrames X.base l->s.heap.FunFrames X.base l:=by
  intro l
  induction l with
  |nil=>intro _ _;trivial
  |cons env r ih=>
   intro hs hl
   obtain⟨hk,⟨L,o,hf,hn,ho,hd⟩,hr⟩:=hl
   have hL:L∈X.fs:=hs L (by unfold frs;rw[List.filterMap_cons,hf];exact List.mem_cons_self)
   obtain⟨sl,e⟩:=I.base.slot L o ho (I.ok.Eb L hL) hL λz=>I.ok.vZ L z hL
   exact⟨hk,⟨L,_,hf,hn,e,hd⟩,ih (λb hb=>hs b (by unfold frs;rw[List.filterMap_cons,hf];exact List.mem_cons_of_mem _ hb)) hr⟩
 exact all X.outer (λ_ hb=>hb) I.ok.eZ
theorem Inv.stack(I:Inv X pins σ H s):s.heap.FunFrames X.base X.stack:=by
 rcases I.ok.stk with e|⟨e,hf⟩
 ·rw[e];exact I.eZ
 ·rw[e]
  obtain⟨m,hn,_⟩:=I.loc
  refine .cons (by rw[I.ok.kind];decide) hf hn ?_ I.eZ
  exact Heap.get?_none_of_le (Nat.le_trans I.ok.vY I.ok.above)
def Inv.fu(I:Inv X pins σ H s):∀b∈frs X.stack,b∈X.env.locals::X.fs:=λb hb=>by
 rcases I.ok.stk with e|⟨e,hf⟩
 ·rw[e] at hb;exact List.mem_cons_of_mem _ hb
 ·rw[e] at hb
  unfold frs at hb
  rw[List.filterMap_cons,hf] at hb
  exact hb
def Inv.jx(I:Inv X pins σ H s):∀b∈frs X.stack,H b=none:=λb hb=>by
 rcases List.mem_cons.mp (I.fu b hb) with e|hb
 ·rw[e];exact I.free
 ·obtain⟨_,o,ho,_⟩:=I.ok.eZ.mem hb
  exact I.base.free b o ho (I.ok.Eb b hb) λz=>I.ok.vZ b z hb
def Inv.step{g':Array GenState}{t':Nat}{d':Drawn}{ch:List Addr}(I:Inv X pins σ H s)
 (hch:∀b∈ch,(b∈X.ex\/X.s₀.heap.objs.size<=b)/\b≠X.env.locals/\(∀x c,X.env.cells.lookup x=some c->c≠b)/\∀p∈X.pn++pins,p.1≠b)
 (keep:∀b o,b≠X.env.locals->b∉X.fs->b∉ch->s.heap.get? b=some o->H b=none->h'.get? b=some o)
 (slot:∀b o,b≠X.env.locals->b∈X.fs->b∉ch->s.heap.get? b=some o->H b=none->∃sl,h'.get? b=some {o with slots:=sl})(free:∀b o,b∉ch->s.heap.get? b=some o->H b=none->H' b=none)
 (there:∀b o,b∉ch->s.heap.get? b=some o->∃o',h'.get? b=some o')
 (tups:∀b xs,H b=some (.tup xs)->H' b=some (.tup xs))(gY:∀b o u,H b=some (.ž o u)->H' b=some (.ž o u))(dH:∀b q,H b=some (.gQ q)->H' b=some (.gQ q))
 (ns:∀m,s.heap.Ns X.env.locals m->h'.Ns X.env.locals m)(hok:bU X.prog X.w H' h')(hg:AllBare g') :
 Inv X pins σ H' {s with heap:=h',gens:=g',drawn:=d',toks:=t'}:=by
 have Rk:∀b o,X.s₀.heap.get? b=some o->b≠X.env.locals:=λb o e=>Nat.ne_of_lt (Nat.lt_of_lt_of_le (Heap.lt_size e) I.ok.above)
 have Je:∀b o,X.s₀.heap.get? b=some o->b∉X.ex->b∉ch:=λb o e hx hb=>by
  rcases(hch b hb).1 with z|z
  ·exact hx z
  ·exact absurd (Nat.lt_of_lt_of_le (Heap.lt_size e) z) (Nat.lt_irrefl _)
 have cellK:∀x c,X.env.cells.lookup x=some c->∀v,s.heap.IsCell c v->h'.IsCell c v:=λx c e v ⟨o,ho,hd⟩=>by
  have En:c∉ch:=λz=>(hch c z).2.2.1 x c e rfl
  by_cases hc:c∈X.fs
  ·obtain⟨sl,q⟩:=slot c o (I.zM x c e) hc En ho (I.aQ x c e)
   exact⟨_,q,hd⟩
  ·exact⟨o,keep c o (I.zM x c e) hc En ho (I.aQ x c e),hd⟩
 refine⟨I.ok,I.os,hg,⟨λb o e n hb hx=>?_,λb o e n hb hx=>?_,λb o e n hx=>?_,λb o e hx=>?_,λb xs e=>tups b xs (I.base.tups b xs e),λb o xs e=>gY b o xs (I.base.gY b o xs e),λb ps e=>?_⟩,?_,λx c e=>?_,?_,λx c e=>?_,λp hp=>?_,hok,I.len⟩
 ·exact keep b o (Rk b o e) hb (Je b o e hx) (I.base.keep b o e n hb hx) (I.base.free b o e n hx)
 ·obtain⟨sl,e1⟩:=I.base.slot b o e n hb hx
  obtain⟨sl',e2⟩:=slot b _ (Rk b o e) hb (Je b o e hx) e1 (I.base.free b o e n hx)
  exact⟨sl',e2⟩
 ·obtain⟨o',e1⟩:=I.base.there b o e hx
  exact free b o' (Je b o e hx) e1 (I.base.free b o e n hx)
 ·obtain⟨o',e1⟩:=I.base.there b o e hx
  exact there b o' (Je b o e hx) e1
 ·exact dH b ps (I.base.dH b ps e)
 ·obtain⟨m,hn,hl⟩:=I.loc
  refine⟨m,ns m hn,λi x v e1 e2 e3=>?_⟩
  obtain⟨u,r,l⟩:=hl i x v e1 e2 e3
  refine⟨u,r,?_⟩
  rcases l with l|⟨k,c,e,z⟩
  ·exact .inl l
  ·exact .inr ⟨k,c,e,cellK x c e _ z⟩
 ·obtain⟨v,z⟩:=I.cell x c e
  exact⟨v,cellK x c e v z⟩
 ·obtain⟨m,⟨o,_,_,ho,_⟩,_⟩:=I.loc
  exact free _ o (λz=>(hch _ z).2.1 rfl) ho I.free
 ·obtain⟨v,o,ho,hd⟩:=I.cell x c e
  exact free c o (λz=>(hch c z).2.2.1 x c e rfl) ho (I.aQ x c e)
 ·obtain⟨e,n,ne,nf,d⟩:=I.pin p hp
  have En:p.1∉ch:=λz=>(hch p.1 z).2.2.2 p hp rfl
  exact⟨keep p.1 p.2 ne nf En e n,free p.1 p.2 En e n,ne,nf,d⟩
def Inv.un{t':Nat}(I:Inv X pins σ H s)(u:Un X.fs [] H H' s.heap h')(hok:bU X.prog X.w H' h'):Inv X pins σ H' {s with heap:=h',toks:=t'}:=by
 obtain⟨m,⟨o,es,ep,ho,r⟩,_⟩:=id I.loc
 obtain⟨sl,hL⟩:=u.any ho I.free (by simp)
 exact I.step (g':=s.gens) (d':=s.drawn) (ch:=[]) (λ_ z=>nomatch z) (λb o _ hb _ e n=>u.keep b o e n hb (by simp)) (λb o _ hb _ e n=>u.slot b o e n hb (by simp)) (λb o _ e n=>u.free b o e n (by simp)) (λb o _ e=>u.there b o e (by simp)) u.tups u.gY u.dH (λm' hm=>by
  obtain⟨o',es',ep',ho',r'⟩:=hm
  rw[ho] at ho';cases ho'
  exact⟨_,es',ep',hL,r'⟩) hok I.bare
def Inv.call{g':Array GenState}{t':Nat}{d':Drawn}{ch:List Addr}(I:Inv X pins σ H s)(u:Un (frs X.stack) ch H H' s.heap h')(hok:bU X.prog X.w H' h')(hg:AllBare g')
 (hch:∀b∈ch,(b∈X.ex\/X.s₀.heap.objs.size<=b)/\b≠X.env.locals/\(∀x c,X.env.cells.lookup x=some c->c≠b)/\∀p∈X.pn++pins,p.1≠b) :
 Inv X pins σ H' {s with heap:=h',gens:=g',drawn:=d',toks:=t'}:=by
 obtain⟨m,⟨o,es,ep,ho,r⟩,_⟩:=id I.loc
 obtain⟨sl,hL⟩:=u.any ho I.free λz=>(hch _ z).2.1 rfl
 exact I.step (ch:=ch) hch (λb o hL hb hc e n=>u.keep b o e n (λz=>(List.mem_cons.mp (I.fu b z)).elim hL hb) hc) (λb o _ _ hc e n=>u.any e n hc) (λb o hc e n=>u.free b o e n hc) (λb o hc e=>u.there b o e hc) u.tups u.gY u.dH (λm' hm=>by
  obtain⟨o',es',ep',ho',r'⟩:=hm
  rw[ho] at ho';cases ho'
  exact⟨_,es',ep',hL,r'⟩) hok hg
def Inv.turned{t':Nat}{it:Addr}(I:Inv X pins σ H s)(k:∀b o,b≠it->s.heap.get? b=some o->h'.get? b=some o)(hn:H it=none)(hL:it≠X.env.locals)
 (h1:it∈X.ex\/X.s₀.heap.objs.size<=it)(h2:∀x c,X.env.cells.lookup x=some c->c≠it)(h3:∀p∈X.pn++pins,p.1≠it):Inv X pins σ H {s with heap:=h',toks:=t'}:=by
 have Eo:∀b u,H b=some u->b≠it:=λb u e z=>by rw[z,hn] at e;cases e
 refine I.step (g':=s.gens) (d':=s.drawn) (ch:=[it]) (λb hb=>?_) (λb o _ _ hc e _=>k b o (λz=>hc (by simp[z])) e) (λb o _ _ hc e _=>⟨o.slots,k b o (λz=>hc (by simp[z])) e⟩) (λ_ _ _ _ n=>n)
  (λb o hc e=>⟨o,k b o (λz=>hc (by simp[z])) e⟩) (λ_ _ e=>e) (λ_ _ _ e=>e) (λ_ _ e=>e) (λm hm=>?_) (λb u e=>?_) I.bare
 ·have e:b=it:=by simpa using hb
  subst e
  exact⟨h1,hL,h2,h3⟩
 ·obtain⟨o,es,ep,ho,r⟩:=hm
  exact⟨o,es,ep,k _ o (Ne.symm hL) ho,r⟩
 ·refine(I.hok b u e).stay (λc v hc q=>k c v ?_ q) (λ_ q=>q) λ_ _ q=>q
  rcases hc with z|z
  ·rw[z];exact Eo b u e
  ·exact Eo c _ z
def Inv.tok(I:Inv X pins σ H s)(t:Nat):Inv X pins σ H {s with toks:=t}:=I.un (h':=s.heap) (t':=t) Un.refl I.hok
theorem Inv.kept{t':Nat}(I:Inv X pins σ H s)(k:∀b u,s.heap.get? b=some u->h'.get? b=some u):Inv X pins σ H {s with heap:=h',toks:=t'}:=I.un (Un.kept k) (I.hok.kept k)
theorem Inv.laid{a:Addr}{o:HO}{t':Nat}(I:Inv X pins σ H s)(k:∀b u,s.heap.get? b=some u->h'.get? b=some u)(hp:s.heap.objs.size<=a)(new:ō X.prog X.w (upd H a o) h' a o) :
 Inv X pins σ (upd H a o) {s with heap:=h',toks:=t'}:=I.un (Un.laid k hp (I.hok.fresh hp)) (I.hok.laid k hp new)
theorem Inv.write{x e:Addr}{o:HO}{t':Nat}(I:Inv X pins σ H s)(mu:Jc (H x))(he:e=x\/H e=some (.own x))(k:∀b u,b≠e->s.heap.get? b=some u->h'.get? b=some u)(heo:∃u,h'.get? e=some u)
 (new:ō X.prog X.w (upd H x o) h' x o):Inv X pins σ (upd H x o) {s with heap:=h',toks:=t'}:=I.un (Un.write mu he k heo) (I.hok.write mu he k heo new)
def Inv.n_{bF:List (Addr×Obj)}(I:Inv X pins σ H s)(h:∀p∈bF,s.heap.get? p.1=some p.2/\H p.1=none/\p.1≠X.env.locals/\p.1∉X.fs/\∀v,p.2.data≠ .cell v):Inv X bF σ H s:=
 ⟨I.ok,I.os,I.bare,I.base,I.loc,I.cell,I.free,I.aQ,λp hp=>(List.mem_append.mp hp).elim (λz=>I.pin p (List.mem_append_left _ z)) (h p),I.hok,I.len⟩
def kh{N:List Str}(hN:N.Nodup){i j:Nat}{x:Str}(a:N[i]?=some x)(b:N[j]?=some x):i=j:=by
 obtain⟨h1,e1⟩:=List.getElem?_eq_some_iff.mp a
 obtain⟨h2,e2⟩:=List.getElem?_eq_some_iff.mp b
 exact(List.getElem_inj hN).mp (e1.trans e2.symm)
def iK{M:Model}{A:Around}{E:Value->Shared->Prop}{i:Nat}{x:Str}{v:V}{u:Value}{Q:Unit->Shared->Prop}(I:Inv X pins σ H s)(hN:X.N.Nodup)(hi:X.N[i]?=some x)(hx:Loc X.env.scope x)(r:RelV v u)
 (h:∀s',Inv X pins (σ.set i (some v)) H s'->(∃a,Heap.SameBut a s.heap s'.heap/\(a=X.env.locals\/X.env.cells.lookup x=some a))->Q () s')(hf:X.fn x=true\/X.env.scope.names.lookup x=some .local:=by first|exact .inl rfl|exact .inr rfl|assumption):wpAny M A (storeName X.env x u) Q E s:=by
 obtain⟨m,hn,hl⟩:=id I.loc
 have hcls:(X.env.scope.kind== .class || (X.env.scope.kind== .module && X.env.locals != X.env.globals))=false:=by rw[I.ok.kind];rfl
 have Rm:i < σ.length:=by rw[I.len];exact(List.getElem?_eq_some_iff.mp hi).1
 have zM:=I.zM
 have tracked:∀{a:Addr} {h':Heap},(∃o,s.heap.get? a=some o/\H a=none)->Heap.SameBut a s.heap h'->bU X.prog X.w H h':=fun{a h'} ha hs b ob e=>by
  obtain⟨_,_,hfree⟩:=ha
  refine(I.hok b ob e).stay (λc w' hc q=>(hs.2 c ?_).trans q) (λ_ q=>q) λ_ _ q=>q
  rintro rfl
  rcases hc with rfl|hc
  ·rw[hfree] at e;cases e
  ·rw[hfree] at hc;cases hc
 rcases hx with hk|hk
 ·refine wpAny_storeName_local hk hn (λh' hn' hs=>?_) hcls
  obtain⟨oL,_,_,hoL,_⟩:=id hn
  refine h _ ⟨I.ok,I.os,I.bare,⟨λb o e n hb hx=>?_,λb o e n hb hx=>?_,I.base.free,λb o e hx=>?_,I.base.tups,I.base.gY,I.base.dH⟩,⟨_,hn',λj y v' e1 e2 e3=>?_⟩,λy c e=>?_,I.free,I.aQ,λp hp=>?_,tracked ⟨oL,hoL,I.free⟩ hs,by simpa using I.len⟩ ⟨_,hs,.inl rfl⟩
  ·exact(hs.2 b (Nat.ne_of_lt (Nat.lt_of_lt_of_le (Heap.lt_size e) I.ok.above))).trans (I.base.keep b o e n hb hx)
  ·obtain⟨sl,e1⟩:=I.base.slot b o e n hb hx
   exact⟨sl,(hs.2 b (Nat.ne_of_lt (Nat.lt_of_lt_of_le (Heap.lt_size e) I.ok.above))).trans e1⟩
  ·obtain⟨o',e1⟩:=I.base.there b o e hx
   exact⟨o',(hs.2 b (Nat.ne_of_lt (Nat.lt_of_lt_of_le (Heap.lt_size e) I.ok.above))).trans e1⟩
  ·by_cases hj:j=i
   ·subst hj
    rw[hi] at e1;cases e1
    rw[List.getElem?_set_self Rm] at e2
    cases e2
    exact⟨u,r,.inl ⟨hk,by simp⟩⟩
   ·rw[List.getElem?_set_ne (Ne.symm hj)] at e2
    obtain⟨u',r',q⟩:=hl j y v' e1 e2 e3
    refine⟨u',r',?_⟩
    rcases q with⟨k,e⟩|⟨k,c,e,z⟩
    ·refine .inl ⟨k,?_⟩
     have:y≠x:=λe=>hj (kh hN e1 (e▸hi))
     simp[this,e]
    ·exact .inr ⟨k,c,e,z.sameBut hs (zM y c e)⟩
  ·obtain⟨w',z⟩:=I.cell y c e
   exact⟨w',z.sameBut hs (zM y c e)⟩
  ·obtain⟨e,n,ne,nf,d⟩:=I.pin p hp
   exact⟨(hs.2 p.1 ne).trans e,n,ne,nf,d⟩
 ·have hfn:X.fn x=true:=by
   rcases hf with z|z
   ·exact z
   ·rw[z] at hk;cases hk
  obtain⟨c,hc⟩:=I.ok.has x (.inl hk)
  obtain⟨w',z⟩:=I.cell x c hc
  refine wpAny_storeName_cell I.ok.kind hk hc z (λh' hc' hs=>?_)
  obtain⟨oc,hoc,KZ⟩:=id z
  refine h {s with heap:=h'} ⟨I.ok,I.os,I.bare,⟨λb o e n hb hx=>?_,λb o e n hb hx=>?_,I.base.free,λb o e hx=>?_,I.base.tups,I.base.gY,I.base.dH⟩,⟨m,hn.sameBut hs (Ne.symm (zM x c hc)),λj y v' e1 e2 e3=>?_⟩,λy c' e=>?_,I.free,I.aQ,λp hp=>?_,tracked ⟨oc,hoc,I.aQ x c hc⟩ hs,by simpa using I.len⟩ ⟨c,hs,.inr hc⟩
  ·exact(hs.2 b (Nat.ne_of_lt (Nat.lt_of_lt_of_le (Heap.lt_size e) (I.ok.cab x c hfn hc)))).trans (I.base.keep b o e n hb hx)
  ·obtain⟨sl,e1⟩:=I.base.slot b o e n hb hx
   exact⟨sl,(hs.2 b (Nat.ne_of_lt (Nat.lt_of_lt_of_le (Heap.lt_size e) (I.ok.cab x c hfn hc)))).trans e1⟩
  ·obtain⟨o',e1⟩:=I.base.there b o e hx
   exact⟨o',(hs.2 b (Nat.ne_of_lt (Nat.lt_of_lt_of_le (Heap.lt_size e) (I.ok.cab x c hfn hc)))).trans e1⟩
  ·by_cases hj:j=i
   ·subst hj
    rw[hi] at e1;cases e1
    rw[List.getElem?_set_self Rm] at e2
    cases e2
    exact⟨u,r,.inr ⟨.inl hk,c,hc,hc'⟩⟩
   ·rw[List.getElem?_set_ne (Ne.symm hj)] at e2
    obtain⟨u',r',q⟩:=hl j y v' e1 e2 e3
    refine⟨u',r',?_⟩
    rcases q with q|⟨k,c',e,z'⟩
    ·exact .inl q
    ·refine .inr ⟨k,c',e,z'.sameBut hs ?_⟩
     rintro rfl
     exact hj (kh hN e1 (I.ok.inj _ _ _ e hc▸hi))
  ·by_cases hcc:c'=c
   ·subst hcc;exact⟨_,hc'⟩
   ·obtain⟨w2,z2⟩:=I.cell y c' e
    exact⟨w2,z2.sameBut hs hcc⟩
  ·obtain⟨e,n,ne,nf,d⟩:=I.pin p hp
   refine⟨(hs.2 p.1 ?_).trans e,n,ne,nf,d⟩
   intro q
   rw[q,hoc] at e
   have q':oc=p.2:=Option.some.inj e
   exact d w' (by rw[<-q'];exact KZ)
def fB{M:Model}{A:Around}{E:Value->Shared->Prop}{i:Nat}{x:Str}{v:V}{u:Value}{Q:Unit->Shared->Prop}(I:Inv X pins σ H s)(hN:X.N.Nodup)(hi:X.N[i]?=some x)(hx:Loc X.env.scope x)(r:RelV v u)
 (h:∀s',Inv X pins (σ.set i (some v)) H s'->Q () s')(hf:X.fn x=true\/X.env.scope.names.lookup x=some .local:=by first|exact .inl rfl|exact .inr rfl|assumption):wpAny M A (storeName X.env x u) Q E s:=
 iK I hN hi hx r (λs' I' _=>h s' I') hf
def Inv.call'{s':Shared}{ch:List Addr}(I:Inv X pins σ H s)(ho:s'.os=s.os)(u:Un (frs X.stack) ch H H' s.heap s'.heap)(hok:bU X.prog X.w H' s'.heap)(hg:AllBare s'.gens)
 (hch:∀b∈ch,(b∈X.ex\/X.s₀.heap.objs.size<=b)/\b≠X.env.locals/\(∀x c,X.env.cells.lookup x=some c->c≠b)/\∀p∈X.pn++pins,p.1≠b):Inv X pins σ H' s':=by
 obtain⟨h',g',d',t',o'⟩:=s'
 have e:o'=s.os:=ho
 subst e
 exact I.call (g':=g') (t':=t') (d':=d') u hok hg hch
end
abbrev XK:=Value->Option Addr->Hp->Prop
abbrev St:=List (Option V)
abbrev VK:=V->Hp->Prop
abbrev TE:=St->Hp->VK->Prop
abbrev TT:=St->Hp->(Bool->Hp->Prop)->Prop
abbrev TA:=St->Hp->(List V->Hp->Prop)->Prop
structure Ends where
 nx:St->Hp->Prop
 rt:VK
 bk:St->Hp->Prop:=λ_ _=>False
 ct:St->Hp->Prop:=λ_ _=>False
abbrev TS:=Ends->St->Hp->Prop
def EP(X:Cx)(pins:List (Addr×Obj))(σ:St)(Q:VK)(u:Value)(s':Shared):Prop:=∃v H',Inv X pins σ H' s'/\RelV v u/\Q v H'
def TP(X:Cx)(pins:List (Addr×Obj))(σ:St)(Q:Bool->Hp->Prop)(b:Bool)(s':Shared):Prop:=∃H',Inv X pins σ H' s'/\Q b H'
def AP(X:Cx)(pins:List (Addr×Obj))(σ:St)(Q:List V->Hp->Prop)(us:List Value)(s':Shared):Prop:=∃vs H',Inv X pins σ H' s'/\Vals vs us/\Q vs H'
def SP(X:Cx)(pins:List (Addr×Obj))(D:Ends)(f:Flow)(s':Shared):Prop:=
 match f with
 | .next=>∃σ' H',Inv X pins σ' H' s'/\D.nx σ' H'
 | .brk=>∃σ' H',Inv X pins σ' H' s'/\D.bk σ' H'
 | .cont=>∃σ' H',Inv X pins σ' H' s'/\D.ct σ' H'
 | .ret u=>∃v σ' H',Inv X pins σ' H' s'/\RelV v u/\D.rt v H'
def PE(X:Cx)(e:Expr)(t:TE):Prop:=
 ∀(pins:List (Addr×Obj)) (s:Shared) (σ:St) (H:Hp) (Q:VK),Inv X pins σ H s->t σ H Q->wpAny (model X.prog X.w) X.A (eval e X.env) (EP X pins σ Q) X.xe s
def PT(X:Cx)(e:Expr)(t:TT):Prop:=
 ∀(pins:List (Addr×Obj)) (s:Shared) (σ:St) (H:Hp) (Q:Bool->Hp->Prop),Inv X pins σ H s->t σ H Q->wpAny (model X.prog X.w) X.A (isTrue e X.env (eval e X.env)) (TP X pins σ Q) X.xe s
def PW(X:Cx)(e:Expr)(t:TT):Prop:=
 ∀(whole:Sem Value) (pins:List (Addr×Obj)) (s:Shared) (σ:St) (H:Hp) (Q:Bool->Hp->Prop),Inv X pins σ H s->t σ H Q->wpAny (model X.prog X.w) X.A (isTrue e X.env whole) (TP X pins σ Q) X.xe s
def PW.pt{X:Cx}{e:Expr}{t:TT}(h:PW X e t):PT X e t:=h _
def PA(X:Cx)(es:List Expr)(t:TA):Prop:=
 ∀(pos:Pos) (pins:List (Addr×Obj)) (s:Shared) (σ:St) (H:Hp) (Q:List V->Hp->Prop),Inv X pins σ H s->t σ H Q->wpAny (model X.prog X.w) X.A (spliced (backTo pos (starEach es X.env))) (AP X pins σ Q) X.xe s
def PS(X:Cx)(st:Stmt)(t:TS):Prop:=
 ∀(pins:List (Addr×Obj)) (s:Shared) (σ:St) (H:Hp) (D:Ends),Inv X pins σ H s->t D σ H->wpAny (model X.prog X.w) X.A (exec st X.env) (SP X pins D) X.xe s
def dI(X:Cx)(st:List Stmt)(t:TS):Prop:=
 ∀(pins:List (Addr×Obj)) (s:Shared) (σ:St) (H:Hp) (D:Ends),Inv X pins σ H s->t D σ H->wpAny (model X.prog X.w) X.A (execs st X.env) (SP X pins D) X.xe s
def Ļ{α:Type}{t:Sem α}{Q Q':α->Shared->Prop}{M:Model}{A:Around}{E:Value->Shared->Prop}{s:Shared}(h:wpAny M A t Q E s)(hQ:∀a s,Q a s->Q' a s):wpAny M A t Q' E s:=wpAny_mono h hQ λ_ _ x=>x
end L2
namespace L2
open PySem PySem.Spec PyProof.Rows
section
variable{X:Cx}
def lX(i:Nat):TE:=λσ H Q=>∃v,σ[i]?=some (some v)/\Q v H
def tC(v:V):TE:=λ_ H Q=>Q v H
def ŧ{i:Nat}{x:Str}{pos:Pos}(hN:X.N[i]?=some x)(hv:lV X.env.scope x)(hd:(x== ("__debug__" :Str))=false:=by decide)(hcd:(x== ("__classdict__" :Str))=false:=by decide):PE X (.Name x pos) (lX i):=by
 intro pins s σ H Q I h
 obtain⟨v,e,h⟩:=h
 obtain⟨m,hn,hl⟩:=I.loc
 obtain⟨u,r,l⟩:=hl i x v hN e hv
 have fin:EP X pins σ Q u s:=⟨v,H,I,r,h⟩
 rcases l with⟨hk,hm⟩|⟨hk,c,hc,hcell⟩
 ·exact wpAny_Name (wpAny_loadName_local I.ok.kind hk hn hm fin) hd
 ·rcases hk with hk|hk
  ·exact wpAny_Name (wpAny_loadName_cell I.ok.kind hk hc hcell fin) hd
  ·exact wpAny_Name (wpAny_loadName_free I.ok.kind hk hc hcell fin hcd) hd
def qU{i j pos}:PE X (.Constant (.int i) j pos) (tC (.int i)):=λ_ _ _ H _ I h=>wpAny_Constant_int ⟨.int i,H,I.tok _,⟨_,rfl⟩,h⟩
def Ep{b j pos}:PE X (.Constant (.bool b) j pos) (tC (.bl b)):=λ_ _ _ H _ I h=>Constant_bool ⟨.bl b,H,I,rfl,h⟩
def zN{j pos}:PE X (.Constant .none j pos) (tC .non):=λ_ _ _ H _ I h=>Constant_none ⟨.non,H,I,rfl,h⟩
def zO{x j pos}:PE X (.Constant (.str x) j pos) (tC (.str x)):=λ_ _ _ H _ I h=>Calls.Constant_str ⟨.str x,H,I.tok _,⟨_,rfl⟩,h⟩
def Gl(X:Cx)(x:Str):Prop:=X.env.kindOf x=some .globalImplicit
def jy{E:Value->Shared->Prop}{pins:List (Addr×Obj)}{s:Shared}{σ:St}{H:Hp}{x:Str}{u:Value}{pos:Pos}{Q:Value->Shared->Prop}(I:Inv X pins σ H s)(hg:Gl X x)(hm:X.mg x=some u)(h:Q u s)
 (hd:(x== ("__debug__" :Str))=false:=by decide):wpAny (model X.prog X.w) X.A (eval (.Name x pos) X.env) Q E s:=
 Calls.Name_function_global I.ok.kind hg (Calls.loadGlobal_global (by rw[I.ok.glob];exact I.mod.glob.keeps I.bk) hm h) hd
def bM{E:Value->Shared->Prop}{pins:List (Addr×Obj)}{s:Shared}{σ:St}{H:Hp}{x:Str}{u:Value}{pos:Pos}{Q:Value->Shared->Prop}(I:Inv X pins σ H s)(hg:Gl X x)(hm:X.mg x=none)(hv:bootBuiltins x=some u)(h:Q u s)
 (hn:x≠ "__name__" := by decide)(hd:(x== ("__debug__" :Str))=false:=by decide):wpAny (model X.prog X.w) X.A (eval (.Name x pos) X.env) Q E s:=by
 obtain⟨mb,h1,h2⟩:=I.mod.blt
 exact Calls.Name_function_global I.ok.kind hg (Calls.loadGlobal_builtin (by rw[I.ok.glob];exact I.mod.glob.keeps I.bk) hm (by rw[I.ok.blt];exact h1.keeps I.bk) ((h2 x hn).trans hv) h) hd
def eE{x:Str}{v:V}{u:Value}{pos:Pos}(hg:Gl X x)(hm:X.mg x=none)(hv:bootBuiltins x=some u)(r:RelV v u)(hn:x≠ "__name__" := by decide)(hd:(x== ("__debug__" :Str))=false:=by decide):PE X (.Name x pos) (tC v):=
 λ_ _ _ H _ I h=>bM I hg hm hv ⟨v,H,I,r,h⟩ hn hd
variable{a b:Expr}{ta tb:TE}{pos:Pos}
variable{tA Jf:TT}{rest:List Expr}
def K_(t u:TT):TT:=λσ H Q=>t σ H λc H1=>if c=true then u σ H1 Q else Q false H1
def UL(t u:TT):TT:=λσ H Q=>t σ H λc H1=>if c=true then Q true H1 else u σ H1 Q
def La(t:TT):TT:=λσ H Q=>t σ H λc H1=>Q (!c) H1
def wg(ha:PT X a tA):PW X (.BoolOp .And [a] pos) tA:=by
 intro wh pins s σ H Q I h
 refine isTrue_and (Ļ (ha pins s σ H Q I h) λc s1 e=>?_)
 cases c with
 |true=>exact isTrue_and_nil e
 |false=>exact e
def zP(ha:PT X a tA):PW X (.BoolOp .Or [a] pos) tA:=by
 intro wh pins s σ H Q I h
 refine isTrue_or (Ļ (ha pins s σ H Q I h) λc s1 e=>?_)
 cases c with
 |false=>exact isTrue_or_nil e
 |true=>exact e
def zQ(ha:PT X a tA)(hb:PW X (.BoolOp .And (b::rest) pos) Jf):PW X (.BoolOp .And (a::b::rest) pos) (K_ tA Jf):=by
 intro wh pins s σ H Q I h
 refine isTrue_and (Ļ (ha pins s σ H _ I h) λc s1 ⟨H1,I1,q1⟩=>?_)
 cases c with
 |true=>exact hb wh pins s1 σ H1 Q I1 q1
 |false=>exact⟨H1,I1,q1⟩
def Er(ha:PT X a tA)(hb:PW X (.BoolOp .Or (b::rest) pos) Jf):PW X (.BoolOp .Or (a::b::rest) pos) (UL tA Jf):=by
 intro wh pins s σ H Q I h
 refine isTrue_or (Ļ (ha pins s σ H _ I h) λc s1 ⟨H1,I1,q1⟩=>?_)
 cases c with
 |true=>exact⟨H1,I1,q1⟩
 |false=>exact hb wh pins s1 σ H1 Q I1 q1
def zR(ha:PT X a tA):PT X (.UnaryOp .Not a pos) (La tA):=by
 intro pins s σ H Q I h
 exact isTrue_not (ha pins s σ H (λc H1=>Q (!c) H1) I h)
def zT{op}{t:TE}(h:PE X a t):PE X (.BoolOp op [a] pos) t:=λpins s σ H Q I hw=>BoolOp_one (h pins s σ H Q I hw)
end
end L2
namespace L2
open PySem PySem.Spec PyProof.Rows
def ń(K:PySem.W.Frag)(H:Hp)(a:Addr)(xs:List V):Prop:=
 Rd H a (.lst xs)\/
  ∃(o:Obj) (its:Array Value) (n:Nat),K.lookup a=some o/\o.cls=.type "list" /\o.dict=none/\o.data=.seq its n/\its.size<=sizeLine/\Vals xs its.toList
def Ų(K:PySem.W.Frag)(H:Hp)(a:Addr)(xs:List V):Prop:=
 Rd H a (.tup xs)\/
  ∃(o:Obj) (its:Array Value) (n:Nat),K.lookup a=some o/\o.cls=.type "tuple" /\o.data=.seq its n/\its.size<=sizeLine/\Vals xs its.toList
def Lb:Value->Option V
 | .none=>some .non
 | .bool b=>some (.bl b)
 | .int i _=>some (.int i)
 | .str x _=>some (.str x)
 | .bytes b _=>some (.zK b)
 | .float b _=>some (.flt b)
 | .ref a=>some (.ref a)
 | .type n=>some (.ty n)
 |_=>none
def RelV.abs{x:V}{u:Value}(r:RelV x u):Lb u=some x:=by
 cases x with
 |non=>cases r;rfl
 |bl _=>cases r;rfl
 |int _=>obtain⟨t,rfl⟩:=r;rfl
 |str _=>obtain⟨t,rfl⟩:=r;rfl
 |zK _=>obtain⟨t,rfl⟩:=r;rfl
 |flt _=>obtain⟨t,rfl⟩:=r;rfl
 |ref _=>cases r;rfl
 |ty _=>cases r;rfl
theorem RelV.inj{x y:V}{u:Value}(r:RelV x u)(q:RelV y u):x=y:=Option.some.inj (r.abs.symm.trans q.abs)
theorem Vals.inj:∀{xs ys:List V} {us:List Value},Vals xs us->Vals ys us->xs=ys
 |_,_,_,.nil,.nil=>rfl
 |_,_,_,.cons r t,.cons r' t'=>by rw[r.inj r',Vals.inj t t']
section
variable{X:Cx}{pins:List (Addr×Obj)}{σ:St}{H:Hp}{s:Shared}{a:Addr}{xs ys:List V}
def ń.of{K:PySem.W.Frag}(h:H a=some (.lst xs)):ń K H a xs:=.inl (.inl h)
def Ų.of{K:PySem.W.Frag}(h:H a=some (.tup xs)):Ų K H a xs:=.inl (.inl h)
def Inv.list(I:Inv X pins σ H s)(h:ń X.K H a xs):∃its:List Value,Vals xs its/\PlainL s.heap a its.toArray/\xs.length<=sizeLine:=by
 rcases h with h|⟨o,its,n,hk,hc,hd,hs,hz,r⟩
 ·obtain⟨z,its,n,r,e⟩:=h.ok I.hok
  exact⟨its,r,⟨_,n,e,rfl,rfl,rfl⟩,z⟩
 ·refine⟨its.toList,r,⟨o,n,I.fj a o hk,hc,hd,by simpa using hs⟩,?_⟩
  have e:=r.length
  simp only[Array.length_toList] at e
  omega
def Inv.tuple(I:Inv X pins σ H s)(h:Ų X.K H a xs):∃its:List Value,Vals xs its/\IsTup s.heap a its.toArray/\xs.length<=sizeLine:=by
 rcases h with h|⟨o,its,n,hk,hc,hs,hz,r⟩
 ·obtain⟨z,its,r,p⟩:=h.ok I.hok
  exact⟨its,r,p,z⟩
 ·refine⟨its.toList,r,⟨o,I.fj a o hk,hc,n,by simpa using hs⟩,?_⟩
  have e:=r.length
  simp only[Array.length_toList] at e
  omega
def Inv.fC(I:Inv X pins σ H s)(h:ń X.K H a xs)(h':ń X.K H a ys):xs=ys:=by
 obtain⟨its,r,⟨o,n,e,_,_,d⟩,_⟩:=I.list h
 obtain⟨its',r',⟨o',n',e',_,_,d'⟩,_⟩:=I.list h'
 rw[e] at e';cases e'
 rw[d] at d'
 injection d' with d1 _
 have:its=its':=by simpa using congrArg Array.toList d1
 subst this
 exact r.inj r'
def Inv.iM(I:Inv X pins σ H s)(h:Ų X.K H a xs)(h':Ų X.K H a ys):xs=ys:=by
 obtain⟨its,r,⟨o,e,_,n,d⟩,_⟩:=I.tuple h
 obtain⟨its',r',⟨o',e',_,n',d'⟩,_⟩:=I.tuple h'
 rw[e] at e';cases e'
 rw[d] at d'
 injection d' with d1 _
 have:its=its':=by simpa using congrArg Array.toList d1
 subst this
 exact r.inj r'
end
abbrev Cx.wish(X:Cx)(E:Value->Shared->Prop):Cx:={X with xe:=E}
abbrev Cx.ĺ(X:Cx):Cx:=X.wish λ_ _=>False
theorem Cx.Ok.wish{X:Cx}(ok:X.Ok)(E:Value->Shared->Prop):(X.wish E).Ok:=
 ⟨ok.mod,ok.kind,ok.glob,ok.blt,ok.above,ok.inj,ok.has,ok.cab,ok.hd,ok.frames,ok.stk,ok.Rj,ok.bs,ok.vY,ok.qd,ok.vZ,ok.eZ,ok.Eb,ok.tb⟩
def Cx.Ok.ſ{X:Cx}{E:Value->Shared->Prop}(ok:(X.wish E).Ok):X.Ok:=
 ⟨ok.mod,ok.kind,ok.glob,ok.blt,ok.above,ok.inj,ok.has,ok.cab,ok.hd,ok.frames,ok.stk,ok.Rj,ok.bs,ok.vY,ok.qd,ok.vZ,ok.eZ,ok.Eb,ok.tb⟩
section
variable{X:Cx}{pins:List (Addr×Obj)}{σ:St}{H:Hp}{s:Shared}{E:Value->Shared->Prop}
theorem Inv.wish(I:Inv X pins σ H s)(E:Value->Shared->Prop):Inv (X.wish E) pins σ H s:=⟨I.ok.wish E,I.os,I.bare,I.base,I.loc,I.cell,I.free,I.aQ,I.pin,I.hok,I.len⟩
theorem Inv.ſ(I:Inv (X.wish E) pins σ H s):Inv X pins σ H s:=⟨I.ok.ſ,I.os,I.bare,I.base,I.loc,I.cell,I.free,I.aQ,I.pin,I.hok,I.len⟩
theorem SP.ſ{D:Ends}{f:Flow}{s':Shared}(h:SP (X.wish E) pins D f s'):SP X pins D f s':=by
 cases f with
 |next=>obtain⟨σ',H',I,q⟩:=h;exact⟨σ',H',I.ſ,q⟩
 |brk=>obtain⟨σ',H',I,q⟩:=h;exact⟨σ',H',I.ſ,q⟩
 |cont=>obtain⟨σ',H',I,q⟩:=h;exact⟨σ',H',I.ſ,q⟩
 |ret u=>obtain⟨v,σ',H',I,r,q⟩:=h;exact⟨v,σ',H',I.ſ,r,q⟩
theorem PE.ĺ{e:Expr}{t:TE}(h:PE X.ĺ e t):PE X e t:=λpins s σ H Q I hw=>
 wpAny_mono (h pins s σ H Q (I.wish _) hw) (λ_ _ ⟨v,H',I',r,q⟩=>⟨v,H',I'.ſ,r,q⟩) λ_ _ z=>False.elim z
end
section
variable{X:Cx}{st:Stmt}{rest:List Stmt}{t u:TS}{e:Expr}{te:TE}{pos:Pos}
def Es:TS:=λD σ H=>D.nx σ H
def Ld(t u:TS):TS:=λD σ H=>t {D with nx:=u D} σ H
def wj:dI X [] Es:=λ_ _ σ H _ I h=>wpAny_execs_nil ⟨σ,H,I,h⟩
def qW(h1:PS X st t)(h2:dI X rest u):dI X (st::rest) (Ld t u):=by
 intro pins s σ H D I h
 refine wpAny_execs_cons (Ļ (h1 pins s σ H {D with nx:=u D} I h) λf s1 q=>?_)
 cases f with
 |next=>
  obtain⟨σ',H',I',q⟩:=q
  exact h2 pins s1 σ' H' D I' q
 |ret v=>exact q
 |brk=>exact q
 |cont=>exact q
def wu(h1:PS X st t):dI X [st] t:=by
 intro pins s σ H D I h
 refine wpAny_execs_cons (Ļ (h1 pins s σ H D I h) λf s1 q=>?_)
 cases f with
 |next=>exact wpAny_execs_nil q
 |ret v=>exact q
 |brk=>exact q
 |cont=>exact q
def Inv.quiet{pins:List (Addr×Obj)}{σ:St}{H:Hp}{s:Shared}(I:Inv X pins σ H s):interactive X.env=false:=by simp[interactive,I.ok.kind]
def qX(te:TE):TS:=λD σ H=>te σ H λ_ H1=>D.nx σ H1
def jz(he:PE X e te)(hs:swapsWith e none pos.line X.env=pure false:=by rfl):PS X (.Expr e pos) (qX te):=by
 intro pins s σ H D I h
 exact wpAny_Expr_any (Ļ (he pins s σ H _ I h) λv s1 ⟨x,H1,I1,r1,q1⟩=>⟨σ,H1,I1,q1⟩) I.quiet hs
def Le(te:TE):TS:=λD σ H=>te σ H D.rt
def zU(he:PE X e te):PS X (.Return (some e) pos) (Le te):=by
 intro pins s σ H D I h
 exact wpAny_Return_some (Ļ (he pins s σ H _ I h) λv s1 ⟨x,H1,I1,r1,q1⟩=>⟨x,σ,H1,I1,r1,q1⟩)
def Lf(c:TT)(t u:TS):TS:=λD σ H=>c σ H λb H1=>if b=true then t D σ H1 else u D σ H1
def Et{c:Expr}{a b:List Stmt}{tc:TT}(hc:PT X c tc)(ha:dI X a t)(hb:dI X b u):PS X (.If c a b pos) (Lf tc t u):=by
 intro pins s σ H D I h
 refine wpAny_If (Ļ (hc pins s σ H _ I h) λd s1 ⟨H1,I1,q1⟩=>?_)
 cases d with
 |true=>exact ha pins s1 σ H1 D I1 q1
 |false=>exact hb pins s1 σ H1 D I1 q1
end
abbrev TG:=V->St->Hp->(St->Hp->Prop)->Prop
abbrev wz:=List V->St->Hp->(St->Hp->Prop)->Prop
def PG(X:Cx)(target:Expr)(t:TG):Prop:=
 ∀(pins:List (Addr×Obj)) (s:Shared) (σ:St) (H:Hp) (v:V) (u:Value) (Q:St->Hp->Prop),Inv X pins σ H s->RelV v u->t v σ H Q->
  wpAny (model X.prog X.w) X.A (assign target X.env u) (λ_ s'=>∃σ' H',Inv X pins σ' H' s'/\Q σ' H') X.xe s
def qe(X:Cx)(ts:List Expr)(t:wz):Prop:=
 ∀(pins:List (Addr×Obj)) (s:Shared) (σ:St) (H:Hp) (vs:List V) (us:List Value) (Q:St->Hp->Prop),Inv X pins σ H s->Vals vs us->t vs σ H Q->
  wpAny (model X.prog X.w) X.A (assignInOrder ((assignEach ts X.env).map (·.2)) us) (λ_ s'=>∃σ' H',Inv X pins σ' H' s'/\Q σ' H') X.xe s
abbrev Jg:=V->V->Hp->VK->Prop
def Rn(X:Cx)(op:Operator)(t:Jg):Prop:=
 ∀(pins:List (Addr×Obj)) (s:Shared) (σ:St) (H:Hp) (x y:V) (v u:Value) (Q:VK),Inv X pins σ H s->RelV x v->RelV y u->t x y H Q->
  wpAny (model X.prog X.w) X.A (inplaceOp op v u) (EP X pins σ Q) X.xe s
section
variable{X:Cx}{pos:Pos}
def yD(i:Nat):TG:=λv σ H Q=>Q (σ.set i (some v)) H
def wA{i:Nat}{x:Str}(hN:X.N.Nodup)(hi:X.N[i]?=some x)(hx:Loc X.env.scope x)(hf:X.fn x=true\/X.env.scope.names.lookup x=some .local:=by first|exact .inl rfl|exact .inr rfl|assumption):PG X (.Name x pos) (yD i):=by
 intro pins s σ H v u Q I r h
 exact wpAny_assign_Name (fB I hN hi hx r (λs' I'=>⟨_,H,I',h⟩) hf)
def Lg:wz:=λvs σ H Q=>vs=[]/\Q σ H
def Eu(t:TG)(u:wz):wz:=λvs σ H Q=>∃v r,vs=v::r/\t v σ H λσ' H'=>u r σ' H' Q
def wB:qe X [] Lg:=by
 intro pins s σ H vs us Q I r h
 obtain⟨e,h⟩:=h
 subst e
 cases r
 exact assignInOrder_nil ⟨σ,H,I,h⟩
def qY{e:Expr}{es:List Expr}{t:TG}{u:wz}(h1:PG X e t)(h2:qe X es u)
 (hs:(assignEach (e::es) X.env).map (·.2)=assign e X.env::(assignEach es X.env).map (·.2):=by rfl):qe X (e::es) (Eu t u):=by
 intro pins s σ H vs us Q I r h
 obtain⟨v,vr,e1,h⟩:=h
 subst e1
 cases r with
 |cons r rr=>
  rw[hs]
  refine assignInOrder_cons (Ļ (h1 pins s σ H _ _ _ I r h) λ_ s1 ⟨σ1,H1,I1,q1⟩=>?_)
  exact h2 pins s1 σ1 H1 _ _ Q I1 rr q1
def Li(K:PySem.W.Frag)(n:Nat)(t:wz):TG:=λv σ H Q=>∃a xs,v=.ref a/\Ų K H a xs/\xs.length=n/\t xs σ H Q
def zV{es:List Expr}{k:Nat}{t:wz}{n:Nat}(hc:X.calm=true)(h:qe X es t)
 (hn:(assignEach es X.env).length=n:=by rfl)(hst:(assignEach es X.env).findIdx? (·.1)=none:=by rfl):PG X (.Tuple es k pos) (Li X.K n t):=by
 intro pins s σ H v u Q I r hw
 obtain⟨a,xs,e1,hq,hl,hw⟩:=hw
 subst e1
 cases r
 obtain⟨its,rv,ht,hz⟩:=I.tuple hq
 refine assign_Tuple_tuple (I.ok.hd hc) ht (by simp[hn,<-hl,rv.length]) hst λh' hx=>?_
 have I1:Inv X pins σ H {s with heap:=h'}:=I.kept (t':=s.toks) λb o e=>hx b o (Nat.ne_of_lt (Heap.lt_size e)) e
 exact h pins _ σ H xs _ Q I1 (by simpa using rv) hw
def Lj(te:TE)(g:TG):TS:=λD σ H=>te σ H λx H1=>g x σ H1 D.nx
def zW{i:Nat}{x:Str}{e:Expr}{te:TE}{pos':Pos}(hN:X.N.Nodup)(hi:X.N[i]?=some x)(hx:Loc X.env.scope x)(he:PE X e te)(hs:swapsWith e (some (.Name x pos')) pos.line X.env=pure false:=by rfl)(hf:X.fn x=true\/X.env.scope.names.lookup x=some .local:=by first|exact .inl rfl|exact .inr rfl|assumption) :
 PS X (.Assign [.Name x pos'] e pos) (Lj te (yD i)):=by
 intro pins s σ H D I h
 refine wpAny_Assign_Name (Ļ (he pins s σ H _ I h) λv s1 ⟨y,H1,I1,r1,q1⟩=>?_) hs
 exact fB I1 hN hi hx r1 (λs2 I2=>⟨_,H1,I2,q1⟩) hf
def Lk(i:Nat)(te:TE)(ti:Jg):TS:=λD σ H=>∃x,σ[i]?=some (some x)/\te σ H λy H1=>ti x y H1 λz H2=>D.nx (σ.set i (some z)) H2
def zX{i:Nat}{x:Str}{e:Expr}{te:TE}{op:Operator}{ti:Jg}{pos':Pos}(hN:X.N.Nodup)(hi:X.N[i]?=some x)(hx:Loc X.env.scope x)(he:PE X e te)(ho:Rn X op ti)(hf:X.fn x=true\/X.env.scope.names.lookup x=some .local:=by first|exact .inl rfl|exact .inr rfl|assumption) :
 PS X (.AugAssign (.Name x pos') op e pos) (Lk i te ti):=by
 intro pins s σ H D I h
 obtain⟨v,e1,h⟩:=h
 obtain⟨m,hn,hl⟩:=I.loc
 have vis:lV X.env.scope x:=by rcases hx with k|k;exact .inl k;exact .inr (.inl k)
 obtain⟨u,r,l⟩:=hl i x v hi e1 vis
 refine wpAny_AugAssign_Name ?_
 have go:wpAny (model X.prog X.w) X.A (eval e X.env) (λw s₂=>wpAny (model X.prog X.w) X.A (inplaceOp op u w) (λr s₃=>wpAny (model X.prog X.w) X.A (storeName X.env x r) (λ_=>SP X pins D .next) X.xe s₃) X.xe s₂) X.xe s:=by
  refine Ļ (he pins s σ H _ I h) λw s1 ⟨y,H1,I1,r1,q1⟩=>?_
  refine Ļ (ho pins s1 σ H1 v y u w _ I1 r r1 q1) λz s2 ⟨zv,H2,I2,r2,q2⟩=>?_
  exact fB I2 hN hi hx r2 (λs3 I3=>⟨_,H2,I3,q2⟩) hf
 rcases l with⟨hk,hm⟩|⟨hk,c,hc,hcell⟩
 ·exact wpAny_loadName_local I.ok.kind hk hn hm go
 ·rcases hk with hk|hk
  ·exact wpAny_loadName_cell I.ok.kind hk hc hcell go
  ·rcases hx with k|k
   ·have:X.env.scope.names.lookup x=some .free:=hk
    rw[k] at this;cases this
   ·have:X.env.scope.names.lookup x=some .free:=hk
    rw[k] at this;cases this
def UW(f:Int->Int->Int):Jg:=λx y H Q=>∃i j,x=.int i/\y=.int j/\Q (.int (f i j)) H
end
section
variable{X:Cx}{pos:Pos}
end
structure It where
 go:Nat->Hp->Prop
 Jh:Nat->Hp->V->Hp->Prop
 stop:Nat->Hp->Prop
def ř(X:Cx)(pins:List (Addr×Obj))(H:Hp)(b:Addr):Prop:=
 H b=none/\b≠X.env.locals/\b∉X.fs/\(b∈X.ex\/X.s₀.heap.objs.size<=b)/\(∀x c,X.env.cells.lookup x=some c->c≠b)/\∀p∈X.pn++pins,p.1≠b
def Inv.g_{X:Cx}{pins:List (Addr×Obj)}{σ:St}{H H':Hp}{s:Shared}{b:Addr}(I:Inv X pins σ H s)(hb:s.heap.objs.size<=b)(hn:H' b=none):ř X pins H' b:=by
 refine⟨hn,Nat.ne_of_gt (Nat.lt_of_lt_of_le I.lt hb),I.KY hb,.inr (Nat.le_trans I.sz hb),λx c e z=>?_,λp hp z=>?_⟩
 ·obtain⟨v,q⟩:=I.cell x c e
  exact absurd (Nat.lt_of_lt_of_le q.lt (by rw[z];exact hb)) (Nat.lt_irrefl _)
 ·exact absurd (Nat.lt_of_lt_of_le (Heap.lt_size (I.pin p hp).1) (by rw[z];exact hb)) (Nat.lt_irrefl _)
structure Turn(P:Program)(w:World)(K:PySem.W.Frag)(tg:Expr)(J:It)(fp:List Addr)(it:Addr)(tn:Nat->Heap->Prop):Prop where
 mem:it∈fp
 obj:∀i h,tn i h->∀b∈fp,∃o,h.get? b=some o/\∀v,o.data≠ .cell v
 keep:∀i h h',tn i h->(∀b∈fp,∀o,h.get? b=some o->h'.get? b=some o)->tn i h'
 item:∀(X:Cx),X.prog=P->X.w=w->X.K=K->X.calm=true->∀(i:Nat) (pins:List (Addr×Obj)) (s:Shared) (σ:St) (H:Hp) (E:Value->Shared->Prop),Inv X pins σ H s->(∀b∈fp,ř X pins H b)->tn i s.heap->J.go i H->
  wpAny (model P w) X.A (pyNext (.ref it)) (λr s1=>∃u,r=some u/\
   wpAny (model P w) X.A (letOwnedTupleGo tg (.ref it) u) (λ_ s2=>∃x H',Inv X pins σ H' s2/\RelV x u/\J.Jh i H x H'/\tn (i+1) s2.heap/\∀b∈fp,H' b=none) E s1) E s
 done:∀(X:Cx),X.prog=P->X.w=w->X.K=K->X.calm=true->∀(i:Nat) (pins:List (Addr×Obj)) (s:Shared) (σ:St) (H:Hp) (E:Value->Shared->Prop),Inv X pins σ H s->(∀b∈fp,ř X pins H b)->tn i s.heap->J.stop i H->
  wpAny (model P w) X.A (pyNext (.ref it)) (λr s1=>r=none/\Inv X pins σ H s1) E s
 self:∀(A:Around) (i:Nat) (s:Shared) (Q:Value->Shared->Prop) (E:Value->Shared->Prop),tn i s.heap->Q (.ref it) s->wpAny (model P w) A (pyIter (.ref it)) Q E s
abbrev TI:=St->Hp->(It->Hp->Prop)->Prop
def PIE(X:Cx)(pins:List (Addr×Obj))(σ:St)(tg:Expr)(R:It->Hp->Prop)(itv:Value)(s2:Shared):Prop:=
 ∃(it:Addr) (fp:List Addr) (tn:Nat->Heap->Prop) (J:It) (H':Hp),itv=.ref it/\Inv X pins σ H' s2/\Turn X.prog X.w X.K tg J fp it tn/\tn 0 s2.heap/\(∀b∈fp,ř X pins H' b)/\R J H'
def PI(X:Cx)(tg iter:Expr)(wi:TI):Prop:=
 ∀(pins:List (Addr×Obj)) (s:Shared) (σ:St) (H:Hp) (R:It->Hp->Prop),Inv X pins σ H s->wi σ H R->
  wpAny (model X.prog X.w) X.A (eval iter X.env) (λv s1=>wpAny (model X.prog X.w) X.A (pyIter v) (PIE X pins σ tg R) X.xe s1) X.xe s
def oh{M:Model}{A:Around}{E:Value->Shared->Prop}{s:Shared}{tg:Expr}{it:Addr}{u:Value}{o:Obj}{n:String}{vs:Array Value}{Q:Unit->Shared->Prop}(ho:s.heap.get? it=some o)(hc:o.cls=.type n)(hd:o.data=.fields vs)
 (hn:["enumerate","zip","dict_itemiterator","dict_reverseitemiterator","odict_iterator","itertools.zip_longest","itertools.pairwise"].contains n=false)(hQ:Q () s):wpAny M A (letOwnedTupleGo tg (.ref it) u) Q E s:=by
 unfold letOwnedTupleGo
 cases tg<;>first
  |exact wpAny_pure hQ
  |(cases u<;>first
     |exact wpAny_pure hQ
     |(refine wpAny_bind (wpAny_load ho ?_)
       rw[hc,hd]
       show wpAny M A (if(["enumerate","zip","dict_itemiterator","dict_reverseitemiterator","odict_iterator","itertools.zip_longest","itertools.pairwise"].contains n && vs[0]?== some (rawInt _))=true then _ else _) Q E s
       rw[if_neg (by intro h;rw[hn,Bool.false_and] at h;cases h)]
       exact wpAny_pure hQ))
def yE(K:PySem.W.Frag)(a:Addr):It:=
 ⟨λi H=>∃xs x,ń K H a xs/\xs[i]?=some x,λi H x H'=>H'=H/\∀xs,ń K H a xs->xs[i]?=some x,λi H=>∃xs,ń K H a xs/\xs.length<=i⟩
def Ew(K:PySem.W.Frag)(a:Addr):It:=
 ⟨λi H=>∃xs x,Ų K H a xs/\xs[i]?=some x,λi H x H'=>H'=H/\∀xs,Ų K H a xs->xs[i]?=some x,λi H=>∃xs,Ų K H a xs/\xs.length<=i⟩
def Ji(lo:Int)(n:Nat):It:=⟨λi _=>i<n,λi H x H'=>H'=H/\x=.int (lo+i),λi _=>n<=i⟩
def qg{P:Program}{w:World}{K:PySem.W.Frag}{tg:Expr}(a it:Addr):Turn P w K tg (yE K a) [it] it (λi h=>h.IsListIter it a i) where
 mem:=by simp
 obj:=λi h st b hb=>by
  have e:b=it:=by simpa using hb
  subst e
  obtain⟨o,e,c,d⟩:=st
  exact⟨o,e,λv z=>by rw[d] at z;cases z⟩
 keep:=λi h h' st k=>st.at λo e=>k it (by simp) o e
 item:=by
  intro X hP hw hK hc i pins s σ H E I hf st hg
  subst hP hw hK
  obtain⟨xs,x,hq,hx⟩:=hg
  obtain⟨its,rv,p,hz⟩:=I.list hq
  obtain⟨u,hu,ru⟩:=rv.get hx
  obtain⟨f0,f1,f2,f3,f4,f5⟩:=hf it (by simp)
  refine wpAny_pyNext_list_item st p.isList (x:=u) (by simpa using hu) λh' st' sb=>?_
  have I1:Inv X pins σ H {s with heap:=h'}:=I.turned (t':=s.toks) (λb o hb e=>(sb.2 b hb).trans e) f0 f1 f3 f4 f5
  obtain⟨o,e,c,d⟩:=id st'
  exact⟨u,rfl,oh (s:={s with heap:=h'}) e c d (by decide) ⟨x,H,I1,ru,⟨rfl,λys hy=>by rw[I.fC hy hq];exact hx⟩,st',λb hb=>(hf b hb).1⟩⟩
 done:=by
  intro X hP hw hK hc i pins s σ H E I hf st hg
  subst hP hw hK
  obtain⟨xs,hq,hx⟩:=hg
  obtain⟨its,rv,p,hz⟩:=I.list hq
  obtain⟨f0,f1,f2,f3,f4,f5⟩:=hf it (by simp)
  have hl:=rv.length
  exact wpAny_pyNext_list_end (I.ok.hd hc) st p.isList (by simp;omega) λh' eb=>⟨rfl,I.turned (t':=s.toks) (λb o hb e=>eb b o hb e) f0 f1 f3 f4 f5⟩
 self:=λ_ _ _ _ _ st h=>wpAny_pyIter_listiter st h
def lY{P:Program}{w:World}{K:PySem.W.Frag}{tg:Expr}(a it:Addr):Turn P w K tg (Ew K a) [it] it (λi h=>h.IsTupleIter it a i) where
 mem:=by simp
 obj:=λi h st b hb=>by
  have e:b=it:=by simpa using hb
  subst e
  obtain⟨o,e,c,d⟩:=st
  exact⟨o,e,λv z=>by rw[d] at z;cases z⟩
 keep:=λi h h' st k=>st.at λo e=>k it (by simp) o e
 item:=by
  intro X hP hw hK hc i pins s σ H E I hf st hg
  subst hP hw hK
  obtain⟨xs,x,hq,hx⟩:=hg
  obtain⟨its,rv,p,hz⟩:=I.tuple hq
  obtain⟨u,hu,ru⟩:=rv.get hx
  obtain⟨f0,f1,f2,f3,f4,f5⟩:=hf it (by simp)
  refine wpAny_pyNext_tuple_item st (show s.heap.IsTuple a its.toArray from p) (x:=u) (by simpa using hu) λh' st' sb=>?_
  have I1:Inv X pins σ H {s with heap:=h'}:=I.turned (t':=s.toks) (λb o hb e=>(sb.2 b hb).trans e) f0 f1 f3 f4 f5
  obtain⟨o,e,c,d⟩:=id st'
  exact⟨u,rfl,oh (s:={s with heap:=h'}) e c d (by decide) ⟨x,H,I1,ru,⟨rfl,λys hy=>by rw[I.iM hy hq];exact hx⟩,st',λb hb=>(hf b hb).1⟩⟩
 done:=by
  intro X hP hw hK hc i pins s σ H E I hf st hg
  subst hP hw hK
  obtain⟨xs,hq,hx⟩:=hg
  obtain⟨its,rv,p,hz⟩:=I.tuple hq
  obtain⟨f0,f1,f2,f3,f4,f5⟩:=hf it (by simp)
  have hl:=rv.length
  exact wpAny_pyNext_tuple_end (I.ok.hd hc) st (show s.heap.IsTuple a its.toArray from p) (by simp;omega) λh' eb=>⟨rfl,I.turned (t':=s.toks) (λb o hb e=>eb b o hb e) f0 f1 f3 f4 f5⟩
 self:=λ_ _ _ _ _ st h=>wpAny_pyIter_tupleiter st h
def lZ{P:Program}{w:World}{K:PySem.W.Frag}{tg:Expr}(it:Addr)(lo:Int)(n:Nat):Turn P w K tg (Ji lo n) [it] it (λi h=>IsRangeIter h it (lo+(i:Nat)*1) ((n:Int)-(i:Nat)) 1) where
 mem:=by simp
 obj:=λi h st b hb=>by
  have e:b=it:=by simpa using hb
  subst e
  exact⟨_,st,λv z=>by
   have z':Data.fields _=Data.cell v:=z
   cases z'⟩
 keep:=λi h h' st k=>k it (by simp) _ st
 item:=by
  intro X hP hw hK hc i pins s σ H E I hf st hg
  subst hP hw hK
  obtain⟨f0,f1,f2,f3,f4,f5⟩:=hf it (by simp)
  have W:=Walks.range (prog:=X.prog) (w:=X.w) (I.ok.hd hc) it lo 1 n
  refine W.item i s _ _ hg st λv h' tk hv st' kk=>?_
  obtain⟨t,rfl⟩:=hv
  have I1:Inv X pins σ H {s with heap:=h',toks:=tk}:=I.turned (λb o hb e=>kk b o (by simpa using hb) e) f0 f1 f3 f4 f5
  refine⟨_,rfl,oh (s:={s with heap:=h',toks:=tk}) (n:= "range_iterator") st' rfl rfl (by decide) ⟨.int (lo+i),H,I1,⟨t,?_⟩,⟨rfl,rfl⟩,st',λb hb=>(hf b hb).1⟩⟩
  rw[Int.mul_one]
 done:=by
  intro X hP hw hK hc i pins s σ H E I hf st hg
  subst hP hw hK
  obtain⟨f0,f1,f2,f3,f4,f5⟩:=hf it (by simp)
  exact wpAny_pyNext_range_end (I.ok.hd hc) st (by have:n<=i:=hg;omega) λh' eb=>⟨rfl,I.turned (t':=s.toks) (λb o hb e=>eb b o hb e) f0 f1 f3 f4 f5⟩
 self:=λ_ _ _ _ _ st h=>wpAny_pyIter_rangeiter st h
end L2
namespace L2
open PySem PySem.Spec PyProof.Rows
section
variable{X:Cx}{tg:Expr}
def qZ{pins:List (Addr×Obj)}{σ:St}{H:Hp}{s:Shared}{R:It->Hp->Prop}{E:Value->Shared->Prop}{lo hi:Int}{t u v:Tok}{tk:Nat}(I:Inv X pins σ H s)(h1: -(2 ^ 62)<=lo)(h2:lo<2 ^ 62)(h3: -(2 ^ 62)<=hi)(h4:hi<2 ^ 62)
 (q:R (Ji lo (hi-lo).toNat) H):wpAny (model X.prog X.w) X.A (pyIter (.ref s.heap.objs.size)) (PIE X pins σ tg R) E {s with heap:=s.heap.push {cls:=.type "range",data:=.fields #[.int lo t,.int hi u,.int 1 v]},toks:=tk}:=by
 refine wpAny_pyIter_range (IsRange.new ..) (small_one h1 h2 h3 h4) ?_
 have I1:Inv X pins σ H {s with heap:=s.heap.push {cls:=.type "range",data:=.fields #[.int lo t,.int hi u,.int 1 v]},toks:=tk}:=I.kept λb o e=>Heap.get?_push_of_some _ e
 refine⟨(s.heap.push {cls:=.type "range",data:=.fields #[.int lo t,.int hi u,.int 1 v]}).objs.size,[(s.heap.push {cls:=.type "range",data:=.fields #[.int lo t,.int hi u,.int 1 v]}).objs.size],_,_,H,rfl,
  I1.kept (t':=tk) λb o e=>Heap.get?_push_of_some _ e,lZ _ lo (hi-lo).toNat,?_,λb hb=>?_,q⟩
 ·have e1:lo+((0:Nat):Int)*1=lo:=by simp
  have e2:(((hi-lo).toNat:Nat):Int)-((0:Nat):Int)=Builtin.Range.rangeSize lo hi 1:=by rw[rangeSize_one];split<;>omega
  show IsRangeIter _ _ (lo+((0:Nat):Int)*1) ((((hi-lo).toNat:Nat):Int)-((0:Nat):Int)) 1
  rw[e1,e2]
  exact Heap.get?_push_size _ rfl
 ·have e:b=(s.heap.push {cls:=.type "range",data:=.fields #[.int lo t,.int hi u,.int 1 v]}).objs.size:=by simpa using hb
  subst e
  exact I1.g_ (Nat.le_refl _) (I1.hok.fresh (Nat.le_refl _))
def Ey(ta:TA):TI:=λσ H R=>ta σ H λvs H1=>∃j:Int,vs=[.int j]/\ -(2 ^ 62)<=j/\j<2 ^ 62/\R (Ji 0 j.toNat) H1
def qj{a:Expr}{ta:TA}{p pos:Pos}(hg:Gl X "range")(hm:X.mg "range" =none)(ha:PA X [a] ta)(hs:starEach [a] X.env=[(false,eval a X.env)]:=by rfl):PI X tg (.Call (.Name "range" p) [a] [] pos) (Ey ta):=by
 intro pins s σ H R I h
 refine Call_ (bM I hg hm boot_range (PyProof.Rows.callWith_type1 (Ļ (ha pos pins s σ H _ I h) λus s1 ⟨vs,H1,I1,r1,q1⟩=>?_) hs rfl))
 obtain⟨j,e,q1,q2,q⟩:=q1
 subst e
 cases r1 with
 |cons r rr=>
  cases rr
  obtain⟨t,rfl⟩:=r
  exact call_range_1 (qZ I1 (by omega) (by omega) q1 q2 (by simpa using q))
def Ln(wi:TI)(g:TG)(tb:TS):TS:=λD σ H=>wi σ H λJ H1=>∃W:Nat->Nat->St->Hp->Prop,(∃m,W 0 m σ H1)/\∀i m σ H,W i m σ H->
 (J.stop i H/\D.nx σ H)\/(J.go i H/\∃N:St->Hp->Prop,(∀σ' H',N σ' H'->∃m',m'<m/\W (i+1) m' σ' H')/\∀x H',J.Jh i H x H'->g x σ H' λσ2 H2=>tb {D with nx:=N,ct:=N,bk:=D.nx} σ2 H2)
def cN(fp:List Addr)(h:Heap):List (Addr×Obj):=fp.filterMap λb=>(h.get? b).map λo=>(b,o)
def ļ{fp:List Addr}{h:Heap}{b:Addr}{o:Obj}(hb:b∈fp)(e:h.get? b=some o):(b,o)∈cN fp h:=List.mem_filterMap.mpr ⟨b,hb,by rw[e];rfl⟩
def ql{fp:List Addr}{h:Heap}{p:Addr×Obj}(hp:p∈cN fp h):p.1∈fp/\h.get? p.1=some p.2:=by
 obtain⟨b,hb,e⟩:=List.mem_filterMap.mp hp
 cases q:h.get? b with
 |none=>rw[q] at e;cases e
 |some o=>
  rw[q] at e
  have e':(b,o)=p:=Option.some.inj e
  subst e'
  exact⟨hb,q⟩
def Inv.pinned{pins:List (Addr×Obj)}{σ:St}{H:Hp}{s:Shared}{fp:List Addr}(I:Inv X pins σ H s)(hf:∀b∈fp,ř X pins H b)(ho:∀b∈fp,∃o,s.heap.get? b=some o/\∀v,o.data≠ .cell v):Inv X (pins++cN fp s.heap) σ H s:=
 I.n_ fun p hp=>(List.mem_append.mp hp).elim (fun z=>I.pin p (List.mem_append_right _ z)) fun z=>by
   obtain⟨hb,e⟩:=ql z
   obtain⟨f0,f1,f2,_⟩:=hf p.1 hb
   obtain⟨o,e',d⟩:=ho p.1 hb
   rw[e] at e';cases e'
   exact⟨e,f0,f1,f2,d⟩
def Inv.ų{pins pl:List (Addr×Obj)}{σ:St}{H:Hp}{s:Shared}(I:Inv X (pins++pl) σ H s):Inv X pins σ H s:=I.n_ λp hp=>I.pin p (List.mem_append_right _ (List.mem_append_left _ hp))
def zY{iter:Expr}{body:List Stmt}{wi:TI}{g:TG}{tb:TS}{pos:Pos}(hp:PassesOwn (model X.prog X.w) X.A X.env X.xe)(hc:X.calm=true)(hi:PI X tg iter wi)(hg:PG X tg g)(hb:dI X body tb)
 (hs:∀x,foldedSetIterable iter X.env x=pure x:=by intro _;rfl):PS X (.For tg iter body [] pos) (Ln wi g tb):=by
 intro pins s σ H D I h
 refine wpAny_For (Ļ (hi pins s σ H _ I h) λv s1 h1=>Ļ h1 λitv s2 h2=>?_) hs
 obtain⟨it,fp,tn,J,H2,e,I2,T,st2,f2,W,⟨m0,w0⟩,turn⟩:=h2
 subst e
 -- what stays true of the iterator's objects through the loop
 have stat:∀{H':Hp},(∀b∈fp,H' b=none)->∀b∈fp,ř X pins H' b:=λhn b hb=>⟨hn b hb,(f2 b hb).2⟩
 refine codeAny_forLoop_any (λn s'=>∃i σ' H',Inv X pins σ' H' s'/\tn i s'.heap/\(∀b∈fp,H' b=none)/\W i n σ' H') ?_ m0 ⟨0,σ,H2,I2,st2,λb hb=>(f2 b hb).1,w0⟩
 rintro n s3 ⟨i,σ3,H3,I3,st3,Ro,w3⟩
 rcases turn i n σ3 H3 w3 with⟨stop,qn⟩|⟨go,N,hN,step⟩
 ·refine wpAny_passesOwn hp (Ļ (T.done X rfl rfl rfl hc i pins s3 σ3 H3 X.xe I3 (stat Ro) st3 stop) λr s4 ⟨hr,I4⟩=>?_)
  subst hr
  exact wpAny_execs_nil ⟨σ3,H3,I4,qn⟩
 ·refine wpAny_passesOwn hp (Ļ (T.item X rfl rfl rfl hc i pins s3 σ3 H3 X.xe I3 (stat Ro) st3 go) λr s4 ⟨u,hr,h4⟩=>?_)
  subst hr
  refine wpAny_passesOwn hp (Ļ h4 λ_ s5 ⟨x,H5,I5,r5,y5,wC,zZ⟩=>?_)
  have U_:=I5.pinned (stat zZ) (T.obj _ _ wC)
  refine wpAny_passesOwn hp (Ļ (hg _ s5 σ3 H5 x u _ U_ r5 (step x H5 y5)) λ_ s6 ⟨σ6,H6,I6,q6⟩=>?_)
  refine wpAny_passesOwn hp (Ļ (hb _ s6 σ6 H6 _ I6 q6) λf s7 q7=>?_)
  have again:∀{σ7:St} {H7:Hp},Inv X (pins++cN fp s5.heap) σ7 H7 s7->N σ7 H7->∃m,m<n/\∃i σ' H',Inv X pins σ' H' s7/\tn i s7.heap/\(∀b∈fp,H' b=none)/\W i m σ' H':=fun{σ7 H7} I7 n7=>by
   obtain⟨m',hm,w7⟩:=hN σ7 H7 n7
   refine⟨m',hm,i+1,σ7,H7,I7.ų,T.keep _ _ _ wC λb hb o e=>(I7.pin (b,o) (List.mem_append_right _ (List.mem_append_right _ (ļ hb e)))).1,λb hb=>?_,w7⟩
   obtain⟨o,e,d⟩:=T.obj _ _ wC b hb
   exact(I7.pin (b,o) (List.mem_append_right _ (List.mem_append_right _ (ļ hb e)))).2.1
  cases f with
  |next=>obtain⟨σ7,H7,I7,n7⟩:=q7;exact again I7 n7
  |cont=>obtain⟨σ7,H7,I7,n7⟩:=q7;exact again I7 n7
  |brk=>obtain⟨σ7,H7,I7,q7⟩:=q7;exact⟨σ7,H7,I7.ų,q7⟩
  |ret v=>obtain⟨x7,σ7,H7,I7,r7,q7⟩:=q7;exact⟨x7,σ7,H7,I7.ų,r7,q7⟩
end
end L2
namespace L2
open PySem PySem.Spec PyProof.Rows
abbrev R2:=V->V->Hp->VK->Prop
def ľ(X:Cx)(f:Value->Value->Sem Value)(r:R2):Prop:=
 ∀(pins:List (Addr×Obj)) (s:Shared) (σ:St) (H:Hp) (x y:V) (v u:Value) (Q:VK),Inv X pins σ H s->RelV x v->RelV y u->r x y H Q->
  wpAny (model X.prog X.w) X.A (f v u) (EP X pins σ Q) X.xe s
def wD(X:Cx)(f:Value->Sem Value)(r:V->Hp->VK->Prop):Prop:=
 ∀(pins:List (Addr×Obj)) (s:Shared) (σ:St) (H:Hp) (x:V) (v:Value) (Q:VK),Inv X pins σ H s->RelV x v->r x H Q->
  wpAny (model X.prog X.w) X.A (f v) (EP X pins σ Q) X.xe s
def ū(X:Cx)(f:Value)(r:List V->Hp->VK->Prop):Prop:=
 ∀(pins:List (Addr×Obj)) (s:Shared) (σ:St) (H:Hp) (xs:List V) (us:List Value) (Q:VK),Inv X pins σ H s->Vals xs us->r xs H Q->
  wpAny (model X.prog X.w) X.A (call f us) (EP X pins σ Q) X.xe s
def Lp(X:Cx)(r:V->Hp->(Bool->Hp->Prop)->Prop):Prop:=
 ∀(pins:List (Addr×Obj)) (s:Shared) (σ:St) (H:Hp) (x:V) (v:Value) (Q:Bool->Hp->Prop),Inv X pins σ H s->RelV x v->r x H Q->
  wpAny (model X.prog X.w) X.A (truthy v) (TP X pins σ Q) X.xe s
def z_(r:R2)(ta tb:TE):TE:=λσ H Q=>ta σ H λx H1=>tb σ H1 λy H2=>r x y H2 Q
def Va(r:V->Hp->VK->Prop)(ta:TE):TE:=λσ H Q=>ta σ H λx H1=>r x H1 Q
def rI(C:Int->Int->Prop)(g:Int->Int->V):R2:=λx y H Q=>∃i j,x=.int i/\y=.int j/\C i j/\Q (g i j) H
def vV(g:Int->Int->V):R2:=λx y H Q=>∃i j,x=.int i/\y=.int j/\Q (g i j) H
def rU(g:Int->V):V->Hp->VK->Prop:=λx H Q=>∃i,x=.int i/\Q (g i) H
section
variable{X:Cx}{a b c:Expr}{ta tb tc:TE}{pos:Pos}
def Aa(ha:PE X a ta)(hb:PE X b tb){pins:List (Addr×Obj)}{s:Shared}{σ:St}{H:Hp}{R:V->V->Hp->Prop}(I:Inv X pins σ H s)
 (h:ta σ H λx H1=>tb σ H1 λy H2=>R x y H2){Q:Value->Shared->Prop}{f:Value->Value->Sem Value}
 (hf:∀v u s2 x y H2,Inv X pins σ H2 s2->RelV x v->RelV y u->R x y H2->wpAny (model X.prog X.w) X.A (f v u) Q X.xe s2) :
 wpAny (model X.prog X.w) X.A (eval a X.env) (λv s₁=>wpAny (model X.prog X.w) X.A (eval b X.env) (λu s₂=>wpAny (model X.prog X.w) X.A (f v u) Q X.xe s₂) X.xe s₁) X.xe s:=by
 refine Ļ (ha pins s σ H _ I h) λv s1 ⟨x,H1,I1,r1,q1⟩=>?_
 refine Ļ (hb pins s1 σ H1 _ I1 q1) λu s2 ⟨y,H2,I2,r2,q2⟩=>?_
 exact hf v u s2 x y H2 I2 r1 r2 q2
def yF{op:Operator}{r:R2}(ho:ľ X (binaryOp op) r)(ha:PE X a ta)(hb:PE X b tb):PE X (.BinOp a op b pos) (z_ r ta tb):=by
 intro pins s σ H Q I h
 exact wpAny_BinOp (Aa ha hb I h λv u s2 x y H2 I2 rx ry q=>ho pins s2 σ H2 x y v u Q I2 rx ry q)
def Ez{op:UnaryOp}{r:V->Hp->VK->Prop}(ho:wD X (unaryOp op) r)(ha:PE X a ta):PE X (.UnaryOp op a pos) (Va r ta):=by
 intro pins s σ H Q I h
 exact UnaryOp_ (Ļ (ha pins s σ H _ I h) λv s1 ⟨x,H1,I1,r1,q1⟩=>ho pins s1 σ H1 x v Q I1 r1 q1)
def ou{f:Value->Value->Sem Value}{C:Int->Int->Prop}{g:Int->Int->Int}
 (rule:∀(i j:Int) (t u:Tok) (s:Shared) (Q:Value->Shared->Prop) (E:Value->Shared->Prop),C i j->Q (.int (g i j) s.toks) {s with toks:=s.toks+1}->wpAny (model X.prog X.w) X.A (f (.int i t) (.int j u)) Q E s) :
 ľ X f (rI C λi j=>.int (g i j)):=by
 intro pins s σ H x y v u Q I rx ry h
 obtain⟨i,j,rfl,rfl,hc,q⟩:=h
 obtain⟨t,rfl⟩:=rx
 obtain⟨t',rfl⟩:=ry
 exact rule i j t t' s _ _ hc ⟨.int (g i j),H,I.tok _,⟨_,rfl⟩,q⟩
def h_{f:Value->Value->Sem Value}{g:Int->Int->Int}
 (rule:∀(i j:Int) (t u:Tok) (s:Shared) (Q:Value->Shared->Prop) (E:Value->Shared->Prop),Q (.int (g i j) s.toks) {s with toks:=s.toks+1}->wpAny (model X.prog X.w) X.A (f (.int i t) (.int j u)) Q E s) :
 ľ X f (vV λi j=>.int (g i j)):=by
 intro pins s σ H x y v u Q I rx ry h
 obtain⟨i,j,rfl,rfl,q⟩:=h
 obtain⟨t,rfl⟩:=rx
 obtain⟨t',rfl⟩:=ry
 exact rule i j t t' s _ _ ⟨.int (g i j),H,I.tok _,⟨_,rfl⟩,q⟩
def Ab{f:Value->Value->Sem Value}{g:Int->Int->Bool}
 (rule:∀(i j:Int) (t u:Tok) (s:Shared) (Q:Value->Shared->Prop) (E:Value->Shared->Prop),Q (.bool (g i j)) s->wpAny (model X.prog X.w) X.A (f (.int i t) (.int j u)) Q E s) :
 ľ X f (vV λi j=>.bl (g i j)):=by
 intro pins s σ H x y v u Q I rx ry h
 obtain⟨i,j,rfl,rfl,q⟩:=h
 obtain⟨t,rfl⟩:=rx
 obtain⟨t',rfl⟩:=ry
 exact rule i j t t' s _ _ ⟨.bl (g i j),H,I,rfl,q⟩
def qm(i j:Int):Prop:=0<=j/\j<=1000000/\i.natAbs<2 ^ 64
def Ac(i j:Int):Prop:=(-(2 ^ 64)<i/\i<2 ^ 64)\/(-(2 ^ 64)<j/\j<2 ^ 64)
def Ac.ok{i j:Int}(h:Ac i j):IntMulOk i j:=by
 rcases h with⟨h1,h2⟩|⟨h1,h2⟩
 ·exact .of_left (intBits_le_64 h1 h2)
 ·exact .of_right (intBits_le_64 h1 h2)
def mj(k:Nat):(0:Int)<=2 ^ k:=by
 rw[two_pow_cast]
 exact Int.natCast_nonneg _
def Ad:ľ X (binaryOp .Add) (vV λi j=>.int (i+j)):=h_ λ_ _ _ _ _ _ _ q=>add_int q
def Ae:ľ X (binaryOp .Sub) (vV λi j=>.int (i-j)):=h_ λ_ _ _ _ _ _ _ q=>sub_int q
def wF:ľ X (binaryOp .Mod) (rI (λ_ j=>j≠0) λi j=>.int (i.fmod j)):=ou λ_ _ _ _ _ _ _ hc q=>mod_int' hc q
def Af:ľ X (binaryOp .Pow) (rI qm λi j=>.int (i ^ j.toNat)):=ou λ_ _ _ _ _ _ _ hc q=>pow_int_small hc.1 hc.2.1 hc.2.2 q
def Ag:ľ X (binaryOp .LShift) (rI qm λi j=>.int (i*2 ^ j.toNat)):=ou λ_ _ _ _ _ _ _ hc q=>lshift_int_small hc.1 hc.2.1 hc.2.2 q
def Ah:ľ X (binaryOp .RShift) (rI (λ_ j=>0<=j) λi j=>.int (i / 2 ^ j.toNat)):=ou λi j _ _ _ _ _ hc q=>
 rshift_int hc (by rw[Int.fdiv_eq_ediv_of_nonneg i (mj _)];exact q)
def Ai:ľ X (binaryOp .BitAnd) (vV λi j=>.int (Builtin.bitAnd i j)):=h_ λ_ _ _ _ _ _ _ q=>and_int q
def EY:ľ X (binaryOp .BitOr) (vV λi j=>.int (Builtin.bitOr i j)):=h_ λ_ _ _ _ _ _ _ q=>or_int q
def Vb{f:Value->Sem Value}{g:Int->Int}
 (rule:∀(i:Int) (t:Tok) (s:Shared) (Q:Value->Shared->Prop) (E:Value->Shared->Prop),Q (.int (g i) s.toks) {s with toks:=s.toks+1}->wpAny (model X.prog X.w) X.A (f (.int i t)) Q E s) :
 wD X f (rU λi=>.int (g i)):=by
 intro pins s σ H x v Q I rx h
 obtain⟨i,rfl,q⟩:=h
 obtain⟨t,rfl⟩:=rx
 exact rule i t s _ _ ⟨.int (g i),H,I.tok _,⟨_,rfl⟩,q⟩
def Aj:wD X (unaryOp .USub) (rU λi=>.int (-i)):=Vb λ_ _ _ _ _ q=>neg_int q
end
section
variable{X:Cx}{a b c:Expr}{ta tb tc:TE}{pos:Pos}
def q_{pins:List (Addr×Obj)}{σ:St}{H:Hp}{s:Shared}{Q:VK}{k k':Bool}(I:Inv X pins σ H s)(q:Q (.bl k) H)(e:k=k'):EP X pins σ Q (.bool k') s:=by
 subst e
 exact⟨.bl k,H,I,rfl,q⟩
def E_:ľ X (compareOp .Lt) (vV λi j=>.bl (decide (i<j))):=Ab λ_ _ _ _ _ _ _ q=>lt_int q
def Fb:ľ X (compareOp .LtE) (vV λi j=>.bl (decide (i<=j))):=Ab λ_ _ _ _ _ _ _ q=>le_int q
def Fd:ľ X (compareOp .Gt) (vV λi j=>.bl (decide (j<i))):=Ab λ_ _ _ _ _ _ _ q=>gt_int q
def rm:ľ X (compareOp .Is) (λx y H Q=>y=.non/\Q (.bl (decide (x=.non))) H):=by
 intro pins s σ H x y v u Q I rx ry h
 obtain⟨rfl,q⟩:=h
 cases ry
 refine is_none_gen (q_ I q ?_)
 cases x<;>first
  |(cases rx;rfl)
  |(obtain⟨t,rfl⟩:=rx;rfl)
def eG:ľ X (compareOp .IsNot) (λx y H Q=>y=.non/\Q (.bl (!decide (x=.non))) H):=by
 intro pins s σ H x y v u Q I rx ry h
 obtain⟨rfl,q⟩:=h
 cases ry
 refine isnot_none_gen (q_ I q ?_)
 cases x<;>first
  |(cases rx;rfl)
  |(obtain⟨t,rfl⟩:=rx;rfl)
def ľ.or{f:Value->Value->Sem Value}{r r':R2}(h:ľ X f r)(h':ľ X f r'):ľ X f (λx y H Q=>r x y H Q\/r' x y H Q):=by
 intro pins s σ H x y v u Q I rx ry q
 rcases q with q|q
 ·exact h pins s σ H x y v u Q I rx ry q
 ·exact h' pins s σ H x y v u Q I rx ry q
def Ĝ(b:Expr){op:CmpOp}(h:op≠ .In:=by decide)(h2:op≠ .NotIn:=by decide):behindInMarks op b=false:=by
 have e1:(op== CmpOp.In)=false:=by cases op<;>first|rfl|exact absurd rfl h
 have e2:(op== CmpOp.NotIn)=false:=by cases op<;>first|rfl|exact absurd rfl h2
 cases b<;>simp[behindInMarks,e1,e2]
def wG{op:CmpOp}{r:R2}(ho:ľ X (compareOp op) r)(ha:PE X a ta)(hb:PE X b tb)(hm:behindInMarks op b=false):PE X (.Compare a [op] [b] pos) (z_ r ta tb):=by
 intro pins s σ H Q I h
 exact wpAny_Compare1 (Aa ha hb I h λv u s2 x y H2 I2 rx ry q=>ho pins s2 σ H2 x y v u Q I2 rx ry q) hm
def Ak(K:PySem.W.Frag)(x:V)(H:Hp)(k:Bool):Prop:=
 match x with
 | .non=>k=false
 | .bl b=>k=b
 | .int i=>k=(i != 0)
 | .str y=>y.length<=sizeLine/\k=((y.length:Int) != 0)
 | .zK y=>y.size<=sizeLine/\k=((y.size:Int) != 0)
 | .ref p=>(∃xs,ń K H p xs/\k=!xs.isEmpty)\/(∃xs,Ų K H p xs/\k=!xs.isEmpty)\/∃kvs,H p=some (.dK kvs)/\k=!kvs.isEmpty
 |_=>False
def mq{κ:Type}{kvs:List (κ×V)}{vs:List (κ×Value)}(r:KV kvs vs):(!vs.isEmpty)=!kvs.isEmpty:=by
 cases r<;>rfl
def fG{xs:List V}{its:List Value}(r:Vals xs its):(!its.toArray.isEmpty)=!xs.isEmpty:=by
 cases r<;>simp
def fH:(sizeLine:Nat)<2 ^ 63:=by rw[sizeLine_eq];decide
def Al:Lp X (λx H Q=>∃k,Ak X.K x H k/\Q k H):=by
 intro pins s σ H x v Q I rx h
 obtain⟨k,e,q⟩:=h
 have hl:=fH
 have hs:sizeLine=16777216:=sizeLine_eq
 cases x with
 |non=>
  cases rx
  have e':k=false:=e
  subst e'
  exact truthy_none ⟨H,I,q⟩
 |bl b=>
  cases rx
  have e':k=b:=e
  subst e'
  exact wpAny_truthy_bool ⟨H,I,q⟩
 |int i=>
  obtain⟨t,rfl⟩:=rx
  have e':k=(i != 0):=e
  subst e'
  exact PySem.P.truthy_int ⟨H,I,q⟩
 |str y=>
  obtain⟨t,rfl⟩:=rx
  obtain⟨hy,e'⟩:y.length<=sizeLine/\k=((y.length:Int) != 0):=e
  subst e'
  exact PySem.P.truthy_str (by omega) ⟨H,I.tok _,q⟩
 |zK y=>
  obtain⟨t,rfl⟩:=rx
  obtain⟨hy,e'⟩:y.size<=sizeLine/\k=((y.size:Int) != 0):=e
  subst e'
  exact PySem.W.truthy_bytes (by omega) ⟨H,I.tok _,q⟩
 |ref p=>
  cases rx
  have e':(∃xs,ń X.K H p xs/\k=!xs.isEmpty)\/(∃xs,Ų X.K H p xs/\k=!xs.isEmpty)\/∃kvs,H p=some (.dK kvs)/\k=!kvs.isEmpty:=e
  rcases e' with⟨xs,hx,e'⟩|⟨xs,hx,e'⟩|⟨kvs,hx,e'⟩
  ·subst e'
   obtain⟨its,r,pl,hz⟩:=I.list hx
   have hlen:=r.length
   exact wpAny_truthy_list pl.isList (by simp only[List.size_toArray];omega) ⟨H,I.tok _,by rw[fG r];exact q⟩
  ·subst e'
   obtain⟨its,r,pl,hz⟩:=I.tuple hx
   have hlen:=r.length
   exact truthy_tuple pl (by simp only[List.size_toArray];omega) ⟨H,I.tok _,by rw[fG r];exact q⟩
  ·subst e'
   obtain⟨hz,hS,vs,r,m⟩:kvs.length<=sizeLine/\(p== sysModules)=false/\∃vs,KV kvs vs/\s.heap.DictOf (jw X.prog X.w) p vs:=I.hok p _ hx
   have hlen:kvs.length=vs.length:=Paired.length r
   exact wpAny_truthy_dict hS m (by omega) ⟨H,I.tok _,by rw[mq r];exact q⟩
 |_=>exact(show False from e).elim
def rC(ha:PE X a ta)(he:∀whole,isTrue a X.env whole=(do let v <-whole;standAt a.pos;holding [v] (truthy v))) :
 PT X a (λσ H Q=>ta σ H λx H'=>∃k,Ak X.K x H' k/\Q k H'):=by
 intro pins s σ H Q I h
 exact isTrue_plain (Ļ (ha pins s σ H _ I h) λv s1 ⟨x,H1,I1,r1,q1⟩=>Al pins s1 σ H1 x v Q I1 r1 q1) (he _)
def mz:ľ X (binaryOp .Add) (λx y H Q=>∃i j,x=.str i/\y=.str j/\i.length+j.length<=sizeLine/\Q (.str (i++j)) H):=by
 intro pins s σ H x y v u Q I rx ry h
 obtain⟨i,j,rfl,rfl,hz,q⟩:=h
 obtain⟨t,rfl⟩:=rx
 obtain⟨t',rfl⟩:=ry
 exact add_str (λt' tk=>⟨.str (i++j),H,I.tok _,⟨_,rfl⟩,q⟩) hz
def vals1{x:V}{us:List Value}(r:Vals [x] us):∃u,us=[u]/\RelV x u:=by
 cases r with
 |cons r1 r2=>cases r2;exact⟨_,rfl,r1⟩
def vals2{x y:V}{us:List Value}(r:Vals [x,y] us):∃u w',us=[u,w']/\RelV x u/\RelV y w':=by
 cases r with
 |cons r1 r2=>
  cases r2 with
  |cons r3 r4=>cases r4;exact⟨_,_,rfl,r1,r3⟩
def qt:ū X (.type "int") (λxs H Q=>(∃i,xs=[.int i]/\Q (.int i) H)\/∃k,xs=[.bl k]/\Q (.int (if k then 1 else 0)) H):=by
 intro pins s σ H xs us Q I r h
 rcases h with⟨i,rfl,q⟩|⟨k,rfl,q⟩
 ·obtain⟨u,rfl,t,rfl⟩:=vals1 r
  exact call_int_int ⟨.int i,H,I,⟨_,rfl⟩,q⟩
 ·obtain⟨u,rfl,r1⟩:=vals1 r
  cases r1
  exact call_int_bool ⟨.int (if k then 1 else 0),H,I.tok _,⟨_,rfl⟩,q⟩
def Lq(K:PySem.W.Frag)(x:V)(H:Hp)(n:Nat):Prop:=
 match x with
 | .str y=>y.length<=sizeLine/\n=y.length
 | .zK y=>y.size<=sizeLine/\n=y.size
 | .ref p=>(∃xs,ń K H p xs/\n=xs.length)\/∃xs,Ų K H p xs/\n=xs.length
 |_=>False
def rD:ū X (.builtin "len") (λxs H Q=>∃x n,xs=[x]/\Lq X.K x H n/\Q (.int n) H):=by
 intro pins s σ H xs us Q I r h
 obtain⟨x,n,rfl,e,q⟩:=h
 obtain⟨u,rfl,rx⟩:=vals1 r
 have hl:=fH
 have hs:sizeLine=16777216:=sizeLine_eq
 cases x with
 |str y=>
  obtain⟨t,rfl⟩:=rx
  obtain⟨hy,e'⟩:y.length<=sizeLine/\n=y.length:=e
  subst e'
  exact len_str (by omega) ⟨.int _,H,I.tok _,⟨_,rfl⟩,q⟩
 |zK y=>
  obtain⟨t,rfl⟩:=rx
  obtain⟨hy,e'⟩:y.size<=sizeLine/\n=y.size:=e
  subst e'
  exact PySem.W.len_bytes (by omega) ⟨.int _,H,I.tok _,⟨_,rfl⟩,q⟩
 |ref p=>
  cases rx
  have e':(∃xs,ń X.K H p xs/\n=xs.length)\/∃xs,Ų X.K H p xs/\n=xs.length:=e
  rcases e' with⟨xs,hx,e'⟩|⟨xs,hx,e'⟩
  ·subst e'
   obtain⟨its,r',pl,hz⟩:=I.list hx
   have hlen:=r'.length
   exact Calls.call_len_list pl.isList (by simp only[List.size_toArray];omega) ⟨.int xs.length,H,I.tok _,⟨_,by simp only[List.size_toArray];rw[hlen]⟩,q⟩
  ·subst e'
   obtain⟨its,r',pl,hz⟩:=I.tuple hx
   have hlen:=r'.length
   exact len_tuple pl (by simp only[List.size_toArray];omega) ⟨.int xs.length,H,I.tok _,⟨_,by simp only[List.size_toArray];rw[hlen]⟩,q⟩
 |_=>exact(show False from e).elim
end
end L2
namespace L2
open PySem PySem.Spec PyProof.Rows
structure Am(h:Heap)(x dx C:Addr)(mA:Str->Option Value):Prop where
 obj:h.get? x=some (PySem.W.instObj C dx)
 ns:h.Ns1 dx mA
 ne:dx≠x
def qu{h:Heap}{dx:Addr}{mA:Str->Option Value}(n:h.Ns1 dx mA):∃od,h.get? dx=some od/\∀name,PySem.W.lookIn name od=some (mA name):=by
 obtain⟨o,es,ep,ho,hd,hk,_,hm⟩:=n
 refine⟨o,ho,λname=>?_⟩
 have e:=hm name
 unfold nsFind findBy at e
 rw[<-Array.find?_toList] at e
 unfold PySem.W.lookIn
 rw[hd]
 dsimp only
 split
 ·rename_i y q
  rw[q] at e
  exact congrArg some e
 ·rename_i q
  rw[q] at e
  have a:es.toList.any (·.refKey)=false:=by
   rw[List.any_eq_false]
   intro y hy
   obtain⟨z,t,hkey⟩:=hk y (Array.mem_toList_iff.mp hy)
   simp[DictEntry.refKey,hkey]
  have a':¬es.toList.any (·.refKey)=true:=by rw[a];exact Bool.false_ne_true
  rw[if_neg a']
  exact congrArg some e
def Am.look{h:Heap}{x dx C:Addr}{mA:Str->Option Value}(I:Am h x dx C mA):∃od,PySem.W.InstAt h x (PySem.W.instObj C dx) C (some od)/\∀name,PySem.W.lookIn name od=some (mA name):=
 let ⟨od,ho,hl⟩:=qu I.ns
 ⟨od,⟨I.obj,rfl,rfl,ho⟩,hl⟩
section
variable{prog:Program}{w:World}{A:Around}{E:Value->Shared->Prop}{s:Shared}{K:PySem.W.Frag}{x dx C f:Addr}{mA:Str->Option Value}{name:Str}{v:Value}
end
section
variable{P:Program}{w:World}{H H':Hp}{h h':Heap}{a C dx:Addr}{fs fs':List (Str×V)}
def wH(hok:bU P w H h)(e:H a=some (.ins C dx fs)):∃mA,Am h a dx C mA/\(∀f,zL (fs.lookup f) (mA f))/\PySem.Within mA (fs.map (·.1))/\fs.length<=1000/\H dx=some (.own a):=by
 obtain⟨d,z,ne,ob,mA,n,r,q⟩:=(show ō P w H h a (.ins C dx fs) from hok a _ e)
 exact⟨mA,⟨ob,n,ne⟩,r,q,z,d⟩
end
structure Cls(K:PySem.W.Frag)(C:Addr):Prop where
 pg:PySem.W.plainGet K C Str.empty=true
 hd:PySem.W.hasDictIn K C=true
 po:PySem.W.plainOver K C=true
 sa:PySem.W.findIn K (.ref C) "__setattr__" =some (some (.builtin "object.__setattr__"))
def Cls.get{K:PySem.W.Frag}{C:Addr}(c:Cls K C)(f:Str):PySem.W.plainGet K C f=true:=c.pg
section
variable{X:Cx}{pins:List (Addr×Obj)}{σ:St}{H:Hp}{s:Shared}{a C dx:Addr}{fs:List (Str×V)}{f:Str}{v:V}{A:Around}{E:Value->Shared->Prop}
end
section
variable{X:Cx}{o e value:Expr}{f:Str}{pos pos' tpos:Pos}{ta tv:TE}
end
section
variable{X:Cx}{pins:List (Addr×Obj)}{σ:St}{H:Hp}{s:Shared}{A:Around}{E:Value->Shared->Prop}{Q:Value->Shared->Prop}{c:Value}{b:Bool}
inductive cO(K:PySem.W.Frag)(H:Hp):V->Value->Prop where
 |non:cO K H .non (.type "NoneType")
 |bl (x:Bool):cO K H (.bl x) (.type "bool")
 |int (i:Int):cO K H (.int i) (.type "int")
 |str (x:Str):cO K H (.str x) (.type "str")
 |flt (x:UInt64):cO K H (.flt x) (.type "float")
 |lst {a:Addr} {xs:List V} (e:H a=some (.lst xs)):cO K H (.ref a) (.type "list")
 |ž {a:Addr} {o:Obj} {xs:List V} (e:H a=some (.ž o (.lst xs))):cO K H (.ref a) (.type "list")
 |tup {a:Addr} {xs:List V} (e:H a=some (.tup xs)):cO K H (.ref a) (.type "tuple")
 |dK {a:Addr} {kvs:List (Key×V)} (e:H a=some (.dK kvs)):cO K H (.ref a) (.type "dict")
 |dT {a:Addr} {kvs:List (List Key×V)} (e:H a=some (.dT kvs)):cO K H (.ref a) (.type "dict")
 |ins {a C dx:Addr} {fs:List (Str×V)} (e:H a=some (.ins C dx fs)) (cl:Cls K C) (ha:PySem.W.findIn K (.ref C) "__class__" =some (some (.builtin "object.__class__")))
   (hn:PySem.W.specialIn K (.builtin "object.__class__") "__get__" =some (some (.builtin "getset_descriptor.__get__"))) (htk:PySem.W.takesIn K (.builtin "object.__class__")=some true)
   (hm:PySem.W.mroIn K C (.type "object")=some true):cO K H (.ref a) (.ref C)
def Ŵ{x:V}{u t:Value}(I:Inv X pins σ H s)(rx:RelV x u)(ty:cO X.K H x t)(e:PySem.W.kitOne X.K t c=some b)(h:∀tk,Q (.bool b) {s with toks:=tk}) :
 wpAny (model X.prog X.w) A (call (.builtin "isinstance") [u,c]) Q E s:=by
 cases ty with
 |non=>cases(show u=Value.none from rx);exact PySem.W.kia_one PySem.W.kitx_none I.fj True.intro e (λz=>nomatch z) h
 |bl y=>cases(show u=Value.bool y from rx);exact PySem.W.kia_one PySem.W.kitx_bool I.fj True.intro e (λz=>nomatch z) h
 |int i=>obtain⟨t,q⟩:=(show ∃t,u=Value.int i t from rx);cases q;exact PySem.W.kia_one PySem.W.kitx_int I.fj True.intro e (λz=>nomatch z) h
 |str y=>obtain⟨t,q⟩:=(show ∃t,u=Value.str y t from rx);cases q;exact PySem.W.kia_one PySem.W.kitx_str I.fj True.intro e (λz=>nomatch z) h
 |flt y=>obtain⟨t,q⟩:=(show ∃t,u=Value.float y t from rx);cases q;exact PySem.W.kia_one PySem.W.kitx_float I.fj True.intro e (λz=>nomatch z) h
 |@lst a xs ea=>
  cases(show u=Value.ref a from rx)
  obtain⟨_,_,n,_,h1⟩:=(show ō X.prog X.w H s.heap a (.lst xs) from I.hok a _ ea)
  exact PySem.W.kia_one PySem.W.kitx_list I.fj ⟨_,h1,rfl⟩ e (λz=>nomatch z) h
 |@ž a ob xs ea=>
  cases(show u=Value.ref a from rx)
  obtain⟨_,_,_,n,_,h1⟩:=(show ō X.prog X.w H s.heap a (.ž ob (.lst xs)) from I.hok a _ ea)
  exact PySem.W.kia_one PySem.W.kitx_list I.fj ⟨_,h1,rfl⟩ e (λz=>nomatch z) h
 |@tup a xs ea=>
  cases(show u=Value.ref a from rx)
  obtain⟨_,_,_,p⟩:=(show ō X.prog X.w H s.heap a (.tup xs) from I.hok a _ ea)
  obtain⟨o,h1,h2,_⟩:=p
  exact PySem.W.kia_one PySem.W.kitx_tuple I.fj ⟨o,h1,h2⟩ e (λz=>nomatch z) h
 |@dK a kvs ea=>
  cases(show u=Value.ref a from rx)
  obtain⟨_,_,vs,_,p⟩:=(show ō X.prog X.w H s.heap a (.dK kvs) from I.hok a _ ea)
  obtain⟨o,es,ep,h1,h2,_⟩:=p
  exact PySem.W.kia_one PySem.W.kitx_dict I.fj ⟨o,h1,h2.1⟩ e (λz=>nomatch z) h
 |@dT a kvs ea=>
  cases(show u=Value.ref a from rx)
  obtain⟨_,_,xs,_,o,es,ep,h1,h2,_⟩:=(show ō X.prog X.w H s.heap a (.dT kvs) from I.hok a _ ea)
  exact PySem.W.kia_one PySem.W.kitx_dict I.fj ⟨o,h1,h2.1⟩ e (λz=>nomatch z) h
 |@ins a C dx fs ea cl ha hn htk hm=>
  cases(show u=Value.ref a from rx)
  obtain⟨mA,O,_⟩:=wH I.hok ea
  obtain⟨od,J,_⟩:=O.look
  exact PySem.W.kia_one (PySem.W.kitx_own (cl.get _) cl.hd ha hn htk hm) I.fj J e (λz=>nomatch z) h
end
end L2
namespace L2
open PySem PySem.Spec PyProof.Rows
structure Ľ(k:Nat)(A:Around):Prop where
 hd:A.handled=none
 dp:A.depth+3*k+5<recursionLimit
 un:A.units+16*k+200<cLine
def Ľ.mono{j k:Nat}{A:Around}(r:Ľ k A)(h:j<=k):Ľ j A:=⟨r.hd,by have:=r.dp;omega,by have:=r.un;omega⟩
def Ľ.mo{j k:Nat}{A:Around}(r:Ľ k A)(h:j<=k:= by decide):Ľ j A:= r.mono h
theorem Ľ.deeper{k:Nat}{A:Around}(r:Ľ (k+1) A)(env:Env):Ľ k (A.deeper env):=
 ⟨r.hd,by have:=r.dp;show A.depth+1+3*k+5<_;omega,by have:=r.un;show A.units+3+16*k+200<_;omega⟩
theorem Ľ.in1{k:Nat}{A:Around}(r:Ľ (k+1) A):Ľ k A.in1:=
 ⟨r.hd,by have:=r.dp;show A.depth+3*k+5<_;omega,by have:=r.un;show A.units+1+16*k+200<_;omega⟩
theorem Ľ.depth{k:Nat}{A:Around}(r:Ľ k A):A.depth<recursionLimit:=by have:=r.dp;omega
theorem Ľ.units{k:Nat}{A:Around}(r:Ľ k A):A.units+64<cLine:=by have:=r.un;omega
def wI:TA:=λ_ H Q=>Q [] H
def oA(ta:TE)(tr:TA):TA:=λσ H Q=>ta σ H λx H1=>tr σ H1 λxs H2=>Q (x::xs) H2
section
variable{X:Cx}{e:Expr}{es:List Expr}{te:TE}{t:TA}{pos:Pos}
def bN:PA X [] wI:=λ_ _ _ _ H Q I h=>Calls.spliced_nil ⟨[],H,I,.nil,h⟩
def ŗ(ha:PE X e te)(hr:PA X es t)(hs:starEach (e::es) X.env=(false,eval e X.env)::starEach es X.env:=by rfl):PA X (e::es) (oA te t):=by
 intro pos pins s σ H Q I h
 rw[hs]
 show wpAny _ _ (spliced ((false,eval e X.env)::backTo pos (starEach es X.env))) _ _ s
 refine Calls.spliced_cons (Ļ (ha pins s σ H _ I h) λu s1 ⟨x,H1,I1,r1,q1⟩=>?_)
 exact Ļ (hr pos pins s1 σ H1 _ I1 q1) λus s2 ⟨xs,H2,I2,r2,q2⟩=>⟨x::xs,H2,I2,.cons r1 r2,q2⟩
def Lr(t:TA):TE:=λσ H Q=>t σ H λxs H1=>xs.length<=sizeLine/\∀p,H1 p=none->Q (.ref p) (upd H1 p (.tup xs))
def Ls(t:TA):TE:=λσ H Q=>t σ H λxs H1=>xs.length<=sizeLine/\∀p,H1 p=none->Q (.ref p) (upd H1 p (.lst xs))
def rE{x1}(h:PA X es t):PE X (.Tuple es x1 pos) (Lr t):=by
 intro pins s σ H Q I hq
 refine wpAny_Tuple_spliced (Ļ (h pos pins s σ H _ I hq) λus s1 ⟨xs,H1,I1,r,z,q⟩=>⟨by rw[<-r.length];exact z,?_⟩)
 have hf:H1 s1.heap.objs.size=none:=I1.hok.fresh (Nat.le_refl _)
 refine⟨.ref s1.heap.objs.size,upd H1 s1.heap.objs.size (.tup xs),I1.laid (t':=s1.toks) (λb u e=>Heap.get?_push_of_some _ e) (Nat.le_refl _) ?_,rfl,q _ hf⟩
 exact⟨z,us,r,⟨_,Heap.get?_push_size _ rfl,rfl,_,rfl⟩⟩
def Ao(h:PA X es t):PE X (.List es pos) (Ls t):=by
 intro pins s σ H Q I hq
 refine wpAny_List_spliced (Ļ (h pos pins s σ H _ I hq) λus s1 ⟨xs,H1,I1,r,z,q⟩=>⟨by rw[<-r.length];exact z,?_⟩)
 have hf:H1 s1.heap.objs.size=none:=I1.hok.fresh (Nat.le_refl _)
 refine⟨.ref s1.heap.objs.size,upd H1 s1.heap.objs.size (.lst xs),I1.laid (t':=s1.toks) (λb u e=>Heap.get?_push_of_some _ e) (Nat.le_refl _) ?_,rfl,q _ hf⟩
 exact⟨z,us,0,r,Heap.get?_push_size _ rfl⟩
end
abbrev Sp:=List V->Hp->VK->XK->Prop
abbrev dJ:=List Env->Hp->Shared->XK->Value->Shared->Prop
structure wJ(P:Program)(w:World)(K:PySem.W.Frag)(mg:Str->Option Value)(base:Heap)(A:Around)(outer:List Env)(s:Shared)(H:Hp):Prop where
 frames:A.frames=some outer
 mod:Mod K mg base
 bs:∀b o,base.get? b=some o->s.heap.get? b=some o/\H b=none
 vY:base.objs.size<=s.heap.objs.size
 eZ:s.heap.FunFrames base outer
 Eb:∀b∈frs outer,H b=none
 hok:bU P w H s.heap
 bare:AllBare s.gens
 tb:TabsOk K mg base H
def CE(outer:List Env)(P:Program)(w:World)(H:Hp)(s:Shared)(Q:VK)(u:Value)(s':Shared):Prop:=
 ∃v H',s'.os=s.os/\AllBare s'.gens/\Un (frs outer) [] H H' s.heap s'.heap/\bU P w H' s'.heap/\RelV v u/\Q v H'
def CR(CX:dJ)(outer:List Env)(P:Program)(w:World)(H:Hp)(s:Shared)(Q:VK)(E:XK)(r:Result)(s':Shared):Prop:=
 match r with
 | .ok (.ret u)=>CE outer P w H s Q u s'
 | .ok _=>False
 | .error e=>CX outer H s E e s'
structure ĸ(P:Program)(w:World)(K:PySem.W.Frag)(mg:Str->Option Value)(base:Heap)(CX:dJ)(k:Nat)(f:Addr)(fd:FuncData)(ps:List Str)(sp:Sp):Prop where
 len:∀vs H Q E,sp vs H Q E->vs.length=ps.length
 run:∀(A:Around) (outer:List Env) (s:Shared) (H:Hp) (args:Args) (us:List Value) (vs:List V) (Q:VK) (E:XK),Ľ k A->wJ P w K mg base A outer s H->BindsTo s fd args (ps.zip us)->Vals vs us->sp vs H Q E->
  codeAny (model P w) A (.call (.ref f) args) (CR CX outer P w H s Q E) s
def ĸ.imp{P:Program}{w:World}{K:PySem.W.Frag}{mg:Str->Option Value}{base:Heap}{CX:dJ}{k:Nat}{f:Addr}{fd:FuncData}{ps:List Str}{sp Rq:Sp}(F:ĸ P w K mg base CX k f fd ps sp)
 (h:∀vs H Q E,Rq vs H Q E->sp vs H Q E):ĸ P w K mg base CX k f fd ps Rq:=
 ⟨λvs H Q E q=>F.len vs H Q E (h _ _ _ _ q),λA outer s H args us vs Q E hr he hb hv hs=>F.run A outer s H args us vs Q E hr he hb hv (h _ _ _ _ hs)⟩
section
variable{X:Cx}{pins:List (Addr×Obj)}{σ:St}{H:Hp}{s s':Shared}
def Inv.env0(I:Inv X pins σ H s):wJ X.prog X.w X.K X.mg X.base X.A X.stack s H:=
 ⟨I.ok.frames,I.ok.mod,I.bs,Nat.le_trans I.ok.vY I.sz,I.stack,I.jx,I.hok,I.bare,I.tb⟩
def Inv.after{Q:VK}{u:Value}(I:Inv X pins σ H s)(h:CE X.stack X.prog X.w H s Q u s'):EP X pins σ Q u s':=by
 obtain⟨v,H',os,bare,un,hok,r,q⟩:=h
 obtain⟨hh,g,d,t,os'⟩:=s'
 obtain rfl:os'=s.os:=os
 exact⟨v,H',I.call (h':=hh) (g':=g) (d':=d) (t':=t) (ch:=[]) un hok bare (λb z=>absurd z (by simp)),r,q⟩
end
def Binds(K:PySem.W.Frag)(fd:FuncData)(ps:List Str)(ds:List Value):Prop:=
 ∀(s:Shared) (us:List Value),K.In s.heap->(us++ds).length=ps.length->BindsTo s fd ⟨us,[]⟩ (ps.zip (us++ds))
def Binds.all{K:PySem.W.Frag}{fd:FuncData}{ps:List Str}(h:∀us:List Value,us.length=ps.length->bindArgs fd ⟨us,[]⟩=pure (ps.zip us)):Binds K fd ps []:=λs us _ hl=>by
 rw[List.append_nil] at hl ⊢
 exact .of_eq (h us hl)
section
variable{X:Cx}{CX:dJ}{k:Nat}{f C:Addr}{fd:FuncData}{ps:List Str}{sp:Sp}{wK:List V}{ds:List Value}{E:XK}{x m:Str}{p pos apos:Pos}{e o:Expr}{es:List Expr}{ta:TE}{t:TA}
end
def PK(X:Cx)(kws:List Keyword)(t:TA):Prop:=
 ∀(pos:Pos) (pins:List (Addr×Obj)) (s:Shared) (σ:St) (H:Hp) (Q:List V->Hp->Prop),Inv X pins σ H s->t σ H Q->wpAny (model X.prog X.w) X.A (evalAll ((backToKw pos (keywordEach kws X.env)).map (·.2))) (AP X pins σ Q) X.xe s
section
variable{X:Cx}{CX:dJ}{k:Nat}{f C:Addr}{fd:FuncData}{ps ks:List Str}{sp:Sp}{E:XK}{x m:Str}{p pos apos kpos:Pos}{e o:Expr}{es:List Expr}{kws:List Keyword}{te ta:TE}{t tk:TA}{nm:Option Str}
def Aq:PK X [] wI:=λ_ _ _ _ H Q I h=>wpAny_evalAll_nil ⟨[],H,I,.nil,h⟩
def wL(ha:PE X e te)(hr:PK X kws t):PK X (⟨nm,e,kpos⟩::kws) (oA te t):=by
 intro pos pins s σ H Q I h
 show wpAny _ _ (evalAll ((do let v <-eval e X.env;standAt pos;pure v)::(backToKw pos (keywordEach kws X.env)).map (·.2))) _ _ s
 refine wpAny_evalAll_cons (wpAny_bind (Ļ (ha pins s σ H _ I h) λu s1 ⟨x,H1,I1,r1,q1⟩=>wpAny_bind (wpAny_standAt (wpAny_pure ?_))))
 exact Ļ (hr pos pins s1 σ H1 _ I1 q1) λus s2 ⟨xs,H2,I2,r2,q2⟩=>⟨x::xs,H2,I2,.cons r1 r2,q2⟩
structure jA(K:PySem.W.Frag)(fd:FuncData)(ps ks:List Str)(g:List Value->List Value->List Value)(gV:List V->List V->List V):Prop where
 to:∀(s:Shared) (us ws:List Value),K.In s.heap->(g us ws).length=ps.length->BindsTo s fd ⟨us,ks.zip ws⟩ (ps.zip (g us ws))
 rel:∀{vs:List V} {us:List Value} {zs:List V} {ws:List Value},Vals vs us->Vals zs ws->Vals (gV vs zs) (g us ws)
variable{g:List Value->List Value->List Value}{gV:List V->List V->List V}
end
structure Ě(N P:List Str)(sc:Scope):Prop where
 kind:sc.kind=.function
 co:sc.isCoroutine=false
 gen:sc.isGenerator=false
 nd:N.Nodup
 pre:N.take P.length=P
 par:∀x∈P,sc.names.lookup x=some .local\/sc.names.lookup x=some .cell
 Ar:∀y∈sc.names,y.2≠ .free
theorem iQ{kindOf:Str->Option NameKind}{x:Str}:∀{binds:List (Str×Value)} {m:Str->Option Value},(∀v,(x,v)∉binds)->bindL kindOf binds m x=m x
 | [],_,_=>rfl
 |(n,v)::r,m,h=>by
  unfold bindL
  rw[iQ λw hw=>h w (List.mem_cons_of_mem _ hw)]
  split
  ·have:x≠n:=by rintro rfl;exact h v List.mem_cons_self
   simp[this]
  ·rfl
theorem iR{kindOf:Str->Option NameKind}{x:Str}:∀{binds:List (Str×Value)} {m:Str->Option Value},(∀v,(x,v)∉binds)->bindC kindOf binds m x=m x
 | [],_,_=>rfl
 |(n,v)::r,m,h=>by
  unfold bindC
  rw[iR λw hw=>h w (List.mem_cons_of_mem _ hw)]
  split
  ·rfl
  ·have:x≠n:=by rintro rfl;exact h v List.mem_cons_self
   simp[this]
theorem iT{kindOf:Str->Option NameKind}{x:Str}{v:Value}:∀{P:List Str} {vs:List Value} {i:Nat} {m:Str->Option Value},P.Nodup->P[i]?=some x->vs[i]?=some v->kindOf x=some .local->
 bindL kindOf (P.zip vs) m x=some v
 | [],_,_,_,_,h,_,_=>by simp at h
 |_::_,[],_,_,_,_,h,_=>by simp at h
 |p::P,w::vs,0,m,nd,h1,h2,hk=>by
  simp at h1 h2;subst h1;subst h2
  show bindL kindOf ((p,w)::P.zip vs) m p=_
  unfold bindL
  rw[iQ λv hv=>(List.nodup_cons.mp nd).1 (List.of_mem_zip hv).1,if_pos hk]
  simp
 |p::P,w::vs,i+1,m,nd,h1,h2,hk=>by
  show bindL kindOf ((p,w)::P.zip vs) m x=_
  unfold bindL
  exact iT (i:=i) (List.nodup_cons.mp nd).2 (by simpa using h1) (by simpa using h2) hk
theorem iU{kindOf:Str->Option NameKind}{x:Str}{v:Value}:∀{P:List Str} {vs:List Value} {i:Nat} {m:Str->Option Value},P.Nodup->P[i]?=some x->vs[i]?=some v->kindOf x≠some .local->
 bindC kindOf (P.zip vs) m x=some v
 | [],_,_,_,_,h,_,_=>by simp at h
 |_::_,[],_,_,_,_,h,_=>by simp at h
 |p::P,w::vs,0,m,nd,h1,h2,hk=>by
  simp at h1 h2;subst h1;subst h2
  show bindC kindOf ((p,w)::P.zip vs) m p=_
  unfold bindC
  rw[iR λv hv=>(List.nodup_cons.mp nd).1 (List.of_mem_zip hv).1,if_neg hk]
  simp
 |p::P,w::vs,i+1,m,nd,h1,h2,hk=>by
  show bindC kindOf ((p,w)::P.zip vs) m x=_
  unfold bindC
  exact iU (i:=i) (List.nodup_cons.mp nd).2 (by simpa using h1) (by simpa using h2) hk
def start(N:List Str)(vs:List V):St:=vs.map some++List.replicate (N.length-vs.length) none
def ig(CX:dJ)(P:Program)(w:World)(K:PySem.W.Frag)(mg:Str->Option Value)(base:Heap)(N:List Str)(qual:Str)(scope:Scope)(f:Addr)(cd:Value)(A:Around)(outer:List Env)(s:Shared)(H:Hp)(E:XK):Cx where
 prog:=P
 w:=w
 K:=K
 mg:=mg
 base:=base
 A:=A.deeper (envOfC qual scope s.heap.objs.size f cd)
 N:=N
 s₀:= s
 H₀:= H
 env:=envOfC qual scope s.heap.objs.size f cd
 outer:=outer
 stack:=envOfC qual scope s.heap.objs.size f cd::outer
 ex:=[]
 calm:=true
 fn:=λ_=>true
 pn:=[]
 xe:=λe s'=>wpAny (model P w) (A.deeper (envOfC qual scope s.heap.objs.size f cd)) (leaving (envOfC qual scope s.heap.objs.size f cd) e) (λ_ s''=>CX outer H s E e s'') (λe' s''=>CX outer H s E e' s'') s'
def bW{sc:Scope}{n:Nat}{x:Str}(h:sc.names.lookup x=some .cell):∃c,(cellsFrom n sc.names []).lookup x=some c:=by
 have q:=PySem.W.cellsFrom_some sc.names n [] (.inl h)
 exact Option.isSome_iff_exists.mp q
def qw{CX:dJ}{P:Program}{w:World}{K:PySem.W.Frag}{mg:Str->Option Value}{base:Heap}{N ps:List Str}{qual:Str}{scope:Scope}{f:Addr}{cd:Value}{A:Around}{outer:List Env}{s s1:Shared}{H:Hp}{E:XK}{us:List Value}{vs:List V}
 (S:Ě N ps scope)(hd:A.handled=none)(e0:wJ P w K mg base A outer s H)(hl:vs.length=ps.length)(r:Vals vs us)
 (x:InCallC s s.heap.objs.size (bindL (envOfC qual scope s.heap.objs.size f cd).kindOf (ps.zip us) λ_=>none) (cellsFrom (s.heap.objs.size+1) scope.names []) (bindC (envOfC qual scope s.heap.objs.size f cd).kindOf (ps.zip us) λ_=>none) s1) :
 Inv (ig CX P w K mg base N qual scope f cd A outer s H E) [] (start N vs) H s1:=by
 have hpl:ps.length<=N.length:=by have:=congrArg List.length S.pre;rw[List.length_take] at this;omega
 obtain⟨h1,tk,rfl,hk⟩:=x.done
 have Fe:∀b:Addr,b∉(ig CX P w K mg base N qual scope f cd A outer s H E).ex:=λb z=>absurd (show b∈([]:List Addr) from z) (by simp)
 refine⟨⟨e0.mod,S.kind,rfl,rfl,Nat.le_refl _,λy z c h1 h2=>?_,λy hy=>?_,λy c _ h=>?_,λ_=>hd,Around.frames_deeper e0.frames,.inr ⟨rfl,rfl⟩,λb z=>absurd z (Fe b),e0.bs,e0.vY,λb _ _=>Fe b,λb z=>absurd z (Fe b),e0.eZ,e0.Eb,e0.tb⟩,
  rfl,e0.bare,Un.kept hk,⟨_,x.toInCall.ns,λi y v h1 h2 h3=>?_⟩,λy c h=>⟨_,x.cell y c h⟩,e0.hok.fresh (Nat.le_refl _),λy c h=>?_,λp hp=>absurd (show p∈([]:List (Addr×Obj)) from hp) (by simp),e0.hok.kept hk,?_⟩
 ·exact name_of_addr x.apart (PySem.mem_of_lookup h1) (PySem.mem_of_lookup h2)
 ·have hy:scope.names.lookup y=some .cell\/scope.names.lookup y=some .free:=hy
  rcases hy with hy|hy
  ·exact bW hy
  ·exact absurd rfl (S.Ar _ (PySem.mem_of_lookup hy))
 ·exact Nat.le_of_lt (x.above y c (PySem.mem_of_lookup h))
 ·have hi:i<vs.length:=by
   unfold start at h2
   by_cases hi:i<vs.length
   ·exact hi
   ·rw[List.getElem?_append_right (by simpa using hi)] at h2
    rw[List.getElem?_replicate] at h2
    split at h2<;>cases h2
  have ha:vs[i]?=some v:=by
   unfold start at h2
   rw[List.getElem?_append_left (by simpa using hi),List.getElem?_map] at h2
   cases e:vs[i]? with
   |none=>rw[e] at h2;cases h2
   |some a=>rw[e] at h2;cases h2;rfl
  obtain⟨u,hu,rv⟩:=r.get ha
  have hp:ps[i]?=some y:=by
   rw[<-S.pre,List.getElem?_take_of_lt (by omega)];exact h1
  have Rr:ps.Nodup:=by rw[<-S.pre];exact S.nd.sublist (List.take_sublist _ _)
  refine⟨u,rv,?_⟩
  rcases S.par y (List.mem_of_getElem? hp) with k|k
  ·exact .inl ⟨k,iT Rr hp hu k⟩
  ·obtain⟨c,e⟩:=bW (n:=s.heap.objs.size+1) k
   refine .inr ⟨.inl k,c,e,?_⟩
   have q:=x.cell y c e
   rw[iU Rr hp hu (by show scope.names.lookup y≠_;rw[k];decide)] at q
   exact q
 ·exact e0.hok.fresh (Nat.le_of_lt (x.above y c (PySem.mem_of_lookup h)))
 ·unfold start
  show _=N.length
  rw[List.length_append,List.length_map,List.length_replicate]
  omega
def rG{CX:dJ}{P:Program}{w:World}{K:PySem.W.Frag}{mg:Str->Option Value}{base:Heap}{k:Nat}{f:Addr}{name qual:Str}{params:Arguments}{body:List Stmt}{scope:Scope}{dV kV doc pm cdv ct oc:Value}{an od:Option Addr}
 {osl:Array (Option Value)}{N ps:List Str}{sp:Sp}(lk:K.lookup f=some ⟨oc,od,.func (PySem.W.fnOf name qual params body scope dV kV doc pm an cdv ct),osl⟩)(hcd:PySem.W.codeIn K cdv qual=true)(S:Ě N ps scope)
 (len:∀vs H Q E,sp vs H Q E->vs.length=ps.length)
 (hbody:∀(A:Around) (outer:List Env) (s:Shared) (H:Hp) (vs:List V) (Q:VK) (E:XK),Ľ k (A.deeper (envOfC qual scope s.heap.objs.size f cdv))→sp vs H Q E→
   ∃t,dI (ig CX P w K mg base N qual scope f cdv A outer s H E) body t/\t {nx:=λ_ H'=>Q .non H',rt:=Q} (start N vs) H) :
 ĸ P w K mg base CX (k+1) f (PySem.W.fnOf name qual params body scope dV kV doc pm an cdv ct) ps sp:=by
 refine⟨len,λA outer s H args us vs Q E hr e0 hb r hsp=>?_⟩
 have hl:=len _ _ _ _ hsp
 have KX:K.In s.heap:=e0.mod.Ea.keeps λb o e=>(e0.bs b o e).1
 have lim:s.heap.NoLimit:=e0.mod.nolimit.keeps λb o e=>(e0.bs b o e).1
 have hkind:∀y∈ps.zip us,scope.names.lookup y.1=some .local\/(scope.names.lookup y.1=some .cell/\((cellsFrom (s.heap.objs.size+1) scope.names []).lookup y.1).isSome=true):=λ⟨n,v⟩ hy=>by
  rcases S.par n (List.of_mem_zip hy).1 with q|q
  ·exact .inl q
  ·exact .inr ⟨q,PySem.W.cellsFrom_some _ _ _ (.inl q)⟩
 refine codeAny_call_function hr.depth (KX _ _ lk) rfl S.co S.gen rfl (PySem.W.codeRec_of KX hcd) (hb _ _ _ _ ?_)
 refine wpAny_newFunctionEnv_cells S.kind hkind λenv he s1 x=>?_
 subst he
 refine⟨lim.keeps x.toInCall.keep,codeAny_func ?_⟩
 obtain⟨t,ht,hq⟩:=hbody A outer s H vs Q E (hr.deeper _) hsp
 have I:Inv (ig CX P w K mg base N qual scope f cdv A outer s H E) [] (start N vs) H s1:=qw S hr.hd e0 hl r x
 refine wpAny_mono (ht [] s1 (start N vs) H _ I hq) (λfl s' hs=>?_) λe s' hs=>hs
 have fin:∀{σ':St} {H':Hp} {v:V} {u:Value},Inv (ig CX P w K mg base N qual scope f cdv A outer s H E) [] σ' H' s'->RelV v u->Q v H'->CE outer P w H s Q u s':=
  fun{σ' H' v u} J rv q=>⟨v,H',J.os,J.bare,J.base,J.hok,rv,q⟩
 cases fl with
 |ret u=>
  obtain⟨v,σ',H',J,rv,q⟩:=hs
  exact fin J rv q
 |next=>
  obtain⟨σ',H',J,q⟩:=hs
  exact fin (v:=V.non) (u:=Value.none) J rfl q
 |brk=>
  obtain⟨_,_,_,q⟩:=hs
  exact False.elim q
 |cont=>
  obtain⟨_,_,_,q⟩:=hs
  exact False.elim q
end L2
namespace L2
open PySem PySem.Spec PyProof.Rows
section
variable{X:Cx}{x:Str}{p pos:Pos}{e:Expr}{es:List Expr}{t:TA}{id T:String}{r:List V->Hp->VK->Prop}
def Jj(r:List V->Hp->VK->Prop)(t:TA):TE:=λσ H Q=>t σ H λvs H1=>r vs H1 Q
def ģ(hc:ū X (.builtin id) r)(hg:Gl X x)(hm:X.mg x=none)(hv:bootBuiltins x=some (.builtin id))(ha:PA X (e::es) t)(hn:x≠ "__name__" := by decide)(hdb:(x== ("__debug__" :Str))=false:=by decide)
 (he:starEach (e::es) X.env=(false,eval e X.env)::starEach es X.env:=by rfl)(hpl:(backTo pos (starEach es X.env)).any (·.1)=false:=by rfl):PE X (.Call (.Name x p) (e::es) [] pos) (Jj r t):=by
 intro pins s σ H Q I h
 refine wpAny_Call_Name_kw (bM I hg hm hv ?_ hn hdb)
 exact PyProof.Rows.callWith_builtin1 (Ļ (ha pos pins s σ H _ I h) λus s1 ⟨vs,H1,I1,r1,q1⟩=>hc pins s1 σ H1 vs us Q I1 r1 q1) he hpl
def ŵ(hc:ū X (.type T) r)(hg:Gl X x)(hm:X.mg x=none)(hv:bootBuiltins x=some (.type T))(ha:PA X (e::es) t)(hn:x≠ "__name__" := by decide)(hdb:(x== ("__debug__" :Str))=false:=by decide)
 (he:starEach (e::es) X.env=(false,eval e X.env)::starEach es X.env:=by rfl)(hpl:(backTo pos (starEach es X.env)).any (·.1)=false:=by rfl):PE X (.Call (.Name x p) (e::es) [] pos) (Jj r t):=by
 intro pins s σ H Q I h
 refine wpAny_Call_Name_kw (bM I hg hm hv ?_ hn hdb)
 exact PyProof.Rows.callWith_type1 (Ļ (ha pos pins s σ H _ I h) λus s1 ⟨vs,H1,I1,r1,q1⟩=>hc pins s1 σ H1 vs us Q I1 r1 q1) he hpl
end
end L2
namespace HT
open PySem PyProof.Rows
def lexLt:List Int->List Int->Bool
 | [],[]=>false
 | [],_::_=>true
 |_::_,[]=>false
 |x::xs,y::ys=>if x=y then lexLt xs ys else decide (x<y)
def mD(x y:Int)(xs ys:List Int):lexLt (x::xs) (y::ys)=if x=y then lexLt xs ys else decide (x<y):=rfl
def iu:lexLt [] []=false:=rfl
def fJ(y:Int)(ys:List Int):lexLt [] (y::ys)=true:=rfl
def fK(x:Int)(xs:List Int):lexLt (x::xs) []=false:=rfl
def rH(A:Around)(s:Shared)(a:Int)(t:Tok)(c:Int)(u:Tok):∃e,SeqAt.EqAt A s (.int a t) (.int c u) e/\(e=true↔a=c):=
 ⟨(a== c),SeqAt.EqAt.int_int a t c u,by simp⟩
def rJ(A:Around)(s:Shared)(a:Int)(t:Tok)(c:Int)(u:Tok)(prog:Program)(w:World)(E:Value->Shared->Prop)(Q:Value->Shared->Prop)(h:Q (.bool (decide (a<c))) s) :
 wpAny (model prog w) A (richCompare .Lt (.int a t) (.int c u)) Q E s:=
 (PyProof.Rows.lt_int h:wpAny (model prog w) A (compareOp .Lt (.int a t) (.int c u)) Q E s)
section
open PySem.SeqAt
open PySem.AutoSeq1 (wpAny_loadPart')
open PySem.MeetsSeq PySem.MeetsSeq2 PySem.MeetsSeq3
def iw(l b:Addr)(items items2:Array Value)(n n2:Nat)(dd dd2:Option Addr)(sl sl2:Array (Option Value))(ns ms:List Int)(hi:IntsAre items.toList ns)(hj:IntsAre items2.toList ms) :
 Meets (Builtin.«tuple.__lt__» ⟨[.ref l,.ref b],[]⟩)
  (fun _ R s=>s.heap.get? l=some {cls:=.type "tuple",dict:=dd,data:=.seq items n,slots:=sl}∧s.heap.get? b=some {cls:=.type "tuple",dict:=dd2,data:=.seq items2 n2,slots:=sl2}∧
    R (.ok (.ret (.bool (lexLt ns ms)))) s):=
 .of_wp fun prog w A R s h=>by
   obtain⟨hp,g,d,tk,os⟩:=s;obtain⟨hl,hb,h⟩:=h
   have f2:=AutoSeq1.sub_tuple_tuple
   have z1:items.size=ns.length:=by rw[<-hi.length];simp
   have z2:items2.size=ms.length:=by rw[<-hj.length];simp
   wp_walk using wpAny_loadPart' hl,wpAny_loadPart' hb,wpAny_forIn_list _ (λrest b s'=>b.1=none/\s'=⟨hp,g,d,tk,os⟩/\∃(vs ws:List Value) (ns' Ec:List Int),rest=vs.zip ws/\
    IntsAre vs ns'/\IntsAre ws Ec/\ns'.length+items2.size=Ec.length+items.size/\R (.ok (.ret (.bool (lexLt ns' Ec)))) ⟨hp,g,d,tk,os⟩) _
   case turn=>
    rintro ⟨y,x⟩ rest b s' ⟨hb',rfl,vs,ws,ns',Ec,hz,Lw,hwi,hlen,hR⟩
    cases Lw with
    |nil=>rw[List.zip_nil_left] at hz;cases hz
    |cons a t Lx=>
     cases hwi with
     |nil=>rw[List.zip_nil_right] at hz;cases hz
     |cons c u Ly=>
      rw[List.zip_cons_cons] at hz
      injection hz with hyx hrest
      injection hyx with hy hx
      subst hy hx
      rw[mD] at hR
      simp only[List.length_cons] at hlen
      obtain⟨e,he,hiff⟩:=rH A.in1 ⟨hp,g,d,tk,os⟩ a t c u
      refine wpAny_bind (he prog w _ _ ?_)
      cases e with
      |true=>
       rw[if_pos (hiff.mp rfl)] at hR
       wp_walk
       exact⟨rfl,rfl,_,_,_,_,hrest,Lx,Ly,by omega,hR⟩
      |false=>
       rw[if_neg (λq=>absurd (hiff.mpr q) Bool.false_ne_true)] at hR
       have Vc:=rJ A.in1 ⟨hp,g,d,tk,os⟩ a t c u prog w
       wp_walk using Vc
       exact⟨_,rfl,by simpa using hR⟩
   case fin=>
    rintro ⟨b1,b2⟩ s' ⟨hb',rfl,vs,ws,ns',Ec,hz,Lw,hwi,hlen,hR⟩
    simp only at hb'
    subst hb'
    have hv:lexLt ns' Ec=decide (items.size<items2.size):=by
     cases Lw with
     |nil=>
      cases hwi with
      |nil=>
       simp only[List.length_nil] at hlen
       rw[iu]
       exact(decide_eq_false (by omega)).symm
      |cons c u hw=>
       simp only[List.length_nil,List.length_cons] at hlen
       rw[fJ]
       exact(decide_eq_true (by omega)).symm
     |cons a t hv=>
      cases hwi with
      |nil=>
       simp only[List.length_nil,List.length_cons] at hlen
       rw[fK]
       exact(decide_eq_false (by omega)).symm
      |cons c u hw=>
       rw[List.zip_cons_cons] at hz
       cases hz
    rw[hv] at hR
    wp_walk
    exact⟨_,rfl,by simpa[Builtin.Tuple.tupleCompareSizes] using hR⟩
   case h=>
    exact⟨rfl,rfl,items.toList,items2.toList,ns,ms,rfl,hi,hj,by omega,h⟩
end
section
variable{prog:Program}{w:World}{A:Around}{E:Value->Shared->Prop}{s:Shared}
def mF{l b:Addr}{items items2:Array Value}{ns ms:List Int}{Q:Value->Shared->Prop}(hl:IsTup s.heap l items)(hb:IsTup s.heap b items2)(hi:IntsAre items.toList ns)(hj:IntsAre items2.toList ms)
 (hu:A.units<cLine)(h:Q (.bool (lexLt ns ms)) s):wpAny (model prog w) A (compareOp .Lt (.ref l) (.ref b)) Q E s:=by
 obtain⟨⟨cls,dd,data,sl⟩,ho,hc,n,hd⟩:=id hl
 obtain⟨⟨cls2,dd2,data2,sl2⟩,ho2,hc2,n2,hd2⟩:=id hb
 simp only at hc hd hc2 hd2
 subst hc hd hc2 hd2
 exact richCompare_meets_room (op:=.Lt) ⟨_,ho,rfl⟩ ⟨_,ho2,rfl⟩ PySem.F.slot_tuple_lt PySem.F.entry_tuple_lt (PySem.F.args_tuple_lt_2 _ _) (iw l b items items2 n n2 dd dd2 sl sl2 ns ms hi hj)
  ⟨ho,ho2,show Value.bool (lexLt ns ms)≠Value.notImplemented/\Q (.bool (lexLt ns ms)) s from⟨(λx=>nomatch x),h⟩⟩ hu
end
end HT
namespace L2
open PySem PySem.Spec PyProof.Rows
abbrev TO:=St->Hp->(Option Int->Hp->Prop)->Prop
def intsAre_of{ns:List Int}:∀{us:List Value},Vals (ns.map V.int) us->IntsAre us ns:=by
 induction ns with
 |nil=>intro us r;rw[List.map_nil] at r;cases r;exact .nil
 |cons n ns ih=>
  intro us r
  rw[List.map_cons] at r
  cases r with
  |cons r1 r2=>
   obtain⟨t,e⟩:=r1
   subst e
   exact .cons n t (ih r2)
section
variable{X:Cx}{e:Expr}{te:TE}{lo hi:Option Expr}{tl th:TO}{pos p2:Pos}
def Av(K:PySem.W.Frag):R2:=λx y H Q=>∃a b ns ms,x=.ref a/\y=.ref b/\Ų K H a (ns.map V.int)/\Ų K H b (ms.map V.int)/\Q (.bl (HT.lexLt ns ms)) H
def Aw(hu:X.A.units<cLine):ľ X (compareOp .Lt) (Av X.K):=by
 intro pins s σ H x y v u Q I rx ry h
 obtain⟨a,b,ns,ms,rfl,rfl,ha,hb,q⟩:=h
 cases rx
 cases ry
 obtain⟨its,r1,p1,_⟩:=I.tuple ha
 obtain⟨its2,r2,p2,_⟩:=I.tuple hb
 have i1:IntsAre its.toArray.toList ns:=intsAre_of r1
 have i2:IntsAre its2.toArray.toList ms:=intsAre_of r2
 exact HT.mF p1 p2 i1 i2 hu ⟨.bl (HT.lexLt ns ms),H,I,rfl,q⟩
end
end L2
namespace L2
open PySem PySem.Spec PyProof.Rows
def yG(n:Nat)(i:Int):Option Nat:=if 0<=i then(if i<n then some i.toNat else none) else if -(n:Int)<=i then some (i+n).toNat else none
def fL{α:Type}(xs:List α)(i:Int):Option α:= (yG xs.length i).bind λj=>xs[j]?
def wM{n:Nat}{i:Int}{j:Nat}(h:yG n i=some j):seqIndex? i n=some j/\j<n/\ -(n:Int)<=i/\i<n:=by
 unfold yG at h
 by_cases h0:0<=i
 ·rw[if_pos h0] at h
  by_cases h1:i<n
  ·rw[if_pos h1] at h
   have e:i.toNat=j:=Option.some.inj h
   exact⟨by rw[seqIndex_of h0 h1,e],by omega,by omega,h1⟩
  ·rw[if_neg h1] at h;cases h
 ·rw[if_neg h0] at h
  by_cases h1: -(n:Int)<=i
  ·rw[if_pos h1] at h
   have e:(i+n).toNat=j:=Option.some.inj h
   exact⟨by rw[seqIndex_neg (by omega) h1,e],by omega,h1,by omega⟩
  ·rw[if_neg h1] at h;cases h
def jB{α:Type}{xs:List α}{i:Int}{v:α}(h:fL xs i=some v):∃j,seqIndex? i xs.length=some j/\xs[j]?=some v/\j<xs.length/\ -(xs.length:Int)<=i/\i<xs.length:=by
 unfold fL at h
 cases e:yG xs.length i with
 |none=>rw[e] at h;cases h
 |some j=>
  rw[e] at h
  obtain⟨h1,h2,h3,h4⟩:=wM e
  exact⟨j,h1,h,h2,h3,h4⟩
def oE(b:Expr):Prop:=∀o i,subscripted b false o i=operate [o,i] (getItem o i)
def mG(X:Cx)(r:R2):Prop:=
 ∀(value slice:Expr) (pins:List (Addr×Obj)) (s:Shared) (σ:St) (H:Hp) (x y:V) (v u:Value) (Q:VK),Inv X pins σ H s->RelV x v->RelV y u->r x y H Q->
  subscripted slice false v u=operate [v,u] (getItem v u)->wpAny (model X.prog X.w) X.A (subscriptTail value slice v u) (EP X pins σ Q) X.xe s
def Vd(X:Cx)(id:String)(r:V->List V->Hp->VK->Prop):Prop:=
 ∀(pins:List (Addr×Obj)) (s:Shared) (σ:St) (H:Hp) (x:V) (xs:List V) (v:Value) (us:List Value) (Q:VK),Inv X pins σ H s->RelV x v->Vals xs us->r x xs H Q->
  wpAny (model X.prog X.w) X.A (call (.builtin id) (v::us)) (EP X pins σ Q) X.xe s
section
variable{X:Cx}{a b:Expr}{ta tb:TE}{pos:Pos}
def mG.or{r r':R2}(h:mG X r)(h':mG X r'):mG X (λx y H Q=>r x y H Q\/r' x y H Q):=by
 intro value slice pins s σ H x y v u Q I rx ry q hs
 rcases q with q|q
 ·exact h value slice pins s σ H x y v u Q I rx ry q hs
 ·exact h' value slice pins s σ H x y v u Q I rx ry q hs
def yH{r:R2}(hr:mG X r)(ha:PE X a ta)(hb:PE X b tb)(hs:oE b):PE X (.Subscript a b pos) (z_ r ta tb):=by
 intro pins s σ H Q I h
 exact Subscript_ (Aa ha hb I h λv u s2 x y H2 I2 rx ry q=>hr a b pins s2 σ H2 x y v u Q I2 rx ry q (hs _ _))
def Fg(K:PySem.W.Frag):R2:=λx y H Q=>∃p xs i v,x=.ref p/\y=.int i/\ń K H p xs/\fL xs i=some v/\Q v H
def Fi(K:PySem.W.Frag):R2:=λx y H Q=>∃p xs i v,x=.ref p/\y=.int i/\Ų K H p xs/\fL xs i=some v/\Q v H
def Fj:R2:=λx y H Q=>∃z i c,x=.str z/\y=.int i/\z.length<=sizeLine/\fL z.cps.toList i=some c/\Q (.str ⟨#[c]⟩) H
def wN:mG X (Fg X.K):=by
 intro value slice pins s σ H x y v u Q I rx ry h hs
 obtain⟨p,xs,i,z,rfl,rfl,hq,he,q⟩:=h
 cases rx
 obtain⟨t,rfl⟩:=ry
 obtain⟨its,r,pl,hz⟩:=I.list hq
 obtain⟨j,h1,h2,h3,h4,h5⟩:=jB he
 obtain⟨w,ew,Fo⟩:=r.get h2
 have hl:=r.length
 have hn:=fH
 have fin:EP X pins σ Q w s:=⟨z,H,I,Fo,q⟩
 by_cases h0:0<=i
 ·have hj:i.toNat=j:=by
   rw[seqIndex_of h0 h5] at h1
   exact Option.some.inj h1
  exact item_listR pl.isList h0 (by omega) (by rw[hj];simpa using ew) fin hs
 ·have hj:(i+(its.toArray.size:Int)).toNat=j:=by
   rw[seqIndex_neg (by omega) h4] at h1
   rw[List.size_toArray,<-hl]
   exact Option.some.inj h1
  exact subscriptTail_builtinR (x:=w) pl.isList.typeIs slot_list_getitem.lookup
   (wpAny_getItem_list_neg (Q:=λr s'=>r=w/\EP X pins σ Q r s') pl.isList (by omega) (by rw[List.size_toArray]<;>omega) (by omega) (by rw[hj];simpa using ew) ⟨rfl,fin⟩) hs
def Ax:mG X (Fi X.K):=by
 intro value slice pins s σ H x y v u Q I rx ry h hs
 obtain⟨p,xs,i,z,rfl,rfl,hq,he,q⟩:=h
 cases rx
 obtain⟨t,rfl⟩:=ry
 obtain⟨its,r,pl,hz⟩:=I.tuple hq
 obtain⟨j,h1,h2,h3,h4,h5⟩:=jB he
 obtain⟨w,ew,Fo⟩:=r.get h2
 have hl:=r.length
 have hn:=fH
 have fin:EP X pins σ Q w s:=⟨z,H,I,Fo,q⟩
 exact subscriptTail_builtinR (x:=w) pl.typeIs slot_tuple_getitem.lookup
  (getItem_tuple (j:=j) (Q:=λr s'=>r=w/\EP X pins σ Q r s') pl (by omega) (by omega) (by rw[List.size_toArray,<-hl];exact h1) (by simpa using ew) ⟨rfl,fin⟩) hs
def Ay:mG X Fj:=by
 intro value slice pins s σ H x y v u Q I rx ry h hs
 obtain⟨z,i,c,rfl,rfl,hz,he,q⟩:=h
 obtain⟨t,rfl⟩:=rx
 obtain⟨t',rfl⟩:=ry
 obtain⟨j,h1,h2,h3,h4,h5⟩:=jB he
 have hl:z.cps.toList.length=z.length:=by simp[Str.length]
 rw[hl] at h1 h4 h5
 have hn:=fH
 exact tail_any (typeIs_str s z t) slot_str_getitem.lookup (getItem_str (c:=c) (by
  have e1:decide (i < -(2 ^ 63:Int))=false:=decide_eq_false (by omega)
  have e2:decide (i >= 2 ^ 63)=false:=decide_eq_false (by omega)
  rw[e1,e2,Bool.or_false]) (by rw[h1];simpa using h2) ⟨.str ⟨#[c]⟩,H,I.tok _,⟨_,rfl⟩,q⟩) hs
def Rt(K:PySem.W.Frag):R2:=λx y H Q=>Fg K x y H Q\/Fi K x y H Q\/Fj x y H Q
def rK:mG X (Rt X.K):=wN.or (Ax.or Ay)
def jC:ū X (.type "list") (λxs H Q=>∃p ys,xs=[.ref p]/\(ń X.K H p ys\/Ų X.K H p ys)/\∀l,H l=none->Q (.ref l) (upd H l (.lst ys))):=by
 intro pins s σ H xs us Q I r h
 obtain⟨p,ys,rfl,hq,q⟩:=h
 obtain⟨u,rfl,rx⟩:=vals1 r
 cases rx
 have fin:∀(its:List Value),Vals ys its->ys.length<=sizeLine->∀(h':Heap) (c':Nat),(∀b o',s.heap.get? b=some o'->h'.get? b=some o')->
  h'.get? s.heap.objs.size=some {cls:=.type "list",dict:=none,data:=.seq its.toArray c',slots:=#[]}->EP X pins σ Q (.ref s.heap.objs.size) {s with heap:=h'}:=λits r' hz h' c' kp e=>
  ⟨.ref s.heap.objs.size,_,I.laid (t':=s.toks) kp (Nat.le_refl _) (show ō X.prog X.w _ h' _ (.lst ys) from⟨hz,its,c',r',e⟩),rfl,q _ (I.hok.fresh (Nat.le_refl _))⟩
 rcases hq with hq|hq
 ·obtain⟨its,r',pl,hz⟩:=I.list hq
  have hlen:=r'.length
  obtain⟨o,ho,hc,n,hd⟩:=pl.isList
  exact call_list_seq p (.inl rfl) ho hc hd (λh' c' kp e=>fin its r' hz h' c' kp e) (by simp only[List.size_toArray]<;>omega)
 ·obtain⟨its,r',pl,hz⟩:=I.tuple hq
  have hlen:=r'.length
  obtain⟨o,ho,hc,n,hd⟩:=pl
  exact call_list_seq p (.inr rfl) ho hc hd (λh' c' kp e=>fin its r' hz h' c' kp e) (by simp only[List.size_toArray]<;>omega)
def Ru(K:PySem.W.Frag)(T:String)(x:V)(H:Hp):Prop:=match x with
 | .str _=>T= "str"
 | .int _=>T= "int"
 | .ref p=>(T= "list" ∧∃xs,ń K H p xs)∨(T= "tuple" ∧∃o,K.lookup p=some o∧o.cls=.type "tuple" ∧o.dict=none)∨
     (T= "dict" /\((∃kvs,H p=some (.dK kvs))\/∃kvs,H p=some (.dT kvs)))\/(T= "set" /\∃S n,H p=some (.set S n))
 |_=>False
def Az{pins:List (Addr×Obj)}{σ:St}{H:Hp}{s:Shared}{T:String}{x:V}{v:Value}(I:Inv X pins σ H s)(r:RelV x v)(ty:Ru X.K T x H) :
 s.TypeIs v T/\∀a,v=.ref a->∃ob,s.heap.get? a=some ob/\ob.dict=none:=by
 cases x with
 |str z=>
  obtain⟨t,rfl⟩:=r
  cases(show T= "str" from ty)
  exact⟨typeIs_str s z t,λ_ e=>nomatch e⟩
 |int i=>
  obtain⟨t,rfl⟩:=r
  cases(show T= "int" from ty)
  exact⟨typeIs_int s i t,λ_ e=>nomatch e⟩
 |ref p=>
  cases r
  rcases ty with⟨rfl,xs,hq⟩|⟨rfl,o,hk,hc,hd⟩|⟨rfl,hk⟩|⟨rfl,S,n,hk⟩
  ·obtain⟨its,_,pl,_⟩:=I.list hq
   refine⟨pl.isList.typeIs,λa e=>?_⟩
   cases e
   obtain⟨o,n,e,c,hd,_⟩:=pl
   exact⟨o,e,hd⟩
  ·refine⟨⟨o,I.fj p o hk,hc⟩,λa e=>?_⟩
   cases e
   exact⟨o,I.fj _ o hk,hd⟩
  ·have z:∃o,s.heap.get? p=some o∧o.ExactDict:=by
    rcases hk with⟨kvs,hk⟩|⟨kvs,hk⟩
    ·obtain⟨_,_,_,_,o,_,_,e,ex,_⟩:=I.hok p _ hk
     exact⟨o,e,ex⟩
    ·obtain⟨_,_,_,_,o,_,_,e,ex,_⟩:=I.hok p _ hk
     exact⟨o,e,ex⟩
   obtain⟨o,e,ex⟩:=z
   refine⟨⟨o,e,ex.1⟩,λa e2=>?_⟩
   cases e2
   exact⟨o,e,ex.2.1⟩
  ·obtain⟨o,_,_,_,e,ex,_⟩:=I.hok p _ hk
   refine⟨⟨o,e,ex.1⟩,λa e2=>?_⟩
   cases e2
   exact⟨o,e,ex.2.1⟩
 |_=>exact False.elim ty
def Lz(K:PySem.W.Frag)(T:String)(r:V->List V->Hp->VK->Prop)(to:TE)(t:TA):TE:=λσ H Q=>to σ H λx H1=>Ru K T x H1/\t σ H1 λxs H2=>r x xs H2 Q
variable{o e:Expr}{es:List Expr}{to:TE}{t:TA}{name:Str}{apos cpos:Pos}{T id:String}{r:V->List V->Hp->VK->Prop}
def rM(pa:PlainAttrs T)(slot:Slot T name id)(hty:typeOf (.builtin id)=pure (.type "method_descriptor"))(hm:Vd X id r)(ho:PE X o to)(ha:PA X (e::es) t)
 (hbase:attributeBase o name X.env (eval o X.env)=eval o X.env:=by rfl)
 (hfew:((backTo cpos (starEach (e::es) X.env)).all (fun x=>!x.1) && (backToKw cpos (keywordEach [] X.env)).all (fun x=>x.1.isSome)
   && decide ((e::es).length+([]:List Keyword).length+(if([]:List Keyword).isEmpty then 0 else 1)<30))=true:=by rfl)
 (hline:(apos.endLine== cpos.line)=true:=by rfl)(hs:starEach (e::es) X.env=(false,eval e X.env)::starEach es X.env:=by rfl)(hplain:(backTo cpos (starEach es X.env)).any (·.1)=false:=by rfl) :
 PE X (.Call (.Attribute o name apos) (e::es) [] cpos) (Lz X.K T r to t):=by
 intro pins s σ H Q I h
 refine wpAny_Call_method_late hbase hfew hline rfl (Ļ (ho pins s σ H _ I h) λv s1 ⟨x,H1,I1,r1,ty,q1⟩=>?_)
 obtain⟨h1,h2⟩:=Az I1 r1 ty
 refine⟨T,id,pa,slot,hty,h1,h2,?_⟩
 have hA:=ha cpos pins s1 σ H1 _ I1 q1
 rw[hs] at hA ⊢
 refine Calls.callWith_builtin (by show(false || (backTo cpos (starEach es X.env)).any (·.1))=false;rw[hplain]<;>rfl) (Calls.evalArgs_plain ?_)
 exact Ļ hA λus s2 ⟨vs,H2,I2,r2,q2⟩=>hm pins s2 σ H2 x vs v us Q I2 r1 r2 q2
end
end L2
namespace L2
open PySem PySem.Spec PyProof.Rows
def Ve(X:Cx)(id:String)(r:V->List V->Hp->VK->Prop):Prop:=
 ∀(pins:List (Addr×Obj)) (s:Shared) (σ:St) (H:Hp) (x:V) (xs:List V) (v:Value) (us:List Value) (Q:VK),Inv X pins σ H s->RelV x v->Vals xs us->r x xs H Q->
  wpAny (model X.prog X.w) X.A (call (.builtin id) (v::us)) (EP X pins σ Q) X.xe s
theorem Vals.one:∀{x:V} {us:List Value},Vals [x] us->∃u,us=[u]/\RelV x u
 |_,_,.cons r .nil=>⟨_,rfl,r⟩
section
variable{X:Cx}{pins:List (Addr×Obj)}{σ:St}{H:Hp}{s:Shared}{l b:Addr}{xs ys zs:List V}
def Inv.LC{its its':List Value}{n:Nat}{f:Array Value->Array Value}{t':Nat}(I:Inv X pins σ H s)(hH:H l=some (.lst xs))
 (e:s.heap.get? l=some {cls:=.type "list",data:=.seq its.toArray n})(hf:f its.toArray=its'.toArray)(hv:Vals ys its')(hz:ys.length<=sizeLine) :
 Inv X pins σ (upd H l (.lst ys)) {s with heap:=s.heap.update l (Obj.mapSeq f),toks:=t'}:=by
 have q:=PySem.IsL.update e f
 rw[hf] at q
 refine I.write (x:=l) (e:=l) (by rw[hH];exact trivial) (.inl rfl) (λb' u hb hu=>(Heap.get?_update_other s.heap (Obj.mapSeq f) (Ne.symm hb)).trans hu) ⟨_,q⟩ ?_
 exact⟨hz,its',_,hv,q⟩
def Inv.LQ{its:List Value}{t':Nat}(I:Inv X pins σ H s)(hv:Vals ys its)(hz:ys.length<=sizeLine) :
 Inv X pins σ (upd H s.heap.objs.size (.lst ys)) {s with heap:=s.heap.push {cls:=.type "list",data:=.seq its.toArray},toks:=t'}:=
 I.laid (λ_ _ q=>Heap.get?_push_of_some _ q) (Nat.le_refl _) ⟨hz,its,0,hv,Heap.get?_push_size _ rfl⟩
theorem Inv.fresh(I:Inv X pins σ H s):H s.heap.objs.size=none:=I.hok.fresh (Nat.le_refl _)
def Inv.LR(I:Inv X pins σ H s)(hH:H l=some (.lst xs)):xs.length<=sizeLine/\∃(its:List Value) (n:Nat),Vals xs its/\xs.length=its.length/\s.heap.get? l=some {cls:=.type "list",data:=.seq its.toArray n}:=by
 obtain⟨z,its,n,r,e⟩:=I.hok l _ hH
 exact⟨z,its,n,r,r.length,e⟩
end
section
variable{X:Cx}
def jD:V->List V->Hp->VK->Prop:=λx vs H Q=>∃l xs y,x=.ref l/\vs=[y]/\H l=some (.lst xs)/\xs.length<sizeLine/\Q .non (upd H l (.lst (xs ++ [y])))
def Ŷ:Ve X "list.append" jD:=by
 intro pins s σ H x vs v us Q I rx rv h
 obtain⟨l,xs,y,rfl,rfl,hH,hz,q⟩:=h
 cases rx
 obtain⟨u,rfl,ru⟩:=rv.one
 obtain⟨z,its,n,r,hl,e⟩:=I.LR hH
 refine call_meets F.slot_list_append ⟨_,e,rfl⟩ F.entry_list_append (F.args_list_append_2 _ _) (PySem.list_append l its.toArray n u (by rw[List.size_toArray];omega)) ⟨e,?_⟩
 refine⟨.non,_,I.LC (its':=its ++ [u]) hH e (by simp) (r.append (.cons ru .nil)) ?_,rfl,q⟩
 rw[List.length_append,List.length_singleton]
 omega
end
section
variable{prog:Program}{w:World}{A:Around}{E:Value->Shared->Prop}{s:Shared}
end
section
variable{X:Cx}
end
end L2
namespace Rv
open PySem PySem.W PySem.Calls PyProof.Rows
def dM{P:Params}{h:Heap}:∀(ns:List Int) (vs:List Value),WellAll P h vs (ns.map WData.int)->IntsAre vs ns:=by
 intro ns
 induction ns with
 |nil=>
  intro vs w
  rw[List.map_nil] at w
  cases w
  exact .nil
 |cons n ns ih=>
  intro vs w
  rw[List.map_cons] at w
  cases w with
  |cons a b=>
   cases a
   exact .cons _ _ (ih _ b)
def qy{l:OpenLaw}{n:Nat}(hn:l.most=some n){P:Params}{h:Heap}{args:List WData}{vals:List Value}
 (hpre:l.row.toRowW.claim.pre args=true)(hwl:WellAll P h vals args) :
 ∃a vs ns,vals=[Value.ref a]/\args=[WData.list (ns.map WData.int)]/\h.get? a=some {cls:=.type "list",data:=.seq vs.toArray}/\IntsAre vs ns/\ns.length<=n:=by
 have hsh:WShape.hasAll [] args [.list .int]=true:=(pre_splitW hpre).1
 have hc:l.pre.holds [] {args:=args}=true:=(pre_splitW hpre).2
 obtain⟨d,r,rfl,h1,h2⟩:=hasAllW_cons hsh
 obtain rfl:=hasAllW_nil h2
 obtain⟨xs,rfl,h3⟩:=hasW_list h1
 obtain⟨ns,rfl⟩:=items_int h3
 have hlen:ns.length<=n:=by
  unfold OpenLaw.pre at hc
  have h4:(WTm.not (.lt (.lit (.int (n:Int))) (.len (.arg 0)))).holds [] {args:=[.list (ns.map .int)]}=true:=by
   have h4:=(holds_andW hc).1
   rw[hn] at h4
   exact h4
  have h5:=condW_of h4 (w_not (w_lt w_lit (w_len_list (w_arg rfl))))
  rw[List.length_map] at h5
  refine Nat.le_of_not_lt λq=>?_
  have q':(n:Int)<((ns.length:Nat):Int):=by omega
  first
   |(rw[decide_eq_true q'] at h5;exact absurd h5 (by decide))
   |(simp at h5;omega)
 cases hwl with
 |cons w1 w2=>
  cases w2
  cases w1 with
  |list ho hall=>exact⟨_,_,ns,rfl,rfl,ho,dM ns _ hall,hlen⟩
def qz(l:OpenLaw)(args:List WData):l.row.toRowW.claim.post args (.bool true) args=true:=
 postW_of (r:=l.row.toRowW) (X:=(true== true))
  (show WShape.has [] (.bool true) .bool=true by first|rfl|decide|simp[WShape.has,WShape.arms,WShape.armsAll])
  (show(WTm.eq .res (.lit (.bool true))).value [] {args:=args,res:=some (.bool true),after:=args}=some (.bool (true== true)) from w_eq_bool (w_res rfl) w_lit) rfl
def kj{l:OpenLaw}{n:Nat}{q:Program}{loose:List Str}{XP:(Str->Option Value)->Heap->Prop}{YP:World->Heap->Prop}{d:DefRec}
 (hn:l.most=some n)(hdf:d.params.defaults=[])
 (call:∀(w:World) (s₀ s₁:Shared) (mg mb:Str→Option Value) (fa:Addr) (o:Obj) (pm cd doc:Value) (a:Addr) (vs:List Value) (ns:List Int),
   Ground q loose [] XP w s₀ mg mb s₁.heap->YP w s₁.heap->
   s₁.heap.get? fa=some o->o.data=.func (docDef d.name d.params d.body d.scope pm cd doc)->s₁.heap.CodeRec cd d.name->mg d.name=some (.ref fa)->
   s₁.heap.get? a=some {cls:=.type "list",data:=.seq vs.toArray}->IntsAre vs ns->ns.length<=n->s₁.gens= #[]->
   codeAny (model l.prog w) callerA (.call (.ref fa) ⟨[.ref a],[]⟩) (λr s'=>r=.ok (.ret (.bool true))/\OldK s₁.heap s'.heap/\s'.os=s₁.os/\AllBare s'.gens) s₁) :
 WalkO q loose XP YP l.row.toRowW d [] (λf vs=>PySem.call f vs):=by
 intro w s₀ s₁ mg mb G Y fa o pm cd doc dV kV ho hd hcd hD hmg hg args vals as hpre hlay hrd hwl hlo
 obtain rfl:dV=.none:=Dflts.none hD hdf
 obtain rfl:kV=.none:=Dflts.noKw hD
 obtain⟨a,vs,ns,rfl,rfl,hobj,hints,hlen⟩:=qy hn hpre hwl
 refine enter_call (codeAny_mono (call w s₀ s₁ mg mb fa o pm cd doc a vs ns G Y ho (fd_plain hd) hcd hmg hobj hints hlen hg) λr s' hq=>?_)
 obtain⟨rfl,h2,h3,h4⟩:=hq
 exact⟨.inl ⟨.bool true,.bool true,[],rfl,λ_=>rfl,.bool true,qz l _,λ_=>⟨List.Pairwise.nil,λ_ hm=>(nomatch hm)⟩⟩,h2,h3,h4⟩
section
variable{prog:Program}{w:World}{A:Around}{E:Value->Shared->Prop}{s:Shared}{K:Frag}
end
end Rv
namespace L2
open PySem PySem.Spec PyProof.Rows
theorem ŷ:∀{vs:List Value} {ns:List Int},IntsAre vs ns->Vals (ns.map V.int) vs
 |_,_,.nil=>.nil
 |_,_,.cons n t h=>.cons ⟨t,rfl⟩ (ŷ h)
def Only(H:Hp):Prop:=∀b,H b=none\/(∃o xs,H b=some (.ž o (.lst xs)))\/∃q,H b=some (.gQ q)
def aR(K:PySem.W.Frag):List Str->Hp
 | []=>λ_=>none
 |y::r=>λb=>match PySem.W.tabIn K y with
  |some (_,P)=>if b=P then some (.gQ (Ŧ y)) else aR K r b
  |none=>aR K r b
theorem Ŭ{K:PySem.W.Frag}:∀{l:List Str} {b:Addr} {u:HO},aR K l b=some u->∃y c,y∈l/\PySem.W.tabIn K y=some (c,b)/\u=.gQ (Ŧ y)
 | [],_,_,h=>by cases(show(none:Option HO)=some _ from h)
 |y::r,b,u,h=>by
  have h':(match PySem.W.tabIn K y with
   |some (_,P)=>if b=P then some (.gQ (Ŧ y)) else aR K r b
   |none=>aR K r b)=some u:=h
  have rc:aR K r b=some u->∃z c,z∈y::r/\PySem.W.tabIn K z=some (c,b)/\u=.gQ (Ŧ z):=λq=>
   let ⟨z,c,h1,h2,h3⟩:=Ŭ q
   ⟨z,c,List.mem_cons_of_mem _ h1,h2,h3⟩
  cases e:PySem.W.tabIn K y with
  |none=>rw[e] at h';exact rc h'
  |some p=>
   obtain⟨c,P⟩:=p
   rw[e] at h'
   have h2:(if b=P then some (HO.gQ (Ŧ y)) else aR K r b)=some u:=h'
   by_cases hb:b=P
   ·rw[if_pos hb] at h2
    cases h2
    exact⟨y,c,List.mem_cons_self,by rw[hb];exact e,rfl⟩
   ·rw[if_neg hb] at h2
    exact rc h2
theorem oG{K:PySem.W.Frag}{y:Str}{c P:Addr}(e:PySem.W.tabIn K y=some (c,P)):∀{l:List Str},(∀z∈l,z=y)->y∈l->aR K l P=some (.gQ (Ŧ y))
 | [],_,h=>by cases h
 |z::r,h1,_=>by
  have hz:=h1 z List.mem_cons_self
  subst hz
  show(match PySem.W.tabIn K z with
   |some (_,Q)=>if P=Q then some (HO.gQ (Ŧ z)) else aR K r P
   |none=>aR K r P)=_
  rw[e]
  exact if_pos rfl
def rN{P:Program}{w:World}{K:PySem.W.Frag}{mg mb:Str->Option Value}{CX:dJ}{k:Nat}{fa a:Addr}{fd:FuncData}{x:Str}{sp:Sp}{s₁:Shared}{vs:List Value}{ns:List Int}
 (KX:K.In s₁.heap)(hns:s₁.heap.Ns mainGlobals mg)(hb:s₁.heap.Ns builtinsNs mb)(hbb:∀x:Str,x≠ "__name__" ->mb x=bootBuiltins x)(hlim:s₁.heap.NoLimit)(hg:s₁.gens= #[])
 (ha:s₁.heap.get? a=some {cls:=.type "list",data:=.seq vs.toArray})(hi:IntsAre vs ns)(hl:ns.length<=sizeLine)(hr:Ľ k callerA)
 (F:∀base:Heap,K.In base->base.Ns mainGlobals mg->ĸ P w K mg base CX k fa fd [x] sp)(hbind:∀(s:Shared) (u:Value),BindsTo s fd ⟨[u],[]⟩ [(x,u)])
 (hsp:∀H:Hp,Only H->ń K H a (ns.map V.int)->sp [.ref a] H (λv _=>v=.bl true) λ_ _ _=>False)
 (Fp:∀H e s',CX [] H s₁ (λ_ _ _=>False) e s'->False)
 (hnt:lams≠[]->PySem.W.noTabs K=true)(hone:∀y z,y∈lams->z∈lams->y=z)(htb:∀y c Pt,y∈lams->PySem.W.tabIn K y=some (c,Pt)->PySem.W.CodeHd s₁.heap c Pt/\s₁.heap.get? Pt=some (PySem.W.tabObj #[])/\s₁.heap.BuiltinsAt mg Pt) :
 codeAny (model P w) callerA (.call (.ref fa) ⟨[.ref a],[]⟩) (λr s'=>r=.ok (.ret (.bool true))/\OldK s₁.heap s'.heap/\s'.os=s₁.os/\AllBare s'.gens) s₁:= by
 have rv:=ŷ hi
 have lenV:=hi.length
 -- from an abstract heap in which nothing but the script may be tracked
 have core:∀H:Hp,Only H->ń K H a (ns.map V.int)->bU P w H s₁.heap->(∀b,H b≠none->b=a\/∃y c,y∈lams/\PySem.W.tabIn K y=some (c,b))->(H a≠none->K.lookup a=none)->(∀y c Pt,y∈lams->PySem.W.tabIn K y=some (c,Pt)->H Pt=some (.gQ (Ŧ y)))->
  codeAny (model P w) callerA (.call (.ref fa) ⟨[.ref a],[]⟩) (λr s'=>r=.ok (.ret (.bool true))/\OldK s₁.heap s'.heap/\s'.os=s₁.os/\AllBare s'.gens) s₁:= by
  intro H hO hS hok hA hK hT
  have eN:∀{b:Addr} {o:Obj},s₁.heap.get? b=some o->H b=none->(gZ s₁.heap H).get? b=some o:=λe n=>qT e n
  have Fe:∀{b:Addr} {o:Obj} {es:Array DictEntry} {ep:Nat},s₁.heap.get? b=some o->o.data=.dict es ep->H b=none:=fun{b o es ep} e d=>by
   cases q:H b with
   |none=>rfl
   |some u=>
    rcases hA b (by rw[q];simp) with e'|⟨y,c,hy,hty⟩
    ·subst e'
     rw[ha] at e;cases e
     have d':Data.seq vs.toArray _=Data.dict es ep:=d
     cases d'
    ·have e2:=(htb y c b hy hty).2.1
     rw[e] at e2;cases e2;cases d
  have Jk:∀{b:Addr} {m:Str->Option Value},s₁.heap.Ns b m->(gZ s₁.heap H).Ns b m:=fun{b m} ⟨o,es,ep,e,d,r⟩=>⟨o,es,ep,eN e (Fe e d),d,r⟩
  have Rw:K.In (gZ s₁.heap H):=λb o e=>eN (KX b o e) (by
   cases q:H b with
   |none=>rfl
   |some u=>
    rcases hA b (by rw[q];simp) with e'|⟨y,c,hy,hty⟩
    ·subst e'
     rw[hK (by rw[q];simp)] at e;cases e
    ·have e2:=(htb y c b hy hty).2.1
     rw[KX b o e] at e2
     cases e2
     have h2:=List.all_eq_true.mp (hnt (λz=>by rw[z] at hy;cases hy)) (b,_) (PySem.W.mem_of_lookupK e)
     exact absurd (show false=true from h2) Bool.false_ne_true)
  have hM:Mod K mg (gZ s₁.heap H):=⟨Rw,Jk hns,⟨mb,Jk hb,hbb⟩,let ⟨mc,h1,h2⟩:=hlim;⟨mc,Jk h1,h2⟩⟩
  have Vf:TabsOk K mg (gZ s₁.heap H) H:=λy c Pt hy hty=>by
   obtain⟨⟨o,us,file,tf,flags,tg,inF,text,tt,e1,r1,r2⟩,_,bm,ob,b1,b2,b3,b4,b5,b6,b7⟩:=htb y c Pt hy hty
   refine⟨⟨o,us,file,tf,flags,tg,inF,text,tt,eN e1 ?_,r1,r2⟩,hT y c Pt hy hty,bm,ob,b1,b2,b3,b4,eN b5 ?_,b6,b7⟩
   rotate_left
   ·cases q:H bm with
    |none=>rfl
    |some u=>
     rcases hA bm (by rw[q];simp) with e'|⟨z,c2,hz,L_⟩
     ·rw[e',ha] at b5;cases b5;exact absurd (Value.type.inj b6) (by decide)
     ·have e2:=(htb z c2 bm hz L_).2.1
      rw[b5] at e2;cases e2;cases b6
   cases q:H c with
   |none=>rfl
   |some u=>
    rcases hA c (by rw[q];simp) with e'|⟨z,c2,hz,L_⟩
    ·rw[e',ha] at e1;cases e1;exact absurd (Value.type.inj r1) (by decide)
    ·have e2:=(htb z c2 c hz L_).2.1
     rw[e1] at e2;cases e2;cases r1
  have e0:wJ P w K mg (gZ s₁.heap H) callerA [] s₁ H:=⟨rfl,hM,λb o e=>vW e,Nat.le_of_eq (qb _ _),trivial,λb hb=>absurd (show b∈([]:List Addr) from hb) (by simp),hok,.of_eq hg,Vf⟩
  refine codeAny_mono ((F _ Rw (Jk hns)).run callerA [] s₁ H ⟨[.ref a],[]⟩ [.ref a] [.ref a] _ _ hr e0 (hbind s₁ (.ref a)) (.cons rfl .nil) (hsp H hO hS)) λr s' h=>?_
  cases r with
  |error e=>exact(Fp H e s' h).elim
  |ok fl=>
   cases fl with
   |next=>exact False.elim h
   |brk=>exact False.elim h
   |cont=>exact False.elim h
   |ret u=>
    obtain⟨v,H',os,bare,un,hok',r',q⟩:=h
    have q':v=.bl true:=q
    subst q'
    obtain rfl:u=Value.bool true:=r'
    have old:∀b o,s₁.heap.get? b=some o->(∀t,H b≠some (.gQ t))->s'.heap.get? b=some o:=?_
    ·refine⟨rfl,⟨λb o e=>?_,λb o e=>?_⟩,os,bare⟩
     ·by_cases ht:∃t,H b=some (.gQ t)
      ·obtain⟨t,ht⟩:=ht
       obtain⟨ps,e1,_⟩:=hok' b _ (un.dH b t ht)
       rcases hA b (by rw[ht];simp) with e'|⟨y,c,hy,hty⟩
       ·subst e'
        obtain⟨ps2,e3,_⟩:=hok b _ ht
        rw[ha] at e3;cases e3
       ·obtain⟨⟨o2,us,file,tf,flags,tg,inF,text,tt,f1,f2,f3,f4,_⟩,e2,_⟩:=htb y c b hy hty
        rw[e] at e2;cases e2
        exact .inr (.inl ⟨⟨c,o2,us,f1,f2,f3,f4⟩,rfl,#[],ps,rfl,by rw[e1];simp⟩)
      ·exact .inl (old b o e λt z=>ht ⟨t,z⟩)
     ·by_cases ht:∃t,H b=some (.gQ t)
      ·obtain⟨t,ht⟩:=ht
       obtain⟨ps,e1,_⟩:=hok' b _ (un.dH b t ht)
       exact⟨_,e1⟩
      ·exact⟨o,old b o e λt z=>ht ⟨t,z⟩⟩
    intro b o e nt
    cases q:H b with
    |none=>exact un.keep b o e q (by intro z;exact absurd (show b∈([]:List Addr) from z) (by simp)) (by simp)
    |some u=>
     rcases hO b with z|⟨ob,xs,z⟩|⟨t,z⟩
     ·rw[q] at z;cases z
     rotate_left
     ·exact absurd z (nt t)
     ·have z2:=un.gY b ob _ z
      obtain⟨e1,_⟩:=hok b _ z
      obtain⟨e2,_⟩:=hok' b _ z2
      rw[e] at e1;cases e1
      exact e2
 cases hk:K.lookup a with
 |some o=>
  -- the script is one of the module's own objects
  have e:=KX a o hk
  rw[ha] at e
  cases e
  refine core (aR K lams) (λb=>?_) (.inr ⟨_,vs.toArray,_,hk,rfl,rfl,rfl,by rw[List.size_toArray,lenV];exact hl,by simpa using rv⟩) (λb u z=>?_) (λb z=>?_) (λz=>?_) λy c Pt hy hty=>oG hty (λz hz=>hone z y hz hy) hy
  ·cases q:aR K lams b with
   |none=>exact .inl rfl
   |some u=>obtain⟨y,c,_,_,rfl⟩:=Ŭ q;exact .inr (.inr ⟨_,rfl⟩)
  ·obtain⟨y,c,hy,hty,rfl⟩:=Ŭ z
   exact⟨#[],(htb y c b hy hty).2.1,trivial,λpos cv z=>by cases z⟩
  ·cases q:aR K lams b with
   |none=>exact absurd q z
   |some u=>obtain⟨y,c,hy,hty,_⟩:=Ŭ q;exact .inr ⟨y,c,hy,hty⟩
  ·cases q:aR K lams a with
   |none=>exact absurd q z
   |some u=>
    obtain⟨y,c,hy,hty,_⟩:=Ŭ q
    have e2:=(htb y c a hy hty).2.1
    rw[ha] at e2;cases e2
 |none=>
  refine core (λb=>if b=a then some (.ž {cls:=.type "list",data:=.seq vs.toArray} (.lst (ns.map V.int))) else aR K lams b) (λb=>?_) (.inl (.inr ⟨{cls:=.type "list",data:=.seq vs.toArray},if_pos rfl⟩)) (λb u z=>?_) (λb z=>?_) (λ_=>hk) λy c Pt hy hty=>?_
  ·by_cases hb:b=a
   ·exact .inr (.inl ⟨_,_,if_pos hb⟩)
   ·cases q:aR K lams b with
    |none=>exact .inl ((if_neg hb).trans q)
    |some u=>obtain⟨y,c,_,_,rfl⟩:=Ŭ q;exact .inr (.inr ⟨_,(if_neg hb).trans q⟩)
  ·by_cases hb:b=a
   ·have z':=(if_pos hb).symm.trans z
    cases z'
    subst hb
    exact⟨ha,by rw[List.length_map];exact hl,vs,_,rv,ha⟩
   ·have z':=(if_neg hb).symm.trans z
    obtain⟨y,c,hy,hty,rfl⟩:=Ŭ z'
    exact⟨#[],(htb y c b hy hty).2.1,trivial,λpos cv z=>by cases z⟩
  ·by_cases hb:b=a
   ·exact .inl hb
   ·cases q:aR K lams b with
    |none=>exact absurd ((if_neg hb).trans q) z
    |some u=>obtain⟨y,c,hy,hty,_⟩:=Ŭ q;exact .inr ⟨y,c,hy,hty⟩
  ·have ne:Pt≠a:=fun z=>by
    subst z
    have e2:=(htb y c _ hy hty).2.1
    rw[ha] at e2;cases e2
   exact(if_neg ne).trans (oG hty (λz hz=>hone z y hz hy) hy)
end L2
namespace L2
open PySem PySem.Spec PyProof.Rows
def wO{p:Program}{loose:List Str}{mean:ExcName->Option Value}{mg mb:Str->Option Value}{h:Heap}{K:PySem.W.Frag}{d:DefRec}{x:Str}{c P:Addr}(T:Top p loose mean mg mb h)(X:K.In h)(hr:(recsOf p).find? (λe=>e.name== x)=some d)(ht:PySem.W.tabIn K x=some (c,P)) :
 PySem.W.CodeHd h c P/\h.get? P=some (PySem.W.tabObj #[])/\h.BuiltinsAt mg P:=by
 obtain⟨h1,h2⟩:=PySem.W.tab_of T X hr ht
 obtain⟨bm,ob,b1,b2,b3,b4,b5,b6⟩:=T.bmain
 have hbP:bm≠P:=λq=>by rw[q,h2] at b3;cases b3;cases b4
 have hbG:bm≠mainGlobals:=λq=>by
  obtain⟨o,es,ep,e,hd,_⟩:=T.g
  rw[q,e] at b3;cases b3;rw[hd] at b6;cases b6
 exact⟨h1,h2,bm,ob,b1,b2,hbG,hbP,b3,b4,b5,b6⟩
def wQ{l:PySem.W.OpenLaw}{n k:Nat}{q:Program}{loose:List Str}{XP:(Str->Option Value)->Heap->Prop}{YP:World->Heap->Prop}{d:DefRec}{K:Params->PySem.W.Frag}{CX:World->dJ}{sp:World->Sp}{x:Str}
 (hn:l.most=some n)(hn2:n<=sizeLine)(hdf:d.params.defaults=[])(hr:Ľ k callerA)
 (hY:∀(w:World) (h:Heap),YP w h->(K w.params).In h)
 (F:∀(w:World) (mg:Str→Option Value) (fa:Addr) (h:Heap),(K w.params).In h→h.Ns mainGlobals mg→mg d.name=some (.ref fa)→
   ∃fd:FuncData,(∀(s:Shared) (u:Value),BindsTo s fd ⟨[u],[]⟩ [(x,u)])/\
    ∀base:Heap,(K w.params).In base->base.Ns mainGlobals mg->ĸ l.prog w (K w.params) mg base (CX w) k fa fd [x] (sp w))
 (hsp:∀(w:World) (H:Hp) (a:Addr) (ns:List Int),ns.length<=n->Only H->ń (K w.params) H a (ns.map V.int)->sp w [.ref a] H (λv _=>v=.bl true) λ_ _ _=>False)
 (Fp:∀(w:World) (H:Hp) (s:Shared) (e:Value) (s':Shared),CX w [] H s (λ_ _ _=>False) e s'->False)
 (hnt:lams≠[]->∀w:World,PySem.W.noTabs (K w.params)=true:=by intro z;exact absurd rfl z)(hone:∀y z,y∈lams->z∈lams->y=z:=by simp[lams])(hrec:∀y,y∈lams->∃d,(recsOf q).find? (λe=>e.name== y)=some d:=by simp[lams]) :
 PySem.W.WalkO q loose XP YP l.row.toRowW d [] (λf vs=>PySem.call f vs):=by
 refine Rv.kj hn hdf λw s₀ s₁ mg mb fa o pm cd doc a vs ns G Y ho hd hcd hmg hobj hints hlen hg=>?_
 have KX:=hY w _ Y
 obtain⟨fd,hb,hF⟩:=F w mg fa _ KX G.T.g hmg
 exact rN KX G.T.g G.T.b G.T.builtins G.T.nolimit hg hobj hints (Nat.le_trans hlen hn2) hr hF hb (λH hO hS=>hsp w H a ns hlen hO hS) (λH e s'=>Fp w H s₁ e s') (λz=>hnt z w) hone λy c Pt hy hty=>let ⟨_,hr'⟩:=hrec y hy;wO G.T KX hr' hty
end L2
namespace L2
open PySem PySem.Spec PyProof.Rows
def ı(s:Stmt):Arguments:=match s with
 | .FunctionDef _ a _ _ _ _ _ _ _ _=>a
 |_=> {posonlyargs:=[],args:=[],vararg:=none,kwonlyargs:=[],kw_defaults:=[],kwarg:=none,defaults:=[]}
def Ġ(s:Stmt):List Stmt:=match s with
 | .FunctionDef _ _ b _ _ _ _ _ _ _=>b
 |_=>[]
def ă(s:Stmt):Scope:=match s with
 | .FunctionDef _ _ _ _ _ _ sc _ _ _=>sc
 |_=> {kind:=.function,names:=[],isGenerator:=false,isCoroutine:=false}
abbrev iV:dJ:=λ_ _ _ _ _ _=>False
structure fM(K:PySem.W.Frag)(x qual:Str)(st:Stmt)(f:Addr)(fd:FuncData):Prop where
 ex:∃(oc:Value) (od:Option Addr) (kV doc pm:Value) (an:Option Addr) (cdv ct:Value) (osl:Array (Option Value)),
   fd=PySem.W.fnOf x qual (ı st) (Ġ st) (ă st) .none kV doc pm an cdv ct/\K.lookup f=some ⟨oc,od,.func fd,osl⟩/\PySem.W.codeIn K cdv qual=true
 kp:PySem.W.keepIn K (.ref f)=true
section
variable{P:Program}{w:World}{K:PySem.W.Frag}{mg:Str->Option Value}{base:Heap}
def fM.binds{x qual:Str}{st:Stmt}{f:Addr}{fd:FuncData}{ps:List Str}(F:fM K x qual st f fd)
 (h:∀(kV doc pm:Value) (an:Option Addr) (cdv ct:Value) (us:List Value),us.length=ps.length->bindArgs (PySem.W.fnOf x qual (ı st) (Ġ st) (ă st) .none kV doc pm an cdv ct) ⟨us,[]⟩=pure (ps.zip us)):Binds K fd ps []:=by
 obtain⟨oc,od,kV,doc,pm,an,cdv,ct,osl,rfl,lk,hcd⟩:=F.ex
 exact .all (h kV doc pm an cdv ct)
def ŉ{x qual:Str}{st:Stmt}{f:Addr}{oc:Value}{od an:Option Addr}{osl:Array (Option Value)}{kV doc pm cdv ct:Value}(l:K.lookup f=some ⟨oc,od,.func (PySem.W.fnOf x qual (ı st) (Ġ st) (ă st) .none kV doc pm an cdv ct),osl⟩)
 (c:PySem.W.codeIn K cdv qual=true)(k:PySem.W.keepIn K (.ref f)=true):fM K x qual st f (PySem.W.fnOf x qual (ı st) (Ġ st) (ă st) .none kV doc pm an cdv ct):=⟨⟨oc,od,kV,doc,pm,an,cdv,ct,osl,rfl,l,c⟩,k⟩
end
section
variable{X:Cx}
def pv(i:Nat){x:Str}{pos:Pos}(hN:X.N[i]?=some x:=by rfl)(hv:lV X.env.scope x:=by first|exact Or.inl rfl|exact Or.inr (Or.inl rfl)|exact Or.inr (Or.inr rfl))(hd:(x== ("__debug__" :Str))=false:=by decide)
 (hcd:(x== ("__classdict__" :Str))=false:=by decide):PE X (.Name x pos) (lX i):=ŧ hN hv hd hcd
end
def Same(H H':Hp):Prop:=∀b o,H b=some o->H' b=some o
def Same.refl(H:Hp):Same H H:=λ_ _ h=>h
def Same.trans{H H1 H2:Hp}(a:Same H H1)(b:Same H1 H2):Same H H2:=λc o h=>b c o (a c o h)
def Same.free{H H':Hp}(e:Same H H'){l:Addr}(h:H' l=Option.none):H l=Option.none:=by
 cases q:H l with
 |none=>rfl
 |some o=>
  rw[e l o q] at h
  cases h
def Same.seq{K:PySem.W.Frag}{H H':Hp}{a:Addr}{xs:List V}(e:Same H H')(h:ń K H a xs):ń K H' a xs:=by
 rcases h with(h|⟨o,h⟩)|h
 ·exact .inl (.inl (e _ _ h))
 ·exact .inl (.inr ⟨o,e _ _ h⟩)
 ·exact .inr h
end L2
namespace M2
open PySem PySem.Spec PyProof.Rows L2
section
variable{X:Cx}{a b c e:Expr}{ta tb tc te:TE}{pos:Pos}
def PE.wk{t t':TE}(h:PE X e t)(i:∀σ H Q,t' σ H Q->t σ H Q):PE X e t':=λpins s σ H Q I q=>h pins s σ H Q I (i σ H Q q)
def PS.wk{st:Stmt}{t t':TS}(h:PS X st t)(i:∀D σ H,t' D σ H->t D σ H):PS X st t':=λpins s σ H D I q=>h pins s σ H D I (i D σ H q)
def ľ.wk{f:Value->Value->Sem Value}{r r':R2}(h:ľ X f r)(i:∀x y H Q,r' x y H Q->r x y H Q):ľ X f r':=λpins s σ H x y v u Q I rx ry q=>h pins s σ H x y v u Q I rx ry (i x y H Q q)
def wD.wk{f:Value->Sem Value}{r r':V->Hp->VK->Prop}(h:wD X f r)(i:∀x H Q,r' x H Q->r x H Q):wD X f r':=λpins s σ H x v Q I rx q=>h pins s σ H x v Q I rx (i x H Q q)
def ū.wk{f:Value}{r r':List V->Hp->VK->Prop}(h:ū X f r)(i:∀xs H Q,r' xs H Q->r xs H Q):ū X f r':=λpins s σ H xs us Q I r q=>h pins s σ H xs us Q I r (i xs H Q q)
def mG.wk{r r':R2}(h:mG X r)(i:∀x y H Q,r' x y H Q->r x y H Q):mG X r':=λva sl pins s σ H x y v u Q I rx ry q=>h va sl pins s σ H x y v u Q I rx ry (i x y H Q q)
def A_(i:Nat):TE:=λσ H Q=>match σ[i]? with
 |some (some v)=>Q v H
 |_=>False
def wR{i:Nat}{σ:L2.St}{H:Hp}{Q:VK}(h:A_ i σ H Q):lX i σ H Q:=by
 unfold A_ at h
 split at h
 ·exact⟨_,by assumption,h⟩
 ·exact h.elim
def mv(i:Nat){x:Str}{pos:Pos}(hN:X.N[i]?=some x:=by rfl)(hv:lV X.env.scope x:=by first|exact Or.inl rfl|exact Or.inr (Or.inl rfl)|exact Or.inr (Or.inr rfl))(hd:(x== ("__debug__" :Str))=false:=by decide)
 (hcd:(x== ("__classdict__" :Str))=false:=by decide):PE X (.Name x pos) (A_ i):=PE.wk (ŧ hN hv hd hcd) λ_ _ _ h=>wR h
def Fq(x:V)(k:Bool->Prop):Prop:=match x with
 | .bl c=>k c
 |_=>False
def fO{x:V}{k:Bool->Prop}(h:Fq x k):∃c,x=.bl c/\k c:=by
 cases x with
 |bl c=>exact⟨c,rfl,h⟩
 |_=>exact h.elim
def rP(t:TE):TT:=λσ H Q=>t σ H λx H1=>Fq x λc=>Q c H1
def Ba{op:CmpOp}{r:R2}(ho:ľ X (compareOp op) r)(ha:PE X a ta)(hb:PE X b tb)(hm:behindInMarks op b=false):PT X (.Compare a [op] [b] pos) (rP (z_ r ta tb)):=by
 intro pins s σ H Q I h
 refine wpAny_isTrue_Compare1 (Ļ (ha pins s σ H _ I h) λv s1 ⟨x,H1,I1,r1,q1⟩=>Ļ (hb pins s1 σ H1 _ I1 q1) λu s2 ⟨y,H2,I2,r2,q2⟩=>
  Ļ (ho pins s2 σ H2 x y v u _ I2 r1 r2 q2) λc s3 ⟨z,H3,I3,r3,q3⟩=>?_) hm
 obtain⟨k,e,q3⟩:=fO q3
 subst e
 cases r3
 exact wpAny_truthy_bool ⟨H3,I3,q3⟩
def rQ(r r':R2)(ta tb tc:TE):TE:=λσ H Q=>ta σ H λx H1=>tb σ H1 λy H2=>r x y H2 λz H3=>Fq z λk=>
 (if k=true then tc σ H3 λw' H4=>r' y w' H4 Q else Q (.bl false) H3)
def rT{op op':CmpOp}{r r':R2}(ho:ľ X (compareOp op) r)(ho':ľ X (compareOp op') r')(ha:PE X a ta)(hb:PE X b tb)(hc:PE X c tc)
 (hm:lastMarks [op,op'] [b,c]=false:=by with_unfolding_all rfl):PT X (.Compare a [op,op'] [b,c] pos) (rP (rQ r r' ta tb tc)):=by
 intro pins s σ H Q I h
 refine isTrue_chain (Ļ (ha pins s σ H _ I h) λv s1 ⟨x,H1,I1,r1,q1⟩=>test_link (Ļ (hb pins s1 σ H1 _ I1 q1) λu s2 ⟨y,H2,I2,r2,q2⟩=>
  Ļ (ho pins s2 σ H2 x y v u _ I2 r1 r2 q2) λd s3 ⟨z,H3,I3,r3,q3⟩=>?_)) hm
 obtain⟨k,e,q3⟩:=fO q3
 subst e
 cases r3
 refine wpAny_truthy_bool ?_
 cases k with
 |false=>exact ite_ff ⟨H3,I3,q3⟩
 |true=>
  refine ite_tt (test_last (Ļ (hc pins s3 σ H3 _ I3 q3) λw' s4 ⟨z',H4,I4,r4,q4⟩=>Ļ (ho' pins s4 σ H4 y z' u w' _ I4 r2 r4 q4) λd' s5 ⟨z2,H5,I5,r5,q5⟩=>?_))
  obtain⟨k2,e2,q5⟩:=fO q5
  subst e2
  cases r5
  exact wpAny_truthy_bool ⟨H5,I5,q5⟩
def Ft(ta tb:TE):TE:=λσ H Q=>ta σ H λx H1=>Fq x λc=>if c=true then tb σ H1 Q else Q (.bl false) H1
def Fv(ta:TE):TE:=λσ H Q=>ta σ H λx H1=>Fq x λc=>Q (.bl (!c)) H1
variable{rest:List Expr}
def Bb(ha:PE X a ta)(hb:PE X (.BoolOp .And (b::rest) pos) tb):PE X (.BoolOp .And (a::b::rest) pos) (Ft ta tb):=by
 intro pins s σ H Q I h
 refine BoolOp_and (Ļ (ha pins s σ H _ I h) λv s1 ⟨x,H1,I1,r1,q1⟩=>?_)
 obtain⟨c,rfl,q1⟩:=fO q1
 cases r1
 refine wpAny_truthy_bool ?_
 cases c with
 |true=>exact hb pins s1 σ H1 Q I1 q1
 |false=>exact⟨.bl false,H1,I1,rfl,q1⟩
def Bc(ha:PE X a ta):PE X (.UnaryOp .Not a pos) (Fv ta):=by
 intro pins s σ H Q I h
 refine UnaryOp_ (Ļ (ha pins s σ H _ I h) λv s1 ⟨x,H1,I1,r1,q1⟩=>?_)
 obtain⟨c,rfl,q1⟩:=fO q1
 cases r1
 exact not_of (wpAny_truthy_bool ⟨.bl (!c),H1,I1,rfl,q1⟩)
def mI(C:Int->Int->Prop)(g:Int->Int->V):R2:=λx y H Q=>match x,y with
 | .int i,.int j=>C i j/\Q (g i j) H
 |_,_=>False
def mH(g:Int->Int->V):R2:=λx y H Q=>match x,y with
 | .int i,.int j=>Q (g i j) H
 |_,_=>False
def iW{C:Int->Int->Prop}{g:Int->Int->V}(x y:V)(H:Hp)(Q:VK)(h:mI C g x y H Q):rI C g x y H Q:=by
 cases x with
 |int i=>
  cases y with
  |int j=>exact⟨i,j,rfl,rfl,h.1,h.2⟩
  |_=>exact h.elim
 |_=>exact h.elim
def cP{g:Int->Int->V}(x y:V)(H:Hp)(Q:VK)(h:mH g x y H Q):vV g x y H Q:=by
 cases x with
 |int i=>
  cases y with
  |int j=>exact⟨i,j,rfl,rfl,h⟩
  |_=>exact h.elim
 |_=>exact h.elim
def Fw:R2:=λx y H Q=>match x,y with
 | .int i,.int j=>Q (.int (i+j)) H
 | .str i,.str j=>i.length+j.length<=sizeLine/\Q (.str (i++j)) H
 |_,_=>False
def Bd:ľ X (binaryOp .Add) Fw:=ľ.wk (Ad.or mz) λx y H Q h=>by
 cases x with
 |int i=>
  cases y with
  |int j=>exact .inl ⟨i,j,rfl,rfl,h⟩
  |_=>exact h.elim
 |str i=>
  cases y with
  |str j=>exact .inr ⟨i,j,rfl,rfl,h.1,h.2⟩
  |_=>exact h.elim
 |_=>exact h.elim
def Bf:ľ X (binaryOp .Sub) (mH λi j=>.int (i-j)):=ľ.wk Ae cP
def iY(i j:Int):Prop:=Ac i j\/(Builtin.Int.intBits i<=1048576/\Builtin.Int.intBits j<=1048576)
theorem iY.ok{i j:Int}(h:iY i j):IntMulOk i j:=by
 rcases h with h|⟨h1,h2⟩
 ·exact h.ok
 ·exact IntMulOk.of_le h1 h2 (by decide)
def Bg:ľ X (binaryOp .Mult) (mI iY λi j=>.int (i*j)):=ľ.wk (ou (C:=iY) (g:=λi j=>i*j) λ_ _ _ _ _ _ _ hc q=>mul_int q hc.ok) iW
def qC(_ j:Int):Prop:=j≠0/\Builtin.Int.intBits j<=8000
def qC.py{i j:Int}(h:qC i j):Builtin.divisionGoesByPylong i j=false:=by
 refine PyProof.noPylong_of_log2 ?_
 have hb:=intBits_le_iff.mp h.2
 have h0:j.natAbs≠0:=by have:=h.1;omega
 exact Nat.lt_of_lt_of_le ((Nat.log2_lt h0).mpr hb) (by decide)
def Ŀ:ľ X (binaryOp .FloorDiv) (mI qC λi j=>.int (i.fdiv j)):=ľ.wk (ou (C:=qC) (g:=λi j=>i.fdiv j) λ_ _ _ _ _ _ _ hc q=>floordiv_int hc.1 q (.inl hc.py)) iW
def į:ľ X (binaryOp .Mod) (mI (λ_ j=>j≠0) λi j=>.int (i.fmod j)):=ľ.wk wF iW
def Bh:ľ X (binaryOp .Pow) (mI qm λi j=>.int (i ^ j.toNat)):=ľ.wk Af iW
def yI:ľ X (compareOp .Lt) (mH λi j=>.bl (decide (i<j))):=ľ.wk E_ cP
def Fx:ľ X (compareOp .LtE) (mH λi j=>.bl (decide (i<=j))):=ľ.wk Fb cP
def Fy:ľ X (compareOp .Gt) (mH λi j=>.bl (decide (j<i))):=ľ.wk Fd cP
def mU(g:Int->V):V->Hp->VK->Prop:=λx H Q=>match x with
 | .int i=>Q (g i) H
 |_=>False
def jE:wD X (unaryOp .USub) (mU λi=>.int (-i)):=wD.wk Aj λx H Q h=>by
 cases x with
 |int i=>exact⟨i,rfl,h⟩
 |_=>exact h.elim
def Bj(K:PySem.W.Frag):List V->Hp->VK->Prop:=λxs H Q=>match xs with
 | [.str y]=>y.length<=sizeLine/\Q (.int (y.length:Int)) H
 | [.ref p]=>∃ys,(ń K H p ys\/Ų K H p ys)/\Q (.int (ys.length:Int)) H
 |_=>False
def aj:ū X (.builtin "len") (Bj X.K):=ū.wk rD λxs H Q h=>by
 unfold Bj at h
 split at h
 ·exact⟨_,_,rfl,⟨h.1,rfl⟩,h.2⟩
 ·obtain⟨ys,h1,h2⟩:=h
  refine⟨_,ys.length,rfl,?_,h2⟩
  rcases h1 with h1|h1
  ·exact .inl ⟨ys,h1,rfl⟩
  ·exact .inr ⟨ys,h1,rfl⟩
 ·exact h.elim
def Rx(K:PySem.W.Frag):R2:=λx y H Q=>match x,y with
 | .ref p,.int i=>∃xs v,(ń K H p xs\/Ų K H p xs)/\fL xs i=some v/\Q v H
 | .str z,.int i=>∃c,z.length<=sizeLine/\fL z.cps.toList i=some c/\Q (.str ⟨#[c]⟩) H
 |_,_=>False
def Ħ:mG X (Rx X.K):=mG.wk rK λx y H Q h=>by
 cases x with
 |ref p=>
  cases y with
  |int i=>
   obtain⟨xs,v,h1,h2,h3⟩:=h
   rcases h1 with h1|h1
   ·exact .inl ⟨p,xs,i,v,rfl,rfl,h1,h2,h3⟩
   ·exact .inr (.inl ⟨p,xs,i,v,rfl,rfl,h1,h2,h3⟩)
  |_=>exact h.elim
 |str z=>
  cases y with
  |int i=>
   obtain⟨c,h1,h2,h3⟩:=h
   exact .inr (.inr ⟨z,i,c,rfl,rfl,h1,h2,h3⟩)
  |_=>exact h.elim
 |_=>exact h.elim
end
end M2
namespace M2
open PySem PySem.Spec PyProof.Rows L2
section
variable{X:Cx}{tg:Expr}
end
mutual
def Rp(K:PySem.W.Frag)(H:Hp):PyData->V->Prop
 | .none,v=>v=.non
 | .bool b,v=>v=.bl b
 | .int i,v=>v=.int i
 | .str x,v=>v=.str x
 | .tuple ds,v=>∃a xs,v=.ref a/\Ų K H a xs/\gR K H ds xs
 | .list ds,v=>∃a xs,v=.ref a/\ń K H a xs/\gR K H ds xs
 | .dict _,_=>False
def gR(K:PySem.W.Frag)(H:Hp):List PyData->List V->Prop
 | [],xs=>xs=[]
 |d::ds,xs=>∃x r,xs=x::r/\Rp K H d x/\gR K H ds r
end
def Same.tup{K:PySem.W.Frag}{H H':Hp}{a:Addr}{xs:List V}(e:Same H H')(h:Ų K H a xs):Ų K H' a xs:=by
 rcases h with(h|⟨o,h⟩)|h
 ·exact .inl (.inl (e _ _ h))
 ·exact .inl (.inr ⟨o,e _ _ h⟩)
 ·exact .inr h
theorem Same.upd{H:Hp}{p:Addr}{o:HO}(h:H p=none):Same H (upd H p o):=λb u e=>by
 rw[ć (Ĕ e h)]
 exact e
mutual
theorem Rp.same{K:PySem.W.Frag}{H H':Hp}(e:Same H H'):∀(d:PyData) (v:V),Rp K H d v->Rp K H' d v
 | .none,_,h=>by unfold Rp at h ⊢;exact h
 | .bool _,_,h=>by unfold Rp at h ⊢;exact h
 | .int _,_,h=>by unfold Rp at h ⊢;exact h
 | .str _,_,h=>by unfold Rp at h ⊢;exact h
 | .tuple ds,_,h=>by
   unfold Rp at h ⊢
   obtain⟨a,xs,h1,h2,h3⟩:=h
   exact⟨a,xs,h1,Same.tup e h2,gR.same e ds xs h3⟩
 | .list ds,_,h=>by
   unfold Rp at h ⊢
   obtain⟨a,xs,h1,h2,h3⟩:=h
   exact⟨a,xs,h1,e.seq h2,gR.same e ds xs h3⟩
 | .dict _,_,h=>by unfold Rp at h;exact h.elim
theorem gR.same{K:PySem.W.Frag}{H H':Hp}(e:Same H H'):∀(ds:List PyData) (xs:List V),gR K H ds xs->gR K H' ds xs
 | [],_,h=>by unfold gR at h ⊢;exact h
 |d::ds,_,h=>by
  unfold gR at h ⊢
  obtain⟨x,r,h1,h2,h3⟩:=h
  exact⟨x,r,h1,Rp.same e d x h2,gR.same e ds r h3⟩
end
section
variable{X:Cx}{pins:List (Addr×Obj)}{σ:L2.St}{H:Hp}{s:Shared}
mutual
theorem Rp.reads(I:Inv X pins σ H s):∀(d:PyData) (v:V) (u:Value),Rp X.K H d v->RelV v u->∃as,Reads s.heap u d as
 | .none,v,u,h,r=>by
   unfold Rp at h;subst h;cases r;exact⟨_,.none⟩
 | .bool b,v,u,h,r=>by
   unfold Rp at h;subst h;cases r;exact⟨_,.bool b⟩
 | .int i,v,u,h,r=>by
   unfold Rp at h;subst h;obtain⟨t,rfl⟩:=r;exact⟨_,.int i t⟩
 | .str x,v,u,h,r=>by
   unfold Rp at h;subst h;obtain⟨t,rfl⟩:=r;exact⟨_,.str x t⟩
 | .tuple ds,v,u,h,r=>by
   unfold Rp at h
   obtain⟨a,xs,h1,h2,h3⟩:=h
   subst h1
   cases r
   obtain⟨its,rv,⟨o,e,hc,n,hd⟩,hz⟩:=I.tuple h2
   obtain⟨as,ra⟩:=gR.reads I ds xs its h3 rv
   exact⟨_,.tuple e hc hd (by simpa using ra)⟩
 | .list ds,v,u,h,r=>by
   unfold Rp at h
   obtain⟨a,xs,h1,h2,h3⟩:=h
   subst h1
   cases r
   obtain⟨its,rv,⟨o,n,e,hc,hdd,hd⟩,hz⟩:=I.list h2
   obtain⟨as,ra⟩:=gR.reads I ds xs its h3 rv
   exact⟨_,.list e hc hd (by simpa using ra)⟩
 | .dict _,_,_,h,_=>by unfold Rp at h;exact h.elim
theorem gR.reads(I:Inv X pins σ H s):∀(ds:List PyData) (xs:List V) (us:List Value),gR X.K H ds xs->Vals xs us->∃as,ReadsAll s.heap us ds as
 | [],xs,us,h,r=>by
   unfold gR at h;subst h;cases r;exact⟨_,.nil⟩
 |d::ds,xs,us,h,r=>by
  unfold gR at h
  obtain⟨x,q,h1,h2,h3⟩:=h
  subst h1
  cases r with
  |cons r1 r2=>
   obtain⟨as,ra⟩:=Rp.reads I d x _ h2 r1
   obtain⟨bs,rb⟩:=gR.reads I ds q _ h3 r2
   exact⟨_,.cons ra rb⟩
end
end
def wU(K:PySem.W.Frag)(neg:Bool):R2:=λx y H Q=>∃d e,Rp K H d x/\Rp K H e y/\d.canLay0=true/\e.canLay0=true/\min d.depth e.depth<=60/\Q (.bl (if neg then !PyData.eqv d e else PyData.eqv d e)) H
section
variable{X:Cx}
def Ŏ(hu:X.A.units+64<cLine):ľ X (compareOp .Eq) (wU X.K false):=by
 intro pins s σ H x y v u Q I rx ry h
 obtain⟨d,e,h1,h2,h3,h4,h5,q⟩:=h
 obtain⟨as,ra⟩:=Rp.reads I d x v h1 rx
 obtain⟨bs,rb⟩:=Rp.reads I e y u h2 ry
 exact SeqAt.compareEq_reads ra rb h3 h4 (by omega) ⟨.bl _,H,I,rfl,q⟩
def cQ(hu:X.A.units+64<cLine):ľ X (compareOp .NotEq) (wU X.K true):=by
 intro pins s σ H x y v u Q I rx ry h
 obtain⟨d,e,h1,h2,h3,h4,h5,q⟩:=h
 obtain⟨as,ra⟩:=Rp.reads I d x v h1 rx
 obtain⟨bs,rb⟩:=Rp.reads I e y u h2 ry
 exact SeqAt.compareNe_reads ra rb h3 h4 (by omega) ⟨.bl _,H,I,rfl,q⟩
end
section
variable{K:PySem.W.Frag}
end
end M2
namespace M3
open PySem PySem.Spec PyProof.Rows L2 M2
def oH{P:Program}{w:World}{H:Hp}{h h':Heap}{C:Addr}(x:bU P w H h)(hC:H C=none)(k:∀b u,b≠C->h.get? b=some u->h'.get? b=some u):bU P w H h':=λa o e=>
 (x a o e).stay (fun b u hb q=>k b u (by
   rcases hb with hb|hb
   ·rw[hb];exact Ĕ e hC
   ·exact Ĕ hb hC) q) (λ_ q=>q) λ_ _ q=>q
theorem bO{env:Env}:∀(ns:List (Str×NameKind)) (cs:List (Str×Addr)),(∀y∈ns,y.2=.free->∃c,env.cells.lookup y.1=some c)->(∀x c,cs.lookup x=some c->env.cells.lookup x=some c)->
 ∃cl,(forIn ns cs (λ(x:Str×NameKind) r=>if(x.2== .free)=true then(do let c <-cellOf env x.1;pure (ForInStep.yield ((x.1,c)::r))) else pure (ForInStep.yield r)):Sem (List (Str×Addr)))=pure cl/\
  (∀x c,cl.lookup x=some c->env.cells.lookup x=some c)/\(∀x,(∃c,cs.lookup x=some c)->∃c,cl.lookup x=some c)/\∀y∈ns,y.2=.free->∃c,cl.lookup y.1=some c
 | [],cs,_,h2=>⟨cs,rfl,h2,λ_ z=>z,λ_ z=>nomatch z⟩
 |(n,k)::ns,cs,h1,h2=>by
  by_cases hk:k=.free
  ·subst hk
   obtain⟨c,hc⟩:=h1 (n,.free) List.mem_cons_self rfl
   have e:cellOf env n=pure c:=by unfold cellOf;rw[hc]
   have h2':∀x d,((n,c)::cs).lookup x=some d->env.cells.lookup x=some d:=λx d q=>by
    rw[List.lookup_cons] at q
    cases hx:x== n with
    |true=>
     rw[hx] at q
     have:x=n:=eq_of_beq hx
     subst this
     cases q
     exact hc
    |false=>
     rw[hx] at q
     exact h2 x d q
   obtain⟨cl,q1,q2,q3,q4⟩:=bO ns ((n,c)::cs) (λy hy=>h1 y (List.mem_cons_of_mem _ hy)) h2'
   refine⟨cl,?_,q2,λx ⟨d,hd⟩=>q3 x ?_,λy hy hf=>?_⟩
   ·rw[List.forIn_cons]
    simp only[beq_self_eq_true,if_true,e,pure_bind]
    exact q1
   ·rw[List.lookup_cons]
    cases hx:x== n with
    |true=>exact⟨c,rfl⟩
    |false=>exact⟨d,hd⟩
   ·rcases List.mem_cons.mp hy with rfl|hy
    ·exact q3 n ⟨c,by rw[List.lookup_cons,beq_self_eq_true]⟩
    ·exact q4 y hy hf
  ·have hb:(k== NameKind.free)=false:=by simpa using hk
   obtain⟨cl,q1,q2,q3,q4⟩:=bO ns cs (λy hy=>h1 y (List.mem_cons_of_mem _ hy)) h2
   refine⟨cl,?_,q2,q3,λy hy hf=>?_⟩
   ·rw[List.forIn_cons]
    simp only[hb,Bool.false_eq_true,if_false,pure_bind]
    exact q1
   ·rcases List.mem_cons.mp hy with rfl|hy
    ·exact absurd hf hk
    ·exact q4 y hy hf
def ak{scope:Scope}{env:Env}(h:∀y∈scope.names,y.2=.free->∃c,env.cells.lookup y.1=some c) :
 ∃cl,closureFor scope env=pure cl/\(∀x c,cl.lookup x=some c->env.cells.lookup x=some c)/\∀y∈scope.names,y.2=.free->∃c,cl.lookup y.1=some c:=by
 obtain⟨cl,q1,q2,_,q4⟩:=bO (env:=env) scope.names [] h (λx c z=>by simp at z)
 refine⟨cl,?_,q2,q4⟩
 unfold closureFor
 have e:(forIn scope.names [] (λ(x:Str×NameKind) (r:List (Str×Addr))=>match x with
  |(name,kind)=>if(kind== .free)=true then(do let a <-cellOf env name;pure (ForInStep.yield ((name,a)::r))) else pure (ForInStep.yield r)):Sem (List (Str×Addr)))=pure cl:=q1
 first
  |(simp only[bind_pure];exact q1)
  |(rw[show ∀(t:Sem (List (Str×Addr))),(do let r <-t;pure r)=t from λt=>by simp];exact q1)
  |(simp only[q1,pure_bind])
def aN(X:Cx)(N':List Str)(scope:Scope)(cl:List (Str×Addr))(C:Addr)(s:Shared)(H:Hp)(fp:List Addr):Cx where
 prog:=X.prog
 w:=X.w
 K:=X.K
 mg:=X.mg
 base:=X.base
 A:=X.A
 N:=N'
 s₀:= s
 H₀:= H
 env:=compEnvC scope cl C X.env
 outer:=X.stack
 stack:=X.stack
 ex:=fp
 fn:=λx=>scope.names.lookup x== some .cell
 calm:=X.calm
 pn:=[]
 xe:=λ_ _=>False
def aK(X:Cx)(sc scope:Scope):List Str->List Nat->Prop
 |x::xs,j::js=>X.N[j]?=some x/\(scope.names.lookup x=some .free/\(sc.names.lookup x=some .cell\/sc.names.lookup x=some .free))/\aK X sc scope xs js
 |_,[]=>True
 | [],_::_=>False
def Ÿ(js:List Nat)(nl:Nat)(σ:L2.St):L2.St:=js.map (λj:Nat=>(σ[j]?).getD none)++List.replicate nl none
theorem cR{X:Cx}{sc scope:Scope}{σ:L2.St}{nl:Nat}:∀{N':List Str} {js:List Nat} {i:Nat} {x:Str} {v:V},aK X sc scope N' js->N'[i]?=some x->(Ÿ js nl σ)[i]?=some (some v)->
 ∃j:Nat,X.N[j]?=some x/\σ[j]?=some (some v)/\scope.names.lookup x=some .free/\(sc.names.lookup x=some .cell\/sc.names.lookup x=some .free)
 |N',[],i,x,v,_,_,h=>by
  unfold Ÿ at h
  rw[List.map_nil,List.nil_append,List.getElem?_replicate] at h
  split at h<;>cases h
 | [],_::_,_,_,_,c,_,_=>c.elim
 |y::N',j::js,0,x,v,c,h1,h2=>by
  obtain⟨c1,c2,_⟩:=c
  simp at h1
  subst h1
  have e:(σ[j]?).getD none=some v:=by simpa[Ÿ] using h2
  refine⟨j,c1,?_,c2⟩
  cases q:σ[j]? with
  |none=>rw[q] at e;cases e
  |some o=>rw[q] at e;exact congrArg some e
 |y::N',j::js,i+1,x,v,c,h1,h2=>by
  exact cR (N':=N') (js:=js) (i:=i) c.2.2 (by simpa using h1) (by simpa[Ÿ] using h2)
section
variable{prog:Program}{w:World}{A:Around}{R:Result->Shared->Prop}{s:Shared}
def bY{elt target iter:Expr}{ifs:List Expr}{scope:Scope}{pos:Pos}{it acc:Value}{env:Env}(I:Nat->Shared->Prop)
 (turn:∀n s,I n s→wpAny (model prog w) A (pyNext it) (fun r s₁=>match r with
   |none=>R (.ok .next) s₁
   |some v=>wpAny (model prog w) A (letOwnedTupleGo target it v) (fun _ s₁'=>wpAny (model prog w) A (assign target env v) (fun _ s₂=>
     wpAny (model prog w) A (forIn ifs true λc r=>if r=true then do let ok <-isTrue c env (eval c env);pure (ForInStep.yield ok) else pure (ForInStep.yield r)) (λok s₃=>
      if ok=true then wpAny (model prog w) A (eval elt env) (λx s₄=>
       wpAny (model prog w) A (call (.builtin "list.append") [acc,x]) (λ_ s₅=>∃m,m<n/\I m s₅) (λ_ _=>False) s₄) (λ_ _=>False) s₃
      else ∃m,m<n/\I m s₃) (λ_ _=>False) s₂) (λ_ _=>False) s₁') (λ_ _=>False) s₁) (λ_ _=>False) s)
 (n:Nat)(h:I n s) :
 codeAny (model prog w) A (.compLoop (.ListComp elt [⟨target,iter,ifs,0⟩] scope pos) 0 it acc env) R s:=by
 refine codeAny_loop rfl I (λn s hI=>?_) n h
 show wpAny _ A ((compTurn (.ListComp elt [⟨target,iter,ifs,0⟩] scope pos) 0 it acc env).onRaise (λx=>do noteFrame x env;theTreesLotGoes x)) _ _ s
 refine wpAny_noted (wpAny_noRaise ?_)
 rw[compTurn_list]
 refine wpAny_bind (wpAny_standAt (wpAny_bind (wpAny_mono (turn n s hI) (λr s₁ h₁=>?_) λ_ _ h'=>h')))
 cases r with
 |none=>exact wpAny_pure h₁
 |some v=>
  refine wpAny_bind (wpAny_mono h₁ (λ_ s₁' h₁'=>?_) λ_ _ h'=>h')
  refine wpAny_bind (wpAny_mono h₁' (λ_ s₂ h₂=>wpAny_bind (wpAny_mono h₂ (λok s₃ h₃=>?_) λ_ _ h'=>h')) λ_ _ h'=>h')
  cases ok with
  |false=>exact wpAny_pure ⟨rfl,h₃⟩
  |true=>
   exact wpAny_bind (wpAny_bind (wpAny_mono h₃ (λx s₄ h₄=>wpAny_bind (wpAny_mono h₄ (λ_ s₅ h₅=>wpAny_pure (wpAny_pure ⟨rfl,h₅⟩)) λ_ _ h'=>h')) λ_ _ h'=>h'))
end
def wV(X:Cx)(ifs:List Expr)(t:TT):Prop:=
 ∀(pins:List (Addr×Obj)) (s:Shared) (σ:L2.St) (H:Hp) (Q:Bool->Hp->Prop),Inv X pins σ H s->t σ H Q->
  wpAny (model X.prog X.w) X.A (forIn ifs true λc r=>if r=true then do let ok <-isTrue c X.env (eval c X.env);pure (ForInStep.yield ok) else pure (ForInStep.yield r)) (TP X pins σ Q) X.xe s
def Ma:TT:=λ_ H Q=>Q true H
def wW{X:Cx}:wV X [] Ma:=λ_ _ _ H _ I h=>wpAny_tests_nil ⟨H,I,h⟩
def wX{X:Cx}{c:Expr}{t:TT}(h:PT X c t):wV X [c] t:=λpins s σ H Q I hw=>wpAny_tests_one (h pins s σ H Q I hw)
def rW(js:List Nat)(nl:Nat)(wi:TI)(g:TG)(tt:TT)(te:TE):TE:=λσ H Q=>wi σ H λJ H1=>∀D,H1 D=none->
 ∃W:Nat->Nat->L2.St->Hp->Prop,(∃m,W 0 m (Ÿ js nl σ) (upd H1 D (.lst [])))/\∀i m σ' H',W i m σ' H'->
  (J.stop i H'∧Q (.ref D) H')∨(J.go i H'∧∃N:L2.St→Hp→Prop,(∀σ2 H2,N σ2 H2→∃m',m'<m∧W (i+1) m' σ2 H2)∧∀x H2,J.Jh i H' x H2→g x σ' H2 fun σ2 H3=>tt σ2 H3 fun c H4=>
    if c=true then te σ2 H4 λy H5=>∃ys,H5 D=some (.lst ys)/\ys.length<sizeLine/\N σ2 (upd H5 D (.lst (ys ++ [y]))) else N σ2 H4)
section
variable{X:Cx}{elt tg iter:Expr}{ifs:List Expr}{scope:Scope}{pos:Pos}{wi:TI}{g:TG}{tt:TT}{te:TE}
theorem ao{env:Env}:∀{names:List (Str×NameKind)} {x:Str} {k:NameKind},(k=.cell\/k=.free)->
 (names.map λ(n,k)=>if(k== NameKind.free && env.scope.kind== .function && env.kindOf n== some .cell) then(n,NameKind.cell) else(n,k)).lookup x=some k->(x,NameKind.free)∈names\/(x,NameKind.cell)∈names
 | [],x,k,_,h=>by simp at h
 |(n,q)::r,x,k,hk,h=>by
  have ih:=@ao env r x k hk
  rw[List.map_cons] at h
  by_cases hx:x=n
  ·subst hx
   by_cases hf:q=.free
   ·subst hf
    exact .inl List.mem_cons_self
   ·have hb:(q== NameKind.free)=false:=by simpa using hf
    have e:(if(q== NameKind.free && env.scope.kind== .function && env.kindOf x== some .cell)=true then(x,NameKind.cell) else(x,q))=(x,q):=by
     rw[hb];rfl
    have h2:=h
    simp only[e,List.lookup_cons,beq_self_eq_true] at h2
    have:q=k:=Option.some.inj h2
    rcases hk with hk|hk
    ·rw[this,hk]
     exact .inr List.mem_cons_self
    ·exact absurd (this.trans hk) hf
  ·have hn:(x== n)=false:=by simpa using hx
   have h3:(x,NameKind.free)∈r\/(x,NameKind.cell)∈r:=ih (by
    by_cases c:(q== NameKind.free && env.scope.kind== .function && env.kindOf n== some .cell)=true
    ·simp only[c,if_true,List.lookup_cons,hn] at h
     exact h
    ·simp only[c,if_false,Bool.false_eq_true,List.lookup_cons,hn] at h
     exact h)
   rcases h3 with h3|h3
   ·exact .inl (List.mem_cons_of_mem _ h3)
   ·exact .inr (List.mem_cons_of_mem _ h3)
theorem ķ:∀(names:List (Str×NameKind)) (n:Nat) (acc:List (Str×Addr)),cellsFrom n names acc=cellsFrom n names []++acc
 | [],_,_=>rfl
 |(x,k)::r,n,acc=>by
  unfold cellsFrom
  split
  ·rw[ķ r (n+1) ((x,n)::acc),ķ r (n+1) [(x,n)],List.append_assoc]
   rfl
  ·exact ķ r n acc
theorem aq:∀(names:List (Str×NameKind)) (n:Nat) {x:Str} {c:Addr},(x,c)∈cellsFrom n names []->(x,NameKind.cell)∈names
 | [],_,_,_,h=>by simp[cellsFrom] at h
 |(y,k)::r,n,x,c,h=>by
  unfold cellsFrom at h
  split at h
  ·rename_i hk
   rw[ķ r (n+1) [(y,n)]] at h
   rcases List.mem_append.mp h with h|h
   ·exact List.mem_cons_of_mem _ (aq r _ h)
   ·have e:(x,c)=(y,n):=by simpa using h
    cases e
    rw[beq_iff_eq.mp hk]
    exact List.mem_cons_self
  ·exact List.mem_cons_of_mem _ (aq r _ h)
structure Blk(X:Cx)(scope:Scope)(n:Nat)(h:Heap)(cl:List (Str×Addr)):Prop where
 at_:∀x c,cl.lookup x=some c->(X.env.cells.lookup x=some c/\scope.names.lookup x≠some .cell)\/(n<c/\h.IsCell c none/\scope.names.lookup x=some .cell)
 inj:∀x y c,cl.lookup x=some c->cl.lookup y=some c->n<c->x=y
 has:∀x,((x,NameKind.free)∈scope.names\/(x,NameKind.cell)∈scope.names)->∃c,cl.lookup x=some c
def rY{X:Cx}{scope:Scope}{n:Nat}{h:Heap}{cl:List (Str×Addr)}(hcell:∀y∈scope.names,y.2=.cell->scope.names.lookup y.1=some .cell)
 (h1:∀x c,cl.lookup x=some c->X.env.cells.lookup x=some c)(h2:∀y∈scope.names,y.2=.free->∃c,cl.lookup y.1=some c)(hlt:∀x c,X.env.cells.lookup x=some c->c<n)
 (ok:CellsOk h (n+1) (cellsFrom (n+1) scope.names [])):Blk X scope n h (cellsFrom (n+1) scope.names cl):=by
 have sp:∀x c,(cellsFrom (n+1) scope.names cl).lookup x=some c->(cl.lookup x=some c/\(cellsFrom (n+1) scope.names []).lookup x=none)\/(cellsFrom (n+1) scope.names []).lookup x=some c:=λx c e=>by
  rw[ķ,List.lookup_append] at e
  cases q:(cellsFrom (n+1) scope.names []).lookup x with
  |none=>rw[q] at e;exact .inl ⟨by simpa using e,rfl⟩
  |some d=>rw[q] at e;exact .inr (by simpa using e)
 refine⟨λx c e=>?_,λx y c e1 e2 hc=>?_,λx hx=>?_⟩
 ·rcases sp x c e with⟨e,q⟩|e
  ·refine .inl ⟨h1 x c e,λz=>?_⟩
   obtain⟨d,hd⟩:=bW (sc:=scope) (n:=n+1) z
   rw[hd] at q
   cases q
  ·have m:=mem_of_lookup e
   exact .inr ⟨(ok.empty x c m).2,(ok.empty x c m).1,hcell _ (aq _ _ m) rfl⟩
 ·have nw:∀z,(cellsFrom (n+1) scope.names cl).lookup z=some c→(cellsFrom (n+1) scope.names []).lookup z=some c:=fun z e=>by
   rcases sp z c e with⟨e,q⟩|e
   ·exact absurd (hlt z c (h1 z c e)) (Nat.lt_asymm hc)
   ·exact e
  exact name_of_addr ok.apart (mem_of_lookup (nw x e1)) (mem_of_lookup (nw y e2))
 ·rw[ķ,List.lookup_append]
  rcases hx with hx|hx
  ·obtain⟨c,hc⟩:=h2 _ hx rfl
   cases q:(cellsFrom (n+1) scope.names []).lookup x with
   |none=>exact⟨c,by simpa using hc⟩
   |some d=>exact⟨d,rfl⟩
  ·obtain⟨d,hd⟩:=bW (sc:=scope) (n:=n+1) (hcell _ hx rfl)
   rw[hd]
   exact⟨d,rfl⟩
def bG{M:Model}{A:Around}{E:Value->Shared->Prop}{s:Shared}{scope:Scope}{globals:Addr}{closure:List (Str×Addr)}{qual:Str}
 {func:Option Addr}{code:Value}{env0:Env}{builtins:Addr}{Q:Env->Shared->Prop}
 (hQ:∀h',h'.Ns s.heap.objs.size (fun _=>none)→(∀b o,s.heap.get? b=some o→h'.get? b=some o)→CellsOk h' (s.heap.objs.size+1) (cellsFrom (s.heap.objs.size+1) scope.names [])→
   Q (newEnv scope s.heap.objs.size globals (cellsFrom (s.heap.objs.size+1) scope.names closure) qual func code (some env0) builtins) {s with heap:=h'}) :
 wpAny M A (newFunctionEnv scope globals closure [] qual func code (some env0) builtins) Q E s:=by
 simp only[newFunctionEnv,Option.isSome_some,if_true]
 refine wpAny_bind (wpAny_alloc ?_)
 refine wpAny_bind (wpAny_layCells _ (λname kind cells=>by cases hkc:kind== NameKind.cell<;>simp[hkc]) _ _ _ _ ?_)
 have ok:=cellsFrom_ok scope.names (s.heap.push {cls:=.type "dict",data:=.dict #[]}) (s.heap.objs.size+1) [] ⟨λ_ _ hm=>(nomatch hm),List.Pairwise.nil⟩ (by rw[Heap.size_push];exact Nat.le_refl _)
 rw[Heap.size_push] at ok
 rw[show({s with heap:=s.heap.push {cls:=.type "dict",data:=.dict #[]}}:Shared).heap.objs.size=s.heap.objs.size+1 from Heap.size_push ..]
 refine wpAny_bind ?_
 rw[List.forIn_nil]
 exact wpAny_pure (wpAny_pure (hQ _ ((Heap.Ns.new s.heap (.type "dict")).keeps (pushCells_keeps _ _)) (λb o e=>pushCells_keeps _ _ b o (Heap.get?_push_of_some _ e)) ok))
theorem bZ{env:Env}:∀{names:List (Str×NameKind)} {x:Str},names.lookup x=some .free->
 ¬(names.map λ(n,k)=>if(k== NameKind.free && env.scope.kind== .function && env.kindOf n== some .cell) then(n,NameKind.cell) else(n,k)).lookup x=some .local
 | [],x,h=>by simp at h
 |(n,q)::r,x,h=>by
  intro h2
  rw[List.map_cons] at h2
  rw[List.lookup_cons] at h
  cases hx:x== n with
  |true=>
   rw[hx] at h
   cases h
   by_cases c:(NameKind.free== NameKind.free && env.scope.kind== .function && env.kindOf n== some .cell)=true
   ·simp only[c,if_true,List.lookup_cons,hx] at h2
    cases h2
   ·simp only[c,if_false,Bool.false_eq_true,List.lookup_cons,hx] at h2
    cases h2
  |false=>
   rw[hx] at h
   have ih:=bZ (env:=env) h
   by_cases c:(q== NameKind.free && env.scope.kind== .function && env.kindOf n== some .cell)=true
   ·simp only[c,if_true,List.lookup_cons,hx] at h2
    exact ih h2
   ·simp only[c,if_false,Bool.false_eq_true,List.lookup_cons,hx] at h2
    exact ih h2
def iZ{pins:List (Addr×Obj)}{σ:L2.St}{H:Hp}{s:Shared}{N':List Str}{js:List Nat}{nl:Nat}{sc:Scope}{cl:List (Str×Addr)}{fp:List Addr}{h':Heap}{tk:Nat}
 (hsc:X.env.scope=sc)(hk:scope.kind=.function)(hcap:aK X sc scope N' js)(hlen:js.length+nl=N'.length)(B:Blk X scope s.heap.objs.size h' cl)
 (I:Inv X pins σ H s)(hf:∀b∈fp,ř X pins H b)(hlt:∀b∈fp,b<s.heap.objs.size)
 (hn:h'.Ns s.heap.objs.size (λ_=>none))(kp:∀b o,s.heap.get? b=some o->h'.get? b=some o) :
 Inv (aN X N' scope cl s.heap.objs.size s H fp) [] (Ÿ js nl σ) H {s with heap:=h',toks:=tk}:=by
 have rZ:∀x,((aN X N' scope cl s.heap.objs.size s H fp).env.kindOf x=some .cell\/(aN X N' scope cl s.heap.objs.size s H fp).env.kindOf x=some .free)->∃c,cl.lookup x=some c:=λx hx=>by
  rcases hx with hx|hx
  ·exact B.has x (ao (.inl rfl) hx)
  ·exact B.has x (ao (.inr rfl) hx)
 have lt:∀x c,X.env.cells.lookup x=some c->c<s.heap.objs.size:=λx c e=>by
  obtain⟨v,o,ho,_⟩:=I.cell x c e
  exact Heap.lt_size ho
 have inj:∀x y c,cl.lookup x=some c->cl.lookup y=some c->x=y:=λx y c e1 e2=>by
  rcases B.at_ x c e1 with⟨q1,_⟩|⟨q1,_⟩
  ·rcases B.at_ y c e2 with⟨q2,_⟩|⟨q2,_⟩
   ·exact I.ok.inj x y c q1 q2
   ·exact absurd (lt x c q1) (Nat.lt_asymm q2)
  ·exact B.inj x y c e1 e2 q1
 refine⟨⟨I.ok.mod,hk,I.ok.glob,I.ok.blt,Nat.le_refl _,inj,rZ,λx c z e=>by
  rcases B.at_ x c e with⟨_,q⟩|⟨q,_⟩
  ·exact absurd (beq_iff_eq.mp z) q
  ·exact Nat.le_of_lt q,I.ok.hd,I.ok.frames,.inl rfl,λb hb=>⟨Nat.ne_of_lt (hlt b hb),λx c e=>by
  rcases B.at_ x c e with⟨q,_⟩|⟨q,_⟩
  ·exact(hf b hb).2.2.2.2.1 x c q
  ·exact Nat.ne_of_gt (Nat.lt_trans (hlt b hb) q)⟩,
  I.bs,Nat.le_trans I.ok.vY I.sz,fun b o e hb=>?_,fun b hb hz=>?_,I.stack,I.jx,I.tb⟩,rfl,I.bare,Un.kept kp,⟨_,hn,fun i x v e1 e2 e3=>?_⟩,fun x c e=>?_,I.hok.fresh (Nat.le_refl _),fun x c e=>by
    rcases B.at_ x c e with⟨q,_⟩|⟨q,_⟩
    ·exact I.aQ x c q
    ·exact I.hok.fresh (Nat.le_of_lt q),λp hp=>?_,I.hok.kept kp,?_⟩
 ·rcases(hf b hb).2.2.2.1 with z|z
  ·exact I.ok.qd b o e z
  ·exact absurd (Nat.lt_of_lt_of_le (Heap.lt_size e) (Nat.le_trans I.ok.vY z)) (Nat.lt_irrefl _)
 ·rcases List.mem_cons.mp (I.fu b hz) with z|z
  ·exact(hf b hb).2.1 z
  ·exact(hf b hb).2.2.1 z
 ·obtain⟨j,q1,q2,q0,q3⟩:=cR hcap e1 e2
  obtain⟨m,hm,hl⟩:=I.loc
  have Bk:lV X.env.scope x:=by
   rw[hsc]
   rcases q3 with q3|q3
   ·exact .inr (.inl q3)
   ·exact .inr (.inr q3)
  obtain⟨u,ru,lk⟩:=hl j x v q1 q2 Bk
  refine⟨u,ru,?_⟩
  rcases lk with⟨k1,_⟩|⟨k1,c,hc,ic⟩
  ·exfalso
   have k1':sc.names.lookup x=some .local:=by rw[<-hsc];exact k1
   rcases q3 with q3|q3<;>(rw[k1'] at q3;cases q3)
  ·have e3':(aN X N' scope cl s.heap.objs.size s H fp).env.kindOf x=some .local\/(aN X N' scope cl s.heap.objs.size s H fp).env.kindOf x=some .cell\/(aN X N' scope cl s.heap.objs.size s H fp).env.kindOf x=some .free:=e3
   rcases e3' with z|z
   ·exact absurd z (bZ (env:=X.env) q0)
   ·obtain⟨d,hd⟩:=rZ x z
    have:d=c:=by
     rcases B.at_ x d hd with⟨q,_⟩|⟨_,_,q⟩
     ·rw[hc] at q
      exact(Option.some.inj q).symm
     ·rw[q0] at q
      cases q
    subst this
    exact .inr ⟨z,d,hd,by
     obtain⟨o,ho,hd'⟩:=ic
     exact⟨o,kp _ _ ho,hd'⟩⟩
 ·rcases B.at_ x c e with⟨q,_⟩|⟨_,q,_⟩
  ·obtain⟨v,o,ho,hd⟩:=I.cell x c q
   exact⟨v,o,kp _ _ ho,hd⟩
  ·exact⟨none,q⟩
 ·exact absurd hp (by simp[aN])
 ·show _=N'.length
  rw[<-hlen]
  simp[Ÿ]
def fP{pins:List (Addr×Obj)}{σ σ':L2.St}{H H':Hp}{s s':Shared}{N':List Str}{cl:List (Str×Addr)}{fp:List Addr}{h':Heap}(I:Inv X pins σ H s)(hf:∀b∈fp,ř X pins H b)
 (J:Inv (aN X N' scope cl s.heap.objs.size s H fp) [] σ' H' s')(kp:∀b u,b≠s.heap.objs.size->s'.heap.get? b=some u->h'.get? b=some u):Inv X pins σ H' {s' with heap:=h'}:=by
 have ne:∀{b:Addr} {o:Obj},s.heap.get? b=some o->b≠s.heap.objs.size:=λe=>Nat.ne_of_lt (Heap.lt_size e)
 have u:=J.base
 refine I.call' (ch:=fp) J.os ⟨λb o e n hb hx=>kp b o (ne e) (u.keep b o e n hb hx),λb o e n hb hx=>?_,λb o e n hx=>u.free b o e n hx,λb o e hx=>?_,u.tups,u.gY,u.dH⟩ (oH J.hok J.free kp) J.bare λb hb=>?_
 ·obtain⟨sl,q⟩:=u.slot b o e n hb hx
  exact⟨sl,kp b _ (ne e) q⟩
 ·obtain⟨o',q⟩:=u.there b o e hx
  exact⟨o',kp b _ (ne e) q⟩
 ·exact⟨(hf b hb).2.2.2.1,(hf b hb).2.1,(hf b hb).2.2.2.2.1,(hf b hb).2.2.2.2.2⟩
def wY(N':List Str)(js:List Nat)(nl:Nat)(sc:Scope)(hsc:X.env.scope=sc)(hcalm:X.calm=true)
 (hi:PI X.ĺ tg iter wi)(hg:∀cl C s H fp,PG (aN X.ĺ N' scope cl C s H fp) tg g)(ht:∀cl C s H fp,wV (aN X.ĺ N' scope cl C s H fp) ifs tt)(he:∀cl C s H fp,PE (aN X.ĺ N' scope cl C s H fp) elt te)
 (hcap:aK X.ĺ sc scope N' js)(hlen:js.length+nl=N'.length:=by rfl)
 (hk:scope.kind=.function:=by rfl)(hcell:∀y∈scope.names,y.2=.cell->scope.names.lookup y.1=some .cell:=by decide +kernel)(hnames:∀y∈scope.names,y.2=.local->scope.names.lookup y.1=some .local:=by decide +kernel)
 (hfree:∀y∈scope.names,y.2=.free->(sc.names.lookup y.1=some .cell\/sc.names.lookup y.1=some .free):=by decide +kernel)
 (hs:∀x,foldedSetIterable iter X.env x=pure x:=by intro _;rfl) :
 PE X.ĺ (.ListComp elt [⟨tg,iter,ifs,0⟩] scope pos) (rW js nl wi g tt te):=by
 intro pins s σ H Q I h
 obtain⟨Fz,c1,c2,c3⟩:=ak (scope:=scope) (env:=X.ĺ.env) λy hy hf=>I.ok.has y.1 (by
  have:=hfree y hy hf
  rw[<-hsc] at this
  exact this)
 rw[eval_ListComp]
 refine wpAny_comprehension_free (use:=none) rfl hs c1 hk hnames (Ļ (hi pins s σ H _ I h) λv s1 h1=>Ļ h1 λitv s2 h2=>?_)
 obtain⟨it,fp,tn,J,H2,e,I2,T,st2,f2,q2⟩:=h2
 subst e
 refine wpAny_newObj_type (bG (λh₁ hns₁ old Bl=>?_))
 dsimp only at hns₁ old Bl ⊢
 generalize Bm:s2.heap.push {cls:=.type "list",dict:=none,data:=.seq ([]:List Value).toArray}=ţ at hns₁ old Bl ⊢
 have hD:H2 s2.heap.objs.size=none:=I2.hok.fresh (Nat.le_refl _)
 have I3:Inv X.ĺ pins σ (upd H2 s2.heap.objs.size (.lst [])) {s2 with heap:=ţ}:=by
  rw[<-Bm]
  exact I2.laid (t':=s2.toks) (λb u e=>Heap.get?_push_of_some _ e) (Nat.le_refl _) ⟨Nat.zero_le _,[],0,.nil,Heap.get?_push_size _ rfl⟩
 have su:∀b∈fp,b<s2.heap.objs.size:=λb hb=>by
  obtain⟨o,ho,_⟩:=T.obj 0 _ st2 b hb
  exact Heap.lt_size ho
 have Bo:ţ.objs.size=s2.heap.objs.size+1:=by rw[<-Bm,Heap.size_push]
 have f3:∀b∈fp,ř X.ĺ pins (upd H2 s2.heap.objs.size (.lst [])) b:=λb hb=>by
  obtain⟨g0,g1⟩:=f2 b hb
  exact⟨by rw[ć (Nat.ne_of_lt (su b hb))];exact g0,g1⟩
 have B:=rY (X:=X.ĺ) (cl:=Fz) hcell c2 c3 (λx c e=>by
  obtain⟨v,o,ho,_⟩:=I3.cell x c e
  exact Heap.lt_size ho) Bl
 generalize cellsFrom (ţ.objs.size+1) scope.names Fz=cl at B ⊢
 obtain⟨W,⟨m0,w0⟩,turn⟩:=q2 s2.heap.objs.size hD
 have I4:=iZ (X:=X.ĺ) (N':=N') (js:=js) (nl:=nl) (sc:=sc) (scope:=scope) (cl:=cl) (fp:=fp) (h':=h₁) (tk:=s2.toks) hsc hk hcap hlen B I3 f3 (λb hb=>by show b<ţ.objs.size;rw[Bo];exact Nat.lt_succ_of_lt (su b hb)) hns₁ old
 have FJ:tn 0 h₁:= T.keep 0 _ _ st2 λb hb o e=>old b o (by rw[<-Bm];exact Heap.get?_push_of_some _ e)
 have Mf:∀b∈fp,(upd H2 s2.heap.objs.size (.lst [])) b=none:=λb hb=>(f3 b hb).1
 have stat:∀{H':Hp},(∀b∈fp,H' b=none)->∀b∈fp,ř (aN X.ĺ N' scope cl ţ.objs.size {s2 with heap:=ţ} (upd H2 s2.heap.objs.size (.lst [])) fp) [] H' b:=fun{H'} hn b hb=>by
  obtain⟨g0,g1,g2,g3,g4,g5⟩:=f3 b hb
  refine⟨hn b hb,Nat.ne_of_lt (by show b<ţ.objs.size;rw[Bo];exact Nat.lt_succ_of_lt (su b hb)),λz=>?_,.inl hb,λx c e=>by
   rcases B.at_ x c e with⟨q,_⟩|⟨q,_⟩
   ·exact g4 x c q
   ·exact Nat.ne_of_gt (Nat.lt_trans (by show b<ţ.objs.size;rw[Bo];exact Nat.lt_succ_of_lt (su b hb)) q),λp hp=>absurd hp (by simp[aN])⟩
  rcases List.mem_cons.mp (I3.fu b z) with z|z
  ·exact g1 z
  ·exact g2 z
 have loop:∀s₃:Shared,s₃= {s2 with heap:=h₁}->
  codeAny (model X.prog X.w) X.A (.compLoop (.ListComp elt [⟨tg,iter,ifs,0⟩] scope pos) 0 (.ref it) (.ref s2.heap.objs.size) (compEnvC scope cl ţ.objs.size X.ĺ.env))
   (compPost (model X.prog X.w) X.A X.ĺ.xe none (EP X.ĺ pins σ Q) (.ref s2.heap.objs.size) ţ.objs.size) s₃:= by
  rintro s₃ rfl
  refine bY (λn s'=>∃i σ' H',Inv (aN X.ĺ N' scope cl ţ.objs.size {s2 with heap:=ţ} (upd H2 s2.heap.objs.size (.lst [])) fp) [] σ' H' s'/\tn i s'.heap/\(∀b∈fp,H' b=none)/\W i n σ' H') ?_ m0 ⟨0,_,_,I4,FJ,Mf,w0⟩
  rintro n s5 ⟨i,σ5,H5,I5,wC,zZ,w5⟩
  rcases turn i n σ5 H5 w5 with⟨stop,qn⟩|⟨go,N,hN,step⟩
  ·refine Ļ (T.done (aN X.ĺ N' scope cl ţ.objs.size {s2 with heap:=ţ} (upd H2 s2.heap.objs.size (.lst [])) fp) rfl rfl rfl hcalm i [] s5 σ5 H5 (λ_ _=>False) I5 (stat zZ) wC stop) λr s6 ⟨hr,I6⟩=>?_
   subst hr
   obtain⟨m,hm,_⟩:=I6.loc
   refine⟨m,hm,λh' hs'=>⟨.ref s2.heap.objs.size,H5,fP I3 f3 I6 (λb u hb e=>hs'.extBut b u hb e),rfl,qn⟩⟩
  ·refine Ļ (T.item (aN X.ĺ N' scope cl ţ.objs.size {s2 with heap:=ţ} (upd H2 s2.heap.objs.size (.lst [])) fp) rfl rfl rfl hcalm i [] s5 σ5 H5 (λ_ _=>False) I5 (stat zZ) wC go) λr s6 ⟨u,hr,h6⟩=>?_
   subst hr
   refine Ļ h6 λ_ s7 ⟨x,H7,I7,r7,y7,Bp,Mg⟩=>?_
   have Mh:=I7.pinned (stat Mg) (T.obj _ _ Bp)
   have again:∀{s8:Shared} {σ8:L2.St} {H8:Hp},Inv (aN X.ĺ N' scope cl ţ.objs.size {s2 with heap:=ţ} (upd H2 s2.heap.objs.size (.lst [])) fp) ([]++cN fp s7.heap) σ8 H8 s8->
    Inv (aN X.ĺ N' scope cl ţ.objs.size {s2 with heap:=ţ} (upd H2 s2.heap.objs.size (.lst [])) fp) [] σ8 H8 s8/\tn (i+1) s8.heap/\∀b∈fp,H8 b=none:=fun{s8 σ8 H8} I8=>by
    refine⟨I8.ų,T.keep _ _ _ Bp λb hb o e=>(I8.pin (b,o) (List.mem_append_right _ (List.mem_append_right _ (ļ hb e)))).1,λb hb=>?_⟩
    obtain⟨o,e,d⟩:=T.obj _ _ Bp b hb
    exact(I8.pin (b,o) (List.mem_append_right _ (List.mem_append_right _ (ļ hb e)))).2.1
   refine Ļ (hg cl _ _ _ fp _ s7 σ5 H7 x u _ Mh r7 (step x H7 y7)) λ_ s8 ⟨σ8,H8,I8,q8⟩=>?_
   refine Ļ (ht cl _ _ _ fp _ s8 σ8 H8 _ I8 q8) λc s9 ⟨H9,I9,q9⟩=>?_
   cases c with
   |false=>
    rw[if_neg Bool.false_ne_true] at q9 ⊢
    obtain⟨m',hm',w9⟩:=hN _ _ q9
    obtain⟨a1,a2,a3⟩:=again I9
    exact⟨m',hm',i+1,σ8,H9,a1,a2,a3,w9⟩
   |true=>
    rw[if_pos rfl] at q9 ⊢
    refine Ļ (he cl _ _ _ fp _ s9 σ8 H9 _ I9 q9) λyv Mi ⟨y,Mj,Ml,r10,ys,e10,l10,w10⟩=>?_
    refine Ļ (Ŷ _ Mi σ8 Mj (.ref s2.heap.objs.size) [y] (.ref s2.heap.objs.size) [yv] (λ_ Bq=>N σ8 Bq) Ml rfl (.cons r10 .nil) ⟨_,ys,y,rfl,rfl,e10,l10,w10⟩) λ_ Vg ⟨v11,Bq,Mp,_,w11⟩=>?_
    obtain⟨a1,a2,a3⟩:=again Mp
    obtain⟨m',hm',w11⟩:=hN _ _ w11
    exact⟨m',hm',i+1,σ8,Bq,a1,a2,a3,w11⟩
 exact codeAny_compStart_list (loop _ rfl) (T.self _ 0 _ _ _ FJ (loop _ rfl))
end
def Its(z:Str):It:=⟨λi _=>i<z.cps.size,λi H x H'=>H'=H/\∃c,z.cps.toList[i]?=some c/\x=.str ⟨#[c]⟩,λi _=>i=z.cps.size⟩
def qD{P:Program}{w:World}{K:PySem.W.Frag}{tg:Expr}(it:Addr)(z:Str)(t:Tok)(ty:String)
 (hW:∀A:Around,A.handled=none->Walks P w A it [it] [it] z.cps.size (SignAt z) (λi h=>h.IsStrIter it ty z t i))
 (hS:∀(A:Around) (i:Nat) (s:Shared) (Q:Value->Shared->Prop) (E:Value->Shared->Prop),s.heap.IsStrIter it ty z t i->Q (.ref it) s->wpAny (model P w) A (pyIter (.ref it)) Q E s)
 (hty:["enumerate","zip","dict_itemiterator","dict_reverseitemiterator","odict_iterator","itertools.zip_longest","itertools.pairwise"].contains ty=false):Turn P w K tg (Its z) [it] it (λi h=>h.IsStrIter it ty z t i) where
 mem:=by simp
 obj:=λi h st b hb=>by
  have e:b=it:=by simpa using hb
  subst e
  obtain⟨o,e,c,d⟩:=st
  exact⟨o,e,λv z=>by rw[d] at z;cases z⟩
 keep:=λi h h' st k=>by
  obtain⟨o,e,c,d⟩:=st
  exact⟨o,k it (by simp) o e,c,d⟩
 item:=by
  intro X hP hw hK hc i pins s σ H E I hf st hg
  subst hP hw hK
  obtain⟨f0,f1,f2,f3,f4,f5⟩:=hf it (by simp)
  refine(hW X.A (I.ok.hd hc)).item i s _ _ hg st λv h' tk hv st' kk=>?_
  obtain⟨c,u,hcu,rfl⟩:=hv
  have I1:Inv X pins σ H {s with heap:=h',toks:=tk}:=I.turned (λb o hb e=>kk b o (by simpa using hb) e) f0 f1 f3 f4 f5
  obtain⟨o,e,cl,d⟩:=id st'
  exact⟨_,rfl,oh (s:={s with heap:=h',toks:=tk}) e cl d hty ⟨.str ⟨#[c]⟩,H,I1,⟨u,rfl⟩,⟨rfl,c,by simpa using hcu,rfl⟩,st',λb hb=>(hf b hb).1⟩⟩
 done:=by
  intro X hP hw hK hc i pins s σ H E I hf st hg
  subst hP hw hK
  obtain⟨f0,f1,f2,f3,f4,f5⟩:=hf it (by simp)
  have e:i=z.cps.size:=hg
  subst e
  exact(hW X.A (I.ok.hd hc)).done s _ _ st λh' tk kk=>⟨rfl,I.turned (λb o hb e=>kk b o (by simpa using hb) e) f0 f1 f3 f4 f5⟩
 self:=hS
section
variable{X:Cx}{tg:Expr}
end
end M3
namespace M4
open PySem PySem.Spec PyProof.Rows L2 M2 M3
section
variable{X:Cx}
end
abbrev S(l:List Nat):Str:=⟨l.toArray⟩
def FP(z:Str):z.cps.toList.length=z.length:=by simp[Str.length]
section
variable{X:Cx}
def mul_eq(z:Str){n:Int}(h:0<=n):Txt.mul z n=S (List.replicate n.toNat z.cps.toList).flatten:=by
 have key:∀(k:Nat) (acc:Array Nat),((List.replicate k z.cps).foldl (·++ ·) acc).toList=acc.toList++(List.replicate k z.cps.toList).flatten:=by
  intro k
  induction k with
  |zero=>intro acc;simp
  |succ k ih=>
   intro acc
   rw[List.replicate_succ,List.foldl_cons,ih,List.replicate_succ,List.flatten_cons]
   simp
 unfold Txt.mul
 refine PyProof.Rows.ext_toList ?_
 by_cases h1:n<1
 ·rw[if_pos h1]
  have:n.toNat=0:=by omega
  rw[this]
  simp[Str.empty]
 ·rw[if_neg h1]
  split
  ·rename_i hc
   rw[Bool.or_eq_true] at hc
   rcases hc with hc|hc
   ·have:n=1:=by simpa using hc
    subst this
    simp
   ·have h0:z.cps.toList=[]:=List.eq_nil_of_length_eq_zero (by rw[FP];simpa using hc)
    rw[h0]
    simp
  ·rw[key]
   simp
def sy(z:Str)(n:Int):Prop:=0<=n/\n<=1000/\z.length<=1000
def sy.ok{z:Str}{n:Int}(h:sy z n):MulOk z n:=by
 obtain⟨h0,h1,h2⟩:=h
 refine⟨?_,λhn _=>?_,λhn _=>?_⟩
 ·rw[decide_eq_false (by omega),decide_eq_false (by omega)]
  rfl
 ·have:(9000000000000000:Int)≤(2 ^ 63-1) / n:=by
   rw[Int.le_ediv_iff_mul_le (by omega)]
   omega
  omega
 ·have:z.length*n.toNat<=1000*1000:=Nat.mul_le_mul h2 (by omega)
  unfold Builtin.Str.tooLong
  simp
  rw[sizeLine_eq]
  omega
def sE:R2:=λx y H Q=>match x,y with
 | .int i,.int j=>iY i j/\Q (.int (i*j)) H
 | .str z,.int n=>sy z n/\Q (.str (S (List.replicate n.toNat z.cps.toList).flatten)) H
 |_,_=>False
def b_:ľ X (binaryOp .Mult) sE:=by
 intro pins s σ H x y v u Q I rx ry h
 unfold sE at h
 split at h
 ·exact Bg pins s σ H _ _ v u Q I rx ry h
 ·obtain⟨t,rfl⟩:=rx
  obtain⟨t',rfl⟩:=ry
  exact SB.mul h.1.ok λt' k=>⟨.str _,H,I.tok _,⟨_,by rw[mul_eq _ h.1.1]⟩,h.2⟩
 ·exact h.elim
end
end M4
namespace M5
open PySem PySem.Spec PyProof.Rows L2 M2 M3
def mJ{p2:Pos}{c:Value}{a b:Int}{cv:Value}(l:List Value)(h:TriplesOk l)(e:codeAmong p2 (l ++ [rawInt a,rawInt b,c])=some cv):codeAmong p2 l=some cv\/cv=c:=by
 fun_induction TriplesOk l with
 |case1=>
  right
  simp only[List.nil_append,codeAmong,rawInt] at e
  split at e
  ·exact(Option.some.inj e).symm
  ·cases e
 |case2 a' t b' u x rest ih=>
  simp only[List.cons_append,codeAmong] at e ⊢
  split at e
  ·rename_i hc;rw[if_pos hc];exact .inl e
  ·rename_i hc;rw[if_neg hc];exact ih h e
 |case3 l h1 h2=>exact h.elim
section
variable{X:Cx}{pins:List (Addr×Obj)}{σ:L2.St}{H:Hp}{s:Shared}{x:Str}{c P:Addr}{params:Arguments}{body:Expr}{scope:Scope}{pos:Pos}{cl:List (Str×Addr)}
def sG{Q:Value->Shared->Prop}{E:Value->Shared->Prop}(I:Inv X pins σ H s)(hx:x∈lams)(ht:PySem.W.tabIn X.K x=some (c,P))(hcode:X.env.code=.ref c)(hq:X.env.qual=x ++ ".<locals>.")(hdef:defaultsOf params X.env=([],[]))(hcl:closureFor scope X.env=pure cl)
 (h:∀f c' pm ctv H' s',Inv X pins σ H' s'->(∀a,H a=none->H' a=none\/a=c')->Same H H'->H' c'=some (.pZ (Ŧ x))->s'.heap.get? f=some (PySem.W.kla_obj "<lambda>" (Ŧ x) params body scope cl pm c' ctv)->ř X pins H' f->Q (.ref f) s') :
 wpAny (model X.prog X.w) X.A (eval (.Lambda params body scope pos) X.env) Q E s:=by
 obtain⟨C,hT,hB⟩:=I.tb x c P hx ht
 obtain⟨ps,hP,tr,ent⟩:=I.hok P _ hT
 have hg:=I.ok.mod.glob.keeps I.bk
 have hgP:mainGlobals≠P:=λq=>by
  obtain⟨o,es,ep,e,hd,_⟩:=hg
  rw[q,hP] at e;cases e;cases hd
 have hB':s.heap.BuiltinsAt X.mg P:=by
  obtain⟨bm,ob,b1,b2,b3,b4,b5,b6⟩:=hB
  exact⟨bm,ob,b1,b2,b3,b4,I.bk _ _ b5,b6⟩
 refine PySem.W.kla_eval hdef ?_
 rw[hq]
 cases hf:codeAmong pos ps.toList with
 |none=>
  refine PySem.W.kla_makeFunction (mg:=X.mg) hcl I.ok.glob hg hcode (C.keeps I.bk) hP tr hf hgP hB' λc' ctv h' tk hxb hge hlt hrec htb=>?_
  have hc':H c'=none:=I.hok.fresh hge
  have hcP:c'≠P:=λz=>by rw[z,hT] at hc';cases hc'
  have Ry:∀b,H b=none->b≠P:=λb n z=>by rw[z,hT] at n;cases n
  have old:∀b o,b≠P->s.heap.get? b=some o->(h'.push (PySem.W.kla_obj "<lambda>" (Ŧ x) params body scope cl ((X.mg "__name__").getD .none) c' ctv)).get? b=some o:=λb o hb e=>Heap.get?_push_of_some _ (hxb b o hb e)
  have u:Un X.fs [] H (upd H c' (.pZ (Ŧ x))) s.heap (h'.push (PySem.W.kla_obj "<lambda>" (Ŧ x) params body scope cl ((X.mg "__name__").getD .none) c' ctv)):=by
   refine⟨λb o e n _ _=>old b o (Ry b n) e,λb o e n _ _=>⟨o.slots,old b o (Ry b n) e⟩,λb o e n _=>?_,λb o e _=>?_,λb xs e=>by rw[ć (Ĕ e hc')];exact e,λb o u e=>by rw[ć (Ĕ e hc')];exact e,λb q e=>by rw[ć (Ĕ e hc')];exact e⟩
   ·rw[ć (Nat.ne_of_lt (Nat.lt_of_lt_of_le (Heap.lt_size e) hge))];exact n
   ·by_cases hb:b=P
    ·exact⟨_,by rw[hb];exact Heap.get?_push_of_some _ htb⟩
    ·exact⟨o,old b o hb e⟩
  have hok:bU X.prog X.w (upd H c' (.pZ (Ŧ x))) (h'.push (PySem.W.kla_obj "<lambda>" (Ŧ x) params body scope cl ((X.mg "__name__").getD .none) c' ctv)):=λb v e=>by
   by_cases hb:b=c'
   ·subst hb
    rw[Ē] at e;cases e
    obtain⟨c2,o,vs,t,z,e1,r⟩:=hrec
    exact⟨c2,o,vs,t,z,Heap.get?_push_of_some _ e1,r⟩
   ·rw[ć hb] at e
    by_cases hbP:b=P
    ·subst hbP
     rw[hT] at e;cases e
     refine⟨_,Heap.get?_push_of_some _ htb,?_,λp2 cv z=>?_⟩
     ·have:=TriplesOk_snoc pos.line pos.col (.ref c') ps.toList tr
      simpa using this
     ·rcases mJ (a:=pos.line) (b:=pos.col) (c:=.ref c') ps.toList tr (by simpa using z) with z|z
      ·obtain⟨d,z1,z2⟩:=ent p2 cv z
       exact⟨d,z1,by rw[ć (Ĕ z2 hc')];exact z2⟩
      ·exact⟨c',z,Ē⟩
    ·exact(I.hok b v e).stay (fun b2 o hb2 q=>old b2 o (by
      rcases hb2 with z|z
      ·rw[z];exact hbP
      ·intro z2;rw[z2,hT] at z;cases z) q) (λd q=>by rw[ć (Ĕ q hc')];exact q) (λd xs q=>by rw[ć (Ĕ q hc')];exact q) λd xs q=>by rw[ć (Ĕ q hc')];exact q
  have hfz:s.heap.objs.size<=h'.objs.size:=Nat.le_of_lt (Nat.lt_of_le_of_lt hge hlt)
  refine h h'.objs.size c' _ ctv (upd H c' (.pZ (Ŧ x))) _ (I.un (t':=tk) u hok) (λa n=>?_) (λb v e=>by rw[ć (Ĕ e hc')];exact e) Ē (Heap.get?_push_size _ rfl) (I.g_ hfz (by rw[ć (Nat.ne_of_gt hlt)];exact I.hok.fresh hfz))
  by_cases ha:a=c'
  ·exact .inr ha
  ·exact .inl (by rw[ć ha];exact n)
 |some cv=>
  obtain⟨c',rfl,hcc⟩:=ent pos cv hf
  refine PySem.W.kla_makeFunctionHit (mg:=X.mg) hcl I.ok.glob hg hcode (C.keeps I.bk) hP tr hf hB' λctv h' tk hk hsz=>?_
  exact h h'.objs.size c' _ ctv H _ (I.kept (t':=tk) λb o e=>Heap.get?_push_of_some _ (hk b o e)) (λ_ n=>.inl n) (Same.refl H) hcc (Heap.get?_push_size _ rfl) (I.g_ hsz (I.hok.fresh hsz))
end
def qR(X:Cx)(N':List Str)(qual:Str)(scope:Scope)(cl:List (Str×Addr))(f:Addr)(c':Addr)(A:Around)(s:Shared)(H:Hp):Cx where
 prog:=X.prog
 w:=X.w
 K:=X.K
 mg:=X.mg
 base:=X.base
 A:=A.deeper (PySem.W.envX qual scope s.heap.objs.size f (.ref c') cl)
 N:=N'
 s₀:= s
 H₀:= H
 env:=PySem.W.envX qual scope s.heap.objs.size f (.ref c') cl
 outer:=X.stack
 stack:=PySem.W.envX qual scope s.heap.objs.size f (.ref c') cl::X.stack
 ex:=[]
 fn:=λ_=>false
 calm:=true
 pn:=[]
 xe:=λ_ _=>False
def Ź(js:List Nat)(σ:L2.St)(v:V):L2.St:=js.map (λj:Nat=>(σ[j]?).getD none) ++ [some v]
section
variable{X:Cx}{pins:List (Addr×Obj)}{σ:L2.St}{H:Hp}{s:Shared}{params:Arguments}{body:Expr}{scope sc:Scope}{cl:List (Str×Addr)}{N0:List Str}{js:List Nat}{qual px:Str}{f c':Addr}{A:Around}
def wZ(hsc:X.env.scope=sc)(hk:scope.kind=.function)(hcap:aK X sc scope N0 js)(hlen:js.length=N0.length)(hcell:∀y∈scope.names,y.2≠ .cell)(hpx:scope.names.lookup px=some .local)
 (hA:A.frames=some X.stack)(hhd:A.handled=none)(c2:∀x c,cl.lookup x=some c->X.env.cells.lookup x=some c)(c3:∀y∈scope.names,y.2=.free->∃c,cl.lookup y.1=some c)
 (I:Inv X pins σ H s){v:V}{u:Value}(r:RelV v u){h':Heap}{tk:Nat}(hn:h'.Ns s.heap.objs.size (λy=>[(px,u)].reverse.lookup y))(kp:∀b o,s.heap.get? b=some o->h'.get? b=some o) :
 Inv (qR X (N0 ++ [px]) qual scope cl f c' A s H) [] (Ź js σ v) H {s with heap:=h',toks:=tk}:=by
 have has:∀y,(scope.names.lookup y=some .cell\/scope.names.lookup y=some .free)->∃c,cl.lookup y=some c:=λy hy=>by
  rcases hy with hy|hy
  ·exact absurd rfl (hcell _ (PySem.mem_of_lookup hy))
  ·exact c3 _ (PySem.mem_of_lookup hy) rfl
 refine⟨⟨I.ok.mod,hk,rfl,rfl,Nat.le_refl _,λx y c e1 e2=>I.ok.inj x y c (c2 x c e1) (c2 y c e2),has,(λ_ _ z _=>absurd (show false=true from z) Bool.false_ne_true),λ_=>hhd,Around.frames_deeper hA,.inr ⟨rfl,rfl⟩,λb hb=>absurd hb (by simp[qR]),
  I.bs,Nat.le_trans I.ok.vY I.sz,λb _ _ hb=>absurd hb (by simp[qR]),λb hb=>absurd hb (by simp[qR]),I.stack,I.jx,I.tb⟩,rfl,I.bare,Un.kept kp,⟨_,hn,λi x w e1 e2 e3=>?_⟩,λx c e=>?_,I.hok.fresh (Nat.le_refl _),λx c e=>I.aQ x c (c2 x c e),λp hp=>absurd hp (by simp[qR]),I.hok.kept kp,?_⟩
 ·by_cases hi:i<js.length
  ·have e1':N0[i]?=some x:=by
    have:=e1
    rwa [show(qR X (N0 ++ [px]) qual scope cl f c' A s H).N=N0 ++ [px] from rfl,List.getElem?_append_left (by omega)] at this
   have e2':(Ÿ js 0 σ)[i]?=some (some w):=by
    unfold Ÿ
    unfold Ź at e2
    rw[List.getElem?_append_left (by simpa using hi)] at e2 ⊢
    exact e2
   obtain⟨j,q1,q2,q0,q3⟩:=cR hcap e1' e2'
   obtain⟨m,hm,hl⟩:=I.loc
   have Bk:lV X.env.scope x:=by
    rw[hsc]
    rcases q3 with q3|q3
    ·exact .inr (.inl q3)
    ·exact .inr (.inr q3)
   obtain⟨u',ru,lk⟩:=hl j x w q1 q2 Bk
   refine⟨u',ru,?_⟩
   rcases lk with⟨k1,_⟩|⟨k1,c,hc,ic⟩
   ·exfalso
    have k1':sc.names.lookup x=some .local:=by rw[<-hsc];exact k1
    rcases q3 with q3|q3<;>(rw[k1'] at q3;cases q3)
   ·obtain⟨d,hd⟩:=has x (.inr q0)
    have:d=c:=by
     have:=c2 x d hd
     rw[hc] at this
     exact(Option.some.inj this).symm
    subst this
    exact .inr ⟨.inr q0,d,hd,by
     obtain⟨o,ho,hd'⟩:=ic
     exact⟨o,kp _ _ ho,hd'⟩⟩
  ·have hi2:i=js.length:=by
    have l2:=(List.getElem?_eq_some_iff.mp e2).1
    unfold Ź at l2
    simp at l2
    omega
   subst hi2
   unfold Ź at e2
   rw[List.getElem?_append_right (by simp)] at e2
   have ev:v=w:=by simpa using e2
   subst ev
   have ex:px=x:=by
    have:=e1
    rw[show(qR X (N0 ++ [px]) qual scope cl f c' A s H).N=N0 ++ [px] from rfl,List.getElem?_append_right (by omega),hlen] at this
    simpa using this
   subst ex
   exact⟨u,r,.inl ⟨hpx,by simp[List.lookup]⟩⟩
 ·obtain⟨w,o,ho,hd⟩:=I.cell x c (c2 x c e)
  exact⟨w,o,kp _ _ ho,hd⟩
 ·show _=(N0 ++ [px]).length
  unfold Ź
  simp[hlen]
def sI{te:TE}{pm ctv:Value}(hsc:X.env.scope=sc)(hk:scope.kind=.function)(hcap:aK X sc scope N0 js)(hlen:js.length=N0.length)(hcell:∀y∈scope.names,y.2≠ .cell)(hpx:scope.names.lookup px=some .local)(hco:scope.isCoroutine=false)(hgen:scope.isGenerator=false)
 (hA:A.frames=some X.stack)(hhd:A.handled=none)(Br:A.depth<recursionLimit)(c2:∀x c,cl.lookup x=some c->X.env.cells.lookup x=some c)(c3:∀y∈scope.names,y.2=.free->∃c,cl.lookup y.1=some c)
 (hbind:∀u:Value,bindArgs (PySem.W.kla_fn "<lambda>" qual params body scope cl pm (.ref c') ctv) ⟨[u],[]⟩=pure [(px,u)])
 (he:∀s H,PE (qR X (N0 ++ [px]) qual scope cl f c' A s H) body te)
 (I:Inv X pins σ H s)(hf:s.heap.get? f=some (PySem.W.kla_obj "<lambda>" qual params body scope cl pm c' ctv))(hc:H c'=some (.pZ qual)){v:V}{u:Value}(r:RelV v u){Q:VK}{E:Value->Shared->Prop}(h:te (Ź js σ v) H Q) :
 wpAny (model X.prog X.w) A (call (.ref f) [u]) (EP X pins σ Q) E s:=by
 refine wpAny_call (PySem.W.kla_callFunE Br hf rfl hco hgen rfl (I.hok c' _ hc) ?_)
 rw[hbind u]
 refine wpAny_pure (wpAny_newFunctionEnv hcell (λy hy=>by rw[List.mem_singleton.mp hy];exact hpx) (λh₁ hns hsb=>⟨(I.nolimit).fresh _ hsb,?_⟩) hk)
 have kp:∀b o,s.heap.get? b=some o->h₁.get? b=some o:=λb o e=>hsb.extBut b o (Nat.ne_of_lt (Heap.lt_size e)) (Heap.get?_push_of_some _ e)
 have J:=wZ (qual:=qual) (f:=f) (c':=c') (tk:=s.toks + [(px,u)].length) hsc hk hcap hlen hcell hpx hA hhd c2 c3 I r hns kp
 show codeAny _ _ (.expr body (PySem.W.envX qual scope s.heap.objs.size f (.ref c') cl)) _ _
 refine PySem.W.kla_codeExpr (wpAny_mono (he s H [] _ _ H Q J h) (λy s' hy=>?_) λ_ _ z=>z.elim)
 obtain⟨w,H',J',Fo,q⟩:=hy
 exact I.after ⟨w,H',J'.os,J'.bare,J'.base,J'.hok,Fo,q⟩
end
section
variable{X:Cx}{pins:List (Addr×Obj)}{σ:L2.St}{H:Hp}{s:Shared}
def i_{fp:List Addr}{t:Sem Value}{A:Around}{Qv:V->Hp->Prop}{R:Value->Shared->Prop}(I:Inv X pins σ H s)(hf:∀b∈fp,ř X pins H b)(ho:∀b∈fp,∃o,s.heap.get? b=some o/\∀v,o.data≠ .cell v)
 (run:∀bF,Inv X bF σ H s->wpAny (model X.prog X.w) A t (EP X bF σ Qv) (λ_ _=>False) s)
 (k:∀y u H2 s2,Inv X pins σ H2 s2->RelV y u->Qv y H2->(∀b∈fp,ř X pins H2 b)->(∀b∈fp,∀o,s.heap.get? b=some o->s2.heap.get? b=some o)->R u s2):wpAny (model X.prog X.w) A t R (λ_ _=>False) s:=by
 refine wpAny_mono (run _ (I.pinned hf ho)) (λu s2 ⟨y,H2,I2,r,q⟩=>?_) λ_ _ z=>z
 refine k y u H2 s2 I2.ų r q (λb hb=>?_) λb hb o e=>(I2.pin (b,o) (List.mem_append_right _ (List.mem_append_right _ (ļ hb e)))).1
 obtain⟨o,e,_⟩:=ho b hb
 exact⟨(I2.pin (b,o) (List.mem_append_right _ (List.mem_append_right _ (ļ hb e)))).2.1,(hf b hb).2⟩
def Ŕ{h':Heap}{t':Nat}{b:Addr}(I:Inv X pins σ H s)(hf:ř X pins H b)(k:∀c o,c≠b->s.heap.get? c=some o->h'.get? c=some o):Inv X pins σ H {s with heap:=h',toks:=t'}:=
 let ⟨f0,f1,_,f3,f4,f5⟩:=hf
 I.turned k f0 f1 f3 f4 f5
variable{R:Result->Shared->Prop}{f l S It:Addr}{oF:Obj}{xs:List V}(ks:Nat->Int)(W:Nat->Hp->Prop)
def oJ{h:Heap}{l It:Addr}{its:Array Value}{i:Nat}(hl:h.IsList l its)(hit:h.IsListIter It l i):l≠It:=λz=>by
 obtain⟨o,e,c,_⟩:=hl
 obtain⟨o',e',c',_⟩:=hit
 rw[z,e'] at e
 cases e
 rw[c] at c'
 exact absurd (Value.type.inj c') (by decide)
def mK{h:Heap}{S It l:Addr}{vs:Array Value}{n i:Nat}(hS:h.get? S=some (seqObj "list" vs n))(hit:h.IsListIter It l i):S≠It:=λz=>by
 obtain⟨o',e',c',_⟩:=hit
 rw[z,e'] at hS
 cases hS
 exact absurd (Value.type.inj c') (by decide)
def qF(hh:X.A.handled=none)(hl:∀k H,W k H->ń X.K H l xs)(Jl:∀v,oF.data≠ .cell v)(Jm:f≠S)(Jo:f≠It)
 (turn:∀k v,xs[k]?=some v->∀pins H s u,Inv X pins σ H s->W k H->RelV v u->s.heap.get? f=some oF->wpAny (model X.prog X.w) X.A.in1 (call (.ref f) [u]) (EP X pins σ λy H'=>y=.int (ks k)/\W (k+1) H') (λ_ _=>False) s)
 (hR:∀i v u H s,xs[i]?=some v->RelV v u->(∀j,j<xs.length->ks i<=ks j/\(j<i->ks i<ks j))->Inv X pins σ H s->W xs.length H->R (.ok (.ret u)) s) :
 ∀(r j i:Nat) (H:Hp) (s:Shared) (vb:Value) (tb:Tok) (c:Nat) (v:V),xs.length-(j+1)=r->j+1<=xs.length->Inv X pins σ H s->W (j+1) H->
  s.heap.get? S=some (seqObj "list" #[vb,.int (ks i) tb] c)->s.heap.IsListIter It l (j+1)->s.heap.get? f=some oF->(∀b∈[S,It,f],ř X pins H b)->xs[i]?=some v->RelV v vb->i<=j->(∀j',j'<=j->ks i<=ks j'/\(j'<i->ks i<ks j'))->
  codeAny (model X.prog X.w) X.A (.builtin "min.loop" ⟨[.ref It,.ref f,.ref S],[]⟩) R s:=by
 have hname:(toString "min" ++ toString ".loop" :String)= "min.loop" := by decide
 intro r
 induction r with
 |zero=>
  intro j i H s vb tb c v hr hj I w hS hit hF Bs hv rv hij hbest
  have hin:j+1=xs.length:=by omega
  obtain⟨its,ri,pl,_⟩:=I.list (hl _ _ w)
  have hsz:its.toArray.size=xs.length:=by rw[List.size_toArray,ri.length]
  have W':=Walks.list (prog:=X.prog) (w:=X.w) (A:=X.A.in1) hh It l (oJ pl.isList hit) its.toArray
  refine codeAny_builtin PySem.F.entry_min_loop ?_
  rw[Around.under_plainId PySem.F.plain_min_loop _]
  show wpAny _ X.A.in1 (seqItems? (.ref S) >>= _) _ _ _
  refine wpAny_bind (wpAny_seqItems hS rfl ?_)
  show wpAny _ X.A.in1 (tryCatch (pyNext (.ref It)) _ >>= _) _ _ _
  refine wpAny_bind (wpAny_tryCatch (W'.done _ _ _ ⟨by rw[hsz,<-hin];exact hit,pl.isList⟩ λh' tk' hk'=>?_))
  have I1:=Ŕ (h':=h') (t':=tk') I (Bs It (by simp)) λb o hb e=>hk' b o (by simpa using hb) e
  have hS':=hk' S _ (by simpa using mK hS hit) hS
  have s1:=Heap.SameBut.update h' S (Obj.mapSeq λ_=>(#[]:Array Value))
  show wpAny _ X.A.in1 (updateSeq S (λ_=> #[]) >>= _) _ _ _
  refine wpAny_bind ?_
  refine wpAny_updateSeq hS' rfl (wpAny_bind (wpAny_letGo (wpAny_pure ?_)))
  exact hR i v vb H _ hv rv (λj' hj'=>hbest j' (by omega)) (Ŕ (t':=tk') I1 (Bs S (by simp)) λb o hb e=>(s1.2 b hb).trans e) (hin▸w)
 |succ r ih=>
  intro j i H s vb tb c v hr hj I w hS hit hF Bs hv rv hij hbest
  have hlt:j+1<xs.length:=by omega
  obtain⟨its,ri,pl,_⟩:=I.list (hl _ _ w)
  have hsz:its.toArray.size=xs.length:=by rw[List.size_toArray,ri.length]
  have W':=Walks.list (prog:=X.prog) (w:=X.w) (A:=X.A.in1) hh It l (oJ pl.isList hit) its.toArray
  refine codeAny_builtin PySem.F.entry_min_loop ?_
  rw[Around.under_plainId PySem.F.plain_min_loop _]
  show wpAny _ X.A.in1 (seqItems? (.ref S) >>= _) _ _ _
  refine wpAny_bind (wpAny_seqItems hS rfl ?_)
  show wpAny _ X.A.in1 (tryCatch (pyNext (.ref It)) _ >>= _) _ _ _
  refine wpAny_bind (wpAny_tryCatch (W'.item (j+1) _ _ _ (by rw[hsz];exact hlt) ⟨hit,pl.isList⟩ λu h' tk' hP hst' hk'=>?_))
  have hu:its[j+1]?=some u:=by simpa using hP
  have hx2:xs[j+1]?=some xs[j+1]:=List.getElem?_eq_getElem hlt
  have ru:RelV xs[j+1] u:=by
   obtain⟨u2,h2,r2⟩:=ri.get hx2
   rw[hu] at h2
   cases h2
   exact r2
  obtain⟨oI',hoI',hoc,hod⟩:=id hst'.1
  have I1:=Ŕ (h':=h') (t':=tk') I (Bs It (by simp)) λb o hb e=>hk' b o (by simpa using hb) e
  have hS1:=hk' S _ (by simpa using mK hS hit) hS
  have Bt:=hk' f _ (by simpa using Jo) hF
  show wpAny _ X.A.in1 (tryCatch (holding [u] (call (.ref f) [u])) _ >>= _) _ _ _
  refine wpAny_bind (wpAny_tryCatch (wpAny_holding (wpAny_mono (i_ (fp:=[S,It,f]) I1 Bs (λb hb=>?_) (λbF I'=>turn (j+1) _ hx2 bF H _ u I' w ru Bt) λy u2 H2 s2 I2 ry ⟨ey,w2⟩ qG Bu=>?_) (λ_ _ z=>z) λ_ _ hF=>hF.elim)))
  ·rcases List.mem_cons.mp hb with rfl|hb
   ·exact⟨_,hS1,λv z=>by cases z⟩
   ·rcases List.mem_cons.mp hb with rfl|hb
    ·exact⟨oI',hoI',λv z=>by rw[hod] at z;cases z⟩
    ·rw[List.mem_singleton.mp hb]
     exact⟨oF,Bt,Jl⟩
  ·subst ey
   obtain⟨t2,rfl⟩:=ry
   have hS2:=Bu S (by simp) _ hS1
   have Jp:=Bu It (by simp) _ hoI'
   have Jq:=Bu f (by simp) _ Bt
   have hit2:s2.heap.IsListIter It l (j+1+1):=⟨oI',Jp,hoc,hod⟩
   show wpAny _ X.A.in1 (tryCatch (holding [u,.int (ks (j+1)) t2] (richCompare .Lt (.int (ks (j+1)) t2) (.int (ks i) tb) >>= _)) _ >>= _) _ _ _
   refine wpAny_bind (wpAny_tryCatch (wpAny_holding (wpAny_bind (CmpOf.ints_lt (prog:=X.prog) (w:=X.w) (A:=X.A.in1) (P:=λi v=>∃t,v=.int (ks i) t) ks (λi v h=>h) (j+1) i _ _ _ _ _ ⟨t2,rfl⟩ ⟨tb,rfl⟩ ?_))))
   refine wpAny_bind (wpAny_holding (wpAny_truthy_bool ?_))
   refine wpAny_bind (wpAny_letGo (wpAny_pure ?_))
   by_cases hb':ks (j+1)<ks i
   ·have s1:=Heap.SameBut.update s2.heap S (Obj.mapSeq λ_=> #[u,.int (ks (j+1)) t2])
    obtain⟨cc,hc2⟩:∃cc,(s2.heap.update S (Obj.mapSeq λ_=> #[u,.int (ks (j+1)) t2])).get? S=some (seqObj "list" #[u,.int (ks (j+1)) t2] cc):=⟨_,get?_update_seq hS2 λ_=> #[u,.int (ks (j+1)) t2]⟩
    simp only[hb',decide_true,if_true]
    refine wpAny_bind ?_
    refine wpAny_updateSeq hS2 rfl (wpAny_bind (wpAny_letGo ?_))
    rw[hname]
    have Vh:=mK hS2 hit2
    refine wpAny_pure ⟨plainId_quiet PySem.F.plain_min_loop _,ih (j+1) (j+1) H2 _ u t2 cc _ (by omega) hlt (Ŕ (t':=s2.toks) I2 (qG S (by simp)) λb o hb e=>(s1.2 b hb).trans e) w2 hc2 ⟨oI',(s1.2 It Vh.symm).trans Jp,hoc,hod⟩ ((s1.2 f Jm).trans Jq) qG hx2 ru (Nat.le_refl _) λj' hj'=>?_⟩
    by_cases e:j'=j+1
    ·subst e
     exact⟨by omega,λ_=>by omega⟩
    ·have hb1:=hbest j' (by omega)
     have hb2:=hb1.1
     exact⟨by omega,λ_=>by omega⟩
   ·simp only[hb',decide_false,Bool.false_eq_true,if_false]
    refine wpAny_bind (wpAny_letGo ?_)
    rw[hname]
    refine wpAny_pure ⟨plainId_quiet PySem.F.plain_min_loop _,ih (j+1) i H2 s2 vb tb c v (by omega) hlt I2 w2 hS2 hit2 Jq qG hv rv (by omega) λj' hj'=>?_⟩
    by_cases e:j'=j+1
    ·subst e
     exact⟨by omega,λ_=>by omega⟩
    ·exact hbest j' (by omega)
def qH{Q:Value->Shared->Prop}{E:Value->Shared->Prop}(hh:X.A.handled=none)(hl:∀k H,W k H->ń X.K H l xs)(Jl:∀v,oF.data≠ .cell v)(hne:0<xs.length)
 (turn:∀k v,xs[k]?=some v->∀pins H s u,Inv X pins σ H s->W k H->RelV v u->s.heap.get? f=some oF->wpAny (model X.prog X.w) X.A.in1 (call (.ref f) [u]) (EP X pins σ λy H'=>y=.int (ks k)/\W (k+1) H') (λ_ _=>False) s)
 (hQ:∀i v u H s,xs[i]?=some v->RelV v u->(∀j,j<xs.length->ks i<=ks j/\(j<i->ks i<ks j))->Inv X pins σ H s->W xs.length H->Q u s)
 (I:Inv X pins σ H s)(w0:W 0 H)(hF:s.heap.get? f=some oF)(hfo:ř X pins H f) :
 wpAny (model X.prog X.w) X.A (call (.builtin "min") [.ref l] [(Str.ofString "key",.ref f)]) Q E s:=by
 have hname:(toString "min" ++ toString ".loop" :String)= "min.loop" := by decide
 obtain⟨its,ri,pl,_⟩:=I.list (hl _ _ w0)
 have hls:=pl.isList
 obtain⟨ol,hol,_⟩:=id hls
 have hll:l<s.heap.objs.size:=Heap.lt_size hol
 refine kmk_tree PySem.F.kind_min PySem.F.plain_min PySem.F.entry_min (kmk_min_key _ _) ?_
 show wpAny _ X.A.in1 (Builtin.Builtins.bindParams "min" ["key","default"] 0 ⟨[],[(Str.ofString "key",.ref f)]⟩ >>= _) _ _ s
 refine wpAny_bind (wpAny_of_eq (show Builtin.Builtins.bindParams "min" ["key","default"] 0 ⟨[],[(Str.ofString "key",.ref f)]⟩=pure [some (.ref f),none] from rfl) ?_)
 refine wpAny_bind (wpAny_pure ?_)
 refine wpAny_bind (wpAny_pyIter_list hls ?_)
 refine wpAny_bind (wpAny_newList ?_ (Nat.zero_le _))
 rw[hname]
 have hS:(s.heap.push {cls:=.type "list_iterator",data:=.fields #[.ref l,.int 0 0]}).objs.size=s.heap.objs.size+1:=size_push' ..
 generalize hSd:(s.heap.push {cls:=.type "list_iterator",data:=.fields #[.ref l,.int 0 0]}).objs.size=S at hS ⊢
 refine wpAny_pure ⟨plainId_quiet PySem.F.plain_min_loop _,?_⟩
 have k0:∀b o,s.heap.get? b=some o->((s.heap.push {cls:=.type "list_iterator",data:=.fields #[.ref l,.int 0 0]}).push (seqObj "list" #[] 0)).get? b=some o:=λb o e=>Heap.get?_push_of_some _ (Heap.get?_push_of_some _ e)
 have gI:((s.heap.push {cls:=.type "list_iterator",data:=.fields #[.ref l,.int 0 0]}).push (seqObj "list" #[] 0)).get? s.heap.objs.size=some {cls:=.type "list_iterator",data:=.fields #[.ref l,.int 0 0]}:=
  Heap.get?_push_of_some _ (Heap.get?_push_size _ rfl)
 have gS:((s.heap.push {cls:=.type "list_iterator",data:=.fields #[.ref l,.int 0 0]}).push (seqObj "list" #[] 0)).get? S=some (seqObj "list" #[] 0):=by rw[<-hSd];exact Heap.get?_push_size _ rfl
 have I0:Inv X pins σ H {s with heap:=(s.heap.push {cls:=.type "list_iterator",data:=.fields #[.ref l,.int 0 0]}).push (seqObj "list" #[] 0)}:=I.kept (t':=s.toks) k0
 have fI:ř X pins H s.heap.objs.size:=I.g_ (Nat.le_refl _) (I.hok.fresh (Nat.le_refl _))
 have fS:ř X pins H S:=I.g_ (by omega) (I.hok.fresh (by omega))
 have Rz:f<s.heap.objs.size:=Heap.lt_size hF
 have Jo:f≠s.heap.objs.size:=Nat.ne_of_lt Rz
 have Jm:f≠S:=Nat.ne_of_lt (by rw[hS];exact Nat.lt_succ_of_lt Rz)
 have hSI:S≠s.heap.objs.size:=by omega
 have Bs:∀b∈[S,s.heap.objs.size,f],ř X pins H b:=λb hb=>by
  rcases List.mem_cons.mp hb with rfl|hb
  ·exact fS
  ·rcases List.mem_cons.mp hb with rfl|hb
   ·exact fI
   ·rw[List.mem_singleton.mp hb];exact hfo
 obtain⟨Bv,RB,Vi,_⟩:=I0.list (hl _ _ w0)
 have hsz:Bv.toArray.size=xs.length:=by rw[List.size_toArray,RB.length]
 have W':=Walks.list (prog:=X.prog) (w:=X.w) (A:=X.A.in1) hh s.heap.objs.size l (Nat.ne_of_lt hll) Bv.toArray
 refine codeAny_builtin PySem.F.entry_min_loop ?_
 rw[Around.under_plainId PySem.F.plain_min_loop _]
 show wpAny _ X.A.in1 (seqItems? (.ref _) >>= _) _ _ _
 refine wpAny_bind (wpAny_seqItems gS rfl ?_)
 show wpAny _ X.A.in1 (tryCatch (pyNext (.ref s.heap.objs.size)) _ >>= _) _ _ _
 refine wpAny_bind (wpAny_tryCatch (W'.item 0 _ _ _ (by rw[hsz];exact hne) ⟨⟨_,gI,rfl,rfl⟩,Vi.isList⟩ λu h' tk' hP hst' hk'=>?_))
 have hu:Bv[0]?=some u:=by simpa using hP
 have hx0:xs[0]?=some xs[0]:=List.getElem?_eq_getElem hne
 have ru:RelV xs[0] u:=by
  obtain⟨u2,h2,r2⟩:=RB.get hx0
  rw[hu] at h2
  cases h2
  exact r2
 obtain⟨oI',hoI',hoc,hod⟩:=id hst'.1
 have I1:=Ŕ (h':=h') (t':=tk') I0 fI λb o hb e=>hk' b o (by simpa using hb) e
 have hS1:=hk' S _ (by simpa using hSI) gS
 have Bt:=hk' f _ (by simpa using Jo) (k0 _ _ hF)
 show wpAny _ X.A.in1 (tryCatch (holding [u] (call (.ref f) [u])) _ >>= _) _ _ _
 refine wpAny_bind (wpAny_tryCatch (wpAny_holding (wpAny_mono (i_ (fp:=[S,s.heap.objs.size,f]) I1 Bs (λb hb=>?_) (λbF I'=>turn 0 _ hx0 bF H _ u I' w0 ru Bt) λy u2 H2 s2 I2 ry ⟨ey,w2⟩ qG Bu=>?_) (λ_ _ z=>z) λ_ _ hF=>hF.elim)))
 ·rcases List.mem_cons.mp hb with rfl|hb
  ·exact⟨_,hS1,λv z=>by cases z⟩
  ·rcases List.mem_cons.mp hb with rfl|hb
   ·exact⟨oI',hoI',λv z=>by rw[hod] at z;cases z⟩
   ·rw[List.mem_singleton.mp hb]
    exact⟨oF,Bt,Jl⟩
 ·subst ey
  obtain⟨t2,rfl⟩:=ry
  have hS2:=Bu S (by simp) _ hS1
  have Jp:=Bu s.heap.objs.size (by simp) _ hoI'
  have Jq:=Bu f (by simp) _ Bt
  have s1:=Heap.SameBut.update s2.heap S (Obj.mapSeq λ_=> #[u,.int (ks 0) t2])
  obtain⟨cc,hc2⟩:∃cc,(s2.heap.update S (Obj.mapSeq λ_=> #[u,.int (ks 0) t2])).get? S=some (seqObj "list" #[u,.int (ks 0) t2] cc):=⟨_,get?_update_seq hS2 λ_=> #[u,.int (ks 0) t2]⟩
  show wpAny _ X.A.in1 (updateSeq S (λ_=> #[u,.int (ks 0) t2]) >>= _) _ _ _
  refine wpAny_bind ?_
  refine wpAny_updateSeq hS2 rfl ?_
  rw[hname]
  refine wpAny_pure ⟨plainId_quiet PySem.F.plain_min_loop _,qF ks W hh hl Jl Jm Jo turn (λi v u' H' s' a1 a2 a3 a4 a5=>hQ i v u' H' s' a1 a2 a3 a4 a5) _ 0 0 H2 _ u t2 cc _ rfl hne (Ŕ (t':=s2.toks) I2 (qG S (by simp)) λb o hb e=>(s1.2 b hb).trans e) w2 hc2 ⟨oI',(s1.2 _ hSI.symm).trans Jp,hoc,hod⟩ ((s1.2 f Jm).trans Jq) qG hx0 ru (Nat.le_refl _) λj' hj'=>?_⟩
  have e:j'=0:=by omega
  subst e
  exact⟨by omega,λh=>absurd h (Nat.lt_irrefl _)⟩
end
def FQ(K:PySem.W.Frag)(ta:TA)(js:List Nat)(te:TE):TE:=λσ H Q=>ta σ H λvs H1=>∃l xs,vs=[.ref l]/\ń K H1 l xs/\0<xs.length/\∀c q H2,Same H1 H2->H2 c=some (.pZ q)->(∀a,H1 a=none->H2 a=none\/a=c)->
 ∃(ks:Nat->Int) (W:Nat->Hp->Prop),W 0 H2/\(∀k H,W k H->Same H2 H)/\(∀k v H,xs[k]?=some v->W k H->te (Ź js σ v) H λy H'=>y=.int (ks k)/\W (k+1) H')/\
  ∀i v H,xs[i]?=some v->(∀j,j<xs.length->ks i<=ks j/\(j<i->ks i<ks j))->W xs.length H->Q v H
section
variable{X:Cx}{x px:Str}{c P:Addr}{params:Arguments}{body e:Expr}{scope:Scope}{p pos xg kpos:Pos}{ta:TA}{te:TE}
def xq(N0:List Str)(js:List Nat)(sc:Scope)(hsc:X.env.scope=sc)(hcalm:X.calm=true)(Br:X.A.depth<recursionLimit)(hx:x∈lams)(ht:PySem.W.tabIn X.K x=some (c,P))(hcode:X.env.code=.ref c)(hq:X.env.qual=x ++ ".<locals>.")
 (hg:Gl X "min")(hm:X.mg "min" =none)(ha:PA X [e] ta)(he:∀cl f c' s H,PE (qR X (N0 ++ [px]) (Ŧ x) scope cl f c' X.A.in1 s H) body te)(hcap:aK X sc scope N0 js)(hlen:js.length=N0.length:=by rfl)
 (hbind:∀(cl:List (Str×Addr)) (pm ctv:Value) (c':Addr) (u:Value),bindArgs (PySem.W.kla_fn "<lambda>" (Ŧ x) params body scope cl pm (.ref c') ctv) ⟨[u],[]⟩=pure [(px,u)]:=by intros;rfl)
 (hk:scope.kind=.function:=by rfl)(hcell:∀y∈scope.names,y.2≠ .cell:=by decide +kernel)(hpx:scope.names.lookup px=some .local:=by rfl)(hco:scope.isCoroutine=false:=by rfl)(hgen:scope.isGenerator=false:=by rfl)
 (hfree:∀y∈scope.names,y.2=.free->(sc.names.lookup y.1=some .cell\/sc.names.lookup y.1=some .free):=by decide +kernel)(hdef:defaultsOf params X.env=([],[]):=by rfl)
 (hst:starEach [e] X.env=[(false,eval e X.env)]:=by rfl)(hpl:(backTo pos (starEach [e] X.env)).any (·.1)=false:=by rfl) :
 PE X (.Call (.Name "min" p) [e] [⟨some "key",.Lambda params body scope xg,kpos⟩] pos) (FQ X.K ta js te):=by
 intro pins s σ H Q I h
 obtain⟨cl,c1,c2,c3⟩:=ak (scope:=scope) (env:=X.env) λy hy hf=>I.ok.has y.1 (by
  have:=hfree y hy hf
  rw[<-hsc] at this
  exact this)
 have hh:=I.ok.hd hcalm
 refine wpAny_Call_Name_kw (bM I hg hm (show bootBuiltins "min" =some (.builtin "min") by kernel_rfl) ?_ (by decide) (by decide))
 refine callWith_kw (Ļ (ha pos pins s σ H _ I h) λus s1 ⟨vs,H1,I1,r1,q1⟩=>?_) (by rw[hst];rfl) hpl rfl rfl
 obtain⟨l,xs,rfl,hs1,hne,q1⟩:=q1
 have Vj:us=[.ref l]:=by
  cases r1 with
  |cons a b=>
   cases b
   exact congrArg (λz=>[z]) (show _=Value.ref l from a)
 subst Vj
 show wpAny _ _ (evalAll ((do let v <-eval (.Lambda params body scope xg) X.env;standAt pos;pure v)::[])) _ _ s1
 refine wpAny_evalAll_cons (wpAny_bind (sG I1 hx ht hcode hq hdef c1 λf c' pm ctv H2 s2 I2 nw sm hc hf fo=>wpAny_bind (wpAny_standAt (wpAny_pure ?_))))
 refine wpAny_evalAll_nil ?_
 obtain⟨ks,W,w0,wm,wt,wq⟩:=q1 c' _ H2 sm hc nw
 refine qH (xs:=xs) ks W hh (λk H w=>(wm k H w).seq (sm.seq hs1)) (λv z=>by cases z) hne (λk v hv bF H' s' u I' w ru hf'=>?_) (λi v u H' s' hv ru hb I' w=>⟨v,H',I',ru,wq i v H' hv hb w⟩) I2 w0 hf fo
 exact sI (A:=X.A.in1) (te:=te) (N0:=N0) (js:=js) hsc hk hcap hlen hcell hpx hco hgen I.ok.frames hh Br c2 c3 (hbind cl pm ctv c') (λs H=>he cl f c' s H) I' hf' (wm k H' w c' _ hc) ru (wt k v H' hv w)
end
end M5
namespace P
def Mq:PySem.Expr->Bool
 | .Starred .. =>false
 |_=>true
def ŏ{e:PySem.Expr}{es:List PySem.Expr}{env:PySem.Env}(h:Mq e=true):PySem.starEach (e::es) env=(false,PySem.eval e env)::PySem.starEach es env:=by
 cases e<;>first|rfl|cases h
def sJ{a b:PySem.Expr}{env:PySem.Env}(h:Mq a=true)(h2:Mq b=true):PySem.starEach [a,b] env=[(false,PySem.eval a env),(false,PySem.eval b env)]:=by
 rw[ŏ h,ŏ h2];rfl
open PySem PySem.Spec PyProof.Rows L2 M2
structure KK where
 K:PySem.W.Frag
 cm:String->Addr
abbrev kk(X:Cx)(cm:String->Addr):KK:=⟨X.K,cm⟩
inductive PV where
 |non|bl (b:Bool)|int (i:Int)|str (x:Str)|tup (xs:List PV)|lst (xs:List PV)
 |ins (C:String) (ns:List Str) (xs:List PV)|xc (C:String) (ns:List Str) (xs:List PV)|ty (n:String)|cls (C:String)
def xo(a C:Addr)(d:Option Addr):HO:=.ext λh=>∃o vs,h.get? a=some o/\o.cls=.ref C/\o.dict=d/\o.data=.fields vs
def kE(F:Hp)(d:Option Addr)(fs:List (Str×V)):Prop:=(d=none/\fs=[])\/∃a,d=some a/\F a=some (.xd fs)
mutual
def Rep(K:KK)(F:Hp):PV->V->Prop
 | .non,v=>v=.non
 | .bl b,v=>v=.bl b
 | .int i,v=>v=.int i
 | .str x,v=>v=.str x
 | .tup ps,v=>∃a xs,v=.ref a/\Ų K.K F a xs/\ĉ K F ps xs
 | .lst ps,v=>∃a xs,v=.ref a/\ń K.K F a xs/\ĉ K F ps xs
 | .ins C ns ps,v=>∃a dx fs,v=.ref a/\F a=some (.ins (K.cm C) dx fs)/\fs.map (·.1)=ns/\ĉ K F ps (fs.map (·.2))
 | .xc C ns ps,v=>∃a d fs,v=.ref a/\F a=some (xo a (K.cm C) d)/\kE F d fs/\fs.map (·.1)=ns/\ĉ K F ps (fs.map (·.2))
 | .ty n,v=>v=.ty n
 | .cls C,v=>v=.ref (K.cm C)
def ĉ(K:KK)(F:Hp):List PV->List V->Prop
 | [],xs=>xs=[]
 |p::ps,xs=>∃x r,xs=x::r/\Rep K F p x/\ĉ K F ps r
end
section
variable{K:KK}{F F' H H':Hp}
def kE.same{d:Option Addr}{fs:List (Str×V)}(e:Same F F')(h:kE F d fs):kE F' d fs:=by
 rcases h with h|⟨a,h1,h2⟩
 ·exact .inl h
 ·exact .inr ⟨a,h1,e _ _ h2⟩
mutual
theorem Rep.same(e:Same F F'):∀(p:PV) (v:V),Rep K F p v->Rep K F' p v
 | .non,_,h=>by unfold Rep at h ⊢;exact h
 | .bl _,_,h=>by unfold Rep at h ⊢;exact h
 | .int _,_,h=>by unfold Rep at h ⊢;exact h
 | .str _,_,h=>by unfold Rep at h ⊢;exact h
 | .ty _,_,h=>by unfold Rep at h ⊢;exact h
 | .cls _,_,h=>by unfold Rep at h ⊢;exact h
 | .tup ps,_,h=>by
   unfold Rep at h ⊢
   obtain⟨a,xs,h1,h2,h3⟩:=h
   exact⟨a,xs,h1,Same.tup e h2,ĉ.same e ps xs h3⟩
 | .lst ps,_,h=>by
   unfold Rep at h ⊢
   obtain⟨a,xs,h1,h2,h3⟩:=h
   exact⟨a,xs,h1,e.seq h2,ĉ.same e ps xs h3⟩
 | .ins C ns ps,_,h=>by
   unfold Rep at h ⊢
   obtain⟨a,dx,fs,h1,h2,h3,h4⟩:=h
   exact⟨a,dx,fs,h1,e _ _ h2,h3,ĉ.same e ps _ h4⟩
 | .xc C ns ps,_,h=>by
   unfold Rep at h ⊢
   obtain⟨a,d,fs,h1,h2,hd,h3,h4⟩:=h
   exact⟨a,d,fs,h1,e _ _ h2,hd.same e,h3,ĉ.same e ps _ h4⟩
theorem ĉ.same(e:Same F F'):∀(ps:List PV) (xs:List V),ĉ K F ps xs->ĉ K F' ps xs
 | [],_,h=>by unfold ĉ at h ⊢;exact h
 |p::ps,_,h=>by
  unfold ĉ at h ⊢
  obtain⟨x,r,h1,h2,h3⟩:=h
  exact⟨x,r,h1,Rep.same e p x h2,ĉ.same e ps r h3⟩
end
theorem ĉ.pr:∀{ps:List PV} {vs:List V},ĉ K F ps vs->Paired (Rep K F) ps vs
 | [],_,h=>by unfold ĉ at h;subst h;exact .nil
 |p::ps,_,h=>by
  unfold ĉ at h
  obtain⟨x,r,rfl,h2,h3⟩:=h
  exact .cons h2 (ĉ.pr h3)
theorem ĉ.of:∀{ps:List PV} {vs:List V},Paired (Rep K F) ps vs->ĉ K F ps vs
 | [],_,.nil=>by unfold ĉ;rfl
 |p::ps,_,.cons h t=>by unfold ĉ;exact⟨_,_,rfl,h,ĉ.of t⟩
theorem ĉ.nil:ĉ K F [] []:=ĉ.of .nil
theorem ĉ.cons{p:PV}{v:V}{ps:List PV}{vs:List V}(h:Rep K F p v)(t:ĉ K F ps vs):ĉ K F (p::ps) (v::vs):=ĉ.of (.cons h t.pr)
theorem ĉ.length{ps:List PV}{vs:List V}(h:ĉ K F ps vs):ps.length=vs.length:=Paired.length h.pr
theorem ŝ{α β:Type}{G:α->β->Prop}:∀{l:List α} {m:List β} {i:Nat} {x:α},Paired G l m->l[i]?=some x->∃y,m[i]?=some y/\G x y
 |_,_,_,_,.nil,e=>by simp at e
 |_,_,0,_,.cons r _,e=>by simp at e;subst e;exact⟨_,rfl,r⟩
 |_,_,i+1,x,.cons _ t,e=>by
  obtain⟨y,h1,h2⟩:=ŝ (i:=i) (x:=x) t (by simpa using e)
  exact⟨y,by simpa using h1,h2⟩
theorem jF{α β:Type}{G:α->β->Prop}:∀{l l2:List α} {m m2:List β},Paired G l m->Paired G l2 m2->Paired G (l++l2) (m++m2)
 |_,_,_,_,.nil,t=>t
 |_,_,_,_,.cons r s,t=>.cons r (jF s t)
def ĉ.append{ps qs:List PV}{vs us:List V}(h:ĉ K F ps vs)(t:ĉ K F qs us):ĉ K F (ps++qs) (vs++us):=ĉ.of (jF h.pr t.pr)
end
inductive Slot where
 |no|sh (p:PV)|ow (ps:List PV)|bw (ps:List PV)|rc (C:String) (ns:List Str) (ps:List PV)|ot (ps qs:List PV)|ol (qI:List (List PV))
abbrev ĥ:=List Slot
def Slot.own:Slot->Bool
 | .ow _=>true
 | .rc _ _ _=>true
 | .ot _ _=>true
 | .ol _=>true
 |_=>false
structure Ctx where
 B:Hp
 F₀:Hp
 /-- what is lent here:read,never changed,never kept -/
 L:Hp
 /-- which objects may be held as one's own:address,dict,class -/
 S:Addr->Addr->String->Prop
def Ł(K:KK)(c:Ctx)(F H:Hp)(o:Option V):Slot->Prop
 | .no=>True
 | .sh p=>∃v,o=some v/\Rep K F p v
 | .ow ps=>∃a vs,o=some (.ref a)/\H a=some (.lst vs)/\F a=none/\c.B a=none/\ĉ K F ps vs
 | .bw ps=>∃a vs,o=some (.ref a)/\c.L a=some (.lst vs)/\ĉ K F ps vs
 | .rc C ns ps=>∃a dx fs,o=some (.ref a)/\H a=some (.ins (K.cm C) dx fs)/\F a=none/\c.B a=none/\fs.map (·.1)=ns/\ĉ K F ps (fs.map (·.2))/\c.S a dx C
 | .ot ps qs=>∃p a xs vs,o=some (.ref p)/\F p=some (.tup (xs ++ [.ref a]))/\ĉ K F ps xs/\H a=some (.lst vs)/\F a=none/\c.B a=none/\ĉ K F qs vs
 | .ol qI=>∃(p:Addr) (as:List Addr),o=some (.ref p)/\F p=some (.lst (as.map V.ref))/\as.Nodup/\Paired (λ(a:Addr) (ps:List PV)=>∃vs,H a=some (.lst vs)/\F a=none/\c.B a=none/\ĉ K F ps vs) as qI
def Slot.at_(F:Hp)(x:V)(a:Addr):Slot->Prop
 | .ot _ _=>∃p xs,x=.ref p/\F p=some (.tup (xs ++ [.ref a]))
 | .ol _=>∃(p:Addr) (as:List Addr),x=.ref p/\F p=some (.lst (as.map V.ref))/\a∈as
 | .ow _=>x=.ref a
 | .rc _ _ _=>x=.ref a
 |_=>False
def Ĥ(F:Hp)(σ:L2.St)(ρ:ĥ)(i:Nat)(a:Addr):Prop:=∃s x,ρ[i]?=some s/\σ[i]?=some (some x)/\s.at_ F x a
structure Rel(K:KK)(c:Ctx)(F H:Hp)(σ:L2.St)(ρ:ĥ):Prop where
 sub:Same F H
 base:Same c.B H
 f0:Same c.F₀ F
 ž:∀a,c.B a≠none->c.F₀ a=none->F a=none
 lent:∀a u,c.L a=some u->H a=some u/\F a=none
 lb:∀a,c.B a=none->c.L a=none
 len:σ.length=ρ.length
 slot:∀(i:Nat) s,ρ[i]?=some s->Ł K c F H ((σ[i]?).getD none) s
 sep:∀i j a,Ĥ F σ ρ i a->Ĥ F σ ρ j a->i=j
def dj(F:Hp)(σ:L2.St)(ρ:ĥ)(a:Addr):Prop:=∀i,¬Ĥ F σ ρ i a
section
variable{K:KK}{c:Ctx}{F F' H H':Hp}{σ:L2.St}{ρ:ĥ}{a:Addr}{o:HO}
def fQ{s:Slot}{x:V}(h:s.at_ F x a):s.own=true:=by
 cases s<;>first|rfl|exact h.elim
theorem fU:∀{as bs:List Addr},as.map V.ref=bs.map V.ref->as=bs
 | [],[],_=>rfl
 | [],_::_,h=>by cases h
 |_::_,[],h=>by cases h
 |a::as,b::bs,h=>by
  injection h with h1 h2
  injection h1 with h1
  rw[h1,fU h2]
def bf{ps qs:List PV}{x:V}{b:Addr}(h:(Slot.ot ps qs).at_ F x a)(h':(Slot.ot ps qs).at_ F x b):a=b:=by
 obtain⟨p,xs,h1,h2⟩:=h
 obtain⟨q,ys,h3,h4⟩:=h'
 rw[h1] at h3
 cases h3
 rw[h2] at h4
 have e:xs ++ [V.ref a]=ys ++ [V.ref b]:=by
  injection h4 with h4
  injection h4
 have e2:=congrArg List.getLast? e
 simp at e2
 exact e2
theorem sO{α β:Type}{G:α->β->Prop}:∀{l:List α} {m:List β} {x:α},Paired G l m->x∈l->∃y,y∈m/\G x y
 |_,_,_,.nil,h=>by simp at h
 |_,_,x,.cons r t,h=>by
  rcases List.mem_cons.mp h with rfl|h
  ·exact⟨_,List.mem_cons_self,r⟩
  ·obtain⟨y,h1,h2⟩:=sO t h
   exact⟨y,List.mem_cons_of_mem _ h1,h2⟩
theorem sS{α β:Type}{G G':α->β->Prop}:∀{l:List α} {m:List β},Paired G l m->(∀x y,x∈l->G x y->G' x y)->Paired G' l m
 |_,_,.nil,_=>.nil
 |_,_,.cons r t,h=>.cons (h _ _ List.mem_cons_self r) (sS t λx y hx=>h x y (List.mem_cons_of_mem _ hx))
def Ł.grow{s:Slot}{x:Option V}(h:Ł K c F H x s)(eF:Same F F')(eH:∀b vs,(∃y,x=some y/\s.at_ F y b)->H b=some vs->F b=none->c.B b=none->H' b=some vs/\F' b=none):Ł K c F' H' x s:=by
 cases s with
 |no=>trivial
 |sh p=>obtain⟨v,h1,h2⟩:=h;exact⟨v,h1,h2.same eF p v⟩
 |ow ps=>
  obtain⟨b,vs,h1,h2,h3,h4,h5⟩:=h
  obtain⟨e1,e2⟩:=eH b _ ⟨_,h1,rfl⟩ h2 h3 h4
  exact⟨b,vs,h1,e1,e2,h4,h5.same eF ps vs⟩
 |bw ps=>obtain⟨b,vs,h1,h2,h3⟩:=h;exact⟨b,vs,h1,h2,h3.same eF ps vs⟩
 |rc C ns ps=>
  obtain⟨b,dx,fs,h1,h2,h3,h4,h5,h6⟩:=h
  obtain⟨e1,e2⟩:=eH b _ ⟨_,h1,rfl⟩ h2 h3 h4
  exact⟨b,dx,fs,h1,e1,e2,h4,h5,h6.1.same eF ps _,h6.2⟩
 |ot ps qs=>
  obtain⟨p,b,xs,vs,h1,h2,h3,h4,h5,h6,h7⟩:=h
  obtain⟨e1,e2⟩:=eH b _ ⟨_,h1,p,xs,rfl,h2⟩ h4 h5 h6
  exact⟨p,b,xs,vs,h1,eF _ _ h2,h3.same eF ps xs,e1,e2,h6,h7.same eF qs vs⟩
 |ol qI=>
  obtain⟨p,as,h1,h2,h3,h4⟩:=h
  refine⟨p,as,h1,eF _ _ h2,h3,sS h4 λb ps hb ⟨vs,k1,k2,k3,k4⟩=>?_⟩
  obtain⟨e1,e2⟩:=eH b _ ⟨_,h1,p,as,rfl,h2,hb⟩ k1 k2 k3
  exact⟨vs,e1,e2,k3,k4.same eF ps vs⟩
def Ł.owned{s:Slot}{y:V}(h:Ł K c F H (some y) s)(ha:s.at_ F y a):∃u,H a=some u/\F a=none/\c.B a=none:=by
 cases s with
 |no=>exact ha.elim
 |sh p=>exact ha.elim
 |bw ps=>exact ha.elim
 |ow ps=>
  obtain⟨b,vs,h1,h2,h3,h4,h5⟩:=h
  rw[show y=.ref a from ha] at h1
  cases h1
  exact⟨_,h2,h3,h4⟩
 |rc C ns ps=>
  obtain⟨b,dx,fs,h1,h2,h3,h4,h5,h6⟩:=h
  rw[show y=.ref a from ha] at h1
  cases h1
  exact⟨_,h2,h3,h4⟩
 |ot ps qs=>
  obtain⟨p,b,xs,vs,h1,h2,h3,h4,h5,h6,h7⟩:=h
  cases h1
  cases bf (ps:=ps) (qs:=qs) ha ⟨p,xs,rfl,h2⟩
  exact⟨_,h4,h5,h6⟩
 |ol qI=>
  obtain⟨p,as,h1,h2,h3,h4⟩:=h
  cases h1
  obtain⟨q,bs,e1,e2,e3⟩:=ha
  cases e1
  rw[h2] at e2
  have e:as=bs:=fU (by injection e2 with e2;injection e2)
  subst e
  obtain⟨ps,_,vs,k1,k2,k3,_⟩:=sO h4 e3
  exact⟨_,k1,k2,k3⟩
def Ł.back{s:Slot}{y:V}(h:Ł K c F H (some y) s)(e:Same F F')(ha:s.at_ F' y a):s.at_ F y a:=by
 cases s with
 |ot ps qs=>
  obtain⟨p,b,xs,vs,h1,h2,h3,h4,h5,h6,h7⟩:=h
  cases h1
  cases bf (ps:=ps) (qs:=qs) ha ⟨p,xs,rfl,e _ _ h2⟩
  exact⟨p,xs,rfl,h2⟩
 |ol qI=>
  obtain⟨p,as,h1,h2,h3,h4⟩:=h
  cases h1
  obtain⟨q,bs,e1,e2,e3⟩:=ha
  cases e1
  rw[e _ _ h2] at e2
  have z:as=bs:=fU (by injection e2 with e2;injection e2)
  subst z
  exact⟨p,as,rfl,h2,e3⟩
 |_=>exact ha
def sU{i:Nat}{x:V}(e:σ[i]?=some (some x)):(σ[i]?).getD none=some x:=by rw[e];rfl
def sV{i:Nat}{x:V}(e:(σ[i]?).getD none=some x):σ[i]?=some (some x):=by
 cases q:σ[i]? with
 |none=>rw[q] at e;cases e
 |some y=>rw[q] at e;exact congrArg some e
theorem Rel.owned(r:Rel K c F H σ ρ){i:Nat}(h:Ĥ F σ ρ i a):(∃u,H a=some u)/\F a=none/\c.B a=none:=by
 obtain⟨s,x,h1,h2,h3⟩:=h
 have q:=r.slot i s h1
 rw[sU h2] at q
 obtain⟨u,q⟩:=q.owned h3
 exact⟨⟨u,q.1⟩,q.2⟩
theorem Rel.back(r:Rel K c F H σ ρ)(e:Same F F'){i:Nat}(h:Ĥ F' σ ρ i a):Ĥ F σ ρ i a:=by
 obtain⟨s,x,h1,h2,h3⟩:=h
 have q:=r.slot i s h1
 rw[sU h2] at q
 exact⟨s,x,h1,h2,q.back e h3⟩
def Rel.Bw(r:Rel K c F H σ ρ)(e:Same F F'):∀i j a,Ĥ F' σ ρ i a->Ĥ F' σ ρ j a->i=j:=λi j a h1 h2=>r.sep i j a (r.back e h1) (r.back e h2)
def Rel.jG(r:Rel K c F H σ ρ)(e:Same F F')(h:dj F σ ρ a):dj F' σ ρ a:=λi q=>h i (r.back e q)
def Rel.fresh(r:Rel K c F H σ ρ)(h:H a=none):dj F σ ρ a:=λi q=>by
 obtain⟨⟨u,e⟩,_⟩:=r.owned q
 rw[h] at e;cases e
def Rel.alloc(r:Rel K c F H σ ρ)(h:H a=none):Rel K c (upd F a o) (upd H a o) σ ρ where
 sub:=λb u e=>by
  by_cases hb:b=a
  ·subst hb;rw[Ē] at e ⊢;exact e
  ·rw[ć hb] at e ⊢;exact r.sub b u e
 base:=λb u e=>by
  have hb:b≠a:=λz=>by rw[z] at e;rw[r.base _ _ e] at h;cases h
  rw[ć hb];exact r.base b u e
 f0:=fun b u e=>by
   have hb:b≠a:=λz=>by rw[z] at e;rw[r.sub _ _ (r.f0 _ _ e)] at h;cases h
   rw[ć hb];exact r.f0 b u e
 ž:=λb h1 h2=>by
  have hb:b≠a:=λz=>by
   subst z
   cases q:c.B b with
   |none=>exact h1 q
   |some u=>rw[r.base _ _ q] at h;cases h
  rw[ć hb];exact r.ž b h1 h2
 lent:=λb u e=>by
  obtain⟨h1,h2⟩:=r.lent b u e
  have hb:b≠a:=λz=>by rw[z,h] at h1;cases h1
  rw[ć hb,ć hb];exact⟨h1,h2⟩
 lb:=r.lb
 len:=r.len
 slot:=λi s e=>by
  have hF:F a=none:=r.sub.free h
  refine(r.slot i s e).grow (Same.upd hF) λb u _ h1 h2 h3=>?_
  have hb:b≠a:=λz=>by rw[z,h] at h1;cases h1
  rw[ć hb,ć hb];exact⟨h1,h2⟩
 sep:=r.Bw (Same.upd (r.sub.free h))
def Rel.made(r:Rel K c F H σ ρ)(h:H a=none):Rel K c F (upd H a o) σ ρ where
 sub:=r.sub.trans (Same.upd h)
 base:=r.base.trans (Same.upd h)
 f0:=r.f0
 ž:=r.ž
 lent:=λb u e=>⟨Same.upd h b u (r.lent b u e).1,(r.lent b u e).2⟩
 lb:=r.lb
 len:=r.len
 slot:=λi s e=>(r.slot i s e).grow (Same.refl F) λb u _ h1 h2 h3=>⟨Same.upd h b u h1,h2⟩
 sep:=r.sep
def Rel.freeze(r:Rel K c F H σ ρ)(h:H a=some o)(hB:c.B a=none)(hF:F a=none)(hf:dj F σ ρ a):Rel K c (upd F a o) H σ ρ where
 sub:=λb u e=>by
  by_cases hb:b=a
  ·subst hb;rw[Ē] at e;rw[h];exact e
  ·rw[ć hb] at e;exact r.sub b u e
 base:=r.base
 f0:=r.f0.trans (Same.upd hF)
 ž:=λb h1 h2=>by
  have hb:b≠a:=λz=>h1 (by rw[z];exact hB)
  rw[ć hb];exact r.ž b h1 h2
 lent:=λb u e=>by
  have hb:b≠a:=λz=>by rw[z,r.lb a hB] at e;cases e
  rw[ć hb];exact r.lent b u e
 lb:=r.lb
 len:=r.len
 slot:=λi s e=>(r.slot i s e).grow (Same.upd hF) λb' u' ⟨y,e1',ha⟩ h1 h2 h3=>by
  have hb:b'≠a:=λz=>by
   subst z
   exact hf i ⟨s,y,e,sV e1',ha⟩
  rw[ć hb];exact⟨h1,h2⟩
 sep:=r.Bw (Same.upd hF)
def Ř{α:Type}{l:List α}{i j:Nat}{x y:α}(h:(l.set i x)[j]?=some y):(j=i/\y=x/\i<l.length)\/(j≠i/\l[j]?=some y):=by
 by_cases hj:j=i
 ·subst hj
  have hl:j<l.length:=by
   have:=(List.getElem?_eq_some_iff.mp h).1
   simpa using this
  rw[List.getElem?_set_self hl] at h
  exact .inl ⟨rfl,(Option.some.inj h).symm,hl⟩
 ·rw[List.getElem?_set_ne (Ne.symm hj)] at h
  exact .inr ⟨hj,h⟩
def sW{l:L2.St}{i:Nat}{x:Option V}(h:i<l.length):((l.set i x)[i]?).getD none=x:=by rw[List.getElem?_set_self h];rfl
def oK{l:L2.St}{i j:Nat}{x:Option V}(h:j≠i):((l.set i x)[j]?).getD none=(l[j]?).getD none:=by rw[List.getElem?_set_ne (Ne.symm h)]
def Ĥ.off{i j:Nat}{x:Option V}{s:Slot}(h:Ĥ F (σ.set i x) (ρ.set i s) j a)(hj:j≠i):Ĥ F σ ρ j a:=by
 obtain⟨s',y,h1,h2,h3⟩:=h
 rw[List.getElem?_set_ne (Ne.symm hj)] at h1 h2
 exact⟨s',y,h1,h2,h3⟩
def Rel.put(r:Rel K c F H σ ρ){i:Nat}{x:Option V}{s:Slot}(hs:s.own=false)(h:Ł K c F H x s):Rel K c F H (σ.set i x) (ρ.set i s) where
 sub:=r.sub
 base:=r.base
 f0:=r.f0
 ž:=r.ž
 lent:=r.lent
 lb:=r.lb
 len:=by simpa using r.len
 slot:=λj s' e=>by
  rcases Ř e with⟨rfl,rfl,hl⟩|⟨hj,e⟩
  ·rw[sW (by rw[r.len];exact hl)];exact h
  ·rw[oK hj];exact r.slot j s' e
 sep:=λj k b h1 h2=>by
  have off:∀{j},Ĥ F (σ.set i x) (ρ.set i s) j b->j≠i:=fun{j} q z=>by
   subst z
   obtain⟨s',y,q1,_,q2⟩:=q
   rcases Ř q1 with⟨_,rfl,_⟩|⟨q,_⟩
   ·have:=fQ q2;rw[hs] at this;cases this
   ·exact q rfl
  exact r.sep j k b (h1.off (off h1)) (h2.off (off h2))
def Rel.sX(r:Rel K c F H σ ρ){i:Nat}{s:Slot}(hs:s.own=false)(h:Ł K c F H ((σ[i]?).getD none) s):Rel K c F H σ (ρ.set i s) where
 sub:=r.sub
 base:=r.base
 f0:=r.f0
 ž:=r.ž
 lent:=r.lent
 lb:=r.lb
 len:=by simpa using r.len
 slot:=λj s' e=>by
  rcases Ř e with⟨rfl,rfl,hl⟩|⟨hj,e⟩
  ·exact h
  ·exact r.slot j s' e
 sep:=λj k b h1 h2=>by
  have off:∀{j},Ĥ F σ (ρ.set i s) j b->Ĥ F σ ρ j b:=fun{j} ⟨s',y,q1,q3,q2⟩=>by
   rcases Ř q1 with⟨_,rfl,_⟩|⟨_,q⟩
   ·have:=fQ q2;rw[hs] at this;cases this
   ·exact⟨s',y,q,q3,q2⟩
  exact r.sep j k b (off h1) (off h2)
def Rel.xr(r:Rel K c F H σ ρ){i:Nat}{x:V}{s:Slot}(h:Ł K c F H (some x) s)(hf:∀a,s.at_ F x a->dj F σ ρ a):Rel K c F H (σ.set i (some x)) (ρ.set i s) where
 sub:=r.sub
 base:=r.base
 f0:=r.f0
 ž:=r.ž
 lent:=r.lent
 lb:=r.lb
 len:=by simpa using r.len
 slot:=λj s' e=>by
  rcases Ř e with⟨rfl,rfl,hl⟩|⟨hj,e⟩
  ·rw[sW (by rw[r.len];exact hl)];exact h
  ·rw[oK hj];exact r.slot j s' e
 sep:=λj k b h1 h2=>by
  have Bx:∀{j},Ĥ F (σ.set i (some x)) (ρ.set i s) j b->(j=i/\s.at_ F x b)\/(j≠i/\Ĥ F σ ρ j b):=fun{j} q=>by
   by_cases hj:j=i
   ·subst hj
    obtain⟨s',y,q1,q2,q3⟩:=q
    rcases Ř q2 with⟨_,e,_⟩|⟨z,_⟩
    ·cases e
     rcases Ř q1 with⟨_,e,_⟩|⟨z,_⟩
     ·cases e
      exact .inl ⟨rfl,q3⟩
     ·exact absurd rfl z
    ·exact absurd rfl z
   ·exact .inr ⟨hj,q.off hj⟩
  rcases Bx h1 with⟨e1,z1⟩|⟨e1,o1⟩
  ·rcases Bx h2 with⟨e2,z2⟩|⟨e2,o2⟩
   ·rw[e1,e2]
   ·exact absurd o2 (hf b z1 k)
  ·rcases Bx h2 with⟨e2,z2⟩|⟨e2,o2⟩
   ·exact absurd o1 (hf b z2 j)
   ·exact r.sep j k b o1 o2
def Rel.sY(r:Rel K c F H σ ρ){i:Nat}{s:Slot}(ho:Ĥ F σ ρ i a)(h:Ł K c F (upd H a o) ((σ[i]?).getD none) s)(hs:∀x b,σ[i]?=some (some x)->s.at_ F x b->Ĥ F σ ρ i b):Rel K c F (upd H a o) σ (ρ.set i s) where
 sub:=λb u e=>by
  have hb:b≠a:=λz=>by rw[z,(r.owned ho).2.1] at e;cases e
  rw[ć hb];exact r.sub b u e
 base:=λb u e=>by
  have hb:b≠a:=λz=>by rw[z,(r.owned ho).2.2] at e;cases e
  rw[ć hb];exact r.base b u e
 f0:=r.f0
 ž:=r.ž
 lent:=λb u e=>by
  have hb:b≠a:=λz=>by rw[z,r.lb a (r.owned ho).2.2] at e;cases e
  rw[ć hb];exact r.lent b u e
 lb:=r.lb
 len:=by simpa using r.len
 slot:=λj s' e=>by
  rcases Ř e with⟨rfl,rfl,hl⟩|⟨hj,e⟩
  ·exact h
  ·refine(r.slot j s' e).grow (Same.refl F) λb u ⟨y,e1,e2⟩ h1 h2 h3=>?_
   have hb:b≠a:=λz=>by
    subst z
    exact hj (r.sep j i b ⟨s',y,e,sV e1,e2⟩ ho)
   exact⟨by rw[ć hb];exact h1,h2⟩
 sep:=λj k b h1 h2=>by
  have off:∀{j},Ĥ F σ (ρ.set i s) j b->Ĥ F σ ρ j b:=fun{j} ⟨s',y,q1,q3,q2⟩=>by
   rcases Ř q1 with⟨e,rfl,_⟩|⟨_,q⟩
   ·subst e
    exact hs y b q3 q2
   ·exact⟨s',y,q,q3,q2⟩
  exact r.sep j k b (off h1) (off h2)
def Rel.write(r:Rel K c F H σ ρ){i:Nat}{s:Slot}(ho:Ĥ F σ ρ i a)(hx:σ[i]?=some (some (.ref a)))(h:Ł K c F (upd H a o) (some (.ref a)) s)(hs:∀b,s.at_ F (.ref a) b->b=a):Rel K c F (upd H a o) σ (ρ.set i s):=
 r.sY ho (by rw[hx];exact h) λx b e q=>by rw[hx] at e;cases e;rw[hs b q];exact ho
structure Gr(F H F' H':Hp):Prop where
 h:Same H H'
 f:Same F F'
 sub:Same F' H'
 out:∀a,H a≠none->F a=none->F' a=none
def Rel.call(r:Rel K c F H σ ρ)(g:Gr F H F' H'):Rel K c F' H' σ ρ where
 sub:=g.sub
 base:=r.base.trans g.h
 f0:=r.f0.trans g.f
 ž:=λb h1 h2=>by
  refine g.out b (λz=>h1 ?_) (r.ž b h1 h2)
  cases q:c.B b with
  |none=>rfl
  |some u=>rw[r.base _ _ q] at z;cases z
 lent:=λb u e=>⟨g.h b u (r.lent b u e).1,g.out b (by rw[(r.lent b u e).1];intro z;cases z) (r.lent b u e).2⟩
 lb:=r.lb
 len:=r.len
 slot:=λi s e=>(r.slot i s e).grow g.f λb u _ h1 h2 h3=>⟨g.h b u h1,g.out b (by rw[h1];intro z;cases z) h2⟩
 sep:=r.Bw g.f
def ctx0(F H:Hp):Ctx:=⟨H,F,λa=>match F a with
 |none=>H a
 |some _=>none,λ_ _ _=>True⟩
def aU{a:Addr}{u:HO}(h:(ctx0 F H).L a=some u):H a=some u/\F a=none:=by
 unfold ctx0 at h
 dsimp only at h
 cases q:F a with
 |none=>rw[q] at h;exact⟨h,rfl⟩
 |some o=>rw[q] at h;cases h
def Rel.gr(r:Rel K (ctx0 F H) F' H' σ ρ):Gr F H F' H':=⟨r.base,r.f0,r.sub,r.ž⟩
def ź(K:KK)(F H:Hp):Slot->V->Prop
 | .sh p,v=>Rep K F p v
 | .bw ps,v=>∃a vs,v=.ref a/\H a=some (.lst vs)/\F a=none/\ĉ K F ps vs
 |_,_=>False
def ź.slot{s:Slot}{v:V}(h:ź K F H s v):Ł K (ctx0 F H) F H (some v) s/\s.own=false:=by
 cases s with
 |sh p=>exact⟨⟨v,rfl,h⟩,rfl⟩
 |bw ps=>
  obtain⟨a,vs,rfl,h1,h2,h3⟩:=h
  refine⟨⟨a,vs,rfl,?_,h3⟩,rfl⟩
  show(match F a with|none=>H a|some _=>none)=_
  rw[h2]
  exact h1
 |no=>exact h.elim
 |ow ps=>exact h.elim
 |rc C ns ps=>exact h.elim
 |ot ps qs=>exact h.elim
 |ol qI=>exact h.elim
def startP(n:Nat)(as:List Slot):ĥ:=as++List.replicate (n-as.length) .no
theorem Rel.start{N:List Str}{as:List Slot}{vs:List V}(s:Same F H)(h:Paired (ź K F H) as vs):Rel K (ctx0 F H) F H (L2.start N vs) (startP N.length as) where
 sub:=s
 base:=Same.refl H
 f0:=Same.refl F
 ž:=λ_ _ h=>h
 lent:=λ_ _ e=>aU e
 lb:=fun a e=>by
   cases q:(ctx0 F H).L a with
   |none=>rfl
   |some u=>
    have e':H a=none:=e
    rw[(aU q).1] at e'
    cases e'
 len:=by unfold L2.start startP;simp[Paired.length h]
 slot:=λi s' e=>by
  unfold startP at e
  by_cases hi:i<as.length
  ·rw[List.getElem?_append_left hi] at e
   obtain⟨v,h1,h2⟩:=ŝ h e
   have hv:((L2.start N vs)[i]?).getD none=some v:=by
    unfold L2.start
    rw[List.getElem?_append_left (by simpa[<-Paired.length h] using hi),List.getElem?_map,h1];rfl
   rw[hv]
   exact(ź.slot h2).1
  ·rw[List.getElem?_append_right (by omega),List.getElem?_replicate] at e
   split at e
   ·cases e;trivial
   ·cases e
 sep:=λi j a h1 _=>by
  obtain⟨s',y,h1,_,h2⟩:=h1
  have h2:=fQ h2
  exfalso
  unfold startP at h1
  by_cases hi:i<as.length
  ·rw[List.getElem?_append_left hi] at h1
   obtain⟨v,_,h3⟩:=ŝ h h1
   rw[(ź.slot h3).2] at h2
   cases h2
  ·rw[List.getElem?_append_right (by omega),List.getElem?_replicate] at h1
   split at h1
   ·cases h1;cases h2
   ·cases h1
end
structure PX where
 C:String
 ns:List Str
 ps:List PV
def BJ(K:KK)(F:Hp)(x:PX)(C:Value)(d:Option Addr):Prop:=C=.ref (K.cm x.C)/\∃fs,kE F d fs/\fs.map (·.1)=x.ns/\ĉ K F x.ps (fs.map (·.2))
inductive Res(α:Type) where
 |ok (a:α) (ρ:ĥ)|exc (x:PX) (ρ:ĥ)|bad
def Res.bind{α β:Type}(r:Res α)(f:α->ĥ->Res β):Res β:= match r with
 | .ok a ρ=>f a ρ
 | .exc x ρ=>.exc x ρ
 | .bad=>.bad
@[simp] theorem Res.eO{α β:Type}{a:α}{ρ:ĥ}{f:α->ĥ->Res β}:(Res.ok a ρ).bind f=f a ρ:= rfl
@[simp] theorem Res.FT{α β:Type}{x:PX}{ρ:ĥ}{f:α->ĥ->Res β}:(Res.exc x ρ:Res α).bind f=.exc x ρ:= rfl
@[simp] theorem Res.FW{α β:Type}{f:α->ĥ->Res β}:(Res.bad:Res α).bind f=.bad:=rfl
def Res.gU{α:Type}(o:Option α)(ρ:ĥ):Res α:= match o with
 |some a=>.ok a ρ
 |none=>.bad
@[simp] theorem Res.FZ{α:Type}{a:α}{ρ:ĥ}:Res.gU (some a) ρ=.ok a ρ:= rfl
@[simp] theorem Res.Ga{α:Type}{ρ:ĥ}:Res.gU (none:Option α) ρ=.bad:=rfl
abbrev M(α:Type):=ĥ->Res α
inductive RV where
 |sh (p:PV)|ow (ps:List PV)|ot (ps qs:List PV)
def RV.val:RV->PV
 | .sh p=>p
 | .ow ps=>.lst ps
 | .ot ps qs=>.tup (ps ++ [.lst qs])
def RV.slot:RV->Slot
 | .sh p=>.sh p
 | .ow ps=>.ow ps
 | .ot ps qs=>.ot ps qs
abbrev RR(α β:Type):=Ctx->L2.St->ĥ->Hp->Hp->α->β->Prop
def rV(K:KK):RR PV V:=λ_ _ _ F _ p v=>Rep K F p v
def oM(K:KK)(F H:Hp)(p:PV)(v:V):Prop:=match p with
 | .lst ps=>∃a vs,v=.ref a/\H a=some (.lst vs)/\ĉ K F ps vs
 | .ins C ns ps=>∃a dx fs,v=.ref a/\H a=some (.ins (K.cm C) dx fs)/\fs.map (·.1)=ns/\ĉ K F ps (fs.map (·.2))
 |_=>False
def rR(K:KK):RR PV V:=λ_ _ _ F H p v=>Rep K F p v\/oM K F H p v
def rA(K:KK):RR (List Slot) (List V):=λ_ _ _ F H as vs=>Paired (ź K F H) as vs
def Held(K:KK)(c:Ctx)(σ:L2.St)(ρ:ĥ)(F H:Hp)(ps:List PV)(v:V):Prop:=∃a vs,v=.ref a/\H a=some (.lst vs)/\F a=none/\c.B a=none/\dj F σ ρ a/\ĉ K F ps vs
def oN(K:KK)(c:Ctx)(σ:L2.St)(ρ:ĥ)(F H:Hp)(ps qs:List PV)(v:V):Prop:=∃p a xs vs,v=.ref p/\F p=some (.tup (xs ++ [.ref a]))/\ĉ K F ps xs/\H a=some (.lst vs)/\F a=none/\c.B a=none/\dj F σ ρ a/\ĉ K F qs vs
def rO(K:KK):RR RV V:=λc σ ρ F H r v=>match r with
 | .sh p=>Rep K F p v
 | .ow ps=>Held K c σ ρ F H ps v
 | .ot ps qs=>oN K c σ ρ F H ps qs v
def rL(K:KK):RR (List PV) (List V):=λ_ _ _ F _ p v=>ĉ K F p v
def Gb(K:KK):RR (List PV) (List V):=λc σ ρ F H p v=>Paired (rR K c σ ρ F H) p v
def rB:RR Bool Bool:=λ_ _ _ _ _ p v=>p=v
def ũ{α β:Type}(K:KK)(E:L2.St->XK)(R:RR α β)(c:Ctx)(F H:Hp)(σ:L2.St)(Q:β->Hp->Prop):Res α->Prop
 | .ok p ρ'=>∀v F' H',Rel K c F' H' σ ρ'->Same F F'->Same H H'->R c σ ρ' F' H' p v->Q v H'
 | .exc x ρ'=>∀C d F' H',Rel K c F' H' σ ρ'->Same F F'->BJ K F' x C d->E σ C d H'
 | .bad=>False
def tG{α β:Type}(K:KK)(E:L2.St->XK)(R:RR α β)(m:M α):L2.St->Hp->(β->Hp->Prop)->Prop:=λσ H Q=>∃c F ρ,Rel K c F H σ ρ/\ũ K E R c F H σ Q (m ρ)
section
variable{α β α' β':Type}{K:KK}{E:L2.St->XK}{R:RR α β}{R':RR α' β'}{c:Ctx}{F F1 H H1:Hp}{σ:L2.St}
def ũ.mono{Q:β->Hp->Prop}{r:Res α}(h:ũ K E R c F H σ Q r)(sF:Same F F1)(sH:Same H H1):ũ K E R c F1 H1 σ Q r:=by
 cases r with
 |ok p ρ'=>exact λv F' H' rel s1 s2 q=>h v F' H' rel (sF.trans s1) (sH.trans s2) q
 |exc x ρ'=>exact λC d F' H' rel s1 q=>h C d F' H' rel (sF.trans s1) q
 |bad=>exact h
theorem ũ.bind{Q:β->Hp->Prop}{Q':β'->Hp->Prop}{r:Res α}{f:α->ĥ->Res α'}(h:ũ K E R' c F H σ Q' (r.bind f))
 (k:∀p ρ1 v F1 H1,Rel K c F1 H1 σ ρ1->Same F F1->Same H H1->R c σ ρ1 F1 H1 p v->ũ K E R' c F1 H1 σ Q' (f p ρ1)->Q v H1):ũ K E R c F H σ Q r:=by
 cases r with
 |ok p ρ'=>exact λv F' H' rel s1 s2 q=>k p ρ' v F' H' rel s1 s2 q (ũ.mono (show ũ K E R' c F H σ Q' (f p ρ') from h) s1 s2)
 |exc x ρ'=>exact h
 |bad=>exact h
theorem ũ.rel{R2:RR α β}{Q:β->Hp->Prop}{r:Res α}(h:ũ K E R c F H σ Q r)(k:∀p ρ' v F' H',Rel K c F' H' σ ρ'->R2 c σ ρ' F' H' p v->R c σ ρ' F' H' p v):ũ K E R2 c F H σ Q r:=by
 cases r with
 |ok p ρ'=>exact λv F' H' rel s1 s2 q=>h v F' H' rel s1 s2 (k p ρ' v F' H' rel q)
 |exc x ρ'=>exact h
 |bad=>exact h
end
abbrev tV(K:KK)(E:L2.St->XK)(m:M PV):TE:=tG K E (rV K) m
abbrev tR(K:KK)(E:L2.St->XK)(m:M PV):TE:=tG K E (rR K) m
abbrev tO(K:KK)(E:L2.St->XK)(m:M RV):TE:=tG K E (rO K) m
abbrev tL(K:KK)(E:L2.St->XK)(m:M (List PV)):TA:=tG K E (rL K) m
abbrev tA(K:KK)(E:L2.St->XK)(m:M (List Slot)):TA:=tG K E (rA K) m
abbrev Ed(K:KK)(E:L2.St->XK)(m:M (List PV)):TA:=tG K E (Gb K) m
abbrev tB(K:KK)(E:L2.St->XK)(m:M Bool):TT:=tG K E rB m
inductive Fl where
 |nx|bk|ct|rt (r:RV)
def Ũ(K:KK)(E:L2.St->XK)(c:Ctx)(F:Hp)(D:Ends):Res Fl->Prop
 | .ok .nx ρ'=>∀σ' F' H',Rel K c F' H' σ' ρ'->Same F F'->D.nx σ' H'
 | .ok .bk ρ'=>∀σ' F' H',Rel K c F' H' σ' ρ'->Same F F'->D.bk σ' H'
 | .ok .ct ρ'=>∀σ' F' H',Rel K c F' H' σ' ρ'->Same F F'->D.ct σ' H'
 | .ok (.rt r) ρ'=>∀v σ' F' H',Rel K c F' H' σ' ρ'->Same F F'->rO K c σ' ρ' F' H' r v->D.rt v H'
 | .exc x ρ'=>∀σ' C d F' H',Rel K c F' H' σ' ρ'->Same F F'->BJ K F' x C d->E σ' C d H'
 | .bad=>False
def tS(K:KK)(E:L2.St->XK)(m:M Fl):TS:=λD σ H=>∃c F ρ,Rel K c F H σ ρ/\Ũ K E c F D (m ρ)
section
variable{K:KK}{E:L2.St->XK}{c:Ctx}{F F1:Hp}{D:Ends}
def Ũ.mono{r:Res Fl}(h:Ũ K E c F D r)(sF:Same F F1):Ũ K E c F1 D r:=by
 cases r with
 |ok f ρ'=>
  cases f with
  |rt v=>exact λv σ' F' H' rel s1 q=>h v σ' F' H' rel (sF.trans s1) q
  |nx=>exact λσ' F' H' rel s1=>h σ' F' H' rel (sF.trans s1)
  |bk=>exact λσ' F' H' rel s1=>h σ' F' H' rel (sF.trans s1)
  |ct=>exact λσ' F' H' rel s1=>h σ' F' H' rel (sF.trans s1)
 |exc x ρ'=>exact λσ' C d F' H' rel s1 q=>h σ' C d F' H' rel (sF.trans s1) q
 |bad=>exact h
theorem Ũ.bind{α β:Type}{R:RR α β}{σ:L2.St}{H:Hp}{Q:β->Hp->Prop}{r:Res α}{f:α->ĥ->Res Fl}(h:Ũ K E c F D (r.bind f))
 (k:∀p ρ1 v F1 H1,Rel K c F1 H1 σ ρ1->Same F F1->R c σ ρ1 F1 H1 p v->Ũ K E c F1 D (f p ρ1)->Q v H1):ũ K E R c F H σ Q r:=by
 cases r with
 |ok p ρ'=>exact λv F' H' rel s1 s2 q=>k p ρ' v F' H' rel s1 q (Ũ.mono (show Ũ K E c F D (f p ρ') from h) s1)
 |exc x ρ'=>exact λC d F' H' rel s1 q=>h σ C d F' H' rel s1 q
 |bad=>exact h
end
end P
namespace P
open PySem PySem.Spec PyProof.Rows L2 M2
def Ī(i:Nat):M PV:=λρ=>match ρ[i]? with
 |some (.sh p)=>.ok p ρ
 |some (.ow ps)=>.ok (.lst ps) (ρ.set i (.sh (.lst ps)))
 |_=>.bad
def ā(i:Nat):M PV:=λρ=>match ρ[i]? with
 |some (.sh p)=>.ok p ρ
 |some (.ow ps)=>.ok (.lst ps) ρ
 |some (.bw ps)=>.ok (.lst ps) ρ
 |some (.rc C ns ps)=>.ok (.ins C ns ps) ρ
 |_=>.bad
def bH(i:Nat):M RV:=λρ=>match ρ[i]? with
 |some (.sh p)=>.ok (.sh p) ρ
 |some (.ow ps)=>.ok (.ow ps) (ρ.set i .no)
 |_=>.bad
def mC(p:PV):M PV:=λρ=>.ok p ρ
def aV(m:M PV):M RV:=λρ=>(m ρ).bind λp ρ1=>.ok (.sh p) ρ1
def ē(m:M RV):M PV:=λρ=>(m ρ).bind λr ρ1=>.ok r.val ρ1
section
variable{K:KK}{c:Ctx}{F H:Hp}{σ:L2.St}{ρ:ĥ}
def at_of{i:Nat}{x:V}(h:(σ[i]?).getD none=some x):σ[i]?=some (some x):=by
 cases q:σ[i]? with
 |none=>rw[q] at h;cases h
 |some y=>rw[q] at h;exact congrArg some h
theorem Rel.ow(r:Rel K c F H σ ρ){i:Nat}{ps:List PV}(e:ρ[i]?=some (.ow ps)):∃a vs,σ[i]?=some (some (.ref a))/\H a=some (.lst vs)/\F a=none/\c.B a=none/\ĉ K F ps vs/\Ĥ F σ ρ i a:=by
 obtain⟨a,vs,h1,h2,h3,h4,h5⟩:=r.slot i _ e
 exact⟨a,vs,at_of h1,h2,h3,h4,h5,⟨_,_,e,at_of h1,rfl⟩⟩
def Rel.move(r:Rel K c F H σ ρ){i:Nat}{a:Addr}(h:Ĥ F σ ρ i a):Rel K c F H σ (ρ.set i .no)/\dj F σ (ρ.set i .no) a:=by
 refine⟨r.sX rfl trivial,λj ⟨s,y,q1,q3,q2⟩=>?_⟩
 rcases Ř q1 with⟨_,rfl,_⟩|⟨hj,q⟩
 ·exact q2.elim
 ·exact hj (r.sep j i a ⟨s,y,q,q3,q2⟩ h)
def Rel.share(r:Rel K c F H σ ρ){i:Nat}{ps:List PV}(e:ρ[i]?=some (.ow ps)):∃a vs,σ[i]?=some (some (.ref a))/\F a=none/\Rep K (upd F a (.lst vs)) (.lst ps) (.ref a)/\Rel K c (upd F a (.lst vs)) H σ (ρ.set i (.sh (.lst ps))):=by
 obtain⟨a,vs,h1,h2,h3,h4,h5,ho⟩:=r.ow e
 obtain⟨m1,m2⟩:=r.move ho
 have rp:Rep K (upd F a (.lst vs)) (.lst ps) (.ref a):=by
  unfold Rep
  exact⟨a,vs,rfl,ń.of Ē,h5.same (Same.upd h3) ps vs⟩
 have q:=(m1.freeze h2 h4 h3 m2).sX (i:=i) (s:=.sh (.lst ps)) rfl (show Ł K c _ H _ (.sh (.lst ps)) from⟨.ref a,by rw[h1];rfl,rp⟩)
 rw[List.set_set] at q
 exact⟨a,vs,h1,h3,rp,q⟩
def oM.mono{F1 H1:Hp}{p:PV}{v:V}(h:oM K F H p v)(sF:Same F F1)(sH:Same H H1):oM K F1 H1 p v:=by
 cases p with
 |lst ps=>
  obtain⟨a,vs,h2,h3,h4⟩:=h
  exact⟨a,vs,h2,sH _ _ h3,h4.same sF ps vs⟩
 |ins C ns ps=>
  obtain⟨a,dx,fs,h2,h3,h4,h5⟩:=h
  exact⟨a,dx,fs,h2,sH _ _ h3,h4,h5.same sF ps _⟩
 |_=>exact h.elim
theorem rR.mono{c:Ctx}{σ:L2.St}{ρ ρ':ĥ}{F1 H1:Hp}{p:PV}{v:V}(h:rR K c σ ρ F H p v)(sF:Same F F1)(sH:Same H H1):rR K c σ ρ' F1 H1 p v:=by
 rcases h with h|h
 ·exact .inl (h.same sF p v)
 ·exact .inr (h.mono sF sH)
theorem rR.lst{c:Ctx}{σ:L2.St}{ρ:ĥ}{ps:List PV}{v:V}(s:Same F H)(h:rR K c σ ρ F H (.lst ps) v):∃a vs,v=.ref a/\ń K.K H a vs/\ĉ K F ps vs:=by
 rcases h with h|⟨a,vs,h2,h3,h4⟩
 ·unfold Rep at h
  obtain⟨a,xs,h1,h2,h3⟩:=h
  exact⟨a,xs,h1,s.seq h2,h3⟩
 ·exact⟨a,vs,h2,ń.of h3,h4⟩
theorem rR.tup{c:Ctx}{σ:L2.St}{ρ:ĥ}{ps:List PV}{v:V}(s:Same F H)(h:rR K c σ ρ F H (.tup ps) v):∃a vs,v=.ref a/\Ų K.K H a vs/\ĉ K F ps vs:=by
 rcases h with h|h
 ·unfold Rep at h
  obtain⟨a,xs,h1,h2,h3⟩:=h
  exact⟨a,xs,h1,Same.tup s h2,h3⟩
 ·exact h.elim
theorem rR.int{c:Ctx}{σ:L2.St}{ρ:ĥ}{i:Int}{v:V}(h:rR K c σ ρ F H (.int i) v):v=.int i:=by
 rcases h with h|h
 ·unfold Rep at h;exact h
 ·exact h.elim
theorem rR.str{c:Ctx}{σ:L2.St}{ρ:ĥ}{i:Str}{v:V}(h:rR K c σ ρ F H (.str i) v):v=.str i:=by
 rcases h with h|h
 ·unfold Rep at h;exact h
 ·exact h.elim
theorem rR.bl{c:Ctx}{σ:L2.St}{ρ:ĥ}{i:Bool}{v:V}(h:rR K c σ ρ F H (.bl i) v):v=.bl i:=by
 rcases h with h|h
 ·unfold Rep at h;exact h
 ·exact h.elim
theorem rR.non{c:Ctx}{σ:L2.St}{ρ:ĥ}{v:V}(h:rR K c σ ρ F H .non v):v=.non:=by
 rcases h with h|h
 ·unfold Rep at h;exact h
 ·exact h.elim
theorem rR.ty{c:Ctx}{σ:L2.St}{ρ:ĥ}{n:String}{v:V}(h:rR K c σ ρ F H (.ty n) v):v=.ty n:=by
 rcases h with h|h
 ·unfold Rep at h;exact h
 ·exact h.elim
theorem Rep.int{i:Int}:Rep K F (.int i) (.int i):=by unfold Rep;rfl
theorem Rep.str{i:Str}:Rep K F (.str i) (.str i):=by unfold Rep;rfl
theorem Rep.bl{i:Bool}:Rep K F (.bl i) (.bl i):=by unfold Rep;rfl
theorem Rep.non:Rep K F .non .non:=by unfold Rep;rfl
end
section
variable{X:Cx}{cm:String->Addr}{E:L2.St->XK}{a b e:Expr}{es:List Expr}{pos:Pos}{m ma mb mc:M PV}{mo:M RV}
def PT.wk{t t':TT}(h:PT X e t)(i:∀σ H Q,t' σ H Q->t σ H Q):PT X e t':=λpins s σ H Q I q=>h pins s σ H Q I (i σ H Q q)
def PA.wk{t t':TA}(h:PA X es t)(i:∀σ H Q,t' σ H Q->t σ H Q):PA X es t':=λpos pins s σ H Q I q=>h pos pins s σ H Q I (i σ H Q q)
def PW.wk{t t':TT}(h:PW X e t)(i:∀σ H Q,t' σ H Q->t σ H Q):PW X e t':=λwh pins s σ H Q I q=>h wh pins s σ H Q I (i σ H Q q)
def dI.wk{st:List Stmt}{t t':TS}(h:dI X st t)(i:∀D σ H,t' D σ H->t D σ H):dI X st t':=λpins s σ H D I q=>h pins s σ H D I (i D σ H q)
def v_var(i:Nat){x:Str}{pos:Pos}(hN:X.N[i]?=some x:=by rfl)(hv:lV X.env.scope x:=by first|exact Or.inl rfl|exact Or.inr (Or.inl rfl)|exact Or.inr (Or.inr rfl))(hd:(x== ("__debug__" :Str))=false:=by decide)
 (hcd:(x== ("__classdict__" :Str))=false:=by decide):PE X (.Name x pos) (tV (kk X cm) E (Ī i)):=PE.wk (ŧ hN hv hd hcd) λσ H Q ⟨c,F,ρ,rel,h⟩=>by
 unfold Ī at h
 split at h
 ·rename_i p e
  obtain⟨v,h1,h2⟩:=rel.slot i _ e
  exact⟨v,at_of h1,h v F H rel (Same.refl F) (Same.refl H) h2⟩
 ·rename_i ps e
  obtain⟨a,vs,h1,h2,h3,h4⟩:=rel.share e
  exact⟨.ref a,h1,h _ _ H h4 (Same.upd h2) (Same.refl H) h3⟩
 ·exact h.elim
def Ć(i:Nat){x:Str}{pos:Pos}(hN:X.N[i]?=some x:=by rfl)(hv:lV X.env.scope x:=by first|exact Or.inl rfl|exact Or.inr (Or.inl rfl)|exact Or.inr (Or.inr rfl))(hd:(x== ("__debug__" :Str))=false:=by decide)
 (hcd:(x== ("__classdict__" :Str))=false:=by decide):PE X (.Name x pos) (tR (kk X cm) E (ā i)):=PE.wk (ŧ hN hv hd hcd) λσ H Q ⟨c,F,ρ,rel,h⟩=>by
 unfold ā at h
 split at h
 ·rename_i p e
  obtain⟨v,h1,h2⟩:=rel.slot i _ e
  exact⟨v,at_of h1,h v F H rel (Same.refl F) (Same.refl H) (.inl h2)⟩
 ·rename_i ps e
  obtain⟨a,vs,h1,h2,h3,h4,h5,_⟩:=rel.ow e
  exact⟨.ref a,h1,h _ F H rel (Same.refl F) (Same.refl H) (.inr ⟨a,vs,rfl,h2,h5⟩)⟩
 ·rename_i ps e
  obtain⟨a,vs,h1,h2,h3⟩:=rel.slot i _ e
  exact⟨.ref a,at_of h1,h _ F H rel (Same.refl F) (Same.refl H) (.inr ⟨a,vs,rfl,(rel.lent a _ h2).1,h3⟩)⟩
 ·rename_i C ns ps e
  obtain⟨a,dx,fs,h1,h2,h3,h4,h5,h6⟩:=rel.slot i _ e
  exact⟨.ref a,at_of h1,h _ F H rel (Same.refl F) (Same.refl H) (.inr ⟨a,dx,fs,rfl,h2,h5,h6.1⟩)⟩
 ·exact h.elim
def fV(i:Nat){x:Str}{pos:Pos}(hN:X.N[i]?=some x:=by rfl)(hv:lV X.env.scope x:=by first|exact Or.inl rfl|exact Or.inr (Or.inl rfl)|exact Or.inr (Or.inr rfl))(hd:(x== ("__debug__" :Str))=false:=by decide)
 (hcd:(x== ("__classdict__" :Str))=false:=by decide):PE X (.Name x pos) (tO (kk X cm) E (bH i)):=PE.wk (ŧ hN hv hd hcd) λσ H Q ⟨c,F,ρ,rel,h⟩=>by
 unfold bH at h
 split at h
 ·rename_i p e
  obtain⟨v,h1,h2⟩:=rel.slot i _ e
  exact⟨v,at_of h1,h v F H rel (Same.refl F) (Same.refl H) h2⟩
 ·rename_i ps e
  obtain⟨a,vs,h1,h2,h3,h4,h5,h6⟩:=rel.ow e
  obtain⟨m1,m2⟩:=rel.move h6
  exact⟨.ref a,h1,h _ F H m1 (Same.refl F) (Same.refl H) ⟨a,vs,rfl,h2,h3,h4,m2,h5⟩⟩
 ·exact h.elim
def yJ{v:V}(p:PV)(h:PE X e (tC v))(hr:∀F,Rep (kk X cm) F p v:=by intro _;unfold Rep;rfl):PE X e (tV (kk X cm) E (mC p)):=PE.wk h λσ H Q ⟨c,F,ρ,rel,h⟩=>h v F H rel (Same.refl F) (Same.refl H) (hr F)
def ą{i j pos}:PE X (.Constant (.int i) j pos) (tV (kk X cm) E (mC (.int i))):=yJ _ qU
def iy{i j pos}:PE X (.Constant (.bool i) j pos) (tV (kk X cm) E (mC (.bl i))):=yJ _ Ep
def cg{j pos}:PE X (.Constant .none j pos) (tV (kk X cm) E (mC .non)):=yJ _ zN
def kI{x j pos}:PE X (.Constant (.str x) j pos) (tV (kk X cm) E (mC (.str x))):=yJ _ zO
def Ā(h:PE X e (tV (kk X cm) E m)):PE X e (tR (kk X cm) E m):=PE.wk h λσ H Q ⟨c,F,ρ,rel,h⟩=>⟨c,F,ρ,rel,h.rel λ_ _ _ _ _ _ q=>.inl q⟩
def Ő(h:PE X e (tV (kk X cm) E m)):PE X e (tO (kk X cm) E (aV m)):=PE.wk h λσ H Q ⟨c,F,ρ,rel,h⟩=>⟨c,F,ρ,rel,h.bind λp ρ1 v F1 H1 Ĉ s1 s2 q h1=>h1 v F1 H1 Ĉ (Same.refl _) (Same.refl _) q⟩
def Held.share{K:KK}{c:Ctx}{F H:Hp}{σ:L2.St}{ρ:ĥ}{ps:List PV}{v:V}(rel:Rel K c F H σ ρ)(h:Held K c σ ρ F H ps v):∃F1,Same F F1/\Rel K c F1 H σ ρ/\Rep K F1 (.lst ps) v:=by
 obtain⟨a,vs,rfl,h1,h2,h3,h4,h5⟩:=h
 refine⟨_,Same.upd h2,rel.freeze h1 h3 h2 h4,?_⟩
 unfold Rep
 exact⟨a,vs,rfl,ń.of Ē,h5.same (Same.upd h2) ps vs⟩
def oN.share{K:KK}{c:Ctx}{F H:Hp}{σ:L2.St}{ρ:ĥ}{ps qs:List PV}{v:V}(rel:Rel K c F H σ ρ)(h:oN K c σ ρ F H ps qs v):∃F1,Same F F1/\Rel K c F1 H σ ρ/\Rep K F1 (.tup (ps ++ [.lst qs])) v:=by
 obtain⟨p,a,xs,vs,rfl,h0,hx,h1,h2,h3,h4,h5⟩:=h
 refine⟨_,Same.upd h2,rel.freeze h1 h3 h2 h4,?_⟩
 have ra:Rep K (upd F a (.lst vs)) (.lst qs) (.ref a):=by
  unfold Rep
  exact⟨a,vs,rfl,ń.of Ē,h5.same (Same.upd h2) qs vs⟩
 unfold Rep
 exact⟨p,_,rfl,Ų.of (Same.upd h2 _ _ h0),ĉ.append (hx.same (Same.upd h2) ps xs) (ĉ.cons ra ĉ.nil)⟩
def ĳ(h:PE X e (tO (kk X cm) E mo)):PE X e (tV (kk X cm) E (ē mo)):=PE.wk h λσ H Q ⟨c,F,ρ,rel,h⟩=>⟨c,F,ρ,rel,h.bind λr ρ1 v F1 H1 Ĉ s1 s2 q h1=>by
 cases r with
 |sh p=>exact h1 v F1 H1 Ĉ (Same.refl _) (Same.refl _) q
 |ow ps=>
  obtain⟨F2,s3,ė,rp⟩:=Held.share Ĉ q
  exact h1 v F2 H1 ė s3 (Same.refl _) rp
 |ot ps qs=>
  obtain⟨F2,s3,ė,rp⟩:=oN.share Ĉ q
  exact h1 v F2 H1 ė s3 (Same.refl _) rp⟩
def Ą(f:PV->PV->Option PV)(ma mb:M PV):M PV:=λρ=>(ma ρ).bind λp ρ1=>(mb ρ1).bind λq ρ2=>Res.gU (f p q) ρ2
def ő(f:PV->PV->Option RV)(ma mb:M PV):M RV:=λρ=>(ma ρ).bind λp ρ1=>(mb ρ1).bind λq ρ2=>Res.gU (f p q) ρ2
def bV(K:KK)(r:R2)(f:PV->PV->Option PV):Prop:=∀{c:Ctx} {F H:Hp} {σ:L2.St} {ρ:ĥ} {p q pv:PV} {v u:V} {Q:VK},Rel K c F H σ ρ->rR K c σ ρ F H p v->rR K c σ ρ F H q u->f p q=some pv->
 (∀z F' H',Rel K c F' H' σ ρ->Same F F'->Same H H'->Rep K F' pv z->Q z H')->r v u H Q
def Mr(K:KK)(r:R2)(f:PV->PV->Option RV):Prop:=∀{c:Ctx} {F H:Hp} {σ:L2.St} {ρ:ĥ} {p q:PV} {pv:RV} {v u:V} {Q:VK},Rel K c F H σ ρ->rR K c σ ρ F H p v->rR K c σ ρ F H q u->f p q=some pv->
 (∀z F' H',Rel K c F' H' σ ρ->Same F F'->Same H H'->rO K c σ ρ F' H' pv z->Q z H')->r v u H Q
def oO{r:R2}{f:PV->PV->Option PV}(hf:bV (kk X cm) r f){σ:L2.St}{H:Hp}{Q:VK}(h:tV (kk X cm) E (Ą f ma mb) σ H Q):z_ r (tR (kk X cm) E ma) (tR (kk X cm) E mb) σ H Q:=by
 obtain⟨c,F,ρ,rel,h⟩:=h
 refine⟨c,F,ρ,rel,h.bind λp ρ1 v F1 H1 Ĉ _ _ r1 h1=>⟨c,F1,ρ1,Ĉ,h1.bind λq ρ2 u F2 H2 ė sF sH r2 h2=>?_⟩⟩
 cases e:f p q with
 |none=>rw[e] at h2;exact h2.elim
 |some pv=>rw[e] at h2;exact hf ė (r1.mono sF sH) r2 e λz F' H' Ś s1 s2 q'=>h2 z F' H' Ś s1 s2 q'
def Gd{r:R2}{f:PV->PV->Option RV}(hf:Mr (kk X cm) r f){σ:L2.St}{H:Hp}{Q:VK}(h:tO (kk X cm) E (ő f ma mb) σ H Q):z_ r (tR (kk X cm) E ma) (tR (kk X cm) E mb) σ H Q:=by
 obtain⟨c,F,ρ,rel,h⟩:=h
 refine⟨c,F,ρ,rel,h.bind λp ρ1 v F1 H1 Ĉ _ _ r1 h1=>⟨c,F1,ρ1,Ĉ,h1.bind λq ρ2 u F2 H2 ė sF sH r2 h2=>?_⟩⟩
 cases e:f p q with
 |none=>rw[e] at h2;exact h2.elim
 |some pv=>rw[e] at h2;exact hf ė (r1.mono sF sH) r2 e λz F' H' Ś s1 s2 q'=>h2 z F' H' Ś s1 s2 q'
def ĕ{op:Operator}{r:R2}{f:PV->PV->Option PV}(hf:bV (kk X cm) r f)(ho:ľ X (binaryOp op) r)(ha:PE X a (tR (kk X cm) E ma))(hb:PE X b (tR (kk X cm) E mb)):PE X (.BinOp a op b pos) (tV (kk X cm) E (Ą f ma mb)):=PE.wk (yF ho ha hb) λ_ _ _ h=>oO hf h
def cj{op:Operator}{r:R2}{f:PV->PV->Option RV}(hf:Mr (kk X cm) r f)(ho:ľ X (binaryOp op) r)(ha:PE X a (tR (kk X cm) E ma))(hb:PE X b (tR (kk X cm) E mb)):PE X (.BinOp a op b pos) (tO (kk X cm) E (ő f ma mb)):=PE.wk (yF ho ha hb) λ_ _ _ h=>Gd hf h
def dw{op:CmpOp}{r:R2}{f:PV->PV->Option PV}(hf:bV (kk X cm) r f)(ho:ľ X (compareOp op) r)(ha:PE X a (tR (kk X cm) E ma))(hb:PE X b (tR (kk X cm) E mb))(hm:behindInMarks op b=false):PE X (.Compare a [op] [b] pos) (tV (kk X cm) E (Ą f ma mb)):=
 PE.wk (wG ho ha hb hm) λ_ _ _ h=>oO hf h
def Ŋ{r:R2}{f:PV->PV->Option PV}(hf:bV (kk X cm) r f)(hr:mG X r)(ha:PE X a (tR (kk X cm) E ma))(hb:PE X b (tR (kk X cm) E mb))(hs:oE b):PE X (.Subscript a b pos) (tV (kk X cm) E (Ą f ma mb)):=
 PE.wk (yH hr ha hb hs) λ_ _ _ h=>oO hf h
def Ef(f:PV->Option PV)(ma:M PV):M PV:=λρ=>(ma ρ).bind λp ρ1=>Res.gU (f p) ρ1
def RD(K:KK)(r:V->Hp->VK->Prop)(f:PV->Option PV):Prop:=∀{c:Ctx} {F H:Hp} {σ:L2.St} {ρ:ĥ} {p pv:PV} {v:V} {Q:VK},Rel K c F H σ ρ->rR K c σ ρ F H p v->f p=some pv->
 (∀z F' H',Rel K c F' H' σ ρ->Same F F'->Same H H'->Rep K F' pv z->Q z H')->r v H Q
def xu{op:UnaryOp}{r:V->Hp->VK->Prop}{f:PV->Option PV}(hf:RD (kk X cm) r f)(ho:wD X (unaryOp op) r)(ha:PE X a (tR (kk X cm) E ma)):PE X (.UnaryOp op a pos) (tV (kk X cm) E (Ef f ma)):=PE.wk (Ez ho ha) λσ H Q ⟨c,F,ρ,rel,h⟩=>
 ⟨c,F,ρ,rel,h.bind fun p ρ1 v F1 H1 Ĉ _ _ r1 h1=>by
   cases e:f p with
   |none=>rw[e] at h1;exact h1.elim
   |some pv=>rw[e] at h1;exact hf Ĉ r1 e λz F' H' Ś s1 s2 q'=>h1 z F' H' Ś s1 s2 q'⟩
def BK:PV->Option Bool
 | .bl b=>some b
 | .int i=>some (i != 0)
 | .non=>some false
 | .str y=>if y.length<=sizeLine then some ((y.length:Int) != 0) else none
 | .lst ps=>some (!ps.isEmpty)
 | .tup ps=>some (!ps.isEmpty)
 |_=>none
def cu(m:M PV):M Bool:=λρ=>(m ρ).bind λp ρ1=>Res.gU (BK p) ρ1
def Ge{K:KK}{c:Ctx}{F H:Hp}{σ:L2.St}{ρ:ĥ}{p:PV}{v:V}{k:Bool}(s:Same F H)(r:rR K c σ ρ F H p v)(h:BK p=some k):Ak K.K v H k:=by
 cases p with
 |bl b=>cases r.bl;cases h;rfl
 |int i=>cases r.int;cases h;rfl
 |non=>cases r.non;cases h;rfl
 |str y=>
  cases r.str
  have h':(if y.length<=sizeLine then some ((y.length:Int) != 0) else none)=some k:=h
  split at h'
  ·rename_i hy;cases h';exact⟨hy,rfl⟩
  ·cases h'
 |lst ps=>
  obtain⟨a,vs,rfl,h1,h2⟩:=r.lst s
  cases h
  have e:ps.isEmpty=vs.isEmpty:=by cases h2.pr<;>rfl
  exact .inl ⟨vs,h1,by rw[e]⟩
 |tup ps=>
  obtain⟨a,vs,rfl,h1,h2⟩:=r.tup s
  cases h
  have e:ps.isEmpty=vs.isEmpty:=by cases h2.pr<;>rfl
  exact .inr (.inl ⟨vs,h1,by rw[e]⟩)
 |ins C ns ps=>cases h
 |xc C ns ps=>cases h
 |ty n=>cases h
 |cls C=>cases h
def cA(ha:PE X a (tR (kk X cm) E ma))(he:∀whole,isTrue a X.env whole=(do let v <-whole;standAt a.pos;holding [v] (truthy v)):=by intro _;rfl):PT X a (tB (kk X cm) E (cu ma)):=PT.wk (rC ha he) λσ H Q ⟨c,F,ρ,rel,h⟩=>
 ⟨c,F,ρ,rel,h.bind fun p ρ1 v F1 H1 Ĉ _ _ r1 h1=>by
   cases e:BK p with
   |none=>rw[e] at h1;exact h1.elim
   |some k=>rw[e] at h1;exact⟨k,Ge Ĉ.sub r1 e,h1 k F1 H1 Ĉ (Same.refl _) (Same.refl _) rfl⟩⟩
def bA(m:M PV):M Bool:=λρ=>(m ρ).bind λp ρ1=>match p with
 | .bl b=>.ok b ρ1
 |_=>.bad
def yK{σ:L2.St}{H:Hp}{Q:Bool->Hp->Prop}(h:tB (kk X cm) E (bA m) σ H Q):M2.rP (tV (kk X cm) E m) σ H Q:=by
 obtain⟨c,F,ρ,rel,h⟩:=h
 refine⟨c,F,ρ,rel,h.bind λp ρ1 v F1 H1 Ĉ _ _ r1 h1=>?_⟩
 cases p with
 |bl b=>
  have e:v=.bl b:=by have r1':Rep (kk X cm) F1 (.bl b) v:=r1;unfold Rep at r1';exact r1'
  subst e
  exact h1 b F1 H1 Ĉ (Same.refl _) (Same.refl _) rfl
 |_=>exact h1.elim
def Ņ{op:CmpOp}{r:R2}{f:PV->PV->Option PV}(hf:bV (kk X cm) r f)(ho:ľ X (compareOp op) r)(ha:PE X a (tR (kk X cm) E ma))(hb:PE X b (tR (kk X cm) E mb))(hm:behindInMarks op b=false):PT X (.Compare a [op] [b] pos) (tB (kk X cm) E (bA (Ą f ma mb))):=
 PT.wk (Ba ho ha hb hm) fun σ H Q h=>by
   obtain⟨c,F,ρ,rel,h⟩:=yK h
   exact oO hf ⟨c,F,ρ,rel,h⟩
def xG(f g:PV->PV->Option PV)(ma mb mc:M PV):M PV:=λρ=>(ma ρ).bind λp ρ1=>(mb ρ1).bind λq ρ2=>(Res.gU (f p q) ρ2).bind λz ρ3=>match z with
 | .bl true=>(mc ρ3).bind λw ρ4=>Res.gU (g q w) ρ4
 | .bl false=>.ok (.bl false) ρ3
 |_=>.bad
def Gf{r r':R2}{f g:PV->PV->Option PV}(hf:bV (kk X cm) r f)(hg:bV (kk X cm) r' g){σ:L2.St}{H:Hp}{Q:VK}(h:tV (kk X cm) E (xG f g ma mb mc) σ H Q):M2.rQ r r' (tR (kk X cm) E ma) (tR (kk X cm) E mb) (tR (kk X cm) E mc) σ H Q:=by
 obtain⟨c,F,ρ,rel,h⟩:=h
 refine⟨c,F,ρ,rel,h.bind λp ρ1 v F1 H1 Ĉ _ _ r1 h1=>⟨c,F1,ρ1,Ĉ,h1.bind λq ρ2 u F2 H2 ė sF sH r2 h2=>?_⟩⟩
 cases e:f p q with
 |none=>rw[e] at h2;exact h2.elim
 |some pv=>
  rw[e] at h2
  refine hf ė (r1.mono sF sH) r2 e λz F' H' Ś s1 s2 q'=>?_
  cases pv with
  |bl k=>
   have ez:z=.bl k:=by unfold Rep at q';exact q'
   subst ez
   cases k with
   |false=>exact h2 _ F' H' Ś s1 s2 q'
   |true=>
    refine⟨c,F',ρ2,Ś,ũ.bind (ũ.mono h2 s1 s2) λw ρ4 x F4 H4 kJ s3 s4 r4 h4=>?_⟩
    cases e':g q w with
    |none=>rw[e'] at h4;exact h4.elim
    |some Xa=>rw[e'] at h4;exact hg kJ (r2.mono (s1.trans s3) (s2.trans s4)) r4 e' λz F' H' Ś s1 s2 q'=>h4 z F' H' Ś s1 s2 q'
  |_=>exact h2.elim
def Gg{op op':CmpOp}{r r':R2}{f g:PV->PV->Option PV}{c:Expr}(hf:bV (kk X cm) r f)(hg:bV (kk X cm) r' g)(ho:ľ X (compareOp op) r)(ho':ľ X (compareOp op') r')(ha:PE X a (tR (kk X cm) E ma))(hb:PE X b (tR (kk X cm) E mb))(hc:PE X c (tR (kk X cm) E mc))
 (hm:lastMarks [op,op'] [b,c]=false:=by with_unfolding_all rfl):PT X (.Compare a [op,op'] [b,c] pos) (tB (kk X cm) E (bA (xG f g ma mb mc))):=PT.wk (rT ho ho' ha hb hc hm) λσ H Q h=>by
 obtain⟨c,F,ρ,rel,h⟩:=yK h
 exact Gf hf hg ⟨c,F,ρ,rel,h⟩
def aL(m:M Bool):M Bool:=λρ=>(m ρ).bind λb ρ1=>.ok (!b) ρ1
def cB{m:M Bool}(h:PT X a (tB (kk X cm) E m)):PT X (.UnaryOp .Not a pos) (tB (kk X cm) E (aL m)):=PT.wk (zR h) λσ H Q ⟨c,F,ρ,rel,h⟩=>
 ⟨c,F,ρ,rel,h.bind λp ρ1 v F1 H1 Ĉ _ _ r1 h1=>h1 _ F1 H1 Ĉ (Same.refl _) (Same.refl _) (by have e:p=v:=r1;rw[e];rfl)⟩
def oR(ma mb:M Bool):M Bool:=λρ=>(ma ρ).bind λb ρ1=>if b=true then mb ρ1 else .ok false ρ1
def fW(ma mb:M Bool):M Bool:=λρ=>(ma ρ).bind λb ρ1=>if b=true then .ok true ρ1 else mb ρ1
variable{ta tb:M Bool}{rest:List Expr}
def sZ(h:PT X a (tB (kk X cm) E ta)):PW X (.BoolOp .And [a] pos) (tB (kk X cm) E ta):=wg h
def kO(h:PT X a (tB (kk X cm) E ta)):PW X (.BoolOp .Or [a] pos) (tB (kk X cm) E ta):=zP h
def w_and(ha:PT X a (tB (kk X cm) E ta))(hb:PW X (.BoolOp .And (b::rest) pos) (tB (kk X cm) E tb)):PW X (.BoolOp .And (a::b::rest) pos) (tB (kk X cm) E (oR ta tb)):=PW.wk (zQ ha hb) λσ H Q ⟨c,F,ρ,rel,h⟩=>
 ⟨c,F,ρ,rel,h.bind fun p ρ1 v F1 H1 Ĉ _ _ r1 h1=>by
   have e:p=v:=r1
   subst e
   cases p with
   |true=>exact⟨c,F1,ρ1,Ĉ,h1⟩
   |false=>exact h1 false F1 H1 Ĉ (Same.refl _) (Same.refl _) rfl⟩
def w_or(ha:PT X a (tB (kk X cm) E ta))(hb:PW X (.BoolOp .Or (b::rest) pos) (tB (kk X cm) E tb)):PW X (.BoolOp .Or (a::b::rest) pos) (tB (kk X cm) E (fW ta tb)):=PW.wk (Er ha hb) λσ H Q ⟨c,F,ρ,rel,h⟩=>
 ⟨c,F,ρ,rel,h.bind fun p ρ1 v F1 H1 Ĉ _ _ r1 h1=>by
   have e:p=v:=r1
   subst e
   cases p with
   |false=>exact⟨c,F1,ρ1,Ĉ,h1⟩
   |true=>exact h1 true F1 H1 Ĉ (Same.refl _) (Same.refl _) rfl⟩
def mL(ma mb:M PV):M PV:=λρ=>(ma ρ).bind λp ρ1=>match p with
 | .bl true=>mb ρ1
 | .bl false=>.ok (.bl false) ρ1
 |_=>.bad
def BL(ma:M PV):M PV:=λρ=>(ma ρ).bind λp ρ1=>match p with
 | .bl b=>.ok (.bl (!b)) ρ1
 |_=>.bad
def mO{K:KK}{F:Hp}{b:Bool}{v:V}(h:Rep K F (.bl b) v):v=.bl b:=by unfold Rep at h;exact h
def yL{op}(h:PE X a (tV (kk X cm) E ma)):PE X (.BoolOp op [a] pos) (tV (kk X cm) E ma):=zT h
def v_and(ha:PE X a (tV (kk X cm) E ma))(hb:PE X (.BoolOp .And (b::rest) pos) (tV (kk X cm) E mb)):PE X (.BoolOp .And (a::b::rest) pos) (tV (kk X cm) E (mL ma mb)):=PE.wk (Bb ha hb) λσ H Q ⟨c,F,ρ,rel,h⟩=>
 ⟨c,F,ρ,rel,h.bind fun p ρ1 v F1 H1 Ĉ _ _ r1 h1=>by
   cases p with
   |bl k=>
    cases mO r1
    cases k with
    |true=>exact⟨c,F1,ρ1,Ĉ,h1⟩
    |false=>exact h1 _ F1 H1 Ĉ (Same.refl _) (Same.refl _) r1
   |_=>exact h1.elim⟩
def v_not(ha:PE X a (tV (kk X cm) E ma)):PE X (.UnaryOp .Not a pos) (tV (kk X cm) E (BL ma)):=PE.wk (Bc ha) λσ H Q ⟨c,F,ρ,rel,h⟩=>
 ⟨c,F,ρ,rel,h.bind fun p ρ1 v F1 H1 Ĉ _ _ r1 h1=>by
   cases p with
   |bl k=>
    cases mO r1
    exact h1 _ F1 H1 Ĉ (Same.refl _) (Same.refl _) Rep.bl
   |_=>exact h1.elim⟩
def eU{α:Type}(t:M Bool)(ma mb:M α):M α:= λρ=>(t ρ).bind λb ρ1=>if b=true then ma ρ1 else mb ρ1
def ĝ:M (List PV):=λρ=>.ok [] ρ
def Ċ(ma:M PV)(mr:M (List PV)):M (List PV):=λρ=>(ma ρ).bind λp ρ1=>(mr ρ1).bind λps ρ2=>.ok (p::ps) ρ2
variable{mr:M (List PV)}
def ņ:PA X [] (tL (kk X cm) E ĝ):=PA.wk bN λσ H Q ⟨c,F,ρ,rel,h⟩=>h [] F H rel (Same.refl _) (Same.refl _) ĉ.nil
def ě(ha:PE X e (tV (kk X cm) E ma))(hr:PA X es (tL (kk X cm) E mr))(hs:starEach (e::es) X.env=(false,eval e X.env)::starEach es X.env:=by exact ŏ rfl):PA X (e::es) (tL (kk X cm) E (Ċ ma mr)):=PA.wk (ŗ ha hr hs) λσ H Q ⟨c,F,ρ,rel,h⟩=>
 ⟨c,F,ρ,rel,h.bind λp ρ1 v F1 H1 Ĉ _ _ r1 h1=>⟨c,F1,ρ1,Ĉ,h1.bind λps ρ2 vs F2 H2 ė sF sH r2 h2=>h2 _ F2 H2 ė (Same.refl _) (Same.refl _) (ĉ.cons (Rep.same sF p v r1) r2)⟩⟩
def Ĭ:PA X [] (Ed (kk X cm) E ĝ):=PA.wk bN λσ H Q ⟨c,F,ρ,rel,h⟩=>h [] F H rel (Same.refl _) (Same.refl _) .nil
def Ė(ha:PE X e (tR (kk X cm) E ma))(hr:PA X es (Ed (kk X cm) E mr))(hs:starEach (e::es) X.env=(false,eval e X.env)::starEach es X.env:=by exact ŏ rfl):PA X (e::es) (Ed (kk X cm) E (Ċ ma mr)):=PA.wk (ŗ ha hr hs) λσ H Q ⟨c,F,ρ,rel,h⟩=>
 ⟨c,F,ρ,rel,h.bind λp ρ1 v F1 H1 Ĉ _ _ r1 h1=>⟨c,F1,ρ1,Ĉ,h1.bind λps ρ2 vs F2 H2 ė sF sH r2 h2=>h2 _ F2 H2 ė (Same.refl _) (Same.refl _) (.cons (rR.mono r1 sF sH) r2)⟩⟩
def Ď:M (List Slot):=λρ=>.ok [] ρ
def č(ma:M PV)(mr:M (List Slot)):M (List Slot):=λρ=>(ma ρ).bind λp ρ1=>(mr ρ1).bind λas ρ2=>.ok (.sh p::as) ρ2
def aW:Slot->Option Slot
 | .sh p=>some (.sh p)
 | .ow ps=>some (.bw ps)
 | .bw ps=>some (.bw ps)
 |_=>none
def Ă(i:Nat)(mr:M (List Slot)):M (List Slot):=λρ=>match(ρ[i]?).bind aW with
 |none=>.bad
 |some _=>(mr ρ).bind λas ρ2=>match(ρ2[i]?).bind aW with
  |some s=>.ok (s::as) ρ2
  |none=>.bad
variable{ms:M (List Slot)}
def Ę:PA X [] (tA (kk X cm) E Ď):=PA.wk bN λσ H Q ⟨c,F,ρ,rel,h⟩=>h [] F H rel (Same.refl _) (Same.refl _) .nil
def Ğ(ha:PE X e (tV (kk X cm) E ma))(hr:PA X es (tA (kk X cm) E ms))(hs:starEach (e::es) X.env=(false,eval e X.env)::starEach es X.env:=by exact ŏ rfl):PA X (e::es) (tA (kk X cm) E (č ma ms)):=PA.wk (ŗ ha hr hs) λσ H Q ⟨c,F,ρ,rel,h⟩=>
 ⟨c,F,ρ,rel,h.bind λp ρ1 v F1 H1 Ĉ _ _ r1 h1=>⟨c,F1,ρ1,Ĉ,h1.bind λas ρ2 vs F2 H2 ė sF sH r2 h2=>h2 _ F2 H2 ė (Same.refl _) (Same.refl _) (.cons (show ź _ _ _ (.sh p) v from Rep.same sF p v r1) r2)⟩⟩
def oU{K:KK}{c:Ctx}{F H:Hp}{σ:L2.St}{ρ:ĥ}{i:Nat}{s:Slot}(rel:Rel K c F H σ ρ)(h:(ρ[i]?).bind aW=some s):∃v,σ[i]?=some (some v)/\ź K F H s v:=by
 cases e:ρ[i]? with
 |none=>rw[e] at h;cases h
 |some sl=>
  rw[e] at h
  have h':aW sl=some s:=h
  cases sl with
  |sh p=>
   cases h'
   obtain⟨v,h1,h2⟩:=rel.slot i _ e
   exact⟨v,at_of h1,h2⟩
  |ow ps=>
   cases h'
   obtain⟨a,vs,h1,h2,h3,h4,h5,_⟩:=rel.ow e
   exact⟨.ref a,h1,a,vs,rfl,h2,h3,h5⟩
  |bw ps=>
   cases h'
   obtain⟨a,vs,h1,h2,h3⟩:=rel.slot i _ e
   exact⟨.ref a,at_of h1,a,vs,rfl,(rel.lent a _ h2).1,(rel.lent a _ h2).2,h3⟩
  |no=>cases h'
  |rc C ns ps=>cases h'
  |ot ps qs=>cases h'
  |ol qI=>cases h'
def ċ(i:Nat){x:Str}{px:Pos}(hN:X.N[i]?=some x:=by rfl)(hv:lV X.env.scope x:=by first|exact Or.inl rfl|exact Or.inr (Or.inl rfl)|exact Or.inr (Or.inr rfl))(hd:(x== ("__debug__" :Str))=false:=by decide)
 (hcd:(x== ("__classdict__" :Str))=false:=by decide)(hr:PA X es (tA (kk X cm) E ms))(hs:starEach (.Name x px::es) X.env=(false,eval (.Name x px) X.env)::starEach es X.env:=by exact ŏ rfl):PA X (.Name x px::es) (tA (kk X cm) E (Ă i ms)):=
 PA.wk (ŗ (ŧ hN hv hd hcd) hr hs) fun σ H Q ⟨c,F,ρ,rel,h⟩=>by
   unfold Ă at h
   cases e:(ρ[i]?).bind aW with
   |none=>rw[e] at h;exact h.elim
   |some s0=>
    rw[e] at h
    obtain⟨v,hv,_⟩:=oU rel e
    refine⟨v,hv,c,F,ρ,rel,ũ.bind h λas ρ2 vs F2 H2 ė sF sH r2 h2=>?_⟩
    cases e2:(ρ2[i]?).bind aW with
    |none=>simp only[e2] at h2;exact h2.elim
    |some s=>
     simp only[e2] at h2
     obtain⟨v',hv',r1⟩:=oU ė e2
     rw[hv] at hv'
     cases hv'
     exact h2 _ F2 H2 ė (Same.refl _) (Same.refl _) (.cons r1 r2)
def tu(mr:M (List PV)):M PV:=λρ=>(mr ρ).bind λps ρ1=>if ps.length<=16777216 then .ok (.tup ps) ρ1 else .bad
def cT(mr:M (List PV)):M RV:=λρ=>(mr ρ).bind λps ρ1=>if ps.length<=16777216 then .ok (.ow ps) ρ1 else .bad
def ġ:sizeLine=16777216:=sizeLine_eq
def tD{x1}(h:PA X es (tL (kk X cm) E mr)):PE X (.Tuple es x1 pos) (tV (kk X cm) E (tu mr)):=PE.wk (rE h) λσ H Q ⟨c,F,ρ,rel,h⟩=>
 ⟨c,F,ρ,rel,h.bind fun ps ρ1 vs F1 H1 Ĉ _ _ r1 h1=>by
   split at h1
   ·rename_i hz
    refine⟨by rw[<-ĉ.length r1,ġ];exact hz,λp hp=>h1 _ _ _ (Ĉ.alloc hp) (Same.upd (Ĉ.sub.free hp)) (Same.upd hp) ?_⟩
    show Rep _ _ _ _
    unfold Rep
    exact⟨p,vs,rfl,Ų.of Ē,ĉ.same (Same.upd (Ĉ.sub.free hp)) ps vs r1⟩
   ·exact h1.elim⟩
def cC{K:KK}{c:Ctx}{F H:Hp}{σ:L2.St}{ρ:ĥ}{ps:List PV}{vs:List V}{a:Addr}(rel:Rel K c F H σ ρ)(ha:H a=none)(r:ĉ K F ps vs):Rel K c F (upd H a (.lst vs)) σ ρ/\Held K c σ ρ F (upd H a (.lst vs)) ps (.ref a):=
 ⟨rel.made ha,a,vs,rfl,Ē,rel.sub.free ha,rel.base.free ha,rel.fresh ha,r⟩
def fX(h:PA X es (tL (kk X cm) E mr)):PE X (.List es pos) (tO (kk X cm) E (cT mr)):=PE.wk (Ao h) λσ H Q ⟨c,F,ρ,rel,h⟩=>
 ⟨c,F,ρ,rel,h.bind fun ps ρ1 vs F1 H1 Ĉ _ _ r1 h1=>by
   split at h1
   ·rename_i hz
    refine⟨by rw[<-ĉ.length r1,ġ];exact hz,λp hp=>?_⟩
    obtain⟨q1,q2⟩:=cC Ĉ hp r1
    exact h1 _ _ _ q1 (Same.refl _) (Same.upd hp) q2
   ·exact h1.elim⟩
def cU(f:List PV->Option PV)(mr:M (List PV)):M PV:=λρ=>(mr ρ).bind λps ρ1=>Res.gU (f ps) ρ1
def qJ(f:List PV->Option RV)(mr:M (List PV)):M RV:=λρ=>(mr ρ).bind λps ρ1=>Res.gU (f ps) ρ1
def kW(K:KK)(r:List V->Hp->VK->Prop)(f:List PV->Option PV):Prop:=∀{c:Ctx} {F H:Hp} {σ:L2.St} {ρ:ĥ} {ps:List PV} {pv:PV} {vs:List V} {Q:VK},Rel K c F H σ ρ->Gb K c σ ρ F H ps vs->f ps=some pv->
 (∀z F' H',Rel K c F' H' σ ρ->Same F F'->Same H H'->Rep K F' pv z->Q z H')->r vs H Q
def yM(K:KK)(r:List V->Hp->VK->Prop)(f:List PV->Option RV):Prop:=∀{c:Ctx} {F H:Hp} {σ:L2.St} {ρ:ĥ} {ps:List PV} {pv:RV} {vs:List V} {Q:VK},Rel K c F H σ ρ->Gb K c σ ρ F H ps vs->f ps=some pv->
 (∀z F' H',Rel K c F' H' σ ρ->Same F F'->Same H H'->rO K c σ ρ F' H' pv z->Q z H')->r vs H Q
def au{r:List V->Hp->VK->Prop}{f:List PV->Option PV}(hf:kW (kk X cm) r f){σ:L2.St}{H:Hp}{Q:VK}(h:tV (kk X cm) E (cU f mr) σ H Q):Jj r (Ed (kk X cm) E mr) σ H Q:=by
 obtain⟨c,F,ρ,rel,h⟩:=h
 refine⟨c,F,ρ,rel,h.bind λp ρ1 v F1 H1 Ĉ _ _ r1 h1=>?_⟩
 cases e:f p with
 |none=>rw[e] at h1;exact h1.elim
 |some pv=>rw[e] at h1;exact hf Ĉ r1 e λz F' H' Ś s1 s2 q'=>h1 z F' H' Ś s1 s2 q'
def Gh{r:List V->Hp->VK->Prop}{f:List PV->Option RV}(hf:yM (kk X cm) r f){σ:L2.St}{H:Hp}{Q:VK}(h:tO (kk X cm) E (qJ f mr) σ H Q):Jj r (Ed (kk X cm) E mr) σ H Q:=by
 obtain⟨c,F,ρ,rel,h⟩:=h
 refine⟨c,F,ρ,rel,h.bind λp ρ1 v F1 H1 Ĉ _ _ r1 h1=>?_⟩
 cases e:f p with
 |none=>rw[e] at h1;exact h1.elim
 |some pv=>rw[e] at h1;exact hf Ĉ r1 e λz F' H' Ś s1 s2 q'=>h1 z F' H' Ś s1 s2 q'
end
end P
namespace P
open PySem PySem.Spec PyProof.Rows L2 M2 M3
def iz:M Fl:=λρ=>.ok .nx ρ
def Ģ(a b:M Fl):M Fl:=λρ=>(a ρ).bind λf ρ1=>match f with
 | .nx=>b ρ1
 |f=>.ok f ρ1
def Ķ(i:Nat)(m:M RV):M Fl:=λρ=>(m ρ).bind λr ρ1=>.ok .nx (ρ1.set i r.slot)
def ł(m:M RV):M Fl:=λρ=>(m ρ).bind λr ρ1=>.ok (.rt r) ρ1
section
variable{X:Cx}{cm:String->Addr}{E:L2.St->XK}{a b e:Expr}{st:Stmt}{rest:List Stmt}{es:List Expr}{pos:Pos}{m1 m2:M Fl}{mo:M RV}{mv:M PV}
def Ń:dI X [] (tS (kk X cm) E iz):=dI.wk wj λD σ H ⟨c,F,ρ,rel,h⟩=>h σ F H rel (Same.refl F)
def Đ(h:PS X st (tS (kk X cm) E m1)):dI X [st] (tS (kk X cm) E m1):=wu h
def xH{c:Ctx}{F:Hp}{D:Ends}{r:Res Fl}(h:Ũ (kk X cm) E c F D (r.bind λf ρ1=>match f with| .nx=>m2 ρ1|f=>.ok f ρ1)):Ũ (kk X cm) E c F {D with nx:=tS (kk X cm) E m2 D} r:=by
 cases r with
 |ok f ρ1=>
  cases f with
  |nx=>exact λσ' F' H' Ś s=>⟨c,F',ρ1,Ś,Ũ.mono h s⟩
  |bk=>exact h
  |ct=>exact h
  |rt v=>exact h
 |exc x ρ1=>exact h
 |bad=>exact h
def Č(h1:PS X st (tS (kk X cm) E m1))(h2:dI X rest (tS (kk X cm) E m2)):dI X (st::rest) (tS (kk X cm) E (Ģ m1 m2)):=dI.wk (qW h1 h2) λD σ H ⟨c,F,ρ,rel,h⟩=>⟨c,F,ρ,rel,xH h⟩
def Ň{i:Nat}{x:Str}{pos':Pos}(hN:X.N.Nodup)(hi:X.N[i]?=some x)(hx:Loc X.env.scope x)(he:PE X e (tO (kk X cm) E mo))(hs:swapsWith e (some (.Name x pos')) pos.line X.env=pure false:=by rfl)(hf:X.fn x=true\/X.env.scope.names.lookup x=some .local:=by first|exact .inl rfl|exact .inr rfl|assumption) :
 PS X (.Assign [.Name x pos'] e pos) (tS (kk X cm) E (Ķ i mo)):=PS.wk (zW hN hi hx he hs hf) λD σ H ⟨c,F,ρ,rel,h⟩=>⟨c,F,ρ,rel,Ũ.bind h λr ρ1 v F1 H1 Ĉ s1 q h1=>by
 cases r with
 |sh p=>exact h1 _ F1 H1 (Ĉ.put rfl ⟨v,rfl,q⟩) (Same.refl _)
 |ow ps=>
  obtain⟨a,vs,rfl,q1,q2,q3,q4,q5⟩:=q
  exact h1 _ F1 H1 (Ĉ.xr ⟨a,vs,rfl,q1,q2,q3,q5⟩ λ_ z=>V.ref.inj z▸q4) (Same.refl _)
 |ot ps qs=>
  obtain⟨p,a,xs,vs,rfl,q0,qx,q1,q2,q3,q4,q5⟩:=q
  exact h1 _ F1 H1 (Ĉ.xr (s:=.ot ps qs) ⟨p,a,xs,vs,rfl,q0,qx,q1,q2,q3,q5⟩ λ_ z=>bf (ps:=ps) (qs:=qs) z ⟨p,xs,rfl,q0⟩▸q4) (Same.refl _)⟩
def Į(he:PE X e (tO (kk X cm) E mo)):PS X (.Return (some e) pos) (tS (kk X cm) E (ł mo)):=PS.wk (zU he) λD σ H ⟨c,F,ρ,rel,h⟩=>⟨c,F,ρ,rel,Ũ.bind h λr ρ1 v F1 H1 Ĉ s1 q h1=>h1 v σ F1 H1 Ĉ (Same.refl _) q⟩
def aO{t:M Bool}{ss ss':List Stmt}(hc:PT X a (tB (kk X cm) E t))(ha:dI X ss (tS (kk X cm) E m1))(hb:dI X ss' (tS (kk X cm) E m2)):PS X (.If a ss ss' pos) (tS (kk X cm) E (eU t m1 m2)):=PS.wk (Et hc ha hb) λD σ H ⟨c,F,ρ,rel,h⟩=>⟨c,F,ρ,rel,Ũ.bind h λr ρ1 v F1 H1 Ĉ s1 q h1=>by
 have e:r=v:=q
 subst e
 cases r with
 |true=>exact⟨c,F1,ρ1,Ĉ,h1⟩
 |false=>exact⟨c,F1,ρ1,Ĉ,h1⟩⟩
abbrev Tg:=PV->ĥ->Option ĥ
abbrev yN:=List PV->ĥ->Option ĥ
def Gi(K:KK)(c:Ctx)(F H:Hp)(Q:L2.St->Hp->Prop):Option ĥ->Prop
 |some ρ'=>∀σ',Rel K c F H σ' ρ'->Q σ' H
 |none=>False
def tT(K:KK)(g:Tg):TG:=λv σ H Q=>∃c F ρ p,Rel K c F H σ ρ/\Rep K F p v/\Gi K c F H Q (g p ρ)
def Jr(K:KK)(g:yN):wz:=λv σ H Q=>∃c F ρ p,Rel K c F H σ ρ/\ĉ K F p v/\Gi K c F H Q (g p ρ)
def gN(i:Nat):Tg:=λp ρ=>some (ρ.set i (.sh p))
def bI:yN:=λps ρ=>match ps with
 | []=>some ρ
 |_=>none
def Ĵ(g:Tg)(gs:yN):yN:=λps ρ=>match ps with
 |p::ps=>(g p ρ).bind λρ1=>gs ps ρ1
 | []=>none
def gT(n:Nat)(gs:yN):Tg:=λp ρ=>match p with
 | .tup ps=>if ps.length=n then gs ps ρ else none
 |_=>none
def PG.RJ{tg:Expr}{t t':TG}(h:PG X tg t)(i:∀v σ H Q,t' v σ H Q->t v σ H Q):PG X tg t':=λpins s σ H v u Q I r q=>h pins s σ H v u Q I r (i v σ H Q q)
def qe.wk{tg:List Expr}{t t':wz}(h:qe X tg t)(i:∀v σ H Q,t' v σ H Q->t v σ H Q):qe X tg t':=λpins s σ H v u Q I r q=>h pins s σ H v u Q I r (i v σ H Q q)
def Ĺ{i:Nat}{x:Str}(hN:X.N.Nodup)(hi:X.N[i]?=some x)(hx:Loc X.env.scope x)(hf:X.fn x=true\/X.env.scope.names.lookup x=some .local:=by first|exact .inl rfl|exact .inr rfl|assumption):PG X (.Name x pos) (tT (kk X cm) (gN i)):=
 PG.RJ (wA hN hi hx hf) λv σ H Q ⟨c,F,ρ,p,rel,rp,h⟩=>h _ (rel.put rfl ⟨v,rfl,rp⟩)
def mQ:qe X [] (Jr (kk X cm) bI):=qe.wk wB λv σ H Q ⟨c,F,ρ,p,rel,rp,h⟩=>by
 cases p with
 |nil=>
  have e:v=[]:=by have:=rp;unfold ĉ at this;exact this
  exact⟨e,h σ rel⟩
 |cons _ _=>exact h.elim
def bh{es:List Expr}{g:Tg}{gs:yN}(h1:PG X e (tT (kk X cm) g))(h2:qe X es (Jr (kk X cm) gs))(hs:(assignEach (e::es) X.env).map (·.2)=assign e X.env::(assignEach es X.env).map (·.2):=by rfl):qe X (e::es) (Jr (kk X cm) (Ĵ g gs)):=
 qe.wk (qY h1 h2 hs) λv σ H Q ⟨c,F,ρ,p,rel,rp,h⟩=>by
  cases p with
  |nil=>exact h.elim
  |cons p ps=>
   unfold ĉ at rp
   obtain⟨x,r,rfl,r1,r2⟩:=rp
   refine⟨x,r,rfl,c,F,ρ,p,rel,r1,?_⟩
   unfold Ĵ at h
   dsimp only at h
   cases eg:g p ρ with
   |none=>rw[eg] at h;exact h.elim
   |some ρ1=>rw[eg] at h;exact λσ' Ś=>⟨c,F,ρ1,ps,Ś,r2,h⟩
def tE{es:List Expr}{k:Nat}{gs:yN}{n:Nat}(hc:X.calm=true)(h:qe X es (Jr (kk X cm) gs))(hn:(assignEach es X.env).length=n:=by rfl)(hst:(assignEach es X.env).findIdx? (·.1)=none:=by rfl):PG X (.Tuple es k pos) (tT (kk X cm) (gT n gs)):=
 PG.RJ (zV hc h hn hst) fun v σ H Q ⟨c,F,ρ,p,rel,rp,h⟩=>by
   cases p with
   |tup ps=>
    unfold Rep at rp
    obtain⟨a,xs,h1,h2,h3⟩:=rp
    unfold gT at h
    dsimp only at h
    split at h
    ·rename_i hl
     exact⟨a,xs,h1,Same.tup rel.sub h2,by rw[<-h3.length];exact hl,c,F,ρ,ps,rel,h3,h⟩
    ·exact h.elim
   |_=>exact h.elim
def tH(i:Nat)(m:M PV):M Fl:=λρ=>match ρ[i]? with
 |some (.ow _)=>(m ρ).bind λp ρ1=>match ρ1[i]? with
  |some (.ow ps)=>if ps.length<16777216 then .ok .nx (ρ1.set i (.ow (ps ++ [p]))) else .bad
  |_=>.bad
 |_=>.bad
def oV{i:Nat}{D:Ends}{σ:L2.St}{H:Hp}(h:tS (kk X cm) E (tH i mv) D σ H):qX (Lz X.K "list" jD (lX i) (tL (kk X cm) E (Ċ mv ĝ))) D σ H:=by
 obtain⟨c,F,ρ,rel,h⟩:=h
 unfold tH at h
 cases e1:ρ[i]? with
 |none=>rw[e1] at h;exact h.elim
 |some sl=>
  rw[e1] at h
  cases sl with
  |ow Vk=>
   obtain⟨a,Vl,z1,z2,z3,z4,z5,z6⟩:=rel.ow e1
   refine⟨.ref a,z1,.inl ⟨rfl,_,ń.of z2⟩,c,F,ρ,rel,?_⟩
   dsimp only at h
   unfold Ċ
   cases em:mv ρ with
   |bad=>rw[em] at h;exact h
   |exc x ρ1=>rw[em] at h;exact λC d F' H' Ś s1 q=>h σ C d F' H' Ś s1 q
   |ok p ρ1=>
    rw[em] at h
    intro us F1 H1 Ĉ s1 s2 r1
    have r1':ĉ (kk X cm) F1 [p] us:=r1
    cases r1'.pr with
    |cons rp t=>
     rename_i v vs'
     cases t
     cases e2:ρ1[i]? with
     |none=>simp only[Res.eO,e2] at h;exact h.elim
     |some sl2=>
      simp only[Res.eO,e2] at h
      cases sl2 with
      |ow ps=>
       obtain⟨a2,vs,w1,w2,w3,w4,w5,w6⟩:=Ĉ.ow e2
       rw[z1] at w1
       cases w1
       dsimp only at h
       split at h
       ·rename_i hz
        refine⟨a,vs,v,rfl,rfl,w2,by rw[<-w5.length,ġ];exact hz,h σ F1 _ (Ĉ.write w6 z1 ⟨a,vs ++ [v],rfl,Ē,w3,w4,ĉ.append w5 (ĉ.cons rp ĉ.nil)⟩ λ_ z=>(V.ref.inj z).symm) s1⟩
       ·exact h.elim
      |_=>exact h.elim
  |_=>exact h.elim
def Ż(K:KK)(Lh F:Hp)(J:It)(items:List PV):Prop:=∀(c:Ctx) (i:Nat) (F2 H:Hp) (σ:L2.St) (ρ:ĥ),Rel K c F2 H σ ρ->Same F F2->Same Lh H->
 (∀p,items[i]?=some p->J.go i H/\∀x H',J.Jh i H x H'->∃F3,Rel K c F3 H' σ ρ/\Same F2 F3/\Same H H'/\Rep K F3 p x)/\(i=items.length->J.stop i H)
def RK(K:KK):RR (List PV) It:=λc _ _ F _ items J=>Ż K c.L F J items
abbrev tI(K:KK)(E:L2.St->XK)(m:M (List PV)):TI:=tG K E (RK K) m
def forL(g:Tg)(mb:M Fl):List PV->M Fl
 | [],ρ=>.ok .nx ρ
 |p::ps,ρ=>match g p ρ with
  |none=>.bad
  |some ρ1=>(mb ρ1).bind λf ρ2=>match f with
   | .nx=>forL g mb ps ρ2
   | .ct=>forL g mb ps ρ2
   | .bk=>.ok .nx ρ2
   | .rt r=>.ok (.rt r) ρ2
def iB(mi:M (List PV))(g:Tg)(mb:M Fl):M Fl:=λρ=>(mi ρ).bind λitems ρ1=>forL g mb items ρ1
def dz{iter tg:Expr}{body:List Stmt}{mi:M (List PV)}{g:Tg}{mb:M Fl}(hp:PassesOwn (model X.prog X.w) X.A X.env X.xe)(hc:X.calm=true)(hi:PI X tg iter (tI (kk X cm) E mi))(hg:PG X tg (tT (kk X cm) g))(hb:dI X body (tS (kk X cm) E mb))
 (hs:∀x,foldedSetIterable iter X.env x=pure x:=by intro _;rfl):PS X (.For tg iter body [] pos) (tS (kk X cm) E (iB mi g mb)):=PS.wk (zY hp hc hi hg hb hs) λD σ H ⟨c,F,ρ,rel,h⟩=>⟨c,F,ρ,rel,Ũ.bind h λitems ρ1 J F1 H1 Ĉ s1 ito h1=>by
 refine⟨λi m σ' H'=>∃F2 ρ2,i<=items.length/\m=items.length-i/\Rel (kk X cm) c F2 H' σ' ρ2/\Same F1 F2/\Ũ (kk X cm) E c F2 D (forL g mb (items.drop i) ρ2),⟨_,F1,ρ1,Nat.zero_le _,rfl,Ĉ,Same.refl _,h1⟩,?_⟩
 rintro i m σ2 H2 ⟨F2,ρ2,hle,rfl,ė,s2,h2⟩
 obtain⟨go,stop⟩:=ito c i F2 H2 σ2 ρ2 ė s2 λb u e=>(ė.lent b u e).1
 by_cases hlt:i<items.length
 ·obtain⟨g1,g2⟩:=go items[i] (List.getElem?_eq_getElem hlt)
  rw[List.drop_eq_getElem_cons hlt] at h2
  unfold forL at h2
  refine .inr ⟨g1,_,λσ' H' z=>z,λx H3 hy=>?_⟩
  obtain⟨F3,iC,s3,_,rp⟩:=g2 x H3 hy
  refine⟨c,F3,ρ2,items[i],iC,rp,?_⟩
  cases eg:g items[i] ρ2 with
  |none=>rw[eg] at h2;exact h2.elim
  |some ρ3=>
   rw[eg] at h2
   dsimp only at h2
   intro σ4 kJ
   refine⟨c,F3,ρ3,kJ,?_⟩
   have nxt:∀{ρ4:ĥ},Ũ (kk X cm) E c F2 D (forL g mb (items.drop (i+1)) ρ4)->∀σ' F' H',Rel (kk X cm) c F' H' σ' ρ4->Same F3 F'->∃m',m'<items.length-i/\∃F2 ρ2,i+1<=items.length/\m'=items.length-(i+1)/\Rel (kk X cm) c F2 H' σ' ρ2/\Same F1 F2/\Ũ (kk X cm) E c F2 D (forL g mb (items.drop (i+1)) ρ2):=
    fun{ρ4} h3 σ' F' H' Ś s'=>⟨items.length-(i+1),by omega,F',ρ4,hlt,rfl,Ś,(s2.trans s3).trans s',Ũ.mono h3 (s3.trans s')⟩
   have h2':=Ũ.mono h2 s3
   cases e2:mb ρ3 with
   |bad=>rw[e2] at h2;exact h2
   |exc x ρ4=>rw[e2] at h2';exact h2'
   |ok f ρ4=>
    rw[e2] at h2 h2'
    cases f with
    |nx=>exact nxt h2
    |ct=>exact nxt h2
    |bk=>exact h2'
    |rt r=>exact h2'
 ·have e:i=items.length:=by omega
  refine .inl ⟨stop e,?_⟩
  rw[List.drop_eq_nil_of_le (by omega)] at h2
  unfold forL at h2
  exact h2 σ2 F2 H2 ė (Same.refl _)⟩
end
end P
namespace P
open PySem PySem.Spec PyProof.Rows L2 M2 M3
inductive FR where
 |ret (r:RV)|exc (x:PX)|bad
abbrev MF:=List Slot->FR
def FR.of:Res Fl->FR
 | .ok (.rt r) _=>.ret r
 | .ok .nx _=>.ret (.sh .non)
 | .exc x _=>.exc x
 |_=>.bad
def ŕ(n k:Nat)(mb:M Fl):MF:=λas=>if as.length=n then FR.of (mb (startP k as)) else .bad
def rF(K:KK)(H F' H':Hp):RV->V->Prop
 | .sh p,v=>Rep K F' p v
 | .ow ps,v=>∃a vs,v=.ref a/\H' a=some (.lst vs)/\F' a=none/\H a=none/\ĉ K F' ps vs
 | .ot ps qs,v=>∃p a xs vs,v=.ref p/\F' p=some (.tup (xs ++ [.ref a]))/\ĉ K F' ps xs/\H' a=some (.lst vs)/\F' a=none/\H a=none/\ĉ K F' qs vs
def Ms(K:KK)(E:XK)(F H:Hp)(Q:VK):FR->Prop
 | .ret r=>∀v F' H',Gr F H F' H'->rF K H F' H' r v->Q v H'
 | .exc x=>∀C d F' H',Gr F H F' H'->BJ K F' x C d->E C d H'
 | .bad=>False
def bB(K:KK)(n:Nat)(mf:MF):Sp:=λvs H Q E=>∃F as,as.length=n/\Same F H/\Paired (ź K F H) as vs/\Ms K E F H Q (mf as)
def ŭ(CX:dJ)(X:Cx)(E:L2.St->XK):Prop:=∀(pins:List (Addr×Obj)) (σ:L2.St) (H:Hp) (s:Shared) (e:Value) (s':Shared),Inv X pins σ H s->CX X.stack H s (E σ) e s'->X.xe e s'
def ę{X:Cx}{E:L2.St->XK}:ŭ iV X E:=λ_ _ _ _ _ _ _ h=>h.elim
section
variable{P:Program}{w:World}{K:PySem.W.Frag}{cm:String->Addr}{mg:Str->Option Value}{base:Heap}{CX:dJ}
def Vm{x qual:Str}{st:Stmt}{f:Addr}{fd:FuncData}{N ps:List Str}{k:Nat}{mb:M Fl}(F:fM K x qual st f fd)(S:Ě N ps (ă st))
 (hbody:∀(cdv:Value) (A:Around) (outer:List Env) (s:Shared) (H:Hp) (E:XK),Ľ k (A.deeper (envOfC qual (ă st) s.heap.objs.size f cdv))→
   dI (ig CX P w K mg base N qual (ă st) f cdv A outer s H E) (Ġ st) (tS ⟨K,cm⟩ (λ_=>E) mb)):ĸ P w K mg base CX (k+1) f fd ps (bB ⟨K,cm⟩ ps.length (ŕ ps.length N.length mb)):=by
 obtain⟨oc,od,kV,doc,pm,an,cdv,ct,osl,rfl,lk,hcd⟩:=F.ex
 refine rG lk hcd S (λvs H Q E ⟨F,ps',h1,_,h2,_⟩=>by rw[<-Paired.length h2];exact h1) λA outer s H vs Q E hr hsp=>?_
 obtain⟨F,ps',h1,h2,h3,h4⟩:=hsp
 refine⟨_,hbody cdv A outer s H E hr,ctx0 F H,F,startP N.length ps',Rel.start h2 h3,?_⟩
 unfold ŕ at h4
 rw[if_pos h1] at h4
 cases e:mb (startP N.length ps') with
 |bad=>rw[e] at h4;exact h4
 |exc x ρ'=>rw[e] at h4;exact λσ' C d F' H' rel s1 q=>h4 C d F' H' rel.gr q
 |ok fl ρ'=>
  rw[e] at h4
  cases fl with
  |nx=>exact λσ' F' H' rel s1=>h4 .non F' H' rel.gr (Rep.non (K:=⟨K,cm⟩) (F:=F'))
  |bk=>exact h4.elim
  |ct=>exact h4.elim
  |rt r=>
   intro v σ' F' H' rel s1 q
   refine h4 v F' H' rel.gr ?_
   cases r with
   |sh p=>exact q
   |ow qs=>
    obtain⟨a,vs',e1,e2,e3,e4,_,e5⟩:=q
    exact⟨a,vs',e1,e2,e3,e4,e5⟩
   |ot qs ts=>
    obtain⟨p,a,xs,vs',e1,e0,ex,e2,e3,e4,_,e5⟩:=q
    exact⟨p,a,xs,vs',e1,e0,ex,e2,e3,e4,e5⟩
def Vn{x qual:Str}{st:Stmt}{f:Addr}{fd:FuncData}{N ps:List Str}{k n j:Nat}{mb:M Fl}{mf:MF}(F:fM K x qual st f fd)(S:Ě N ps (ă st))(hn:ps.length=n)(hj:N.length=j)(hf:mf=ŕ n j mb)
 (hbody:∀(cdv:Value) (A:Around) (outer:List Env) (s:Shared) (H:Hp) (E:XK),Ľ k (A.deeper (envOfC qual (ă st) s.heap.objs.size f cdv))→
   dI (ig CX P w K mg base N qual (ă st) f cdv A outer s H E) (Ġ st) (tS ⟨K,cm⟩ (λ_=>E) mb)):ĸ P w K mg base CX (k+1) f fd ps (bB ⟨K,cm⟩ n mf):=by
 subst hn hj hf
 exact Vm F S hbody
end
def đ(mf:MF)(mr:M (List Slot)):M RV:=λρ=>(mr ρ).bind λps ρ1=>match mf ps with
 | .ret r=>.ok r ρ1
 | .exc x=>.exc x ρ1
 | .bad=>.bad
section
variable{X:Cx}{cm:String->Addr}{E:L2.St->XK}{CX:dJ}{k n:Nat}{f:Addr}{fd:FuncData}{ps:List Str}{mf:MF}{mr:M (List Slot)}{x:Str}{p pos:Pos}{e:Expr}{es:List Expr}
def xJ{sp:Sp}{pins:List (Addr×Obj)}{σ:L2.St}{H:Hp}{s:Shared}{Q:VK}{us:List Value}{vs:List V}(F:ĸ X.prog X.w X.K X.mg X.base CX k f fd ps sp)(hr:Ľ k X.A)(hb:Binds X.K fd ps [])(hx:ŭ CX X E)
 (I:Inv X pins σ H s)(r:Vals vs us)(h:sp vs H Q (E σ)):wpAny (model X.prog X.w) X.A (call (.ref f) us) (EP X pins σ Q) X.xe s:=by
 have hl:(us ++ []).length=ps.length:=by rw[List.append_nil,<-r.length];exact F.len _ _ _ _ h
 have hbd:=hb s us I.fj hl
 rw[List.append_nil] at hbd
 refine wpAny_call (codeAny_mono (F.run X.A X.stack s H ⟨us,[]⟩ us vs Q (E σ) hr I.env0 hbd r h) λr s' hq=>?_)
 cases r with
 |error e=>exact hx pins σ H s e s' I hq
 |ok fl=>
  cases fl with
  |ret u=>exact I.after hq
  |next=>exact False.elim hq
  |brk=>exact False.elim hq
  |cont=>exact False.elim hq
def fY{c:Ctx}{F1 H1:Hp}{σ:L2.St}{ρ1:ĥ}{Q:VK}{ps:List Slot}{vs:List V}(hlen:(∃r,mf ps=r/\∀z,r=z->z≠ .bad)->ps.length=n)(Ĉ:Rel (kk X cm) c F1 H1 σ ρ1)(r1:Paired (ź (kk X cm) F1 H1) ps vs)
 (h:ũ (kk X cm) E (rO (kk X cm)) c F1 H1 σ Q (match mf ps with| .ret r=>.ok r ρ1| .exc x=>.exc x ρ1| .bad=>.bad)):bB (kk X cm) n mf vs H1 Q (E σ):=by
 refine⟨F1,ps,?_,Ĉ.sub,r1,?_⟩
 ·refine hlen ⟨_,rfl,λz hz hb=>?_⟩
  rw[hz,hb] at h
  exact h
 ·cases em:mf ps with
  |bad=>rw[em] at h;exact h
  |exc x=>rw[em] at h;exact λC d F' H' g rx=>h C d F' H' (Ĉ.call g) g.f rx
  |ret r=>
   rw[em] at h
   intro v F' H' g rf
   refine h v F' H' (Ĉ.call g) g.f g.h ?_
   cases r with
   |sh p=>exact rf
   |ow qs=>
    obtain⟨a,vs',e1,e2,e3,e4,e5⟩:=rf
    exact⟨a,vs',e1,e2,e3,Ĉ.base.free e4,Ĉ.jG g.f (Ĉ.fresh e4),e5⟩
   |ot qs ts=>
    obtain⟨p,a,xs,vs',e1,e0,ex,e2,e3,e4,e5⟩:=rf
    exact⟨p,a,xs,vs',e1,e0,ex,e2,e3,Ĉ.base.free e4,Ĉ.jG g.f (Ĉ.fresh e4),e5⟩
def ď{n k:Nat}{mb:M Fl}{ps:List Slot}(h:∃r,ŕ n k mb ps=r/\∀z,r=z->z≠ .bad):ps.length=n:=by
 obtain⟨r,h1,h2⟩:=h
 unfold ŕ at h1
 by_cases hl:ps.length=n
 ·exact hl
 ·rw[if_neg hl] at h1
  exact absurd h1.symm (λz=>h2 .bad (by rw[<-h1]) rfl)
def ğ(F:ĸ X.prog X.w X.K X.mg X.base CX k f fd ps (bB (kk X cm) n mf))(hlen:∀{ps:List Slot},(∃r,mf ps=r/\∀z,r=z->z≠ .bad)->ps.length=n)(hr:Ľ k X.A)(hg:Gl X x)(hm:X.mg x=some (.ref f))(hk:PySem.W.keepIn X.K (.ref f)=true)(hb:Binds X.K fd ps [])(hx:ŭ CX X E)
 (ha:PA X (e::es) (tA (kk X cm) E mr))(hdb:(x== ("__debug__" :Str))=false:=by decide)(he:starEach (e::es) X.env=(false,eval e X.env)::starEach es X.env:=by exact ŏ rfl)(hpl:(backTo pos (starEach es X.env)).any (·.1)=false:=by rfl) :
 PE X (.Call (.Name x p) (e::es) [] pos) (tO (kk X cm) E (đ mf mr)):=by
 intro pins s σ H Q I h
 obtain⟨c,F,ρ,rel,h⟩:=h
 refine wpAny_Call_Name_kw (jy I hg hm ?_ hdb)
 refine PySem.W.callWith_K (h₀:= X.base) I.ok.mod.Ea hk (Ļ (ha pos pins s σ H (λvs H1=>bB (kk X cm) n mf vs H1 Q (E σ)) I ⟨c,F,ρ,rel,h.bind λps' ρ1 vs F1 H1 Ĉ _ _ r1 h1=>fY hlen Ĉ r1 h1⟩) λus s1 ⟨vs,H1,I1,r,q⟩=>⟨I1.fj,?_⟩) he hpl
 exact xJ (by assumption) hr hb hx I1 r q
end
def aA(m:M PV):M (List PV):=λρ=>(m ρ).bind λp ρ1=>match p with
 | .lst ps=>.ok ps ρ1
 | .tup ps=>.ok ps ρ1
 | .str z=>.ok (z.cps.toList.map λc=>.str ⟨#[c]⟩) ρ1
 |_=>.bad
section
variable{X:Cx}{cm:String->Addr}{E:L2.St->XK}{tg:Expr}
def Mt(K:PySem.W.Frag)(tl:TE):TI:=λσ H R=>tl σ H λx H1=>(∃a,x=.ref a/\(∃xs,ń K H1 a xs)/\R (yE K a) H1)\/(∃a,x=.ref a/\(∃xs,Ų K H1 a xs)/\R (Ew K a) H1)\/∃z,x=.str z/\R (Its z) H1
def tK{l:Expr}{tl:TE}(hl:PE X l tl):PI X tg l (Mt X.K tl):=by
 intro pins s σ H R I h
 refine Ļ (hl pins s σ H _ I h) λv s1 ⟨x,H1,I1,r1,q1⟩=>?_
 rcases q1 with⟨a,e,⟨xs,hq⟩,q⟩|⟨a,e,⟨xs,hq⟩,q⟩|⟨z,e,q⟩
 ·subst e
  cases r1
  obtain⟨its,rv,p,hz⟩:=I1.list hq
  refine wpAny_pyIter_list p.isList ?_
  refine⟨s1.heap.objs.size,[s1.heap.objs.size],_,_,H1,rfl,I1.kept (t':=s1.toks) λb o e=>Heap.get?_push_of_some _ e,qg a _,⟨_,Heap.get?_push_size _ rfl,rfl,rfl⟩,λb hb=>?_,q⟩
  have e:b=s1.heap.objs.size:=by simpa using hb
  subst e
  exact I1.g_ (Nat.le_refl _) (I1.hok.fresh (Nat.le_refl _))
 ·subst e
  cases r1
  obtain⟨its,rv,p,hz⟩:=I1.tuple hq
  refine wpAny_pyIter_tuple (show s1.heap.IsTuple a its.toArray from p) ?_
  refine⟨s1.heap.objs.size,[s1.heap.objs.size],_,_,H1,rfl,I1.kept (t':=s1.toks) λb o e=>Heap.get?_push_of_some _ e,lY a _,⟨_,Heap.get?_push_size _ rfl,rfl,rfl⟩,λb hb=>?_,q⟩
  have e:b=s1.heap.objs.size:=by simpa using hb
  subst e
  exact I1.g_ (Nat.le_refl _) (I1.hok.fresh (Nat.le_refl _))
 ·subst e
  obtain⟨t,rfl⟩:=r1
  have fin:∀ty,(∀A:Around,A.handled=none->Walks X.prog X.w A s1.heap.objs.size [s1.heap.objs.size] [s1.heap.objs.size] z.cps.size (SignAt z) (λi h=>h.IsStrIter s1.heap.objs.size ty z t i))->
   (∀(A:Around) (i:Nat) (s:Shared) (Q:Value->Shared->Prop) (E:Value->Shared->Prop),s.heap.IsStrIter s1.heap.objs.size ty z t i->Q (.ref s1.heap.objs.size) s->wpAny (model X.prog X.w) A (pyIter (.ref s1.heap.objs.size)) Q E s)->
   (["enumerate","zip","dict_itemiterator","dict_reverseitemiterator","odict_iterator","itertools.zip_longest","itertools.pairwise"].contains ty=false)->
   PIE X pins σ tg R (.ref s1.heap.objs.size) {s1 with heap:=s1.heap.push {cls:=.type ty,data:=.fields #[.str z t,.int 0 0]}}:=λty hW hS hty=>by
   refine⟨s1.heap.objs.size,[s1.heap.objs.size],_,_,H1,rfl,I1.kept (t':=s1.toks) λb o e=>Heap.get?_push_of_some _ e,qD _ z t ty hW hS hty,⟨_,Heap.get?_push_size _ rfl,rfl,rfl⟩,λb hb=>?_,q⟩
   have e:b=s1.heap.objs.size:=by simpa using hb
   subst e
   exact I1.g_ (Nat.le_refl _) (I1.hok.fresh (Nat.le_refl _))
  cases ha:z.cps.all (·< 128) with
  |true=>exact wpAny_pyIter_ascii ha (fin _ (λA hA=>Walks.strAscii hA _ z t) (λA i s Q E st q=>wpAny_pyIter_striter_ascii st q) (by decide))
  |false=>exact wpAny_pyIter_wide ha (fin _ (λA hA=>Walks.strWide hA _ z t) (λA i s Q E st q=>wpAny_pyIter_striter_wide st q) (by decide))
def tM{l:Expr}{m:M PV}(hl:PE X l (tV (kk X cm) E m)):PI X tg l (tI (kk X cm) E (aA m)):=λpins s σ H R I h=>tK hl pins s σ H R I (by
 obtain⟨c,F,ρ,rel,h⟩:=h
 refine⟨c,F,ρ,rel,h.bind λp ρ1 v F1 H1 Ĉ s1 s2 q h1=>?_⟩
 cases p with
 |lst ps=>
  have q':Rep (kk X cm) F1 (.lst ps) v:=q
  unfold Rep at q'
  obtain⟨a,vs,rfl,e1,e2⟩:=q'
  refine .inl ⟨a,rfl,⟨vs,Ĉ.sub.seq e1⟩,h1 _ F1 H1 Ĉ (Same.refl _) (Same.refl _) ?_⟩
  intro c' i F2 H2 σ2 ρ2 ė sF _
  have hq:ń X.K H2 a vs:=(sF.trans ė.sub).seq e1
  refine⟨λp hp=>?_,λhi=>⟨vs,hq,by rw[hi,e2.length];exact Nat.le_refl _⟩⟩
  obtain⟨u,hu,ru⟩:=ŝ e2.pr hp
  refine⟨⟨vs,u,hq,hu⟩,λx H' ⟨hH,hx⟩=>?_⟩
  subst hH
  have:vs[i]?=some x:=hx vs hq
  rw[hu] at this
  cases this
  exact⟨F2,ė,Same.refl _,Same.refl _,Rep.same sF p u ru⟩
 |tup ps=>
  have q':Rep (kk X cm) F1 (.tup ps) v:=q
  unfold Rep at q'
  obtain⟨a,vs,rfl,e1,e2⟩:=q'
  refine .inr (.inl ⟨a,rfl,⟨vs,Same.tup Ĉ.sub e1⟩,h1 _ F1 H1 Ĉ (Same.refl _) (Same.refl _) ?_⟩)
  intro c' i F2 H2 σ2 ρ2 ė sF _
  have hq:Ų X.K H2 a vs:=Same.tup (sF.trans ė.sub) e1
  refine⟨λp hp=>?_,λhi=>⟨vs,hq,by rw[hi,e2.length];exact Nat.le_refl _⟩⟩
  obtain⟨u,hu,ru⟩:=ŝ e2.pr hp
  refine⟨⟨vs,u,hq,hu⟩,λx H' ⟨hH,hx⟩=>?_⟩
  subst hH
  have:vs[i]?=some x:=hx vs hq
  rw[hu] at this
  cases this
  exact⟨F2,ė,Same.refl _,Same.refl _,Rep.same sF p u ru⟩
 |str z=>
  have q':v=.str z:=by have q':Rep (kk X cm) F1 (.str z) v:=q;unfold Rep at q';exact q'
  subst q'
  refine .inr (.inr ⟨z,rfl,h1 _ F1 H1 Ĉ (Same.refl _) (Same.refl _) ?_⟩)
  intro c' i F2 H2 σ2 ρ2 ė sF _
  refine⟨λp hp=>?_,λhi=>by rw[hi,List.length_map];show _=_;simp⟩
  rw[List.getElem?_map] at hp
  cases ez:z.cps.toList[i]? with
  |none=>rw[ez] at hp;cases hp
  |some cc=>
   rw[ez] at hp
   cases hp
   refine⟨by have:=(List.getElem?_eq_some_iff.mp ez).1;show i<z.cps.size;simpa using this,λx H' ⟨hH,c2,hc,hx⟩=>?_⟩
   subst hH hx
   rw[ez] at hc
   cases hc
   exact⟨F2,ė,Same.refl _,Same.refl _,Rep.str⟩
 |_=>exact h1.elim)
def cV(i:Nat):M (List PV):=λρ=>match ρ[i]? with
 |some (.bw ps)=>.ok ps ρ
 |some (.sh (.lst ps))=>.ok ps ρ
 |some (.sh (.tup ps))=>.ok ps ρ
 |some (.sh (.str z))=>.ok (z.cps.toList.map λc=>.str ⟨#[c]⟩) ρ
 |some (.ow ps)=>.ok ps (ρ.set i (.sh (.lst ps)))
 |_=>.bad
def tQ(i:Nat){x:Str}{px:Pos}(hN:X.N[i]?=some x:=by rfl)(hv:lV X.env.scope x:=by first|exact Or.inl rfl|exact Or.inr (Or.inl rfl)|exact Or.inr (Or.inr rfl))(hd:(x== ("__debug__" :Str))=false:=by decide)
 (hcd:(x== ("__classdict__" :Str))=false:=by decide):PI X tg (.Name x px) (tI (kk X cm) E (cV i)):=λpins s σ H R I h=>by
 obtain⟨c,F,ρ,rel,h⟩:=h
 cases e:ρ[i]? with
 |none=>unfold cV at h;rw[e] at h;exact h.elim
 |some sl=>
  have xK:ũ (kk X cm) E (RK (kk X cm)) c F H σ R (aA (Ī i) ρ)->wpAny (model X.prog X.w) X.A (eval (.Name x px) X.env) (λv s1=>wpAny (model X.prog X.w) X.A (pyIter v) (PIE X pins σ tg R) X.xe s1) X.xe s:=λh'=>
   tM (v_var i hN hv hd hcd) pins s σ H R I ⟨c,F,ρ,rel,h'⟩
  unfold cV at h
  rw[e] at h
  cases sl with
  |no=>exact h.elim
  |rc C ns ps=>exact h.elim
  |ot ps qs=>exact h.elim
  |ol qI=>exact h.elim
  |ow ps=>exact xK (by unfold aA Ī;rw[e];exact h)
  |sh p=>
   cases p with
   |lst ps=>exact xK (by unfold aA Ī;rw[e];exact h)
   |tup ps=>exact xK (by unfold aA Ī;rw[e];exact h)
   |str z=>exact xK (by unfold aA Ī;rw[e];exact h)
   |_=>exact h.elim
  |bw ps=>
   obtain⟨a,vs,h1,h2,h3⟩:=rel.slot i _ e
   refine tK (ŧ hN hv hd hcd) pins s σ H R I ⟨.ref a,at_of h1,.inl ⟨a,rfl,⟨vs,ń.of (rel.lent a _ h2).1⟩,h _ F H rel (Same.refl _) (Same.refl _) ?_⟩⟩
   intro c' j F2 H2 σ2 ρ2 ė sF sL
   have hq:ń X.K H2 a vs:=ń.of (sL a _ h2)
   refine⟨λp hp=>?_,λhi=>⟨vs,hq,by rw[hi,h3.length];exact Nat.le_refl _⟩⟩
   obtain⟨u,hu,ru⟩:=ŝ h3.pr hp
   refine⟨⟨vs,u,hq,hu⟩,λx H' ⟨hH,hx⟩=>?_⟩
   subst hH
   have:vs[j]?=some x:=hx vs hq
   rw[hu] at this
   cases this
   exact⟨F2,ė,Same.refl _,Same.refl _,Rep.same sF p u ru⟩
def aX(lo:Int)(n:Nat)(c:Int):List PV:=(List.range n).map λ(i:Nat)=>.int (lo+i*c)
def fZ(i:Int):Bool:=decide (i.natAbs<1152921504606846976)
def Š:List PV->Option (List PV)
 | [.int j]=>if fZ j=true then some (aX 0 j.toNat 1) else none
 |_=>none
def Ş(f:List PV->Option (List PV))(mr:M (List PV)):M (List PV):=λρ=>(mr ρ).bind λps ρ1=>Res.gU (f ps) ρ1
def mR{lo c:Int}{n i:Nat}{p:PV}(h:(aX lo n c)[i]?=some p):i<n/\p=.int (lo+i*c):=by
 unfold aX at h
 by_cases hn:i<n
 ·rw[List.getElem?_map,List.getElem?_range hn] at h
  exact⟨hn,(Option.some.inj h).symm⟩
 ·rw[List.getElem?_eq_none (by simpa using hn)] at h
  cases h
def mV{lo c:Int}{n:Nat}:(aX lo n c).length=n:=by simp[aX]
def BP{K:KK}{Lh F:Hp}(lo:Int)(n:Nat):Ż K Lh F (Ji lo n) (aX lo n 1):=λc i F2 H σ ρ rel sF _=>
 ⟨fun p hp=>by
   obtain⟨h1,rfl⟩:=mR hp
   refine⟨h1,λx H' ⟨e1,e2⟩=>?_⟩
   subst e1 e2
   exact⟨F2,rel,Same.refl _,Same.refl _,by rw[Int.mul_one];exact Rep.int⟩,λhi=>by rw[mV] at hi;subst hi;exact Nat.le_refl _⟩
def qK{i:Int}(h:fZ i=true): -(2 ^ 60)<=i/\i<2 ^ 60:=by
 unfold fZ at h
 rw[decide_eq_true_eq] at h
 omega
variable{a b d:Expr}{p pos:Pos}{mr:M (List PV)}
def tU{K:KK}{F:Hp}{ps:List PV}{vs:List V}(h:ĉ K F ps vs):(∀i r,ps=.int i::r->∃r',vs=.int i::r'/\ĉ K F r r')/\(ps=[]->vs=[]):=by
 refine⟨λi r e=>?_,λe=>?_⟩
 ·subst e
  unfold ĉ at h
  obtain⟨x,r',h1,h2,h3⟩:=h
  unfold Rep at h2
  exact⟨r',by rw[h1,h2],h3⟩
 ·subst e
  unfold ĉ at h
  exact h
def ś(hg:Gl X "range")(hm:X.mg "range" =none)(ha:PA X [a] (tL (kk X cm) E mr))(hs:starEach [a] X.env=[(false,eval a X.env)]:=by exact ŏ rfl):PI X tg (.Call (.Name "range" p) [a] [] pos) (tI (kk X cm) E (Ş Š mr)):=
 λpins s σ H R I h=>qj hg hm ha hs pins s σ H R I (by
  obtain⟨c,F,ρ,rel,h⟩:=h
  refine⟨c,F,ρ,rel,h.bind λps ρ1 vs F1 H1 Ĉ s1 s2 q h1=>?_⟩
  have q':ĉ (kk X cm) F1 ps vs:=q
  unfold Š at h1
  split at h1
  ·rename_i j
   split at h1
   ·rename_i hj
    obtain⟨r',e1,e2⟩:=(tU q').1 _ _ rfl
    cases(tU e2).2 rfl
    obtain⟨k1,k2⟩:=qK hj
    exact⟨j,e1,by omega,by omega,h1 _ F1 H1 Ĉ (Same.refl _) (Same.refl _) (BP 0 j.toNat)⟩
   ·exact h1.elim
  ·exact h1.elim)
end
def Ū:Slot->Slot
 | .sh p=>.sh p
 | .ow ps=>.bw ps
 | .bw ps=>.bw ps
 |_=>.no
def aP(js:List Nat)(nl:Nat)(ρ:ĥ):ĥ:=js.map (λ(j:Nat)=>Ū ((ρ[j]?).getD .no))++List.replicate nl .no
def Ŝ(g:Tg)(mt:M Bool)(me:M PV):List PV->ĥ->List PV->Option (List PV)
 | [],_,acc=>some acc
 |p::ps,ρ,acc=>match g p ρ with
  |none=>none
  |some ρ1=>match mt ρ1 with
   | .ok true ρ2=>match me ρ2 with
     | .ok q ρ3=>if acc.length<16777216 then Ŝ g mt me ps ρ3 (acc ++ [q]) else none
     |_=>none
   | .ok false ρ2=>Ŝ g mt me ps ρ2 acc
   |_=>none
def Ů(js:List Nat)(nl:Nat)(mi:M (List PV))(g:Tg)(mt:M Bool)(me:M PV):M RV:=λρ=>(mi ρ).bind λitems ρ1=>match Ŝ g mt me items (aP js nl ρ1) [] with
 |some ps=>.ok (.ow ps) ρ1
 |none=>.bad
abbrev EF:L2.St->XK:=λ_ _ _ _=>False
def bQ:M Bool:=λρ=>.ok true ρ
section
variable{K:KK}{c:Ctx}{F H:Hp}{σ:L2.St}{ρ:ĥ}
def jH(F H H1:Hp):Ctx:=⟨H1,F,(ctx0 F H).L,λ_ _ _=>True⟩
def Rel.cap(js:List Nat)(nl:Nat)(rel:Rel K c F H σ ρ){D:Addr}{o:HO}(hD:H D=none):Rel K (jH F H (upd H D o)) F (upd H D o) (Ÿ js nl σ) (aP js nl ρ) where
 sub:=rel.sub.trans (Same.upd hD)
 base:=Same.refl _
 f0:=Same.refl _
 ž:=λ_ _ z=>z
 lent:=λa u e=>⟨Same.upd hD a u (aU e).1,(aU e).2⟩
 lb:=fun a e=>by
   cases q:(jH F H (upd H D o)).L a with
   |none=>rfl
   |some u=>
    have e':upd H D o a=none:=e
    rw[Same.upd hD a u (aU q).1] at e'
    cases e'
 len:=by simp[Ÿ,aP]
 slot:= λi s e=>by
  unfold aP at e
  by_cases hi:i<js.length
  ·rw[List.getElem?_append_left (by simpa using hi),List.getElem?_map] at e
   cases ej:js[i]? with
   |none=>rw[ej] at e;cases e
   |some j=>
    rw[ej] at e
    have e':Ū ((ρ[j]?).getD .no)=s:=Option.some.inj e
    subst e'
    have hx:((Ÿ js nl σ)[i]?).getD none=(σ[j]?).getD none:=by
     unfold Ÿ
     rw[List.getElem?_append_left (by simpa using hi),List.getElem?_map,ej]
     rfl
    rw[hx]
    cases er:ρ[j]? with
    |none=>trivial
    |some sl=>
     have q:=rel.slot j sl er
     cases sl with
     |no=>trivial
     |sh p=>exact q
     |ow ps=>
      obtain⟨a,vs,h1,h2,h3,h4,h5⟩:=q
      refine⟨a,vs,h1,?_,h5⟩
      show(match F a with|none=>H a|some _=>none)=_
      rw[h3]
      exact h2
     |bw ps=>
      obtain⟨a,vs,h1,h2,h3⟩:=q
      obtain⟨l1,l2⟩:=rel.lent a _ h2
      refine⟨a,vs,h1,?_,h3⟩
      show(match F a with|none=>H a|some _=>none)=_
      rw[l2]
      exact l1
     |rc C ns ps=>trivial
     |ot ps qs=>trivial
     |ol qI=>trivial
  ·rw[List.getElem?_append_right (by simpa using hi),List.getElem?_replicate] at e
   split at e
   ·cases e;trivial
   ·cases e
 sep:=λi j a h1 _=>by
  exfalso
  obtain⟨s,y,h1,_,h2⟩:=h1
  have h2:=fQ h2
  unfold aP at h1
  by_cases hi:i<js.length
  ·rw[List.getElem?_append_left (by simpa using hi),List.getElem?_map] at h1
   cases ej:js[i]? with
   |none=>rw[ej] at h1;cases h1
   |some j=>
    rw[ej] at h1
    have e':Ū ((ρ[j]?).getD .no)=s:=Option.some.inj h1
    subst e'
    cases q:(ρ[j]?).getD .no<;>rw[q] at h2<;>cases h2
  ·rw[List.getElem?_append_right (by simpa using hi),List.getElem?_replicate] at h1
   split at h1
   ·cases h1;cases h2
   ·cases h1
def Rel.rebase{H1 F1:Hp}{D:Addr}{ys zs:List V}(hD:H1 D=none)(hF:F1 D=none)(rel:Rel K (jH F1 H1 (upd H1 D (.lst ys))) F H σ ρ):Rel K (jH F1 H1 (upd H1 D (.lst zs))) F (upd H D (.lst zs)) σ ρ:= by
 have fD:F D=none:=rel.ž D (by show upd H1 D _ D≠none;rw[Ē];intro z;cases z) hF
 have lD:∀b u,(jH F1 H1 (upd H1 D (.lst ys))).L b=some u->b≠D:=λb u e z=>by
  have q:=(aU (F:=F1) (H:=H1) (a:=b) (u:=u) e).1
  rw[z,hD] at q
  cases q
 have ne:∀b,(jH F1 H1 (upd H1 D (.lst ys))).B b=none->b≠D:=λb z q=>by
  subst q
  have z':upd H1 b (.lst ys) b=none:=z
  rw[Ē] at z';cases z'
 have back:∀b,b≠D->(jH F1 H1 (upd H1 D (.lst ys))).B b=none->(jH F1 H1 (upd H1 D (.lst zs))).B b=none:=λb hb z=>by
  have z':upd H1 D (.lst ys) b=none:=z
  show upd H1 D (.lst zs) b=none
  rw[ć hb] at z' ⊢;exact z'
 refine⟨λb u e=>?_,λb u e=>?_,rel.f0,λb h1 h2=>?_,λb u e=>?_,λb e=>?_,rel.len,λi s e=>?_,rel.sep⟩
 ·have hb:b≠D:=λz=>by rw[z,fD] at e;cases e
  rw[ć hb];exact rel.sub b u e
 ·by_cases hb:b=D
  ·subst hb
   have e':upd H1 b (.lst zs) b=some u:=e
   rw[Ē] at e' ⊢;exact e'
  ·have e':upd H1 D (.lst zs) b=some u:=e
   rw[ć hb] at e' ⊢
   exact rel.base b u (by show upd H1 D _ b=some u;rw[ć hb];exact e')
 ·refine rel.ž b (λz=>h1 ?_) h2
  exact back b (ne b z) z
 ·rw[ć (lD b u e)]
  exact rel.lent b u e
 ·refine rel.lb b ?_
  have z':upd H1 D (.lst zs) b=none:=e
  have hb:b≠D:=λq=>by rw[q,Ē] at z';cases z'
  show upd H1 D (.lst ys) b=none
  rw[ć hb] at z' ⊢;exact z'
 ·have q:=rel.slot i s e
  cases s with
  |no=>trivial
  |sh p=>exact q
  |bw ps=>exact q
  |ow ps=>
   obtain⟨a,vs,q1,q2,q3,q4,q5⟩:=q
   have hb:=ne a q4
   exact⟨a,vs,q1,by rw[ć hb];exact q2,q3,back a hb q4,q5⟩
  |rc C ns ps=>
   obtain⟨a,dx,fs,q1,q2,q3,q4,q5⟩:=q
   have hb:=ne a q4
   exact⟨a,dx,fs,q1,by rw[ć hb];exact q2,q3,back a hb q4,q5⟩
  |ot ps qs=>
   obtain⟨p,a,xs,vs,q1,q0,qx,q2,q3,q4,q5⟩:=q
   have hb:=ne a q4
   exact⟨p,a,xs,vs,q1,q0,qx,by rw[ć hb];exact q2,q3,back a hb q4,q5⟩
  |ol qI=>
   obtain⟨p,as,q1,q0,qn,qp⟩:=q
   refine⟨p,as,q1,q0,qn,sS qp λa ps _ ⟨vs,q2,q3,q4,q5⟩=>?_⟩
   have hb:=ne a q4
   exact⟨vs,by rw[ć hb];exact q2,q3,back a hb q4,q5⟩
end
section
variable{X:Cx}{cm:String->Addr}{E:L2.St->XK}{elt tg iter:Expr}{ifs:List Expr}{scope:Scope}{pos:Pos}{mi:M (List PV)}{g:Tg}{mt:M Bool}{me:M PV}
def jJ:wV X [] (tB (kk X cm) E bQ):=λpins s σ H Q I h=>wW pins s σ H Q I (by
 obtain⟨c,F,ρ,rel,h⟩:=h
 exact h true F H rel (Same.refl _) (Same.refl _) rfl)
def mW{a:Expr}(h:PT X a (tB (kk X cm) E mt)):wV X [a] (tB (kk X cm) E mt):=wX h
def tW(K:KK):RR (List PV) It:=λ_ _ _ F H items J=>Ż K (ctx0 F H).L F J items
def yO{K:KK}{c:Ctx}{F H:Hp}{σ:L2.St}{ρ:ĥ}(rel:Rel K c F H σ ρ){b:Addr}{u:HO}(e:c.L b=some u):(ctx0 F H).L b=some u:=by
 obtain⟨l1,l2⟩:=rel.lent b u e
 show(match F b with|none=>H b|some _=>none)=some u
 rw[l2]
 exact l1
def yP(h:PI X tg iter (tI (kk X cm) E mi)):PI X tg iter (tG (kk X cm) E (tW (kk X cm)) mi):=λpins s σ H R I ⟨c,F,ρ,rel,q⟩=>h pins s σ H R I ⟨c,F,ρ,rel,ũ.bind (R':=tW (kk X cm)) (f:=λp ρ=>.ok p ρ) (by revert q;cases mi ρ <;> exact id) λp ρ1 v F1 H1 Ĉ s1 s2 q h1=>h1 v F1 H1 Ĉ (Same.refl _) (Same.refl _) λc' i F2 H2 σ2 ρ2 ė sF sL=>q c' i F2 H2 σ2 ρ2 ė sF λb u e=>sL b u (yO Ĉ e)⟩
def kY{js:List Nat}{nl:Nat}{σ:L2.St}{H:Hp}{Q:VK}(h:tO (kk X cm) E (Ů js nl mi g mt me) σ H Q):rW js nl (tG (kk X cm) E (tW (kk X cm)) mi) (tT (kk X cm) g) (tB (kk X cm) EF mt) (tV (kk X cm) EF me) σ H Q:=by
 obtain⟨c,F,ρ,rel,h⟩:=h
 refine⟨c,F,ρ,rel,h.bind λitems ρ1 J F1 H1 Ĉ s1 s2 ito h1=>?_⟩
 intro D hD
 have hF:F1 D=none:=Ĉ.sub.free hD
 cases ec:Ŝ g mt me items (aP js nl ρ1) [] with
 |none=>rw[ec] at h1;exact h1.elim
 |some res=>
  rw[ec] at h1
  refine⟨λi m σ' H'=>∃F' ρ' ys acc,i<=items.length/\m=items.length-i/\Rel (kk X cm) (jH F1 H1 (upd H1 D (.lst ys))) F' H' σ' ρ'/\ĉ (kk X cm) F' acc ys/\Ŝ g mt me (items.drop i) ρ' acc=some res,
   ⟨_,F1,_,[],[],Nat.zero_le _,rfl,?_,ĉ.nil,ec⟩,?_⟩
  ·exact Ĉ.cap js nl hD
  ·rintro i m σ2 H2 ⟨F2,ρ2,ys,acc,hle,rfl,ė,ra,h2⟩
   have s12:Same F1 F2:=ė.f0
   obtain⟨go,stop⟩:=ito _ i F2 H2 σ2 ρ2 ė s12 λb u e=>(ė.lent b u e).1
   have hH2:H2 D=some (.lst ys):=ė.base D _ (show upd H1 D _ D=_ from Ē)
   have fD:F2 D=none:=ė.ž D (by show upd H1 D _ D≠none;rw[Ē];intro z;cases z) hF
   by_cases hlt:i<items.length
   ·obtain⟨g1,g2⟩:=go items[i] (List.getElem?_eq_getElem hlt)
    rw[List.drop_eq_getElem_cons hlt] at h2
    unfold Ŝ at h2
    refine .inr ⟨g1,_,λσ' H' z=>z,λx H3 hy=>?_⟩
    obtain⟨F3,iC,s3,Xb,rp⟩:=g2 x H3 hy
    refine⟨_,F3,ρ2,items[i],iC,rp,?_⟩
    cases eg:g items[i] ρ2 with
    |none=>rw[eg] at h2;cases h2
    |some ρ3=>
     rw[eg] at h2
     dsimp only at h2
     intro σ4 kJ
     refine⟨_,F3,ρ3,kJ,?_⟩
     cases em:mt ρ3 with
     |bad=>rw[em] at h2;cases h2
     |exc x ρ4=>rw[em] at h2;cases h2
     |ok b ρ4=>
      rw[em] at h2
      intro b' F5 H5 Gj s5 Xc eb
      have eb':b=b':=eb
      subst eb'
      cases b with
      |false=>
       rw[if_neg Bool.false_ne_true]
       dsimp only at h2
       exact⟨items.length-(i+1),by omega,F5,ρ4,ys,acc,hlt,rfl,Gj,ĉ.same (s3.trans s5) acc ys ra,h2⟩
      |true=>
       rw[if_pos rfl]
       dsimp only at h2
       refine⟨_,F5,ρ4,Gj,?_⟩
       cases ee:me ρ4 with
       |bad=>rw[ee] at h2;cases h2
       |exc x ρ5=>rw[ee] at h2;cases h2
       |ok q ρ5=>
        rw[ee] at h2
        dsimp only at h2
        intro y F6 H6 Gk s6 Xd rq
        split at h2
        ·rename_i hz
         have RL:=ĉ.same ((s3.trans s5).trans s6) acc ys ra
         refine⟨ys,Gk.base D _ (show upd H1 D _ D=_ from Ē),by rw[<-RL.length,ġ];exact hz,?_⟩
         exact⟨items.length-(i+1),by omega,F6,ρ5,ys ++ [y],acc ++ [q],hlt,rfl,Gk.rebase hD hF,ĉ.append RL (ĉ.cons rq ĉ.nil),h2⟩
        ·cases h2
   ·have e:i=items.length:=by omega
    refine .inl ⟨stop e,?_⟩
    rw[List.drop_eq_nil_of_le (by omega)] at h2
    unfold Ŝ at h2
    cases h2
    have gr:Gr F1 H1 F2 H2:=⟨λb u e=>ė.base b u (by show upd H1 D _ b=_;rw[ć (Ĕ e hD)];exact e),s12,ė.sub,λb hb hf=>ė.ž b (by
     show upd H1 D _ b≠none
     by_cases hbD:b=D
     ·rw[hbD,Ē];intro z;cases z
     ·rw[ć hbD];exact hb) hf⟩
    have Mu:=Ĉ.call gr
    exact h1 _ F2 H2 Mu s12 gr.h ⟨D,ys,rfl,hH2,fD,Ĉ.base.free hD,Ĉ.jG gr.f (Ĉ.fresh hD),ra⟩
def oW(N':List Str)(js:List Nat)(nl:Nat)(sc:Scope)(hsc:X.env.scope=sc)(hcalm:X.calm=true)
 (hi:PI X.ĺ tg iter (tG (kk X cm) E (tW (kk X cm)) mi))(hg:∀cl C s H fp,PG (aN X.ĺ N' scope cl C s H fp) tg (tT (kk X cm) g))(ht:∀cl C s H fp,wV (aN X.ĺ N' scope cl C s H fp) ifs (tB (kk X cm) EF mt))(he:∀cl C s H fp,PE (aN X.ĺ N' scope cl C s H fp) elt (tV (kk X cm) EF me))
 (hcap:aK X.ĺ sc scope N' js)(hlen:js.length+nl=N'.length:=by rfl)
 (hk:scope.kind=.function:=by rfl)(hcell:∀y∈scope.names,y.2=.cell->scope.names.lookup y.1=some .cell:=by decide +kernel)(hnames:∀y∈scope.names,y.2=.local->scope.names.lookup y.1=some .local:=by decide +kernel)
 (hfree:∀y∈scope.names,y.2=.free->(sc.names.lookup y.1=some .cell\/sc.names.lookup y.1=some .free):=by decide +kernel)
 (hs:∀x,foldedSetIterable iter X.env x=pure x:=by intro _;rfl) :
 PE X (.ListComp elt [⟨tg,iter,ifs,0⟩] scope pos) (tO (kk X cm) E (Ů js nl mi g mt me)):=
 PE.wk (PE.ĺ (wY N' js nl sc hsc hcalm hi hg ht he hcap hlen hk hcell hnames hfree hs)) λ_ _ _ h=>kY h
def mX(N':List Str)(js:List Nat)(nl:Nat)(sc:Scope)(hsc:X.env.scope=sc)(hcalm:X.calm=true)
 (hi:PI X.ĺ tg iter (tI (kk X cm) E mi))(hg:∀cl C s H fp,PG (aN X.ĺ N' scope cl C s H fp) tg (tT (kk X cm) g))(ht:∀cl C s H fp,wV (aN X.ĺ N' scope cl C s H fp) ifs (tB (kk X cm) EF mt))(he:∀cl C s H fp,PE (aN X.ĺ N' scope cl C s H fp) elt (tV (kk X cm) EF me))
 (hcap:aK X.ĺ sc scope N' js)(hlen:js.length+nl=N'.length:=by rfl)
 (hk:scope.kind=.function:=by rfl)(hcell:∀y∈scope.names,y.2=.cell->scope.names.lookup y.1=some .cell:=by decide +kernel)(hnames:∀y∈scope.names,y.2=.local->scope.names.lookup y.1=some .local:=by decide +kernel)
 (hfree:∀y∈scope.names,y.2=.free->(sc.names.lookup y.1=some .cell\/sc.names.lookup y.1=some .free):=by decide +kernel)
 (hs:∀x,foldedSetIterable iter X.env x=pure x:=by intro _;rfl) :
 PE X (.ListComp elt [⟨tg,iter,ifs,0⟩] scope pos) (tO (kk X cm) E (Ů js nl mi g mt me)):=
 oW N' js nl sc hsc hcalm (yP hi) hg ht he hcap hlen hk hcell hnames hfree hs
end
end P
namespace P
open PySem PySem.Spec PyProof.Rows L2 M2 M3 M4
abbrev bits(x:Int):Nat:=Builtin.Int.intBits x
section
variable{X:Cx}{cm:String->Addr}{K:KK}
def yQ(K:PySem.W.Frag):R2:=λx y H Q=>∃l b xs zs,x=.ref l/\y=.ref b/\ń K H l xs/\ń K H b zs/\xs.length+zs.length<=sizeLine/\∀p,H p=none->Q (.ref p) (upd H p (.lst (xs++zs)))
def xM:ľ X (binaryOp .Add) (yQ X.K):=by
 intro pins s σ H x y v u Q I rx ry h
 obtain⟨l,b,xs,zs,rfl,rfl,hH,hB,hz,q⟩:=h
 cases rx
 cases ry
 obtain⟨its,r,pl,z⟩:=I.list hH
 obtain⟨its2,r2,Mv,z2⟩:=I.list hB
 obtain⟨⟨c1,d1,t1,Gm⟩,n,e,hc,hd,hs⟩:=pl
 obtain⟨⟨c2,d2,t2,sl2⟩,n2,e2,hc2,hd2,hs2⟩:=Mv
 simp only at hc hd hs hc2 hd2 hs2
 subst hc hd hs hc2 hd2 hs2
 have hl:=r.length
 have hl2:=r2.length
 have ea:its.toArray++its2.toArray=(its++its2).toArray:=by simp
 refine concat_meets ⟨_,e,rfl⟩ ⟨_,e2,rfl⟩ noFill_list_add seq_list_add PySem.F.slot_list_add PySem.F.entry_list_add (PySem.F.args_list_add_2 _ _) (list_addW l b its.toArray its2.toArray n n2 none none Gm sl2 (by simp only[List.size_toArray];omega)) ⟨e,e2,?_⟩
 rw[ea]
 exact⟨.ref _,_,I.LQ (t':=s.toks) (r.append r2) (by rw[List.length_append];omega),rfl,q _ I.fresh⟩
def yR(K:PySem.W.Frag):R2:=λx y H Q=>∃l b xs zs,x=.ref l/\y=.ref b/\Ų K H l xs/\Ų K H b zs/\xs≠[]/\zs≠[]/\xs.length+zs.length<=sizeLine/\∀p,H p=none->Q (.ref p) (upd H p (.tup (xs++zs)))
def xO:ľ X (binaryOp .Add) (yR X.K):=by
 intro pins s σ H x y v u Q I rx ry h
 obtain⟨l,b,xs,zs,rfl,rfl,hH,hB,nx,nz,hz,q⟩:=h
 cases rx
 cases ry
 obtain⟨its,r,pl,z⟩:=I.tuple hH
 obtain⟨its2,r2,Mv,z2⟩:=I.tuple hB
 obtain⟨⟨c1,d1,t1,Gm⟩,e,hc,n,hd⟩:=pl
 obtain⟨⟨c2,d2,t2,sl2⟩,e2,hc2,n2,hd2⟩:=Mv
 simp only at hc hd hc2 hd2
 subst hc hd hc2 hd2
 have hl:=r.length
 have hl2:=r2.length
 have ne1:its≠[]:=λz=>by rw[z] at hl;exact nx (List.length_eq_zero_iff.mp hl)
 have ne2:its2≠[]:=λz=>by rw[z] at hl2;exact nz (List.length_eq_zero_iff.mp hl2)
 have ea:its.toArray++its2.toArray=(its++its2).toArray:=by simp
 refine concat_meets ⟨_,e,rfl⟩ ⟨_,e2,rfl⟩ noFill_tuple_add seq_tuple_add PySem.F.slot_tuple_add PySem.F.entry_tuple_add (PySem.F.args_tuple_add_2 _ _) (tuple_addW2 l b its.toArray its2.toArray n n2 d1 d2 Gm sl2 (by simpa using ne1) (by simpa using ne2) (by simp only[List.size_toArray];omega)) ⟨e,e2,?_⟩
 rw[ea]
 exact⟨.ref _,_,I.laid (o:=.tup (xs++zs)) (t':=s.toks) (λ_ _ q=>Heap.get?_push_of_some _ q) (Nat.le_refl _) ⟨by rw[List.length_append];omega,(its++its2),r.append r2,⟨_,Heap.get?_push_size _ rfl,rfl,_,rfl⟩⟩,rfl,q _ I.fresh⟩
def ň:PV->PV->Option RV
 | .int i,.int j=>some (.sh (.int (i+j)))
 | .str i,.str j=>if i.length+j.length<=16777216 then some (.sh (.str (i++j))) else none
 | .lst ps,.lst qs=>if ps.length+qs.length<=16777216 then some (.ow (ps++qs)) else none
 | .tup (p::ps),.tup (q::qs)=>if(p::ps).length+(q::qs).length<=16777216 then some (.sh (.tup ((p::ps)++(q::qs)))) else none
 |_,_=>none
def yS(K:PySem.W.Frag):R2:=λx y H Q=>Fw x y H Q\/(yQ K x y H Q\/yR K x y H Q)
def aB:ľ X (binaryOp .Add) (yS X.K):=Bd.or (xM.or xO)
def aC:Mr K (yS K.K) ň:=by
 intro c F H σ ρ p q pv v u Q rel r1 r2 e k
 unfold ň at e
 split at e
 ·cases e
  cases r1.int
  cases r2.int
  exact .inl (k _ F H rel (Same.refl _) (Same.refl _) (Rep.int (K:=K) (F:=F)))
 ·split at e
  ·rename_i hz
   cases e
   cases r1.str
   cases r2.str
   exact .inl ⟨by rw[ġ];exact hz,k _ F H rel (Same.refl _) (Same.refl _) (Rep.str (K:=K) (F:=F))⟩
  ·cases e
 ·split at e
  ·rename_i hz
   cases e
   obtain⟨a,xs,rfl,h1,h2⟩:=r1.lst rel.sub
   obtain⟨b,ys,rfl,h3,h4⟩:=r2.lst rel.sub
   refine .inr (.inl ⟨a,b,xs,ys,rfl,rfl,h1,h3,by rw[<-h2.length,<-h4.length,ġ];exact hz,λd hd=>?_⟩)
   obtain⟨q1,q2⟩:=cC rel hd (ĉ.append h2 h4)
   exact k _ F _ q1 (Same.refl _) (Same.upd hd) q2
  ·cases e
 ·split at e
  ·rename_i hz
   cases e
   obtain⟨a,xs,rfl,h1,h2⟩:=r1.tup rel.sub
   obtain⟨b,ys,rfl,h3,h4⟩:=r2.tup rel.sub
   have l1:=h2.length
   have l2:=h4.length
   refine .inr (.inr ⟨a,b,xs,ys,rfl,rfl,h1,h3,(λz=>by rw[z] at l1;cases l1),(λz=>by rw[z] at l2;cases l2),by rw[<-l1,<-l2,ġ];exact hz,λl hl=>k _ _ _ (rel.alloc hl) (Same.upd (rel.sub.free hl)) (Same.upd hl) ?_⟩)
   show Rep K _ _ _
   unfold Rep
   exact⟨l,xs++ys,rfl,Ų.of Ē,ĉ.same (Same.upd (rel.sub.free hl)) _ _ (ĉ.append h2 h4)⟩
  ·cases e
 ·cases e
def h_(g:Int->Int->Int):PV->PV->Option PV
 | .int i,.int j=>some (.int (g i j))
 |_,_=>none
def ou(C:Int->Int->Bool)(g:Int->Int->Int):PV->PV->Option PV
 | .int i,.int j=>if C i j=true then some (.int (g i j)) else none
 |_,_=>none
def Gn(g:Int->Int->Bool):PV->PV->Option PV
 | .int i,.int j=>some (.bl (g i j))
 |_,_=>none
def tX{g:Int->Int->Int}:bV K (mH λi j=>.int (g i j)) (h_ g):=by
 intro c F H σ ρ p q pv v u Q rel r1 r2 e k
 unfold h_ at e
 split at e
 ·cases e
  cases r1.int
  cases r2.int
  exact k _ F H rel (Same.refl _) (Same.refl _) Rep.int
 ·cases e
def BR{g:Int->Int->Bool}:bV K (mH λi j=>.bl (g i j)) (Gn g):=by
 intro c F H σ ρ p q pv v u Q rel r1 r2 e k
 unfold Gn at e
 split at e
 ·cases e
  cases r1.int
  cases r2.int
  exact k _ F H rel (Same.refl _) (Same.refl _) Rep.bl
 ·cases e
def tY{C:Int->Int->Bool}{C':Int->Int->Prop}{g:Int->Int->Int}(hC:∀i j,C i j=true->C' i j):bV K (mI C' λi j=>.int (g i j)) (ou C g):=by
 intro c F H σ ρ p q pv v u Q rel r1 r2 e k
 unfold ou at e
 split at e
 ·split at e
  ·rename_i hc
   cases e
   cases r1.int
   cases r2.int
   exact⟨hC _ _ hc,k _ F H rel (Same.refl _) (Same.refl _) Rep.int⟩
  ·cases e
 ·cases e
def oX:=h_ λi j=>i-j
def BW:bV K (mH λi j=>.int (i-j)) oX:=tX
def gb(_ j:Int):Bool:=decide (j≠0) && decide (bits j<=8000)
def ŋ:=ou gb λi j=>i.fdiv j
def Ŗ:bV K (mI qC λi j=>.int (i.fdiv j)) ŋ:=tY λi j h=>by unfold gb at h;simpa[qC] using h
def oY(_ j:Int):Bool:=decide (j≠0)
def ħ:=ou oY λi j=>i.fmod j
def İ:bV K (mI (λ_ j=>j≠0) λi j=>.int (i.fmod j)) ħ:=tY λi j h=>by unfold oY at h;simpa using h
def jc(i j:Int):Bool:=decide (0<=j) && decide (j.natAbs<=1000000) && decide (i.natAbs<18446744073709551616)
def tZ:=ou jc λi j=>i ^ j.toNat
def BX:bV K (mI qm λi j=>.int (i ^ j.toNat)) tZ:=tY λi j h=>by
 unfold jc at h
 simp only[Bool.and_eq_true,decide_eq_true_eq] at h
 exact⟨h.1.1,by omega,by have:=h.2;simpa using this⟩
def gj(i j:Int):Bool:=decide (0<=j) && decide (j.natAbs<=1000000) && decide (i.natAbs<18446744073709551616)
def t_:=ou gj λi j=>i*2 ^ j.toNat
def BZ:bV K (mI qm λi j=>.int (i*2 ^ j.toNat)) t_:=tY λi j h=>by
 unfold gj at h
 simp only[Bool.and_eq_true,decide_eq_true_eq] at h
 exact⟨h.1.1,by omega,by have:=h.2;simpa using this⟩
def kZ(_ j:Int):Bool:=decide (0<=j)
def cD:=ou kZ λi j=>i / 2 ^ j.toNat
def jK:bV K (mI (λ_ j=>0<=j) λi j=>.int (i / 2 ^ j.toNat)) cD:=tY λi j h=>by unfold kZ at h;simpa using h
def cW:=h_ λi j=>Builtin.bitAnd i j
def oZ:=h_ λi j=>Builtin.bitOr i j
def o_:bV K (mH λi j=>.int (Builtin.bitAnd i j)) cW:=tX
def B_:bV K (mH λi j=>.int (Builtin.bitOr i j)) oZ:=tX
def Ca:ľ X (binaryOp .LShift) (mI qm λi j=>.int (i*2 ^ j.toNat)):=ľ.wk Ag iW
def jL:ľ X (binaryOp .RShift) (mI (λ_ j=>0<=j) λi j=>.int (i / 2 ^ j.toNat)):=ľ.wk Ah iW
def pq:ľ X (binaryOp .BitAnd) (mH λi j=>.int (Builtin.bitAnd i j)):=ľ.wk Ai cP
def Cd:ľ X (binaryOp .BitOr) (mH λi j=>.int (Builtin.bitOr i j)):=ľ.wk EY cP
def xP:=Gn λi j=>decide (i<j)
def Ce:=Gn λi j=>decide (i<=j)
def Cg:=Gn λi j=>decide (j<i)
def yU:bV K (mH λi j=>.bl (decide (i<j))) xP:=BR
def Gp:bV K (mH λi j=>.bl (decide (i<=j))) Ce:=BR
def Gq:bV K (mH λi j=>.bl (decide (j<i))) Cg:=BR
def š(i j:Int):Bool:=decide (i.natAbs<18446744073709551616) || decide (j.natAbs<18446744073709551616) || (decide (bits i<=1048576) && decide (bits j<=1048576))
def uc{i j:Int}(h:š i j=true):iY i j:=by
 unfold š at h
 simp only[Bool.or_eq_true,Bool.and_eq_true,decide_eq_true_eq] at h
 rcases h with(h|h)|h
 ·exact .inl (.inl ⟨by omega,by omega⟩)
 ·exact .inl (.inr ⟨by omega,by omega⟩)
 ·exact .inr h
def Œ:PV->PV->Option PV
 | .int i,.int j=>if š i j=true then some (.int (i*j)) else none
 | .str z,.int n=>if 0<=n/\n<=1000/\z.length<=1000 then some (.str (S (List.replicate n.toNat z.cps.toList).flatten)) else none
 |_,_=>none
def gn:bV K sE Œ:=by
 intro c F H σ ρ p q pv v u Q rel r1 r2 e k
 unfold Œ at e
 split at e
 ·split at e
  ·rename_i hc
   cases e
   cases r1.int
   cases r2.int
   exact⟨uc hc,k _ F H rel (Same.refl _) (Same.refl _) Rep.int⟩
  ·cases e
 ·split at e
  ·rename_i hc
   cases e
   cases r1.str
   cases r2.int
   exact⟨hc,k _ F H rel (Same.refl _) (Same.refl _) Rep.str⟩
  ·cases e
 ·cases e
variable{E:L2.St->XK}{a b e:Expr}{es:List Expr}{pos:Pos}{ma mb:M PV}{mr:M (List PV)}
def gq:PV->Option PV
 | .int i=>some (.int (-i))
 |_=>none
def jM:RD K (mU λi=>.int (-i)) gq:=by
 intro c F H σ ρ p pv v Q rel r1 e k
 unfold gq at e
 split at e
 ·cases e
  cases r1.int
  exact k _ F H rel (Same.refl _) (Same.refl _) Rep.int
 ·cases e
mutual
def eqB:PV->PV->Bool
 | .non,.non=>true
 | .bl a,.bl b=>a== b
 | .bl a,.int j=>(if a then 1 else 0)== j
 | .int i,.bl b=>i== (if b then 1 else 0)
 | .int i,.int j=>i== j
 | .str x,.str y=>x== y
 | .lst xs,.lst ys=>gw xs ys
 | .tup xs,.tup ys=>gw xs ys
 |_,_=>false
def gw:List PV->List PV->Bool
 | [],[]=>true
 |x::xs,y::ys=>eqB x y && gw xs ys
 |_,_=>false
end
mutual
def œ:PV->Bool
 | .non| .bl _| .int _=>true
 | .str x=>PyData.strOk x
 | .lst xs=>bC xs
 | .tup xs=>bC xs
 |_=>false
def bC:List PV->Bool
 | []=>true
 |x::xs=>œ x && bC xs
end
mutual
def dep:PV->Nat
 | .lst xs=>jN xs+1
 | .tup xs=>jN xs+1
 |_=>0
def jN:List PV->Nat
 | []=>0
 |x::xs=>max (dep x) (jN xs)
end
mutual
def toD:PV->PyData
 | .non=>.none
 | .bl b=>.bool b
 | .int i=>.int i
 | .str x=>.str x
 | .lst xs=>.list (bD xs)
 | .tup xs=>.tuple (bD xs)
 |_=>.none
def bD:List PV->List PyData
 | []=>[]
 |x::xs=>toD x::bD xs
end
mutual
theorem cF:∀p:PV,œ p=true->(toD p).canLay0=true
 | .non,_=>rfl
 | .bl _,_=>rfl
 | .int _,_=>rfl
 | .str x,h=>by unfold œ at h;unfold toD PyData.canLay0;exact h
 | .lst xs,h=>by unfold œ at h;unfold toD PyData.canLay0;exact gA xs h
 | .tup xs,h=>by unfold œ at h;unfold toD PyData.canLay0;exact gA xs h
 | .ins _ _ _,h=>by simp[œ] at h
 | .xc _ _ _,h=>by simp[œ] at h
 | .ty _,h=>by simp[œ] at h
 | .cls _,h=>by simp[œ] at h
theorem gA:∀ps:List PV,bC ps=true->PyData.canLayAll0 (bD ps)=true
 | [],_=>rfl
 |p::ps,h=>by
  unfold bC at h
  rw[Bool.and_eq_true] at h
  unfold bD PyData.canLayAll0
  rw[cF p h.1,gA ps h.2]
  rfl
end
mutual
theorem cG:∀p:PV,(toD p).depth=dep p
 | .non=>rfl
 | .bl _=>rfl
 | .int _=>rfl
 | .str x=>rfl
 | .lst xs=>by unfold toD PyData.depth dep;rw[gB xs]
 | .tup xs=>by unfold toD PyData.depth dep;rw[gB xs]
 | .ins _ _ _=>rfl
 | .xc _ _ _=>rfl
 | .ty _=>rfl
 | .cls _=>rfl
theorem gB:∀ps:List PV,PyData.depthAll (bD ps)=jN ps
 | []=>rfl
 |p::ps=>by unfold bD PyData.depthAll jN;rw[cG p,gB ps]
end
mutual
theorem mY:∀p q:PV,œ p=true->œ q=true->PyData.eqv (toD p) (toD q)=eqB p q
 | .lst xs,.lst ys,h1,h2=>by
   unfold œ at h1 h2
   unfold toD eqB PyData.eqv
   exact jO xs ys h1 h2
 | .tup xs,.tup ys,h1,h2=>by
   unfold œ at h1 h2
   unfold toD eqB PyData.eqv
   exact jO xs ys h1 h2
 | .ins _ _ _,_,h,_=>by simp[œ] at h
 | .xc _ _ _,_,h,_=>by simp[œ] at h
 | .ty _,_,h,_=>by simp[œ] at h
 | .cls _,_,h,_=>by simp[œ] at h
 | .non,q,_,h=>by cases q<;>first|rfl|(simp[œ] at h)|(simp[toD,eqB,PyData.eqv])
 | .bl _,q,_,h=>by cases q<;>first|rfl|(simp[œ] at h)|(simp[toD,eqB,PyData.eqv])
 | .int _,q,_,h=>by cases q<;>first|rfl|(simp[œ] at h)|(simp[toD,eqB,PyData.eqv])
 | .str _,q,_,h=>by cases q<;>first|rfl|(simp[œ] at h;done)|(simp[toD,eqB,PyData.eqv])
 | .lst _,.non,_,_=>by simp[toD,eqB,PyData.eqv]
 | .lst _,.bl _,_,_=>by simp[toD,eqB,PyData.eqv]
 | .lst _,.int _,_,_=>by simp[toD,eqB,PyData.eqv]
 | .lst _,.str _,_,_=>by simp[toD,eqB,PyData.eqv]
 | .lst _,.tup _,_,_=>by simp[toD,eqB,PyData.eqv]
 | .lst _,.ins _ _ _,_,h=>by simp[œ] at h
 | .lst _,.xc _ _ _,_,h=>by simp[œ] at h
 | .lst _,.ty _,_,h=>by simp[œ] at h
 | .lst _,.cls _,_,h=>by simp[œ] at h
 | .tup _,.non,_,_=>by simp[toD,eqB,PyData.eqv]
 | .tup _,.bl _,_,_=>by simp[toD,eqB,PyData.eqv]
 | .tup _,.int _,_,_=>by simp[toD,eqB,PyData.eqv]
 | .tup _,.str _,_,_=>by simp[toD,eqB,PyData.eqv]
 | .tup _,.lst _,_,_=>by simp[toD,eqB,PyData.eqv]
 | .tup _,.ins _ _ _,_,h=>by simp[œ] at h
 | .tup _,.xc _ _ _,_,h=>by simp[œ] at h
 | .tup _,.ty _,_,h=>by simp[œ] at h
 | .tup _,.cls _,_,h=>by simp[œ] at h
theorem jO:∀ps qs:List PV,bC ps=true->bC qs=true->PyData.eqvAll (bD ps) (bD qs)=gw ps qs
 | [],[],_,_=>by simp[bD,gw,PyData.eqvAll]
 | [],_::_,_,_=>by simp[bD,gw,PyData.eqvAll]
 |_::_,[],_,_=>by simp[bD,gw,PyData.eqvAll]
 |p::ps,q::qs,h1,h2=>by
  unfold bC at h1 h2
  rw[Bool.and_eq_true] at h1 h2
  unfold bD gw PyData.eqvAll
  rw[mY p q h1.1 h2.1,jO ps qs h1.2 h2.2]
end
mutual
theorem ud{F:Hp}:∀(p:PV) (v:V),œ p=true->Rep K F p v->Rp K.K F (toD p) v
 | .non,_,_,r=>by unfold Rep at r;unfold toD Rp;exact r
 | .bl _,_,_,r=>by unfold Rep at r;unfold toD Rp;exact r
 | .int _,_,_,r=>by unfold Rep at r;unfold toD Rp;exact r
 | .str _,_,_,r=>by unfold Rep at r;unfold toD Rp;exact r
 | .lst xs,_,h,r=>by
   unfold œ at h
   unfold Rep at r
   unfold toD Rp
   obtain⟨a,vs,h1,h2,h3⟩:=r
   exact⟨a,vs,h1,h2,eV xs vs h h3⟩
 | .tup xs,_,h,r=>by
   unfold œ at h
   unfold Rep at r
   unfold toD Rp
   obtain⟨a,vs,h1,h2,h3⟩:=r
   exact⟨a,vs,h1,h2,eV xs vs h h3⟩
 | .ins _ _ _,_,h,_=>by simp[œ] at h
 | .xc _ _ _,_,h,_=>by simp[œ] at h
 | .ty _,_,h,_=>by simp[œ] at h
 | .cls _,_,h,_=>by simp[œ] at h
theorem eV{F:Hp}:∀(ps:List PV) (vs:List V),bC ps=true->ĉ K F ps vs->gR K.K F (bD ps) vs
 | [],_,_,r=>by unfold ĉ at r;unfold bD gR;exact r
 |p::ps,_,h,r=>by
  unfold bC at h
  rw[Bool.and_eq_true] at h
  unfold ĉ at r
  unfold bD gR
  obtain⟨x,t,h1,h2,h3⟩:=r
  exact⟨x,t,h1,ud p x h.1 h2,eV ps t h.2 h3⟩
end
def eX{c:Ctx}{F H:Hp}{σ:L2.St}{ρ:ĥ}{p:PV}{v:V}(s:Same F H)(h:œ p=true)(r:rR K c σ ρ F H p v):Rp K.K H (toD p) v:=by
 rcases r with r|r
 ·exact Rp.same s _ _ (ud p v h r)
 ·cases p with
  |lst ps=>
   obtain⟨a,vs,rfl,h3,h4⟩:=r
   unfold œ at h
   unfold toD Rp
   exact⟨a,vs,rfl,ń.of h3,gR.same s _ _ (eV ps vs h h4)⟩
  |ins C ns ps=>simp[œ] at h
  |_=>exact r.elim
def mZ(p q:PV):Bool:=œ p && œ q && decide (min (dep p) (dep q)<=60)
def Ō(p q:PV):Option PV:=if mZ p q=true then some (.bl (eqB p q)) else none
def aD(p q:PV):Option PV:=if mZ p q=true then some (.bl (!eqB p q)) else none
def ů:bV K (wU K.K false) Ō:=by
 intro c F H σ ρ p q pv v u Q rel r1 r2 e k
 unfold Ō at e
 split at e
 ·rename_i hz
  cases e
  unfold mZ at hz
  simp only[Bool.and_eq_true,decide_eq_true_eq] at hz
  refine⟨toD p,toD q,eX rel.sub hz.1.1 r1,eX rel.sub hz.1.2 r2,cF p hz.1.1,cF q hz.1.2,by rw[cG,cG];exact hz.2,?_⟩
  rw[mY p q hz.1.1 hz.1.2]
  exact k _ F H rel (Same.refl _) (Same.refl _) Rep.bl
 ·cases e
def jd:bV K (wU K.K true) aD:=by
 intro c F H σ ρ p q pv v u Q rel r1 r2 e k
 unfold aD at e
 split at e
 ·rename_i hz
  cases e
  unfold mZ at hz
  simp only[Bool.and_eq_true,decide_eq_true_eq] at hz
  refine⟨toD p,toD q,eX rel.sub hz.1.1 r1,eX rel.sub hz.1.2 r2,cF p hz.1.1,cF q hz.1.2,by rw[cG,cG];exact hz.2,?_⟩
  rw[mY p q hz.1.1 hz.1.2]
  exact k _ F H rel (Same.refl _) (Same.refl _) Rep.bl
 ·cases e
def jP:PV->Bool
 | .non=>true
 |_=>false
def m_(p q:PV):Option PV:=match q with
 | .non=>some (.bl (jP p))
 |_=>none
def aF(p q:PV):Option PV:=match q with
 | .non=>some (.bl (!jP p))
 |_=>none
def pA{c:Ctx}{F H:Hp}{σ:L2.St}{ρ:ĥ}{p:PV}{v:V}(r:rR K c σ ρ F H p v):decide (v=.non)=jP p:=by
 rcases r with r|r
 ·cases p<;>unfold Rep at r<;>first
   |(subst r;rfl)
   |(obtain⟨a,xs,rfl,_⟩:=r;rfl)
   |(obtain⟨a,xs,ys,rfl,_⟩:=r;rfl)
 ·cases p with
  |lst ps=>obtain⟨a,vs,rfl,_⟩:=r;rfl
  |ins C ns ps=>obtain⟨a,dx,fs,rfl,_⟩:=r;rfl
  |_=>exact r.elim
def yV:bV K (λx y H Q=>y=.non/\Q (.bl (decide (x=.non))) H) m_:=by
 intro c F H σ ρ p q pv v u Q rel r1 r2 e k
 unfold m_ at e
 split at e
 ·cases e
  refine⟨r2.non,?_⟩
  rw[pA r1]
  exact k _ F H rel (Same.refl _) (Same.refl _) Rep.bl
 ·cases e
def cH:bV K (λx y H Q=>y=.non/\Q (.bl (!decide (x=.non))) H) aF:=by
 intro c F H σ ρ p q pv v u Q rel r1 r2 e k
 unfold aF at e
 split at e
 ·cases e
  refine⟨r2.non,?_⟩
  rw[pA r1]
  exact k _ F H rel (Same.refl _) (Same.refl _) Rep.bl
 ·cases e
def ĩ:PV->PV->Option PV
 | .lst ps,.int i=>fL ps i
 | .tup ps,.int i=>fL ps i
 | .str z,.int i=>if z.length<=16777216 then(fL z.cps.toList i).map λc=>.str ⟨#[c]⟩ else none
 |_,_=>none
def pB{F:Hp}{ps:List PV}{vs:List V}{i:Int}{p:PV}(r:ĉ K F ps vs)(h:fL ps i=some p):∃v,fL vs i=some v/\Rep K F p v:=by
 unfold fL at h ⊢
 rw[r.length] at h
 cases e:yG vs.length i with
 |none=>rw[e] at h;cases h
 |some j=>
  rw[e] at h
  obtain⟨v,h1,h2⟩:=ŝ r.pr h
  exact⟨v,h1,h2⟩
def Ĩ:bV K (Rx K.K) ĩ:=by
 intro c F H σ ρ p q pv v u Q rel r1 r2 e k
 unfold ĩ at e
 split at e
 ·obtain⟨a,vs,rfl,h1,h2⟩:=r1.lst rel.sub
  cases r2.int
  obtain⟨x,h3,h4⟩:=pB h2 e
  exact⟨vs,x,.inl h1,h3,k _ F H rel (Same.refl _) (Same.refl _) h4⟩
 ·obtain⟨a,vs,rfl,h1,h2⟩:=r1.tup rel.sub
  cases r2.int
  obtain⟨x,h3,h4⟩:=pB h2 e
  exact⟨vs,x,.inr h1,h3,k _ F H rel (Same.refl _) (Same.refl _) h4⟩
 ·split at e
  ·rename_i z i hz
   cases r1.str
   cases r2.int
   cases ea:fL z.cps.toList i with
   |none=>rw[ea] at e;cases e
   |some cc=>
    rw[ea] at e
    cases e
    exact⟨cc,by rw[ġ];exact hz,ea,k _ F H rel (Same.refl _) (Same.refl _) Rep.str⟩
  ·cases e
 ·cases e
def yW{c:Ctx}{F H:Hp}{σ:L2.St}{ρ:ĥ}{p:PV}{vs:List V}(h:Gb K c σ ρ F H [p] vs):∃v,vs=[v]/\rR K c σ ρ F H p v:=by
 cases h with
 |cons r t=>cases t;exact⟨_,rfl,r⟩
def Vo{c:Ctx}{F H:Hp}{σ:L2.St}{ρ:ĥ}{p q:PV}{vs:List V}(h:Gb K c σ ρ F H [p,q] vs):∃v u,vs=[v,u]/\rR K c σ ρ F H p v/\rR K c σ ρ F H q u:=by
 cases h with
 |cons r t=>
  cases t with
  |cons r' t=>cases t;exact⟨_,_,rfl,r,r'⟩
def cX:List PV->Option PV
 | [.lst ps]=>some (.int ps.length)
 | [.tup ps]=>some (.int ps.length)
 | [.str z]=>if z.length<=16777216 then some (.int z.length) else none
 |_=>none
def aG:kW K (Bj K.K) cX:=by
 intro c F H σ ρ ps pv vs Q rel r e k
 unfold cX at e
 split at e
 ·cases e
  obtain⟨v,rfl,r1⟩:=yW r
  obtain⟨a,xs,rfl,h1,h2⟩:=r1.lst rel.sub
  refine⟨xs,.inl h1,?_⟩
  rw[<-h2.length]
  exact k _ F H rel (Same.refl _) (Same.refl _) Rep.int
 ·cases e
  obtain⟨v,rfl,r1⟩:=yW r
  obtain⟨a,xs,rfl,h1,h2⟩:=r1.tup rel.sub
  refine⟨xs,.inr h1,?_⟩
  rw[<-h2.length]
  exact k _ F H rel (Same.refl _) (Same.refl _) Rep.int
 ·split at e
  ·rename_i hz
   cases e
   obtain⟨v,rfl,r1⟩:=yW r
   cases r1.str
   exact⟨by rw[ġ];exact hz,k _ F H rel (Same.refl _) (Same.refl _) Rep.int⟩
  ·cases e
 ·cases e
def dB:List PV->Option RV
 | [.lst ps]=>some (.ow ps)
 | [.tup ps]=>some (.ow ps)
 |_=>none
def pC(K:PySem.W.Frag):List V->Hp->VK->Prop:=λxs H Q=>∃p ys,xs=[.ref p]/\(ń K H p ys\/Ų K H p ys)/\∀l,H l=none->Q (.ref l) (upd H l (.lst ys))
def pD:ū X (.type "list") (pC X.K):=jC
def pF:yM K (pC K.K) dB:=by
 intro c F H σ ρ ps pv vs Q rel r e k
 unfold dB at e
 split at e
 ·cases e
  obtain⟨v,rfl,r1⟩:=yW r
  obtain⟨a,xs,rfl,h1,h2⟩:=r1.lst rel.sub
  refine⟨a,xs,rfl,.inl h1,λl hl=>?_⟩
  obtain⟨q1,q2⟩:=cC rel hl h2
  exact k _ F _ q1 (Same.refl _) (Same.upd hl) q2
 ·cases e
  obtain⟨v,rfl,r1⟩:=yW r
  obtain⟨a,xs,rfl,h1,h2⟩:=r1.tup rel.sub
  refine⟨a,xs,rfl,.inr h1,λl hl=>?_⟩
  obtain⟨q1,q2⟩:=cC rel hl h2
  exact k _ F _ q1 (Same.refl _) (Same.upd hl) q2
 ·cases e
def iD:PV->String->Option Bool
 | .int _,"int" =>some true
 | .int _,"bool" =>some false
 | .int _,"str" =>some false
 | .int _,"tuple" =>some false
 | .int _,"list" =>some false
 | .bl _,"int" =>some true
 | .bl _,"bool" =>some true
 | .lst _,"list" =>some true
 | .lst _,"tuple" =>some false
 | .lst _,"int" =>some false
 | .lst _,"str" =>some false
 | .tup _,"tuple" =>some true
 | .tup _,"list" =>some false
 | .tup _,"int" =>some false
 | .tup _,"str" =>some false
 | .str _,"str" =>some true
 | .str _,"int" =>some false
 | .str _,"list" =>some false
 | .str _,"tuple" =>some false
 | .non,"int" =>some false
 | .non,"str" =>some false
 | .non,"tuple" =>some false
 | .non,"list" =>some false
 |_,_=>none
end
theorem k_{K:KK}{F:Hp}:∀ns:List Int,ĉ K F (ns.map .int) (ns.map V.int)
 | []=>ĉ.nil
 |n::ns=>ĉ.cons Rep.int (k_ ns)
def Gs(K:PySem.W.Frag):Sp:=λvs H Q _=>∃(sa:Addr) (ns:List Int),vs=[.ref sa]/\ń K H sa (ns.map V.int)/\ns.length<=63/\∀v H',v=.bl true->Q v H'
def uf{l:PySem.W.OpenLaw}{k:Nat}{x:Str}{CX:dJ}{m:MF}{q:Program}{loose:List Str}{XP:(Str->Option Value)->Heap->Prop}{YP:World->Heap->Prop}{d:DefRec}{K:Params->PySem.W.Frag}(hn:l.most=some 63)(hdf:d.params.defaults=[])(hr:Ľ k callerA)
 (hY:∀(w:World) (h:Heap),YP w h->(K w.params).In h)
 (F:∀(w:World) (mg:Str→Option Value) (fa:Addr) (h:Heap),(K w.params).In h→h.Ns mainGlobals mg→mg d.name=some (.ref fa)→
   ∃fd:FuncData,(∀(s:Shared) (u:Value),BindsTo s fd ⟨[u],[]⟩ [(x,u)])/\∀base:Heap,(K w.params).In base->base.Ns mainGlobals mg->∃cm,ĸ l.prog w (K w.params) mg base CX k fa fd [x] (bB ⟨K w.params,cm⟩ 1 m))
 (ht:∀ns:List Int,ns.length<=63->m [.sh (.lst (ns.map .int))]=.ret (.sh (.bl true)))
 (Fp:∀(H:Hp) (s:Shared) (e:Value) (s':Shared),CX [] H s (λ_ _ _=>False) e s'->False)
 (hnt:lams≠[]->∀w:World,PySem.W.noTabs (K w.params)=true:=by intro z;exact absurd rfl z)(hone:∀y z,y∈lams->z∈lams->y=z:=by simp[lams])(hrec:∀y,y∈lams->∃d,(recsOf q).find? (λe=>e.name== y)=some d:=by simp[lams]) :
 PySem.W.WalkO q loose XP YP l.row.toRowW d [] (λf vs=>PySem.call f vs):=by
 refine L2.wQ (n:=63) (k:=k) (x:=x) (CX:=λ_=>CX) (sp:=λw=>Gs (K w.params)) hn (by decide) hdf hr hY (λw mg fa h h1 h2 h3=>?_) (λw H a ns hl _ hS=>⟨a,ns,rfl,hS,hl,λ_ _ z=>z⟩) (λw H s e s' z=>Fp H s e s' z) hnt hone hrec
 obtain⟨fd,hb,hF⟩:=F w mg fa h h1 h2 h3
 refine⟨fd,hb,λbase k1 k2=>?_⟩
 obtain⟨cm,G⟩:=hF base k1 k2
 refine G.imp λvs H Q E hs=>?_
 obtain⟨sa,ns,rfl,hS,hl,hq⟩:=hs
 refine⟨H,[.sh (.lst (ns.map .int))],rfl,Same.refl _,.cons ?_ .nil,?_⟩
 ·show Rep _ _ _ _
  unfold Rep
  exact⟨sa,_,rfl,hS,k_ ns⟩
 ·rw[ht ns hl]
  intro v F' H' g rf
  have e:v=.bl true:=mO (K:=⟨K w.params,cm⟩) (F:=F') rf
  exact hq v H' e
end P
namespace P
open PySem PySem.Spec PyProof.Rows L2 M2 M3 M4
section
variable{X:Cx}{cm:String->Addr}{K:KK}
def Js(K:PySem.W.Frag)(H:Hp)(x:V)(t:Value):Prop:=match x with
 | .non=>t=.type "NoneType"
 | .bl _=>t=.type "bool"
 | .int _=>t=.type "int"
 | .str _=>t=.type "str"
 | .ref a=>(t=.type "list" /\∃xs,ń K H a xs)\/(t=.type "tuple" /\∃xs,Ų K H a xs)\/cO K H (.ref a) t
 |_=>False
def ug(K:PySem.W.Frag):List V->Hp->VK->Prop:=λxs H Q=>match xs with
 | [x,.ty n]=>∃t b,Js K H x t/\PySem.W.kitOne K t (.type n)=some b/\Q (.bl b) H
 | [x,.ref C]=>∃t b,Js K H x t/\PySem.W.kitOne K t (.ref C)=some b/\Q (.bl b) H
 |_=>False
def pG{pins:List (Addr×Obj)}{σ:L2.St}{H:Hp}{s:Shared}{A:Around}{E:Value->Shared->Prop}{Q:Value->Shared->Prop}{c:Value}{b:Bool}{x:V}{u t:Value}(I:Inv X pins σ H s)(rx:RelV x u)(ty:Js X.K H x t)(e:PySem.W.kitOne X.K t c=some b)(h:∀tk,Q (.bool b) {s with toks:=tk}) :
 wpAny (model X.prog X.w) A (call (.builtin "isinstance") [u,c]) Q E s:=by
 cases x with
 |non=>cases(show t=_ from ty);exact Ŵ I rx .non e h
 |bl y=>cases(show t=_ from ty);exact Ŵ I rx (.bl y) e h
 |int y=>cases(show t=_ from ty);exact Ŵ I rx (.int y) e h
 |str y=>cases(show t=_ from ty);exact Ŵ I rx (.str y) e h
 |ref a=>
  cases(show u=Value.ref a from rx)
  rcases ty with⟨rfl,xs,hS⟩|⟨rfl,xs,hS⟩|ty
  ·obtain⟨its,r,⟨o,n,h1,h2,_⟩,_⟩:=I.list hS
   exact PySem.W.kia_one PySem.W.kitx_list I.fj ⟨o,h1,h2⟩ e (λz=>nomatch z) h
  ·obtain⟨its,r,⟨o,h1,h2,_⟩,_⟩:=I.tuple hS
   exact PySem.W.kia_one PySem.W.kitx_tuple I.fj ⟨o,h1,h2⟩ e (λz=>nomatch z) h
  ·exact Ŵ I rx ty e h
 |_=>exact ty.elim
def jQ:ū X (.builtin "isinstance") (ug X.K):=by
 intro pins s σ H xs us Q I r h
 unfold ug at h
 split at h
 ·obtain⟨t,b,h1,h2,h3⟩:=h
  obtain⟨u,w',rfl,r1,r2⟩:=vals2 r
  cases r2
  exact pG I r1 h1 h2 λtk=>⟨.bl b,H,I.tok _,rfl,h3⟩
 ·obtain⟨t,b,h1,h2,h3⟩:=h
  obtain⟨u,w',rfl,r1,r2⟩:=vals2 r
  cases r2
  exact pG I r1 h1 h2 λtk=>⟨.bl b,H,I.tok _,rfl,h3⟩
 ·exact h.elim
def RM:PV->String
 | .non=> "NoneType"
 | .bl _=> "bool"
 | .int _=> "int"
 | .str _=> "str"
 | .lst _=> "list"
 | .tup _=> "tuple"
 |_=> ""
def uh{F:PySem.W.Frag}{p:PV}{n:String}{b:Bool}(h:iD p n=some b):PySem.W.kitOne F (.type (RM p)) (.type n)=some b:=by
 unfold iD at h
 split at h<;>first
  |(cases h;first|rfl|decide +kernel|kernel_rfl)
  |cases h
def xQ{c:Ctx}{F H:Hp}{σ:L2.St}{ρ:ĥ}{p:PV}{v:V}(s:Same F H)(r:rR K c σ ρ F H p v)(h:∃n b,iD p n=some b):Js K.K H v (.type (RM p)):=by
 obtain⟨n,b,h⟩:=h
 cases p with
 |non=>cases r.non;rfl
 |bl _=>cases r.bl;rfl
 |int _=>cases r.int;rfl
 |str _=>cases r.str;rfl
 |lst ps=>
  obtain⟨a,vs,rfl,h1,h2⟩:=r.lst s
  exact .inl ⟨rfl,vs,h1⟩
 |tup ps=>
  obtain⟨a,vs,rfl,h1,h2⟩:=r.tup s
  exact .inr (.inl ⟨rfl,vs,h1⟩)
 |ins _ _ _=>simp[iD] at h
 |xc _ _ _=>simp[iD] at h
 |ty _=>simp[iD] at h
 |cls _=>simp[iD] at h
def dN:List PV->Option PV
 | [p,.ty n]=>(iD p n).map .bl
 |_=>none
def jR:kW K (ug K.K) dN:=by
 intro c F H σ ρ ps pv vs Q rel r e k
 unfold dN at e
 split at e
 ·rename_i p n
  obtain⟨v,u,rfl,r1,r2⟩:=Vo r
  cases r2.ty
  cases eb:iD p n with
  |none=>rw[eb] at e;cases e
  |some b=>
   rw[eb] at e
   cases e
   exact⟨_,b,xQ rel.sub r1 ⟨n,b,eb⟩,uh eb,k _ F H rel (Same.refl _) (Same.refl _) Rep.bl⟩
 ·cases e
end
end P
namespace P
open PySem PySem.Spec PyProof.Rows L2 M2 M3 M4
section
variable{α β:Type}{ρ:ĥ}{i j n k:Nat}{p q:PV}{ps:List PV}{m ma mb mc:M PV}{mo:M RV}{a b:M Fl}{ta tb:M Bool}{mr:M (List PV)}{f:PV->PV->Option PV}{fo:PV->PV->Option RV}{fl:List PV->Option PV}{RN:List PV->Option RV}{g:Tg}{gs:yN}
@[simp] theorem RP:iz ρ=.ok .nx ρ:= rfl
@[simp] theorem Mw:Ģ a b ρ=(a ρ).bind λf ρ1=>match f with| .nx=>b ρ1|f=>.ok f ρ1:=rfl
@[simp] theorem Mx:Ķ i mo ρ=(mo ρ).bind λr ρ1=>.ok .nx (ρ1.set i r.slot):=rfl
@[simp] theorem Mz:ł mo ρ=(mo ρ).bind λr ρ1=>.ok (.rt r) ρ1:=rfl
@[simp] theorem Vp:mC p ρ=.ok p ρ:= rfl
@[simp] theorem RQ:aV m ρ=(m ρ).bind λp ρ1=>.ok (.sh p) ρ1:=rfl
@[simp] theorem MJ:ē mo ρ=(mo ρ).bind λr ρ1=>.ok r.val ρ1:=rfl
@[simp] theorem MK:(RV.sh p).val=p:=rfl
@[simp] theorem MN:(RV.ow ps).val=.lst ps:=rfl
@[simp] theorem MP:(RV.sh p).slot=.sh p:=rfl
@[simp] theorem M_:(RV.ow ps).slot=.ow ps:=rfl
@[simp] theorem Nb:Ą f ma mb ρ=(ma ρ).bind λp ρ1=>(mb ρ1).bind λq ρ2=>Res.gU (f p q) ρ2:=rfl
@[simp] theorem Jt:ő fo ma mb ρ=(ma ρ).bind λp ρ1=>(mb ρ1).bind λq ρ2=>Res.gU (fo p q) ρ2:=rfl
@[simp] theorem RT{u:PV->Option PV}:Ef u ma ρ=(ma ρ).bind λp ρ1=>Res.gU (u p) ρ1:=rfl
@[simp] theorem Nf:cu m ρ=(m ρ).bind λp ρ1=>Res.gU (BK p) ρ1:=rfl
@[simp] theorem RW:bA m ρ=(m ρ).bind λp ρ1=>match p with| .bl b=>.ok b ρ1|_=>.bad:=rfl
@[simp] theorem Ju:aL ta ρ=(ta ρ).bind λb ρ1=>.ok (!b) ρ1:=rfl
@[simp] theorem Jv:oR ta tb ρ=(ta ρ).bind λb ρ1=>if b=true then tb ρ1 else .ok false ρ1:=rfl
@[simp] theorem Ng:fW ta tb ρ=(ta ρ).bind λb ρ1=>if b=true then .ok true ρ1 else tb ρ1:=rfl
@[simp] theorem Nh:mL ma mb ρ=(ma ρ).bind fun p ρ1=>match p with| .bl b=>if b=true then mb ρ1 else .ok (.bl false) ρ1|_=>.bad:=by
  unfold mL
  congr
  funext p ρ1
  cases p with
  |bl b=>cases b<;>rfl
  |_=>rfl
@[simp] theorem Ni:BL ma ρ=(ma ρ).bind λp ρ1=>match p with| .bl b=>.ok (.bl (!b)) ρ1|_=>.bad:=rfl
@[simp] theorem RX{x y:M α}:eU ta x y ρ=(ta ρ).bind λb ρ1=>if b=true then x ρ1 else y ρ1:=rfl
@[simp] theorem Nj{f g:PV→PV→Option PV}:xG f g ma mb mc ρ=(ma ρ).bind fun p ρ1=>(mb ρ1).bind fun q ρ2=>(Res.gU (f p q) ρ2).bind fun z ρ3=>match z with
  | .bl true=>(mc ρ3).bind λw ρ4=>Res.gU (g q w) ρ4
  | .bl false=>.ok (.bl false) ρ3
  |_=>.bad:=rfl
@[simp] theorem Nk:ĝ ρ=.ok [] ρ:= rfl
@[simp] theorem Jw:Ċ ma mr ρ=(ma ρ).bind λp ρ1=>(mr ρ1).bind λps ρ2=>.ok (p::ps) ρ2:=rfl
@[simp] theorem Nm:tu mr ρ=(mr ρ).bind λps ρ1=>if ps.length<=16777216 then .ok (.tup ps) ρ1 else .bad:=rfl
@[simp] theorem Np:cT mr ρ=(mr ρ).bind λps ρ1=>if ps.length<=16777216 then .ok (.ow ps) ρ1 else .bad:=rfl
@[simp] theorem RZ:cU fl mr ρ=(mr ρ).bind λps ρ1=>Res.gU (fl ps) ρ1:=rfl
@[simp] theorem Nq:qJ RN mr ρ=(mr ρ).bind λps ρ1=>Res.gU (RN ps) ρ1:=rfl
@[simp] theorem Jx{mf:MF}{ms:M (List Slot)}:đ mf ms ρ=(ms ρ).bind λps ρ1=>match mf ps with| .ret r=>.ok r ρ1| .exc x=>.exc x ρ1| .bad=>.bad:=rfl
@[simp] theorem R_:Ī i ρ=(match ρ[i]? with|some (.sh p)=>.ok p ρ|some (.ow ps)=>.ok (.lst ps) (ρ.set i (.sh (.lst ps)))|_=>.bad):=rfl
@[simp] theorem Sd:ā i ρ=(match ρ[i]? with|some (.sh p)=>.ok p ρ|some (.ow ps)=>.ok (.lst ps) ρ|some (.bw ps)=>.ok (.lst ps) ρ|some (.rc C ns ps)=>.ok (.ins C ns ps) ρ|_=>.bad):=rfl
@[simp] theorem Sg:bH i ρ=(match ρ[i]? with|some (.sh p)=>.ok (.sh p) ρ|some (.ow ps)=>.ok (.ow ps) (ρ.set i .no)|_=>.bad):=rfl
@[simp] theorem Sh:gN i p ρ=some (ρ.set i (.sh p)):=rfl
@[simp] theorem Gu:bI [] ρ=some ρ:= rfl
@[simp] theorem Eh:Ĵ g gs (p::ps) ρ=(g p ρ).bind λρ1=>gs ps ρ1:=rfl
@[simp] theorem Sq:gT n gs (.tup ps) ρ=if ps.length=n then gs ps ρ else none:=rfl
@[simp] theorem Nr:tH i m ρ=(match ρ[i]? with
  |some (.ow _)=>(m ρ).bind λp ρ1=>match ρ1[i]? with
   |some (.ow ps)=>if ps.length<16777216 then .ok .nx (ρ1.set i (.ow (ps ++ [p]))) else .bad
   |_=>.bad
  |_=>.bad):=rfl
@[simp] theorem Gv:aA m ρ=(m ρ).bind fun p ρ1=>match p with
  | .lst ps=>.ok ps ρ1
  | .tup ps=>.ok ps ρ1
  | .str z=>.ok (z.cps.toList.map λc=>.str ⟨#[c]⟩) ρ1
  |_=>.bad:=rfl
@[simp] theorem Gw{h:List PV->Option (List PV)}:Ş h mr ρ=(mr ρ).bind λps ρ1=>Res.gU (h ps) ρ1:=rfl
@[simp] theorem Nt{mi:M (List PV)}:iB mi g b ρ=(mi ρ).bind λitems ρ1=>forL g b items ρ1:=rfl
@[simp] theorem Jy{js:List Nat}{nl:Nat}{mi:M (List PV)}{mt:M Bool}{me:M PV}:Ů js nl mi g mt me ρ=(mi ρ).bind fun items ρ1=>match Ŝ g mt me items (aP js nl ρ1) [] with
  |some ps=>.ok (.ow ps) ρ1
  |none=>.bad:=rfl
@[simp] theorem Nu:bQ ρ=.ok true ρ:= rfl
@[simp] theorem Nv{Ss:M Fl}{as:List Slot}:ŕ n k Ss as=if as.length=n then FR.of (Ss (startP k as)) else .bad:=rfl
@[simp] theorem Nx{r:RV}:FR.of (.ok (.rt r) ρ)=.ret r:=rfl
@[simp] theorem Ny:FR.of (.ok .nx ρ)=.ret (.sh .non):=rfl
@[simp] theorem Nz{x:PX}:FR.of (.exc x ρ)=.exc x:=rfl
@[simp] theorem NK:FR.of .bad=.bad:=rfl
@[simp] theorem Gx{as:List Slot}:startP k as=as++List.replicate (k-as.length) .no:=rfl
@[simp] theorem Jz:Ď ρ=.ok [] ρ:= rfl
@[simp] theorem Gy{ms:M (List Slot)}:č ma ms ρ=(ma ρ).bind λp ρ1=>(ms ρ1).bind λas ρ2=>.ok (.sh p::as) ρ2:=rfl
@[simp] theorem Gz{ms:M (List Slot)}:Ă i ms ρ=(match(ρ[i]?).bind aW with
  |none=>.bad
  |some _=>(ms ρ).bind λas ρ2=>match(ρ2[i]?).bind aW with
   |some s=>.ok (s::as) ρ2
   |none=>.bad):=rfl
@[simp] theorem NP:aW (.sh p)=some (.sh p):=rfl
@[simp] theorem NQ:aW (.ow ps)=some (.bw ps):=rfl
@[simp] theorem NT:aW (.bw ps)=some (.bw ps):=rfl
@[simp] theorem NZ:Ū (.sh p)=.sh p:=rfl
@[simp] theorem N_:Ū (.ow ps)=.bw ps:=rfl
@[simp] theorem Oa:Ū (.bw ps)=.bw ps:=rfl
@[simp] theorem Ob{js:List Nat}{nl:Nat}:aP js nl ρ=js.map (λ(j:Nat)=>Ū ((ρ[j]?).getD .no))++List.replicate nl .no:=rfl
@[simp] theorem Oc:cV i ρ=(match ρ[i]? with
  |some (.bw ps)=>.ok ps ρ
  |some (.sh (.lst ps))=>.ok ps ρ
  |some (.sh (.tup ps))=>.ok ps ρ
  |some (.sh (.str z))=>.ok (z.cps.toList.map λc=>.str ⟨#[c]⟩) ρ
  |some (.ow ps)=>.ok ps (ρ.set i (.sh (.lst ps)))
  |_=>.bad):=rfl
@[simp] theorem JB{x y:Int}:ň (.int x) (.int y)=some (.sh (.int (x+y))):=rfl
@[simp] theorem JC{x y:Int}:oX (.int x) (.int y)=some (.int (x-y)):=rfl
@[simp] theorem JD{x y:Int}:Œ (.int x) (.int y)=if š x y=true then some (.int (x*y)) else none:=rfl
@[simp] theorem JF{x y:Int}:ŋ (.int x) (.int y)=if gb x y=true then some (.int (x.fdiv y)) else none:=rfl
@[simp] theorem JG{x y:Int}:ħ (.int x) (.int y)=if oY x y=true then some (.int (x.fmod y)) else none:=rfl
@[simp] theorem JH{x y:Int}:tZ (.int x) (.int y)=if jc x y=true then some (.int (x ^ y.toNat)) else none:=rfl
@[simp] theorem JK{x y:Int}:t_ (.int x) (.int y)=if gj x y=true then some (.int (x*2 ^ y.toNat)) else none:=rfl
@[simp] theorem JL{x y:Int}:cD (.int x) (.int y)=if kZ x y=true then some (.int (x / 2 ^ y.toNat)) else none:=rfl
@[simp] theorem JM{x:Int}:gq (.int x)=some (.int (-x)):=rfl
@[simp] theorem Od{x y:Int}:xP (.int x) (.int y)=some (.bl (decide (x<y))):=rfl
@[simp] theorem Oe{x y:Int}:Ce (.int x) (.int y)=some (.bl (decide (x<=y))):=rfl
@[simp] theorem Og{x y:Int}:Cg (.int x) (.int y)=some (.bl (decide (y<x))):=rfl
@[simp] theorem Oh{x y:Int}:Ō (.int x) (.int y)=some (.bl (decide (x=y))):=by
  have h:eqB (.int x) (.int y)=decide (x=y):=by rw[eqB.eq_def];rfl
  rw[<-h];rfl
@[simp] theorem Oi{x y:Int}:aD (.int x) (.int y)=some (.bl (!decide (x=y))):=by
  have h:eqB (.int x) (.int y)=decide (x=y):=by rw[eqB.eq_def];rfl
  rw[<-h];rfl
@[simp] theorem Oj{x y:Bool}:Ō (.bl x) (.bl y)=some (.bl (x== y)):=rfl
@[simp] theorem Ol{x y:Bool}:aD (.bl x) (.bl y)=some (.bl (!(x== y))):=rfl
@[simp] theorem Om{p:PV}:m_ p .non=some (.bl (jP p)):=rfl
@[simp] theorem JN{p:PV}:aF p .non=some (.bl (!jP p)):=rfl
@[simp] theorem Oo{x:Int}:ĩ (.lst ps) (.int x)=fL ps x:=rfl
@[simp] theorem Oq{x:Int}:ĩ (.tup ps) (.int x)=fL ps x:=rfl
@[simp] theorem JQ:cX [.lst ps]=some (.int ps.length):=rfl
@[simp] theorem JR:cX [.tup ps]=some (.int ps.length):=rfl
@[simp] theorem GC:dB [.lst ps]=some (.ow ps):=rfl
@[simp] theorem GD:dB [.tup ps]=some (.ow ps):=rfl
@[simp] theorem Ot{t:String}:dN [p,.ty t]=(iD p t).map .bl:=rfl
@[simp] theorem JT{x:Bool}:BK (.bl x)=some x:=rfl
@[simp] theorem JV{x:Int}:BK (.int x)=some (x != 0):=rfl
@[simp] theorem JW:BK (.lst ps)=some (!ps.isEmpty):=rfl
@[simp] theorem um(xs:List α)(n:Nat):fL xs (n:Int)=xs[n]?:= by
  unfold fL yG
  rw[if_pos (by omega)]
  by_cases h:n<xs.length
  ·rw[if_pos (by omega)]
   simp
  ·rw[if_neg (by omega)]
   simp
   omega
@[simp] theorem JX(xs:List α)(n:Nat):fL xs (no_index (OfNat.ofNat n):Int)=xs[(no_index (OfNat.ofNat n):Nat)]?:= um xs n
@[simp] theorem Ei{x y:Int}:oY x y=decide (y≠0):=rfl
end
def GF{x y:Int}(h1: -(2 ^ 64)<x)(h2:x<2 ^ 64):š x y=true:=by unfold š;rw[decide_eq_true (by omega:x.natAbs<18446744073709551616)];rfl
def mul_r{x y:Int}(h1: -(2 ^ 64)<y)(h2:y<2 ^ 64):š x y=true:=by unfold š;rw[decide_eq_true (by omega:y.natAbs<18446744073709551616)];simp
def GJ{x y:Int}(h1:y≠0)(h2:bits y<=8000):gb x y=true:=by unfold gb;simp[h1,h2]
section
variable{g:Tg}{mb:M Fl}{mc mt:M Bool}{me:M PV}{items:List PV}{ρ:ĥ}
theorem ť{α:Type}(c f:α->PV)(I:ĥ->Prop):∀(xs:List α) (ρ:ĥ) (acc:List PV),I ρ->acc.length+xs.length<=16777216->
 (∀x∈xs,∀ρ,I ρ->∃ρ1 ρ2 ρ3,g (c x) ρ=some ρ1/\mt ρ1=.ok true ρ2/\me ρ2=.ok (f x) ρ3/\I ρ3)->Ŝ g mt me (xs.map c) ρ acc=some (acc++xs.map f)
 | [],ρ,acc,_,_,_=>by simp[Ŝ]
 |x::xs,ρ,acc,h,hz,hs=>by
  obtain⟨ρ1,ρ2,ρ3,h1,h2,h3,h4⟩:=hs x List.mem_cons_self ρ h
  rw[List.map_cons,Ŝ,h1]
  dsimp only
  rw[h2]
  dsimp only
  rw[h3]
  dsimp only
  rw[if_pos (by simp at hz;omega),ť c f I xs ρ3 (acc ++ [f x]) h4 (by simp at hz ⊢;omega) λy hy=>hs y (List.mem_cons_of_mem _ hy)]
  simp
end
end P
namespace P
open PySem PySem.Spec PyProof.Rows L2 M2 M3 M4
section
variable{X:Cx}{cm:String->Addr}{K:KK}{E:L2.St->XK}{a b e o:Expr}{es:List Expr}{pos apos:Pos}{m ma mb:M PV}{f:Str}
variable{CX:dJ}{k n:Nat}{Xe:Str}{gQ:List (String×MF)}{ms:M (List Slot)}
inductive IR where
 |ok (ns:List Str) (ps:List PV)|exc (x:PX)|bad
abbrev MI:=List Slot->IR
end
section
variable{P:Program}{w:World}{K:PySem.W.Frag}{cm:String->Addr}{mg:Str->Option Value}{base:Heap}{CX:dJ}
end
section
variable{X:Cx}{cm:String->Addr}{E:L2.St->XK}{e:Expr}{es:List Expr}{pos p:Pos}{CX:dJ}{k n:Nat}{f:Addr}{fd:FuncData}{ps:List Str}{C:String}{mi:MI}{ms:M (List Slot)}{x:Str}
end
end P
namespace P
open PySem PySem.Spec PyProof.Rows L2 M2 M3 M4
section
variable{M:Model}{A:Around}{E:Value->Shared->Prop}{s:Shared}{B:Heap}{env:Env}{outer:List Env}{L e:Addr}{Q:Unit->Shared->Prop}
end
def bU.sub{P:Program}{w:World}{H:Hp}{h B:Heap}(x:bU P w H h)(k:∀b o u,H b=some u->h.get? b=some o->B.get? b=some o):bU P w H B:=λa o e=>
 (x a o e).stay (fun b u hb q=>by
   rcases hb with rfl|hb
   ·exact k _ _ _ e q
   ·exact k _ _ _ hb q) (λ_ q=>q) λ_ _ q=>q
section
variable{P:Program}{w:World}{K:PySem.W.Frag}{mg:Str->Option Value}{base:Heap}{N:List Str}{qual:Str}{scope:Scope}{f:Addr}{cdv:Value}{A:Around}{outer:List Env}{s₀:Shared}{H₀:Hp}{E:XK}
end
end P
namespace P
open PySem PySem.Spec PyProof.Rows L2 M2 M3 M4
section
variable{K:PySem.W.Frag}{h:Heap}{C:Addr}{bmB:List Value}{newId:String}
end
section
variable{X:Cx}{cm:String->Addr}{E:L2.St->XK}{x:Str}{C:String}{np cpos pos:Pos}
end
section
variable{M:Model}{A:Around}{E:Value->Shared->Prop}{s:Shared}{K:PySem.W.Frag}{e C D:Addr}{oe:Obj}{b:Bool}{Q:Bool->Shared->Prop}
end
section
variable{X:Cx}{pins:List (Addr×Obj)}{σ:L2.St}{H:Hp}{s:Shared}{xe:Value->Shared->Prop}
end
end P
namespace P
open PySem PySem.Spec PyProof.Rows L2 M2 M3 M4
abbrev MH:=PX->ĥ->Res Fl
section
variable{X:Cx}{cm:String->Addr}{E:L2.St->XK}{pins:List (Addr×Obj)}{σ:L2.St}{H Hc:Hp}{s sc:Shared}{ea:Addr}{C:Value}{d:Option Addr}{B:Heap}
variable{y n:Str}{Dn:String}{i:Nat}{yp hpos:Pos}{b₀:Stmt}{suite:List Stmt}{rest:List ExceptHandler}{yes no:List String}{mh:M Fl}{mr:MH}
end
end P
namespace P
open PySem PySem.Spec PyProof.Rows L2 M2 M3 M4 Builtin Builtin.ObjectAttr
section
variable{K:PySem.W.Frag}{h:Heap}{C:Addr}{cd:ClassData}{bm:List Value}
end
section
variable{prog:Program}{w:World}{A:Around}{E:Value->Shared->Prop}{h:Heap}{g:Array GenState}{d:Drawn}{t:Nat}{os:OsState}
variable{nm q:Str}{C N:Addr}{bs bm bmB:List Value}{hdct:Bool}{sn:List Str}{sub:List Value}{ab:Bool}{col:Option Bool}{dd:Option Addr}{k0 k1 k2 k3 k5:Option Value}{B newId initId:String}
end
section
variable{prog:Program}{w:World}{A:Around}{E:Value->Shared->Prop}{s:Shared}{K:PySem.W.Frag}{x C:Addr}{cd:ClassData}{bm:List Value}{ox:Obj}{od:Option Obj}{name:Str}{v:Value}
end
end P
namespace P
open PySem PySem.Spec PyProof.Rows L2 M2 M3 M4
section
variable{X:Cx}{pins:List (Addr×Obj)}{σ:L2.St}{H:Hp}{s:Shared}{a C:Addr}{cd:ClassData}{bm:List Value}{d:Option Addr}{fs:List (Str×V)}{f:Str}{y:V}{u:Value}{A:Around}{E:Value->Shared->Prop}
variable{o value:Expr}{pos pos':Pos}{j:Nat}{ss:List Stmt}{r:List (Str×Nat)}
end
section
variable{P:Program}{w:World}{K:PySem.W.Frag}{mg:Str->Option Value}{base:Heap}{CX:dJ}
end
section
variable{X:Cx}{cm:String->Addr}{E:L2.St->XK}{e:Expr}{es:List Expr}{pos p:Pos}{CX:dJ}{k n:Nat}{f:Addr}{fd:FuncData}{ps:List Str}{C:String}{fl:List (Str×Nat)}{ms:M (List PV)}{x:Str}
end
section
variable{M:Model}{A:Around}{E:Value->Shared->Prop}{s:Shared}{K:PySem.W.Frag}{env:Env}
end
section
variable{X:Cx}{cm:String->Addr}{E:L2.St->XK}{e:Expr}{es:List Expr}{pos cpos np:Pos}{CX:dJ}{k n:Nat}{f:Addr}{fd:FuncData}{ps:List Str}{C:String}{fl:List (Str×Nat)}{ms:M (List PV)}{x:Str}
end
end P
namespace P
open PySem PySem.Spec PyProof.Rows L2 M2 M3 M4 Builtin Builtin.ObjectAttr
section
variable{prog:Program}{w:World}{A:Around}{E:Value->Shared->Prop}{s:Shared}{K:PySem.W.Frag}{x C:Addr}{ox:Obj}{od:Option Obj}
end
section
variable{X:Cx}{cm:String->Addr}{K:KK}
end
section
variable{ρ:ĥ}{C:String}{n i:Nat}{fl:List (Str×Nat)}{ms:M (List PV)}{mb mh:M Fl}{mr:MH}{yes no:List String}{x:PX}
end
end P
namespace P
open PySem PySem.Spec PyProof.Rows L2 M2 M3 M4
section
variable{X:Cx}{cm:String->Addr}{E:L2.St->XK}{y:Str}{Dn:String}{yp hpos:Pos}{b₀:Stmt}{suite:List Stmt}{rest:List ExceptHandler}{yes no:List String}{mh:M Fl}{mr:MH}
end
end P
namespace P
open PySem PySem.Spec PyProof.Rows L2 M2 M3 M4
section
variable{X:Cx}{cm:String->Addr}{K:KK}
def yX:List V->Hp->VK->Prop:=λxs H Q=>(∃i,xs=[.int i]/\Q (.int i) H)\/∃k,xs=[.bl k]/\Q (.int (if k then 1 else 0)) H
def ni:ū X (.type "int") yX:=qt
def gC:List PV->Option PV
 | [.int i]=>some (.int i)
 | [.bl k]=>some (.int (if k then 1 else 0))
 |_=>none
def nj:kW K yX gC:=by
 intro c F H σ ρ ps pv vs Q rel r e k
 unfold gC at e
 split at e
 ·cases e
  obtain⟨v,rfl,r1⟩:=yW r
  cases r1.int
  exact .inl ⟨_,rfl,k _ F H rel (Same.refl _) (Same.refl _) Rep.int⟩
 ·cases e
  obtain⟨v,rfl,r1⟩:=yW r
  cases r1.bl
  exact .inr ⟨_,rfl,k _ F H rel (Same.refl _) (Same.refl _) Rep.int⟩
 ·cases e
theorem ŷ:∀{ns:List Int} {its:List Value},Vals (ns.map V.int) its->IntsAre its ns
 | [],its,h=>by cases h;exact .nil
 |n::ns,its,h=>by
  cases h with
  |cons r t=>
   obtain⟨k,e⟩:=(show ∃k,_=Value.int n k from r)
   subst e
   exact .cons n k (ŷ t)
def GK(K:PySem.W.Frag):List V->Hp->VK->Prop:=λxs H Q=>∃(p:Addr) (ns:List Int),xs=[.ref p]/\ń K H p (ns.map V.int)/\Q (.int ns.sum) H
def nq(hc:X.calm=true):ū X (.builtin "sum") (GK X.K):=by
 intro pins s σ H xs us Q I r h
 obtain⟨p,ns,rfl,hS,q⟩:=h
 obtain⟨u,rfl,ru⟩:=vals1 r
 cases ru
 obtain⟨its,rv,pl,hz⟩:=I.list hS
 have hi:=ŷ rv
 obtain⟨ys,e⟩:=hi.allInts.items
 have hns:ns=ys.toList.map (·.1):=by rw[<-hi.numsOf,<-nums_intItems,<-e]
 have hl:=pl.isList
 rw[e] at hl
 refine sum_intListG (show X.A.handled=none from I.ok.hd hc) hl λh' tk t' hk=>?_
 refine⟨.int ns.sum,H,I.kept hk,⟨t',?_⟩,q⟩
 rw[preSum_eq,List.take_of_length_le (by simp),<-hns]
section
variable{prog:Program}{w:World}{A:Around}{E:Value->Shared->Prop}{s:Shared}{l:Addr}{xs:Array (Int×Tok)}
end
def intsOf:List PV->Option (List Int)
 | []=>some []
 | .int b::ps=>(intsOf ps).map (b:: ·)
 |_::_=>none
@[simp] theorem nu:∀ns:List Int,intsOf (ns.map PV.int)=some ns
  | []=>rfl
  |n::ns=>by rw[List.map_cons,intsOf,nu ns];rfl
theorem ints_rep{F:Hp}:∀{ps:List PV} {vs:List V} {bs:List Int},ĉ K F ps vs->intsOf ps=some bs->vs=bs.map V.int
 | [],vs,bs,r,h=>by
   cases h
   cases r.pr
   rfl
 |p::ps,vs,bs,r,h=>by
  cases r.pr with
  |cons r1 t=>
   cases p with
   |int b=>
    unfold intsOf at h
    obtain⟨cs,e,rfl⟩:=Option.map_eq_some_iff.mp h
    rw[ints_rep (ĉ.of t) e,show _=V.int b from r1]
    rfl
   |_=>cases h
def iG:List PV->Option PV
 | [.lst ps]=>(intsOf ps).map λns=>.int ns.sum
 |_=>none
def nA:kW K (GK K.K) iG:=by
 intro c F H σ ρ ps pv vs Q rel r e k
 unfold iG at e
 split at e
 ·rename_i ps
  obtain⟨v,rfl,r1⟩:=yW r
  obtain⟨a,xs,rfl,h1,h2⟩:=r1.lst rel.sub
  obtain⟨ns,eb,rfl⟩:=Option.map_eq_some_iff.mp e
  exact⟨a,ns,rfl,by rw[<-ints_rep h2 eb];exact h1,k _ F H rel (Same.refl _) (Same.refl _) Rep.int⟩
 ·cases e
@[simp] theorem JZ{i:Int}:gC [.int i]=some (.int i):=rfl
@[simp] theorem J_{b:Bool}:gC [.bl b]=some (.int (if b then 1 else 0)):=rfl
@[simp] theorem Ka{ps:List PV}:iG [.lst ps]=(intsOf ps).map λns=>.int ns.sum:=rfl
end
end P
namespace P
open PySem PySem.Spec PyProof.Rows L2 M2 M3 M4
section
variable{ρ:ĥ}{i n k:Nat}{C:String}{cs:List String}{f m:Str}{mv mo:M PV}{mi:MI}{ms:M (List Slot)}{mb:M Fl}{gQ:List (String×MF)}{as:List Slot}{ns:List Str}{ps:List PV}
end
end P
namespace M3
open PySem PySem.Spec PyProof.Rows L2 M2
section
variable{X:Cx}{elt tg iter:Expr}{ifs:List Expr}{scope:Scope}{pos:Pos}{wi:TI}{g:TG}{tt:TT}{te:TE}
def xR{iv:Nat}{y:Str}{py spos:Pos}(hN:X.N.Nodup)(Vq:X.N[iv]?=some y)(hy:X.env.scope.names.lookup y=some .local)(hsw:swapsWith (.ListComp elt [⟨tg,iter,ifs,0⟩] scope pos) (some (.Name y py)) spos.line X.env=pure true)(N':List Str)(js:List Nat)(nl:Nat)(sc:Scope)(hsc:X.env.scope=sc)(hcalm:X.calm=true)
 (hi:PI X.ĺ tg iter wi)(hg:∀cl C s H fp,PG (aN X.ĺ N' scope cl C s H fp) tg g)(ht:∀cl C s H fp,wV (aN X.ĺ N' scope cl C s H fp) ifs tt)(he:∀cl C s H fp,PE (aN X.ĺ N' scope cl C s H fp) elt te)
 (hcap:aK X.ĺ sc scope N' js)(hlen:js.length+nl=N'.length:=by rfl)
 (hk:scope.kind=.function:=by rfl)(hcell:∀y∈scope.names,y.2=.cell->scope.names.lookup y.1=some .cell:=by decide +kernel)(hnames:∀y∈scope.names,y.2=.local->scope.names.lookup y.1=some .local:=by decide +kernel)
 (hfree:∀y∈scope.names,y.2=.free->(sc.names.lookup y.1=some .cell\/sc.names.lookup y.1=some .free):=by decide +kernel)
 (hs:∀x,foldedSetIterable iter X.env x=pure x:=by intro _;rfl) :
 PS X.ĺ (.Assign [.Name y py] (.ListComp elt [⟨tg,iter,ifs,0⟩] scope pos) spos) (λD σ H=>rW js nl wi g tt te σ H λv H'=>D.nx (σ.set iv (some v)) H'):=by
 intro pins s σ H D I h
 obtain⟨Fz,c1,c2,c3⟩:=ak (scope:=scope) (env:=X.ĺ.env) λy hy hf=>I.ok.has y.1 (by
  have:=hfree y hy hf
  rw[<-hsc] at this
  exact this)
 rw[exec_Assign_Name_used _ _ _ _ (show swapsWith _ _ _ X.ĺ.env=pure true from hsw)]
 refine wpAny_bind (wpAny_standAt (wpAny_bind ?_))
 show wpAny _ X.A (do let _ <-comprehension (.ListComp elt [⟨tg,iter,ifs,0⟩] scope pos) scope X.ĺ.env _ (newList []) false (eval iter X.ĺ.env) (some (assign (.Name y py) X.ĺ.env))) _ _ s
 refine wpAny_bind (wpAny_mono (wpAny_comprehension_free (Q:=λ_ s'=>SP X.ĺ pins D .next s') (use:=some (assign (.Name y py) X.ĺ.env)) rfl hs c1 hk hnames (Ļ (hi pins s σ H _ I h) λv s1 h1=>Ļ h1 λitv s2 h2=>?_)) (λ_ s' hq=>wpAny_pure (wpAny_pure hq)) λ_ _ e=>e)
 obtain⟨it,fp,tn,J,H2,e,I2,T,st2,f2,q2⟩:=h2
 subst e
 refine wpAny_newObj_type (bG (λh₁ hns₁ old Bl=>?_))
 dsimp only at hns₁ old Bl ⊢
 generalize Bm:s2.heap.push {cls:=.type "list",dict:=none,data:=.seq ([]:List Value).toArray}=ţ at hns₁ old Bl ⊢
 have hD:H2 s2.heap.objs.size=none:=I2.hok.fresh (Nat.le_refl _)
 have I3:Inv X.ĺ pins σ (upd H2 s2.heap.objs.size (.lst [])) {s2 with heap:=ţ}:=by
  rw[<-Bm]
  exact I2.laid (t':=s2.toks) (λb u e=>Heap.get?_push_of_some _ e) (Nat.le_refl _) ⟨Nat.zero_le _,[],0,.nil,Heap.get?_push_size _ rfl⟩
 have su:∀b∈fp,b<s2.heap.objs.size:=λb hb=>by
  obtain⟨o,ho,_⟩:=T.obj 0 _ st2 b hb
  exact Heap.lt_size ho
 have Bo:ţ.objs.size=s2.heap.objs.size+1:=by rw[<-Bm,Heap.size_push]
 have f3:∀b∈fp,ř X.ĺ pins (upd H2 s2.heap.objs.size (.lst [])) b:=λb hb=>by
  obtain⟨g0,g1⟩:=f2 b hb
  exact⟨by rw[ć (Nat.ne_of_lt (su b hb))];exact g0,g1⟩
 have B:=rY (X:=X.ĺ) (cl:=Fz) hcell c2 c3 (λx c e=>by
  obtain⟨v,o,ho,_⟩:=I3.cell x c e
  exact Heap.lt_size ho) Bl
 generalize cellsFrom (ţ.objs.size+1) scope.names Fz=cl at B ⊢
 obtain⟨W,⟨m0,w0⟩,turn⟩:=q2 s2.heap.objs.size hD
 have I4:=iZ (X:=X.ĺ) (N':=N') (js:=js) (nl:=nl) (sc:=sc) (scope:=scope) (cl:=cl) (fp:=fp) (h':=h₁) (tk:=s2.toks) hsc hk hcap hlen B I3 f3 (λb hb=>by show b<ţ.objs.size;rw[Bo];exact Nat.lt_succ_of_lt (su b hb)) hns₁ old
 have FJ:tn 0 h₁:= T.keep 0 _ _ st2 λb hb o e=>old b o (by rw[<-Bm];exact Heap.get?_push_of_some _ e)
 have Mf:∀b∈fp,(upd H2 s2.heap.objs.size (.lst [])) b=none:=λb hb=>(f3 b hb).1
 have stat:∀{H':Hp},(∀b∈fp,H' b=none)->∀b∈fp,ř (aN X.ĺ N' scope cl ţ.objs.size {s2 with heap:=ţ} (upd H2 s2.heap.objs.size (.lst [])) fp) [] H' b:=fun{H'} hn b hb=>by
  obtain⟨g0,g1,g2,g3,g4,g5⟩:=f3 b hb
  refine⟨hn b hb,Nat.ne_of_lt (by show b<ţ.objs.size;rw[Bo];exact Nat.lt_succ_of_lt (su b hb)),λz=>?_,.inl hb,λx c e=>by
   rcases B.at_ x c e with⟨q,_⟩|⟨q,_⟩
   ·exact g4 x c q
   ·exact Nat.ne_of_gt (Nat.lt_trans (by show b<ţ.objs.size;rw[Bo];exact Nat.lt_succ_of_lt (su b hb)) q),λp hp=>absurd hp (by simp[aN])⟩
  rcases List.mem_cons.mp (I3.fu b z) with z|z
  ·exact g1 z
  ·exact g2 z
 have loop:∀s₃:Shared,s₃= {s2 with heap:=h₁}->
  codeAny (model X.prog X.w) X.A (.compLoop (.ListComp elt [⟨tg,iter,ifs,0⟩] scope pos) 0 (.ref it) (.ref s2.heap.objs.size) (compEnvC scope cl ţ.objs.size X.ĺ.env))
   (compPost (model X.prog X.w) X.A X.ĺ.xe (some (assign (.Name y py) X.ĺ.env)) (λ_ s'=>SP X.ĺ pins D .next s') (.ref s2.heap.objs.size) ţ.objs.size) s₃:= by
  rintro s₃ rfl
  refine bY (λn s'=>∃i σ' H',Inv (aN X.ĺ N' scope cl ţ.objs.size {s2 with heap:=ţ} (upd H2 s2.heap.objs.size (.lst [])) fp) [] σ' H' s'/\tn i s'.heap/\(∀b∈fp,H' b=none)/\W i n σ' H') ?_ m0 ⟨0,_,_,I4,FJ,Mf,w0⟩
  rintro n s5 ⟨i,σ5,H5,I5,wC,zZ,w5⟩
  rcases turn i n σ5 H5 w5 with⟨stop,qn⟩|⟨go,N,hN,step⟩
  ·refine Ļ (T.done (aN X.ĺ N' scope cl ţ.objs.size {s2 with heap:=ţ} (upd H2 s2.heap.objs.size (.lst [])) fp) rfl rfl rfl hcalm i [] s5 σ5 H5 (λ_ _=>False) I5 (stat zZ) wC stop) λr s6 ⟨hr,I6⟩=>?_
   subst hr
   obtain⟨m,hm,_⟩:=I6.loc
   have I7:Inv X.ĺ pins σ H5 s6:=fP (h':=s6.heap) I3 f3 I6 (λb u hb e=>e)
   have hCL:ţ.objs.size≠X.ĺ.env.locals:=Nat.ne_of_gt I3.lt
   have hcC:∀x c,X.ĺ.env.cells.lookup x=some c->c≠ţ.objs.size:=λx c e z=>by
    obtain⟨v,o,ho,_⟩:=I3.cell x c e
    exact absurd (Heap.lt_size ho) (by rw[z];exact Nat.lt_irrefl _)
   have Vr:∀p∈X.ĺ.pn++pins,p.1≠ţ.objs.size:=λp hp z=>by
    have:=Heap.lt_size (I3.pin p hp).1
    rw[z] at this
    exact Nat.lt_irrefl _ this
   have hnC:H5 ţ.objs.size=none:=I6.free
   refine wpAny_assign_Name (iK (X:=X.ĺ) (i:=iv) I7 hN Vq (.inl hy) (v:=.ref s2.heap.objs.size) rfl (λs8 I8 ⟨a8,Vs,Ou⟩=>?_) (.inr hy))
   have Vt:ţ.objs.size≠a8:=by
    rcases Ou with rfl|Ou
    ·exact hCL
    ·exact λz=>hcC _ _ Ou z.symm
   refine⟨m,hm.sameBut Vs Vt,λh' hs'=>⟨_,H5,?_,qn⟩⟩
   have kp:∀b o,b≠ţ.objs.size->s8.heap.get? b=some o->h'.get? b=some o:=λb o hb e=>hs'.extBut b o hb e
   have Ov:∀b o,b∉[ţ.objs.size]->s8.heap.get? b=some o->h'.get? b=some o:=λb o hb e=>kp b o (λz=>hb (by rw[z];exact List.mem_cons_self)) e
   refine I8.call' (ch:=[ţ.objs.size]) (s':={s8 with heap:=h'}) rfl ⟨λb o e _ _ hx=>Ov b o hx e,λb o e _ _ hx=>⟨o.slots,Ov b o hx e⟩,λb o _ n _=>n,λb o e hx=>⟨o,Ov b o hx e⟩,λ_ _ q=>q,λ_ _ _ q=>q,λ_ ps q=>q⟩ (oH I8.hok hnC kp) I8.bare λb hb=>?_
   cases List.mem_singleton.mp hb
   exact⟨.inr I3.sz,hCL,hcC,Vr⟩
  ·refine Ļ (T.item (aN X.ĺ N' scope cl ţ.objs.size {s2 with heap:=ţ} (upd H2 s2.heap.objs.size (.lst [])) fp) rfl rfl rfl hcalm i [] s5 σ5 H5 (λ_ _=>False) I5 (stat zZ) wC go) λr s6 ⟨u,hr,h6⟩=>?_
   subst hr
   refine Ļ h6 λ_ s7 ⟨x,H7,I7,r7,y7,Bp,Mg⟩=>?_
   have Mh:=I7.pinned (stat Mg) (T.obj _ _ Bp)
   have again:∀{s8:Shared} {σ8:L2.St} {H8:Hp},Inv (aN X.ĺ N' scope cl ţ.objs.size {s2 with heap:=ţ} (upd H2 s2.heap.objs.size (.lst [])) fp) ([]++cN fp s7.heap) σ8 H8 s8->
    Inv (aN X.ĺ N' scope cl ţ.objs.size {s2 with heap:=ţ} (upd H2 s2.heap.objs.size (.lst [])) fp) [] σ8 H8 s8/\tn (i+1) s8.heap/\∀b∈fp,H8 b=none:=fun{s8 σ8 H8} I8=>by
    refine⟨I8.ų,T.keep _ _ _ Bp λb hb o e=>(I8.pin (b,o) (List.mem_append_right _ (List.mem_append_right _ (ļ hb e)))).1,λb hb=>?_⟩
    obtain⟨o,e,d⟩:=T.obj _ _ Bp b hb
    exact(I8.pin (b,o) (List.mem_append_right _ (List.mem_append_right _ (ļ hb e)))).2.1
   refine Ļ (hg cl _ _ _ fp _ s7 σ5 H7 x u _ Mh r7 (step x H7 y7)) λ_ s8 ⟨σ8,H8,I8,q8⟩=>?_
   refine Ļ (ht cl _ _ _ fp _ s8 σ8 H8 _ I8 q8) λc s9 ⟨H9,I9,q9⟩=>?_
   cases c with
   |false=>
    rw[if_neg Bool.false_ne_true] at q9 ⊢
    obtain⟨m',hm',w9⟩:=hN _ _ q9
    obtain⟨a1,a2,a3⟩:=again I9
    exact⟨m',hm',i+1,σ8,H9,a1,a2,a3,w9⟩
   |true=>
    rw[if_pos rfl] at q9 ⊢
    refine Ļ (he cl _ _ _ fp _ s9 σ8 H9 _ I9 q9) λyv Mi ⟨y,Mj,Ml,r10,ys,e10,l10,w10⟩=>?_
    refine Ļ (Ŷ _ Mi σ8 Mj (.ref s2.heap.objs.size) [y] (.ref s2.heap.objs.size) [yv] (λ_ Bq=>N σ8 Bq) Ml rfl (.cons r10 .nil) ⟨_,ys,y,rfl,rfl,e10,l10,w10⟩) λ_ Vg ⟨v11,Bq,Mp,_,w11⟩=>?_
    obtain⟨a1,a2,a3⟩:=again Mp
    obtain⟨m',hm',w11⟩:=hN _ _ w11
    exact⟨m',hm',i+1,σ8,Bq,a1,a2,a3,w11⟩
 exact codeAny_compStart_list (loop _ rfl) (T.self _ 0 _ _ _ FJ (loop _ rfl))
end
end M3
namespace P
open PySem PySem.Spec PyProof.Rows L2 M2 M3 M4
section
variable{X:Cx}{cm:String->Addr}{E:L2.St->XK}{elt tg iter:Expr}{ifs:List Expr}{scope:Scope}{pos:Pos}{mi:M (List PV)}{g:Tg}{mt:M Bool}{me:M PV}
theorem PS.ĺ{st:Stmt}{t:TS}(h:PS X.ĺ st t):PS X st t:=λpins s σ H D I hw=>
 wpAny_mono (h pins s σ H D (I.wish _) hw) (λ_ _ q=>q.ſ) λ_ _ z=>False.elim z
def nC{i:Nat}{y:Str}{py spos:Pos}(hN:X.N.Nodup)(hi0:X.N[i]?=some y)(hy:X.env.scope.names.lookup y=some .local)(N':List Str)(js:List Nat)(nl:Nat)(sc:Scope)(hsc:X.env.scope=sc)(hcalm:X.calm=true)
 (hi:PI X.ĺ tg iter (tI (kk X cm) E mi))(hg:∀cl C s H fp,PG (aN X.ĺ N' scope cl C s H fp) tg (tT (kk X cm) g))(ht:∀cl C s H fp,wV (aN X.ĺ N' scope cl C s H fp) ifs (tB (kk X cm) EF mt))(he:∀cl C s H fp,PE (aN X.ĺ N' scope cl C s H fp) elt (tV (kk X cm) EF me))
 (hcap:aK X.ĺ sc scope N' js)(hlen:js.length+nl=N'.length:=by rfl)
 (hk:scope.kind=.function:=by rfl)(hcell:∀y∈scope.names,y.2=.cell->scope.names.lookup y.1=some .cell:=by decide +kernel)(hnames:∀y∈scope.names,y.2=.local->scope.names.lookup y.1=some .local:=by decide +kernel)
 (hfree:∀y∈scope.names,y.2=.free->(sc.names.lookup y.1=some .cell\/sc.names.lookup y.1=some .free):=by decide +kernel)
 (hs:∀x,foldedSetIterable iter X.env x=pure x:=by intro _;rfl)(hsw:swapsWith (.ListComp elt [⟨tg,iter,ifs,0⟩] scope pos) (some (.Name y py)) spos.line X.env=pure true:=by rfl) :
 PS X (.Assign [.Name y py] (.ListComp elt [⟨tg,iter,ifs,0⟩] scope pos) spos) (tS (kk X cm) E (Ķ i (Ů js nl mi g mt me))):=
 PS.wk (PS.ĺ (xR hN hi0 hy hsw N' js nl sc hsc hcalm (yP hi) hg ht he hcap hlen hk hcell hnames hfree hs)) fun D σ H ⟨c,F,ρ,rel,h⟩=>kY ⟨c,F,ρ,rel,Ũ.bind h fun r ρ1 v F1 H1 Ĉ s1 q h1=>by
   cases r with
   |sh p=>exact h1 _ F1 H1 (Ĉ.put rfl ⟨v,rfl,q⟩) (Same.refl _)
   |ow ps=>
    obtain⟨a,vs,rfl,q1,q2,q3,q4,q5⟩:=q
    exact h1 _ F1 H1 (Ĉ.xr ⟨a,vs,rfl,q1,q2,q3,q5⟩ λ_ z=>V.ref.inj z▸q4) (Same.refl _)
   |ot ps qs=>
    obtain⟨p,a,xs,vs,rfl,q0,qx,q1,q2,q3,q4,q5⟩:=q
    exact h1 _ F1 H1 (Ĉ.xr (s:=.ot ps qs) ⟨p,a,xs,vs,rfl,q0,qx,q1,q2,q3,q5⟩ λ_ z=>bf (ps:=ps) (qs:=qs) z ⟨p,xs,rfl,q0⟩▸q4) (Same.refl _)⟩
end
end P
namespace P
open PySem PySem.Spec PyProof.Rows L2 M2 M3 M4
section
variable{X:Cx}{cm:String->Addr}{K:KK}{E:L2.St->XK}{o e:Expr}{es:List Expr}{name:Str}{apos cpos:Pos}{id:String}{r:V->List V->Hp->VK->Prop}{f:PV->List PV->Option PV}{mo:M PV}{ms:M (List PV)}
end
end P
namespace P
open PySem PySem.Spec PyProof.Rows L2 M2 M3 M4
section
variable{X:Cx}{pins:List (Addr×Obj)}{σ:L2.St}{H:Hp}{s:Shared}{h':Heap}
def turns{t':Nat}{fp:List Addr}(I:Inv X pins σ H s)(k:∀b o,b∉fp->s.heap.get? b=some o->h'.get? b=some o)(hf:∀b∈fp,ř X pins H b):Inv X pins σ H {s with heap:=h',toks:=t'}:=by
 have Eo:∀b u,H b=some u->b∉fp:=λb u e z=>by rw[(hf b z).1] at e;cases e
 have hL:X.env.locals∉fp:=λz=>(hf _ z).2.1 rfl
 refine I.step (g':=s.gens) (d':=s.drawn) (ch:=fp) (λb hb=>?_) (λb o _ _ hc e _=>k b o hc e) (λb o _ _ hc e _=>⟨o.slots,k b o hc e⟩) (λ_ _ _ _ n=>n)
  (λb o hc e=>⟨o,k b o hc e⟩) (λ_ _ e=>e) (λ_ _ _ e=>e) (λb ps e=>e) (λm hm=>?_) (λb u e=>?_) I.bare
 ·obtain⟨f0,f1,f2,f3,f4,f5⟩:=hf b hb
  exact⟨f3,f1,f4,f5⟩
 ·obtain⟨o,es,ep,ho,r⟩:=hm
  exact⟨o,es,ep,k _ o hL ho,r⟩
 ·refine(I.hok b u e).stay (λc v hc q=>k c v ?_ q) (λ_ q=>q) λ_ _ q=>q
  rcases hc with z|z
  ·rw[z];exact Eo b u e
  ·exact Eo c _ z
def Ci{a b:Addr}{o:HO}(f:ř X pins H b)(h:b≠a):ř X pins (upd H a o) b:=⟨by rw[ć h];exact f.1,f.2⟩
def gD{t':Nat}{fp:List Addr}{u1 u2:Value}{x1 x2:V}(I:Inv X pins σ H s)(r1:RelV x1 u1)(r2:RelV x2 u2)(ht:∃o,h'.get? s.heap.objs.size=some o/\o= {cls:=.type "tuple",data:=.seq #[u1,u2]})
 (k:∀b o,b∉fp->s.heap.get? b=some o->h'.get? b=some o)(hf:∀b∈fp,ř X pins H b)(hlt:∀b∈fp,b<s.heap.objs.size) :
 Inv X pins σ (upd H s.heap.objs.size (.tup [x1,x2])) {s with heap:=h',toks:=t'}:=by
 have I1:Inv X pins σ (upd H s.heap.objs.size (.tup [x1,x2])) {s with heap:=s.heap.push {cls:=.type "tuple",data:=.seq #[u1,u2]},toks:=s.toks}:=
  I.laid (t':=s.toks) (λb u e=>Heap.get?_push_of_some _ e) (Nat.le_refl _) ⟨by show 2<=sizeLine;decide,[u1,u2],.cons r1 (.cons r2 .nil),⟨_,Heap.get?_push_size _ rfl,rfl,_,rfl⟩⟩
 refine turns (fp:=fp) (s:={s with heap:=s.heap.push {cls:=.type "tuple",data:=.seq #[u1,u2]},toks:=s.toks}) (h':=h') (t':=t') I1 (λb o hb e=>?_) λb hb=>Ci (hf b hb) (Nat.ne_of_lt (hlt b hb))
 rcases Heap.get?_push_cases e with⟨rfl,rfl⟩|e
 ·obtain⟨o,h1,h2⟩:=ht
  rw[h1,h2]
 ·exact k b o hb e
end
def Ite(K:PySem.W.Frag)(a:Addr):It:=
 ⟨λi H=>∃xs x,ń K H a xs/\xs[i]?=some x,λi H y H'=>∃x T,(∀xs,ń K H a xs->xs[i]?=some x)/\H T=none/\y=.ref T/\H'=upd H T (.tup [.int i,x]),λi H=>∃xs,ń K H a xs/\xs.length<=i⟩
def qL{P:Program}{w:World}{K:PySem.W.Frag}{elts:List Expr}{k:Nat}{pos:Pos}(a e it:Addr)(hne:e≠it):Turn P w K (.Tuple elts k pos) (Ite K a) [e,it] e (λi h=>(∃old,IsEnum h e it i old)/\h.IsListIter it a i) where
 mem:=by simp
 obj:=λi h st b hb=>by
  obtain⟨⟨old,he⟩,hit⟩:=st
  rcases List.mem_cons.mp hb with rfl|hb
  ·exact⟨_,he,fun v z=>by
    have z':Data.fields _=Data.cell v:=z
    cases z'⟩
  ·have e':b=it:=by simpa using hb
   subst e'
   obtain⟨o,e1,c,d⟩:=hit
   exact⟨o,e1,λv z=>by rw[d] at z;cases z⟩
 keep:=λi h h' st k=>⟨let ⟨old,he⟩:=st.1;⟨old,k e (by simp) _ he⟩,st.2.at λo q=>k it (by simp) o q⟩
 item:=by
  intro X hP hw hK hc i pins s σ H E I hf st hg
  subst hP hw hK
  obtain⟨⟨old,he⟩,hit⟩:=st
  obtain⟨xs,x,hq,hx⟩:=hg
  obtain⟨its,rv,p,hz⟩:=I.list hq
  obtain⟨u,hu,ru⟩:=rv.get hx
  have elt:e<s.heap.objs.size:=Heap.lt_size he
  have Vu:it<s.heap.objs.size:=by obtain⟨_,q,_⟩:=hit;exact Heap.lt_size q
  refine wpAny_pyNext_enum_item he hit p.isList (x:=u) (by simpa using hu) hne λh' ho hit' hT hsz hk=>?_
  refine⟨.ref s.heap.objs.size,rfl,wpAny_letOwnedTupleGo_enum ho λh'' he' hs'=>?_⟩
  have hs2:Heap.SameBut e h' h'':=hs'
  have hlt:∀b∈[e,it],b<s.heap.objs.size:=λb hb=>by
   rcases List.mem_cons.mp hb with rfl|hb
   ·exact elt
   ·have e':b=it:=by simpa using hb
    subst e';exact Vu
  have I2:=gD (fp:=[e,it]) (h':=h'') (t':=s.toks+1) (x1:=.int i) I ⟨s.toks,rfl⟩ ru ⟨_,(hs2.2 _ (Nat.ne_of_gt elt)).trans hT,rfl⟩ (λb o hb q=>by
   have hbe:b≠e:=λz=>hb (by simp[z])
   have hbi:b≠it:=λz=>hb (by simp[z])
   exact(hs2.2 b hbe).trans (hk b o hbe hbi q)) hf hlt
  refine⟨.ref s.heap.objs.size,_,I2,rfl,⟨x,s.heap.objs.size,λys hy=>by rw[I.fC hy hq];exact hx,I.fresh,rfl,rfl⟩,⟨⟨u,?_⟩,hit'.at λo q=>(hs2.2 it hne.symm).trans q⟩,λb hb=>?_⟩
  ·have he2:IsEnum h'' e it ((i:Int)+1) u:=he'
   show IsEnum h'' e it (((i+1:Nat):Int)) u
   rw[Int.natCast_add]
   exact he2
  ·rw[ć (Nat.ne_of_lt (hlt b hb))];exact(hf b hb).1
 done:=by
  intro X hP hw hK hc i pins s σ H E I hf st hg
  subst hP hw hK
  obtain⟨⟨old,he⟩,hit⟩:=st
  obtain⟨xs,hq,hx⟩:=hg
  obtain⟨its,rv,p,hz⟩:=I.list hq
  have hl:=rv.length
  refine wpAny_pyNext_enum_end (I.ok.hd hc) he hit p.isList (by simp;omega) λh' eb=>⟨rfl,turns (fp:=[e,it]) (t':=s.toks) I (λb o hb q=>eb b o (λz=>hb (by simp[z])) q) hf⟩
 self:=λ_ _ _ _ _ st h=>let ⟨_,he⟩:=st.1;wpAny_pyIter_enum he h
section
variable{X:Cx}{elts:List Expr}{k:Nat}{tp:Pos}
def GP(K:PySem.W.Frag)(ta:TA):TI:=λσ H R=>ta σ H λvs H1=>∃a,vs=[.ref a]/\(∃xs,ń K H1 a xs)/\R (Ite K a) H1
def pH{l:Expr}{ta:TA}{p pos:Pos}(hg:Gl X "enumerate")(hm:X.mg "enumerate" =none)(ha:PA X [l] ta)(hs:starEach [l] X.env=[(false,eval l X.env)]:=by exact ŏ rfl):PI X (.Tuple elts k tp) (.Call (.Name "enumerate" p) [l] [] pos) (GP X.K ta):=by
 intro pins s σ H R I h
 refine Call_ (bM I hg hm boot_enumerate (PyProof.Rows.callWith_type1 (Ļ (ha pos pins s σ H _ I h) λus s1 ⟨vs,H1,I1,r1,q1⟩=>?_) hs rfl))
 obtain⟨a,e,⟨xs,hq⟩,q⟩:=q1
 subst e
 obtain⟨u,rfl,ru⟩:=r1.one
 cases ru
 obtain⟨its,rv,pl,hz⟩:=I1.list hq
 refine call_enumerate_list pl.isList λh' he hit hsz hk=>?_
 have I2:Inv X pins σ H1 {s1 with heap:=h'}:=I1.kept (t':=s1.toks) hk
 refine wpAny_pyIter_enum (s:={s1 with heap:=h'}) he ⟨s1.heap.objs.size+1,[s1.heap.objs.size+1,s1.heap.objs.size],_,_,H1,rfl,I2,qL a _ _ (Nat.succ_ne_self _),⟨⟨_,he⟩,hit⟩,λb hb=>?_,q⟩
 have hb':s1.heap.objs.size<=b:=by
  rcases List.mem_cons.mp hb with rfl|hb
  ·exact Nat.le_succ _
  ·have e':b=s1.heap.objs.size:=by simpa using hb
   exact Nat.le_of_eq e'.symm
 exact I1.g_ hb' (I1.hok.fresh hb')
end
def Ow(K:KK):RR (List PV) V:=λc _ _ F H items v=>∃a,v=.ref a/\(∃xs,ń K.K H a xs)/\Ż K c.L F (yE K.K a) items
def Vv(K:KK):RR (List PV) V:=λc _ _ F H items v=>∃a,v=.ref a/\(∃xs,Ų K.K H a xs)/\Ż K c.L F (Ew K.K a) items
def Kc(K:KK):RR (List PV) V:=λc σ ρ F H items v=>Ow K c σ ρ F H items v\/Vv K c σ ρ F H items v
def aY{K:KK}{L F:Hp}{ps:List PV}{v:V}(h:Rep K F (.lst ps) v):∃a,v=.ref a/\(∃xs,ń K.K F a xs)/\Ż K L F (yE K.K a) ps:=by
 unfold Rep at h
 obtain⟨a,vs,rfl,e1,e2⟩:=h
 refine⟨a,rfl,⟨vs,e1⟩,?_⟩
 intro c' i F2 H2 σ2 ρ2 ė sF _
 have hq:ń K.K H2 a vs:=(sF.trans ė.sub).seq e1
 refine⟨λp hp=>?_,λhi=>⟨vs,hq,by rw[hi,e2.length];exact Nat.le_refl _⟩⟩
 obtain⟨u,hu,ru⟩:=ŝ e2.pr hp
 refine⟨⟨vs,u,hq,hu⟩,λx H' ⟨hH,hx⟩=>?_⟩
 subst hH
 have:vs[i]?=some x:=hx vs hq
 rw[hu] at this
 cases this
 exact⟨F2,ė,Same.refl _,Same.refl _,Rep.same sF p u ru⟩
def uo{K:KK}{L F:Hp}{ps:List PV}{v:V}(h:Rep K F (.tup ps) v):∃a,v=.ref a/\(∃xs,Ų K.K F a xs)/\Ż K L F (Ew K.K a) ps:=by
 unfold Rep at h
 obtain⟨a,vs,rfl,e1,e2⟩:=h
 refine⟨a,rfl,⟨vs,e1⟩,?_⟩
 intro c' i F2 H2 σ2 ρ2 ė sF _
 have hq:Ų K.K H2 a vs:=Same.tup (sF.trans ė.sub) e1
 refine⟨λp hp=>?_,λhi=>⟨vs,hq,by rw[hi,e2.length];exact Nat.le_refl _⟩⟩
 obtain⟨u,hu,ru⟩:=ŝ e2.pr hp
 refine⟨⟨vs,u,hq,hu⟩,λx H' ⟨hH,hx⟩=>?_⟩
 subst hH
 have:vs[i]?=some x:=hx vs hq
 rw[hu] at this
 cases this
 exact⟨F2,ė,Same.refl _,Same.refl _,Rep.same sF p u ru⟩
def bx{K:KK}{c:Ctx}{F:Hp}{a:Addr}{vs:List V}{ps:List PV}(h2:c.L a=some (.lst vs))(h3:ĉ K F ps vs):Ż K c.L F (yE K.K a) ps:=by
 intro c' j F2 H2 σ2 ρ2 ė sF sL
 have hq:ń K.K H2 a vs:=ń.of (sL a _ h2)
 refine⟨λp hp=>?_,λhi=>⟨vs,hq,by rw[hi,h3.length];exact Nat.le_refl _⟩⟩
 obtain⟨u,hu,ru⟩:=ŝ h3.pr hp
 refine⟨⟨vs,u,hq,hu⟩,λx H' ⟨hH,hx⟩=>?_⟩
 subst hH
 have:vs[j]?=some x:=hx vs hq
 rw[hu] at this
 cases this
 exact⟨F2,ė,Same.refl _,Same.refl _,Rep.same sF p u ru⟩
def Ż.mono{K:KK}{L F F1:Hp}{J:It}{ps:List PV}(h:Ż K L F J ps)(s:Same F F1):Ż K L F1 J ps:=λc i F2 H σ ρ rel sF sL=>h c i F2 H σ ρ rel (s.trans sF) sL
def xT(i:Nat):M (List PV):=λρ=>match ρ[i]? with
 |some (.bw ps)=>.ok ps ρ
 |some (.sh (.lst ps))=>.ok ps ρ
 |some (.ow ps)=>.ok ps (ρ.set i (.sh (.lst ps)))
 |_=>.bad
def nD(i:Nat):M (List PV):=λρ=>match ρ[i]? with
 |some (.bw ps)=>.ok ps ρ
 |some (.sh (.lst ps))=>.ok ps ρ
 |some (.sh (.tup ps))=>.ok ps ρ
 |some (.ow ps)=>.ok ps (ρ.set i (.sh (.lst ps)))
 |_=>.bad
section
variable{X:Cx}{cm:String->Addr}{E:L2.St->XK}{e:Expr}{m:M PV}
def yZ(i:Nat){x:Str}{px:Pos}(hN:X.N[i]?=some x:=by rfl)(hv:lV X.env.scope x:=by first|exact Or.inl rfl|exact Or.inr (Or.inl rfl)|exact Or.inr (Or.inr rfl))(hd:(x== ("__debug__" :Str))=false:=by decide)
 (hcd:(x== ("__classdict__" :Str))=false:=by decide):PE X (.Name x px) (tG (kk X cm) E (Kc (kk X cm)) (nD i)):=PE.wk (ŧ hN hv hd hcd) λσ H Q ⟨c,F,ρ,rel,h⟩=>by
 unfold nD at h
 cases e:ρ[i]? with
 |none=>rw[e] at h;exact h.elim
 |some sl=>
  rw[e] at h
  cases sl with
  |no=>exact h.elim
  |rc C ns ps=>exact h.elim
  |ot ps qs=>exact h.elim
  |ol qI=>exact h.elim
  |ow ps=>
   obtain⟨a,vs,z1,z2,z3,z4⟩:=rel.share e
   obtain⟨a',e1,⟨xs,e2⟩,e3⟩:=aY (L:=c.L) z3
   cases e1
   exact⟨.ref a,z1,h _ _ H z4 (Same.upd z2) (Same.refl _) (.inl ⟨a,rfl,⟨xs,z4.sub.seq e2⟩,e3⟩)⟩
  |bw ps=>
   obtain⟨a,vs,h1,h2,h3⟩:=rel.slot i _ e
   exact⟨.ref a,at_of h1,h _ F H rel (Same.refl _) (Same.refl _) (.inl ⟨a,rfl,⟨vs,ń.of (rel.lent a _ h2).1⟩,bx h2 h3⟩)⟩
  |sh p=>
   obtain⟨v,h1,h2⟩:=rel.slot i _ e
   cases p with
   |lst ps=>
    obtain⟨a,e1,⟨xs,e2⟩,e3⟩:=aY (L:=c.L) h2
    exact⟨v,at_of h1,h v F H rel (Same.refl _) (Same.refl _) (.inl ⟨a,e1,⟨xs,rel.sub.seq e2⟩,e3⟩)⟩
   |tup ps=>
    obtain⟨a,e1,⟨xs,e2⟩,e3⟩:=uo (L:=c.L) h2
    exact⟨v,at_of h1,h v F H rel (Same.refl _) (Same.refl _) (.inr ⟨a,e1,⟨xs,Same.tup rel.sub e2⟩,e3⟩)⟩
   |_=>exact h.elim
def GQ(i:Nat){x:Str}{px:Pos}(hN:X.N[i]?=some x:=by rfl)(hv:lV X.env.scope x:=by first|exact Or.inl rfl|exact Or.inr (Or.inl rfl)|exact Or.inr (Or.inr rfl))(hd:(x== ("__debug__" :Str))=false:=by decide)
 (hcd:(x== ("__classdict__" :Str))=false:=by decide):PE X (.Name x px) (tG (kk X cm) E (Ow (kk X cm)) (xT i)):=PE.wk (ŧ hN hv hd hcd) λσ H Q ⟨c,F,ρ,rel,h⟩=>by
 unfold xT at h
 cases e:ρ[i]? with
 |none=>rw[e] at h;exact h.elim
 |some sl=>
  rw[e] at h
  cases sl with
  |no=>exact h.elim
  |rc C ns ps=>exact h.elim
  |ot ps qs=>exact h.elim
  |ol qI=>exact h.elim
  |ow ps=>
   obtain⟨a,vs,z1,z2,z3,z4⟩:=rel.share e
   obtain⟨a',e1,⟨xs,e2⟩,e3⟩:=aY (L:=c.L) z3
   cases e1
   exact⟨.ref a,z1,h _ _ H z4 (Same.upd z2) (Same.refl _) ⟨a,rfl,⟨xs,z4.sub.seq e2⟩,e3⟩⟩
  |bw ps=>
   obtain⟨a,vs,h1,h2,h3⟩:=rel.slot i _ e
   exact⟨.ref a,at_of h1,h _ F H rel (Same.refl _) (Same.refl _) ⟨a,rfl,⟨vs,ń.of (rel.lent a _ h2).1⟩,bx h2 h3⟩⟩
  |sh p=>
   obtain⟨v,h1,h2⟩:=rel.slot i _ e
   cases p with
   |lst ps=>
    obtain⟨a,e1,⟨xs,e2⟩,e3⟩:=aY (L:=c.L) h2
    exact⟨v,at_of h1,h v F H rel (Same.refl _) (Same.refl _) ⟨a,e1,⟨xs,rel.sub.seq e2⟩,e3⟩⟩
   |_=>exact h.elim
def bJ:Nat->List PV->List PV
 |_,[]=>[]
 |k,p::ps=>.tup [.int k,p]::bJ (k+1) ps
theorem je:∀(k:Nat) (ps:List PV),(bJ k ps).length=ps.length
 |_,[]=>rfl
 |k,_::ps=>congrArg (·+ 1) (je (k+1) ps)
theorem jf:∀(k:Nat) (ps:List PV) (i:Nat),(bJ k ps)[i]?=ps[i]?.map λp=>.tup [.int ((k+i:Nat):Int),p]
 |_,[],_=>rfl
 |k,p::ps,0=>rfl
 |k,p::ps,i+1=>by
  show(bJ (k+1) ps)[i]?=_
  rw[jf (k+1) ps i,List.getElem?_cons_succ,show k+1+i=k+(i+1) by omega]
def lg(m:M (List PV)):M (List PV):=λρ=>(m ρ).bind λps ρ1=>.ok (bJ 0 ps) ρ1
def pI{K:KK}{c:Ctx}{F H:Hp}{σ:L2.St}{ρ:ĥ}{T:Addr}{p q:PV}{x y:V}(rel:Rel K c F H σ ρ)(hT:H T=none)(r1:Rep K F p x)(r2:Rep K F q y):Rel K c (upd F T (.tup [x,y])) (upd H T (.tup [x,y])) σ ρ/\Rep K (upd F T (.tup [x,y])) (.tup [p,q]) (.ref T):=by
 have hF:=rel.sub.free hT
 refine⟨rel.alloc hT,?_⟩
 unfold Rep
 exact⟨T,[x,y],rfl,Ų.of Ē,ĉ.cons (Rep.same (Same.upd hF) p x r1) (ĉ.cons (Rep.same (Same.upd hF) q y r2) ĉ.nil)⟩
def jg{K:KK}{L F:Hp}{a:Addr}{ps:List PV}(h:Ż K L F (yE K.K a) ps):Ż K L F (Ite K.K a) (bJ 0 ps):=by
 intro c i F2 H σ ρ rel sF sL
 obtain⟨g,st⟩:=h c i F2 H σ ρ rel sF sL
 refine⟨λp hp=>?_,λhi=>st (by rw[hi,je])⟩
 rw[jf] at hp
 cases eq:ps[i]? with
 |none=>rw[eq] at hp;cases hp
 |some q=>
  rw[eq] at hp
  have hp':PV.tup [.int ((0+i:Nat):Int),q]=p:=Option.some.inj hp
  subst hp'
  obtain⟨⟨xs,x,hq,hx⟩,g2⟩:=g q eq
  refine⟨⟨xs,x,hq,hx⟩,λy H' ⟨x',T,h1,hT,ey,eH⟩=>?_⟩
  subst ey eH
  obtain⟨F3,iC,s3,_,rp⟩:=g2 x' H ⟨rfl,h1⟩
  obtain⟨r1,r2⟩:=pI (p:=.int i) (x:=.int i) iC hT (by unfold Rep;rfl) rp
  refine⟨_,r1,s3.trans (Same.upd (iC.sub.free hT)),Same.upd hT,?_⟩
  rw[Nat.zero_add]
  exact r2
def Cj{elts:List Expr}{k:Nat}{tp p pos:Pos}{mi:M (List PV)}(hg:Gl X "enumerate")(hm:X.mg "enumerate" =none)(hl:PE X e (tG (kk X cm) E (Ow (kk X cm)) mi))(hs:starEach [e] X.env=[(false,eval e X.env)]:=by exact ŏ rfl) :
 PI X (.Tuple elts k tp) (.Call (.Name "enumerate" p) [e] [] pos) (tI (kk X cm) E (lg mi)):=λpins s σ H R I h=>pH hg hm (ŗ hl bN hs) hs pins s σ H R I (by
 obtain⟨c,F,ρ,rel,h⟩:=h
 refine⟨c,F,ρ,rel,h.bind λps ρ1 v F1 H1 Ĉ s1 s2 q h1=>?_⟩
 obtain⟨a,e1,e2,e3⟩:=q
 subst e1
 exact⟨a,rfl,e2,h1 _ F1 H1 Ĉ (Same.refl _) (Same.refl _) (jg e3)⟩)
@[simp] theorem Kd{mi:M (List PV)}{ρ:ĥ}:lg mi ρ=(mi ρ).bind λps ρ1=>.ok (bJ 0 ps) ρ1:=rfl
@[simp] theorem Ox{i:Nat}{ρ:ĥ}:xT i ρ=(match ρ[i]? with
  |some (.bw ps)=>.ok ps ρ
  |some (.sh (.lst ps))=>.ok ps ρ
  |some (.ow ps)=>.ok ps (ρ.set i (.sh (.lst ps)))
  |_=>.bad):=rfl
@[simp] theorem Oz{i:Nat}{ρ:ĥ}:nD i ρ=(match ρ[i]? with
  |some (.bw ps)=>.ok ps ρ
  |some (.sh (.lst ps))=>.ok ps ρ
  |some (.sh (.tup ps))=>.ok ps ρ
  |some (.ow ps)=>.ok ps (ρ.set i (.sh (.lst ps)))
  |_=>.bad):=rfl
end
end P
namespace P
open PySem PySem.Spec PyProof.Rows L2 M2 M3 M4
def GR{X:Cx}:Rn X .BitOr (UW λi j=>Builtin.bitOr i j):=by
 intro pins s σ H x y v u Q I r1 r2 h
 obtain⟨i,j,e1,e2,q⟩:=h
 subst e1;subst e2
 obtain⟨t,rfl⟩:=r1
 obtain⟨t',rfl⟩:=r2
 exact ior_int ⟨.int _,H,I.tok _,⟨_,rfl⟩,q⟩
def pJ(i:Nat)(m:M PV):M Fl:=λρ=>match ρ[i]? with
 |some (.sh (.int _))=>(m ρ).bind λq ρ1=>match ρ1[i]?,q with
  |some (.sh (.int k)),.int j=>.ok .nx (ρ1.set i (.sh (.int (Builtin.bitOr k j))))
  |_,_=>.bad
 |_=>.bad
@[simp] theorem Ke{i:Nat}{m:M PV}{ρ:ĥ}:pJ i m ρ=(match ρ[i]? with
  |some (.sh (.int _))=>(m ρ).bind λq ρ1=>match ρ1[i]?,q with
   |some (.sh (.int k)),.int j=>.ok .nx (ρ1.set i (.sh (.int (Builtin.bitOr k j))))
   |_,_=>.bad
  |_=>.bad):=rfl
section
variable{X:Cx}{cm:String->Addr}{E:L2.St->XK}{e a b:Expr}{m ma mb:M PV}{pos:Pos}
def jT{K:KK}{F:Hp}{i:Int}{v:V}(h:Rep K F (.int i) v):v=.int i:=by unfold Rep at h;exact h
def Ck{i:Nat}{x:Str}{pos':Pos}(hN:X.N.Nodup)(hi:X.N[i]?=some x)(hx:Loc X.env.scope x)(he:PE X e (tV (kk X cm) E m))(hf:X.fn x=true\/X.env.scope.names.lookup x=some .local:=by first|exact .inl rfl|exact .inr rfl|assumption) :
 PS X (.AugAssign (.Name x pos') .BitOr e pos) (tS (kk X cm) E (pJ i m)):=PS.wk (zX hN hi hx he GR hf) λD σ H ⟨c,F,ρ,rel,h⟩=>by
 unfold pJ at h
 cases e1:ρ[i]? with
 |none=>rw[e1] at h;exact h.elim
 |some sl=>
  rw[e1] at h
  cases sl with
  |sh p=>
   cases p with
   |int k0=>
    obtain⟨v,h1,h2⟩:=rel.slot i _ e1
    cases jT h2
    refine⟨.int k0,at_of h1,c,F,ρ,rel,Ũ.bind h λq ρ1 u F1 H1 Ĉ s1 rq h1'=>?_⟩
    cases e2:ρ1[i]? with
    |none=>simp only[e2] at h1';exact h1'.elim
    |some sl2=>
     simp only[e2] at h1'
     cases sl2 with
     |sh p2=>
      cases p2 with
      |int k=>
       cases q with
       |int j=>
        obtain⟨v2,w1,w2⟩:=Ĉ.slot i _ e2
        cases jT w2
        rw[h1] at w1
        cases w1
        cases jT rq
        exact⟨k0,j,rfl,rfl,h1' _ F1 H1 (Ĉ.put rfl ⟨_,rfl,Rep.int⟩) (Same.refl _)⟩
       |_=>exact h1'.elim
      |_=>exact h1'.elim
     |_=>exact h1'.elim
   |_=>exact h.elim
  |_=>exact h.elim
end
section
variable{X:Cx}{K:KK}
end
end P
namespace P
open PySem PySem.Spec PyProof.Rows L2 M2 M3 M4
section
variable{prog:Program}{w:World}{A:Around}{E:Value->Shared->Prop}{s:Shared}
def cI{it l:Addr}{i:Nat}{items}{x:Value}{Q:Value->Shared->Prop}(hit:s.heap.IsTupleIter it l i)
 (hl:s.heap.IsTuple l items)(hx:items[i]?=some x)
 (hQ:∀h',h'.IsTupleIter it l (i+1)->Heap.SameBut it s.heap h'->Q x {s with heap:=h'}) :
 wpAny (model prog w) A (Builtin.SmallTypes.nextOf (.ref it)) Q E s:=by
 obtain⟨o,ho,hc,hd⟩:=id hit
 obtain⟨ol,hol,_,nl,hdl⟩:=hl
 unfold Builtin.SmallTypes.nextOf
 refine wpAny_bind (wpAny_callSpecial?_slot (name:=Str.ofString "__next__") hit.typeIs F.slot_tuple_iterator_next
  (wpAny_call_entry F.slot_tuple_iterator_next hit.typeIs F.entry_tuple_iterator_next ?_ (F.args_tuple_iterator_next_1 _)))
 show wpAny _ _ (field (.ref it) 0 >>= _) _ _ s
 refine wpAny_bind (wpAny_field ho hd (x:=.ref l) rfl ?_)
 show wpAny _ _ (if(Value.ref l== Value.none)=true then _ else _) _ _ s
 rw[if_neg (show ¬((Value.ref l== Value.none)=true) from Bool.false_ne_true)]
 show wpAny _ _ (field (.ref it) 1 >>= _) _ _ s
 refine wpAny_bind (wpAny_field ho hd (x:=.int i 0) rfl ?_)
 show wpAny _ _ (seqItems? (.ref l) >>= _) _ _ s
 refine wpAny_bind (wpAny_seqItems hol hdl ?_)
 simp only[Int.toNat_natCast,hx]
 refine wpAny_bind (wpAny_setField ho hd (by simp) (wpAny_pure ⟨x,rfl,wpAny_pure (hQ _ ?_ (Heap.SameBut.update ..))⟩))
 exact⟨_,Heap.get?_update_self _ ho (Obj.isFreed_of_fields (Obj.data_mapFields hd _)),(Obj.cls_mapFields ..).trans hc,by
  rw[Obj.data_mapFields hd];simp[rawInt]⟩
def cY{it l:Addr}{i:Nat}{items}{Q:Value->Shared->Prop}(hh:A.handled=none)
 (hit:s.heap.IsTupleIter it l i)(hl:s.heap.IsTuple l items)(hx:items[i]?=none)
 (hE:∀h' e,Heap.ExtBut it s.heap h'->(∃o,h'.get? e=some o/\o.cls=.type "StopIteration")->E (.ref e) {s with heap:=h'}) :
 wpAny (model prog w) A (Builtin.SmallTypes.nextOf (.ref it)) Q E s:=by
 obtain⟨o,ho,hc,hd⟩:=id hit
 obtain⟨ol,hol,_,nl,hdl⟩:=hl
 unfold Builtin.SmallTypes.nextOf
 refine wpAny_bind (wpAny_callSpecial?_slot (name:=Str.ofString "__next__") hit.typeIs F.slot_tuple_iterator_next
  (wpAny_call_entry F.slot_tuple_iterator_next hit.typeIs F.entry_tuple_iterator_next ?_ (F.args_tuple_iterator_next_1 _)))
 show wpAny _ _ (field (.ref it) 0 >>= _) _ _ s
 refine wpAny_bind (wpAny_field ho hd (x:=.ref l) rfl ?_)
 show wpAny _ _ (if(Value.ref l== Value.none)=true then _ else _) _ _ s
 rw[if_neg (show ¬((Value.ref l== Value.none)=true) from Bool.false_ne_true)]
 show wpAny _ _ (field (.ref it) 1 >>= _) _ _ s
 refine wpAny_bind (wpAny_field ho hd (x:=.int i 0) rfl ?_)
 show wpAny _ _ (seqItems? (.ref l) >>= _) _ _ s
 refine wpAny_bind (wpAny_seqItems hol hdl ?_)
 simp only[Int.toNat_natCast,hx]
 refine wpAny_bind (wpAny_rule (wpAny_bind (wpAny_setField ho hd (by simp) ?_)))
 show wpAny _ _ (newExc (.type "StopIteration") [] >>= _) _ _ _
 refine wpAny_bind ?_
 simp only[newExc,newTuple]
 refine wpAny_bind (wpAny_newObj_type ?_ (by size_fits))
 refine wpAny_bind (m:=firstArgMember _ _) (wpAny_of_eq (a:=Value.none) (by first|rfl|(simp only[firstArgMember];rfl)) ?_)
 refine wpAny_newObj_type ?_ (by size_fits)
 simp only[raiseNew]
 refine wpAny_bind (wpAny_handled ?_)
 first|rw[show A.in1.handled=none from hh]|rw[hh]
 refine wpAny_bind (wpAny_pure (wpAny_throw ?_))
 exact hE _ _ (((Heap.SameBut.update ..).extBut.push _).push _) ⟨_,Heap.get?_push_size _ rfl,rfl⟩
end
def lq{prog:Program}{w:World}{A:Around}(hh:A.handled=none)(it l:Addr)(hne:l≠it)(items:Array Value) :
 Draws prog w A it [it,l] items.size (λi v=>items[i]?=some v) (λi h=>h.IsTupleIter it l i/\h.IsTuple l items) where
 live:=λ_ _ st=>let ⟨o,ho,_⟩:=st.1;⟨o,ho⟩
 frame:=λ_ _ _ st hk=>⟨let ⟨o,ho,r⟩:=st.1;⟨o,hk it (by simp) o ho,r⟩,let ⟨o,ho,r⟩:=st.2;⟨o,hk l (by simp) o ho,r⟩⟩
 item:=λi s Q E hi st hQ=>by
  refine cI st.1 st.2 (x:=items[i]) (by simp[hi]) λh' hit' hs'=>?_
  exact hQ _ h' s.toks (by simp[hi]) ⟨hit',st.2.extBut hs'.extBut hne⟩ hs'
 done:=λs Q E st hE=>cY hh st.1 st.2 (by simp) hE
structure Ej(z TI TO i1 i2:Addr)(f1 f2:List Addr):Prop where
 TIz:TI≠z
 TOz:TO≠z
 i1z:i1≠z
 i2z:i2≠z
 TITO:TI≠TO
 TIi1:TI≠i1
 TIi2:TI≠i2
 TOi1:TO≠i1
 TOi2:TO≠i2
 i12:i1≠i2
 z1:z∉f1
 z2:z∉f2
 t1:TO∉f1
 t2:TO∉f2
 a1:i1∉f2
 a2:i2∉f1
section
variable{prog:Program}{w:World}{A:Around}{E:Value->Shared->Prop}{s:Shared}
def gF{z TI TO i1 i2:Addr}{f1 f2:List Addr}{n1 n2 k1 k2:Nat}{P1 P2:Nat->Value->Prop}{S1 S2:Nat->Heap->Prop}{a b:Value}{Q:Value->Shared->Prop}(D:Ej z TI TO i1 i2 f1 f2)
 (D1:Draws prog w A i1 f1 n1 P1 S1)(D2:Draws prog w A i2 f2 n2 P2 S2)
 (hz:IsZip s.heap z TI TO .none)(hTI:IsPair s.heap TI (.ref i1) (.ref i2))(hTO:IsPair s.heap TO a b)(h1:S1 k1 s.heap)(h2:S2 k2 s.heap)(hk1:k1<n1)(hk2:k2<n2)
 (hQ:∀x y h' tk,P1 k1 x→P2 k2 y→IsZip h' z TI TO (rawInt s.heap.objs.size)→IsPair h' TO x y→S1 (k1+1) h'→S2 (k2+1) h'→IsPair h' s.heap.objs.size x y→h'.objs.size=s.heap.objs.size+1→
   (∀c o,c≠z->c≠TO->c≠i1->c≠i2->s.heap.get? c=some o->h'.get? c=some o)->Q (.ref s.heap.objs.size) {s with heap:=h',toks:=tk}) :
 wpAny (model prog w) A (Builtin.«zip.__next__» ⟨[.ref z],[]⟩) (λfin s'=>∃v,fin=.done (.ret v)/\Q v s') E s:=by
 have za:∀{b},b∈f1->b≠z/\b≠TO/\b≠i2:=λhb=>⟨λe=>D.z1 (e▸hb),λe=>D.t1 (e▸hb),λe=>D.a2 (e▸hb)⟩
 have xU:∀{b},b∈f2->b≠z/\b≠TO/\b≠i1:=λhb=>⟨λe=>D.z2 (e▸hb),λe=>D.t2 (e▸hb),λe=>D.a1 (e▸hb)⟩
 obtain⟨hp,g,d,tk0,os⟩:=s
 show wpAny _ _ (field (.ref z) 2 >>= _) _ _ _
 refine wpAny_bind (wpAny_field hz rfl (x:=.bool false) rfl ?_)
 show wpAny _ _ (field (.ref z) 3 >>= _) _ _ _
 refine wpAny_bind (wpAny_field hz rfl (x:=.ref TI) rfl ?_)
 refine wpAny_bind (wpAny_seqItems hTI rfl ?_)
 show wpAny _ _ (Builtin.SmallTypes.ownedTupleIsFree (.ref z) >>= _) _ _ _
 refine wpAny_bind ?_
 unfold Builtin.SmallTypes.ownedTupleIsFree
 refine wpAny_bind (wpAny_field hz rfl (x:=.none) rfl (wpAny_pure ?_))
 simp only[if_true]
 refine wpAny_bind (wpAny_rule ?_)
 refine wpAny_bind (wpAny_field hz rfl (x:=.ref TO) rfl ?_)
 refine wpAny_bind (wpAny_setField_rec hz (by simp) λh₁ hz₁ hs₁=>?_)
 replace hs₁:Heap.SameBut z hp h₁:= hs₁
 replace hz₁:IsZip h₁ z TI TO .ellipsis:=hz₁
 refine wpAny_bind ?_
 simp only[List.zipIdx_cons,List.zipIdx_nil,List.forIn_cons,List.forIn_nil]
 refine wpAny_bind (wpAny_bind (wpAny_onRaise ?_))
 show wpAny _ _ (Builtin.SmallTypes.nextOf (.ref i1) >>= _) _ _ _
 refine wpAny_bind (D1.item k1 _ _ _ hk1 (D1.frame _ _ _ h1 λb hb o e=>hs₁.extBut b o (za hb).1 e) λx h₂ tk hPx h1₂ hs₂=>wpAny_pure ?_)
 replace hs₂:Heap.SameBut i1 h₁ h₂:= hs₂
 have hTO₂:IsPair h₂ TO a b:=hs₂.extBut _ _ D.TOi1 (hs₁.extBut _ _ D.TOz hTO)
 refine wpAny_bind (wpAny_seqItems hTO₂ rfl ?_)
 refine wpAny_bind (wpAny_updateSeq_pair hTO₂ λh₃ hTO₃ hs₃=>?_)
 replace hs₃:Heap.SameBut TO h₂ h₃:= hs₃
 replace hTO₃:IsPair h₃ TO x b:=hTO₃
 refine wpAny_bind (wpAny_letGo (wpAny_pure ?_))
 refine wpAny_bind (wpAny_bind (wpAny_onRaise ?_))
 show wpAny _ _ (Builtin.SmallTypes.nextOf (.ref i2) >>= _) _ _ _
 refine wpAny_bind (D2.item k2 _ _ _ hk2 (D2.frame _ _ _ h2 λb hb o e=>hs₃.extBut b o (xU hb).2.1 (hs₂.extBut b o (xU hb).2.2 (hs₁.extBut b o (xU hb).1 e))) λy h₄ tk' hPy h2₄ hs₄=>wpAny_pure ?_)
 replace hs₄:Heap.SameBut i2 h₃ h₄:= hs₄
 have hTO₄:IsPair h₄ TO x b:=hs₄.extBut _ _ D.TOi2 hTO₃
 refine wpAny_bind (wpAny_seqItems hTO₄ rfl ?_)
 refine wpAny_bind (wpAny_updateSeq_pair hTO₄ λh₅ hTO₅ hs₅=>?_)
 replace hs₅:Heap.SameBut TO h₄ h₅:= hs₅
 replace hTO₅:IsPair h₅ TO x y:=hTO₅
 refine wpAny_bind (wpAny_letGo (wpAny_pure (wpAny_pure ?_)))
 refine wpAny_bind (wpAny_seqItems hTO₅ rfl ?_)
 refine wpAny_bind (wpAny_newTuple ?_)
 have hsz:h₅.objs.size=hp.objs.size:=by rw[hs₅.1,hs₄.1,hs₃.1,hs₂.1,hs₁.1]
 have hz₅:IsZip h₅ z TI TO .ellipsis:=hs₅.extBut _ _ D.TOz.symm (hs₄.extBut _ _ D.i2z.symm (hs₃.extBut _ _ D.TOz.symm (hs₂.extBut _ _ D.i1z.symm hz₁)))
 have hk₅:∀c o,c≠z->c≠TO->c≠i1->c≠i2->hp.get? c=some o->h₅.get? c=some o:=λc o c1 c2 c3 c4 e=>
  hs₅.extBut _ _ c2 (hs₄.extBut _ _ c4 (hs₃.extBut _ _ c2 (hs₂.extBut _ _ c3 (hs₁.extBut _ _ c1 e))))
 have h1₅:S1 (k1+1) h₅:= D1.frame _ _ _ h1₂ λb hb o e=>hs₅.extBut b o (za hb).2.1 (hs₄.extBut b o (za hb).2.2 (hs₃.extBut b o (za hb).2.1 e))
 have h2₅:S2 (k2+1) h₅:= D2.frame _ _ _ h2₄ λb hb o e=>hs₅.extBut b o (xU hb).2.1 e
 have hzlt:z<h₅.objs.size:=Heap.lt_size hz₅
 show wpAny _ _ (Builtin.SmallTypes.ownedTupleHandOut (.ref z) (.ref h₅.objs.size) >>= _) _ _ _
 refine wpAny_bind ?_
 unfold Builtin.SmallTypes.ownedTupleHandOut
 have hz₆:IsZip (h₅.push {cls:=.type "tuple",data:=.seq #[x,y]}) z TI TO .ellipsis:=Heap.get?_push_of_some _ hz₅
 refine wpAny_bind (wpAny_setField_rec hz₆ (by simp) λh₇ hz₇ hs₇=>?_)
 replace hz₇:IsZip h₇ z TI TO (rawInt h₅.objs.size):=hz₇
 refine wpAny_setField_rec hz₇ (by simp) λh₈ hz₈ hs₈=>?_
 replace hz₈:IsZip h₈ z TI TO (rawInt h₅.objs.size):=hz₈
 have up:∀c o,c≠z->h₅.get? c=some o->h₈.get? c=some o:=λc o c1 e=>hs₈.extBut _ _ c1 (hs₇.extBut _ _ c1 (Heap.get?_push_of_some _ e))
 have hT₈:IsPair h₈ h₅.objs.size x y:=hs₈.extBut _ _ (Nat.ne_of_gt hzlt) (hs₇.extBut _ _ (Nat.ne_of_gt hzlt) (Heap.get?_push_size _ rfl))
 have hz8:h₈.objs.size=h₅.objs.size+1:=by rw[hs₈.1,hs₇.1,Heap.size_push]
 rw[hsz] at hz₈ hT₈ hz8
 refine wpAny_pure ⟨_,rfl,?_⟩
 show Q (.ref h₅.objs.size) _
 rw[hsz]
 exact hQ x y h₈ tk' hPx hPy hz₈ (up _ _ D.TOz hTO₅) (D1.frame _ _ _ h1₅ λb hb o e=>up b o (za hb).1 e) (D2.frame _ _ _ h2₅ λb hb o e=>up b o (xU hb).1 e) hT₈ hz8 λc o c1 c2 c3 c4 e=>up c o c1 (hk₅ c o c1 c2 c3 c4 e)
def iH{z TI TO i1 i2:Addr}{f1 f2:List Addr}{n1 n2 k1 k2:Nat}{P1 P2:Nat->Value->Prop}{S1 S2:Nat->Heap->Prop}{a b:Value}{Q:Fin->Shared->Prop}(D:Ej z TI TO i1 i2 f1 f2)
 (D1:Draws prog w A i1 f1 n1 P1 S1)(D2:Draws prog w A i2 f2 n2 P2 S2)
 (hz:IsZip s.heap z TI TO .none)(hTI:IsPair s.heap TI (.ref i1) (.ref i2))(hTO:IsPair s.heap TO a b)(h1:S1 k1 s.heap)(h2:S2 k2 s.heap)(hend:k1=n1\/(k1<n1/\k2=n2))
 (hE:∀h' e tk,(∀c o,c≠z->c≠TO->c≠i1->c≠i2->s.heap.get? c=some o->h'.get? c=some o)->(∃o,h'.get? e=some o/\o.cls=.type "StopIteration")->E (.ref e) {s with heap:=h',toks:=tk}) :
 wpAny (model prog w) A (Builtin.«zip.__next__» ⟨[.ref z],[]⟩) Q E s:=by
 have za:∀{b},b∈f1->b≠z/\b≠TO/\b≠i2:=λhb=>⟨λe=>D.z1 (e▸hb),λe=>D.t1 (e▸hb),λe=>D.a2 (e▸hb)⟩
 have xU:∀{b},b∈f2->b≠z/\b≠TO/\b≠i1:=λhb=>⟨λe=>D.z2 (e▸hb),λe=>D.t2 (e▸hb),λe=>D.a1 (e▸hb)⟩
 obtain⟨hp,g,d,tk0,os⟩:=s
 show wpAny _ _ (field (.ref z) 2 >>= _) _ _ _
 refine wpAny_bind (wpAny_field hz rfl (x:=.bool false) rfl ?_)
 show wpAny _ _ (field (.ref z) 3 >>= _) _ _ _
 refine wpAny_bind (wpAny_field hz rfl (x:=.ref TI) rfl ?_)
 refine wpAny_bind (wpAny_seqItems hTI rfl ?_)
 show wpAny _ _ (Builtin.SmallTypes.ownedTupleIsFree (.ref z) >>= _) _ _ _
 refine wpAny_bind ?_
 unfold Builtin.SmallTypes.ownedTupleIsFree
 refine wpAny_bind (wpAny_field hz rfl (x:=.none) rfl (wpAny_pure ?_))
 simp only[if_true]
 refine wpAny_bind (wpAny_rule ?_)
 refine wpAny_bind (wpAny_field hz rfl (x:=.ref TO) rfl ?_)
 refine wpAny_bind (wpAny_setField_rec hz (by simp) λh₁ hz₁ hs₁=>?_)
 replace hs₁:Heap.SameBut z hp h₁:= hs₁
 replace hz₁:IsZip h₁ z TI TO .ellipsis:=hz₁
 refine wpAny_bind ?_
 simp only[List.zipIdx_cons,List.zipIdx_nil,List.forIn_cons,List.forIn_nil]
 refine wpAny_bind (wpAny_bind (wpAny_onRaise ?_))
 show wpAny _ _ (Builtin.SmallTypes.nextOf (.ref i1) >>= _) _ _ _
 rcases hend with rfl|⟨hk1,rfl⟩
 ·refine wpAny_bind (D1.done _ _ _ (D1.frame _ _ _ h1 λb hb o e=>hs₁.extBut b o (za hb).1 e) λh₂ e hs₂ he=>?_)
  obtain⟨oe,hoe,hce⟩:=he
  replace hs₂:Heap.ExtBut i1 h₁ h₂:= hs₂
  have hz₂:IsZip h₂ z TI TO .ellipsis:=hs₂ _ _ D.i1z.symm hz₁
  have hez:e≠z:=λx=>by subst x;rw[hz₂] at hoe;cases hoe;simp at hce
  exact wpAny_setField_rec hz₂ (by simp) λh₃ _ hs₃=>hE h₃ e tk0 (λc o c1 _ c3 _ x=>hs₃.extBut _ _ c1 (hs₂ _ _ c3 (hs₁.extBut _ _ c1 x))) ⟨oe,hs₃.extBut _ _ hez hoe,hce⟩
 ·refine wpAny_bind (D1.item k1 _ _ _ hk1 (D1.frame _ _ _ h1 λb hb o e=>hs₁.extBut b o (za hb).1 e) λx h₂ tk hPx h1₂ hs₂=>wpAny_pure ?_)
  replace hs₂:Heap.SameBut i1 h₁ h₂:= hs₂
  have hTO₂:IsPair h₂ TO a b:=hs₂.extBut _ _ D.TOi1 (hs₁.extBut _ _ D.TOz hTO)
  refine wpAny_bind (wpAny_seqItems hTO₂ rfl ?_)
  refine wpAny_bind (wpAny_updateSeq_pair hTO₂ λh₃ hTO₃ hs₃=>?_)
  replace hs₃:Heap.SameBut TO h₂ h₃:= hs₃
  refine wpAny_bind (wpAny_letGo (wpAny_pure ?_))
  refine wpAny_bind (wpAny_bind (wpAny_onRaise ?_))
  show wpAny _ _ (Builtin.SmallTypes.nextOf (.ref i2) >>= _) _ _ _
  refine wpAny_bind (D2.done _ _ _ (D2.frame _ _ _ h2 λb hb o e=>hs₃.extBut b o (xU hb).2.1 (hs₂.extBut b o (xU hb).2.2 (hs₁.extBut b o (xU hb).1 e))) λh₄ e hs₄ he=>?_)
  obtain⟨oe,hoe,hce⟩:=he
  replace hs₄:Heap.ExtBut i2 h₃ h₄:= hs₄
  have hz₄:IsZip h₄ z TI TO .ellipsis:=hs₄ _ _ D.i2z.symm (hs₃.extBut _ _ D.TOz.symm (hs₂.extBut _ _ D.i1z.symm hz₁))
  have hez:e≠z:=λx=>by subst x;rw[hz₄] at hoe;cases hoe;simp at hce
  exact wpAny_setField_rec hz₄ (by simp) λh₅ _ hs₅=>hE h₅ e tk (λc o c1 c2 c3 c4 x=>hs₅.extBut _ _ c1 (hs₄ _ _ c4 (hs₃.extBut _ _ c2 (hs₂.extBut _ _ c3 (hs₁.extBut _ _ c1 x))))) ⟨oe,hs₅.extBut _ _ hez hoe,hce⟩
end
section
variable{prog:Program}{w:World}{A:Around}{E:Value->Shared->Prop}{s:Shared}
def cZ{z TI TO i1 i2:Addr}{f1 f2:List Addr}{n1 n2 k1 k2:Nat}{P1 P2:Nat->Value->Prop}{S1 S2:Nat->Heap->Prop}{a b:Value}{Q:Option Value->Shared->Prop}(D:Ej z TI TO i1 i2 f1 f2)
 (D1:Draws prog w A.in1 i1 f1 n1 P1 S1)(D2:Draws prog w A.in1 i2 f2 n2 P2 S2)
 (hz:IsZip s.heap z TI TO .none)(hTI:IsPair s.heap TI (.ref i1) (.ref i2))(hTO:IsPair s.heap TO a b)(h1:S1 k1 s.heap)(h2:S2 k2 s.heap)(hk1:k1<n1)(hk2:k2<n2)
 (hQ:∀x y h' tk,P1 k1 x→P2 k2 y→IsZip h' z TI TO (rawInt s.heap.objs.size)→IsPair h' TO x y→S1 (k1+1) h'→S2 (k2+1) h'→IsPair h' s.heap.objs.size x y→h'.objs.size=s.heap.objs.size+1→
   (∀c o,c≠z->c≠TO->c≠i1->c≠i2->s.heap.get? c=some o->h'.get? c=some o)->Q (some (.ref s.heap.objs.size)) {s with heap:=h',toks:=tk}) :
 wpAny (model prog w) A (pyNext (.ref z)) Q E s:=by
 have hT:s.TypeIs (.ref z) "zip" := ⟨_,hz,rfl⟩
 unfold pyNext
 exact wpAny_bind (wpAny_attempt (wpAny_callSpecial?_slot (name:=Str.ofString "__next__") hT F.slot_zip_next
  (wpAny_call_entry F.slot_zip_next hT F.entry_zip_next
    (gF D D1 D2 hz hTI hTO h1 h2 hk1 hk2 λx y h' tk a0 b0 a1 a2 a3 a4 a5 a6 a7=>wpAny_pure (hQ x y h' tk a0 b0 a1 a2 a3 a4 a5 a6 a7)) (F.args_zip_next_1 _))))
def dO{z TI TO i1 i2:Addr}{f1 f2:List Addr}{n1 n2 k1 k2:Nat}{P1 P2:Nat->Value->Prop}{S1 S2:Nat->Heap->Prop}{a b:Value}{Q:Option Value->Shared->Prop}(D:Ej z TI TO i1 i2 f1 f2)
 (D1:Draws prog w A.in1 i1 f1 n1 P1 S1)(D2:Draws prog w A.in1 i2 f2 n2 P2 S2)
 (hz:IsZip s.heap z TI TO .none)(hTI:IsPair s.heap TI (.ref i1) (.ref i2))(hTO:IsPair s.heap TO a b)(h1:S1 k1 s.heap)(h2:S2 k2 s.heap)(hend:k1=n1\/(k1<n1/\k2=n2))
 (hQ:∀h' tk,(∀c o,c≠z->c≠TO->c≠i1->c≠i2->s.heap.get? c=some o->h'.get? c=some o)->Q none {s with heap:=h',toks:=tk}):wpAny (model prog w) A (pyNext (.ref z)) Q E s:=by
 have hT:s.TypeIs (.ref z) "zip" := ⟨_,hz,rfl⟩
 unfold pyNext
 refine wpAny_bind (wpAny_attempt (wpAny_callSpecial?_slot (name:=Str.ofString "__next__") hT F.slot_zip_next
  (wpAny_call_entry F.slot_zip_next hT F.entry_zip_next (iH D D1 D2 hz hTI hTO h1 h2 hend λh' e tk hk he=>?_) (F.args_zip_next_1 _))))
 obtain⟨o,ho,hc⟩:=he
 refine wpAny_bind (wpAny_isInstance (T:= "StopIteration") (b:=true) ⟨o,ho,hc⟩ isSubtype_stop ?_)
 exact wpAny_pure (hQ _ _ hk)
end
def gW(K:PySem.W.Frag)(b:Bool)(H:Hp)(a:Addr)(xs:List V):Prop:=if b=true then Ų K H a xs else ń K H a xs
def aM(b:Bool)(h:Heap)(it l:Addr)(i:Nat):Prop:=if b=true then h.IsTupleIter it l i else h.IsListIter it l i
def qM(b:Bool)(h:Heap)(l:Addr)(its:Array Value):Prop:=if b=true then h.IsTuple l its else h.IsList l its
def Ek(b:Bool):String:=if b=true then "tuple_iterator" else "list_iterator"
def eY{prog:Program}{w:World}{A:Around}(b:Bool)(hh:A.handled=none)(it l:Addr)(hne:l≠it)(items:Array Value) :
 Draws prog w A it [it,l] items.size (λi v=>items[i]?=some v) (λi h=>aM b h it l i/\qM b h l items):=by
 cases b with
 |true=>exact lq hh it l hne items
 |false=>exact Draws.list hh it l hne items
def aM.ex{b:Bool}{h:Heap}{it l:Addr}{i:Nat}(x:aM b h it l i):∃o,h.get? it=some o/\o.cls=.type (Ek b)/\o.data=.fields #[.ref l,.int i 0]:=by
 cases b with
 |true=>exact x
 |false=>exact x
def aM.of{b:Bool}{h:Heap}{it l:Addr}{i:Nat}{o:Obj}(h1:h.get? it=some o)(h2:o.cls=.type (Ek b))(h3:o.data=.fields #[.ref l,.int i 0]):aM b h it l i:=by
 cases b with
 |true=>exact⟨o,h1,h2,h3⟩
 |false=>exact⟨o,h1,h2,h3⟩
def aM.keep{b:Bool}{h h':Heap}{it l:Addr}{i:Nat}(x:aM b h it l i)(k:∀o,h.get? it=some o->h'.get? it=some o):aM b h' it l i:=by
 obtain⟨o,h1,h2,h3⟩:=x.ex
 exact .of (k o h1) h2 h3
def xV(K:PySem.W.Frag)(b:Bool)(H:Hp)(l:Addr)(i:Nat)(xs:List V):Prop:=xs.length<=i/\∀j,j<i->∃ys y,gW K b H l ys/\ys[j]?=some y
def OD(K:PySem.W.Frag)(b1 b2:Bool)(l1 l2:Addr):It:=
 ⟨λi H=>(∃xs x,gW K b1 H l1 xs/\xs[i]?=some x)/\∃ys y,gW K b2 H l2 ys/\ys[i]?=some y,
  λi H z H'=>∃x y T,(∀xs,gW K b1 H l1 xs->xs[i]?=some x)/\(∀ys,gW K b2 H l2 ys->ys[i]?=some y)/\H T=none/\z=.ref T/\H'=upd H T (.tup [x,y]),
  λi H=>(∃xs,gW K b1 H l1 xs)/\(∃ys,gW K b2 H l2 ys)/\((∃xs,gW K b1 H l1 xs/\xV K b1 H l1 i xs)\/((∃xs x,gW K b1 H l1 xs/\xs[i]?=some x)/\∃ys,gW K b2 H l2 ys/\xV K b2 H l2 i ys))⟩
section
variable{X:Cx}{pins:List (Addr×Obj)}{σ:L2.St}{H:Hp}{s:Shared}
def jh{b:Bool}{a:Addr}{xs:List V}(I:Inv X pins σ H s)(h:gW X.K b H a xs):∃its:List Value,Vals xs its/\qM b s.heap a its.toArray/\xs.length<=sizeLine:=by
 cases b with
 |true=>
  obtain⟨its,r,p,z⟩:=I.tuple h
  exact⟨its,r,p,z⟩
 |false=>
  obtain⟨its,r,p,z⟩:=I.list h
  exact⟨its,r,p.isList,z⟩
def ji{b:Bool}{a:Addr}{xs ys:List V}(I:Inv X pins σ H s)(h:gW X.K b H a xs)(h':gW X.K b H a ys):xs=ys:=by
 cases b with
 |true=>exact I.iM h h'
 |false=>exact I.fC h h'
def zc{b:Bool}{l:Addr}{i:Nat}{xs:List V}(I:Inv X pins σ H s)(h:gW X.K b H l xs)(q:xV X.K b H l i xs):xs.length=i:=by
 obtain⟨h1,h2⟩:=q
 refine Nat.le_antisymm h1 ?_
 cases i with
 |zero=>omega
 |succ i=>
  obtain⟨ys,y,e1,e2⟩:=h2 i (by omega)
  rw[ji I e1 h] at e2
  have:=(List.getElem?_eq_some_iff.mp e2).1
  omega
def pK{bb:Bool}{a b:Addr}{xs:List V}(I:Inv X pins σ H s)(f:ř X pins H b)(h:gW X.K bb H a xs):a≠b:=by
 intro e
 subst e
 have hk:∀o,X.K.lookup a=some o->False:=λo e=>by
  have hb:=I.ok.mod.Ea a o e
  rcases f.2.2.2.1 with z|z
  ·exact I.ok.qd a o hb z
  ·exact absurd (Nat.lt_of_lt_of_le (Heap.lt_size (I.ok.bs a o hb).1) z) (Nat.lt_irrefl _)
 have hr:∀u,Rd H a u->False:=λu r=>by
  rcases r with r|⟨o,r⟩<;>(rw[f.1] at r;cases r)
 cases bb with
 |true=>
  have h':Ų X.K H a xs:=h
  rcases h' with q|⟨o,_,_,q,_⟩
  ·exact hr _ q
  ·exact hk o q
 |false=>
  have h':ń X.K H a xs:=h
  rcases h' with q|⟨o,_,_,q,_⟩
  ·exact hr _ q
  ·exact hk o q
end
def uq{P:Program}{w:World}{K:PySem.W.Frag}{elts:List Expr}{k:Nat}{pos:Pos}(b1 b2:Bool)(l1 l2 z TI TO i1 i2:Addr)(nd:[z,TI,TO,i1,i2].Nodup) :
 Turn P w K (.Tuple elts k pos) (OD K b1 b2 l1 l2) [z,TI,TO,i1,i2] z (λi h=>IsZip h z TI TO .none/\IsPair h TI (.ref i1) (.ref i2)/\(∃a b,IsPair h TO a b)/\aM b1 h i1 l1 i/\aM b2 h i2 l2 i) where
 mem:=by simp
 obj:=λi h st b hb=>by
  obtain⟨hz,hTI,⟨x,y,hTO⟩,h1,h2⟩:=st
  simp only[List.mem_cons,List.not_mem_nil,or_false] at hb
  rcases hb with rfl|rfl|rfl|rfl|rfl
  ·exact⟨_,hz,λv z=>by have z':Data.fields _=Data.cell v:=z;cases z'⟩
  ·exact⟨_,hTI,λv z=>by have z':Data.seq _ _=Data.cell v:=z;cases z'⟩
  ·exact⟨_,hTO,λv z=>by have z':Data.seq _ _=Data.cell v:=z;cases z'⟩
  ·obtain⟨o,e1,c,d⟩:=h1.ex
   exact⟨o,e1,λv z=>by rw[d] at z;cases z⟩
  ·obtain⟨o,e1,c,d⟩:=h2.ex
   exact⟨o,e1,λv z=>by rw[d] at z;cases z⟩
 keep:=λi h h' st k=>by
  obtain⟨hz,hTI,⟨x,y,hTO⟩,h1,h2⟩:=st
  exact⟨k z (by simp) _ hz,k TI (by simp) _ hTI,⟨x,y,k TO (by simp) _ hTO⟩,h1.keep λo q=>k i1 (by simp) o q,h2.keep λo q=>k i2 (by simp) o q⟩
 item:=by
  intro X hP hw hK hc i pins s σ H E I hf st hg
  subst hP hw hK
  obtain⟨hz,hTI,⟨a,b,hTO⟩,h1,h2⟩:=st
  obtain⟨⟨xs,x,hq1,hx⟩,ys,y,hq2,hy⟩:=hg
  obtain⟨nF,Kf,p1,_⟩:=jh I hq1
  obtain⟨its2,Kg,p2,_⟩:=jh I hq2
  obtain⟨u1,hu1,OJ⟩:=Kf.get hx
  obtain⟨u2,hu2,O_⟩:=Kg.get hy
  have ne1:∀b∈[z,TI,TO,i1,i2],l1≠b:=λb hb=>pK I (hf b hb) hq1
  have ne2:∀b∈[z,TI,TO,i1,i2],l2≠b:=λb hb=>pK I (hf b hb) hq2
  have hh:X.A.in1.handled=none:=I.ok.hd hc
  simp only[List.nodup_cons,List.mem_cons,List.not_mem_nil,or_false,not_or,List.nodup_nil,not_false_eq_true,and_true] at nd
  obtain⟨⟨n1,n2,n3,n4⟩,⟨n5,n6,n7⟩,⟨n8,n9⟩,n10⟩:=nd
  have D:Ej z TI TO i1 i2 [i1,l1] [i2,l2]:=by
   refine⟨Ne.symm n1,Ne.symm n2,Ne.symm n3,Ne.symm n4,n5,n6,n7,n8,n9,n10,?_,?_,?_,?_,?_,?_⟩<;>simp only[List.mem_cons,List.not_mem_nil,or_false,not_or]
   ·exact⟨n3,(ne1 z (by simp)).symm⟩
   ·exact⟨n4,(ne2 z (by simp)).symm⟩
   ·exact⟨n8,(ne1 TO (by simp)).symm⟩
   ·exact⟨n9,(ne2 TO (by simp)).symm⟩
   ·exact⟨n10,(ne2 i1 (by simp)).symm⟩
   ·exact⟨Ne.symm n10,(ne1 i2 (by simp)).symm⟩
  have Vw:i<nF.toArray.size:=by
   rw[List.size_toArray]
   exact(List.getElem?_eq_some_iff.mp hu1).1
  have su:i<its2.toArray.size:=by
   rw[List.size_toArray]
   exact(List.getElem?_eq_some_iff.mp hu2).1
  have hlt:∀b∈[z,TI,TO,i1,i2],b<s.heap.objs.size:=λb hb=>by
   simp only[List.mem_cons,List.not_mem_nil,or_false] at hb
   rcases hb with rfl|rfl|rfl|rfl|rfl
   ·exact Heap.lt_size hz
   ·exact Heap.lt_size hTI
   ·exact Heap.lt_size hTO
   ·obtain⟨o,e1,_⟩:=h1.ex;exact Heap.lt_size e1
   ·obtain⟨o,e1,_⟩:=h2.ex;exact Heap.lt_size e1
  refine cZ D (eY (A:=X.A.in1) b1 hh i1 l1 (ne1 i1 (by simp)) nF.toArray) (eY (A:=X.A.in1) b2 hh i2 l2 (ne2 i2 (by simp)) its2.toArray) hz hTI hTO ⟨h1,p1⟩ ⟨h2,p2⟩ Vw su λx' y' h' tk hPx hPy hz' Pa s1 s2 hT hsz hk=>?_
  have ex:x'=u1:=by
   have:nF.toArray[i]?=some x':=hPx
   rw[show nF.toArray[i]?=some u1 by simpa using hu1] at this
   exact(Option.some.inj this).symm
  have ey:y'=u2:=by
   have:its2.toArray[i]?=some y':=hPy
   rw[show its2.toArray[i]?=some u2 by simpa using hu2] at this
   exact(Option.some.inj this).symm
  subst ex ey
  refine⟨.ref s.heap.objs.size,rfl,wpAny_letOwnedTupleGo_zip hz' λh'' hz'' hs'=>?_⟩
  have hs2:Heap.SameBut z h' h'':=hs'
  have I2:=gD (fp:=[z,TI,TO,i1,i2]) (h':=h'') (t':=tk) I OJ O_ ⟨_,(hs2.2 _ (Nat.ne_of_gt (hlt z (by simp)))).trans hT,rfl⟩ (λb o hb q=>by
   have hne:∀c∈[z,TI,TO,i1,i2],b≠c:=λc hc e=>hb (e▸hc)
   exact(hs2.2 b (hne z (by simp))).trans (hk b o (hne z (by simp)) (hne TO (by simp)) (hne i1 (by simp)) (hne i2 (by simp)) q)) hf hlt
  refine⟨.ref s.heap.objs.size,_,I2,rfl,⟨x,y,s.heap.objs.size,λzs hzs=>by rw[ji I hzs hq1];exact hx,λzs hzs=>by rw[ji I hzs hq2];exact hy,I.fresh,rfl,rfl⟩,
   ⟨hz'',(hs2.2 TI (Ne.symm n1)).trans (hk TI _ (Ne.symm n1) n5 n6 n7 hTI),⟨_,_,(hs2.2 TO (Ne.symm n2)).trans Pa⟩,s1.1.keep λo q=>(hs2.2 i1 (Ne.symm n3)).trans q,s2.1.keep λo q=>(hs2.2 i2 (Ne.symm n4)).trans q⟩,λb hb=>?_⟩
  rw[ć (Nat.ne_of_lt (hlt b hb))];exact(hf b hb).1
 done:=by
  intro X hP hw hK hc i pins s σ H E I hf st hg
  subst hP hw hK
  obtain⟨hz,hTI,⟨a,b,hTO⟩,h1,h2⟩:=st
  obtain⟨⟨xs,hq1⟩,⟨ys,hq2⟩,hend'⟩:=hg
  have hend:xs.length=i\/(i<xs.length/\ys.length=i):=by
   rcases hend' with⟨xs',q1,q2⟩|⟨⟨xs',x,q1,q2⟩,ys',q3,q4⟩
   ·left;rw[ji I hq1 q1];exact zc I q1 q2
   ·right
    rw[ji I hq1 q1,ji I hq2 q3]
    exact⟨(List.getElem?_eq_some_iff.mp q2).1,zc I q3 q4⟩
  obtain⟨nF,Kf,p1,_⟩:=jh I hq1
  obtain⟨its2,Kg,p2,_⟩:=jh I hq2
  have hl1:=Kf.length
  have hl2:=Kg.length
  have ne1:∀b∈[z,TI,TO,i1,i2],l1≠b:=λb hb=>pK I (hf b hb) hq1
  have ne2:∀b∈[z,TI,TO,i1,i2],l2≠b:=λb hb=>pK I (hf b hb) hq2
  have hh:X.A.in1.handled=none:=I.ok.hd hc
  simp only[List.nodup_cons,List.mem_cons,List.not_mem_nil,or_false,not_or,List.nodup_nil,not_false_eq_true,and_true] at nd
  obtain⟨⟨n1,n2,n3,n4⟩,⟨n5,n6,n7⟩,⟨n8,n9⟩,n10⟩:=nd
  have D:Ej z TI TO i1 i2 [i1,l1] [i2,l2]:=by
   refine⟨Ne.symm n1,Ne.symm n2,Ne.symm n3,Ne.symm n4,n5,n6,n7,n8,n9,n10,?_,?_,?_,?_,?_,?_⟩<;>simp only[List.mem_cons,List.not_mem_nil,or_false,not_or]
   ·exact⟨n3,(ne1 z (by simp)).symm⟩
   ·exact⟨n4,(ne2 z (by simp)).symm⟩
   ·exact⟨n8,(ne1 TO (by simp)).symm⟩
   ·exact⟨n9,(ne2 TO (by simp)).symm⟩
   ·exact⟨n10,(ne2 i1 (by simp)).symm⟩
   ·exact⟨Ne.symm n10,(ne1 i2 (by simp)).symm⟩
  refine dO D (eY (A:=X.A.in1) b1 hh i1 l1 (ne1 i1 (by simp)) nF.toArray) (eY (A:=X.A.in1) b2 hh i2 l2 (ne2 i2 (by simp)) its2.toArray) hz hTI hTO ⟨h1,p1⟩ ⟨h2,p2⟩ ?_ λh' tk hk=>⟨rfl,turns (fp:=[z,TI,TO,i1,i2]) (t':=tk) I (λb o hb q=>?_) hf⟩
  ·rw[List.size_toArray,List.size_toArray]
   omega
  ·have hne:∀c∈[z,TI,TO,i1,i2],b≠c:=λc hc e=>hb (e▸hc)
   exact hk b o (hne z (by simp)) (hne TO (by simp)) (hne i1 (by simp)) (hne i2 (by simp)) q
 self:=λ_ _ _ _ _ st h=>wpAny_pyIter_zip st.1 h
section
abbrev Kh(b:Bool)(h:Heap)(l1:Addr):Heap:=h.push {cls:=.type (Ek b),data:=.fields #[.ref l1,.int 0 0]}
abbrev Kl(b b':Bool)(h:Heap)(l1 l2:Addr):Heap:=(Kh b h l1).push {cls:=.type (Ek b'),data:=.fields #[.ref l2,.int 0 0]}
abbrev Km(b b':Bool)(h:Heap)(l1 l2:Addr):Heap:=(Kl b b' h l1 l2).push {cls:=.type "tuple",data:=.seq #[.ref h.objs.size,.ref (Kh b h l1).objs.size]}
abbrev Ko(b b':Bool)(h:Heap)(l1 l2:Addr):Heap:=(Km b b' h l1 l2).push {cls:=.type "tuple",data:=.seq #[.none,.none]}
abbrev Cm(b b':Bool)(h:Heap)(l1 l2:Addr):Heap:=(Ko b b' h l1 l2).push {cls:=.type "zip",data:=.fields #[.none,.bool false,.bool false,.ref (Kl b b' h l1 l2).objs.size,.ref (Km b b' h l1 l2).objs.size]}
def lu{prog:Program}{w:World}{A:Around}{E:Value->Shared->Prop}{s:Shared}{b:Bool}{l:Addr}{its:Array Value}{Q:Value->Shared->Prop}(hl:qM b s.heap l its)
 (hQ:Q (.ref s.heap.objs.size) {s with heap:=s.heap.push {cls:=.type (Ek b),data:=.fields #[.ref l,.int 0 0]}}):wpAny (model prog w) A (pyIter (.ref l)) Q E s:=by
 cases b with
 |true=>exact wpAny_pyIter_tuple hl hQ
 |false=>exact wpAny_pyIter_list hl hQ
theorem qM.push{b:Bool}{h:Heap}{l:Addr}{its:Array Value}(x:qM b h l its)(o:Obj):qM b (h.push o) l its:=by
 cases b with
 |true=>exact Heap.IsTuple.push x o
 |false=>exact Heap.IsList.push x o
def lA(b b':Bool)(l1 l2:Addr)(xs ys:Array Value) :
 Meets (Builtin.«zip.__new__» ⟨[.type "zip",.ref l1,.ref l2],[]⟩) (λ_ R s=>qM b s.heap l1 xs/\qM b' s.heap l2 ys/\
  R (.ok (.ret (.ref (Ko b b' s.heap l1 l2).objs.size))) {s with heap:=Cm b b' s.heap l1 l2}):=
 .of_wp fun prog w A R s h=>by
   obtain⟨hp,g,d,tk,os⟩:=s;obtain⟨hl1,hl2,h⟩:=h
   have hsub:=sub_zip
   have hL1:qM b (Shared.heap ⟨hp,g,d,tk,os⟩) l1 xs:=hl1
   have hL2:qM b' (Shared.heap ⟨hp.push {cls:=.type (Ek b),data:=.fields #[.ref l1,.int 0 0]},g,d,tk,os⟩) l2 ys:=qM.push hl2 _
   wp_walk using lu hL1,lu hL2
   exact⟨_,rfl,h⟩
variable{prog:Program}{w:World}{A:Around}{E:Value->Shared->Prop}{s:Shared}
def nG{b b':Bool}{l1 l2:Addr}{xs ys:Array Value}{Q:Value->Shared->Prop}(hl1:qM b s.heap l1 xs)(hl2:qM b' s.heap l2 ys)
 (h:∀h',IsZip h' (s.heap.objs.size+4) (s.heap.objs.size+2) (s.heap.objs.size+3) .none→IsPair h' (s.heap.objs.size+2) (.ref s.heap.objs.size) (.ref (s.heap.objs.size+1))→
   IsPair h' (s.heap.objs.size+3) .none .none->aM b h' s.heap.objs.size l1 0->aM b' h' (s.heap.objs.size+1) l2 0->h'.objs.size=s.heap.objs.size+5->
   (∀c o,s.heap.get? c=some o->h'.get? c=some o)->Q (.ref (s.heap.objs.size+4)) {s with heap:=h'}) :
 wpAny (model prog w) A (call (.type "zip") [.ref l1,.ref l2]) Q E s:=by
 refine callType_new F.called_zip (by decide) (F.typeCall_zip_2 _ _) (F.newCall_zip_2 _ _) (λobj=>F.args_object_init_3 obj _ _) F.entry_zip_new
  (lA b b' l1 l2 xs ys) ⟨hl1,hl2,?_⟩
 have z1:(Kh b s.heap l1).objs.size=s.heap.objs.size+1:=Heap.size_push ..
 have z2:(Kl b b' s.heap l1 l2).objs.size=s.heap.objs.size+2:=by rw[Heap.size_push,z1]
 have z3:(Km b b' s.heap l1 l2).objs.size=s.heap.objs.size+3:=by rw[Heap.size_push,z2]
 have z4:(Ko b b' s.heap l1 l2).objs.size=s.heap.objs.size+4:=by rw[Heap.size_push,z3]
 have z5:(Cm b b' s.heap l1 l2).objs.size=s.heap.objs.size+5:=by rw[Heap.size_push,z4]
 have g5:(Cm b b' s.heap l1 l2).get? (Ko b b' s.heap l1 l2).objs.size=some _:=Heap.get?_push_size _ rfl
 have g4:(Cm b b' s.heap l1 l2).get? (Km b b' s.heap l1 l2).objs.size=some _:=Heap.get?_push_of_some _ (Heap.get?_push_size _ rfl)
 have g3:(Cm b b' s.heap l1 l2).get? (Kl b b' s.heap l1 l2).objs.size=some _:=Heap.get?_push_of_some _ (Heap.get?_push_of_some _ (Heap.get?_push_size _ rfl))
 have g2:(Cm b b' s.heap l1 l2).get? (Kh b s.heap l1).objs.size=some _:=Heap.get?_push_of_some _ (Heap.get?_push_of_some _ (Heap.get?_push_of_some _ (Heap.get?_push_size _ rfl)))
 have g1:(Cm b b' s.heap l1 l2).get? s.heap.objs.size=some _:=Heap.get?_push_of_some _ (Heap.get?_push_of_some _ (Heap.get?_push_of_some _ (Heap.get?_push_of_some _ (Heap.get?_push_size _ rfl))))
 show _/\_
 rw[z2,z3,z4] at g5
 rw[z1,z2] at g3
 rw[z3] at g4
 rw[z1] at g2
 rw[z4]
 exact⟨⟨_,g5,rfl⟩,h _ g5 g3 g4 (.of g1 rfl rfl) (.of g2 rfl rfl) z5 λc o x=>
  Heap.get?_push_of_some _ (Heap.get?_push_of_some _ (Heap.get?_push_of_some _ (Heap.get?_push_of_some _ (Heap.get?_push_of_some _ x))))⟩
end
section
variable{X:Cx}{elts:List Expr}{k:Nat}{tp:Pos}
def Pb(K:PySem.W.Frag)(ta:TA):TI:=λσ H R=>ta σ H λvs H1=>∃b1 b2 l1 l2,vs=[.ref l1,.ref l2]/\(∃xs,gW K b1 H1 l1 xs)/\(∃xs,gW K b2 H1 l2 xs)/\R (OD K b1 b2 l1 l2) H1
def Cp{e1 e2:Expr}{ta:TA}{p pos:Pos}(hg:Gl X "zip")(hm:X.mg "zip" =none)(ha:PA X [e1,e2] ta)(hs:starEach [e1,e2] X.env=[(false,eval e1 X.env),(false,eval e2 X.env)]:=by exact sJ rfl rfl)(hs2:starEach [e2] X.env=[(false,eval e2 X.env)]:=by exact ŏ rfl) :
 PI X (.Tuple elts k tp) (.Call (.Name "zip" p) [e1,e2] [] pos) (Pb X.K ta):=by
 intro pins s σ H R I h
 refine Call_ (bM I hg hm boot_zip (PyProof.Rows.callWith_type1 (Ļ (ha pos pins s σ H _ I h) λus s1 ⟨vs,H1,I1,r1,q1⟩=>?_) (by rw[hs,hs2]) (by rw[hs2];rfl)))
 obtain⟨b1,b2,l1,l2,e,⟨xs,hq1⟩,⟨ys,hq2⟩,q⟩:=q1
 subst e
 obtain⟨u1,u2,rfl,OJ,O_⟩:=vals2 r1
 cases OJ
 cases O_
 obtain⟨nF,Kf,p1,_⟩:=jh I1 hq1
 obtain⟨its2,Kg,p2,_⟩:=jh I1 hq2
 refine nG p1 p2 λh' hz hTI hTO h1 h2 hsz hk=>?_
 have I2:Inv X pins σ H1 {s1 with heap:=h'}:=I1.kept (t':=s1.toks) hk
 refine wpAny_pyIter_zip (s:={s1 with heap:=h'}) hz ⟨s1.heap.objs.size+4,[s1.heap.objs.size+4,s1.heap.objs.size+2,s1.heap.objs.size+3,s1.heap.objs.size,s1.heap.objs.size+1],_,_,H1,rfl,I2,uq b1 b2 l1 l2 _ _ _ _ _ (by simp),⟨hz,hTI,⟨_,_,hTO⟩,h1,h2⟩,λb hb=>?_,q⟩
 have hb':s1.heap.objs.size<=b:=by
  simp only[List.mem_cons,List.not_mem_nil,or_false] at hb
  rcases hb with rfl|rfl|rfl|rfl|rfl<;>omega
 exact I1.g_ hb' (I1.hok.fresh hb')
end
def dR:List PV->List PV->List PV
 |p::ps,q::qs=>.tup [p,q]::dR ps qs
 |_,_=>[]
theorem lB:∀(ps qs:List PV) (i:Nat) (r:PV),(dR ps qs)[i]?=some r->∃p q,ps[i]?=some p/\qs[i]?=some q/\r=.tup [p,q]
 | [],_,_,_,h=>by simp[dR] at h
 |_::_,[],_,_,h=>by simp[dR] at h
 |p::ps,q::qs,0,r,h=>by
  have h':some (PV.tup [p,q])=some r:=h
  cases h'
  exact⟨p,q,rfl,rfl,rfl⟩
 |p::ps,q::qs,i+1,r,h=>lB ps qs i r h
theorem lC:∀(ps qs:List PV),(dR ps qs).length=min ps.length qs.length
 | [],_=>by simp[dR]
 |_::_,[]=>by simp[dR]
 |_::ps,_::qs=>by
  show(dR ps qs).length+1=_
  rw[lC ps qs,List.length_cons,List.length_cons]
  omega
def xW(m1 m2:M (List PV)):M (List PV):=λρ=>(m1 ρ).bind λps ρ1=>(m2 ρ1).bind λqs ρ2=>.ok (dR ps qs) ρ2
def GX(K:PySem.W.Frag)(b:Bool)(a:Addr):It:=if b=true then Ew K a else yE K a
def gG{K:KK}{L F:Hp}{b:Bool}{a:Addr}{ps:List PV}(h:Ż K L F (GX K.K b a) ps){c:Ctx}{F2 H:Hp}{σ:L2.St}{ρ:ĥ}(rel:Rel K c F2 H σ ρ)(sF:Same F F2)(sL:Same L H)(i:Nat)(p:PV)(hp:ps[i]?=some p) :
 (∃xs x,gW K.K b H a xs/\xs[i]?=some x)/\∀x,(∀xs,gW K.K b H a xs->xs[i]?=some x)->∃F3,Rel K c F3 H σ ρ/\Same F2 F3/\Rep K F3 p x:=by
 obtain⟨g,_⟩:=h c i F2 H σ ρ rel sF sL
 obtain⟨g1,g2⟩:=g p hp
 cases b with
 |true=>exact⟨g1,λx hx=>let ⟨F3,r3,s3,_,rp⟩:=g2 x H ⟨rfl,hx⟩;⟨F3,r3,s3,rp⟩⟩
 |false=>exact⟨g1,λx hx=>let ⟨F3,r3,s3,_,rp⟩:=g2 x H ⟨rfl,hx⟩;⟨F3,r3,s3,rp⟩⟩
def jU{K:KK}{L F:Hp}{b:Bool}{a:Addr}{ps:List PV}(h:Ż K L F (GX K.K b a) ps){c:Ctx}{F2 H:Hp}{σ:L2.St}{ρ:ĥ}(rel:Rel K c F2 H σ ρ)(sF:Same F F2)(sL:Same L H) :
 ∃xs,gW K.K b H a xs/\xV K.K b H a ps.length xs:=by
 obtain⟨_,st⟩:=h c ps.length F2 H σ ρ rel sF sL
 have st':∃xs,gW K.K b H a xs/\xs.length<=ps.length:=by
  cases b with
  |true=>exact st rfl
  |false=>exact st rfl
 obtain⟨xs,h1,h2⟩:=st'
 exact⟨xs,h1,h2,λj hj=>(gG h rel sF sL j _ (List.getElem?_eq_getElem hj)).1⟩
def ur{K:KK}{L F:Hp}{b1 b2:Bool}{a1 a2:Addr}{ps qs:List PV}(h1:Ż K L F (GX K.K b1 a1) ps)(h2:Ż K L F (GX K.K b2 a2) qs):Ż K L F (OD K.K b1 b2 a1 a2) (dR ps qs):=by
 intro c i F2 H σ ρ rel sF sL
 refine⟨λr hr=>?_,λhi=>?_⟩
 ·obtain⟨p,q,hp,hq,rfl⟩:=lB ps qs i r hr
  obtain⟨g1,y1⟩:=gG h1 rel sF sL i p hp
  refine⟨⟨g1,(gG h2 rel sF sL i q hq).1⟩,λz H' ⟨x,y,T,e1,e2,hT,ez,eH⟩=>?_⟩
  subst ez eH
  obtain⟨F3,iC,s3,rp⟩:=y1 x e1
  obtain⟨F4,kJ,s4,rq⟩:=(gG h2 iC (sF.trans s3) sL i q hq).2 y e2
  obtain⟨r1,r2⟩:=pI kJ hT (Rep.same s4 p x rp) rq
  exact⟨_,r1,(s3.trans s4).trans (Same.upd (kJ.sub.free hT)),Same.upd hT,r2⟩
 ·rw[lC] at hi
  obtain⟨xs,x1,x2⟩:=jU h1 rel sF sL
  obtain⟨ys,y1,y2⟩:=jU h2 rel sF sL
  refine⟨⟨xs,x1⟩,⟨ys,y1⟩,?_⟩
  by_cases hl:ps.length<=qs.length
  ·left
   have e:i=ps.length:=by omega
   exact⟨xs,x1,e▸x2⟩
  ·right
   have e:i=qs.length:=by omega
   exact⟨(gG h1 rel sF sL i _ (List.getElem?_eq_getElem (by omega))).1,ys,y1,e▸y2⟩
def GZ{K:KK}{c:Ctx}{σ:L2.St}{ρ:ĥ}{F H:Hp}{ps:List PV}{v:V}(h:Kc K c σ ρ F H ps v):∃b a,v=.ref a/\(∃xs,gW K.K b H a xs)/\Ż K c.L F (GX K.K b a) ps:=by
 rcases h with⟨a,e1,e2,e3⟩|⟨a,e1,e2,e3⟩
 ·exact⟨false,a,e1,e2,e3⟩
 ·exact⟨true,a,e1,e2,e3⟩
section
variable{X:Cx}{cm:String->Addr}{E:L2.St->XK}{e e2:Expr}
def G_{elts:List Expr}{k:Nat}{tp p pos:Pos}{m1 m2:M (List PV)}(hg:Gl X "zip")(hm:X.mg "zip" =none)(h1:PE X e (tG (kk X cm) E (Kc (kk X cm)) m1))(h2:PE X e2 (tG (kk X cm) E (Kc (kk X cm)) m2))
 (hs:starEach [e,e2] X.env=[(false,eval e X.env),(false,eval e2 X.env)]:=by exact sJ rfl rfl)(hs2:starEach [e2] X.env=[(false,eval e2 X.env)]:=by exact ŏ rfl) :
 PI X (.Tuple elts k tp) (.Call (.Name "zip" p) [e,e2] [] pos) (tI (kk X cm) E (xW m1 m2)):=λpins s σ H R I h=>Cp hg hm (ŗ h1 (ŗ h2 bN hs2) (by rw[hs,hs2])) hs hs2 pins s σ H R I (by
 obtain⟨c,F,ρ,rel,h⟩:=h
 refine⟨c,F,ρ,rel,ũ.bind h λps ρ1 v F1 H1 Ĉ s1 s2 q h1=>⟨c,F1,ρ1,Ĉ,ũ.bind h1 λqs ρ2 u F2 H2 ė s3 s4 q2 h2=>?_⟩⟩
 obtain⟨b1,a1,e1,_,e3⟩:=GZ q
 obtain⟨b2,a2,f1,f2,f3⟩:=GZ q2
 subst e1 f1
 obtain⟨xs,x1,_⟩:=jU (e3.mono s3) ė (Same.refl _) λb u e=>(ė.lent b u e).1
 exact⟨b1,b2,a1,a2,rfl,⟨xs,x1⟩,f2,h2 _ F2 H2 ė (Same.refl _) (Same.refl _) (ur (e3.mono s3) f3)⟩)
end
end P
namespace P
open PySem PySem.Spec PyProof.Rows L2 M2 M3 M4
section
variable{X:Cx}
end
end P
namespace P
open PySem PySem.Spec PyProof.Rows L2 M2 M3 M4
def xX{x:Int}{n:Nat}(h1: -(2 ^ n:Int)<x)(h2:x<2 ^ n):bits x<=n:=by
 refine intBits_le_iff.mpr ?_
 have e:((2 ^ n:Nat):Int)=(2:Int) ^ n:=by simp
 have:((x.natAbs:Nat):Int)<((2 ^ n:Nat):Int):=by rw[e];omega
 omega
def Hf{x y:Int}(h:y≠0)(h1: -18446744073709551616<y)(h2:y<18446744073709551616):gb x y=true:=GJ h (Nat.le_trans (xX (n:=64) (by omega) (by omega)) (by decide))
@[simp] theorem Kp{x:Int}{n:Nat}(h:n≠0)(h2:n<18446744073709551616):gb x (no_index (OfNat.ofNat n):Int)=true:=by
  have e:(no_index (OfNat.ofNat n):Int)=(n:Int):=rfl
  rw[e]
  exact Hf (by omega) (by omega) (by omega)
@[simp] theorem Hg{x:Int}{n:Nat}(h:n<18446744073709551616):š x (no_index (OfNat.ofNat n):Int)=true:=by
  have e:(no_index (OfNat.ofNat n):Int)=(n:Int):=rfl
  rw[e]
  exact mul_r (by omega) (by omega)
@[simp] theorem Hh{x:Int}{n:Nat}(h:n<18446744073709551616):š (no_index (OfNat.ofNat n):Int) x=true:=by
  have e:(no_index (OfNat.ofNat n):Int)=(n:Int):=rfl
  rw[e]
  exact GF (by omega) (by omega)
@[simp] theorem Kq{m n:Nat}(h:m<18446744073709551616)(h2:n≤1000000):jc (no_index (OfNat.ofNat m):Int) (no_index (OfNat.ofNat n):Int)=true:=by
  have e:(no_index (OfNat.ofNat m):Int)=(m:Int):=rfl
  have e2:(no_index (OfNat.ofNat n):Int)=(n:Int):=rfl
  rw[e,e2]
  unfold jc
  simp
  omega
@[simp] theorem Hi{x:Int}{n:Nat}:x.fdiv (no_index (OfNat.ofNat n):Int)=x / (no_index (OfNat.ofNat n):Int):=Int.fdiv_eq_ediv_of_nonneg x (Int.natCast_nonneg n)
@[simp] theorem Hj{x:Int}{n:Nat}:x.fmod (no_index (OfNat.ofNat n):Int)=x % (no_index (OfNat.ofNat n):Int):=Int.fmod_eq_emod_of_nonneg x (Int.natCast_nonneg n)
end P
namespace P
open PySem PySem.Spec PyProof.Rows L2 M2 M3 M4
def add_l{xs ys:List PV}(h:xs.length+ys.length<=16777216):ň (.lst xs) (.lst ys)=some (.ow (xs++ys)):=by
 unfold ň
 simp[h]
mutual
theorem lE:∀p:PV,œ p=true->eqB p p=true
 | .non,_=>by unfold eqB;rfl
 | .bl b,_=>by unfold eqB;simp
 | .int i,_=>by unfold eqB;simp
 | .str x,_=>by unfold eqB;simp
 | .lst xs,h=>by unfold œ at h;unfold eqB;exact dg xs h
 | .tup xs,h=>by unfold œ at h;unfold eqB;exact dg xs h
 | .ins _ _ _,h=>by simp[œ] at h
 | .xc _ _ _,h=>by simp[œ] at h
 | .ty _,h=>by simp[œ] at h
 | .cls _,h=>by simp[œ] at h
theorem dg:∀ps:List PV,bC ps=true->gw ps ps=true
 | [],_=>by unfold gw;rfl
 |p::ps,h=>by
  unfold bC at h
  rw[Bool.and_eq_true] at h
  unfold gw
  rw[lE p h.1,dg ps h.2]
  rfl
end
def qN{p:PV}(h:œ p=true)(hd:dep p<=60):aD p p=some (.bl false):=by
 unfold aD mZ
 rw[h,lE p h,decide_eq_true (by omega:min (dep p) (dep p)<=60)]
 rfl
def uw{a b:Str}(ha:PyData.strOk a=true)(hb:PyData.strOk b=true):Ō (.str a) (.str b)=some (.bl (decide (a=b))):=by
 have h:eqB (.str a) (.str b)=decide (a=b):=by unfold eqB;rfl
 unfold Ō mZ
 rw[show œ (.str a)=true by unfold œ;exact ha,show œ (.str b)=true by unfold œ;exact hb,h]
 rfl
def ux{a b:Str}(ha:PyData.strOk a=true)(hb:PyData.strOk b=true):aD (.str a) (.str b)=some (.bl (!decide (a=b))):=by
 have h:eqB (.str a) (.str b)=decide (a=b):=by unfold eqB;rfl
 unfold aD mZ
 rw[show œ (.str a)=true by unfold œ;exact ha,show œ (.str b)=true by unfold œ;exact hb,h]
 rfl
end P
namespace P
open PySem PySem.Spec PyProof.Rows L2 M2 M3 M4
section
variable{g:Tg}{mb:M Fl}{mt:M Bool}{me:M PV}
theorem ż{α β:Type}(c:α->PV)(step:β->α->β)(J:β->ĥ->Prop):∀(xs:List α),(∀x∈xs,∀b ρ,J b ρ->∃ρ1 ρ2,g (c x) ρ=some ρ1/\mb ρ1=.ok .nx ρ2/\J (step b x) ρ2)->∀b ρ,J b ρ->∃ρ',forL g mb (xs.map c) ρ=.ok .nx ρ'/\J (xs.foldl step b) ρ'
 | [],_,b,ρ,h=>⟨ρ,rfl,h⟩
 |x::xs,hs,b,ρ,h=>by
  obtain⟨ρ1,ρ2,h1,h2,h3⟩:=hs x (by simp) b ρ h
  obtain⟨ρ',e,h4⟩:=ż c step J xs (λy hy=>hs y (List.mem_cons_of_mem _ hy)) (step b x) ρ2 h3
  refine⟨ρ',?_,h4⟩
  rw[List.map_cons,forL,h1]
  dsimp only
  rw[h2]
  exact e
theorem dh{α γ:Type}(c:α->PV)(t:α->Option γ)(v:γ->RV)(J:ĥ->Prop):∀(xs:List α),(∀x∈xs,∀ρ,J ρ->∃ρ1,g (c x) ρ=some ρ1/\((∃r ρ2,t x=some r/\mb ρ1=.ok (.rt (v r)) ρ2)\/(∃ρ2,t x=none/\mb ρ1=.ok .nx ρ2/\J ρ2)))->∀ρ,J ρ->
 (∃r ρ',xs.findSome? t=some r/\forL g mb (xs.map c) ρ=.ok (.rt (v r)) ρ')\/(∃ρ',xs.findSome? t=none/\forL g mb (xs.map c) ρ=.ok .nx ρ'/\J ρ')
 | [],_,ρ,h=>.inr ⟨ρ,rfl,rfl,h⟩
 |x::xs,hs,ρ,h=>by
  obtain⟨ρ1,h1,h2⟩:=hs x (by simp) ρ h
  rcases h2 with⟨r,ρ2,e1,e2⟩|⟨ρ2,e1,e2,e3⟩
  ·refine .inl ⟨r,ρ2,by rw[List.findSome?_cons,e1],?_⟩
   rw[List.map_cons,forL,h1]
   dsimp only
   rw[e2]
   rfl
  ·have hf:List.findSome? t (x::xs)=List.findSome? t xs:=by rw[List.findSome?_cons,e1]
   have hl:forL g mb ((x::xs).map c) ρ=forL g mb (xs.map c) ρ2:=by
    rw[List.map_cons,forL,h1]
    dsimp only
    rw[e2]
    rfl
   rw[hf,hl]
   exact dh c t v J xs (λy hy=>hs y (List.mem_cons_of_mem _ hy)) ρ2 e3
theorem ĵ{α:Type}(c f:α->PV)(q:α->Bool)(I:ĥ->Prop):∀(xs:List α) (ρ:ĥ) (acc:List PV),I ρ->acc.length+xs.length<=16777216->
 (∀x∈xs,∀ρ,I ρ->∃ρ1 ρ2,g (c x) ρ=some ρ1/\mt ρ1=.ok (q x) ρ2/\(q x=false->I ρ2)/\(q x=true->∃ρ3,me ρ2=.ok (f x) ρ3/\I ρ3))->Ŝ g mt me (xs.map c) ρ acc=some (acc++(xs.filter q).map f)
 | [],ρ,acc,_,_,_=>by simp[Ŝ]
 |x::xs,ρ,acc,h,hz,hs=>by
  obtain⟨ρ1,ρ2,h1,h2,h3,h4⟩:=hs x List.mem_cons_self ρ h
  cases e:q x with
  |true=>
   obtain⟨ρ3,h5,h6⟩:=h4 e
   rw[e] at h2
   rw[List.map_cons,Ŝ,h1]
   dsimp only
   rw[h2]
   dsimp only
   rw[h5]
   dsimp only
   rw[if_pos (by simp at hz;omega),ĵ c f q I xs ρ3 (acc ++ [f x]) h6 (by simp at hz ⊢;omega) λy hy=>hs y (List.mem_cons_of_mem _ hy)]
   simp[e]
  |false=>
   rw[e] at h2
   rw[List.map_cons,Ŝ,h1]
   dsimp only
   rw[h2]
   dsimp only
   rw[ĵ c f q I xs ρ2 acc (h3 e) (by simp at hz ⊢;omega) λy hy=>hs y (List.mem_cons_of_mem _ hy)]
   simp[e]
end
end P
namespace P
open PySem PySem.Spec PyProof.Rows L2 M2 M3 M4
section
variable{X:Cx}{cm:String->Addr}{pos:Pos}
end
end P
namespace P
open PySem PySem.Spec PyProof.Rows L2 M2 M3 M4
section
variable{X:Cx}{cm:String->Addr}{E:L2.St->XK}{a:Expr}{p p1 pos pos1:Pos}{mr:M (List PV)}
end
end P
namespace P
open PySem PySem.Spec PyProof.Rows L2 M2 M3 M4
def Rel.keep{K:KK}{c:Ctx}{F H H':Hp}{σ:L2.St}{ρ:ĥ}(r:Rel K c F H σ ρ)(e:Same H H'):Rel K c F H' σ ρ:= r.call ⟨e,Same.refl F,r.sub.trans e,λ_ _ h=>h⟩
def Rel.Cq{K:KK}{c:Ctx}{F H:Hp}{σ:L2.St}{ρ:ĥ}(r:Rel K c F H σ ρ){i:Nat}{ps qs:List PV}(e:ρ[i]?=some (.ot ps qs)):∃F',Same F F'/\Rel K c F' H σ (ρ.set i (.sh (.tup (ps ++ [.lst qs])))):=by
 obtain⟨p,a,xs,vs,h1,h2,h3,h4,h5,h6,h7⟩:=r.slot i _ e
 obtain⟨m1,m2⟩:=r.move (a:=a) ⟨_,_,e,at_of h1,p,xs,rfl,h2⟩
 have ra:Rep K (upd F a (.lst vs)) (.lst qs) (.ref a):=by
  unfold Rep
  exact⟨a,vs,rfl,ń.of Ē,h7.same (Same.upd h5) qs vs⟩
 have rp:Rep K (upd F a (.lst vs)) (.tup (ps ++ [.lst qs])) (.ref p):=by
  unfold Rep
  exact⟨p,_,rfl,Ų.of (Same.upd h5 _ _ h2),ĉ.append (h3.same (Same.upd h5) ps xs) (ĉ.cons ra ĉ.nil)⟩
 have q:=(m1.freeze h4 h6 h5 m2).sX (i:=i) (s:=.sh (.tup (ps ++ [.lst qs]))) rfl (show Ł K c _ H _ (.sh (.tup (ps ++ [.lst qs]))) from⟨.ref p,by rw[at_of h1];rfl,rp⟩)
 rw[List.set_set] at q
 exact⟨_,Same.upd h5,q⟩
def cJ(i:Nat)(m:M Bool):M Bool:=λρ=>match ρ[i]? with
 |some (.ot ps qs)=>match m (ρ.set i (.sh (.tup (ps ++ [.lst qs])))) with
  | .ok b _=>.ok b ρ
  |_=>.bad
 |_=>m ρ
section
variable{X:Cx}{cm:String->Addr}{E:L2.St->XK}{e o:Expr}{es:List Expr}{pos:Pos}{m:M Bool}{mo:M RV}{ma:M PV}
def uy(i:Nat)(h:PT X e (tB (kk X cm) E m)):PT X e (tB (kk X cm) E (cJ i m)):=PT.wk h λσ H Q ⟨c,F,ρ,rel,h⟩=>by
 unfold cJ at h
 cases e1:ρ[i]? with
 |none=>rw[e1] at h;exact⟨c,F,ρ,rel,h⟩
 |some s=>
  rw[e1] at h
  cases s with
  |ot ps qs=>
   obtain⟨F',sF,Ś⟩:=rel.Cq e1
   refine⟨c,F',_,Ś,?_⟩
   dsimp only at h
   cases em:m (ρ.set i (.sh (.tup (ps ++ [.lst qs])))) with
   |ok b ρ1=>rw[em] at h;exact λv F2 H2 r1 s1 s2 q=>h v F H2 (rel.keep s2) (Same.refl _) s2 q
   |exc x ρ1=>rw[em] at h;exact h.elim
   |bad=>rw[em] at h;exact h.elim
  |_=>exact⟨c,F,ρ,rel,h⟩
def Kr(K:KK):RR (List PV×RV) (List V):=λc σ ρ F H r vs=>∃xs v,vs=xs ++ [v]/\ĉ K F r.1 xs/\rO K c σ ρ F H r.2 v
def lF(mo:M RV):M (List PV×RV):=λρ=>(mo ρ).bind λr ρ1=>.ok ([],r) ρ1
def bR(ma:M PV)(mr:M (List PV×RV)):M (List PV×RV):=λρ=>(ma ρ).bind λp ρ1=>(mr ρ1).bind λr ρ2=>.ok (p::r.1,r.2) ρ2
def Cr(he:PE X e (tO (kk X cm) E mo))(hs:starEach [e] X.env=(false,eval e X.env)::starEach [] X.env:=by exact ŏ rfl):PA X [e] (tG (kk X cm) E (Kr (kk X cm)) (lF mo)):=
 PA.wk (ŗ he bN hs) λσ H Q ⟨c,F,ρ,rel,h⟩=>⟨c,F,ρ,rel,h.bind λr ρ1 v F1 H1 Ĉ _ _ r1 h1=>h1 _ F1 H1 Ĉ (Same.refl _) (Same.refl _) ⟨[],v,rfl,ĉ.nil,r1⟩⟩
def jV{mr:M (List PV×RV)}(ha:PE X e (tV (kk X cm) E ma))(hr:PA X es (tG (kk X cm) E (Kr (kk X cm)) mr))(hs:starEach (e::es) X.env=(false,eval e X.env)::starEach es X.env:=by exact ŏ rfl):PA X (e::es) (tG (kk X cm) E (Kr (kk X cm)) (bR ma mr)):=
 PA.wk (ŗ ha hr hs) λσ H Q ⟨c,F,ρ,rel,h⟩=>⟨c,F,ρ,rel,h.bind λp ρ1 v F1 H1 Ĉ _ _ r1 h1=>⟨c,F1,ρ1,Ĉ,h1.bind λr ρ2 vs F2 H2 ė sF sH ⟨xs,u,e1,e2,e3⟩ h2=>h2 _ F2 H2 ė (Same.refl _) (Same.refl _) ⟨v::xs,u,by rw[e1];rfl,ĉ.cons (Rep.same sF p v r1) e2,e3⟩⟩⟩
def lG(mr:M (List PV×RV)):M RV:=λρ=>(mr ρ).bind λr ρ1=>if r.1.length<16777216 then(match r.2 with
 | .ow qs=>.ok (.ot r.1 qs) ρ1
 | .sh p=>.ok (.sh (.tup (r.1 ++ [p]))) ρ1
 |_=>.bad) else .bad
def Cu{x1}{mr:M (List PV×RV)}(h:PA X es (tG (kk X cm) E (Kr (kk X cm)) mr)):PE X (.Tuple es x1 pos) (tO (kk X cm) E (lG mr)):=PE.wk (rE h) λσ H Q ⟨c,F,ρ,rel,h⟩=>
 ⟨c,F,ρ,rel,h.bind fun r ρ1 vs F1 H1 Ĉ _ _ ⟨xs,v,e1,e2,e3⟩ h1=>by
   subst e1
   split at h1
   ·rename_i hz
    refine⟨by rw[List.length_append,<-e2.length,ġ];simp only[List.length_cons,List.length_nil];omega,λp hp=>?_⟩
    have ė:=Ĉ.alloc (o:=.tup (xs ++ [v])) hp
    have sF:Same F1 (upd F1 p (.tup (xs ++ [v]))):=Same.upd (Ĉ.sub.free hp)
    obtain⟨ps,rv⟩:=r
    cases rv with
    |sh q=>
     refine h1 _ _ _ ė sF (Same.upd hp) ?_
     show Rep _ _ _ _
     unfold Rep
     exact⟨p,_,rfl,Ų.of Ē,ĉ.append (e2.same sF ps xs) (ĉ.cons (Rep.same sF q v e3) ĉ.nil)⟩
    |ow qs=>
     obtain⟨a,vs,rfl,q1,q2,q3,q4,q5⟩:=e3
     have na:a≠p:=λz=>by rw[z,hp] at q1;cases q1
     exact h1 _ _ _ ė sF (Same.upd hp) ⟨p,a,xs,vs,rfl,Ē,e2.same sF ps xs,by rw[ć na];exact q1,by rw[ć na];exact q2,q3,Ĉ.jG sF q4,q5.same sF qs vs⟩
    |ot _ _=>exact h1.elim
   ·exact h1.elim⟩
def jj(i j:Nat)(m:M PV):M Fl:=λρ=>match ρ[i]? with
 |some (.ot ps _)=>if ps.length=j then(m ρ).bind λp ρ1=>match ρ1[i]? with
  |some (.ot ps' qs)=>if ps'.length=j/\qs.length<16777216 then .ok .nx (ρ1.set i (.ot ps' (qs ++ [p]))) else .bad
  |_=>.bad
  else .bad
 |_=>.bad
def uz{xs:List V}{v:V}{j:Nat}(h:xs.length=j):fL (xs ++ [v]) (j:Int)=some v:=by
 subst h
 have h1:((xs.length:Nat):Int)<((xs ++ [v]).length:Int):=by simp;omega
 unfold fL yG
 rw[if_pos (by omega),if_pos h1]
 simp
def uD{i j:Nat}{D:Ends}{σ:L2.St}{H:Hp}(h:tS (kk X cm) E (jj i j ma) D σ H):qX (Lz X.K "list" jD (z_ (Rt X.K) (lX i) (tC (.int j))) (tL (kk X cm) E (Ċ ma ĝ))) D σ H:=by
 obtain⟨c,F,ρ,rel,h⟩:=h
 unfold jj at h
 cases e1:ρ[i]? with
 |none=>rw[e1] at h;exact h.elim
 |some sl=>
  rw[e1] at h
  cases sl with
  |ot Vk Xf=>
   obtain⟨p,a,xs,Vl,z1,z2,z3,z4,z5,z6,z7⟩:=rel.slot i _ e1
   dsimp only at h
   split at h
   ·rename_i hj
    refine⟨.ref p,at_of z1,.inr (.inl ⟨p,xs ++ [.ref a],(j:Int),.ref a,rfl,rfl,Ų.of (rel.sub _ _ z2),uz (by rw[<-z3.length];exact hj),.inl ⟨rfl,_,ń.of z4⟩,c,F,ρ,rel,?_⟩)⟩
    unfold Ċ
    cases em:ma ρ with
    |bad=>rw[em] at h;exact h
    |exc x ρ1=>rw[em] at h;exact λC d F' H' Ś s1 q=>h σ C d F' H' Ś s1 q
    |ok p1 ρ1=>
     rw[em] at h
     intro us F1 H1 Ĉ s1 s2 r1
     have r1':ĉ (kk X cm) F1 [p1] us:=r1
     cases r1'.pr with
     |cons rp t=>
      rename_i v vs'
      cases t
      cases e2:ρ1[i]? with
      |none=>simp only[Res.eO,e2] at h;exact h.elim
      |some sl2=>
       simp only[Res.eO,e2] at h
       cases sl2 with
       |ot ps qs=>
        obtain⟨p2,a2,xs2,vs,w1,w2,w3,w4,w5,w6,w7⟩:=Ĉ.slot i _ e2
        have own:Ĥ F1 σ ρ1 i a2:=⟨_,_,e2,at_of w1,p2,xs2,rfl,w2⟩
        have e3:=at_of z1
        rw[at_of w1] at e3
        have e3':p2=p:=by injection e3 with e3;injection e3 with e3;injection e3
        subst e3'
        have e4:a2=a:=bf (ps:=ps) (qs:=qs) (x:=.ref p2) ⟨p2,xs2,rfl,w2⟩ ⟨p2,xs,rfl,s1 _ _ z2⟩
        subst e4
        dsimp only at h
        split at h
        ·rename_i hz
         refine⟨a2,vs,v,rfl,rfl,w4,by rw[<-w7.length,ġ];exact hz.2,h σ F1 _ (Ĉ.sY own ⟨p2,a2,xs2,vs ++ [v],w1,w2,w3,Ē,w5,w6,ĉ.append w7 (ĉ.cons rp ĉ.nil)⟩ λx b ex q=>?_) s1⟩
         rw[at_of w1] at ex
         cases ex
         rw[bf (ps:=ps) (qs:=qs ++ [p1]) q ⟨p2,xs2,rfl,w2⟩]
         exact own
        ·exact h.elim
       |_=>exact h.elim
   ·exact h.elim
  |_=>exact h.elim
@[simp] theorem Ph{ps qs:List PV}:(RV.ot ps qs).val=.tup (ps ++ [.lst qs]):=rfl
@[simp] theorem Pj{ps qs:List PV}:(RV.ot ps qs).slot=.ot ps qs:=rfl
@[simp] theorem Ks{i:Nat}{ρ:ĥ}:cJ i m ρ=(match ρ[i]? with
  |some (.ot ps qs)=>match m (ρ.set i (.sh (.tup (ps ++ [.lst qs])))) with
   | .ok b _=>.ok b ρ
   |_=>.bad
  |_=>m ρ):=rfl
@[simp] theorem Ku{ρ:ĥ}:lF mo ρ=(mo ρ).bind λr ρ1=>.ok ([],r) ρ1:=rfl
@[simp] theorem Hl{mr:M (List PV×RV)}{ρ:ĥ}:bR ma mr ρ=(ma ρ).bind λp ρ1=>(mr ρ1).bind λr ρ2=>.ok (p::r.1,r.2) ρ2:=rfl
@[simp] theorem Ho{mr:M (List PV×RV)}{ρ:ĥ}:lG mr ρ=(mr ρ).bind fun r ρ1=>if r.1.length<16777216 then(match r.2 with
  | .ow qs=>.ok (.ot r.1 qs) ρ1
  | .sh p=>.ok (.sh (.tup (r.1 ++ [p]))) ρ1
  |_=>.bad) else .bad:=rfl
@[simp] theorem Kv{i j:Nat}{ρ:ĥ}:jj i j ma ρ=(match ρ[i]? with
  |some (.ot ps _)=>if ps.length=j then(ma ρ).bind λp ρ1=>match ρ1[i]? with
   |some (.ot ps' qs)=>if ps'.length=j/\qs.length<16777216 then .ok .nx (ρ1.set i (.ot ps' (qs ++ [p]))) else .bad
   |_=>.bad
   else .bad
  |_=>.bad):=rfl
end
end P
namespace P
open PySem PySem.Spec PyProof.Rows L2 M2 M3 M4
section
variable{X:Cx}{K:KK}
end
end P
namespace P
open PySem PySem.Spec PyProof.Rows L2 M2 M3 M4
section
variable{K:KK}{c c':Ctx}{F F' H H':Hp}{σ:L2.St}{ρ:ĥ}
end
section
variable{X:Cx}{cm:String->Addr}{E:L2.St->XK}{elt tg iter:Expr}{ifs:List Expr}{scope:Scope}{pos:Pos}{mi:M (List PV)}{g:Tg}{mt:M Bool}{me:M RV}
end
section
variable{K:KK}{c:Ctx}{F H:Hp}{σ:L2.St}{ρ:ĥ}
end
section
variable{X:Cx}{cm:String->Addr}{E:L2.St->XK}{e:Expr}{es:List Expr}{m:M Bool}{mv:M PV}{ms:M (List Slot)}
end
end P
namespace P
open PySem PySem.Spec PyProof.Rows L2 M2 M3 M4
section
variable{X:Cx}{K:KK}
end
section
variable{ρ:ĥ}{i x j:Nat}{m:M Bool}{mv:M PV}{ms:M (List Slot)}{mp:M (List (List PV))}{g:Tg}{mt:M Bool}{me:M RV}{mi:M (List PV)}{js:List Nat}{nl:Nat}
end
end P
namespace P
open PySem PySem.Spec PyProof.Rows L2 M2 M3 M5
def lamP(js:List Nat)(ρ:ĥ)(p:PV):ĥ:=js.map (λ(j:Nat)=>Ū ((ρ[j]?).getD .no)) ++ [.sh p]
def iI(js:List Nat)(me:M PV)(ρ:ĥ):List PV->Option (List Int)
 | []=>some []
 |p::ps=>match me (lamP js ρ p) with
  | .ok (.int k) _=>(iI js me ρ ps).map (k:: ·)
  |_=>none
def bT(p:PV)(k:Int):List PV->List Int->PV
 |q::qs,m::ms=>if m<k then bT q m qs ms else bT p k qs ms
 |_,_=>p
def aH:List PV->List Int->Option PV
 |p::ps,k::ks=>some (bT p k ps ks)
 |_,_=>none
def uE(js:List Nat)(me:M PV)(mr:M (List PV)):M PV:=λρ=>(mr ρ).bind λps ρ1=>match ps with
 | [.lst items]=>match iI js me ρ1 items with
   |some ks=>Res.gU (aH items ks) ρ1
   |none=>.bad
 |_=>.bad
theorem jk{js:List Nat}{me:M PV}{ρ:ĥ}:∀{items:List PV} {ks:List Int},iI js me ρ items=some ks->ks.length=items.length/\∀(k:Nat) (p:PV),items[k]?=some p->∃ρ',me (lamP js ρ p)=.ok (.int (ks.getD k 0)) ρ'
 | [],ks,h=>by
   cases(show some []=some ks from h)
   exact⟨rfl,λk p z=>by simp at z⟩
 |q::r,ks,h=>by
  have h':(match me (lamP js ρ q) with
   | .ok (.int k) _=>(iI js me ρ r).map (k:: ·)
   |_=>none)=some ks:=h
  split at h'
  ·rename_i k ρ' e
   cases e2:iI js me ρ r with
   |none=>rw[e2] at h';cases h'
   |some ks'=>
    rw[e2] at h'
    cases(show some (k::ks')=some ks from h')
    obtain⟨h1,h2⟩:=jk e2
    refine⟨by simp[h1],λn p hp=>?_⟩
    cases n with
    |zero=>
     simp at hp
     subst hp
     exact⟨ρ',e⟩
    |succ n=>
     simp at hp
     simpa using h2 n p hp
  ·cases h'
theorem Ű:∀{qs:List PV} {ms:List Int} {p:PV} {k:Int} {i:Nat} {x:PV},ms.length=qs.length->(p::qs)[i]?=some x->(∀j,j<(p::qs).length->(k::ms).getD i 0<=(k::ms).getD j 0/\(j<i->(k::ms).getD i 0<(k::ms).getD j 0))->bT p k qs ms=x
 | [],[],p,k,i,x,_,hx,_=>by
   cases i with
   |zero=>simpa[bT] using hx
   |succ i=>simp at hx
 | [],_::_,_,_,_,_,h,_,_=>by simp at h
 |_::_,[],_,_,_,_,h,_,_=>by simp at h
 |q::qs,m::ms,p,k,i,x,hl,hx,hb=>by
  have hl':ms.length=qs.length:=by simpa using hl
  unfold bT
  by_cases hm:m<k
  ·rw[if_pos hm]
   cases i with
   |zero=>
    have:=(hb 1 (by simp)).1
    simp at this
    omega
   |succ i=>
    refine Ű (i:=i) hl' (by simpa using hx) λj hj=>?_
    have:=hb (j+1) (by simpa using hj)
    refine⟨by simpa using this.1,λhji=>by simpa using this.2 (by omega)⟩
  ·rw[if_neg hm]
   cases i with
   |zero=>
    refine Ű (i:=0) hl' (by simpa using hx) λj hj=>?_
    cases j with
    |zero=>exact⟨Int.le_refl _,λz=>absurd z (Nat.lt_irrefl _)⟩
    |succ j=>
     have:=hb (j+1+1) (by simpa using hj)
     exact⟨by simpa using this.1,λz=>absurd z (by omega)⟩
   |succ i=>
    cases i with
    |zero=>
     have:=(hb 0 (by simp)).2 (by omega)
     simp at this
     omega
    |succ i=>
     refine Ű (i:=i+1) hl' (by simpa using hx) λj hj=>?_
     cases j with
     |zero=>
      have:=hb 0 (by simp)
      exact⟨by simpa using this.1,λ_=>by simpa using this.2 (by omega)⟩
     |succ j=>
      have:=hb (j+1+1) (by simpa using hj)
      exact⟨by simpa using this.1,λz=>by simpa using this.2 (by omega)⟩
def aJ{items:List PV}{ks:List Int}{i:Nat}{x b:PV}(hl:ks.length=items.length)(h:aH items ks=some b)(hx:items[i]?=some x)(hb:∀j,j<items.length->ks.getD i 0<=ks.getD j 0/\(j<i->ks.getD i 0<ks.getD j 0)):b=x:=by
 cases items with
 |nil=>simp at hx
 |cons p ps=>
  cases ks with
  |nil=>simp at hl
  |cons k ks=>
   have h':bT p k ps ks=b:=Option.some.inj h
   rw[<-h']
   exact Ű (by simpa using hl) hx hb
section
variable{K:KK}{c:Ctx}{F H:Hp}{σ:L2.St}{ρ:ĥ}
theorem Gr.refl(s:Same F H):Gr F H F H:=⟨Same.refl _,Same.refl _,s,λ_ _ z=>z⟩
theorem Gr.trans{F1 H1 F2 H2:Hp}(a:Gr F H F1 H1)(b:Gr F1 H1 F2 H2):Gr F H F2 H2:=
 ⟨a.h.trans b.h,a.f.trans b.f,b.sub,fun x hx hf=>b.out x (fun z=>by
   cases q:H x with
   |none=>exact hx q
   |some u=>rw[a.h x u q] at z;cases z) (a.out x hx hf)⟩
def Rel.lam(js:List Nat)(rel:Rel K c F H σ ρ){p:PV}{v:V}(hp:Rep K F p v):Rel K (ctx0 F H) F H (Ź js σ v) (lamP js ρ p) where
 sub:=rel.sub
 base:=Same.refl _
 f0:=Same.refl _
 ž:=λ_ _ z=>z
 lent:=λa u e=>aU e
 lb:=fun a e=>by
   cases q:(ctx0 F H).L a with
   |none=>rfl
   |some u=>
    have e':H a=none:=e
    rw[(aU q).1] at e'
    cases e'
 len:=by simp[Ź,lamP]
 slot:= λi s e=>by
  unfold lamP at e
  by_cases hi:i<js.length
  ·rw[List.getElem?_append_left (by simpa using hi),List.getElem?_map] at e
   cases ej:js[i]? with
   |none=>rw[ej] at e;cases e
   |some j=>
    rw[ej] at e
    have e':Ū ((ρ[j]?).getD .no)=s:=Option.some.inj e
    subst e'
    have hx:((Ź js σ v)[i]?).getD none=(σ[j]?).getD none:=by
     unfold Ź
     rw[List.getElem?_append_left (by simpa using hi),List.getElem?_map,ej]
     rfl
    rw[hx]
    cases er:ρ[j]? with
    |none=>trivial
    |some sl=>
     have q:=rel.slot j sl er
     cases sl with
     |no=>trivial
     |sh p=>exact q
     |ow ps=>
      obtain⟨a,vs,h1,h2,h3,h4,h5⟩:=q
      refine⟨a,vs,h1,?_,h5⟩
      show(match F a with|none=>H a|some _=>none)=_
      rw[h3]
      exact h2
     |bw ps=>
      obtain⟨a,vs,h1,h2,h3⟩:=q
      obtain⟨l1,l2⟩:=rel.lent a _ h2
      refine⟨a,vs,h1,?_,h3⟩
      show(match F a with|none=>H a|some _=>none)=_
      rw[l2]
      exact l1
     |rc C ns ps=>trivial
     |ot ps qs=>trivial
     |ol qI=>trivial
  ·have hi2:i=js.length:=by
    have l2:=(List.getElem?_eq_some_iff.mp e).1
    simp at l2
    omega
   subst hi2
   rw[List.getElem?_append_right (by simp)] at e
   have e':Slot.sh p=s:=by simpa using e
   subst e'
   have hx:((Ź js σ v)[js.length]?).getD none=some v:=by
    unfold Ź
    rw[List.getElem?_append_right (by simp)]
    simp
   rw[hx]
   exact⟨v,rfl,hp⟩
 sep:=λi j a h1 _=>by
  exfalso
  obtain⟨s,y,h1,_,h2⟩:=h1
  have h2:=fQ h2
  unfold lamP at h1
  by_cases hi:i<js.length
  ·rw[List.getElem?_append_left (by simpa using hi),List.getElem?_map] at h1
   cases ej:js[i]? with
   |none=>rw[ej] at h1;cases h1
   |some j=>
    rw[ej] at h1
    have e':Ū ((ρ[j]?).getD .no)=s:=Option.some.inj h1
    subst e'
    cases er:ρ[j]? with
    |none=>rw[er] at h2;cases h2
    |some sl=>rw[er] at h2;cases sl<;>cases h2
  ·have hi2:i=js.length:=by
    have l2:=(List.getElem?_eq_some_iff.mp h1).1
    simp at l2
    omega
   subst hi2
   rw[List.getElem?_append_right (by simp)] at h1
   have e':Slot.sh p=s:=by simpa using h1
   subst e'
   cases h2
end
section
variable{X:Cx}{cm:String->Addr}{E:L2.St->XK}{x px:Str}{c Pt:Addr}{params:Arguments}{body e:Expr}{scope:Scope}{p pos xg kpos:Pos}{mr:M (List PV)}{me:M PV}
def Cv{k:Nat}(N0:List Str)(js:List Nat)(sc:Scope)(hr:Ľ (k+2) X.A)(hsc:X.env.scope=sc)(hcalm:X.calm=true)(hx:x∈lams)(ht:PySem.W.tabIn X.K x=some (c,Pt))(hcode:X.env.code=.ref c)(hq:X.env.qual=x ++ ".<locals>.")
 (hg:Gl X "min")(hm:X.mg "min" =none)(ha:PA X [e] (Ed (kk X cm) E mr))(he:∀cl f c' s H,Ľ k (qR X (N0 ++ [px]) (Ŧ x) scope cl f c' X.A.in1 s H).A->(qR X (N0 ++ [px]) (Ŧ x) scope cl f c' X.A.in1 s H).A.units+64<cLine->PE (qR X (N0 ++ [px]) (Ŧ x) scope cl f c' X.A.in1 s H) body (tV (kk X cm) EF me))(hcap:aK X sc scope N0 js)(hlen:js.length=N0.length:=by rfl)
 (hbind:∀(cl:List (Str×Addr)) (pm ctv:Value) (c':Addr) (u:Value),bindArgs (PySem.W.kla_fn "<lambda>" (Ŧ x) params body scope cl pm (.ref c') ctv) ⟨[u],[]⟩=pure [(px,u)]:=by intros;rfl)
 (hk:scope.kind=.function:=by rfl)(hcell:∀y∈scope.names,y.2≠ .cell:=by decide +kernel)(hpx:scope.names.lookup px=some .local:=by rfl)(hco:scope.isCoroutine=false:=by rfl)(hgen:scope.isGenerator=false:=by rfl)
 (hfree:∀y∈scope.names,y.2=.free->(sc.names.lookup y.1=some .cell\/sc.names.lookup y.1=some .free):=by decide +kernel)(hdef:defaultsOf params X.env=([],[]):=by rfl)
 (hst:starEach [e] X.env=[(false,eval e X.env)]:=by exact ŏ rfl)(hpl:(backTo pos (starEach [e] X.env)).any (·.1)=false:=by rfl) :
 PE X (.Call (.Name "min" p) [e] [⟨some "key",.Lambda params body scope xg,kpos⟩] pos) (tV (kk X cm) E (uE js me mr)):=λpins s σ H Q I h=>
 xq N0 js sc hsc hcalm hr.depth hx ht hcode hq hg hm ha (λcl f c' s H=>he cl f c' s H (hr.in1.deeper _) (hr.in1.deeper _).units) hcap hlen hbind hk hcell hpx hco hgen hfree hdef hst hpl pins s σ H Q I (by
  obtain⟨cc,F,ρ,rel,h⟩:=h
  refine⟨cc,F,ρ,rel,h.bind λps ρ1 vs F1 H1 Ĉ s1 s2 q h1=>?_⟩
  split at h1
  rotate_left
  ·exact h1.elim
  rename_i items
  split at h1
  rotate_left
  ·exact h1.elim
  rename_i kl hk'
  obtain⟨Vx,Vy⟩:=jk hk'
  cases hb:aH items kl with
  |none=>rw[hb] at h1;exact h1.elim
  |some b=>
   rw[hb] at h1
   have q':Paired (rR (kk X cm) cc σ ρ1 F1 H1) [.lst items] vs:=q
   obtain⟨l,xs,rfl,hs,hr⟩:∃l xs,vs=[.ref l]/\ń X.K H1 l xs/\ĉ (kk X cm) F1 items xs:=by
    cases q' with
    |cons a b=>
     cases b
     rcases a with a|a
     ·unfold Rep at a
      obtain⟨l,xs,rfl,e1,e2⟩:=a
      exact⟨l,xs,rfl,Ĉ.sub.seq e1,e2⟩
     ·obtain⟨l,xs,rfl,e1,e2⟩:=a
      exact⟨l,xs,rfl,ń.of e1,e2⟩
   have len:items.length=xs.length:=hr.length
   have hne:0<xs.length:=by
    rw[<-len]
    cases items with
    |nil=>simp[aH] at hb
    |cons _ _=>simp
   refine⟨l,xs,rfl,hs,hne,λc q H2 sm hc nw=>⟨λk=>kl.getD k 0,λ_ H=>∃F',Gr F1 H2 F' H,⟨F1,Gr.refl (Ĉ.sub.trans sm)⟩,λk H ⟨F',g⟩=>g.h,λk v H hv ⟨F',g⟩=>?_,λi v H hv hbest ⟨F',g⟩=>?_⟩⟩
   ·have ė:Rel (kk X cm) cc F1 H2 σ ρ1:=Ĉ.call ⟨sm,Same.refl _,Ĉ.sub.trans sm,λ_ _ z=>z⟩
    have hki:k<items.length:=by rw[len];exact(List.getElem?_eq_some_iff.mp hv).1
    obtain⟨ρ',Vz⟩:=Vy k items[k] (List.getElem?_eq_getElem hki)
    obtain⟨v',hv',rv⟩:=ŝ hr.pr (List.getElem?_eq_getElem hki)
    rw[hv] at hv'
    cases hv'
    refine⟨ctx0 F' H,F',lamP js ρ1 items[k],(ė.call g).lam js (Rep.same g.f _ _ rv),?_⟩
    rw[Vz]
    intro y F2 H3 iC _ _ ry
    have Sv:Rep (kk X cm) F2 (.int (kl.getD k 0)) y:=ry
    unfold Rep at Sv
    exact⟨Sv,F2,g.trans iC.gr⟩
   ·have ė:Rel (kk X cm) cc F1 H2 σ ρ1:=Ĉ.call ⟨sm,Same.refl _,Ĉ.sub.trans sm,λ_ _ z=>z⟩
    have Sw:i<items.length:=by rw[len];exact(List.getElem?_eq_some_iff.mp hv).1
    obtain⟨v',hv',rv⟩:=ŝ hr.pr (List.getElem?_eq_getElem Sw)
    rw[hv] at hv'
    cases hv'
    have eb:=aJ Vx hb (List.getElem?_eq_getElem Sw) (λj hj=>hbest j (by rw[<-len];exact hj))
    subst eb
    exact h1 v F' H (ė.call g) g.f (sm.trans g.h) (Rep.same g.f _ _ rv))
end
def xY(K:PySem.W.Frag)(x:Str)(f:Addr):Bool:=PySem.W.nsIn K mainGlobals x== some (some (.ref f)) && (PySem.W.tabIn K x).isSome
section
variable{P:Program}{w:World}{K:PySem.W.Frag}{cm:String->Addr}{mg:Str->Option Value}{base:Heap}{CX:dJ}
def xZ{x qual:Str}{st:Stmt}{f:Addr}{fd:FuncData}(F:fM K x qual st f fd){c Pt:Addr}(h:PySem.W.nsIn K mainGlobals x=some (some (.ref f)))(ht:PySem.W.tabIn K x=some (c,Pt)):fd.code=.ref c:=by
 obtain⟨oc,od,kV,doc,pm,an,cdv,ct,osl,rfl,lk,hcd⟩:=F.ex
 unfold PySem.W.tabIn at ht
 split at ht
 ·rename_i f2 hf
  rw[h] at hf
  cases hf
  split at ht
  ·rename_i hfo
   rw[lk] at hfo
   cases hfo
   split at ht
   ·rename_i c2 hc
    split at ht
    ·split at ht
     ·cases ht
      exact hc
     ·cases ht
    ·cases ht
   ·cases ht
  ·cases ht
 ·cases ht
def Pk{x qual:Str}{st:Stmt}{f:Addr}{fd:FuncData}{N ps:List Str}{k n j:Nat}{mb:M Fl}{mf:MF}(F:fM K x qual st f fd)(S:Ě N ps (ă st))(hn:ps.length=n)(hj:N.length=j)(hf:mf=ŕ n j mb)(htb:xY K x f=true)
 (hbody:∀(c Pt:Addr),PySem.W.tabIn K x=some (c,Pt)→∀(A:Around) (outer:List Env) (s:Shared) (H:Hp) (E:XK),Ľ k (A.deeper (envOfC qual (ă st) s.heap.objs.size f (.ref c)))→
   dI (ig CX P w K mg base N qual (ă st) f (.ref c) A outer s H E) (Ġ st) (tS ⟨K,cm⟩ (λ_=>E) mb)):ĸ P w K mg base CX (k+1) f fd ps (bB ⟨K,cm⟩ n mf):=by
 subst hn hj hf
 unfold xY at htb
 simp only[Bool.and_eq_true,beq_iff_eq] at htb
 obtain⟨h1,h2⟩:=htb
 obtain⟨⟨c,Pt⟩,ht⟩:=Option.isSome_iff_exists.mp h2
 have hc:=xZ F h1 ht
 obtain⟨oc,od,kV,doc,pm,an,cdv,ct,osl,rfl,lk,hcd⟩:=id F.ex
 have hc':cdv=.ref c:=hc
 subst hc'
 refine rG lk hcd S (λvs H Q E ⟨F,ps',h1,_,h2,_⟩=>by rw[<-Paired.length h2];exact h1) λA outer s H vs Q E hr hsp=>?_
 obtain⟨F,ps',h1,h2,h3,h4⟩:=hsp
 refine⟨_,hbody c Pt ht A outer s H E hr,ctx0 F H,F,startP N.length ps',Rel.start h2 h3,?_⟩
 unfold ŕ at h4
 rw[if_pos h1] at h4
 cases e:mb (startP N.length ps') with
 |bad=>rw[e] at h4;exact h4
 |exc x ρ'=>rw[e] at h4;exact λσ' C d F' H' rel s1 q=>h4 C d F' H' rel.gr q
 |ok fl ρ'=>
  rw[e] at h4
  cases fl with
  |nx=>exact λσ' F' H' rel s1=>h4 .non F' H' rel.gr (Rep.non (K:=⟨K,cm⟩) (F:=F'))
  |bk=>exact h4.elim
  |ct=>exact h4.elim
  |rt r=>
   intro v σ' F' H' rel s1 q
   refine h4 v F' H' rel.gr ?_
   cases r with
   |sh p=>exact q
   |ow qs=>
    obtain⟨a,vs',e1,e2,e3,e4,_,e5⟩:=q
    exact⟨a,vs',e1,e2,e3,e4,e5⟩
   |ot qs ts=>
    obtain⟨p,a,xs,vs',e1,e0,ex,e2,e3,e4,_,e5⟩:=q
    exact⟨p,a,xs,vs',e1,e0,ex,e2,e3,e4,e5⟩
structure Cw(K:PySem.W.Frag)(x qual:Str)(st:Stmt)(f:Addr)(fd:FuncData):Prop where
 ex:∃(oc:Value) (od:Option Addr) (dV kV doc pm:Value) (an:Option Addr) (cdv ct:Value) (osl:Array (Option Value)),
   fd=PySem.W.fnOf x qual (ı st) (Ġ st) (ă st) dV kV doc pm an cdv ct/\K.lookup f=some ⟨oc,od,.func fd,osl⟩/\PySem.W.codeIn K cdv qual=true
 kp:PySem.W.keepIn K (.ref f)=true
def yc{x qual:Str}{st:Stmt}{f:Addr}{oc:Value}{od an:Option Addr}{osl:Array (Option Value)}{dV kV doc pm cdv ct:Value}(l:K.lookup f=some ⟨oc,od,.func (PySem.W.fnOf x qual (ı st) (Ġ st) (ă st) dV kV doc pm an cdv ct),osl⟩)
 (c:PySem.W.codeIn K cdv qual=true)(k:PySem.W.keepIn K (.ref f)=true):Cw K x qual st f (PySem.W.fnOf x qual (ı st) (Ġ st) (ă st) dV kV doc pm an cdv ct):=⟨⟨oc,od,dV,kV,doc,pm,an,cdv,ct,osl,rfl,l,c⟩,k⟩
def Pn{x qual:Str}{st:Stmt}{f:Addr}{fd:FuncData}{N ps:List Str}{k n j:Nat}{mb:M Fl}{mf:MF}(F:Cw K x qual st f fd)(S:Ě N ps (ă st))(hn:ps.length=n)(hj:N.length=j)(hf:mf=ŕ n j mb)
 (hbody:∀(cdv:Value) (A:Around) (outer:List Env) (s:Shared) (H:Hp) (E:XK),Ľ k (A.deeper (envOfC qual (ă st) s.heap.objs.size f cdv))→
   dI (ig CX P w K mg base N qual (ă st) f cdv A outer s H E) (Ġ st) (tS ⟨K,cm⟩ (λ_=>E) mb)):ĸ P w K mg base CX (k+1) f fd ps (bB ⟨K,cm⟩ n mf):=by
 subst hn hj hf
 obtain⟨oc,od,dV,kV,doc,pm,an,cdv,ct,osl,rfl,lk,hcd⟩:=F.ex
 refine rG lk hcd S (λvs H Q E ⟨F,ps',h1,_,h2,_⟩=>by rw[<-Paired.length h2];exact h1) λA outer s H vs Q E hr hsp=>?_
 obtain⟨F,ps',h1,h2,h3,h4⟩:=hsp
 refine⟨_,hbody cdv A outer s H E hr,ctx0 F H,F,startP N.length ps',Rel.start h2 h3,?_⟩
 unfold ŕ at h4
 rw[if_pos h1] at h4
 cases e:mb (startP N.length ps') with
 |bad=>rw[e] at h4;exact h4
 |exc x ρ'=>rw[e] at h4;exact λσ' C d F' H' rel s1 q=>h4 C d F' H' rel.gr q
 |ok fl ρ'=>
  rw[e] at h4
  cases fl with
  |nx=>exact λσ' F' H' rel s1=>h4 .non F' H' rel.gr (Rep.non (K:=⟨K,cm⟩) (F:=F'))
  |bk=>exact h4.elim
  |ct=>exact h4.elim
  |rt r=>
   intro v σ' F' H' rel s1 q
   refine h4 v F' H' rel.gr ?_
   cases r with
   |sh p=>exact q
   |ow qs=>
    obtain⟨a,vs',e1,e2,e3,e4,_,e5⟩:=q
    exact⟨a,vs',e1,e2,e3,e4,e5⟩
   |ot qs ts=>
    obtain⟨p,a,xs,vs',e1,e0,ex,e2,e3,e4,_,e5⟩:=q
    exact⟨p,a,xs,vs',e1,e0,ex,e2,e3,e4,e5⟩
def nH{x qual:Str}{st:Stmt}{ps:List Str}{T:Addr}{oT:Obj}{items:Array Value}{nT:Nat}{kV doc pm:Value}{an:Option Addr}{cdv ct:Value}(hT:K.lookup T=some oT)(hs:oT.data=.seq items nT)
 (h:∀us:List Value,us.length=ps.length->∃k:Option (Array Value)->Sem (List (Str×Value)),bindArgs (PySem.W.fnOf x qual (ı st) (Ġ st) (ă st) (.ref T) kV doc pm an cdv ct) ⟨us,[]⟩=seqItems? (.ref T) >>= k/\k (some items)=pure (ps.zip us)) :
 Binds K (PySem.W.fnOf x qual (ı st) (Ġ st) (ă st) (.ref T) kV doc pm an cdv ct) ps []:=λs us X hl=>by
 rw[List.append_nil] at hl ⊢
 obtain⟨k,h1,h2⟩:=h us hl
 exact PySem.W.binds_K X rfl hT hs h1 h2
end
section
variable{js:List Nat}{me:M PV}{mr:M (List PV)}{ρ:ĥ}
theorem pL:uE js me mr ρ=(mr ρ).bind λps ρ1=>match ps with
 | [.lst items]=>match iI js me ρ1 items with
   |some ks=>Res.gU (aH items ks) ρ1
   |none=>.bad
 |_=>.bad:=rfl
end
end P
namespace P
open PySem PySem.Spec PyProof.Rows L2 M2 M3 M5
def Cy{X:Cx}(hu:X.A.units+64<cLine):ľ X (compareOp .Lt) (Av X.K):=Aw (by omega)
def lH(p q:PV):Option PV:=match p,q with
 | .tup [.int a,.int b],.tup [.int c,.int d]=>some (.bl (HT.lexLt [a,b] [c,d]))
 |_,_=>none
def jl{K:KK}{cc:Ctx}{F H:Hp}{σ:L2.St}{ρ:ĥ}{a b:Int}{v:V}(s:Same F H)(r:rR K cc σ ρ F H (.tup [.int a,.int b]) v):∃p,v=.ref p/\Ų K.K H p ([a,b].map V.int):=by
 rcases r with r|r
 ·unfold Rep at r
  obtain⟨p,vs,h1,h2,h3⟩:=r
  unfold ĉ at h3
  obtain⟨x,t,rfl,k1,k2⟩:=h3
  unfold ĉ at k2
  obtain⟨y,t',rfl,k3,k4⟩:=k2
  unfold ĉ at k4
  unfold Rep at k1 k3
  subst k4 k1 k3
  exact⟨p,h1,Same.tup s h2⟩
 ·exact r.elim
def Cz{K:KK}:bV K (Av K.K) lH:=by
 intro cc F H σ ρ p q pv v u Q rel r1 r2 e k
 unfold lH at e
 split at e
 ·rename_i a b c d
  cases e
  obtain⟨x,h1,h2⟩:=jl rel.sub r1
  obtain⟨y,k1,k2⟩:=jl rel.sub r2
  exact⟨x,y,_,_,h1,k1,h2,k2,k _ F H rel (Same.refl _) (Same.refl _) Rep.bl⟩
 ·cases e
def CG{a b c d:Int}:lH (.tup [.int a,.int b]) (.tup [.int c,.int d])=some (.bl (HT.lexLt [a,b] [c,d])):=rfl
end P
namespace P
open PySem PySem.Spec PyProof.Rows L2 M2 M3 M5
def gH(mf:MF)(Kw:List Slot)(mr:M (List Slot)):M RV:=λρ=>(mr ρ).bind λps ρ1=>match mf (ps++Kw) with
 | .ret r=>.ok r ρ1
 | .exc x=>.exc x ρ1
 | .bad=>.bad
def gJ(mf:MF)(mr:M (List Slot))(i:Nat):M RV:=λρ=>(mr ρ).bind λps ρ1=>match ρ1[i]? with
 |some (.sh p)=>(match mf (ps ++ [.sh p]) with
  | .ret r=>.ok r ρ1
  | .exc x=>.exc x ρ1
  | .bad=>.bad)
 |_=>.bad
def uF{α:Type}:List α->List α->List α
 | [a,b,c],[d]=>[a,b,c,d]
 |_,_=>[]
theorem yd{α:Type}:∀{l:List α} {d:α},(l ++ [d]).length=4->uF l [d]=l ++ [d]
 | [],_,h=>by simp at h
 | [_],_,h=>by simp at h
 | [_,_],_,h=>by simp at h
 | [a,b,c],d,_=>rfl
 |_::_::_::_::_,_,h=>by simp at h
def uG{vs zs:List V}{us ws:List Value}(h1:Vals vs us)(h2:Vals zs ws):Vals (uF vs zs) (uF us ws):=by
 cases h1 with
 |nil=>exact .nil
 |cons a h1=>cases h1 with
  |nil=>exact .nil
  |cons b h1=>cases h1 with
   |nil=>exact .nil
   |cons c h1=>cases h1 with
    |nil=>cases h2 with
     |nil=>exact .nil
     |cons d h2=>cases h2 with
      |nil=>exact .cons a (.cons b (.cons c (.cons d .nil)))
      |cons _ _=>exact .nil
    |cons _ _=>exact .nil
section
variable{X:Cx}{cm:String->Addr}{E:L2.St->XK}{CX:dJ}{k n:Nat}{f:Addr}{fd:FuncData}{ps:List Str}{mf:MF}{mr:M (List Slot)}{x:Str}{p pos:Pos}{e:Expr}{es:List Expr}{ds:List Value}{wK:List V}{Kw:List Slot}
def uH{sp:Sp}{pins:List (Addr×Obj)}{σ:L2.St}{H:Hp}{s:Shared}{Q:VK}{us:List Value}{vs:List V}(F:ĸ X.prog X.w X.K X.mg X.base CX k f fd ps sp)(hr:Ľ k X.A)(hb:Binds X.K fd ps ds)(hd:Vals wK ds)(hx:ŭ CX X E)
 (I:Inv X pins σ H s)(r:Vals vs us)(h:sp (vs++wK) H Q (E σ)):wpAny (model X.prog X.w) X.A (call (.ref f) us) (EP X pins σ Q) X.xe s:=by
 have r2:Vals (vs++wK) (us++ds):=r.append hd
 have hl:(us++ds).length=ps.length:=by rw[<-r2.length];exact F.len _ _ _ _ h
 refine wpAny_call (codeAny_mono (F.run X.A X.stack s H ⟨us,[]⟩ (us++ds) (vs++wK) Q (E σ) hr I.env0 (hb s us I.fj hl) r2 h) λr s' hq=>?_)
 cases r with
 |error e=>exact hx pins σ H s e s' I hq
 |ok fl=>
  cases fl with
  |ret u=>exact I.after hq
  |next=>exact False.elim hq
  |brk=>exact False.elim hq
  |cont=>exact False.elim hq
def yg(hb:Binds X.K fd ps ds)(hd:Vals wK ds)(hdp:∀F H,Paired (ź (kk X cm) F H) Kw wK)(F:ĸ X.prog X.w X.K X.mg X.base CX k f fd ps (bB (kk X cm) n mf))(hlen:∀{ps:List Slot},(∃r,mf ps=r/\∀z,r=z->z≠ .bad)->ps.length=n)(hr:Ľ k X.A)(hg:Gl X x)(hm:X.mg x=some (.ref f))(hk:PySem.W.keepIn X.K (.ref f)=true)(hx:ŭ CX X E)
 (ha:PA X (e::es) (tA (kk X cm) E mr))(hdb:(x== ("__debug__" :Str))=false:=by decide)(he:starEach (e::es) X.env=(false,eval e X.env)::starEach es X.env:=by exact ŏ rfl)(hpl:(backTo pos (starEach es X.env)).any (·.1)=false:=by rfl) :
 PE X (.Call (.Name x p) (e::es) [] pos) (tO (kk X cm) E (gH mf Kw mr)):=by
 intro pins s σ H Q I h
 obtain⟨c,F,ρ,rel,h⟩:=h
 refine wpAny_Call_Name_kw (jy I hg hm ?_ hdb)
 refine PySem.W.callWith_K (h₀:= X.base) I.ok.mod.Ea hk (Ļ (ha pos pins s σ H (λvs H1=>bB (kk X cm) n mf (vs++wK) H1 Q (E σ)) I ⟨c,F,ρ,rel,h.bind λps' ρ1 vs F1 H1 Ĉ _ _ r1 h1=>fY hlen Ĉ (jF r1 (hdp F1 H1)) h1⟩) λus s1 ⟨vs,H1,I1,r,q⟩=>⟨I1.fj,?_⟩) he hpl
 exact uH (by assumption) hr hb hd hx I1 r q
def uI(d:Int)(hb:∃tk,Binds X.K fd ps [.int d tk])(F:ĸ X.prog X.w X.K X.mg X.base CX k f fd ps (bB (kk X cm) n mf))(hlen:∀{ps:List Slot},(∃r,mf ps=r/\∀z,r=z->z≠ .bad)->ps.length=n)(hr:Ľ k X.A)(hg:Gl X x)(hm:X.mg x=some (.ref f))(hk:PySem.W.keepIn X.K (.ref f)=true)(hx:ŭ CX X E)
 (ha:PA X (e::es) (tA (kk X cm) E mr))(hdb:(x== ("__debug__" :Str))=false:=by decide)(he:starEach (e::es) X.env=(false,eval e X.env)::starEach es X.env:=by exact ŏ rfl)(hpl:(backTo pos (starEach es X.env)).any (·.1)=false:=by rfl) :
 PE X (.Call (.Name x p) (e::es) [] pos) (tO (kk X cm) E (gH mf [.sh (.int d)] mr)):=by
 obtain⟨tk,hb⟩:=hb
 exact yg (wK:=[.int d]) hb (.cons ⟨tk,rfl⟩ .nil) (λF H=>.cons (show ź (kk X cm) F H (.sh (.int d)) (.int d) from Rep.int (K:=kk X cm) (F:=F)) .nil) F hlen hr hg hm hk hx ha hdb he hpl
def uJ{sp:Sp}{ks:List Str}{g:List Value->List Value->List Value}{gV:List V->List V->List V}{pins:List (Addr×Obj)}{σ:L2.St}{H:Hp}{s:Shared}{Q:VK}{us ws:List Value}{vs zs:List V}(F:ĸ X.prog X.w X.K X.mg X.base CX k f fd ps sp)(hr:Ľ k X.A)(hb:jA X.K fd ps ks g gV)(hx:ŭ CX X E)
 (I:Inv X pins σ H s)(r:Vals vs us)(rz:Vals zs ws)(h:sp (gV vs zs) H Q (E σ)):wpAny (model X.prog X.w) X.A (call (.ref f) us (ks.zip ws)) (EP X pins σ Q) X.xe s:=by
 have r2:=hb.rel r rz
 have hl:(g us ws).length=ps.length:=by rw[<-r2.length];exact F.len _ _ _ _ h
 refine wpAny_call (codeAny_mono (F.run X.A X.stack s H ⟨us,ks.zip ws⟩ (g us ws) (gV vs zs) Q (E σ) hr I.env0 (hb.to s us ws I.fj hl) r2 h) λr s' hq=>?_)
 cases r with
 |error e=>exact hx pins σ H s e s' I hq
 |ok fl=>
  cases fl with
  |ret u=>exact I.after hq
  |next=>exact False.elim hq
  |brk=>exact False.elim hq
  |cont=>exact False.elim hq
def yh{kn y:Str}{kpos ypos:Pos}(i:Nat)(hb:jA X.K fd ps [kn] uF uF)(F:ĸ X.prog X.w X.K X.mg X.base CX k f fd ps (bB (kk X cm) 4 mf))(hlen:∀{ps:List Slot},(∃r,mf ps=r/\∀z,r=z->z≠ .bad)->ps.length=4)(hr:Ľ k X.A)(hg:Gl X x)(hm:X.mg x=some (.ref f))(hk:PySem.W.keepIn X.K (.ref f)=true)(hx:ŭ CX X E)
 (ha:PA X (e::es) (tA (kk X cm) E mr))(hN:X.N[i]?=some y:=by rfl)(hv:lV X.env.scope y:=by first|exact Or.inl rfl|exact Or.inr (Or.inl rfl)|exact Or.inr (Or.inr rfl))(hd:(y== ("__debug__" :Str))=false:=by decide)(hcd:(y== ("__classdict__" :Str))=false:=by decide)
 (hdb:(x== ("__debug__" :Str))=false:=by decide)(he:starEach (e::es) X.env=(false,eval e X.env)::starEach es X.env:=by exact ŏ rfl)
 (hall:(backToKw pos (keywordEach [⟨some kn,.Name y ypos,kpos⟩] X.env)).all (·.1.isSome)=true:=by rfl)(hks:(backToKw pos (keywordEach [⟨some kn,.Name y ypos,kpos⟩] X.env)).filterMap (·.1)=[kn]:=by rfl)
 (hpl:((backTo pos (starEach (e::es) X.env)).any (·.1) || (backToKw pos (keywordEach [⟨some kn,.Name y ypos,kpos⟩] X.env)).any (·.1.isNone))=false:=by rfl) :
 PE X (.Call (.Name x p) (e::es) [⟨some kn,.Name y ypos,kpos⟩] pos) (tO (kk X cm) E (gJ mf mr i)):=by
 intro pins s σ H Q I h
 obtain⟨c,F',ρ,rel,h⟩:=h
 have hkw:PK X [⟨some kn,.Name y ypos,kpos⟩] (oA (lX i) wI):=wL (ŧ hN hv hd hcd) Aq
 refine wpAny_Call_Name_kw (jy I hg hm ?_ hdb)
 refine PySem.W.callWith_KW (h₀:= X.base) I.ok.mod.Ea hk hall (Ļ (ha pos pins s σ H (λvs H1=>oA (lX i) wI σ H1 λzs H2=>bB (kk X cm) 4 mf (uF vs zs) H2 Q (E σ)) I ⟨c,F',ρ,rel,h.bind λps' ρ1 vs F1 H1 Ĉ _ _ r1 h1=>?_⟩) λus s1 ⟨vs,H1,I1,r,q⟩=>?_) hpl he
 ·cases e1:ρ1[i]? with
  |none=>rw[e1] at h1;exact h1.elim
  |some sl=>
   rw[e1] at h1
   cases sl with
   |sh pv=>
    obtain⟨v,k1,k2⟩:=Ĉ.slot i _ e1
    refine⟨v,at_of k1,?_⟩
    have sp:=fY (vs:=vs ++ [v]) hlen Ĉ (jF r1 (.cons (show ź _ _ _ (.sh pv) v from k2) .nil)) h1
    have hl:(vs ++ [v]).length=4:=by
     obtain⟨F2,as,q1,_,q2,_⟩:=sp
     rw[<-Paired.length q2];exact q1
    show bB (kk X cm) 4 mf (uF vs [v]) H1 Q (E σ)
    rw[yd hl]
    exact sp
   |no=>exact h1.elim
   |ow _=>exact h1.elim
   |bw _=>exact h1.elim
   |rc _ _ _=>exact h1.elim
   |ot _ _=>exact h1.elim
   |ol _=>exact h1.elim
 ·refine Ļ (hkw pos pins s1 σ H1 _ I1 q) λws s2 ⟨zs,H2,I2,rz,q2⟩=>⟨I2.fj,?_⟩
  rw[hks]
  exact uJ F hr hb hx I2 r rz q2
end
def nJ{K:PySem.W.Frag}{x qual:Str}{st:Stmt}{ps:List Str}{T:Addr}{oT:Obj}{items:Array Value}{nT:Nat}{ds:List Value}{kV doc pm:Value}{an:Option Addr}{cdv ct:Value}(hT:K.lookup T=some oT)(hs:oT.data=.seq items nT)
 (h:∀us:List Value,(us++ds).length=ps.length->∃k:Option (Array Value)->Sem (List (Str×Value)),bindArgs (PySem.W.fnOf x qual (ı st) (Ġ st) (ă st) (.ref T) kV doc pm an cdv ct) ⟨us,[]⟩=seqItems? (.ref T) >>= k/\k (some items)=pure (ps.zip (us++ds))) :
 Binds K (PySem.W.fnOf x qual (ı st) (Ġ st) (ă st) (.ref T) kV doc pm an cdv ct) ps ds:=λs us X hl=>by
 obtain⟨k,h1,h2⟩:=h us hl
 exact PySem.W.binds_K X rfl hT hs h1 h2
def uK{K:PySem.W.Frag}{x qual kn:Str}{st:Stmt}{ps:List Str}{T:Addr}{oT:Obj}{items:Array Value}{nT:Nat}{kV doc pm:Value}{an:Option Addr}{cdv ct:Value}(hps:ps.length=4)(hT:K.lookup T=some oT)(hs:oT.data=.seq items nT)
 (h:∀a b c d:Value,∃k:Option (Array Value)->Sem (List (Str×Value)),bindArgs (PySem.W.fnOf x qual (ı st) (Ġ st) (ă st) (.ref T) kV doc pm an cdv ct) ⟨[a,b,c],[(kn,d)]⟩=seqItems? (.ref T) >>= k/\k (some items)=pure (ps.zip [a,b,c,d])) :
 jA K (PySem.W.fnOf x qual (ı st) (Ġ st) (ă st) (.ref T) kV doc pm an cdv ct) ps [kn] uF uF:=⟨λs us ws X hl=>by
 rw[hps] at hl
 match us,ws,hl with
 | [a,b,c],[d],_=>
   obtain⟨k,h1,h2⟩:=h a b c d
   exact PySem.W.binds_K X rfl hT hs h1 h2,λh1 h2=>uG h1 h2⟩
end P
namespace P
open PySem PySem.Spec PyProof.Rows L2 M2 M3 M5
section
variable{K:PySem.W.Frag}{h:Heap}{mg:Str->Option Value}{x q:Str}{st:Stmt}{ps:List Str}{f C:Addr}{oc kV dc pm cd ct:Value}{od an:Option Addr}{sl:Array (Option Value)}
end
end P
namespace P
open PySem PySem.Spec PyProof.Rows L2 M2 M3 M5
def lW{N ps:List Str}{sc:Scope}(h1:sc.kind=.function:=by rfl)(h2:sc.isCoroutine=false:=by rfl)(h3:sc.isGenerator=false:=by rfl)(h4:N.Nodup:=by decide +kernel)(h5:N.take ps.length=ps:=by rfl)(h6:∀x∈ps,sc.names.lookup x=some .local\/sc.names.lookup x=some .cell:=by decide +kernel)
 (h7:∀y∈sc.names,y.2≠ .free:=by decide +kernel):Ě N ps sc:=⟨h1,h2,h3,h4,h5,h6,h7⟩
section
variable{X:Cx}{cm:String->Addr}{E:L2.St->XK}{CX:dJ}{k j n:Nat}{f:Addr}{fd:FuncData}{ps:List Str}{mf:MF}{mr:M (List Slot)}{x:Str}{st:Stmt}{p pos:Pos}{e:Expr}{es:List Expr}
end
section
variable{Pg:Program}{w:World}{K:PySem.W.Frag}{mg:Str->Option Value}{base:Heap}{CX:dJ}{cm:String->Addr}
def cL{x qual:Str}{st:Stmt}{f:Addr}{fd:FuncData}{N ps:List Str}{k n j:Nat}{mb:M Fl}{mf:MF}(F:fM K x qual st f fd)(S:Ě N ps (ă st))
 (hbody:∀(cdv:Value) (A:Around) (outer:List Env) (s:Shared) (H:Hp) (E:XK),Ľ k (A.deeper (envOfC qual (ă st) s.heap.objs.size f cdv))→(A.deeper (envOfC qual (ă st) s.heap.objs.size f cdv)).units+64<cLine→
   dI (ig CX Pg w K mg base N qual (ă st) f cdv A outer s H E) (Ġ st) (tS ⟨K,cm⟩ (λ_=>E) mb))(hn:ps.length=n:=by rfl)(hj:N.length=j:=by rfl)(hf:mf=ŕ n j mb:=by rfl):ĸ Pg w K mg base CX (k+1) f fd ps (bB ⟨K,cm⟩ n mf):=
 Vn F S hn hj hf λcdv A outer s H E hr=>hbody cdv A outer s H E hr hr.units
end
end P
namespace P
open PySem PySem.Spec PyProof.Rows L2 M2 M3 M4
def Sx(K:KK):RR (List PV) V:=λ_ _ _ F H items v=>∃a,v=.ref a/\(∃xs,ń K.K H a xs)/\Ż K (ctx0 F H).L F (yE K.K a) items
def yj(i:Nat):M (List PV):=λρ=>match ρ[i]? with
 |some (.bw ps)=>.ok ps ρ
 |some (.sh (.lst ps))=>.ok ps ρ
 |some (.ow ps)=>.ok ps ρ
 |_=>.bad
@[simp] theorem Pq{i:Nat}{ρ:ĥ}:yj i ρ=(match ρ[i]? with
  |some (.bw ps)=>.ok ps ρ
  |some (.sh (.lst ps))=>.ok ps ρ
  |some (.ow ps)=>.ok ps ρ
  |_=>.bad):=rfl
section
variable{X:Cx}{cm:String->Addr}{E:L2.St->XK}{e:Expr}{m:M PV}
def Pr(i:Nat){x:Str}{px:Pos}(hN:X.N[i]?=some x:=by rfl)(hv:lV X.env.scope x:=by first|exact Or.inl rfl|exact Or.inr (Or.inl rfl)|exact Or.inr (Or.inr rfl))(hd:(x== ("__debug__" :Str))=false:=by decide)
 (hcd:(x== ("__classdict__" :Str))=false:=by decide):PE X (.Name x px) (tG (kk X cm) E (Sx (kk X cm)) (yj i)):=PE.wk (ŧ hN hv hd hcd) λσ H Q ⟨c,F,ρ,rel,h⟩=>by
 unfold yj at h
 cases e:ρ[i]? with
 |none=>rw[e] at h;exact h.elim
 |some sl=>
  rw[e] at h
  cases sl with
  |ow ps=>
   obtain⟨a,vs,h1,h2,h3,h4,h5⟩:=rel.slot i _ e
   have hl:(ctx0 F H).L a=some (.lst vs):=by
    show(match F a with|none=>H a|some _=>none)=_
    rw[h3];exact h2
   exact⟨.ref a,at_of h1,h _ F H rel (Same.refl _) (Same.refl _) ⟨a,rfl,⟨vs,ń.of h2⟩,bx hl h5⟩⟩
  |bw ps=>
   obtain⟨a,vs,h1,h2,h3⟩:=rel.slot i _ e
   exact⟨.ref a,at_of h1,h _ F H rel (Same.refl _) (Same.refl _) ⟨a,rfl,⟨vs,ń.of (rel.lent a _ h2).1⟩,bx (yO rel h2) h3⟩⟩
  |sh p=>
   obtain⟨v,h1,h2⟩:=rel.slot i _ e
   cases p with
   |lst ps=>
    obtain⟨a,e1,⟨xs,e2⟩,e3⟩:=aY (L:=(ctx0 F H).L) h2
    exact⟨v,at_of h1,h v F H rel (Same.refl _) (Same.refl _) ⟨a,e1,⟨xs,rel.sub.seq e2⟩,e3⟩⟩
   |_=>exact h.elim
  |_=>exact h.elim
def yq{elts:List Expr}{k:Nat}{tp p pos:Pos}{mi:M (List PV)}(hg:Gl X "enumerate")(hm:X.mg "enumerate" =none)(hl:PE X e (tG (kk X cm) E (Sx (kk X cm)) mi))(hs:starEach [e] X.env=[(false,eval e X.env)]:=by exact ŏ rfl) :
 PI X (.Tuple elts k tp) (.Call (.Name "enumerate" p) [e] [] pos) (tG (kk X cm) E (tW (kk X cm)) (lg mi)):=λpins s σ H R I h=>pH hg hm (ŗ hl bN hs) hs pins s σ H R I (by
 obtain⟨c,F,ρ,rel,h⟩:=h
 refine⟨c,F,ρ,rel,h.bind λps ρ1 v F1 H1 Ĉ s1 s2 q h1=>?_⟩
 obtain⟨a,e1,e2,e3⟩:=q
 subst e1
 exact⟨a,rfl,e2,h1 _ F1 H1 Ĉ (Same.refl _) (Same.refl _) (jg e3)⟩)
end
end P
namespace P
open PySem PySem.Spec PyProof.Rows L2 M2 M3 M4
section
variable{X:Cx}{cm:String->Addr}{E:L2.St->XK}{elt tg iter:Expr}{ifs:List Expr}{scope:Scope}{pos:Pos}{mi:M (List PV)}{g:Tg}{mt:M Bool}{me:M PV}{js:List Nat}{nl:Nat}
end
end P
namespace P
open PySem PySem.Spec PyProof.Rows L2 M2 M3 M4
section
variable{X:Cx}
end
section
variable{X:Cx}{cm:String->Addr}{K:KK}{E:L2.St->XK}{o e:Expr}{es:List Expr}{name:Str}{apos cpos:Pos}{id:String}{r:V->List V->Hp->VK->Prop}{f:PV->List PV->Option PV}{mo:M PV}{ms:M (List PV)}
end
end P
namespace My
end My
namespace T
open PySem L2 M2 M3 M4 P
noncomputable section
def top(i:Nat):Stmt:=PySem.Challenge.pw_shadowpost_k41_a_choice_and_its_paper.main.body.getD i (.Pass ⟨0,0,0,0⟩)
abbrev lJ:Stmt:=top 7
abbrev qO:Stmt:=top 12
abbrev uL:Stmt:=top 10
abbrev qP:Stmt:=top 11
abbrev uM:Stmt:=top 9
abbrev uN:Stmt:=top 13
abbrev lK:Stmt:=top 14
abbrev uO:Stmt:=top 16
abbrev uP:Stmt:=top 8
abbrev uQ:Stmt:=top 15
abbrev jm:Stmt:=top 2
abbrev jo:Stmt:=top 4
abbrev uR:Stmt:=top 1
abbrev lM:Stmt:=top 3
abbrev iJ:Stmt:=top 5
abbrev bK:Stmt:=top 17
def nM:M Fl:=(Ģ (eU (bA (Ą xP (ā 1) (cU cX (Ċ (ā 0) ĝ))))
 (ł (aV (Ą ĩ (ā 0) (ā 1))))
 iz)
 (ł (aV (mC (.int 0)))))
def Ĳ:MF:=ŕ 2 2 nM
def pN:M Fl:=(Ķ 2 (ő ň (ā 2) (ē (Ů [3] 1 (cV 2) (gN 1) bQ (Ą oZ (ā 1) (ā 0))))))
def uT:M Fl:=(Ģ (Ķ 2 (cT (Ċ (Ī 1) ĝ)))
 (Ģ (iB (cV 0) (gN 3) pN)
 (ł (bH 2))))
def lN:MF:=ŕ 2 4 uT
def pO:M Fl:=(eU (bA (Ą Ō (Ą ħ (Ą cD (ā 0) (ā 2)) (mC (.int 2))) (mC (.int 0))))
 (ł (bH 2))
 iz)
def uU:M Fl:=(Ģ (iB (Ş Š (Ċ (Ī 1) ĝ)) (gN 2) pO)
 (ł (aV (mC .non))))
def gK:MF:=ŕ 2 3 uU
def zf:M Fl:=(ł (aV (cU iG (Ċ (ē (Ů [0,1] 1 (Ş Š (Ċ (cU cX (Ċ (ā 0) ĝ)) ĝ)) (gN 2) (bA (Ą Ō (Ą ħ (Ą cD (ā 1) (ā 2)) (mC (.int 2))) (mC (.int 1)))) (Ą ĩ (ā 0) (ā 2)))) ĝ))))
def lO:MF:=ŕ 2 2 zf
def zj:M Fl:=(ł (aV (mL (cU dN (Ċ (ā 0) (Ċ (mC (.ty "int")) ĝ))) (BL (cU dN (Ċ (ā 0) (Ċ (mC (.ty "bool")) ĝ)))))))
def dU:MF:=ŕ 1 1 zj
def pP:M Fl:=(eU (fW (oR (bA (Ą aF (ā 3) (mC .non))) (aL (cu (ē (đ dU (Ă 3 Ď)))))) (bA (Ą aD (ā 3) (ē (đ gK (Ă 4 (Ă 2 Ď)))))))
 (ł (aV (mC (.bl false))))
 iz)
def uV:M Fl:=(Ģ (eU (fW (aL (cu (cU dN (Ċ (ā 0) (Ċ (mC (.ty "list")) ĝ))))) (bA (Ą aD (cU cX (Ċ (ā 0) ĝ)) (cU cX (Ċ (ā 1) ĝ)))))
 (ł (aV (mC (.bl false))))
 iz)
 (Ģ (iB (xW (nD 0) (nD 1)) (gT 2 (Ĵ (gN 3) (Ĵ (gN 4) bI))) pP)
 (ł (aV (mC (.bl true))))))
def nO:MF:=ŕ 3 5 uV
def jW:M Fl:=(eU (oR (bA (Ą m_ (Ą ĩ (Ą ĩ (ā 0) (mC (.int 3))) (ā 4)) (mC .non))) (bA (Ą lH (tu (Ċ (ē (đ lO (Ă 1 (Ă 4 Ď)))) (Ċ (Ī 4) ĝ))) (tu (Ċ (Ą ĩ (ā 0) (mC (.int 2))) (Ċ (Ą ĩ (ā 0) (mC (.int 1))) ĝ))))))
 (ł (aV (mC (.bl false))))
 iz)
def nP:M Fl:=(Ģ (eU (aL (cu (cU dN (Ċ (ā 0) (Ċ (mC (.ty "tuple")) ĝ)))))
 (ł (aV (mC (.bl false))))
 iz)
 (Ģ (eU (bA (Ą aF (ē (đ gK (č (Ą ĩ (ā 2) (Ef gq (mC (.int 1)))) (Ă 3 Ď)))) (mC .non)))
 (ł (aV (mL (Ą Ō (cU cX (Ċ (ā 0) ĝ)) (mC (.int 2))) (mL (Ą Ō (Ą ĩ (ā 0) (mC (.int 0))) (mC (.str "none"))) (mL (ē (đ dU (č (Ą ĩ (ā 0) (mC (.int 1))) Ď))) (Ą Ō (Ą ĩ (ā 0) (mC (.int 1))) (ē (đ gK (č (Ą ĩ (ā 2) (Ef gq (mC (.int 1)))) (Ă 3 Ď))))))))))
 iz)
 (Ģ (eU (fW (bA (Ą aD (cU cX (Ċ (ā 0) ĝ)) (mC (.int 4)))) (fW (bA (Ą aD (Ą ĩ (ā 0) (mC (.int 0))) (mC (.str "choice")))) (fW (aL (cu (ē (đ dU (č (Ą ĩ (ā 0) (mC (.int 1))) Ď))))) (aL (cu (ē (đ dU (č (Ą ĩ (ā 0) (mC (.int 2))) Ď))))))))
 (ł (aV (mC (.bl false))))
 iz)
 (Ģ (eU (fW (aL (cu (ē (đ nO (č (Ą ĩ (ā 0) (mC (.int 3))) (Ă 2 (Ă 3 Ď))))))) (fW (aL (bA (xG Ce xP (mC (.int 0)) (Ą ĩ (ā 0) (mC (.int 1))) (cU cX (Ċ (ā 2) ĝ))))) (bA (Ą aF (Ą ĩ (Ą ĩ (ā 0) (mC (.int 3))) (Ą ĩ (ā 0) (mC (.int 1)))) (mC .non)))))
 (ł (aV (mC (.bl false))))
 iz)
 (Ģ (eU (bA (Ą aD (Ą ĩ (ā 0) (mC (.int 2))) (ē (đ lO (Ă 1 (č (Ą ĩ (ā 0) (mC (.int 1))) Ď))))))
 (ł (aV (mC (.bl false))))
 iz)
 (Ģ (iB (Ş Š (Ċ (cU cX (Ċ (ā 2) ĝ)) ĝ)) (gN 4) jW)
 (ł (aV (mC (.bl true))))))))))
def Ž:MF:=ŕ 4 5 nP
def lQ:M Fl:=(ł (aV (Ą ĩ (ē (cT (Ċ (mC (.int 0)) (Ċ (Ą ħ (Ą ŋ (ā 0) (mC (.int 4))) (mC (.int 4))) (Ċ (Ą ħ (Ą ŋ (ā 0) (mC (.int 4))) (mC (.int 4))) (Ċ (Ą ħ (Ą ŋ (ā 0) (mC (.int 4))) (ē (ő ň (Ą tZ (mC (.int 10)) (mC (.int 9))) (mC (.int 1))))) ĝ)))))) (Ą ħ (ā 0) (mC (.int 4))))))
def dW:MF:=ŕ 1 1 lQ
def jq:M Fl:=(eU (bA (Ą Ō (Ą ħ (ā 0) (mC (.int 2))) (mC (.int 0))))
 (Ģ (tH 2 (Ą ħ (ā 3) (mC (.int 524287))))
 (Ķ 3 (aV (Ą ŋ (ā 3) (mC (.int 524287))))))
 (Ģ (Ķ 3 (aV (Ą ħ (ē (ő ň (ē (ő ň (Ą Œ (ā 3) (mC (.int 49157))) (mC (.int 24593)))) (Ą Œ (mC (.int 2)) (ā 4)))) (mC (.int 8388593)))))
 (tH 2 (Ą ŋ (ā 3) (mC (.int 16))))))
def uW:M Fl:=(Ģ (Ķ 2 (cT ĝ))
 (Ģ (Ķ 3 (aV (Ą ŋ (ā 0) (mC (.int 2)))))
 (Ģ (eU (bA (Ą Ō (Ą ħ (ā 0) (mC (.int 2))) (mC (.int 1))))
 (Ķ 3 (aV (Ą ħ (ā 3) (mC (.int 8388593)))))
 iz)
 (Ģ (iB (Ş Š (Ċ (Ī 1) ĝ)) (gN 4) jq)
 (ł (bH 2))))))
def nQ:MF:=ŕ 2 5 uW
def jr:M Fl:=(Ķ 2 (ő ň (Ą Œ (mC (.int 2)) (ā 2)) (cU gC (Ċ (Ą Ō (Ą Cg (Ą ħ (ā 4) (ā 3)) (mC (.int 0))) (Ą Ō (Ą ħ (Ą ŋ (ā 0) (mC (.int 4))) (mC (.int 2))) (mC (.int 0)))) ĝ))))
def zm:M Fl:=(Ģ (Ķ 2 (aV (mC (.int 0))))
 (Ģ (Ķ 3 (ő ň (mC (.int 2)) (Ą ħ (ā 0) (mC (.int 4)))))
 (Ģ (iB (aA (ē (đ nQ (č (Ą ŋ (ā 0) (mC (.int 4))) (Ă 1 Ď))))) (gN 4) jr)
 (ł (bH 2)))))
def dX:MF:=ŕ 2 5 zm
def nR:M Fl:=(ł (Ů [1] 2 (lg (xT 0)) (gT 2 (Ĵ (gN 1) (Ĵ (gN 2) bI))) (cu (Ą cW (Ą cD (ā 0) (ā 1)) (mC (.int 1)))) (Ī 2)))
def Ţ:MF:=ŕ 2 2 nR
def jX:M Fl:=(ł (aV (uE [0] (cU iG (Ċ (ē (đ Ţ (Ă 0 (Ă 1 Ď)))) ĝ)) (Ċ (ā 1) ĝ))))
def dD:MF:=ŕ 2 2 jX
def pQ:M Fl:=(eU (aL (cu (Ą cW (Ą cD (ā 0) (ā 2)) (mC (.int 1)))))
 (ł (bH 2))
 iz)
def uX:M Fl:=(Ģ (iB (Ş Š (Ċ (Ī 1) ĝ)) (gN 2) pQ)
 (ł (aV (mC .non))))
def jY:MF:=ŕ 2 3 uX
def gM:M Fl:=(pJ 3 (Ī 4))
def nU:M Fl:=(Ģ (Ķ 3 (aV (Ī 2)))
 (Ģ (iB (aA (ē (đ Ţ (Ă 0 (Ă 1 Ď))))) (gN 4) gM)
 (ł (bH 3))))
def bL:MF:=ŕ 3 5 nU
def jt:M Fl:=(Ģ (Ķ 4 (Ů [2,1,3] 1 (Ş Š (Ċ (Ą t_ (mC (.int 1)) (cU cX (Ċ (ā 0) ĝ))) ĝ)) (gN 3) bQ (ē (đ jY (č (ē (đ bL (Ă 1 (Ă 3 (Ă 2 Ď))))) (Ă 0 Ď))))))
 (Ģ (eU (bA (Ą aF (Ą ĩ (ā 4) (Ef gq (mC (.int 1)))) (mC .non)))
 (ł (aV (tu (Ċ (mC (.str "none")) (Ċ (Ą ĩ (ā 4) (Ef gq (mC (.int 1)))) ĝ)))))
 iz)
 (Ģ (Ķ 5 (đ dD (Ă 0 (č (ē (Ů [] 2 (lg (yj 4)) (gT 2 (Ĵ (gN 0) (Ĵ (gN 1) bI))) (bA (Ą m_ (ā 1) (mC .non))) (Ī 0))) Ď))))
 (ł (lG (bR (mC (.str "choice")) (bR (Ī 5) (bR (cU iG (Ċ (ē (đ Ţ (Ă 0 (Ă 5 Ď)))) ĝ)) (lF (bH 4))))))))))
def aZ:MF:=ŕ 4 6 jt
def uY:M Fl:=(Ģ (Ķ 1 (đ Ĳ (Ă 0 (č (mC (.int 0)) Ď))))
 (Ģ (Ķ 2 (aV (Ą ĩ (ē (cT (Ċ (Ą ħ (ā 1) (mC (.int 7))) (Ċ (ē (ő ň (mC (.int 7)) (Ą ħ (ā 1) (mC (.int 2))))) ĝ)))) (cU gC (Ċ (Ą Ō (Ą ħ (Ą ŋ (ā 1) (mC (.int 14))) (mC (.int 8))) (mC (.int 3))) ĝ)))))
 (Ģ (Ķ 3 (aV (Ą ĩ (ē (cT (Ċ (Ą ħ (Ą ŋ (ā 1) (mC (.int 112))) (mC (.int 10))) (Ċ (Ą oX (mC (.int 300)) (Ą ħ (Ą ŋ (ā 1) (mC (.int 112))) (mC (.int 291)))) ĝ)))) (cU gC (Ċ (Ą Ō (Ą ħ (Ą ŋ (ā 1) (mC (.int 32592))) (mC (.int 16))) (mC (.int 9))) ĝ)))))
 (Ģ (Ķ 4 (Ů [0] 1 (Ş Š (Ċ (Ī 2) ĝ)) (gN 1) bQ (ē (đ dW (č (ē (đ Ĳ (Ă 0 (č (ē (ő ň (mC (.int 2)) (Ą Œ (mC (.int 2)) (ā 1)))) Ď)))) Ď)))))
 (Ģ (Ķ 5 (Ů [3,0] 1 (Ş Š (Ċ (Ī 2) ĝ)) (gN 2) bQ (ē (đ dX (č (ē (đ Ĳ (Ă 1 (č (ē (ő ň (mC (.int 3)) (Ą Œ (mC (.int 2)) (ā 2)))) Ď)))) (Ă 0 Ď))))))
 (Ģ (Ķ 6 (aV (mC (.int 0))))
 (Ģ (eU (bA (Ą Ō (Ą ħ (ē (đ Ĳ (Ă 0 (č (mC (.int 1)) Ď)))) (mC (.int 3))) (mC (.int 1))))
 (Ķ 6 (đ dX (č (Ą ŋ (ē (đ Ĳ (Ă 0 (č (mC (.int 1)) Ď)))) (mC (.int 3))) (Ă 3 Ď))))
 iz)
 (Ģ (Ķ 7 (đ lN (Ă 5 (Ă 6 Ď))))
 (Ģ (Ķ 8 (cT (Ċ (ē (qJ dB (Ċ (ā 4) ĝ))) (Ċ (ē (qJ dB (Ċ (ā 5) ĝ))) ĝ))))
 (Ģ (eU (bA (Ą Ō (ā 6) (mC (.int 0))))
 (Ķ 9 (gH aZ [.sh (.int 0)] (č (Ą ĩ (ā 8) (mC (.int 0))) (č (Ą ĩ (ā 8) (mC (.int 1))) (Ă 3 Ď)))))
 (Ķ 9 (đ aZ (č (Ą ĩ (ā 8) (mC (.int 0))) (č (Ą ĩ (ā 8) (mC (.int 1))) (Ă 3 (Ă 6 Ď)))))))
 (Ģ (eU (cJ 9 (fW (aL (cu (ē (đ Ž (Ă 9 (Ă 4 (Ă 7 (Ă 3 Ď)))))))) (bA (Ą aD (ā 8) (ē (cT (Ċ (Ī 4) (Ċ (Ī 5) ĝ))))))))
 (ł (aV (mC (.bl false))))
 iz)
 (Ģ (eU (cJ 9 (bA (Ą Ō (Ą ĩ (ā 9) (mC (.int 0))) (mC (.str "choice")))))
 (jj 9 3 (mC .non))
 iz)
 (ł (đ Ž (č (ē (gJ aZ (Ă 4 (Ă 5 (Ă 3 Ď))) 6)) (Ă 4 (Ă 7 (Ă 3 Ď))))))))))))))))))
def dF:MF:=ŕ 1 10 uY
set_option genInjectivity false
set_option genSizeOf false
structure Ky where
 {uZ CJ CK CN CP CQ u_ CT CW CZ vd pR C_ vf Dc vg:Addr}
 {vh Dd Df Dg Dh Di vm Dj Dk Dl vo vp Dm vq vA vB:FuncData}
def j_(_:Ky):String->Addr:=λ_=>0
structure Tx(K:PySem.W.Frag)(mg:Str->Option Value)(a:Ky):Prop where
 ju:fM K "_law_at" "_law_at" lJ a.uZ a.vh
 Ĳ:mg "_law_at" =some (.ref a.uZ)
 lR:Binds K a.vh ["_law_script","_law_k"] []
 Hq:fM K "_law_meets" "_law_meets" qO a.CJ a.Dd
 lN:mg "_law_meets" =some (.ref a.CJ)
 Pu:Binds K a.Dd ["_law_covers","_law_ahead"] []
 yr:fM K "_law_unmet" "_law_unmet" uL a.CK a.Df
 gK:mg "_law_unmet" =some (.ref a.CK)
 Dp:Binds K a.Df ["_law_found","_law_many"] []
 Dq:fM K "_law_price" "_law_price" qP a.CN a.Dg
 lO:mg "_law_price" =some (.ref a.CN)
 Hr:Binds K a.Dg ["_law_prices","_law_choice"] []
 vC:fM K "_law_whole" "_law_whole" uM a.CP a.Dh
 dU:mg "_law_whole" =some (.ref a.CP)
 yt:Binds K a.Dh ["_law_found"] []
 Hs:fM K "_law_paper" "_law_paper" uN a.CQ a.Di
 nO:mg "_law_paper" =some (.ref a.CQ)
 Px:Binds K a.Di ["_law_paper_here","_law_meets_here","_law_many"] []
 vD:fM K "_law_told" "_law_told" lK a.u_ a.vm
 Ž:mg "_law_told" =some (.ref a.u_)
 zq:Binds K a.vm ["_law_told_here","_law_prices","_law_meets_here","_law_many"] []
 Ht:fM K "_law_money" "_law_money" uO a.CT a.Dj
 dW:mg "_law_money" =some (.ref a.CT)
 Py:Binds K a.Dj ["_law_cell"] []
 Hu:fM K "_law_grains" "_law_grains" uP a.CW a.Dk
 nQ:mg "_law_grains" =some (.ref a.CW)
 Pz:Binds K a.Dk ["_law_cell","_law_many"] []
 Dr:fM K "_law_wants" "_law_wants" uQ a.CZ a.Dl
 dX:mg "_law_wants" =some (.ref a.CZ)
 Hv:Binds K a.Dl ["_law_cell","_law_many"] []
 pU:fM K "chosen" "chosen" jm a.vd a.vo
 Ţ:mg "chosen" =some (.ref a.vd)
 vG:Binds K a.vo ["values","choice"] []
 zu:fM K "cheapest" "cheapest" jo a.pR a.vp
 dD:mg "cheapest" =some (.ref a.pR)
 Hw:Binds K a.vp ["prices","choices"] []
 Hx:fM K "least_missing" "least_missing" uR a.C_ a.Dm
 jY:mg "least_missing" =some (.ref a.C_)
 PB:Binds K a.Dm ["met","many"] []
 zx:fM K "met_by" "met_by" lM a.vf a.vq
 bL:mg "met_by" =some (.ref a.vf)
 Hy:Binds K a.vq ["covers","choice","base"] []
 yu:Cw K "least_choice" "least_choice" iJ a.Dc a.vA
 aZ:mg "least_choice" =some (.ref a.Dc)
 PJ:Binds K a.vA ["prices","covers","many","base"] []
 dY:∃tk,Binds K a.vA ["prices","covers","many","base"] [.int 0 tk]
 dZ:jA K a.vA ["prices","covers","many","base"] ["base"] uF uF
 Hz:fM K "law" "law" bK a.vg a.vB
 dF:mg "law" =some (.ref a.vg)
 Sy:Binds K a.vB ["_law_script"] []
 nW:xY K "cheapest" a.pR=true
 Ds:mg "bool" =none
 dG:mg "enumerate" =none
 pW:mg "int" =none
 Ť:mg "isinstance" =none
 cM:mg "len" =none
 nY:mg "list" =none
 HB:mg "min" =none
 ű:mg "range" =none
 vH:mg "sum" =none
 yw:mg "tuple" =none
 HD:mg "zip" =none
def Dt:Ě ["_law_script","_law_k"] ["_law_script","_law_k"] (ă lJ):=lW
def pX:Ě ["_law_covers","_law_ahead","_law_found","_law_one"] ["_law_covers","_law_ahead"] (ă qO):=lW
def zy:Ě ["_law_found","_law_many","_law_want"] ["_law_found","_law_many"] (ă uL):=lW
def HF:Ě ["_law_prices","_law_choice"] ["_law_prices","_law_choice"] (ă qP):=lW
def HJ:Ě ["_law_found"] ["_law_found"] (ă uM):=lW
def vI:Ě ["_law_paper_here","_law_meets_here","_law_many","_law_one","_law_bits"] ["_law_paper_here","_law_meets_here","_law_many"] (ă uN):=lW
def vJ:Ě ["_law_told_here","_law_prices","_law_meets_here","_law_many","_law_other"] ["_law_told_here","_law_prices","_law_meets_here","_law_many"] (ă lK):=lW
def HN:Ě ["_law_cell"] ["_law_cell"] (ă uO):=lW
def gO:Ě ["_law_cell","_law_many","_law_found","_law_number","_law_k"] ["_law_cell","_law_many"] (ă uP):=lW
def lU:Ě ["_law_cell","_law_many","_law_found","_law_part","_law_number"] ["_law_cell","_law_many"] (ă uQ):=lW
def Du:Ě ["values","choice"] ["values","choice"] (ă jm):=lW
def Dv:Ě ["prices","choices"] ["prices","choices"] (ă jo):=lW
def zA:Ě ["met","many","want"] ["met","many"] (ă uR):=lW
def jZ:Ě ["covers","choice","base","met","cover"] ["covers","choice","base"] (ă lM):=lW
def vK:Ě ["prices","covers","many","base","paper","choice"] ["prices","covers","many","base"] (ă iJ):=lW
def ş:Ě ["_law_script","_law_cell","_law_count","_law_many","_law_prices","_law_covers","_law_ahead","_law_meets_here","_law_handed","_law_told_here"] ["_law_script"] (ă bK):=lW
section
variable{P:Program}{w:World}{K:PySem.W.Frag}{mg:Str->Option Value}{base:Heap}{a:Ky}
def gP(T:Tx K mg a):ĸ P w K mg base iV 1 a.uZ a.vh ["_law_script","_law_k"] (bB ⟨K,j_ a⟩ 2 Ĳ):=by
 refine cL T.ju Dt λ_ _ _ _ _ _ _ _=>?_
 exact(Č (aO (Ņ yU yI (Ć 1) (Ā (PE.wk (ģ aj (by rfl) T.cM PySem.boot_len (Ė (Ć 0) Ĭ)) λ_ _ _ h=>au aG h)) (Ĝ _))
  (Đ (Į (Ő (Ŋ Ĩ Ħ (Ć 0) (Ć 1) (λ_ _=>rfl)))))
  Ń)
  (Đ (Į (Ő ą))))
def HS(T:Tx K mg a):ĸ P w K mg base iV 1 a.CJ a.Dd ["_law_covers","_law_ahead"] (bB ⟨K,j_ a⟩ 2 lN):=by
 refine cL T.Hq pX λ_ _ _ _ _ _ _ _=>?_
 exact(Č (Ň (i:=2) pX.nd rfl (Or.inl rfl) (fX (ě (v_var 1) ņ)))
  (Č (dz PassesOwn.leaving rfl (tQ 0) (Ĺ (i:=3) pX.nd rfl (by first|exact Or.inl rfl|exact Or.inr rfl))
  (Đ (Ň (i:=2) pX.nd rfl (Or.inl rfl) (cj aC aB (Ć 2) (Ā (ĳ (mX ["_law_one","_law_bits"] [3] 1 (ă qO) rfl rfl (tQ 2) (λ_ _ _ _ _=>(Ĺ (i:=1) (show(["_law_one","_law_bits"]:List Str).Nodup by decide +kernel) rfl (Or.inl rfl) (hf:=Or.inr rfl))) (λ_ _ _ _ _=>jJ) (λ_ _ _ _ _=>(ĕ B_ Cd (Ć 1) (Ć 0))) ⟨rfl,⟨rfl,Or.inl rfl⟩,trivial⟩)))))))
  (Đ (Į (fV 2)))))
def vL(T:Tx K mg a):ĸ P w K mg base iV 1 a.CK a.Df ["_law_found","_law_many"] (bB ⟨K,j_ a⟩ 2 gK):=by
 refine cL T.yr zy λ_ _ _ _ _ _ _ hu=>?_
 exact(Č (dz PassesOwn.leaving rfl (ś rfl T.ű (ě (v_var 1) ņ)) (Ĺ (i:=2) zy.nd rfl (Or.inl rfl))
  (Đ (aO (Ņ ů (Ŏ hu) (Ā (ĕ İ į (Ā (ĕ jK jL (Ć 0) (Ć 2))) (Ā ą))) (Ā ą) (Ĝ _))
  (Đ (Į (fV 2)))
  Ń)))
  (Đ (Į (Ő cg))))
def zB(T:Tx K mg a):ĸ P w K mg base iV 1 a.CN a.Dg ["_law_prices","_law_choice"] (bB ⟨K,j_ a⟩ 2 lO):=by
 refine cL T.Dq HF λ_ _ _ _ _ _ _ hu=>?_
 exact(Đ (Į (Ő (PE.wk (ģ (nq rfl) (by rfl) T.vH PyProof.Rows.boot_sum (Ė (Ā (ĳ (mX ["_law_prices","_law_choice","_law_k"] [0,1] 1 (ă qP) rfl rfl (ś rfl T.ű (ě (PE.wk (ģ aj (by rfl) T.cM PySem.boot_len (Ė (Ć 0) Ĭ)) λ_ _ _ h=>au aG h) ņ)) (λ_ _ _ _ _=>(Ĺ (i:=2) (show(["_law_prices","_law_choice","_law_k"]:List Str).Nodup by decide +kernel) rfl (Or.inl rfl) (hf:=Or.inr rfl))) (λ_ _ _ _ _=>(mW (Ņ ů (Ŏ hu) (Ā (ĕ İ į (Ā (ĕ jK jL (Ć 1) (Ć 2))) (Ā ą))) (Ā ą) (Ĝ _)))) (λ_ _ _ _ _=>(Ŋ Ĩ Ħ (Ć 0) (Ć 2) (λ_ _=>rfl))) ⟨rfl,⟨rfl,Or.inl rfl⟩,⟨rfl,⟨rfl,Or.inl rfl⟩,trivial⟩⟩))) Ĭ)) λ_ _ _ h=>au nA h))))
def pY(T:Tx K mg a):ĸ P w K mg base iV 1 a.CP a.Dh ["_law_found"] (bB ⟨K,j_ a⟩ 1 dU):=by
 refine cL T.vC HJ λ_ _ _ _ _ _ _ _=>?_
 exact(Đ (Į (Ő (v_and (PE.wk (ģ jQ (by rfl) T.Ť PyProof.Rows.boot_isinstance (Ė (Ć 0) (Ė (Ā (yJ (.ty "int") (eE (v:=.ty "int") rfl T.pW PyProof.Rows.boot_int rfl))) Ĭ))) λ_ _ _ h=>au jR h) (yL (v_not (PE.wk (ģ jQ (by rfl) T.Ť PyProof.Rows.boot_isinstance (Ė (Ć 0) (Ė (Ā (yJ (.ty "bool") (eE (v:=.ty "bool") rfl T.Ds PyProof.Rows.boot_bool rfl))) Ĭ))) λ_ _ _ h=>au jR h)))))))
def HW(T:Tx K mg a):ĸ P w K mg base iV 2 a.CQ a.Di ["_law_paper_here","_law_meets_here","_law_many"] (bB ⟨K,j_ a⟩ 3 nO):=by
 refine cL T.Hs vI λ_ _ _ _ _ _ hr hu=>?_
 exact(Č (aO (PW.pt (w_or (cB (cA (Ā (PE.wk (ģ jQ (by rfl) T.Ť PyProof.Rows.boot_isinstance (Ė (Ć 0) (Ė (Ā (yJ (.ty "list") (eE (v:=.ty "list") rfl T.nY PyProof.Rows.boot_list rfl))) Ĭ))) λ_ _ _ h=>au jR h)))) (kO (Ņ jd (cQ hu) (Ā (PE.wk (ģ aj (by rfl) T.cM PySem.boot_len (Ė (Ć 0) Ĭ)) λ_ _ _ h=>au aG h)) (Ā (PE.wk (ģ aj (by rfl) T.cM PySem.boot_len (Ė (Ć 1) Ĭ)) λ_ _ _ h=>au aG h)) (Ĝ _)))))
  (Đ (Į (Ő iy)))
  Ń)
  (Č (dz PassesOwn.leaving rfl (G_ rfl T.HD (yZ 0) (yZ 1)) (tE rfl (bh (Ĺ (i:=3) vI.nd rfl (Or.inl rfl)) (bh (Ĺ (i:=4) vI.nd rfl (Or.inl rfl)) mQ)))
  (Đ (aO (PW.pt (w_or (PW.pt (w_and (Ņ cH eG (Ć 3) (Ā cg) (Ĝ _)) (sZ (cB (cA (Ā (ĳ (ğ (pY T) ď hr.mo rfl T.dU T.vC.kp T.yt ę (ċ 3 (hr:=Ę)))))))))) (kO (Ņ jd (cQ hu) (Ć 3) (Ā (ĳ (ğ (vL T) ď hr.mo rfl T.gK T.yr.kp T.Dp ę (ċ 4 (hr:=(ċ 2 (hr:=Ę))))))) (Ĝ _)))))
  (Đ (Į (Ő iy)))
  Ń)))
  (Đ (Į (Ő iy)))))
def vM(T:Tx K mg a):ĸ P w K mg base iV 3 a.u_ a.vm ["_law_told_here","_law_prices","_law_meets_here","_law_many"] (bB ⟨K,j_ a⟩ 4 Ž):=by
 refine cL T.vD vJ λ_ _ _ _ _ _ hr hu=>?_
 exact(Č (aO (cB (cA (Ā (PE.wk (ģ jQ (by rfl) T.Ť PyProof.Rows.boot_isinstance (Ė (Ć 0) (Ė (Ā (yJ (.ty "tuple") (eE (v:=.ty "tuple") rfl T.yw PyProof.Rows.boot_tuple rfl))) Ĭ))) λ_ _ _ h=>au jR h))))
  (Đ (Į (Ő iy)))
  Ń)
  (Č (aO (Ņ cH eG (Ā (ĳ (ğ (vL T) ď hr.mo rfl T.gK T.yr.kp T.Dp ę (Ğ (Ŋ Ĩ Ħ (Ć 2) (Ā (xu jM jE (Ā ą))) (λ_ _=>rfl)) (ċ 3 (hr:=Ę)))))) (Ā cg) (Ĝ _))
  (Đ (Į (Ő (v_and (dw ů (Ŏ hu) (Ā (PE.wk (ģ aj (by rfl) T.cM PySem.boot_len (Ė (Ć 0) Ĭ)) λ_ _ _ h=>au aG h)) (Ā ą) (Ĝ _)) (v_and (dw ů (Ŏ hu) (Ā (Ŋ Ĩ Ħ (Ć 0) (Ā ą) (λ_ _=>rfl))) (Ā kI) (Ĝ _)) (v_and (ĳ (ğ (pY T) ď hr.mo rfl T.dU T.vC.kp T.yt ę (Ğ (Ŋ Ĩ Ħ (Ć 0) (Ā ą) (λ_ _=>rfl)) Ę))) (yL (dw ů (Ŏ hu) (Ā (Ŋ Ĩ Ħ (Ć 0) (Ā ą) (λ_ _=>rfl))) (Ā (ĳ (ğ (vL T) ď hr.mo rfl T.gK T.yr.kp T.Dp ę (Ğ (Ŋ Ĩ Ħ (Ć 2) (Ā (xu jM jE (Ā ą))) (λ_ _=>rfl)) (ċ 3 (hr:=Ę)))))) (Ĝ _)))))))))
  Ń)
  (Č (aO (PW.pt (w_or (Ņ jd (cQ hu) (Ā (PE.wk (ģ aj (by rfl) T.cM PySem.boot_len (Ė (Ć 0) Ĭ)) λ_ _ _ h=>au aG h)) (Ā ą) (Ĝ _)) (w_or (Ņ jd (cQ hu) (Ā (Ŋ Ĩ Ħ (Ć 0) (Ā ą) (λ_ _=>rfl))) (Ā kI) (Ĝ _)) (w_or (cB (cA (Ā (ĳ (ğ (pY T) ď hr.mo rfl T.dU T.vC.kp T.yt ę (Ğ (Ŋ Ĩ Ħ (Ć 0) (Ā ą) (λ_ _=>rfl)) Ę)))))) (kO (cB (cA (Ā (ĳ (ğ (pY T) ď hr.mo rfl T.dU T.vC.kp T.yt ę (Ğ (Ŋ Ĩ Ħ (Ć 0) (Ā ą) (λ_ _=>rfl)) Ę)))))))))))
  (Đ (Į (Ő iy)))
  Ń)
  (Č (aO (PW.pt (w_or (cB (cA (Ā (ĳ (ğ (HW T) ď hr.mo rfl T.nO T.Hs.kp T.Px ę (Ğ (Ŋ Ĩ Ħ (Ć 0) (Ā ą) (λ_ _=>rfl)) (ċ 2 (hr:=(ċ 3 (hr:=Ę)))))))))) (w_or (cB (Gg Gp yU Fx yI (Ā ą) (Ā (Ŋ Ĩ Ħ (Ć 0) (Ā ą) (λ_ _=>rfl))) (Ā (PE.wk (ģ aj (by rfl) T.cM PySem.boot_len (Ė (Ć 2) Ĭ)) λ_ _ _ h=>au aG h)))) (kO (Ņ cH eG (Ā (Ŋ Ĩ Ħ (Ā (Ŋ Ĩ Ħ (Ć 0) (Ā ą) (λ_ _=>rfl))) (Ā (Ŋ Ĩ Ħ (Ć 0) (Ā ą) (λ_ _=>rfl))) (λ_ _=>rfl))) (Ā cg) (Ĝ _))))))
  (Đ (Į (Ő iy)))
  Ń)
  (Č (aO (Ņ jd (cQ hu) (Ā (Ŋ Ĩ Ħ (Ć 0) (Ā ą) (λ_ _=>rfl))) (Ā (ĳ (ğ (zB T) ď hr.mo rfl T.lO T.Dq.kp T.Hr ę (ċ 1 (hr:=(Ğ (Ŋ Ĩ Ħ (Ć 0) (Ā ą) (λ_ _=>rfl)) Ę)))))) (Ĝ _))
  (Đ (Į (Ő iy)))
  Ń)
  (Č (dz PassesOwn.leaving rfl (ś rfl T.ű (ě (PE.wk (ģ aj (by rfl) T.cM PySem.boot_len (Ė (Ć 2) Ĭ)) λ_ _ _ h=>au aG h) ņ)) (Ĺ (i:=4) vJ.nd rfl (Or.inl rfl))
  (Đ (aO (PW.pt (w_and (Ņ yV rm (Ā (Ŋ Ĩ Ħ (Ā (Ŋ Ĩ Ħ (Ć 0) (Ā ą) (λ_ _=>rfl))) (Ć 4) (λ_ _=>rfl))) (Ā cg) (Ĝ _)) (sZ (Ņ Cz (Cy hu) (Ā (tD (ě (ĳ (ğ (zB T) ď hr.mo rfl T.lO T.Dq.kp T.Hr ę (ċ 1 (hr:=(ċ 4 (hr:=Ę)))))) (ě (v_var 4) ņ)))) (Ā (tD (ě (Ŋ Ĩ Ħ (Ć 0) (Ā ą) (λ_ _=>rfl)) (ě (Ŋ Ĩ Ħ (Ć 0) (Ā ą) (λ_ _=>rfl)) ņ)))) (Ĝ _)))))
  (Đ (Į (Ő iy)))
  Ń)))
  (Đ (Į (Ő iy)))))))))
def HX(T:Tx K mg a):ĸ P w K mg base iV 1 a.CT a.Dj ["_law_cell"] (bB ⟨K,j_ a⟩ 1 dW):=by
 refine cL T.Ht HN λ_ _ _ _ _ _ _ _=>?_
 exact(Đ (Į (Ő (Ŋ Ĩ Ħ (Ā (ĳ (fX (ě ą (ě (ĕ İ į (Ā (ĕ Ŗ Ŀ (Ć 0) (Ā ą))) (Ā ą)) (ě (ĕ İ į (Ā (ĕ Ŗ Ŀ (Ć 0) (Ā ą))) (Ā ą)) (ě (ĕ İ į (Ā (ĕ Ŗ Ŀ (Ć 0) (Ā ą))) (Ā (ĳ (cj aC aB (Ā (ĕ BX Bh (Ā ą) (Ā ą))) (Ā ą))))) ņ))))))) (Ā (ĕ İ į (Ć 0) (Ā ą))) (λ_ _=>rfl)))))
def HY(T:Tx K mg a):ĸ P w K mg base iV 1 a.CW a.Dk ["_law_cell","_law_many"] (bB ⟨K,j_ a⟩ 2 nQ):=by
 refine cL T.Hu gO λ_ _ _ _ _ _ _ hu=>?_
 exact(Č (Ň (i:=2) gO.nd rfl (Or.inl rfl) (fX ņ))
  (Č (Ň (i:=3) gO.nd rfl (Or.inl rfl) (Ő (ĕ Ŗ Ŀ (Ć 0) (Ā ą))))
  (Č (aO (Ņ ů (Ŏ hu) (Ā (ĕ İ į (Ć 0) (Ā ą))) (Ā ą) (Ĝ _))
  (Đ (Ň (i:=3) gO.nd rfl (Or.inl rfl) (Ő (ĕ İ į (Ć 3) (Ā ą)))))
  Ń)
  (Č (dz PassesOwn.leaving rfl (ś rfl T.ű (ě (v_var 1) ņ)) (Ĺ (i:=4) gO.nd rfl (Or.inl rfl))
  (Đ (aO (Ņ ů (Ŏ hu) (Ā (ĕ İ į (Ć 0) (Ā ą))) (Ā ą) (Ĝ _))
  (Č (PS.wk (jz (rM PySem.F.plainAttrs_list PySem.F.slot_list_append PySem.F.type_list_append Ŷ (pv 2) (ě (ĕ İ į (Ć 3) (Ā ą)) ņ))) λ_ _ _ h=>oV h)
  (Đ (Ň (i:=3) gO.nd rfl (Or.inl rfl) (Ő (ĕ Ŗ Ŀ (Ć 3) (Ā ą))))))
  (Č (Ň (i:=3) gO.nd rfl (Or.inl rfl) (Ő (ĕ İ į (Ā (ĳ (cj aC aB (Ā (ĳ (cj aC aB (Ā (ĕ gn b_ (Ć 3) (Ā ą))) (Ā ą)))) (Ā (ĕ gn b_ (Ā ą) (Ć 4)))))) (Ā ą))))
  (Đ (PS.wk (jz (rM PySem.F.plainAttrs_list PySem.F.slot_list_append PySem.F.type_list_append Ŷ (pv 2) (ě (ĕ Ŗ Ŀ (Ć 3) (Ā ą)) ņ))) λ_ _ _ h=>oV h))))))
  (Đ (Į (fV 2)))))))
def zE(T:Tx K mg a):ĸ P w K mg base iV 2 a.CZ a.Dl ["_law_cell","_law_many"] (bB ⟨K,j_ a⟩ 2 dX):=by
 refine cL T.Dr lU λ_ _ _ _ _ _ hr hu=>?_
 exact(Č (Ň (i:=2) lU.nd rfl (Or.inl rfl) (Ő ą))
  (Č (Ň (i:=3) lU.nd rfl (Or.inl rfl) (cj aC aB (Ā ą) (Ā (ĕ İ į (Ć 0) (Ā ą)))))
  (Č (dz PassesOwn.leaving rfl (tM (ĳ (ğ (HY T) ď hr.mo rfl T.nQ T.Hu.kp T.Pz ę (Ğ (ĕ Ŗ Ŀ (Ć 0) (Ā ą)) (ċ 1 (hr:=Ę)))))) (Ĺ (i:=4) lU.nd rfl (Or.inl rfl))
  (Đ (Ň (i:=2) lU.nd rfl (Or.inl rfl) (cj aC aB (Ā (ĕ gn b_ (Ā ą) (Ć 2))) (Ā (PE.wk (ŵ ni (by rfl) T.pW PyProof.Rows.boot_int (Ė (Ā (dw ů (Ŏ hu) (Ā (dw Gq Fy (Ā (ĕ İ į (Ć 4) (Ć 3))) (Ā ą) (Ĝ _))) (Ā (dw ů (Ŏ hu) (Ā (ĕ İ į (Ā (ĕ Ŗ Ŀ (Ć 0) (Ā ą))) (Ā ą))) (Ā ą) (Ĝ _))) (Ĝ _))) Ĭ)) λ_ _ _ h=>au nj h))))))
  (Đ (Į (fV 2))))))
def nZ(T:Tx K mg a):ĸ P w K mg base iV 1 a.vd a.vo ["values","choice"] (bB ⟨K,j_ a⟩ 2 Ţ):=by
 refine cL T.pU Du λ_ _ _ _ _ _ _ _=>?_
 exact(Đ (Į (mX ["choice","number","value"] [1] 2 (ă jm) rfl rfl (Cj rfl T.dG (GQ 0)) (λ_ _ _ _ _=>(tE rfl (bh (Ĺ (i:=1) (show(["choice","number","value"]:List Str).Nodup by decide +kernel) rfl (Or.inl rfl) (hf:=Or.inr rfl)) (bh (Ĺ (i:=2) (show(["choice","number","value"]:List Str).Nodup by decide +kernel) rfl (Or.inl rfl) (hf:=Or.inr rfl)) mQ)))) (λ_ _ _ _ _=>(mW (cA (Ā (ĕ o_ pq (Ā (ĕ jK jL (Ć 0) (Ć 1))) (Ā ą)))))) (λ_ _ _ _ _=>(v_var 2)) ⟨rfl,⟨rfl,Or.inl rfl⟩,trivial⟩)))
def Dw(T:Tx K mg a):ĸ P w K mg base iV 4 a.pR a.vp ["prices","choices"] (bB ⟨K,j_ a⟩ 2 dD):=by
 refine Pk (cm:=j_ a) (mb:=jX) T.zu Dv rfl rfl rfl T.nW λcc Pt htb A outer s H E hr=>?_
 have hu:=hr.units
 exact(Đ (Į (Ő (Cv (k:=1) ["prices"] [0] (ă jo) hr.mo rfl rfl (by simp[lams]) htb rfl rfl rfl T.HB (Ė (Ć 1) Ĭ) (λ_ _ _ _ _ hr hu=>(PE.wk (ģ (nq rfl) (by rfl) T.vH PyProof.Rows.boot_sum (Ė (Ā (ĳ (ğ (nZ T) ď hr.mo rfl T.Ţ T.pU.kp T.vG ę (ċ 0 (hr:=(ċ 1 (hr:=Ę))))))) Ĭ)) λ_ _ _ h=>au nA h)) ⟨rfl,⟨rfl,Or.inl rfl⟩,trivial⟩))))
def H_(T:Tx K mg a):ĸ P w K mg base iV 1 a.C_ a.Dm ["met","many"] (bB ⟨K,j_ a⟩ 2 jY):=by
 refine cL T.Hx zA λ_ _ _ _ _ _ _ _=>?_
 exact(Č (dz PassesOwn.leaving rfl (ś rfl T.ű (ě (v_var 1) ņ)) (Ĺ (i:=2) zA.nd rfl (Or.inl rfl))
  (Đ (aO (cB (cA (Ā (ĕ o_ pq (Ā (ĕ jK jL (Ć 0) (Ć 2))) (Ā ą)))))
  (Đ (Į (fV 2)))
  Ń)))
  (Đ (Į (Ő cg))))
def Dy(T:Tx K mg a):ĸ P w K mg base iV 2 a.vf a.vq ["covers","choice","base"] (bB ⟨K,j_ a⟩ 3 bL):=by
 refine cL T.zx jZ λ_ _ _ _ _ _ hr _=>?_
 exact(Č (Ň (i:=3) jZ.nd rfl (Or.inl rfl) (Ő (v_var 2)))
  (Č (dz PassesOwn.leaving rfl (tM (ĳ (ğ (nZ T) ď hr.mo rfl T.Ţ T.pU.kp T.vG ę (ċ 0 (hr:=(ċ 1 (hr:=Ę))))))) (Ĺ (i:=4) jZ.nd rfl (Or.inl rfl))
  (Đ (Ck (i:=3) jZ.nd rfl (Or.inl rfl) (v_var 4))))
  (Đ (Į (fV 3)))))
def vN(T:Tx K mg a):ĸ P w K mg base iV 5 a.Dc a.vA ["prices","covers","many","base"] (bB ⟨K,j_ a⟩ 4 aZ):=by
 refine Pn (cm:=j_ a) (mb:=jt) T.yu vK rfl rfl rfl λcdv A outer s H E hr=>?_
 have hu:=hr.units
 exact(Č (nC (i:=4) vK.nd rfl rfl ["many","covers","base","choice"] [2,1,3] 1 (ă iJ) rfl rfl (ś rfl T.ű (ě (ĕ BZ Ca (Ā ą) (Ā (PE.wk (ģ aj (by rfl) T.cM PySem.boot_len (Ė (Ć 0) Ĭ)) λ_ _ _ h=>au aG h))) ņ)) (λ_ _ _ _ _=>(Ĺ (i:=3) (show(["many","covers","base","choice"]:List Str).Nodup by decide +kernel) rfl (Or.inl rfl) (hf:=Or.inr rfl))) (λ_ _ _ _ _=>jJ) (λ_ _ _ _ _=>(ĳ (ğ (H_ T) ď hr.mo rfl T.jY T.Hx.kp T.PB ę (Ğ (ĳ (ğ (Dy T) ď hr.mo rfl T.bL T.zx.kp T.Hy ę (ċ 1 (hr:=(ċ 3 (hr:=(ċ 2 (hr:=Ę)))))))) (ċ 0 (hr:=Ę)))))) ⟨rfl,⟨rfl,Or.inl rfl⟩,⟨rfl,⟨rfl,Or.inl rfl⟩,⟨rfl,⟨rfl,Or.inl rfl⟩,trivial⟩⟩⟩)
  (Č (aO (Ņ cH eG (Ā (Ŋ Ĩ Ħ (Ć 4) (Ā (xu jM jE (Ā ą))) (λ_ _=>rfl))) (Ā cg) (Ĝ _))
  (Đ (Į (Ő (tD (ě kI (ě (Ŋ Ĩ Ħ (Ć 4) (Ā (xu jM jE (Ā ą))) (λ_ _=>rfl)) ņ))))))
  Ń)
  (Č (Ň (i:=5) vK.nd rfl (Or.inl rfl) (ğ (Dw T) ď hr.mo rfl T.dD T.zu.kp T.Hw ę (ċ 0 (hr:=(Ğ (ĳ (oW ["number","want"] [] 2 (ă iJ) rfl rfl (yq rfl T.dG (Pr 4)) (λ_ _ _ _ _=>(tE rfl (bh (Ĺ (i:=0) (show(["number","want"]:List Str).Nodup by decide +kernel) rfl (Or.inl rfl) (hf:=Or.inr rfl)) (bh (Ĺ (i:=1) (show(["number","want"]:List Str).Nodup by decide +kernel) rfl (Or.inl rfl) (hf:=Or.inr rfl)) mQ)))) (λ_ _ _ _ _=>(mW (Ņ yV rm (Ć 1) (Ā cg) (Ĝ _)))) (λ_ _ _ _ _=>(v_var 0)) trivial)) Ę)))))
  (Đ (Į (Cu (jV kI (jV (v_var 5) (jV (PE.wk (ģ (nq rfl) (by rfl) T.vH PyProof.Rows.boot_sum (Ė (Ā (ĳ (ğ (nZ T) ď hr.mo rfl T.Ţ T.pU.kp T.vG ę (ċ 0 (hr:=(ċ 5 (hr:=Ę))))))) Ĭ)) λ_ _ _ h=>au nA h) (Cr (fV 4)))))))))))
def Dz(T:Tx K mg a):ĸ P w K mg base iV 6 a.vg a.vB ["_law_script"] (bB ⟨K,j_ a⟩ 1 dF):=by
 refine cL T.Hz ş λ_ _ _ _ _ _ hr hu=>?_
 exact(Č (Ň (i:=1) ş.nd rfl (Or.inl rfl) (ğ (gP T) ď hr.mo rfl T.Ĳ T.ju.kp T.lR ę (ċ 0 (hr:=(Ğ ą Ę)))))
  (Č (Ň (i:=2) ş.nd rfl (Or.inl rfl) (Ő (Ŋ Ĩ Ħ (Ā (ĳ (fX (ě (ĕ İ į (Ć 1) (Ā ą)) (ě (ĳ (cj aC aB (Ā ą) (Ā (ĕ İ į (Ć 1) (Ā ą))))) ņ))))) (Ā (PE.wk (ŵ ni (by rfl) T.pW PyProof.Rows.boot_int (Ė (Ā (dw ů (Ŏ hu) (Ā (ĕ İ į (Ā (ĕ Ŗ Ŀ (Ć 1) (Ā ą))) (Ā ą))) (Ā ą) (Ĝ _))) Ĭ)) λ_ _ _ h=>au nj h)) (λ_ _=>rfl))))
  (Č (Ň (i:=3) ş.nd rfl (by first|exact Or.inl rfl|exact Or.inr rfl) (Ő (Ŋ Ĩ Ħ (Ā (ĳ (fX (ě (ĕ İ į (Ā (ĕ Ŗ Ŀ (Ć 1) (Ā ą))) (Ā ą)) (ě (ĕ BW Bf (Ā ą) (Ā (ĕ İ į (Ā (ĕ Ŗ Ŀ (Ć 1) (Ā ą))) (Ā ą)))) ņ))))) (Ā (PE.wk (ŵ ni (by rfl) T.pW PyProof.Rows.boot_int (Ė (Ā (dw ů (Ŏ hu) (Ā (ĕ İ į (Ā (ĕ Ŗ Ŀ (Ć 1) (Ā ą))) (Ā ą))) (Ā ą) (Ĝ _))) Ĭ)) λ_ _ _ h=>au nj h)) (λ_ _=>rfl))))
  (Č (nC (i:=4) ş.nd rfl rfl ["_law_script","_law_k"] [0] 1 (ă bK) rfl rfl (ś rfl T.ű (ě (v_var 2) ņ)) (λ_ _ _ _ _=>(Ĺ (i:=1) (show(["_law_script","_law_k"]:List Str).Nodup by decide +kernel) rfl (Or.inl rfl) (hf:=Or.inr rfl))) (λ_ _ _ _ _=>jJ) (λ_ _ _ _ _=>(ĳ (ğ (HX T) ď hr.mo rfl T.dW T.Ht.kp T.Py ę (Ğ (ĳ (ğ (gP T) ď hr.mo rfl T.Ĳ T.ju.kp T.lR ę (ċ 0 (hr:=(Ğ (ĳ (cj aC aB (Ā ą) (Ā (ĕ gn b_ (Ā ą) (Ć 1))))) Ę))))) Ę)))) ⟨rfl,⟨rfl,Or.inl rfl⟩,trivial⟩)
  (Č (nC (i:=5) ş.nd rfl rfl ["_law_many","_law_script","_law_k"] [3,0] 1 (ă bK) rfl rfl (ś rfl T.ű (ě (v_var 2) ņ)) (λ_ _ _ _ _=>(Ĺ (i:=2) (show(["_law_many","_law_script","_law_k"]:List Str).Nodup by decide +kernel) rfl (Or.inl rfl) (hf:=Or.inr rfl))) (λ_ _ _ _ _=>jJ) (λ_ _ _ _ _=>(ĳ (ğ (zE T) ď hr.mo rfl T.dX T.Dr.kp T.Hv ę (Ğ (ĳ (ğ (gP T) ď hr.mo rfl T.Ĳ T.ju.kp T.lR ę (ċ 1 (hr:=(Ğ (ĳ (cj aC aB (Ā ą) (Ā (ĕ gn b_ (Ā ą) (Ć 2))))) Ę))))) (ċ 0 (hr:=Ę)))))) ⟨rfl,⟨rfl,Or.inl rfl⟩,⟨rfl,⟨rfl,Or.inl rfl⟩,trivial⟩⟩)
  (Č (Ň (i:=6) ş.nd rfl (Or.inl rfl) (Ő ą))
  (Č (aO (Ņ ů (Ŏ hu) (Ā (ĕ İ į (Ā (ĳ (ğ (gP T) ď hr.mo rfl T.Ĳ T.ju.kp T.lR ę (ċ 0 (hr:=(Ğ ą Ę)))))) (Ā ą))) (Ā ą) (Ĝ _))
  (Đ (Ň (i:=6) ş.nd rfl (Or.inl rfl) (ğ (zE T) ď hr.mo rfl T.dX T.Dr.kp T.Hv ę (Ğ (ĕ Ŗ Ŀ (Ā (ĳ (ğ (gP T) ď hr.mo rfl T.Ĳ T.ju.kp T.lR ę (ċ 0 (hr:=(Ğ ą Ę)))))) (Ā ą)) (ċ 3 (hr:=Ę))))))
  Ń)
  (Č (Ň (i:=7) ş.nd rfl (Or.inl rfl) (ğ (HS T) ď hr.mo rfl T.lN T.Hq.kp T.Pu ę (ċ 5 (hr:=(ċ 6 (hr:=Ę))))))
  (Č (Ň (i:=8) ş.nd rfl (Or.inl rfl) (fX (ě (ĳ (PE.wk (ŵ pD (by rfl) T.nY PyProof.Rows.boot_list (Ė (Ć 4) Ĭ)) λ_ _ _ h=>Gh pF h)) (ě (ĳ (PE.wk (ŵ pD (by rfl) T.nY PyProof.Rows.boot_list (Ė (Ć 5) Ĭ)) λ_ _ _ h=>Gh pF h)) ņ))))
  (Č (aO (Ņ ů (Ŏ hu) (Ć 6) (Ā ą) (Ĝ _))
  (Đ (Ň (i:=9) ş.nd rfl (Or.inl rfl) (uI 0 T.dY (vN T) ď hr.mo rfl T.aZ T.yu.kp ę (Ğ (Ŋ Ĩ Ħ (Ć 8) (Ā ą) (λ_ _=>rfl)) (Ğ (Ŋ Ĩ Ħ (Ć 8) (Ā ą) (λ_ _=>rfl)) (ċ 3 (hr:=Ę)))))))
  (Đ (Ň (i:=9) ş.nd rfl (Or.inl rfl) (ğ (vN T) ď hr.mo rfl T.aZ T.yu.kp T.PJ ę (Ğ (Ŋ Ĩ Ħ (Ć 8) (Ā ą) (λ_ _=>rfl)) (Ğ (Ŋ Ĩ Ħ (Ć 8) (Ā ą) (λ_ _=>rfl)) (ċ 3 (hr:=(ċ 6 (hr:=Ę))))))))))
  (Č (aO (uy 9 (PW.pt (w_or (cB (cA (Ā (ĳ (ğ (vM T) ď hr.mo rfl T.Ž T.vD.kp T.zq ę (ċ 9 (hr:=(ċ 4 (hr:=(ċ 7 (hr:=(ċ 3 (hr:=Ę))))))))))))) (kO (Ņ jd (cQ hu) (Ć 8) (Ā (ĳ (fX (ě (v_var 4) (ě (v_var 5) ņ))))) (Ĝ _))))))
  (Đ (Į (Ő iy)))
  Ń)
  (Č (aO (uy 9 (Ņ ů (Ŏ hu) (Ā (Ŋ Ĩ Ħ (Ć 9) (Ā ą) (λ_ _=>rfl))) (Ā kI) (Ĝ _)))
  (Đ (PS.wk (jz (rM PySem.F.plainAttrs_list PySem.F.slot_list_append PySem.F.type_list_append Ŷ (yH rK (pv 9) qU (λ_ _=>rfl)) (ě cg ņ))) λ_ _ _ h=>uD h))
  Ń)
  (Đ (Į (ğ (vM T) ď hr.mo rfl T.Ž T.vD.kp T.zq ę (Ğ (ĳ (yh 6 T.dZ (vN T) ď hr.mo rfl T.aZ T.yu.kp ę (ċ 4 (hr:=(ċ 5 (hr:=(ċ 3 (hr:=Ę)))))))) (ċ 4 (hr:=(ċ 7 (hr:=(ċ 3 (hr:=Ę))))))))))))))))))))))
end
def Sl(s:P.Slot)(ps:List PV):Prop:=s=.sh (.lst ps)\/s=.bw ps
def ZB(n:Nat):aX 0 n 1=(List.range n).map λ(i:Nat)=>PV.int (i:Int):=by
 unfold aX
 refine List.map_congr_left λi _=>?_
 simp
def Z9{n:Nat}(h:n<=1000):Š [.int (n:Int)]=some ((List.range n).map λ(i:Nat)=>PV.int (i:Int)):=by
 have hs:fZ (n:Int)=true:=by unfold fZ;simp;omega
 unfold Š
 simp[hs,ZB]
def ZJ(b:Nat):Builtin.bitNot (b:Int)= -(b:Int)-1:=rfl
def Zt(a b:Nat):Builtin.bitOr a b=((a ||| b:Nat):Int):=by
 unfold Builtin.bitOr Builtin.bitAnd
 rw[ZJ,ZJ]
 have h1:decide (0<= -(a:Int)-1)=false:=by simp;omega
 have h2:decide (0<= -(b:Int)-1)=false:=by simp;omega
 rw[h1,h2]
 have e1:(Builtin.bitNot (-(a:Int)-1)).toNat=a:=by unfold Builtin.bitNot;omega
 have e2:(Builtin.bitNot (-(b:Int)-1)).toNat=b:=by unfold Builtin.bitNot;omega
 simp only[e1,e2]
 unfold Builtin.bitNot
 omega
def VB(a k:Nat):(a:Int) / 2 ^ k=((a >>> k:Nat):Int):=by
 rw[Nat.shiftRight_eq_div_pow]
 simp
def Z6(a k:Nat):(a:Int) / 2 ^ k % 2=if a.testBit k then 1 else 0:=by
 rw[VB]
 have:(a >>> k) % 2=if a.testBit k then 1 else 0:=by
  rw[Nat.testBit]
  have h:1 &&& (a >>> k)=(a >>> k) % 2:=by rw[Nat.and_comm];exact Nat.and_one_is_mod _
  rw[h]
  have:(a >>> k) % 2=0\/(a >>> k) % 2=1:=by omega
  rcases this with e|e<;>simp[e]
 by_cases q:a.testBit k=true
 ·rw[if_pos q] at this ⊢;omega
 ·rw[if_neg q] at this ⊢;omega
def ZC(a:Int):Builtin.bitAnd a 1=a % 2:=PyProof.Rows.bitAnd_m1 a
def Za(ns:List Int)(k:Nat):Ĳ [.sh (.lst (ns.map .int)),.sh (.int k)]=.ret (.sh (.int (ns.getD k 0))):=by
 by_cases h:k<ns.length
 ·have h':(k:Int)<(ns.length:Int):=by omega
  simp[Ĳ,nM,List.replicate,h',List.getElem?_eq_getElem h]
 ·have h':¬(k:Int)<(ns.length:Int):=by omega
  simp[Ĳ,nM,List.replicate,h',List.getElem?_eq_none (Nat.le_of_not_lt h)]
@[simp] theorem Zg(ns:List Int)(k:Nat):Ĳ [.sh (.lst (ns.map .int)),.sh (.int (no_index (OfNat.ofNat k)))]=.ret (.sh (.int (ns.getD k 0))):=Za ns k
def Gr(x:Int):Prop:=0<=x/\x<524288
theorem Z3(c:Int)(s1:P.Slot):∀(ks:List Nat) (acc:List Int) (n:Int) (s4:P.Slot),acc.length+ks.length<=100000->(∀k∈ks,k<=100000)->(∀x∈acc,Gr x)->∃(acc':List Int) (n':Int) (VD:P.Slot),forL (gN 4) jq (ks.map λ(i:Nat)=>PV.int (i:Int)) [.sh (.int c),s1,.ow (acc.map .int),.sh (.int n),s4]=.ok .nx [.sh (.int c),s1,.ow (acc'.map .int),.sh (.int n'),VD]/\acc'.length=acc.length+ks.length/\∀x∈acc',Gr x
 | [],acc,n,s4,_,_,h=>⟨acc,n,s4,rfl,rfl,h⟩
 |k::ks,acc,n,s4,hl,hk,h=>by
  have hk0:=hk k List.mem_cons_self
  have hl0:acc.length<16777216:=by simp at hl;omega
  rw[List.map_cons,forL]
  have hg:gN 4 (PV.int (k:Int)) [.sh (.int c),s1,.ow (acc.map .int),.sh (.int n),s4]=some [.sh (.int c),s1,.ow (acc.map .int),.sh (.int n),.sh (.int k)]:=rfl
  rw[hg]
  dsimp only
  by_cases h0:c % 2=0
  ·have e:jq [.sh (.int c),s1,.ow (acc.map .int),.sh (.int n),.sh (.int k)]=.ok .nx [.sh (.int c),s1,.ow ((acc ++ [n % 524287]).map .int),.sh (.int (n / 524287)),.sh (.int k)]:=by
    simp[jq,h0,hl0]
   rw[e]
   obtain⟨a,b,d,q1,q2,q3⟩:=Z3 c s1 ks (acc ++ [n % 524287]) (n / 524287) (.sh (.int k)) (by simp at hl ⊢;omega) (λx hx=>hk x (List.mem_cons_of_mem _ hx)) (by
    intro x hx
    rcases List.mem_append.mp hx with hx|hx
    ·exact h x hx
    ·rw[List.mem_singleton.mp hx];unfold Gr;omega)
   exact⟨a,b,d,q1,by simp at q2 ⊢;omega,q3⟩
  ·obtain⟨m,hm⟩:∃m,(n*49157+24593+2*(k:Int)) % 8388593=m:=⟨_,rfl⟩
   have e:jq [.sh (.int c),s1,.ow (acc.map .int),.sh (.int n),.sh (.int k)]=.ok .nx [.sh (.int c),s1,.ow ((acc ++ [m / 16]).map .int),.sh (.int m),.sh (.int k)]:=by
    simp[jq,h0,hl0,hm]
   rw[e]
   obtain⟨a,b,d,q1,q2,q3⟩:=Z3 c s1 ks (acc ++ [m / 16]) m (.sh (.int k)) (by simp at hl ⊢;omega) (λx hx=>hk x (List.mem_cons_of_mem _ hx)) (by
    intro x hx
    rcases List.mem_append.mp hx with hx|hx
    ·exact h x hx
    ·rw[List.mem_singleton.mp hx];unfold Gr;omega)
   exact⟨a,b,d,q1,by simp at q2 ⊢;omega,q3⟩
def ZK(c:Int){n:Nat}(hn:n<=1000):∃xs:List Int,nQ [.sh (.int c),.sh (.int n)]=.ret (.ow (xs.map .int))/\xs.length=n/\∀x∈xs,Gr x:=by
 have rr:=Z9 hn
 by_cases h:c % 2=1
 ·obtain⟨a,b,d,q1,q2,q3⟩:=Z3 c (.sh (.int n)) (List.range n) [] (c / 2 % 8388593) .no (by simp;omega) (λk hk=>by have:=List.mem_range.mp hk;omega) (by simp)
  refine⟨a,?_,by simpa using q2,q3⟩
  simp at q1
  simp[nQ,uW,List.replicate,h,rr,q1]
 ·obtain⟨a,b,d,q1,q2,q3⟩:=Z3 c (.sh (.int n)) (List.range n) [] (c / 2) .no (by simp;omega) (λk hk=>by have:=List.mem_range.mp hk;omega) (by simp)
  refine⟨a,?_,by simpa using q2,q3⟩
  simp at q1
  simp[nQ,uW,List.replicate,h,rr,q1]
theorem Zl(f:Nat->PV):∀(n a:Nat),bJ a ((List.range' a n).map f)=(List.range' a n).map λ(k:Nat)=>PV.tup [.int k,f k]
 |0,a=>rfl
 |n+1,a=>by
  rw[List.range'_succ,List.map_cons,List.map_cons]
  show _::bJ (a+1) _=_
  rw[Zl f n (a+1)]
def Zr(f:Nat->PV)(n:Nat):bJ 0 ((List.range n).map f)=(List.range n).map λ(k:Nat)=>PV.tup [.int k,f k]:=by
 rw[List.range_eq_range']
 exact Zl f n 0
def Z4(i j:Int):cW (.int i) (.int j)=some (.int (Builtin.bitAnd i j)):=rfl
def Z2(c k:Nat):kZ (c:Int) (k:Int)=true:=by simp[kZ]
def Zb(f:Nat->PV){n:Nat}(hn:n<=1000)(c:Nat):Ţ [.bw ((List.range n).map f),.sh (.int c)]=.ret (.ow (((List.range n).filter λk=>c.testBit k).map f)):=by
 have en:=Zr f n
 have e:=ĵ (g:=gT 2 (Ĵ (gN 1) (Ĵ (gN 2) bI))) (mt:=cu (Ą cW (Ą cD (ā 0) (ā 1)) (mC (.int 1)))) (me:=Ī 2) (λ(k:Nat)=>PV.tup [.int k,f k]) f (λk=>c.testBit k) (λρ=>∃a b,ρ=[.sh (.int c),a,b]) (List.range n) [.sh (.int c),.no,.no] [] ⟨_,_,rfl⟩ (by simp;omega) (by
  rintro k _ ρ ⟨a,b,rfl⟩
  refine⟨[.sh (.int c),.sh (.int k),.sh (f k)],[.sh (.int c),.sh (.int k),.sh (f k)],by simp,?_,λ_=>⟨_,_,rfl⟩,λ_=>⟨[.sh (.int c),.sh (.int k),.sh (f k)],by simp,_,_,rfl⟩⟩
  have h1:=Z6 c k
  have h2:Builtin.bitAnd ((c:Int) / 2 ^ k) 1=if c.testBit k then 1 else 0:=by rw[ZC];exact h1
  cases hb:c.testBit k with
  |true=>rw[hb] at h2;simp at h2;simp[h2,Z2,Z4]
  |false=>rw[hb] at h2;simp at h2;simp[h2,Z2,Z4])
 rw[List.nil_append] at e
 generalize (List.range n).map f=L at *
 generalize ((List.range n).filter λk=>c.testBit k).map f=R at *
 simp[Ţ,nR,List.replicate,aP,Ū,en,e]
def Z0(cov:Nat->Nat)(n c base:Nat):Nat:=((List.range n).filter λk=>c.testBit k).foldl (λb k=>b ||| cov k) base
def ZT(cov:Nat->Nat){n:Nat}(hn:n<=1000)(c base:Nat):bL [.bw ((List.range n).map λk=>PV.int (cov k:Nat)),.sh (.int c),.sh (.int base)]=.ret (.sh (.int (Z0 cov n c base:Nat))):=by
 have e1:=Zb (λk=>PV.int (cov k:Nat)) hn c
 obtain⟨ρ',e2,a,rfl⟩:=ż (g:=gN 4) (mb:=gM) (λk=>PV.int (cov k:Nat)) (λ(b:Nat) k=>b ||| cov k) (λb ρ=>∃a,ρ=[.bw ((List.range n).map λk=>PV.int (cov k:Nat)),.sh (.int c),.sh (.int base),.sh (.int (b:Nat)),a]) ((List.range n).filter λk=>c.testBit k) (by
  rintro k _ b ρ ⟨a,rfl⟩
  exact⟨_,_,rfl,by simp[gM,Zt];rfl,_,rfl⟩) base [.bw ((List.range n).map λk=>PV.int (cov k:Nat)),.sh (.int c),.sh (.int base),.sh (.int base),.no] ⟨_,rfl⟩
 unfold Z0
 generalize ((List.range n).filter λk=>c.testBit k).foldl (λb k=>b ||| cov k) base=M at *
 generalize ((List.range n).filter λk=>c.testBit k).map (λk=>PV.int (cov k:Nat))=R at *
 generalize (List.range n).map (λk=>PV.int (cov k:Nat))=L at *
 simp[bL,nU,List.replicate,e1,e2]
def ī(m many:Nat):Option Nat:=(List.range many).findSome? λk=>if m.testBit k then none else some k
def ŀ:Option Nat->PV
 |some k=>.int k
 |none=>.non
def Zm(m:Nat){many:Nat}(hm:many<=1000):jY [.sh (.int m),.sh (.int many)]=.ret (.sh (ŀ (ī m many))):=by
 have rr:=Z9 (n:=many) hm
 rcases dh (g:=gN 2) (mb:=pQ) (λ(k:Nat)=>PV.int (k:Int)) (λk=>if m.testBit k then none else some k) (λk=>RV.sh (.int (k:Nat))) (λρ=>∃a,ρ=[.sh (.int m),.sh (.int many),a]) (List.range many) (by
  rintro k _ ρ ⟨a,rfl⟩
  refine⟨[.sh (.int m),.sh (.int many),.sh (.int k)],rfl,?_⟩
  have h1:=Z6 m k
  have h2:Builtin.bitAnd ((m:Int) / 2 ^ k) 1=if m.testBit k then 1 else 0:=by rw[ZC];exact h1
  cases hb:m.testBit k with
  |true=>rw[hb] at h2;simp at h2;exact .inr ⟨[.sh (.int m),.sh (.int many),.sh (.int k)],by simp,by simp[pQ,h2,Z2,Z4],_,rfl⟩
  |false=>rw[hb] at h2;simp at h2;exact .inl ⟨k,[.sh (.int m),.sh (.int many),.sh (.int k)],by simp,by simp[pQ,h2,Z2,Z4]⟩) [.sh (.int m),.sh (.int many),.no] ⟨_,rfl⟩ with⟨r,ρ',e1,e2⟩|⟨ρ',e1,e2,a,rfl⟩
 ·unfold ī
  rw[e1]
  simp[jY,uX,List.replicate,rr,e2,ŀ]
 ·unfold ī
  rw[e1]
  simp[jY,uX,List.replicate,rr,e2,ŀ]
def Z1(pr:Nat->Int)(n c:Nat):Int:=(((List.range n).filter λk=>c.testBit k).map pr).sum
theorem Zz(pr:Nat->Int){n:Nat}(hn:n<=1000)(z:P.Slot):∀cs:List Nat,iI [0] (cU iG (Ċ (ē (đ Ţ (Ă 0 (Ă 1 Ď)))) ĝ)) [.bw ((List.range n).map λk=>PV.int (pr k)),z] (cs.map λ(c:Nat)=>PV.int (c:Int))=some (cs.map (Z1 pr n))
 | []=>rfl
 |c::cs=>by
  have ih:=Zz pr hn z cs
  have e1:=Zb (λk=>PV.int (pr k)) hn c
  have e2:((List.range n).filter λk=>c.testBit k).map (λk=>PV.int (pr k))=(((List.range n).filter λk=>c.testBit k).map pr).map PV.int:=by simp
  rw[e2] at e1
  rw[List.map_cons,List.map_cons,iI]
  have e3:(cU iG (Ċ (ē (đ Ţ (Ă 0 (Ă 1 Ď)))) ĝ)) (lamP [0] [.bw ((List.range n).map λk=>PV.int (pr k)),z] (.int c))=.ok (.int (Z1 pr n c)) [.bw ((List.range n).map λk=>PV.int (pr k)),.sh (.int c)]:=by
   unfold Z1
   generalize ((List.range n).filter λk=>c.testBit k).map pr=R at *
   generalize (List.range n).map (λk=>PV.int (pr k))=L at *
   simp[lamP,Ū,e1]
  rw[e3]
  dsimp only
  rw[ih]
  rfl
def Zd(f:Nat->PV){n:Nat}(hn:0<n):ĩ (.lst ((List.range n).map f)) (.int (-1))=some (f (n-1)):=by
 show fL _ _=_
 unfold fL yG
 simp
 rw[if_pos (by omega)]
 have e:(-1+(n:Int)).toNat=n-1:=by omega
 simp[e]
 exact⟨n-1,by rw[List.getElem?_range (by omega)],rfl⟩
theorem Zu:∀ks:List Int,ks≠[]->∃i,i<ks.length/\∀j,j<ks.length->ks.getD i 0<=ks.getD j 0/\(j<i->ks.getD i 0<ks.getD j 0)
 | [],h=>absurd rfl h
 | [k],_=>⟨0,by simp,fun j hj=>by
     have:j=0:=by simp at hj;omega
     subst this
     exact⟨Int.le_refl _,λz=>absurd z (Nat.lt_irrefl _)⟩⟩
 |k::m::ks,_=>by
  obtain⟨i,hi,h⟩:=Zu (m::ks) (by simp)
  by_cases hk:k<=(m::ks).getD i 0
  ·refine⟨0,by simp,λj hj=>?_⟩
   cases j with
   |zero=>exact⟨Int.le_refl _,λz=>absurd z (Nat.lt_irrefl _)⟩
   |succ j=>
    have:=(h j (by simpa using hj)).1
    exact⟨by simp only[List.getD_cons_zero,List.getD_cons_succ];omega,λz=>absurd z (by omega)⟩
  ·refine⟨i+1,by simpa using hi,λj hj=>?_⟩
   cases j with
   |zero=>exact⟨by simp only[List.getD_cons_zero,List.getD_cons_succ];omega,λ_=>by simp only[List.getD_cons_zero,List.getD_cons_succ];omega⟩
   |succ j=>
    have:=h j (by simpa using hj)
    exact⟨by simp only[List.getD_cons_succ];exact this.1,λz=>by simp only[List.getD_cons_succ];exact this.2 (by omega)⟩
def Zk(pr:Nat->Int){n:Nat}(hn:n<=1000){cs:List Nat}(hc:cs≠[])(hs:cs.Pairwise (·< ·)):∃c∈cs,dD [.bw ((List.range n).map λk=>PV.int (pr k)),.sh (.lst (cs.map λ(c:Nat)=>PV.int (c:Int)))]=.ret (.sh (.int (c:Nat)))/\∀c'∈cs,Z1 pr n c<=Z1 pr n c'/\(Z1 pr n c'=Z1 pr n c->c<=c'):=by
 have e:=Zz pr hn (.sh (.lst (cs.map λ(c:Nat)=>PV.int (c:Int)))) cs
 obtain⟨i,hi,hb⟩:=Zu (cs.map (Z1 pr n)) (by simpa using hc)
 rw[List.length_map] at hi hb
 have hx:(cs.map λ(c:Nat)=>PV.int (c:Int))[i]?=some (.int (cs[i]:Nat)):=by simp[hi]
 have gk:∀j (hj:j<cs.length),(cs.map (Z1 pr n)).getD j 0=Z1 pr n cs[j]:=λj hj=>by simp[hj]
 obtain⟨b,hp⟩:∃b,aH (cs.map λ(c:Nat)=>PV.int (c:Int)) (cs.map (Z1 pr n))=some b:=by
  cases cs with
  |nil=>exact absurd rfl hc
  |cons a r=>exact⟨_,rfl⟩
 have hbx:=aJ (by simp) hp hx (λj hj=>hb j (by simpa using hj))
 subst hbx
 refine⟨cs[i],List.getElem_mem hi,?_,λc' hc'=>?_⟩
 ·generalize (cs.map λ(c:Nat)=>PV.int (c:Int))=CS at *
  generalize cs.map (Z1 pr n)=KS at *
  generalize (List.range n).map (λk=>PV.int (pr k))=L at *
  generalize cs[i]=c at *
  simp[dD,jX,List.replicate,pL,e,hp]
 ·obtain⟨j,hj,rfl⟩:=List.getElem_of_mem hc'
  have h1:=hb j hj
  rw[gk i hi,gk j hj] at h1
  refine⟨h1.1,λhe=>?_⟩
  by_cases hji:j<i
  ·have:=h1.2 hji
   omega
  ·by_cases hij:i=j
   ·subst hij;exact Nat.le_refl _
   ·exact Nat.le_of_lt (List.pairwise_iff_getElem.mp hs i j hi hj (by omega))
def Zx(pr:Nat->Int)(cov:Nat->Nat){n many:Nat}(hn:n<=9)(hm:many<=1000)(base:Nat):∃r,aZ [.bw ((List.range n).map λk=>PV.int (pr k)),.bw ((List.range n).map λk=>PV.int (cov k:Nat)),.sh (.int many),.sh (.int base)]=.ret r/\
 ((∃k,ī (Z0 cov n (2 ^ n-1) base) many=some k∧r=.sh (.tup [.str "none",.int k]))∨
   ∃c,c<2 ^ n/\ī (Z0 cov n c base) many=none/\(∀c',c'<2 ^ n->ī (Z0 cov n c' base) many=none->Z1 pr n c<=Z1 pr n c'/\(Z1 pr n c'=Z1 pr n c->c<=c'))/\
    r=.ot [.str "choice",.int c,.int (Z1 pr n c)] ((List.range (2 ^ n)).map λc=>ŀ (ī (Z0 cov n c base) many))):=by
 have hp:2 ^ n<=512:=by
  have:=Nat.pow_le_pow_right (show 0<2 by omega) hn
  simpa using this
 have hp0:0<2 ^ n:=Nat.two_pow_pos n
 have rr:=Z9 (n:=2 ^ n) (by omega)
 have hl:((List.range n).map λk=>PV.int (pr k)).length=n:=by simp
 have so:gj 1 (n:Int)=true:=by simp[gj];omega
 have rr':Š [.int (2 ^ n)]=some ((List.range (2 ^ n)).map λ(i:Nat)=>PV.int (i:Int)):=by
  have:((2 ^ n:Nat):Int)=2 ^ n:=by simp
  rw[this] at rr
  exact rr
 have c1:=ť (g:=gN 3) (mt:=bQ) (me:=ē (đ jY (č (ē (đ bL (Ă 1 (Ă 3 (Ă 2 Ď))))) (Ă 0 Ď)))) (λ(c:Nat)=>PV.int (c:Int)) (λc=>ŀ (ī (Z0 cov n c base) many)) (λρ=>∃a,ρ=[.sh (.int many),.bw ((List.range n).map λk=>PV.int (cov k:Nat)),.sh (.int base),a]) (List.range (2 ^ n)) [.sh (.int many),.bw ((List.range n).map λk=>PV.int (cov k:Nat)),.sh (.int base),.no] [] ⟨_,rfl⟩ (by simp;omega) (by
  rintro c _ ρ ⟨a,rfl⟩
  have e1:=ZT cov (show n<=1000 by omega) c base
  have e2:=Zm (Z0 cov n c base) hm
  generalize (List.range n).map (λk=>PV.int (cov k:Nat))=L at *
  exact⟨[.sh (.int many),.bw L,.sh (.int base),.sh (.int c)],[.sh (.int many),.bw L,.sh (.int base),.sh (.int c)],[.sh (.int many),.bw L,.sh (.int base),.sh (.int c)],by simp,by simp,by simp[e1,e2],_,rfl⟩)
 rw[List.nil_append] at c1
 have il:=Zd (λc=>ŀ (ī (Z0 cov n c base) many)) hp0
 cases hq:ī (Z0 cov n (2 ^ n-1) base) many with
 |some k=>
  refine⟨.sh (.tup [.str "none",.int k]),?_,.inl ⟨k,rfl,rfl⟩⟩
  rw[hq] at il
  generalize (List.range (2 ^ n)).map (λc=>ŀ (ī (Z0 cov n c base) many))=PA at *
  generalize (List.range n).map (λk=>PV.int (cov k:Nat))=L at *
  generalize (List.range n).map (λk=>PV.int (pr k))=PR at *
  simp[aZ,jt,List.replicate,aP,Ū,hl,so,rr',c1,il,ŀ,jP]
 |none=>
  rw[hq] at il
  have c2:=ĵ (g:=gT 2 (Ĵ (gN 0) (Ĵ (gN 1) bI))) (mt:=bA (Ą m_ (ā 1) (mC .non))) (me:=Ī 0) (λ(c:Nat)=>PV.tup [.int c,ŀ (ī (Z0 cov n c base) many)]) (λ(c:Nat)=>PV.int (c:Int)) (λc=>(ī (Z0 cov n c base) many).isNone) (λρ=>∃a b,ρ=[a,b]) (List.range (2 ^ n)) [.no,.no] [] ⟨_,_,rfl⟩ (by simp;omega) (by
   rintro c _ ρ ⟨a,b,rfl⟩
   refine⟨[.sh (.int c),.sh (ŀ (ī (Z0 cov n c base) many))],[.sh (.int c),.sh (ŀ (ī (Z0 cov n c base) many))],by simp,?_,λ_=>⟨_,_,rfl⟩,λ_=>⟨[.sh (.int c),.sh (ŀ (ī (Z0 cov n c base) many))],by simp,_,_,rfl⟩⟩
   cases ī (Z0 cov n c base) many with
   |none=>simp[ŀ,jP]
   |some k=>simp[ŀ,jP])
  rw[List.nil_append] at c2
  have en:=Zr (λc=>ŀ (ī (Z0 cov n c base) many)) (2 ^ n)
  obtain⟨c,hcm,c3,hmin⟩:=Zk pr (show n<=1000 by omega) (cs:=(List.range (2 ^ n)).filter λc=>(ī (Z0 cov n c base) many).isNone) (List.ne_nil_of_mem (List.mem_filter.mpr ⟨List.mem_range.mpr (show 2 ^ n-1<2 ^ n by omega),by rw[hq];rfl⟩)) (List.Pairwise.filter _ List.pairwise_lt_range)
  obtain⟨hc1,hc2⟩:=List.mem_filter.mp hcm
  have c4:=Zb (λk=>PV.int (pr k)) (show n<=1000 by omega) c
  have e2:((List.range n).filter λk=>c.testBit k).map (λk=>PV.int (pr k))=(((List.range n).filter λk=>c.testBit k).map pr).map PV.int:=by simp
  rw[e2] at c4
  refine⟨.ot [.str "choice",.int c,.int (Z1 pr n c)] ((List.range (2 ^ n)).map λc=>ŀ (ī (Z0 cov n c base) many)),?_,.inr ⟨c,List.mem_range.mp hc1,Option.isNone_iff_eq_none.mp hc2,λc' h1 h2=>hmin c' (List.mem_filter.mpr ⟨List.mem_range.mpr h1,by rw[h2];rfl⟩),rfl⟩⟩
  unfold Z1
  generalize ((List.range n).filter λk=>c.testBit k).map pr=R at *
  generalize ((List.range (2 ^ n)).filter λc=>(ī (Z0 cov n c base) many).isNone).map (λ(c:Nat)=>PV.int (c:Int))=CS at *
  generalize (List.range (2 ^ n)).map (λ(c:Nat)=>PV.tup [.int c,ŀ (ī (Z0 cov n c base) many)])=ES at *
  generalize (List.range (2 ^ n)).map (λc=>ŀ (ī (Z0 cov n c base) many))=PA at *
  generalize (List.range n).map (λk=>PV.int (cov k:Nat))=L at *
  generalize (List.range n).map (λk=>PV.int (pr k))=PR at *
  simp[aZ,jt,List.replicate,aP,Ū,hl,so,rr',c1,il,ŀ,jP,en,c2,c3,c4,lG,bR,lF,Res.bind]
def ZU(cov:Nat->Nat)(n c base j:Nat):(Z0 cov n c base).testBit j=(base.testBit j || (List.range n).any λk=>c.testBit k && (cov k).testBit j):=by
 unfold Z0
 have gen:∀(l:List Nat) (b:Nat),((l.filter λk=>c.testBit k).foldl (λb k=>b ||| cov k) b).testBit j=(b.testBit j || l.any λk=>c.testBit k && (cov k).testBit j):=by
  intro l
  induction l with
  |nil=>intro b;simp
  |cons k l ih=>
   intro b
   cases hk:c.testBit k with
   |true=>rw[List.filter_cons_of_pos hk,List.foldl_cons,ih,Nat.testBit_or,List.any_cons,hk,Bool.true_and,Bool.or_assoc]
   |false=>rw[List.filter_cons_of_neg (by simp[hk]),ih,List.any_cons,hk,Bool.false_and,Bool.false_or]
 exact gen _ base
def Z5(f:Nat->PV){n:Nat}(hn:n<=1000)(c:Nat):Ţ [.sh (.lst ((List.range n).map f)),.sh (.int c)]=.ret (.ow (((List.range n).filter λk=>c.testBit k).map f)):=by
 have en:=Zr f n
 have e:=ĵ (g:=gT 2 (Ĵ (gN 1) (Ĵ (gN 2) bI))) (mt:=cu (Ą cW (Ą cD (ā 0) (ā 1)) (mC (.int 1)))) (me:=Ī 2) (λ(k:Nat)=>PV.tup [.int k,f k]) f (λk=>c.testBit k) (λρ=>∃a b,ρ=[.sh (.int c),a,b]) (List.range n) [.sh (.int c),.no,.no] [] ⟨_,_,rfl⟩ (by simp;omega) (by
  rintro k _ ρ ⟨a,b,rfl⟩
  refine⟨[.sh (.int c),.sh (.int k),.sh (f k)],[.sh (.int c),.sh (.int k),.sh (f k)],by simp,?_,λ_=>⟨_,_,rfl⟩,λ_=>⟨[.sh (.int c),.sh (.int k),.sh (f k)],by simp,_,_,rfl⟩⟩
  have h1:=Z6 c k
  have h2:Builtin.bitAnd ((c:Int) / 2 ^ k) 1=if c.testBit k then 1 else 0:=by rw[ZC];exact h1
  cases hb:c.testBit k with
  |true=>rw[hb] at h2;simp at h2;simp[h2,Z2,Z4]
  |false=>rw[hb] at h2;simp at h2;simp[h2,Z2,Z4])
 rw[List.nil_append] at e
 generalize (List.range n).map f=L at *
 generalize ((List.range n).filter λk=>c.testBit k).map f=R at *
 simp[Ţ,nR,List.replicate,aP,Ū,en,e]
def ZD(cov:Nat->Nat){n:Nat}(hn:n<=1000)(c base:Nat):bL [.sh (.lst ((List.range n).map λk=>PV.int (cov k:Nat))),.sh (.int c),.sh (.int base)]=.ret (.sh (.int (Z0 cov n c base:Nat))):=by
 have e1:=Z5 (λk=>PV.int (cov k:Nat)) hn c
 obtain⟨ρ',e2,a,rfl⟩:=ż (g:=gN 4) (mb:=gM) (λk=>PV.int (cov k:Nat)) (λ(b:Nat) k=>b ||| cov k) (λb ρ=>∃a,ρ=[.sh (.lst ((List.range n).map λk=>PV.int (cov k:Nat))),.sh (.int c),.sh (.int base),.sh (.int (b:Nat)),a]) ((List.range n).filter λk=>c.testBit k) (by
  rintro k _ b ρ ⟨a,rfl⟩
  exact⟨_,_,rfl,by simp[gM,Zt];rfl,_,rfl⟩) base [.sh (.lst ((List.range n).map λk=>PV.int (cov k:Nat))),.sh (.int c),.sh (.int base),.sh (.int base),.no] ⟨_,rfl⟩
 unfold Z0
 generalize ((List.range n).filter λk=>c.testBit k).foldl (λb k=>b ||| cov k) base=M at *
 generalize ((List.range n).filter λk=>c.testBit k).map (λk=>PV.int (cov k:Nat))=R at *
 generalize (List.range n).map (λk=>PV.int (cov k:Nat))=L at *
 simp[bL,nU,List.replicate,e1,e2]
theorem Zn(pr:Nat->Int){n:Nat}(hn:n<=1000)(z:P.Slot):∀cs:List Nat,iI [0] (cU iG (Ċ (ē (đ Ţ (Ă 0 (Ă 1 Ď)))) ĝ)) [.sh (.lst ((List.range n).map λk=>PV.int (pr k))),z] (cs.map λ(c:Nat)=>PV.int (c:Int))=some (cs.map (Z1 pr n))
 | []=>rfl
 |c::cs=>by
  have ih:=Zn pr hn z cs
  have e1:=Z5 (λk=>PV.int (pr k)) hn c
  have e2:((List.range n).filter λk=>c.testBit k).map (λk=>PV.int (pr k))=(((List.range n).filter λk=>c.testBit k).map pr).map PV.int:=by simp
  rw[e2] at e1
  rw[List.map_cons,List.map_cons,iI]
  have e3:(cU iG (Ċ (ē (đ Ţ (Ă 0 (Ă 1 Ď)))) ĝ)) (lamP [0] [.sh (.lst ((List.range n).map λk=>PV.int (pr k))),z] (.int c))=.ok (.int (Z1 pr n c)) [.sh (.lst ((List.range n).map λk=>PV.int (pr k))),.sh (.int c)]:=by
   unfold Z1
   generalize ((List.range n).filter λk=>c.testBit k).map pr=R at *
   generalize (List.range n).map (λk=>PV.int (pr k))=L at *
   simp[lamP,Ū,e1]
  rw[e3]
  dsimp only
  rw[ih]
  rfl
def Ze(pr:Nat->Int){n:Nat}(hn:n<=1000){cs:List Nat}(hc:cs≠[])(hs:cs.Pairwise (·< ·)):∃c∈cs,dD [.sh (.lst ((List.range n).map λk=>PV.int (pr k))),.sh (.lst (cs.map λ(c:Nat)=>PV.int (c:Int)))]=.ret (.sh (.int (c:Nat)))/\∀c'∈cs,Z1 pr n c<=Z1 pr n c'/\(Z1 pr n c'=Z1 pr n c->c<=c'):=by
 have e:=Zn pr hn (.sh (.lst (cs.map λ(c:Nat)=>PV.int (c:Int)))) cs
 obtain⟨i,hi,hb⟩:=Zu (cs.map (Z1 pr n)) (by simpa using hc)
 rw[List.length_map] at hi hb
 have hx:(cs.map λ(c:Nat)=>PV.int (c:Int))[i]?=some (.int (cs[i]:Nat)):=by simp[hi]
 have gk:∀j (hj:j<cs.length),(cs.map (Z1 pr n)).getD j 0=Z1 pr n cs[j]:=λj hj=>by simp[hj]
 obtain⟨b,hp⟩:∃b,aH (cs.map λ(c:Nat)=>PV.int (c:Int)) (cs.map (Z1 pr n))=some b:=by
  cases cs with
  |nil=>exact absurd rfl hc
  |cons a r=>exact⟨_,rfl⟩
 have hbx:=aJ (by simp) hp hx (λj hj=>hb j (by simpa using hj))
 subst hbx
 refine⟨cs[i],List.getElem_mem hi,?_,λc' hc'=>?_⟩
 ·generalize (cs.map λ(c:Nat)=>PV.int (c:Int))=CS at *
  generalize cs.map (Z1 pr n)=KS at *
  generalize (List.range n).map (λk=>PV.int (pr k))=L at *
  generalize cs[i]=c at *
  simp[dD,jX,List.replicate,pL,e,hp]
 ·obtain⟨j,hj,rfl⟩:=List.getElem_of_mem hc'
  have h1:=hb j hj
  rw[gk i hi,gk j hj] at h1
  refine⟨h1.1,λhe=>?_⟩
  by_cases hji:j<i
  ·have:=h1.2 hji
   omega
  ·by_cases hij:i=j
   ·subst hij;exact Nat.le_refl _
   ·exact Nat.le_of_lt (List.pairwise_iff_getElem.mp hs i j hi hj (by omega))
def Z8(pr:Nat->Int)(cov:Nat->Nat){n many:Nat}(hn:n<=9)(hm:many<=1000)(base:Nat):∃r,aZ [.sh (.lst ((List.range n).map λk=>PV.int (pr k))),.sh (.lst ((List.range n).map λk=>PV.int (cov k:Nat))),.sh (.int many),.sh (.int base)]=.ret r/\
 ((∃k,ī (Z0 cov n (2 ^ n-1) base) many=some k∧r=.sh (.tup [.str "none",.int k]))∨
   ∃c,c<2 ^ n/\ī (Z0 cov n c base) many=none/\(∀c',c'<2 ^ n->ī (Z0 cov n c' base) many=none->Z1 pr n c<=Z1 pr n c'/\(Z1 pr n c'=Z1 pr n c->c<=c'))/\
    r=.ot [.str "choice",.int c,.int (Z1 pr n c)] ((List.range (2 ^ n)).map λc=>ŀ (ī (Z0 cov n c base) many))):=by
 have hp:2 ^ n<=512:=by
  have:=Nat.pow_le_pow_right (show 0<2 by omega) hn
  simpa using this
 have hp0:0<2 ^ n:=Nat.two_pow_pos n
 have rr:=Z9 (n:=2 ^ n) (by omega)
 have hl:((List.range n).map λk=>PV.int (pr k)).length=n:=by simp
 have so:gj 1 (n:Int)=true:=by simp[gj];omega
 have rr':Š [.int (2 ^ n)]=some ((List.range (2 ^ n)).map λ(i:Nat)=>PV.int (i:Int)):=by
  have:((2 ^ n:Nat):Int)=2 ^ n:=by simp
  rw[this] at rr
  exact rr
 have c1:=ť (g:=gN 3) (mt:=bQ) (me:=ē (đ jY (č (ē (đ bL (Ă 1 (Ă 3 (Ă 2 Ď))))) (Ă 0 Ď)))) (λ(c:Nat)=>PV.int (c:Int)) (λc=>ŀ (ī (Z0 cov n c base) many)) (λρ=>∃a,ρ=[.sh (.int many),.sh (.lst ((List.range n).map λk=>PV.int (cov k:Nat))),.sh (.int base),a]) (List.range (2 ^ n)) [.sh (.int many),.sh (.lst ((List.range n).map λk=>PV.int (cov k:Nat))),.sh (.int base),.no] [] ⟨_,rfl⟩ (by simp;omega) (by
  rintro c _ ρ ⟨a,rfl⟩
  have e1:=ZD cov (show n<=1000 by omega) c base
  have e2:=Zm (Z0 cov n c base) hm
  generalize (List.range n).map (λk=>PV.int (cov k:Nat))=L at *
  exact⟨[.sh (.int many),.sh (.lst L),.sh (.int base),.sh (.int c)],[.sh (.int many),.sh (.lst L),.sh (.int base),.sh (.int c)],[.sh (.int many),.sh (.lst L),.sh (.int base),.sh (.int c)],by simp,by simp,by simp[e1,e2],_,rfl⟩)
 rw[List.nil_append] at c1
 have il:=Zd (λc=>ŀ (ī (Z0 cov n c base) many)) hp0
 cases hq:ī (Z0 cov n (2 ^ n-1) base) many with
 |some k=>
  refine⟨.sh (.tup [.str "none",.int k]),?_,.inl ⟨k,rfl,rfl⟩⟩
  rw[hq] at il
  generalize (List.range (2 ^ n)).map (λc=>ŀ (ī (Z0 cov n c base) many))=PA at *
  generalize (List.range n).map (λk=>PV.int (cov k:Nat))=L at *
  generalize (List.range n).map (λk=>PV.int (pr k))=PR at *
  simp[aZ,jt,List.replicate,aP,Ū,hl,so,rr',c1,il,ŀ,jP]
 |none=>
  rw[hq] at il
  have c2:=ĵ (g:=gT 2 (Ĵ (gN 0) (Ĵ (gN 1) bI))) (mt:=bA (Ą m_ (ā 1) (mC .non))) (me:=Ī 0) (λ(c:Nat)=>PV.tup [.int c,ŀ (ī (Z0 cov n c base) many)]) (λ(c:Nat)=>PV.int (c:Int)) (λc=>(ī (Z0 cov n c base) many).isNone) (λρ=>∃a b,ρ=[a,b]) (List.range (2 ^ n)) [.no,.no] [] ⟨_,_,rfl⟩ (by simp;omega) (by
   rintro c _ ρ ⟨a,b,rfl⟩
   refine⟨[.sh (.int c),.sh (ŀ (ī (Z0 cov n c base) many))],[.sh (.int c),.sh (ŀ (ī (Z0 cov n c base) many))],by simp,?_,λ_=>⟨_,_,rfl⟩,λ_=>⟨[.sh (.int c),.sh (ŀ (ī (Z0 cov n c base) many))],by simp,_,_,rfl⟩⟩
   cases ī (Z0 cov n c base) many with
   |none=>simp[ŀ,jP]
   |some k=>simp[ŀ,jP])
  rw[List.nil_append] at c2
  have en:=Zr (λc=>ŀ (ī (Z0 cov n c base) many)) (2 ^ n)
  obtain⟨c,hcm,c3,hmin⟩:=Ze pr (show n<=1000 by omega) (cs:=(List.range (2 ^ n)).filter λc=>(ī (Z0 cov n c base) many).isNone) (List.ne_nil_of_mem (List.mem_filter.mpr ⟨List.mem_range.mpr (show 2 ^ n-1<2 ^ n by omega),by rw[hq];rfl⟩)) (List.Pairwise.filter _ List.pairwise_lt_range)
  obtain⟨hc1,hc2⟩:=List.mem_filter.mp hcm
  have c4:=Z5 (λk=>PV.int (pr k)) (show n<=1000 by omega) c
  have e2:((List.range n).filter λk=>c.testBit k).map (λk=>PV.int (pr k))=(((List.range n).filter λk=>c.testBit k).map pr).map PV.int:=by simp
  rw[e2] at c4
  refine⟨.ot [.str "choice",.int c,.int (Z1 pr n c)] ((List.range (2 ^ n)).map λc=>ŀ (ī (Z0 cov n c base) many)),?_,.inr ⟨c,List.mem_range.mp hc1,Option.isNone_iff_eq_none.mp hc2,λc' h1 h2=>hmin c' (List.mem_filter.mpr ⟨List.mem_range.mpr h1,by rw[h2];rfl⟩),rfl⟩⟩
  unfold Z1
  generalize ((List.range n).filter λk=>c.testBit k).map pr=R at *
  generalize ((List.range (2 ^ n)).filter λc=>(ī (Z0 cov n c base) many).isNone).map (λ(c:Nat)=>PV.int (c:Int))=CS at *
  generalize (List.range (2 ^ n)).map (λ(c:Nat)=>PV.tup [.int c,ŀ (ī (Z0 cov n c base) many)])=ES at *
  generalize (List.range (2 ^ n)).map (λc=>ŀ (ī (Z0 cov n c base) many))=PA at *
  generalize (List.range n).map (λk=>PV.int (cov k:Nat))=L at *
  generalize (List.range n).map (λk=>PV.int (pr k))=PR at *
  simp[aZ,jt,List.replicate,aP,Ū,hl,so,rr',c1,il,ŀ,jP,en,c2,c3,c4,lG,bR,lF,Res.bind]
def ZE{a b:Str}{v:Bool}(ha:PyData.strOk a=true)(hb:PyData.strOk b=true)(h:decide (a=b)=v):Ō (.str a) (.str b)=some (.bl v):=by rw[uw ha hb,h]
def VF{a b:Str}{v:Bool}(ha:PyData.strOk a=true)(hb:PyData.strOk b=true)(h:decide (a=b)=v):aD (.str a) (.str b)=some (.bl !v):=by rw[ux ha hb,h]
def VG(i j:Int):oZ (.int i) (.int j)=some (.int (Builtin.bitOr i j)):=rfl
def nes(o:Option Nat):aD (ŀ o) (ŀ o)=some (.bl false):=by
 cases o with
 |none=>rfl
 |some k=>simp[ŀ]
def Zc(m:Nat){many:Nat}(hm:many<=1000):gK [.sh (.int m),.sh (.int many)]=.ret (.sh (ŀ (ī m many))):=by
 have rr:=Z9 (n:=many) hm
 rcases dh (g:=gN 2) (mb:=pO) (λ(k:Nat)=>PV.int (k:Int)) (λk=>if m.testBit k then none else some k) (λk=>RV.sh (.int (k:Nat))) (λρ=>∃a,ρ=[.sh (.int m),.sh (.int many),a]) (List.range many) (by
  rintro k _ ρ ⟨a,rfl⟩
  refine⟨[.sh (.int m),.sh (.int many),.sh (.int k)],rfl,?_⟩
  have h1:=Z6 m k
  cases hb:m.testBit k with
  |true=>rw[hb] at h1;simp at h1;exact .inr ⟨[.sh (.int m),.sh (.int many),.sh (.int k)],by simp,by simp[pO,h1,Z2],_,rfl⟩
  |false=>rw[hb] at h1;simp at h1;exact .inl ⟨k,[.sh (.int m),.sh (.int many),.sh (.int k)],by simp,by simp[pO,h1,Z2]⟩) [.sh (.int m),.sh (.int many),.no] ⟨_,rfl⟩ with⟨r,ρ',e1,e2⟩|⟨ρ',e1,e2,a,rfl⟩
 ·unfold ī
  rw[e1]
  simp[gK,uU,List.replicate,rr,e2,ŀ]
 ·unfold ī
  rw[e1]
  simp[gK,uU,List.replicate,rr,e2,ŀ]
def ZL(pr:Nat->Int){n:Nat}(hn:n<=1000)(c:Nat):lO [.bw ((List.range n).map λk=>PV.int (pr k)),.sh (.int c)]=.ret (.sh (.int (Z1 pr n c))):=by
 have rr:=Z9 (n:=n) hn
 have hl:(((List.range n).map λk=>PV.int (pr k)).length:Int)=(n:Int):=by simp
 have hx:∀k,k<n->((List.range n).map λk=>PV.int (pr k))[k]?=some (.int (pr k)):=λk hk=>by simp[hk]
 generalize hL:(List.range n).map (λk=>PV.int (pr k))=L at *
 have e:=ĵ (g:=gN 2) (mt:=bA (Ą Ō (Ą ħ (Ą cD (ā 1) (ā 2)) (mC (.int 2))) (mC (.int 1)))) (me:=Ą ĩ (ā 0) (ā 2)) (λ(k:Nat)=>PV.int (k:Int)) (λk=>PV.int (pr k)) (λk=>c.testBit k) (λρ=>∃a,ρ=[.bw L,.sh (.int c),a]) (List.range n) [.bw L,.sh (.int c),.no] [] ⟨_,rfl⟩ (by simp;omega) (by
  rintro k hk ρ ⟨a,rfl⟩
  have hx:=hx k (List.mem_range.mp hk)
  refine⟨[.bw L,.sh (.int c),.sh (.int k)],[.bw L,.sh (.int c),.sh (.int k)],by simp,?_,λ_=>⟨_,rfl⟩,λ_=>⟨[.bw L,.sh (.int c),.sh (.int k)],by simp[hx],_,rfl⟩⟩
  have h1:=Z6 c k
  cases hb:c.testBit k with
  |true=>rw[hb] at h1;simp at h1;simp[h1,Z2]
  |false=>rw[hb] at h1;simp at h1;simp[h1,Z2])
 have e2:((List.range n).filter λk=>c.testBit k).map (λk=>PV.int (pr k))=(((List.range n).filter λk=>c.testBit k).map pr).map PV.int:=by simp
 rw[List.nil_append,e2] at e
 unfold Z1
 generalize ((List.range n).filter λk=>c.testBit k).map pr=R at *
 simp[lO,zf,List.replicate,aP,Ū,hl,rr,e]
def ZF(n c c':Nat)(h:∀k,k<n->c.testBit k=c'.testBit k):((List.range n).filter λk=>c.testBit k)=(List.range n).filter λk=>c'.testBit k:=List.filter_congr λk hk=>h k (List.mem_range.mp hk)
def VH(cov:Nat->Nat){k c:Nat}(base:Nat)(h:c<2 ^ k):Z0 cov (k+1) c base=Z0 cov k c base:=by
 unfold Z0
 rw[List.range_succ,List.filter_append]
 have:c.testBit k=false:=Nat.testBit_lt_two_pow h
 simp[this]
def VJ(cov:Nat->Nat){k c:Nat}(base:Nat)(h:c<2 ^ k):Z0 cov (k+1) (2 ^ k+c) base=Z0 cov k c base ||| cov k:=by
 unfold Z0
 rw[List.range_succ,List.filter_append,ZF k (2 ^ k+c) c λj hj=>Nat.testBit_two_pow_add_gt hj c]
 have h1:c.testBit k=false:=Nat.testBit_lt_two_pow h
 have h2:(2 ^ k+c).testBit k=true:=by rw[Nat.testBit_two_pow_add_eq,h1];rfl
 simp[h2]
def ZV(cov:Nat->Nat)(k base:Nat):((List.range (2 ^ k)).map λc=>PV.int (Z0 cov k c base:Nat))++((List.range (2 ^ k)).map λc=>PV.int ((Z0 cov k c base ||| cov k:Nat):Int))=(List.range (2 ^ (k+1))).map λc=>PV.int (Z0 cov (k+1) c base:Nat):=by
 rw[Nat.pow_succ,Nat.mul_two,List.range_add,List.map_append,List.map_map]
 congr 1
 ·exact List.map_congr_left λc hc=>by rw[VH cov base (List.mem_range.mp hc)]
 ·exact List.map_congr_left fun c hc=>by
   show _=PV.int _
   rw[VJ cov base (List.mem_range.mp hc)]
def ZG(cov:Nat->Nat)(k base:Nat)(hk:k<=9)(z0 z1:P.Slot):pN [z0,z1,.ow ((List.range (2 ^ k)).map λc=>PV.int (Z0 cov k c base:Nat)),.sh (.int (cov k:Nat))]=.ok .nx [z0,z1,.ow ((List.range (2 ^ (k+1))).map λc=>PV.int (Z0 cov (k+1) c base:Nat)),.sh (.int (cov k:Nat))]:=by
 have hp:2 ^ k<=512:=by
  have:=Nat.pow_le_pow_right (show 0<2 by omega) hk
  simpa using this
 have c1:=ť (g:=gN 1) (mt:=bQ) (me:=Ą oZ (ā 1) (ā 0)) (λ(c:Nat)=>PV.int (Z0 cov k c base:Nat)) (λc=>PV.int ((Z0 cov k c base ||| cov k:Nat):Int)) (λρ=>∃a,ρ=[.sh (.int (cov k:Nat)),a]) (List.range (2 ^ k)) [.sh (.int (cov k:Nat)),.no] [] ⟨_,rfl⟩ (by simp;omega) (by
  rintro c _ ρ ⟨a,rfl⟩
  generalize Z0 cov k c base=M at *
  generalize cov k=N at *
  exact⟨[.sh (.int (N:Nat)),.sh (.int (M:Nat))],[.sh (.int (N:Nat)),.sh (.int (M:Nat))],[.sh (.int (N:Nat)),.sh (.int (M:Nat))],by simp,by simp,by simp[VG,Zt],_,rfl⟩)
 rw[List.nil_append] at c1
 have ad:=add_l (xs:=(List.range (2 ^ k)).map λc=>PV.int (Z0 cov k c base:Nat)) (ys:=(List.range (2 ^ k)).map λc=>PV.int ((Z0 cov k c base ||| cov k:Nat):Int)) (by simp;omega)
 rw[ZV] at ad
 generalize ((List.range (2 ^ (k+1))).map λc=>PV.int (Z0 cov (k+1) c base:Nat))=A2 at *
 generalize ((List.range (2 ^ k)).map λc=>PV.int ((Z0 cov k c base ||| cov k:Nat):Int))=A1 at *
 generalize ((List.range (2 ^ k)).map λc=>PV.int (Z0 cov k c base:Nat))=A0 at *
 simp[pN,aP,Ū,c1,ad]
theorem Zh(cov:Nat->Nat)(base:Nat)(z0 z1:P.Slot):∀(n k:Nat) (z3:P.Slot),k+n<=9->∃PL,forL (gN 3) pN ((List.range' k n).map λk=>PV.int (cov k:Nat)) [z0,z1,.ow ((List.range (2 ^ k)).map λc=>PV.int (Z0 cov k c base:Nat)),z3]=.ok .nx [z0,z1,.ow ((List.range (2 ^ (k+n))).map λc=>PV.int (Z0 cov (k+n) c base:Nat)),PL]
 |0,k,z3,_=>⟨z3,rfl⟩
 |n+1,k,z3,h=>by
  have e1:=ZG cov k base (by omega) z0 z1
  obtain⟨PL,e2⟩:=Zh cov base z0 z1 n (k+1) (.sh (.int (cov k:Nat))) (by omega)
  refine⟨PL,?_⟩
  rw[List.range'_succ,List.map_cons,forL]
  rw[show k+(n+1)=k+1+n by omega]
  generalize ((List.range (2 ^ (k+1+n))).map λc=>PV.int (Z0 cov (k+1+n) c base:Nat))=A3 at *
  generalize ((List.range (2 ^ (k+1))).map λc=>PV.int (Z0 cov (k+1) c base:Nat))=A2 at *
  generalize ((List.range (2 ^ k)).map λc=>PV.int (Z0 cov k c base:Nat))=A0 at *
  simp[e1]
  exact e2
def ZM(cov:Nat->Nat){n:Nat}(base:Nat)(hn:n<=9){s0:P.Slot}(h0:Sl s0 ((List.range n).map λk=>PV.int (cov k:Nat))):lN [s0,.sh (.int base)]=.ret (.ow ((List.range (2 ^ n)).map λc=>PV.int (Z0 cov n c base:Nat))):=by
 obtain⟨z3,e⟩:=Zh cov base s0 (.sh (.int base)) n 0 .no (by omega)
 have z:((List.range (2 ^ 0)).map λc=>PV.int (Z0 cov 0 c base:Nat))=[.int base]:=rfl
 rw[z,<-List.range_eq_range',Nat.zero_add] at e
 generalize ((List.range (2 ^ n)).map λc=>PV.int (Z0 cov n c base:Nat))=A at *
 rcases h0 with rfl|rfl
 ·generalize (List.range n).map (λk=>PV.int (cov k:Nat))=L at *
  simp[lN,uT,List.replicate,e]
 ·generalize (List.range n).map (λk=>PV.int (cov k:Nat))=L at *
  simp[lN,uT,List.replicate,e]
def Z7(i:Int):dU [.sh (.int i)]=.ret (.sh (.bl true)):=by
 have i2:dN [.int i,.ty "int"]=some (.bl true):=rfl
 have i3:dN [.int i,.ty "bool"]=some (.bl false):=rfl
 simp[dU,zj,List.replicate,i2,i3]
theorem ZN{α:Type}(f g:α->PV):∀l:List α,dR (l.map f) (l.map g)=l.map λx=>PV.tup [f x,g x]
 | []=>rfl
 |x::l=>by
  rw[List.map_cons,List.map_cons,List.map_cons,dR,ZN f g l]
def ZO(M:Nat->Nat){N many:Nat}(hN:N<=1000)(hm:many<=1000){s1:P.Slot}(h1:Sl s1 ((List.range N).map λc=>PV.int (M c:Nat))):nO [.sh (.lst ((List.range N).map λc=>ŀ (ī (M c) many))),s1,.sh (.int many)]=.ret (.sh (.bl true)):=by
 have zp:=ZN (λc=>ŀ (ī (M c) many)) (λc=>PV.int (M c:Nat)) (List.range N)
 obtain⟨ρ',el,_⟩:=ż (g:=gT 2 (Ĵ (gN 3) (Ĵ (gN 4) bI))) (mb:=pP) (λc=>PV.tup [ŀ (ī (M c) many),.int (M c:Nat)]) (λ(_:Unit) (_:Nat)=>()) (λ_ ρ=>∃z a b,ρ=[z,s1,.sh (.int many),a,b]) (List.range N) (by
  rintro c _ _ ρ ⟨z,a,b,rfl⟩
  have e1:=Zc (M c) hm
  have e2:=nes (ī (M c) many)
  have e3:ŀ (ī (M c) many)=.non\/∃k:Nat,ŀ (ī (M c) many)=.int k:=by cases ī (M c) many with
   |none=>exact .inl rfl
   |some k=>exact .inr ⟨k,rfl⟩
  generalize ŀ (ī (M c) many)=V at *
  generalize M c=mc at *
  refine⟨[z,s1,.sh (.int many),.sh V,.sh (.int mc)],[z,s1,.sh (.int many),.sh V,.sh (.int mc)],by simp,?_,_,_,_,rfl⟩
  rcases e3 with rfl|⟨k,rfl⟩
  ·simp[pP,e1,e2,jP]
  ·have e4:=Z7 k
   simp[pP,e1,e2,e4,jP]) () [.sh (.lst ((List.range N).map λc=>ŀ (ī (M c) many))),s1,.sh (.int many),.no,.no] ⟨_,_,_,rfl⟩
 have l1:(((List.range N).map λc=>ŀ (ī (M c) many)).length:Int)=(N:Int):=by simp
 have l2:(((List.range N).map λc=>PV.int (M c:Nat)).length:Int)=(N:Int):=by simp
 have i1:dN [.lst ((List.range N).map λc=>ŀ (ī (M c) many)),.ty "list"]=some (.bl true):=rfl
 generalize (List.range N).map (λc=>PV.tup [ŀ (ī (M c) many),.int (M c:Nat)])=Z at *
 generalize (List.range N).map (λc=>ŀ (ī (M c) many))=A at *
 rcases h1 with rfl|rfl
 ·generalize (List.range N).map (λc=>PV.int (M c:Nat))=B at *
  simp[nO,uV,List.replicate,i1,l1,l2,xW,nD,zp,el]
 ·generalize (List.range N).map (λc=>PV.int (M c:Nat))=B at *
  simp[nO,uV,List.replicate,i1,l1,l2,xW,nD,zp,el]
def VL(a b c d:Int):lH (.tup [.int a,.int b]) (.tup [.int c,.int d])=some (.bl (decide (a<c\/(a=c/\b<d)))):=by
 rw[CG]
 congr 2
 simp only[HT.lexLt]
 by_cases h1:a=c
 ·by_cases h2:b=d
  ·simp[h1,h2]
  ·simp[h1,h2]
 ·simp[h1]
def ZW{m many:Nat}:ī m many=none↔∀j,j<many->m.testBit j=true:=by
 unfold ī
 rw[List.findSome?_eq_none_iff]
 constructor
 ·intro h j hj
  have:=h j (List.mem_range.mpr hj)
  by_cases hb:m.testBit j=true
  ·exact hb
  ·rw[if_neg hb] at this;cases this
 ·intro h j hj
  rw[if_pos (h j (List.mem_range.mp hj))]
def Zo(cov:Nat->Nat){n c base many:Nat}(h:ī (Z0 cov n c base) many=none):ī (Z0 cov n (2 ^ n-1) base) many=none:=by
 rw[ZW] at h ⊢
 intro j hj
 have h1:=h j hj
 rw[ZU] at h1 ⊢
 rw[Bool.or_eq_true] at h1 ⊢
 rcases h1 with h1|h1
 ·exact .inl h1
 ·right
  rw[List.any_eq_true] at h1 ⊢
  obtain⟨k,hk,h2⟩:=h1
  refine⟨k,hk,?_⟩
  rw[Bool.and_eq_true] at h2 ⊢
  refine⟨?_,h2.2⟩
  rw[Nat.testBit_two_pow_sub_one]
  exact decide_eq_true (List.mem_range.mp hk)
def Zv(pr:Nat->Int)(M:Nat->Nat)(n many:Nat)(v:PV):Prop:=
 (∃k,ī (M (2 ^ n-1)) many=some k∧v=.tup [.str "none",.int (k:Nat)])∨
   ∃c,c<2 ^ n∧ī (M (2 ^ n-1)) many=none∧ī (M c) many=none∧(∀c',c'<2 ^ n→ī (M c') many=none→Z1 pr n c≤Z1 pr n c'∧(Z1 pr n c'=Z1 pr n c→c≤c'))∧
      v=.tup [.str "choice",.int (c:Nat),.int (Z1 pr n c),.lst ((List.range (2 ^ n)).map λc=>ŀ (ī (M c) many))]
def Zp{M:Nat->Nat}{N many:Nat}(hN:0<N)(hm:many<=1000){k:Nat}(hk:ī (M (N-1)) many=some k)(s1:P.Slot):Ž [.sh (.tup [.str "none",.int k]),s1,.bw ((List.range N).map λc=>PV.int (M c:Nat)),.sh (.int many)]=.ret (.sh (.bl true)):=by
 have il:=Zd (λc=>PV.int (M c:Nat)) hN
 have e1:=Zc (M (N-1)) hm
 rw[hk] at e1
 have e4:=Z7 k
 have t2:Ō (.str "none") (.str "none")=some (.bl true):=ZE (by decide +kernel) (by decide +kernel) (by decide +kernel)
 have i1:dN [.tup [.str "none",.int k],.ty "tuple"]=some (.bl true):=rfl
 generalize M (N-1)=ml at *
 generalize (List.range N).map (λc=>PV.int (M c:Nat))=ME at *
 simp[Ž,nP,List.replicate,i1,il,e1,ŀ,jP,e4,t2]
def Zy{pr:Nat->Int}{M:Nat->Nat}{n many c:Nat}(hn:n<=9)(hm:many<=1000)(hc:c<2 ^ n)(hf:ī (M (2 ^ n-1)) many=none)(hcn:ī (M c) many=none)(hmin:∀c',c'<2 ^ n->ī (M c') many=none->Z1 pr n c<=Z1 pr n c'/\(Z1 pr n c'=Z1 pr n c->c<=c')) :
 Ž [.sh (.tup [.str "choice",.int c,.int (Z1 pr n c),.lst ((List.range (2 ^ n)).map λc=>ŀ (ī (M c) many))]),.bw ((List.range n).map λk=>PV.int (pr k)),.bw ((List.range (2 ^ n)).map λc=>PV.int (M c:Nat)),.sh (.int many)]=.ret (.sh (.bl true)):=by
 have hp:2 ^ n<=512:=by
  have:=Nat.pow_le_pow_right (show 0<2 by omega) hn
  simpa using this
 have hp0:0<2 ^ n:=Nat.two_pow_pos n
 obtain⟨N,hN⟩:∃N,2 ^ n=N:=⟨_,rfl⟩
 rw[hN] at hp hp0 hc hf hmin ⊢
 have il:=Zd (λc=>PV.int (M c:Nat)) hp0
 have e1:=Zc (M (N-1)) hm
 rw[hf] at e1
 have w1:=Z7 c
 have w2:=Z7 (Z1 pr n c)
 have pp:=ZO M (N:=N) (by omega) hm (s1:=.bw ((List.range N).map λc=>PV.int (M c:Nat))) (.inr rfl)
 have rr:=Z9 (n:=N) (by omega)
 have l2:(((List.range N).map λc=>PV.int (M c:Nat)).length:Int)=(N:Int):=by simp
 have hx:∀d,d<N->((List.range N).map λc=>ŀ (ī (M c) many))[d]?=some (ŀ (ī (M d) many)):=λd hd=>by simp[hd]
 have hxc:=hx c hc
 rw[hcn] at hxc
 have lp:=ZL pr (show n<=1000 by omega)
 have VN:=lp c
 have t2:aD (.str "choice") (.str "choice")=some (.bl false):=VF (v:=true) (by decide +kernel) (by decide +kernel) (by decide +kernel)
 have i1:dN [.tup [.str "choice",.int c,.int (Z1 pr n c),.lst ((List.range N).map λc=>ŀ (ī (M c) many))],.ty "tuple"]=some (.bl true):=rfl
 have VP:(c:Int)<(N:Int):=by exact_mod_cast hc
 obtain⟨ρ',el,_⟩:=ż (g:=gN 4) (mb:=jW) (λ(i:Nat)=>PV.int (i:Int)) (λ(_:Unit) (_:Nat)=>()) (λ_ ρ=>∃a,ρ=[.sh (.tup [.str "choice",.int c,.int (Z1 pr n c),.lst ((List.range N).map λc=>ŀ (ī (M c) many))]),.bw ((List.range n).map λk=>PV.int (pr k)),.bw ((List.range N).map λc=>PV.int (M c:Nat)),.sh (.int many),a]) (List.range N) (by
  rintro d hd _ ρ ⟨a,rfl⟩
  have hd:=List.mem_range.mp hd
  have h1:=hx d hd
  have h2:=lp d
  have h3:=VL (Z1 pr n d) d (Z1 pr n c) c
  have h4:ī (M d) many=none->¬(Z1 pr n d<Z1 pr n c\/(Z1 pr n d=Z1 pr n c/\(d:Int)<(c:Int))):=λhn=>by
   have:=hmin d hd hn
   intro hh
   rcases hh with hh|⟨hh,Xg⟩
   ·omega
   ·have:=this.2 hh
    omega
  generalize ((List.range N).map λc=>ŀ (ī (M c) many))=PA at *
  generalize ((List.range N).map λc=>PV.int (M c:Nat))=ME at *
  generalize ((List.range n).map λk=>PV.int (pr k))=PR at *
  generalize Z1 pr n c=sc at *
  generalize Z1 pr n d=sd at *
  refine⟨[.sh (.tup [.str "choice",.int c,.int sc,.lst PA]),.bw PR,.bw ME,.sh (.int many),.sh (.int d)],[.sh (.tup [.str "choice",.int c,.int sc,.lst PA]),.bw PR,.bw ME,.sh (.int many),.sh (.int d)],rfl,?_,_,rfl⟩
  cases hl:ī (M d) many with
  |none=>
   have h5:=h4 hl
   rw[hl] at h1
   rw[decide_eq_false h5] at h3
   simp[jW,h1,h2,h3,ŀ,jP]
  |some k=>
   rw[hl] at h1
   simp[jW,h1,ŀ,jP]) () [.sh (.tup [.str "choice",.int c,.int (Z1 pr n c),.lst ((List.range N).map λc=>ŀ (ī (M c) many))]),.bw ((List.range n).map λk=>PV.int (pr k)),.bw ((List.range N).map λc=>PV.int (M c:Nat)),.sh (.int many),.no] ⟨_,rfl⟩
 clear hmin hx lp
 generalize ((List.range N).map λc=>ŀ (ī (M c) many))=PA at *
 generalize ((List.range N).map λc=>PV.int (M c:Nat))=ME at *
 generalize ((List.range n).map λk=>PV.int (pr k))=PR at *
 generalize (List.range N).map (λ(i:Nat)=>PV.int (i:Int))=RG at *
 generalize Z1 pr n c=sc at *
 generalize M (N-1)=ml at *
 simp[Ž,nP,List.replicate,i1,il,e1,ŀ,jP,w1,w2,t2,pp,l2,VP,hc,hxc,VN,rr,el]
def ZA{pr:Nat->Int}{M:Nat->Nat}{n many:Nat}(hn:n<=9)(hm:many<=1000){v:PV}(hv:Zv pr M n many v):Ž [.sh v,.bw ((List.range n).map λk=>PV.int (pr k)),.bw ((List.range (2 ^ n)).map λc=>PV.int (M c:Nat)),.sh (.int many)]=.ret (.sh (.bl true)):=by
 rcases hv with⟨k,hk,rfl⟩|⟨c,hc,hf,hcn,hmin,rfl⟩
 ·exact Zp (Nat.two_pow_pos n) hm hk _
 ·exact Zy hn hm hc hf hcn hmin
def ZP(pr:Nat->Int)(cov:Nat->Nat){n many base:Nat}{v:PV}(h:((∃k,ī (Z0 cov n (2 ^ n-1) base) many=some k/\v=.tup [.str "none",.int (k:Nat)])\/
 ∃c,c<2 ^ n/\ī (Z0 cov n c base) many=none/\(∀c',c'<2 ^ n->ī (Z0 cov n c' base) many=none->Z1 pr n c<=Z1 pr n c'/\(Z1 pr n c'=Z1 pr n c->c<=c'))/\
  v=.tup [.str "choice",.int (c:Nat),.int (Z1 pr n c),.lst ((List.range (2 ^ n)).map λc=>ŀ (ī (Z0 cov n c base) many))])):Zv pr (λc=>Z0 cov n c base) n many v:=by
 rcases h with⟨k,hk,rfl⟩|⟨c,hc,hcn,hmin,rfl⟩
 ·exact .inl ⟨k,hk,rfl⟩
 ·exact .inr ⟨c,hc,Zo cov hcn,hcn,hmin,rfl⟩
def ZH(c:Int):∃m:Int,dW [.sh (.int c)]=.ret (.sh (.int m)):=by
 have hp:jc 10 9=true:=by decide
 have hd:c % 4=0\/c % 4=1\/c % 4=2\/c % 4=3:=by omega
 rcases hd with hd|hd|hd|hd
 ·exact⟨0,by simp[dW,lQ,List.replicate,hd,hp]⟩
 ·exact⟨c / 4 % 4,by simp[dW,lQ,List.replicate,hd,hp]⟩
 ·exact⟨c / 4 % 4,by simp[dW,lQ,List.replicate,hd,hp]⟩
 ·exact⟨c / 4 % 1000000001,by simp[dW,lQ,List.replicate,hd,hp]⟩
def ZI(c x:Int)(n:Nat)(z1:P.Slot):∃n':Nat,jr [.sh (.int c),z1,.sh (.int n),.sh (.int (2+c % 4)),.sh (.int x)]=.ok .nx [.sh (.int c),z1,.sh (.int n'),.sh (.int (2+c % 4)),.sh (.int x)]:=by
 have hf:x.fmod (2+c % 4)=x % (2+c % 4):=Int.fmod_eq_emod_of_nonneg _ (by omega)
 have hz:¬(2+c % 4=0):=by omega
 have mo:š 2 (n:Int)=true:=by simp[š]
 have e1:((2*n:Nat):Int)=2*(n:Int):=by omega
 have e2:((2*n+1:Nat):Int)=2*(n:Int)+1:=by omega
 generalize hp:2+c % 4=p at *
 by_cases h1:decide (x % p>0)=decide (c / 4 % 2=0)
 ·refine⟨2*n+1,?_⟩
  rw[e2]
  generalize hb1:decide (c / 4 % 2=0)=b1 at *
  simp at h1
  simp[jr,hf,hz,mo,h1,hb1]
 ·refine⟨2*n,?_⟩
  rw[e1]
  generalize hb1:decide (c / 4 % 2=0)=b1 at *
  simp at h1
  simp[jr,hf,hz,mo,h1,hb1]
theorem Zi(c:Int)(z1:P.Slot):∀(xs:List Int) (n:Nat) (z:P.Slot),∃(n':Nat) (z':P.Slot),forL (gN 4) jr (xs.map .int) [.sh (.int c),z1,.sh (.int n),.sh (.int (2+c % 4)),z]=.ok .nx [.sh (.int c),z1,.sh (.int n'),.sh (.int (2+c % 4)),z']
 | [],n,z=>⟨n,z,rfl⟩
 |x::xs,n,z=>by
  obtain⟨n1,e1⟩:=ZI c x n z1
  obtain⟨n',z',e2⟩:=Zi c z1 xs n1 (.sh (.int x))
  refine⟨n',z',?_⟩
  rw[List.map_cons,forL]
  simp[e1]
  exact e2
def Zw(c:Int){many:Nat}(hm:many<=1000):∃n:Nat,dX [.sh (.int c),.sh (.int many)]=.ret (.sh (.int n)):=by
 obtain⟨xs,e1,_,_⟩:=ZK (c / 4) hm
 obtain⟨n,z,e2⟩:=Zi c (.sh (.int many)) xs 0 .no
 refine⟨n,?_⟩
 have e2':forL (gN 4) jr (xs.map .int) [.sh (.int c),.sh (.int many),.sh (.int 0),.sh (.int (2+c % 4)),.no]=.ok .nx [.sh (.int c),.sh (.int many),.sh (.int n),.sh (.int (2+c % 4)),z]:=e2
 generalize xs.map PV.int=XS at *
 simp[dX,zm,List.replicate,e1,e2']
def ZX(ns:List Int){n:Nat}(hn:n<=1000):∃pr:Nat->Int,Ŝ (gN 1) bQ (ē (đ dW (č (ē (đ Ĳ (Ă 0 (č (ē (ő ň (mC (.int 2)) (Ą Œ (mC (.int 2)) (ā 1)))) Ď)))) Ď))) ((List.range n).map λ(i:Nat)=>PV.int (i:Int)) [.sh (.lst (ns.map .int)),.no] []=some ((List.range n).map λk=>PV.int (pr k)):=by
 obtain⟨F,hF⟩:=Classical.axiomOfChoice ZH
 refine⟨λk=>F (ns.getD (2+2*k) 0),?_⟩
 have c1:=ť (g:=gN 1) (mt:=bQ) (me:=ē (đ dW (č (ē (đ Ĳ (Ă 0 (č (ē (ő ň (mC (.int 2)) (Ą Œ (mC (.int 2)) (ā 1)))) Ď)))) Ď))) (λ(i:Nat)=>PV.int (i:Int)) (λk=>PV.int (F (ns.getD (2+2*k) 0))) (λρ=>∃a,ρ=[.sh (.lst (ns.map .int)),a]) (List.range n) [.sh (.lst (ns.map .int)),.no] [] ⟨_,rfl⟩ (by simp;omega) (by
  rintro k _ ρ ⟨a,rfl⟩
  have e1:=Za ns (2+2*k)
  have e7:((2+2*k:Nat):Int)=2+2*(k:Int):=by omega
  rw[e7] at e1
  have e2:=hF (ns.getD (2+2*k) 0)
  have mo:š 2 (k:Int)=true:=by simp[š]
  generalize F (ns.getD (2+2*k) 0)=q at *
  generalize ns.getD (2+2*k) 0=v at *
  generalize ns.map PV.int=NS at *
  exact⟨[.sh (.lst NS),.sh (.int k)],[.sh (.lst NS),.sh (.int k)],[.sh (.lst NS),.sh (.int k)],by simp,by simp,by simp[mo,e1,e2,-Zg],_,rfl⟩)
 rw[List.nil_append] at c1
 exact c1
def ZY(ns:List Int){n many:Nat}(hn:n<=1000)(hm:many<=1000):∃cov:Nat->Nat,Ŝ (gN 2) bQ (ē (đ dX (č (ē (đ Ĳ (Ă 1 (č (ē (ő ň (mC (.int 3)) (Ą Œ (mC (.int 2)) (ā 2)))) Ď)))) (Ă 0 Ď)))) ((List.range n).map λ(i:Nat)=>PV.int (i:Int)) [.sh (.int many),.sh (.lst (ns.map .int)),.no] []=some ((List.range n).map λk=>PV.int (cov k:Nat)):=by
 obtain⟨F,hF⟩:=Classical.axiomOfChoice λc=>Zw c hm
 refine⟨λk=>F (ns.getD (3+2*k) 0),?_⟩
 have c1:=ť (g:=gN 2) (mt:=bQ) (me:=ē (đ dX (č (ē (đ Ĳ (Ă 1 (č (ē (ő ň (mC (.int 3)) (Ą Œ (mC (.int 2)) (ā 2)))) Ď)))) (Ă 0 Ď)))) (λ(i:Nat)=>PV.int (i:Int)) (λk=>PV.int (F (ns.getD (3+2*k) 0):Nat)) (λρ=>∃a,ρ=[.sh (.int many),.sh (.lst (ns.map .int)),a]) (List.range n) [.sh (.int many),.sh (.lst (ns.map .int)),.no] [] ⟨_,rfl⟩ (by simp;omega) (by
  rintro k _ ρ ⟨a,rfl⟩
  have e1:=Za ns (3+2*k)
  have e7:((3+2*k:Nat):Int)=3+2*(k:Int):=by omega
  rw[e7] at e1
  have e2:=hF (ns.getD (3+2*k) 0)
  have mo:š 2 (k:Int)=true:=by simp[š]
  generalize F (ns.getD (3+2*k) 0)=q at *
  generalize ns.getD (3+2*k) 0=v at *
  generalize ns.map PV.int=NS at *
  exact⟨[.sh (.int many),.sh (.lst NS),.sh (.int k)],[.sh (.int many),.sh (.lst NS),.sh (.int k)],[.sh (.int many),.sh (.lst NS),.sh (.int k)],by simp,by simp,by simp[mo,e1,e2,-Zg],_,rfl⟩)
 rw[List.nil_append] at c1
 exact c1
theorem Zf(f:Nat->Int):∀l:List Nat,bC (l.map λk=>PV.int (f k))=true/\jN (l.map λk=>PV.int (f k))=0
 | []=>by simp[bC,jN]
 |k::l=>by
  obtain⟨h1,h2⟩:=Zf f l
  rw[List.map_cons]
  unfold bC jN
  rw[h1,h2]
  exact⟨rfl,rfl⟩
def ZQ(f g:Nat->Int)(l:List Nat):aD (.lst [.lst (l.map λk=>PV.int (f k)),.lst (l.map λk=>PV.int (g k))]) (.lst [.lst (l.map λk=>PV.int (f k)),.lst (l.map λk=>PV.int (g k))])=some (.bl false):=by
 obtain⟨h1,h2⟩:=Zf f l
 obtain⟨h3,h4⟩:=Zf g l
 generalize (l.map λk=>PV.int (f k))=A at *
 generalize (l.map λk=>PV.int (g k))=B at *
 refine qN ?_ ?_
 ·simp[œ,bC,h1,h3]
 ·simp[dep,jN,h2,h4]
def Zj:M Fl:= (Ģ (eU (cJ 9 (fW (aL (cu (ē (đ Ž (Ă 9 (Ă 4 (Ă 7 (Ă 3 Ď)))))))) (bA (Ą aD (ā 8) (ē (cT (Ċ (Ī 4) (Ċ (Ī 5) ĝ))))))))
      (ł (aV (mC (.bl false))))
      iz)
      (Ģ (eU (cJ 9 (bA (Ą Ō (Ą ĩ (ā 9) (mC (.int 0))) (mC (.str "choice")))))
      (jj 9 3 (mC .non))
      iz)
      (ł (đ Ž (č (ē (gJ aZ (Ă 4 (Ă 5 (Ă 3 Ď))) 6)) (Ă 4 (Ă 7 (Ă 3 Ď))))))))
def Zs:M Fl:= (Ģ (eU (bA (Ą Ō (ā 6) (mC (.int 0))))
      (Ķ 9 (gH aZ [.sh (.int 0)] (č (Ą ĩ (ā 8) (mC (.int 0))) (č (Ą ĩ (ā 8) (mC (.int 1))) (Ă 3 Ď)))))
      (Ķ 9 (đ aZ (č (Ą ĩ (ā 8) (mC (.int 0))) (č (Ą ĩ (ā 8) (mC (.int 1))) (Ă 3 (Ă 6 Ď))))))) Zj)
def SJ:uY=(Ģ (Ķ 1 (đ Ĳ (Ă 0 (č (mC (.int 0)) Ď))))
 (Ģ (Ķ 2 (aV (Ą ĩ (ē (cT (Ċ (Ą ħ (ā 1) (mC (.int 7))) (Ċ (ē (ő ň (mC (.int 7)) (Ą ħ (ā 1) (mC (.int 2))))) ĝ)))) (cU gC (Ċ (Ą Ō (Ą ħ (Ą ŋ (ā 1) (mC (.int 14))) (mC (.int 8))) (mC (.int 3))) ĝ)))))
 (Ģ (Ķ 3 (aV (Ą ĩ (ē (cT (Ċ (Ą ħ (Ą ŋ (ā 1) (mC (.int 112))) (mC (.int 10))) (Ċ (Ą oX (mC (.int 300)) (Ą ħ (Ą ŋ (ā 1) (mC (.int 112))) (mC (.int 291)))) ĝ)))) (cU gC (Ċ (Ą Ō (Ą ħ (Ą ŋ (ā 1) (mC (.int 32592))) (mC (.int 16))) (mC (.int 9))) ĝ)))))
 (Ģ (Ķ 4 (Ů [0] 1 (Ş Š (Ċ (Ī 2) ĝ)) (gN 1) bQ (ē (đ dW (č (ē (đ Ĳ (Ă 0 (č (ē (ő ň (mC (.int 2)) (Ą Œ (mC (.int 2)) (ā 1)))) Ď)))) Ď)))))
 (Ģ (Ķ 5 (Ů [3,0] 1 (Ş Š (Ċ (Ī 2) ĝ)) (gN 2) bQ (ē (đ dX (č (ē (đ Ĳ (Ă 1 (č (ē (ő ň (mC (.int 3)) (Ą Œ (mC (.int 2)) (ā 2)))) Ď)))) (Ă 0 Ď))))))
 (Ģ (Ķ 6 (aV (mC (.int 0))))
 (Ģ (eU (bA (Ą Ō (Ą ħ (ē (đ Ĳ (Ă 0 (č (mC (.int 1)) Ď)))) (mC (.int 3))) (mC (.int 1))))
 (Ķ 6 (đ dX (č (Ą ŋ (ē (đ Ĳ (Ă 0 (č (mC (.int 1)) Ď)))) (mC (.int 3))) (Ă 3 Ď))))
 iz)
 (Ģ (Ķ 7 (đ lN (Ă 5 (Ă 6 Ď))))
 (Ģ (Ķ 8 (cT (Ċ (ē (qJ dB (Ċ (ā 4) ĝ))) (Ċ (ē (qJ dB (Ċ (ā 5) ĝ))) ĝ)))) Zs))))))))):=rfl
def ZR(pr:Nat->Int)(cov:Nat->Nat)(n many base:Nat)(r:RV):Prop:=
 (∃k,ī (Z0 cov n (2 ^ n-1) base) many=some k∧r=.sh (.tup [.str "none",.int (k:Nat)]))∨
    ∃c,c<2 ^ n/\ī (Z0 cov n c base) many=none/\(∀c',c'<2 ^ n->ī (Z0 cov n c' base) many=none->Z1 pr n c<=Z1 pr n c'/\(Z1 pr n c'=Z1 pr n c->c<=c'))/\
     r=.ot [.str "choice",.int (c:Nat),.int (Z1 pr n c)] ((List.range (2 ^ n)).map λc=>ŀ (ī (Z0 cov n c base) many))
def Zq{pr:Nat->Int}{cov:Nat->Nat}{n many base:Nat}{r:RV}(h:ZR pr cov n many base r):Zv pr (λc=>Z0 cov n c base) n many r.val:=by
 refine ZP pr cov ?_
 rcases h with⟨k,hk,rfl⟩|⟨c,hc,hcn,hmin,rfl⟩
 ·exact .inl ⟨k,hk,rfl⟩
 ·exact .inr ⟨c,hc,hcn,hmin,rfl⟩
def ZS{pr:Nat->Int}{cov:Nat->Nat}{n many base:Nat}(hn:n<=9)(hm:many<=1000){r:RV}(hr:ZR pr cov n many base r)(z0 z1 z2:P.Slot) :
 FR.of (Zj [z0,z1,z2,.sh (.int many),.ow ((List.range n).map λk=>PV.int (pr k)),.ow ((List.range n).map λk=>PV.int (cov k:Nat)),.sh (.int base),.ow ((List.range (2 ^ n)).map λc=>PV.int (Z0 cov n c base:Nat)),.ow [.lst ((List.range n).map λk=>PV.int (pr k)),.lst ((List.range n).map λk=>PV.int (cov k:Nat))],r.slot])=.ret (.sh (.bl true)):=by
 obtain⟨r1,e1,h1⟩:=Z8 pr cov (n:=n) (many:=many) hn hm base
 obtain⟨r2,e2,h2⟩:=Zx pr cov (n:=n) (many:=many) hn hm base
 have k1:=ZA hn hm (Zq hr)
 have k2:=ZA hn hm (Zq h2)
 have ne2:=ZQ pr (λk=>(cov k:Int)) (List.range n)
 rcases hr with⟨k,hk,rfl⟩|⟨c,hc,hcn,hmin,rfl⟩
 ·have h1':r1=.sh (.tup [.str "none",.int (k:Nat)]):=by
   rcases h1 with⟨k',hk',rfl⟩|⟨c,hc,hcn,hmin,rfl⟩
   ·rw[hk] at hk';cases hk';rfl
   ·rw[Zo cov hcn] at hk;cases hk
  subst h1'
  have k3:=Zp (M:=λc=>Z0 cov n c base) (Nat.two_pow_pos n) hm hk (.sh (.lst ((List.range n).map λk=>PV.int (pr k))))
  have t1:Ō (.str "none") (.str "choice")=some (.bl false):=ZE (by decide +kernel) (by decide +kernel) (by decide +kernel)
  clear h1 h2 e2 k2
  generalize ((List.range (2 ^ n)).map λc=>PV.int (Z0 cov n c base:Nat))=ME at *
  generalize ((List.range n).map λk=>PV.int (cov k:Nat))=CV at *
  generalize ((List.range n).map λk=>PV.int (pr k))=PR at *
  simp[RV.val] at k1
  simp[Zj,cJ,RV.slot,k1,ne2,t1,gJ,e1,k3]
 ·have t1:Ō (.str "choice") (.str "choice")=some (.bl true):=ZE (by decide +kernel) (by decide +kernel) (by decide +kernel)
  have pl:((List.range (2 ^ n)).map λc=>ŀ (ī (Z0 cov n c base) many)).length<16777216:=by
   have:=Nat.pow_le_pow_right (show 0<2 by omega) hn
   simp at this ⊢
   omega
  clear h1 h2 e1
  generalize ((List.range (2 ^ n)).map λc=>ŀ (ī (Z0 cov n c base) many))=PA at *
  generalize ((List.range (2 ^ n)).map λc=>PV.int (Z0 cov n c base:Nat))=ME at *
  generalize ((List.range n).map λk=>PV.int (cov k:Nat))=CV at *
  generalize ((List.range n).map λk=>PV.int (pr k))=PR at *
  simp[RV.val] at k1
  generalize Z1 pr n c=sc at *
  simp[Zj,cJ,jj,RV.slot,k1,ne2,t1,pl,gJ,e2,k2]
def ZZ{pr:Nat->Int}{cov:Nat->Nat}{n many base:Nat}(hn:n<=9)(hm:many<=1000)(z0 z1 z2:P.Slot) :
 FR.of (Zs [z0,z1,z2,.sh (.int many),.ow ((List.range n).map λk=>PV.int (pr k)),.ow ((List.range n).map λk=>PV.int (cov k:Nat)),.sh (.int base),.ow ((List.range (2 ^ n)).map λc=>PV.int (Z0 cov n c base:Nat)),.ow [.lst ((List.range n).map λk=>PV.int (pr k)),.lst ((List.range n).map λk=>PV.int (cov k:Nat))],.no])=.ret (.sh (.bl true)):=by
 obtain⟨r1,e1,h1⟩:=Z8 pr cov (n:=n) (many:=many) hn hm base
 have fin:=ZS hn hm h1 z0 z1 z2
 clear h1
 by_cases hb:base=0
 ·subst hb
  generalize ((List.range (2 ^ n)).map λc=>PV.int (Z0 cov n c 0:Nat))=ME at *
  generalize ((List.range n).map λk=>PV.int (cov k:Nat))=CV at *
  generalize ((List.range n).map λk=>PV.int (pr k))=PR at *
  simp at e1 fin
  simp[Zs,gH,e1]
  simpa using fin
 ·have hb':¬(base:Int)=0:=by omega
  generalize ((List.range (2 ^ n)).map λc=>PV.int (Z0 cov n c base:Nat))=ME at *
  generalize ((List.range n).map λk=>PV.int (cov k:Nat))=CV at *
  generalize ((List.range n).map λk=>PV.int (pr k))=PR at *
  simp[Zs,hb,e1]
  simpa using fin
abbrev FN(nm q:Str)(st:Stmt)(kV dc pm:Value)(an:Option Addr)(cd ct:Value):FuncData:=PySem.W.fnOf nm q (ı st) (Ġ st) (ă st) .none kV dc pm an cd ct
abbrev PN(dV:Value)(nm q:Str)(st:Stmt)(kV dc pm:Value)(an:Option Addr)(cd ct:Value):FuncData:=PySem.W.fnOf nm q (ı st) (Ġ st) (ă st) dV kV dc pm an cd ct
abbrev LK(K:PySem.W.Frag)(g:Addr)(oc:Value)(od:Option Addr)(f:FuncData)(sl:Array (Option Value)):Prop:=K.lookup g=some ⟨oc,od,.func f,sl⟩
def VR{l:PySem.W.OpenLaw}{w:World}{K:PySem.W.Frag}{h:Heap}{mg:Str->Option Value}{fa:Addr}(X:K.In h)(G:h.Ns mainGlobals mg)(hfa:mg "law" =some (.ref fa))
 {g0 g1 g2 g3 g4 g5 g6 g7 g8 g9 Kz Ia KC KD KH P_:Addr}{V_ SM Wa SN Wb SQ Wc SX Wd S_ Wf Tc Wg Td Wh Te Wi Tf Wj Ti Qa Ib Qc Ie Qd Ig Qe Ih Qf vO Qg DG:Option Addr}{Wk Gm sl2 Wm Wn Wo Wq Wr Ws Wt Qh Qi Qj Qk Ql Qm:Array (Option Value)}{Wu Tj Tn Tp Qn Tq Wv Tr Tt Tv Qo Tw Ww Tz TF TJ Qp TQ Wx TV TX TY Qq T_ Wy Ua Ub Uc Qs Ud Wz Ue Ug Uh Qt Ui WD Uj Uk Ul Qu Um WK Uo Uq Ur Qw Us WL Ut Uu Uv Qx Uw WM Ux Uy Uz Qy UG Qz Ii Ij Ik DK Il QB Im Io Ip DN Ir QC Iu Iv Iw DP Iz QD IK IV IW DQ I_ QF vP vQ vR qQ vU QG DR DW DX yx DY:Value}
 {D_ QH:Addr}{Ja:Tok}{QJ:Array (Option Value)}{QK:Option Addr}{QL:Value}
 (a0:PySem.W.nsIn K mainGlobals "_law_at" =some (some (.ref g0)))
 (l0:LK K g0 Wu V_ (FN "_law_at" "_law_at" lJ Tj Tn Tp SM Qn Tq) Wk)
 (c0:PySem.W.codeIn K Qn "_law_at" =true)(k0:PySem.W.keepIn K (.ref g0)=true)
 (a1:PySem.W.nsIn K mainGlobals "_law_meets" =some (some (.ref g1)))
 (l1:LK K g1 Wv Wa (FN "_law_meets" "_law_meets" qO Tr Tt Tv SN Qo Tw) Gm)
 (c1:PySem.W.codeIn K Qo "_law_meets" =true)(k1:PySem.W.keepIn K (.ref g1)=true)
 (a2:PySem.W.nsIn K mainGlobals "_law_unmet" =some (some (.ref g2)))
 (l2:LK K g2 Ww Wb (FN "_law_unmet" "_law_unmet" uL Tz TF TJ SQ Qp TQ) sl2)
 (c2:PySem.W.codeIn K Qp "_law_unmet" =true)(k2:PySem.W.keepIn K (.ref g2)=true)
 (a3:PySem.W.nsIn K mainGlobals "_law_price" =some (some (.ref g3)))
 (l3:LK K g3 Wx Wc (FN "_law_price" "_law_price" qP TV TX TY SX Qq T_) Wm)
 (c3:PySem.W.codeIn K Qq "_law_price" =true)(k3:PySem.W.keepIn K (.ref g3)=true)
 (a4:PySem.W.nsIn K mainGlobals "_law_whole" =some (some (.ref g4)))
 (l4:LK K g4 Wy Wd (FN "_law_whole" "_law_whole" uM Ua Ub Uc S_ Qs Ud) Wn)
 (c4:PySem.W.codeIn K Qs "_law_whole" =true)(k4:PySem.W.keepIn K (.ref g4)=true)
 (a5:PySem.W.nsIn K mainGlobals "_law_paper" =some (some (.ref g5)))
 (l5:LK K g5 Wz Wf (FN "_law_paper" "_law_paper" uN Ue Ug Uh Tc Qt Ui) Wo)
 (c5:PySem.W.codeIn K Qt "_law_paper" =true)(k5:PySem.W.keepIn K (.ref g5)=true)
 (a6:PySem.W.nsIn K mainGlobals "_law_told" =some (some (.ref g6)))
 (l6:LK K g6 WD Wg (FN "_law_told" "_law_told" lK Uj Uk Ul Td Qu Um) Wq)
 (c6:PySem.W.codeIn K Qu "_law_told" =true)(k6:PySem.W.keepIn K (.ref g6)=true)
 (a7:PySem.W.nsIn K mainGlobals "_law_money" =some (some (.ref g7)))
 (l7:LK K g7 WK Wh (FN "_law_money" "_law_money" uO Uo Uq Ur Te Qw Us) Wr)
 (c7:PySem.W.codeIn K Qw "_law_money" =true)(k7:PySem.W.keepIn K (.ref g7)=true)
 (a8:PySem.W.nsIn K mainGlobals "_law_grains" =some (some (.ref g8)))
 (l8:LK K g8 WL Wi (FN "_law_grains" "_law_grains" uP Ut Uu Uv Tf Qx Uw) Ws)
 (c8:PySem.W.codeIn K Qx "_law_grains" =true)(k8:PySem.W.keepIn K (.ref g8)=true)
 (a9:PySem.W.nsIn K mainGlobals "_law_wants" =some (some (.ref g9)))
 (l9:LK K g9 WM Wj (FN "_law_wants" "_law_wants" uQ Ux Uy Uz Ti Qy UG) Wt)
 (c9:PySem.W.codeIn K Qy "_law_wants" =true)(k9:PySem.W.keepIn K (.ref g9)=true)
 (a10:PySem.W.nsIn K mainGlobals "chosen" =some (some (.ref Kz)))
 (l10:LK K Kz Qz Qa (FN "chosen" "chosen" jm Ii Ij Ik Ib DK Il) Qh)
 (QM:PySem.W.codeIn K DK "chosen" =true)(k10:PySem.W.keepIn K (.ref Kz)=true)
 (a11:PySem.W.nsIn K mainGlobals "cheapest" =some (some (.ref Ia)))
 (QS:LK K Ia QB Qc (FN "cheapest" "cheapest" jo Im Io Ip Ie DN Ir) Qi)
 (QT:PySem.W.codeIn K DN "cheapest" =true)(k11:PySem.W.keepIn K (.ref Ia)=true)
 (a12:PySem.W.nsIn K mainGlobals "least_missing" =some (some (.ref KC)))
 (QV:LK K KC QC Qd (FN "least_missing" "least_missing" uR Iu Iv Iw Ig DP Iz) Qj)
 (c12:PySem.W.codeIn K DP "least_missing" =true)(k12:PySem.W.keepIn K (.ref KC)=true)
 (a13:PySem.W.nsIn K mainGlobals "met_by" =some (some (.ref KD)))
 (QW:LK K KD QD Qe (FN "met_by" "met_by" lM IK IV IW Ih DQ I_) Qk)
 (QX:PySem.W.codeIn K DQ "met_by" =true)(k13:PySem.W.keepIn K (.ref KD)=true)
 (a14:PySem.W.nsIn K mainGlobals "least_choice" =some (some (.ref KH)))
 (QZ:LK K KH QF Qf (PN (.ref D_) "least_choice" "least_choice" iJ vP vQ vR vO qQ vU) Ql)
 (Jb:K.lookup D_=some ⟨QL,QK,.seq #[.int 0 Ja] QH,QJ⟩)
 (Q_:PySem.W.codeIn K qQ "least_choice" =true)(k14:PySem.W.keepIn K (.ref KH)=true)
 (a15:PySem.W.nsIn K mainGlobals "law" =some (some (.ref P_)))
 (Ra:LK K P_ QG Qg (FN "law" "law" bK DR DW DX DG yx DY) Qm)
 (Rb:PySem.W.codeIn K yx "law" =true)(Rf:PySem.W.keepIn K (.ref P_)=true)
 (z0:PySem.W.nsIn K mainGlobals "bool" =some none)
 (z1:PySem.W.nsIn K mainGlobals "enumerate" =some none)
 (z2:PySem.W.nsIn K mainGlobals "int" =some none)
 (z3:PySem.W.nsIn K mainGlobals "isinstance" =some none)
 (z4:PySem.W.nsIn K mainGlobals "len" =some none)
 (z5:PySem.W.nsIn K mainGlobals "list" =some none)
 (z6:PySem.W.nsIn K mainGlobals "min" =some none)
 (z7:PySem.W.nsIn K mainGlobals "range" =some none)
 (z8:PySem.W.nsIn K mainGlobals "sum" =some none)
 (z9:PySem.W.nsIn K mainGlobals "tuple" =some none)
 (Rg:PySem.W.nsIn K mainGlobals "zip" =some none)
 (q0:xY K "cheapest" Ia=true)
 :∃fd:FuncData,(∀(s:Shared) (v:Value),BindsTo s fd ⟨[v],[]⟩ [("_law_script",v)])/\∀base:Heap,K.In base->base.Ns mainGlobals mg->∃cm,ĸ l.prog w K mg base iV 6 fa fd ["_law_script"] (bB ⟨K,cm⟩ 1 dF):=by
 have e:=hfa.symm.trans (PySem.W.mg_of X G a15)
 cases e
 have F0:=ŉ (st:=lJ) l0 c0 k0
 have b0:=F0.binds (ps:=["_law_script","_law_k"]) λ_ _ _ _ _ _ us hl=>match us,hl with| [_,_],_=>rfl
 have F1:=ŉ (st:=qO) l1 c1 k1
 have b1:=F1.binds (ps:=["_law_covers","_law_ahead"]) λ_ _ _ _ _ _ us hl=>match us,hl with| [_,_],_=>rfl
 have F2:=ŉ (st:=uL) l2 c2 k2
 have b2:=F2.binds (ps:=["_law_found","_law_many"]) λ_ _ _ _ _ _ us hl=>match us,hl with| [_,_],_=>rfl
 have F3:=ŉ (st:=qP) l3 c3 k3
 have b3:=F3.binds (ps:=["_law_prices","_law_choice"]) λ_ _ _ _ _ _ us hl=>match us,hl with| [_,_],_=>rfl
 have F4:=ŉ (st:=uM) l4 c4 k4
 have b4:=F4.binds (ps:=["_law_found"]) λ_ _ _ _ _ _ us hl=>match us,hl with| [_],_=>rfl
 have F5:=ŉ (st:=uN) l5 c5 k5
 have b5:=F5.binds (ps:=["_law_paper_here","_law_meets_here","_law_many"]) λ_ _ _ _ _ _ us hl=>match us,hl with| [_,_,_],_=>rfl
 have F6:=ŉ (st:=lK) l6 c6 k6
 have b6:=F6.binds (ps:=["_law_told_here","_law_prices","_law_meets_here","_law_many"]) λ_ _ _ _ _ _ us hl=>match us,hl with| [_,_,_,_],_=>rfl
 have F7:=ŉ (st:=uO) l7 c7 k7
 have b7:=F7.binds (ps:=["_law_cell"]) λ_ _ _ _ _ _ us hl=>match us,hl with| [_],_=>rfl
 have F8:=ŉ (st:=uP) l8 c8 k8
 have b8:=F8.binds (ps:=["_law_cell","_law_many"]) λ_ _ _ _ _ _ us hl=>match us,hl with| [_,_],_=>rfl
 have F9:=ŉ (st:=uQ) l9 c9 k9
 have b9:=F9.binds (ps:=["_law_cell","_law_many"]) λ_ _ _ _ _ _ us hl=>match us,hl with| [_,_],_=>rfl
 have F10:=ŉ (st:=jm) l10 QM k10
 have b10:=F10.binds (ps:=["values","choice"]) λ_ _ _ _ _ _ us hl=>match us,hl with| [_,_],_=>rfl
 have F11:=ŉ (st:=jo) QS QT k11
 have WQ:=F11.binds (ps:=["prices","choices"]) λ_ _ _ _ _ _ us hl=>match us,hl with| [_,_],_=>rfl
 have F12:=ŉ (st:=uR) QV c12 k12
 have WR:=F12.binds (ps:=["met","many"]) λ_ _ _ _ _ _ us hl=>match us,hl with| [_,_],_=>rfl
 have F13:=ŉ (st:=lM) QW QX k13
 have WT:=F13.binds (ps:=["covers","choice","base"]) λ_ _ _ _ _ _ us hl=>match us,hl with| [_,_,_],_=>rfl
 have F14:=yc (st:=iJ) QZ Q_ k14
 have WW:=nH (st:=iJ) (x:= "least_choice") (qual:= "least_choice") (ps:=["prices","covers","many","base"]) (kV:=vP) (doc:=vQ) (pm:=vR) (an:=vO) (cdv:=qQ) (ct:=vU) Jb rfl λus hl=>match us,hl with| [_,_,_,_],_=>⟨_,rfl,rfl⟩
 have Rh:=nJ (st:=iJ) (x:= "least_choice") (qual:= "least_choice") (ps:=["prices","covers","many","base"]) (kV:=vP) (doc:=vQ) (pm:=vR) (an:=vO) (cdv:=qQ) (ct:=vU) (ds:=[.int 0 Ja]) Jb rfl λus hl=>match us,(by simpa using hl:us.length=3) with| [_,_,_],_=>⟨_,rfl,rfl⟩
 have Ri:=uK (kn:= "base") (st:=iJ) (x:= "least_choice") (qual:= "least_choice") (ps:=["prices","covers","many","base"]) (kV:=vP) (doc:=vQ) (pm:=vR) (an:=vO) (cdv:=qQ) (ct:=vU) rfl Jb rfl λ_ _ _ _=>⟨_,rfl,rfl⟩
 have F15:=ŉ (st:=bK) Ra Rb Rf
 have WX:=F15.binds (ps:=["_law_script"]) λ_ _ _ _ _ _ us hl=>match us,hl with| [_],_=>rfl
 have T:Tx K mg (@Ky.mk g0 g1 g2 g3 g4 g5 g6 g7 g8 g9 Kz Ia KC KD KH fa (FN "_law_at" "_law_at" lJ Tj Tn Tp SM Qn Tq) (FN "_law_meets" "_law_meets" qO Tr Tt Tv SN Qo Tw) (FN "_law_unmet" "_law_unmet" uL Tz TF TJ SQ Qp TQ) (FN "_law_price" "_law_price" qP TV TX TY SX Qq T_) (FN "_law_whole" "_law_whole" uM Ua Ub Uc S_ Qs Ud) (FN "_law_paper" "_law_paper" uN Ue Ug Uh Tc Qt Ui) (FN "_law_told" "_law_told" lK Uj Uk Ul Td Qu Um) (FN "_law_money" "_law_money" uO Uo Uq Ur Te Qw Us) (FN "_law_grains" "_law_grains" uP Ut Uu Uv Tf Qx Uw) (FN "_law_wants" "_law_wants" uQ Ux Uy Uz Ti Qy UG) (FN "chosen" "chosen" jm Ii Ij Ik Ib DK Il) (FN "cheapest" "cheapest" jo Im Io Ip Ie DN Ir) (FN "least_missing" "least_missing" uR Iu Iv Iw Ig DP Iz) (FN "met_by" "met_by" lM IK IV IW Ih DQ I_) (PN (.ref D_) "least_choice" "least_choice" iJ vP vQ vR vO qQ vU) (FN "law" "law" bK DR DW DX DG yx DY)):=⟨F0,PySem.W.mg_of X G a0,b0,F1,PySem.W.mg_of X G a1,b1,F2,PySem.W.mg_of X G a2,b2,F3,PySem.W.mg_of X G a3,b3,F4,PySem.W.mg_of X G a4,b4,F5,PySem.W.mg_of X G a5,b5,F6,PySem.W.mg_of X G a6,b6,F7,PySem.W.mg_of X G a7,b7,F8,PySem.W.mg_of X G a8,b8,F9,PySem.W.mg_of X G a9,b9,F10,PySem.W.mg_of X G a10,b10,F11,PySem.W.mg_of X G a11,WQ,F12,PySem.W.mg_of X G a12,WR,F13,PySem.W.mg_of X G a13,WT,F14,PySem.W.mg_of X G a14,WW,⟨_,Rh⟩,Ri,F15,PySem.W.mg_of X G a15,WX,q0,PySem.W.mg_none_of X G z0,PySem.W.mg_none_of X G z1,PySem.W.mg_none_of X G z2,PySem.W.mg_none_of X G z3,PySem.W.mg_none_of X G z4,PySem.W.mg_none_of X G z5,PySem.W.mg_none_of X G z6,PySem.W.mg_none_of X G z7,PySem.W.mg_none_of X G z8,PySem.W.mg_none_of X G z9,PySem.W.mg_none_of X G Rg⟩
 exact⟨PySem.W.fnOf "law" "law" (ı bK) (Ġ bK) (ă bK) .none DR DW DX DG yx DY,λs v=>.of_eq rfl,λbase _ _=>⟨_,Dz T⟩⟩
def WY(ns:List Int)(hn:ns.length<=63):dF [.sh (.lst (ns.map .int))]=.ret (.sh (.bl true)):=by
 have k0:Ĳ [.sh (.lst (ns.map .int)),.sh (.int 0)]=.ret (.sh (.int (ns.getD 0 0))):=Za ns 0
 have k1:Ĳ [.sh (.lst (ns.map .int)),.sh (.int 1)]=.ret (.sh (.int (ns.getD 1 0))):=Za ns 1
 obtain⟨v0,e0⟩:∃c,ns.getD 0 0=c:=⟨_,rfl⟩
 obtain⟨v1,e1⟩:∃c,ns.getD 1 0=c:=⟨_,rfl⟩
 rw[e0] at k0
 rw[e1] at k1
 clear e0 e1
 have i3:gC [.bl (decide (v0 / 14 % 8=3))]=some (.int (if v0 / 14 % 8=3 then 1 else 0)):=by
  by_cases h:v0 / 14 % 8=3<;>simp[h]
 have i9:gC [.bl (decide (v0 / 32592 % 16=9))]=some (.int (if v0 / 32592 % 16=9 then 1 else 0)):=by
  by_cases h:v0 / 32592 % 16=9<;>simp[h]
 obtain⟨n,hnn,Xh⟩:∃n:Nat,(if v0 / 14 % 8=3 then 7+v0 % 2 else v0 % 7)=(n:Int)/\n<=8:=by
  by_cases h:v0 / 14 % 8=3
  ·rw[if_pos h];exact⟨(7+v0 % 2).toNat,by omega,by omega⟩
  ·rw[if_neg h];exact⟨(v0 % 7).toNat,by omega,by omega⟩
 obtain⟨many,hmm,Xi⟩:∃m:Nat,(if v0 / 32592 % 16=9 then 300-v0 / 112 % 291 else v0 / 112 % 10)=(m:Int)/\m<=300:=by
  by_cases h:v0 / 32592 % 16=9
  ·rw[if_pos h];exact⟨(300-v0 / 112 % 291).toNat,by omega,by omega⟩
  ·rw[if_neg h];exact⟨(v0 / 112 % 10).toNat,by omega,by omega⟩
 have x3:ĩ (.lst [.int (v0 % 7),.int (7+v0 % 2)]) (.int (if v0 / 14 % 8=3 then 1 else 0))=some (.int (n:Nat)):=by
  rw[<-hnn]
  by_cases h:v0 / 14 % 8=3<;>simp[h]
 have x9:ĩ (.lst [.int (v0 / 112 % 10),.int (300-v0 / 112 % 291)]) (.int (if v0 / 32592 % 16=9 then 1 else 0))=some (.int (many:Nat)):=by
  rw[<-hmm]
  by_cases h:v0 / 32592 % 16=9<;>simp[h]
 clear hnn hmm
 have rr:=Z9 (n:=n) (by omega)
 obtain⟨pr,hpr⟩:=ZX ns (n:=n) (by omega)
 obtain⟨cov,hcov⟩:=ZY ns (n:=n) (many:=many) (by omega) (by omega)
 obtain⟨b0,hb0⟩:=Zw (v1 / 3) (many:=many) (by omega)
 obtain⟨base,hbase,hbz⟩:∃base:Nat,(v1 % 3=1->base=b0)/\(¬v1 % 3=1->base=0):=by
  by_cases h:v1 % 3=1
  ·exact⟨b0,λ_=>rfl,λz=>absurd h z⟩
  ·exact⟨0,λz=>absurd z h,λ_=>rfl⟩
 have mt:=ZM cov (n:=n) base (by omega) (s0:=.bw ((List.range n).map λk=>PV.int (cov k:Nat))) (.inr rfl)
 have ne2:=ZQ pr (λk=>(cov k:Int)) (List.range n)
 have f1:((List.range n).map λk=>PV.int (pr k)).length<=16777216:=by simp;omega
 have f2:((List.range n).map λk=>PV.int (cov k:Nat)).length<=16777216:=by simp;omega
 have fin:=ZZ (pr:=pr) (cov:=cov) (n:=n) (many:=many) (base:=base) (by omega) (by omega) (.sh (.lst (ns.map .int))) (.sh (.int v0)) (.sh (.int n))
 generalize ((List.range (2 ^ n)).map λc=>PV.int (Z0 cov n c base:Nat))=ME at *
 generalize ((List.range n).map λk=>PV.int (cov k:Nat))=CV at *
 generalize ((List.range n).map λk=>PV.int (pr k))=PR at *
 generalize (List.range n).map (λ(i:Nat)=>PV.int (i:Int))=RG at *
 generalize ns.map PV.int=NS at *
 by_cases h3:v1 % 3=1
 ·have:=hbase h3
  subst this
  simp[dF,SJ,List.replicate,aP,Ū,k0,k1,i3,i9,x3,x9,rr,hpr,hcov,h3,hb0,mt,f1,f2,-Zg]
  simpa using fin
 ·have:=hbz h3
  subst this
  simp[dF,SJ,List.replicate,aP,Ū,k0,k1,i3,i9,x3,x9,rr,hpr,hcov,h3,f1,f2,-Zg]
  simp at mt fin
  simp[mt,f1,f2]
  simpa using fin
def W_{l:PySem.W.OpenLaw}{q:Program}{loose:List Str}{XP:(Str->Option Value)->Heap->Prop}{YP:World->Heap->Prop}{d:DefRec}{K:Params->PySem.W.Frag}(hn:l.most=some 63)(hdf:d.params.defaults=[])
 (hY:∀(w:World) (h:Heap),YP w h->(K w.params).In h)
 (F:∀(w:World) (mg:Str→Option Value) (fa:Addr) (h:Heap),(K w.params).In h→h.Ns mainGlobals mg→mg d.name=some (.ref fa)→
   ∃fd:FuncData,(∀(s:Shared) (u:Value),BindsTo s fd ⟨[u],[]⟩ [("_law_script",u)])/\∀base:Heap,(K w.params).In base->base.Ns mainGlobals mg->∃cm,ĸ l.prog w (K w.params) mg base iV 6 fa fd ["_law_script"] (bB ⟨K w.params,cm⟩ 1 dF))
 (hnt:∀w:World,PySem.W.noTabs (K w.params)=true)(hrec:∀y,y∈lams->∃d,(PyProof.Rows.recsOf q).find? (λe=>e.name== y)=some d) :
 PySem.W.WalkO q loose XP YP l.row.toRowW d [] (λf vs=>PySem.call f vs):=
 P.uf (k:=6) (x:= "_law_script") (CX:=iV) (m:=dF) hn hdf ⟨rfl,by decide,by decide⟩ hY F WY (λ_ _ _ _ z=>z) (hnt:=λ_=>hnt) (hrec:=hrec)
end
end T
namespace PySem.W.Fast
def tw15944598190280523550:=0
def tw1355172970016066607:=0
def tw10111236916656020579:=0
def tw11332783042344255869:=0
def tw17563994166318596447:=0
def tw7452315454978108626:=0
def tw1576037970774961230:=0
def tw2103988070089560864:=0
def tw17859121580295014939:=0
def tw4572910307450886537:=0
def tw8006631997148566611:=0
def tw18272477002599185115:=0
def tw3906914965170525589:=0
def tw13317643250234201650:=0
def tw7705272993194172988:=0
def tw3891330269724582810:=0
def tw10682887496496482715:=0
def tw16574058310528477174:=0
def tw10618524529143205255:=0
def tw7280807233964553209:=0
def tw17757497520424517339:=0
def tw17487485123646782542:=0
def tw11337512942199860185:=0
def tw7435925026106270002:=0
def tw763572621956891338:=0
def tw4061646791640492860:=0
def tw7875016832620864006:=0
def tw13876147410616645807:=0
def tw6719436394949706101:=0
def tw13223724046974490584:=0
def tw154071149618459723:=0
def tw211899980206473474:=0
def tw1926159753978163434:=0
def tw12375031836681599789:=0
def tw3378383633601689195:=0
def tw13810418478423346949:=0
def tw17105508267849315987:=0
def tw7922423262743055699:=0
def tw12059428588370732038:=0
def tw14833060826178641288:=0
def tw15498482390275878795:=0
def tw16526877388108215490:=0
def tw6481948831715266926:=0
def tw7122714119120644924:=0
def tw17525055562269476565:=0
def tw9504338230581486528:=0
def tw4801562752463879191:=0
def tw2297085265228290181:=0
def tw9458124410926480722:=0
def tw17348259420610466657:=0
def tw11857374798677346433:=0
def tw13187168653745081542:=0
def tw9793139237565779926:=0
def tw5472578298988626126:=0
def tw7146378706215587479:=0
def tw12499605049844732357:=0
def tw7591956574590899397:=0
def tw15080267763364012475:=0
def tw4355010286569011578:=0
def tw10640108365130686195:=0
def tw14383483057474508254:=0
def tw2050062669393952968:=0
def tw13497578923052918625:=0
def tw833312469195963100:=0
def tw15817990899226466798:=0
def tw16535973576582309962:=0
def tw4957356682461934678:=0
def tw740769476228728239:=0
def tw12824552262034264401:=0
def tw7714189852067348767:=0
def tw15705383168205588766:=0
def tw8105110414838660622:=0
def tw9974517239221110036:=0
def tw7369779917182782758:=0
def tw17471153331172643036:=0
def tw4298501478416089256:=0
def tw17833062494135255568:=0
def tw11062375774314316534:=0
def tw2045071081301545475:=0
def tw2079783014611599459:=0
def tw3435083542449835405:=0
def tw12596573569202941345:=0
def tw3410686547428913802:=0
def tw9246563197050053957:=0
def tw5006054583645259524:=0
def tw2770007133304421538:=0
def tw16782344945968033040:=0
def tw3905689099172147323:=0
def tw6101011029501104286:=0
def tw478128891366101490:=0
def tw16269717472736098120:=0
def tw14022632042518608363:=0
def tw12854768463116569619:=0
def tw14565242495900102558:=0
def tw1931376844440308074:=0
def tw9509461764558028582:=0
def tw830367132785953868:=0
def tw11150320498614434943:=0
def tw1084075176073055104:=0
def tw16281441828032134177:=0
def tw247465373694825538:=0
def tw14198676870013234912:=0
def tw11095102477635639763:=0
def tw15252911704902366123:=0
end PySem.W.Fast
open PySem PySem.W PyProof.Rows
set_option maxRecDepth 100000 in
set_option maxHeartbeats 0 in
theorem PySem.Challenge.cw_shadowpost_k41_a_choice_and_its_paper_holds : PySem.Challenge.rw_shadowpost_k41_a_choice_and_its_paper.Holds := by
 w_on;o_law;k_head;(case hw=>w_witness2)
 k_fill
 refine T.W_ (l:=PySem.Challenge.rw_shadowpost_k41_a_choice_and_its_paper) rfl rfl (λw h Y=>by first|exact PySem.W.kIn_of Y|exact PySem.W.km_in_of Y) ?F ?hnt ?hrec
 case hnt=>intro w;kernel_rfl
 case hrec=>
  intro y hy
  have e:y=PySem.Str.ofString "cheapest" := by simpa[L2.lams] using hy
  subst e
  exact⟨_,rfl⟩
 case F=>
  intro w mg fa h KX G hmg
  refine' T.VR KX G hmg ?a0 ?l0 ?c0 ?k0 ?a1 ?l1 ?c1 ?k1 ?a2 ?l2 ?c2 ?k2 ?a3 ?l3 ?c3 ?k3 ?a4 ?l4 ?c4 ?k4 ?a5 ?l5 ?c5 ?k5 ?a6 ?l6 ?c6 ?k6 ?a7 ?l7 ?c7 ?k7 ?a8 ?l8 ?c8 ?k8 ?a9 ?l9 ?c9 ?k9 ?a10 ?l10 ?QM ?k10 ?a11 ?QS ?QT ?k11 ?a12 ?QV ?c12 ?k12 ?a13 ?QW ?QX ?k13 ?a14 ?QZ ?Jb ?Q_ ?k14 ?a15 ?Ra ?Rb ?Rf ?z0 ?z1 ?z2 ?z3 ?z4 ?z5 ?z6 ?z7 ?z8 ?z9 ?Rg ?q0
  (case a0=>k_is)
  (case l0=>unfold T.LK T.FN;k_is)
  (case c0=>k_is)
  (case k0=>k_is)
  (case a1=>k_is)
  (case l1=>unfold T.LK T.FN;k_is)
  (case c1=>k_is)
  (case k1=>k_is)
  (case a2=>k_is)
  (case l2=>unfold T.LK T.FN;k_is)
  (case c2=>k_is)
  (case k2=>k_is)
  (case a3=>k_is)
  (case l3=>unfold T.LK T.FN;k_is)
  (case c3=>k_is)
  (case k3=>k_is)
  (case a4=>k_is)
  (case l4=>unfold T.LK T.FN;k_is)
  (case c4=>k_is)
  (case k4=>k_is)
  (case a5=>k_is)
  (case l5=>unfold T.LK T.FN;k_is)
  (case c5=>k_is)
  (case k5=>k_is)
  (case a6=>k_is)
  (case l6=>unfold T.LK T.FN;k_is)
  (case c6=>k_is)
  (case k6=>k_is)
  (case a7=>k_is)
  (case l7=>unfold T.LK T.FN;k_is)
  (case c7=>k_is)
  (case k7=>k_is)
  (case a8=>k_is)
  (case l8=>unfold T.LK T.FN;k_is)
  (case c8=>k_is)
  (case k8=>k_is)
  (case a9=>k_is)
  (case l9=>unfold T.LK T.FN;k_is)
  (case c9=>k_is)
  (case k9=>k_is)
  (case a10=>k_is)
  (case l10=>unfold T.LK T.FN;k_is)
  (case QM=>k_is)
  (case k10=>k_is)
  (case a11=>k_is)
  (case QS=>unfold T.LK T.FN;k_is)
  (case QT=>k_is)
  (case k11=>k_is)
  (case a12=>k_is)
  (case QV=>unfold T.LK T.FN;k_is)
  (case c12=>k_is)
  (case k12=>k_is)
  (case a13=>k_is)
  (case QW=>unfold T.LK T.FN;k_is)
  (case QX=>k_is)
  (case k13=>k_is)
  (case a14=>k_is)
  (case QZ=>unfold T.LK T.PN;k_is)
  (case Jb=>k_is)
  (case Q_=>k_is)
  (case k14=>k_is)
  (case a15=>k_is)
  (case Ra=>unfold T.LK T.FN;k_is)
  (case Rb=>k_is)
  (case Rf=>k_is)
  (case z0=>k_is)
  (case z1=>k_is)
  (case z2=>k_is)
  (case z3=>k_is)
  (case z4=>k_is)
  (case z5=>k_is)
  (case z6=>k_is)
  (case z7=>k_is)
  (case z8=>k_is)
  (case z9=>k_is)
  (case Rg=>k_is)
  (case q0=>kernel_rfl)
