import PyProof.Rows.All
import Wide.All
import OpenK.AllK
import Wide.FinOn
import Lean
import PyProof.EqAt
import PyProof.EqKinds
import PyProof.TupleCall
import PySem.Challenge.RW_shadowpost_k26_weights_or_a_line
set_option Elab.async false
set_option linter.all false
set_option maxRecDepth 100000
set_option maxHeartbeats 4000000
namespace L2
open PySem PySem.Spec PyProof.Rows
abbrev Key:=Sum Int Str
def CP:Key→Value→Bool
 | .inl k,v=>Value.isInt k v
 | .inr x,v=>Value.isStrOf x v
def Wc(w:World):Key→Int
 | .inl k=>hashInt k
 | .inr x=>hashStr w x
theorem ŏ:∀{k:Key} {v:Value},CP k v=true→(∃i t,k=Sum.inl i∧v=Value.int i t)∨(∃x t,k=Sum.inr x∧v=Value.str x t)
 | .inl i,v,h=>by
   obtain⟨t,e⟩:=Value.isInt_shape (k:=i) (v:=v) h
   exact .inl ⟨i,t,rfl,e⟩
 | .inr x,v,h=>by
   obtain⟨t,e⟩:=Value.isStrOf_shape (x:=x) (v:=v) h
   exact .inr ⟨x,t,rfl,e⟩
theorem Eu(a b:Int):decide ((Sum.inl a:Key)=Sum.inl b)=(a== b):=by
 by_cases e:a=b
 ·subst e;simp
 ·have h:¬(Sum.inl a:Key)=Sum.inl b:=fun q=>e (Sum.inl.inj q)
  rw[decide_eq_false h]
  exact(beq_eq_false_iff_ne.mpr e).symm
theorem Ew(a b:Str):decide ((Sum.inr a:Key)=Sum.inr b)=decide (a=b):=by
 by_cases e:a=b
 ·subst e;simp
 ·have h:¬(Sum.inr a:Key)=Sum.inr b:=fun q=>e (Sum.inr.inj q)
  rw[decide_eq_false h,decide_eq_false e]
theorem Ey(a:Int)(b:Str):decide ((Sum.inl a:Key)=Sum.inr b)=false:=decide_eq_false (fun q=>nomatch q)
theorem Ez(a:Str)(b:Int):decide ((Sum.inr a:Key)=Sum.inl b)=false:=decide_eq_false (fun q=>nomatch q)
def lA(prog:Program)(w:World):PySem.KeyKind prog w Key where
 is:=CP
 hash:=Wc w
 inj:=fun v a b ha hb=>by
  rcases ŏ ha with⟨i,t,rfl,rfl⟩|⟨x,t,rfl,rfl⟩
  ·rcases ŏ hb with⟨j,u,rfl,e⟩|⟨y,u,rfl,e⟩
   ·injection e with e1 _;rw[e1]
   ·exact nomatch e
  ·rcases ŏ hb with⟨j,u,rfl,e⟩|⟨y,u,rfl,e⟩
   ·exact nomatch e
   ·injection e with e1 _;rw[e1]
 byValue:=fun k v h=>by
  rcases ŏ h with⟨i,t,rfl,rfl⟩|⟨x,t,rfl,rfl⟩<;>rfl
 pyHash:=fun hv h=>by
  rcases ŏ hv with⟨i,t,rfl,rfl⟩|⟨x,t,rfl,rfl⟩
  ·exact wpAny_pyHash_int h
  ·exact wpAny_pyHash_str h
 eqBool:=fun hu hv h=>by
  rcases ŏ hu with⟨i,t,rfl,rfl⟩|⟨x,t,rfl,rfl⟩
  ·rcases ŏ hv with⟨j,u,rfl,rfl⟩|⟨y,u,rfl,rfl⟩
   ·rw[Eu] at h;exact wpAny_eqBool_int h
   ·rw[Ey] at h;exact SeqAt.EqAt.int_str i t y u _ _ _ _ h
  ·rcases ŏ hv with⟨j,u,rfl,rfl⟩|⟨y,u,rfl,rfl⟩
   ·rw[Ez] at h;exact SeqAt.EqAt.str_int x t j u _ _ _ _ h
   ·rw[Ew] at h;exact wpAny_eqBool_str h
 «strs» := fun k x t v h=>by
   rcases ŏ h with⟨i,u,rfl,e⟩|⟨y,u,rfl,e⟩
   ·exact nomatch e
   ·injection e with e1 _
    subst e1
    cases v<;>rfl
end L2
namespace L2
open PySem PySem.Spec PyProof.Rows
inductive V where
 |non|bl (b:Bool)|int (i:Int)|str (x:Str)|EY (b:Array UInt8)|flt (b:UInt64)|ref (a:Addr)|ty (n:String)
 deriving DecidableEq
def RelV:V→Value→Prop
 | .non,u=>u=Value.none
 | .bl b,u=>u=Value.bool b
 | .int i,u=>∃t,u=Value.int i t
 | .str x,u=>∃t,u=Value.str x t
 | .EY b,u=>∃t,u=Value.bytes b t
 | .flt b,u=>∃t,u=Value.float b t
 | .ref a,u=>u=Value.ref a
 | .ty n,u=>u=Value.type n
abbrev Vals:List V→List Value→Prop:=Paired RelV
theorem Vals.length{xs:List V}{us:List Value}(r:Vals xs us):xs.length=us.length:=Paired.length r
theorem Vals.get:∀{xs:List V} {us:List Value} {i:Nat} {x:V},Vals xs us→xs[i]?=some x→∃u,us[i]?=some u∧RelV x u
 |_,_,_,_,.nil,e=>by simp at e
 |_,_,0,_,.cons r _,e=>by simp at e;subst e;exact⟨_,rfl,r⟩
 |_,_,i+1,x,.cons _ t,e=>by
  obtain⟨u,h1,h2⟩:=Vals.get (i:=i) (x:=x) t (by simpa using e)
  exact⟨u,by simpa using h1,h2⟩
theorem Vals.set{x:V}{u:Value}(r:RelV x u):∀{xs:List V} {us:List Value} (i:Nat),Vals xs us→Vals (xs.set i x) (us.set i u)
 |_,_,_,.nil=>.nil
 |_,_,0,.cons _ t=>.cons r t
 |_,_,i+1,.cons q t=>.cons q (Vals.set r i t)
theorem Vals.append:∀{xs ys:List V} {us ws:List Value},Vals xs us→Vals ys ws→Vals (xs++ys) (us++ws)
 |_,_,_,_,.nil,s=>s
 |_,_,_,_,.cons r t,s=>.cons r (Vals.append t s)
def E_:Option V→Option Value→Prop
 |some v,some u=>RelV v u
 |none,none=>True
 |_,_=>False
def KV{κ:Type}:List (κ×V)→List (κ×Value)→Prop:=Paired fun(p:κ×V) (q:κ×Value)=>p.1=q.1∧RelV p.2 q.2
def kV:Key→V
 | .inl i=>.int i
 | .inr x=>.str x
inductive HO where
 /-- a list -/
 |lst (xs:List V)
 /-- a tuple (never changes) -/
 |tup (xs:List V)
 /-- a dict whose keys are ints and texts;one whose keys are tuples of ints and texts (the empty one is both) -/
 |dK (kvs:List (Key×V))|dT (kvs:List (List Key×V))
 /-- a set of ints:its members,its size -/
 |set (S:Int→Bool) (n:Nat)
 /-- an instance of the class at C,its dict at dx,its attributes -/
 |ins (C dx:Addr) (fs:List (Str×V))
 /-- the dict of the instance at x -/
 |own (x:Addr)
 /-- the dict of an exception -/
 |xd (fs:List (Str×V))
 /-- a bound method,f of x -/
 |met (f x:Addr)
 /-- a range object lo,lo+1,.. below hi -/
 |rng (lo hi:Int)
 /-- a thing that is known to the object (the script;a dict while a loop walks it):read,never written while it is so -/
 |bC (o:Obj) (u:HO)
 /-- a code object's table -/
 |oZ (ps:Array Value)
 /-- any other thing,by what is true of its one object (a def of one's own:ZbK a S n:=HO.ext fun h=>..) -/
 |ext (φ:Heap→Prop)
abbrev Hp:=Addr→Option HO
def upd(H:Hp)(a:Addr)(o:HO):Hp:=fun b=>if b=a then some o else H b
theorem ĥ{H:Hp}{a:Addr}{o:HO}:upd H a o a=some o:=by unfold upd;rw[if_pos rfl]
theorem Ĝ{H:Hp}{a b:Addr}{o:HO}(h:b≠a):upd H a o b=H b:=by unfold upd;rw[if_neg h]
theorem ŕ{H:Hp}{a b:Addr}{o:HO}(h:H a=some o)(h':H b=none):a≠b:=by
 intro e;subst e;rw[h] at h';cases h'
section
variable(P:Program)(w:World)
def ũ(H:Hp)(h:Heap)(a:Addr):HO→Prop
 | .lst xs=>xs.length≤sizeLine∧∃(its:List Value) (n:Nat),Vals xs its∧h.get? a=some {cls:=.type "list",data:=.seq its.toArray n}
 | .tup xs=>xs.length≤sizeLine∧∃its:List Value,Vals xs its∧IsTup h a its.toArray
 | .dK kvs=>kvs.length≤sizeLine∧(a== sysModules)=false∧∃vs,KV kvs vs∧h.DictOf (lA P w) a vs
 | .dT kvs=>kvs.length≤sizeLine∧(a== sysModules)=false∧∃xs:List (List Key×Addr×Value),
     Paired (fun(p:List Key×V) (q:List Key×Addr×Value)=>p.1=q.1∧H q.2.1=some (.tup (p.1.map kV))∧RelV p.2 q.2.2) kvs xs∧
     ∃o es ep,h.get? a=some o∧o.ExactDict∧o.data=.dict es ep∧es.toList=xs.map (entryOfKey (tupleKind (lA P w)))∧(xs.map (·.1)).Nodup
 | .set S n=>h.SetOf (intKind P w) a S n
 | .ins C dx fs=>H dx=some (.own a)∧fs.length≤1000∧dx≠a∧h.get? a=some (PySem.W.instObj C dx)∧
     ∃mA,h.Ns1 dx mA∧(∀f,E_ (fs.lookup f) (mA f))∧PySem.Within mA (fs.map (·.1))
 | .own _=>∃o,h.get? a=some o
 | .xd fs=>∃mA,h.Ns1 a mA∧∀f,E_ (fs.lookup f) (mA f)
 | .rng lo hi=>∃t u v,h.get? a=some {cls:=.type "range",data:=.fields #[.int lo t,.int hi u,.int 1 v]}
 | .bC o u=>h.get? a=some o∧ũ H h a u
 | .oZ ps=>h.get? a=some {cls:=.none,data:=.fields ps}
 | .met f x=>h.get? a=some (PySem.W.methodObj (.ref f) (.ref x))
 | .ext φ=>φ h∧(∃o,h.get? a=some o)∧∀h1 h2:Heap,φ h1→(∀o,h1.get? a=some o→h2.get? a=some o)→φ h2
def dB(H:Hp)(h:Heap):Prop:=∀a o,H a=some o→ũ P w H h a o
end
section
variable{P:Program}{w:World}{H H':Hp}{h h':Heap}{a:Addr}{o:HO}
theorem ũ.lt(x:ũ P w H h a o):a<h.objs.size:=by
 cases o with
 |lst xs=>obtain⟨_,_,_,_,e⟩:=x;exact Heap.lt_size e
 |tup xs=>obtain⟨_,_,_,p⟩:=x;exact p.lt
 |dK kvs=>obtain⟨_,_,_,_,o,_,_,e,_⟩:=x;exact Heap.lt_size e
 |dT kvs=>obtain⟨_,_,_,_,o,_,_,e,_⟩:=x;exact Heap.lt_size e
 |set S n=>obtain⟨o,_,_,_,e,_⟩:=x;exact Heap.lt_size e
 |ins C dx fs=>obtain⟨_,_,_,e,_⟩:=x;exact Heap.lt_size e
 |own y=>obtain⟨_,e⟩:=x;exact Heap.lt_size e
 |xd fs=>obtain⟨_,⟨_,_,_,e,_⟩,_⟩:=x;exact Heap.lt_size e
 |rng lo hi=>obtain⟨_,_,_,e⟩:=x;exact Heap.lt_size e
 |bC ob u=>obtain⟨e,_⟩:=x;exact Heap.lt_size e
 |oZ ps=>exact Heap.lt_size (show h.get? a=some _ from x)
 |met f y=>exact Heap.lt_size (show h.get? a=some _ from x)
 |ext φ=>obtain⟨_,⟨_,e⟩,_⟩:=x;exact Heap.lt_size e
theorem Paired.Kg{α β:Type}{F G:α→β→Prop}:∀{l₁:List α} {l₂:List β},Paired F l₁ l₂→(∀a b,F a b→G a b)→Paired G l₁ l₂
 |_,_,.nil,_=>.nil
 |_,_,.cons r t,f=>.cons (f _ _ r) (Paired.Kg t f)
theorem ũ.stay(x:ũ P w H h a o)(k:∀b u,(b=a∨H b=some (.own a))→h.get? b=some u→h'.get? b=some u)
 (ho:∀b,H b=some (.own a)→H' b=some (.own a))(ht:∀b xs,H b=some (.tup xs)→H' b=some (.tup xs)):ũ P w H' h' a o:=by
 induction o with
 |lst xs=>obtain⟨z,its,n,r,e⟩:=x;exact⟨z,its,n,r,k _ _ (.inl rfl) e⟩
 |tup xs=>obtain⟨z,its,r,ob,e,c⟩:=x;exact⟨z,its,r,ob,k _ _ (.inl rfl) e,c⟩
 |dK kvs=>obtain⟨z,y,vs,r,ob,es,ep,e,c⟩:=x;exact⟨z,y,vs,r,ob,es,ep,k _ _ (.inl rfl) e,c⟩
 |dT kvs=>
  obtain⟨z,y,xs,r,ob,es,ep,e,c⟩:=x
  exact⟨z,y,xs,Paired.Kg r fun p q z=>⟨z.1,ht _ _ z.2.1,z.2.2⟩,ob,es,ep,k _ _ (.inl rfl) e,c⟩
 |set S n=>obtain⟨ob,es,ep,t,e,c⟩:=x;exact⟨ob,es,ep,t,k _ _ (.inl rfl) e,c⟩
 |ins C dx fs=>
  obtain⟨d,z,ne,e,mA,⟨od,es,ep,e2,c⟩,r⟩:=x
  exact⟨ho _ d,z,ne,k _ _ (.inl rfl) e,mA,⟨od,es,ep,k _ _ (.inr d) e2,c⟩,r⟩
 |own y=>obtain⟨ob,e⟩:=x;exact⟨ob,k _ _ (.inl rfl) e⟩
 |xd fs=>obtain⟨mA,⟨od,es,ep,e,c⟩,r⟩:=x;exact⟨mA,⟨od,es,ep,k _ _ (.inl rfl) e,c⟩,r⟩
 |rng lo hi=>obtain⟨t,u,v,e⟩:=x;exact⟨t,u,v,k _ _ (.inl rfl) e⟩
 |bC ob u ih=>obtain⟨e,q⟩:=x;exact⟨k _ _ (.inl rfl) e,ih q⟩
 |oZ ps=>
  have e:h.get? a=some {cls:=.none,data:=.fields ps}:=x
  show h'.get? a=some {cls:=.none,data:=.fields ps}
  exact k a _ (.inl rfl) e
 |met f y=>
  have e:h.get? a=some (PySem.W.methodObj (.ref f) (.ref y)):=x
  show h'.get? a=some (PySem.W.methodObj (.ref f) (.ref y))
  exact k a _ (.inl rfl) e
 |ext φ=>obtain⟨p,⟨o,e⟩,st⟩:=x;exact⟨st _ _ p fun o q=>k _ _ (.inl rfl) q,⟨o,k _ _ (.inl rfl) e⟩,st⟩
theorem dB.lt(x:dB P w H h)(e:H a=some o):a<h.objs.size:=(x a o e).lt
theorem dB.fresh(x:dB P w H h)(e:h.objs.size≤a):H a=none:=by
 cases q:H a with
 |none=>rfl
 |some u=>exact absurd (Nat.lt_of_lt_of_le (x.lt q) e) (Nat.lt_irrefl _)
theorem dB.kept(x:dB P w H h)(k:∀b u,h.get? b=some u→h'.get? b=some u):dB P w H h':=fun a o e=>
 (x a o e).stay (fun b u _ q=>k b u q) (fun _ q=>q) fun _ _ q=>q
theorem dB.laid(x:dB P w H h)(k:∀b u,h.get? b=some u→h'.get? b=some u)(hp:h.objs.size≤a)(new:ũ P w (upd H a o) h' a o):dB P w (upd H a o) h':=fun b u e=>by
 have hn:=x.fresh hp
 by_cases hb:b=a
 ·subst hb;rw[ĥ] at e;cases e;exact new
 ·rw[Ĝ hb] at e
  exact(x b u e).stay (fun c v _ q=>k c v q) (fun c q=>by rw[Ĝ (ŕ q hn)];exact q) fun c xs q=>by rw[Ĝ (ŕ q hn)];exact q
end
def Rd(H:Hp)(a:Addr)(u:HO):Prop:=H a=some u∨∃o,H a=some (.bC o u)
theorem Rd.ok{P:Program}{w:World}{H:Hp}{h:Heap}{a:Addr}{u:HO}(r:Rd H a u)(x:dB P w H h):ũ P w H h a u:=by
 rcases r with r|⟨o,r⟩
 ·exact x a u r
 ·obtain⟨_,q⟩:=x a _ r
  exact q
def SX:Option HO→Prop
 |some (.lst _)=>True
 |some (.dK _)=>True
 |some (.dT _)=>True
 |some (.set _ _)=>True
 |some (.ins _ _ _)=>True
 |some (.ext _)=>True
 |some (.xd _)=>True
 |_=>False
section
variable{P:Program}{w:World}{H:Hp}{h h':Heap}{x e:Addr}{o':HO}
theorem dB.write(ok:dB P w H h)(mu:SX (H x))(he:e=x∨H e=some (.own x))(k:∀b u,b≠e→h.get? b=some u→h'.get? b=some u)(heo:∃u,h'.get? e=some u)
 (new:ũ P w (upd H x o') h' x o'):dB P w (upd H x o') h':=fun b u q=>by
 have Kh:∀c y,H c=some (.own y)→c≠x:=fun c y r z=>by subst z;rw[r] at mu;exact mu
 have Wd:∀c xs,H c=some (.tup xs)→c≠x:=fun c xs r z=>by subst z;rw[r] at mu;exact mu
 by_cases hb:b=x
 ·subst hb;rw[ĥ] at q;cases q;exact new
 ·rw[Ĝ hb] at q
  by_cases hbe:b=e
  ·have q':H b=some (.own x):=by
    rcases he with z|z
    ·exact absurd (hbe.trans z) hb
    ·rw[hbe];exact z
   rw[q] at q';cases q'
   obtain⟨v,hv⟩:=heo
   exact⟨v,by rw[hbe];exact hv⟩
  ·refine(ok b u q).stay (fun c v hc r=>k c v ?_ r) (fun c r=>by rw[Ĝ (Kh c b r)];exact r) fun c xs r=>by rw[Ĝ (Wd c xs r)];exact r
   rcases hc with rfl|hc
   ·exact hbe
   ·rintro rfl
    rcases he with z|z
    ·exact Kh c b hc z
    ·rw[hc] at z;cases z;exact hb rfl
end
structure Un(fs ex:List Addr)(H H':Hp)(h h':Heap):Prop where
 keep:∀b o,h.get? b=some o→H b=none→b∉fs→b∉ex→h'.get? b=some o
 slot:∀b o,h.get? b=some o→H b=none→b∈fs→b∉ex→∃sl,h'.get? b=some {o with slots:=sl}
 free:∀b o,h.get? b=some o→H b=none→b∉ex→H' b=none
 there:∀b o,h.get? b=some o→b∉ex→∃o',h'.get? b=some o'
 tups:∀b xs,H b=some (.tup xs)→H' b=some (.tup xs)
 eN:∀b o u,H b=some (.bC o u)→H' b=some (.bC o u)
 fJ:∀b ps,H b=some (.oZ ps)→∃more,H' b=some (.oZ (ps++more))
section
variable{fs fs' ex ex':List Addr}{H H1 H2:Hp}{h h1 h2 h':Heap}{a x e:Addr}{o:HO}
theorem Un.any(u:Un fs ex H H1 h h1){b:Addr}{ob:Obj}(q:h.get? b=some ob)(n:H b=none)(hx:b∉ex):∃sl,h1.get? b=some {ob with slots:=sl}:=by
 by_cases hb:b∈fs
 ·exact u.slot b ob q n hb hx
 ·exact⟨ob.slots,u.keep b ob q n hb hx⟩
theorem Un.kept(k:∀b u,h.get? b=some u→h'.get? b=some u):Un fs ex H H h h':=
 ⟨fun b ob q _ _ _=>k b ob q,fun b ob q _ _ _=>⟨ob.slots,k b ob q⟩,fun _ _ _ n _=>n,fun b ob q _=>⟨ob,k b ob q⟩,fun _ _ q=>q,fun _ _ _ q=>q,fun _ ps q=>⟨#[],by rw[q];simp⟩⟩
theorem Un.refl:Un fs ex H H h h:=Un.kept fun _ _ q=>q
theorem Un.laid(k:∀b u,h.get? b=some u→h'.get? b=some u)(hp:h.objs.size≤a)(hn:H a=none):Un fs ex H (upd H a o) h h' where
 keep:=fun b u q _ _ _=>k b u q
 slot:=fun b u q _ _ _=>⟨u.slots,k b u q⟩
 free:=fun b u q n _=>by rw[Ĝ (Nat.ne_of_lt (Nat.lt_of_lt_of_le (Heap.lt_size q) hp))];exact n
 there:=fun b u q _=>⟨u,k b u q⟩
 tups:=fun b xs q=>by rw[Ĝ (ŕ q hn)];exact q
 eN:=fun b u xs q=>by rw[Ĝ (ŕ q hn)];exact q
 fJ:=fun b ps q=>⟨#[],by rw[Ĝ (ŕ q hn),q];simp⟩
theorem Un.write(mu:SX (H x))(he:e=x∨H e=some (.own x))(k:∀b u,b≠e→h.get? b=some u→h'.get? b=some u)(heo:∃u,h'.get? e=some u):Un fs ex H (upd H x o) h h':=by
 have hx:∀b,H b=none→b≠x:=fun b n z=>by subst z;rw[n] at mu;exact mu
 have hb:∀b,H b=none→b≠e:=fun b n z=>by
  subst z
  rcases he with r|r
  ·exact hx b n r
  ·rw[n] at r;cases r
 have hm:∀b u,H b=some u→¬SX (some u)→b≠x:=fun b u q nm z=>by subst z;rw[q] at mu;exact nm mu
 refine⟨fun b u q n _ _=>k b u (hb b n) q,fun b u q n _ _=>⟨u.slots,k b u (hb b n) q⟩,fun b u q n _=>by rw[Ĝ (hx b n)];exact n,fun b u q _=>?_,
  fun b xs q=>by rw[Ĝ (hm b _ q fun z=>z)];exact q,fun b u xs q=>by rw[Ĝ (hm b _ q fun z=>z)];exact q,fun b ps q=>⟨#[],by rw[Ĝ (hm b _ q fun z=>z),q];simp⟩⟩
 by_cases hbe:b=e
 ·subst hbe;exact heo
 ·exact⟨u,k b u hbe q⟩
end
def S_(h:Heap)(H:Hp):List Addr:=(List.range h.objs.size).filter fun a=>(H a).isSome
def lB(h:Heap)(H:Hp):Heap:=PySem.W.hideAll h (S_ h H)
theorem tH(h:Heap)(H:Hp):(lB h H).objs.size=h.objs.size:=PySem.W.hideAll_size _ _
theorem uX{h:Heap}{H:Hp}{b:Addr}{o:Obj}(e:h.get? b=some o)(n:H b=none):(lB h H).get? b=some o:=
 PySem.W.hideAll_get _ e fun hm=>by
  have q:(H b).isSome=true:=(List.mem_filter.mp hm).2
  rw[n] at q;simp at q
theorem Ak{h:Heap}{H:Hp}{b:Addr}{o:Obj}(e:(lB h H).get? b=some o):h.get? b=some o∧H b=none:=by
 have e':h.get? b=some o:=PySem.W.of_hideAll (S_ h H) e
 refine⟨e',?_⟩
 cases q:H b with
 |none=>rfl
 |some x=>
  have hm:b∈S_ h H:=List.mem_filter.mpr ⟨List.mem_range.mpr (Heap.lt_size e'),by simp[q]⟩
  have z:(lB h H).get? b=none:=PySem.W.hideAll_none (S_ h H) hm
  rw[z] at e;cases e
def Al(g h:Heap)(L:Addr):List (Addr×Obj):=(List.range h.objs.size).filterMap fun a=>if a=L∨(g.get? a).isSome=true then none else(h.get? a).map fun o=>(a,o)
def rest(g h:Heap)(L d:Addr):List (Addr×Obj):=(Al g h L).filter fun p=>decide (p.1≠d)
end L2
namespace L2
open PySem PySem.Spec PyProof.Rows
structure Mod(K:PySem.W.Frag)(mg:Str→Option Value)(base:Heap):Prop where
 Tc:K.In base
 glob:base.Ns mainGlobals mg
 blt:∃mb,base.Ns builtinsNs mb∧∀x:Str,x≠ "__name__" →mb x=bootBuiltins x
 nolimit:base.NoLimit
structure Cx where
 prog:Program
 w:World
 K:PySem.W.Frag
 mg:Str→Option Value
 base:Heap
 A:Around
 N:List Str
 s₀:Shared
 H₀:Hp
 env:Env
 outer:List Env
 stack:List Env
 ex:List Addr
 fn:Str→Bool
 calm:Bool
 pn:List (Addr×Obj)
 xe:Value→Shared→Prop
def frs(l:List Env):List Addr:=l.filterMap (·.frame)
abbrev Cx.fs(X:Cx):List Addr:=frs X.outer
def uY(sc:Scope)(x:Str):Prop:=sc.names.lookup x=some .local∨sc.names.lookup x=some .cell∨sc.names.lookup x=some .free
def Loc(sc:Scope)(x:Str):Prop:=sc.names.lookup x=some .local∨sc.names.lookup x=some .cell
def Look(env:Env)(h:Heap)(m:Str→Option Value)(x:Str)(u:Value):Prop:=
 (env.kindOf x=some .local∧m x=some u)∨((env.kindOf x=some .cell∨env.kindOf x=some .free)∧∃c,env.cells.lookup x=some c∧h.IsCell c (some u))
structure Cx.Ok(X:Cx):Prop where
 mod:Mod X.K X.mg X.base
 kind:X.env.scope.kind=.function
 glob:X.env.globals=mainGlobals
 blt:X.env.builtins=builtinsNs
 above:X.s₀.heap.objs.size≤X.env.locals
 inj:∀x y c,X.env.cells.lookup x=some c→X.env.cells.lookup y=some c→x=y
 has:∀x,(X.env.kindOf x=some .cell∨X.env.kindOf x=some .free)→∃c,X.env.cells.lookup x=some c
 cab:∀x c,X.fn x=true→X.env.cells.lookup x=some c→X.s₀.heap.objs.size≤c
 hd:X.calm=true→X.A.handled=none
 frames:X.A.frames=some X.stack
 stk:X.stack=X.outer∨(X.stack=X.env::X.outer∧X.env.frame=some X.env.locals)
 exf:∀b∈X.ex,b≠X.env.locals∧∀x c,X.env.cells.lookup x=some c→c≠b
 bs:∀b o,X.base.get? b=some o→X.s₀.heap.get? b=some o∧X.H₀ b=none
 CQ:X.base.objs.size≤X.s₀.heap.objs.size
 tK:∀b o,X.base.get? b=some o→b∉X.ex
 Am:∀b∈X.ex,b∉X.fs
 iw:X.s₀.heap.FunFrames X.base X.outer
 JQ:∀b∈X.fs,X.H₀ b=none
structure Inv(X:Cx)(pins:List (Addr×Obj))(σ:List (Option V))(H:Hp)(s:Shared):Prop where
 ok:X.Ok
 os:s.os=X.s₀.os
 bare:AllBare s.gens
 base:Un X.fs X.ex X.H₀ H X.s₀.heap s.heap
 loc:∃m,s.heap.Ns X.env.locals m∧∀(i:Nat) (x:Str) (v:V),X.N[i]?=some x→σ[i]?=some (some v)→uY X.env.scope x→∃u,RelV v u∧Look X.env s.heap m x u
 cell:∀x c,X.env.cells.lookup x=some c→∃v,s.heap.IsCell c v
 free:H X.env.locals=none
 dD:∀x c,X.env.cells.lookup x=some c→H c=none
 pin:∀p∈X.pn++pins,s.heap.get? p.1=some p.2∧H p.1=none∧p.1≠X.env.locals∧p.1∉X.fs∧∀v,p.2.data≠ .cell v
 hok:dB X.prog X.w H s.heap
 len:σ.length=X.N.length
section
variable{X:Cx}{pins:List (Addr×Obj)}{σ:List (Option V)}{H H':Hp}{s:Shared}{h':Heap}
theorem Cx.Ok.Wf(ok:X.Ok){b:Addr}{o:Obj}(e:X.base.get? b=some o):b∉X.fs:=fun hb=>by
 have:=(ok.iw.mem hb).1
 rw[e] at this;cases this
theorem Inv.bs(I:Inv X pins σ H s):∀b o,X.base.get? b=some o→s.heap.get? b=some o∧H b=none:=fun b o e=>
 ⟨I.base.keep b o (I.ok.bs b o e).1 (I.ok.bs b o e).2 (I.ok.Wf e) (I.ok.tK b o e),I.base.free b o (I.ok.bs b o e).1 (I.ok.bs b o e).2 (I.ok.tK b o e)⟩
theorem Inv.bk(I:Inv X pins σ H s):∀b o,X.base.get? b=some o→s.heap.get? b=some o:=fun b o e=>(I.bs b o e).1
theorem Inv.mod(I:Inv X pins σ H s):Mod X.K X.mg X.base:=I.ok.mod
theorem Inv.jz(I:Inv X pins σ H s):X.K.In s.heap:=I.ok.mod.Tc.keeps I.bk
theorem Inv.lt(I:Inv X pins σ H s):X.env.locals<s.heap.objs.size:=let ⟨_,hn,_⟩:=I.loc;hn.lt
theorem Inv.sz(I:Inv X pins σ H s):X.s₀.heap.objs.size≤s.heap.objs.size:=Nat.le_trans I.ok.above (Nat.le_of_lt I.lt)
theorem Inv.Wg(I:Inv X pins σ H s){a:Addr}(h:s.heap.objs.size≤a):a∉X.fs:=fun hb=>by
 obtain⟨_,o,ho,_⟩:=I.ok.iw.mem hb
 exact absurd (Nat.lt_of_lt_of_le (Heap.lt_size ho) (Nat.le_trans I.sz h)) (Nat.lt_irrefl _)
theorem Inv.Fb(I:Inv X pins σ H s):∀x c,X.env.cells.lookup x=some c→c≠X.env.locals:=fun x c e z=>by
 obtain⟨v,o,ho,hd⟩:=I.cell x c e
 obtain⟨m,⟨o',es,ep,ho',hd',_⟩,_⟩:=I.loc
 rw[z,ho'] at ho;cases ho;rw[hd'] at hd;cases hd
theorem Inv.iw(I:Inv X pins σ H s):s.heap.FunFrames X.base X.outer:=by
 have all:∀(l:List Env),(∀b∈frs l,b∈X.fs)→X.s₀.heap.FunFrames X.base l→s.heap.FunFrames X.base l:=by
  intro l
  induction l with
  |nil=>intro _ _;trivial
  |cons env r ih=>
   intro hs hl
   obtain⟨hk,⟨L,o,hf,hn,ho,hd⟩,hr⟩:=hl
   have hL:L∈X.fs:=hs L (by unfold frs;rw[List.filterMap_cons,hf];exact List.mem_cons_self)
   obtain⟨sl,e⟩:=I.base.slot L o ho (I.ok.JQ L hL) hL fun z=>I.ok.Am L z hL
   exact⟨hk,⟨L,_,hf,hn,e,hd⟩,ih (fun b hb=>hs b (by unfold frs;rw[List.filterMap_cons,hf];exact List.mem_cons_of_mem _ hb)) hr⟩
 exact all X.outer (fun _ hb=>hb) I.ok.iw
theorem Inv.stack(I:Inv X pins σ H s):s.heap.FunFrames X.base X.stack:=by
 rcases I.ok.stk with e|⟨e,hf⟩
 ·rw[e];exact I.iw
 ·rw[e]
  obtain⟨m,hn,_⟩:=I.loc
  refine .cons (by rw[I.ok.kind];decide) hf hn ?_ I.iw
  exact Heap.get?_none_of_le (Nat.le_trans I.ok.CQ I.ok.above)
theorem Inv.iy(I:Inv X pins σ H s):∀b∈frs X.stack,b∈X.env.locals::X.fs:=fun b hb=>by
 rcases I.ok.stk with e|⟨e,hf⟩
 ·rw[e] at hb;exact List.mem_cons_of_mem _ hb
 ·rw[e] at hb
  unfold frs at hb
  rw[List.filterMap_cons,hf] at hb
  exact hb
theorem Inv.lE(I:Inv X pins σ H s):∀b∈frs X.stack,H b=none:=fun b hb=>by
 rcases List.mem_cons.mp (I.iy b hb) with e|hb
 ·rw[e];exact I.free
 ·obtain⟨_,o,ho,_⟩:=I.ok.iw.mem hb
  exact I.base.free b o ho (I.ok.JQ b hb) fun z=>I.ok.Am b z hb
theorem Inv.step{g':Array GenState}{t':Nat}{d':Drawn}{ch:List Addr}(I:Inv X pins σ H s)
 (hch:∀b∈ch,(b∈X.ex∨X.s₀.heap.objs.size≤b)∧b≠X.env.locals∧(∀x c,X.env.cells.lookup x=some c→c≠b)∧∀p∈X.pn++pins,p.1≠b)
 (keep:∀b o,b≠X.env.locals→b∉X.fs→b∉ch→s.heap.get? b=some o→H b=none→h'.get? b=some o)
 (slot:∀b o,b≠X.env.locals→b∈X.fs→b∉ch→s.heap.get? b=some o→H b=none→∃sl,h'.get? b=some {o with slots:=sl})(free:∀b o,b∉ch→s.heap.get? b=some o→H b=none→H' b=none)
 (there:∀b o,b∉ch→s.heap.get? b=some o→∃o',h'.get? b=some o')
 (tups:∀b xs,H b=some (.tup xs)→H' b=some (.tup xs))(eN:∀b o u,H b=some (.bC o u)→H' b=some (.bC o u))(fJ:∀b ps,H b=some (.oZ ps)→∃more,H' b=some (.oZ (ps++more)))
 (ns:∀m,s.heap.Ns X.env.locals m→h'.Ns X.env.locals m)(hok:dB X.prog X.w H' h')(hg:AllBare g') :
 Inv X pins σ H' {s with heap:=h',gens:=g',drawn:=d',toks:=t'}:=by
 have JR:∀b o,X.s₀.heap.get? b=some o→b≠X.env.locals:=fun b o e=>Nat.ne_of_lt (Nat.lt_of_lt_of_le (Heap.lt_size e) I.ok.above)
 have Td:∀b o,X.s₀.heap.get? b=some o→b∉X.ex→b∉ch:=fun b o e hx hb=>by
  rcases(hch b hb).1 with z|z
  ·exact hx z
  ·exact absurd (Nat.lt_of_lt_of_le (Heap.lt_size e) z) (Nat.lt_irrefl _)
 have cellK:∀x c,X.env.cells.lookup x=some c→∀v,s.heap.IsCell c v→h'.IsCell c v:=fun x c e v ⟨o,ho,hd⟩=>by
  have Kl:c∉ch:=fun z=>(hch c z).2.2.1 x c e rfl
  by_cases hc:c∈X.fs
  ·obtain⟨sl,q⟩:=slot c o (I.Fb x c e) hc Kl ho (I.dD x c e)
   exact⟨_,q,hd⟩
  ·exact⟨o,keep c o (I.Fb x c e) hc Kl ho (I.dD x c e),hd⟩
 refine⟨I.ok,I.os,hg,⟨fun b o e n hb hx=>?_,fun b o e n hb hx=>?_,fun b o e n hx=>?_,fun b o e hx=>?_,fun b xs e=>tups b xs (I.base.tups b xs e),fun b o xs e=>eN b o xs (I.base.eN b o xs e),fun b ps e=>?_⟩,?_,fun x c e=>?_,?_,fun x c e=>?_,fun p hp=>?_,hok,I.len⟩
 ·exact keep b o (JR b o e) hb (Td b o e hx) (I.base.keep b o e n hb hx) (I.base.free b o e n hx)
 ·obtain⟨sl,e1⟩:=I.base.slot b o e n hb hx
  obtain⟨sl',e2⟩:=slot b _ (JR b o e) hb (Td b o e hx) e1 (I.base.free b o e n hx)
  exact⟨sl',e2⟩
 ·obtain⟨o',e1⟩:=I.base.there b o e hx
  exact free b o' (Td b o e hx) e1 (I.base.free b o e n hx)
 ·obtain⟨o',e1⟩:=I.base.there b o e hx
  exact there b o' (Td b o e hx) e1
 ·obtain⟨m1,e1⟩:=I.base.fJ b ps e
  obtain⟨m2,e2⟩:=fJ b _ e1
  exact⟨m1++m2,by rw[e2,Array.append_assoc]⟩
 ·obtain⟨m,hn,hl⟩:=I.loc
  refine⟨m,ns m hn,fun i x v e1 e2 e3=>?_⟩
  obtain⟨u,r,l⟩:=hl i x v e1 e2 e3
  refine⟨u,r,?_⟩
  rcases l with l|⟨k,c,e,z⟩
  ·exact .inl l
  ·exact .inr ⟨k,c,e,cellK x c e _ z⟩
 ·obtain⟨v,z⟩:=I.cell x c e
  exact⟨v,cellK x c e v z⟩
 ·obtain⟨m,⟨o,_,_,ho,_⟩,_⟩:=I.loc
  exact free _ o (fun z=>(hch _ z).2.1 rfl) ho I.free
 ·obtain⟨v,o,ho,hd⟩:=I.cell x c e
  exact free c o (fun z=>(hch c z).2.2.1 x c e rfl) ho (I.dD x c e)
 ·obtain⟨e,n,ne,nf,d⟩:=I.pin p hp
  have Kl:p.1∉ch:=fun z=>(hch p.1 z).2.2.2 p hp rfl
  exact⟨keep p.1 p.2 ne nf Kl e n,free p.1 p.2 Kl e n,ne,nf,d⟩
theorem Inv.un{t':Nat}(I:Inv X pins σ H s)(u:Un X.fs [] H H' s.heap h')(hok:dB X.prog X.w H' h'):Inv X pins σ H' {s with heap:=h',toks:=t'}:=by
 obtain⟨m,⟨o,es,ep,ho,r⟩,_⟩:=id I.loc
 obtain⟨sl,hL⟩:=u.any ho I.free (by simp)
 exact I.step (g':=s.gens) (d':=s.drawn) (ch:=[]) (fun _ z=>nomatch z) (fun b o _ hb _ e n=>u.keep b o e n hb (by simp)) (fun b o _ hb _ e n=>u.slot b o e n hb (by simp)) (fun b o _ e n=>u.free b o e n (by simp)) (fun b o _ e=>u.there b o e (by simp)) u.tups u.eN u.fJ (fun m' hm=>by
  obtain⟨o',es',ep',ho',r'⟩:=hm
  rw[ho] at ho';cases ho'
  exact⟨_,es',ep',hL,r'⟩) hok I.bare
theorem Inv.call{g':Array GenState}{t':Nat}{d':Drawn}{ch:List Addr}(I:Inv X pins σ H s)(u:Un (frs X.stack) ch H H' s.heap h')(hok:dB X.prog X.w H' h')(hg:AllBare g')
 (hch:∀b∈ch,(b∈X.ex∨X.s₀.heap.objs.size≤b)∧b≠X.env.locals∧(∀x c,X.env.cells.lookup x=some c→c≠b)∧∀p∈X.pn++pins,p.1≠b) :
 Inv X pins σ H' {s with heap:=h',gens:=g',drawn:=d',toks:=t'}:=by
 obtain⟨m,⟨o,es,ep,ho,r⟩,_⟩:=id I.loc
 obtain⟨sl,hL⟩:=u.any ho I.free fun z=>(hch _ z).2.1 rfl
 exact I.step (ch:=ch) hch (fun b o hL hb hc e n=>u.keep b o e n (fun z=>(List.mem_cons.mp (I.iy b z)).elim hL hb) hc) (fun b o _ _ hc e n=>u.any e n hc) (fun b o hc e n=>u.free b o e n hc) (fun b o hc e=>u.there b o e hc) u.tups u.eN u.fJ (fun m' hm=>by
  obtain⟨o',es',ep',ho',r'⟩:=hm
  rw[ho] at ho';cases ho'
  exact⟨_,es',ep',hL,r'⟩) hok hg
theorem Inv.turned{t':Nat}{it:Addr}(I:Inv X pins σ H s)(k:∀b o,b≠it→s.heap.get? b=some o→h'.get? b=some o)(hn:H it=none)(hL:it≠X.env.locals)
 (h1:it∈X.ex∨X.s₀.heap.objs.size≤it)(h2:∀x c,X.env.cells.lookup x=some c→c≠it)(h3:∀p∈X.pn++pins,p.1≠it):Inv X pins σ H {s with heap:=h',toks:=t'}:=by
 have Km:∀b u,H b=some u→b≠it:=fun b u e z=>by rw[z,hn] at e;cases e
 refine I.step (g':=s.gens) (d':=s.drawn) (ch:=[it]) (fun b hb=>?_) (fun b o _ _ hc e _=>k b o (fun z=>hc (by simp[z])) e) (fun b o _ _ hc e _=>⟨o.slots,k b o (fun z=>hc (by simp[z])) e⟩) (fun _ _ _ _ n=>n)
  (fun b o hc e=>⟨o,k b o (fun z=>hc (by simp[z])) e⟩) (fun _ _ e=>e) (fun _ _ _ e=>e) (fun b ps e=>⟨#[],by rw[e];simp⟩) (fun m hm=>?_) (fun b u e=>?_) I.bare
 ·have e:b=it:=by simpa using hb
  subst e
  exact⟨h1,hL,h2,h3⟩
 ·obtain⟨o,es,ep,ho,r⟩:=hm
  exact⟨o,es,ep,k _ o (Ne.symm hL) ho,r⟩
 ·refine(I.hok b u e).stay (fun c v hc q=>k c v ?_ q) (fun _ q=>q) fun _ _ q=>q
  rcases hc with z|z
  ·rw[z];exact Km b u e
  ·exact Km c _ z
theorem Inv.tok(I:Inv X pins σ H s)(t:Nat):Inv X pins σ H {s with toks:=t}:=I.un (h':=s.heap) (t':=t) Un.refl I.hok
theorem Inv.kept{t':Nat}(I:Inv X pins σ H s)(k:∀b u,s.heap.get? b=some u→h'.get? b=some u):Inv X pins σ H {s with heap:=h',toks:=t'}:=I.un (Un.kept k) (I.hok.kept k)
theorem Inv.laid{a:Addr}{o:HO}{t':Nat}(I:Inv X pins σ H s)(k:∀b u,s.heap.get? b=some u→h'.get? b=some u)(hp:s.heap.objs.size≤a)(new:ũ X.prog X.w (upd H a o) h' a o) :
 Inv X pins σ (upd H a o) {s with heap:=h',toks:=t'}:=I.un (Un.laid k hp (I.hok.fresh hp)) (I.hok.laid k hp new)
theorem Inv.write{x e:Addr}{o:HO}{t':Nat}(I:Inv X pins σ H s)(mu:SX (H x))(he:e=x∨H e=some (.own x))(k:∀b u,b≠e→s.heap.get? b=some u→h'.get? b=some u)(heo:∃u,h'.get? e=some u)
 (new:ũ X.prog X.w (upd H x o) h' x o):Inv X pins σ (upd H x o) {s with heap:=h',toks:=t'}:=I.un (Un.write mu he k heo) (I.hok.write mu he k heo new)
theorem Inv.qQ{CT:List (Addr×Obj)}(I:Inv X pins σ H s)(h:∀p∈CT,s.heap.get? p.1=some p.2∧H p.1=none∧p.1≠X.env.locals∧p.1∉X.fs∧∀v,p.2.data≠ .cell v):Inv X CT σ H s:=
 ⟨I.ok,I.os,I.bare,I.base,I.loc,I.cell,I.free,I.dD,fun p hp=>(List.mem_append.mp hp).elim (fun z=>I.pin p (List.mem_append_left _ z)) (h p),I.hok,I.len⟩
theorem ni{N:List Str}(hN:N.Nodup){i j:Nat}{x:Str}(a:N[i]?=some x)(b:N[j]?=some x):i=j:=by
 obtain⟨h1,e1⟩:=List.getElem?_eq_some_iff.mp a
 obtain⟨h2,e2⟩:=List.getElem?_eq_some_iff.mp b
 exact(List.getElem_inj hN).mp (e1.trans e2.symm)
theorem jF{M:Model}{A:Around}{E:Value→Shared→Prop}{i:Nat}{x:Str}{v:V}{u:Value}{Q:Unit→Shared→Prop}(I:Inv X pins σ H s)(hN:X.N.Nodup)(hi:X.N[i]?=some x)(hx:Loc X.env.scope x)(r:RelV v u)
 (h:∀s',Inv X pins (σ.set i (some v)) H s'→(∃a,Heap.SameBut a s.heap s'.heap∧(a=X.env.locals∨X.env.cells.lookup x=some a))→Q () s')(hf:X.fn x=true∨X.env.scope.names.lookup x=some .local:=by first|exact .inl rfl|exact .inr rfl|assumption):wpAny M A (storeName X.env x u) Q E s:=by
 obtain⟨m,hn,hl⟩:=id I.loc
 have hcls:(X.env.scope.kind== .class || (X.env.scope.kind== .module && X.env.locals != X.env.globals))=false:=by rw[I.ok.kind];rfl
 have Zbr:i < σ.length:=by rw[I.len];exact(List.getElem?_eq_some_iff.mp hi).1
 have Fb:=I.Fb
 have tracked:∀{a:Addr} {h':Heap},(∃o,s.heap.get? a=some o∧H a=none)→Heap.SameBut a s.heap h'→dB X.prog X.w H h':=fun{a h'} ha hs b ob e=>by
  obtain⟨_,_,hfree⟩:=ha
  refine(I.hok b ob e).stay (fun c w' hc q=>(hs.2 c ?_).trans q) (fun _ q=>q) fun _ _ q=>q
  rintro rfl
  rcases hc with rfl|hc
  ·rw[hfree] at e;cases e
  ·rw[hfree] at hc;cases hc
 rcases hx with hk|hk
 ·refine wpAny_storeName_local hk hn (fun h' hn' hs=>?_) hcls
  obtain⟨oL,_,_,hoL,_⟩:=id hn
  refine h _ ⟨I.ok,I.os,I.bare,⟨fun b o e n hb hx=>?_,fun b o e n hb hx=>?_,I.base.free,fun b o e hx=>?_,I.base.tups,I.base.eN,I.base.fJ⟩,⟨_,hn',fun j y v' e1 e2 e3=>?_⟩,fun y c e=>?_,I.free,I.dD,fun p hp=>?_,tracked ⟨oL,hoL,I.free⟩ hs,by simpa using I.len⟩ ⟨_,hs,.inl rfl⟩
  ·exact(hs.2 b (Nat.ne_of_lt (Nat.lt_of_lt_of_le (Heap.lt_size e) I.ok.above))).trans (I.base.keep b o e n hb hx)
  ·obtain⟨sl,e1⟩:=I.base.slot b o e n hb hx
   exact⟨sl,(hs.2 b (Nat.ne_of_lt (Nat.lt_of_lt_of_le (Heap.lt_size e) I.ok.above))).trans e1⟩
  ·obtain⟨o',e1⟩:=I.base.there b o e hx
   exact⟨o',(hs.2 b (Nat.ne_of_lt (Nat.lt_of_lt_of_le (Heap.lt_size e) I.ok.above))).trans e1⟩
  ·by_cases hj:j=i
   ·subst hj
    rw[hi] at e1;cases e1
    rw[List.getElem?_set_self Zbr] at e2
    cases e2
    exact⟨u,r,.inl ⟨hk,by simp⟩⟩
   ·rw[List.getElem?_set_ne (Ne.symm hj)] at e2
    obtain⟨u',r',q⟩:=hl j y v' e1 e2 e3
    refine⟨u',r',?_⟩
    rcases q with⟨k,e⟩|⟨k,c,e,z⟩
    ·refine .inl ⟨k,?_⟩
     have:y≠x:=fun e=>hj (ni hN e1 (e▸hi))
     simp[this,e]
    ·exact .inr ⟨k,c,e,z.sameBut hs (Fb y c e)⟩
  ·obtain⟨w',z⟩:=I.cell y c e
   exact⟨w',z.sameBut hs (Fb y c e)⟩
  ·obtain⟨e,n,ne,nf,d⟩:=I.pin p hp
   exact⟨(hs.2 p.1 ne).trans e,n,ne,nf,d⟩
 ·have hfn:X.fn x=true:=by
   rcases hf with z|z
   ·exact z
   ·rw[z] at hk;cases hk
  obtain⟨c,hc⟩:=I.ok.has x (.inl hk)
  obtain⟨w',z⟩:=I.cell x c hc
  refine wpAny_storeName_cell I.ok.kind hk hc z (fun h' hc' hs=>?_)
  obtain⟨oc,hoc,Wh⟩:=id z
  refine h {s with heap:=h'} ⟨I.ok,I.os,I.bare,⟨fun b o e n hb hx=>?_,fun b o e n hb hx=>?_,I.base.free,fun b o e hx=>?_,I.base.tups,I.base.eN,I.base.fJ⟩,⟨m,hn.sameBut hs (Ne.symm (Fb x c hc)),fun j y v' e1 e2 e3=>?_⟩,fun y c' e=>?_,I.free,I.dD,fun p hp=>?_,tracked ⟨oc,hoc,I.dD x c hc⟩ hs,by simpa using I.len⟩ ⟨c,hs,.inr hc⟩
  ·exact(hs.2 b (Nat.ne_of_lt (Nat.lt_of_lt_of_le (Heap.lt_size e) (I.ok.cab x c hfn hc)))).trans (I.base.keep b o e n hb hx)
  ·obtain⟨sl,e1⟩:=I.base.slot b o e n hb hx
   exact⟨sl,(hs.2 b (Nat.ne_of_lt (Nat.lt_of_lt_of_le (Heap.lt_size e) (I.ok.cab x c hfn hc)))).trans e1⟩
  ·obtain⟨o',e1⟩:=I.base.there b o e hx
   exact⟨o',(hs.2 b (Nat.ne_of_lt (Nat.lt_of_lt_of_le (Heap.lt_size e) (I.ok.cab x c hfn hc)))).trans e1⟩
  ·by_cases hj:j=i
   ·subst hj
    rw[hi] at e1;cases e1
    rw[List.getElem?_set_self Zbr] at e2
    cases e2
    exact⟨u,r,.inr ⟨.inl hk,c,hc,hc'⟩⟩
   ·rw[List.getElem?_set_ne (Ne.symm hj)] at e2
    obtain⟨u',r',q⟩:=hl j y v' e1 e2 e3
    refine⟨u',r',?_⟩
    rcases q with q|⟨k,c',e,z'⟩
    ·exact .inl q
    ·refine .inr ⟨k,c',e,z'.sameBut hs ?_⟩
     rintro rfl
     exact hj (ni hN e1 (I.ok.inj _ _ _ e hc▸hi))
  ·by_cases hcc:c'=c
   ·subst hcc;exact⟨_,hc'⟩
   ·obtain⟨w2,z2⟩:=I.cell y c' e
    exact⟨w2,z2.sameBut hs hcc⟩
  ·obtain⟨e,n,ne,nf,d⟩:=I.pin p hp
   refine⟨(hs.2 p.1 ?_).trans e,n,ne,nf,d⟩
   intro q
   rw[q,hoc] at e
   have q':oc=p.2:=Option.some.inj e
   exact d w' (by rw[←q'];exact Wh)
theorem eO{M:Model}{A:Around}{E:Value→Shared→Prop}{i:Nat}{x:Str}{v:V}{u:Value}{Q:Unit→Shared→Prop}(I:Inv X pins σ H s)(hN:X.N.Nodup)(hi:X.N[i]?=some x)(hx:Loc X.env.scope x)(r:RelV v u)
 (h:∀s',Inv X pins (σ.set i (some v)) H s'→Q () s')(hf:X.fn x=true∨X.env.scope.names.lookup x=some .local:=by first|exact .inl rfl|exact .inr rfl|assumption):wpAny M A (storeName X.env x u) Q E s:=
 jF I hN hi hx r (fun s' I' _=>h s' I') hf
theorem Inv.call'{s':Shared}{ch:List Addr}(I:Inv X pins σ H s)(ho:s'.os=s.os)(u:Un (frs X.stack) ch H H' s.heap s'.heap)(hok:dB X.prog X.w H' s'.heap)(hg:AllBare s'.gens)
 (hch:∀b∈ch,(b∈X.ex∨X.s₀.heap.objs.size≤b)∧b≠X.env.locals∧(∀x c,X.env.cells.lookup x=some c→c≠b)∧∀p∈X.pn++pins,p.1≠b):Inv X pins σ H' s':=by
 obtain⟨h',g',d',t',o'⟩:=s'
 have e:o'=s.os:=ho
 subst e
 exact I.call (g':=g') (t':=t') (d':=d') u hok hg hch
end
abbrev XK:=Value→Option Addr→Hp→Prop
abbrev St:=List (Option V)
abbrev VK:=V→Hp→Prop
abbrev TE:=St→Hp→VK→Prop
abbrev TT:=St→Hp→(Bool→Hp→Prop)→Prop
abbrev TA:=St→Hp→(List V→Hp→Prop)→Prop
structure Ends where
 nx:St→Hp→Prop
 rt:VK
 bk:St→Hp→Prop:=fun _ _=>False
 ct:St→Hp→Prop:=fun _ _=>False
abbrev TS:=Ends→St→Hp→Prop
def EP(X:Cx)(pins:List (Addr×Obj))(σ:St)(Q:VK)(u:Value)(s':Shared):Prop:=∃v H',Inv X pins σ H' s'∧RelV v u∧Q v H'
def TP(X:Cx)(pins:List (Addr×Obj))(σ:St)(Q:Bool→Hp→Prop)(b:Bool)(s':Shared):Prop:=∃H',Inv X pins σ H' s'∧Q b H'
def AP(X:Cx)(pins:List (Addr×Obj))(σ:St)(Q:List V→Hp→Prop)(us:List Value)(s':Shared):Prop:=∃vs H',Inv X pins σ H' s'∧Vals vs us∧Q vs H'
def SP(X:Cx)(pins:List (Addr×Obj))(D:Ends)(f:Flow)(s':Shared):Prop:=
 match f with
 | .next=>∃σ' H',Inv X pins σ' H' s'∧D.nx σ' H'
 | .brk=>∃σ' H',Inv X pins σ' H' s'∧D.bk σ' H'
 | .cont=>∃σ' H',Inv X pins σ' H' s'∧D.ct σ' H'
 | .ret u=>∃v σ' H',Inv X pins σ' H' s'∧RelV v u∧D.rt v H'
def PE(X:Cx)(e:Expr)(t:TE):Prop:=
 ∀(pins:List (Addr×Obj)) (s:Shared) (σ:St) (H:Hp) (Q:VK),Inv X pins σ H s→t σ H Q→wpAny (model X.prog X.w) X.A (eval e X.env) (EP X pins σ Q) X.xe s
def PT(X:Cx)(e:Expr)(t:TT):Prop:=
 ∀(pins:List (Addr×Obj)) (s:Shared) (σ:St) (H:Hp) (Q:Bool→Hp→Prop),Inv X pins σ H s→t σ H Q→wpAny (model X.prog X.w) X.A (isTrue e X.env (eval e X.env)) (TP X pins σ Q) X.xe s
def PW(X:Cx)(e:Expr)(t:TT):Prop:=
 ∀(whole:Sem Value) (pins:List (Addr×Obj)) (s:Shared) (σ:St) (H:Hp) (Q:Bool→Hp→Prop),Inv X pins σ H s→t σ H Q→wpAny (model X.prog X.w) X.A (isTrue e X.env whole) (TP X pins σ Q) X.xe s
theorem PW.pt{X:Cx}{e:Expr}{t:TT}(h:PW X e t):PT X e t:=h _
def PA(X:Cx)(es:List Expr)(t:TA):Prop:=
 ∀(pos:Pos) (pins:List (Addr×Obj)) (s:Shared) (σ:St) (H:Hp) (Q:List V→Hp→Prop),Inv X pins σ H s→t σ H Q→wpAny (model X.prog X.w) X.A (spliced (backTo pos (starEach es X.env))) (AP X pins σ Q) X.xe s
def PS(X:Cx)(st:Stmt)(t:TS):Prop:=
 ∀(pins:List (Addr×Obj)) (s:Shared) (σ:St) (H:Hp) (D:Ends),Inv X pins σ H s→t D σ H→wpAny (model X.prog X.w) X.A (exec st X.env) (SP X pins D) X.xe s
def gQ(X:Cx)(st:List Stmt)(t:TS):Prop:=
 ∀(pins:List (Addr×Obj)) (s:Shared) (σ:St) (H:Hp) (D:Ends),Inv X pins σ H s→t D σ H→wpAny (model X.prog X.w) X.A (execs st X.env) (SP X pins D) X.xe s
theorem Ť{α:Type}{t:Sem α}{Q Q':α→Shared→Prop}{M:Model}{A:Around}{E:Value→Shared→Prop}{s:Shared}(h:wpAny M A t Q E s)(hQ:∀a s,Q a s→Q' a s):wpAny M A t Q' E s:=wpAny_mono h hQ fun _ _ x=>x
end L2
namespace L2
open PySem PySem.Spec PyProof.Rows
section
variable{X:Cx}
def pB(i:Nat):TE:=fun σ H Q=>∃v,σ[i]?=some (some v)∧Q v H
def tC(v:V):TE:=fun _ H Q=>Q v H
theorem cG{i:Nat}{x:Str}{pos:Pos}(hN:X.N[i]?=some x)(hv:uY X.env.scope x)(hd:(x== ("__debug__" :Str))=false:=by decide)(hcd:(x== ("__classdict__" :Str))=false:=by decide):PE X (.Name x pos) (pB i):=by
 intro pins s σ H Q I h
 obtain⟨v,e,h⟩:=h
 obtain⟨m,hn,hl⟩:=I.loc
 obtain⟨u,r,l⟩:=hl i x v hN e hv
 have fin:EP X pins σ Q u s:=⟨v,H,I,r,h⟩
 rcases l with⟨hk,hm⟩|⟨hk,c,hc,hcell⟩
 ·exact wpAny_Name (wpAny_loadName_local I.ok.kind hk hn hm fin) hd
 ·rcases hk with hk|hk
  ·exact wpAny_Name (wpAny_loadName_cell I.ok.kind hk hc hcell fin) hd
  ·exact wpAny_Name (wpAny_loadName_free I.ok.kind hk hc hcell fin hcd) hd
theorem pC{i j pos}:PE X (.Constant (.int i) j pos) (tC (.int i)):=fun _ _ _ H _ I h=>wpAny_Constant_int ⟨.int i,H,I.tok _,⟨_,rfl⟩,h⟩
theorem Ko{b j pos}:PE X (.Constant (.bool b) j pos) (tC (.bl b)):=fun _ _ _ H _ I h=>Constant_bool ⟨.bl b,H,I,rfl,h⟩
theorem Fd{j pos}:PE X (.Constant .none j pos) (tC .non):=fun _ _ _ H _ I h=>Constant_none ⟨.non,H,I,rfl,h⟩
theorem Fe{x j pos}:PE X (.Constant (.str x) j pos) (tC (.str x)):=fun _ _ _ H _ I h=>Calls.Constant_str ⟨.str x,H,I.tok _,⟨_,rfl⟩,h⟩
def Gl(X:Cx)(x:Str):Prop:=X.env.kindOf x=some .globalImplicit
theorem qR{E:Value→Shared→Prop}{pins:List (Addr×Obj)}{s:Shared}{σ:St}{H:Hp}{x:Str}{u:Value}{pos:Pos}{Q:Value→Shared→Prop}(I:Inv X pins σ H s)(hg:Gl X x)(hm:X.mg x=some u)(h:Q u s)
 (hd:(x== ("__debug__" :Str))=false:=by decide):wpAny (model X.prog X.w) X.A (eval (.Name x pos) X.env) Q E s:=
 Calls.Name_function_global I.ok.kind hg (Calls.loadGlobal_global (by rw[I.ok.glob];exact I.mod.glob.keeps I.bk) hm h) hd
theorem iz{E:Value→Shared→Prop}{pins:List (Addr×Obj)}{s:Shared}{σ:St}{H:Hp}{x:Str}{u:Value}{pos:Pos}{Q:Value→Shared→Prop}(I:Inv X pins σ H s)(hg:Gl X x)(hm:X.mg x=none)(hv:bootBuiltins x=some u)(h:Q u s)
 (hn:x≠ "__name__" := by decide)(hd:(x== ("__debug__" :Str))=false:=by decide):wpAny (model X.prog X.w) X.A (eval (.Name x pos) X.env) Q E s:=by
 obtain⟨mb,h1,h2⟩:=I.mod.blt
 exact Calls.Name_function_global I.ok.kind hg (Calls.loadGlobal_builtin (by rw[I.ok.glob];exact I.mod.glob.keeps I.bk) hm (by rw[I.ok.blt];exact h1.keeps I.bk) ((h2 x hn).trans hv) h) hd
theorem aJ{x:Str}{v:V}{u:Value}{pos:Pos}(hg:Gl X x)(hm:X.mg x=none)(hv:bootBuiltins x=some u)(r:RelV v u)(hn:x≠ "__name__" := by decide)(hd:(x== ("__debug__" :Str))=false:=by decide):PE X (.Name x pos) (tC v):=
 fun _ _ _ H _ I h=>iz I hg hm hv ⟨v,H,I,r,h⟩ hn hd
variable{a b:Expr}{ta tb:TE}{pos:Pos}
variable{tA Te:TT}{rest:List Expr}
def Wi(t u:TT):TT:=fun σ H Q=>t σ H fun c H1=>if c=true then u σ H1 Q else Q false H1
def tOr(t u:TT):TT:=fun σ H Q=>t σ H fun c H1=>if c=true then Q true H1 else u σ H1 Q
def Wj(t:TT):TT:=fun σ H Q=>t σ H fun c H1=>Q (!c) H1
theorem Ao(ha:PT X a tA):PW X (.BoolOp .And [a] pos) tA:=by
 intro wh pins s σ H Q I h
 refine isTrue_and (Ť (ha pins s σ H Q I h) fun c s1 e=>?_)
 cases c with
 |true=>exact isTrue_and_nil e
 |false=>exact e
theorem Fg(ha:PT X a tA):PW X (.BoolOp .Or [a] pos) tA:=by
 intro wh pins s σ H Q I h
 refine isTrue_or (Ť (ha pins s σ H Q I h) fun c s1 e=>?_)
 cases c with
 |false=>exact isTrue_or_nil e
 |true=>exact e
theorem Fi(ha:PT X a tA)(hb:PW X (.BoolOp .And (b::rest) pos) Te):PW X (.BoolOp .And (a::b::rest) pos) (Wi tA Te):=by
 intro wh pins s σ H Q I h
 refine isTrue_and (Ť (ha pins s σ H _ I h) fun c s1 ⟨H1,I1,q1⟩=>?_)
 cases c with
 |true=>exact hb wh pins s1 σ H1 Q I1 q1
 |false=>exact⟨H1,I1,q1⟩
theorem Kp(ha:PT X a tA)(hb:PW X (.BoolOp .Or (b::rest) pos) Te):PW X (.BoolOp .Or (a::b::rest) pos) (tOr tA Te):=by
 intro wh pins s σ H Q I h
 refine isTrue_or (Ť (ha pins s σ H _ I h) fun c s1 ⟨H1,I1,q1⟩=>?_)
 cases c with
 |true=>exact⟨H1,I1,q1⟩
 |false=>exact hb wh pins s1 σ H1 Q I1 q1
theorem Fj(ha:PT X a tA):PT X (.UnaryOp .Not a pos) (Wj tA):=by
 intro pins s σ H Q I h
 exact isTrue_not (ha pins s σ H (fun c H1=>Q (!c) H1) I h)
theorem Fo{op}{t:TE}(h:PE X a t):PE X (.BoolOp op [a] pos) t:=fun pins s σ H Q I hw=>BoolOp_one (h pins s σ H Q I hw)
end
end L2
namespace L2
open PySem PySem.Spec PyProof.Rows
def ų(K:PySem.W.Frag)(H:Hp)(a:Addr)(xs:List V):Prop:=
 Rd H a (.lst xs)∨
  ∃(o:Obj) (its:Array Value) (n:Nat),K.lookup a=some o∧o.cls=.type "list" ∧o.dict=none∧o.data=.seq its n∧its.size≤sizeLine∧Vals xs its.toList
def aZ(K:PySem.W.Frag)(H:Hp)(a:Addr)(xs:List V):Prop:=
 Rd H a (.tup xs)∨
  ∃(o:Obj) (its:Array Value) (n:Nat),K.lookup a=some o∧o.cls=.type "tuple" ∧o.data=.seq its n∧its.size≤sizeLine∧Vals xs its.toList
def Wk:Value→Option V
 | .none=>some .non
 | .bool b=>some (.bl b)
 | .int i _=>some (.int i)
 | .str x _=>some (.str x)
 | .bytes b _=>some (.EY b)
 | .float b _=>some (.flt b)
 | .ref a=>some (.ref a)
 | .type n=>some (.ty n)
 |_=>none
theorem RelV.abs{x:V}{u:Value}(r:RelV x u):Wk u=some x:=by
 cases x with
 |non=>cases r;rfl
 |bl _=>cases r;rfl
 |int _=>obtain⟨t,rfl⟩:=r;rfl
 |str _=>obtain⟨t,rfl⟩:=r;rfl
 |EY _=>obtain⟨t,rfl⟩:=r;rfl
 |flt _=>obtain⟨t,rfl⟩:=r;rfl
 |ref _=>cases r;rfl
 |ty _=>cases r;rfl
theorem RelV.inj{x y:V}{u:Value}(r:RelV x u)(q:RelV y u):x=y:=Option.some.inj (r.abs.symm.trans q.abs)
theorem Vals.inj:∀{xs ys:List V} {us:List Value},Vals xs us→Vals ys us→xs=ys
 |_,_,_,.nil,.nil=>rfl
 |_,_,_,.cons r t,.cons r' t'=>by rw[r.inj r',Vals.inj t t']
section
variable{X:Cx}{pins:List (Addr×Obj)}{σ:St}{H:Hp}{s:Shared}{a:Addr}{xs ys:List V}
theorem ų.of{K:PySem.W.Frag}(h:H a=some (.lst xs)):ų K H a xs:=.inl (.inl h)
theorem aZ.of{K:PySem.W.Frag}(h:H a=some (.tup xs)):aZ K H a xs:=.inl (.inl h)
theorem Inv.list(I:Inv X pins σ H s)(h:ų X.K H a xs):∃its:List Value,Vals xs its∧PlainL s.heap a its.toArray∧xs.length≤sizeLine:=by
 rcases h with h|⟨o,its,n,hk,hc,hd,hs,hz,r⟩
 ·obtain⟨z,its,n,r,e⟩:=h.ok I.hok
  exact⟨its,r,⟨_,n,e,rfl,rfl,rfl⟩,z⟩
 ·refine⟨its.toList,r,⟨o,n,I.jz a o hk,hc,hd,by simpa using hs⟩,?_⟩
  have e:=r.length
  simp only[Array.length_toList] at e
  omega
theorem Inv.tuple(I:Inv X pins σ H s)(h:aZ X.K H a xs):∃its:List Value,Vals xs its∧IsTup s.heap a its.toArray∧xs.length≤sizeLine:=by
 rcases h with h|⟨o,its,n,hk,hc,hs,hz,r⟩
 ·obtain⟨z,its,r,p⟩:=h.ok I.hok
  exact⟨its,r,p,z⟩
 ·refine⟨its.toList,r,⟨o,I.jz a o hk,hc,n,by simpa using hs⟩,?_⟩
  have e:=r.length
  simp only[Array.length_toList] at e
  omega
theorem Inv.nj(I:Inv X pins σ H s)(h:ų X.K H a xs)(h':ų X.K H a ys):xs=ys:=by
 obtain⟨its,r,⟨o,n,e,_,_,d⟩,_⟩:=I.list h
 obtain⟨its',r',⟨o',n',e',_,_,d'⟩,_⟩:=I.list h'
 rw[e] at e';cases e'
 rw[d] at d'
 injection d' with d1 _
 have:its=its':=by simpa using congrArg Array.toList d1
 subst this
 exact r.inj r'
theorem Inv.jG(I:Inv X pins σ H s)(h:aZ X.K H a xs)(h':aZ X.K H a ys):xs=ys:=by
 obtain⟨its,r,⟨o,e,_,n,d⟩,_⟩:=I.tuple h
 obtain⟨its',r',⟨o',e',_,n',d'⟩,_⟩:=I.tuple h'
 rw[e] at e';cases e'
 rw[d] at d'
 injection d' with d1 _
 have:its=its':=by simpa using congrArg Array.toList d1
 subst this
 exact r.inj r'
end
abbrev Cx.wish(X:Cx)(E:Value→Shared→Prop):Cx:={X with xe:=E}
abbrev Cx.Ţ(X:Cx):Cx:=X.wish fun _ _=>False
theorem Cx.Ok.wish{X:Cx}(ok:X.Ok)(E:Value→Shared→Prop):(X.wish E).Ok:=
 ⟨ok.mod,ok.kind,ok.glob,ok.blt,ok.above,ok.inj,ok.has,ok.cab,ok.hd,ok.frames,ok.stk,ok.exf,ok.bs,ok.CQ,ok.tK,ok.Am,ok.iw,ok.JQ⟩
theorem Cx.Ok.bR{X:Cx}{E:Value→Shared→Prop}(ok:(X.wish E).Ok):X.Ok:=
 ⟨ok.mod,ok.kind,ok.glob,ok.blt,ok.above,ok.inj,ok.has,ok.cab,ok.hd,ok.frames,ok.stk,ok.exf,ok.bs,ok.CQ,ok.tK,ok.Am,ok.iw,ok.JQ⟩
section
variable{X:Cx}{pins:List (Addr×Obj)}{σ:St}{H:Hp}{s:Shared}{E:Value→Shared→Prop}
theorem Inv.wish(I:Inv X pins σ H s)(E:Value→Shared→Prop):Inv (X.wish E) pins σ H s:=⟨I.ok.wish E,I.os,I.bare,I.base,I.loc,I.cell,I.free,I.dD,I.pin,I.hok,I.len⟩
theorem Inv.bR(I:Inv (X.wish E) pins σ H s):Inv X pins σ H s:=⟨I.ok.bR,I.os,I.bare,I.base,I.loc,I.cell,I.free,I.dD,I.pin,I.hok,I.len⟩
theorem SP.bR{D:Ends}{f:Flow}{s':Shared}(h:SP (X.wish E) pins D f s'):SP X pins D f s':=by
 cases f with
 |next=>obtain⟨σ',H',I,q⟩:=h;exact⟨σ',H',I.bR,q⟩
 |brk=>obtain⟨σ',H',I,q⟩:=h;exact⟨σ',H',I.bR,q⟩
 |cont=>obtain⟨σ',H',I,q⟩:=h;exact⟨σ',H',I.bR,q⟩
 |ret u=>obtain⟨v,σ',H',I,r,q⟩:=h;exact⟨v,σ',H',I.bR,r,q⟩
theorem PE.Ţ{e:Expr}{t:TE}(h:PE X.Ţ e t):PE X e t:=fun pins s σ H Q I hw=>
 wpAny_mono (h pins s σ H Q (I.wish _) hw) (fun _ _ ⟨v,H',I',r,q⟩=>⟨v,H',I'.bR,r,q⟩) fun _ _ z=>False.elim z
end
section
variable{X:Cx}{st:Stmt}{rest:List Stmt}{t u:TS}{e:Expr}{te:TE}{pos:Pos}
def Kq:TS:=fun D σ H=>D.nx σ H
def Wm(t u:TS):TS:=fun D σ H=>t {D with nx:=u D} σ H
theorem Aq:gQ X [] Kq:=fun _ _ σ H _ I h=>wpAny_execs_nil ⟨σ,H,I,h⟩
theorem uZ(h1:PS X st t)(h2:gQ X rest u):gQ X (st::rest) (Wm t u):=by
 intro pins s σ H D I h
 refine wpAny_execs_cons (Ť (h1 pins s σ H {D with nx:=u D} I h) fun f s1 q=>?_)
 cases f with
 |next=>
  obtain⟨σ',H',I',q⟩:=q
  exact h2 pins s1 σ' H' D I' q
 |ret v=>exact q
 |brk=>exact q
 |cont=>exact q
theorem Ar(h1:PS X st t):gQ X [st] t:=by
 intro pins s σ H D I h
 refine wpAny_execs_cons (Ť (h1 pins s σ H D I h) fun f s1 q=>?_)
 cases f with
 |next=>exact wpAny_execs_nil q
 |ret v=>exact q
 |brk=>exact q
 |cont=>exact q
theorem Inv.quiet{pins:List (Addr×Obj)}{σ:St}{H:Hp}{s:Shared}(I:Inv X pins σ H s):interactive X.env=false:=by simp[interactive,I.ok.kind]
def qT(te:TE):TS:=fun D σ H=>te σ H fun _ H1=>D.nx σ H1
theorem bT(he:PE X e te)(hs:swapsWith e none pos.line X.env=pure false:=by rfl):PS X (.Expr e pos) (qT te):=by
 intro pins s σ H D I h
 exact wpAny_Expr_any (Ť (he pins s σ H _ I h) fun v s1 ⟨x,H1,I1,r1,q1⟩=>⟨σ,H1,I1,q1⟩) I.quiet hs
def Wn(te:TE):TS:=fun D σ H=>te σ H D.rt
theorem Fp(he:PE X e te):PS X (.Return (some e) pos) (Wn te):=by
 intro pins s σ H D I h
 exact wpAny_Return_some (Ť (he pins s σ H _ I h) fun v s1 ⟨x,H1,I1,r1,q1⟩=>⟨x,σ,H1,I1,r1,q1⟩)
def Wo(c:TT)(t u:TS):TS:=fun D σ H=>c σ H fun b H1=>if b=true then t D σ H1 else u D σ H1
theorem Kr{c:Expr}{a b:List Stmt}{tc:TT}(hc:PT X c tc)(ha:gQ X a t)(hb:gQ X b u):PS X (.If c a b pos) (Wo tc t u):=by
 intro pins s σ H D I h
 refine wpAny_If (Ť (hc pins s σ H _ I h) fun d s1 ⟨H1,I1,q1⟩=>?_)
 cases d with
 |true=>exact ha pins s1 σ H1 D I1 q1
 |false=>exact hb pins s1 σ H1 D I1 q1
end
abbrev TG:=V→St→Hp→(St→Hp→Prop)→Prop
abbrev u_:=List V→St→Hp→(St→Hp→Prop)→Prop
def PG(X:Cx)(target:Expr)(t:TG):Prop:=
 ∀(pins:List (Addr×Obj)) (s:Shared) (σ:St) (H:Hp) (v:V) (u:Value) (Q:St→Hp→Prop),Inv X pins σ H s→RelV v u→t v σ H Q→
  wpAny (model X.prog X.w) X.A (assign target X.env u) (fun _ s'=>∃σ' H',Inv X pins σ' H' s'∧Q σ' H') X.xe s
def pD(X:Cx)(ts:List Expr)(t:u_):Prop:=
 ∀(pins:List (Addr×Obj)) (s:Shared) (σ:St) (H:Hp) (vs:List V) (us:List Value) (Q:St→Hp→Prop),Inv X pins σ H s→Vals vs us→t vs σ H Q→
  wpAny (model X.prog X.w) X.A (assignInOrder ((assignEach ts X.env).map (·.2)) us) (fun _ s'=>∃σ' H',Inv X pins σ' H' s'∧Q σ' H') X.xe s
abbrev Fq:=V→V→V→Hp→(Hp→Prop)→Prop
def Ks(X:Cx)(t:Fq):Prop:=
 ∀(pins:List (Addr×Obj)) (s:Shared) (σ:St) (H:Hp) (o i v:V) (ov iv u:Value) (Q:Hp→Prop),Inv X pins σ H s→RelV o ov→RelV i iv→RelV v u→t o i v H Q→
  wpAny (model X.prog X.w) X.A (setItem ov iv u) (fun _ s'=>∃H',Inv X pins σ H' s'∧Q H') X.xe s
section
variable{X:Cx}{pos:Pos}
def CV(i:Nat):TG:=fun v σ H Q=>Q (σ.set i (some v)) H
theorem Av{i:Nat}{x:Str}(hN:X.N.Nodup)(hi:X.N[i]?=some x)(hx:Loc X.env.scope x)(hf:X.fn x=true∨X.env.scope.names.lookup x=some .local:=by first|exact .inl rfl|exact .inr rfl|assumption):PG X (.Name x pos) (CV i):=by
 intro pins s σ H v u Q I r h
 exact wpAny_assign_Name (eO I hN hi hx r (fun s' I'=>⟨_,H,I',h⟩) hf)
def Wq:u_:=fun vs σ H Q=>vs=[]∧Q σ H
def Ku(t:TG)(u:u_):u_:=fun vs σ H Q=>∃v r,vs=v::r∧t v σ H fun σ' H'=>u r σ' H' Q
theorem Aw:pD X [] Wq:=by
 intro pins s σ H vs us Q I r h
 obtain⟨e,h⟩:=h
 subst e
 cases r
 exact assignInOrder_nil ⟨σ,H,I,h⟩
theorem vd{e:Expr}{es:List Expr}{t:TG}{u:u_}(h1:PG X e t)(h2:pD X es u)
 (hs:(assignEach (e::es) X.env).map (·.2)=assign e X.env::(assignEach es X.env).map (·.2):=by rfl):pD X (e::es) (Ku t u):=by
 intro pins s σ H vs us Q I r h
 obtain⟨v,vr,e1,h⟩:=h
 subst e1
 cases r with
 |cons r rr=>
  rw[hs]
  refine assignInOrder_cons (Ť (h1 pins s σ H _ _ _ I r h) fun _ s1 ⟨σ1,H1,I1,q1⟩=>?_)
  exact h2 pins s1 σ1 H1 _ _ Q I1 rr q1
def Wr(K:PySem.W.Frag)(n:Nat)(t:u_):TG:=fun v σ H Q=>∃a xs,v=.ref a∧aZ K H a xs∧xs.length=n∧t xs σ H Q
theorem vf{es:List Expr}{k:Nat}{t:u_}{n:Nat}(hc:X.calm=true)(h:pD X es t)
 (hn:(assignEach es X.env).length=n:=by rfl)(hst:(assignEach es X.env).findIdx? (·.1)=none:=by rfl):PG X (.Tuple es k pos) (Wr X.K n t):=by
 intro pins s σ H v u Q I r hw
 obtain⟨a,xs,e1,hq,hl,hw⟩:=hw
 subst e1
 cases r
 obtain⟨its,rv,ht,hz⟩:=I.tuple hq
 refine assign_Tuple_tuple (I.ok.hd hc) ht (by simp[hn,←hl,rv.length]) hst fun h' hx=>?_
 have I1:Inv X pins σ H {s with heap:=h'}:=I.kept (t':=s.toks) fun b o e=>hx b o (Nat.ne_of_lt (Heap.lt_size e)) e
 exact h pins _ σ H xs _ Q I1 (by simpa using rv) hw
def Ws(to ti:TE)(t:Fq):TG:=fun v σ H Q=>to σ H fun o H1=>ti σ H1 fun i H2=>t o i v H2 fun H3=>Q σ H3
theorem Ft{o i:Expr}{to ti:TE}{t:Fq}(ho:PE X o to)(hi:PE X i ti)(hs:Ks X t)
 (ha:∀v,assign (.Subscript o i pos) X.env v=(do
   let ov ←holding [v] (eval o X.env)
   let iv ←holding [v,ov] (eval i X.env)
   standAt pos
   holding [v,ov,iv] (setItem ov iv v)
   release [v,ov,iv] []):=by intro _;rfl):PG X (.Subscript o i pos) (Ws to ti t):=by
 intro pins s σ H v u Q I r h
 rw[ha]
 refine wpAny_bind (wpAny_holding (Ť (ho pins s σ H _ I h) fun ov s1 ⟨x,H1,I1,r1,q1⟩=>?_))
 refine wpAny_bind (wpAny_holding (Ť (hi pins s1 σ H1 _ I1 q1) fun iv s2 ⟨y,H2,I2,r2,q2⟩=>?_))
 refine wpAny_bind (wpAny_standAt (wpAny_bind (wpAny_holding (Ť (hs pins s2 σ H2 x y v ov iv u _ I2 r1 r2 r q2) fun _ s3 ⟨H3,I3,q3⟩=>?_))))
 exact wpAny_release ⟨σ,H3,I3,q3⟩
def Kv(te:TE)(g:TG):TS:=fun D σ H=>te σ H fun x H1=>g x σ H1 D.nx
theorem vg{tg e:Expr}{te:TE}{g:TG}(he:PE X e te)(hg:PG X tg g)(hs:swapsWithSole [tg] e pos.line X.env=pure false:=by rfl)(hw:swappedStores [tg] e X.env=pure none:=by rfl)
 (h1:(assignEach [tg] X.env).map (·.2)=[assign tg X.env]:=by rfl):PS X (.Assign [tg] e pos) (Kv te g):=by
 intro pins s σ H D I h
 refine wpAny_Assign_stores (Ť (he pins s σ H _ I h) fun v s1 ⟨x,H1,I1,r1,q1⟩=>?_) hs hw
 rw[h1]
 exact Ť (hg pins s1 σ H1 x v _ I1 r1 q1) fun _ s2 q=>q
theorem Fv{i:Nat}{x:Str}{e:Expr}{te:TE}{pos':Pos}(hN:X.N.Nodup)(hi:X.N[i]?=some x)(hx:Loc X.env.scope x)(he:PE X e te)(hs:swapsWith e (some (.Name x pos')) pos.line X.env=pure false:=by rfl)(hf:X.fn x=true∨X.env.scope.names.lookup x=some .local:=by first|exact .inl rfl|exact .inr rfl|assumption) :
 PS X (.Assign [.Name x pos'] e pos) (Kv te (CV i)):=by
 intro pins s σ H D I h
 refine wpAny_Assign_Name (Ť (he pins s σ H _ I h) fun v s1 ⟨y,H1,I1,r1,q1⟩=>?_) hs
 exact eO I1 hN hi hx r1 (fun s2 I2=>⟨_,H1,I2,q1⟩) hf
def Kw(i j:Nat)(ta:TA):TS:=fun D σ H=>ta σ H fun vs H1=>∃v w,vs=[v,w]∧D.nx ((σ.set i (some v)).set j (some w)) H1
theorem Fw{i j:Nat}{x y:Str}{a b:Expr}{ta:TA}{px py pt:Pos}{kt k2 Wt}(hc:X.calm=true)(hN:X.N.Nodup)(hi:X.N[i]?=some x)(hj:X.N[j]?=some y)(hij:i≠j)
 (hx:X.env.scope.names.lookup x=some .local)(hy:X.env.scope.names.lookup y=some .local)(ha:PA X [a,b] ta)
 (hw:swappedStores [.Tuple [.Name x px,.Name y py] kt pt] (.Tuple [a,b] k2 Wt) X.env=pure (some [x,y]))
 (hs:swapsWithSole [.Tuple [.Name x px,.Name y py] kt pt] (.Tuple [a,b] k2 Wt) pos.line X.env=pure false:=by rfl) :
 PS X (.Assign [.Tuple [.Name x px,.Name y py] kt pt] (.Tuple [a,b] k2 Wt) pos) (Kw i j ta):=by
 intro pins s σ H D I h
 rw[exec_Assign_arm]
 refine wpAny_bind (wpAny_standAt ?_)
 rw[hs]
 refine wpAny_bind (wpAny_pure ?_)
 rw[if_neg (by decide)]
 refine wpAny_bind (Tuple_ (Ť (ha _ pins s σ H _ I h) fun us s1 ⟨vs,H1,I1,r1,q1⟩=>?_))
 obtain⟨v,w,e1,q1⟩:=q1
 subst e1
 obtain⟨u1,u2,rfl,rv,Ky⟩:∃u1 u2,us=[u1,u2]∧RelV v u1∧RelV w u2:=by
  cases r1 with
  |cons p q=>
   cases q with
   |cons p' q'=>
    cases q'
    exact⟨_,_,rfl,p,p'⟩
 refine wpAny_newObj_type ?_ (by show 2≤sizeLine;decide)
 have I2:Inv X pins σ H1 {s1 with heap:=s1.heap.push {cls:=.type "tuple",data:=.seq [u1,u2].toArray}}:=I1.kept (t':=s1.toks) fun b o e=>Heap.get?_push_of_some _ e
 rw[hw]
 refine wpAny_bind (wpAny_pure ?_)
 show wpAny (model X.prog X.w) X.A (do rule "assign.swapped-stores";let items ←unpackItems (.ref s1.heap.objs.size) 2 none;assignInOrder [fun v=>bindName X.env y v,fun v=>bindName X.env x v] items.reverse;pure Flow.next) _ _ _
 refine wpAny_bind (wpAny_rule (wpAny_bind (unpackItems_tuple (items:=#[u1,u2]) (I.ok.hd hc) (IsTup.new s1.heap _) fun h' hx'=>?_)))
 have I3:=I2.kept (h':=h') (t':=s1.toks) fun b o e=>hx' b o (Nat.ne_of_lt (Heap.lt_size e)) e
 show wpAny _ _ (assignInOrder [fun v=>bindName X.env y v,fun v=>bindName X.env x v] [u2,u1] >>= fun _=>pure Flow.next) _ _ _
 refine wpAny_bind (assignInOrder_cons (wpAny_bindName (eO I3 hN hj (.inl hy) Ky (fun s2 I4=>?_) (.inr hy))))
 refine assignInOrder_cons (wpAny_bindName (eO I4 hN hi (.inl hx) rv (fun s3 I5=>assignInOrder_nil (wpAny_pure ?_)) (.inr hx)))
 rw[List.set_comm _ _ (Ne.symm hij)] at I5
 exact⟨_,H1,I5,q1⟩
end
section
variable{X:Cx}{pos:Pos}
def Fx(c:TT)(tb:TS):TS:=fun D σ H=>∃W:Nat→St→Hp→Prop,(∃m,W m σ H)∧∀m σ H,W m σ H→
 c σ H fun b H1=>if b=true then ∃N:St→Hp→Prop,(∀σ' H',N σ' H'→∃m',m'<m∧W m' σ' H')∧tb {D with nx:=N,ct:=N,bk:=D.nx} σ H1 else D.nx σ H1
theorem vh{c:Expr}{body:List Stmt}{tc:TT}{tb:TS}(hp:PassesOwn (model X.prog X.w) X.A X.env X.xe)(hc:PT X c tc)(hb:gQ X body tb):PS X (.While c body [] pos) (Fx tc tb):=by
 intro pins s σ H D I h
 obtain⟨W,⟨m0,w0⟩,turn⟩:=h
 refine wpAny_While (codeAny_whileLoop (fun n s'=>∃σ' H',Inv X pins σ' H' s'∧W n σ' H') ?_ m0 ⟨σ,H,I,w0⟩)
 rintro n s1 ⟨σ1,H1,I1,w1⟩
 refine wpAny_passesOwn hp (Ť (hc pins s1 σ1 H1 _ I1 (turn n σ1 H1 w1)) fun b s2 ⟨H2,I2,q2⟩=>?_)
 cases b with
 |true=>
  obtain⟨N,hN,q2⟩:=q2
  rw[if_pos rfl]
  refine wpAny_passesOwn hp (Ť (hb pins s2 σ1 H2 _ I2 q2) fun f s3 q3=>?_)
  cases f with
  |next=>
   obtain⟨σ3,H3,I3,n3⟩:=q3
   obtain⟨m',hm,w3⟩:=hN σ3 H3 n3
   exact⟨m',hm,σ3,H3,I3,w3⟩
  |cont=>
   obtain⟨σ3,H3,I3,n3⟩:=q3
   obtain⟨m',hm,w3⟩:=hN σ3 H3 n3
   exact⟨m',hm,σ3,H3,I3,w3⟩
  |brk=>exact q3
  |ret v=>exact q3
 |false=>
  rw[if_neg Bool.false_ne_true]
  exact wpAny_execs_nil ⟨σ1,H2,I2,q2⟩
end
structure It where
 go:Nat→Hp→Prop
 Tf:Nat→Hp→V→Hp→Prop
 stop:Nat→Hp→Prop
def cH(X:Cx)(pins:List (Addr×Obj))(H:Hp)(b:Addr):Prop:=
 H b=none∧b≠X.env.locals∧b∉X.fs∧(b∈X.ex∨X.s₀.heap.objs.size≤b)∧(∀x c,X.env.cells.lookup x=some c→c≠b)∧∀p∈X.pn++pins,p.1≠b
theorem Inv.vm{X:Cx}{pins:List (Addr×Obj)}{σ:St}{H H':Hp}{s:Shared}{b:Addr}(I:Inv X pins σ H s)(hb:s.heap.objs.size≤b)(hn:H' b=none):cH X pins H' b:=by
 refine⟨hn,Nat.ne_of_gt (Nat.lt_of_lt_of_le I.lt hb),I.Wg hb,.inr (Nat.le_trans I.sz hb),fun x c e z=>?_,fun p hp z=>?_⟩
 ·obtain⟨v,q⟩:=I.cell x c e
  exact absurd (Nat.lt_of_lt_of_le q.lt (by rw[z];exact hb)) (Nat.lt_irrefl _)
 ·exact absurd (Nat.lt_of_lt_of_le (Heap.lt_size (I.pin p hp).1) (by rw[z];exact hb)) (Nat.lt_irrefl _)
structure Turn(P:Program)(w:World)(K:PySem.W.Frag)(tg:Expr)(J:It)(fp:List Addr)(it:Addr)(tn:Nat→Heap→Prop):Prop where
 mem:it∈fp
 obj:∀i h,tn i h→∀b∈fp,∃o,h.get? b=some o∧∀v,o.data≠ .cell v
 keep:∀i h h',tn i h→(∀b∈fp,∀o,h.get? b=some o→h'.get? b=some o)→tn i h'
 item:∀(X:Cx),X.prog=P→X.w=w→X.K=K→X.calm=true→∀(i:Nat) (pins:List (Addr×Obj)) (s:Shared) (σ:St) (H:Hp) (E:Value→Shared→Prop),Inv X pins σ H s→(∀b∈fp,cH X pins H b)→tn i s.heap→J.go i H→
  wpAny (model P w) X.A (pyNext (.ref it)) (fun r s1=>∃u,r=some u∧
   wpAny (model P w) X.A (letOwnedTupleGo tg (.ref it) u) (fun _ s2=>∃x H',Inv X pins σ H' s2∧RelV x u∧J.Tf i H x H'∧tn (i+1) s2.heap∧∀b∈fp,H' b=none) E s1) E s
 done:∀(X:Cx),X.prog=P→X.w=w→X.K=K→X.calm=true→∀(i:Nat) (pins:List (Addr×Obj)) (s:Shared) (σ:St) (H:Hp) (E:Value→Shared→Prop),Inv X pins σ H s→(∀b∈fp,cH X pins H b)→tn i s.heap→J.stop i H→
  wpAny (model P w) X.A (pyNext (.ref it)) (fun r s1=>r=none∧Inv X pins σ H s1) E s
 self:∀(A:Around) (i:Nat) (s:Shared) (Q:Value→Shared→Prop) (E:Value→Shared→Prop),tn i s.heap→Q (.ref it) s→wpAny (model P w) A (pyIter (.ref it)) Q E s
abbrev TI:=St→Hp→(It→Hp→Prop)→Prop
def PIE(X:Cx)(pins:List (Addr×Obj))(σ:St)(tg:Expr)(R:It→Hp→Prop)(itv:Value)(s2:Shared):Prop:=
 ∃(it:Addr) (fp:List Addr) (tn:Nat→Heap→Prop) (J:It) (H':Hp),itv=.ref it∧Inv X pins σ H' s2∧Turn X.prog X.w X.K tg J fp it tn∧tn 0 s2.heap∧(∀b∈fp,cH X pins H' b)∧R J H'
def PI(X:Cx)(tg iter:Expr)(wi:TI):Prop:=
 ∀(pins:List (Addr×Obj)) (s:Shared) (σ:St) (H:Hp) (R:It→Hp→Prop),Inv X pins σ H s→wi σ H R→
  wpAny (model X.prog X.w) X.A (eval iter X.env) (fun v s1=>wpAny (model X.prog X.w) X.A (pyIter v) (PIE X pins σ tg R) X.xe s1) X.xe s
theorem qU{M:Model}{A:Around}{E:Value→Shared→Prop}{s:Shared}{tg:Expr}{it:Addr}{u:Value}{o:Obj}{n:String}{vs:Array Value}{Q:Unit→Shared→Prop}(ho:s.heap.get? it=some o)(hc:o.cls=.type n)(hd:o.data=.fields vs)
 (hn:["enumerate","zip","dict_itemiterator","dict_reverseitemiterator","odict_iterator","itertools.zip_longest","itertools.pairwise"].contains n=false)(hQ:Q () s):wpAny M A (letOwnedTupleGo tg (.ref it) u) Q E s:=by
 unfold letOwnedTupleGo
 cases tg<;>first
  |exact wpAny_pure hQ
  |(cases u<;>first
     |exact wpAny_pure hQ
     |(refine wpAny_bind (wpAny_load ho ?_)
       rw[hc,hd]
       show wpAny M A (if(["enumerate","zip","dict_itemiterator","dict_reverseitemiterator","odict_iterator","itertools.zip_longest","itertools.pairwise"].contains n && vs[0]?== some (rawInt _))=true then _ else _) Q E s
       rw[if_neg (by intro h;rw[hn,Bool.false_and] at h;cases h)]
       exact wpAny_pure hQ))
def JT(K:PySem.W.Frag)(a:Addr):It:=
 ⟨fun i H=>∃xs x,ų K H a xs∧xs[i]?=some x,fun i H x H'=>H'=H∧∀xs,ų K H a xs→xs[i]?=some x,fun i H=>∃xs,ų K H a xs∧xs.length≤i⟩
def Kz(K:PySem.W.Frag)(a:Addr):It:=
 ⟨fun i H=>∃xs x,aZ K H a xs∧xs[i]?=some x,fun i H x H'=>H'=H∧∀xs,aZ K H a xs→xs[i]?=some x,fun i H=>∃xs,aZ K H a xs∧xs.length≤i⟩
def Ti(lo:Int)(n:Nat):It:=⟨fun i _=>i<n,fun i H x H'=>H'=H∧x=.int (lo+i),fun i _=>n≤i⟩
theorem tM{P:Program}{w:World}{K:PySem.W.Frag}{tg:Expr}(a it:Addr):Turn P w K tg (JT K a) [it] it (fun i h=>h.IsListIter it a i) where
 mem:=by simp
 obj:=fun i h st b hb=>by
  have e:b=it:=by simpa using hb
  subst e
  obtain⟨o,e,c,d⟩:=st
  exact⟨o,e,fun v z=>by rw[d] at z;cases z⟩
 keep:=fun i h h' st k=>st.at fun o e=>k it (by simp) o e
 item:=by
  intro X hP hw hK hc i pins s σ H E I hf st hg
  subst hP hw hK
  obtain⟨xs,x,hq,hx⟩:=hg
  obtain⟨its,rv,p,hz⟩:=I.list hq
  obtain⟨u,hu,ru⟩:=rv.get hx
  obtain⟨f0,f1,f2,f3,f4,f5⟩:=hf it (by simp)
  refine wpAny_pyNext_list_item st p.isList (x:=u) (by simpa using hu) fun h' st' sb=>?_
  have I1:Inv X pins σ H {s with heap:=h'}:=I.turned (t':=s.toks) (fun b o hb e=>(sb.2 b hb).trans e) f0 f1 f3 f4 f5
  obtain⟨o,e,c,d⟩:=id st'
  exact⟨u,rfl,qU (s:={s with heap:=h'}) e c d (by decide) ⟨x,H,I1,ru,⟨rfl,fun ys hy=>by rw[I.nj hy hq];exact hx⟩,st',fun b hb=>(hf b hb).1⟩⟩
 done:=by
  intro X hP hw hK hc i pins s σ H E I hf st hg
  subst hP hw hK
  obtain⟨xs,hq,hx⟩:=hg
  obtain⟨its,rv,p,hz⟩:=I.list hq
  obtain⟨f0,f1,f2,f3,f4,f5⟩:=hf it (by simp)
  have hl:=rv.length
  exact wpAny_pyNext_list_end (I.ok.hd hc) st p.isList (by simp;omega) fun h' eb=>⟨rfl,I.turned (t':=s.toks) (fun b o hb e=>eb b o hb e) f0 f1 f3 f4 f5⟩
 self:=fun _ _ _ _ _ st h=>wpAny_pyIter_listiter st h
theorem pF{P:Program}{w:World}{K:PySem.W.Frag}{tg:Expr}(a it:Addr):Turn P w K tg (Kz K a) [it] it (fun i h=>h.IsTupleIter it a i) where
 mem:=by simp
 obj:=fun i h st b hb=>by
  have e:b=it:=by simpa using hb
  subst e
  obtain⟨o,e,c,d⟩:=st
  exact⟨o,e,fun v z=>by rw[d] at z;cases z⟩
 keep:=fun i h h' st k=>st.at fun o e=>k it (by simp) o e
 item:=by
  intro X hP hw hK hc i pins s σ H E I hf st hg
  subst hP hw hK
  obtain⟨xs,x,hq,hx⟩:=hg
  obtain⟨its,rv,p,hz⟩:=I.tuple hq
  obtain⟨u,hu,ru⟩:=rv.get hx
  obtain⟨f0,f1,f2,f3,f4,f5⟩:=hf it (by simp)
  refine wpAny_pyNext_tuple_item st (show s.heap.IsTuple a its.toArray from p) (x:=u) (by simpa using hu) fun h' st' sb=>?_
  have I1:Inv X pins σ H {s with heap:=h'}:=I.turned (t':=s.toks) (fun b o hb e=>(sb.2 b hb).trans e) f0 f1 f3 f4 f5
  obtain⟨o,e,c,d⟩:=id st'
  exact⟨u,rfl,qU (s:={s with heap:=h'}) e c d (by decide) ⟨x,H,I1,ru,⟨rfl,fun ys hy=>by rw[I.jG hy hq];exact hx⟩,st',fun b hb=>(hf b hb).1⟩⟩
 done:=by
  intro X hP hw hK hc i pins s σ H E I hf st hg
  subst hP hw hK
  obtain⟨xs,hq,hx⟩:=hg
  obtain⟨its,rv,p,hz⟩:=I.tuple hq
  obtain⟨f0,f1,f2,f3,f4,f5⟩:=hf it (by simp)
  have hl:=rv.length
  exact wpAny_pyNext_tuple_end (I.ok.hd hc) st (show s.heap.IsTuple a its.toArray from p) (by simp;omega) fun h' eb=>⟨rfl,I.turned (t':=s.toks) (fun b o hb e=>eb b o hb e) f0 f1 f3 f4 f5⟩
 self:=fun _ _ _ _ _ st h=>wpAny_pyIter_tupleiter st h
theorem pG{P:Program}{w:World}{K:PySem.W.Frag}{tg:Expr}(it:Addr)(lo:Int)(n:Nat):Turn P w K tg (Ti lo n) [it] it (fun i h=>IsRangeIter h it (lo+(i:Nat)*1) ((n:Int)-(i:Nat)) 1) where
 mem:=by simp
 obj:=fun i h st b hb=>by
  have e:b=it:=by simpa using hb
  subst e
  exact⟨_,st,fun v z=>by
   have z':Data.fields _=Data.cell v:=z
   cases z'⟩
 keep:=fun i h h' st k=>k it (by simp) _ st
 item:=by
  intro X hP hw hK hc i pins s σ H E I hf st hg
  subst hP hw hK
  obtain⟨f0,f1,f2,f3,f4,f5⟩:=hf it (by simp)
  have W:=Walks.range (prog:=X.prog) (w:=X.w) (I.ok.hd hc) it lo 1 n
  refine W.item i s _ _ hg st fun v h' tk hv st' kk=>?_
  obtain⟨t,rfl⟩:=hv
  have I1:Inv X pins σ H {s with heap:=h',toks:=tk}:=I.turned (fun b o hb e=>kk b o (by simpa using hb) e) f0 f1 f3 f4 f5
  refine⟨_,rfl,qU (s:={s with heap:=h',toks:=tk}) (n:= "range_iterator") st' rfl rfl (by decide) ⟨.int (lo+i),H,I1,⟨t,?_⟩,⟨rfl,rfl⟩,st',fun b hb=>(hf b hb).1⟩⟩
  rw[Int.mul_one]
 done:=by
  intro X hP hw hK hc i pins s σ H E I hf st hg
  subst hP hw hK
  obtain⟨f0,f1,f2,f3,f4,f5⟩:=hf it (by simp)
  exact wpAny_pyNext_range_end (I.ok.hd hc) st (by have:n≤i:=hg;omega) fun h' eb=>⟨rfl,I.turned (t':=s.toks) (fun b o hb e=>eb b o hb e) f0 f1 f3 f4 f5⟩
 self:=fun _ _ _ _ _ st h=>wpAny_pyIter_rangeiter st h
end L2
namespace L2
open PySem PySem.Spec PyProof.Rows
section
variable{X:Cx}{tg:Expr}
theorem vo{pins:List (Addr×Obj)}{σ:St}{H:Hp}{s:Shared}{R:It→Hp→Prop}{E:Value→Shared→Prop}{lo hi:Int}{t u v:Tok}{tk:Nat}(I:Inv X pins σ H s)(h1: -(2 ^ 62)≤lo)(h2:lo<2 ^ 62)(h3: -(2 ^ 62)≤hi)(h4:hi<2 ^ 62)
 (q:R (Ti lo (hi-lo).toNat) H):wpAny (model X.prog X.w) X.A (pyIter (.ref s.heap.objs.size)) (PIE X pins σ tg R) E {s with heap:=s.heap.push {cls:=.type "range",data:=.fields #[.int lo t,.int hi u,.int 1 v]},toks:=tk}:=by
 refine wpAny_pyIter_range (IsRange.new ..) (small_one h1 h2 h3 h4) ?_
 have I1:Inv X pins σ H {s with heap:=s.heap.push {cls:=.type "range",data:=.fields #[.int lo t,.int hi u,.int 1 v]},toks:=tk}:=I.kept fun b o e=>Heap.get?_push_of_some _ e
 refine⟨(s.heap.push {cls:=.type "range",data:=.fields #[.int lo t,.int hi u,.int 1 v]}).objs.size,[(s.heap.push {cls:=.type "range",data:=.fields #[.int lo t,.int hi u,.int 1 v]}).objs.size],_,_,H,rfl,
  I1.kept (t':=tk) fun b o e=>Heap.get?_push_of_some _ e,pG _ lo (hi-lo).toNat,?_,fun b hb=>?_,q⟩
 ·have e1:lo+((0:Nat):Int)*1=lo:=by simp
  have e2:(((hi-lo).toNat:Nat):Int)-((0:Nat):Int)=Builtin.Range.rangeSize lo hi 1:=by rw[rangeSize_one];split<;>omega
  show IsRangeIter _ _ (lo+((0:Nat):Int)*1) ((((hi-lo).toNat:Nat):Int)-((0:Nat):Int)) 1
  rw[e1,e2]
  exact Heap.get?_push_size _ rfl
 ·have e:b=(s.heap.push {cls:=.type "range",data:=.fields #[.int lo t,.int hi u,.int 1 v]}).objs.size:=by simpa using hb
  subst e
  exact I1.vm (Nat.le_refl _) (I1.hok.fresh (Nat.le_refl _))
def KC(ta:TA):TI:=fun σ H R=>ta σ H fun vs H1=>∃j:Int,vs=[.int j]∧ -(2 ^ 62)≤j∧j<2 ^ 62∧R (Ti 0 j.toNat) H1
theorem tQ{a:Expr}{ta:TA}{p pos:Pos}(hg:Gl X "range")(hm:X.mg "range" =none)(ha:PA X [a] ta)(hs:starEach [a] X.env=[(false,eval a X.env)]:=by rfl):PI X tg (.Call (.Name "range" p) [a] [] pos) (KC ta):=by
 intro pins s σ H R I h
 refine Call_ (iz I hg hm boot_range (PyProof.Rows.callWith_type1 (Ť (ha pos pins s σ H _ I h) fun us s1 ⟨vs,H1,I1,r1,q1⟩=>?_) hs rfl))
 obtain⟨j,e,q1,q2,q⟩:=q1
 subst e
 cases r1 with
 |cons r rr=>
  cases rr
  obtain⟨t,rfl⟩:=r
  exact call_range_1 (vo I1 (by omega) (by omega) q1 q2 (by simpa using q))
def Wu(wi:TI)(g:TG)(tb:TS):TS:=fun D σ H=>wi σ H fun J H1=>∃W:Nat→Nat→St→Hp→Prop,(∃m,W 0 m σ H1)∧∀i m σ H,W i m σ H→
 (J.stop i H∧D.nx σ H)∨(J.go i H∧∃N:St→Hp→Prop,(∀σ' H',N σ' H'→∃m',m'<m∧W (i+1) m' σ' H')∧∀x H',J.Tf i H x H'→g x σ H' fun σ2 H2=>tb {D with nx:=N,ct:=N,bk:=D.nx} σ2 H2)
def fK(fp:List Addr)(h:Heap):List (Addr×Obj):=fp.filterMap fun b=>(h.get? b).map fun o=>(b,o)
theorem Ź{fp:List Addr}{h:Heap}{b:Addr}{o:Obj}(hb:b∈fp)(e:h.get? b=some o):(b,o)∈fK fp h:=List.mem_filterMap.mpr ⟨b,hb,by rw[e];rfl⟩
theorem tU{fp:List Addr}{h:Heap}{p:Addr×Obj}(hp:p∈fK fp h):p.1∈fp∧h.get? p.1=some p.2:=by
 obtain⟨b,hb,e⟩:=List.mem_filterMap.mp hp
 cases q:h.get? b with
 |none=>rw[q] at e;cases e
 |some o=>
  rw[q] at e
  have e':(b,o)=p:=Option.some.inj e
  subst e'
  exact⟨hb,q⟩
theorem Inv.pinned{pins:List (Addr×Obj)}{σ:St}{H:Hp}{s:Shared}{fp:List Addr}(I:Inv X pins σ H s)(hf:∀b∈fp,cH X pins H b)(ho:∀b∈fp,∃o,s.heap.get? b=some o∧∀v,o.data≠ .cell v):Inv X (pins++fK fp s.heap) σ H s:=
 I.qQ fun p hp=>(List.mem_append.mp hp).elim (fun z=>I.pin p (List.mem_append_right _ z)) fun z=>by
   obtain⟨hb,e⟩:=tU z
   obtain⟨f0,f1,f2,_⟩:=hf p.1 hb
   obtain⟨o,e',d⟩:=ho p.1 hb
   rw[e] at e';cases e'
   exact⟨e,f0,f1,f2,d⟩
theorem Inv.cI{pins pl:List (Addr×Obj)}{σ:St}{H:Hp}{s:Shared}(I:Inv X (pins++pl) σ H s):Inv X pins σ H s:=I.qQ fun p hp=>I.pin p (List.mem_append_right _ (List.mem_append_left _ hp))
theorem Fy{iter:Expr}{body:List Stmt}{wi:TI}{g:TG}{tb:TS}{pos:Pos}(hp:PassesOwn (model X.prog X.w) X.A X.env X.xe)(hc:X.calm=true)(hi:PI X tg iter wi)(hg:PG X tg g)(hb:gQ X body tb)
 (hs:∀x,foldedSetIterable iter X.env x=pure x:=by intro _;rfl):PS X (.For tg iter body [] pos) (Wu wi g tb):=by
 intro pins s σ H D I h
 refine wpAny_For (Ť (hi pins s σ H _ I h) fun v s1 h1=>Ť h1 fun itv s2 h2=>?_) hs
 obtain⟨it,fp,tn,J,H2,e,I2,T,st2,f2,W,⟨m0,w0⟩,turn⟩:=h2
 subst e
 -- what stays true of the iterator's objects through the loop
 have stat:∀{H':Hp},(∀b∈fp,H' b=none)→∀b∈fp,cH X pins H' b:=fun hn b hb=>⟨hn b hb,(f2 b hb).2⟩
 refine codeAny_forLoop_any (fun n s'=>∃i σ' H',Inv X pins σ' H' s'∧tn i s'.heap∧(∀b∈fp,H' b=none)∧W i n σ' H') ?_ m0 ⟨0,σ,H2,I2,st2,fun b hb=>(f2 b hb).1,w0⟩
 rintro n s3 ⟨i,σ3,H3,I3,st3,fr3,w3⟩
 rcases turn i n σ3 H3 w3 with⟨stop,qn⟩|⟨go,N,hN,step⟩
 ·refine wpAny_passesOwn hp (Ť (T.done X rfl rfl rfl hc i pins s3 σ3 H3 X.xe I3 (stat fr3) st3 stop) fun r s4 ⟨hr,I4⟩=>?_)
  subst hr
  exact wpAny_execs_nil ⟨σ3,H3,I4,qn⟩
 ·refine wpAny_passesOwn hp (Ť (T.item X rfl rfl rfl hc i pins s3 σ3 H3 X.xe I3 (stat fr3) st3 go) fun r s4 ⟨u,hr,h4⟩=>?_)
  subst hr
  refine wpAny_passesOwn hp (Ť h4 fun _ s5 ⟨x,H5,I5,r5,y5,Ax,Fz⟩=>?_)
  have I5':=I5.pinned (stat Fz) (T.obj _ _ Ax)
  refine wpAny_passesOwn hp (Ť (hg _ s5 σ3 H5 x u _ I5' r5 (step x H5 y5)) fun _ s6 ⟨σ6,H6,I6,q6⟩=>?_)
  refine wpAny_passesOwn hp (Ť (hb _ s6 σ6 H6 _ I6 q6) fun f s7 q7=>?_)
  have again:∀{σ7:St} {H7:Hp},Inv X (pins++fK fp s5.heap) σ7 H7 s7→N σ7 H7→∃m,m<n∧∃i σ' H',Inv X pins σ' H' s7∧tn i s7.heap∧(∀b∈fp,H' b=none)∧W i m σ' H':=fun{σ7 H7} I7 n7=>by
   obtain⟨m',hm,w7⟩:=hN σ7 H7 n7
   refine⟨m',hm,i+1,σ7,H7,I7.cI,T.keep _ _ _ Ax fun b hb o e=>(I7.pin (b,o) (List.mem_append_right _ (List.mem_append_right _ (Ź hb e)))).1,fun b hb=>?_,w7⟩
   obtain⟨o,e,d⟩:=T.obj _ _ Ax b hb
   exact(I7.pin (b,o) (List.mem_append_right _ (List.mem_append_right _ (Ź hb e)))).2.1
  cases f with
  |next=>obtain⟨σ7,H7,I7,n7⟩:=q7;exact again I7 n7
  |cont=>obtain⟨σ7,H7,I7,n7⟩:=q7;exact again I7 n7
  |brk=>obtain⟨σ7,H7,I7,q7⟩:=q7;exact⟨σ7,H7,I7.cI,q7⟩
  |ret v=>obtain⟨x7,σ7,H7,I7,r7,q7⟩:=q7;exact⟨x7,σ7,H7,I7.cI,r7,q7⟩
end
end L2
namespace L2
open PySem PySem.Spec PyProof.Rows
abbrev R2:=V→V→Hp→VK→Prop
def ż(X:Cx)(f:Value→Value→Sem Value)(r:R2):Prop:=
 ∀(pins:List (Addr×Obj)) (s:Shared) (σ:St) (H:Hp) (x y:V) (v u:Value) (Q:VK),Inv X pins σ H s→RelV x v→RelV y u→r x y H Q→
  wpAny (model X.prog X.w) X.A (f v u) (EP X pins σ Q) X.xe s
def Ay(X:Cx)(f:Value→Sem Value)(r:V→Hp→VK→Prop):Prop:=
 ∀(pins:List (Addr×Obj)) (s:Shared) (σ:St) (H:Hp) (x:V) (v:Value) (Q:VK),Inv X pins σ H s→RelV x v→r x H Q→
  wpAny (model X.prog X.w) X.A (f v) (EP X pins σ Q) X.xe s
def Ő(X:Cx)(f:Value)(r:List V→Hp→VK→Prop):Prop:=
 ∀(pins:List (Addr×Obj)) (s:Shared) (σ:St) (H:Hp) (xs:List V) (us:List Value) (Q:VK),Inv X pins σ H s→Vals xs us→r xs H Q→
  wpAny (model X.prog X.w) X.A (call f us) (EP X pins σ Q) X.xe s
def Wv(X:Cx)(r:V→Hp→(Bool→Hp→Prop)→Prop):Prop:=
 ∀(pins:List (Addr×Obj)) (s:Shared) (σ:St) (H:Hp) (x:V) (v:Value) (Q:Bool→Hp→Prop),Inv X pins σ H s→RelV x v→r x H Q→
  wpAny (model X.prog X.w) X.A (truthy v) (TP X pins σ Q) X.xe s
def FJ(r:R2)(ta tb:TE):TE:=fun σ H Q=>ta σ H fun x H1=>tb σ H1 fun y H2=>r x y H2 Q
def tUn(r:V→Hp→VK→Prop)(ta:TE):TE:=fun σ H Q=>ta σ H fun x H1=>r x H1 Q
def rI(C:Int→Int→Prop)(g:Int→Int→V):R2:=fun x y H Q=>∃i j,x=.int i∧y=.int j∧C i j∧Q (g i j) H
def Az(g:Int→Int→V):R2:=fun x y H Q=>∃i j,x=.int i∧y=.int j∧Q (g i j) H
def rU(g:Int→V):V→Hp→VK→Prop:=fun x H Q=>∃i,x=.int i∧Q (g i) H
section
variable{X:Cx}{a b c:Expr}{ta tb tc:TE}{pos:Pos}
theorem FP(ha:PE X a ta)(hb:PE X b tb){pins:List (Addr×Obj)}{s:Shared}{σ:St}{H:Hp}{R:V→V→Hp→Prop}(I:Inv X pins σ H s)
 (h:ta σ H fun x H1=>tb σ H1 fun y H2=>R x y H2){Q:Value→Shared→Prop}{f:Value→Value→Sem Value}
 (hf:∀v u s2 x y H2,Inv X pins σ H2 s2→RelV x v→RelV y u→R x y H2→wpAny (model X.prog X.w) X.A (f v u) Q X.xe s2) :
 wpAny (model X.prog X.w) X.A (eval a X.env) (fun v s₁=>wpAny (model X.prog X.w) X.A (eval b X.env) (fun u s₂=>wpAny (model X.prog X.w) X.A (f v u) Q X.xe s₂) X.xe s₁) X.xe s:=by
 refine Ť (ha pins s σ H _ I h) fun v s1 ⟨x,H1,I1,r1,q1⟩=>?_
 refine Ť (hb pins s1 σ H1 _ I1 q1) fun u s2 ⟨y,H2,I2,r2,q2⟩=>?_
 exact hf v u s2 x y H2 I2 r1 r2 q2
theorem CW{op:Operator}{r:R2}(ho:ż X (binaryOp op) r)(ha:PE X a ta)(hb:PE X b tb):PE X (.BinOp a op b pos) (FJ r ta tb):=by
 intro pins s σ H Q I h
 exact wpAny_BinOp (FP ha hb I h fun v u s2 x y H2 I2 rx ry q=>ho pins s2 σ H2 x y v u Q I2 rx ry q)
theorem CZ{op:UnaryOp}{r:V→Hp→VK→Prop}(ho:Ay X (unaryOp op) r)(ha:PE X a ta):PE X (.UnaryOp op a pos) (tUn r ta):=by
 intro pins s σ H Q I h
 exact UnaryOp_ (Ť (ha pins s σ H _ I h) fun v s1 ⟨x,H1,I1,r1,q1⟩=>ho pins s1 σ H1 x v Q I1 r1 q1)
theorem uU{f:Value→Value→Sem Value}{C:Int→Int→Prop}{g:Int→Int→Int}
 (rule:∀(i j:Int) (t u:Tok) (s:Shared) (Q:Value→Shared→Prop) (E:Value→Shared→Prop),C i j→Q (.int (g i j) s.toks) {s with toks:=s.toks+1}→wpAny (model X.prog X.w) X.A (f (.int i t) (.int j u)) Q E s) :
 ż X f (rI C fun i j=>.int (g i j)):=by
 intro pins s σ H x y v u Q I rx ry h
 obtain⟨i,j,rfl,rfl,hc,q⟩:=h
 obtain⟨t,rfl⟩:=rx
 obtain⟨t',rfl⟩:=ry
 exact rule i j t t' s _ _ hc ⟨.int (g i j),H,I.tok _,⟨_,rfl⟩,q⟩
theorem tW{f:Value→Value→Sem Value}{g:Int→Int→Int}
 (rule:∀(i j:Int) (t u:Tok) (s:Shared) (Q:Value→Shared→Prop) (E:Value→Shared→Prop),Q (.int (g i j) s.toks) {s with toks:=s.toks+1}→wpAny (model X.prog X.w) X.A (f (.int i t) (.int j u)) Q E s) :
 ż X f (Az fun i j=>.int (g i j)):=by
 intro pins s σ H x y v u Q I rx ry h
 obtain⟨i,j,rfl,rfl,q⟩:=h
 obtain⟨t,rfl⟩:=rx
 obtain⟨t',rfl⟩:=ry
 exact rule i j t t' s _ _ ⟨.int (g i j),H,I.tok _,⟨_,rfl⟩,q⟩
theorem A_{f:Value→Value→Sem Value}{g:Int→Int→Bool}
 (rule:∀(i j:Int) (t u:Tok) (s:Shared) (Q:Value→Shared→Prop) (E:Value→Shared→Prop),Q (.bool (g i j)) s→wpAny (model X.prog X.w) X.A (f (.int i t) (.int j u)) Q E s) :
 ż X f (Az fun i j=>.bl (g i j)):=by
 intro pins s σ H x y v u Q I rx ry h
 obtain⟨i,j,rfl,rfl,q⟩:=h
 obtain⟨t,rfl⟩:=rx
 obtain⟨t',rfl⟩:=ry
 exact rule i j t t' s _ _ ⟨.bl (g i j),H,I,rfl,q⟩
def KD(i j:Int):Prop:=0<j∧j<1073741824
def FQ(i j:Int):Prop:=0≤j∧j≤1000000∧i.natAbs<2 ^ 64
def FT(i j:Int):Prop:=(-(2 ^ 64)<i∧i<2 ^ 64)∨(-(2 ^ 64)<j∧j<2 ^ 64)
theorem FT.ok{i j:Int}(h:FT i j):IntMulOk i j:=by
 rcases h with⟨h1,h2⟩|⟨h1,h2⟩
 ·exact .of_left (intBits_le_64 h1 h2)
 ·exact .of_right (intBits_le_64 h1 h2)
theorem FW:ż X (binaryOp .Add) (Az fun i j=>.int (i+j)):=tW fun _ _ _ _ _ _ _ q=>add_int q
theorem FZ:ż X (binaryOp .Sub) (Az fun i j=>.int (i-j)):=tW fun _ _ _ _ _ _ _ q=>sub_int q
theorem Ba:ż X (binaryOp .Mod) (rI (fun _ j=>j≠0) fun i j=>.int (i.fmod j)):=uU fun _ _ _ _ _ _ _ hc q=>mod_int' hc q
theorem Ga:ż X (binaryOp .Pow) (rI FQ fun i j=>.int (i ^ j.toNat)):=uU fun _ _ _ _ _ _ _ hc q=>pow_int_small hc.1 hc.2.1 hc.2.2 q
theorem unI{f:Value→Sem Value}{g:Int→Int}
 (rule:∀(i:Int) (t:Tok) (s:Shared) (Q:Value→Shared→Prop) (E:Value→Shared→Prop),Q (.int (g i) s.toks) {s with toks:=s.toks+1}→wpAny (model X.prog X.w) X.A (f (.int i t)) Q E s) :
 Ay X f (rU fun i=>.int (g i)):=by
 intro pins s σ H x v Q I rx h
 obtain⟨i,rfl,q⟩:=h
 obtain⟨t,rfl⟩:=rx
 exact rule i t s _ _ ⟨.int (g i),H,I.tok _,⟨_,rfl⟩,q⟩
theorem Gb:Ay X (unaryOp .USub) (rU fun i=>.int (-i)):=unI fun _ _ _ _ _ q=>neg_int q
end
section
variable{X:Cx}{a b c:Expr}{ta tb tc:TE}{pos:Pos}
theorem Gd{pins:List (Addr×Obj)}{σ:St}{H:Hp}{s:Shared}{Q:VK}{k k':Bool}(I:Inv X pins σ H s)(q:Q (.bl k) H)(e:k=k'):EP X pins σ Q (.bool k') s:=by
 subst e
 exact⟨.bl k,H,I,rfl,q⟩
theorem KH:ż X (compareOp .Lt) (Az fun i j=>.bl (decide (i<j))):=A_ fun _ _ _ _ _ _ _ q=>lt_int q
theorem KJ:ż X (compareOp .LtE) (Az fun i j=>.bl (decide (i≤j))):=A_ fun _ _ _ _ _ _ _ q=>le_int q
theorem KN:ż X (compareOp .Gt) (Az fun i j=>.bl (decide (j<i))):=A_ fun _ _ _ _ _ _ _ q=>gt_int q
theorem KQ:ż X (compareOp .GtE) (Az fun i j=>.bl (decide (j≤i))):=A_ fun _ _ _ _ _ _ _ q=>ge_int q
theorem Ge:ż X (compareOp .Is) (fun x y H Q=>y=.non∧Q (.bl (decide (x=.non))) H):=by
 intro pins s σ H x y v u Q I rx ry h
 obtain⟨rfl,q⟩:=h
 cases ry
 refine is_none_gen (Gd I q ?_)
 cases x<;>first
  |(cases rx;rfl)
  |(obtain⟨t,rfl⟩:=rx;rfl)
theorem ż.or{f:Value→Value→Sem Value}{r r':R2}(h:ż X f r)(h':ż X f r'):ż X f (fun x y H Q=>r x y H Q∨r' x y H Q):=by
 intro pins s σ H x y v u Q I rx ry q
 rcases q with q|q
 ·exact h pins s σ H x y v u Q I rx ry q
 ·exact h' pins s σ H x y v u Q I rx ry q
theorem Ħ(b:Expr){op:CmpOp}(h:op≠ .In:=by decide)(h2:op≠ .NotIn:=by decide):behindInMarks op b=false:=by
 have e1:(op== CmpOp.In)=false:=by cases op<;>first|rfl|exact absurd rfl h
 have e2:(op== CmpOp.NotIn)=false:=by cases op<;>first|rfl|exact absurd rfl h2
 cases b<;>simp[behindInMarks,e1,e2]
theorem Bb{op:CmpOp}{r:R2}(ho:ż X (compareOp op) r)(ha:PE X a ta)(hb:PE X b tb)(hm:behindInMarks op b=false):PE X (.Compare a [op] [b] pos) (FJ r ta tb):=by
 intro pins s σ H Q I h
 exact wpAny_Compare1 (FP ha hb I h fun v u s2 x y H2 I2 rx ry q=>ho pins s2 σ H2 x y v u Q I2 rx ry q) hm
def Gf(K:PySem.W.Frag)(x:V)(H:Hp)(k:Bool):Prop:=
 match x with
 | .non=>k=false
 | .bl b=>k=b
 | .int i=>k=(i != 0)
 | .str y=>y.length≤sizeLine∧k=((y.length:Int) != 0)
 | .EY y=>y.size≤sizeLine∧k=((y.size:Int) != 0)
 | .ref p=>(∃xs,ų K H p xs∧k=!xs.isEmpty)∨(∃xs,aZ K H p xs∧k=!xs.isEmpty)∨∃kvs,H p=some (.dK kvs)∧k=!kvs.isEmpty
 |_=>False
theorem pH{κ:Type}{kvs:List (κ×V)}{vs:List (κ×Value)}(r:KV kvs vs):(!vs.isEmpty)=!kvs.isEmpty:=by
 cases r<;>rfl
theorem iB{xs:List V}{its:List Value}(r:Vals xs its):(!its.toArray.isEmpty)=!xs.isEmpty:=by
 cases r<;>simp
theorem fL:(sizeLine:Nat)<2 ^ 63:=by rw[sizeLine_eq];decide
theorem Gg:Wv X (fun x H Q=>∃k,Gf X.K x H k∧Q k H):=by
 intro pins s σ H x v Q I rx h
 obtain⟨k,e,q⟩:=h
 have hl:=fL
 have hs:sizeLine=16777216:=sizeLine_eq
 cases x with
 |non=>
  cases rx
  have e':k=false:=e
  subst e'
  exact truthy_none ⟨H,I,q⟩
 |bl b=>
  cases rx
  have e':k=b:=e
  subst e'
  exact wpAny_truthy_bool ⟨H,I,q⟩
 |int i=>
  obtain⟨t,rfl⟩:=rx
  have e':k=(i != 0):=e
  subst e'
  exact PySem.P.truthy_int ⟨H,I,q⟩
 |str y=>
  obtain⟨t,rfl⟩:=rx
  obtain⟨hy,e'⟩:y.length≤sizeLine∧k=((y.length:Int) != 0):=e
  subst e'
  exact PySem.P.truthy_str (by omega) ⟨H,I.tok _,q⟩
 |EY y=>
  obtain⟨t,rfl⟩:=rx
  obtain⟨hy,e'⟩:y.size≤sizeLine∧k=((y.size:Int) != 0):=e
  subst e'
  exact PySem.W.truthy_bytes (by omega) ⟨H,I.tok _,q⟩
 |ref p=>
  cases rx
  have e':(∃xs,ų X.K H p xs∧k=!xs.isEmpty)∨(∃xs,aZ X.K H p xs∧k=!xs.isEmpty)∨∃kvs,H p=some (.dK kvs)∧k=!kvs.isEmpty:=e
  rcases e' with⟨xs,hx,e'⟩|⟨xs,hx,e'⟩|⟨kvs,hx,e'⟩
  ·subst e'
   obtain⟨its,r,pl,hz⟩:=I.list hx
   have hlen:=r.length
   exact wpAny_truthy_list pl.isList (by simp only[List.size_toArray];omega) ⟨H,I.tok _,by rw[iB r];exact q⟩
  ·subst e'
   obtain⟨its,r,pl,hz⟩:=I.tuple hx
   have hlen:=r.length
   exact truthy_tuple pl (by simp only[List.size_toArray];omega) ⟨H,I.tok _,by rw[iB r];exact q⟩
  ·subst e'
   obtain⟨hz,hS,vs,r,m⟩:kvs.length≤sizeLine∧(p== sysModules)=false∧∃vs,KV kvs vs∧s.heap.DictOf (lA X.prog X.w) p vs:=I.hok p _ hx
   have hlen:kvs.length=vs.length:=Paired.length r
   exact wpAny_truthy_dict hS m (by omega) ⟨H,I.tok _,by rw[pH r];exact q⟩
 |_=>exact(show False from e).elim
theorem vp(ha:PE X a ta)(he:∀whole,isTrue a X.env whole=(do let v ←whole;standAt a.pos;holding [v] (truthy v))) :
 PT X a (fun σ H Q=>ta σ H fun x H'=>∃k,Gf X.K x H' k∧Q k H'):=by
 intro pins s σ H Q I h
 exact isTrue_plain (Ť (ha pins s σ H _ I h) fun v s1 ⟨x,H1,I1,r1,q1⟩=>Gg pins s1 σ H1 x v Q I1 r1 q1) (he _)
theorem pI:ż X (binaryOp .Add) (fun x y H Q=>∃i j,x=.str i∧y=.str j∧i.length+j.length≤sizeLine∧Q (.str (i++j)) H):=by
 intro pins s σ H x y v u Q I rx ry h
 obtain⟨i,j,rfl,rfl,hz,q⟩:=h
 obtain⟨t,rfl⟩:=rx
 obtain⟨t',rfl⟩:=ry
 exact add_str (fun t' tk=>⟨.str (i++j),H,I.tok _,⟨_,rfl⟩,q⟩) hz
theorem vals1{x:V}{us:List Value}(r:Vals [x] us):∃u,us=[u]∧RelV x u:=by
 cases r with
 |cons r1 r2=>cases r2;exact⟨_,rfl,r1⟩
theorem vals2{x y:V}{us:List Value}(r:Vals [x,y] us):∃u w',us=[u,w']∧RelV x u∧RelV y w':=by
 cases r with
 |cons r1 r2=>
  cases r2 with
  |cons r3 r4=>cases r4;exact⟨_,_,rfl,r1,r3⟩
theorem vq:Ő X (.builtin "abs") (fun xs H Q=>∃i,xs=[.int i]∧Q (.int (if i<0 then -i else i)) H):=by
 intro pins s σ H xs us Q I r h
 obtain⟨i,rfl,q⟩:=h
 obtain⟨u,rfl,t,rfl⟩:=vals1 r
 exact call_abs_int fun u tk=>⟨.int (if i<0 then -i else i),H,I.tok _,⟨_,rfl⟩,q⟩
theorem tX(hc:X.calm=true):Ő X (.builtin "max") (fun xs H Q=>∃i j,xs=[.int i,.int j]∧Q (.int (if j>i then j else i)) H):=by
 intro pins s σ H xs us Q I r h
 obtain⟨i,j,rfl,q⟩:=h
 obtain⟨u,w',rfl,⟨t,rfl⟩,⟨t',rfl⟩⟩:=vals2 r
 refine max_two_ints (I.ok.hd hc) fun h' tk k=>⟨_,H,I.kept k,?_,q⟩
 by_cases hj:j>i
 ·rw[if_pos hj,if_pos hj];exact⟨_,rfl⟩
 ·rw[if_neg hj,if_neg hj];exact⟨_,rfl⟩
theorem tY(hc:X.calm=true):Ő X (.builtin "min") (fun xs H Q=>∃i j,xs=[.int i,.int j]∧Q (.int (if j<i then j else i)) H):=by
 intro pins s σ H xs us Q I r h
 obtain⟨i,j,rfl,q⟩:=h
 obtain⟨u,w',rfl,⟨t,rfl⟩,⟨t',rfl⟩⟩:=vals2 r
 refine min_two_ints (I.ok.hd hc) fun h' tk k=>⟨_,H,I.kept k,?_,q⟩
 by_cases hj:j<i
 ·rw[if_pos hj,if_pos hj];exact⟨_,rfl⟩
 ·rw[if_neg hj,if_neg hj];exact⟨_,rfl⟩
theorem tZ:Ő X (.type "int") (fun xs H Q=>(∃i,xs=[.int i]∧Q (.int i) H)∨∃k,xs=[.bl k]∧Q (.int (if k then 1 else 0)) H):=by
 intro pins s σ H xs us Q I r h
 rcases h with⟨i,rfl,q⟩|⟨k,rfl,q⟩
 ·obtain⟨u,rfl,t,rfl⟩:=vals1 r
  exact call_int_int ⟨.int i,H,I,⟨_,rfl⟩,q⟩
 ·obtain⟨u,rfl,r1⟩:=vals1 r
  cases r1
  exact call_int_bool ⟨.int (if k then 1 else 0),H,I.tok _,⟨_,rfl⟩,q⟩
def Ww(K:PySem.W.Frag)(x:V)(H:Hp)(n:Nat):Prop:=
 match x with
 | .str y=>y.length≤sizeLine∧n=y.length
 | .EY y=>y.size≤sizeLine∧n=y.size
 | .ref p=>(∃xs,ų K H p xs∧n=xs.length)∨∃xs,aZ K H p xs∧n=xs.length
 |_=>False
theorem vA:Ő X (.builtin "len") (fun xs H Q=>∃x n,xs=[x]∧Ww X.K x H n∧Q (.int n) H):=by
 intro pins s σ H xs us Q I r h
 obtain⟨x,n,rfl,e,q⟩:=h
 obtain⟨u,rfl,rx⟩:=vals1 r
 have hl:=fL
 have hs:sizeLine=16777216:=sizeLine_eq
 cases x with
 |str y=>
  obtain⟨t,rfl⟩:=rx
  obtain⟨hy,e'⟩:y.length≤sizeLine∧n=y.length:=e
  subst e'
  exact len_str (by omega) ⟨.int _,H,I.tok _,⟨_,rfl⟩,q⟩
 |EY y=>
  obtain⟨t,rfl⟩:=rx
  obtain⟨hy,e'⟩:y.size≤sizeLine∧n=y.size:=e
  subst e'
  exact PySem.W.len_bytes (by omega) ⟨.int _,H,I.tok _,⟨_,rfl⟩,q⟩
 |ref p=>
  cases rx
  have e':(∃xs,ų X.K H p xs∧n=xs.length)∨∃xs,aZ X.K H p xs∧n=xs.length:=e
  rcases e' with⟨xs,hx,e'⟩|⟨xs,hx,e'⟩
  ·subst e'
   obtain⟨its,r',pl,hz⟩:=I.list hx
   have hlen:=r'.length
   exact Calls.call_len_list pl.isList (by simp only[List.size_toArray];omega) ⟨.int xs.length,H,I.tok _,⟨_,by simp only[List.size_toArray];rw[hlen]⟩,q⟩
  ·subst e'
   obtain⟨its,r',pl,hz⟩:=I.tuple hx
   have hlen:=r'.length
   exact len_tuple pl (by simp only[List.size_toArray];omega) ⟨.int xs.length,H,I.tok _,⟨_,by simp only[List.size_toArray];rw[hlen]⟩,q⟩
 |_=>exact(show False from e).elim
theorem nq:Ő X (.builtin "divmod") (fun xs H Q=>∃i j,xs=[.int i,.int j]∧KD i j∧∀p,H p=none→Q (.ref p) (upd H p (.tup [.int (i / j),.int (i % j)]))):=by
 intro pins s σ H xs us Q I r h
 obtain⟨i,j,rfl,⟨h1,h2⟩,q⟩:=h
 obtain⟨u,w',rfl,⟨t,rfl⟩,⟨t',rfl⟩⟩:=vals2 r
 refine divmod_int (by omega) ?_ (.inl (PyProof.noPylong_small (by omega)))
 rw[Int.fdiv_eq_ediv_of_nonneg i (by omega),Int.fmod_eq_emod_of_nonneg i (by omega)]
 have hn:H s.heap.objs.size=none:=I.hok.fresh (Nat.le_refl _)
 refine⟨.ref s.heap.objs.size,_,?_,rfl,q _ hn⟩
 refine I.laid (fun b o e=>Heap.get?_push_of_some _ e) (Nat.le_refl _) ⟨by simp only[List.length_cons,List.length_nil];rw[sizeLine_eq];decide,[.int (i / j) s.toks,.int (i % j) (s.toks+1)],.cons ⟨_,rfl⟩ (.cons ⟨_,rfl⟩ .nil),?_⟩
 exact⟨_,Heap.get?_push_size s.heap rfl,rfl,0,rfl⟩
end
end L2
namespace L2
open PySem PySem.Spec PyProof.Rows
structure Gh(h:Heap)(x dx C:Addr)(mA:Str→Option Value):Prop where
 obj:h.get? x=some (PySem.W.instObj C dx)
 ns:h.Ns1 dx mA
 ne:dx≠x
theorem t_{h:Heap}{dx:Addr}{mA:Str→Option Value}(n:h.Ns1 dx mA):∃od,h.get? dx=some od∧∀name,PySem.W.lookIn name od=some (mA name):=by
 obtain⟨o,es,ep,ho,hd,hk,_,hm⟩:=n
 refine⟨o,ho,fun name=>?_⟩
 have e:=hm name
 unfold nsFind findBy at e
 rw[←Array.find?_toList] at e
 unfold PySem.W.lookIn
 rw[hd]
 dsimp only
 split
 ·rename_i y q
  rw[q] at e
  exact congrArg some e
 ·rename_i q
  rw[q] at e
  have a:es.toList.any (·.refKey)=false:=by
   rw[List.any_eq_false]
   intro y hy
   obtain⟨z,t,hkey⟩:=hk y (Array.mem_toList_iff.mp hy)
   simp[DictEntry.refKey,hkey]
  have a':¬es.toList.any (·.refKey)=true:=by rw[a];exact Bool.false_ne_true
  rw[if_neg a']
  exact congrArg some e
theorem Gh.look{h:Heap}{x dx C:Addr}{mA:Str→Option Value}(I:Gh h x dx C mA):∃od,PySem.W.InstAt h x (PySem.W.instObj C dx) C (some od)∧∀name,PySem.W.lookIn name od=some (mA name):=
 let ⟨od,ho,hl⟩:=t_ I.ns
 ⟨od,⟨I.obj,rfl,rfl,ho⟩,hl⟩
section
variable{prog:Program}{w:World}{A:Around}{E:Value→Shared→Prop}{s:Shared}{K:PySem.W.Frag}{x dx C f:Addr}{mA:Str→Option Value}{name:Str}{v:Value}
end
section
variable{P:Program}{w:World}{H H':Hp}{h h':Heap}{a C dx:Addr}{fs fs':List (Str×V)}
theorem Bc(hok:dB P w H h)(e:H a=some (.ins C dx fs)):∃mA,Gh h a dx C mA∧(∀f,E_ (fs.lookup f) (mA f))∧PySem.Within mA (fs.map (·.1))∧fs.length≤1000∧H dx=some (.own a):=by
 obtain⟨d,z,ne,ob,mA,n,r,q⟩:=(show ũ P w H h a (.ins C dx fs) from hok a _ e)
 exact⟨mA,⟨ob,n,ne⟩,r,q,z,d⟩
end
structure Cls(K:PySem.W.Frag)(C:Addr):Prop where
 pg:PySem.W.plainGet K C Str.empty=true
 hd:PySem.W.hasDictIn K C=true
 po:PySem.W.plainOver K C=true
 sa:PySem.W.findIn K (.ref C) "__setattr__" =some (some (.builtin "object.__setattr__"))
theorem Cls.get{K:PySem.W.Frag}{C:Addr}(c:Cls K C)(f:Str):PySem.W.plainGet K C f=true:=c.pg
section
variable{X:Cx}{pins:List (Addr×Obj)}{σ:St}{H:Hp}{s:Shared}{a C dx:Addr}{fs:List (Str×V)}{f:Str}{v:V}{A:Around}{E:Value→Shared→Prop}
end
section
variable{X:Cx}{o e value:Expr}{f:Str}{pos pos' tpos:Pos}{ta tv:TE}
end
section
variable{X:Cx}{pins:List (Addr×Obj)}{σ:St}{H:Hp}{s:Shared}{A:Around}{E:Value→Shared→Prop}{Q:Value→Shared→Prop}{c:Value}{b:Bool}
inductive fM(K:PySem.W.Frag)(H:Hp):V→Value→Prop where
 |non:fM K H .non (.type "NoneType")
 |bl (x:Bool):fM K H (.bl x) (.type "bool")
 |int (i:Int):fM K H (.int i) (.type "int")
 |str (x:Str):fM K H (.str x) (.type "str")
 |flt (x:UInt64):fM K H (.flt x) (.type "float")
 |lst {a:Addr} {xs:List V} (e:H a=some (.lst xs)):fM K H (.ref a) (.type "list")
 |bC {a:Addr} {o:Obj} {xs:List V} (e:H a=some (.bC o (.lst xs))):fM K H (.ref a) (.type "list")
 |tup {a:Addr} {xs:List V} (e:H a=some (.tup xs)):fM K H (.ref a) (.type "tuple")
 |dK {a:Addr} {kvs:List (Key×V)} (e:H a=some (.dK kvs)):fM K H (.ref a) (.type "dict")
 |dT {a:Addr} {kvs:List (List Key×V)} (e:H a=some (.dT kvs)):fM K H (.ref a) (.type "dict")
 |ins {a C dx:Addr} {fs:List (Str×V)} (e:H a=some (.ins C dx fs)) (cl:Cls K C) (ha:PySem.W.findIn K (.ref C) "__class__" =some (some (.builtin "object.__class__")))
   (hn:PySem.W.specialIn K (.builtin "object.__class__") "__get__" =some (some (.builtin "getset_descriptor.__get__"))) (htk:PySem.W.takesIn K (.builtin "object.__class__")=some true)
   (hm:PySem.W.mroIn K C (.type "object")=some true):fM K H (.ref a) (.ref C)
theorem bD{x:V}{u t:Value}(I:Inv X pins σ H s)(rx:RelV x u)(ty:fM X.K H x t)(e:PySem.W.kitOne X.K t c=some b)(h:∀tk,Q (.bool b) {s with toks:=tk}) :
 wpAny (model X.prog X.w) A (call (.builtin "isinstance") [u,c]) Q E s:=by
 cases ty with
 |non=>cases(show u=Value.none from rx);exact PySem.W.kia_one PySem.W.kitx_none I.jz True.intro e (fun z=>nomatch z) h
 |bl y=>cases(show u=Value.bool y from rx);exact PySem.W.kia_one PySem.W.kitx_bool I.jz True.intro e (fun z=>nomatch z) h
 |int i=>obtain⟨t,q⟩:=(show ∃t,u=Value.int i t from rx);cases q;exact PySem.W.kia_one PySem.W.kitx_int I.jz True.intro e (fun z=>nomatch z) h
 |str y=>obtain⟨t,q⟩:=(show ∃t,u=Value.str y t from rx);cases q;exact PySem.W.kia_one PySem.W.kitx_str I.jz True.intro e (fun z=>nomatch z) h
 |flt y=>obtain⟨t,q⟩:=(show ∃t,u=Value.float y t from rx);cases q;exact PySem.W.kia_one PySem.W.kitx_float I.jz True.intro e (fun z=>nomatch z) h
 |@lst a xs ea=>
  cases(show u=Value.ref a from rx)
  obtain⟨_,_,n,_,h1⟩:=(show ũ X.prog X.w H s.heap a (.lst xs) from I.hok a _ ea)
  exact PySem.W.kia_one PySem.W.kitx_list I.jz ⟨_,h1,rfl⟩ e (fun z=>nomatch z) h
 |@bC a ob xs ea=>
  cases(show u=Value.ref a from rx)
  obtain⟨_,_,_,n,_,h1⟩:=(show ũ X.prog X.w H s.heap a (.bC ob (.lst xs)) from I.hok a _ ea)
  exact PySem.W.kia_one PySem.W.kitx_list I.jz ⟨_,h1,rfl⟩ e (fun z=>nomatch z) h
 |@tup a xs ea=>
  cases(show u=Value.ref a from rx)
  obtain⟨_,_,_,p⟩:=(show ũ X.prog X.w H s.heap a (.tup xs) from I.hok a _ ea)
  obtain⟨o,h1,h2,_⟩:=p
  exact PySem.W.kia_one PySem.W.kitx_tuple I.jz ⟨o,h1,h2⟩ e (fun z=>nomatch z) h
 |@dK a kvs ea=>
  cases(show u=Value.ref a from rx)
  obtain⟨_,_,vs,_,p⟩:=(show ũ X.prog X.w H s.heap a (.dK kvs) from I.hok a _ ea)
  obtain⟨o,es,ep,h1,h2,_⟩:=p
  exact PySem.W.kia_one PySem.W.kitx_dict I.jz ⟨o,h1,h2.1⟩ e (fun z=>nomatch z) h
 |@dT a kvs ea=>
  cases(show u=Value.ref a from rx)
  obtain⟨_,_,xs,_,o,es,ep,h1,h2,_⟩:=(show ũ X.prog X.w H s.heap a (.dT kvs) from I.hok a _ ea)
  exact PySem.W.kia_one PySem.W.kitx_dict I.jz ⟨o,h1,h2.1⟩ e (fun z=>nomatch z) h
 |@ins a C dx fs ea cl ha hn htk hm=>
  cases(show u=Value.ref a from rx)
  obtain⟨mA,O,_⟩:=Bc I.hok ea
  obtain⟨od,J,_⟩:=O.look
  exact PySem.W.kia_one (PySem.W.kitx_own (cl.get _) cl.hd ha hn htk hm) I.jz J e (fun z=>nomatch z) h
end
end L2
namespace L2
open PySem PySem.Spec PyProof.Rows
structure bU(k:Nat)(A:Around):Prop where
 hd:A.handled=none
 dp:A.depth+3*k+5<recursionLimit
 un:A.units+16*k+200<cLine
theorem bU.mono{j k:Nat}{A:Around}(r:bU k A)(h:j≤k):bU j A:=⟨r.hd,by have:=r.dp;omega,by have:=r.un;omega⟩
theorem bU.deeper{k:Nat}{A:Around}(r:bU (k+1) A)(env:Env):bU k (A.deeper env):=
 ⟨r.hd,by have:=r.dp;show A.depth+1+3*k+5<_;omega,by have:=r.un;show A.units+3+16*k+200<_;omega⟩
theorem bU.depth{k:Nat}{A:Around}(r:bU k A):A.depth<recursionLimit:=by have:=r.dp;omega
theorem bU.units{k:Nat}{A:Around}(r:bU k A):A.units+64<cLine:=by have:=r.un;omega
def KR:TA:=fun _ H Q=>Q [] H
def C_(ta:TE)(tr:TA):TA:=fun σ H Q=>ta σ H fun x H1=>tr σ H1 fun xs H2=>Q (x::xs) H2
section
variable{X:Cx}{e:Expr}{es:List Expr}{te:TE}{t:TA}{pos:Pos}
theorem dR:PA X [] KR:=fun _ _ _ _ H Q I h=>Calls.spliced_nil ⟨[],H,I,.nil,h⟩
theorem Ž(ha:PE X e te)(hr:PA X es t)(hs:starEach (e::es) X.env=(false,eval e X.env)::starEach es X.env:=by rfl):PA X (e::es) (C_ te t):=by
 intro pos pins s σ H Q I h
 rw[hs]
 show wpAny _ _ (spliced ((false,eval e X.env)::backTo pos (starEach es X.env))) _ _ s
 refine Calls.spliced_cons (Ť (ha pins s σ H _ I h) fun u s1 ⟨x,H1,I1,r1,q1⟩=>?_)
 exact Ť (hr pos pins s1 σ H1 _ I1 q1) fun us s2 ⟨xs,H2,I2,r2,q2⟩=>⟨x::xs,H2,I2,.cons r1 r2,q2⟩
def Wx(t:TA):TE:=fun σ H Q=>t σ H fun xs H1=>xs.length≤sizeLine∧∀p,H1 p=none→Q (.ref p) (upd H1 p (.tup xs))
def Wy(t:TA):TE:=fun σ H Q=>t σ H fun xs H1=>xs.length≤sizeLine∧∀p,H1 p=none→Q (.ref p) (upd H1 p (.lst xs))
theorem vB{x1}(h:PA X es t):PE X (.Tuple es x1 pos) (Wx t):=by
 intro pins s σ H Q I hq
 refine wpAny_Tuple_spliced (Ť (h pos pins s σ H _ I hq) fun us s1 ⟨xs,H1,I1,r,z,q⟩=>⟨by rw[←r.length];exact z,?_⟩)
 have hf:H1 s1.heap.objs.size=none:=I1.hok.fresh (Nat.le_refl _)
 refine⟨.ref s1.heap.objs.size,upd H1 s1.heap.objs.size (.tup xs),I1.laid (t':=s1.toks) (fun b u e=>Heap.get?_push_of_some _ e) (Nat.le_refl _) ?_,rfl,q _ hf⟩
 exact⟨z,us,r,⟨_,Heap.get?_push_size _ rfl,rfl,_,rfl⟩⟩
theorem Gi(h:PA X es t):PE X (.List es pos) (Wy t):=by
 intro pins s σ H Q I hq
 refine wpAny_List_spliced (Ť (h pos pins s σ H _ I hq) fun us s1 ⟨xs,H1,I1,r,z,q⟩=>⟨by rw[←r.length];exact z,?_⟩)
 have hf:H1 s1.heap.objs.size=none:=I1.hok.fresh (Nat.le_refl _)
 refine⟨.ref s1.heap.objs.size,upd H1 s1.heap.objs.size (.lst xs),I1.laid (t':=s1.toks) (fun b u e=>Heap.get?_push_of_some _ e) (Nat.le_refl _) ?_,rfl,q _ hf⟩
 exact⟨z,us,0,r,Heap.get?_push_size _ rfl⟩
end
abbrev Sp:=List V→Hp→VK→XK→Prop
abbrev jH:=List Env→Hp→Shared→XK→Value→Shared→Prop
structure Bd(P:Program)(w:World)(K:PySem.W.Frag)(mg:Str→Option Value)(base:Heap)(A:Around)(outer:List Env)(s:Shared)(H:Hp):Prop where
 frames:A.frames=some outer
 mod:Mod K mg base
 bs:∀b o,base.get? b=some o→s.heap.get? b=some o∧H b=none
 CQ:base.objs.size≤s.heap.objs.size
 iw:s.heap.FunFrames base outer
 JQ:∀b∈frs outer,H b=none
 hok:dB P w H s.heap
 bare:AllBare s.gens
def CE(outer:List Env)(P:Program)(w:World)(H:Hp)(s:Shared)(Q:VK)(u:Value)(s':Shared):Prop:=
 ∃v H',s'.os=s.os∧AllBare s'.gens∧Un (frs outer) [] H H' s.heap s'.heap∧dB P w H' s'.heap∧RelV v u∧Q v H'
def CR(CX:jH)(outer:List Env)(P:Program)(w:World)(H:Hp)(s:Shared)(Q:VK)(E:XK)(r:Result)(s':Shared):Prop:=
 match r with
 | .ok (.ret u)=>CE outer P w H s Q u s'
 | .ok _=>False
 | .error e=>CX outer H s E e s'
structure Œ(P:Program)(w:World)(K:PySem.W.Frag)(mg:Str→Option Value)(base:Heap)(CX:jH)(k:Nat)(f:Addr)(fd:FuncData)(ps:List Str)(sp:Sp):Prop where
 len:∀vs H Q E,sp vs H Q E→vs.length=ps.length
 run:∀(A:Around) (outer:List Env) (s:Shared) (H:Hp) (args:Args) (us:List Value) (vs:List V) (Q:VK) (E:XK),bU k A→Bd P w K mg base A outer s H→BindsTo s fd args (ps.zip us)→Vals vs us→sp vs H Q E→
  codeAny (model P w) A (.call (.ref f) args) (CR CX outer P w H s Q E) s
theorem Œ.imp{P:Program}{w:World}{K:PySem.W.Frag}{mg:Str→Option Value}{base:Heap}{CX:jH}{k:Nat}{f:Addr}{fd:FuncData}{ps:List Str}{sp sp':Sp}(F:Œ P w K mg base CX k f fd ps sp)
 (h:∀vs H Q E,sp' vs H Q E→sp vs H Q E):Œ P w K mg base CX k f fd ps sp':=
 ⟨fun vs H Q E q=>F.len vs H Q E (h _ _ _ _ q),fun A outer s H args us vs Q E hr he hb hv hs=>F.run A outer s H args us vs Q E hr he hb hv (h _ _ _ _ hs)⟩
section
variable{X:Cx}{pins:List (Addr×Obj)}{σ:St}{H:Hp}{s s':Shared}
theorem Inv.env0(I:Inv X pins σ H s):Bd X.prog X.w X.K X.mg X.base X.A X.stack s H:=
 ⟨I.ok.frames,I.ok.mod,I.bs,Nat.le_trans I.ok.CQ I.sz,I.stack,I.lE,I.hok,I.bare⟩
theorem Inv.after{Q:VK}{u:Value}(I:Inv X pins σ H s)(h:CE X.stack X.prog X.w H s Q u s'):EP X pins σ Q u s':=by
 obtain⟨v,H',os,bare,un,hok,r,q⟩:=h
 obtain⟨hh,g,d,t,os'⟩:=s'
 obtain rfl:os'=s.os:=os
 exact⟨v,H',I.call (h':=hh) (g':=g) (d':=d) (t':=t) (ch:=[]) un hok bare (fun b z=>absurd z (by simp)),r,q⟩
end
def Binds(K:PySem.W.Frag)(fd:FuncData)(ps:List Str)(ds:List Value):Prop:=
 ∀(s:Shared) (us:List Value),K.In s.heap→(us++ds).length=ps.length→BindsTo s fd ⟨us,[]⟩ (ps.zip (us++ds))
theorem Binds.all{K:PySem.W.Frag}{fd:FuncData}{ps:List Str}(h:∀us:List Value,us.length=ps.length→bindArgs fd ⟨us,[]⟩=pure (ps.zip us)):Binds K fd ps []:=fun s us _ hl=>by
 rw[List.append_nil] at hl ⊢
 exact .of_eq (h us hl)
section
variable{X:Cx}{CX:jH}{k:Nat}{f C:Addr}{fd:FuncData}{ps:List Str}{sp:Sp}{dvs:List V}{ds:List Value}{E:XK}{x m:Str}{p pos apos:Pos}{e o:Expr}{es:List Expr}{ta:TE}{t:TA}
end
section
variable{X:Cx}{CX:jH}{k:Nat}{f C:Addr}{fd:FuncData}{ps ks:List Str}{sp:Sp}{E:XK}{x m:Str}{p pos apos kpos:Pos}{e o:Expr}{es:List Expr}{kws:List Keyword}{te ta:TE}{t tk:TA}{nm:Option Str}
variable{g:List Value→List Value→List Value}{gV:List V→List V→List V}
end
structure ħ(N P:List Str)(sc:Scope):Prop where
 kind:sc.kind=.function
 co:sc.isCoroutine=false
 gen:sc.isGenerator=false
 nd:N.Nodup
 pre:N.take P.length=P
 par:∀x∈P,sc.names.lookup x=some .local∨sc.names.lookup x=some .cell
 Gj:∀y∈sc.names,y.2≠ .free
theorem jJ{kindOf:Str→Option NameKind}{x:Str}:∀{binds:List (Str×Value)} {m:Str→Option Value},(∀v,(x,v)∉binds)→bindL kindOf binds m x=m x
 | [],_,_=>rfl
 |(n,v)::r,m,h=>by
  unfold bindL
  rw[jJ fun w hw=>h w (List.mem_cons_of_mem _ hw)]
  split
  ·have:x≠n:=by rintro rfl;exact h v List.mem_cons_self
   simp[this]
  ·rfl
theorem jK{kindOf:Str→Option NameKind}{x:Str}:∀{binds:List (Str×Value)} {m:Str→Option Value},(∀v,(x,v)∉binds)→bindC kindOf binds m x=m x
 | [],_,_=>rfl
 |(n,v)::r,m,h=>by
  unfold bindC
  rw[jK fun w hw=>h w (List.mem_cons_of_mem _ hw)]
  split
  ·rfl
  ·have:x≠n:=by rintro rfl;exact h v List.mem_cons_self
   simp[this]
theorem jL{kindOf:Str→Option NameKind}{x:Str}{v:Value}:∀{P:List Str} {vs:List Value} {i:Nat} {m:Str→Option Value},P.Nodup→P[i]?=some x→vs[i]?=some v→kindOf x=some .local→
 bindL kindOf (P.zip vs) m x=some v
 | [],_,_,_,_,h,_,_=>by simp at h
 |_::_,[],_,_,_,_,h,_=>by simp at h
 |p::P,w::vs,0,m,nd,h1,h2,hk=>by
  simp at h1 h2;subst h1;subst h2
  show bindL kindOf ((p,w)::P.zip vs) m p=_
  unfold bindL
  rw[jJ fun v hv=>(List.nodup_cons.mp nd).1 (List.of_mem_zip hv).1,if_pos hk]
  simp
 |p::P,w::vs,i+1,m,nd,h1,h2,hk=>by
  show bindL kindOf ((p,w)::P.zip vs) m x=_
  unfold bindL
  exact jL (i:=i) (List.nodup_cons.mp nd).2 (by simpa using h1) (by simpa using h2) hk
theorem jM{kindOf:Str→Option NameKind}{x:Str}{v:Value}:∀{P:List Str} {vs:List Value} {i:Nat} {m:Str→Option Value},P.Nodup→P[i]?=some x→vs[i]?=some v→kindOf x≠some .local→
 bindC kindOf (P.zip vs) m x=some v
 | [],_,_,_,_,h,_,_=>by simp at h
 |_::_,[],_,_,_,_,h,_=>by simp at h
 |p::P,w::vs,0,m,nd,h1,h2,hk=>by
  simp at h1 h2;subst h1;subst h2
  show bindC kindOf ((p,w)::P.zip vs) m p=_
  unfold bindC
  rw[jK fun v hv=>(List.nodup_cons.mp nd).1 (List.of_mem_zip hv).1,if_neg hk]
  simp
 |p::P,w::vs,i+1,m,nd,h1,h2,hk=>by
  show bindC kindOf ((p,w)::P.zip vs) m x=_
  unfold bindC
  exact jM (i:=i) (List.nodup_cons.mp nd).2 (by simpa using h1) (by simpa using h2) hk
def start(N:List Str)(vs:List V):St:=vs.map some++List.replicate (N.length-vs.length) none
def aO(CX:jH)(P:Program)(w:World)(K:PySem.W.Frag)(mg:Str→Option Value)(base:Heap)(N:List Str)(qual:Str)(scope:Scope)(f:Addr)(cd:Value)(A:Around)(outer:List Env)(s:Shared)(H:Hp)(E:XK):Cx where
 prog:=P
 w:=w
 K:=K
 mg:=mg
 base:=base
 A:=A.deeper (envOfC qual scope s.heap.objs.size f cd)
 N:=N
 s₀:= s
 H₀:= H
 env:=envOfC qual scope s.heap.objs.size f cd
 outer:=outer
 stack:=envOfC qual scope s.heap.objs.size f cd::outer
 ex:=[]
 calm:=true
 fn:=fun _=>true
 pn:=[]
 xe:=fun e s'=>wpAny (model P w) (A.deeper (envOfC qual scope s.heap.objs.size f cd)) (leaving (envOfC qual scope s.heap.objs.size f cd) e) (fun _ s''=>CX outer H s E e s'') (fun e' s''=>CX outer H s E e' s'') s'
theorem eU{sc:Scope}{n:Nat}{x:Str}(h:sc.names.lookup x=some .cell):∃c,(cellsFrom n sc.names []).lookup x=some c:=by
 have q:=PySem.W.cellsFrom_some sc.names n [] (.inl h)
 exact Option.isSome_iff_exists.mp q
theorem uc{CX:jH}{P:Program}{w:World}{K:PySem.W.Frag}{mg:Str→Option Value}{base:Heap}{N ps:List Str}{qual:Str}{scope:Scope}{f:Addr}{cd:Value}{A:Around}{outer:List Env}{s s1:Shared}{H:Hp}{E:XK}{us:List Value}{vs:List V}
 (S:ħ N ps scope)(hd:A.handled=none)(e0:Bd P w K mg base A outer s H)(hl:vs.length=ps.length)(r:Vals vs us)
 (x:InCallC s s.heap.objs.size (bindL (envOfC qual scope s.heap.objs.size f cd).kindOf (ps.zip us) fun _=>none) (cellsFrom (s.heap.objs.size+1) scope.names []) (bindC (envOfC qual scope s.heap.objs.size f cd).kindOf (ps.zip us) fun _=>none) s1) :
 Inv (aO CX P w K mg base N qual scope f cd A outer s H E) [] (start N vs) H s1:=by
 have hpl:ps.length≤N.length:=by have:=congrArg List.length S.pre;rw[List.length_take] at this;omega
 obtain⟨h1,tk,rfl,hk⟩:=x.done
 have KY:∀b:Addr,b∉(aO CX P w K mg base N qual scope f cd A outer s H E).ex:=fun b z=>absurd (show b∈([]:List Addr) from z) (by simp)
 refine⟨⟨e0.mod,S.kind,rfl,rfl,Nat.le_refl _,fun y z c h1 h2=>?_,fun y hy=>?_,fun y c _ h=>?_,fun _=>hd,Around.frames_deeper e0.frames,.inr ⟨rfl,rfl⟩,fun b z=>absurd z (KY b),e0.bs,e0.CQ,fun b _ _=>KY b,fun b z=>absurd z (KY b),e0.iw,e0.JQ⟩,
  rfl,e0.bare,Un.kept hk,⟨_,x.toInCall.ns,fun i y v h1 h2 h3=>?_⟩,fun y c h=>⟨_,x.cell y c h⟩,e0.hok.fresh (Nat.le_refl _),fun y c h=>?_,fun p hp=>absurd (show p∈([]:List (Addr×Obj)) from hp) (by simp),e0.hok.kept hk,?_⟩
 ·exact name_of_addr x.apart (PySem.mem_of_lookup h1) (PySem.mem_of_lookup h2)
 ·have hy:scope.names.lookup y=some .cell∨scope.names.lookup y=some .free:=hy
  rcases hy with hy|hy
  ·exact eU hy
  ·exact absurd rfl (S.Gj _ (PySem.mem_of_lookup hy))
 ·exact Nat.le_of_lt (x.above y c (PySem.mem_of_lookup h))
 ·have hi:i<vs.length:=by
   unfold start at h2
   by_cases hi:i<vs.length
   ·exact hi
   ·rw[List.getElem?_append_right (by simpa using hi)] at h2
    rw[List.getElem?_replicate] at h2
    split at h2<;>cases h2
  have ha:vs[i]?=some v:=by
   unfold start at h2
   rw[List.getElem?_append_left (by simpa using hi),List.getElem?_map] at h2
   cases e:vs[i]? with
   |none=>rw[e] at h2;cases h2
   |some a=>rw[e] at h2;cases h2;rfl
  obtain⟨u,hu,rv⟩:=r.get ha
  have hp:ps[i]?=some y:=by
   rw[←S.pre,List.getElem?_take_of_lt (by omega)];exact h1
  have ndP:ps.Nodup:=by rw[←S.pre];exact S.nd.sublist (List.take_sublist _ _)
  refine⟨u,rv,?_⟩
  rcases S.par y (List.mem_of_getElem? hp) with k|k
  ·exact .inl ⟨k,jL ndP hp hu k⟩
  ·obtain⟨c,e⟩:=eU (n:=s.heap.objs.size+1) k
   refine .inr ⟨.inl k,c,e,?_⟩
   have q:=x.cell y c e
   rw[jM ndP hp hu (by show scope.names.lookup y≠_;rw[k];decide)] at q
   exact q
 ·exact e0.hok.fresh (Nat.le_of_lt (x.above y c (PySem.mem_of_lookup h)))
 ·unfold start
  show _=N.length
  rw[List.length_append,List.length_map,List.length_replicate]
  omega
theorem KZ{CX:jH}{P:Program}{w:World}{K:PySem.W.Frag}{mg:Str→Option Value}{base:Heap}{k:Nat}{f:Addr}{name qual:Str}{params:Arguments}{body:List Stmt}{scope:Scope}{dV kV doc pm cdv ct oc:Value}{an od:Option Addr}
 {osl:Array (Option Value)}{N ps:List Str}{sp:Sp}(lk:K.lookup f=some ⟨oc,od,.func (PySem.W.fnOf name qual params body scope dV kV doc pm an cdv ct),osl⟩)(hcd:PySem.W.codeIn K cdv qual=true)(S:ħ N ps scope)
 (len:∀vs H Q E,sp vs H Q E→vs.length=ps.length)
 (hbody:∀(A:Around) (outer:List Env) (s:Shared) (H:Hp) (vs:List V) (Q:VK) (E:XK),bU k (A.deeper (envOfC qual scope s.heap.objs.size f cdv))→sp vs H Q E→
   ∃t,gQ (aO CX P w K mg base N qual scope f cdv A outer s H E) body t∧t {nx:=fun _ H'=>Q .non H',rt:=Q} (start N vs) H) :
 Œ P w K mg base CX (k+1) f (PySem.W.fnOf name qual params body scope dV kV doc pm an cdv ct) ps sp:=by
 refine⟨len,fun A outer s H args us vs Q E hr e0 hb r hsp=>?_⟩
 have hl:=len _ _ _ _ hsp
 have KX:K.In s.heap:=e0.mod.Tc.keeps fun b o e=>(e0.bs b o e).1
 have lim:s.heap.NoLimit:=e0.mod.nolimit.keeps fun b o e=>(e0.bs b o e).1
 have hkind:∀y∈ps.zip us,scope.names.lookup y.1=some .local∨(scope.names.lookup y.1=some .cell∧((cellsFrom (s.heap.objs.size+1) scope.names []).lookup y.1).isSome=true):=fun⟨n,v⟩ hy=>by
  rcases S.par n (List.of_mem_zip hy).1 with q|q
  ·exact .inl q
  ·exact .inr ⟨q,PySem.W.cellsFrom_some _ _ _ (.inl q)⟩
 refine codeAny_call_function hr.depth (KX _ _ lk) rfl S.co S.gen rfl (PySem.W.codeRec_of KX hcd) (hb _ _ _ _ ?_)
 refine wpAny_newFunctionEnv_cells S.kind hkind fun env he s1 x=>?_
 subst he
 refine⟨lim.keeps x.toInCall.keep,codeAny_func ?_⟩
 obtain⟨t,ht,hq⟩:=hbody A outer s H vs Q E (hr.deeper _) hsp
 have I:Inv (aO CX P w K mg base N qual scope f cdv A outer s H E) [] (start N vs) H s1:=uc S hr.hd e0 hl r x
 refine wpAny_mono (ht [] s1 (start N vs) H _ I hq) (fun fl s' hs=>?_) fun e s' hs=>hs
 have fin:∀{σ':St} {H':Hp} {v:V} {u:Value},Inv (aO CX P w K mg base N qual scope f cdv A outer s H E) [] σ' H' s'→RelV v u→Q v H'→CE outer P w H s Q u s':=
  fun{σ' H' v u} J rv q=>⟨v,H',J.os,J.bare,J.base,J.hok,rv,q⟩
 cases fl with
 |ret u=>
  obtain⟨v,σ',H',J,rv,q⟩:=hs
  exact fin J rv q
 |next=>
  obtain⟨σ',H',J,q⟩:=hs
  exact fin (v:=V.non) (u:=Value.none) J rfl q
 |brk=>
  obtain⟨_,_,_,q⟩:=hs
  exact False.elim q
 |cont=>
  obtain⟨_,_,_,q⟩:=hs
  exact False.elim q
end L2
namespace L2
open PySem PySem.Spec PyProof.Rows
section
variable{X:Cx}{x:Str}{p pos:Pos}{e:Expr}{es:List Expr}{t:TA}{id T:String}{r:List V→Hp→VK→Prop}
def Tj(r:List V→Hp→VK→Prop)(t:TA):TE:=fun σ H Q=>t σ H fun vs H1=>r vs H1 Q
theorem Ē(hc:Ő X (.builtin id) r)(hg:Gl X x)(hm:X.mg x=none)(hv:bootBuiltins x=some (.builtin id))(ha:PA X (e::es) t)(hn:x≠ "__name__" := by decide)(hdb:(x== ("__debug__" :Str))=false:=by decide)
 (he:starEach (e::es) X.env=(false,eval e X.env)::starEach es X.env:=by rfl)(hpl:(backTo pos (starEach es X.env)).any (·.1)=false:=by rfl):PE X (.Call (.Name x p) (e::es) [] pos) (Tj r t):=by
 intro pins s σ H Q I h
 refine wpAny_Call_Name_kw (iz I hg hm hv ?_ hn hdb)
 exact PyProof.Rows.callWith_builtin1 (Ť (ha pos pins s σ H _ I h) fun us s1 ⟨vs,H1,I1,r1,q1⟩=>hc pins s1 σ H1 vs us Q I1 r1 q1) he hpl
theorem bF(hc:Ő X (.type T) r)(hg:Gl X x)(hm:X.mg x=none)(hv:bootBuiltins x=some (.type T))(ha:PA X (e::es) t)(hn:x≠ "__name__" := by decide)(hdb:(x== ("__debug__" :Str))=false:=by decide)
 (he:starEach (e::es) X.env=(false,eval e X.env)::starEach es X.env:=by rfl)(hpl:(backTo pos (starEach es X.env)).any (·.1)=false:=by rfl):PE X (.Call (.Name x p) (e::es) [] pos) (Tj r t):=by
 intro pins s σ H Q I h
 refine wpAny_Call_Name_kw (iz I hg hm hv ?_ hn hdb)
 exact PyProof.Rows.callWith_type1 (Ť (ha pos pins s σ H _ I h) fun us s1 ⟨vs,H1,I1,r1,q1⟩=>hc pins s1 σ H1 vs us Q I1 r1 q1) he hpl
end
end L2
namespace HT
open PySem PyProof.Rows
section
open PySem.SeqAt
open PySem.AutoSeq1 (wpAny_loadPart')
open PySem.MeetsSeq PySem.MeetsSeq2 PySem.MeetsSeq3
end
section
variable{prog:Program}{w:World}{A:Around}{E:Value→Shared→Prop}{s:Shared}
def Wz(n d:Nat):Option Int→Nat
 |none=>d
 |some v=>if v<0 then(v+(n:Int)).toNat else min v.toNat n
end
end HT
namespace L2
open PySem PySem.Spec PyProof.Rows
abbrev TO:=St→Hp→(Option Int→Hp→Prop)→Prop
def PO(X:Cx)(e:Option Expr)(t:TO):Prop:=
 ∀(pins:List (Addr×Obj)) (s:Shared) (σ:St) (H:Hp) (Q:Option Int→Hp→Prop),Inv X pins σ H s→t σ H Q→
  wpAny (model X.prog X.w) X.A (evalPart e X.env) (fun u s'=>∃o H',Inv X pins σ H' s'∧IsPart u o∧Q o H') X.xe s
def Dc(t:TE):TO:=fun σ H Q=>t σ H fun x H1=>∃i,x=.int i∧Q (some i) H1
section
variable{X:Cx}{e:Expr}{te:TE}{lo hi:Option Expr}{tl th:TO}{pos p2:Pos}
theorem Bf(h:PE X e te):PO X (some e) (Dc te):=by
 intro pins s σ H Q I hw
 rw[evalPart_some]
 refine Ť (h pins s σ H _ I hw) fun u s1 ⟨x,H1,I1,r1,q1⟩=>?_
 obtain⟨i,rfl,q⟩:=q1
 obtain⟨t,rfl⟩:=r1
 exact⟨some i,H1,I1,.int i t,q⟩
end
end L2
namespace L2
open PySem PySem.Spec PyProof.Rows
def o_(n:Nat)(i:Int):Option Nat:=if 0≤i then(if i<n then some i.toNat else none) else if -(n:Int)≤i then some (i+n).toNat else none
def dj{α:Type}(xs:List α)(i:Int):Option α:= (o_ xs.length i).bind fun j=>xs[j]?
theorem qW{n:Nat}{i:Int}{j:Nat}(h:o_ n i=some j):seqIndex? i n=some j∧j<n∧ -(n:Int)≤i∧i<n:=by
 unfold o_ at h
 by_cases h0:0≤i
 ·rw[if_pos h0] at h
  by_cases h1:i<n
  ·rw[if_pos h1] at h
   have e:i.toNat=j:=Option.some.inj h
   exact⟨by rw[seqIndex_of h0 h1,e],by omega,by omega,h1⟩
  ·rw[if_neg h1] at h;cases h
 ·rw[if_neg h0] at h
  by_cases h1: -(n:Int)≤i
  ·rw[if_pos h1] at h
   have e:(i+n).toNat=j:=Option.some.inj h
   exact⟨by rw[seqIndex_neg (by omega) h1,e],by omega,h1,by omega⟩
  ·rw[if_neg h1] at h;cases h
theorem lF{α:Type}{xs:List α}{i:Int}{v:α}(h:dj xs i=some v):∃j,seqIndex? i xs.length=some j∧xs[j]?=some v∧j<xs.length∧ -(xs.length:Int)≤i∧i<xs.length:=by
 unfold dj at h
 cases e:o_ xs.length i with
 |none=>rw[e] at h;cases h
 |some j=>
  rw[e] at h
  obtain⟨h1,h2,h3,h4⟩:=qW e
  exact⟨j,h1,h,h2,h3,h4⟩
def qX(b:Expr):Prop:=∀o i,subscripted b false o i=operate [o,i] (getItem o i)
def pJ(X:Cx)(r:R2):Prop:=
 ∀(value slice:Expr) (pins:List (Addr×Obj)) (s:Shared) (σ:St) (H:Hp) (x y:V) (v u:Value) (Q:VK),Inv X pins σ H s→RelV x v→RelV y u→r x y H Q→
  subscripted slice false v u=operate [v,u] (getItem v u)→wpAny (model X.prog X.w) X.A (subscriptTail value slice v u) (EP X pins σ Q) X.xe s
def MtR(X:Cx)(id:String)(r:V→List V→Hp→VK→Prop):Prop:=
 ∀(pins:List (Addr×Obj)) (s:Shared) (σ:St) (H:Hp) (x:V) (xs:List V) (v:Value) (us:List Value) (Q:VK),Inv X pins σ H s→RelV x v→Vals xs us→r x xs H Q→
  wpAny (model X.prog X.w) X.A (call (.builtin id) (v::us)) (EP X pins σ Q) X.xe s
section
variable{X:Cx}{a b:Expr}{ta tb:TE}{pos:Pos}
theorem pJ.or{r r':R2}(h:pJ X r)(h':pJ X r'):pJ X (fun x y H Q=>r x y H Q∨r' x y H Q):=by
 intro value slice pins s σ H x y v u Q I rx ry q hs
 rcases q with q|q
 ·exact h value slice pins s σ H x y v u Q I rx ry q hs
 ·exact h' value slice pins s σ H x y v u Q I rx ry q hs
theorem Dd{r:R2}(hr:pJ X r)(ha:PE X a ta)(hb:PE X b tb)(hs:qX b):PE X (.Subscript a b pos) (FJ r ta tb):=by
 intro pins s σ H Q I h
 exact Subscript_ (FP ha hb I h fun v u s2 x y H2 I2 rx ry q=>hr a b pins s2 σ H2 x y v u Q I2 rx ry q (hs _ _))
def K_(K:PySem.W.Frag):R2:=fun x y H Q=>∃p xs i v,x=.ref p∧y=.int i∧ų K H p xs∧dj xs i=some v∧Q v H
def La(K:PySem.W.Frag):R2:=fun x y H Q=>∃p xs i v,x=.ref p∧y=.int i∧aZ K H p xs∧dj xs i=some v∧Q v H
def Lb:R2:=fun x y H Q=>∃z i c,x=.str z∧y=.int i∧z.length≤sizeLine∧dj z.cps.toList i=some c∧Q (.str ⟨#[c]⟩) H
theorem Bg:pJ X (K_ X.K):=by
 intro value slice pins s σ H x y v u Q I rx ry h hs
 obtain⟨p,xs,i,z,rfl,rfl,hq,he,q⟩:=h
 cases rx
 obtain⟨t,rfl⟩:=ry
 obtain⟨its,r,pl,hz⟩:=I.list hq
 obtain⟨j,h1,h2,h3,h4,h5⟩:=lF he
 obtain⟨w,ew,Ky⟩:=r.get h2
 have hl:=r.length
 have hn:=fL
 have fin:EP X pins σ Q w s:=⟨z,H,I,Ky,q⟩
 by_cases h0:0≤i
 ·have hj:i.toNat=j:=by
   rw[seqIndex_of h0 h5] at h1
   exact Option.some.inj h1
  exact item_listR pl.isList h0 (by omega) (by rw[hj];simpa using ew) fin hs
 ·have hj:(i+(its.toArray.size:Int)).toNat=j:=by
   rw[seqIndex_neg (by omega) h4] at h1
   rw[List.size_toArray,←hl]
   exact Option.some.inj h1
  exact subscriptTail_builtinR (x:=w) pl.isList.typeIs slot_list_getitem.lookup
   (wpAny_getItem_list_neg (Q:=fun r s'=>r=w∧EP X pins σ Q r s') pl.isList (by omega) (by rw[List.size_toArray]<;>omega) (by omega) (by rw[hj];simpa using ew) ⟨rfl,fin⟩) hs
theorem Gk:pJ X (La X.K):=by
 intro value slice pins s σ H x y v u Q I rx ry h hs
 obtain⟨p,xs,i,z,rfl,rfl,hq,he,q⟩:=h
 cases rx
 obtain⟨t,rfl⟩:=ry
 obtain⟨its,r,pl,hz⟩:=I.tuple hq
 obtain⟨j,h1,h2,h3,h4,h5⟩:=lF he
 obtain⟨w,ew,Ky⟩:=r.get h2
 have hl:=r.length
 have hn:=fL
 have fin:EP X pins σ Q w s:=⟨z,H,I,Ky,q⟩
 exact subscriptTail_builtinR (x:=w) pl.typeIs slot_tuple_getitem.lookup
  (getItem_tuple (j:=j) (Q:=fun r s'=>r=w∧EP X pins σ Q r s') pl (by omega) (by omega) (by rw[List.size_toArray,←hl];exact h1) (by simpa using ew) ⟨rfl,fin⟩) hs
theorem Gm:pJ X Lb:=by
 intro value slice pins s σ H x y v u Q I rx ry h hs
 obtain⟨z,i,c,rfl,rfl,hz,he,q⟩:=h
 obtain⟨t,rfl⟩:=rx
 obtain⟨t',rfl⟩:=ry
 obtain⟨j,h1,h2,h3,h4,h5⟩:=lF he
 have hl:z.cps.toList.length=z.length:=by simp[Str.length]
 rw[hl] at h1 h4 h5
 have hn:=fL
 exact tail_any (typeIs_str s z t) slot_str_getitem.lookup (getItem_str (c:=c) (by
  have e1:decide (i < -(2 ^ 63:Int))=false:=decide_eq_false (by omega)
  have e2:decide (i ≥ 2 ^ 63)=false:=decide_eq_false (by omega)
  rw[e1,e2,Bool.or_false]) (by rw[h1];simpa using h2) ⟨.str ⟨#[c]⟩,H,I.tok _,⟨_,rfl⟩,q⟩) hs
def rIx(K:PySem.W.Frag):R2:=fun x y H Q=>K_ K x y H Q∨La K x y H Q∨Lb x y H Q
theorem vC:pJ X (rIx X.K):=Bg.or (Gk.or Gm)
theorem pK(its:List Value)(n j:Nat)(u:Value):Obj.mapSeq (·.setIfInBounds j u) {cls:=.type "list",data:=.seq its.toArray n}= {cls:=.type "list",data:=.seq (its.set j u).toArray n}:=by
 simp[Obj.mapSeq]
theorem Inv.lst{pins:List (Addr×Obj)}{σ:St}{H:Hp}{s:Shared}{p:Addr}{xs:List V}(I:Inv X pins σ H s)(h:H p=some (.lst xs)) :
 ∃(its:List Value) (n:Nat),Vals xs its∧s.heap.get? p=some {cls:=.type "list",data:=.seq its.toArray n}∧xs.length≤sizeLine:=by
 obtain⟨z,its,n,r,e⟩:=I.hok p _ h
 exact⟨its,n,r,e,z⟩
theorem Inv.Gn{pins:List (Addr×Obj)}{σ:St}{H:Hp}{s:Shared}{p:Addr}{xs ys:List V}{its its':List Value}{n n':Nat}{f:Obj→Obj}(I:Inv X pins σ H s)(h:H p=some (.lst xs))
 (ho:s.heap.get? p=some {cls:=.type "list",data:=.seq its.toArray n})(hf:f {cls:=.type "list",data:=.seq its.toArray n}= {cls:=.type "list",data:=.seq its'.toArray n'})(r:Vals ys its')(hz:ys.length≤sizeLine)(t:Nat) :
 Inv X pins σ (upd H p (.lst ys)) {s with heap:=s.heap.update p f,toks:=t}:=by
 have e:(s.heap.update p f).get? p=some {cls:=.type "list",data:=.seq its'.toArray n'}:=by
  rw[Heap.get?_update_self f ho (by rw[hf]<;>rfl),hf]
 refine I.write (x:=p) (e:=p) (by rw[h];trivial) (.inl rfl) (fun b u hb q=>(Heap.get?_update_other _ _ (Ne.symm hb)).trans q) ⟨_,e⟩ ?_
 exact⟨hz,its',n',r,e⟩
def Ld:V→V→V→Hp→(Hp→Prop)→Prop:=fun o i v H Q=>∃p xs k j,o=.ref p∧i=.int k∧H p=some (.lst xs)∧o_ xs.length k=some j∧Q (upd H p (.lst (xs.set j v)))
theorem set_list:Ks X Ld:=by
 intro pins s σ H o i v ov iv u Q I ro ri rv h
 obtain⟨p,xs,k,j,rfl,rfl,hp,hj,q⟩:=h
 cases ro
 obtain⟨t,rfl⟩:=ri
 obtain⟨its,n,r,ho,hz⟩:=I.lst hp
 obtain⟨h1,h2,h3,h4⟩:=qW hj
 have hl:=r.length
 have hn:=fL
 have I':Inv X pins σ (upd H p (.lst (xs.set j v))) {s with heap:=s.heap.update p (Obj.mapSeq (·.setIfInBounds j u))}:=
  I.Gn hp ho (pK its n j u) (r.set rv j) (by rw[List.length_set];exact hz) s.toks
 by_cases h0:0≤k
 ·have hk:k.toNat=j:=by
   rw[seqIndex_of h0 h4] at h1
   exact Option.some.inj h1
  exact PySem.W.ki_setAt ho h0 (by omega) (by rw[List.size_toArray,←hl];exact h4) (by rw[hk];exact⟨_,I',q⟩)
 ·have hk:(k+(its.toArray.size:Int)).toNat=j:=by
   rw[seqIndex_neg (by omega) h3] at h1
   rw[List.size_toArray,←hl]
   exact Option.some.inj h1
  exact PySem.W.ki_setBack ho (by omega) (by rw[List.size_toArray,←hl];exact h3) (by omega) (by rw[hk];exact⟨_,I',q⟩)
theorem lG:Ő X (.type "list") (fun xs H Q=>∃p ys,xs=[.ref p]∧(ų X.K H p ys∨aZ X.K H p ys)∧∀l,H l=none→Q (.ref l) (upd H l (.lst ys))):=by
 intro pins s σ H xs us Q I r h
 obtain⟨p,ys,rfl,hq,q⟩:=h
 obtain⟨u,rfl,rx⟩:=vals1 r
 cases rx
 have fin:∀(its:List Value),Vals ys its→ys.length≤sizeLine→∀(h':Heap) (c':Nat),(∀b o',s.heap.get? b=some o'→h'.get? b=some o')→
  h'.get? s.heap.objs.size=some {cls:=.type "list",dict:=none,data:=.seq its.toArray c',slots:=#[]}→EP X pins σ Q (.ref s.heap.objs.size) {s with heap:=h'}:=fun its r' hz h' c' kp e=>
  ⟨.ref s.heap.objs.size,_,I.laid (t':=s.toks) kp (Nat.le_refl _) (show ũ X.prog X.w _ h' _ (.lst ys) from⟨hz,its,c',r',e⟩),rfl,q _ (I.hok.fresh (Nat.le_refl _))⟩
 rcases hq with hq|hq
 ·obtain⟨its,r',pl,hz⟩:=I.list hq
  have hlen:=r'.length
  obtain⟨o,ho,hc,n,hd⟩:=pl.isList
  exact call_list_seq p (.inl rfl) ho hc hd (fun h' c' kp e=>fin its r' hz h' c' kp e) (by simp only[List.size_toArray]<;>omega)
 ·obtain⟨its,r',pl,hz⟩:=I.tuple hq
  have hlen:=r'.length
  obtain⟨o,ho,hc,n,hd⟩:=pl
  exact call_list_seq p (.inr rfl) ho hc hd (fun h' c' kp e=>fin its r' hz h' c' kp e) (by simp only[List.size_toArray]<;>omega)
def tyV(K:PySem.W.Frag)(T:String)(x:V)(H:Hp):Prop:=match x with
 | .str _=>T= "str"
 | .int _=>T= "int"
 | .ref p=>(T= "list" ∧∃xs,ų K H p xs)∨(T= "tuple" ∧∃o,K.lookup p=some o∧o.cls=.type "tuple" ∧o.dict=none)∨
     (T= "dict" ∧((∃kvs,H p=some (.dK kvs))∨∃kvs,H p=some (.dT kvs)))∨(T= "set" ∧∃S n,H p=some (.set S n))
 |_=>False
theorem Gp{pins:List (Addr×Obj)}{σ:St}{H:Hp}{s:Shared}{T:String}{x:V}{v:Value}(I:Inv X pins σ H s)(r:RelV x v)(ty:tyV X.K T x H) :
 s.TypeIs v T∧∀a,v=.ref a→∃ob,s.heap.get? a=some ob∧ob.dict=none:=by
 cases x with
 |str z=>
  obtain⟨t,rfl⟩:=r
  cases(show T= "str" from ty)
  exact⟨typeIs_str s z t,fun _ e=>nomatch e⟩
 |int i=>
  obtain⟨t,rfl⟩:=r
  cases(show T= "int" from ty)
  exact⟨typeIs_int s i t,fun _ e=>nomatch e⟩
 |ref p=>
  cases r
  rcases ty with⟨rfl,xs,hq⟩|⟨rfl,o,hk,hc,hd⟩|⟨rfl,hk⟩|⟨rfl,S,n,hk⟩
  ·obtain⟨its,_,pl,_⟩:=I.list hq
   refine⟨pl.isList.typeIs,fun a e=>?_⟩
   cases e
   obtain⟨o,n,e,c,hd,_⟩:=pl
   exact⟨o,e,hd⟩
  ·refine⟨⟨o,I.jz p o hk,hc⟩,fun a e=>?_⟩
   cases e
   exact⟨o,I.jz _ o hk,hd⟩
  ·have z:∃o,s.heap.get? p=some o∧o.ExactDict:=by
    rcases hk with⟨kvs,hk⟩|⟨kvs,hk⟩
    ·obtain⟨_,_,_,_,o,_,_,e,ex,_⟩:=I.hok p _ hk
     exact⟨o,e,ex⟩
    ·obtain⟨_,_,_,_,o,_,_,e,ex,_⟩:=I.hok p _ hk
     exact⟨o,e,ex⟩
   obtain⟨o,e,ex⟩:=z
   refine⟨⟨o,e,ex.1⟩,fun a e2=>?_⟩
   cases e2
   exact⟨o,e,ex.2.1⟩
  ·obtain⟨o,_,_,_,e,ex,_⟩:=I.hok p _ hk
   refine⟨⟨o,e,ex.1⟩,fun a e2=>?_⟩
   cases e2
   exact⟨o,e,ex.2.1⟩
 |_=>exact False.elim ty
def Tn(K:PySem.W.Frag)(T:String)(r:V→List V→Hp→VK→Prop)(to:TE)(t:TA):TE:=fun σ H Q=>to σ H fun x H1=>tyV K T x H1∧t σ H1 fun xs H2=>r x xs H2 Q
variable{o e:Expr}{es:List Expr}{to:TE}{t:TA}{name:Str}{apos cpos:Pos}{T id:String}{r:V→List V→Hp→VK→Prop}
theorem iG(pa:PlainAttrs T)(slot:Slot T name id)(hty:typeOf (.builtin id)=pure (.type "method_descriptor"))(hm:MtR X id r)(ho:PE X o to)(ha:PA X (e::es) t)
 (hbase:attributeBase o name X.env (eval o X.env)=eval o X.env:=by rfl)
 (hfew:((backTo cpos (starEach (e::es) X.env)).all (fun x=>!x.1) && (backToKw cpos (keywordEach [] X.env)).all (fun x=>x.1.isSome)
   && decide ((e::es).length+([]:List Keyword).length+(if([]:List Keyword).isEmpty then 0 else 1)<30))=true:=by rfl)
 (hline:(apos.endLine== cpos.line)=true:=by rfl)(hs:starEach (e::es) X.env=(false,eval e X.env)::starEach es X.env:=by rfl)(hplain:(backTo cpos (starEach es X.env)).any (·.1)=false:=by rfl) :
 PE X (.Call (.Attribute o name apos) (e::es) [] cpos) (Tn X.K T r to t):=by
 intro pins s σ H Q I h
 refine wpAny_Call_method_late hbase hfew hline rfl (Ť (ho pins s σ H _ I h) fun v s1 ⟨x,H1,I1,r1,ty,q1⟩=>?_)
 obtain⟨h1,h2⟩:=Gp I1 r1 ty
 refine⟨T,id,pa,slot,hty,h1,h2,?_⟩
 have hA:=ha cpos pins s1 σ H1 _ I1 q1
 rw[hs] at hA ⊢
 refine Calls.callWith_builtin (by show(false || (backTo cpos (starEach es X.env)).any (·.1))=false;rw[hplain]<;>rfl) (Calls.evalArgs_plain ?_)
 exact Ť hA fun us s2 ⟨vs,H2,I2,r2,q2⟩=>hm pins s2 σ H2 x vs v us Q I2 r1 r2 q2
end
end L2
namespace L2
open PySem PySem.Spec PyProof.Rows
def MtM(X:Cx)(id:String)(r:V→List V→Hp→VK→Prop):Prop:=
 ∀(pins:List (Addr×Obj)) (s:Shared) (σ:St) (H:Hp) (x:V) (xs:List V) (v:Value) (us:List Value) (Q:VK),Inv X pins σ H s→RelV x v→Vals xs us→r x xs H Q→
  wpAny (model X.prog X.w) X.A (call (.builtin id) (v::us)) (EP X pins σ Q) X.xe s
theorem Vals.one:∀{x:V} {us:List Value},Vals [x] us→∃u,us=[u]∧RelV x u
 |_,_,.cons r .nil=>⟨_,rfl,r⟩
theorem Vals.reverse{xs:List V}{us:List Value}(h:Vals xs us):Vals xs.reverse us.reverse:=by
 induction h with
 |nil=>exact .nil
 |cons r t ih=>rw[List.reverse_cons,List.reverse_cons];exact Vals.append ih (.cons r .nil)
section
variable{X:Cx}{pins:List (Addr×Obj)}{σ:St}{H:Hp}{s:Shared}{l b:Addr}{xs ys zs:List V}
theorem Inv.Le{its its':List Value}{n:Nat}{f:Array Value→Array Value}{t':Nat}(I:Inv X pins σ H s)(hH:H l=some (.lst xs))
 (e:s.heap.get? l=some {cls:=.type "list",data:=.seq its.toArray n})(hf:f its.toArray=its'.toArray)(hv:Vals ys its')(hz:ys.length≤sizeLine) :
 Inv X pins σ (upd H l (.lst ys)) {s with heap:=s.heap.update l (Obj.mapSeq f),toks:=t'}:=by
 have q:=PySem.IsL.update e f
 rw[hf] at q
 refine I.write (x:=l) (e:=l) (by rw[hH];exact trivial) (.inl rfl) (fun b' u hb hu=>(Heap.get?_update_other s.heap (Obj.mapSeq f) (Ne.symm hb)).trans hu) ⟨_,q⟩ ?_
 exact⟨hz,its',_,hv,q⟩
theorem Inv.WD{its:List Value}{t':Nat}(I:Inv X pins σ H s)(hv:Vals ys its)(hz:ys.length≤sizeLine) :
 Inv X pins σ (upd H s.heap.objs.size (.lst ys)) {s with heap:=s.heap.push {cls:=.type "list",data:=.seq its.toArray},toks:=t'}:=
 I.laid (fun _ _ q=>Heap.get?_push_of_some _ q) (Nat.le_refl _) ⟨hz,its,0,hv,Heap.get?_push_size _ rfl⟩
theorem Inv.fresh(I:Inv X pins σ H s):H s.heap.objs.size=none:=I.hok.fresh (Nat.le_refl _)
theorem Inv.Gq(I:Inv X pins σ H s)(hH:H l=some (.lst xs)):xs.length≤sizeLine∧∃(its:List Value) (n:Nat),Vals xs its∧xs.length=its.length∧s.heap.get? l=some {cls:=.type "list",data:=.seq its.toArray n}:=by
 obtain⟨z,its,n,r,e⟩:=I.hok l _ hH
 exact⟨z,its,n,r,r.length,e⟩
theorem vD{n:Nat}(h:n≤sizeLine):Builtin.List.listTooLong n=false:=by
 unfold Builtin.List.listTooLong
 exact decide_eq_false (by omega)
end
section
variable{X:Cx}
def lH:V→List V→Hp→VK→Prop:=fun x vs H Q=>∃l xs y,x=.ref l∧vs=[y]∧H l=some (.lst xs)∧xs.length<sizeLine∧Q .non (upd H l (.lst (xs ++ [y])))
theorem ź:MtM X "list.append" lH:=by
 intro pins s σ H x vs v us Q I rx rv h
 obtain⟨l,xs,y,rfl,rfl,hH,hz,q⟩:=h
 cases rx
 obtain⟨u,rfl,ru⟩:=rv.one
 obtain⟨z,its,n,r,hl,e⟩:=I.Gq hH
 refine call_meets F.slot_list_append ⟨_,e,rfl⟩ F.entry_list_append (F.args_list_append_2 _ _) (PySem.list_append l its.toArray n u (by rw[List.size_toArray];omega)) ⟨e,?_⟩
 refine⟨.non,_,I.Le (its':=its ++ [u]) hH e (by simp) (r.append (.cons ru .nil)) ?_,rfl,q⟩
 rw[List.length_append,List.length_singleton]
 omega
def qY:V→List V→Hp→VK→Prop:=fun x vs H Q=>∃l b xs zs,x=.ref l∧vs=[.ref b]∧H l=some (.lst xs)∧H b=some (.lst zs)∧xs.length+zs.length≤sizeLine∧Q .non (upd H l (.lst (xs++zs)))
theorem jN:MtM X "list.extend" qY:=by
 intro pins s σ H x vs v us Q I rx rv h
 obtain⟨l,b,xs,zs,rfl,rfl,hH,hB,hz,q⟩:=h
 cases rx
 obtain⟨u,rfl,ru⟩:=rv.one
 cases ru
 obtain⟨z,its,n,r,hl,e⟩:=I.Gq hH
 obtain⟨z2,its2,n2,r2,hl2,e2⟩:=I.Gq hB
 have hsz:its.toArray.size+its2.toArray.size≤sizeLine:=by rw[List.size_toArray,List.size_toArray];omega
 have Lf:¬(!its.toArray.isEmpty && Builtin.List.listTooLong (its.toArray.size+its2.toArray.size))=true:=by
  rw[vD hsz,Bool.and_false]
  exact Bool.false_ne_true
 refine call_meets F.slot_list_extend ⟨_,e,rfl⟩ F.entry_list_extend (F.args_list_extend_2 _ _)
  (AutoSeq1.list_extend_list_list_0 l its.toArray n b its2.toArray n2 Lf (by rw[List.size_toArray];omega) (by omega)) ⟨e,e2,?_⟩
 refine⟨.non,_,I.Le (its':=its++its2) hH e (by simp) (r.append r2) ?_,rfl,q⟩
 rw[List.length_append]
 omega
end
section
variable{prog:Program}{w:World}{A:Around}{E:Value→Shared→Prop}{s:Shared}
end
section
variable{X:Cx}
end
end L2
namespace Att
open PySem PySem.W PySem.Calls PyProof.Rows
theorem gK{P:Params}{h:Heap}:∀(ns:List Int) (vs:List Value),WellAll P h vs (ns.map WData.int)→IntsAre vs ns:=by
 intro ns
 induction ns with
 |nil=>
  intro vs w
  rw[List.map_nil] at w
  cases w
  exact .nil
 |cons n ns ih=>
  intro vs w
  rw[List.map_cons] at w
  cases w with
  |cons a b=>
   cases a
   exact .cons _ _ (ih _ b)
theorem ud{l:OpenLaw}{n:Nat}(hn:l.most=some n){P:Params}{h:Heap}{args:List WData}{vals:List Value}
 (hpre:l.row.toRowW.claim.pre args=true)(hwl:WellAll P h vals args) :
 ∃a vs ns,vals=[Value.ref a]∧args=[WData.list (ns.map WData.int)]∧h.get? a=some {cls:=.type "list",data:=.seq vs.toArray}∧IntsAre vs ns∧ns.length≤n:=by
 have hsh:WShape.hasAll [] args [.list .int]=true:=(pre_splitW hpre).1
 have hc:l.pre.holds [] {args:=args}=true:=(pre_splitW hpre).2
 obtain⟨d,r,rfl,h1,h2⟩:=hasAllW_cons hsh
 obtain rfl:=hasAllW_nil h2
 obtain⟨xs,rfl,h3⟩:=hasW_list h1
 obtain⟨ns,rfl⟩:=items_int h3
 have hlen:ns.length≤n:=by
  unfold OpenLaw.pre at hc
  have h4:(WTm.not (.lt (.lit (.int (n:Int))) (.len (.arg 0)))).holds [] {args:=[.list (ns.map .int)]}=true:=by
   have h4:=(holds_andW hc).1
   rw[hn] at h4
   exact h4
  have h5:=condW_of h4 (w_not (w_lt w_lit (w_len_list (w_arg rfl))))
  rw[List.length_map] at h5
  refine Nat.le_of_not_lt fun q=>?_
  have q':(n:Int)<((ns.length:Nat):Int):=by omega
  first
   |(rw[decide_eq_true q'] at h5;exact absurd h5 (by decide))
   |(simp at h5;omega)
 cases hwl with
 |cons w1 w2=>
  cases w2
  cases w1 with
  |list ho hall=>exact⟨_,_,ns,rfl,rfl,ho,gK ns _ hall,hlen⟩
theorem uf(l:OpenLaw)(args:List WData):l.row.toRowW.claim.post args (.bool true) args=true:=
 postW_of (r:=l.row.toRowW) (X:=(true== true))
  (show WShape.has [] (.bool true) .bool=true by first|rfl|decide|simp[WShape.has,WShape.arms,WShape.armsAll])
  (show(WTm.eq .res (.lit (.bool true))).value [] {args:=args,res:=some (.bool true),after:=args}=some (.bool (true== true)) from w_eq_bool (w_res rfl) w_lit) rfl
theorem nu{l:OpenLaw}{n:Nat}{q:Program}{loose:List Str}{XP:(Str→Option Value)→Heap→Prop}{YP:World→Heap→Prop}{d:DefRec}
 (hn:l.most=some n)(hdf:d.params.defaults=[])
 (call:∀(w:World) (s₀ s₁:Shared) (mg mb:Str→Option Value) (fa:Addr) (o:Obj) (pm cd doc:Value) (a:Addr) (vs:List Value) (ns:List Int),
   Ground q loose [] XP w s₀ mg mb s₁.heap→YP w s₁.heap→
   s₁.heap.get? fa=some o→o.data=.func (docDef d.name d.params d.body d.scope pm cd doc)→s₁.heap.CodeRec cd d.name→mg d.name=some (.ref fa)→
   s₁.heap.get? a=some {cls:=.type "list",data:=.seq vs.toArray}→IntsAre vs ns→ns.length≤n→s₁.gens= #[]→
   codeAny (model l.prog w) callerA (.call (.ref fa) ⟨[.ref a],[]⟩) (fun r s'=>r=.ok (.ret (.bool true))∧OldK s₁.heap s'.heap∧s'.os=s₁.os∧AllBare s'.gens) s₁) :
 WalkO q loose XP YP l.row.toRowW d [] (fun f vs=>PySem.call f vs):=by
 intro w s₀ s₁ mg mb G Y fa o pm cd doc dV kV ho hd hcd hD hmg hg args vals as hpre hlay hrd hwl hlo
 obtain rfl:dV=.none:=Dflts.none hD hdf
 obtain rfl:kV=.none:=Dflts.noKw hD
 obtain⟨a,vs,ns,rfl,rfl,hobj,hints,hlen⟩:=ud hn hpre hwl
 refine enter_call (codeAny_mono (call w s₀ s₁ mg mb fa o pm cd doc a vs ns G Y ho (fd_plain hd) hcd hmg hobj hints hlen hg) fun r s' hq=>?_)
 obtain⟨rfl,h2,h3,h4⟩:=hq
 exact⟨.inl ⟨.bool true,.bool true,[],rfl,fun _=>rfl,.bool true,uf l _,fun _=>⟨List.Pairwise.nil,fun _ hm=>(nomatch hm)⟩⟩,h2,h3,h4⟩
section
variable{prog:Program}{w:World}{A:Around}{E:Value→Shared→Prop}{s:Shared}{K:Frag}
end
end Att
namespace L2
open PySem PySem.Spec PyProof.Rows
theorem Ű:∀{vs:List Value} {ns:List Int},IntsAre vs ns→Vals (ns.map V.int) vs
 |_,_,.nil=>.nil
 |_,_,.cons n t h=>.cons ⟨t,rfl⟩ (Ű h)
def Only(H:Hp):Prop:=∀b,H b=none∨∃o xs,H b=some (.bC o (.lst xs))
theorem vG{P:Program}{w:World}{K:PySem.W.Frag}{mg mb:Str→Option Value}{CX:jH}{k:Nat}{fa a:Addr}{fd:FuncData}{x:Str}{sp:Sp}{s₁:Shared}{vs:List Value}{ns:List Int}
 (KX:K.In s₁.heap)(hns:s₁.heap.Ns mainGlobals mg)(hb:s₁.heap.Ns builtinsNs mb)(hbb:∀x:Str,x≠ "__name__" →mb x=bootBuiltins x)(hlim:s₁.heap.NoLimit)(hg:s₁.gens= #[])
 (ha:s₁.heap.get? a=some {cls:=.type "list",data:=.seq vs.toArray})(hi:IntsAre vs ns)(hl:ns.length≤sizeLine)(hr:bU k callerA)
 (F:∀base:Heap,K.In base→base.Ns mainGlobals mg→Œ P w K mg base CX k fa fd [x] sp)(hbind:∀(s:Shared) (u:Value),BindsTo s fd ⟨[u],[]⟩ [(x,u)])
 (hsp:∀H:Hp,Only H→ų K H a (ns.map V.int)→sp [.ref a] H (fun v _=>v=.bl true) fun _ _ _=>False)
 (WK:∀H e s',CX [] H s₁ (fun _ _ _=>False) e s'→False) :
 codeAny (model P w) callerA (.call (.ref fa) ⟨[.ref a],[]⟩) (fun r s'=>r=.ok (.ret (.bool true))∧OldK s₁.heap s'.heap∧s'.os=s₁.os∧AllBare s'.gens) s₁:= by
 have rv:=Ű hi
 have lenV:=hi.length
 -- from an abstract heap in which nothing but the script may be tracked
 have core:∀H:Hp,Only H→ų K H a (ns.map V.int)→dB P w H s₁.heap→(∀b,H b≠none→b=a)→(H a≠none→K.lookup a=none)→
  codeAny (model P w) callerA (.call (.ref fa) ⟨[.ref a],[]⟩) (fun r s'=>r=.ok (.ret (.bool true))∧OldK s₁.heap s'.heap∧s'.os=s₁.os∧AllBare s'.gens) s₁:= by
  intro H hO hS hok hA hK
  have qZ:∀{b:Addr} {o:Obj},s₁.heap.get? b=some o→H b=none→(lB s₁.heap H).get? b=some o:=fun e n=>uX e n
  have KY:∀{b:Addr} {o:Obj} {es:Array DictEntry} {ep:Nat},s₁.heap.get? b=some o→o.data=.dict es ep→H b=none:=fun{b o es ep} e d=>by
   cases q:H b with
   |none=>rfl
   |some u=>
    have e':b=a:=hA b (by rw[q];simp)
    subst e'
    rw[ha] at e;cases e
    have d':Data.seq vs.toArray _=Data.dict es ep:=d
    cases d'
  have Tp:∀{b:Addr} {m:Str→Option Value},s₁.heap.Ns b m→(lB s₁.heap H).Ns b m:=fun{b m} ⟨o,es,ep,e,d,r⟩=>⟨o,es,ep,qZ e (KY e d),d,r⟩
  have hKb:K.In (lB s₁.heap H):=fun b o e=>qZ (KX b o e) (by
   cases q:H b with
   |none=>rfl
   |some u=>
    have e':b=a:=hA b (by rw[q];simp)
    subst e'
    rw[hK (by rw[q];simp)] at e;cases e)
  have hM:Mod K mg (lB s₁.heap H):=⟨hKb,Tp hns,⟨mb,Tp hb,hbb⟩,let ⟨mc,h1,h2⟩:=hlim;⟨mc,Tp h1,h2⟩⟩
  have e0:Bd P w K mg (lB s₁.heap H) callerA [] s₁ H:=⟨rfl,hM,fun b o e=>Ak e,Nat.le_of_eq (tH _ _),trivial,fun b hb=>absurd (show b∈([]:List Addr) from hb) (by simp),hok,.of_eq hg⟩
  refine codeAny_mono ((F _ hKb (Tp hns)).run callerA [] s₁ H ⟨[.ref a],[]⟩ [.ref a] [.ref a] _ _ hr e0 (hbind s₁ (.ref a)) (.cons rfl .nil) (hsp H hO hS)) fun r s' h=>?_
  cases r with
  |error e=>exact(WK H e s' h).elim
  |ok fl=>
   cases fl with
   |next=>exact False.elim h
   |brk=>exact False.elim h
   |cont=>exact False.elim h
   |ret u=>
    obtain⟨v,H',os,bare,un,hok',r',q⟩:=h
    have q':v=.bl true:=q
    subst q'
    obtain rfl:u=Value.bool true:=r'
    refine⟨rfl,OldK.of_keep fun b o e=>?_,os,bare⟩
    cases q:H b with
    |none=>exact un.keep b o e q (by intro z;exact absurd (show b∈([]:List Addr) from z) (by simp)) (by simp)
    |some u=>
     rcases hO b with z|⟨ob,xs,z⟩
     ·rw[q] at z;cases z
     ·have z2:=un.eN b ob _ z
      obtain⟨e1,_⟩:=hok b _ z
      obtain⟨e2,_⟩:=hok' b _ z2
      rw[e] at e1;cases e1
      exact e2
 cases hk:K.lookup a with
 |some o=>
  -- the script is one of the module's own objects
  have e:=KX a o hk
  rw[ha] at e
  cases e
  refine core (fun _=>none) (fun _=>.inl rfl) (.inr ⟨_,vs.toArray,_,hk,rfl,rfl,rfl,by rw[List.size_toArray,lenV];exact hl,by simpa using rv⟩) (fun b u z=>by have z':(none:Option HO)=some u:=z;cases z') (fun b z=>absurd rfl z) fun z=>absurd rfl z
 |none=>
  refine core (fun b=>if b=a then some (.bC {cls:=.type "list",data:=.seq vs.toArray} (.lst (ns.map V.int))) else none) (fun b=>?_) (.inl (.inr ⟨{cls:=.type "list",data:=.seq vs.toArray},if_pos rfl⟩)) (fun b u z=>?_) (fun b z=>?_) fun _=>hk
  ·by_cases hb:b=a
   ·exact .inr ⟨_,_,if_pos hb⟩
   ·exact .inl (if_neg hb)
  ·by_cases hb:b=a
   ·have z':=(if_pos hb).symm.trans z
    cases z'
    subst hb
    exact⟨ha,by rw[List.length_map];exact hl,vs,_,rv,ha⟩
   ·have z':=(if_neg hb).symm.trans z
    cases z'
  ·by_cases hb:b=a
   ·exact hb
   ·exact absurd (if_neg hb) z
end L2
namespace L2
open PySem PySem.Spec PyProof.Rows
theorem Bh{l:PySem.W.OpenLaw}{n k:Nat}{q:Program}{loose:List Str}{XP:(Str→Option Value)→Heap→Prop}{YP:World→Heap→Prop}{d:DefRec}{K:Params→PySem.W.Frag}{CX:World→jH}{sp:World→Sp}{x:Str}
 (hn:l.most=some n)(hn2:n≤sizeLine)(hdf:d.params.defaults=[])(hr:bU k callerA)
 (hY:∀(w:World) (h:Heap),YP w h→(K w.params).In h)
 (F:∀(w:World) (mg:Str→Option Value) (fa:Addr) (h:Heap),(K w.params).In h→h.Ns mainGlobals mg→mg d.name=some (.ref fa)→
   ∃fd:FuncData,(∀(s:Shared) (u:Value),BindsTo s fd ⟨[u],[]⟩ [(x,u)])∧
    ∀base:Heap,(K w.params).In base→base.Ns mainGlobals mg→Œ l.prog w (K w.params) mg base (CX w) k fa fd [x] (sp w))
 (hsp:∀(w:World) (H:Hp) (a:Addr) (ns:List Int),ns.length≤n→Only H→ų (K w.params) H a (ns.map V.int)→sp w [.ref a] H (fun v _=>v=.bl true) fun _ _ _=>False)
 (WK:∀(w:World) (H:Hp) (s:Shared) (e:Value) (s':Shared),CX w [] H s (fun _ _ _=>False) e s'→False) :
 PySem.W.WalkO q loose XP YP l.row.toRowW d [] (fun f vs=>PySem.call f vs):=by
 refine Att.nu hn hdf fun w s₀ s₁ mg mb fa o pm cd doc a vs ns G Y ho hd hcd hmg hobj hints hlen hg=>?_
 have KX:=hY w _ Y
 obtain⟨fd,hb,hF⟩:=F w mg fa _ KX G.T.g hmg
 exact vG KX G.T.g G.T.b G.T.builtins G.T.nolimit hg hobj hints (Nat.le_trans hlen hn2) hr hF hb (fun H hO hS=>hsp w H a ns hlen hO hS) fun H e s'=>WK w H s₁ e s'
end L2
namespace L2
open PySem PySem.Spec PyProof.Rows
def cW(s:Stmt):Arguments:=match s with
 | .FunctionDef _ a _ _ _ _ _ _ _ _=>a
 |_=> {posonlyargs:=[],args:=[],vararg:=none,kwonlyargs:=[],kw_defaults:=[],kwarg:=none,defaults:=[]}
def aV(s:Stmt):List Stmt:=match s with
 | .FunctionDef _ _ b _ _ _ _ _ _ _=>b
 |_=>[]
def ċ(s:Stmt):Scope:=match s with
 | .FunctionDef _ _ _ _ _ _ sc _ _ _=>sc
 |_=> {kind:=.function,names:=[],isGenerator:=false,isCoroutine:=false}
structure dw(K:PySem.W.Frag)(x qual:Str)(st:Stmt)(f:Addr)(fd:FuncData):Prop where
 ex:∃(oc:Value) (od:Option Addr) (kV doc pm:Value) (an:Option Addr) (cdv ct:Value) (osl:Array (Option Value)),
   fd=PySem.W.fnOf x qual (cW st) (aV st) (ċ st) .none kV doc pm an cdv ct∧K.lookup f=some ⟨oc,od,.func fd,osl⟩∧PySem.W.codeIn K cdv qual=true
 kp:PySem.W.keepIn K (.ref f)=true
section
variable{P:Program}{w:World}{K:PySem.W.Frag}{mg:Str→Option Value}{base:Heap}
theorem dw.binds{x qual:Str}{st:Stmt}{f:Addr}{fd:FuncData}{ps:List Str}(F:dw K x qual st f fd)
 (h:∀(kV doc pm:Value) (an:Option Addr) (cdv ct:Value) (us:List Value),us.length=ps.length→bindArgs (PySem.W.fnOf x qual (cW st) (aV st) (ċ st) .none kV doc pm an cdv ct) ⟨us,[]⟩=pure (ps.zip us)):Binds K fd ps []:=by
 obtain⟨oc,od,kV,doc,pm,an,cdv,ct,osl,rfl,lk,hcd⟩:=F.ex
 exact .all (h kV doc pm an cdv ct)
theorem ļ{x qual:Str}{st:Stmt}{f:Addr}{oc:Value}{od an:Option Addr}{osl:Array (Option Value)}{kV doc pm cdv ct:Value}(l:K.lookup f=some ⟨oc,od,.func (PySem.W.fnOf x qual (cW st) (aV st) (ċ st) .none kV doc pm an cdv ct),osl⟩)
 (c:PySem.W.codeIn K cdv qual=true)(k:PySem.W.keepIn K (.ref f)=true):dw K x qual st f (PySem.W.fnOf x qual (cW st) (aV st) (ċ st) .none kV doc pm an cdv ct):=⟨⟨oc,od,kV,doc,pm,an,cdv,ct,osl,rfl,l,c⟩,k⟩
end
section
variable{X:Cx}
theorem pv(i:Nat){x:Str}{pos:Pos}(hN:X.N[i]?=some x:=by rfl)(hv:uY X.env.scope x:=by first|exact Or.inl rfl|exact Or.inr (Or.inl rfl)|exact Or.inr (Or.inr rfl))(hd:(x== ("__debug__" :Str))=false:=by decide)
 (hcd:(x== ("__classdict__" :Str))=false:=by decide):PE X (.Name x pos) (pB i):=cG hN hv hd hcd
end
def Same(H H':Hp):Prop:=∀b o,H b=some o→H' b=some o
theorem Same.refl(H:Hp):Same H H:=fun _ _ h=>h
theorem Same.trans{H H1 H2:Hp}(a:Same H H1)(b:Same H1 H2):Same H H2:=fun c o h=>b c o (a c o h)
theorem Same.free{H H':Hp}(e:Same H H'){l:Addr}(h:H' l=Option.none):H l=Option.none:=by
 cases q:H l with
 |none=>rfl
 |some o=>
  rw[e l o q] at h
  cases h
theorem Same.seq{K:PySem.W.Frag}{H H':Hp}{a:Addr}{xs:List V}(e:Same H H')(h:ų K H a xs):ų K H' a xs:=by
 rcases h with(h|⟨o,h⟩)|h
 ·exact .inl (.inl (e _ _ h))
 ·exact .inl (.inr ⟨o,e _ _ h⟩)
 ·exact .inr h
end L2
namespace M2
open PySem PySem.Spec PyProof.Rows L2
section
variable{X:Cx}{a b c e:Expr}{ta tb tc te:TE}{pos:Pos}
theorem PE.wk{t t':TE}(h:PE X e t)(i:∀σ H Q,t' σ H Q→t σ H Q):PE X e t':=fun pins s σ H Q I q=>h pins s σ H Q I (i σ H Q q)
theorem PS.wk{st:Stmt}{t t':TS}(h:PS X st t)(i:∀D σ H,t' D σ H→t D σ H):PS X st t':=fun pins s σ H D I q=>h pins s σ H D I (i D σ H q)
theorem ż.wk{f:Value→Value→Sem Value}{r r':R2}(h:ż X f r)(i:∀x y H Q,r' x y H Q→r x y H Q):ż X f r':=fun pins s σ H x y v u Q I rx ry q=>h pins s σ H x y v u Q I rx ry (i x y H Q q)
theorem Ay.wk{f:Value→Sem Value}{r r':V→Hp→VK→Prop}(h:Ay X f r)(i:∀x H Q,r' x H Q→r x H Q):Ay X f r':=fun pins s σ H x v Q I rx q=>h pins s σ H x v Q I rx (i x H Q q)
theorem Ő.wk{f:Value}{r r':List V→Hp→VK→Prop}(h:Ő X f r)(i:∀xs H Q,r' xs H Q→r xs H Q):Ő X f r':=fun pins s σ H xs us Q I r q=>h pins s σ H xs us Q I r (i xs H Q q)
theorem pJ.wk{r r':R2}(h:pJ X r)(i:∀x y H Q,r' x y H Q→r x y H Q):pJ X r':=fun va sl pins s σ H x y v u Q I rx ry q=>h va sl pins s σ H x y v u Q I rx ry (i x y H Q q)
def Gs(i:Nat):TE:=fun σ H Q=>match σ[i]? with
 |some (some v)=>Q v H
 |_=>False
theorem Bj{i:Nat}{σ:L2.St}{H:Hp}{Q:VK}(h:Gs i σ H Q):pB i σ H Q:=by
 unfold Gs at h
 split at h
 ·exact⟨_,by assumption,h⟩
 ·exact h.elim
theorem mv(i:Nat){x:Str}{pos:Pos}(hN:X.N[i]?=some x:=by rfl)(hv:uY X.env.scope x:=by first|exact Or.inl rfl|exact Or.inr (Or.inl rfl)|exact Or.inr (Or.inr rfl))(hd:(x== ("__debug__" :Str))=false:=by decide)
 (hcd:(x== ("__classdict__" :Str))=false:=by decide):PE X (.Name x pos) (Gs i):=PE.wk (cG hN hv hd hcd) fun _ _ _ h=>Bj h
def WL(x:V)(k:Bool→Prop):Prop:=match x with
 | .bl c=>k c
 |_=>False
theorem vH{x:V}{k:Bool→Prop}(h:WL x k):∃c,x=.bl c∧k c:=by
 cases x with
 |bl c=>exact⟨c,rfl,h⟩
 |_=>exact h.elim
def Df(t:TE):TT:=fun σ H Q=>t σ H fun x H1=>WL x fun c=>Q c H1
theorem Gu{op:CmpOp}{r:R2}(ho:ż X (compareOp op) r)(ha:PE X a ta)(hb:PE X b tb)(hm:behindInMarks op b=false):PT X (.Compare a [op] [b] pos) (Df (FJ r ta tb)):=by
 intro pins s σ H Q I h
 refine wpAny_isTrue_Compare1 (Ť (ha pins s σ H _ I h) fun v s1 ⟨x,H1,I1,r1,q1⟩=>Ť (hb pins s1 σ H1 _ I1 q1) fun u s2 ⟨y,H2,I2,r2,q2⟩=>
  Ť (ho pins s2 σ H2 x y v u _ I2 r1 r2 q2) fun c s3 ⟨z,H3,I3,r3,q3⟩=>?_) hm
 obtain⟨k,e,q3⟩:=vH q3
 subst e
 cases r3
 exact wpAny_truthy_bool ⟨H3,I3,q3⟩
def Lg(ta tb:TE):TE:=fun σ H Q=>ta σ H fun x H1=>WL x fun c=>if c=true then tb σ H1 Q else Q (.bl false) H1
variable{rest:List Expr}
theorem Gv(ha:PE X a ta)(hb:PE X (.BoolOp .And (b::rest) pos) tb):PE X (.BoolOp .And (a::b::rest) pos) (Lg ta tb):=by
 intro pins s σ H Q I h
 refine BoolOp_and (Ť (ha pins s σ H _ I h) fun v s1 ⟨x,H1,I1,r1,q1⟩=>?_)
 obtain⟨c,rfl,q1⟩:=vH q1
 cases r1
 refine wpAny_truthy_bool ?_
 cases c with
 |true=>exact hb pins s1 σ H1 Q I1 q1
 |false=>exact⟨.bl false,H1,I1,rfl,q1⟩
def mI(C:Int→Int→Prop)(g:Int→Int→V):R2:=fun x y H Q=>match x,y with
 | .int i,.int j=>C i j∧Q (g i j) H
 |_,_=>False
def ug(g:Int→Int→V):R2:=fun x y H Q=>match x,y with
 | .int i,.int j=>Q (g i j) H
 |_,_=>False
theorem q_{C:Int→Int→Prop}{g:Int→Int→V}(x y:V)(H:Hp)(Q:VK)(h:mI C g x y H Q):rI C g x y H Q:=by
 cases x with
 |int i=>
  cases y with
  |int j=>exact⟨i,j,rfl,rfl,h.1,h.2⟩
  |_=>exact h.elim
 |_=>exact h.elim
theorem iH{g:Int→Int→V}(x y:V)(H:Hp)(Q:VK)(h:ug g x y H Q):Az g x y H Q:=by
 cases x with
 |int i=>
  cases y with
  |int j=>exact⟨i,j,rfl,rfl,h⟩
  |_=>exact h.elim
 |_=>exact h.elim
def Li:R2:=fun x y H Q=>match x,y with
 | .int i,.int j=>Q (.int (i+j)) H
 | .str i,.str j=>i.length+j.length≤sizeLine∧Q (.str (i++j)) H
 |_,_=>False
theorem Gw:ż X (binaryOp .Add) Li:=ż.wk (FW.or pI) fun x y H Q h=>by
 cases x with
 |int i=>
  cases y with
  |int j=>exact .inl ⟨i,j,rfl,rfl,h⟩
  |_=>exact h.elim
 |str i=>
  cases y with
  |str j=>exact .inr ⟨i,j,rfl,rfl,h.1,h.2⟩
  |_=>exact h.elim
 |_=>exact h.elim
theorem ĳ:ż X (binaryOp .Sub) (ug fun i j=>.int (i-j)):=ż.wk FZ iH
def jO(i j:Int):Prop:=FT i j∨(Builtin.Int.intBits i≤1048576∧Builtin.Int.intBits j≤1048576)
theorem jO.ok{i j:Int}(h:jO i j):IntMulOk i j:=by
 rcases h with h|⟨h1,h2⟩
 ·exact h.ok
 ·exact IntMulOk.of_le h1 h2 (by decide)
theorem Gx:ż X (binaryOp .Mult) (mI jO fun i j=>.int (i*j)):=ż.wk (uU (C:=jO) (g:=fun i j=>i*j) fun _ _ _ _ _ _ _ hc q=>mul_int q hc.ok) q_
def uh(_ j:Int):Prop:=j≠0∧Builtin.Int.intBits j≤8000
theorem uh.py{i j:Int}(h:uh i j):Builtin.divisionGoesByPylong i j=false:=by
 refine PyProof.noPylong_of_log2 ?_
 have hb:=intBits_le_iff.mp h.2
 have h0:j.natAbs≠0:=by have:=h.1;omega
 exact Nat.lt_of_lt_of_le ((Nat.log2_lt h0).mpr hb) (by decide)
theorem ŀ:ż X (binaryOp .FloorDiv) (mI uh fun i j=>.int (i.fdiv j)):=ż.wk (uU (C:=uh) (g:=fun i j=>i.fdiv j) fun _ _ _ _ _ _ _ hc q=>floordiv_int hc.1 q (.inl hc.py)) q_
theorem Ł:ż X (binaryOp .Mod) (mI (fun _ j=>j≠0) fun i j=>.int (i.fmod j)):=ż.wk Ba q_
theorem ť:ż X (binaryOp .Pow) (mI FQ fun i j=>.int (i ^ j.toNat)):=ż.wk Ga q_
theorem jP:ż X (compareOp .Lt) (ug fun i j=>.bl (decide (i<j))):=ż.wk KH iH
theorem vI:ż X (compareOp .LtE) (ug fun i j=>.bl (decide (i≤j))):=ż.wk KJ iH
theorem Dg:ż X (compareOp .Gt) (ug fun i j=>.bl (decide (j<i))):=ż.wk KN iH
theorem Lj:ż X (compareOp .GtE) (ug fun i j=>.bl (decide (j≤i))):=ż.wk KQ iH
def mU(g:Int→V):V→Hp→VK→Prop:=fun x H Q=>match x with
 | .int i=>Q (g i) H
 |_=>False
theorem ao:Ay X (unaryOp .USub) (mU fun i=>.int (-i)):=Ay.wk Gb fun x H Q h=>by
 cases x with
 |int i=>exact⟨i,rfl,h⟩
 |_=>exact h.elim
def mAbs:List V→Hp→VK→Prop:=fun xs H Q=>match xs with
 | [.int i]=>Q (.int (if i<0 then -i else i)) H
 |_=>False
theorem Gy:Ő X (.builtin "abs") mAbs:=Ő.wk vq fun xs H Q h=>by
 unfold mAbs at h
 split at h
 ·exact⟨_,rfl,h⟩
 ·exact h.elim
def vJ:List V→Hp→VK→Prop:=fun xs H Q=>match xs with
 | [.int i,.int j]=>Q (.int (if j<i then j else i)) H
 |_=>False
theorem gR(hc:X.calm=true):Ő X (.builtin "min") vJ:=Ő.wk (tY hc) fun xs H Q h=>by
 unfold vJ at h
 split at h
 ·exact⟨_,_,rfl,h⟩
 ·exact h.elim
def vK:List V→Hp→VK→Prop:=fun xs H Q=>match xs with
 | [.int i,.int j]=>Q (.int (if j>i then j else i)) H
 |_=>False
theorem gU(hc:X.calm=true):Ő X (.builtin "max") vK:=Ő.wk (tX hc) fun xs H Q h=>by
 unfold vK at h
 split at h
 ·exact⟨_,_,rfl,h⟩
 ·exact h.elim
def Gz(K:PySem.W.Frag):List V→Hp→VK→Prop:=fun xs H Q=>match xs with
 | [.str y]=>y.length≤sizeLine∧Q (.int (y.length:Int)) H
 | [.ref p]=>∃ys,(ų K H p ys∨aZ K H p ys)∧Q (.int (ys.length:Int)) H
 |_=>False
theorem aq:Ő X (.builtin "len") (Gz X.K):=Ő.wk vA fun xs H Q h=>by
 unfold Gz at h
 split at h
 ·exact⟨_,_,rfl,⟨h.1,rfl⟩,h.2⟩
 ·obtain⟨ys,h1,h2⟩:=h
  refine⟨_,ys.length,rfl,?_,h2⟩
  rcases h1 with h1|h1
  ·exact .inl ⟨ys,h1,rfl⟩
  ·exact .inr ⟨ys,h1,rfl⟩
 ·exact h.elim
def mIx(K:PySem.W.Frag):R2:=fun x y H Q=>match x,y with
 | .ref p,.int i=>∃xs v,(ų K H p xs∨aZ K H p xs)∧dj xs i=some v∧Q v H
 | .str z,.int i=>∃c,z.length≤sizeLine∧dj z.cps.toList i=some c∧Q (.str ⟨#[c]⟩) H
 |_,_=>False
theorem ď:pJ X (mIx X.K):=pJ.wk vC fun x y H Q h=>by
 cases x with
 |ref p=>
  cases y with
  |int i=>
   obtain⟨xs,v,h1,h2,h3⟩:=h
   rcases h1 with h1|h1
   ·exact .inl ⟨p,xs,i,v,rfl,rfl,h1,h2,h3⟩
   ·exact .inr (.inl ⟨p,xs,i,v,rfl,rfl,h1,h2,h3⟩)
  |_=>exact h.elim
 |str z=>
  cases y with
  |int i=>
   obtain⟨c,h1,h2,h3⟩:=h
   exact .inr (.inr ⟨z,i,c,rfl,rfl,h1,h2,h3⟩)
  |_=>exact h.elim
 |_=>exact h.elim
end
end M2
namespace M2
open PySem PySem.Spec PyProof.Rows L2
section
variable{X:Cx}{tg:Expr}
end
mutual
def Rp(K:PySem.W.Frag)(H:Hp):PyData→V→Prop
 | .none,v=>v=.non
 | .bool b,v=>v=.bl b
 | .int i,v=>v=.int i
 | .str x,v=>v=.str x
 | .tuple ds,v=>∃a xs,v=.ref a∧aZ K H a xs∧fO K H ds xs
 | .list ds,v=>∃a xs,v=.ref a∧ų K H a xs∧fO K H ds xs
 | .dict _,_=>False
def fO(K:PySem.W.Frag)(H:Hp):List PyData→List V→Prop
 | [],xs=>xs=[]
 |d::ds,xs=>∃x r,xs=x::r∧Rp K H d x∧fO K H ds r
end
theorem Same.tup{K:PySem.W.Frag}{H H':Hp}{a:Addr}{xs:List V}(e:Same H H')(h:aZ K H a xs):aZ K H' a xs:=by
 rcases h with(h|⟨o,h⟩)|h
 ·exact .inl (.inl (e _ _ h))
 ·exact .inl (.inr ⟨o,e _ _ h⟩)
 ·exact .inr h
theorem Same.upd{H:Hp}{p:Addr}{o:HO}(h:H p=none):Same H (upd H p o):=fun b u e=>by
 rw[Ĝ (ŕ e h)]
 exact e
mutual
theorem Rp.same{K:PySem.W.Frag}{H H':Hp}(e:Same H H'):∀(d:PyData) (v:V),Rp K H d v→Rp K H' d v
 | .none,_,h=>by unfold Rp at h ⊢;exact h
 | .bool _,_,h=>by unfold Rp at h ⊢;exact h
 | .int _,_,h=>by unfold Rp at h ⊢;exact h
 | .str _,_,h=>by unfold Rp at h ⊢;exact h
 | .tuple ds,_,h=>by
   unfold Rp at h ⊢
   obtain⟨a,xs,h1,h2,h3⟩:=h
   exact⟨a,xs,h1,Same.tup e h2,fO.same e ds xs h3⟩
 | .list ds,_,h=>by
   unfold Rp at h ⊢
   obtain⟨a,xs,h1,h2,h3⟩:=h
   exact⟨a,xs,h1,e.seq h2,fO.same e ds xs h3⟩
 | .dict _,_,h=>by unfold Rp at h;exact h.elim
theorem fO.same{K:PySem.W.Frag}{H H':Hp}(e:Same H H'):∀(ds:List PyData) (xs:List V),fO K H ds xs→fO K H' ds xs
 | [],_,h=>by unfold fO at h ⊢;exact h
 |d::ds,_,h=>by
  unfold fO at h ⊢
  obtain⟨x,r,h1,h2,h3⟩:=h
  exact⟨x,r,h1,Rp.same e d x h2,fO.same e ds r h3⟩
end
section
variable{X:Cx}{pins:List (Addr×Obj)}{σ:L2.St}{H:Hp}{s:Shared}
mutual
theorem Rp.reads(I:Inv X pins σ H s):∀(d:PyData) (v:V) (u:Value),Rp X.K H d v→RelV v u→∃as,Reads s.heap u d as
 | .none,v,u,h,r=>by
   unfold Rp at h;subst h;cases r;exact⟨_,.none⟩
 | .bool b,v,u,h,r=>by
   unfold Rp at h;subst h;cases r;exact⟨_,.bool b⟩
 | .int i,v,u,h,r=>by
   unfold Rp at h;subst h;obtain⟨t,rfl⟩:=r;exact⟨_,.int i t⟩
 | .str x,v,u,h,r=>by
   unfold Rp at h;subst h;obtain⟨t,rfl⟩:=r;exact⟨_,.str x t⟩
 | .tuple ds,v,u,h,r=>by
   unfold Rp at h
   obtain⟨a,xs,h1,h2,h3⟩:=h
   subst h1
   cases r
   obtain⟨its,rv,⟨o,e,hc,n,hd⟩,hz⟩:=I.tuple h2
   obtain⟨as,ra⟩:=fO.reads I ds xs its h3 rv
   exact⟨_,.tuple e hc hd (by simpa using ra)⟩
 | .list ds,v,u,h,r=>by
   unfold Rp at h
   obtain⟨a,xs,h1,h2,h3⟩:=h
   subst h1
   cases r
   obtain⟨its,rv,⟨o,n,e,hc,hdd,hd⟩,hz⟩:=I.list h2
   obtain⟨as,ra⟩:=fO.reads I ds xs its h3 rv
   exact⟨_,.list e hc hd (by simpa using ra)⟩
 | .dict _,_,_,h,_=>by unfold Rp at h;exact h.elim
theorem fO.reads(I:Inv X pins σ H s):∀(ds:List PyData) (xs:List V) (us:List Value),fO X.K H ds xs→Vals xs us→∃as,ReadsAll s.heap us ds as
 | [],xs,us,h,r=>by
   unfold fO at h;subst h;cases r;exact⟨_,.nil⟩
 |d::ds,xs,us,h,r=>by
  unfold fO at h
  obtain⟨x,q,h1,h2,h3⟩:=h
  subst h1
  cases r with
  |cons r1 r2=>
   obtain⟨as,ra⟩:=Rp.reads I d x _ h2 r1
   obtain⟨bs,rb⟩:=fO.reads I ds q _ h3 r2
   exact⟨_,.cons ra rb⟩
end
end
def Bk(K:PySem.W.Frag)(neg:Bool):R2:=fun x y H Q=>∃d e,Rp K H d x∧Rp K H e y∧d.canLay0=true∧e.canLay0=true∧min d.depth e.depth≤60∧Q (.bl (if neg then !PyData.eqv d e else PyData.eqv d e)) H
section
variable{X:Cx}
theorem Ŭ(hu:X.A.units+64<cLine):ż X (compareOp .Eq) (Bk X.K false):=by
 intro pins s σ H x y v u Q I rx ry h
 obtain⟨d,e,h1,h2,h3,h4,h5,q⟩:=h
 obtain⟨as,ra⟩:=Rp.reads I d x v h1 rx
 obtain⟨bs,rb⟩:=Rp.reads I e y u h2 ry
 exact SeqAt.compareEq_reads ra rb h3 h4 (by omega) ⟨.bl _,H,I,rfl,q⟩
theorem Ż(hu:X.A.units+64<cLine):ż X (compareOp .NotEq) (Bk X.K true):=by
 intro pins s σ H x y v u Q I rx ry h
 obtain⟨d,e,h1,h2,h3,h4,h5,q⟩:=h
 obtain⟨as,ra⟩:=Rp.reads I d x v h1 rx
 obtain⟨bs,rb⟩:=Rp.reads I e y u h2 ry
 exact SeqAt.compareNe_reads ra rb h3 h4 (by omega) ⟨.bl _,H,I,rfl,q⟩
end
section
variable{K:PySem.W.Frag}
end
end M2
namespace M3
open PySem PySem.Spec PyProof.Rows L2 M2
theorem rm{P:Program}{w:World}{H:Hp}{h h':Heap}{C:Addr}(x:dB P w H h)(hC:H C=none)(k:∀b u,b≠C→h.get? b=some u→h'.get? b=some u):dB P w H h':=fun a o e=>
 (x a o e).stay (fun b u hb q=>k b u (by
   rcases hb with hb|hb
   ·rw[hb];exact ŕ e hC
   ·exact ŕ hb hC) q) (fun _ q=>q) fun _ _ q=>q
theorem dU{env:Env}:∀(ns:List (Str×NameKind)) (cs:List (Str×Addr)),(∀y∈ns,y.2=.free→∃c,env.cells.lookup y.1=some c)→(∀x c,cs.lookup x=some c→env.cells.lookup x=some c)→
 ∃cl,(forIn ns cs (fun(x:Str×NameKind) r=>if(x.2== .free)=true then(do let c ←cellOf env x.1;pure (ForInStep.yield ((x.1,c)::r))) else pure (ForInStep.yield r)):Sem (List (Str×Addr)))=pure cl∧
  (∀x c,cl.lookup x=some c→env.cells.lookup x=some c)∧(∀x,(∃c,cs.lookup x=some c)→∃c,cl.lookup x=some c)∧∀y∈ns,y.2=.free→∃c,cl.lookup y.1=some c
 | [],cs,_,h2=>⟨cs,rfl,h2,fun _ z=>z,fun _ z=>nomatch z⟩
 |(n,k)::ns,cs,h1,h2=>by
  by_cases hk:k=.free
  ·subst hk
   obtain⟨c,hc⟩:=h1 (n,.free) List.mem_cons_self rfl
   have e:cellOf env n=pure c:=by unfold cellOf;rw[hc]
   have h2':∀x d,((n,c)::cs).lookup x=some d→env.cells.lookup x=some d:=fun x d q=>by
    rw[List.lookup_cons] at q
    cases hx:x== n with
    |true=>
     rw[hx] at q
     have:x=n:=eq_of_beq hx
     subst this
     cases q
     exact hc
    |false=>
     rw[hx] at q
     exact h2 x d q
   obtain⟨cl,q1,q2,q3,q4⟩:=dU ns ((n,c)::cs) (fun y hy=>h1 y (List.mem_cons_of_mem _ hy)) h2'
   refine⟨cl,?_,q2,fun x ⟨d,hd⟩=>q3 x ?_,fun y hy hf=>?_⟩
   ·rw[List.forIn_cons]
    simp only[beq_self_eq_true,if_true,e,pure_bind]
    exact q1
   ·rw[List.lookup_cons]
    cases hx:x== n with
    |true=>exact⟨c,rfl⟩
    |false=>exact⟨d,hd⟩
   ·rcases List.mem_cons.mp hy with rfl|hy
    ·exact q3 n ⟨c,by rw[List.lookup_cons,beq_self_eq_true]⟩
    ·exact q4 y hy hf
  ·have hb:(k== NameKind.free)=false:=by simpa using hk
   obtain⟨cl,q1,q2,q3,q4⟩:=dU ns cs (fun y hy=>h1 y (List.mem_cons_of_mem _ hy)) h2
   refine⟨cl,?_,q2,q3,fun y hy hf=>?_⟩
   ·rw[List.forIn_cons]
    simp only[hb,Bool.false_eq_true,if_false,pure_bind]
    exact q1
   ·rcases List.mem_cons.mp hy with rfl|hy
    ·exact absurd hf hk
    ·exact q4 y hy hf
theorem eV{scope:Scope}{env:Env}(h:∀y∈scope.names,y.2=.free→∃c,env.cells.lookup y.1=some c) :
 ∃cl,closureFor scope env=pure cl∧(∀x c,cl.lookup x=some c→env.cells.lookup x=some c)∧∀y∈scope.names,y.2=.free→∃c,cl.lookup y.1=some c:=by
 obtain⟨cl,q1,q2,_,q4⟩:=dU (env:=env) scope.names [] h (fun x c z=>by simp at z)
 refine⟨cl,?_,q2,q4⟩
 unfold closureFor
 have e:(forIn scope.names [] (fun(x:Str×NameKind) (r:List (Str×Addr))=>match x with
  |(name,kind)=>if(kind== .free)=true then(do let a ←cellOf env name;pure (ForInStep.yield ((name,a)::r))) else pure (ForInStep.yield r)):Sem (List (Str×Addr)))=pure cl:=q1
 first
  |(simp only[bind_pure];exact q1)
  |(rw[show ∀(t:Sem (List (Str×Addr))),(do let r ←t;pure r)=t from fun t=>by simp];exact q1)
  |(simp only[q1,pure_bind])
def cX(X:Cx)(N':List Str)(scope:Scope)(cl:List (Str×Addr))(C:Addr)(s:Shared)(H:Hp)(fp:List Addr):Cx where
 prog:=X.prog
 w:=X.w
 K:=X.K
 mg:=X.mg
 base:=X.base
 A:=X.A
 N:=N'
 s₀:= s
 H₀:= H
 env:=compEnvC scope cl C X.env
 outer:=X.stack
 stack:=X.stack
 ex:=fp
 fn:=fun x=>scope.names.lookup x== some .cell
 calm:=X.calm
 pn:=[]
 xe:=fun _ _=>False
def iI(X:Cx)(sc scope:Scope):List Str→List Nat→Prop
 |x::xs,j::js=>X.N[j]?=some x∧(scope.names.lookup x=some .free∧(sc.names.lookup x=some .cell∨sc.names.lookup x=some .free))∧iI X sc scope xs js
 |_,[]=>True
 | [],_::_=>False
def cJ(js:List Nat)(nl:Nat)(σ:L2.St):L2.St:=js.map (fun j:Nat=>(σ[j]?).getD none)++List.replicate nl none
theorem jQ{X:Cx}{sc scope:Scope}{σ:L2.St}{nl:Nat}:∀{N':List Str} {js:List Nat} {i:Nat} {x:Str} {v:V},iI X sc scope N' js→N'[i]?=some x→(cJ js nl σ)[i]?=some (some v)→
 ∃j:Nat,X.N[j]?=some x∧σ[j]?=some (some v)∧scope.names.lookup x=some .free∧(sc.names.lookup x=some .cell∨sc.names.lookup x=some .free)
 |N',[],i,x,v,_,_,h=>by
  unfold cJ at h
  rw[List.map_nil,List.nil_append,List.getElem?_replicate] at h
  split at h<;>cases h
 | [],_::_,_,_,_,c,_,_=>c.elim
 |y::N',j::js,0,x,v,c,h1,h2=>by
  obtain⟨c1,c2,_⟩:=c
  simp at h1
  subst h1
  have e:(σ[j]?).getD none=some v:=by simpa[cJ] using h2
  refine⟨j,c1,?_,c2⟩
  cases q:σ[j]? with
  |none=>rw[q] at e;cases e
  |some o=>rw[q] at e;exact congrArg some e
 |y::N',j::js,i+1,x,v,c,h1,h2=>by
  exact jQ (N':=N') (js:=js) (i:=i) c.2.2 (by simpa using h1) (by simpa[cJ] using h2)
section
variable{prog:Program}{w:World}{A:Around}{R:Result→Shared→Prop}{s:Shared}
theorem eX{elt target iter:Expr}{ifs:List Expr}{scope:Scope}{pos:Pos}{it acc:Value}{env:Env}(I:Nat→Shared→Prop)
 (turn:∀n s,I n s→wpAny (model prog w) A (pyNext it) (fun r s₁=>match r with
   |none=>R (.ok .next) s₁
   |some v=>wpAny (model prog w) A (letOwnedTupleGo target it v) (fun _ s₁'=>wpAny (model prog w) A (assign target env v) (fun _ s₂=>
     wpAny (model prog w) A (forIn ifs true fun c r=>if r=true then do let ok ←isTrue c env (eval c env);pure (ForInStep.yield ok) else pure (ForInStep.yield r)) (fun ok s₃=>
      if ok=true then wpAny (model prog w) A (eval elt env) (fun x s₄=>
       wpAny (model prog w) A (call (.builtin "list.append") [acc,x]) (fun _ s₅=>∃m,m<n∧I m s₅) (fun _ _=>False) s₄) (fun _ _=>False) s₃
      else ∃m,m<n∧I m s₃) (fun _ _=>False) s₂) (fun _ _=>False) s₁') (fun _ _=>False) s₁) (fun _ _=>False) s)
 (n:Nat)(h:I n s) :
 codeAny (model prog w) A (.compLoop (.ListComp elt [⟨target,iter,ifs,0⟩] scope pos) 0 it acc env) R s:=by
 refine codeAny_loop rfl I (fun n s hI=>?_) n h
 show wpAny _ A ((compTurn (.ListComp elt [⟨target,iter,ifs,0⟩] scope pos) 0 it acc env).onRaise (fun x=>do noteFrame x env;theTreesLotGoes x)) _ _ s
 refine wpAny_noted (wpAny_noRaise ?_)
 rw[compTurn_list]
 refine wpAny_bind (wpAny_standAt (wpAny_bind (wpAny_mono (turn n s hI) (fun r s₁ h₁=>?_) fun _ _ h'=>h')))
 cases r with
 |none=>exact wpAny_pure h₁
 |some v=>
  refine wpAny_bind (wpAny_mono h₁ (fun _ s₁' h₁'=>?_) fun _ _ h'=>h')
  refine wpAny_bind (wpAny_mono h₁' (fun _ s₂ h₂=>wpAny_bind (wpAny_mono h₂ (fun ok s₃ h₃=>?_) fun _ _ h'=>h')) fun _ _ h'=>h')
  cases ok with
  |false=>exact wpAny_pure ⟨rfl,h₃⟩
  |true=>
   exact wpAny_bind (wpAny_bind (wpAny_mono h₃ (fun x s₄ h₄=>wpAny_bind (wpAny_mono h₄ (fun _ s₅ h₅=>wpAny_pure (wpAny_pure ⟨rfl,h₅⟩)) fun _ _ h'=>h')) fun _ _ h'=>h'))
end
def Dh(X:Cx)(ifs:List Expr)(t:TT):Prop:=
 ∀(pins:List (Addr×Obj)) (s:Shared) (σ:L2.St) (H:Hp) (Q:Bool→Hp→Prop),Inv X pins σ H s→t σ H Q→
  wpAny (model X.prog X.w) X.A (forIn ifs true fun c r=>if r=true then do let ok ←isTrue c X.env (eval c X.env);pure (ForInStep.yield ok) else pure (ForInStep.yield r)) (TP X pins σ Q) X.xe s
def WM:TT:=fun _ H Q=>Q true H
theorem Bl{X:Cx}:Dh X [] WM:=fun _ _ _ H _ I h=>wpAny_tests_nil ⟨H,I,h⟩
theorem Bm{X:Cx}{c:Expr}{t:TT}(h:PT X c t):Dh X [c] t:=fun pins s σ H Q I hw=>wpAny_tests_one (h pins s σ H Q I hw)
def vL(js:List Nat)(nl:Nat)(wi:TI)(g:TG)(tt:TT)(te:TE):TE:=fun σ H Q=>wi σ H fun J H1=>∀D,H1 D=none→
 ∃W:Nat→Nat→L2.St→Hp→Prop,(∃m,W 0 m (cJ js nl σ) (upd H1 D (.lst [])))∧∀i m σ' H',W i m σ' H'→
  (J.stop i H'∧Q (.ref D) H')∨(J.go i H'∧∃N:L2.St→Hp→Prop,(∀σ2 H2,N σ2 H2→∃m',m'<m∧W (i+1) m' σ2 H2)∧∀x H2,J.Tf i H' x H2→g x σ' H2 fun σ2 H3=>tt σ2 H3 fun c H4=>
    if c=true then te σ2 H4 fun y H5=>∃ys,H5 D=some (.lst ys)∧ys.length<sizeLine∧N σ2 (upd H5 D (.lst (ys ++ [y]))) else N σ2 H4)
section
variable{X:Cx}{elt tg iter:Expr}{ifs:List Expr}{scope:Scope}{pos:Pos}{wi:TI}{g:TG}{tt:TT}{te:TE}
theorem bV{env:Env}:∀{names:List (Str×NameKind)} {x:Str} {k:NameKind},(k=.cell∨k=.free)→
 (names.map fun(n,k)=>if(k== NameKind.free && env.scope.kind== .function && env.kindOf n== some .cell) then(n,NameKind.cell) else(n,k)).lookup x=some k→(x,NameKind.free)∈names∨(x,NameKind.cell)∈names
 | [],x,k,_,h=>by simp at h
 |(n,q)::r,x,k,hk,h=>by
  have ih:=@bV env r x k hk
  rw[List.map_cons] at h
  by_cases hx:x=n
  ·subst hx
   by_cases hf:q=.free
   ·subst hf
    exact .inl List.mem_cons_self
   ·have hb:(q== NameKind.free)=false:=by simpa using hf
    have e:(if(q== NameKind.free && env.scope.kind== .function && env.kindOf x== some .cell)=true then(x,NameKind.cell) else(x,q))=(x,q):=by
     rw[hb];rfl
    have h2:=h
    simp only[e,List.lookup_cons,beq_self_eq_true] at h2
    have:q=k:=Option.some.inj h2
    rcases hk with hk|hk
    ·rw[this,hk]
     exact .inr List.mem_cons_self
    ·exact absurd (this.trans hk) hf
  ·have hn:(x== n)=false:=by simpa using hx
   have h3:(x,NameKind.free)∈r∨(x,NameKind.cell)∈r:=ih (by
    by_cases c:(q== NameKind.free && env.scope.kind== .function && env.kindOf n== some .cell)=true
    ·simp only[c,if_true,List.lookup_cons,hn] at h
     exact h
    ·simp only[c,if_false,Bool.false_eq_true,List.lookup_cons,hn] at h
     exact h)
   rcases h3 with h3|h3
   ·exact .inl (List.mem_cons_of_mem _ h3)
   ·exact .inr (List.mem_cons_of_mem _ h3)
theorem Ř:∀(names:List (Str×NameKind)) (n:Nat) (acc:List (Str×Addr)),cellsFrom n names acc=cellsFrom n names []++acc
 | [],_,_=>rfl
 |(x,k)::r,n,acc=>by
  unfold cellsFrom
  split
  ·rw[Ř r (n+1) ((x,n)::acc),Ř r (n+1) [(x,n)],List.append_assoc]
   rfl
  ·exact Ř r n acc
theorem bW:∀(names:List (Str×NameKind)) (n:Nat) {x:Str} {c:Addr},(x,c)∈cellsFrom n names []→(x,NameKind.cell)∈names
 | [],_,_,_,h=>by simp[cellsFrom] at h
 |(y,k)::r,n,x,c,h=>by
  unfold cellsFrom at h
  split at h
  ·rename_i hk
   rw[Ř r (n+1) [(y,n)]] at h
   rcases List.mem_append.mp h with h|h
   ·exact List.mem_cons_of_mem _ (bW r _ h)
   ·have e:(x,c)=(y,n):=by simpa using h
    cases e
    rw[beq_iff_eq.mp hk]
    exact List.mem_cons_self
  ·exact List.mem_cons_of_mem _ (bW r _ h)
structure Blk(X:Cx)(scope:Scope)(n:Nat)(h:Heap)(cl:List (Str×Addr)):Prop where
 at_:∀x c,cl.lookup x=some c→(X.env.cells.lookup x=some c∧scope.names.lookup x≠some .cell)∨(n<c∧h.IsCell c none∧scope.names.lookup x=some .cell)
 inj:∀x y c,cl.lookup x=some c→cl.lookup y=some c→n<c→x=y
 has:∀x,((x,NameKind.free)∈scope.names∨(x,NameKind.cell)∈scope.names)→∃c,cl.lookup x=some c
theorem vM{X:Cx}{scope:Scope}{n:Nat}{h:Heap}{cl:List (Str×Addr)}(hcell:∀y∈scope.names,y.2=.cell→scope.names.lookup y.1=some .cell)
 (h1:∀x c,cl.lookup x=some c→X.env.cells.lookup x=some c)(h2:∀y∈scope.names,y.2=.free→∃c,cl.lookup y.1=some c)(hlt:∀x c,X.env.cells.lookup x=some c→c<n)
 (ok:CellsOk h (n+1) (cellsFrom (n+1) scope.names [])):Blk X scope n h (cellsFrom (n+1) scope.names cl):=by
 have sp:∀x c,(cellsFrom (n+1) scope.names cl).lookup x=some c→(cl.lookup x=some c∧(cellsFrom (n+1) scope.names []).lookup x=none)∨(cellsFrom (n+1) scope.names []).lookup x=some c:=fun x c e=>by
  rw[Ř,List.lookup_append] at e
  cases q:(cellsFrom (n+1) scope.names []).lookup x with
  |none=>rw[q] at e;exact .inl ⟨by simpa using e,rfl⟩
  |some d=>rw[q] at e;exact .inr (by simpa using e)
 refine⟨fun x c e=>?_,fun x y c e1 e2 hc=>?_,fun x hx=>?_⟩
 ·rcases sp x c e with⟨e,q⟩|e
  ·refine .inl ⟨h1 x c e,fun z=>?_⟩
   obtain⟨d,hd⟩:=eU (sc:=scope) (n:=n+1) z
   rw[hd] at q
   cases q
  ·have m:=mem_of_lookup e
   exact .inr ⟨(ok.empty x c m).2,(ok.empty x c m).1,hcell _ (bW _ _ m) rfl⟩
 ·have nw:∀z,(cellsFrom (n+1) scope.names cl).lookup z=some c→(cellsFrom (n+1) scope.names []).lookup z=some c:=fun z e=>by
   rcases sp z c e with⟨e,q⟩|e
   ·exact absurd (hlt z c (h1 z c e)) (Nat.lt_asymm hc)
   ·exact e
  exact name_of_addr ok.apart (mem_of_lookup (nw x e1)) (mem_of_lookup (nw y e2))
 ·rw[Ř,List.lookup_append]
  rcases hx with hx|hx
  ·obtain⟨c,hc⟩:=h2 _ hx rfl
   cases q:(cellsFrom (n+1) scope.names []).lookup x with
   |none=>exact⟨c,by simpa using hc⟩
   |some d=>exact⟨d,rfl⟩
  ·obtain⟨d,hd⟩:=eU (sc:=scope) (n:=n+1) (hcell _ hx rfl)
   rw[hd]
   exact⟨d,rfl⟩
theorem dF{M:Model}{A:Around}{E:Value→Shared→Prop}{s:Shared}{scope:Scope}{globals:Addr}{closure:List (Str×Addr)}{qual:Str}
 {func:Option Addr}{code:Value}{env0:Env}{builtins:Addr}{Q:Env→Shared→Prop}
 (hQ:∀h',h'.Ns s.heap.objs.size (fun _=>none)→(∀b o,s.heap.get? b=some o→h'.get? b=some o)→CellsOk h' (s.heap.objs.size+1) (cellsFrom (s.heap.objs.size+1) scope.names [])→
   Q (newEnv scope s.heap.objs.size globals (cellsFrom (s.heap.objs.size+1) scope.names closure) qual func code (some env0) builtins) {s with heap:=h'}) :
 wpAny M A (newFunctionEnv scope globals closure [] qual func code (some env0) builtins) Q E s:=by
 simp only[newFunctionEnv,Option.isSome_some,if_true]
 refine wpAny_bind (wpAny_alloc ?_)
 refine wpAny_bind (wpAny_layCells _ (fun name kind cells=>by cases hkc:kind== NameKind.cell<;>simp[hkc]) _ _ _ _ ?_)
 have ok:=cellsFrom_ok scope.names (s.heap.push {cls:=.type "dict",data:=.dict #[]}) (s.heap.objs.size+1) [] ⟨fun _ _ hm=>(nomatch hm),List.Pairwise.nil⟩ (by rw[Heap.size_push];exact Nat.le_refl _)
 rw[Heap.size_push] at ok
 rw[show({s with heap:=s.heap.push {cls:=.type "dict",data:=.dict #[]}}:Shared).heap.objs.size=s.heap.objs.size+1 from Heap.size_push ..]
 refine wpAny_bind ?_
 rw[List.forIn_nil]
 exact wpAny_pure (wpAny_pure (hQ _ ((Heap.Ns.new s.heap (.type "dict")).keeps (pushCells_keeps _ _)) (fun b o e=>pushCells_keeps _ _ b o (Heap.get?_push_of_some _ e)) ok))
theorem eY{env:Env}:∀{names:List (Str×NameKind)} {x:Str},names.lookup x=some .free→
 ¬(names.map fun(n,k)=>if(k== NameKind.free && env.scope.kind== .function && env.kindOf n== some .cell) then(n,NameKind.cell) else(n,k)).lookup x=some .local
 | [],x,h=>by simp at h
 |(n,q)::r,x,h=>by
  intro h2
  rw[List.map_cons] at h2
  rw[List.lookup_cons] at h
  cases hx:x== n with
  |true=>
   rw[hx] at h
   cases h
   by_cases c:(NameKind.free== NameKind.free && env.scope.kind== .function && env.kindOf n== some .cell)=true
   ·simp only[c,if_true,List.lookup_cons,hx] at h2
    cases h2
   ·simp only[c,if_false,Bool.false_eq_true,List.lookup_cons,hx] at h2
    cases h2
  |false=>
   rw[hx] at h
   have ih:=eY (env:=env) h
   by_cases c:(q== NameKind.free && env.scope.kind== .function && env.kindOf n== some .cell)=true
   ·simp only[c,if_true,List.lookup_cons,hx] at h2
    exact ih h2
   ·simp only[c,if_false,Bool.false_eq_true,List.lookup_cons,hx] at h2
    exact ih h2
theorem jR{pins:List (Addr×Obj)}{σ:L2.St}{H:Hp}{s:Shared}{N':List Str}{js:List Nat}{nl:Nat}{sc:Scope}{cl:List (Str×Addr)}{fp:List Addr}{h':Heap}{tk:Nat}
 (hsc:X.env.scope=sc)(hk:scope.kind=.function)(hcap:iI X sc scope N' js)(hlen:js.length+nl=N'.length)(B:Blk X scope s.heap.objs.size h' cl)
 (I:Inv X pins σ H s)(hf:∀b∈fp,cH X pins H b)(hlt:∀b∈fp,b<s.heap.objs.size)
 (hn:h'.Ns s.heap.objs.size (fun _=>none))(kp:∀b o,s.heap.get? b=some o→h'.get? b=some o) :
 Inv (cX X N' scope cl s.heap.objs.size s H fp) [] (cJ js nl σ) H {s with heap:=h',toks:=tk}:=by
 have vN:∀x,((cX X N' scope cl s.heap.objs.size s H fp).env.kindOf x=some .cell∨(cX X N' scope cl s.heap.objs.size s H fp).env.kindOf x=some .free)→∃c,cl.lookup x=some c:=fun x hx=>by
  rcases hx with hx|hx
  ·exact B.has x (bV (.inl rfl) hx)
  ·exact B.has x (bV (.inr rfl) hx)
 have lt:∀x c,X.env.cells.lookup x=some c→c<s.heap.objs.size:=fun x c e=>by
  obtain⟨v,o,ho,_⟩:=I.cell x c e
  exact Heap.lt_size ho
 have inj:∀x y c,cl.lookup x=some c→cl.lookup y=some c→x=y:=fun x y c e1 e2=>by
  rcases B.at_ x c e1 with⟨q1,_⟩|⟨q1,_⟩
  ·rcases B.at_ y c e2 with⟨q2,_⟩|⟨q2,_⟩
   ·exact I.ok.inj x y c q1 q2
   ·exact absurd (lt x c q1) (Nat.lt_asymm q2)
  ·exact B.inj x y c e1 e2 q1
 refine⟨⟨I.ok.mod,hk,I.ok.glob,I.ok.blt,Nat.le_refl _,inj,vN,fun x c z e=>by
  rcases B.at_ x c e with⟨_,q⟩|⟨q,_⟩
  ·exact absurd (beq_iff_eq.mp z) q
  ·exact Nat.le_of_lt q,I.ok.hd,I.ok.frames,.inl rfl,fun b hb=>⟨Nat.ne_of_lt (hlt b hb),fun x c e=>by
  rcases B.at_ x c e with⟨q,_⟩|⟨q,_⟩
  ·exact(hf b hb).2.2.2.2.1 x c q
  ·exact Nat.ne_of_gt (Nat.lt_trans (hlt b hb) q)⟩,
  I.bs,Nat.le_trans I.ok.CQ I.sz,fun b o e hb=>?_,fun b hb hz=>?_,I.stack,I.lE⟩,rfl,I.bare,Un.kept kp,⟨_,hn,fun i x v e1 e2 e3=>?_⟩,fun x c e=>?_,I.hok.fresh (Nat.le_refl _),fun x c e=>by
    rcases B.at_ x c e with⟨q,_⟩|⟨q,_⟩
    ·exact I.dD x c q
    ·exact I.hok.fresh (Nat.le_of_lt q),fun p hp=>?_,I.hok.kept kp,?_⟩
 ·rcases(hf b hb).2.2.2.1 with z|z
  ·exact I.ok.tK b o e z
  ·exact absurd (Nat.lt_of_lt_of_le (Heap.lt_size e) (Nat.le_trans I.ok.CQ z)) (Nat.lt_irrefl _)
 ·rcases List.mem_cons.mp (I.iy b hz) with z|z
  ·exact(hf b hb).2.1 z
  ·exact(hf b hb).2.2.1 z
 ·obtain⟨j,q1,q2,q0,q3⟩:=jQ hcap e1 e2
  obtain⟨m,hm,hl⟩:=I.loc
  have WQ:uY X.env.scope x:=by
   rw[hsc]
   rcases q3 with q3|q3
   ·exact .inr (.inl q3)
   ·exact .inr (.inr q3)
  obtain⟨u,ru,lk⟩:=hl j x v q1 q2 WQ
  refine⟨u,ru,?_⟩
  rcases lk with⟨k1,_⟩|⟨k1,c,hc,ic⟩
  ·exfalso
   have k1':sc.names.lookup x=some .local:=by rw[←hsc];exact k1
   rcases q3 with q3|q3<;>(rw[k1'] at q3;cases q3)
  ·have e3':(cX X N' scope cl s.heap.objs.size s H fp).env.kindOf x=some .local∨(cX X N' scope cl s.heap.objs.size s H fp).env.kindOf x=some .cell∨(cX X N' scope cl s.heap.objs.size s H fp).env.kindOf x=some .free:=e3
   rcases e3' with z|z
   ·exact absurd z (eY (env:=X.env) q0)
   ·obtain⟨d,hd⟩:=vN x z
    have:d=c:=by
     rcases B.at_ x d hd with⟨q,_⟩|⟨_,_,q⟩
     ·rw[hc] at q
      exact(Option.some.inj q).symm
     ·rw[q0] at q
      cases q
    subst this
    exact .inr ⟨z,d,hd,by
     obtain⟨o,ho,hd'⟩:=ic
     exact⟨o,kp _ _ ho,hd'⟩⟩
 ·rcases B.at_ x c e with⟨q,_⟩|⟨_,q,_⟩
  ·obtain⟨v,o,ho,hd⟩:=I.cell x c q
   exact⟨v,o,kp _ _ ho,hd⟩
  ·exact⟨none,q⟩
 ·exact absurd hp (by simp[cX])
 ·show _=N'.length
  rw[←hlen]
  simp[cJ]
theorem iJ{pins:List (Addr×Obj)}{σ σ':L2.St}{H H':Hp}{s s':Shared}{N':List Str}{cl:List (Str×Addr)}{fp:List Addr}{h':Heap}(I:Inv X pins σ H s)(hf:∀b∈fp,cH X pins H b)
 (J:Inv (cX X N' scope cl s.heap.objs.size s H fp) [] σ' H' s')(kp:∀b u,b≠s.heap.objs.size→s'.heap.get? b=some u→h'.get? b=some u):Inv X pins σ H' {s' with heap:=h'}:=by
 have ne:∀{b:Addr} {o:Obj},s.heap.get? b=some o→b≠s.heap.objs.size:=fun e=>Nat.ne_of_lt (Heap.lt_size e)
 have u:=J.base
 refine I.call' (ch:=fp) J.os ⟨fun b o e n hb hx=>kp b o (ne e) (u.keep b o e n hb hx),fun b o e n hb hx=>?_,fun b o e n hx=>u.free b o e n hx,fun b o e hx=>?_,u.tups,u.eN,u.fJ⟩ (rm J.hok J.free kp) J.bare fun b hb=>?_
 ·obtain⟨sl,q⟩:=u.slot b o e n hb hx
  exact⟨sl,kp b _ (ne e) q⟩
 ·obtain⟨o',q⟩:=u.there b o e hx
  exact⟨o',kp b _ (ne e) q⟩
 ·exact⟨(hf b hb).2.2.2.1,(hf b hb).2.1,(hf b hb).2.2.2.2.1,(hf b hb).2.2.2.2.2⟩
theorem Bo(N':List Str)(js:List Nat)(nl:Nat)(sc:Scope)(hsc:X.env.scope=sc)(hcalm:X.calm=true)
 (hi:PI X.Ţ tg iter wi)(hg:∀cl C s H fp,PG (cX X.Ţ N' scope cl C s H fp) tg g)(ht:∀cl C s H fp,Dh (cX X.Ţ N' scope cl C s H fp) ifs tt)(he:∀cl C s H fp,PE (cX X.Ţ N' scope cl C s H fp) elt te)
 (hcap:iI X.Ţ sc scope N' js)(hlen:js.length+nl=N'.length:=by rfl)
 (hk:scope.kind=.function:=by rfl)(hcell:∀y∈scope.names,y.2=.cell→scope.names.lookup y.1=some .cell:=by decide +kernel)(hnames:∀y∈scope.names,y.2=.local→scope.names.lookup y.1=some .local:=by decide +kernel)
 (hfree:∀y∈scope.names,y.2=.free→(sc.names.lookup y.1=some .cell∨sc.names.lookup y.1=some .free):=by decide +kernel)
 (hs:∀x,foldedSetIterable iter X.env x=pure x:=by intro _;rfl) :
 PE X.Ţ (.ListComp elt [⟨tg,iter,ifs,0⟩] scope pos) (vL js nl wi g tt te):=by
 intro pins s σ H Q I h
 obtain⟨Lk,c1,c2,c3⟩:=eV (scope:=scope) (env:=X.Ţ.env) fun y hy hf=>I.ok.has y.1 (by
  have:=hfree y hy hf
  rw[←hsc] at this
  exact this)
 rw[eval_ListComp]
 refine wpAny_comprehension_free (use:=none) rfl hs c1 hk hnames (Ť (hi pins s σ H _ I h) fun v s1 h1=>Ť h1 fun itv s2 h2=>?_)
 obtain⟨it,fp,tn,J,H2,e,I2,T,st2,f2,q2⟩:=h2
 subst e
 refine wpAny_newObj_type (dF (fun h₁ hns₁ old GC=>?_))
 dsimp only at hns₁ old GC ⊢
 generalize GD:s2.heap.push {cls:=.type "list",dict:=none,data:=.seq ([]:List Value).toArray}=aK at hns₁ old GC ⊢
 have hD:H2 s2.heap.objs.size=none:=I2.hok.fresh (Nat.le_refl _)
 have I3:Inv X.Ţ pins σ (upd H2 s2.heap.objs.size (.lst [])) {s2 with heap:=aK}:=by
  rw[←GD]
  exact I2.laid (t':=s2.toks) (fun b u e=>Heap.get?_push_of_some _ e) (Nat.le_refl _) ⟨Nat.zero_le _,[],0,.nil,Heap.get?_push_size _ rfl⟩
 have vO:∀b∈fp,b<s2.heap.objs.size:=fun b hb=>by
  obtain⟨o,ho,_⟩:=T.obj 0 _ st2 b hb
  exact Heap.lt_size ho
 have GF:aK.objs.size=s2.heap.objs.size+1:=by rw[←GD,Heap.size_push]
 have f3:∀b∈fp,cH X.Ţ pins (upd H2 s2.heap.objs.size (.lst [])) b:=fun b hb=>by
  obtain⟨g0,g1⟩:=f2 b hb
  exact⟨by rw[Ĝ (Nat.ne_of_lt (vO b hb))];exact g0,g1⟩
 have B:=vM (X:=X.Ţ) (cl:=Lk) hcell c2 c3 (fun x c e=>by
  obtain⟨v,o,ho,_⟩:=I3.cell x c e
  exact Heap.lt_size ho) GC
 generalize cellsFrom (aK.objs.size+1) scope.names Lk=cl at B ⊢
 obtain⟨W,⟨m0,w0⟩,turn⟩:=q2 s2.heap.objs.size hD
 have I4:=jR (X:=X.Ţ) (N':=N') (js:=js) (nl:=nl) (sc:=sc) (scope:=scope) (cl:=cl) (fp:=fp) (h':=h₁) (tk:=s2.toks) hsc hk hcap hlen B I3 f3 (fun b hb=>by show b<aK.objs.size;rw[GF];exact Nat.lt_succ_of_lt (vO b hb)) hns₁ old
 have Lp:tn 0 h₁:= T.keep 0 _ _ st2 fun b hb o e=>old b o (by rw[←GD];exact Heap.get?_push_of_some _ e)
 have WR:∀b∈fp,(upd H2 s2.heap.objs.size (.lst [])) b=none:=fun b hb=>(f3 b hb).1
 have stat:∀{H':Hp},(∀b∈fp,H' b=none)→∀b∈fp,cH (cX X.Ţ N' scope cl aK.objs.size {s2 with heap:=aK} (upd H2 s2.heap.objs.size (.lst [])) fp) [] H' b:=fun{H'} hn b hb=>by
  obtain⟨g0,g1,g2,g3,g4,g5⟩:=f3 b hb
  refine⟨hn b hb,Nat.ne_of_lt (by show b<aK.objs.size;rw[GF];exact Nat.lt_succ_of_lt (vO b hb)),fun z=>?_,.inl hb,fun x c e=>by
   rcases B.at_ x c e with⟨q,_⟩|⟨q,_⟩
   ·exact g4 x c q
   ·exact Nat.ne_of_gt (Nat.lt_trans (by show b<aK.objs.size;rw[GF];exact Nat.lt_succ_of_lt (vO b hb)) q),fun p hp=>absurd hp (by simp[cX])⟩
  rcases List.mem_cons.mp (I3.iy b z) with z|z
  ·exact g1 z
  ·exact g2 z
 have loop:∀s₃:Shared,s₃= {s2 with heap:=h₁}→
  codeAny (model X.prog X.w) X.A (.compLoop (.ListComp elt [⟨tg,iter,ifs,0⟩] scope pos) 0 (.ref it) (.ref s2.heap.objs.size) (compEnvC scope cl aK.objs.size X.Ţ.env))
   (compPost (model X.prog X.w) X.A X.Ţ.xe none (EP X.Ţ pins σ Q) (.ref s2.heap.objs.size) aK.objs.size) s₃:= by
  rintro s₃ rfl
  refine eX (fun n s'=>∃i σ' H',Inv (cX X.Ţ N' scope cl aK.objs.size {s2 with heap:=aK} (upd H2 s2.heap.objs.size (.lst [])) fp) [] σ' H' s'∧tn i s'.heap∧(∀b∈fp,H' b=none)∧W i n σ' H') ?_ m0 ⟨0,_,_,I4,Lp,WR,w0⟩
  rintro n s5 ⟨i,σ5,H5,I5,Ax,Fz,w5⟩
  rcases turn i n σ5 H5 w5 with⟨stop,qn⟩|⟨go,N,hN,step⟩
  ·refine Ť (T.done (cX X.Ţ N' scope cl aK.objs.size {s2 with heap:=aK} (upd H2 s2.heap.objs.size (.lst [])) fp) rfl rfl rfl hcalm i [] s5 σ5 H5 (fun _ _=>False) I5 (stat Fz) Ax stop) fun r s6 ⟨hr,I6⟩=>?_
   subst hr
   obtain⟨m,hm,_⟩:=I6.loc
   refine⟨m,hm,fun h' hs'=>⟨.ref s2.heap.objs.size,H5,iJ I3 f3 I6 (fun b u hb e=>hs'.extBut b u hb e),rfl,qn⟩⟩
  ·refine Ť (T.item (cX X.Ţ N' scope cl aK.objs.size {s2 with heap:=aK} (upd H2 s2.heap.objs.size (.lst [])) fp) rfl rfl rfl hcalm i [] s5 σ5 H5 (fun _ _=>False) I5 (stat Fz) Ax go) fun r s6 ⟨u,hr,h6⟩=>?_
   subst hr
   refine Ť h6 fun _ s7 ⟨x,H7,I7,r7,y7,GJ,WT⟩=>?_
   have WW:=I7.pinned (stat WT) (T.obj _ _ GJ)
   have again:∀{s8:Shared} {σ8:L2.St} {H8:Hp},Inv (cX X.Ţ N' scope cl aK.objs.size {s2 with heap:=aK} (upd H2 s2.heap.objs.size (.lst [])) fp) ([]++fK fp s7.heap) σ8 H8 s8→
    Inv (cX X.Ţ N' scope cl aK.objs.size {s2 with heap:=aK} (upd H2 s2.heap.objs.size (.lst [])) fp) [] σ8 H8 s8∧tn (i+1) s8.heap∧∀b∈fp,H8 b=none:=fun{s8 σ8 H8} I8=>by
    refine⟨I8.cI,T.keep _ _ _ GJ fun b hb o e=>(I8.pin (b,o) (List.mem_append_right _ (List.mem_append_right _ (Ź hb e)))).1,fun b hb=>?_⟩
    obtain⟨o,e,d⟩:=T.obj _ _ GJ b hb
    exact(I8.pin (b,o) (List.mem_append_right _ (List.mem_append_right _ (Ź hb e)))).2.1
   refine Ť (hg cl _ _ _ fp _ s7 σ5 H7 x u _ WW r7 (step x H7 y7)) fun _ s8 ⟨σ8,H8,I8,q8⟩=>?_
   refine Ť (ht cl _ _ _ fp _ s8 σ8 H8 _ I8 q8) fun c s9 ⟨H9,I9,q9⟩=>?_
   cases c with
   |false=>
    rw[if_neg Bool.false_ne_true] at q9 ⊢
    obtain⟨m',hm',w9⟩:=hN _ _ q9
    obtain⟨a1,a2,a3⟩:=again I9
    exact⟨m',hm',i+1,σ8,H9,a1,a2,a3,w9⟩
   |true=>
    rw[if_pos rfl] at q9 ⊢
    refine Ť (he cl _ _ _ fp _ s9 σ8 H9 _ I9 q9) fun yv WX ⟨y,WY,W_,r10,ys,e10,l10,w10⟩=>?_
    refine Ť (ź _ WX σ8 WY (.ref s2.heap.objs.size) [y] (.ref s2.heap.objs.size) [yv] (fun _ GK=>N σ8 GK) W_ rfl (.cons r10 .nil) ⟨_,ys,y,rfl,rfl,e10,l10,w10⟩) fun _ s11 ⟨v11,GK,Xa,_,w11⟩=>?_
    obtain⟨a1,a2,a3⟩:=again Xa
    obtain⟨m',hm',w11⟩:=hN _ _ w11
    exact⟨m',hm',i+1,σ8,GK,a1,a2,a3,w11⟩
 exact codeAny_compStart_list (loop _ rfl) (T.self _ 0 _ _ _ Lp (loop _ rfl))
end
def Its(z:Str):It:=⟨fun i _=>i<z.cps.size,fun i H x H'=>H'=H∧∃c,z.cps.toList[i]?=some c∧x=.str ⟨#[c]⟩,fun i _=>i=z.cps.size⟩
theorem um{P:Program}{w:World}{K:PySem.W.Frag}{tg:Expr}(it:Addr)(z:Str)(t:Tok)(ty:String)
 (hW:∀A:Around,A.handled=none→Walks P w A it [it] [it] z.cps.size (SignAt z) (fun i h=>h.IsStrIter it ty z t i))
 (hS:∀(A:Around) (i:Nat) (s:Shared) (Q:Value→Shared→Prop) (E:Value→Shared→Prop),s.heap.IsStrIter it ty z t i→Q (.ref it) s→wpAny (model P w) A (pyIter (.ref it)) Q E s)
 (hty:["enumerate","zip","dict_itemiterator","dict_reverseitemiterator","odict_iterator","itertools.zip_longest","itertools.pairwise"].contains ty=false):Turn P w K tg (Its z) [it] it (fun i h=>h.IsStrIter it ty z t i) where
 mem:=by simp
 obj:=fun i h st b hb=>by
  have e:b=it:=by simpa using hb
  subst e
  obtain⟨o,e,c,d⟩:=st
  exact⟨o,e,fun v z=>by rw[d] at z;cases z⟩
 keep:=fun i h h' st k=>by
  obtain⟨o,e,c,d⟩:=st
  exact⟨o,k it (by simp) o e,c,d⟩
 item:=by
  intro X hP hw hK hc i pins s σ H E I hf st hg
  subst hP hw hK
  obtain⟨f0,f1,f2,f3,f4,f5⟩:=hf it (by simp)
  refine(hW X.A (I.ok.hd hc)).item i s _ _ hg st fun v h' tk hv st' kk=>?_
  obtain⟨c,u,hcu,rfl⟩:=hv
  have I1:Inv X pins σ H {s with heap:=h',toks:=tk}:=I.turned (fun b o hb e=>kk b o (by simpa using hb) e) f0 f1 f3 f4 f5
  obtain⟨o,e,cl,d⟩:=id st'
  exact⟨_,rfl,qU (s:={s with heap:=h',toks:=tk}) e cl d hty ⟨.str ⟨#[c]⟩,H,I1,⟨u,rfl⟩,⟨rfl,c,by simpa using hcu,rfl⟩,st',fun b hb=>(hf b hb).1⟩⟩
 done:=by
  intro X hP hw hK hc i pins s σ H E I hf st hg
  subst hP hw hK
  obtain⟨f0,f1,f2,f3,f4,f5⟩:=hf it (by simp)
  have e:i=z.cps.size:=hg
  subst e
  exact(hW X.A (I.ok.hd hc)).done s _ _ st fun h' tk kk=>⟨rfl,I.turned (fun b o hb e=>kk b o (by simpa using hb) e) f0 f1 f3 f4 f5⟩
 self:=hS
section
variable{X:Cx}{tg:Expr}
end
end M3
namespace M4
open PySem PySem.Spec PyProof.Rows L2 M2 M3
section
variable{X:Cx}
theorem Bp{bs:List Bool}:∀{us:List Value},Vals (bs.map V.bl) us→us=bs.map Value.bool:=by
 induction bs with
 |nil=>intro us r;rw[List.map_nil] at r;cases r;rfl
 |cons b bs ih=>
  intro us r
  rw[List.map_cons] at r
  cases r with
  |cons r1 r2=>
   cases r1
   rw[ih r2]
   rfl
theorem all_range(bs:List Bool):(List.range (bs.map Value.bool).toArray.size).all (fun i=>bs.getD i false)=bs.all id:=by
 have e:(bs.map Value.bool).toArray.size=bs.length:=by simp
 rw[e,Bool.eq_iff_iff]
 simp only[List.all_eq_true,List.mem_range,id]
 constructor
 ·intro h b hb
  obtain⟨i,hi,rfl⟩:=List.mem_iff_getElem.mp hb
  have:=h i hi
  rw[List.getD_eq_getElem?_getD,List.getElem?_eq_getElem hi] at this
  exact this
 ·intro h i hi
  rw[List.getD_eq_getElem?_getD,List.getElem?_eq_getElem hi]
  exact h _ (List.getElem_mem hi)
theorem nA{prog:Program}{w:World}{A:Around}(bs:List Bool):TruthOf prog w A (fun i v=>(bs.map Value.bool).toArray[i]?=some v) (fun i=>bs.getD i false):=by
 intro i v s Q E hv hq
 have hv':bs[i]?.map Value.bool=some v:=by
  rw[←List.getElem?_map]
  simpa using hv
 cases hb:bs[i]? with
 |none=>rw[hb] at hv';cases hv'
 |some b=>
  rw[hb] at hv'
  cases hv'
  dsimp only at hq
  rw[List.getD_eq_getElem?_getD,hb] at hq
  exact wpAny_truthy_bool hq
def GP(K:PySem.W.Frag):List V→Hp→VK→Prop:=fun xs H Q=>match xs with
 | [.ref p]=>∃bs:List Bool,ų K H p (bs.map V.bl)∧Q (.bl (bs.all id)) H
 |_=>False
theorem lJ(hc:X.calm=true):Ő X (.builtin "all") (GP X.K):=by
 intro pins s σ H xs us Q I r h
 unfold GP at h
 split at h
 ·rename_i p
  obtain⟨bs,hS,q⟩:=h
  obtain⟨u,rfl,ru⟩:=vals1 r
  cases ru
  obtain⟨its,rv,pl,hz⟩:=I.list hS
  have e:=Bp rv
  subst e
  have hp:p≠s.heap.objs.size:=by
   obtain⟨o,n,e,_⟩:=pl
   exact Nat.ne_of_lt (Heap.lt_size e)
  refine call_all_walk (wpAny_pyIter_list pl.isList ?_)
  refine⟨s.heap.objs.size,_,_,_,_,_,_,rfl,Walks.list (A:=X.A.in1) (show X.A.in1.handled=none from I.ok.hd hc) s.heap.objs.size p hp (bs.map Value.bool).toArray,⟨⟨_,Heap.get?_push_size _ rfl,rfl,rfl⟩,pl.isList.at fun o e=>Heap.get?_push_of_some _ e⟩,nA bs,fun h' tk k=>?_⟩
  rw[all_range]
  exact⟨.bl _,H,I.kept fun b o e=>k b o (by simpa using Nat.ne_of_lt (Heap.lt_size e)) (Heap.get?_push_of_some _ e),rfl,q⟩
 ·exact h.elim
end
abbrev S(l:List Nat):Str:=⟨l.toArray⟩
theorem Lq(z:Str):z.cps.toList.length=z.length:=by simp[Str.length]
section
variable{X:Cx}
theorem mul_eq(z:Str){n:Int}(h:0≤n):Txt.mul z n=S (List.replicate n.toNat z.cps.toList).flatten:=by
 have key:∀(k:Nat) (acc:Array Nat),((List.replicate k z.cps).foldl (·++ ·) acc).toList=acc.toList++(List.replicate k z.cps.toList).flatten:=by
  intro k
  induction k with
  |zero=>intro acc;simp
  |succ k ih=>
   intro acc
   rw[List.replicate_succ,List.foldl_cons,ih,List.replicate_succ,List.flatten_cons]
   simp
 unfold Txt.mul
 refine PyProof.Rows.ext_toList ?_
 by_cases h1:n<1
 ·rw[if_pos h1]
  have:n.toNat=0:=by omega
  rw[this]
  simp[Str.empty]
 ·rw[if_neg h1]
  split
  ·rename_i hc
   rw[Bool.or_eq_true] at hc
   rcases hc with hc|hc
   ·have:n=1:=by simpa using hc
    subst this
    simp
   ·have h0:z.cps.toList=[]:=List.eq_nil_of_length_eq_zero (by rw[Lq];simpa using hc)
    rw[h0]
    simp
  ·rw[key]
   simp
def vP(z:Str)(n:Int):Prop:=0≤n∧n≤1000∧z.length≤1000
theorem vP.ok{z:Str}{n:Int}(h:vP z n):MulOk z n:=by
 obtain⟨h0,h1,h2⟩:=h
 refine⟨?_,fun hn _=>?_,fun hn _=>?_⟩
 ·rw[decide_eq_false (by omega),decide_eq_false (by omega)]
  rfl
 ·have:(9000000000000000:Int)≤(2 ^ 63-1) / n:=by
   rw[Int.le_ediv_iff_mul_le (by omega)]
   omega
  omega
 ·have:z.length*n.toNat≤1000*1000:=Nat.mul_le_mul h2 (by omega)
  unfold Builtin.Str.tooLong
  simp
  rw[sizeLine_eq]
  omega
def vQ:R2:=fun x y H Q=>match x,y with
 | .int i,.int j=>jO i j∧Q (.int (i*j)) H
 | .str z,.int n=>vP z n∧Q (.str (S (List.replicate n.toNat z.cps.toList).flatten)) H
 |_,_=>False
theorem Ģ:ż X (binaryOp .Mult) vQ:=by
 intro pins s σ H x y v u Q I rx ry h
 unfold vQ at h
 split at h
 ·exact Gx pins s σ H _ _ v u Q I rx ry h
 ·obtain⟨t,rfl⟩:=rx
  obtain⟨t',rfl⟩:=ry
  exact SB.mul h.1.ok fun t' k=>⟨.str _,H,I.tok _,⟨_,by rw[mul_eq _ h.1.1]⟩,h.2⟩
 ·exact h.elim
end
end M4
namespace P
def Xb:PySem.Expr→Bool
 | .Starred .. =>false
 |_=>true
theorem Ĉ{e:PySem.Expr}{es:List PySem.Expr}{env:PySem.Env}(h:Xb e=true):PySem.starEach (e::es) env=(false,PySem.eval e env)::PySem.starEach es env:=by
 cases e<;>first|rfl|cases h
theorem vR{a b:PySem.Expr}{env:PySem.Env}(h:Xb a=true)(h2:Xb b=true):PySem.starEach [a,b] env=[(false,PySem.eval a env),(false,PySem.eval b env)]:=by
 rw[Ĉ h,Ĉ h2];rfl
open PySem PySem.Spec PyProof.Rows L2 M2
structure KK where
 K:PySem.W.Frag
 cm:String→Addr
abbrev kk(X:Cx)(cm:String→Addr):KK:=⟨X.K,cm⟩
inductive PV where
 |non|bl (b:Bool)|int (i:Int)|str (x:Str)|tup (xs:List PV)|lst (xs:List PV)
 |ins (C:String) (ns:List Str) (xs:List PV)|xc (C:String) (ns:List Str) (xs:List PV)|ty (n:String)|cls (C:String)
def xo(a C:Addr)(d:Option Addr):HO:=.ext fun h=>∃o vs,h.get? a=some o∧o.cls=.ref C∧o.dict=d∧o.data=.fields vs
def jT(F:Hp)(d:Option Addr)(fs:List (Str×V)):Prop:=(d=none∧fs=[])∨∃a,d=some a∧F a=some (.xd fs)
mutual
def Rep(K:KK)(F:Hp):PV→V→Prop
 | .non,v=>v=.non
 | .bl b,v=>v=.bl b
 | .int i,v=>v=.int i
 | .str x,v=>v=.str x
 | .tup ps,v=>∃a xs,v=.ref a∧aZ K.K F a xs∧ĕ K F ps xs
 | .lst ps,v=>∃a xs,v=.ref a∧ų K.K F a xs∧ĕ K F ps xs
 | .ins C ns ps,v=>∃a dx fs,v=.ref a∧F a=some (.ins (K.cm C) dx fs)∧fs.map (·.1)=ns∧ĕ K F ps (fs.map (·.2))
 | .xc C ns ps,v=>∃a d fs,v=.ref a∧F a=some (xo a (K.cm C) d)∧jT F d fs∧fs.map (·.1)=ns∧ĕ K F ps (fs.map (·.2))
 | .ty n,v=>v=.ty n
 | .cls C,v=>v=.ref (K.cm C)
def ĕ(K:KK)(F:Hp):List PV→List V→Prop
 | [],xs=>xs=[]
 |p::ps,xs=>∃x r,xs=x::r∧Rep K F p x∧ĕ K F ps r
end
section
variable{K:KK}{F F' H H':Hp}
theorem jT.same{d:Option Addr}{fs:List (Str×V)}(e:Same F F')(h:jT F d fs):jT F' d fs:=by
 rcases h with h|⟨a,h1,h2⟩
 ·exact .inl h
 ·exact .inr ⟨a,h1,e _ _ h2⟩
mutual
theorem Rep.same(e:Same F F'):∀(p:PV) (v:V),Rep K F p v→Rep K F' p v
 | .non,_,h=>by unfold Rep at h ⊢;exact h
 | .bl _,_,h=>by unfold Rep at h ⊢;exact h
 | .int _,_,h=>by unfold Rep at h ⊢;exact h
 | .str _,_,h=>by unfold Rep at h ⊢;exact h
 | .ty _,_,h=>by unfold Rep at h ⊢;exact h
 | .cls _,_,h=>by unfold Rep at h ⊢;exact h
 | .tup ps,_,h=>by
   unfold Rep at h ⊢
   obtain⟨a,xs,h1,h2,h3⟩:=h
   exact⟨a,xs,h1,Same.tup e h2,ĕ.same e ps xs h3⟩
 | .lst ps,_,h=>by
   unfold Rep at h ⊢
   obtain⟨a,xs,h1,h2,h3⟩:=h
   exact⟨a,xs,h1,e.seq h2,ĕ.same e ps xs h3⟩
 | .ins C ns ps,_,h=>by
   unfold Rep at h ⊢
   obtain⟨a,dx,fs,h1,h2,h3,h4⟩:=h
   exact⟨a,dx,fs,h1,e _ _ h2,h3,ĕ.same e ps _ h4⟩
 | .xc C ns ps,_,h=>by
   unfold Rep at h ⊢
   obtain⟨a,d,fs,h1,h2,hd,h3,h4⟩:=h
   exact⟨a,d,fs,h1,e _ _ h2,hd.same e,h3,ĕ.same e ps _ h4⟩
theorem ĕ.same(e:Same F F'):∀(ps:List PV) (xs:List V),ĕ K F ps xs→ĕ K F' ps xs
 | [],_,h=>by unfold ĕ at h ⊢;exact h
 |p::ps,_,h=>by
  unfold ĕ at h ⊢
  obtain⟨x,r,h1,h2,h3⟩:=h
  exact⟨x,r,h1,Rep.same e p x h2,ĕ.same e ps r h3⟩
end
theorem ĕ.pr:∀{ps:List PV} {vs:List V},ĕ K F ps vs→Paired (Rep K F) ps vs
 | [],_,h=>by unfold ĕ at h;subst h;exact .nil
 |p::ps,_,h=>by
  unfold ĕ at h
  obtain⟨x,r,rfl,h2,h3⟩:=h
  exact .cons h2 (ĕ.pr h3)
theorem ĕ.of:∀{ps:List PV} {vs:List V},Paired (Rep K F) ps vs→ĕ K F ps vs
 | [],_,.nil=>by unfold ĕ;rfl
 |p::ps,_,.cons h t=>by unfold ĕ;exact⟨_,_,rfl,h,ĕ.of t⟩
theorem ĕ.nil:ĕ K F [] []:=ĕ.of .nil
theorem ĕ.cons{p:PV}{v:V}{ps:List PV}{vs:List V}(h:Rep K F p v)(t:ĕ K F ps vs):ĕ K F (p::ps) (v::vs):=ĕ.of (.cons h t.pr)
theorem ĕ.length{ps:List PV}{vs:List V}(h:ĕ K F ps vs):ps.length=vs.length:=Paired.length h.pr
theorem bf{α β:Type}{G:α→β→Prop}:∀{l:List α} {m:List β} {i:Nat} {x:α},Paired G l m→l[i]?=some x→∃y,m[i]?=some y∧G x y
 |_,_,_,_,.nil,e=>by simp at e
 |_,_,0,_,.cons r _,e=>by simp at e;subst e;exact⟨_,rfl,r⟩
 |_,_,i+1,x,.cons _ t,e=>by
  obtain⟨y,h1,h2⟩:=bf (i:=i) (x:=x) t (by simpa using e)
  exact⟨y,by simpa using h1,h2⟩
theorem pL{α β:Type}{G:α→β→Prop}:∀{l l2:List α} {m m2:List β},Paired G l m→Paired G l2 m2→Paired G (l++l2) (m++m2)
 |_,_,_,_,.nil,t=>t
 |_,_,_,_,.cons r s,t=>.cons r (pL s t)
theorem vU{α β:Type}{G:α→β→Prop}{x:α}{y:β}(r:G x y):∀{l:List α} {m:List β} (i:Nat),Paired G l m→Paired G (l.set i x) (m.set i y)
 |_,_,_,.nil=>.nil
 |_,_,0,.cons _ t=>.cons r t
 |_,_,i+1,.cons q t=>.cons q (vU r i t)
theorem vV{α β:Type}{G:α→β→Prop}:∀{l:List α} {m:List β},Paired G l m→Paired G l.reverse m.reverse
 |_,_,.nil=>.nil
 |_,_,.cons r t=>by
  rw[List.reverse_cons,List.reverse_cons]
  exact pL (vV t) (.cons r .nil)
theorem ĕ.append{ps qs:List PV}{vs us:List V}(h:ĕ K F ps vs)(t:ĕ K F qs us):ĕ K F (ps++qs) (vs++us):=ĕ.of (pL h.pr t.pr)
end
inductive Slot where
 |no|sh (p:PV)|ow (ps:List PV)|bw (ps:List PV)|rc (C:String) (ns:List Str) (ps:List PV)|ot (ps qs:List PV)
abbrev ł:=List Slot
def Slot.own:Slot→Bool
 | .ow _=>true
 | .rc _ _ _=>true
 | .ot _ _=>true
 |_=>false
structure Ctx where
 B:Hp
 F₀:Hp
 /-- what is lent here:read,never changed,never kept -/
 L:Hp
 /-- which objects may be held as one's own:address,dict,class -/
 S:Addr→Addr→String→Prop
def Ŵ(K:KK)(c:Ctx)(F H:Hp)(o:Option V):Slot→Prop
 | .no=>True
 | .sh p=>∃v,o=some v∧Rep K F p v
 | .ow ps=>∃a vs,o=some (.ref a)∧H a=some (.lst vs)∧F a=none∧c.B a=none∧ĕ K F ps vs
 | .bw ps=>∃a vs,o=some (.ref a)∧c.L a=some (.lst vs)∧ĕ K F ps vs
 | .rc C ns ps=>∃a dx fs,o=some (.ref a)∧H a=some (.ins (K.cm C) dx fs)∧F a=none∧c.B a=none∧fs.map (·.1)=ns∧ĕ K F ps (fs.map (·.2))∧c.S a dx C
 | .ot ps qs=>∃p a xs vs,o=some (.ref p)∧F p=some (.tup (xs ++ [.ref a]))∧ĕ K F ps xs∧H a=some (.lst vs)∧F a=none∧c.B a=none∧ĕ K F qs vs
def Slot.at_(F:Hp)(x:V)(a:Addr):Slot→Prop
 | .ot _ _=>∃p xs,x=.ref p∧F p=some (.tup (xs ++ [.ref a]))
 | .ow _=>x=.ref a
 | .rc _ _ _=>x=.ref a
 |_=>False
def Ō(F:Hp)(σ:L2.St)(ρ:ł)(i:Nat)(a:Addr):Prop:=∃s x,ρ[i]?=some s∧σ[i]?=some (some x)∧s.at_ F x a
structure Rel(K:KK)(c:Ctx)(F H:Hp)(σ:L2.St)(ρ:ł):Prop where
 sub:Same F H
 base:Same c.B H
 f0:Same c.F₀ F
 bC:∀a,c.B a≠none→c.F₀ a=none→F a=none
 lent:∀a u,c.L a=some u→H a=some u∧F a=none
 lb:∀a,c.B a=none→c.L a=none
 len:σ.length=ρ.length
 slot:∀(i:Nat) s,ρ[i]?=some s→Ŵ K c F H ((σ[i]?).getD none) s
 sep:∀i j a,Ō F σ ρ i a→Ō F σ ρ j a→i=j
def gA(F:Hp)(σ:L2.St)(ρ:ł)(a:Addr):Prop:=∀i,¬Ō F σ ρ i a
section
variable{K:KK}{c:Ctx}{F F' H H':Hp}{σ:L2.St}{ρ:ł}{a:Addr}{o:HO}
theorem fP{s:Slot}{x:V}(h:s.at_ F x a):s.own=true:=by
 cases s<;>first|rfl|exact h.elim
theorem Bq{s:Slot}{x:V}(e:Same F F')(h:s.at_ F x a):s.at_ F' x a:=by
 cases s with
 |ot ps qs=>obtain⟨p,xs,h1,h2⟩:=h;exact⟨p,xs,h1,e _ _ h2⟩
 |_=>exact h
theorem iK{s:Slot}{x:V}{b:Addr}(h:s.at_ F x a)(h':s.at_ F x b):a=b:=by
 cases s with
 |ot ps qs=>
  obtain⟨p,xs,h1,h2⟩:=h
  obtain⟨q,ys,h3,h4⟩:=h'
  rw[h1] at h3
  cases h3
  rw[h2] at h4
  have e:xs ++ [V.ref a]=ys ++ [V.ref b]:=by
   injection h4 with h4
   injection h4
  have e2:=congrArg List.getLast? e
  simp at e2
  exact e2
 |ow ps=>rw[show x=.ref a from h] at h';cases h';rfl
 |rc C ns ps=>rw[show x=.ref a from h] at h';cases h';rfl
 |no=>exact h.elim
 |sh p=>exact h.elim
 |bw ps=>exact h.elim
theorem Ŵ.grow{s:Slot}{x:Option V}(h:Ŵ K c F H x s)(eF:Same F F')(eH:∀b vs,(∃y,x=some y∧s.at_ F y b)→H b=some vs→F b=none→c.B b=none→H' b=some vs∧F' b=none):Ŵ K c F' H' x s:=by
 cases s with
 |no=>trivial
 |sh p=>obtain⟨v,h1,h2⟩:=h;exact⟨v,h1,h2.same eF p v⟩
 |ow ps=>
  obtain⟨b,vs,h1,h2,h3,h4,h5⟩:=h
  obtain⟨e1,e2⟩:=eH b _ ⟨_,h1,rfl⟩ h2 h3 h4
  exact⟨b,vs,h1,e1,e2,h4,h5.same eF ps vs⟩
 |bw ps=>obtain⟨b,vs,h1,h2,h3⟩:=h;exact⟨b,vs,h1,h2,h3.same eF ps vs⟩
 |rc C ns ps=>
  obtain⟨b,dx,fs,h1,h2,h3,h4,h5,h6⟩:=h
  obtain⟨e1,e2⟩:=eH b _ ⟨_,h1,rfl⟩ h2 h3 h4
  exact⟨b,dx,fs,h1,e1,e2,h4,h5,h6.1.same eF ps _,h6.2⟩
 |ot ps qs=>
  obtain⟨p,b,xs,vs,h1,h2,h3,h4,h5,h6,h7⟩:=h
  obtain⟨e1,e2⟩:=eH b _ ⟨_,h1,p,xs,rfl,h2⟩ h4 h5 h6
  exact⟨p,b,xs,vs,h1,eF _ _ h2,h3.same eF ps xs,e1,e2,h6,h7.same eF qs vs⟩
theorem Ŵ.owned{s:Slot}{x:Option V}(h:Ŵ K c F H x s)(hs:s.own=true):∃b u y,x=some y∧s.at_ F y b∧H b=some u∧F b=none∧c.B b=none:=by
 cases s with
 |no=>cases hs
 |sh p=>cases hs
 |bw ps=>cases hs
 |ow ps=>obtain⟨b,vs,h1,h2,h3,h4,h5⟩:=h;exact⟨b,_,_,h1,rfl,h2,h3,h4⟩
 |rc C ns ps=>obtain⟨b,dx,fs,h1,h2,h3,h4,h5,h6⟩:=h;exact⟨b,_,_,h1,rfl,h2,h3,h4⟩
 |ot ps qs=>obtain⟨p,b,xs,vs,h1,h2,h3,h4,h5,h6,h7⟩:=h;exact⟨b,_,_,h1,⟨p,xs,rfl,h2⟩,h4,h5,h6⟩
theorem bY{i:Nat}{x:V}(e:σ[i]?=some (some x)):(σ[i]?).getD none=some x:=by rw[e];rfl
theorem vW{i:Nat}{x:V}(e:(σ[i]?).getD none=some x):σ[i]?=some (some x):=by
 cases q:σ[i]? with
 |none=>rw[q] at e;cases e
 |some y=>rw[q] at e;exact congrArg some e
theorem Rel.owned(r:Rel K c F H σ ρ){i:Nat}(h:Ō F σ ρ i a):(∃u,H a=some u)∧F a=none∧c.B a=none:=by
 obtain⟨s,x,h1,h2,h3⟩:=h
 obtain⟨b,u,y,e,q0,q⟩:=(r.slot i s h1).owned (fP h3)
 rw[bY h2] at e
 cases e
 cases iK h3 q0
 exact⟨⟨u,q.1⟩,q.2⟩
theorem Rel.back(r:Rel K c F H σ ρ)(e:Same F F'){i:Nat}(h:Ō F' σ ρ i a):Ō F σ ρ i a:=by
 obtain⟨s,x,h1,h2,h3⟩:=h
 obtain⟨b,u,y,e1,q0,q⟩:=(r.slot i s h1).owned (fP h3)
 rw[bY h2] at e1
 cases e1
 cases iK h3 (Bq e q0)
 exact⟨s,x,h1,h2,q0⟩
theorem Rel.GQ(r:Rel K c F H σ ρ)(e:Same F F'):∀i j a,Ō F' σ ρ i a→Ō F' σ ρ j a→i=j:=fun i j a h1 h2=>r.sep i j a (r.back e h1) (r.back e h2)
theorem Rel.lK(r:Rel K c F H σ ρ)(e:Same F F')(h:gA F σ ρ a):gA F' σ ρ a:=fun i q=>h i (r.back e q)
theorem Rel.fresh(r:Rel K c F H σ ρ)(h:H a=none):gA F σ ρ a:=fun i q=>by
 obtain⟨⟨u,e⟩,_⟩:=r.owned q
 rw[h] at e;cases e
theorem Rel.alloc(r:Rel K c F H σ ρ)(h:H a=none):Rel K c (upd F a o) (upd H a o) σ ρ where
 sub:=fun b u e=>by
  by_cases hb:b=a
  ·subst hb;rw[ĥ] at e ⊢;exact e
  ·rw[Ĝ hb] at e ⊢;exact r.sub b u e
 base:=fun b u e=>by
  have hb:b≠a:=fun z=>by rw[z] at e;rw[r.base _ _ e] at h;cases h
  rw[Ĝ hb];exact r.base b u e
 f0:=fun b u e=>by
   have hb:b≠a:=fun z=>by rw[z] at e;rw[r.sub _ _ (r.f0 _ _ e)] at h;cases h
   rw[Ĝ hb];exact r.f0 b u e
 bC:=fun b h1 h2=>by
  have hb:b≠a:=fun z=>by
   subst z
   cases q:c.B b with
   |none=>exact h1 q
   |some u=>rw[r.base _ _ q] at h;cases h
  rw[Ĝ hb];exact r.bC b h1 h2
 lent:=fun b u e=>by
  obtain⟨h1,h2⟩:=r.lent b u e
  have hb:b≠a:=fun z=>by rw[z,h] at h1;cases h1
  rw[Ĝ hb,Ĝ hb];exact⟨h1,h2⟩
 lb:=r.lb
 len:=r.len
 slot:=fun i s e=>by
  have hF:F a=none:=r.sub.free h
  refine(r.slot i s e).grow (Same.upd hF) fun b u _ h1 h2 h3=>?_
  have hb:b≠a:=fun z=>by rw[z,h] at h1;cases h1
  rw[Ĝ hb,Ĝ hb];exact⟨h1,h2⟩
 sep:=r.GQ (Same.upd (r.sub.free h))
theorem Rel.made(r:Rel K c F H σ ρ)(h:H a=none):Rel K c F (upd H a o) σ ρ where
 sub:=r.sub.trans (Same.upd h)
 base:=r.base.trans (Same.upd h)
 f0:=r.f0
 bC:=r.bC
 lent:=fun b u e=>⟨Same.upd h b u (r.lent b u e).1,(r.lent b u e).2⟩
 lb:=r.lb
 len:=r.len
 slot:=fun i s e=>(r.slot i s e).grow (Same.refl F) fun b u _ h1 h2 h3=>⟨Same.upd h b u h1,h2⟩
 sep:=r.sep
theorem Rel.freeze(r:Rel K c F H σ ρ)(h:H a=some o)(hB:c.B a=none)(hF:F a=none)(hf:gA F σ ρ a):Rel K c (upd F a o) H σ ρ where
 sub:=fun b u e=>by
  by_cases hb:b=a
  ·subst hb;rw[ĥ] at e;rw[h];exact e
  ·rw[Ĝ hb] at e;exact r.sub b u e
 base:=r.base
 f0:=r.f0.trans (Same.upd hF)
 bC:=fun b h1 h2=>by
  have hb:b≠a:=fun z=>h1 (by rw[z];exact hB)
  rw[Ĝ hb];exact r.bC b h1 h2
 lent:=fun b u e=>by
  have hb:b≠a:=fun z=>by rw[z,r.lb a hB] at e;cases e
  rw[Ĝ hb];exact r.lent b u e
 lb:=r.lb
 len:=r.len
 slot:=fun i s e=>(r.slot i s e).grow (Same.upd hF) fun b' u' ⟨y,e1',ha⟩ h1 h2 h3=>by
  have hb:b'≠a:=fun z=>by
   subst z
   exact hf i ⟨s,y,e,vW e1',ha⟩
  rw[Ĝ hb];exact⟨h1,h2⟩
 sep:=r.GQ (Same.upd hF)
theorem ž{α:Type}{l:List α}{i j:Nat}{x y:α}(h:(l.set i x)[j]?=some y):(j=i∧y=x∧i<l.length)∨(j≠i∧l[j]?=some y):=by
 by_cases hj:j=i
 ·subst hj
  have hl:j<l.length:=by
   have:=(List.getElem?_eq_some_iff.mp h).1
   simpa using this
  rw[List.getElem?_set_self hl] at h
  exact .inl ⟨rfl,(Option.some.inj h).symm,hl⟩
 ·rw[List.getElem?_set_ne (Ne.symm hj)] at h
  exact .inr ⟨hj,h⟩
theorem vX{l:L2.St}{i:Nat}{x:Option V}(h:i<l.length):((l.set i x)[i]?).getD none=x:=by rw[List.getElem?_set_self h];rfl
theorem rz{l:L2.St}{i j:Nat}{x:Option V}(h:j≠i):((l.set i x)[j]?).getD none=(l[j]?).getD none:=by rw[List.getElem?_set_ne (Ne.symm h)]
theorem Ō.off{i j:Nat}{x:Option V}{s:Slot}(h:Ō F (σ.set i x) (ρ.set i s) j a)(hj:j≠i):Ō F σ ρ j a:=by
 obtain⟨s',y,h1,h2,h3⟩:=h
 rw[List.getElem?_set_ne (Ne.symm hj)] at h1 h2
 exact⟨s',y,h1,h2,h3⟩
theorem Rel.put(r:Rel K c F H σ ρ){i:Nat}{x:Option V}{s:Slot}(hs:s.own=false)(h:Ŵ K c F H x s):Rel K c F H (σ.set i x) (ρ.set i s) where
 sub:=r.sub
 base:=r.base
 f0:=r.f0
 bC:=r.bC
 lent:=r.lent
 lb:=r.lb
 len:=by simpa using r.len
 slot:=fun j s' e=>by
  rcases ž e with⟨rfl,rfl,hl⟩|⟨hj,e⟩
  ·rw[vX (by rw[r.len];exact hl)];exact h
  ·rw[rz hj];exact r.slot j s' e
 sep:=fun j k b h1 h2=>by
  have off:∀{j},Ō F (σ.set i x) (ρ.set i s) j b→j≠i:=fun{j} q z=>by
   subst z
   obtain⟨s',y,q1,_,q2⟩:=q
   rcases ž q1 with⟨_,rfl,_⟩|⟨q,_⟩
   ·have:=fP q2;rw[hs] at this;cases this
   ·exact q rfl
  exact r.sep j k b (h1.off (off h1)) (h2.off (off h2))
theorem Rel.vY(r:Rel K c F H σ ρ){i:Nat}{s:Slot}(hs:s.own=false)(h:Ŵ K c F H ((σ[i]?).getD none) s):Rel K c F H σ (ρ.set i s) where
 sub:=r.sub
 base:=r.base
 f0:=r.f0
 bC:=r.bC
 lent:=r.lent
 lb:=r.lb
 len:=by simpa using r.len
 slot:=fun j s' e=>by
  rcases ž e with⟨rfl,rfl,hl⟩|⟨hj,e⟩
  ·exact h
  ·exact r.slot j s' e
 sep:=fun j k b h1 h2=>by
  have off:∀{j},Ō F σ (ρ.set i s) j b→Ō F σ ρ j b:=fun{j} ⟨s',y,q1,q3,q2⟩=>by
   rcases ž q1 with⟨_,rfl,_⟩|⟨_,q⟩
   ·have:=fP q2;rw[hs] at this;cases this
   ·exact⟨s',y,q,q3,q2⟩
  exact r.sep j k b (off h1) (off h2)
theorem Rel.Br(r:Rel K c F H σ ρ){i:Nat}{x:V}{s:Slot}(h:Ŵ K c F H (some x) s)(ha:s.at_ F x a)(hf:gA F σ ρ a):Rel K c F H (σ.set i (some x)) (ρ.set i s) where
 sub:=r.sub
 base:=r.base
 f0:=r.f0
 bC:=r.bC
 lent:=r.lent
 lb:=r.lb
 len:=by simpa using r.len
 slot:=fun j s' e=>by
  rcases ž e with⟨rfl,rfl,hl⟩|⟨hj,e⟩
  ·rw[vX (by rw[r.len];exact hl)];exact h
  ·rw[rz hj];exact r.slot j s' e
 sep:=fun j k b h1 h2=>by
  have GR:∀{j},Ō F (σ.set i (some x)) (ρ.set i s) j b→(j=i∧b=a)∨(j≠i∧Ō F σ ρ j b∧b≠a):=fun{j} q=>by
   by_cases hj:j=i
   ·subst hj
    obtain⟨s',y,q1,q2,q3⟩:=q
    rcases ž q2 with⟨_,e,_⟩|⟨z,_⟩
    ·cases e
     rcases ž q1 with⟨_,e,_⟩|⟨z,_⟩
     ·cases e
      exact .inl ⟨rfl,iK q3 ha⟩
     ·exact absurd rfl z
    ·exact absurd rfl z
   ·exact .inr ⟨hj,q.off hj,fun z=>hf j (z▸q.off hj)⟩
  rcases GR h1 with⟨e1,z1⟩|⟨e1,o1,z1⟩
  ·rcases GR h2 with⟨e2,z2⟩|⟨e2,o2,z2⟩
   ·rw[e1,e2]
   ·exact absurd z1 z2
  ·rcases GR h2 with⟨e2,z2⟩|⟨e2,o2,z2⟩
   ·exact absurd z2 z1
   ·exact r.sep j k b o1 o2
theorem Rel.vZ(r:Rel K c F H σ ρ){i:Nat}{s:Slot}(ho:Ō F σ ρ i a)(h:Ŵ K c F (upd H a o) ((σ[i]?).getD none) s)(hs:∀x b,σ[i]?=some (some x)→s.at_ F x b→b=a):Rel K c F (upd H a o) σ (ρ.set i s) where
 sub:=fun b u e=>by
  have hb:b≠a:=fun z=>by rw[z,(r.owned ho).2.1] at e;cases e
  rw[Ĝ hb];exact r.sub b u e
 base:=fun b u e=>by
  have hb:b≠a:=fun z=>by rw[z,(r.owned ho).2.2] at e;cases e
  rw[Ĝ hb];exact r.base b u e
 f0:=r.f0
 bC:=r.bC
 lent:=fun b u e=>by
  have hb:b≠a:=fun z=>by rw[z,r.lb a (r.owned ho).2.2] at e;cases e
  rw[Ĝ hb];exact r.lent b u e
 lb:=r.lb
 len:=by simpa using r.len
 slot:=fun j s' e=>by
  rcases ž e with⟨rfl,rfl,hl⟩|⟨hj,e⟩
  ·exact h
  ·refine(r.slot j s' e).grow (Same.refl F) fun b u ⟨y,e1,e2⟩ h1 h2 h3=>?_
   have hb:b≠a:=fun z=>by
    subst z
    exact hj (r.sep j i b ⟨s',y,e,vW e1,e2⟩ ho)
   exact⟨by rw[Ĝ hb];exact h1,h2⟩
 sep:=fun j k b h1 h2=>by
  have off:∀{j},Ō F σ (ρ.set i s) j b→Ō F σ ρ j b:=fun{j} ⟨s',y,q1,q3,q2⟩=>by
   rcases ž q1 with⟨e,rfl,_⟩|⟨_,q⟩
   ·subst e
    rw[hs y b q3 q2]
    exact ho
   ·exact⟨s',y,q,q3,q2⟩
  exact r.sep j k b (off h1) (off h2)
theorem Rel.write(r:Rel K c F H σ ρ){i:Nat}{s:Slot}(ho:Ō F σ ρ i a)(hx:σ[i]?=some (some (.ref a)))(h:Ŵ K c F (upd H a o) (some (.ref a)) s)(hs:∀b,s.at_ F (.ref a) b→b=a):Rel K c F (upd H a o) σ (ρ.set i s):=
 r.vZ ho (by rw[hx];exact h) fun x b e q=>by rw[hx] at e;cases e;exact hs b q
structure Gr(F H F' H':Hp):Prop where
 h:Same H H'
 f:Same F F'
 sub:Same F' H'
 out:∀a,H a≠none→F a=none→F' a=none
theorem Rel.call(r:Rel K c F H σ ρ)(g:Gr F H F' H'):Rel K c F' H' σ ρ where
 sub:=g.sub
 base:=r.base.trans g.h
 f0:=r.f0.trans g.f
 bC:=fun b h1 h2=>by
  refine g.out b (fun z=>h1 ?_) (r.bC b h1 h2)
  cases q:c.B b with
  |none=>rfl
  |some u=>rw[r.base _ _ q] at z;cases z
 lent:=fun b u e=>⟨g.h b u (r.lent b u e).1,g.out b (by rw[(r.lent b u e).1];intro z;cases z) (r.lent b u e).2⟩
 lb:=r.lb
 len:=r.len
 slot:=fun i s e=>(r.slot i s e).grow g.f fun b u _ h1 h2 h3=>⟨g.h b u h1,g.out b (by rw[h1];intro z;cases z) h2⟩
 sep:=r.GQ g.f
def ctx0(F H:Hp):Ctx:=⟨H,F,fun a=>match F a with
 |none=>H a
 |some _=>none,fun _ _ _=>True⟩
theorem fQ{a:Addr}{u:HO}(h:(ctx0 F H).L a=some u):H a=some u∧F a=none:=by
 unfold ctx0 at h
 dsimp only at h
 cases q:F a with
 |none=>rw[q] at h;exact⟨h,rfl⟩
 |some o=>rw[q] at h;cases h
theorem Rel.gr(r:Rel K (ctx0 F H) F' H' σ ρ):Gr F H F' H':=⟨r.base,r.f0,r.sub,r.bC⟩
def dG(K:KK)(F H:Hp):Slot→V→Prop
 | .sh p,v=>Rep K F p v
 | .bw ps,v=>∃a vs,v=.ref a∧H a=some (.lst vs)∧F a=none∧ĕ K F ps vs
 |_,_=>False
theorem dG.slot{s:Slot}{v:V}(h:dG K F H s v):Ŵ K (ctx0 F H) F H (some v) s∧s.own=false:=by
 cases s with
 |sh p=>exact⟨⟨v,rfl,h⟩,rfl⟩
 |bw ps=>
  obtain⟨a,vs,rfl,h1,h2,h3⟩:=h
  refine⟨⟨a,vs,rfl,?_,h3⟩,rfl⟩
  show(match F a with|none=>H a|some _=>none)=_
  rw[h2]
  exact h1
 |no=>exact h.elim
 |ow ps=>exact h.elim
 |rc C ns ps=>exact h.elim
 |ot ps qs=>exact h.elim
def startP(n:Nat)(as:List Slot):ł:=as++List.replicate (n-as.length) .no
theorem Rel.start{N:List Str}{as:List Slot}{vs:List V}(s:Same F H)(h:Paired (dG K F H) as vs):Rel K (ctx0 F H) F H (L2.start N vs) (startP N.length as) where
 sub:=s
 base:=Same.refl H
 f0:=Same.refl F
 bC:=fun _ _ h=>h
 lent:=fun _ _ e=>fQ e
 lb:=fun a e=>by
   cases q:(ctx0 F H).L a with
   |none=>rfl
   |some u=>
    have e':H a=none:=e
    rw[(fQ q).1] at e'
    cases e'
 len:=by unfold L2.start startP;simp[Paired.length h]
 slot:=fun i s' e=>by
  unfold startP at e
  by_cases hi:i<as.length
  ·rw[List.getElem?_append_left hi] at e
   obtain⟨v,h1,h2⟩:=bf h e
   have hv:((L2.start N vs)[i]?).getD none=some v:=by
    unfold L2.start
    rw[List.getElem?_append_left (by simpa[←Paired.length h] using hi),List.getElem?_map,h1];rfl
   rw[hv]
   exact(dG.slot h2).1
  ·rw[List.getElem?_append_right (by omega),List.getElem?_replicate] at e
   split at e
   ·cases e;trivial
   ·cases e
 sep:=fun i j a h1 _=>by
  obtain⟨s',y,h1,_,h2⟩:=h1
  have h2:=fP h2
  exfalso
  unfold startP at h1
  by_cases hi:i<as.length
  ·rw[List.getElem?_append_left hi] at h1
   obtain⟨v,_,h3⟩:=bf h h1
   rw[(dG.slot h3).2] at h2
   cases h2
  ·rw[List.getElem?_append_right (by omega),List.getElem?_replicate] at h1
   split at h1
   ·cases h1;cases h2
   ·cases h1
end
structure PX where
 C:String
 ns:List Str
 ps:List PV
def GX(K:KK)(F:Hp)(x:PX)(C:Value)(d:Option Addr):Prop:=C=.ref (K.cm x.C)∧∃fs,jT F d fs∧fs.map (·.1)=x.ns∧ĕ K F x.ps (fs.map (·.2))
inductive Res(α:Type) where
 |ok (a:α) (ρ:ł)|exc (x:PX) (ρ:ł)|bad
def Res.bind{α β:Type}(r:Res α)(f:α→ł→Res β):Res β:= match r with
 | .ok a ρ=>f a ρ
 | .exc x ρ=>.exc x ρ
 | .bad=>.bad
@[simp] theorem Res.ş{α β:Type}{a:α}{ρ:ł}{f:α→ł→Res β}:(Res.ok a ρ).bind f=f a ρ:= rfl
@[simp] theorem Res.Lr{α β:Type}{x:PX}{ρ:ł}{f:α→ł→Res β}:(Res.exc x ρ:Res α).bind f=.exc x ρ:= rfl
@[simp] theorem Res.Lw{α β:Type}{f:α→ł→Res β}:(Res.bad:Res α).bind f=.bad:=rfl
def Res.gW{α:Type}(o:Option α)(ρ:ł):Res α:= match o with
 |some a=>.ok a ρ
 |none=>.bad
@[simp] theorem Res.Lx{α:Type}{a:α}{ρ:ł}:Res.gW (some a) ρ=.ok a ρ:= rfl
@[simp] theorem Res.Ly{α:Type}{ρ:ł}:Res.gW (none:Option α) ρ=.bad:=rfl
abbrev M(α:Type):=ł→Res α
inductive RV where
 |sh (p:PV)|ow (ps:List PV)|ot (ps qs:List PV)
def RV.val:RV→PV
 | .sh p=>p
 | .ow ps=>.lst ps
 | .ot ps qs=>.tup (ps ++ [.lst qs])
def RV.slot:RV→Slot
 | .sh p=>.sh p
 | .ow ps=>.ow ps
 | .ot ps qs=>.ot ps qs
abbrev RR(α β:Type):=Ctx→L2.St→ł→Hp→Hp→α→β→Prop
def rV(K:KK):RR PV V:=fun _ _ _ F _ p v=>Rep K F p v
def rC(K:KK)(F H:Hp)(p:PV)(v:V):Prop:=match p with
 | .lst ps=>∃a vs,v=.ref a∧H a=some (.lst vs)∧ĕ K F ps vs
 | .ins C ns ps=>∃a dx fs,v=.ref a∧H a=some (.ins (K.cm C) dx fs)∧fs.map (·.1)=ns∧ĕ K F ps (fs.map (·.2))
 |_=>False
def rR(K:KK):RR PV V:=fun _ _ _ F H p v=>Rep K F p v∨rC K F H p v
def rA(K:KK):RR (List Slot) (List V):=fun _ _ _ F H as vs=>Paired (dG K F H) as vs
def Held(K:KK)(c:Ctx)(σ:L2.St)(ρ:ł)(F H:Hp)(ps:List PV)(v:V):Prop:=∃a vs,v=.ref a∧H a=some (.lst vs)∧F a=none∧c.B a=none∧gA F σ ρ a∧ĕ K F ps vs
def rD(K:KK)(c:Ctx)(σ:L2.St)(ρ:ł)(F H:Hp)(ps qs:List PV)(v:V):Prop:=∃p a xs vs,v=.ref p∧F p=some (.tup (xs ++ [.ref a]))∧ĕ K F ps xs∧H a=some (.lst vs)∧F a=none∧c.B a=none∧gA F σ ρ a∧ĕ K F qs vs
def rO(K:KK):RR RV V:=fun c σ ρ F H r v=>match r with
 | .sh p=>Rep K F p v
 | .ow ps=>Held K c σ ρ F H ps v
 | .ot ps qs=>rD K c σ ρ F H ps qs v
def rL(K:KK):RR (List PV) (List V):=fun _ _ _ F _ p v=>ĕ K F p v
def Lz(K:KK):RR (List PV) (List V):=fun c σ ρ F H p v=>Paired (rR K c σ ρ F H) p v
def rB:RR Bool Bool:=fun _ _ _ _ _ p v=>p=v
def bG{α β:Type}(K:KK)(E:L2.St→XK)(R:RR α β)(c:Ctx)(F H:Hp)(σ:L2.St)(Q:β→Hp→Prop):Res α→Prop
 | .ok p ρ'=>∀v F' H',Rel K c F' H' σ ρ'→Same F F'→Same H H'→R c σ ρ' F' H' p v→Q v H'
 | .exc x ρ'=>∀C d F' H',Rel K c F' H' σ ρ'→Same F F'→GX K F' x C d→E σ C d H'
 | .bad=>False
def tG{α β:Type}(K:KK)(E:L2.St→XK)(R:RR α β)(m:M α):L2.St→Hp→(β→Hp→Prop)→Prop:=fun σ H Q=>∃c F ρ,Rel K c F H σ ρ∧bG K E R c F H σ Q (m ρ)
section
variable{α β α' β':Type}{K:KK}{E:L2.St→XK}{R:RR α β}{R':RR α' β'}{c:Ctx}{F F1 H H1:Hp}{σ:L2.St}
theorem bG.mono{Q:β→Hp→Prop}{r:Res α}(h:bG K E R c F H σ Q r)(sF:Same F F1)(sH:Same H H1):bG K E R c F1 H1 σ Q r:=by
 cases r with
 |ok p ρ'=>exact fun v F' H' rel s1 s2 q=>h v F' H' rel (sF.trans s1) (sH.trans s2) q
 |exc x ρ'=>exact fun C d F' H' rel s1 q=>h C d F' H' rel (sF.trans s1) q
 |bad=>exact h
theorem bG.bind{Q:β→Hp→Prop}{Q':β'→Hp→Prop}{r:Res α}{f:α→ł→Res α'}(h:bG K E R' c F H σ Q' (r.bind f))
 (k:∀p ρ1 v F1 H1,Rel K c F1 H1 σ ρ1→Same F F1→Same H H1→R c σ ρ1 F1 H1 p v→bG K E R' c F1 H1 σ Q' (f p ρ1)→Q v H1):bG K E R c F H σ Q r:=by
 cases r with
 |ok p ρ'=>exact fun v F' H' rel s1 s2 q=>k p ρ' v F' H' rel s1 s2 q (bG.mono (show bG K E R' c F H σ Q' (f p ρ') from h) s1 s2)
 |exc x ρ'=>exact h
 |bad=>exact h
theorem bG.rel{R2:RR α β}{Q:β→Hp→Prop}{r:Res α}(h:bG K E R c F H σ Q r)(k:∀p ρ' v F' H',Rel K c F' H' σ ρ'→R2 c σ ρ' F' H' p v→R c σ ρ' F' H' p v):bG K E R2 c F H σ Q r:=by
 cases r with
 |ok p ρ'=>exact fun v F' H' rel s1 s2 q=>h v F' H' rel s1 s2 (k p ρ' v F' H' rel q)
 |exc x ρ'=>exact h
 |bad=>exact h
end
abbrev tV(K:KK)(E:L2.St→XK)(m:M PV):TE:=tG K E (rV K) m
abbrev tR(K:KK)(E:L2.St→XK)(m:M PV):TE:=tG K E (rR K) m
abbrev tO(K:KK)(E:L2.St→XK)(m:M RV):TE:=tG K E (rO K) m
abbrev tL(K:KK)(E:L2.St→XK)(m:M (List PV)):TA:=tG K E (rL K) m
abbrev tA(K:KK)(E:L2.St→XK)(m:M (List Slot)):TA:=tG K E (rA K) m
abbrev LC(K:KK)(E:L2.St→XK)(m:M (List PV)):TA:=tG K E (Lz K) m
abbrev tB(K:KK)(E:L2.St→XK)(m:M Bool):TT:=tG K E rB m
inductive Fl where
 |nx|bk|ct|rt (r:RV)
def Ŧ(K:KK)(E:L2.St→XK)(c:Ctx)(F:Hp)(D:Ends):Res Fl→Prop
 | .ok .nx ρ'=>∀σ' F' H',Rel K c F' H' σ' ρ'→Same F F'→D.nx σ' H'
 | .ok .bk ρ'=>∀σ' F' H',Rel K c F' H' σ' ρ'→Same F F'→D.bk σ' H'
 | .ok .ct ρ'=>∀σ' F' H',Rel K c F' H' σ' ρ'→Same F F'→D.ct σ' H'
 | .ok (.rt r) ρ'=>∀v σ' F' H',Rel K c F' H' σ' ρ'→Same F F'→rO K c σ' ρ' F' H' r v→D.rt v H'
 | .exc x ρ'=>∀σ' C d F' H',Rel K c F' H' σ' ρ'→Same F F'→GX K F' x C d→E σ' C d H'
 | .bad=>False
def tS(K:KK)(E:L2.St→XK)(m:M Fl):TS:=fun D σ H=>∃c F ρ,Rel K c F H σ ρ∧Ŧ K E c F D (m ρ)
section
variable{K:KK}{E:L2.St→XK}{c:Ctx}{F F1:Hp}{D:Ends}
theorem Ŧ.mono{r:Res Fl}(h:Ŧ K E c F D r)(sF:Same F F1):Ŧ K E c F1 D r:=by
 cases r with
 |ok f ρ'=>
  cases f with
  |rt v=>exact fun v σ' F' H' rel s1 q=>h v σ' F' H' rel (sF.trans s1) q
  |nx=>exact fun σ' F' H' rel s1=>h σ' F' H' rel (sF.trans s1)
  |bk=>exact fun σ' F' H' rel s1=>h σ' F' H' rel (sF.trans s1)
  |ct=>exact fun σ' F' H' rel s1=>h σ' F' H' rel (sF.trans s1)
 |exc x ρ'=>exact fun σ' C d F' H' rel s1 q=>h σ' C d F' H' rel (sF.trans s1) q
 |bad=>exact h
theorem Ŧ.bind{α β:Type}{R:RR α β}{σ:L2.St}{H:Hp}{Q:β→Hp→Prop}{r:Res α}{f:α→ł→Res Fl}(h:Ŧ K E c F D (r.bind f))
 (k:∀p ρ1 v F1 H1,Rel K c F1 H1 σ ρ1→Same F F1→R c σ ρ1 F1 H1 p v→Ŧ K E c F1 D (f p ρ1)→Q v H1):bG K E R c F H σ Q r:=by
 cases r with
 |ok p ρ'=>exact fun v F' H' rel s1 s2 q=>k p ρ' v F' H' rel s1 q (Ŧ.mono (show Ŧ K E c F D (f p ρ') from h) s1)
 |exc x ρ'=>exact fun C d F' H' rel s1 q=>h σ C d F' H' rel s1 q
 |bad=>exact h
end
end P
namespace P
open PySem PySem.Spec PyProof.Rows L2 M2
def ĺ(i:Nat):M PV:=fun ρ=>match ρ[i]? with
 |some (.sh p)=>.ok p ρ
 |some (.ow ps)=>.ok (.lst ps) (ρ.set i (.sh (.lst ps)))
 |_=>.bad
def Ā(i:Nat):M PV:=fun ρ=>match ρ[i]? with
 |some (.sh p)=>.ok p ρ
 |some (.ow ps)=>.ok (.lst ps) ρ
 |some (.bw ps)=>.ok (.lst ps) ρ
 |some (.rc C ns ps)=>.ok (.ins C ns ps) ρ
 |_=>.bad
def dH(i:Nat):M RV:=fun ρ=>match ρ[i]? with
 |some (.sh p)=>.ok (.sh p) ρ
 |some (.ow ps)=>.ok (.ow ps) (ρ.set i .no)
 |_=>.bad
def mC(p:PV):M PV:=fun ρ=>.ok p ρ
def ř(m:M PV):M RV:=fun ρ=>(m ρ).bind fun p ρ1=>.ok (.sh p) ρ1
def ě(m:M RV):M PV:=fun ρ=>(m ρ).bind fun r ρ1=>.ok r.val ρ1
section
variable{K:KK}{c:Ctx}{F H:Hp}{σ:L2.St}{ρ:ł}
theorem at_of{i:Nat}{x:V}(h:(σ[i]?).getD none=some x):σ[i]?=some (some x):=by
 cases q:σ[i]? with
 |none=>rw[q] at h;cases h
 |some y=>rw[q] at h;exact congrArg some h
theorem Rel.ow(r:Rel K c F H σ ρ){i:Nat}{ps:List PV}(e:ρ[i]?=some (.ow ps)):∃a vs,σ[i]?=some (some (.ref a))∧H a=some (.lst vs)∧F a=none∧c.B a=none∧ĕ K F ps vs∧Ō F σ ρ i a:=by
 obtain⟨a,vs,h1,h2,h3,h4,h5⟩:=r.slot i _ e
 exact⟨a,vs,at_of h1,h2,h3,h4,h5,⟨_,_,e,at_of h1,rfl⟩⟩
theorem Rel.move(r:Rel K c F H σ ρ){i:Nat}{a:Addr}(h:Ō F σ ρ i a):Rel K c F H σ (ρ.set i .no)∧gA F σ (ρ.set i .no) a:=by
 refine⟨r.vY rfl trivial,fun j ⟨s,y,q1,q3,q2⟩=>?_⟩
 rcases ž q1 with⟨_,rfl,_⟩|⟨hj,q⟩
 ·exact q2.elim
 ·exact hj (r.sep j i a ⟨s,y,q,q3,q2⟩ h)
theorem Rel.share(r:Rel K c F H σ ρ){i:Nat}{ps:List PV}(e:ρ[i]?=some (.ow ps)):∃a vs,σ[i]?=some (some (.ref a))∧F a=none∧Rep K (upd F a (.lst vs)) (.lst ps) (.ref a)∧Rel K c (upd F a (.lst vs)) H σ (ρ.set i (.sh (.lst ps))):=by
 obtain⟨a,vs,h1,h2,h3,h4,h5,ho⟩:=r.ow e
 obtain⟨m1,m2⟩:=r.move ho
 have rp:Rep K (upd F a (.lst vs)) (.lst ps) (.ref a):=by
  unfold Rep
  exact⟨a,vs,rfl,ų.of ĥ,h5.same (Same.upd h3) ps vs⟩
 have q:=(m1.freeze h2 h4 h3 m2).vY (i:=i) (s:=.sh (.lst ps)) rfl (show Ŵ K c _ H _ (.sh (.lst ps)) from⟨.ref a,by rw[h1];rfl,rp⟩)
 rw[List.set_set] at q
 exact⟨a,vs,h1,h3,rp,q⟩
theorem rC.mono{F1 H1:Hp}{p:PV}{v:V}(h:rC K F H p v)(sF:Same F F1)(sH:Same H H1):rC K F1 H1 p v:=by
 cases p with
 |lst ps=>
  obtain⟨a,vs,h2,h3,h4⟩:=h
  exact⟨a,vs,h2,sH _ _ h3,h4.same sF ps vs⟩
 |ins C ns ps=>
  obtain⟨a,dx,fs,h2,h3,h4,h5⟩:=h
  exact⟨a,dx,fs,h2,sH _ _ h3,h4,h5.same sF ps _⟩
 |_=>exact h.elim
theorem rR.mono{c:Ctx}{σ:L2.St}{ρ ρ':ł}{F1 H1:Hp}{p:PV}{v:V}(h:rR K c σ ρ F H p v)(sF:Same F F1)(sH:Same H H1):rR K c σ ρ' F1 H1 p v:=by
 rcases h with h|h
 ·exact .inl (h.same sF p v)
 ·exact .inr (h.mono sF sH)
theorem rR.lst{c:Ctx}{σ:L2.St}{ρ:ł}{ps:List PV}{v:V}(s:Same F H)(h:rR K c σ ρ F H (.lst ps) v):∃a vs,v=.ref a∧ų K.K H a vs∧ĕ K F ps vs:=by
 rcases h with h|⟨a,vs,h2,h3,h4⟩
 ·unfold Rep at h
  obtain⟨a,xs,h1,h2,h3⟩:=h
  exact⟨a,xs,h1,s.seq h2,h3⟩
 ·exact⟨a,vs,h2,ų.of h3,h4⟩
theorem rR.tup{c:Ctx}{σ:L2.St}{ρ:ł}{ps:List PV}{v:V}(s:Same F H)(h:rR K c σ ρ F H (.tup ps) v):∃a vs,v=.ref a∧aZ K.K H a vs∧ĕ K F ps vs:=by
 rcases h with h|h
 ·unfold Rep at h
  obtain⟨a,xs,h1,h2,h3⟩:=h
  exact⟨a,xs,h1,Same.tup s h2,h3⟩
 ·exact h.elim
theorem rR.int{c:Ctx}{σ:L2.St}{ρ:ł}{i:Int}{v:V}(h:rR K c σ ρ F H (.int i) v):v=.int i:=by
 rcases h with h|h
 ·unfold Rep at h;exact h
 ·exact h.elim
theorem rR.str{c:Ctx}{σ:L2.St}{ρ:ł}{i:Str}{v:V}(h:rR K c σ ρ F H (.str i) v):v=.str i:=by
 rcases h with h|h
 ·unfold Rep at h;exact h
 ·exact h.elim
theorem rR.bl{c:Ctx}{σ:L2.St}{ρ:ł}{i:Bool}{v:V}(h:rR K c σ ρ F H (.bl i) v):v=.bl i:=by
 rcases h with h|h
 ·unfold Rep at h;exact h
 ·exact h.elim
theorem rR.non{c:Ctx}{σ:L2.St}{ρ:ł}{v:V}(h:rR K c σ ρ F H .non v):v=.non:=by
 rcases h with h|h
 ·unfold Rep at h;exact h
 ·exact h.elim
theorem rR.ty{c:Ctx}{σ:L2.St}{ρ:ł}{n:String}{v:V}(h:rR K c σ ρ F H (.ty n) v):v=.ty n:=by
 rcases h with h|h
 ·unfold Rep at h;exact h
 ·exact h.elim
theorem Rep.int{i:Int}:Rep K F (.int i) (.int i):=by unfold Rep;rfl
theorem Rep.str{i:Str}:Rep K F (.str i) (.str i):=by unfold Rep;rfl
theorem Rep.bl{i:Bool}:Rep K F (.bl i) (.bl i):=by unfold Rep;rfl
theorem Rep.non:Rep K F .non .non:=by unfold Rep;rfl
end
section
variable{X:Cx}{cm:String→Addr}{E:L2.St→XK}{a b e:Expr}{es:List Expr}{pos:Pos}{m ma mb mc:M PV}{mo:M RV}
theorem PT.wk{t t':TT}(h:PT X e t)(i:∀σ H Q,t' σ H Q→t σ H Q):PT X e t':=fun pins s σ H Q I q=>h pins s σ H Q I (i σ H Q q)
theorem PA.wk{t t':TA}(h:PA X es t)(i:∀σ H Q,t' σ H Q→t σ H Q):PA X es t':=fun pos pins s σ H Q I q=>h pos pins s σ H Q I (i σ H Q q)
theorem PW.wk{t t':TT}(h:PW X e t)(i:∀σ H Q,t' σ H Q→t σ H Q):PW X e t':=fun wh pins s σ H Q I q=>h wh pins s σ H Q I (i σ H Q q)
theorem gQ.wk{st:List Stmt}{t t':TS}(h:gQ X st t)(i:∀D σ H,t' D σ H→t D σ H):gQ X st t':=fun pins s σ H D I q=>h pins s σ H D I (i D σ H q)
theorem v_var(i:Nat){x:Str}{pos:Pos}(hN:X.N[i]?=some x:=by rfl)(hv:uY X.env.scope x:=by first|exact Or.inl rfl|exact Or.inr (Or.inl rfl)|exact Or.inr (Or.inr rfl))(hd:(x== ("__debug__" :Str))=false:=by decide)
 (hcd:(x== ("__classdict__" :Str))=false:=by decide):PE X (.Name x pos) (tV (kk X cm) E (ĺ i)):=PE.wk (cG hN hv hd hcd) fun σ H Q ⟨c,F,ρ,rel,h⟩=>by
 unfold ĺ at h
 split at h
 ·rename_i p e
  obtain⟨v,h1,h2⟩:=rel.slot i _ e
  exact⟨v,at_of h1,h v F H rel (Same.refl F) (Same.refl H) h2⟩
 ·rename_i ps e
  obtain⟨a,vs,h1,h2,h3,h4⟩:=rel.share e
  exact⟨.ref a,h1,h _ _ H h4 (Same.upd h2) (Same.refl H) h3⟩
 ·exact h.elim
theorem ă(i:Nat){x:Str}{pos:Pos}(hN:X.N[i]?=some x:=by rfl)(hv:uY X.env.scope x:=by first|exact Or.inl rfl|exact Or.inr (Or.inl rfl)|exact Or.inr (Or.inr rfl))(hd:(x== ("__debug__" :Str))=false:=by decide)
 (hcd:(x== ("__classdict__" :Str))=false:=by decide):PE X (.Name x pos) (tR (kk X cm) E (Ā i)):=PE.wk (cG hN hv hd hcd) fun σ H Q ⟨c,F,ρ,rel,h⟩=>by
 unfold Ā at h
 split at h
 ·rename_i p e
  obtain⟨v,h1,h2⟩:=rel.slot i _ e
  exact⟨v,at_of h1,h v F H rel (Same.refl F) (Same.refl H) (.inl h2)⟩
 ·rename_i ps e
  obtain⟨a,vs,h1,h2,h3,h4,h5,_⟩:=rel.ow e
  exact⟨.ref a,h1,h _ F H rel (Same.refl F) (Same.refl H) (.inr ⟨a,vs,rfl,h2,h5⟩)⟩
 ·rename_i ps e
  obtain⟨a,vs,h1,h2,h3⟩:=rel.slot i _ e
  exact⟨.ref a,at_of h1,h _ F H rel (Same.refl F) (Same.refl H) (.inr ⟨a,vs,rfl,(rel.lent a _ h2).1,h3⟩)⟩
 ·rename_i C ns ps e
  obtain⟨a,dx,fs,h1,h2,h3,h4,h5,h6⟩:=rel.slot i _ e
  exact⟨.ref a,at_of h1,h _ F H rel (Same.refl F) (Same.refl H) (.inr ⟨a,dx,fs,rfl,h2,h5,h6.1⟩)⟩
 ·exact h.elim
theorem iM(i:Nat){x:Str}{pos:Pos}(hN:X.N[i]?=some x:=by rfl)(hv:uY X.env.scope x:=by first|exact Or.inl rfl|exact Or.inr (Or.inl rfl)|exact Or.inr (Or.inr rfl))(hd:(x== ("__debug__" :Str))=false:=by decide)
 (hcd:(x== ("__classdict__" :Str))=false:=by decide):PE X (.Name x pos) (tO (kk X cm) E (dH i)):=PE.wk (cG hN hv hd hcd) fun σ H Q ⟨c,F,ρ,rel,h⟩=>by
 unfold dH at h
 split at h
 ·rename_i p e
  obtain⟨v,h1,h2⟩:=rel.slot i _ e
  exact⟨v,at_of h1,h v F H rel (Same.refl F) (Same.refl H) h2⟩
 ·rename_i ps e
  obtain⟨a,vs,h1,h2,h3,h4,h5,h6⟩:=rel.ow e
  obtain⟨m1,m2⟩:=rel.move h6
  exact⟨.ref a,h1,h _ F H m1 (Same.refl F) (Same.refl H) ⟨a,vs,rfl,h2,h3,h4,m2,h5⟩⟩
 ·exact h.elim
theorem uo{v:V}(p:PV)(h:PE X e (tC v))(hr:∀F,Rep (kk X cm) F p v:=by intro _;unfold Rep;rfl):PE X e (tV (kk X cm) E (mC p)):=PE.wk h fun σ H Q ⟨c,F,ρ,rel,h⟩=>h v F H rel (Same.refl F) (Same.refl H) (hr F)
theorem Ă{i j pos}:PE X (.Constant (.int i) j pos) (tV (kk X cm) E (mC (.int i))):=uo _ pC
theorem dW{i j pos}:PE X (.Constant (.bool i) j pos) (tV (kk X cm) E (mC (.bl i))):=uo _ Ko
theorem Di{j pos}:PE X (.Constant .none j pos) (tV (kk X cm) E (mC .non)):=uo _ Fd
theorem nC{x j pos}:PE X (.Constant (.str x) j pos) (tV (kk X cm) E (mC (.str x))):=uo _ Fe
theorem ā(h:PE X e (tV (kk X cm) E m)):PE X e (tR (kk X cm) E m):=PE.wk h fun σ H Q ⟨c,F,ρ,rel,h⟩=>⟨c,F,ρ,rel,h.rel fun _ _ _ _ _ _ q=>.inl q⟩
theorem İ(h:PE X e (tV (kk X cm) E m)):PE X e (tO (kk X cm) E (ř m)):=PE.wk h fun σ H Q ⟨c,F,ρ,rel,h⟩=>⟨c,F,ρ,rel,h.bind fun p ρ1 v F1 H1 ė s1 s2 q h1=>h1 v F1 H1 ė (Same.refl _) (Same.refl _) q⟩
theorem Held.share{K:KK}{c:Ctx}{F H:Hp}{σ:L2.St}{ρ:ł}{ps:List PV}{v:V}(rel:Rel K c F H σ ρ)(h:Held K c σ ρ F H ps v):∃F1,Same F F1∧Rel K c F1 H σ ρ∧Rep K F1 (.lst ps) v:=by
 obtain⟨a,vs,rfl,h1,h2,h3,h4,h5⟩:=h
 refine⟨_,Same.upd h2,rel.freeze h1 h3 h2 h4,?_⟩
 unfold Rep
 exact⟨a,vs,rfl,ų.of ĥ,h5.same (Same.upd h2) ps vs⟩
theorem rD.share{K:KK}{c:Ctx}{F H:Hp}{σ:L2.St}{ρ:ł}{ps qs:List PV}{v:V}(rel:Rel K c F H σ ρ)(h:rD K c σ ρ F H ps qs v):∃F1,Same F F1∧Rel K c F1 H σ ρ∧Rep K F1 (.tup (ps ++ [.lst qs])) v:=by
 obtain⟨p,a,xs,vs,rfl,h0,hx,h1,h2,h3,h4,h5⟩:=h
 refine⟨_,Same.upd h2,rel.freeze h1 h3 h2 h4,?_⟩
 have ra:Rep K (upd F a (.lst vs)) (.lst qs) (.ref a):=by
  unfold Rep
  exact⟨a,vs,rfl,ų.of ĥ,h5.same (Same.upd h2) qs vs⟩
 unfold Rep
 exact⟨p,_,rfl,aZ.of (Same.upd h2 _ _ h0),ĕ.append (hx.same (Same.upd h2) ps xs) (ĕ.cons ra ĕ.nil)⟩
theorem Ī(h:PE X e (tO (kk X cm) E mo)):PE X e (tV (kk X cm) E (ě mo)):=PE.wk h fun σ H Q ⟨c,F,ρ,rel,h⟩=>⟨c,F,ρ,rel,h.bind fun r ρ1 v F1 H1 ė s1 s2 q h1=>by
 cases r with
 |sh p=>exact h1 v F1 H1 ė (Same.refl _) (Same.refl _) q
 |ow ps=>
  obtain⟨F2,s3,Ķ,rp⟩:=Held.share ė q
  exact h1 v F2 H1 Ķ s3 (Same.refl _) rp
 |ot ps qs=>
  obtain⟨F2,s3,Ķ,rp⟩:=rD.share ė q
  exact h1 v F2 H1 Ķ s3 (Same.refl _) rp⟩
def Ą(f:PV→PV→Option PV)(ma mb:M PV):M PV:=fun ρ=>(ma ρ).bind fun p ρ1=>(mb ρ1).bind fun q ρ2=>Res.gW (f p q) ρ2
def Ĳ(f:PV→PV→Option RV)(ma mb:M PV):M RV:=fun ρ=>(ma ρ).bind fun p ρ1=>(mb ρ1).bind fun q ρ2=>Res.gW (f p q) ρ2
def jw(K:KK)(r:R2)(f:PV→PV→Option PV):Prop:=∀{c:Ctx} {F H:Hp} {σ:L2.St} {ρ:ł} {p q pv:PV} {v u:V} {Q:VK},Rel K c F H σ ρ→rR K c σ ρ F H p v→rR K c σ ρ F H q u→f p q=some pv→
 (∀z F' H',Rel K c F' H' σ ρ→Same F F'→Same H H'→Rep K F' pv z→Q z H')→r v u H Q
def Xc(K:KK)(r:R2)(f:PV→PV→Option RV):Prop:=∀{c:Ctx} {F H:Hp} {σ:L2.St} {ρ:ł} {p q:PV} {pv:RV} {v u:V} {Q:VK},Rel K c F H σ ρ→rR K c σ ρ F H p v→rR K c σ ρ F H q u→f p q=some pv→
 (∀z F' H',Rel K c F' H' σ ρ→Same F F'→Same H H'→rO K c σ ρ F' H' pv z→Q z H')→r v u H Q
theorem rE{r:R2}{f:PV→PV→Option PV}(hf:jw (kk X cm) r f){σ:L2.St}{H:Hp}{Q:VK}(h:tV (kk X cm) E (Ą f ma mb) σ H Q):FJ r (tR (kk X cm) E ma) (tR (kk X cm) E mb) σ H Q:=by
 obtain⟨c,F,ρ,rel,h⟩:=h
 refine⟨c,F,ρ,rel,h.bind fun p ρ1 v F1 H1 ė _ _ r1 h1=>⟨c,F1,ρ1,ė,h1.bind fun q ρ2 u F2 H2 Ķ sF sH r2 h2=>?_⟩⟩
 cases e:f p q with
 |none=>rw[e] at h2;exact h2.elim
 |some pv=>rw[e] at h2;exact hf Ķ (r1.mono sF sH) r2 e fun z F' H' au s1 s2 q'=>h2 z F' H' au s1 s2 q'
theorem LQ{r:R2}{f:PV→PV→Option RV}(hf:Xc (kk X cm) r f){σ:L2.St}{H:Hp}{Q:VK}(h:tO (kk X cm) E (Ĳ f ma mb) σ H Q):FJ r (tR (kk X cm) E ma) (tR (kk X cm) E mb) σ H Q:=by
 obtain⟨c,F,ρ,rel,h⟩:=h
 refine⟨c,F,ρ,rel,h.bind fun p ρ1 v F1 H1 ė _ _ r1 h1=>⟨c,F1,ρ1,ė,h1.bind fun q ρ2 u F2 H2 Ķ sF sH r2 h2=>?_⟩⟩
 cases e:f p q with
 |none=>rw[e] at h2;exact h2.elim
 |some pv=>rw[e] at h2;exact hf Ķ (r1.mono sF sH) r2 e fun z F' H' au s1 s2 q'=>h2 z F' H' au s1 s2 q'
theorem ĉ{op:Operator}{r:R2}{f:PV→PV→Option PV}(hf:jw (kk X cm) r f)(ho:ż X (binaryOp op) r)(ha:PE X a (tR (kk X cm) E ma))(hb:PE X b (tR (kk X cm) E mb)):PE X (.BinOp a op b pos) (tV (kk X cm) E (Ą f ma mb)):=PE.wk (CW ho ha hb) fun _ _ _ h=>rE hf h
theorem ō{op:Operator}{r:R2}{f:PV→PV→Option RV}(hf:Xc (kk X cm) r f)(ho:ż X (binaryOp op) r)(ha:PE X a (tR (kk X cm) E ma))(hb:PE X b (tR (kk X cm) E mb)):PE X (.BinOp a op b pos) (tO (kk X cm) E (Ĳ f ma mb)):=PE.wk (CW ho ha hb) fun _ _ _ h=>LQ hf h
theorem dI{op:CmpOp}{r:R2}{f:PV→PV→Option PV}(hf:jw (kk X cm) r f)(ho:ż X (compareOp op) r)(ha:PE X a (tR (kk X cm) E ma))(hb:PE X b (tR (kk X cm) E mb))(hm:behindInMarks op b=false):PE X (.Compare a [op] [b] pos) (tV (kk X cm) E (Ą f ma mb)):=
 PE.wk (Bb ho ha hb hm) fun _ _ _ h=>rE hf h
theorem ę{r:R2}{f:PV→PV→Option PV}(hf:jw (kk X cm) r f)(hr:pJ X r)(ha:PE X a (tR (kk X cm) E ma))(hb:PE X b (tR (kk X cm) E mb))(hs:qX b):PE X (.Subscript a b pos) (tV (kk X cm) E (Ą f ma mb)):=
 PE.wk (Dd hr ha hb hs) fun _ _ _ h=>rE hf h
def ur(f:PV→Option PV)(ma:M PV):M PV:=fun ρ=>(ma ρ).bind fun p ρ1=>Res.gW (f p) ρ1
def UnV(K:KK)(r:V→Hp→VK→Prop)(f:PV→Option PV):Prop:=∀{c:Ctx} {F H:Hp} {σ:L2.St} {ρ:ł} {p pv:PV} {v:V} {Q:VK},Rel K c F H σ ρ→rR K c σ ρ F H p v→f p=some pv→
 (∀z F' H',Rel K c F' H' σ ρ→Same F F'→Same H H'→Rep K F' pv z→Q z H')→r v H Q
theorem iQ{op:UnaryOp}{r:V→Hp→VK→Prop}{f:PV→Option PV}(hf:UnV (kk X cm) r f)(ho:Ay X (unaryOp op) r)(ha:PE X a (tR (kk X cm) E ma)):PE X (.UnaryOp op a pos) (tV (kk X cm) E (ur f ma)):=PE.wk (CZ ho ha) fun σ H Q ⟨c,F,ρ,rel,h⟩=>
 ⟨c,F,ρ,rel,h.bind fun p ρ1 v F1 H1 ė _ _ r1 h1=>by
   cases e:f p with
   |none=>rw[e] at h1;exact h1.elim
   |some pv=>rw[e] at h1;exact hf ė r1 e fun z F' H' au s1 s2 q'=>h1 z F' H' au s1 s2 q'⟩
def GZ:PV→Option Bool
 | .bl b=>some b
 | .int i=>some (i != 0)
 | .non=>some false
 | .str y=>if y.length≤sizeLine then some ((y.length:Int) != 0) else none
 | .lst ps=>some (!ps.isEmpty)
 | .tup ps=>some (!ps.isEmpty)
 |_=>none
def cC(m:M PV):M Bool:=fun ρ=>(m ρ).bind fun p ρ1=>Res.gW (GZ p) ρ1
theorem LR{K:KK}{c:Ctx}{F H:Hp}{σ:L2.St}{ρ:ł}{p:PV}{v:V}{k:Bool}(s:Same F H)(r:rR K c σ ρ F H p v)(h:GZ p=some k):Gf K.K v H k:=by
 cases p with
 |bl b=>cases r.bl;cases h;rfl
 |int i=>cases r.int;cases h;rfl
 |non=>cases r.non;cases h;rfl
 |str y=>
  cases r.str
  have h':(if y.length≤sizeLine then some ((y.length:Int) != 0) else none)=some k:=h
  split at h'
  ·rename_i hy;cases h';exact⟨hy,rfl⟩
  ·cases h'
 |lst ps=>
  obtain⟨a,vs,rfl,h1,h2⟩:=r.lst s
  cases h
  have e:ps.isEmpty=vs.isEmpty:=by cases h2.pr<;>rfl
  exact .inl ⟨vs,h1,by rw[e]⟩
 |tup ps=>
  obtain⟨a,vs,rfl,h1,h2⟩:=r.tup s
  cases h
  have e:ps.isEmpty=vs.isEmpty:=by cases h2.pr<;>rfl
  exact .inr (.inl ⟨vs,h1,by rw[e]⟩)
 |ins C ns ps=>cases h
 |xc C ns ps=>cases h
 |ty n=>cases h
 |cls C=>cases h
theorem aD(ha:PE X a (tR (kk X cm) E ma))(he:∀whole,isTrue a X.env whole=(do let v ←whole;standAt a.pos;holding [v] (truthy v)):=by intro _;rfl):PT X a (tB (kk X cm) E (cC ma)):=PT.wk (vp ha he) fun σ H Q ⟨c,F,ρ,rel,h⟩=>
 ⟨c,F,ρ,rel,h.bind fun p ρ1 v F1 H1 ė _ _ r1 h1=>by
   cases e:GZ p with
   |none=>rw[e] at h1;exact h1.elim
   |some k=>rw[e] at h1;exact⟨k,LR ė.sub r1 e,h1 k F1 H1 ė (Same.refl _) (Same.refl _) rfl⟩⟩
def bh(m:M PV):M Bool:=fun ρ=>(m ρ).bind fun p ρ1=>match p with
 | .bl b=>.ok b ρ1
 |_=>.bad
theorem L_{σ:L2.St}{H:Hp}{Q:Bool→Hp→Prop}(h:tB (kk X cm) E (bh m) σ H Q):M2.Df (tV (kk X cm) E m) σ H Q:=by
 obtain⟨c,F,ρ,rel,h⟩:=h
 refine⟨c,F,ρ,rel,h.bind fun p ρ1 v F1 H1 ė _ _ r1 h1=>?_⟩
 cases p with
 |bl b=>
  have e:v=.bl b:=by have r1':Rep (kk X cm) F1 (.bl b) v:=r1;unfold Rep at r1';exact r1'
  subst e
  exact h1 b F1 H1 ė (Same.refl _) (Same.refl _) rfl
 |_=>exact h1.elim
theorem Ŋ{op:CmpOp}{r:R2}{f:PV→PV→Option PV}(hf:jw (kk X cm) r f)(ho:ż X (compareOp op) r)(ha:PE X a (tR (kk X cm) E ma))(hb:PE X b (tR (kk X cm) E mb))(hm:behindInMarks op b=false):PT X (.Compare a [op] [b] pos) (tB (kk X cm) E (bh (Ą f ma mb))):=
 PT.wk (Gu ho ha hb hm) fun σ H Q h=>by
   obtain⟨c,F,ρ,rel,h⟩:=L_ h
   exact rE hf ⟨c,F,ρ,rel,h⟩
def Xd(f g:PV→PV→Option PV)(ma mb mc:M PV):M PV:=fun ρ=>(ma ρ).bind fun p ρ1=>(mb ρ1).bind fun q ρ2=>(Res.gW (f p q) ρ2).bind fun z ρ3=>match z with
 | .bl true=>(mc ρ3).bind fun w ρ4=>Res.gW (g q w) ρ4
 | .bl false=>.ok (.bl false) ρ3
 |_=>.bad
def bH(m:M Bool):M Bool:=fun ρ=>(m ρ).bind fun b ρ1=>.ok (!b) ρ1
theorem cL{m:M Bool}(h:PT X a (tB (kk X cm) E m)):PT X (.UnaryOp .Not a pos) (tB (kk X cm) E (bH m)):=PT.wk (Fj h) fun σ H Q ⟨c,F,ρ,rel,h⟩=>
 ⟨c,F,ρ,rel,h.bind fun p ρ1 v F1 H1 ė _ _ r1 h1=>h1 _ F1 H1 ė (Same.refl _) (Same.refl _) (by have e:p=v:=r1;rw[e];rfl)⟩
def rG(ma mb:M Bool):M Bool:=fun ρ=>(ma ρ).bind fun b ρ1=>if b=true then mb ρ1 else .ok false ρ1
def gM(ma mb:M Bool):M Bool:=fun ρ=>(ma ρ).bind fun b ρ1=>if b=true then .ok true ρ1 else mb ρ1
variable{ta tb:M Bool}{rest:List Expr}
theorem wg(h:PT X a (tB (kk X cm) E ta)):PW X (.BoolOp .And [a] pos) (tB (kk X cm) E ta):=Ao h
theorem eZ(h:PT X a (tB (kk X cm) E ta)):PW X (.BoolOp .Or [a] pos) (tB (kk X cm) E ta):=Fg h
theorem w_and(ha:PT X a (tB (kk X cm) E ta))(hb:PW X (.BoolOp .And (b::rest) pos) (tB (kk X cm) E tb)):PW X (.BoolOp .And (a::b::rest) pos) (tB (kk X cm) E (rG ta tb)):=PW.wk (Fi ha hb) fun σ H Q ⟨c,F,ρ,rel,h⟩=>
 ⟨c,F,ρ,rel,h.bind fun p ρ1 v F1 H1 ė _ _ r1 h1=>by
   have e:p=v:=r1
   subst e
   cases p with
   |true=>exact⟨c,F1,ρ1,ė,h1⟩
   |false=>exact h1 false F1 H1 ė (Same.refl _) (Same.refl _) rfl⟩
theorem w_or(ha:PT X a (tB (kk X cm) E ta))(hb:PW X (.BoolOp .Or (b::rest) pos) (tB (kk X cm) E tb)):PW X (.BoolOp .Or (a::b::rest) pos) (tB (kk X cm) E (gM ta tb)):=PW.wk (Kp ha hb) fun σ H Q ⟨c,F,ρ,rel,h⟩=>
 ⟨c,F,ρ,rel,h.bind fun p ρ1 v F1 H1 ė _ _ r1 h1=>by
   have e:p=v:=r1
   subst e
   cases p with
   |false=>exact⟨c,F1,ρ1,ė,h1⟩
   |true=>exact h1 true F1 H1 ė (Same.refl _) (Same.refl _) rfl⟩
def wj(ma mb:M PV):M PV:=fun ρ=>(ma ρ).bind fun p ρ1=>match p with
 | .bl true=>mb ρ1
 | .bl false=>.ok (.bl false) ρ1
 |_=>.bad
def mOr(ma mb:M PV):M PV:=fun ρ=>(ma ρ).bind fun p ρ1=>match p with
 | .bl true=>.ok (.bl true) ρ1
 | .bl false=>mb ρ1
 |_=>.bad
def Xe(ma:M PV):M PV:=fun ρ=>(ma ρ).bind fun p ρ1=>match p with
 | .bl b=>.ok (.bl (!b)) ρ1
 |_=>.bad
theorem pN{K:KK}{F:Hp}{b:Bool}{v:V}(h:Rep K F (.bl b) v):v=.bl b:=by unfold Rep at h;exact h
theorem Dj{op}(h:PE X a (tV (kk X cm) E ma)):PE X (.BoolOp op [a] pos) (tV (kk X cm) E ma):=Fo h
theorem v_and(ha:PE X a (tV (kk X cm) E ma))(hb:PE X (.BoolOp .And (b::rest) pos) (tV (kk X cm) E mb)):PE X (.BoolOp .And (a::b::rest) pos) (tV (kk X cm) E (wj ma mb)):=PE.wk (Gv ha hb) fun σ H Q ⟨c,F,ρ,rel,h⟩=>
 ⟨c,F,ρ,rel,h.bind fun p ρ1 v F1 H1 ė _ _ r1 h1=>by
   cases p with
   |bl k=>
    cases pN r1
    cases k with
    |true=>exact⟨c,F1,ρ1,ė,h1⟩
    |false=>exact h1 _ F1 H1 ė (Same.refl _) (Same.refl _) r1
   |_=>exact h1.elim⟩
def cD{α:Type}(t:M Bool)(ma mb:M α):M α:= fun ρ=>(t ρ).bind fun b ρ1=>if b=true then ma ρ1 else mb ρ1
def Ė:M (List PV):=fun ρ=>.ok [] ρ
def ą(ma:M PV)(mr:M (List PV)):M (List PV):=fun ρ=>(ma ρ).bind fun p ρ1=>(mr ρ1).bind fun ps ρ2=>.ok (p::ps) ρ2
variable{mr:M (List PV)}
theorem ğ:PA X [] (tL (kk X cm) E Ė):=PA.wk dR fun σ H Q ⟨c,F,ρ,rel,h⟩=>h [] F H rel (Same.refl _) (Same.refl _) ĕ.nil
theorem ć(ha:PE X e (tV (kk X cm) E ma))(hr:PA X es (tL (kk X cm) E mr))(hs:starEach (e::es) X.env=(false,eval e X.env)::starEach es X.env:=by exact Ĉ rfl):PA X (e::es) (tL (kk X cm) E (ą ma mr)):=PA.wk (Ž ha hr hs) fun σ H Q ⟨c,F,ρ,rel,h⟩=>
 ⟨c,F,ρ,rel,h.bind fun p ρ1 v F1 H1 ė _ _ r1 h1=>⟨c,F1,ρ1,ė,h1.bind fun ps ρ2 vs F2 H2 Ķ sF sH r2 h2=>h2 _ F2 H2 Ķ (Same.refl _) (Same.refl _) (ĕ.cons (Rep.same sF p v r1) r2)⟩⟩
theorem Ě:PA X [] (LC (kk X cm) E Ė):=PA.wk dR fun σ H Q ⟨c,F,ρ,rel,h⟩=>h [] F H rel (Same.refl _) (Same.refl _) .nil
theorem Č(ha:PE X e (tR (kk X cm) E ma))(hr:PA X es (LC (kk X cm) E mr))(hs:starEach (e::es) X.env=(false,eval e X.env)::starEach es X.env:=by exact Ĉ rfl):PA X (e::es) (LC (kk X cm) E (ą ma mr)):=PA.wk (Ž ha hr hs) fun σ H Q ⟨c,F,ρ,rel,h⟩=>
 ⟨c,F,ρ,rel,h.bind fun p ρ1 v F1 H1 ė _ _ r1 h1=>⟨c,F1,ρ1,ė,h1.bind fun ps ρ2 vs F2 H2 Ķ sF sH r2 h2=>h2 _ F2 H2 Ķ (Same.refl _) (Same.refl _) (.cons (rR.mono r1 sF sH) r2)⟩⟩
def ĝ:M (List Slot):=fun ρ=>.ok [] ρ
def Ĩ(ma:M PV)(mr:M (List Slot)):M (List Slot):=fun ρ=>(ma ρ).bind fun p ρ1=>(mr ρ1).bind fun as ρ2=>.ok (.sh p::as) ρ2
def cj:Slot→Option Slot
 | .sh p=>some (.sh p)
 | .ow ps=>some (.bw ps)
 | .bw ps=>some (.bw ps)
 |_=>none
def Ċ(i:Nat)(mr:M (List Slot)):M (List Slot):=fun ρ=>match(ρ[i]?).bind cj with
 |none=>.bad
 |some _=>(mr ρ).bind fun as ρ2=>match(ρ2[i]?).bind cj with
  |some s=>.ok (s::as) ρ2
  |none=>.bad
variable{ms:M (List Slot)}
theorem Ġ:PA X [] (tA (kk X cm) E ĝ):=PA.wk dR fun σ H Q ⟨c,F,ρ,rel,h⟩=>h [] F H rel (Same.refl _) (Same.refl _) .nil
theorem į(ha:PE X e (tV (kk X cm) E ma))(hr:PA X es (tA (kk X cm) E ms))(hs:starEach (e::es) X.env=(false,eval e X.env)::starEach es X.env:=by exact Ĉ rfl):PA X (e::es) (tA (kk X cm) E (Ĩ ma ms)):=PA.wk (Ž ha hr hs) fun σ H Q ⟨c,F,ρ,rel,h⟩=>
 ⟨c,F,ρ,rel,h.bind fun p ρ1 v F1 H1 ė _ _ r1 h1=>⟨c,F1,ρ1,ė,h1.bind fun as ρ2 vs F2 H2 Ķ sF sH r2 h2=>h2 _ F2 H2 Ķ (Same.refl _) (Same.refl _) (.cons (show dG _ _ _ (.sh p) v from Rep.same sF p v r1) r2)⟩⟩
theorem rH{K:KK}{c:Ctx}{F H:Hp}{σ:L2.St}{ρ:ł}{i:Nat}{s:Slot}(rel:Rel K c F H σ ρ)(h:(ρ[i]?).bind cj=some s):∃v,σ[i]?=some (some v)∧dG K F H s v:=by
 cases e:ρ[i]? with
 |none=>rw[e] at h;cases h
 |some sl=>
  rw[e] at h
  have h':cj sl=some s:=h
  cases sl with
  |sh p=>
   cases h'
   obtain⟨v,h1,h2⟩:=rel.slot i _ e
   exact⟨v,at_of h1,h2⟩
  |ow ps=>
   cases h'
   obtain⟨a,vs,h1,h2,h3,h4,h5,_⟩:=rel.ow e
   exact⟨.ref a,h1,a,vs,rfl,h2,h3,h5⟩
  |bw ps=>
   cases h'
   obtain⟨a,vs,h1,h2,h3⟩:=rel.slot i _ e
   exact⟨.ref a,at_of h1,a,vs,rfl,(rel.lent a _ h2).1,(rel.lent a _ h2).2,h3⟩
  |no=>cases h'
  |rc C ns ps=>cases h'
  |ot ps qs=>cases h'
theorem č(i:Nat){x:Str}{px:Pos}(hN:X.N[i]?=some x:=by rfl)(hv:uY X.env.scope x:=by first|exact Or.inl rfl|exact Or.inr (Or.inl rfl)|exact Or.inr (Or.inr rfl))(hd:(x== ("__debug__" :Str))=false:=by decide)
 (hcd:(x== ("__classdict__" :Str))=false:=by decide)(hr:PA X es (tA (kk X cm) E ms))(hs:starEach (.Name x px::es) X.env=(false,eval (.Name x px) X.env)::starEach es X.env:=by exact Ĉ rfl):PA X (.Name x px::es) (tA (kk X cm) E (Ċ i ms)):=
 PA.wk (Ž (cG hN hv hd hcd) hr hs) fun σ H Q ⟨c,F,ρ,rel,h⟩=>by
   unfold Ċ at h
   cases e:(ρ[i]?).bind cj with
   |none=>rw[e] at h;exact h.elim
   |some s0=>
    rw[e] at h
    obtain⟨v,hv,_⟩:=rH rel e
    refine⟨v,hv,c,F,ρ,rel,bG.bind h fun as ρ2 vs F2 H2 Ķ sF sH r2 h2=>?_⟩
    cases e2:(ρ2[i]?).bind cj with
    |none=>simp only[e2] at h2;exact h2.elim
    |some s=>
     simp only[e2] at h2
     obtain⟨v',hv',r1⟩:=rH Ķ e2
     rw[hv] at hv'
     cases hv'
     exact h2 _ F2 H2 Ķ (Same.refl _) (Same.refl _) (.cons r1 r2)
def Ŝ(mr:M (List PV)):M PV:=fun ρ=>(mr ρ).bind fun ps ρ1=>if ps.length≤16777216 then .ok (.tup ps) ρ1 else .bad
def bI(mr:M (List PV)):M RV:=fun ρ=>(mr ρ).bind fun ps ρ1=>if ps.length≤16777216 then .ok (.ow ps) ρ1 else .bad
theorem Ļ:sizeLine=16777216:=sizeLine_eq
theorem Ŏ{x1}(h:PA X es (tL (kk X cm) E mr)):PE X (.Tuple es x1 pos) (tV (kk X cm) E (Ŝ mr)):=PE.wk (vB h) fun σ H Q ⟨c,F,ρ,rel,h⟩=>
 ⟨c,F,ρ,rel,h.bind fun ps ρ1 vs F1 H1 ė _ _ r1 h1=>by
   split at h1
   ·rename_i hz
    refine⟨by rw[←ĕ.length r1,Ļ];exact hz,fun p hp=>h1 _ _ _ (ė.alloc hp) (Same.upd (ė.sub.free hp)) (Same.upd hp) ?_⟩
    show Rep _ _ _ _
    unfold Rep
    exact⟨p,vs,rfl,aZ.of ĥ,ĕ.same (Same.upd (ė.sub.free hp)) ps vs r1⟩
   ·exact h1.elim⟩
theorem cM{K:KK}{c:Ctx}{F H:Hp}{σ:L2.St}{ρ:ł}{ps:List PV}{vs:List V}{a:Addr}(rel:Rel K c F H σ ρ)(ha:H a=none)(r:ĕ K F ps vs):Rel K c F (upd H a (.lst vs)) σ ρ∧Held K c σ ρ F (upd H a (.lst vs)) ps (.ref a):=
 ⟨rel.made ha,a,vs,rfl,ĥ,rel.sub.free ha,rel.base.free ha,rel.fresh ha,r⟩
theorem ŷ(h:PA X es (tL (kk X cm) E mr)):PE X (.List es pos) (tO (kk X cm) E (bI mr)):=PE.wk (Gi h) fun σ H Q ⟨c,F,ρ,rel,h⟩=>
 ⟨c,F,ρ,rel,h.bind fun ps ρ1 vs F1 H1 ė _ _ r1 h1=>by
   split at h1
   ·rename_i hz
    refine⟨by rw[←ĕ.length r1,Ļ];exact hz,fun p hp=>?_⟩
    obtain⟨q1,q2⟩:=cM ė hp r1
    exact h1 _ _ _ q1 (Same.refl _) (Same.upd hp) q2
   ·exact h1.elim⟩
def ak(f:List PV→Option PV)(mr:M (List PV)):M PV:=fun ρ=>(mr ρ).bind fun ps ρ1=>Res.gW (f ps) ρ1
def G_(f:List PV→Option RV)(mr:M (List PV)):M RV:=fun ρ=>(mr ρ).bind fun ps ρ1=>Res.gW (f ps) ρ1
def bJ(K:KK)(r:List V→Hp→VK→Prop)(f:List PV→Option PV):Prop:=∀{c:Ctx} {F H:Hp} {σ:L2.St} {ρ:ł} {ps:List PV} {pv:PV} {vs:List V} {Q:VK},Rel K c F H σ ρ→Lz K c σ ρ F H ps vs→f ps=some pv→
 (∀z F' H',Rel K c F' H' σ ρ→Same F F'→Same H H'→Rep K F' pv z→Q z H')→r vs H Q
def Dk(K:KK)(r:List V→Hp→VK→Prop)(f:List PV→Option RV):Prop:=∀{c:Ctx} {F H:Hp} {σ:L2.St} {ρ:ł} {ps:List PV} {pv:RV} {vs:List V} {Q:VK},Rel K c F H σ ρ→Lz K c σ ρ F H ps vs→f ps=some pv→
 (∀z F' H',Rel K c F' H' σ ρ→Same F F'→Same H H'→rO K c σ ρ F' H' pv z→Q z H')→r vs H Q
theorem Ň{r:List V→Hp→VK→Prop}{f:List PV→Option PV}(hf:bJ (kk X cm) r f){σ:L2.St}{H:Hp}{Q:VK}(h:tV (kk X cm) E (ak f mr) σ H Q):Tj r (LC (kk X cm) E mr) σ H Q:=by
 obtain⟨c,F,ρ,rel,h⟩:=h
 refine⟨c,F,ρ,rel,h.bind fun p ρ1 v F1 H1 ė _ _ r1 h1=>?_⟩
 cases e:f p with
 |none=>rw[e] at h1;exact h1.elim
 |some pv=>rw[e] at h1;exact hf ė r1 e fun z F' H' au s1 s2 q'=>h1 z F' H' au s1 s2 q'
theorem Xf{r:List V→Hp→VK→Prop}{f:List PV→Option RV}(hf:Dk (kk X cm) r f){σ:L2.St}{H:Hp}{Q:VK}(h:tO (kk X cm) E (G_ f mr) σ H Q):Tj r (LC (kk X cm) E mr) σ H Q:=by
 obtain⟨c,F,ρ,rel,h⟩:=h
 refine⟨c,F,ρ,rel,h.bind fun p ρ1 v F1 H1 ė _ _ r1 h1=>?_⟩
 cases e:f p with
 |none=>rw[e] at h1;exact h1.elim
 |some pv=>rw[e] at h1;exact hf ė r1 e fun z F' H' au s1 s2 q'=>h1 z F' H' au s1 s2 q'
end
end P
namespace P
open PySem PySem.Spec PyProof.Rows L2 M2 M3
def cN:M Fl:=fun ρ=>.ok .nx ρ
def mBk:M Fl:=fun ρ=>.ok .bk ρ
def mCt:M Fl:=fun ρ=>.ok .ct ρ
def Ę(a b:M Fl):M Fl:=fun ρ=>(a ρ).bind fun f ρ1=>match f with
 | .nx=>b ρ1
 |f=>.ok f ρ1
def Į(i:Nat)(m:M RV):M Fl:=fun ρ=>(m ρ).bind fun r ρ1=>.ok .nx (ρ1.set i r.slot)
def ľ(m:M RV):M Fl:=fun ρ=>(m ρ).bind fun r ρ1=>.ok (.rt r) ρ1
def Ma:M Fl:=fun ρ=>.ok (.rt (.sh .non)) ρ
def Mf(m:M PV):M Fl:=fun ρ=>(m ρ).bind fun _ ρ1=>.ok .nx ρ1
section
variable{X:Cx}{cm:String→Addr}{E:L2.St→XK}{a b e:Expr}{st:Stmt}{rest:List Stmt}{es:List Expr}{pos:Pos}{m1 m2:M Fl}{mo:M RV}{mv:M PV}
theorem Ĵ:gQ X [] (tS (kk X cm) E cN):=gQ.wk Aq fun D σ H ⟨c,F,ρ,rel,h⟩=>h σ F H rel (Same.refl F)
theorem Ď(h:PS X st (tS (kk X cm) E m1)):gQ X [st] (tS (kk X cm) E m1):=Ar h
theorem Bs{c:Ctx}{F:Hp}{D:Ends}{r:Res Fl}(h:Ŧ (kk X cm) E c F D (r.bind fun f ρ1=>match f with| .nx=>m2 ρ1|f=>.ok f ρ1)):Ŧ (kk X cm) E c F {D with nx:=tS (kk X cm) E m2 D} r:=by
 cases r with
 |ok f ρ1=>
  cases f with
  |nx=>exact fun σ' F' H' au s=>⟨c,F',ρ1,au,Ŧ.mono h s⟩
  |bk=>exact h
  |ct=>exact h
  |rt v=>exact h
 |exc x ρ1=>exact h
 |bad=>exact h
theorem Ć(h1:PS X st (tS (kk X cm) E m1))(h2:gQ X rest (tS (kk X cm) E m2)):gQ X (st::rest) (tS (kk X cm) E (Ę m1 m2)):=gQ.wk (uZ h1 h2) fun D σ H ⟨c,F,ρ,rel,h⟩=>⟨c,F,ρ,rel,Bs h⟩
theorem ģ{i:Nat}{x:Str}{pos':Pos}(hN:X.N.Nodup)(hi:X.N[i]?=some x)(hx:Loc X.env.scope x)(he:PE X e (tO (kk X cm) E mo))(hs:swapsWith e (some (.Name x pos')) pos.line X.env=pure false:=by rfl)(hf:X.fn x=true∨X.env.scope.names.lookup x=some .local:=by first|exact .inl rfl|exact .inr rfl|assumption) :
 PS X (.Assign [.Name x pos'] e pos) (tS (kk X cm) E (Į i mo)):=PS.wk (Fv hN hi hx he hs hf) fun D σ H ⟨c,F,ρ,rel,h⟩=>⟨c,F,ρ,rel,Ŧ.bind h fun r ρ1 v F1 H1 ė s1 q h1=>by
 cases r with
 |sh p=>exact h1 _ F1 H1 (ė.put rfl ⟨v,rfl,q⟩) (Same.refl _)
 |ow ps=>
  obtain⟨a,vs,rfl,q1,q2,q3,q4,q5⟩:=q
  exact h1 _ F1 H1 (ė.Br ⟨a,vs,rfl,q1,q2,q3,q5⟩ rfl q4) (Same.refl _)
 |ot ps qs=>
  obtain⟨p,a,xs,vs,rfl,q0,qx,q1,q2,q3,q4,q5⟩:=q
  exact h1 _ F1 H1 (ė.Br (s:=.ot ps qs) ⟨p,a,xs,vs,rfl,q0,qx,q1,q2,q3,q5⟩ ⟨p,xs,rfl,q0⟩ q4) (Same.refl _)⟩
theorem ĩ(he:PE X e (tO (kk X cm) E mo)):PS X (.Return (some e) pos) (tS (kk X cm) E (ľ mo)):=PS.wk (Fp he) fun D σ H ⟨c,F,ρ,rel,h⟩=>⟨c,F,ρ,rel,Ŧ.bind h fun r ρ1 v F1 H1 ė s1 q h1=>h1 v σ F1 H1 ė (Same.refl _) q⟩
theorem Ū{t:M Bool}{ss ss':List Stmt}(hc:PT X a (tB (kk X cm) E t))(ha:gQ X ss (tS (kk X cm) E m1))(hb:gQ X ss' (tS (kk X cm) E m2)):PS X (.If a ss ss' pos) (tS (kk X cm) E (cD t m1 m2)):=PS.wk (Kr hc ha hb) fun D σ H ⟨c,F,ρ,rel,h⟩=>⟨c,F,ρ,rel,Ŧ.bind h fun r ρ1 v F1 H1 ė s1 q h1=>by
 have e:r=v:=q
 subst e
 cases r with
 |true=>exact⟨c,F1,ρ1,ė,h1⟩
 |false=>exact⟨c,F1,ρ1,ė,h1⟩⟩
def Xg{α:Type}:M α:= fun _=>.bad
abbrev Tg:=PV→ł→Option ł
abbrev uV:=List PV→ł→Option ł
def Mg(K:KK)(c:Ctx)(F H:Hp)(Q:L2.St→Hp→Prop):Option ł→Prop
 |some ρ'=>∀σ',Rel K c F H σ' ρ'→Q σ' H
 |none=>False
def tT(K:KK)(g:Tg):TG:=fun v σ H Q=>∃c F ρ p,Rel K c F H σ ρ∧Rep K F p v∧Mg K c F H Q (g p ρ)
def Mh(K:KK)(g:uV):u_:=fun v σ H Q=>∃c F ρ p,Rel K c F H σ ρ∧ĕ K F p v∧Mg K c F H Q (g p ρ)
def gN(i:Nat):Tg:=fun p ρ=>some (ρ.set i (.sh p))
def ſ:uV:=fun ps ρ=>match ps with
 | []=>some ρ
 |_=>none
def ı(g:Tg)(gs:uV):uV:=fun ps ρ=>match ps with
 |p::ps=>(g p ρ).bind fun ρ1=>gs ps ρ1
 | []=>none
def gT(n:Nat)(gs:uV):Tg:=fun p ρ=>match p with
 | .tup ps=>if ps.length=n then gs ps ρ else none
 |_=>none
theorem PG.wk'{tg:Expr}{t t':TG}(h:PG X tg t)(i:∀v σ H Q,t' v σ H Q→t v σ H Q):PG X tg t':=fun pins s σ H v u Q I r q=>h pins s σ H v u Q I r (i v σ H Q q)
theorem pD.wk{tg:List Expr}{t t':u_}(h:pD X tg t)(i:∀v σ H Q,t' v σ H Q→t v σ H Q):pD X tg t':=fun pins s σ H v u Q I r q=>h pins s σ H v u Q I r (i v σ H Q q)
theorem Ĥ{i:Nat}{x:Str}(hN:X.N.Nodup)(hi:X.N[i]?=some x)(hx:Loc X.env.scope x)(hf:X.fn x=true∨X.env.scope.names.lookup x=some .local:=by first|exact .inl rfl|exact .inr rfl|assumption):PG X (.Name x pos) (tT (kk X cm) (gN i)):=
 PG.wk' (Av hN hi hx hf) fun v σ H Q ⟨c,F,ρ,p,rel,rp,h⟩=>h _ (rel.put rfl ⟨v,rfl,rp⟩)
theorem dX:pD X [] (Mh (kk X cm) ſ):=pD.wk Aw fun v σ H Q ⟨c,F,ρ,p,rel,rp,h⟩=>by
 cases p with
 |nil=>
  have e:v=[]:=by have:=rp;unfold ĕ at this;exact this
  exact⟨e,h σ rel⟩
 |cons _ _=>exact h.elim
theorem Ŗ{es:List Expr}{g:Tg}{gs:uV}(h1:PG X e (tT (kk X cm) g))(h2:pD X es (Mh (kk X cm) gs))(hs:(assignEach (e::es) X.env).map (·.2)=assign e X.env::(assignEach es X.env).map (·.2):=by rfl):pD X (e::es) (Mh (kk X cm) (ı g gs)):=
 pD.wk (vd h1 h2 hs) fun v σ H Q ⟨c,F,ρ,p,rel,rp,h⟩=>by
  cases p with
  |nil=>exact h.elim
  |cons p ps=>
   unfold ĕ at rp
   obtain⟨x,r,rfl,r1,r2⟩:=rp
   refine⟨x,r,rfl,c,F,ρ,p,rel,r1,?_⟩
   unfold ı at h
   dsimp only at h
   cases eg:g p ρ with
   |none=>rw[eg] at h;exact h.elim
   |some ρ1=>rw[eg] at h;exact fun σ' au=>⟨c,F,ρ1,ps,au,r2,h⟩
theorem rJ{es:List Expr}{k:Nat}{gs:uV}{n:Nat}(hc:X.calm=true)(h:pD X es (Mh (kk X cm) gs))(hn:(assignEach es X.env).length=n:=by rfl)(hst:(assignEach es X.env).findIdx? (·.1)=none:=by rfl):PG X (.Tuple es k pos) (tT (kk X cm) (gT n gs)):=
 PG.wk' (vf hc h hn hst) fun v σ H Q ⟨c,F,ρ,p,rel,rp,h⟩=>by
   cases p with
   |tup ps=>
    unfold Rep at rp
    obtain⟨a,xs,h1,h2,h3⟩:=rp
    unfold gT at h
    dsimp only at h
    split at h
    ·rename_i hl
     exact⟨a,xs,h1,Same.tup rel.sub h2,by rw[←h3.length];exact hl,c,F,ρ,ps,rel,h3,h⟩
    ·exact h.elim
   |_=>exact h.elim
def wu(g:Tg)(m:M PV):M Fl:=fun ρ=>(m ρ).bind fun p ρ1=>match g p ρ1 with
 |some ρ2=>.ok .nx ρ2
 |none=>.bad
theorem wz{tg:Expr}{g:Tg}(he:PE X e (tV (kk X cm) E mv))(hg:PG X tg (tT (kk X cm) g))(hs:swapsWithSole [tg] e pos.line X.env=pure false:=by rfl)(hw:swappedStores [tg] e X.env=pure none:=by rfl)
 (h1:(assignEach [tg] X.env).map (·.2)=[assign tg X.env]:=by rfl):PS X (.Assign [tg] e pos) (tS (kk X cm) E (wu g mv)):=PS.wk (vg he hg hs hw h1) fun D σ H ⟨c,F,ρ,rel,h⟩=>⟨c,F,ρ,rel,Ŧ.bind h fun r ρ1 v F1 H1 ė s1 q h1=>by
 refine⟨c,F1,ρ1,r,ė,q,?_⟩
 cases eg:g r ρ1 with
 |none=>rw[eg] at h1;exact h1.elim
 |some ρ2=>rw[eg] at h1;exact fun σ' au=>h1 σ' F1 H1 au (Same.refl _)⟩
def Bt(i j:Nat)(mr:M (List PV)):M Fl:=fun ρ=>(mr ρ).bind fun ps ρ1=>match ps with
 | [p,q]=>.ok .nx ((ρ1.set i (.sh p)).set j (.sh q))
 |_=>.bad
theorem Bu{i j:Nat}{mr:M (List PV)}{D:Ends}{σ:L2.St}{H:Hp}(h:tS (kk X cm) E (Bt i j mr) D σ H):Kw i j (tL (kk X cm) E mr) D σ H:=by
 obtain⟨c,F,ρ,rel,h⟩:=h
 refine⟨c,F,ρ,rel,Ŧ.bind h fun ps ρ1 vs F1 H1 ė s1 q h1=>?_⟩
 cases ps with
 |nil=>exact h1.elim
 |cons p ps=>
  cases ps with
  |nil=>exact h1.elim
  |cons p2 ps=>
   cases ps with
   |nil=>
    have q':ĕ (kk X cm) F1 [p,p2] vs:=q
    cases q'.pr with
    |cons r1 t=>
     cases t with
     |cons r2 t=>
      cases t
      exact⟨_,_,rfl,h1 _ F1 H1 ((ė.put (s:=.sh p) rfl ⟨_,rfl,r1⟩).put (s:=.sh p2) rfl ⟨_,rfl,r2⟩) (Same.refl _)⟩
   |cons _ _=>exact h1.elim
def pO(i:Nat)(mi:M PV)(m:M PV):M Fl:=fun ρ=>(m ρ).bind fun p ρ1=>match ρ1[i]? with
 |some (.ow _)=>(mi ρ1).bind fun q ρ2=>match ρ2[i]?,q with
  |some (.ow ps),.int k=>match o_ ps.length k with
   |some j=>.ok .nx (ρ2.set i (.ow (ps.set j p)))
   |none=>.bad
  |_,_=>.bad
 |_=>.bad
theorem Bv{i:Nat}{x:Str}{ix:Expr}{mi:M PV}{px pP:Pos}(he:PE X e (tV (kk X cm) E mv))(hi:PE X ix (tV (kk X cm) E mi))(ho:PE X (.Name x px) (pB i))
 (hsub:∀v,assign (.Subscript (.Name x px) ix pP) X.env v=(do
   let ov ←holding [v] (eval (.Name x px) X.env)
   let iv ←holding [v,ov] (eval ix X.env)
   standAt pP
   holding [v,ov,iv] (setItem ov iv v)
   release [v,ov,iv] []):=by intro _;rfl)
 (hs:swapsWithSole [.Subscript (.Name x px) ix pP] e pos.line X.env=pure false:=by rfl)(hw:swappedStores [.Subscript (.Name x px) ix pP] e X.env=pure none:=by rfl)
 (h1:(assignEach [.Subscript (.Name x px) ix pP] X.env).map (·.2)=[assign (.Subscript (.Name x px) ix pP) X.env]:=by rfl) :
 PS X (.Assign [.Subscript (.Name x px) ix pP] e pos) (tS (kk X cm) E (pO i mi mv)):=PS.wk (vg he (Ft ho hi set_list hsub) hs hw h1) fun D σ H ⟨c,F,ρ,rel,h⟩=>⟨c,F,ρ,rel,Ŧ.bind h fun p ρ1 v F1 H1 ė s1 q h1=>by
 cases e1:ρ1[i]? with
 |none=>rw[e1] at h1;exact h1.elim
 |some sl=>
  rw[e1] at h1
  cases sl with
  |ow Xh=>
   obtain⟨a,Xi,z1,_,_,_,_,_⟩:=ė.ow e1
   refine⟨.ref a,z1,c,F1,ρ1,ė,Ŧ.bind h1 fun q' ρ2 u F2 H2 Ķ s2 r2 h2=>?_⟩
   cases e2:ρ2[i]? with
   |none=>rw[e2] at h2;exact h2.elim
   |some sl2=>
    rw[e2] at h2
    cases sl2 with
    |ow ps=>
     cases q' with
     |int k=>
      have eu:u=.int k:=by have:Rep (kk X cm) F2 (.int k) u:=r2;unfold Rep at this;exact this
      subst eu
      dsimp only at h2
      obtain⟨a2,vs,w1,w2,w3,w4,w5,w6⟩:=Ķ.ow e2
      rw[z1] at w1
      cases w1
      cases ej:o_ ps.length k with
      |none=>rw[ej] at h2;exact h2.elim
      |some j=>
       rw[ej] at h2
       refine⟨a,vs,k,j,rfl,rfl,w2,by rw[←w5.length];exact ej,h2 σ F2 _ (Ķ.write w6 z1 ⟨a,vs.set j v,rfl,ĥ,w3,w4,?_⟩ fun _ z=>(V.ref.inj z).symm) (Same.refl _)⟩
       exact ĕ.of (vU (Rep.same s2 p v q) j w5.pr)
     |_=>exact h2.elim
    |_=>exact h2.elim
  |_=>exact h1.elim⟩
def pQ(i:Nat)(m:M PV):M Fl:=fun ρ=>match ρ[i]? with
 |some (.ow _)=>(m ρ).bind fun p ρ1=>match ρ1[i]? with
  |some (.ow ps)=>if ps.length<16777216 then .ok .nx (ρ1.set i (.ow (ps ++ [p]))) else .bad
  |_=>.bad
 |_=>.bad
theorem gY{i:Nat}{D:Ends}{σ:L2.St}{H:Hp}(h:tS (kk X cm) E (pQ i mv) D σ H):qT (Tn X.K "list" lH (pB i) (tL (kk X cm) E (ą mv Ė))) D σ H:=by
 obtain⟨c,F,ρ,rel,h⟩:=h
 unfold pQ at h
 cases e1:ρ[i]? with
 |none=>rw[e1] at h;exact h.elim
 |some sl=>
  rw[e1] at h
  cases sl with
  |ow Xh=>
   obtain⟨a,Xi,z1,z2,z3,z4,z5,z6⟩:=rel.ow e1
   refine⟨.ref a,z1,.inl ⟨rfl,_,ų.of z2⟩,c,F,ρ,rel,?_⟩
   dsimp only at h
   unfold ą
   cases em:mv ρ with
   |bad=>rw[em] at h;exact h
   |exc x ρ1=>rw[em] at h;exact fun C d F' H' au s1 q=>h σ C d F' H' au s1 q
   |ok p ρ1=>
    rw[em] at h
    intro us F1 H1 ė s1 s2 r1
    have r1':ĕ (kk X cm) F1 [p] us:=r1
    cases r1'.pr with
    |cons rp t=>
     rename_i v vs'
     cases t
     cases e2:ρ1[i]? with
     |none=>simp only[Res.ş,e2] at h;exact h.elim
     |some sl2=>
      simp only[Res.ş,e2] at h
      cases sl2 with
      |ow ps=>
       obtain⟨a2,vs,w1,w2,w3,w4,w5,w6⟩:=ė.ow e2
       rw[z1] at w1
       cases w1
       dsimp only at h
       split at h
       ·rename_i hz
        refine⟨a,vs,v,rfl,rfl,w2,by rw[←w5.length,Ļ];exact hz,h σ F1 _ (ė.write w6 z1 ⟨a,vs ++ [v],rfl,ĥ,w3,w4,ĕ.append w5 (ĕ.cons rp ĕ.nil)⟩ fun _ z=>(V.ref.inj z).symm) s1⟩
       ·exact h.elim
      |_=>exact h.elim
  |_=>exact h.elim
def ī(mc:M Bool)(mb:M Fl):Nat→ł→Res Fl
 |0,_=>.bad
 |n+1,ρ=>(mc ρ).bind fun b ρ1=>if b=true then(mb ρ1).bind fun f ρ2=>match f with
  | .nx=>ī mc mb n ρ2
  | .ct=>ī mc mb n ρ2
  | .bk=>.ok .nx ρ2
  | .rt r=>.ok (.rt r) ρ2 else .ok .nx ρ1
theorem ŝ{mc:M Bool}{mb:M Fl}(n:Nat)(ρ:ł):ī mc mb (n+1) ρ=(mc ρ).bind fun b ρ1=>if b=true then(mb ρ1).bind fun f ρ2=>match f with
 | .nx=>ī mc mb n ρ2
 | .ct=>ī mc mb n ρ2
 | .bk=>.ok .nx ρ2
 | .rt r=>.ok (.rt r) ρ2 else .ok .nx ρ1:=rfl
open Classical in
noncomputable def Ś(mc:M Bool)(mb:M Fl):M Fl:=fun ρ=>if h:∃n,ī mc mb n ρ≠ .bad then ī mc mb (Classical.choose h) ρ else .bad
theorem cO{mc:M Bool}{mb:M Fl}:∀(n:Nat) (ρ:ł),ī mc mb n ρ≠ .bad→ī mc mb (n+1) ρ=ī mc mb n ρ
 |0,ρ,h=>absurd rfl h
 |n+1,ρ,h=>by
  rw[ŝ] at h
  rw[ŝ (n+1),ŝ n]
  cases e:mc ρ with
  |bad=>rfl
  |exc x ρ1=>rfl
  |ok b ρ1=>
   rw[e] at h
   simp only[Res.ş] at h ⊢
   cases b with
   |false=>rfl
   |true=>
    simp only[if_true] at h ⊢
    cases e2:mb ρ1 with
    |bad=>rfl
    |exc x ρ2=>rfl
    |ok f ρ2=>
     rw[e2] at h
     simp only[Res.ş] at h ⊢
     cases f with
     |nx=>exact cO n ρ2 h
     |ct=>exact cO n ρ2 h
     |bk=>rfl
     |rt r=>rfl
theorem jU{mc:M Bool}{mb:M Fl}{n m:Nat}{ρ:ł}(h:ī mc mb n ρ≠ .bad)(hm:n≤m):ī mc mb m ρ=ī mc mb n ρ:= by
 induction hm with
 |refl=>rfl
 |step _ ih=>rw[cO _ _ (by rw[ih];exact h),ih]
theorem Š{mc:M Bool}{mb:M Fl}{ρ:ł}(n:Nat)(h:ī mc mb n ρ≠ .bad):Ś mc mb ρ=ī mc mb n ρ:= by
 unfold Ś
 have hx:∃n,ī mc mb n ρ≠ .bad:=⟨n,h⟩
 rw[dif_pos hx]
 have hc:=Classical.choose_spec hx
 rcases Nat.le_total n (Classical.choose hx) with hle|hle
 ·exact jU h hle
 ·exact(jU hc hle).symm
theorem cP{mc:M Bool}{mb:M Fl}{ρ:ł}:Ś mc mb ρ=(mc ρ).bind fun b ρ1=>if b=true then(mb ρ1).bind fun f ρ2=>match f with
 | .nx=>Ś mc mb ρ2
 | .ct=>Ś mc mb ρ2
 | .bk=>.ok .nx ρ2
 | .rt r=>.ok (.rt r) ρ2 else .ok .nx ρ1:=by
 have go:∀ρ2,Ś mc mb ρ2=.bad∨∃n,Ś mc mb ρ2=ī mc mb n ρ2∧ī mc mb n ρ2≠ .bad:=fun ρ2=>by
  by_cases hx:∃n,ī mc mb n ρ2≠ .bad
  ·obtain⟨n,h⟩:=hx
   exact .inr ⟨n,Š n h,h⟩
  ·left;unfold Ś;rw[dif_neg hx]
 have Xj:∀ρ2,Ś mc mb ρ2=.bad→∀n,ī mc mb n ρ2=.bad:=fun ρ2 h n=>by
  refine Classical.byContradiction fun z=>?_
  rw[Š n z] at h
  exact z h
 have fin:∀n,ī mc mb (n+1) ρ≠ .bad→Ś mc mb ρ=ī mc mb (n+1) ρ:= fun n h=>Š _ h
 cases e:mc ρ with
 |bad=>rcases go ρ with h|⟨n,h1,h2⟩
       ·rw[h];rfl
       ·cases n with
        |zero=>exact absurd rfl h2
        |succ n=>rw[ŝ,e] at h2;exact absurd rfl h2
 |exc x ρ1=>
  have h:ī mc mb 1 ρ=.exc x ρ1:=by rw[ŝ,e];rfl
  rw[Š 1 (by rw[h];intro z;cases z),h];rfl
 |ok b ρ1=>
  simp only[Res.ş]
  cases b with
  |false=>
   have h:ī mc mb 1 ρ=.ok .nx ρ1:=by rw[ŝ,e];rfl
   rw[Š 1 (by rw[h];intro z;cases z),h];rfl
  |true=>
   simp only[if_true]
   have one:∀n,ī mc mb (n+1) ρ=(mb ρ1).bind fun f ρ2=>match f with
    | .nx=>ī mc mb n ρ2
    | .ct=>ī mc mb n ρ2
    | .bk=>.ok .nx ρ2
    | .rt r=>.ok (.rt r) ρ2:=fun n=>by rw[ŝ,e];rfl
   cases e2:mb ρ1 with
   |bad=>
    rcases go ρ with h|⟨n,h1,h2⟩
    ·rw[h];rfl
    ·cases n with
     |zero=>exact absurd rfl h2
     |succ n=>rw[one,e2] at h2;exact absurd rfl h2
   |exc x ρ2=>
    have h:ī mc mb 1 ρ=.exc x ρ2:=by rw[one,e2];rfl
    rw[Š 1 (by rw[h];intro z;cases z),h];rfl
   |ok f ρ2=>
    have turn:(∀n,ī mc mb (n+1) ρ=ī mc mb n ρ2)→Ś mc mb ρ=Ś mc mb ρ2:=fun hn=>by
     rcases go ρ2 with h|⟨n,h1,h2⟩
     ·rcases go ρ with h'|⟨n,h1,h2⟩
      ·rw[h,h']
      ·cases n with
       |zero=>exact absurd rfl h2
       |succ n=>rw[hn,Xj ρ2 h n] at h2;exact absurd rfl h2
     ·rw[h1,←hn n]
      exact fin n (by rw[hn n];exact h2)
    cases f with
    |nx=>exact turn fun n=>by rw[one,e2];rfl
    |ct=>exact turn fun n=>by rw[one,e2];rfl
    |bk=>
     have h:ī mc mb 1 ρ=.ok .nx ρ2:=by rw[one,e2];rfl
     rw[Š 1 (by rw[h];intro z;cases z),h];rfl
    |rt r=>
     have h:ī mc mb 1 ρ=.ok (.rt r) ρ2:=by rw[one,e2];rfl
     rw[Š 1 (by rw[h];intro z;cases z),h];rfl
theorem rK{c:Expr}{body:List Stmt}{mc:M Bool}{mb:M Fl}(hp:PassesOwn (model X.prog X.w) X.A X.env X.xe)(hc:PT X c (tB (kk X cm) E mc))(hb:gQ X body (tS (kk X cm) E mb)):PS X (.While c body [] pos) (tS (kk X cm) E (Ś mc mb)):=PS.wk (vh hp hc hb) fun D σ H ⟨c,F,ρ,rel,h⟩=>by
 obtain⟨n,hn⟩:∃n,Ŧ (kk X cm) E c F D (ī mc mb n ρ):=by
  by_cases hx:∃n,ī mc mb n ρ≠ .bad
  ·obtain⟨n,hn⟩:=hx
   rw[Š n hn] at h
   exact⟨n,h⟩
  ·unfold Ś at h
   rw[dif_neg hx] at h
   exact h.elim
 refine⟨fun m σ' H'=>∃F2 ρ2,Rel (kk X cm) c F2 H' σ' ρ2∧Same F F2∧Ŧ (kk X cm) E c F2 D (ī mc mb m ρ2),⟨n,F,ρ,rel,Same.refl _,hn⟩,?_⟩
 rintro m σ1 H1 ⟨F1,ρ1,ė,s1,h1⟩
 cases m with
 |zero=>exact h1.elim
 |succ m=>
  rw[ŝ] at h1
  refine⟨c,F1,ρ1,ė,Ŧ.bind h1 fun k ρ2 v F2 H2 Ķ s2 q h2=>?_⟩
  have e:k=v:=q
  subst e
  cases k with
  |false=>
   rw[if_neg Bool.false_ne_true]
   rw[if_neg Bool.false_ne_true] at h2
   exact h2 σ1 F2 H2 Ķ (Same.refl _)
  |true=>
   rw[if_pos rfl]
   rw[if_pos rfl] at h2
   refine⟨_,fun σ' H' z=>z,c,F2,ρ2,Ķ,?_⟩
   have nxt:∀{ρ3:ł},Ŧ (kk X cm) E c F2 D (ī mc mb m ρ3)→∀σ' F' H',Rel (kk X cm) c F' H' σ' ρ3→Same F2 F'→∃m',m'<m+1∧∃F2 ρ2,Rel (kk X cm) c F2 H' σ' ρ2∧Same F F2∧Ŧ (kk X cm) E c F2 D (ī mc mb m' ρ2):=
    fun{ρ3} h3 σ' F' H' au s'=>⟨m,Nat.lt_succ_self m,F',ρ3,au,(s1.trans s2).trans s',Ŧ.mono h3 s'⟩
   cases e2:mb ρ2 with
   |bad=>rw[e2] at h2;exact h2
   |exc x ρ3=>rw[e2] at h2;exact h2
   |ok f ρ3=>
    rw[e2] at h2
    cases f with
    |nx=>exact nxt h2
    |ct=>exact nxt h2
    |bk=>exact h2
    |rt r=>exact h2
def dz(K:KK)(Lh F:Hp)(J:It)(items:List PV):Prop:=∀(c:Ctx) (i:Nat) (F2 H:Hp) (σ:L2.St) (ρ:ł),Rel K c F2 H σ ρ→Same F F2→Same Lh H→
 (∀p,items[i]?=some p→J.go i H∧∀x H',J.Tf i H x H'→∃F3,Rel K c F3 H' σ ρ∧Same F2 F3∧Same H H'∧Rep K F3 p x)∧(i=items.length→J.stop i H)
def rIt(K:KK):RR (List PV) It:=fun c _ _ F _ items J=>dz K c.L F J items
abbrev tI(K:KK)(E:L2.St→XK)(m:M (List PV)):TI:=tG K E (rIt K) m
def forL(g:Tg)(mb:M Fl):List PV→M Fl
 | [],ρ=>.ok .nx ρ
 |p::ps,ρ=>match g p ρ with
  |none=>.bad
  |some ρ1=>(mb ρ1).bind fun f ρ2=>match f with
   | .nx=>forL g mb ps ρ2
   | .ct=>forL g mb ps ρ2
   | .bk=>.ok .nx ρ2
   | .rt r=>.ok (.rt r) ρ2
def cQ(mi:M (List PV))(g:Tg)(mb:M Fl):M Fl:=fun ρ=>(mi ρ).bind fun items ρ1=>forL g mb items ρ1
theorem aP{iter tg:Expr}{body:List Stmt}{mi:M (List PV)}{g:Tg}{mb:M Fl}(hp:PassesOwn (model X.prog X.w) X.A X.env X.xe)(hc:X.calm=true)(hi:PI X tg iter (tI (kk X cm) E mi))(hg:PG X tg (tT (kk X cm) g))(hb:gQ X body (tS (kk X cm) E mb))
 (hs:∀x,foldedSetIterable iter X.env x=pure x:=by intro _;rfl):PS X (.For tg iter body [] pos) (tS (kk X cm) E (cQ mi g mb)):=PS.wk (Fy hp hc hi hg hb hs) fun D σ H ⟨c,F,ρ,rel,h⟩=>⟨c,F,ρ,rel,Ŧ.bind h fun items ρ1 J F1 H1 ė s1 ito h1=>by
 refine⟨fun i m σ' H'=>∃F2 ρ2,i≤items.length∧m=items.length-i∧Rel (kk X cm) c F2 H' σ' ρ2∧Same F1 F2∧Ŧ (kk X cm) E c F2 D (forL g mb (items.drop i) ρ2),⟨_,F1,ρ1,Nat.zero_le _,rfl,ė,Same.refl _,h1⟩,?_⟩
 rintro i m σ2 H2 ⟨F2,ρ2,hle,rfl,Ķ,s2,h2⟩
 obtain⟨go,stop⟩:=ito c i F2 H2 σ2 ρ2 Ķ s2 fun b u e=>(Ķ.lent b u e).1
 by_cases hlt:i<items.length
 ·obtain⟨g1,g2⟩:=go items[i] (List.getElem?_eq_getElem hlt)
  rw[List.drop_eq_getElem_cons hlt] at h2
  unfold forL at h2
  refine .inr ⟨g1,_,fun σ' H' z=>z,fun x H3 hy=>?_⟩
  obtain⟨F3,wA,s3,_,rp⟩:=g2 x H3 hy
  refine⟨c,F3,ρ2,items[i],wA,rp,?_⟩
  cases eg:g items[i] ρ2 with
  |none=>rw[eg] at h2;exact h2.elim
  |some ρ3=>
   rw[eg] at h2
   dsimp only at h2
   intro σ4 uw
   refine⟨c,F3,ρ3,uw,?_⟩
   have nxt:∀{ρ4:ł},Ŧ (kk X cm) E c F2 D (forL g mb (items.drop (i+1)) ρ4)→∀σ' F' H',Rel (kk X cm) c F' H' σ' ρ4→Same F3 F'→∃m',m'<items.length-i∧∃F2 ρ2,i+1≤items.length∧m'=items.length-(i+1)∧Rel (kk X cm) c F2 H' σ' ρ2∧Same F1 F2∧Ŧ (kk X cm) E c F2 D (forL g mb (items.drop (i+1)) ρ2):=
    fun{ρ4} h3 σ' F' H' au s'=>⟨items.length-(i+1),by omega,F',ρ4,hlt,rfl,au,(s2.trans s3).trans s',Ŧ.mono h3 (s3.trans s')⟩
   have h2':=Ŧ.mono h2 s3
   cases e2:mb ρ3 with
   |bad=>rw[e2] at h2;exact h2
   |exc x ρ4=>rw[e2] at h2';exact h2'
   |ok f ρ4=>
    rw[e2] at h2 h2'
    cases f with
    |nx=>exact nxt h2
    |ct=>exact nxt h2
    |bk=>exact h2'
    |rt r=>exact h2'
 ·have e:i=items.length:=by omega
  refine .inl ⟨stop e,?_⟩
  rw[List.drop_eq_nil_of_le (by omega)] at h2
  unfold forL at h2
  exact h2 σ2 F2 H2 Ķ (Same.refl _)⟩
end
end P
namespace P
open PySem PySem.Spec PyProof.Rows L2 M2 M3
inductive FR where
 |ret (r:RV)|exc (x:PX)|bad
abbrev MF:=List Slot→FR
def FR.of:Res Fl→FR
 | .ok (.rt r) _=>.ret r
 | .ok .nx _=>.ret (.sh .non)
 | .exc x _=>.exc x
 |_=>.bad
def š(n k:Nat)(mb:M Fl):MF:=fun as=>if as.length=n then FR.of (mb (startP k as)) else .bad
def rF(K:KK)(H F' H':Hp):RV→V→Prop
 | .sh p,v=>Rep K F' p v
 | .ow ps,v=>∃a vs,v=.ref a∧H' a=some (.lst vs)∧F' a=none∧H a=none∧ĕ K F' ps vs
 | .ot ps qs,v=>∃p a xs vs,v=.ref p∧F' p=some (.tup (xs ++ [.ref a]))∧ĕ K F' ps xs∧H' a=some (.lst vs)∧F' a=none∧H a=none∧ĕ K F' qs vs
def Xk(K:KK)(E:XK)(F H:Hp)(Q:VK):FR→Prop
 | .ret r=>∀v F' H',Gr F H F' H'→rF K H F' H' r v→Q v H'
 | .exc x=>∀C d F' H',Gr F H F' H'→GX K F' x C d→E C d H'
 | .bad=>False
def cF(K:KK)(n:Nat)(mf:MF):Sp:=fun vs H Q E=>∃F as,as.length=n∧Same F H∧Paired (dG K F H) as vs∧Xk K E F H Q (mf as)
def gZ(CX:jH)(X:Cx)(E:L2.St→XK):Prop:=∀(pins:List (Addr×Obj)) (σ:L2.St) (H:Hp) (s:Shared) (e:Value) (s':Shared),Inv X pins σ H s→CX X.stack H s (E σ) e s'→X.xe e s'
section
variable{P:Program}{w:World}{K:PySem.W.Frag}{cm:String→Addr}{mg:Str→Option Value}{base:Heap}{CX:jH}
theorem fnP{x qual:Str}{st:Stmt}{f:Addr}{fd:FuncData}{N ps:List Str}{k:Nat}{mb:M Fl}(F:dw K x qual st f fd)(S:ħ N ps (ċ st))
 (hbody:∀(cdv:Value) (A:Around) (outer:List Env) (s:Shared) (H:Hp) (E:XK),bU k (A.deeper (envOfC qual (ċ st) s.heap.objs.size f cdv))→
   gQ (aO CX P w K mg base N qual (ċ st) f cdv A outer s H E) (aV st) (tS ⟨K,cm⟩ (fun _=>E) mb)):Œ P w K mg base CX (k+1) f fd ps (cF ⟨K,cm⟩ ps.length (š ps.length N.length mb)):=by
 obtain⟨oc,od,kV,doc,pm,an,cdv,ct,osl,rfl,lk,hcd⟩:=F.ex
 refine KZ lk hcd S (fun vs H Q E ⟨F,ps',h1,_,h2,_⟩=>by rw[←Paired.length h2];exact h1) fun A outer s H vs Q E hr hsp=>?_
 obtain⟨F,ps',h1,h2,h3,h4⟩:=hsp
 refine⟨_,hbody cdv A outer s H E hr,ctx0 F H,F,startP N.length ps',Rel.start h2 h3,?_⟩
 unfold š at h4
 rw[if_pos h1] at h4
 cases e:mb (startP N.length ps') with
 |bad=>rw[e] at h4;exact h4
 |exc x ρ'=>rw[e] at h4;exact fun σ' C d F' H' rel s1 q=>h4 C d F' H' rel.gr q
 |ok fl ρ'=>
  rw[e] at h4
  cases fl with
  |nx=>exact fun σ' F' H' rel s1=>h4 .non F' H' rel.gr (Rep.non (K:=⟨K,cm⟩) (F:=F'))
  |bk=>exact h4.elim
  |ct=>exact h4.elim
  |rt r=>
   intro v σ' F' H' rel s1 q
   refine h4 v F' H' rel.gr ?_
   cases r with
   |sh p=>exact q
   |ow qs=>
    obtain⟨a,vs',e1,e2,e3,e4,_,e5⟩:=q
    exact⟨a,vs',e1,e2,e3,e4,e5⟩
   |ot qs ts=>
    obtain⟨p,a,xs,vs',e1,e0,ex,e2,e3,e4,_,e5⟩:=q
    exact⟨p,a,xs,vs',e1,e0,ex,e2,e3,e4,e5⟩
theorem fH{x qual:Str}{st:Stmt}{f:Addr}{fd:FuncData}{N ps:List Str}{k n j:Nat}{mb:M Fl}{mf:MF}(F:dw K x qual st f fd)(S:ħ N ps (ċ st))(hn:ps.length=n)(hj:N.length=j)(hf:mf=š n j mb)
 (hbody:∀(cdv:Value) (A:Around) (outer:List Env) (s:Shared) (H:Hp) (E:XK),bU k (A.deeper (envOfC qual (ċ st) s.heap.objs.size f cdv))→
   gQ (aO CX P w K mg base N qual (ċ st) f cdv A outer s H E) (aV st) (tS ⟨K,cm⟩ (fun _=>E) mb)):Œ P w K mg base CX (k+1) f fd ps (cF ⟨K,cm⟩ n mf):=by
 subst hn hj hf
 exact fnP F S hbody
end
def Ğ(mf:MF)(mr:M (List Slot)):M RV:=fun ρ=>(mr ρ).bind fun ps ρ1=>match mf ps with
 | .ret r=>.ok r ρ1
 | .exc x=>.exc x ρ1
 | .bad=>.bad
section
variable{X:Cx}{cm:String→Addr}{E:L2.St→XK}{CX:jH}{k n:Nat}{f:Addr}{fd:FuncData}{ps:List Str}{mf:MF}{mr:M (List Slot)}{x:Str}{p pos:Pos}{e:Expr}{es:List Expr}
theorem Bw{sp:Sp}{pins:List (Addr×Obj)}{σ:L2.St}{H:Hp}{s:Shared}{Q:VK}{us:List Value}{vs:List V}(F:Œ X.prog X.w X.K X.mg X.base CX k f fd ps sp)(hr:bU k X.A)(hb:Binds X.K fd ps [])(hx:gZ CX X E)
 (I:Inv X pins σ H s)(r:Vals vs us)(h:sp vs H Q (E σ)):wpAny (model X.prog X.w) X.A (call (.ref f) us) (EP X pins σ Q) X.xe s:=by
 have hl:(us ++ []).length=ps.length:=by rw[List.append_nil,←r.length];exact F.len _ _ _ _ h
 have hbd:=hb s us I.jz hl
 rw[List.append_nil] at hbd
 refine wpAny_call (codeAny_mono (F.run X.A X.stack s H ⟨us,[]⟩ us vs Q (E σ) hr I.env0 hbd r h) fun r s' hq=>?_)
 cases r with
 |error e=>exact hx pins σ H s e s' I hq
 |ok fl=>
  cases fl with
  |ret u=>exact I.after hq
  |next=>exact False.elim hq
  |brk=>exact False.elim hq
  |cont=>exact False.elim hq
theorem wB{c:Ctx}{F1 H1:Hp}{σ:L2.St}{ρ1:ł}{Q:VK}{ps:List Slot}{vs:List V}(hlen:(∃r,mf ps=r∧∀z,r=z→z≠ .bad)→ps.length=n)(ė:Rel (kk X cm) c F1 H1 σ ρ1)(r1:Paired (dG (kk X cm) F1 H1) ps vs)
 (h:bG (kk X cm) E (rO (kk X cm)) c F1 H1 σ Q (match mf ps with| .ret r=>.ok r ρ1| .exc x=>.exc x ρ1| .bad=>.bad)):cF (kk X cm) n mf vs H1 Q (E σ):=by
 refine⟨F1,ps,?_,ė.sub,r1,?_⟩
 ·refine hlen ⟨_,rfl,fun z hz hb=>?_⟩
  rw[hz,hb] at h
  exact h
 ·cases em:mf ps with
  |bad=>rw[em] at h;exact h
  |exc x=>rw[em] at h;exact fun C d F' H' g rx=>h C d F' H' (ė.call g) g.f rx
  |ret r=>
   rw[em] at h
   intro v F' H' g rf
   refine h v F' H' (ė.call g) g.f g.h ?_
   cases r with
   |sh p=>exact rf
   |ow qs=>
    obtain⟨a,vs',e1,e2,e3,e4,e5⟩:=rf
    exact⟨a,vs',e1,e2,e3,ė.base.free e4,ė.lK g.f (ė.fresh e4),e5⟩
   |ot qs ts=>
    obtain⟨p,a,xs,vs',e1,e0,ex,e2,e3,e4,e5⟩:=rf
    exact⟨p,a,xs,vs',e1,e0,ex,e2,e3,ė.base.free e4,ė.lK g.f (ė.fresh e4),e5⟩
theorem ē{n k:Nat}{mb:M Fl}{ps:List Slot}(h:∃r,š n k mb ps=r∧∀z,r=z→z≠ .bad):ps.length=n:=by
 obtain⟨r,h1,h2⟩:=h
 unfold š at h1
 by_cases hl:ps.length=n
 ·exact hl
 ·rw[if_neg hl] at h1
  exact absurd h1.symm (fun z=>h2 .bad (by rw[←h1]) rfl)
theorem ġ(F:Œ X.prog X.w X.K X.mg X.base CX k f fd ps (cF (kk X cm) n mf))(hlen:∀{ps:List Slot},(∃r,mf ps=r∧∀z,r=z→z≠ .bad)→ps.length=n)(hr:bU k X.A)(hg:Gl X x)(hm:X.mg x=some (.ref f))(hk:PySem.W.keepIn X.K (.ref f)=true)(hb:Binds X.K fd ps [])(hx:gZ CX X E)
 (ha:PA X (e::es) (tA (kk X cm) E mr))(hdb:(x== ("__debug__" :Str))=false:=by decide)(he:starEach (e::es) X.env=(false,eval e X.env)::starEach es X.env:=by exact Ĉ rfl)(hpl:(backTo pos (starEach es X.env)).any (·.1)=false:=by rfl) :
 PE X (.Call (.Name x p) (e::es) [] pos) (tO (kk X cm) E (Ğ mf mr)):=by
 intro pins s σ H Q I h
 obtain⟨c,F,ρ,rel,h⟩:=h
 refine wpAny_Call_Name_kw (qR I hg hm ?_ hdb)
 refine PySem.W.callWith_K (h₀:= X.base) I.ok.mod.Tc hk (Ť (ha pos pins s σ H (fun vs H1=>cF (kk X cm) n mf vs H1 Q (E σ)) I ⟨c,F,ρ,rel,h.bind fun ps' ρ1 vs F1 H1 ė _ _ r1 h1=>wB hlen ė r1 h1⟩) fun us s1 ⟨vs,H1,I1,r,q⟩=>⟨I1.jz,?_⟩) he hpl
 exact Bw (by assumption) hr hb hx I1 r q
end
def aA(m:M PV):M (List PV):=fun ρ=>(m ρ).bind fun p ρ1=>match p with
 | .lst ps=>.ok ps ρ1
 | .tup ps=>.ok ps ρ1
 | .str z=>.ok (z.cps.toList.map fun c=>.str ⟨#[c]⟩) ρ1
 |_=>.bad
section
variable{X:Cx}{cm:String→Addr}{E:L2.St→XK}{tg:Expr}
def Xl(K:PySem.W.Frag)(tl:TE):TI:=fun σ H R=>tl σ H fun x H1=>(∃a,x=.ref a∧(∃xs,ų K H1 a xs)∧R (JT K a) H1)∨(∃a,x=.ref a∧(∃xs,aZ K H1 a xs)∧R (Kz K a) H1)∨∃z,x=.str z∧R (Its z) H1
theorem wC{l:Expr}{tl:TE}(hl:PE X l tl):PI X tg l (Xl X.K tl):=by
 intro pins s σ H R I h
 refine Ť (hl pins s σ H _ I h) fun v s1 ⟨x,H1,I1,r1,q1⟩=>?_
 rcases q1 with⟨a,e,⟨xs,hq⟩,q⟩|⟨a,e,⟨xs,hq⟩,q⟩|⟨z,e,q⟩
 ·subst e
  cases r1
  obtain⟨its,rv,p,hz⟩:=I1.list hq
  refine wpAny_pyIter_list p.isList ?_
  refine⟨s1.heap.objs.size,[s1.heap.objs.size],_,_,H1,rfl,I1.kept (t':=s1.toks) fun b o e=>Heap.get?_push_of_some _ e,tM a _,⟨_,Heap.get?_push_size _ rfl,rfl,rfl⟩,fun b hb=>?_,q⟩
  have e:b=s1.heap.objs.size:=by simpa using hb
  subst e
  exact I1.vm (Nat.le_refl _) (I1.hok.fresh (Nat.le_refl _))
 ·subst e
  cases r1
  obtain⟨its,rv,p,hz⟩:=I1.tuple hq
  refine wpAny_pyIter_tuple (show s1.heap.IsTuple a its.toArray from p) ?_
  refine⟨s1.heap.objs.size,[s1.heap.objs.size],_,_,H1,rfl,I1.kept (t':=s1.toks) fun b o e=>Heap.get?_push_of_some _ e,pF a _,⟨_,Heap.get?_push_size _ rfl,rfl,rfl⟩,fun b hb=>?_,q⟩
  have e:b=s1.heap.objs.size:=by simpa using hb
  subst e
  exact I1.vm (Nat.le_refl _) (I1.hok.fresh (Nat.le_refl _))
 ·subst e
  obtain⟨t,rfl⟩:=r1
  have fin:∀ty,(∀A:Around,A.handled=none→Walks X.prog X.w A s1.heap.objs.size [s1.heap.objs.size] [s1.heap.objs.size] z.cps.size (SignAt z) (fun i h=>h.IsStrIter s1.heap.objs.size ty z t i))→
   (∀(A:Around) (i:Nat) (s:Shared) (Q:Value→Shared→Prop) (E:Value→Shared→Prop),s.heap.IsStrIter s1.heap.objs.size ty z t i→Q (.ref s1.heap.objs.size) s→wpAny (model X.prog X.w) A (pyIter (.ref s1.heap.objs.size)) Q E s)→
   (["enumerate","zip","dict_itemiterator","dict_reverseitemiterator","odict_iterator","itertools.zip_longest","itertools.pairwise"].contains ty=false)→
   PIE X pins σ tg R (.ref s1.heap.objs.size) {s1 with heap:=s1.heap.push {cls:=.type ty,data:=.fields #[.str z t,.int 0 0]}}:=fun ty hW hS hty=>by
   refine⟨s1.heap.objs.size,[s1.heap.objs.size],_,_,H1,rfl,I1.kept (t':=s1.toks) fun b o e=>Heap.get?_push_of_some _ e,um _ z t ty hW hS hty,⟨_,Heap.get?_push_size _ rfl,rfl,rfl⟩,fun b hb=>?_,q⟩
   have e:b=s1.heap.objs.size:=by simpa using hb
   subst e
   exact I1.vm (Nat.le_refl _) (I1.hok.fresh (Nat.le_refl _))
  cases ha:z.cps.all (·< 128) with
  |true=>exact wpAny_pyIter_ascii ha (fin _ (fun A hA=>Walks.strAscii hA _ z t) (fun A i s Q E st q=>wpAny_pyIter_striter_ascii st q) (by decide))
  |false=>exact wpAny_pyIter_wide ha (fin _ (fun A hA=>Walks.strWide hA _ z t) (fun A i s Q E st q=>wpAny_pyIter_striter_wide st q) (by decide))
theorem jV{l:Expr}{m:M PV}(hl:PE X l (tV (kk X cm) E m)):PI X tg l (tI (kk X cm) E (aA m)):=fun pins s σ H R I h=>wC hl pins s σ H R I (by
 obtain⟨c,F,ρ,rel,h⟩:=h
 refine⟨c,F,ρ,rel,h.bind fun p ρ1 v F1 H1 ė s1 s2 q h1=>?_⟩
 cases p with
 |lst ps=>
  have q':Rep (kk X cm) F1 (.lst ps) v:=q
  unfold Rep at q'
  obtain⟨a,vs,rfl,e1,e2⟩:=q'
  refine .inl ⟨a,rfl,⟨vs,ė.sub.seq e1⟩,h1 _ F1 H1 ė (Same.refl _) (Same.refl _) ?_⟩
  intro c' i F2 H2 σ2 ρ2 Ķ sF _
  have hq:ų X.K H2 a vs:=(sF.trans Ķ.sub).seq e1
  refine⟨fun p hp=>?_,fun hi=>⟨vs,hq,by rw[hi,e2.length];exact Nat.le_refl _⟩⟩
  obtain⟨u,hu,ru⟩:=bf e2.pr hp
  refine⟨⟨vs,u,hq,hu⟩,fun x H' ⟨hH,hx⟩=>?_⟩
  subst hH
  have:vs[i]?=some x:=hx vs hq
  rw[hu] at this
  cases this
  exact⟨F2,Ķ,Same.refl _,Same.refl _,Rep.same sF p u ru⟩
 |tup ps=>
  have q':Rep (kk X cm) F1 (.tup ps) v:=q
  unfold Rep at q'
  obtain⟨a,vs,rfl,e1,e2⟩:=q'
  refine .inr (.inl ⟨a,rfl,⟨vs,Same.tup ė.sub e1⟩,h1 _ F1 H1 ė (Same.refl _) (Same.refl _) ?_⟩)
  intro c' i F2 H2 σ2 ρ2 Ķ sF _
  have hq:aZ X.K H2 a vs:=Same.tup (sF.trans Ķ.sub) e1
  refine⟨fun p hp=>?_,fun hi=>⟨vs,hq,by rw[hi,e2.length];exact Nat.le_refl _⟩⟩
  obtain⟨u,hu,ru⟩:=bf e2.pr hp
  refine⟨⟨vs,u,hq,hu⟩,fun x H' ⟨hH,hx⟩=>?_⟩
  subst hH
  have:vs[i]?=some x:=hx vs hq
  rw[hu] at this
  cases this
  exact⟨F2,Ķ,Same.refl _,Same.refl _,Rep.same sF p u ru⟩
 |str z=>
  have q':v=.str z:=by have q':Rep (kk X cm) F1 (.str z) v:=q;unfold Rep at q';exact q'
  subst q'
  refine .inr (.inr ⟨z,rfl,h1 _ F1 H1 ė (Same.refl _) (Same.refl _) ?_⟩)
  intro c' i F2 H2 σ2 ρ2 Ķ sF _
  refine⟨fun p hp=>?_,fun hi=>by rw[hi,List.length_map];show _=_;simp⟩
  rw[List.getElem?_map] at hp
  cases ez:z.cps.toList[i]? with
  |none=>rw[ez] at hp;cases hp
  |some cc=>
   rw[ez] at hp
   cases hp
   refine⟨by have:=(List.getElem?_eq_some_iff.mp ez).1;show i<z.cps.size;simpa using this,fun x H' ⟨hH,c2,hc,hx⟩=>?_⟩
   subst hH hx
   rw[ez] at hc
   cases hc
   exact⟨F2,Ķ,Same.refl _,Same.refl _,Rep.str⟩
 |_=>exact h1.elim)
def ņ(i:Nat):M (List PV):=fun ρ=>match ρ[i]? with
 |some (.bw ps)=>.ok ps ρ
 |some (.sh (.lst ps))=>.ok ps ρ
 |some (.sh (.tup ps))=>.ok ps ρ
 |some (.sh (.str z))=>.ok (z.cps.toList.map fun c=>.str ⟨#[c]⟩) ρ
 |some (.ow ps)=>.ok ps (ρ.set i (.sh (.lst ps)))
 |_=>.bad
theorem ŗ(i:Nat){x:Str}{px:Pos}(hN:X.N[i]?=some x:=by rfl)(hv:uY X.env.scope x:=by first|exact Or.inl rfl|exact Or.inr (Or.inl rfl)|exact Or.inr (Or.inr rfl))(hd:(x== ("__debug__" :Str))=false:=by decide)
 (hcd:(x== ("__classdict__" :Str))=false:=by decide):PI X tg (.Name x px) (tI (kk X cm) E (ņ i)):=fun pins s σ H R I h=>by
 obtain⟨c,F,ρ,rel,h⟩:=h
 cases e:ρ[i]? with
 |none=>unfold ņ at h;rw[e] at h;exact h.elim
 |some sl=>
  have Bx:bG (kk X cm) E (rIt (kk X cm)) c F H σ R (aA (ĺ i) ρ)→wpAny (model X.prog X.w) X.A (eval (.Name x px) X.env) (fun v s1=>wpAny (model X.prog X.w) X.A (pyIter v) (PIE X pins σ tg R) X.xe s1) X.xe s:=fun h'=>
   jV (v_var i hN hv hd hcd) pins s σ H R I ⟨c,F,ρ,rel,h'⟩
  unfold ņ at h
  rw[e] at h
  cases sl with
  |no=>exact h.elim
  |rc C ns ps=>exact h.elim
  |ot ps qs=>exact h.elim
  |ow ps=>exact Bx (by unfold aA ĺ;rw[e];exact h)
  |sh p=>
   cases p with
   |lst ps=>exact Bx (by unfold aA ĺ;rw[e];exact h)
   |tup ps=>exact Bx (by unfold aA ĺ;rw[e];exact h)
   |str z=>exact Bx (by unfold aA ĺ;rw[e];exact h)
   |_=>exact h.elim
  |bw ps=>
   obtain⟨a,vs,h1,h2,h3⟩:=rel.slot i _ e
   refine wC (cG hN hv hd hcd) pins s σ H R I ⟨.ref a,at_of h1,.inl ⟨a,rfl,⟨vs,ų.of (rel.lent a _ h2).1⟩,h _ F H rel (Same.refl _) (Same.refl _) ?_⟩⟩
   intro c' j F2 H2 σ2 ρ2 Ķ sF sL
   have hq:ų X.K H2 a vs:=ų.of (sL a _ h2)
   refine⟨fun p hp=>?_,fun hi=>⟨vs,hq,by rw[hi,h3.length];exact Nat.le_refl _⟩⟩
   obtain⟨u,hu,ru⟩:=bf h3.pr hp
   refine⟨⟨vs,u,hq,hu⟩,fun x H' ⟨hH,hx⟩=>?_⟩
   subst hH
   have:vs[j]?=some x:=hx vs hq
   rw[hu] at this
   cases this
   exact⟨F2,Ķ,Same.refl _,Same.refl _,Rep.same sF p u ru⟩
def cR(lo:Int)(n:Nat)(c:Int):List PV:=(List.range n).map fun(i:Nat)=>.int (lo+i*c)
def iR(i:Int):Bool:=decide (i.natAbs<1152921504606846976)
def bK:List PV→Option (List PV)
 | [.int j]=>if iR j=true then some (cR 0 j.toNat 1) else none
 |_=>none
def bA(f:List PV→Option (List PV))(mr:M (List PV)):M (List PV):=fun ρ=>(mr ρ).bind fun ps ρ1=>Res.gW (f ps) ρ1
theorem pR{lo c:Int}{n i:Nat}{p:PV}(h:(cR lo n c)[i]?=some p):i<n∧p=.int (lo+i*c):=by
 unfold cR at h
 by_cases hn:i<n
 ·rw[List.getElem?_map,List.getElem?_range hn] at h
  exact⟨hn,(Option.some.inj h).symm⟩
 ·rw[List.getElem?_eq_none (by simpa using hn)] at h
  cases h
theorem pU{lo c:Int}{n:Nat}:(cR lo n c).length=n:=by simp[cR]
theorem Hf{K:KK}{Lh F:Hp}(lo:Int)(n:Nat):dz K Lh F (Ti lo n) (cR lo n 1):=fun c i F2 H σ ρ rel sF _=>
 ⟨fun p hp=>by
   obtain⟨h1,rfl⟩:=pR hp
   refine⟨h1,fun x H' ⟨e1,e2⟩=>?_⟩
   subst e1 e2
   exact⟨F2,rel,Same.refl _,Same.refl _,by rw[Int.mul_one];exact Rep.int⟩,fun hi=>by rw[pU] at hi;subst hi;exact Nat.le_refl _⟩
theorem ux{i:Int}(h:iR i=true): -(2 ^ 60)≤i∧i<2 ^ 60:=by
 unfold iR at h
 rw[decide_eq_true_eq] at h
 omega
variable{a b d:Expr}{p pos:Pos}{mr:M (List PV)}
theorem wD{K:KK}{F:Hp}{ps:List PV}{vs:List V}(h:ĕ K F ps vs):(∀i r,ps=.int i::r→∃r',vs=.int i::r'∧ĕ K F r r')∧(ps=[]→vs=[]):=by
 refine⟨fun i r e=>?_,fun e=>?_⟩
 ·subst e
  unfold ĕ at h
  obtain⟨x,r',h1,h2,h3⟩:=h
  unfold Rep at h2
  exact⟨r',by rw[h1,h2],h3⟩
 ·subst e
  unfold ĕ at h
  exact h
theorem aj(hg:Gl X "range")(hm:X.mg "range" =none)(ha:PA X [a] (tL (kk X cm) E mr))(hs:starEach [a] X.env=[(false,eval a X.env)]:=by exact Ĉ rfl):PI X tg (.Call (.Name "range" p) [a] [] pos) (tI (kk X cm) E (bA bK mr)):=
 fun pins s σ H R I h=>tQ hg hm ha hs pins s σ H R I (by
  obtain⟨c,F,ρ,rel,h⟩:=h
  refine⟨c,F,ρ,rel,h.bind fun ps ρ1 vs F1 H1 ė s1 s2 q h1=>?_⟩
  have q':ĕ (kk X cm) F1 ps vs:=q
  unfold bK at h1
  split at h1
  ·rename_i j
   split at h1
   ·rename_i hj
    obtain⟨r',e1,e2⟩:=(wD q').1 _ _ rfl
    cases(wD e2).2 rfl
    obtain⟨k1,k2⟩:=ux hj
    exact⟨j,e1,by omega,by omega,h1 _ F1 H1 ė (Same.refl _) (Same.refl _) (Hf 0 j.toNat)⟩
   ·exact h1.elim
  ·exact h1.elim)
end
def nD:Slot→Slot
 | .sh p=>.sh p
 | .ow ps=>.bw ps
 | .bw ps=>.bw ps
 |_=>.no
def nF(js:List Nat)(nl:Nat)(ρ:ł):ł:=js.map (fun(j:Nat)=>nD ((ρ[j]?).getD .no))++List.replicate nl .no
def Ń(g:Tg)(mt:M Bool)(me:M PV):List PV→ł→List PV→Option (List PV)
 | [],_,acc=>some acc
 |p::ps,ρ,acc=>match g p ρ with
  |none=>none
  |some ρ1=>match mt ρ1 with
   | .ok true ρ2=>match me ρ2 with
     | .ok q ρ3=>if acc.length<16777216 then Ń g mt me ps ρ3 (acc ++ [q]) else none
     |_=>none
   | .ok false ρ2=>Ń g mt me ps ρ2 acc
   |_=>none
def ţ(js:List Nat)(nl:Nat)(mi:M (List PV))(g:Tg)(mt:M Bool)(me:M PV):M RV:=fun ρ=>(mi ρ).bind fun items ρ1=>match Ń g mt me items (nF js nl ρ1) [] with
 |some ps=>.ok (.ow ps) ρ1
 |none=>.bad
abbrev EF:L2.St→XK:=fun _ _ _ _=>False
def ŋ:M Bool:=fun ρ=>.ok true ρ
section
variable{K:KK}{c:Ctx}{F H:Hp}{σ:L2.St}{ρ:ł}
def jA(F H H1:Hp):Ctx:=⟨H1,F,(ctx0 F H).L,fun _ _ _=>True⟩
theorem Rel.cap(js:List Nat)(nl:Nat)(rel:Rel K c F H σ ρ){D:Addr}{o:HO}(hD:H D=none):Rel K (jA F H (upd H D o)) F (upd H D o) (cJ js nl σ) (nF js nl ρ) where
 sub:=rel.sub.trans (Same.upd hD)
 base:=Same.refl _
 f0:=Same.refl _
 bC:=fun _ _ z=>z
 lent:=fun a u e=>⟨Same.upd hD a u (fQ e).1,(fQ e).2⟩
 lb:=fun a e=>by
   cases q:(jA F H (upd H D o)).L a with
   |none=>rfl
   |some u=>
    have e':upd H D o a=none:=e
    rw[Same.upd hD a u (fQ q).1] at e'
    cases e'
 len:=by simp[cJ,nF]
 slot:= fun i s e=>by
  unfold nF at e
  by_cases hi:i<js.length
  ·rw[List.getElem?_append_left (by simpa using hi),List.getElem?_map] at e
   cases ej:js[i]? with
   |none=>rw[ej] at e;cases e
   |some j=>
    rw[ej] at e
    have e':nD ((ρ[j]?).getD .no)=s:=Option.some.inj e
    subst e'
    have hx:((cJ js nl σ)[i]?).getD none=(σ[j]?).getD none:=by
     unfold cJ
     rw[List.getElem?_append_left (by simpa using hi),List.getElem?_map,ej]
     rfl
    rw[hx]
    cases er:ρ[j]? with
    |none=>trivial
    |some sl=>
     have q:=rel.slot j sl er
     cases sl with
     |no=>trivial
     |sh p=>exact q
     |ow ps=>
      obtain⟨a,vs,h1,h2,h3,h4,h5⟩:=q
      refine⟨a,vs,h1,?_,h5⟩
      show(match F a with|none=>H a|some _=>none)=_
      rw[h3]
      exact h2
     |bw ps=>
      obtain⟨a,vs,h1,h2,h3⟩:=q
      obtain⟨l1,l2⟩:=rel.lent a _ h2
      refine⟨a,vs,h1,?_,h3⟩
      show(match F a with|none=>H a|some _=>none)=_
      rw[l2]
      exact l1
     |rc C ns ps=>trivial
     |ot ps qs=>trivial
  ·rw[List.getElem?_append_right (by simpa using hi),List.getElem?_replicate] at e
   split at e
   ·cases e;trivial
   ·cases e
 sep:=fun i j a h1 _=>by
  exfalso
  obtain⟨s,y,h1,_,h2⟩:=h1
  have h2:=fP h2
  unfold nF at h1
  by_cases hi:i<js.length
  ·rw[List.getElem?_append_left (by simpa using hi),List.getElem?_map] at h1
   cases ej:js[i]? with
   |none=>rw[ej] at h1;cases h1
   |some j=>
    rw[ej] at h1
    have e':nD ((ρ[j]?).getD .no)=s:=Option.some.inj h1
    subst e'
    cases q:(ρ[j]?).getD .no<;>rw[q] at h2<;>cases h2
  ·rw[List.getElem?_append_right (by simpa using hi),List.getElem?_replicate] at h1
   split at h1
   ·cases h1;cases h2
   ·cases h1
theorem Rel.rebase{H1 F1:Hp}{D:Addr}{ys zs:List V}(hD:H1 D=none)(hF:F1 D=none)(rel:Rel K (jA F1 H1 (upd H1 D (.lst ys))) F H σ ρ):Rel K (jA F1 H1 (upd H1 D (.lst zs))) F (upd H D (.lst zs)) σ ρ:= by
 have fD:F D=none:=rel.bC D (by show upd H1 D _ D≠none;rw[ĥ];intro z;cases z) hF
 have lD:∀b u,(jA F1 H1 (upd H1 D (.lst ys))).L b=some u→b≠D:=fun b u e z=>by
  have q:=(fQ (F:=F1) (H:=H1) (a:=b) (u:=u) e).1
  rw[z,hD] at q
  cases q
 have ne:∀b,(jA F1 H1 (upd H1 D (.lst ys))).B b=none→b≠D:=fun b z q=>by
  subst q
  have z':upd H1 b (.lst ys) b=none:=z
  rw[ĥ] at z';cases z'
 have back:∀b,b≠D→(jA F1 H1 (upd H1 D (.lst ys))).B b=none→(jA F1 H1 (upd H1 D (.lst zs))).B b=none:=fun b hb z=>by
  have z':upd H1 D (.lst ys) b=none:=z
  show upd H1 D (.lst zs) b=none
  rw[Ĝ hb] at z' ⊢;exact z'
 refine⟨fun b u e=>?_,fun b u e=>?_,rel.f0,fun b h1 h2=>?_,fun b u e=>?_,fun b e=>?_,rel.len,fun i s e=>?_,rel.sep⟩
 ·have hb:b≠D:=fun z=>by rw[z,fD] at e;cases e
  rw[Ĝ hb];exact rel.sub b u e
 ·by_cases hb:b=D
  ·subst hb
   have e':upd H1 b (.lst zs) b=some u:=e
   rw[ĥ] at e' ⊢;exact e'
  ·have e':upd H1 D (.lst zs) b=some u:=e
   rw[Ĝ hb] at e' ⊢
   exact rel.base b u (by show upd H1 D _ b=some u;rw[Ĝ hb];exact e')
 ·refine rel.bC b (fun z=>h1 ?_) h2
  exact back b (ne b z) z
 ·rw[Ĝ (lD b u e)]
  exact rel.lent b u e
 ·refine rel.lb b ?_
  have z':upd H1 D (.lst zs) b=none:=e
  have hb:b≠D:=fun q=>by rw[q,ĥ] at z';cases z'
  show upd H1 D (.lst ys) b=none
  rw[Ĝ hb] at z' ⊢;exact z'
 ·have q:=rel.slot i s e
  cases s with
  |no=>trivial
  |sh p=>exact q
  |bw ps=>exact q
  |ow ps=>
   obtain⟨a,vs,q1,q2,q3,q4,q5⟩:=q
   have hb:=ne a q4
   exact⟨a,vs,q1,by rw[Ĝ hb];exact q2,q3,back a hb q4,q5⟩
  |rc C ns ps=>
   obtain⟨a,dx,fs,q1,q2,q3,q4,q5⟩:=q
   have hb:=ne a q4
   exact⟨a,dx,fs,q1,by rw[Ĝ hb];exact q2,q3,back a hb q4,q5⟩
  |ot ps qs=>
   obtain⟨p,a,xs,vs,q1,q0,qx,q2,q3,q4,q5⟩:=q
   have hb:=ne a q4
   exact⟨p,a,xs,vs,q1,q0,qx,by rw[Ĝ hb];exact q2,q3,back a hb q4,q5⟩
end
section
variable{X:Cx}{cm:String→Addr}{E:L2.St→XK}{elt tg iter:Expr}{ifs:List Expr}{scope:Scope}{pos:Pos}{mi:M (List PV)}{g:Tg}{mt:M Bool}{me:M PV}
theorem ŧ:Dh X [] (tB (kk X cm) E ŋ):=fun pins s σ H Q I h=>Bl pins s σ H Q I (by
 obtain⟨c,F,ρ,rel,h⟩:=h
 exact h true F H rel (Same.refl _) (Same.refl _) rfl)
theorem wF{a:Expr}(h:PT X a (tB (kk X cm) E mt)):Dh X [a] (tB (kk X cm) E mt):=Bm h
theorem nG{js:List Nat}{nl:Nat}{σ:L2.St}{H:Hp}{Q:VK}(h:tO (kk X cm) E (ţ js nl mi g mt me) σ H Q):vL js nl (tI (kk X cm) E mi) (tT (kk X cm) g) (tB (kk X cm) EF mt) (tV (kk X cm) EF me) σ H Q:=by
 obtain⟨c,F,ρ,rel,h⟩:=h
 refine⟨c,F,ρ,rel,h.bind fun items ρ1 J F1 H1 ė s1 s2 ito h1=>?_⟩
 intro D hD
 have hF:F1 D=none:=ė.sub.free hD
 cases ec:Ń g mt me items (nF js nl ρ1) [] with
 |none=>rw[ec] at h1;exact h1.elim
 |some res=>
  rw[ec] at h1
  refine⟨fun i m σ' H'=>∃F' ρ' ys acc,i≤items.length∧m=items.length-i∧Rel (kk X cm) (jA F1 H1 (upd H1 D (.lst ys))) F' H' σ' ρ'∧ĕ (kk X cm) F' acc ys∧Ń g mt me (items.drop i) ρ' acc=some res,
   ⟨_,F1,_,[],[],Nat.zero_le _,rfl,?_,ĕ.nil,ec⟩,?_⟩
  ·exact ė.cap js nl hD
  ·rintro i m σ2 H2 ⟨F2,ρ2,ys,acc,hle,rfl,Ķ,ra,h2⟩
   have s12:Same F1 F2:=Ķ.f0
   have Mi:∀{b:Addr} {u:HO},c.L b=some u→(jA F1 H1 (upd H1 D (.lst ys))).L b=some u:=fun{b u} e=>by
    obtain⟨l1,l2⟩:=ė.lent b u e
    show(match F1 b with|none=>H1 b|some _=>none)=some u
    rw[l2]
    exact l1
   obtain⟨go,stop⟩:=ito _ i F2 H2 σ2 ρ2 Ķ s12 fun b u e=>(Ķ.lent b u (Mi e)).1
   have hH2:H2 D=some (.lst ys):=Ķ.base D _ (show upd H1 D _ D=_ from ĥ)
   have fD:F2 D=none:=Ķ.bC D (by show upd H1 D _ D≠none;rw[ĥ];intro z;cases z) hF
   by_cases hlt:i<items.length
   ·obtain⟨g1,g2⟩:=go items[i] (List.getElem?_eq_getElem hlt)
    rw[List.drop_eq_getElem_cons hlt] at h2
    unfold Ń at h2
    refine .inr ⟨g1,_,fun σ' H' z=>z,fun x H3 hy=>?_⟩
    obtain⟨F3,wA,s3,sH3,rp⟩:=g2 x H3 hy
    refine⟨_,F3,ρ2,items[i],wA,rp,?_⟩
    cases eg:g items[i] ρ2 with
    |none=>rw[eg] at h2;cases h2
    |some ρ3=>
     rw[eg] at h2
     dsimp only at h2
     intro σ4 uw
     refine⟨_,F3,ρ3,uw,?_⟩
     cases em:mt ρ3 with
     |bad=>rw[em] at h2;cases h2
     |exc x ρ4=>rw[em] at h2;cases h2
     |ok b ρ4=>
      rw[em] at h2
      intro b' F5 H5 Mj s5 Dl eb
      have eb':b=b':=eb
      subst eb'
      cases b with
      |false=>
       rw[if_neg Bool.false_ne_true]
       dsimp only at h2
       exact⟨items.length-(i+1),by omega,F5,ρ4,ys,acc,hlt,rfl,Mj,ĕ.same (s3.trans s5) acc ys ra,h2⟩
      |true=>
       rw[if_pos rfl]
       dsimp only at h2
       refine⟨_,F5,ρ4,Mj,?_⟩
       cases ee:me ρ4 with
       |bad=>rw[ee] at h2;cases h2
       |exc x ρ5=>rw[ee] at h2;cases h2
       |ok q ρ5=>
        rw[ee] at h2
        dsimp only at h2
        intro y F6 H6 Ml s6 Tq rq
        split at h2
        ·rename_i hz
         have ra6:=ĕ.same ((s3.trans s5).trans s6) acc ys ra
         refine⟨ys,Ml.base D _ (show upd H1 D _ D=_ from ĥ),by rw[←ra6.length,Ļ];exact hz,?_⟩
         exact⟨items.length-(i+1),by omega,F6,ρ5,ys ++ [y],acc ++ [q],hlt,rfl,Ml.rebase hD hF,ĕ.append ra6 (ĕ.cons rq ĕ.nil),h2⟩
        ·cases h2
   ·have e:i=items.length:=by omega
    refine .inl ⟨stop e,?_⟩
    rw[List.drop_eq_nil_of_le (by omega)] at h2
    unfold Ń at h2
    cases h2
    have gr:Gr F1 H1 F2 H2:=⟨fun b u e=>Ķ.base b u (by show upd H1 D _ b=_;rw[Ĝ (ŕ e hD)];exact e),s12,Ķ.sub,fun b hb hf=>Ķ.bC b (by
     show upd H1 D _ b≠none
     by_cases hbD:b=D
     ·rw[hbD,ĥ];intro z;cases z
     ·rw[Ĝ hbD];exact hb) hf⟩
    have Xm:=ė.call gr
    exact h1 _ F2 H2 Xm s12 gr.h ⟨D,ys,rfl,hH2,fD,ė.base.free hD,ė.lK gr.f (ė.fresh hD),ra⟩
theorem ŭ(N':List Str)(js:List Nat)(nl:Nat)(sc:Scope)(hsc:X.env.scope=sc)(hcalm:X.calm=true)
 (hi:PI X.Ţ tg iter (tI (kk X cm) E mi))(hg:∀cl C s H fp,PG (cX X.Ţ N' scope cl C s H fp) tg (tT (kk X cm) g))(ht:∀cl C s H fp,Dh (cX X.Ţ N' scope cl C s H fp) ifs (tB (kk X cm) EF mt))(he:∀cl C s H fp,PE (cX X.Ţ N' scope cl C s H fp) elt (tV (kk X cm) EF me))
 (hcap:iI X.Ţ sc scope N' js)(hlen:js.length+nl=N'.length:=by rfl)
 (hk:scope.kind=.function:=by rfl)(hcell:∀y∈scope.names,y.2=.cell→scope.names.lookup y.1=some .cell:=by decide +kernel)(hnames:∀y∈scope.names,y.2=.local→scope.names.lookup y.1=some .local:=by decide +kernel)
 (hfree:∀y∈scope.names,y.2=.free→(sc.names.lookup y.1=some .cell∨sc.names.lookup y.1=some .free):=by decide +kernel)
 (hs:∀x,foldedSetIterable iter X.env x=pure x:=by intro _;rfl) :
 PE X (.ListComp elt [⟨tg,iter,ifs,0⟩] scope pos) (tO (kk X cm) E (ţ js nl mi g mt me)):=
 PE.wk (PE.Ţ (Bo N' js nl sc hsc hcalm hi hg ht he hcap hlen hk hcell hnames hfree hs)) fun _ _ _ h=>nG h
end
end P
namespace P
open PySem PySem.Spec PyProof.Rows L2 M2 M3 M4
abbrev bits(x:Int):Nat:=Builtin.Int.intBits x
section
variable{X:Cx}{cm:String→Addr}{K:KK}
def Dm(K:PySem.W.Frag):R2:=fun x y H Q=>∃l b xs zs,x=.ref l∧y=.ref b∧ų K H l xs∧ų K H b zs∧xs.length+zs.length≤sizeLine∧∀p,H p=none→Q (.ref p) (upd H p (.lst (xs++zs)))
theorem BJ:ż X (binaryOp .Add) (Dm X.K):=by
 intro pins s σ H x y v u Q I rx ry h
 obtain⟨l,b,xs,zs,rfl,rfl,hH,hB,hz,q⟩:=h
 cases rx
 cases ry
 obtain⟨its,r,pl,z⟩:=I.list hH
 obtain⟨its2,r2,Xn,z2⟩:=I.list hB
 obtain⟨⟨c1,d1,t1,Mp⟩,n,e,hc,hd,hs⟩:=pl
 obtain⟨⟨c2,d2,t2,sl2⟩,n2,e2,hc2,hd2,hs2⟩:=Xn
 simp only at hc hd hs hc2 hd2 hs2
 subst hc hd hs hc2 hd2 hs2
 have hl:=r.length
 have hl2:=r2.length
 have ea:its.toArray++its2.toArray=(its++its2).toArray:=by simp
 refine concat_meets ⟨_,e,rfl⟩ ⟨_,e2,rfl⟩ noFill_list_add seq_list_add PySem.F.slot_list_add PySem.F.entry_list_add (PySem.F.args_list_add_2 _ _) (list_addW l b its.toArray its2.toArray n n2 none none Mp sl2 (by simp only[List.size_toArray];omega)) ⟨e,e2,?_⟩
 rw[ea]
 exact⟨.ref _,_,I.WD (t':=s.toks) (r.append r2) (by rw[List.length_append];omega),rfl,q _ I.fresh⟩
def Dp(K:PySem.W.Frag):R2:=fun x y H Q=>∃l b xs zs,x=.ref l∧y=.ref b∧aZ K H l xs∧aZ K H b zs∧xs≠[]∧zs≠[]∧xs.length+zs.length≤sizeLine∧∀p,H p=none→Q (.ref p) (upd H p (.tup (xs++zs)))
theorem BK:ż X (binaryOp .Add) (Dp X.K):=by
 intro pins s σ H x y v u Q I rx ry h
 obtain⟨l,b,xs,zs,rfl,rfl,hH,hB,nx,nz,hz,q⟩:=h
 cases rx
 cases ry
 obtain⟨its,r,pl,z⟩:=I.tuple hH
 obtain⟨its2,r2,Xn,z2⟩:=I.tuple hB
 obtain⟨⟨c1,d1,t1,Mp⟩,e,hc,n,hd⟩:=pl
 obtain⟨⟨c2,d2,t2,sl2⟩,e2,hc2,n2,hd2⟩:=Xn
 simp only at hc hd hc2 hd2
 subst hc hd hc2 hd2
 have hl:=r.length
 have hl2:=r2.length
 have ne1:its≠[]:=fun z=>by rw[z] at hl;exact nx (List.length_eq_zero_iff.mp hl)
 have ne2:its2≠[]:=fun z=>by rw[z] at hl2;exact nz (List.length_eq_zero_iff.mp hl2)
 have ea:its.toArray++its2.toArray=(its++its2).toArray:=by simp
 refine concat_meets ⟨_,e,rfl⟩ ⟨_,e2,rfl⟩ noFill_tuple_add seq_tuple_add PySem.F.slot_tuple_add PySem.F.entry_tuple_add (PySem.F.args_tuple_add_2 _ _) (tuple_addW2 l b its.toArray its2.toArray n n2 d1 d2 Mp sl2 (by simpa using ne1) (by simpa using ne2) (by simp only[List.size_toArray];omega)) ⟨e,e2,?_⟩
 rw[ea]
 exact⟨.ref _,_,I.laid (o:=.tup (xs++zs)) (t':=s.toks) (fun _ _ q=>Heap.get?_push_of_some _ q) (Nat.le_refl _) ⟨by rw[List.length_append];omega,(its++its2),r.append r2,⟨_,Heap.get?_push_size _ rfl,rfl,_,rfl⟩⟩,rfl,q _ I.fresh⟩
def ĭ:PV→PV→Option RV
 | .int i,.int j=>some (.sh (.int (i+j)))
 | .str i,.str j=>if i.length+j.length≤16777216 then some (.sh (.str (i++j))) else none
 | .lst ps,.lst qs=>if ps.length+qs.length≤16777216 then some (.ow (ps++qs)) else none
 | .tup (p::ps),.tup (q::qs)=>if(p::ps).length+(q::qs).length≤16777216 then some (.sh (.tup ((p::ps)++(q::qs)))) else none
 |_,_=>none
def Dq(K:PySem.W.Frag):R2:=fun x y H Q=>Li x y H Q∨(Dm K x y H Q∨Dp K x y H Q)
theorem ĸ:ż X (binaryOp .Add) (Dq X.K):=Gw.or (BJ.or BK)
theorem Ĺ:Xc K (Dq K.K) ĭ:=by
 intro c F H σ ρ p q pv v u Q rel r1 r2 e k
 unfold ĭ at e
 split at e
 ·cases e
  cases r1.int
  cases r2.int
  exact .inl (k _ F H rel (Same.refl _) (Same.refl _) (Rep.int (K:=K) (F:=F)))
 ·split at e
  ·rename_i hz
   cases e
   cases r1.str
   cases r2.str
   exact .inl ⟨by rw[Ļ];exact hz,k _ F H rel (Same.refl _) (Same.refl _) (Rep.str (K:=K) (F:=F))⟩
  ·cases e
 ·split at e
  ·rename_i hz
   cases e
   obtain⟨a,xs,rfl,h1,h2⟩:=r1.lst rel.sub
   obtain⟨b,ys,rfl,h3,h4⟩:=r2.lst rel.sub
   refine .inr (.inl ⟨a,b,xs,ys,rfl,rfl,h1,h3,by rw[←h2.length,←h4.length,Ļ];exact hz,fun d hd=>?_⟩)
   obtain⟨q1,q2⟩:=cM rel hd (ĕ.append h2 h4)
   exact k _ F _ q1 (Same.refl _) (Same.upd hd) q2
  ·cases e
 ·split at e
  ·rename_i hz
   cases e
   obtain⟨a,xs,rfl,h1,h2⟩:=r1.tup rel.sub
   obtain⟨b,ys,rfl,h3,h4⟩:=r2.tup rel.sub
   have l1:=h2.length
   have l2:=h4.length
   refine .inr (.inr ⟨a,b,xs,ys,rfl,rfl,h1,h3,(fun z=>by rw[z] at l1;cases l1),(fun z=>by rw[z] at l2;cases l2),by rw[←l1,←l2,Ļ];exact hz,fun l hl=>k _ _ _ (rel.alloc hl) (Same.upd (rel.sub.free hl)) (Same.upd hl) ?_⟩)
   show Rep K _ _ _
   unfold Rep
   exact⟨l,xs++ys,rfl,aZ.of ĥ,ĕ.same (Same.upd (rel.sub.free hl)) _ _ (ĕ.append h2 h4)⟩
  ·cases e
 ·cases e
def tW(g:Int→Int→Int):PV→PV→Option PV
 | .int i,.int j=>some (.int (g i j))
 |_,_=>none
def uU(C:Int→Int→Bool)(g:Int→Int→Int):PV→PV→Option PV
 | .int i,.int j=>if C i j=true then some (.int (g i j)) else none
 |_,_=>none
def JV(g:Int→Int→Bool):PV→PV→Option PV
 | .int i,.int j=>some (.bl (g i j))
 |_,_=>none
theorem Mq{g:Int→Int→Int}:jw K (ug fun i j=>.int (g i j)) (tW g):=by
 intro c F H σ ρ p q pv v u Q rel r1 r2 e k
 unfold tW at e
 split at e
 ·cases e
  cases r1.int
  cases r2.int
  exact k _ F H rel (Same.refl _) (Same.refl _) Rep.int
 ·cases e
theorem BL{g:Int→Int→Bool}:jw K (ug fun i j=>.bl (g i j)) (JV g):=by
 intro c F H σ ρ p q pv v u Q rel r1 r2 e k
 unfold JV at e
 split at e
 ·cases e
  cases r1.int
  cases r2.int
  exact k _ F H rel (Same.refl _) (Same.refl _) Rep.bl
 ·cases e
theorem Hg{C:Int→Int→Bool}{C':Int→Int→Prop}{g:Int→Int→Int}(hC:∀i j,C i j=true→C' i j):jw K (mI C' fun i j=>.int (g i j)) (uU C g):=by
 intro c F H σ ρ p q pv v u Q rel r1 r2 e k
 unfold uU at e
 split at e
 ·split at e
  ·rename_i hc
   cases e
   cases r1.int
   cases r2.int
   exact⟨hC _ _ hc,k _ F H rel (Same.refl _) (Same.refl _) Rep.int⟩
  ·cases e
 ·cases e
def ň:=tW fun i j=>i-j
theorem ĵ:jw K (ug fun i j=>.int (i-j)) ň:=Mq
def cu(_ j:Int):Bool:=decide (j≠0) && decide (bits j≤8000)
def œ:=uU cu fun i j=>i.fdiv j
theorem ő:jw K (mI uh fun i j=>.int (i.fdiv j)) œ:=Hg fun i j h=>by unfold cu at h;simpa[uh] using h
def rM(_ j:Int):Bool:=decide (j≠0)
def Ņ:=uU rM fun i j=>i.fmod j
theorem ń:jw K (mI (fun _ j=>j≠0) fun i j=>.int (i.fmod j)) Ņ:=Hg fun i j h=>by unfold rM at h;simpa using h
def aF(i j:Int):Bool:=decide (0≤j) && decide (j.natAbs≤1000000) && decide (i.natAbs<18446744073709551616)
def Ÿ:=uU aF fun i j=>i ^ j.toNat
theorem Ũ:jw K (mI FQ fun i j=>.int (i ^ j.toNat)) Ÿ:=Hg fun i j h=>by
 unfold aF at h
 simp only[Bool.and_eq_true,decide_eq_true_eq] at h
 exact⟨h.1.1,by omega,by have:=h.2;simpa using this⟩
def Dr(i j:Int):Bool:=decide (0≤j) && decide (j.natAbs≤1000000) && decide (i.natAbs<18446744073709551616)
def Mr:=uU Dr fun i j=>i*2 ^ j.toNat
def Ds(_ j:Int):Bool:=decide (0≤j)
def Ms:=uU Ds fun i j=>i / 2 ^ j.toNat
def nH:=JV fun i j=>decide (i<j)
def pW:=JV fun i j=>decide (i≤j)
def BP:=JV fun i j=>decide (j<i)
def wG:=JV fun i j=>decide (j≤i)
theorem jW:jw K (ug fun i j=>.bl (decide (i<j))) nH:=BL
theorem wH:jw K (ug fun i j=>.bl (decide (i≤j))) pW:=BL
theorem Dt:jw K (ug fun i j=>.bl (decide (j<i))) BP:=BL
theorem Mt:jw K (ug fun i j=>.bl (decide (j≤i))) wG:=BL
def Ľ(i j:Int):Bool:=decide (i.natAbs<18446744073709551616) || decide (j.natAbs<18446744073709551616) || (decide (bits i≤1048576) && decide (bits j≤1048576))
theorem wI{i j:Int}(h:Ľ i j=true):jO i j:=by
 unfold Ľ at h
 simp only[Bool.or_eq_true,Bool.and_eq_true,decide_eq_true_eq] at h
 rcases h with(h|h)|h
 ·exact .inl (.inl ⟨by omega,by omega⟩)
 ·exact .inl (.inr ⟨by omega,by omega⟩)
 ·exact .inr h
def Ĕ:PV→PV→Option PV
 | .int i,.int j=>if Ľ i j=true then some (.int (i*j)) else none
 | .str z,.int n=>if 0≤n∧n≤1000∧z.length≤1000 then some (.str (S (List.replicate n.toNat z.cps.toList).flatten)) else none
 |_,_=>none
theorem Ĭ:jw K vQ Ĕ:=by
 intro c F H σ ρ p q pv v u Q rel r1 r2 e k
 unfold Ĕ at e
 split at e
 ·split at e
  ·rename_i hc
   cases e
   cases r1.int
   cases r2.int
   exact⟨wI hc,k _ F H rel (Same.refl _) (Same.refl _) Rep.int⟩
  ·cases e
 ·split at e
  ·rename_i hc
   cases e
   cases r1.str
   cases r2.int
   exact⟨hc,k _ F H rel (Same.refl _) (Same.refl _) Rep.str⟩
  ·cases e
 ·cases e
def Mu(mr:M (List PV))(mk:M PV):M RV:=fun ρ=>(mr ρ).bind fun ps ρ1=>if ps.length≤16777216 then(mk ρ1).bind fun q ρ2=>match q with
 | .int k=>if -(2 ^ 60)≤k∧k<2 ^ 60∧ps.length*k.toNat≤16777216 then .ok (.ow (List.replicate k.toNat ps).flatten) ρ2 else .bad
 |_=>.bad else .bad
variable{E:L2.St→XK}{a b e:Expr}{es:List Expr}{pos:Pos}{ma mb:M PV}{mr:M (List PV)}
def aW:PV→Option PV
 | .int i=>some (.int (-i))
 |_=>none
theorem aQ:UnV K (mU fun i=>.int (-i)) aW:=by
 intro c F H σ ρ p pv v Q rel r1 e k
 unfold aW at e
 split at e
 ·cases e
  cases r1.int
  exact k _ F H rel (Same.refl _) (Same.refl _) Rep.int
 ·cases e
mutual
def eqB:PV→PV→Bool
 | .non,.non=>true
 | .bl a,.bl b=>a== b
 | .bl a,.int j=>(if a then 1 else 0)== j
 | .int i,.bl b=>i== (if b then 1 else 0)
 | .int i,.int j=>i== j
 | .str x,.str y=>x== y
 | .lst xs,.lst ys=>bL xs ys
 | .tup xs,.tup ys=>bL xs ys
 |_,_=>false
def bL:List PV→List PV→Bool
 | [],[]=>true
 |x::xs,y::ys=>eqB x y && bL xs ys
 |_,_=>false
end
mutual
def ű:PV→Bool
 | .non| .bl _| .int _=>true
 | .str x=>PyData.strOk x
 | .lst xs=>bB xs
 | .tup xs=>bB xs
 |_=>false
def bB:List PV→Bool
 | []=>true
 |x::xs=>ű x && bB xs
end
mutual
def dep:PV→Nat
 | .lst xs=>jB xs+1
 | .tup xs=>jB xs+1
 |_=>0
def jB:List PV→Nat
 | []=>0
 |x::xs=>max (dep x) (jB xs)
end
mutual
def toD:PV→PyData
 | .non=>.none
 | .bl b=>.bool b
 | .int i=>.int i
 | .str x=>.str x
 | .lst xs=>.list (bM xs)
 | .tup xs=>.tuple (bM xs)
 |_=>.none
def bM:List PV→List PyData
 | []=>[]
 |x::xs=>toD x::bM xs
end
mutual
theorem bZ:∀p:PV,ű p=true→(toD p).canLay0=true
 | .non,_=>rfl
 | .bl _,_=>rfl
 | .int _,_=>rfl
 | .str x,h=>by unfold ű at h;unfold toD PyData.canLay0;exact h
 | .lst xs,h=>by unfold ű at h;unfold toD PyData.canLay0;exact cT xs h
 | .tup xs,h=>by unfold ű at h;unfold toD PyData.canLay0;exact cT xs h
 | .ins _ _ _,h=>by simp[ű] at h
 | .xc _ _ _,h=>by simp[ű] at h
 | .ty _,h=>by simp[ű] at h
 | .cls _,h=>by simp[ű] at h
theorem cT:∀ps:List PV,bB ps=true→PyData.canLayAll0 (bM ps)=true
 | [],_=>rfl
 |p::ps,h=>by
  unfold bB at h
  rw[Bool.and_eq_true] at h
  unfold bM PyData.canLayAll0
  rw[bZ p h.1,cT ps h.2]
  rfl
end
mutual
theorem b_:∀p:PV,(toD p).depth=dep p
 | .non=>rfl
 | .bl _=>rfl
 | .int _=>rfl
 | .str x=>rfl
 | .lst xs=>by unfold toD PyData.depth dep;rw[iU xs]
 | .tup xs=>by unfold toD PyData.depth dep;rw[iU xs]
 | .ins _ _ _=>rfl
 | .xc _ _ _=>rfl
 | .ty _=>rfl
 | .cls _=>rfl
theorem iU:∀ps:List PV,PyData.depthAll (bM ps)=jB ps
 | []=>rfl
 |p::ps=>by unfold bM PyData.depthAll jB;rw[b_ p,iU ps]
end
mutual
theorem lM:∀p q:PV,ű p=true→ű q=true→PyData.eqv (toD p) (toD q)=eqB p q
 | .lst xs,.lst ys,h1,h2=>by
   unfold ű at h1 h2
   unfold toD eqB PyData.eqv
   exact lN xs ys h1 h2
 | .tup xs,.tup ys,h1,h2=>by
   unfold ű at h1 h2
   unfold toD eqB PyData.eqv
   exact lN xs ys h1 h2
 | .ins _ _ _,_,h,_=>by simp[ű] at h
 | .xc _ _ _,_,h,_=>by simp[ű] at h
 | .ty _,_,h,_=>by simp[ű] at h
 | .cls _,_,h,_=>by simp[ű] at h
 | .non,q,_,h=>by cases q<;>first|rfl|(simp[ű] at h)|(simp[toD,eqB,PyData.eqv])
 | .bl _,q,_,h=>by cases q<;>first|rfl|(simp[ű] at h)|(simp[toD,eqB,PyData.eqv])
 | .int _,q,_,h=>by cases q<;>first|rfl|(simp[ű] at h)|(simp[toD,eqB,PyData.eqv])
 | .str _,q,_,h=>by cases q<;>first|rfl|(simp[ű] at h;done)|(simp[toD,eqB,PyData.eqv])
 | .lst _,.non,_,_=>by simp[toD,eqB,PyData.eqv]
 | .lst _,.bl _,_,_=>by simp[toD,eqB,PyData.eqv]
 | .lst _,.int _,_,_=>by simp[toD,eqB,PyData.eqv]
 | .lst _,.str _,_,_=>by simp[toD,eqB,PyData.eqv]
 | .lst _,.tup _,_,_=>by simp[toD,eqB,PyData.eqv]
 | .lst _,.ins _ _ _,_,h=>by simp[ű] at h
 | .lst _,.xc _ _ _,_,h=>by simp[ű] at h
 | .lst _,.ty _,_,h=>by simp[ű] at h
 | .lst _,.cls _,_,h=>by simp[ű] at h
 | .tup _,.non,_,_=>by simp[toD,eqB,PyData.eqv]
 | .tup _,.bl _,_,_=>by simp[toD,eqB,PyData.eqv]
 | .tup _,.int _,_,_=>by simp[toD,eqB,PyData.eqv]
 | .tup _,.str _,_,_=>by simp[toD,eqB,PyData.eqv]
 | .tup _,.lst _,_,_=>by simp[toD,eqB,PyData.eqv]
 | .tup _,.ins _ _ _,_,h=>by simp[ű] at h
 | .tup _,.xc _ _ _,_,h=>by simp[ű] at h
 | .tup _,.ty _,_,h=>by simp[ű] at h
 | .tup _,.cls _,_,h=>by simp[ű] at h
theorem lN:∀ps qs:List PV,bB ps=true→bB qs=true→PyData.eqvAll (bM ps) (bM qs)=bL ps qs
 | [],[],_,_=>by simp[bM,bL,PyData.eqvAll]
 | [],_::_,_,_=>by simp[bM,bL,PyData.eqvAll]
 |_::_,[],_,_=>by simp[bM,bL,PyData.eqvAll]
 |p::ps,q::qs,h1,h2=>by
  unfold bB at h1 h2
  rw[Bool.and_eq_true] at h1 h2
  unfold bM bL PyData.eqvAll
  rw[lM p q h1.1 h2.1,lN ps qs h1.2 h2.2]
end
mutual
theorem wJ{F:Hp}:∀(p:PV) (v:V),ű p=true→Rep K F p v→Rp K.K F (toD p) v
 | .non,_,_,r=>by unfold Rep at r;unfold toD Rp;exact r
 | .bl _,_,_,r=>by unfold Rep at r;unfold toD Rp;exact r
 | .int _,_,_,r=>by unfold Rep at r;unfold toD Rp;exact r
 | .str _,_,_,r=>by unfold Rep at r;unfold toD Rp;exact r
 | .lst xs,_,h,r=>by
   unfold ű at h
   unfold Rep at r
   unfold toD Rp
   obtain⟨a,vs,h1,h2,h3⟩:=r
   exact⟨a,vs,h1,h2,cY xs vs h h3⟩
 | .tup xs,_,h,r=>by
   unfold ű at h
   unfold Rep at r
   unfold toD Rp
   obtain⟨a,vs,h1,h2,h3⟩:=r
   exact⟨a,vs,h1,h2,cY xs vs h h3⟩
 | .ins _ _ _,_,h,_=>by simp[ű] at h
 | .xc _ _ _,_,h,_=>by simp[ű] at h
 | .ty _,_,h,_=>by simp[ű] at h
 | .cls _,_,h,_=>by simp[ű] at h
theorem cY{F:Hp}:∀(ps:List PV) (vs:List V),bB ps=true→ĕ K F ps vs→fO K.K F (bM ps) vs
 | [],_,_,r=>by unfold ĕ at r;unfold bM fO;exact r
 |p::ps,_,h,r=>by
  unfold bB at h
  rw[Bool.and_eq_true] at h
  unfold ĕ at r
  unfold bM fO
  obtain⟨x,t,h1,h2,h3⟩:=r
  exact⟨x,t,h1,wJ p x h.1 h2,cY ps t h.2 h3⟩
end
theorem cZ{c:Ctx}{F H:Hp}{σ:L2.St}{ρ:ł}{p:PV}{v:V}(s:Same F H)(h:ű p=true)(r:rR K c σ ρ F H p v):Rp K.K H (toD p) v:=by
 rcases r with r|r
 ·exact Rp.same s _ _ (wJ p v h r)
 ·cases p with
  |lst ps=>
   obtain⟨a,vs,rfl,h3,h4⟩:=r
   unfold ű at h
   unfold toD Rp
   exact⟨a,vs,rfl,ų.of h3,fO.same s _ _ (cY ps vs h h4)⟩
  |ins C ns ps=>simp[ű] at h
  |_=>exact r.elim
def lO(p q:PV):Bool:=ű p && ű q && decide (min (dep p) (dep q)≤60)
def Ų(p q:PV):Option PV:=if lO p q=true then some (.bl (eqB p q)) else none
def ŵ(p q:PV):Option PV:=if lO p q=true then some (.bl (!eqB p q)) else none
theorem aR:jw K (Bk K.K false) Ų:=by
 intro c F H σ ρ p q pv v u Q rel r1 r2 e k
 unfold Ų at e
 split at e
 ·rename_i hz
  cases e
  unfold lO at hz
  simp only[Bool.and_eq_true,decide_eq_true_eq] at hz
  refine⟨toD p,toD q,cZ rel.sub hz.1.1 r1,cZ rel.sub hz.1.2 r2,bZ p hz.1.1,bZ q hz.1.2,by rw[b_,b_];exact hz.2,?_⟩
  rw[lM p q hz.1.1 hz.1.2]
  exact k _ F H rel (Same.refl _) (Same.refl _) Rep.bl
 ·cases e
theorem bN:jw K (Bk K.K true) ŵ:=by
 intro c F H σ ρ p q pv v u Q rel r1 r2 e k
 unfold ŵ at e
 split at e
 ·rename_i hz
  cases e
  unfold lO at hz
  simp only[Bool.and_eq_true,decide_eq_true_eq] at hz
  refine⟨toD p,toD q,cZ rel.sub hz.1.1 r1,cZ rel.sub hz.1.2 r2,bZ p hz.1.1,bZ q hz.1.2,by rw[b_,b_];exact hz.2,?_⟩
  rw[lM p q hz.1.1 hz.1.2]
  exact k _ F H rel (Same.refl _) (Same.refl _) Rep.bl
 ·cases e
def Hh:PV→Bool
 | .non=>true
 |_=>false
def BR(p q:PV):Option PV:=match q with
 | .non=>some (.bl (Hh p))
 |_=>none
def BW(p q:PV):Option PV:=match q with
 | .non=>some (.bl (!Hh p))
 |_=>none
theorem BX{c:Ctx}{F H:Hp}{σ:L2.St}{ρ:ł}{p:PV}{v:V}(r:rR K c σ ρ F H p v):decide (v=.non)=Hh p:=by
 rcases r with r|r
 ·cases p<;>unfold Rep at r<;>first
   |(subst r;rfl)
   |(obtain⟨a,xs,rfl,_⟩:=r;rfl)
   |(obtain⟨a,xs,ys,rfl,_⟩:=r;rfl)
 ·cases p with
  |lst ps=>obtain⟨a,vs,rfl,_⟩:=r;rfl
  |ins C ns ps=>obtain⟨a,dx,fs,rfl,_⟩:=r;rfl
  |_=>exact r.elim
theorem Mv:jw K (fun x y H Q=>y=.non∧Q (.bl (decide (x=.non))) H) BR:=by
 intro c F H σ ρ p q pv v u Q rel r1 r2 e k
 unfold BR at e
 split at e
 ·cases e
  refine⟨r2.non,?_⟩
  rw[BX r1]
  exact k _ F H rel (Same.refl _) (Same.refl _) Rep.bl
 ·cases e
def đ:PV→PV→Option PV
 | .lst ps,.int i=>dj ps i
 | .tup ps,.int i=>dj ps i
 | .str z,.int i=>if z.length≤16777216 then(dj z.cps.toList i).map fun c=>.str ⟨#[c]⟩ else none
 |_,_=>none
theorem rN{F:Hp}{ps:List PV}{vs:List V}{i:Int}{p:PV}(r:ĕ K F ps vs)(h:dj ps i=some p):∃v,dj vs i=some v∧Rep K F p v:=by
 unfold dj at h ⊢
 rw[r.length] at h
 cases e:o_ vs.length i with
 |none=>rw[e] at h;cases h
 |some j=>
  rw[e] at h
  obtain⟨v,h1,h2⟩:=bf r.pr h
  exact⟨v,h1,h2⟩
theorem Đ:jw K (mIx K.K) đ:=by
 intro c F H σ ρ p q pv v u Q rel r1 r2 e k
 unfold đ at e
 split at e
 ·obtain⟨a,vs,rfl,h1,h2⟩:=r1.lst rel.sub
  cases r2.int
  obtain⟨x,h3,h4⟩:=rN h2 e
  exact⟨vs,x,.inl h1,h3,k _ F H rel (Same.refl _) (Same.refl _) h4⟩
 ·obtain⟨a,vs,rfl,h1,h2⟩:=r1.tup rel.sub
  cases r2.int
  obtain⟨x,h3,h4⟩:=rN h2 e
  exact⟨vs,x,.inr h1,h3,k _ F H rel (Same.refl _) (Same.refl _) h4⟩
 ·split at e
  ·rename_i z i hz
   cases r1.str
   cases r2.int
   cases ea:dj z.cps.toList i with
   |none=>rw[ea] at e;cases e
   |some cc=>
    rw[ea] at e
    cases e
    exact⟨cc,by rw[Ļ];exact hz,ea,k _ F H rel (Same.refl _) (Same.refl _) Rep.str⟩
  ·cases e
 ·cases e
def Xo:M (Option Int):=fun ρ=>.ok none ρ
def mP(m:M PV):M (Option Int):=fun ρ=>(m ρ).bind fun p ρ1=>match p with
 | .int i=>.ok (some i) ρ1
 |_=>.bad
def Hi{α:Type}(xs:List α)(lo hi:Option Int):List α:= (xs.drop (HT.Wz xs.length 0 lo)).take (HT.Wz xs.length xs.length hi-HT.Wz xs.length 0 lo)
def Xp(p:PV)(lo hi:Option Int):Option RV:=match p with
 | .lst ps=>some (.ow (Hi ps lo hi))
 | .str z=>if z.length≤16777216 then some (.sh (.str (S (Hi z.cps.toList lo hi)))) else none
 |_=>none
def mSl(ma:M PV)(ml mh:M (Option Int)):M RV:=fun ρ=>(ma ρ).bind fun p ρ1=>(ml ρ1).bind fun lo ρ2=>(mh ρ2).bind fun hi ρ3=>Res.gW (Xp p lo hi) ρ3
theorem uy{c:Ctx}{F H:Hp}{σ:L2.St}{ρ:ł}{p:PV}{vs:List V}(h:Lz K c σ ρ F H [p] vs):∃v,vs=[v]∧rR K c σ ρ F H p v:=by
 cases h with
 |cons r t=>cases t;exact⟨_,rfl,r⟩
theorem Du{c:Ctx}{F H:Hp}{σ:L2.St}{ρ:ł}{p q:PV}{vs:List V}(h:Lz K c σ ρ F H [p,q] vs):∃v u,vs=[v,u]∧rR K c σ ρ F H p v∧rR K c σ ρ F H q u:=by
 cases h with
 |cons r t=>
  cases t with
  |cons r' t=>cases t;exact⟨_,_,rfl,r,r'⟩
def aB:List PV→Option PV
 | [.lst ps]=>some (.int ps.length)
 | [.tup ps]=>some (.int ps.length)
 | [.str z]=>if z.length≤16777216 then some (.int z.length) else none
 |_=>none
theorem aC:bJ K (Gz K.K) aB:=by
 intro c F H σ ρ ps pv vs Q rel r e k
 unfold aB at e
 split at e
 ·cases e
  obtain⟨v,rfl,r1⟩:=uy r
  obtain⟨a,xs,rfl,h1,h2⟩:=r1.lst rel.sub
  refine⟨xs,.inl h1,?_⟩
  rw[←h2.length]
  exact k _ F H rel (Same.refl _) (Same.refl _) Rep.int
 ·cases e
  obtain⟨v,rfl,r1⟩:=uy r
  obtain⟨a,xs,rfl,h1,h2⟩:=r1.tup rel.sub
  refine⟨xs,.inr h1,?_⟩
  rw[←h2.length]
  exact k _ F H rel (Same.refl _) (Same.refl _) Rep.int
 ·split at e
  ·rename_i hz
   cases e
   obtain⟨v,rfl,r1⟩:=uy r
   cases r1.str
   exact⟨by rw[Ļ];exact hz,k _ F H rel (Same.refl _) (Same.refl _) Rep.int⟩
  ·cases e
 ·cases e
def BZ:List PV→Option PV
 | [.int i]=>some (.int (if i<0 then -i else i))
 |_=>none
theorem Hj:bJ K mAbs BZ:=by
 intro c F H σ ρ ps pv vs Q rel r e k
 unfold BZ at e
 split at e
 ·cases e
  obtain⟨v,rfl,r1⟩:=uy r
  cases r1.int
  exact k _ F H rel (Same.refl _) (Same.refl _) Rep.int
 ·cases e
def iV:List PV→Option PV
 | [.int i,.int j]=>some (.int (if j<i then j else i))
 |_=>none
def gB:List PV→Option PV
 | [.int i,.int j]=>some (.int (if j>i then j else i))
 |_=>none
theorem g_:bJ K vJ iV:=by
 intro c F H σ ρ ps pv vs Q rel r e k
 unfold iV at e
 split at e
 ·cases e
  obtain⟨v,u,rfl,r1,r2⟩:=Du r
  cases r1.int
  cases r2.int
  exact k _ F H rel (Same.refl _) (Same.refl _) Rep.int
 ·cases e
theorem h_:bJ K vK gB:=by
 intro c F H σ ρ ps pv vs Q rel r e k
 unfold gB at e
 split at e
 ·cases e
  obtain⟨v,u,rfl,r1,r2⟩:=Du r
  cases r1.int
  cases r2.int
  exact k _ F H rel (Same.refl _) (Same.refl _) Rep.int
 ·cases e
def nJ:List PV→Option RV
 | [.lst ps]=>some (.ow ps)
 | [.tup ps]=>some (.ow ps)
 |_=>none
def rP(K:PySem.W.Frag):List V→Hp→VK→Prop:=fun xs H Q=>∃p ys,xs=[.ref p]∧(ų K H p ys∨aZ K H p ys)∧∀l,H l=none→Q (.ref l) (upd H l (.lst ys))
theorem B_:Ő X (.type "list") (rP X.K):=lG
theorem Ca:Dk K (rP K.K) nJ:=by
 intro c F H σ ρ ps pv vs Q rel r e k
 unfold nJ at e
 split at e
 ·cases e
  obtain⟨v,rfl,r1⟩:=uy r
  obtain⟨a,xs,rfl,h1,h2⟩:=r1.lst rel.sub
  refine⟨a,xs,rfl,.inl h1,fun l hl=>?_⟩
  obtain⟨q1,q2⟩:=cM rel hl h2
  exact k _ F _ q1 (Same.refl _) (Same.upd hl) q2
 ·cases e
  obtain⟨v,rfl,r1⟩:=uy r
  obtain⟨a,xs,rfl,h1,h2⟩:=r1.tup rel.sub
  refine⟨a,xs,rfl,.inr h1,fun l hl=>?_⟩
  obtain⟨q1,q2⟩:=cM rel hl h2
  exact k _ F _ q1 (Same.refl _) (Same.upd hl) q2
 ·cases e
def jC:PV→String→Option Bool
 | .int _,"int" =>some true
 | .int _,"bool" =>some false
 | .int _,"str" =>some false
 | .int _,"tuple" =>some false
 | .int _,"list" =>some false
 | .bl _,"int" =>some true
 | .bl _,"bool" =>some true
 | .lst _,"list" =>some true
 | .lst _,"tuple" =>some false
 | .lst _,"int" =>some false
 | .lst _,"str" =>some false
 | .tup _,"tuple" =>some true
 | .tup _,"list" =>some false
 | .tup _,"int" =>some false
 | .tup _,"str" =>some false
 | .str _,"str" =>some true
 | .str _,"int" =>some false
 | .str _,"list" =>some false
 | .str _,"tuple" =>some false
 | .non,"int" =>some false
 | .non,"str" =>some false
 | .non,"tuple" =>some false
 | .non,"list" =>some false
 |_,_=>none
end
theorem nM{K:KK}{F:Hp}:∀ns:List Int,ĕ K F (ns.map .int) (ns.map V.int)
 | []=>ĕ.nil
 |n::ns=>ĕ.cons Rep.int (nM ns)
def Mw(K:PySem.W.Frag):Sp:=fun vs H Q _=>∃(sa:Addr) (ns:List Int),vs=[.ref sa]∧ų K H sa (ns.map V.int)∧ns.length≤63∧∀v H',v=.bl true→Q v H'
end P
namespace P
open PySem PySem.Spec PyProof.Rows L2 M2 M3 M4
section
variable{X:Cx}{cm:String→Addr}{K:KK}
def Tr(K:PySem.W.Frag)(H:Hp)(x:V)(t:Value):Prop:=match x with
 | .non=>t=.type "NoneType"
 | .bl _=>t=.type "bool"
 | .int _=>t=.type "int"
 | .str _=>t=.type "str"
 | .ref a=>(t=.type "list" ∧∃xs,ų K H a xs)∨(t=.type "tuple" ∧∃xs,aZ K H a xs)∨fM K H (.ref a) t
 |_=>False
def rQ(K:PySem.W.Frag):List V→Hp→VK→Prop:=fun xs H Q=>match xs with
 | [x,.ty n]=>∃t b,Tr K H x t∧PySem.W.kitOne K t (.type n)=some b∧Q (.bl b) H
 | [x,.ref C]=>∃t b,Tr K H x t∧PySem.W.kitOne K t (.ref C)=some b∧Q (.bl b) H
 |_=>False
theorem rT{pins:List (Addr×Obj)}{σ:L2.St}{H:Hp}{s:Shared}{A:Around}{E:Value→Shared→Prop}{Q:Value→Shared→Prop}{c:Value}{b:Bool}{x:V}{u t:Value}(I:Inv X pins σ H s)(rx:RelV x u)(ty:Tr X.K H x t)(e:PySem.W.kitOne X.K t c=some b)(h:∀tk,Q (.bool b) {s with toks:=tk}) :
 wpAny (model X.prog X.w) A (call (.builtin "isinstance") [u,c]) Q E s:=by
 cases x with
 |non=>cases(show t=_ from ty);exact bD I rx .non e h
 |bl y=>cases(show t=_ from ty);exact bD I rx (.bl y) e h
 |int y=>cases(show t=_ from ty);exact bD I rx (.int y) e h
 |str y=>cases(show t=_ from ty);exact bD I rx (.str y) e h
 |ref a=>
  cases(show u=Value.ref a from rx)
  rcases ty with⟨rfl,xs,hS⟩|⟨rfl,xs,hS⟩|ty
  ·obtain⟨its,r,⟨o,n,h1,h2,_⟩,_⟩:=I.list hS
   exact PySem.W.kia_one PySem.W.kitx_list I.jz ⟨o,h1,h2⟩ e (fun z=>nomatch z) h
  ·obtain⟨its,r,⟨o,h1,h2,_⟩,_⟩:=I.tuple hS
   exact PySem.W.kia_one PySem.W.kitx_tuple I.jz ⟨o,h1,h2⟩ e (fun z=>nomatch z) h
  ·exact bD I rx ty e h
 |_=>exact ty.elim
theorem Hl:Ő X (.builtin "isinstance") (rQ X.K):=by
 intro pins s σ H xs us Q I r h
 unfold rQ at h
 split at h
 ·obtain⟨t,b,h1,h2,h3⟩:=h
  obtain⟨u,w',rfl,r1,r2⟩:=vals2 r
  cases r2
  exact rT I r1 h1 h2 fun tk=>⟨.bl b,H,I.tok _,rfl,h3⟩
 ·obtain⟨t,b,h1,h2,h3⟩:=h
  obtain⟨u,w',rfl,r1,r2⟩:=vals2 r
  cases r2
  exact rT I r1 h1 h2 fun tk=>⟨.bl b,H,I.tok _,rfl,h3⟩
 ·exact h.elim
def tyN:PV→String
 | .non=> "NoneType"
 | .bl _=> "bool"
 | .int _=> "int"
 | .str _=> "str"
 | .lst _=> "list"
 | .tup _=> "tuple"
 |_=> ""
theorem wK{F:PySem.W.Frag}{p:PV}{n:String}{b:Bool}(h:jC p n=some b):PySem.W.kitOne F (.type (tyN p)) (.type n)=some b:=by
 unfold jC at h
 split at h<;>first
  |(cases h;first|rfl|decide +kernel|kernel_rfl)
  |cases h
theorem Cd{c:Ctx}{F H:Hp}{σ:L2.St}{ρ:ł}{p:PV}{v:V}(s:Same F H)(r:rR K c σ ρ F H p v)(h:∃n b,jC p n=some b):Tr K.K H v (.type (tyN p)):=by
 obtain⟨n,b,h⟩:=h
 cases p with
 |non=>cases r.non;rfl
 |bl _=>cases r.bl;rfl
 |int _=>cases r.int;rfl
 |str _=>cases r.str;rfl
 |lst ps=>
  obtain⟨a,vs,rfl,h1,h2⟩:=r.lst s
  exact .inl ⟨rfl,vs,h1⟩
 |tup ps=>
  obtain⟨a,vs,rfl,h1,h2⟩:=r.tup s
  exact .inr (.inl ⟨rfl,vs,h1⟩)
 |ins _ _ _=>simp[jC] at h
 |xc _ _ _=>simp[jC] at h
 |ty _=>simp[jC] at h
 |cls _=>simp[jC] at h
def wL:List PV→Option PV
 | [p,.ty n]=>(jC p n).map .bl
 |_=>none
theorem wM:bJ K (rQ K.K) wL:=by
 intro c F H σ ρ ps pv vs Q rel r e k
 unfold wL at e
 split at e
 ·rename_i p n
  obtain⟨v,u,rfl,r1,r2⟩:=Du r
  cases r2.ty
  cases eb:jC p n with
  |none=>rw[eb] at e;cases e
  |some b=>
   rw[eb] at e
   cases e
   exact⟨_,b,Cd rel.sub r1 ⟨n,b,eb⟩,wK eb,k _ F H rel (Same.refl _) (Same.refl _) Rep.bl⟩
 ·cases e
def wN:List PV→Option PV
 | [.lst ps]=>some (.tup ps)
 | [.tup ps]=>some (.tup ps)
 |_=>none
def boolsOf:List PV→Option (List Bool)
 | []=>some []
 | .bl b::ps=>(boolsOf ps).map (b:: ·)
 |_::_=>none
theorem jX{F:Hp}:∀{ps:List PV} {vs:List V} {bs:List Bool},ĕ K F ps vs→boolsOf ps=some bs→vs=bs.map V.bl
 | [],vs,bs,r,h=>by
   cases h
   have r':=r.pr
   cases r'
   rfl
 |p::ps,vs,bs,r,h=>by
  cases p with
  |bl b=>
   unfold boolsOf at h
   cases eb:boolsOf ps with
   |none=>rw[eb] at h;cases h
   |some cs=>
    rw[eb] at h
    cases h
    have r':=r.pr
    cases r' with
    |cons r1 t=>
     rw[pN r1,jX (ĕ.of t) eb]
     rfl
  |_=>simp[boolsOf] at h
def pX:List PV→Option PV
 | [.lst ps]=>(boolsOf ps).map fun bs=>.bl (bs.all id)
 |_=>none
theorem lQ:bJ K (GP K.K) pX:=by
 intro c F H σ ρ ps pv vs Q rel r e k
 unfold pX at e
 split at e
 ·rename_i ps
  obtain⟨v,rfl,r1⟩:=uy r
  obtain⟨a,xs,rfl,h1,h2⟩:=r1.lst rel.sub
  cases eb:boolsOf ps with
  |none=>rw[eb] at e;cases e
  |some bs=>
   rw[eb] at e
   cases e
   refine⟨bs,by rw[←jX h2 eb];exact h1,k _ F H rel (Same.refl _) (Same.refl _) Rep.bl⟩
 ·cases e
def rW(_ j:Int):Bool:=decide (0<j) && decide (j.natAbs<1073741824)
def fj:List PV→Option PV
 | [.int i,.int j]=>if rW i j=true then some (.tup [.int (i / j),.int (i % j)]) else none
 |_=>none
def rY:List V→Hp→VK→Prop:=fun xs H Q=>∃i j,xs=[.int i,.int j]∧KD i j∧∀p,H p=none→Q (.ref p) (upd H p (.tup [.int (i / j),.int (i % j)]))
theorem uz:Ő X (.builtin "divmod") rY:=nq
theorem uD:bJ K rY fj:=by
 intro c F H σ ρ ps pv vs Q rel r e k
 unfold fj at e
 split at e
 ·split at e
  ·rename_i i j hd
   cases e
   obtain⟨v,u,rfl,r1,r2⟩:=Du r
   cases r1.int
   cases r2.int
   unfold rW at hd
   simp only[Bool.and_eq_true,decide_eq_true_eq] at hd
   refine⟨i,j,rfl,⟨hd.1,by omega⟩,fun l hl=>k _ _ _ (rel.alloc hl) (Same.upd (rel.sub.free hl)) (Same.upd hl) ?_⟩
   unfold Rep
   exact⟨l,_,rfl,aZ.of ĥ,ĕ.cons Rep.int (ĕ.cons Rep.int ĕ.nil)⟩
  ·cases e
 ·cases e
end
end P
namespace P
open PySem PySem.Spec PyProof.Rows L2 M2 M3 M4
section
variable{α β:Type}{ρ:ł}{i j n k:Nat}{p q:PV}{ps:List PV}{m ma mb mc:M PV}{mo:M RV}{a b:M Fl}{ta tb:M Bool}{mr:M (List PV)}{f:PV→PV→Option PV}{fo:PV→PV→Option RV}{fl:List PV→Option PV}{flo:List PV→Option RV}{g:Tg}{gs:uV}
@[simp] theorem Zbs:cN ρ=.ok .nx ρ:= rfl
@[simp] theorem Zbt:mBk ρ=.ok .bk ρ:= rfl
@[simp] theorem Zbu:mCt ρ=.ok .ct ρ:= rfl
@[simp] theorem Xq:(Xg:M α) ρ=.bad:=rfl
@[simp] theorem Xr:Ę a b ρ=(a ρ).bind fun f ρ1=>match f with| .nx=>b ρ1|f=>.ok f ρ1:=rfl
@[simp] theorem Xu:Į i mo ρ=(mo ρ).bind fun r ρ1=>.ok .nx (ρ1.set i r.slot):=rfl
@[simp] theorem Xv:ľ mo ρ=(mo ρ).bind fun r ρ1=>.ok (.rt r) ρ1:=rfl
@[simp] theorem Tt:Ma ρ=.ok (.rt (.sh .non)) ρ:= rfl
@[simp] theorem Tv:Mf m ρ=(m ρ).bind fun _ ρ1=>.ok .nx ρ1:=rfl
@[simp] theorem ZbL:mC p ρ=.ok p ρ:= rfl
@[simp] theorem Zbv:ř m ρ=(m ρ).bind fun p ρ1=>.ok (.sh p) ρ1:=rfl
@[simp] theorem Xw:ě mo ρ=(mo ρ).bind fun r ρ1=>.ok r.val ρ1:=rfl
@[simp] theorem Xx:(RV.sh p).val=p:=rfl
@[simp] theorem Xy:(RV.ow ps).val=.lst ps:=rfl
@[simp] theorem Xz:(RV.sh p).slot=.sh p:=rfl
@[simp] theorem XC:(RV.ow ps).slot=.ow ps:=rfl
@[simp] theorem XD:Ą f ma mb ρ=(ma ρ).bind fun p ρ1=>(mb ρ1).bind fun q ρ2=>Res.gW (f p q) ρ2:=rfl
@[simp] theorem Tw:Ĳ fo ma mb ρ=(ma ρ).bind fun p ρ1=>(mb ρ1).bind fun q ρ2=>Res.gW (fo p q) ρ2:=rfl
@[simp] theorem Zbw{u:PV→Option PV}:ur u ma ρ=(ma ρ).bind fun p ρ1=>Res.gW (u p) ρ1:=rfl
@[simp] theorem XF:cC m ρ=(m ρ).bind fun p ρ1=>Res.gW (GZ p) ρ1:=rfl
@[simp] theorem Zbx:bh m ρ=(m ρ).bind fun p ρ1=>match p with| .bl b=>.ok b ρ1|_=>.bad:=rfl
@[simp] theorem Tz:bH ta ρ=(ta ρ).bind fun b ρ1=>.ok (!b) ρ1:=rfl
@[simp] theorem TF:rG ta tb ρ=(ta ρ).bind fun b ρ1=>if b=true then tb ρ1 else .ok false ρ1:=rfl
@[simp] theorem XH:gM ta tb ρ=(ta ρ).bind fun b ρ1=>if b=true then .ok true ρ1 else tb ρ1:=rfl
@[simp] theorem XJ:wj ma mb ρ=(ma ρ).bind fun p ρ1=>match p with| .bl b=>if b=true then mb ρ1 else .ok (.bl false) ρ1|_=>.bad:=by
  unfold wj
  congr
  funext p ρ1
  cases p with
  |bl b=>cases b<;>rfl
  |_=>rfl
@[simp] theorem Zby:mOr ma mb ρ=(ma ρ).bind fun p ρ1=>match p with| .bl b=>if b=true then .ok (.bl true) ρ1 else mb ρ1|_=>.bad:=by
  unfold mOr
  congr
  funext p ρ1
  cases p with
  |bl b=>cases b<;>rfl
  |_=>rfl
@[simp] theorem XM:Xe ma ρ=(ma ρ).bind fun p ρ1=>match p with| .bl b=>.ok (.bl (!b)) ρ1|_=>.bad:=rfl
@[simp] theorem Zbz{x y:M α}:cD ta x y ρ=(ta ρ).bind fun b ρ1=>if b=true then x ρ1 else y ρ1:=rfl
@[simp] theorem XQ{f g:PV→PV→Option PV}:Xd f g ma mb mc ρ=(ma ρ).bind fun p ρ1=>(mb ρ1).bind fun q ρ2=>(Res.gW (f p q) ρ2).bind fun z ρ3=>match z with
  | .bl true=>(mc ρ3).bind fun w ρ4=>Res.gW (g q w) ρ4
  | .bl false=>.ok (.bl false) ρ3
  |_=>.bad:=rfl
@[simp] theorem XR:Ė ρ=.ok [] ρ:= rfl
@[simp] theorem TJ:ą ma mr ρ=(ma ρ).bind fun p ρ1=>(mr ρ1).bind fun ps ρ2=>.ok (p::ps) ρ2:=rfl
@[simp] theorem XS:Ŝ mr ρ=(mr ρ).bind fun ps ρ1=>if ps.length≤16777216 then .ok (.tup ps) ρ1 else .bad:=rfl
@[simp] theorem X_:bI mr ρ=(mr ρ).bind fun ps ρ1=>if ps.length≤16777216 then .ok (.ow ps) ρ1 else .bad:=rfl
@[simp] theorem ZbA:ak fl mr ρ=(mr ρ).bind fun ps ρ1=>Res.gW (fl ps) ρ1:=rfl
@[simp] theorem Yb:G_ flo mr ρ=(mr ρ).bind fun ps ρ1=>Res.gW (flo ps) ρ1:=rfl
@[simp] theorem TQ{mf:MF}{ms:M (List Slot)}:Ğ mf ms ρ=(ms ρ).bind fun ps ρ1=>match mf ps with| .ret r=>.ok r ρ1| .exc x=>.exc x ρ1| .bad=>.bad:=rfl
@[simp] theorem ZbB:ĺ i ρ=(match ρ[i]? with|some (.sh p)=>.ok p ρ|some (.ow ps)=>.ok (.lst ps) (ρ.set i (.sh (.lst ps)))|_=>.bad):=rfl
@[simp] theorem ZbC:Ā i ρ=(match ρ[i]? with|some (.sh p)=>.ok p ρ|some (.ow ps)=>.ok (.lst ps) ρ|some (.bw ps)=>.ok (.lst ps) ρ|some (.rc C ns ps)=>.ok (.ins C ns ps) ρ|_=>.bad):=rfl
@[simp] theorem ZbD:dH i ρ=(match ρ[i]? with|some (.sh p)=>.ok (.sh p) ρ|some (.ow ps)=>.ok (.ow ps) (ρ.set i .no)|_=>.bad):=rfl
@[simp] theorem Yc:wu g m ρ=(m ρ).bind fun p ρ1=>match g p ρ1 with|some ρ2=>.ok .nx ρ2|none=>.bad:=rfl
@[simp] theorem Yd:Bt i j mr ρ=(mr ρ).bind fun ps ρ1=>match ps with| [p,q]=>.ok .nx ((ρ1.set i (.sh p)).set j (.sh q))|_=>.bad:=rfl
@[simp] theorem wO:gN i p ρ=some (ρ.set i (.sh p)):=rfl
@[simp] theorem Mx:ſ [] ρ=some ρ:= rfl
@[simp] theorem JW:ı g gs (p::ps) ρ=(g p ρ).bind fun ρ1=>gs ps ρ1:=rfl
@[simp] theorem ZbE:gT n gs (.tup ps) ρ=if ps.length=n then gs ps ρ else none:=rfl
@[simp] theorem Ye:pQ i m ρ=(match ρ[i]? with
  |some (.ow _)=>(m ρ).bind fun p ρ1=>match ρ1[i]? with
   |some (.ow ps)=>if ps.length<16777216 then .ok .nx (ρ1.set i (.ow (ps ++ [p]))) else .bad
   |_=>.bad
  |_=>.bad):=rfl
@[simp] theorem Mz{mi:M PV}:pO i mi m ρ=(m ρ).bind fun p ρ1=>match ρ1[i]? with
  |some (.ow _)=>(mi ρ1).bind fun q ρ2=>match ρ2[i]?,q with
   |some (.ow ps),.int k=>match o_ ps.length k with
    |some j=>.ok .nx (ρ2.set i (.ow (ps.set j p)))
    |none=>.bad
   |_,_=>.bad
  |_=>.bad:=rfl
@[simp] theorem Yg:Xo ρ=.ok none ρ:= rfl
@[simp] theorem ZbM:mP m ρ=(m ρ).bind fun p ρ1=>match p with| .int i=>.ok (some i) ρ1|_=>.bad:=rfl
@[simp] theorem ZbF{ml mh:M (Option Int)}:mSl ma ml mh ρ=(ma ρ).bind fun p ρ1=>(ml ρ1).bind fun lo ρ2=>(mh ρ2).bind fun hi ρ3=>Res.gW (Xp p lo hi) ρ3:=rfl
@[simp] theorem Yh{lo hi:Option Int}:Xp (.lst ps) lo hi=some (.ow (Hi ps lo hi)):=rfl
@[simp] theorem MJ:aA m ρ=(m ρ).bind fun p ρ1=>match p with
  | .lst ps=>.ok ps ρ1
  | .tup ps=>.ok ps ρ1
  | .str z=>.ok (z.cps.toList.map fun c=>.str ⟨#[c]⟩) ρ1
  |_=>.bad:=rfl
@[simp] theorem MK{h:List PV→Option (List PV)}:bA h mr ρ=(mr ρ).bind fun ps ρ1=>Res.gW (h ps) ρ1:=rfl
@[simp] theorem Ho{mi:M (List PV)}:cQ mi g b ρ=(mi ρ).bind fun items ρ1=>forL g b items ρ1:=rfl
@[simp] theorem TV{js:List Nat}{nl:Nat}{mi:M (List PV)}{mt:M Bool}{me:M PV}:ţ js nl mi g mt me ρ=(mi ρ).bind fun items ρ1=>match Ń g mt me items (nF js nl ρ1) [] with
  |some ps=>.ok (.ow ps) ρ1
  |none=>.bad:=rfl
@[simp] theorem Yi:ŋ ρ=.ok true ρ:= rfl
@[simp] theorem TX{mk:M PV}:Mu mr mk ρ=(mr ρ).bind fun ps ρ1=>if ps.length≤16777216 then(mk ρ1).bind fun q ρ2=>match q with
  | .int k=>if -(2 ^ 60)≤k∧k<2 ^ 60∧ps.length*k.toNat≤16777216 then .ok (.ow (List.replicate k.toNat ps).flatten) ρ2 else .bad
  |_=>.bad else .bad:=rfl
@[simp] theorem Yj{mbd:M Fl}{as:List Slot}:š n k mbd as=if as.length=n then FR.of (mbd (startP k as)) else .bad:=rfl
@[simp] theorem Yk{r:RV}:FR.of (.ok (.rt r) ρ)=.ret r:=rfl
@[simp] theorem Yl:FR.of (.ok .nx ρ)=.ret (.sh .non):=rfl
@[simp] theorem Ym{x:PX}:FR.of (.exc x ρ)=.exc x:=rfl
@[simp] theorem Yn:FR.of .bad=.bad:=rfl
@[simp] theorem MN{as:List Slot}:startP k as=as++List.replicate (k-as.length) .no:=rfl
@[simp] theorem TY:ĝ ρ=.ok [] ρ:= rfl
@[simp] theorem MP{ms:M (List Slot)}:Ĩ ma ms ρ=(ma ρ).bind fun p ρ1=>(ms ρ1).bind fun as ρ2=>.ok (.sh p::as) ρ2:=rfl
@[simp] theorem M_{ms:M (List Slot)}:Ċ i ms ρ=(match(ρ[i]?).bind cj with
  |none=>.bad
  |some _=>(ms ρ).bind fun as ρ2=>match(ρ2[i]?).bind cj with
   |some s=>.ok (s::as) ρ2
   |none=>.bad):=rfl
@[simp] theorem Yo:cj (.sh p)=some (.sh p):=rfl
@[simp] theorem Yp:cj (.ow ps)=some (.bw ps):=rfl
@[simp] theorem Yq:cj (.bw ps)=some (.bw ps):=rfl
@[simp] theorem Yr:nD (.sh p)=.sh p:=rfl
@[simp] theorem Ys:nD (.ow ps)=.bw ps:=rfl
@[simp] theorem Yt:nD (.bw ps)=.bw ps:=rfl
@[simp] theorem Yu{js:List Nat}{nl:Nat}:nF js nl ρ=js.map (fun(j:Nat)=>nD ((ρ[j]?).getD .no))++List.replicate nl .no:=rfl
@[simp] theorem pY:ņ i ρ=(match ρ[i]? with
  |some (.bw ps)=>.ok ps ρ
  |some (.sh (.lst ps))=>.ok ps ρ
  |some (.sh (.tup ps))=>.ok ps ρ
  |some (.sh (.str z))=>.ok (z.cps.toList.map fun c=>.str ⟨#[c]⟩) ρ
  |some (.ow ps)=>.ok ps (ρ.set i (.sh (.lst ps)))
  |_=>.bad):=rfl
@[simp] theorem T_{x y:Int}:ĭ (.int x) (.int y)=some (.sh (.int (x+y))):=rfl
@[simp] theorem Ua{x y:Int}:ň (.int x) (.int y)=some (.int (x-y)):=rfl
@[simp] theorem Ub{x y:Int}:Ĕ (.int x) (.int y)=if Ľ x y=true then some (.int (x*y)) else none:=rfl
@[simp] theorem Uc{x y:Int}:œ (.int x) (.int y)=if cu x y=true then some (.int (x.fdiv y)) else none:=rfl
@[simp] theorem Ud{x y:Int}:Ņ (.int x) (.int y)=if rM x y=true then some (.int (x.fmod y)) else none:=rfl
@[simp] theorem Ue{x y:Int}:Ÿ (.int x) (.int y)=if aF x y=true then some (.int (x ^ y.toNat)) else none:=rfl
@[simp] theorem Ug{x y:Int}:Mr (.int x) (.int y)=if Dr x y=true then some (.int (x*2 ^ y.toNat)) else none:=rfl
@[simp] theorem Uh{x y:Int}:Ms (.int x) (.int y)=if Ds x y=true then some (.int (x / 2 ^ y.toNat)) else none:=rfl
@[simp] theorem Ui{x:Int}:aW (.int x)=some (.int (-x)):=rfl
@[simp] theorem Yv{x y:Int}:nH (.int x) (.int y)=some (.bl (decide (x<y))):=rfl
@[simp] theorem Yw{x y:Int}:pW (.int x) (.int y)=some (.bl (decide (x≤y))):=rfl
@[simp] theorem Yx{x y:Int}:BP (.int x) (.int y)=some (.bl (decide (y<x))):=rfl
@[simp] theorem Yy{x y:Int}:wG (.int x) (.int y)=some (.bl (decide (y≤x))):=rfl
@[simp] theorem Yz{x y:Int}:Ų (.int x) (.int y)=some (.bl (decide (x=y))):=by
  have h:eqB (.int x) (.int y)=decide (x=y):=by rw[eqB.eq_def];rfl
  rw[←h];rfl
@[simp] theorem YB{x y:Int}:ŵ (.int x) (.int y)=some (.bl (!decide (x=y))):=by
  have h:eqB (.int x) (.int y)=decide (x=y):=by rw[eqB.eq_def];rfl
  rw[←h];rfl
@[simp] theorem YC{x y:Bool}:Ų (.bl x) (.bl y)=some (.bl (x== y)):=rfl
@[simp] theorem YD{x y:Bool}:ŵ (.bl x) (.bl y)=some (.bl (!(x== y))):=rfl
@[simp] theorem YF{p:PV}:BR p .non=some (.bl (Hh p)):=rfl
@[simp] theorem Uj{p:PV}:BW p .non=some (.bl (!Hh p)):=rfl
@[simp] theorem YG{x:Int}:đ (.lst ps) (.int x)=dj ps x:=rfl
@[simp] theorem YH{x:Int}:đ (.tup ps) (.int x)=dj ps x:=rfl
@[simp] theorem Ŷ:aB [.lst ps]=some (.int ps.length):=rfl
@[simp] theorem Uk:aB [.tup ps]=some (.int ps.length):=rfl
@[simp] theorem YJ{x:Int}:BZ [.int x]=some (.int (if x<0 then -x else x)):=rfl
@[simp] theorem YK{x y:Int}:iV [.int x,.int y]=some (.int (if y<x then y else x)):=rfl
@[simp] theorem wQ{x y:Int}:gB [.int x,.int y]=some (.int (if y>x then y else x)):=rfl
@[simp] theorem Nb:nJ [.lst ps]=some (.ow ps):=rfl
@[simp] theorem Nf:nJ [.tup ps]=some (.ow ps):=rfl
@[simp] theorem Ul:wN [.lst ps]=some (.tup ps):=rfl
@[simp] theorem Um:wN [.tup ps]=some (.tup ps):=rfl
@[simp] theorem YL{t:String}:wL [p,.ty t]=(jC p t).map .bl:=rfl
@[simp] theorem Uo{x:Bool}:GZ (.bl x)=some x:=rfl
@[simp] theorem Uq{x:Int}:GZ (.int x)=some (x != 0):=rfl
@[simp] theorem Ur:GZ (.lst ps)=some (!ps.isEmpty):=rfl
@[simp] theorem wR(xs:List α)(n:Nat):dj xs (n:Int)=xs[n]?:= by
  unfold dj o_
  rw[if_pos (by omega)]
  by_cases h:n<xs.length
  ·rw[if_pos (by omega)]
   simp
  ·rw[if_neg (by omega)]
   simp
   omega
@[simp] theorem Us(xs:List α)(n:Nat):dj xs (no_index (OfNat.ofNat n):Int)=xs[(no_index (OfNat.ofNat n):Nat)]?:= wR xs n
@[simp] theorem JX{x y:Int}:rM x y=decide (y≠0):=rfl
end
theorem ū{x y:Int}(h1: -(2 ^ 64)<x)(h2:x<2 ^ 64):Ľ x y=true:=by unfold Ľ;rw[decide_eq_true (by omega:x.natAbs<18446744073709551616)];rfl
theorem mul_r{x y:Int}(h1: -(2 ^ 64)<y)(h2:y<2 ^ 64):Ľ x y=true:=by unfold Ľ;rw[decide_eq_true (by omega:y.natAbs<18446744073709551616)];simp
theorem wU{x y:Int}(h1:bits x≤1048576)(h2:bits y≤1048576):Ľ x y=true:=by unfold Ľ;simp[h1,h2]
theorem rZ{x y:Int}(h1:y≠0)(h2:bits y≤8000):cu x y=true:=by unfold cu;simp[h1,h2]
section
variable{g:Tg}{mb:M Fl}{mc mt:M Bool}{me:M PV}{items:List PV}{ρ:ł}
theorem Ŀ{α:Type}(c f:α→PV)(I:ł→Prop):∀(xs:List α) (ρ:ł) (acc:List PV),I ρ→acc.length+xs.length≤16777216→
 (∀x∈xs,∀ρ,I ρ→∃ρ1 ρ2 ρ3,g (c x) ρ=some ρ1∧mt ρ1=.ok true ρ2∧me ρ2=.ok (f x) ρ3∧I ρ3)→Ń g mt me (xs.map c) ρ acc=some (acc++xs.map f)
 | [],ρ,acc,_,_,_=>by simp[Ń]
 |x::xs,ρ,acc,h,hz,hs=>by
  obtain⟨ρ1,ρ2,ρ3,h1,h2,h3,h4⟩:=hs x List.mem_cons_self ρ h
  rw[List.map_cons,Ń,h1]
  dsimp only
  rw[h2]
  dsimp only
  rw[h3]
  dsimp only
  rw[if_pos (by simp at hz;omega),Ŀ c f I xs ρ3 (acc ++ [f x]) h4 (by simp at hz ⊢;omega) fun y hy=>hs y (List.mem_cons_of_mem _ hy)]
  simp
theorem iW{β:Type}(st:β→ł)(I:β→Prop)(μ:β→Nat)(hs:∀b,I b→mc (st b)=.ok false (st b)∨(mc (st b)=.ok true (st b)∧∃b',mb (st b)=.ok .nx (st b')∧I b'∧μ b' < μ b)){b:β}(h0:I b) :
 ∃b',Ś mc mb (st b)=.ok .nx (st b')∧I b'∧mc (st b')=.ok false (st b'):=by
 have go:∀n b,μ b≤n→I b→∃b',Ś mc mb (st b)=.ok .nx (st b')∧I b'∧mc (st b')=.ok false (st b'):=by
  intro n
  induction n with
  |zero=>
   intro b hn hi
   rcases hs b hi with e|⟨e,b',_,_,hl⟩
   ·exact⟨b,by rw[cP,e];rfl,hi,e⟩
   ·omega
  |succ n ih=>
   intro b hn hi
   rcases hs b hi with e|⟨e,b',e2,hi',hl⟩
   ·exact⟨b,by rw[cP,e];rfl,hi,e⟩
   ·obtain⟨b2,q1,q2⟩:=ih b' (by omega) hi'
    refine⟨b2,?_,q2⟩
    rw[cP,e]
    simp only[Res.ş,if_true,e2]
    exact q1
 exact go (μ b) b (Nat.le_refl _) h0
end
end P
namespace P
open PySem PySem.Spec PyProof.Rows L2 M2 M3 M4
def lR(Q:String→Prop):List String→Prop
 | []=>True
 |c::cs=>Q c∧lR Q cs
theorem lR.get{Q:String→Prop}:∀{cs:List String} {C:String},lR Q cs→cs.contains C=true→Q C
 | [],_,_,h=>by simp at h
 |c::cs,C,⟨h1,h2⟩,h=>by
  by_cases e:C=c
  ·rw[e];exact h1
  ·refine h2.get ?_
   rw[List.contains_cons] at h
   have:(C== c)=false:=by simpa using e
   rw[this,Bool.false_or] at h
   exact h
section
variable{X:Cx}{cm:String→Addr}{K:KK}{E:L2.St→XK}{a b e o:Expr}{es:List Expr}{pos apos:Pos}{m ma mb:M PV}{f:Str}
def YM(cs:List String)(f:Str):PV→Option PV
 | .ins C ns ps=>if cs.contains C=true then(ns.zip ps).lookup f else none
 |_=>none
def Ng(m:Str)(oZ:List (String×MF))(mo:M PV)(ms:M (List Slot)):M RV:=fun ρ=>(mo ρ).bind fun p ρ1=>match p with
 | .ins C ns ps=>match oZ.lookup C with
   |some mf=>if ns.contains m=true then .bad else(ms ρ1).bind fun as ρ2=>match mf (.sh (.ins C ns ps)::as) with
    | .ret r=>.ok r ρ2
    | .exc x=>.exc x ρ2
    | .bad=>.bad
   |none=>.bad
 |_=>.bad
variable{CX:jH}{k n:Nat}{mth:Str}{oZ:List (String×MF)}{ms:M (List Slot)}
def putN(f:Str):List Str→List Str
 | []=>[f]
 |g::r=>if g=f then g::r else g::putN f r
def Ce(f:Str)(p:PV):List Str→List PV→List PV
 | [],_=>[p]
 |g::r,q::qs=>if g=f then p::qs else q::Ce f p r qs
 |_::_,[]=>[]
def Nh(i:Nat)(cs:List String)(f:Str)(mv:M PV):M Fl:=fun ρ=>(mv ρ).bind fun p ρ1=>match ρ1[i]? with
 |some (.rc C ns ps)=>if cs.contains C=true∧ns.length<1000 then .ok .nx (ρ1.set i (.rc C (putN f ns) (Ce f p ns ps))) else .bad
 |_=>.bad
inductive IR where
 |ok (ns:List Str) (ps:List PV)|exc (x:PX)|bad
abbrev MI:=List Slot→IR
def IR.of:Res Fl→IR
 | .ok .nx (.rc _ ns ps::_)=>.ok ns ps
 | .exc x _=>.exc x
 |_=>.bad
def Ni(n k:Nat)(C:String)(mb:M Fl):MI:=fun as=>if as.length+1=n then IR.of (mb (.rc C [] []::startP (k-1) as)) else .bad
end
section
variable{P:Program}{w:World}{K:PySem.W.Frag}{cm:String→Addr}{mg:Str→Option Value}{base:Heap}{CX:jH}
end
def Nj(C:String)(mi:MI)(ms:M (List Slot)):M PV:=fun ρ=>(ms ρ).bind fun as ρ1=>match mi as with
 | .ok ns ps=>.ok (.ins C ns ps) ρ1
 | .exc x=>.exc x ρ1
 | .bad=>.bad
section
variable{X:Cx}{cm:String→Addr}{E:L2.St→XK}{e:Expr}{es:List Expr}{pos p:Pos}{CX:jH}{k n:Nat}{f:Addr}{fd:FuncData}{ps:List Str}{C:String}{mi:MI}{ms:M (List Slot)}{x:Str}
end
end P
namespace P
open PySem PySem.Spec PyProof.Rows L2 M2 M3 M4
def Hq(B:Heap)(e:Addr)(C:Value)(d:Option Addr)(fl:Value)(h:Heap):Prop:=
 ∃oe vs T oT ts,h.get? e=some oe∧(oe.cls=C∧oe.dict=d)∧oe.data=.fields vs∧vs[1]?=some (.ref T)∧B.get? T=none∧T≠e∧h.get? T=some oT∧oT.data=.fields ts∧ts[3]?=some fl
structure Moved(h h':Heap):Prop where
 up:h.UpToSlots h'
 there:∀b o,h.get? b=some o→∃o',h'.get? b=some o'
theorem Moved.trans{h h1 h2:Heap}(a:Moved h h1)(b:Moved h1 h2):Moved h h2:=⟨a.up.trans b.up,fun c o e=>let ⟨o1,e1⟩:=a.there c o e;b.there c o1 e1⟩
theorem uE(o:Obj)(f:Array Value→Array Value):(o.mapFields f).dict=o.dict:=by
 obtain⟨c,d,dt,sl⟩:=o
 cases dt<;>rfl
section
variable{M:Model}{A:Around}{E:Value→Shared→Prop}{s:Shared}{B:Heap}{env:Env}{outer:List Env}{L e:Addr}{Q:Unit→Shared→Prop}
theorem Nk{oe:Obj}{vs:Array Value}{head:Value}{nxt:Bool}(hfr:A.frames=some (env::outer))(hl:s.heap.FunFrames B (env::outer))(hf:env.frame=some L)
 (he:s.heap.get? e=some oe)(hkb:B.StaysIn s.heap)(hen:B.get? e=none)(hd:oe.data=.fields vs)(hsz:1<vs.size)
 (k:∀h',B.StaysIn h'→h'.FunFrames B (env::outer)→Hq B e oe.cls oe.dict (rawInt L) h'→Moved s.heap h'→Q () {s with heap:=h'}) :
 wpAny M A (do
  let a ←frameOf env
  let pl ←entryPlaceOf L nxt
  let b ←EntryCells.newEntry head a .none (rawInt L) .none pl
  setField (.ref e) 1 b) Q E s:=by
 have out:e∉(env::outer).filterMap (·.frame):=fun z=>by
  obtain⟨_,o,ho,hn⟩:=hl.mem z
  rw[he] at ho
  cases ho
  exact hn vs hd
 refine wpAny_bind (wpAny_frameOf_fun hfr hl hf fun g1 so=>?_)
 refine wpAny_bind (wpAny_entryPlaceOf fun pl hpl=>?_)
 unfold EntryCells.newEntry newFields
 refine wpAny_bind (wpAny_newObj_type ?_ (hpl.sizeOk5 _ _ _ _ _))
 have e1:g1.get? e=some oe:=(so.2.1 e out).trans he
 have b1:B.StaysIn g1:=fun b o q=>(so.2.1 b fun z=>by
  rw[(hl.mem z).1] at q
  cases q).trans (hkb b o q)
 generalize hnw:([head,Value.ref L,.none,rawInt L,.none]++(if pl.isEmpty then List.replicate 6 Value.none else pl))=nw
 have n3:nw.toArray[3]?=some (rawInt L):=by rw[←hnw];simp
 dsimp only
 have e2:=Heap.get?_push_of_some (h:=g1) {cls:=.type "traceback",dict:=none,data:=.fields nw.toArray} e1
 refine wpAny_setField e2 hd hsz ?_
 have ne:g1.objs.size≠e:=Nat.ne_of_gt (Heap.lt_size e1)
 have d3:=Obj.data_mapFields hd (·.setIfInBounds 1 (Value.ref g1.objs.size))
 have e3:=Heap.get?_update_self (Obj.mapFields (·.setIfInBounds 1 (Value.ref g1.objs.size))) e2 (Obj.isFreed_of_fields d3)
 have kp:∀b o,b≠e→g1.get? b=some o→((g1.push {cls:=.type "traceback",dict:=none,data:=.fields nw.toArray}).update e (Obj.mapFields (·.setIfInBounds 1 (Value.ref g1.objs.size)))).get? b=some o:=fun b o hb q=>by
  rw[Heap.get?_update_other _ _ (Ne.symm hb)]
  exact Heap.get?_push_of_some _ q
 have t3:((g1.push {cls:=.type "traceback",dict:=none,data:=.fields nw.toArray}).update e (Obj.mapFields (·.setIfInBounds 1 (Value.ref g1.objs.size)))).get? g1.objs.size=some {cls:=.type "traceback",dict:=none,data:=.fields nw.toArray}:=by
  rw[Heap.get?_update_other _ _ (Ne.symm ne)]
  exact Heap.get?_push_size g1 rfl
 have nr:∀b o,s.heap.get? b=some o→(∀ws,o.data≠ .fields ws)→b≠e:=fun b o q hn z=>by
  rw[z,he] at q
  cases q
  exact hn vs hd
 refine k _ (fun b o q=>kp b o (fun z=>by rw[z,hen] at q;cases q) (b1 b o q)) (hl.of_keeps fun b o q hn=>?_) ?_ ⟨fun b o q hn=>?_,fun b o q=>?_⟩
 ·obtain⟨sl,z⟩:=so.2.2 b o q
  exact⟨_,kp b _ (nr b o q hn) z,rfl⟩
 ·exact⟨_,_,g1.objs.size,_,_,e3,⟨Obj.cls_mapFields _ _,uE _ _⟩,d3,by simp[hsz],b1.fresh,ne,t3,rfl,n3⟩
 ·obtain⟨sl,z⟩:=so.2.2 b o q
  exact⟨sl,kp b _ (nr b o q hn) z⟩
 ·obtain⟨sl,z⟩:=so.2.2 b o q
  by_cases hb:b=e
  ·rw[hb];exact⟨_,e3⟩
  ·exact⟨_,kp b _ hb z⟩
theorem Cg{oe:Obj}{vs:Array Value}(hfr:A.frames=some (env::outer))(hl:s.heap.FunFrames B (env::outer))(hf:env.frame=some L)(he:s.heap.get? e=some oe)(hkb:B.StaysIn s.heap)(hen:B.get? e=none)
 (hd:oe.data=.fields vs)(h1:vs[1]?=some .none)(k:∀h',B.StaysIn h'→h'.FunFrames B (env::outer)→Hq B e oe.cls oe.dict (rawInt L) h'→Moved s.heap h'→Q () {s with heap:=h'}) :
 wpAny M A (noteFrame (.ref e) env) Q E s:=by
 unfold noteFrame
 simp only[hf]
 refine wpAny_bind (wpAny_field he hd h1 ?_)
 rw[if_neg (by decide)]
 exact Nk hfr hl hf he hkb hen hd (Array.getElem?_eq_some_iff.mp h1).1 k
theorem Hr{C:Value}{d:Option Addr}(hfr:A.frames=some (env::outer))(hl:s.heap.FunFrames B (env::outer))(hf:env.frame=some L)(ht:Hq B e C d .none s.heap)(hkb:B.StaysIn s.heap)(hen:B.get? e=none)
 (k:∀h',B.StaysIn h'→h'.FunFrames B (env::outer)→Hq B e C d (rawInt L) h'→Moved s.heap h'→Q () {s with heap:=h'}):wpAny M A (noteFrame (.ref e) env) Q E s:=by
 obtain⟨oe,vs,T,oT,ts,he,⟨rfl,rfl⟩,hd,h1,hT,hTe,hT2,hdT,h3⟩:=ht
 unfold noteFrame
 simp only[hf]
 refine wpAny_bind (wpAny_field he hd h1 ?_)
 rw[if_pos (show(Value.ref T != Value.none)=true by simp)]
 refine wpAny_bind (wpAny_field hT2 hdT h3 ?_)
 rw[if_neg (show ¬((Value.none== rawInt L)=true) by simp[rawInt])]
 refine wpAny_bind (wpAny_setField hT2 hdT (Array.getElem?_eq_some_iff.mp h3).1 ?_)
 have oth:∀b,b≠T→(s.heap.update T (Obj.mapFields (·.setIfInBounds 3 Value.none))).get? b=s.heap.get? b:=fun b hb=>Heap.get?_update_other _ _ (Ne.symm hb)
 have nr:∀b o,s.heap.get? b=some o→(∀ws,o.data≠ .fields ws)→b≠T:=fun b o q hn z=>by
  rw[z,hT2] at q
  cases q
  exact hn ts hdT
 refine Nk hfr (hl.of_keeps fun b o q hn=>⟨o,(oth b (nr b o q hn)).trans q,rfl⟩) hf ((oth e (Ne.symm hTe)).trans he) (fun b o q=>(oth b fun z=>by rw[z,hT] at q;cases q).trans (hkb b o q)) hen hd (Array.getElem?_eq_some_iff.mp h1).1
  fun h' x1 x2 x3 x4=>k h' x1 x2 x3 (Moved.trans ⟨fun b o q hn=>⟨o.slots,(oth b (nr b o q hn)).trans q⟩,fun b o q=>?_⟩ x4)
 by_cases hb:b=T
 ·rw[hb];exact⟨_,Heap.get?_update_self _ hT2 (Obj.isFreed_of_fields (Obj.data_mapFields hdT _))⟩
 ·exact⟨o,(oth b hb).trans q⟩
theorem su{C fl:Value}{d:Option Addr}{l:List Env}(hkb:B.StaysIn s.heap)(hl:s.heap.FunFrames B l)(ht:Hq B e C d fl s.heap)
 (k:∀h',B.StaysIn h'→h'.FunFrames B l→Hq B e C d .none h'→Moved s.heap h'→Q () {s with heap:=h'}):wpAny M A (setFlight (.ref e) none) Q E s:=by
 obtain⟨oe,vs,T,oT,ts,he,hc,hd,h1,hT,hTe,hT2,hdT,h3⟩:=ht
 have z3:3<ts.size:=(Array.getElem?_eq_some_iff.mp h3).1
 have oth:∀b,b≠T→(s.heap.update T (Obj.mapFields (·.setIfInBounds 3 ((none:Option Addr).elim Value.none fun f=>rawInt f)))).get? b=s.heap.get? b:=fun b hb=>Heap.get?_update_other _ _ (Ne.symm hb)
 have nr:∀b o,s.heap.get? b=some o→(∀ws,o.data≠ .fields ws)→b≠T:=fun b o q hn z=>by
  rw[z,hT2] at q
  cases q
  exact hn ts hdT
 unfold setFlight
 refine wpAny_bind (wpAny_field he hd h1 ?_)
 rw[if_pos (show(Value.ref T != Value.none)=true by simp)]
 refine wpAny_setField hT2 hdT z3 (k _ (fun b o q=>(oth b fun z=>by rw[z,hT] at q;cases q).trans (hkb b o q)) (hl.of_keeps fun b o q hn=>⟨o,(oth b (nr b o q hn)).trans q,rfl⟩) ?_ ⟨fun b o q hn=>⟨o.slots,(oth b (nr b o q hn)).trans q⟩,fun b o q=>?_⟩)
 rotate_left
 ·by_cases hb:b=T
  ·rw[hb];exact⟨_,Heap.get?_update_self _ hT2 (Obj.isFreed_of_fields (Obj.data_mapFields hdT _))⟩
  ·exact⟨o,(oth b hb).trans q⟩
 exact⟨oe,vs,T,_,_,(oth e (Ne.symm hTe)).trans he,hc,hd,h1,hT,hTe,Heap.get?_update_self _ hT2 (Obj.isFreed_of_fields (Obj.data_mapFields hdT _)),Obj.data_mapFields hdT _,by simp[z3]⟩
end
theorem nO{P:Program}{w:World}{H:Hp}{h:Heap}{a:Addr}{o:HO}(x:ũ P w H h a o):∃ob,h.get? a=some ob:=by
 cases o with
 |lst xs=>obtain⟨_,_,_,_,e⟩:=x;exact⟨_,e⟩
 |tup xs=>obtain⟨_,_,_,ob,e,_⟩:=x;exact⟨_,e⟩
 |dK kvs=>obtain⟨_,_,_,_,ob,_,_,e,_⟩:=x;exact⟨_,e⟩
 |dT kvs=>obtain⟨_,_,_,_,ob,_,_,e,_⟩:=x;exact⟨_,e⟩
 |set S n=>obtain⟨ob,_,_,_,e,_⟩:=x;exact⟨_,e⟩
 |ins C dx fs=>obtain⟨_,_,_,e,_⟩:=x;exact⟨_,e⟩
 |own y=>exact x
 |xd fs=>obtain⟨_,⟨ob,_,_,e,_⟩,_⟩:=x;exact⟨_,e⟩
 |rng lo hi=>obtain⟨_,_,_,e⟩:=x;exact⟨_,e⟩
 |bC ob u=>obtain⟨e,_⟩:=x;exact⟨_,e⟩
 |oZ ps=>exact⟨_,(show h.get? a=some _ from x)⟩
 |met f y=>exact⟨_,(show h.get? a=some _ from x)⟩
 |ext φ=>obtain⟨_,e,_⟩:=x;exact e
theorem dB.sub{P:Program}{w:World}{H:Hp}{h B:Heap}(x:dB P w H h)(k:∀b o u,H b=some u→h.get? b=some o→B.get? b=some o):dB P w H B:=fun a o e=>
 (x a o e).stay (fun b u hb q=>by
   rcases hb with rfl|hb
   ·exact k _ _ _ e q
   ·exact k _ _ _ hb q) (fun _ q=>q) fun _ _ q=>q
structure UnX(fs:List Addr)(H H':Hp)(h B h':Heap):Prop where
 keep:∀b o,h.get? b=some o→H b=none→b∉fs→B.get? b=some o
 slot:∀b o,h.get? b=some o→H b=none→b∈fs→∃sl,h'.get? b=some {o with slots:=sl}
 free:∀b o,h.get? b=some o→H b=none→H' b=none
 there:∀b o,h.get? b=some o→∃o',h'.get? b=some o'
 tups:∀b xs,H b=some (.tup xs)→H' b=some (.tup xs)
 eN:∀b o u,H b=some (.bC o u)→H' b=some (.bC o u)
 fJ:∀b ps,H b=some (.oZ ps)→∃more,H' b=some (.oZ (ps++more))
structure Lies(P:Program)(w:World)(outer:List Env)(H:Hp)(s:Shared)(ea:Addr)(C:Value)(d:Option Addr)(fl:Value)(H':Hp)(B:Heap)(s':Shared):Prop where
 os:s'.os=s.os
 bare:AllBare s'.gens
 st:B.StaysIn s'.heap
 en:B.get? ea=none
 fr:s'.heap.FunFrames B outer
 tr:Hq B ea C d fl s'.heap
 hok:dB P w H' B
 un:UnX (frs outer) H H' s.heap B s'.heap
 no:H' ea=none
 new:s.heap.get? ea=none
def cg(P:Program)(w:World):jH:=fun outer H s E e s'=>∃ea C d H' B,e=.ref ea∧Lies P w outer H s ea C d .none H' B s'∧E C d H'
theorem jY{P:Program}{w:World}{outer:List Env}{H:Hp}{s s':Shared}{e:Value}(h:cg P w outer H s (fun _ _ _=>False) e s'):False:=by
 obtain⟨_,_,_,_,_,_,_,h⟩:=h
 exact h
theorem iY{P:Program}{w:World}{X:Cx}:gZ (cg P w) X EF:=fun _ _ _ _ _ _ _ h=>(jY h).elim
section
variable{P:Program}{w:World}{K:PySem.W.Frag}{mg:Str→Option Value}{base:Heap}{N:List Str}{qual:Str}{scope:Scope}{f:Addr}{cdv:Value}{A:Around}{outer:List Env}{s₀:Shared}{H₀:Hp}{E:XK}
theorem ķ:gZ (cg P w) (aO (cg P w) P w K mg base N qual scope f cdv A outer s₀ H₀ E) (fun _=>E):=by
 intro pins σ H s e s' I h
 obtain⟨ea,C,d,H',B,rfl,l,hE⟩:=h
 have hfr:(A.deeper (envOfC qual scope s₀.heap.objs.size f cdv)).frames=some (envOfC qual scope s₀.heap.objs.size f cdv::outer):=I.ok.frames
 show wpAny _ _ (leaving _ _) _ _ s'
 unfold leaving
 refine wpAny_bind (Hr hfr l.fr rfl l.tr l.st l.en fun h1 x1 x2 x3 x4=>?_)
 refine su (s:={s' with heap:=h1}) x1 x2 x3 fun h2 y1 y2 y3 y4=>?_
 obtain⟨_,_,YQ⟩:=y2
 have mv:=x4.trans y4
 have JR:∀b o,s₀.heap.get? b=some o→b∉frs outer→b∉frs (envOfC qual scope s₀.heap.objs.size f cdv::outer):=fun b o q hb z=>by
  rcases List.mem_cons.mp (show b∈s₀.heap.objs.size::frs outer from z) with z|z
  ·exact absurd (Heap.lt_size q) (by rw[z];exact Nat.lt_irrefl _)
  ·exact hb z
 have inL:∀b,b∈frs outer→b∈frs (envOfC qual scope s₀.heap.objs.size f cdv::outer):=fun b z=>List.mem_cons_of_mem _ z
 refine⟨ea,C,d,H',B,rfl,⟨l.os.trans I.os,l.bare,y1,l.en,YQ,y3,l.hok,⟨fun b o q n hb=>?_,fun b o q n hb=>?_,fun b o q n=>?_,fun b o q=>?_,fun b xs q=>l.un.tups b xs (I.base.tups b xs q),fun b o u q=>l.un.eN b o u (I.base.eN b o u q),fun b ps q=>?_⟩,l.no,?_⟩,hE⟩
 ·exact l.un.keep b o (I.base.keep b o q n hb (by simp[aO])) (I.base.free b o q n (by simp[aO])) (JR b o q hb)
 ·obtain⟨sl,q1⟩:=I.base.slot b o q n hb (by simp[aO])
  obtain⟨sl2,q2⟩:=l.un.slot b _ q1 (I.base.free b o q n (by simp[aO])) (inL b hb)
  have nf:∀vs,o.data≠ .fields vs:=by
   obtain⟨_,o',q3,hn⟩:=l.fr.mem (inL b hb)
   rw[q2] at q3
   cases q3
   exact hn
  obtain⟨Nm,q3⟩:=mv.up b _ q2 nf
  exact⟨Nm,q3⟩
 ·obtain⟨o1,q1⟩:=I.base.there b o q (by simp[aO])
  exact l.un.free b o1 q1 (I.base.free b o q n (by simp[aO]))
 ·obtain⟨o1,q1⟩:=I.base.there b o q (by simp[aO])
  obtain⟨o2,q2⟩:=l.un.there b o1 q1
  exact mv.there b o2 q2
 ·obtain⟨m1,e1⟩:=I.base.fJ b ps q
  obtain⟨m2,e2⟩:=l.un.fJ b _ e1
  exact⟨m1++m2,by rw[e2,Array.append_assoc]⟩
 ·cases q:s₀.heap.get? ea with
  |none=>rfl
  |some o=>
   obtain⟨o1,q1⟩:=I.base.there ea o q (by simp[aO])
   rw[l.new] at q1
   cases q1
theorem Hs{pins:List (Addr×Obj)}{σ:L2.St}{H:Hp}{s:Shared}{e:Addr}{oe:Obj}{vs:Array Value}(I:Inv (aO (cg P w) P w K mg base N qual scope f cdv A outer s₀ H₀ E) pins σ H s)
 (he:s.heap.get? e=some oe)(hd:oe.data=.fields vs)(h1:vs[1]?=some .none)(hn:H e=none)(hnew:s₀.heap.get? e=none)(hE:E oe.cls oe.dict H) :
 (aO (cg P w) P w K mg base N qual scope f cdv A outer s₀ H₀ E).xe (.ref e) s:=by
 have hfr:(A.deeper (envOfC qual scope s₀.heap.objs.size f cdv)).frames=some (envOfC qual scope s₀.heap.objs.size f cdv::outer):=I.ok.frames
 have st:s.heap.FunFrames base (envOfC qual scope s₀.heap.objs.size f cdv::outer):=I.stack
 have nof:e∉frs (envOfC qual scope s₀.heap.objs.size f cdv::outer):=fun z=>by
  obtain⟨_,o,q,hn⟩:=st.mem z
  rw[he] at q
  cases q
  exact hn vs hd
 have hin:∀env∈(envOfC qual scope s₀.heap.objs.size f cdv::outer),∀a,env.frame=some a→a∈e::frs (envOfC qual scope s₀.heap.objs.size f cdv::outer):=fun env h1 a h2=>List.mem_cons_of_mem _ (List.mem_filterMap.mpr ⟨env,h1,h2⟩)
 have hl:s.heap.FunFrames (PySem.W.hideAll s.heap (e::frs (envOfC qual scope s₀.heap.objs.size f cdv::outer))) (envOfC qual scope s₀.heap.objs.size f cdv::outer):=PySem.W.funFrames_hide st hin
 have hB:∀b o,s.heap.get? b=some o→b≠e→b∉frs (envOfC qual scope s₀.heap.objs.size f cdv::outer)→(PySem.W.hideAll s.heap (e::frs (envOfC qual scope s₀.heap.objs.size f cdv::outer))).get? b=some o:=fun b o q h1 h2=>
  PySem.W.hideAll_get _ q fun z=>(List.mem_cons.mp z).elim h1 h2
 have JR:∀b o,s₀.heap.get? b=some o→b∉frs outer→b∉frs (envOfC qual scope s₀.heap.objs.size f cdv::outer):=fun b o q hb z=>by
  rcases List.mem_cons.mp (show b∈s₀.heap.objs.size::frs outer from z) with z|z
  ·exact absurd (Heap.lt_size q) (by rw[z];exact Nat.lt_irrefl _)
  ·exact hb z
 have ne0:∀b o,s₀.heap.get? b=some o→b≠e:=fun b o q z=>by rw[z,hnew] at q;cases q
 have kb:(PySem.W.hideAll s.heap (e::frs (envOfC qual scope s₀.heap.objs.size f cdv::outer))).StaysIn s.heap:=fun b o q=>PySem.W.of_hideAll _ q
 have en:(PySem.W.hideAll s.heap (e::frs (envOfC qual scope s₀.heap.objs.size f cdv::outer))).get? e=none:=PySem.W.hideAll_none _ List.mem_cons_self
 show wpAny _ _ (leaving _ _) _ _ s
 unfold leaving
 refine wpAny_bind (Cg hfr hl rfl he kb en hd h1 fun g1 x1 x2 x3 x4=>?_)
 refine su (s:={s with heap:=g1}) x1 x2 x3 fun g2 y1 y2 y3 y4=>?_
 obtain⟨_,_,YQ⟩:=y2
 have mv:=x4.trans y4
 refine⟨e,oe.cls,oe.dict,H,_,rfl,⟨I.os,I.bare,y1,en,YQ,y3,?_,⟨fun b o q n hb=>?_,fun b o q n hb=>?_,fun b o q n=>?_,fun b o q=>?_,I.base.tups,I.base.eN,I.base.fJ⟩,hn,hnew⟩,hE⟩
 ·refine dB.sub I.hok fun b o u hu q=>hB b o q (fun z=>by rw[z,hn] at hu;cases hu) fun z=>?_
  have:=I.lE b z
  rw[hu] at this
  cases this
 ·exact hB b o (I.base.keep b o q n hb (by simp[aO])) (ne0 b o q) (JR b o q hb)
 ·obtain⟨sl,q1⟩:=I.base.slot b o q n hb (by simp[aO])
  have nf:∀vs,o.data≠ .fields vs:=by
   obtain⟨_,o',q3,hn⟩:=st.mem (List.mem_cons_of_mem _ hb)
   rw[q1] at q3
   cases q3
   exact hn
  obtain⟨Nm,q3⟩:=mv.up b _ q1 nf
  exact⟨Nm,q3⟩
 ·exact I.base.free b o q n (by simp[aO])
 ·obtain⟨o1,q1⟩:=I.base.there b o q (by simp[aO])
  exact mv.there b o1 q1
end
end P
namespace P
open PySem PySem.Spec PyProof.Rows L2 M2 M3 M4
abbrev wV:List Value:=[.type "ValueError",.type "Exception",.type "BaseException",.type "object"]
abbrev Ht:String:= "ValueError.__new__"
section
variable{K:PySem.W.Frag}{h:Heap}{C:Addr}{bmB:List Value}{newId:String}
theorem Hv(X:K.In h)(q:PySem.W.excIn K C bmB newId=true) :
 ∃bm N nm qn bs hd sn sub ab col dd k0 k1 k2 k3 k5 mN,h.get? C=some (excClassObj nm qn C N bs bm hd sn sub ab col dd k0 k1 k2 k3 k5 newId)∧h.Ns N mN∧mN "__init__" =none∧OwnTail h bmB bm:=by
 unfold PySem.W.excIn at q
 split at q
 case h_2=>cases q
 rename_i dd cd sl ho
 split at q
 case h_2=>cases q
 rename_i C1 bm k0 k1 k2 k3 n1 k5 e1 e2
 simp only[Bool.and_eq_true,beq_iff_eq,Bool.not_eq_true'] at q
 obtain⟨⟨⟨⟨⟨z1,z2⟩,z3⟩,z4⟩,z5⟩,z6⟩:=q
 subst z1 z2
 obtain⟨nm,bs,mro,ns,qn,hd,sn,sub,ab,col,del⟩:=cd
 dsimp only at e1 z3 z5 z6
 subst e1 z3
 obtain⟨sll⟩:=sl
 dsimp only at e2
 subst e2
 exact⟨bm,ns,nm,qn,bs,hd,sn,sub,ab,col,dd,k0,k1,k2,k3,k5,_,X _ _ ho,.of_isNs (PySem.W.isNs_of_in X z5),PySem.W.nsMap_none_of_in X z5 z6,PySem.W.tail_of_in X z4⟩
end
def sE(X:Cx)(E:L2.St→XK):Prop:=∀(pins:List (Addr×Obj)) (σ:L2.St) (H:Hp) (s:Shared) (e:Addr) (oe:Obj) (vs:Array Value),Inv X pins σ H s→s.heap.get? e=some oe→oe.data=.fields vs→vs[1]?=some .none→H e=none→
 X.s₀.heap.get? e=none→E σ oe.cls oe.dict H→X.xe (.ref e) s
theorem Ci{P:Program}{w:World}{K:PySem.W.Frag}{mg:Str→Option Value}{base:Heap}{N:List Str}{qual:Str}{scope:Scope}{f:Addr}{cdv:Value}{A:Around}{outer:List Env}{s₀:Shared}{H₀:Hp}{E:XK} :
 sE (aO (cg P w) P w K mg base N qual scope f cdv A outer s₀ H₀ E) (fun _=>E):=fun _ _ _ _ _ _ _ I he hd h1 hn hnew hE=>Hs I he hd h1 hn hnew hE
def pZ(C:String):M Fl:=fun ρ=>.exc ⟨C,[],[]⟩ ρ
section
variable{X:Cx}{cm:String→Addr}{E:L2.St→XK}{x:Str}{C:String}{np cpos pos:Pos}
theorem Cj{P:Program}{w:World}{H:Hp}{h:Heap}{e:Addr}(k:dB P w H h)(q:h.get? e=none):H e=none:=by
 cases z:H e with
 |none=>rfl
 |some u=>
  obtain⟨o,ho⟩:=nO (k e u z)
  rw[q] at ho
  cases ho
theorem Inv.YS{pins:List (Addr×Obj)}{σ:L2.St}{H:Hp}{s:Shared}{e:Addr}(I:Inv X pins σ H s)(hex:X.ex=[])(q:s.heap.get? e=none):X.s₀.heap.get? e=none:=by
 cases z:X.s₀.heap.get? e with
 |none=>rfl
 |some o=>
  obtain⟨o1,q1⟩:=I.base.there e o z (by rw[hex];simp)
  rw[q] at q1
  cases q1
theorem wW(hc:X.calm=true)(hex:X.ex=[])(hr:sE X E)(hg:Gl X x)(hm:X.mg x=some (.ref (cm C)))(q:PySem.W.excIn X.K (cm C) wV Ht=true)(hdb:(x== ("__debug__" :Str))=false:=by decide) :
 PS X (.Raise (some (.Call (.Name x np) [] [] cpos)) none pos) (tS (kk X cm) E (pZ C)):=by
 intro pins s σ H D I ⟨c,F,ρ,rel,h⟩
 obtain⟨bm,N,nm,qn,bs,hd,sn,sub,ab,col,dd,k0,k1,k2,k3,k5,mN,hC,hN,hni,T⟩:=Hv I.jz q
 refine wpAny_Raise_call_subT (C:=cm C) (nm:=nm) (q:=qn) (N:=N) (bs:=bs) (bm:=bm) (hdct:=hd) (sn:=sn) (sub:=sub) (ab:=ab) (col:=col) (dd:=dd) (k0:=k0) (k1:=k1) (k2:=k2) (k3:=k3) (k5:=k5)
  PySem.F.excBase_ValueError (mN:=mN) (T.hasType (by decide)) (I.ok.hd hc) rfl hni (qR I hg hm ⟨rfl,?_⟩ hdb)
 refine evalArgs_empty ⟨rfl,Nat.zero_le _,hC,hN,T,fun h' e hx=>?_⟩
 obtain⟨t,he,_,_⟩:=hx.there
 have I2:Inv X pins σ H {s with heap:=h'}:=I.kept (t':=s.toks) hx.keeps
 exact hr pins σ H _ e _ _ I2 he rfl rfl (Cj I.hok hx.new) (Inv.YS I hex hx.new) (h σ _ _ F H rel (Same.refl _) ⟨rfl,[],.inl ⟨rfl,rfl⟩,rfl,ĕ.nil⟩)
end
section
variable{M:Model}{A:Around}{E:Value→Shared→Prop}{s:Shared}{K:PySem.W.Frag}{e C D:Addr}{oe:Obj}{b:Bool}{Q:Bool→Shared→Prop}
end
section
variable{X:Cx}{pins:List (Addr×Obj)}{σ:L2.St}{H:Hp}{s:Shared}{xe:Value→Shared→Prop}
end
end P
namespace P
open PySem PySem.Spec PyProof.Rows L2 M2 M3 M4
abbrev MH:=PX→ł→Res Fl
def Ck(i:Nat)(yes no:List String)(mh:M Fl)(rest:MH):MH:=fun x ρ=>if yes.contains x.C=true then(match mh (ρ.set i (.sh (.xc x.C x.ns x.ps))) with
 | .ok f ρ2=>.ok f (ρ2.set i .no)
 |_=>.bad) else if no.contains x.C=true then rest x ρ else .bad
def Np(yes no:List String)(mh:M Fl)(rest:MH):MH:=fun x ρ=>if yes.contains x.C=true then(match mh ρ with
 | .ok f ρ2=>.ok f ρ2
 |_=>.bad) else if no.contains x.C=true then rest x ρ else .bad
def YT(mb:M Fl)(mh:MH):M Fl:=fun ρ=>match mb ρ with
 | .exc x ρ1=>mh x ρ1
 |r=>r
section
variable{X:Cx}{cm:String→Addr}{E:L2.St→XK}{pins:List (Addr×Obj)}{σ:L2.St}{H Hc:Hp}{s sc:Shared}{ea:Addr}{C:Value}{d:Option Addr}{B:Heap}
variable{y n:Str}{Dn:String}{i:Nat}{yp hpos:Pos}{b₀:Stmt}{suite:List Stmt}{rest:List ExceptHandler}{yes no:List String}{mh:M Fl}{mr:MH}
end
end P
namespace P
open PySem PySem.Spec PyProof.Rows L2 M2 M3 M4 Builtin Builtin.ObjectAttr
def cU(K:PySem.W.Frag)(C:Addr):Bool:=match K.lookup C with
 |some ⟨.type "type",_,.cls cd,sl⟩=>(match cd.mro,sl.toList with
  | .ref C'::bm,[_,_,_,_,some (.builtin n),_]=>C'== C && n== Ht && !cd.hasDel && cd.hasDict && PySem.W.tailIn K wV bm && PySem.W.findIn K (.ref C) "__setattr__" == some (some (.builtin "object.__setattr__")) &&
      PySem.W.findIn K (.ref C) "__getattribute__" == some (some (.builtin "BaseException.__getattribute__")) && PySem.W.findIn K (.ref C) "__getattr__" == some none
  |_,_=>false)
 |_=>false
structure wX(K:PySem.W.Frag)(C:Addr)(cd:ClassData)(bm:List Value):Prop where
 at_:∃dd k0 k1 k2 k3 k5,K.lookup C=some ⟨.type "type",dd,.cls cd,#[k0,k1,k2,k3,some (.builtin Ht),k5]⟩
 mro:cd.mro=.ref C::bm
 del:cd.hasDel=false
 dict:cd.hasDict=true
 tail:PySem.W.tailIn K wV bm=true
 sa:PySem.W.findIn K (.ref C) "__setattr__" =some (some (.builtin "object.__setattr__"))
 ga:PySem.W.findIn K (.ref C) "__getattribute__" =some (some (.builtin "BaseException.__getattribute__"))
 gg:PySem.W.findIn K (.ref C) "__getattr__" =some none
theorem lU{K:PySem.W.Frag}{C:Addr}(q:cU K C=true):∃cd bm,wX K C cd bm:=by
 unfold cU at q
 split at q
 case h_2=>cases q
 rename_i dd cd sl ho
 split at q
 case h_2=>cases q
 rename_i C1 bm k0 k1 k2 k3 n1 k5 e1 e2
 simp only[Bool.and_eq_true,beq_iff_eq,Bool.not_eq_true'] at q
 obtain⟨⟨⟨⟨⟨⟨⟨z1,z2⟩,z3⟩,z4⟩,z5⟩,z6⟩,z7⟩,z8⟩:=q
 subst z1 z2
 obtain⟨sll⟩:=sl
 dsimp only at e2
 subst e2
 exact⟨cd,bm,⟨dd,k0,k1,k2,k3,k5,ho⟩,e1,z3,z4,z5,z6,z7,z8⟩
section
variable{K:PySem.W.Frag}{h:Heap}{C:Addr}{cd:ClassData}{bm:List Value}
theorem wX.cls(x:wX K C cd bm):PySem.W.clsIn K C=some cd:=by
 obtain⟨_,_,_,_,_,_,e⟩:=x.at_
 unfold PySem.W.clsIn
 rw[e]
theorem nP{T:String}(hT:wV.contains (.type T)=true):∀{l:List Value},PySem.W.tailIn K wV l=true→l.contains (.type T)=true
 | [],e=>by cases(show(wV== [])=true from e)
 |v::r,e=>by
  unfold PySem.W.tailIn at e
  rcases Bool.or_eq_true_iff.mp e with q|q
  ·rw[beq_iff_eq.mp q];exact hT
  ·split at q
   ·split at q
    ·simp only[Bool.and_eq_true,beq_iff_eq] at q
     rw[List.contains_cons,nP hT q.2,Bool.or_true]
    ·cases q
   ·cases q
theorem wX.mroIs(x:wX K C cd bm){T:String}(hT:wV.contains (.type T)=true):PySem.W.mroIn K C (.type T)=some true:=by
 unfold PySem.W.mroIn
 rw[x.cls,Option.bind_some,if_neg (by rw[x.mro];simp),x.mro,List.contains_cons,nP hT x.tail,Bool.or_true]
end
section
variable{prog:Program}{w:World}{A:Around}{E:Value→Shared→Prop}{h:Heap}{g:Array GenState}{d:Drawn}{t:Nat}{os:OsState}
variable{nm q:Str}{C N:Addr}{bs bm bmB:List Value}{hdct:Bool}{sn:List Str}{sub:List Value}{ab:Bool}{col:Option Bool}{dd:Option Addr}{k0 k1 k2 k3 k5:Option Value}{B newId initId:String}
end
section
variable{prog:Program}{w:World}{A:Around}{E:Value→Shared→Prop}{s:Shared}{K:PySem.W.Frag}{x C:Addr}{cd:ClassData}{bm:List Value}{ox:Obj}{od:Option Obj}{name:Str}{v:Value}
end
end P
namespace P
open PySem PySem.Spec PyProof.Rows L2 M2 M3 M4
section
variable{X:Cx}{pins:List (Addr×Obj)}{σ:L2.St}{H:Hp}{s:Shared}{a C:Addr}{cd:ClassData}{bm:List Value}{d:Option Addr}{fs:List (Str×V)}{f:Str}{y:V}{u:Value}{A:Around}{E:Value→Shared→Prop}
variable{o value:Expr}{pos pos':Pos}{j:Nat}{ss:List Stmt}{r:List (Str×Nat)}
end
section
variable{P:Program}{w:World}{K:PySem.W.Frag}{mg:Str→Option Value}{base:Heap}{CX:jH}
end
def Nq:List (Str×Nat)→List PV→List Str→List PV→Option (List Str×List PV)
 | [],_,ns,qs=>some (ns,qs)
 |(_,0)::_,_,_,_=>none
 |(f,j+1)::r,ps,ns,qs=>match ps[j]? with
  |some p=>Nq r ps (putN f ns) (Ce f p ns qs)
  |none=>none
def Hw(C:String)(n:Nat)(fl:List (Str×Nat))(ms:M (List PV)):M PV:=fun ρ=>(ms ρ).bind fun ps ρ1=>if ps.length+1=n∧ps.length<1000∧fl.length<1000 then(match Nq fl ps [] [] with
 |some (ns,qs)=>.ok (.xc C ns qs) ρ1
 |none=>.bad) else .bad
def Cm(C:String)(n:Nat)(fl:List (Str×Nat))(ms:M (List PV)):M Fl:=fun ρ=>(ms ρ).bind fun ps ρ1=>if ps.length+1=n∧ps.length<1000∧fl.length<1000 then(match Nq fl ps [] [] with
 |some (ns,qs)=>.exc ⟨C,ns,qs⟩ ρ1
 |none=>.bad) else .bad
section
variable{X:Cx}{cm:String→Addr}{E:L2.St→XK}{e:Expr}{es:List Expr}{pos p:Pos}{CX:jH}{k n:Nat}{f:Addr}{fd:FuncData}{ps:List Str}{C:String}{fl:List (Str×Nat)}{ms:M (List PV)}{x:Str}
def Cp(C:String):M PV:=fun ρ=>.ok (.xc C [] []) ρ
end
section
variable{M:Model}{A:Around}{E:Value→Shared→Prop}{s:Shared}{K:PySem.W.Frag}{env:Env}
end
section
variable{X:Cx}{cm:String→Addr}{E:L2.St→XK}{e:Expr}{es:List Expr}{pos cpos np:Pos}{CX:jH}{k n:Nat}{f:Addr}{fd:FuncData}{ps:List Str}{C:String}{fl:List (Str×Nat)}{ms:M (List PV)}{x:Str}
end
end P
namespace P
open PySem PySem.Spec PyProof.Rows L2 M2 M3 M4 Builtin Builtin.ObjectAttr
def aX(K:PySem.W.Frag)(C:Addr):Bool:=cU K C && PySem.W.findIn K (.ref C) "__class__" == some (some (.builtin "object.__class__")) && PySem.W.specialIn K (.builtin "object.__class__") "__get__" == some (some (.builtin "getset_descriptor.__get__")) && PySem.W.takesIn K (.builtin "object.__class__")== some true
theorem iZ{K:PySem.W.Frag}{C:Addr}(q:aX K C=true):cU K C=true∧PySem.W.findIn K (.ref C) "__class__" =some (some (.builtin "object.__class__"))∧PySem.W.specialIn K (.builtin "object.__class__") "__get__" =some (some (.builtin "getset_descriptor.__get__"))∧PySem.W.takesIn K (.builtin "object.__class__")=some true:=by
 unfold aX at q
 simp only[Bool.and_eq_true,beq_iff_eq] at q
 obtain⟨⟨⟨z1,z2⟩,z3⟩,z4⟩:=q
 exact⟨z1,z2,z3,z4⟩
section
variable{prog:Program}{w:World}{A:Around}{E:Value→Shared→Prop}{s:Shared}{K:PySem.W.Frag}{x C:Addr}{ox:Obj}{od:Option Obj}
theorem Cq{R:Result→Shared→Prop}{tk:Tok}(X:K.In s.heap)(I:PySem.W.InstAt s.heap x ox C od)(q:aX K C=true)
 (h:R (.ok (.ret (.ref C))) s):codeAny (model prog w) A (.call (.builtin "BaseException.__getattribute__") ⟨[.ref x,.str "__class__" tk],[]⟩) R s:=by
 obtain⟨q0,q1,q2,q3⟩:=iZ q
 obtain⟨cd,bm,c⟩:=lU q0
 have hk:builtinKind "BaseException.__getattribute__" =some .slot:=by decide +kernel
 have hsplit:splitId "BaseException.__getattribute__" =some ("BaseException","__getattribute__"):=by decide +kernel
 have L0:=I.type (M:=model prog w)
 have hf:PySem.W.findObj K C od "__class__" =some (.bind (.builtin "getset_descriptor.__get__") (.builtin "object.__class__")):=by
  unfold PySem.W.findObj
  rw[c.cls,Option.bind_some,q1,Option.bind_some]
  simp[q2,q3]
 have L3:=PySem.W.looks_find (M:=model prog w) X I hf
 have hsub:PySem.W.Looks (model prog w) s.heap (isInstance (.ref x) (.type "BaseException")) true:=L0.andThen (PySem.W.looks_mroIn X (c.mroIs (by decide)))
 refine codeAny_call_builtin PySem.F.attrBase_ValueError.ga.plain PySem.F.entry_bexc_ga (@PySem.W.check_slot (model prog w) _ _ s "BaseException.__getattribute__" "BaseException" "__getattribute__" (.ref x) [.str "__class__" tk] [] _ hk hsplit hsub (PySem.F.args_bexc_ga (.ref x) (.str "__class__" tk)) ?_)
 unfold Builtin.«object.__getattribute__»
 refine wpAny_bind (wpAny_pure (wpAny_bind (wpAny_pure (wpAny_bind (L0.here (wpAny_bind (L3.here ?_)))))))
 refine wpAny_bind (wpAny_holding (wpAny_call (PySem.W.class_get X I (c.mroIs (by decide)) ?_)))
 exact wpAny_pure h
theorem wY{Q:Option Value→Shared→Prop}(X:K.In s.heap)(I:PySem.W.InstAt s.heap x ox C od)(q:aX K C=true)
 (h:Q (some (.ref C)) {s with toks:=s.toks+1}):wpAny (model prog w) A (getAttr? (.ref x) "__class__") Q E s:=by
 obtain⟨q0,q1,q2,q3⟩:=iZ q
 obtain⟨cd,bm,c⟩:=lU q0
 have FB:=PySem.F.attrBase_ValueError
 obtain⟨hp,g,d,t,os⟩:=s
 have L0:=I.type (M:=model prog w)
 have L1:=PySem.W.looks_findIn (M:=model prog w) X c.ga
 have L2:=PySem.W.looks_findIn (M:=model prog w) X c.gg
 unfold getAttr? getAttrBy? getAttrBy
 refine wpAny_bind (wpAny_mkText (wpAny_bind (wpAny_attempt (wpAny_holding (wpAny_bind (L0.at (wpAny_bind (L1.at ?_))))))))
 show wpAny _ _ (getAttrByItsOwn _ _ _ _ _ _) _ _ _
 have f3:=FB.ga.bind (.ref x)
 unfold getAttrByItsOwn hookBefore callGetattribute
 refine wpAny_bind (L2.at ?_)
 refine wpAny_bind (wpAny_attempt (wpAny_holding ?_))
 rw[if_neg (by decide)]
 unfold boundAndCalled
 rw[f3]
 refine wpAny_bind (wpAny_pure (wpAny_call ?_))
 exact Cq (s:=⟨hp,g,d,t+1,os⟩) X I q (show wpAny _ _ (handedOut (.ref C)) _ _ _ by rw[PySem.W.handedOut_of rfl];exact wpAny_pure (wpAny_pure h))
end
theorem wZ{K:PySem.W.Frag}{x D:Addr}(q:aX K D=true):PySem.W.KitX K (.ref x) (.ref D) (fun h=>∃ox od,PySem.W.InstAt h x ox D od):=by
 obtain⟨q0,q1,q2,q3⟩:=iZ q
 obtain⟨cd,bm,c⟩:=lU q0
 obtain⟨dd,k0,k1,k2,k3,k5,lC⟩:=c.at_
 refine⟨fun _ _ _ ⟨ox,od,I⟩=>I.type,fun _ _ X _=>?_,fun h tp dd its n sl X htp=>?_,fun X ⟨ox,od,I⟩ k=>wY X I q k⟩
 ·intro A' Q' E' s' k q
  unfold isType loadHead
  exact wpAny_bind (wpAny_loadPart (k _ _ (X _ _ lC)) (wpAny_pure q))
 ·refine Bool.eq_false_iff.mpr fun q=>?_
  have e:D=tp:=Value.ref.inj (beq_iff_eq.mp q)
  subst e
  have z:=congrArg Obj.cls (Option.some.inj ((X _ _ lC).symm.trans htp))
  exact absurd (Value.type.inj z) (by decide)
section
variable{X:Cx}{cm:String→Addr}{K:KK}
def Dv(K:PySem.W.Frag):List V→Hp→VK→Prop:=fun xs H Q=>rQ K xs H Q∨∃a C d fs c cv b,xs=[.ref a,c]∧RelV c cv∧(∀u,RelV c u→u=cv)∧H a=some (xo a C d)∧jT H d fs∧aX K C=true∧PySem.W.kitOne K (.ref C) cv=some b∧Q (.bl b) H
theorem aL:Ő X (.builtin "isinstance") (Dv X.K):=by
 intro pins s σ H xs us Q I r h
 rcases h with h|⟨a,C,d,fs,c,cv,b,rfl,rc,uq,ha,hD,q,hk,hQ⟩
 ·exact Hl pins s σ H xs us Q I r h
 ·obtain⟨u,w',rfl,r1,r2⟩:=vals2 r
  cases(show u=Value.ref a from r1)
  rw[uq w' r2]
  obtain⟨⟨o,ws,ho,hcl,hdi,hda⟩,_,_⟩:=(show ũ X.prog X.w H s.heap a (xo a C d) from I.hok a _ ha)
  obtain⟨ocls,odict,odata,osl⟩:=o
  dsimp only at hcl hdi hda
  subst hcl hdi hda
  have J:∃ox od,PySem.W.InstAt s.heap a ox C od:=by
   rcases hD with⟨rfl,_⟩|⟨d0,rfl,z⟩
   ·exact⟨_,none,ho,rfl,rfl,trivial⟩
   ·obtain⟨od,z'⟩:=nO (I.hok d0 _ z)
    exact⟨_,some od,ho,rfl,rfl,z'⟩
  exact PySem.W.kia_one (wZ q) I.jz J hk (fun z=>nomatch z) fun tk=>⟨.bl b,H,I.tok _,rfl,hQ⟩
def lV(Q:String→String→Bool→Prop):List ((String×String)×Bool)→Prop
 | []=>True
 |((c,d),b)::r=>Q c d b∧lV Q r
theorem lV.get{Q:String→String→Bool→Prop}:∀{t:List ((String×String)×Bool)} {c d:String} {b:Bool},lV Q t→t.lookup (c,d)=some b→Q c d b
 | [],_,_,_,_,h=>by simp at h
 |((c',d'),b')::r,c,d,b,⟨h1,h2⟩,h=>by
  rw[List.lookup_cons] at h
  cases e:(c,d)== (c',d') with
  |true=>
   rw[e] at h
   cases h
   obtain⟨rfl,rfl⟩:=Prod.mk.inj (beq_iff_eq.mp e)
   exact h1
  |false=>
   rw[e] at h
   exact h2.get h
def aG(tc tt:List ((String×String)×Bool))(ds nt:List String):List PV→Option PV
 | [.xc C _ _,.cls D]=>(tc.lookup (C,D)).map .bl
 | [.xc C _ _,.ty D]=>(tt.lookup (C,D)).map .bl
 | [.non,.cls D]=>if ds.contains D=true then some (.bl false) else none
 | [.non,.ty D]=>if nt.contains D=true then some (.bl false) else wL [.non,.ty D]
 |ps=>wL ps
theorem aM{tc tt:List ((String×String)×Bool)}{ds nt:List String}(hc:lV (fun C D b=>aX K.K (K.cm C)=true∧PySem.W.kitOne K.K (.ref (K.cm C)) (.ref (K.cm D))=some b) tc)
 (ht:lV (fun C D b=>aX K.K (K.cm C)=true∧PySem.W.kitOne K.K (.ref (K.cm C)) (.type D)=some b) tt)(hd:lR (fun D=>PySem.W.kitOne K.K (.type "NoneType") (.ref (K.cm D))=some false) ds)
 (hn:lR (fun D=>PySem.W.kitOne K.K (.type "NoneType") (.type D)=some false) nt):bJ K (Dv K.K) (aG tc tt ds nt):=by
 intro c F H σ ρ ps pv vs Q rel r e k
 unfold aG at e
 split at e
 ·rename_i C ns qs D
  obtain⟨v,u,rfl,r1,r2⟩:=Du r
  cases eb:tc.lookup (C,D) with
  |none=>rw[eb] at e;cases e
  |some b=>
   rw[eb] at e
   cases e
   obtain⟨k1,k2⟩:=hc.get eb
   have r1':Rep K F (.xc C ns qs) v:=by rcases r1 with q|q;exact q;exact q.elim
   have r2':Rep K F (.cls D) u:=by rcases r2 with q|q;exact q;exact q.elim
   unfold Rep at r1' r2'
   obtain⟨a,d,fs,rfl,q2,q3,q4,q5⟩:=r1'
   subst r2'
   exact .inr ⟨a,_,d,fs,_,.ref (K.cm D),b,rfl,rfl,fun u z=>z,rel.sub _ _ q2,q3.same rel.sub,k1,k2,k _ F H rel (Same.refl _) (Same.refl _) Rep.bl⟩
 ·rename_i C ns qs D
  obtain⟨v,u,rfl,r1,r2⟩:=Du r
  cases eb:tt.lookup (C,D) with
  |none=>rw[eb] at e;cases e
  |some b=>
   rw[eb] at e
   cases e
   obtain⟨k1,k2⟩:=ht.get eb
   have r1':Rep K F (.xc C ns qs) v:=by rcases r1 with q|q;exact q;exact q.elim
   have r2':Rep K F (.ty D) u:=by rcases r2 with q|q;exact q;exact q.elim
   unfold Rep at r1' r2'
   obtain⟨a,d,fs,rfl,q2,q3,q4,q5⟩:=r1'
   subst r2'
   exact .inr ⟨a,_,d,fs,_,.type D,b,rfl,rfl,fun u z=>z,rel.sub _ _ q2,q3.same rel.sub,k1,k2,k _ F H rel (Same.refl _) (Same.refl _) Rep.bl⟩
 ·rename_i D
  obtain⟨v,u,rfl,r1,r2⟩:=Du r
  split at e
  ·rename_i hD
   cases e
   cases r1.non
   have r2':Rep K F (.cls D) u:=by rcases r2 with q|q;exact q;exact q.elim
   unfold Rep at r2'
   subst r2'
   exact .inl ⟨_,false,rfl,hd.get hD,k _ F H rel (Same.refl _) (Same.refl _) Rep.bl⟩
  ·cases e
 ·rename_i D
  split at e
  ·rename_i hD
   obtain⟨v,u,rfl,r1,r2⟩:=Du r
   cases e
   cases r1.non
   cases r2.ty
   exact .inl ⟨_,false,rfl,hn.get hD,k _ F H rel (Same.refl _) (Same.refl _) Rep.bl⟩
  ·exact .inl (wM rel r e k)
 ·exact .inl (wM rel r e k)
end
def isC(K:PySem.W.Frag)(cm:String→Addr):List ((String×String)×Bool)→Bool
 | []=>true
 |((c,d),b)::r=>aX K (cm c) && PySem.W.kitOne K (.ref (cm c)) (.ref (cm d))== some b && isC K cm r
theorem xg{K:PySem.W.Frag}{cm:String→Addr}:∀{t:List ((String×String)×Bool)},isC K cm t=true→lV (fun C D b=>aX K (cm C)=true∧PySem.W.kitOne K (.ref (cm C)) (.ref (cm D))=some b) t
 | [],_=>trivial
 |((c,d),b)::r,h=>by
  unfold isC at h
  rw[Bool.and_eq_true,Bool.and_eq_true] at h
  exact⟨⟨h.1.1,beq_iff_eq.mp h.1.2⟩,xg h.2⟩
def Ut(K:PySem.W.Frag)(cm:String→Addr):List ((String×String)×Bool)→Bool
 | []=>true
 |((c,d),b)::r=>aX K (cm c) && PySem.W.kitOne K (.ref (cm c)) (.type d)== some b && Ut K cm r
theorem xq{K:PySem.W.Frag}{cm:String→Addr}:∀{t:List ((String×String)×Bool)},Ut K cm t=true→lV (fun C D b=>aX K (cm C)=true∧PySem.W.kitOne K (.ref (cm C)) (.type D)=some b) t
 | [],_=>trivial
 |((c,d),b)::r,h=>by
  unfold Ut at h
  rw[Bool.and_eq_true,Bool.and_eq_true] at h
  exact⟨⟨h.1.1,beq_iff_eq.mp h.1.2⟩,xq h.2⟩
def isD(K:PySem.W.Frag)(cm:String→Addr):List String→Bool
 | []=>true
 |d::r=>PySem.W.kitOne K (.type "NoneType") (.ref (cm d))== some false && isD K cm r
theorem xr{K:PySem.W.Frag}{cm:String→Addr}:∀{t:List String},isD K cm t=true→lR (fun D=>PySem.W.kitOne K (.type "NoneType") (.ref (cm D))=some false) t
 | [],_=>trivial
 |d::r,h=>by
  unfold isD at h
  rw[Bool.and_eq_true] at h
  exact⟨beq_iff_eq.mp h.1,xr h.2⟩
def Cr(K:PySem.W.Frag):List String→Bool
 | []=>true
 |d::r=>PySem.W.kitOne K (.type "NoneType") (.type d)== some false && Cr K r
theorem sG{K:PySem.W.Frag}:∀{t:List String},Cr K t=true→lR (fun D=>PySem.W.kitOne K (.type "NoneType") (.type D)=some false) t
 | [],_=>trivial
 |d::r,h=>by
  unfold Cr at h
  rw[Bool.and_eq_true] at h
  exact⟨beq_iff_eq.mp h.1,sG h.2⟩
theorem uF{l:PySem.W.OpenLaw}{k:Nat}{x:Str}{m:MF}{q:Program}{loose:List Str}{XP:(Str→Option Value)→Heap→Prop}{YP:World→Heap→Prop}{d:DefRec}{K:Params→PySem.W.Frag}(hn:l.most=some 63)(hdf:d.params.defaults=[])(hr:bU k callerA)
 (hY:∀(w:World) (h:Heap),YP w h→(K w.params).In h)
 (F:∀(w:World) (mg:Str→Option Value) (fa:Addr) (h:Heap),(K w.params).In h→h.Ns mainGlobals mg→mg d.name=some (.ref fa)→
   ∃fd:FuncData,(∀(s:Shared) (u:Value),BindsTo s fd ⟨[u],[]⟩ [(x,u)])∧∀base:Heap,(K w.params).In base→base.Ns mainGlobals mg→∃cm,Œ l.prog w (K w.params) mg base (cg l.prog w) k fa fd [x] (cF ⟨K w.params,cm⟩ 1 m))
 (ht:∀ns:List Int,ns.length≤63→m [.sh (.lst (ns.map .int))]=.ret (.sh (.bl true))) :
 PySem.W.WalkO q loose XP YP l.row.toRowW d [] (fun f vs=>PySem.call f vs):=by
 refine L2.Bh (n:=63) (k:=k) (x:=x) (CX:=fun w=>cg l.prog w) (sp:=fun w=>Mw (K w.params)) hn (by decide) hdf hr hY (fun w mg fa h h1 h2 h3=>?_) (fun w H a ns hl _ hS=>⟨a,ns,rfl,hS,hl,fun _ _ z=>z⟩) fun w H s e s' z=>jY z
 obtain⟨fd,hb,hF⟩:=F w mg fa h h1 h2 h3
 refine⟨fd,hb,fun base k1 k2=>?_⟩
 obtain⟨cm,G⟩:=hF base k1 k2
 refine G.imp fun vs H Q E hs=>?_
 obtain⟨sa,ns,rfl,hS,hl,hq⟩:=hs
 refine⟨H,[.sh (.lst (ns.map .int))],rfl,Same.refl _,.cons ?_ .nil,?_⟩
 ·show Rep _ _ _ _
  unfold Rep
  exact⟨sa,_,rfl,hS,nM ns⟩
 ·rw[ht ns hl]
  intro v F' H' g rf
  have e:v=.bl true:=pN (K:=⟨K w.params,cm⟩) (F:=F') rf
  exact hq v H' e
section
variable{ρ:ł}{C:String}{n i:Nat}{fl:List (Str×Nat)}{ms:M (List PV)}{mb mh:M Fl}{mr:MH}{yes no:List String}{x:PX}
@[simp] theorem Nr:pZ C ρ=.exc ⟨C,[],[]⟩ ρ:= rfl
@[simp] theorem JZ:Cp C ρ=.ok (.xc C [] []) ρ:= rfl
@[simp] theorem Nt:Hw C n fl ms ρ=(ms ρ).bind fun ps ρ1=>if ps.length+1=n∧ps.length<1000∧fl.length<1000 then(match Nq fl ps [] [] with
  |some (ns,qs)=>.ok (.xc C ns qs) ρ1
  |none=>.bad) else .bad:=rfl
@[simp] theorem J_:Cm C n fl ms ρ=(ms ρ).bind fun ps ρ1=>if ps.length+1=n∧ps.length<1000∧fl.length<1000 then(match Nq fl ps [] [] with
  |some (ns,qs)=>.exc ⟨C,ns,qs⟩ ρ1
  |none=>.bad) else .bad:=rfl
@[simp] theorem YW:YT mb mr ρ=(match mb ρ with
  | .exc x ρ1=>mr x ρ1
  |r=>r):=rfl
@[simp] theorem YX:Ck i yes no mh mr x ρ=(if yes.contains x.C=true then(match mh (ρ.set i (.sh (.xc x.C x.ns x.ps))) with
  | .ok f ρ2=>.ok f (ρ2.set i .no)
  |_=>.bad) else if no.contains x.C=true then mr x ρ else .bad):=rfl
end
end P
namespace P
open PySem PySem.Spec PyProof.Rows L2 M2 M3 M4
section
variable{X:Cx}{cm:String→Addr}{E:L2.St→XK}{y:Str}{Dn:String}{yp hpos:Pos}{b₀:Stmt}{suite:List Stmt}{rest:List ExceptHandler}{yes no:List String}{mh:M Fl}{mr:MH}
@[simp] theorem YZ{ρ:ł}{x:PX}:Np yes no mh mr x ρ=(if yes.contains x.C=true then(match mh ρ with
  | .ok f ρ2=>.ok f ρ2
  |_=>.bad) else if no.contains x.C=true then mr x ρ else .bad):=rfl
end
end P
namespace P
open PySem PySem.Spec PyProof.Rows L2 M2 M3 M4
section
variable{X:Cx}{cm:String→Addr}{K:KK}
def Dw:List V→Hp→VK→Prop:=fun xs H Q=>(∃i,xs=[.int i]∧Q (.int i) H)∨∃k,xs=[.bl k]∧Q (.int (if k then 1 else 0)) H
theorem lW:Ő X (.type "int") Dw:=tZ
def nQ:List PV→Option PV
 | [.int i]=>some (.int i)
 | [.bl k]=>some (.int (if k then 1 else 0))
 |_=>none
theorem lX:bJ K Dw nQ:=by
 intro c F H σ ρ ps pv vs Q rel r e k
 unfold nQ at e
 split at e
 ·cases e
  obtain⟨v,rfl,r1⟩:=uy r
  cases r1.int
  exact .inl ⟨_,rfl,k _ F H rel (Same.refl _) (Same.refl _) Rep.int⟩
 ·cases e
  obtain⟨v,rfl,r1⟩:=uy r
  cases r1.bl
  exact .inr ⟨_,rfl,k _ F H rel (Same.refl _) (Same.refl _) Rep.int⟩
 ·cases e
def Y_:List PV→Option PV
 | [.int i]=>if i.natAbs.log2<1920 then some (.str (toString i)) else none
 |_=>none
def Z_:List PV→Option PV
 | [.str x]=>if x.length=1 then some (.int (x.cps.getD 0 0:Nat)) else none
 |_=>none
theorem Ű:∀{ns:List Int} {its:List Value},Vals (ns.map V.int) its→IntsAre its ns
 | [],its,h=>by cases h;exact .nil
 |n::ns,its,h=>by
  cases h with
  |cons r t=>
   obtain⟨k,e⟩:=(show ∃k,_=Value.int n k from r)
   subst e
   exact .cons n k (Ű t)
def Nu(K:PySem.W.Frag):List V→Hp→VK→Prop:=fun xs H Q=>∃(p:Addr) (ns:List Int),xs=[.ref p]∧ų K H p (ns.map V.int)∧Q (.int ns.sum) H
theorem fU(hc:X.calm=true):Ő X (.builtin "sum") (Nu X.K):=by
 intro pins s σ H xs us Q I r h
 obtain⟨p,ns,rfl,hS,q⟩:=h
 obtain⟨u,rfl,ru⟩:=vals1 r
 cases ru
 obtain⟨its,rv,pl,hz⟩:=I.list hS
 have hi:=Ű rv
 obtain⟨ys,e⟩:=hi.allInts.items
 have hns:ns=ys.toList.map (·.1):=by rw[←hi.numsOf,←nums_intItems,←e]
 have hl:=pl.isList
 rw[e] at hl
 refine sum_intListG (show X.A.handled=none from I.ok.hd hc) hl fun h' tk t' hk=>?_
 refine⟨.int ns.sum,H,I.kept hk,⟨t',?_⟩,q⟩
 rw[preSum_eq,List.take_of_length_le (by simp),←hns]
section
variable{prog:Program}{w:World}{A:Around}{E:Value→Shared→Prop}{s:Shared}{l:Addr}{xs:Array (Int×Tok)}
theorem nR{Q:Value→Shared→Prop}(hl:s.heap.IsTuple l (intItems xs))
 (h:∀s₂:Shared,s₂= {s with heap:=s.heap.push {cls:=.type "tuple_iterator",data:=.fields #[.ref l,.int 0 0]}}→
   (s₂.heap.IsTupleIter s.heap.objs.size l 0∧s₂.heap.IsTuple l (intItems xs))→(∀b∈[s.heap.objs.size,l],b<s₂.heap.objs.size)→l≠s.heap.objs.size→(∀h':Heap,(∀b o,b∉[s.heap.objs.size]→s₂.heap.get? b=some o→h'.get? b=some o)→∀b o,s.heap.get? b=some o→h'.get? b=some o)→Q (.ref s.heap.objs.size) s₂) :
 wpAny (model prog w) A (pyIter (.ref l)) Q E s:=by
 have hlt:l<s.heap.objs.size:=by obtain⟨_,e,_⟩:=hl;exact Heap.lt_size e
 refine wpAny_pyIter_tuple hl (h _ rfl ⟨⟨_,Heap.get?_push_size _ rfl,rfl,rfl⟩,hl.push _⟩ (fun b hb=>?_) (Nat.ne_of_lt hlt) fun h' hk b o e=>?_)
 ·show b<(s.heap.push _).objs.size
  rw[Heap.size_push]
  rcases List.mem_cons.mp hb with rfl|hb
  ·exact Nat.lt_succ_self _
  ·rcases List.mem_cons.mp hb with rfl|hb
   ·exact Nat.lt_succ_of_lt hlt
   ·cases hb
 ·refine hk b o (fun hm=>?_) (Heap.get?_push_of_some _ e)
  rcases List.mem_cons.mp hm with e1|hm
  ·exact absurd (e1▸Heap.lt_size e) (Nat.lt_irrefl _)
  ·cases hm
theorem qb{Q:Value→Shared→Prop}(hh:A.handled=none)(hl:s.heap.IsTuple l (intItems xs))(hne:0<xs.size)
 (h:∀v h' tk,(intItems xs)[argBest (fun i j=>decide (numAt xs i>numAt xs j)) (xs.size-1)]?=some v→(∀b o,s.heap.get? b=some o→h'.get? b=some o)→Q v {s with heap:=h',toks:=tk}) :
 wpAny (model prog w) A (call (.builtin "max") [.ref l]) Q E s:=by
 refine call_max_walk (nR hl fun s₂ e st hfp hlI hk0=>?_)
 subst e
 refine⟨_,_,_,_,_,_,_,rfl,Walks.tuple (A:=A.in1) hh _ l hlI (intItems xs),st,hfp,by simpa[intItems] using hne,CmpOf.ints_gt (numAt xs) (fun _ _=>intItems_at),fun v h' tk hP hk=>?_⟩
 exact h v h' tk (by simpa[intItems] using hP) (hk0 h' hk)
end
def Nv(K:PySem.W.Frag):List V→Hp→VK→Prop:=fun xs H Q=>∃(p:Addr) (ns:List Int),xs=[.ref p]∧(ų K H p (ns.map V.int)∨aZ K H p (ns.map V.int))∧0<ns.length∧∀M,M∈ns→(∀a∈ns,a≤M)→Q (.int M) H
theorem qd(hc:X.calm=true):Ő X (.builtin "max") (Nv X.K):=by
 intro pins s σ H xs us Q I r h
 obtain⟨p,ns,rfl,hS,hne,q⟩:=h
 obtain⟨u,rfl,ru⟩:=vals1 r
 cases ru
 have fin:∀(ys:Array (Int×Tok)),ns=ys.toList.map (·.1)→0<ys.size→∀v h' tk,(intItems ys)[argBest (fun i j=>decide (numAt ys i>numAt ys j)) (ys.size-1)]?=some v→(∀b o,s.heap.get? b=some o→h'.get? b=some o)→EP X pins σ Q v {s with heap:=h',toks:=tk}:=by
  intro ys hns hsz v h' tk hv hk
  obtain⟨t,rfl⟩:=intItems_at hv
  obtain⟨h1,h2⟩:=argBest_gt (numAt ys) (ys.size-1)
  refine⟨.int _,H,I.kept hk,⟨t,rfl⟩,q _ ?_ fun a ha=>?_⟩
  ·rw[hns,numAt_eq]
   have hj:argBest (fun i j=>decide (numAt ys i>numAt ys j)) (ys.size-1)<(ys.toList.map (·.1)).length:=by rw[List.length_map,Array.length_toList];omega
   rw[List.getD_eq_getElem?_getD,List.getElem?_eq_getElem hj]
   exact List.getElem_mem _
  ·rw[hns] at ha
   obtain⟨j,hj,rfl⟩:=List.mem_iff_getElem.mp ha
   rw[List.length_map,Array.length_toList] at hj
   have:=h2 j (by omega)
   rw[numAt_eq ys j,List.getD_eq_getElem?_getD,List.getElem?_eq_getElem (by rw[List.length_map,Array.length_toList];exact hj)] at this
   exact this
 rcases hS with hS|hS
 ·obtain⟨its,rv,pl,hz⟩:=I.list hS
  have hi:=Ű rv
  obtain⟨ys,e⟩:=hi.allInts.items
  have hns:ns=ys.toList.map (·.1):=by rw[←hi.numsOf,←nums_intItems,←e]
  have hl:=pl.isList
  rw[e] at hl
  have hsz:0<ys.size:=by rw[hns,List.length_map,Array.length_toList] at hne;exact hne
  exact max_intList (show X.A.handled=none from I.ok.hd hc) hl hsz (fin ys hns hsz)
 ·obtain⟨its,rv,pl,hz⟩:=I.tuple hS
  have hi:=Ű rv
  obtain⟨ys,e⟩:=hi.allInts.items
  have hns:ns=ys.toList.map (·.1):=by rw[←hi.numsOf,←nums_intItems,←e]
  have hl:s.heap.IsTuple p its.toArray:=pl
  rw[e] at hl
  have hsz:0<ys.size:=by rw[hns,List.length_map,Array.length_toList] at hne;exact hne
  exact qb (show X.A.handled=none from I.ok.hd hc) hl hsz (fin ys hns hsz)
def Nx(K:PySem.W.Frag):List V→Hp→VK→Prop:=fun xs H Q=>∃(p:Addr) (ns:List Int),xs=[.ref p]∧ų K H p (ns.map V.int)∧0<ns.length∧∀M,M∈ns→(∀a∈ns,M≤a)→Q (.int M) H
theorem xu(hc:X.calm=true):Ő X (.builtin "min") (Nx X.K):=by
 intro pins s σ H xs us Q I r h
 obtain⟨p,ns,rfl,hS,hne,q⟩:=h
 obtain⟨u,rfl,ru⟩:=vals1 r
 cases ru
 obtain⟨its,rv,pl,hz⟩:=I.list hS
 have hi:=Ű rv
 obtain⟨ys,e⟩:=hi.allInts.items
 have hns:ns=ys.toList.map (·.1):=by rw[←hi.numsOf,←nums_intItems,←e]
 have hl:=pl.isList
 rw[e] at hl
 have hsz:0<ys.size:=by rw[hns,List.length_map,Array.length_toList] at hne;exact hne
 refine min_intList (show X.A.handled=none from I.ok.hd hc) hl hsz fun v h' tk hv hk=>?_
 obtain⟨t,rfl⟩:=intItems_at hv
 obtain⟨h1,h2⟩:=argBest_lt (numAt ys) (ys.size-1)
 refine⟨.int _,H,I.kept hk,⟨t,rfl⟩,q _ ?_ fun a ha=>?_⟩
 ·rw[hns,numAt_eq]
  have hj:argBest (fun i j=>decide (numAt ys i<numAt ys j)) (ys.size-1)<(ys.toList.map (·.1)).length:=by rw[List.length_map,Array.length_toList];omega
  rw[List.getD_eq_getElem?_getD,List.getElem?_eq_getElem hj]
  exact List.getElem_mem _
 ·rw[hns] at ha
  obtain⟨j,hj,rfl⟩:=List.mem_iff_getElem.mp ha
  rw[List.length_map,Array.length_toList] at hj
  have:=h2 j (by omega)
  rw[numAt_eq ys j,List.getD_eq_getElem?_getD,List.getElem?_eq_getElem (by rw[List.length_map,Array.length_toList];exact hj)] at this
  exact this
def intsOf:List PV→Option (List Int)
 | []=>some []
 | .int b::ps=>(intsOf ps).map (b:: ·)
 |_::_=>none
@[simp] theorem Ů:∀ns:List Int,intsOf (ns.map PV.int)=some ns
  | []=>rfl
  |n::ns=>by rw[List.map_cons,intsOf,Ů ns];rfl
theorem ints_rep{F:Hp}:∀{ps:List PV} {vs:List V} {bs:List Int},ĕ K F ps vs→intsOf ps=some bs→vs=bs.map V.int
 | [],vs,bs,r,h=>by
   cases h
   cases r.pr
   rfl
 |p::ps,vs,bs,r,h=>by
  cases r.pr with
  |cons r1 t=>
   cases p with
   |int b=>
    unfold intsOf at h
    obtain⟨cs,e,rfl⟩:=Option.map_eq_some_iff.mp h
    rw[ints_rep (ĕ.of t) e,show _=V.int b from r1]
    rfl
   |_=>cases h
def best(f:Int→Int→Int):List Int→Option Int
 | []=>none
 |n::ns=>some (ns.foldl f n)
theorem foldl_max:∀(ns:List Int) (n:Int),ns.foldl max n∈n::ns∧∀a∈n::ns,a≤ns.foldl max n
 | [],n=>by simp
 |m::ns,n=>by
  obtain⟨h1,h2⟩:=foldl_max ns (max n m)
  rw[List.foldl_cons]
  refine⟨?_,fun a ha=>?_⟩
  ·rcases List.mem_cons.mp h1 with e|e
   ·rw[e]
    by_cases h:n≤m
    ·rw[Int.max_eq_right h];simp
    ·rw[Int.max_eq_left (by omega)];simp
   ·simp[e]
  ·have hm:=h2 (max n m) List.mem_cons_self
   rcases List.mem_cons.mp ha with rfl|ha
   ·omega
   ·rcases List.mem_cons.mp ha with rfl|ha
    ·omega
    ·exact h2 a (List.mem_cons_of_mem _ ha)
theorem foldl_min:∀(ns:List Int) (n:Int),ns.foldl min n∈n::ns∧∀a∈n::ns,ns.foldl min n≤a
 | [],n=>by simp
 |m::ns,n=>by
  obtain⟨h1,h2⟩:=foldl_min ns (min n m)
  rw[List.foldl_cons]
  refine⟨?_,fun a ha=>?_⟩
  ·rcases List.mem_cons.mp h1 with e|e
   ·rw[e]
    by_cases h:n≤m
    ·rw[Int.min_eq_left h];simp
    ·rw[Int.min_eq_right (by omega)];simp
   ·simp[e]
  ·have hm:=h2 (min n m) List.mem_cons_self
   rcases List.mem_cons.mp ha with rfl|ha
   ·omega
   ·rcases List.mem_cons.mp ha with rfl|ha
    ·omega
    ·exact h2 a (List.mem_cons_of_mem _ ha)
def dY:List PV→Option PV
 | [.lst ps]=>(intsOf ps).map fun ns=>.int ns.sum
 |_=>none
def gC:List PV→Option PV
 | [.lst ps]=>((intsOf ps).bind (best max)).map .int
 | [.tup ps]=>((intsOf ps).bind (best max)).map .int
 |_=>none
def jZ:List PV→Option PV
 | [.lst ps]=>((intsOf ps).bind (best min)).map .int
 |_=>none
theorem fV:bJ K (Nu K.K) dY:=by
 intro c F H σ ρ ps pv vs Q rel r e k
 unfold dY at e
 split at e
 ·rename_i ps
  obtain⟨v,rfl,r1⟩:=uy r
  obtain⟨a,xs,rfl,h1,h2⟩:=r1.lst rel.sub
  obtain⟨ns,eb,rfl⟩:=Option.map_eq_some_iff.mp e
  exact⟨a,ns,rfl,by rw[←ints_rep h2 eb];exact h1,k _ F H rel (Same.refl _) (Same.refl _) Rep.int⟩
 ·cases e
theorem qe:bJ K (Nv K.K) gC:=by
 intro c F H σ ρ ps pv vs Q rel r e k
 have fin:∀(ps:List PV) (xs:List V),ĕ K F ps xs→((intsOf ps).bind (best max)).map PV.int=some pv→∃ns:List Int,xs=ns.map V.int∧0<ns.length∧∀M,M∈ns→(∀a∈ns,a≤M)→Q (.int M) H:=by
  intro ps xs h2 e
  obtain⟨m,em,rfl⟩:=Option.map_eq_some_iff.mp e
  obtain⟨ns,eb,hb⟩:=Option.bind_eq_some_iff.mp em
  cases ns with
  |nil=>cases hb
  |cons n ns=>
   cases hb
   obtain⟨z1,z2⟩:=foldl_max ns n
   refine⟨n::ns,ints_rep h2 eb,by simp,fun M m1 m2=>?_⟩
   have:M=ns.foldl max n:=Int.le_antisymm (z2 M m1) (m2 _ z1)
   rw[this]
   exact k _ F H rel (Same.refl _) (Same.refl _) Rep.int
 unfold gC at e
 split at e
 ·rename_i ps
  obtain⟨v,rfl,r1⟩:=uy r
  obtain⟨a,xs,rfl,h1,h2⟩:=r1.lst rel.sub
  obtain⟨ns,rfl,hl,hq⟩:=fin ps xs h2 e
  exact⟨a,ns,rfl,.inl h1,hl,hq⟩
 ·rename_i ps
  obtain⟨v,rfl,r1⟩:=uy r
  obtain⟨a,xs,rfl,h1,h2⟩:=r1.tup rel.sub
  obtain⟨ns,rfl,hl,hq⟩:=fin ps xs h2 e
  exact⟨a,ns,rfl,.inr h1,hl,hq⟩
 ·cases e
theorem xG:bJ K (Nx K.K) jZ:=by
 intro c F H σ ρ ps pv vs Q rel r e k
 unfold jZ at e
 split at e
 ·rename_i ps
  obtain⟨v,rfl,r1⟩:=uy r
  obtain⟨a,xs,rfl,h1,h2⟩:=r1.lst rel.sub
  obtain⟨m,em,rfl⟩:=Option.map_eq_some_iff.mp e
  obtain⟨ns,eb,hb⟩:=Option.bind_eq_some_iff.mp em
  cases ns with
  |nil=>cases hb
  |cons n ns=>
   cases hb
   obtain⟨z1,z2⟩:=foldl_min ns n
   refine⟨a,n::ns,rfl,by rw[←ints_rep h2 eb];exact h1,by simp,fun M m1 m2=>?_⟩
   have:M=ns.foldl min n:=Int.le_antisymm (m2 _ z1) (z2 M m1)
   rw[this]
   exact k _ F H rel (Same.refl _) (Same.refl _) Rep.int
 ·cases e
@[simp] theorem Uu{i:Int}:nQ [.int i]=some (.int i):=rfl
@[simp] theorem Uv{b:Bool}:nQ [.bl b]=some (.int (if b then 1 else 0)):=rfl
@[simp] theorem Uw{i:Int}:Y_ [.int i]=if i.natAbs.log2<1920 then some (.str (toString i)) else none:=rfl
@[simp] theorem Ux{x:Str}:Z_ [.str x]=if x.length=1 then some (.int (x.cps.getD 0 0:Nat)) else none:=rfl
@[simp] theorem ś{ps:List PV}:dY [.lst ps]=(intsOf ps).map fun ns=>.int ns.sum:=rfl
@[simp] theorem sI{ps:List PV}:gC [.lst ps]=((intsOf ps).bind (best max)).map .int:=rfl
@[simp] theorem Cu{ps:List PV}:jZ [.lst ps]=((intsOf ps).bind (best min)).map .int:=rfl
@[simp] theorem Uy{f:Int→Int→Int}{n:Int}{ns:List Int}:best f (n::ns)=some (ns.foldl f n):=rfl
end
end P
namespace P
open PySem PySem.Spec PyProof.Rows L2 M2 M3 M4
section
variable{ρ:ł}{i n k:Nat}{C:String}{cs:List String}{f m:Str}{mv mo:M PV}{mi:MI}{ms:M (List Slot)}{mb:M Fl}{oZ:List (String×MF)}{as:List Slot}{ns:List Str}{ps:List PV}
@[simp] theorem Uz:Nh i cs f mv ρ=(mv ρ).bind fun p ρ1=>match ρ1[i]? with
  |some (.rc C ns ps)=>if cs.contains C=true∧ns.length<1000 then .ok .nx (ρ1.set i (.rc C (putN f ns) (Ce f p ns ps))) else .bad
  |_=>.bad:=rfl
@[simp] theorem UG:Ni n k C mb as=if as.length+1=n then IR.of (mb (.rc C [] []::startP (k-1) as)) else .bad:=rfl
@[simp] theorem Zaa{C:String}:IR.of (.ok .nx (.rc C ns ps::ρ))=.ok ns ps:=rfl
@[simp] theorem UJ:Nj C mi ms ρ=(ms ρ).bind fun as ρ1=>match mi as with
  | .ok ns ps=>.ok (.ins C ns ps) ρ1
  | .exc x=>.exc x ρ1
  | .bad=>.bad:=rfl
@[simp] theorem Zab:YM cs f (.ins C ns ps)=if cs.contains C=true then(ns.zip ps).lookup f else none:=rfl
@[simp] theorem UL:Ng m oZ mo ms ρ=(mo ρ).bind fun p ρ1=>match p with
  | .ins C ns ps=>match oZ.lookup C with
    |some mf=>if ns.contains m=true then .bad else(ms ρ1).bind fun as ρ2=>match mf (.sh (.ins C ns ps)::as) with
     | .ret r=>.ok r ρ2
     | .exc x=>.exc x ρ2
     | .bad=>.bad
    |none=>.bad
  |_=>.bad:=rfl
end
end P
namespace M3
open PySem PySem.Spec PyProof.Rows L2 M2
section
variable{X:Cx}{elt tg iter:Expr}{ifs:List Expr}{scope:Scope}{pos:Pos}{wi:TI}{g:TG}{tt:TT}{te:TE}
theorem Cv{iv:Nat}{y:Str}{py spos:Pos}(hN:X.N.Nodup)(hiN:X.N[iv]?=some y)(hy:X.env.scope.names.lookup y=some .local)(hsw:swapsWith (.ListComp elt [⟨tg,iter,ifs,0⟩] scope pos) (some (.Name y py)) spos.line X.env=pure true)(N':List Str)(js:List Nat)(nl:Nat)(sc:Scope)(hsc:X.env.scope=sc)(hcalm:X.calm=true)
 (hi:PI X.Ţ tg iter wi)(hg:∀cl C s H fp,PG (cX X.Ţ N' scope cl C s H fp) tg g)(ht:∀cl C s H fp,Dh (cX X.Ţ N' scope cl C s H fp) ifs tt)(he:∀cl C s H fp,PE (cX X.Ţ N' scope cl C s H fp) elt te)
 (hcap:iI X.Ţ sc scope N' js)(hlen:js.length+nl=N'.length:=by rfl)
 (hk:scope.kind=.function:=by rfl)(hcell:∀y∈scope.names,y.2=.cell→scope.names.lookup y.1=some .cell:=by decide +kernel)(hnames:∀y∈scope.names,y.2=.local→scope.names.lookup y.1=some .local:=by decide +kernel)
 (hfree:∀y∈scope.names,y.2=.free→(sc.names.lookup y.1=some .cell∨sc.names.lookup y.1=some .free):=by decide +kernel)
 (hs:∀x,foldedSetIterable iter X.env x=pure x:=by intro _;rfl) :
 PS X.Ţ (.Assign [.Name y py] (.ListComp elt [⟨tg,iter,ifs,0⟩] scope pos) spos) (fun D σ H=>vL js nl wi g tt te σ H fun v H'=>D.nx (σ.set iv (some v)) H'):=by
 intro pins s σ H D I h
 obtain⟨Lk,c1,c2,c3⟩:=eV (scope:=scope) (env:=X.Ţ.env) fun y hy hf=>I.ok.has y.1 (by
  have:=hfree y hy hf
  rw[←hsc] at this
  exact this)
 rw[exec_Assign_Name_used _ _ _ _ (show swapsWith _ _ _ X.Ţ.env=pure true from hsw)]
 refine wpAny_bind (wpAny_standAt (wpAny_bind ?_))
 show wpAny _ X.A (do let _ ←comprehension (.ListComp elt [⟨tg,iter,ifs,0⟩] scope pos) scope X.Ţ.env _ (newList []) false (eval iter X.Ţ.env) (some (assign (.Name y py) X.Ţ.env))) _ _ s
 refine wpAny_bind (wpAny_mono (wpAny_comprehension_free (Q:=fun _ s'=>SP X.Ţ pins D .next s') (use:=some (assign (.Name y py) X.Ţ.env)) rfl hs c1 hk hnames (Ť (hi pins s σ H _ I h) fun v s1 h1=>Ť h1 fun itv s2 h2=>?_)) (fun _ s' hq=>wpAny_pure (wpAny_pure hq)) fun _ _ e=>e)
 obtain⟨it,fp,tn,J,H2,e,I2,T,st2,f2,q2⟩:=h2
 subst e
 refine wpAny_newObj_type (dF (fun h₁ hns₁ old GC=>?_))
 dsimp only at hns₁ old GC ⊢
 generalize GD:s2.heap.push {cls:=.type "list",dict:=none,data:=.seq ([]:List Value).toArray}=aK at hns₁ old GC ⊢
 have hD:H2 s2.heap.objs.size=none:=I2.hok.fresh (Nat.le_refl _)
 have I3:Inv X.Ţ pins σ (upd H2 s2.heap.objs.size (.lst [])) {s2 with heap:=aK}:=by
  rw[←GD]
  exact I2.laid (t':=s2.toks) (fun b u e=>Heap.get?_push_of_some _ e) (Nat.le_refl _) ⟨Nat.zero_le _,[],0,.nil,Heap.get?_push_size _ rfl⟩
 have vO:∀b∈fp,b<s2.heap.objs.size:=fun b hb=>by
  obtain⟨o,ho,_⟩:=T.obj 0 _ st2 b hb
  exact Heap.lt_size ho
 have GF:aK.objs.size=s2.heap.objs.size+1:=by rw[←GD,Heap.size_push]
 have f3:∀b∈fp,cH X.Ţ pins (upd H2 s2.heap.objs.size (.lst [])) b:=fun b hb=>by
  obtain⟨g0,g1⟩:=f2 b hb
  exact⟨by rw[Ĝ (Nat.ne_of_lt (vO b hb))];exact g0,g1⟩
 have B:=vM (X:=X.Ţ) (cl:=Lk) hcell c2 c3 (fun x c e=>by
  obtain⟨v,o,ho,_⟩:=I3.cell x c e
  exact Heap.lt_size ho) GC
 generalize cellsFrom (aK.objs.size+1) scope.names Lk=cl at B ⊢
 obtain⟨W,⟨m0,w0⟩,turn⟩:=q2 s2.heap.objs.size hD
 have I4:=jR (X:=X.Ţ) (N':=N') (js:=js) (nl:=nl) (sc:=sc) (scope:=scope) (cl:=cl) (fp:=fp) (h':=h₁) (tk:=s2.toks) hsc hk hcap hlen B I3 f3 (fun b hb=>by show b<aK.objs.size;rw[GF];exact Nat.lt_succ_of_lt (vO b hb)) hns₁ old
 have Lp:tn 0 h₁:= T.keep 0 _ _ st2 fun b hb o e=>old b o (by rw[←GD];exact Heap.get?_push_of_some _ e)
 have WR:∀b∈fp,(upd H2 s2.heap.objs.size (.lst [])) b=none:=fun b hb=>(f3 b hb).1
 have stat:∀{H':Hp},(∀b∈fp,H' b=none)→∀b∈fp,cH (cX X.Ţ N' scope cl aK.objs.size {s2 with heap:=aK} (upd H2 s2.heap.objs.size (.lst [])) fp) [] H' b:=fun{H'} hn b hb=>by
  obtain⟨g0,g1,g2,g3,g4,g5⟩:=f3 b hb
  refine⟨hn b hb,Nat.ne_of_lt (by show b<aK.objs.size;rw[GF];exact Nat.lt_succ_of_lt (vO b hb)),fun z=>?_,.inl hb,fun x c e=>by
   rcases B.at_ x c e with⟨q,_⟩|⟨q,_⟩
   ·exact g4 x c q
   ·exact Nat.ne_of_gt (Nat.lt_trans (by show b<aK.objs.size;rw[GF];exact Nat.lt_succ_of_lt (vO b hb)) q),fun p hp=>absurd hp (by simp[cX])⟩
  rcases List.mem_cons.mp (I3.iy b z) with z|z
  ·exact g1 z
  ·exact g2 z
 have loop:∀s₃:Shared,s₃= {s2 with heap:=h₁}→
  codeAny (model X.prog X.w) X.A (.compLoop (.ListComp elt [⟨tg,iter,ifs,0⟩] scope pos) 0 (.ref it) (.ref s2.heap.objs.size) (compEnvC scope cl aK.objs.size X.Ţ.env))
   (compPost (model X.prog X.w) X.A X.Ţ.xe (some (assign (.Name y py) X.Ţ.env)) (fun _ s'=>SP X.Ţ pins D .next s') (.ref s2.heap.objs.size) aK.objs.size) s₃:= by
  rintro s₃ rfl
  refine eX (fun n s'=>∃i σ' H',Inv (cX X.Ţ N' scope cl aK.objs.size {s2 with heap:=aK} (upd H2 s2.heap.objs.size (.lst [])) fp) [] σ' H' s'∧tn i s'.heap∧(∀b∈fp,H' b=none)∧W i n σ' H') ?_ m0 ⟨0,_,_,I4,Lp,WR,w0⟩
  rintro n s5 ⟨i,σ5,H5,I5,Ax,Fz,w5⟩
  rcases turn i n σ5 H5 w5 with⟨stop,qn⟩|⟨go,N,hN,step⟩
  ·refine Ť (T.done (cX X.Ţ N' scope cl aK.objs.size {s2 with heap:=aK} (upd H2 s2.heap.objs.size (.lst [])) fp) rfl rfl rfl hcalm i [] s5 σ5 H5 (fun _ _=>False) I5 (stat Fz) Ax stop) fun r s6 ⟨hr,I6⟩=>?_
   subst hr
   obtain⟨m,hm,_⟩:=I6.loc
   have I7:Inv X.Ţ pins σ H5 s6:=iJ (h':=s6.heap) I3 f3 I6 (fun b u hb e=>e)
   have hCL:aK.objs.size≠X.Ţ.env.locals:=Nat.ne_of_gt I3.lt
   have hcC:∀x c,X.Ţ.env.cells.lookup x=some c→c≠aK.objs.size:=fun x c e z=>by
    obtain⟨v,o,ho,_⟩:=I3.cell x c e
    exact absurd (Heap.lt_size ho) (by rw[z];exact Nat.lt_irrefl _)
   have hpC:∀p∈X.Ţ.pn++pins,p.1≠aK.objs.size:=fun p hp z=>by
    have:=Heap.lt_size (I3.pin p hp).1
    rw[z] at this
    exact Nat.lt_irrefl _ this
   have hnC:H5 aK.objs.size=none:=I6.free
   refine wpAny_assign_Name (jF (X:=X.Ţ) (i:=iv) I7 hN hiN (.inl hy) (v:=.ref s2.heap.objs.size) rfl (fun s8 I8 ⟨a8,sb8,ha8⟩=>?_) (.inr hy))
   have ne8:aK.objs.size≠a8:=by
    rcases ha8 with rfl|ha8
    ·exact hCL
    ·exact fun z=>hcC _ _ ha8 z.symm
   refine⟨m,hm.sameBut sb8 ne8,fun h' hs'=>⟨_,H5,?_,qn⟩⟩
   have kp:∀b o,b≠aK.objs.size→s8.heap.get? b=some o→h'.get? b=some o:=fun b o hb e=>hs'.extBut b o hb e
   have kp':∀b o,b∉[aK.objs.size]→s8.heap.get? b=some o→h'.get? b=some o:=fun b o hb e=>kp b o (fun z=>hb (by rw[z];exact List.mem_cons_self)) e
   refine I8.call' (ch:=[aK.objs.size]) (s':={s8 with heap:=h'}) rfl ⟨fun b o e _ _ hx=>kp' b o hx e,fun b o e _ _ hx=>⟨o.slots,kp' b o hx e⟩,fun b o _ n _=>n,fun b o e hx=>⟨o,kp' b o hx e⟩,fun _ _ q=>q,fun _ _ _ q=>q,fun _ ps q=>⟨#[],by rw[q];simp⟩⟩ (rm I8.hok hnC kp) I8.bare fun b hb=>?_
   cases List.mem_singleton.mp hb
   exact⟨.inr I3.sz,hCL,hcC,hpC⟩
  ·refine Ť (T.item (cX X.Ţ N' scope cl aK.objs.size {s2 with heap:=aK} (upd H2 s2.heap.objs.size (.lst [])) fp) rfl rfl rfl hcalm i [] s5 σ5 H5 (fun _ _=>False) I5 (stat Fz) Ax go) fun r s6 ⟨u,hr,h6⟩=>?_
   subst hr
   refine Ť h6 fun _ s7 ⟨x,H7,I7,r7,y7,GJ,WT⟩=>?_
   have WW:=I7.pinned (stat WT) (T.obj _ _ GJ)
   have again:∀{s8:Shared} {σ8:L2.St} {H8:Hp},Inv (cX X.Ţ N' scope cl aK.objs.size {s2 with heap:=aK} (upd H2 s2.heap.objs.size (.lst [])) fp) ([]++fK fp s7.heap) σ8 H8 s8→
    Inv (cX X.Ţ N' scope cl aK.objs.size {s2 with heap:=aK} (upd H2 s2.heap.objs.size (.lst [])) fp) [] σ8 H8 s8∧tn (i+1) s8.heap∧∀b∈fp,H8 b=none:=fun{s8 σ8 H8} I8=>by
    refine⟨I8.cI,T.keep _ _ _ GJ fun b hb o e=>(I8.pin (b,o) (List.mem_append_right _ (List.mem_append_right _ (Ź hb e)))).1,fun b hb=>?_⟩
    obtain⟨o,e,d⟩:=T.obj _ _ GJ b hb
    exact(I8.pin (b,o) (List.mem_append_right _ (List.mem_append_right _ (Ź hb e)))).2.1
   refine Ť (hg cl _ _ _ fp _ s7 σ5 H7 x u _ WW r7 (step x H7 y7)) fun _ s8 ⟨σ8,H8,I8,q8⟩=>?_
   refine Ť (ht cl _ _ _ fp _ s8 σ8 H8 _ I8 q8) fun c s9 ⟨H9,I9,q9⟩=>?_
   cases c with
   |false=>
    rw[if_neg Bool.false_ne_true] at q9 ⊢
    obtain⟨m',hm',w9⟩:=hN _ _ q9
    obtain⟨a1,a2,a3⟩:=again I9
    exact⟨m',hm',i+1,σ8,H9,a1,a2,a3,w9⟩
   |true=>
    rw[if_pos rfl] at q9 ⊢
    refine Ť (he cl _ _ _ fp _ s9 σ8 H9 _ I9 q9) fun yv WX ⟨y,WY,W_,r10,ys,e10,l10,w10⟩=>?_
    refine Ť (ź _ WX σ8 WY (.ref s2.heap.objs.size) [y] (.ref s2.heap.objs.size) [yv] (fun _ GK=>N σ8 GK) W_ rfl (.cons r10 .nil) ⟨_,ys,y,rfl,rfl,e10,l10,w10⟩) fun _ s11 ⟨v11,GK,Xa,_,w11⟩=>?_
    obtain⟨a1,a2,a3⟩:=again Xa
    obtain⟨m',hm',w11⟩:=hN _ _ w11
    exact⟨m',hm',i+1,σ8,GK,a1,a2,a3,w11⟩
 exact codeAny_compStart_list (loop _ rfl) (T.self _ 0 _ _ _ Lp (loop _ rfl))
end
end M3
namespace P
open PySem PySem.Spec PyProof.Rows L2 M2 M3 M4
section
variable{X:Cx}{cm:String→Addr}{E:L2.St→XK}{elt tg iter:Expr}{ifs:List Expr}{scope:Scope}{pos:Pos}{mi:M (List PV)}{g:Tg}{mt:M Bool}{me:M PV}
theorem PS.Ţ{st:Stmt}{t:TS}(h:PS X.Ţ st t):PS X st t:=fun pins s σ H D I hw=>
 wpAny_mono (h pins s σ H D (I.wish _) hw) (fun _ _ q=>q.bR) fun _ _ z=>False.elim z
theorem qg{i:Nat}{y:Str}{py spos:Pos}(hN:X.N.Nodup)(hi0:X.N[i]?=some y)(hy:X.env.scope.names.lookup y=some .local)(N':List Str)(js:List Nat)(nl:Nat)(sc:Scope)(hsc:X.env.scope=sc)(hcalm:X.calm=true)
 (hi:PI X.Ţ tg iter (tI (kk X cm) E mi))(hg:∀cl C s H fp,PG (cX X.Ţ N' scope cl C s H fp) tg (tT (kk X cm) g))(ht:∀cl C s H fp,Dh (cX X.Ţ N' scope cl C s H fp) ifs (tB (kk X cm) EF mt))(he:∀cl C s H fp,PE (cX X.Ţ N' scope cl C s H fp) elt (tV (kk X cm) EF me))
 (hcap:iI X.Ţ sc scope N' js)(hlen:js.length+nl=N'.length:=by rfl)
 (hk:scope.kind=.function:=by rfl)(hcell:∀y∈scope.names,y.2=.cell→scope.names.lookup y.1=some .cell:=by decide +kernel)(hnames:∀y∈scope.names,y.2=.local→scope.names.lookup y.1=some .local:=by decide +kernel)
 (hfree:∀y∈scope.names,y.2=.free→(sc.names.lookup y.1=some .cell∨sc.names.lookup y.1=some .free):=by decide +kernel)
 (hs:∀x,foldedSetIterable iter X.env x=pure x:=by intro _;rfl)(hsw:swapsWith (.ListComp elt [⟨tg,iter,ifs,0⟩] scope pos) (some (.Name y py)) spos.line X.env=pure true:=by rfl) :
 PS X (.Assign [.Name y py] (.ListComp elt [⟨tg,iter,ifs,0⟩] scope pos) spos) (tS (kk X cm) E (Į i (ţ js nl mi g mt me))):=
 PS.wk (PS.Ţ (Cv hN hi0 hy hsw N' js nl sc hsc hcalm hi hg ht he hcap hlen hk hcell hnames hfree hs)) fun D σ H ⟨c,F,ρ,rel,h⟩=>nG ⟨c,F,ρ,rel,Ŧ.bind h fun r ρ1 v F1 H1 ė s1 q h1=>by
   cases r with
   |sh p=>exact h1 _ F1 H1 (ė.put rfl ⟨v,rfl,q⟩) (Same.refl _)
   |ow ps=>
    obtain⟨a,vs,rfl,q1,q2,q3,q4,q5⟩:=q
    exact h1 _ F1 H1 (ė.Br ⟨a,vs,rfl,q1,q2,q3,q5⟩ rfl q4) (Same.refl _)
   |ot ps qs=>
    obtain⟨p,a,xs,vs,rfl,q0,qx,q1,q2,q3,q4,q5⟩:=q
    exact h1 _ F1 H1 (ė.Br (s:=.ot ps qs) ⟨p,a,xs,vs,rfl,q0,qx,q1,q2,q3,q5⟩ ⟨p,xs,rfl,q0⟩ q4) (Same.refl _)⟩
end
end P
namespace P
open PySem PySem.Spec PyProof.Rows L2 M2 M3 M4
def mBM(f:PV→List PV→Option PV)(mo:M PV)(ms:M (List PV)):M PV:=fun ρ=>(mo ρ).bind fun p ρ1=>match p with
 | .str _=>(ms ρ1).bind fun ps ρ2=>Res.gW (f p ps) ρ2
 |_=>.bad
@[simp] theorem ZbG{f:PV→List PV→Option PV}{mo:M PV}{ms:M (List PV)}{ρ:ł}:mBM f mo ms ρ=(mo ρ).bind fun p ρ1=>match p with
  | .str _=>(ms ρ1).bind fun ps ρ2=>Res.gW (f p ps) ρ2
  |_=>.bad:=rfl
section
variable{X:Cx}{cm:String→Addr}{K:KK}{E:L2.St→XK}{o e:Expr}{es:List Expr}{name:Str}{apos cpos:Pos}{id:String}{r:V→List V→Hp→VK→Prop}{f:PV→List PV→Option PV}{mo:M PV}{ms:M (List PV)}
end
end P
namespace P
open PySem PySem.Spec PyProof.Rows L2 M2 M3 M4
section
variable{X:Cx}{pins:List (Addr×Obj)}{σ:L2.St}{H:Hp}{s:Shared}{h':Heap}
theorem turns{t':Nat}{fp:List Addr}(I:Inv X pins σ H s)(k:∀b o,b∉fp→s.heap.get? b=some o→h'.get? b=some o)(hf:∀b∈fp,cH X pins H b):Inv X pins σ H {s with heap:=h',toks:=t'}:=by
 have Km:∀b u,H b=some u→b∉fp:=fun b u e z=>by rw[(hf b z).1] at e;cases e
 have hL:X.env.locals∉fp:=fun z=>(hf _ z).2.1 rfl
 refine I.step (g':=s.gens) (d':=s.drawn) (ch:=fp) (fun b hb=>?_) (fun b o _ _ hc e _=>k b o hc e) (fun b o _ _ hc e _=>⟨o.slots,k b o hc e⟩) (fun _ _ _ _ n=>n)
  (fun b o hc e=>⟨o,k b o hc e⟩) (fun _ _ e=>e) (fun _ _ _ e=>e) (fun b ps e=>⟨#[],by rw[e];simp⟩) (fun m hm=>?_) (fun b u e=>?_) I.bare
 ·obtain⟨f0,f1,f2,f3,f4,f5⟩:=hf b hb
  exact⟨f3,f1,f4,f5⟩
 ·obtain⟨o,es,ep,ho,r⟩:=hm
  exact⟨o,es,ep,k _ o hL ho,r⟩
 ·refine(I.hok b u e).stay (fun c v hc q=>k c v ?_ q) (fun _ q=>q) fun _ _ q=>q
  rcases hc with z|z
  ·rw[z];exact Km b u e
  ·exact Km c _ z
theorem Hx{a b:Addr}{o:HO}(f:cH X pins H b)(h:b≠a):cH X pins (upd H a o) b:=⟨by rw[Ĝ h];exact f.1,f.2⟩
theorem qj{t':Nat}{fp:List Addr}{u1 u2:Value}{x1 x2:V}(I:Inv X pins σ H s)(r1:RelV x1 u1)(r2:RelV x2 u2)(ht:∃o,h'.get? s.heap.objs.size=some o∧o= {cls:=.type "tuple",data:=.seq #[u1,u2]})
 (k:∀b o,b∉fp→s.heap.get? b=some o→h'.get? b=some o)(hf:∀b∈fp,cH X pins H b)(hlt:∀b∈fp,b<s.heap.objs.size) :
 Inv X pins σ (upd H s.heap.objs.size (.tup [x1,x2])) {s with heap:=h',toks:=t'}:=by
 have I1:Inv X pins σ (upd H s.heap.objs.size (.tup [x1,x2])) {s with heap:=s.heap.push {cls:=.type "tuple",data:=.seq #[u1,u2]},toks:=s.toks}:=
  I.laid (t':=s.toks) (fun b u e=>Heap.get?_push_of_some _ e) (Nat.le_refl _) ⟨by show 2≤sizeLine;decide,[u1,u2],.cons r1 (.cons r2 .nil),⟨_,Heap.get?_push_size _ rfl,rfl,_,rfl⟩⟩
 refine turns (fp:=fp) (s:={s with heap:=s.heap.push {cls:=.type "tuple",data:=.seq #[u1,u2]},toks:=s.toks}) (h':=h') (t':=t') I1 (fun b o hb e=>?_) fun b hb=>Hx (hf b hb) (Nat.ne_of_lt (hlt b hb))
 rcases Heap.get?_push_cases e with⟨rfl,rfl⟩|e
 ·obtain⟨o,h1,h2⟩:=ht
  rw[h1,h2]
 ·exact k b o hb e
end
section
variable{X:Cx}{elts:List Expr}{k:Nat}{tp:Pos}
end
def rLs(K:KK):RR (List PV) V:=fun c _ _ F H items v=>∃a,v=.ref a∧(∃xs,ų K.K H a xs)∧dz K c.L F (JT K.K a) items
def rTs(K:KK):RR (List PV) V:=fun c _ _ F H items v=>∃a,v=.ref a∧(∃xs,aZ K.K H a xs)∧dz K c.L F (Kz K.K a) items
def UW(K:KK):RR (List PV) V:=fun c σ ρ F H items v=>rLs K c σ ρ F H items v∨rTs K c σ ρ F H items v
theorem nT{K:KK}{L F:Hp}{ps:List PV}{v:V}(h:Rep K F (.lst ps) v):∃a,v=.ref a∧(∃xs,ų K.K F a xs)∧dz K L F (JT K.K a) ps:=by
 unfold Rep at h
 obtain⟨a,vs,rfl,e1,e2⟩:=h
 refine⟨a,rfl,⟨vs,e1⟩,?_⟩
 intro c' i F2 H2 σ2 ρ2 Ķ sF _
 have hq:ų K.K H2 a vs:=(sF.trans Ķ.sub).seq e1
 refine⟨fun p hp=>?_,fun hi=>⟨vs,hq,by rw[hi,e2.length];exact Nat.le_refl _⟩⟩
 obtain⟨u,hu,ru⟩:=bf e2.pr hp
 refine⟨⟨vs,u,hq,hu⟩,fun x H' ⟨hH,hx⟩=>?_⟩
 subst hH
 have:vs[i]?=some x:=hx vs hq
 rw[hu] at this
 cases this
 exact⟨F2,Ķ,Same.refl _,Same.refl _,Rep.same sF p u ru⟩
theorem xH{K:KK}{L F:Hp}{ps:List PV}{v:V}(h:Rep K F (.tup ps) v):∃a,v=.ref a∧(∃xs,aZ K.K F a xs)∧dz K L F (Kz K.K a) ps:=by
 unfold Rep at h
 obtain⟨a,vs,rfl,e1,e2⟩:=h
 refine⟨a,rfl,⟨vs,e1⟩,?_⟩
 intro c' i F2 H2 σ2 ρ2 Ķ sF _
 have hq:aZ K.K H2 a vs:=Same.tup (sF.trans Ķ.sub) e1
 refine⟨fun p hp=>?_,fun hi=>⟨vs,hq,by rw[hi,e2.length];exact Nat.le_refl _⟩⟩
 obtain⟨u,hu,ru⟩:=bf e2.pr hp
 refine⟨⟨vs,u,hq,hu⟩,fun x H' ⟨hH,hx⟩=>?_⟩
 subst hH
 have:vs[i]?=some x:=hx vs hq
 rw[hu] at this
 cases this
 exact⟨F2,Ķ,Same.refl _,Same.refl _,Rep.same sF p u ru⟩
theorem uG{K:KK}{c:Ctx}{F:Hp}{a:Addr}{vs:List V}{ps:List PV}(h2:c.L a=some (.lst vs))(h3:ĕ K F ps vs):dz K c.L F (JT K.K a) ps:=by
 intro c' j F2 H2 σ2 ρ2 Ķ sF sL
 have hq:ų K.K H2 a vs:=ų.of (sL a _ h2)
 refine⟨fun p hp=>?_,fun hi=>⟨vs,hq,by rw[hi,h3.length];exact Nat.le_refl _⟩⟩
 obtain⟨u,hu,ru⟩:=bf h3.pr hp
 refine⟨⟨vs,u,hq,hu⟩,fun x H' ⟨hH,hx⟩=>?_⟩
 subst hH
 have:vs[j]?=some x:=hx vs hq
 rw[hu] at this
 cases this
 exact⟨F2,Ķ,Same.refl _,Same.refl _,Rep.same sF p u ru⟩
theorem dz.mono{K:KK}{L F F1:Hp}{J:It}{ps:List PV}(h:dz K L F J ps)(s:Same F F1):dz K L F1 J ps:=fun c i F2 H σ ρ rel sF sL=>h c i F2 H σ ρ rel (s.trans sF) sL
def mLs(m:M PV):M (List PV):=fun ρ=>(m ρ).bind fun p ρ1=>match p with
 | .lst ps=>.ok ps ρ1
 |_=>.bad
def mSq(m:M PV):M (List PV):=fun ρ=>(m ρ).bind fun p ρ1=>match p with
 | .lst ps=>.ok ps ρ1
 | .tup ps=>.ok ps ρ1
 |_=>.bad
def Zac(i:Nat):M (List PV):=fun ρ=>match ρ[i]? with
 |some (.bw ps)=>.ok ps ρ
 |some (.sh (.lst ps))=>.ok ps ρ
 |some (.ow ps)=>.ok ps (ρ.set i (.sh (.lst ps)))
 |_=>.bad
def xJ(i:Nat):M (List PV):=fun ρ=>match ρ[i]? with
 |some (.bw ps)=>.ok ps ρ
 |some (.sh (.lst ps))=>.ok ps ρ
 |some (.sh (.tup ps))=>.ok ps ρ
 |some (.ow ps)=>.ok ps (ρ.set i (.sh (.lst ps)))
 |_=>.bad
section
variable{X:Cx}{cm:String→Addr}{E:L2.St→XK}{e:Expr}{m:M PV}
theorem Dy(i:Nat){x:Str}{px:Pos}(hN:X.N[i]?=some x:=by rfl)(hv:uY X.env.scope x:=by first|exact Or.inl rfl|exact Or.inr (Or.inl rfl)|exact Or.inr (Or.inr rfl))(hd:(x== ("__debug__" :Str))=false:=by decide)
 (hcd:(x== ("__classdict__" :Str))=false:=by decide):PE X (.Name x px) (tG (kk X cm) E (UW (kk X cm)) (xJ i)):=PE.wk (cG hN hv hd hcd) fun σ H Q ⟨c,F,ρ,rel,h⟩=>by
 unfold xJ at h
 cases e:ρ[i]? with
 |none=>rw[e] at h;exact h.elim
 |some sl=>
  rw[e] at h
  cases sl with
  |no=>exact h.elim
  |rc C ns ps=>exact h.elim
  |ot ps qs=>exact h.elim
  |ow ps=>
   obtain⟨a,vs,z1,z2,z3,z4⟩:=rel.share e
   obtain⟨a',e1,⟨xs,e2⟩,e3⟩:=nT (L:=c.L) z3
   cases e1
   exact⟨.ref a,z1,h _ _ H z4 (Same.upd z2) (Same.refl _) (.inl ⟨a,rfl,⟨xs,z4.sub.seq e2⟩,e3⟩)⟩
  |bw ps=>
   obtain⟨a,vs,h1,h2,h3⟩:=rel.slot i _ e
   exact⟨.ref a,at_of h1,h _ F H rel (Same.refl _) (Same.refl _) (.inl ⟨a,rfl,⟨vs,ų.of (rel.lent a _ h2).1⟩,uG h2 h3⟩)⟩
  |sh p=>
   obtain⟨v,h1,h2⟩:=rel.slot i _ e
   cases p with
   |lst ps=>
    obtain⟨a,e1,⟨xs,e2⟩,e3⟩:=nT (L:=c.L) h2
    exact⟨v,at_of h1,h v F H rel (Same.refl _) (Same.refl _) (.inl ⟨a,e1,⟨xs,rel.sub.seq e2⟩,e3⟩)⟩
   |tup ps=>
    obtain⟨a,e1,⟨xs,e2⟩,e3⟩:=xH (L:=c.L) h2
    exact⟨v,at_of h1,h v F H rel (Same.refl _) (Same.refl _) (.inr ⟨a,e1,⟨xs,Same.tup rel.sub e2⟩,e3⟩)⟩
   |_=>exact h.elim
def xK:Nat→List PV→List PV
 |_,[]=>[]
 |k,p::ps=>.tup [.int k,p]::xK (k+1) ps
def Ny(m:M (List PV)):M (List PV):=fun ρ=>(m ρ).bind fun ps ρ1=>.ok (xK 0 ps) ρ1
theorem Cw{K:KK}{c:Ctx}{F H:Hp}{σ:L2.St}{ρ:ł}{T:Addr}{p q:PV}{x y:V}(rel:Rel K c F H σ ρ)(hT:H T=none)(r1:Rep K F p x)(r2:Rep K F q y):Rel K c (upd F T (.tup [x,y])) (upd H T (.tup [x,y])) σ ρ∧Rep K (upd F T (.tup [x,y])) (.tup [p,q]) (.ref T):=by
 have hF:=rel.sub.free hT
 refine⟨rel.alloc hT,?_⟩
 unfold Rep
 exact⟨T,[x,y],rfl,aZ.of ĥ,ĕ.cons (Rep.same (Same.upd hF) p x r1) (ĕ.cons (Rep.same (Same.upd hF) q y r2) ĕ.nil)⟩
def ql(i:Nat)(mo:M RV):M Fl:=fun ρ=>match ρ[i]? with
 |some (.ow _)=>(mo ρ).bind fun r ρ1=>match ρ1[i]?,r with
  |some (.ow ps),.ow qs=>if ps.length+qs.length≤16777216 then .ok .nx (ρ1.set i (.ow (ps++qs))) else .bad
  |_,_=>.bad
 |_=>.bad
theorem sJ{i:Nat}{mo:M RV}{D:Ends}{σ:L2.St}{H:Hp}(h:tS (kk X cm) E (ql i mo) D σ H):qT (Tn X.K "list" qY (pB i) (C_ (tO (kk X cm) E mo) KR)) D σ H:=by
 obtain⟨c,F,ρ,rel,h⟩:=h
 unfold ql at h
 cases e1:ρ[i]? with
 |none=>rw[e1] at h;exact h.elim
 |some sl=>
  rw[e1] at h
  cases sl with
  |ow Xh=>
   obtain⟨a,Xi,z1,z2,z3,z4,z5,z6⟩:=rel.ow e1
   refine⟨.ref a,z1,.inl ⟨rfl,_,ų.of z2⟩,c,F,ρ,rel,?_⟩
   refine Ŧ.bind h fun r ρ1 v F1 H1 ė s1 q h1=>?_
   cases e2:ρ1[i]? with
   |none=>simp only[e2] at h1;exact h1.elim
   |some sl2=>
    simp only[e2] at h1
    cases sl2 with
    |ow ps=>
     cases r with
     |ow qs=>
      obtain⟨b,us,eb,hb1,hb2,hb3,hb4,hb5⟩:=q
      subst eb
      obtain⟨a2,vs,w1,w2,w3,w4,w5,w6⟩:=ė.ow e2
      rw[z1] at w1
      cases w1
      dsimp only at h1
      split at h1
      ·rename_i hz
       refine⟨a,b,vs,us,rfl,rfl,w2,hb1,by rw[←w5.length,←hb5.length,Ļ];exact hz,h1 σ F1 _ (ė.write w6 z1 ⟨a,vs++us,rfl,ĥ,w3,w4,ĕ.append w5 hb5⟩ fun _ z=>(V.ref.inj z).symm) (Same.refl _)⟩
      ·exact h1.elim
     |_=>exact h1.elim
    |_=>exact h1.elim
  |_=>exact h.elim
def Zad(i:Nat):M Fl:=fun ρ=>match ρ[i]? with
 |some (.ow _)=>.ok .nx (ρ.set i (.ow []))
 |_=>.bad
@[simp] theorem Zae{i:Nat}{ρ:ł}:Zad i ρ=(match ρ[i]? with
  |some (.ow _)=>.ok .nx (ρ.set i (.ow []))
  |_=>.bad):=rfl
@[simp] theorem Zaf{i:Nat}{mo:M RV}{ρ:ł}:ql i mo ρ=(match ρ[i]? with
  |some (.ow _)=>(mo ρ).bind fun r ρ1=>match ρ1[i]?,r with
   |some (.ow ps),.ow qs=>if ps.length+qs.length≤16777216 then .ok .nx (ρ1.set i (.ow (ps++qs))) else .bad
   |_,_=>.bad
  |_=>.bad):=rfl
@[simp] theorem U_{mi:M (List PV)}{ρ:ł}:Ny mi ρ=(mi ρ).bind fun ps ρ1=>.ok (xK 0 ps) ρ1:=rfl
@[simp] theorem ZbH{ρ:ł}:mLs m ρ=(m ρ).bind fun p ρ1=>match p with
  | .lst ps=>.ok ps ρ1
  |_=>.bad:=rfl
@[simp] theorem ZbI{ρ:ł}:mSq m ρ=(m ρ).bind fun p ρ1=>match p with
  | .lst ps=>.ok ps ρ1
  | .tup ps=>.ok ps ρ1
  |_=>.bad:=rfl
@[simp] theorem Zag{i:Nat}{ρ:ł}:Zac i ρ=(match ρ[i]? with
  |some (.bw ps)=>.ok ps ρ
  |some (.sh (.lst ps))=>.ok ps ρ
  |some (.ow ps)=>.ok ps (ρ.set i (.sh (.lst ps)))
  |_=>.bad):=rfl
@[simp] theorem Zah{i:Nat}{ρ:ł}:xJ i ρ=(match ρ[i]? with
  |some (.bw ps)=>.ok ps ρ
  |some (.sh (.lst ps))=>.ok ps ρ
  |some (.sh (.tup ps))=>.ok ps ρ
  |some (.ow ps)=>.ok ps (ρ.set i (.sh (.lst ps)))
  |_=>.bad):=rfl
end
end P
namespace P
open PySem PySem.Spec PyProof.Rows L2 M2 M3 M4
def Nz(i:Nat)(m:M PV):M Fl:=fun ρ=>match ρ[i]? with
 |some (.sh (.int _))=>(m ρ).bind fun q ρ1=>match ρ1[i]?,q with
  |some (.sh (.int k)),.int j=>.ok .nx (ρ1.set i (.sh (.int (Builtin.bitOr k j))))
  |_,_=>.bad
 |_=>.bad
@[simp] theorem Va{i:Nat}{m:M PV}{ρ:ł}:Nz i m ρ=(match ρ[i]? with
  |some (.sh (.int _))=>(m ρ).bind fun q ρ1=>match ρ1[i]?,q with
   |some (.sh (.int k)),.int j=>.ok .nx (ρ1.set i (.sh (.int (Builtin.bitOr k j))))
   |_,_=>.bad
  |_=>.bad):=rfl
section
variable{X:Cx}{cm:String→Addr}{E:L2.St→XK}{e a b:Expr}{m ma mb:M PV}{pos:Pos}
def NK:PV→Option PV
 | .int i=>some (.int (Builtin.bitNot i))
 |_=>none
@[simp] theorem Vb{i:Int}:NK (.int i)=some (.int (Builtin.bitNot i)):=rfl
def NP(m:M PV):M PV:=fun ρ=>(m ρ).bind fun p ρ1=>match p with
 | .int i=>.ok (.int ((Builtin.Int.intBits i:Nat):Int)) ρ1
 |_=>.bad
@[simp] theorem Vc{ρ:ł}:NP m ρ=(m ρ).bind fun p ρ1=>match p with
  | .int i=>.ok (.int ((Builtin.Int.intBits i:Nat):Int)) ρ1
  |_=>.bad:=rfl
theorem xM(its:List Value):slicePick its.toArray none none (some (-1))=its.reverse.toArray:=by
 have hb:sliceBounds none none (some (-1)) its.toArray.size=(((its.length:Nat):Int)-1,-1,-1):=by simp[sliceBounds]
 unfold slicePick
 rw[hb]
 have hr:sliceRange (((its.length:Nat):Int)-1) (-1) (-1)=(List.range its.length).map fun k=>its.length-1-k:=by
  unfold sliceRange
  have hc:(if(-1:Int)>0 then(if((its.length:Nat):Int)-1 < -1 then(-1-(((its.length:Nat):Int)-1) + -1-1) / -1 else 0) else(if((its.length:Nat):Int)-1 > -1 then((((its.length:Nat):Int)-1) - -1 - -1-1) / (- -1) else 0))=((its.length:Nat):Int):=by
   rw[if_neg (by decide)]
   split
   ·rw[show(- -1:Int)=1 by decide,Int.ediv_one];omega
   ·omega
  simp only[hc,Int.toNat_natCast]
  refine List.map_congr_left fun k hk=>?_
  have:=List.mem_range.mp hk
  omega
 dsimp only
 rw[hr]
 refine congrArg List.toArray (List.ext_getElem? fun i=>?_)
 by_cases hi:i<its.length
 ·have key:∀(n m:Nat),n≤its.length→(((List.range n).map fun k=>its.length-1-k).filterMap (its.toArray[·]?))=((its.drop (its.length-n)).reverse):=by
   intro n m
   induction n with
   |zero=>intro _;simp
   |succ n ih=>
    intro hn
    rw[List.range_succ,List.map_append,List.filterMap_append,ih (by omega)]
    have hg:its.toArray[its.length-1-n]?=some (its[its.length-1-n]'(by omega)):=by simp
    simp only[List.map_cons,List.map_nil,List.filterMap_cons,hg,List.filterMap_nil]
    rw[show its.length-(n+1)=its.length-1-n by omega,List.drop_eq_getElem_cons (show its.length-1-n<its.length by omega),List.reverse_cons,show its.length-1-n+1=its.length-n by omega]
  rw[key its.length 0 (Nat.le_refl _)]
  simp
 ·have key:∀(n m:Nat),n≤its.length→(((List.range n).map fun k=>its.length-1-k).filterMap (its.toArray[·]?))=((its.drop (its.length-n)).reverse):=by
   intro n m
   induction n with
   |zero=>intro _;simp
   |succ n ih=>
    intro hn
    rw[List.range_succ,List.map_append,List.filterMap_append,ih (by omega)]
    have hg:its.toArray[its.length-1-n]?=some (its[its.length-1-n]'(by omega)):=by simp
    simp only[List.map_cons,List.map_nil,List.filterMap_cons,hg,List.filterMap_nil]
    rw[show its.length-(n+1)=its.length-1-n by omega,List.drop_eq_getElem_cons (show its.length-1-n<its.length by omega),List.reverse_cons,show its.length-1-n+1=its.length-n by omega]
  rw[key its.length 0 (Nat.le_refl _)]
  simp
def Cy(m:M PV):M RV:=fun ρ=>(m ρ).bind fun p ρ1=>match p with
 | .lst ps=>.ok (.ow ps.reverse) ρ1
 |_=>.bad
@[simp] theorem Zai{ρ:ł}:Cy m ρ=(m ρ).bind fun p ρ1=>match p with
  | .lst ps=>.ok (.ow ps.reverse) ρ1
  |_=>.bad:=rfl
def Zaj(K:PySem.W.Frag)(te:TE):TE:=fun σ H Q=>te σ H fun x H1=>∃a xs,x=.ref a∧ų K H1 a xs∧∀p,H1 p=none→Q (.ref p) (upd H1 p (.lst xs.reverse))
theorem Hy{te:TE}{p1 p2 p3:Pos}{j:Nat}(he:PE X e te):PE X (.Subscript e (.Slice none none (some (.UnaryOp .USub (.Constant (.int 1) j p1) p3)) p2) pos) (Zaj X.K te):=by
 intro pins s σ H Q I h
 refine Subscript_ (Ť (he pins s σ H _ I h) fun v s1 ⟨x,H1,I1,r1,q1⟩=>?_)
 obtain⟨a,xs,e1,hq,q⟩:=q1
 subst e1
 cases r1
 refine wpAny_Slice ?_
 rw[evalPart_none]
 refine wpAny_pure ?_
 refine wpAny_pure ?_
 have hst:PO X (some (.UnaryOp .USub (.Constant (.int 1) j p1) p3)) (Dc (tUn (mU fun i=>.int (-i)) (tC (.int 1)))):=Bf (CZ ao pC)
 refine Ť (hst pins s1 σ H1 (fun o H2=>o=some (-1)∧H2=H1) I1 ⟨-1,rfl,rfl,rfl⟩) fun vs s3 ⟨o,H3,I3,p3,e3,e4⟩=>?_
 subst e3 e4
 have I4:Inv X pins σ H3 {s3 with heap:=s3.heap.push {cls:=.type "slice",data:=.fields #[.none,.none,vs]}}:=I3.kept (t':=s3.toks) fun b ob q=>Heap.get?_push_of_some _ q
 obtain⟨its,r,ht,hz⟩:=I4.list hq
 have hlen:=r.length
 show wpAny (model X.prog X.w) X.A (subscriptTail e (.Slice none none (some (.UnaryOp .USub (.Constant (.int 1) j p1) _)) p2) (.ref a) (.ref s3.heap.objs.size)) (EP X pins σ Q) X.xe {s3 with heap:=s3.heap.push {cls:=.type "slice",data:=.fields #[.none,.none,vs]}}
 refine tail_any (ops:=[.ref a,.ref s3.heap.objs.size]) (T:= "list") ht.isList.typeIs slot_list_getitem.lookup ?_ (by with_unfolding_all rfl)
 refine wpAny_getItem_list_slice ht.isList (Heap.IsSliceOf.new ..) .none .none p3 (by simp) ?_ (by rw[List.size_toArray]<;>omega)
 rw[xM]
 refine⟨.ref _,_,I4.laid (t':=s3.toks) (o:=.lst xs.reverse) (fun b ob q=>Heap.get?_push_of_some _ q) (Nat.le_refl _) ?_,rfl,q _ (I4.hok.fresh (Nat.le_refl _))⟩
 exact⟨by rw[List.length_reverse];exact hz,_,0,r.reverse,Heap.get?_push_size _ rfl⟩
theorem Dz{p1 p2 p3:Pos}{j:Nat}(he:PE X e (tR (kk X cm) E m)):PE X (.Subscript e (.Slice none none (some (.UnaryOp .USub (.Constant (.int 1) j p1) p3)) p2) pos) (tO (kk X cm) E (Cy m)):=PE.wk (Hy he) fun σ H Q ⟨c,F,ρ,rel,h⟩=>
 ⟨c,F,ρ,rel,bG.bind h fun p ρ1 v F1 H1 ė _ _ r1 h1=>by
   cases p with
   |lst ps=>
    obtain⟨a,vs,rfl,hq,rl⟩:=r1.lst ė.sub
    refine⟨a,vs,rfl,hq,fun b hb=>?_⟩
    obtain⟨q1,q2⟩:=cM ė hb (ĕ.of (vV rl.pr))
    exact h1 _ _ _ q1 (Same.refl _) (Same.upd hb) q2
   |_=>exact h1.elim⟩
end
section
variable{X:Cx}{K:KK}
end
end P
namespace P
open PySem PySem.Spec PyProof.Rows L2 M2 M3 M4
section
variable{prog:Program}{w:World}{A:Around}{E:Value→Shared→Prop}{s:Shared}
theorem fu{it l:Addr}{i:Nat}{items}{x:Value}{Q:Value→Shared→Prop}(hit:s.heap.IsTupleIter it l i)
 (hl:s.heap.IsTuple l items)(hx:items[i]?=some x)
 (hQ:∀h',h'.IsTupleIter it l (i+1)→Heap.SameBut it s.heap h'→Q x {s with heap:=h'}) :
 wpAny (model prog w) A (Builtin.SmallTypes.nextOf (.ref it)) Q E s:=by
 obtain⟨o,ho,hc,hd⟩:=id hit
 obtain⟨ol,hol,_,nl,hdl⟩:=hl
 unfold Builtin.SmallTypes.nextOf
 refine wpAny_bind (wpAny_callSpecial?_slot (name:=Str.ofString "__next__") hit.typeIs F.slot_tuple_iterator_next
  (wpAny_call_entry F.slot_tuple_iterator_next hit.typeIs F.entry_tuple_iterator_next ?_ (F.args_tuple_iterator_next_1 _)))
 show wpAny _ _ (field (.ref it) 0 >>= _) _ _ s
 refine wpAny_bind (wpAny_field ho hd (x:=.ref l) rfl ?_)
 show wpAny _ _ (if(Value.ref l== Value.none)=true then _ else _) _ _ s
 rw[if_neg (show ¬((Value.ref l== Value.none)=true) from Bool.false_ne_true)]
 show wpAny _ _ (field (.ref it) 1 >>= _) _ _ s
 refine wpAny_bind (wpAny_field ho hd (x:=.int i 0) rfl ?_)
 show wpAny _ _ (seqItems? (.ref l) >>= _) _ _ s
 refine wpAny_bind (wpAny_seqItems hol hdl ?_)
 simp only[Int.toNat_natCast,hx]
 refine wpAny_bind (wpAny_setField ho hd (by simp) (wpAny_pure ⟨x,rfl,wpAny_pure (hQ _ ?_ (Heap.SameBut.update ..))⟩))
 exact⟨_,Heap.get?_update_self _ ho (Obj.isFreed_of_fields (Obj.data_mapFields hd _)),(Obj.cls_mapFields ..).trans hc,by
  rw[Obj.data_mapFields hd];simp[rawInt]⟩
theorem fW{it l:Addr}{i:Nat}{items}{Q:Value→Shared→Prop}(hh:A.handled=none)
 (hit:s.heap.IsTupleIter it l i)(hl:s.heap.IsTuple l items)(hx:items[i]?=none)
 (hE:∀h' e,Heap.ExtBut it s.heap h'→(∃o,h'.get? e=some o∧o.cls=.type "StopIteration")→E (.ref e) {s with heap:=h'}) :
 wpAny (model prog w) A (Builtin.SmallTypes.nextOf (.ref it)) Q E s:=by
 obtain⟨o,ho,hc,hd⟩:=id hit
 obtain⟨ol,hol,_,nl,hdl⟩:=hl
 unfold Builtin.SmallTypes.nextOf
 refine wpAny_bind (wpAny_callSpecial?_slot (name:=Str.ofString "__next__") hit.typeIs F.slot_tuple_iterator_next
  (wpAny_call_entry F.slot_tuple_iterator_next hit.typeIs F.entry_tuple_iterator_next ?_ (F.args_tuple_iterator_next_1 _)))
 show wpAny _ _ (field (.ref it) 0 >>= _) _ _ s
 refine wpAny_bind (wpAny_field ho hd (x:=.ref l) rfl ?_)
 show wpAny _ _ (if(Value.ref l== Value.none)=true then _ else _) _ _ s
 rw[if_neg (show ¬((Value.ref l== Value.none)=true) from Bool.false_ne_true)]
 show wpAny _ _ (field (.ref it) 1 >>= _) _ _ s
 refine wpAny_bind (wpAny_field ho hd (x:=.int i 0) rfl ?_)
 show wpAny _ _ (seqItems? (.ref l) >>= _) _ _ s
 refine wpAny_bind (wpAny_seqItems hol hdl ?_)
 simp only[Int.toNat_natCast,hx]
 refine wpAny_bind (wpAny_rule (wpAny_bind (wpAny_setField ho hd (by simp) ?_)))
 show wpAny _ _ (newExc (.type "StopIteration") [] >>= _) _ _ _
 refine wpAny_bind ?_
 simp only[newExc,newTuple]
 refine wpAny_bind (wpAny_newObj_type ?_ (by size_fits))
 refine wpAny_bind (m:=firstArgMember _ _) (wpAny_of_eq (a:=Value.none) (by first|rfl|(simp only[firstArgMember];rfl)) ?_)
 refine wpAny_newObj_type ?_ (by size_fits)
 simp only[raiseNew]
 refine wpAny_bind (wpAny_handled ?_)
 first|rw[show A.in1.handled=none from hh]|rw[hh]
 refine wpAny_bind (wpAny_pure (wpAny_throw ?_))
 exact hE _ _ (((Heap.SameBut.update ..).extBut.push _).push _) ⟨_,Heap.get?_push_size _ rfl,rfl⟩
end
theorem nU{prog:Program}{w:World}{A:Around}(hh:A.handled=none)(it l:Addr)(hne:l≠it)(items:Array Value) :
 Draws prog w A it [it,l] items.size (fun i v=>items[i]?=some v) (fun i h=>h.IsTupleIter it l i∧h.IsTuple l items) where
 live:=fun _ _ st=>let ⟨o,ho,_⟩:=st.1;⟨o,ho⟩
 frame:=fun _ _ _ st hk=>⟨let ⟨o,ho,r⟩:=st.1;⟨o,hk it (by simp) o ho,r⟩,let ⟨o,ho,r⟩:=st.2;⟨o,hk l (by simp) o ho,r⟩⟩
 item:=fun i s Q E hi st hQ=>by
  refine fu st.1 st.2 (x:=items[i]) (by simp[hi]) fun h' hit' hs'=>?_
  exact hQ _ h' s.toks (by simp[hi]) ⟨hit',st.2.extBut hs'.extBut hne⟩ hs'
 done:=fun s Q E st hE=>fW hh st.1 st.2 (by simp) hE
structure Ka(z TI TO i1 i2:Addr)(f1 f2:List Addr):Prop where
 TIz:TI≠z
 TOz:TO≠z
 i1z:i1≠z
 i2z:i2≠z
 TITO:TI≠TO
 TIi1:TI≠i1
 TIi2:TI≠i2
 TOi1:TO≠i1
 TOi2:TO≠i2
 i12:i1≠i2
 z1:z∉f1
 z2:z∉f2
 t1:TO∉f1
 t2:TO∉f2
 a1:i1∉f2
 a2:i2∉f1
section
variable{prog:Program}{w:World}{A:Around}{E:Value→Shared→Prop}{s:Shared}
theorem i_{z TI TO i1 i2:Addr}{f1 f2:List Addr}{n1 n2 k1 k2:Nat}{P1 P2:Nat→Value→Prop}{S1 S2:Nat→Heap→Prop}{a b:Value}{Q:Value→Shared→Prop}(D:Ka z TI TO i1 i2 f1 f2)
 (D1:Draws prog w A i1 f1 n1 P1 S1)(D2:Draws prog w A i2 f2 n2 P2 S2)
 (hz:IsZip s.heap z TI TO .none)(hTI:IsPair s.heap TI (.ref i1) (.ref i2))(hTO:IsPair s.heap TO a b)(h1:S1 k1 s.heap)(h2:S2 k2 s.heap)(hk1:k1<n1)(hk2:k2<n2)
 (hQ:∀x y h' tk,P1 k1 x→P2 k2 y→IsZip h' z TI TO (rawInt s.heap.objs.size)→IsPair h' TO x y→S1 (k1+1) h'→S2 (k2+1) h'→IsPair h' s.heap.objs.size x y→h'.objs.size=s.heap.objs.size+1→
   (∀c o,c≠z→c≠TO→c≠i1→c≠i2→s.heap.get? c=some o→h'.get? c=some o)→Q (.ref s.heap.objs.size) {s with heap:=h',toks:=tk}) :
 wpAny (model prog w) A (Builtin.«zip.__next__» ⟨[.ref z],[]⟩) (fun fin s'=>∃v,fin=.done (.ret v)∧Q v s') E s:=by
 have DG:∀{b},b∈f1→b≠z∧b≠TO∧b≠i2:=fun hb=>⟨fun e=>D.z1 (e▸hb),fun e=>D.t1 (e▸hb),fun e=>D.a2 (e▸hb)⟩
 have Cz:∀{b},b∈f2→b≠z∧b≠TO∧b≠i1:=fun hb=>⟨fun e=>D.z2 (e▸hb),fun e=>D.t2 (e▸hb),fun e=>D.a1 (e▸hb)⟩
 obtain⟨hp,g,d,tk0,os⟩:=s
 show wpAny _ _ (field (.ref z) 2 >>= _) _ _ _
 refine wpAny_bind (wpAny_field hz rfl (x:=.bool false) rfl ?_)
 show wpAny _ _ (field (.ref z) 3 >>= _) _ _ _
 refine wpAny_bind (wpAny_field hz rfl (x:=.ref TI) rfl ?_)
 refine wpAny_bind (wpAny_seqItems hTI rfl ?_)
 show wpAny _ _ (Builtin.SmallTypes.ownedTupleIsFree (.ref z) >>= _) _ _ _
 refine wpAny_bind ?_
 unfold Builtin.SmallTypes.ownedTupleIsFree
 refine wpAny_bind (wpAny_field hz rfl (x:=.none) rfl (wpAny_pure ?_))
 simp only[if_true]
 refine wpAny_bind (wpAny_rule ?_)
 refine wpAny_bind (wpAny_field hz rfl (x:=.ref TO) rfl ?_)
 refine wpAny_bind (wpAny_setField_rec hz (by simp) fun h₁ hz₁ hs₁=>?_)
 replace hs₁:Heap.SameBut z hp h₁:= hs₁
 replace hz₁:IsZip h₁ z TI TO .ellipsis:=hz₁
 refine wpAny_bind ?_
 simp only[List.zipIdx_cons,List.zipIdx_nil,List.forIn_cons,List.forIn_nil]
 refine wpAny_bind (wpAny_bind (wpAny_onRaise ?_))
 show wpAny _ _ (Builtin.SmallTypes.nextOf (.ref i1) >>= _) _ _ _
 refine wpAny_bind (D1.item k1 _ _ _ hk1 (D1.frame _ _ _ h1 fun b hb o e=>hs₁.extBut b o (DG hb).1 e) fun x h₂ tk hPx h1₂ hs₂=>wpAny_pure ?_)
 replace hs₂:Heap.SameBut i1 h₁ h₂:= hs₂
 have hTO₂:IsPair h₂ TO a b:=hs₂.extBut _ _ D.TOi1 (hs₁.extBut _ _ D.TOz hTO)
 refine wpAny_bind (wpAny_seqItems hTO₂ rfl ?_)
 refine wpAny_bind (wpAny_updateSeq_pair hTO₂ fun h₃ hTO₃ hs₃=>?_)
 replace hs₃:Heap.SameBut TO h₂ h₃:= hs₃
 replace hTO₃:IsPair h₃ TO x b:=hTO₃
 refine wpAny_bind (wpAny_letGo (wpAny_pure ?_))
 refine wpAny_bind (wpAny_bind (wpAny_onRaise ?_))
 show wpAny _ _ (Builtin.SmallTypes.nextOf (.ref i2) >>= _) _ _ _
 refine wpAny_bind (D2.item k2 _ _ _ hk2 (D2.frame _ _ _ h2 fun b hb o e=>hs₃.extBut b o (Cz hb).2.1 (hs₂.extBut b o (Cz hb).2.2 (hs₁.extBut b o (Cz hb).1 e))) fun y h₄ tk' hPy h2₄ hs₄=>wpAny_pure ?_)
 replace hs₄:Heap.SameBut i2 h₃ h₄:= hs₄
 have hTO₄:IsPair h₄ TO x b:=hs₄.extBut _ _ D.TOi2 hTO₃
 refine wpAny_bind (wpAny_seqItems hTO₄ rfl ?_)
 refine wpAny_bind (wpAny_updateSeq_pair hTO₄ fun h₅ hTO₅ hs₅=>?_)
 replace hs₅:Heap.SameBut TO h₄ h₅:= hs₅
 replace hTO₅:IsPair h₅ TO x y:=hTO₅
 refine wpAny_bind (wpAny_letGo (wpAny_pure (wpAny_pure ?_)))
 refine wpAny_bind (wpAny_seqItems hTO₅ rfl ?_)
 refine wpAny_bind (wpAny_newTuple ?_)
 have hsz:h₅.objs.size=hp.objs.size:=by rw[hs₅.1,hs₄.1,hs₃.1,hs₂.1,hs₁.1]
 have hz₅:IsZip h₅ z TI TO .ellipsis:=hs₅.extBut _ _ D.TOz.symm (hs₄.extBut _ _ D.i2z.symm (hs₃.extBut _ _ D.TOz.symm (hs₂.extBut _ _ D.i1z.symm hz₁)))
 have hk₅:∀c o,c≠z→c≠TO→c≠i1→c≠i2→hp.get? c=some o→h₅.get? c=some o:=fun c o c1 c2 c3 c4 e=>
  hs₅.extBut _ _ c2 (hs₄.extBut _ _ c4 (hs₃.extBut _ _ c2 (hs₂.extBut _ _ c3 (hs₁.extBut _ _ c1 e))))
 have h1₅:S1 (k1+1) h₅:= D1.frame _ _ _ h1₂ fun b hb o e=>hs₅.extBut b o (DG hb).2.1 (hs₄.extBut b o (DG hb).2.2 (hs₃.extBut b o (DG hb).2.1 e))
 have h2₅:S2 (k2+1) h₅:= D2.frame _ _ _ h2₄ fun b hb o e=>hs₅.extBut b o (Cz hb).2.1 e
 have hzlt:z<h₅.objs.size:=Heap.lt_size hz₅
 show wpAny _ _ (Builtin.SmallTypes.ownedTupleHandOut (.ref z) (.ref h₅.objs.size) >>= _) _ _ _
 refine wpAny_bind ?_
 unfold Builtin.SmallTypes.ownedTupleHandOut
 have hz₆:IsZip (h₅.push {cls:=.type "tuple",data:=.seq #[x,y]}) z TI TO .ellipsis:=Heap.get?_push_of_some _ hz₅
 refine wpAny_bind (wpAny_setField_rec hz₆ (by simp) fun h₇ hz₇ hs₇=>?_)
 replace hz₇:IsZip h₇ z TI TO (rawInt h₅.objs.size):=hz₇
 refine wpAny_setField_rec hz₇ (by simp) fun h₈ hz₈ hs₈=>?_
 replace hz₈:IsZip h₈ z TI TO (rawInt h₅.objs.size):=hz₈
 have up:∀c o,c≠z→h₅.get? c=some o→h₈.get? c=some o:=fun c o c1 e=>hs₈.extBut _ _ c1 (hs₇.extBut _ _ c1 (Heap.get?_push_of_some _ e))
 have hT₈:IsPair h₈ h₅.objs.size x y:=hs₈.extBut _ _ (Nat.ne_of_gt hzlt) (hs₇.extBut _ _ (Nat.ne_of_gt hzlt) (Heap.get?_push_size _ rfl))
 have hz8:h₈.objs.size=h₅.objs.size+1:=by rw[hs₈.1,hs₇.1,Heap.size_push]
 rw[hsz] at hz₈ hT₈ hz8
 refine wpAny_pure ⟨_,rfl,?_⟩
 show Q (.ref h₅.objs.size) _
 rw[hsz]
 exact hQ x y h₈ tk' hPx hPy hz₈ (up _ _ D.TOz hTO₅) (D1.frame _ _ _ h1₅ fun b hb o e=>up b o (DG hb).1 e) (D2.frame _ _ _ h2₅ fun b hb o e=>up b o (Cz hb).1 e) hT₈ hz8 fun c o c1 c2 c3 c4 e=>up c o c1 (hk₅ c o c1 c2 c3 c4 e)
theorem jD{z TI TO i1 i2:Addr}{f1 f2:List Addr}{n1 n2 k1 k2:Nat}{P1 P2:Nat→Value→Prop}{S1 S2:Nat→Heap→Prop}{a b:Value}{Q:Fin→Shared→Prop}(D:Ka z TI TO i1 i2 f1 f2)
 (D1:Draws prog w A i1 f1 n1 P1 S1)(D2:Draws prog w A i2 f2 n2 P2 S2)
 (hz:IsZip s.heap z TI TO .none)(hTI:IsPair s.heap TI (.ref i1) (.ref i2))(hTO:IsPair s.heap TO a b)(h1:S1 k1 s.heap)(h2:S2 k2 s.heap)(hend:k1=n1∨(k1<n1∧k2=n2))
 (hE:∀h' e tk,(∀c o,c≠z→c≠TO→c≠i1→c≠i2→s.heap.get? c=some o→h'.get? c=some o)→(∃o,h'.get? e=some o∧o.cls=.type "StopIteration")→E (.ref e) {s with heap:=h',toks:=tk}) :
 wpAny (model prog w) A (Builtin.«zip.__next__» ⟨[.ref z],[]⟩) Q E s:=by
 have DG:∀{b},b∈f1→b≠z∧b≠TO∧b≠i2:=fun hb=>⟨fun e=>D.z1 (e▸hb),fun e=>D.t1 (e▸hb),fun e=>D.a2 (e▸hb)⟩
 have Cz:∀{b},b∈f2→b≠z∧b≠TO∧b≠i1:=fun hb=>⟨fun e=>D.z2 (e▸hb),fun e=>D.t2 (e▸hb),fun e=>D.a1 (e▸hb)⟩
 obtain⟨hp,g,d,tk0,os⟩:=s
 show wpAny _ _ (field (.ref z) 2 >>= _) _ _ _
 refine wpAny_bind (wpAny_field hz rfl (x:=.bool false) rfl ?_)
 show wpAny _ _ (field (.ref z) 3 >>= _) _ _ _
 refine wpAny_bind (wpAny_field hz rfl (x:=.ref TI) rfl ?_)
 refine wpAny_bind (wpAny_seqItems hTI rfl ?_)
 show wpAny _ _ (Builtin.SmallTypes.ownedTupleIsFree (.ref z) >>= _) _ _ _
 refine wpAny_bind ?_
 unfold Builtin.SmallTypes.ownedTupleIsFree
 refine wpAny_bind (wpAny_field hz rfl (x:=.none) rfl (wpAny_pure ?_))
 simp only[if_true]
 refine wpAny_bind (wpAny_rule ?_)
 refine wpAny_bind (wpAny_field hz rfl (x:=.ref TO) rfl ?_)
 refine wpAny_bind (wpAny_setField_rec hz (by simp) fun h₁ hz₁ hs₁=>?_)
 replace hs₁:Heap.SameBut z hp h₁:= hs₁
 replace hz₁:IsZip h₁ z TI TO .ellipsis:=hz₁
 refine wpAny_bind ?_
 simp only[List.zipIdx_cons,List.zipIdx_nil,List.forIn_cons,List.forIn_nil]
 refine wpAny_bind (wpAny_bind (wpAny_onRaise ?_))
 show wpAny _ _ (Builtin.SmallTypes.nextOf (.ref i1) >>= _) _ _ _
 rcases hend with rfl|⟨hk1,rfl⟩
 ·refine wpAny_bind (D1.done _ _ _ (D1.frame _ _ _ h1 fun b hb o e=>hs₁.extBut b o (DG hb).1 e) fun h₂ e hs₂ he=>?_)
  obtain⟨oe,hoe,hce⟩:=he
  replace hs₂:Heap.ExtBut i1 h₁ h₂:= hs₂
  have hz₂:IsZip h₂ z TI TO .ellipsis:=hs₂ _ _ D.i1z.symm hz₁
  have hez:e≠z:=fun x=>by subst x;rw[hz₂] at hoe;cases hoe;simp at hce
  exact wpAny_setField_rec hz₂ (by simp) fun h₃ _ hs₃=>hE h₃ e tk0 (fun c o c1 _ c3 _ x=>hs₃.extBut _ _ c1 (hs₂ _ _ c3 (hs₁.extBut _ _ c1 x))) ⟨oe,hs₃.extBut _ _ hez hoe,hce⟩
 ·refine wpAny_bind (D1.item k1 _ _ _ hk1 (D1.frame _ _ _ h1 fun b hb o e=>hs₁.extBut b o (DG hb).1 e) fun x h₂ tk hPx h1₂ hs₂=>wpAny_pure ?_)
  replace hs₂:Heap.SameBut i1 h₁ h₂:= hs₂
  have hTO₂:IsPair h₂ TO a b:=hs₂.extBut _ _ D.TOi1 (hs₁.extBut _ _ D.TOz hTO)
  refine wpAny_bind (wpAny_seqItems hTO₂ rfl ?_)
  refine wpAny_bind (wpAny_updateSeq_pair hTO₂ fun h₃ hTO₃ hs₃=>?_)
  replace hs₃:Heap.SameBut TO h₂ h₃:= hs₃
  refine wpAny_bind (wpAny_letGo (wpAny_pure ?_))
  refine wpAny_bind (wpAny_bind (wpAny_onRaise ?_))
  show wpAny _ _ (Builtin.SmallTypes.nextOf (.ref i2) >>= _) _ _ _
  refine wpAny_bind (D2.done _ _ _ (D2.frame _ _ _ h2 fun b hb o e=>hs₃.extBut b o (Cz hb).2.1 (hs₂.extBut b o (Cz hb).2.2 (hs₁.extBut b o (Cz hb).1 e))) fun h₄ e hs₄ he=>?_)
  obtain⟨oe,hoe,hce⟩:=he
  replace hs₄:Heap.ExtBut i2 h₃ h₄:= hs₄
  have hz₄:IsZip h₄ z TI TO .ellipsis:=hs₄ _ _ D.i2z.symm (hs₃.extBut _ _ D.TOz.symm (hs₂.extBut _ _ D.i1z.symm hz₁))
  have hez:e≠z:=fun x=>by subst x;rw[hz₄] at hoe;cases hoe;simp at hce
  exact wpAny_setField_rec hz₄ (by simp) fun h₅ _ hs₅=>hE h₅ e tk (fun c o c1 c2 c3 c4 x=>hs₅.extBut _ _ c1 (hs₄ _ _ c4 (hs₃.extBut _ _ c2 (hs₂.extBut _ _ c3 (hs₁.extBut _ _ c1 x))))) ⟨oe,hs₅.extBut _ _ hez hoe,hce⟩
end
section
variable{prog:Program}{w:World}{A:Around}{E:Value→Shared→Prop}{s:Shared}
theorem fX{z TI TO i1 i2:Addr}{f1 f2:List Addr}{n1 n2 k1 k2:Nat}{P1 P2:Nat→Value→Prop}{S1 S2:Nat→Heap→Prop}{a b:Value}{Q:Option Value→Shared→Prop}(D:Ka z TI TO i1 i2 f1 f2)
 (D1:Draws prog w A.in1 i1 f1 n1 P1 S1)(D2:Draws prog w A.in1 i2 f2 n2 P2 S2)
 (hz:IsZip s.heap z TI TO .none)(hTI:IsPair s.heap TI (.ref i1) (.ref i2))(hTO:IsPair s.heap TO a b)(h1:S1 k1 s.heap)(h2:S2 k2 s.heap)(hk1:k1<n1)(hk2:k2<n2)
 (hQ:∀x y h' tk,P1 k1 x→P2 k2 y→IsZip h' z TI TO (rawInt s.heap.objs.size)→IsPair h' TO x y→S1 (k1+1) h'→S2 (k2+1) h'→IsPair h' s.heap.objs.size x y→h'.objs.size=s.heap.objs.size+1→
   (∀c o,c≠z→c≠TO→c≠i1→c≠i2→s.heap.get? c=some o→h'.get? c=some o)→Q (some (.ref s.heap.objs.size)) {s with heap:=h',toks:=tk}) :
 wpAny (model prog w) A (pyNext (.ref z)) Q E s:=by
 have hT:s.TypeIs (.ref z) "zip" := ⟨_,hz,rfl⟩
 unfold pyNext
 exact wpAny_bind (wpAny_attempt (wpAny_callSpecial?_slot (name:=Str.ofString "__next__") hT F.slot_zip_next
  (wpAny_call_entry F.slot_zip_next hT F.entry_zip_next
    (i_ D D1 D2 hz hTI hTO h1 h2 hk1 hk2 fun x y h' tk a0 b0 a1 a2 a3 a4 a5 a6 a7=>wpAny_pure (hQ x y h' tk a0 b0 a1 a2 a3 a4 a5 a6 a7)) (F.args_zip_next_1 _))))
theorem gO{z TI TO i1 i2:Addr}{f1 f2:List Addr}{n1 n2 k1 k2:Nat}{P1 P2:Nat→Value→Prop}{S1 S2:Nat→Heap→Prop}{a b:Value}{Q:Option Value→Shared→Prop}(D:Ka z TI TO i1 i2 f1 f2)
 (D1:Draws prog w A.in1 i1 f1 n1 P1 S1)(D2:Draws prog w A.in1 i2 f2 n2 P2 S2)
 (hz:IsZip s.heap z TI TO .none)(hTI:IsPair s.heap TI (.ref i1) (.ref i2))(hTO:IsPair s.heap TO a b)(h1:S1 k1 s.heap)(h2:S2 k2 s.heap)(hend:k1=n1∨(k1<n1∧k2=n2))
 (hQ:∀h' tk,(∀c o,c≠z→c≠TO→c≠i1→c≠i2→s.heap.get? c=some o→h'.get? c=some o)→Q none {s with heap:=h',toks:=tk}):wpAny (model prog w) A (pyNext (.ref z)) Q E s:=by
 have hT:s.TypeIs (.ref z) "zip" := ⟨_,hz,rfl⟩
 unfold pyNext
 refine wpAny_bind (wpAny_attempt (wpAny_callSpecial?_slot (name:=Str.ofString "__next__") hT F.slot_zip_next
  (wpAny_call_entry F.slot_zip_next hT F.entry_zip_next (jD D D1 D2 hz hTI hTO h1 h2 hend fun h' e tk hk he=>?_) (F.args_zip_next_1 _))))
 obtain⟨o,ho,hc⟩:=he
 refine wpAny_bind (wpAny_isInstance (T:= "StopIteration") (b:=true) ⟨o,ho,hc⟩ isSubtype_stop ?_)
 exact wpAny_pure (hQ _ _ hk)
end
def jx(K:PySem.W.Frag)(b:Bool)(H:Hp)(a:Addr)(xs:List V):Prop:=if b=true then aZ K H a xs else ų K H a xs
def cA(b:Bool)(h:Heap)(it l:Addr)(i:Nat):Prop:=if b=true then h.IsTupleIter it l i else h.IsListIter it l i
def uH(b:Bool)(h:Heap)(l:Addr)(its:Array Value):Prop:=if b=true then h.IsTuple l its else h.IsList l its
def Kc(b:Bool):String:=if b=true then "tuple_iterator" else "list_iterator"
theorem ig{prog:Program}{w:World}{A:Around}(b:Bool)(hh:A.handled=none)(it l:Addr)(hne:l≠it)(items:Array Value) :
 Draws prog w A it [it,l] items.size (fun i v=>items[i]?=some v) (fun i h=>cA b h it l i∧uH b h l items):=by
 cases b with
 |true=>exact nU hh it l hne items
 |false=>exact Draws.list hh it l hne items
theorem cA.ex{b:Bool}{h:Heap}{it l:Addr}{i:Nat}(x:cA b h it l i):∃o,h.get? it=some o∧o.cls=.type (Kc b)∧o.data=.fields #[.ref l,.int i 0]:=by
 cases b with
 |true=>exact x
 |false=>exact x
theorem cA.of{b:Bool}{h:Heap}{it l:Addr}{i:Nat}{o:Obj}(h1:h.get? it=some o)(h2:o.cls=.type (Kc b))(h3:o.data=.fields #[.ref l,.int i 0]):cA b h it l i:=by
 cases b with
 |true=>exact⟨o,h1,h2,h3⟩
 |false=>exact⟨o,h1,h2,h3⟩
theorem cA.keep{b:Bool}{h h':Heap}{it l:Addr}{i:Nat}(x:cA b h it l i)(k:∀o,h.get? it=some o→h'.get? it=some o):cA b h' it l i:=by
 obtain⟨o,h1,h2,h3⟩:=x.ex
 exact .of (k o h1) h2 h3
def CG(K:PySem.W.Frag)(b:Bool)(H:Hp)(l:Addr)(i:Nat)(xs:List V):Prop:=xs.length≤i∧∀j,j<i→∃ys y,jx K b H l ys∧ys[j]?=some y
def Itz(K:PySem.W.Frag)(b1 b2:Bool)(l1 l2:Addr):It:=
 ⟨fun i H=>(∃xs x,jx K b1 H l1 xs∧xs[i]?=some x)∧∃ys y,jx K b2 H l2 ys∧ys[i]?=some y,
  fun i H z H'=>∃x y T,(∀xs,jx K b1 H l1 xs→xs[i]?=some x)∧(∀ys,jx K b2 H l2 ys→ys[i]?=some y)∧H T=none∧z=.ref T∧H'=upd H T (.tup [x,y]),
  fun i H=>(∃xs,jx K b1 H l1 xs)∧(∃ys,jx K b2 H l2 ys)∧((∃xs,jx K b1 H l1 xs∧CG K b1 H l1 i xs)∨((∃xs x,jx K b1 H l1 xs∧xs[i]?=some x)∧∃ys,jx K b2 H l2 ys∧CG K b2 H l2 i ys))⟩
section
variable{X:Cx}{pins:List (Addr×Obj)}{σ:L2.St}{H:Hp}{s:Shared}
theorem j_{b:Bool}{a:Addr}{xs:List V}(I:Inv X pins σ H s)(h:jx X.K b H a xs):∃its:List Value,Vals xs its∧uH b s.heap a its.toArray∧xs.length≤sizeLine:=by
 cases b with
 |true=>
  obtain⟨its,r,p,z⟩:=I.tuple h
  exact⟨its,r,p,z⟩
 |false=>
  obtain⟨its,r,p,z⟩:=I.list h
  exact⟨its,r,p.isList,z⟩
theorem kh{b:Bool}{a:Addr}{xs ys:List V}(I:Inv X pins σ H s)(h:jx X.K b H a xs)(h':jx X.K b H a ys):xs=ys:=by
 cases b with
 |true=>exact I.jG h h'
 |false=>exact I.nj h h'
theorem DK{b:Bool}{l:Addr}{i:Nat}{xs:List V}(I:Inv X pins σ H s)(h:jx X.K b H l xs)(q:CG X.K b H l i xs):xs.length=i:=by
 obtain⟨h1,h2⟩:=q
 refine Nat.le_antisymm h1 ?_
 cases i with
 |zero=>omega
 |succ i=>
  obtain⟨ys,y,e1,e2⟩:=h2 i (by omega)
  rw[kh I e1 h] at e2
  have:=(List.getElem?_eq_some_iff.mp e2).1
  omega
theorem sO{bb:Bool}{a b:Addr}{xs:List V}(I:Inv X pins σ H s)(f:cH X pins H b)(h:jx X.K bb H a xs):a≠b:=by
 intro e
 subst e
 have hk:∀o,X.K.lookup a=some o→False:=fun o e=>by
  have hb:=I.ok.mod.Tc a o e
  rcases f.2.2.2.1 with z|z
  ·exact I.ok.tK a o hb z
  ·exact absurd (Nat.lt_of_lt_of_le (Heap.lt_size (I.ok.bs a o hb).1) z) (Nat.lt_irrefl _)
 have hr:∀u,Rd H a u→False:=fun u r=>by
  rcases r with r|⟨o,r⟩<;>(rw[f.1] at r;cases r)
 cases bb with
 |true=>
  have h':aZ X.K H a xs:=h
  rcases h' with q|⟨o,_,_,q,_⟩
  ·exact hr _ q
  ·exact hk o q
 |false=>
  have h':ų X.K H a xs:=h
  rcases h' with q|⟨o,_,_,q,_⟩
  ·exact hr _ q
  ·exact hk o q
end
theorem xO{P:Program}{w:World}{K:PySem.W.Frag}{elts:List Expr}{k:Nat}{pos:Pos}(b1 b2:Bool)(l1 l2 z TI TO i1 i2:Addr)(nd:[z,TI,TO,i1,i2].Nodup) :
 Turn P w K (.Tuple elts k pos) (Itz K b1 b2 l1 l2) [z,TI,TO,i1,i2] z (fun i h=>IsZip h z TI TO .none∧IsPair h TI (.ref i1) (.ref i2)∧(∃a b,IsPair h TO a b)∧cA b1 h i1 l1 i∧cA b2 h i2 l2 i) where
 mem:=by simp
 obj:=fun i h st b hb=>by
  obtain⟨hz,hTI,⟨x,y,hTO⟩,h1,h2⟩:=st
  simp only[List.mem_cons,List.not_mem_nil,or_false] at hb
  rcases hb with rfl|rfl|rfl|rfl|rfl
  ·exact⟨_,hz,fun v z=>by have z':Data.fields _=Data.cell v:=z;cases z'⟩
  ·exact⟨_,hTI,fun v z=>by have z':Data.seq _ _=Data.cell v:=z;cases z'⟩
  ·exact⟨_,hTO,fun v z=>by have z':Data.seq _ _=Data.cell v:=z;cases z'⟩
  ·obtain⟨o,e1,c,d⟩:=h1.ex
   exact⟨o,e1,fun v z=>by rw[d] at z;cases z⟩
  ·obtain⟨o,e1,c,d⟩:=h2.ex
   exact⟨o,e1,fun v z=>by rw[d] at z;cases z⟩
 keep:=fun i h h' st k=>by
  obtain⟨hz,hTI,⟨x,y,hTO⟩,h1,h2⟩:=st
  exact⟨k z (by simp) _ hz,k TI (by simp) _ hTI,⟨x,y,k TO (by simp) _ hTO⟩,h1.keep fun o q=>k i1 (by simp) o q,h2.keep fun o q=>k i2 (by simp) o q⟩
 item:=by
  intro X hP hw hK hc i pins s σ H E I hf st hg
  subst hP hw hK
  obtain⟨hz,hTI,⟨a,b,hTO⟩,h1,h2⟩:=st
  obtain⟨⟨xs,x,hq1,hx⟩,ys,y,hq2,hy⟩:=hg
  obtain⟨qm,Vd,p1,_⟩:=j_ I hq1
  obtain⟨its2,Ve,p2,_⟩:=j_ I hq2
  obtain⟨u1,hu1,ru1⟩:=Vd.get hx
  obtain⟨u2,hu2,ru2⟩:=Ve.get hy
  have ne1:∀b∈[z,TI,TO,i1,i2],l1≠b:=fun b hb=>sO I (hf b hb) hq1
  have ne2:∀b∈[z,TI,TO,i1,i2],l2≠b:=fun b hb=>sO I (hf b hb) hq2
  have hh:X.A.in1.handled=none:=I.ok.hd hc
  simp only[List.nodup_cons,List.mem_cons,List.not_mem_nil,or_false,not_or,List.nodup_nil,not_false_eq_true,and_true] at nd
  obtain⟨⟨n1,n2,n3,n4⟩,⟨n5,n6,n7⟩,⟨n8,n9⟩,n10⟩:=nd
  have D:Ka z TI TO i1 i2 [i1,l1] [i2,l2]:=by
   refine⟨Ne.symm n1,Ne.symm n2,Ne.symm n3,Ne.symm n4,n5,n6,n7,n8,n9,n10,?_,?_,?_,?_,?_,?_⟩<;>simp only[List.mem_cons,List.not_mem_nil,or_false,not_or]
   ·exact⟨n3,(ne1 z (by simp)).symm⟩
   ·exact⟨n4,(ne2 z (by simp)).symm⟩
   ·exact⟨n8,(ne1 TO (by simp)).symm⟩
   ·exact⟨n9,(ne2 TO (by simp)).symm⟩
   ·exact⟨n10,(ne2 i1 (by simp)).symm⟩
   ·exact⟨Ne.symm n10,(ne1 i2 (by simp)).symm⟩
  have lt1:i<qm.toArray.size:=by
   rw[List.size_toArray]
   exact(List.getElem?_eq_some_iff.mp hu1).1
  have vO:i<its2.toArray.size:=by
   rw[List.size_toArray]
   exact(List.getElem?_eq_some_iff.mp hu2).1
  have hlt:∀b∈[z,TI,TO,i1,i2],b<s.heap.objs.size:=fun b hb=>by
   simp only[List.mem_cons,List.not_mem_nil,or_false] at hb
   rcases hb with rfl|rfl|rfl|rfl|rfl
   ·exact Heap.lt_size hz
   ·exact Heap.lt_size hTI
   ·exact Heap.lt_size hTO
   ·obtain⟨o,e1,_⟩:=h1.ex;exact Heap.lt_size e1
   ·obtain⟨o,e1,_⟩:=h2.ex;exact Heap.lt_size e1
  refine fX D (ig (A:=X.A.in1) b1 hh i1 l1 (ne1 i1 (by simp)) qm.toArray) (ig (A:=X.A.in1) b2 hh i2 l2 (ne2 i2 (by simp)) its2.toArray) hz hTI hTO ⟨h1,p1⟩ ⟨h2,p2⟩ lt1 vO fun x' y' h' tk hPx hPy hz' Zak s1 s2 hT hsz hk=>?_
  have ex:x'=u1:=by
   have:qm.toArray[i]?=some x':=hPx
   rw[show qm.toArray[i]?=some u1 by simpa using hu1] at this
   exact(Option.some.inj this).symm
  have ey:y'=u2:=by
   have:its2.toArray[i]?=some y':=hPy
   rw[show its2.toArray[i]?=some u2 by simpa using hu2] at this
   exact(Option.some.inj this).symm
  subst ex ey
  refine⟨.ref s.heap.objs.size,rfl,wpAny_letOwnedTupleGo_zip hz' fun h'' hz'' hs'=>?_⟩
  have hs2:Heap.SameBut z h' h'':=hs'
  have I2:=qj (fp:=[z,TI,TO,i1,i2]) (h':=h'') (t':=tk) I ru1 ru2 ⟨_,(hs2.2 _ (Nat.ne_of_gt (hlt z (by simp)))).trans hT,rfl⟩ (fun b o hb q=>by
   have hne:∀c∈[z,TI,TO,i1,i2],b≠c:=fun c hc e=>hb (e▸hc)
   exact(hs2.2 b (hne z (by simp))).trans (hk b o (hne z (by simp)) (hne TO (by simp)) (hne i1 (by simp)) (hne i2 (by simp)) q)) hf hlt
  refine⟨.ref s.heap.objs.size,_,I2,rfl,⟨x,y,s.heap.objs.size,fun zs hzs=>by rw[kh I hzs hq1];exact hx,fun zs hzs=>by rw[kh I hzs hq2];exact hy,I.fresh,rfl,rfl⟩,
   ⟨hz'',(hs2.2 TI (Ne.symm n1)).trans (hk TI _ (Ne.symm n1) n5 n6 n7 hTI),⟨_,_,(hs2.2 TO (Ne.symm n2)).trans Zak⟩,s1.1.keep fun o q=>(hs2.2 i1 (Ne.symm n3)).trans q,s2.1.keep fun o q=>(hs2.2 i2 (Ne.symm n4)).trans q⟩,fun b hb=>?_⟩
  rw[Ĝ (Nat.ne_of_lt (hlt b hb))];exact(hf b hb).1
 done:=by
  intro X hP hw hK hc i pins s σ H E I hf st hg
  subst hP hw hK
  obtain⟨hz,hTI,⟨a,b,hTO⟩,h1,h2⟩:=st
  obtain⟨⟨xs,hq1⟩,⟨ys,hq2⟩,hend'⟩:=hg
  have hend:xs.length=i∨(i<xs.length∧ys.length=i):=by
   rcases hend' with⟨xs',q1,q2⟩|⟨⟨xs',x,q1,q2⟩,ys',q3,q4⟩
   ·left;rw[kh I hq1 q1];exact DK I q1 q2
   ·right
    rw[kh I hq1 q1,kh I hq2 q3]
    exact⟨(List.getElem?_eq_some_iff.mp q2).1,DK I q3 q4⟩
  obtain⟨qm,Vd,p1,_⟩:=j_ I hq1
  obtain⟨its2,Ve,p2,_⟩:=j_ I hq2
  have hl1:=Vd.length
  have hl2:=Ve.length
  have ne1:∀b∈[z,TI,TO,i1,i2],l1≠b:=fun b hb=>sO I (hf b hb) hq1
  have ne2:∀b∈[z,TI,TO,i1,i2],l2≠b:=fun b hb=>sO I (hf b hb) hq2
  have hh:X.A.in1.handled=none:=I.ok.hd hc
  simp only[List.nodup_cons,List.mem_cons,List.not_mem_nil,or_false,not_or,List.nodup_nil,not_false_eq_true,and_true] at nd
  obtain⟨⟨n1,n2,n3,n4⟩,⟨n5,n6,n7⟩,⟨n8,n9⟩,n10⟩:=nd
  have D:Ka z TI TO i1 i2 [i1,l1] [i2,l2]:=by
   refine⟨Ne.symm n1,Ne.symm n2,Ne.symm n3,Ne.symm n4,n5,n6,n7,n8,n9,n10,?_,?_,?_,?_,?_,?_⟩<;>simp only[List.mem_cons,List.not_mem_nil,or_false,not_or]
   ·exact⟨n3,(ne1 z (by simp)).symm⟩
   ·exact⟨n4,(ne2 z (by simp)).symm⟩
   ·exact⟨n8,(ne1 TO (by simp)).symm⟩
   ·exact⟨n9,(ne2 TO (by simp)).symm⟩
   ·exact⟨n10,(ne2 i1 (by simp)).symm⟩
   ·exact⟨Ne.symm n10,(ne1 i2 (by simp)).symm⟩
  refine gO D (ig (A:=X.A.in1) b1 hh i1 l1 (ne1 i1 (by simp)) qm.toArray) (ig (A:=X.A.in1) b2 hh i2 l2 (ne2 i2 (by simp)) its2.toArray) hz hTI hTO ⟨h1,p1⟩ ⟨h2,p2⟩ ?_ fun h' tk hk=>⟨rfl,turns (fp:=[z,TI,TO,i1,i2]) (t':=tk) I (fun b o hb q=>?_) hf⟩
  ·rw[List.size_toArray,List.size_toArray]
   omega
  ·have hne:∀c∈[z,TI,TO,i1,i2],b≠c:=fun c hc e=>hb (e▸hc)
   exact hk b o (hne z (by simp)) (hne TO (by simp)) (hne i1 (by simp)) (hne i2 (by simp)) q
 self:=fun _ _ _ _ _ st h=>wpAny_pyIter_zip st.1 h
section
abbrev Vf(b:Bool)(h:Heap)(l1:Addr):Heap:=h.push {cls:=.type (Kc b),data:=.fields #[.ref l1,.int 0 0]}
abbrev Vg(b b':Bool)(h:Heap)(l1 l2:Addr):Heap:=(Vf b h l1).push {cls:=.type (Kc b'),data:=.fields #[.ref l2,.int 0 0]}
abbrev Vh(b b':Bool)(h:Heap)(l1 l2:Addr):Heap:=(Vg b b' h l1 l2).push {cls:=.type "tuple",data:=.seq #[.ref h.objs.size,.ref (Vf b h l1).objs.size]}
abbrev Vi(b b':Bool)(h:Heap)(l1 l2:Addr):Heap:=(Vh b b' h l1 l2).push {cls:=.type "tuple",data:=.seq #[.none,.none]}
abbrev Hz(b b':Bool)(h:Heap)(l1 l2:Addr):Heap:=(Vi b b' h l1 l2).push {cls:=.type "zip",data:=.fields #[.none,.bool false,.bool false,.ref (Vg b b' h l1 l2).objs.size,.ref (Vh b b' h l1 l2).objs.size]}
theorem nW{prog:Program}{w:World}{A:Around}{E:Value→Shared→Prop}{s:Shared}{b:Bool}{l:Addr}{its:Array Value}{Q:Value→Shared→Prop}(hl:uH b s.heap l its)
 (hQ:Q (.ref s.heap.objs.size) {s with heap:=s.heap.push {cls:=.type (Kc b),data:=.fields #[.ref l,.int 0 0]}}):wpAny (model prog w) A (pyIter (.ref l)) Q E s:=by
 cases b with
 |true=>exact wpAny_pyIter_tuple hl hQ
 |false=>exact wpAny_pyIter_list hl hQ
theorem uH.push{b:Bool}{h:Heap}{l:Addr}{its:Array Value}(x:uH b h l its)(o:Obj):uH b (h.push o) l its:=by
 cases b with
 |true=>exact Heap.IsTuple.push x o
 |false=>exact Heap.IsList.push x o
theorem nY(b b':Bool)(l1 l2:Addr)(xs ys:Array Value) :
 Meets (Builtin.«zip.__new__» ⟨[.type "zip",.ref l1,.ref l2],[]⟩) (fun _ R s=>uH b s.heap l1 xs∧uH b' s.heap l2 ys∧
  R (.ok (.ret (.ref (Vi b b' s.heap l1 l2).objs.size))) {s with heap:=Hz b b' s.heap l1 l2}):=
 .of_wp fun prog w A R s h=>by
   obtain⟨hp,g,d,tk,os⟩:=s;obtain⟨hl1,hl2,h⟩:=h
   have hsub:=sub_zip
   have hL1:uH b (Shared.heap ⟨hp,g,d,tk,os⟩) l1 xs:=hl1
   have hL2:uH b' (Shared.heap ⟨hp.push {cls:=.type (Kc b),data:=.fields #[.ref l1,.int 0 0]},g,d,tk,os⟩) l2 ys:=uH.push hl2 _
   wp_walk using nW hL1,nW hL2
   exact⟨_,rfl,h⟩
variable{prog:Program}{w:World}{A:Around}{E:Value→Shared→Prop}{s:Shared}
theorem qp{b b':Bool}{l1 l2:Addr}{xs ys:Array Value}{Q:Value→Shared→Prop}(hl1:uH b s.heap l1 xs)(hl2:uH b' s.heap l2 ys)
 (h:∀h',IsZip h' (s.heap.objs.size+4) (s.heap.objs.size+2) (s.heap.objs.size+3) .none→IsPair h' (s.heap.objs.size+2) (.ref s.heap.objs.size) (.ref (s.heap.objs.size+1))→
   IsPair h' (s.heap.objs.size+3) .none .none→cA b h' s.heap.objs.size l1 0→cA b' h' (s.heap.objs.size+1) l2 0→h'.objs.size=s.heap.objs.size+5→
   (∀c o,s.heap.get? c=some o→h'.get? c=some o)→Q (.ref (s.heap.objs.size+4)) {s with heap:=h'}) :
 wpAny (model prog w) A (call (.type "zip") [.ref l1,.ref l2]) Q E s:=by
 refine callType_new F.called_zip (by decide) (F.typeCall_zip_2 _ _) (F.newCall_zip_2 _ _) (fun obj=>F.args_object_init_3 obj _ _) F.entry_zip_new
  (nY b b' l1 l2 xs ys) ⟨hl1,hl2,?_⟩
 have z1:(Vf b s.heap l1).objs.size=s.heap.objs.size+1:=Heap.size_push ..
 have z2:(Vg b b' s.heap l1 l2).objs.size=s.heap.objs.size+2:=by rw[Heap.size_push,z1]
 have z3:(Vh b b' s.heap l1 l2).objs.size=s.heap.objs.size+3:=by rw[Heap.size_push,z2]
 have z4:(Vi b b' s.heap l1 l2).objs.size=s.heap.objs.size+4:=by rw[Heap.size_push,z3]
 have z5:(Hz b b' s.heap l1 l2).objs.size=s.heap.objs.size+5:=by rw[Heap.size_push,z4]
 have g5:(Hz b b' s.heap l1 l2).get? (Vi b b' s.heap l1 l2).objs.size=some _:=Heap.get?_push_size _ rfl
 have g4:(Hz b b' s.heap l1 l2).get? (Vh b b' s.heap l1 l2).objs.size=some _:=Heap.get?_push_of_some _ (Heap.get?_push_size _ rfl)
 have g3:(Hz b b' s.heap l1 l2).get? (Vg b b' s.heap l1 l2).objs.size=some _:=Heap.get?_push_of_some _ (Heap.get?_push_of_some _ (Heap.get?_push_size _ rfl))
 have g2:(Hz b b' s.heap l1 l2).get? (Vf b s.heap l1).objs.size=some _:=Heap.get?_push_of_some _ (Heap.get?_push_of_some _ (Heap.get?_push_of_some _ (Heap.get?_push_size _ rfl)))
 have g1:(Hz b b' s.heap l1 l2).get? s.heap.objs.size=some _:=Heap.get?_push_of_some _ (Heap.get?_push_of_some _ (Heap.get?_push_of_some _ (Heap.get?_push_of_some _ (Heap.get?_push_size _ rfl))))
 show _∧_
 rw[z2,z3,z4] at g5
 rw[z1,z2] at g3
 rw[z3] at g4
 rw[z1] at g2
 rw[z4]
 exact⟨⟨_,g5,rfl⟩,h _ g5 g3 g4 (.of g1 rfl rfl) (.of g2 rfl rfl) z5 fun c o x=>
  Heap.get?_push_of_some _ (Heap.get?_push_of_some _ (Heap.get?_push_of_some _ (Heap.get?_push_of_some _ (Heap.get?_push_of_some _ x))))⟩
end
section
variable{X:Cx}{elts:List Expr}{k:Nat}{tp:Pos}
def Zal(K:PySem.W.Frag)(ta:TA):TI:=fun σ H R=>ta σ H fun vs H1=>∃b1 b2 l1 l2,vs=[.ref l1,.ref l2]∧(∃xs,jx K b1 H1 l1 xs)∧(∃xs,jx K b2 H1 l2 xs)∧R (Itz K b1 b2 l1 l2) H1
theorem HB{e1 e2:Expr}{ta:TA}{p pos:Pos}(hg:Gl X "zip")(hm:X.mg "zip" =none)(ha:PA X [e1,e2] ta)(hs:starEach [e1,e2] X.env=[(false,eval e1 X.env),(false,eval e2 X.env)]:=by exact vR rfl rfl)(hs2:starEach [e2] X.env=[(false,eval e2 X.env)]:=by exact Ĉ rfl) :
 PI X (.Tuple elts k tp) (.Call (.Name "zip" p) [e1,e2] [] pos) (Zal X.K ta):=by
 intro pins s σ H R I h
 refine Call_ (iz I hg hm boot_zip (PyProof.Rows.callWith_type1 (Ť (ha pos pins s σ H _ I h) fun us s1 ⟨vs,H1,I1,r1,q1⟩=>?_) (by rw[hs,hs2]) (by rw[hs2];rfl)))
 obtain⟨b1,b2,l1,l2,e,⟨xs,hq1⟩,⟨ys,hq2⟩,q⟩:=q1
 subst e
 obtain⟨u1,u2,rfl,ru1,ru2⟩:=vals2 r1
 cases ru1
 cases ru2
 obtain⟨qm,Vd,p1,_⟩:=j_ I1 hq1
 obtain⟨its2,Ve,p2,_⟩:=j_ I1 hq2
 refine qp p1 p2 fun h' hz hTI hTO h1 h2 hsz hk=>?_
 have I2:Inv X pins σ H1 {s1 with heap:=h'}:=I1.kept (t':=s1.toks) hk
 refine wpAny_pyIter_zip (s:={s1 with heap:=h'}) hz ⟨s1.heap.objs.size+4,[s1.heap.objs.size+4,s1.heap.objs.size+2,s1.heap.objs.size+3,s1.heap.objs.size,s1.heap.objs.size+1],_,_,H1,rfl,I2,xO b1 b2 l1 l2 _ _ _ _ _ (by simp),⟨hz,hTI,⟨_,_,hTO⟩,h1,h2⟩,fun b hb=>?_,q⟩
 have hb':s1.heap.objs.size≤b:=by
  simp only[List.mem_cons,List.not_mem_nil,or_false] at hb
  rcases hb with rfl|rfl|rfl|rfl|rfl<;>omega
 exact I1.vm hb' (I1.hok.fresh hb')
end
def fB:List PV→List PV→List PV
 |p::ps,q::qs=>.tup [p,q]::fB ps qs
 |_,_=>[]
theorem nZ:∀(ps qs:List PV) (i:Nat) (r:PV),(fB ps qs)[i]?=some r→∃p q,ps[i]?=some p∧qs[i]?=some q∧r=.tup [p,q]
 | [],_,_,_,h=>by simp[fB] at h
 |_::_,[],_,_,h=>by simp[fB] at h
 |p::ps,q::qs,0,r,h=>by
  have h':some (PV.tup [p,q])=some r:=h
  cases h'
  exact⟨p,q,rfl,rfl,rfl⟩
 |p::ps,q::qs,i+1,r,h=>nZ ps qs i r h
theorem n_:∀(ps qs:List PV),(fB ps qs).length=min ps.length qs.length
 | [],_=>by simp[fB]
 |_::_,[]=>by simp[fB]
 |_::ps,_::qs=>by
  show(fB ps qs).length+1=_
  rw[n_ ps qs,List.length_cons,List.length_cons]
  omega
def uI(m1 m2:M (List PV)):M (List PV):=fun ρ=>(m1 ρ).bind fun ps ρ1=>(m2 ρ1).bind fun qs ρ2=>.ok (fB ps qs) ρ2
def NQ(K:PySem.W.Frag)(b:Bool)(a:Addr):It:=if b=true then Kz K a else JT K a
theorem jc{K:KK}{L F:Hp}{b:Bool}{a:Addr}{ps:List PV}(h:dz K L F (NQ K.K b a) ps){c:Ctx}{F2 H:Hp}{σ:L2.St}{ρ:ł}(rel:Rel K c F2 H σ ρ)(sF:Same F F2)(sL:Same L H)(i:Nat)(p:PV)(hp:ps[i]?=some p) :
 (∃xs x,jx K.K b H a xs∧xs[i]?=some x)∧∀x,(∀xs,jx K.K b H a xs→xs[i]?=some x)→∃F3,Rel K c F3 H σ ρ∧Same F2 F3∧Rep K F3 p x:=by
 obtain⟨g,_⟩:=h c i F2 H σ ρ rel sF sL
 obtain⟨g1,g2⟩:=g p hp
 cases b with
 |true=>exact⟨g1,fun x hx=>let ⟨F3,r3,s3,_,rp⟩:=g2 x H ⟨rfl,hx⟩;⟨F3,r3,s3,rp⟩⟩
 |false=>exact⟨g1,fun x hx=>let ⟨F3,r3,s3,_,rp⟩:=g2 x H ⟨rfl,hx⟩;⟨F3,r3,s3,rp⟩⟩
theorem lY{K:KK}{L F:Hp}{b:Bool}{a:Addr}{ps:List PV}(h:dz K L F (NQ K.K b a) ps){c:Ctx}{F2 H:Hp}{σ:L2.St}{ρ:ł}(rel:Rel K c F2 H σ ρ)(sF:Same F F2)(sL:Same L H) :
 ∃xs,jx K.K b H a xs∧CG K.K b H a ps.length xs:=by
 obtain⟨_,st⟩:=h c ps.length F2 H σ ρ rel sF sL
 have st':∃xs,jx K.K b H a xs∧xs.length≤ps.length:=by
  cases b with
  |true=>exact st rfl
  |false=>exact st rfl
 obtain⟨xs,h1,h2⟩:=st'
 exact⟨xs,h1,h2,fun j hj=>(jc h rel sF sL j _ (List.getElem?_eq_getElem hj)).1⟩
theorem xP{K:KK}{L F:Hp}{b1 b2:Bool}{a1 a2:Addr}{ps qs:List PV}(h1:dz K L F (NQ K.K b1 a1) ps)(h2:dz K L F (NQ K.K b2 a2) qs):dz K L F (Itz K.K b1 b2 a1 a2) (fB ps qs):=by
 intro c i F2 H σ ρ rel sF sL
 refine⟨fun r hr=>?_,fun hi=>?_⟩
 ·obtain⟨p,q,hp,hq,rfl⟩:=nZ ps qs i r hr
  obtain⟨g1,y1⟩:=jc h1 rel sF sL i p hp
  refine⟨⟨g1,(jc h2 rel sF sL i q hq).1⟩,fun z H' ⟨x,y,T,e1,e2,hT,ez,eH⟩=>?_⟩
  subst ez eH
  obtain⟨F3,wA,s3,rp⟩:=y1 x e1
  obtain⟨F4,uw,s4,rq⟩:=(jc h2 wA (sF.trans s3) sL i q hq).2 y e2
  obtain⟨r1,r2⟩:=Cw uw hT (Rep.same s4 p x rp) rq
  exact⟨_,r1,(s3.trans s4).trans (Same.upd (uw.sub.free hT)),Same.upd hT,r2⟩
 ·rw[n_] at hi
  obtain⟨xs,x1,x2⟩:=lY h1 rel sF sL
  obtain⟨ys,y1,y2⟩:=lY h2 rel sF sL
  refine⟨⟨xs,x1⟩,⟨ys,y1⟩,?_⟩
  by_cases hl:ps.length≤qs.length
  ·left
   have e:i=ps.length:=by omega
   exact⟨xs,x1,e▸x2⟩
  ·right
   have e:i=qs.length:=by omega
   exact⟨(jc h1 rel sF sL i _ (List.getElem?_eq_getElem (by omega))).1,ys,y1,e▸y2⟩
theorem NT{K:KK}{c:Ctx}{σ:L2.St}{ρ:ł}{F H:Hp}{ps:List PV}{v:V}(h:UW K c σ ρ F H ps v):∃b a,v=.ref a∧(∃xs,jx K.K b H a xs)∧dz K c.L F (NQ K.K b a) ps:=by
 rcases h with⟨a,e1,e2,e3⟩|⟨a,e1,e2,e3⟩
 ·exact⟨false,a,e1,e2,e3⟩
 ·exact⟨true,a,e1,e2,e3⟩
section
variable{X:Cx}{cm:String→Addr}{E:L2.St→XK}{e e2:Expr}
theorem NZ{elts:List Expr}{k:Nat}{tp p pos:Pos}{m1 m2:M (List PV)}(hg:Gl X "zip")(hm:X.mg "zip" =none)(h1:PE X e (tG (kk X cm) E (UW (kk X cm)) m1))(h2:PE X e2 (tG (kk X cm) E (UW (kk X cm)) m2))
 (hs:starEach [e,e2] X.env=[(false,eval e X.env),(false,eval e2 X.env)]:=by exact vR rfl rfl)(hs2:starEach [e2] X.env=[(false,eval e2 X.env)]:=by exact Ĉ rfl) :
 PI X (.Tuple elts k tp) (.Call (.Name "zip" p) [e,e2] [] pos) (tI (kk X cm) E (uI m1 m2)):=fun pins s σ H R I h=>HB hg hm (Ž h1 (Ž h2 dR hs2) (by rw[hs,hs2])) hs hs2 pins s σ H R I (by
 obtain⟨c,F,ρ,rel,h⟩:=h
 refine⟨c,F,ρ,rel,bG.bind h fun ps ρ1 v F1 H1 ė s1 s2 q h1=>⟨c,F1,ρ1,ė,bG.bind h1 fun qs ρ2 u F2 H2 Ķ s3 s4 q2 h2=>?_⟩⟩
 obtain⟨b1,a1,e1,_,e3⟩:=NT q
 obtain⟨b2,a2,f1,f2,f3⟩:=NT q2
 subst e1 f1
 obtain⟨xs,x1,_⟩:=lY (e3.mono s3) Ķ (Same.refl _) fun b u e=>(Ķ.lent b u e).1
 exact⟨b1,b2,a1,a2,rfl,⟨xs,x1⟩,f2,h2 _ F2 H2 Ķ (Same.refl _) (Same.refl _) (xP (e3.mono s3) f3)⟩)
end
end P
namespace P
open PySem PySem.Spec PyProof.Rows L2 M2 M3 M4
def N_(K:PySem.W.Frag)(neg:Bool):R2:=fun x y H Q=>∃d es a xs,Rp K H d x∧y=.ref a∧(ų K H a xs∨aZ K H a xs)∧fO K H es xs∧d.canLay0=true∧PyData.canLayAll0 es=true∧d.depth≤60∧Q (.bl (if neg then !(es.any fun e=>PyData.eqv e d) else es.any fun e=>PyData.eqv e d)) H
open Classical in
noncomputable def Ai(h:Heap)(d:PyData)(y:Value):Bool:=if ∃e as,Reads h y e as∧e.canLay0=true∧PyData.eqv e d=true then true else false
theorem xQ{h:Heap}{d e:PyData}{y:Value}{as:List Addr}(r:Reads h y e as)(hc:e.canLay0=true):Ai h d y=PyData.eqv e d:=by
 unfold Ai
 cases q:PyData.eqv e d with
 |true=>rw[if_pos ⟨e,as,r,hc,q⟩]
 |false=>
  rw[if_neg]
  rintro ⟨e',as',r',hc',q'⟩
  have:=SeqAt.Reads.unique e e' y as as' hc r r'
  subst this
  rw[q] at q'
  cases q'
theorem lZ{h:Heap}{d:PyData}:∀{us:List Value} {es:List PyData} {as:List Addr},ReadsAll h us es as→PyData.canLayAll0 es=true→us.any (Ai h d)=es.any fun e=>PyData.eqv e d
 |_,_,_,.nil,_=>rfl
 |_,_,_,.cons r rs,hc=>by
  unfold PyData.canLayAll0 at hc
  rw[Bool.and_eq_true] at hc
  rw[List.any_cons,List.any_cons,xQ r hc.1,lZ rs hc.2]
theorem mj{A:Around}{s:Shared}{d:PyData}{v:Value}{bs:List Addr}(rv:Reads s.heap v d bs)(hd:d.canLay0=true)(hu:A.units+d.depth<cLine):∀{us:List Value} {es:List PyData} {as:List Addr},ReadsAll s.heap us es as→PyData.canLayAll0 es=true→∀u∈us,SeqAt.EqAt A s u v (Ai s.heap d u)
 |_,_,_,.nil,_=>fun u hu=>by cases hu
 |_,_,_,.cons r rs,hc=>fun u hm=>by
  unfold PyData.canLayAll0 at hc
  rw[Bool.and_eq_true] at hc
  rcases List.mem_cons.mp hm with rfl|hm
  ·rw[xQ r hc.1]
   exact SeqAt.eqAt_reads _ _ A s _ _ _ _ r rv hc.1 hd (by omega)
  ·exact mj rv hd hu rs hc.2 u hm
section
variable{X:Cx}
theorem uJ(hu:X.A.units+64<cLine):ż X (compareOp .NotIn) (N_ X.K true):=by
 intro pins s σ H x y v u Q I rx ry h
 obtain⟨d,es,a,xs,h1,rfl,hq,h3,h4,h5,h6,q⟩:=h
 cases ry
 obtain⟨as,ra⟩:=Rp.reads I d x v h1 rx
 have hu1:X.A.in1.units+d.depth<cLine:=by
  have:X.A.in1.units=X.A.units+1:=rfl
  omega
 rcases hq with hq|hq
 ·obtain⟨its,r,pl,hz⟩:=I.list hq
  obtain⟨bs,rb⟩:=fO.reads I es xs its h3 r
  refine SeqAt.notIn_listAt (Ai s.heap d) pl.isList (fun w hw=>mj ra h4 hu1 rb h5 w (by simpa using hw)) ⟨.bl _,H,I,rfl,?_⟩
  rw[show its.toArray.any (Ai s.heap d)=its.any (Ai s.heap d) by simp,lZ rb h5]
  exact q
 ·obtain⟨its,r,pl,hz⟩:=I.tuple hq
  obtain⟨bs,rb⟩:=fO.reads I es xs its h3 r
  refine SeqAt.notIn_tupleAt (Ai s.heap d) pl (fun w hw=>mj ra h4 hu1 rb h5 w (by simpa using hw)) ⟨.bl _,H,I,rfl,?_⟩
  rw[show its.toArray.any (Ai s.heap d)=its.any (Ai s.heap d) by simp,lZ rb h5]
  exact q
end
def inD(neg:Bool)(p q:PV):Option PV:=match q with
 | .lst ps=>if ű p && bB ps && decide (dep p≤60) then some (.bl (if neg then !(ps.any fun y=>eqB y p) else ps.any fun y=>eqB y p)) else none
 | .tup ps=>if ű p && bB ps && decide (dep p≤60) then some (.bl (if neg then !(ps.any fun y=>eqB y p) else ps.any fun y=>eqB y p)) else none
 |_=>none
theorem mq{p:PV}(h:ű p=true):∀{ps:List PV},bB ps=true→(bM ps).any (fun e=>PyData.eqv e (toD p))=ps.any fun y=>eqB y p
 | [],_=>rfl
 |y::ps,hp=>by
  unfold bB at hp
  rw[Bool.and_eq_true] at hp
  unfold bM
  rw[List.any_cons,List.any_cons,lM y p hp.1 h,mq h hp.2]
theorem HD{K:KK}{neg:Bool}:jw K (N_ K.K neg) (inD neg):=by
 intro c F H σ ρ p q pv v u Q rel r1 r2 e k
 unfold inD at e
 split at e
 ·rename_i ps
  split at e
  ·rename_i hc
   rw[Bool.and_eq_true,Bool.and_eq_true,decide_eq_true_eq] at hc
   cases e
   obtain⟨a,xs,rfl,h1,h2⟩:=r2.lst rel.sub
   refine⟨toD p,bM ps,a,xs,cZ rel.sub hc.1.1 r1,rfl,.inl h1,fO.same rel.sub _ _ (cY ps xs hc.1.2 h2),bZ p hc.1.1,cT ps hc.1.2,by rw[b_];exact hc.2,?_⟩
   rw[mq hc.1.1 hc.1.2]
   exact k _ F H rel (Same.refl _) (Same.refl _) Rep.bl
  ·cases e
 ·rename_i ps
  split at e
  ·rename_i hc
   rw[Bool.and_eq_true,Bool.and_eq_true,decide_eq_true_eq] at hc
   cases e
   obtain⟨a,xs,rfl,h1,h2⟩:=r2.tup rel.sub
   refine⟨toD p,bM ps,a,xs,cZ rel.sub hc.1.1 r1,rfl,.inr h1,fO.same rel.sub _ _ (cY ps xs hc.1.2 h2),bZ p hc.1.1,cT ps hc.1.2,by rw[b_];exact hc.2,?_⟩
   rw[mq hc.1.1 hc.1.2]
   exact k _ F H rel (Same.refl _) (Same.refl _) Rep.bl
  ·cases e
 ·cases e
def CJ{α:Type}(m:M α):M α:= fun ρ=>match m ρ with
 | .ok a ρ'=>.ok a ρ'
 |_=>.bad
@[simp] theorem Zam{α:Type}{m:M α}{ρ:ł}:CJ m ρ=(match m ρ with
  | .ok a ρ'=>.ok a ρ'
  |_=>.bad):=rfl
theorem Oa{X:Cx}{cm:String→Addr}{E:L2.St→XK}{tg l:Expr}{mi:M (List PV)}(h:PI X tg l (tI (kk X cm) EF mi)):PI X tg l (tI (kk X cm) E (CJ mi)):=fun pins s σ H R I hh=>h pins s σ H R I (by
 obtain⟨c,F,ρ,rel,h'⟩:=hh
 refine⟨c,F,ρ,rel,?_⟩
 unfold CJ at h'
 cases e:mi ρ with
 |ok a ρ'=>rw[e] at h';exact h'
 |exc x ρ'=>rw[e] at h';exact h'.elim
 |bad=>rw[e] at h';exact h')
end P
namespace P
open PySem PySem.Spec PyProof.Rows L2 M2 M3 M4
theorem iu{x:Int}{n:Nat}(h1: -(2 ^ n:Int)<x)(h2:x<2 ^ n):bits x≤n:=by
 refine intBits_le_iff.mpr ?_
 have e:((2 ^ n:Nat):Int)=(2:Int) ^ n:=by simp
 have:((x.natAbs:Nat):Int)<((2 ^ n:Nat):Int):=by rw[e];omega
 omega
theorem xR{x y:Int}(h:y≠0)(h1: -18446744073709551616<y)(h2:y<18446744073709551616):cu x y=true:=rZ h (Nat.le_trans (iu (n:=64) (by omega) (by omega)) (by decide))
@[simp] theorem Vj{x:Int}{n:Nat}(h:n≠0)(h2:n<18446744073709551616):cu x (no_index (OfNat.ofNat n):Int)=true:=by
  have e:(no_index (OfNat.ofNat n):Int)=(n:Int):=rfl
  rw[e]
  exact xR (by omega) (by omega) (by omega)
@[simp] theorem Ob{x:Int}{n:Nat}(h:n<18446744073709551616):Ľ x (no_index (OfNat.ofNat n):Int)=true:=by
  have e:(no_index (OfNat.ofNat n):Int)=(n:Int):=rfl
  rw[e]
  exact mul_r (by omega) (by omega)
@[simp] theorem Oc{x:Int}{n:Nat}(h:n<18446744073709551616):Ľ (no_index (OfNat.ofNat n):Int) x=true:=by
  have e:(no_index (OfNat.ofNat n):Int)=(n:Int):=rfl
  rw[e]
  exact ū (by omega) (by omega)
@[simp] theorem Vk{m n:Nat}(h:m<18446744073709551616)(h2:n≤1000000):aF (no_index (OfNat.ofNat m):Int) (no_index (OfNat.ofNat n):Int)=true:=by
  have e:(no_index (OfNat.ofNat m):Int)=(m:Int):=rfl
  have e2:(no_index (OfNat.ofNat n):Int)=(n:Int):=rfl
  rw[e,e2]
  unfold aF
  simp
  omega
@[simp] theorem Od{x:Int}{n:Nat}:x.fdiv (no_index (OfNat.ofNat n):Int)=x / (no_index (OfNat.ofNat n):Int):=Int.fdiv_eq_ediv_of_nonneg x (Int.natCast_nonneg n)
@[simp] theorem Oe{x:Int}{n:Nat}:x.fmod (no_index (OfNat.ofNat n):Int)=x % (no_index (OfNat.ofNat n):Int):=Int.fmod_eq_emod_of_nonneg x (Int.natCast_nonneg n)
end P
namespace P
open PySem PySem.Spec PyProof.Rows L2 M2 M3 M4
theorem add_l{xs ys:List PV}(h:xs.length+ys.length≤16777216):ĭ (.lst xs) (.lst ys)=some (.ow (xs++ys)):=by
 unfold ĭ
 simp[h]
theorem HF{x y z w:Int}:eqB (.tup [.int x,.int y]) (.tup [.int z,.int w])=(decide (x=z) && decide (y=w)):=by
 rw[eqB.eq_def]
 show bL [.int x,.int y] [.int z,.int w]=_
 rw[bL.eq_def]
 show(eqB (.int x) (.int z) && bL [.int y] [.int w])=_
 rw[bL.eq_def]
 show(eqB (.int x) (.int z) && (eqB (.int y) (.int w) && bL [] []))=_
 have h1:eqB (.int x) (.int z)=decide (x=z):=by rw[eqB.eq_def];rfl
 have h2:eqB (.int y) (.int w)=decide (y=w):=by rw[eqB.eq_def];rfl
 have h3:bL [] []=true:=by rw[bL.eq_def]
 rw[h1,h2,h3,Bool.and_true]
mutual
theorem oh:∀p:PV,ű p=true→eqB p p=true
 | .non,_=>by unfold eqB;rfl
 | .bl b,_=>by unfold eqB;simp
 | .int i,_=>by unfold eqB;simp
 | .str x,_=>by unfold eqB;simp
 | .lst xs,h=>by unfold ű at h;unfold eqB;exact fY xs h
 | .tup xs,h=>by unfold ű at h;unfold eqB;exact fY xs h
 | .ins _ _ _,h=>by simp[ű] at h
 | .xc _ _ _,h=>by simp[ű] at h
 | .ty _,h=>by simp[ű] at h
 | .cls _,h=>by simp[ű] at h
theorem fY:∀ps:List PV,bB ps=true→bL ps ps=true
 | [],_=>by unfold bL;rfl
 |p::ps,h=>by
  unfold bB at h
  rw[Bool.and_eq_true] at h
  unfold bL
  rw[oh p h.1,fY ps h.2]
  rfl
end
theorem fZ{p:PV}(h:ű p=true)(hd:dep p≤60):ŵ p p=some (.bl false):=by
 unfold ŵ lO
 rw[h,oh p h,decide_eq_true (by omega:min (dep p) (dep p)≤60)]
 rfl
theorem jd{a b:Str}(ha:PyData.strOk a=true)(hb:PyData.strOk b=true):Ų (.str a) (.str b)=some (.bl (decide (a=b))):=by
 have h:eqB (.str a) (.str b)=decide (a=b):=by unfold eqB;rfl
 unfold Ų lO
 rw[show ű (.str a)=true by unfold ű;exact ha,show ű (.str b)=true by unfold ű;exact hb,h]
 rfl
end P
namespace P
open PySem PySem.Spec PyProof.Rows L2 M2 M3 M4
section
variable{g:Tg}{mb:M Fl}{mt:M Bool}{me:M PV}
theorem kj{α β:Type}(c:α→PV)(step:β→α→β)(J:β→ł→Prop):∀(xs:List α),(∀x∈xs,∀b ρ,J b ρ→∃ρ1 ρ2,g (c x) ρ=some ρ1∧mb ρ1=.ok .nx ρ2∧J (step b x) ρ2)→∀b ρ,J b ρ→∃ρ',forL g mb (xs.map c) ρ=.ok .nx ρ'∧J (xs.foldl step b) ρ'
 | [],_,b,ρ,h=>⟨ρ,rfl,h⟩
 |x::xs,hs,b,ρ,h=>by
  obtain⟨ρ1,ρ2,h1,h2,h3⟩:=hs x (by simp) b ρ h
  obtain⟨ρ',e,h4⟩:=kj c step J xs (fun y hy=>hs y (List.mem_cons_of_mem _ hy)) (step b x) ρ2 h3
  refine⟨ρ',?_,h4⟩
  rw[List.map_cons,forL,h1]
  dsimp only
  rw[h2]
  exact e
theorem dg{α γ:Type}(c:α→PV)(t:α→Option γ)(v:γ→RV)(J:ł→Prop):∀(xs:List α),(∀x∈xs,∀ρ,J ρ→∃ρ1,g (c x) ρ=some ρ1∧((∃r ρ2,t x=some r∧mb ρ1=.ok (.rt (v r)) ρ2)∨(∃ρ2,t x=none∧mb ρ1=.ok .nx ρ2∧J ρ2)))→∀ρ,J ρ→
 (∃r ρ',xs.findSome? t=some r∧forL g mb (xs.map c) ρ=.ok (.rt (v r)) ρ')∨(∃ρ',xs.findSome? t=none∧forL g mb (xs.map c) ρ=.ok .nx ρ'∧J ρ')
 | [],_,ρ,h=>.inr ⟨ρ,rfl,rfl,h⟩
 |x::xs,hs,ρ,h=>by
  obtain⟨ρ1,h1,h2⟩:=hs x (by simp) ρ h
  rcases h2 with⟨r,ρ2,e1,e2⟩|⟨ρ2,e1,e2,e3⟩
  ·refine .inl ⟨r,ρ2,by rw[List.findSome?_cons,e1],?_⟩
   rw[List.map_cons,forL,h1]
   dsimp only
   rw[e2]
   rfl
  ·have hf:List.findSome? t (x::xs)=List.findSome? t xs:=by rw[List.findSome?_cons,e1]
   have hl:forL g mb ((x::xs).map c) ρ=forL g mb (xs.map c) ρ2:=by
    rw[List.map_cons,forL,h1]
    dsimp only
    rw[e2]
    rfl
   rw[hf,hl]
   exact dg c t v J xs (fun y hy=>hs y (List.mem_cons_of_mem _ hy)) ρ2 e3
theorem aN{α:Type}(c f:α→PV)(q:α→Bool)(I:ł→Prop):∀(xs:List α) (ρ:ł) (acc:List PV),I ρ→acc.length+xs.length≤16777216→
 (∀x∈xs,∀ρ,I ρ→∃ρ1 ρ2,g (c x) ρ=some ρ1∧mt ρ1=.ok (q x) ρ2∧(q x=false→I ρ2)∧(q x=true→∃ρ3,me ρ2=.ok (f x) ρ3∧I ρ3))→Ń g mt me (xs.map c) ρ acc=some (acc++(xs.filter q).map f)
 | [],ρ,acc,_,_,_=>by simp[Ń]
 |x::xs,ρ,acc,h,hz,hs=>by
  obtain⟨ρ1,ρ2,h1,h2,h3,h4⟩:=hs x List.mem_cons_self ρ h
  cases e:q x with
  |true=>
   obtain⟨ρ3,h5,h6⟩:=h4 e
   rw[e] at h2
   rw[List.map_cons,Ń,h1]
   dsimp only
   rw[h2]
   dsimp only
   rw[h5]
   dsimp only
   rw[if_pos (by simp at hz;omega),aN c f q I xs ρ3 (acc ++ [f x]) h6 (by simp at hz ⊢;omega) fun y hy=>hs y (List.mem_cons_of_mem _ hy)]
   simp[e]
  |false=>
   rw[e] at h2
   rw[List.map_cons,Ń,h1]
   dsimp only
   rw[h2]
   dsimp only
   rw[aN c f q I xs ρ2 acc (h3 e) (by simp at hz ⊢;omega) fun y hy=>hs y (List.mem_cons_of_mem _ hy)]
   simp[e]
end
end P
namespace P
open PySem PySem.Spec PyProof.Rows L2 M2 M3 M4
def Zan(K:PySem.W.Frag)(n:Nat)(t:u_):TG:=fun v σ H Q=>∃a xs,v=.ref a∧ų K H a xs∧xs.length=n∧t xs σ H Q
section
variable{X:Cx}{cm:String→Addr}{pos:Pos}
theorem HJ{es:List Expr}{k:Nat}{t:u_}{n:Nat}(hc:X.calm=true)(h:pD X es t)
 (hn:(assignEach es X.env).length=n:=by rfl)(hst:(assignEach es X.env).findIdx? (·.1)=none:=by rfl):PG X (.Tuple es k pos) (Zan X.K n t):=by
 intro pins s σ H v u Q I r hw
 obtain⟨a,xs,e1,hq,hl,hw⟩:=hw
 subst e1
 cases r
 obtain⟨its,rv,ht,hz⟩:=I.list hq
 rw[assign_Tuple]
 refine wpAny_bind (wpAny_standAt ?_)
 unfold unpack
 rw[show(assignEach es X.env).length=its.toArray.size by simp[hn,←hl,rv.length],hst]
 refine wpAny_bind (wpAny_holding (PySem.W.kun_itemsOf (I.ok.hd hc) ht.isList fun h' hx=>?_))
 have I1:Inv X pins σ H {s with heap:=h'}:=I.kept (t':=s.toks) fun b o e=>hx b o (Nat.ne_of_lt (Heap.lt_size e)) e
 exact h pins _ σ H xs _ Q I1 (by simpa using rv) hw
def gS(n:Nat)(gs:uV):Tg:=fun p ρ=>match p with
 | .tup ps=>if ps.length=n then gs ps ρ else none
 | .lst ps=>if ps.length=n then gs ps ρ else none
 |_=>none
@[simp] theorem Zao{n:Nat}{gs:uV}{ps:List PV}{ρ:ł}:gS n gs (.tup ps) ρ=if ps.length=n then gs ps ρ else none:=rfl
@[simp] theorem Zap{n:Nat}{gs:uV}{ps:List PV}{ρ:ł}:gS n gs (.lst ps) ρ=if ps.length=n then gs ps ρ else none:=rfl
theorem xT{es:List Expr}{k:Nat}{gs:uV}{n:Nat}(hc:X.calm=true)(h:pD X es (Mh (kk X cm) gs))(hn:(assignEach es X.env).length=n:=by rfl)(hst:(assignEach es X.env).findIdx? (·.1)=none:=by rfl):PG X (.Tuple es k pos) (tT (kk X cm) (gS n gs)):=by
 intro pins s σ H v u Q I r hw
 obtain⟨c,F,ρ,p,rel,rp,hw⟩:=hw
 cases p with
 |tup ps=>
  unfold Rep at rp
  obtain⟨a,xs,h1,h2,h3⟩:=rp
  unfold gS at hw
  dsimp only at hw
  split at hw
  ·rename_i hl
   exact vf hc h hn hst pins s σ H v u Q I r ⟨a,xs,h1,Same.tup rel.sub h2,by rw[←h3.length];exact hl,c,F,ρ,ps,rel,h3,hw⟩
  ·exact hw.elim
 |lst ps=>
  unfold Rep at rp
  obtain⟨a,xs,h1,h2,h3⟩:=rp
  unfold gS at hw
  dsimp only at hw
  split at hw
  ·rename_i hl
   exact HJ hc h hn hst pins s σ H v u Q I r ⟨a,xs,h1,rel.sub.seq h2,by rw[←h3.length];exact hl,c,F,ρ,ps,rel,h3,hw⟩
  ·exact hw.elim
 |_=>exact hw.elim
end
end P
namespace P
open PySem PySem.Spec PyProof.Rows L2 M2 M3 M4
section
variable{X:Cx}{cm:String→Addr}{E:L2.St→XK}{a:Expr}{p p1 pos pos1:Pos}{mr:M (List PV)}
end
end P
namespace P
open PySem PySem.Spec PyProof.Rows L2 M2 M3 M4
theorem Rel.keep{K:KK}{c:Ctx}{F H H':Hp}{σ:L2.St}{ρ:ł}(r:Rel K c F H σ ρ)(e:Same H H'):Rel K c F H' σ ρ:= r.call ⟨e,Same.refl F,r.sub.trans e,fun _ _ h=>h⟩
theorem Rel.HN{K:KK}{c:Ctx}{F H:Hp}{σ:L2.St}{ρ:ł}(r:Rel K c F H σ ρ){i:Nat}{ps qs:List PV}(e:ρ[i]?=some (.ot ps qs)):∃F',Same F F'∧Rel K c F' H σ (ρ.set i (.sh (.tup (ps ++ [.lst qs])))):=by
 obtain⟨p,a,xs,vs,h1,h2,h3,h4,h5,h6,h7⟩:=r.slot i _ e
 obtain⟨m1,m2⟩:=r.move (a:=a) ⟨_,_,e,at_of h1,p,xs,rfl,h2⟩
 have ra:Rep K (upd F a (.lst vs)) (.lst qs) (.ref a):=by
  unfold Rep
  exact⟨a,vs,rfl,ų.of ĥ,h7.same (Same.upd h5) qs vs⟩
 have rp:Rep K (upd F a (.lst vs)) (.tup (ps ++ [.lst qs])) (.ref p):=by
  unfold Rep
  exact⟨p,_,rfl,aZ.of (Same.upd h5 _ _ h2),ĕ.append (h3.same (Same.upd h5) ps xs) (ĕ.cons ra ĕ.nil)⟩
 have q:=(m1.freeze h4 h6 h5 m2).vY (i:=i) (s:=.sh (.tup (ps ++ [.lst qs]))) rfl (show Ŵ K c _ H _ (.sh (.tup (ps ++ [.lst qs]))) from⟨.ref p,by rw[at_of h1];rfl,rp⟩)
 rw[List.set_set] at q
 exact⟨_,Same.upd h5,q⟩
def je(i:Nat)(m:M Bool):M Bool:=fun ρ=>match ρ[i]? with
 |some (.ot ps qs)=>match m (ρ.set i (.sh (.tup (ps ++ [.lst qs])))) with
  | .ok b _=>.ok b ρ
  |_=>.bad
 |_=>m ρ
section
variable{X:Cx}{cm:String→Addr}{E:L2.St→XK}{e o:Expr}{es:List Expr}{pos:Pos}{m:M Bool}{mo:M RV}{ma:M PV}
theorem mz(i:Nat)(h:PT X e (tB (kk X cm) E m)):PT X e (tB (kk X cm) E (je i m)):=PT.wk h fun σ H Q ⟨c,F,ρ,rel,h⟩=>by
 unfold je at h
 cases e1:ρ[i]? with
 |none=>rw[e1] at h;exact⟨c,F,ρ,rel,h⟩
 |some s=>
  rw[e1] at h
  cases s with
  |ot ps qs=>
   obtain⟨F',sF,au⟩:=rel.HN e1
   refine⟨c,F',_,au,?_⟩
   dsimp only at h
   cases em:m (ρ.set i (.sh (.tup (ps ++ [.lst qs])))) with
   |ok b ρ1=>rw[em] at h;exact fun v F2 H2 r1 s1 s2 q=>h v F H2 (rel.keep s2) (Same.refl _) s2 q
   |exc x ρ1=>rw[em] at h;exact h.elim
   |bad=>rw[em] at h;exact h.elim
  |_=>exact⟨c,F,ρ,rel,h⟩
def Vl(K:KK):RR (List PV×RV) (List V):=fun c σ ρ F H r vs=>∃xs v,vs=xs ++ [v]∧ĕ K F r.1 xs∧rO K c σ ρ F H r.2 v
def xU(mo:M RV):M (List PV×RV):=fun ρ=>(mo ρ).bind fun r ρ1=>.ok ([],r) ρ1
def qt(ma:M PV)(mr:M (List PV×RV)):M (List PV×RV):=fun ρ=>(ma ρ).bind fun p ρ1=>(mr ρ1).bind fun r ρ2=>.ok (p::r.1,r.2) ρ2
theorem HS(he:PE X e (tO (kk X cm) E mo))(hs:starEach [e] X.env=(false,eval e X.env)::starEach [] X.env:=by exact Ĉ rfl):PA X [e] (tG (kk X cm) E (Vl (kk X cm)) (xU mo)):=
 PA.wk (Ž he dR hs) fun σ H Q ⟨c,F,ρ,rel,h⟩=>⟨c,F,ρ,rel,h.bind fun r ρ1 v F1 H1 ė _ _ r1 h1=>h1 _ F1 H1 ė (Same.refl _) (Same.refl _) ⟨[],v,rfl,ĕ.nil,r1⟩⟩
theorem CK{mr:M (List PV×RV)}(ha:PE X e (tV (kk X cm) E ma))(hr:PA X es (tG (kk X cm) E (Vl (kk X cm)) mr))(hs:starEach (e::es) X.env=(false,eval e X.env)::starEach es X.env:=by exact Ĉ rfl):PA X (e::es) (tG (kk X cm) E (Vl (kk X cm)) (qt ma mr)):=
 PA.wk (Ž ha hr hs) fun σ H Q ⟨c,F,ρ,rel,h⟩=>⟨c,F,ρ,rel,h.bind fun p ρ1 v F1 H1 ė _ _ r1 h1=>⟨c,F1,ρ1,ė,h1.bind fun r ρ2 vs F2 H2 Ķ sF sH ⟨xs,u,e1,e2,e3⟩ h2=>h2 _ F2 H2 Ķ (Same.refl _) (Same.refl _) ⟨v::xs,u,by rw[e1];rfl,ĕ.cons (Rep.same sF p v r1) e2,e3⟩⟩⟩
def xV(mr:M (List PV×RV)):M RV:=fun ρ=>(mr ρ).bind fun r ρ1=>if r.1.length<16777216 then(match r.2 with
 | .ow qs=>.ok (.ot r.1 qs) ρ1
 | .sh p=>.ok (.sh (.tup (r.1 ++ [p]))) ρ1
 |_=>.bad) else .bad
theorem HW{x1}{mr:M (List PV×RV)}(h:PA X es (tG (kk X cm) E (Vl (kk X cm)) mr)):PE X (.Tuple es x1 pos) (tO (kk X cm) E (xV mr)):=PE.wk (vB h) fun σ H Q ⟨c,F,ρ,rel,h⟩=>
 ⟨c,F,ρ,rel,h.bind fun r ρ1 vs F1 H1 ė _ _ ⟨xs,v,e1,e2,e3⟩ h1=>by
   subst e1
   split at h1
   ·rename_i hz
    refine⟨by rw[List.length_append,←e2.length,Ļ];simp only[List.length_cons,List.length_nil];omega,fun p hp=>?_⟩
    have Ķ:=ė.alloc (o:=.tup (xs ++ [v])) hp
    have sF:Same F1 (upd F1 p (.tup (xs ++ [v]))):=Same.upd (ė.sub.free hp)
    obtain⟨ps,rv⟩:=r
    cases rv with
    |sh q=>
     refine h1 _ _ _ Ķ sF (Same.upd hp) ?_
     show Rep _ _ _ _
     unfold Rep
     exact⟨p,_,rfl,aZ.of ĥ,ĕ.append (e2.same sF ps xs) (ĕ.cons (Rep.same sF q v e3) ĕ.nil)⟩
    |ow qs=>
     obtain⟨a,vs,rfl,q1,q2,q3,q4,q5⟩:=e3
     have na:a≠p:=fun z=>by rw[z,hp] at q1;cases q1
     exact h1 _ _ _ Ķ sF (Same.upd hp) ⟨p,a,xs,vs,rfl,ĥ,e2.same sF ps xs,by rw[Ĝ na];exact q1,by rw[Ĝ na];exact q2,q3,ė.lK sF q4,q5.same sF qs vs⟩
    |ot _ _=>exact h1.elim
   ·exact h1.elim⟩
def sS(i j:Nat)(m:M PV):M Fl:=fun ρ=>match ρ[i]? with
 |some (.ot ps _)=>if ps.length=j then(m ρ).bind fun p ρ1=>match ρ1[i]? with
  |some (.ot ps' qs)=>if ps'.length=j∧qs.length<16777216 then .ok .nx (ρ1.set i (.ot ps' (qs ++ [p]))) else .bad
  |_=>.bad
  else .bad
 |_=>.bad
theorem xW{xs:List V}{v:V}{j:Nat}(h:xs.length=j):dj (xs ++ [v]) (j:Int)=some v:=by
 subst h
 have h1:((xs.length:Nat):Int)<((xs ++ [v]).length:Int):=by simp;omega
 unfold dj o_
 rw[if_pos (by omega),if_pos h1]
 simp
theorem xX{i j:Nat}{D:Ends}{σ:L2.St}{H:Hp}(h:tS (kk X cm) E (sS i j ma) D σ H):qT (Tn X.K "list" lH (FJ (rIx X.K) (pB i) (tC (.int j))) (tL (kk X cm) E (ą ma Ė))) D σ H:=by
 obtain⟨c,F,ρ,rel,h⟩:=h
 unfold sS at h
 cases e1:ρ[i]? with
 |none=>rw[e1] at h;exact h.elim
 |some sl=>
  rw[e1] at h
  cases sl with
  |ot Xh qs0=>
   obtain⟨p,a,xs,Xi,z1,z2,z3,z4,z5,z6,z7⟩:=rel.slot i _ e1
   dsimp only at h
   split at h
   ·rename_i hj
    refine⟨.ref p,at_of z1,.inr (.inl ⟨p,xs ++ [.ref a],(j:Int),.ref a,rfl,rfl,aZ.of (rel.sub _ _ z2),xW (by rw[←z3.length];exact hj),.inl ⟨rfl,_,ų.of z4⟩,c,F,ρ,rel,?_⟩)⟩
    unfold ą
    cases em:ma ρ with
    |bad=>rw[em] at h;exact h
    |exc x ρ1=>rw[em] at h;exact fun C d F' H' au s1 q=>h σ C d F' H' au s1 q
    |ok p1 ρ1=>
     rw[em] at h
     intro us F1 H1 ė s1 s2 r1
     have r1':ĕ (kk X cm) F1 [p1] us:=r1
     cases r1'.pr with
     |cons rp t=>
      rename_i v vs'
      cases t
      cases e2:ρ1[i]? with
      |none=>simp only[Res.ş,e2] at h;exact h.elim
      |some sl2=>
       simp only[Res.ş,e2] at h
       cases sl2 with
       |ot ps qs=>
        obtain⟨p2,a2,xs2,vs,w1,w2,w3,w4,w5,w6,w7⟩:=ė.slot i _ e2
        have own:Ō F1 σ ρ1 i a2:=⟨_,_,e2,at_of w1,p2,xs2,rfl,w2⟩
        have e3:=at_of z1
        rw[at_of w1] at e3
        have e3':p2=p:=by injection e3 with e3;injection e3 with e3;injection e3
        subst e3'
        have e4:a2=a:=iK (s:=.ot ps qs) (x:=.ref p2) ⟨p2,xs2,rfl,w2⟩ ⟨p2,xs,rfl,s1 _ _ z2⟩
        subst e4
        dsimp only at h
        split at h
        ·rename_i hz
         refine⟨a2,vs,v,rfl,rfl,w4,by rw[←w7.length,Ļ];exact hz.2,h σ F1 _ (ė.vZ own ⟨p2,a2,xs2,vs ++ [v],w1,w2,w3,ĥ,w5,w6,ĕ.append w7 (ĕ.cons rp ĕ.nil)⟩ fun x b ex q=>?_) s1⟩
         rw[at_of w1] at ex
         cases ex
         exact iK q ⟨p2,xs2,rfl,w2⟩
        ·exact h.elim
       |_=>exact h.elim
   ·exact h.elim
  |_=>exact h.elim
@[simp] theorem HX{ps qs:List PV}:(RV.ot ps qs).val=.tup (ps ++ [.lst qs]):=rfl
@[simp] theorem Zaq{ps qs:List PV}:(RV.ot ps qs).slot=.ot ps qs:=rfl
@[simp] theorem Vm{i:Nat}{ρ:ł}:je i m ρ=(match ρ[i]? with
  |some (.ot ps qs)=>match m (ρ.set i (.sh (.tup (ps ++ [.lst qs])))) with
   | .ok b _=>.ok b ρ
   |_=>.bad
  |_=>m ρ):=rfl
@[simp] theorem Vn{ρ:ł}:xU mo ρ=(mo ρ).bind fun r ρ1=>.ok ([],r) ρ1:=rfl
@[simp] theorem Og{mr:M (List PV×RV)}{ρ:ł}:qt ma mr ρ=(ma ρ).bind fun p ρ1=>(mr ρ1).bind fun r ρ2=>.ok (p::r.1,r.2) ρ2:=rfl
@[simp] theorem Oh{mr:M (List PV×RV)}{ρ:ł}:xV mr ρ=(mr ρ).bind fun r ρ1=>if r.1.length<16777216 then(match r.2 with
  | .ow qs=>.ok (.ot r.1 qs) ρ1
  | .sh p=>.ok (.sh (.tup (r.1 ++ [p]))) ρ1
  |_=>.bad) else .bad:=rfl
@[simp] theorem Vo{i j:Nat}{ρ:ł}:sS i j ma ρ=(match ρ[i]? with
  |some (.ot ps _)=>if ps.length=j then(ma ρ).bind fun p ρ1=>match ρ1[i]? with
   |some (.ot ps' qs)=>if ps'.length=j∧qs.length<16777216 then .ok .nx (ρ1.set i (.ot ps' (qs ++ [p]))) else .bad
   |_=>.bad
   else .bad
  |_=>.bad):=rfl
end
end P
namespace P
open PySem PySem.Spec PyProof.Rows L2 M2 M3 M4
section
variable{X:Cx}{K:KK}
end
end P
namespace My
def gd(a b:Int):Int:=((Int.gcd a b:Nat):Int)
theorem Z0o(a b:Int):gd b (Int.fmod a b)=gd a b:=by
 unfold gd
 rw[Int.fmod_def,Int.gcd_sub_mul_left_right,Int.gcd_comm]
theorem Z0p(a:Int){b:Int}(h:b≠0):(Int.fmod a b).natAbs<b.natAbs:=by
 rcases(by omega:0<b∨b<0) with h|h
 ·have h1:=Int.fmod_nonneg_of_pos a h
  have h2:=Int.fmod_lt_of_pos a h
  omega
 ·have e:=Int.neg_fmod_neg a b
  have h1:=Int.fmod_nonneg_of_pos (-a) (show 0 < -b by omega)
  have h2:=Int.fmod_lt_of_pos (-a) (show 0 < -b by omega)
  omega
theorem Z0q(a:Int):gd a 0=if a<0 then -a else a:=by
 unfold gd
 rw[Int.gcd_zero]
 split<;>omega
theorem Z06(a:Int){b:Int}(h:b≠0):0<gd a b:=by
 have:=Int.gcd_ne_zero_right (a:=a) h
 unfold gd
 omega
theorem Z0J(a b:Int):0≤gd a b:=by
 unfold gd
 omega
theorem Z1K(a:Int){b:Int}(h:b≠0):gd a b≤b.natAbs:=by
 unfold gd
 have:=Int.gcd_dvd_natAbs_right a b
 have:=Nat.le_of_dvd (by omega) this
 omega
def dv(t b:Int):Int:=if b<0 then-gd t b else gd t b
theorem Z1L(t:Int){b:Int}(h:b≠0):dv t b≠0:=by
 have:=Z06 t h
 unfold dv
 split<;>omega
theorem Z1B(t b:Int):dv t b ∣ t∧dv t b ∣ b:=by
 have h1:=Int.gcd_dvd_left t b
 have h2:=Int.gcd_dvd_right t b
 unfold dv gd
 split
 ·exact⟨Int.neg_dvd.mpr h1,Int.neg_dvd.mpr h2⟩
 ·exact⟨h1,h2⟩
theorem Z1t{t b g:Int}(h1:g ∣ t)(h2:g ∣ b)(hg:g.natAbs=Int.gcd t b)(hb:b≠0):Int.gcd (t / g) (b / g)=1:=by
 have hp:0<Int.gcd t b:=Nat.pos_of_ne_zero (Int.gcd_ne_zero_right hb)
 rcases Int.natAbs_eq g with e|e
 ·rw[hg] at e
  rw[e]
  exact Int.gcd_ediv_gcd_ediv_gcd hp
 ·rw[hg] at e
  rw[e,Int.ediv_neg,Int.ediv_neg,Int.neg_gcd,Int.gcd_neg]
  exact Int.gcd_ediv_gcd_ediv_gcd hp
theorem Z19(t:Int){b:Int}(h:b≠0) :
 1≤b.fdiv (dv t b)∧gd (t.fdiv (dv t b)) (b.fdiv (dv t b))=1∧t.fdiv (dv t b)*b=t*b.fdiv (dv t b):=by
 obtain⟨h1,h2⟩:=Z1B t b
 rw[Int.fdiv_eq_ediv_of_dvd h1,Int.fdiv_eq_ediv_of_dvd h2]
 have hn:=Z1L t h
 obtain⟨x,hx⟩:=h1
 obtain⟨y,hy⟩:=h2
 have e1:t / dv t b=x:=by
  conv=>lhs;lhs;rw[hx]
  exact Int.mul_ediv_cancel_left x hn
 have e2:b / dv t b=y:=by
  conv=>lhs;lhs;rw[hy]
  exact Int.mul_ediv_cancel_left y hn
 refine⟨?_,?_,?_⟩
 ·rw[e2]
  have hp:=Z06 t h
  by_cases c:b<0
  ·have d:dv t b= - gd t b:=if_pos c
   rw[d] at hy
   rcases(by omega:1≤y∨y≤0) with z|z
   ·exact z
   ·have:=Int.mul_le_mul_of_nonneg_left z (Int.le_of_lt hp)
    rw[Int.neg_mul] at hy
    omega
  ·have d:dv t b=gd t b:=if_neg c
   rw[d] at hy
   rcases(by omega:1≤y∨y≤0) with z|z
   ·exact z
   ·have:=Int.mul_le_mul_of_nonneg_left z (Int.le_of_lt hp)
    omega
 ·unfold gd
  rw[Z1t ⟨x,hx⟩ ⟨y,hy⟩ ?_ h]
  ·rfl
  ·unfold dv gd
   split<;>omega
 ·rw[e1,e2]
  conv=>lhs;rw[hy]
  conv=>rhs;lhs;rw[hx]
  rw[Int.mul_comm (dv t b) x,Int.mul_assoc]
end My
namespace Hu
abbrev Pt:=Int×Int
def tn(a b c:Pt):Int:=(b.1-a.1)*(c.2-a.2)-(b.2-a.2)*(c.1-a.1)
theorem Vp{α:Type}(R:α→α→Prop):∀(l:List α),l≠[]→(∀x∈l,∀y∈l,R x y∨R y x)→(∀x∈l,∀y∈l,∀z∈l,R x y→R y z→R x z)→∃b∈l,∀s∈l,R b s
 | [],h,_,_=>absurd rfl h
 | [x],_,t,_=>⟨x,by simp,fun s hs=>by
     have e:s=x:=by simpa using hs
     subst e
     rcases t s (by simp) s (by simp) with q|q<;>exact q⟩
 |x::y::r,_,t,tr=>by
  obtain⟨b,hb,hl⟩:=Vp R (y::r) (by simp) (fun a ha c hc=>t a (List.mem_cons_of_mem _ ha) c (List.mem_cons_of_mem _ hc)) (fun a ha c hc d hd=>tr a (List.mem_cons_of_mem _ ha) c (List.mem_cons_of_mem _ hc) d (List.mem_cons_of_mem _ hd))
  have hb':b∈x::y::r:=List.mem_cons_of_mem _ hb
  have hx:x∈x::y::r:=by simp
  have bb:R b b:=hl b hb
  have xx:R x x:=by rcases t x hx x hx with q|q<;>exact q
  rcases t b hb' x hx with q|q
  ·refine⟨b,hb',fun s hs=>?_⟩
   rcases List.mem_cons.mp hs with e|e
   ·subst e;exact q
   ·exact hl s e
  ·refine⟨x,hx,fun s hs=>?_⟩
   rcases List.mem_cons.mp hs with e|e
   ·subst e;exact xx
   ·exact tr x hx b hb' s hs q (hl s e)
def pq(a b c p:Pt):Prop:=tn a b c≠0∧0≤tn p b c*tn a b c∧0≤tn a p c*tn a b c∧0≤tn a b p*tn a b c
theorem ZL(a b c p:Pt):tn p b c+tn a p c+tn a b p=tn a b c:=by simp only[tn];grind
theorem Z6(a b c:Pt):tn b c a=tn a b c:=by simp only[tn];grind
theorem Zu(a b c:Pt):tn b a c= - tn a b c:=by simp only[tn];grind
theorem Zf(a b c:Pt):tn a c b= - tn a b c:=by simp only[tn];grind
theorem pq.swap{a b c p:Pt}(h:pq a b c p):pq b a c p:=by
 obtain⟨h1,h2,h3,h4⟩:=h
 unfold pq
 rw[Zu a b c,Zu a p c,Zu p b c,Zu a b p]
 refine⟨by omega,?_,?_,?_⟩
 ·rw[Int.neg_mul_neg];exact h3
 ·rw[Int.neg_mul_neg];exact h2
 ·rw[Int.neg_mul_neg];exact h4
theorem pq.uW{a b c p:Pt}(h:pq a b c p):pq b c a p:=by
 obtain⟨h1,h2,h3,h4⟩:=h
 unfold pq
 rw[Z6 a b c,show tn p c a=tn a p c from Z6 a p c,show tn b p a=tn a b p from Z6 a b p,show tn b c p=tn p b c from Z6 p b c]
 exact⟨h1,h3,h4,h2⟩
theorem Z0K{a b c p:Pt}(h1:0≤tn p a b)(h2:0≤tn p b c)(h3:0≤tn p c a)(h:0<tn p a b∨0<tn p b c∨0<tn p c a):pq a b c p:=by
 have e:=ZL a b c p
 have e1:tn a p c=tn p c a:=(Z6 a p c).symm
 have e2:tn a b p=tn p a b:=Z6 p a b
 have pos:0<tn a b c:=by omega
 refine⟨by omega,Int.mul_nonneg h2 (by omega),Int.mul_nonneg (by omega) (by omega),Int.mul_nonneg (by omega) (by omega)⟩
section
variable{S:List Pt}{p:Pt}
theorem Z1M(no:∀x∈S,∀y∈S,∀z∈S,¬pq x y z p):∀x∈S,∀y∈S,∀z∈S,0≤tn p x y→0≤tn p y z→0≤tn p x z:=by
 intro x hx y hy z hz h1 h2
 by_cases h:0≤tn p x z
 ·exact h
 ·exfalso
  have e:=Zf p x z
  exact no x hx y hy z hz (Z0K h1 h2 (by omega) (by omega))
def dt(u v:Pt)(p:Pt):Int:=(u.1-p.1)*(v.1-p.1)+(u.2-p.2)*(v.2-p.2)
theorem Z1C{u p:Pt}(h:u≠p):0<dt u u p:=by
 unfold dt
 have h1:0≤(u.1-p.1)*(u.1-p.1):=by
  rcases Int.le_total 0 (u.1-p.1) with q|q
  ·exact Int.mul_nonneg q q
  ·exact Int.mul_nonneg_of_nonpos_of_nonpos q q
 have h2:0≤(u.2-p.2)*(u.2-p.2):=by
  rcases Int.le_total 0 (u.2-p.2) with q|q
  ·exact Int.mul_nonneg q q
  ·exact Int.mul_nonneg_of_nonpos_of_nonpos q q
 by_cases e1:u.1-p.1=0
 ·by_cases e2:u.2-p.2=0
  ·exact absurd (Prod.ext (by omega) (by omega)) h
  ·have:(u.2-p.2)*(u.2-p.2)≠0:=Int.mul_ne_zero e2 e2
   omega
 ·have:(u.1-p.1)*(u.1-p.1)≠0:=Int.mul_ne_zero e1 e1
  omega
theorem Z26(tri:∃x∈S,∃y∈S,∃z∈S,tn x y z≠0)(no:∀x∈S,∀y∈S,∀z∈S,¬pq x y z p) :
 ∃a∈S,∃b∈S,a≠b∧(∀s∈S,0≤tn a b s)∧tn a b p<0:=by
 obtain⟨x,hx,y,hy,z,hz,ZbN⟩:=tri
 have hp:p∉S:=by
  intro hp
  have e:=ZL x y z p
  have key:∀u∈S,∀v∈S,tn p u v=0:=by
   intro u hu v hv
   by_cases h:tn p u v=0
   ·exact h
   ·exfalso
    refine no p hp u hu v hv ⟨h,?_,?_,?_⟩
    ·rcases Int.le_total 0 (tn p u v) with q|q
     ·exact Int.mul_nonneg q q
     ·exact Int.mul_nonneg_of_nonpos_of_nonpos q q
    ·rw[show tn p p v=0 by simp only[tn];grind];simp
    ·rw[show tn p u p=0 by simp only[tn];grind];simp
  have k1:=key y hy z hz
  have k2:=key z hz x hx
  have k3:=key x hx y hy
  rw[Z6 p z x |>.symm] at k2
  have e1:tn x p z=tn p z x:=(Z6 x p z).symm
  have e2:tn x y p=tn p x y:=Z6 p x y
  have e3:tn z x p=tn p z x:=Z6 p z x
  omega
 have tr:=Z1M no
 have tot:∀x∈S,∀y∈S,0≤tn p x y∨0≤tn p y x:=fun x _ y _=>by have:=Zf p x y;omega
 obtain⟨b0,hb0,l0⟩:=Vp (fun u v=>0≤tn p u v) S (List.ne_nil_of_mem hx) tot tr
 -- the nearest of those in its direction
 have hT:∃b∈S,(∀s∈S,0≤tn p b s)∧∀s∈S,tn p b s=0→dt b b p≤dt s s p:=by
  let T:=S.filter fun s=>decide (tn p b0 s=0)
  have mT:∀{s},s∈T↔s∈S∧tn p b0 s=0:=by intro s;simp[T]
  have Zar:b0∈T:=mT.mpr ⟨hb0,by simp only[tn];grind⟩
  obtain⟨b,hb,lb⟩:=Vp (fun u v=>dt u u p≤dt v v p) T (List.ne_nil_of_mem Zar) (fun u _ v _=>Int.le_total _ _) (fun u _ v _ w _ h1 h2=>Int.le_trans h1 h2)
  obtain⟨hbS,eb⟩:=mT.mp hb
  have bm:∀s∈S,0≤tn p b s:=fun s hs=>tr b hbS b0 hb0 s hs (by have:=Zf p b0 b;omega) (l0 s hs)
  refine⟨b,hbS,bm,fun s hs es=>lb s (mT.mpr ⟨hs,?_⟩)⟩
  have h1:=l0 s hs
  have h2:0≤tn p s b0:=tr s hs b hbS b0 hb0 (by have:=Zf p b s;omega) (by have:=Zf p b0 b;omega)
  have:=Zf p b0 s
  omega
 obtain⟨b,hb,bm,bn⟩:=hT
 have hbp:b≠p:=fun e=>hp (e▸hb)
 have hw:=Z1C hbp
 let U:=S.filter fun s=>decide (0<tn p b s)
 have mU:∀{s},s∈U↔s∈S∧0<tn p b s:=by intro s;simp[U]
 have hU:U≠[]:=by
  intro hU
  have key:∀s∈S,tn p b s=0:=by
   intro s hs
   have h1:=bm s hs
   by_cases h:tn p b s=0
   ·exact h
   ·have:s∈U:=mU.mpr ⟨hs,by omega⟩
    rw[hU] at this
    cases this
  have k1:=key x hx
  have k2:=key y hy
  have k3:=key z hz
  have fx:∀u v:Pt,tn p b u=0→tn p b v=0→dt b b p*tn p u v=0:=by
   intro u v e1 e2
   have i1:dt b b p*tn p u v=dt b u p*tn p b v-dt b v p*tn p b u:=by simp only[dt,tn];grind
   rw[i1,e1,e2];simp
  have z0:∀u v:Pt,tn p b u=0→tn p b v=0→tn p u v=0:=by
   intro u v e1 e2
   rcases Int.mul_eq_zero.mp (fx u v e1 e2) with q|q
   ·omega
   ·exact q
  have e:=ZL x y z p
  have w1:=z0 y z k2 k3
  have w2:=z0 z x k3 k1
  have w3:=z0 x y k1 k2
  have e1:tn x p z=tn p z x:=(Z6 x p z).symm
  have e2:tn x y p=tn p x y:=Z6 p x y
  omega
 obtain⟨d,hd,dm⟩:=Vp (fun u v=>0≤tn u b v) U hU
  (fun u _ v _=>by
    have e:tn v b u= - tn u b v:=by simp only[tn];grind
    omega)
  (fun u hu v hv w hw' h1 h2=>by
    have ku:=(mU.mp hu).2
    have kv:=(mU.mp hv).2
    have kw:=(mU.mp hw').2
    have e:tn u b w*tn p b v=tn u b v*tn p b w+tn v b w*tn p b u:=by simp only[tn];grind
    have n1:0≤tn u b v*tn p b w:=Int.mul_nonneg h1 (by omega)
    have n2:0≤tn v b w*tn p b u:=Int.mul_nonneg h2 (by omega)
    by_cases h:0≤tn u b w
    ·exact h
    ·have:tn u b w*tn p b v<0:=Int.mul_neg_of_neg_of_pos (by omega) kv
     omega)
 obtain⟨hdS,kd⟩:=mU.mp hd
 refine⟨d,hdS,b,hb,fun e=>?_,fun s hs=>?_,?_⟩
 ·rw[e,show tn p b b=0 by simp only[tn];grind] at kd
  omega
 ·have h1:=bm s hs
  by_cases h:0<tn p b s
  ·exact dm s (mU.mpr ⟨hs,h⟩)
  ·have es:tn p b s=0:=by omega
   have near:=bn s hs es
   -- on the line of p and b
   have c1:dt b b p*tn s p d= - (dt b s p*tn p b d):=by
    have i1:dt b b p*tn s p d=dt b d p*tn p b s-dt b s p*tn p b d:=by simp only[dt,tn];grind
    rw[i1,es];simp
   have c2:dt b b p*tn d b s=(dt b s p-dt b b p)*tn p b d:=by
    have i1:dt b b p*tn d b s=(dt b s p-dt b b p)*tn p b d-(dt b d p-dt b b p)*tn p b s:=by simp only[dt,tn];grind
    rw[i1,es];simp
   have c3:dt b s p*dt b s p=dt b b p*dt s s p:=by
    have i1:dt b b p*dt s s p=dt b s p*dt b s p+tn p b s*tn p b s:=by simp only[dt,tn];grind
    rw[i1,es];simp
   have hge:dt b b p≤dt b s p:=by
    by_cases q:0≤dt b s p
    ·by_cases q2:dt b b p≤dt b s p
     ·exact q2
     ·exfalso
      have l1:dt b s p*dt b s p≤dt b s p*dt b b p:=Int.mul_le_mul_of_nonneg_left (by omega) q
      have l2:dt b s p*dt b b p<dt b b p*dt b b p:=Int.mul_lt_mul_of_pos_right (by omega) hw
      have l3:dt b b p*dt b b p≤dt b b p*dt s s p:=Int.mul_le_mul_of_nonneg_left near (by omega)
      omega
    ·exfalso
     have pos:0<tn s p d:=by
      have l1:0 < -(dt b s p*tn p b d):=by
       have:=Int.mul_neg_of_neg_of_pos (show dt b s p<0 by omega) kd
       omega
      by_cases h0:0<tn s p d
      ·exact h0
      ·have:=Int.mul_nonneg (show 0≤dt b b p by omega) (show 0≤ - tn s p d by omega)
       rw[Int.mul_neg] at this
       omega
     refine no s hs b hb d hdS (Z0K (by have:=Zf p b s;omega) (by omega) ?_ (.inr (.inl kd)))
     have:tn p d s=tn s p d:=Z6 s p d
     omega
   have n1:0≤(dt b s p-dt b b p)*tn p b d:=Int.mul_nonneg (by omega) (by omega)
   by_cases h0:0≤tn d b s
   ·exact h0
   ·have:=Int.mul_neg_of_pos_of_neg hw (show tn d b s<0 by omega)
    omega
 ·have:tn d b p= - tn p b d:=by simp only[tn];grind
  omega
end
abbrev Ln:=Int×Int×Int
def hd(l:Ln)(p:Pt):Bool:=decide (l.1*p.1+l.2.1*p.2≤l.2.2)
def Z0(a b:Pt):Ln:=(b.2-a.2,a.1-b.1,(b.2-a.2)*a.1+(a.1-b.1)*a.2)
theorem ZF{a b s:Pt}:hd (Z0 a b) s=true↔0≤tn a b s:=by
 unfold hd Z0
 rw[decide_eq_true_iff]
 have e:tn a b s=((b.2-a.2)*a.1+(a.1-b.1)*a.2)-((b.2-a.2)*s.1+(a.1-b.1)*s.2):=by simp only[tn];grind
 dsimp only
 omega
def Z1(S:List Pt):List Pt:=S.foldl (fun k x=>if x∈k then k else k ++ [x]) []
theorem ZX(x:Pt):∀(S k:List Pt),x∈S.foldl (fun k x=>if x∈k then k else k ++ [x]) k↔x∈k∨x∈S
 | [],k=>by simp
 |y::S,k=>by
  rw[List.foldl_cons,ZX x S]
  by_cases h:y∈k
  ·rw[if_pos h]
   constructor
   ·rintro (q|q)
    ·exact .inl q
    ·exact .inr (List.mem_cons_of_mem _ q)
   ·rintro (q|q)
    ·exact .inl q
    ·rcases List.mem_cons.mp q with e|e
     ·exact .inl (e▸h)
     ·exact .inr e
  ·rw[if_neg h]
   simp only[List.mem_append,List.mem_cons,List.not_mem_nil,or_false]
   constructor
   ·rintro ((q|q)|q)
    ·exact .inl q
    ·exact .inr (.inl q)
    ·exact .inr (.inr q)
   ·rintro (q|q|q)
    ·exact .inl (.inl q)
    ·exact .inl (.inr q)
    ·exact .inr q
theorem Z9{x:Pt}{S:List Pt}:x∈Z1 S↔x∈S:=by unfold Z1;rw[ZX];simp
def Zr(S:List Pt):List Ln:=(Z1 S).flatMap fun a=>(Z1 S).filterMap fun b=>if a≠b∧(Z1 S).all (hd (Z0 a b)) then some (Z0 a b) else none
theorem Zk{S:List Pt}{l:Ln}:l∈Zr S↔∃a∈S,∃b∈S,a≠b∧(∀s∈S,0≤tn a b s)∧l=Z0 a b:=by
 unfold Zr
 simp only[List.mem_flatMap,List.mem_filterMap]
 constructor
 ·rintro ⟨a,ha,b,hb,h⟩
  split at h
  ·rename_i hc
   refine⟨a,Z9.mp ha,b,Z9.mp hb,hc.1,fun s hs=>?_,(Option.some.inj h).symm⟩
   exact ZF.mp (List.all_eq_true.mp hc.2 s (Z9.mpr hs))
  ·cases h
 ·rintro ⟨a,ha,b,hb,h1,h2,rfl⟩
  refine⟨a,Z9.mpr ha,b,Z9.mpr hb,?_⟩
  rw[if_pos ⟨h1,List.all_eq_true.mpr fun s hs=>ZF.mpr (h2 s (Z9.mp hs))⟩]
def mx(l:List Int):Int:=l.tail.foldl max (l.headD 0)
def mn(l:List Int):Int:=l.tail.foldl min (l.headD 0)
theorem ZT:∀(l:List Int) (m:Int),m≤l.foldl max m∧(∀x∈l,x≤l.foldl max m)∧(l.foldl max m=m∨l.foldl max m∈l)
 | [],m=>by simp
 |y::l,m=>by
  rw[List.foldl_cons]
  obtain⟨h1,h2,h3⟩:=ZT l (max m y)
  have hm:m≤(max m y)∧y≤(max m y):=⟨Int.le_max_left ..,Int.le_max_right ..⟩
  refine⟨by omega,fun x hx=>?_,?_⟩
  ·rcases List.mem_cons.mp hx with e|e
   ·subst e;omega
   ·exact h2 x e
  ·rcases h3 with q|q
   ·rw[q]
    rcases Int.le_total m y with h|h
    ·right;rw[Int.max_eq_right h];simp
    ·left;rw[Int.max_eq_left h]
   ·right;exact List.mem_cons_of_mem _ q
theorem ZU:∀(l:List Int) (m:Int),l.foldl min m≤m∧(∀x∈l,l.foldl min m≤x)∧(l.foldl min m=m∨l.foldl min m∈l)
 | [],m=>by simp
 |y::l,m=>by
  rw[List.foldl_cons]
  obtain⟨h1,h2,h3⟩:=ZU l (min m y)
  have hm:(min m y)≤m∧(min m y)≤y:=⟨Int.min_le_left ..,Int.min_le_right ..⟩
  refine⟨by omega,fun x hx=>?_,?_⟩
  ·rcases List.mem_cons.mp hx with e|e
   ·subst e;omega
   ·exact h2 x e
  ·rcases h3 with q|q
   ·rw[q]
    rcases Int.le_total m y with h|h
    ·left;rw[Int.min_eq_left h]
    ·right;rw[Int.min_eq_right h];simp
   ·right;exact List.mem_cons_of_mem _ q
theorem Vq{l:List Int}{x:Int}(h:x∈l):x≤mx l:=by
 cases l with
 |nil=>cases h
 |cons y l=>
  obtain⟨h1,h2,_⟩:=ZT l y
  rcases List.mem_cons.mp h with e|e
  ·subst e;exact h1
  ·exact h2 x e
theorem Z0B{l:List Int}(h:l≠[]):mx l∈l:=by
 cases l with
 |nil=>exact absurd rfl h
 |cons y l=>
  obtain⟨_,_,h3⟩:=ZT l y
  rcases h3 with q|q
  ·show _∈y::l
   rw[show mx (y::l)=y from q];simp
  ·exact List.mem_cons_of_mem _ q
theorem Vr{l:List Int}{x:Int}(h:x∈l):mn l≤x:=by
 cases l with
 |nil=>cases h
 |cons y l=>
  obtain⟨h1,h2,_⟩:=ZU l y
  rcases List.mem_cons.mp h with e|e
  ·subst e;exact h1
  ·exact h2 x e
theorem Z1m{l:List Int}(h:l≠[]):mn l∈l:=by
 cases l with
 |nil=>exact absurd rfl h
 |cons y l=>
  obtain⟨_,_,h3⟩:=ZU l y
  rcases h3 with q|q
  ·show _∈y::l
   rw[show mn (y::l)=y from q];simp
  ·exact List.mem_cons_of_mem _ q
def box(S:List Pt):List Ln:=[(1,0,mx (S.map (·.1))),(-1,0,- mn (S.map (·.1))),(0,1,mx (S.map (·.2))),(0,-1,- mn (S.map (·.2)))]
def Ze(S:List Pt):List Ln:=box S++Zr S
theorem ZM{S:List Pt}{l:Ln}(h:l∈Ze S){s:Pt}(hs:s∈S):hd l s=true:=by
 unfold Ze at h
 rcases List.mem_append.mp h with h|h
 ·have h1:=Vq (List.mem_map_of_mem (f:=(·.1)) hs)
  have h2:=Vr (List.mem_map_of_mem (f:=(·.1)) hs)
  have h3:=Vq (List.mem_map_of_mem (f:=(·.2)) hs)
  have h4:=Vr (List.mem_map_of_mem (f:=(·.2)) hs)
  unfold box at h
  simp only[List.mem_cons,List.not_mem_nil,or_false] at h
  unfold hd
  rw[decide_eq_true_iff]
  rcases h with e|e|e|e<;>subst e<;>simp only<;>omega
 ·obtain⟨a,_,b,_,_,h',rfl⟩:=Zk.mp h
  exact ZF.mpr (h' s hs)
def Z7(S:List Pt)(p:Pt):Option Ln:=(Ze S).find? fun l=>!hd l p
theorem ZY{S:List Pt}{p:Pt}{l:Ln}(h:Z7 S p=some l):l∈Ze S∧hd l p=false:=by
 unfold Z7 at h
 have h1:=List.find?_some h
 have h2:=List.mem_of_find?_eq_some h
 exact⟨h2,by simpa using h1⟩
theorem Z0L{S:List Pt}{p:Pt}(h:Z7 S p=none):∀l∈Ze S,hd l p=true:=by
 unfold Z7 at h
 intro l hl
 have:=List.find?_eq_none.mp h l hl
 simpa using this
def gP(a b c p:Pt):List Int:=[tn p b c,tn a p c,tn a b p]
def dh(a b p:Pt):List Int:=
 let g:=(b.1-a.1)*(p.1-a.1)+(b.2-a.2)*(p.2-a.2)
 [(b.1-a.1)*(b.1-a.1)+(b.2-a.2)*(b.2-a.2)-g,g]
def Z8(w:List Int):Bool:=decide (w.sum≠0) && w.all fun s=>decide (0≤s*w.sum)
theorem Z1a{a b c p:Pt}:Z8 (gP a b c p)=true↔pq a b c p:=by
 unfold Z8 gP pq
 have e:[tn p b c,tn a p c,tn a b p].sum=tn a b c:=by simp;have:=ZL a b c p;omega
 rw[e]
 simp[and_assoc]
def at_(S:List Pt)(i:Nat):Pt:=S.getD i (0,0)
theorem Zm{S:List Pt}{i:Nat}(h:i<S.length):at_ S i∈S:=by
 unfold at_
 rw[List.getD_eq_getElem?_getD,List.getElem?_eq_getElem h]
 exact List.getElem_mem h
theorem Zy{S:List Pt}{x:Pt}(h:x∈S):∃i,i<S.length∧at_ S i=x:=by
 obtain⟨i,hi,e⟩:=List.mem_iff_getElem.mp h
 exact⟨i,hi,by unfold at_;rw[List.getD_eq_getElem?_getD,List.getElem?_eq_getElem hi];exact e⟩
def Z2(n:Nat):List (Nat×Nat):=(List.range n).flatMap fun j=>(List.range j).map fun i=>(i,j)
def Z3(n:Nat):List (Nat×Nat×Nat):=(List.range n).flatMap fun k=>(Z2 k).map fun q=>(q.1,q.2,k)
theorem Zh{n i j:Nat}:(i,j)∈Z2 n↔i<j∧j<n:=by
 unfold Z2
 simp only[List.mem_flatMap,List.mem_range,List.mem_map,Prod.mk.injEq]
 constructor
 ·rintro ⟨k,hk,m,hm,rfl,rfl⟩;exact⟨hm,hk⟩
 ·rintro ⟨h1,h2⟩;exact⟨j,h2,i,h1,rfl,rfl⟩
theorem Z5{n i j k:Nat}:(i,j,k)∈Z3 n↔i<j∧j<k∧k<n:=by
 unfold Z3
 simp only[List.mem_flatMap,List.mem_range,List.mem_map,Prod.mk.injEq]
 constructor
 ·rintro ⟨m,hm,⟨a,b⟩,hq,rfl,rfl,rfl⟩
  have:=Zh.mp hq
  exact⟨this.1,this.2,hm⟩
 ·rintro ⟨h1,h2,h3⟩;exact⟨k,h3,(i,j),Zh.mpr ⟨h1,h2⟩,rfl,rfl,rfl⟩
def Oi(S:List Pt)(p:Pt):Option (List Int×List Nat):=(Z3 S.length).findSome? fun q=>if Z8 (gP (at_ S q.1) (at_ S q.2.1) (at_ S q.2.2) p) then some (gP (at_ S q.1) (at_ S q.2.1) (at_ S q.2.2) p,[q.1,q.2.1,q.2.2]) else none
def Vs(S:List Pt)(p:Pt):Option (List Int×List Nat):=(Z2 S.length).findSome? fun q=>if Z8 (dh (at_ S q.1) (at_ S q.2) p) then some (dh (at_ S q.1) (at_ S q.2) p,[q.1,q.2]) else none
def Z4(S:List Pt)(p:Pt):List Int×List Nat:=((Oi S p).orElse fun _=>Vs S p).getD ([1],[0])
structure Z1b(S:List Pt)(p:Pt)(w:List Int)(q:List Nat):Prop where
 len:w.length=q.length
 sum:w.sum≠0
 sign:∀s∈w,0≤s*w.sum
 nd:q.Nodup
 lt:∀i∈q,i<S.length
 x:((w.zip q).map fun a=>a.1*(at_ S a.2).1).sum=w.sum*p.1
 y:((w.zip q).map fun a=>a.1*(at_ S a.2).2).sum=w.sum*p.2
theorem Zg{w:List Int}:Z8 w=true↔w.sum≠0∧∀s∈w,0≤s*w.sum:=by
 unfold Z8
 simp
theorem Z1N{S:List Pt}{p:Pt}{i j k:Nat}(h1:i<j)(h2:j<k)(h3:k<S.length)(h:Z8 (gP (at_ S i) (at_ S j) (at_ S k) p)=true):Z1b S p (gP (at_ S i) (at_ S j) (at_ S k) p) [i,j,k]:=by
 have hs:=Zg.mp h
 refine⟨rfl,hs.1,hs.2,by simp;omega,by simp;omega,?_,?_⟩
 ·unfold gP
  simp[tn]
  grind
 ·unfold gP
  simp[tn]
  grind
theorem Z1O{S:List Pt}{p:Pt}{i j:Nat}(h1:i<j)(h2:j<S.length)(h:Z8 (dh (at_ S i) (at_ S j) p)=true)(on:tn (at_ S i) (at_ S j) p=0):Z1b S p (dh (at_ S i) (at_ S j) p) [i,j]:=by
 have hs:=Zg.mp h
 refine⟨rfl,hs.1,hs.2,by simp;omega,by simp;omega,?_,?_⟩
 ·unfold dh
  unfold tn at on
  simp
  grind
 ·unfold dh
  unfold tn at on
  simp
  grind
theorem ZG{a b:Pt}:tn a a b=0∧tn a b a=0∧tn b a a=0:=by simp only[tn];grind
theorem Z1P{S:List Pt}{p:Pt}{i j k:Nat}(hi:i<S.length)(hj:j<S.length)(hk:k<S.length)(h:pq (at_ S i) (at_ S j) (at_ S k) p):∃i j k,(i,j,k)∈Z3 S.length∧pq (at_ S i) (at_ S j) (at_ S k) p:=by
 have n1:i≠j:=fun e=>h.1 (by rw[e];exact ZG.1)
 have n2:j≠k:=fun e=>h.1 (by rw[e];exact ZG.2.2)
 have n3:i≠k:=fun e=>h.1 (by rw[e];exact ZG.2.1)
 rcases Nat.lt_or_gt_of_ne n1 with a|a<;>rcases Nat.lt_or_gt_of_ne n2 with b|b<;>rcases Nat.lt_or_gt_of_ne n3 with c|c
 ·exact⟨i,j,k,Z5.mpr ⟨a,b,hk⟩,h⟩
 ·omega
 ·exact⟨i,k,j,Z5.mpr ⟨c,b,hj⟩,h.swap.uW.swap.uW.swap.uW.swap.uW.swap.uW |> fun _=>h.uW.swap.uW.uW⟩
 ·exact⟨k,i,j,Z5.mpr ⟨c,a,hj⟩,h.uW.uW⟩
 ·exact⟨j,i,k,Z5.mpr ⟨a,c,hk⟩,h.swap⟩
 ·exact⟨j,k,i,Z5.mpr ⟨b,c,hi⟩,h.uW⟩
 ·omega
 ·exact⟨k,j,i,Z5.mpr ⟨b,a,hi⟩,h.uW.swap⟩
theorem Z0M{S:List Pt}{p:Pt}(h:Oi S p=none):∀x∈S,∀y∈S,∀z∈S,¬pq x y z p:=by
 intro x hx y hy z hz hin
 obtain⟨i,hi,rfl⟩:=Zy hx
 obtain⟨j,hj,rfl⟩:=Zy hy
 obtain⟨k,hk,rfl⟩:=Zy hz
 obtain⟨i,j,k,hm,h3⟩:=Z1P hi hj hk hin
 have:=List.findSome?_eq_none_iff.mp h (i,j,k) hm
 rw[if_pos (Z1a.mpr h3)] at this
 cases this
theorem ZZ{S:List Pt}{p:Pt}(hS:S≠[])(h:Z7 S p=none):Z1b S p (Z4 S p).1 (Z4 S p).2:=by
 have hl:=Z0L h
 unfold Z4
 cases e3:Oi S p with
 |some r=>
  obtain⟨⟨i,j,k⟩,hm,hr⟩:=List.exists_of_findSome?_eq_some e3
  obtain⟨h1,h2,h4⟩:=Z5.mp hm
  split at hr
  ·rename_i hw
   cases hr
   exact Z1N h1 h2 h4 hw
  ·cases hr
 |none=>
  have no:=Z0M e3
  have flat:∀x∈S,∀y∈S,∀z∈S,tn x y z=0:=by
   intro x hx y hy z hz
   by_cases q:tn x y z=0
   ·exact q
   ·exfalso
    obtain⟨a,ha,b,hb,hab,h1,h2⟩:=Z26 ⟨x,hx,y,hy,z,hz,q⟩ no
    have:=ZF.mp (hl (Z0 a b) (List.mem_append_right _ (Zk.mpr ⟨a,ha,b,hb,hab,h1,rfl⟩)))
    omega
  have on:∀a∈S,∀b∈S,tn a b p=0:=by
   intro a ha b hb
   by_cases hab:a=b
   ·subst hab;exact ZG.1
   ·have h1:=ZF.mp (hl (Z0 a b) (List.mem_append_right _ (Zk.mpr ⟨a,ha,b,hb,hab,fun s hs=>by rw[flat a ha b hb s hs];exact Int.le_refl 0,rfl⟩)))
    have h2:=ZF.mp (hl (Z0 b a) (List.mem_append_right _ (Zk.mpr ⟨b,hb,a,ha,fun e=>hab e.symm,fun s hs=>by rw[flat b hb a ha s hs];exact Int.le_refl 0,rfl⟩)))
    rw[Zu a b p] at h2
    omega
  have bx:∀l∈box S,hd l p=true:=fun l hm=>hl l (List.mem_append_left _ hm)
  have b1:=bx (1,0,mx (S.map (·.1))) (by simp[box])
  have b2:=bx (-1,0,- mn (S.map (·.1))) (by simp[box])
  have b3:=bx (0,1,mx (S.map (·.2))) (by simp[box])
  have b4:=bx (0,-1,- mn (S.map (·.2))) (by simp[box])
  simp only[hd,decide_eq_true_iff] at b1 b2 b3 b4
  have c1:p.1≤mx (S.map (·.1)):=by omega
  have c2:mn (S.map (·.1))≤p.1:=by omega
  have c3:p.2≤mx (S.map (·.2)):=by omega
  have c4:mn (S.map (·.2))≤p.2:=by omega
  have sq:∀z:Int,0≤z*z:=fun z=>by
   rcases Int.le_total 0 z with q|q
   ·exact Int.mul_nonneg q q
   ·exact Int.mul_nonneg_of_nonpos_of_nonpos q q
  cases e2:Vs S p with
  |some r=>
   obtain⟨⟨i,j⟩,hm,hr⟩:=List.exists_of_findSome?_eq_some e2
   obtain⟨h1,h2⟩:=Zh.mp hm
   split at hr
   ·rename_i hw
    cases hr
    exact Z1O h1 h2 hw (on _ (Zm (by omega)) _ (Zm h2))
   ·cases hr
  |none=>
   have no2:∀a∈S,∀b∈S,¬(Z8 (dh a b p)=true):=by
    intro a ha b hb hw
    obtain⟨i,hi,rfl⟩:=Zy ha
    obtain⟨j,hj,rfl⟩:=Zy hb
    have fall:∀i j,i<j→j<S.length→Z8 (dh (at_ S i) (at_ S j) p)=true→False:=by
     intro i j h1 h2 hw
     have:=List.findSome?_eq_none_iff.mp e2 (i,j) (Zh.mpr ⟨h1,h2⟩)
     rw[if_pos hw] at this
     cases this
    rcases Nat.lt_trichotomy i j with q|q|q
    ·exact fall i j q hj hw
    ·subst q
     refine(Zg.mp hw).1 ?_
     simp[dh]
    ·refine fall j i q hi ?_
     rw[Zg] at hw ⊢
     have e1:(dh (at_ S j) (at_ S i) p).sum=(dh (at_ S i) (at_ S j) p).sum:=by simp[dh];grind
     refine⟨by rw[e1];exact hw.1,fun s hs=>?_⟩
     rw[e1]
     refine hw.2 s ?_
     simp[dh] at hs ⊢
     rcases hs with e|e
     ·right;rw[e];grind
     ·left;rw[e];grind
   have key:∀a∈S,∀b∈S,(0<b.1-a.1→a.1≤p.1→p.1≤b.1→False)∧(0<b.2-a.2→a.2≤p.2→p.2≤b.2→False):=by
    intro a ha b hb
    have o:=on a ha b hb
    have e:(b.1-a.1)*(p.2-a.2)=(b.2-a.2)*(p.1-a.1):=by unfold tn at o;omega
    refine⟨fun h1 h2 h3=>no2 a ha b hb ?_,fun h1 h2 h3=>no2 a ha b hb ?_⟩
    all_goals
     rw[Zg]
     have hsum:(dh a b p).sum=(b.1-a.1)*(b.1-a.1)+(b.2-a.2)*(b.2-a.2):=by simp[dh]
     have s1:=sq (b.1-a.1)
     have s2:=sq (b.2-a.2)
    ·have pos:0<(b.1-a.1)*(b.1-a.1):=Int.mul_pos h1 h1
     have g1:0≤(b.1-a.1)*(p.1-a.1)+(b.2-a.2)*(p.2-a.2):=by
      have i1:((b.1-a.1)*(p.1-a.1)+(b.2-a.2)*(p.2-a.2))*(b.1-a.1)=((b.1-a.1)*(b.1-a.1)+(b.2-a.2)*(b.2-a.2))*(p.1-a.1):=by grind
      have i2:0≤((b.1-a.1)*(b.1-a.1)+(b.2-a.2)*(b.2-a.2))*(p.1-a.1):=Int.mul_nonneg (by omega) (by omega)
      by_cases q:0≤(b.1-a.1)*(p.1-a.1)+(b.2-a.2)*(p.2-a.2)
      ·exact q
      ·have:=Int.mul_neg_of_neg_of_pos (show(b.1-a.1)*(p.1-a.1)+(b.2-a.2)*(p.2-a.2)<0 by omega) h1
       omega
     have g2:0≤(b.1-a.1)*(b.1-a.1)+(b.2-a.2)*(b.2-a.2)-((b.1-a.1)*(p.1-a.1)+(b.2-a.2)*(p.2-a.2)):=by
      have i1:((b.1-a.1)*(b.1-a.1)+(b.2-a.2)*(b.2-a.2)-((b.1-a.1)*(p.1-a.1)+(b.2-a.2)*(p.2-a.2)))*(b.1-a.1)=((b.1-a.1)*(b.1-a.1)+(b.2-a.2)*(b.2-a.2))*(b.1-p.1):=by grind
      have i2:0≤((b.1-a.1)*(b.1-a.1)+(b.2-a.2)*(b.2-a.2))*(b.1-p.1):=Int.mul_nonneg (by omega) (by omega)
      by_cases q:0≤(b.1-a.1)*(b.1-a.1)+(b.2-a.2)*(b.2-a.2)-((b.1-a.1)*(p.1-a.1)+(b.2-a.2)*(p.2-a.2))
      ·exact q
      ·have:=Int.mul_neg_of_neg_of_pos (show(b.1-a.1)*(b.1-a.1)+(b.2-a.2)*(b.2-a.2)-((b.1-a.1)*(p.1-a.1)+(b.2-a.2)*(p.2-a.2))<0 by omega) h1
       omega
     rw[hsum]
     refine⟨by omega,fun s hs=>?_⟩
     simp[dh] at hs
     rcases hs with e|e<;>rw[e]
     ·exact Int.mul_nonneg g2 (by omega)
     ·exact Int.mul_nonneg g1 (by omega)
    ·have pos:0<(b.2-a.2)*(b.2-a.2):=Int.mul_pos h1 h1
     have g1:0≤(b.1-a.1)*(p.1-a.1)+(b.2-a.2)*(p.2-a.2):=by
      have i1:((b.1-a.1)*(p.1-a.1)+(b.2-a.2)*(p.2-a.2))*(b.2-a.2)=((b.1-a.1)*(b.1-a.1)+(b.2-a.2)*(b.2-a.2))*(p.2-a.2):=by grind
      have i2:0≤((b.1-a.1)*(b.1-a.1)+(b.2-a.2)*(b.2-a.2))*(p.2-a.2):=Int.mul_nonneg (by omega) (by omega)
      by_cases q:0≤(b.1-a.1)*(p.1-a.1)+(b.2-a.2)*(p.2-a.2)
      ·exact q
      ·have:=Int.mul_neg_of_neg_of_pos (show(b.1-a.1)*(p.1-a.1)+(b.2-a.2)*(p.2-a.2)<0 by omega) h1
       omega
     have g2:0≤(b.1-a.1)*(b.1-a.1)+(b.2-a.2)*(b.2-a.2)-((b.1-a.1)*(p.1-a.1)+(b.2-a.2)*(p.2-a.2)):=by
      have i1:((b.1-a.1)*(b.1-a.1)+(b.2-a.2)*(b.2-a.2)-((b.1-a.1)*(p.1-a.1)+(b.2-a.2)*(p.2-a.2)))*(b.2-a.2)=((b.1-a.1)*(b.1-a.1)+(b.2-a.2)*(b.2-a.2))*(b.2-p.2):=by grind
      have i2:0≤((b.1-a.1)*(b.1-a.1)+(b.2-a.2)*(b.2-a.2))*(b.2-p.2):=Int.mul_nonneg (by omega) (by omega)
      by_cases q:0≤(b.1-a.1)*(b.1-a.1)+(b.2-a.2)*(b.2-a.2)-((b.1-a.1)*(p.1-a.1)+(b.2-a.2)*(p.2-a.2))
      ·exact q
      ·have:=Int.mul_neg_of_neg_of_pos (show(b.1-a.1)*(b.1-a.1)+(b.2-a.2)*(b.2-a.2)-((b.1-a.1)*(p.1-a.1)+(b.2-a.2)*(p.2-a.2))<0 by omega) h1
       omega
     rw[hsum]
     refine⟨by omega,fun s hs=>?_⟩
     simp[dh] at hs
     rcases hs with e|e<;>rw[e]
     ·exact Int.mul_nonneg g2 (by omega)
     ·exact Int.mul_nonneg g1 (by omega)
   have nm:∀f:Pt→Int,S.map f≠[]:=fun f e=>hS (List.map_eq_nil_iff.mp e)
   obtain⟨xa,hxa,exa⟩:=List.mem_map.mp (Z1m (nm (·.1)))
   obtain⟨xb,hxb,exb⟩:=List.mem_map.mp (Z0B (nm (·.1)))
   obtain⟨ya,hya,eya⟩:=List.mem_map.mp (Z1m (nm (·.2)))
   obtain⟨yb,hyb,eyb⟩:=List.mem_map.mp (Z0B (nm (·.2)))
   have h0:at_ S 0∈S:=Zm (List.length_pos_iff.mpr hS)
   have l1:=Vq (List.mem_map_of_mem (f:=(·.1)) h0)
   have l2:=Vr (List.mem_map_of_mem (f:=(·.1)) h0)
   have l3:=Vq (List.mem_map_of_mem (f:=(·.2)) h0)
   have l4:=Vr (List.mem_map_of_mem (f:=(·.2)) h0)
   have ex:p.1=(at_ S 0).1:=by
    by_cases q:mn (S.map (·.1))<mx (S.map (·.1))
    ·exact((key xa hxa xb hxb).1 (by omega) (by omega) (by omega)).elim
    ·omega
   have ey:p.2=(at_ S 0).2:=by
    by_cases q:mn (S.map (·.2))<mx (S.map (·.2))
    ·exact((key ya hya yb hyb).2 (by omega) (by omega) (by omega)).elim
    ·omega
   refine⟨rfl,by simp,by simp,by simp,by simp;exact List.length_pos_iff.mpr hS,?_,?_⟩
   ·simp[ex]
   ·simp[ey]
end Hu
namespace Fr
theorem Z1c{t b s W C:Int}(hb:0<b)(h:t*W=s*b)(hd:b ∣ C):C / b*t*W=C*s:=by
 obtain⟨q,rfl⟩:=hd
 rw[Int.mul_ediv_cancel_left q (by omega)]
 calc q*t*W=q*(t*W):=by rw[Int.mul_assoc]
  _=q*(s*b):=by rw[h]
  _=b*q*s:=by rw[Int.mul_comm b q,Int.mul_assoc,Int.mul_comm s b]
theorem Zt{α:Type}{f g:α→Int}{W C:Int}:∀(l:List α),(∀x∈l,f x*W=C*g x)→(l.map f).sum*W=C*(l.map g).sum
 | [],_=>by simp
 |x::l,h=>by
  rw[List.map_cons,List.map_cons,List.sum_cons,List.sum_cons,Int.add_mul,Int.mul_add,h x (by simp),Zt l fun y hy=>h y (List.mem_cons_of_mem _ hy)]
theorem Z08:∀(bs:List Int) (a:Int),a ∣ bs.foldl (·* ·) a∧∀b∈bs,b ∣ bs.foldl (·* ·) a
 | [],a=>⟨⟨1,by simp⟩,fun b hb=>by cases hb⟩
 |x::bs,a=>by
  obtain⟨h1,h2⟩:=Z08 bs (a*x)
  rw[List.foldl_cons]
  refine⟨Int.dvd_trans ⟨x,rfl⟩ h1,fun b hb=>?_⟩
  rcases List.mem_cons.mp hb with e|e
  ·subst e;exact Int.dvd_trans ⟨a,Int.mul_comm a b⟩ h1
  ·exact h2 b e
theorem Z09:∀(bs:List Int) (a:Int),0<a→(∀b∈bs,0<b)→0<bs.foldl (·* ·) a
 | [],a,h,_=>h
 |x::bs,a,h,hb=>by
  rw[List.foldl_cons]
  exact Z09 bs (a*x) (Int.mul_pos h (hb x (by simp))) fun b hb'=>hb b (List.mem_cons_of_mem _ hb')
def df:List Int→(Nat→Int)→Int
 | [],_=>0
 |x::l,f=>x*f 0+df l fun k=>f (k+1)
theorem Z0N:∀(l:List Int) (i:Nat) (s:Int) (f:Nat→Int),i<l.length→l.getD i 0=0→df (l.set i s) f=df l f+s*f i
 | [],_,_,_,h,_=>by simp at h
 |x::l,0,s,f,_,h=>by
  have e:x=0:=by simpa using h
  subst e
  simp[df]
  omega
 |x::l,i+1,s,f,hl,h=>by
  have:=Z0N l i s (fun k=>f (k+1)) (by simpa using hl) (by simpa using h)
  simp only[List.set_cons_succ,df,this]
  omega
theorem Z1u(n:Nat):∀(f:Nat→Int),df (List.replicate n 0) f=0:=by
 induction n with
 |zero=>intro f;rfl
 |succ n ih=>intro f;rw[List.replicate_succ];simp[df,ih]
def lay(l:List Int)(a:List (Int×Nat)):List Int:=a.foldl (fun acc a=>acc.set a.2 a.1) l
theorem ZV:∀(a:List (Int×Nat)) (l:List Int),(lay l a).length=l.length
 | [],l=>rfl
 |x::a,l=>by unfold lay;rw[List.foldl_cons];exact(ZV a _).trans (by simp)
theorem Z0O:∀(a:List (Int×Nat)) (l:List Int) (f:Nat→Int),(a.map (·.2)).Nodup→(∀x∈a,x.2<l.length)→(∀x∈a,l.getD x.2 0=0)→df (lay l a) f=df l f+(a.map fun x=>x.1*f x.2).sum
 | [],l,f,_,_,_=>by simp[lay]
 |x::a,l,f,nd,lt,z=>by
  rw[List.map_cons,List.nodup_cons] at nd
  have h1:=Z0N l x.2 x.1 f (lt x (by simp)) (z x (by simp))
  have h2:=Z0O a (l.set x.2 x.1) f nd.2 (fun y hy=>by simpa using lt y (List.mem_cons_of_mem _ hy)) fun y hy=>by
   have hne:x.2≠y.2:=fun e=>nd.1 (e▸List.mem_map_of_mem hy)
   rw[List.getD_eq_getElem?_getD,List.getElem?_set_ne hne,←List.getD_eq_getElem?_getD]
   exact z y (List.mem_cons_of_mem _ hy)
  unfold lay at h2 ⊢
  rw[List.foldl_cons,h2,h1,List.map_cons,List.sum_cons]
  omega
theorem Z0r:∀(a:List (Int×Nat)) (l:List Int) (x:Int),x∈lay l a→x∈l∨x∈a.map (·.1)
 | [],l,x,h=>.inl h
 |y::a,l,x,h=>by
  unfold lay at h
  rw[List.foldl_cons] at h
  rcases Z0r a (l.set y.2 y.1) x h with q|q
  ·rcases List.mem_or_eq_of_mem_set q with q|q
   ·exact .inl q
   ·right;rw[q];simp
  ·right;rw[List.map_cons];exact List.mem_cons_of_mem _ q
theorem Z0P:∀(l:List Int),df l (fun _=>1)=l.sum
 | []=>rfl
 |x::l=>by simp[df,Z0P l]
theorem Z0a:∀(l:List Int) (f:Nat→Int),df l f=((List.range l.length).map fun k=>l.getD k 0*f k).sum
 | [],f=>rfl
 |x::l,f=>by
  rw[List.length_cons,List.range_succ_eq_map,List.map_cons,List.map_map,List.sum_cons]
  simp only[df,Z0a l]
  rfl
end Fr
namespace T
open PySem L2 M2 M3 M4 P
def top(i:Nat):Stmt:=PySem.Challenge.pw_shadowpost_k26_weights_or_a_line.main.body.getD i (.Pass ⟨0,0,0,0⟩)
abbrev ou:Stmt:=top 24
abbrev oA:Stmt:=top 25
abbrev oE:Stmt:=top 30
abbrev xY:Stmt:=top 31
abbrev dJ:Stmt:=top 32
abbrev jf:Stmt:=top 8
abbrev oF:Stmt:=top 10
abbrev xZ:Stmt:=top 9
abbrev oG:Stmt:=top 7
abbrev kE:Stmt:=top 11
abbrev yc:Stmt:=top 12
abbrev yd:Stmt:=top 13
abbrev uK:Stmt:=top 19
abbrev uL:Stmt:=top 20
abbrev yg:Stmt:=top 4
abbrev oH:Stmt:=top 5
abbrev kI:Stmt:=top 18
abbrev oJ:Stmt:=top 14
abbrev yh:Stmt:=top 15
abbrev kJ:Stmt:=top 17
abbrev yj:Stmt:=top 16
abbrev jg:Stmt:=top 21
abbrev oK:Stmt:=top 22
abbrev yq:Stmt:=top 26
abbrev gD:Stmt:=top 27
abbrev kO:Stmt:=top 28
abbrev oM:Stmt:=top 29
abbrev gF:Stmt:=top 33
def Za:List ((String×String)×Bool):=[]
def Zb:List ((String×String)×Bool):=[]
def Zc:List String:=[]
def Zd:List String:=[]
def Aj(c0:Addr)(c1:Addr):String→Addr:=fun s=>match s with
 | "YardError" =>c0
 | "NoNumber" =>c1
 |_=>0
noncomputable def mD:M Fl:=(Ę (cD (bh (Ą nH (Ā 1) (ak aB (ą (Ā 0) Ė))))
 (ľ (ř (Ą đ (Ā 0) (Ā 1))))
 cN)
 (ľ (ř (mC (.int 0)))))
noncomputable def aH:MF:=š 2 2 mD
noncomputable def qu:M Fl:=(Ę (Į 0 (Ĳ ĭ (ě (Ĳ ĭ (Ą Ņ (Ā 0) (mC (.int 1073741789))) (Ą Ĕ (mC (.int 3)) (Ā 1)))) (mC (.int 1))))
 (Ę (wu (gS 2 (ı (gN 2) (ı (gN 3) ſ))) (ak fj (ą (ě (Ĳ ĭ (Ą Ĕ (Ā 0) (mC (.int 40009))) (Ą Ĕ (Ā 1) (mC (.int 5501))))) (ą (mC (.int 32749)) Ė))))
 (ľ (ř (Ą Ņ (ě (Ĳ ĭ (ě (Ĳ ĭ (Ą Ĕ (Ā 2) (Ā 2)) (Ą Ĕ (Ā 3) (ě (Ĳ ĭ (Ā 3) (mC (.int 613))))))) (Ā 1))) (mC (.int 1500450271)))))))
noncomputable def Ŕ:MF:=š 2 4 qu
noncomputable def jh:M Fl:=(Ę (Į 4 (ř (Ą Ņ (Ą œ (Ā 0) (mC (.int 2))) (Ą Ÿ (mC (.int 10)) (mC (.int 60))))))
 (Ę (Į 5 (Ĳ ĭ (Ą Ĕ (mC (.int 2)) (Ą Ÿ (mC (.int 10)) (mC (.int 16)))) (mC (.int 1))))
 (Ę (cD (bh (Ą Ų (Ą Ņ (Ā 0) (mC (.int 2))) (mC (.int 1))))
 (Ę (Į 4 (Ğ Ŕ (Ĩ (ě (Ĳ ĭ (ě (Ğ Ŕ (Ċ 4 (Ċ 3 ĝ)))) (Ā 4))) (Ċ 3 ĝ))))
 (Į 4 (Ĳ ĭ (ě (Ĳ ĭ (Ā 4) (Ą Ĕ (ě (Ğ Ŕ (Ċ 4 (Ĩ (mC (.int 1)) ĝ)))) (mC (.int 13666327))))) (Ą Ĕ (Ą Ĕ (ě (Ğ Ŕ (Ċ 4 (Ĩ (mC (.int 2)) ĝ)))) (mC (.int 13666351))) (Ā 5)))))
 cN)
 (Ę (cD (bh (Ą Ų (Ā 2) (mC (.int 0))))
 (ľ (ř (Ŝ (ą (Ą ň (Ą Ņ (Ā 4) (mC (.int 9))) (mC (.int 4))) (ą (Ą ň (Ą Ņ (Ą œ (Ā 4) (mC (.int 9))) (mC (.int 9))) (mC (.int 4))) Ė)))))
 cN)
 (Ę (cD (bh (Ą Ų (Ā 2) (mC (.int 1))))
 (Ę (Į 6 (ř (Ą ň (Ą Ņ (Ā 4) (mC (.int 13))) (mC (.int 6)))))
 (ľ (ř (Ŝ (ą (ě (Ĳ ĭ (Ą Ĕ (Ā 6) (Ą đ (Ā 1) (mC (.int 0)))) (mC (.int 3)))) (ą (Ą ň (Ą Ĕ (Ā 6) (Ą đ (Ā 1) (mC (.int 1)))) (mC (.int 2))) Ė))))))
 cN)
 (ľ (ř (Ŝ (ą (Ą ň (Ą Ņ (Ā 4) (Ā 5)) (Ą Ÿ (mC (.int 10)) (mC (.int 16)))) (ą (Ą ň (Ą Ņ (Ą œ (Ā 4) (Ā 5)) (Ā 5)) (Ą Ÿ (mC (.int 10)) (mC (.int 16)))) Ė))))))))))
noncomputable def gG:MF:=š 4 7 jh
noncomputable def ji:M Fl:=(Ę (Į 7 (Ğ aH (Ċ 0 (Ĩ (ě (Ĳ ĭ (ě (Ĳ ĭ (Ā 1) (mC (.int 1)))) (Ā 6))) ĝ))))
 (cD (rG (bh (Ą ŵ (Ā 5) (ě (bI Ė)))) (bh (Ą Ų (Ą Ņ (Ā 7) (mC (.int 4))) (mC (.int 3)))))
 (pQ 5 (Ą đ (Ā 5) (ur aW (mC (.int 1)))))
 (pQ 5 (ě (Ğ gG (Ĩ (Ą œ (Ā 7) (mC (.int 4))) (Ċ 3 (Ċ 4 (Ċ 6 ĝ)))))))))
noncomputable def yr:M Fl:=(Ę (Į 2 (ř (Ą Ņ (ě (Ğ aH (Ċ 0 (Ċ 1 ĝ)))) (Ą Ÿ (mC (.int 10)) (mC (.int 9))))))
 (Ę (Į 3 (ř (Ą đ (ě (bI (ą (Ŝ (ą (mC (.int 1)) (ą (mC (.int 0)) Ė))) (ą (Ŝ (ą (mC (.int 0)) (ą (mC (.int 1)) Ė))) (ą (Ŝ (ą (mC (.int 1)) (ą (mC (.int 2)) Ė))) (ą (Ŝ (ą (ur aW (mC (.int 3))) (ą (mC (.int 2)) Ė))) (ą (Ŝ (ą (Ą Ÿ (mC (.int 10)) (mC (.int 12))) (ą (Ą ň (mC (.int 7)) (Ą Ÿ (mC (.int 10)) (mC (.int 12)))) Ė))) Ė))))))) (Ą Ņ (Ą œ (Ā 2) (mC (.int 24))) (mC (.int 5))))))
 (Ę (Į 4 (ř (Ą đ (ě (bI (ą (mC (.int 0)) (ą (mC (.int 0)) (ą (mC (.int 1)) (ą (mC (.int 2)) Ė)))))) (Ą Ņ (Ą œ (Ā 2) (mC (.int 8))) (mC (.int 4))))))
 (Ę (Į 5 (bI Ė))
 (Ę (cQ (bA bK (ą (ě (Ĳ ĭ (mC (.int 1)) (Ą Ņ (Ā 2) (mC (.int 8))))) Ė)) (gN 6) ji)
 (ľ (dH 5)))))))
noncomputable def jE:MF:=š 2 8 yr
noncomputable def dZ:M Fl:=(Ę (Į 1 (ř (Ą Ņ (Ā 1) (Ą Ÿ (mC (.int 10)) (mC (.int 15))))))
 (Ę (Į 2 (ř (Ą Ņ (Ā 1) (mC (.int 5)))))
 (Ę (Į 3 (ř (Ą Ņ (Ą œ (Ā 1) (mC (.int 5))) (ak aB (ą (Ā 0) Ė)))))
 (Ę (cD (bh (Ą Ų (Ā 2) (mC (.int 0))))
 (ľ (ř (Ŝ (ą (Ą ň (Ą Ņ (Ą œ (Ā 1) (mC (.int 40))) (mC (.int 11))) (mC (.int 5))) (ą (Ą ň (Ą Ņ (Ą œ (Ā 1) (mC (.int 440))) (mC (.int 11))) (mC (.int 5))) Ė)))))
 cN)
 (Ę (cD (bh (Ą Ų (Ā 2) (mC (.int 1))))
 (ľ (ř (Ą đ (Ā 0) (Ā 3))))
 cN)
 (Ę (cD (bh (Ą Ų (Ā 2) (mC (.int 3))))
 (Ę (Į 8 (ř (Ą ň (ě (Ĳ ĭ (Ą œ (ě (Ĳ ĭ (Ą đ (Ą đ (Ā 0) (Ā 3)) (mC (.int 0))) (Ą đ (Ą đ (Ā 0) (Ą ň (Ā 3) (mC (.int 1)))) (mC (.int 0))))) (mC (.int 2))) (Ą Ņ (Ą œ (Ā 1) (mC (.int 40))) (mC (.int 3))))) (mC (.int 1)))))
 (Ę (Į 9 (ř (Ą ň (ě (Ĳ ĭ (Ą œ (ě (Ĳ ĭ (Ą đ (Ą đ (Ā 0) (Ā 3)) (mC (.int 1))) (Ą đ (Ą đ (Ā 0) (Ą ň (Ā 3) (mC (.int 1)))) (mC (.int 1))))) (mC (.int 2))) (Ą Ņ (Ą œ (Ā 1) (mC (.int 120))) (mC (.int 3))))) (mC (.int 1)))))
 (ľ (ř (Ŝ (ą (ak gB (ą (Ą ň (mC (.int 0)) (Ą Ÿ (mC (.int 10)) (mC (.int 16)))) (ą (ak iV (ą (Ā 8) (ą (Ą Ÿ (mC (.int 10)) (mC (.int 16))) Ė))) Ė))) (ą (ak gB (ą (Ą ň (mC (.int 0)) (Ą Ÿ (mC (.int 10)) (mC (.int 16)))) (ą (ak iV (ą (Ā 9) (ą (Ą Ÿ (mC (.int 10)) (mC (.int 16))) Ė))) Ė))) Ė)))))))
 cN)
 (Ę (cD (bh (Ą Ų (Ā 2) (mC (.int 2))))
 (Ę (Į 10 (Ĳ ĭ (ě (ţ [0,1] 1 (bA bK (ą (ak aB (ą (Ā 0) Ė)) Ė)) (gN 2) (bh (Ą Ų (Ą Ņ (ě (Ğ Ŕ (Ĩ (Ą œ (Ā 1) (mC (.int 40))) (Ċ 2 ĝ)))) (mC (.int 2))) (mC (.int 0)))) (Ą đ (Ā 0) (Ā 2)))) (ě (bI (ą (Ą đ (Ā 0) (Ā 3)) Ė)))))
 (Ę (Į 8 (ř (ak dY (ą (ě (ţ [] 1 (ņ 10) (gN 0) ŋ (Ą đ (Ā 0) (mC (.int 0))))) Ė))))
 (Ę (Į 9 (ř (ak dY (ą (ě (ţ [] 1 (ņ 10) (gN 0) ŋ (Ą đ (Ā 0) (mC (.int 1))))) Ė))))
 (ľ (ř (Ŝ (ą (Ą œ (Ā 8) (ak aB (ą (Ā 10) Ė))) (ą (Ą œ (Ā 9) (ak aB (ą (Ā 10) Ė))) Ė))))))))
 cN)
 (Ę (Į 4 (ř (Ą đ (ě (bI (ą (Ŝ (ą (mC (.int 1)) (ą (mC (.int 0)) Ė))) (ą (Ŝ (ą (mC (.int 0)) (ą (mC (.int 1)) Ė))) (ą (Ŝ (ą (mC (.int 1)) (ą (mC (.int 1)) Ė))) (ą (Ŝ (ą (mC (.int 1)) (ą (ur aW (mC (.int 1))) Ė))) (ą (Ŝ (ą (ur aW (mC (.int 1))) (ą (mC (.int 0)) Ė))) (ą (Ŝ (ą (mC (.int 0)) (ą (ur aW (mC (.int 1))) Ė))) (ą (Ŝ (ą (mC (.int 2)) (ą (mC (.int 3)) Ė))) (ą (Ŝ (ą (ur aW (mC (.int 5))) (ą (mC (.int 1)) Ė))) Ė)))))))))) (Ą Ņ (Ą œ (Ā 1) (mC (.int 40))) (mC (.int 8))))))
 (Ę (Į 5 (ř (ak gC (ą (ě (ţ [4] 1 (ņ 0) (gN 1) ŋ (ě (Ĳ ĭ (Ą Ĕ (Ą đ (Ā 0) (mC (.int 0))) (Ą đ (Ā 1) (mC (.int 0)))) (Ą Ĕ (Ą đ (Ā 0) (mC (.int 1))) (Ą đ (Ā 1) (mC (.int 1)))))))) Ė))))
 (Ę (Į 6 (ř (Ą đ (ě (ţ [5,4] 1 (ņ 0) (gN 2) (bh (Ą Ų (ě (Ĳ ĭ (Ą Ĕ (Ą đ (Ā 1) (mC (.int 0))) (Ą đ (Ā 2) (mC (.int 0)))) (Ą Ĕ (Ą đ (Ā 1) (mC (.int 1))) (Ą đ (Ā 2) (mC (.int 1)))))) (Ā 0))) (ĺ 2))) (mC (.int 0)))))
 (Ę (Į 7 (ř (Ą Ņ (Ą œ (Ā 1) (mC (.int 320))) (mC (.int 2)))))
 (Ę (Į 8 (Ĳ ĭ (Ą đ (Ā 6) (mC (.int 0))) (Ą Ĕ (Ā 7) (Ą ň (ak nQ (ą (Ą BP (Ą đ (Ā 4) (mC (.int 0))) (mC (.int 0))) Ė)) (ak nQ (ą (Ą nH (Ą đ (Ā 4) (mC (.int 0))) (mC (.int 0))) Ė))))))
 (Ę (Į 9 (Ĳ ĭ (Ą đ (Ā 6) (mC (.int 1))) (Ą Ĕ (Ā 7) (Ą ň (ak nQ (ą (Ą BP (Ą đ (Ā 4) (mC (.int 1))) (mC (.int 0))) Ė)) (ak nQ (ą (Ą nH (Ą đ (Ā 4) (mC (.int 1))) (mC (.int 0))) Ė))))))
 (ľ (ř (Ŝ (ą (ak gB (ą (Ą ň (mC (.int 0)) (Ą Ÿ (mC (.int 10)) (mC (.int 16)))) (ą (ak iV (ą (Ā 8) (ą (Ą Ÿ (mC (.int 10)) (mC (.int 16))) Ė))) Ė))) (ą (ak gB (ą (Ą ň (mC (.int 0)) (Ą Ÿ (mC (.int 10)) (mC (.int 16)))) (ą (ak iV (ą (Ā 9) (ą (Ą Ÿ (mC (.int 10)) (mC (.int 16))) Ė))) Ė))) Ė))))))))))))))))))
noncomputable def aU:MF:=š 2 11 dZ
noncomputable def qw:M Fl:=(Ę (Į 1 (ţ [] 1 (ņ 0) (gN 0) ŋ (Ą đ (Ā 0) (mC (.int 0)))))
 (Ę (Į 2 (ţ [] 1 (ņ 0) (gN 0) ŋ (Ą đ (Ā 0) (mC (.int 1)))))
 (ľ (bI (ą (Ŝ (ą (mC (.int 1)) (ą (mC (.int 0)) (ą (ak gC (ą (Ā 1) Ė)) Ė)))) (ą (Ŝ (ą (ur aW (mC (.int 1))) (ą (mC (.int 0)) (ą (ur aW (ak jZ (ą (Ā 1) Ė))) Ė)))) (ą (Ŝ (ą (mC (.int 0)) (ą (mC (.int 1)) (ą (ak gC (ą (Ā 2) Ė)) Ė)))) (ą (Ŝ (ą (mC (.int 0)) (ą (ur aW (mC (.int 1))) (ą (ur aW (ak jZ (ą (Ā 2) Ė))) Ė)))) Ė))))))))
noncomputable def kW:MF:=š 1 3 qw
noncomputable def gb:M Fl:=(cD (bh (Ą (inD true) (Ā 2) (Ā 1)))
 (pQ 1 (ĺ 2))
 cN)
noncomputable def qy:M Fl:=(Ę (Į 1 (bI Ė))
 (Ę (cQ (ņ 0) (gN 2) gb)
 (ľ (dH 1))))
noncomputable def kY:MF:=š 1 3 qy
noncomputable def yt:M Fl:=(Ę (Į 2 (ř (Ą ň (Ą đ (Ā 1) (mC (.int 1))) (Ą đ (Ā 0) (mC (.int 1))))))
 (Ę (Į 3 (ř (Ą ň (Ą đ (Ā 0) (mC (.int 0))) (Ą đ (Ā 1) (mC (.int 0))))))
 (ľ (ř (Ŝ (ą (ĺ 2) (ą (ĺ 3) (ą (ě (Ĳ ĭ (Ą Ĕ (Ā 2) (Ą đ (Ā 0) (mC (.int 0)))) (Ą Ĕ (Ā 3) (Ą đ (Ā 0) (mC (.int 1)))))) Ė))))))))
noncomputable def uM:MF:=š 2 4 yt
noncomputable def qz:M Fl:=(ľ (ř (Ą pW (ě (Ĳ ĭ (Ą Ĕ (Ą đ (Ā 0) (mC (.int 0))) (Ą đ (Ā 1) (mC (.int 0)))) (Ą Ĕ (Ą đ (Ā 0) (mC (.int 1))) (Ą đ (Ā 1) (mC (.int 1)))))) (Ą đ (Ā 0) (mC (.int 2))))))
noncomputable def dM:MF:=š 2 2 qz
noncomputable def gj:M Fl:=(Ę (Į 5 (Ğ uM (Ċ 3 (Ċ 4 ĝ))))
 (cD (rG (bh (Ą ŵ (Ā 3) (Ā 4))) (cC (ak pX (ą (ě (ţ [5] 1 (ņ 2) (gN 1) ŋ (ě (Ğ dM (Ċ 0 (Ċ 1 ĝ)))))) Ė))))
 (pQ 1 (ĺ 5))
 cN))
noncomputable def mF:M Fl:=(cQ (ņ 2) (gN 4) gj)
noncomputable def qC:M Fl:=(Ę (Į 1 (bI Ė))
 (Ę (Į 2 (Ğ kY (Ċ 0 ĝ)))
 (Ę (cQ (ņ 2) (gN 3) mF)
 (ľ (dH 1)))))
noncomputable def kZ:MF:=š 1 6 qC
noncomputable def yu:M Fl:=(ľ (Ĳ ĭ (ě (Ğ kW (Ċ 0 ĝ))) (ě (Ğ kZ (Ċ 0 ĝ)))))
noncomputable def uN:MF:=š 1 1 yu
noncomputable def sU:M Fl:=(cD (bH (cC (ě (Ğ dM (Ċ 2 (Ċ 1 ĝ))))))
 (ľ (dH 2))
 cN)
noncomputable def sV:M Fl:=(Ę (cQ (aA (ě (Ğ uN (Ċ 0 ĝ)))) (gN 2) sU)
 (ľ (ř (mC .non))))
noncomputable def qD:MF:=š 2 3 sV
noncomputable def oN:M Fl:=(ql 1 (ţ [2] 1 (bA bK (ą (ĺ 2) Ė)) (gN 1) ŋ (Ŝ (ą (ĺ 1) (ą (ĺ 0) Ė)))))
noncomputable def yw:M Fl:=(Ę (Į 1 (bI Ė))
 (Ę (cQ (bA bK (ą (ĺ 0) Ė)) (gN 2) oN)
 (ľ (dH 1))))
noncomputable def oO:MF:=š 1 3 yw
noncomputable def oR:M Fl:=(ql 1 (ţ [2] 1 (CJ (aA (ě (Ğ oO (Ċ 2 ĝ))))) (gN 1) ŋ (Ŝ (ą (Ą đ (Ā 1) (mC (.int 0))) (ą (Ą đ (Ā 1) (mC (.int 1))) (ą (ĺ 0) Ė))))))
noncomputable def yx:M Fl:=(Ę (Į 1 (bI Ė))
 (Ę (cQ (bA bK (ą (ĺ 0) Ė)) (gN 2) oR)
 (ľ (dH 1))))
noncomputable def uO:MF:=š 1 3 yx
noncomputable def DN:M Fl:=(Ś (bh (Ą ŵ (Ā 1) (mC (.int 0))))
 (Ę (Į 2 (ř (Ą Ņ (Ā 0) (Ā 1))))
 (Ę (Į 0 (ř (ĺ 1)))
 (Į 1 (ř (ĺ 2))))))
noncomputable def yC:M Fl:=(Ę DN
 (ľ (ř (ak BZ (ą (Ā 0) Ė)))))
noncomputable def uP:MF:=š 2 3 yC
noncomputable def mG:M Fl:=(Ę (cD (bh (Ą Ų (Ā 1) (mC (.int 0))))
 (pZ "NoNumber")
 cN)
 (Ę (Į 2 (Ğ uP (Ċ 0 (Ċ 1 ĝ))))
 (Ę (cD (bh (Ą nH (Ā 1) (mC (.int 0))))
 (Į 2 (ř (ur aW (Ā 2))))
 cN)
 (ľ (ř (Ŝ (ą (Ą œ (Ā 0) (Ā 2)) (ą (Ą œ (Ā 1) (Ā 2)) Ė))))))))
noncomputable def cV:MF:=š 2 3 mG
noncomputable def mH:M Fl:=(pO 4 (ĺ 6) (ě (Ğ cV (Ċ 5 (Ċ 3 ĝ)))))
noncomputable def gk:M Fl:=(Ę (Į 3 (ř (ak dY (ą (Ā 0) Ė))))
 (Ę (Į 4 (ţ [3] 1 (bA bK (ą (ĺ 2) Ė)) (gN 1) ŋ (ě (Ğ cV (Ĩ (mC (.int 0)) (Ċ 0 ĝ))))))
 (Ę (cQ (uI (xJ 0) (xJ 1)) (gT 2 (ı (gN 5) (ı (gN 6) ſ))) mH)
 (ľ (dH 4)))))
noncomputable def bO:MF:=š 3 7 gk
noncomputable def qF:M Fl:=(Ę (Į 3 (ř (Ą Ĕ (Ą ň (Ą đ (Ā 1) (mC (.int 0))) (Ą đ (Ā 0) (mC (.int 0)))) (Ą ň (Ą đ (Ā 2) (mC (.int 1))) (Ą đ (Ā 0) (mC (.int 1)))))))
 (ľ (ř (Ą ň (Ā 3) (Ą Ĕ (Ą ň (Ą đ (Ā 1) (mC (.int 1))) (Ą đ (Ā 0) (mC (.int 1)))) (Ą ň (Ą đ (Ā 2) (mC (.int 0))) (Ą đ (Ā 0) (mC (.int 0)))))))))
noncomputable def dN:MF:=š 3 4 qF
noncomputable def yD:M Fl:=(Ę (Į 2 (ř (Ą đ (Ā 0) (mC (.int 0)))))
 (Ę (Į 3 (ř (Ą đ (Ā 0) (mC (.int 1)))))
 (Ę (Į 4 (ř (Ą đ (Ā 0) (mC (.int 2)))))
 (ľ (bI (ą (ě (Ğ dN (Ċ 1 (Ċ 3 (Ċ 4 ĝ))))) (ą (ě (Ğ dN (Ċ 2 (Ċ 1 (Ċ 4 ĝ))))) (ą (ě (Ğ dN (Ċ 2 (Ċ 3 (Ċ 1 ĝ))))) Ė))))))))
noncomputable def uQ:MF:=š 2 5 yD
noncomputable def mJ:M Fl:=(Ę (Į 1 (ř (ak dY (ą (Ā 0) Ė))))
 (ľ (ř (wj (Ą ŵ (Ā 1) (mC (.int 0))) (ak pX (ą (ě (ţ [1] 1 (ņ 0) (gN 1) ŋ (Ą wG (Ą Ĕ (Ā 1) (Ā 0)) (mC (.int 0))))) Ė))))))
noncomputable def fC:MF:=š 1 2 mJ
noncomputable def yE:M Fl:=(Ę (Į 2 (ř (Ą ň (Ą đ (Ą đ (Ā 0) (mC (.int 1))) (mC (.int 0))) (Ą đ (Ą đ (Ā 0) (mC (.int 0))) (mC (.int 0))))))
 (Ę (Į 3 (ř (Ą ň (Ą đ (Ą đ (Ā 0) (mC (.int 1))) (mC (.int 1))) (Ą đ (Ą đ (Ā 0) (mC (.int 0))) (mC (.int 1))))))
 (Ę (Į 4 (Ĳ ĭ (Ą Ĕ (Ā 2) (Ą ň (Ą đ (Ā 1) (mC (.int 0))) (Ą đ (Ą đ (Ā 0) (mC (.int 0))) (mC (.int 0))))) (Ą Ĕ (Ā 3) (Ą ň (Ą đ (Ā 1) (mC (.int 1))) (Ą đ (Ą đ (Ā 0) (mC (.int 0))) (mC (.int 1)))))))
 (ľ (bI (ą (Ą ň (ě (Ĳ ĭ (Ą Ĕ (Ā 2) (Ā 2)) (Ą Ĕ (Ā 3) (Ā 3)))) (Ā 4)) (ą (ĺ 4) Ė)))))))
noncomputable def uR:MF:=š 2 5 yE
noncomputable def mK:M Fl:=(Ę (Į 4 (Ğ uR (Ĩ (ě (ţ [0] 1 (ņ 3) (gN 1) ŋ (Ą đ (Ā 0) (Ā 1)))) (Ċ 1 ĝ))))
 (cD (cC (ě (Ğ fC (Ċ 4 ĝ))))
 (ľ (Ğ bO (Ċ 4 (Ċ 3 (Ċ 2 ĝ)))))
 cN))
noncomputable def mL:M Fl:=(Ę (Į 4 (Ğ uQ (Ĩ (ě (ţ [0] 1 (ņ 3) (gN 1) ŋ (Ą đ (Ā 0) (Ā 1)))) (Ċ 1 ĝ))))
 (cD (cC (ě (Ğ fC (Ċ 4 ĝ))))
 (ľ (Ğ bO (Ċ 4 (Ċ 3 (Ċ 2 ĝ)))))
 cN))
noncomputable def jj:M Fl:=(Ę (Į 2 (ř (ak aB (ą (Ā 0) Ė))))
 (Ę (cQ (aA (ě (Ğ uO (Ċ 2 ĝ)))) (gN 3) mL)
 (Ę (cQ (aA (ě (Ğ oO (Ċ 2 ĝ)))) (gN 3) mK)
 (ľ (Ğ bO (Ĩ (ě (bI (ą (mC (.int 1)) Ė))) (Ĩ (ě (bI (ą (mC (.int 0)) Ė))) (Ċ 2 ĝ))))))))
noncomputable def gH:MF:=š 2 5 jj
noncomputable def mO:M Fl:=(Ę (Į 2 (Ğ qD (Ċ 0 (Ċ 1 ĝ))))
 (Ę (cD (bh (Ą BR (Ā 2) (mC .non)))
 (ľ (xV (qt (mC (.str "in")) (xU (Ğ gH (Ċ 0 (Ċ 1 ĝ)))))))
 cN)
 (ľ (ř (Ŝ (ą (mC (.str "out")) (ą (ĺ 2) Ė)))))))
noncomputable def fG:MF:=š 2 3 mO
noncomputable def DP:M Fl:=(Ś (bh (Ą ŵ (Ā 3) (mC (.int 0))))
 (Bt 2 3 (ą (ĺ 3) (ą (Ą Ņ (Ā 2) (Ā 3)) Ė))))
noncomputable def DQ:M Fl:=(cD (gM (bH (cC (ak (aG Za Zb Zc Zd) (ą (Ā 1) (ą (mC (.ty "int")) Ė))))) (cC (ak (aG Za Zb Zc Zd) (ą (Ā 1) (ą (mC (.ty "bool")) Ė)))))
 (ľ (ř (mC (.bl false))))
 cN)
noncomputable def yF:M Fl:=(Ę (cD (gM (bH (cC (ak (aG Za Zb Zc Zd) (ą (Ā 0) (ą (mC (.ty "tuple")) Ė))))) (bh (Ą ŵ (ak aB (ą (Ā 0) Ė)) (mC (.int 2)))))
 (ľ (ř (mC (.bl false))))
 cN)
 (Ę (cQ (ņ 0) (gN 1) DQ)
 (Ę (cD (gM (bh (Ą nH (Ą đ (Ā 0) (mC (.int 1))) (mC (.int 1)))) (bh (Ą nH (Ą đ (Ā 0) (mC (.int 0))) (mC (.int 0)))))
 (ľ (ř (mC (.bl false))))
 cN)
 (Ę (wu (gS 2 (ı (gN 2) (ı (gN 3) ſ))) (ĺ 0))
 (Ę DP
 (ľ (ř (Ą Ų (Ā 2) (mC (.int 1))))))))))
noncomputable def oU:MF:=š 1 4 yF
noncomputable def jk:M Fl:=(cD (bh (Ą ŵ (ak dY (ą (ě (ţ [4,5,1] 1 (bA bK (ą (ak aB (ą (Ā 1) Ė)) Ė)) (gN 3) ŋ (Ą Ĕ (Ą đ (Ā 0) (Ā 3)) (Ą đ (Ą đ (Ā 2) (Ā 3)) (Ā 1))))) Ė)) (Ą Ĕ (Ā 3) (Ą đ (Ā 2) (Ā 5)))))
 (ľ (ř (mC (.bl false))))
 cN)
noncomputable def mQ:M Fl:=(Į 3 (ř (Ą Ĕ (Ā 3) (Ā 7))))
noncomputable def mR:M Fl:=(Ę (cD (gM (bH (cC (ak (aG Za Zb Zc Zd) (ą (Ā 0) (ą (mC (.ty "list")) Ė))))) (bh (Ą ŵ (ak aB (ą (Ā 0) Ė)) (ak aB (ą (Ā 1) Ė)))))
 (ľ (ř (mC (.bl false))))
 cN)
 (Ę (cD (bH (cC (ak pX (ą (ě (ţ [] 1 (ņ 0) (gN 0) ŋ (ě (Ğ oU (Ċ 0 ĝ))))) Ė))))
 (ľ (ř (mC (.bl false))))
 cN)
 (Ę (Į 3 (ř (mC (.int 1))))
 (Ę (cQ (ņ 0) (gT 2 (ı (gN 6) (ı (gN 7) ſ))) mQ)
 (Ę (Į 4 (ţ [3] 2 (ņ 0) (gT 2 (ı (gN 1) (ı (gN 2) ſ))) ŋ (Ą Ĕ (Ą œ (Ā 0) (Ā 2)) (Ā 1))))
 (Ę (cD (bh (Ą ŵ (ak dY (ą (Ā 4) Ė)) (Ā 3)))
 (ľ (ř (mC (.bl false))))
 cN)
 (Ę (cQ (bA bK (ą (mC (.int 2)) Ė)) (gN 5) jk)
 (ľ (ř (mC (.bl true)))))))))))
noncomputable def gJ:MF:=š 3 8 mR
noncomputable def qG:M Fl:=(cD (gM (bH (cC (ak (aG Za Zb Zc Zd) (ą (Ā 3) (ą (mC (.ty "int")) Ė))))) (cC (ak (aG Za Zb Zc Zd) (ą (Ā 3) (ą (mC (.ty "bool")) Ė)))))
 (ľ (ř (mC (.bl false))))
 cN)
noncomputable def mV:M Fl:=(Ę (cD (gM (bH (cC (ak (aG Za Zb Zc Zd) (ą (Ā 0) (ą (mC (.ty "tuple")) Ė))))) (bh (Ą ŵ (ak aB (ą (Ā 0) Ė)) (mC (.int 3)))))
 (ľ (ř (mC (.bl false))))
 cN)
 (Ę (cQ (ņ 0) (gN 3) qG)
 (Ę (wu (gS 3 (ı (gN 4) (ı (gN 5) (ı (gN 6) ſ)))) (ĺ 0))
 (Ę (cD (bh (Ą pW (ě (Ĳ ĭ (Ą Ĕ (Ā 4) (Ą đ (Ā 2) (mC (.int 0)))) (Ą Ĕ (Ā 5) (Ą đ (Ā 2) (mC (.int 1)))))) (Ā 6)))
 (ľ (ř (mC (.bl false))))
 cN)
 (ľ (ř (ak pX (ą (ě (ţ [6,4,5] 2 (ņ 1) (gT 2 (ı (gN 3) (ı (gN 4) ſ))) ŋ (Ą pW (ě (Ĳ ĭ (Ą Ĕ (Ā 1) (Ā 3)) (Ą Ĕ (Ā 2) (Ā 4)))) (Ā 0)))) Ė))))))))
noncomputable def jl:MF:=š 3 7 mV
noncomputable def mW:M Fl:=(Ę (cD (gM (bH (cC (ak (aG Za Zb Zc Zd) (ą (Ā 0) (ą (mC (.ty "tuple")) Ė))))) (gM (bh (Ą ŵ (ak aB (ą (Ā 0) Ė)) (mC (.int 2)))) (bH (cC (ak (aG Za Zb Zc Zd) (ą (Ą đ (Ā 0) (mC (.int 0))) (ą (mC (.ty "str")) Ė)))))))
 (ľ (ř (mC (.bl false))))
 cN)
 (Ę (cD (bh (Ą Ų (Ą đ (Ā 0) (mC (.int 0))) (mC (.str "in"))))
 (ľ (Ğ gJ (Ĩ (Ą đ (Ā 0) (mC (.int 1))) (Ċ 1 (Ċ 2 ĝ)))))
 cN)
 (ľ (ř (wj (Ą Ų (Ą đ (Ā 0) (mC (.int 0))) (mC (.str "out"))) (ě (Ğ jl (Ĩ (Ą đ (Ā 0) (mC (.int 1))) (Ċ 1 (Ċ 2 ĝ))))))))))
noncomputable def dO:MF:=š 3 3 mW
noncomputable def mX:M Fl:=(Ę (Į 4 (G_ nJ (ą (Ą đ (Ā 1) (Ā 3)) Ė)))
 (Ę (Į 5 (Ğ fG (Ċ 4 (Ĩ (Ą đ (Ā 2) (Ā 3)) ĝ))))
 (Ę (cD (je 5 (gM (bH (cC (ě (Ğ dO (Ċ 5 (Ĩ (Ą đ (Ā 1) (Ā 3)) (Ĩ (Ą đ (Ā 2) (Ā 3)) ĝ))))))) (bh (Ą ŵ (Ā 4) (Ą đ (Ā 1) (Ā 3))))))
 (ľ (ř (mC (.bl false))))
 cN)
 (Ę (Į 6 (Ğ fG (Ĩ (ě (Cy (Ą đ (Ā 1) (Ā 3)))) (Ĩ (Ą đ (Ā 2) (Ā 3)) ĝ))))
 (Ę (cD (je 6 (je 5 (gM (bH (cC (ě (Ğ dO (Ċ 6 (Ĩ (ě (Cy (Ą đ (Ā 1) (Ā 3)))) (Ĩ (Ą đ (Ā 2) (Ā 3)) ĝ))))))) (bh (Ą ŵ (Ą đ (Ā 6) (mC (.int 0))) (Ą đ (Ā 5) (mC (.int 0))))))))
 (ľ (ř (mC (.bl false))))
 cN)
 (cD (je 5 (bh (Ą Ų (Ą đ (Ā 5) (mC (.int 0))) (mC (.str "in")))))
 (sS 5 1 (Ŝ (ą (mC (.int 1)) (ą (mC (.int 1)) Ė))))
 cN))))))
noncomputable def qH:M Fl:=(Ę (Į 1 (bI (ą (ě (Ğ jE (Ċ 0 (Ĩ (mC (.int 0)) ĝ)))) (ą (ě (Ğ jE (Ċ 0 (Ĩ (mC (.int 9)) ĝ)))) Ė))))
 (Ę (Į 2 (bI (ą (ě (Ğ aU (Ĩ (Ą đ (Ā 1) (mC (.int 0))) (Ĩ (ě (Ğ aH (Ċ 0 (Ĩ (mC (.int 18)) ĝ)))) ĝ)))) (ą (ě (Ğ aU (Ĩ (Ą đ (Ā 1) (mC (.int 1))) (Ĩ (ě (Ğ aH (Ċ 0 (Ĩ (mC (.int 19)) ĝ)))) ĝ)))) Ė))))
 (Ę (cQ (aA (ě (bI (ą (mC (.int 0)) (ą (mC (.int 1)) (ą (mC (.int 0)) Ė)))))) (gN 3) mX)
 (ľ (ř (mC (.bl true)))))))
noncomputable def jm:MF:=š 1 7 qH
set_option genInjectivity false
set_option genSizeOf false
structure Adr where
 yG:Addr
 yH:FuncData
 yI:Addr
 yJ:FuncData
 yK:Addr
 yL:FuncData
 HY:Addr
 H_:FuncData
 yM:Addr
 yN:FuncData
 yO:Addr
 yP:FuncData
 yQ:Addr
 yR:FuncData
 Ia:Addr
 Ib:FuncData
 yS:Addr
 yU:FuncData
 yV:Addr
 yW:FuncData
 Ie:Addr
 Ig:FuncData
 Ih:Addr
 Ii:FuncData
 Ij:Addr
 Ik:FuncData
 Il:Addr
 Im:FuncData
 Io:Addr
 Ip:FuncData
 yX:Addr
 yZ:FuncData
 za:Addr
 zc:FuncData
 zf:Addr
 zj:FuncData
 Ir:Addr
 Iu:FuncData
 zm:Addr
 zp:FuncData
 Iv:Addr
 Iw:FuncData
 zq:Addr
 zu:FuncData
 zx:Addr
 zy:FuncData
 Iz:Addr
 IK:FuncData
 zA:Addr
 zB:FuncData
 zE:Addr
 zF:FuncData
 zG:Addr
 zH:FuncData
 zJ:Addr
 zK:FuncData
 oV:Addr
 qI:Addr
def Ş(a:Adr):String→Addr:=Aj a.oV a.qI
structure Tx(K:PySem.W.Frag)(mg:Str→Option Value)(a:Adr):Prop where
 oW:dw K "_law_cell" "_law_cell" ou a.yG a.yH
 aH:mg "_law_cell" =some (.ref a.yG)
 sW:Binds K a.yH ["_law_script","_law_at"] []
 k_:dw K "_law_churn" "_law_churn" oA a.yI a.yJ
 Ŕ:mg "_law_churn" =some (.ref a.yI)
 oX:Binds K a.yJ ["_law_number","_law_k"] []
 DR:dw K "_law_point" "_law_point" oE a.yK a.yL
 gG:mg "_law_point" =some (.ref a.yK)
 Oj:Binds K a.yL ["_law_cell_here","_law_way","_law_kind","_law_k"] []
 IV:dw K "_law_points" "_law_points" xY a.HY a.H_
 jE:mg "_law_points" =some (.ref a.HY)
 Ol:Binds K a.H_ ["_law_script","_law_at"] []
 zL:dw K "_law_pair" "_law_pair" dJ a.yM a.yN
 aU:mg "_law_pair" =some (.ref a.yM)
 DW:Binds K a.yN ["_law_points_here","_law_cell_here"] []
 DX:dw K "box_lines" "box_lines" jf a.yO a.yP
 kW:mg "box_lines" =some (.ref a.yO)
 Om:Binds K a.yP ["points"] []
 DY:dw K "each_once" "each_once" oF a.yQ a.yR
 kY:mg "each_once" =some (.ref a.yQ)
 Oo:Binds K a.yR ["points"] []
 Oq:dw K "line_through" "line_through" xZ a.Ia a.Ib
 uM:mg "line_through" =some (.ref a.Ia)
 Zas:Binds K a.Ib ["one","other"] []
 zM:dw K "holds" "holds" oG a.yS a.yU
 dM:mg "holds" =some (.ref a.yS)
 D_:Binds K a.yU ["line","pair"] []
 Ea:dw K "edge_lines" "edge_lines" kE a.yV a.yW
 kZ:mg "edge_lines" =some (.ref a.yV)
 Ot:Binds K a.yW ["points"] []
 Ou:dw K "lines_about" "lines_about" yc a.Ie a.Ig
 uN:mg "lines_about" =some (.ref a.Ie)
 Zat:Binds K a.Ig ["points"] []
 Ov:dw K "parting_line" "parting_line" yd a.Ih a.Ii
 qD:mg "parting_line" =some (.ref a.Ih)
 Zau:Binds K a.Ii ["points","point"] []
 IW:dw K "pairs_below" "pairs_below" uK a.Ij a.Ik
 oO:mg "pairs_below" =some (.ref a.Ij)
 Ow:Binds K a.Ik ["many"] []
 Ox:dw K "triples_below" "triples_below" uL a.Il a.Im
 uO:mg "triples_below" =some (.ref a.Il)
 Zav:Binds K a.Im ["many"] []
 Oz:dw K "greatest_divisor" "greatest_divisor" yg a.Io a.Ip
 uP:mg "greatest_divisor" =some (.ref a.Io)
 Zaw:Binds K a.Ip ["one","other"] []
 zN:dw K "ratio" "ratio" oH a.yX a.yZ
 cV:mg "ratio" =some (.ref a.yX)
 Eb:Binds K a.yZ ["top","bottom"] []
 sX:dw K "spread" "spread" kI a.za a.zc
 bO:mg "spread" =some (.ref a.za)
 zO:Binds K a.zc ["shares","places","many"] []
 sY:dw K "turned" "turned" oJ a.zf a.zj
 dN:mg "turned" =some (.ref a.zf)
 zP:Binds K a.zj ["one","other","third"] []
 OD:dw K "shares_of_three" "shares_of_three" yh a.Ir a.Iu
 uQ:mg "shares_of_three" =some (.ref a.Ir)
 Zax:Binds K a.Iu ["corners","point"] []
 zQ:dw K "are_weights" "are_weights" kJ a.zm a.zp
 fC:mg "are_weights" =some (.ref a.zm)
 Ec:Binds K a.zp ["shares"] []
 OJ:dw K "shares_of_two" "shares_of_two" yj a.Iv a.Iw
 uR:mg "shares_of_two" =some (.ref a.Iv)
 Zay:Binds K a.Iw ["ends","point"] []
 Ed:dw K "weights_of" "weights_of" jg a.zq a.zu
 gH:mg "weights_of" =some (.ref a.zq)
 O_:Binds K a.zu ["points","point"] []
 zR:dw K "held" "held" oK a.zx a.zy
 fG:mg "held" =some (.ref a.zx)
 Ef:Binds K a.zy ["points","point"] []
 Pa:dw K "_law_fraction" "_law_fraction" yq a.Iz a.IK
 oU:mg "_law_fraction" =some (.ref a.Iz)
 Zaz:Binds K a.IK ["_law_found"] []
 Eh:dw K "_law_in" "_law_in" gD a.zA a.zB
 gJ:mg "_law_in" =some (.ref a.zA)
 Pb:Binds K a.zB ["_law_weights","_law_points_here","_law_point_here"] []
 Ei:dw K "_law_out" "_law_out" kO a.zE a.zF
 jl:mg "_law_out" =some (.ref a.zE)
 Pg:Binds K a.zF ["_law_line","_law_points_here","_law_point_here"] []
 zT:dw K "_law_walked" "_law_walked" oM a.zG a.zH
 dO:mg "_law_walked" =some (.ref a.zG)
 Ej:Binds K a.zH ["_law_found","_law_points_here","_law_point_here"] []
 Ph:dw K "law" "law" gF a.zJ a.zK
 jm:mg "law" =some (.ref a.zJ)
 ZbJ:Binds K a.zK ["_law_script"] []
 Ek:mg "YardError" =some (.ref (Ş a "YardError"))
 qJ:mg "NoNumber" =some (.ref (Ş a "NoNumber"))
 El:PySem.W.excIn K (Ş a "YardError") wV Ht=true
 Em:PySem.W.keepIn K (.ref (Ş a "YardError"))=true
 En:cU K (Ş a "YardError")=true
 qK:PySem.W.excIn K (Ş a "NoNumber") wV Ht=true
 I_:PySem.W.keepIn K (.ref (Ş a "NoNumber"))=true
 Ja:cU K (Ş a "NoNumber")=true
 iC:lV (fun C D b=>aX K (Ş a C)=true∧PySem.W.kitOne K (.ref (Ş a C)) (.ref (Ş a D))=some b) Za
 iT:lV (fun C D b=>aX K (Ş a C)=true∧PySem.W.kitOne K (.ref (Ş a C)) (.type D)=some b) Zb
 iD:lR (fun D=>PySem.W.kitOne K (.type "NoneType") (.ref (Ş a D))=some false) Zc
 iN:lR (fun D=>PySem.W.kitOne K (.type "NoneType") (.type D)=some false) Zd
 Pj:mg "abs" =none
 sZ:mg "all" =none
 zU:mg "bool" =none
 zV:mg "divmod" =none
 lg:mg "int" =none
 ŉ:mg "isinstance" =none
 cB:mg "len" =none
 zW:mg "list" =none
 jo:mg "max" =none
 lq:mg "min" =none
 aY:mg "range" =none
 Pk:mg "str" =none
 lu:mg "sum" =none
 mY:mg "tuple" =none
 Pn:mg "zip" =none
theorem Jb:ħ ["_law_script","_law_at"] ["_law_script","_law_at"] (ċ ou):=⟨rfl,rfl,rfl,by decide +kernel,rfl,by decide +kernel,by decide +kernel⟩
theorem mZ:ħ ["_law_number","_law_k","_law_high","_law_low"] ["_law_number","_law_k"] (ċ oA):=⟨rfl,rfl,rfl,by decide +kernel,rfl,by decide +kernel,by decide +kernel⟩
theorem gn:ħ ["_law_cell_here","_law_way","_law_kind","_law_k","_law_number","_law_wide","_law_at"] ["_law_cell_here","_law_way","_law_kind","_law_k"] (ċ oE):=⟨rfl,rfl,rfl,by decide +kernel,rfl,by decide +kernel,by decide +kernel⟩
theorem jq:ħ ["_law_script","_law_at","_law_first","_law_way","_law_kind","_law_points_here","_law_k","_law_cell_here"] ["_law_script","_law_at"] (ċ xY):=⟨rfl,rfl,rfl,by decide +kernel,rfl,by decide +kernel,by decide +kernel⟩
theorem ů:ħ ["_law_points_here","_law_cell_here","_law_way","_law_at","_law_turn","_law_far","_law_best","_law_by","_law_x","_law_y","_law_some"] ["_law_points_here","_law_cell_here"] (ċ dJ):=⟨rfl,rfl,rfl,by decide +kernel,rfl,by decide +kernel,by decide +kernel⟩
theorem qL:ħ ["points","rights","downs"] ["points"] (ċ jf):=⟨rfl,rfl,rfl,by decide +kernel,rfl,by decide +kernel,by decide +kernel⟩
theorem qM:ħ ["points","kept","point"] ["points"] (ċ oF):=⟨rfl,rfl,rfl,by decide +kernel,rfl,by decide +kernel,by decide +kernel⟩
theorem zX:ħ ["one","other","l","m"] ["one","other"] (ċ xZ):=⟨rfl,rfl,rfl,by decide +kernel,rfl,by decide +kernel,by decide +kernel⟩
theorem Jc:ħ ["line","pair"] ["line","pair"] (ċ oG):=⟨rfl,rfl,rfl,by decide +kernel,rfl,by decide +kernel,by decide +kernel⟩
theorem gq:ħ ["points","lines","apart","one","other","line"] ["points"] (ċ kE):=⟨rfl,rfl,rfl,by decide +kernel,rfl,by decide +kernel,by decide +kernel⟩
theorem Pq:ħ ["points"] ["points"] (ċ yc):=⟨rfl,rfl,rfl,by decide +kernel,rfl,by decide +kernel,by decide +kernel⟩
theorem Eo:ħ ["points","point","line"] ["points","point"] (ċ yd):=⟨rfl,rfl,rfl,by decide +kernel,rfl,by decide +kernel,by decide +kernel⟩
theorem zY:ħ ["many","pairs","second"] ["many"] (ċ uK):=⟨rfl,rfl,rfl,by decide +kernel,rfl,by decide +kernel,by decide +kernel⟩
theorem zZ:ħ ["many","triples","third"] ["many"] (ċ uL):=⟨rfl,rfl,rfl,by decide +kernel,rfl,by decide +kernel,by decide +kernel⟩
theorem tu:ħ ["one","other","rest"] ["one","other"] (ċ yg):=⟨rfl,rfl,rfl,by decide +kernel,rfl,by decide +kernel,by decide +kernel⟩
theorem qN:ħ ["top","bottom","divisor"] ["top","bottom"] (ċ oH):=⟨rfl,rfl,rfl,by decide +kernel,rfl,by decide +kernel,by decide +kernel⟩
theorem jr:ħ ["shares","places","many","whole","weights","share","place"] ["shares","places","many"] (ċ kI):=⟨rfl,rfl,rfl,by decide +kernel,rfl,by decide +kernel,by decide +kernel⟩
theorem z_:ħ ["one","other","third","right"] ["one","other","third"] (ċ oJ):=⟨rfl,rfl,rfl,by decide +kernel,rfl,by decide +kernel,by decide +kernel⟩
theorem tD:ħ ["corners","point","one","other","third"] ["corners","point"] (ċ yh):=⟨rfl,rfl,rfl,by decide +kernel,rfl,by decide +kernel,by decide +kernel⟩
theorem Aa:ħ ["shares","whole"] ["shares"] (ċ kJ):=⟨rfl,rfl,rfl,by decide +kernel,rfl,by decide +kernel,by decide +kernel⟩
theorem tE:ħ ["ends","point","right","down","gone"] ["ends","point"] (ċ yj):=⟨rfl,rfl,rfl,by decide +kernel,rfl,by decide +kernel,by decide +kernel⟩
theorem gw:ħ ["points","point","many","places","shares"] ["points","point"] (ċ jg):=⟨rfl,rfl,rfl,by decide +kernel,rfl,by decide +kernel,by decide +kernel⟩
theorem Ab:ħ ["points","point","line"] ["points","point"] (ċ oK):=⟨rfl,rfl,rfl,by decide +kernel,rfl,by decide +kernel,by decide +kernel⟩
theorem oY:ħ ["_law_found","_law_number","_law_one","_law_other"] ["_law_found"] (ċ yq):=⟨rfl,rfl,rfl,by decide +kernel,rfl,by decide +kernel,by decide +kernel⟩
theorem eE:ħ ["_law_weights","_law_points_here","_law_point_here","_law_common","_law_shares","_law_axis","_law_top","_law_bottom"] ["_law_weights","_law_points_here","_law_point_here"] (ċ gD):=⟨rfl,rfl,rfl,by decide +kernel,rfl,by decide +kernel,by decide +kernel⟩
theorem jt:ħ ["_law_line","_law_points_here","_law_point_here","_law_number","_law_l","_law_m","_law_n"] ["_law_line","_law_points_here","_law_point_here"] (ċ kO):=⟨rfl,rfl,rfl,by decide +kernel,rfl,by decide +kernel,by decide +kernel⟩
theorem Jd:ħ ["_law_found","_law_points_here","_law_point_here"] ["_law_found","_law_points_here","_law_point_here"] (ċ oM):=⟨rfl,rfl,rfl,by decide +kernel,rfl,by decide +kernel,by decide +kernel⟩
theorem eG:ħ ["_law_script","_law_lists","_law_pairs","_law_k","_law_handed","_law_found","_law_turned"] ["_law_script"] (ċ gF):=⟨rfl,rfl,rfl,by decide +kernel,rfl,by decide +kernel,by decide +kernel⟩
section
variable{P:Program}{w:World}{K:PySem.W.Frag}{mg:Str→Option Value}{base:Heap}{a:Adr}
theorem m_(T:Tx K mg a):Œ P w K mg base (cg P w) 1 a.yG a.yH ["_law_script","_law_at"] (cF ⟨K,Ş a⟩ 2 aH):=by
 refine fH (cm:=Ş a) (mb:=mD) T.oW Jb rfl rfl rfl fun cdv A outer s H E hr=>?_
 have hu:=hr.units
 exact(Ć (Ū (Ŋ jW jP (ă 1) (ā (PE.wk (Ē aq (by rfl) T.cB PySem.boot_len (Č (ă 0) Ě)) fun _ _ _ h=>Ň aC h)) (Ħ _))
  (Ď (ĩ (İ (ę Đ ď (ă 0) (ă 1) (fun _ _=>rfl)))))
  Ĵ)
  (Ď (ĩ (İ Ă))))
theorem ju(T:Tx K mg a):Œ P w K mg base (cg P w) 1 a.yI a.yJ ["_law_number","_law_k"] (cF ⟨K,Ş a⟩ 2 Ŕ):=by
 refine fH (cm:=Ş a) (mb:=qu) T.k_ mZ rfl rfl rfl fun cdv A outer s H E hr=>?_
 have hu:=hr.units
 exact(Ć (ģ (i:=0) mZ.nd rfl (Or.inl rfl) (ō Ĺ ĸ (ā (Ī (ō Ĺ ĸ (ā (ĉ ń Ł (ă 0) (ā Ă))) (ā (ĉ Ĭ Ģ (ā Ă) (ă 1)))))) (ā Ă)))
  (Ć (wz (PE.wk (Ē uz (by rfl) T.zV PyProof.Rows.boot_divmod (Č (ā (Ī (ō Ĺ ĸ (ā (ĉ Ĭ Ģ (ă 0) (ā Ă))) (ā (ĉ Ĭ Ģ (ă 1) (ā Ă)))))) (Č (ā Ă) Ě))) fun _ _ _ h=>Ň uD h) (xT rfl (Ŗ (Ĥ (i:=2) mZ.nd rfl (Or.inl rfl)) (Ŗ (Ĥ (i:=3) mZ.nd rfl (Or.inl rfl)) dX))))
  (Ď (ĩ (İ (ĉ ń Ł (ā (Ī (ō Ĺ ĸ (ā (Ī (ō Ĺ ĸ (ā (ĉ Ĭ Ģ (ă 2) (ă 2))) (ā (ĉ Ĭ Ģ (ă 3) (ā (Ī (ō Ĺ ĸ (ă 3) (ā Ă))))))))) (ă 1)))) (ā Ă)))))))
theorem Je(T:Tx K mg a):Œ P w K mg base (cg P w) 2 a.yK a.yL ["_law_cell_here","_law_way","_law_kind","_law_k"] (cF ⟨K,Ş a⟩ 4 gG):=by
 refine fH (cm:=Ş a) (mb:=jh) T.DR gn rfl rfl rfl fun cdv A outer s H E hr=>?_
 have hu:=hr.units
 exact(Ć (ģ (i:=4) gn.nd rfl (Or.inl rfl) (İ (ĉ ń Ł (ā (ĉ ő ŀ (ă 0) (ā Ă))) (ā (ĉ Ũ ť (ā Ă) (ā Ă))))))
  (Ć (ģ (i:=5) gn.nd rfl (Or.inl rfl) (ō Ĺ ĸ (ā (ĉ Ĭ Ģ (ā Ă) (ā (ĉ Ũ ť (ā Ă) (ā Ă))))) (ā Ă)))
  (Ć (Ū (Ŋ aR (Ŭ hu) (ā (ĉ ń Ł (ă 0) (ā Ă))) (ā Ă) (Ħ _))
  (Ć (ģ (i:=4) gn.nd rfl (Or.inl rfl) (ġ (ju T) ē (hr.mono (by decide)) rfl T.Ŕ T.k_.kp T.oX ķ (į (Ī (ō Ĺ ĸ (ā (Ī (ġ (ju T) ē (hr.mono (by decide)) rfl T.Ŕ T.k_.kp T.oX ķ (č 4 (hr:=(č 3 (hr:=Ġ))))))) (ă 4))) (č 3 (hr:=Ġ)))))
  (Ď (ģ (i:=4) gn.nd rfl (Or.inl rfl) (ō Ĺ ĸ (ā (Ī (ō Ĺ ĸ (ă 4) (ā (ĉ Ĭ Ģ (ā (Ī (ġ (ju T) ē (hr.mono (by decide)) rfl T.Ŕ T.k_.kp T.oX ķ (č 4 (hr:=(į Ă Ġ)))))) (ā Ă)))))) (ā (ĉ Ĭ Ģ (ā (ĉ Ĭ Ģ (ā (Ī (ġ (ju T) ē (hr.mono (by decide)) rfl T.Ŕ T.k_.kp T.oX ķ (č 4 (hr:=(į Ă Ġ)))))) (ā Ă))) (ă 5)))))))
  Ĵ)
  (Ć (Ū (Ŋ aR (Ŭ hu) (ă 2) (ā Ă) (Ħ _))
  (Ď (ĩ (İ (Ŏ (ć (ĉ ĵ ĳ (ā (ĉ ń Ł (ă 4) (ā Ă))) (ā Ă)) (ć (ĉ ĵ ĳ (ā (ĉ ń Ł (ā (ĉ ő ŀ (ă 4) (ā Ă))) (ā Ă))) (ā Ă)) ğ))))))
  Ĵ)
  (Ć (Ū (Ŋ aR (Ŭ hu) (ă 2) (ā Ă) (Ħ _))
  (Ć (ģ (i:=6) gn.nd rfl (Or.inl rfl) (İ (ĉ ĵ ĳ (ā (ĉ ń Ł (ă 4) (ā Ă))) (ā Ă))))
  (Ď (ĩ (İ (Ŏ (ć (Ī (ō Ĺ ĸ (ā (ĉ Ĭ Ģ (ă 6) (ā (ę Đ ď (ă 1) (ā Ă) (fun _ _=>rfl))))) (ā Ă))) (ć (ĉ ĵ ĳ (ā (ĉ Ĭ Ģ (ă 6) (ā (ę Đ ď (ă 1) (ā Ă) (fun _ _=>rfl))))) (ā Ă)) ğ)))))))
  Ĵ)
  (Ď (ĩ (İ (Ŏ (ć (ĉ ĵ ĳ (ā (ĉ ń Ł (ă 4) (ă 5))) (ā (ĉ Ũ ť (ā Ă) (ā Ă)))) (ć (ĉ ĵ ĳ (ā (ĉ ń Ł (ā (ĉ ő ŀ (ă 4) (ă 5))) (ă 5))) (ā (ĉ Ũ ť (ā Ă) (ā Ă)))) ğ)))))))))))
theorem Ep(T:Tx K mg a):Œ P w K mg base (cg P w) 3 a.HY a.H_ ["_law_script","_law_at"] (cF ⟨K,Ş a⟩ 2 jE):=by
 refine fH (cm:=Ş a) (mb:=yr) T.IV jq rfl rfl rfl fun cdv A outer s H E hr=>?_
 have hu:=hr.units
 exact(@Ć _ _ _ _ _ _ _ (@ģ _ _ _ _ _ _ 2 _ _ jq.nd rfl (Or.inl rfl) (@İ _ _ _ _ _ (@ĉ _ _ _ _ _ _ _ _ _ _ _ (@ń _) (@Ł _) (@ā _ _ _ _ _ (@Ī _ _ _ _ _ (@ġ _ _ _ _ _ _ _ _ _ _ _ _ _ _ _ _ (m_ T) ē (hr.mono (by decide)) rfl T.aH T.oW.kp T.sW (@ķ _ _ _ _ _ _ _ _ _ _ _ _ _ _ _) (@č _ _ _ _ _ 0 _ _ (by rfl) (by first|exact Or.inl rfl|exact Or.inr (Or.inl rfl)|exact Or.inr (Or.inr rfl)) (by decide) (by decide) (@č _ _ _ _ _ 1 _ _ (by rfl) (by first|exact Or.inl rfl|exact Or.inr (Or.inl rfl)|exact Or.inr (Or.inr rfl)) (by decide) (by decide) (@Ġ _ _ _) (by exact Ĉ rfl)) (by exact Ĉ rfl)) (by decide) (by exact Ĉ rfl) (by rfl)))) (@ā _ _ _ _ _ (@ĉ _ _ _ _ _ _ _ _ _ _ _ (@Ũ _) (@ť _) (@ā _ _ _ _ _ (@Ă _ _ _ _ _ _)) (@ā _ _ _ _ _ (@Ă _ _ _ _ _ _)))))) (by rfl) (by first|exact .inl rfl|exact .inr rfl|assumption)) (@Ć _ _ _ _ _ _ _ (@ģ _ _ _ _ _ _ 3 _ _ jq.nd rfl (Or.inl rfl) (@İ _ _ _ _ _ (@ę _ _ _ _ _ _ _ _ _ _ (@Đ _) (@ď _) (@ā _ _ _ _ _ (@Ī _ _ _ _ _ (@ŷ _ _ _ _ _ _ (@ć _ _ _ _ _ _ _ (@Ŏ _ _ _ _ _ _ _ (@ć _ _ _ _ _ _ _ (@Ă _ _ _ _ _ _) (@ć _ _ _ _ _ _ _ (@Ă _ _ _ _ _ _) (@ğ _ _ _) (by exact Ĉ rfl)) (by exact Ĉ rfl))) (@ć _ _ _ _ _ _ _ (@Ŏ _ _ _ _ _ _ _ (@ć _ _ _ _ _ _ _ (@Ă _ _ _ _ _ _) (@ć _ _ _ _ _ _ _ (@Ă _ _ _ _ _ _) (@ğ _ _ _) (by exact Ĉ rfl)) (by exact Ĉ rfl))) (@ć _ _ _ _ _ _ _ (@Ŏ _ _ _ _ _ _ _ (@ć _ _ _ _ _ _ _ (@Ă _ _ _ _ _ _) (@ć _ _ _ _ _ _ _ (@Ă _ _ _ _ _ _) (@ğ _ _ _) (by exact Ĉ rfl)) (by exact Ĉ rfl))) (@ć _ _ _ _ _ _ _ (@Ŏ _ _ _ _ _ _ _ (@ć _ _ _ _ _ _ _ (@iQ _ _ _ _ _ _ _ _ _ (@aQ _) (@ao _) (@ā _ _ _ _ _ (@Ă _ _ _ _ _ _))) (@ć _ _ _ _ _ _ _ (@Ă _ _ _ _ _ _) (@ğ _ _ _) (by exact Ĉ rfl)) (by exact Ĉ rfl))) (@ć _ _ _ _ _ _ _ (@Ŏ _ _ _ _ _ _ _ (@ć _ _ _ _ _ _ _ (@ĉ _ _ _ _ _ _ _ _ _ _ _ (@Ũ _) (@ť _) (@ā _ _ _ _ _ (@Ă _ _ _ _ _ _)) (@ā _ _ _ _ _ (@Ă _ _ _ _ _ _))) (@ć _ _ _ _ _ _ _ (@ĉ _ _ _ _ _ _ _ _ _ _ _ (@ĵ _) (@ĳ _) (@ā _ _ _ _ _ (@Ă _ _ _ _ _ _)) (@ā _ _ _ _ _ (@ĉ _ _ _ _ _ _ _ _ _ _ _ (@Ũ _) (@ť _) (@ā _ _ _ _ _ (@Ă _ _ _ _ _ _)) (@ā _ _ _ _ _ (@Ă _ _ _ _ _ _))))) (@ğ _ _ _) (by exact Ĉ rfl)) (by exact Ĉ rfl))) (@ğ _ _ _) (by exact Ĉ rfl)) (by exact Ĉ rfl)) (by exact Ĉ rfl)) (by exact Ĉ rfl)) (by exact Ĉ rfl))))) (@ā _ _ _ _ _ (@ĉ _ _ _ _ _ _ _ _ _ _ _ (@ń _) (@Ł _) (@ā _ _ _ _ _ (@ĉ _ _ _ _ _ _ _ _ _ _ _ (@ő _) (@ŀ _) (@ă _ _ _ 2 _ _ (by rfl) (by first|exact Or.inl rfl|exact Or.inr (Or.inl rfl)|exact Or.inr (Or.inr rfl)) (by decide) (by decide)) (@ā _ _ _ _ _ (@Ă _ _ _ _ _ _)))) (@ā _ _ _ _ _ (@Ă _ _ _ _ _ _)))) (fun _ _=>rfl))) (by rfl) (by first|exact .inl rfl|exact .inr rfl|assumption)) (@Ć _ _ _ _ _ _ _ (@ģ _ _ _ _ _ _ 4 _ _ jq.nd rfl (Or.inl rfl) (@İ _ _ _ _ _ (@ę _ _ _ _ _ _ _ _ _ _ (@Đ _) (@ď _) (@ā _ _ _ _ _ (@Ī _ _ _ _ _ (@ŷ _ _ _ _ _ _ (@ć _ _ _ _ _ _ _ (@Ă _ _ _ _ _ _) (@ć _ _ _ _ _ _ _ (@Ă _ _ _ _ _ _) (@ć _ _ _ _ _ _ _ (@Ă _ _ _ _ _ _) (@ć _ _ _ _ _ _ _ (@Ă _ _ _ _ _ _) (@ğ _ _ _) (by exact Ĉ rfl)) (by exact Ĉ rfl)) (by exact Ĉ rfl)) (by exact Ĉ rfl))))) (@ā _ _ _ _ _ (@ĉ _ _ _ _ _ _ _ _ _ _ _ (@ń _) (@Ł _) (@ā _ _ _ _ _ (@ĉ _ _ _ _ _ _ _ _ _ _ _ (@ő _) (@ŀ _) (@ă _ _ _ 2 _ _ (by rfl) (by first|exact Or.inl rfl|exact Or.inr (Or.inl rfl)|exact Or.inr (Or.inr rfl)) (by decide) (by decide)) (@ā _ _ _ _ _ (@Ă _ _ _ _ _ _)))) (@ā _ _ _ _ _ (@Ă _ _ _ _ _ _)))) (fun _ _=>rfl))) (by rfl) (by first|exact .inl rfl|exact .inr rfl|assumption)) (@Ć _ _ _ _ _ _ _ (@ģ _ _ _ _ _ _ 5 _ _ jq.nd rfl (Or.inl rfl) (@ŷ _ _ _ _ _ _ (@ğ _ _ _)) (by rfl) (by first|exact .inl rfl|exact .inr rfl|assumption)) (@Ć _ _ _ _ _ _ _ (@aP _ _ _ _ _ _ _ _ _ _ PassesOwn.leaving rfl (@aj _ _ _ _ _ _ _ _ rfl T.aY (@ć _ _ _ _ _ _ _ (@Ī _ _ _ _ _ (@ō _ _ _ _ _ _ _ _ _ _ _ (@Ĺ _) (@ĸ _) (@ā _ _ _ _ _ (@Ă _ _ _ _ _ _)) (@ā _ _ _ _ _ (@ĉ _ _ _ _ _ _ _ _ _ _ _ (@ń _) (@Ł _) (@ă _ _ _ 2 _ _ (by rfl) (by first|exact Or.inl rfl|exact Or.inr (Or.inl rfl)|exact Or.inr (Or.inr rfl)) (by decide) (by decide)) (@ā _ _ _ _ _ (@Ă _ _ _ _ _ _)))))) (@ğ _ _ _) (by exact Ĉ rfl)) (by exact Ĉ rfl)) (@Ĥ _ _ _ 6 _ jq.nd rfl (Or.inl rfl) (by first|exact .inl rfl|exact .inr rfl|assumption)) (@Ć _ _ _ _ _ _ _ (@ģ _ _ _ _ _ _ 7 _ _ jq.nd rfl (Or.inl rfl) (@ġ _ _ _ _ _ _ _ _ _ _ _ _ _ _ _ _ (m_ T) ē (hr.mono (by decide)) rfl T.aH T.oW.kp T.sW (@ķ _ _ _ _ _ _ _ _ _ _ _ _ _ _ _) (@č _ _ _ _ _ 0 _ _ (by rfl) (by first|exact Or.inl rfl|exact Or.inr (Or.inl rfl)|exact Or.inr (Or.inr rfl)) (by decide) (by decide) (@į _ _ _ _ _ _ _ (@Ī _ _ _ _ _ (@ō _ _ _ _ _ _ _ _ _ _ _ (@Ĺ _) (@ĸ _) (@ā _ _ _ _ _ (@Ī _ _ _ _ _ (@ō _ _ _ _ _ _ _ _ _ _ _ (@Ĺ _) (@ĸ _) (@ă _ _ _ 1 _ _ (by rfl) (by first|exact Or.inl rfl|exact Or.inr (Or.inl rfl)|exact Or.inr (Or.inr rfl)) (by decide) (by decide)) (@ā _ _ _ _ _ (@Ă _ _ _ _ _ _))))) (@ă _ _ _ 6 _ _ (by rfl) (by first|exact Or.inl rfl|exact Or.inr (Or.inl rfl)|exact Or.inr (Or.inr rfl)) (by decide) (by decide)))) (@Ġ _ _ _) (by exact Ĉ rfl)) (by exact Ĉ rfl)) (by decide) (by exact Ĉ rfl) (by rfl)) (by rfl) (by first|exact .inl rfl|exact .inr rfl|assumption)) (@Ď _ _ _ _ _ (@Ū _ _ _ _ _ _ _ _ _ _ (@PW.pt _ _ _ (@w_and _ _ _ _ _ _ _ _ _ (@Ŋ _ _ _ _ _ _ _ _ _ _ _ (@bN _) (@Ż _ hu) (@ă _ _ _ 5 _ _ (by rfl) (by first|exact Or.inl rfl|exact Or.inr (Or.inl rfl)|exact Or.inr (Or.inr rfl)) (by decide) (by decide)) (@ā _ _ _ _ _ (@Ī _ _ _ _ _ (@ŷ _ _ _ _ _ _ (@ğ _ _ _)))) (Ħ _)) (@wg _ _ _ _ _ _ (@Ŋ _ _ _ _ _ _ _ _ _ _ _ (@aR _) (@Ŭ _ hu) (@ā _ _ _ _ _ (@ĉ _ _ _ _ _ _ _ _ _ _ _ (@ń _) (@Ł _) (@ă _ _ _ 7 _ _ (by rfl) (by first|exact Or.inl rfl|exact Or.inr (Or.inl rfl)|exact Or.inr (Or.inr rfl)) (by decide) (by decide)) (@ā _ _ _ _ _ (@Ă _ _ _ _ _ _)))) (@ā _ _ _ _ _ (@Ă _ _ _ _ _ _)) (Ħ _))))) (@Ď _ _ _ _ _ (@PS.wk _ _ _ _ (bT (iG PySem.F.plainAttrs_list PySem.F.slot_list_append PySem.F.type_list_append ź (pv 5) (@ć _ _ _ _ _ _ _ (@ę _ _ _ _ _ _ _ _ _ _ (@Đ _) (@ď _) (@ă _ _ _ 5 _ _ (by rfl) (by first|exact Or.inl rfl|exact Or.inr (Or.inl rfl)|exact Or.inr (Or.inr rfl)) (by decide) (by decide)) (@ā _ _ _ _ _ (@iQ _ _ _ _ _ _ _ _ _ (@aQ _) (@ao _) (@ā _ _ _ _ _ (@Ă _ _ _ _ _ _)))) (fun _ _=>rfl)) (@ğ _ _ _) (by exact Ĉ rfl)))) (fun _ _ _ h=> @gY _ _ _ _ _ _ _ _ h))) (@Ď _ _ _ _ _ (@PS.wk _ _ _ _ (bT (iG PySem.F.plainAttrs_list PySem.F.slot_list_append PySem.F.type_list_append ź (pv 5) (@ć _ _ _ _ _ _ _ (@Ī _ _ _ _ _ (@ġ _ _ _ _ _ _ _ _ _ _ _ _ _ _ _ _ (Je T) ē (hr.mono (by decide)) rfl T.gG T.DR.kp T.Oj (@ķ _ _ _ _ _ _ _ _ _ _ _ _ _ _ _) (@į _ _ _ _ _ _ _ (@ĉ _ _ _ _ _ _ _ _ _ _ _ (@ő _) (@ŀ _) (@ă _ _ _ 7 _ _ (by rfl) (by first|exact Or.inl rfl|exact Or.inr (Or.inl rfl)|exact Or.inr (Or.inr rfl)) (by decide) (by decide)) (@ā _ _ _ _ _ (@Ă _ _ _ _ _ _))) (@č _ _ _ _ _ 3 _ _ (by rfl) (by first|exact Or.inl rfl|exact Or.inr (Or.inl rfl)|exact Or.inr (Or.inr rfl)) (by decide) (by decide) (@č _ _ _ _ _ 4 _ _ (by rfl) (by first|exact Or.inl rfl|exact Or.inr (Or.inl rfl)|exact Or.inr (Or.inr rfl)) (by decide) (by decide) (@č _ _ _ _ _ 6 _ _ (by rfl) (by first|exact Or.inl rfl|exact Or.inr (Or.inl rfl)|exact Or.inr (Or.inr rfl)) (by decide) (by decide) (@Ġ _ _ _) (by exact Ĉ rfl)) (by exact Ĉ rfl)) (by exact Ĉ rfl)) (by exact Ĉ rfl)) (by decide) (by exact Ĉ rfl) (by rfl))) (@ğ _ _ _) (by exact Ĉ rfl)))) (fun _ _ _ h=> @gY _ _ _ _ _ _ _ _ h)))))) (by intro _;rfl)) (@Ď _ _ _ _ _ (@ĩ _ _ _ _ _ _ (@iM _ _ _ 5 _ _ (by rfl) (by first|exact Or.inl rfl|exact Or.inr (Or.inl rfl)|exact Or.inr (Or.inr rfl)) (by decide) (by decide)))))))))
theorem Ac(T:Tx K mg a):Œ P w K mg base (cg P w) 2 a.yM a.yN ["_law_points_here","_law_cell_here"] (cF ⟨K,Ş a⟩ 2 aU):=by
 refine fH (cm:=Ş a) (mb:=dZ) T.zL ů rfl rfl rfl fun cdv A outer s H E hr=>?_
 have hu:=hr.units
 exact(@Ć _ _ _ _ _ _ _ (@ģ _ _ _ _ _ _ 1 _ _ ů.nd rfl (by first|exact Or.inl rfl|exact Or.inr rfl) (@İ _ _ _ _ _ (@ĉ _ _ _ _ _ _ _ _ _ _ _ (@ń _) (@Ł _) (@ă _ _ _ 1 _ _ (by rfl) (by first|exact Or.inl rfl|exact Or.inr (Or.inl rfl)|exact Or.inr (Or.inr rfl)) (by decide) (by decide)) (@ā _ _ _ _ _ (@ĉ _ _ _ _ _ _ _ _ _ _ _ (@Ũ _) (@ť _) (@ā _ _ _ _ _ (@Ă _ _ _ _ _ _)) (@ā _ _ _ _ _ (@Ă _ _ _ _ _ _)))))) (by rfl) (by first|exact .inl rfl|exact .inr rfl|assumption)) (@Ć _ _ _ _ _ _ _ (@ģ _ _ _ _ _ _ 2 _ _ ů.nd rfl (Or.inl rfl) (@İ _ _ _ _ _ (@ĉ _ _ _ _ _ _ _ _ _ _ _ (@ń _) (@Ł _) (@ă _ _ _ 1 _ _ (by rfl) (by first|exact Or.inl rfl|exact Or.inr (Or.inl rfl)|exact Or.inr (Or.inr rfl)) (by decide) (by decide)) (@ā _ _ _ _ _ (@Ă _ _ _ _ _ _)))) (by rfl) (by first|exact .inl rfl|exact .inr rfl|assumption)) (@Ć _ _ _ _ _ _ _ (@ģ _ _ _ _ _ _ 3 _ _ ů.nd rfl (Or.inl rfl) (@İ _ _ _ _ _ (@ĉ _ _ _ _ _ _ _ _ _ _ _ (@ń _) (@Ł _) (@ā _ _ _ _ _ (@ĉ _ _ _ _ _ _ _ _ _ _ _ (@ő _) (@ŀ _) (@ă _ _ _ 1 _ _ (by rfl) (by first|exact Or.inl rfl|exact Or.inr (Or.inl rfl)|exact Or.inr (Or.inr rfl)) (by decide) (by decide)) (@ā _ _ _ _ _ (@Ă _ _ _ _ _ _)))) (@ā _ _ _ _ _ (@PE.wk _ _ _ _ (Ē aq (by rfl) T.cB PySem.boot_len (@Č _ _ _ _ _ _ _ (@ă _ _ _ 0 _ _ (by rfl) (by first|exact Or.inl rfl|exact Or.inr (Or.inl rfl)|exact Or.inr (Or.inr rfl)) (by decide) (by decide)) (@Ě _ _ _) (by exact Ĉ rfl))) (fun _ _ _ h=> @Ň _ _ _ _ _ _ (@aC _) _ _ _ h))))) (by rfl) (by first|exact .inl rfl|exact .inr rfl|assumption)) (@Ć _ _ _ _ _ _ _ (@Ū _ _ _ _ _ _ _ _ _ _ (@Ŋ _ _ _ _ _ _ _ _ _ _ _ (@aR _) (@Ŭ _ hu) (@ă _ _ _ 2 _ _ (by rfl) (by first|exact Or.inl rfl|exact Or.inr (Or.inl rfl)|exact Or.inr (Or.inr rfl)) (by decide) (by decide)) (@ā _ _ _ _ _ (@Ă _ _ _ _ _ _)) (Ħ _)) (@Ď _ _ _ _ _ (@ĩ _ _ _ _ _ _ (@İ _ _ _ _ _ (@Ŏ _ _ _ _ _ _ _ (@ć _ _ _ _ _ _ _ (@ĉ _ _ _ _ _ _ _ _ _ _ _ (@ĵ _) (@ĳ _) (@ā _ _ _ _ _ (@ĉ _ _ _ _ _ _ _ _ _ _ _ (@ń _) (@Ł _) (@ā _ _ _ _ _ (@ĉ _ _ _ _ _ _ _ _ _ _ _ (@ő _) (@ŀ _) (@ă _ _ _ 1 _ _ (by rfl) (by first|exact Or.inl rfl|exact Or.inr (Or.inl rfl)|exact Or.inr (Or.inr rfl)) (by decide) (by decide)) (@ā _ _ _ _ _ (@Ă _ _ _ _ _ _)))) (@ā _ _ _ _ _ (@Ă _ _ _ _ _ _)))) (@ā _ _ _ _ _ (@Ă _ _ _ _ _ _))) (@ć _ _ _ _ _ _ _ (@ĉ _ _ _ _ _ _ _ _ _ _ _ (@ĵ _) (@ĳ _) (@ā _ _ _ _ _ (@ĉ _ _ _ _ _ _ _ _ _ _ _ (@ń _) (@Ł _) (@ā _ _ _ _ _ (@ĉ _ _ _ _ _ _ _ _ _ _ _ (@ő _) (@ŀ _) (@ă _ _ _ 1 _ _ (by rfl) (by first|exact Or.inl rfl|exact Or.inr (Or.inl rfl)|exact Or.inr (Or.inr rfl)) (by decide) (by decide)) (@ā _ _ _ _ _ (@Ă _ _ _ _ _ _)))) (@ā _ _ _ _ _ (@Ă _ _ _ _ _ _)))) (@ā _ _ _ _ _ (@Ă _ _ _ _ _ _))) (@ğ _ _ _) (by exact Ĉ rfl)) (by exact Ĉ rfl)))))) (@Ĵ _ _ _)) (@Ć _ _ _ _ _ _ _ (@Ū _ _ _ _ _ _ _ _ _ _ (@Ŋ _ _ _ _ _ _ _ _ _ _ _ (@aR _) (@Ŭ _ hu) (@ă _ _ _ 2 _ _ (by rfl) (by first|exact Or.inl rfl|exact Or.inr (Or.inl rfl)|exact Or.inr (Or.inr rfl)) (by decide) (by decide)) (@ā _ _ _ _ _ (@Ă _ _ _ _ _ _)) (Ħ _)) (@Ď _ _ _ _ _ (@ĩ _ _ _ _ _ _ (@İ _ _ _ _ _ (@ę _ _ _ _ _ _ _ _ _ _ (@Đ _) (@ď _) (@ă _ _ _ 0 _ _ (by rfl) (by first|exact Or.inl rfl|exact Or.inr (Or.inl rfl)|exact Or.inr (Or.inr rfl)) (by decide) (by decide)) (@ă _ _ _ 3 _ _ (by rfl) (by first|exact Or.inl rfl|exact Or.inr (Or.inl rfl)|exact Or.inr (Or.inr rfl)) (by decide) (by decide)) (fun _ _=>rfl))))) (@Ĵ _ _ _)) (@Ć _ _ _ _ _ _ _ (@Ū _ _ _ _ _ _ _ _ _ _ (@Ŋ _ _ _ _ _ _ _ _ _ _ _ (@aR _) (@Ŭ _ hu) (@ă _ _ _ 2 _ _ (by rfl) (by first|exact Or.inl rfl|exact Or.inr (Or.inl rfl)|exact Or.inr (Or.inr rfl)) (by decide) (by decide)) (@ā _ _ _ _ _ (@Ă _ _ _ _ _ _)) (Ħ _)) (@Ć _ _ _ _ _ _ _ (@ģ _ _ _ _ _ _ 8 _ _ ů.nd rfl (Or.inl rfl) (@İ _ _ _ _ _ (@ĉ _ _ _ _ _ _ _ _ _ _ _ (@ĵ _) (@ĳ _) (@ā _ _ _ _ _ (@Ī _ _ _ _ _ (@ō _ _ _ _ _ _ _ _ _ _ _ (@Ĺ _) (@ĸ _) (@ā _ _ _ _ _ (@ĉ _ _ _ _ _ _ _ _ _ _ _ (@ő _) (@ŀ _) (@ā _ _ _ _ _ (@Ī _ _ _ _ _ (@ō _ _ _ _ _ _ _ _ _ _ _ (@Ĺ _) (@ĸ _) (@ā _ _ _ _ _ (@ę _ _ _ _ _ _ _ _ _ _ (@Đ _) (@ď _) (@ā _ _ _ _ _ (@ę _ _ _ _ _ _ _ _ _ _ (@Đ _) (@ď _) (@ă _ _ _ 0 _ _ (by rfl) (by first|exact Or.inl rfl|exact Or.inr (Or.inl rfl)|exact Or.inr (Or.inr rfl)) (by decide) (by decide)) (@ă _ _ _ 3 _ _ (by rfl) (by first|exact Or.inl rfl|exact Or.inr (Or.inl rfl)|exact Or.inr (Or.inr rfl)) (by decide) (by decide)) (fun _ _=>rfl))) (@ā _ _ _ _ _ (@Ă _ _ _ _ _ _)) (fun _ _=>rfl))) (@ā _ _ _ _ _ (@ę _ _ _ _ _ _ _ _ _ _ (@Đ _) (@ď _) (@ā _ _ _ _ _ (@ę _ _ _ _ _ _ _ _ _ _ (@Đ _) (@ď _) (@ă _ _ _ 0 _ _ (by rfl) (by first|exact Or.inl rfl|exact Or.inr (Or.inl rfl)|exact Or.inr (Or.inr rfl)) (by decide) (by decide)) (@ā _ _ _ _ _ (@ĉ _ _ _ _ _ _ _ _ _ _ _ (@ĵ _) (@ĳ _) (@ă _ _ _ 3 _ _ (by rfl) (by first|exact Or.inl rfl|exact Or.inr (Or.inl rfl)|exact Or.inr (Or.inr rfl)) (by decide) (by decide)) (@ā _ _ _ _ _ (@Ă _ _ _ _ _ _)))) (fun _ _=>rfl))) (@ā _ _ _ _ _ (@Ă _ _ _ _ _ _)) (fun _ _=>rfl)))))) (@ā _ _ _ _ _ (@Ă _ _ _ _ _ _)))) (@ā _ _ _ _ _ (@ĉ _ _ _ _ _ _ _ _ _ _ _ (@ń _) (@Ł _) (@ā _ _ _ _ _ (@ĉ _ _ _ _ _ _ _ _ _ _ _ (@ő _) (@ŀ _) (@ă _ _ _ 1 _ _ (by rfl) (by first|exact Or.inl rfl|exact Or.inr (Or.inl rfl)|exact Or.inr (Or.inr rfl)) (by decide) (by decide)) (@ā _ _ _ _ _ (@Ă _ _ _ _ _ _)))) (@ā _ _ _ _ _ (@Ă _ _ _ _ _ _))))))) (@ā _ _ _ _ _ (@Ă _ _ _ _ _ _)))) (by rfl) (by first|exact .inl rfl|exact .inr rfl|assumption)) (@Ć _ _ _ _ _ _ _ (@ģ _ _ _ _ _ _ 9 _ _ ů.nd rfl (Or.inl rfl) (@İ _ _ _ _ _ (@ĉ _ _ _ _ _ _ _ _ _ _ _ (@ĵ _) (@ĳ _) (@ā _ _ _ _ _ (@Ī _ _ _ _ _ (@ō _ _ _ _ _ _ _ _ _ _ _ (@Ĺ _) (@ĸ _) (@ā _ _ _ _ _ (@ĉ _ _ _ _ _ _ _ _ _ _ _ (@ő _) (@ŀ _) (@ā _ _ _ _ _ (@Ī _ _ _ _ _ (@ō _ _ _ _ _ _ _ _ _ _ _ (@Ĺ _) (@ĸ _) (@ā _ _ _ _ _ (@ę _ _ _ _ _ _ _ _ _ _ (@Đ _) (@ď _) (@ā _ _ _ _ _ (@ę _ _ _ _ _ _ _ _ _ _ (@Đ _) (@ď _) (@ă _ _ _ 0 _ _ (by rfl) (by first|exact Or.inl rfl|exact Or.inr (Or.inl rfl)|exact Or.inr (Or.inr rfl)) (by decide) (by decide)) (@ă _ _ _ 3 _ _ (by rfl) (by first|exact Or.inl rfl|exact Or.inr (Or.inl rfl)|exact Or.inr (Or.inr rfl)) (by decide) (by decide)) (fun _ _=>rfl))) (@ā _ _ _ _ _ (@Ă _ _ _ _ _ _)) (fun _ _=>rfl))) (@ā _ _ _ _ _ (@ę _ _ _ _ _ _ _ _ _ _ (@Đ _) (@ď _) (@ā _ _ _ _ _ (@ę _ _ _ _ _ _ _ _ _ _ (@Đ _) (@ď _) (@ă _ _ _ 0 _ _ (by rfl) (by first|exact Or.inl rfl|exact Or.inr (Or.inl rfl)|exact Or.inr (Or.inr rfl)) (by decide) (by decide)) (@ā _ _ _ _ _ (@ĉ _ _ _ _ _ _ _ _ _ _ _ (@ĵ _) (@ĳ _) (@ă _ _ _ 3 _ _ (by rfl) (by first|exact Or.inl rfl|exact Or.inr (Or.inl rfl)|exact Or.inr (Or.inr rfl)) (by decide) (by decide)) (@ā _ _ _ _ _ (@Ă _ _ _ _ _ _)))) (fun _ _=>rfl))) (@ā _ _ _ _ _ (@Ă _ _ _ _ _ _)) (fun _ _=>rfl)))))) (@ā _ _ _ _ _ (@Ă _ _ _ _ _ _)))) (@ā _ _ _ _ _ (@ĉ _ _ _ _ _ _ _ _ _ _ _ (@ń _) (@Ł _) (@ā _ _ _ _ _ (@ĉ _ _ _ _ _ _ _ _ _ _ _ (@ő _) (@ŀ _) (@ă _ _ _ 1 _ _ (by rfl) (by first|exact Or.inl rfl|exact Or.inr (Or.inl rfl)|exact Or.inr (Or.inr rfl)) (by decide) (by decide)) (@ā _ _ _ _ _ (@Ă _ _ _ _ _ _)))) (@ā _ _ _ _ _ (@Ă _ _ _ _ _ _))))))) (@ā _ _ _ _ _ (@Ă _ _ _ _ _ _)))) (by rfl) (by first|exact .inl rfl|exact .inr rfl|assumption)) (@Ď _ _ _ _ _ (@ĩ _ _ _ _ _ _ (@İ _ _ _ _ _ (@Ŏ _ _ _ _ _ _ _ (@ć _ _ _ _ _ _ _ (@PE.wk _ _ _ _ (Ē (@gU _ rfl) (by rfl) T.jo PyProof.Rows.boot_max (@Č _ _ _ _ _ _ _ (@ā _ _ _ _ _ (@ĉ _ _ _ _ _ _ _ _ _ _ _ (@ĵ _) (@ĳ _) (@ā _ _ _ _ _ (@Ă _ _ _ _ _ _)) (@ā _ _ _ _ _ (@ĉ _ _ _ _ _ _ _ _ _ _ _ (@Ũ _) (@ť _) (@ā _ _ _ _ _ (@Ă _ _ _ _ _ _)) (@ā _ _ _ _ _ (@Ă _ _ _ _ _ _)))))) (@Č _ _ _ _ _ _ _ (@ā _ _ _ _ _ (@PE.wk _ _ _ _ (Ē (@gR _ rfl) (by rfl) T.lq PyProof.Rows.boot_min (@Č _ _ _ _ _ _ _ (@ă _ _ _ 8 _ _ (by rfl) (by first|exact Or.inl rfl|exact Or.inr (Or.inl rfl)|exact Or.inr (Or.inr rfl)) (by decide) (by decide)) (@Č _ _ _ _ _ _ _ (@ā _ _ _ _ _ (@ĉ _ _ _ _ _ _ _ _ _ _ _ (@Ũ _) (@ť _) (@ā _ _ _ _ _ (@Ă _ _ _ _ _ _)) (@ā _ _ _ _ _ (@Ă _ _ _ _ _ _)))) (@Ě _ _ _) (by exact Ĉ rfl)) (by exact Ĉ rfl))) (fun _ _ _ h=> @Ň _ _ _ _ _ _ (@g_ _) _ _ _ h))) (@Ě _ _ _) (by exact Ĉ rfl)) (by exact Ĉ rfl))) (fun _ _ _ h=> @Ň _ _ _ _ _ _ (@h_ _) _ _ _ h)) (@ć _ _ _ _ _ _ _ (@PE.wk _ _ _ _ (Ē (@gU _ rfl) (by rfl) T.jo PyProof.Rows.boot_max (@Č _ _ _ _ _ _ _ (@ā _ _ _ _ _ (@ĉ _ _ _ _ _ _ _ _ _ _ _ (@ĵ _) (@ĳ _) (@ā _ _ _ _ _ (@Ă _ _ _ _ _ _)) (@ā _ _ _ _ _ (@ĉ _ _ _ _ _ _ _ _ _ _ _ (@Ũ _) (@ť _) (@ā _ _ _ _ _ (@Ă _ _ _ _ _ _)) (@ā _ _ _ _ _ (@Ă _ _ _ _ _ _)))))) (@Č _ _ _ _ _ _ _ (@ā _ _ _ _ _ (@PE.wk _ _ _ _ (Ē (@gR _ rfl) (by rfl) T.lq PyProof.Rows.boot_min (@Č _ _ _ _ _ _ _ (@ă _ _ _ 9 _ _ (by rfl) (by first|exact Or.inl rfl|exact Or.inr (Or.inl rfl)|exact Or.inr (Or.inr rfl)) (by decide) (by decide)) (@Č _ _ _ _ _ _ _ (@ā _ _ _ _ _ (@ĉ _ _ _ _ _ _ _ _ _ _ _ (@Ũ _) (@ť _) (@ā _ _ _ _ _ (@Ă _ _ _ _ _ _)) (@ā _ _ _ _ _ (@Ă _ _ _ _ _ _)))) (@Ě _ _ _) (by exact Ĉ rfl)) (by exact Ĉ rfl))) (fun _ _ _ h=> @Ň _ _ _ _ _ _ (@g_ _) _ _ _ h))) (@Ě _ _ _) (by exact Ĉ rfl)) (by exact Ĉ rfl))) (fun _ _ _ h=> @Ň _ _ _ _ _ _ (@h_ _) _ _ _ h)) (@ğ _ _ _) (by exact Ĉ rfl)) (by exact Ĉ rfl)))))))) (@Ĵ _ _ _)) (@Ć _ _ _ _ _ _ _ (@Ū _ _ _ _ _ _ _ _ _ _ (@Ŋ _ _ _ _ _ _ _ _ _ _ _ (@aR _) (@Ŭ _ hu) (@ă _ _ _ 2 _ _ (by rfl) (by first|exact Or.inl rfl|exact Or.inr (Or.inl rfl)|exact Or.inr (Or.inr rfl)) (by decide) (by decide)) (@ā _ _ _ _ _ (@Ă _ _ _ _ _ _)) (Ħ _)) (@Ć _ _ _ _ _ _ _ (@ģ _ _ _ _ _ _ 10 _ _ ů.nd rfl (Or.inl rfl) (@ō _ _ _ _ _ _ _ _ _ _ _ (@Ĺ _) (@ĸ _) (@ā _ _ _ _ _ (@Ī _ _ _ _ _ (ŭ ["_law_points_here","_law_cell_here","_law_k"] [0,1] 1 (ċ dJ) rfl rfl (@aj _ _ _ _ _ _ _ _ rfl T.aY (@ć _ _ _ _ _ _ _ (@PE.wk _ _ _ _ (Ē aq (by rfl) T.cB PySem.boot_len (@Č _ _ _ _ _ _ _ (@ă _ _ _ 0 _ _ (by rfl) (by first|exact Or.inl rfl|exact Or.inr (Or.inl rfl)|exact Or.inr (Or.inr rfl)) (by decide) (by decide)) (@Ě _ _ _) (by exact Ĉ rfl))) (fun _ _ _ h=> @Ň _ _ _ _ _ _ (@aC _) _ _ _ h)) (@ğ _ _ _) (by exact Ĉ rfl)) (by exact Ĉ rfl)) (fun _ _ _ _ _=>(@Ĥ _ _ _ 2 _ (show(["_law_points_here","_law_cell_here","_law_k"]:List Str).Nodup by decide +kernel) rfl (Or.inl rfl) (Or.inr rfl))) (fun _ _ _ _ _=>(@wF _ _ _ _ _ (@Ŋ _ _ _ _ _ _ _ _ _ _ _ (@aR _) (@Ŭ _ hu) (@ā _ _ _ _ _ (@ĉ _ _ _ _ _ _ _ _ _ _ _ (@ń _) (@Ł _) (@ā _ _ _ _ _ (@Ī _ _ _ _ _ (@ġ _ _ _ _ _ _ _ _ _ _ _ _ _ _ _ _ (ju T) ē (hr.mono (by decide)) rfl T.Ŕ T.k_.kp T.oX (@iY _ _ _) (@į _ _ _ _ _ _ _ (@ĉ _ _ _ _ _ _ _ _ _ _ _ (@ő _) (@ŀ _) (@ă _ _ _ 1 _ _ (by rfl) (by first|exact Or.inl rfl|exact Or.inr (Or.inl rfl)|exact Or.inr (Or.inr rfl)) (by decide) (by decide)) (@ā _ _ _ _ _ (@Ă _ _ _ _ _ _))) (@č _ _ _ _ _ 2 _ _ (by rfl) (by first|exact Or.inl rfl|exact Or.inr (Or.inl rfl)|exact Or.inr (Or.inr rfl)) (by decide) (by decide) (@Ġ _ _ _) (by exact Ĉ rfl)) (by exact Ĉ rfl)) (by decide) (by exact Ĉ rfl) (by rfl)))) (@ā _ _ _ _ _ (@Ă _ _ _ _ _ _)))) (@ā _ _ _ _ _ (@Ă _ _ _ _ _ _)) (Ħ _)))) (fun _ _ _ _ _=>(@ę _ _ _ _ _ _ _ _ _ _ (@Đ _) (@ď _) (@ă _ _ _ 0 _ _ (by rfl) (by first|exact Or.inl rfl|exact Or.inr (Or.inl rfl)|exact Or.inr (Or.inr rfl)) (by decide) (by decide)) (@ă _ _ _ 2 _ _ (by rfl) (by first|exact Or.inl rfl|exact Or.inr (Or.inl rfl)|exact Or.inr (Or.inr rfl)) (by decide) (by decide)) (fun _ _=>rfl))) ⟨rfl,⟨rfl,Or.inl rfl⟩,⟨rfl,⟨rfl,Or.inl rfl⟩,trivial⟩⟩))) (@ā _ _ _ _ _ (@Ī _ _ _ _ _ (@ŷ _ _ _ _ _ _ (@ć _ _ _ _ _ _ _ (@ę _ _ _ _ _ _ _ _ _ _ (@Đ _) (@ď _) (@ă _ _ _ 0 _ _ (by rfl) (by first|exact Or.inl rfl|exact Or.inr (Or.inl rfl)|exact Or.inr (Or.inr rfl)) (by decide) (by decide)) (@ă _ _ _ 3 _ _ (by rfl) (by first|exact Or.inl rfl|exact Or.inr (Or.inl rfl)|exact Or.inr (Or.inr rfl)) (by decide) (by decide)) (fun _ _=>rfl)) (@ğ _ _ _) (by exact Ĉ rfl)))))) (by rfl) (by first|exact .inl rfl|exact .inr rfl|assumption)) (@Ć _ _ _ _ _ _ _ (@ģ _ _ _ _ _ _ 8 _ _ ů.nd rfl (Or.inl rfl) (@İ _ _ _ _ _ (@PE.wk _ _ _ _ (Ē (@fU _ rfl) (by rfl) T.lu PyProof.Rows.boot_sum (@Č _ _ _ _ _ _ _ (@ā _ _ _ _ _ (@Ī _ _ _ _ _ (ŭ ["_law_one"] [] 1 (ċ dJ) rfl rfl (@ŗ _ _ _ _ 10 _ _ (by rfl) (by first|exact Or.inl rfl|exact Or.inr (Or.inl rfl)|exact Or.inr (Or.inr rfl)) (by decide) (by decide)) (fun _ _ _ _ _=>(@Ĥ _ _ _ 0 _ (show(["_law_one"]:List Str).Nodup by decide +kernel) rfl (Or.inl rfl) (Or.inr rfl))) (fun _ _ _ _ _=>(@ŧ _ _ _)) (fun _ _ _ _ _=>(@ę _ _ _ _ _ _ _ _ _ _ (@Đ _) (@ď _) (@ă _ _ _ 0 _ _ (by rfl) (by first|exact Or.inl rfl|exact Or.inr (Or.inl rfl)|exact Or.inr (Or.inr rfl)) (by decide) (by decide)) (@ā _ _ _ _ _ (@Ă _ _ _ _ _ _)) (fun _ _=>rfl))) trivial))) (@Ě _ _ _) (by exact Ĉ rfl))) (fun _ _ _ h=> @Ň _ _ _ _ _ _ (@fV _) _ _ _ h))) (by rfl) (by first|exact .inl rfl|exact .inr rfl|assumption)) (@Ć _ _ _ _ _ _ _ (@ģ _ _ _ _ _ _ 9 _ _ ů.nd rfl (Or.inl rfl) (@İ _ _ _ _ _ (@PE.wk _ _ _ _ (Ē (@fU _ rfl) (by rfl) T.lu PyProof.Rows.boot_sum (@Č _ _ _ _ _ _ _ (@ā _ _ _ _ _ (@Ī _ _ _ _ _ (ŭ ["_law_one"] [] 1 (ċ dJ) rfl rfl (@ŗ _ _ _ _ 10 _ _ (by rfl) (by first|exact Or.inl rfl|exact Or.inr (Or.inl rfl)|exact Or.inr (Or.inr rfl)) (by decide) (by decide)) (fun _ _ _ _ _=>(@Ĥ _ _ _ 0 _ (show(["_law_one"]:List Str).Nodup by decide +kernel) rfl (Or.inl rfl) (Or.inr rfl))) (fun _ _ _ _ _=>(@ŧ _ _ _)) (fun _ _ _ _ _=>(@ę _ _ _ _ _ _ _ _ _ _ (@Đ _) (@ď _) (@ă _ _ _ 0 _ _ (by rfl) (by first|exact Or.inl rfl|exact Or.inr (Or.inl rfl)|exact Or.inr (Or.inr rfl)) (by decide) (by decide)) (@ā _ _ _ _ _ (@Ă _ _ _ _ _ _)) (fun _ _=>rfl))) trivial))) (@Ě _ _ _) (by exact Ĉ rfl))) (fun _ _ _ h=> @Ň _ _ _ _ _ _ (@fV _) _ _ _ h))) (by rfl) (by first|exact .inl rfl|exact .inr rfl|assumption)) (@Ď _ _ _ _ _ (@ĩ _ _ _ _ _ _ (@İ _ _ _ _ _ (@Ŏ _ _ _ _ _ _ _ (@ć _ _ _ _ _ _ _ (@ĉ _ _ _ _ _ _ _ _ _ _ _ (@ő _) (@ŀ _) (@ă _ _ _ 8 _ _ (by rfl) (by first|exact Or.inl rfl|exact Or.inr (Or.inl rfl)|exact Or.inr (Or.inr rfl)) (by decide) (by decide)) (@ā _ _ _ _ _ (@PE.wk _ _ _ _ (Ē aq (by rfl) T.cB PySem.boot_len (@Č _ _ _ _ _ _ _ (@ă _ _ _ 10 _ _ (by rfl) (by first|exact Or.inl rfl|exact Or.inr (Or.inl rfl)|exact Or.inr (Or.inr rfl)) (by decide) (by decide)) (@Ě _ _ _) (by exact Ĉ rfl))) (fun _ _ _ h=> @Ň _ _ _ _ _ _ (@aC _) _ _ _ h)))) (@ć _ _ _ _ _ _ _ (@ĉ _ _ _ _ _ _ _ _ _ _ _ (@ő _) (@ŀ _) (@ă _ _ _ 9 _ _ (by rfl) (by first|exact Or.inl rfl|exact Or.inr (Or.inl rfl)|exact Or.inr (Or.inr rfl)) (by decide) (by decide)) (@ā _ _ _ _ _ (@PE.wk _ _ _ _ (Ē aq (by rfl) T.cB PySem.boot_len (@Č _ _ _ _ _ _ _ (@ă _ _ _ 10 _ _ (by rfl) (by first|exact Or.inl rfl|exact Or.inr (Or.inl rfl)|exact Or.inr (Or.inr rfl)) (by decide) (by decide)) (@Ě _ _ _) (by exact Ĉ rfl))) (fun _ _ _ h=> @Ň _ _ _ _ _ _ (@aC _) _ _ _ h)))) (@ğ _ _ _) (by exact Ĉ rfl)) (by exact Ĉ rfl))))))))) (@Ĵ _ _ _)) (@Ć _ _ _ _ _ _ _ (@ģ _ _ _ _ _ _ 4 _ _ ů.nd rfl (by first|exact Or.inl rfl|exact Or.inr rfl) (@İ _ _ _ _ _ (@ę _ _ _ _ _ _ _ _ _ _ (@Đ _) (@ď _) (@ā _ _ _ _ _ (@Ī _ _ _ _ _ (@ŷ _ _ _ _ _ _ (@ć _ _ _ _ _ _ _ (@Ŏ _ _ _ _ _ _ _ (@ć _ _ _ _ _ _ _ (@Ă _ _ _ _ _ _) (@ć _ _ _ _ _ _ _ (@Ă _ _ _ _ _ _) (@ğ _ _ _) (by exact Ĉ rfl)) (by exact Ĉ rfl))) (@ć _ _ _ _ _ _ _ (@Ŏ _ _ _ _ _ _ _ (@ć _ _ _ _ _ _ _ (@Ă _ _ _ _ _ _) (@ć _ _ _ _ _ _ _ (@Ă _ _ _ _ _ _) (@ğ _ _ _) (by exact Ĉ rfl)) (by exact Ĉ rfl))) (@ć _ _ _ _ _ _ _ (@Ŏ _ _ _ _ _ _ _ (@ć _ _ _ _ _ _ _ (@Ă _ _ _ _ _ _) (@ć _ _ _ _ _ _ _ (@Ă _ _ _ _ _ _) (@ğ _ _ _) (by exact Ĉ rfl)) (by exact Ĉ rfl))) (@ć _ _ _ _ _ _ _ (@Ŏ _ _ _ _ _ _ _ (@ć _ _ _ _ _ _ _ (@Ă _ _ _ _ _ _) (@ć _ _ _ _ _ _ _ (@iQ _ _ _ _ _ _ _ _ _ (@aQ _) (@ao _) (@ā _ _ _ _ _ (@Ă _ _ _ _ _ _))) (@ğ _ _ _) (by exact Ĉ rfl)) (by exact Ĉ rfl))) (@ć _ _ _ _ _ _ _ (@Ŏ _ _ _ _ _ _ _ (@ć _ _ _ _ _ _ _ (@iQ _ _ _ _ _ _ _ _ _ (@aQ _) (@ao _) (@ā _ _ _ _ _ (@Ă _ _ _ _ _ _))) (@ć _ _ _ _ _ _ _ (@Ă _ _ _ _ _ _) (@ğ _ _ _) (by exact Ĉ rfl)) (by exact Ĉ rfl))) (@ć _ _ _ _ _ _ _ (@Ŏ _ _ _ _ _ _ _ (@ć _ _ _ _ _ _ _ (@Ă _ _ _ _ _ _) (@ć _ _ _ _ _ _ _ (@iQ _ _ _ _ _ _ _ _ _ (@aQ _) (@ao _) (@ā _ _ _ _ _ (@Ă _ _ _ _ _ _))) (@ğ _ _ _) (by exact Ĉ rfl)) (by exact Ĉ rfl))) (@ć _ _ _ _ _ _ _ (@Ŏ _ _ _ _ _ _ _ (@ć _ _ _ _ _ _ _ (@Ă _ _ _ _ _ _) (@ć _ _ _ _ _ _ _ (@Ă _ _ _ _ _ _) (@ğ _ _ _) (by exact Ĉ rfl)) (by exact Ĉ rfl))) (@ć _ _ _ _ _ _ _ (@Ŏ _ _ _ _ _ _ _ (@ć _ _ _ _ _ _ _ (@iQ _ _ _ _ _ _ _ _ _ (@aQ _) (@ao _) (@ā _ _ _ _ _ (@Ă _ _ _ _ _ _))) (@ć _ _ _ _ _ _ _ (@Ă _ _ _ _ _ _) (@ğ _ _ _) (by exact Ĉ rfl)) (by exact Ĉ rfl))) (@ğ _ _ _) (by exact Ĉ rfl)) (by exact Ĉ rfl)) (by exact Ĉ rfl)) (by exact Ĉ rfl)) (by exact Ĉ rfl)) (by exact Ĉ rfl)) (by exact Ĉ rfl)) (by exact Ĉ rfl))))) (@ā _ _ _ _ _ (@ĉ _ _ _ _ _ _ _ _ _ _ _ (@ń _) (@Ł _) (@ā _ _ _ _ _ (@ĉ _ _ _ _ _ _ _ _ _ _ _ (@ő _) (@ŀ _) (@ă _ _ _ 1 _ _ (by rfl) (by first|exact Or.inl rfl|exact Or.inr (Or.inl rfl)|exact Or.inr (Or.inr rfl)) (by decide) (by decide)) (@ā _ _ _ _ _ (@Ă _ _ _ _ _ _)))) (@ā _ _ _ _ _ (@Ă _ _ _ _ _ _)))) (fun _ _=>rfl))) (by rfl) (by first|exact .inl rfl|exact .inr rfl|assumption)) (@Ć _ _ _ _ _ _ _ (@ģ _ _ _ _ _ _ 5 _ _ ů.nd rfl (by first|exact Or.inl rfl|exact Or.inr rfl) (@İ _ _ _ _ _ (@PE.wk _ _ _ _ (Ē (@qd _ rfl) (by rfl) T.jo PyProof.Rows.boot_max (@Č _ _ _ _ _ _ _ (@ā _ _ _ _ _ (@Ī _ _ _ _ _ (ŭ ["_law_turn","_law_one"] [4] 1 (ċ dJ) rfl rfl (@ŗ _ _ _ _ 0 _ _ (by rfl) (by first|exact Or.inl rfl|exact Or.inr (Or.inl rfl)|exact Or.inr (Or.inr rfl)) (by decide) (by decide)) (fun _ _ _ _ _=>(@Ĥ _ _ _ 1 _ (show(["_law_turn","_law_one"]:List Str).Nodup by decide +kernel) rfl (Or.inl rfl) (Or.inr rfl))) (fun _ _ _ _ _=>(@ŧ _ _ _)) (fun _ _ _ _ _=>(@Ī _ _ _ _ _ (@ō _ _ _ _ _ _ _ _ _ _ _ (@Ĺ _) (@ĸ _) (@ā _ _ _ _ _ (@ĉ _ _ _ _ _ _ _ _ _ _ _ (@Ĭ _) (@Ģ _) (@ā _ _ _ _ _ (@ę _ _ _ _ _ _ _ _ _ _ (@Đ _) (@ď _) (@ă _ _ _ 0 _ _ (by rfl) (by first|exact Or.inl rfl|exact Or.inr (Or.inl rfl)|exact Or.inr (Or.inr rfl)) (by decide) (by decide)) (@ā _ _ _ _ _ (@Ă _ _ _ _ _ _)) (fun _ _=>rfl))) (@ā _ _ _ _ _ (@ę _ _ _ _ _ _ _ _ _ _ (@Đ _) (@ď _) (@ă _ _ _ 1 _ _ (by rfl) (by first|exact Or.inl rfl|exact Or.inr (Or.inl rfl)|exact Or.inr (Or.inr rfl)) (by decide) (by decide)) (@ā _ _ _ _ _ (@Ă _ _ _ _ _ _)) (fun _ _=>rfl))))) (@ā _ _ _ _ _ (@ĉ _ _ _ _ _ _ _ _ _ _ _ (@Ĭ _) (@Ģ _) (@ā _ _ _ _ _ (@ę _ _ _ _ _ _ _ _ _ _ (@Đ _) (@ď _) (@ă _ _ _ 0 _ _ (by rfl) (by first|exact Or.inl rfl|exact Or.inr (Or.inl rfl)|exact Or.inr (Or.inr rfl)) (by decide) (by decide)) (@ā _ _ _ _ _ (@Ă _ _ _ _ _ _)) (fun _ _=>rfl))) (@ā _ _ _ _ _ (@ę _ _ _ _ _ _ _ _ _ _ (@Đ _) (@ď _) (@ă _ _ _ 1 _ _ (by rfl) (by first|exact Or.inl rfl|exact Or.inr (Or.inl rfl)|exact Or.inr (Or.inr rfl)) (by decide) (by decide)) (@ā _ _ _ _ _ (@Ă _ _ _ _ _ _)) (fun _ _=>rfl)))))))) ⟨rfl,⟨rfl,Or.inl rfl⟩,trivial⟩))) (@Ě _ _ _) (by exact Ĉ rfl))) (fun _ _ _ h=> @Ň _ _ _ _ _ _ (@qe _) _ _ _ h))) (by rfl) (by first|exact .inl rfl|exact .inr rfl|assumption)) (@Ć _ _ _ _ _ _ _ (@ģ _ _ _ _ _ _ 6 _ _ ů.nd rfl (Or.inl rfl) (@İ _ _ _ _ _ (@ę _ _ _ _ _ _ _ _ _ _ (@Đ _) (@ď _) (@ā _ _ _ _ _ (@Ī _ _ _ _ _ (ŭ ["_law_far","_law_turn","_law_one"] [5,4] 1 (ċ dJ) rfl rfl (@ŗ _ _ _ _ 0 _ _ (by rfl) (by first|exact Or.inl rfl|exact Or.inr (Or.inl rfl)|exact Or.inr (Or.inr rfl)) (by decide) (by decide)) (fun _ _ _ _ _=>(@Ĥ _ _ _ 2 _ (show(["_law_far","_law_turn","_law_one"]:List Str).Nodup by decide +kernel) rfl (Or.inl rfl) (Or.inr rfl))) (fun _ _ _ _ _=>(@wF _ _ _ _ _ (@Ŋ _ _ _ _ _ _ _ _ _ _ _ (@aR _) (@Ŭ _ hu) (@ā _ _ _ _ _ (@Ī _ _ _ _ _ (@ō _ _ _ _ _ _ _ _ _ _ _ (@Ĺ _) (@ĸ _) (@ā _ _ _ _ _ (@ĉ _ _ _ _ _ _ _ _ _ _ _ (@Ĭ _) (@Ģ _) (@ā _ _ _ _ _ (@ę _ _ _ _ _ _ _ _ _ _ (@Đ _) (@ď _) (@ă _ _ _ 1 _ _ (by rfl) (by first|exact Or.inl rfl|exact Or.inr (Or.inl rfl)|exact Or.inr (Or.inr rfl)) (by decide) (by decide)) (@ā _ _ _ _ _ (@Ă _ _ _ _ _ _)) (fun _ _=>rfl))) (@ā _ _ _ _ _ (@ę _ _ _ _ _ _ _ _ _ _ (@Đ _) (@ď _) (@ă _ _ _ 2 _ _ (by rfl) (by first|exact Or.inl rfl|exact Or.inr (Or.inl rfl)|exact Or.inr (Or.inr rfl)) (by decide) (by decide)) (@ā _ _ _ _ _ (@Ă _ _ _ _ _ _)) (fun _ _=>rfl))))) (@ā _ _ _ _ _ (@ĉ _ _ _ _ _ _ _ _ _ _ _ (@Ĭ _) (@Ģ _) (@ā _ _ _ _ _ (@ę _ _ _ _ _ _ _ _ _ _ (@Đ _) (@ď _) (@ă _ _ _ 1 _ _ (by rfl) (by first|exact Or.inl rfl|exact Or.inr (Or.inl rfl)|exact Or.inr (Or.inr rfl)) (by decide) (by decide)) (@ā _ _ _ _ _ (@Ă _ _ _ _ _ _)) (fun _ _=>rfl))) (@ā _ _ _ _ _ (@ę _ _ _ _ _ _ _ _ _ _ (@Đ _) (@ď _) (@ă _ _ _ 2 _ _ (by rfl) (by first|exact Or.inl rfl|exact Or.inr (Or.inl rfl)|exact Or.inr (Or.inr rfl)) (by decide) (by decide)) (@ā _ _ _ _ _ (@Ă _ _ _ _ _ _)) (fun _ _=>rfl)))))))) (@ă _ _ _ 0 _ _ (by rfl) (by first|exact Or.inl rfl|exact Or.inr (Or.inl rfl)|exact Or.inr (Or.inr rfl)) (by decide) (by decide)) (Ħ _)))) (fun _ _ _ _ _=>(@v_var _ _ _ 2 _ _ (by rfl) (by first|exact Or.inl rfl|exact Or.inr (Or.inl rfl)|exact Or.inr (Or.inr rfl)) (by decide) (by decide))) ⟨rfl,⟨rfl,Or.inl rfl⟩,⟨rfl,⟨rfl,Or.inl rfl⟩,trivial⟩⟩))) (@ā _ _ _ _ _ (@Ă _ _ _ _ _ _)) (fun _ _=>rfl))) (by rfl) (by first|exact .inl rfl|exact .inr rfl|assumption)) (@Ć _ _ _ _ _ _ _ (@ģ _ _ _ _ _ _ 7 _ _ ů.nd rfl (Or.inl rfl) (@İ _ _ _ _ _ (@ĉ _ _ _ _ _ _ _ _ _ _ _ (@ń _) (@Ł _) (@ā _ _ _ _ _ (@ĉ _ _ _ _ _ _ _ _ _ _ _ (@ő _) (@ŀ _) (@ă _ _ _ 1 _ _ (by rfl) (by first|exact Or.inl rfl|exact Or.inr (Or.inl rfl)|exact Or.inr (Or.inr rfl)) (by decide) (by decide)) (@ā _ _ _ _ _ (@Ă _ _ _ _ _ _)))) (@ā _ _ _ _ _ (@Ă _ _ _ _ _ _)))) (by rfl) (by first|exact .inl rfl|exact .inr rfl|assumption)) (@Ć _ _ _ _ _ _ _ (@ģ _ _ _ _ _ _ 8 _ _ ů.nd rfl (Or.inl rfl) (@ō _ _ _ _ _ _ _ _ _ _ _ (@Ĺ _) (@ĸ _) (@ā _ _ _ _ _ (@ę _ _ _ _ _ _ _ _ _ _ (@Đ _) (@ď _) (@ă _ _ _ 6 _ _ (by rfl) (by first|exact Or.inl rfl|exact Or.inr (Or.inl rfl)|exact Or.inr (Or.inr rfl)) (by decide) (by decide)) (@ā _ _ _ _ _ (@Ă _ _ _ _ _ _)) (fun _ _=>rfl))) (@ā _ _ _ _ _ (@ĉ _ _ _ _ _ _ _ _ _ _ _ (@Ĭ _) (@Ģ _) (@ă _ _ _ 7 _ _ (by rfl) (by first|exact Or.inl rfl|exact Or.inr (Or.inl rfl)|exact Or.inr (Or.inr rfl)) (by decide) (by decide)) (@ā _ _ _ _ _ (@ĉ _ _ _ _ _ _ _ _ _ _ _ (@ĵ _) (@ĳ _) (@ā _ _ _ _ _ (@PE.wk _ _ _ _ (bF lW (by rfl) T.lg PyProof.Rows.boot_int (@Č _ _ _ _ _ _ _ (@ā _ _ _ _ _ (@dI _ _ _ _ _ _ _ _ _ _ _ (@Dt _) (@Dg _) (@ā _ _ _ _ _ (@ę _ _ _ _ _ _ _ _ _ _ (@Đ _) (@ď _) (@ă _ _ _ 4 _ _ (by rfl) (by first|exact Or.inl rfl|exact Or.inr (Or.inl rfl)|exact Or.inr (Or.inr rfl)) (by decide) (by decide)) (@ā _ _ _ _ _ (@Ă _ _ _ _ _ _)) (fun _ _=>rfl))) (@ā _ _ _ _ _ (@Ă _ _ _ _ _ _)) (Ħ _))) (@Ě _ _ _) (by exact Ĉ rfl))) (fun _ _ _ h=> @Ň _ _ _ _ _ _ (@lX _) _ _ _ h))) (@ā _ _ _ _ _ (@PE.wk _ _ _ _ (bF lW (by rfl) T.lg PyProof.Rows.boot_int (@Č _ _ _ _ _ _ _ (@ā _ _ _ _ _ (@dI _ _ _ _ _ _ _ _ _ _ _ (@jW _) (@jP _) (@ā _ _ _ _ _ (@ę _ _ _ _ _ _ _ _ _ _ (@Đ _) (@ď _) (@ă _ _ _ 4 _ _ (by rfl) (by first|exact Or.inl rfl|exact Or.inr (Or.inl rfl)|exact Or.inr (Or.inr rfl)) (by decide) (by decide)) (@ā _ _ _ _ _ (@Ă _ _ _ _ _ _)) (fun _ _=>rfl))) (@ā _ _ _ _ _ (@Ă _ _ _ _ _ _)) (Ħ _))) (@Ě _ _ _) (by exact Ĉ rfl))) (fun _ _ _ h=> @Ň _ _ _ _ _ _ (@lX _) _ _ _ h)))))))) (by rfl) (by first|exact .inl rfl|exact .inr rfl|assumption)) (@Ć _ _ _ _ _ _ _ (@ģ _ _ _ _ _ _ 9 _ _ ů.nd rfl (Or.inl rfl) (@ō _ _ _ _ _ _ _ _ _ _ _ (@Ĺ _) (@ĸ _) (@ā _ _ _ _ _ (@ę _ _ _ _ _ _ _ _ _ _ (@Đ _) (@ď _) (@ă _ _ _ 6 _ _ (by rfl) (by first|exact Or.inl rfl|exact Or.inr (Or.inl rfl)|exact Or.inr (Or.inr rfl)) (by decide) (by decide)) (@ā _ _ _ _ _ (@Ă _ _ _ _ _ _)) (fun _ _=>rfl))) (@ā _ _ _ _ _ (@ĉ _ _ _ _ _ _ _ _ _ _ _ (@Ĭ _) (@Ģ _) (@ă _ _ _ 7 _ _ (by rfl) (by first|exact Or.inl rfl|exact Or.inr (Or.inl rfl)|exact Or.inr (Or.inr rfl)) (by decide) (by decide)) (@ā _ _ _ _ _ (@ĉ _ _ _ _ _ _ _ _ _ _ _ (@ĵ _) (@ĳ _) (@ā _ _ _ _ _ (@PE.wk _ _ _ _ (bF lW (by rfl) T.lg PyProof.Rows.boot_int (@Č _ _ _ _ _ _ _ (@ā _ _ _ _ _ (@dI _ _ _ _ _ _ _ _ _ _ _ (@Dt _) (@Dg _) (@ā _ _ _ _ _ (@ę _ _ _ _ _ _ _ _ _ _ (@Đ _) (@ď _) (@ă _ _ _ 4 _ _ (by rfl) (by first|exact Or.inl rfl|exact Or.inr (Or.inl rfl)|exact Or.inr (Or.inr rfl)) (by decide) (by decide)) (@ā _ _ _ _ _ (@Ă _ _ _ _ _ _)) (fun _ _=>rfl))) (@ā _ _ _ _ _ (@Ă _ _ _ _ _ _)) (Ħ _))) (@Ě _ _ _) (by exact Ĉ rfl))) (fun _ _ _ h=> @Ň _ _ _ _ _ _ (@lX _) _ _ _ h))) (@ā _ _ _ _ _ (@PE.wk _ _ _ _ (bF lW (by rfl) T.lg PyProof.Rows.boot_int (@Č _ _ _ _ _ _ _ (@ā _ _ _ _ _ (@dI _ _ _ _ _ _ _ _ _ _ _ (@jW _) (@jP _) (@ā _ _ _ _ _ (@ę _ _ _ _ _ _ _ _ _ _ (@Đ _) (@ď _) (@ă _ _ _ 4 _ _ (by rfl) (by first|exact Or.inl rfl|exact Or.inr (Or.inl rfl)|exact Or.inr (Or.inr rfl)) (by decide) (by decide)) (@ā _ _ _ _ _ (@Ă _ _ _ _ _ _)) (fun _ _=>rfl))) (@ā _ _ _ _ _ (@Ă _ _ _ _ _ _)) (Ħ _))) (@Ě _ _ _) (by exact Ĉ rfl))) (fun _ _ _ h=> @Ň _ _ _ _ _ _ (@lX _) _ _ _ h)))))))) (by rfl) (by first|exact .inl rfl|exact .inr rfl|assumption)) (@Ď _ _ _ _ _ (@ĩ _ _ _ _ _ _ (@İ _ _ _ _ _ (@Ŏ _ _ _ _ _ _ _ (@ć _ _ _ _ _ _ _ (@PE.wk _ _ _ _ (Ē (@gU _ rfl) (by rfl) T.jo PyProof.Rows.boot_max (@Č _ _ _ _ _ _ _ (@ā _ _ _ _ _ (@ĉ _ _ _ _ _ _ _ _ _ _ _ (@ĵ _) (@ĳ _) (@ā _ _ _ _ _ (@Ă _ _ _ _ _ _)) (@ā _ _ _ _ _ (@ĉ _ _ _ _ _ _ _ _ _ _ _ (@Ũ _) (@ť _) (@ā _ _ _ _ _ (@Ă _ _ _ _ _ _)) (@ā _ _ _ _ _ (@Ă _ _ _ _ _ _)))))) (@Č _ _ _ _ _ _ _ (@ā _ _ _ _ _ (@PE.wk _ _ _ _ (Ē (@gR _ rfl) (by rfl) T.lq PyProof.Rows.boot_min (@Č _ _ _ _ _ _ _ (@ă _ _ _ 8 _ _ (by rfl) (by first|exact Or.inl rfl|exact Or.inr (Or.inl rfl)|exact Or.inr (Or.inr rfl)) (by decide) (by decide)) (@Č _ _ _ _ _ _ _ (@ā _ _ _ _ _ (@ĉ _ _ _ _ _ _ _ _ _ _ _ (@Ũ _) (@ť _) (@ā _ _ _ _ _ (@Ă _ _ _ _ _ _)) (@ā _ _ _ _ _ (@Ă _ _ _ _ _ _)))) (@Ě _ _ _) (by exact Ĉ rfl)) (by exact Ĉ rfl))) (fun _ _ _ h=> @Ň _ _ _ _ _ _ (@g_ _) _ _ _ h))) (@Ě _ _ _) (by exact Ĉ rfl)) (by exact Ĉ rfl))) (fun _ _ _ h=> @Ň _ _ _ _ _ _ (@h_ _) _ _ _ h)) (@ć _ _ _ _ _ _ _ (@PE.wk _ _ _ _ (Ē (@gU _ rfl) (by rfl) T.jo PyProof.Rows.boot_max (@Č _ _ _ _ _ _ _ (@ā _ _ _ _ _ (@ĉ _ _ _ _ _ _ _ _ _ _ _ (@ĵ _) (@ĳ _) (@ā _ _ _ _ _ (@Ă _ _ _ _ _ _)) (@ā _ _ _ _ _ (@ĉ _ _ _ _ _ _ _ _ _ _ _ (@Ũ _) (@ť _) (@ā _ _ _ _ _ (@Ă _ _ _ _ _ _)) (@ā _ _ _ _ _ (@Ă _ _ _ _ _ _)))))) (@Č _ _ _ _ _ _ _ (@ā _ _ _ _ _ (@PE.wk _ _ _ _ (Ē (@gR _ rfl) (by rfl) T.lq PyProof.Rows.boot_min (@Č _ _ _ _ _ _ _ (@ă _ _ _ 9 _ _ (by rfl) (by first|exact Or.inl rfl|exact Or.inr (Or.inl rfl)|exact Or.inr (Or.inr rfl)) (by decide) (by decide)) (@Č _ _ _ _ _ _ _ (@ā _ _ _ _ _ (@ĉ _ _ _ _ _ _ _ _ _ _ _ (@Ũ _) (@ť _) (@ā _ _ _ _ _ (@Ă _ _ _ _ _ _)) (@ā _ _ _ _ _ (@Ă _ _ _ _ _ _)))) (@Ě _ _ _) (by exact Ĉ rfl)) (by exact Ĉ rfl))) (fun _ _ _ h=> @Ň _ _ _ _ _ _ (@g_ _) _ _ _ h))) (@Ě _ _ _) (by exact Ĉ rfl)) (by exact Ĉ rfl))) (fun _ _ _ h=> @Ň _ _ _ _ _ _ (@h_ _) _ _ _ h)) (@ğ _ _ _) (by exact Ĉ rfl)) (by exact Ĉ rfl)))))))))))))))))))
theorem Jf(T:Tx K mg a):Œ P w K mg base (cg P w) 1 a.yO a.yP ["points"] (cF ⟨K,Ş a⟩ 1 kW):=by
 refine fH (cm:=Ş a) (mb:=qw) T.DX qL rfl rfl rfl fun cdv A outer s H E hr=>?_
 have hu:=hr.units
 exact(Ć (qg (i:=1) qL.nd rfl rfl ["point"] [] 1 (ċ jf) rfl rfl (ŗ 0) (fun _ _ _ _ _=>(Ĥ (i:=0) (show(["point"]:List Str).Nodup by decide +kernel) rfl (Or.inl rfl) (hf:=Or.inr rfl))) (fun _ _ _ _ _=>ŧ) (fun _ _ _ _ _=>(ę Đ ď (ă 0) (ā Ă) (fun _ _=>rfl))) trivial)
  (Ć (qg (i:=2) qL.nd rfl rfl ["point"] [] 1 (ċ jf) rfl rfl (ŗ 0) (fun _ _ _ _ _=>(Ĥ (i:=0) (show(["point"]:List Str).Nodup by decide +kernel) rfl (Or.inl rfl) (hf:=Or.inr rfl))) (fun _ _ _ _ _=>ŧ) (fun _ _ _ _ _=>(ę Đ ď (ă 0) (ā Ă) (fun _ _=>rfl))) trivial)
  (Ď (ĩ (ŷ (ć (Ŏ (ć Ă (ć Ă (ć (PE.wk (Ē (qd rfl) (by rfl) T.jo PyProof.Rows.boot_max (Č (ă 1) Ě)) fun _ _ _ h=>Ň qe h) ğ)))) (ć (Ŏ (ć (iQ aQ ao (ā Ă)) (ć Ă (ć (iQ aQ ao (ā (PE.wk (Ē (xu rfl) (by rfl) T.lq PyProof.Rows.boot_min (Č (ă 1) Ě)) fun _ _ _ h=>Ň xG h))) ğ)))) (ć (Ŏ (ć Ă (ć Ă (ć (PE.wk (Ē (qd rfl) (by rfl) T.jo PyProof.Rows.boot_max (Č (ă 2) Ě)) fun _ _ _ h=>Ň qe h) ğ)))) (ć (Ŏ (ć Ă (ć (iQ aQ ao (ā Ă)) (ć (iQ aQ ao (ā (PE.wk (Ē (xu rfl) (by rfl) T.lq PyProof.Rows.boot_min (Č (ă 2) Ě)) fun _ _ _ h=>Ň xG h))) ğ)))) ğ)))))))))
theorem Jg(T:Tx K mg a):Œ P w K mg base (cg P w) 1 a.yQ a.yR ["points"] (cF ⟨K,Ş a⟩ 1 kY):=by
 refine fH (cm:=Ş a) (mb:=qy) T.DY qM rfl rfl rfl fun cdv A outer s H E hr=>?_
 have hu:=hr.units
 exact(Ć (ģ (i:=1) qM.nd rfl (Or.inl rfl) (ŷ ğ))
  (Ć (aP PassesOwn.leaving rfl (ŗ 0) (Ĥ (i:=2) qM.nd rfl (Or.inl rfl))
  (Ď (Ū (Ŋ HD (uJ hu) (ă 2) (ă 1) (by with_unfolding_all rfl))
  (Ď (PS.wk (bT (iG PySem.F.plainAttrs_list PySem.F.slot_list_append PySem.F.type_list_append ź (pv 1) (ć (v_var 2) ğ))) fun _ _ _ h=>gY h))
  Ĵ)))
  (Ď (ĩ (iM 1)))))
theorem Pr(T:Tx K mg a):Œ P w K mg base (cg P w) 1 a.Ia a.Ib ["one","other"] (cF ⟨K,Ş a⟩ 2 uM):=by
 refine fH (cm:=Ş a) (mb:=yt) T.Oq zX rfl rfl rfl fun cdv A outer s H E hr=>?_
 have hu:=hr.units
 exact(Ć (ģ (i:=2) zX.nd rfl (Or.inl rfl) (İ (ĉ ĵ ĳ (ā (ę Đ ď (ă 1) (ā Ă) (fun _ _=>rfl))) (ā (ę Đ ď (ă 0) (ā Ă) (fun _ _=>rfl))))))
  (Ć (ģ (i:=3) zX.nd rfl (Or.inl rfl) (İ (ĉ ĵ ĳ (ā (ę Đ ď (ă 0) (ā Ă) (fun _ _=>rfl))) (ā (ę Đ ď (ă 1) (ā Ă) (fun _ _=>rfl))))))
  (Ď (ĩ (İ (Ŏ (ć (v_var 2) (ć (v_var 3) (ć (Ī (ō Ĺ ĸ (ā (ĉ Ĭ Ģ (ă 2) (ā (ę Đ ď (ă 0) (ā Ă) (fun _ _=>rfl))))) (ā (ĉ Ĭ Ģ (ă 3) (ā (ę Đ ď (ă 0) (ā Ă) (fun _ _=>rfl))))))) ğ)))))))))
theorem Ad(T:Tx K mg a):Œ P w K mg base (cg P w) 1 a.yS a.yU ["line","pair"] (cF ⟨K,Ş a⟩ 2 dM):=by
 refine fH (cm:=Ş a) (mb:=qz) T.zM Jc rfl rfl rfl fun cdv A outer s H E hr=>?_
 have hu:=hr.units
 exact(Ď (ĩ (İ (dI wH vI (ā (Ī (ō Ĺ ĸ (ā (ĉ Ĭ Ģ (ā (ę Đ ď (ă 0) (ā Ă) (fun _ _=>rfl))) (ā (ę Đ ď (ă 1) (ā Ă) (fun _ _=>rfl))))) (ā (ĉ Ĭ Ģ (ā (ę Đ ď (ă 0) (ā Ă) (fun _ _=>rfl))) (ā (ę Đ ď (ă 1) (ā Ă) (fun _ _=>rfl)))))))) (ā (ę Đ ď (ă 0) (ā Ă) (fun _ _=>rfl))) (Ħ _)))))
theorem Jh(T:Tx K mg a):Œ P w K mg base (cg P w) 2 a.yV a.yW ["points"] (cF ⟨K,Ş a⟩ 1 kZ):=by
 refine fH (cm:=Ş a) (mb:=qC) T.Ea gq rfl rfl rfl fun cdv A outer s H E hr=>?_
 have hu:=hr.units
 exact(Ć (ģ (i:=1) gq.nd rfl (Or.inl rfl) (ŷ ğ))
  (Ć (ģ (i:=2) gq.nd rfl (Or.inl rfl) (ġ (Jg T) ē (hr.mono (by decide)) rfl T.kY T.DY.kp T.Oo ķ (č 0 (hr:=Ġ))))
  (Ć (aP PassesOwn.leaving rfl (ŗ 2) (Ĥ (i:=3) gq.nd rfl (Or.inl rfl))
  (Ď (aP PassesOwn.leaving rfl (ŗ 2) (Ĥ (i:=4) gq.nd rfl (Or.inl rfl))
  (Ć (ģ (i:=5) gq.nd rfl (by first|exact Or.inl rfl|exact Or.inr rfl) (ġ (Pr T) ē (hr.mono (by decide)) rfl T.uM T.Oq.kp T.Zas ķ (č 3 (hr:=(č 4 (hr:=Ġ))))))
  (Ď (Ū (PW.pt (w_and (Ŋ bN (Ż hu) (ă 3) (ă 4) (Ħ _)) (wg (aD (ā (PE.wk (Ē (lJ rfl) (by rfl) T.sZ PyProof.Rows.boot_all (Č (ā (Ī (ŭ ["line","point"] [5] 1 (ċ kE) rfl rfl (ŗ 2) (fun _ _ _ _ _=>(Ĥ (i:=1) (show(["line","point"]:List Str).Nodup by decide +kernel) rfl (Or.inl rfl) (hf:=Or.inr rfl))) (fun _ _ _ _ _=>ŧ) (fun _ _ _ _ _=>(Ī (ġ (Ad T) ē (hr.mono (by decide)) rfl T.dM T.zM.kp T.D_ iY (č 0 (hr:=(č 1 (hr:=Ġ))))))) ⟨rfl,⟨rfl,Or.inl rfl⟩,trivial⟩))) Ě)) fun _ _ _ h=>Ň lQ h))))))
  (Ď (PS.wk (bT (iG PySem.F.plainAttrs_list PySem.F.slot_list_append PySem.F.type_list_append ź (pv 1) (ć (v_var 5) ğ))) fun _ _ _ h=>gY h))
  Ĵ))))))
  (Ď (ĩ (iM 1))))))
theorem Pu(T:Tx K mg a):Œ P w K mg base (cg P w) 3 a.Ie a.Ig ["points"] (cF ⟨K,Ş a⟩ 1 uN):=by
 refine fH (cm:=Ş a) (mb:=yu) T.Ou Pq rfl rfl rfl fun cdv A outer s H E hr=>?_
 have hu:=hr.units
 exact(Ď (ĩ (ō Ĺ ĸ (ā (Ī (ġ (Jf T) ē (hr.mono (by decide)) rfl T.kW T.DX.kp T.Om ķ (č 0 (hr:=Ġ))))) (ā (Ī (ġ (Jh T) ē (hr.mono (by decide)) rfl T.kZ T.Ea.kp T.Ot ķ (č 0 (hr:=Ġ))))))))
theorem Px(T:Tx K mg a):Œ P w K mg base (cg P w) 4 a.Ih a.Ii ["points","point"] (cF ⟨K,Ş a⟩ 2 qD):=by
 refine fH (cm:=Ş a) (mb:=sV) T.Ov Eo rfl rfl rfl fun cdv A outer s H E hr=>?_
 have hu:=hr.units
 exact(Ć (aP PassesOwn.leaving rfl (jV (Ī (ġ (Pu T) ē (hr.mono (by decide)) rfl T.uN T.Ou.kp T.Zat ķ (č 0 (hr:=Ġ))))) (Ĥ (i:=2) Eo.nd rfl (Or.inl rfl))
  (Ď (Ū (cL (aD (ā (Ī (ġ (Ad T) ē (hr.mono (by decide)) rfl T.dM T.zM.kp T.D_ ķ (č 2 (hr:=(č 1 (hr:=Ġ)))))))))
  (Ď (ĩ (iM 2)))
  Ĵ)))
  (Ď (ĩ (İ Di))))
theorem Er(T:Tx K mg a):Œ P w K mg base (cg P w) 1 a.Ij a.Ik ["many"] (cF ⟨K,Ş a⟩ 1 oO):=by
 refine fH (cm:=Ş a) (mb:=yw) T.IW zY rfl rfl rfl fun cdv A outer s H E hr=>?_
 have hu:=hr.units
 exact(Ć (ģ (i:=1) zY.nd rfl (Or.inl rfl) (ŷ ğ))
  (Ć (aP PassesOwn.leaving rfl (aj rfl T.aY (ć (v_var 0) ğ)) (Ĥ (i:=2) zY.nd rfl (by first|exact Or.inl rfl|exact Or.inr rfl))
  (Ď (PS.wk (bT (iG PySem.F.plainAttrs_list PySem.F.slot_list_extend PySem.F.type_list_extend jN (pv 1) (Ž (ŭ ["second","first"] [2] 1 (ċ uK) rfl rfl (aj rfl T.aY (ć (v_var 2) ğ)) (fun _ _ _ _ _=>(Ĥ (i:=1) (show(["second","first"]:List Str).Nodup by decide +kernel) rfl (Or.inl rfl) (hf:=Or.inr rfl))) (fun _ _ _ _ _=>ŧ) (fun _ _ _ _ _=>(Ŏ (ć (v_var 1) (ć (v_var 0) ğ)))) ⟨rfl,⟨rfl,Or.inl rfl⟩,trivial⟩) dR))) fun _ _ _ h=>sJ h)))
  (Ď (ĩ (iM 1)))))
theorem Py(T:Tx K mg a):Œ P w K mg base (cg P w) 2 a.Il a.Im ["many"] (cF ⟨K,Ş a⟩ 1 uO):=by
 refine fH (cm:=Ş a) (mb:=yx) T.Ox zZ rfl rfl rfl fun cdv A outer s H E hr=>?_
 have hu:=hr.units
 exact(Ć (ģ (i:=1) zZ.nd rfl (Or.inl rfl) (ŷ ğ))
  (Ć (aP PassesOwn.leaving rfl (aj rfl T.aY (ć (v_var 0) ğ)) (Ĥ (i:=2) zZ.nd rfl (by first|exact Or.inl rfl|exact Or.inr rfl))
  (Ď (PS.wk (bT (iG PySem.F.plainAttrs_list PySem.F.slot_list_extend PySem.F.type_list_extend jN (pv 1) (Ž (ŭ ["third","pair"] [2] 1 (ċ uL) rfl rfl (Oa (jV (Ī (ġ (Er T) ē (hr.mono (by decide)) rfl T.oO T.IW.kp T.Ow iY (č 2 (hr:=Ġ)))))) (fun _ _ _ _ _=>(Ĥ (i:=1) (show(["third","pair"]:List Str).Nodup by decide +kernel) rfl (Or.inl rfl) (hf:=Or.inr rfl))) (fun _ _ _ _ _=>ŧ) (fun _ _ _ _ _=>(Ŏ (ć (ę Đ ď (ă 1) (ā Ă) (fun _ _=>rfl)) (ć (ę Đ ď (ă 1) (ā Ă) (fun _ _=>rfl)) (ć (v_var 0) ğ))))) ⟨rfl,⟨rfl,Or.inl rfl⟩,trivial⟩) dR))) fun _ _ _ h=>sJ h)))
  (Ď (ĩ (iM 1)))))
theorem Pz(T:Tx K mg a):Œ P w K mg base (cg P w) 1 a.Io a.Ip ["one","other"] (cF ⟨K,Ş a⟩ 2 uP):=by
 refine fH (cm:=Ş a) (mb:=yC) T.Oz tu rfl rfl rfl fun cdv A outer s H E hr=>?_
 have hu:=hr.units
 exact(Ć (rK PassesOwn.leaving (Ŋ bN (Ż hu) (ă 1) (ā Ă) (Ħ _))
  (Ć (ģ (i:=2) tu.nd rfl (Or.inl rfl) (İ (ĉ ń Ł (ă 0) (ă 1))))
  (Ć (ģ (i:=0) tu.nd rfl (Or.inl rfl) (İ (v_var 1)))
  (Ď (ģ (i:=1) tu.nd rfl (Or.inl rfl) (İ (v_var 2)))))))
  (Ď (ĩ (İ (PE.wk (Ē Gy (by rfl) T.Pj PyProof.Rows.boot_abs (Č (ă 0) Ě)) fun _ _ _ h=>Ň Hj h)))))
theorem Ae(T:Tx K mg a):Œ P w K mg base (cg P w) 2 a.yX a.yZ ["top","bottom"] (cF ⟨K,Ş a⟩ 2 cV):=by
 refine fH (cm:=Ş a) (mb:=mG) T.zN qN rfl rfl rfl fun cdv A outer s H E hr=>?_
 have hu:=hr.units
 exact(Ć (Ū (Ŋ aR (Ŭ hu) (ă 1) (ā Ă) (Ħ _))
  (Ď (wW (C:= "NoNumber") rfl rfl Ci rfl T.qJ T.qK))
  Ĵ)
  (Ć (ģ (i:=2) qN.nd rfl (Or.inl rfl) (ġ (Pz T) ē (hr.mono (by decide)) rfl T.uP T.Oz.kp T.Zaw ķ (č 0 (hr:=(č 1 (hr:=Ġ))))))
  (Ć (Ū (Ŋ jW jP (ă 1) (ā Ă) (Ħ _))
  (Ď (ģ (i:=2) qN.nd rfl (Or.inl rfl) (İ (iQ aQ ao (ă 2)))))
  Ĵ)
  (Ď (ĩ (İ (Ŏ (ć (ĉ ő ŀ (ă 0) (ă 2)) (ć (ĉ ő ŀ (ă 1) (ă 2)) ğ)))))))))
theorem qO(T:Tx K mg a):Œ P w K mg base (cg P w) 3 a.za a.zc ["shares","places","many"] (cF ⟨K,Ş a⟩ 3 bO):=by
 refine fH (cm:=Ş a) (mb:=gk) T.sX jr rfl rfl rfl fun cdv A outer s H E hr=>?_
 have hu:=hr.units
 exact(Ć (ģ (i:=3) jr.nd rfl (by first|exact Or.inl rfl|exact Or.inr rfl) (İ (PE.wk (Ē (fU rfl) (by rfl) T.lu PyProof.Rows.boot_sum (Č (ă 0) Ě)) fun _ _ _ h=>Ň fV h)))
  (Ć (qg (i:=4) jr.nd rfl rfl ["whole","place"] [3] 1 (ċ kI) rfl rfl (aj rfl T.aY (ć (v_var 2) ğ)) (fun _ _ _ _ _=>(Ĥ (i:=1) (show(["whole","place"]:List Str).Nodup by decide +kernel) rfl (Or.inl rfl) (hf:=Or.inr rfl))) (fun _ _ _ _ _=>ŧ) (fun _ _ _ _ _=>(Ī (ġ (Ae T) ē (hr.mono (by decide)) rfl T.cV T.zN.kp T.Eb iY (į Ă (č 0 (hr:=Ġ)))))) ⟨rfl,⟨rfl,Or.inl rfl⟩,trivial⟩)
  (Ć (aP PassesOwn.leaving rfl (NZ rfl T.Pn (Dy 0) (Dy 1)) (rJ rfl (Ŗ (Ĥ (i:=5) jr.nd rfl (Or.inl rfl)) (Ŗ (Ĥ (i:=6) jr.nd rfl (Or.inl rfl)) dX)))
  (Ď (Bv (i:=4) (Ī (ġ (Ae T) ē (hr.mono (by decide)) rfl T.cV T.zN.kp T.Eb ķ (č 5 (hr:=(č 3 (hr:=Ġ)))))) (v_var 6) (pv 4))))
  (Ď (ĩ (iM 4))))))
theorem qP(T:Tx K mg a):Œ P w K mg base (cg P w) 1 a.zf a.zj ["one","other","third"] (cF ⟨K,Ş a⟩ 3 dN):=by
 refine fH (cm:=Ş a) (mb:=qF) T.sY z_ rfl rfl rfl fun cdv A outer s H E hr=>?_
 have hu:=hr.units
 exact(Ć (ģ (i:=3) z_.nd rfl (Or.inl rfl) (İ (ĉ Ĭ Ģ (ā (ĉ ĵ ĳ (ā (ę Đ ď (ă 1) (ā Ă) (fun _ _=>rfl))) (ā (ę Đ ď (ă 0) (ā Ă) (fun _ _=>rfl))))) (ā (ĉ ĵ ĳ (ā (ę Đ ď (ă 2) (ā Ă) (fun _ _=>rfl))) (ā (ę Đ ď (ă 0) (ā Ă) (fun _ _=>rfl))))))))
  (Ď (ĩ (İ (ĉ ĵ ĳ (ă 3) (ā (ĉ Ĭ Ģ (ā (ĉ ĵ ĳ (ā (ę Đ ď (ă 1) (ā Ă) (fun _ _=>rfl))) (ā (ę Đ ď (ă 0) (ā Ă) (fun _ _=>rfl))))) (ā (ĉ ĵ ĳ (ā (ę Đ ď (ă 2) (ā Ă) (fun _ _=>rfl))) (ā (ę Đ ď (ă 0) (ā Ă) (fun _ _=>rfl))))))))))))
theorem PB(T:Tx K mg a):Œ P w K mg base (cg P w) 2 a.Ir a.Iu ["corners","point"] (cF ⟨K,Ş a⟩ 2 uQ):=by
 refine fH (cm:=Ş a) (mb:=yD) T.OD tD rfl rfl rfl fun cdv A outer s H E hr=>?_
 have hu:=hr.units
 exact(Ć (ģ (i:=2) tD.nd rfl (Or.inl rfl) (İ (ę Đ ď (ă 0) (ā Ă) (fun _ _=>rfl))))
  (Ć (ģ (i:=3) tD.nd rfl (Or.inl rfl) (İ (ę Đ ď (ă 0) (ā Ă) (fun _ _=>rfl))))
  (Ć (ģ (i:=4) tD.nd rfl (Or.inl rfl) (İ (ę Đ ď (ă 0) (ā Ă) (fun _ _=>rfl))))
  (Ď (ĩ (ŷ (ć (Ī (ġ (qP T) ē (hr.mono (by decide)) rfl T.dN T.sY.kp T.zP ķ (č 1 (hr:=(č 3 (hr:=(č 4 (hr:=Ġ)))))))) (ć (Ī (ġ (qP T) ē (hr.mono (by decide)) rfl T.dN T.sY.kp T.zP ķ (č 2 (hr:=(č 1 (hr:=(č 4 (hr:=Ġ)))))))) (ć (Ī (ġ (qP T) ē (hr.mono (by decide)) rfl T.dN T.sY.kp T.zP ķ (č 2 (hr:=(č 3 (hr:=(č 1 (hr:=Ġ)))))))) ğ)))))))))
theorem Af(T:Tx K mg a):Œ P w K mg base (cg P w) 1 a.zm a.zp ["shares"] (cF ⟨K,Ş a⟩ 1 fC):=by
 refine fH (cm:=Ş a) (mb:=mJ) T.zQ Aa rfl rfl rfl fun cdv A outer s H E hr=>?_
 have hu:=hr.units
 exact(Ć (ģ (i:=1) Aa.nd rfl (by first|exact Or.inl rfl|exact Or.inr rfl) (İ (PE.wk (Ē (fU rfl) (by rfl) T.lu PyProof.Rows.boot_sum (Č (ă 0) Ě)) fun _ _ _ h=>Ň fV h)))
  (Ď (ĩ (İ (v_and (dI bN (Ż hu) (ă 1) (ā Ă) (Ħ _)) (Dj (PE.wk (Ē (lJ rfl) (by rfl) T.sZ PyProof.Rows.boot_all (Č (ā (Ī (ŭ ["whole","share"] [1] 1 (ċ kJ) rfl rfl (ŗ 0) (fun _ _ _ _ _=>(Ĥ (i:=1) (show(["whole","share"]:List Str).Nodup by decide +kernel) rfl (Or.inl rfl) (hf:=Or.inr rfl))) (fun _ _ _ _ _=>ŧ) (fun _ _ _ _ _=>(dI Mt Lj (ā (ĉ Ĭ Ģ (ă 1) (ă 0))) (ā Ă) (Ħ _))) ⟨rfl,⟨rfl,Or.inl rfl⟩,trivial⟩))) Ě)) fun _ _ _ h=>Ň lQ h)))))))
theorem PJ(T:Tx K mg a):Œ P w K mg base (cg P w) 1 a.Iv a.Iw ["ends","point"] (cF ⟨K,Ş a⟩ 2 uR):=by
 refine fH (cm:=Ş a) (mb:=yE) T.OJ tE rfl rfl rfl fun cdv A outer s H E hr=>?_
 have hu:=hr.units
 exact(Ć (ģ (i:=2) tE.nd rfl (Or.inl rfl) (İ (ĉ ĵ ĳ (ā (ę Đ ď (ā (ę Đ ď (ă 0) (ā Ă) (fun _ _=>rfl))) (ā Ă) (fun _ _=>rfl))) (ā (ę Đ ď (ā (ę Đ ď (ă 0) (ā Ă) (fun _ _=>rfl))) (ā Ă) (fun _ _=>rfl))))))
  (Ć (ģ (i:=3) tE.nd rfl (Or.inl rfl) (İ (ĉ ĵ ĳ (ā (ę Đ ď (ā (ę Đ ď (ă 0) (ā Ă) (fun _ _=>rfl))) (ā Ă) (fun _ _=>rfl))) (ā (ę Đ ď (ā (ę Đ ď (ă 0) (ā Ă) (fun _ _=>rfl))) (ā Ă) (fun _ _=>rfl))))))
  (Ć (ģ (i:=4) tE.nd rfl (Or.inl rfl) (ō Ĺ ĸ (ā (ĉ Ĭ Ģ (ă 2) (ā (ĉ ĵ ĳ (ā (ę Đ ď (ă 1) (ā Ă) (fun _ _=>rfl))) (ā (ę Đ ď (ā (ę Đ ď (ă 0) (ā Ă) (fun _ _=>rfl))) (ā Ă) (fun _ _=>rfl))))))) (ā (ĉ Ĭ Ģ (ă 3) (ā (ĉ ĵ ĳ (ā (ę Đ ď (ă 1) (ā Ă) (fun _ _=>rfl))) (ā (ę Đ ď (ā (ę Đ ď (ă 0) (ā Ă) (fun _ _=>rfl))) (ā Ă) (fun _ _=>rfl)))))))))
  (Ď (ĩ (ŷ (ć (ĉ ĵ ĳ (ā (Ī (ō Ĺ ĸ (ā (ĉ Ĭ Ģ (ă 2) (ă 2))) (ā (ĉ Ĭ Ģ (ă 3) (ă 3)))))) (ă 4)) (ć (v_var 4) ğ))))))))
theorem Ji(T:Tx K mg a):Œ P w K mg base (cg P w) 4 a.zq a.zu ["points","point"] (cF ⟨K,Ş a⟩ 2 gH):=by
 refine fH (cm:=Ş a) (mb:=jj) T.Ed gw rfl rfl rfl fun cdv A outer s H E hr=>?_
 have hu:=hr.units
 exact(Ć (ģ (i:=2) gw.nd rfl (Or.inl rfl) (İ (PE.wk (Ē aq (by rfl) T.cB PySem.boot_len (Č (ă 0) Ě)) fun _ _ _ h=>Ň aC h)))
  (Ć (aP PassesOwn.leaving rfl (jV (Ī (ġ (Py T) ē (hr.mono (by decide)) rfl T.uO T.Ox.kp T.Zav ķ (č 2 (hr:=Ġ))))) (Ĥ (i:=3) gw.nd rfl (Or.inl rfl))
  (Ć (ģ (i:=4) gw.nd rfl (Or.inl rfl) (ġ (PB T) ē (hr.mono (by decide)) rfl T.uQ T.OD.kp T.Zax ķ (į (Ī (ŭ ["points","place"] [0] 1 (ċ jg) rfl rfl (ŗ 3) (fun _ _ _ _ _=>(Ĥ (i:=1) (show(["points","place"]:List Str).Nodup by decide +kernel) rfl (Or.inl rfl) (hf:=Or.inr rfl))) (fun _ _ _ _ _=>ŧ) (fun _ _ _ _ _=>(ę Đ ď (ă 0) (ă 1) (fun _ _=>rfl))) ⟨rfl,⟨rfl,Or.inl rfl⟩,trivial⟩)) (č 1 (hr:=Ġ)))))
  (Ď (Ū (aD (ā (Ī (ġ (Af T) ē (hr.mono (by decide)) rfl T.fC T.zQ.kp T.Ec ķ (č 4 (hr:=Ġ))))))
  (Ď (ĩ (ġ (qO T) ē (hr.mono (by decide)) rfl T.bO T.sX.kp T.zO ķ (č 4 (hr:=(č 3 (hr:=(č 2 (hr:=Ġ)))))))))
  Ĵ))))
  (Ć (aP PassesOwn.leaving rfl (jV (Ī (ġ (Er T) ē (hr.mono (by decide)) rfl T.oO T.IW.kp T.Ow ķ (č 2 (hr:=Ġ))))) (Ĥ (i:=3) gw.nd rfl (Or.inl rfl))
  (Ć (ģ (i:=4) gw.nd rfl (Or.inl rfl) (ġ (PJ T) ē (hr.mono (by decide)) rfl T.uR T.OJ.kp T.Zay ķ (į (Ī (ŭ ["points","place"] [0] 1 (ċ jg) rfl rfl (ŗ 3) (fun _ _ _ _ _=>(Ĥ (i:=1) (show(["points","place"]:List Str).Nodup by decide +kernel) rfl (Or.inl rfl) (hf:=Or.inr rfl))) (fun _ _ _ _ _=>ŧ) (fun _ _ _ _ _=>(ę Đ ď (ă 0) (ă 1) (fun _ _=>rfl))) ⟨rfl,⟨rfl,Or.inl rfl⟩,trivial⟩)) (č 1 (hr:=Ġ)))))
  (Ď (Ū (aD (ā (Ī (ġ (Af T) ē (hr.mono (by decide)) rfl T.fC T.zQ.kp T.Ec ķ (č 4 (hr:=Ġ))))))
  (Ď (ĩ (ġ (qO T) ē (hr.mono (by decide)) rfl T.bO T.sX.kp T.zO ķ (č 4 (hr:=(č 3 (hr:=(č 2 (hr:=Ġ)))))))))
  Ĵ))))
  (Ď (ĩ (ġ (qO T) ē (hr.mono (by decide)) rfl T.bO T.sX.kp T.zO ķ (į (Ī (ŷ (ć Ă ğ))) (į (Ī (ŷ (ć Ă ğ))) (č 2 (hr:=Ġ))))))))))
theorem Ag(T:Tx K mg a):Œ P w K mg base (cg P w) 5 a.zx a.zy ["points","point"] (cF ⟨K,Ş a⟩ 2 fG):=by
 refine fH (cm:=Ş a) (mb:=mO) T.zR Ab rfl rfl rfl fun cdv A outer s H E hr=>?_
 have hu:=hr.units
 exact(Ć (ģ (i:=2) Ab.nd rfl (Or.inl rfl) (ġ (Px T) ē (hr.mono (by decide)) rfl T.qD T.Ov.kp T.Zau ķ (č 0 (hr:=(č 1 (hr:=Ġ))))))
  (Ć (Ū (Ŋ Mv Ge (ă 2) (ā Di) (Ħ _))
  (Ď (ĩ (HW (CK nC (HS (ġ (Ji T) ē (hr.mono (by decide)) rfl T.gH T.Ed.kp T.O_ ķ (č 0 (hr:=(č 1 (hr:=Ġ))))))))))
  Ĵ)
  (Ď (ĩ (İ (Ŏ (ć nC (ć (v_var 2) ğ))))))))
theorem PK(T:Tx K mg a):Œ P w K mg base (cg P w) 1 a.Iz a.IK ["_law_found"] (cF ⟨K,Ş a⟩ 1 oU):=by
 refine fH (cm:=Ş a) (mb:=yF) T.Pa oY rfl rfl rfl fun cdv A outer s H E hr=>?_
 have hu:=hr.units
 exact(Ć (Ū (PW.pt (w_or (cL (aD (ā (PE.wk (Ē aL (by rfl) T.ŉ PyProof.Rows.boot_isinstance (Č (ă 0) (Č (ā (uo (.ty "tuple") (aJ (v:=.ty "tuple") rfl T.mY PyProof.Rows.boot_tuple rfl))) Ě))) fun _ _ _ h=>Ň (aM T.iC T.iT T.iD T.iN) h)))) (eZ (Ŋ bN (Ż hu) (ā (PE.wk (Ē aq (by rfl) T.cB PySem.boot_len (Č (ă 0) Ě)) fun _ _ _ h=>Ň aC h)) (ā Ă) (Ħ _)))))
  (Ď (ĩ (İ dW)))
  Ĵ)
  (Ć (aP PassesOwn.leaving rfl (ŗ 0) (Ĥ (i:=1) oY.nd rfl (Or.inl rfl))
  (Ď (Ū (PW.pt (w_or (cL (aD (ā (PE.wk (Ē aL (by rfl) T.ŉ PyProof.Rows.boot_isinstance (Č (ă 1) (Č (ā (uo (.ty "int") (aJ (v:=.ty "int") rfl T.lg PyProof.Rows.boot_int rfl))) Ě))) fun _ _ _ h=>Ň (aM T.iC T.iT T.iD T.iN) h)))) (eZ (aD (ā (PE.wk (Ē aL (by rfl) T.ŉ PyProof.Rows.boot_isinstance (Č (ă 1) (Č (ā (uo (.ty "bool") (aJ (v:=.ty "bool") rfl T.zU PyProof.Rows.boot_bool rfl))) Ě))) fun _ _ _ h=>Ň (aM T.iC T.iT T.iD T.iN) h))))))
  (Ď (ĩ (İ dW)))
  Ĵ)))
  (Ć (Ū (PW.pt (w_or (Ŋ jW jP (ā (ę Đ ď (ă 0) (ā Ă) (fun _ _=>rfl))) (ā Ă) (Ħ _)) (eZ (Ŋ jW jP (ā (ę Đ ď (ă 0) (ā Ă) (fun _ _=>rfl))) (ā Ă) (Ħ _)))))
  (Ď (ĩ (İ dW)))
  Ĵ)
  (Ć (wz (v_var 0) (xT rfl (Ŗ (Ĥ (i:=2) oY.nd rfl (Or.inl rfl)) (Ŗ (Ĥ (i:=3) oY.nd rfl (Or.inl rfl)) dX))))
  (Ć (rK PassesOwn.leaving (Ŋ bN (Ż hu) (ă 3) (ā Ă) (Ħ _))
  (Ď (PS.wk (Fw (i:=2) (j:=3) rfl oY.nd rfl rfl (by decide) rfl rfl (ć (v_var 3) (ć (ĉ ń Ł (ă 2) (ă 3)) ğ)) rfl) fun _ _ _ h=>Bu h)))
  (Ď (ĩ (İ (dI aR (Ŭ hu) (ă 2) (ā Ă) (Ħ _))))))))))
theorem Jj(T:Tx K mg a):Œ P w K mg base (cg P w) 2 a.zA a.zB ["_law_weights","_law_points_here","_law_point_here"] (cF ⟨K,Ş a⟩ 3 gJ):=by
 refine fH (cm:=Ş a) (mb:=mR) T.Eh eE rfl rfl rfl fun cdv A outer s H E hr=>?_
 have hu:=hr.units
 exact(Ć (Ū (PW.pt (w_or (cL (aD (ā (PE.wk (Ē aL (by rfl) T.ŉ PyProof.Rows.boot_isinstance (Č (ă 0) (Č (ā (uo (.ty "list") (aJ (v:=.ty "list") rfl T.zW PyProof.Rows.boot_list rfl))) Ě))) fun _ _ _ h=>Ň (aM T.iC T.iT T.iD T.iN) h)))) (eZ (Ŋ bN (Ż hu) (ā (PE.wk (Ē aq (by rfl) T.cB PySem.boot_len (Č (ă 0) Ě)) fun _ _ _ h=>Ň aC h)) (ā (PE.wk (Ē aq (by rfl) T.cB PySem.boot_len (Č (ă 1) Ě)) fun _ _ _ h=>Ň aC h)) (Ħ _)))))
  (Ď (ĩ (İ dW)))
  Ĵ)
  (Ć (Ū (cL (aD (ā (PE.wk (Ē (lJ rfl) (by rfl) T.sZ PyProof.Rows.boot_all (Č (ā (Ī (ŭ ["_law_weight"] [] 1 (ċ gD) rfl rfl (ŗ 0) (fun _ _ _ _ _=>(Ĥ (i:=0) (show(["_law_weight"]:List Str).Nodup by decide +kernel) rfl (Or.inl rfl) (hf:=Or.inr rfl))) (fun _ _ _ _ _=>ŧ) (fun _ _ _ _ _=>(Ī (ġ (PK T) ē (hr.mono (by decide)) rfl T.oU T.Pa.kp T.Zaz iY (č 0 (hr:=Ġ))))) trivial))) Ě)) fun _ _ _ h=>Ň lQ h))))
  (Ď (ĩ (İ dW)))
  Ĵ)
  (Ć (ģ (i:=3) eE.nd rfl (by first|exact Or.inl rfl|exact Or.inr rfl) (İ Ă))
  (Ć (aP PassesOwn.leaving rfl (ŗ 0) (rJ rfl (Ŗ (Ĥ (i:=6) eE.nd rfl (Or.inl rfl)) (Ŗ (Ĥ (i:=7) eE.nd rfl (Or.inl rfl)) dX)))
  (Ď (ģ (i:=3) eE.nd rfl (by first|exact Or.inl rfl|exact Or.inr rfl) (İ (ĉ Ĭ Ģ (ă 3) (ă 7))))))
  (Ć (ģ (i:=4) eE.nd rfl (by first|exact Or.inl rfl|exact Or.inr rfl) (ŭ ["_law_common","_law_top","_law_bottom"] [3] 2 (ċ gD) rfl rfl (ŗ 0) (fun _ _ _ _ _=>(rJ rfl (Ŗ (Ĥ (i:=1) (show(["_law_common","_law_top","_law_bottom"]:List Str).Nodup by decide +kernel) rfl (Or.inl rfl) (hf:=Or.inr rfl)) (Ŗ (Ĥ (i:=2) (show(["_law_common","_law_top","_law_bottom"]:List Str).Nodup by decide +kernel) rfl (Or.inl rfl) (hf:=Or.inr rfl)) dX)))) (fun _ _ _ _ _=>ŧ) (fun _ _ _ _ _=>(ĉ Ĭ Ģ (ā (ĉ ő ŀ (ă 0) (ă 2))) (ă 1))) ⟨rfl,⟨rfl,Or.inl rfl⟩,trivial⟩))
  (Ć (Ū (Ŋ bN (Ż hu) (ā (PE.wk (Ē (fU rfl) (by rfl) T.lu PyProof.Rows.boot_sum (Č (ă 4) Ě)) fun _ _ _ h=>Ň fV h)) (ă 3) (Ħ _))
  (Ď (ĩ (İ dW)))
  Ĵ)
  (Ć (aP PassesOwn.leaving rfl (aj rfl T.aY (ć Ă ğ)) (Ĥ (i:=5) eE.nd rfl (by first|exact Or.inl rfl|exact Or.inr rfl))
  (Ď (Ū (Ŋ bN (Ż hu) (ā (PE.wk (Ē (fU rfl) (by rfl) T.lu PyProof.Rows.boot_sum (Č (ā (Ī (ŭ ["_law_shares","_law_axis","_law_points_here","_law_k"] [4,5,1] 1 (ċ gD) rfl rfl (aj rfl T.aY (ć (PE.wk (Ē aq (by rfl) T.cB PySem.boot_len (Č (ă 1) Ě)) fun _ _ _ h=>Ň aC h) ğ)) (fun _ _ _ _ _=>(Ĥ (i:=3) (show(["_law_shares","_law_axis","_law_points_here","_law_k"]:List Str).Nodup by decide +kernel) rfl (Or.inl rfl) (hf:=Or.inr rfl))) (fun _ _ _ _ _=>ŧ) (fun _ _ _ _ _=>(ĉ Ĭ Ģ (ā (ę Đ ď (ă 0) (ă 3) (fun _ _=>rfl))) (ā (ę Đ ď (ā (ę Đ ď (ă 2) (ă 3) (fun _ _=>rfl))) (ă 1) (fun _ _=>rfl))))) ⟨rfl,⟨rfl,Or.inl rfl⟩,⟨rfl,⟨rfl,Or.inl rfl⟩,⟨rfl,⟨rfl,Or.inl rfl⟩,trivial⟩⟩⟩))) Ě)) fun _ _ _ h=>Ň fV h)) (ā (ĉ Ĭ Ģ (ă 3) (ā (ę Đ ď (ă 2) (ă 5) (fun _ _=>rfl))))) (Ħ _))
  (Ď (ĩ (İ dW)))
  Ĵ)))
  (Ď (ĩ (İ dW))))))))))
theorem Jk(T:Tx K mg a):Œ P w K mg base (cg P w) 1 a.zE a.zF ["_law_line","_law_points_here","_law_point_here"] (cF ⟨K,Ş a⟩ 3 jl):=by
 refine fH (cm:=Ş a) (mb:=mV) T.Ei jt rfl rfl rfl fun cdv A outer s H E hr=>?_
 have hu:=hr.units
 exact(Ć (Ū (PW.pt (w_or (cL (aD (ā (PE.wk (Ē aL (by rfl) T.ŉ PyProof.Rows.boot_isinstance (Č (ă 0) (Č (ā (uo (.ty "tuple") (aJ (v:=.ty "tuple") rfl T.mY PyProof.Rows.boot_tuple rfl))) Ě))) fun _ _ _ h=>Ň (aM T.iC T.iT T.iD T.iN) h)))) (eZ (Ŋ bN (Ż hu) (ā (PE.wk (Ē aq (by rfl) T.cB PySem.boot_len (Č (ă 0) Ě)) fun _ _ _ h=>Ň aC h)) (ā Ă) (Ħ _)))))
  (Ď (ĩ (İ dW)))
  Ĵ)
  (Ć (aP PassesOwn.leaving rfl (ŗ 0) (Ĥ (i:=3) jt.nd rfl (Or.inl rfl))
  (Ď (Ū (PW.pt (w_or (cL (aD (ā (PE.wk (Ē aL (by rfl) T.ŉ PyProof.Rows.boot_isinstance (Č (ă 3) (Č (ā (uo (.ty "int") (aJ (v:=.ty "int") rfl T.lg PyProof.Rows.boot_int rfl))) Ě))) fun _ _ _ h=>Ň (aM T.iC T.iT T.iD T.iN) h)))) (eZ (aD (ā (PE.wk (Ē aL (by rfl) T.ŉ PyProof.Rows.boot_isinstance (Č (ă 3) (Č (ā (uo (.ty "bool") (aJ (v:=.ty "bool") rfl T.zU PyProof.Rows.boot_bool rfl))) Ě))) fun _ _ _ h=>Ň (aM T.iC T.iT T.iD T.iN) h))))))
  (Ď (ĩ (İ dW)))
  Ĵ)))
  (Ć (wz (v_var 0) (xT rfl (Ŗ (Ĥ (i:=4) jt.nd rfl (by first|exact Or.inl rfl|exact Or.inr rfl)) (Ŗ (Ĥ (i:=5) jt.nd rfl (by first|exact Or.inl rfl|exact Or.inr rfl)) (Ŗ (Ĥ (i:=6) jt.nd rfl (by first|exact Or.inl rfl|exact Or.inr rfl)) dX)))))
  (Ć (Ū (Ŋ wH vI (ā (Ī (ō Ĺ ĸ (ā (ĉ Ĭ Ģ (ă 4) (ā (ę Đ ď (ă 2) (ā Ă) (fun _ _=>rfl))))) (ā (ĉ Ĭ Ģ (ă 5) (ā (ę Đ ď (ă 2) (ā Ă) (fun _ _=>rfl)))))))) (ă 6) (Ħ _))
  (Ď (ĩ (İ dW)))
  Ĵ)
  (Ď (ĩ (İ (PE.wk (Ē (lJ rfl) (by rfl) T.sZ PyProof.Rows.boot_all (Č (ā (Ī (ŭ ["_law_n","_law_l","_law_m","_law_x","_law_y"] [6,4,5] 2 (ċ kO) rfl rfl (ŗ 1) (fun _ _ _ _ _=>(rJ rfl (Ŗ (Ĥ (i:=3) (show(["_law_n","_law_l","_law_m","_law_x","_law_y"]:List Str).Nodup by decide +kernel) rfl (Or.inl rfl) (hf:=Or.inr rfl)) (Ŗ (Ĥ (i:=4) (show(["_law_n","_law_l","_law_m","_law_x","_law_y"]:List Str).Nodup by decide +kernel) rfl (Or.inl rfl) (hf:=Or.inr rfl)) dX)))) (fun _ _ _ _ _=>ŧ) (fun _ _ _ _ _=>(dI wH vI (ā (Ī (ō Ĺ ĸ (ā (ĉ Ĭ Ģ (ă 1) (ă 3))) (ā (ĉ Ĭ Ģ (ă 2) (ă 4)))))) (ă 0) (Ħ _))) ⟨rfl,⟨rfl,Or.inl rfl⟩,⟨rfl,⟨rfl,Or.inl rfl⟩,⟨rfl,⟨rfl,Or.inl rfl⟩,trivial⟩⟩⟩))) Ě)) fun _ _ _ h=>Ň lQ h))))))))
theorem Ah(T:Tx K mg a):Œ P w K mg base (cg P w) 3 a.zG a.zH ["_law_found","_law_points_here","_law_point_here"] (cF ⟨K,Ş a⟩ 3 dO):=by
 refine fH (cm:=Ş a) (mb:=mW) T.zT Jd rfl rfl rfl fun cdv A outer s H E hr=>?_
 have hu:=hr.units
 exact(Ć (Ū (PW.pt (w_or (cL (aD (ā (PE.wk (Ē aL (by rfl) T.ŉ PyProof.Rows.boot_isinstance (Č (ă 0) (Č (ā (uo (.ty "tuple") (aJ (v:=.ty "tuple") rfl T.mY PyProof.Rows.boot_tuple rfl))) Ě))) fun _ _ _ h=>Ň (aM T.iC T.iT T.iD T.iN) h)))) (w_or (Ŋ bN (Ż hu) (ā (PE.wk (Ē aq (by rfl) T.cB PySem.boot_len (Č (ă 0) Ě)) fun _ _ _ h=>Ň aC h)) (ā Ă) (Ħ _)) (eZ (cL (aD (ā (PE.wk (Ē aL (by rfl) T.ŉ PyProof.Rows.boot_isinstance (Č (ā (ę Đ ď (ă 0) (ā Ă) (fun _ _=>rfl))) (Č (ā (uo (.ty "str") (aJ (v:=.ty "str") rfl T.Pk PyProof.Rows.boot_str rfl))) Ě))) fun _ _ _ h=>Ň (aM T.iC T.iT T.iD T.iN) h))))))))
  (Ď (ĩ (İ dW)))
  Ĵ)
  (Ć (Ū (Ŋ aR (Ŭ hu) (ā (ę Đ ď (ă 0) (ā Ă) (fun _ _=>rfl))) (ā nC) (Ħ _))
  (Ď (ĩ (ġ (Jj T) ē (hr.mono (by decide)) rfl T.gJ T.Eh.kp T.Pb ķ (į (ę Đ ď (ă 0) (ā Ă) (fun _ _=>rfl)) (č 1 (hr:=(č 2 (hr:=Ġ))))))))
  Ĵ)
  (Ď (ĩ (İ (v_and (dI aR (Ŭ hu) (ā (ę Đ ď (ă 0) (ā Ă) (fun _ _=>rfl))) (ā nC) (Ħ _)) (Dj (Ī (ġ (Jk T) ē (hr.mono (by decide)) rfl T.jl T.Ei.kp T.Pg ķ (į (ę Đ ď (ă 0) (ā Ă) (fun _ _=>rfl)) (č 1 (hr:=(č 2 (hr:=Ġ))))))))))))))
theorem Jl(T:Tx K mg a):Œ P w K mg base (cg P w) 6 a.zJ a.zK ["_law_script"] (cF ⟨K,Ş a⟩ 1 jm):=by
 refine fH (cm:=Ş a) (mb:=qH) T.Ph eG rfl rfl rfl fun cdv A outer s H E hr=>?_
 have hu:=hr.units
 exact(@Ć _ _ _ _ _ _ _ (@ģ _ _ _ _ _ _ 1 _ _ eG.nd rfl (Or.inl rfl) (@ŷ _ _ _ _ _ _ (@ć _ _ _ _ _ _ _ (@Ī _ _ _ _ _ (@ġ _ _ _ _ _ _ _ _ _ _ _ _ _ _ _ _ (Ep T) ē (hr.mono (by decide)) rfl T.jE T.IV.kp T.Ol (@ķ _ _ _ _ _ _ _ _ _ _ _ _ _ _ _) (@č _ _ _ _ _ 0 _ _ (by rfl) (by first|exact Or.inl rfl|exact Or.inr (Or.inl rfl)|exact Or.inr (Or.inr rfl)) (by decide) (by decide) (@į _ _ _ _ _ _ _ (@Ă _ _ _ _ _ _) (@Ġ _ _ _) (by exact Ĉ rfl)) (by exact Ĉ rfl)) (by decide) (by exact Ĉ rfl) (by rfl))) (@ć _ _ _ _ _ _ _ (@Ī _ _ _ _ _ (@ġ _ _ _ _ _ _ _ _ _ _ _ _ _ _ _ _ (Ep T) ē (hr.mono (by decide)) rfl T.jE T.IV.kp T.Ol (@ķ _ _ _ _ _ _ _ _ _ _ _ _ _ _ _) (@č _ _ _ _ _ 0 _ _ (by rfl) (by first|exact Or.inl rfl|exact Or.inr (Or.inl rfl)|exact Or.inr (Or.inr rfl)) (by decide) (by decide) (@į _ _ _ _ _ _ _ (@Ă _ _ _ _ _ _) (@Ġ _ _ _) (by exact Ĉ rfl)) (by exact Ĉ rfl)) (by decide) (by exact Ĉ rfl) (by rfl))) (@ğ _ _ _) (by exact Ĉ rfl)) (by exact Ĉ rfl))) (by rfl) (by first|exact .inl rfl|exact .inr rfl|assumption)) (@Ć _ _ _ _ _ _ _ (@ģ _ _ _ _ _ _ 2 _ _ eG.nd rfl (Or.inl rfl) (@ŷ _ _ _ _ _ _ (@ć _ _ _ _ _ _ _ (@Ī _ _ _ _ _ (@ġ _ _ _ _ _ _ _ _ _ _ _ _ _ _ _ _ (Ac T) ē (hr.mono (by decide)) rfl T.aU T.zL.kp T.DW (@ķ _ _ _ _ _ _ _ _ _ _ _ _ _ _ _) (@į _ _ _ _ _ _ _ (@ę _ _ _ _ _ _ _ _ _ _ (@Đ _) (@ď _) (@ă _ _ _ 1 _ _ (by rfl) (by first|exact Or.inl rfl|exact Or.inr (Or.inl rfl)|exact Or.inr (Or.inr rfl)) (by decide) (by decide)) (@ā _ _ _ _ _ (@Ă _ _ _ _ _ _)) (fun _ _=>rfl)) (@į _ _ _ _ _ _ _ (@Ī _ _ _ _ _ (@ġ _ _ _ _ _ _ _ _ _ _ _ _ _ _ _ _ (m_ T) ē (hr.mono (by decide)) rfl T.aH T.oW.kp T.sW (@ķ _ _ _ _ _ _ _ _ _ _ _ _ _ _ _) (@č _ _ _ _ _ 0 _ _ (by rfl) (by first|exact Or.inl rfl|exact Or.inr (Or.inl rfl)|exact Or.inr (Or.inr rfl)) (by decide) (by decide) (@į _ _ _ _ _ _ _ (@Ă _ _ _ _ _ _) (@Ġ _ _ _) (by exact Ĉ rfl)) (by exact Ĉ rfl)) (by decide) (by exact Ĉ rfl) (by rfl))) (@Ġ _ _ _) (by exact Ĉ rfl)) (by exact Ĉ rfl)) (by decide) (by exact Ĉ rfl) (by rfl))) (@ć _ _ _ _ _ _ _ (@Ī _ _ _ _ _ (@ġ _ _ _ _ _ _ _ _ _ _ _ _ _ _ _ _ (Ac T) ē (hr.mono (by decide)) rfl T.aU T.zL.kp T.DW (@ķ _ _ _ _ _ _ _ _ _ _ _ _ _ _ _) (@į _ _ _ _ _ _ _ (@ę _ _ _ _ _ _ _ _ _ _ (@Đ _) (@ď _) (@ă _ _ _ 1 _ _ (by rfl) (by first|exact Or.inl rfl|exact Or.inr (Or.inl rfl)|exact Or.inr (Or.inr rfl)) (by decide) (by decide)) (@ā _ _ _ _ _ (@Ă _ _ _ _ _ _)) (fun _ _=>rfl)) (@į _ _ _ _ _ _ _ (@Ī _ _ _ _ _ (@ġ _ _ _ _ _ _ _ _ _ _ _ _ _ _ _ _ (m_ T) ē (hr.mono (by decide)) rfl T.aH T.oW.kp T.sW (@ķ _ _ _ _ _ _ _ _ _ _ _ _ _ _ _) (@č _ _ _ _ _ 0 _ _ (by rfl) (by first|exact Or.inl rfl|exact Or.inr (Or.inl rfl)|exact Or.inr (Or.inr rfl)) (by decide) (by decide) (@į _ _ _ _ _ _ _ (@Ă _ _ _ _ _ _) (@Ġ _ _ _) (by exact Ĉ rfl)) (by exact Ĉ rfl)) (by decide) (by exact Ĉ rfl) (by rfl))) (@Ġ _ _ _) (by exact Ĉ rfl)) (by exact Ĉ rfl)) (by decide) (by exact Ĉ rfl) (by rfl))) (@ğ _ _ _) (by exact Ĉ rfl)) (by exact Ĉ rfl))) (by rfl) (by first|exact .inl rfl|exact .inr rfl|assumption)) (@Ć _ _ _ _ _ _ _ (@aP _ _ _ _ _ _ _ _ _ _ PassesOwn.leaving rfl (@jV _ _ _ _ _ _ (@Ī _ _ _ _ _ (@ŷ _ _ _ _ _ _ (@ć _ _ _ _ _ _ _ (@Ă _ _ _ _ _ _) (@ć _ _ _ _ _ _ _ (@Ă _ _ _ _ _ _) (@ć _ _ _ _ _ _ _ (@Ă _ _ _ _ _ _) (@ğ _ _ _) (by exact Ĉ rfl)) (by exact Ĉ rfl)) (by exact Ĉ rfl))))) (@Ĥ _ _ _ 3 _ eG.nd rfl (Or.inl rfl) (by first|exact .inl rfl|exact .inr rfl|assumption)) (@Ć _ _ _ _ _ _ _ (@ģ _ _ _ _ _ _ 4 _ _ eG.nd rfl (Or.inl rfl) (@PE.wk _ _ _ _ (bF B_ (by rfl) T.zW PyProof.Rows.boot_list (@Č _ _ _ _ _ _ _ (@ā _ _ _ _ _ (@ę _ _ _ _ _ _ _ _ _ _ (@Đ _) (@ď _) (@ă _ _ _ 1 _ _ (by rfl) (by first|exact Or.inl rfl|exact Or.inr (Or.inl rfl)|exact Or.inr (Or.inr rfl)) (by decide) (by decide)) (@ă _ _ _ 3 _ _ (by rfl) (by first|exact Or.inl rfl|exact Or.inr (Or.inl rfl)|exact Or.inr (Or.inr rfl)) (by decide) (by decide)) (fun _ _=>rfl))) (@Ě _ _ _) (by exact Ĉ rfl))) (fun _ _ _ h=> @Xf _ _ _ _ _ _ (@Ca _) _ _ _ h)) (by rfl) (by first|exact .inl rfl|exact .inr rfl|assumption)) (@Ć _ _ _ _ _ _ _ (@ģ _ _ _ _ _ _ 5 _ _ eG.nd rfl (Or.inl rfl) (@ġ _ _ _ _ _ _ _ _ _ _ _ _ _ _ _ _ (Ag T) ē (hr.mono (by decide)) rfl T.fG T.zR.kp T.Ef (@ķ _ _ _ _ _ _ _ _ _ _ _ _ _ _ _) (@č _ _ _ _ _ 4 _ _ (by rfl) (by first|exact Or.inl rfl|exact Or.inr (Or.inl rfl)|exact Or.inr (Or.inr rfl)) (by decide) (by decide) (@į _ _ _ _ _ _ _ (@ę _ _ _ _ _ _ _ _ _ _ (@Đ _) (@ď _) (@ă _ _ _ 2 _ _ (by rfl) (by first|exact Or.inl rfl|exact Or.inr (Or.inl rfl)|exact Or.inr (Or.inr rfl)) (by decide) (by decide)) (@ă _ _ _ 3 _ _ (by rfl) (by first|exact Or.inl rfl|exact Or.inr (Or.inl rfl)|exact Or.inr (Or.inr rfl)) (by decide) (by decide)) (fun _ _=>rfl)) (@Ġ _ _ _) (by exact Ĉ rfl)) (by exact Ĉ rfl)) (by decide) (by exact Ĉ rfl) (by rfl)) (by rfl) (by first|exact .inl rfl|exact .inr rfl|assumption)) (@Ć _ _ _ _ _ _ _ (@Ū _ _ _ _ _ _ _ _ _ _ (@mz _ _ _ _ _ 5 (@PW.pt _ _ _ (@w_or _ _ _ _ _ _ _ _ _ (@cL _ _ _ _ _ _ (@aD _ _ _ _ _ (@ā _ _ _ _ _ (@Ī _ _ _ _ _ (@ġ _ _ _ _ _ _ _ _ _ _ _ _ _ _ _ _ (Ah T) ē (hr.mono (by decide)) rfl T.dO T.zT.kp T.Ej (@ķ _ _ _ _ _ _ _ _ _ _ _ _ _ _ _) (@č _ _ _ _ _ 5 _ _ (by rfl) (by first|exact Or.inl rfl|exact Or.inr (Or.inl rfl)|exact Or.inr (Or.inr rfl)) (by decide) (by decide) (@į _ _ _ _ _ _ _ (@ę _ _ _ _ _ _ _ _ _ _ (@Đ _) (@ď _) (@ă _ _ _ 1 _ _ (by rfl) (by first|exact Or.inl rfl|exact Or.inr (Or.inl rfl)|exact Or.inr (Or.inr rfl)) (by decide) (by decide)) (@ă _ _ _ 3 _ _ (by rfl) (by first|exact Or.inl rfl|exact Or.inr (Or.inl rfl)|exact Or.inr (Or.inr rfl)) (by decide) (by decide)) (fun _ _=>rfl)) (@į _ _ _ _ _ _ _ (@ę _ _ _ _ _ _ _ _ _ _ (@Đ _) (@ď _) (@ă _ _ _ 2 _ _ (by rfl) (by first|exact Or.inl rfl|exact Or.inr (Or.inl rfl)|exact Or.inr (Or.inr rfl)) (by decide) (by decide)) (@ă _ _ _ 3 _ _ (by rfl) (by first|exact Or.inl rfl|exact Or.inr (Or.inl rfl)|exact Or.inr (Or.inr rfl)) (by decide) (by decide)) (fun _ _=>rfl)) (@Ġ _ _ _) (by exact Ĉ rfl)) (by exact Ĉ rfl)) (by exact Ĉ rfl)) (by decide) (by exact Ĉ rfl) (by rfl)))) (by intro _;rfl))) (@eZ _ _ _ _ _ _ (@Ŋ _ _ _ _ _ _ _ _ _ _ _ (@bN _) (@Ż _ hu) (@ă _ _ _ 4 _ _ (by rfl) (by first|exact Or.inl rfl|exact Or.inr (Or.inl rfl)|exact Or.inr (Or.inr rfl)) (by decide) (by decide)) (@ā _ _ _ _ _ (@ę _ _ _ _ _ _ _ _ _ _ (@Đ _) (@ď _) (@ă _ _ _ 1 _ _ (by rfl) (by first|exact Or.inl rfl|exact Or.inr (Or.inl rfl)|exact Or.inr (Or.inr rfl)) (by decide) (by decide)) (@ă _ _ _ 3 _ _ (by rfl) (by first|exact Or.inl rfl|exact Or.inr (Or.inl rfl)|exact Or.inr (Or.inr rfl)) (by decide) (by decide)) (fun _ _=>rfl))) (Ħ _)))))) (@Ď _ _ _ _ _ (@ĩ _ _ _ _ _ _ (@İ _ _ _ _ _ (@dW _ _ _ _ _ _)))) (@Ĵ _ _ _)) (@Ć _ _ _ _ _ _ _ (@ģ _ _ _ _ _ _ 6 _ _ eG.nd rfl (Or.inl rfl) (@ġ _ _ _ _ _ _ _ _ _ _ _ _ _ _ _ _ (Ag T) ē (hr.mono (by decide)) rfl T.fG T.zR.kp T.Ef (@ķ _ _ _ _ _ _ _ _ _ _ _ _ _ _ _) (@į _ _ _ _ _ _ _ (@Ī _ _ _ _ _ (@Dz _ _ _ _ _ _ _ _ _ _ (@ā _ _ _ _ _ (@ę _ _ _ _ _ _ _ _ _ _ (@Đ _) (@ď _) (@ă _ _ _ 1 _ _ (by rfl) (by first|exact Or.inl rfl|exact Or.inr (Or.inl rfl)|exact Or.inr (Or.inr rfl)) (by decide) (by decide)) (@ă _ _ _ 3 _ _ (by rfl) (by first|exact Or.inl rfl|exact Or.inr (Or.inl rfl)|exact Or.inr (Or.inr rfl)) (by decide) (by decide)) (fun _ _=>rfl))))) (@į _ _ _ _ _ _ _ (@ę _ _ _ _ _ _ _ _ _ _ (@Đ _) (@ď _) (@ă _ _ _ 2 _ _ (by rfl) (by first|exact Or.inl rfl|exact Or.inr (Or.inl rfl)|exact Or.inr (Or.inr rfl)) (by decide) (by decide)) (@ă _ _ _ 3 _ _ (by rfl) (by first|exact Or.inl rfl|exact Or.inr (Or.inl rfl)|exact Or.inr (Or.inr rfl)) (by decide) (by decide)) (fun _ _=>rfl)) (@Ġ _ _ _) (by exact Ĉ rfl)) (by exact Ĉ rfl)) (by decide) (by exact Ĉ rfl) (by rfl)) (by rfl) (by first|exact .inl rfl|exact .inr rfl|assumption)) (@Ć _ _ _ _ _ _ _ (@Ū _ _ _ _ _ _ _ _ _ _ (@mz _ _ _ _ _ 6 (@mz _ _ _ _ _ 5 (@PW.pt _ _ _ (@w_or _ _ _ _ _ _ _ _ _ (@cL _ _ _ _ _ _ (@aD _ _ _ _ _ (@ā _ _ _ _ _ (@Ī _ _ _ _ _ (@ġ _ _ _ _ _ _ _ _ _ _ _ _ _ _ _ _ (Ah T) ē (hr.mono (by decide)) rfl T.dO T.zT.kp T.Ej (@ķ _ _ _ _ _ _ _ _ _ _ _ _ _ _ _) (@č _ _ _ _ _ 6 _ _ (by rfl) (by first|exact Or.inl rfl|exact Or.inr (Or.inl rfl)|exact Or.inr (Or.inr rfl)) (by decide) (by decide) (@į _ _ _ _ _ _ _ (@Ī _ _ _ _ _ (@Dz _ _ _ _ _ _ _ _ _ _ (@ā _ _ _ _ _ (@ę _ _ _ _ _ _ _ _ _ _ (@Đ _) (@ď _) (@ă _ _ _ 1 _ _ (by rfl) (by first|exact Or.inl rfl|exact Or.inr (Or.inl rfl)|exact Or.inr (Or.inr rfl)) (by decide) (by decide)) (@ă _ _ _ 3 _ _ (by rfl) (by first|exact Or.inl rfl|exact Or.inr (Or.inl rfl)|exact Or.inr (Or.inr rfl)) (by decide) (by decide)) (fun _ _=>rfl))))) (@į _ _ _ _ _ _ _ (@ę _ _ _ _ _ _ _ _ _ _ (@Đ _) (@ď _) (@ă _ _ _ 2 _ _ (by rfl) (by first|exact Or.inl rfl|exact Or.inr (Or.inl rfl)|exact Or.inr (Or.inr rfl)) (by decide) (by decide)) (@ă _ _ _ 3 _ _ (by rfl) (by first|exact Or.inl rfl|exact Or.inr (Or.inl rfl)|exact Or.inr (Or.inr rfl)) (by decide) (by decide)) (fun _ _=>rfl)) (@Ġ _ _ _) (by exact Ĉ rfl)) (by exact Ĉ rfl)) (by exact Ĉ rfl)) (by decide) (by exact Ĉ rfl) (by rfl)))) (by intro _;rfl))) (@eZ _ _ _ _ _ _ (@Ŋ _ _ _ _ _ _ _ _ _ _ _ (@bN _) (@Ż _ hu) (@ā _ _ _ _ _ (@ę _ _ _ _ _ _ _ _ _ _ (@Đ _) (@ď _) (@ă _ _ _ 6 _ _ (by rfl) (by first|exact Or.inl rfl|exact Or.inr (Or.inl rfl)|exact Or.inr (Or.inr rfl)) (by decide) (by decide)) (@ā _ _ _ _ _ (@Ă _ _ _ _ _ _)) (fun _ _=>rfl))) (@ā _ _ _ _ _ (@ę _ _ _ _ _ _ _ _ _ _ (@Đ _) (@ď _) (@ă _ _ _ 5 _ _ (by rfl) (by first|exact Or.inl rfl|exact Or.inr (Or.inl rfl)|exact Or.inr (Or.inr rfl)) (by decide) (by decide)) (@ā _ _ _ _ _ (@Ă _ _ _ _ _ _)) (fun _ _=>rfl))) (Ħ _))))))) (@Ď _ _ _ _ _ (@ĩ _ _ _ _ _ _ (@İ _ _ _ _ _ (@dW _ _ _ _ _ _)))) (@Ĵ _ _ _)) (@Ď _ _ _ _ _ (@Ū _ _ _ _ _ _ _ _ _ _ (@mz _ _ _ _ _ 5 (@Ŋ _ _ _ _ _ _ _ _ _ _ _ (@aR _) (@Ŭ _ hu) (@ā _ _ _ _ _ (@ę _ _ _ _ _ _ _ _ _ _ (@Đ _) (@ď _) (@ă _ _ _ 5 _ _ (by rfl) (by first|exact Or.inl rfl|exact Or.inr (Or.inl rfl)|exact Or.inr (Or.inr rfl)) (by decide) (by decide)) (@ā _ _ _ _ _ (@Ă _ _ _ _ _ _)) (fun _ _=>rfl))) (@ā _ _ _ _ _ (@nC _ _ _ _ _ _)) (Ħ _))) (@Ď _ _ _ _ _ (@PS.wk _ _ _ _ (bT (iG PySem.F.plainAttrs_list PySem.F.slot_list_append PySem.F.type_list_append ź (@Dd _ _ _ _ _ _ _ (@vC _) (pv 5) (@pC _ _ _ _) (fun _ _=>rfl)) (@ć _ _ _ _ _ _ _ (@Ŏ _ _ _ _ _ _ _ (@ć _ _ _ _ _ _ _ (@Ă _ _ _ _ _ _) (@ć _ _ _ _ _ _ _ (@Ă _ _ _ _ _ _) (@ğ _ _ _) (by exact Ĉ rfl)) (by exact Ĉ rfl))) (@ğ _ _ _) (by exact Ĉ rfl)))) (fun _ _ _ h=> @xX _ _ _ _ _ _ _ _ _ h))) (@Ĵ _ _ _)))))))) (by intro _;rfl)) (@Ď _ _ _ _ _ (@ĩ _ _ _ _ _ _ (@İ _ _ _ _ _ (@dW _ _ _ _ _ _)))))))
end
theorem Zn(ns:List Int)(k:Nat):aH [.sh (.lst (ns.map .int)),.sh (.int k)]=.ret (.sh (.int (ns.getD k 0))):=by
 by_cases h:k<ns.length
 ·have h':(k:Int)<(ns.length:Int):=by omega
  simp[aH,mD,List.replicate,h',List.getElem?_eq_getElem h]
 ·have h':¬(k:Int)<(ns.length:Int):=by omega
  simp[aH,mD,List.replicate,h',List.getElem?_eq_none (Nat.le_of_not_lt h)]
@[simp] theorem Zo(ns:List Int)(k:Nat):aH [.sh (.lst (ns.map .int)),.sh (.int (no_index (OfNat.ofNat k)))]=.ret (.sh (.int (ns.getD k 0))):=Zn ns k
@[simp] theorem Z28{x:Int}{n:Nat}(h:n≠0)(h2:n<1073741824):rW x (no_index (OfNat.ofNat n):Int)=true:=by
  have e:(no_index (OfNat.ofNat n):Int)=(n:Int):=rfl
  rw[e]
  unfold rW
  simp
  omega
theorem Zp(n k:Int)(h0:0≤k)(hk:k<1000):∃x:Int,Ŕ [.sh (.int n),.sh (.int k)]=.ret (.sh (.int x))∧0≤x∧x<1500450271:=by
 have h1:=Int.emod_nonneg n (show(1073741789:Int)≠0 by decide)
 have h2:=Int.emod_lt_of_pos n (show(0:Int)<1073741789 by decide)
 obtain⟨N,hN⟩:∃N,(n % 1073741789+3*k+1)*40009+k*5501=N:=⟨_,rfl⟩
 have b0:0≤N / 32749:=by omega
 have b1:N / 32749<18446744073709551616:=by omega
 have b2:0≤N % 32749:=by omega
 have b3:N % 32749<32749:=by omega
 obtain⟨h,hh⟩:∃h,N / 32749=h:=⟨_,rfl⟩
 obtain⟨l,hl⟩:∃l,N % 32749=l:=⟨_,rfl⟩
 rw[hh] at b0 b1
 rw[hl] at b2 b3
 have m1:Ľ h h=true:=ū (by omega) (by omega)
 have m2:Ľ l (l+613)=true:=ū (by omega) (by omega)
 have hd:fj [.int N,.int 32749]=some (.tup [.int h,.int l]):=by rw[←hh,←hl];simp[fj]
 obtain⟨S,hS⟩:∃S,h*h+l*(l+613)+k=S:=⟨_,rfl⟩
 refine⟨S % 1500450271,?_,by omega,by omega⟩
 simp[Ŕ,qu,List.replicate,hN,hd,m1,m2,hS]
def pt(p:Hu.Pt):PV:=.tup [.int p.1,.int p.2]
def bQ(l:Hu.Ln):PV:=.tup [.int l.1,.int l.2.1,.int l.2.2]
def Sm(p:Hu.Pt):Prop:=-100000000000000000≤p.1∧p.1≤100000000000000000∧ -100000000000000000≤p.2∧p.2≤100000000000000000
def Kd(l:Hu.Ln):Prop:=-1000000000000000000≤l.1∧l.1≤1000000000000000000∧ -1000000000000000000≤l.2.1∧l.2.1≤1000000000000000000
theorem Z0Q{x y:Hu.Pt}:eqB (pt y) (pt x)=decide (y=x):=by
 obtain⟨a,b⟩:=x
 obtain⟨c,d⟩:=y
 unfold pt
 rw[HF,Bool.eq_iff_iff]
 simp
theorem ZN(x:Hu.Pt):ű (pt x)=true:=by simp[pt,ű,bB]
theorem ZO(x:Hu.Pt):dep (pt x)=1:=by simp[pt,dep,jB]
theorem ZP(S:List Hu.Pt):bB (S.map pt)=true:=by
 induction S with
 |nil=>simp[bB]
 |cons p S ih=>simp[bB,ZN,ih]
theorem Z0s(S:List Hu.Pt):jB (S.map pt)≤1:=by
 induction S with
 |nil=>simp[jB]
 |cons p S ih=>rw[List.map_cons,jB,ZO];omega
theorem Z0R(x:Hu.Pt):∀k:List Hu.Pt,(k.map pt).any (fun y=>eqB y (pt x))=decide (x∈k)
 | []=>by simp
 |y::k=>by
  rw[List.map_cons,List.any_cons,Z0R x k,Z0Q,Bool.eq_iff_iff]
  simp
  constructor
  ·rintro (e|e)
   ·exact .inl e.symm
   ·exact .inr e
  ·rintro (e|e)
   ·exact .inl e.symm
   ·exact .inr e
theorem Z0b(x:Hu.Pt)(k:List Hu.Pt):inD true (pt x) (.lst (k.map pt))=some (.bl (!decide (x∈k))):=by
 unfold inD
 simp only[ZN,ZP,ZO,Z0R]
 rfl
theorem Z0D(x y:Hu.Pt):ŵ (pt x) (pt y)=some (.bl (!decide (x=y))):=by
 unfold ŵ lO
 rw[ZN,ZN,ZO,ZO,Z0Q]
 rfl
theorem Z1v{a b:Hu.Pt}(ha:Sm a)(hb:Sm b):uM [.sh (pt a),.sh (pt b)]=.ret (.sh (bQ (Hu.Z0 a b))):=by
 obtain⟨a1,a2,a3,a4⟩:=ha
 obtain⟨b1,b2,b3,b4⟩:=hb
 have m1:Ľ (b.2-a.2) a.1=true:=ū (by omega) (by omega)
 have m2:Ľ (a.1-b.1) a.2=true:=ū (by omega) (by omega)
 simp[uM,yt,List.replicate,pt,bQ,Hu.Z0,m1,m2]
theorem Z0c{l:Hu.Ln}(hl:Kd l)(p:Hu.Pt):dM [.sh (bQ l),.sh (pt p)]=.ret (.sh (.bl (Hu.hd l p))):=by
 obtain⟨a1,a2,a3,a4⟩:=hl
 have m1:Ľ l.1 p.1=true:=ū (by omega) (by omega)
 have m2:Ľ l.2.1 p.2=true:=ū (by omega) (by omega)
 simp[dM,qz,List.replicate,pt,bQ,Hu.hd,m1,m2]
theorem Z0t{a b:Hu.Pt}(ha:Sm a)(hb:Sm b):Kd (Hu.Z0 a b):=by
 obtain⟨a1,a2,a3,a4⟩:=ha
 obtain⟨b1,b2,b3,b4⟩:=hb
 simp only[Kd,Hu.Z0]
 omega
def Sl(s:P.Slot)(ps:List PV):Prop:=s=.sh (.lst ps)∨s=.bw ps
theorem Sl.lend{s:P.Slot}{ps:List PV}(h:Sl s ps):cj s=some s:=by rcases h with rfl|rfl<;>rfl
theorem Sl.it{s:P.Slot}{ps:List PV}(h:Sl s ps){i:Nat}{ρ:ł}(e:ρ[i]?=some s):ņ i ρ=.ok ps ρ:= by
 rcases h with rfl|rfl<;>simp[e]
theorem Z1w{S:List Hu.Pt}{sl:P.Slot}(hs:Sl sl (S.map pt))(hl:S.length≤1000):kY [sl]=.ret (.ow ((Hu.Z1 S).map pt)):=by
 have hlen:∀(xs k:List Hu.Pt),(xs.foldl (fun k x=>if x∈k then k else k ++ [x]) k).length≤k.length+xs.length:=by
  intro xs
  induction xs with
  |nil=>intro k;simp
  |cons x xs ih=>
   intro k
   rw[List.foldl_cons]
   refine Nat.le_trans (ih _) ?_
   split
   ·simp
   ·simp;omega
 have key:∀(xs:List Hu.Pt) (k:List Hu.Pt) (s2:P.Slot),k.length+xs.length≤1000→∃s2',forL (gN 2) gb (xs.map pt) [sl,.ow (k.map pt),s2]=.ok .nx [sl,.ow ((xs.foldl (fun k x=>if x∈k then k else k ++ [x]) k).map pt),s2']:=by
  intro xs
  induction xs with
  |nil=>intro k s2 _;exact⟨s2,rfl⟩
  |cons x xs ih=>
   intro k s2 hk
   rw[List.length_cons] at hk
   by_cases hx:x∈k
   ·obtain⟨s2',e⟩:=ih k (.sh (pt x)) (by omega)
    refine⟨s2',?_⟩
    have hb:gb [sl,.ow (k.map pt),.sh (pt x)]=.ok .nx [sl,.ow (k.map pt),.sh (pt x)]:=by simp[gb,Z0b,hx]
    rw[List.map_cons,List.foldl_cons,if_pos hx,forL]
    simp[hb,e]
   ·obtain⟨s2',e⟩:=ih (k ++ [x]) (.sh (pt x)) (by simp;omega)
    refine⟨s2',?_⟩
    have h3:k.length<16777216:=by omega
    have hb:gb [sl,.ow (k.map pt),.sh (pt x)]=.ok .nx [sl,.ow ((k ++ [x]).map pt),.sh (pt x)]:=by simp[gb,Z0b,hx,h3]
    rw[List.map_cons,List.foldl_cons,if_neg hx,forL]
    simp only[wO,List.set_cons_succ,List.set_cons_zero,hb,Res.ş]
    exact e
 obtain⟨s2,e⟩:=key S [] .no (by simpa using hl)
 have hit:=hs.it (i:=0) (ρ:= [sl,.ow [],.no]) rfl
 simp only[List.map_nil] at e
 simp[kY,qy,List.replicate,-pY,hit,e]
 rfl
theorem Z0d(x:Int)(l:List Int):gC [.lst ((x::l).map .int)]=some (.int (Hu.mx (x::l))):=by
 show((intsOf ((x::l).map .int)).bind (best max)).map PV.int=_
 rw[Ů]
 rfl
theorem Z0S(x:Int)(l:List Int):jZ [.lst ((x::l).map .int)]=some (.int (Hu.mn (x::l))):=by
 show((intsOf ((x::l).map .int)).bind (best min)).map PV.int=_
 rw[Ů]
 rfl
theorem Z1D{S:List Hu.Pt}{sl:P.Slot}(hs:Sl sl (S.map pt))(h0:S≠[])(hl:S.length≤1000):kW [sl]=.ret (.ow ((Hu.box S).map bQ)):=by
 have c1:Ń (gN 0) ŋ (Ą đ (Ā 0) (mC (.int 0))) (S.map pt) [.no] []=some ((S.map (·.1)).map .int):=by
  have:=Ŀ (g:=gN 0) (mt:=ŋ) (me:=Ą đ (Ā 0) (mC (.int 0))) pt (fun p=>.int p.1) (fun ρ=>∃s,ρ=[s]) S [.no] [] ⟨_,rfl⟩ (by simp;omega) (by
   rintro x hx ρ ⟨s,rfl⟩
   exact⟨[.sh (pt x)],[.sh (pt x)],[.sh (pt x)],by simp,by simp,by simp[pt],_,rfl⟩)
  rw[this]
  simp
 have c2:Ń (gN 0) ŋ (Ą đ (Ā 0) (mC (.int 1))) (S.map pt) [.no] []=some ((S.map (·.2)).map .int):=by
  have:=Ŀ (g:=gN 0) (mt:=ŋ) (me:=Ą đ (Ā 0) (mC (.int 1))) pt (fun p=>.int p.2) (fun ρ=>∃s,ρ=[s]) S [.no] [] ⟨_,rfl⟩ (by simp;omega) (by
   rintro x hx ρ ⟨s,rfl⟩
   exact⟨[.sh (pt x)],[.sh (pt x)],[.sh (pt x)],by simp,by simp,by simp[pt],_,rfl⟩)
  rw[this]
  simp
 obtain⟨p,R,rfl⟩:=List.exists_cons_of_ne_nil h0
 have x1:=Z0d p.1 (R.map (·.1))
 have x2:=Z0S p.1 (R.map (·.1))
 have x3:=Z0d p.2 (R.map (·.2))
 have x4:=Z0S p.2 (R.map (·.2))
 have hit:∀s1 s2,ņ 0 [sl,s1,s2]=.ok ((p::R).map pt) [sl,s1,s2]:=fun s1 s2=>hs.it rfl
 have b:(Hu.box (p::R)).map bQ=[.tup [.int 1,.int 0,.int (Hu.mx (p.1::R.map (·.1)))],.tup [.int (-1),.int 0,.int (- Hu.mn (p.1::R.map (·.1)))],.tup [.int 0,.int 1,.int (Hu.mx (p.2::R.map (·.2)))],.tup [.int 0,.int (-1),.int (- Hu.mn (p.2::R.map (·.2)))]]:=rfl
 rw[b]
 generalize (p::R).map pt=ps at hit c1 c2
 rw[List.map_cons] at c1 c2
 generalize (p.1::R.map (·.1)).map PV.int=us at c1 x1 x2
 generalize (p.2::R.map (·.2)).map PV.int=vs at c2 x3 x4
 simp[kW,qw,List.replicate,-pY,-sI,-Cu,hit,c1,c2,x1,x2,x3,x4]
theorem Z00:∀l:List Bool,boolsOf (l.map .bl)=some l
 | []=>rfl
 |x::l=>by rw[List.map_cons,boolsOf,Z00 l];rfl
theorem ZQ(l:List Bool):pX [.lst (l.map .bl)]=some (.bl (l.all id)):=by
 show(boolsOf (l.map .bl)).map (fun bs=>PV.bl (bs.all id))=_
 rw[Z00]
 rfl
theorem Zv(S:List Hu.Pt):(Hu.Z1 S).length≤S.length:=by
 have:∀(xs k:List Hu.Pt),(xs.foldl (fun k x=>if x∈k then k else k ++ [x]) k).length≤k.length+xs.length:=by
  intro xs
  induction xs with
  |nil=>intro k;simp
  |cons x xs ih=>
   intro k
   rw[List.foldl_cons]
   refine Nat.le_trans (ih _) ?_
   split
   ·simp
   ·simp;omega
 have h:=this S []
 rw[List.length_nil,Nat.zero_add] at h
 exact h
theorem Z0T{S:List Hu.Pt}(hS:∀p∈S,Sm p)(hl:S.length≤1000){a b:Hu.Pt}(ha:a∈S)(hb:b∈S)(s0 s5:P.Slot)(L:List Hu.Ln)(hL:L.length<16777216) :
 gj [s0,.ow (L.map bQ),.sh (.lst ((Hu.Z1 S).map pt)),.sh (pt a),.sh (pt b),s5]=.ok .nx [s0,.ow ((L++(if a≠b∧(Hu.Z1 S).all (Hu.hd (Hu.Z0 a b)) then[Hu.Z0 a b] else[])).map bQ),.sh (.lst ((Hu.Z1 S).map pt)),.sh (pt a),.sh (pt b),.sh (bQ (Hu.Z0 a b))]:=by
 have hsm:=Z0t (hS a ha) (hS b hb)
 have c1:Ń (gN 1) ŋ (ě (Ğ dM (Ċ 0 (Ċ 1 ĝ)))) ((Hu.Z1 S).map pt) [.sh (bQ (Hu.Z0 a b)),.no] []=some (((Hu.Z1 S).map (Hu.hd (Hu.Z0 a b))).map .bl):=by
  have hlen:(Hu.Z1 S).length≤16777216:=by have:=Zv S;omega
  have:=Ŀ (g:=gN 1) (mt:=ŋ) (me:=ě (Ğ dM (Ċ 0 (Ċ 1 ĝ)))) pt (fun p=>.bl (Hu.hd (Hu.Z0 a b) p)) (fun ρ=>∃s,ρ=[.sh (bQ (Hu.Z0 a b)),s]) (Hu.Z1 S) [.sh (bQ (Hu.Z0 a b)),.no] [] ⟨_,rfl⟩ (by simpa using hlen) (by
   rintro x hx ρ ⟨s,rfl⟩
   exact⟨[.sh (bQ (Hu.Z0 a b)),.sh (pt x)],[.sh (bQ (Hu.Z0 a b)),.sh (pt x)],[.sh (bQ (Hu.Z0 a b)),.sh (pt x)],by simp,by simp,by simp[Z0c hsm],_,rfl⟩)
  rw[this]
  simp
 have c2:=ZQ ((Hu.Z1 S).map (Hu.hd (Hu.Z0 a b)))
 have e1:=Z1v (hS a ha) (hS b hb)
 have e3:((Hu.Z1 S).map (Hu.hd (Hu.Z0 a b))).all id=(Hu.Z1 S).all (Hu.hd (Hu.Z0 a b)):=by simp
 rw[e3] at c2
 generalize ((Hu.Z1 S).map (Hu.hd (Hu.Z0 a b))).map PV.bl=bs at c1 c2
 by_cases h1:a=b
 ·subst h1
  simp[gj,e1,Z0D]
 ·by_cases h2:(Hu.Z1 S).all (Hu.hd (Hu.Z0 a b))=true
  ·rw[h2] at c2
   simp[gj,e1,Z0D,h1,c1,c2,h2,hL,-List.all_eq_true]
  ·rw[Bool.not_eq_true] at h2
   rw[h2] at c2
   simp[gj,e1,Z0D,h1,c1,c2,h2,hL,-List.all_eq_true,-List.all_eq_false]
theorem Z1d{S:List Hu.Pt}(hS:∀p∈S,Sm p)(hl:S.length≤1000){a:Hu.Pt}(ha:a∈S)(s0:P.Slot):∀(xs:List Hu.Pt) (L:List Hu.Ln) (s4 s5:P.Slot),(∀x∈xs,x∈S)→L.length+xs.length<16777216→
 ∃Es Dl,forL (gN 4) gj (xs.map pt) [s0,.ow (L.map bQ),.sh (.lst ((Hu.Z1 S).map pt)),.sh (pt a),s4,s5]=.ok .nx [s0,.ow ((L++xs.filterMap fun b=>if a≠b∧(Hu.Z1 S).all (Hu.hd (Hu.Z0 a b)) then some (Hu.Z0 a b) else none).map bQ),.sh (.lst ((Hu.Z1 S).map pt)),.sh (pt a),Es,Dl]:=by
 intro xs
 induction xs with
 |nil=>intro L s4 s5 _ _;exact⟨s4,s5,by simp[forL]⟩
 |cons b xs ih=>
  intro L s4 s5 hx hL
  rw[List.length_cons] at hL
  have hb:=Z0T hS hl ha (hx b (by simp)) s0 s5 L (by omega)
  obtain⟨Es,Dl,e⟩:=ih (L++(if a≠b∧(Hu.Z1 S).all (Hu.hd (Hu.Z0 a b)) then[Hu.Z0 a b] else[])) (.sh (pt b)) (.sh (bQ (Hu.Z0 a b))) (fun x h=>hx x (List.mem_cons_of_mem _ h)) (by
   rw[List.length_append]
   split
   ·simp;omega
   ·simp;omega)
  refine⟨Es,Dl,?_⟩
  rw[List.map_cons,forL]
  simp only[wO,List.set_cons_succ,List.set_cons_zero,hb,Res.ş]
  rw[e,List.filterMap_cons]
  by_cases hc:a≠b∧(Hu.Z1 S).all (Hu.hd (Hu.Z0 a b))=true
  ·rw[if_pos hc,if_pos hc]
   simp only[List.append_assoc,List.cons_append,List.nil_append]
  ·rw[if_neg hc,if_neg hc]
   simp only[List.append_nil]
theorem Zx{α β:Type}(f:α→Option β)(l:List α):(l.filterMap f).length≤l.length:=List.length_filterMap_le ..
theorem Z1e{S:List Hu.Pt}(hS:∀p∈S,Sm p)(hl:S.length≤1000)(s0:P.Slot):∀(xs:List Hu.Pt) (L:List Hu.Ln) (s3 s4 s5:P.Slot),(∀x∈xs,x∈S)→L.length+xs.length*1000<10000000→
 ∃s3' Es Dl,forL (gN 3) mF (xs.map pt) [s0,.ow (L.map bQ),.sh (.lst ((Hu.Z1 S).map pt)),s3,s4,s5]=.ok .nx [s0,.ow ((L++xs.flatMap fun a=>(Hu.Z1 S).filterMap fun b=>if a≠b∧(Hu.Z1 S).all (Hu.hd (Hu.Z0 a b)) then some (Hu.Z0 a b) else none).map bQ),.sh (.lst ((Hu.Z1 S).map pt)),s3',Es,Dl]:=by
 intro xs
 induction xs with
 |nil=>intro L s3 s4 s5 _ _;exact⟨s3,s4,s5,by simp[forL]⟩
 |cons a xs ih=>
  intro L s3 s4 s5 hx hL
  rw[List.length_cons] at hL
  have ho:=Zv S
  obtain⟨a4,a5,e1⟩:=Z1d hS hl (hx a (by simp)) s0 (Hu.Z1 S) L s4 s5 (fun x h=>Hu.Z9.mp h) (by omega)
  have hf:=Zx (fun b=>if a≠b∧(Hu.Z1 S).all (Hu.hd (Hu.Z0 a b))=true then some (Hu.Z0 a b) else none) (Hu.Z1 S)
  obtain⟨s3',Es,Dl,e2⟩:=ih (L++(Hu.Z1 S).filterMap fun b=>if a≠b∧(Hu.Z1 S).all (Hu.hd (Hu.Z0 a b))=true then some (Hu.Z0 a b) else none) (.sh (pt a)) a4 a5 (fun x h=>hx x (List.mem_cons_of_mem _ h)) (by rw[List.length_append];omega)
  refine⟨s3',Es,Dl,?_⟩
  have hb:mF [s0,.ow (L.map bQ),.sh (.lst ((Hu.Z1 S).map pt)),.sh (pt a),s4,s5]=.ok .nx [s0,.ow ((L++(Hu.Z1 S).filterMap fun b=>if a≠b∧(Hu.Z1 S).all (Hu.hd (Hu.Z0 a b))=true then some (Hu.Z0 a b) else none).map bQ),.sh (.lst ((Hu.Z1 S).map pt)),.sh (pt a),a4,a5]:=by
   unfold mF
   simp only[Ho,pY,List.getElem?_cons_succ,List.getElem?_cons_zero,Res.ş]
   exact e1
  rw[List.map_cons,forL]
  simp only[wO,List.set_cons_succ,List.set_cons_zero,hb,Res.ş]
  rw[e2,List.flatMap_cons,List.append_assoc]
theorem Z1f{S:List Hu.Pt}{sl:P.Slot}(hs:Sl sl (S.map pt))(hS:∀p∈S,Sm p)(hl:S.length≤1000):kZ [sl]=.ret (.ow ((Hu.Zr S).map bQ)):=by
 have h1:=Z1w hs hl
 have ho:=Zv S
 obtain⟨s3,s4,s5,e⟩:=Z1e hS hl sl (Hu.Z1 S) [] .no .no .no (fun x h=>Hu.Z9.mp h) (by simp;omega)
 have he:[]++((Hu.Z1 S).flatMap fun a=>(Hu.Z1 S).filterMap fun b=>if a≠b∧(Hu.Z1 S).all (Hu.hd (Hu.Z0 a b))=true then some (Hu.Z0 a b) else none)=Hu.Zr S:=rfl
 rw[he] at e
 generalize Hu.Zr S=ed at e
 generalize (Hu.Z1 S).map pt=os at e h1
 simp only[List.map_nil] at e
 simp[kZ,qC,List.replicate,hs.lend,h1,e]
theorem Z0U(S:List Hu.Pt)(hl:S.length≤1000):(Hu.Zr S).length≤1000000:=by
 have ho:=Zv S
 have:∀(xs:List Hu.Pt) (f:Hu.Pt→List Hu.Ln),(∀x,(f x).length≤1000)→(xs.flatMap f).length≤xs.length*1000:=by
  intro xs f hf
  induction xs with
  |nil=>simp
  |cons x xs ih=>rw[List.flatMap_cons,List.length_append,List.length_cons];have:=hf x;omega
 refine Nat.le_trans (this (Hu.Z1 S) _ fun x=>Nat.le_trans (Zx _ _) (by omega)) (by omega)
theorem Z1g{S:List Hu.Pt}{sl:P.Slot}(hs:Sl sl (S.map pt))(hS:∀p∈S,Sm p)(h0:S≠[])(hl:S.length≤1000):uN [sl]=.ret (.ow ((Hu.Ze S).map bQ)):=by
 have h1:=Z1D hs h0 hl
 have h2:=Z1f hs hS hl
 have h3:ĭ (.lst ((Hu.box S).map bQ)) (.lst ((Hu.Zr S).map bQ))=some (.ow ((Hu.Ze S).map bQ)):=by
  rw[add_l (by have:=Z0U S hl;simp[Hu.box];omega),←List.map_append]
  rfl
 simp[uN,yu,List.replicate,hs.lend,h1,h2,h3]
theorem Z0V{S:List Hu.Pt}{l:Hu.Ln}(h:l∈Hu.Ze S)(hS:∀p∈S,Sm p):Kd l:=by
 rcases List.mem_append.mp h with h|h
 ·unfold Hu.box at h
  simp only[List.mem_cons,List.not_mem_nil,or_false] at h
  rcases h with e|e|e|e<;>subst e<;>simp only[Kd]<;>omega
 ·obtain⟨a,ha,b,hb,_,_,rfl⟩:=Hu.Zk.mp h
  exact Z0t (hS a ha) (hS b hb)
theorem Z0E(n:Nat):cR 0 n 1=(List.range n).map fun(i:Nat)=>PV.int (i:Int):=by
 unfold cR
 refine List.map_congr_left fun i _=>?_
 simp
theorem ZK{n:Nat}(h:n≤1000):bK [.int (n:Int)]=some ((List.range n).map fun(i:Nat)=>PV.int (i:Int)):=by
 have hs:iR (n:Int)=true:=by unfold iR;simp;omega
 unfold bK
 simp[hs,Z0E]
def PL:Option Hu.Ln→PV
 |some l=>bQ l
 |none=>.non
theorem Z0F{S:List Hu.Pt}{sl:P.Slot}(hs:Sl sl (S.map pt))(hS:∀p∈S,Sm p)(h0:S≠[])(hl:S.length≤1000)(p:Hu.Pt):qD [sl,.sh (pt p)]=.ret (.sh (PL (Hu.Z7 S p))):=by
 have h1:=Z1g hs hS h0 hl
 have e:(Hu.Ze S).findSome? (fun l=>if Hu.hd l p=true then none else some l)=Hu.Z7 S p:=by
  unfold Hu.Z7
  generalize Hu.Ze S=L
  induction L with
  |nil=>rfl
  |cons l L ih=>
   rw[List.findSome?_cons,List.find?_cons]
   cases q:Hu.hd l p with
   |true=>simpa using ih
   |false=>simp
 rcases dg (g:=gN 2) (mb:=sU) bQ (fun l=>if Hu.hd l p=true then none else some l) (fun l=>.sh (bQ l)) (fun ρ=>∃s2,ρ=[sl,.sh (pt p),s2]) (Hu.Ze S) (by
  rintro l hm ρ ⟨s2,rfl⟩
  refine⟨[sl,.sh (pt p),.sh (bQ l)],by simp,?_⟩
  have hh:=Z0c (Z0V hm hS) p
  cases q:Hu.hd l p with
  |true=>
   rw[q] at hh
   exact .inr ⟨[sl,.sh (pt p),.sh (bQ l)],by simp,by simp[sU,hh],_,rfl⟩
  |false=>
   rw[q] at hh
   exact .inl ⟨l,[sl,.sh (pt p),.sh (bQ l)],by simp,by simp[sU,hh]⟩) [sl,.sh (pt p),.no] ⟨_,rfl⟩ with⟨l,ρ',q1,q2⟩|⟨ρ',q1,q2,_⟩
 ·rw[e] at q1
  rw[q1]
  simp[qD,sV,List.replicate,hs.lend,h1,q2,PL]
 ·rw[e] at q1
  rw[q1]
  simp[qD,sV,List.replicate,hs.lend,h1,q2,PL]
def jy(q:Nat×Nat):PV:=.tup [.int q.1,.int q.2]
def pA(q:Nat×Nat×Nat):PV:=.tup [.int q.1,.int q.2.1,.int q.2.2]
theorem Z0W(j:Nat)(hj:j≤1000)(acc:List PV)(s0:P.Slot)(ha:acc.length+j≤16777216):oN [s0,.ow acc,.sh (.int j)]=.ok .nx [s0,.ow (acc++((List.range j).map fun i=>(i,j)).map jy),.sh (.int j)]:=by
 have c1:Ń (gN 1) ŋ (Ŝ (ą (ĺ 1) (ą (ĺ 0) Ė))) ((List.range j).map fun(i:Nat)=>PV.int (i:Int)) [.sh (.int j),.no] []=some (((List.range j).map fun i=>(i,j)).map jy):=by
  have:=Ŀ (g:=gN 1) (mt:=ŋ) (me:=Ŝ (ą (ĺ 1) (ą (ĺ 0) Ė))) (fun(i:Nat)=>PV.int (i:Int)) (fun i=>jy (i,j)) (fun ρ=>∃s,ρ=[.sh (.int j),s]) (List.range j) [.sh (.int j),.no] [] ⟨_,rfl⟩ (by simp;omega) (by
   rintro x hx ρ ⟨s,rfl⟩
   exact⟨[.sh (.int j),.sh (.int x)],[.sh (.int j),.sh (.int x)],[.sh (.int j),.sh (.int x)],by simp,by simp,by simp[jy],_,rfl⟩)
  rw[this,List.map_map]
  rfl
 have hl:acc.length+(((List.range j).map fun i=>(i,j)).map jy).length≤16777216:=by simpa using ha
 generalize ((List.range j).map fun i=>(i,j)).map jy=qs at c1 hl
 simp[oN,ZK hj,c1,hl]
theorem ZR(k:Nat):Hu.Z2 (k+1)=Hu.Z2 k++(List.range k).map fun i=>(i,k):=by
 unfold Hu.Z2
 rw[List.range_succ,List.flatMap_append]
 simp
theorem Zs:∀n,(Hu.Z2 n).length≤n*n
 |0=>by simp[Hu.Z2]
 |n+1=>by
  have:=Zs n
  rw[ZR,List.length_append,List.length_map,List.length_range,Nat.succ_mul,Nat.mul_succ]
  omega
theorem Zz(k:Nat):Hu.Z3 (k+1)=Hu.Z3 k++(Hu.Z2 k).map fun q=>(q.1,q.2,k):=by
 unfold Hu.Z3
 rw[List.range_succ,List.flatMap_append]
 simp
theorem Zw{g:Tg}{mb:M Fl}(nb:∀ρ ρ',mb ρ≠ .ok .bk ρ'):∀(xs ys:List PV) (ρ ρ1:ł),forL g mb xs ρ=.ok .nx ρ1→forL g mb (xs++ys) ρ=forL g mb ys ρ1
 | [],ys,ρ,ρ1,h=>by
   have e:Res.ok Fl.nx ρ=.ok .nx ρ1:=h
   cases e
   rfl
 |x::xs,ys,ρ,ρ1,h=>by
  rw[List.cons_append,forL]
  rw[forL] at h
  cases e:g x ρ with
  |none=>rw[e] at h;cases h
  |some ρ2=>
   rw[e] at h
   dsimp only at h ⊢
   cases e2:mb ρ2 with
   |bad=>rw[e2] at h;cases h
   |exc x ρ3=>rw[e2] at h;cases h
   |ok f ρ3=>
    rw[e2] at h
    cases f with
    |nx=>exact Zw nb xs ys ρ3 ρ1 h
    |ct=>exact Zw nb xs ys ρ3 ρ1 h
    |bk=>exact absurd e2 (nb ρ2 ρ3)
    |rt r=>cases h
theorem Z0f{g:Tg}{mb:M Fl}{p:PV}{ρ ρ1 ρ2:ł}(h1:g p ρ=some ρ1)(h2:mb ρ1=.ok .nx ρ2):forL g mb [p] ρ=.ok .nx ρ2:=by
 rw[forL,h1]
 dsimp only
 rw[h2]
 rfl
theorem Z0X{i:Nat}{mo:M RV}{ρ ρ':ł}:ql i mo ρ≠ .ok .bk ρ':=by
 unfold ql
 intro h
 split at h
 ·cases e:mo ρ with
  |bad=>rw[e] at h;cases h
  |exc x ρ1=>rw[e] at h;cases h
  |ok r ρ1=>
   rw[e] at h
   simp only[Res.ş] at h
   split at h
   ·split at h<;>cases h
   ·cases h
 ·cases h
theorem Z0g(n:Nat)(hn:n≤100):oO [.sh (.int n)]=.ret (.ow ((Hu.Z2 n).map jy)):=by
 have key:∀k,k≤n→∃s2,forL (gN 2) oN ((List.range k).map fun(i:Nat)=>PV.int (i:Int)) [.sh (.int n),.ow [],.no]=.ok .nx [.sh (.int n),.ow ((Hu.Z2 k).map jy),s2]:=by
  intro k
  induction k with
  |zero=>intro _;exact⟨.no,rfl⟩
  |succ k ih=>
   intro hk
   obtain⟨s2,e⟩:=ih (by omega)
   refine⟨.sh (.int k),?_⟩
   rw[List.range_succ,List.map_append,Zw (mb:=oN) (fun _ _=>Z0X) _ _ _ _ e,ZR,List.map_append]
   have hlen:=Zs k
   have hm:k*k≤100*100:=Nat.mul_le_mul (by omega) (by omega)
   exact Z0f rfl (Z0W k (by omega) ((Hu.Z2 k).map jy) (.sh (.int n)) (by rw[List.length_map];omega))
 obtain⟨s2,e⟩:=key n (Nat.le_refl n)
 have hr:=ZK (show n≤1000 by omega)
 simp[oO,yw,List.replicate,hr,e]
theorem Z0n(k:Nat)(hk:k≤100)(acc:List PV)(s0:P.Slot)(ha:acc.length≤10000000):oR [s0,.ow acc,.sh (.int k)]=.ok .nx [s0,.ow (acc++((Hu.Z2 k).map fun q=>(q.1,q.2,k)).map pA),.sh (.int k)]:=by
 have hlen:=Zs k
 have hm:k*k≤100*100:=Nat.mul_le_mul (by omega) (by omega)
 have c1:Ń (gN 1) ŋ (Ŝ (ą (Ą đ (Ā 1) (mC (.int 0))) (ą (Ą đ (Ā 1) (mC (.int 1))) (ą (ĺ 0) Ė)))) ((Hu.Z2 k).map jy) [.sh (.int k),.no] []=some (((Hu.Z2 k).map fun q=>(q.1,q.2,k)).map pA):=by
  have:=Ŀ (g:=gN 1) (mt:=ŋ) (me:=Ŝ (ą (Ą đ (Ā 1) (mC (.int 0))) (ą (Ą đ (Ā 1) (mC (.int 1))) (ą (ĺ 0) Ė)))) jy (fun q=>pA (q.1,q.2,k)) (fun ρ=>∃s,ρ=[.sh (.int k),s]) (Hu.Z2 k) [.sh (.int k),.no] [] ⟨_,rfl⟩ (by simp;omega) (by
   rintro x hx ρ ⟨s,rfl⟩
   exact⟨[.sh (.int k),.sh (jy x)],[.sh (.int k),.sh (jy x)],[.sh (.int k),.sh (jy x)],by simp,by simp,by simp[jy,pA],_,rfl⟩)
  rw[this,List.map_map]
  rfl
 have hl:acc.length+(((Hu.Z2 k).map fun q=>(q.1,q.2,k)).map pA).length≤16777216:=by simp;omega
 have hp:=Z0g k hk
 generalize ((Hu.Z2 k).map fun q=>(q.1,q.2,k)).map pA=qs at c1 hl
 simp[oR,hp,c1,hl]
theorem ZI:∀n,n≤100→(Hu.Z3 n).length≤n*10000
 |0,_=>by simp[Hu.Z3]
 |n+1,h=>by
  have:=ZI n (by omega)
  have h2:=Zs n
  have hm:n*n≤100*100:=Nat.mul_le_mul (by omega) (by omega)
  rw[Zz,List.length_append,List.length_map]
  omega
theorem Z0G(n:Nat)(hn:n≤100):uO [.sh (.int n)]=.ret (.ow ((Hu.Z3 n).map pA)):=by
 have key:∀k,k≤n→∃s2,forL (gN 2) oR ((List.range k).map fun(i:Nat)=>PV.int (i:Int)) [.sh (.int n),.ow [],.no]=.ok .nx [.sh (.int n),.ow ((Hu.Z3 k).map pA),s2]:=by
  intro k
  induction k with
  |zero=>intro _;exact⟨.no,rfl⟩
  |succ k ih=>
   intro hk
   obtain⟨s2,e⟩:=ih (by omega)
   refine⟨.sh (.int k),?_⟩
   rw[List.range_succ,List.map_append,Zw (mb:=oR) (fun _ _=>Z0X) _ _ _ _ e,Zz,List.map_append]
   have hlen:=ZI k (by omega)
   exact Z0f rfl (Z0n k (by omega) ((Hu.Z3 k).map pA) (.sh (.int n)) (by rw[List.length_map];omega))
 obtain⟨s2,e⟩:=key n (Nat.le_refl n)
 have hr:=ZK (show n≤1000 by omega)
 simp[uO,yx,List.replicate,hr,e]
def W(x:Int):Prop:=-100000000000000000000000000000000000000000000000000<x∧x<100000000000000000000000000000000000000000000000000
theorem W.bits{x:Int}(h:W x):bits x≤200:=iu (n:=200) (by have:=h.1;omega) (by have:=h.2;omega)
theorem dif{a b:Int}(h1: -100000000000000000≤a)(h2:a≤100000000000000000)(h3: -100000000000000000≤b)(h4:b≤100000000000000000): -200000000000000000≤a-b∧a-b≤200000000000000000:=by omega
theorem ZA{a b c d:Int}(h1: -c≤a)(h2:a≤c)(h3: -d≤b)(h4:b≤d)(hc:0≤c)(hd:0≤d): -(c*d)≤a*b∧a*b≤c*d:=by
 have e1:(a*b).natAbs=a.natAbs*b.natAbs:=Int.natAbs_mul a b
 have e2:a.natAbs*b.natAbs≤c.natAbs*d.natAbs:=Nat.mul_le_mul (by omega) (by omega)
 have e3:(c*d).natAbs=c.natAbs*d.natAbs:=Int.natAbs_mul c d
 have e4:0≤c*d:=Int.mul_nonneg hc hd
 omega
theorem ZB{a b c:Hu.Pt}(ha:Sm a)(hb:Sm b)(hc:Sm c):dN [.sh (pt a),.sh (pt b),.sh (pt c)]=.ret (.sh (.int (Hu.tn a b c))):=by
 obtain⟨a1,a2,a3,a4⟩:=ha
 obtain⟨b1,b2,b3,b4⟩:=hb
 obtain⟨c1,c2,c3,c4⟩:=hc
 have m1:Ľ (b.1-a.1) (c.2-a.2)=true:=ū (by omega) (by omega)
 have m2:Ľ (b.2-a.2) (c.1-a.1)=true:=ū (by omega) (by omega)
 simp[dN,qF,List.replicate,pt,Hu.tn,m1,m2]
theorem Z1h{a b c:Hu.Pt}(ha:Sm a)(hb:Sm b)(hc:Sm c): -80000000000000000000000000000000000≤Hu.tn a b c∧Hu.tn a b c≤80000000000000000000000000000000000:=by
 obtain⟨a1,a2,a3,a4⟩:=ha
 obtain⟨b1,b2,b3,b4⟩:=hb
 obtain⟨c1,c2,c3,c4⟩:=hc
 obtain⟨x1,x2⟩:=dif b1 b2 a1 a2
 obtain⟨y1,y2⟩:=dif c3 c4 a3 a4
 obtain⟨z1,z2⟩:=dif b3 b4 a3 a4
 obtain⟨w1,w2⟩:=dif c1 c2 a1 a2
 obtain⟨p1,p2⟩:=ZA x1 x2 y1 y2 (by decide) (by decide)
 obtain⟨q1,q2⟩:=ZA z1 z2 w1 w2 (by decide) (by decide)
 unfold Hu.tn
 omega
theorem Z1i{a b c p:Hu.Pt}(ha:Sm a)(hb:Sm b)(hc:Sm c)(hp:Sm p):uQ [.sh (.lst [pt a,pt b,pt c]),.sh (pt p)]=.ret (.ow ((Hu.gP a b c p).map .int)):=by
 simp[uQ,yD,List.replicate,ZB hp hb hc,ZB ha hp hc,ZB ha hb hp,Hu.gP]
theorem Z1E{a b p:Hu.Pt}(ha:Sm a)(hb:Sm b)(hp:Sm p):uR [.sh (.lst [pt a,pt b]),.sh (pt p)]=.ret (.ow ((Hu.dh a b p).map .int)):=by
 obtain⟨a1,a2,a3,a4⟩:=ha
 obtain⟨b1,b2,b3,b4⟩:=hb
 obtain⟨c1,c2,c3,c4⟩:=hp
 have m1:∀x,Ľ (b.1-a.1) x=true:=fun x=>ū (by omega) (by omega)
 have m2:∀x,Ľ (b.2-a.2) x=true:=fun x=>ū (by omega) (by omega)
 simp[uR,yE,List.replicate,pt,Hu.dh,m1,m2]
theorem Z1Q{a b c p:Hu.Pt}(ha:Sm a)(hb:Sm b)(hc:Sm c)(hp:Sm p):∀s∈Hu.gP a b c p,-400000000000000000000000000000000000≤s∧s≤400000000000000000000000000000000000:=by
 have h1:=Z1h hp hb hc
 have h2:=Z1h ha hp hc
 have h3:=Z1h ha hb hp
 intro s hs
 simp only[Hu.gP,List.mem_cons,List.not_mem_nil,or_false] at hs
 rcases hs with e|e|e<;>omega
theorem Z1R{a b p:Hu.Pt}(ha:Sm a)(hb:Sm b)(hp:Sm p):∀s∈Hu.dh a b p,-400000000000000000000000000000000000≤s∧s≤400000000000000000000000000000000000:=by
 obtain⟨a1,a2,a3,a4⟩:=ha
 obtain⟨b1,b2,b3,b4⟩:=hb
 obtain⟨c1,c2,c3,c4⟩:=hp
 obtain⟨x1,x2⟩:=dif b1 b2 a1 a2
 obtain⟨z1,z2⟩:=dif b3 b4 a3 a4
 obtain⟨y1,y2⟩:=dif c1 c2 a1 a2
 obtain⟨w1,w2⟩:=dif c3 c4 a3 a4
 obtain⟨p1,p2⟩:=ZA x1 x2 y1 y2 (by decide) (by decide)
 obtain⟨q1,q2⟩:=ZA z1 z2 w1 w2 (by decide) (by decide)
 obtain⟨r1,r2⟩:=ZA x1 x2 x1 x2 (by decide) (by decide)
 obtain⟨t1,t2⟩:=ZA z1 z2 z1 z2 (by decide) (by decide)
 intro s hs
 simp only[Hu.dh,List.mem_cons,List.not_mem_nil,or_false] at hs
 rcases hs with e|e<;>omega
def Jm(w:List Int):Prop:=w.length≤3∧∀s∈w,-400000000000000000000000000000000000≤s∧s≤400000000000000000000000000000000000
theorem Jm.sum{w:List Int}(h:Jm w): -2000000000000000000000000000000000000≤w.sum∧w.sum≤2000000000000000000000000000000000000:=by
 obtain⟨h1,h2⟩:=h
 match w,h1,h2 with
 | [],_,_=>simp
 | [a],_,h2=>have:=h2 a (by simp);simp;omega
 | [a,b],_,h2=>have:=h2 a (by simp);have:=h2 b (by simp);simp;omega
 | [a,b,c],_,h2=>have:=h2 a (by simp);have:=h2 b (by simp);have:=h2 c (by simp);simp;omega
theorem Zi{x:Int}(h1: -2000000000000000000000000000000000000≤x)(h2:x≤2000000000000000000000000000000000000):bits x≤200:=iu (n:=200) (by omega) (by omega)
theorem Z1n{w:List Int}(h:Jm w){sl:P.Slot}(hs:Sl sl (w.map .int)):fC [sl]=.ret (.sh (.bl (Hu.Z8 w))):=by
 obtain⟨s1,s2⟩:=h.sum
 have hb:=Zi s1 s2
 have c1:Ń (gN 1) ŋ (Ą wG (Ą Ĕ (Ā 1) (Ā 0)) (mC (.int 0))) (w.map .int) [.sh (.int w.sum),.no] []=some ((w.map fun s=>decide (0≤s*w.sum)).map .bl):=by
  have:=Ŀ (g:=gN 1) (mt:=ŋ) (me:=Ą wG (Ą Ĕ (Ā 1) (Ā 0)) (mC (.int 0))) PV.int (fun s=>.bl (decide (0≤s*w.sum))) (fun ρ=>∃s,ρ=[.sh (.int w.sum),s]) w [.sh (.int w.sum),.no] [] ⟨_,rfl⟩ (by have:=h.1;simp;omega) (by
   rintro x hx ρ ⟨s,rfl⟩
   have hx':=h.2 x hx
   have hm:Ľ x w.sum=true:=wU (Nat.le_trans (Zi (by omega) (by omega)) (by decide)) (Nat.le_trans hb (by decide))
   exact⟨[.sh (.int w.sum),.sh (.int x)],[.sh (.int w.sum),.sh (.int x)],[.sh (.int w.sum),.sh (.int x)],by simp,by simp,by simp[hm],_,rfl⟩)
  rw[this,List.map_map]
  rfl
 have c2:=ZQ (w.map fun s=>decide (0≤s*w.sum))
 have c3:(w.map fun s=>decide (0≤s*w.sum)).all id=w.all fun s=>decide (0≤s*w.sum):=by simp
 rw[c3] at c2
 unfold Hu.Z8
 have hsum:dY [.lst (w.map .int)]=some (.int w.sum):=by simp
 unfold Sl at hs
 generalize (w.map fun s=>decide (0≤s*w.sum)).map PV.bl=bs at c1 c2
 generalize (w.all fun s=>decide (0≤s*w.sum))=q at c2
 generalize w.map PV.int=ws at c1 hsum hs
 generalize w.sum=S at c1 hsum
 by_cases h0:S=0
 ·subst h0
  rcases hs with rfl|rfl<;>simp[fC,mJ,List.replicate,-ś,hsum]
 ·rcases hs with rfl|rfl<;>simp[fC,mJ,List.replicate,-ś,hsum,c1,c2,h0]
theorem Z1o(x y:Int):uP [.sh (.int x),.sh (.int y)]=.ret (.sh (.int (My.gd x y))):=by
 obtain⟨⟨u,v,r⟩,e1,e2,e3⟩:=iW (mc:=(bh (Ą ŵ (Ā 1) (mC (.int 0))))) (mb:=(Ę (Į 2 (ř (Ą Ņ (Ā 0) (Ā 1)))) (Ę (Į 0 (ř (ĺ 1))) (Į 1 (ř (ĺ 2))))))
  (fun b:Int×Int×P.Slot=>[.sh (.int b.1),.sh (.int b.2.1),b.2.2]) (fun b=>My.gd b.1 b.2.1=My.gd x y) (fun b=>b.2.1.natAbs) (b:=(x,y,.no)) (by
    rintro ⟨u,v,r⟩ e
    by_cases hv:v=0
    ·left;simp[hv]
    ·right;exact⟨by simp[hv],(v,u.fmod v,.sh (.int (u.fmod v))),by simp[hv],(My.Z0o u v).trans e,My.Z0p u hv⟩) rfl
 have hv:v=0:=by simpa using e3
 subst hv
 have e1':DN [.sh (.int x),.sh (.int y),.no]=_:=e1
 simp[uP,yC,List.replicate,e1',←e2,My.Z0q]
theorem Z1x(t:Int){b:Int}{n:Nat}(h:b≠0)(hb:bits b≤n):bits (My.gd t b)≤n:=by
 refine intBits_le_of_natAbs ?_ hb
 have h1:=My.Z1K t h
 have h2:=My.Z0J t b
 omega
def rt(t b:Int):Int×Int:=(t.fdiv (My.dv t b),b.fdiv (My.dv t b))
theorem Z0h{t b:Int}(h:b≠0)(hz:bits b≤8000):cV [.sh (.int t),.sh (.int b)]=.ret (.sh (pt (rt t b))):=by
 have g1:=Z1x t h hz
 have g0:=My.Z06 t h
 by_cases hn:b<0
 ·have e:My.dv t b= - My.gd t b:=if_pos hn
  have c:∀i,cu i (- My.gd t b)=true:=fun i=>rZ (by omega) (intBits_neg_le g1)
  simp[cV,mG,List.replicate,h,Z1o,hn,c,e,pt,rt]
 ·have e:My.dv t b=My.gd t b:=if_neg hn
  have c:∀i,cu i (My.gd t b)=true:=fun i=>rZ (by omega) g1
  simp[cV,mG,List.replicate,h,Z1o,hn,c,e,pt,rt]
theorem ZC{w:List Int}{q:List Nat}{n:Nat}(hw:Jm w)(h0:w.sum≠0)(hl:w.length=q.length)(hq:∀i∈q,i<n)(hn:n≤100){s0 s1:P.Slot}(hs0:Sl s0 (w.map .int))(hs1:s1=.sh (.lst (q.map fun(i:Nat)=>.int (i:Int)))∨s1=.sh (.tup (q.map fun(i:Nat)=>.int (i:Int)))) :
 bO [s0,s1,.sh (.int n)]=.ret (.ow ((Fr.lay (List.replicate n 0) (w.zip q)).map fun s=>pt (rt s w.sum))):=by
 obtain⟨b1,b2⟩:=hw.sum
 have hb:=Nat.le_trans (Zi b1 b2) (show 200≤8000 by decide)
 have hsum:dY [.lst (w.map .int)]=some (.int w.sum):=by simp
 have c1:Ń (gN 1) ŋ (ě (Ğ cV (Ĩ (mC (.int 0)) (Ċ 0 ĝ)))) ((List.range n).map fun(i:Nat)=>PV.int (i:Int)) [.sh (.int w.sum),.no] []=some ((List.replicate n (0:Int)).map fun s=>pt (rt s w.sum)):=by
  have:=Ŀ (g:=gN 1) (mt:=ŋ) (me:=ě (Ğ cV (Ĩ (mC (.int 0)) (Ċ 0 ĝ)))) (fun(i:Nat)=>PV.int (i:Int)) (fun _=>pt (rt 0 w.sum)) (fun ρ=>∃s,ρ=[.sh (.int w.sum),s]) (List.range n) [.sh (.int w.sum),.no] [] ⟨_,rfl⟩ (by simp;omega) (by
   rintro x hx ρ ⟨s,rfl⟩
   exact⟨[.sh (.int w.sum),.sh (.int x)],[.sh (.int w.sum),.sh (.int x)],[.sh (.int w.sum),.sh (.int x)],by simp,by simp,by simp[Z0h h0 hb],_,rfl⟩)
  rw[this]
  simp[List.map_const']
 have hz:fB (w.map .int) (q.map fun(i:Nat)=>PV.int (i:Int))=(w.zip q).map fun a=>.tup [.int a.1,.int (a.2:Int)]:=by
  clear hw h0 hl hq hs0 hs1 hsum c1 hb b1 b2
  induction w generalizing q with
  |nil=>simp[fB]
  |cons x w ih=>
   cases q with
   |nil=>simp[fB]
   |cons i q=>simp[fB,ih]
 have loop:∀Ke s1',∃ρ',forL (gT 2 (ı (gN 5) (ı (gN 6) ſ))) mH ((w.zip q).map fun a=>.tup [.int a.1,.int (a.2:Int)]) [Ke,s1',.sh (.int n),.sh (.int w.sum),.ow ((List.replicate n (0:Int)).map fun s=>pt (rt s w.sum)),.no,.no]=.ok .nx ρ'∧ρ'[4]?=some (.ow ((Fr.lay (List.replicate n 0) (w.zip q)).map fun s=>pt (rt s w.sum))):=by
  intro Ke s1'
  obtain⟨ρ',e,s5,s6,hρ,_⟩:=kj (g:=gT 2 (ı (gN 5) (ı (gN 6) ſ))) (mb:=mH) (fun a:Int×Nat=>.tup [.int a.1,.int (a.2:Int)]) (fun acc a=>acc.set a.2 a.1)
   (fun acc ρ=>∃s5 s6,ρ=[Ke,s1',.sh (.int n),.sh (.int w.sum),.ow (acc.map fun s=>pt (rt s w.sum)),s5,s6]∧acc.length=n) (w.zip q) (by
     rintro ⟨x,i⟩ hx acc ρ ⟨s5,s6,rfl,hlen⟩
     have hi:i<n:=hq i (List.of_mem_zip hx).2
     have hix:o_ acc.length (i:Int)=some i:=by
      unfold o_
      rw[if_pos (by omega),if_pos (by omega)]
      simp
     refine⟨[Ke,s1',.sh (.int n),.sh (.int w.sum),.ow (acc.map fun s=>pt (rt s w.sum)),.sh (.int x),.sh (.int i)],[Ke,s1',.sh (.int n),.sh (.int w.sum),.ow ((acc.set i x).map fun s=>pt (rt s w.sum)),.sh (.int x),.sh (.int i)],by simp,?_,_,_,rfl,by simpa using hlen⟩
     simp[mH,Z0h h0 hb,hix,List.map_set]) (List.replicate n 0) [Ke,s1',.sh (.int n),.sh (.int w.sum),.ow ((List.replicate n (0:Int)).map fun s=>pt (rt s w.sum)),.no,.no] ⟨_,_,rfl,by simp⟩
  refine⟨ρ',e,?_⟩
  subst hρ
  rfl
 have hr:=ZK (show n≤1000 by omega)
 generalize (List.replicate n (0:Int)).map (fun s=>pt (rt s w.sum))=zs at c1 loop
 generalize (Fr.lay (List.replicate n 0) (w.zip q)).map (fun s=>pt (rt s w.sum))=rs at loop
 generalize ((w.zip q).map fun a=>PV.tup [.int a.1,.int (a.2:Int)])=ls at hz loop
 generalize w.map PV.int=ws at hs0 hsum hz
 generalize w.sum=S at hsum c1 loop
 generalize (q.map fun(i:Nat)=>PV.int (i:Int))=qs at hz hs1
 rcases hs0 with rfl|rfl<;>rcases hs1 with rfl|rfl
 ·obtain⟨ρ',e,e4⟩:=loop (.sh (.lst ws)) (.sh (.lst qs))
  simp[bO,gk,List.replicate,-ś,hsum,hr,c1,hz,uI,e,e4]
 ·obtain⟨ρ',e,e4⟩:=loop (.sh (.lst ws)) (.sh (.tup qs))
  simp[bO,gk,List.replicate,-ś,hsum,hr,c1,hz,uI,e,e4]
 ·obtain⟨ρ',e,e4⟩:=loop (.bw ws) (.sh (.lst qs))
  simp[bO,gk,List.replicate,-ś,hsum,hr,c1,hz,uI,e,e4]
 ·obtain⟨ρ',e,e4⟩:=loop (.bw ws) (.sh (.tup qs))
  simp[bO,gk,List.replicate,-ś,hsum,hr,c1,hz,uI,e,e4]
def uT(S:List Hu.Pt)(r:List Int×List Nat):List PV:=(Fr.lay (List.replicate S.length 0) (r.1.zip r.2)).map fun s=>pt (rt s r.1.sum)
theorem bY{S:List Hu.Pt}{i:Nat}(h:i<S.length):(S.map pt)[i]?=some (pt (Hu.at_ S i)):=by
 unfold Hu.at_
 rw[List.getElem?_map,List.getD_eq_getElem?_getD,List.getElem?_eq_getElem h]
 rfl
theorem Z1S{S:List Hu.Pt}{sl:P.Slot}(hs:Sl sl (S.map pt)){i j k:Nat}(hi:i<S.length)(hj:j<S.length)(hk:k<S.length)(s3:P.Slot):Ń (gN 1) ŋ (Ą đ (Ā 0) (Ā 1)) [.int (i:Int),.int (j:Int),.int (k:Int)] [sl,s3] []=some [pt (Hu.at_ S i),pt (Hu.at_ S j),pt (Hu.at_ S k)]:=by
 rcases hs with rfl|rfl<;>simp[Ń,bY hi,bY hj,bY hk,-List.getElem?_map]
theorem Z1T{S:List Hu.Pt}{sl:P.Slot}(hs:Sl sl (S.map pt)){i j:Nat}(hi:i<S.length)(hj:j<S.length)(s3:P.Slot):Ń (gN 1) ŋ (Ą đ (Ā 0) (Ā 1)) [.int (i:Int),.int (j:Int)] [sl,s3] []=some [pt (Hu.at_ S i),pt (Hu.at_ S j)]:=by
 rcases hs with rfl|rfl<;>simp[Ń,bY hi,bY hj,-List.getElem?_map]
theorem Sl.cap{s:P.Slot}{ps:List PV}(h:Sl s ps):nD s=s:=by rcases h with rfl|rfl<;>rfl
theorem Z0Y{a b c p:Hu.Pt}(ha:Sm a)(hb:Sm b)(hc:Sm c)(hp:Sm p):Jm (Hu.gP a b c p):=⟨by simp[Hu.gP],Z1Q ha hb hc hp⟩
theorem Z0Z{a b p:Hu.Pt}(ha:Sm a)(hb:Sm b)(hp:Sm p):Jm (Hu.dh a b p):=⟨by simp[Hu.dh],Z1R ha hb hp⟩
theorem Z0H{S:List Hu.Pt}{sl:P.Slot}(hs:Sl sl (S.map pt))(hS:∀p∈S,Sm p)(h0:S≠[])(hl:S.length≤100){p:Hu.Pt}(hp:Sm p):gH [sl,.sh (pt p)]=.ret (.ow (uT S (Hu.Z4 S p))):=by
 have hat:∀i,i<S.length→Sm (Hu.at_ S i):=fun i h=>hS _ (Hu.Zm h)
 have ht:=Z0G S.length hl
 have hpr:=Z0g S.length hl
 have hlen:aB [.lst (S.map pt)]=some (.int S.length):=by simp
 have F3:=dg (g:=gN 3) (mb:=mL) pA (fun q=>if Hu.Z8 (Hu.gP (Hu.at_ S q.1) (Hu.at_ S q.2.1) (Hu.at_ S q.2.2) p)=true then some (Hu.gP (Hu.at_ S q.1) (Hu.at_ S q.2.1) (Hu.at_ S q.2.2) p,[q.1,q.2.1,q.2.2]) else none) (fun r=>.ow (uT S r)) (fun ρ=>∃s3 s4,ρ=[sl,.sh (pt p),.sh (.int S.length),s3,s4]) (Hu.Z3 S.length) (by
  rintro ⟨i,j,k⟩ hm ρ ⟨s3,s4,rfl⟩
  obtain⟨h1,h2,h3⟩:=Hu.Z5.mp hm
  have hi:i<S.length:=by omega
  have hj:j<S.length:=by omega
  have hb:=Z0Y (hat i hi) (hat j hj) (hat k h3) hp
  have e1:=Z1i (hat i hi) (hat j hj) (hat k h3) hp
  have e2:=Z1n hb (sl:=.bw ((Hu.gP (Hu.at_ S i) (Hu.at_ S j) (Hu.at_ S k) p).map .int)) (.inr rfl)
  have e0:=Z1S hs hi hj h3 .no
  refine⟨[sl,.sh (pt p),.sh (.int S.length),.sh (pA (i,j,k)),s4],rfl,?_⟩
  cases q:Hu.Z8 (Hu.gP (Hu.at_ S i) (Hu.at_ S j) (Hu.at_ S k) p) with
  |true=>
   left
   have hg:=Hu.Zg.mp q
   have e3:=ZC (q:=[i,j,k]) (n:=S.length) hb hg.1 rfl (by simp;omega) hl (s0:=.bw ((Hu.gP (Hu.at_ S i) (Hu.at_ S j) (Hu.at_ S k) p).map .int)) (s1:=.sh (.tup [.int i,.int j,.int k])) (.inr rfl) (.inr rfl)
   rw[q] at e2
   refine⟨_,[sl,.sh (pt p),.sh (.int S.length),.sh (pA (i,j,k)),.ow ((Hu.gP (Hu.at_ S i) (Hu.at_ S j) (Hu.at_ S k) p).map .int)],rfl,?_⟩
   generalize Hu.gP (Hu.at_ S i) (Hu.at_ S j) (Hu.at_ S k) p=w at *
   generalize hws:w.map PV.int=ws at *
   simp[mL,pA,hs.cap,e0,e1,e2,e3,uT]
  |false=>
   right
   rw[q] at e2
   refine⟨[sl,.sh (pt p),.sh (.int S.length),.sh (pA (i,j,k)),.ow ((Hu.gP (Hu.at_ S i) (Hu.at_ S j) (Hu.at_ S k) p).map .int)],rfl,?_,_,_,rfl⟩
   generalize Hu.gP (Hu.at_ S i) (Hu.at_ S j) (Hu.at_ S k) p=w at *
   generalize hws:w.map PV.int=ws at *
   simp[mL,pA,hs.cap,e0,e1,e2])
 have F2:=dg (g:=gN 3) (mb:=mK) jy (fun q=>if Hu.Z8 (Hu.dh (Hu.at_ S q.1) (Hu.at_ S q.2) p)=true then some (Hu.dh (Hu.at_ S q.1) (Hu.at_ S q.2) p,[q.1,q.2]) else none) (fun r=>.ow (uT S r)) (fun ρ=>∃s3 s4,ρ=[sl,.sh (pt p),.sh (.int S.length),s3,s4]) (Hu.Z2 S.length) (by
  rintro ⟨i,j⟩ hm ρ ⟨s3,s4,rfl⟩
  obtain⟨h1,h2⟩:=Hu.Zh.mp hm
  have hi:i<S.length:=by omega
  have hb:=Z0Z (hat i hi) (hat j h2) hp
  have e1:=Z1E (hat i hi) (hat j h2) hp
  have e2:=Z1n hb (sl:=.bw ((Hu.dh (Hu.at_ S i) (Hu.at_ S j) p).map .int)) (.inr rfl)
  have e0:=Z1T hs hi h2 .no
  refine⟨[sl,.sh (pt p),.sh (.int S.length),.sh (jy (i,j)),s4],rfl,?_⟩
  cases q:Hu.Z8 (Hu.dh (Hu.at_ S i) (Hu.at_ S j) p) with
  |true=>
   left
   have hg:=Hu.Zg.mp q
   have e3:=ZC (q:=[i,j]) (n:=S.length) hb hg.1 rfl (by simp;omega) hl (s0:=.bw ((Hu.dh (Hu.at_ S i) (Hu.at_ S j) p).map .int)) (s1:=.sh (.tup [.int i,.int j])) (.inr rfl) (.inr rfl)
   rw[q] at e2
   refine⟨_,[sl,.sh (pt p),.sh (.int S.length),.sh (jy (i,j)),.ow ((Hu.dh (Hu.at_ S i) (Hu.at_ S j) p).map .int)],rfl,?_⟩
   generalize Hu.dh (Hu.at_ S i) (Hu.at_ S j) p=w at *
   generalize hws:w.map PV.int=ws at *
   simp[mK,jy,hs.cap,e0,e1,e2,e3,uT]
  |false=>
   right
   rw[q] at e2
   refine⟨[sl,.sh (pt p),.sh (.int S.length),.sh (jy (i,j)),.ow ((Hu.dh (Hu.at_ S i) (Hu.at_ S j) p).map .int)],rfl,?_,_,_,rfl⟩
   generalize Hu.dh (Hu.at_ S i) (Hu.at_ S j) p=w at *
   generalize hws:w.map PV.int=ws at *
   simp[mK,jy,hs.cap,e0,e1,e2])
 have e3:(Hu.Z3 S.length).findSome? (fun q=>if Hu.Z8 (Hu.gP (Hu.at_ S q.1) (Hu.at_ S q.2.1) (Hu.at_ S q.2.2) p)=true then some (Hu.gP (Hu.at_ S q.1) (Hu.at_ S q.2.1) (Hu.at_ S q.2.2) p,[q.1,q.2.1,q.2.2]) else none)=Hu.Oi S p:=rfl
 have e2:(Hu.Z2 S.length).findSome? (fun q=>if Hu.Z8 (Hu.dh (Hu.at_ S q.1) (Hu.at_ S q.2) p)=true then some (Hu.dh (Hu.at_ S q.1) (Hu.at_ S q.2) p,[q.1,q.2]) else none)=Hu.Vs S p:=rfl
 rw[e3] at F3
 rw[e2] at F2
 have e1:=ZC (w:=[1]) (q:=[0]) (n:=S.length) ⟨by simp,by simp⟩ (by simp) rfl (by simpa using List.length_pos_iff.mpr h0) hl (s0:=.sh (.lst [.int 1])) (s1:=.sh (.lst [.int 0])) (.inl rfl) (.inl rfl)
 have hw1:(Fr.lay (List.replicate S.length 0) ([1].zip [0])).map (fun s=>pt (rt s [1].sum))=uT S ([1],[0]):=rfl
 rw[hw1] at e1
 generalize hn:(S.length:Int)=N at *
 generalize (Hu.Z3 S.length).map pA=ts at *
 generalize (Hu.Z2 S.length).map jy=prs at *
 unfold Hu.Z4
 rcases F3 [sl,.sh (pt p),.sh (.int N),.no,.no] ⟨_,_,rfl⟩ with⟨r,ρ',q1,q2⟩|⟨ρ',q1,q2,s3,s4,hρ⟩
 ·rw[q1]
  rcases hs with rfl|rfl<;>simp[gH,jj,List.replicate,-Ŷ,hlen,ht,q2]
 ·subst hρ
  rw[q1]
  rcases F2 [sl,.sh (pt p),.sh (.int N),s3,s4] ⟨_,_,rfl⟩ with⟨r,ρ',q3,q4⟩|⟨ρ',q3,q4,s3',Es,hρ⟩
  ·rw[q3]
   rcases hs with rfl|rfl<;>simp[gH,jj,List.replicate,-Ŷ,hlen,ht,hpr,q2,q4]
  ·subst hρ
   rw[q3]
   rcases hs with rfl|rfl<;>simp[gH,jj,List.replicate,-Ŷ,hlen,ht,hpr,q2,q4,e1]
def Vt(S:List Hu.Pt)(p:Hu.Pt):PV:=match Hu.Z7 S p with
 |some l=>.tup [.str "out",bQ l]
 |none=>.tup [.str "in",.lst (uT S (Hu.Z4 S p))]
def ZH(S:List Hu.Pt)(p:Hu.Pt):RV:=match Hu.Z7 S p with
 |some l=>.sh (.tup [.str "out",bQ l])
 |none=>.ot [.str "in"] (uT S (Hu.Z4 S p))
theorem Z10(S:List Hu.Pt)(p:Hu.Pt):(ZH S p).val=Vt S p:=by
 unfold ZH Vt
 cases Hu.Z7 S p<;>rfl
theorem Z0i{S:List Hu.Pt}{sl:P.Slot}(hs:Sl sl (S.map pt))(hS:∀p∈S,Sm p)(h0:S≠[])(hl:S.length≤100){p:Hu.Pt}(hp:Sm p):fG [sl,.sh (pt p)]=.ret (ZH S p):=by
 have h1:=Z0F hs hS h0 (by omega) p
 have h2:=Z0H hs hS h0 hl hp
 unfold ZH
 cases e:Hu.Z7 S p with
 |some l=>
  rw[e] at h1
  simp[fG,mO,List.replicate,hs.lend,h1,PL,bQ,Hh]
 |none=>
  rw[e] at h1
  simp[fG,mO,List.replicate,hs.lend,h1,PL,h2,Hh]
def Hul(S:List Hu.Pt)(p:Hu.Pt):Prop:=∀l m n:Int,(∀s∈S,l*s.1+m*s.2≤n)→l*p.1+m*p.2≤n
theorem Z0u(S:List Hu.Pt)(l m n W:Int):∀(z:List (Int×Nat)),(∀a∈z,0≤a.1*W∧l*(Hu.at_ S a.2).1+m*(Hu.at_ S a.2).2≤n)→W*(l*(z.map fun a=>a.1*(Hu.at_ S a.2).1).sum+m*(z.map fun a=>a.1*(Hu.at_ S a.2).2).sum)≤W*(z.map (·.1)).sum*n
 | [],_=>by simp
 |a::z,h=>by
  have ih:=Z0u S l m n W z fun b hb=>h b (List.mem_cons_of_mem _ hb)
  obtain⟨h1,h2⟩:=h a (by simp)
  rw[List.map_cons,List.sum_cons,List.map_cons,List.sum_cons,List.map_cons,List.sum_cons]
  have:=Int.mul_le_mul_of_nonneg_left h2 h1
  generalize (z.map fun a=>a.1*(Hu.at_ S a.2).1).sum=A at *
  generalize (z.map fun a=>a.1*(Hu.at_ S a.2).2).sum=B at *
  generalize (z.map (·.1)).sum=C at *
  generalize (Hu.at_ S a.2).1=x at *
  generalize (Hu.at_ S a.2).2=y at *
  generalize a.1=d at *
  have e1:W*(l*(d*x+A)+m*(d*y+B))=d*W*(l*x+m*y)+W*(l*A+m*B):=by grind
  have e2:W*(d+C)*n=d*W*n+W*C*n:=by grind
  rw[e1,e2]
  omega
theorem Z0v{S:List Hu.Pt}(h0:S≠[]){p:Hu.Pt}:Hu.Z7 S p=none↔Hul S p:=by
 constructor
 ·intro h l m n hS
  obtain⟨g1,g2,g3,g4,g5,g6,g7⟩:=Hu.ZZ h0 h
  generalize (Hu.Z4 S p).1=w at *
  generalize (Hu.Z4 S p).2=q at *
  have:=Z0u S l m n w.sum (w.zip q) (fun a ha=>by
   obtain⟨a1,a2⟩:=List.of_mem_zip ha
   exact⟨g3 _ a1,hS _ (Hu.Zm (g5 _ a2))⟩)
  rw[g6,g7,List.map_fst_zip (by omega)] at this
  generalize w.sum=W at *
  have e1:W*(l*(W*p.1)+m*(W*p.2))=W*W*(l*p.1+m*p.2):=by grind
  rw[e1] at this
  have hW:0<W*W:=by
   rcases Int.lt_or_gt_of_ne g2 with h|h
   ·exact Int.mul_pos_of_neg_of_neg h h
   ·exact Int.mul_pos h h
  exact Int.le_of_mul_le_mul_left this hW
 ·intro h
  cases e:Hu.Z7 S p with
  |none=>rfl
  |some l=>
   obtain⟨h1,h2⟩:=Hu.ZY e
   exfalso
   have:=h l.1 l.2.1 l.2.2 (fun s hs=>by simpa[Hu.hd] using Hu.ZM h1 hs)
   simp[Hu.hd] at h2
   omega
theorem ZD{ps:List PV}:aG Za Zb Zc Zd [.tup ps,.ty "tuple"]=some (.bl true):=rfl
theorem Z11{ps:List PV}:aG Za Zb Zc Zd [.lst ps,.ty "list"]=some (.bl true):=rfl
theorem Z0j{x:Int}:aG Za Zb Zc Zd [.int x,.ty "int"]=some (.bl true):=rfl
theorem ZW{x:Int}:aG Za Zb Zc Zd [.int x,.ty "bool"]=some (.bl false):=rfl
theorem Z12{x:Str}:aG Za Zb Zc Zd [.str x,.ty "str"]=some (.bl true):=rfl
theorem Z1y{t b:Int}(hb:1≤b)(ht:0≤t)(hg:My.gd t b=1):oU [.sh (pt (t,b))]=.ret (.sh (.bl true)):=by
 obtain⟨⟨u,v⟩,e1,⟨e2,e3,e4⟩,e5⟩:=iW (mc:=(bh (Ą ŵ (Ā 3) (mC (.int 0))))) (mb:=(Bt 2 3 (ą (ĺ 3) (ą (Ą Ņ (Ā 2) (Ā 3)) Ė))))
  (fun c:Int×Int=>[.sh (pt (t,b)),.sh (.int b),.sh (.int c.1),.sh (.int c.2)]) (fun c=>My.gd c.1 c.2=My.gd t b∧0≤c.1∧0≤c.2) (fun c=>c.2.natAbs) (b:=(t,b)) (by
    rintro ⟨u,v⟩ ⟨e,h1,h2⟩
    have h1':0≤u:=h1
    have h2':0≤v:=h2
    by_cases hv:v=0
    ·left;simp[hv]
    ·right;exact⟨by simp[hv],(v,u.fmod v),by simp[hv],⟨(My.Z0o u v).trans e,h2',Int.fmod_nonneg_of_pos u (by omega)⟩,My.Z0p u hv⟩) ⟨rfl,ht,by omega⟩
 have hv:v=0:=by simpa using e5
 have e3':0≤u:=e3
 subst hv
 have e2':My.gd u 0=1:=e2.trans hg
 rw[My.Z0q,if_neg (by omega)] at e2'
 subst e2'
 have e1':DP [.sh (pt (t,b)),.sh (.int b),.sh (.int t),.sh (.int b)]=_:=e1
 have h1:¬b<1:=by omega
 have h2:¬t<0:=by omega
 simp only[pt] at e1'
 simp[oU,yF,DQ,List.replicate,pt,ZD,Z0j,ZW,forL,h1,h2,e1']
theorem Zq{s W:Int}(hW:W≠0):1≤(rt s W).2∧My.gd (rt s W).1 (rt s W).2=1∧(rt s W).1*W=s*(rt s W).2:=My.Z19 s hW
theorem Z13{s W:Int}(hW:W≠0)(h:0≤s*W):0≤(rt s W).1:=by
 obtain⟨h1,_,h3⟩:=Zq (s:=s) hW
 have e:(rt s W).1*(W*W)=(s*W)*(rt s W).2:=by
  calc (rt s W).1*(W*W)=((rt s W).1*W)*W:=by rw[Int.mul_assoc]
   _=s*(rt s W).2*W:=by rw[h3]
   _=(s*W)*(rt s W).2:=by rw[Int.mul_assoc,Int.mul_comm (rt s W).2 W,←Int.mul_assoc]
 have hp:0<W*W:=by
  rcases Int.lt_or_gt_of_ne hW with q|q
  ·exact Int.mul_pos_of_neg_of_neg q q
  ·exact Int.mul_pos q q
 have hn:0≤(s*W)*(rt s W).2:=Int.mul_nonneg h (by omega)
 by_cases q:0≤(rt s W).1
 ·exact q
 ·have:=Int.mul_neg_of_neg_of_pos (show(rt s W).1<0 by omega) hp
  omega
theorem Z0w{s W:Int}(hs:bits s≤200)(hW:bits W≤200):bits (rt s W).1≤200∧bits (rt s W).2≤200:=⟨intBits_fdiv_le hs,intBits_fdiv_le hW⟩
theorem Z14{s W C:Int}(hW:W≠0)(hd:(rt s W).2 ∣ C):C.fdiv (rt s W).2*(rt s W).1*W=C*s:=by
 obtain⟨h1,_,h3⟩:=Zq (s:=s) hW
 rw[Int.fdiv_eq_ediv_of_nonneg _ (by omega)]
 exact Fr.Z1c (by omega) h3 hd
theorem Z0x{W:Int}(hW:bits W≤200)(s0 s1 s2:P.Slot):∀(L:List Int) (c:Int) (s6 s7:P.Slot),bits c+200*L.length≤100000→∃Tq s7',forL (gT 2 (ı (gN 6) (ı (gN 7) ſ))) mQ (L.map fun s=>pt (rt s W)) [s0,s1,s2,.sh (.int c),.no,.no,s6,s7]=.ok .nx [s0,s1,s2,.sh (.int ((L.map fun s=>(rt s W).2).foldl (·* ·) c)),.no,.no,Tq,s7']∧bits ((L.map fun s=>(rt s W).2).foldl (·* ·) c)≤100000
 | [],c,s6,s7,h=>⟨s6,s7,rfl,by simpa using(show bits c≤100000 by simp at h;omega)⟩
 |s::L,c,s6,s7,h=>by
  rw[List.length_cons] at h
  have hb:bits (rt s W).2≤200:=intBits_fdiv_le hW
  have hm:Ľ c (rt s W).2=true:=wU (by omega) (by omega)
  have hc:bits (c*(rt s W).2)≤bits c+200:=intBits_mul_le (Nat.le_refl _) hb
  obtain⟨Tq,s7',e,e'⟩:=Z0x hW s0 s1 s2 L (c*(rt s W).2) (.sh (.int (rt s W).1)) (.sh (.int (rt s W).2)) (by omega)
  refine⟨Tq,s7',?_,e'⟩
  have hbody:mQ [s0,s1,s2,.sh (.int c),.no,.no,.sh (.int (rt s W).1),.sh (.int (rt s W).2)]=.ok .nx [s0,s1,s2,.sh (.int (c*(rt s W).2)),.no,.no,.sh (.int (rt s W).1),.sh (.int (rt s W).2)]:=by
   simp[mQ,hm]
  rw[List.map_cons,List.map_cons,List.foldl_cons,forL]
  have hg:gT 2 (ı (gN 6) (ı (gN 7) ſ)) (pt (rt s W)) [s0,s1,s2,.sh (.int c),.no,.no,s6,s7]=some [s0,s1,s2,.sh (.int c),.no,.no,.sh (.int (rt s W).1),.sh (.int (rt s W).2)]:=by simp[pt]
  rw[hg]
  dsimp only
  rw[hbody]
  exact e
def ax(j:Nat)(p:Hu.Pt):Int:=if j=0 then p.1 else p.2
theorem Z1p{j:Nat}(hj:j<2)(p:Hu.Pt):đ (pt p) (.int j)=some (.int (ax j p)):=by
 have h:j=0∨j=1:=by omega
 rcases h with rfl|rfl<;>rfl
theorem Z0y{S:List Hu.Pt}{p:Hu.Pt}{H:List Int}{C:Int}{j:Nat}(hj:j<2)(hl:H.length=S.length)(hn:S.length≤100){sl:P.Slot}(hs:Sl sl (S.map pt))(hb:∀x∈H,bits x≤100400)(hC:bits C≤100000)(hS:∀q∈S,Sm q)
 (hp:Sm p)(heq:((List.range S.length).map fun k=>H.getD k 0*ax j (Hu.at_ S k)).sum=C*ax j p)(s0 s6 s7:P.Slot):jk [s0,sl,.sh (pt p),.sh (.int C),.ow (H.map .int),.sh (.int j),s6,s7]=.ok .nx [s0,sl,.sh (pt p),.sh (.int C),.ow (H.map .int),.sh (.int j),s6,s7]:=by
 have sax:∀q,Sm q→ -100000000000000000≤ax j q∧ax j q≤100000000000000000:=by
  rintro q ⟨a1,a2,a3,a4⟩
  unfold ax
  split<;>omega
 have c1:Ń (gN 3) ŋ (Ą Ĕ (Ą đ (Ā 0) (Ā 3)) (Ą đ (Ą đ (Ā 2) (Ā 3)) (Ā 1))) ((List.range S.length).map fun(i:Nat)=>PV.int (i:Int)) [.bw (H.map .int),.sh (.int j),sl,.no] []=some (((List.range S.length).map fun k=>H.getD k 0*ax j (Hu.at_ S k)).map .int):=by
  have:=Ŀ (g:=gN 3) (mt:=ŋ) (me:=Ą Ĕ (Ą đ (Ā 0) (Ā 3)) (Ą đ (Ą đ (Ā 2) (Ā 3)) (Ā 1))) (fun(i:Nat)=>PV.int (i:Int)) (fun k=>.int (H.getD k 0*ax j (Hu.at_ S k))) (fun ρ=>∃s,ρ=[.bw (H.map .int),.sh (.int j),sl,s]) (List.range S.length) [.bw (H.map .int),.sh (.int j),sl,.no] [] ⟨_,rfl⟩ (by simp;omega) (by
   rintro k hk ρ ⟨s,rfl⟩
   have hk':k<S.length:=List.mem_range.mp hk
   have hH:(H.map PV.int)[k]?=some (.int (H.getD k 0)):=by
    rw[List.getElem?_map,List.getD_eq_getElem?_getD,List.getElem?_eq_getElem (by omega)]
    rfl
   have hx:=sax _ (hS _ (Hu.Zm hk'))
   have hm:Ľ (H.getD k 0) (ax j (Hu.at_ S k))=true:=mul_r (by omega) (by omega)
   refine⟨[.bw (H.map .int),.sh (.int j),sl,.sh (.int k)],[.bw (H.map .int),.sh (.int j),sl,.sh (.int k)],[.bw (H.map .int),.sh (.int j),sl,.sh (.int k)],by simp,by simp,?_,_,rfl⟩
   have hpt:=Z1p hj (Hu.at_ S k)
   generalize H.getD k 0=x at *
   generalize ax j (Hu.at_ S k)=y at *
   rcases hs with rfl|rfl<;>simp[hH,bY hk',hpt,hm,-List.getElem?_map])
  rw[this,List.map_map]
  rfl
 have hpp:=Z1p hj p
 have hx:=sax p hp
 have hm:Ľ C (ax j p)=true:=mul_r (by omega) (by omega)
 have hr:=ZK (show S.length≤1000 by omega)
 have hsum:dY [.lst (((List.range S.length).map fun k=>H.getD k 0*ax j (Hu.at_ S k)).map .int)]=some (.int (C*ax j p)):=by
  simp only[ś,Ů,Option.map_some,heq]
 have hlen:aB [.lst (S.map pt)]=some (.int S.length):=by simp
 generalize (((List.range S.length).map fun k=>H.getD k 0*ax j (Hu.at_ S k)).map PV.int)=zs at c1 hsum
 generalize ((List.range S.length).map fun(i:Nat)=>PV.int (i:Int))=is at c1 hr
 generalize ax j p=y at *
 rcases hs with rfl|rfl<;>simp[jk,-Ŷ,hlen,hr,c1,hsum,hpp,hm,-ś]
theorem Z1U{S:List Hu.Pt}{p:Hu.Pt}{L:List Int}{W:Int}(hW:W≠0)(hWb:bits W≤200)(hL:∀s∈L,bits s≤200∧0≤s*W)(hl:L.length=S.length)(hn:S.length≤100)(hS:∀q∈S,Sm q)(hp:Sm p)(h1:L.sum=W)
 (hx:∀j,j<2→Fr.df L (fun k=>ax j (Hu.at_ S k))=W*ax j p){sl:P.Slot}(hs:Sl sl (S.map pt)):gJ [.sh (.lst (L.map fun s=>pt (rt s W))),sl,.sh (pt p)]=.ret (.sh (.bl true)):=by
 have c1:Ń (gN 0) ŋ (ě (Ğ oU (Ċ 0 ĝ))) (L.map fun s=>pt (rt s W)) [.no] []=some ((L.map fun _=>true).map .bl):=by
  have:=Ŀ (g:=gN 0) (mt:=ŋ) (me:=ě (Ğ oU (Ċ 0 ĝ))) (fun s=>pt (rt s W)) (fun _=>.bl true) (fun ρ=>∃s,ρ=[s]) L [.no] [] ⟨_,rfl⟩ (by simp;omega) (by
   rintro s hm ρ ⟨sl',rfl⟩
   obtain⟨f1,f2,f3⟩:=Zq (s:=s) hW
   have:=Z1y f1 (Z13 hW (hL s hm).2) f2
   exact⟨[.sh (pt (rt s W))],[.sh (pt (rt s W))],[.sh (pt (rt s W))],by simp,by simp,by simp[this],_,rfl⟩)
  rw[this,List.map_map]
  rfl
 have c2:=ZQ (L.map fun _=>true)
 have c2':(L.map fun _=>true).all id=true:=by simp
 rw[c2'] at c2
 obtain⟨s6,s7,e,hCb⟩:=Z0x hWb (.sh (.lst (L.map fun s=>pt (rt s W)))) sl (.sh (pt p)) L 1 .no .no (by
  have:bits 1≤1:=iu (n:=1) (by decide) (by decide)
  omega)
 have hdv:∀s∈L,(rt s W).2 ∣ (L.map fun s=>(rt s W).2).foldl (·* ·) 1:=fun s hm=>(Fr.Z08 _ _).2 _ (List.mem_map_of_mem (f:=fun s=>(rt s W).2) hm)
 have hpos:0<(L.map fun s=>(rt s W).2).foldl (·* ·) 1:=Fr.Z09 _ _ (by decide) fun b hb=>by
  obtain⟨s,_,rfl⟩:=List.mem_map.mp hb
  have:=(Zq (s:=s) hW).1
  omega
 generalize hC:(L.map fun s=>(rt s W).2).foldl (·* ·) 1=C at *
 have c3:Ń (gT 2 (ı (gN 1) (ı (gN 2) ſ))) ŋ (Ą Ĕ (Ą œ (Ā 0) (Ā 2)) (Ā 1)) (L.map fun s=>pt (rt s W)) [.sh (.int C),.no,.no] []=some ((L.map fun s=>C.fdiv (rt s W).2*(rt s W).1).map .int):=by
  have:=Ŀ (g:=gT 2 (ı (gN 1) (ı (gN 2) ſ))) (mt:=ŋ) (me:=Ą Ĕ (Ą œ (Ā 0) (Ā 2)) (Ā 1)) (fun s=>pt (rt s W)) (fun s=>.int (C.fdiv (rt s W).2*(rt s W).1)) (fun ρ=>∃a b,ρ=[.sh (.int C),a,b]) L [.sh (.int C),.no,.no] [] ⟨_,_,rfl⟩ (by simp;omega) (by
   rintro s hm ρ ⟨a,b,rfl⟩
   obtain⟨f1,f2,f3⟩:=Zq (s:=s) hW
   obtain⟨g1,g2⟩:=Z0w (hL s hm).1 hWb
   have hf:cu C (rt s W).2=true:=rZ (by omega) (by omega)
   have hm:Ľ (C.fdiv (rt s W).2) (rt s W).1=true:=wU (Nat.le_trans (intBits_fdiv_le hCb) (by decide)) (by omega)
   exact⟨[.sh (.int C),.sh (.int (rt s W).1),.sh (.int (rt s W).2)],[.sh (.int C),.sh (.int (rt s W).1),.sh (.int (rt s W).2)],[.sh (.int C),.sh (.int (rt s W).1),.sh (.int (rt s W).2)],by simp[pt],by simp,by simp[hf,hm],_,_,rfl⟩)
  rw[this,List.map_map]
  rfl
 have hone:∀s∈L,C.fdiv (rt s W).2*(rt s W).1*W=C*s:=fun s hm=>Z14 hW (hdv s hm)
 have hsum:(L.map fun s=>C.fdiv (rt s W).2*(rt s W).1).sum=C:=by
  have:=Fr.Zt (f:=fun s=>C.fdiv (rt s W).2*(rt s W).1) (g:=fun s=>s) L hone
  rw[List.map_id',h1] at this
  exact Int.eq_of_mul_eq_mul_right hW this
 have hHb:∀x∈L.map (fun s=>C.fdiv (rt s W).2*(rt s W).1),bits x≤100400:=by
  intro x hx
  obtain⟨s,hm,rfl⟩:=List.mem_map.mp hx
  obtain⟨g1,g2⟩:=Z0w (hL s hm).1 hWb
  exact Nat.le_trans (intBits_mul_le (intBits_fdiv_le hCb) g1) (by decide)
 have hax:∀j,j<2→((List.range S.length).map fun k=>(L.map fun s=>C.fdiv (rt s W).2*(rt s W).1).getD k 0*ax j (Hu.at_ S k)).sum=C*ax j p:=by
  intro j hj
  have h:=Fr.Zt (W:=W) (C:=C) (f:=fun k=>(L.map fun s=>C.fdiv (rt s W).2*(rt s W).1).getD k 0*ax j (Hu.at_ S k)) (g:=fun k=>L.getD k 0*ax j (Hu.at_ S k)) (List.range S.length) (fun k hk=>by
   have hk':k<L.length:=by rw[hl];exact List.mem_range.mp hk
   have e1:(L.map fun s=>C.fdiv (rt s W).2*(rt s W).1).getD k 0=C.fdiv (rt L[k] W).2*(rt L[k] W).1:=by
    rw[List.getD_eq_getElem?_getD,List.getElem?_map,List.getElem?_eq_getElem hk']
    rfl
   have e2:L.getD k 0=L[k]:=by rw[List.getD_eq_getElem?_getD,List.getElem?_eq_getElem hk'];rfl
   show(L.map fun s=>C.fdiv (rt s W).2*(rt s W).1).getD k 0*ax j (Hu.at_ S k)*W=C*(L.getD k 0*ax j (Hu.at_ S k))
   rw[e1,e2]
   have:=hone L[k] (List.getElem_mem hk')
   calc C.fdiv (rt L[k] W).2*(rt L[k] W).1*ax j (Hu.at_ S k)*W=(C.fdiv (rt L[k] W).2*(rt L[k] W).1*W)*ax j (Hu.at_ S k):=by rw[Int.mul_assoc,Int.mul_comm (ax j _) W,←Int.mul_assoc]
    _=C*L[k]*ax j (Hu.at_ S k):=by rw[this]
    _=C*(L[k]*ax j (Hu.at_ S k)):=by rw[Int.mul_assoc])
  have hd:=Fr.Z0a L (fun k=>ax j (Hu.at_ S k))
  rw[hx j hj,hl] at hd
  rw[←hd] at h
  refine Int.eq_of_mul_eq_mul_right hW (h.trans ?_)
  rw[Int.mul_assoc,Int.mul_comm W]
 have t0:=Z0y (j:=0) (by decide) (H:=L.map fun s=>C.fdiv (rt s W).2*(rt s W).1) (by simpa using hl) hn hs hHb hCb hS hp (hax 0 (by decide)) (.sh (.lst (L.map fun s=>pt (rt s W)))) s6 s7
 have t1:=Z0y (j:=1) (by decide) (H:=L.map fun s=>C.fdiv (rt s W).2*(rt s W).1) (by simpa using hl) hn hs hHb hCb hS hp (hax 1 (by decide)) (.sh (.lst (L.map fun s=>pt (rt s W)))) s6 s7
 have hsum':dY [.lst ((L.map fun s=>C.fdiv (rt s W).2*(rt s W).1).map .int)]=some (.int C):=by
  simp only[ś,Ů,Option.map_some,hsum]
 have hl1:aB [.lst (L.map fun s=>pt (rt s W))]=some (.int S.length):=by simp[hl]
 have hl2:aB [.lst (S.map pt)]=some (.int S.length):=by simp
 have hr2:bK [.int 2]=some [.int 0,.int 1]:=rfl
 generalize (L.map fun _=>true).map PV.bl=bs at c1 c2
 generalize (L.map fun s=>C.fdiv (rt s W).2*(rt s W).1).map PV.int=hs' at c3 hsum' t0 t1
 generalize L.map (fun s=>pt (rt s W))=V at c1 e c3 t0 t1 hl1
 have t0':jk [.sh (.lst V),sl,.sh (pt p),.sh (.int C),.ow hs',.sh (.int 0),s6,s7]=_:=t0
 have t1':jk [.sh (.lst V),sl,.sh (pt p),.sh (.int C),.ow hs',.sh (.int 1),s6,s7]=_:=t1
 rcases hs with rfl|rfl
 ·simp[gJ,mR,List.replicate,Z11,-Ŷ,hl1,hl2,c1,c2,e,c3,hsum',-ś,hr2,forL,t0',t1']
 ·simp[gJ,mR,List.replicate,Z11,-Ŷ,hl1,hl2,c1,c2,e,c3,hsum',-ś,hr2,forL,t0',t1']
theorem Z1F{S:List Hu.Pt}{p:Hu.Pt}{l:Hu.Ln}(hl:Kd l)(h1:∀s∈S,Hu.hd l s=true)(h2:Hu.hd l p=false)(hn:S.length≤100){sl:P.Slot}(hs:Sl sl (S.map pt)):jl [.sh (bQ l),sl,.sh (pt p)]=.ret (.sh (.bl true)):=by
 obtain⟨a1,a2,a3,a4⟩:=hl
 have m1:∀x,Ľ l.1 x=true:=fun x=>ū (by omega) (by omega)
 have m2:∀x,Ľ l.2.1 x=true:=fun x=>ū (by omega) (by omega)
 have c1:Ń (gT 2 (ı (gN 3) (ı (gN 4) ſ))) ŋ (Ą pW (ě (Ĳ ĭ (Ą Ĕ (Ā 1) (Ā 3)) (Ą Ĕ (Ā 2) (Ā 4)))) (Ā 0)) (S.map pt) [.sh (.int l.2.2),.sh (.int l.1),.sh (.int l.2.1),.no,.no] []=some ((S.map fun _=>true).map .bl):=by
  have:=Ŀ (g:=gT 2 (ı (gN 3) (ı (gN 4) ſ))) (mt:=ŋ) (me:=Ą pW (ě (Ĳ ĭ (Ą Ĕ (Ā 1) (Ā 3)) (Ą Ĕ (Ā 2) (Ā 4)))) (Ā 0)) pt (fun _=>.bl true) (fun ρ=>∃a b,ρ=[.sh (.int l.2.2),.sh (.int l.1),.sh (.int l.2.1),a,b]) S [.sh (.int l.2.2),.sh (.int l.1),.sh (.int l.2.1),.no,.no] [] ⟨_,_,rfl⟩ (by simp;omega) (by
   rintro s hm ρ ⟨a,b,rfl⟩
   have hh:=h1 s hm
   unfold Hu.hd at hh
   rw[decide_eq_true_eq] at hh
   exact⟨[.sh (.int l.2.2),.sh (.int l.1),.sh (.int l.2.1),.sh (.int s.1),.sh (.int s.2)],[.sh (.int l.2.2),.sh (.int l.1),.sh (.int l.2.1),.sh (.int s.1),.sh (.int s.2)],[.sh (.int l.2.2),.sh (.int l.1),.sh (.int l.2.1),.sh (.int s.1),.sh (.int s.2)],by simp[pt],by simp,by simp[m1,m2,hh],_,_,rfl⟩)
  rw[this,List.map_map]
  rfl
 have c2:=ZQ (S.map fun _=>true)
 have c2':(S.map fun _=>true).all id=true:=by simp
 rw[c2'] at c2
 unfold Hu.hd at h2
 rw[decide_eq_false_iff_not] at h2
 generalize (S.map fun _=>true).map PV.bl=bs at c1 c2
 generalize hS:S.map pt=ps at c1 hs
 rcases hs with rfl|rfl
 ·simp[jl,mV,qG,List.replicate,bQ,pt,ZD,Z0j,ZW,forL,m1,m2,h2,c1,c2]
 ·simp[jl,mV,qG,List.replicate,bQ,pt,ZD,Z0j,ZW,forL,m1,m2,h2,c1,c2]
theorem Z1q:Ų (.str "in") (.str "in")=some (.bl true):=by rw[jd (by decide +kernel) (by decide +kernel)];rfl
theorem Z1r:Ų (.str "out") (.str "in")=some (.bl false):=by rw[jd (by decide +kernel) (by decide +kernel),decide_eq_false (by decide +kernel)]
theorem Z1V:Ų (.str "out") (.str "out")=some (.bl true):=by rw[jd (by decide +kernel) (by decide +kernel)];rfl
theorem Z1z{S:List Hu.Pt}(hS:∀p∈S,Sm p){p:Hu.Pt}(hp:Sm p):Jm (Hu.Z4 S p).1:=by
 have hat:∀i,i<S.length→Sm (Hu.at_ S i):=fun i h=>hS _ (Hu.Zm h)
 unfold Hu.Z4
 cases e3:Hu.Oi S p with
 |some r=>
  obtain⟨⟨i,j,k⟩,hm,hr⟩:=List.exists_of_findSome?_eq_some e3
  obtain⟨h1,h2,h3⟩:=Hu.Z5.mp hm
  split at hr
  ·cases hr
   exact Z0Y (hat i (by omega)) (hat j (by omega)) (hat k h3) hp
  ·cases hr
 |none=>
  cases e2:Hu.Vs S p with
  |some r=>
   obtain⟨⟨i,j⟩,hm,hr⟩:=List.exists_of_findSome?_eq_some e2
   obtain⟨h1,h2⟩:=Hu.Zh.mp hm
   split at hr
   ·cases hr
    exact Z0Z (hat i (by omega)) (hat j h2) hp
   ·cases hr
  |none=>exact⟨by simp,by simp⟩
theorem ZJ{α β:Type}:∀{l:List α} {m:List β},l.length=m.length→(l.zip m).map (·.2)=m
 | [],[],_=>rfl
 |_::l,_::m,h=>by simp[ZJ (l:=l) (m:=m) (by simpa using h)]
 | [],_::_,h=>by simp at h
 |_::_,[],h=>by simp at h
theorem Zj{α β:Type}:∀{l:List α} {m:List β},l.length=m.length→(l.zip m).map (·.1)=l
 | [],[],_=>rfl
 |_::l,_::m,h=>by simp[Zj (l:=l) (m:=m) (by simpa using h)]
 | [],_::_,h=>by simp at h
 |_::_,[],h=>by simp at h
theorem Z15{S:List Hu.Pt}(h0:S≠[])(hS:∀p∈S,Sm p)(hn:S.length≤100){p:Hu.Pt}(hp:Sm p){sl:P.Slot}(hs:Sl sl (S.map pt)):dO [.sh (Vt S p),sl,.sh (pt p)]=.ret (.sh (.bl true)):=by
 unfold Vt
 cases e:Hu.Z7 S p with
 |some l=>
  obtain⟨h1,h2⟩:=Hu.ZY e
  have ho:=Z1F (Z0V h1 hS) (fun s hm=>Hu.ZM h1 hm) h2 hn hs
  simp[dO,mW,List.replicate,hs.lend,ZD,Z12,Z1r,Z1V,ho]
 |none=>
  have hg:=Hu.ZZ h0 e
  have hsh:=Z1z hS hp
  obtain⟨b1,b2⟩:=hsh.sum
  have hz:∀x∈(Hu.Z4 S p).1.zip (Hu.Z4 S p).2,x.2<(List.replicate S.length (0:Int)).length:=fun x hx=>by
   rw[List.length_replicate]
   exact hg.lt _ (List.of_mem_zip hx).2
  have hz0:∀x∈(Hu.Z4 S p).1.zip (Hu.Z4 S p).2,(List.replicate S.length (0:Int)).getD x.2 0=0:=fun x hx=>by
   rw[List.getD_eq_getElem?_getD,List.getElem?_replicate]
   split<;>rfl
  have hnd:(((Hu.Z4 S p).1.zip (Hu.Z4 S p).2).map (·.2)).Nodup:=by rw[ZJ hg.len];exact hg.nd
  have hdf:∀f,Fr.df (Fr.lay (List.replicate S.length 0) ((Hu.Z4 S p).1.zip (Hu.Z4 S p).2)) f=(((Hu.Z4 S p).1.zip (Hu.Z4 S p).2).map fun x=>x.1*f x.2).sum:=fun f=>by
   rw[Fr.Z0O _ _ f hnd hz hz0,Fr.Z1u]
   omega
  have hi:=Z1U (S:=S) (p:=p) (L:=Fr.lay (List.replicate S.length 0) ((Hu.Z4 S p).1.zip (Hu.Z4 S p).2)) (W:=(Hu.Z4 S p).1.sum) hg.sum (Zi b1 b2) (fun s hm=>by
   rcases Fr.Z0r _ _ _ hm with q|q
   ·have:s=0:=(List.mem_replicate.mp q).2
    subst this
    exact⟨Zi (by decide) (by decide),by simp⟩
   ·rw[Zj hg.len] at q
    have:=hsh.2 s q
    exact⟨Zi (by omega) (by omega),hg.sign s q⟩) (by rw[Fr.ZV,List.length_replicate]) hn hS hp (by
    rw[←Fr.Z0P,hdf]
    simp only[Int.mul_one]
    rw[Zj hg.len]) (by
    intro j hj
    rw[hdf]
    have h:j=0∨j=1:=by omega
    rcases h with rfl|rfl
    ·exact hg.x
    ·exact hg.y) hs
  have hi':gJ [.sh (.lst (uT S (Hu.Z4 S p))),sl,.sh (pt p)]=.ret (.sh (.bl true)):=hi
  simp[dO,mW,List.replicate,hs.lend,ZD,Z12,Z1q,hi']
def B16(p:Hu.Pt):Prop:=-10000000000000000≤p.1∧p.1≤10000000000000000∧ -10000000000000000≤p.2∧p.2≤10000000000000000
theorem B16.sm{p:Hu.Pt}(h:B16 p):Sm p:=by obtain⟨h1,h2,h3,h4⟩:=h;exact⟨by omega,by omega,by omega,by omega⟩
theorem Z1W(c:Int){k:Int}(hk:0≤k)(hk2:k<1000)(kd z1:P.Slot):∃n:Int,∀(s6:P.Slot),(cD (bh (Ą Ų (Ą Ņ (Ā 0) (mC (.int 2))) (mC (.int 1))))
 (Ę (Į 4 (Ğ Ŕ (Ĩ (ě (Ĳ ĭ (ě (Ğ Ŕ (Ċ 4 (Ċ 3 ĝ)))) (Ā 4))) (Ċ 3 ĝ))))
 (Į 4 (Ĳ ĭ (ě (Ĳ ĭ (Ā 4) (Ą Ĕ (ě (Ğ Ŕ (Ċ 4 (Ĩ (mC (.int 1)) ĝ)))) (mC (.int 13666327))))) (Ą Ĕ (Ą Ĕ (ě (Ğ Ŕ (Ċ 4 (Ĩ (mC (.int 2)) ĝ)))) (mC (.int 13666351))) (Ā 5)))))
 cN) [.sh (.int c),z1,kd,.sh (.int k),.sh (.int (c / 2 % 1000000000000000000000000000000000000000000000000000000000000)),.sh (.int 20000000000000001),s6]=.ok .nx [.sh (.int c),z1,kd,.sh (.int k),.sh (.int n),.sh (.int 20000000000000001),s6]:=by
 generalize c / 2 % 1000000000000000000000000000000000000000000000000000000000000=N
 obtain⟨x1,e1,a1,b1⟩:=Zp N k hk hk2
 obtain⟨x2,e2,a2,b2⟩:=Zp (x1+N) k hk hk2
 obtain⟨x3,e3,a3,b3⟩:=Zp x2 1 (by omega) (by omega)
 obtain⟨x4,e4,a4,b4⟩:=Zp x2 2 (by omega) (by omega)
 have m1:∀y,Ľ x3 y=true:=fun y=>ū (by omega) (by omega)
 have m2:∀y,Ľ x4 y=true:=fun y=>ū (by omega) (by omega)
 have m3:Ľ (x4*13666351) 20000000000000001=true:=ū (by omega) (by omega)
 by_cases hc:c % 2=1
 ·exact⟨x2+x3*13666327+x4*13666351*20000000000000001,fun s6=>by simp[hc,e1,e2,e3,e4,m1,m2,m3]⟩
 ·exact⟨N,fun s6=>by simp[hc]⟩
theorem Z16(c:Int){u v kd k:Int}(hu: -1000000000000≤u∧u≤1000000000000)(hv: -1000000000000≤v∧v≤1000000000000)(hd:kd=0∨kd=1∨kd=2)(hk:0≤k)(hk2:k<1000):∃p:Hu.Pt,gG [.sh (.int c),.sh (.tup [.int u,.int v]),.sh (.int kd),.sh (.int k)]=.ret (.sh (pt p))∧B16 p:=by
 obtain⟨n,e⟩:=Z1W c hk hk2 (.sh (.int kd)) (.sh (.tup [.int u,.int v]))
 have p1:aF 10 60=true:=by decide
 have p2:aF 10 16=true:=by decide
 have m1:Ľ 2 10000000000000000=true:=ū (by decide) (by decide)
 have m2:∀y,Ľ (n % 13-6) y=true:=fun y=>ū (by omega) (by omega)
 have e':=e .no
 generalize hM:(cD (bh (Ą Ų (Ą Ņ (Ā 0) (mC (.int 2))) (mC (.int 1))))
  (Ę (Į 4 (Ğ Ŕ (Ĩ (ě (Ĳ ĭ (ě (Ğ Ŕ (Ċ 4 (Ċ 3 ĝ)))) (Ā 4))) (Ċ 3 ĝ))))
  (Į 4 (Ĳ ĭ (ě (Ĳ ĭ (Ā 4) (Ą Ĕ (ě (Ğ Ŕ (Ċ 4 (Ĩ (mC (.int 1)) ĝ)))) (mC (.int 13666327))))) (Ą Ĕ (Ą Ĕ (ě (Ğ Ŕ (Ċ 4 (Ĩ (mC (.int 2)) ĝ)))) (mC (.int 13666351))) (Ā 5)))))
  cN)=MM at *
 rcases hd with rfl|rfl|rfl
 ·refine⟨(n % 9-4,n / 9 % 9-4),?_,by unfold B16;dsimp only;omega⟩
  simp[gG,jh,hM,List.replicate,p1,p2,m1,e',pt]
 ·have q1: -10000000000000000≤(n % 13-6)*u+3∧(n % 13-6)*u+3≤10000000000000000:=by
   have:=ZA (a:=n % 13-6) (b:=u) (c:=6) (d:=1000000000000) (by omega) (by omega) (by omega) (by omega) (by decide) (by decide)
   omega
  have q2: -10000000000000000≤(n % 13-6)*v-2∧(n % 13-6)*v-2≤10000000000000000:=by
   have:=ZA (a:=n % 13-6) (b:=v) (c:=6) (d:=1000000000000) (by omega) (by omega) (by omega) (by omega) (by decide) (by decide)
   omega
  refine⟨((n % 13-6)*u+3,(n % 13-6)*v-2),?_,q1.1,q1.2,q2.1,q2.2⟩
  simp[gG,jh,hM,List.replicate,p1,p2,m1,e',pt,m2]
 ·refine⟨(n % 20000000000000001-10000000000000000,n / 20000000000000001 % 20000000000000001-10000000000000000),?_,by unfold B16;dsimp only;omega⟩
  simp[gG,jh,hM,List.replicate,p1,p2,m1,e',pt]
theorem Z0I{S:List Hu.Pt}:ŵ (.lst (S.map pt)) (.lst [])=some (.bl (!S.isEmpty)):=by
 cases S with
 |nil=>rfl
 |cons p S=>
  have h1:eqB (.lst ((p::S).map pt)) (.lst [])=false:=by
   rw[List.map_cons,eqB.eq_def]
   show bL (pt p::S.map pt) []=false
   rw[bL.eq_def]
  have h2:lO (.lst ((p::S).map pt)) (.lst [])=true:=by
   unfold lO
   have a:=ZP (p::S)
   have b:=Z0s (p::S)
   simp[ű,dep,jB,bB,ZN,ZP]
  unfold ŵ
  rw[if_pos h2,h1]
  rfl
theorem Z17{S:List Hu.Pt}(h:S≠[]):∃p∈S,dj (S.map pt) (-1)=some (pt p):=by
 refine⟨S.getLast h,List.getLast_mem h,?_⟩
 have hl:0<S.length:=List.length_pos_iff.mpr h
 unfold dj o_
 rw[if_neg (by decide),if_pos (by simp;omega)]
 have e:(-1+((S.map pt).length:Int)).toNat=S.length-1:=by simp;omega
 rw[e]
 show(S.map pt)[S.length-1]?=_
 rw[List.getElem?_map,←List.getLast?_eq_getElem?]
 have:S.getLast?=some (S.getLast h):=by first|exact List.getLast?_eq_getLast h|exact List.getLast?_eq_getLast _ h|exact List.getLast?_eq_some_getLast h
 rw[this]
 rfl
theorem Z1j(ns:List Int){a k:Nat}(hk:k<100){u v kd:Int}(hu: -1000000000000≤u∧u≤1000000000000)(hv: -1000000000000≤v∧v≤1000000000000)(hd:kd=0∨kd=1∨kd=2){S:List Hu.Pt}(hl:S.length≤1000)(hS:∀p∈S,B16 p)(z2 z7:P.Slot) :
 ∃(p:Hu.Pt) (y7:P.Slot),B16 p∧ji [.sh (.lst (ns.map .int)),.sh (.int a),z2,.sh (.tup [.int u,.int v]),.sh (.int kd),.ow (S.map pt),.sh (.int k),z7]=.ok .nx [.sh (.lst (ns.map .int)),.sh (.int a),z2,.sh (.tup [.int u,.int v]),.sh (.int kd),.ow ((S ++ [p]).map pt),.sh (.int k),y7]:=by
 have e0:=Zn ns (a+1+k)
 have c0:(((a+1+k:Nat)):Int)=(a:Int)+1+(k:Int):=by omega
 rw[c0] at e0
 have hn:=Z0I (S:=S)
 have hl':(S.map pt).length<16777216:=by rw[List.length_map];omega
 generalize ns.getD (a+1+k) 0=C at *
 obtain⟨p,e1,hp⟩:=Z16 (C / 4) hu hv hd (k:=(k:Int)) (by omega) (by omega)
 by_cases h0:S=[]
 ·subst h0
  refine⟨p,.sh (.int C),hp,?_⟩
  have hn':ŵ (.lst []) (.lst [])=some (.bl false):=rfl
  generalize ns.map PV.int=NS at *
  simp only[List.nil_append,List.map_cons,List.map_nil]
  generalize pt p=Pv at *
  simp[ji,e0,e1,hn',-Zo]
 ·have he:S.isEmpty=false:=by simpa using h0
  rw[he] at hn
  obtain⟨q,hq,hx⟩:=Z17 h0
  by_cases h4:C % 4=3
  ·refine⟨q,.sh (.int C),hS q hq,?_⟩
   rw[List.map_append]
   generalize ns.map PV.int=NS at *
   generalize S.map pt=SV at *
   simp[ji,e0,hn,h4,hx,hl',-Zo]
  ·refine⟨p,.sh (.int C),hp,?_⟩
   rw[List.map_append]
   generalize ns.map PV.int=NS at *
   generalize S.map pt=SV at *
   simp[ji,e0,e1,hn,h4,hl',-Zo]
theorem Z0k(ns:List Int){a:Nat}{u v kd:Int}(hu: -1000000000000≤u∧u≤1000000000000)(hv: -1000000000000≤v∧v≤1000000000000)(hd:kd=0∨kd=1∨kd=2)(z2:P.Slot):∀(ks:List Nat),(∀k∈ks,k<100)→∀(S:List Hu.Pt) (s6 s7:P.Slot),S.length+ks.length≤1000→(∀p∈S,B16 p)→
 ∃(S':List Hu.Pt) (y6 y7:P.Slot),forL (gN 6) ji (ks.map fun(k:Nat)=>PV.int (k:Int)) [.sh (.lst (ns.map .int)),.sh (.int a),z2,.sh (.tup [.int u,.int v]),.sh (.int kd),.ow (S.map pt),s6,s7]=.ok .nx [.sh (.lst (ns.map .int)),.sh (.int a),z2,.sh (.tup [.int u,.int v]),.sh (.int kd),.ow (S'.map pt),y6,y7]∧S'.length=S.length+ks.length∧∀p∈S',B16 p
 | [],_,S,s6,s7,_,hS=>⟨S,s6,s7,by simp[forL],by simp,hS⟩
 |k::ks,hk,S,s6,s7,hl,hS=>by
  rw[List.length_cons] at hl
  obtain⟨p,y7,hp,e⟩:=Z1j ns (a:=a) (k:=k) (hk k List.mem_cons_self) hu hv hd (S:=S) (by omega) hS z2 s7
  obtain⟨S',w6,w7,e2,l2,h2⟩:=Z0k ns (a:=a) hu hv hd z2 ks (fun j hj=>hk j (List.mem_cons_of_mem _ hj)) (S ++ [p]) (.sh (.int k)) y7 (by simp;omega) (fun q hq=>by
   rcases List.mem_append.mp hq with hq|hq
   ·exact hS q hq
   ·rw[List.mem_singleton.mp hq];exact hp)
  refine⟨S',w6,w7,?_,by rw[l2];simp;omega,h2⟩
  rw[List.map_cons,forL]
  generalize (S ++ [p]).map pt=SV at *
  generalize S.map pt=SW at *
  generalize ks.map (fun(k:Nat)=>PV.int (k:Int))=KS at *
  simp[e,e2]
theorem Z1X(n:Int):∃u v:Int,dj ([.tup [.int 1,.int 0],.tup [.int 0,.int 1],.tup [.int 1,.int 2],.tup [.int (-3),.int 2],.tup [.int 1000000000000,.int (-999999999993)]]:List PV) (n % 5)=some (.tup [.int u,.int v])∧(-1000000000000≤u∧u≤1000000000000)∧(-1000000000000≤v∧v≤1000000000000):=by
 have h:n % 5=0∨n % 5=1∨n % 5=2∨n % 5=3∨n % 5=4:=by omega
 rcases h with h|h|h|h|h<;>rw[h]
 ·exact⟨1,0,rfl,by omega,by omega⟩
 ·exact⟨0,1,rfl,by omega,by omega⟩
 ·exact⟨1,2,rfl,by omega,by omega⟩
 ·exact⟨-3,2,rfl,by omega,by omega⟩
 ·exact⟨1000000000000,-999999999993,rfl,by omega,by omega⟩
theorem Z1G(n:Int):∃kd:Int,dj ([.int 0,.int 0,.int 1,.int 2]:List PV) (n % 4)=some (.int kd)∧(kd=0∨kd=1∨kd=2):=by
 have h:n % 4=0∨n % 4=1∨n % 4=2∨n % 4=3:=by omega
 rcases h with h|h|h|h<;>rw[h]
 ·exact⟨0,rfl,by omega⟩
 ·exact⟨0,rfl,by omega⟩
 ·exact⟨1,rfl,by omega⟩
 ·exact⟨2,rfl,by omega⟩
theorem ZS(ns:List Int)(a:Nat):∃S:List Hu.Pt,jE [.sh (.lst (ns.map .int)),.sh (.int a)]=.ret (.ow (S.map pt))∧1≤S.length∧S.length≤8∧∀p∈S,B16 p:=by
 have e0:=Zn ns a
 generalize ns.getD a 0=c at *
 obtain⟨u,v,e1,hu,hv⟩:=Z1X (c % 1000000000 / 24)
 obtain⟨kd,e2,hd⟩:=Z1G (c % 1000000000 / 8)
 obtain⟨m,hm⟩:∃m:Nat,1+c % 1000000000 % 8=(m:Int):=⟨(1+c % 1000000000 % 8).toNat,by omega⟩
 have rr:=ZK (n:=m) (by omega)
 obtain⟨S,y6,y7,e3,hl,hS⟩:=Z0k ns (a:=a) hu hv hd (.sh (.int (c % 1000000000))) (List.range m) (fun k hk=>by have:=List.mem_range.mp hk;omega) [] .no .no (by simp;omega) (by simp)
 simp only[List.length_nil,List.length_range,Nat.zero_add] at hl
 have p1:aF 10 9=true:=by decide
 have p2:aF 10 12=true:=by decide
 refine⟨S,?_,by omega,by omega,hS⟩
 have e3':forL (gN 6) ji ((List.range m).map fun(k:Nat)=>PV.int (k:Int)) [.sh (.lst (ns.map .int)),.sh (.int a),.sh (.int (c % 1000000000)),.sh (.tup [.int u,.int v]),.sh (.int kd),.ow [],.no,.no]=_:=e3
 generalize (List.range m).map (fun(k:Nat)=>PV.int (k:Int))=RG at *
 generalize ns.map PV.int=NS at *
 generalize S.map pt=SV at *
 simp[jE,yr,List.replicate,e0,p1,p2,e1,e2,hm,rr,e3',-Zo,-Int.emod_emod_of_dvd]
theorem Z0l:∀(L:List Int) (A:Int),(∀x∈L,-A≤x∧x≤A)→ -(L.length*A)≤L.sum∧L.sum≤L.length*A
 | [],A,_=>by simp
 |x::L,A,h=>by
  have:=Z0l L A fun y hy=>h y (List.mem_cons_of_mem _ hy)
  have h1:=h x List.mem_cons_self
  rw[List.sum_cons,List.length_cons]
  have e:((L.length+1:Nat):Int)*A=(L.length:Int)*A+A:=by rw[Int.natCast_add,Int.add_mul];simp
  omega
theorem Z0z{x A:Int}{n:Nat}(hn:0<n)(h1: -(n*A)≤x)(h2:x≤n*A): -A≤x / n∧x / n≤A:=by
 have hn':(0:Int)<n:=by omega
 constructor
 ·rw[Int.le_ediv_iff_mul_le hn',Int.neg_mul,Int.mul_comm A]
  exact h1
 ·have:x / n≤n*A / n:=Int.ediv_le_ediv hn' h2
  rwa [Int.mul_ediv_cancel_left _ (by omega)] at this
def ZE(x:Int):Int:=if -10000000000000000<(if 10000000000000000<x then 10000000000000000 else x) then(if 10000000000000000<x then 10000000000000000 else x) else -10000000000000000
theorem Zl(x:Int): -10000000000000000≤ZE x∧ZE x≤10000000000000000:=by unfold ZE;constructor<;>split<;>split<;>omega
theorem Z0A(x:Int):gB [.int (-10000000000000000),.int (if 10000000000000000<x then 10000000000000000 else x)]=some (.int (ZE x)):=rfl
noncomputable def cv(n k:Int):Int:=match Ŕ [.sh (.int n),.sh (.int k)] with
 | .ret (.sh (.int x))=>x
 |_=>0
theorem Z1Y(n:Int){k:Int}(h0:0≤k)(hk:k<1000):Ŕ [.sh (.int n),.sh (.int k)]=.ret (.sh (.int (cv n k))):=by
 obtain⟨x,e,_⟩:=Zp n k h0 hk
 unfold cv
 rw[e]
theorem Vu{S:List Hu.Pt}{i:Nat}(h:i<S.length):dj (S.map pt) (i:Int)=some (pt S[i]):=by
 unfold dj o_
 simp[h]
theorem Z1A{S:List Hu.Pt}{i:Nat}(h:i<S.length):∃p∈S,dj (S.map pt) ((i:Int)-1)=some (pt p):=by
 by_cases h0:i=0
 ·subst h0
  obtain⟨p,hp,e⟩:=Z17 (S:=S) (by intro z;rw[z] at h;simp at h)
  exact⟨p,hp,by simpa using e⟩
 ·have e:=Vu (S:=S) (i:=i-1) (by omega)
  have c:((i-1:Nat):Int)=(i:Int)-1:=by omega
  rw[c] at e
  exact⟨_,List.getElem_mem (by omega),e⟩
theorem Z1Z(Q:List Hu.Pt)(hl:Q.length≤100):Ń (gN 0) ŋ (Ą đ (Ā 0) (mC (.int 0))) (Q.map pt) [.no] []=some ((Q.map fun p=>p.1).map .int)∧Ń (gN 0) ŋ (Ą đ (Ā 0) (mC (.int 1))) (Q.map pt) [.no] []=some ((Q.map fun p=>p.2).map .int):=by
 constructor
 ·have:=Ŀ (g:=gN 0) (mt:=ŋ) (me:=Ą đ (Ā 0) (mC (.int 0))) pt (fun p=>.int p.1) (fun ρ=>∃a,ρ=[a]) Q [.no] [] ⟨_,rfl⟩ (by simp;omega) (by
   rintro p hp ρ ⟨a,rfl⟩
   exact⟨[.sh (pt p)],_,[.sh (pt p)],rfl,rfl,by simp[pt],_,rfl⟩)
  rw[this]
  simp[Function.comp_def]
 ·have:=Ŀ (g:=gN 0) (mt:=ŋ) (me:=Ą đ (Ā 0) (mC (.int 1))) pt (fun p=>.int p.2) (fun ρ=>∃a,ρ=[a]) Q [.no] [] ⟨_,rfl⟩ (by simp;omega) (by
   rintro p hp ρ ⟨a,rfl⟩
   exact⟨[.sh (pt p)],_,[.sh (pt p)],rfl,rfl,by simp[pt],_,rfl⟩)
  rw[this]
  simp[Function.comp_def]
theorem Z1H(S:List Hu.Pt)(h8:S.length≤8)(C:Int):∃Q:List Hu.Pt,Ń (gN 2) (bh (Ą Ų (Ą Ņ (ě (Ğ Ŕ (Ĩ (Ą œ (Ā 1) (mC (.int 40))) (Ċ 2 ĝ)))) (mC (.int 2))) (mC (.int 0)))) (Ą đ (Ā 0) (Ā 2)) ((List.range S.length).map fun(k:Nat)=>PV.int (k:Int)) [.sh (.lst (S.map pt)),.sh (.int C),.no] []=some (Q.map pt)∧Q.length≤8∧∀p∈Q,p∈S:=by
 have h:=aN (g:=gN 2) (mt:=bh (Ą Ų (Ą Ņ (ě (Ğ Ŕ (Ĩ (Ą œ (Ā 1) (mC (.int 40))) (Ċ 2 ĝ)))) (mC (.int 2))) (mC (.int 0)))) (me:=Ą đ (Ā 0) (Ā 2)) (fun(k:Nat)=>PV.int (k:Int)) (fun k=>pt (S.getD k (0,0))) (fun(k:Nat)=>decide (cv (C / 40) (k:Int) % 2=0)) (fun ρ=>∃a,ρ=[.sh (.lst (S.map pt)),.sh (.int C),a]) (List.range S.length) [.sh (.lst (S.map pt)),.sh (.int C),.no] [] ⟨_,rfl⟩ (by simp;omega) (by
  rintro k hk ρ ⟨a,rfl⟩
  have hk:=List.mem_range.mp hk
  have e:=Z1Y (C / 40) (k:=(k:Int)) (by omega) (by omega)
  have e2:=Vu hk
  have hg:S.getD k (0,0)=S[k]:=by rw[List.getD_eq_getElem?_getD,List.getElem?_eq_getElem hk];rfl
  rw[hg]
  generalize S.map pt=SV at *
  exact⟨[.sh (.lst SV),.sh (.int C),.sh (.int k)],[.sh (.lst SV),.sh (.int C),.sh (.int k)],by simp,by simp[e],fun _=>⟨_,rfl⟩,fun _=>⟨[.sh (.lst SV),.sh (.int C),.sh (.int k)],by simp[e2],_,rfl⟩⟩)
 refine⟨((List.range S.length).filter fun(k:Nat)=>decide (cv (C / 40) (k:Int) % 2=0)).map fun k=>S.getD k (0,0),?_,?_,?_⟩
 ·rw[h,List.nil_append,List.map_map]
  rfl
 ·rw[List.length_map]
  have:=List.length_filter_le (fun(k:Nat)=>decide (cv (C / 40) (k:Int) % 2=0)) (List.range S.length)
  rw[List.length_range] at this
  omega
 ·intro p hp
  obtain⟨k,hk,rfl⟩:=List.mem_map.mp hp
  have hk:=List.mem_range.mp (List.mem_filter.mp hk).1
  rw[List.getD_eq_getElem?_getD,List.getElem?_eq_getElem hk]
  exact List.getElem_mem hk
theorem Z20(S:List Hu.Pt)(h0:1≤S.length)(h8:S.length≤8)(hS:∀p∈S,B16 p){i:Nat}(hi':i<S.length)(c:Int){C:Int}(hC:c % 1000000000000000=C)(ai:(C / 5).fmod (S.length:Int)=(i:Int))(hw:C % 5=2):∃q:Hu.Pt,aU [.sh (.lst (S.map pt)),.sh (.int c)]=.ret (.sh (pt q))∧B16 q:=by
 have Et:aF 10 15=true:=by decide
 have hlen:aB [.lst (S.map pt)]=some (.int (S.length:Int)):=by simp
 have hz:¬S.length=0:=by omega
 have rr:=ZK (n:=S.length) (by omega)
 obtain⟨Q,e1,hq,hm⟩:=Z1H S h8 C
 have hx:=Vu hi'
 obtain⟨R,hR⟩:∃R:List Hu.Pt,Q ++ [S[i]]=R:=⟨_,rfl⟩
 have hRl:R.length≤9∧0<R.length:=by rw[←hR];simp;omega
 have Vv:∀p∈R,B16 p:=by
  intro p hp
  rw[←hR] at hp
  rcases List.mem_append.mp hp with hp|hp
  ·exact hS p (hm p hp)
  ·rw[List.mem_singleton.mp hp];exact hS _ (List.getElem_mem hi')
 have hRV:Q.map pt ++ [pt S[i]]=R.map pt:=by rw[←hR];simp
 obtain⟨c1,c2⟩:=Z1Z R (by omega)
 have sx:=Z0l (R.map fun(p:Hu.Pt)=>p.1) 10000000000000000 (by
  intro x hx
  obtain⟨p,hp,rfl⟩:=List.mem_map.mp hx
  exact⟨(Vv p hp).1,(Vv p hp).2.1⟩)
 have sy:=Z0l (R.map fun(p:Hu.Pt)=>p.2) 10000000000000000 (by
  intro x hx
  obtain⟨p,hp,rfl⟩:=List.mem_map.mp hx
  exact⟨(Vv p hp).2.2.1,(Vv p hp).2.2.2⟩)
 rw[List.length_map] at sx sy
 have mx:=Z0z hRl.2 sx.1 sx.2
 have my:=Z0z hRl.2 sy.1 sy.2
 have f1:((R.map fun(p:Hu.Pt)=>p.1).sum).fdiv (R.length:Int)=(R.map fun(p:Hu.Pt)=>p.1).sum / (R.length:Int):=Int.fdiv_eq_ediv_of_nonneg _ (by omega)
 have f2:((R.map fun(p:Hu.Pt)=>p.2).sum).fdiv (R.length:Int)=(R.map fun(p:Hu.Pt)=>p.2).sum / (R.length:Int):=Int.fdiv_eq_ediv_of_nonneg _ (by omega)
 have fo:∀x,cu x (R.length:Int)=true:=fun x=>xR (by omega) (by omega) (by omega)
 have hzR:¬R.length=0:=by omega
 have PN:aB [.lst (R.map pt)]=some (.int (R.length:Int)):=by simp
 have hQl:(Q.map pt).length+1≤16777216:=by simp;omega
 refine⟨((R.map fun(p:Hu.Pt)=>p.1).sum / (R.length:Int),(R.map fun(p:Hu.Pt)=>p.2).sum / (R.length:Int)),?_,mx.1,mx.2,my.1,my.2⟩
 have hs1:dY [.lst ((R.map fun(p:Hu.Pt)=>p.1).map .int)]=some (.int (R.map fun(p:Hu.Pt)=>p.1).sum):=by rw[ś,Ů];rfl
 have hs2:dY [.lst ((R.map fun(p:Hu.Pt)=>p.2).map .int)]=some (.int (R.map fun(p:Hu.Pt)=>p.2).sum):=by rw[ś,Ů];rfl
 generalize (R.map fun(p:Hu.Pt)=>p.1).map PV.int=X1 at *
 generalize (R.map fun(p:Hu.Pt)=>p.2).map PV.int=X2 at *
 generalize (R.map fun(p:Hu.Pt)=>p.1).sum=V1 at *
 generalize (R.map fun(p:Hu.Pt)=>p.2).sum=V2 at *
 generalize (List.range S.length).map (fun(k:Nat)=>PV.int (k:Int))=RG at *
 generalize R.map pt=RV' at *
 generalize Q.map pt=QV at *
 generalize S.map pt=SV at *
 generalize pt S[i]=Pi at *
 simp[aU,dZ,List.replicate,Et,hC,hw,hlen,hz,ai,rr,e1,hx,add_l,hQl,hRV,c1,c2,hs1,hs2,PN,hzR,fo,f1,f2,-Ŷ,-ś]
 rfl
theorem Z21(S:List Hu.Pt)(h0:1≤S.length)(h8:S.length≤8)(hS:∀p∈S,B16 p){i:Nat}(hi':i<S.length)(c:Int){C:Int}(hC:c % 1000000000000000=C)(ai:(C / 5).fmod (S.length:Int)=(i:Int))(hw:C % 5=3):∃q:Hu.Pt,aU [.sh (.lst (S.map pt)),.sh (.int c)]=.ret (.sh (pt q))∧B16 q:=by
 have Et:aF 10 15=true:=by decide
 have Kf:aF 10 16=true:=by decide
 have hlen:aB [.lst (S.map pt)]=some (.int (S.length:Int)):=by simp
 have hz:¬S.length=0:=by omega
 have hx:=Vu hi'
 obtain⟨p,hp,hx2⟩:=Z1A hi'
 obtain⟨a,b⟩:=p
 obtain⟨⟨u,v⟩,hSi⟩:∃q,S[i]=q:=⟨_,rfl⟩
 rw[hSi] at hx
 refine⟨(ZE ((u+a) / 2+C / 40 % 3-1),ZE ((v+b) / 2+C / 120 % 3-1)),?_,(Zl _).1,(Zl _).2,(Zl _).1,(Zl _).2⟩
 generalize S.map pt=SV at *
 simp only[pt] at hx hx2 ⊢
 simp[aU,dZ,List.replicate,Et,Kf,hC,hw,hlen,hz,ai,hx,hx2,Z0A,-Ŷ,-wQ]
theorem Z1I(n:Int):∃u v:Int,dj ([.tup [.int 1,.int 0],.tup [.int 0,.int 1],.tup [.int 1,.int 1],.tup [.int 1,.int (-1)],.tup [.int (-1),.int 0],.tup [.int 0,.int (-1)],.tup [.int 2,.int 3],.tup [.int (-5),.int 1]]:List PV) (n % 8)=some (.tup [.int u,.int v])∧(-5≤u∧u≤5)∧(-5≤v∧v≤5):=by
 have h:n % 8=0∨n % 8=1∨n % 8=2∨n % 8=3∨n % 8=4∨n % 8=5∨n % 8=6∨n % 8=7:=by omega
 rcases h with h|h|h|h|h|h|h|h<;>rw[h]
 ·exact⟨1,0,rfl,by omega,by omega⟩
 ·exact⟨0,1,rfl,by omega,by omega⟩
 ·exact⟨1,1,rfl,by omega,by omega⟩
 ·exact⟨1,-1,rfl,by omega,by omega⟩
 ·exact⟨-1,0,rfl,by omega,by omega⟩
 ·exact⟨0,-1,rfl,by omega,by omega⟩
 ·exact⟨2,3,rfl,by omega,by omega⟩
 ·exact⟨-5,1,rfl,by omega,by omega⟩
theorem Z22{S:List Hu.Pt}(h0:1≤S.length)(h8:S.length≤8){u v:Int}(hu: -5≤u∧u≤5)(hv: -5≤v∧v≤5):∃(L:List Int) (m:Int) (Q:List Hu.Pt) (p:Hu.Pt),Ń (gN 1) ŋ (ě (Ĳ ĭ (Ą Ĕ (Ą đ (Ā 0) (mC (.int 0))) (Ą đ (Ā 1) (mC (.int 0)))) (Ą Ĕ (Ą đ (Ā 0) (mC (.int 1))) (Ą đ (Ā 1) (mC (.int 1)))))) (S.map pt) [.sh (.tup [.int u,.int v]),.no] []=some (L.map .int)
 ∧gC [.lst (L.map .int)]=some (.int m)∧Ń (gN 2) (bh (Ą Ų (ě (Ĳ ĭ (Ą Ĕ (Ą đ (Ā 1) (mC (.int 0))) (Ą đ (Ā 2) (mC (.int 0)))) (Ą Ĕ (Ą đ (Ā 1) (mC (.int 1))) (Ą đ (Ā 2) (mC (.int 1)))))) (Ā 0))) (ĺ 2) (S.map pt) [.sh (.int m),.sh (.tup [.int u,.int v]),.no] []=some (Q.map pt)∧(Q.map pt)[0]?=some (pt p)∧p∈S:=by
 have m1:∀y,Ľ u y=true:=fun y=>ū (by omega) (by omega)
 have m2:∀y,Ľ v y=true:=fun y=>ū (by omega) (by omega)
 have e1:=Ŀ (g:=gN 1) (mt:=ŋ) (me:=ě (Ĳ ĭ (Ą Ĕ (Ą đ (Ā 0) (mC (.int 0))) (Ą đ (Ā 1) (mC (.int 0)))) (Ą Ĕ (Ą đ (Ā 0) (mC (.int 1))) (Ą đ (Ā 1) (mC (.int 1)))))) pt (fun p=>.int (u*p.1+v*p.2)) (fun ρ=>∃a,ρ=[.sh (.tup [.int u,.int v]),a]) S [.sh (.tup [.int u,.int v]),.no] [] ⟨_,rfl⟩ (by simp;omega) (by
  rintro p hp ρ ⟨a,rfl⟩
  exact⟨[.sh (.tup [.int u,.int v]),.sh (pt p)],_,[.sh (.tup [.int u,.int v]),.sh (pt p)],rfl,rfl,by simp[pt,m1,m2],_,rfl⟩)
 rw[List.nil_append] at e1
 have he:(S.map fun p=>PV.int (u*p.1+v*p.2))=(S.map fun p=>u*p.1+v*p.2).map .int:=by rw[List.map_map];rfl
 rw[he] at e1
 obtain⟨x,l,hL⟩:∃x l,S.map (fun p=>u*p.1+v*p.2)=x::l:=by
  cases S with
  |nil=>simp at h0
  |cons p S=>exact⟨_,_,rfl⟩
 have e2:=Z0d x l
 have hin:Hu.mx (x::l)∈x::l:=Hu.Z0B (by simp)
 rw[←hL] at e2 hin
 obtain⟨M,hM⟩:∃M,Hu.mx (S.map fun p=>u*p.1+v*p.2)=M:=⟨_,rfl⟩
 rw[hM] at e2 hin
 obtain⟨p0,hp0,hv0⟩:=List.mem_map.mp hin
 have e3:=aN (g:=gN 2) (mt:=bh (Ą Ų (ě (Ĳ ĭ (Ą Ĕ (Ą đ (Ā 1) (mC (.int 0))) (Ą đ (Ā 2) (mC (.int 0)))) (Ą Ĕ (Ą đ (Ā 1) (mC (.int 1))) (Ą đ (Ā 2) (mC (.int 1)))))) (Ā 0))) (me:=ĺ 2) pt pt (fun p=>decide (u*p.1+v*p.2=M)) (fun ρ=>∃a,ρ=[.sh (.int M),.sh (.tup [.int u,.int v]),a]) S [.sh (.int M),.sh (.tup [.int u,.int v]),.no] [] ⟨_,rfl⟩ (by simp;omega) (by
  rintro p hp ρ ⟨a,rfl⟩
  exact⟨[.sh (.int M),.sh (.tup [.int u,.int v]),.sh (pt p)],[.sh (.int M),.sh (.tup [.int u,.int v]),.sh (pt p)],rfl,by simp[pt,m1,m2],fun _=>⟨_,rfl⟩,fun _=>⟨[.sh (.int M),.sh (.tup [.int u,.int v]),.sh (pt p)],by simp,_,rfl⟩⟩)
 rw[List.nil_append] at e3
 have hne:p0∈S.filter fun p=>decide (u*p.1+v*p.2=M):=List.mem_filter.mpr ⟨hp0,decide_eq_true hv0⟩
 obtain⟨p,Q,hQ⟩:∃p Q,(S.filter fun p=>decide (u*p.1+v*p.2=M))=p::Q:=by
  cases q:S.filter fun p=>decide (u*p.1+v*p.2=M) with
  |nil=>rw[q] at hne;simp at hne
  |cons p Q=>exact⟨p,Q,rfl⟩
 rw[hQ] at e3
 refine⟨_,M,p::Q,p,e1,e2,e3,rfl,?_⟩
 have:p∈S.filter fun p=>decide (u*p.1+v*p.2=M):=by rw[hQ];exact List.mem_cons_self
 exact(List.mem_filter.mp this).1
theorem Z23(S:List Hu.Pt)(h0:1≤S.length)(h8:S.length≤8)(hS:∀p∈S,B16 p){i:Nat}(hi':i<S.length)(c:Int){C:Int}(hC:c % 1000000000000000=C)(ai:(C / 5).fmod (S.length:Int)=(i:Int))(hw:C % 5=4):∃q:Hu.Pt,aU [.sh (.lst (S.map pt)),.sh (.int c)]=.ret (.sh (pt q))∧B16 q:=by
 have Et:aF 10 15=true:=by decide
 have Kf:aF 10 16=true:=by decide
 have hlen:aB [.lst (S.map pt)]=some (.int (S.length:Int)):=by simp
 have hz:¬S.length=0:=by omega
 obtain⟨u,v,e0,hu,hv⟩:=Z1I (C / 40)
 obtain⟨L,m,Q,p,e1,e2,e3,e4,hp⟩:=Z22 h0 h8 hu hv
 obtain⟨a,b⟩:=p
 have mo:∀y,Ľ (C / 320 % 2) y=true:=fun y=>ū (by omega) (by omega)
 refine⟨(ZE (a+C / 320 % 2*((if 0<u then 1 else 0)-(if u<0 then 1 else 0))),ZE (b+C / 320 % 2*((if 0<v then 1 else 0)-(if v<0 then 1 else 0)))),?_,(Zl _).1,(Zl _).2,(Zl _).1,(Zl _).2⟩
 generalize L.map PV.int=LV at *
 generalize Q.map pt=QV at *
 generalize S.map pt=SV at *
 simp only[pt] at e4 ⊢
 simp[aU,dZ,List.replicate,Et,Kf,hC,hw,hlen,hz,ai,e0,e1,e2,e3,e4,mo,Z0A,-Ŷ,-wQ,-sI]
theorem Z0m{S:List Hu.Pt}(h0:1≤S.length)(h8:S.length≤8)(hS:∀p∈S,B16 p)(c:Int):∃q:Hu.Pt,aU [.sh (.lst (S.map pt)),.sh (.int c)]=.ret (.sh (pt q))∧B16 q:=by
 have Et:aF 10 15=true:=by decide
 have Kf:aF 10 16=true:=by decide
 have hl:(S.map pt).length=S.length:=by simp
 have hz:¬S.length=0:=by omega
 obtain⟨C,hC⟩:∃C,c % 1000000000000000=C:=⟨_,rfl⟩
 have C0:0≤C:=by omega
 have C1:C<1000000000000000:=by omega
 have a1:(C / 5).fmod (S.length:Int)=C / 5 % (S.length:Int):=Int.fmod_eq_emod_of_nonneg _ (by omega)
 have b1:=Int.emod_nonneg (C / 5) (show(S.length:Int)≠0 by omega)
 have b2:=Int.emod_lt_of_pos (C / 5) (show(0:Int)<(S.length:Int) by omega)
 obtain⟨i,hi⟩:∃i:Nat,C / 5 % (S.length:Int)=(i:Int):=⟨(C / 5 % (S.length:Int)).toNat,by omega⟩
 have hi':i<S.length:=by omega
 have fo:cu (C / 5) (S.length:Int)=true:=xR (by omega) (by omega) (by omega)
 have hx:dj (S.map pt) (i:Int)=some (pt S[i]):=by
  unfold dj o_
  simp[hi']
 have hlen:aB [.lst (S.map pt)]=some (.int (S.length:Int)):=by simp
 have hw:C % 5=0∨C % 5=1∨C % 5=2∨C % 5=3∨C % 5=4:=by omega
 rcases hw with hw|hw|hw|hw|hw
 ·refine⟨(C / 40 % 11-5,C / 440 % 11-5),?_,by unfold B16;dsimp only;omega⟩
  generalize S.map pt=SV at *
  simp[aU,dZ,List.replicate,Et,Kf,hC,hw,hlen,hz,a1,hi,fo,pt,-Ŷ]
 ·refine⟨S[i],?_,hS _ (List.getElem_mem hi')⟩
  generalize S.map pt=SV at *
  simp[aU,dZ,List.replicate,Et,Kf,hC,hw,hlen,hz,a1,hi,fo,hx,-Ŷ]
 ·exact Z20 S h0 h8 hS hi' c hC (by rw[a1,hi]) hw
 ·exact Z21 S h0 h8 hS hi' c hC (by rw[a1,hi]) hw
 ·exact Z23 S h0 h8 hS hi' c hC (by rw[a1,hi]) hw
theorem Z1k{S:List Hu.Pt}(h0:S≠[])(q:Hu.Pt):Hu.Z7 S.reverse q=none↔Hu.Z7 S q=none:=by
 rw[Z0v h0,Z0v (by simpa using h0)]
 unfold Hul
 simp
theorem Z1s{S:List Hu.Pt}(h0:S≠[])(hS:∀p∈S,Sm p)(hn:S.length≤100){p:Hu.Pt}(hp:Sm p){sl:P.Slot}(hs:Sl sl (S.map pt)):dO [.sh (ZH S p).val,sl,.sh (pt p)]=.ret (.sh (.bl true)):=by
 rw[Z10]
 exact Z15 h0 hS hn hp hs
theorem Z24:ŵ (.str "in") (.str "in")=some (.bl false):=by
 rw[fZ (by unfold ű;decide +kernel) (by simp[dep])]
theorem Z25:ŵ (.str "out") (.str "out")=some (.bl false):=by
 rw[fZ (by unfold ű;decide +kernel) (by simp[dep])]
theorem Z18{S:List Hu.Pt}(h0:1≤S.length)(h8:S.length≤8)(hS:∀p∈S,B16 p){q:Hu.Pt}(hq:B16 q){Ls Ps:List PV}{i:Int}(hT:dj Ls i=some (.lst (S.map pt)))(hG:dj Ps i=some (pt q))(z0 z4 z5 z6:P.Slot) :
 ∃y4 y5 y6,mX [z0,.ow Ls,.ow Ps,.sh (.int i),z4,z5,z6]=.ok .nx [z0,.ow Ls,.ow Ps,.sh (.int i),y4,y5,y6]:=by
 have n0:S≠[]:=by intro z;rw[z] at h0;simp at h0
 have n1:S.reverse≠[]:=by simpa using n0
 have hSm:∀p∈S,Sm p:=fun p hp=>(hS p hp).sm
 have hSr:∀p∈S.reverse,Sm p:=fun p hp=>hSm p (by simpa using hp)
 have e1:=Z0i (S:=S) (sl:=.bw (S.map pt)) (.inr rfl) hSm n0 (by omega) hq.sm
 have e2:=Z0i (S:=S.reverse) (sl:=.sh (.lst (S.reverse.map pt))) (.inl rfl) hSr n1 (by simp;omega) hq.sm
 have e3:=Z1s (S:=S) n0 hSm (by omega) hq.sm (sl:=.sh (.lst (S.map pt))) (.inl rfl)
 have e4:=Z1s (S:=S.reverse) n1 hSr (by simp;omega) hq.sm (sl:=.sh (.lst (S.reverse.map pt))) (.inl rfl)
 have e5:ŵ (.lst (S.map pt)) (.lst (S.map pt))=some (.bl false):=fZ (by unfold ű;exact ZP S) (by unfold dep;have:=Z0s S;omega)
 have hr:(S.map pt).reverse=S.reverse.map pt:=by rw[List.map_reverse]
 have hi:=Z1k n0 q
 have hL:(uT S (Hu.Z4 S q)).length<16777216:=by
  unfold uT
  rw[List.length_map,Fr.ZV,List.length_replicate]
  omega
 unfold ZH at e1 e2 e3 e4
 generalize S.map pt=SV at *
 generalize S.reverse.map pt=SR at *
 cases e:Hu.Z7 S q with
 |none=>
  have e':=hi.mpr e
  rw[e] at e1 e3
  rw[e'] at e2 e4
  dsimp only at e1 e2 e3 e4
  simp only[HX,List.cons_append,List.nil_append] at e3 e4
  generalize uT S (Hu.Z4 S q)=L at *
  generalize uT S.reverse (Hu.Z4 S.reverse q)=L' at *
  generalize pt q=Q at *
  refine⟨.ow SV,.ot [.str "in"] (L ++ [.tup [.int 1,.int 1]]),.ot [.str "in"] L',?_⟩
  simp[mX,hT,hG,e1,e2,e3,e4,e5,hr,Z1q,Z24,hL]
 |some l=>
  obtain⟨l',e'⟩:∃l',Hu.Z7 S.reverse q=some l':=by
   cases z:Hu.Z7 S.reverse q with
   |none=>rw[hi.mp z] at e;cases e
   |some l'=>exact⟨l',rfl⟩
  rw[e] at e1 e3
  rw[e'] at e2 e4
  dsimp only at e1 e2 e3 e4
  simp only[RV.val] at e3 e4
  generalize bQ l=L at *
  generalize bQ l'=L' at *
  generalize pt q=Q at *
  refine⟨.ow SV,.sh (.tup [.str "out",L]),.sh (.tup [.str "out",L']),?_⟩
  simp[mX,hT,hG,e1,e2,e3,e4,e5,hr,Z1r,Z25]
abbrev FN(nm q:Str)(st:Stmt)(kV dc pm:Value)(an:Option Addr)(cd ct:Value):FuncData:=PySem.W.fnOf nm q (cW st) (aV st) (ċ st) .none kV dc pm an cd ct
abbrev LK(K:PySem.W.Frag)(g:Addr)(oc:Value)(od:Option Addr)(f:FuncData)(sl:Array (Option Value)):Prop:=K.lookup g=some ⟨oc,od,.func f,sl⟩
theorem Z1J{l:PySem.W.OpenLaw}{w:World}{K:PySem.W.Frag}{h:Heap}{mg:Str→Option Value}{fa:Addr}(X:K.In h)(G:h.Ns mainGlobals mg)(hfa:mg "law" =some (.ref fa))
 {C0 C1 g0 g1 g2 g3 g4 g5 g6 g7 g8 g9 Vw Vx Vy Vz VB VD VF VG VH VJ VL VN VP VR V_ Wa Wb g27:Addr}{od0 an0 od1 an1 od2 an2 od3 an3 od4 an4 od5 an5 od6 an6 od7 an7 od8 an8 od9 an9 ZaA P_ ZaB Qa ZaC Qc ZaD Qd ZaE Qe ZaF Qf ZaG Qg ZaH Qh ZaI Qi ZaJ Qj ZaK Qk ZaL Ql ZaM Qm ZaN Qn ZaO Qo ZaP Qp ZaQ Qq ZaR Jo:Option Addr}{sl0 Mp sl2 Nm sl4 sl5 sl6 sl7 sl8 sl9 ZaS ZaT ZaU ZaV ZaW ZaX ZaY ZaZ Za0 Za1 Za2 Za3 Za4 Za5 Za6 Za7 Za8 Za9:Array (Option Value)}{oc0 kV0 dc0 pm0 cd0 ct0 oc1 kV1 dc1 pm1 cd1 ct1 oc2 kV2 dc2 pm2 cd2 ct2 oc3 kV3 dc3 pm3 cd3 ct3 oc4 kV4 dc4 pm4 cd4 ct4 oc5 kV5 dc5 pm5 cd5 ct5 oc6 kV6 dc6 pm6 cd6 ct6 oc7 kV7 dc7 pm7 cd7 ct7 oc8 kV8 dc8 pm8 cd8 ct8 oc9 kV9 dc9 pm9 cd9 ct9 Za_ Qs Qt Qu Jp Qw Zba Qx Qy Qz Jq QB Zbb QC QD QF Jr QG Zbc QH QJ QK Js QL Zbd QM QS QT Jt QW Zbe QX QZ Q_ Ju Ra Zbf Rb Rf Rg Jv Rh Zbg Ri Rj Rk Jw Rm Zbh Rn Ro Rq Jx Rr Zbi Rt Ru Rv Jy Rw Zbj Rx Ry Rz Jz RB Zbk RD RJ RK JB RL Zbl RM RN RP JC RQ Zbm RT RW RX JD RZ Zbn R_ Sd Sg JF Sh Zbo Sq Ss Sv JG Sw Zbp Sx Sy SJ JH SM Zbq JK JL JM CN JN:Value}
 (u0:PySem.W.nsIn K mainGlobals "YardError" =some (some (.ref C0)))
 (u1:PySem.W.nsIn K mainGlobals "NoNumber" =some (some (.ref C1)))
 (a0:PySem.W.nsIn K mainGlobals "_law_cell" =some (some (.ref g0)))
 (l0:LK K g0 oc0 od0 (FN "_law_cell" "_law_cell" ou kV0 dc0 pm0 an0 cd0 ct0) sl0)
 (c0:PySem.W.codeIn K cd0 "_law_cell" =true)(k0:PySem.W.keepIn K (.ref g0)=true)
 (a1:PySem.W.nsIn K mainGlobals "_law_churn" =some (some (.ref g1)))
 (l1:LK K g1 oc1 od1 (FN "_law_churn" "_law_churn" oA kV1 dc1 pm1 an1 cd1 ct1) Mp)
 (c1:PySem.W.codeIn K cd1 "_law_churn" =true)(k1:PySem.W.keepIn K (.ref g1)=true)
 (a2:PySem.W.nsIn K mainGlobals "_law_point" =some (some (.ref g2)))
 (l2:LK K g2 oc2 od2 (FN "_law_point" "_law_point" oE kV2 dc2 pm2 an2 cd2 ct2) sl2)
 (c2:PySem.W.codeIn K cd2 "_law_point" =true)(k2:PySem.W.keepIn K (.ref g2)=true)
 (a3:PySem.W.nsIn K mainGlobals "_law_points" =some (some (.ref g3)))
 (l3:LK K g3 oc3 od3 (FN "_law_points" "_law_points" xY kV3 dc3 pm3 an3 cd3 ct3) Nm)
 (c3:PySem.W.codeIn K cd3 "_law_points" =true)(k3:PySem.W.keepIn K (.ref g3)=true)
 (a4:PySem.W.nsIn K mainGlobals "_law_pair" =some (some (.ref g4)))
 (l4:LK K g4 oc4 od4 (FN "_law_pair" "_law_pair" dJ kV4 dc4 pm4 an4 cd4 ct4) sl4)
 (c4:PySem.W.codeIn K cd4 "_law_pair" =true)(k4:PySem.W.keepIn K (.ref g4)=true)
 (a5:PySem.W.nsIn K mainGlobals "box_lines" =some (some (.ref g5)))
 (l5:LK K g5 oc5 od5 (FN "box_lines" "box_lines" jf kV5 dc5 pm5 an5 cd5 ct5) sl5)
 (c5:PySem.W.codeIn K cd5 "box_lines" =true)(k5:PySem.W.keepIn K (.ref g5)=true)
 (a6:PySem.W.nsIn K mainGlobals "each_once" =some (some (.ref g6)))
 (l6:LK K g6 oc6 od6 (FN "each_once" "each_once" oF kV6 dc6 pm6 an6 cd6 ct6) sl6)
 (c6:PySem.W.codeIn K cd6 "each_once" =true)(k6:PySem.W.keepIn K (.ref g6)=true)
 (a7:PySem.W.nsIn K mainGlobals "line_through" =some (some (.ref g7)))
 (l7:LK K g7 oc7 od7 (FN "line_through" "line_through" xZ kV7 dc7 pm7 an7 cd7 ct7) sl7)
 (c7:PySem.W.codeIn K cd7 "line_through" =true)(k7:PySem.W.keepIn K (.ref g7)=true)
 (a8:PySem.W.nsIn K mainGlobals "holds" =some (some (.ref g8)))
 (l8:LK K g8 oc8 od8 (FN "holds" "holds" oG kV8 dc8 pm8 an8 cd8 ct8) sl8)
 (c8:PySem.W.codeIn K cd8 "holds" =true)(k8:PySem.W.keepIn K (.ref g8)=true)
 (a9:PySem.W.nsIn K mainGlobals "edge_lines" =some (some (.ref g9)))
 (l9:LK K g9 oc9 od9 (FN "edge_lines" "edge_lines" kE kV9 dc9 pm9 an9 cd9 ct9) sl9)
 (c9:PySem.W.codeIn K cd9 "edge_lines" =true)(k9:PySem.W.keepIn K (.ref g9)=true)
 (a10:PySem.W.nsIn K mainGlobals "lines_about" =some (some (.ref Vw)))
 (l10:LK K Vw Za_ ZaA (FN "lines_about" "lines_about" yc Qs Qt Qu P_ Jp Qw) ZaS)
 (c10:PySem.W.codeIn K Jp "lines_about" =true)(k10:PySem.W.keepIn K (.ref Vw)=true)
 (a11:PySem.W.nsIn K mainGlobals "parting_line" =some (some (.ref Vx)))
 (l11:LK K Vx Zba ZaB (FN "parting_line" "parting_line" yd Qx Qy Qz Qa Jq QB) ZaT)
 (c11:PySem.W.codeIn K Jq "parting_line" =true)(k11:PySem.W.keepIn K (.ref Vx)=true)
 (a12:PySem.W.nsIn K mainGlobals "pairs_below" =some (some (.ref Vy)))
 (l12:LK K Vy Zbb ZaC (FN "pairs_below" "pairs_below" uK QC QD QF Qc Jr QG) ZaU)
 (c12:PySem.W.codeIn K Jr "pairs_below" =true)(k12:PySem.W.keepIn K (.ref Vy)=true)
 (a13:PySem.W.nsIn K mainGlobals "triples_below" =some (some (.ref Vz)))
 (l13:LK K Vz Zbc ZaD (FN "triples_below" "triples_below" uL QH QJ QK Qd Js QL) ZaV)
 (c13:PySem.W.codeIn K Js "triples_below" =true)(k13:PySem.W.keepIn K (.ref Vz)=true)
 (a14:PySem.W.nsIn K mainGlobals "greatest_divisor" =some (some (.ref VB)))
 (l14:LK K VB Zbd ZaE (FN "greatest_divisor" "greatest_divisor" yg QM QS QT Qe Jt QW) ZaW)
 (c14:PySem.W.codeIn K Jt "greatest_divisor" =true)(k14:PySem.W.keepIn K (.ref VB)=true)
 (a15:PySem.W.nsIn K mainGlobals "ratio" =some (some (.ref VD)))
 (l15:LK K VD Zbe ZaF (FN "ratio" "ratio" oH QX QZ Q_ Qf Ju Ra) ZaX)
 (c15:PySem.W.codeIn K Ju "ratio" =true)(k15:PySem.W.keepIn K (.ref VD)=true)
 (a16:PySem.W.nsIn K mainGlobals "spread" =some (some (.ref VF)))
 (l16:LK K VF Zbf ZaG (FN "spread" "spread" kI Rb Rf Rg Qg Jv Rh) ZaY)
 (c16:PySem.W.codeIn K Jv "spread" =true)(k16:PySem.W.keepIn K (.ref VF)=true)
 (a17:PySem.W.nsIn K mainGlobals "turned" =some (some (.ref VG)))
 (l17:LK K VG Zbg ZaH (FN "turned" "turned" oJ Ri Rj Rk Qh Jw Rm) ZaZ)
 (c17:PySem.W.codeIn K Jw "turned" =true)(k17:PySem.W.keepIn K (.ref VG)=true)
 (a18:PySem.W.nsIn K mainGlobals "shares_of_three" =some (some (.ref VH)))
 (l18:LK K VH Zbh ZaI (FN "shares_of_three" "shares_of_three" yh Rn Ro Rq Qi Jx Rr) Za0)
 (c18:PySem.W.codeIn K Jx "shares_of_three" =true)(SN:PySem.W.keepIn K (.ref VH)=true)
 (a19:PySem.W.nsIn K mainGlobals "are_weights" =some (some (.ref VJ)))
 (l19:LK K VJ Zbi ZaJ (FN "are_weights" "are_weights" kJ Rt Ru Rv Qj Jy Rw) Za1)
 (c19:PySem.W.codeIn K Jy "are_weights" =true)(SQ:PySem.W.keepIn K (.ref VJ)=true)
 (a20:PySem.W.nsIn K mainGlobals "shares_of_two" =some (some (.ref VL)))
 (l20:LK K VL Zbj ZaK (FN "shares_of_two" "shares_of_two" yj Rx Ry Rz Qk Jz RB) Za2)
 (c20:PySem.W.codeIn K Jz "shares_of_two" =true)(k20:PySem.W.keepIn K (.ref VL)=true)
 (a21:PySem.W.nsIn K mainGlobals "weights_of" =some (some (.ref VN)))
 (l21:LK K VN Zbk ZaL (FN "weights_of" "weights_of" jg RD RJ RK Ql JB RL) Za3)
 (c21:PySem.W.codeIn K JB "weights_of" =true)(k21:PySem.W.keepIn K (.ref VN)=true)
 (a22:PySem.W.nsIn K mainGlobals "held" =some (some (.ref VP)))
 (l22:LK K VP Zbl ZaM (FN "held" "held" oK RM RN RP Qm JC RQ) Za4)
 (c22:PySem.W.codeIn K JC "held" =true)(k22:PySem.W.keepIn K (.ref VP)=true)
 (a23:PySem.W.nsIn K mainGlobals "_law_fraction" =some (some (.ref VR)))
 (l23:LK K VR Zbm ZaN (FN "_law_fraction" "_law_fraction" yq RT RW RX Qn JD RZ) Za5)
 (c23:PySem.W.codeIn K JD "_law_fraction" =true)(k23:PySem.W.keepIn K (.ref VR)=true)
 (a24:PySem.W.nsIn K mainGlobals "_law_in" =some (some (.ref V_)))
 (l24:LK K V_ Zbn ZaO (FN "_law_in" "_law_in" gD R_ Sd Sg Qo JF Sh) Za6)
 (c24:PySem.W.codeIn K JF "_law_in" =true)(k24:PySem.W.keepIn K (.ref V_)=true)
 (a25:PySem.W.nsIn K mainGlobals "_law_out" =some (some (.ref Wa)))
 (l25:LK K Wa Zbo ZaP (FN "_law_out" "_law_out" kO Sq Ss Sv Qp JG Sw) Za7)
 (c25:PySem.W.codeIn K JG "_law_out" =true)(k25:PySem.W.keepIn K (.ref Wa)=true)
 (a26:PySem.W.nsIn K mainGlobals "_law_walked" =some (some (.ref Wb)))
 (l26:LK K Wb Zbp ZaQ (FN "_law_walked" "_law_walked" oM Sx Sy SJ Qq JH SM) Za8)
 (c26:PySem.W.codeIn K JH "_law_walked" =true)(k26:PySem.W.keepIn K (.ref Wb)=true)
 (a27:PySem.W.nsIn K mainGlobals "law" =some (some (.ref g27)))
 (l27:LK K g27 Zbq ZaR (FN "law" "law" gF JK JL JM Jo CN JN) Za9)
 (c27:PySem.W.codeIn K CN "law" =true)(k27:PySem.W.keepIn K (.ref g27)=true)
 (z0:PySem.W.nsIn K mainGlobals "abs" =some none)
 (z1:PySem.W.nsIn K mainGlobals "all" =some none)
 (z2:PySem.W.nsIn K mainGlobals "bool" =some none)
 (z3:PySem.W.nsIn K mainGlobals "divmod" =some none)
 (z4:PySem.W.nsIn K mainGlobals "int" =some none)
 (z5:PySem.W.nsIn K mainGlobals "isinstance" =some none)
 (z6:PySem.W.nsIn K mainGlobals "len" =some none)
 (z7:PySem.W.nsIn K mainGlobals "list" =some none)
 (z8:PySem.W.nsIn K mainGlobals "max" =some none)
 (z9:PySem.W.nsIn K mainGlobals "min" =some none)
 (z10:PySem.W.nsIn K mainGlobals "range" =some none)
 (z11:PySem.W.nsIn K mainGlobals "str" =some none)
 (z12:PySem.W.nsIn K mainGlobals "sum" =some none)
 (z13:PySem.W.nsIn K mainGlobals "tuple" =some none)
 (z14:PySem.W.nsIn K mainGlobals "zip" =some none)
 (q0:PySem.W.excIn K (Aj C0 C1 "YardError") wV Ht=true)
 (q1:PySem.W.keepIn K (.ref (Aj C0 C1 "YardError"))=true)
 (q2:cU K (Aj C0 C1 "YardError")=true)
 (q3:PySem.W.excIn K (Aj C0 C1 "NoNumber") wV Ht=true)
 (q4:PySem.W.keepIn K (.ref (Aj C0 C1 "NoNumber"))=true)
 (q5:cU K (Aj C0 C1 "NoNumber")=true)
 (q6:isC K (Aj C0 C1) Za=true)
 (q7:Ut K (Aj C0 C1) Zb=true)
 (q8:isD K (Aj C0 C1) Zc=true)
 (q9:Cr K Zd=true)
 :∃fd:FuncData,(∀(s:Shared) (v:Value),BindsTo s fd ⟨[v],[]⟩ [("_law_script",v)])∧∀base:Heap,K.In base→base.Ns mainGlobals mg→∃cm,Œ l.prog w K mg base (cg l.prog w) 6 fa fd ["_law_script"] (cF ⟨K,cm⟩ 1 jm):=by
 have e:=hfa.symm.trans (PySem.W.mg_of X G a27)
 cases e
 have F0:=ļ (st:=ou) l0 c0 k0
 have b0:=F0.binds (ps:=["_law_script","_law_at"]) fun _ _ _ _ _ _ us hl=>match us,hl with| [_,_],_=>rfl
 have F1:=ļ (st:=oA) l1 c1 k1
 have b1:=F1.binds (ps:=["_law_number","_law_k"]) fun _ _ _ _ _ _ us hl=>match us,hl with| [_,_],_=>rfl
 have F2:=ļ (st:=oE) l2 c2 k2
 have b2:=F2.binds (ps:=["_law_cell_here","_law_way","_law_kind","_law_k"]) fun _ _ _ _ _ _ us hl=>match us,hl with| [_,_,_,_],_=>rfl
 have F3:=ļ (st:=xY) l3 c3 k3
 have b3:=F3.binds (ps:=["_law_script","_law_at"]) fun _ _ _ _ _ _ us hl=>match us,hl with| [_,_],_=>rfl
 have F4:=ļ (st:=dJ) l4 c4 k4
 have b4:=F4.binds (ps:=["_law_points_here","_law_cell_here"]) fun _ _ _ _ _ _ us hl=>match us,hl with| [_,_],_=>rfl
 have F5:=ļ (st:=jf) l5 c5 k5
 have b5:=F5.binds (ps:=["points"]) fun _ _ _ _ _ _ us hl=>match us,hl with| [_],_=>rfl
 have F6:=ļ (st:=oF) l6 c6 k6
 have b6:=F6.binds (ps:=["points"]) fun _ _ _ _ _ _ us hl=>match us,hl with| [_],_=>rfl
 have F7:=ļ (st:=xZ) l7 c7 k7
 have b7:=F7.binds (ps:=["one","other"]) fun _ _ _ _ _ _ us hl=>match us,hl with| [_,_],_=>rfl
 have F8:=ļ (st:=oG) l8 c8 k8
 have b8:=F8.binds (ps:=["line","pair"]) fun _ _ _ _ _ _ us hl=>match us,hl with| [_,_],_=>rfl
 have F9:=ļ (st:=kE) l9 c9 k9
 have b9:=F9.binds (ps:=["points"]) fun _ _ _ _ _ _ us hl=>match us,hl with| [_],_=>rfl
 have F10:=ļ (st:=yc) l10 c10 k10
 have b10:=F10.binds (ps:=["points"]) fun _ _ _ _ _ _ us hl=>match us,hl with| [_],_=>rfl
 have F11:=ļ (st:=yd) l11 c11 k11
 have b11:=F11.binds (ps:=["points","point"]) fun _ _ _ _ _ _ us hl=>match us,hl with| [_,_],_=>rfl
 have F12:=ļ (st:=uK) l12 c12 k12
 have b12:=F12.binds (ps:=["many"]) fun _ _ _ _ _ _ us hl=>match us,hl with| [_],_=>rfl
 have F13:=ļ (st:=uL) l13 c13 k13
 have b13:=F13.binds (ps:=["many"]) fun _ _ _ _ _ _ us hl=>match us,hl with| [_],_=>rfl
 have F14:=ļ (st:=yg) l14 c14 k14
 have b14:=F14.binds (ps:=["one","other"]) fun _ _ _ _ _ _ us hl=>match us,hl with| [_,_],_=>rfl
 have F15:=ļ (st:=oH) l15 c15 k15
 have b15:=F15.binds (ps:=["top","bottom"]) fun _ _ _ _ _ _ us hl=>match us,hl with| [_,_],_=>rfl
 have F16:=ļ (st:=kI) l16 c16 k16
 have b16:=F16.binds (ps:=["shares","places","many"]) fun _ _ _ _ _ _ us hl=>match us,hl with| [_,_,_],_=>rfl
 have F17:=ļ (st:=oJ) l17 c17 k17
 have b17:=F17.binds (ps:=["one","other","third"]) fun _ _ _ _ _ _ us hl=>match us,hl with| [_,_,_],_=>rfl
 have F18:=ļ (st:=yh) l18 c18 SN
 have b18:=F18.binds (ps:=["corners","point"]) fun _ _ _ _ _ _ us hl=>match us,hl with| [_,_],_=>rfl
 have F19:=ļ (st:=kJ) l19 c19 SQ
 have b19:=F19.binds (ps:=["shares"]) fun _ _ _ _ _ _ us hl=>match us,hl with| [_],_=>rfl
 have F20:=ļ (st:=yj) l20 c20 k20
 have b20:=F20.binds (ps:=["ends","point"]) fun _ _ _ _ _ _ us hl=>match us,hl with| [_,_],_=>rfl
 have F21:=ļ (st:=jg) l21 c21 k21
 have b21:=F21.binds (ps:=["points","point"]) fun _ _ _ _ _ _ us hl=>match us,hl with| [_,_],_=>rfl
 have F22:=ļ (st:=oK) l22 c22 k22
 have b22:=F22.binds (ps:=["points","point"]) fun _ _ _ _ _ _ us hl=>match us,hl with| [_,_],_=>rfl
 have F23:=ļ (st:=yq) l23 c23 k23
 have b23:=F23.binds (ps:=["_law_found"]) fun _ _ _ _ _ _ us hl=>match us,hl with| [_],_=>rfl
 have F24:=ļ (st:=gD) l24 c24 k24
 have b24:=F24.binds (ps:=["_law_weights","_law_points_here","_law_point_here"]) fun _ _ _ _ _ _ us hl=>match us,hl with| [_,_,_],_=>rfl
 have F25:=ļ (st:=kO) l25 c25 k25
 have b25:=F25.binds (ps:=["_law_line","_law_points_here","_law_point_here"]) fun _ _ _ _ _ _ us hl=>match us,hl with| [_,_,_],_=>rfl
 have F26:=ļ (st:=oM) l26 c26 k26
 have b26:=F26.binds (ps:=["_law_found","_law_points_here","_law_point_here"]) fun _ _ _ _ _ _ us hl=>match us,hl with| [_,_,_],_=>rfl
 have F27:=ļ (st:=gF) l27 c27 k27
 have b27:=F27.binds (ps:=["_law_script"]) fun _ _ _ _ _ _ us hl=>match us,hl with| [_],_=>rfl
 have T:Tx K mg ⟨g0,FN "_law_cell" "_law_cell" ou kV0 dc0 pm0 an0 cd0 ct0,g1,FN "_law_churn" "_law_churn" oA kV1 dc1 pm1 an1 cd1 ct1,g2,FN "_law_point" "_law_point" oE kV2 dc2 pm2 an2 cd2 ct2,g3,FN "_law_points" "_law_points" xY kV3 dc3 pm3 an3 cd3 ct3,g4,FN "_law_pair" "_law_pair" dJ kV4 dc4 pm4 an4 cd4 ct4,g5,FN "box_lines" "box_lines" jf kV5 dc5 pm5 an5 cd5 ct5,g6,FN "each_once" "each_once" oF kV6 dc6 pm6 an6 cd6 ct6,g7,FN "line_through" "line_through" xZ kV7 dc7 pm7 an7 cd7 ct7,g8,FN "holds" "holds" oG kV8 dc8 pm8 an8 cd8 ct8,g9,FN "edge_lines" "edge_lines" kE kV9 dc9 pm9 an9 cd9 ct9,Vw,FN "lines_about" "lines_about" yc Qs Qt Qu P_ Jp Qw,Vx,FN "parting_line" "parting_line" yd Qx Qy Qz Qa Jq QB,Vy,FN "pairs_below" "pairs_below" uK QC QD QF Qc Jr QG,Vz,FN "triples_below" "triples_below" uL QH QJ QK Qd Js QL,VB,FN "greatest_divisor" "greatest_divisor" yg QM QS QT Qe Jt QW,VD,FN "ratio" "ratio" oH QX QZ Q_ Qf Ju Ra,VF,FN "spread" "spread" kI Rb Rf Rg Qg Jv Rh,VG,FN "turned" "turned" oJ Ri Rj Rk Qh Jw Rm,VH,FN "shares_of_three" "shares_of_three" yh Rn Ro Rq Qi Jx Rr,VJ,FN "are_weights" "are_weights" kJ Rt Ru Rv Qj Jy Rw,VL,FN "shares_of_two" "shares_of_two" yj Rx Ry Rz Qk Jz RB,VN,FN "weights_of" "weights_of" jg RD RJ RK Ql JB RL,VP,FN "held" "held" oK RM RN RP Qm JC RQ,VR,FN "_law_fraction" "_law_fraction" yq RT RW RX Qn JD RZ,V_,FN "_law_in" "_law_in" gD R_ Sd Sg Qo JF Sh,Wa,FN "_law_out" "_law_out" kO Sq Ss Sv Qp JG Sw,Wb,FN "_law_walked" "_law_walked" oM Sx Sy SJ Qq JH SM,fa,FN "law" "law" gF JK JL JM Jo CN JN,C0,C1⟩:=⟨F0,PySem.W.mg_of X G a0,b0,F1,PySem.W.mg_of X G a1,b1,F2,PySem.W.mg_of X G a2,b2,F3,PySem.W.mg_of X G a3,b3,F4,PySem.W.mg_of X G a4,b4,F5,PySem.W.mg_of X G a5,b5,F6,PySem.W.mg_of X G a6,b6,F7,PySem.W.mg_of X G a7,b7,F8,PySem.W.mg_of X G a8,b8,F9,PySem.W.mg_of X G a9,b9,F10,PySem.W.mg_of X G a10,b10,F11,PySem.W.mg_of X G a11,b11,F12,PySem.W.mg_of X G a12,b12,F13,PySem.W.mg_of X G a13,b13,F14,PySem.W.mg_of X G a14,b14,F15,PySem.W.mg_of X G a15,b15,F16,PySem.W.mg_of X G a16,b16,F17,PySem.W.mg_of X G a17,b17,F18,PySem.W.mg_of X G a18,b18,F19,PySem.W.mg_of X G a19,b19,F20,PySem.W.mg_of X G a20,b20,F21,PySem.W.mg_of X G a21,b21,F22,PySem.W.mg_of X G a22,b22,F23,PySem.W.mg_of X G a23,b23,F24,PySem.W.mg_of X G a24,b24,F25,PySem.W.mg_of X G a25,b25,F26,PySem.W.mg_of X G a26,b26,F27,PySem.W.mg_of X G a27,b27,PySem.W.mg_of X G u0,PySem.W.mg_of X G u1,q0,q1,q2,q3,q4,q5,xg q6,xq q7,xr q8,sG q9,PySem.W.mg_none_of X G z0,PySem.W.mg_none_of X G z1,PySem.W.mg_none_of X G z2,PySem.W.mg_none_of X G z3,PySem.W.mg_none_of X G z4,PySem.W.mg_none_of X G z5,PySem.W.mg_none_of X G z6,PySem.W.mg_none_of X G z7,PySem.W.mg_none_of X G z8,PySem.W.mg_none_of X G z9,PySem.W.mg_none_of X G z10,PySem.W.mg_none_of X G z11,PySem.W.mg_none_of X G z12,PySem.W.mg_none_of X G z13,PySem.W.mg_none_of X G z14⟩
 exact⟨PySem.W.fnOf "law" "law" (cW gF) (aV gF) (ċ gF) .none JK JL JM Jo CN JN,fun s v=>.of_eq rfl,fun base _ _=>⟨_,Jl T⟩⟩
theorem Z1l(ns:List Int)(hn:ns.length≤63):jm [.sh (.lst (ns.map .int))]=.ret (.sh (.bl true)):=by
 obtain⟨S,s1,s2,s3,s4⟩:=ZS ns 0
 obtain⟨R,r1,r2,r3,r4⟩:=ZS ns 9
 obtain⟨p,p1,p2⟩:=Z0m s2 s3 s4 (ns.getD 18 0)
 obtain⟨q,q1,q2⟩:=Z0m r2 r3 r4 (ns.getD 19 0)
 have SN:aH [.sh (.lst (ns.map .int)),.sh (.int 18)]=.ret (.sh (.int (ns.getD 18 0))):=Zn ns 18
 have SQ:aH [.sh (.lst (ns.map .int)),.sh (.int 19)]=.ret (.sh (.int (ns.getD 19 0))):=Zn ns 19
 have s1':jE [.sh (.lst (ns.map .int)),.sh (.int 0)]=_:=s1
 have r1':jE [.sh (.lst (ns.map .int)),.sh (.int 9)]=_:=r1
 have t0:∀(z0 z4 z5 z6:P.Slot),_:=fun z0 z4 z5 z6=>Z18 s2 s3 s4 p2 (Ls:=[.lst (S.map pt),.lst (R.map pt)]) (Ps:=[pt p,pt q]) (i:=0) rfl rfl z0 z4 z5 z6
 have t1:∀(z0 z4 z5 z6:P.Slot),_:=fun z0 z4 z5 z6=>Z18 r2 r3 r4 q2 (Ls:=[.lst (S.map pt),.lst (R.map pt)]) (Ps:=[pt p,pt q]) (i:=1) rfl rfl z0 z4 z5 z6
 generalize ns.getD 18 0=n18 at *
 generalize ns.getD 19 0=n19 at *
 generalize ns.map PV.int=NS at *
 generalize S.map pt=SV at *
 generalize R.map pt=RV' at *
 generalize pt p=Pv at *
 generalize pt q=Qv at *
 obtain⟨a4,a5,a6,f0⟩:=t0 (.sh (.lst NS)) .no .no .no
 obtain⟨b4,b5,b6,f1⟩:=t1 (.sh (.lst NS)) a4 a5 a6
 obtain⟨c4,c5,c6,f2⟩:=t0 (.sh (.lst NS)) b4 b5 b6
 simp[jm,qH,List.replicate,s1',r1',SN,SQ,p1,q1,forL,f0,f1,f2,-Zo]
theorem Z27{l:PySem.W.OpenLaw}{q:Program}{loose:List Str}{XP:(Str→Option Value)→Heap→Prop}{YP:World→Heap→Prop}{d:DefRec}{K:Params→PySem.W.Frag}(hn:l.most=some 63)(hdf:d.params.defaults=[])
 (hY:∀(w:World) (h:Heap),YP w h→(K w.params).In h)
 (F:∀(w:World) (mg:Str→Option Value) (fa:Addr) (h:Heap),(K w.params).In h→h.Ns mainGlobals mg→mg d.name=some (.ref fa)→
   ∃fd:FuncData,(∀(s:Shared) (u:Value),BindsTo s fd ⟨[u],[]⟩ [("_law_script",u)])∧∀base:Heap,(K w.params).In base→base.Ns mainGlobals mg→∃cm,Œ l.prog w (K w.params) mg base (cg l.prog w) 6 fa fd ["_law_script"] (cF ⟨K w.params,cm⟩ 1 jm)) :
 PySem.W.WalkO q loose XP YP l.row.toRowW d [] (fun f vs=>PySem.call f vs):=
 P.uF (k:=6) (x:= "_law_script") (m:=jm) hn hdf ⟨rfl,by decide,by decide⟩ hY F Z1l
end T
namespace PySem.W.Fast
def tw6703159577329683123:=0
def tw4457747654177745995:=0
def tw1611182989696733390:=0
def tw16632080975730255878:=0
def tw1483084548786600806:=0
def tw14906134110268269705:=0
def tw12053460522955532477:=0
def tw16863430606523865614:=0
def tw5861748236639333943:=0
def tw17183369581238787577:=0
def tw2593180320140228488:=0
def tw17694497876559702051:=0
def tw3058532901699131436:=0
def tw3170201847107489422:=0
def tw17217407937358153933:=0
def tw12720188816370561822:=0
def tw11616248241233791849:=0
def tw8880729134092887056:=0
def tw1706510372707467528:=0
def tw16274109185042415321:=0
def tw7511873607721634231:=0
def tw10417577951039121274:=0
def tw10914198033556055335:=0
def tw6484980001230832703:=0
def tw160589286562409406:=0
def tw16468441110517035915:=0
def tw14137753074907609920:=0
def tw12392200672226771482:=0
def tw329072260658245857:=0
def tw17387624700381832495:=0
def tw6461743691344848129:=0
def tw14760363963179207874:=0
def tw17820487558487675875:=0
def tw6989530982001248508:=0
def tw15720399934482240481:=0
def tw12154980234425160624:=0
def tw11734726101866367207:=0
def tw4757383675772276897:=0
def tw17321468997615201144:=0
def tw13915139623495686928:=0
def tw14909102429388913979:=0
def tw6810008173555023494:=0
def tw16462185210854180456:=0
def tw17932176989108881816:=0
def tw3379662870210778169:=0
def tw3054289576792569589:=0
def tw5592752030479878661:=0
def tw12435467077673913550:=0
def tw10143699050944987989:=0
def tw11474495876333000517:=0
def tw10946890118686021277:=0
def tw14502258796831991284:=0
def tw12916935113656287419:=0
def tw3668055120309442351:=0
def tw2093120108609989397:=0
def tw6997045018882906503:=0
def tw577077653784819409:=0
def tw2471481506223520282:=0
def tw10018305699827665036:=0
def tw6381298357648577735:=0
def tw18371780185216679148:=0
def tw12497012783603425909:=0
def tw14921930048209556246:=0
def tw11972488461244763301:=0
def tw12540194971535779:=0
def tw7017370418639815067:=0
def tw3472723358919163316:=0
def tw2454750519232590083:=0
def tw231464909901101819:=0
def tw3777676436139001772:=0
def tw672474111042375302:=0
def tw11085567289619695190:=0
def tw6082568165356629983:=0
def tw12343222537316240237:=0
def tw3060481934241069630:=0
def tw16911605142488972987:=0
def tw2359777766583785828:=0
def tw14324278467216799024:=0
def tw16553509978456616218:=0
def tw1275228206827883118:=0
def tw5419100893230118368:=0
def tw13117960432219152842:=0
def tw2580624991645588331:=0
def tw9489966693613526134:=0
def tw7262143887511648795:=0
def tw1463200141563067411:=0
def tw885870657317008028:=0
def tw6197509489650993515:=0
def tw3226275570238561078:=0
def tw6587251640028154007:=0
def tw4723533503574992960:=0
def tw16387858628058217020:=0
def tw17251296974710923873:=0
def tw6847914294652165930:=0
def tw225148159770147991:=0
def tw8320280087971533845:=0
def tw10089850612614653770:=0
def tw12382058280877309444:=0
def tw2805193909902524966:=0
def tw7564563475656981810:=0
def tw13318050413730518942:=0
def tw935352216557178581:=0
def tw16578026531786557336:=0
def tw4702540356073957398:=0
def tw4225234232342117098:=0
def tw17743816210785554431:=0
def tw1011485867672014197:=0
def tw4224461631166889955:=0
def tw894807108992956301:=0
def tw12647905439169475271:=0
def tw9520199860599147818:=0
def tw16597061993330901887:=0
def tw4135901693100285036:=0
def tw8960070226996072224:=0
def tw15748418483569379372:=0
def tw12085367404561845196:=0
def tw16721978589028337612:=0
def tw9975775599741994428:=0
def tw10260823626310167643:=0
def tw1785061357071129655:=0
def tw8475209874246462302:=0
def tw4792544785578394727:=0
def tw14280840008014744675:=0
def tw14377620964227932684:=0
def tw4893090409607289602:=0
def tw1094241564729211883:=0
def tw4278868921629283883:=0
def tw12255188469045714033:=0
def tw4327390516065742550:=0
def tw16224250479500740979:=0
def tw17586304069040607472:=0
def tw12180646546715048968:=0
def tw9599191967413981363:=0
def tw9131505524720842921:=0
def tw13052922797955274193:=0
def tw14068977848798486589:=0
def tw10386512393213129821:=0
def tw8213733188057392366:=0
def tw15839503759569637017:=0
def tw1252610596479668019:=0
def tw14954892782523834043:=0
def tw15392362532622105727:=0
def tw14973194515444588965:=0
def tw10806553711292561105:=0
def tw4880346526577026589:=0
def tw16238061948231149378:=0
def tw1197124020030951310:=0
def tw8631972591573462128:=0
def tw6660648247059755242:=0
def tw15801907150356347288:=0
def tw9545193240964584097:=0
def tw13213532131678323247:=0
def tw13456456917873049871:=0
def tw12074592586520096624:=0
def tw4114042976813688775:=0
def tw13794801511295976049:=0
def tw2496929342812072562:=0
def tw534745684261411248:=0
def tw2067566697868105854:=0
def tw11733210032864357920:=0
def tw3959982929237786333:=0
def tw6881641851035138293:=0
def tw3821407250479714570:=0
def tw5589270595849882953:=0
def tw7249983658064772326:=0
def tw13583152226926555721:=0
def tw1956304671738807093:=0
def tw2487319892152192813:=0
def tw6718445995576946162:=0
def tw11954283086417719324:=0
def tw18264788243309312543:=0
def tw8662006371435288154:=0
def tw3678614472830062049:=0
def tw4317766803639240184:=0
def tw11303742021094367744:=0
def tw2754699031724941963:=0
def tw13988686874735342128:=0
def tw2362862397239287767:=0
def tw5458052672337691390:=0
def tw15178209219280486846:=0
def tw11737407584481012918:=0
def tw989658942062688304:=0
def tw17603685007236326890:=0
def tw5309399295290992895:=0
def tw2562443243847557310:=0
def tw1795397596057283684:=0
def tw4449912775001261107:=0
def tw18189281231557015678:=0
def tw7767915866211258809:=0
def tw17375151978373351972:=0
def tw9396279979258342272:=0
def tw4085358213335338500:=0
def tw9680306274783534293:=0
def tw985011808767733245:=0
def tw5340397007696727875:=0
end PySem.W.Fast
open PySem PySem.W PyProof.Rows
set_option maxRecDepth 100000 in
set_option maxHeartbeats 0 in
theorem PySem.Challenge.cw_shadowpost_k26_weights_or_a_line_holds : PySem.Challenge.rw_shadowpost_k26_weights_or_a_line.Holds := by
 w_on;o_law;k_head;(case hw=>w_witness2)
 k_fill
 refine T.Z27 (l:=PySem.Challenge.rw_shadowpost_k26_weights_or_a_line) rfl rfl (fun w h Y=>PySem.W.kIn_of Y) ?F
 case F=>
  intro w mg fa h KX G hmg
  refine' T.Z1J KX G hmg ?u0 ?u1 ?a0 ?l0 ?c0 ?k0 ?a1 ?l1 ?c1 ?k1 ?a2 ?l2 ?c2 ?k2 ?a3 ?l3 ?c3 ?k3 ?a4 ?l4 ?c4 ?k4 ?a5 ?l5 ?c5 ?k5 ?a6 ?l6 ?c6 ?k6 ?a7 ?l7 ?c7 ?k7 ?a8 ?l8 ?c8 ?k8 ?a9 ?l9 ?c9 ?k9 ?a10 ?l10 ?c10 ?k10 ?a11 ?l11 ?c11 ?k11 ?a12 ?l12 ?c12 ?k12 ?a13 ?l13 ?c13 ?k13 ?a14 ?l14 ?c14 ?k14 ?a15 ?l15 ?c15 ?k15 ?a16 ?l16 ?c16 ?k16 ?a17 ?l17 ?c17 ?k17 ?a18 ?l18 ?c18 ?SN ?a19 ?l19 ?c19 ?SQ ?a20 ?l20 ?c20 ?k20 ?a21 ?l21 ?c21 ?k21 ?a22 ?l22 ?c22 ?k22 ?a23 ?l23 ?c23 ?k23 ?a24 ?l24 ?c24 ?k24 ?a25 ?l25 ?c25 ?k25 ?a26 ?l26 ?c26 ?k26 ?a27 ?l27 ?c27 ?k27 ?z0 ?z1 ?z2 ?z3 ?z4 ?z5 ?z6 ?z7 ?z8 ?z9 ?z10 ?z11 ?z12 ?z13 ?z14 ?q0 ?q1 ?q2 ?q3 ?q4 ?q5 ?q6 ?q7 ?q8 ?q9
  (case u0=>k_is)
  (case u1=>k_is)
  (case a0=>k_is)
  (case l0=>unfold T.LK T.FN;k_is)
  (case c0=>k_is)
  (case k0=>k_is)
  (case a1=>k_is)
  (case l1=>unfold T.LK T.FN;k_is)
  (case c1=>k_is)
  (case k1=>k_is)
  (case a2=>k_is)
  (case l2=>unfold T.LK T.FN;k_is)
  (case c2=>k_is)
  (case k2=>k_is)
  (case a3=>k_is)
  (case l3=>unfold T.LK T.FN;k_is)
  (case c3=>k_is)
  (case k3=>k_is)
  (case a4=>k_is)
  (case l4=>unfold T.LK T.FN;k_is)
  (case c4=>k_is)
  (case k4=>k_is)
  (case a5=>k_is)
  (case l5=>unfold T.LK T.FN;k_is)
  (case c5=>k_is)
  (case k5=>k_is)
  (case a6=>k_is)
  (case l6=>unfold T.LK T.FN;k_is)
  (case c6=>k_is)
  (case k6=>k_is)
  (case a7=>k_is)
  (case l7=>unfold T.LK T.FN;k_is)
  (case c7=>k_is)
  (case k7=>k_is)
  (case a8=>k_is)
  (case l8=>unfold T.LK T.FN;k_is)
  (case c8=>k_is)
  (case k8=>k_is)
  (case a9=>k_is)
  (case l9=>unfold T.LK T.FN;k_is)
  (case c9=>k_is)
  (case k9=>k_is)
  (case a10=>k_is)
  (case l10=>unfold T.LK T.FN;k_is)
  (case c10=>k_is)
  (case k10=>k_is)
  (case a11=>k_is)
  (case l11=>unfold T.LK T.FN;k_is)
  (case c11=>k_is)
  (case k11=>k_is)
  (case a12=>k_is)
  (case l12=>unfold T.LK T.FN;k_is)
  (case c12=>k_is)
  (case k12=>k_is)
  (case a13=>k_is)
  (case l13=>unfold T.LK T.FN;k_is)
  (case c13=>k_is)
  (case k13=>k_is)
  (case a14=>k_is)
  (case l14=>unfold T.LK T.FN;k_is)
  (case c14=>k_is)
  (case k14=>k_is)
  (case a15=>k_is)
  (case l15=>unfold T.LK T.FN;k_is)
  (case c15=>k_is)
  (case k15=>k_is)
  (case a16=>k_is)
  (case l16=>unfold T.LK T.FN;k_is)
  (case c16=>k_is)
  (case k16=>k_is)
  (case a17=>k_is)
  (case l17=>unfold T.LK T.FN;k_is)
  (case c17=>k_is)
  (case k17=>k_is)
  (case a18=>k_is)
  (case l18=>unfold T.LK T.FN;k_is)
  (case c18=>k_is)
  (case SN=>k_is)
  (case a19=>k_is)
  (case l19=>unfold T.LK T.FN;k_is)
  (case c19=>k_is)
  (case SQ=>k_is)
  (case a20=>k_is)
  (case l20=>unfold T.LK T.FN;k_is)
  (case c20=>k_is)
  (case k20=>k_is)
  (case a21=>k_is)
  (case l21=>unfold T.LK T.FN;k_is)
  (case c21=>k_is)
  (case k21=>k_is)
  (case a22=>k_is)
  (case l22=>unfold T.LK T.FN;k_is)
  (case c22=>k_is)
  (case k22=>k_is)
  (case a23=>k_is)
  (case l23=>unfold T.LK T.FN;k_is)
  (case c23=>k_is)
  (case k23=>k_is)
  (case a24=>k_is)
  (case l24=>unfold T.LK T.FN;k_is)
  (case c24=>k_is)
  (case k24=>k_is)
  (case a25=>k_is)
  (case l25=>unfold T.LK T.FN;k_is)
  (case c25=>k_is)
  (case k25=>k_is)
  (case a26=>k_is)
  (case l26=>unfold T.LK T.FN;k_is)
  (case c26=>k_is)
  (case k26=>k_is)
  (case a27=>k_is)
  (case l27=>unfold T.LK T.FN;k_is)
  (case c27=>k_is)
  (case k27=>k_is)
  (case z0=>k_is)
  (case z1=>k_is)
  (case z2=>k_is)
  (case z3=>k_is)
  (case z4=>k_is)
  (case z5=>k_is)
  (case z6=>k_is)
  (case z7=>k_is)
  (case z8=>k_is)
  (case z9=>k_is)
  (case z10=>k_is)
  (case z11=>k_is)
  (case z12=>k_is)
  (case z13=>k_is)
  (case z14=>k_is)
  (case q0=>kernel_rfl)
  (case q1=>kernel_rfl)
  (case q2=>kernel_rfl)
  (case q3=>kernel_rfl)
  (case q4=>kernel_rfl)
  (case q5=>kernel_rfl)
  (case q6=>kernel_rfl)
  (case q7=>kernel_rfl)
  (case q8=>kernel_rfl)
  (case q9=>kernel_rfl)
