import PyProof.Rows.All
import Wide.All
import OpenK.AllK
import Wide.FinOn
import Lean
import PyProof.EqAt
import PyProof.EqKinds
import PyProof.TupleCall
import PySem.Challenge.RW_shadowpost_k33_lit_turns
set_option Elab.async false
set_option linter.all false
set_option maxRecDepth 100000
set_option maxHeartbeats 4000000
namespace L2
open PySem PySem.Spec PyProof.Rows
abbrev Key:=Sum Int Str
def Uc:Key→Value→Bool
 | .inl k,v=>Value.isInt k v
 | .inr x,v=>Value.isStrOf x v
def Zkb(w:World):Key→Int
 | .inl k=>hashInt k
 | .inr x=>hashStr w x
theorem ş:∀{k:Key} {v:Value},Uc k v=true→(∃i t,k=Sum.inl i∧v=Value.int i t)∨(∃x t,k=Sum.inr x∧v=Value.str x t)
 | .inl i,v,h=>by
   obtain⟨t,e⟩:=Value.isInt_shape (k:=i) (v:=v) h
   exact .inl ⟨i,t,rfl,e⟩
 | .inr x,v,h=>by
   obtain⟨t,e⟩:=Value.isStrOf_shape (x:=x) (v:=v) h
   exact .inr ⟨x,t,rfl,e⟩
theorem Wz(a b:Int):decide ((Sum.inl a:Key)=Sum.inl b)=(a== b):=by
 by_cases e:a=b
 ·subst e;simp
 ·have h:¬(Sum.inl a:Key)=Sum.inl b:=fun q=>e (Sum.inl.inj q)
  rw[decide_eq_false h]
  exact(beq_eq_false_iff_ne.mpr e).symm
theorem WD(a b:Str):decide ((Sum.inr a:Key)=Sum.inr b)=decide (a=b):=by
 by_cases e:a=b
 ·subst e;simp
 ·have h:¬(Sum.inr a:Key)=Sum.inr b:=fun q=>e (Sum.inr.inj q)
  rw[decide_eq_false h,decide_eq_false e]
theorem WK(a:Int)(b:Str):decide ((Sum.inl a:Key)=Sum.inr b)=false:=decide_eq_false (fun q=>nomatch q)
theorem WL(a:Str)(b:Int):decide ((Sum.inr a:Key)=Sum.inl b)=false:=decide_eq_false (fun q=>nomatch q)
def sV(prog:Program)(w:World):PySem.KeyKind prog w Key where
 is:=Uc
 hash:=Zkb w
 inj:=fun v a b ha hb=>by
  rcases ş ha with⟨i,t,rfl,rfl⟩|⟨x,t,rfl,rfl⟩
  ·rcases ş hb with⟨j,u,rfl,e⟩|⟨y,u,rfl,e⟩
   ·injection e with e1 _;rw[e1]
   ·exact nomatch e
  ·rcases ş hb with⟨j,u,rfl,e⟩|⟨y,u,rfl,e⟩
   ·exact nomatch e
   ·injection e with e1 _;rw[e1]
 byValue:=fun k v h=>by
  rcases ş h with⟨i,t,rfl,rfl⟩|⟨x,t,rfl,rfl⟩<;>rfl
 pyHash:=fun hv h=>by
  rcases ş hv with⟨i,t,rfl,rfl⟩|⟨x,t,rfl,rfl⟩
  ·exact wpAny_pyHash_int h
  ·exact wpAny_pyHash_str h
 eqBool:=fun hu hv h=>by
  rcases ş hu with⟨i,t,rfl,rfl⟩|⟨x,t,rfl,rfl⟩
  ·rcases ş hv with⟨j,u,rfl,rfl⟩|⟨y,u,rfl,rfl⟩
   ·rw[Wz] at h;exact wpAny_eqBool_int h
   ·rw[WK] at h;exact SeqAt.EqAt.int_str i t y u _ _ _ _ h
  ·rcases ş hv with⟨j,u,rfl,rfl⟩|⟨y,u,rfl,rfl⟩
   ·rw[WL] at h;exact SeqAt.EqAt.str_int x t j u _ _ _ _ h
   ·rw[WD] at h;exact wpAny_eqBool_str h
 «strs» := fun k x t v h=>by
   rcases ş h with⟨i,u,rfl,e⟩|⟨y,u,rfl,e⟩
   ·exact nomatch e
   ·injection e with e1 _
    subst e1
    cases v<;>rfl
end L2
namespace L2
open PySem PySem.Spec PyProof.Rows
inductive V where
 |non|bl (b:Bool)|int (i:Int)|str (x:Str)|Ud (b:Array UInt8)|flt (b:UInt64)|ref (a:Addr)|ty (n:String)
 deriving DecidableEq
def RelV:V→Value→Prop
 | .non,u=>u=Value.none
 | .bl b,u=>u=Value.bool b
 | .int i,u=>∃t,u=Value.int i t
 | .str x,u=>∃t,u=Value.str x t
 | .Ud b,u=>∃t,u=Value.bytes b t
 | .flt b,u=>∃t,u=Value.float b t
 | .ref a,u=>u=Value.ref a
 | .ty n,u=>u=Value.type n
abbrev Vals:List V→List Value→Prop:=Paired RelV
theorem Vals.length{xs:List V}{us:List Value}(r:Vals xs us):xs.length=us.length:=Paired.length r
theorem Vals.get:∀{xs:List V} {us:List Value} {i:Nat} {x:V},Vals xs us→xs[i]?=some x→∃u,us[i]?=some u∧RelV x u
 |_,_,_,_,.nil,e=>by simp at e
 |_,_,0,_,.cons r _,e=>by simp at e;subst e;exact⟨_,rfl,r⟩
 |_,_,i+1,x,.cons _ t,e=>by
  obtain⟨u,h1,h2⟩:=Vals.get (i:=i) (x:=x) t (by simpa using e)
  exact⟨u,by simpa using h1,h2⟩
theorem Vals.set{x:V}{u:Value}(r:RelV x u):∀{xs:List V} {us:List Value} (i:Nat),Vals xs us→Vals (xs.set i x) (us.set i u)
 |_,_,_,.nil=>.nil
 |_,_,0,.cons _ t=>.cons r t
 |_,_,i+1,.cons q t=>.cons q (Vals.set r i t)
theorem Vals.append:∀{xs ys:List V} {us ws:List Value},Vals xs us→Vals ys ws→Vals (xs++ys) (us++ws)
 |_,_,_,_,.nil,s=>s
 |_,_,_,_,.cons r t,s=>.cons r (Vals.append t s)
theorem Vals.take:∀{xs:List V} {us:List Value} (n:Nat),Vals xs us→Vals (xs.take n) (us.take n)
 |_,_,0,_=>.nil
 |_,_,_+1,.nil=>.nil
 |_,_,n+1,.cons r t=>.cons r (Vals.take n t)
theorem Vals.drop:∀{xs:List V} {us:List Value} (n:Nat),Vals xs us→Vals (xs.drop n) (us.drop n)
 |_,_,0,r=>r
 |_,_,_+1,.nil=>.nil
 |_,_,n+1,.cons _ t=>Vals.drop n t
def jL:Option V→Option Value→Prop
 |some v,some u=>RelV v u
 |none,none=>True
 |_,_=>False
def KV{κ:Type}:List (κ×V)→List (κ×Value)→Prop:=Paired fun(p:κ×V) (q:κ×Value)=>p.1=q.1∧RelV p.2 q.2
def kV:Key→V
 | .inl i=>.int i
 | .inr x=>.str x
inductive HO where
 /-- a list -/
 |lst (xs:List V)
 /-- a tuple (never changes) -/
 |tup (xs:List V)
 /-- a dict whose keys are ints and texts;one whose keys are tuples of ints and texts (the empty one is both) -/
 |dK (kvs:List (Key×V))|dT (kvs:List (List Key×V))
 /-- a set of ints:its members,its size -/
 |set (S:Int→Bool) (n:Nat)
 /-- an instance of the class at C,its dict at dx,its attributes -/
 |ins (C dx:Addr) (fs:List (Str×V))
 /-- the dict of the instance at x -/
 |own (x:Addr)
 /-- the dict of an exception -/
 |xd (fs:List (Str×V))
 /-- a bound method,f of x -/
 |met (f x:Addr)
 /-- a range object lo,lo+1,.. below hi -/
 |rng (lo hi:Int)
 /-- a thing that is known to the object (the script;a dict while a loop walks it):read,never written while it is so -/
 |cX (o:Obj) (u:HO)
 /-- a code object's table -/
 |pN (ps:Array Value)
 /-- any other thing,by what is true of its one object (a def of one's own:Zpb a S n:=HO.ext fun h=>..) -/
 |ext (φ:Heap→Prop)
abbrev Hp:=Addr→Option HO
def upd(H:Hp)(a:Addr)(o:HO):Hp:=fun b=>if b=a then some o else H b
theorem ī{H:Hp}{a:Addr}{o:HO}:upd H a o a=some o:=by unfold upd;rw[if_pos rfl]
theorem ğ{H:Hp}{a b:Addr}{o:HO}(h:b≠a):upd H a o b=H b:=by unfold upd;rw[if_neg h]
theorem Ļ{H:Hp}{a b:Addr}{o:HO}(h:H a=some o)(h':H b=none):a≠b:=by
 intro e;subst e;rw[h] at h';cases h'
section
variable(P:Program)(w:World)
def ū(H:Hp)(h:Heap)(a:Addr):HO→Prop
 | .lst xs=>xs.length≤sizeLine∧∃(its:List Value) (n:Nat),Vals xs its∧h.get? a=some {cls:=.type "list",data:=.seq its.toArray n}
 | .tup xs=>xs.length≤sizeLine∧∃its:List Value,Vals xs its∧IsTup h a its.toArray
 | .dK kvs=>kvs.length≤sizeLine∧(a== sysModules)=false∧∃vs,KV kvs vs∧h.DictOf (sV P w) a vs
 | .dT kvs=>kvs.length≤sizeLine∧(a== sysModules)=false∧∃xs:List (List Key×Addr×Value),
     Paired (fun(p:List Key×V) (q:List Key×Addr×Value)=>p.1=q.1∧H q.2.1=some (.tup (p.1.map kV))∧RelV p.2 q.2.2) kvs xs∧
     ∃o es ep,h.get? a=some o∧o.ExactDict∧o.data=.dict es ep∧es.toList=xs.map (entryOfKey (tupleKind (sV P w)))∧(xs.map (·.1)).Nodup
 | .set S n=>h.SetOf (intKind P w) a S n
 | .ins C dx fs=>H dx=some (.own a)∧fs.length≤1000∧dx≠a∧h.get? a=some (PySem.W.instObj C dx)∧
     ∃mA,h.Ns1 dx mA∧(∀f,jL (fs.lookup f) (mA f))∧PySem.Within mA (fs.map (·.1))
 | .own _=>∃o,h.get? a=some o
 | .xd fs=>∃mA,h.Ns1 a mA∧∀f,jL (fs.lookup f) (mA f)
 | .rng lo hi=>∃t u v,h.get? a=some {cls:=.type "range",data:=.fields #[.int lo t,.int hi u,.int 1 v]}
 | .cX o u=>h.get? a=some o∧ū H h a u
 | .pN ps=>h.get? a=some {cls:=.none,data:=.fields ps}
 | .met f x=>h.get? a=some (PySem.W.methodObj (.ref f) (.ref x))
 | .ext φ=>φ h∧(∃o,h.get? a=some o)∧∀h1 h2:Heap,φ h1→(∀o,h1.get? a=some o→h2.get? a=some o)→φ h2
def fG(H:Hp)(h:Heap):Prop:=∀a o,H a=some o→ū P w H h a o
end
section
variable{P:Program}{w:World}{H H':Hp}{h h':Heap}{a:Addr}{o:HO}
theorem ū.lt(x:ū P w H h a o):a<h.objs.size:=by
 cases o with
 |lst xs=>obtain⟨_,_,_,_,e⟩:=x;exact Heap.lt_size e
 |tup xs=>obtain⟨_,_,_,p⟩:=x;exact p.lt
 |dK kvs=>obtain⟨_,_,_,_,o,_,_,e,_⟩:=x;exact Heap.lt_size e
 |dT kvs=>obtain⟨_,_,_,_,o,_,_,e,_⟩:=x;exact Heap.lt_size e
 |set S n=>obtain⟨o,_,_,_,e,_⟩:=x;exact Heap.lt_size e
 |ins C dx fs=>obtain⟨_,_,_,e,_⟩:=x;exact Heap.lt_size e
 |own y=>obtain⟨_,e⟩:=x;exact Heap.lt_size e
 |xd fs=>obtain⟨_,⟨_,_,_,e,_⟩,_⟩:=x;exact Heap.lt_size e
 |rng lo hi=>obtain⟨_,_,_,e⟩:=x;exact Heap.lt_size e
 |cX ob u=>obtain⟨e,_⟩:=x;exact Heap.lt_size e
 |pN ps=>exact Heap.lt_size (show h.get? a=some _ from x)
 |met f y=>exact Heap.lt_size (show h.get? a=some _ from x)
 |ext φ=>obtain⟨_,⟨_,e⟩,_⟩:=x;exact Heap.lt_size e
theorem Paired.ZcK{α β:Type}{F G:α→β→Prop}:∀{l₁:List α} {l₂:List β},Paired F l₁ l₂→(∀a b,F a b→G a b)→Paired G l₁ l₂
 |_,_,.nil,_=>.nil
 |_,_,.cons r t,f=>.cons (f _ _ r) (Paired.ZcK t f)
theorem ū.stay(x:ū P w H h a o)(k:∀b u,(b=a∨H b=some (.own a))→h.get? b=some u→h'.get? b=some u)
 (ho:∀b,H b=some (.own a)→H' b=some (.own a))(ht:∀b xs,H b=some (.tup xs)→H' b=some (.tup xs)):ū P w H' h' a o:=by
 induction o with
 |lst xs=>obtain⟨z,its,n,r,e⟩:=x;exact⟨z,its,n,r,k _ _ (.inl rfl) e⟩
 |tup xs=>obtain⟨z,its,r,ob,e,c⟩:=x;exact⟨z,its,r,ob,k _ _ (.inl rfl) e,c⟩
 |dK kvs=>obtain⟨z,y,vs,r,ob,es,ep,e,c⟩:=x;exact⟨z,y,vs,r,ob,es,ep,k _ _ (.inl rfl) e,c⟩
 |dT kvs=>
  obtain⟨z,y,xs,r,ob,es,ep,e,c⟩:=x
  exact⟨z,y,xs,Paired.ZcK r fun p q z=>⟨z.1,ht _ _ z.2.1,z.2.2⟩,ob,es,ep,k _ _ (.inl rfl) e,c⟩
 |set S n=>obtain⟨ob,es,ep,t,e,c⟩:=x;exact⟨ob,es,ep,t,k _ _ (.inl rfl) e,c⟩
 |ins C dx fs=>
  obtain⟨d,z,ne,e,mA,⟨od,es,ep,e2,c⟩,r⟩:=x
  exact⟨ho _ d,z,ne,k _ _ (.inl rfl) e,mA,⟨od,es,ep,k _ _ (.inr d) e2,c⟩,r⟩
 |own y=>obtain⟨ob,e⟩:=x;exact⟨ob,k _ _ (.inl rfl) e⟩
 |xd fs=>obtain⟨mA,⟨od,es,ep,e,c⟩,r⟩:=x;exact⟨mA,⟨od,es,ep,k _ _ (.inl rfl) e,c⟩,r⟩
 |rng lo hi=>obtain⟨t,u,v,e⟩:=x;exact⟨t,u,v,k _ _ (.inl rfl) e⟩
 |cX ob u ih=>obtain⟨e,q⟩:=x;exact⟨k _ _ (.inl rfl) e,ih q⟩
 |pN ps=>
  have e:h.get? a=some {cls:=.none,data:=.fields ps}:=x
  show h'.get? a=some {cls:=.none,data:=.fields ps}
  exact k a _ (.inl rfl) e
 |met f y=>
  have e:h.get? a=some (PySem.W.methodObj (.ref f) (.ref y)):=x
  show h'.get? a=some (PySem.W.methodObj (.ref f) (.ref y))
  exact k a _ (.inl rfl) e
 |ext φ=>obtain⟨p,⟨o,e⟩,st⟩:=x;exact⟨st _ _ p fun o q=>k _ _ (.inl rfl) q,⟨o,k _ _ (.inl rfl) e⟩,st⟩
theorem fG.lt(x:fG P w H h)(e:H a=some o):a<h.objs.size:=(x a o e).lt
theorem fG.fresh(x:fG P w H h)(e:h.objs.size≤a):H a=none:=by
 cases q:H a with
 |none=>rfl
 |some u=>exact absurd (Nat.lt_of_lt_of_le (x.lt q) e) (Nat.lt_irrefl _)
theorem fG.kept(x:fG P w H h)(k:∀b u,h.get? b=some u→h'.get? b=some u):fG P w H h':=fun a o e=>
 (x a o e).stay (fun b u _ q=>k b u q) (fun _ q=>q) fun _ _ q=>q
theorem fG.laid(x:fG P w H h)(k:∀b u,h.get? b=some u→h'.get? b=some u)(hp:h.objs.size≤a)(new:ū P w (upd H a o) h' a o):fG P w (upd H a o) h':=fun b u e=>by
 have hn:=x.fresh hp
 by_cases hb:b=a
 ·subst hb;rw[ī] at e;cases e;exact new
 ·rw[ğ hb] at e
  exact(x b u e).stay (fun c v _ q=>k c v q) (fun c q=>by rw[ğ (Ļ q hn)];exact q) fun c xs q=>by rw[ğ (Ļ q hn)];exact q
end
def Rd(H:Hp)(a:Addr)(u:HO):Prop:=H a=some u∨∃o,H a=some (.cX o u)
theorem Rd.ok{P:Program}{w:World}{H:Hp}{h:Heap}{a:Addr}{u:HO}(r:Rd H a u)(x:fG P w H h):ū P w H h a u:=by
 rcases r with r|⟨o,r⟩
 ·exact x a u r
 ·obtain⟨_,q⟩:=x a _ r
  exact q
def Mut:Option HO→Prop
 |some (.lst _)=>True
 |some (.dK _)=>True
 |some (.dT _)=>True
 |some (.set _ _)=>True
 |some (.ins _ _ _)=>True
 |some (.ext _)=>True
 |some (.xd _)=>True
 |_=>False
section
variable{P:Program}{w:World}{H:Hp}{h h':Heap}{x e:Addr}{o':HO}
theorem fG.write(ok:fG P w H h)(mu:Mut (H x))(he:e=x∨H e=some (.own x))(k:∀b u,b≠e→h.get? b=some u→h'.get? b=some u)(heo:∃u,h'.get? e=some u)
 (new:ū P w (upd H x o') h' x o'):fG P w (upd H x o') h':=fun b u q=>by
 have ZcL:∀c y,H c=some (.own y)→c≠x:=fun c y r z=>by subst z;rw[r] at mu;exact mu
 have Zkc:∀c xs,H c=some (.tup xs)→c≠x:=fun c xs r z=>by subst z;rw[r] at mu;exact mu
 by_cases hb:b=x
 ·subst hb;rw[ī] at q;cases q;exact new
 ·rw[ğ hb] at q
  by_cases hbe:b=e
  ·have q':H b=some (.own x):=by
    rcases he with z|z
    ·exact absurd (hbe.trans z) hb
    ·rw[hbe];exact z
   rw[q] at q';cases q'
   obtain⟨v,hv⟩:=heo
   exact⟨v,by rw[hbe];exact hv⟩
  ·refine(ok b u q).stay (fun c v hc r=>k c v ?_ r) (fun c r=>by rw[ğ (ZcL c b r)];exact r) fun c xs r=>by rw[ğ (Zkc c xs r)];exact r
   rcases hc with rfl|hc
   ·exact hbe
   ·rintro rfl
    rcases he with z|z
    ·exact ZcL c b hc z
    ·rw[hc] at z;cases z;exact hb rfl
end
structure Un(fs ex:List Addr)(H H':Hp)(h h':Heap):Prop where
 keep:∀b o,h.get? b=some o→H b=none→b∉fs→b∉ex→h'.get? b=some o
 slot:∀b o,h.get? b=some o→H b=none→b∈fs→b∉ex→∃sl,h'.get? b=some {o with slots:=sl}
 free:∀b o,h.get? b=some o→H b=none→b∉ex→H' b=none
 there:∀b o,h.get? b=some o→b∉ex→∃o',h'.get? b=some o'
 tups:∀b xs,H b=some (.tup xs)→H' b=some (.tup xs)
 iV:∀b o u,H b=some (.cX o u)→H' b=some (.cX o u)
 ji:∀b ps,H b=some (.pN ps)→∃more,H' b=some (.pN (ps++more))
section
variable{fs fs' ex ex':List Addr}{H H1 H2:Hp}{h h1 h2 h':Heap}{a x e:Addr}{o:HO}
theorem Un.any(u:Un fs ex H H1 h h1){b:Addr}{ob:Obj}(q:h.get? b=some ob)(n:H b=none)(hx:b∉ex):∃sl,h1.get? b=some {ob with slots:=sl}:=by
 by_cases hb:b∈fs
 ·exact u.slot b ob q n hb hx
 ·exact⟨ob.slots,u.keep b ob q n hb hx⟩
theorem Un.kept(k:∀b u,h.get? b=some u→h'.get? b=some u):Un fs ex H H h h':=
 ⟨fun b ob q _ _ _=>k b ob q,fun b ob q _ _ _=>⟨ob.slots,k b ob q⟩,fun _ _ _ n _=>n,fun b ob q _=>⟨ob,k b ob q⟩,fun _ _ q=>q,fun _ _ _ q=>q,fun _ ps q=>⟨#[],by rw[q];simp⟩⟩
theorem Un.refl:Un fs ex H H h h:=Un.kept fun _ _ q=>q
theorem Un.laid(k:∀b u,h.get? b=some u→h'.get? b=some u)(hp:h.objs.size≤a)(hn:H a=none):Un fs ex H (upd H a o) h h' where
 keep:=fun b u q _ _ _=>k b u q
 slot:=fun b u q _ _ _=>⟨u.slots,k b u q⟩
 free:=fun b u q n _=>by rw[ğ (Nat.ne_of_lt (Nat.lt_of_lt_of_le (Heap.lt_size q) hp))];exact n
 there:=fun b u q _=>⟨u,k b u q⟩
 tups:=fun b xs q=>by rw[ğ (Ļ q hn)];exact q
 iV:=fun b u xs q=>by rw[ğ (Ļ q hn)];exact q
 ji:=fun b ps q=>⟨#[],by rw[ğ (Ļ q hn),q];simp⟩
theorem Un.write(mu:Mut (H x))(he:e=x∨H e=some (.own x))(k:∀b u,b≠e→h.get? b=some u→h'.get? b=some u)(heo:∃u,h'.get? e=some u):Un fs ex H (upd H x o) h h':=by
 have hx:∀b,H b=none→b≠x:=fun b n z=>by subst z;rw[n] at mu;exact mu
 have hb:∀b,H b=none→b≠e:=fun b n z=>by
  subst z
  rcases he with r|r
  ·exact hx b n r
  ·rw[n] at r;cases r
 have hm:∀b u,H b=some u→¬Mut (some u)→b≠x:=fun b u q nm z=>by subst z;rw[q] at mu;exact nm mu
 refine⟨fun b u q n _ _=>k b u (hb b n) q,fun b u q n _ _=>⟨u.slots,k b u (hb b n) q⟩,fun b u q n _=>by rw[ğ (hx b n)];exact n,fun b u q _=>?_,
  fun b xs q=>by rw[ğ (hm b _ q fun z=>z)];exact q,fun b u xs q=>by rw[ğ (hm b _ q fun z=>z)];exact q,fun b ps q=>⟨#[],by rw[ğ (hm b _ q fun z=>z),q];simp⟩⟩
 by_cases hbe:b=e
 ·subst hbe;exact heo
 ·exact⟨u,k b u hbe q⟩
end
def trk(h:Heap)(H:Hp):List Addr:=(List.range h.objs.size).filter fun a=>(H a).isSome
def sW(h:Heap)(H:Hp):Heap:=PySem.W.hideAll h (trk h H)
theorem Ef(h:Heap)(H:Hp):(sW h H).objs.size=h.objs.size:=PySem.W.hideAll_size _ _
theorem Gi{h:Heap}{H:Hp}{b:Addr}{o:Obj}(e:h.get? b=some o)(n:H b=none):(sW h H).get? b=some o:=
 PySem.W.hideAll_get _ e fun hm=>by
  have q:(H b).isSome=true:=(List.mem_filter.mp hm).2
  rw[n] at q;simp at q
theorem QF{h:Heap}{H:Hp}{b:Addr}{o:Obj}(e:(sW h H).get? b=some o):h.get? b=some o∧H b=none:=by
 have e':h.get? b=some o:=PySem.W.of_hideAll (trk h H) e
 refine⟨e',?_⟩
 cases q:H b with
 |none=>rfl
 |some x=>
  have hm:b∈trk h H:=List.mem_filter.mpr ⟨List.mem_range.mpr (Heap.lt_size e'),by simp[q]⟩
  have z:(sW h H).get? b=none:=PySem.W.hideAll_none (trk h H) hm
  rw[z] at e;cases e
def QG(g h:Heap)(L:Addr):List (Addr×Obj):=(List.range h.objs.size).filterMap fun a=>if a=L∨(g.get? a).isSome=true then none else(h.get? a).map fun o=>(a,o)
def rest(g h:Heap)(L d:Addr):List (Addr×Obj):=(QG g h L).filter fun p=>decide (p.1≠d)
end L2
namespace L2
open PySem PySem.Spec PyProof.Rows
structure Mod(K:PySem.W.Frag)(mg:Str→Option Value)(base:Heap):Prop where
 kin:K.In base
 glob:base.Ns mainGlobals mg
 blt:∃mb,base.Ns builtinsNs mb∧∀x:Str,x≠ "__name__" →mb x=bootBuiltins x
 nolimit:base.NoLimit
structure Cx where
 prog:Program
 w:World
 K:PySem.W.Frag
 mg:Str→Option Value
 base:Heap
 A:Around
 N:List Str
 s₀:Shared
 H₀:Hp
 env:Env
 outer:List Env
 stack:List Env
 ex:List Addr
 fn:Str→Bool
 calm:Bool
 pn:List (Addr×Obj)
 xe:Value→Shared→Prop
def frs(l:List Env):List Addr:=l.filterMap (·.frame)
abbrev Cx.fs(X:Cx):List Addr:=frs X.outer
def Gd(sc:Scope)(x:Str):Prop:=sc.names.lookup x=some .local∨sc.names.lookup x=some .cell∨sc.names.lookup x=some .free
def Loc(sc:Scope)(x:Str):Prop:=sc.names.lookup x=some .local∨sc.names.lookup x=some .cell
def Look(env:Env)(h:Heap)(m:Str→Option Value)(x:Str)(u:Value):Prop:=
 (env.kindOf x=some .local∧m x=some u)∨((env.kindOf x=some .cell∨env.kindOf x=some .free)∧∃c,env.cells.lookup x=some c∧h.IsCell c (some u))
structure Cx.Ok(X:Cx):Prop where
 mod:Mod X.K X.mg X.base
 kind:X.env.scope.kind=.function
 glob:X.env.globals=mainGlobals
 blt:X.env.builtins=builtinsNs
 above:X.s₀.heap.objs.size≤X.env.locals
 inj:∀x y c,X.env.cells.lookup x=some c→X.env.cells.lookup y=some c→x=y
 has:∀x,(X.env.kindOf x=some .cell∨X.env.kindOf x=some .free)→∃c,X.env.cells.lookup x=some c
 cab:∀x c,X.fn x=true→X.env.cells.lookup x=some c→X.s₀.heap.objs.size≤c
 hd:X.calm=true→X.A.handled=none
 frames:X.A.frames=some X.stack
 stk:X.stack=X.outer∨(X.stack=X.env::X.outer∧X.env.frame=some X.env.locals)
 exf:∀b∈X.ex,b≠X.env.locals∧∀x c,X.env.cells.lookup x=some c→c≠b
 bs:∀b o,X.base.get? b=some o→X.s₀.heap.get? b=some o∧X.H₀ b=none
 QH:X.base.objs.size≤X.s₀.heap.objs.size
 Eh:∀b o,X.base.get? b=some o→b∉X.ex
 QJ:∀b∈X.ex,b∉X.fs
 lY:X.s₀.heap.FunFrames X.base X.outer
 WM:∀b∈X.fs,X.H₀ b=none
structure Inv(X:Cx)(pins:List (Addr×Obj))(σ:List (Option V))(H:Hp)(s:Shared):Prop where
 ok:X.Ok
 os:s.os=X.s₀.os
 bare:AllBare s.gens
 base:Un X.fs X.ex X.H₀ H X.s₀.heap s.heap
 loc:∃m,s.heap.Ns X.env.locals m∧∀(i:Nat) (x:Str) (v:V),X.N[i]?=some x→σ[i]?=some (some v)→Gd X.env.scope x→∃u,RelV v u∧Look X.env s.heap m x u
 cell:∀x c,X.env.cells.lookup x=some c→∃v,s.heap.IsCell c v
 free:H X.env.locals=none
 fJ:∀x c,X.env.cells.lookup x=some c→H c=none
 pin:∀p∈X.pn++pins,s.heap.get? p.1=some p.2∧H p.1=none∧p.1≠X.env.locals∧p.1∉X.fs∧∀v,p.2.data≠ .cell v
 hok:fG X.prog X.w H s.heap
 len:σ.length=X.N.length
section
variable{X:Cx}{pins:List (Addr×Obj)}{σ:List (Option V)}{H H':Hp}{s:Shared}{h':Heap}
theorem Cx.Ok.Zkd(ok:X.Ok){b:Addr}{o:Obj}(e:X.base.get? b=some o):b∉X.fs:=fun hb=>by
 have:=(ok.lY.mem hb).1
 rw[e] at this;cases this
theorem Inv.bs(I:Inv X pins σ H s):∀b o,X.base.get? b=some o→s.heap.get? b=some o∧H b=none:=fun b o e=>
 ⟨I.base.keep b o (I.ok.bs b o e).1 (I.ok.bs b o e).2 (I.ok.Zkd e) (I.ok.Eh b o e),I.base.free b o (I.ok.bs b o e).1 (I.ok.bs b o e).2 (I.ok.Eh b o e)⟩
theorem Inv.bk(I:Inv X pins σ H s):∀b o,X.base.get? b=some o→s.heap.get? b=some o:=fun b o e=>(I.bs b o e).1
theorem Inv.mod(I:Inv X pins σ H s):Mod X.K X.mg X.base:=I.ok.mod
theorem Inv.fK(I:Inv X pins σ H s):X.K.In s.heap:=I.ok.mod.kin.keeps I.bk
theorem Inv.lt(I:Inv X pins σ H s):X.env.locals<s.heap.objs.size:=let ⟨_,hn,_⟩:=I.loc;hn.lt
theorem Inv.sz(I:Inv X pins σ H s):X.s₀.heap.objs.size≤s.heap.objs.size:=Nat.le_trans I.ok.above (Nat.le_of_lt I.lt)
theorem Inv.Zke(I:Inv X pins σ H s){a:Addr}(h:s.heap.objs.size≤a):a∉X.fs:=fun hb=>by
 obtain⟨_,o,ho,_⟩:=I.ok.lY.mem hb
 exact absurd (Nat.lt_of_lt_of_le (Heap.lt_size ho) (Nat.le_trans I.sz h)) (Nat.lt_irrefl _)
theorem Inv.WQ(I:Inv X pins σ H s):∀x c,X.env.cells.lookup x=some c→c≠X.env.locals:=fun x c e z=>by
 obtain⟨v,o,ho,hd⟩:=I.cell x c e
 obtain⟨m,⟨o',es,ep,ho',hd',_⟩,_⟩:=I.loc
 rw[z,ho'] at ho;cases ho;rw[hd'] at hd;cases hd
theorem Inv.lY(I:Inv X pins σ H s):s.heap.FunFrames X.base X.outer:=by
 have all:∀(l:List Env),(∀b∈frs l,b∈X.fs)→X.s₀.heap.FunFrames X.base l→s.heap.FunFrames X.base l:=by
  intro l
  induction l with
  |nil=>intro _ _;trivial
  |cons env r ih=>
   intro hs hl
   obtain⟨hk,⟨L,o,hf,hn,ho,hd⟩,hr⟩:=hl
   have hL:L∈X.fs:=hs L (by unfold frs;rw[List.filterMap_cons,hf];exact List.mem_cons_self)
   obtain⟨sl,e⟩:=I.base.slot L o ho (I.ok.WM L hL) hL fun z=>I.ok.QJ L z hL
   exact⟨hk,⟨L,_,hf,hn,e,hd⟩,ih (fun b hb=>hs b (by unfold frs;rw[List.filterMap_cons,hf];exact List.mem_cons_of_mem _ hb)) hr⟩
 exact all X.outer (fun _ hb=>hb) I.ok.lY
theorem Inv.stack(I:Inv X pins σ H s):s.heap.FunFrames X.base X.stack:=by
 rcases I.ok.stk with e|⟨e,hf⟩
 ·rw[e];exact I.lY
 ·rw[e]
  obtain⟨m,hn,_⟩:=I.loc
  refine .cons (by rw[I.ok.kind];decide) hf hn ?_ I.lY
  exact Heap.get?_none_of_le (Nat.le_trans I.ok.QH I.ok.above)
theorem Inv.ni(I:Inv X pins σ H s):∀b∈frs X.stack,b∈X.env.locals::X.fs:=fun b hb=>by
 rcases I.ok.stk with e|⟨e,hf⟩
 ·rw[e] at hb;exact List.mem_cons_of_mem _ hb
 ·rw[e] at hb
  unfold frs at hb
  rw[List.filterMap_cons,hf] at hb
  exact hb
theorem Inv.sX(I:Inv X pins σ H s):∀b∈frs X.stack,H b=none:=fun b hb=>by
 rcases List.mem_cons.mp (I.ni b hb) with e|hb
 ·rw[e];exact I.free
 ·obtain⟨_,o,ho,_⟩:=I.ok.lY.mem hb
  exact I.base.free b o ho (I.ok.WM b hb) fun z=>I.ok.QJ b z hb
theorem Inv.step{g':Array GenState}{t':Nat}{d':Drawn}{ch:List Addr}(I:Inv X pins σ H s)
 (hch:∀b∈ch,(b∈X.ex∨X.s₀.heap.objs.size≤b)∧b≠X.env.locals∧(∀x c,X.env.cells.lookup x=some c→c≠b)∧∀p∈X.pn++pins,p.1≠b)
 (keep:∀b o,b≠X.env.locals→b∉X.fs→b∉ch→s.heap.get? b=some o→H b=none→h'.get? b=some o)
 (slot:∀b o,b≠X.env.locals→b∈X.fs→b∉ch→s.heap.get? b=some o→H b=none→∃sl,h'.get? b=some {o with slots:=sl})(free:∀b o,b∉ch→s.heap.get? b=some o→H b=none→H' b=none)
 (there:∀b o,b∉ch→s.heap.get? b=some o→∃o',h'.get? b=some o')
 (tups:∀b xs,H b=some (.tup xs)→H' b=some (.tup xs))(iV:∀b o u,H b=some (.cX o u)→H' b=some (.cX o u))(ji:∀b ps,H b=some (.pN ps)→∃more,H' b=some (.pN (ps++more)))
 (ns:∀m,s.heap.Ns X.env.locals m→h'.Ns X.env.locals m)(hok:fG X.prog X.w H' h')(hg:AllBare g') :
 Inv X pins σ H' {s with heap:=h',gens:=g',drawn:=d',toks:=t'}:=by
 have neL:∀b o,X.s₀.heap.get? b=some o→b≠X.env.locals:=fun b o e=>Nat.ne_of_lt (Nat.lt_of_lt_of_le (Heap.lt_size e) I.ok.above)
 have neC:∀b o,X.s₀.heap.get? b=some o→b∉X.ex→b∉ch:=fun b o e hx hb=>by
  rcases(hch b hb).1 with z|z
  ·exact hx z
  ·exact absurd (Nat.lt_of_lt_of_le (Heap.lt_size e) z) (Nat.lt_irrefl _)
 have cellK:∀x c,X.env.cells.lookup x=some c→∀v,s.heap.IsCell c v→h'.IsCell c v:=fun x c e v ⟨o,ho,hd⟩=>by
  have nch:c∉ch:=fun z=>(hch c z).2.2.1 x c e rfl
  by_cases hc:c∈X.fs
  ·obtain⟨sl,q⟩:=slot c o (I.WQ x c e) hc nch ho (I.fJ x c e)
   exact⟨_,q,hd⟩
  ·exact⟨o,keep c o (I.WQ x c e) hc nch ho (I.fJ x c e),hd⟩
 refine⟨I.ok,I.os,hg,⟨fun b o e n hb hx=>?_,fun b o e n hb hx=>?_,fun b o e n hx=>?_,fun b o e hx=>?_,fun b xs e=>tups b xs (I.base.tups b xs e),fun b o xs e=>iV b o xs (I.base.iV b o xs e),fun b ps e=>?_⟩,?_,fun x c e=>?_,?_,fun x c e=>?_,fun p hp=>?_,hok,I.len⟩
 ·exact keep b o (neL b o e) hb (neC b o e hx) (I.base.keep b o e n hb hx) (I.base.free b o e n hx)
 ·obtain⟨sl,e1⟩:=I.base.slot b o e n hb hx
  obtain⟨sl',e2⟩:=slot b _ (neL b o e) hb (neC b o e hx) e1 (I.base.free b o e n hx)
  exact⟨sl',e2⟩
 ·obtain⟨o',e1⟩:=I.base.there b o e hx
  exact free b o' (neC b o e hx) e1 (I.base.free b o e n hx)
 ·obtain⟨o',e1⟩:=I.base.there b o e hx
  exact there b o' (neC b o e hx) e1
 ·obtain⟨m1,e1⟩:=I.base.ji b ps e
  obtain⟨m2,e2⟩:=ji b _ e1
  exact⟨m1++m2,by rw[e2,Array.append_assoc]⟩
 ·obtain⟨m,hn,hl⟩:=I.loc
  refine⟨m,ns m hn,fun i x v e1 e2 e3=>?_⟩
  obtain⟨u,r,l⟩:=hl i x v e1 e2 e3
  refine⟨u,r,?_⟩
  rcases l with l|⟨k,c,e,z⟩
  ·exact .inl l
  ·exact .inr ⟨k,c,e,cellK x c e _ z⟩
 ·obtain⟨v,z⟩:=I.cell x c e
  exact⟨v,cellK x c e v z⟩
 ·obtain⟨m,⟨o,_,_,ho,_⟩,_⟩:=I.loc
  exact free _ o (fun z=>(hch _ z).2.1 rfl) ho I.free
 ·obtain⟨v,o,ho,hd⟩:=I.cell x c e
  exact free c o (fun z=>(hch c z).2.2.1 x c e rfl) ho (I.fJ x c e)
 ·obtain⟨e,n,ne,nf,d⟩:=I.pin p hp
  have nch:p.1∉ch:=fun z=>(hch p.1 z).2.2.2 p hp rfl
  exact⟨keep p.1 p.2 ne nf nch e n,free p.1 p.2 nch e n,ne,nf,d⟩
theorem Inv.un{t':Nat}(I:Inv X pins σ H s)(u:Un X.fs [] H H' s.heap h')(hok:fG X.prog X.w H' h'):Inv X pins σ H' {s with heap:=h',toks:=t'}:=by
 obtain⟨m,⟨o,es,ep,ho,r⟩,_⟩:=id I.loc
 obtain⟨sl,hL⟩:=u.any ho I.free (by simp)
 exact I.step (g':=s.gens) (d':=s.drawn) (ch:=[]) (fun _ z=>nomatch z) (fun b o _ hb _ e n=>u.keep b o e n hb (by simp)) (fun b o _ hb _ e n=>u.slot b o e n hb (by simp)) (fun b o _ e n=>u.free b o e n (by simp)) (fun b o _ e=>u.there b o e (by simp)) u.tups u.iV u.ji (fun m' hm=>by
  obtain⟨o',es',ep',ho',r'⟩:=hm
  rw[ho] at ho';cases ho'
  exact⟨_,es',ep',hL,r'⟩) hok I.bare
theorem Inv.call{g':Array GenState}{t':Nat}{d':Drawn}{ch:List Addr}(I:Inv X pins σ H s)(u:Un (frs X.stack) ch H H' s.heap h')(hok:fG X.prog X.w H' h')(hg:AllBare g')
 (hch:∀b∈ch,(b∈X.ex∨X.s₀.heap.objs.size≤b)∧b≠X.env.locals∧(∀x c,X.env.cells.lookup x=some c→c≠b)∧∀p∈X.pn++pins,p.1≠b) :
 Inv X pins σ H' {s with heap:=h',gens:=g',drawn:=d',toks:=t'}:=by
 obtain⟨m,⟨o,es,ep,ho,r⟩,_⟩:=id I.loc
 obtain⟨sl,hL⟩:=u.any ho I.free fun z=>(hch _ z).2.1 rfl
 exact I.step (ch:=ch) hch (fun b o hL hb hc e n=>u.keep b o e n (fun z=>(List.mem_cons.mp (I.ni b z)).elim hL hb) hc) (fun b o _ _ hc e n=>u.any e n hc) (fun b o hc e n=>u.free b o e n hc) (fun b o hc e=>u.there b o e hc) u.tups u.iV u.ji (fun m' hm=>by
  obtain⟨o',es',ep',ho',r'⟩:=hm
  rw[ho] at ho';cases ho'
  exact⟨_,es',ep',hL,r'⟩) hok hg
theorem Inv.turned{t':Nat}{it:Addr}(I:Inv X pins σ H s)(k:∀b o,b≠it→s.heap.get? b=some o→h'.get? b=some o)(hn:H it=none)(hL:it≠X.env.locals)
 (h1:it∈X.ex∨X.s₀.heap.objs.size≤it)(h2:∀x c,X.env.cells.lookup x=some c→c≠it)(h3:∀p∈X.pn++pins,p.1≠it):Inv X pins σ H {s with heap:=h',toks:=t'}:=by
 have nit:∀b u,H b=some u→b≠it:=fun b u e z=>by rw[z,hn] at e;cases e
 refine I.step (g':=s.gens) (d':=s.drawn) (ch:=[it]) (fun b hb=>?_) (fun b o _ _ hc e _=>k b o (fun z=>hc (by simp[z])) e) (fun b o _ _ hc e _=>⟨o.slots,k b o (fun z=>hc (by simp[z])) e⟩) (fun _ _ _ _ n=>n)
  (fun b o hc e=>⟨o,k b o (fun z=>hc (by simp[z])) e⟩) (fun _ _ e=>e) (fun _ _ _ e=>e) (fun b ps e=>⟨#[],by rw[e];simp⟩) (fun m hm=>?_) (fun b u e=>?_) I.bare
 ·have e:b=it:=by simpa using hb
  subst e
  exact⟨h1,hL,h2,h3⟩
 ·obtain⟨o,es,ep,ho,r⟩:=hm
  exact⟨o,es,ep,k _ o (Ne.symm hL) ho,r⟩
 ·refine(I.hok b u e).stay (fun c v hc q=>k c v ?_ q) (fun _ q=>q) fun _ _ q=>q
  rcases hc with z|z
  ·rw[z];exact nit b u e
  ·exact nit c _ z
theorem Inv.tok(I:Inv X pins σ H s)(t:Nat):Inv X pins σ H {s with toks:=t}:=I.un (h':=s.heap) (t':=t) Un.refl I.hok
theorem Inv.kept{t':Nat}(I:Inv X pins σ H s)(k:∀b u,s.heap.get? b=some u→h'.get? b=some u):Inv X pins σ H {s with heap:=h',toks:=t'}:=I.un (Un.kept k) (I.hok.kept k)
theorem Inv.laid{a:Addr}{o:HO}{t':Nat}(I:Inv X pins σ H s)(k:∀b u,s.heap.get? b=some u→h'.get? b=some u)(hp:s.heap.objs.size≤a)(new:ū X.prog X.w (upd H a o) h' a o) :
 Inv X pins σ (upd H a o) {s with heap:=h',toks:=t'}:=I.un (Un.laid k hp (I.hok.fresh hp)) (I.hok.laid k hp new)
theorem Inv.write{x e:Addr}{o:HO}{t':Nat}(I:Inv X pins σ H s)(mu:Mut (H x))(he:e=x∨H e=some (.own x))(k:∀b u,b≠e→s.heap.get? b=some u→h'.get? b=some u)(heo:∃u,h'.get? e=some u)
 (new:ū X.prog X.w (upd H x o) h' x o):Inv X pins σ (upd H x o) {s with heap:=h',toks:=t'}:=I.un (Un.write mu he k heo) (I.hok.write mu he k heo new)
theorem Inv.CG{Ue:List (Addr×Obj)}(I:Inv X pins σ H s)(h:∀p∈Ue,s.heap.get? p.1=some p.2∧H p.1=none∧p.1≠X.env.locals∧p.1∉X.fs∧∀v,p.2.data≠ .cell v):Inv X Ue σ H s:=
 ⟨I.ok,I.os,I.bare,I.base,I.loc,I.cell,I.free,I.fJ,fun p hp=>(List.mem_append.mp hp).elim (fun z=>I.pin p (List.mem_append_left _ z)) (h p),I.hok,I.len⟩
theorem vN{N:List Str}(hN:N.Nodup){i j:Nat}{x:Str}(a:N[i]?=some x)(b:N[j]?=some x):i=j:=by
 obtain⟨h1,e1⟩:=List.getElem?_eq_some_iff.mp a
 obtain⟨h2,e2⟩:=List.getElem?_eq_some_iff.mp b
 exact(List.getElem_inj hN).mp (e1.trans e2.symm)
theorem ql{M:Model}{A:Around}{E:Value→Shared→Prop}{i:Nat}{x:Str}{v:V}{u:Value}{Q:Unit→Shared→Prop}(I:Inv X pins σ H s)(hN:X.N.Nodup)(hi:X.N[i]?=some x)(hx:Loc X.env.scope x)(r:RelV v u)
 (h:∀s',Inv X pins (σ.set i (some v)) H s'→(∃a,Heap.SameBut a s.heap s'.heap∧(a=X.env.locals∨X.env.cells.lookup x=some a))→Q () s')(hf:X.fn x=true∨X.env.scope.names.lookup x=some .local:=by first|exact .inl rfl|exact .inr rfl|assumption):wpAny M A (storeName X.env x u) Q E s:=by
 obtain⟨m,hn,hl⟩:=id I.loc
 have hcls:(X.env.scope.kind== .class || (X.env.scope.kind== .module && X.env.locals != X.env.globals))=false:=by rw[I.ok.kind];rfl
 have ZoT:i < σ.length:=by rw[I.len];exact(List.getElem?_eq_some_iff.mp hi).1
 have WQ:=I.WQ
 have tracked:∀{a:Addr} {h':Heap},(∃o,s.heap.get? a=some o∧H a=none)→Heap.SameBut a s.heap h'→fG X.prog X.w H h':=fun{a h'} ha hs b ob e=>by
  obtain⟨_,_,hfree⟩:=ha
  refine(I.hok b ob e).stay (fun c w' hc q=>(hs.2 c ?_).trans q) (fun _ q=>q) fun _ _ q=>q
  rintro rfl
  rcases hc with rfl|hc
  ·rw[hfree] at e;cases e
  ·rw[hfree] at hc;cases hc
 rcases hx with hk|hk
 ·refine wpAny_storeName_local hk hn (fun h' hn' hs=>?_) hcls
  obtain⟨oL,_,_,hoL,_⟩:=id hn
  refine h _ ⟨I.ok,I.os,I.bare,⟨fun b o e n hb hx=>?_,fun b o e n hb hx=>?_,I.base.free,fun b o e hx=>?_,I.base.tups,I.base.iV,I.base.ji⟩,⟨_,hn',fun j y v' e1 e2 e3=>?_⟩,fun y c e=>?_,I.free,I.fJ,fun p hp=>?_,tracked ⟨oL,hoL,I.free⟩ hs,by simpa using I.len⟩ ⟨_,hs,.inl rfl⟩
  ·exact(hs.2 b (Nat.ne_of_lt (Nat.lt_of_lt_of_le (Heap.lt_size e) I.ok.above))).trans (I.base.keep b o e n hb hx)
  ·obtain⟨sl,e1⟩:=I.base.slot b o e n hb hx
   exact⟨sl,(hs.2 b (Nat.ne_of_lt (Nat.lt_of_lt_of_le (Heap.lt_size e) I.ok.above))).trans e1⟩
  ·obtain⟨o',e1⟩:=I.base.there b o e hx
   exact⟨o',(hs.2 b (Nat.ne_of_lt (Nat.lt_of_lt_of_le (Heap.lt_size e) I.ok.above))).trans e1⟩
  ·by_cases hj:j=i
   ·subst hj
    rw[hi] at e1;cases e1
    rw[List.getElem?_set_self ZoT] at e2
    cases e2
    exact⟨u,r,.inl ⟨hk,by simp⟩⟩
   ·rw[List.getElem?_set_ne (Ne.symm hj)] at e2
    obtain⟨u',r',q⟩:=hl j y v' e1 e2 e3
    refine⟨u',r',?_⟩
    rcases q with⟨k,e⟩|⟨k,c,e,z⟩
    ·refine .inl ⟨k,?_⟩
     have:y≠x:=fun e=>hj (vN hN e1 (e▸hi))
     simp[this,e]
    ·exact .inr ⟨k,c,e,z.sameBut hs (WQ y c e)⟩
  ·obtain⟨w',z⟩:=I.cell y c e
   exact⟨w',z.sameBut hs (WQ y c e)⟩
  ·obtain⟨e,n,ne,nf,d⟩:=I.pin p hp
   exact⟨(hs.2 p.1 ne).trans e,n,ne,nf,d⟩
 ·have hfn:X.fn x=true:=by
   rcases hf with z|z
   ·exact z
   ·rw[z] at hk;cases hk
  obtain⟨c,hc⟩:=I.ok.has x (.inl hk)
  obtain⟨w',z⟩:=I.cell x c hc
  refine wpAny_storeName_cell I.ok.kind hk hc z (fun h' hc' hs=>?_)
  obtain⟨oc,hoc,Zkf⟩:=id z
  refine h {s with heap:=h'} ⟨I.ok,I.os,I.bare,⟨fun b o e n hb hx=>?_,fun b o e n hb hx=>?_,I.base.free,fun b o e hx=>?_,I.base.tups,I.base.iV,I.base.ji⟩,⟨m,hn.sameBut hs (Ne.symm (WQ x c hc)),fun j y v' e1 e2 e3=>?_⟩,fun y c' e=>?_,I.free,I.fJ,fun p hp=>?_,tracked ⟨oc,hoc,I.fJ x c hc⟩ hs,by simpa using I.len⟩ ⟨c,hs,.inr hc⟩
  ·exact(hs.2 b (Nat.ne_of_lt (Nat.lt_of_lt_of_le (Heap.lt_size e) (I.ok.cab x c hfn hc)))).trans (I.base.keep b o e n hb hx)
  ·obtain⟨sl,e1⟩:=I.base.slot b o e n hb hx
   exact⟨sl,(hs.2 b (Nat.ne_of_lt (Nat.lt_of_lt_of_le (Heap.lt_size e) (I.ok.cab x c hfn hc)))).trans e1⟩
  ·obtain⟨o',e1⟩:=I.base.there b o e hx
   exact⟨o',(hs.2 b (Nat.ne_of_lt (Nat.lt_of_lt_of_le (Heap.lt_size e) (I.ok.cab x c hfn hc)))).trans e1⟩
  ·by_cases hj:j=i
   ·subst hj
    rw[hi] at e1;cases e1
    rw[List.getElem?_set_self ZoT] at e2
    cases e2
    exact⟨u,r,.inr ⟨.inl hk,c,hc,hc'⟩⟩
   ·rw[List.getElem?_set_ne (Ne.symm hj)] at e2
    obtain⟨u',r',q⟩:=hl j y v' e1 e2 e3
    refine⟨u',r',?_⟩
    rcases q with q|⟨k,c',e,z'⟩
    ·exact .inl q
    ·refine .inr ⟨k,c',e,z'.sameBut hs ?_⟩
     rintro rfl
     exact hj (vN hN e1 (I.ok.inj _ _ _ e hc▸hi))
  ·by_cases hcc:c'=c
   ·subst hcc;exact⟨_,hc'⟩
   ·obtain⟨w2,z2⟩:=I.cell y c' e
    exact⟨w2,z2.sameBut hs hcc⟩
  ·obtain⟨e,n,ne,nf,d⟩:=I.pin p hp
   refine⟨(hs.2 p.1 ?_).trans e,n,ne,nf,d⟩
   intro q
   rw[q,hoc] at e
   have q':oc=p.2:=Option.some.inj e
   exact d w' (by rw[←q'];exact Zkf)
theorem nj{M:Model}{A:Around}{E:Value→Shared→Prop}{i:Nat}{x:Str}{v:V}{u:Value}{Q:Unit→Shared→Prop}(I:Inv X pins σ H s)(hN:X.N.Nodup)(hi:X.N[i]?=some x)(hx:Loc X.env.scope x)(r:RelV v u)
 (h:∀s',Inv X pins (σ.set i (some v)) H s'→Q () s')(hf:X.fn x=true∨X.env.scope.names.lookup x=some .local:=by first|exact .inl rfl|exact .inr rfl|assumption):wpAny M A (storeName X.env x u) Q E s:=
 ql I hN hi hx r (fun s' I' _=>h s' I') hf
theorem Inv.call'{s':Shared}{ch:List Addr}(I:Inv X pins σ H s)(ho:s'.os=s.os)(u:Un (frs X.stack) ch H H' s.heap s'.heap)(hok:fG X.prog X.w H' s'.heap)(hg:AllBare s'.gens)
 (hch:∀b∈ch,(b∈X.ex∨X.s₀.heap.objs.size≤b)∧b≠X.env.locals∧(∀x c,X.env.cells.lookup x=some c→c≠b)∧∀p∈X.pn++pins,p.1≠b):Inv X pins σ H' s':=by
 obtain⟨h',g',d',t',o'⟩:=s'
 have e:o'=s.os:=ho
 subst e
 exact I.call (g':=g') (t':=t') (d':=d') u hok hg hch
end
abbrev XK:=Value→Option Addr→Hp→Prop
abbrev St:=List (Option V)
abbrev VK:=V→Hp→Prop
abbrev TE:=St→Hp→VK→Prop
abbrev TT:=St→Hp→(Bool→Hp→Prop)→Prop
abbrev TA:=St→Hp→(List V→Hp→Prop)→Prop
structure Ends where
 nx:St→Hp→Prop
 rt:VK
 bk:St→Hp→Prop:=fun _ _=>False
 ct:St→Hp→Prop:=fun _ _=>False
abbrev TS:=Ends→St→Hp→Prop
def EP(X:Cx)(pins:List (Addr×Obj))(σ:St)(Q:VK)(u:Value)(s':Shared):Prop:=∃v H',Inv X pins σ H' s'∧RelV v u∧Q v H'
def TP(X:Cx)(pins:List (Addr×Obj))(σ:St)(Q:Bool→Hp→Prop)(b:Bool)(s':Shared):Prop:=∃H',Inv X pins σ H' s'∧Q b H'
def AP(X:Cx)(pins:List (Addr×Obj))(σ:St)(Q:List V→Hp→Prop)(us:List Value)(s':Shared):Prop:=∃vs H',Inv X pins σ H' s'∧Vals vs us∧Q vs H'
def SP(X:Cx)(pins:List (Addr×Obj))(D:Ends)(f:Flow)(s':Shared):Prop:=
 match f with
 | .next=>∃σ' H',Inv X pins σ' H' s'∧D.nx σ' H'
 | .brk=>∃σ' H',Inv X pins σ' H' s'∧D.bk σ' H'
 | .cont=>∃σ' H',Inv X pins σ' H' s'∧D.ct σ' H'
 | .ret u=>∃v σ' H',Inv X pins σ' H' s'∧RelV v u∧D.rt v H'
def PE(X:Cx)(e:Expr)(t:TE):Prop:=
 ∀(pins:List (Addr×Obj)) (s:Shared) (σ:St) (H:Hp) (Q:VK),Inv X pins σ H s→t σ H Q→wpAny (model X.prog X.w) X.A (eval e X.env) (EP X pins σ Q) X.xe s
def PT(X:Cx)(e:Expr)(t:TT):Prop:=
 ∀(pins:List (Addr×Obj)) (s:Shared) (σ:St) (H:Hp) (Q:Bool→Hp→Prop),Inv X pins σ H s→t σ H Q→wpAny (model X.prog X.w) X.A (isTrue e X.env (eval e X.env)) (TP X pins σ Q) X.xe s
def PW(X:Cx)(e:Expr)(t:TT):Prop:=
 ∀(whole:Sem Value) (pins:List (Addr×Obj)) (s:Shared) (σ:St) (H:Hp) (Q:Bool→Hp→Prop),Inv X pins σ H s→t σ H Q→wpAny (model X.prog X.w) X.A (isTrue e X.env whole) (TP X pins σ Q) X.xe s
theorem PW.pt{X:Cx}{e:Expr}{t:TT}(h:PW X e t):PT X e t:=h _
def PA(X:Cx)(es:List Expr)(t:TA):Prop:=
 ∀(pos:Pos) (pins:List (Addr×Obj)) (s:Shared) (σ:St) (H:Hp) (Q:List V→Hp→Prop),Inv X pins σ H s→t σ H Q→wpAny (model X.prog X.w) X.A (spliced (backTo pos (starEach es X.env))) (AP X pins σ Q) X.xe s
def PS(X:Cx)(st:Stmt)(t:TS):Prop:=
 ∀(pins:List (Addr×Obj)) (s:Shared) (σ:St) (H:Hp) (D:Ends),Inv X pins σ H s→t D σ H→wpAny (model X.prog X.w) X.A (exec st X.env) (SP X pins D) X.xe s
def jj(X:Cx)(st:List Stmt)(t:TS):Prop:=
 ∀(pins:List (Addr×Obj)) (s:Shared) (σ:St) (H:Hp) (D:Ends),Inv X pins σ H s→t D σ H→wpAny (model X.prog X.w) X.A (execs st X.env) (SP X pins D) X.xe s
theorem Ť{α:Type}{t:Sem α}{Q Q':α→Shared→Prop}{M:Model}{A:Around}{E:Value→Shared→Prop}{s:Shared}(h:wpAny M A t Q E s)(hQ:∀a s,Q a s→Q' a s):wpAny M A t Q' E s:=wpAny_mono h hQ fun _ _ x=>x
end L2
namespace L2
open PySem PySem.Spec PyProof.Rows
section
variable{X:Cx}
def sY(i:Nat):TE:=fun σ H Q=>∃v,σ[i]?=some (some v)∧Q v H
def tC(v:V):TE:=fun _ H Q=>Q v H
theorem fL{i:Nat}{x:Str}{pos:Pos}(hN:X.N[i]?=some x)(hv:Gd X.env.scope x)(hd:(x== ("__debug__" :Str))=false:=by decide)(hcd:(x== ("__classdict__" :Str))=false:=by decide):PE X (.Name x pos) (sY i):=by
 intro pins s σ H Q I h
 obtain⟨v,e,h⟩:=h
 obtain⟨m,hn,hl⟩:=I.loc
 obtain⟨u,r,l⟩:=hl i x v hN e hv
 have fin:EP X pins σ Q u s:=⟨v,H,I,r,h⟩
 rcases l with⟨hk,hm⟩|⟨hk,c,hc,hcell⟩
 ·exact wpAny_Name (wpAny_loadName_local I.ok.kind hk hn hm fin) hd
 ·rcases hk with hk|hk
  ·exact wpAny_Name (wpAny_loadName_cell I.ok.kind hk hc hcell fin) hd
  ·exact wpAny_Name (wpAny_loadName_free I.ok.kind hk hc hcell fin hcd) hd
theorem WR{i j pos}:PE X (.Constant (.int i) j pos) (tC (.int i)):=fun _ _ _ H _ I h=>wpAny_Constant_int ⟨.int i,H,I.tok _,⟨_,rfl⟩,h⟩
theorem ZcM{b j pos}:PE X (.Constant (.bool b) j pos) (tC (.bl b)):=fun _ _ _ H _ I h=>Constant_bool ⟨.bl b,H,I,rfl,h⟩
theorem WT{j pos}:PE X (.Constant .none j pos) (tC .non):=fun _ _ _ H _ I h=>Constant_none ⟨.non,H,I,rfl,h⟩
theorem WW{x j pos}:PE X (.Constant (.str x) j pos) (tC (.str x)):=fun _ _ _ H _ I h=>Calls.Constant_str ⟨.str x,H,I.tok _,⟨_,rfl⟩,h⟩
def Gl(X:Cx)(x:Str):Prop:=X.env.kindOf x=some .globalImplicit
theorem jk{E:Value→Shared→Prop}{pins:List (Addr×Obj)}{s:Shared}{σ:St}{H:Hp}{x:Str}{u:Value}{pos:Pos}{Q:Value→Shared→Prop}(I:Inv X pins σ H s)(hg:Gl X x)(hm:X.mg x=some u)(h:Q u s)
 (hd:(x== ("__debug__" :Str))=false:=by decide):wpAny (model X.prog X.w) X.A (eval (.Name x pos) X.env) Q E s:=
 Calls.Name_function_global I.ok.kind hg (Calls.loadGlobal_global (by rw[I.ok.glob];exact I.mod.glob.keeps I.bk) hm h) hd
theorem jM{E:Value→Shared→Prop}{pins:List (Addr×Obj)}{s:Shared}{σ:St}{H:Hp}{x:Str}{u:Value}{pos:Pos}{Q:Value→Shared→Prop}(I:Inv X pins σ H s)(hg:Gl X x)(hm:X.mg x=none)(hv:bootBuiltins x=some u)(h:Q u s)
 (hn:x≠ "__name__" := by decide)(hd:(x== ("__debug__" :Str))=false:=by decide):wpAny (model X.prog X.w) X.A (eval (.Name x pos) X.env) Q E s:=by
 obtain⟨mb,h1,h2⟩:=I.mod.blt
 exact Calls.Name_function_global I.ok.kind hg (Calls.loadGlobal_builtin (by rw[I.ok.glob];exact I.mod.glob.keeps I.bk) hm (by rw[I.ok.blt];exact h1.keeps I.bk) ((h2 x hn).trans hv) h) hd
theorem mR{x:Str}{v:V}{u:Value}{pos:Pos}(hg:Gl X x)(hm:X.mg x=some u)(r:RelV v u)(hd:(x== ("__debug__" :Str))=false:=by decide):PE X (.Name x pos) (tC v):=
 fun _ _ _ H _ I h=>jk I hg hm ⟨v,H,I,r,h⟩ hd
theorem gJ{x:Str}{v:V}{u:Value}{pos:Pos}(hg:Gl X x)(hm:X.mg x=none)(hv:bootBuiltins x=some u)(r:RelV v u)(hn:x≠ "__name__" := by decide)(hd:(x== ("__debug__" :Str))=false:=by decide):PE X (.Name x pos) (tC v):=
 fun _ _ _ H _ I h=>jM I hg hm hv ⟨v,H,I,r,h⟩ hn hd
variable{a b:Expr}{ta tb:TE}{pos:Pos}
variable{tA tB':TT}{rest:List Expr}
def Zkg(t u:TT):TT:=fun σ H Q=>t σ H fun c H1=>if c=true then u σ H1 Q else Q false H1
def tOr(t u:TT):TT:=fun σ H Q=>t σ H fun c H1=>if c=true then Q true H1 else u σ H1 Q
def Zkh(t:TT):TT:=fun σ H Q=>t σ H fun c H1=>Q (!c) H1
theorem QK(ha:PT X a tA):PW X (.BoolOp .And [a] pos) tA:=by
 intro wh pins s σ H Q I h
 refine isTrue_and (Ť (ha pins s σ H Q I h) fun c s1 e=>?_)
 cases c with
 |true=>exact isTrue_and_nil e
 |false=>exact e
theorem WX(ha:PT X a tA):PW X (.BoolOp .Or [a] pos) tA:=by
 intro wh pins s σ H Q I h
 refine isTrue_or (Ť (ha pins s σ H Q I h) fun c s1 e=>?_)
 cases c with
 |false=>exact isTrue_or_nil e
 |true=>exact e
theorem WY(ha:PT X a tA)(hb:PW X (.BoolOp .And (b::rest) pos) tB'):PW X (.BoolOp .And (a::b::rest) pos) (Zkg tA tB'):=by
 intro wh pins s σ H Q I h
 refine isTrue_and (Ť (ha pins s σ H _ I h) fun c s1 ⟨H1,I1,q1⟩=>?_)
 cases c with
 |true=>exact hb wh pins s1 σ H1 Q I1 q1
 |false=>exact⟨H1,I1,q1⟩
theorem ZcN(ha:PT X a tA)(hb:PW X (.BoolOp .Or (b::rest) pos) tB'):PW X (.BoolOp .Or (a::b::rest) pos) (tOr tA tB'):=by
 intro wh pins s σ H Q I h
 refine isTrue_or (Ť (ha pins s σ H _ I h) fun c s1 ⟨H1,I1,q1⟩=>?_)
 cases c with
 |true=>exact⟨H1,I1,q1⟩
 |false=>exact hb wh pins s1 σ H1 Q I1 q1
theorem W_(ha:PT X a tA):PT X (.UnaryOp .Not a pos) (Zkh tA):=by
 intro pins s σ H Q I h
 exact isTrue_not (ha pins s σ H (fun c H1=>Q (!c) H1) I h)
theorem Xa{op}{t:TE}(h:PE X a t):PE X (.BoolOp op [a] pos) t:=fun pins s σ H Q I hw=>BoolOp_one (h pins s σ H Q I hw)
end
end L2
namespace L2
open PySem PySem.Spec PyProof.Rows
def aC(K:PySem.W.Frag)(H:Hp)(a:Addr)(xs:List V):Prop:=
 Rd H a (.lst xs)∨
  ∃(o:Obj) (its:Array Value) (n:Nat),K.lookup a=some o∧o.cls=.type "list" ∧o.dict=none∧o.data=.seq its n∧its.size≤sizeLine∧Vals xs its.toList
def cY(K:PySem.W.Frag)(H:Hp)(a:Addr)(xs:List V):Prop:=
 Rd H a (.tup xs)∨
  ∃(o:Obj) (its:Array Value) (n:Nat),K.lookup a=some o∧o.cls=.type "tuple" ∧o.data=.seq its n∧its.size≤sizeLine∧Vals xs its.toList
def Zki:Value→Option V
 | .none=>some .non
 | .bool b=>some (.bl b)
 | .int i _=>some (.int i)
 | .str x _=>some (.str x)
 | .bytes b _=>some (.Ud b)
 | .float b _=>some (.flt b)
 | .ref a=>some (.ref a)
 | .type n=>some (.ty n)
 |_=>none
theorem RelV.abs{x:V}{u:Value}(r:RelV x u):Zki u=some x:=by
 cases x with
 |non=>cases r;rfl
 |bl _=>cases r;rfl
 |int _=>obtain⟨t,rfl⟩:=r;rfl
 |str _=>obtain⟨t,rfl⟩:=r;rfl
 |Ud _=>obtain⟨t,rfl⟩:=r;rfl
 |flt _=>obtain⟨t,rfl⟩:=r;rfl
 |ref _=>cases r;rfl
 |ty _=>cases r;rfl
theorem RelV.inj{x y:V}{u:Value}(r:RelV x u)(q:RelV y u):x=y:=Option.some.inj (r.abs.symm.trans q.abs)
theorem Vals.inj:∀{xs ys:List V} {us:List Value},Vals xs us→Vals ys us→xs=ys
 |_,_,_,.nil,.nil=>rfl
 |_,_,_,.cons r t,.cons r' t'=>by rw[r.inj r',Vals.inj t t']
section
variable{X:Cx}{pins:List (Addr×Obj)}{σ:St}{H:Hp}{s:Shared}{a:Addr}{xs ys:List V}
theorem aC.of{K:PySem.W.Frag}(h:H a=some (.lst xs)):aC K H a xs:=.inl (.inl h)
theorem cY.of{K:PySem.W.Frag}(h:H a=some (.tup xs)):cY K H a xs:=.inl (.inl h)
theorem Inv.list(I:Inv X pins σ H s)(h:aC X.K H a xs):∃its:List Value,Vals xs its∧PlainL s.heap a its.toArray∧xs.length≤sizeLine:=by
 rcases h with h|⟨o,its,n,hk,hc,hd,hs,hz,r⟩
 ·obtain⟨z,its,n,r,e⟩:=h.ok I.hok
  exact⟨its,r,⟨_,n,e,rfl,rfl,rfl⟩,z⟩
 ·refine⟨its.toList,r,⟨o,n,I.fK a o hk,hc,hd,by simpa using hs⟩,?_⟩
  have e:=r.length
  simp only[Array.length_toList] at e
  omega
theorem Inv.tuple(I:Inv X pins σ H s)(h:cY X.K H a xs):∃its:List Value,Vals xs its∧IsTup s.heap a its.toArray∧xs.length≤sizeLine:=by
 rcases h with h|⟨o,its,n,hk,hc,hs,hz,r⟩
 ·obtain⟨z,its,r,p⟩:=h.ok I.hok
  exact⟨its,r,p,z⟩
 ·refine⟨its.toList,r,⟨o,I.fK a o hk,hc,n,by simpa using hs⟩,?_⟩
  have e:=r.length
  simp only[Array.length_toList] at e
  omega
theorem Inv.nq(I:Inv X pins σ H s)(h:aC X.K H a xs)(h':aC X.K H a ys):xs=ys:=by
 obtain⟨its,r,⟨o,n,e,_,_,d⟩,_⟩:=I.list h
 obtain⟨its',r',⟨o',n',e',_,_,d'⟩,_⟩:=I.list h'
 rw[e] at e';cases e'
 rw[d] at d'
 injection d' with d1 _
 have:its=its':=by simpa using congrArg Array.toList d1
 subst this
 exact r.inj r'
theorem Inv.qm(I:Inv X pins σ H s)(h:cY X.K H a xs)(h':cY X.K H a ys):xs=ys:=by
 obtain⟨its,r,⟨o,e,_,n,d⟩,_⟩:=I.tuple h
 obtain⟨its',r',⟨o',e',_,n',d'⟩,_⟩:=I.tuple h'
 rw[e] at e';cases e'
 rw[d] at d'
 injection d' with d1 _
 have:its=its':=by simpa using congrArg Array.toList d1
 subst this
 exact r.inj r'
end
abbrev Cx.wish(X:Cx)(E:Value→Shared→Prop):Cx:={X with xe:=E}
abbrev Cx.ſ(X:Cx):Cx:=X.wish fun _ _=>False
theorem Cx.Ok.wish{X:Cx}(ok:X.Ok)(E:Value→Shared→Prop):(X.wish E).Ok:=
 ⟨ok.mod,ok.kind,ok.glob,ok.blt,ok.above,ok.inj,ok.has,ok.cab,ok.hd,ok.frames,ok.stk,ok.exf,ok.bs,ok.QH,ok.Eh,ok.QJ,ok.lY,ok.WM⟩
theorem Cx.Ok.dR{X:Cx}{E:Value→Shared→Prop}(ok:(X.wish E).Ok):X.Ok:=
 ⟨ok.mod,ok.kind,ok.glob,ok.blt,ok.above,ok.inj,ok.has,ok.cab,ok.hd,ok.frames,ok.stk,ok.exf,ok.bs,ok.QH,ok.Eh,ok.QJ,ok.lY,ok.WM⟩
section
variable{X:Cx}{pins:List (Addr×Obj)}{σ:St}{H:Hp}{s:Shared}{E:Value→Shared→Prop}
theorem Inv.wish(I:Inv X pins σ H s)(E:Value→Shared→Prop):Inv (X.wish E) pins σ H s:=⟨I.ok.wish E,I.os,I.bare,I.base,I.loc,I.cell,I.free,I.fJ,I.pin,I.hok,I.len⟩
theorem Inv.dR(I:Inv (X.wish E) pins σ H s):Inv X pins σ H s:=⟨I.ok.dR,I.os,I.bare,I.base,I.loc,I.cell,I.free,I.fJ,I.pin,I.hok,I.len⟩
theorem SP.dR{D:Ends}{f:Flow}{s':Shared}(h:SP (X.wish E) pins D f s'):SP X pins D f s':=by
 cases f with
 |next=>obtain⟨σ',H',I,q⟩:=h;exact⟨σ',H',I.dR,q⟩
 |brk=>obtain⟨σ',H',I,q⟩:=h;exact⟨σ',H',I.dR,q⟩
 |cont=>obtain⟨σ',H',I,q⟩:=h;exact⟨σ',H',I.dR,q⟩
 |ret u=>obtain⟨v,σ',H',I,r,q⟩:=h;exact⟨v,σ',H',I.dR,r,q⟩
theorem PE.ſ{e:Expr}{t:TE}(h:PE X.ſ e t):PE X e t:=fun pins s σ H Q I hw=>
 wpAny_mono (h pins s σ H Q (I.wish _) hw) (fun _ _ ⟨v,H',I',r,q⟩=>⟨v,H',I'.dR,r,q⟩) fun _ _ z=>False.elim z
end
section
variable{X:Cx}{st:Stmt}{rest:List Stmt}{t u:TS}{e:Expr}{te:TE}{pos:Pos}
def Ug:TS:=fun D σ H=>D.nx σ H
def ZcO(t u:TS):TS:=fun D σ H=>t {D with nx:=u D} σ H
theorem CJ:jj X [] Ug:=fun _ _ σ H _ I h=>wpAny_execs_nil ⟨σ,H,I,h⟩
theorem vO(h1:PS X st t)(h2:jj X rest u):jj X (st::rest) (ZcO t u):=by
 intro pins s σ H D I h
 refine wpAny_execs_cons (Ť (h1 pins s σ H {D with nx:=u D} I h) fun f s1 q=>?_)
 cases f with
 |next=>
  obtain⟨σ',H',I',q⟩:=q
  exact h2 pins s1 σ' H' D I' q
 |ret v=>exact q
 |brk=>exact q
 |cont=>exact q
theorem QL(h1:PS X st t):jj X [st] t:=by
 intro pins s σ H D I h
 refine wpAny_execs_cons (Ť (h1 pins s σ H D I h) fun f s1 q=>?_)
 cases f with
 |next=>exact wpAny_execs_nil q
 |ret v=>exact q
 |brk=>exact q
 |cont=>exact q
theorem Inv.quiet{pins:List (Addr×Obj)}{σ:St}{H:Hp}{s:Shared}(I:Inv X pins σ H s):interactive X.env=false:=by simp[interactive,I.ok.kind]
def Gj(te:TE):TS:=fun D σ H=>te σ H fun _ H1=>D.nx σ H1
theorem bW(he:PE X e te)(hs:swapsWith e none pos.line X.env=pure false:=by rfl):PS X (.Expr e pos) (Gj te):=by
 intro pins s σ H D I h
 exact wpAny_Expr_any (Ť (he pins s σ H _ I h) fun v s1 ⟨x,H1,I1,r1,q1⟩=>⟨σ,H1,I1,q1⟩) I.quiet hs
def Zkj(te:TE):TS:=fun D σ H=>te σ H D.rt
theorem Xb(he:PE X e te):PS X (.Return (some e) pos) (Zkj te):=by
 intro pins s σ H D I h
 exact wpAny_Return_some (Ť (he pins s σ H _ I h) fun v s1 ⟨x,H1,I1,r1,q1⟩=>⟨x,σ,H1,I1,r1,q1⟩)
def Zkk(c:TT)(t u:TS):TS:=fun D σ H=>c σ H fun b H1=>if b=true then t D σ H1 else u D σ H1
theorem ZcP{c:Expr}{a b:List Stmt}{tc:TT}(hc:PT X c tc)(ha:jj X a t)(hb:jj X b u):PS X (.If c a b pos) (Zkk tc t u):=by
 intro pins s σ H D I h
 refine wpAny_If (Ť (hc pins s σ H _ I h) fun d s1 ⟨H1,I1,q1⟩=>?_)
 cases d with
 |true=>exact ha pins s1 σ H1 D I1 q1
 |false=>exact hb pins s1 σ H1 D I1 q1
end
abbrev TG:=V→St→Hp→(St→Hp→Prop)→Prop
abbrev Gk:=List V→St→Hp→(St→Hp→Prop)→Prop
def PG(X:Cx)(target:Expr)(t:TG):Prop:=
 ∀(pins:List (Addr×Obj)) (s:Shared) (σ:St) (H:Hp) (v:V) (u:Value) (Q:St→Hp→Prop),Inv X pins σ H s→RelV v u→t v σ H Q→
  wpAny (model X.prog X.w) X.A (assign target X.env u) (fun _ s'=>∃σ' H',Inv X pins σ' H' s'∧Q σ' H') X.xe s
def zE(X:Cx)(ts:List Expr)(t:Gk):Prop:=
 ∀(pins:List (Addr×Obj)) (s:Shared) (σ:St) (H:Hp) (vs:List V) (us:List Value) (Q:St→Hp→Prop),Inv X pins σ H s→Vals vs us→t vs σ H Q→
  wpAny (model X.prog X.w) X.A (assignInOrder ((assignEach ts X.env).map (·.2)) us) (fun _ s'=>∃σ' H',Inv X pins σ' H' s'∧Q σ' H') X.xe s
abbrev Xc:=V→V→V→Hp→(Hp→Prop)→Prop
def ZcQ(X:Cx)(t:Xc):Prop:=
 ∀(pins:List (Addr×Obj)) (s:Shared) (σ:St) (H:Hp) (o i v:V) (ov iv u:Value) (Q:Hp→Prop),Inv X pins σ H s→RelV o ov→RelV i iv→RelV v u→t o i v H Q→
  wpAny (model X.prog X.w) X.A (setItem ov iv u) (fun _ s'=>∃H',Inv X pins σ H' s'∧Q H') X.xe s
abbrev TIp:=V→V→Hp→VK→Prop
def PIp(X:Cx)(op:Operator)(t:TIp):Prop:=
 ∀(pins:List (Addr×Obj)) (s:Shared) (σ:St) (H:Hp) (x y:V) (v u:Value) (Q:VK),Inv X pins σ H s→RelV x v→RelV y u→t x y H Q→
  wpAny (model X.prog X.w) X.A (inplaceOp op v u) (EP X pins σ Q) X.xe s
section
variable{X:Cx}{pos:Pos}
def Uh(i:Nat):TG:=fun v σ H Q=>Q (σ.set i (some v)) H
theorem QM{i:Nat}{x:Str}(hN:X.N.Nodup)(hi:X.N[i]?=some x)(hx:Loc X.env.scope x)(hf:X.fn x=true∨X.env.scope.names.lookup x=some .local:=by first|exact .inl rfl|exact .inr rfl|assumption):PG X (.Name x pos) (Uh i):=by
 intro pins s σ H v u Q I r h
 exact wpAny_assign_Name (nj I hN hi hx r (fun s' I'=>⟨_,H,I',h⟩) hf)
def Zkl:Gk:=fun vs σ H Q=>vs=[]∧Q σ H
def ZcR(t:TG)(u:Gk):Gk:=fun vs σ H Q=>∃v r,vs=v::r∧t v σ H fun σ' H'=>u r σ' H' Q
theorem QS:zE X [] Zkl:=by
 intro pins s σ H vs us Q I r h
 obtain⟨e,h⟩:=h
 subst e
 cases r
 exact assignInOrder_nil ⟨σ,H,I,h⟩
theorem Gm{e:Expr}{es:List Expr}{t:TG}{u:Gk}(h1:PG X e t)(h2:zE X es u)
 (hs:(assignEach (e::es) X.env).map (·.2)=assign e X.env::(assignEach es X.env).map (·.2):=by rfl):zE X (e::es) (ZcR t u):=by
 intro pins s σ H vs us Q I r h
 obtain⟨v,vr,e1,h⟩:=h
 subst e1
 cases r with
 |cons r rr=>
  rw[hs]
  refine assignInOrder_cons (Ť (h1 pins s σ H _ _ _ I r h) fun _ s1 ⟨σ1,H1,I1,q1⟩=>?_)
  exact h2 pins s1 σ1 H1 _ _ Q I1 rr q1
def Zkm(K:PySem.W.Frag)(n:Nat)(t:Gk):TG:=fun v σ H Q=>∃a xs,v=.ref a∧cY K H a xs∧xs.length=n∧t xs σ H Q
theorem Gn{es:List Expr}{k:Nat}{t:Gk}{n:Nat}(hc:X.calm=true)(h:zE X es t)
 (hn:(assignEach es X.env).length=n:=by rfl)(hst:(assignEach es X.env).findIdx? (·.1)=none:=by rfl):PG X (.Tuple es k pos) (Zkm X.K n t):=by
 intro pins s σ H v u Q I r hw
 obtain⟨a,xs,e1,hq,hl,hw⟩:=hw
 subst e1
 cases r
 obtain⟨its,rv,ht,hz⟩:=I.tuple hq
 refine assign_Tuple_tuple (I.ok.hd hc) ht (by simp[hn,←hl,rv.length]) hst fun h' hx=>?_
 have I1:Inv X pins σ H {s with heap:=h'}:=I.kept (t':=s.toks) fun b o e=>hx b o (Nat.ne_of_lt (Heap.lt_size e)) e
 exact h pins _ σ H xs _ Q I1 (by simpa using rv) hw
def Zkn(to ti:TE)(t:Xc):TG:=fun v σ H Q=>to σ H fun o H1=>ti σ H1 fun i H2=>t o i v H2 fun H3=>Q σ H3
theorem Xd{o i:Expr}{to ti:TE}{t:Xc}(ho:PE X o to)(hi:PE X i ti)(hs:ZcQ X t)
 (ha:∀v,assign (.Subscript o i pos) X.env v=(do
   let ov ←holding [v] (eval o X.env)
   let iv ←holding [v,ov] (eval i X.env)
   standAt pos
   holding [v,ov,iv] (setItem ov iv v)
   release [v,ov,iv] []):=by intro _;rfl):PG X (.Subscript o i pos) (Zkn to ti t):=by
 intro pins s σ H v u Q I r h
 rw[ha]
 refine wpAny_bind (wpAny_holding (Ť (ho pins s σ H _ I h) fun ov s1 ⟨x,H1,I1,r1,q1⟩=>?_))
 refine wpAny_bind (wpAny_holding (Ť (hi pins s1 σ H1 _ I1 q1) fun iv s2 ⟨y,H2,I2,r2,q2⟩=>?_))
 refine wpAny_bind (wpAny_standAt (wpAny_bind (wpAny_holding (Ť (hs pins s2 σ H2 x y v ov iv u _ I2 r1 r2 r q2) fun _ s3 ⟨H3,I3,q3⟩=>?_))))
 exact wpAny_release ⟨σ,H3,I3,q3⟩
def ZcS(te:TE)(g:TG):TS:=fun D σ H=>te σ H fun x H1=>g x σ H1 D.nx
theorem Gp{tg e:Expr}{te:TE}{g:TG}(he:PE X e te)(hg:PG X tg g)(hs:swapsWithSole [tg] e pos.line X.env=pure false:=by rfl)(hw:swappedStores [tg] e X.env=pure none:=by rfl)
 (h1:(assignEach [tg] X.env).map (·.2)=[assign tg X.env]:=by rfl):PS X (.Assign [tg] e pos) (ZcS te g):=by
 intro pins s σ H D I h
 refine wpAny_Assign_stores (Ť (he pins s σ H _ I h) fun v s1 ⟨x,H1,I1,r1,q1⟩=>?_) hs hw
 rw[h1]
 exact Ť (hg pins s1 σ H1 x v _ I1 r1 q1) fun _ s2 q=>q
theorem Xe{i:Nat}{x:Str}{e:Expr}{te:TE}{pos':Pos}(hN:X.N.Nodup)(hi:X.N[i]?=some x)(hx:Loc X.env.scope x)(he:PE X e te)(hs:swapsWith e (some (.Name x pos')) pos.line X.env=pure false:=by rfl)(hf:X.fn x=true∨X.env.scope.names.lookup x=some .local:=by first|exact .inl rfl|exact .inr rfl|assumption) :
 PS X (.Assign [.Name x pos'] e pos) (ZcS te (Uh i)):=by
 intro pins s σ H D I h
 refine wpAny_Assign_Name (Ť (he pins s σ H _ I h) fun v s1 ⟨y,H1,I1,r1,q1⟩=>?_) hs
 exact nj I1 hN hi hx r1 (fun s2 I2=>⟨_,H1,I2,q1⟩) hf
def Zko(i:Nat)(te:TE)(ti:TIp):TS:=fun D σ H=>∃x,σ[i]?=some (some x)∧te σ H fun y H1=>ti x y H1 fun z H2=>D.nx (σ.set i (some z)) H2
theorem Xf{i:Nat}{x:Str}{e:Expr}{te:TE}{op:Operator}{ti:TIp}{pos':Pos}(hN:X.N.Nodup)(hi:X.N[i]?=some x)(hx:Loc X.env.scope x)(he:PE X e te)(ho:PIp X op ti)(hf:X.fn x=true∨X.env.scope.names.lookup x=some .local:=by first|exact .inl rfl|exact .inr rfl|assumption) :
 PS X (.AugAssign (.Name x pos') op e pos) (Zko i te ti):=by
 intro pins s σ H D I h
 obtain⟨v,e1,h⟩:=h
 obtain⟨m,hn,hl⟩:=I.loc
 have vis:Gd X.env.scope x:=by rcases hx with k|k;exact .inl k;exact .inr (.inl k)
 obtain⟨u,r,l⟩:=hl i x v hi e1 vis
 refine wpAny_AugAssign_Name ?_
 have go:wpAny (model X.prog X.w) X.A (eval e X.env) (fun w s₂=>wpAny (model X.prog X.w) X.A (inplaceOp op u w) (fun r s₃=>wpAny (model X.prog X.w) X.A (storeName X.env x r) (fun _=>SP X pins D .next) X.xe s₃) X.xe s₂) X.xe s:=by
  refine Ť (he pins s σ H _ I h) fun w s1 ⟨y,H1,I1,r1,q1⟩=>?_
  refine Ť (ho pins s1 σ H1 v y u w _ I1 r r1 q1) fun z s2 ⟨zv,H2,I2,r2,q2⟩=>?_
  exact nj I2 hN hi hx r2 (fun s3 I3=>⟨_,H2,I3,q2⟩) hf
 rcases l with⟨hk,hm⟩|⟨hk,c,hc,hcell⟩
 ·exact wpAny_loadName_local I.ok.kind hk hn hm go
 ·rcases hk with hk|hk
  ·exact wpAny_loadName_cell I.ok.kind hk hc hcell go
  ·rcases hx with k|k
   ·have:X.env.scope.names.lookup x=some .free:=hk
    rw[k] at this;cases this
   ·have:X.env.scope.names.lookup x=some .free:=hk
    rw[k] at this;cases this
def ipI(f:Int→Int→Int):TIp:=fun x y H Q=>∃i j,x=.int i∧y=.int j∧Q (.int (f i j)) H
end
section
variable{X:Cx}{pos:Pos}
def Xg(c:TT)(tb:TS):TS:=fun D σ H=>∃W:Nat→St→Hp→Prop,(∃m,W m σ H)∧∀m σ H,W m σ H→
 c σ H fun b H1=>if b=true then ∃N:St→Hp→Prop,(∀σ' H',N σ' H'→∃m',m'<m∧W m' σ' H')∧tb {D with nx:=N,ct:=N,bk:=D.nx} σ H1 else D.nx σ H1
theorem Gq{c:Expr}{body:List Stmt}{tc:TT}{tb:TS}(hp:PassesOwn (model X.prog X.w) X.A X.env X.xe)(hc:PT X c tc)(hb:jj X body tb):PS X (.While c body [] pos) (Xg tc tb):=by
 intro pins s σ H D I h
 obtain⟨W,⟨m0,w0⟩,turn⟩:=h
 refine wpAny_While (codeAny_whileLoop (fun n s'=>∃σ' H',Inv X pins σ' H' s'∧W n σ' H') ?_ m0 ⟨σ,H,I,w0⟩)
 rintro n s1 ⟨σ1,H1,I1,w1⟩
 refine wpAny_passesOwn hp (Ť (hc pins s1 σ1 H1 _ I1 (turn n σ1 H1 w1)) fun b s2 ⟨H2,I2,q2⟩=>?_)
 cases b with
 |true=>
  obtain⟨N,hN,q2⟩:=q2
  rw[if_pos rfl]
  refine wpAny_passesOwn hp (Ť (hb pins s2 σ1 H2 _ I2 q2) fun f s3 q3=>?_)
  cases f with
  |next=>
   obtain⟨σ3,H3,I3,n3⟩:=q3
   obtain⟨m',hm,w3⟩:=hN σ3 H3 n3
   exact⟨m',hm,σ3,H3,I3,w3⟩
  |cont=>
   obtain⟨σ3,H3,I3,n3⟩:=q3
   obtain⟨m',hm,w3⟩:=hN σ3 H3 n3
   exact⟨m',hm,σ3,H3,I3,w3⟩
  |brk=>exact q3
  |ret v=>exact q3
 |false=>
  rw[if_neg Bool.false_ne_true]
  exact wpAny_execs_nil ⟨σ1,H2,I2,q2⟩
end
structure It where
 go:Nat→Hp→Prop
 yld:Nat→Hp→V→Hp→Prop
 stop:Nat→Hp→Prop
def fM(X:Cx)(pins:List (Addr×Obj))(H:Hp)(b:Addr):Prop:=
 H b=none∧b≠X.env.locals∧b∉X.fs∧(b∈X.ex∨X.s₀.heap.objs.size≤b)∧(∀x c,X.env.cells.lookup x=some c→c≠b)∧∀p∈X.pn++pins,p.1≠b
theorem Inv.Ei{X:Cx}{pins:List (Addr×Obj)}{σ:St}{H H':Hp}{s:Shared}{b:Addr}(I:Inv X pins σ H s)(hb:s.heap.objs.size≤b)(hn:H' b=none):fM X pins H' b:=by
 refine⟨hn,Nat.ne_of_gt (Nat.lt_of_lt_of_le I.lt hb),I.Zke hb,.inr (Nat.le_trans I.sz hb),fun x c e z=>?_,fun p hp z=>?_⟩
 ·obtain⟨v,q⟩:=I.cell x c e
  exact absurd (Nat.lt_of_lt_of_le q.lt (by rw[z];exact hb)) (Nat.lt_irrefl _)
 ·exact absurd (Nat.lt_of_lt_of_le (Heap.lt_size (I.pin p hp).1) (by rw[z];exact hb)) (Nat.lt_irrefl _)
structure Turn(P:Program)(w:World)(K:PySem.W.Frag)(tg:Expr)(J:It)(fp:List Addr)(it:Addr)(tn:Nat→Heap→Prop):Prop where
 mem:it∈fp
 obj:∀i h,tn i h→∀b∈fp,∃o,h.get? b=some o∧∀v,o.data≠ .cell v
 keep:∀i h h',tn i h→(∀b∈fp,∀o,h.get? b=some o→h'.get? b=some o)→tn i h'
 item:∀(X:Cx),X.prog=P→X.w=w→X.K=K→X.calm=true→∀(i:Nat) (pins:List (Addr×Obj)) (s:Shared) (σ:St) (H:Hp) (E:Value→Shared→Prop),Inv X pins σ H s→(∀b∈fp,fM X pins H b)→tn i s.heap→J.go i H→
  wpAny (model P w) X.A (pyNext (.ref it)) (fun r s1=>∃u,r=some u∧
   wpAny (model P w) X.A (letOwnedTupleGo tg (.ref it) u) (fun _ s2=>∃x H',Inv X pins σ H' s2∧RelV x u∧J.yld i H x H'∧tn (i+1) s2.heap∧∀b∈fp,H' b=none) E s1) E s
 done:∀(X:Cx),X.prog=P→X.w=w→X.K=K→X.calm=true→∀(i:Nat) (pins:List (Addr×Obj)) (s:Shared) (σ:St) (H:Hp) (E:Value→Shared→Prop),Inv X pins σ H s→(∀b∈fp,fM X pins H b)→tn i s.heap→J.stop i H→
  wpAny (model P w) X.A (pyNext (.ref it)) (fun r s1=>r=none∧Inv X pins σ H s1) E s
 self:∀(A:Around) (i:Nat) (s:Shared) (Q:Value→Shared→Prop) (E:Value→Shared→Prop),tn i s.heap→Q (.ref it) s→wpAny (model P w) A (pyIter (.ref it)) Q E s
abbrev TI:=St→Hp→(It→Hp→Prop)→Prop
def PIE(X:Cx)(pins:List (Addr×Obj))(σ:St)(tg:Expr)(R:It→Hp→Prop)(itv:Value)(s2:Shared):Prop:=
 ∃(it:Addr) (fp:List Addr) (tn:Nat→Heap→Prop) (J:It) (H':Hp),itv=.ref it∧Inv X pins σ H' s2∧Turn X.prog X.w X.K tg J fp it tn∧tn 0 s2.heap∧(∀b∈fp,fM X pins H' b)∧R J H'
def PI(X:Cx)(tg iter:Expr)(wi:TI):Prop:=
 ∀(pins:List (Addr×Obj)) (s:Shared) (σ:St) (H:Hp) (R:It→Hp→Prop),Inv X pins σ H s→wi σ H R→
  wpAny (model X.prog X.w) X.A (eval iter X.env) (fun v s1=>wpAny (model X.prog X.w) X.A (pyIter v) (PIE X pins σ tg R) X.xe s1) X.xe s
theorem CK{M:Model}{A:Around}{E:Value→Shared→Prop}{s:Shared}{tg:Expr}{it:Addr}{u:Value}{o:Obj}{n:String}{vs:Array Value}{Q:Unit→Shared→Prop}(ho:s.heap.get? it=some o)(hc:o.cls=.type n)(hd:o.data=.fields vs)
 (hn:["enumerate","zip","dict_itemiterator","dict_reverseitemiterator","odict_iterator","itertools.zip_longest","itertools.pairwise"].contains n=false)(hQ:Q () s):wpAny M A (letOwnedTupleGo tg (.ref it) u) Q E s:=by
 unfold letOwnedTupleGo
 cases tg<;>first
  |exact wpAny_pure hQ
  |(cases u<;>first
     |exact wpAny_pure hQ
     |(refine wpAny_bind (wpAny_load ho ?_)
       rw[hc,hd]
       show wpAny M A (if(["enumerate","zip","dict_itemiterator","dict_reverseitemiterator","odict_iterator","itertools.zip_longest","itertools.pairwise"].contains n && vs[0]?== some (rawInt _))=true then _ else _) Q E s
       rw[if_neg (by intro h;rw[hn,Bool.false_and] at h;cases h)]
       exact wpAny_pure hQ))
def Xh(K:PySem.W.Frag)(a:Addr):It:=
 ⟨fun i H=>∃xs x,aC K H a xs∧xs[i]?=some x,fun i H x H'=>H'=H∧∀xs,aC K H a xs→xs[i]?=some x,fun i H=>∃xs,aC K H a xs∧xs.length≤i⟩
def Itt(K:PySem.W.Frag)(a:Addr):It:=
 ⟨fun i H=>∃xs x,cY K H a xs∧xs[i]?=some x,fun i H x H'=>H'=H∧∀xs,cY K H a xs→xs[i]?=some x,fun i H=>∃xs,cY K H a xs∧xs.length≤i⟩
def Itr(lo:Int)(n:Nat):It:=⟨fun i _=>i<n,fun i H x H'=>H'=H∧x=.int (lo+i),fun i _=>n≤i⟩
theorem Ej{P:Program}{w:World}{K:PySem.W.Frag}{tg:Expr}(a it:Addr):Turn P w K tg (Xh K a) [it] it (fun i h=>h.IsListIter it a i) where
 mem:=by simp
 obj:=fun i h st b hb=>by
  have e:b=it:=by simpa using hb
  subst e
  obtain⟨o,e,c,d⟩:=st
  exact⟨o,e,fun v z=>by rw[d] at z;cases z⟩
 keep:=fun i h h' st k=>st.at fun o e=>k it (by simp) o e
 item:=by
  intro X hP hw hK hc i pins s σ H E I hf st hg
  subst hP hw hK
  obtain⟨xs,x,hq,hx⟩:=hg
  obtain⟨its,rv,p,hz⟩:=I.list hq
  obtain⟨u,hu,ru⟩:=rv.get hx
  obtain⟨f0,f1,f2,f3,f4,f5⟩:=hf it (by simp)
  refine wpAny_pyNext_list_item st p.isList (x:=u) (by simpa using hu) fun h' st' sb=>?_
  have I1:Inv X pins σ H {s with heap:=h'}:=I.turned (t':=s.toks) (fun b o hb e=>(sb.2 b hb).trans e) f0 f1 f3 f4 f5
  obtain⟨o,e,c,d⟩:=id st'
  exact⟨u,rfl,CK (s:={s with heap:=h'}) e c d (by decide) ⟨x,H,I1,ru,⟨rfl,fun ys hy=>by rw[I.nq hy hq];exact hx⟩,st',fun b hb=>(hf b hb).1⟩⟩
 done:=by
  intro X hP hw hK hc i pins s σ H E I hf st hg
  subst hP hw hK
  obtain⟨xs,hq,hx⟩:=hg
  obtain⟨its,rv,p,hz⟩:=I.list hq
  obtain⟨f0,f1,f2,f3,f4,f5⟩:=hf it (by simp)
  have hl:=rv.length
  exact wpAny_pyNext_list_end (I.ok.hd hc) st p.isList (by simp;omega) fun h' eb=>⟨rfl,I.turned (t':=s.toks) (fun b o hb e=>eb b o hb e) f0 f1 f3 f4 f5⟩
 self:=fun _ _ _ _ _ st h=>wpAny_pyIter_listiter st h
theorem zF{P:Program}{w:World}{K:PySem.W.Frag}{tg:Expr}(a it:Addr):Turn P w K tg (Itt K a) [it] it (fun i h=>h.IsTupleIter it a i) where
 mem:=by simp
 obj:=fun i h st b hb=>by
  have e:b=it:=by simpa using hb
  subst e
  obtain⟨o,e,c,d⟩:=st
  exact⟨o,e,fun v z=>by rw[d] at z;cases z⟩
 keep:=fun i h h' st k=>st.at fun o e=>k it (by simp) o e
 item:=by
  intro X hP hw hK hc i pins s σ H E I hf st hg
  subst hP hw hK
  obtain⟨xs,x,hq,hx⟩:=hg
  obtain⟨its,rv,p,hz⟩:=I.tuple hq
  obtain⟨u,hu,ru⟩:=rv.get hx
  obtain⟨f0,f1,f2,f3,f4,f5⟩:=hf it (by simp)
  refine wpAny_pyNext_tuple_item st (show s.heap.IsTuple a its.toArray from p) (x:=u) (by simpa using hu) fun h' st' sb=>?_
  have I1:Inv X pins σ H {s with heap:=h'}:=I.turned (t':=s.toks) (fun b o hb e=>(sb.2 b hb).trans e) f0 f1 f3 f4 f5
  obtain⟨o,e,c,d⟩:=id st'
  exact⟨u,rfl,CK (s:={s with heap:=h'}) e c d (by decide) ⟨x,H,I1,ru,⟨rfl,fun ys hy=>by rw[I.qm hy hq];exact hx⟩,st',fun b hb=>(hf b hb).1⟩⟩
 done:=by
  intro X hP hw hK hc i pins s σ H E I hf st hg
  subst hP hw hK
  obtain⟨xs,hq,hx⟩:=hg
  obtain⟨its,rv,p,hz⟩:=I.tuple hq
  obtain⟨f0,f1,f2,f3,f4,f5⟩:=hf it (by simp)
  have hl:=rv.length
  exact wpAny_pyNext_tuple_end (I.ok.hd hc) st (show s.heap.IsTuple a its.toArray from p) (by simp;omega) fun h' eb=>⟨rfl,I.turned (t':=s.toks) (fun b o hb e=>eb b o hb e) f0 f1 f3 f4 f5⟩
 self:=fun _ _ _ _ _ st h=>wpAny_pyIter_tupleiter st h
theorem zG{P:Program}{w:World}{K:PySem.W.Frag}{tg:Expr}(it:Addr)(lo:Int)(n:Nat):Turn P w K tg (Itr lo n) [it] it (fun i h=>IsRangeIter h it (lo+(i:Nat)*1) ((n:Int)-(i:Nat)) 1) where
 mem:=by simp
 obj:=fun i h st b hb=>by
  have e:b=it:=by simpa using hb
  subst e
  exact⟨_,st,fun v z=>by
   have z':Data.fields _=Data.cell v:=z
   cases z'⟩
 keep:=fun i h h' st k=>k it (by simp) _ st
 item:=by
  intro X hP hw hK hc i pins s σ H E I hf st hg
  subst hP hw hK
  obtain⟨f0,f1,f2,f3,f4,f5⟩:=hf it (by simp)
  have W:=Walks.range (prog:=X.prog) (w:=X.w) (I.ok.hd hc) it lo 1 n
  refine W.item i s _ _ hg st fun v h' tk hv st' kk=>?_
  obtain⟨t,rfl⟩:=hv
  have I1:Inv X pins σ H {s with heap:=h',toks:=tk}:=I.turned (fun b o hb e=>kk b o (by simpa using hb) e) f0 f1 f3 f4 f5
  refine⟨_,rfl,CK (s:={s with heap:=h',toks:=tk}) (n:= "range_iterator") st' rfl rfl (by decide) ⟨.int (lo+i),H,I1,⟨t,?_⟩,⟨rfl,rfl⟩,st',fun b hb=>(hf b hb).1⟩⟩
  rw[Int.mul_one]
 done:=by
  intro X hP hw hK hc i pins s σ H E I hf st hg
  subst hP hw hK
  obtain⟨f0,f1,f2,f3,f4,f5⟩:=hf it (by simp)
  exact wpAny_pyNext_range_end (I.ok.hd hc) st (by have:n≤i:=hg;omega) fun h' eb=>⟨rfl,I.turned (t':=s.toks) (fun b o hb e=>eb b o hb e) f0 f1 f3 f4 f5⟩
 self:=fun _ _ _ _ _ st h=>wpAny_pyIter_rangeiter st h
end L2
namespace L2
open PySem PySem.Spec PyProof.Rows
section
variable{X:Cx}{tg:Expr}
theorem Gs{pins:List (Addr×Obj)}{σ:St}{H:Hp}{s:Shared}{R:It→Hp→Prop}{E:Value→Shared→Prop}{lo hi:Int}{t u v:Tok}{tk:Nat}(I:Inv X pins σ H s)(h1: -(2 ^ 62)≤lo)(h2:lo<2 ^ 62)(h3: -(2 ^ 62)≤hi)(h4:hi<2 ^ 62)
 (q:R (Itr lo (hi-lo).toNat) H):wpAny (model X.prog X.w) X.A (pyIter (.ref s.heap.objs.size)) (PIE X pins σ tg R) E {s with heap:=s.heap.push {cls:=.type "range",data:=.fields #[.int lo t,.int hi u,.int 1 v]},toks:=tk}:=by
 refine wpAny_pyIter_range (IsRange.new ..) (small_one h1 h2 h3 h4) ?_
 have I1:Inv X pins σ H {s with heap:=s.heap.push {cls:=.type "range",data:=.fields #[.int lo t,.int hi u,.int 1 v]},toks:=tk}:=I.kept fun b o e=>Heap.get?_push_of_some _ e
 refine⟨(s.heap.push {cls:=.type "range",data:=.fields #[.int lo t,.int hi u,.int 1 v]}).objs.size,[(s.heap.push {cls:=.type "range",data:=.fields #[.int lo t,.int hi u,.int 1 v]}).objs.size],_,_,H,rfl,
  I1.kept (t':=tk) fun b o e=>Heap.get?_push_of_some _ e,zG _ lo (hi-lo).toNat,?_,fun b hb=>?_,q⟩
 ·have e1:lo+((0:Nat):Int)*1=lo:=by simp
  have e2:(((hi-lo).toNat:Nat):Int)-((0:Nat):Int)=Builtin.Range.rangeSize lo hi 1:=by rw[rangeSize_one];split<;>omega
  show IsRangeIter _ _ (lo+((0:Nat):Int)*1) ((((hi-lo).toNat:Nat):Int)-((0:Nat):Int)) 1
  rw[e1,e2]
  exact Heap.get?_push_size _ rfl
 ·have e:b=(s.heap.push {cls:=.type "range",data:=.fields #[.int lo t,.int hi u,.int 1 v]}).objs.size:=by simpa using hb
  subst e
  exact I1.Ei (Nat.le_refl _) (I1.hok.fresh (Nat.le_refl _))
def ZcT(ta:TA):TI:=fun σ H R=>ta σ H fun vs H1=>∃j:Int,vs=[.int j]∧ -(2 ^ 62)≤j∧j<2 ^ 62∧R (Itr 0 j.toNat) H1
theorem Ek{a:Expr}{ta:TA}{p pos:Pos}(hg:Gl X "range")(hm:X.mg "range" =none)(ha:PA X [a] ta)(hs:starEach [a] X.env=[(false,eval a X.env)]:=by rfl):PI X tg (.Call (.Name "range" p) [a] [] pos) (ZcT ta):=by
 intro pins s σ H R I h
 refine Call_ (jM I hg hm boot_range (PyProof.Rows.callWith_type1 (Ť (ha pos pins s σ H _ I h) fun us s1 ⟨vs,H1,I1,r1,q1⟩=>?_) hs rfl))
 obtain⟨j,e,q1,q2,q⟩:=q1
 subst e
 cases r1 with
 |cons r rr=>
  cases rr
  obtain⟨t,rfl⟩:=r
  exact call_range_1 (Gs I1 (by omega) (by omega) q1 q2 (by simpa using q))
def Zkp(wi:TI)(g:TG)(tb:TS):TS:=fun D σ H=>wi σ H fun J H1=>∃W:Nat→Nat→St→Hp→Prop,(∃m,W 0 m σ H1)∧∀i m σ H,W i m σ H→
 (J.stop i H∧D.nx σ H)∨(J.go i H∧∃N:St→Hp→Prop,(∀σ' H',N σ' H'→∃m',m'<m∧W (i+1) m' σ' H')∧∀x H',J.yld i H x H'→g x σ H' fun σ2 H2=>tb {D with nx:=N,ct:=N,bk:=D.nx} σ2 H2)
def jN(fp:List Addr)(h:Heap):List (Addr×Obj):=fp.filterMap fun b=>(h.get? b).map fun o=>(b,o)
theorem bD{fp:List Addr}{h:Heap}{b:Addr}{o:Obj}(hb:b∈fp)(e:h.get? b=some o):(b,o)∈jN fp h:=List.mem_filterMap.mpr ⟨b,hb,by rw[e];rfl⟩
theorem El{fp:List Addr}{h:Heap}{p:Addr×Obj}(hp:p∈jN fp h):p.1∈fp∧h.get? p.1=some p.2:=by
 obtain⟨b,hb,e⟩:=List.mem_filterMap.mp hp
 cases q:h.get? b with
 |none=>rw[q] at e;cases e
 |some o=>
  rw[q] at e
  have e':(b,o)=p:=Option.some.inj e
  subst e'
  exact⟨hb,q⟩
theorem Inv.pinned{pins:List (Addr×Obj)}{σ:St}{H:Hp}{s:Shared}{fp:List Addr}(I:Inv X pins σ H s)(hf:∀b∈fp,fM X pins H b)(ho:∀b∈fp,∃o,s.heap.get? b=some o∧∀v,o.data≠ .cell v):Inv X (pins++jN fp s.heap) σ H s:=
 I.CG fun p hp=>(List.mem_append.mp hp).elim (fun z=>I.pin p (List.mem_append_right _ z)) fun z=>by
   obtain⟨hb,e⟩:=El z
   obtain⟨f0,f1,f2,_⟩:=hf p.1 hb
   obtain⟨o,e',d⟩:=ho p.1 hb
   rw[e] at e';cases e'
   exact⟨e,f0,f1,f2,d⟩
theorem Inv.fO{pins pl:List (Addr×Obj)}{σ:St}{H:Hp}{s:Shared}(I:Inv X (pins++pl) σ H s):Inv X pins σ H s:=I.CG fun p hp=>I.pin p (List.mem_append_right _ (List.mem_append_left _ hp))
theorem Xi{iter:Expr}{body:List Stmt}{wi:TI}{g:TG}{tb:TS}{pos:Pos}(hp:PassesOwn (model X.prog X.w) X.A X.env X.xe)(hc:X.calm=true)(hi:PI X tg iter wi)(hg:PG X tg g)(hb:jj X body tb)
 (hs:∀x,foldedSetIterable iter X.env x=pure x:=by intro _;rfl):PS X (.For tg iter body [] pos) (Zkp wi g tb):=by
 intro pins s σ H D I h
 refine wpAny_For (Ť (hi pins s σ H _ I h) fun v s1 h1=>Ť h1 fun itv s2 h2=>?_) hs
 obtain⟨it,fp,tn,J,H2,e,I2,T,st2,f2,W,⟨m0,w0⟩,turn⟩:=h2
 subst e
 -- what stays true of the iterator's objects through the loop
 have stat:∀{H':Hp},(∀b∈fp,H' b=none)→∀b∈fp,fM X pins H' b:=fun hn b hb=>⟨hn b hb,(f2 b hb).2⟩
 refine codeAny_forLoop_any (fun n s'=>∃i σ' H',Inv X pins σ' H' s'∧tn i s'.heap∧(∀b∈fp,H' b=none)∧W i n σ' H') ?_ m0 ⟨0,σ,H2,I2,st2,fun b hb=>(f2 b hb).1,w0⟩
 rintro n s3 ⟨i,σ3,H3,I3,st3,fr3,w3⟩
 rcases turn i n σ3 H3 w3 with⟨stop,qn⟩|⟨go,N,hN,step⟩
 ·refine wpAny_passesOwn hp (Ť (T.done X rfl rfl rfl hc i pins s3 σ3 H3 X.xe I3 (stat fr3) st3 stop) fun r s4 ⟨hr,I4⟩=>?_)
  subst hr
  exact wpAny_execs_nil ⟨σ3,H3,I4,qn⟩
 ·refine wpAny_passesOwn hp (Ť (T.item X rfl rfl rfl hc i pins s3 σ3 H3 X.xe I3 (stat fr3) st3 go) fun r s4 ⟨u,hr,h4⟩=>?_)
  subst hr
  refine wpAny_passesOwn hp (Ť h4 fun _ s5 ⟨x,H5,I5,r5,y5,QT,Xj⟩=>?_)
  have I5':=I5.pinned (stat Xj) (T.obj _ _ QT)
  refine wpAny_passesOwn hp (Ť (hg _ s5 σ3 H5 x u _ I5' r5 (step x H5 y5)) fun _ s6 ⟨σ6,H6,I6,q6⟩=>?_)
  refine wpAny_passesOwn hp (Ť (hb _ s6 σ6 H6 _ I6 q6) fun f s7 q7=>?_)
  have again:∀{σ7:St} {H7:Hp},Inv X (pins++jN fp s5.heap) σ7 H7 s7→N σ7 H7→∃m,m<n∧∃i σ' H',Inv X pins σ' H' s7∧tn i s7.heap∧(∀b∈fp,H' b=none)∧W i m σ' H':=fun{σ7 H7} I7 n7=>by
   obtain⟨m',hm,w7⟩:=hN σ7 H7 n7
   refine⟨m',hm,i+1,σ7,H7,I7.fO,T.keep _ _ _ QT fun b hb o e=>(I7.pin (b,o) (List.mem_append_right _ (List.mem_append_right _ (bD hb e)))).1,fun b hb=>?_,w7⟩
   obtain⟨o,e,d⟩:=T.obj _ _ QT b hb
   exact(I7.pin (b,o) (List.mem_append_right _ (List.mem_append_right _ (bD hb e)))).2.1
  cases f with
  |next=>obtain⟨σ7,H7,I7,n7⟩:=q7;exact again I7 n7
  |cont=>obtain⟨σ7,H7,I7,n7⟩:=q7;exact again I7 n7
  |brk=>obtain⟨σ7,H7,I7,q7⟩:=q7;exact⟨σ7,H7,I7.fO,q7⟩
  |ret v=>obtain⟨x7,σ7,H7,I7,r7,q7⟩:=q7;exact⟨x7,σ7,H7,I7.fO,r7,q7⟩
end
end L2
namespace L2
open PySem PySem.Spec PyProof.Rows
abbrev R2:=V→V→Hp→VK→Prop
def ao(X:Cx)(f:Value→Value→Sem Value)(r:R2):Prop:=
 ∀(pins:List (Addr×Obj)) (s:Shared) (σ:St) (H:Hp) (x y:V) (v u:Value) (Q:VK),Inv X pins σ H s→RelV x v→RelV y u→r x y H Q→
  wpAny (model X.prog X.w) X.A (f v u) (EP X pins σ Q) X.xe s
def QV(X:Cx)(f:Value→Sem Value)(r:V→Hp→VK→Prop):Prop:=
 ∀(pins:List (Addr×Obj)) (s:Shared) (σ:St) (H:Hp) (x:V) (v:Value) (Q:VK),Inv X pins σ H s→RelV x v→r x H Q→
  wpAny (model X.prog X.w) X.A (f v) (EP X pins σ Q) X.xe s
def Š(X:Cx)(f:Value)(r:List V→Hp→VK→Prop):Prop:=
 ∀(pins:List (Addr×Obj)) (s:Shared) (σ:St) (H:Hp) (xs:List V) (us:List Value) (Q:VK),Inv X pins σ H s→Vals xs us→r xs H Q→
  wpAny (model X.prog X.w) X.A (call f us) (EP X pins σ Q) X.xe s
def Zkq(X:Cx)(r:V→Hp→(Bool→Hp→Prop)→Prop):Prop:=
 ∀(pins:List (Addr×Obj)) (s:Shared) (σ:St) (H:Hp) (x:V) (v:Value) (Q:Bool→Hp→Prop),Inv X pins σ H s→RelV x v→r x H Q→
  wpAny (model X.prog X.w) X.A (truthy v) (TP X pins σ Q) X.xe s
def tOp(r:R2)(ta tb:TE):TE:=fun σ H Q=>ta σ H fun x H1=>tb σ H1 fun y H2=>r x y H2 Q
def tUn(r:V→Hp→VK→Prop)(ta:TE):TE:=fun σ H Q=>ta σ H fun x H1=>r x H1 Q
def rI(C:Int→Int→Prop)(g:Int→Int→V):R2:=fun x y H Q=>∃i j,x=.int i∧y=.int j∧C i j∧Q (g i j) H
def Qw(g:Int→Int→V):R2:=fun x y H Q=>∃i j,x=.int i∧y=.int j∧Q (g i j) H
def rU(g:Int→V):V→Hp→VK→Prop:=fun x H Q=>∃i,x=.int i∧Q (g i) H
section
variable{X:Cx}{a b c:Expr}{ta tb tc:TE}{pos:Pos}
theorem Xk(ha:PE X a ta)(hb:PE X b tb){pins:List (Addr×Obj)}{s:Shared}{σ:St}{H:Hp}{R:V→V→Hp→Prop}(I:Inv X pins σ H s)
 (h:ta σ H fun x H1=>tb σ H1 fun y H2=>R x y H2){Q:Value→Shared→Prop}{f:Value→Value→Sem Value}
 (hf:∀v u s2 x y H2,Inv X pins σ H2 s2→RelV x v→RelV y u→R x y H2→wpAny (model X.prog X.w) X.A (f v u) Q X.xe s2) :
 wpAny (model X.prog X.w) X.A (eval a X.env) (fun v s₁=>wpAny (model X.prog X.w) X.A (eval b X.env) (fun u s₂=>wpAny (model X.prog X.w) X.A (f v u) Q X.xe s₂) X.xe s₁) X.xe s:=by
 refine Ť (ha pins s σ H _ I h) fun v s1 ⟨x,H1,I1,r1,q1⟩=>?_
 refine Ť (hb pins s1 σ H1 _ I1 q1) fun u s2 ⟨y,H2,I2,r2,q2⟩=>?_
 exact hf v u s2 x y H2 I2 r1 r2 q2
theorem Ui{op:Operator}{r:R2}(ho:ao X (binaryOp op) r)(ha:PE X a ta)(hb:PE X b tb):PE X (.BinOp a op b pos) (tOp r ta tb):=by
 intro pins s σ H Q I h
 exact wpAny_BinOp (Xk ha hb I h fun v u s2 x y H2 I2 rx ry q=>ho pins s2 σ H2 x y v u Q I2 rx ry q)
theorem ZcU{op:UnaryOp}{r:V→Hp→VK→Prop}(ho:QV X (unaryOp op) r)(ha:PE X a ta):PE X (.UnaryOp op a pos) (tUn r ta):=by
 intro pins s σ H Q I h
 exact UnaryOp_ (Ť (ha pins s σ H _ I h) fun v s1 ⟨x,H1,I1,r1,q1⟩=>ho pins s1 σ H1 x v Q I1 r1 q1)
theorem CN{f:Value→Value→Sem Value}{C:Int→Int→Prop}{g:Int→Int→Int}
 (rule:∀(i j:Int) (t u:Tok) (s:Shared) (Q:Value→Shared→Prop) (E:Value→Shared→Prop),C i j→Q (.int (g i j) s.toks) {s with toks:=s.toks+1}→wpAny (model X.prog X.w) X.A (f (.int i t) (.int j u)) Q E s) :
 ao X f (rI C fun i j=>.int (g i j)):=by
 intro pins s σ H x y v u Q I rx ry h
 obtain⟨i,j,rfl,rfl,hc,q⟩:=h
 obtain⟨t,rfl⟩:=rx
 obtain⟨t',rfl⟩:=ry
 exact rule i j t t' s _ _ hc ⟨.int (g i j),H,I.tok _,⟨_,rfl⟩,q⟩
theorem vP{f:Value→Value→Sem Value}{g:Int→Int→Int}
 (rule:∀(i j:Int) (t u:Tok) (s:Shared) (Q:Value→Shared→Prop) (E:Value→Shared→Prop),Q (.int (g i j) s.toks) {s with toks:=s.toks+1}→wpAny (model X.prog X.w) X.A (f (.int i t) (.int j u)) Q E s) :
 ao X f (Qw fun i j=>.int (g i j)):=by
 intro pins s σ H x y v u Q I rx ry h
 obtain⟨i,j,rfl,rfl,q⟩:=h
 obtain⟨t,rfl⟩:=rx
 obtain⟨t',rfl⟩:=ry
 exact rule i j t t' s _ _ ⟨.int (g i j),H,I.tok _,⟨_,rfl⟩,q⟩
theorem QW{f:Value→Value→Sem Value}{g:Int→Int→Bool}
 (rule:∀(i j:Int) (t u:Tok) (s:Shared) (Q:Value→Shared→Prop) (E:Value→Shared→Prop),Q (.bool (g i j)) s→wpAny (model X.prog X.w) X.A (f (.int i t) (.int j u)) Q E s) :
 ao X f (Qw fun i j=>.bl (g i j)):=by
 intro pins s σ H x y v u Q I rx ry h
 obtain⟨i,j,rfl,rfl,q⟩:=h
 obtain⟨t,rfl⟩:=rx
 obtain⟨t',rfl⟩:=ry
 exact rule i j t t' s _ _ ⟨.bl (g i j),H,I,rfl,q⟩
def Em(i j:Int):Prop:=0≤j∧j≤1000000∧i.natAbs<2 ^ 64
def Xl(i j:Int):Prop:=(-(2 ^ 64)<i∧i<2 ^ 64)∨(-(2 ^ 64)<j∧j<2 ^ 64)
theorem Xl.ok{i j:Int}(h:Xl i j):IntMulOk i j:=by
 rcases h with⟨h1,h2⟩|⟨h1,h2⟩
 ·exact .of_left (intBits_le_64 h1 h2)
 ·exact .of_right (intBits_le_64 h1 h2)
theorem zH(k:Nat):(0:Int)≤2 ^ k:=by
 rw[two_pow_cast]
 exact Int.natCast_nonneg _
theorem Xm:ao X (binaryOp .Add) (Qw fun i j=>.int (i+j)):=vP fun _ _ _ _ _ _ _ q=>add_int q
theorem Xn:ao X (binaryOp .Sub) (Qw fun i j=>.int (i-j)):=vP fun _ _ _ _ _ _ _ q=>sub_int q
theorem QX:ao X (binaryOp .Mod) (rI (fun _ j=>j≠0) fun i j=>.int (i.fmod j)):=CN fun _ _ _ _ _ _ _ hc q=>mod_int' hc q
theorem Xo:ao X (binaryOp .Pow) (rI Em fun i j=>.int (i ^ j.toNat)):=CN fun _ _ _ _ _ _ _ hc q=>pow_int_small hc.1 hc.2.1 hc.2.2 q
theorem Xp:ao X (binaryOp .LShift) (rI Em fun i j=>.int (i*2 ^ j.toNat)):=CN fun _ _ _ _ _ _ _ hc q=>lshift_int_small hc.1 hc.2.1 hc.2.2 q
theorem Xq:ao X (binaryOp .RShift) (rI (fun _ j=>0≤j) fun i j=>.int (i / 2 ^ j.toNat)):=CN fun i j _ _ _ _ _ hc q=>
 rshift_int hc (by rw[Int.fdiv_eq_ediv_of_nonneg i (zH _)];exact q)
theorem Xr:ao X (binaryOp .BitAnd) (Qw fun i j=>.int (Builtin.bitAnd i j)):=vP fun _ _ _ _ _ _ _ q=>and_int q
theorem unI{f:Value→Sem Value}{g:Int→Int}
 (rule:∀(i:Int) (t:Tok) (s:Shared) (Q:Value→Shared→Prop) (E:Value→Shared→Prop),Q (.int (g i) s.toks) {s with toks:=s.toks+1}→wpAny (model X.prog X.w) X.A (f (.int i t)) Q E s) :
 QV X f (rU fun i=>.int (g i)):=by
 intro pins s σ H x v Q I rx h
 obtain⟨i,rfl,q⟩:=h
 obtain⟨t,rfl⟩:=rx
 exact rule i t s _ _ ⟨.int (g i),H,I.tok _,⟨_,rfl⟩,q⟩
theorem Xu:QV X (unaryOp .USub) (rU fun i=>.int (-i)):=unI fun _ _ _ _ _ q=>neg_int q
end
section
variable{X:Cx}{a b c:Expr}{ta tb tc:TE}{pos:Pos}
theorem Xv{pins:List (Addr×Obj)}{σ:St}{H:Hp}{s:Shared}{Q:VK}{k k':Bool}(I:Inv X pins σ H s)(q:Q (.bl k) H)(e:k=k'):EP X pins σ Q (.bool k') s:=by
 subst e
 exact⟨.bl k,H,I,rfl,q⟩
theorem ZcV:ao X (compareOp .Lt) (Qw fun i j=>.bl (decide (i<j))):=QW fun _ _ _ _ _ _ _ q=>lt_int q
theorem ZcW:ao X (compareOp .LtE) (Qw fun i j=>.bl (decide (i≤j))):=QW fun _ _ _ _ _ _ _ q=>le_int q
theorem ZcX:ao X (compareOp .Gt) (Qw fun i j=>.bl (decide (j<i))):=QW fun _ _ _ _ _ _ _ q=>gt_int q
theorem ZcY:ao X (compareOp .GtE) (Qw fun i j=>.bl (decide (j≤i))):=QW fun _ _ _ _ _ _ _ q=>ge_int q
theorem jO:ao X (compareOp .Is) (fun x y H Q=>y=.non∧Q (.bl (decide (x=.non))) H):=by
 intro pins s σ H x y v u Q I rx ry h
 obtain⟨rfl,q⟩:=h
 cases ry
 refine is_none_gen (Xv I q ?_)
 cases x<;>first
  |(cases rx;rfl)
  |(obtain⟨t,rfl⟩:=rx;rfl)
theorem ao.or{f:Value→Value→Sem Value}{r r':R2}(h:ao X f r)(h':ao X f r'):ao X f (fun x y H Q=>r x y H Q∨r' x y H Q):=by
 intro pins s σ H x y v u Q I rx ry q
 rcases q with q|q
 ·exact h pins s σ H x y v u Q I rx ry q
 ·exact h' pins s σ H x y v u Q I rx ry q
theorem ı(b:Expr){op:CmpOp}(h:op≠ .In:=by decide)(h2:op≠ .NotIn:=by decide):behindInMarks op b=false:=by
 have e1:(op== CmpOp.In)=false:=by cases op<;>first|rfl|exact absurd rfl h
 have e2:(op== CmpOp.NotIn)=false:=by cases op<;>first|rfl|exact absurd rfl h2
 cases b<;>simp[behindInMarks,e1,e2]
theorem QZ{op:CmpOp}{r:R2}(ho:ao X (compareOp op) r)(ha:PE X a ta)(hb:PE X b tb)(hm:behindInMarks op b=false):PE X (.Compare a [op] [b] pos) (tOp r ta tb):=by
 intro pins s σ H Q I h
 exact wpAny_Compare1 (Xk ha hb I h fun v u s2 x y H2 I2 rx ry q=>ho pins s2 σ H2 x y v u Q I2 rx ry q) hm
def Xw(K:PySem.W.Frag)(x:V)(H:Hp)(k:Bool):Prop:=
 match x with
 | .non=>k=false
 | .bl b=>k=b
 | .int i=>k=(i != 0)
 | .str y=>y.length≤sizeLine∧k=((y.length:Int) != 0)
 | .Ud y=>y.size≤sizeLine∧k=((y.size:Int) != 0)
 | .ref p=>(∃xs,aC K H p xs∧k=!xs.isEmpty)∨(∃xs,cY K H p xs∧k=!xs.isEmpty)∨∃kvs,H p=some (.dK kvs)∧k=!kvs.isEmpty
 |_=>False
theorem zJ{κ:Type}{kvs:List (κ×V)}{vs:List (κ×Value)}(r:KV kvs vs):(!vs.isEmpty)=!kvs.isEmpty:=by
 cases r<;>rfl
theorem nu{xs:List V}{its:List Value}(r:Vals xs its):(!its.toArray.isEmpty)=!xs.isEmpty:=by
 cases r<;>simp
theorem jP:(sizeLine:Nat)<2 ^ 63:=by rw[sizeLine_eq];decide
theorem Xx:Zkq X (fun x H Q=>∃k,Xw X.K x H k∧Q k H):=by
 intro pins s σ H x v Q I rx h
 obtain⟨k,e,q⟩:=h
 have hl:=jP
 have hs:sizeLine=16777216:=sizeLine_eq
 cases x with
 |non=>
  cases rx
  have e':k=false:=e
  subst e'
  exact truthy_none ⟨H,I,q⟩
 |bl b=>
  cases rx
  have e':k=b:=e
  subst e'
  exact wpAny_truthy_bool ⟨H,I,q⟩
 |int i=>
  obtain⟨t,rfl⟩:=rx
  have e':k=(i != 0):=e
  subst e'
  exact PySem.P.truthy_int ⟨H,I,q⟩
 |str y=>
  obtain⟨t,rfl⟩:=rx
  obtain⟨hy,e'⟩:y.length≤sizeLine∧k=((y.length:Int) != 0):=e
  subst e'
  exact PySem.P.truthy_str (by omega) ⟨H,I.tok _,q⟩
 |Ud y=>
  obtain⟨t,rfl⟩:=rx
  obtain⟨hy,e'⟩:y.size≤sizeLine∧k=((y.size:Int) != 0):=e
  subst e'
  exact PySem.W.truthy_bytes (by omega) ⟨H,I.tok _,q⟩
 |ref p=>
  cases rx
  have e':(∃xs,aC X.K H p xs∧k=!xs.isEmpty)∨(∃xs,cY X.K H p xs∧k=!xs.isEmpty)∨∃kvs,H p=some (.dK kvs)∧k=!kvs.isEmpty:=e
  rcases e' with⟨xs,hx,e'⟩|⟨xs,hx,e'⟩|⟨kvs,hx,e'⟩
  ·subst e'
   obtain⟨its,r,pl,hz⟩:=I.list hx
   have hlen:=r.length
   exact wpAny_truthy_list pl.isList (by simp only[List.size_toArray];omega) ⟨H,I.tok _,by rw[nu r];exact q⟩
  ·subst e'
   obtain⟨its,r,pl,hz⟩:=I.tuple hx
   have hlen:=r.length
   exact truthy_tuple pl (by simp only[List.size_toArray];omega) ⟨H,I.tok _,by rw[nu r];exact q⟩
  ·subst e'
   obtain⟨hz,hS,vs,r,m⟩:kvs.length≤sizeLine∧(p== sysModules)=false∧∃vs,KV kvs vs∧s.heap.DictOf (sV X.prog X.w) p vs:=I.hok p _ hx
   have hlen:kvs.length=vs.length:=Paired.length r
   exact wpAny_truthy_dict hS m (by omega) ⟨H,I.tok _,by rw[zJ r];exact q⟩
 |_=>exact(show False from e).elim
theorem Gu(ha:PE X a ta)(he:∀whole,isTrue a X.env whole=(do let v ←whole;standAt a.pos;holding [v] (truthy v))) :
 PT X a (fun σ H Q=>ta σ H fun x H'=>∃k,Xw X.K x H' k∧Q k H'):=by
 intro pins s σ H Q I h
 exact isTrue_plain (Ť (ha pins s σ H _ I h) fun v s1 ⟨x,H1,I1,r1,q1⟩=>Xx pins s1 σ H1 x v Q I1 r1 q1) (he _)
theorem zK:ao X (binaryOp .Add) (fun x y H Q=>∃i j,x=.str i∧y=.str j∧i.length+j.length≤sizeLine∧Q (.str (i++j)) H):=by
 intro pins s σ H x y v u Q I rx ry h
 obtain⟨i,j,rfl,rfl,hz,q⟩:=h
 obtain⟨t,rfl⟩:=rx
 obtain⟨t',rfl⟩:=ry
 exact add_str (fun t' tk=>⟨.str (i++j),H,I.tok _,⟨_,rfl⟩,q⟩) hz
theorem vals1{x:V}{us:List Value}(r:Vals [x] us):∃u,us=[u]∧RelV x u:=by
 cases r with
 |cons r1 r2=>cases r2;exact⟨_,rfl,r1⟩
theorem vals2{x y:V}{us:List Value}(r:Vals [x,y] us):∃u w',us=[u,w']∧RelV x u∧RelV y w':=by
 cases r with
 |cons r1 r2=>
  cases r2 with
  |cons r3 r4=>cases r4;exact⟨_,_,rfl,r1,r3⟩
theorem Gv:Š X (.builtin "abs") (fun xs H Q=>∃i,xs=[.int i]∧Q (.int (if i<0 then -i else i)) H):=by
 intro pins s σ H xs us Q I r h
 obtain⟨i,rfl,q⟩:=h
 obtain⟨u,rfl,t,rfl⟩:=vals1 r
 exact call_abs_int fun u tk=>⟨.int (if i<0 then -i else i),H,I.tok _,⟨_,rfl⟩,q⟩
theorem En(hc:X.calm=true):Š X (.builtin "max") (fun xs H Q=>∃i j,xs=[.int i,.int j]∧Q (.int (if j>i then j else i)) H):=by
 intro pins s σ H xs us Q I r h
 obtain⟨i,j,rfl,q⟩:=h
 obtain⟨u,w',rfl,⟨t,rfl⟩,⟨t',rfl⟩⟩:=vals2 r
 refine max_two_ints (I.ok.hd hc) fun h' tk k=>⟨_,H,I.kept k,?_,q⟩
 by_cases hj:j>i
 ·rw[if_pos hj,if_pos hj];exact⟨_,rfl⟩
 ·rw[if_neg hj,if_neg hj];exact⟨_,rfl⟩
theorem Eo(hc:X.calm=true):Š X (.builtin "min") (fun xs H Q=>∃i j,xs=[.int i,.int j]∧Q (.int (if j<i then j else i)) H):=by
 intro pins s σ H xs us Q I r h
 obtain⟨i,j,rfl,q⟩:=h
 obtain⟨u,w',rfl,⟨t,rfl⟩,⟨t',rfl⟩⟩:=vals2 r
 refine min_two_ints (I.ok.hd hc) fun h' tk k=>⟨_,H,I.kept k,?_,q⟩
 by_cases hj:j<i
 ·rw[if_pos hj,if_pos hj];exact⟨_,rfl⟩
 ·rw[if_neg hj,if_neg hj];exact⟨_,rfl⟩
theorem Ep:Š X (.type "int") (fun xs H Q=>(∃i,xs=[.int i]∧Q (.int i) H)∨∃k,xs=[.bl k]∧Q (.int (if k then 1 else 0)) H):=by
 intro pins s σ H xs us Q I r h
 rcases h with⟨i,rfl,q⟩|⟨k,rfl,q⟩
 ·obtain⟨u,rfl,t,rfl⟩:=vals1 r
  exact call_int_int ⟨.int i,H,I,⟨_,rfl⟩,q⟩
 ·obtain⟨u,rfl,r1⟩:=vals1 r
  cases r1
  exact call_int_bool ⟨.int (if k then 1 else 0),H,I.tok _,⟨_,rfl⟩,q⟩
def Zkr(K:PySem.W.Frag)(x:V)(H:Hp)(n:Nat):Prop:=
 match x with
 | .str y=>y.length≤sizeLine∧n=y.length
 | .Ud y=>y.size≤sizeLine∧n=y.size
 | .ref p=>(∃xs,aC K H p xs∧n=xs.length)∨∃xs,cY K H p xs∧n=xs.length
 |_=>False
theorem Gw:Š X (.builtin "len") (fun xs H Q=>∃x n,xs=[x]∧Zkr X.K x H n∧Q (.int n) H):=by
 intro pins s σ H xs us Q I r h
 obtain⟨x,n,rfl,e,q⟩:=h
 obtain⟨u,rfl,rx⟩:=vals1 r
 have hl:=jP
 have hs:sizeLine=16777216:=sizeLine_eq
 cases x with
 |str y=>
  obtain⟨t,rfl⟩:=rx
  obtain⟨hy,e'⟩:y.length≤sizeLine∧n=y.length:=e
  subst e'
  exact len_str (by omega) ⟨.int _,H,I.tok _,⟨_,rfl⟩,q⟩
 |Ud y=>
  obtain⟨t,rfl⟩:=rx
  obtain⟨hy,e'⟩:y.size≤sizeLine∧n=y.size:=e
  subst e'
  exact PySem.W.len_bytes (by omega) ⟨.int _,H,I.tok _,⟨_,rfl⟩,q⟩
 |ref p=>
  cases rx
  have e':(∃xs,aC X.K H p xs∧n=xs.length)∨∃xs,cY X.K H p xs∧n=xs.length:=e
  rcases e' with⟨xs,hx,e'⟩|⟨xs,hx,e'⟩
  ·subst e'
   obtain⟨its,r',pl,hz⟩:=I.list hx
   have hlen:=r'.length
   exact Calls.call_len_list pl.isList (by simp only[List.size_toArray];omega) ⟨.int xs.length,H,I.tok _,⟨_,by simp only[List.size_toArray];rw[hlen]⟩,q⟩
  ·subst e'
   obtain⟨its,r',pl,hz⟩:=I.tuple hx
   have hlen:=r'.length
   exact len_tuple pl (by simp only[List.size_toArray];omega) ⟨.int xs.length,H,I.tok _,⟨_,by simp only[List.size_toArray];rw[hlen]⟩,q⟩
 |_=>exact(show False from e).elim
end
end L2
namespace L2
open PySem PySem.Spec PyProof.Rows
structure zL(h:Heap)(x dx C:Addr)(mA:Str→Option Value):Prop where
 obj:h.get? x=some (PySem.W.instObj C dx)
 ns:h.Ns1 dx mA
 ne:dx≠x
theorem qp{h:Heap}{dx:Addr}{mA:Str→Option Value}(n:h.Ns1 dx mA):∃od,h.get? dx=some od∧∀name,PySem.W.lookIn name od=some (mA name):=by
 obtain⟨o,es,ep,ho,hd,hk,_,hm⟩:=n
 refine⟨o,ho,fun name=>?_⟩
 have e:=hm name
 unfold nsFind findBy at e
 rw[←Array.find?_toList] at e
 unfold PySem.W.lookIn
 rw[hd]
 dsimp only
 split
 ·rename_i y q
  rw[q] at e
  exact congrArg some e
 ·rename_i q
  rw[q] at e
  have a:es.toList.any (·.refKey)=false:=by
   rw[List.any_eq_false]
   intro y hy
   obtain⟨z,t,hkey⟩:=hk y (Array.mem_toList_iff.mp hy)
   simp[DictEntry.refKey,hkey]
  have a':¬es.toList.any (·.refKey)=true:=by rw[a];exact Bool.false_ne_true
  rw[if_neg a']
  exact congrArg some e
theorem zL.look{h:Heap}{x dx C:Addr}{mA:Str→Option Value}(I:zL h x dx C mA):∃od,PySem.W.InstAt h x (PySem.W.instObj C dx) C (some od)∧∀name,PySem.W.lookIn name od=some (mA name):=
 let ⟨od,ho,hl⟩:=qp I.ns
 ⟨od,⟨I.obj,rfl,rfl,ho⟩,hl⟩
section
variable{prog:Program}{w:World}{A:Around}{E:Value→Shared→Prop}{s:Shared}{K:PySem.W.Frag}{x dx C f:Addr}{mA:Str→Option Value}{name:Str}{v:Value}
theorem get_map{expr:Bool}{Q:Value→Shared→Prop}(X:K.In s.heap)(I:zL s.heap x dx C mA)(hg:PySem.W.plainGet K C name=true)(hh:PySem.W.hasDictIn K C=true)
 (ha:PySem.W.findIn K (.ref C) name=some none)(hv:mA name=some v)(hv':PySem.W.handedIn v=true)(h:Q v {s with toks:=s.toks+1}) :
 wpAny (model prog w) A (getAttr (.ref x) name expr) Q E s:=by
 obtain⟨od,J,hl⟩:=I.look
 exact PySem.W.get_value X J (PySem.W.plainGet_of hg).1 (PySem.W.findObj_own hh ha rfl (by rw[hl,hv])) hv' h
theorem Gx{pl:Sem Bool}{Q:Value×List Value→Shared→Prop}(X:K.In s.heap)(I:zL s.heap x dx C mA)(hg:PySem.W.plainGet K C name=true)
 (hf:PySem.W.findIn K (.ref C) name=some (some (.ref f)))(ht:PySem.W.isFn K (.ref f)=true)(hv:mA name=none)(h:Q (.ref f,[.ref x]) s) :
 wpAny (model prog w) A (getMethod (.ref x) name pl) Q E s:=by
 obtain⟨od,J,hl⟩:=I.look
 exact PySem.W.method_fn X J (PySem.W.plainGet_of hg).1 (PySem.W.plainGet_of hg).2 hf (beq_iff_eq.mp ht) (by show(PySem.W.lookIn name od).map (·.isSome)=some false;rw[hl,hv];rfl) h
theorem Q_{ns:List Str}{Q:Unit→Shared→Prop}(X:K.In s.heap)(I:zL s.heap x dx C mA)
 (hs:PySem.W.findIn K (.ref C) "__setattr__" =some (some (.builtin "object.__setattr__")))(hp:PySem.W.plainOver K C=true)(ht:PySem.W.takerIn K C name=some none)(hh:PySem.W.hasDictIn K C=true)
 (hw:PySem.Within mA ns)(hsz:ns.length≤sizeLine)
 (h:∀h',zL h' x dx C (fun y=>if y=name then some v else mA y)→Heap.SameBut dx s.heap h'→Q () {s with heap:=h',toks:=s.toks+2}) :
 wpAny (model prog w) A (setAttr (.ref x) name v) Q E s:=by
 obtain⟨od,J,hl⟩:=I.look
 refine PySem.W.set_plain X J hs (PySem.W.osa_open (s:={s with toks:=s.toks+1}) (r:=none) X J hp ht fun b=>?_)
 obtain⟨cd,hc,hd'⟩:=PySem.W.any_some hh
 have hx:s.heap.get? x=some ⟨.ref C,some dx,.plain,#[]⟩:=I.obj
 refine wpAny_bind (wpAny_pure (wpAny_bind (wpAny_bind (wpAny_loadPart hx (wpAny_bind (PySem.W.Looks.here (s:={s with toks:=s.toks+1}) (PySem.W.looks_clsIn X hc) ?_))))))
 rw[hd']
 refine wpAny_pure (a:=some dx) (wpAny_bind (wpAny_pure (wpAny_bind ?_)))
 refine wpAny_nsSet1 (s:={s with toks:=s.toks+1}) I.ns fun h' hn2 hs2=>?_
 obtain⟨oD,esD,epD,hoD,hdD,hcD⟩:=hn2.count (PySem.Within.cons name v hw)
 refine wpAny_bind (wpAny_lookBehind hoD (by rw[hdD];exact pastItsLine_dict (Nat.le_trans hcD (by rw[List.length_cons];omega))) ?_)
 exact wpAny_pure (h _ ⟨(hs2.2 _ (Ne.symm I.ne)).trans I.obj,hn2,I.ne⟩ hs2)
theorem Gy{R:Result→Shared→Prop}{vs:List Value}{kw:List (Str×Value)}(X:K.In s.heap)(hm:PySem.W.makesIn K C=true)
 (hi:PySem.W.findIn K (.ref C) "__init__" =some (some (.ref f)))(hf:PySem.W.typeIn K (.ref f)=some (.type "function"))
 (h:codeAny (model prog w) (A.under (.builtin "type.__call__" ⟨.ref C::vs,kw⟩)) (.call (.ref f) ⟨.ref (s.heap.objs.size+1)::vs,kw⟩) (PySem.W.InitBack (s.heap.objs.size+1) R)
   {s with heap:=(s.heap.push PySem.W.emptyDict).push (PySem.W.instObj C s.heap.objs.size)}) :
 codeAny (model prog w) A (.call (.ref C) ⟨vs,kw⟩) R s:=by
 obtain⟨hh,g,d,t,os⟩:=s
 exact PySem.W.make_core (PySem.W.makes_of X hm) (PySem.W.looks_findIn X hi) (fun self=>PySem.W.bind_fn X self hf) (.inl rfl) h
end
def aO(f:Str)(v:V):List (Str×V)→List (Str×V)
 | []=>[(f,v)]
 |(g,x)::r=>if g=f then(g,v)::r else(g,x)::aO f v r
theorem fP(f g:Str)(v:V):∀fs:List (Str×V),(aO f v fs).lookup g=if g=f then some v else fs.lookup g
 | []=>by
   show List.lookup g [(f,v)]=_
   by_cases h:g=f
   ·have hb:(g== f)=true:=beq_iff_eq.mpr h
    simp only[List.lookup,hb,if_pos h]
   ·have hb:(g== f)=false:=beq_eq_false_iff_ne.mpr h
    simp only[List.lookup,hb,if_neg h]
 |(k,x)::r=>by
  have ih:=fP f g v r
  rw[show aO f v ((k,x)::r)=(if k=f then(k,v)::r else(k,x)::aO f v r) from rfl]
  by_cases hk:k=f
  ·rw[if_pos hk]
   by_cases h:g=k
   ·have hb:(g== k)=true:=beq_iff_eq.mpr h
    simp only[List.lookup,hb,if_pos (h.trans hk)]
   ·have hb:(g== k)=false:=beq_eq_false_iff_ne.mpr h
    simp only[List.lookup,hb,if_neg (fun e:g=f=>h (e.trans hk.symm))]
  ·rw[if_neg hk]
   by_cases h:g=k
   ·have hb:(g== k)=true:=beq_iff_eq.mpr h
    simp only[List.lookup,hb,if_neg (fun e:g=f=>hk (h.symm.trans e))]
   ·have hb:(g== k)=false:=beq_eq_false_iff_ne.mpr h
    simp only[List.lookup,hb]
    exact ih
theorem jQ(f:Str)(v:V):∀fs:List (Str×V),f∈(aO f v fs).map (·.1)∧∀g,g∈fs.map (·.1)→g∈(aO f v fs).map (·.1)
 | []=>⟨by simp[aO],fun g h=>by simp at h⟩
 |(k,x)::r=>by
  obtain⟨i1,i2⟩:=jQ f v r
  rw[show aO f v ((k,x)::r)=(if k=f then(k,v)::r else(k,x)::aO f v r) from rfl]
  by_cases hk:k=f
  ·rw[if_pos hk]
   subst hk
   exact⟨by simp,fun g h=>by simpa using h⟩
  ·rw[if_neg hk]
   refine⟨?_,fun g h=>?_⟩
   ·rw[List.map_cons]
    exact List.mem_cons_of_mem _ i1
   ·rw[List.map_cons] at h ⊢
    rcases List.mem_cons.mp h with e|e
    ·exact List.mem_cons.mpr (.inl e)
    ·exact List.mem_cons_of_mem _ (i2 g e)
theorem fQ(f:Str)(v:V):∀fs:List (Str×V),(aO f v fs).length≤fs.length+1
 | []=>by simp[aO]
 |(k,x)::r=>by
  have ih:=fQ f v r
  rw[show aO f v ((k,x)::r)=(if k=f then(k,v)::r else(k,x)::aO f v r) from rfl]
  by_cases hk:k=f
  ·rw[if_pos hk,List.length_cons,List.length_cons];omega
  ·rw[if_neg hk,List.length_cons,List.length_cons];omega
theorem jL.some_of{v:V}{o:Option Value}(r:jL (some v) o):∃u,o=some u∧RelV v u:=by
 cases o with
 |none=>exact(show False from r).elim
 |some u=>exact⟨u,rfl,r⟩
theorem jL.none_of{o:Option Value}(r:jL none o):o=none:=by
 cases o with
 |none=>rfl
 |some u=>exact(show False from r).elim
theorem Er{v:V}{u:Value}(r:RelV v u):PySem.W.handedIn u=true:=by
 cases v with
 |non=>cases(show u=Value.none from r);rfl
 |bl b=>cases(show u=Value.bool b from r);rfl
 |int i=>obtain⟨t,e⟩:=(show ∃t,u=Value.int i t from r);cases e;rfl
 |str x=>obtain⟨t,e⟩:=(show ∃t,u=Value.str x t from r);cases e;rfl
 |Ud b=>obtain⟨t,e⟩:=(show ∃t,u=Value.bytes b t from r);cases e;rfl
 |flt b=>obtain⟨t,e⟩:=(show ∃t,u=Value.float b t from r);cases e;rfl
 |ref a=>cases(show u=Value.ref a from r);rfl
 |ty n=>cases(show u=Value.type n from r);rfl
section
variable{P:Program}{w:World}{H H':Hp}{h h':Heap}{a C dx:Addr}{fs fs':List (Str×V)}
theorem mV(hok:fG P w H h)(e:H a=some (.ins C dx fs)):∃mA,zL h a dx C mA∧(∀f,jL (fs.lookup f) (mA f))∧PySem.Within mA (fs.map (·.1))∧fs.length≤1000∧H dx=some (.own a):=by
 obtain⟨d,z,ne,ob,mA,n,r,q⟩:=(show ū P w H h a (.ins C dx fs) from hok a _ e)
 exact⟨mA,⟨ob,n,ne⟩,r,q,z,d⟩
end
structure Cls(K:PySem.W.Frag)(C:Addr):Prop where
 pg:PySem.W.plainGet K C Str.empty=true
 hd:PySem.W.hasDictIn K C=true
 po:PySem.W.plainOver K C=true
 sa:PySem.W.findIn K (.ref C) "__setattr__" =some (some (.builtin "object.__setattr__"))
theorem Cls.get{K:PySem.W.Frag}{C:Addr}(c:Cls K C)(f:Str):PySem.W.plainGet K C f=true:=c.pg
def Ň(K:PySem.W.Frag)(C:Addr)(f:Str):Prop:=PySem.W.findIn K (.ref C) f=some none
theorem Ň.taker{K:PySem.W.Frag}{C:Addr}{f:Str}(n:Ň K C f):PySem.W.takerIn K C f=some none:=by
 unfold PySem.W.takerIn
 rw[show PySem.W.findIn K (.ref C) f=some none from n]
 rfl
structure Meth(K:PySem.W.Frag)(C:Addr)(m:Str)(f:Addr):Prop where
 at_:PySem.W.findIn K (.ref C) m=some (some (.ref f))
 fn:PySem.W.isFn K (.ref f)=true
 kp:PySem.W.keepIn K (.ref f)=true
section
variable{X:Cx}{pins:List (Addr×Obj)}{σ:St}{H:Hp}{s:Shared}{a C dx:Addr}{fs:List (Str×V)}{f:Str}{v:V}{A:Around}{E:Value→Shared→Prop}
theorem zM{b:Bool}{Q:Value→Shared→Prop}(I:Inv X pins σ H s)(e:H a=some (.ins C dx fs))(c:Cls X.K C)(n:Ň X.K C f)(l:fs.lookup f=some v)
 (h:∀u s',Inv X pins σ H s'→RelV v u→Q u s'):wpAny (model X.prog X.w) A (getAttr (.ref a) f b) Q E s:=by
 obtain⟨mA,O,r,_,_,_⟩:=mV I.hok e
 obtain⟨u,hu,ru⟩:=jL.some_of (v:=v) (o:=mA f) (by rw[←l];exact r f)
 exact get_map I.fK O (c.get f) c.hd n hu (Er ru) (h u _ (I.tok _) ru)
theorem zN{m:Str}{g:Addr}{pl:Sem Bool}{Q:Value×List Value→Shared→Prop}(I:Inv X pins σ H s)(e:H a=some (.ins C dx fs))(c:Cls X.K C)(k:Meth X.K C m g)(l:fs.lookup m=none)
 (h:Q (.ref g,[.ref a]) s):wpAny (model X.prog X.w) A (getMethod (.ref a) m pl) Q E s:=by
 obtain⟨mA,O,r,_,_,_⟩:=mV I.hok e
 have hn:mA m=none:=jL.none_of (by rw[←l];exact r m)
 exact Gx I.fK O (c.get m) k.at_ k.fn hn h
theorem zO{y:V}{u:Value}{Q:Unit→Shared→Prop}(I:Inv X pins σ H s)(e:H a=some (.ins C dx fs))(c:Cls X.K C)(n:Ň X.K C f)(hl:fs.length<1000)(ry:RelV y u)
 (h:∀s',Inv X pins σ (upd H a (.ins C dx (aO f y fs))) s'→Q () s'):wpAny (model X.prog X.w) A (setAttr (.ref a) f u) Q E s:=by
 obtain⟨mA,O,r,wi,_,ho⟩:=mV I.hok e
 have hz:(fs.map (·.1)).length≤sizeLine:=by rw[List.length_map,sizeLine_eq];omega
 refine Q_ I.fK O c.sa c.po n.taker c.hd wi hz fun h' O' sb=>h _ ?_
 have hd:∃o,h'.get? dx=some o:=let ⟨o,_,_,e',_⟩:=O'.ns;⟨o,e'⟩
 refine I.write (x:=a) (e:=dx) (by rw[e];exact True.intro) (.inr ho) (fun b q hb z=>(sb.2 b hb).trans z) hd ?_
 refine⟨by rw[ğ O.ne];exact ho,?_,O.ne,O'.obj,_,O'.ns,fun g=>?_,fun g hg=>?_⟩
 ·have:=fQ f y fs;omega
 ·show jL ((aO f y fs).lookup g) (if g=f then some u else mA g)
  rw[fP]
  by_cases q:g=f
  ·rw[if_pos q,if_pos q];exact ry
  ·rw[if_neg q,if_neg q];exact r g
 ·by_cases q:g=f
  ·rw[q];exact(jQ f y fs).1
  ·refine(jQ f y fs).2 g (wi g fun z=>hg ?_)
   show(if g=f then some u else mA g)=none
   rw[if_neg q];exact z
theorem Inv.made(I:Inv X pins σ H s):Inv X pins σ (upd (upd H s.heap.objs.size (.own (s.heap.objs.size+1))) (s.heap.objs.size+1) (.ins C s.heap.objs.size []))
 {s with heap:=(s.heap.push PySem.W.emptyDict).push (PySem.W.instObj C s.heap.objs.size)}:=by
 have e1:(s.heap.push PySem.W.emptyDict).get? s.heap.objs.size=some PySem.W.emptyDict:=Heap.get?_push_size s.heap rfl
 have e2:((s.heap.push PySem.W.emptyDict).push (PySem.W.instObj C s.heap.objs.size)).get? (s.heap.objs.size+1)=some (PySem.W.instObj C s.heap.objs.size):=by
  have:=Heap.get?_push_size (s.heap.push PySem.W.emptyDict) (o:=PySem.W.instObj C s.heap.objs.size) rfl
  rwa [Heap.size_push] at this
 have e3:(s.heap.push PySem.W.emptyDict).Ns s.heap.objs.size (fun _=>none):=⟨PySem.W.emptyDict,#[],_,e1,rfl,(fun e he=>absurd he (by simp)),fun _=>rfl⟩
 have I1:=I.laid (a:=s.heap.objs.size) (o:=.own (s.heap.objs.size+1)) (h':=s.heap.push PySem.W.emptyDict) (t':=s.toks) (fun b u q=>Heap.get?_push_of_some _ q) (Nat.le_refl _) ⟨_,e1⟩
 refine I1.laid (a:=s.heap.objs.size+1) (o:=.ins C s.heap.objs.size []) (t':=s.toks) (fun b u q=>Heap.get?_push_of_some _ q) (Nat.le_of_eq (Heap.size_push _ _)) ?_
 have ne:s.heap.objs.size≠s.heap.objs.size+1:=Nat.ne_of_lt (Nat.lt_succ_self _)
 refine⟨by rw[ğ ne,ī],Nat.zero_le _,ne,e2,fun _=>none,(Heap.Ns1.of_empty e3).at fun o q=>Heap.get?_push_of_some _ q,fun _=>True.intro,fun y hy=>absurd rfl hy⟩
theorem Ra{prog:Program}{w:World}{env:Env}{e:Expr}{f:Str}{pos:Pos}{s:Shared}{Q:Value→Shared→Prop}(hb:attributeBase e f env (eval e env)=eval e env)
 (h:wpAny (model prog w) A (eval e env) (fun o s₁=>wpAny (model prog w) A (getAttr o f true) Q E s₁) E s):wpAny (model prog w) A (eval (.Attribute e f pos) env) Q E s:=
 Attribute_any_ h (by rw[arm_eval_Attribute,hb])
end
def Zks(K:PySem.W.Frag)(ta:TE)(f:Str):TE:=fun σ H Q=>ta σ H fun x H1=>∃a C dx fs v,x=.ref a∧H1 a=some (.ins C dx fs)∧Cls K C∧Ň K C f∧fs.lookup f=some v∧Q v H1
def Zkt(K:PySem.W.Frag)(ta tv:TE)(f:Str):TS:=fun D σ H=>tv σ H fun y H1=>ta σ H1 fun x H2=>∃a C dx fs,x=.ref a∧H2 a=some (.ins C dx fs)∧Cls K C∧Ň K C f∧fs.length<1000∧
 D.nx σ (upd H2 a (.ins C dx (aO f y fs)))
section
variable{X:Cx}{o e value:Expr}{f:Str}{pos pos' tpos:Pos}{ta tv:TE}
theorem Xy(he:PE X e ta)(hb:attributeBase e f X.env (eval e X.env)=eval e X.env):PE X (.Attribute e f pos) (Zks X.K ta f):=by
 intro pins s σ H Q I h
 refine Ra hb (Ť (he pins s σ H _ I h) fun u s1 ⟨x,H1,I1,rx,a,C,dx,fs,v,ex,ea,c,n,l,q⟩=>?_)
 subst ex
 obtain rfl:u=Value.ref a:=rx
 exact zM I1 ea c n l fun u' s2 I2 ru=>⟨v,H1,I2,ru,q⟩
theorem Xz(ha:PE X o ta)(hv:PE X value tv)(hs:swapsWith value (some (.Attribute o f pos')) pos.line X.env=pure false):PS X (.Assign [.Attribute o f pos'] value pos) (Zkt X.K ta tv f):=by
 intro pins s σ H D I h
 refine plainObj_wpAny_Assign_Attribute (Ť (hv pins s σ H _ I h) fun u s1 ⟨y,H1,I1,ry,q⟩=>Ť (ha pins s1 σ H1 _ I1 q) fun ov s2 ⟨x,H2,I2,rx,a,C,dx,fs,ex,ea,c,n,l,q2⟩=>?_) hs
 subst ex
 obtain rfl:ov=Value.ref a:=rx
 exact zO I2 ea c n l ry fun s3 I3=>⟨σ,_,I3,q2⟩
end
section
variable{X:Cx}{pins:List (Addr×Obj)}{σ:St}{H:Hp}{s:Shared}{A:Around}{E:Value→Shared→Prop}{Q:Value→Shared→Prop}{c:Value}{b:Bool}
inductive jR(K:PySem.W.Frag)(H:Hp):V→Value→Prop where
 |non:jR K H .non (.type "NoneType")
 |bl (x:Bool):jR K H (.bl x) (.type "bool")
 |int (i:Int):jR K H (.int i) (.type "int")
 |str (x:Str):jR K H (.str x) (.type "str")
 |flt (x:UInt64):jR K H (.flt x) (.type "float")
 |lst {a:Addr} {xs:List V} (e:H a=some (.lst xs)):jR K H (.ref a) (.type "list")
 |cX {a:Addr} {o:Obj} {xs:List V} (e:H a=some (.cX o (.lst xs))):jR K H (.ref a) (.type "list")
 |tup {a:Addr} {xs:List V} (e:H a=some (.tup xs)):jR K H (.ref a) (.type "tuple")
 |dK {a:Addr} {kvs:List (Key×V)} (e:H a=some (.dK kvs)):jR K H (.ref a) (.type "dict")
 |dT {a:Addr} {kvs:List (List Key×V)} (e:H a=some (.dT kvs)):jR K H (.ref a) (.type "dict")
 |ins {a C dx:Addr} {fs:List (Str×V)} (e:H a=some (.ins C dx fs)) (cl:Cls K C) (ha:PySem.W.findIn K (.ref C) "__class__" =some (some (.builtin "object.__class__")))
   (hn:PySem.W.specialIn K (.builtin "object.__class__") "__get__" =some (some (.builtin "getset_descriptor.__get__"))) (htk:PySem.W.takesIn K (.builtin "object.__class__")=some true)
   (hm:PySem.W.mroIn K C (.type "object")=some true):jR K H (.ref a) (.ref C)
theorem dg{x:V}{u t:Value}(I:Inv X pins σ H s)(rx:RelV x u)(ty:jR X.K H x t)(e:PySem.W.kitOne X.K t c=some b)(h:∀tk,Q (.bool b) {s with toks:=tk}) :
 wpAny (model X.prog X.w) A (call (.builtin "isinstance") [u,c]) Q E s:=by
 cases ty with
 |non=>cases(show u=Value.none from rx);exact PySem.W.kia_one PySem.W.kitx_none I.fK True.intro e (fun z=>nomatch z) h
 |bl y=>cases(show u=Value.bool y from rx);exact PySem.W.kia_one PySem.W.kitx_bool I.fK True.intro e (fun z=>nomatch z) h
 |int i=>obtain⟨t,q⟩:=(show ∃t,u=Value.int i t from rx);cases q;exact PySem.W.kia_one PySem.W.kitx_int I.fK True.intro e (fun z=>nomatch z) h
 |str y=>obtain⟨t,q⟩:=(show ∃t,u=Value.str y t from rx);cases q;exact PySem.W.kia_one PySem.W.kitx_str I.fK True.intro e (fun z=>nomatch z) h
 |flt y=>obtain⟨t,q⟩:=(show ∃t,u=Value.float y t from rx);cases q;exact PySem.W.kia_one PySem.W.kitx_float I.fK True.intro e (fun z=>nomatch z) h
 |@lst a xs ea=>
  cases(show u=Value.ref a from rx)
  obtain⟨_,_,n,_,h1⟩:=(show ū X.prog X.w H s.heap a (.lst xs) from I.hok a _ ea)
  exact PySem.W.kia_one PySem.W.kitx_list I.fK ⟨_,h1,rfl⟩ e (fun z=>nomatch z) h
 |@cX a ob xs ea=>
  cases(show u=Value.ref a from rx)
  obtain⟨_,_,_,n,_,h1⟩:=(show ū X.prog X.w H s.heap a (.cX ob (.lst xs)) from I.hok a _ ea)
  exact PySem.W.kia_one PySem.W.kitx_list I.fK ⟨_,h1,rfl⟩ e (fun z=>nomatch z) h
 |@tup a xs ea=>
  cases(show u=Value.ref a from rx)
  obtain⟨_,_,_,p⟩:=(show ū X.prog X.w H s.heap a (.tup xs) from I.hok a _ ea)
  obtain⟨o,h1,h2,_⟩:=p
  exact PySem.W.kia_one PySem.W.kitx_tuple I.fK ⟨o,h1,h2⟩ e (fun z=>nomatch z) h
 |@dK a kvs ea=>
  cases(show u=Value.ref a from rx)
  obtain⟨_,_,vs,_,p⟩:=(show ū X.prog X.w H s.heap a (.dK kvs) from I.hok a _ ea)
  obtain⟨o,es,ep,h1,h2,_⟩:=p
  exact PySem.W.kia_one PySem.W.kitx_dict I.fK ⟨o,h1,h2.1⟩ e (fun z=>nomatch z) h
 |@dT a kvs ea=>
  cases(show u=Value.ref a from rx)
  obtain⟨_,_,xs,_,o,es,ep,h1,h2,_⟩:=(show ū X.prog X.w H s.heap a (.dT kvs) from I.hok a _ ea)
  exact PySem.W.kia_one PySem.W.kitx_dict I.fK ⟨o,h1,h2.1⟩ e (fun z=>nomatch z) h
 |@ins a C dx fs ea cl ha hn htk hm=>
  cases(show u=Value.ref a from rx)
  obtain⟨mA,O,_⟩:=mV I.hok ea
  obtain⟨od,J,_⟩:=O.look
  exact PySem.W.kia_one (PySem.W.kitx_own (cl.get _) cl.hd ha hn htk hm) I.fK J e (fun z=>nomatch z) h
end
end L2
namespace L2
open PySem PySem.Spec PyProof.Rows
structure bA(k:Nat)(A:Around):Prop where
 hd:A.handled=none
 dp:A.depth+3*k+5<recursionLimit
 un:A.units+16*k+200<cLine
theorem bA.mono{j k:Nat}{A:Around}(r:bA k A)(h:j≤k):bA j A:=⟨r.hd,by have:=r.dp;omega,by have:=r.un;omega⟩
theorem bA.deeper{k:Nat}{A:Around}(r:bA (k+1) A)(env:Env):bA k (A.deeper env):=
 ⟨r.hd,by have:=r.dp;show A.depth+1+3*k+5<_;omega,by have:=r.un;show A.units+3+16*k+200<_;omega⟩
theorem zP{A:Around}{C:Addr}{us:List Value}{kw:List (Str×Value)}:(A.under (.builtin "type.__call__" ⟨.ref C::us,kw⟩)).depth=A.depth+1:=by
 first|rfl|simp[Around.under,Code.weight,Code.isCreation,Code.isGuard,Code.isCaller,Code.frames,Code.isFrame,guardIds]
theorem zQ{A:Around}{C:Addr}{us:List Value}{kw:List (Str×Value)}:(A.under (.builtin "type.__call__" ⟨.ref C::us,kw⟩)).units=A.units+1:=by
 first|rfl|simp[Around.under,Code.cUnits,Code.frames,Code.isFrame]
theorem bA.make{k:Nat}{A:Around}(r:bA (k+1) A)(C:Addr)(us:List Value)(kw:List (Str×Value)):bA k (A.under (.builtin "type.__call__" ⟨.ref C::us,kw⟩)):=
 ⟨r.hd,by have:=r.dp;rw[zP];omega,by have:=r.un;rw[zQ];omega⟩
theorem bA.depth{k:Nat}{A:Around}(r:bA k A):A.depth<recursionLimit:=by have:=r.dp;omega
theorem bA.units{k:Nat}{A:Around}(r:bA k A):A.units+64<cLine:=by have:=r.un;omega
def ZcZ:TA:=fun _ H Q=>Q [] H
def Uj(ta:TE)(tr:TA):TA:=fun σ H Q=>ta σ H fun x H1=>tr σ H1 fun xs H2=>Q (x::xs) H2
section
variable{X:Cx}{e:Expr}{es:List Expr}{te:TE}{t:TA}{pos:Pos}
theorem iW:PA X [] ZcZ:=fun _ _ _ _ H Q I h=>Calls.spliced_nil ⟨[],H,I,.nil,h⟩
theorem bY(ha:PE X e te)(hr:PA X es t)(hs:starEach (e::es) X.env=(false,eval e X.env)::starEach es X.env:=by rfl):PA X (e::es) (Uj te t):=by
 intro pos pins s σ H Q I h
 rw[hs]
 show wpAny _ _ (spliced ((false,eval e X.env)::backTo pos (starEach es X.env))) _ _ s
 refine Calls.spliced_cons (Ť (ha pins s σ H _ I h) fun u s1 ⟨x,H1,I1,r1,q1⟩=>?_)
 exact Ť (hr pos pins s1 σ H1 _ I1 q1) fun us s2 ⟨xs,H2,I2,r2,q2⟩=>⟨x::xs,H2,I2,.cons r1 r2,q2⟩
def Zku(t:TA):TE:=fun σ H Q=>t σ H fun xs H1=>xs.length≤sizeLine∧∀p,H1 p=none→Q (.ref p) (upd H1 p (.tup xs))
def Zkv(t:TA):TE:=fun σ H Q=>t σ H fun xs H1=>xs.length≤sizeLine∧∀p,H1 p=none→Q (.ref p) (upd H1 p (.lst xs))
theorem XC{x1}(h:PA X es t):PE X (.Tuple es x1 pos) (Zku t):=by
 intro pins s σ H Q I hq
 refine wpAny_Tuple_spliced (Ť (h pos pins s σ H _ I hq) fun us s1 ⟨xs,H1,I1,r,z,q⟩=>⟨by rw[←r.length];exact z,?_⟩)
 have hf:H1 s1.heap.objs.size=none:=I1.hok.fresh (Nat.le_refl _)
 refine⟨.ref s1.heap.objs.size,upd H1 s1.heap.objs.size (.tup xs),I1.laid (t':=s1.toks) (fun b u e=>Heap.get?_push_of_some _ e) (Nat.le_refl _) ?_,rfl,q _ hf⟩
 exact⟨z,us,r,⟨_,Heap.get?_push_size _ rfl,rfl,_,rfl⟩⟩
theorem XD(h:PA X es t):PE X (.List es pos) (Zkv t):=by
 intro pins s σ H Q I hq
 refine wpAny_List_spliced (Ť (h pos pins s σ H _ I hq) fun us s1 ⟨xs,H1,I1,r,z,q⟩=>⟨by rw[←r.length];exact z,?_⟩)
 have hf:H1 s1.heap.objs.size=none:=I1.hok.fresh (Nat.le_refl _)
 refine⟨.ref s1.heap.objs.size,upd H1 s1.heap.objs.size (.lst xs),I1.laid (t':=s1.toks) (fun b u e=>Heap.get?_push_of_some _ e) (Nat.le_refl _) ?_,rfl,q _ hf⟩
 exact⟨z,us,0,r,Heap.get?_push_size _ rfl⟩
end
abbrev Sp:=List V→Hp→VK→XK→Prop
abbrev pO:=List Env→Hp→Shared→XK→Value→Shared→Prop
structure zR(P:Program)(w:World)(K:PySem.W.Frag)(mg:Str→Option Value)(base:Heap)(A:Around)(outer:List Env)(s:Shared)(H:Hp):Prop where
 frames:A.frames=some outer
 mod:Mod K mg base
 bs:∀b o,base.get? b=some o→s.heap.get? b=some o∧H b=none
 QH:base.objs.size≤s.heap.objs.size
 lY:s.heap.FunFrames base outer
 WM:∀b∈frs outer,H b=none
 hok:fG P w H s.heap
 bare:AllBare s.gens
def CE(outer:List Env)(P:Program)(w:World)(H:Hp)(s:Shared)(Q:VK)(u:Value)(s':Shared):Prop:=
 ∃v H',s'.os=s.os∧AllBare s'.gens∧Un (frs outer) [] H H' s.heap s'.heap∧fG P w H' s'.heap∧RelV v u∧Q v H'
def CR(CX:pO)(outer:List Env)(P:Program)(w:World)(H:Hp)(s:Shared)(Q:VK)(E:XK)(r:Result)(s':Shared):Prop:=
 match r with
 | .ok (.ret u)=>CE outer P w H s Q u s'
 | .ok _=>False
 | .error e=>CX outer H s E e s'
structure į(P:Program)(w:World)(K:PySem.W.Frag)(mg:Str→Option Value)(base:Heap)(CX:pO)(k:Nat)(f:Addr)(fd:FuncData)(ps:List Str)(sp:Sp):Prop where
 len:∀vs H Q E,sp vs H Q E→vs.length=ps.length
 run:∀(A:Around) (outer:List Env) (s:Shared) (H:Hp) (args:Args) (us:List Value) (vs:List V) (Q:VK) (E:XK),bA k A→zR P w K mg base A outer s H→BindsTo s fd args (ps.zip us)→Vals vs us→sp vs H Q E→
  codeAny (model P w) A (.call (.ref f) args) (CR CX outer P w H s Q E) s
theorem į.mono{P:Program}{w:World}{K:PySem.W.Frag}{mg:Str→Option Value}{base:Heap}{CX:pO}{j k:Nat}{f:Addr}{fd:FuncData}{ps:List Str}{sp:Sp}(F:į P w K mg base CX j f fd ps sp)(h:j≤k) :
 į P w K mg base CX k f fd ps sp:=⟨F.len,fun A outer s H args us vs Q E hr=>F.run A outer s H args us vs Q E (hr.mono h)⟩
theorem į.imp{P:Program}{w:World}{K:PySem.W.Frag}{mg:Str→Option Value}{base:Heap}{CX:pO}{k:Nat}{f:Addr}{fd:FuncData}{ps:List Str}{sp sp':Sp}(F:į P w K mg base CX k f fd ps sp)
 (h:∀vs H Q E,sp' vs H Q E→sp vs H Q E):į P w K mg base CX k f fd ps sp':=
 ⟨fun vs H Q E q=>F.len vs H Q E (h _ _ _ _ q),fun A outer s H args us vs Q E hr he hb hv hs=>F.run A outer s H args us vs Q E hr he hb hv (h _ _ _ _ hs)⟩
theorem zR.make{P:Program}{w:World}{K:PySem.W.Frag}{mg:Str→Option Value}{base:Heap}{A:Around}{outer:List Env}{s:Shared}{H:Hp}(e:zR P w K mg base A outer s H)(C:Addr)(us:List Value)(kw:List (Str×Value)) :
 zR P w K mg base (A.under (.builtin "type.__call__" ⟨.ref C::us,kw⟩)) outer s H:=⟨by first|exact e.frames|(simpa[Around.under,Code.envs,Code.isFrame,pushEnvs] using e.frames),e.mod,e.bs,e.QH,e.lY,e.WM,e.hok,e.bare⟩
section
variable{X:Cx}{pins:List (Addr×Obj)}{σ:St}{H:Hp}{s s':Shared}
theorem Inv.env0(I:Inv X pins σ H s):zR X.prog X.w X.K X.mg X.base X.A X.stack s H:=
 ⟨I.ok.frames,I.ok.mod,I.bs,Nat.le_trans I.ok.QH I.sz,I.stack,I.sX,I.hok,I.bare⟩
theorem Inv.after{Q:VK}{u:Value}(I:Inv X pins σ H s)(h:CE X.stack X.prog X.w H s Q u s'):EP X pins σ Q u s':=by
 obtain⟨v,H',os,bare,un,hok,r,q⟩:=h
 obtain⟨hh,g,d,t,os'⟩:=s'
 obtain rfl:os'=s.os:=os
 exact⟨v,H',I.call (h':=hh) (g':=g) (d':=d) (t':=t) (ch:=[]) un hok bare (fun b z=>absurd z (by simp)),r,q⟩
end
def Binds(K:PySem.W.Frag)(fd:FuncData)(ps:List Str)(ds:List Value):Prop:=
 ∀(s:Shared) (us:List Value),K.In s.heap→(us++ds).length=ps.length→BindsTo s fd ⟨us,[]⟩ (ps.zip (us++ds))
theorem Binds.all{K:PySem.W.Frag}{fd:FuncData}{ps:List Str}(h:∀us:List Value,us.length=ps.length→bindArgs fd ⟨us,[]⟩=pure (ps.zip us)):Binds K fd ps []:=fun s us _ hl=>by
 rw[List.append_nil] at hl ⊢
 exact .of_eq (h us hl)
section
variable{X:Cx}{CX:pO}{k:Nat}{f C:Addr}{fd:FuncData}{ps:List Str}{sp:Sp}{dvs:List V}{ds:List Value}{E:XK}{x m:Str}{p pos apos:Pos}{e o:Expr}{es:List Expr}{ta:TE}{t:TA}
structure Mk(K:PySem.W.Frag)(C f:Addr):Prop where
 makes:PySem.W.makesIn K C=true
 init:PySem.W.findIn K (.ref C) "__init__" =some (some (.ref f))
 fn:PySem.W.isFn K (.ref f)=true
 kp:PySem.W.keepIn K (.ref C)=true
end
section
variable{X:Cx}{CX:pO}{k:Nat}{f C:Addr}{fd:FuncData}{ps ks:List Str}{sp:Sp}{E:XK}{x m:Str}{p pos apos kpos:Pos}{e o:Expr}{es:List Expr}{kws:List Keyword}{te ta:TE}{t tk:TA}{nm:Option Str}
variable{g:List Value→List Value→List Value}{gV:List V→List V→List V}
end
structure Ĕ(N P:List Str)(sc:Scope):Prop where
 kind:sc.kind=.function
 co:sc.isCoroutine=false
 gen:sc.isGenerator=false
 nd:N.Nodup
 pre:N.take P.length=P
 par:∀x∈P,sc.names.lookup x=some .local∨sc.names.lookup x=some .cell
 XF:∀y∈sc.names,y.2≠ .free
theorem qt{kindOf:Str→Option NameKind}{x:Str}:∀{binds:List (Str×Value)} {m:Str→Option Value},(∀v,(x,v)∉binds)→bindL kindOf binds m x=m x
 | [],_,_=>rfl
 |(n,v)::r,m,h=>by
  unfold bindL
  rw[qt fun w hw=>h w (List.mem_cons_of_mem _ hw)]
  split
  ·have:x≠n:=by rintro rfl;exact h v List.mem_cons_self
   simp[this]
  ·rfl
theorem qu{kindOf:Str→Option NameKind}{x:Str}:∀{binds:List (Str×Value)} {m:Str→Option Value},(∀v,(x,v)∉binds)→bindC kindOf binds m x=m x
 | [],_,_=>rfl
 |(n,v)::r,m,h=>by
  unfold bindC
  rw[qu fun w hw=>h w (List.mem_cons_of_mem _ hw)]
  split
  ·rfl
  ·have:x≠n:=by rintro rfl;exact h v List.mem_cons_self
   simp[this]
theorem qw{kindOf:Str→Option NameKind}{x:Str}{v:Value}:∀{P:List Str} {vs:List Value} {i:Nat} {m:Str→Option Value},P.Nodup→P[i]?=some x→vs[i]?=some v→kindOf x=some .local→
 bindL kindOf (P.zip vs) m x=some v
 | [],_,_,_,_,h,_,_=>by simp at h
 |_::_,[],_,_,_,_,h,_=>by simp at h
 |p::P,w::vs,0,m,nd,h1,h2,hk=>by
  simp at h1 h2;subst h1;subst h2
  show bindL kindOf ((p,w)::P.zip vs) m p=_
  unfold bindL
  rw[qt fun v hv=>(List.nodup_cons.mp nd).1 (List.of_mem_zip hv).1,if_pos hk]
  simp
 |p::P,w::vs,i+1,m,nd,h1,h2,hk=>by
  show bindL kindOf ((p,w)::P.zip vs) m x=_
  unfold bindL
  exact qw (i:=i) (List.nodup_cons.mp nd).2 (by simpa using h1) (by simpa using h2) hk
theorem qy{kindOf:Str→Option NameKind}{x:Str}{v:Value}:∀{P:List Str} {vs:List Value} {i:Nat} {m:Str→Option Value},P.Nodup→P[i]?=some x→vs[i]?=some v→kindOf x≠some .local→
 bindC kindOf (P.zip vs) m x=some v
 | [],_,_,_,_,h,_,_=>by simp at h
 |_::_,[],_,_,_,_,h,_=>by simp at h
 |p::P,w::vs,0,m,nd,h1,h2,hk=>by
  simp at h1 h2;subst h1;subst h2
  show bindC kindOf ((p,w)::P.zip vs) m p=_
  unfold bindC
  rw[qu fun v hv=>(List.nodup_cons.mp nd).1 (List.of_mem_zip hv).1,if_neg hk]
  simp
 |p::P,w::vs,i+1,m,nd,h1,h2,hk=>by
  show bindC kindOf ((p,w)::P.zip vs) m x=_
  unfold bindC
  exact qy (i:=i) (List.nodup_cons.mp nd).2 (by simpa using h1) (by simpa using h2) hk
def start(N:List Str)(vs:List V):St:=vs.map some++List.replicate (N.length-vs.length) none
def bR(CX:pO)(P:Program)(w:World)(K:PySem.W.Frag)(mg:Str→Option Value)(base:Heap)(N:List Str)(qual:Str)(scope:Scope)(f:Addr)(cd:Value)(A:Around)(outer:List Env)(s:Shared)(H:Hp)(E:XK):Cx where
 prog:=P
 w:=w
 K:=K
 mg:=mg
 base:=base
 A:=A.deeper (envOfC qual scope s.heap.objs.size f cd)
 N:=N
 s₀:= s
 H₀:= H
 env:=envOfC qual scope s.heap.objs.size f cd
 outer:=outer
 stack:=envOfC qual scope s.heap.objs.size f cd::outer
 ex:=[]
 calm:=true
 fn:=fun _=>true
 pn:=[]
 xe:=fun e s'=>wpAny (model P w) (A.deeper (envOfC qual scope s.heap.objs.size f cd)) (leaving (envOfC qual scope s.heap.objs.size f cd) e) (fun _ s''=>CX outer H s E e s'') (fun e' s''=>CX outer H s E e' s'') s'
theorem jl{sc:Scope}{n:Nat}{x:Str}(h:sc.names.lookup x=some .cell):∃c,(cellsFrom n sc.names []).lookup x=some c:=by
 have q:=PySem.W.cellsFrom_some sc.names n [] (.inl h)
 exact Option.isSome_iff_exists.mp q
theorem Es{CX:pO}{P:Program}{w:World}{K:PySem.W.Frag}{mg:Str→Option Value}{base:Heap}{N ps:List Str}{qual:Str}{scope:Scope}{f:Addr}{cd:Value}{A:Around}{outer:List Env}{s s1:Shared}{H:Hp}{E:XK}{us:List Value}{vs:List V}
 (S:Ĕ N ps scope)(hd:A.handled=none)(e0:zR P w K mg base A outer s H)(hl:vs.length=ps.length)(r:Vals vs us)
 (x:InCallC s s.heap.objs.size (bindL (envOfC qual scope s.heap.objs.size f cd).kindOf (ps.zip us) fun _=>none) (cellsFrom (s.heap.objs.size+1) scope.names []) (bindC (envOfC qual scope s.heap.objs.size f cd).kindOf (ps.zip us) fun _=>none) s1) :
 Inv (bR CX P w K mg base N qual scope f cd A outer s H E) [] (start N vs) H s1:=by
 have hpl:ps.length≤N.length:=by have:=congrArg List.length S.pre;rw[List.length_take] at this;omega
 obtain⟨h1,tk,rfl,hk⟩:=x.done
 have noA:∀b:Addr,b∉(bR CX P w K mg base N qual scope f cd A outer s H E).ex:=fun b z=>absurd (show b∈([]:List Addr) from z) (by simp)
 refine⟨⟨e0.mod,S.kind,rfl,rfl,Nat.le_refl _,fun y z c h1 h2=>?_,fun y hy=>?_,fun y c _ h=>?_,fun _=>hd,Around.frames_deeper e0.frames,.inr ⟨rfl,rfl⟩,fun b z=>absurd z (noA b),e0.bs,e0.QH,fun b _ _=>noA b,fun b z=>absurd z (noA b),e0.lY,e0.WM⟩,
  rfl,e0.bare,Un.kept hk,⟨_,x.toInCall.ns,fun i y v h1 h2 h3=>?_⟩,fun y c h=>⟨_,x.cell y c h⟩,e0.hok.fresh (Nat.le_refl _),fun y c h=>?_,fun p hp=>absurd (show p∈([]:List (Addr×Obj)) from hp) (by simp),e0.hok.kept hk,?_⟩
 ·exact name_of_addr x.apart (PySem.mem_of_lookup h1) (PySem.mem_of_lookup h2)
 ·have hy:scope.names.lookup y=some .cell∨scope.names.lookup y=some .free:=hy
  rcases hy with hy|hy
  ·exact jl hy
  ·exact absurd rfl (S.XF _ (PySem.mem_of_lookup hy))
 ·exact Nat.le_of_lt (x.above y c (PySem.mem_of_lookup h))
 ·have hi:i<vs.length:=by
   unfold start at h2
   by_cases hi:i<vs.length
   ·exact hi
   ·rw[List.getElem?_append_right (by simpa using hi)] at h2
    rw[List.getElem?_replicate] at h2
    split at h2<;>cases h2
  have ha:vs[i]?=some v:=by
   unfold start at h2
   rw[List.getElem?_append_left (by simpa using hi),List.getElem?_map] at h2
   cases e:vs[i]? with
   |none=>rw[e] at h2;cases h2
   |some a=>rw[e] at h2;cases h2;rfl
  obtain⟨u,hu,rv⟩:=r.get ha
  have hp:ps[i]?=some y:=by
   rw[←S.pre,List.getElem?_take_of_lt (by omega)];exact h1
  have ndP:ps.Nodup:=by rw[←S.pre];exact S.nd.sublist (List.take_sublist _ _)
  refine⟨u,rv,?_⟩
  rcases S.par y (List.mem_of_getElem? hp) with k|k
  ·exact .inl ⟨k,qw ndP hp hu k⟩
  ·obtain⟨c,e⟩:=jl (n:=s.heap.objs.size+1) k
   refine .inr ⟨.inl k,c,e,?_⟩
   have q:=x.cell y c e
   rw[qy ndP hp hu (by show scope.names.lookup y≠_;rw[k];decide)] at q
   exact q
 ·exact e0.hok.fresh (Nat.le_of_lt (x.above y c (PySem.mem_of_lookup h)))
 ·unfold start
  show _=N.length
  rw[List.length_append,List.length_map,List.length_replicate]
  omega
theorem Gz{CX:pO}{P:Program}{w:World}{K:PySem.W.Frag}{mg:Str→Option Value}{base:Heap}{k:Nat}{f:Addr}{name qual:Str}{params:Arguments}{body:List Stmt}{scope:Scope}{dV kV doc pm cdv ct oc:Value}{an od:Option Addr}
 {osl:Array (Option Value)}{N ps:List Str}{sp:Sp}(lk:K.lookup f=some ⟨oc,od,.func (PySem.W.fnOf name qual params body scope dV kV doc pm an cdv ct),osl⟩)(hcd:PySem.W.codeIn K cdv qual=true)(S:Ĕ N ps scope)
 (len:∀vs H Q E,sp vs H Q E→vs.length=ps.length)
 (hbody:∀(A:Around) (outer:List Env) (s:Shared) (H:Hp) (vs:List V) (Q:VK) (E:XK),bA k (A.deeper (envOfC qual scope s.heap.objs.size f cdv))→sp vs H Q E→
   ∃t,jj (bR CX P w K mg base N qual scope f cdv A outer s H E) body t∧t {nx:=fun _ H'=>Q .non H',rt:=Q} (start N vs) H) :
 į P w K mg base CX (k+1) f (PySem.W.fnOf name qual params body scope dV kV doc pm an cdv ct) ps sp:=by
 refine⟨len,fun A outer s H args us vs Q E hr e0 hb r hsp=>?_⟩
 have hl:=len _ _ _ _ hsp
 have KX:K.In s.heap:=e0.mod.kin.keeps fun b o e=>(e0.bs b o e).1
 have lim:s.heap.NoLimit:=e0.mod.nolimit.keeps fun b o e=>(e0.bs b o e).1
 have hkind:∀y∈ps.zip us,scope.names.lookup y.1=some .local∨(scope.names.lookup y.1=some .cell∧((cellsFrom (s.heap.objs.size+1) scope.names []).lookup y.1).isSome=true):=fun⟨n,v⟩ hy=>by
  rcases S.par n (List.of_mem_zip hy).1 with q|q
  ·exact .inl q
  ·exact .inr ⟨q,PySem.W.cellsFrom_some _ _ _ (.inl q)⟩
 refine codeAny_call_function hr.depth (KX _ _ lk) rfl S.co S.gen rfl (PySem.W.codeRec_of KX hcd) (hb _ _ _ _ ?_)
 refine wpAny_newFunctionEnv_cells S.kind hkind fun env he s1 x=>?_
 subst he
 refine⟨lim.keeps x.toInCall.keep,codeAny_func ?_⟩
 obtain⟨t,ht,hq⟩:=hbody A outer s H vs Q E (hr.deeper _) hsp
 have I:Inv (bR CX P w K mg base N qual scope f cdv A outer s H E) [] (start N vs) H s1:=Es S hr.hd e0 hl r x
 refine wpAny_mono (ht [] s1 (start N vs) H _ I hq) (fun fl s' hs=>?_) fun e s' hs=>hs
 have fin:∀{σ':St} {H':Hp} {v:V} {u:Value},Inv (bR CX P w K mg base N qual scope f cdv A outer s H E) [] σ' H' s'→RelV v u→Q v H'→CE outer P w H s Q u s':=
  fun{σ' H' v u} J rv q=>⟨v,H',J.os,J.bare,J.base,J.hok,rv,q⟩
 cases fl with
 |ret u=>
  obtain⟨v,σ',H',J,rv,q⟩:=hs
  exact fin J rv q
 |next=>
  obtain⟨σ',H',J,q⟩:=hs
  exact fin (v:=V.non) (u:=Value.none) J rfl q
 |brk=>
  obtain⟨_,_,_,q⟩:=hs
  exact False.elim q
 |cont=>
  obtain⟨_,_,_,q⟩:=hs
  exact False.elim q
end L2
namespace L2
open PySem PySem.Spec PyProof.Rows
section
variable{X:Cx}{x:Str}{p pos:Pos}{e:Expr}{es:List Expr}{t:TA}{id T:String}{r:List V→Hp→VK→Prop}
def tCB(r:List V→Hp→VK→Prop)(t:TA):TE:=fun σ H Q=>t σ H fun vs H1=>r vs H1 Q
theorem Ĭ(hc:Š X (.builtin id) r)(hg:Gl X x)(hm:X.mg x=none)(hv:bootBuiltins x=some (.builtin id))(ha:PA X (e::es) t)(hn:x≠ "__name__" := by decide)(hdb:(x== ("__debug__" :Str))=false:=by decide)
 (he:starEach (e::es) X.env=(false,eval e X.env)::starEach es X.env:=by rfl)(hpl:(backTo pos (starEach es X.env)).any (·.1)=false:=by rfl):PE X (.Call (.Name x p) (e::es) [] pos) (tCB r t):=by
 intro pins s σ H Q I h
 refine wpAny_Call_Name_kw (jM I hg hm hv ?_ hn hdb)
 exact PyProof.Rows.callWith_builtin1 (Ť (ha pos pins s σ H _ I h) fun us s1 ⟨vs,H1,I1,r1,q1⟩=>hc pins s1 σ H1 vs us Q I1 r1 q1) he hpl
theorem ů(hc:Š X (.type T) r)(hg:Gl X x)(hm:X.mg x=none)(hv:bootBuiltins x=some (.type T))(ha:PA X (e::es) t)(hn:x≠ "__name__" := by decide)(hdb:(x== ("__debug__" :Str))=false:=by decide)
 (he:starEach (e::es) X.env=(false,eval e X.env)::starEach es X.env:=by rfl)(hpl:(backTo pos (starEach es X.env)).any (·.1)=false:=by rfl):PE X (.Call (.Name x p) (e::es) [] pos) (tCB r t):=by
 intro pins s σ H Q I h
 refine wpAny_Call_Name_kw (jM I hg hm hv ?_ hn hdb)
 exact PyProof.Rows.callWith_type1 (Ť (ha pos pins s σ H _ I h) fun us s1 ⟨vs,H1,I1,r1,q1⟩=>hc pins s1 σ H1 vs us Q I1 r1 q1) he hpl
end
end L2
namespace HT
open PySem PyProof.Rows
section
open PySem.SeqAt
open PySem.AutoSeq1 (wpAny_loadPart')
open PySem.MeetsSeq PySem.MeetsSeq2 PySem.MeetsSeq3
end
section
variable{prog:Program}{w:World}{A:Around}{E:Value→Shared→Prop}{s:Shared}
def gK(n d:Nat):Option Int→Nat
 |none=>d
 |some v=>if v<0 then(v+(n:Int)).toNat else min v.toNat n
theorem mW(n d k:Nat):gK n d (some (k:Int))=min k n:=by
 show(if(k:Int)<0 then((k:Int)+(n:Int)).toNat else min (k:Int).toNat n)=min k n
 rw[if_neg (by omega),Int.toNat_natCast]
theorem GC(n d:Nat)(hd:d≤n)(o:Option Int):gK n d o≤n:=by
 cases o with
 |none=>exact hd
 |some v=>
  show(if v<0 then(v+(n:Int)).toNat else min v.toNat n)≤n
  by_cases hv:v<0
  ·rw[if_pos hv];omega
  ·rw[if_neg hv];exact Nat.min_le_right _ _
end
end HT
namespace L2
open PySem PySem.Spec PyProof.Rows
abbrev TO:=St→Hp→(Option Int→Hp→Prop)→Prop
def PO(X:Cx)(e:Option Expr)(t:TO):Prop:=
 ∀(pins:List (Addr×Obj)) (s:Shared) (σ:St) (H:Hp) (Q:Option Int→Hp→Prop),Inv X pins σ H s→t σ H Q→
  wpAny (model X.prog X.w) X.A (evalPart e X.env) (fun u s'=>∃o H',Inv X pins σ H' s'∧IsPart u o∧Q o H') X.xe s
def Rb:TO:=fun _ H Q=>Q none H
section
variable{X:Cx}{e:Expr}{te:TE}{lo hi:Option Expr}{tl th:TO}{pos p2:Pos}
theorem Rf:PO X none Rb:=by
 intro pins s σ H Q I h
 rw[evalPart_none]
 exact wpAny_pure ⟨none,H,I,.none,h⟩
def CP(X:Cx)(r:V→Option Int→Option Int→Hp→VK→Prop):Prop:=
 ∀(pins:List (Addr×Obj)) (s:Shared) (σ:St) (H:Hp) (x:V) (v vl vu:Value) (lo hi:Option Int) (sl:Addr) (Q:VK),Inv X pins σ H s→RelV x v→s.heap.IsSliceOf sl vl vu .none→IsPart vl lo→IsPart vu hi→r x lo hi H Q→
  ∃T id,typeLookup (.type T) "__getitem__" =pure (some (.builtin id))∧s.TypeIs v T∧wpAny (model X.prog X.w) X.A (getItem v (.ref sl)) (EP X pins σ Q) X.xe s
theorem CP.or{r r':V→Option Int→Option Int→Hp→VK→Prop}(h:CP X r)(h':CP X r'):CP X (fun x lo hi H Q=>r x lo hi H Q∨r' x lo hi H Q):=by
 intro pins s σ H x v vl vu lo hi sl Q I rx hs pl pu q
 rcases q with q|q
 ·exact h pins s σ H x v vl vu lo hi sl Q I rx hs pl pu q
 ·exact h' pins s σ H x v vl vu lo hi sl Q I rx hs pl pu q
def tSl(r:V→Option Int→Option Int→Hp→VK→Prop)(te:TE)(tl th:TO):TE:=fun σ H Q=>te σ H fun x H1=>tl σ H1 fun l H2=>th σ H2 fun u H3=>r x l u H3 Q
theorem GD{r:V→Option Int→Option Int→Hp→VK→Prop}(hr:CP X r)(he:PE X e te)(hl:PO X lo tl)(hu:PO X hi th):PE X (.Subscript e (.Slice lo hi none p2) pos) (tSl r te tl th):=by
 intro pins s σ H Q I h
 refine Subscript_ (Ť (he pins s σ H _ I h) fun v s1 ⟨x,H1,I1,r1,q1⟩=>?_)
 refine wpAny_Slice (Ť (hl pins s1 σ H1 _ I1 q1) fun vl s2 ⟨l,H2,I2,pl,q2⟩=>Ť (hu pins s2 σ H2 _ I2 q2) fun vu s3 ⟨u,H3,I3,pu,q3⟩=>?_)
 rw[evalPart_none]
 refine wpAny_pure ?_
 have I4:Inv X pins σ H3 {s3 with heap:=s3.heap.push {cls:=.type "slice",data:=.fields #[vl,vu,.none]}}:=I3.kept (t':=s3.toks) fun b ob q=>Heap.get?_push_of_some _ q
 obtain⟨T,id,hT,ht,hg⟩:=hr pins {s3 with heap:=s3.heap.push {cls:=.type "slice",data:=.fields #[vl,vu,.none]}} σ H3 x v vl vu l u s3.heap.objs.size Q I4 r1 (Heap.IsSliceOf.new ..) pl pu q3
 show wpAny (model X.prog X.w) X.A (subscriptTail e (.Slice lo hi none p2) v (.ref s3.heap.objs.size)) (EP X pins σ Q) X.xe {s3 with heap:=s3.heap.push {cls:=.type "slice",data:=.fields #[vl,vu,.none]}}
 exact tail_any (ops:=[.ref s3.heap.objs.size,v]) ht hT hg (by with_unfolding_all rfl)
def vQ(xs:List V)(lo hi:Option Int):List V:=(xs.drop (HT.gK xs.length 0 lo)).take (HT.gK xs.length xs.length hi-HT.gK xs.length 0 lo)
theorem vR(xs:List V)(lo hi:Option Int):(vQ xs lo hi).length≤xs.length:=by
 unfold vQ
 rw[List.length_take,List.length_drop]
 omega
end
end L2
namespace L2
open PySem PySem.Spec PyProof.Rows
def Ge(n:Nat)(i:Int):Option Nat:=if 0≤i then(if i<n then some i.toNat else none) else if -(n:Int)≤i then some (i+n).toNat else none
def sZ{α:Type}(xs:List α)(i:Int):Option α:= (Ge xs.length i).bind fun j=>xs[j]?
theorem CQ{n:Nat}{i:Int}{j:Nat}(h:Ge n i=some j):seqIndex? i n=some j∧j<n∧ -(n:Int)≤i∧i<n:=by
 unfold Ge at h
 by_cases h0:0≤i
 ·rw[if_pos h0] at h
  by_cases h1:i<n
  ·rw[if_pos h1] at h
   have e:i.toNat=j:=Option.some.inj h
   exact⟨by rw[seqIndex_of h0 h1,e],by omega,by omega,h1⟩
  ·rw[if_neg h1] at h;cases h
 ·rw[if_neg h0] at h
  by_cases h1: -(n:Int)≤i
  ·rw[if_pos h1] at h
   have e:(i+n).toNat=j:=Option.some.inj h
   exact⟨by rw[seqIndex_neg (by omega) h1,e],by omega,h1,by omega⟩
  ·rw[if_neg h1] at h;cases h
theorem tu{α:Type}{xs:List α}{i:Int}{v:α}(h:sZ xs i=some v):∃j,seqIndex? i xs.length=some j∧xs[j]?=some v∧j<xs.length∧ -(xs.length:Int)≤i∧i<xs.length:=by
 unfold sZ at h
 cases e:Ge xs.length i with
 |none=>rw[e] at h;cases h
 |some j=>
  rw[e] at h
  obtain⟨h1,h2,h3,h4⟩:=CQ e
  exact⟨j,h1,h,h2,h3,h4⟩
def CT(b:Expr):Prop:=∀o i,subscripted b false o i=operate [o,i] (getItem o i)
def zT(X:Cx)(r:R2):Prop:=
 ∀(value slice:Expr) (pins:List (Addr×Obj)) (s:Shared) (σ:St) (H:Hp) (x y:V) (v u:Value) (Q:VK),Inv X pins σ H s→RelV x v→RelV y u→r x y H Q→
  subscripted slice false v u=operate [v,u] (getItem v u)→wpAny (model X.prog X.w) X.A (subscriptTail value slice v u) (EP X pins σ Q) X.xe s
def MtR(X:Cx)(id:String)(r:V→List V→Hp→VK→Prop):Prop:=
 ∀(pins:List (Addr×Obj)) (s:Shared) (σ:St) (H:Hp) (x:V) (xs:List V) (v:Value) (us:List Value) (Q:VK),Inv X pins σ H s→RelV x v→Vals xs us→r x xs H Q→
  wpAny (model X.prog X.w) X.A (call (.builtin id) (v::us)) (EP X pins σ Q) X.xe s
section
variable{X:Cx}{a b:Expr}{ta tb:TE}{pos:Pos}
theorem zT.or{r r':R2}(h:zT X r)(h':zT X r'):zT X (fun x y H Q=>r x y H Q∨r' x y H Q):=by
 intro value slice pins s σ H x y v u Q I rx ry q hs
 rcases q with q|q
 ·exact h value slice pins s σ H x y v u Q I rx ry q hs
 ·exact h' value slice pins s σ H x y v u Q I rx ry q hs
theorem Zc0{r:R2}(hr:zT X r)(ha:PE X a ta)(hb:PE X b tb)(hs:CT b):PE X (.Subscript a b pos) (tOp r ta tb):=by
 intro pins s σ H Q I h
 exact Subscript_ (Xk ha hb I h fun v u s2 x y H2 I2 rx ry q=>hr a b pins s2 σ H2 x y v u Q I2 rx ry q (hs _ _))
def Zc1(K:PySem.W.Frag):R2:=fun x y H Q=>∃p xs i v,x=.ref p∧y=.int i∧aC K H p xs∧sZ xs i=some v∧Q v H
def Zc2(K:PySem.W.Frag):R2:=fun x y H Q=>∃p xs i v,x=.ref p∧y=.int i∧cY K H p xs∧sZ xs i=some v∧Q v H
def Zc3:R2:=fun x y H Q=>∃z i c,x=.str z∧y=.int i∧z.length≤sizeLine∧sZ z.cps.toList i=some c∧Q (.str ⟨#[c]⟩) H
theorem Rg:zT X (Zc1 X.K):=by
 intro value slice pins s σ H x y v u Q I rx ry h hs
 obtain⟨p,xs,i,z,rfl,rfl,hq,he,q⟩:=h
 cases rx
 obtain⟨t,rfl⟩:=ry
 obtain⟨its,r,pl,hz⟩:=I.list hq
 obtain⟨j,h1,h2,h3,h4,h5⟩:=tu he
 obtain⟨w,ew,rw'⟩:=r.get h2
 have hl:=r.length
 have hn:=jP
 have fin:EP X pins σ Q w s:=⟨z,H,I,rw',q⟩
 by_cases h0:0≤i
 ·have hj:i.toNat=j:=by
   rw[seqIndex_of h0 h5] at h1
   exact Option.some.inj h1
  exact item_listR pl.isList h0 (by omega) (by rw[hj];simpa using ew) fin hs
 ·have hj:(i+(its.toArray.size:Int)).toNat=j:=by
   rw[seqIndex_neg (by omega) h4] at h1
   rw[List.size_toArray,←hl]
   exact Option.some.inj h1
  exact subscriptTail_builtinR (x:=w) pl.isList.typeIs slot_list_getitem.lookup
   (wpAny_getItem_list_neg (Q:=fun r s'=>r=w∧EP X pins σ Q r s') pl.isList (by omega) (by rw[List.size_toArray]<;>omega) (by omega) (by rw[hj];simpa using ew) ⟨rfl,fin⟩) hs
theorem XH:zT X (Zc2 X.K):=by
 intro value slice pins s σ H x y v u Q I rx ry h hs
 obtain⟨p,xs,i,z,rfl,rfl,hq,he,q⟩:=h
 cases rx
 obtain⟨t,rfl⟩:=ry
 obtain⟨its,r,pl,hz⟩:=I.tuple hq
 obtain⟨j,h1,h2,h3,h4,h5⟩:=tu he
 obtain⟨w,ew,rw'⟩:=r.get h2
 have hl:=r.length
 have hn:=jP
 have fin:EP X pins σ Q w s:=⟨z,H,I,rw',q⟩
 exact subscriptTail_builtinR (x:=w) pl.typeIs slot_tuple_getitem.lookup
  (getItem_tuple (j:=j) (Q:=fun r s'=>r=w∧EP X pins σ Q r s') pl (by omega) (by omega) (by rw[List.size_toArray,←hl];exact h1) (by simpa using ew) ⟨rfl,fin⟩) hs
theorem XJ:zT X Zc3:=by
 intro value slice pins s σ H x y v u Q I rx ry h hs
 obtain⟨z,i,c,rfl,rfl,hz,he,q⟩:=h
 obtain⟨t,rfl⟩:=rx
 obtain⟨t',rfl⟩:=ry
 obtain⟨j,h1,h2,h3,h4,h5⟩:=tu he
 have hl:z.cps.toList.length=z.length:=by simp[Str.length]
 rw[hl] at h1 h4 h5
 have hn:=jP
 exact tail_any (typeIs_str s z t) slot_str_getitem.lookup (getItem_str (c:=c) (by
  have e1:decide (i < -(2 ^ 63:Int))=false:=decide_eq_false (by omega)
  have e2:decide (i ≥ 2 ^ 63)=false:=decide_eq_false (by omega)
  rw[e1,e2,Bool.or_false]) (by rw[h1];simpa using h2) ⟨.str ⟨#[c]⟩,H,I.tok _,⟨_,rfl⟩,q⟩) hs
def rIx(K:PySem.W.Frag):R2:=fun x y H Q=>Zc1 K x y H Q∨Zc2 K x y H Q∨Zc3 x y H Q
theorem XM:zT X (rIx X.K):=Rg.or (XH.or XJ)
theorem zU(its:List Value)(n j:Nat)(u:Value):Obj.mapSeq (·.setIfInBounds j u) {cls:=.type "list",data:=.seq its.toArray n}= {cls:=.type "list",data:=.seq (its.set j u).toArray n}:=by
 simp[Obj.mapSeq]
theorem Inv.lst{pins:List (Addr×Obj)}{σ:St}{H:Hp}{s:Shared}{p:Addr}{xs:List V}(I:Inv X pins σ H s)(h:H p=some (.lst xs)) :
 ∃(its:List Value) (n:Nat),Vals xs its∧s.heap.get? p=some {cls:=.type "list",data:=.seq its.toArray n}∧xs.length≤sizeLine:=by
 obtain⟨z,its,n,r,e⟩:=I.hok p _ h
 exact⟨its,n,r,e,z⟩
theorem Inv.XQ{pins:List (Addr×Obj)}{σ:St}{H:Hp}{s:Shared}{p:Addr}{xs ys:List V}{its its':List Value}{n n':Nat}{f:Obj→Obj}(I:Inv X pins σ H s)(h:H p=some (.lst xs))
 (ho:s.heap.get? p=some {cls:=.type "list",data:=.seq its.toArray n})(hf:f {cls:=.type "list",data:=.seq its.toArray n}= {cls:=.type "list",data:=.seq its'.toArray n'})(r:Vals ys its')(hz:ys.length≤sizeLine)(t:Nat) :
 Inv X pins σ (upd H p (.lst ys)) {s with heap:=s.heap.update p f,toks:=t}:=by
 have e:(s.heap.update p f).get? p=some {cls:=.type "list",data:=.seq its'.toArray n'}:=by
  rw[Heap.get?_update_self f ho (by rw[hf]<;>rfl),hf]
 refine I.write (x:=p) (e:=p) (by rw[h];trivial) (.inl rfl) (fun b u hb q=>(Heap.get?_update_other _ _ (Ne.symm hb)).trans q) ⟨_,e⟩ ?_
 exact⟨hz,its',n',r,e⟩
def Zc4:V→V→V→Hp→(Hp→Prop)→Prop:=fun o i v H Q=>∃p xs k j,o=.ref p∧i=.int k∧H p=some (.lst xs)∧Ge xs.length k=some j∧Q (upd H p (.lst (xs.set j v)))
theorem set_list:ZcQ X Zc4:=by
 intro pins s σ H o i v ov iv u Q I ro ri rv h
 obtain⟨p,xs,k,j,rfl,rfl,hp,hj,q⟩:=h
 cases ro
 obtain⟨t,rfl⟩:=ri
 obtain⟨its,n,r,ho,hz⟩:=I.lst hp
 obtain⟨h1,h2,h3,h4⟩:=CQ hj
 have hl:=r.length
 have hn:=jP
 have I':Inv X pins σ (upd H p (.lst (xs.set j v))) {s with heap:=s.heap.update p (Obj.mapSeq (·.setIfInBounds j u))}:=
  I.XQ hp ho (zU its n j u) (r.set rv j) (by rw[List.length_set];exact hz) s.toks
 by_cases h0:0≤k
 ·have hk:k.toNat=j:=by
   rw[seqIndex_of h0 h4] at h1
   exact Option.some.inj h1
  exact PySem.W.ki_setAt ho h0 (by omega) (by rw[List.size_toArray,←hl];exact h4) (by rw[hk];exact⟨_,I',q⟩)
 ·have hk:(k+(its.toArray.size:Int)).toNat=j:=by
   rw[seqIndex_neg (by omega) h3] at h1
   rw[List.size_toArray,←hl]
   exact Option.some.inj h1
  exact PySem.W.ki_setBack ho (by omega) (by rw[List.size_toArray,←hl];exact h3) (by omega) (by rw[hk];exact⟨_,I',q⟩)
theorem tD(lo hi:Option Int)(n:Nat):(sliceBounds lo hi none n).1=((HT.gK n 0 lo:Nat):Int)∧(sliceBounds lo hi none n).2.1=((HT.gK n n hi:Nat):Int)∧(sliceBounds lo hi none n).2.2=1:=by
 refine⟨?_,?_,rfl⟩
 ·cases lo with
  |none=>simp[sliceBounds,HT.gK]
  |some i=>
   simp only[sliceBounds,HT.gK,Option.getD_none,show(1:Int)>0 by decide,if_true]
   by_cases h:i<0
   ·simp only[h,if_true]<;>omega
   ·simp only[h,if_false]<;>omega
 ·cases hi with
  |none=>simp[sliceBounds,HT.gK]
  |some i=>
   simp only[sliceBounds,HT.gK,Option.getD_none,show(1:Int)>0 by decide,if_true]
   by_cases h:i<0
   ·simp only[h,if_true]<;>omega
   ·simp only[h,if_false]<;>omega
theorem pR(its:List Value)(lo hi:Option Int):slicePick its.toArray lo hi none=((its.drop (HT.gK its.length 0 lo)).take (HT.gK its.length its.length hi-HT.gK its.length 0 lo)).toArray:=by
 obtain⟨h1,h2,h3⟩:=tD lo hi its.toArray.size
 unfold slicePick
 rw[h1,h2,h3]
 simp only[sliceRange_one,pick_run,List.size_toArray]<;>rfl
def Zkw(K:PySem.W.Frag):V→Option Int→Option Int→Hp→VK→Prop:=fun x lo hi H Q=>∃a xs,x=.ref a∧aC K H a xs∧∀p,H p=none→Q (.ref p) (upd H p (.lst (vQ xs lo hi)))
theorem Rh:CP X (Zkw X.K):=by
 intro pins s σ H x v vl vu lo hi sl Q I rx hs pl pu h
 obtain⟨a,xs,rfl,hx,q⟩:=h
 cases rx
 obtain⟨its,r,ht,hz⟩:=I.list hx
 have hlen:=r.length
 refine⟨"list",_,slot_list_getitem.lookup,ht.isList.typeIs,?_⟩
 refine wpAny_getItem_list_slice ht.isList hs pl pu .none (by simp) ?_ (by rw[List.size_toArray]<;>omega)
 rw[pR,←hlen]
 refine⟨.ref s.heap.objs.size,_,I.laid (t':=s.toks) (o:=.lst (vQ xs lo hi)) (fun b ob q=>Heap.get?_push_of_some _ q) (Nat.le_refl _) ?_,rfl,q _ (I.hok.fresh (Nat.le_refl _))⟩
 exact⟨Nat.le_trans (vR xs lo hi) hz,_,0,(r.drop (HT.gK xs.length 0 lo)).take (HT.gK xs.length xs.length hi-HT.gK xs.length 0 lo),Heap.get?_push_size _ rfl⟩
theorem tE:Š X (.type "list") (fun xs H Q=>∃p ys,xs=[.ref p]∧(aC X.K H p ys∨cY X.K H p ys)∧∀l,H l=none→Q (.ref l) (upd H l (.lst ys))):=by
 intro pins s σ H xs us Q I r h
 obtain⟨p,ys,rfl,hq,q⟩:=h
 obtain⟨u,rfl,rx⟩:=vals1 r
 cases rx
 have fin:∀(its:List Value),Vals ys its→ys.length≤sizeLine→∀(h':Heap) (c':Nat),(∀b o',s.heap.get? b=some o'→h'.get? b=some o')→
  h'.get? s.heap.objs.size=some {cls:=.type "list",dict:=none,data:=.seq its.toArray c',slots:=#[]}→EP X pins σ Q (.ref s.heap.objs.size) {s with heap:=h'}:=fun its r' hz h' c' kp e=>
  ⟨.ref s.heap.objs.size,_,I.laid (t':=s.toks) kp (Nat.le_refl _) (show ū X.prog X.w _ h' _ (.lst ys) from⟨hz,its,c',r',e⟩),rfl,q _ (I.hok.fresh (Nat.le_refl _))⟩
 rcases hq with hq|hq
 ·obtain⟨its,r',pl,hz⟩:=I.list hq
  have hlen:=r'.length
  obtain⟨o,ho,hc,n,hd⟩:=pl.isList
  exact call_list_seq p (.inl rfl) ho hc hd (fun h' c' kp e=>fin its r' hz h' c' kp e) (by simp only[List.size_toArray]<;>omega)
 ·obtain⟨its,r',pl,hz⟩:=I.tuple hq
  have hlen:=r'.length
  obtain⟨o,ho,hc,n,hd⟩:=pl
  exact call_list_seq p (.inr rfl) ho hc hd (fun h' c' kp e=>fin its r' hz h' c' kp e) (by simp only[List.size_toArray]<;>omega)
theorem pU:Š X (.type "tuple") (fun xs H Q=>∃p ys,xs=[.ref p]∧((aC X.K H p ys∧∀l,H l=none→Q (.ref l) (upd H l (.tup ys)))∨(cY X.K H p ys∧Q (.ref p) H))):=by
 intro pins s σ H xs us Q I r h
 obtain⟨p,ys,rfl,h⟩:=h
 obtain⟨u,rfl,rx⟩:=vals1 r
 cases rx
 rcases h with⟨hq,q⟩|⟨hq,q⟩
 ·obtain⟨its,r',pl,hz⟩:=I.list hq
  have hlen:=r'.length
  refine call_tuple_list pl.isList (fun h' kp=>?_) (by simp only[List.size_toArray]<;>omega)
  have I1:Inv X pins σ H {s with heap:=h'}:=I.kept (t':=s.toks) kp
  have I2:Inv X pins σ (upd H h'.objs.size (.tup ys)) {s with heap:=h'.push {cls:=.type "tuple",data:=.seq its.toArray}}:=
   I1.laid (t':=s.toks) (fun b o e=>Heap.get?_push_of_some _ e) (Nat.le_refl _) (show ū X.prog X.w _ _ _ (.tup ys) from⟨hz,its,r',IsTup.new _ _⟩)
  exact⟨.ref h'.objs.size,_,I2,rfl,q _ (I1.hok.fresh (Nat.le_refl _))⟩
 ·obtain⟨its,r',pl,hz⟩:=I.tuple hq
  exact call_tuple_same pl ⟨.ref p,H,I,rfl,q⟩
def tyV(K:PySem.W.Frag)(T:String)(x:V)(H:Hp):Prop:=match x with
 | .str _=>T= "str"
 | .int _=>T= "int"
 | .ref p=>(T= "list" ∧∃xs,aC K H p xs)∨(T= "tuple" ∧∃o,K.lookup p=some o∧o.cls=.type "tuple" ∧o.dict=none)∨
     (T= "dict" ∧((∃kvs,H p=some (.dK kvs))∨∃kvs,H p=some (.dT kvs)))∨(T= "set" ∧∃S n,H p=some (.set S n))
 |_=>False
theorem XR{pins:List (Addr×Obj)}{σ:St}{H:Hp}{s:Shared}{T:String}{x:V}{v:Value}(I:Inv X pins σ H s)(r:RelV x v)(ty:tyV X.K T x H) :
 s.TypeIs v T∧∀a,v=.ref a→∃ob,s.heap.get? a=some ob∧ob.dict=none:=by
 cases x with
 |str z=>
  obtain⟨t,rfl⟩:=r
  cases(show T= "str" from ty)
  exact⟨typeIs_str s z t,fun _ e=>nomatch e⟩
 |int i=>
  obtain⟨t,rfl⟩:=r
  cases(show T= "int" from ty)
  exact⟨typeIs_int s i t,fun _ e=>nomatch e⟩
 |ref p=>
  cases r
  rcases ty with⟨rfl,xs,hq⟩|⟨rfl,o,hk,hc,hd⟩|⟨rfl,hk⟩|⟨rfl,S,n,hk⟩
  ·obtain⟨its,_,pl,_⟩:=I.list hq
   refine⟨pl.isList.typeIs,fun a e=>?_⟩
   cases e
   obtain⟨o,n,e,c,hd,_⟩:=pl
   exact⟨o,e,hd⟩
  ·refine⟨⟨o,I.fK p o hk,hc⟩,fun a e=>?_⟩
   cases e
   exact⟨o,I.fK _ o hk,hd⟩
  ·have z:∃o,s.heap.get? p=some o∧o.ExactDict:=by
    rcases hk with⟨kvs,hk⟩|⟨kvs,hk⟩
    ·obtain⟨_,_,_,_,o,_,_,e,ex,_⟩:=I.hok p _ hk
     exact⟨o,e,ex⟩
    ·obtain⟨_,_,_,_,o,_,_,e,ex,_⟩:=I.hok p _ hk
     exact⟨o,e,ex⟩
   obtain⟨o,e,ex⟩:=z
   refine⟨⟨o,e,ex.1⟩,fun a e2=>?_⟩
   cases e2
   exact⟨o,e,ex.2.1⟩
  ·obtain⟨o,_,_,_,e,ex,_⟩:=I.hok p _ hk
   refine⟨⟨o,e,ex.1⟩,fun a e2=>?_⟩
   cases e2
   exact⟨o,e,ex.2.1⟩
 |_=>exact False.elim ty
def tBM(K:PySem.W.Frag)(T:String)(r:V→List V→Hp→VK→Prop)(to:TE)(t:TA):TE:=fun σ H Q=>to σ H fun x H1=>tyV K T x H1∧t σ H1 fun xs H2=>r x xs H2 Q
variable{o e:Expr}{es:List Expr}{to:TE}{t:TA}{name:Str}{apos cpos:Pos}{T id:String}{r:V→List V→Hp→VK→Prop}
theorem k_(pa:PlainAttrs T)(slot:Slot T name id)(hty:typeOf (.builtin id)=pure (.type "method_descriptor"))(hm:MtR X id r)(ho:PE X o to)(ha:PA X (e::es) t)
 (hbase:attributeBase o name X.env (eval o X.env)=eval o X.env:=by rfl)
 (hfew:((backTo cpos (starEach (e::es) X.env)).all (fun x=>!x.1) && (backToKw cpos (keywordEach [] X.env)).all (fun x=>x.1.isSome)
   && decide ((e::es).length+([]:List Keyword).length+(if([]:List Keyword).isEmpty then 0 else 1)<30))=true:=by rfl)
 (hline:(apos.endLine== cpos.line)=true:=by rfl)(hs:starEach (e::es) X.env=(false,eval e X.env)::starEach es X.env:=by rfl)(hplain:(backTo cpos (starEach es X.env)).any (·.1)=false:=by rfl) :
 PE X (.Call (.Attribute o name apos) (e::es) [] cpos) (tBM X.K T r to t):=by
 intro pins s σ H Q I h
 refine wpAny_Call_method_late hbase hfew hline rfl (Ť (ho pins s σ H _ I h) fun v s1 ⟨x,H1,I1,r1,ty,q1⟩=>?_)
 obtain⟨h1,h2⟩:=XR I1 r1 ty
 refine⟨T,id,pa,slot,hty,h1,h2,?_⟩
 have hA:=ha cpos pins s1 σ H1 _ I1 q1
 rw[hs] at hA ⊢
 refine Calls.callWith_builtin (by show(false || (backTo cpos (starEach es X.env)).any (·.1))=false;rw[hplain]<;>rfl) (Calls.evalArgs_plain ?_)
 exact Ť hA fun us s2 ⟨vs,H2,I2,r2,q2⟩=>hm pins s2 σ H2 x vs v us Q I2 r1 r2 q2
end
end L2
namespace L2
open PySem PySem.Spec PyProof.Rows
def MtM(X:Cx)(id:String)(r:V→List V→Hp→VK→Prop):Prop:=
 ∀(pins:List (Addr×Obj)) (s:Shared) (σ:St) (H:Hp) (x:V) (xs:List V) (v:Value) (us:List Value) (Q:VK),Inv X pins σ H s→RelV x v→Vals xs us→r x xs H Q→
  wpAny (model X.prog X.w) X.A (call (.builtin id) (v::us)) (EP X pins σ Q) X.xe s
theorem Vals.one:∀{x:V} {us:List Value},Vals [x] us→∃u,us=[u]∧RelV x u
 |_,_,.cons r .nil=>⟨_,rfl,r⟩
section
variable{X:Cx}{pins:List (Addr×Obj)}{σ:St}{H:Hp}{s:Shared}{l b:Addr}{xs ys zs:List V}
theorem Inv.Zc5{its its':List Value}{n:Nat}{f:Array Value→Array Value}{t':Nat}(I:Inv X pins σ H s)(hH:H l=some (.lst xs))
 (e:s.heap.get? l=some {cls:=.type "list",data:=.seq its.toArray n})(hf:f its.toArray=its'.toArray)(hv:Vals ys its')(hz:ys.length≤sizeLine) :
 Inv X pins σ (upd H l (.lst ys)) {s with heap:=s.heap.update l (Obj.mapSeq f),toks:=t'}:=by
 have q:=PySem.IsL.update e f
 rw[hf] at q
 refine I.write (x:=l) (e:=l) (by rw[hH];exact trivial) (.inl rfl) (fun b' u hb hu=>(Heap.get?_update_other s.heap (Obj.mapSeq f) (Ne.symm hb)).trans hu) ⟨_,q⟩ ?_
 exact⟨hz,its',_,hv,q⟩
theorem Inv.Zkx{its:List Value}{t':Nat}(I:Inv X pins σ H s)(hv:Vals ys its)(hz:ys.length≤sizeLine) :
 Inv X pins σ (upd H s.heap.objs.size (.lst ys)) {s with heap:=s.heap.push {cls:=.type "list",data:=.seq its.toArray},toks:=t'}:=
 I.laid (fun _ _ q=>Heap.get?_push_of_some _ q) (Nat.le_refl _) ⟨hz,its,0,hv,Heap.get?_push_size _ rfl⟩
theorem Inv.fresh(I:Inv X pins σ H s):H s.heap.objs.size=none:=I.hok.fresh (Nat.le_refl _)
theorem Inv.X_(I:Inv X pins σ H s)(hH:H l=some (.lst xs)):xs.length≤sizeLine∧∃(its:List Value) (n:Nat),Vals xs its∧xs.length=its.length∧s.heap.get? l=some {cls:=.type "list",data:=.seq its.toArray n}:=by
 obtain⟨z,its,n,r,e⟩:=I.hok l _ hH
 exact⟨z,its,n,r,r.length,e⟩
theorem GF{n:Nat}(h:n≤sizeLine):Builtin.List.listTooLong n=false:=by
 unfold Builtin.List.listTooLong
 exact decide_eq_false (by omega)
end
section
variable{X:Cx}
def CV:V→List V→Hp→VK→Prop:=fun x vs H Q=>∃l xs y,x=.ref l∧vs=[y]∧H l=some (.lst xs)∧xs.length<sizeLine∧Q .non (upd H l (.lst (xs ++ [y])))
theorem aK:MtM X "list.append" CV:=by
 intro pins s σ H x vs v us Q I rx rv h
 obtain⟨l,xs,y,rfl,rfl,hH,hz,q⟩:=h
 cases rx
 obtain⟨u,rfl,ru⟩:=rv.one
 obtain⟨z,its,n,r,hl,e⟩:=I.X_ hH
 refine call_meets F.slot_list_append ⟨_,e,rfl⟩ F.entry_list_append (F.args_list_append_2 _ _) (PySem.list_append l its.toArray n u (by rw[List.size_toArray];omega)) ⟨e,?_⟩
 refine⟨.non,_,I.Zc5 (its':=its ++ [u]) hH e (by simp) (r.append (.cons ru .nil)) ?_,rfl,q⟩
 rw[List.length_append,List.length_singleton]
 omega
def CW:V→List V→Hp→VK→Prop:=fun x vs H Q=>∃l b xs zs,x=.ref l∧vs=[.ref b]∧H l=some (.lst xs)∧H b=some (.lst zs)∧xs.length+zs.length≤sizeLine∧Q .non (upd H l (.lst (xs++zs)))
theorem qC:MtM X "list.extend" CW:=by
 intro pins s σ H x vs v us Q I rx rv h
 obtain⟨l,b,xs,zs,rfl,rfl,hH,hB,hz,q⟩:=h
 cases rx
 obtain⟨u,rfl,ru⟩:=rv.one
 cases ru
 obtain⟨z,its,n,r,hl,e⟩:=I.X_ hH
 obtain⟨z2,its2,n2,r2,hl2,e2⟩:=I.X_ hB
 have hsz:its.toArray.size+its2.toArray.size≤sizeLine:=by rw[List.size_toArray,List.size_toArray];omega
 have Zc6:¬(!its.toArray.isEmpty && Builtin.List.listTooLong (its.toArray.size+its2.toArray.size))=true:=by
  rw[GF hsz,Bool.and_false]
  exact Bool.false_ne_true
 refine call_meets F.slot_list_extend ⟨_,e,rfl⟩ F.entry_list_extend (F.args_list_extend_2 _ _)
  (AutoSeq1.list_extend_list_list_0 l its.toArray n b its2.toArray n2 Zc6 (by rw[List.size_toArray];omega) (by omega)) ⟨e,e2,?_⟩
 refine⟨.non,_,I.Zc5 (its':=its++its2) hH e (by simp) (r.append r2) ?_,rfl,q⟩
 rw[List.length_append]
 omega
end
section
variable{prog:Program}{w:World}{A:Around}{E:Value→Shared→Prop}{s:Shared}
end
section
variable{X:Cx}
end
end L2
namespace Att
open PySem PySem.W PySem.Calls PyProof.Rows
theorem lZ{P:Params}{h:Heap}:∀(ns:List Int) (vs:List Value),WellAll P h vs (ns.map WData.int)→IntsAre vs ns:=by
 intro ns
 induction ns with
 |nil=>
  intro vs w
  rw[List.map_nil] at w
  cases w
  exact .nil
 |cons n ns ih=>
  intro vs w
  rw[List.map_cons] at w
  cases w with
  |cons a b=>
   cases a
   exact .cons _ _ (ih _ b)
theorem Et{l:OpenLaw}{n:Nat}(hn:l.most=some n){P:Params}{h:Heap}{args:List WData}{vals:List Value}
 (hpre:l.row.toRowW.claim.pre args=true)(hwl:WellAll P h vals args) :
 ∃a vs ns,vals=[Value.ref a]∧args=[WData.list (ns.map WData.int)]∧h.get? a=some {cls:=.type "list",data:=.seq vs.toArray}∧IntsAre vs ns∧ns.length≤n:=by
 have hsh:WShape.hasAll [] args [.list .int]=true:=(pre_splitW hpre).1
 have hc:l.pre.holds [] {args:=args}=true:=(pre_splitW hpre).2
 obtain⟨d,r,rfl,h1,h2⟩:=hasAllW_cons hsh
 obtain rfl:=hasAllW_nil h2
 obtain⟨xs,rfl,h3⟩:=hasW_list h1
 obtain⟨ns,rfl⟩:=items_int h3
 have hlen:ns.length≤n:=by
  unfold OpenLaw.pre at hc
  have h4:(WTm.not (.lt (.lit (.int (n:Int))) (.len (.arg 0)))).holds [] {args:=[.list (ns.map .int)]}=true:=by
   have h4:=(holds_andW hc).1
   rw[hn] at h4
   exact h4
  have h5:=condW_of h4 (w_not (w_lt w_lit (w_len_list (w_arg rfl))))
  rw[List.length_map] at h5
  refine Nat.le_of_not_lt fun q=>?_
  have q':(n:Int)<((ns.length:Nat):Int):=by omega
  first
   |(rw[decide_eq_true q'] at h5;exact absurd h5 (by decide))
   |(simp at h5;omega)
 cases hwl with
 |cons w1 w2=>
  cases w2
  cases w1 with
  |list ho hall=>exact⟨_,_,ns,rfl,rfl,ho,lZ ns _ hall,hlen⟩
theorem Eu(l:OpenLaw)(args:List WData):l.row.toRowW.claim.post args (.bool true) args=true:=
 postW_of (r:=l.row.toRowW) (X:=(true== true))
  (show WShape.has [] (.bool true) .bool=true by first|rfl|decide|simp[WShape.has,WShape.arms,WShape.armsAll])
  (show(WTm.eq .res (.lit (.bool true))).value [] {args:=args,res:=some (.bool true),after:=args}=some (.bool (true== true)) from w_eq_bool (w_res rfl) w_lit) rfl
theorem vU{l:OpenLaw}{n:Nat}{q:Program}{loose:List Str}{XP:(Str→Option Value)→Heap→Prop}{YP:World→Heap→Prop}{d:DefRec}
 (hn:l.most=some n)(hdf:d.params.defaults=[])
 (call:∀(w:World) (s₀ s₁:Shared) (mg mb:Str→Option Value) (fa:Addr) (o:Obj) (pm cd doc:Value) (a:Addr) (vs:List Value) (ns:List Int),
   Ground q loose [] XP w s₀ mg mb s₁.heap→YP w s₁.heap→
   s₁.heap.get? fa=some o→o.data=.func (docDef d.name d.params d.body d.scope pm cd doc)→s₁.heap.CodeRec cd d.name→mg d.name=some (.ref fa)→
   s₁.heap.get? a=some {cls:=.type "list",data:=.seq vs.toArray}→IntsAre vs ns→ns.length≤n→s₁.gens= #[]→
   codeAny (model l.prog w) callerA (.call (.ref fa) ⟨[.ref a],[]⟩) (fun r s'=>r=.ok (.ret (.bool true))∧OldK s₁.heap s'.heap∧s'.os=s₁.os∧AllBare s'.gens) s₁) :
 WalkO q loose XP YP l.row.toRowW d [] (fun f vs=>PySem.call f vs):=by
 intro w s₀ s₁ mg mb G Y fa o pm cd doc dV kV ho hd hcd hD hmg hg args vals as hpre hlay hrd hwl hlo
 obtain rfl:dV=.none:=Dflts.none hD hdf
 obtain rfl:kV=.none:=Dflts.noKw hD
 obtain⟨a,vs,ns,rfl,rfl,hobj,hints,hlen⟩:=Et hn hpre hwl
 refine enter_call (codeAny_mono (call w s₀ s₁ mg mb fa o pm cd doc a vs ns G Y ho (fd_plain hd) hcd hmg hobj hints hlen hg) fun r s' hq=>?_)
 obtain⟨rfl,h2,h3,h4⟩:=hq
 exact⟨.inl ⟨.bool true,.bool true,[],rfl,fun _=>rfl,.bool true,Eu l _,fun _=>⟨List.Pairwise.nil,fun _ hm=>(nomatch hm)⟩⟩,h2,h3,h4⟩
section
variable{prog:Program}{w:World}{A:Around}{E:Value→Shared→Prop}{s:Shared}{K:Frag}
end
end Att
namespace L2
open PySem PySem.Spec PyProof.Rows
theorem aL:∀{vs:List Value} {ns:List Int},IntsAre vs ns→Vals (ns.map V.int) vs
 |_,_,.nil=>.nil
 |_,_,.cons n t h=>.cons ⟨t,rfl⟩ (aL h)
def Only(H:Hp):Prop:=∀b,H b=none∨∃o xs,H b=some (.cX o (.lst xs))
theorem GJ{P:Program}{w:World}{K:PySem.W.Frag}{mg mb:Str→Option Value}{CX:pO}{k:Nat}{fa a:Addr}{fd:FuncData}{x:Str}{sp:Sp}{s₁:Shared}{vs:List Value}{ns:List Int}
 (KX:K.In s₁.heap)(hns:s₁.heap.Ns mainGlobals mg)(hb:s₁.heap.Ns builtinsNs mb)(hbb:∀x:Str,x≠ "__name__" →mb x=bootBuiltins x)(hlim:s₁.heap.NoLimit)(hg:s₁.gens= #[])
 (ha:s₁.heap.get? a=some {cls:=.type "list",data:=.seq vs.toArray})(hi:IntsAre vs ns)(hl:ns.length≤sizeLine)(hr:bA k callerA)
 (F:∀base:Heap,K.In base→base.Ns mainGlobals mg→į P w K mg base CX k fa fd [x] sp)(hbind:∀(s:Shared) (u:Value),BindsTo s fd ⟨[u],[]⟩ [(x,u)])
 (hsp:∀H:Hp,Only H→aC K H a (ns.map V.int)→sp [.ref a] H (fun v _=>v=.bl true) fun _ _ _=>False)
 (hCX:∀H e s',CX [] H s₁ (fun _ _ _=>False) e s'→False) :
 codeAny (model P w) callerA (.call (.ref fa) ⟨[.ref a],[]⟩) (fun r s'=>r=.ok (.ret (.bool true))∧OldK s₁.heap s'.heap∧s'.os=s₁.os∧AllBare s'.gens) s₁:= by
 have rv:=aL hi
 have lenV:=hi.length
 -- from an abstract heap in which nothing but the script may be tracked
 have core:∀H:Hp,Only H→aC K H a (ns.map V.int)→fG P w H s₁.heap→(∀b,H b≠none→b=a)→(H a≠none→K.lookup a=none)→
  codeAny (model P w) callerA (.call (.ref fa) ⟨[.ref a],[]⟩) (fun r s'=>r=.ok (.ret (.bool true))∧OldK s₁.heap s'.heap∧s'.os=s₁.os∧AllBare s'.gens) s₁:= by
  intro H hO hS hok hA hK
  have CZ:∀{b:Addr} {o:Obj},s₁.heap.get? b=some o→H b=none→(sW s₁.heap H).get? b=some o:=fun e n=>Gi e n
  have noA:∀{b:Addr} {o:Obj} {es:Array DictEntry} {ep:Nat},s₁.heap.get? b=some o→o.data=.dict es ep→H b=none:=fun{b o es ep} e d=>by
   cases q:H b with
   |none=>rfl
   |some u=>
    have e':b=a:=hA b (by rw[q];simp)
    subst e'
    rw[ha] at e;cases e
    have d':Data.seq vs.toArray _=Data.dict es ep:=d
    cases d'
  have nsK:∀{b:Addr} {m:Str→Option Value},s₁.heap.Ns b m→(sW s₁.heap H).Ns b m:=fun{b m} ⟨o,es,ep,e,d,r⟩=>⟨o,es,ep,CZ e (noA e d),d,r⟩
  have hKb:K.In (sW s₁.heap H):=fun b o e=>CZ (KX b o e) (by
   cases q:H b with
   |none=>rfl
   |some u=>
    have e':b=a:=hA b (by rw[q];simp)
    subst e'
    rw[hK (by rw[q];simp)] at e;cases e)
  have hM:Mod K mg (sW s₁.heap H):=⟨hKb,nsK hns,⟨mb,nsK hb,hbb⟩,let ⟨mc,h1,h2⟩:=hlim;⟨mc,nsK h1,h2⟩⟩
  have e0:zR P w K mg (sW s₁.heap H) callerA [] s₁ H:=⟨rfl,hM,fun b o e=>QF e,Nat.le_of_eq (Ef _ _),trivial,fun b hb=>absurd (show b∈([]:List Addr) from hb) (by simp),hok,.of_eq hg⟩
  refine codeAny_mono ((F _ hKb (nsK hns)).run callerA [] s₁ H ⟨[.ref a],[]⟩ [.ref a] [.ref a] _ _ hr e0 (hbind s₁ (.ref a)) (.cons rfl .nil) (hsp H hO hS)) fun r s' h=>?_
  cases r with
  |error e=>exact(hCX H e s' h).elim
  |ok fl=>
   cases fl with
   |next=>exact False.elim h
   |brk=>exact False.elim h
   |cont=>exact False.elim h
   |ret u=>
    obtain⟨v,H',os,bare,un,hok',r',q⟩:=h
    have q':v=.bl true:=q
    subst q'
    obtain rfl:u=Value.bool true:=r'
    refine⟨rfl,OldK.of_keep fun b o e=>?_,os,bare⟩
    cases q:H b with
    |none=>exact un.keep b o e q (by intro z;exact absurd (show b∈([]:List Addr) from z) (by simp)) (by simp)
    |some u=>
     rcases hO b with z|⟨ob,xs,z⟩
     ·rw[q] at z;cases z
     ·have z2:=un.iV b ob _ z
      obtain⟨e1,_⟩:=hok b _ z
      obtain⟨e2,_⟩:=hok' b _ z2
      rw[e] at e1;cases e1
      exact e2
 cases hk:K.lookup a with
 |some o=>
  -- the script is one of the module's own objects
  have e:=KX a o hk
  rw[ha] at e
  cases e
  refine core (fun _=>none) (fun _=>.inl rfl) (.inr ⟨_,vs.toArray,_,hk,rfl,rfl,rfl,by rw[List.size_toArray,lenV];exact hl,by simpa using rv⟩) (fun b u z=>by have z':(none:Option HO)=some u:=z;cases z') (fun b z=>absurd rfl z) fun z=>absurd rfl z
 |none=>
  refine core (fun b=>if b=a then some (.cX {cls:=.type "list",data:=.seq vs.toArray} (.lst (ns.map V.int))) else none) (fun b=>?_) (.inl (.inr ⟨{cls:=.type "list",data:=.seq vs.toArray},if_pos rfl⟩)) (fun b u z=>?_) (fun b z=>?_) fun _=>hk
  ·by_cases hb:b=a
   ·exact .inr ⟨_,_,if_pos hb⟩
   ·exact .inl (if_neg hb)
  ·by_cases hb:b=a
   ·have z':=(if_pos hb).symm.trans z
    cases z'
    subst hb
    exact⟨ha,by rw[List.length_map];exact hl,vs,_,rv,ha⟩
   ·have z':=(if_neg hb).symm.trans z
    cases z'
  ·by_cases hb:b=a
   ·exact hb
   ·exact absurd (if_neg hb) z
end L2
namespace L2
open PySem PySem.Spec PyProof.Rows
theorem Ri{l:PySem.W.OpenLaw}{n k:Nat}{q:Program}{loose:List Str}{XP:(Str→Option Value)→Heap→Prop}{YP:World→Heap→Prop}{d:DefRec}{K:Params→PySem.W.Frag}{CX:World→pO}{sp:World→Sp}{x:Str}
 (hn:l.most=some n)(hn2:n≤sizeLine)(hdf:d.params.defaults=[])(hr:bA k callerA)
 (hY:∀(w:World) (h:Heap),YP w h→(K w.params).In h)
 (F:∀(w:World) (mg:Str→Option Value) (fa:Addr) (h:Heap),(K w.params).In h→h.Ns mainGlobals mg→mg d.name=some (.ref fa)→
   ∃fd:FuncData,(∀(s:Shared) (u:Value),BindsTo s fd ⟨[u],[]⟩ [(x,u)])∧
    ∀base:Heap,(K w.params).In base→base.Ns mainGlobals mg→į l.prog w (K w.params) mg base (CX w) k fa fd [x] (sp w))
 (hsp:∀(w:World) (H:Hp) (a:Addr) (ns:List Int),ns.length≤n→Only H→aC (K w.params) H a (ns.map V.int)→sp w [.ref a] H (fun v _=>v=.bl true) fun _ _ _=>False)
 (hCX:∀(w:World) (H:Hp) (s:Shared) (e:Value) (s':Shared),CX w [] H s (fun _ _ _=>False) e s'→False) :
 PySem.W.WalkO q loose XP YP l.row.toRowW d [] (fun f vs=>PySem.call f vs):=by
 refine Att.vU hn hdf fun w s₀ s₁ mg mb fa o pm cd doc a vs ns G Y ho hd hcd hmg hobj hints hlen hg=>?_
 have KX:=hY w _ Y
 obtain⟨fd,hb,hF⟩:=F w mg fa _ KX G.T.g hmg
 exact GJ KX G.T.g G.T.b G.T.builtins G.T.nolimit hg hobj hints (Nat.le_trans hlen hn2) hr hF hb (fun H hO hS=>hsp w H a ns hlen hO hS) fun H e s'=>hCX w H s₁ e s'
end L2
namespace L2
open PySem PySem.Spec PyProof.Rows
def inClass(s:Stmt)(j:Nat):Stmt:=match s with
 | .ClassDef _ _ _ body _ _ _ _ _ _ _=>body.getD j (.Pass ⟨0,0,0,0⟩)
 |_=>.Pass ⟨0,0,0,0⟩
def gM(s:Stmt):Arguments:=match s with
 | .FunctionDef _ a _ _ _ _ _ _ _ _=>a
 |_=> {posonlyargs:=[],args:=[],vararg:=none,kwonlyargs:=[],kw_defaults:=[],kwarg:=none,defaults:=[]}
def bI(s:Stmt):List Stmt:=match s with
 | .FunctionDef _ _ b _ _ _ _ _ _ _=>b
 |_=>[]
def ĉ(s:Stmt):Scope:=match s with
 | .FunctionDef _ _ _ _ _ _ sc _ _ _=>sc
 |_=> {kind:=.function,names:=[],isGenerator:=false,isCoroutine:=false}
structure Ŵ(K:PySem.W.Frag)(x qual:Str)(st:Stmt)(f:Addr)(fd:FuncData):Prop where
 ex:∃(oc:Value) (od:Option Addr) (kV doc pm:Value) (an:Option Addr) (cdv ct:Value) (osl:Array (Option Value)),
   fd=PySem.W.fnOf x qual (gM st) (bI st) (ĉ st) .none kV doc pm an cdv ct∧K.lookup f=some ⟨oc,od,.func fd,osl⟩∧PySem.W.codeIn K cdv qual=true
 kp:PySem.W.keepIn K (.ref f)=true
section
variable{P:Program}{w:World}{K:PySem.W.Frag}{mg:Str→Option Value}{base:Heap}
theorem Ŵ.binds{x qual:Str}{st:Stmt}{f:Addr}{fd:FuncData}{ps:List Str}(F:Ŵ K x qual st f fd)
 (h:∀(kV doc pm:Value) (an:Option Addr) (cdv ct:Value) (us:List Value),us.length=ps.length→bindArgs (PySem.W.fnOf x qual (gM st) (bI st) (ĉ st) .none kV doc pm an cdv ct) ⟨us,[]⟩=pure (ps.zip us)):Binds K fd ps []:=by
 obtain⟨oc,od,kV,doc,pm,an,cdv,ct,osl,rfl,lk,hcd⟩:=F.ex
 exact .all (h kV doc pm an cdv ct)
theorem Ġ{x qual:Str}{st:Stmt}{f:Addr}{oc:Value}{od an:Option Addr}{osl:Array (Option Value)}{kV doc pm cdv ct:Value}(l:K.lookup f=some ⟨oc,od,.func (PySem.W.fnOf x qual (gM st) (bI st) (ĉ st) .none kV doc pm an cdv ct),osl⟩)
 (c:PySem.W.codeIn K cdv qual=true)(k:PySem.W.keepIn K (.ref f)=true):Ŵ K x qual st f (PySem.W.fnOf x qual (gM st) (bI st) (ĉ st) .none kV doc pm an cdv ct):=⟨⟨oc,od,kV,doc,pm,an,cdv,ct,osl,rfl,l,c⟩,k⟩
end
section
variable{X:Cx}
theorem pv(i:Nat){x:Str}{pos:Pos}(hN:X.N[i]?=some x:=by rfl)(hv:Gd X.env.scope x:=by first|exact Or.inl rfl|exact Or.inr (Or.inl rfl)|exact Or.inr (Or.inr rfl))(hd:(x== ("__debug__" :Str))=false:=by decide)
 (hcd:(x== ("__classdict__" :Str))=false:=by decide):PE X (.Name x pos) (sY i):=fL hN hv hd hcd
end
def Same(H H':Hp):Prop:=∀b o,H b=some o→H' b=some o
theorem Same.refl(H:Hp):Same H H:=fun _ _ h=>h
theorem Same.trans{H H1 H2:Hp}(a:Same H H1)(b:Same H1 H2):Same H H2:=fun c o h=>b c o (a c o h)
theorem Same.free{H H':Hp}(e:Same H H'){l:Addr}(h:H' l=Option.none):H l=Option.none:=by
 cases q:H l with
 |none=>rfl
 |some o=>
  rw[e l o q] at h
  cases h
theorem Same.seq{K:PySem.W.Frag}{H H':Hp}{a:Addr}{xs:List V}(e:Same H H')(h:aC K H a xs):aC K H' a xs:=by
 rcases h with(h|⟨o,h⟩)|h
 ·exact .inl (.inl (e _ _ h))
 ·exact .inl (.inr ⟨o,e _ _ h⟩)
 ·exact .inr h
end L2
namespace M2
open PySem PySem.Spec PyProof.Rows L2
section
variable{X:Cx}{a b c e:Expr}{ta tb tc te:TE}{pos:Pos}
theorem PE.wk{t t':TE}(h:PE X e t)(i:∀σ H Q,t' σ H Q→t σ H Q):PE X e t':=fun pins s σ H Q I q=>h pins s σ H Q I (i σ H Q q)
theorem PS.wk{st:Stmt}{t t':TS}(h:PS X st t)(i:∀D σ H,t' D σ H→t D σ H):PS X st t':=fun pins s σ H D I q=>h pins s σ H D I (i D σ H q)
theorem ao.wk{f:Value→Value→Sem Value}{r r':R2}(h:ao X f r)(i:∀x y H Q,r' x y H Q→r x y H Q):ao X f r':=fun pins s σ H x y v u Q I rx ry q=>h pins s σ H x y v u Q I rx ry (i x y H Q q)
theorem QV.wk{f:Value→Sem Value}{r r':V→Hp→VK→Prop}(h:QV X f r)(i:∀x H Q,r' x H Q→r x H Q):QV X f r':=fun pins s σ H x v Q I rx q=>h pins s σ H x v Q I rx (i x H Q q)
theorem Š.wk{f:Value}{r r':List V→Hp→VK→Prop}(h:Š X f r)(i:∀xs H Q,r' xs H Q→r xs H Q):Š X f r':=fun pins s σ H xs us Q I r q=>h pins s σ H xs us Q I r (i xs H Q q)
theorem zT.wk{r r':R2}(h:zT X r)(i:∀x y H Q,r' x y H Q→r x y H Q):zT X r':=fun va sl pins s σ H x y v u Q I rx ry q=>h va sl pins s σ H x y v u Q I rx ry (i x y H Q q)
theorem CP.wk{r r':V→Option Int→Option Int→Hp→VK→Prop}(h:CP X r)(i:∀x lo hi H Q,r' x lo hi H Q→r x lo hi H Q):CP X r':=fun pins s σ H x v vl vu lo hi sl Q I rx hs pl pu q=>h pins s σ H x v vl vu lo hi sl Q I rx hs pl pu (i x lo hi H Q q)
def Yb(i:Nat):TE:=fun σ H Q=>match σ[i]? with
 |some (some v)=>Q v H
 |_=>False
theorem Rj{i:Nat}{σ:L2.St}{H:Hp}{Q:VK}(h:Yb i σ H Q):sY i σ H Q:=by
 unfold Yb at h
 split at h
 ·exact⟨_,by assumption,h⟩
 ·exact h.elim
theorem mv(i:Nat){x:Str}{pos:Pos}(hN:X.N[i]?=some x:=by rfl)(hv:Gd X.env.scope x:=by first|exact Or.inl rfl|exact Or.inr (Or.inl rfl)|exact Or.inr (Or.inr rfl))(hd:(x== ("__debug__" :Str))=false:=by decide)
 (hcd:(x== ("__classdict__" :Str))=false:=by decide):PE X (.Name x pos) (Yb i):=PE.wk (fL hN hv hd hcd) fun _ _ _ h=>Rj h
def bOf(x:V)(k:Bool→Prop):Prop:=match x with
 | .bl c=>k c
 |_=>False
theorem tH{x:V}{k:Bool→Prop}(h:bOf x k):∃c,x=.bl c∧k c:=by
 cases x with
 |bl c=>exact⟨c,rfl,h⟩
 |_=>exact h.elim
def Uk(t:TE):TT:=fun σ H Q=>t σ H fun x H1=>bOf x fun c=>Q c H1
theorem Yc{op:CmpOp}{r:R2}(ho:ao X (compareOp op) r)(ha:PE X a ta)(hb:PE X b tb)(hm:behindInMarks op b=false):PT X (.Compare a [op] [b] pos) (Uk (tOp r ta tb)):=by
 intro pins s σ H Q I h
 refine wpAny_isTrue_Compare1 (Ť (ha pins s σ H _ I h) fun v s1 ⟨x,H1,I1,r1,q1⟩=>Ť (hb pins s1 σ H1 _ I1 q1) fun u s2 ⟨y,H2,I2,r2,q2⟩=>
  Ť (ho pins s2 σ H2 x y v u _ I2 r1 r2 q2) fun c s3 ⟨z,H3,I3,r3,q3⟩=>?_) hm
 obtain⟨k,e,q3⟩:=tH q3
 subst e
 cases r3
 exact wpAny_truthy_bool ⟨H3,I3,q3⟩
def GK(r r':R2)(ta tb tc:TE):TE:=fun σ H Q=>ta σ H fun x H1=>tb σ H1 fun y H2=>r x y H2 fun z H3=>bOf z fun k=>
 (if k=true then tc σ H3 fun w' H4=>r' y w' H4 Q else Q (.bl false) H3)
theorem GP{op op':CmpOp}{r r':R2}(ho:ao X (compareOp op) r)(ho':ao X (compareOp op') r')(ha:PE X a ta)(hb:PE X b tb)(hc:PE X c tc)
 (hm:lastMarks [op,op'] [b,c]=false:=by with_unfolding_all rfl):PE X (.Compare a [op,op'] [b,c] pos) (GK r r' ta tb tc):=by
 intro pins s σ H Q I h
 refine Compare_chain (Ť (ha pins s σ H _ I h) fun v s1 ⟨x,H1,I1,r1,q1⟩=>chain_link (Ť (hb pins s1 σ H1 _ I1 q1) fun u s2 ⟨y,H2,I2,r2,q2⟩=>
  Ť (ho pins s2 σ H2 x y v u _ I2 r1 r2 q2) fun d s3 ⟨z,H3,I3,r3,q3⟩=>?_)) hm
 obtain⟨k,e,q3⟩:=tH q3
 subst e
 cases r3
 refine wpAny_truthy_bool ?_
 cases k with
 |false=>exact ite_ff ⟨.bl false,H3,I3,rfl,q3⟩
 |true=>exact ite_tt (chain_last (Ť (hc pins s3 σ H3 _ I3 q3) fun w' s4 ⟨z',H4,I4,r4,q4⟩=>ho' pins s4 σ H4 y z' u w' Q I4 r2 r4 q4))
def Zc7(ta tb:TE):TE:=fun σ H Q=>ta σ H fun x H1=>bOf x fun c=>if c=true then tb σ H1 Q else Q (.bl false) H1
def Zc8(ta:TE):TE:=fun σ H Q=>ta σ H fun x H1=>bOf x fun c=>Q (.bl (!c)) H1
variable{rest:List Expr}
theorem Yd(ha:PE X a ta)(hb:PE X (.BoolOp .And (b::rest) pos) tb):PE X (.BoolOp .And (a::b::rest) pos) (Zc7 ta tb):=by
 intro pins s σ H Q I h
 refine BoolOp_and (Ť (ha pins s σ H _ I h) fun v s1 ⟨x,H1,I1,r1,q1⟩=>?_)
 obtain⟨c,rfl,q1⟩:=tH q1
 cases r1
 refine wpAny_truthy_bool ?_
 cases c with
 |true=>exact hb pins s1 σ H1 Q I1 q1
 |false=>exact⟨.bl false,H1,I1,rfl,q1⟩
theorem Ye(ha:PE X a ta):PE X (.UnaryOp .Not a pos) (Zc8 ta):=by
 intro pins s σ H Q I h
 refine UnaryOp_ (Ť (ha pins s σ H _ I h) fun v s1 ⟨x,H1,I1,r1,q1⟩=>?_)
 obtain⟨c,rfl,q1⟩:=tH q1
 cases r1
 exact not_of (wpAny_truthy_bool ⟨.bl (!c),H1,I1,rfl,q1⟩)
def mI(C:Int→Int→Prop)(g:Int→Int→V):R2:=fun x y H Q=>match x,y with
 | .int i,.int j=>C i j∧Q (g i j) H
 |_,_=>False
def zV(g:Int→Int→V):R2:=fun x y H Q=>match x,y with
 | .int i,.int j=>Q (g i j) H
 |_,_=>False
theorem qD{C:Int→Int→Prop}{g:Int→Int→V}(x y:V)(H:Hp)(Q:VK)(h:mI C g x y H Q):rI C g x y H Q:=by
 cases x with
 |int i=>
  cases y with
  |int j=>exact⟨i,j,rfl,rfl,h.1,h.2⟩
  |_=>exact h.elim
 |_=>exact h.elim
theorem jT{g:Int→Int→V}(x y:V)(H:Hp)(Q:VK)(h:zV g x y H Q):Qw g x y H Q:=by
 cases x with
 |int i=>
  cases y with
  |int j=>exact⟨i,j,rfl,rfl,h⟩
  |_=>exact h.elim
 |_=>exact h.elim
def Zc9:R2:=fun x y H Q=>match x,y with
 | .int i,.int j=>Q (.int (i+j)) H
 | .str i,.str j=>i.length+j.length≤sizeLine∧Q (.str (i++j)) H
 |_,_=>False
theorem Yg:ao X (binaryOp .Add) Zc9:=ao.wk (Xm.or zK) fun x y H Q h=>by
 cases x with
 |int i=>
  cases y with
  |int j=>exact .inl ⟨i,j,rfl,rfl,h⟩
  |_=>exact h.elim
 |str i=>
  cases y with
  |str j=>exact .inr ⟨i,j,rfl,rfl,h.1,h.2⟩
  |_=>exact h.elim
 |_=>exact h.elim
theorem Œ:ao X (binaryOp .Sub) (zV fun i j=>.int (i-j)):=ao.wk Xn jT
def qF(i j:Int):Prop:=Xl i j∨(Builtin.Int.intBits i≤1048576∧Builtin.Int.intBits j≤1048576)
theorem qF.ok{i j:Int}(h:qF i j):IntMulOk i j:=by
 rcases h with h|⟨h1,h2⟩
 ·exact h.ok
 ·exact IntMulOk.of_le h1 h2 (by decide)
theorem Yh:ao X (binaryOp .Mult) (mI qF fun i j=>.int (i*j)):=ao.wk (CN (C:=qF) (g:=fun i j=>i*j) fun _ _ _ _ _ _ _ hc q=>mul_int q hc.ok) qD
def Ew(_ j:Int):Prop:=j≠0∧Builtin.Int.intBits j≤8000
theorem Ew.py{i j:Int}(h:Ew i j):Builtin.divisionGoesByPylong i j=false:=by
 refine PyProof.noPylong_of_log2 ?_
 have hb:=intBits_le_iff.mp h.2
 have h0:j.natAbs≠0:=by have:=h.1;omega
 exact Nat.lt_of_lt_of_le ((Nat.log2_lt h0).mpr hb) (by decide)
theorem š:ao X (binaryOp .FloorDiv) (mI Ew fun i j=>.int (i.fdiv j)):=ao.wk (CN (C:=Ew) (g:=fun i j=>i.fdiv j) fun _ _ _ _ _ _ _ hc q=>floordiv_int hc.1 q (.inl hc.py)) qD
theorem Ń:ao X (binaryOp .Mod) (mI (fun _ j=>j≠0) fun i j=>.int (i.fmod j)):=ao.wk QX qD
theorem nA:ao X (binaryOp .Pow) (mI Em fun i j=>.int (i ^ j.toNat)):=ao.wk Xo qD
theorem g_:ao X (compareOp .Lt) (zV fun i j=>.bl (decide (i<j))):=ao.wk ZcV jT
theorem h_:ao X (compareOp .LtE) (zV fun i j=>.bl (decide (i≤j))):=ao.wk ZcW jT
theorem Ul:ao X (compareOp .Gt) (zV fun i j=>.bl (decide (j<i))):=ao.wk ZcX jT
theorem Zc_:ao X (compareOp .GtE) (zV fun i j=>.bl (decide (j≤i))):=ao.wk ZcY jT
def mU(g:Int→V):V→Hp→VK→Prop:=fun x H Q=>match x with
 | .int i=>Q (g i) H
 |_=>False
theorem fU:QV X (unaryOp .USub) (mU fun i=>.int (-i)):=QV.wk Xu fun x H Q h=>by
 cases x with
 |int i=>exact⟨i,rfl,h⟩
 |_=>exact h.elim
def mAbs:List V→Hp→VK→Prop:=fun xs H Q=>match xs with
 | [.int i]=>Q (.int (if i<0 then -i else i)) H
 |_=>False
theorem Yi:Š X (.builtin "abs") mAbs:=Š.wk Gv fun xs H Q h=>by
 unfold mAbs at h
 split at h
 ·exact⟨_,rfl,h⟩
 ·exact h.elim
def GQ:List V→Hp→VK→Prop:=fun xs H Q=>match xs with
 | [.int i,.int j]=>Q (.int (if j<i then j else i)) H
 |_=>False
theorem tK(hc:X.calm=true):Š X (.builtin "min") GQ:=Š.wk (Eo hc) fun xs H Q h=>by
 unfold GQ at h
 split at h
 ·exact⟨_,_,rfl,h⟩
 ·exact h.elim
def GR:List V→Hp→VK→Prop:=fun xs H Q=>match xs with
 | [.int i,.int j]=>Q (.int (if j>i then j else i)) H
 |_=>False
theorem Rk(hc:X.calm=true):Š X (.builtin "max") GR:=Š.wk (En hc) fun xs H Q h=>by
 unfold GR at h
 split at h
 ·exact⟨_,_,rfl,h⟩
 ·exact h.elim
def Yj(K:PySem.W.Frag):List V→Hp→VK→Prop:=fun xs H Q=>match xs with
 | [.str y]=>y.length≤sizeLine∧Q (.int (y.length:Int)) H
 | [.ref p]=>∃ys,(aC K H p ys∨cY K H p ys)∧Q (.int (ys.length:Int)) H
 |_=>False
theorem dU:Š X (.builtin "len") (Yj X.K):=Š.wk Gw fun xs H Q h=>by
 unfold Yj at h
 split at h
 ·exact⟨_,_,rfl,⟨h.1,rfl⟩,h.2⟩
 ·obtain⟨ys,h1,h2⟩:=h
  refine⟨_,ys.length,rfl,?_,h2⟩
  rcases h1 with h1|h1
  ·exact .inl ⟨ys,h1,rfl⟩
  ·exact .inr ⟨ys,h1,rfl⟩
 ·exact h.elim
def mIx(K:PySem.W.Frag):R2:=fun x y H Q=>match x,y with
 | .ref p,.int i=>∃xs v,(aC K H p xs∨cY K H p xs)∧sZ xs i=some v∧Q v H
 | .str z,.int i=>∃c,z.length≤sizeLine∧sZ z.cps.toList i=some c∧Q (.str ⟨#[c]⟩) H
 |_,_=>False
theorem Ē:zT X (mIx X.K):=zT.wk XM fun x y H Q h=>by
 cases x with
 |ref p=>
  cases y with
  |int i=>
   obtain⟨xs,v,h1,h2,h3⟩:=h
   rcases h1 with h1|h1
   ·exact .inl ⟨p,xs,i,v,rfl,rfl,h1,h2,h3⟩
   ·exact .inr (.inl ⟨p,xs,i,v,rfl,rfl,h1,h2,h3⟩)
  |_=>exact h.elim
 |str z=>
  cases y with
  |int i=>
   obtain⟨c,h1,h2,h3⟩:=h
   exact .inr (.inr ⟨z,i,c,rfl,rfl,h1,h2,h3⟩)
  |_=>exact h.elim
 |_=>exact h.elim
def iOf(x:V)(k:Int→Prop):Prop:=match x with
 | .int i=>k i
 |_=>False
def Zda(t:TE):TO:=fun σ H Q=>t σ H fun x H1=>iOf x fun i=>Q (some i) H1
theorem GX(h:PE X e te):PO X (some e) (Zda te):=by
 intro pins s σ H Q I hw
 rw[evalPart_some]
 refine Ť (h pins s σ H _ I hw) fun u s1 ⟨x,H1,I1,r1,q1⟩=>?_
 cases x with
 |int i=>
  obtain⟨t,rfl⟩:=r1
  exact⟨some i,H1,I1,.int i t,q1⟩
 |_=>exact q1.elim
def Zky(K:PySem.W.Frag):V→Option Int→Option Int→Hp→VK→Prop:=fun x lo hi H Q=>match x with
 | .ref a=>∃xs,aC K H a xs∧∀p,H p=none→Q (.ref p) (upd H p (.lst (vQ xs lo hi)))
 |_=>False
theorem GZ:CP X (Zky X.K):=CP.wk Rh fun x lo hi H Q h=>by
 cases x with
 |ref a=>
  obtain⟨xs,h1,h2⟩:=h
  exact⟨a,xs,rfl,h1,h2⟩
 |_=>exact h.elim
end
end M2
namespace M2
open PySem PySem.Spec PyProof.Rows L2
section
variable{X:Cx}{tg:Expr}
end
mutual
def Rp(K:PySem.W.Frag)(H:Hp):PyData→V→Prop
 | .none,v=>v=.non
 | .bool b,v=>v=.bl b
 | .int i,v=>v=.int i
 | .str x,v=>v=.str x
 | .tuple ds,v=>∃a xs,v=.ref a∧cY K H a xs∧jU K H ds xs
 | .list ds,v=>∃a xs,v=.ref a∧aC K H a xs∧jU K H ds xs
 | .dict _,_=>False
def jU(K:PySem.W.Frag)(H:Hp):List PyData→List V→Prop
 | [],xs=>xs=[]
 |d::ds,xs=>∃x r,xs=x::r∧Rp K H d x∧jU K H ds r
end
theorem Same.tup{K:PySem.W.Frag}{H H':Hp}{a:Addr}{xs:List V}(e:Same H H')(h:cY K H a xs):cY K H' a xs:=by
 rcases h with(h|⟨o,h⟩)|h
 ·exact .inl (.inl (e _ _ h))
 ·exact .inl (.inr ⟨o,e _ _ h⟩)
 ·exact .inr h
theorem Same.upd{H:Hp}{p:Addr}{o:HO}(h:H p=none):Same H (upd H p o):=fun b u e=>by
 rw[ğ (Ļ e h)]
 exact e
mutual
theorem Rp.same{K:PySem.W.Frag}{H H':Hp}(e:Same H H'):∀(d:PyData) (v:V),Rp K H d v→Rp K H' d v
 | .none,_,h=>by unfold Rp at h ⊢;exact h
 | .bool _,_,h=>by unfold Rp at h ⊢;exact h
 | .int _,_,h=>by unfold Rp at h ⊢;exact h
 | .str _,_,h=>by unfold Rp at h ⊢;exact h
 | .tuple ds,_,h=>by
   unfold Rp at h ⊢
   obtain⟨a,xs,h1,h2,h3⟩:=h
   exact⟨a,xs,h1,Same.tup e h2,jU.same e ds xs h3⟩
 | .list ds,_,h=>by
   unfold Rp at h ⊢
   obtain⟨a,xs,h1,h2,h3⟩:=h
   exact⟨a,xs,h1,e.seq h2,jU.same e ds xs h3⟩
 | .dict _,_,h=>by unfold Rp at h;exact h.elim
theorem jU.same{K:PySem.W.Frag}{H H':Hp}(e:Same H H'):∀(ds:List PyData) (xs:List V),jU K H ds xs→jU K H' ds xs
 | [],_,h=>by unfold jU at h ⊢;exact h
 |d::ds,_,h=>by
  unfold jU at h ⊢
  obtain⟨x,r,h1,h2,h3⟩:=h
  exact⟨x,r,h1,Rp.same e d x h2,jU.same e ds r h3⟩
end
section
variable{X:Cx}{pins:List (Addr×Obj)}{σ:L2.St}{H:Hp}{s:Shared}
mutual
theorem Rp.reads(I:Inv X pins σ H s):∀(d:PyData) (v:V) (u:Value),Rp X.K H d v→RelV v u→∃as,Reads s.heap u d as
 | .none,v,u,h,r=>by
   unfold Rp at h;subst h;cases r;exact⟨_,.none⟩
 | .bool b,v,u,h,r=>by
   unfold Rp at h;subst h;cases r;exact⟨_,.bool b⟩
 | .int i,v,u,h,r=>by
   unfold Rp at h;subst h;obtain⟨t,rfl⟩:=r;exact⟨_,.int i t⟩
 | .str x,v,u,h,r=>by
   unfold Rp at h;subst h;obtain⟨t,rfl⟩:=r;exact⟨_,.str x t⟩
 | .tuple ds,v,u,h,r=>by
   unfold Rp at h
   obtain⟨a,xs,h1,h2,h3⟩:=h
   subst h1
   cases r
   obtain⟨its,rv,⟨o,e,hc,n,hd⟩,hz⟩:=I.tuple h2
   obtain⟨as,ra⟩:=jU.reads I ds xs its h3 rv
   exact⟨_,.tuple e hc hd (by simpa using ra)⟩
 | .list ds,v,u,h,r=>by
   unfold Rp at h
   obtain⟨a,xs,h1,h2,h3⟩:=h
   subst h1
   cases r
   obtain⟨its,rv,⟨o,n,e,hc,hdd,hd⟩,hz⟩:=I.list h2
   obtain⟨as,ra⟩:=jU.reads I ds xs its h3 rv
   exact⟨_,.list e hc hd (by simpa using ra)⟩
 | .dict _,_,_,h,_=>by unfold Rp at h;exact h.elim
theorem jU.reads(I:Inv X pins σ H s):∀(ds:List PyData) (xs:List V) (us:List Value),jU X.K H ds xs→Vals xs us→∃as,ReadsAll s.heap us ds as
 | [],xs,us,h,r=>by
   unfold jU at h;subst h;cases r;exact⟨_,.nil⟩
 |d::ds,xs,us,h,r=>by
  unfold jU at h
  obtain⟨x,q,h1,h2,h3⟩:=h
  subst h1
  cases r with
  |cons r1 r2=>
   obtain⟨as,ra⟩:=Rp.reads I d x _ h2 r1
   obtain⟨bs,rb⟩:=jU.reads I ds q _ h3 r2
   exact⟨_,.cons ra rb⟩
end
end
def Rm(K:PySem.W.Frag)(neg:Bool):R2:=fun x y H Q=>∃d e,Rp K H d x∧Rp K H e y∧d.canLay0=true∧e.canLay0=true∧min d.depth e.depth≤60∧Q (.bl (if neg then !PyData.eqv d e else PyData.eqv d e)) H
section
variable{X:Cx}
theorem Ş(hu:X.A.units+64<cLine):ao X (compareOp .Eq) (Rm X.K false):=by
 intro pins s σ H x y v u Q I rx ry h
 obtain⟨d,e,h1,h2,h3,h4,h5,q⟩:=h
 obtain⟨as,ra⟩:=Rp.reads I d x v h1 rx
 obtain⟨bs,rb⟩:=Rp.reads I e y u h2 ry
 exact SeqAt.compareEq_reads ra rb h3 h4 (by omega) ⟨.bl _,H,I,rfl,q⟩
theorem iY(hu:X.A.units+64<cLine):ao X (compareOp .NotEq) (Rm X.K true):=by
 intro pins s σ H x y v u Q I rx ry h
 obtain⟨d,e,h1,h2,h3,h4,h5,q⟩:=h
 obtain⟨as,ra⟩:=Rp.reads I d x v h1 rx
 obtain⟨bs,rb⟩:=Rp.reads I e y u h2 ry
 exact SeqAt.compareNe_reads ra rb h3 h4 (by omega) ⟨.bl _,H,I,rfl,q⟩
end
section
variable{K:PySem.W.Frag}
end
end M2
namespace M3
open PySem PySem.Spec PyProof.Rows L2 M2
theorem C_{P:Program}{w:World}{H:Hp}{h h':Heap}{C:Addr}(x:fG P w H h)(hC:H C=none)(k:∀b u,b≠C→h.get? b=some u→h'.get? b=some u):fG P w H h':=fun a o e=>
 (x a o e).stay (fun b u hb q=>k b u (by
   rcases hb with hb|hb
   ·rw[hb];exact Ļ e hC
   ·exact Ļ hb hC) q) (fun _ q=>q) fun _ _ q=>q
theorem iZ{env:Env}:∀(ns:List (Str×NameKind)) (cs:List (Str×Addr)),(∀y∈ns,y.2=.free→∃c,env.cells.lookup y.1=some c)→(∀x c,cs.lookup x=some c→env.cells.lookup x=some c)→
 ∃cl,(forIn ns cs (fun(x:Str×NameKind) r=>if(x.2== .free)=true then(do let c ←cellOf env x.1;pure (ForInStep.yield ((x.1,c)::r))) else pure (ForInStep.yield r)):Sem (List (Str×Addr)))=pure cl∧
  (∀x c,cl.lookup x=some c→env.cells.lookup x=some c)∧(∀x,(∃c,cs.lookup x=some c)→∃c,cl.lookup x=some c)∧∀y∈ns,y.2=.free→∃c,cl.lookup y.1=some c
 | [],cs,_,h2=>⟨cs,rfl,h2,fun _ z=>z,fun _ z=>nomatch z⟩
 |(n,k)::ns,cs,h1,h2=>by
  by_cases hk:k=.free
  ·subst hk
   obtain⟨c,hc⟩:=h1 (n,.free) List.mem_cons_self rfl
   have e:cellOf env n=pure c:=by unfold cellOf;rw[hc]
   have h2':∀x d,((n,c)::cs).lookup x=some d→env.cells.lookup x=some d:=fun x d q=>by
    rw[List.lookup_cons] at q
    cases hx:x== n with
    |true=>
     rw[hx] at q
     have:x=n:=eq_of_beq hx
     subst this
     cases q
     exact hc
    |false=>
     rw[hx] at q
     exact h2 x d q
   obtain⟨cl,q1,q2,q3,q4⟩:=iZ ns ((n,c)::cs) (fun y hy=>h1 y (List.mem_cons_of_mem _ hy)) h2'
   refine⟨cl,?_,q2,fun x ⟨d,hd⟩=>q3 x ?_,fun y hy hf=>?_⟩
   ·rw[List.forIn_cons]
    simp only[beq_self_eq_true,if_true,e,pure_bind]
    exact q1
   ·rw[List.lookup_cons]
    cases hx:x== n with
    |true=>exact⟨c,rfl⟩
    |false=>exact⟨d,hd⟩
   ·rcases List.mem_cons.mp hy with rfl|hy
    ·exact q3 n ⟨c,by rw[List.lookup_cons,beq_self_eq_true]⟩
    ·exact q4 y hy hf
  ·have hb:(k== NameKind.free)=false:=by simpa using hk
   obtain⟨cl,q1,q2,q3,q4⟩:=iZ ns cs (fun y hy=>h1 y (List.mem_cons_of_mem _ hy)) h2
   refine⟨cl,?_,q2,q3,fun y hy hf=>?_⟩
   ·rw[List.forIn_cons]
    simp only[hb,Bool.false_eq_true,if_false,pure_bind]
    exact q1
   ·rcases List.mem_cons.mp hy with rfl|hy
    ·exact absurd hf hk
    ·exact q4 y hy hf
theorem jm{scope:Scope}{env:Env}(h:∀y∈scope.names,y.2=.free→∃c,env.cells.lookup y.1=some c) :
 ∃cl,closureFor scope env=pure cl∧(∀x c,cl.lookup x=some c→env.cells.lookup x=some c)∧∀y∈scope.names,y.2=.free→∃c,cl.lookup y.1=some c:=by
 obtain⟨cl,q1,q2,_,q4⟩:=iZ (env:=env) scope.names [] h (fun x c z=>by simp at z)
 refine⟨cl,?_,q2,q4⟩
 unfold closureFor
 have e:(forIn scope.names [] (fun(x:Str×NameKind) (r:List (Str×Addr))=>match x with
  |(name,kind)=>if(kind== .free)=true then(do let a ←cellOf env name;pure (ForInStep.yield ((name,a)::r))) else pure (ForInStep.yield r)):Sem (List (Str×Addr)))=pure cl:=q1
 first
  |(simp only[bind_pure];exact q1)
  |(rw[show ∀(t:Sem (List (Str×Addr))),(do let r ←t;pure r)=t from fun t=>by simp];exact q1)
  |(simp only[q1,pure_bind])
def gO(X:Cx)(N':List Str)(scope:Scope)(cl:List (Str×Addr))(C:Addr)(s:Shared)(H:Hp)(fp:List Addr):Cx where
 prog:=X.prog
 w:=X.w
 K:=X.K
 mg:=X.mg
 base:=X.base
 A:=X.A
 N:=N'
 s₀:= s
 H₀:= H
 env:=compEnvC scope cl C X.env
 outer:=X.stack
 stack:=X.stack
 ex:=fp
 fn:=fun x=>scope.names.lookup x== some .cell
 calm:=X.calm
 pn:=[]
 xe:=fun _ _=>False
def nC(X:Cx)(sc scope:Scope):List Str→List Nat→Prop
 |x::xs,j::js=>X.N[j]?=some x∧(scope.names.lookup x=some .free∧(sc.names.lookup x=some .cell∨sc.names.lookup x=some .free))∧nC X sc scope xs js
 |_,[]=>True
 | [],_::_=>False
def fV(js:List Nat)(nl:Nat)(σ:L2.St):L2.St:=js.map (fun j:Nat=>(σ[j]?).getD none)++List.replicate nl none
theorem qG{X:Cx}{sc scope:Scope}{σ:L2.St}{nl:Nat}:∀{N':List Str} {js:List Nat} {i:Nat} {x:Str} {v:V},nC X sc scope N' js→N'[i]?=some x→(fV js nl σ)[i]?=some (some v)→
 ∃j:Nat,X.N[j]?=some x∧σ[j]?=some (some v)∧scope.names.lookup x=some .free∧(sc.names.lookup x=some .cell∨sc.names.lookup x=some .free)
 |N',[],i,x,v,_,_,h=>by
  unfold fV at h
  rw[List.map_nil,List.nil_append,List.getElem?_replicate] at h
  split at h<;>cases h
 | [],_::_,_,_,_,c,_,_=>c.elim
 |y::N',j::js,0,x,v,c,h1,h2=>by
  obtain⟨c1,c2,_⟩:=c
  simp at h1
  subst h1
  have e:(σ[j]?).getD none=some v:=by simpa[fV] using h2
  refine⟨j,c1,?_,c2⟩
  cases q:σ[j]? with
  |none=>rw[q] at e;cases e
  |some o=>rw[q] at e;exact congrArg some e
 |y::N',j::js,i+1,x,v,c,h1,h2=>by
  exact qG (N':=N') (js:=js) (i:=i) c.2.2 (by simpa using h1) (by simpa[fV] using h2)
section
variable{prog:Program}{w:World}{A:Around}{R:Result→Shared→Prop}{s:Shared}
theorem jo{elt target iter:Expr}{ifs:List Expr}{scope:Scope}{pos:Pos}{it acc:Value}{env:Env}(I:Nat→Shared→Prop)
 (turn:∀n s,I n s→wpAny (model prog w) A (pyNext it) (fun r s₁=>match r with
   |none=>R (.ok .next) s₁
   |some v=>wpAny (model prog w) A (letOwnedTupleGo target it v) (fun _ s₁'=>wpAny (model prog w) A (assign target env v) (fun _ s₂=>
     wpAny (model prog w) A (forIn ifs true fun c r=>if r=true then do let ok ←isTrue c env (eval c env);pure (ForInStep.yield ok) else pure (ForInStep.yield r)) (fun ok s₃=>
      if ok=true then wpAny (model prog w) A (eval elt env) (fun x s₄=>
       wpAny (model prog w) A (call (.builtin "list.append") [acc,x]) (fun _ s₅=>∃m,m<n∧I m s₅) (fun _ _=>False) s₄) (fun _ _=>False) s₃
      else ∃m,m<n∧I m s₃) (fun _ _=>False) s₂) (fun _ _=>False) s₁') (fun _ _=>False) s₁) (fun _ _=>False) s)
 (n:Nat)(h:I n s) :
 codeAny (model prog w) A (.compLoop (.ListComp elt [⟨target,iter,ifs,0⟩] scope pos) 0 it acc env) R s:=by
 refine codeAny_loop rfl I (fun n s hI=>?_) n h
 show wpAny _ A ((compTurn (.ListComp elt [⟨target,iter,ifs,0⟩] scope pos) 0 it acc env).onRaise (fun x=>do noteFrame x env;theTreesLotGoes x)) _ _ s
 refine wpAny_noted (wpAny_noRaise ?_)
 rw[compTurn_list]
 refine wpAny_bind (wpAny_standAt (wpAny_bind (wpAny_mono (turn n s hI) (fun r s₁ h₁=>?_) fun _ _ h'=>h')))
 cases r with
 |none=>exact wpAny_pure h₁
 |some v=>
  refine wpAny_bind (wpAny_mono h₁ (fun _ s₁' h₁'=>?_) fun _ _ h'=>h')
  refine wpAny_bind (wpAny_mono h₁' (fun _ s₂ h₂=>wpAny_bind (wpAny_mono h₂ (fun ok s₃ h₃=>?_) fun _ _ h'=>h')) fun _ _ h'=>h')
  cases ok with
  |false=>exact wpAny_pure ⟨rfl,h₃⟩
  |true=>
   exact wpAny_bind (wpAny_bind (wpAny_mono h₃ (fun x s₄ h₄=>wpAny_bind (wpAny_mono h₄ (fun _ s₅ h₅=>wpAny_pure (wpAny_pure ⟨rfl,h₅⟩)) fun _ _ h'=>h')) fun _ _ h'=>h'))
end
def Um(X:Cx)(ifs:List Expr)(t:TT):Prop:=
 ∀(pins:List (Addr×Obj)) (s:Shared) (σ:L2.St) (H:Hp) (Q:Bool→Hp→Prop),Inv X pins σ H s→t σ H Q→
  wpAny (model X.prog X.w) X.A (forIn ifs true fun c r=>if r=true then do let ok ←isTrue c X.env (eval c X.env);pure (ForInStep.yield ok) else pure (ForInStep.yield r)) (TP X pins σ Q) X.xe s
def Zkz:TT:=fun _ H Q=>Q true H
theorem Rn{X:Cx}:Um X [] Zkz:=fun _ _ _ H _ I h=>wpAny_tests_nil ⟨H,I,h⟩
theorem Ro{X:Cx}{c:Expr}{t:TT}(h:PT X c t):Um X [c] t:=fun pins s σ H Q I hw=>wpAny_tests_one (h pins s σ H Q I hw)
def G_(js:List Nat)(nl:Nat)(wi:TI)(g:TG)(tt:TT)(te:TE):TE:=fun σ H Q=>wi σ H fun J H1=>∀D,H1 D=none→
 ∃W:Nat→Nat→L2.St→Hp→Prop,(∃m,W 0 m (fV js nl σ) (upd H1 D (.lst [])))∧∀i m σ' H',W i m σ' H'→
  (J.stop i H'∧Q (.ref D) H')∨(J.go i H'∧∃N:L2.St→Hp→Prop,(∀σ2 H2,N σ2 H2→∃m',m'<m∧W (i+1) m' σ2 H2)∧∀x H2,J.yld i H' x H2→g x σ' H2 fun σ2 H3=>tt σ2 H3 fun c H4=>
    if c=true then te σ2 H4 fun y H5=>∃ys,H5 D=some (.lst ys)∧ys.length<sizeLine∧N σ2 (upd H5 D (.lst (ys ++ [y]))) else N σ2 H4)
section
variable{X:Cx}{elt tg iter:Expr}{ifs:List Expr}{scope:Scope}{pos:Pos}{wi:TI}{g:TG}{tt:TT}{te:TE}
theorem dW{env:Env}:∀{names:List (Str×NameKind)} {x:Str} {k:NameKind},(k=.cell∨k=.free)→
 (names.map fun(n,k)=>if(k== NameKind.free && env.scope.kind== .function && env.kindOf n== some .cell) then(n,NameKind.cell) else(n,k)).lookup x=some k→(x,NameKind.free)∈names∨(x,NameKind.cell)∈names
 | [],x,k,_,h=>by simp at h
 |(n,q)::r,x,k,hk,h=>by
  have ih:=@dW env r x k hk
  rw[List.map_cons] at h
  by_cases hx:x=n
  ·subst hx
   by_cases hf:q=.free
   ·subst hf
    exact .inl List.mem_cons_self
   ·have hb:(q== NameKind.free)=false:=by simpa using hf
    have e:(if(q== NameKind.free && env.scope.kind== .function && env.kindOf x== some .cell)=true then(x,NameKind.cell) else(x,q))=(x,q):=by
     rw[hb];rfl
    have h2:=h
    simp only[e,List.lookup_cons,beq_self_eq_true] at h2
    have:q=k:=Option.some.inj h2
    rcases hk with hk|hk
    ·rw[this,hk]
     exact .inr List.mem_cons_self
    ·exact absurd (this.trans hk) hf
  ·have hn:(x== n)=false:=by simpa using hx
   have h3:(x,NameKind.free)∈r∨(x,NameKind.cell)∈r:=ih (by
    by_cases c:(q== NameKind.free && env.scope.kind== .function && env.kindOf n== some .cell)=true
    ·simp only[c,if_true,List.lookup_cons,hn] at h
     exact h
    ·simp only[c,if_false,Bool.false_eq_true,List.lookup_cons,hn] at h
     exact h)
   rcases h3 with h3|h3
   ·exact .inl (List.mem_cons_of_mem _ h3)
   ·exact .inr (List.mem_cons_of_mem _ h3)
theorem Ű:∀(names:List (Str×NameKind)) (n:Nat) (acc:List (Str×Addr)),cellsFrom n names acc=cellsFrom n names []++acc
 | [],_,_=>rfl
 |(x,k)::r,n,acc=>by
  unfold cellsFrom
  split
  ·rw[Ű r (n+1) ((x,n)::acc),Ű r (n+1) [(x,n)],List.append_assoc]
   rfl
  ·exact Ű r n acc
theorem dX:∀(names:List (Str×NameKind)) (n:Nat) {x:Str} {c:Addr},(x,c)∈cellsFrom n names []→(x,NameKind.cell)∈names
 | [],_,_,_,h=>by simp[cellsFrom] at h
 |(y,k)::r,n,x,c,h=>by
  unfold cellsFrom at h
  split at h
  ·rename_i hk
   rw[Ű r (n+1) [(y,n)]] at h
   rcases List.mem_append.mp h with h|h
   ·exact List.mem_cons_of_mem _ (dX r _ h)
   ·have e:(x,c)=(y,n):=by simpa using h
    cases e
    rw[beq_iff_eq.mp hk]
    exact List.mem_cons_self
  ·exact List.mem_cons_of_mem _ (dX r _ h)
structure Blk(X:Cx)(scope:Scope)(n:Nat)(h:Heap)(cl:List (Str×Addr)):Prop where
 at_:∀x c,cl.lookup x=some c→(X.env.cells.lookup x=some c∧scope.names.lookup x≠some .cell)∨(n<c∧h.IsCell c none∧scope.names.lookup x=some .cell)
 inj:∀x y c,cl.lookup x=some c→cl.lookup y=some c→n<c→x=y
 has:∀x,((x,NameKind.free)∈scope.names∨(x,NameKind.cell)∈scope.names)→∃c,cl.lookup x=some c
theorem Hf{X:Cx}{scope:Scope}{n:Nat}{h:Heap}{cl:List (Str×Addr)}(hcell:∀y∈scope.names,y.2=.cell→scope.names.lookup y.1=some .cell)
 (h1:∀x c,cl.lookup x=some c→X.env.cells.lookup x=some c)(h2:∀y∈scope.names,y.2=.free→∃c,cl.lookup y.1=some c)(hlt:∀x c,X.env.cells.lookup x=some c→c<n)
 (ok:CellsOk h (n+1) (cellsFrom (n+1) scope.names [])):Blk X scope n h (cellsFrom (n+1) scope.names cl):=by
 have sp:∀x c,(cellsFrom (n+1) scope.names cl).lookup x=some c→(cl.lookup x=some c∧(cellsFrom (n+1) scope.names []).lookup x=none)∨(cellsFrom (n+1) scope.names []).lookup x=some c:=fun x c e=>by
  rw[Ű,List.lookup_append] at e
  cases q:(cellsFrom (n+1) scope.names []).lookup x with
  |none=>rw[q] at e;exact .inl ⟨by simpa using e,rfl⟩
  |some d=>rw[q] at e;exact .inr (by simpa using e)
 refine⟨fun x c e=>?_,fun x y c e1 e2 hc=>?_,fun x hx=>?_⟩
 ·rcases sp x c e with⟨e,q⟩|e
  ·refine .inl ⟨h1 x c e,fun z=>?_⟩
   obtain⟨d,hd⟩:=jl (sc:=scope) (n:=n+1) z
   rw[hd] at q
   cases q
  ·have m:=mem_of_lookup e
   exact .inr ⟨(ok.empty x c m).2,(ok.empty x c m).1,hcell _ (dX _ _ m) rfl⟩
 ·have nw:∀z,(cellsFrom (n+1) scope.names cl).lookup z=some c→(cellsFrom (n+1) scope.names []).lookup z=some c:=fun z e=>by
   rcases sp z c e with⟨e,q⟩|e
   ·exact absurd (hlt z c (h1 z c e)) (Nat.lt_asymm hc)
   ·exact e
  exact name_of_addr ok.apart (mem_of_lookup (nw x e1)) (mem_of_lookup (nw y e2))
 ·rw[Ű,List.lookup_append]
  rcases hx with hx|hx
  ·obtain⟨c,hc⟩:=h2 _ hx rfl
   cases q:(cellsFrom (n+1) scope.names []).lookup x with
   |none=>exact⟨c,by simpa using hc⟩
   |some d=>exact⟨d,rfl⟩
  ·obtain⟨d,hd⟩:=jl (sc:=scope) (n:=n+1) (hcell _ hx rfl)
   rw[hd]
   exact⟨d,rfl⟩
theorem ig{M:Model}{A:Around}{E:Value→Shared→Prop}{s:Shared}{scope:Scope}{globals:Addr}{closure:List (Str×Addr)}{qual:Str}
 {func:Option Addr}{code:Value}{env0:Env}{builtins:Addr}{Q:Env→Shared→Prop}
 (hQ:∀h',h'.Ns s.heap.objs.size (fun _=>none)→(∀b o,s.heap.get? b=some o→h'.get? b=some o)→CellsOk h' (s.heap.objs.size+1) (cellsFrom (s.heap.objs.size+1) scope.names [])→
   Q (newEnv scope s.heap.objs.size globals (cellsFrom (s.heap.objs.size+1) scope.names closure) qual func code (some env0) builtins) {s with heap:=h'}) :
 wpAny M A (newFunctionEnv scope globals closure [] qual func code (some env0) builtins) Q E s:=by
 simp only[newFunctionEnv,Option.isSome_some,if_true]
 refine wpAny_bind (wpAny_alloc ?_)
 refine wpAny_bind (wpAny_layCells _ (fun name kind cells=>by cases hkc:kind== NameKind.cell<;>simp[hkc]) _ _ _ _ ?_)
 have ok:=cellsFrom_ok scope.names (s.heap.push {cls:=.type "dict",data:=.dict #[]}) (s.heap.objs.size+1) [] ⟨fun _ _ hm=>(nomatch hm),List.Pairwise.nil⟩ (by rw[Heap.size_push];exact Nat.le_refl _)
 rw[Heap.size_push] at ok
 rw[show({s with heap:=s.heap.push {cls:=.type "dict",data:=.dict #[]}}:Shared).heap.objs.size=s.heap.objs.size+1 from Heap.size_push ..]
 refine wpAny_bind ?_
 rw[List.forIn_nil]
 exact wpAny_pure (wpAny_pure (hQ _ ((Heap.Ns.new s.heap (.type "dict")).keeps (pushCells_keeps _ _)) (fun b o e=>pushCells_keeps _ _ b o (Heap.get?_push_of_some _ e)) ok))
theorem jq{env:Env}:∀{names:List (Str×NameKind)} {x:Str},names.lookup x=some .free→
 ¬(names.map fun(n,k)=>if(k== NameKind.free && env.scope.kind== .function && env.kindOf n== some .cell) then(n,NameKind.cell) else(n,k)).lookup x=some .local
 | [],x,h=>by simp at h
 |(n,q)::r,x,h=>by
  intro h2
  rw[List.map_cons] at h2
  rw[List.lookup_cons] at h
  cases hx:x== n with
  |true=>
   rw[hx] at h
   cases h
   by_cases c:(NameKind.free== NameKind.free && env.scope.kind== .function && env.kindOf n== some .cell)=true
   ·simp only[c,if_true,List.lookup_cons,hx] at h2
    cases h2
   ·simp only[c,if_false,Bool.false_eq_true,List.lookup_cons,hx] at h2
    cases h2
  |false=>
   rw[hx] at h
   have ih:=jq (env:=env) h
   by_cases c:(q== NameKind.free && env.scope.kind== .function && env.kindOf n== some .cell)=true
   ·simp only[c,if_true,List.lookup_cons,hx] at h2
    exact ih h2
   ·simp only[c,if_false,Bool.false_eq_true,List.lookup_cons,hx] at h2
    exact ih h2
theorem qH{pins:List (Addr×Obj)}{σ:L2.St}{H:Hp}{s:Shared}{N':List Str}{js:List Nat}{nl:Nat}{sc:Scope}{cl:List (Str×Addr)}{fp:List Addr}{h':Heap}{tk:Nat}
 (hsc:X.env.scope=sc)(hk:scope.kind=.function)(hcap:nC X sc scope N' js)(hlen:js.length+nl=N'.length)(B:Blk X scope s.heap.objs.size h' cl)
 (I:Inv X pins σ H s)(hf:∀b∈fp,fM X pins H b)(hlt:∀b∈fp,b<s.heap.objs.size)
 (hn:h'.Ns s.heap.objs.size (fun _=>none))(kp:∀b o,s.heap.get? b=some o→h'.get? b=some o) :
 Inv (gO X N' scope cl s.heap.objs.size s H fp) [] (fV js nl σ) H {s with heap:=h',toks:=tk}:=by
 have Hg:∀x,((gO X N' scope cl s.heap.objs.size s H fp).env.kindOf x=some .cell∨(gO X N' scope cl s.heap.objs.size s H fp).env.kindOf x=some .free)→∃c,cl.lookup x=some c:=fun x hx=>by
  rcases hx with hx|hx
  ·exact B.has x (dW (.inl rfl) hx)
  ·exact B.has x (dW (.inr rfl) hx)
 have lt:∀x c,X.env.cells.lookup x=some c→c<s.heap.objs.size:=fun x c e=>by
  obtain⟨v,o,ho,_⟩:=I.cell x c e
  exact Heap.lt_size ho
 have inj:∀x y c,cl.lookup x=some c→cl.lookup y=some c→x=y:=fun x y c e1 e2=>by
  rcases B.at_ x c e1 with⟨q1,_⟩|⟨q1,_⟩
  ·rcases B.at_ y c e2 with⟨q2,_⟩|⟨q2,_⟩
   ·exact I.ok.inj x y c q1 q2
   ·exact absurd (lt x c q1) (Nat.lt_asymm q2)
  ·exact B.inj x y c e1 e2 q1
 refine⟨⟨I.ok.mod,hk,I.ok.glob,I.ok.blt,Nat.le_refl _,inj,Hg,fun x c z e=>by
  rcases B.at_ x c e with⟨_,q⟩|⟨q,_⟩
  ·exact absurd (beq_iff_eq.mp z) q
  ·exact Nat.le_of_lt q,I.ok.hd,I.ok.frames,.inl rfl,fun b hb=>⟨Nat.ne_of_lt (hlt b hb),fun x c e=>by
  rcases B.at_ x c e with⟨q,_⟩|⟨q,_⟩
  ·exact(hf b hb).2.2.2.2.1 x c q
  ·exact Nat.ne_of_gt (Nat.lt_trans (hlt b hb) q)⟩,
  I.bs,Nat.le_trans I.ok.QH I.sz,fun b o e hb=>?_,fun b hb hz=>?_,I.stack,I.sX⟩,rfl,I.bare,Un.kept kp,⟨_,hn,fun i x v e1 e2 e3=>?_⟩,fun x c e=>?_,I.hok.fresh (Nat.le_refl _),fun x c e=>by
    rcases B.at_ x c e with⟨q,_⟩|⟨q,_⟩
    ·exact I.fJ x c q
    ·exact I.hok.fresh (Nat.le_of_lt q),fun p hp=>?_,I.hok.kept kp,?_⟩
 ·rcases(hf b hb).2.2.2.1 with z|z
  ·exact I.ok.Eh b o e z
  ·exact absurd (Nat.lt_of_lt_of_le (Heap.lt_size e) (Nat.le_trans I.ok.QH z)) (Nat.lt_irrefl _)
 ·rcases List.mem_cons.mp (I.ni b hz) with z|z
  ·exact(hf b hb).2.1 z
  ·exact(hf b hb).2.2.1 z
 ·obtain⟨j,q1,q2,q0,q3⟩:=qG hcap e1 e2
  obtain⟨m,hm,hl⟩:=I.loc
  have ZkA:Gd X.env.scope x:=by
   rw[hsc]
   rcases q3 with q3|q3
   ·exact .inr (.inl q3)
   ·exact .inr (.inr q3)
  obtain⟨u,ru,lk⟩:=hl j x v q1 q2 ZkA
  refine⟨u,ru,?_⟩
  rcases lk with⟨k1,_⟩|⟨k1,c,hc,ic⟩
  ·exfalso
   have k1':sc.names.lookup x=some .local:=by rw[←hsc];exact k1
   rcases q3 with q3|q3<;>(rw[k1'] at q3;cases q3)
  ·have e3':(gO X N' scope cl s.heap.objs.size s H fp).env.kindOf x=some .local∨(gO X N' scope cl s.heap.objs.size s H fp).env.kindOf x=some .cell∨(gO X N' scope cl s.heap.objs.size s H fp).env.kindOf x=some .free:=e3
   rcases e3' with z|z
   ·exact absurd z (jq (env:=X.env) q0)
   ·obtain⟨d,hd⟩:=Hg x z
    have:d=c:=by
     rcases B.at_ x d hd with⟨q,_⟩|⟨_,_,q⟩
     ·rw[hc] at q
      exact(Option.some.inj q).symm
     ·rw[q0] at q
      cases q
    subst this
    exact .inr ⟨z,d,hd,by
     obtain⟨o,ho,hd'⟩:=ic
     exact⟨o,kp _ _ ho,hd'⟩⟩
 ·rcases B.at_ x c e with⟨q,_⟩|⟨_,q,_⟩
  ·obtain⟨v,o,ho,hd⟩:=I.cell x c q
   exact⟨v,o,kp _ _ ho,hd⟩
  ·exact⟨none,q⟩
 ·exact absurd hp (by simp[gO])
 ·show _=N'.length
  rw[←hlen]
  simp[fV]
theorem nD{pins:List (Addr×Obj)}{σ σ':L2.St}{H H':Hp}{s s':Shared}{N':List Str}{cl:List (Str×Addr)}{fp:List Addr}{h':Heap}(I:Inv X pins σ H s)(hf:∀b∈fp,fM X pins H b)
 (J:Inv (gO X N' scope cl s.heap.objs.size s H fp) [] σ' H' s')(kp:∀b u,b≠s.heap.objs.size→s'.heap.get? b=some u→h'.get? b=some u):Inv X pins σ H' {s' with heap:=h'}:=by
 have ne:∀{b:Addr} {o:Obj},s.heap.get? b=some o→b≠s.heap.objs.size:=fun e=>Nat.ne_of_lt (Heap.lt_size e)
 have u:=J.base
 refine I.call' (ch:=fp) J.os ⟨fun b o e n hb hx=>kp b o (ne e) (u.keep b o e n hb hx),fun b o e n hb hx=>?_,fun b o e n hx=>u.free b o e n hx,fun b o e hx=>?_,u.tups,u.iV,u.ji⟩ (C_ J.hok J.free kp) J.bare fun b hb=>?_
 ·obtain⟨sl,q⟩:=u.slot b o e n hb hx
  exact⟨sl,kp b _ (ne e) q⟩
 ·obtain⟨o',q⟩:=u.there b o e hx
  exact⟨o',kp b _ (ne e) q⟩
 ·exact⟨(hf b hb).2.2.2.1,(hf b hb).2.1,(hf b hb).2.2.2.2.1,(hf b hb).2.2.2.2.2⟩
theorem Rq(N':List Str)(js:List Nat)(nl:Nat)(sc:Scope)(hsc:X.env.scope=sc)(hcalm:X.calm=true)
 (hi:PI X.ſ tg iter wi)(hg:∀cl C s H fp,PG (gO X.ſ N' scope cl C s H fp) tg g)(ht:∀cl C s H fp,Um (gO X.ſ N' scope cl C s H fp) ifs tt)(he:∀cl C s H fp,PE (gO X.ſ N' scope cl C s H fp) elt te)
 (hcap:nC X.ſ sc scope N' js)(hlen:js.length+nl=N'.length:=by rfl)
 (hk:scope.kind=.function:=by rfl)(hcell:∀y∈scope.names,y.2=.cell→scope.names.lookup y.1=some .cell:=by decide +kernel)(hnames:∀y∈scope.names,y.2=.local→scope.names.lookup y.1=some .local:=by decide +kernel)
 (hfree:∀y∈scope.names,y.2=.free→(sc.names.lookup y.1=some .cell∨sc.names.lookup y.1=some .free):=by decide +kernel)
 (hs:∀x,foldedSetIterable iter X.env x=pure x:=by intro _;rfl) :
 PE X.ſ (.ListComp elt [⟨tg,iter,ifs,0⟩] scope pos) (G_ js nl wi g tt te):=by
 intro pins s σ H Q I h
 obtain⟨cl0,c1,c2,c3⟩:=jm (scope:=scope) (env:=X.ſ.env) fun y hy hf=>I.ok.has y.1 (by
  have:=hfree y hy hf
  rw[←hsc] at this
  exact this)
 rw[eval_ListComp]
 refine wpAny_comprehension_free (use:=none) rfl hs c1 hk hnames (Ť (hi pins s σ H _ I h) fun v s1 h1=>Ť h1 fun itv s2 h2=>?_)
 obtain⟨it,fp,tn,J,H2,e,I2,T,st2,f2,q2⟩:=h2
 subst e
 refine wpAny_newObj_type (ig (fun h₁ hns₁ old Yk=>?_))
 dsimp only at hns₁ old Yk ⊢
 generalize Yl:s2.heap.push {cls:=.type "list",dict:=none,data:=.seq ([]:List Value).toArray}=bZ at hns₁ old Yk ⊢
 have hD:H2 s2.heap.objs.size=none:=I2.hok.fresh (Nat.le_refl _)
 have I3:Inv X.ſ pins σ (upd H2 s2.heap.objs.size (.lst [])) {s2 with heap:=bZ}:=by
  rw[←Yl]
  exact I2.laid (t':=s2.toks) (fun b u e=>Heap.get?_push_of_some _ e) (Nat.le_refl _) ⟨Nat.zero_le _,[],0,.nil,Heap.get?_push_size _ rfl⟩
 have Hh:∀b∈fp,b<s2.heap.objs.size:=fun b hb=>by
  obtain⟨o,ho,_⟩:=T.obj 0 _ st2 b hb
  exact Heap.lt_size ho
 have Ym:bZ.objs.size=s2.heap.objs.size+1:=by rw[←Yl,Heap.size_push]
 have f3:∀b∈fp,fM X.ſ pins (upd H2 s2.heap.objs.size (.lst [])) b:=fun b hb=>by
  obtain⟨g0,g1⟩:=f2 b hb
  exact⟨by rw[ğ (Nat.ne_of_lt (Hh b hb))];exact g0,g1⟩
 have B:=Hf (X:=X.ſ) (cl:=cl0) hcell c2 c3 (fun x c e=>by
  obtain⟨v,o,ho,_⟩:=I3.cell x c e
  exact Heap.lt_size ho) Yk
 generalize cellsFrom (bZ.objs.size+1) scope.names cl0=cl at B ⊢
 obtain⟨W,⟨m0,w0⟩,turn⟩:=q2 s2.heap.objs.size hD
 have I4:=qH (X:=X.ſ) (N':=N') (js:=js) (nl:=nl) (sc:=sc) (scope:=scope) (cl:=cl) (fp:=fp) (h':=h₁) (tk:=s2.toks) hsc hk hcap hlen B I3 f3 (fun b hb=>by show b<bZ.objs.size;rw[Ym];exact Nat.lt_succ_of_lt (Hh b hb)) hns₁ old
 have st4:tn 0 h₁:= T.keep 0 _ _ st2 fun b hb o e=>old b o (by rw[←Yl];exact Heap.get?_push_of_some _ e)
 have fr4:∀b∈fp,(upd H2 s2.heap.objs.size (.lst [])) b=none:=fun b hb=>(f3 b hb).1
 have stat:∀{H':Hp},(∀b∈fp,H' b=none)→∀b∈fp,fM (gO X.ſ N' scope cl bZ.objs.size {s2 with heap:=bZ} (upd H2 s2.heap.objs.size (.lst [])) fp) [] H' b:=fun{H'} hn b hb=>by
  obtain⟨g0,g1,g2,g3,g4,g5⟩:=f3 b hb
  refine⟨hn b hb,Nat.ne_of_lt (by show b<bZ.objs.size;rw[Ym];exact Nat.lt_succ_of_lt (Hh b hb)),fun z=>?_,.inl hb,fun x c e=>by
   rcases B.at_ x c e with⟨q,_⟩|⟨q,_⟩
   ·exact g4 x c q
   ·exact Nat.ne_of_gt (Nat.lt_trans (by show b<bZ.objs.size;rw[Ym];exact Nat.lt_succ_of_lt (Hh b hb)) q),fun p hp=>absurd hp (by simp[gO])⟩
  rcases List.mem_cons.mp (I3.ni b z) with z|z
  ·exact g1 z
  ·exact g2 z
 have loop:∀s₃:Shared,s₃= {s2 with heap:=h₁}→
  codeAny (model X.prog X.w) X.A (.compLoop (.ListComp elt [⟨tg,iter,ifs,0⟩] scope pos) 0 (.ref it) (.ref s2.heap.objs.size) (compEnvC scope cl bZ.objs.size X.ſ.env))
   (compPost (model X.prog X.w) X.A X.ſ.xe none (EP X.ſ pins σ Q) (.ref s2.heap.objs.size) bZ.objs.size) s₃:= by
  rintro s₃ rfl
  refine jo (fun n s'=>∃i σ' H',Inv (gO X.ſ N' scope cl bZ.objs.size {s2 with heap:=bZ} (upd H2 s2.heap.objs.size (.lst [])) fp) [] σ' H' s'∧tn i s'.heap∧(∀b∈fp,H' b=none)∧W i n σ' H') ?_ m0 ⟨0,_,_,I4,st4,fr4,w0⟩
  rintro n s5 ⟨i,σ5,H5,I5,QT,Xj,w5⟩
  rcases turn i n σ5 H5 w5 with⟨stop,qn⟩|⟨go,N,hN,step⟩
  ·refine Ť (T.done (gO X.ſ N' scope cl bZ.objs.size {s2 with heap:=bZ} (upd H2 s2.heap.objs.size (.lst [])) fp) rfl rfl rfl hcalm i [] s5 σ5 H5 (fun _ _=>False) I5 (stat Xj) QT stop) fun r s6 ⟨hr,I6⟩=>?_
   subst hr
   obtain⟨m,hm,_⟩:=I6.loc
   refine⟨m,hm,fun h' hs'=>⟨.ref s2.heap.objs.size,H5,nD I3 f3 I6 (fun b u hb e=>hs'.extBut b u hb e),rfl,qn⟩⟩
  ·refine Ť (T.item (gO X.ſ N' scope cl bZ.objs.size {s2 with heap:=bZ} (upd H2 s2.heap.objs.size (.lst [])) fp) rfl rfl rfl hcalm i [] s5 σ5 H5 (fun _ _=>False) I5 (stat Xj) QT go) fun r s6 ⟨u,hr,h6⟩=>?_
   subst hr
   refine Ť h6 fun _ s7 ⟨x,H7,I7,r7,y7,Yn,fr7⟩=>?_
   have I7':=I7.pinned (stat fr7) (T.obj _ _ Yn)
   have again:∀{s8:Shared} {σ8:L2.St} {H8:Hp},Inv (gO X.ſ N' scope cl bZ.objs.size {s2 with heap:=bZ} (upd H2 s2.heap.objs.size (.lst [])) fp) ([]++jN fp s7.heap) σ8 H8 s8→
    Inv (gO X.ſ N' scope cl bZ.objs.size {s2 with heap:=bZ} (upd H2 s2.heap.objs.size (.lst [])) fp) [] σ8 H8 s8∧tn (i+1) s8.heap∧∀b∈fp,H8 b=none:=fun{s8 σ8 H8} I8=>by
    refine⟨I8.fO,T.keep _ _ _ Yn fun b hb o e=>(I8.pin (b,o) (List.mem_append_right _ (List.mem_append_right _ (bD hb e)))).1,fun b hb=>?_⟩
    obtain⟨o,e,d⟩:=T.obj _ _ Yn b hb
    exact(I8.pin (b,o) (List.mem_append_right _ (List.mem_append_right _ (bD hb e)))).2.1
   refine Ť (hg cl _ _ _ fp _ s7 σ5 H7 x u _ I7' r7 (step x H7 y7)) fun _ s8 ⟨σ8,H8,I8,q8⟩=>?_
   refine Ť (ht cl _ _ _ fp _ s8 σ8 H8 _ I8 q8) fun c s9 ⟨H9,I9,q9⟩=>?_
   cases c with
   |false=>
    rw[if_neg Bool.false_ne_true] at q9 ⊢
    obtain⟨m',hm',w9⟩:=hN _ _ q9
    obtain⟨a1,a2,a3⟩:=again I9
    exact⟨m',hm',i+1,σ8,H9,a1,a2,a3,w9⟩
   |true=>
    rw[if_pos rfl] at q9 ⊢
    refine Ť (he cl _ _ _ fp _ s9 σ8 H9 _ I9 q9) fun yv zu ⟨y,H10,I10,r10,ys,e10,l10,w10⟩=>?_
    refine Ť (aK _ zu σ8 H10 (.ref s2.heap.objs.size) [y] (.ref s2.heap.objs.size) [yv] (fun _ Yo=>N σ8 Yo) I10 rfl (.cons r10 .nil) ⟨_,ys,y,rfl,rfl,e10,l10,w10⟩) fun _ s11 ⟨v11,Yo,I11,_,w11⟩=>?_
    obtain⟨a1,a2,a3⟩:=again I11
    obtain⟨m',hm',w11⟩:=hN _ _ w11
    exact⟨m',hm',i+1,σ8,Yo,a1,a2,a3,w11⟩
 exact codeAny_compStart_list (loop _ rfl) (T.self _ 0 _ _ _ st4 (loop _ rfl))
end
def Its(z:Str):It:=⟨fun i _=>i<z.cps.size,fun i H x H'=>H'=H∧∃c,z.cps.toList[i]?=some c∧x=.str ⟨#[c]⟩,fun i _=>i=z.cps.size⟩
theorem Ey{P:Program}{w:World}{K:PySem.W.Frag}{tg:Expr}(it:Addr)(z:Str)(t:Tok)(ty:String)
 (hW:∀A:Around,A.handled=none→Walks P w A it [it] [it] z.cps.size (SignAt z) (fun i h=>h.IsStrIter it ty z t i))
 (hS:∀(A:Around) (i:Nat) (s:Shared) (Q:Value→Shared→Prop) (E:Value→Shared→Prop),s.heap.IsStrIter it ty z t i→Q (.ref it) s→wpAny (model P w) A (pyIter (.ref it)) Q E s)
 (hty:["enumerate","zip","dict_itemiterator","dict_reverseitemiterator","odict_iterator","itertools.zip_longest","itertools.pairwise"].contains ty=false):Turn P w K tg (Its z) [it] it (fun i h=>h.IsStrIter it ty z t i) where
 mem:=by simp
 obj:=fun i h st b hb=>by
  have e:b=it:=by simpa using hb
  subst e
  obtain⟨o,e,c,d⟩:=st
  exact⟨o,e,fun v z=>by rw[d] at z;cases z⟩
 keep:=fun i h h' st k=>by
  obtain⟨o,e,c,d⟩:=st
  exact⟨o,k it (by simp) o e,c,d⟩
 item:=by
  intro X hP hw hK hc i pins s σ H E I hf st hg
  subst hP hw hK
  obtain⟨f0,f1,f2,f3,f4,f5⟩:=hf it (by simp)
  refine(hW X.A (I.ok.hd hc)).item i s _ _ hg st fun v h' tk hv st' kk=>?_
  obtain⟨c,u,hcu,rfl⟩:=hv
  have I1:Inv X pins σ H {s with heap:=h',toks:=tk}:=I.turned (fun b o hb e=>kk b o (by simpa using hb) e) f0 f1 f3 f4 f5
  obtain⟨o,e,cl,d⟩:=id st'
  exact⟨_,rfl,CK (s:={s with heap:=h',toks:=tk}) e cl d hty ⟨.str ⟨#[c]⟩,H,I1,⟨u,rfl⟩,⟨rfl,c,by simpa using hcu,rfl⟩,st',fun b hb=>(hf b hb).1⟩⟩
 done:=by
  intro X hP hw hK hc i pins s σ H E I hf st hg
  subst hP hw hK
  obtain⟨f0,f1,f2,f3,f4,f5⟩:=hf it (by simp)
  have e:i=z.cps.size:=hg
  subst e
  exact(hW X.A (I.ok.hd hc)).done s _ _ st fun h' tk kk=>⟨rfl,I.turned (fun b o hb e=>kk b o (by simpa using hb) e) f0 f1 f3 f4 f5⟩
 self:=hS
section
variable{X:Cx}{tg:Expr}
end
end M3
namespace M4
open PySem PySem.Spec PyProof.Rows L2 M2 M3
section
variable{X:Cx}
theorem Rr{bs:List Bool}:∀{us:List Value},Vals (bs.map V.bl) us→us=bs.map Value.bool:=by
 induction bs with
 |nil=>intro us r;rw[List.map_nil] at r;cases r;rfl
 |cons b bs ih=>
  intro us r
  rw[List.map_cons] at r
  cases r with
  |cons r1 r2=>
   cases r1
   rw[ih r2]
   rfl
theorem all_range(bs:List Bool):(List.range (bs.map Value.bool).toArray.size).all (fun i=>bs.getD i false)=bs.all id:=by
 have e:(bs.map Value.bool).toArray.size=bs.length:=by simp
 rw[e,Bool.eq_iff_iff]
 simp only[List.all_eq_true,List.mem_range,id]
 constructor
 ·intro h b hb
  obtain⟨i,hi,rfl⟩:=List.mem_iff_getElem.mp hb
  have:=h i hi
  rw[List.getD_eq_getElem?_getD,List.getElem?_eq_getElem hi] at this
  exact this
 ·intro h i hi
  rw[List.getD_eq_getElem?_getD,List.getElem?_eq_getElem hi]
  exact h _ (List.getElem_mem hi)
theorem vV{prog:Program}{w:World}{A:Around}(bs:List Bool):TruthOf prog w A (fun i v=>(bs.map Value.bool).toArray[i]?=some v) (fun i=>bs.getD i false):=by
 intro i v s Q E hv hq
 have hv':bs[i]?.map Value.bool=some v:=by
  rw[←List.getElem?_map]
  simpa using hv
 cases hb:bs[i]? with
 |none=>rw[hb] at hv';cases hv'
 |some b=>
  rw[hb] at hv'
  cases hv'
  dsimp only at hq
  rw[List.getD_eq_getElem?_getD,hb] at hq
  exact wpAny_truthy_bool hq
def Yp(K:PySem.W.Frag):List V→Hp→VK→Prop:=fun xs H Q=>match xs with
 | [.ref p]=>∃bs:List Bool,aC K H p (bs.map V.bl)∧Q (.bl (bs.all id)) H
 |_=>False
theorem jV(hc:X.calm=true):Š X (.builtin "all") (Yp X.K):=by
 intro pins s σ H xs us Q I r h
 unfold Yp at h
 split at h
 ·rename_i p
  obtain⟨bs,hS,q⟩:=h
  obtain⟨u,rfl,ru⟩:=vals1 r
  cases ru
  obtain⟨its,rv,pl,hz⟩:=I.list hS
  have e:=Rr rv
  subst e
  have hp:p≠s.heap.objs.size:=by
   obtain⟨o,n,e,_⟩:=pl
   exact Nat.ne_of_lt (Heap.lt_size e)
  refine call_all_walk (wpAny_pyIter_list pl.isList ?_)
  refine⟨s.heap.objs.size,_,_,_,_,_,_,rfl,Walks.list (A:=X.A.in1) (show X.A.in1.handled=none from I.ok.hd hc) s.heap.objs.size p hp (bs.map Value.bool).toArray,⟨⟨_,Heap.get?_push_size _ rfl,rfl,rfl⟩,pl.isList.at fun o e=>Heap.get?_push_of_some _ e⟩,vV bs,fun h' tk k=>?_⟩
  rw[all_range]
  exact⟨.bl _,H,I.kept fun b o e=>k b o (by simpa using Nat.ne_of_lt (Heap.lt_size e)) (Heap.get?_push_of_some _ e),rfl,q⟩
 ·exact h.elim
end
abbrev S(l:List Nat):Str:=⟨l.toArray⟩
theorem ZkB(z:Str):S z.cps.toList=z:=by
 cases z
 simp
theorem Zdb(l:List Nat):(S l).length=l.length:=by simp[Str.length]
theorem vW(z:Str):z.cps.toList.length=z.length:=by simp[Str.length]
def tM(xs:List Nat)(lo hi:Option Int):List Nat:=(xs.drop (HT.gK xs.length 0 lo)).take (HT.gK xs.length xs.length hi-HT.gK xs.length 0 lo)
theorem idx_eq(z:Str)(lo hi:Option Int):Builtin.Str.strSliceIndices lo hi 1 z.length=(List.range (HT.gK z.length z.length hi-HT.gK z.length 0 lo)).map (HT.gK z.length 0 lo + ·):=by
 have hc:∀(o:Option Int) (d:Nat),d≤z.length→(match o with|none=>((d:Nat):Int)|some i=>max 0 (min (if i<0 then i+(z.length:Int) else i) (z.length:Int)))=((HT.gK z.length d o:Nat):Int):=by
  intro o d hd
  cases o with
  |none=>rfl
  |some i=>
   show max 0 (min (if i<0 then i+(z.length:Int) else i) (z.length:Int))=((if i<0 then(i+(z.length:Int)).toNat else min i.toNat z.length:Nat):Int)
   by_cases h:i<0
   ·rw[if_pos h,if_pos h];omega
   ·rw[if_neg h,if_neg h];omega
 have e:Builtin.Str.strSliceIndices lo hi 1 z.length=sliceRange ((HT.gK z.length 0 lo:Nat):Int) ((HT.gK z.length z.length hi:Nat):Int) 1:=by
  have h1:=hc lo 0 (Nat.zero_le _)
  have h2:=hc hi z.length (Nat.le_refl _)
  unfold Builtin.Str.strSliceIndices
  simp only[show(1:Int)>0 by decide,if_true]
  rw[←h1,←h2]
  cases lo<;>cases hi<;>rfl
 rw[e,sliceRange_one]
theorem Rt(z:Str)(lo hi:Option Int):(Builtin.Str.strSliceIndices lo hi 1 z.length).filterMap (z.cps[·]?)=tM z.cps.toList lo hi:=by
 rw[idx_eq,pick_run]
 unfold tM
 rw[vW]
theorem Ru(xs:List Nat)(lo hi:Option Int):(tM xs lo hi).length≤xs.length:=by
 unfold tM
 rw[List.length_take,List.length_drop]
 omega
theorem Hi{z:Str}{t:Tok}{l u:Option (Int×Tok)}{Q:Value→Shared→Prop}{s:Shared}(hz:z.length≤sizeLine)
 (h:∀t' k,Q (.str (S (tM z.cps.toList (l.map (·.1)) (u.map (·.1)))) t') {s with toks:=k}):(sliceMade z t l u none).post Q s:=by
 have e:=Rt z (l.map (·.1)) (u.map (·.1))
 unfold sliceMade
 have ep:slicePicked z l u none=Builtin.Str.strSliceIndices (l.map (·.1)) (u.map (·.1)) 1 z.length:=rfl
 rw[ep]
 split
 ·rename_i hc
  have hl:(Builtin.Str.strSliceIndices (l.map (·.1)) (u.map (·.1)) 1 z.length).length=z.length:=by simpa using hc
  have hz2:tM z.cps.toList (l.map (·.1)) (u.map (·.1))=z.cps.toList:=by
   rw[idx_eq,List.length_map,List.length_range] at hl
   have hi:=HT.GC z.length 0 (Nat.zero_le _) (l.map (·.1))
   have hj:=HT.GC z.length z.length (Nat.le_refl _) (u.map (·.1))
   unfold tM
   rw[vW]
   have hl2:=vW z
   have a0:HT.gK z.length 0 (l.map (·.1))=0∨z.length=0:=by omega
   rcases a0 with a0|a0
   ·rw[a0] at hl ⊢
    rw[List.drop_zero]
    exact List.take_of_length_le (by omega)
   ·have:z.cps.toList=[]:=List.eq_nil_of_length_eq_zero (by omega)
    rw[this]
    simp
  have:=h t s.toks
  rw[hz2,ZkB] at this
  exact this
 ·rw[e]
  exact⟨by rw[Zdb];have:=Ru z.cps.toList (l.map (·.1)) (u.map (·.1));rw[vW] at this;omega,h _ _⟩
section
variable{X:Cx}
def ZkC:V→Option Int→Option Int→Hp→VK→Prop:=fun x lo hi H Q=>match x with
 | .str z=>z.length≤sizeLine∧Q (.str (S (tM z.cps.toList lo hi))) H
 |_=>False
theorem Rv:CP X ZkC:=by
 intro pins s σ H x v vl vu lo hi sl Q I rx hs pl pu h
 cases x with
 |str z=>
  obtain⟨t,rfl⟩:=rx
  obtain⟨hz,q⟩:=h
  obtain⟨l,el,el2⟩:∃l:Option (Int×Tok),partValue l=vl∧l.map (·.1)=lo:=by
   cases pl with
   |none=>exact⟨none,rfl,rfl⟩
   |int i t=>exact⟨some (i,t),rfl,rfl⟩
  obtain⟨u,eu,eu2⟩:∃u:Option (Int×Tok),partValue u=vu∧u.map (·.1)=hi:=by
   cases pu with
   |none=>exact⟨none,rfl,rfl⟩
   |int i t=>exact⟨some (i,t),rfl,rfl⟩
  subst el el2 eu eu2
  exact⟨"str",_,F.slot_str_getitem.lookup,typeIs_str s z t,wpAny_getItem_str_slice (l:=l) (u:=u) (st:=none) hs rfl (Hi hz fun t' k=>⟨.str _,H,I.tok _,⟨_,rfl⟩,q⟩)⟩
 |_=>exact h.elim
def ZkD(K:PySem.W.Frag):V→Option Int→Option Int→Hp→VK→Prop:=fun x lo hi H Q=>match x with
 | .ref a=>∃xs,aC K H a xs∧∀p,H p=none→Q (.ref p) (upd H p (.lst (vQ xs lo hi)))
 | .str z=>z.length≤sizeLine∧Q (.str (S (tM z.cps.toList lo hi))) H
 |_=>False
theorem slm:CP X (ZkD X.K):=CP.wk (GZ.or Rv) fun x lo hi H Q h=>by
 cases x with
 |ref a=>exact .inl h
 |str z=>exact .inr h
 |_=>exact h.elim
theorem mul_eq(z:Str){n:Int}(h:0≤n):Txt.mul z n=S (List.replicate n.toNat z.cps.toList).flatten:=by
 have key:∀(k:Nat) (acc:Array Nat),((List.replicate k z.cps).foldl (·++ ·) acc).toList=acc.toList++(List.replicate k z.cps.toList).flatten:=by
  intro k
  induction k with
  |zero=>intro acc;simp
  |succ k ih=>
   intro acc
   rw[List.replicate_succ,List.foldl_cons,ih,List.replicate_succ,List.flatten_cons]
   simp
 unfold Txt.mul
 refine PyProof.Rows.ext_toList ?_
 by_cases h1:n<1
 ·rw[if_pos h1]
  have:n.toNat=0:=by omega
  rw[this]
  simp[Str.empty]
 ·rw[if_neg h1]
  split
  ·rename_i hc
   rw[Bool.or_eq_true] at hc
   rcases hc with hc|hc
   ·have:n=1:=by simpa using hc
    subst this
    simp
   ·have h0:z.cps.toList=[]:=List.eq_nil_of_length_eq_zero (by rw[vW];simpa using hc)
    rw[h0]
    simp
  ·rw[key]
   simp
def Hj(z:Str)(n:Int):Prop:=0≤n∧n≤1000∧z.length≤1000
theorem Hj.ok{z:Str}{n:Int}(h:Hj z n):MulOk z n:=by
 obtain⟨h0,h1,h2⟩:=h
 refine⟨?_,fun hn _=>?_,fun hn _=>?_⟩
 ·rw[decide_eq_false (by omega),decide_eq_false (by omega)]
  rfl
 ·have:(9000000000000000:Int)≤(2 ^ 63-1) / n:=by
   rw[Int.le_ediv_iff_mul_le (by omega)]
   omega
  omega
 ·have:z.length*n.toNat≤1000*1000:=Nat.mul_le_mul h2 (by omega)
  unfold Builtin.Str.tooLong
  simp
  rw[sizeLine_eq]
  omega
def Hl:R2:=fun x y H Q=>match x,y with
 | .int i,.int j=>qF i j∧Q (.int (i*j)) H
 | .str z,.int n=>Hj z n∧Q (.str (S (List.replicate n.toNat z.cps.toList).flatten)) H
 |_,_=>False
theorem Ī:ao X (binaryOp .Mult) Hl:=by
 intro pins s σ H x y v u Q I rx ry h
 unfold Hl at h
 split at h
 ·exact Yh pins s σ H _ _ v u Q I rx ry h
 ·obtain⟨t,rfl⟩:=rx
  obtain⟨t',rfl⟩:=ry
  exact SB.mul h.1.ok fun t' k=>⟨.str _,H,I.tok _,⟨_,by rw[mul_eq _ h.1.1]⟩,h.2⟩
 ·exact h.elim
end
end M4
namespace P
def nst:PySem.Expr→Bool
 | .Starred .. =>false
 |_=>true
theorem İ{e:PySem.Expr}{es:List PySem.Expr}{env:PySem.Env}(h:nst e=true):PySem.starEach (e::es) env=(false,PySem.eval e env)::PySem.starEach es env:=by
 cases e<;>first|rfl|cases h
theorem Ho{a b:PySem.Expr}{env:PySem.Env}(h:nst a=true)(h2:nst b=true):PySem.starEach [a,b] env=[(false,PySem.eval a env),(false,PySem.eval b env)]:=by
 rw[İ h,İ h2];rfl
open PySem PySem.Spec PyProof.Rows L2 M2
structure KK where
 K:PySem.W.Frag
 cm:String→Addr
abbrev kk(X:Cx)(cm:String→Addr):KK:=⟨X.K,cm⟩
inductive PV where
 |non|bl (b:Bool)|int (i:Int)|str (x:Str)|tup (xs:List PV)|lst (xs:List PV)
 |ins (C:String) (ns:List Str) (xs:List PV)|xc (C:String) (ns:List Str) (xs:List PV)|ty (n:String)|cls (C:String)
def xo(a C:Addr)(d:Option Addr):HO:=.ext fun h=>∃o vs,h.get? a=some o∧o.cls=.ref C∧o.dict=d∧o.data=.fields vs
def nF(F:Hp)(d:Option Addr)(fs:List (Str×V)):Prop:=(d=none∧fs=[])∨∃a,d=some a∧F a=some (.xd fs)
mutual
def Rep(K:KK)(F:Hp):PV→V→Prop
 | .non,v=>v=.non
 | .bl b,v=>v=.bl b
 | .int i,v=>v=.int i
 | .str x,v=>v=.str x
 | .tup ps,v=>∃a xs,v=.ref a∧cY K.K F a xs∧Ĝ K F ps xs
 | .lst ps,v=>∃a xs,v=.ref a∧aC K.K F a xs∧Ĝ K F ps xs
 | .ins C ns ps,v=>∃a dx fs,v=.ref a∧F a=some (.ins (K.cm C) dx fs)∧fs.map (·.1)=ns∧Ĝ K F ps (fs.map (·.2))
 | .xc C ns ps,v=>∃a d fs,v=.ref a∧F a=some (xo a (K.cm C) d)∧nF F d fs∧fs.map (·.1)=ns∧Ĝ K F ps (fs.map (·.2))
 | .ty n,v=>v=.ty n
 | .cls C,v=>v=.ref (K.cm C)
def Ĝ(K:KK)(F:Hp):List PV→List V→Prop
 | [],xs=>xs=[]
 |p::ps,xs=>∃x r,xs=x::r∧Rep K F p x∧Ĝ K F ps r
end
section
variable{K:KK}{F F' H H':Hp}
theorem nF.same{d:Option Addr}{fs:List (Str×V)}(e:Same F F')(h:nF F d fs):nF F' d fs:=by
 rcases h with h|⟨a,h1,h2⟩
 ·exact .inl h
 ·exact .inr ⟨a,h1,e _ _ h2⟩
mutual
theorem Rep.same(e:Same F F'):∀(p:PV) (v:V),Rep K F p v→Rep K F' p v
 | .non,_,h=>by unfold Rep at h ⊢;exact h
 | .bl _,_,h=>by unfold Rep at h ⊢;exact h
 | .int _,_,h=>by unfold Rep at h ⊢;exact h
 | .str _,_,h=>by unfold Rep at h ⊢;exact h
 | .ty _,_,h=>by unfold Rep at h ⊢;exact h
 | .cls _,_,h=>by unfold Rep at h ⊢;exact h
 | .tup ps,_,h=>by
   unfold Rep at h ⊢
   obtain⟨a,xs,h1,h2,h3⟩:=h
   exact⟨a,xs,h1,Same.tup e h2,Ĝ.same e ps xs h3⟩
 | .lst ps,_,h=>by
   unfold Rep at h ⊢
   obtain⟨a,xs,h1,h2,h3⟩:=h
   exact⟨a,xs,h1,e.seq h2,Ĝ.same e ps xs h3⟩
 | .ins C ns ps,_,h=>by
   unfold Rep at h ⊢
   obtain⟨a,dx,fs,h1,h2,h3,h4⟩:=h
   exact⟨a,dx,fs,h1,e _ _ h2,h3,Ĝ.same e ps _ h4⟩
 | .xc C ns ps,_,h=>by
   unfold Rep at h ⊢
   obtain⟨a,d,fs,h1,h2,hd,h3,h4⟩:=h
   exact⟨a,d,fs,h1,e _ _ h2,hd.same e,h3,Ĝ.same e ps _ h4⟩
theorem Ĝ.same(e:Same F F'):∀(ps:List PV) (xs:List V),Ĝ K F ps xs→Ĝ K F' ps xs
 | [],_,h=>by unfold Ĝ at h ⊢;exact h
 |p::ps,_,h=>by
  unfold Ĝ at h ⊢
  obtain⟨x,r,h1,h2,h3⟩:=h
  exact⟨x,r,h1,Rep.same e p x h2,Ĝ.same e ps r h3⟩
end
theorem Ĝ.pr:∀{ps:List PV} {vs:List V},Ĝ K F ps vs→Paired (Rep K F) ps vs
 | [],_,h=>by unfold Ĝ at h;subst h;exact .nil
 |p::ps,_,h=>by
  unfold Ĝ at h
  obtain⟨x,r,rfl,h2,h3⟩:=h
  exact .cons h2 (Ĝ.pr h3)
theorem Ĝ.of:∀{ps:List PV} {vs:List V},Paired (Rep K F) ps vs→Ĝ K F ps vs
 | [],_,.nil=>by unfold Ĝ;rfl
 |p::ps,_,.cons h t=>by unfold Ĝ;exact⟨_,_,rfl,h,Ĝ.of t⟩
theorem Ĝ.nil:Ĝ K F [] []:=Ĝ.of .nil
theorem Ĝ.cons{p:PV}{v:V}{ps:List PV}{vs:List V}(h:Rep K F p v)(t:Ĝ K F ps vs):Ĝ K F (p::ps) (v::vs):=Ĝ.of (.cons h t.pr)
theorem Ĝ.length{ps:List PV}{vs:List V}(h:Ĝ K F ps vs):ps.length=vs.length:=Paired.length h.pr
theorem cC{α β:Type}{G:α→β→Prop}:∀{l:List α} {m:List β} {i:Nat} {x:α},Paired G l m→l[i]?=some x→∃y,m[i]?=some y∧G x y
 |_,_,_,_,.nil,e=>by simp at e
 |_,_,0,_,.cons r _,e=>by simp at e;subst e;exact⟨_,rfl,r⟩
 |_,_,i+1,x,.cons _ t,e=>by
  obtain⟨y,h1,h2⟩:=cC (i:=i) (x:=x) t (by simpa using e)
  exact⟨y,by simpa using h1,h2⟩
theorem Hq{α β:Type}{G:α→β→Prop}:∀{l l2:List α} {m m2:List β},Paired G l m→Paired G l2 m2→Paired G (l++l2) (m++m2)
 |_,_,_,_,.nil,t=>t
 |_,_,_,_,.cons r s,t=>.cons r (Hq s t)
theorem Hr{α β:Type}{G:α→β→Prop}{x:α}{y:β}(r:G x y):∀{l:List α} {m:List β} (i:Nat),Paired G l m→Paired G (l.set i x) (m.set i y)
 |_,_,_,.nil=>.nil
 |_,_,0,.cons _ t=>.cons r t
 |_,_,i+1,.cons q t=>.cons q (Hr r i t)
theorem Dc{α β:Type}{G:α→β→Prop}:∀{l:List α} {m:List β} (n:Nat),Paired G l m→Paired G (l.take n) (m.take n)
 |_,_,0,_=>.nil
 |_,_,_+1,.nil=>.nil
 |_,_,n+1,.cons r t=>.cons r (Dc n t)
theorem Dd{α β:Type}{G:α→β→Prop}:∀{l:List α} {m:List β} (n:Nat),Paired G l m→Paired G (l.drop n) (m.drop n)
 |_,_,0,h=>h
 |_,_,_+1,.nil=>.nil
 |_,_,n+1,.cons _ t=>Dd n t
theorem Ĝ.append{ps qs:List PV}{vs us:List V}(h:Ĝ K F ps vs)(t:Ĝ K F qs us):Ĝ K F (ps++qs) (vs++us):=Ĝ.of (Hq h.pr t.pr)
end
inductive Slot where
 |no|sh (p:PV)|ow (ps:List PV)|bw (ps:List PV)|rc (C:String) (ns:List Str) (ps:List PV)|ot (ps qs:List PV)
abbrev Ŏ:=List Slot
def Slot.own:Slot→Bool
 | .ow _=>true
 | .rc _ _ _=>true
 | .ot _ _=>true
 |_=>false
structure Ctx where
 B:Hp
 F₀:Hp
 /-- what is lent here:read,never changed,never kept -/
 L:Hp
 /-- which objects may be held as one's own:address,dict,class -/
 S:Addr→Addr→String→Prop
def aP(K:KK)(c:Ctx)(F H:Hp)(o:Option V):Slot→Prop
 | .no=>True
 | .sh p=>∃v,o=some v∧Rep K F p v
 | .ow ps=>∃a vs,o=some (.ref a)∧H a=some (.lst vs)∧F a=none∧c.B a=none∧Ĝ K F ps vs
 | .bw ps=>∃a vs,o=some (.ref a)∧c.L a=some (.lst vs)∧Ĝ K F ps vs
 | .rc C ns ps=>∃a dx fs,o=some (.ref a)∧H a=some (.ins (K.cm C) dx fs)∧F a=none∧c.B a=none∧fs.map (·.1)=ns∧Ĝ K F ps (fs.map (·.2))∧c.S a dx C
 | .ot ps qs=>∃p a xs vs,o=some (.ref p)∧F p=some (.tup (xs ++ [.ref a]))∧Ĝ K F ps xs∧H a=some (.lst vs)∧F a=none∧c.B a=none∧Ĝ K F qs vs
def Slot.at_(F:Hp)(x:V)(a:Addr):Slot→Prop
 | .ot _ _=>∃p xs,x=.ref p∧F p=some (.tup (xs ++ [.ref a]))
 | .ow _=>x=.ref a
 | .rc _ _ _=>x=.ref a
 |_=>False
def ř(F:Hp)(σ:L2.St)(ρ:Ŏ)(i:Nat)(a:Addr):Prop:=∃s x,ρ[i]?=some s∧σ[i]?=some (some x)∧s.at_ F x a
structure Rel(K:KK)(c:Ctx)(F H:Hp)(σ:L2.St)(ρ:Ŏ):Prop where
 sub:Same F H
 base:Same c.B H
 f0:Same c.F₀ F
 cX:∀a,c.B a≠none→c.F₀ a=none→F a=none
 lent:∀a u,c.L a=some u→H a=some u∧F a=none
 lb:∀a,c.B a=none→c.L a=none
 len:σ.length=ρ.length
 slot:∀(i:Nat) s,ρ[i]?=some s→aP K c F H ((σ[i]?).getD none) s
 sep:∀i j a,ř F σ ρ i a→ř F σ ρ j a→i=j
def lq(F:Hp)(σ:L2.St)(ρ:Ŏ)(a:Addr):Prop:=∀i,¬ř F σ ρ i a
section
variable{K:KK}{c:Ctx}{F F' H H':Hp}{σ:L2.St}{ρ:Ŏ}{a:Addr}{o:HO}
theorem i_{s:Slot}{x:V}(h:s.at_ F x a):s.own=true:=by
 cases s<;>first|rfl|exact h.elim
theorem Rw{s:Slot}{x:V}(e:Same F F')(h:s.at_ F x a):s.at_ F' x a:=by
 cases s with
 |ot ps qs=>obtain⟨p,xs,h1,h2⟩:=h;exact⟨p,xs,h1,e _ _ h2⟩
 |_=>exact h
theorem zW{s:Slot}{x:V}{b:Addr}(h:s.at_ F x a)(h':s.at_ F x b):a=b:=by
 cases s with
 |ot ps qs=>
  obtain⟨p,xs,h1,h2⟩:=h
  obtain⟨q,ys,h3,h4⟩:=h'
  rw[h1] at h3
  cases h3
  rw[h2] at h4
  have e:xs ++ [V.ref a]=ys ++ [V.ref b]:=by
   injection h4 with h4
   injection h4
  have e2:=congrArg List.getLast? e
  simp at e2
  exact e2
 |ow ps=>rw[show x=.ref a from h] at h';cases h';rfl
 |rc C ns ps=>rw[show x=.ref a from h] at h';cases h';rfl
 |no=>exact h.elim
 |sh p=>exact h.elim
 |bw ps=>exact h.elim
theorem aP.grow{s:Slot}{x:Option V}(h:aP K c F H x s)(eF:Same F F')(eH:∀b vs,(∃y,x=some y∧s.at_ F y b)→H b=some vs→F b=none→c.B b=none→H' b=some vs∧F' b=none):aP K c F' H' x s:=by
 cases s with
 |no=>trivial
 |sh p=>obtain⟨v,h1,h2⟩:=h;exact⟨v,h1,h2.same eF p v⟩
 |ow ps=>
  obtain⟨b,vs,h1,h2,h3,h4,h5⟩:=h
  obtain⟨e1,e2⟩:=eH b _ ⟨_,h1,rfl⟩ h2 h3 h4
  exact⟨b,vs,h1,e1,e2,h4,h5.same eF ps vs⟩
 |bw ps=>obtain⟨b,vs,h1,h2,h3⟩:=h;exact⟨b,vs,h1,h2,h3.same eF ps vs⟩
 |rc C ns ps=>
  obtain⟨b,dx,fs,h1,h2,h3,h4,h5,h6⟩:=h
  obtain⟨e1,e2⟩:=eH b _ ⟨_,h1,rfl⟩ h2 h3 h4
  exact⟨b,dx,fs,h1,e1,e2,h4,h5,h6.1.same eF ps _,h6.2⟩
 |ot ps qs=>
  obtain⟨p,b,xs,vs,h1,h2,h3,h4,h5,h6,h7⟩:=h
  obtain⟨e1,e2⟩:=eH b _ ⟨_,h1,p,xs,rfl,h2⟩ h4 h5 h6
  exact⟨p,b,xs,vs,h1,eF _ _ h2,h3.same eF ps xs,e1,e2,h6,h7.same eF qs vs⟩
theorem aP.owned{s:Slot}{x:Option V}(h:aP K c F H x s)(hs:s.own=true):∃b u y,x=some y∧s.at_ F y b∧H b=some u∧F b=none∧c.B b=none:=by
 cases s with
 |no=>cases hs
 |sh p=>cases hs
 |bw ps=>cases hs
 |ow ps=>obtain⟨b,vs,h1,h2,h3,h4,h5⟩:=h;exact⟨b,_,_,h1,rfl,h2,h3,h4⟩
 |rc C ns ps=>obtain⟨b,dx,fs,h1,h2,h3,h4,h5,h6⟩:=h;exact⟨b,_,_,h1,rfl,h2,h3,h4⟩
 |ot ps qs=>obtain⟨p,b,xs,vs,h1,h2,h3,h4,h5,h6,h7⟩:=h;exact⟨b,_,_,h1,⟨p,xs,rfl,h2⟩,h4,h5,h6⟩
theorem fW{i:Nat}{x:V}(e:σ[i]?=some (some x)):(σ[i]?).getD none=some x:=by rw[e];rfl
theorem Hs{i:Nat}{x:V}(e:(σ[i]?).getD none=some x):σ[i]?=some (some x):=by
 cases q:σ[i]? with
 |none=>rw[q] at e;cases e
 |some y=>rw[q] at e;exact congrArg some e
theorem Rel.owned(r:Rel K c F H σ ρ){i:Nat}(h:ř F σ ρ i a):(∃u,H a=some u)∧F a=none∧c.B a=none:=by
 obtain⟨s,x,h1,h2,h3⟩:=h
 obtain⟨b,u,y,e,q0,q⟩:=(r.slot i s h1).owned (i_ h3)
 rw[fW h2] at e
 cases e
 cases zW h3 q0
 exact⟨⟨u,q.1⟩,q.2⟩
theorem Rel.back(r:Rel K c F H σ ρ)(e:Same F F'){i:Nat}(h:ř F' σ ρ i a):ř F σ ρ i a:=by
 obtain⟨s,x,h1,h2,h3⟩:=h
 obtain⟨b,u,y,e1,q0,q⟩:=(r.slot i s h1).owned (i_ h3)
 rw[fW h2] at e1
 cases e1
 cases zW h3 (Rw e q0)
 exact⟨s,x,h1,h2,q0⟩
theorem Rel.Yq(r:Rel K c F H σ ρ)(e:Same F F'):∀i j a,ř F' σ ρ i a→ř F' σ ρ j a→i=j:=fun i j a h1 h2=>r.sep i j a (r.back e h1) (r.back e h2)
theorem Rel.tQ(r:Rel K c F H σ ρ)(e:Same F F')(h:lq F σ ρ a):lq F' σ ρ a:=fun i q=>h i (r.back e q)
theorem Rel.fresh(r:Rel K c F H σ ρ)(h:H a=none):lq F σ ρ a:=fun i q=>by
 obtain⟨⟨u,e⟩,_⟩:=r.owned q
 rw[h] at e;cases e
theorem Rel.alloc(r:Rel K c F H σ ρ)(h:H a=none):Rel K c (upd F a o) (upd H a o) σ ρ where
 sub:=fun b u e=>by
  by_cases hb:b=a
  ·subst hb;rw[ī] at e ⊢;exact e
  ·rw[ğ hb] at e ⊢;exact r.sub b u e
 base:=fun b u e=>by
  have hb:b≠a:=fun z=>by rw[z] at e;rw[r.base _ _ e] at h;cases h
  rw[ğ hb];exact r.base b u e
 f0:=fun b u e=>by
   have hb:b≠a:=fun z=>by rw[z] at e;rw[r.sub _ _ (r.f0 _ _ e)] at h;cases h
   rw[ğ hb];exact r.f0 b u e
 cX:=fun b h1 h2=>by
  have hb:b≠a:=fun z=>by
   subst z
   cases q:c.B b with
   |none=>exact h1 q
   |some u=>rw[r.base _ _ q] at h;cases h
  rw[ğ hb];exact r.cX b h1 h2
 lent:=fun b u e=>by
  obtain⟨h1,h2⟩:=r.lent b u e
  have hb:b≠a:=fun z=>by rw[z,h] at h1;cases h1
  rw[ğ hb,ğ hb];exact⟨h1,h2⟩
 lb:=r.lb
 len:=r.len
 slot:=fun i s e=>by
  have hF:F a=none:=r.sub.free h
  refine(r.slot i s e).grow (Same.upd hF) fun b u _ h1 h2 h3=>?_
  have hb:b≠a:=fun z=>by rw[z,h] at h1;cases h1
  rw[ğ hb,ğ hb];exact⟨h1,h2⟩
 sep:=r.Yq (Same.upd (r.sub.free h))
theorem Rel.made(r:Rel K c F H σ ρ)(h:H a=none):Rel K c F (upd H a o) σ ρ where
 sub:=r.sub.trans (Same.upd h)
 base:=r.base.trans (Same.upd h)
 f0:=r.f0
 cX:=r.cX
 lent:=fun b u e=>⟨Same.upd h b u (r.lent b u e).1,(r.lent b u e).2⟩
 lb:=r.lb
 len:=r.len
 slot:=fun i s e=>(r.slot i s e).grow (Same.refl F) fun b u _ h1 h2 h3=>⟨Same.upd h b u h1,h2⟩
 sep:=r.sep
theorem Rel.freeze(r:Rel K c F H σ ρ)(h:H a=some o)(hB:c.B a=none)(hF:F a=none)(hf:lq F σ ρ a):Rel K c (upd F a o) H σ ρ where
 sub:=fun b u e=>by
  by_cases hb:b=a
  ·subst hb;rw[ī] at e;rw[h];exact e
  ·rw[ğ hb] at e;exact r.sub b u e
 base:=r.base
 f0:=r.f0.trans (Same.upd hF)
 cX:=fun b h1 h2=>by
  have hb:b≠a:=fun z=>h1 (by rw[z];exact hB)
  rw[ğ hb];exact r.cX b h1 h2
 lent:=fun b u e=>by
  have hb:b≠a:=fun z=>by rw[z,r.lb a hB] at e;cases e
  rw[ğ hb];exact r.lent b u e
 lb:=r.lb
 len:=r.len
 slot:=fun i s e=>(r.slot i s e).grow (Same.upd hF) fun b' u' ⟨y,e1',ha⟩ h1 h2 h3=>by
  have hb:b'≠a:=fun z=>by
   subst z
   exact hf i ⟨s,y,e,Hs e1',ha⟩
  rw[ğ hb];exact⟨h1,h2⟩
 sep:=r.Yq (Same.upd hF)
theorem bJ{α:Type}{l:List α}{i j:Nat}{x y:α}(h:(l.set i x)[j]?=some y):(j=i∧y=x∧i<l.length)∨(j≠i∧l[j]?=some y):=by
 by_cases hj:j=i
 ·subst hj
  have hl:j<l.length:=by
   have:=(List.getElem?_eq_some_iff.mp h).1
   simpa using this
  rw[List.getElem?_set_self hl] at h
  exact .inl ⟨rfl,(Option.some.inj h).symm,hl⟩
 ·rw[List.getElem?_set_ne (Ne.symm hj)] at h
  exact .inr ⟨hj,h⟩
theorem Ht{l:L2.St}{i:Nat}{x:Option V}(h:i<l.length):((l.set i x)[i]?).getD none=x:=by rw[List.getElem?_set_self h];rfl
theorem Df{l:L2.St}{i j:Nat}{x:Option V}(h:j≠i):((l.set i x)[j]?).getD none=(l[j]?).getD none:=by rw[List.getElem?_set_ne (Ne.symm h)]
theorem ř.off{i j:Nat}{x:Option V}{s:Slot}(h:ř F (σ.set i x) (ρ.set i s) j a)(hj:j≠i):ř F σ ρ j a:=by
 obtain⟨s',y,h1,h2,h3⟩:=h
 rw[List.getElem?_set_ne (Ne.symm hj)] at h1 h2
 exact⟨s',y,h1,h2,h3⟩
theorem Rel.put(r:Rel K c F H σ ρ){i:Nat}{x:Option V}{s:Slot}(hs:s.own=false)(h:aP K c F H x s):Rel K c F H (σ.set i x) (ρ.set i s) where
 sub:=r.sub
 base:=r.base
 f0:=r.f0
 cX:=r.cX
 lent:=r.lent
 lb:=r.lb
 len:=by simpa using r.len
 slot:=fun j s' e=>by
  rcases bJ e with⟨rfl,rfl,hl⟩|⟨hj,e⟩
  ·rw[Ht (by rw[r.len];exact hl)];exact h
  ·rw[Df hj];exact r.slot j s' e
 sep:=fun j k b h1 h2=>by
  have off:∀{j},ř F (σ.set i x) (ρ.set i s) j b→j≠i:=fun{j} q z=>by
   subst z
   obtain⟨s',y,q1,_,q2⟩:=q
   rcases bJ q1 with⟨_,rfl,_⟩|⟨q,_⟩
   ·have:=i_ q2;rw[hs] at this;cases this
   ·exact q rfl
  exact r.sep j k b (h1.off (off h1)) (h2.off (off h2))
theorem Rel.Uo(r:Rel K c F H σ ρ){i:Nat}{s:Slot}(hs:s.own=false)(h:aP K c F H ((σ[i]?).getD none) s):Rel K c F H σ (ρ.set i s) where
 sub:=r.sub
 base:=r.base
 f0:=r.f0
 cX:=r.cX
 lent:=r.lent
 lb:=r.lb
 len:=by simpa using r.len
 slot:=fun j s' e=>by
  rcases bJ e with⟨rfl,rfl,hl⟩|⟨hj,e⟩
  ·exact h
  ·exact r.slot j s' e
 sep:=fun j k b h1 h2=>by
  have off:∀{j},ř F σ (ρ.set i s) j b→ř F σ ρ j b:=fun{j} ⟨s',y,q1,q3,q2⟩=>by
   rcases bJ q1 with⟨_,rfl,_⟩|⟨_,q⟩
   ·have:=i_ q2;rw[hs] at this;cases this
   ·exact⟨s',y,q,q3,q2⟩
  exact r.sep j k b (off h1) (off h2)
theorem Rel.Rx(r:Rel K c F H σ ρ){i:Nat}{x:V}{s:Slot}(h:aP K c F H (some x) s)(ha:s.at_ F x a)(hf:lq F σ ρ a):Rel K c F H (σ.set i (some x)) (ρ.set i s) where
 sub:=r.sub
 base:=r.base
 f0:=r.f0
 cX:=r.cX
 lent:=r.lent
 lb:=r.lb
 len:=by simpa using r.len
 slot:=fun j s' e=>by
  rcases bJ e with⟨rfl,rfl,hl⟩|⟨hj,e⟩
  ·rw[Ht (by rw[r.len];exact hl)];exact h
  ·rw[Df hj];exact r.slot j s' e
 sep:=fun j k b h1 h2=>by
  have Yr:∀{j},ř F (σ.set i (some x)) (ρ.set i s) j b→(j=i∧b=a)∨(j≠i∧ř F σ ρ j b∧b≠a):=fun{j} q=>by
   by_cases hj:j=i
   ·subst hj
    obtain⟨s',y,q1,q2,q3⟩:=q
    rcases bJ q2 with⟨_,e,_⟩|⟨z,_⟩
    ·cases e
     rcases bJ q1 with⟨_,e,_⟩|⟨z,_⟩
     ·cases e
      exact .inl ⟨rfl,zW q3 ha⟩
     ·exact absurd rfl z
    ·exact absurd rfl z
   ·exact .inr ⟨hj,q.off hj,fun z=>hf j (z▸q.off hj)⟩
  rcases Yr h1 with⟨e1,z1⟩|⟨e1,o1,z1⟩
  ·rcases Yr h2 with⟨e2,z2⟩|⟨e2,o2,z2⟩
   ·rw[e1,e2]
   ·exact absurd z1 z2
  ·rcases Yr h2 with⟨e2,z2⟩|⟨e2,o2,z2⟩
   ·exact absurd z2 z1
   ·exact r.sep j k b o1 o2
theorem Rel.Ys(r:Rel K c F H σ ρ){i:Nat}{s:Slot}(ho:ř F σ ρ i a)(h:aP K c F (upd H a o) ((σ[i]?).getD none) s)(hs:∀x b,σ[i]?=some (some x)→s.at_ F x b→b=a):Rel K c F (upd H a o) σ (ρ.set i s) where
 sub:=fun b u e=>by
  have hb:b≠a:=fun z=>by rw[z,(r.owned ho).2.1] at e;cases e
  rw[ğ hb];exact r.sub b u e
 base:=fun b u e=>by
  have hb:b≠a:=fun z=>by rw[z,(r.owned ho).2.2] at e;cases e
  rw[ğ hb];exact r.base b u e
 f0:=r.f0
 cX:=r.cX
 lent:=fun b u e=>by
  have hb:b≠a:=fun z=>by rw[z,r.lb a (r.owned ho).2.2] at e;cases e
  rw[ğ hb];exact r.lent b u e
 lb:=r.lb
 len:=by simpa using r.len
 slot:=fun j s' e=>by
  rcases bJ e with⟨rfl,rfl,hl⟩|⟨hj,e⟩
  ·exact h
  ·refine(r.slot j s' e).grow (Same.refl F) fun b u ⟨y,e1,e2⟩ h1 h2 h3=>?_
   have hb:b≠a:=fun z=>by
    subst z
    exact hj (r.sep j i b ⟨s',y,e,Hs e1,e2⟩ ho)
   exact⟨by rw[ğ hb];exact h1,h2⟩
 sep:=fun j k b h1 h2=>by
  have off:∀{j},ř F σ (ρ.set i s) j b→ř F σ ρ j b:=fun{j} ⟨s',y,q1,q3,q2⟩=>by
   rcases bJ q1 with⟨e,rfl,_⟩|⟨_,q⟩
   ·subst e
    rw[hs y b q3 q2]
    exact ho
   ·exact⟨s',y,q,q3,q2⟩
  exact r.sep j k b (off h1) (off h2)
theorem Rel.write(r:Rel K c F H σ ρ){i:Nat}{s:Slot}(ho:ř F σ ρ i a)(hx:σ[i]?=some (some (.ref a)))(h:aP K c F (upd H a o) (some (.ref a)) s)(hs:∀b,s.at_ F (.ref a) b→b=a):Rel K c F (upd H a o) σ (ρ.set i s):=
 r.Ys ho (by rw[hx];exact h) fun x b e q=>by rw[hx] at e;cases e;exact hs b q
structure Gr(F H F' H':Hp):Prop where
 h:Same H H'
 f:Same F F'
 sub:Same F' H'
 out:∀a,H a≠none→F a=none→F' a=none
theorem Rel.call(r:Rel K c F H σ ρ)(g:Gr F H F' H'):Rel K c F' H' σ ρ where
 sub:=g.sub
 base:=r.base.trans g.h
 f0:=r.f0.trans g.f
 cX:=fun b h1 h2=>by
  refine g.out b (fun z=>h1 ?_) (r.cX b h1 h2)
  cases q:c.B b with
  |none=>rfl
  |some u=>rw[r.base _ _ q] at z;cases z
 lent:=fun b u e=>⟨g.h b u (r.lent b u e).1,g.out b (by rw[(r.lent b u e).1];intro z;cases z) (r.lent b u e).2⟩
 lb:=r.lb
 len:=r.len
 slot:=fun i s e=>(r.slot i s e).grow g.f fun b u _ h1 h2 h3=>⟨g.h b u h1,g.out b (by rw[h1];intro z;cases z) h2⟩
 sep:=r.Yq g.f
def ctx0(F H:Hp):Ctx:=⟨H,F,fun a=>match F a with
 |none=>H a
 |some _=>none,fun _ _ _=>True⟩
theorem fX{a:Addr}{u:HO}(h:(ctx0 F H).L a=some u):H a=some u∧F a=none:=by
 unfold ctx0 at h
 dsimp only at h
 cases q:F a with
 |none=>rw[q] at h;exact⟨h,rfl⟩
 |some o=>rw[q] at h;cases h
theorem Rel.gr(r:Rel K (ctx0 F H) F' H' σ ρ):Gr F H F' H':=⟨r.base,r.f0,r.sub,r.cX⟩
def cD(K:KK)(F H:Hp):Slot→V→Prop
 | .sh p,v=>Rep K F p v
 | .bw ps,v=>∃a vs,v=.ref a∧H a=some (.lst vs)∧F a=none∧Ĝ K F ps vs
 |_,_=>False
theorem cD.slot{s:Slot}{v:V}(h:cD K F H s v):aP K (ctx0 F H) F H (some v) s∧s.own=false:=by
 cases s with
 |sh p=>exact⟨⟨v,rfl,h⟩,rfl⟩
 |bw ps=>
  obtain⟨a,vs,rfl,h1,h2,h3⟩:=h
  refine⟨⟨a,vs,rfl,?_,h3⟩,rfl⟩
  show(match F a with|none=>H a|some _=>none)=_
  rw[h2]
  exact h1
 |no=>exact h.elim
 |ow ps=>exact h.elim
 |rc C ns ps=>exact h.elim
 |ot ps qs=>exact h.elim
def startP(n:Nat)(as:List Slot):Ŏ:=as++List.replicate (n-as.length) .no
theorem Rel.start{N:List Str}{as:List Slot}{vs:List V}(s:Same F H)(h:Paired (cD K F H) as vs):Rel K (ctx0 F H) F H (L2.start N vs) (startP N.length as) where
 sub:=s
 base:=Same.refl H
 f0:=Same.refl F
 cX:=fun _ _ h=>h
 lent:=fun _ _ e=>fX e
 lb:=fun a e=>by
   cases q:(ctx0 F H).L a with
   |none=>rfl
   |some u=>
    have e':H a=none:=e
    rw[(fX q).1] at e'
    cases e'
 len:=by unfold L2.start startP;simp[Paired.length h]
 slot:=fun i s' e=>by
  unfold startP at e
  by_cases hi:i<as.length
  ·rw[List.getElem?_append_left hi] at e
   obtain⟨v,h1,h2⟩:=cC h e
   have hv:((L2.start N vs)[i]?).getD none=some v:=by
    unfold L2.start
    rw[List.getElem?_append_left (by simpa[←Paired.length h] using hi),List.getElem?_map,h1];rfl
   rw[hv]
   exact(cD.slot h2).1
  ·rw[List.getElem?_append_right (by omega),List.getElem?_replicate] at e
   split at e
   ·cases e;trivial
   ·cases e
 sep:=fun i j a h1 _=>by
  obtain⟨s',y,h1,_,h2⟩:=h1
  have h2:=i_ h2
  exfalso
  unfold startP at h1
  by_cases hi:i<as.length
  ·rw[List.getElem?_append_left hi] at h1
   obtain⟨v,_,h3⟩:=cC h h1
   rw[(cD.slot h3).2] at h2
   cases h2
  ·rw[List.getElem?_append_right (by omega),List.getElem?_replicate] at h1
   split at h1
   ·cases h1;cases h2
   ·cases h1
end
structure PX where
 C:String
 ns:List Str
 ps:List PV
def Ry(K:KK)(F:Hp)(x:PX)(C:Value)(d:Option Addr):Prop:=C=.ref (K.cm x.C)∧∃fs,nF F d fs∧fs.map (·.1)=x.ns∧Ĝ K F x.ps (fs.map (·.2))
inductive Res(α:Type) where
 |ok (a:α) (ρ:Ŏ)|exc (x:PX) (ρ:Ŏ)|bad
def Res.bind{α β:Type}(r:Res α)(f:α→Ŏ→Res β):Res β:= match r with
 | .ok a ρ=>f a ρ
 | .exc x ρ=>.exc x ρ
 | .bad=>.bad
@[simp] theorem Res.aQ{α β:Type}{a:α}{ρ:Ŏ}{f:α→Ŏ→Res β}:(Res.ok a ρ).bind f=f a ρ:= rfl
@[simp] theorem Res.Zdc{α β:Type}{x:PX}{ρ:Ŏ}{f:α→Ŏ→Res β}:(Res.exc x ρ:Res α).bind f=.exc x ρ:= rfl
@[simp] theorem Res.Zdd{α β:Type}{f:α→Ŏ→Res β}:(Res.bad:Res α).bind f=.bad:=rfl
def Res.mX{α:Type}(o:Option α)(ρ:Ŏ):Res α:= match o with
 |some a=>.ok a ρ
 |none=>.bad
@[simp] theorem Res.Zde{α:Type}{a:α}{ρ:Ŏ}:Res.mX (some a) ρ=.ok a ρ:= rfl
@[simp] theorem Res.Zdf{α:Type}{ρ:Ŏ}:Res.mX (none:Option α) ρ=.bad:=rfl
abbrev M(α:Type):=Ŏ→Res α
inductive RV where
 |sh (p:PV)|ow (ps:List PV)|ot (ps qs:List PV)
def RV.val:RV→PV
 | .sh p=>p
 | .ow ps=>.lst ps
 | .ot ps qs=>.tup (ps ++ [.lst qs])
def RV.slot:RV→Slot
 | .sh p=>.sh p
 | .ow ps=>.ow ps
 | .ot ps qs=>.ot ps qs
abbrev RR(α β:Type):=Ctx→L2.St→Ŏ→Hp→Hp→α→β→Prop
def rV(K:KK):RR PV V:=fun _ _ _ F _ p v=>Rep K F p v
def Dg(K:KK)(F H:Hp)(p:PV)(v:V):Prop:=match p with
 | .lst ps=>∃a vs,v=.ref a∧H a=some (.lst vs)∧Ĝ K F ps vs
 | .ins C ns ps=>∃a dx fs,v=.ref a∧H a=some (.ins (K.cm C) dx fs)∧fs.map (·.1)=ns∧Ĝ K F ps (fs.map (·.2))
 |_=>False
def rR(K:KK):RR PV V:=fun _ _ _ F H p v=>Rep K F p v∨Dg K F H p v
def rA(K:KK):RR (List Slot) (List V):=fun _ _ _ F H as vs=>Paired (cD K F H) as vs
def Held(K:KK)(c:Ctx)(σ:L2.St)(ρ:Ŏ)(F H:Hp)(ps:List PV)(v:V):Prop:=∃a vs,v=.ref a∧H a=some (.lst vs)∧F a=none∧c.B a=none∧lq F σ ρ a∧Ĝ K F ps vs
def Dh(K:KK)(c:Ctx)(σ:L2.St)(ρ:Ŏ)(F H:Hp)(ps qs:List PV)(v:V):Prop:=∃p a xs vs,v=.ref p∧F p=some (.tup (xs ++ [.ref a]))∧Ĝ K F ps xs∧H a=some (.lst vs)∧F a=none∧c.B a=none∧lq F σ ρ a∧Ĝ K F qs vs
def rO(K:KK):RR RV V:=fun c σ ρ F H r v=>match r with
 | .sh p=>Rep K F p v
 | .ow ps=>Held K c σ ρ F H ps v
 | .ot ps qs=>Dh K c σ ρ F H ps qs v
def rL(K:KK):RR (List PV) (List V):=fun _ _ _ F _ p v=>Ĝ K F p v
def rRL(K:KK):RR (List PV) (List V):=fun c σ ρ F H p v=>Paired (rR K c σ ρ F H) p v
def rB:RR Bool Bool:=fun _ _ _ _ _ p v=>p=v
def rI:RR (Option Int) (Option Int):=fun _ _ _ _ _ p v=>p=v
def bB{α β:Type}(K:KK)(E:L2.St→XK)(R:RR α β)(c:Ctx)(F H:Hp)(σ:L2.St)(Q:β→Hp→Prop):Res α→Prop
 | .ok p ρ'=>∀v F' H',Rel K c F' H' σ ρ'→Same F F'→Same H H'→R c σ ρ' F' H' p v→Q v H'
 | .exc x ρ'=>∀C d F' H',Rel K c F' H' σ ρ'→Same F F'→Ry K F' x C d→E σ C d H'
 | .bad=>False
def tG{α β:Type}(K:KK)(E:L2.St→XK)(R:RR α β)(m:M α):L2.St→Hp→(β→Hp→Prop)→Prop:=fun σ H Q=>∃c F ρ,Rel K c F H σ ρ∧bB K E R c F H σ Q (m ρ)
section
variable{α β α' β':Type}{K:KK}{E:L2.St→XK}{R:RR α β}{R':RR α' β'}{c:Ctx}{F F1 H H1:Hp}{σ:L2.St}
theorem bB.mono{Q:β→Hp→Prop}{r:Res α}(h:bB K E R c F H σ Q r)(sF:Same F F1)(sH:Same H H1):bB K E R c F1 H1 σ Q r:=by
 cases r with
 |ok p ρ'=>exact fun v F' H' rel s1 s2 q=>h v F' H' rel (sF.trans s1) (sH.trans s2) q
 |exc x ρ'=>exact fun C d F' H' rel s1 q=>h C d F' H' rel (sF.trans s1) q
 |bad=>exact h
theorem bB.bind{Q:β→Hp→Prop}{Q':β'→Hp→Prop}{r:Res α}{f:α→Ŏ→Res α'}(h:bB K E R' c F H σ Q' (r.bind f))
 (k:∀p ρ1 v F1 H1,Rel K c F1 H1 σ ρ1→Same F F1→Same H H1→R c σ ρ1 F1 H1 p v→bB K E R' c F1 H1 σ Q' (f p ρ1)→Q v H1):bB K E R c F H σ Q r:=by
 cases r with
 |ok p ρ'=>exact fun v F' H' rel s1 s2 q=>k p ρ' v F' H' rel s1 s2 q (bB.mono (show bB K E R' c F H σ Q' (f p ρ') from h) s1 s2)
 |exc x ρ'=>exact h
 |bad=>exact h
theorem bB.rel{R2:RR α β}{Q:β→Hp→Prop}{r:Res α}(h:bB K E R c F H σ Q r)(k:∀p ρ' v F' H',Rel K c F' H' σ ρ'→R2 c σ ρ' F' H' p v→R c σ ρ' F' H' p v):bB K E R2 c F H σ Q r:=by
 cases r with
 |ok p ρ'=>exact fun v F' H' rel s1 s2 q=>h v F' H' rel s1 s2 (k p ρ' v F' H' rel q)
 |exc x ρ'=>exact h
 |bad=>exact h
end
abbrev tV(K:KK)(E:L2.St→XK)(m:M PV):TE:=tG K E (rV K) m
abbrev tR(K:KK)(E:L2.St→XK)(m:M PV):TE:=tG K E (rR K) m
abbrev tO(K:KK)(E:L2.St→XK)(m:M RV):TE:=tG K E (rO K) m
abbrev tL(K:KK)(E:L2.St→XK)(m:M (List PV)):TA:=tG K E (rL K) m
abbrev tA(K:KK)(E:L2.St→XK)(m:M (List Slot)):TA:=tG K E (rA K) m
abbrev tRL(K:KK)(E:L2.St→XK)(m:M (List PV)):TA:=tG K E (rRL K) m
abbrev tB(K:KK)(E:L2.St→XK)(m:M Bool):TT:=tG K E rB m
inductive Fl where
 |nx|bk|ct|rt (r:RV)
def ť(K:KK)(E:L2.St→XK)(c:Ctx)(F:Hp)(D:Ends):Res Fl→Prop
 | .ok .nx ρ'=>∀σ' F' H',Rel K c F' H' σ' ρ'→Same F F'→D.nx σ' H'
 | .ok .bk ρ'=>∀σ' F' H',Rel K c F' H' σ' ρ'→Same F F'→D.bk σ' H'
 | .ok .ct ρ'=>∀σ' F' H',Rel K c F' H' σ' ρ'→Same F F'→D.ct σ' H'
 | .ok (.rt r) ρ'=>∀v σ' F' H',Rel K c F' H' σ' ρ'→Same F F'→rO K c σ' ρ' F' H' r v→D.rt v H'
 | .exc x ρ'=>∀σ' C d F' H',Rel K c F' H' σ' ρ'→Same F F'→Ry K F' x C d→E σ' C d H'
 | .bad=>False
def tS(K:KK)(E:L2.St→XK)(m:M Fl):TS:=fun D σ H=>∃c F ρ,Rel K c F H σ ρ∧ť K E c F D (m ρ)
section
variable{K:KK}{E:L2.St→XK}{c:Ctx}{F F1:Hp}{D:Ends}
theorem ť.mono{r:Res Fl}(h:ť K E c F D r)(sF:Same F F1):ť K E c F1 D r:=by
 cases r with
 |ok f ρ'=>
  cases f with
  |rt v=>exact fun v σ' F' H' rel s1 q=>h v σ' F' H' rel (sF.trans s1) q
  |nx=>exact fun σ' F' H' rel s1=>h σ' F' H' rel (sF.trans s1)
  |bk=>exact fun σ' F' H' rel s1=>h σ' F' H' rel (sF.trans s1)
  |ct=>exact fun σ' F' H' rel s1=>h σ' F' H' rel (sF.trans s1)
 |exc x ρ'=>exact fun σ' C d F' H' rel s1 q=>h σ' C d F' H' rel (sF.trans s1) q
 |bad=>exact h
theorem ť.bind{α β:Type}{R:RR α β}{σ:L2.St}{H:Hp}{Q:β→Hp→Prop}{r:Res α}{f:α→Ŏ→Res Fl}(h:ť K E c F D (r.bind f))
 (k:∀p ρ1 v F1 H1,Rel K c F1 H1 σ ρ1→Same F F1→R c σ ρ1 F1 H1 p v→ť K E c F1 D (f p ρ1)→Q v H1):bB K E R c F H σ Q r:=by
 cases r with
 |ok p ρ'=>exact fun v F' H' rel s1 s2 q=>k p ρ' v F' H' rel s1 q (ť.mono (show ť K E c F D (f p ρ') from h) s1)
 |exc x ρ'=>exact fun C d F' H' rel s1 q=>h σ C d F' H' rel s1 q
 |bad=>exact h
end
end P
namespace P
open PySem PySem.Spec PyProof.Rows L2 M2
def ġ(i:Nat):M PV:=fun ρ=>match ρ[i]? with
 |some (.sh p)=>.ok p ρ
 |some (.ow ps)=>.ok (.lst ps) (ρ.set i (.sh (.lst ps)))
 |_=>.bad
def Ā(i:Nat):M PV:=fun ρ=>match ρ[i]? with
 |some (.sh p)=>.ok p ρ
 |some (.ow ps)=>.ok (.lst ps) ρ
 |some (.bw ps)=>.ok (.lst ps) ρ
 |some (.rc C ns ps)=>.ok (.ins C ns ps) ρ
 |_=>.bad
def dh(i:Nat):M RV:=fun ρ=>match ρ[i]? with
 |some (.sh p)=>.ok (.sh p) ρ
 |some (.ow ps)=>.ok (.ow ps) (ρ.set i .no)
 |_=>.bad
def mC(p:PV):M PV:=fun ρ=>.ok p ρ
def Ŗ(m:M PV):M RV:=fun ρ=>(m ρ).bind fun p ρ1=>.ok (.sh p) ρ1
def ĕ(m:M RV):M PV:=fun ρ=>(m ρ).bind fun r ρ1=>.ok r.val ρ1
section
variable{K:KK}{c:Ctx}{F H:Hp}{σ:L2.St}{ρ:Ŏ}
theorem at_of{i:Nat}{x:V}(h:(σ[i]?).getD none=some x):σ[i]?=some (some x):=by
 cases q:σ[i]? with
 |none=>rw[q] at h;cases h
 |some y=>rw[q] at h;exact congrArg some h
theorem Rel.ow(r:Rel K c F H σ ρ){i:Nat}{ps:List PV}(e:ρ[i]?=some (.ow ps)):∃a vs,σ[i]?=some (some (.ref a))∧H a=some (.lst vs)∧F a=none∧c.B a=none∧Ĝ K F ps vs∧ř F σ ρ i a:=by
 obtain⟨a,vs,h1,h2,h3,h4,h5⟩:=r.slot i _ e
 exact⟨a,vs,at_of h1,h2,h3,h4,h5,⟨_,_,e,at_of h1,rfl⟩⟩
theorem Rel.move(r:Rel K c F H σ ρ){i:Nat}{a:Addr}(h:ř F σ ρ i a):Rel K c F H σ (ρ.set i .no)∧lq F σ (ρ.set i .no) a:=by
 refine⟨r.Uo rfl trivial,fun j ⟨s,y,q1,q3,q2⟩=>?_⟩
 rcases bJ q1 with⟨_,rfl,_⟩|⟨hj,q⟩
 ·exact q2.elim
 ·exact hj (r.sep j i a ⟨s,y,q,q3,q2⟩ h)
theorem Rel.share(r:Rel K c F H σ ρ){i:Nat}{ps:List PV}(e:ρ[i]?=some (.ow ps)):∃a vs,σ[i]?=some (some (.ref a))∧F a=none∧Rep K (upd F a (.lst vs)) (.lst ps) (.ref a)∧Rel K c (upd F a (.lst vs)) H σ (ρ.set i (.sh (.lst ps))):=by
 obtain⟨a,vs,h1,h2,h3,h4,h5,ho⟩:=r.ow e
 obtain⟨m1,m2⟩:=r.move ho
 have rp:Rep K (upd F a (.lst vs)) (.lst ps) (.ref a):=by
  unfold Rep
  exact⟨a,vs,rfl,aC.of ī,h5.same (Same.upd h3) ps vs⟩
 have q:=(m1.freeze h2 h4 h3 m2).Uo (i:=i) (s:=.sh (.lst ps)) rfl (show aP K c _ H _ (.sh (.lst ps)) from⟨.ref a,by rw[h1];rfl,rp⟩)
 rw[List.set_set] at q
 exact⟨a,vs,h1,h3,rp,q⟩
theorem Dg.mono{F1 H1:Hp}{p:PV}{v:V}(h:Dg K F H p v)(sF:Same F F1)(sH:Same H H1):Dg K F1 H1 p v:=by
 cases p with
 |lst ps=>
  obtain⟨a,vs,h2,h3,h4⟩:=h
  exact⟨a,vs,h2,sH _ _ h3,h4.same sF ps vs⟩
 |ins C ns ps=>
  obtain⟨a,dx,fs,h2,h3,h4,h5⟩:=h
  exact⟨a,dx,fs,h2,sH _ _ h3,h4,h5.same sF ps _⟩
 |_=>exact h.elim
theorem rR.mono{c:Ctx}{σ:L2.St}{ρ ρ':Ŏ}{F1 H1:Hp}{p:PV}{v:V}(h:rR K c σ ρ F H p v)(sF:Same F F1)(sH:Same H H1):rR K c σ ρ' F1 H1 p v:=by
 rcases h with h|h
 ·exact .inl (h.same sF p v)
 ·exact .inr (h.mono sF sH)
theorem rR.lst{c:Ctx}{σ:L2.St}{ρ:Ŏ}{ps:List PV}{v:V}(s:Same F H)(h:rR K c σ ρ F H (.lst ps) v):∃a vs,v=.ref a∧aC K.K H a vs∧Ĝ K F ps vs:=by
 rcases h with h|⟨a,vs,h2,h3,h4⟩
 ·unfold Rep at h
  obtain⟨a,xs,h1,h2,h3⟩:=h
  exact⟨a,xs,h1,s.seq h2,h3⟩
 ·exact⟨a,vs,h2,aC.of h3,h4⟩
theorem rR.tup{c:Ctx}{σ:L2.St}{ρ:Ŏ}{ps:List PV}{v:V}(s:Same F H)(h:rR K c σ ρ F H (.tup ps) v):∃a vs,v=.ref a∧cY K.K H a vs∧Ĝ K F ps vs:=by
 rcases h with h|h
 ·unfold Rep at h
  obtain⟨a,xs,h1,h2,h3⟩:=h
  exact⟨a,xs,h1,Same.tup s h2,h3⟩
 ·exact h.elim
theorem rR.int{c:Ctx}{σ:L2.St}{ρ:Ŏ}{i:Int}{v:V}(h:rR K c σ ρ F H (.int i) v):v=.int i:=by
 rcases h with h|h
 ·unfold Rep at h;exact h
 ·exact h.elim
theorem rR.str{c:Ctx}{σ:L2.St}{ρ:Ŏ}{i:Str}{v:V}(h:rR K c σ ρ F H (.str i) v):v=.str i:=by
 rcases h with h|h
 ·unfold Rep at h;exact h
 ·exact h.elim
theorem rR.bl{c:Ctx}{σ:L2.St}{ρ:Ŏ}{i:Bool}{v:V}(h:rR K c σ ρ F H (.bl i) v):v=.bl i:=by
 rcases h with h|h
 ·unfold Rep at h;exact h
 ·exact h.elim
theorem rR.non{c:Ctx}{σ:L2.St}{ρ:Ŏ}{v:V}(h:rR K c σ ρ F H .non v):v=.non:=by
 rcases h with h|h
 ·unfold Rep at h;exact h
 ·exact h.elim
theorem rR.ty{c:Ctx}{σ:L2.St}{ρ:Ŏ}{n:String}{v:V}(h:rR K c σ ρ F H (.ty n) v):v=.ty n:=by
 rcases h with h|h
 ·unfold Rep at h;exact h
 ·exact h.elim
theorem Rep.int{i:Int}:Rep K F (.int i) (.int i):=by unfold Rep;rfl
theorem Rep.str{i:Str}:Rep K F (.str i) (.str i):=by unfold Rep;rfl
theorem Rep.bl{i:Bool}:Rep K F (.bl i) (.bl i):=by unfold Rep;rfl
theorem Rep.non:Rep K F .non .non:=by unfold Rep;rfl
end
section
variable{X:Cx}{cm:String→Addr}{E:L2.St→XK}{a b e:Expr}{es:List Expr}{pos:Pos}{m ma mb mc:M PV}{mo:M RV}
theorem PT.wk{t t':TT}(h:PT X e t)(i:∀σ H Q,t' σ H Q→t σ H Q):PT X e t':=fun pins s σ H Q I q=>h pins s σ H Q I (i σ H Q q)
theorem PA.wk{t t':TA}(h:PA X es t)(i:∀σ H Q,t' σ H Q→t σ H Q):PA X es t':=fun pos pins s σ H Q I q=>h pos pins s σ H Q I (i σ H Q q)
theorem PW.wk{t t':TT}(h:PW X e t)(i:∀σ H Q,t' σ H Q→t σ H Q):PW X e t':=fun wh pins s σ H Q I q=>h wh pins s σ H Q I (i σ H Q q)
theorem jj.wk{st:List Stmt}{t t':TS}(h:jj X st t)(i:∀D σ H,t' D σ H→t D σ H):jj X st t':=fun pins s σ H D I q=>h pins s σ H D I (i D σ H q)
theorem v_var(i:Nat){x:Str}{pos:Pos}(hN:X.N[i]?=some x:=by rfl)(hv:Gd X.env.scope x:=by first|exact Or.inl rfl|exact Or.inr (Or.inl rfl)|exact Or.inr (Or.inr rfl))(hd:(x== ("__debug__" :Str))=false:=by decide)
 (hcd:(x== ("__classdict__" :Str))=false:=by decide):PE X (.Name x pos) (tV (kk X cm) E (ġ i)):=PE.wk (fL hN hv hd hcd) fun σ H Q ⟨c,F,ρ,rel,h⟩=>by
 unfold ġ at h
 split at h
 ·rename_i p e
  obtain⟨v,h1,h2⟩:=rel.slot i _ e
  exact⟨v,at_of h1,h v F H rel (Same.refl F) (Same.refl H) h2⟩
 ·rename_i ps e
  obtain⟨a,vs,h1,h2,h3,h4⟩:=rel.share e
  exact⟨.ref a,h1,h _ _ H h4 (Same.upd h2) (Same.refl H) h3⟩
 ·exact h.elim
theorem Ă(i:Nat){x:Str}{pos:Pos}(hN:X.N[i]?=some x:=by rfl)(hv:Gd X.env.scope x:=by first|exact Or.inl rfl|exact Or.inr (Or.inl rfl)|exact Or.inr (Or.inr rfl))(hd:(x== ("__debug__" :Str))=false:=by decide)
 (hcd:(x== ("__classdict__" :Str))=false:=by decide):PE X (.Name x pos) (tR (kk X cm) E (Ā i)):=PE.wk (fL hN hv hd hcd) fun σ H Q ⟨c,F,ρ,rel,h⟩=>by
 unfold Ā at h
 split at h
 ·rename_i p e
  obtain⟨v,h1,h2⟩:=rel.slot i _ e
  exact⟨v,at_of h1,h v F H rel (Same.refl F) (Same.refl H) (.inl h2)⟩
 ·rename_i ps e
  obtain⟨a,vs,h1,h2,h3,h4,h5,_⟩:=rel.ow e
  exact⟨.ref a,h1,h _ F H rel (Same.refl F) (Same.refl H) (.inr ⟨a,vs,rfl,h2,h5⟩)⟩
 ·rename_i ps e
  obtain⟨a,vs,h1,h2,h3⟩:=rel.slot i _ e
  exact⟨.ref a,at_of h1,h _ F H rel (Same.refl F) (Same.refl H) (.inr ⟨a,vs,rfl,(rel.lent a _ h2).1,h3⟩)⟩
 ·rename_i C ns ps e
  obtain⟨a,dx,fs,h1,h2,h3,h4,h5,h6⟩:=rel.slot i _ e
  exact⟨.ref a,at_of h1,h _ F H rel (Same.refl F) (Same.refl H) (.inr ⟨a,dx,fs,rfl,h2,h5,h6.1⟩)⟩
 ·exact h.elim
theorem iu(i:Nat){x:Str}{pos:Pos}(hN:X.N[i]?=some x:=by rfl)(hv:Gd X.env.scope x:=by first|exact Or.inl rfl|exact Or.inr (Or.inl rfl)|exact Or.inr (Or.inr rfl))(hd:(x== ("__debug__" :Str))=false:=by decide)
 (hcd:(x== ("__classdict__" :Str))=false:=by decide):PE X (.Name x pos) (tO (kk X cm) E (dh i)):=PE.wk (fL hN hv hd hcd) fun σ H Q ⟨c,F,ρ,rel,h⟩=>by
 unfold dh at h
 split at h
 ·rename_i p e
  obtain⟨v,h1,h2⟩:=rel.slot i _ e
  exact⟨v,at_of h1,h v F H rel (Same.refl F) (Same.refl H) h2⟩
 ·rename_i ps e
  obtain⟨a,vs,h1,h2,h3,h4,h5,h6⟩:=rel.ow e
  obtain⟨m1,m2⟩:=rel.move h6
  exact⟨.ref a,h1,h _ F H m1 (Same.refl F) (Same.refl H) ⟨a,vs,rfl,h2,h3,h4,m2,h5⟩⟩
 ·exact h.elim
theorem Di{v:V}(p:PV)(h:PE X e (tC v))(hr:∀F,Rep (kk X cm) F p v:=by intro _;unfold Rep;rfl):PE X e (tV (kk X cm) E (mC p)):=PE.wk h fun σ H Q ⟨c,F,ρ,rel,h⟩=>h v F H rel (Same.refl F) (Same.refl H) (hr F)
theorem ă{i j pos}:PE X (.Constant (.int i) j pos) (tV (kk X cm) E (mC (.int i))):=Di _ WR
theorem tU{i j pos}:PE X (.Constant (.bool i) j pos) (tV (kk X cm) E (mC (.bl i))):=Di _ ZcM
theorem fY{j pos}:PE X (.Constant .none j pos) (tV (kk X cm) E (mC .non)):=Di _ WT
theorem Ŭ{x j pos}:PE X (.Constant (.str x) j pos) (tV (kk X cm) E (mC (.str x))):=Di _ WW
theorem ā(h:PE X e (tV (kk X cm) E m)):PE X e (tR (kk X cm) E m):=PE.wk h fun σ H Q ⟨c,F,ρ,rel,h⟩=>⟨c,F,ρ,rel,h.rel fun _ _ _ _ _ _ q=>.inl q⟩
theorem ĭ(h:PE X e (tV (kk X cm) E m)):PE X e (tO (kk X cm) E (Ŗ m)):=PE.wk h fun σ H Q ⟨c,F,ρ,rel,h⟩=>⟨c,F,ρ,rel,h.bind fun p ρ1 v F1 H1 Ę s1 s2 q h1=>h1 v F1 H1 Ę (Same.refl _) (Same.refl _) q⟩
theorem Held.share{K:KK}{c:Ctx}{F H:Hp}{σ:L2.St}{ρ:Ŏ}{ps:List PV}{v:V}(rel:Rel K c F H σ ρ)(h:Held K c σ ρ F H ps v):∃F1,Same F F1∧Rel K c F1 H σ ρ∧Rep K F1 (.lst ps) v:=by
 obtain⟨a,vs,rfl,h1,h2,h3,h4,h5⟩:=h
 refine⟨_,Same.upd h2,rel.freeze h1 h3 h2 h4,?_⟩
 unfold Rep
 exact⟨a,vs,rfl,aC.of ī,h5.same (Same.upd h2) ps vs⟩
theorem Dh.share{K:KK}{c:Ctx}{F H:Hp}{σ:L2.St}{ρ:Ŏ}{ps qs:List PV}{v:V}(rel:Rel K c F H σ ρ)(h:Dh K c σ ρ F H ps qs v):∃F1,Same F F1∧Rel K c F1 H σ ρ∧Rep K F1 (.tup (ps ++ [.lst qs])) v:=by
 obtain⟨p,a,xs,vs,rfl,h0,hx,h1,h2,h3,h4,h5⟩:=h
 refine⟨_,Same.upd h2,rel.freeze h1 h3 h2 h4,?_⟩
 have ra:Rep K (upd F a (.lst vs)) (.lst qs) (.ref a):=by
  unfold Rep
  exact⟨a,vs,rfl,aC.of ī,h5.same (Same.upd h2) qs vs⟩
 unfold Rep
 exact⟨p,_,rfl,cY.of (Same.upd h2 _ _ h0),Ĝ.append (hx.same (Same.upd h2) ps xs) (Ĝ.cons ra Ĝ.nil)⟩
theorem ę(h:PE X e (tO (kk X cm) E mo)):PE X e (tV (kk X cm) E (ĕ mo)):=PE.wk h fun σ H Q ⟨c,F,ρ,rel,h⟩=>⟨c,F,ρ,rel,h.bind fun r ρ1 v F1 H1 Ę s1 s2 q h1=>by
 cases r with
 |sh p=>exact h1 v F1 H1 Ę (Same.refl _) (Same.refl _) q
 |ow ps=>
  obtain⟨F2,s3,ŉ,rp⟩:=Held.share Ę q
  exact h1 v F2 H1 ŉ s3 (Same.refl _) rp
 |ot ps qs=>
  obtain⟨F2,s3,ŉ,rp⟩:=Dh.share Ę q
  exact h1 v F2 H1 ŉ s3 (Same.refl _) rp⟩
def Ĉ(f:PV→PV→Option PV)(ma mb:M PV):M PV:=fun ρ=>(ma ρ).bind fun p ρ1=>(mb ρ1).bind fun q ρ2=>Res.mX (f p q) ρ2
def Ł(f:PV→PV→Option RV)(ma mb:M PV):M RV:=fun ρ=>(ma ρ).bind fun p ρ1=>(mb ρ1).bind fun q ρ2=>Res.mX (f p q) ρ2
def jr(K:KK)(r:R2)(f:PV→PV→Option PV):Prop:=∀{c:Ctx} {F H:Hp} {σ:L2.St} {ρ:Ŏ} {p q pv:PV} {v u:V} {Q:VK},Rel K c F H σ ρ→rR K c σ ρ F H p v→rR K c σ ρ F H q u→f p q=some pv→
 (∀z F' H',Rel K c F' H' σ ρ→Same F F'→Same H H'→Rep K F' pv z→Q z H')→r v u H Q
def OpO(K:KK)(r:R2)(f:PV→PV→Option RV):Prop:=∀{c:Ctx} {F H:Hp} {σ:L2.St} {ρ:Ŏ} {p q:PV} {pv:RV} {v u:V} {Q:VK},Rel K c F H σ ρ→rR K c σ ρ F H p v→rR K c σ ρ F H q u→f p q=some pv→
 (∀z F' H',Rel K c F' H' σ ρ→Same F F'→Same H H'→rO K c σ ρ F' H' pv z→Q z H')→r v u H Q
theorem Dj{r:R2}{f:PV→PV→Option PV}(hf:jr (kk X cm) r f){σ:L2.St}{H:Hp}{Q:VK}(h:tV (kk X cm) E (Ĉ f ma mb) σ H Q):tOp r (tR (kk X cm) E ma) (tR (kk X cm) E mb) σ H Q:=by
 obtain⟨c,F,ρ,rel,h⟩:=h
 refine⟨c,F,ρ,rel,h.bind fun p ρ1 v F1 H1 Ę _ _ r1 h1=>⟨c,F1,ρ1,Ę,h1.bind fun q ρ2 u F2 H2 ŉ sF sH r2 h2=>?_⟩⟩
 cases e:f p q with
 |none=>rw[e] at h2;exact h2.elim
 |some pv=>rw[e] at h2;exact hf ŉ (r1.mono sF sH) r2 e fun z F' H' bM s1 s2 q'=>h2 z F' H' bM s1 s2 q'
theorem Zdg{r:R2}{f:PV→PV→Option RV}(hf:OpO (kk X cm) r f){σ:L2.St}{H:Hp}{Q:VK}(h:tO (kk X cm) E (Ł f ma mb) σ H Q):tOp r (tR (kk X cm) E ma) (tR (kk X cm) E mb) σ H Q:=by
 obtain⟨c,F,ρ,rel,h⟩:=h
 refine⟨c,F,ρ,rel,h.bind fun p ρ1 v F1 H1 Ę _ _ r1 h1=>⟨c,F1,ρ1,Ę,h1.bind fun q ρ2 u F2 H2 ŉ sF sH r2 h2=>?_⟩⟩
 cases e:f p q with
 |none=>rw[e] at h2;exact h2.elim
 |some pv=>rw[e] at h2;exact hf ŉ (r1.mono sF sH) r2 e fun z F' H' bM s1 s2 q'=>h2 z F' H' bM s1 s2 q'
theorem Đ{op:Operator}{r:R2}{f:PV→PV→Option PV}(hf:jr (kk X cm) r f)(ho:ao X (binaryOp op) r)(ha:PE X a (tR (kk X cm) E ma))(hb:PE X b (tR (kk X cm) E mb)):PE X (.BinOp a op b pos) (tV (kk X cm) E (Ĉ f ma mb)):=PE.wk (Ui ho ha hb) fun _ _ _ h=>Dj hf h
theorem ņ{op:Operator}{r:R2}{f:PV→PV→Option RV}(hf:OpO (kk X cm) r f)(ho:ao X (binaryOp op) r)(ha:PE X a (tR (kk X cm) E ma))(hb:PE X b (tR (kk X cm) E mb)):PE X (.BinOp a op b pos) (tO (kk X cm) E (Ł f ma mb)):=PE.wk (Ui ho ha hb) fun _ _ _ h=>Zdg hf h
theorem eV{op:CmpOp}{r:R2}{f:PV→PV→Option PV}(hf:jr (kk X cm) r f)(ho:ao X (compareOp op) r)(ha:PE X a (tR (kk X cm) E ma))(hb:PE X b (tR (kk X cm) E mb))(hm:behindInMarks op b=false):PE X (.Compare a [op] [b] pos) (tV (kk X cm) E (Ĉ f ma mb)):=
 PE.wk (QZ ho ha hb hm) fun _ _ _ h=>Dj hf h
theorem Ħ{r:R2}{f:PV→PV→Option PV}(hf:jr (kk X cm) r f)(hr:zT X r)(ha:PE X a (tR (kk X cm) E ma))(hb:PE X b (tR (kk X cm) E mb))(hs:CT b):PE X (.Subscript a b pos) (tV (kk X cm) E (Ĉ f ma mb)):=
 PE.wk (Zc0 hr ha hb hs) fun _ _ _ h=>Dj hf h
def jh(f:PV→Option PV)(ma:M PV):M PV:=fun ρ=>(ma ρ).bind fun p ρ1=>Res.mX (f p) ρ1
def UnV(K:KK)(r:V→Hp→VK→Prop)(f:PV→Option PV):Prop:=∀{c:Ctx} {F H:Hp} {σ:L2.St} {ρ:Ŏ} {p pv:PV} {v:V} {Q:VK},Rel K c F H σ ρ→rR K c σ ρ F H p v→f p=some pv→
 (∀z F' H',Rel K c F' H' σ ρ→Same F F'→Same H H'→Rep K F' pv z→Q z H')→r v H Q
theorem vX{op:UnaryOp}{r:V→Hp→VK→Prop}{f:PV→Option PV}(hf:UnV (kk X cm) r f)(ho:QV X (unaryOp op) r)(ha:PE X a (tR (kk X cm) E ma)):PE X (.UnaryOp op a pos) (tV (kk X cm) E (jh f ma)):=PE.wk (ZcU ho ha) fun σ H Q ⟨c,F,ρ,rel,h⟩=>
 ⟨c,F,ρ,rel,h.bind fun p ρ1 v F1 H1 Ę _ _ r1 h1=>by
   cases e:f p with
   |none=>rw[e] at h1;exact h1.elim
   |some pv=>rw[e] at h1;exact hf Ę r1 e fun z F' H' bM s1 s2 q'=>h1 z F' H' bM s1 s2 q'⟩
def Yt:PV→Option Bool
 | .bl b=>some b
 | .int i=>some (i != 0)
 | .non=>some false
 | .str y=>if y.length≤sizeLine then some ((y.length:Int) != 0) else none
 | .lst ps=>some (!ps.isEmpty)
 | .tup ps=>some (!ps.isEmpty)
 |_=>none
def cI(m:M PV):M Bool:=fun ρ=>(m ρ).bind fun p ρ1=>Res.mX (Yt p) ρ1
theorem Zdh{K:KK}{c:Ctx}{F H:Hp}{σ:L2.St}{ρ:Ŏ}{p:PV}{v:V}{k:Bool}(s:Same F H)(r:rR K c σ ρ F H p v)(h:Yt p=some k):Xw K.K v H k:=by
 cases p with
 |bl b=>cases r.bl;cases h;rfl
 |int i=>cases r.int;cases h;rfl
 |non=>cases r.non;cases h;rfl
 |str y=>
  cases r.str
  have h':(if y.length≤sizeLine then some ((y.length:Int) != 0) else none)=some k:=h
  split at h'
  ·rename_i hy;cases h';exact⟨hy,rfl⟩
  ·cases h'
 |lst ps=>
  obtain⟨a,vs,rfl,h1,h2⟩:=r.lst s
  cases h
  have e:ps.isEmpty=vs.isEmpty:=by cases h2.pr<;>rfl
  exact .inl ⟨vs,h1,by rw[e]⟩
 |tup ps=>
  obtain⟨a,vs,rfl,h1,h2⟩:=r.tup s
  cases h
  have e:ps.isEmpty=vs.isEmpty:=by cases h2.pr<;>rfl
  exact .inr (.inl ⟨vs,h1,by rw[e]⟩)
 |ins C ns ps=>cases h
 |xc C ns ps=>cases h
 |ty n=>cases h
 |cls C=>cases h
theorem aR(ha:PE X a (tR (kk X cm) E ma))(he:∀whole,isTrue a X.env whole=(do let v ←whole;standAt a.pos;holding [v] (truthy v)):=by intro _;rfl):PT X a (tB (kk X cm) E (cI ma)):=PT.wk (Gu ha he) fun σ H Q ⟨c,F,ρ,rel,h⟩=>
 ⟨c,F,ρ,rel,h.bind fun p ρ1 v F1 H1 Ę _ _ r1 h1=>by
   cases e:Yt p with
   |none=>rw[e] at h1;exact h1.elim
   |some k=>rw[e] at h1;exact⟨k,Zdh Ę.sub r1 e,h1 k F1 H1 Ę (Same.refl _) (Same.refl _) rfl⟩⟩
def cZ(m:M PV):M Bool:=fun ρ=>(m ρ).bind fun p ρ1=>match p with
 | .bl b=>.ok b ρ1
 |_=>.bad
theorem Zdi{σ:L2.St}{H:Hp}{Q:Bool→Hp→Prop}(h:tB (kk X cm) E (cZ m) σ H Q):M2.Uk (tV (kk X cm) E m) σ H Q:=by
 obtain⟨c,F,ρ,rel,h⟩:=h
 refine⟨c,F,ρ,rel,h.bind fun p ρ1 v F1 H1 Ę _ _ r1 h1=>?_⟩
 cases p with
 |bl b=>
  have e:v=.bl b:=by have r1':Rep (kk X cm) F1 (.bl b) v:=r1;unfold Rep at r1';exact r1'
  subst e
  exact h1 b F1 H1 Ę (Same.refl _) (Same.refl _) rfl
 |_=>exact h1.elim
theorem œ{op:CmpOp}{r:R2}{f:PV→PV→Option PV}(hf:jr (kk X cm) r f)(ho:ao X (compareOp op) r)(ha:PE X a (tR (kk X cm) E ma))(hb:PE X b (tR (kk X cm) E mb))(hm:behindInMarks op b=false):PT X (.Compare a [op] [b] pos) (tB (kk X cm) E (cZ (Ĉ f ma mb))):=
 PT.wk (Yc ho ha hb hm) fun σ H Q h=>by
   obtain⟨c,F,ρ,rel,h⟩:=Zdi h
   exact Dj hf ⟨c,F,ρ,rel,h⟩
def tW(f g:PV→PV→Option PV)(ma mb mc:M PV):M PV:=fun ρ=>(ma ρ).bind fun p ρ1=>(mb ρ1).bind fun q ρ2=>(Res.mX (f p q) ρ2).bind fun z ρ3=>match z with
 | .bl true=>(mc ρ3).bind fun w ρ4=>Res.mX (g q w) ρ4
 | .bl false=>.ok (.bl false) ρ3
 |_=>.bad
theorem Zdj{r r':R2}{f g:PV→PV→Option PV}(hf:jr (kk X cm) r f)(hg:jr (kk X cm) r' g){σ:L2.St}{H:Hp}{Q:VK}(h:tV (kk X cm) E (tW f g ma mb mc) σ H Q):M2.GK r r' (tR (kk X cm) E ma) (tR (kk X cm) E mb) (tR (kk X cm) E mc) σ H Q:=by
 obtain⟨c,F,ρ,rel,h⟩:=h
 refine⟨c,F,ρ,rel,h.bind fun p ρ1 v F1 H1 Ę _ _ r1 h1=>⟨c,F1,ρ1,Ę,h1.bind fun q ρ2 u F2 H2 ŉ sF sH r2 h2=>?_⟩⟩
 cases e:f p q with
 |none=>rw[e] at h2;exact h2.elim
 |some pv=>
  rw[e] at h2
  refine hf ŉ (r1.mono sF sH) r2 e fun z F' H' bM s1 s2 q'=>?_
  cases pv with
  |bl k=>
   have ez:z=.bl k:=by unfold Rep at q';exact q'
   subst ez
   cases k with
   |false=>exact h2 _ F' H' bM s1 s2 q'
   |true=>
    refine⟨c,F',ρ2,bM,bB.bind (bB.mono h2 s1 s2) fun w ρ4 x F4 H4 vY s3 s4 r4 h4=>?_⟩
    cases e':g q w with
    |none=>rw[e'] at h4;exact h4.elim
    |some pv'=>rw[e'] at h4;exact hg vY (r2.mono (s1.trans s3) (s2.trans s4)) r4 e' fun z F' H' bM s1 s2 q'=>h4 z F' H' bM s1 s2 q'
  |_=>exact h2.elim
theorem qI{op op':CmpOp}{r r':R2}{f g:PV→PV→Option PV}{c:Expr}(hf:jr (kk X cm) r f)(hg:jr (kk X cm) r' g)(ho:ao X (compareOp op) r)(ho':ao X (compareOp op') r')(ha:PE X a (tR (kk X cm) E ma))(hb:PE X b (tR (kk X cm) E mb))(hc:PE X c (tR (kk X cm) E mc))
 (hm:lastMarks [op,op'] [b,c]=false:=by with_unfolding_all rfl):PE X (.Compare a [op,op'] [b,c] pos) (tV (kk X cm) E (tW f g ma mb mc)):=PE.wk (GP ho ho' ha hb hc hm) fun _ _ _ h=>Zdj hf hg h
def dj(m:M Bool):M Bool:=fun ρ=>(m ρ).bind fun b ρ1=>.ok (!b) ρ1
theorem iw{m:M Bool}(h:PT X a (tB (kk X cm) E m)):PT X (.UnaryOp .Not a pos) (tB (kk X cm) E (dj m)):=PT.wk (W_ h) fun σ H Q ⟨c,F,ρ,rel,h⟩=>
 ⟨c,F,ρ,rel,h.bind fun p ρ1 v F1 H1 Ę _ _ r1 h1=>h1 _ F1 H1 Ę (Same.refl _) (Same.refl _) (by have e:p=v:=r1;rw[e];rfl)⟩
def iy(ma mb:M Bool):M Bool:=fun ρ=>(ma ρ).bind fun b ρ1=>if b=true then mb ρ1 else .ok false ρ1
def Rz(ma mb:M Bool):M Bool:=fun ρ=>(ma ρ).bind fun b ρ1=>if b=true then .ok true ρ1 else mb ρ1
variable{ta tb:M Bool}{rest:List Expr}
theorem fZ(h:PT X a (tB (kk X cm) E ta)):PW X (.BoolOp .And [a] pos) (tB (kk X cm) E ta):=QK h
theorem Uq(h:PT X a (tB (kk X cm) E ta)):PW X (.BoolOp .Or [a] pos) (tB (kk X cm) E ta):=WX h
theorem w_and(ha:PT X a (tB (kk X cm) E ta))(hb:PW X (.BoolOp .And (b::rest) pos) (tB (kk X cm) E tb)):PW X (.BoolOp .And (a::b::rest) pos) (tB (kk X cm) E (iy ta tb)):=PW.wk (WY ha hb) fun σ H Q ⟨c,F,ρ,rel,h⟩=>
 ⟨c,F,ρ,rel,h.bind fun p ρ1 v F1 H1 Ę _ _ r1 h1=>by
   have e:p=v:=r1
   subst e
   cases p with
   |true=>exact⟨c,F1,ρ1,Ę,h1⟩
   |false=>exact h1 false F1 H1 Ę (Same.refl _) (Same.refl _) rfl⟩
theorem w_or(ha:PT X a (tB (kk X cm) E ta))(hb:PW X (.BoolOp .Or (b::rest) pos) (tB (kk X cm) E tb)):PW X (.BoolOp .Or (a::b::rest) pos) (tB (kk X cm) E (Rz ta tb)):=PW.wk (ZcN ha hb) fun σ H Q ⟨c,F,ρ,rel,h⟩=>
 ⟨c,F,ρ,rel,h.bind fun p ρ1 v F1 H1 Ę _ _ r1 h1=>by
   have e:p=v:=r1
   subst e
   cases p with
   |false=>exact⟨c,F1,ρ1,Ę,h1⟩
   |true=>exact h1 true F1 H1 Ę (Same.refl _) (Same.refl _) rfl⟩
def dY(ma mb:M PV):M PV:=fun ρ=>(ma ρ).bind fun p ρ1=>match p with
 | .bl true=>mb ρ1
 | .bl false=>.ok (.bl false) ρ1
 |_=>.bad
def mOr(ma mb:M PV):M PV:=fun ρ=>(ma ρ).bind fun p ρ1=>match p with
 | .bl true=>.ok (.bl true) ρ1
 | .bl false=>mb ρ1
 |_=>.bad
def Hv(ma:M PV):M PV:=fun ρ=>(ma ρ).bind fun p ρ1=>match p with
 | .bl b=>.ok (.bl (!b)) ρ1
 |_=>.bad
theorem tX{K:KK}{F:Hp}{b:Bool}{v:V}(h:Rep K F (.bl b) v):v=.bl b:=by unfold Rep at h;exact h
theorem iz{op}(h:PE X a (tV (kk X cm) E ma)):PE X (.BoolOp op [a] pos) (tV (kk X cm) E ma):=Xa h
theorem v_and(ha:PE X a (tV (kk X cm) E ma))(hb:PE X (.BoolOp .And (b::rest) pos) (tV (kk X cm) E mb)):PE X (.BoolOp .And (a::b::rest) pos) (tV (kk X cm) E (dY ma mb)):=PE.wk (Yd ha hb) fun σ H Q ⟨c,F,ρ,rel,h⟩=>
 ⟨c,F,ρ,rel,h.bind fun p ρ1 v F1 H1 Ę _ _ r1 h1=>by
   cases p with
   |bl k=>
    cases tX r1
    cases k with
    |true=>exact⟨c,F1,ρ1,Ę,h1⟩
    |false=>exact h1 _ F1 H1 Ę (Same.refl _) (Same.refl _) r1
   |_=>exact h1.elim⟩
theorem v_not(ha:PE X a (tV (kk X cm) E ma)):PE X (.UnaryOp .Not a pos) (tV (kk X cm) E (Hv ma)):=PE.wk (Ye ha) fun σ H Q ⟨c,F,ρ,rel,h⟩=>
 ⟨c,F,ρ,rel,h.bind fun p ρ1 v F1 H1 Ę _ _ r1 h1=>by
   cases p with
   |bl k=>
    cases tX r1
    exact h1 _ F1 H1 Ę (Same.refl _) (Same.refl _) Rep.bl
   |_=>exact h1.elim⟩
def cL{α:Type}(t:M Bool)(ma mb:M α):M α:= fun ρ=>(t ρ).bind fun b ρ1=>if b=true then ma ρ1 else mb ρ1
def ě:M (List PV):=fun ρ=>.ok [] ρ
def Ą(ma:M PV)(mr:M (List PV)):M (List PV):=fun ρ=>(ma ρ).bind fun p ρ1=>(mr ρ1).bind fun ps ρ2=>.ok (p::ps) ρ2
variable{mr:M (List PV)}
theorem Ĥ:PA X [] (tL (kk X cm) E ě):=PA.wk iW fun σ H Q ⟨c,F,ρ,rel,h⟩=>h [] F H rel (Same.refl _) (Same.refl _) Ĝ.nil
theorem ć(ha:PE X e (tV (kk X cm) E ma))(hr:PA X es (tL (kk X cm) E mr))(hs:starEach (e::es) X.env=(false,eval e X.env)::starEach es X.env:=by exact İ rfl):PA X (e::es) (tL (kk X cm) E (Ą ma mr)):=PA.wk (bY ha hr hs) fun σ H Q ⟨c,F,ρ,rel,h⟩=>
 ⟨c,F,ρ,rel,h.bind fun p ρ1 v F1 H1 Ę _ _ r1 h1=>⟨c,F1,ρ1,Ę,h1.bind fun ps ρ2 vs F2 H2 ŉ sF sH r2 h2=>h2 _ F2 H2 ŉ (Same.refl _) (Same.refl _) (Ĝ.cons (Rep.same sF p v r1) r2)⟩⟩
theorem Ķ:PA X [] (tRL (kk X cm) E ě):=PA.wk iW fun σ H Q ⟨c,F,ρ,rel,h⟩=>h [] F H rel (Same.refl _) (Same.refl _) .nil
theorem Ģ(ha:PE X e (tR (kk X cm) E ma))(hr:PA X es (tRL (kk X cm) E mr))(hs:starEach (e::es) X.env=(false,eval e X.env)::starEach es X.env:=by exact İ rfl):PA X (e::es) (tRL (kk X cm) E (Ą ma mr)):=PA.wk (bY ha hr hs) fun σ H Q ⟨c,F,ρ,rel,h⟩=>
 ⟨c,F,ρ,rel,h.bind fun p ρ1 v F1 H1 Ę _ _ r1 h1=>⟨c,F1,ρ1,Ę,h1.bind fun ps ρ2 vs F2 H2 ŉ sF sH r2 h2=>h2 _ F2 H2 ŉ (Same.refl _) (Same.refl _) (.cons (rR.mono r1 sF sH) r2)⟩⟩
def Ď:M (List Slot):=fun ρ=>.ok [] ρ
def Ė(ma:M PV)(mr:M (List Slot)):M (List Slot):=fun ρ=>(ma ρ).bind fun p ρ1=>(mr ρ1).bind fun as ρ2=>.ok (.sh p::as) ρ2
def dw:Slot→Option Slot
 | .sh p=>some (.sh p)
 | .ow ps=>some (.bw ps)
 | .bw ps=>some (.bw ps)
 |_=>none
def ą(i:Nat)(mr:M (List Slot)):M (List Slot):=fun ρ=>match(ρ[i]?).bind dw with
 |none=>.bad
 |some _=>(mr ρ).bind fun as ρ2=>match(ρ2[i]?).bind dw with
  |some s=>.ok (s::as) ρ2
  |none=>.bad
variable{ms:M (List Slot)}
theorem č:PA X [] (tA (kk X cm) E Ď):=PA.wk iW fun σ H Q ⟨c,F,ρ,rel,h⟩=>h [] F H rel (Same.refl _) (Same.refl _) .nil
theorem ė(ha:PE X e (tV (kk X cm) E ma))(hr:PA X es (tA (kk X cm) E ms))(hs:starEach (e::es) X.env=(false,eval e X.env)::starEach es X.env:=by exact İ rfl):PA X (e::es) (tA (kk X cm) E (Ė ma ms)):=PA.wk (bY ha hr hs) fun σ H Q ⟨c,F,ρ,rel,h⟩=>
 ⟨c,F,ρ,rel,h.bind fun p ρ1 v F1 H1 Ę _ _ r1 h1=>⟨c,F1,ρ1,Ę,h1.bind fun as ρ2 vs F2 H2 ŉ sF sH r2 h2=>h2 _ F2 H2 ŉ (Same.refl _) (Same.refl _) (.cons (show cD _ _ _ (.sh p) v from Rep.same sF p v r1) r2)⟩⟩
theorem Dk{K:KK}{c:Ctx}{F H:Hp}{σ:L2.St}{ρ:Ŏ}{i:Nat}{s:Slot}(rel:Rel K c F H σ ρ)(h:(ρ[i]?).bind dw=some s):∃v,σ[i]?=some (some v)∧cD K F H s v:=by
 cases e:ρ[i]? with
 |none=>rw[e] at h;cases h
 |some sl=>
  rw[e] at h
  have h':dw sl=some s:=h
  cases sl with
  |sh p=>
   cases h'
   obtain⟨v,h1,h2⟩:=rel.slot i _ e
   exact⟨v,at_of h1,h2⟩
  |ow ps=>
   cases h'
   obtain⟨a,vs,h1,h2,h3,h4,h5,_⟩:=rel.ow e
   exact⟨.ref a,h1,a,vs,rfl,h2,h3,h5⟩
  |bw ps=>
   cases h'
   obtain⟨a,vs,h1,h2,h3⟩:=rel.slot i _ e
   exact⟨.ref a,at_of h1,a,vs,rfl,(rel.lent a _ h2).1,(rel.lent a _ h2).2,h3⟩
  |no=>cases h'
  |rc C ns ps=>cases h'
  |ot ps qs=>cases h'
theorem Ć(i:Nat){x:Str}{px:Pos}(hN:X.N[i]?=some x:=by rfl)(hv:Gd X.env.scope x:=by first|exact Or.inl rfl|exact Or.inr (Or.inl rfl)|exact Or.inr (Or.inr rfl))(hd:(x== ("__debug__" :Str))=false:=by decide)
 (hcd:(x== ("__classdict__" :Str))=false:=by decide)(hr:PA X es (tA (kk X cm) E ms))(hs:starEach (.Name x px::es) X.env=(false,eval (.Name x px) X.env)::starEach es X.env:=by exact İ rfl):PA X (.Name x px::es) (tA (kk X cm) E (ą i ms)):=
 PA.wk (bY (fL hN hv hd hcd) hr hs) fun σ H Q ⟨c,F,ρ,rel,h⟩=>by
   unfold ą at h
   cases e:(ρ[i]?).bind dw with
   |none=>rw[e] at h;exact h.elim
   |some s0=>
    rw[e] at h
    obtain⟨v,hv,_⟩:=Dk rel e
    refine⟨v,hv,c,F,ρ,rel,bB.bind h fun as ρ2 vs F2 H2 ŉ sF sH r2 h2=>?_⟩
    cases e2:(ρ2[i]?).bind dw with
    |none=>simp only[e2] at h2;exact h2.elim
    |some s=>
     simp only[e2] at h2
     obtain⟨v',hv',r1⟩:=Dk ŉ e2
     rw[hv] at hv'
     cases hv'
     exact h2 _ F2 H2 ŉ (Same.refl _) (Same.refl _) (.cons r1 r2)
def Ř(mr:M (List PV)):M PV:=fun ρ=>(mr ρ).bind fun ps ρ1=>if ps.length≤16777216 then .ok (.tup ps) ρ1 else .bad
def bF(mr:M (List PV)):M RV:=fun ρ=>(mr ρ).bind fun ps ρ1=>if ps.length≤16777216 then .ok (.ow ps) ρ1 else .bad
theorem ō:sizeLine=16777216:=sizeLine_eq
theorem ŋ{x1}(h:PA X es (tL (kk X cm) E mr)):PE X (.Tuple es x1 pos) (tV (kk X cm) E (Ř mr)):=PE.wk (XC h) fun σ H Q ⟨c,F,ρ,rel,h⟩=>
 ⟨c,F,ρ,rel,h.bind fun ps ρ1 vs F1 H1 Ę _ _ r1 h1=>by
   split at h1
   ·rename_i hz
    refine⟨by rw[←Ĝ.length r1,ō];exact hz,fun p hp=>h1 _ _ _ (Ę.alloc hp) (Same.upd (Ę.sub.free hp)) (Same.upd hp) ?_⟩
    show Rep _ _ _ _
    unfold Rep
    exact⟨p,vs,rfl,cY.of ī,Ĝ.same (Same.upd (Ę.sub.free hp)) ps vs r1⟩
   ·exact h1.elim⟩
theorem gb{K:KK}{c:Ctx}{F H:Hp}{σ:L2.St}{ρ:Ŏ}{ps:List PV}{vs:List V}{a:Addr}(rel:Rel K c F H σ ρ)(ha:H a=none)(r:Ĝ K F ps vs):Rel K c F (upd H a (.lst vs)) σ ρ∧Held K c σ ρ F (upd H a (.lst vs)) ps (.ref a):=
 ⟨rel.made ha,a,vs,rfl,ī,rel.sub.free ha,rel.base.free ha,rel.fresh ha,r⟩
theorem ŭ(h:PA X es (tL (kk X cm) E mr)):PE X (.List es pos) (tO (kk X cm) E (bF mr)):=PE.wk (XD h) fun σ H Q ⟨c,F,ρ,rel,h⟩=>
 ⟨c,F,ρ,rel,h.bind fun ps ρ1 vs F1 H1 Ę _ _ r1 h1=>by
   split at h1
   ·rename_i hz
    refine⟨by rw[←Ĝ.length r1,ō];exact hz,fun p hp=>?_⟩
    obtain⟨q1,q2⟩:=gb Ę hp r1
    exact h1 _ _ _ q1 (Same.refl _) (Same.upd hp) q2
   ·exact h1.elim⟩
def dz(f:List PV→Option PV)(mr:M (List PV)):M PV:=fun ρ=>(mr ρ).bind fun ps ρ1=>Res.mX (f ps) ρ1
def nG(f:List PV→Option RV)(mr:M (List PV)):M RV:=fun ρ=>(mr ρ).bind fun ps ρ1=>Res.mX (f ps) ρ1
def dB(K:KK)(r:List V→Hp→VK→Prop)(f:List PV→Option PV):Prop:=∀{c:Ctx} {F H:Hp} {σ:L2.St} {ρ:Ŏ} {ps:List PV} {pv:PV} {vs:List V} {Q:VK},Rel K c F H σ ρ→rRL K c σ ρ F H ps vs→f ps=some pv→
 (∀z F' H',Rel K c F' H' σ ρ→Same F F'→Same H H'→Rep K F' pv z→Q z H')→r vs H Q
def Ur(K:KK)(r:List V→Hp→VK→Prop)(f:List PV→Option RV):Prop:=∀{c:Ctx} {F H:Hp} {σ:L2.St} {ρ:Ŏ} {ps:List PV} {pv:RV} {vs:List V} {Q:VK},Rel K c F H σ ρ→rRL K c σ ρ F H ps vs→f ps=some pv→
 (∀z F' H',Rel K c F' H' σ ρ→Same F F'→Same H H'→rO K c σ ρ F' H' pv z→Q z H')→r vs H Q
theorem Ŷ{r:List V→Hp→VK→Prop}{f:List PV→Option PV}(hf:dB (kk X cm) r f){σ:L2.St}{H:Hp}{Q:VK}(h:tV (kk X cm) E (dz f mr) σ H Q):tCB r (tRL (kk X cm) E mr) σ H Q:=by
 obtain⟨c,F,ρ,rel,h⟩:=h
 refine⟨c,F,ρ,rel,h.bind fun p ρ1 v F1 H1 Ę _ _ r1 h1=>?_⟩
 cases e:f p with
 |none=>rw[e] at h1;exact h1.elim
 |some pv=>rw[e] at h1;exact hf Ę r1 e fun z F' H' bM s1 s2 q'=>h1 z F' H' bM s1 s2 q'
theorem vZ{r:List V→Hp→VK→Prop}{f:List PV→Option RV}(hf:Ur (kk X cm) r f){σ:L2.St}{H:Hp}{Q:VK}(h:tO (kk X cm) E (nG f mr) σ H Q):tCB r (tRL (kk X cm) E mr) σ H Q:=by
 obtain⟨c,F,ρ,rel,h⟩:=h
 refine⟨c,F,ρ,rel,h.bind fun p ρ1 v F1 H1 Ę _ _ r1 h1=>?_⟩
 cases e:f p with
 |none=>rw[e] at h1;exact h1.elim
 |some pv=>rw[e] at h1;exact hf Ę r1 e fun z F' H' bM s1 s2 q'=>h1 z F' H' bM s1 s2 q'
end
end P
namespace P
open PySem PySem.Spec PyProof.Rows L2 M2 M3
def dD:M Fl:=fun ρ=>.ok .nx ρ
def mBk:M Fl:=fun ρ=>.ok .bk ρ
def mCt:M Fl:=fun ρ=>.ok .ct ρ
def ĝ(a b:M Fl):M Fl:=fun ρ=>(a ρ).bind fun f ρ1=>match f with
 | .nx=>b ρ1
 |f=>.ok f ρ1
def ĳ(i:Nat)(m:M RV):M Fl:=fun ρ=>(m ρ).bind fun r ρ1=>.ok .nx (ρ1.set i r.slot)
def Ĳ(m:M RV):M Fl:=fun ρ=>(m ρ).bind fun r ρ1=>.ok (.rt r) ρ1
def Zdk:M Fl:=fun ρ=>.ok (.rt (.sh .non)) ρ
def wg(m:M PV):M Fl:=fun ρ=>(m ρ).bind fun _ ρ1=>.ok .nx ρ1
section
variable{X:Cx}{cm:String→Addr}{E:L2.St→XK}{a b e:Expr}{st:Stmt}{rest:List Stmt}{es:List Expr}{pos:Pos}{m1 m2:M Fl}{mo:M RV}{mv:M PV}
theorem ľ:jj X [] (tS (kk X cm) E dD):=jj.wk CJ fun D σ H ⟨c,F,ρ,rel,h⟩=>h σ F H rel (Same.refl F)
theorem Č(h:PS X st (tS (kk X cm) E m1)):jj X [st] (tS (kk X cm) E m1):=QL h
theorem RD{c:Ctx}{F:Hp}{D:Ends}{r:Res Fl}(h:ť (kk X cm) E c F D (r.bind fun f ρ1=>match f with| .nx=>m2 ρ1|f=>.ok f ρ1)):ť (kk X cm) E c F {D with nx:=tS (kk X cm) E m2 D} r:=by
 cases r with
 |ok f ρ1=>
  cases f with
  |nx=>exact fun σ' F' H' bM s=>⟨c,F',ρ1,bM,ť.mono h s⟩
  |bk=>exact h
  |ct=>exact h
  |rt v=>exact h
 |exc x ρ1=>exact h
 |bad=>exact h
theorem Ċ(h1:PS X st (tS (kk X cm) E m1))(h2:jj X rest (tS (kk X cm) E m2)):jj X (st::rest) (tS (kk X cm) E (ĝ m1 m2)):=jj.wk (vO h1 h2) fun D σ H ⟨c,F,ρ,rel,h⟩=>⟨c,F,ρ,rel,RD h⟩
theorem ĩ{i:Nat}{x:Str}{pos':Pos}(hN:X.N.Nodup)(hi:X.N[i]?=some x)(hx:Loc X.env.scope x)(he:PE X e (tO (kk X cm) E mo))(hs:swapsWith e (some (.Name x pos')) pos.line X.env=pure false:=by rfl)(hf:X.fn x=true∨X.env.scope.names.lookup x=some .local:=by first|exact .inl rfl|exact .inr rfl|assumption) :
 PS X (.Assign [.Name x pos'] e pos) (tS (kk X cm) E (ĳ i mo)):=PS.wk (Xe hN hi hx he hs hf) fun D σ H ⟨c,F,ρ,rel,h⟩=>⟨c,F,ρ,rel,ť.bind h fun r ρ1 v F1 H1 Ę s1 q h1=>by
 cases r with
 |sh p=>exact h1 _ F1 H1 (Ę.put rfl ⟨v,rfl,q⟩) (Same.refl _)
 |ow ps=>
  obtain⟨a,vs,rfl,q1,q2,q3,q4,q5⟩:=q
  exact h1 _ F1 H1 (Ę.Rx ⟨a,vs,rfl,q1,q2,q3,q5⟩ rfl q4) (Same.refl _)
 |ot ps qs=>
  obtain⟨p,a,xs,vs,rfl,q0,qx,q1,q2,q3,q4,q5⟩:=q
  exact h1 _ F1 H1 (Ę.Rx (s:=.ot ps qs) ⟨p,a,xs,vs,rfl,q0,qx,q1,q2,q3,q5⟩ ⟨p,xs,rfl,q0⟩ q4) (Same.refl _)⟩
theorem ģ(he:PE X e (tO (kk X cm) E mo)):PS X (.Return (some e) pos) (tS (kk X cm) E (Ĳ mo)):=PS.wk (Xb he) fun D σ H ⟨c,F,ρ,rel,h⟩=>⟨c,F,ρ,rel,ť.bind h fun r ρ1 v F1 H1 Ę s1 q h1=>h1 v σ F1 H1 Ę (Same.refl _) q⟩
theorem zX(he:PE X e (tV (kk X cm) E mv))(hs:swapsWith e none pos.line X.env=pure false:=by rfl):PS X (.Expr e pos) (tS (kk X cm) E (wg mv)):=PS.wk (bW he hs) fun D σ H ⟨c,F,ρ,rel,h⟩=>⟨c,F,ρ,rel,ť.bind h fun r ρ1 v F1 H1 Ę s1 q h1=>h1 σ F1 H1 Ę (Same.refl _)⟩
theorem Ŧ{t:M Bool}{ss ss':List Stmt}(hc:PT X a (tB (kk X cm) E t))(ha:jj X ss (tS (kk X cm) E m1))(hb:jj X ss' (tS (kk X cm) E m2)):PS X (.If a ss ss' pos) (tS (kk X cm) E (cL t m1 m2)):=PS.wk (ZcP hc ha hb) fun D σ H ⟨c,F,ρ,rel,h⟩=>⟨c,F,ρ,rel,ť.bind h fun r ρ1 v F1 H1 Ę s1 q h1=>by
 have e:r=v:=q
 subst e
 cases r with
 |true=>exact⟨c,F1,ρ1,Ę,h1⟩
 |false=>exact⟨c,F1,ρ1,Ę,h1⟩⟩
def ZkE{α:Type}:M α:= fun _=>.bad
abbrev Tg:=PV→Ŏ→Option Ŏ
abbrev Gf:=List PV→Ŏ→Option Ŏ
def Zdl(K:KK)(c:Ctx)(F H:Hp)(Q:L2.St→Hp→Prop):Option Ŏ→Prop
 |some ρ'=>∀σ',Rel K c F H σ' ρ'→Q σ' H
 |none=>False
def tT(K:KK)(g:Tg):TG:=fun v σ H Q=>∃c F ρ p,Rel K c F H σ ρ∧Rep K F p v∧Zdl K c F H Q (g p ρ)
def tTs(K:KK)(g:Gf):Gk:=fun v σ H Q=>∃c F ρ p,Rel K c F H σ ρ∧Ĝ K F p v∧Zdl K c F H Q (g p ρ)
def gN(i:Nat):Tg:=fun p ρ=>some (ρ.set i (.sh p))
def Ū:Gf:=fun ps ρ=>match ps with
 | []=>some ρ
 |_=>none
def ĥ(g:Tg)(gs:Gf):Gf:=fun ps ρ=>match ps with
 |p::ps=>(g p ρ).bind fun ρ1=>gs ps ρ1
 | []=>none
def gT(n:Nat)(gs:Gf):Tg:=fun p ρ=>match p with
 | .tup ps=>if ps.length=n then gs ps ρ else none
 |_=>none
theorem PG.wk'{tg:Expr}{t t':TG}(h:PG X tg t)(i:∀v σ H Q,t' v σ H Q→t v σ H Q):PG X tg t':=fun pins s σ H v u Q I r q=>h pins s σ H v u Q I r (i v σ H Q q)
theorem zE.wk{tg:List Expr}{t t':Gk}(h:zE X tg t)(i:∀v σ H Q,t' v σ H Q→t v σ H Q):zE X tg t':=fun pins s σ H v u Q I r q=>h pins s σ H v u Q I r (i v σ H Q q)
theorem ħ{i:Nat}{x:Str}(hN:X.N.Nodup)(hi:X.N[i]?=some x)(hx:Loc X.env.scope x)(hf:X.fn x=true∨X.env.scope.names.lookup x=some .local:=by first|exact .inl rfl|exact .inr rfl|assumption):PG X (.Name x pos) (tT (kk X cm) (gN i)):=
 PG.wk' (QM hN hi hx hf) fun v σ H Q ⟨c,F,ρ,p,rel,rp,h⟩=>h _ (rel.put rfl ⟨v,rfl,rp⟩)
theorem dZ:zE X [] (tTs (kk X cm) Ū):=zE.wk QS fun v σ H Q ⟨c,F,ρ,p,rel,rp,h⟩=>by
 cases p with
 |nil=>
  have e:v=[]:=by have:=rp;unfold Ĝ at this;exact this
  exact⟨e,h σ rel⟩
 |cons _ _=>exact h.elim
theorem ő{es:List Expr}{g:Tg}{gs:Gf}(h1:PG X e (tT (kk X cm) g))(h2:zE X es (tTs (kk X cm) gs))(hs:(assignEach (e::es) X.env).map (·.2)=assign e X.env::(assignEach es X.env).map (·.2):=by rfl):zE X (e::es) (tTs (kk X cm) (ĥ g gs)):=
 zE.wk (Gm h1 h2 hs) fun v σ H Q ⟨c,F,ρ,p,rel,rp,h⟩=>by
  cases p with
  |nil=>exact h.elim
  |cons p ps=>
   unfold Ĝ at rp
   obtain⟨x,r,rfl,r1,r2⟩:=rp
   refine⟨x,r,rfl,c,F,ρ,p,rel,r1,?_⟩
   unfold ĥ at h
   dsimp only at h
   cases eg:g p ρ with
   |none=>rw[eg] at h;exact h.elim
   |some ρ1=>rw[eg] at h;exact fun σ' bM=>⟨c,F,ρ1,ps,bM,r2,h⟩
theorem nH{es:List Expr}{k:Nat}{gs:Gf}{n:Nat}(hc:X.calm=true)(h:zE X es (tTs (kk X cm) gs))(hn:(assignEach es X.env).length=n:=by rfl)(hst:(assignEach es X.env).findIdx? (·.1)=none:=by rfl):PG X (.Tuple es k pos) (tT (kk X cm) (gT n gs)):=
 PG.wk' (Gn hc h hn hst) fun v σ H Q ⟨c,F,ρ,p,rel,rp,h⟩=>by
   cases p with
   |tup ps=>
    unfold Rep at rp
    obtain⟨a,xs,h1,h2,h3⟩:=rp
    unfold gT at h
    dsimp only at h
    split at h
    ·rename_i hl
     exact⟨a,xs,h1,Same.tup rel.sub h2,by rw[←h3.length];exact hl,c,F,ρ,ps,rel,h3,h⟩
    ·exact h.elim
   |_=>exact h.elim
def RG(g:Tg)(m:M PV):M Fl:=fun ρ=>(m ρ).bind fun p ρ1=>match g p ρ1 with
 |some ρ2=>.ok .nx ρ2
 |none=>.bad
theorem Us{tg:Expr}{g:Tg}(he:PE X e (tV (kk X cm) E mv))(hg:PG X tg (tT (kk X cm) g))(hs:swapsWithSole [tg] e pos.line X.env=pure false:=by rfl)(hw:swappedStores [tg] e X.env=pure none:=by rfl)
 (h1:(assignEach [tg] X.env).map (·.2)=[assign tg X.env]:=by rfl):PS X (.Assign [tg] e pos) (tS (kk X cm) E (RG g mv)):=PS.wk (Gp he hg hs hw h1) fun D σ H ⟨c,F,ρ,rel,h⟩=>⟨c,F,ρ,rel,ť.bind h fun r ρ1 v F1 H1 Ę s1 q h1=>by
 refine⟨c,F1,ρ1,r,Ę,q,?_⟩
 cases eg:g r ρ1 with
 |none=>rw[eg] at h1;exact h1.elim
 |some ρ2=>rw[eg] at h1;exact fun σ' bM=>h1 σ' F1 H1 bM (Same.refl _)⟩
def ZkF(i j:Nat)(mr:M (List PV)):M Fl:=fun ρ=>(mr ρ).bind fun ps ρ1=>match ps with
 | [p,q]=>.ok .nx ((ρ1.set i (.sh p)).set j (.sh q))
 |_=>.bad
def zY(i:Nat)(mi:M PV)(m:M PV):M Fl:=fun ρ=>(m ρ).bind fun p ρ1=>match ρ1[i]? with
 |some (.ow _)=>(mi ρ1).bind fun q ρ2=>match ρ2[i]?,q with
  |some (.ow ps),.int k=>match Ge ps.length k with
   |some j=>.ok .nx (ρ2.set i (.ow (ps.set j p)))
   |none=>.bad
  |_,_=>.bad
 |_=>.bad
theorem RJ{i:Nat}{x:Str}{ix:Expr}{mi:M PV}{px zZ:Pos}(he:PE X e (tV (kk X cm) E mv))(hi:PE X ix (tV (kk X cm) E mi))(ho:PE X (.Name x px) (sY i))
 (hsub:∀v,assign (.Subscript (.Name x px) ix zZ) X.env v=(do
   let ov ←holding [v] (eval (.Name x px) X.env)
   let iv ←holding [v,ov] (eval ix X.env)
   standAt zZ
   holding [v,ov,iv] (setItem ov iv v)
   release [v,ov,iv] []):=by intro _;rfl)
 (hs:swapsWithSole [.Subscript (.Name x px) ix zZ] e pos.line X.env=pure false:=by rfl)(hw:swappedStores [.Subscript (.Name x px) ix zZ] e X.env=pure none:=by rfl)
 (h1:(assignEach [.Subscript (.Name x px) ix zZ] X.env).map (·.2)=[assign (.Subscript (.Name x px) ix zZ) X.env]:=by rfl) :
 PS X (.Assign [.Subscript (.Name x px) ix zZ] e pos) (tS (kk X cm) E (zY i mi mv)):=PS.wk (Gp he (Xd ho hi set_list hsub) hs hw h1) fun D σ H ⟨c,F,ρ,rel,h⟩=>⟨c,F,ρ,rel,ť.bind h fun p ρ1 v F1 H1 Ę s1 q h1=>by
 cases e1:ρ1[i]? with
 |none=>rw[e1] at h1;exact h1.elim
 |some sl=>
  rw[e1] at h1
  cases sl with
  |ow ps0=>
   obtain⟨a,vs0,z1,_,_,_,_,_⟩:=Ę.ow e1
   refine⟨.ref a,z1,c,F1,ρ1,Ę,ť.bind h1 fun q' ρ2 u F2 H2 ŉ s2 r2 h2=>?_⟩
   cases e2:ρ2[i]? with
   |none=>rw[e2] at h2;exact h2.elim
   |some sl2=>
    rw[e2] at h2
    cases sl2 with
    |ow ps=>
     cases q' with
     |int k=>
      have eu:u=.int k:=by have:Rep (kk X cm) F2 (.int k) u:=r2;unfold Rep at this;exact this
      subst eu
      dsimp only at h2
      obtain⟨a2,vs,w1,w2,w3,w4,w5,w6⟩:=ŉ.ow e2
      rw[z1] at w1
      cases w1
      cases ej:Ge ps.length k with
      |none=>rw[ej] at h2;exact h2.elim
      |some j=>
       rw[ej] at h2
       refine⟨a,vs,k,j,rfl,rfl,w2,by rw[←w5.length];exact ej,h2 σ F2 _ (ŉ.write w6 z1 ⟨a,vs.set j v,rfl,ī,w3,w4,?_⟩ fun _ z=>(V.ref.inj z).symm) (Same.refl _)⟩
       exact Ĝ.of (Hr (Rep.same s2 p v q) j w5.pr)
     |_=>exact h2.elim
    |_=>exact h2.elim
  |_=>exact h1.elim⟩
def tY(i:Nat)(m:M PV):M Fl:=fun ρ=>match ρ[i]? with
 |some (.ow _)=>(m ρ).bind fun p ρ1=>match ρ1[i]? with
  |some (.ow ps)=>if ps.length<16777216 then .ok .nx (ρ1.set i (.ow (ps ++ [p]))) else .bad
  |_=>.bad
 |_=>.bad
theorem gP{i:Nat}{D:Ends}{σ:L2.St}{H:Hp}(h:tS (kk X cm) E (tY i mv) D σ H):Gj (tBM X.K "list" CV (sY i) (tL (kk X cm) E (Ą mv ě))) D σ H:=by
 obtain⟨c,F,ρ,rel,h⟩:=h
 unfold tY at h
 cases e1:ρ[i]? with
 |none=>rw[e1] at h;exact h.elim
 |some sl=>
  rw[e1] at h
  cases sl with
  |ow ps0=>
   obtain⟨a,vs0,z1,z2,z3,z4,z5,z6⟩:=rel.ow e1
   refine⟨.ref a,z1,.inl ⟨rfl,_,aC.of z2⟩,c,F,ρ,rel,?_⟩
   dsimp only at h
   unfold Ą
   cases em:mv ρ with
   |bad=>rw[em] at h;exact h
   |exc x ρ1=>rw[em] at h;exact fun C d F' H' bM s1 q=>h σ C d F' H' bM s1 q
   |ok p ρ1=>
    rw[em] at h
    intro us F1 H1 Ę s1 s2 r1
    have r1':Ĝ (kk X cm) F1 [p] us:=r1
    cases r1'.pr with
    |cons rp t=>
     rename_i v vs'
     cases t
     cases e2:ρ1[i]? with
     |none=>simp only[Res.aQ,e2] at h;exact h.elim
     |some sl2=>
      simp only[Res.aQ,e2] at h
      cases sl2 with
      |ow ps=>
       obtain⟨a2,vs,w1,w2,w3,w4,w5,w6⟩:=Ę.ow e2
       rw[z1] at w1
       cases w1
       dsimp only at h
       split at h
       ·rename_i hz
        refine⟨a,vs,v,rfl,rfl,w2,by rw[←w5.length,ō];exact hz,h σ F1 _ (Ę.write w6 z1 ⟨a,vs ++ [v],rfl,ī,w3,w4,Ĝ.append w5 (Ĝ.cons rp Ĝ.nil)⟩ fun _ z=>(V.ref.inj z).symm) s1⟩
       ·exact h.elim
      |_=>exact h.elim
  |_=>exact h.elim
def ł(mc:M Bool)(mb:M Fl):Nat→Ŏ→Res Fl
 |0,_=>.bad
 |n+1,ρ=>(mc ρ).bind fun b ρ1=>if b=true then(mb ρ1).bind fun f ρ2=>match f with
  | .nx=>ł mc mb n ρ2
  | .ct=>ł mc mb n ρ2
  | .bk=>.ok .nx ρ2
  | .rt r=>.ok (.rt r) ρ2 else .ok .nx ρ1
theorem ŷ{mc:M Bool}{mb:M Fl}(n:Nat)(ρ:Ŏ):ł mc mb (n+1) ρ=(mc ρ).bind fun b ρ1=>if b=true then(mb ρ1).bind fun f ρ2=>match f with
 | .nx=>ł mc mb n ρ2
 | .ct=>ł mc mb n ρ2
 | .bk=>.ok .nx ρ2
 | .rt r=>.ok (.rt r) ρ2 else .ok .nx ρ1:=rfl
open Classical in
noncomputable def Ÿ(mc:M Bool)(mb:M Fl):M Fl:=fun ρ=>if h:∃n,ł mc mb n ρ≠ .bad then ł mc mb (Classical.choose h) ρ else .bad
theorem gj{mc:M Bool}{mb:M Fl}:∀(n:Nat) (ρ:Ŏ),ł mc mb n ρ≠ .bad→ł mc mb (n+1) ρ=ł mc mb n ρ
 |0,ρ,h=>absurd rfl h
 |n+1,ρ,h=>by
  rw[ŷ] at h
  rw[ŷ (n+1),ŷ n]
  cases e:mc ρ with
  |bad=>rfl
  |exc x ρ1=>rfl
  |ok b ρ1=>
   rw[e] at h
   simp only[Res.aQ] at h ⊢
   cases b with
   |false=>rfl
   |true=>
    simp only[if_true] at h ⊢
    cases e2:mb ρ1 with
    |bad=>rfl
    |exc x ρ2=>rfl
    |ok f ρ2=>
     rw[e2] at h
     simp only[Res.aQ] at h ⊢
     cases f with
     |nx=>exact gj n ρ2 h
     |ct=>exact gj n ρ2 h
     |bk=>rfl
     |rt r=>rfl
theorem qJ{mc:M Bool}{mb:M Fl}{n m:Nat}{ρ:Ŏ}(h:ł mc mb n ρ≠ .bad)(hm:n≤m):ł mc mb m ρ=ł mc mb n ρ:= by
 induction hm with
 |refl=>rfl
 |step _ ih=>rw[gj _ _ (by rw[ih];exact h),ih]
theorem ż{mc:M Bool}{mb:M Fl}{ρ:Ŏ}(n:Nat)(h:ł mc mb n ρ≠ .bad):Ÿ mc mb ρ=ł mc mb n ρ:= by
 unfold Ÿ
 have hx:∃n,ł mc mb n ρ≠ .bad:=⟨n,h⟩
 rw[dif_pos hx]
 have hc:=Classical.choose_spec hx
 rcases Nat.le_total n (Classical.choose hx) with hle|hle
 ·exact qJ h hle
 ·exact(qJ hc hle).symm
theorem gk{mc:M Bool}{mb:M Fl}{ρ:Ŏ}:Ÿ mc mb ρ=(mc ρ).bind fun b ρ1=>if b=true then(mb ρ1).bind fun f ρ2=>match f with
 | .nx=>Ÿ mc mb ρ2
 | .ct=>Ÿ mc mb ρ2
 | .bk=>.ok .nx ρ2
 | .rt r=>.ok (.rt r) ρ2 else .ok .nx ρ1:=by
 have go:∀ρ2,Ÿ mc mb ρ2=.bad∨∃n,Ÿ mc mb ρ2=ł mc mb n ρ2∧ł mc mb n ρ2≠ .bad:=fun ρ2=>by
  by_cases hx:∃n,ł mc mb n ρ2≠ .bad
  ·obtain⟨n,h⟩:=hx
   exact .inr ⟨n,ż n h,h⟩
  ·left;unfold Ÿ;rw[dif_neg hx]
 have ZkG:∀ρ2,Ÿ mc mb ρ2=.bad→∀n,ł mc mb n ρ2=.bad:=fun ρ2 h n=>by
  refine Classical.byContradiction fun z=>?_
  rw[ż n z] at h
  exact z h
 have fin:∀n,ł mc mb (n+1) ρ≠ .bad→Ÿ mc mb ρ=ł mc mb (n+1) ρ:= fun n h=>ż _ h
 cases e:mc ρ with
 |bad=>rcases go ρ with h|⟨n,h1,h2⟩
       ·rw[h];rfl
       ·cases n with
        |zero=>exact absurd rfl h2
        |succ n=>rw[ŷ,e] at h2;exact absurd rfl h2
 |exc x ρ1=>
  have h:ł mc mb 1 ρ=.exc x ρ1:=by rw[ŷ,e];rfl
  rw[ż 1 (by rw[h];intro z;cases z),h];rfl
 |ok b ρ1=>
  simp only[Res.aQ]
  cases b with
  |false=>
   have h:ł mc mb 1 ρ=.ok .nx ρ1:=by rw[ŷ,e];rfl
   rw[ż 1 (by rw[h];intro z;cases z),h];rfl
  |true=>
   simp only[if_true]
   have one:∀n,ł mc mb (n+1) ρ=(mb ρ1).bind fun f ρ2=>match f with
    | .nx=>ł mc mb n ρ2
    | .ct=>ł mc mb n ρ2
    | .bk=>.ok .nx ρ2
    | .rt r=>.ok (.rt r) ρ2:=fun n=>by rw[ŷ,e];rfl
   cases e2:mb ρ1 with
   |bad=>
    rcases go ρ with h|⟨n,h1,h2⟩
    ·rw[h];rfl
    ·cases n with
     |zero=>exact absurd rfl h2
     |succ n=>rw[one,e2] at h2;exact absurd rfl h2
   |exc x ρ2=>
    have h:ł mc mb 1 ρ=.exc x ρ2:=by rw[one,e2];rfl
    rw[ż 1 (by rw[h];intro z;cases z),h];rfl
   |ok f ρ2=>
    have turn:(∀n,ł mc mb (n+1) ρ=ł mc mb n ρ2)→Ÿ mc mb ρ=Ÿ mc mb ρ2:=fun hn=>by
     rcases go ρ2 with h|⟨n,h1,h2⟩
     ·rcases go ρ with h'|⟨n,h1,h2⟩
      ·rw[h,h']
      ·cases n with
       |zero=>exact absurd rfl h2
       |succ n=>rw[hn,ZkG ρ2 h n] at h2;exact absurd rfl h2
     ·rw[h1,←hn n]
      exact fin n (by rw[hn n];exact h2)
    cases f with
    |nx=>exact turn fun n=>by rw[one,e2];rfl
    |ct=>exact turn fun n=>by rw[one,e2];rfl
    |bk=>
     have h:ł mc mb 1 ρ=.ok .nx ρ2:=by rw[one,e2];rfl
     rw[ż 1 (by rw[h];intro z;cases z),h];rfl
    |rt r=>
     have h:ł mc mb 1 ρ=.ok (.rt r) ρ2:=by rw[one,e2];rfl
     rw[ż 1 (by rw[h];intro z;cases z),h];rfl
theorem RK{c:Expr}{body:List Stmt}{mc:M Bool}{mb:M Fl}(hp:PassesOwn (model X.prog X.w) X.A X.env X.xe)(hc:PT X c (tB (kk X cm) E mc))(hb:jj X body (tS (kk X cm) E mb)):PS X (.While c body [] pos) (tS (kk X cm) E (Ÿ mc mb)):=PS.wk (Gq hp hc hb) fun D σ H ⟨c,F,ρ,rel,h⟩=>by
 obtain⟨n,hn⟩:∃n,ť (kk X cm) E c F D (ł mc mb n ρ):=by
  by_cases hx:∃n,ł mc mb n ρ≠ .bad
  ·obtain⟨n,hn⟩:=hx
   rw[ż n hn] at h
   exact⟨n,h⟩
  ·unfold Ÿ at h
   rw[dif_neg hx] at h
   exact h.elim
 refine⟨fun m σ' H'=>∃F2 ρ2,Rel (kk X cm) c F2 H' σ' ρ2∧Same F F2∧ť (kk X cm) E c F2 D (ł mc mb m ρ2),⟨n,F,ρ,rel,Same.refl _,hn⟩,?_⟩
 rintro m σ1 H1 ⟨F1,ρ1,Ę,s1,h1⟩
 cases m with
 |zero=>exact h1.elim
 |succ m=>
  rw[ŷ] at h1
  refine⟨c,F1,ρ1,Ę,ť.bind h1 fun k ρ2 v F2 H2 ŉ s2 q h2=>?_⟩
  have e:k=v:=q
  subst e
  cases k with
  |false=>
   rw[if_neg Bool.false_ne_true]
   rw[if_neg Bool.false_ne_true] at h2
   exact h2 σ1 F2 H2 ŉ (Same.refl _)
  |true=>
   rw[if_pos rfl]
   rw[if_pos rfl] at h2
   refine⟨_,fun σ' H' z=>z,c,F2,ρ2,ŉ,?_⟩
   have nxt:∀{ρ3:Ŏ},ť (kk X cm) E c F2 D (ł mc mb m ρ3)→∀σ' F' H',Rel (kk X cm) c F' H' σ' ρ3→Same F2 F'→∃m',m'<m+1∧∃F2 ρ2,Rel (kk X cm) c F2 H' σ' ρ2∧Same F F2∧ť (kk X cm) E c F2 D (ł mc mb m' ρ2):=
    fun{ρ3} h3 σ' F' H' bM s'=>⟨m,Nat.lt_succ_self m,F',ρ3,bM,(s1.trans s2).trans s',ť.mono h3 s'⟩
   cases e2:mb ρ2 with
   |bad=>rw[e2] at h2;exact h2
   |exc x ρ3=>rw[e2] at h2;exact h2
   |ok f ρ3=>
    rw[e2] at h2
    cases f with
    |nx=>exact nxt h2
    |ct=>exact nxt h2
    |bk=>exact h2
    |rt r=>exact h2
def fC(K:KK)(Lh F:Hp)(J:It)(items:List PV):Prop:=∀(c:Ctx) (i:Nat) (F2 H:Hp) (σ:L2.St) (ρ:Ŏ),Rel K c F2 H σ ρ→Same F F2→Same Lh H→
 (∀p,items[i]?=some p→J.go i H∧∀x H',J.yld i H x H'→∃F3,Rel K c F3 H' σ ρ∧Same F2 F3∧Same H H'∧Rep K F3 p x)∧(i=items.length→J.stop i H)
def rIt(K:KK):RR (List PV) It:=fun c _ _ F _ items J=>fC K c.L F J items
abbrev tI(K:KK)(E:L2.St→XK)(m:M (List PV)):TI:=tG K E (rIt K) m
def forL(g:Tg)(mb:M Fl):List PV→M Fl
 | [],ρ=>.ok .nx ρ
 |p::ps,ρ=>match g p ρ with
  |none=>.bad
  |some ρ1=>(mb ρ1).bind fun f ρ2=>match f with
   | .nx=>forL g mb ps ρ2
   | .ct=>forL g mb ps ρ2
   | .bk=>.ok .nx ρ2
   | .rt r=>.ok (.rt r) ρ2
def cJ(mi:M (List PV))(g:Tg)(mb:M Fl):M Fl:=fun ρ=>(mi ρ).bind fun items ρ1=>forL g mb items ρ1
theorem aU{iter tg:Expr}{body:List Stmt}{mi:M (List PV)}{g:Tg}{mb:M Fl}(hp:PassesOwn (model X.prog X.w) X.A X.env X.xe)(hc:X.calm=true)(hi:PI X tg iter (tI (kk X cm) E mi))(hg:PG X tg (tT (kk X cm) g))(hb:jj X body (tS (kk X cm) E mb))
 (hs:∀x,foldedSetIterable iter X.env x=pure x:=by intro _;rfl):PS X (.For tg iter body [] pos) (tS (kk X cm) E (cJ mi g mb)):=PS.wk (Xi hp hc hi hg hb hs) fun D σ H ⟨c,F,ρ,rel,h⟩=>⟨c,F,ρ,rel,ť.bind h fun items ρ1 J F1 H1 Ę s1 ito h1=>by
 refine⟨fun i m σ' H'=>∃F2 ρ2,i≤items.length∧m=items.length-i∧Rel (kk X cm) c F2 H' σ' ρ2∧Same F1 F2∧ť (kk X cm) E c F2 D (forL g mb (items.drop i) ρ2),⟨_,F1,ρ1,Nat.zero_le _,rfl,Ę,Same.refl _,h1⟩,?_⟩
 rintro i m σ2 H2 ⟨F2,ρ2,hle,rfl,ŉ,s2,h2⟩
 obtain⟨go,stop⟩:=ito c i F2 H2 σ2 ρ2 ŉ s2 fun b u e=>(ŉ.lent b u e).1
 by_cases hlt:i<items.length
 ·obtain⟨g1,g2⟩:=go items[i] (List.getElem?_eq_getElem hlt)
  rw[List.drop_eq_getElem_cons hlt] at h2
  unfold forL at h2
  refine .inr ⟨g1,_,fun σ' H' z=>z,fun x H3 hy=>?_⟩
  obtain⟨F3,mj,s3,_,rp⟩:=g2 x H3 hy
  refine⟨c,F3,ρ2,items[i],mj,rp,?_⟩
  cases eg:g items[i] ρ2 with
  |none=>rw[eg] at h2;exact h2.elim
  |some ρ3=>
   rw[eg] at h2
   dsimp only at h2
   intro σ4 vY
   refine⟨c,F3,ρ3,vY,?_⟩
   have nxt:∀{ρ4:Ŏ},ť (kk X cm) E c F2 D (forL g mb (items.drop (i+1)) ρ4)→∀σ' F' H',Rel (kk X cm) c F' H' σ' ρ4→Same F3 F'→∃m',m'<items.length-i∧∃F2 ρ2,i+1≤items.length∧m'=items.length-(i+1)∧Rel (kk X cm) c F2 H' σ' ρ2∧Same F1 F2∧ť (kk X cm) E c F2 D (forL g mb (items.drop (i+1)) ρ2):=
    fun{ρ4} h3 σ' F' H' bM s'=>⟨items.length-(i+1),by omega,F',ρ4,hlt,rfl,bM,(s2.trans s3).trans s',ť.mono h3 (s3.trans s')⟩
   have h2':=ť.mono h2 s3
   cases e2:mb ρ3 with
   |bad=>rw[e2] at h2;exact h2
   |exc x ρ4=>rw[e2] at h2';exact h2'
   |ok f ρ4=>
    rw[e2] at h2 h2'
    cases f with
    |nx=>exact nxt h2
    |ct=>exact nxt h2
    |bk=>exact h2'
    |rt r=>exact h2'
 ·have e:i=items.length:=by omega
  refine .inl ⟨stop e,?_⟩
  rw[List.drop_eq_nil_of_le (by omega)] at h2
  unfold forL at h2
  exact h2 σ2 F2 H2 ŉ (Same.refl _)⟩
end
end P
namespace P
open PySem PySem.Spec PyProof.Rows L2 M2 M3
inductive FR where
 |ret (r:RV)|exc (x:PX)|bad
abbrev MF:=List Slot→FR
def FR.of:Res Fl→FR
 | .ok (.rt r) _=>.ret r
 | .ok .nx _=>.ret (.sh .non)
 | .exc x _=>.exc x
 |_=>.bad
def ń(n k:Nat)(mb:M Fl):MF:=fun as=>if as.length=n then FR.of (mb (startP k as)) else .bad
def rF(K:KK)(H F' H':Hp):RV→V→Prop
 | .sh p,v=>Rep K F' p v
 | .ow ps,v=>∃a vs,v=.ref a∧H' a=some (.lst vs)∧F' a=none∧H a=none∧Ĝ K F' ps vs
 | .ot ps qs,v=>∃p a xs vs,v=.ref p∧F' p=some (.tup (xs ++ [.ref a]))∧Ĝ K F' ps xs∧H' a=some (.lst vs)∧F' a=none∧H a=none∧Ĝ K F' qs vs
def ZkH(K:KK)(E:XK)(F H:Hp)(Q:VK):FR→Prop
 | .ret r=>∀v F' H',Gr F H F' H'→rF K H F' H' r v→Q v H'
 | .exc x=>∀C d F' H',Gr F H F' H'→Ry K F' x C d→E C d H'
 | .bad=>False
def ŵ(K:KK)(n:Nat)(mf:MF):Sp:=fun vs H Q E=>∃F as,as.length=n∧Same F H∧Paired (cD K F H) as vs∧ZkH K E F H Q (mf as)
def b_(CX:pO)(X:Cx)(E:L2.St→XK):Prop:=∀(pins:List (Addr×Obj)) (σ:L2.St) (H:Hp) (s:Shared) (e:Value) (s':Shared),Inv X pins σ H s→CX X.stack H s (E σ) e s'→X.xe e s'
section
variable{P:Program}{w:World}{K:PySem.W.Frag}{cm:String→Addr}{mg:Str→Option Value}{base:Heap}{CX:pO}
theorem fnP{x qual:Str}{st:Stmt}{f:Addr}{fd:FuncData}{N ps:List Str}{k:Nat}{mb:M Fl}(F:Ŵ K x qual st f fd)(S:Ĕ N ps (ĉ st))
 (hbody:∀(cdv:Value) (A:Around) (outer:List Env) (s:Shared) (H:Hp) (E:XK),bA k (A.deeper (envOfC qual (ĉ st) s.heap.objs.size f cdv))→
   jj (bR CX P w K mg base N qual (ĉ st) f cdv A outer s H E) (bI st) (tS ⟨K,cm⟩ (fun _=>E) mb)):į P w K mg base CX (k+1) f fd ps (ŵ ⟨K,cm⟩ ps.length (ń ps.length N.length mb)):=by
 obtain⟨oc,od,kV,doc,pm,an,cdv,ct,osl,rfl,lk,hcd⟩:=F.ex
 refine Gz lk hcd S (fun vs H Q E ⟨F,ps',h1,_,h2,_⟩=>by rw[←Paired.length h2];exact h1) fun A outer s H vs Q E hr hsp=>?_
 obtain⟨F,ps',h1,h2,h3,h4⟩:=hsp
 refine⟨_,hbody cdv A outer s H E hr,ctx0 F H,F,startP N.length ps',Rel.start h2 h3,?_⟩
 unfold ń at h4
 rw[if_pos h1] at h4
 cases e:mb (startP N.length ps') with
 |bad=>rw[e] at h4;exact h4
 |exc x ρ'=>rw[e] at h4;exact fun σ' C d F' H' rel s1 q=>h4 C d F' H' rel.gr q
 |ok fl ρ'=>
  rw[e] at h4
  cases fl with
  |nx=>exact fun σ' F' H' rel s1=>h4 .non F' H' rel.gr (Rep.non (K:=⟨K,cm⟩) (F:=F'))
  |bk=>exact h4.elim
  |ct=>exact h4.elim
  |rt r=>
   intro v σ' F' H' rel s1 q
   refine h4 v F' H' rel.gr ?_
   cases r with
   |sh p=>exact q
   |ow qs=>
    obtain⟨a,vs',e1,e2,e3,e4,_,e5⟩:=q
    exact⟨a,vs',e1,e2,e3,e4,e5⟩
   |ot qs ts=>
    obtain⟨p,a,xs,vs',e1,e0,ex,e2,e3,e4,_,e5⟩:=q
    exact⟨p,a,xs,vs',e1,e0,ex,e2,e3,e4,e5⟩
theorem aG{x qual:Str}{st:Stmt}{f:Addr}{fd:FuncData}{N ps:List Str}{k n j:Nat}{mb:M Fl}{mf:MF}(F:Ŵ K x qual st f fd)(S:Ĕ N ps (ĉ st))(hn:ps.length=n)(hj:N.length=j)(hf:mf=ń n j mb)
 (hbody:∀(cdv:Value) (A:Around) (outer:List Env) (s:Shared) (H:Hp) (E:XK),bA k (A.deeper (envOfC qual (ĉ st) s.heap.objs.size f cdv))→
   jj (bR CX P w K mg base N qual (ĉ st) f cdv A outer s H E) (bI st) (tS ⟨K,cm⟩ (fun _=>E) mb)):į P w K mg base CX (k+1) f fd ps (ŵ ⟨K,cm⟩ n mf):=by
 subst hn hj hf
 exact fnP F S hbody
end
def đ(mf:MF)(mr:M (List Slot)):M RV:=fun ρ=>(mr ρ).bind fun ps ρ1=>match mf ps with
 | .ret r=>.ok r ρ1
 | .exc x=>.exc x ρ1
 | .bad=>.bad
section
variable{X:Cx}{cm:String→Addr}{E:L2.St→XK}{CX:pO}{k n:Nat}{f:Addr}{fd:FuncData}{ps:List Str}{mf:MF}{mr:M (List Slot)}{x:Str}{p pos:Pos}{e:Expr}{es:List Expr}
theorem Dl{sp:Sp}{pins:List (Addr×Obj)}{σ:L2.St}{H:Hp}{s:Shared}{Q:VK}{us:List Value}{vs:List V}(F:į X.prog X.w X.K X.mg X.base CX k f fd ps sp)(hr:bA k X.A)(hb:Binds X.K fd ps [])(hx:b_ CX X E)
 (I:Inv X pins σ H s)(r:Vals vs us)(h:sp vs H Q (E σ)):wpAny (model X.prog X.w) X.A (call (.ref f) us) (EP X pins σ Q) X.xe s:=by
 have hl:(us ++ []).length=ps.length:=by rw[List.append_nil,←r.length];exact F.len _ _ _ _ h
 have hbd:=hb s us I.fK hl
 rw[List.append_nil] at hbd
 refine wpAny_call (codeAny_mono (F.run X.A X.stack s H ⟨us,[]⟩ us vs Q (E σ) hr I.env0 hbd r h) fun r s' hq=>?_)
 cases r with
 |error e=>exact hx pins σ H s e s' I hq
 |ok fl=>
  cases fl with
  |ret u=>exact I.after hq
  |next=>exact False.elim hq
  |brk=>exact False.elim hq
  |cont=>exact False.elim hq
theorem wj{c:Ctx}{F1 H1:Hp}{σ:L2.St}{ρ1:Ŏ}{Q:VK}{ps:List Slot}{vs:List V}(hlen:(∃r,mf ps=r∧∀z,r=z→z≠ .bad)→ps.length=n)(Ę:Rel (kk X cm) c F1 H1 σ ρ1)(r1:Paired (cD (kk X cm) F1 H1) ps vs)
 (h:bB (kk X cm) E (rO (kk X cm)) c F1 H1 σ Q (match mf ps with| .ret r=>.ok r ρ1| .exc x=>.exc x ρ1| .bad=>.bad)):ŵ (kk X cm) n mf vs H1 Q (E σ):=by
 refine⟨F1,ps,?_,Ę.sub,r1,?_⟩
 ·refine hlen ⟨_,rfl,fun z hz hb=>?_⟩
  rw[hz,hb] at h
  exact h
 ·cases em:mf ps with
  |bad=>rw[em] at h;exact h
  |exc x=>rw[em] at h;exact fun C d F' H' g rx=>h C d F' H' (Ę.call g) g.f rx
  |ret r=>
   rw[em] at h
   intro v F' H' g rf
   refine h v F' H' (Ę.call g) g.f g.h ?_
   cases r with
   |sh p=>exact rf
   |ow qs=>
    obtain⟨a,vs',e1,e2,e3,e4,e5⟩:=rf
    exact⟨a,vs',e1,e2,e3,Ę.base.free e4,Ę.tQ g.f (Ę.fresh e4),e5⟩
   |ot qs ts=>
    obtain⟨p,a,xs,vs',e1,e0,ex,e2,e3,e4,e5⟩:=rf
    exact⟨p,a,xs,vs',e1,e0,ex,e2,e3,Ę.base.free e4,Ę.tQ g.f (Ę.fresh e4),e5⟩
theorem ċ{n k:Nat}{mb:M Fl}{ps:List Slot}(h:∃r,ń n k mb ps=r∧∀z,r=z→z≠ .bad):ps.length=n:=by
 obtain⟨r,h1,h2⟩:=h
 unfold ń at h1
 by_cases hl:ps.length=n
 ·exact hl
 ·rw[if_neg hl] at h1
  exact absurd h1.symm (fun z=>h2 .bad (by rw[←h1]) rfl)
theorem ď(F:į X.prog X.w X.K X.mg X.base CX k f fd ps (ŵ (kk X cm) n mf))(hlen:∀{ps:List Slot},(∃r,mf ps=r∧∀z,r=z→z≠ .bad)→ps.length=n)(hr:bA k X.A)(hg:Gl X x)(hm:X.mg x=some (.ref f))(hk:PySem.W.keepIn X.K (.ref f)=true)(hb:Binds X.K fd ps [])(hx:b_ CX X E)
 (ha:PA X (e::es) (tA (kk X cm) E mr))(hdb:(x== ("__debug__" :Str))=false:=by decide)(he:starEach (e::es) X.env=(false,eval e X.env)::starEach es X.env:=by exact İ rfl)(hpl:(backTo pos (starEach es X.env)).any (·.1)=false:=by rfl) :
 PE X (.Call (.Name x p) (e::es) [] pos) (tO (kk X cm) E (đ mf mr)):=by
 intro pins s σ H Q I h
 obtain⟨c,F,ρ,rel,h⟩:=h
 refine wpAny_Call_Name_kw (jk I hg hm ?_ hdb)
 refine PySem.W.callWith_K (h₀:= X.base) I.ok.mod.kin hk (Ť (ha pos pins s σ H (fun vs H1=>ŵ (kk X cm) n mf vs H1 Q (E σ)) I ⟨c,F,ρ,rel,h.bind fun ps' ρ1 vs F1 H1 Ę _ _ r1 h1=>wj hlen Ę r1 h1⟩) fun us s1 ⟨vs,H1,I1,r,q⟩=>⟨I1.fK,?_⟩) he hpl
 exact Dl (by assumption) hr hb hx I1 r q
end
def ŧ(m:M PV):M (List PV):=fun ρ=>(m ρ).bind fun p ρ1=>match p with
 | .lst ps=>.ok ps ρ1
 | .tup ps=>.ok ps ρ1
 | .str z=>.ok (z.cps.toList.map fun c=>.str ⟨#[c]⟩) ρ1
 |_=>.bad
section
variable{X:Cx}{cm:String→Addr}{E:L2.St→XK}{tg:Expr}
def ZkI(K:PySem.W.Frag)(tl:TE):TI:=fun σ H R=>tl σ H fun x H1=>(∃a,x=.ref a∧(∃xs,aC K H1 a xs)∧R (Xh K a) H1)∨(∃a,x=.ref a∧(∃xs,cY K H1 a xs)∧R (Itt K a) H1)∨∃z,x=.str z∧R (Its z) H1
theorem Hw{l:Expr}{tl:TE}(hl:PE X l tl):PI X tg l (ZkI X.K tl):=by
 intro pins s σ H R I h
 refine Ť (hl pins s σ H _ I h) fun v s1 ⟨x,H1,I1,r1,q1⟩=>?_
 rcases q1 with⟨a,e,⟨xs,hq⟩,q⟩|⟨a,e,⟨xs,hq⟩,q⟩|⟨z,e,q⟩
 ·subst e
  cases r1
  obtain⟨its,rv,p,hz⟩:=I1.list hq
  refine wpAny_pyIter_list p.isList ?_
  refine⟨s1.heap.objs.size,[s1.heap.objs.size],_,_,H1,rfl,I1.kept (t':=s1.toks) fun b o e=>Heap.get?_push_of_some _ e,Ej a _,⟨_,Heap.get?_push_size _ rfl,rfl,rfl⟩,fun b hb=>?_,q⟩
  have e:b=s1.heap.objs.size:=by simpa using hb
  subst e
  exact I1.Ei (Nat.le_refl _) (I1.hok.fresh (Nat.le_refl _))
 ·subst e
  cases r1
  obtain⟨its,rv,p,hz⟩:=I1.tuple hq
  refine wpAny_pyIter_tuple (show s1.heap.IsTuple a its.toArray from p) ?_
  refine⟨s1.heap.objs.size,[s1.heap.objs.size],_,_,H1,rfl,I1.kept (t':=s1.toks) fun b o e=>Heap.get?_push_of_some _ e,zF a _,⟨_,Heap.get?_push_size _ rfl,rfl,rfl⟩,fun b hb=>?_,q⟩
  have e:b=s1.heap.objs.size:=by simpa using hb
  subst e
  exact I1.Ei (Nat.le_refl _) (I1.hok.fresh (Nat.le_refl _))
 ·subst e
  obtain⟨t,rfl⟩:=r1
  have fin:∀ty,(∀A:Around,A.handled=none→Walks X.prog X.w A s1.heap.objs.size [s1.heap.objs.size] [s1.heap.objs.size] z.cps.size (SignAt z) (fun i h=>h.IsStrIter s1.heap.objs.size ty z t i))→
   (∀(A:Around) (i:Nat) (s:Shared) (Q:Value→Shared→Prop) (E:Value→Shared→Prop),s.heap.IsStrIter s1.heap.objs.size ty z t i→Q (.ref s1.heap.objs.size) s→wpAny (model X.prog X.w) A (pyIter (.ref s1.heap.objs.size)) Q E s)→
   (["enumerate","zip","dict_itemiterator","dict_reverseitemiterator","odict_iterator","itertools.zip_longest","itertools.pairwise"].contains ty=false)→
   PIE X pins σ tg R (.ref s1.heap.objs.size) {s1 with heap:=s1.heap.push {cls:=.type ty,data:=.fields #[.str z t,.int 0 0]}}:=fun ty hW hS hty=>by
   refine⟨s1.heap.objs.size,[s1.heap.objs.size],_,_,H1,rfl,I1.kept (t':=s1.toks) fun b o e=>Heap.get?_push_of_some _ e,Ey _ z t ty hW hS hty,⟨_,Heap.get?_push_size _ rfl,rfl,rfl⟩,fun b hb=>?_,q⟩
   have e:b=s1.heap.objs.size:=by simpa using hb
   subst e
   exact I1.Ei (Nat.le_refl _) (I1.hok.fresh (Nat.le_refl _))
  cases ha:z.cps.all (·< 128) with
  |true=>exact wpAny_pyIter_ascii ha (fin _ (fun A hA=>Walks.strAscii hA _ z t) (fun A i s Q E st q=>wpAny_pyIter_striter_ascii st q) (by decide))
  |false=>exact wpAny_pyIter_wide ha (fin _ (fun A hA=>Walks.strWide hA _ z t) (fun A i s Q E st q=>wpAny_pyIter_striter_wide st q) (by decide))
theorem dF{l:Expr}{m:M PV}(hl:PE X l (tV (kk X cm) E m)):PI X tg l (tI (kk X cm) E (ŧ m)):=fun pins s σ H R I h=>Hw hl pins s σ H R I (by
 obtain⟨c,F,ρ,rel,h⟩:=h
 refine⟨c,F,ρ,rel,h.bind fun p ρ1 v F1 H1 Ę s1 s2 q h1=>?_⟩
 cases p with
 |lst ps=>
  have q':Rep (kk X cm) F1 (.lst ps) v:=q
  unfold Rep at q'
  obtain⟨a,vs,rfl,e1,e2⟩:=q'
  refine .inl ⟨a,rfl,⟨vs,Ę.sub.seq e1⟩,h1 _ F1 H1 Ę (Same.refl _) (Same.refl _) ?_⟩
  intro c' i F2 H2 σ2 ρ2 ŉ sF _
  have hq:aC X.K H2 a vs:=(sF.trans ŉ.sub).seq e1
  refine⟨fun p hp=>?_,fun hi=>⟨vs,hq,by rw[hi,e2.length];exact Nat.le_refl _⟩⟩
  obtain⟨u,hu,ru⟩:=cC e2.pr hp
  refine⟨⟨vs,u,hq,hu⟩,fun x H' ⟨hH,hx⟩=>?_⟩
  subst hH
  have:vs[i]?=some x:=hx vs hq
  rw[hu] at this
  cases this
  exact⟨F2,ŉ,Same.refl _,Same.refl _,Rep.same sF p u ru⟩
 |tup ps=>
  have q':Rep (kk X cm) F1 (.tup ps) v:=q
  unfold Rep at q'
  obtain⟨a,vs,rfl,e1,e2⟩:=q'
  refine .inr (.inl ⟨a,rfl,⟨vs,Same.tup Ę.sub e1⟩,h1 _ F1 H1 Ę (Same.refl _) (Same.refl _) ?_⟩)
  intro c' i F2 H2 σ2 ρ2 ŉ sF _
  have hq:cY X.K H2 a vs:=Same.tup (sF.trans ŉ.sub) e1
  refine⟨fun p hp=>?_,fun hi=>⟨vs,hq,by rw[hi,e2.length];exact Nat.le_refl _⟩⟩
  obtain⟨u,hu,ru⟩:=cC e2.pr hp
  refine⟨⟨vs,u,hq,hu⟩,fun x H' ⟨hH,hx⟩=>?_⟩
  subst hH
  have:vs[i]?=some x:=hx vs hq
  rw[hu] at this
  cases this
  exact⟨F2,ŉ,Same.refl _,Same.refl _,Rep.same sF p u ru⟩
 |str z=>
  have q':v=.str z:=by have q':Rep (kk X cm) F1 (.str z) v:=q;unfold Rep at q';exact q'
  subst q'
  refine .inr (.inr ⟨z,rfl,h1 _ F1 H1 Ę (Same.refl _) (Same.refl _) ?_⟩)
  intro c' i F2 H2 σ2 ρ2 ŉ sF _
  refine⟨fun p hp=>?_,fun hi=>by rw[hi,List.length_map];show _=_;simp⟩
  rw[List.getElem?_map] at hp
  cases ez:z.cps.toList[i]? with
  |none=>rw[ez] at hp;cases hp
  |some cc=>
   rw[ez] at hp
   cases hp
   refine⟨by have:=(List.getElem?_eq_some_iff.mp ez).1;show i<z.cps.size;simpa using this,fun x H' ⟨hH,c2,hc,hx⟩=>?_⟩
   subst hH hx
   rw[ez] at hc
   cases hc
   exact⟨F2,ŉ,Same.refl _,Same.refl _,Rep.str⟩
 |_=>exact h1.elim)
def ŏ(i:Nat):M (List PV):=fun ρ=>match ρ[i]? with
 |some (.bw ps)=>.ok ps ρ
 |some (.sh (.lst ps))=>.ok ps ρ
 |some (.sh (.tup ps))=>.ok ps ρ
 |some (.sh (.str z))=>.ok (z.cps.toList.map fun c=>.str ⟨#[c]⟩) ρ
 |some (.ow ps)=>.ok ps (ρ.set i (.sh (.lst ps)))
 |_=>.bad
theorem aq(i:Nat){x:Str}{px:Pos}(hN:X.N[i]?=some x:=by rfl)(hv:Gd X.env.scope x:=by first|exact Or.inl rfl|exact Or.inr (Or.inl rfl)|exact Or.inr (Or.inr rfl))(hd:(x== ("__debug__" :Str))=false:=by decide)
 (hcd:(x== ("__classdict__" :Str))=false:=by decide):PI X tg (.Name x px) (tI (kk X cm) E (ŏ i)):=fun pins s σ H R I h=>by
 obtain⟨c,F,ρ,rel,h⟩:=h
 cases e:ρ[i]? with
 |none=>unfold ŏ at h;rw[e] at h;exact h.elim
 |some sl=>
  have RL:bB (kk X cm) E (rIt (kk X cm)) c F H σ R (ŧ (ġ i) ρ)→wpAny (model X.prog X.w) X.A (eval (.Name x px) X.env) (fun v s1=>wpAny (model X.prog X.w) X.A (pyIter v) (PIE X pins σ tg R) X.xe s1) X.xe s:=fun h'=>
   dF (v_var i hN hv hd hcd) pins s σ H R I ⟨c,F,ρ,rel,h'⟩
  unfold ŏ at h
  rw[e] at h
  cases sl with
  |no=>exact h.elim
  |rc C ns ps=>exact h.elim
  |ot ps qs=>exact h.elim
  |ow ps=>exact RL (by unfold ŧ ġ;rw[e];exact h)
  |sh p=>
   cases p with
   |lst ps=>exact RL (by unfold ŧ ġ;rw[e];exact h)
   |tup ps=>exact RL (by unfold ŧ ġ;rw[e];exact h)
   |str z=>exact RL (by unfold ŧ ġ;rw[e];exact h)
   |_=>exact h.elim
  |bw ps=>
   obtain⟨a,vs,h1,h2,h3⟩:=rel.slot i _ e
   refine Hw (fL hN hv hd hcd) pins s σ H R I ⟨.ref a,at_of h1,.inl ⟨a,rfl,⟨vs,aC.of (rel.lent a _ h2).1⟩,h _ F H rel (Same.refl _) (Same.refl _) ?_⟩⟩
   intro c' j F2 H2 σ2 ρ2 ŉ sF sL
   have hq:aC X.K H2 a vs:=aC.of (sL a _ h2)
   refine⟨fun p hp=>?_,fun hi=>⟨vs,hq,by rw[hi,h3.length];exact Nat.le_refl _⟩⟩
   obtain⟨u,hu,ru⟩:=cC h3.pr hp
   refine⟨⟨vs,u,hq,hu⟩,fun x H' ⟨hH,hx⟩=>?_⟩
   subst hH
   have:vs[j]?=some x:=hx vs hq
   rw[hu] at this
   cases this
   exact⟨F2,ŉ,Same.refl _,Same.refl _,Rep.same sF p u ru⟩
def gn(lo:Int)(n:Nat)(c:Int):List PV:=(List.range n).map fun(i:Nat)=>.int (lo+i*c)
def nJ(i:Int):Bool:=decide (i.natAbs<1152921504606846976)
def aj:List PV→Option (List PV)
 | [.int j]=>if nJ j=true then some (gn 0 j.toNat 1) else none
 |_=>none
def au(f:List PV→Option (List PV))(mr:M (List PV)):M (List PV):=fun ρ=>(mr ρ).bind fun ps ρ1=>Res.mX (f ps) ρ1
theorem z_{lo c:Int}{n i:Nat}{p:PV}(h:(gn lo n c)[i]?=some p):i<n∧p=.int (lo+i*c):=by
 unfold gn at h
 by_cases hn:i<n
 ·rw[List.getElem?_map,List.getElem?_range hn] at h
  exact⟨hn,(Option.some.inj h).symm⟩
 ·rw[List.getElem?_eq_none (by simpa using hn)] at h
  cases h
theorem Aa{lo c:Int}{n:Nat}:(gn lo n c).length=n:=by simp[gn]
theorem Yu{K:KK}{Lh F:Hp}(lo:Int)(n:Nat):fC K Lh F (Itr lo n) (gn lo n 1):=fun c i F2 H σ ρ rel sF _=>
 ⟨fun p hp=>by
   obtain⟨h1,rfl⟩:=z_ hp
   refine⟨h1,fun x H' ⟨e1,e2⟩=>?_⟩
   subst e1 e2
   exact⟨F2,rel,Same.refl _,Same.refl _,by rw[Int.mul_one];exact Rep.int⟩,fun hi=>by rw[Aa] at hi;subst hi;exact Nat.le_refl _⟩
theorem Ez{i:Int}(h:nJ i=true): -(2 ^ 60)≤i∧i<2 ^ 60:=by
 unfold nJ at h
 rw[decide_eq_true_eq] at h
 omega
variable{a b d:Expr}{p pos:Pos}{mr:M (List PV)}
theorem Hx{K:KK}{F:Hp}{ps:List PV}{vs:List V}(h:Ĝ K F ps vs):(∀i r,ps=.int i::r→∃r',vs=.int i::r'∧Ĝ K F r r')∧(ps=[]→vs=[]):=by
 refine⟨fun i r e=>?_,fun e=>?_⟩
 ·subst e
  unfold Ĝ at h
  obtain⟨x,r',h1,h2,h3⟩:=h
  unfold Rep at h2
  exact⟨r',by rw[h1,h2],h3⟩
 ·subst e
  unfold Ĝ at h
  exact h
theorem Ũ(hg:Gl X "range")(hm:X.mg "range" =none)(ha:PA X [a] (tL (kk X cm) E mr))(hs:starEach [a] X.env=[(false,eval a X.env)]:=by exact İ rfl):PI X tg (.Call (.Name "range" p) [a] [] pos) (tI (kk X cm) E (au aj mr)):=
 fun pins s σ H R I h=>Ek hg hm ha hs pins s σ H R I (by
  obtain⟨c,F,ρ,rel,h⟩:=h
  refine⟨c,F,ρ,rel,h.bind fun ps ρ1 vs F1 H1 Ę s1 s2 q h1=>?_⟩
  have q':Ĝ (kk X cm) F1 ps vs:=q
  unfold aj at h1
  split at h1
  ·rename_i j
   split at h1
   ·rename_i hj
    obtain⟨r',e1,e2⟩:=(Hx q').1 _ _ rfl
    cases(Hx e2).2 rfl
    obtain⟨k1,k2⟩:=Ez hj
    exact⟨j,e1,by omega,by omega,h1 _ F1 H1 Ę (Same.refl _) (Same.refl _) (Yu 0 j.toNat)⟩
   ·exact h1.elim
  ·exact h1.elim)
end
def wu:Slot→Slot
 | .sh p=>.sh p
 | .ow ps=>.bw ps
 | .bw ps=>.bw ps
 |_=>.no
def wz(js:List Nat)(nl:Nat)(ρ:Ŏ):Ŏ:=js.map (fun(j:Nat)=>wu ((ρ[j]?).getD .no))++List.replicate nl .no
def ň(g:Tg)(mt:M Bool)(me:M PV):List PV→Ŏ→List PV→Option (List PV)
 | [],_,acc=>some acc
 |p::ps,ρ,acc=>match g p ρ with
  |none=>none
  |some ρ1=>match mt ρ1 with
   | .ok true ρ2=>match me ρ2 with
     | .ok q ρ3=>if acc.length<16777216 then ň g mt me ps ρ3 (acc ++ [q]) else none
     |_=>none
   | .ok false ρ2=>ň g mt me ps ρ2 acc
   |_=>none
def Ŕ(js:List Nat)(nl:Nat)(mi:M (List PV))(g:Tg)(mt:M Bool)(me:M PV):M RV:=fun ρ=>(mi ρ).bind fun items ρ1=>match ň g mt me items (wz js nl ρ1) [] with
 |some ps=>.ok (.ow ps) ρ1
 |none=>.bad
abbrev EF:L2.St→XK:=fun _ _ _ _=>False
def Ŋ:M Bool:=fun ρ=>.ok true ρ
section
variable{K:KK}{c:Ctx}{F H:Hp}{σ:L2.St}{ρ:Ŏ}
def pW(F H H1:Hp):Ctx:=⟨H1,F,(ctx0 F H).L,fun _ _ _=>True⟩
theorem Rel.cap(js:List Nat)(nl:Nat)(rel:Rel K c F H σ ρ){D:Addr}{o:HO}(hD:H D=none):Rel K (pW F H (upd H D o)) F (upd H D o) (fV js nl σ) (wz js nl ρ) where
 sub:=rel.sub.trans (Same.upd hD)
 base:=Same.refl _
 f0:=Same.refl _
 cX:=fun _ _ z=>z
 lent:=fun a u e=>⟨Same.upd hD a u (fX e).1,(fX e).2⟩
 lb:=fun a e=>by
   cases q:(pW F H (upd H D o)).L a with
   |none=>rfl
   |some u=>
    have e':upd H D o a=none:=e
    rw[Same.upd hD a u (fX q).1] at e'
    cases e'
 len:=by simp[fV,wz]
 slot:= fun i s e=>by
  unfold wz at e
  by_cases hi:i<js.length
  ·rw[List.getElem?_append_left (by simpa using hi),List.getElem?_map] at e
   cases ej:js[i]? with
   |none=>rw[ej] at e;cases e
   |some j=>
    rw[ej] at e
    have e':wu ((ρ[j]?).getD .no)=s:=Option.some.inj e
    subst e'
    have hx:((fV js nl σ)[i]?).getD none=(σ[j]?).getD none:=by
     unfold fV
     rw[List.getElem?_append_left (by simpa using hi),List.getElem?_map,ej]
     rfl
    rw[hx]
    cases er:ρ[j]? with
    |none=>trivial
    |some sl=>
     have q:=rel.slot j sl er
     cases sl with
     |no=>trivial
     |sh p=>exact q
     |ow ps=>
      obtain⟨a,vs,h1,h2,h3,h4,h5⟩:=q
      refine⟨a,vs,h1,?_,h5⟩
      show(match F a with|none=>H a|some _=>none)=_
      rw[h3]
      exact h2
     |bw ps=>
      obtain⟨a,vs,h1,h2,h3⟩:=q
      obtain⟨l1,l2⟩:=rel.lent a _ h2
      refine⟨a,vs,h1,?_,h3⟩
      show(match F a with|none=>H a|some _=>none)=_
      rw[l2]
      exact l1
     |rc C ns ps=>trivial
     |ot ps qs=>trivial
  ·rw[List.getElem?_append_right (by simpa using hi),List.getElem?_replicate] at e
   split at e
   ·cases e;trivial
   ·cases e
 sep:=fun i j a h1 _=>by
  exfalso
  obtain⟨s,y,h1,_,h2⟩:=h1
  have h2:=i_ h2
  unfold wz at h1
  by_cases hi:i<js.length
  ·rw[List.getElem?_append_left (by simpa using hi),List.getElem?_map] at h1
   cases ej:js[i]? with
   |none=>rw[ej] at h1;cases h1
   |some j=>
    rw[ej] at h1
    have e':wu ((ρ[j]?).getD .no)=s:=Option.some.inj h1
    subst e'
    cases q:(ρ[j]?).getD .no<;>rw[q] at h2<;>cases h2
  ·rw[List.getElem?_append_right (by simpa using hi),List.getElem?_replicate] at h1
   split at h1
   ·cases h1;cases h2
   ·cases h1
theorem Rel.rebase{H1 F1:Hp}{D:Addr}{ys zs:List V}(hD:H1 D=none)(hF:F1 D=none)(rel:Rel K (pW F1 H1 (upd H1 D (.lst ys))) F H σ ρ):Rel K (pW F1 H1 (upd H1 D (.lst zs))) F (upd H D (.lst zs)) σ ρ:= by
 have fD:F D=none:=rel.cX D (by show upd H1 D _ D≠none;rw[ī];intro z;cases z) hF
 have lD:∀b u,(pW F1 H1 (upd H1 D (.lst ys))).L b=some u→b≠D:=fun b u e z=>by
  have q:=(fX (F:=F1) (H:=H1) (a:=b) (u:=u) e).1
  rw[z,hD] at q
  cases q
 have ne:∀b,(pW F1 H1 (upd H1 D (.lst ys))).B b=none→b≠D:=fun b z q=>by
  subst q
  have z':upd H1 b (.lst ys) b=none:=z
  rw[ī] at z';cases z'
 have back:∀b,b≠D→(pW F1 H1 (upd H1 D (.lst ys))).B b=none→(pW F1 H1 (upd H1 D (.lst zs))).B b=none:=fun b hb z=>by
  have z':upd H1 D (.lst ys) b=none:=z
  show upd H1 D (.lst zs) b=none
  rw[ğ hb] at z' ⊢;exact z'
 refine⟨fun b u e=>?_,fun b u e=>?_,rel.f0,fun b h1 h2=>?_,fun b u e=>?_,fun b e=>?_,rel.len,fun i s e=>?_,rel.sep⟩
 ·have hb:b≠D:=fun z=>by rw[z,fD] at e;cases e
  rw[ğ hb];exact rel.sub b u e
 ·by_cases hb:b=D
  ·subst hb
   have e':upd H1 b (.lst zs) b=some u:=e
   rw[ī] at e' ⊢;exact e'
  ·have e':upd H1 D (.lst zs) b=some u:=e
   rw[ğ hb] at e' ⊢
   exact rel.base b u (by show upd H1 D _ b=some u;rw[ğ hb];exact e')
 ·refine rel.cX b (fun z=>h1 ?_) h2
  exact back b (ne b z) z
 ·rw[ğ (lD b u e)]
  exact rel.lent b u e
 ·refine rel.lb b ?_
  have z':upd H1 D (.lst zs) b=none:=e
  have hb:b≠D:=fun q=>by rw[q,ī] at z';cases z'
  show upd H1 D (.lst ys) b=none
  rw[ğ hb] at z' ⊢;exact z'
 ·have q:=rel.slot i s e
  cases s with
  |no=>trivial
  |sh p=>exact q
  |bw ps=>exact q
  |ow ps=>
   obtain⟨a,vs,q1,q2,q3,q4,q5⟩:=q
   have hb:=ne a q4
   exact⟨a,vs,q1,by rw[ğ hb];exact q2,q3,back a hb q4,q5⟩
  |rc C ns ps=>
   obtain⟨a,dx,fs,q1,q2,q3,q4,q5⟩:=q
   have hb:=ne a q4
   exact⟨a,dx,fs,q1,by rw[ğ hb];exact q2,q3,back a hb q4,q5⟩
  |ot ps qs=>
   obtain⟨p,a,xs,vs,q1,q0,qx,q2,q3,q4,q5⟩:=q
   have hb:=ne a q4
   exact⟨p,a,xs,vs,q1,q0,qx,by rw[ğ hb];exact q2,q3,back a hb q4,q5⟩
end
section
variable{X:Cx}{cm:String→Addr}{E:L2.St→XK}{elt tg iter:Expr}{ifs:List Expr}{scope:Scope}{pos:Pos}{mi:M (List PV)}{g:Tg}{mt:M Bool}{me:M PV}
theorem Ś:Um X [] (tB (kk X cm) E Ŋ):=fun pins s σ H Q I h=>Rn pins s σ H Q I (by
 obtain⟨c,F,ρ,rel,h⟩:=h
 exact h true F H rel (Same.refl _) (Same.refl _) rfl)
theorem Hy{a:Expr}(h:PT X a (tB (kk X cm) E mt)):Um X [a] (tB (kk X cm) E mt):=Ro h
theorem wA{js:List Nat}{nl:Nat}{σ:L2.St}{H:Hp}{Q:VK}(h:tO (kk X cm) E (Ŕ js nl mi g mt me) σ H Q):G_ js nl (tI (kk X cm) E mi) (tT (kk X cm) g) (tB (kk X cm) EF mt) (tV (kk X cm) EF me) σ H Q:=by
 obtain⟨c,F,ρ,rel,h⟩:=h
 refine⟨c,F,ρ,rel,h.bind fun items ρ1 J F1 H1 Ę s1 s2 ito h1=>?_⟩
 intro D hD
 have hF:F1 D=none:=Ę.sub.free hD
 cases ec:ň g mt me items (wz js nl ρ1) [] with
 |none=>rw[ec] at h1;exact h1.elim
 |some res=>
  rw[ec] at h1
  refine⟨fun i m σ' H'=>∃F' ρ' ys acc,i≤items.length∧m=items.length-i∧Rel (kk X cm) (pW F1 H1 (upd H1 D (.lst ys))) F' H' σ' ρ'∧Ĝ (kk X cm) F' acc ys∧ň g mt me (items.drop i) ρ' acc=some res,
   ⟨_,F1,_,[],[],Nat.zero_le _,rfl,?_,Ĝ.nil,ec⟩,?_⟩
  ·exact Ę.cap js nl hD
  ·rintro i m σ2 H2 ⟨F2,ρ2,ys,acc,hle,rfl,ŉ,ra,h2⟩
   have s12:Same F1 F2:=ŉ.f0
   have Zdm:∀{b:Addr} {u:HO},c.L b=some u→(pW F1 H1 (upd H1 D (.lst ys))).L b=some u:=fun{b u} e=>by
    obtain⟨l1,l2⟩:=Ę.lent b u e
    show(match F1 b with|none=>H1 b|some _=>none)=some u
    rw[l2]
    exact l1
   obtain⟨go,stop⟩:=ito _ i F2 H2 σ2 ρ2 ŉ s12 fun b u e=>(ŉ.lent b u (Zdm e)).1
   have hH2:H2 D=some (.lst ys):=ŉ.base D _ (show upd H1 D _ D=_ from ī)
   have fD:F2 D=none:=ŉ.cX D (by show upd H1 D _ D≠none;rw[ī];intro z;cases z) hF
   by_cases hlt:i<items.length
   ·obtain⟨g1,g2⟩:=go items[i] (List.getElem?_eq_getElem hlt)
    rw[List.drop_eq_getElem_cons hlt] at h2
    unfold ň at h2
    refine .inr ⟨g1,_,fun σ' H' z=>z,fun x H3 hy=>?_⟩
    obtain⟨F3,mj,s3,sH3,rp⟩:=g2 x H3 hy
    refine⟨_,F3,ρ2,items[i],mj,rp,?_⟩
    cases eg:g items[i] ρ2 with
    |none=>rw[eg] at h2;cases h2
    |some ρ3=>
     rw[eg] at h2
     dsimp only at h2
     intro σ4 vY
     refine⟨_,F3,ρ3,vY,?_⟩
     cases em:mt ρ3 with
     |bad=>rw[em] at h2;cases h2
     |exc x ρ4=>rw[em] at h2;cases h2
     |ok b ρ4=>
      rw[em] at h2
      intro b' F5 H5 Zdn s5 Ut eb
      have eb':b=b':=eb
      subst eb'
      cases b with
      |false=>
       rw[if_neg Bool.false_ne_true]
       dsimp only at h2
       exact⟨items.length-(i+1),by omega,F5,ρ4,ys,acc,hlt,rfl,Zdn,Ĝ.same (s3.trans s5) acc ys ra,h2⟩
      |true=>
       rw[if_pos rfl]
       dsimp only at h2
       refine⟨_,F5,ρ4,Zdn,?_⟩
       cases ee:me ρ4 with
       |bad=>rw[ee] at h2;cases h2
       |exc x ρ5=>rw[ee] at h2;cases h2
       |ok q ρ5=>
        rw[ee] at h2
        dsimp only at h2
        intro y F6 H6 Zdo s6 RM rq
        split at h2
        ·rename_i hz
         have ra6:=Ĝ.same ((s3.trans s5).trans s6) acc ys ra
         refine⟨ys,Zdo.base D _ (show upd H1 D _ D=_ from ī),by rw[←ra6.length,ō];exact hz,?_⟩
         exact⟨items.length-(i+1),by omega,F6,ρ5,ys ++ [y],acc ++ [q],hlt,rfl,Zdo.rebase hD hF,Ĝ.append ra6 (Ĝ.cons rq Ĝ.nil),h2⟩
        ·cases h2
   ·have e:i=items.length:=by omega
    refine .inl ⟨stop e,?_⟩
    rw[List.drop_eq_nil_of_le (by omega)] at h2
    unfold ň at h2
    cases h2
    have gr:Gr F1 H1 F2 H2:=⟨fun b u e=>ŉ.base b u (by show upd H1 D _ b=_;rw[ğ (Ļ e hD)];exact e),s12,ŉ.sub,fun b hb hf=>ŉ.cX b (by
     show upd H1 D _ b≠none
     by_cases hbD:b=D
     ·rw[hbD,ī];intro z;cases z
     ·rw[ğ hbD];exact hb) hf⟩
    have ZkJ:=Ę.call gr
    exact h1 _ F2 H2 ZkJ s12 gr.h ⟨D,ys,rfl,hH2,fD,Ę.base.free hD,Ę.tQ gr.f (Ę.fresh hD),ra⟩
theorem ű(N':List Str)(js:List Nat)(nl:Nat)(sc:Scope)(hsc:X.env.scope=sc)(hcalm:X.calm=true)
 (hi:PI X.ſ tg iter (tI (kk X cm) E mi))(hg:∀cl C s H fp,PG (gO X.ſ N' scope cl C s H fp) tg (tT (kk X cm) g))(ht:∀cl C s H fp,Um (gO X.ſ N' scope cl C s H fp) ifs (tB (kk X cm) EF mt))(he:∀cl C s H fp,PE (gO X.ſ N' scope cl C s H fp) elt (tV (kk X cm) EF me))
 (hcap:nC X.ſ sc scope N' js)(hlen:js.length+nl=N'.length:=by rfl)
 (hk:scope.kind=.function:=by rfl)(hcell:∀y∈scope.names,y.2=.cell→scope.names.lookup y.1=some .cell:=by decide +kernel)(hnames:∀y∈scope.names,y.2=.local→scope.names.lookup y.1=some .local:=by decide +kernel)
 (hfree:∀y∈scope.names,y.2=.free→(sc.names.lookup y.1=some .cell∨sc.names.lookup y.1=some .free):=by decide +kernel)
 (hs:∀x,foldedSetIterable iter X.env x=pure x:=by intro _;rfl) :
 PE X (.ListComp elt [⟨tg,iter,ifs,0⟩] scope pos) (tO (kk X cm) E (Ŕ js nl mi g mt me)):=
 PE.wk (PE.ſ (Rq N' js nl sc hsc hcalm hi hg ht he hcap hlen hk hcell hnames hfree hs)) fun _ _ _ h=>wA h
end
end P
namespace P
open PySem PySem.Spec PyProof.Rows L2 M2 M3 M4
abbrev bits(x:Int):Nat:=Builtin.Int.intBits x
section
variable{X:Cx}{cm:String→Addr}{K:KK}
def Uu(K:PySem.W.Frag):R2:=fun x y H Q=>∃l b xs zs,x=.ref l∧y=.ref b∧aC K H l xs∧aC K H b zs∧xs.length+zs.length≤sizeLine∧∀p,H p=none→Q (.ref p) (upd H p (.lst (xs++zs)))
theorem RN:ao X (binaryOp .Add) (Uu X.K):=by
 intro pins s σ H x y v u Q I rx ry h
 obtain⟨l,b,xs,zs,rfl,rfl,hH,hB,hz,q⟩:=h
 cases rx
 cases ry
 obtain⟨its,r,pl,z⟩:=I.list hH
 obtain⟨its2,r2,pl2,z2⟩:=I.list hB
 obtain⟨⟨c1,d1,t1,sl1⟩,n,e,hc,hd,hs⟩:=pl
 obtain⟨⟨c2,d2,t2,sl2⟩,n2,e2,hc2,hd2,hs2⟩:=pl2
 simp only at hc hd hs hc2 hd2 hs2
 subst hc hd hs hc2 hd2 hs2
 have hl:=r.length
 have hl2:=r2.length
 have ea:its.toArray++its2.toArray=(its++its2).toArray:=by simp
 refine concat_meets ⟨_,e,rfl⟩ ⟨_,e2,rfl⟩ noFill_list_add seq_list_add PySem.F.slot_list_add PySem.F.entry_list_add (PySem.F.args_list_add_2 _ _) (list_addW l b its.toArray its2.toArray n n2 none none sl1 sl2 (by simp only[List.size_toArray];omega)) ⟨e,e2,?_⟩
 rw[ea]
 exact⟨.ref _,_,I.Zkx (t':=s.toks) (r.append r2) (by rw[List.length_append];omega),rfl,q _ I.fresh⟩
def Uv(K:PySem.W.Frag):R2:=fun x y H Q=>∃l b xs zs,x=.ref l∧y=.ref b∧cY K H l xs∧cY K H b zs∧xs≠[]∧zs≠[]∧xs.length+zs.length≤sizeLine∧∀p,H p=none→Q (.ref p) (upd H p (.tup (xs++zs)))
theorem RP:ao X (binaryOp .Add) (Uv X.K):=by
 intro pins s σ H x y v u Q I rx ry h
 obtain⟨l,b,xs,zs,rfl,rfl,hH,hB,nx,nz,hz,q⟩:=h
 cases rx
 cases ry
 obtain⟨its,r,pl,z⟩:=I.tuple hH
 obtain⟨its2,r2,pl2,z2⟩:=I.tuple hB
 obtain⟨⟨c1,d1,t1,sl1⟩,e,hc,n,hd⟩:=pl
 obtain⟨⟨c2,d2,t2,sl2⟩,e2,hc2,n2,hd2⟩:=pl2
 simp only at hc hd hc2 hd2
 subst hc hd hc2 hd2
 have hl:=r.length
 have hl2:=r2.length
 have ne1:its≠[]:=fun z=>by rw[z] at hl;exact nx (List.length_eq_zero_iff.mp hl)
 have ne2:its2≠[]:=fun z=>by rw[z] at hl2;exact nz (List.length_eq_zero_iff.mp hl2)
 have ea:its.toArray++its2.toArray=(its++its2).toArray:=by simp
 refine concat_meets ⟨_,e,rfl⟩ ⟨_,e2,rfl⟩ noFill_tuple_add seq_tuple_add PySem.F.slot_tuple_add PySem.F.entry_tuple_add (PySem.F.args_tuple_add_2 _ _) (tuple_addW2 l b its.toArray its2.toArray n n2 d1 d2 sl1 sl2 (by simpa using ne1) (by simpa using ne2) (by simp only[List.size_toArray];omega)) ⟨e,e2,?_⟩
 rw[ea]
 exact⟨.ref _,_,I.laid (o:=.tup (xs++zs)) (t':=s.toks) (fun _ _ q=>Heap.get?_push_of_some _ q) (Nat.le_refl _) ⟨by rw[List.length_append];omega,(its++its2),r.append r2,⟨_,Heap.get?_push_size _ rfl,rfl,_,rfl⟩⟩,rfl,q _ I.fresh⟩
def ļ:PV→PV→Option RV
 | .int i,.int j=>some (.sh (.int (i+j)))
 | .str i,.str j=>if i.length+j.length≤16777216 then some (.sh (.str (i++j))) else none
 | .lst ps,.lst qs=>if ps.length+qs.length≤16777216 then some (.ow (ps++qs)) else none
 | .tup (p::ps),.tup (q::qs)=>if(p::ps).length+(q::qs).length≤16777216 then some (.sh (.tup ((p::ps)++(q::qs)))) else none
 |_,_=>none
def Uw(K:PySem.W.Frag):R2:=fun x y H Q=>Zc9 x y H Q∨(Uu K x y H Q∨Uv K x y H Q)
theorem Ĵ:ao X (binaryOp .Add) (Uw X.K):=Yg.or (RN.or RP)
theorem ĵ:OpO K (Uw K.K) ļ:=by
 intro c F H σ ρ p q pv v u Q rel r1 r2 e k
 unfold ļ at e
 split at e
 ·cases e
  cases r1.int
  cases r2.int
  exact .inl (k _ F H rel (Same.refl _) (Same.refl _) (Rep.int (K:=K) (F:=F)))
 ·split at e
  ·rename_i hz
   cases e
   cases r1.str
   cases r2.str
   exact .inl ⟨by rw[ō];exact hz,k _ F H rel (Same.refl _) (Same.refl _) (Rep.str (K:=K) (F:=F))⟩
  ·cases e
 ·split at e
  ·rename_i hz
   cases e
   obtain⟨a,xs,rfl,h1,h2⟩:=r1.lst rel.sub
   obtain⟨b,ys,rfl,h3,h4⟩:=r2.lst rel.sub
   refine .inr (.inl ⟨a,b,xs,ys,rfl,rfl,h1,h3,by rw[←h2.length,←h4.length,ō];exact hz,fun d hd=>?_⟩)
   obtain⟨q1,q2⟩:=gb rel hd (Ĝ.append h2 h4)
   exact k _ F _ q1 (Same.refl _) (Same.upd hd) q2
  ·cases e
 ·split at e
  ·rename_i hz
   cases e
   obtain⟨a,xs,rfl,h1,h2⟩:=r1.tup rel.sub
   obtain⟨b,ys,rfl,h3,h4⟩:=r2.tup rel.sub
   have l1:=h2.length
   have l2:=h4.length
   refine .inr (.inr ⟨a,b,xs,ys,rfl,rfl,h1,h3,(fun z=>by rw[z] at l1;cases l1),(fun z=>by rw[z] at l2;cases l2),by rw[←l1,←l2,ō];exact hz,fun l hl=>k _ _ _ (rel.alloc hl) (Same.upd (rel.sub.free hl)) (Same.upd hl) ?_⟩)
   show Rep K _ _ _
   unfold Rep
   exact⟨l,xs++ys,rfl,cY.of ī,Ĝ.same (Same.upd (rel.sub.free hl)) _ _ (Ĝ.append h2 h4)⟩
  ·cases e
 ·cases e
def vP(g:Int→Int→Int):PV→PV→Option PV
 | .int i,.int j=>some (.int (g i j))
 |_,_=>none
def CN(C:Int→Int→Bool)(g:Int→Int→Int):PV→PV→Option PV
 | .int i,.int j=>if C i j=true then some (.int (g i j)) else none
 |_,_=>none
def opC(g:Int→Int→Bool):PV→PV→Option PV
 | .int i,.int j=>some (.bl (g i j))
 |_,_=>none
theorem Ux{g:Int→Int→Int}:jr K (zV fun i j=>.int (g i j)) (vP g):=by
 intro c F H σ ρ p q pv v u Q rel r1 r2 e k
 unfold vP at e
 split at e
 ·cases e
  cases r1.int
  cases r2.int
  exact k _ F H rel (Same.refl _) (Same.refl _) Rep.int
 ·cases e
theorem RQ{g:Int→Int→Bool}:jr K (zV fun i j=>.bl (g i j)) (opC g):=by
 intro c F H σ ρ p q pv v u Q rel r1 r2 e k
 unfold opC at e
 split at e
 ·cases e
  cases r1.int
  cases r2.int
  exact k _ F H rel (Same.refl _) (Same.refl _) Rep.bl
 ·cases e
theorem Hz{C:Int→Int→Bool}{C':Int→Int→Prop}{g:Int→Int→Int}(hC:∀i j,C i j=true→C' i j):jr K (mI C' fun i j=>.int (g i j)) (CN C g):=by
 intro c F H σ ρ p q pv v u Q rel r1 r2 e k
 unfold CN at e
 split at e
 ·split at e
  ·rename_i hc
   cases e
   cases r1.int
   cases r2.int
   exact⟨hC _ _ hc,k _ F H rel (Same.refl _) (Same.refl _) Rep.int⟩
  ·cases e
 ·cases e
def ţ:=vP fun i j=>i-j
theorem ŕ:jr K (zV fun i j=>.int (i-j)) ţ:=Ux
def eX(_ j:Int):Bool:=decide (j≠0) && decide (bits j≤8000)
def aM:=CN eX fun i j=>i.fdiv j
theorem Ź:jr K (mI Ew fun i j=>.int (i.fdiv j)) aM:=Hz fun i j h=>by unfold eX at h;simpa[Ew] using h
def Dm(_ j:Int):Bool:=decide (j≠0)
def Ō:=CN Dm fun i j=>i.fmod j
theorem Ņ:jr K (mI (fun _ j=>j≠0) fun i j=>.int (i.fmod j)) Ō:=Hz fun i j h=>by unfold Dm at h;simpa using h
def wB(i j:Int):Bool:=decide (0≤j) && decide (j.natAbs≤1000000) && decide (i.natAbs<18446744073709551616)
def nM:=CN wB fun i j=>i ^ j.toNat
theorem nO:jr K (mI Em fun i j=>.int (i ^ j.toNat)) nM:=Hz fun i j h=>by
 unfold wB at h
 simp only[Bool.and_eq_true,decide_eq_true_eq] at h
 exact⟨h.1.1,by omega,by have:=h.2;simpa using this⟩
def nP(i j:Int):Bool:=decide (0≤j) && decide (j.natAbs≤1000000) && decide (i.natAbs<18446744073709551616)
def wC:=CN nP fun i j=>i*2 ^ j.toNat
theorem Ab:jr K (mI Em fun i j=>.int (i*2 ^ j.toNat)) wC:=Hz fun i j h=>by
 unfold nP at h
 simp only[Bool.and_eq_true,decide_eq_true_eq] at h
 exact⟨h.1.1,by omega,by have:=h.2;simpa using this⟩
def wD(_ j:Int):Bool:=decide (0≤j)
def wF:=CN wD fun i j=>i / 2 ^ j.toNat
theorem Yw:jr K (mI (fun _ j=>0≤j) fun i j=>.int (i / 2 ^ j.toNat)) wF:=Hz fun i j h=>by unfold wD at h;simpa using h
def nQ:=vP fun i j=>Builtin.bitAnd i j
theorem RT:jr K (zV fun i j=>.int (Builtin.bitAnd i j)) nQ:=Ux
theorem Ac:ao X (binaryOp .LShift) (mI Em fun i j=>.int (i*2 ^ j.toNat)):=ao.wk Xp qD
theorem Yx:ao X (binaryOp .RShift) (mI (fun _ j=>0≤j) fun i j=>.int (i / 2 ^ j.toNat)):=ao.wk Xq qD
theorem RW:ao X (binaryOp .BitAnd) (zV fun i j=>.int (Builtin.bitAnd i j)):=ao.wk Xr jT
def mq:=opC fun i j=>decide (i<j)
def mz:=opC fun i j=>decide (i≤j)
def RX:=opC fun i j=>decide (j<i)
def HB:=opC fun i j=>decide (j≤i)
theorem iB:jr K (zV fun i j=>.bl (decide (i<j))) mq:=RQ
theorem iG:jr K (zV fun i j=>.bl (decide (i≤j))) mz:=RQ
theorem Uy:jr K (zV fun i j=>.bl (decide (j<i))) RX:=RQ
theorem Zdp:jr K (zV fun i j=>.bl (decide (j≤i))) HB:=RQ
def ŗ(i j:Int):Bool:=decide (i.natAbs<18446744073709551616) || decide (j.natAbs<18446744073709551616) || (decide (bits i≤1048576) && decide (bits j≤1048576))
theorem HD{i j:Int}(h:ŗ i j=true):qF i j:=by
 unfold ŗ at h
 simp only[Bool.or_eq_true,Bool.and_eq_true,decide_eq_true_eq] at h
 rcases h with(h|h)|h
 ·exact .inl (.inl ⟨by omega,by omega⟩)
 ·exact .inl (.inr ⟨by omega,by omega⟩)
 ·exact .inr h
def Į:PV→PV→Option PV
 | .int i,.int j=>if ŗ i j=true then some (.int (i*j)) else none
 | .str z,.int n=>if 0≤n∧n≤1000∧z.length≤1000 then some (.str (S (List.replicate n.toNat z.cps.toList).flatten)) else none
 |_,_=>none
theorem Ľ:jr K Hl Į:=by
 intro c F H σ ρ p q pv v u Q rel r1 r2 e k
 unfold Į at e
 split at e
 ·split at e
  ·rename_i hc
   cases e
   cases r1.int
   cases r2.int
   exact⟨HD hc,k _ F H rel (Same.refl _) (Same.refl _) Rep.int⟩
  ·cases e
 ·split at e
  ·rename_i hc
   cases e
   cases r1.str
   cases r2.int
   exact⟨hc,k _ F H rel (Same.refl _) (Same.refl _) Rep.str⟩
  ·cases e
 ·cases e
def Zdq(mr:M (List PV))(mk:M PV):M RV:=fun ρ=>(mr ρ).bind fun ps ρ1=>if ps.length≤16777216 then(mk ρ1).bind fun q ρ2=>match q with
 | .int k=>if -(2 ^ 60)≤k∧k<2 ^ 60∧ps.length*k.toNat≤16777216 then .ok (.ow (List.replicate k.toNat ps).flatten) ρ2 else .bad
 |_=>.bad else .bad
variable{E:L2.St→XK}{a b e:Expr}{es:List Expr}{pos:Pos}{ma mb:M PV}{mr:M (List PV)}
def gq:PV→Option PV
 | .int i=>some (.int (-i))
 |_=>none
theorem gw:UnV K (mU fun i=>.int (-i)) gq:=by
 intro c F H σ ρ p pv v Q rel r1 e k
 unfold gq at e
 split at e
 ·cases e
  cases r1.int
  exact k _ F H rel (Same.refl _) (Same.refl _) Rep.int
 ·cases e
mutual
def eqB:PV→PV→Bool
 | .non,.non=>true
 | .bl a,.bl b=>a== b
 | .bl a,.int j=>(if a then 1 else 0)== j
 | .int i,.bl b=>i== (if b then 1 else 0)
 | .int i,.int j=>i== j
 | .str x,.str y=>x== y
 | .lst xs,.lst ys=>dG xs ys
 | .tup xs,.tup ys=>dG xs ys
 |_,_=>false
def dG:List PV→List PV→Bool
 | [],[]=>true
 |x::xs,y::ys=>eqB x y && dG xs ys
 |_,_=>false
end
mutual
def aF:PV→Bool
 | .non| .bl _| .int _=>true
 | .str x=>PyData.strOk x
 | .lst xs=>cg xs
 | .tup xs=>cg xs
 |_=>false
def cg:List PV→Bool
 | []=>true
 |x::xs=>aF x && cg xs
end
mutual
def dep:PV→Nat
 | .lst xs=>pX xs+1
 | .tup xs=>pX xs+1
 |_=>0
def pX:List PV→Nat
 | []=>0
 |x::xs=>max (dep x) (pX xs)
end
mutual
def toD:PV→PyData
 | .non=>.none
 | .bl b=>.bool b
 | .int i=>.int i
 | .str x=>.str x
 | .lst xs=>.list (dH xs)
 | .tup xs=>.tuple (dH xs)
 |_=>.none
def dH:List PV→List PyData
 | []=>[]
 |x::xs=>toD x::dH xs
end
mutual
theorem eE:∀p:PV,aF p=true→(toD p).canLay0=true
 | .non,_=>rfl
 | .bl _,_=>rfl
 | .int _,_=>rfl
 | .str x,h=>by unfold aF at h;unfold toD PyData.canLay0;exact h
 | .lst xs,h=>by unfold aF at h;unfold toD PyData.canLay0;exact gA xs h
 | .tup xs,h=>by unfold aF at h;unfold toD PyData.canLay0;exact gA xs h
 | .ins _ _ _,h=>by simp[aF] at h
 | .xc _ _ _,h=>by simp[aF] at h
 | .ty _,h=>by simp[aF] at h
 | .cls _,h=>by simp[aF] at h
theorem gA:∀ps:List PV,cg ps=true→PyData.canLayAll0 (dH ps)=true
 | [],_=>rfl
 |p::ps,h=>by
  unfold cg at h
  rw[Bool.and_eq_true] at h
  unfold dH PyData.canLayAll0
  rw[eE p h.1,gA ps h.2]
  rfl
end
mutual
theorem eG:∀p:PV,(toD p).depth=dep p
 | .non=>rfl
 | .bl _=>rfl
 | .int _=>rfl
 | .str x=>rfl
 | .lst xs=>by unfold toD PyData.depth dep;rw[nR xs]
 | .tup xs=>by unfold toD PyData.depth dep;rw[nR xs]
 | .ins _ _ _=>rfl
 | .xc _ _ _=>rfl
 | .ty _=>rfl
 | .cls _=>rfl
theorem nR:∀ps:List PV,PyData.depthAll (dH ps)=pX ps
 | []=>rfl
 |p::ps=>by unfold dH PyData.depthAll pX;rw[eG p,nR ps]
end
mutual
theorem tZ:∀p q:PV,aF p=true→aF q=true→PyData.eqv (toD p) (toD q)=eqB p q
 | .lst xs,.lst ys,h1,h2=>by
   unfold aF at h1 h2
   unfold toD eqB PyData.eqv
   exact t_ xs ys h1 h2
 | .tup xs,.tup ys,h1,h2=>by
   unfold aF at h1 h2
   unfold toD eqB PyData.eqv
   exact t_ xs ys h1 h2
 | .ins _ _ _,_,h,_=>by simp[aF] at h
 | .xc _ _ _,_,h,_=>by simp[aF] at h
 | .ty _,_,h,_=>by simp[aF] at h
 | .cls _,_,h,_=>by simp[aF] at h
 | .non,q,_,h=>by cases q<;>first|rfl|(simp[aF] at h)|(simp[toD,eqB,PyData.eqv])
 | .bl _,q,_,h=>by cases q<;>first|rfl|(simp[aF] at h)|(simp[toD,eqB,PyData.eqv])
 | .int _,q,_,h=>by cases q<;>first|rfl|(simp[aF] at h)|(simp[toD,eqB,PyData.eqv])
 | .str _,q,_,h=>by cases q<;>first|rfl|(simp[aF] at h;done)|(simp[toD,eqB,PyData.eqv])
 | .lst _,.non,_,_=>by simp[toD,eqB,PyData.eqv]
 | .lst _,.bl _,_,_=>by simp[toD,eqB,PyData.eqv]
 | .lst _,.int _,_,_=>by simp[toD,eqB,PyData.eqv]
 | .lst _,.str _,_,_=>by simp[toD,eqB,PyData.eqv]
 | .lst _,.tup _,_,_=>by simp[toD,eqB,PyData.eqv]
 | .lst _,.ins _ _ _,_,h=>by simp[aF] at h
 | .lst _,.xc _ _ _,_,h=>by simp[aF] at h
 | .lst _,.ty _,_,h=>by simp[aF] at h
 | .lst _,.cls _,_,h=>by simp[aF] at h
 | .tup _,.non,_,_=>by simp[toD,eqB,PyData.eqv]
 | .tup _,.bl _,_,_=>by simp[toD,eqB,PyData.eqv]
 | .tup _,.int _,_,_=>by simp[toD,eqB,PyData.eqv]
 | .tup _,.str _,_,_=>by simp[toD,eqB,PyData.eqv]
 | .tup _,.lst _,_,_=>by simp[toD,eqB,PyData.eqv]
 | .tup _,.ins _ _ _,_,h=>by simp[aF] at h
 | .tup _,.xc _ _ _,_,h=>by simp[aF] at h
 | .tup _,.ty _,_,h=>by simp[aF] at h
 | .tup _,.cls _,_,h=>by simp[aF] at h
theorem t_:∀ps qs:List PV,cg ps=true→cg qs=true→PyData.eqvAll (dH ps) (dH qs)=dG ps qs
 | [],[],_,_=>by simp[dH,dG,PyData.eqvAll]
 | [],_::_,_,_=>by simp[dH,dG,PyData.eqvAll]
 |_::_,[],_,_=>by simp[dH,dG,PyData.eqvAll]
 |p::ps,q::qs,h1,h2=>by
  unfold cg at h1 h2
  rw[Bool.and_eq_true] at h1 h2
  unfold dH dG PyData.eqvAll
  rw[tZ p q h1.1 h2.1,t_ ps qs h1.2 h2.2]
end
mutual
theorem HF{F:Hp}:∀(p:PV) (v:V),aF p=true→Rep K F p v→Rp K.K F (toD p) v
 | .non,_,_,r=>by unfold Rep at r;unfold toD Rp;exact r
 | .bl _,_,_,r=>by unfold Rep at r;unfold toD Rp;exact r
 | .int _,_,_,r=>by unfold Rep at r;unfold toD Rp;exact r
 | .str _,_,_,r=>by unfold Rep at r;unfold toD Rp;exact r
 | .lst xs,_,h,r=>by
   unfold aF at h
   unfold Rep at r
   unfold toD Rp
   obtain⟨a,vs,h1,h2,h3⟩:=r
   exact⟨a,vs,h1,h2,gQ xs vs h h3⟩
 | .tup xs,_,h,r=>by
   unfold aF at h
   unfold Rep at r
   unfold toD Rp
   obtain⟨a,vs,h1,h2,h3⟩:=r
   exact⟨a,vs,h1,h2,gQ xs vs h h3⟩
 | .ins _ _ _,_,h,_=>by simp[aF] at h
 | .xc _ _ _,_,h,_=>by simp[aF] at h
 | .ty _,_,h,_=>by simp[aF] at h
 | .cls _,_,h,_=>by simp[aF] at h
theorem gQ{F:Hp}:∀(ps:List PV) (vs:List V),cg ps=true→Ĝ K F ps vs→jU K.K F (dH ps) vs
 | [],_,_,r=>by unfold Ĝ at r;unfold dH jU;exact r
 |p::ps,_,h,r=>by
  unfold cg at h
  rw[Bool.and_eq_true] at h
  unfold Ĝ at r
  unfold dH jU
  obtain⟨x,t,h1,h2,h3⟩:=r
  exact⟨x,t,h1,HF p x h.1 h2,gQ ps t h.2 h3⟩
end
theorem gR{c:Ctx}{F H:Hp}{σ:L2.St}{ρ:Ŏ}{p:PV}{v:V}(s:Same F H)(h:aF p=true)(r:rR K c σ ρ F H p v):Rp K.K H (toD p) v:=by
 rcases r with r|r
 ·exact Rp.same s _ _ (HF p v h r)
 ·cases p with
  |lst ps=>
   obtain⟨a,vs,rfl,h3,h4⟩:=r
   unfold aF at h
   unfold toD Rp
   exact⟨a,vs,rfl,aC.of h3,jU.same s _ _ (gQ ps vs h h4)⟩
  |ins C ns ps=>simp[aF] at h
  |_=>exact r.elim
def pY(p q:PV):Bool:=aF p && aF q && decide (min (dep p) (dep q)≤60)
def aA(p q:PV):Option PV:=if pY p q=true then some (.bl (eqB p q)) else none
def cj(p q:PV):Option PV:=if pY p q=true then some (.bl (!eqB p q)) else none
theorem ak:jr K (Rm K.K false) aA:=by
 intro c F H σ ρ p q pv v u Q rel r1 r2 e k
 unfold aA at e
 split at e
 ·rename_i hz
  cases e
  unfold pY at hz
  simp only[Bool.and_eq_true,decide_eq_true_eq] at hz
  refine⟨toD p,toD q,gR rel.sub hz.1.1 r1,gR rel.sub hz.1.2 r2,eE p hz.1.1,eE q hz.1.2,by rw[eG,eG];exact hz.2,?_⟩
  rw[tZ p q hz.1.1 hz.1.2]
  exact k _ F H rel (Same.refl _) (Same.refl _) Rep.bl
 ·cases e
theorem nT:jr K (Rm K.K true) cj:=by
 intro c F H σ ρ p q pv v u Q rel r1 r2 e k
 unfold cj at e
 split at e
 ·rename_i hz
  cases e
  unfold pY at hz
  simp only[Bool.and_eq_true,decide_eq_true_eq] at hz
  refine⟨toD p,toD q,gR rel.sub hz.1.1 r1,gR rel.sub hz.1.2 r2,eE p hz.1.1,eE q hz.1.2,by rw[eG,eG];exact hz.2,?_⟩
  rw[tZ p q hz.1.1 hz.1.2]
  exact k _ F H rel (Same.refl _) (Same.refl _) Rep.bl
 ·cases e
def wG:PV→Bool
 | .non=>true
 |_=>false
def pZ(p q:PV):Option PV:=match q with
 | .non=>some (.bl (wG p))
 |_=>none
def RZ(p q:PV):Option PV:=match q with
 | .non=>some (.bl (!wG p))
 |_=>none
theorem R_{c:Ctx}{F H:Hp}{σ:L2.St}{ρ:Ŏ}{p:PV}{v:V}(r:rR K c σ ρ F H p v):decide (v=.non)=wG p:=by
 rcases r with r|r
 ·cases p<;>unfold Rep at r<;>first
   |(subst r;rfl)
   |(obtain⟨a,xs,rfl,_⟩:=r;rfl)
   |(obtain⟨a,xs,ys,rfl,_⟩:=r;rfl)
 ·cases p with
  |lst ps=>obtain⟨a,vs,rfl,_⟩:=r;rfl
  |ins C ns ps=>obtain⟨a,dx,fs,rfl,_⟩:=r;rfl
  |_=>exact r.elim
theorem qK:jr K (fun x y H Q=>y=.non∧Q (.bl (decide (x=.non))) H) pZ:=by
 intro c F H σ ρ p q pv v u Q rel r1 r2 e k
 unfold pZ at e
 split at e
 ·cases e
  refine⟨r2.non,?_⟩
  rw[R_ r1]
  exact k _ F H rel (Same.refl _) (Same.refl _) Rep.bl
 ·cases e
def Ě:PV→PV→Option PV
 | .lst ps,.int i=>sZ ps i
 | .tup ps,.int i=>sZ ps i
 | .str z,.int i=>if z.length≤16777216 then(sZ z.cps.toList i).map fun c=>.str ⟨#[c]⟩ else none
 |_,_=>none
theorem Dp{F:Hp}{ps:List PV}{vs:List V}{i:Int}{p:PV}(r:Ĝ K F ps vs)(h:sZ ps i=some p):∃v,sZ vs i=some v∧Rep K F p v:=by
 unfold sZ at h ⊢
 rw[r.length] at h
 cases e:Ge vs.length i with
 |none=>rw[e] at h;cases h
 |some j=>
  rw[e] at h
  obtain⟨v,h1,h2⟩:=cC r.pr h
  exact⟨v,h1,h2⟩
theorem ē:jr K (mIx K.K) Ě:=by
 intro c F H σ ρ p q pv v u Q rel r1 r2 e k
 unfold Ě at e
 split at e
 ·obtain⟨a,vs,rfl,h1,h2⟩:=r1.lst rel.sub
  cases r2.int
  obtain⟨x,h3,h4⟩:=Dp h2 e
  exact⟨vs,x,.inl h1,h3,k _ F H rel (Same.refl _) (Same.refl _) h4⟩
 ·obtain⟨a,vs,rfl,h1,h2⟩:=r1.tup rel.sub
  cases r2.int
  obtain⟨x,h3,h4⟩:=Dp h2 e
  exact⟨vs,x,.inr h1,h3,k _ F H rel (Same.refl _) (Same.refl _) h4⟩
 ·split at e
  ·rename_i z i hz
   cases r1.str
   cases r2.int
   cases ea:sZ z.cps.toList i with
   |none=>rw[ea] at e;cases e
   |some cc=>
    rw[ea] at e
    cases e
    exact⟨cc,by rw[ō];exact hz,ea,k _ F H rel (Same.refl _) (Same.refl _) Rep.str⟩
  ·cases e
 ·cases e
def wH:M (Option Int):=fun ρ=>.ok none ρ
def mP(m:M PV):M (Option Int):=fun ρ=>(m ρ).bind fun p ρ1=>match p with
 | .int i=>.ok (some i) ρ1
 |_=>.bad
abbrev tP(K:KK)(E:L2.St→XK)(m:M (Option Int)):TO:=tG K E rI m
theorem nU:PO X none (tP (kk X cm) E wH):=fun pins s σ H Q I h=>Rf pins s σ H Q I (by
 obtain⟨c,F,ρ,rel,h⟩:=h
 exact h none F H rel (Same.refl _) (Same.refl _) rfl)
theorem aH(ha:PE X e (tV (kk X cm) E ma)):PO X (some e) (tP (kk X cm) E (mP ma)):=fun pins s σ H Q I h=>GX ha pins s σ H Q I (by
 obtain⟨c,F,ρ,rel,h⟩:=h
 refine⟨c,F,ρ,rel,h.bind fun p ρ1 v F1 H1 Ę _ _ r1 h1=>?_⟩
 cases p with
 |int i=>
  have e:v=.int i:=by have r1':Rep (kk X cm) F1 (.int i) v:=r1;unfold Rep at r1';exact r1'
  subst e
  exact h1 (some i) F1 H1 Ę (Same.refl _) (Same.refl _) rfl
 |_=>exact h1.elim)
def bT{α:Type}(xs:List α)(lo hi:Option Int):List α:= (xs.drop (HT.gK xs.length 0 lo)).take (HT.gK xs.length xs.length hi-HT.gK xs.length 0 lo)
def Sd(p:PV)(lo hi:Option Int):Option RV:=match p with
 | .lst ps=>some (.ow (bT ps lo hi))
 | .str z=>if z.length≤16777216 then some (.sh (.str (S (bT z.cps.toList lo hi)))) else none
 |_=>none
def Ad(ma:M PV)(ml mh:M (Option Int)):M RV:=fun ρ=>(ma ρ).bind fun p ρ1=>(ml ρ1).bind fun lo ρ2=>(mh ρ2).bind fun hi ρ3=>Res.mX (Sd p lo hi) ρ3
theorem bK{ml mh:M (Option Int)}{lo hi:Option Expr}{p2:Pos}(ha:PE X a (tR (kk X cm) E ma))(hl:PO X lo (tP (kk X cm) E ml))(hh:PO X hi (tP (kk X cm) E mh)):PE X (.Subscript a (.Slice lo hi none p2) pos) (tO (kk X cm) E (Ad ma ml mh)):=
 PE.wk (GD slm ha hl hh) fun σ H Q ⟨c,F,ρ,rel,h⟩=>⟨c,F,ρ,rel,h.bind fun p ρ1 v F1 H1 Ę _ _ r1 h1=>⟨c,F1,ρ1,Ę,h1.bind fun lo ρ2 lo' F2 H2 ŉ sF sH r2 h2=>⟨c,F2,ρ2,ŉ,h2.bind fun hi ρ3 hi' F3 H3 mj sF3 sH3 r3 h3=>by
   have e2:lo=lo':=r2
   have e3:hi=hi':=r3
   subst e2 e3
   have r1':rR (kk X cm) c σ ρ3 F3 H3 p v:=r1.mono (sF.trans sF3) (sH.trans sH3)
   cases p with
   |lst ps=>
    obtain⟨a,vs,rfl,q1,q2⟩:=r1'.lst mj.sub
    refine⟨vs,q1,fun d hd=>?_⟩
    have e:Ĝ (kk X cm) F3 (bT ps lo hi) (vQ vs lo hi):=by
     unfold bT vQ
     rw[q2.length]
     exact Ĝ.of (Dc _ (Dd _ q2.pr))
    obtain⟨z1,z2⟩:=gb mj hd e
    exact h3 _ F3 _ z1 (Same.refl _) (Same.upd hd) z2
   |str z=>
    cases r1'.str
    unfold Sd at h3
    dsimp only at h3
    split at h3
    ·rename_i hz
     exact⟨by rw[ō];exact hz,h3 _ F3 H3 mj (Same.refl _) (Same.refl _) (Rep.str (K:=kk X cm) (F:=F3))⟩
    ·exact h3.elim
   |_=>exact h3.elim⟩⟩⟩
theorem Ae{c:Ctx}{F H:Hp}{σ:L2.St}{ρ:Ŏ}{p:PV}{vs:List V}(h:rRL K c σ ρ F H [p] vs):∃v,vs=[v]∧rR K c σ ρ F H p v:=by
 cases h with
 |cons r t=>cases t;exact⟨_,rfl,r⟩
theorem Yy{c:Ctx}{F H:Hp}{σ:L2.St}{ρ:Ŏ}{p q:PV}{vs:List V}(h:rRL K c σ ρ F H [p,q] vs):∃v u,vs=[v,u]∧rR K c σ ρ F H p v∧rR K c σ ρ F H q u:=by
 cases h with
 |cons r t=>
  cases t with
  |cons r' t=>cases t;exact⟨_,_,rfl,r,r'⟩
def jt:List PV→Option PV
 | [.lst ps]=>some (.int ps.length)
 | [.tup ps]=>some (.int ps.length)
 | [.str z]=>if z.length≤16777216 then some (.int z.length) else none
 |_=>none
theorem eN:dB K (Yj K.K) jt:=by
 intro c F H σ ρ ps pv vs Q rel r e k
 unfold jt at e
 split at e
 ·cases e
  obtain⟨v,rfl,r1⟩:=Ae r
  obtain⟨a,xs,rfl,h1,h2⟩:=r1.lst rel.sub
  refine⟨xs,.inl h1,?_⟩
  rw[←h2.length]
  exact k _ F H rel (Same.refl _) (Same.refl _) Rep.int
 ·cases e
  obtain⟨v,rfl,r1⟩:=Ae r
  obtain⟨a,xs,rfl,h1,h2⟩:=r1.tup rel.sub
  refine⟨xs,.inr h1,?_⟩
  rw[←h2.length]
  exact k _ F H rel (Same.refl _) (Same.refl _) Rep.int
 ·split at e
  ·rename_i hz
   cases e
   obtain⟨v,rfl,r1⟩:=Ae r
   cases r1.str
   exact⟨by rw[ō];exact hz,k _ F H rel (Same.refl _) (Same.refl _) Rep.int⟩
  ·cases e
 ·cases e
def Sg:List PV→Option PV
 | [.int i]=>some (.int (if i<0 then -i else i))
 |_=>none
theorem Yz:dB K mAbs Sg:=by
 intro c F H σ ρ ps pv vs Q rel r e k
 unfold Sg at e
 split at e
 ·cases e
  obtain⟨v,rfl,r1⟩:=Ae r
  cases r1.int
  exact k _ F H rel (Same.refl _) (Same.refl _) Rep.int
 ·cases e
def qL:List PV→Option PV
 | [.int i,.int j]=>some (.int (if j<i then j else i))
 |_=>none
def Dq:List PV→Option PV
 | [.int i,.int j]=>some (.int (if j>i then j else i))
 |_=>none
theorem uc:dB K GQ qL:=by
 intro c F H σ ρ ps pv vs Q rel r e k
 unfold qL at e
 split at e
 ·cases e
  obtain⟨v,u,rfl,r1,r2⟩:=Yy r
  cases r1.int
  cases r2.int
  exact k _ F H rel (Same.refl _) (Same.refl _) Rep.int
 ·cases e
theorem Sh:dB K GR Dq:=by
 intro c F H σ ρ ps pv vs Q rel r e k
 unfold Dq at e
 split at e
 ·cases e
  obtain⟨v,u,rfl,r1,r2⟩:=Yy r
  cases r1.int
  cases r2.int
  exact k _ F H rel (Same.refl _) (Same.refl _) Rep.int
 ·cases e
def dI:List PV→Option RV
 | [.lst ps]=>some (.ow ps)
 | [.tup ps]=>some (.ow ps)
 |_=>none
def Dr(K:PySem.W.Frag):List V→Hp→VK→Prop:=fun xs H Q=>∃p ys,xs=[.ref p]∧(aC K H p ys∨cY K H p ys)∧∀l,H l=none→Q (.ref l) (upd H l (.lst ys))
theorem cM:Š X (.type "list") (Dr X.K):=tE
theorem cN:Ur K (Dr K.K) dI:=by
 intro c F H σ ρ ps pv vs Q rel r e k
 unfold dI at e
 split at e
 ·cases e
  obtain⟨v,rfl,r1⟩:=Ae r
  obtain⟨a,xs,rfl,h1,h2⟩:=r1.lst rel.sub
  refine⟨a,xs,rfl,.inl h1,fun l hl=>?_⟩
  obtain⟨q1,q2⟩:=gb rel hl h2
  exact k _ F _ q1 (Same.refl _) (Same.upd hl) q2
 ·cases e
  obtain⟨v,rfl,r1⟩:=Ae r
  obtain⟨a,xs,rfl,h1,h2⟩:=r1.tup rel.sub
  refine⟨a,xs,rfl,.inr h1,fun l hl=>?_⟩
  obtain⟨q1,q2⟩:=gb rel hl h2
  exact k _ F _ q1 (Same.refl _) (Same.upd hl) q2
 ·cases e
def qb:PV→String→Option Bool
 | .int _,"int" =>some true
 | .int _,"bool" =>some false
 | .int _,"str" =>some false
 | .int _,"tuple" =>some false
 | .int _,"list" =>some false
 | .bl _,"int" =>some true
 | .bl _,"bool" =>some true
 | .lst _,"list" =>some true
 | .lst _,"tuple" =>some false
 | .lst _,"int" =>some false
 | .lst _,"str" =>some false
 | .tup _,"tuple" =>some true
 | .tup _,"list" =>some false
 | .tup _,"int" =>some false
 | .tup _,"str" =>some false
 | .str _,"str" =>some true
 | .str _,"int" =>some false
 | .str _,"list" =>some false
 | .str _,"tuple" =>some false
 | .non,"int" =>some false
 | .non,"str" =>some false
 | .non,"tuple" =>some false
 | .non,"list" =>some false
 |_,_=>none
end
theorem wI{K:KK}{F:Hp}:∀ns:List Int,Ĝ K F (ns.map .int) (ns.map V.int)
 | []=>Ĝ.nil
 |n::ns=>Ĝ.cons Rep.int (wI ns)
def Zdr(K:PySem.W.Frag):Sp:=fun vs H Q _=>∃(sa:Addr) (ns:List Int),vs=[.ref sa]∧aC K H sa (ns.map V.int)∧ns.length≤63∧∀v H',v=.bl true→Q v H'
end P
namespace P
open PySem PySem.Spec PyProof.Rows L2 M2 M3 M4
section
variable{X:Cx}{cm:String→Addr}{K:KK}
def TyP(K:PySem.W.Frag)(H:Hp)(x:V)(t:Value):Prop:=match x with
 | .non=>t=.type "NoneType"
 | .bl _=>t=.type "bool"
 | .int _=>t=.type "int"
 | .str _=>t=.type "str"
 | .ref a=>(t=.type "list" ∧∃xs,aC K H a xs)∨(t=.type "tuple" ∧∃xs,cY K H a xs)∨jR K H (.ref a) t
 |_=>False
def Dt(K:PySem.W.Frag):List V→Hp→VK→Prop:=fun xs H Q=>match xs with
 | [x,.ty n]=>∃t b,TyP K H x t∧PySem.W.kitOne K t (.type n)=some b∧Q (.bl b) H
 | [x,.ref C]=>∃t b,TyP K H x t∧PySem.W.kitOne K t (.ref C)=some b∧Q (.bl b) H
 |_=>False
theorem Du{pins:List (Addr×Obj)}{σ:L2.St}{H:Hp}{s:Shared}{A:Around}{E:Value→Shared→Prop}{Q:Value→Shared→Prop}{c:Value}{b:Bool}{x:V}{u t:Value}(I:Inv X pins σ H s)(rx:RelV x u)(ty:TyP X.K H x t)(e:PySem.W.kitOne X.K t c=some b)(h:∀tk,Q (.bool b) {s with toks:=tk}) :
 wpAny (model X.prog X.w) A (call (.builtin "isinstance") [u,c]) Q E s:=by
 cases x with
 |non=>cases(show t=_ from ty);exact dg I rx .non e h
 |bl y=>cases(show t=_ from ty);exact dg I rx (.bl y) e h
 |int y=>cases(show t=_ from ty);exact dg I rx (.int y) e h
 |str y=>cases(show t=_ from ty);exact dg I rx (.str y) e h
 |ref a=>
  cases(show u=Value.ref a from rx)
  rcases ty with⟨rfl,xs,hS⟩|⟨rfl,xs,hS⟩|ty
  ·obtain⟨its,r,⟨o,n,h1,h2,_⟩,_⟩:=I.list hS
   exact PySem.W.kia_one PySem.W.kitx_list I.fK ⟨o,h1,h2⟩ e (fun z=>nomatch z) h
  ·obtain⟨its,r,⟨o,h1,h2,_⟩,_⟩:=I.tuple hS
   exact PySem.W.kia_one PySem.W.kitx_tuple I.fK ⟨o,h1,h2⟩ e (fun z=>nomatch z) h
  ·exact dg I rx ty e h
 |_=>exact ty.elim
theorem YB:Š X (.builtin "isinstance") (Dt X.K):=by
 intro pins s σ H xs us Q I r h
 unfold Dt at h
 split at h
 ·obtain⟨t,b,h1,h2,h3⟩:=h
  obtain⟨u,w',rfl,r1,r2⟩:=vals2 r
  cases r2
  exact Du I r1 h1 h2 fun tk=>⟨.bl b,H,I.tok _,rfl,h3⟩
 ·obtain⟨t,b,h1,h2,h3⟩:=h
  obtain⟨u,w',rfl,r1,r2⟩:=vals2 r
  cases r2
  exact Du I r1 h1 h2 fun tk=>⟨.bl b,H,I.tok _,rfl,h3⟩
 ·exact h.elim
def tyN:PV→String
 | .non=> "NoneType"
 | .bl _=> "bool"
 | .int _=> "int"
 | .str _=> "str"
 | .lst _=> "list"
 | .tup _=> "tuple"
 |_=> ""
theorem HJ{F:PySem.W.Frag}{p:PV}{n:String}{b:Bool}(h:qb p n=some b):PySem.W.kitOne F (.type (tyN p)) (.type n)=some b:=by
 unfold qb at h
 split at h<;>first
  |(cases h;first|rfl|decide +kernel|kernel_rfl)
  |cases h
theorem Sq{c:Ctx}{F H:Hp}{σ:L2.St}{ρ:Ŏ}{p:PV}{v:V}(s:Same F H)(r:rR K c σ ρ F H p v)(h:∃n b,qb p n=some b):TyP K.K H v (.type (tyN p)):=by
 obtain⟨n,b,h⟩:=h
 cases p with
 |non=>cases r.non;rfl
 |bl _=>cases r.bl;rfl
 |int _=>cases r.int;rfl
 |str _=>cases r.str;rfl
 |lst ps=>
  obtain⟨a,vs,rfl,h1,h2⟩:=r.lst s
  exact .inl ⟨rfl,vs,h1⟩
 |tup ps=>
  obtain⟨a,vs,rfl,h1,h2⟩:=r.tup s
  exact .inr (.inl ⟨rfl,vs,h1⟩)
 |ins _ _ _=>simp[qb] at h
 |xc _ _ _=>simp[qb] at h
 |ty _=>simp[qb] at h
 |cls _=>simp[qb] at h
def HN:List PV→Option PV
 | [p,.ty n]=>(qb p n).map .bl
 |_=>none
theorem HS:dB K (Dt K.K) HN:=by
 intro c F H σ ρ ps pv vs Q rel r e k
 unfold HN at e
 split at e
 ·rename_i p n
  obtain⟨v,u,rfl,r1,r2⟩:=Yy r
  cases r2.ty
  cases eb:qb p n with
  |none=>rw[eb] at e;cases e
  |some b=>
   rw[eb] at e
   cases e
   exact⟨_,b,Sq rel.sub r1 ⟨n,b,eb⟩,HJ eb,k _ F H rel (Same.refl _) (Same.refl _) Rep.bl⟩
 ·cases e
def nW:List PV→Option PV
 | [.lst ps]=>some (.tup ps)
 | [.tup ps]=>some (.tup ps)
 |_=>none
def HW(K:PySem.W.Frag):List V→Hp→VK→Prop:=fun xs H Q=>∃p ys,xs=[.ref p]∧((aC K H p ys∧∀l,H l=none→Q (.ref l) (upd H l (.tup ys)))∨(cY K H p ys∧Q (.ref p) H))
theorem HX:Š X (.type "tuple") (HW X.K):=pU
theorem HY:dB K (HW K.K) nW:=by
 intro c F H σ ρ ps pv vs Q rel r e k
 unfold nW at e
 split at e
 ·cases e
  obtain⟨v,rfl,r1⟩:=Ae r
  obtain⟨a,xs,rfl,h1,h2⟩:=r1.lst rel.sub
  refine⟨a,xs,rfl,.inl ⟨h1,fun l hl=>k _ _ _ (rel.alloc hl) (Same.upd (rel.sub.free hl)) (Same.upd hl) ?_⟩⟩
  unfold Rep
  exact⟨l,xs,rfl,cY.of ī,Ĝ.same (Same.upd (rel.sub.free hl)) _ _ h2⟩
 ·cases e
  obtain⟨v,rfl,r1⟩:=Ae r
  have r1':=r1
  obtain⟨a,xs,rfl,h1,h2⟩:=r1.tup rel.sub
  refine⟨a,xs,rfl,.inr ⟨h1,k _ F H rel (Same.refl _) (Same.refl _) ?_⟩⟩
  rcases r1' with q|q
  ·exact q
  ·exact q.elim
 ·cases e
def boolsOf:List PV→Option (List Bool)
 | []=>some []
 | .bl b::ps=>(boolsOf ps).map (b:: ·)
 |_::_=>none
theorem qM{F:Hp}:∀{ps:List PV} {vs:List V} {bs:List Bool},Ĝ K F ps vs→boolsOf ps=some bs→vs=bs.map V.bl
 | [],vs,bs,r,h=>by
   cases h
   have r':=r.pr
   cases r'
   rfl
 |p::ps,vs,bs,r,h=>by
  cases p with
  |bl b=>
   unfold boolsOf at h
   cases eb:boolsOf ps with
   |none=>rw[eb] at h;cases h
   |some cs=>
    rw[eb] at h
    cases h
    have r':=r.pr
    cases r' with
    |cons r1 t=>
     rw[tX r1,qM (Ĝ.of t) eb]
     rfl
  |_=>simp[boolsOf] at h
def mD:List PV→Option PV
 | [.lst ps]=>(boolsOf ps).map fun bs=>.bl (bs.all id)
 |_=>none
theorem jW:dB K (Yp K.K) mD:=by
 intro c F H σ ρ ps pv vs Q rel r e k
 unfold mD at e
 split at e
 ·rename_i ps
  obtain⟨v,rfl,r1⟩:=Ae r
  obtain⟨a,xs,rfl,h1,h2⟩:=r1.lst rel.sub
  cases eb:boolsOf ps with
  |none=>rw[eb] at e;cases e
  |some bs=>
   rw[eb] at e
   cases e
   refine⟨bs,by rw[←qM h2 eb];exact h1,k _ F H rel (Same.refl _) (Same.refl _) Rep.bl⟩
 ·cases e
end
end P
namespace P
open PySem PySem.Spec PyProof.Rows L2 M2 M3 M4
section
variable{α β:Type}{ρ:Ŏ}{i j n k:Nat}{p q:PV}{ps:List PV}{m ma mb mc:M PV}{mo:M RV}{a b:M Fl}{ta tb:M Bool}{mr:M (List PV)}{f:PV→PV→Option PV}{fo:PV→PV→Option RV}{fl:List PV→Option PV}{flo:List PV→Option RV}{g:Tg}{gs:Gf}
@[simp] theorem ZoU:dD ρ=.ok .nx ρ:= rfl
@[simp] theorem ZoV:mBk ρ=.ok .bk ρ:= rfl
@[simp] theorem ZoW:mCt ρ=.ok .ct ρ:= rfl
@[simp] theorem ZkK:(ZkE:M α) ρ=.bad:=rfl
@[simp] theorem ZkL:ĝ a b ρ=(a ρ).bind fun f ρ1=>match f with| .nx=>b ρ1|f=>.ok f ρ1:=rfl
@[simp] theorem ZkM:ĳ i mo ρ=(mo ρ).bind fun r ρ1=>.ok .nx (ρ1.set i r.slot):=rfl
@[simp] theorem ZkN:Ĳ mo ρ=(mo ρ).bind fun r ρ1=>.ok (.rt r) ρ1:=rfl
@[simp] theorem Zjs:Zdk ρ=.ok (.rt (.sh .non)) ρ:= rfl
@[simp] theorem Zjt:wg m ρ=(m ρ).bind fun _ ρ1=>.ok .nx ρ1:=rfl
@[simp] theorem Zpc:mC p ρ=.ok p ρ:= rfl
@[simp] theorem ZoX:Ŗ m ρ=(m ρ).bind fun p ρ1=>.ok (.sh p) ρ1:=rfl
@[simp] theorem ZkO:ĕ mo ρ=(mo ρ).bind fun r ρ1=>.ok r.val ρ1:=rfl
@[simp] theorem ZkP:(RV.sh p).val=p:=rfl
@[simp] theorem ZkQ:(RV.ow ps).val=.lst ps:=rfl
@[simp] theorem ZkR:(RV.sh p).slot=.sh p:=rfl
@[simp] theorem ZkS:(RV.ow ps).slot=.ow ps:=rfl
@[simp] theorem ZkT:Ĉ f ma mb ρ=(ma ρ).bind fun p ρ1=>(mb ρ1).bind fun q ρ2=>Res.mX (f p q) ρ2:=rfl
@[simp] theorem Zju:Ł fo ma mb ρ=(ma ρ).bind fun p ρ1=>(mb ρ1).bind fun q ρ2=>Res.mX (fo p q) ρ2:=rfl
@[simp] theorem ZoY{u:PV→Option PV}:jh u ma ρ=(ma ρ).bind fun p ρ1=>Res.mX (u p) ρ1:=rfl
@[simp] theorem ZkU:cI m ρ=(m ρ).bind fun p ρ1=>Res.mX (Yt p) ρ1:=rfl
@[simp] theorem ZoZ:cZ m ρ=(m ρ).bind fun p ρ1=>match p with| .bl b=>.ok b ρ1|_=>.bad:=rfl
@[simp] theorem Zjv:dj ta ρ=(ta ρ).bind fun b ρ1=>.ok (!b) ρ1:=rfl
@[simp] theorem Zjw:iy ta tb ρ=(ta ρ).bind fun b ρ1=>if b=true then tb ρ1 else .ok false ρ1:=rfl
@[simp] theorem ZkV:Rz ta tb ρ=(ta ρ).bind fun b ρ1=>if b=true then .ok true ρ1 else tb ρ1:=rfl
@[simp] theorem ZkW:dY ma mb ρ=(ma ρ).bind fun p ρ1=>match p with| .bl b=>if b=true then mb ρ1 else .ok (.bl false) ρ1|_=>.bad:=by
  unfold dY
  congr
  funext p ρ1
  cases p with
  |bl b=>cases b<;>rfl
  |_=>rfl
@[simp] theorem Zo0:mOr ma mb ρ=(ma ρ).bind fun p ρ1=>match p with| .bl b=>if b=true then .ok (.bl true) ρ1 else mb ρ1|_=>.bad:=by
  unfold mOr
  congr
  funext p ρ1
  cases p with
  |bl b=>cases b<;>rfl
  |_=>rfl
@[simp] theorem ZkX:Hv ma ρ=(ma ρ).bind fun p ρ1=>match p with| .bl b=>.ok (.bl (!b)) ρ1|_=>.bad:=rfl
@[simp] theorem Zo1{x y:M α}:cL ta x y ρ=(ta ρ).bind fun b ρ1=>if b=true then x ρ1 else y ρ1:=rfl
@[simp] theorem ZkY{f g:PV→PV→Option PV}:tW f g ma mb mc ρ=(ma ρ).bind fun p ρ1=>(mb ρ1).bind fun q ρ2=>(Res.mX (f p q) ρ2).bind fun z ρ3=>match z with
  | .bl true=>(mc ρ3).bind fun w ρ4=>Res.mX (g q w) ρ4
  | .bl false=>.ok (.bl false) ρ3
  |_=>.bad:=rfl
@[simp] theorem ZkZ:ě ρ=.ok [] ρ:= rfl
@[simp] theorem Zjx:Ą ma mr ρ=(ma ρ).bind fun p ρ1=>(mr ρ1).bind fun ps ρ2=>.ok (p::ps) ρ2:=rfl
@[simp] theorem Zk0:Ř mr ρ=(mr ρ).bind fun ps ρ1=>if ps.length≤16777216 then .ok (.tup ps) ρ1 else .bad:=rfl
@[simp] theorem Zk1:bF mr ρ=(mr ρ).bind fun ps ρ1=>if ps.length≤16777216 then .ok (.ow ps) ρ1 else .bad:=rfl
@[simp] theorem Zo2:dz fl mr ρ=(mr ρ).bind fun ps ρ1=>Res.mX (fl ps) ρ1:=rfl
@[simp] theorem Zk2:nG flo mr ρ=(mr ρ).bind fun ps ρ1=>Res.mX (flo ps) ρ1:=rfl
@[simp] theorem Zjy{mf:MF}{ms:M (List Slot)}:đ mf ms ρ=(ms ρ).bind fun ps ρ1=>match mf ps with| .ret r=>.ok r ρ1| .exc x=>.exc x ρ1| .bad=>.bad:=rfl
@[simp] theorem Zo3:ġ i ρ=(match ρ[i]? with|some (.sh p)=>.ok p ρ|some (.ow ps)=>.ok (.lst ps) (ρ.set i (.sh (.lst ps)))|_=>.bad):=rfl
@[simp] theorem Zo4:Ā i ρ=(match ρ[i]? with|some (.sh p)=>.ok p ρ|some (.ow ps)=>.ok (.lst ps) ρ|some (.bw ps)=>.ok (.lst ps) ρ|some (.rc C ns ps)=>.ok (.ins C ns ps) ρ|_=>.bad):=rfl
@[simp] theorem Zo5:dh i ρ=(match ρ[i]? with|some (.sh p)=>.ok (.sh p) ρ|some (.ow ps)=>.ok (.ow ps) (ρ.set i .no)|_=>.bad):=rfl
@[simp] theorem Zk3:RG g m ρ=(m ρ).bind fun p ρ1=>match g p ρ1 with|some ρ2=>.ok .nx ρ2|none=>.bad:=rfl
@[simp] theorem Zk4:ZkF i j mr ρ=(mr ρ).bind fun ps ρ1=>match ps with| [p,q]=>.ok .nx ((ρ1.set i (.sh p)).set j (.sh q))|_=>.bad:=rfl
@[simp] theorem H_:gN i p ρ=some (ρ.set i (.sh p)):=rfl
@[simp] theorem Zds:Ū [] ρ=some ρ:= rfl
@[simp] theorem ZcG:ĥ g gs (p::ps) ρ=(g p ρ).bind fun ρ1=>gs ps ρ1:=rfl
@[simp] theorem Zo6:gT n gs (.tup ps) ρ=if ps.length=n then gs ps ρ else none:=rfl
@[simp] theorem Zk5:tY i m ρ=(match ρ[i]? with
  |some (.ow _)=>(m ρ).bind fun p ρ1=>match ρ1[i]? with
   |some (.ow ps)=>if ps.length<16777216 then .ok .nx (ρ1.set i (.ow (ps ++ [p]))) else .bad
   |_=>.bad
  |_=>.bad):=rfl
@[simp] theorem Zdt{mi:M PV}:zY i mi m ρ=(m ρ).bind fun p ρ1=>match ρ1[i]? with
  |some (.ow _)=>(mi ρ1).bind fun q ρ2=>match ρ2[i]?,q with
   |some (.ow ps),.int k=>match Ge ps.length k with
    |some j=>.ok .nx (ρ2.set i (.ow (ps.set j p)))
    |none=>.bad
   |_,_=>.bad
  |_=>.bad:=rfl
@[simp] theorem Zk6:wH ρ=.ok none ρ:= rfl
@[simp] theorem Zpd:mP m ρ=(m ρ).bind fun p ρ1=>match p with| .int i=>.ok (some i) ρ1|_=>.bad:=rfl
@[simp] theorem Zo7{ml mh:M (Option Int)}:Ad ma ml mh ρ=(ma ρ).bind fun p ρ1=>(ml ρ1).bind fun lo ρ2=>(mh ρ2).bind fun hi ρ3=>Res.mX (Sd p lo hi) ρ3:=rfl
@[simp] theorem Zk7{lo hi:Option Int}:Sd (.lst ps) lo hi=some (.ow (bT ps lo hi)):=rfl
@[simp] theorem Zdu:ŧ m ρ=(m ρ).bind fun p ρ1=>match p with
  | .lst ps=>.ok ps ρ1
  | .tup ps=>.ok ps ρ1
  | .str z=>.ok (z.cps.toList.map fun c=>.str ⟨#[c]⟩) ρ1
  |_=>.bad:=rfl
@[simp] theorem Zdv{h:List PV→Option (List PV)}:au h mr ρ=(mr ρ).bind fun ps ρ1=>Res.mX (h ps) ρ1:=rfl
@[simp] theorem YC{mi:M (List PV)}:cJ mi g b ρ=(mi ρ).bind fun items ρ1=>forL g b items ρ1:=rfl
@[simp] theorem Zjz{js:List Nat}{nl:Nat}{mi:M (List PV)}{mt:M Bool}{me:M PV}:Ŕ js nl mi g mt me ρ=(mi ρ).bind fun items ρ1=>match ň g mt me items (wz js nl ρ1) [] with
  |some ps=>.ok (.ow ps) ρ1
  |none=>.bad:=rfl
@[simp] theorem Zk8:Ŋ ρ=.ok true ρ:= rfl
@[simp] theorem ZjA{mk:M PV}:Zdq mr mk ρ=(mr ρ).bind fun ps ρ1=>if ps.length≤16777216 then(mk ρ1).bind fun q ρ2=>match q with
  | .int k=>if -(2 ^ 60)≤k∧k<2 ^ 60∧ps.length*k.toNat≤16777216 then .ok (.ow (List.replicate k.toNat ps).flatten) ρ2 else .bad
  |_=>.bad else .bad:=rfl
@[simp] theorem Zk9{mbd:M Fl}{as:List Slot}:ń n k mbd as=if as.length=n then FR.of (mbd (startP k as)) else .bad:=rfl
@[simp] theorem Zk_{r:RV}:FR.of (.ok (.rt r) ρ)=.ret r:=rfl
@[simp] theorem Zla:FR.of (.ok .nx ρ)=.ret (.sh .non):=rfl
@[simp] theorem Zlb{x:PX}:FR.of (.exc x ρ)=.exc x:=rfl
@[simp] theorem Zlc:FR.of .bad=.bad:=rfl
@[simp] theorem Zdw{as:List Slot}:startP k as=as++List.replicate (k-as.length) .no:=rfl
@[simp] theorem ZjB:Ď ρ=.ok [] ρ:= rfl
@[simp] theorem Zdx{ms:M (List Slot)}:Ė ma ms ρ=(ma ρ).bind fun p ρ1=>(ms ρ1).bind fun as ρ2=>.ok (.sh p::as) ρ2:=rfl
@[simp] theorem Zdy{ms:M (List Slot)}:ą i ms ρ=(match(ρ[i]?).bind dw with
  |none=>.bad
  |some _=>(ms ρ).bind fun as ρ2=>match(ρ2[i]?).bind dw with
   |some s=>.ok (s::as) ρ2
   |none=>.bad):=rfl
@[simp] theorem Zld:dw (.sh p)=some (.sh p):=rfl
@[simp] theorem Zle:dw (.ow ps)=some (.bw ps):=rfl
@[simp] theorem Zlf:dw (.bw ps)=some (.bw ps):=rfl
@[simp] theorem Zlg:wu (.sh p)=.sh p:=rfl
@[simp] theorem Zlh:wu (.ow ps)=.bw ps:=rfl
@[simp] theorem Zli:wu (.bw ps)=.bw ps:=rfl
@[simp] theorem Zlj{js:List Nat}{nl:Nat}:wz js nl ρ=js.map (fun(j:Nat)=>wu ((ρ[j]?).getD .no))++List.replicate nl .no:=rfl
@[simp] theorem Af:ŏ i ρ=(match ρ[i]? with
  |some (.bw ps)=>.ok ps ρ
  |some (.sh (.lst ps))=>.ok ps ρ
  |some (.sh (.tup ps))=>.ok ps ρ
  |some (.sh (.str z))=>.ok (z.cps.toList.map fun c=>.str ⟨#[c]⟩) ρ
  |some (.ow ps)=>.ok ps (ρ.set i (.sh (.lst ps)))
  |_=>.bad):=rfl
@[simp] theorem ZjC{x y:Int}:ļ (.int x) (.int y)=some (.sh (.int (x+y))):=rfl
@[simp] theorem ZjD{x y:Int}:ţ (.int x) (.int y)=some (.int (x-y)):=rfl
@[simp] theorem ZjE{x y:Int}:Į (.int x) (.int y)=if ŗ x y=true then some (.int (x*y)) else none:=rfl
@[simp] theorem ZjF{x y:Int}:aM (.int x) (.int y)=if eX x y=true then some (.int (x.fdiv y)) else none:=rfl
@[simp] theorem ZjG{x y:Int}:Ō (.int x) (.int y)=if Dm x y=true then some (.int (x.fmod y)) else none:=rfl
@[simp] theorem ZjH{x y:Int}:nM (.int x) (.int y)=if wB x y=true then some (.int (x ^ y.toNat)) else none:=rfl
@[simp] theorem ZjI{x y:Int}:wC (.int x) (.int y)=if nP x y=true then some (.int (x*2 ^ y.toNat)) else none:=rfl
@[simp] theorem ZjJ{x y:Int}:wF (.int x) (.int y)=if wD x y=true then some (.int (x / 2 ^ y.toNat)) else none:=rfl
@[simp] theorem ZjK{x:Int}:gq (.int x)=some (.int (-x)):=rfl
@[simp] theorem Zlk{x y:Int}:mq (.int x) (.int y)=some (.bl (decide (x<y))):=rfl
@[simp] theorem Zll{x y:Int}:mz (.int x) (.int y)=some (.bl (decide (x≤y))):=rfl
@[simp] theorem Zlm{x y:Int}:RX (.int x) (.int y)=some (.bl (decide (y<x))):=rfl
@[simp] theorem Zln{x y:Int}:HB (.int x) (.int y)=some (.bl (decide (y≤x))):=rfl
@[simp] theorem Zlo{x y:Int}:aA (.int x) (.int y)=some (.bl (decide (x=y))):=by
  have h:eqB (.int x) (.int y)=decide (x=y):=by rw[eqB.eq_def];rfl
  rw[←h];rfl
@[simp] theorem Zlp{x y:Int}:cj (.int x) (.int y)=some (.bl (!decide (x=y))):=by
  have h:eqB (.int x) (.int y)=decide (x=y):=by rw[eqB.eq_def];rfl
  rw[←h];rfl
@[simp] theorem Zlq{x y:Bool}:aA (.bl x) (.bl y)=some (.bl (x== y)):=rfl
@[simp] theorem Zlr{x y:Bool}:cj (.bl x) (.bl y)=some (.bl (!(x== y))):=rfl
@[simp] theorem Zls{p:PV}:pZ p .non=some (.bl (wG p)):=rfl
@[simp] theorem ZjL{p:PV}:RZ p .non=some (.bl (!wG p)):=rfl
@[simp] theorem Zlt{x:Int}:Ě (.lst ps) (.int x)=sZ ps x:=rfl
@[simp] theorem Zlu{x:Int}:Ě (.tup ps) (.int x)=sZ ps x:=rfl
@[simp] theorem ud:jt [.lst ps]=some (.int ps.length):=rfl
@[simp] theorem ZjM:jt [.tup ps]=some (.int ps.length):=rfl
@[simp] theorem Zlv{x:Int}:Sg [.int x]=some (.int (if x<0 then -x else x)):=rfl
@[simp] theorem Zlw{x y:Int}:qL [.int x,.int y]=some (.int (if y<x then y else x)):=rfl
@[simp] theorem Zlx{x y:Int}:Dq [.int x,.int y]=some (.int (if y>x then y else x)):=rfl
@[simp] theorem Zdz:dI [.lst ps]=some (.ow ps):=rfl
@[simp] theorem ZdA:dI [.tup ps]=some (.ow ps):=rfl
@[simp] theorem ZjN:nW [.lst ps]=some (.tup ps):=rfl
@[simp] theorem ZjO:nW [.tup ps]=some (.tup ps):=rfl
@[simp] theorem Zly{t:String}:HN [p,.ty t]=(qb p t).map .bl:=rfl
@[simp] theorem ZjP{x:Bool}:Yt (.bl x)=some x:=rfl
@[simp] theorem ZjQ{x:Int}:Yt (.int x)=some (x != 0):=rfl
@[simp] theorem ZjR:Yt (.lst ps)=some (!ps.isEmpty):=rfl
@[simp] theorem Ia(xs:List α)(n:Nat):sZ xs (n:Int)=xs[n]?:= by
  unfold sZ Ge
  rw[if_pos (by omega)]
  by_cases h:n<xs.length
  ·rw[if_pos (by omega)]
   simp
  ·rw[if_neg (by omega)]
   simp
   omega
@[simp] theorem ZjS(xs:List α)(n:Nat):sZ xs (no_index (OfNat.ofNat n):Int)=xs[(no_index (OfNat.ofNat n):Nat)]?:= Ia xs n
@[simp] theorem ZcH{x y:Int}:Dm x y=decide (y≠0):=rfl
end
theorem aV{x y:Int}(h1: -(2 ^ 64)<x)(h2:x<2 ^ 64):ŗ x y=true:=by unfold ŗ;rw[decide_eq_true (by omega:x.natAbs<18446744073709551616)];rfl
theorem mul_r{x y:Int}(h1: -(2 ^ 64)<y)(h2:y<2 ^ 64):ŗ x y=true:=by unfold ŗ;rw[decide_eq_true (by omega:y.natAbs<18446744073709551616)];simp
theorem ZdB{x y:Int}(h1:bits x≤1048576)(h2:bits y≤1048576):ŗ x y=true:=by unfold ŗ;simp[h1,h2]
theorem wJ{x y:Int}(h1:y≠0)(h2:bits y≤8000):eX x y=true:=by unfold eX;simp[h1,h2]
section
variable{g:Tg}{mb:M Fl}{mc mt:M Bool}{me:M PV}{items:List PV}{ρ:Ŏ}
theorem Ő{α:Type}(c f:α→PV)(I:Ŏ→Prop):∀(xs:List α) (ρ:Ŏ) (acc:List PV),I ρ→acc.length+xs.length≤16777216→
 (∀x∈xs,∀ρ,I ρ→∃ρ1 ρ2 ρ3,g (c x) ρ=some ρ1∧mt ρ1=.ok true ρ2∧me ρ2=.ok (f x) ρ3∧I ρ3)→ň g mt me (xs.map c) ρ acc=some (acc++xs.map f)
 | [],ρ,acc,_,_,_=>by simp[ň]
 |x::xs,ρ,acc,h,hz,hs=>by
  obtain⟨ρ1,ρ2,ρ3,h1,h2,h3,h4⟩:=hs x List.mem_cons_self ρ h
  rw[List.map_cons,ň,h1]
  dsimp only
  rw[h2]
  dsimp only
  rw[h3]
  dsimp only
  rw[if_pos (by simp at hz;omega),Ő c f I xs ρ3 (acc ++ [f x]) h4 (by simp at hz ⊢;omega) fun y hy=>hs y (List.mem_cons_of_mem _ hy)]
  simp
theorem Ag{β:Type}(st:β→Ŏ)(I:β→Prop)(μ:β→Nat)(hs:∀b,I b→mc (st b)=.ok false (st b)∨(mc (st b)=.ok true (st b)∧∃b',mb (st b)=.ok .nx (st b')∧I b'∧μ b' < μ b)){b:β}(h0:I b) :
 ∃b',Ÿ mc mb (st b)=.ok .nx (st b')∧I b'∧mc (st b')=.ok false (st b'):=by
 have go:∀n b,μ b≤n→I b→∃b',Ÿ mc mb (st b)=.ok .nx (st b')∧I b'∧mc (st b')=.ok false (st b'):=by
  intro n
  induction n with
  |zero=>
   intro b hn hi
   rcases hs b hi with e|⟨e,b',_,_,hl⟩
   ·exact⟨b,by rw[gk,e];rfl,hi,e⟩
   ·omega
  |succ n ih=>
   intro b hn hi
   rcases hs b hi with e|⟨e,b',e2,hi',hl⟩
   ·exact⟨b,by rw[gk,e];rfl,hi,e⟩
   ·obtain⟨b2,q1,q2⟩:=ih b' (by omega) hi'
    refine⟨b2,?_,q2⟩
    rw[gk,e]
    simp only[Res.aQ,if_true,e2]
    exact q1
 exact go (μ b) b (Nat.le_refl _) h0
end
end P
namespace P
open PySem PySem.Spec PyProof.Rows L2 M2 M3 M4
def nY(Q:String→Prop):List String→Prop
 | []=>True
 |c::cs=>Q c∧nY Q cs
theorem nY.get{Q:String→Prop}:∀{cs:List String} {C:String},nY Q cs→cs.contains C=true→Q C
 | [],_,_,h=>by simp at h
 |c::cs,C,⟨h1,h2⟩,h=>by
  by_cases e:C=c
  ·rw[e];exact h1
  ·refine h2.get ?_
   rw[List.contains_cons] at h
   have:(C== c)=false:=by simpa using e
   rw[this,Bool.false_or] at h
   exact h
section
variable{X:Cx}{cm:String→Addr}{K:KK}{E:L2.St→XK}{a b e o:Expr}{es:List Expr}{pos apos:Pos}{m ma mb:M PV}{f:Str}
theorem nZ{F:Hp}:∀{fs:List (Str×V)} {ps:List PV} {p:PV},Ĝ K F ps (fs.map (·.2))→((fs.map (·.1)).zip ps).lookup f=some p→∃v,fs.lookup f=some v∧Rep K F p v
 | [],ps,p,_,h=>by simp at h
 |(g,v)::fs,ps,p,r,h=>by
  have r':=r.pr
  rw[List.map_cons] at r'
  cases r' with
  |cons r1 t=>
   rename_i q qs
   rw[List.map_cons,List.zip_cons_cons,List.lookup_cons] at h
   rw[List.lookup_cons]
   cases hg:f== g with
   |true=>
    simp only[hg] at h
    cases h
    exact⟨v,rfl,r1⟩
   |false=>
    simp only[hg] at h
    exact nZ (Ĝ.of t) h
theorem rR.ins{c:Ctx}{F H:Hp}{σ:L2.St}{ρ:Ŏ}{C:String}{ns:List Str}{ps:List PV}{v:V}(s:Same F H)(h:rR K c σ ρ F H (.ins C ns ps) v):∃a dx fs,v=.ref a∧H a=some (.ins (K.cm C) dx fs)∧fs.map (·.1)=ns∧Ĝ K F ps (fs.map (·.2)):=by
 rcases h with h|h
 ·unfold Rep at h
  obtain⟨a,dx,fs,h1,h2,h3,h4⟩:=h
  exact⟨a,dx,fs,h1,s _ _ h2,h3,h4⟩
 ·exact h
def aD(cs:List String)(f:Str):PV→Option PV
 | .ins C ns ps=>if cs.contains C=true then(ns.zip ps).lookup f else none
 |_=>none
theorem aW(cs:List String)(hcs:nY (fun C=>Cls X.K (cm C)∧Ň X.K (cm C) f) cs)(he:PE X e (tR (kk X cm) E m))(hb:attributeBase e f X.env (eval e X.env)=eval e X.env:=by rfl):PE X (.Attribute e f pos) (tV (kk X cm) E (jh (aD cs f) m)):=
 PE.wk (Xy he hb) fun σ H Q ⟨c,F,ρ,rel,h⟩=>⟨c,F,ρ,rel,h.bind fun p ρ1 v F1 H1 Ę _ _ r1 h1=>by
   cases p with
   |ins C ns ps=>
    unfold aD at h1
    dsimp only at h1
    split at h1
    ·rename_i hc
     obtain⟨a,dx,fs,rfl,q2,q3,q4⟩:=r1.ins Ę.sub
     cases el:(ns.zip ps).lookup f with
     |none=>rw[el] at h1;exact h1.elim
     |some q=>
      rw[el] at h1
      subst q3
      obtain⟨v,e1,e2⟩:=nZ q4 el
      obtain⟨k1,k2⟩:=hcs.get hc
      exact⟨a,_,dx,fs,v,rfl,q2,k1,k2,e1,h1 v F1 H1 Ę (Same.refl _) (Same.refl _) e2⟩
    ·exact h1.elim
   |_=>exact h1.elim⟩
def Ib(X:Cx)(cm:String→Addr)(CX:pO)(k n:Nat)(m:Str)(C:String)(mf:MF):Prop:=Cls X.K (cm C)∧∃f fd ps,Meth X.K (cm C) m f∧į X.prog X.w X.K X.mg X.base CX k f fd ps (ŵ (kk X cm) n mf)∧Binds X.K fd ps []∧
 ∀{ps:List Slot},(∃r,mf ps=r∧∀z,r=z→z≠ .bad)→ps.length=n
def Ie(Q:String→MF→Prop):List (String×MF)→Prop
 | []=>True
 |(c,mf)::cs=>Q c mf∧Ie Q cs
theorem Ie.get{Q:String→MF→Prop}:∀{cs:List (String×MF)} {C:String} {mf:MF},Ie Q cs→cs.lookup C=some mf→Q C mf
 | [],_,_,_,h=>by simp at h
 |(c,g)::cs,C,mf,⟨h1,h2⟩,h=>by
  rw[List.lookup_cons] at h
  cases hc:C== c with
  |true=>
   rw[hc] at h
   cases h
   have:C=c:=by simpa using hc
   rw[this];exact h1
  |false=>
   rw[hc] at h
   exact h2.get h
def n_(m:Str)(pN:List (String×MF))(mo:M PV)(ms:M (List Slot)):M RV:=fun ρ=>(mo ρ).bind fun p ρ1=>match p with
 | .ins C ns ps=>match pN.lookup C with
   |some mf=>if ns.contains m=true then .bad else(ms ρ1).bind fun as ρ2=>match mf (.sh (.ins C ns ps)::as) with
    | .ret r=>.ok r ρ2
    | .exc x=>.exc x ρ2
    | .bad=>.bad
   |none=>.bad
 |_=>.bad
theorem jX{m:Str}:∀{fs:List (Str×V)},(fs.map (·.1)).contains m=false→fs.lookup m=none
 | [],_=>rfl
 |(g,v)::fs,h=>by
  rw[List.map_cons,List.contains_cons,Bool.or_eq_false_iff] at h
  rw[List.lookup_cons,h.1]
  exact jX h.2
variable{CX:pO}{k n:Nat}{Qx:Str}{pN:List (String×MF)}{ms:M (List Slot)}
theorem Ig{c:Ctx}{F H:Hp}{σ:L2.St}{ρ:Ŏ}{Q:VK}(rel:Rel (kk X cm) c F H σ ρ)(h:bB (kk X cm) E (rO (kk X cm)) c F H σ Q (n_ Qx pN m ms ρ))(YD:Ie (fun C mf=>Ib X cm CX k n Qx C mf) pN) :
 bB (kk X cm) E (rV (kk X cm)) c F H σ (fun x H1=>∃a C dx fs g fd ps mf,x=.ref a∧H1 a=some (.ins C dx fs)∧Cls X.K C∧Meth X.K C Qx g∧fs.lookup Qx=none∧į X.prog X.w X.K X.mg X.base CX k g fd ps (ŵ (kk X cm) n mf)∧Binds X.K fd ps []∧
  tA (kk X cm) E ms σ H1 fun vs H2=>ŵ (kk X cm) n mf (.ref a::vs) H2 Q (E σ)) (m ρ):=
 bB.bind h fun p ρ1 v F1 H1 Ę _ _ r1 h1=>by
  cases p with
  |ins C ns ps=>
   dsimp only at h1
   cases el:pN.lookup C with
   |none=>rw[el] at h1;exact h1.elim
   |some mf=>
    rw[el] at h1
    dsimp only at h1
    split at h1
    ·exact h1.elim
    ·rename_i hn
     obtain⟨k1,f,fd,qs,k2,k3,k4,k5⟩:=YD.get el
     have r1':Rep (kk X cm) F1 (.ins C ns ps) v:=r1
     have r2:=r1'
     unfold Rep at r2
     obtain⟨a,dx,fs,rfl,q2,q3,q4⟩:=r2
     refine⟨a,_,dx,fs,f,fd,qs,mf,rfl,Ę.sub _ _ q2,k1,k2,jX (by rw[q3];simpa using hn),k3,k4,c,F1,ρ1,Ę,bB.bind h1 fun as ρ2 vs F2 H2 ŉ sF sH r3 h3=>?_⟩
     exact wj (vs:=.ref a::vs) k5 ŉ (.cons (show cD _ _ _ (.sh _) _ from Rep.same sF _ _ r1') r3) h3
  |_=>exact h1.elim
theorem Ss{pl:Sem Bool}(YD:Ie (fun C mf=>Ib X cm CX k n Qx C mf) pN)(hr:bA k X.A)(hx:b_ CX X E)(he:PE X o (tV (kk X cm) E m))
 (ht:eval (.Call (.Attribute o Qx apos) [] [] pos) X.env=(do
   let ov ←eval o X.env
   standAt apos.atName
   let (f,first) ←holding [ov] (getMethod ov Qx pl)
   callWith pos f first (backTo pos (starEach [] X.env)) (backToKw pos (keywordEach [] X.env))):=by rfl) :
 PE X (.Call (.Attribute o Qx apos) [] [] pos) (tO (kk X cm) E (n_ Qx pN m Ď)):=by
 intro pins s σ H Q I ⟨c,F,ρ,rel,h⟩
 refine PySem.W.methodCall_KW (pl:=pl) (Ť (he pins s σ H _ I ⟨c,F,ρ,rel,Ig rel h YD⟩) fun u s1 ⟨x,H1,I1,rx,a,C,dx,fs,g,fd,ps,mf,ex,ea,cl,k2,l,k3,k4,q⟩=>?_) ht
 subst ex
 obtain rfl:u=Value.ref a:=rx
 refine zN I1 ea cl k2 l ?_
 obtain⟨c1,F1,ρ1,Ę,q⟩:=q
 exact PySem.W.callWith_K0 (first:=[.ref a]) I1.fK k2.kp (Dl (us:=[.ref a]) (vs:=[.ref a]) k3 hr k4 hx I1 (.cons rfl .nil) (q [] F1 H1 Ę (Same.refl _) (Same.refl _) .nil))
def putN(f:Str):List Str→List Str
 | []=>[f]
 |g::r=>if g=f then g::r else g::putN f r
def wK(f:Str)(p:PV):List Str→List PV→List PV
 | [],_=>[p]
 |g::r,q::qs=>if g=f then p::qs else q::wK f p r qs
 |_::_,[]=>[]
theorem uf{F:Hp}{p:PV}{y:V}(ry:Rep K F p y):∀{fs:List (Str×V)} {ps:List PV},Ĝ K F ps (fs.map (·.2))→(aO f y fs).map (·.1)=putN f (fs.map (·.1))∧Ĝ K F (wK f p (fs.map (·.1)) ps) ((aO f y fs).map (·.2))
 | [],ps,r=>⟨rfl,Ĝ.cons ry Ĝ.nil⟩
 |(g,v)::fs,ps,r=>by
  have r':=r.pr
  rw[List.map_cons] at r'
  cases r' with
  |cons r1 t=>
   rename_i q qs
   unfold aO
   rw[List.map_cons]
   unfold putN wK
   by_cases hg:g=f
   ·rw[if_pos hg,if_pos hg,if_pos hg]
    exact⟨rfl,Ĝ.cons ry (Ĝ.of t)⟩
   ·rw[if_neg hg,if_neg hg,if_neg hg]
    obtain⟨h1,h2⟩:=uf ry (Ĝ.of t)
    exact⟨by rw[List.map_cons,h1],Ĝ.cons r1 h2⟩
def iH(i:Nat)(cs:List String)(f:Str)(mv:M PV):M Fl:=fun ρ=>(mv ρ).bind fun p ρ1=>match ρ1[i]? with
 |some (.rc C ns ps)=>if cs.contains C=true∧ns.length<1000 then .ok .nx (ρ1.set i (.rc C (putN f ns) (wK f p ns ps))) else .bad
 |_=>.bad
theorem aX{i:Nat}{x:Str}{px pos':Pos}(cs:List String)(hcs:nY (fun C=>Cls X.K (cm C)∧Ň X.K (cm C) f) cs)(ho:PE X (.Name x px) (sY i))(he:PE X e (tV (kk X cm) E m))(hs:swapsWith e (some (.Attribute (.Name x px) f pos')) pos.line X.env=pure false:=by rfl) :
 PS X (.Assign [.Attribute (.Name x px) f pos'] e pos) (tS (kk X cm) E (iH i cs f m)):=PS.wk (Xz ho he hs) fun D σ H ⟨c,F,ρ,rel,h⟩=>⟨c,F,ρ,rel,ť.bind h fun p ρ1 y F1 H1 Ę s1 ry h1=>by
 cases e1:ρ1[i]? with
 |none=>rw[e1] at h1;exact h1.elim
 |some sl=>
  rw[e1] at h1
  cases sl with
  |rc C ns ps=>
   dsimp only at h1
   split at h1
   ·rename_i hc
    obtain⟨a,dx,fs,q1,q2,q3,q4,q5,q6,q7⟩:=Ę.slot i _ e1
    subst q5
    obtain⟨k1,k2⟩:=hcs.get hc.1
    refine⟨.ref a,at_of q1,a,_,dx,fs,rfl,q2,k1,k2,by simpa using hc.2,?_⟩
    obtain⟨z1,z2⟩:=uf (f:=f) (p:=p) ry q6
    exact h1 σ F1 _ (Ę.write ⟨_,_,e1,at_of q1,rfl⟩ (at_of q1) ⟨a,dx,_,rfl,ī,q3,q4,z1,z2,q7⟩ fun _ z=>(V.ref.inj z).symm) (Same.refl _)
   ·exact h1.elim
  |_=>exact h1.elim⟩
inductive IR where
 |ok (ns:List Str) (ps:List PV)|exc (x:PX)|bad
abbrev MI:=List Slot→IR
def IR.of:Res Fl→IR
 | .ok .nx (.rc _ ns ps::_)=>.ok ns ps
 | .exc x _=>.exc x
 |_=>.bad
def cO(n k:Nat)(C:String)(mb:M Fl):MI:=fun as=>if as.length+1=n then IR.of (mb (.rc C [] []::startP (k-1) as)) else .bad
structure GrB(a:Addr)(F H F' H':Hp):Prop where
 h:∀b u,b≠a→H b=some u→H' b=some u
 f:Same F F'
 sub:Same F' H'
 out:∀b,b≠a→H b≠none→F b=none→F' b=none
def Zlz(K:KK)(E:XK)(F H:Hp)(Q:VK)(a dx:Addr)(C:String):IR→Prop
 | .ok ns ps=>∀F' H' fs,GrB a F H F' H'→H' a=some (.ins (K.cm C) dx fs)→F' a=none→fs.map (·.1)=ns→Ĝ K F' ps (fs.map (·.2))→Q .non H'
 | .exc x=>∀C' d F' H',GrB a F H F' H'→Ry K F' x C' d→E C' d H'
 | .bad=>False
def Qy(K:KK)(n:Nat)(C:String)(mi:MI):Sp:=fun vs H Q E=>∃F a dx vs' as,vs=.ref a::vs'∧as.length+1=n∧H a=some (.ins (K.cm C) dx [])∧F a=none∧Same F H∧Paired (cD K F H) as vs'∧Zlz K E F H Q a dx C (mi as)
def Sv(a dx:Addr)(C:String)(F H:Hp):Ctx:=⟨fun b=>if b=a then none else H b,F,fun b=>if b=a then none else(ctx0 F H).L b,fun a' dx' C'=>a'=a∧dx'=dx∧C'=C⟩
theorem Rel.gri{σ:L2.St}{ρ:Ŏ}{a dx:Addr}{C:String}{F H F' H':Hp}(r:Rel K (Sv a dx C F H) F' H' σ ρ):GrB a F H F' H':=
 ⟨fun b u hb e=>r.base b u (by show(if b=a then none else H b)=_;rw[if_neg hb];exact e),r.f0,r.sub,fun b hb h1 h2=>r.cX b (by show(if b=a then none else H b)≠none;rw[if_neg hb];exact h1) h2⟩
theorem Rel.YF{F H:Hp}{N:List Str}{as:List Slot}{vs:List V}{a dx:Addr}{C:String}(s:Same F H)(ha:H a=some (.ins (K.cm C) dx []))(hF:F a=none)(h:Paired (cD K F H) as vs) :
 Rel K (Sv a dx C F H) F H (L2.start N (.ref a::vs)) (.rc C [] []::startP (N.length-1) as):=by
 have r0:=Rel.start (N:=N) (K:=K) s (as:=.sh (.int 0)::as) (vs:=.int 0::vs) (.cons (Rep.int (K:=K) (F:=F) (i:=0)) h)
 have est:L2.start N (.ref a::vs)=some (.ref a)::(L2.start N (.int 0::vs)).tail:=by unfold L2.start;simp
 have ZlA:(L2.start N (V.int 0::vs)).tail.length=(startP (N.length-1) as).length:=by
  unfold L2.start startP
  simp[Paired.length h]
  omega
 have tl:∀i:Nat,(L2.start N (.int 0::vs)).tail[i]?=(L2.start N (.int 0::vs))[i+1]?:= fun i=>by simp
 have sp:∀i:Nat,(startP (N.length-1) as)[i]?=(startP N.length (.sh (.int 0)::as))[i+1]?:= fun i=>by
  unfold startP
  simp only[List.cons_append,List.getElem?_cons_succ,List.length_cons]
  rw[show N.length-1-as.length=N.length-(as.length+1) by omega]
 have Dv:∀(i:Nat) (s':Slot),(startP (N.length-1) as)[i]?=some s'→s'.own=false:=fun i s' e=>by
  unfold startP at e
  by_cases hi:i<as.length
  ·rw[List.getElem?_append_left hi] at e
   obtain⟨v,_,h3⟩:=cC h e
   exact(cD.slot h3).2
  ·rw[List.getElem?_append_right (by omega),List.getElem?_replicate] at e
   split at e
   ·cases e;rfl
   ·cases e
 rw[est]
 refine⟨s,fun b u e=>?_,Same.refl _,fun _ _ z=>z,fun b u e=>?_,fun b e=>?_,?_,fun i s' e=>?_,fun i j b h1 h2=>?_⟩
 ·have e':(if b=a then none else H b)=some u:=e
  split at e'
  ·cases e'
  ·exact e'
 ·have e':(if b=a then none else(ctx0 F H).L b)=some u:=e
  split at e'
  ·cases e'
  ·exact fX e'
 ·show(if b=a then none else(ctx0 F H).L b)=none
  have e':(if b=a then none else H b)=none:=e
  split
  ·rfl
  ·rename_i hb
   rw[if_neg hb] at e'
   exact r0.lb b e'
 ·simp[ZlA]
 ·cases i with
  |zero=>
   cases e
   exact⟨a,dx,[],rfl,ha,hF,by show(if a=a then none else H a)=none;rw[if_pos rfl],rfl,Ĝ.nil,rfl,rfl,rfl⟩
  |succ i=>
   have e':(startP (N.length-1) as)[i]?=some s':=by simpa using e
   have q:=r0.slot (i+1) s' (by rw[←sp];exact e')
   rw[←tl] at q
   show aP K (Sv a dx C F H) F H (((some (V.ref a)::(L2.start N (.int 0::vs)).tail)[i+1]?).getD none) s'
   rw[List.getElem?_cons_succ]
   cases s' with
   |no=>trivial
   |sh p=>exact q
   |bw ps=>
    obtain⟨b,ws,q1,q2,q3⟩:=q
    refine⟨b,ws,q1,?_,q3⟩
    show(if b=a then none else(ctx0 F H).L b)=_
    rw[if_neg (fun z=>by
     have:=(fX q2).1
     rw[z,ha] at this
     cases this)]
    exact q2
   |ow ps=>have:=Dv i _ e';cases this
   |rc C ns ps=>have:=Dv i _ e';cases this
   |ot ps qs=>have:=Dv i _ e';cases this
 ·have at0:∀{i},ř F (some (.ref a)::(L2.start N (.int 0::vs)).tail) (Slot.rc C [] []::startP (N.length-1) as) i b→i=0:=fun{i} ⟨s',y,q1,_,q2⟩=>by
   have q2:=i_ q2
   cases i with
   |zero=>rfl
   |succ i=>
    have:=Dv i s' (by simpa using q1)
    rw[this] at q2
    cases q2
  rw[at0 h1,at0 h2]
end
section
variable{P:Program}{w:World}{K:PySem.W.Frag}{cm:String→Addr}{mg:Str→Option Value}{base:Heap}{CX:pO}
theorem fnI{x qual:Str}{st:Stmt}{f:Addr}{fd:FuncData}{N ps:List Str}{k n j:Nat}{C:String}{mb:M Fl}{mi:MI}(F:Ŵ K x qual st f fd)(S:Ĕ N ps (ĉ st))(hn:ps.length=n)(hj:N.length=j)(hf:mi=cO n j C mb)
 (hbody:∀(cdv:Value) (A:Around) (outer:List Env) (s:Shared) (H:Hp) (E:XK),bA k (A.deeper (envOfC qual (ĉ st) s.heap.objs.size f cdv))→
   jj (bR CX P w K mg base N qual (ĉ st) f cdv A outer s H E) (bI st) (tS ⟨K,cm⟩ (fun _=>E) mb)):į P w K mg base CX (k+1) f fd ps (Qy ⟨K,cm⟩ n C mi):=by
 subst hn hj hf
 obtain⟨oc,od,kV,doc,pm,an,cdv,ct,osl,rfl,lk,hcd⟩:=F.ex
 refine Gz lk hcd S (fun vs H Q E ⟨F,a,dx,vs',as,h1,h2,_,_,_,h3,_⟩=>by rw[h1,List.length_cons,←Paired.length h3];exact h2) fun A outer s H vs Q E hr hsp=>?_
 obtain⟨F,a,dx,vs',as,rfl,h2,h3,h4,h5,h6,h7⟩:=hsp
 refine⟨_,hbody cdv A outer s H E hr,Sv a dx C F H,F,_,Rel.YF h5 h3 h4 h6,?_⟩
 unfold cO at h7
 rw[if_pos h2] at h7
 cases e:mb (.rc C [] []::startP (N.length-1) as) with
 |bad=>rw[e] at h7;exact h7
 |exc x ρ'=>rw[e] at h7;exact fun σ' C' d F' H' rel s1 q=>h7 C' d F' H' rel.gri q
 |ok fl ρ'=>
  rw[e] at h7
  cases fl with
  |nx=>
   cases ρ' with
   |nil=>exact h7.elim
   |cons sl ρ'=>
    cases sl with
    |rc C' ns qs=>
     intro σ' F' H' rel s1
     obtain⟨b,dy,fs,q1,q2,q3,q4,q5,q6,rfl,rfl,rfl⟩:=rel.slot 0 _ rfl
     exact h7 F' H' fs rel.gri q2 q3 q5 q6
    |_=>exact h7.elim
  |bk=>exact h7.elim
  |ct=>exact h7.elim
  |rt r=>exact h7.elim
end
def bU(C:String)(mi:MI)(ms:M (List Slot)):M PV:=fun ρ=>(ms ρ).bind fun as ρ1=>match mi as with
 | .ok ns ps=>.ok (.ins C ns ps) ρ1
 | .exc x=>.exc x ρ1
 | .bad=>.bad
section
variable{X:Cx}{cm:String→Addr}{E:L2.St→XK}{e:Expr}{es:List Expr}{pos p:Pos}{CX:pO}{k n:Nat}{f:Addr}{fd:FuncData}{ps:List Str}{C:String}{mi:MI}{ms:M (List Slot)}{x:Str}
theorem Ih{c:Ctx}{F1 H1:Hp}{σ:L2.St}{ρ1:Ŏ}{Q:VK}{as:List Slot}{vs:List V}(hlen:(∃r,mi as=r∧∀z,r=z→z≠ .bad)→as.length+1=n)(Ę:Rel (kk X cm) c F1 H1 σ ρ1)(r1:Paired (cD (kk X cm) F1 H1) as vs)
 (h:bB (kk X cm) E (rV (kk X cm)) c F1 H1 σ Q (match mi as with| .ok ns ps=>.ok (.ins C ns ps) ρ1| .exc x=>.exc x ρ1| .bad=>.bad)) :
 ∀x dx,H1 x=none→H1 dx=none→dx≠x→Qy (kk X cm) n C mi (.ref x::vs) (upd (upd H1 dx (.own x)) x (.ins (cm C) dx [])) (fun v H2=>v=.non∧Q (.ref x) H2) (E σ):=by
 intro x dx hx hdx hne
 have up:∀b u,H1 b=some u→upd (upd H1 dx (.own x)) x (.ins (cm C) dx []) b=some u:=fun b u e=>by
  rw[ğ (Ļ e hx),ğ (Ļ e hdx)];exact e
 have Sw:∀{F' H':Hp},GrB x F1 (upd (upd H1 dx (.own x)) x (.ins (cm C) dx [])) F' H'→Gr F1 H1 F' H':=fun{F' H'} g=>
  ⟨fun b u e=>g.h b u (Ļ e hx) (up b u e),g.f,g.sub,fun b hb hf=>by
    obtain⟨u,hu⟩:∃u,H1 b=some u:=by
     cases q:H1 b with
     |none=>exact absurd q hb
     |some u=>exact⟨u,rfl⟩
    exact g.out b (Ļ hu hx) (by rw[up b u hu];intro z;cases z) hf⟩
 refine⟨F1,x,dx,vs,as,rfl,?_,ī,Ę.sub.free hx,fun b u e=>up b u (Ę.sub b u e),?_,?_⟩
 ·refine hlen ⟨_,rfl,fun z hz hb=>?_⟩
  rw[hz,hb] at h
  exact h
 ·refine Paired.mono (fun s v hs=>?_) r1
  cases s with
  |sh p=>exact hs
  |bw qs=>
   obtain⟨b,ws,q1,q2,q3,q4⟩:=hs
   exact⟨b,ws,q1,up b _ q2,q3,q4⟩
  |_=>exact hs.elim
 ·cases em:mi as with
  |bad=>rw[em] at h;exact h
  |exc y=>rw[em] at h;exact fun C' d F' H' g rx=>h C' d F' H' (Ę.call (Sw g)) g.f rx
  |ok ns qs=>
   rw[em] at h
   intro F' H' fs g hx' hF' hn hr
   have r2:=Ę.call (Sw g)
   have r3:=r2.freeze hx' (Ę.base.free hx) hF' (Ę.tQ (Sw g).f (Ę.fresh hx))
   refine⟨rfl,h _ _ H' r3 (g.f.trans (Same.upd hF')) (Sw g).h ?_⟩
   show Rep _ _ _ _
   unfold Rep
   exact⟨x,dx,fs,rfl,ī,hn,Ĝ.same (Same.upd hF') qs _ hr⟩
theorem EY{pins:List (Addr×Obj)}{σ:L2.St}{H:Hp}{s:Shared}{Q:VK}{us:List Value}{vs:List V}{sp:Sp}{C:Addr}(M:Mk X.K C f)(F:į X.prog X.w X.K X.mg X.base CX k f fd ps sp)(hr:bA (k+1) X.A)(hb:Binds X.K fd ps [])
 (hx:b_ CX X E)(I:Inv X pins σ H s)(r:Vals vs us)
 (h:∀x dx,H x=none→H dx=none→dx≠x→sp (.ref x::vs) (upd (upd H dx (.own x)) x (.ins C dx [])) (fun v H2=>v=.non∧Q (.ref x) H2) (E σ)) :
 wpAny (model X.prog X.w) X.A (call (.ref C) us) (EP X pins σ Q) X.xe s:=by
 have hq:=h (s.heap.objs.size+1) s.heap.objs.size (I.hok.fresh (Nat.le_succ _)) (I.hok.fresh (Nat.le_refl _)) (Nat.ne_of_lt (Nat.lt_succ_self _))
 have I2:=Inv.made (C:=C) I
 have r2:Vals (V.ref (s.heap.objs.size+1)::vs) (Value.ref (s.heap.objs.size+1)::us):=.cons rfl r
 have hl:(Value.ref (s.heap.objs.size+1)::us ++ []).length=ps.length:=by
  have e:=r2.length
  rw[F.len _ _ _ _ hq] at e
  rw[List.append_nil]
  exact e.symm
 have hbd:=hb {s with heap:=(s.heap.push PySem.W.emptyDict).push (PySem.W.instObj C s.heap.objs.size)} (Value.ref (s.heap.objs.size+1)::us) I2.fK hl
 rw[List.append_nil] at hbd
 refine wpAny_call (Gy (f:=f) I.fK M.makes M.init (beq_iff_eq.mp M.fn) (codeAny_mono (F.run _ X.stack _ _ ⟨Value.ref (s.heap.objs.size+1)::us,[]⟩ _ _ _ (E σ) (hr.make C us []) (I2.env0.make C us []) hbd r2 hq) fun r s' hq'=>?_))
 cases r with
 |error e=>exact hx pins σ _ _ e s' I2 hq'
 |ok fl=>
  cases fl with
  |ret u=>
   obtain⟨v,H',I3,rv,ev,q3⟩:=I2.after hq'
   subst ev
   exact⟨rv,⟨V.ref (s.heap.objs.size+1),H',I3,rfl,q3⟩⟩
  |next=>exact False.elim hq'
  |brk=>exact False.elim hq'
  |cont=>exact False.elim hq'
theorem cA{n k:Nat}{C:String}{mb:M Fl}{as:List Slot}(h:∃r,cO n k C mb as=r∧∀z,r=z→z≠ .bad):as.length+1=n:=by
 obtain⟨r,h1,h2⟩:=h
 unfold cO at h1
 by_cases hl:as.length+1=n
 ·exact hl
 ·rw[if_neg hl] at h1
  exact absurd h1.symm (fun z=>h2 .bad (by rw[←h1]) rfl)
theorem jY(M:Mk X.K (cm C) f)(F:į X.prog X.w X.K X.mg X.base CX k f fd ps (Qy (kk X cm) n C mi))(hlen:∀{as:List Slot},(∃r,mi as=r∧∀z,r=z→z≠ .bad)→as.length+1=n)(hr:bA (k+1) X.A)(hg:Gl X x)(hm:X.mg x=some (.ref (cm C)))(hb:Binds X.K fd ps [])(hx:b_ CX X E)
 (ha:PA X (e::es) (tA (kk X cm) E ms))(hdb:(x== ("__debug__" :Str))=false:=by decide)(he:starEach (e::es) X.env=(false,eval e X.env)::starEach es X.env:=by exact İ rfl)(hpl:(backTo pos (starEach es X.env)).any (·.1)=false:=by rfl) :
 PE X (.Call (.Name x p) (e::es) [] pos) (tV (kk X cm) E (bU C mi ms)):=by
 intro pins s σ H Q I ⟨c,F',ρ,rel,h⟩
 refine wpAny_Call_Name_kw (jk I hg hm ?_ hdb)
 refine PySem.W.callWith_K (h₀:= X.base) I.ok.mod.kin M.kp (Ť (ha pos pins s σ H (fun vs H1=>∀x dx,H1 x=none→H1 dx=none→dx≠x→Qy (kk X cm) n C mi (.ref x::vs) (upd (upd H1 dx (.own x)) x (.ins (cm C) dx [])) (fun v H2=>v=.non∧Q (.ref x) H2) (E σ)) I
  ⟨c,F',ρ,rel,bB.bind h fun as ρ1 vs F1 H1 Ę _ _ r1 h1=>Ih hlen Ę r1 h1⟩) fun us s1 ⟨vs,H1,I1,r,q⟩=>⟨I1.fK,?_⟩) he hpl
 exact EY M F hr hb hx I1 r q
end
end P
namespace P
open PySem PySem.Spec PyProof.Rows L2 M2 M3 M4
def YG(B:Heap)(e:Addr)(C:Value)(d:Option Addr)(fl:Value)(h:Heap):Prop:=
 ∃oe vs T oT ts,h.get? e=some oe∧(oe.cls=C∧oe.dict=d)∧oe.data=.fields vs∧vs[1]?=some (.ref T)∧B.get? T=none∧T≠e∧h.get? T=some oT∧oT.data=.fields ts∧ts[3]?=some fl
structure Moved(h h':Heap):Prop where
 up:h.UpToSlots h'
 there:∀b o,h.get? b=some o→∃o',h'.get? b=some o'
theorem Moved.trans{h h1 h2:Heap}(a:Moved h h1)(b:Moved h1 h2):Moved h h2:=⟨a.up.trans b.up,fun c o e=>let ⟨o1,e1⟩:=a.there c o e;b.there c o1 e1⟩
theorem E_(o:Obj)(f:Array Value→Array Value):(o.mapFields f).dict=o.dict:=by
 obtain⟨c,d,dt,sl⟩:=o
 cases dt<;>rfl
section
variable{M:Model}{A:Around}{E:Value→Shared→Prop}{s:Shared}{B:Heap}{env:Env}{outer:List Env}{L e:Addr}{Q:Unit→Shared→Prop}
theorem ZdC{oe:Obj}{vs:Array Value}{head:Value}{nxt:Bool}(hfr:A.frames=some (env::outer))(hl:s.heap.FunFrames B (env::outer))(hf:env.frame=some L)
 (he:s.heap.get? e=some oe)(hkb:B.StaysIn s.heap)(hen:B.get? e=none)(hd:oe.data=.fields vs)(hsz:1<vs.size)
 (k:∀h',B.StaysIn h'→h'.FunFrames B (env::outer)→YG B e oe.cls oe.dict (rawInt L) h'→Moved s.heap h'→Q () {s with heap:=h'}) :
 wpAny M A (do
  let a ←frameOf env
  let pl ←entryPlaceOf L nxt
  let b ←EntryCells.newEntry head a .none (rawInt L) .none pl
  setField (.ref e) 1 b) Q E s:=by
 have out:e∉(env::outer).filterMap (·.frame):=fun z=>by
  obtain⟨_,o,ho,hn⟩:=hl.mem z
  rw[he] at ho
  cases ho
  exact hn vs hd
 refine wpAny_bind (wpAny_frameOf_fun hfr hl hf fun g1 so=>?_)
 refine wpAny_bind (wpAny_entryPlaceOf fun pl hpl=>?_)
 unfold EntryCells.newEntry newFields
 refine wpAny_bind (wpAny_newObj_type ?_ (hpl.sizeOk5 _ _ _ _ _))
 have e1:g1.get? e=some oe:=(so.2.1 e out).trans he
 have b1:B.StaysIn g1:=fun b o q=>(so.2.1 b fun z=>by
  rw[(hl.mem z).1] at q
  cases q).trans (hkb b o q)
 generalize hnw:([head,Value.ref L,.none,rawInt L,.none]++(if pl.isEmpty then List.replicate 6 Value.none else pl))=nw
 have n3:nw.toArray[3]?=some (rawInt L):=by rw[←hnw];simp
 dsimp only
 have e2:=Heap.get?_push_of_some (h:=g1) {cls:=.type "traceback",dict:=none,data:=.fields nw.toArray} e1
 refine wpAny_setField e2 hd hsz ?_
 have ne:g1.objs.size≠e:=Nat.ne_of_gt (Heap.lt_size e1)
 have d3:=Obj.data_mapFields hd (·.setIfInBounds 1 (Value.ref g1.objs.size))
 have e3:=Heap.get?_update_self (Obj.mapFields (·.setIfInBounds 1 (Value.ref g1.objs.size))) e2 (Obj.isFreed_of_fields d3)
 have kp:∀b o,b≠e→g1.get? b=some o→((g1.push {cls:=.type "traceback",dict:=none,data:=.fields nw.toArray}).update e (Obj.mapFields (·.setIfInBounds 1 (Value.ref g1.objs.size)))).get? b=some o:=fun b o hb q=>by
  rw[Heap.get?_update_other _ _ (Ne.symm hb)]
  exact Heap.get?_push_of_some _ q
 have t3:((g1.push {cls:=.type "traceback",dict:=none,data:=.fields nw.toArray}).update e (Obj.mapFields (·.setIfInBounds 1 (Value.ref g1.objs.size)))).get? g1.objs.size=some {cls:=.type "traceback",dict:=none,data:=.fields nw.toArray}:=by
  rw[Heap.get?_update_other _ _ (Ne.symm ne)]
  exact Heap.get?_push_size g1 rfl
 have nr:∀b o,s.heap.get? b=some o→(∀ws,o.data≠ .fields ws)→b≠e:=fun b o q hn z=>by
  rw[z,he] at q
  cases q
  exact hn vs hd
 refine k _ (fun b o q=>kp b o (fun z=>by rw[z,hen] at q;cases q) (b1 b o q)) (hl.of_keeps fun b o q hn=>?_) ?_ ⟨fun b o q hn=>?_,fun b o q=>?_⟩
 ·obtain⟨sl,z⟩:=so.2.2 b o q
  exact⟨_,kp b _ (nr b o q hn) z,rfl⟩
 ·exact⟨_,_,g1.objs.size,_,_,e3,⟨Obj.cls_mapFields _ _,E_ _ _⟩,d3,by simp[hsz],b1.fresh,ne,t3,rfl,n3⟩
 ·obtain⟨sl,z⟩:=so.2.2 b o q
  exact⟨sl,kp b _ (nr b o q hn) z⟩
 ·obtain⟨sl,z⟩:=so.2.2 b o q
  by_cases hb:b=e
  ·rw[hb];exact⟨_,e3⟩
  ·exact⟨_,kp b _ hb z⟩
theorem Sx{oe:Obj}{vs:Array Value}(hfr:A.frames=some (env::outer))(hl:s.heap.FunFrames B (env::outer))(hf:env.frame=some L)(he:s.heap.get? e=some oe)(hkb:B.StaysIn s.heap)(hen:B.get? e=none)
 (hd:oe.data=.fields vs)(h1:vs[1]?=some .none)(k:∀h',B.StaysIn h'→h'.FunFrames B (env::outer)→YG B e oe.cls oe.dict (rawInt L) h'→Moved s.heap h'→Q () {s with heap:=h'}) :
 wpAny M A (noteFrame (.ref e) env) Q E s:=by
 unfold noteFrame
 simp only[hf]
 refine wpAny_bind (wpAny_field he hd h1 ?_)
 rw[if_neg (by decide)]
 exact ZdC hfr hl hf he hkb hen hd (Array.getElem?_eq_some_iff.mp h1).1 k
theorem YH{C:Value}{d:Option Addr}(hfr:A.frames=some (env::outer))(hl:s.heap.FunFrames B (env::outer))(hf:env.frame=some L)(ht:YG B e C d .none s.heap)(hkb:B.StaysIn s.heap)(hen:B.get? e=none)
 (k:∀h',B.StaysIn h'→h'.FunFrames B (env::outer)→YG B e C d (rawInt L) h'→Moved s.heap h'→Q () {s with heap:=h'}):wpAny M A (noteFrame (.ref e) env) Q E s:=by
 obtain⟨oe,vs,T,oT,ts,he,⟨rfl,rfl⟩,hd,h1,hT,hTe,hT2,hdT,h3⟩:=ht
 unfold noteFrame
 simp only[hf]
 refine wpAny_bind (wpAny_field he hd h1 ?_)
 rw[if_pos (show(Value.ref T != Value.none)=true by simp)]
 refine wpAny_bind (wpAny_field hT2 hdT h3 ?_)
 rw[if_neg (show ¬((Value.none== rawInt L)=true) by simp[rawInt])]
 refine wpAny_bind (wpAny_setField hT2 hdT (Array.getElem?_eq_some_iff.mp h3).1 ?_)
 have oth:∀b,b≠T→(s.heap.update T (Obj.mapFields (·.setIfInBounds 3 Value.none))).get? b=s.heap.get? b:=fun b hb=>Heap.get?_update_other _ _ (Ne.symm hb)
 have nr:∀b o,s.heap.get? b=some o→(∀ws,o.data≠ .fields ws)→b≠T:=fun b o q hn z=>by
  rw[z,hT2] at q
  cases q
  exact hn ts hdT
 refine ZdC hfr (hl.of_keeps fun b o q hn=>⟨o,(oth b (nr b o q hn)).trans q,rfl⟩) hf ((oth e (Ne.symm hTe)).trans he) (fun b o q=>(oth b fun z=>by rw[z,hT] at q;cases q).trans (hkb b o q)) hen hd (Array.getElem?_eq_some_iff.mp h1).1
  fun h' x1 x2 x3 x4=>k h' x1 x2 x3 (Moved.trans ⟨fun b o q hn=>⟨o.slots,(oth b (nr b o q hn)).trans q⟩,fun b o q=>?_⟩ x4)
 by_cases hb:b=T
 ·rw[hb];exact⟨_,Heap.get?_update_self _ hT2 (Obj.isFreed_of_fields (Obj.data_mapFields hdT _))⟩
 ·exact⟨o,(oth b hb).trans q⟩
theorem Dw{C fl:Value}{d:Option Addr}{l:List Env}(hkb:B.StaysIn s.heap)(hl:s.heap.FunFrames B l)(ht:YG B e C d fl s.heap)
 (k:∀h',B.StaysIn h'→h'.FunFrames B l→YG B e C d .none h'→Moved s.heap h'→Q () {s with heap:=h'}):wpAny M A (setFlight (.ref e) none) Q E s:=by
 obtain⟨oe,vs,T,oT,ts,he,hc,hd,h1,hT,hTe,hT2,hdT,h3⟩:=ht
 have z3:3<ts.size:=(Array.getElem?_eq_some_iff.mp h3).1
 have oth:∀b,b≠T→(s.heap.update T (Obj.mapFields (·.setIfInBounds 3 ((none:Option Addr).elim Value.none fun f=>rawInt f)))).get? b=s.heap.get? b:=fun b hb=>Heap.get?_update_other _ _ (Ne.symm hb)
 have nr:∀b o,s.heap.get? b=some o→(∀ws,o.data≠ .fields ws)→b≠T:=fun b o q hn z=>by
  rw[z,hT2] at q
  cases q
  exact hn ts hdT
 unfold setFlight
 refine wpAny_bind (wpAny_field he hd h1 ?_)
 rw[if_pos (show(Value.ref T != Value.none)=true by simp)]
 refine wpAny_setField hT2 hdT z3 (k _ (fun b o q=>(oth b fun z=>by rw[z,hT] at q;cases q).trans (hkb b o q)) (hl.of_keeps fun b o q hn=>⟨o,(oth b (nr b o q hn)).trans q,rfl⟩) ?_ ⟨fun b o q hn=>⟨o.slots,(oth b (nr b o q hn)).trans q⟩,fun b o q=>?_⟩)
 rotate_left
 ·by_cases hb:b=T
  ·rw[hb];exact⟨_,Heap.get?_update_self _ hT2 (Obj.isFreed_of_fields (Obj.data_mapFields hdT _))⟩
  ·exact⟨o,(oth b hb).trans q⟩
 exact⟨oe,vs,T,_,_,(oth e (Ne.symm hTe)).trans he,hc,hd,h1,hT,hTe,Heap.get?_update_self _ hT2 (Obj.isFreed_of_fields (Obj.data_mapFields hdT _)),Obj.data_mapFields hdT _,by simp[z3]⟩
end
theorem wL{P:Program}{w:World}{H:Hp}{h:Heap}{a:Addr}{o:HO}(x:ū P w H h a o):∃ob,h.get? a=some ob:=by
 cases o with
 |lst xs=>obtain⟨_,_,_,_,e⟩:=x;exact⟨_,e⟩
 |tup xs=>obtain⟨_,_,_,ob,e,_⟩:=x;exact⟨_,e⟩
 |dK kvs=>obtain⟨_,_,_,_,ob,_,_,e,_⟩:=x;exact⟨_,e⟩
 |dT kvs=>obtain⟨_,_,_,_,ob,_,_,e,_⟩:=x;exact⟨_,e⟩
 |set S n=>obtain⟨ob,_,_,_,e,_⟩:=x;exact⟨_,e⟩
 |ins C dx fs=>obtain⟨_,_,_,e,_⟩:=x;exact⟨_,e⟩
 |own y=>exact x
 |xd fs=>obtain⟨_,⟨ob,_,_,e,_⟩,_⟩:=x;exact⟨_,e⟩
 |rng lo hi=>obtain⟨_,_,_,e⟩:=x;exact⟨_,e⟩
 |cX ob u=>obtain⟨e,_⟩:=x;exact⟨_,e⟩
 |pN ps=>exact⟨_,(show h.get? a=some _ from x)⟩
 |met f y=>exact⟨_,(show h.get? a=some _ from x)⟩
 |ext φ=>obtain⟨_,e,_⟩:=x;exact e
theorem fG.sub{P:Program}{w:World}{H:Hp}{h B:Heap}(x:fG P w H h)(k:∀b o u,H b=some u→h.get? b=some o→B.get? b=some o):fG P w H B:=fun a o e=>
 (x a o e).stay (fun b u hb q=>by
   rcases hb with rfl|hb
   ·exact k _ _ _ e q
   ·exact k _ _ _ hb q) (fun _ q=>q) fun _ _ q=>q
structure UnX(fs:List Addr)(H H':Hp)(h B h':Heap):Prop where
 keep:∀b o,h.get? b=some o→H b=none→b∉fs→B.get? b=some o
 slot:∀b o,h.get? b=some o→H b=none→b∈fs→∃sl,h'.get? b=some {o with slots:=sl}
 free:∀b o,h.get? b=some o→H b=none→H' b=none
 there:∀b o,h.get? b=some o→∃o',h'.get? b=some o'
 tups:∀b xs,H b=some (.tup xs)→H' b=some (.tup xs)
 iV:∀b o u,H b=some (.cX o u)→H' b=some (.cX o u)
 ji:∀b ps,H b=some (.pN ps)→∃more,H' b=some (.pN (ps++more))
structure Lies(P:Program)(w:World)(outer:List Env)(H:Hp)(s:Shared)(ea:Addr)(C:Value)(d:Option Addr)(fl:Value)(H':Hp)(B:Heap)(s':Shared):Prop where
 os:s'.os=s.os
 bare:AllBare s'.gens
 st:B.StaysIn s'.heap
 en:B.get? ea=none
 fr:s'.heap.FunFrames B outer
 tr:YG B ea C d fl s'.heap
 hok:fG P w H' B
 un:UnX (frs outer) H H' s.heap B s'.heap
 no:H' ea=none
 new:s.heap.get? ea=none
def ũ(P:Program)(w:World):pO:=fun outer H s E e s'=>∃ea C d H' B,e=.ref ea∧Lies P w outer H s ea C d .none H' B s'∧E C d H'
theorem qN{P:Program}{w:World}{outer:List Env}{H:Hp}{s s':Shared}{e:Value}(h:ũ P w outer H s (fun _ _ _=>False) e s'):False:=by
 obtain⟨_,_,_,_,_,_,_,h⟩:=h
 exact h
theorem aJ{P:Program}{w:World}{X:Cx}:b_ (ũ P w) X EF:=fun _ _ _ _ _ _ _ h=>(qN h).elim
section
variable{P:Program}{w:World}{K:PySem.W.Frag}{mg:Str→Option Value}{base:Heap}{N:List Str}{qual:Str}{scope:Scope}{f:Addr}{cdv:Value}{A:Around}{outer:List Env}{s₀:Shared}{H₀:Hp}{E:XK}
theorem Ğ:b_ (ũ P w) (bR (ũ P w) P w K mg base N qual scope f cdv A outer s₀ H₀ E) (fun _=>E):=by
 intro pins σ H s e s' I h
 obtain⟨ea,C,d,H',B,rfl,l,hE⟩:=h
 have hfr:(A.deeper (envOfC qual scope s₀.heap.objs.size f cdv)).frames=some (envOfC qual scope s₀.heap.objs.size f cdv::outer):=I.ok.frames
 show wpAny _ _ (leaving _ _) _ _ s'
 unfold leaving
 refine wpAny_bind (YH hfr l.fr rfl l.tr l.st l.en fun h1 x1 x2 x3 x4=>?_)
 refine Dw (s:={s' with heap:=h1}) x1 x2 x3 fun h2 y1 y2 y3 y4=>?_
 obtain⟨_,_,y2'⟩:=y2
 have mv:=x4.trans y4
 have neL:∀b o,s₀.heap.get? b=some o→b∉frs outer→b∉frs (envOfC qual scope s₀.heap.objs.size f cdv::outer):=fun b o q hb z=>by
  rcases List.mem_cons.mp (show b∈s₀.heap.objs.size::frs outer from z) with z|z
  ·exact absurd (Heap.lt_size q) (by rw[z];exact Nat.lt_irrefl _)
  ·exact hb z
 have inL:∀b,b∈frs outer→b∈frs (envOfC qual scope s₀.heap.objs.size f cdv::outer):=fun b z=>List.mem_cons_of_mem _ z
 refine⟨ea,C,d,H',B,rfl,⟨l.os.trans I.os,l.bare,y1,l.en,y2',y3,l.hok,⟨fun b o q n hb=>?_,fun b o q n hb=>?_,fun b o q n=>?_,fun b o q=>?_,fun b xs q=>l.un.tups b xs (I.base.tups b xs q),fun b o u q=>l.un.iV b o u (I.base.iV b o u q),fun b ps q=>?_⟩,l.no,?_⟩,hE⟩
 ·exact l.un.keep b o (I.base.keep b o q n hb (by simp[bR])) (I.base.free b o q n (by simp[bR])) (neL b o q hb)
 ·obtain⟨sl,q1⟩:=I.base.slot b o q n hb (by simp[bR])
  obtain⟨sl2,q2⟩:=l.un.slot b _ q1 (I.base.free b o q n (by simp[bR])) (inL b hb)
  have nf:∀vs,o.data≠ .fields vs:=by
   obtain⟨_,o',q3,hn⟩:=l.fr.mem (inL b hb)
   rw[q2] at q3
   cases q3
   exact hn
  obtain⟨sl3,q3⟩:=mv.up b _ q2 nf
  exact⟨sl3,q3⟩
 ·obtain⟨o1,q1⟩:=I.base.there b o q (by simp[bR])
  exact l.un.free b o1 q1 (I.base.free b o q n (by simp[bR]))
 ·obtain⟨o1,q1⟩:=I.base.there b o q (by simp[bR])
  obtain⟨o2,q2⟩:=l.un.there b o1 q1
  exact mv.there b o2 q2
 ·obtain⟨m1,e1⟩:=I.base.ji b ps q
  obtain⟨m2,e2⟩:=l.un.ji b _ e1
  exact⟨m1++m2,by rw[e2,Array.append_assoc]⟩
 ·cases q:s₀.heap.get? ea with
  |none=>rfl
  |some o=>
   obtain⟨o1,q1⟩:=I.base.there ea o q (by simp[bR])
   rw[l.new] at q1
   cases q1
theorem YJ{pins:List (Addr×Obj)}{σ:L2.St}{H:Hp}{s:Shared}{e:Addr}{oe:Obj}{vs:Array Value}(I:Inv (bR (ũ P w) P w K mg base N qual scope f cdv A outer s₀ H₀ E) pins σ H s)
 (he:s.heap.get? e=some oe)(hd:oe.data=.fields vs)(h1:vs[1]?=some .none)(hn:H e=none)(hnew:s₀.heap.get? e=none)(hE:E oe.cls oe.dict H) :
 (bR (ũ P w) P w K mg base N qual scope f cdv A outer s₀ H₀ E).xe (.ref e) s:=by
 have hfr:(A.deeper (envOfC qual scope s₀.heap.objs.size f cdv)).frames=some (envOfC qual scope s₀.heap.objs.size f cdv::outer):=I.ok.frames
 have st:s.heap.FunFrames base (envOfC qual scope s₀.heap.objs.size f cdv::outer):=I.stack
 have nof:e∉frs (envOfC qual scope s₀.heap.objs.size f cdv::outer):=fun z=>by
  obtain⟨_,o,q,hn⟩:=st.mem z
  rw[he] at q
  cases q
  exact hn vs hd
 have hin:∀env∈(envOfC qual scope s₀.heap.objs.size f cdv::outer),∀a,env.frame=some a→a∈e::frs (envOfC qual scope s₀.heap.objs.size f cdv::outer):=fun env h1 a h2=>List.mem_cons_of_mem _ (List.mem_filterMap.mpr ⟨env,h1,h2⟩)
 have hl:s.heap.FunFrames (PySem.W.hideAll s.heap (e::frs (envOfC qual scope s₀.heap.objs.size f cdv::outer))) (envOfC qual scope s₀.heap.objs.size f cdv::outer):=PySem.W.funFrames_hide st hin
 have hB:∀b o,s.heap.get? b=some o→b≠e→b∉frs (envOfC qual scope s₀.heap.objs.size f cdv::outer)→(PySem.W.hideAll s.heap (e::frs (envOfC qual scope s₀.heap.objs.size f cdv::outer))).get? b=some o:=fun b o q h1 h2=>
  PySem.W.hideAll_get _ q fun z=>(List.mem_cons.mp z).elim h1 h2
 have neL:∀b o,s₀.heap.get? b=some o→b∉frs outer→b∉frs (envOfC qual scope s₀.heap.objs.size f cdv::outer):=fun b o q hb z=>by
  rcases List.mem_cons.mp (show b∈s₀.heap.objs.size::frs outer from z) with z|z
  ·exact absurd (Heap.lt_size q) (by rw[z];exact Nat.lt_irrefl _)
  ·exact hb z
 have ne0:∀b o,s₀.heap.get? b=some o→b≠e:=fun b o q z=>by rw[z,hnew] at q;cases q
 have kb:(PySem.W.hideAll s.heap (e::frs (envOfC qual scope s₀.heap.objs.size f cdv::outer))).StaysIn s.heap:=fun b o q=>PySem.W.of_hideAll _ q
 have en:(PySem.W.hideAll s.heap (e::frs (envOfC qual scope s₀.heap.objs.size f cdv::outer))).get? e=none:=PySem.W.hideAll_none _ List.mem_cons_self
 show wpAny _ _ (leaving _ _) _ _ s
 unfold leaving
 refine wpAny_bind (Sx hfr hl rfl he kb en hd h1 fun g1 x1 x2 x3 x4=>?_)
 refine Dw (s:={s with heap:=g1}) x1 x2 x3 fun g2 y1 y2 y3 y4=>?_
 obtain⟨_,_,y2'⟩:=y2
 have mv:=x4.trans y4
 refine⟨e,oe.cls,oe.dict,H,_,rfl,⟨I.os,I.bare,y1,en,y2',y3,?_,⟨fun b o q n hb=>?_,fun b o q n hb=>?_,fun b o q n=>?_,fun b o q=>?_,I.base.tups,I.base.iV,I.base.ji⟩,hn,hnew⟩,hE⟩
 ·refine fG.sub I.hok fun b o u hu q=>hB b o q (fun z=>by rw[z,hn] at hu;cases hu) fun z=>?_
  have:=I.sX b z
  rw[hu] at this
  cases this
 ·exact hB b o (I.base.keep b o q n hb (by simp[bR])) (ne0 b o q) (neL b o q hb)
 ·obtain⟨sl,q1⟩:=I.base.slot b o q n hb (by simp[bR])
  have nf:∀vs,o.data≠ .fields vs:=by
   obtain⟨_,o',q3,hn⟩:=st.mem (List.mem_cons_of_mem _ hb)
   rw[q1] at q3
   cases q3
   exact hn
  obtain⟨sl3,q3⟩:=mv.up b _ q1 nf
  exact⟨sl3,q3⟩
 ·exact I.base.free b o q n (by simp[bR])
 ·obtain⟨o1,q1⟩:=I.base.there b o q (by simp[bR])
  exact mv.there b o1 q1
end
end P
namespace P
open PySem PySem.Spec PyProof.Rows L2 M2 M3 M4
abbrev zx:List Value:=[.type "ValueError",.type "Exception",.type "BaseException",.type "object"]
abbrev Sy:String:= "ValueError.__new__"
section
variable{K:PySem.W.Frag}{h:Heap}{C:Addr}{bmB:List Value}{newId:String}
theorem YK(X:K.In h)(q:PySem.W.excIn K C bmB newId=true) :
 ∃bm N nm qn bs hd sn sub ab col dd k0 k1 k2 k3 k5 mN,h.get? C=some (excClassObj nm qn C N bs bm hd sn sub ab col dd k0 k1 k2 k3 k5 newId)∧h.Ns N mN∧mN "__init__" =none∧OwnTail h bmB bm:=by
 unfold PySem.W.excIn at q
 split at q
 case h_2=>cases q
 rename_i dd cd sl ho
 split at q
 case h_2=>cases q
 rename_i C1 bm k0 k1 k2 k3 n1 k5 e1 e2
 simp only[Bool.and_eq_true,beq_iff_eq,Bool.not_eq_true'] at q
 obtain⟨⟨⟨⟨⟨z1,z2⟩,z3⟩,z4⟩,z5⟩,z6⟩:=q
 subst z1 z2
 obtain⟨nm,bs,mro,ns,qn,hd,sn,sub,ab,col,del⟩:=cd
 dsimp only at e1 z3 z5 z6
 subst e1 z3
 obtain⟨sll⟩:=sl
 dsimp only at e2
 subst e2
 exact⟨bm,ns,nm,qn,bs,hd,sn,sub,ab,col,dd,k0,k1,k2,k3,k5,_,X _ _ ho,.of_isNs (PySem.W.isNs_of_in X z5),PySem.W.nsMap_none_of_in X z5 z6,PySem.W.tail_of_in X z4⟩
end
def ug(X:Cx)(E:L2.St→XK):Prop:=∀(pins:List (Addr×Obj)) (σ:L2.St) (H:Hp) (s:Shared) (e:Addr) (oe:Obj) (vs:Array Value),Inv X pins σ H s→s.heap.get? e=some oe→oe.data=.fields vs→vs[1]?=some .none→H e=none→
 X.s₀.heap.get? e=none→E σ oe.cls oe.dict H→X.xe (.ref e) s
theorem mY{P:Program}{w:World}{K:PySem.W.Frag}{mg:Str→Option Value}{base:Heap}{N:List Str}{qual:Str}{scope:Scope}{f:Addr}{cdv:Value}{A:Around}{outer:List Env}{s₀:Shared}{H₀:Hp}{E:XK} :
 ug (bR (ũ P w) P w K mg base N qual scope f cdv A outer s₀ H₀ E) (fun _=>E):=fun _ _ _ _ _ _ _ I he hd h1 hn hnew hE=>YJ I he hd h1 hn hnew hE
def uh(C:String):M Fl:=fun ρ=>.exc ⟨C,[],[]⟩ ρ
section
variable{X:Cx}{cm:String→Addr}{E:L2.St→XK}{x:Str}{C:String}{np cpos pos:Pos}
theorem um{P:Program}{w:World}{H:Hp}{h:Heap}{e:Addr}(k:fG P w H h)(q:h.get? e=none):H e=none:=by
 cases z:H e with
 |none=>rfl
 |some u=>
  obtain⟨o,ho⟩:=wL (k e u z)
  rw[q] at ho
  cases ho
theorem Inv.ZdD{pins:List (Addr×Obj)}{σ:L2.St}{H:Hp}{s:Shared}{e:Addr}(I:Inv X pins σ H s)(hex:X.ex=[])(q:s.heap.get? e=none):X.s₀.heap.get? e=none:=by
 cases z:X.s₀.heap.get? e with
 |none=>rfl
 |some o=>
  obtain⟨o1,q1⟩:=I.base.there e o z (by rw[hex];simp)
  rw[q] at q1
  cases q1
theorem wM(hc:X.calm=true)(hex:X.ex=[])(hr:ug X E)(hg:Gl X x)(hm:X.mg x=some (.ref (cm C)))(q:PySem.W.excIn X.K (cm C) zx Sy=true)(hdb:(x== ("__debug__" :Str))=false:=by decide) :
 PS X (.Raise (some (.Call (.Name x np) [] [] cpos)) none pos) (tS (kk X cm) E (uh C)):=by
 intro pins s σ H D I ⟨c,F,ρ,rel,h⟩
 obtain⟨bm,N,nm,qn,bs,hd,sn,sub,ab,col,dd,k0,k1,k2,k3,k5,mN,hC,hN,hni,T⟩:=YK I.fK q
 refine wpAny_Raise_call_subT (C:=cm C) (nm:=nm) (q:=qn) (N:=N) (bs:=bs) (bm:=bm) (hdct:=hd) (sn:=sn) (sub:=sub) (ab:=ab) (col:=col) (dd:=dd) (k0:=k0) (k1:=k1) (k2:=k2) (k3:=k3) (k5:=k5)
  PySem.F.excBase_ValueError (mN:=mN) (T.hasType (by decide)) (I.ok.hd hc) rfl hni (jk I hg hm ⟨rfl,?_⟩ hdb)
 refine evalArgs_empty ⟨rfl,Nat.zero_le _,hC,hN,T,fun h' e hx=>?_⟩
 obtain⟨t,he,_,_⟩:=hx.there
 have I2:Inv X pins σ H {s with heap:=h'}:=I.kept (t':=s.toks) hx.keeps
 exact hr pins σ H _ e _ _ I2 he rfl rfl (um I.hok hx.new) (Inv.ZdD I hex hx.new) (h σ _ _ F H rel (Same.refl _) ⟨rfl,[],.inl ⟨rfl,rfl⟩,rfl,Ĝ.nil⟩)
end
section
variable{M:Model}{A:Around}{E:Value→Shared→Prop}{s:Shared}{K:PySem.W.Frag}{e C D:Addr}{oe:Obj}{b:Bool}{Q:Bool→Shared→Prop}
end
section
variable{X:Cx}{pins:List (Addr×Obj)}{σ:L2.St}{H:Hp}{s:Shared}{xe:Value→Shared→Prop}
end
end P
namespace P
open PySem PySem.Spec PyProof.Rows L2 M2 M3 M4
abbrev MH:=PX→Ŏ→Res Fl
def SJ(i:Nat)(yes no:List String)(mh:M Fl)(rest:MH):MH:=fun x ρ=>if yes.contains x.C=true then(match mh (ρ.set i (.sh (.xc x.C x.ns x.ps))) with
 | .ok f ρ2=>.ok f (ρ2.set i .no)
 |_=>.bad) else if no.contains x.C=true then rest x ρ else .bad
def ZdE(yes no:List String)(mh:M Fl)(rest:MH):MH:=fun x ρ=>if yes.contains x.C=true then(match mh ρ with
 | .ok f ρ2=>.ok f ρ2
 |_=>.bad) else if no.contains x.C=true then rest x ρ else .bad
def ZlB(mb:M Fl)(mh:MH):M Fl:=fun ρ=>match mb ρ with
 | .exc x ρ1=>mh x ρ1
 |r=>r
section
variable{X:Cx}{cm:String→Addr}{E:L2.St→XK}{pins:List (Addr×Obj)}{σ:L2.St}{H Hc:Hp}{s sc:Shared}{ea:Addr}{C:Value}{d:Option Addr}{B:Heap}
variable{y n:Str}{Dn:String}{i:Nat}{yp hpos:Pos}{b₀:Stmt}{suite:List Stmt}{rest:List ExceptHandler}{yes no:List String}{mh:M Fl}{mr:MH}
end
end P
namespace P
open PySem PySem.Spec PyProof.Rows L2 M2 M3 M4 Builtin Builtin.ObjectAttr
def ź(K:PySem.W.Frag)(C:Addr):Bool:=match K.lookup C with
 |some ⟨.type "type",_,.cls cd,sl⟩=>(match cd.mro,sl.toList with
  | .ref C'::bm,[_,_,_,_,some (.builtin n),_]=>C'== C && n== Sy && !cd.hasDel && cd.hasDict && PySem.W.tailIn K zx bm && PySem.W.findIn K (.ref C) "__setattr__" == some (some (.builtin "object.__setattr__")) &&
      PySem.W.findIn K (.ref C) "__getattribute__" == some (some (.builtin "BaseException.__getattribute__")) && PySem.W.findIn K (.ref C) "__getattr__" == some none
  |_,_=>false)
 |_=>false
structure mF(K:PySem.W.Frag)(C:Addr)(cd:ClassData)(bm:List Value):Prop where
 at_:∃dd k0 k1 k2 k3 k5,K.lookup C=some ⟨.type "type",dd,.cls cd,#[k0,k1,k2,k3,some (.builtin Sy),k5]⟩
 mro:cd.mro=.ref C::bm
 del:cd.hasDel=false
 dict:cd.hasDict=true
 tail:PySem.W.tailIn K zx bm=true
 sa:PySem.W.findIn K (.ref C) "__setattr__" =some (some (.builtin "object.__setattr__"))
 ga:PySem.W.findIn K (.ref C) "__getattribute__" =some (some (.builtin "BaseException.__getattribute__"))
 gg:PySem.W.findIn K (.ref C) "__getattr__" =some none
theorem gU{K:PySem.W.Frag}{C:Addr}(q:ź K C=true):∃cd bm,mF K C cd bm:=by
 unfold ź at q
 split at q
 case h_2=>cases q
 rename_i dd cd sl ho
 split at q
 case h_2=>cases q
 rename_i C1 bm k0 k1 k2 k3 n1 k5 e1 e2
 simp only[Bool.and_eq_true,beq_iff_eq,Bool.not_eq_true'] at q
 obtain⟨⟨⟨⟨⟨⟨⟨z1,z2⟩,z3⟩,z4⟩,z5⟩,z6⟩,z7⟩,z8⟩:=q
 subst z1 z2
 obtain⟨sll⟩:=sl
 dsimp only at e2
 subst e2
 exact⟨cd,bm,⟨dd,k0,k1,k2,k3,k5,ho⟩,e1,z3,z4,z5,z6,z7,z8⟩
section
variable{K:PySem.W.Frag}{h:Heap}{C:Addr}{cd:ClassData}{bm:List Value}
theorem mF.own(x:mF K C cd bm)(X:K.In h):OwnTail h zx bm:=PySem.W.tail_of_in X x.tail
theorem mF.cls(x:mF K C cd bm):PySem.W.clsIn K C=some cd:=by
 obtain⟨_,_,_,_,_,_,e⟩:=x.at_
 unfold PySem.W.clsIn
 rw[e]
theorem wN{T:String}(hT:zx.contains (.type T)=true):∀{l:List Value},PySem.W.tailIn K zx l=true→l.contains (.type T)=true
 | [],e=>by cases(show(zx== [])=true from e)
 |v::r,e=>by
  unfold PySem.W.tailIn at e
  rcases Bool.or_eq_true_iff.mp e with q|q
  ·rw[beq_iff_eq.mp q];exact hT
  ·split at q
   ·split at q
    ·simp only[Bool.and_eq_true,beq_iff_eq] at q
     rw[List.contains_cons,wN hT q.2,Bool.or_true]
    ·cases q
   ·cases q
theorem lu(self:Value):∀{l:List Value},PySem.W.tailIn K zx l=true→refuseLoop self "__setattr__" l=pure ()
 | [],e=>by cases(show(zx== [])=true from e)
 |v::r,e=>by
  unfold PySem.W.tailIn at e
  rcases Bool.or_eq_true_iff.mp e with q|q
  ·rw[beq_iff_eq.mp q];exact PySem.F.store_ValueError.passes self
  ·split at q
   ·split at q
    ·simp only[Bool.and_eq_true,beq_iff_eq] at q
     rw[refuseLoop_ref]
     exact lu self q.2
    ·cases q
   ·cases q
theorem mF.mroIs(x:mF K C cd bm){T:String}(hT:zx.contains (.type T)=true):PySem.W.mroIn K C (.type T)=some true:=by
 unfold PySem.W.mroIn
 rw[x.cls,Option.bind_some,if_neg (by rw[x.mro];simp),x.mro,List.contains_cons,wN hT x.tail,Bool.or_true]
end
section
variable{prog:Program}{w:World}{A:Around}{E:Value→Shared→Prop}{h:Heap}{g:Array GenState}{d:Drawn}{t:Nat}{os:OsState}
variable{nm q:Str}{C N:Addr}{bs bm bmB:List Value}{hdct:Bool}{sn:List Str}{sub:List Value}{ab:Bool}{col:Option Bool}{dd:Option Addr}{k0 k1 k2 k3 k5:Option Value}{B newId initId:String}
theorem mG(F:ExcBaseFacts B newId initId bmB)(T:OwnTail h bmB bm){rest:List Value}{fI:Addr}{oI:Obj}{Q:Fin→Shared→Prop}
 (hC:h.get? C=some (excClassObj nm q C N bs bm hdct sn sub ab col dd k0 k1 k2 k3 k5 newId))(hi:PySem.W.Looks (model prog w) h (typeLookup (.ref C) "__init__") (some (.ref fI)))
 (hfI:h.get? fI=some oI)(hfc:oI.cls=.type "function")
 (hq:∀h' e,Heap.MadeExcOf h h' e (.ref C) rest→
   wpAny (model prog w) A (call (.ref fI) (.ref e::rest)) (fun r s'=>r=.none∧Q (.done (.ret (.ref e))) s') E ⟨h',g,d,t,os⟩)(hrest:rest.length≤sizeLine) :
 wpAny (model prog w) A (Builtin.«type.__call__» ⟨.ref C::rest,[]⟩) Q E ⟨h,g,d,t,os⟩:=by
 repeat (first|with_reducible refine wpAny_loadPart_at hC ?_|with_reducible refine wpAny_madeBy_exc hC ?_|wp_step)
 refine codeAny_call_builtin_code (Code.quiet_builtin _ F.quiet) (wpAny_check_new_subT F T hC ?_)
 refine codeAny_exc_new_subT F T hC ?_ hrest
 show wpAny _ _ _ _ _ _
 have hC₁:= Heap.get?_push_of_some {cls:=.ref C,data:=.fields #[.ref h.objs.size,.none,.none,.none,.bool false,.none]}
  (Heap.get?_push_of_some {cls:=.type "tuple",data:=.seq rest.toArray} hC)
 have hfI₁:= Heap.get?_push_of_some {cls:=.ref C,data:=.fields #[.ref h.objs.size,.none,.none,.none,.bool false,.none]}
  (Heap.get?_push_of_some {cls:=.type "tuple",data:=.seq rest.toArray} hfI)
 have hi₁:= hi.keeps (h':=(h.push {cls:=.type "tuple",data:=.seq rest.toArray}).push {cls:=.ref C,data:=.fields #[.ref h.objs.size,.none,.none,.none,.bool false,.none]}) fun b o e=>Heap.get?_push_of_some _ (Heap.get?_push_of_some _ e)
 have hget:((h.push {cls:=.type "tuple",data:=.seq rest.toArray}).push
  {cls:=.ref C,data:=.fields #[.ref h.objs.size,.none,.none,.none,.bool false,.none]}).get? (h.objs.size+1)=some
  {cls:=.ref C,data:=.fields #[.ref h.objs.size,.none,.none,.none,.bool false,.none]}:=by heap_get
 have hcC:(Value.ref C::bm).contains (.ref C)=true:=by simp
 unfold isInstance
 repeat (first|with_reducible refine wpAny_loadPart_at hget ?_|(with_reducible refine wpAny_isSubtype_exc hC₁ ?_;rw[hcC])|wp_step)
 show wpAny _ _ (typeLookup (.ref C) _) _ _ _
 refine hi₁.at ?_
 refine wpAny_holding (wpAny_bind ?_)
 unfold bindSpecial
 refine wpAny_bind (wpAny_typeOf (T:= "function") ⟨_,hfI₁,hfc⟩ ?_)
 rw[if_pos (by decide)]
 refine wpAny_pure (wpAny_bind (wpAny_mono (hq _ (h.objs.size+1) ⟨fun b o hb=>Heap.get?_push_of_some _ (Heap.get?_push_of_some _ hb),Heap.get?_none_of_le (Nat.le_succ _),h.objs.size,hget,Heap.get?_none_of_le (Nat.le_refl _),?_⟩) (fun r s' hr=>?_) fun _ _ x=>x))
 ·exact Heap.get?_push_of_some _ (Heap.get?_push_at rfl rfl)
 ·obtain⟨rfl,hQ⟩:=hr
  wp_walk
  exact hQ
theorem Ah(F:ExcBaseFacts B newId initId bmB)(T:OwnTail h bmB bm){rest:List Value}{fI:Addr}{oI:Obj}{Q:Value→Shared→Prop}
 (hC:h.get? C=some (excClassObj nm q C N bs bm hdct sn sub ab col dd k0 k1 k2 k3 k5 newId))(hi:PySem.W.Looks (model prog w) h (typeLookup (.ref C) "__init__") (some (.ref fI)))
 (hfI:h.get? fI=some oI)(hfc:oI.cls=.type "function")
 (hq:∀h' e,Heap.MadeExcOf h h' e (.ref C) rest→
   wpAny (model prog w) (A.under (.builtin "type.__call__" ⟨.ref C::rest,[]⟩)) (call (.ref fI) (.ref e::rest)) (fun r s'=>r=.none∧Q (.ref e) s') E ⟨h',g,d,t,os⟩)(hrest:rest.length≤sizeLine) :
 wpAny (model prog w) A (call (.ref C) rest) Q E ⟨h,g,d,t,os⟩:=by
 have f1:=tc_lookup
 have f2:=tc_bind (.ref C)
 have hT:(⟨h,g,d,t,os⟩:Shared).TypeIs (.ref C) "type" := ⟨_,hC,rfl⟩
 refine wpAny_call (codeAny_of_tree ?_)
 show wpAny _ _ (callAny (.ref C) _) _ _ _
 repeat (any_goals (first|assumption|with_reducible refine wpAny_loadPart_at hC ?_|wp_step))
 refine⟨rfl,?_⟩
 refine codeAny_call_builtin_at (Code.quiet_builtin _ (by decide +kernel)) entry_typeCall (wpAny_check_type_call_sub hC (mG (hrest:=hrest) F T hC hi hfI hfc fun h' e hm=>?_))
 exact hq h' e hm
end
section
variable{prog:Program}{w:World}{A:Around}{E:Value→Shared→Prop}{s:Shared}{K:PySem.W.Frag}{x C:Addr}{cd:ClassData}{bm:List Value}{ox:Obj}{od:Option Obj}{name:Str}{v:Value}
theorem ZdF{rest:List Value}{fI:Addr}{Q:Value→Shared→Prop}(X:K.In s.heap)(c:mF K C cd bm)(hi:PySem.W.findIn K (.ref C) "__init__" =some (some (.ref fI)))(hf:PySem.W.typeIn K (.ref fI)=some (.type "function"))(hrest:rest.length≤sizeLine)
 (hq:∀h' e,Heap.MadeExcOf s.heap h' e (.ref C) rest→wpAny (model prog w) (A.under (.builtin "type.__call__" ⟨.ref C::rest,[]⟩)) (call (.ref fI) (.ref e::rest)) (fun r s'=>r=.none∧Q (.ref e) s') E {s with heap:=h'}) :
 wpAny (model prog w) A (call (.ref C) rest) Q E s:=by
 obtain⟨dd,k0,k1,k2,k3,k5,e⟩:=c.at_
 obtain⟨oI,hoI,hfc⟩:=Option.map_eq_some_iff.mp hf
 have hC:=X _ _ e
 have T:=c.own X
 obtain⟨nm,bs,mro,ns,qn,hd,sn,sub,ab,col,del⟩:=cd
 obtain rfl:mro=.ref C::bm:=c.mro
 obtain rfl:del=false:=c.del
 obtain⟨hh,g,d,t,os⟩:=s
 exact Ah (C:=C) (nm:=nm) (q:=qn) (N:=ns) (bs:=bs) (bm:=bm) (hdct:=hd) (sn:=sn) (sub:=sub) (ab:=ab) (col:=col) (dd:=dd) (k0:=k0) (k1:=k1) (k2:=k2) (k3:=k3) (k5:=k5) PySem.F.excBase_ValueError T hC (PySem.W.looks_findIn X hi) (X _ _ hoI) hfc hq hrest
theorem wO{tk:Tok}{R:Result→Shared→Prop}(X:K.In s.heap)(I:PySem.W.InstAt s.heap x ox C od)(c:mF K C cd bm)(ht:Ň K C name)
 (h:∀b,wpAny (model prog w) A.in1 (storeInOwnDict (.ref x) (.ref C) (.str name tk) name v b)
   (fun fin s'=>match fin with| .done f=>R (.ok f) s'| .again c'=>c'.quiet=true∧codeAny (model prog w) A c' R s') (fun e s'=>R (.error e) s') s) :
 codeAny (model prog w) A (.call (.builtin "object.__setattr__") ⟨[.ref x,.str name tk,v],[]⟩) R s:=by
 have SF:=PySem.F.store_object
 have sub:PySem.W.Looks (model prog w) s.heap (isInstance (.ref x) (.type "object")) true:=I.type.andThen (PySem.W.looks_mroIn X (c.mroIs (by decide)))
 refine codeAny_call_builtin SF.slot.plain SF.entry (@PySem.W.check_slot (model prog w) _ _ s "object.__setattr__" "object" "__setattr__" (.ref x) [.str name tk,v] [] _ SF.kind SF.split sub (SF.args (.ref x) (.str name tk) v) ?_)
 have hm:PySem.W.Looks (model prog w) s.heap (mroOf (.ref C)) cd.mro:=(PySem.W.looks_clsIn X c.cls).andThen .now
 have L3:PySem.W.Looks (model prog w) s.heap (typeLookup (.ref C) name) none:=PySem.W.looks_findIn X ht
 rw[PySem.W.osa_eq,refuse_eq]
 refine wpAny_bind (wpAny_bind (I.type.here (wpAny_bind (hm.here ?_))))
 rw[c.mro,refuseLoop_ref,lu _ c.tail]
 refine wpAny_pure (wpAny_bind (I.type.here (wpAny_bind (L3.here (wpAny_bind (wpAny_pure ?_))))))
 exact h _
theorem Ii{sl:Array (Option Value)}{vs:Array Value}{Q:Unit→Shared→Prop}(X:K.In s.heap)(hx:s.heap.get? x=some ⟨.ref C,none,.fields vs,sl⟩)(c:mF K C cd bm)(ht:Ň K C name)
 (h:∀h',h'.get? x=some ⟨.ref C,some s.heap.objs.size,.fields vs,sl⟩→h'.Ns1 s.heap.objs.size (fun y=>if y=name then some v else none)→(∀b o,b≠x→s.heap.get? b=some o→h'.get? b=some o)→Q () {s with heap:=h',toks:=s.toks+2}) :
 wpAny (model prog w) A (setAttr (.ref x) name v) Q E s:=by
 have J:PySem.W.InstAt s.heap x ⟨.ref C,none,.fields vs,sl⟩ C none:=⟨hx,rfl,rfl,trivial⟩
 refine PySem.W.set_plain X J c.sa (wO (s:={s with toks:=s.toks+1}) X J c ht fun b=>?_)
 refine wpAny_bind (wpAny_pure (wpAny_bind (wpAny_bind (wpAny_loadPart hx (wpAny_bind (PySem.W.Looks.here (s:={s with toks:=s.toks+1}) (PySem.W.looks_clsIn X c.cls) ?_))))))
 rw[c.dict]
 have hxs:x≠s.heap.objs.size:=Nat.ne_of_lt (Heap.lt_size hx)
 have hx₁:(s.heap.push {cls:=.type "dict",data:=.dict #[]}).get? x=some ⟨.ref C,none,.fields vs,sl⟩:=Heap.get?_push_of_some _ hx
 refine wpAny_bind (wpAny_alloc ?_)
 refine wpAny_bind (wpAny_update hx₁ ?_)
 refine wpAny_pure (a:=some s.heap.objs.size) (wpAny_bind (wpAny_pure (wpAny_bind ?_)))
 have hgd:((s.heap.push {cls:=.type "dict",data:=.dict #[]}).update x fun o=> {cls:=o.cls,dict:=some s.heap.objs.size,data:=o.data,slots:=o.slots}).get? s.heap.objs.size
  = some {cls:=.type "dict",data:=.dict #[]}:=(Heap.get?_update_ne _ _ _ _ hxs.symm).trans (Heap.get?_push_at rfl rfl)
 have hnd:((s.heap.push {cls:=.type "dict",data:=.dict #[]}).update x fun o=> {cls:=o.cls,dict:=some s.heap.objs.size,data:=o.data,slots:=o.slots}).Ns s.heap.objs.size (fun _=>none):=
  ⟨_,#[],_,hgd,rfl,fun e he=>absurd he (by simp),fun _=>rfl⟩
 refine wpAny_nsSet1 (Heap.Ns1.of_empty hnd) fun h' hn' hs=>?_
 obtain⟨oD,esD,epD,hoD,hdD,hcD⟩:=hn'.count (PySem.Within.cons name v PySem.Within.nil)
 refine wpAny_bind (wpAny_lookBehind hoD (by rw[hdD];exact pastItsLine_dict (Nat.le_trans hcD (by rw[List.length_cons,List.length_nil,sizeLine_eq];omega))) ?_)
 refine wpAny_pure (h h' ?_ hn' fun b o hb q=>?_)
 ·exact(hs.2 x hxs).trans (Heap.get?_update_self _ hx₁ rfl)
 ·exact(hs.2 b (Nat.ne_of_lt (Heap.lt_size q))).trans ((Heap.get?_update_ne _ _ _ _ hb).trans (Heap.get?_push_of_some _ q))
theorem Fb{sl:Array (Option Value)}{vs:Array Value}{dx:Addr}{mA:Str→Option Value}{ns:List Str}{Q:Unit→Shared→Prop}(X:K.In s.heap)(hx:s.heap.get? x=some ⟨.ref C,some dx,.fields vs,sl⟩)(hn:s.heap.Ns1 dx mA)(hw:PySem.Within mA ns)(hsz:ns.length<sizeLine)(c:mF K C cd bm)(ht:Ň K C name)
 (h:∀h',h'.Ns1 dx (fun y=>if y=name then some v else mA y)→Heap.SameBut dx s.heap h'→Q () {s with heap:=h',toks:=s.toks+2}) :
 wpAny (model prog w) A (setAttr (.ref x) name v) Q E s:=by
 obtain⟨od,hod,_⟩:=qp hn
 have J:PySem.W.InstAt s.heap x ⟨.ref C,some dx,.fields vs,sl⟩ C (some od):=⟨hx,rfl,rfl,hod⟩
 refine PySem.W.set_plain X J c.sa (wO (s:={s with toks:=s.toks+1}) X J c ht fun b=>?_)
 refine wpAny_bind (wpAny_pure (wpAny_bind (wpAny_bind (wpAny_loadPart hx (wpAny_bind (PySem.W.Looks.here (s:={s with toks:=s.toks+1}) (PySem.W.looks_clsIn X c.cls) ?_))))))
 rw[c.dict]
 refine wpAny_pure (a:=some dx) (wpAny_bind (wpAny_pure (wpAny_bind ?_)))
 refine wpAny_nsSet1 (s:={s with toks:=s.toks+1}) hn fun h' hn2 hs2=>?_
 obtain⟨oD,esD,epD,hoD,hdD,hcD⟩:=hn2.count (PySem.Within.cons name v hw)
 refine wpAny_bind (wpAny_lookBehind hoD (by rw[hdD];exact pastItsLine_dict (Nat.le_trans hcD (by rw[List.length_cons];omega))) ?_)
 exact wpAny_pure (h _ hn2 hs2)
end
end P
namespace P
open PySem PySem.Spec PyProof.Rows L2 M2 M3 M4
def xn(a C:Addr)(d:Option Addr):HO:=.ext fun h=>∃o vs,h.get? a=some o∧o.cls=.ref C∧o.dict=d∧o.data=.fields vs∧vs[1]?=some .none
def YL(H:Hp)(a:Addr)(d:Option Addr)(fs:List (Str×V)):Prop:=(d=none∧fs=[])∨∃d0,d=some d0∧H d0=some (.xd fs)∧d0≠a
def XDn(H:Hp)(a:Addr)(d:Option Addr)(d':Addr):Prop:=d=some d'∨(d=none∧H d'=none∧d'≠a)
def wQ(H:Hp)(a C:Addr)(d:Option Addr)(d':Addr)(fs:List (Str×V)):Hp:=match d with
 |some _=>upd H d' (.xd fs)
 |none=>upd (upd H d' (.xd fs)) a (xn a C (some d'))
theorem wR{f g:Str}{y:V}{u:Value}{fs:List (Str×V)}{mA:Str→Option Value}(ry:RelV y u)(r:∀g,jL (fs.lookup g) (mA g)):jL ((aO f y fs).lookup g) (if g=f then some u else mA g):=by
 rw[fP]
 split
 ·exact ry
 ·exact r g
section
variable{X:Cx}{pins:List (Addr×Obj)}{σ:L2.St}{H:Hp}{s:Shared}{a C:Addr}{cd:ClassData}{bm:List Value}{d:Option Addr}{fs:List (Str×V)}{f:Str}{y:V}{u:Value}{A:Around}{E:Value→Shared→Prop}
theorem SM{Q:Unit→Shared→Prop}(I:Inv X pins σ H s)(c:mF X.K C cd bm)(ha:H a=some (xn a C d))(hD:YL H a d fs)(n:Ň X.K C f)(hl:fs.length<1000)(ry:RelV y u)
 (h:∀s' d',XDn H a d d'→Inv X pins σ (wQ H a C d d' (aO f y fs)) s'→Q () s'):wpAny (model X.prog X.w) A (setAttr (.ref a) f u) Q E s:=by
 obtain⟨⟨o,vs,ho,hcl,hdi,hda,hv1⟩,_,_⟩:=(show ū X.prog X.w H s.heap a (xn a C d) from I.hok a _ ha)
 obtain⟨ocls,odict,odata,osl⟩:=o
 dsimp only at hcl hdi hda
 subst hcl hdi hda
 rcases hD with⟨rfl,rfl⟩|⟨d0,rfl,hd0,hne⟩
 ·refine Ii I.fK ho c n fun h' hx' hns k=>h _ s.heap.objs.size (.inr ⟨rfl,I.hok.fresh (Nat.le_refl _),fun z=>?_⟩) ?_
  ·have:=Heap.lt_size ho
   rw[z] at this
   exact Nat.lt_irrefl _ this
  ·obtain⟨od,es,ep,e1,e2⟩:=id hns
   have hfr:=(Heap.get?_some_iff.mp e1).2
   have g1:(s.heap.push od).get? s.heap.objs.size=some od:=Heap.get?_push_at rfl hfr
   have ne:s.heap.objs.size≠a:=fun z=>by
    have:=Heap.lt_size ho
    rw[←z] at this
    exact Nat.lt_irrefl _ this
   have I1:Inv X pins σ (upd H s.heap.objs.size (.xd (aO f y []))) {s with heap:=s.heap.push od,toks:=s.toks}:=
    I.laid (fun b o q=>Heap.get?_push_of_some _ q) (Nat.le_refl _) ⟨_,hns.at fun o q=>by rw[e1] at q;cases q;exact g1,fun g=>wR (fs:=[]) (mA:=fun _=>none) ry fun _=>trivial⟩
   refine I1.write (x:=a) (e:=a) (h':=h') (by rw[ğ (Ne.symm ne),ha];exact trivial) (.inl rfl) (fun b o hb q=>?_) ⟨_,hx'⟩ ?_
   ·rcases Heap.get?_push_cases q with⟨rfl,rfl⟩|q
    ·exact e1
    ·exact k b o hb q
   ·refine⟨⟨_,vs,hx',rfl,rfl,rfl,hv1⟩,⟨_,hx'⟩,?_⟩
    rintro h1 h2 ⟨o,ws,q1,q2⟩ kk
    exact⟨o,ws,kk o q1,q2⟩
 ·obtain⟨mA,hns,r⟩:=(show ū X.prog X.w H s.heap d0 (.xd fs) from I.hok d0 _ hd0)
  have wi:PySem.Within mA (fs.map (·.1)):=fun g hg=>by
   refine Classical.byContradiction fun hn=>hg (jL.none_of ?_)
   rw[←jX (m:=g) (fs:=fs) (by simpa using hn)]
   exact r g
  refine Fb I.fK ho hns wi (by rw[List.length_map,sizeLine_eq];omega) c n fun h' hn2 sb=>h _ d0 (.inl rfl) ?_
  exact I.write (x:=d0) (e:=d0) (by rw[hd0];exact trivial) (.inl rfl) (fun b o hb q=>(sb.2 b hb).trans q) (let ⟨o,_,_,e,_⟩:=hn2;⟨o,e⟩) ⟨_,hn2,fun g=>wR ry r⟩
def tXF(C:Addr)(f:Str)(j:Nat):TS:=fun D σ H=>∃a d fs y,σ[0]?=some (some (.ref a))∧σ[j]?=some (some y)∧H a=some (xn a C d)∧YL H a d fs∧fs.length<1000∧∀d',XDn H a d d'→D.nx σ (wQ H a C d d' (aO f y fs))
def YM(C:Addr):List (Str×Nat)→TS
 | []=>Ug
 |(f,j)::r=>ZcO (tXF C f j) (YM C r)
variable{o value:Expr}{pos pos':Pos}{j:Nat}{ss:List Stmt}{r:List (Str×Nat)}
theorem Ij(q:ź X.K C=true)(n:Ň X.K C f)(ho:PE X o (sY 0))(hv:PE X value (sY j))(hs:swapsWith value (some (.Attribute o f pos')) pos.line X.env=pure false:=by rfl):PS X (.Assign [.Attribute o f pos'] value pos) (tXF C f j):=by
 intro pins s σ H D I ⟨a,d,fs,y,h0,hj,ha,hD,hl,h⟩
 obtain⟨cd,bm,c⟩:=gU q
 refine plainObj_wpAny_Assign_Attribute (Ť (hv pins s σ H (fun v H1=>v=y∧H1=H) I ⟨y,hj,rfl,rfl⟩) fun u s1 ⟨y1,H1,I1,ry,e1,e2⟩=>?_) hs
 subst e1 e2
 refine Ť (ho pins s1 σ _ (fun v H2=>v=.ref a∧H2=H1) I1 ⟨_,h0,rfl,rfl⟩) fun ov s2 ⟨x,H2,I2,rx,e1,e2⟩=>?_
 subst e1 e2
 obtain rfl:ov=Value.ref a:=rx
 exact SM I2 c ha hD n hl ry fun s3 d' hn I3=>⟨σ,_,I3,h d' hn⟩
theorem Ik:jj X [] (YM C []):=CJ
theorem uo(h1:PS X (.Assign [.Attribute o f pos'] value pos) (tXF C f j))(h2:jj X ss (YM C r)):jj X (.Assign [.Attribute o f pos'] value pos::ss) (YM C ((f,j)::r)):=vO h1 h2
end
def xiV:List (Str×Nat)→List V→List (Str×V)→Option (List (Str×V))
 | [],_,fs=>some fs
 |(f,j)::r,vs,fs=>match vs[j]? with
  |some v=>xiV r vs (aO f v fs)
  |none=>none
theorem Il{D:Ends}{σ:L2.St}{a C:Addr}{vs:List V}(h0:σ[0]?=some (some (.ref a)))(hσ:∀(j:Nat) v,vs[j]?=some v→σ[j]?=some (some v)):∀{fl:List (Str×Nat)} {d:Option Addr} {fs fs':List (Str×V)} {H:Hp},H a=some (xn a C d)→YL H a d fs→fs.length+fl.length<1000→xiV fl vs fs=some fs'→
 (∀H' d',H' a=some (xn a C d')→YL H' a d' fs'→(∀b u,b≠a→d≠some b→H b=some u→H' b=some u)→(∀d0,d'=some d0→d=some d0∨H d0=none)→D.nx σ H')→YM C fl D σ H
 | [],d,fs,fs',H,ha,hD,hl,e,k=>by
   cases e
   exact k H d ha hD (fun _ _ _ _ q=>q) fun d0 q=>.inl q
 |(f,j)::r,d,fs,fs',H,ha,hD,hl,e,k=>by
  unfold xiV at e
  cases ej:vs[j]? with
  |none=>rw[ej] at e;cases e
  |some y=>
   rw[ej] at e
   rw[List.length_cons] at hl
   refine⟨a,d,fs,y,h0,hσ j y ej,ha,hD,by omega,fun d' hn=>?_⟩
   have hda:d'≠a:=by
    rcases hn with rfl|⟨_,_,q⟩
    ·rcases hD with⟨q,_⟩|⟨d0,q,_,z⟩
     ·cases q
     ·cases q;exact z
    ·exact q
   have e1:wQ H a C d d' (aO f y fs) a=some (xn a C (some d')):=by
    unfold wQ
    rcases hn with rfl|⟨rfl,_,_⟩
    ·dsimp only;rw[ğ (Ne.symm hda)];exact ha
    ·exact ī
   have e2:wQ H a C d d' (aO f y fs) d'=some (.xd (aO f y fs)):=by
    unfold wQ
    cases d with
    |some _=>exact ī
    |none=>dsimp only;rw[ğ hda];exact ī
   have e3:∀b,b≠a→b≠d'→wQ H a C d d' (aO f y fs) b=H b:=fun b h1 h2=>by
    unfold wQ
    cases d with
    |some _=>exact ğ h2
    |none=>dsimp only;rw[ğ h1,ğ h2]
   have hlen:=fQ f y fs
   show YM C r _ σ _
   refine Il (fl:=r) (d:=some d') (fs:=aO f y fs) (fs':=fs') h0 hσ e1 (.inr ⟨d',rfl,e2,hda⟩) (by omega) e fun H' d'' q1 q2 q3 q4=>k H' d'' q1 q2 (fun b u h1 h2 h3=>?_) fun d0 z=>?_
   ·have hb:b≠d':=fun z=>by
     rcases hn with q|⟨_,q,_⟩
     ·exact h2 (by rw[q,z])
     ·rw[z,q] at h3;cases h3
    exact q3 b u h1 (fun z=>hb (by cases z;rfl)) (by rw[e3 b h1 hb];exact h3)
   ·rcases q4 d0 z with q|q
    ·cases q
     rcases hn with q|⟨_,q,_⟩
     ·exact .inl q
     ·exact .inr q
    ·have n1:d0≠a:=fun z=>by rw[z,e1] at q;cases q
     have n2:d0≠d':=fun z=>by rw[z,e2] at q;cases q
     rw[e3 d0 n1 n2] at q
     exact .inr q
def spX(n:Nat)(C:Addr)(fl:List (Str×Nat)):Sp:=fun vs H Q _=>∃a vs' fs,vs=.ref a::vs'∧vs'.length+1=n∧H a=some (xn a C none)∧fl.length<1000∧xiV fl vs []=some fs∧
 ∀H' d',H' a=some (xn a C d')→YL H' a d' fs→(∀b u,b≠a→H b=some u→H' b=some u)→(∀d0,d'=some d0→H d0=none)→Q .non H'
theorem qO{N:List Str}{vs:List V}{j:Nat}{v:V}(e:vs[j]?=some v):(L2.start N vs)[j]?=some (some v):=by
 unfold L2.start
 obtain⟨hj,e'⟩:=List.getElem?_eq_some_iff.mp e
 rw[List.getElem?_append_left (by simpa using hj)]
 simp[e]
section
variable{P:Program}{w:World}{K:PySem.W.Frag}{mg:Str→Option Value}{base:Heap}{CX:pO}
theorem fnX{x qual:Str}{st:Stmt}{f:Addr}{fd:FuncData}{N ps:List Str}{k n:Nat}{C:Addr}{fl:List (Str×Nat)}(F:Ŵ K x qual st f fd)(S:Ĕ N ps (ĉ st))(hn:ps.length=n)
 (hbody:∀(cdv:Value) (A:Around) (outer:List Env) (s:Shared) (H:Hp) (E:XK),jj (bR CX P w K mg base N qual (ĉ st) f cdv A outer s H E) (bI st) (YM C fl)):į P w K mg base CX (k+1) f fd ps (spX n C fl):=by
 subst hn
 obtain⟨oc,od,kV,doc,pm,an,cdv,ct,osl,rfl,lk,hcd⟩:=F.ex
 refine Gz lk hcd S (fun vs H Q E ⟨a,vs',fs,h1,h2,_⟩=>by rw[h1,List.length_cons];exact h2) fun A outer s H vs Q E hr hsp=>?_
 obtain⟨a,vs',fs,rfl,h2,h3,h4,h5,h6⟩:=hsp
 refine⟨_,hbody cdv A outer s H E,Il (vs:=.ref a::vs') (qO rfl) (fun j v e=>qO e) h3 (.inl ⟨rfl,rfl⟩) (by simpa using h4) h5 fun H' d' q1 q2 q3 q4=>h6 H' d' q1 q2 (fun b u hb q=>q3 b u hb (by intro z;cases z) q) fun d0 z=>?_⟩
 rcases q4 d0 z with q|q
 ·cases q
 ·exact q
end
theorem fG.ZlC{P:Program}{w:World}{H:Hp}{h:Heap}{ea Ca:Addr}{d:Option Addr}{oe:Obj}{vs:Array Value}(k:fG P w H h)(hn:H ea=none)(he:h.get? ea=some oe)(hc:oe.cls=.ref Ca)(hdi:oe.dict=d)(hd:oe.data=.fields vs)(h1:vs[1]?=some .none):fG P w (upd H ea (xn ea Ca d)) h:=fun b u e=>by
 by_cases hb:b=ea
 ·subst hb
  rw[ī] at e
  cases e
  refine⟨⟨oe,vs,he,hc,hdi,hd,h1⟩,⟨oe,he⟩,?_⟩
  rintro h1 h2 ⟨o,ws,q1,q2⟩ kk
  exact⟨o,ws,kk o q1,q2⟩
 ·rw[ğ hb] at e
  exact(k b u e).stay (fun _ _ _ q=>q) (fun c q=>by rw[ğ (Ļ q hn)];exact q) fun c xs q=>by rw[ğ (Ļ q hn)];exact q
theorem Inv.ZlD{X:Cx}{pins:List (Addr×Obj)}{σ:L2.St}{H:Hp}{s:Shared}{h':Heap}{e Ca:Addr}{d:Option Addr}{oe:Obj}{vs:Array Value}{t':Nat}(I:Inv X pins σ H s)(k:∀b o,s.heap.get? b=some o→h'.get? b=some o)(new:s.heap.get? e=none)
 (he:h'.get? e=some oe)(hc:oe.cls=.ref Ca)(hdi:oe.dict=d)(hd:oe.data=.fields vs)(h1:vs[1]?=some .none):Inv X pins σ (upd H e (xn e Ca d)) {s with heap:=h',toks:=t'}:=by
 have hn:H e=none:=um I.hok new
 have u:Un X.fs [] H H s.heap h':=Un.kept k
 refine I.un ⟨u.keep,u.slot,fun b o q n hx=>?_,u.there,fun b xs q=>?_,fun b o v q=>?_,fun b ps q=>?_⟩ (fG.ZlC (I.hok.kept k) hn he hc hdi hd h1)
 ·have hb:b≠e:=fun z=>by rw[z,new] at q;cases q
  rw[ğ hb];exact n
 ·rw[ğ (Ļ q hn)];exact q
 ·rw[ğ (Ļ q hn)];exact q
 ·exact⟨#[],by rw[ğ (Ļ q hn),q];simp⟩
def SN:List (Str×Nat)→List PV→List Str→List PV→Option (List Str×List PV)
 | [],_,ns,qs=>some (ns,qs)
 |(_,0)::_,_,_,_=>none
 |(f,j+1)::r,ps,ns,qs=>match ps[j]? with
  |some p=>SN r ps (putN f ns) (wK f p ns qs)
  |none=>none
theorem wU{K:KK}{F:Hp}:∀{ps:List PV} {vs:List V} {j:Nat} {p:PV},Ĝ K F ps vs→ps[j]?=some p→∃v,vs[j]?=some v∧Rep K F p v
 | [],_,_,_,_,e=>by simp at e
 |q::ps,vs,j,p,h,e=>by
  unfold Ĝ at h
  obtain⟨x,r,rfl,h1,h2⟩:=h
  cases j with
  |zero=>cases e;exact⟨x,rfl,h1⟩
  |succ j=>rw[List.getElem?_cons_succ] at e ⊢;exact wU h2 e
theorem Im{K:KK}{F:Hp}{ps:List PV}{vs:List V}{e:V}(h:Ĝ K F ps vs):∀{fl:List (Str×Nat)} {ns ns':List Str} {qs qs':List PV} {fs:List (Str×V)},SN fl ps ns qs=some (ns',qs')→fs.map (·.1)=ns→Ĝ K F qs (fs.map (·.2))→
 ∃fs',xiV fl (e::vs) fs=some fs'∧fs'.map (·.1)=ns'∧Ĝ K F qs' (fs'.map (·.2))
 | [],ns,ns',qs,qs',fs,z,hn,hq=>by cases z;exact⟨fs,rfl,hn,hq⟩
 |(f,0)::r,ns,ns',qs,qs',fs,z,hn,hq=>by cases z
 |(f,j+1)::r,ns,ns',qs,qs',fs,z,hn,hq=>by
  unfold SN at z
  cases ej:ps[j]? with
  |none=>rw[ej] at z;cases z
  |some p=>
   rw[ej] at z
   obtain⟨v,ev,rv⟩:=wU h ej
   unfold xiV
   rw[List.getElem?_cons_succ,ev]
   subst hn
   obtain⟨z1,z2⟩:=uf (f:=f) (p:=p) rv hq
   exact Im h (fs:=aO f v fs) z z1 z2
def YQ(C:String)(n:Nat)(fl:List (Str×Nat))(ms:M (List PV)):M PV:=fun ρ=>(ms ρ).bind fun ps ρ1=>if ps.length+1=n∧ps.length<1000∧fl.length<1000 then(match SN fl ps [] [] with
 |some (ns,qs)=>.ok (.xc C ns qs) ρ1
 |none=>.bad) else .bad
def mZ(C:String)(n:Nat)(fl:List (Str×Nat))(ms:M (List PV)):M Fl:=fun ρ=>(ms ρ).bind fun ps ρ1=>if ps.length+1=n∧ps.length<1000∧fl.length<1000 then(match SN fl ps [] [] with
 |some (ns,qs)=>.exc ⟨C,ns,qs⟩ ρ1
 |none=>.bad) else .bad
section
variable{X:Cx}{cm:String→Addr}{E:L2.St→XK}{e:Expr}{es:List Expr}{pos p:Pos}{CX:pO}{k n:Nat}{f:Addr}{fd:FuncData}{ps:List Str}{C:String}{fl:List (Str×Nat)}{ms:M (List PV)}{x:Str}
structure XMk(K:PySem.W.Frag)(C f:Addr):Prop where
 x:ź K C=true
 kp:PySem.W.keepIn K (.ref C)=true
 init:PySem.W.findIn K (.ref C) "__init__" =some (some (.ref f))
 fn:PySem.W.typeIn K (.ref f)=some (.type "function")
theorem Fd{pins:List (Addr×Obj)}{σ:L2.St}{H:Hp}{s:Shared}{G:Value→Shared→Prop}{us:List Value}{vs:List V}{sp:Sp}{C:Addr}{T:Addr→Hp→Prop}(M:XMk X.K C f)(F:į X.prog X.w X.K X.mg X.base CX k f fd ps sp)(hr:bA (k+1) X.A)(hb:Binds X.K fd ps [])
 (hx:b_ CX X E)(I:Inv X pins σ H s)(r:Vals vs us)(hl:us.length≤sizeLine)
 (h:∀x,H x=none→sp (.ref x::vs) (upd H x (xn x C none)) (fun v H2=>v=.non∧T x H2) (E σ))
 (k:∀x H2 s',H x=none→s.heap.get? x=none→Inv X pins σ H2 s'→T x H2→G (.ref x) s') :
 wpAny (model X.prog X.w) X.A (call (.ref C) us) G X.xe s:=by
 obtain⟨cd,bm,c⟩:=gU M.x
 refine ZdF I.fK c M.init M.fn hl fun h' e hm=>?_
 obtain⟨t,he,_,_⟩:=hm.there
 have hn:H e=none:=um I.hok hm.new
 have I2:Inv X pins σ (upd H e (xn e C none)) {s with heap:=h',toks:=s.toks}:=Inv.ZlD I hm.keeps hm.new he rfl rfl rfl rfl
 have hq:=h e hn
 have r2:Vals (V.ref e::vs) (Value.ref e::us):=.cons rfl r
 have hl:(Value.ref e::us ++ []).length=ps.length:=by
  have q:=r2.length
  rw[F.len _ _ _ _ hq] at q
  rw[List.append_nil]
  exact q.symm
 have hbd:=hb {s with heap:=h'} (Value.ref e::us) I2.fK hl
 rw[List.append_nil] at hbd
 refine wpAny_call (codeAny_mono (F.run _ X.stack _ _ ⟨Value.ref e::us,[]⟩ _ _ _ (E σ) (hr.make C us []) (I2.env0.make C us []) hbd r2 hq) fun r s' hq'=>?_)
 cases r with
 |error e=>exact hx pins σ _ _ e s' I2 hq'
 |ok fl=>
  cases fl with
  |ret u=>
   obtain⟨v,H',I3,rv,ev,q3⟩:=I2.after hq'
   subst ev
   exact⟨rv,k e H' s' hn hm.new I3 q3⟩
  |next=>exact False.elim hq'
  |brk=>exact False.elim hq'
  |cont=>exact False.elim hq'
def rem(H:Hp)(a:Addr):Hp:=fun b=>if b=a then none else H b
theorem gB{H:Hp}{a b:Addr}(h:b≠a):rem H a b=H b:=if_neg h
theorem wV{H:Hp}{a:Addr}:rem H a a=none:=if_pos rfl
theorem ju{H:Hp}{a b:Addr}(h:H b=none):rem H a b=none:=by
 unfold rem
 split
 ·rfl
 ·exact h
theorem Inv.drop{pins:List (Addr×Obj)}{σ:L2.St}{H:Hp}{s:Shared}{a:Addr}{φ:Heap→Prop}(I:Inv X pins σ H s)(ha:H a=some (.ext φ)):Inv X pins σ (rem H a) s:=by
 have ne:∀b u,H b=some u→(∀ψ,u≠ .ext ψ)→b≠a:=fun b u q n z=>by rw[z,ha] at q;cases q;exact n _ rfl
 refine⟨I.ok,I.os,I.bare,⟨I.base.keep,I.base.slot,fun b o q n hx=>ju (I.base.free b o q n hx),I.base.there,fun b xs q=>?_,fun b o u q=>?_,fun b ps q=>?_⟩,I.loc,I.cell,ju I.free,fun x c e=>ju (I.fJ x c e),fun p hp=>?_,fun b u e=>?_,I.len⟩
 ·have q':=I.base.tups b xs q
  rw[gB (ne b _ q' (by intro ψ z;cases z))];exact q'
 ·have q':=I.base.iV b o u q
  rw[gB (ne b _ q' (by intro ψ z;cases z))];exact q'
 ·obtain⟨m,q'⟩:=I.base.ji b ps q
  exact⟨m,by rw[gB (ne b _ q' (by intro ψ z;cases z))];exact q'⟩
 ·obtain⟨h1,h2,h3⟩:=I.pin p hp
  exact⟨h1,ju h2,h3⟩
 ·have hb:b≠a:=fun z=>by rw[z,wV] at e;cases e
  rw[gB hb] at e
  exact(I.hok b u e).stay (fun _ _ _ q=>q) (fun c q=>by rw[gB (ne c _ q (by intro ψ z;cases z))];exact q) fun c xs q=>by rw[gB (ne c _ q (by intro ψ z;cases z))];exact q
theorem ZdG{K:KK}{c:Ctx}{F1 H1 H':Hp}{σ:L2.St}{ρ1:Ŏ}{x Ca:Addr}{d':Option Addr}{fs:List (Str×V)}(Ę:Rel K c F1 H1 σ ρ1)(hx:H1 x=none)(hD:YL H' x d' fs)(hH:∀b u,b≠x→upd H1 x (xn x Ca none) b=some u→H' b=some u)
 (hd:∀d0,d'=some d0→upd H1 x (xn x Ca none) d0=none):∃F',Rel K c F' H' σ ρ1∧Same F1 F'∧Same H1 H'∧nF F' d' fs∧F' x=none:=by
 have sH:Same H1 H':=fun b u e=>hH b u (Ļ e hx) (by rw[ğ (Ļ e hx)];exact e)
 have r2:Rel K c F1 H' σ ρ1:=Ę.call ⟨sH,Same.refl _,Ę.sub.trans sH,fun _ _ q=>q⟩
 rcases hD with⟨rfl,rfl⟩|⟨d0,rfl,h2,hne⟩
 ·exact⟨F1,r2,Same.refl _,sH,.inl ⟨rfl,rfl⟩,Ę.sub.free hx⟩
 ·have n0:H1 d0=none:=by
   have:=hd d0 rfl
   rw[ğ hne] at this
   exact this
  refine⟨upd F1 d0 (.xd fs),r2.freeze h2 (Ę.base.free n0) (Ę.sub.free n0) (Ę.fresh n0),Same.upd (Ę.sub.free n0),sH,.inr ⟨d0,rfl,ī⟩,?_⟩
  rw[ğ (Ne.symm hne)]
  exact Ę.sub.free hx
def SQ(C:String):M PV:=fun ρ=>.ok (.xc C [] []) ρ
end
section
variable{M:Model}{A:Around}{E:Value→Shared→Prop}{s:Shared}{K:PySem.W.Frag}{env:Env}
theorem SX{x:Sem Value}{Q:Flow→Shared→Prop}(hh:A.handled=none)
 (h:wpAny M A x (fun v s₁=>∃e C oe vs oC,v=.ref e∧K.In s₁.heap∧s₁.heap.get? C=some oC∧oC.cls=.type "type" ∧PySem.W.mroIn K C (.type "BaseException")=some true∧s₁.heap.get? e=some oe∧oe.cls=.ref C∧oe.data=.fields vs∧vs[1]?=some .none∧E (.ref e) s₁) E s) :
 wpAny M A (raiseStmt env (some x) none) Q E s:=by
 unfold raiseStmt
 refine wpAny_bind (wpAny_mono h (fun v s₁ h₁=>?_) fun _ _ x=>x)
 obtain⟨e,C,oe,vs,oC,rfl,KX,hC,hCt,hm,he,hc,hd,h1,hE⟩:=h₁
 have L4:=PySem.W.looks_mroIn (M:=M) KX hm
 obtain⟨hp,g,d,tk,os⟩:=s₁
 obtain⟨ocls,odict,odata,osl⟩:=oe
 dsimp only at hc hd
 subst hc hd
 repeat (first|with_reducible refine wpAny_loadPart_at he ?_|(with_reducible refine wpAny_loadPart_at hC ?_;rw[hCt])|with_reducible refine PySem.W.Looks.at L4 ?_|with_reducible refine wpAny_field he rfl h1 ?_|wp_step)
 exact wpAny_raiseNew_none hh hE
end
section
variable{X:Cx}{cm:String→Addr}{E:L2.St→XK}{e:Expr}{es:List Expr}{pos cpos np:Pos}{CX:pO}{k n:Nat}{f:Addr}{fd:FuncData}{ps:List Str}{C:String}{fl:List (Str×Nat)}{ms:M (List PV)}{x:Str}
theorem ť.bindL{K:KK}{c:Ctx}{F H:Hp}{σ:L2.St}{D:Ends}{Q':List V→Hp→Prop}{r:Res (List PV)}{g:List PV→Ŏ→Res Fl}(h:ť K E c F D (r.bind g))
 (k:∀p ρ1 v F1 H1,Rel K c F1 H1 σ ρ1→Same F F1→Same H H1→Ĝ K F1 p v→ť K E c F1 D (g p ρ1)→Q' v H1):bB K E (rL K) c F H σ Q' r:=by
 cases r with
 |bad=>exact h
 |exc x ρ'=>exact fun C d F' H' rel s1 q=>h σ C d F' H' rel s1 q
 |ok p ρ1=>exact fun v F' H' rel s1 s2 q=>k p ρ1 v F' H' rel s1 s2 q (ť.mono h s1)
theorem Ai{c:Ctx}{F1 H1:Hp}{σ:L2.St}{ρ1:Ŏ}{D:Ends}{qs:List PV}{vs:List V}(Ę:Rel (kk X cm) c F1 H1 σ ρ1)(r1:Ĝ (kk X cm) F1 qs vs)
 (h:ť (kk X cm) E c F1 D (if qs.length+1=n∧qs.length<1000∧fl.length<1000 then(match SN fl qs [] [] with|some (ns,qs)=>.exc ⟨C,ns,qs⟩ ρ1|none=>.bad) else .bad)) :
 vs.length≤sizeLine∧∀x,H1 x=none→spX n (cm C) fl (.ref x::vs) (upd H1 x (xn x (cm C) none)) (fun v H2=>v=.non∧∃d',H2 x=some (xn x (cm C) d')∧E σ (.ref (cm C)) d' (rem H2 x)) (E σ):=by
 split at h
 case isFalse=>exact h.elim
 rename_i hz
 cases ex:SN fl qs [] [] with
 |none=>rw[ex] at h;exact h.elim
 |some z=>
  obtain⟨ns,ws⟩:=z
  rw[ex] at h
  refine⟨by rw[←Ĝ.length r1,ō];omega,fun x hx=>?_⟩
  obtain⟨fs,e1,e2,e3⟩:=Im (e:=.ref x) r1 (fs:=[]) ex rfl Ĝ.nil
  refine⟨x,vs,fs,rfl,by rw[←Ĝ.length r1];exact hz.1,ī,hz.2.2,e1,fun H' d' q1 q2 q3 q4=>⟨rfl,d',q1,?_⟩⟩
  have q2':YL (rem H' x) x d' fs:=by
   rcases q2 with q|⟨d0,z1,z2,z3⟩
   ·exact .inl q
   ·exact .inr ⟨d0,z1,by rw[gB z3];exact z2,z3⟩
  obtain⟨F',rl,sF,sH,xd,fx⟩:=ZdG (Ca:=cm C) Ę hx q2' (fun b u hb q=>by rw[gB hb];exact q3 b u hb q) q4
  exact h σ _ _ F' _ rl sF ⟨rfl,fs,xd,e2,Ĝ.same sF _ _ e3⟩
theorem wW(hc:X.calm=true)(hex:X.ex=[])(hrs:ug X E)(M:XMk X.K (cm C) f)(F:į X.prog X.w X.K X.mg X.base CX k f fd ps (spX n (cm C) fl))(hr:bA (k+1) X.A)(hg:Gl X x)(hm:X.mg x=some (.ref (cm C)))(hb:Binds X.K fd ps [])(hx:b_ CX X E)
 (ha:PA X (e::es) (tL (kk X cm) E ms))(hdb:(x== ("__debug__" :Str))=false:=by decide)(he:starEach (e::es) X.env=(false,eval e X.env)::starEach es X.env:=by exact İ rfl)(hpl:(backTo cpos (starEach es X.env)).any (·.1)=false:=by rfl) :
 PS X (.Raise (some (.Call (.Name x np) (e::es) [] cpos)) none pos) (tS (kk X cm) E (mZ C n fl ms)):=by
 intro pins s σ H D I ⟨c,F',ρ,rel,h⟩
 rw[arm_exec_Raise]
 refine wpAny_bind (wpAny_standAt ?_)
 show wpAny _ _ (raiseStmt X.env (some (do let v ←eval (.Call (.Name x np) (e::es) [] cpos) X.env;standAt pos;pure v)) none) _ _ _
 refine SX (K:=X.K) (I.ok.hd hc) (wpAny_bind ?_)
 obtain⟨cd,bm,xc⟩:=gU M.x
 obtain⟨dd,k0,k1,k2,k3,k5,lC⟩:=xc.at_
 refine wpAny_mono (wpAny_Call_Name_kw (jk I hg hm (PySem.W.callWith_K (h₀:= X.base) I.ok.mod.kin M.kp (Ť (ha cpos pins s σ H (fun vs H1=>vs.length≤sizeLine∧∀x,H1 x=none→spX n (cm C) fl (.ref x::vs) (upd H1 x (xn x (cm C) none)) (fun v H2=>v=.non∧∃d',H2 x=some (xn x (cm C) d')∧E σ (.ref (cm C)) d' (rem H2 x)) (E σ)) I
  ⟨c,F',ρ,rel,ť.bindL h fun qs ρ1 vs F1 H1 Ę _ _ r1 h1=>Ai Ę r1 h1⟩) fun us s1 ⟨vs,H1,I1,r,q0,q⟩=>⟨I1.fK,Fd (G:=fun v s₁=>∃e C oe vs oC,v=.ref e∧X.K.In s₁.heap∧s₁.heap.get? C=some oC∧oC.cls=.type "type" ∧PySem.W.mroIn X.K C (.type "BaseException")=some true∧s₁.heap.get? e=some oe∧oe.cls=.ref C∧oe.data=.fields vs∧vs[1]?=some .none∧X.xe (.ref e) s₁)
    M F hr hb hx I1 r (by rw[←Vals.length r];exact q0) q fun y H2 s' _ hnew I3 ⟨d',h1,h2⟩=>?_⟩) he hpl) hdb)) (fun v s3 h3=>wpAny_bind (wpAny_standAt (wpAny_pure h3))) fun _ _ z=>z
 obtain⟨⟨oe,ws,ho,hcl,hdi,hda,hv1⟩,_,_⟩:=(show ū X.prog X.w H2 s'.heap y (xn y (cm C) d') from I3.hok y _ h1)
 refine⟨y,cm C,oe,ws,_,rfl,I3.fK,I3.fK _ _ lC,rfl,xc.mroIs (by decide),ho,hcl,hda,hv1,?_⟩
 exact hrs pins σ (rem H2 y) s' y oe ws (Inv.drop I3 h1) ho hda hv1 wV (Inv.ZdD I1 hex hnew) (by rw[hcl,hdi];exact h2)
end
end P
namespace P
open PySem PySem.Spec PyProof.Rows L2 M2 M3 M4 Builtin Builtin.ObjectAttr
def cP(K:PySem.W.Frag)(C:Addr):Bool:=ź K C && PySem.W.findIn K (.ref C) "__class__" == some (some (.builtin "object.__class__")) && PySem.W.specialIn K (.builtin "object.__class__") "__get__" == some (some (.builtin "getset_descriptor.__get__")) && PySem.W.takesIn K (.builtin "object.__class__")== some true
theorem oh{K:PySem.W.Frag}{C:Addr}(q:cP K C=true):ź K C=true∧PySem.W.findIn K (.ref C) "__class__" =some (some (.builtin "object.__class__"))∧PySem.W.specialIn K (.builtin "object.__class__") "__get__" =some (some (.builtin "getset_descriptor.__get__"))∧PySem.W.takesIn K (.builtin "object.__class__")=some true:=by
 unfold cP at q
 simp only[Bool.and_eq_true,beq_iff_eq] at q
 obtain⟨⟨⟨z1,z2⟩,z3⟩,z4⟩:=q
 exact⟨z1,z2,z3,z4⟩
section
variable{prog:Program}{w:World}{A:Around}{E:Value→Shared→Prop}{s:Shared}{K:PySem.W.Frag}{x C:Addr}{ox:Obj}{od:Option Obj}
theorem S_{R:Result→Shared→Prop}{tk:Tok}(X:K.In s.heap)(I:PySem.W.InstAt s.heap x ox C od)(q:cP K C=true)
 (h:R (.ok (.ret (.ref C))) s):codeAny (model prog w) A (.call (.builtin "BaseException.__getattribute__") ⟨[.ref x,.str "__class__" tk],[]⟩) R s:=by
 obtain⟨q0,q1,q2,q3⟩:=oh q
 obtain⟨cd,bm,c⟩:=gU q0
 have hk:builtinKind "BaseException.__getattribute__" =some .slot:=by decide +kernel
 have hsplit:splitId "BaseException.__getattribute__" =some ("BaseException","__getattribute__"):=by decide +kernel
 have L0:=I.type (M:=model prog w)
 have hf:PySem.W.findObj K C od "__class__" =some (.bind (.builtin "getset_descriptor.__get__") (.builtin "object.__class__")):=by
  unfold PySem.W.findObj
  rw[c.cls,Option.bind_some,q1,Option.bind_some]
  simp[q2,q3]
 have L3:=PySem.W.looks_find (M:=model prog w) X I hf
 have hsub:PySem.W.Looks (model prog w) s.heap (isInstance (.ref x) (.type "BaseException")) true:=L0.andThen (PySem.W.looks_mroIn X (c.mroIs (by decide)))
 refine codeAny_call_builtin PySem.F.attrBase_ValueError.ga.plain PySem.F.entry_bexc_ga (@PySem.W.check_slot (model prog w) _ _ s "BaseException.__getattribute__" "BaseException" "__getattribute__" (.ref x) [.str "__class__" tk] [] _ hk hsplit hsub (PySem.F.args_bexc_ga (.ref x) (.str "__class__" tk)) ?_)
 unfold Builtin.«object.__getattribute__»
 refine wpAny_bind (wpAny_pure (wpAny_bind (wpAny_pure (wpAny_bind (L0.here (wpAny_bind (L3.here ?_)))))))
 refine wpAny_bind (wpAny_holding (wpAny_call (PySem.W.class_get X I (c.mroIs (by decide)) ?_)))
 exact wpAny_pure h
theorem Io{Q:Option Value→Shared→Prop}(X:K.In s.heap)(I:PySem.W.InstAt s.heap x ox C od)(q:cP K C=true)
 (h:Q (some (.ref C)) {s with toks:=s.toks+1}):wpAny (model prog w) A (getAttr? (.ref x) "__class__") Q E s:=by
 obtain⟨q0,q1,q2,q3⟩:=oh q
 obtain⟨cd,bm,c⟩:=gU q0
 have FB:=PySem.F.attrBase_ValueError
 obtain⟨hp,g,d,t,os⟩:=s
 have L0:=I.type (M:=model prog w)
 have L1:=PySem.W.looks_findIn (M:=model prog w) X c.ga
 have L2:=PySem.W.looks_findIn (M:=model prog w) X c.gg
 unfold getAttr? getAttrBy? getAttrBy
 refine wpAny_bind (wpAny_mkText (wpAny_bind (wpAny_attempt (wpAny_holding (wpAny_bind (L0.at (wpAny_bind (L1.at ?_))))))))
 show wpAny _ _ (getAttrByItsOwn _ _ _ _ _ _) _ _ _
 have f3:=FB.ga.bind (.ref x)
 unfold getAttrByItsOwn hookBefore callGetattribute
 refine wpAny_bind (L2.at ?_)
 refine wpAny_bind (wpAny_attempt (wpAny_holding ?_))
 rw[if_neg (by decide)]
 unfold boundAndCalled
 rw[f3]
 refine wpAny_bind (wpAny_pure (wpAny_call ?_))
 exact S_ (s:=⟨hp,g,d,t+1,os⟩) X I q (show wpAny _ _ (handedOut (.ref C)) _ _ _ by rw[PySem.W.handedOut_of rfl];exact wpAny_pure (wpAny_pure h))
end
theorem Ip{K:PySem.W.Frag}{x D:Addr}(q:cP K D=true):PySem.W.KitX K (.ref x) (.ref D) (fun h=>∃ox od,PySem.W.InstAt h x ox D od):=by
 obtain⟨q0,q1,q2,q3⟩:=oh q
 obtain⟨cd,bm,c⟩:=gU q0
 obtain⟨dd,k0,k1,k2,k3,k5,lC⟩:=c.at_
 refine⟨fun _ _ _ ⟨ox,od,I⟩=>I.type,fun _ _ X _=>?_,fun h tp dd its n sl X htp=>?_,fun X ⟨ox,od,I⟩ k=>Io X I q k⟩
 ·intro A' Q' E' s' k q
  unfold isType loadHead
  exact wpAny_bind (wpAny_loadPart (k _ _ (X _ _ lC)) (wpAny_pure q))
 ·refine Bool.eq_false_iff.mpr fun q=>?_
  have e:D=tp:=Value.ref.inj (beq_iff_eq.mp q)
  subst e
  have z:=congrArg Obj.cls (Option.some.inj ((X _ _ lC).symm.trans htp))
  exact absurd (Value.type.inj z) (by decide)
section
variable{X:Cx}{cm:String→Addr}{K:KK}
def Uz(K:PySem.W.Frag):List V→Hp→VK→Prop:=fun xs H Q=>Dt K xs H Q∨∃a C d fs c cv b,xs=[.ref a,c]∧RelV c cv∧(∀u,RelV c u→u=cv)∧H a=some (xo a C d)∧nF H d fs∧cP K C=true∧PySem.W.kitOne K (.ref C) cv=some b∧Q (.bl b) H
theorem gW:Š X (.builtin "isinstance") (Uz X.K):=by
 intro pins s σ H xs us Q I r h
 rcases h with h|⟨a,C,d,fs,c,cv,b,rfl,rc,uq,ha,hD,q,hk,hQ⟩
 ·exact YB pins s σ H xs us Q I r h
 ·obtain⟨u,w',rfl,r1,r2⟩:=vals2 r
  cases(show u=Value.ref a from r1)
  rw[uq w' r2]
  obtain⟨⟨o,ws,ho,hcl,hdi,hda⟩,_,_⟩:=(show ū X.prog X.w H s.heap a (xo a C d) from I.hok a _ ha)
  obtain⟨ocls,odict,odata,osl⟩:=o
  dsimp only at hcl hdi hda
  subst hcl hdi hda
  have J:∃ox od,PySem.W.InstAt s.heap a ox C od:=by
   rcases hD with⟨rfl,_⟩|⟨d0,rfl,z⟩
   ·exact⟨_,none,ho,rfl,rfl,trivial⟩
   ·obtain⟨od,z'⟩:=wL (I.hok d0 _ z)
    exact⟨_,some od,ho,rfl,rfl,z'⟩
  exact PySem.W.kia_one (Ip q) I.fK J hk (fun z=>nomatch z) fun tk=>⟨.bl b,H,I.tok _,rfl,hQ⟩
def ur(Q:String→String→Bool→Prop):List ((String×String)×Bool)→Prop
 | []=>True
 |((c,d),b)::r=>Q c d b∧ur Q r
theorem ur.get{Q:String→String→Bool→Prop}:∀{t:List ((String×String)×Bool)} {c d:String} {b:Bool},ur Q t→t.lookup (c,d)=some b→Q c d b
 | [],_,_,_,_,h=>by simp at h
 |((c',d'),b')::r,c,d,b,⟨h1,h2⟩,h=>by
  rw[List.lookup_cons] at h
  cases e:(c,d)== (c',d') with
  |true=>
   rw[e] at h
   cases h
   obtain⟨rfl,rfl⟩:=Prod.mk.inj (beq_iff_eq.mp e)
   exact h1
  |false=>
   rw[e] at h
   exact h2.get h
def cQ(tc tt:List ((String×String)×Bool))(ds nt:List String):List PV→Option PV
 | [.xc C _ _,.cls D]=>(tc.lookup (C,D)).map .bl
 | [.xc C _ _,.ty D]=>(tt.lookup (C,D)).map .bl
 | [.non,.cls D]=>if ds.contains D=true then some (.bl false) else none
 | [.non,.ty D]=>if nt.contains D=true then some (.bl false) else HN [.non,.ty D]
 |ps=>HN ps
theorem gY{tc tt:List ((String×String)×Bool)}{ds nt:List String}(hc:ur (fun C D b=>cP K.K (K.cm C)=true∧PySem.W.kitOne K.K (.ref (K.cm C)) (.ref (K.cm D))=some b) tc)
 (ht:ur (fun C D b=>cP K.K (K.cm C)=true∧PySem.W.kitOne K.K (.ref (K.cm C)) (.type D)=some b) tt)(hd:nY (fun D=>PySem.W.kitOne K.K (.type "NoneType") (.ref (K.cm D))=some false) ds)
 (hn:nY (fun D=>PySem.W.kitOne K.K (.type "NoneType") (.type D)=some false) nt):dB K (Uz K.K) (cQ tc tt ds nt):=by
 intro c F H σ ρ ps pv vs Q rel r e k
 unfold cQ at e
 split at e
 ·rename_i C ns qs D
  obtain⟨v,u,rfl,r1,r2⟩:=Yy r
  cases eb:tc.lookup (C,D) with
  |none=>rw[eb] at e;cases e
  |some b=>
   rw[eb] at e
   cases e
   obtain⟨k1,k2⟩:=hc.get eb
   have r1':Rep K F (.xc C ns qs) v:=by rcases r1 with q|q;exact q;exact q.elim
   have r2':Rep K F (.cls D) u:=by rcases r2 with q|q;exact q;exact q.elim
   unfold Rep at r1' r2'
   obtain⟨a,d,fs,rfl,q2,q3,q4,q5⟩:=r1'
   subst r2'
   exact .inr ⟨a,_,d,fs,_,.ref (K.cm D),b,rfl,rfl,fun u z=>z,rel.sub _ _ q2,q3.same rel.sub,k1,k2,k _ F H rel (Same.refl _) (Same.refl _) Rep.bl⟩
 ·rename_i C ns qs D
  obtain⟨v,u,rfl,r1,r2⟩:=Yy r
  cases eb:tt.lookup (C,D) with
  |none=>rw[eb] at e;cases e
  |some b=>
   rw[eb] at e
   cases e
   obtain⟨k1,k2⟩:=ht.get eb
   have r1':Rep K F (.xc C ns qs) v:=by rcases r1 with q|q;exact q;exact q.elim
   have r2':Rep K F (.ty D) u:=by rcases r2 with q|q;exact q;exact q.elim
   unfold Rep at r1' r2'
   obtain⟨a,d,fs,rfl,q2,q3,q4,q5⟩:=r1'
   subst r2'
   exact .inr ⟨a,_,d,fs,_,.type D,b,rfl,rfl,fun u z=>z,rel.sub _ _ q2,q3.same rel.sub,k1,k2,k _ F H rel (Same.refl _) (Same.refl _) Rep.bl⟩
 ·rename_i D
  obtain⟨v,u,rfl,r1,r2⟩:=Yy r
  split at e
  ·rename_i hD
   cases e
   cases r1.non
   have r2':Rep K F (.cls D) u:=by rcases r2 with q|q;exact q;exact q.elim
   unfold Rep at r2'
   subst r2'
   exact .inl ⟨_,false,rfl,hd.get hD,k _ F H rel (Same.refl _) (Same.refl _) Rep.bl⟩
  ·cases e
 ·rename_i D
  split at e
  ·rename_i hD
   obtain⟨v,u,rfl,r1,r2⟩:=Yy r
   cases e
   cases r1.non
   cases r2.ty
   exact .inl ⟨_,false,rfl,hn.get hD,k _ F H rel (Same.refl _) (Same.refl _) Rep.bl⟩
  ·exact .inl (HS rel r e k)
 ·exact .inl (HS rel r e k)
end
def isC(K:PySem.W.Frag)(cm:String→Addr):List ((String×String)×Bool)→Bool
 | []=>true
 |((c,d),b)::r=>cP K (cm c) && PySem.W.kitOne K (.ref (cm c)) (.ref (cm d))== some b && isC K cm r
theorem Ir{K:PySem.W.Frag}{cm:String→Addr}:∀{t:List ((String×String)×Bool)},isC K cm t=true→ur (fun C D b=>cP K (cm C)=true∧PySem.W.kitOne K (.ref (cm C)) (.ref (cm D))=some b) t
 | [],_=>trivial
 |((c,d),b)::r,h=>by
  unfold isC at h
  rw[Bool.and_eq_true,Bool.and_eq_true] at h
  exact⟨⟨h.1.1,beq_iff_eq.mp h.1.2⟩,Ir h.2⟩
def isT(K:PySem.W.Frag)(cm:String→Addr):List ((String×String)×Bool)→Bool
 | []=>true
 |((c,d),b)::r=>cP K (cm c) && PySem.W.kitOne K (.ref (cm c)) (.type d)== some b && isT K cm r
theorem Iu{K:PySem.W.Frag}{cm:String→Addr}:∀{t:List ((String×String)×Bool)},isT K cm t=true→ur (fun C D b=>cP K (cm C)=true∧PySem.W.kitOne K (.ref (cm C)) (.type D)=some b) t
 | [],_=>trivial
 |((c,d),b)::r,h=>by
  unfold isT at h
  rw[Bool.and_eq_true,Bool.and_eq_true] at h
  exact⟨⟨h.1.1,beq_iff_eq.mp h.1.2⟩,Iu h.2⟩
def isD(K:PySem.W.Frag)(cm:String→Addr):List String→Bool
 | []=>true
 |d::r=>PySem.W.kitOne K (.type "NoneType") (.ref (cm d))== some false && isD K cm r
theorem Iv{K:PySem.W.Frag}{cm:String→Addr}:∀{t:List String},isD K cm t=true→nY (fun D=>PySem.W.kitOne K (.type "NoneType") (.ref (cm D))=some false) t
 | [],_=>trivial
 |d::r,h=>by
  unfold isD at h
  rw[Bool.and_eq_true] at h
  exact⟨beq_iff_eq.mp h.1,Iv h.2⟩
def Tc(K:PySem.W.Frag):List String→Bool
 | []=>true
 |d::r=>PySem.W.kitOne K (.type "NoneType") (.type d)== some false && Tc K r
theorem Dz{K:PySem.W.Frag}:∀{t:List String},Tc K t=true→nY (fun D=>PySem.W.kitOne K (.type "NoneType") (.type D)=some false) t
 | [],_=>trivial
 |d::r,h=>by
  unfold Tc at h
  rw[Bool.and_eq_true] at h
  exact⟨beq_iff_eq.mp h.1,Dz h.2⟩
def DG(K:PySem.W.Frag)(C f:Addr):Bool:=ź K C && PySem.W.keepIn K (.ref C) && PySem.W.findIn K (.ref C) "__init__" == some (some (.ref f)) && PySem.W.typeIn K (.ref f)== some (.type "function")
theorem Iw{K:PySem.W.Frag}{C f:Addr}(h:DG K C f=true):XMk K C f:=by
 unfold DG at h
 simp only[Bool.and_eq_true,beq_iff_eq] at h
 exact⟨h.1.1.1,h.1.1.2,h.1.2,h.2⟩
theorem Fe{l:PySem.W.OpenLaw}{k:Nat}{x:Str}{m:MF}{q:Program}{loose:List Str}{XP:(Str→Option Value)→Heap→Prop}{YP:World→Heap→Prop}{d:DefRec}{K:Params→PySem.W.Frag}(hn:l.most=some 63)(hdf:d.params.defaults=[])(hr:bA k callerA)
 (hY:∀(w:World) (h:Heap),YP w h→(K w.params).In h)
 (F:∀(w:World) (mg:Str→Option Value) (fa:Addr) (h:Heap),(K w.params).In h→h.Ns mainGlobals mg→mg d.name=some (.ref fa)→
   ∃fd:FuncData,(∀(s:Shared) (u:Value),BindsTo s fd ⟨[u],[]⟩ [(x,u)])∧∀base:Heap,(K w.params).In base→base.Ns mainGlobals mg→∃cm,į l.prog w (K w.params) mg base (ũ l.prog w) k fa fd [x] (ŵ ⟨K w.params,cm⟩ 1 m))
 (ht:∀ns:List Int,ns.length≤63→m [.sh (.lst (ns.map .int))]=.ret (.sh (.bl true))) :
 PySem.W.WalkO q loose XP YP l.row.toRowW d [] (fun f vs=>PySem.call f vs):=by
 refine L2.Ri (n:=63) (k:=k) (x:=x) (CX:=fun w=>ũ l.prog w) (sp:=fun w=>Zdr (K w.params)) hn (by decide) hdf hr hY (fun w mg fa h h1 h2 h3=>?_) (fun w H a ns hl _ hS=>⟨a,ns,rfl,hS,hl,fun _ _ z=>z⟩) fun w H s e s' z=>qN z
 obtain⟨fd,hb,hF⟩:=F w mg fa h h1 h2 h3
 refine⟨fd,hb,fun base k1 k2=>?_⟩
 obtain⟨cm,G⟩:=hF base k1 k2
 refine G.imp fun vs H Q E hs=>?_
 obtain⟨sa,ns,rfl,hS,hl,hq⟩:=hs
 refine⟨H,[.sh (.lst (ns.map .int))],rfl,Same.refl _,.cons ?_ .nil,?_⟩
 ·show Rep _ _ _ _
  unfold Rep
  exact⟨sa,_,rfl,hS,wI ns⟩
 ·rw[ht ns hl]
  intro v F' H' g rf
  have e:v=.bl true:=tX (K:=⟨K w.params,cm⟩) (F:=F') rf
  exact hq v H' e
section
variable{ρ:Ŏ}{C:String}{n i:Nat}{fl:List (Str×Nat)}{ms:M (List PV)}{mb mh:M Fl}{mr:MH}{yes no:List String}{x:PX}
@[simp] theorem ZdH:uh C ρ=.exc ⟨C,[],[]⟩ ρ:= rfl
@[simp] theorem ZcI:SQ C ρ=.ok (.xc C [] []) ρ:= rfl
@[simp] theorem ZdI:YQ C n fl ms ρ=(ms ρ).bind fun ps ρ1=>if ps.length+1=n∧ps.length<1000∧fl.length<1000 then(match SN fl ps [] [] with
  |some (ns,qs)=>.ok (.xc C ns qs) ρ1
  |none=>.bad) else .bad:=rfl
@[simp] theorem ZcJ:mZ C n fl ms ρ=(ms ρ).bind fun ps ρ1=>if ps.length+1=n∧ps.length<1000∧fl.length<1000 then(match SN fl ps [] [] with
  |some (ns,qs)=>.exc ⟨C,ns,qs⟩ ρ1
  |none=>.bad) else .bad:=rfl
@[simp] theorem ZlE:ZlB mb mr ρ=(match mb ρ with
  | .exc x ρ1=>mr x ρ1
  |r=>r):=rfl
@[simp] theorem ZlF:SJ i yes no mh mr x ρ=(if yes.contains x.C=true then(match mh (ρ.set i (.sh (.xc x.C x.ns x.ps))) with
  | .ok f ρ2=>.ok f (ρ2.set i .no)
  |_=>.bad) else if no.contains x.C=true then mr x ρ else .bad):=rfl
end
end P
namespace P
open PySem PySem.Spec PyProof.Rows L2 M2 M3 M4
section
variable{X:Cx}{cm:String→Addr}{E:L2.St→XK}{y:Str}{Dn:String}{yp hpos:Pos}{b₀:Stmt}{suite:List Stmt}{rest:List ExceptHandler}{yes no:List String}{mh:M Fl}{mr:MH}
@[simp] theorem ZlG{ρ:Ŏ}{x:PX}:ZdE yes no mh mr x ρ=(if yes.contains x.C=true then(match mh ρ with
  | .ok f ρ2=>.ok f ρ2
  |_=>.bad) else if no.contains x.C=true then mr x ρ else .bad):=rfl
end
end P
namespace P
open PySem PySem.Spec PyProof.Rows L2 M2 M3 M4
section
variable{X:Cx}{cm:String→Addr}{K:KK}
def UG:List V→Hp→VK→Prop:=fun xs H Q=>(∃i,xs=[.int i]∧Q (.int i) H)∨∃k,xs=[.bl k]∧Q (.int (if k then 1 else 0)) H
theorem YT:Š X (.type "int") UG:=Ep
def Iz:List PV→Option PV
 | [.int i]=>some (.int i)
 | [.bl k]=>some (.int (if k then 1 else 0))
 |_=>none
theorem YW:dB K UG Iz:=by
 intro c F H σ ρ ps pv vs Q rel r e k
 unfold Iz at e
 split at e
 ·cases e
  obtain⟨v,rfl,r1⟩:=Ae r
  cases r1.int
  exact .inl ⟨_,rfl,k _ F H rel (Same.refl _) (Same.refl _) Rep.int⟩
 ·cases e
  obtain⟨v,rfl,r1⟩:=Ae r
  cases r1.bl
  exact .inr ⟨_,rfl,k _ F H rel (Same.refl _) (Same.refl _) Rep.int⟩
 ·cases e
def ZlH:List PV→Option PV
 | [.int i]=>if i.natAbs.log2<1920 then some (.str (toString i)) else none
 |_=>none
def ZlI:List PV→Option PV
 | [.str x]=>if x.length=1 then some (.int (x.cps.getD 0 0:Nat)) else none
 |_=>none
theorem aL:∀{ns:List Int} {its:List Value},Vals (ns.map V.int) its→IntsAre its ns
 | [],its,h=>by cases h;exact .nil
 |n::ns,its,h=>by
  cases h with
  |cons r t=>
   obtain⟨k,e⟩:=(show ∃k,_=Value.int n k from r)
   subst e
   exact .cons n k (aL t)
def ZdJ(K:PySem.W.Frag):List V→Hp→VK→Prop:=fun xs H Q=>∃(p:Addr) (ns:List Int),xs=[.ref p]∧aC K H p (ns.map V.int)∧Q (.int ns.sum) H
theorem IK(hc:X.calm=true):Š X (.builtin "sum") (ZdJ X.K):=by
 intro pins s σ H xs us Q I r h
 obtain⟨p,ns,rfl,hS,q⟩:=h
 obtain⟨u,rfl,ru⟩:=vals1 r
 cases ru
 obtain⟨its,rv,pl,hz⟩:=I.list hS
 have hi:=aL rv
 obtain⟨ys,e⟩:=hi.allInts.items
 have hns:ns=ys.toList.map (·.1):=by rw[←hi.numsOf,←nums_intItems,←e]
 have hl:=pl.isList
 rw[e] at hl
 refine sum_intListG (show X.A.handled=none from I.ok.hd hc) hl fun h' tk t' hk=>?_
 refine⟨.int ns.sum,H,I.kept hk,⟨t',?_⟩,q⟩
 rw[preSum_eq,List.take_of_length_le (by simp),←hns]
section
variable{prog:Program}{w:World}{A:Around}{E:Value→Shared→Prop}{s:Shared}{l:Addr}{xs:Array (Int×Tok)}
theorem wX{Q:Value→Shared→Prop}(hl:s.heap.IsTuple l (intItems xs))
 (h:∀s₂:Shared,s₂= {s with heap:=s.heap.push {cls:=.type "tuple_iterator",data:=.fields #[.ref l,.int 0 0]}}→
   (s₂.heap.IsTupleIter s.heap.objs.size l 0∧s₂.heap.IsTuple l (intItems xs))→(∀b∈[s.heap.objs.size,l],b<s₂.heap.objs.size)→l≠s.heap.objs.size→(∀h':Heap,(∀b o,b∉[s.heap.objs.size]→s₂.heap.get? b=some o→h'.get? b=some o)→∀b o,s.heap.get? b=some o→h'.get? b=some o)→Q (.ref s.heap.objs.size) s₂) :
 wpAny (model prog w) A (pyIter (.ref l)) Q E s:=by
 have hlt:l<s.heap.objs.size:=by obtain⟨_,e,_⟩:=hl;exact Heap.lt_size e
 refine wpAny_pyIter_tuple hl (h _ rfl ⟨⟨_,Heap.get?_push_size _ rfl,rfl,rfl⟩,hl.push _⟩ (fun b hb=>?_) (Nat.ne_of_lt hlt) fun h' hk b o e=>?_)
 ·show b<(s.heap.push _).objs.size
  rw[Heap.size_push]
  rcases List.mem_cons.mp hb with rfl|hb
  ·exact Nat.lt_succ_self _
  ·rcases List.mem_cons.mp hb with rfl|hb
   ·exact Nat.lt_succ_of_lt hlt
   ·cases hb
 ·refine hk b o (fun hm=>?_) (Heap.get?_push_of_some _ e)
  rcases List.mem_cons.mp hm with e1|hm
  ·exact absurd (e1▸Heap.lt_size e) (Nat.lt_irrefl _)
  ·cases hm
theorem Aj{Q:Value→Shared→Prop}(hh:A.handled=none)(hl:s.heap.IsTuple l (intItems xs))(hne:0<xs.size)
 (h:∀v h' tk,(intItems xs)[argBest (fun i j=>decide (numAt xs i>numAt xs j)) (xs.size-1)]?=some v→(∀b o,s.heap.get? b=some o→h'.get? b=some o)→Q v {s with heap:=h',toks:=tk}) :
 wpAny (model prog w) A (call (.builtin "max") [.ref l]) Q E s:=by
 refine call_max_walk (wX hl fun s₂ e st hfp hlI hk0=>?_)
 subst e
 refine⟨_,_,_,_,_,_,_,rfl,Walks.tuple (A:=A.in1) hh _ l hlI (intItems xs),st,hfp,by simpa[intItems] using hne,CmpOf.ints_gt (numAt xs) (fun _ _=>intItems_at),fun v h' tk hP hk=>?_⟩
 exact h v h' tk (by simpa[intItems] using hP) (hk0 h' hk)
end
def ZdK(K:PySem.W.Frag):List V→Hp→VK→Prop:=fun xs H Q=>∃(p:Addr) (ns:List Int),xs=[.ref p]∧(aC K H p (ns.map V.int)∨cY K H p (ns.map V.int))∧0<ns.length∧∀M,M∈ns→(∀a∈ns,a≤M)→Q (.int M) H
theorem Ak(hc:X.calm=true):Š X (.builtin "max") (ZdK X.K):=by
 intro pins s σ H xs us Q I r h
 obtain⟨p,ns,rfl,hS,hne,q⟩:=h
 obtain⟨u,rfl,ru⟩:=vals1 r
 cases ru
 have fin:∀(ys:Array (Int×Tok)),ns=ys.toList.map (·.1)→0<ys.size→∀v h' tk,(intItems ys)[argBest (fun i j=>decide (numAt ys i>numAt ys j)) (ys.size-1)]?=some v→(∀b o,s.heap.get? b=some o→h'.get? b=some o)→EP X pins σ Q v {s with heap:=h',toks:=tk}:=by
  intro ys hns hsz v h' tk hv hk
  obtain⟨t,rfl⟩:=intItems_at hv
  obtain⟨h1,h2⟩:=argBest_gt (numAt ys) (ys.size-1)
  refine⟨.int _,H,I.kept hk,⟨t,rfl⟩,q _ ?_ fun a ha=>?_⟩
  ·rw[hns,numAt_eq]
   have hj:argBest (fun i j=>decide (numAt ys i>numAt ys j)) (ys.size-1)<(ys.toList.map (·.1)).length:=by rw[List.length_map,Array.length_toList];omega
   rw[List.getD_eq_getElem?_getD,List.getElem?_eq_getElem hj]
   exact List.getElem_mem _
  ·rw[hns] at ha
   obtain⟨j,hj,rfl⟩:=List.mem_iff_getElem.mp ha
   rw[List.length_map,Array.length_toList] at hj
   have:=h2 j (by omega)
   rw[numAt_eq ys j,List.getD_eq_getElem?_getD,List.getElem?_eq_getElem (by rw[List.length_map,Array.length_toList];exact hj)] at this
   exact this
 rcases hS with hS|hS
 ·obtain⟨its,rv,pl,hz⟩:=I.list hS
  have hi:=aL rv
  obtain⟨ys,e⟩:=hi.allInts.items
  have hns:ns=ys.toList.map (·.1):=by rw[←hi.numsOf,←nums_intItems,←e]
  have hl:=pl.isList
  rw[e] at hl
  have hsz:0<ys.size:=by rw[hns,List.length_map,Array.length_toList] at hne;exact hne
  exact max_intList (show X.A.handled=none from I.ok.hd hc) hl hsz (fin ys hns hsz)
 ·obtain⟨its,rv,pl,hz⟩:=I.tuple hS
  have hi:=aL rv
  obtain⟨ys,e⟩:=hi.allInts.items
  have hns:ns=ys.toList.map (·.1):=by rw[←hi.numsOf,←nums_intItems,←e]
  have hl:s.heap.IsTuple p its.toArray:=pl
  rw[e] at hl
  have hsz:0<ys.size:=by rw[hns,List.length_map,Array.length_toList] at hne;exact hne
  exact Aj (show X.A.handled=none from I.ok.hd hc) hl hsz (fin ys hns hsz)
def ZdL(K:PySem.W.Frag):List V→Hp→VK→Prop:=fun xs H Q=>∃(p:Addr) (ns:List Int),xs=[.ref p]∧aC K H p (ns.map V.int)∧0<ns.length∧∀M,M∈ns→(∀a∈ns,M≤a)→Q (.int M) H
theorem IV(hc:X.calm=true):Š X (.builtin "min") (ZdL X.K):=by
 intro pins s σ H xs us Q I r h
 obtain⟨p,ns,rfl,hS,hne,q⟩:=h
 obtain⟨u,rfl,ru⟩:=vals1 r
 cases ru
 obtain⟨its,rv,pl,hz⟩:=I.list hS
 have hi:=aL rv
 obtain⟨ys,e⟩:=hi.allInts.items
 have hns:ns=ys.toList.map (·.1):=by rw[←hi.numsOf,←nums_intItems,←e]
 have hl:=pl.isList
 rw[e] at hl
 have hsz:0<ys.size:=by rw[hns,List.length_map,Array.length_toList] at hne;exact hne
 refine min_intList (show X.A.handled=none from I.ok.hd hc) hl hsz fun v h' tk hv hk=>?_
 obtain⟨t,rfl⟩:=intItems_at hv
 obtain⟨h1,h2⟩:=argBest_lt (numAt ys) (ys.size-1)
 refine⟨.int _,H,I.kept hk,⟨t,rfl⟩,q _ ?_ fun a ha=>?_⟩
 ·rw[hns,numAt_eq]
  have hj:argBest (fun i j=>decide (numAt ys i<numAt ys j)) (ys.size-1)<(ys.toList.map (·.1)).length:=by rw[List.length_map,Array.length_toList];omega
  rw[List.getD_eq_getElem?_getD,List.getElem?_eq_getElem hj]
  exact List.getElem_mem _
 ·rw[hns] at ha
  obtain⟨j,hj,rfl⟩:=List.mem_iff_getElem.mp ha
  rw[List.length_map,Array.length_toList] at hj
  have:=h2 j (by omega)
  rw[numAt_eq ys j,List.getD_eq_getElem?_getD,List.getElem?_eq_getElem (by rw[List.length_map,Array.length_toList];exact hj)] at this
  exact this
def intsOf:List PV→Option (List Int)
 | []=>some []
 | .int b::ps=>(intsOf ps).map (b:: ·)
 |_::_=>none
@[simp] theorem jc:∀ns:List Int,intsOf (ns.map PV.int)=some ns
  | []=>rfl
  |n::ns=>by rw[List.map_cons,intsOf,jc ns];rfl
theorem ints_rep{F:Hp}:∀{ps:List PV} {vs:List V} {bs:List Int},Ĝ K F ps vs→intsOf ps=some bs→vs=bs.map V.int
 | [],vs,bs,r,h=>by
   cases h
   cases r.pr
   rfl
 |p::ps,vs,bs,r,h=>by
  cases r.pr with
  |cons r1 t=>
   cases p with
   |int b=>
    unfold intsOf at h
    obtain⟨cs,e,rfl⟩:=Option.map_eq_some_iff.mp h
    rw[ints_rep (Ĝ.of t) e,show _=V.int b from r1]
    rfl
   |_=>cases h
def best(f:Int→Int→Int):List Int→Option Int
 | []=>none
 |n::ns=>some (ns.foldl f n)
theorem foldl_max:∀(ns:List Int) (n:Int),ns.foldl max n∈n::ns∧∀a∈n::ns,a≤ns.foldl max n
 | [],n=>by simp
 |m::ns,n=>by
  obtain⟨h1,h2⟩:=foldl_max ns (max n m)
  rw[List.foldl_cons]
  refine⟨?_,fun a ha=>?_⟩
  ·rcases List.mem_cons.mp h1 with e|e
   ·rw[e]
    by_cases h:n≤m
    ·rw[Int.max_eq_right h];simp
    ·rw[Int.max_eq_left (by omega)];simp
   ·simp[e]
  ·have hm:=h2 (max n m) List.mem_cons_self
   rcases List.mem_cons.mp ha with rfl|ha
   ·omega
   ·rcases List.mem_cons.mp ha with rfl|ha
    ·omega
    ·exact h2 a (List.mem_cons_of_mem _ ha)
theorem foldl_min:∀(ns:List Int) (n:Int),ns.foldl min n∈n::ns∧∀a∈n::ns,ns.foldl min n≤a
 | [],n=>by simp
 |m::ns,n=>by
  obtain⟨h1,h2⟩:=foldl_min ns (min n m)
  rw[List.foldl_cons]
  refine⟨?_,fun a ha=>?_⟩
  ·rcases List.mem_cons.mp h1 with e|e
   ·rw[e]
    by_cases h:n≤m
    ·rw[Int.min_eq_left h];simp
    ·rw[Int.min_eq_right (by omega)];simp
   ·simp[e]
  ·have hm:=h2 (min n m) List.mem_cons_self
   rcases List.mem_cons.mp ha with rfl|ha
   ·omega
   ·rcases List.mem_cons.mp ha with rfl|ha
    ·omega
    ·exact h2 a (List.mem_cons_of_mem _ ha)
def Al:List PV→Option PV
 | [.lst ps]=>(intsOf ps).map fun ns=>.int ns.sum
 |_=>none
def iI:List PV→Option PV
 | [.lst ps]=>((intsOf ps).bind (best max)).map .int
 | [.tup ps]=>((intsOf ps).bind (best max)).map .int
 |_=>none
def qP:List PV→Option PV
 | [.lst ps]=>((intsOf ps).bind (best min)).map .int
 |_=>none
theorem IW:dB K (ZdJ K.K) Al:=by
 intro c F H σ ρ ps pv vs Q rel r e k
 unfold Al at e
 split at e
 ·rename_i ps
  obtain⟨v,rfl,r1⟩:=Ae r
  obtain⟨a,xs,rfl,h1,h2⟩:=r1.lst rel.sub
  obtain⟨ns,eb,rfl⟩:=Option.map_eq_some_iff.mp e
  exact⟨a,ns,rfl,by rw[←ints_rep h2 eb];exact h1,k _ F H rel (Same.refl _) (Same.refl _) Rep.int⟩
 ·cases e
theorem Am:dB K (ZdK K.K) iI:=by
 intro c F H σ ρ ps pv vs Q rel r e k
 have fin:∀(ps:List PV) (xs:List V),Ĝ K F ps xs→((intsOf ps).bind (best max)).map PV.int=some pv→∃ns:List Int,xs=ns.map V.int∧0<ns.length∧∀M,M∈ns→(∀a∈ns,a≤M)→Q (.int M) H:=by
  intro ps xs h2 e
  obtain⟨m,em,rfl⟩:=Option.map_eq_some_iff.mp e
  obtain⟨ns,eb,hb⟩:=Option.bind_eq_some_iff.mp em
  cases ns with
  |nil=>cases hb
  |cons n ns=>
   cases hb
   obtain⟨z1,z2⟩:=foldl_max ns n
   refine⟨n::ns,ints_rep h2 eb,by simp,fun M m1 m2=>?_⟩
   have:M=ns.foldl max n:=Int.le_antisymm (z2 M m1) (m2 _ z1)
   rw[this]
   exact k _ F H rel (Same.refl _) (Same.refl _) Rep.int
 unfold iI at e
 split at e
 ·rename_i ps
  obtain⟨v,rfl,r1⟩:=Ae r
  obtain⟨a,xs,rfl,h1,h2⟩:=r1.lst rel.sub
  obtain⟨ns,rfl,hl,hq⟩:=fin ps xs h2 e
  exact⟨a,ns,rfl,.inl h1,hl,hq⟩
 ·rename_i ps
  obtain⟨v,rfl,r1⟩:=Ae r
  obtain⟨a,xs,rfl,h1,h2⟩:=r1.tup rel.sub
  obtain⟨ns,rfl,hl,hq⟩:=fin ps xs h2 e
  exact⟨a,ns,rfl,.inr h1,hl,hq⟩
 ·cases e
theorem I_:dB K (ZdL K.K) qP:=by
 intro c F H σ ρ ps pv vs Q rel r e k
 unfold qP at e
 split at e
 ·rename_i ps
  obtain⟨v,rfl,r1⟩:=Ae r
  obtain⟨a,xs,rfl,h1,h2⟩:=r1.lst rel.sub
  obtain⟨m,em,rfl⟩:=Option.map_eq_some_iff.mp e
  obtain⟨ns,eb,hb⟩:=Option.bind_eq_some_iff.mp em
  cases ns with
  |nil=>cases hb
  |cons n ns=>
   cases hb
   obtain⟨z1,z2⟩:=foldl_min ns n
   refine⟨a,n::ns,rfl,by rw[←ints_rep h2 eb];exact h1,by simp,fun M m1 m2=>?_⟩
   have:M=ns.foldl min n:=Int.le_antisymm (m2 _ z1) (z2 M m1)
   rw[this]
   exact k _ F H rel (Same.refl _) (Same.refl _) Rep.int
 ·cases e
@[simp] theorem ZjT{i:Int}:Iz [.int i]=some (.int i):=rfl
@[simp] theorem ZjU{b:Bool}:Iz [.bl b]=some (.int (if b then 1 else 0)):=rfl
@[simp] theorem ZjV{i:Int}:ZlH [.int i]=if i.natAbs.log2<1920 then some (.str (toString i)) else none:=rfl
@[simp] theorem ZjW{x:Str}:ZlI [.str x]=if x.length=1 then some (.int (x.cps.getD 0 0:Nat)) else none:=rfl
@[simp] theorem gZ{ps:List PV}:Al [.lst ps]=(intsOf ps).map fun ns=>.int ns.sum:=rfl
@[simp] theorem Td{ps:List PV}:iI [.lst ps]=((intsOf ps).bind (best max)).map .int:=rfl
@[simp] theorem Te{ps:List PV}:qP [.lst ps]=((intsOf ps).bind (best min)).map .int:=rfl
@[simp] theorem ZjX{f:Int→Int→Int}{n:Int}{ns:List Int}:best f (n::ns)=some (ns.foldl f n):=rfl
end
end P
namespace P
open PySem PySem.Spec PyProof.Rows L2 M2 M3 M4
def uw(K:PySem.W.Frag)(C:Addr):Bool:=PySem.W.plainGet K C Str.empty && PySem.W.hasDictIn K C && PySem.W.plainOver K C && PySem.W.findIn K (.ref C) "__setattr__" == some (some (.builtin "object.__setattr__"))
theorem jd{K:PySem.W.Frag}{C:Addr}(h:uw K C=true):Cls K C:=by
 unfold uw at h
 simp only[Bool.and_eq_true,beq_iff_eq] at h
 exact⟨h.1.1.1,h.1.1.2,h.1.2,h.2⟩
def ou(K:PySem.W.Frag)(C:Addr)(m:Str)(f:Addr):Bool:=PySem.W.findIn K (.ref C) m== some (some (.ref f)) && PySem.W.isFn K (.ref f) && PySem.W.keepIn K (.ref f)
theorem jw{K:PySem.W.Frag}{C f:Addr}{m:Str}(h:ou K C m f=true):Meth K C m f:=by
 unfold ou at h
 simp only[Bool.and_eq_true,beq_iff_eq] at h
 exact⟨h.1.1,h.1.2,h.2⟩
def Tf(K:PySem.W.Frag)(C f:Addr):Bool:=PySem.W.makesIn K C && PySem.W.findIn K (.ref C) "__init__" == some (some (.ref f)) && PySem.W.isFn K (.ref f) && PySem.W.keepIn K (.ref C)
theorem oA{K:PySem.W.Frag}{C f:Addr}(h:Tf K C f=true):Mk K C f:=by
 unfold Tf at h
 simp only[Bool.and_eq_true,beq_iff_eq] at h
 exact⟨h.1.1.1,h.1.1.2,h.1.2,h.2⟩
section
variable{ρ:Ŏ}{i n k:Nat}{C:String}{cs:List String}{f m:Str}{mv mo:M PV}{mi:MI}{ms:M (List Slot)}{mb:M Fl}{pN:List (String×MF)}{as:List Slot}{ns:List Str}{ps:List PV}
@[simp] theorem ZjY:iH i cs f mv ρ=(mv ρ).bind fun p ρ1=>match ρ1[i]? with
  |some (.rc C ns ps)=>if cs.contains C=true∧ns.length<1000 then .ok .nx (ρ1.set i (.rc C (putN f ns) (wK f p ns ps))) else .bad
  |_=>.bad:=rfl
@[simp] theorem ZjZ:cO n k C mb as=if as.length+1=n then IR.of (mb (.rc C [] []::startP (k-1) as)) else .bad:=rfl
@[simp] theorem ZlJ{C:String}:IR.of (.ok .nx (.rc C ns ps::ρ))=.ok ns ps:=rfl
@[simp] theorem Zj0:bU C mi ms ρ=(ms ρ).bind fun as ρ1=>match mi as with
  | .ok ns ps=>.ok (.ins C ns ps) ρ1
  | .exc x=>.exc x ρ1
  | .bad=>.bad:=rfl
@[simp] theorem ZlK:aD cs f (.ins C ns ps)=if cs.contains C=true then(ns.zip ps).lookup f else none:=rfl
@[simp] theorem Ti:n_ m pN mo ms ρ=(mo ρ).bind fun p ρ1=>match p with
  | .ins C ns ps=>match pN.lookup C with
    |some mf=>if ns.contains m=true then .bad else(ms ρ1).bind fun as ρ2=>match mf (.sh (.ins C ns ps)::as) with
     | .ret r=>.ok r ρ2
     | .exc x=>.exc x ρ2
     | .bad=>.bad
    |none=>.bad
  |_=>.bad:=rfl
end
end P
namespace M3
open PySem PySem.Spec PyProof.Rows L2 M2
section
variable{X:Cx}{elt tg iter:Expr}{ifs:List Expr}{scope:Scope}{pos:Pos}{wi:TI}{g:TG}{tt:TT}{te:TE}
theorem Tj{iv:Nat}{y:Str}{py spos:Pos}(hN:X.N.Nodup)(hiN:X.N[iv]?=some y)(hy:X.env.scope.names.lookup y=some .local)(hsw:swapsWith (.ListComp elt [⟨tg,iter,ifs,0⟩] scope pos) (some (.Name y py)) spos.line X.env=pure true)(N':List Str)(js:List Nat)(nl:Nat)(sc:Scope)(hsc:X.env.scope=sc)(hcalm:X.calm=true)
 (hi:PI X.ſ tg iter wi)(hg:∀cl C s H fp,PG (gO X.ſ N' scope cl C s H fp) tg g)(ht:∀cl C s H fp,Um (gO X.ſ N' scope cl C s H fp) ifs tt)(he:∀cl C s H fp,PE (gO X.ſ N' scope cl C s H fp) elt te)
 (hcap:nC X.ſ sc scope N' js)(hlen:js.length+nl=N'.length:=by rfl)
 (hk:scope.kind=.function:=by rfl)(hcell:∀y∈scope.names,y.2=.cell→scope.names.lookup y.1=some .cell:=by decide +kernel)(hnames:∀y∈scope.names,y.2=.local→scope.names.lookup y.1=some .local:=by decide +kernel)
 (hfree:∀y∈scope.names,y.2=.free→(sc.names.lookup y.1=some .cell∨sc.names.lookup y.1=some .free):=by decide +kernel)
 (hs:∀x,foldedSetIterable iter X.env x=pure x:=by intro _;rfl) :
 PS X.ſ (.Assign [.Name y py] (.ListComp elt [⟨tg,iter,ifs,0⟩] scope pos) spos) (fun D σ H=>G_ js nl wi g tt te σ H fun v H'=>D.nx (σ.set iv (some v)) H'):=by
 intro pins s σ H D I h
 obtain⟨cl0,c1,c2,c3⟩:=jm (scope:=scope) (env:=X.ſ.env) fun y hy hf=>I.ok.has y.1 (by
  have:=hfree y hy hf
  rw[←hsc] at this
  exact this)
 rw[exec_Assign_Name_used _ _ _ _ (show swapsWith _ _ _ X.ſ.env=pure true from hsw)]
 refine wpAny_bind (wpAny_standAt (wpAny_bind ?_))
 show wpAny _ X.A (do let _ ←comprehension (.ListComp elt [⟨tg,iter,ifs,0⟩] scope pos) scope X.ſ.env _ (newList []) false (eval iter X.ſ.env) (some (assign (.Name y py) X.ſ.env))) _ _ s
 refine wpAny_bind (wpAny_mono (wpAny_comprehension_free (Q:=fun _ s'=>SP X.ſ pins D .next s') (use:=some (assign (.Name y py) X.ſ.env)) rfl hs c1 hk hnames (Ť (hi pins s σ H _ I h) fun v s1 h1=>Ť h1 fun itv s2 h2=>?_)) (fun _ s' hq=>wpAny_pure (wpAny_pure hq)) fun _ _ e=>e)
 obtain⟨it,fp,tn,J,H2,e,I2,T,st2,f2,q2⟩:=h2
 subst e
 refine wpAny_newObj_type (ig (fun h₁ hns₁ old Yk=>?_))
 dsimp only at hns₁ old Yk ⊢
 generalize Yl:s2.heap.push {cls:=.type "list",dict:=none,data:=.seq ([]:List Value).toArray}=bZ at hns₁ old Yk ⊢
 have hD:H2 s2.heap.objs.size=none:=I2.hok.fresh (Nat.le_refl _)
 have I3:Inv X.ſ pins σ (upd H2 s2.heap.objs.size (.lst [])) {s2 with heap:=bZ}:=by
  rw[←Yl]
  exact I2.laid (t':=s2.toks) (fun b u e=>Heap.get?_push_of_some _ e) (Nat.le_refl _) ⟨Nat.zero_le _,[],0,.nil,Heap.get?_push_size _ rfl⟩
 have Hh:∀b∈fp,b<s2.heap.objs.size:=fun b hb=>by
  obtain⟨o,ho,_⟩:=T.obj 0 _ st2 b hb
  exact Heap.lt_size ho
 have Ym:bZ.objs.size=s2.heap.objs.size+1:=by rw[←Yl,Heap.size_push]
 have f3:∀b∈fp,fM X.ſ pins (upd H2 s2.heap.objs.size (.lst [])) b:=fun b hb=>by
  obtain⟨g0,g1⟩:=f2 b hb
  exact⟨by rw[ğ (Nat.ne_of_lt (Hh b hb))];exact g0,g1⟩
 have B:=Hf (X:=X.ſ) (cl:=cl0) hcell c2 c3 (fun x c e=>by
  obtain⟨v,o,ho,_⟩:=I3.cell x c e
  exact Heap.lt_size ho) Yk
 generalize cellsFrom (bZ.objs.size+1) scope.names cl0=cl at B ⊢
 obtain⟨W,⟨m0,w0⟩,turn⟩:=q2 s2.heap.objs.size hD
 have I4:=qH (X:=X.ſ) (N':=N') (js:=js) (nl:=nl) (sc:=sc) (scope:=scope) (cl:=cl) (fp:=fp) (h':=h₁) (tk:=s2.toks) hsc hk hcap hlen B I3 f3 (fun b hb=>by show b<bZ.objs.size;rw[Ym];exact Nat.lt_succ_of_lt (Hh b hb)) hns₁ old
 have st4:tn 0 h₁:= T.keep 0 _ _ st2 fun b hb o e=>old b o (by rw[←Yl];exact Heap.get?_push_of_some _ e)
 have fr4:∀b∈fp,(upd H2 s2.heap.objs.size (.lst [])) b=none:=fun b hb=>(f3 b hb).1
 have stat:∀{H':Hp},(∀b∈fp,H' b=none)→∀b∈fp,fM (gO X.ſ N' scope cl bZ.objs.size {s2 with heap:=bZ} (upd H2 s2.heap.objs.size (.lst [])) fp) [] H' b:=fun{H'} hn b hb=>by
  obtain⟨g0,g1,g2,g3,g4,g5⟩:=f3 b hb
  refine⟨hn b hb,Nat.ne_of_lt (by show b<bZ.objs.size;rw[Ym];exact Nat.lt_succ_of_lt (Hh b hb)),fun z=>?_,.inl hb,fun x c e=>by
   rcases B.at_ x c e with⟨q,_⟩|⟨q,_⟩
   ·exact g4 x c q
   ·exact Nat.ne_of_gt (Nat.lt_trans (by show b<bZ.objs.size;rw[Ym];exact Nat.lt_succ_of_lt (Hh b hb)) q),fun p hp=>absurd hp (by simp[gO])⟩
  rcases List.mem_cons.mp (I3.ni b z) with z|z
  ·exact g1 z
  ·exact g2 z
 have loop:∀s₃:Shared,s₃= {s2 with heap:=h₁}→
  codeAny (model X.prog X.w) X.A (.compLoop (.ListComp elt [⟨tg,iter,ifs,0⟩] scope pos) 0 (.ref it) (.ref s2.heap.objs.size) (compEnvC scope cl bZ.objs.size X.ſ.env))
   (compPost (model X.prog X.w) X.A X.ſ.xe (some (assign (.Name y py) X.ſ.env)) (fun _ s'=>SP X.ſ pins D .next s') (.ref s2.heap.objs.size) bZ.objs.size) s₃:= by
  rintro s₃ rfl
  refine jo (fun n s'=>∃i σ' H',Inv (gO X.ſ N' scope cl bZ.objs.size {s2 with heap:=bZ} (upd H2 s2.heap.objs.size (.lst [])) fp) [] σ' H' s'∧tn i s'.heap∧(∀b∈fp,H' b=none)∧W i n σ' H') ?_ m0 ⟨0,_,_,I4,st4,fr4,w0⟩
  rintro n s5 ⟨i,σ5,H5,I5,QT,Xj,w5⟩
  rcases turn i n σ5 H5 w5 with⟨stop,qn⟩|⟨go,N,hN,step⟩
  ·refine Ť (T.done (gO X.ſ N' scope cl bZ.objs.size {s2 with heap:=bZ} (upd H2 s2.heap.objs.size (.lst [])) fp) rfl rfl rfl hcalm i [] s5 σ5 H5 (fun _ _=>False) I5 (stat Xj) QT stop) fun r s6 ⟨hr,I6⟩=>?_
   subst hr
   obtain⟨m,hm,_⟩:=I6.loc
   have I7:Inv X.ſ pins σ H5 s6:=nD (h':=s6.heap) I3 f3 I6 (fun b u hb e=>e)
   have hCL:bZ.objs.size≠X.ſ.env.locals:=Nat.ne_of_gt I3.lt
   have hcC:∀x c,X.ſ.env.cells.lookup x=some c→c≠bZ.objs.size:=fun x c e z=>by
    obtain⟨v,o,ho,_⟩:=I3.cell x c e
    exact absurd (Heap.lt_size ho) (by rw[z];exact Nat.lt_irrefl _)
   have hpC:∀p∈X.ſ.pn++pins,p.1≠bZ.objs.size:=fun p hp z=>by
    have:=Heap.lt_size (I3.pin p hp).1
    rw[z] at this
    exact Nat.lt_irrefl _ this
   have hnC:H5 bZ.objs.size=none:=I6.free
   refine wpAny_assign_Name (ql (X:=X.ſ) (i:=iv) I7 hN hiN (.inl hy) (v:=.ref s2.heap.objs.size) rfl (fun s8 I8 ⟨a8,sb8,ha8⟩=>?_) (.inr hy))
   have ne8:bZ.objs.size≠a8:=by
    rcases ha8 with rfl|ha8
    ·exact hCL
    ·exact fun z=>hcC _ _ ha8 z.symm
   refine⟨m,hm.sameBut sb8 ne8,fun h' hs'=>⟨_,H5,?_,qn⟩⟩
   have kp:∀b o,b≠bZ.objs.size→s8.heap.get? b=some o→h'.get? b=some o:=fun b o hb e=>hs'.extBut b o hb e
   have kp':∀b o,b∉[bZ.objs.size]→s8.heap.get? b=some o→h'.get? b=some o:=fun b o hb e=>kp b o (fun z=>hb (by rw[z];exact List.mem_cons_self)) e
   refine I8.call' (ch:=[bZ.objs.size]) (s':={s8 with heap:=h'}) rfl ⟨fun b o e _ _ hx=>kp' b o hx e,fun b o e _ _ hx=>⟨o.slots,kp' b o hx e⟩,fun b o _ n _=>n,fun b o e hx=>⟨o,kp' b o hx e⟩,fun _ _ q=>q,fun _ _ _ q=>q,fun _ ps q=>⟨#[],by rw[q];simp⟩⟩ (C_ I8.hok hnC kp) I8.bare fun b hb=>?_
   cases List.mem_singleton.mp hb
   exact⟨.inr I3.sz,hCL,hcC,hpC⟩
  ·refine Ť (T.item (gO X.ſ N' scope cl bZ.objs.size {s2 with heap:=bZ} (upd H2 s2.heap.objs.size (.lst [])) fp) rfl rfl rfl hcalm i [] s5 σ5 H5 (fun _ _=>False) I5 (stat Xj) QT go) fun r s6 ⟨u,hr,h6⟩=>?_
   subst hr
   refine Ť h6 fun _ s7 ⟨x,H7,I7,r7,y7,Yn,fr7⟩=>?_
   have I7':=I7.pinned (stat fr7) (T.obj _ _ Yn)
   have again:∀{s8:Shared} {σ8:L2.St} {H8:Hp},Inv (gO X.ſ N' scope cl bZ.objs.size {s2 with heap:=bZ} (upd H2 s2.heap.objs.size (.lst [])) fp) ([]++jN fp s7.heap) σ8 H8 s8→
    Inv (gO X.ſ N' scope cl bZ.objs.size {s2 with heap:=bZ} (upd H2 s2.heap.objs.size (.lst [])) fp) [] σ8 H8 s8∧tn (i+1) s8.heap∧∀b∈fp,H8 b=none:=fun{s8 σ8 H8} I8=>by
    refine⟨I8.fO,T.keep _ _ _ Yn fun b hb o e=>(I8.pin (b,o) (List.mem_append_right _ (List.mem_append_right _ (bD hb e)))).1,fun b hb=>?_⟩
    obtain⟨o,e,d⟩:=T.obj _ _ Yn b hb
    exact(I8.pin (b,o) (List.mem_append_right _ (List.mem_append_right _ (bD hb e)))).2.1
   refine Ť (hg cl _ _ _ fp _ s7 σ5 H7 x u _ I7' r7 (step x H7 y7)) fun _ s8 ⟨σ8,H8,I8,q8⟩=>?_
   refine Ť (ht cl _ _ _ fp _ s8 σ8 H8 _ I8 q8) fun c s9 ⟨H9,I9,q9⟩=>?_
   cases c with
   |false=>
    rw[if_neg Bool.false_ne_true] at q9 ⊢
    obtain⟨m',hm',w9⟩:=hN _ _ q9
    obtain⟨a1,a2,a3⟩:=again I9
    exact⟨m',hm',i+1,σ8,H9,a1,a2,a3,w9⟩
   |true=>
    rw[if_pos rfl] at q9 ⊢
    refine Ť (he cl _ _ _ fp _ s9 σ8 H9 _ I9 q9) fun yv zu ⟨y,H10,I10,r10,ys,e10,l10,w10⟩=>?_
    refine Ť (aK _ zu σ8 H10 (.ref s2.heap.objs.size) [y] (.ref s2.heap.objs.size) [yv] (fun _ Yo=>N σ8 Yo) I10 rfl (.cons r10 .nil) ⟨_,ys,y,rfl,rfl,e10,l10,w10⟩) fun _ s11 ⟨v11,Yo,I11,_,w11⟩=>?_
    obtain⟨a1,a2,a3⟩:=again I11
    obtain⟨m',hm',w11⟩:=hN _ _ w11
    exact⟨m',hm',i+1,σ8,Yo,a1,a2,a3,w11⟩
 exact codeAny_compStart_list (loop _ rfl) (T.self _ 0 _ _ _ st4 (loop _ rfl))
end
end M3
namespace P
open PySem PySem.Spec PyProof.Rows L2 M2 M3 M4
section
variable{X:Cx}{cm:String→Addr}{E:L2.St→XK}{elt tg iter:Expr}{ifs:List Expr}{scope:Scope}{pos:Pos}{mi:M (List PV)}{g:Tg}{mt:M Bool}{me:M PV}
theorem PS.ſ{st:Stmt}{t:TS}(h:PS X.ſ st t):PS X st t:=fun pins s σ H D I hw=>
 wpAny_mono (h pins s σ H D (I.wish _) hw) (fun _ _ q=>q.dR) fun _ _ z=>False.elim z
theorem je{i:Nat}{y:Str}{py spos:Pos}(hN:X.N.Nodup)(hi0:X.N[i]?=some y)(hy:X.env.scope.names.lookup y=some .local)(N':List Str)(js:List Nat)(nl:Nat)(sc:Scope)(hsc:X.env.scope=sc)(hcalm:X.calm=true)
 (hi:PI X.ſ tg iter (tI (kk X cm) E mi))(hg:∀cl C s H fp,PG (gO X.ſ N' scope cl C s H fp) tg (tT (kk X cm) g))(ht:∀cl C s H fp,Um (gO X.ſ N' scope cl C s H fp) ifs (tB (kk X cm) EF mt))(he:∀cl C s H fp,PE (gO X.ſ N' scope cl C s H fp) elt (tV (kk X cm) EF me))
 (hcap:nC X.ſ sc scope N' js)(hlen:js.length+nl=N'.length:=by rfl)
 (hk:scope.kind=.function:=by rfl)(hcell:∀y∈scope.names,y.2=.cell→scope.names.lookup y.1=some .cell:=by decide +kernel)(hnames:∀y∈scope.names,y.2=.local→scope.names.lookup y.1=some .local:=by decide +kernel)
 (hfree:∀y∈scope.names,y.2=.free→(sc.names.lookup y.1=some .cell∨sc.names.lookup y.1=some .free):=by decide +kernel)
 (hs:∀x,foldedSetIterable iter X.env x=pure x:=by intro _;rfl)(hsw:swapsWith (.ListComp elt [⟨tg,iter,ifs,0⟩] scope pos) (some (.Name y py)) spos.line X.env=pure true:=by rfl) :
 PS X (.Assign [.Name y py] (.ListComp elt [⟨tg,iter,ifs,0⟩] scope pos) spos) (tS (kk X cm) E (ĳ i (Ŕ js nl mi g mt me))):=
 PS.wk (PS.ſ (Tj hN hi0 hy hsw N' js nl sc hsc hcalm hi hg ht he hcap hlen hk hcell hnames hfree hs)) fun D σ H ⟨c,F,ρ,rel,h⟩=>wA ⟨c,F,ρ,rel,ť.bind h fun r ρ1 v F1 H1 Ę s1 q h1=>by
   cases r with
   |sh p=>exact h1 _ F1 H1 (Ę.put rfl ⟨v,rfl,q⟩) (Same.refl _)
   |ow ps=>
    obtain⟨a,vs,rfl,q1,q2,q3,q4,q5⟩:=q
    exact h1 _ F1 H1 (Ę.Rx ⟨a,vs,rfl,q1,q2,q3,q5⟩ rfl q4) (Same.refl _)
   |ot ps qs=>
    obtain⟨p,a,xs,vs,rfl,q0,qx,q1,q2,q3,q4,q5⟩:=q
    exact h1 _ F1 H1 (Ę.Rx (s:=.ot ps qs) ⟨p,a,xs,vs,rfl,q0,qx,q1,q2,q3,q5⟩ ⟨p,xs,rfl,q0⟩ q4) (Same.refl _)⟩
end
end P
namespace P
open PySem PySem.Spec PyProof.Rows L2 M2 M3 M4
def mBM(f:PV→List PV→Option PV)(mo:M PV)(ms:M (List PV)):M PV:=fun ρ=>(mo ρ).bind fun p ρ1=>match p with
 | .str _=>(ms ρ1).bind fun ps ρ2=>Res.mX (f p ps) ρ2
 |_=>.bad
@[simp] theorem Zo8{f:PV→List PV→Option PV}{mo:M PV}{ms:M (List PV)}{ρ:Ŏ}:mBM f mo ms ρ=(mo ρ).bind fun p ρ1=>match p with
  | .str _=>(ms ρ1).bind fun ps ρ2=>Res.mX (f p ps) ρ2
  |_=>.bad:=rfl
section
variable{X:Cx}{cm:String→Addr}{K:KK}{E:L2.St→XK}{o e:Expr}{es:List Expr}{name:Str}{apos cpos:Pos}{id:String}{r:V→List V→Hp→VK→Prop}{f:PV→List PV→Option PV}{mo:M PV}{ms:M (List PV)}
end
end P
namespace P
open PySem PySem.Spec PyProof.Rows L2 M2 M3 M4
section
variable{X:Cx}{pins:List (Addr×Obj)}{σ:L2.St}{H:Hp}{s:Shared}{h':Heap}
theorem turns{t':Nat}{fp:List Addr}(I:Inv X pins σ H s)(k:∀b o,b∉fp→s.heap.get? b=some o→h'.get? b=some o)(hf:∀b∈fp,fM X pins H b):Inv X pins σ H {s with heap:=h',toks:=t'}:=by
 have nit:∀b u,H b=some u→b∉fp:=fun b u e z=>by rw[(hf b z).1] at e;cases e
 have hL:X.env.locals∉fp:=fun z=>(hf _ z).2.1 rfl
 refine I.step (g':=s.gens) (d':=s.drawn) (ch:=fp) (fun b hb=>?_) (fun b o _ _ hc e _=>k b o hc e) (fun b o _ _ hc e _=>⟨o.slots,k b o hc e⟩) (fun _ _ _ _ n=>n)
  (fun b o hc e=>⟨o,k b o hc e⟩) (fun _ _ e=>e) (fun _ _ _ e=>e) (fun b ps e=>⟨#[],by rw[e];simp⟩) (fun m hm=>?_) (fun b u e=>?_) I.bare
 ·obtain⟨f0,f1,f2,f3,f4,f5⟩:=hf b hb
  exact⟨f3,f1,f4,f5⟩
 ·obtain⟨o,es,ep,ho,r⟩:=hm
  exact⟨o,es,ep,k _ o hL ho,r⟩
 ·refine(I.hok b u e).stay (fun c v hc q=>k c v ?_ q) (fun _ q=>q) fun _ _ q=>q
  rcases hc with z|z
  ·rw[z];exact nit b u e
  ·exact nit c _ z
theorem YX{a b:Addr}{o:HO}(f:fM X pins H b)(h:b≠a):fM X pins (upd H a o) b:=⟨by rw[ğ h];exact f.1,f.2⟩
theorem oE{t':Nat}{fp:List Addr}{u1 u2:Value}{x1 x2:V}(I:Inv X pins σ H s)(r1:RelV x1 u1)(r2:RelV x2 u2)(ht:∃o,h'.get? s.heap.objs.size=some o∧o= {cls:=.type "tuple",data:=.seq #[u1,u2]})
 (k:∀b o,b∉fp→s.heap.get? b=some o→h'.get? b=some o)(hf:∀b∈fp,fM X pins H b)(hlt:∀b∈fp,b<s.heap.objs.size) :
 Inv X pins σ (upd H s.heap.objs.size (.tup [x1,x2])) {s with heap:=h',toks:=t'}:=by
 have I1:Inv X pins σ (upd H s.heap.objs.size (.tup [x1,x2])) {s with heap:=s.heap.push {cls:=.type "tuple",data:=.seq #[u1,u2]},toks:=s.toks}:=
  I.laid (t':=s.toks) (fun b u e=>Heap.get?_push_of_some _ e) (Nat.le_refl _) ⟨by show 2≤sizeLine;decide,[u1,u2],.cons r1 (.cons r2 .nil),⟨_,Heap.get?_push_size _ rfl,rfl,_,rfl⟩⟩
 refine turns (fp:=fp) (s:={s with heap:=s.heap.push {cls:=.type "tuple",data:=.seq #[u1,u2]},toks:=s.toks}) (h':=h') (t':=t') I1 (fun b o hb e=>?_) fun b hb=>YX (hf b hb) (Nat.ne_of_lt (hlt b hb))
 rcases Heap.get?_push_cases e with⟨rfl,rfl⟩|e
 ·obtain⟨o,h1,h2⟩:=ht
  rw[h1,h2]
 ·exact k b o hb e
end
def Ite(K:PySem.W.Frag)(a:Addr):It:=
 ⟨fun i H=>∃xs x,aC K H a xs∧xs[i]?=some x,fun i H y H'=>∃x T,(∀xs,aC K H a xs→xs[i]?=some x)∧H T=none∧y=.ref T∧H'=upd H T (.tup [.int i,x]),fun i H=>∃xs,aC K H a xs∧xs.length≤i⟩
theorem Fg{P:Program}{w:World}{K:PySem.W.Frag}{elts:List Expr}{k:Nat}{pos:Pos}(a e it:Addr)(hne:e≠it):Turn P w K (.Tuple elts k pos) (Ite K a) [e,it] e (fun i h=>(∃old,IsEnum h e it i old)∧h.IsListIter it a i) where
 mem:=by simp
 obj:=fun i h st b hb=>by
  obtain⟨⟨old,he⟩,hit⟩:=st
  rcases List.mem_cons.mp hb with rfl|hb
  ·exact⟨_,he,fun v z=>by
    have z':Data.fields _=Data.cell v:=z
    cases z'⟩
  ·have e':b=it:=by simpa using hb
   subst e'
   obtain⟨o,e1,c,d⟩:=hit
   exact⟨o,e1,fun v z=>by rw[d] at z;cases z⟩
 keep:=fun i h h' st k=>⟨let ⟨old,he⟩:=st.1;⟨old,k e (by simp) _ he⟩,st.2.at fun o q=>k it (by simp) o q⟩
 item:=by
  intro X hP hw hK hc i pins s σ H E I hf st hg
  subst hP hw hK
  obtain⟨⟨old,he⟩,hit⟩:=st
  obtain⟨xs,x,hq,hx⟩:=hg
  obtain⟨its,rv,p,hz⟩:=I.list hq
  obtain⟨u,hu,ru⟩:=rv.get hx
  have elt:e<s.heap.objs.size:=Heap.lt_size he
  have ilt:it<s.heap.objs.size:=by obtain⟨_,q,_⟩:=hit;exact Heap.lt_size q
  refine wpAny_pyNext_enum_item he hit p.isList (x:=u) (by simpa using hu) hne fun h' ho hit' hT hsz hk=>?_
  refine⟨.ref s.heap.objs.size,rfl,wpAny_letOwnedTupleGo_enum ho fun h'' he' hs'=>?_⟩
  have hs2:Heap.SameBut e h' h'':=hs'
  have hlt:∀b∈[e,it],b<s.heap.objs.size:=fun b hb=>by
   rcases List.mem_cons.mp hb with rfl|hb
   ·exact elt
   ·have e':b=it:=by simpa using hb
    subst e';exact ilt
  have I2:=oE (fp:=[e,it]) (h':=h'') (t':=s.toks+1) (x1:=.int i) I ⟨s.toks,rfl⟩ ru ⟨_,(hs2.2 _ (Nat.ne_of_gt elt)).trans hT,rfl⟩ (fun b o hb q=>by
   have hbe:b≠e:=fun z=>hb (by simp[z])
   have hbi:b≠it:=fun z=>hb (by simp[z])
   exact(hs2.2 b hbe).trans (hk b o hbe hbi q)) hf hlt
  refine⟨.ref s.heap.objs.size,_,I2,rfl,⟨x,s.heap.objs.size,fun ys hy=>by rw[I.nq hy hq];exact hx,I.fresh,rfl,rfl⟩,⟨⟨u,?_⟩,hit'.at fun o q=>(hs2.2 it hne.symm).trans q⟩,fun b hb=>?_⟩
  ·have he2:IsEnum h'' e it ((i:Int)+1) u:=he'
   show IsEnum h'' e it (((i+1:Nat):Int)) u
   rw[Int.natCast_add]
   exact he2
  ·rw[ğ (Nat.ne_of_lt (hlt b hb))];exact(hf b hb).1
 done:=by
  intro X hP hw hK hc i pins s σ H E I hf st hg
  subst hP hw hK
  obtain⟨⟨old,he⟩,hit⟩:=st
  obtain⟨xs,hq,hx⟩:=hg
  obtain⟨its,rv,p,hz⟩:=I.list hq
  have hl:=rv.length
  refine wpAny_pyNext_enum_end (I.ok.hd hc) he hit p.isList (by simp;omega) fun h' eb=>⟨rfl,turns (fp:=[e,it]) (t':=s.toks) I (fun b o hb q=>eb b o (fun z=>hb (by simp[z])) q) hf⟩
 self:=fun _ _ _ _ _ st h=>let ⟨_,he⟩:=st.1;wpAny_pyIter_enum he h
section
variable{X:Cx}{elts:List Expr}{k:Nat}{tp:Pos}
def ZdM(K:PySem.W.Frag)(ta:TA):TI:=fun σ H R=>ta σ H fun vs H1=>∃a,vs=[.ref a]∧(∃xs,aC K H1 a xs)∧R (Ite K a) H1
theorem Tn{l:Expr}{ta:TA}{p pos:Pos}(hg:Gl X "enumerate")(hm:X.mg "enumerate" =none)(ha:PA X [l] ta)(hs:starEach [l] X.env=[(false,eval l X.env)]:=by exact İ rfl):PI X (.Tuple elts k tp) (.Call (.Name "enumerate" p) [l] [] pos) (ZdM X.K ta):=by
 intro pins s σ H R I h
 refine Call_ (jM I hg hm boot_enumerate (PyProof.Rows.callWith_type1 (Ť (ha pos pins s σ H _ I h) fun us s1 ⟨vs,H1,I1,r1,q1⟩=>?_) hs rfl))
 obtain⟨a,e,⟨xs,hq⟩,q⟩:=q1
 subst e
 obtain⟨u,rfl,ru⟩:=r1.one
 cases ru
 obtain⟨its,rv,pl,hz⟩:=I1.list hq
 refine call_enumerate_list pl.isList fun h' he hit hsz hk=>?_
 have I2:Inv X pins σ H1 {s1 with heap:=h'}:=I1.kept (t':=s1.toks) hk
 refine wpAny_pyIter_enum (s:={s1 with heap:=h'}) he ⟨s1.heap.objs.size+1,[s1.heap.objs.size+1,s1.heap.objs.size],_,_,H1,rfl,I2,Fg a _ _ (Nat.succ_ne_self _),⟨⟨_,he⟩,hit⟩,fun b hb=>?_,q⟩
 have hb':s1.heap.objs.size≤b:=by
  rcases List.mem_cons.mp hb with rfl|hb
  ·exact Nat.le_succ _
  ·have e':b=s1.heap.objs.size:=by simpa using hb
   exact Nat.le_of_eq e'.symm
 exact I1.Ei hb' (I1.hok.fresh hb')
end
def rLs(K:KK):RR (List PV) V:=fun c _ _ F H items v=>∃a,v=.ref a∧(∃xs,aC K.K H a xs)∧fC K c.L F (Xh K.K a) items
def rTs(K:KK):RR (List PV) V:=fun c _ _ F H items v=>∃a,v=.ref a∧(∃xs,cY K.K H a xs)∧fC K c.L F (Itt K.K a) items
def rSq(K:KK):RR (List PV) V:=fun c σ ρ F H items v=>rLs K c σ ρ F H items v∨rTs K c σ ρ F H items v
theorem oF{K:KK}{L F:Hp}{ps:List PV}{v:V}(h:Rep K F (.lst ps) v):∃a,v=.ref a∧(∃xs,aC K.K F a xs)∧fC K L F (Xh K.K a) ps:=by
 unfold Rep at h
 obtain⟨a,vs,rfl,e1,e2⟩:=h
 refine⟨a,rfl,⟨vs,e1⟩,?_⟩
 intro c' i F2 H2 σ2 ρ2 ŉ sF _
 have hq:aC K.K H2 a vs:=(sF.trans ŉ.sub).seq e1
 refine⟨fun p hp=>?_,fun hi=>⟨vs,hq,by rw[hi,e2.length];exact Nat.le_refl _⟩⟩
 obtain⟨u,hu,ru⟩:=cC e2.pr hp
 refine⟨⟨vs,u,hq,hu⟩,fun x H' ⟨hH,hx⟩=>?_⟩
 subst hH
 have:vs[i]?=some x:=hx vs hq
 rw[hu] at this
 cases this
 exact⟨F2,ŉ,Same.refl _,Same.refl _,Rep.same sF p u ru⟩
theorem Ja{K:KK}{L F:Hp}{ps:List PV}{v:V}(h:Rep K F (.tup ps) v):∃a,v=.ref a∧(∃xs,cY K.K F a xs)∧fC K L F (Itt K.K a) ps:=by
 unfold Rep at h
 obtain⟨a,vs,rfl,e1,e2⟩:=h
 refine⟨a,rfl,⟨vs,e1⟩,?_⟩
 intro c' i F2 H2 σ2 ρ2 ŉ sF _
 have hq:cY K.K H2 a vs:=Same.tup (sF.trans ŉ.sub) e1
 refine⟨fun p hp=>?_,fun hi=>⟨vs,hq,by rw[hi,e2.length];exact Nat.le_refl _⟩⟩
 obtain⟨u,hu,ru⟩:=cC e2.pr hp
 refine⟨⟨vs,u,hq,hu⟩,fun x H' ⟨hH,hx⟩=>?_⟩
 subst hH
 have:vs[i]?=some x:=hx vs hq
 rw[hu] at this
 cases this
 exact⟨F2,ŉ,Same.refl _,Same.refl _,Rep.same sF p u ru⟩
theorem Fi{K:KK}{c:Ctx}{F:Hp}{a:Addr}{vs:List V}{ps:List PV}(h2:c.L a=some (.lst vs))(h3:Ĝ K F ps vs):fC K c.L F (Xh K.K a) ps:=by
 intro c' j F2 H2 σ2 ρ2 ŉ sF sL
 have hq:aC K.K H2 a vs:=aC.of (sL a _ h2)
 refine⟨fun p hp=>?_,fun hi=>⟨vs,hq,by rw[hi,h3.length];exact Nat.le_refl _⟩⟩
 obtain⟨u,hu,ru⟩:=cC h3.pr hp
 refine⟨⟨vs,u,hq,hu⟩,fun x H' ⟨hH,hx⟩=>?_⟩
 subst hH
 have:vs[j]?=some x:=hx vs hq
 rw[hu] at this
 cases this
 exact⟨F2,ŉ,Same.refl _,Same.refl _,Rep.same sF p u ru⟩
theorem fC.mono{K:KK}{L F F1:Hp}{J:It}{ps:List PV}(h:fC K L F J ps)(s:Same F F1):fC K L F1 J ps:=fun c i F2 H σ ρ rel sF sL=>h c i F2 H σ ρ rel (s.trans sF) sL
def mLs(m:M PV):M (List PV):=fun ρ=>(m ρ).bind fun p ρ1=>match p with
 | .lst ps=>.ok ps ρ1
 |_=>.bad
def mSq(m:M PV):M (List PV):=fun ρ=>(m ρ).bind fun p ρ1=>match p with
 | .lst ps=>.ok ps ρ1
 | .tup ps=>.ok ps ρ1
 |_=>.bad
def ZlL(i:Nat):M (List PV):=fun ρ=>match ρ[i]? with
 |some (.bw ps)=>.ok ps ρ
 |some (.sh (.lst ps))=>.ok ps ρ
 |some (.ow ps)=>.ok ps (ρ.set i (.sh (.lst ps)))
 |_=>.bad
def Jb(i:Nat):M (List PV):=fun ρ=>match ρ[i]? with
 |some (.bw ps)=>.ok ps ρ
 |some (.sh (.lst ps))=>.ok ps ρ
 |some (.sh (.tup ps))=>.ok ps ρ
 |some (.ow ps)=>.ok ps (ρ.set i (.sh (.lst ps)))
 |_=>.bad
section
variable{X:Cx}{cm:String→Addr}{E:L2.St→XK}{e:Expr}{m:M PV}
theorem ZdN(h:PE X e (tV (kk X cm) E m)):PE X e (tG (kk X cm) E (rLs (kk X cm)) (mLs m)):=PE.wk h fun σ H Q ⟨c,F,ρ,rel,h⟩=>⟨c,F,ρ,rel,h.bind fun p ρ1 v F1 H1 Ę s1 s2 q h1=>by
 cases p with
 |lst ps=>
  obtain⟨a,e1,⟨xs,e2⟩,e3⟩:=oF (L:=c.L) (show Rep (kk X cm) F1 (.lst ps) v from q)
  exact h1 v F1 H1 Ę (Same.refl _) (Same.refl _) ⟨a,e1,⟨xs,Ę.sub.seq e2⟩,e3⟩
 |_=>exact h1.elim⟩
theorem UJ(i:Nat){x:Str}{px:Pos}(hN:X.N[i]?=some x:=by rfl)(hv:Gd X.env.scope x:=by first|exact Or.inl rfl|exact Or.inr (Or.inl rfl)|exact Or.inr (Or.inr rfl))(hd:(x== ("__debug__" :Str))=false:=by decide)
 (hcd:(x== ("__classdict__" :Str))=false:=by decide):PE X (.Name x px) (tG (kk X cm) E (rSq (kk X cm)) (Jb i)):=PE.wk (fL hN hv hd hcd) fun σ H Q ⟨c,F,ρ,rel,h⟩=>by
 unfold Jb at h
 cases e:ρ[i]? with
 |none=>rw[e] at h;exact h.elim
 |some sl=>
  rw[e] at h
  cases sl with
  |no=>exact h.elim
  |rc C ns ps=>exact h.elim
  |ot ps qs=>exact h.elim
  |ow ps=>
   obtain⟨a,vs,z1,z2,z3,z4⟩:=rel.share e
   obtain⟨a',e1,⟨xs,e2⟩,e3⟩:=oF (L:=c.L) z3
   cases e1
   exact⟨.ref a,z1,h _ _ H z4 (Same.upd z2) (Same.refl _) (.inl ⟨a,rfl,⟨xs,z4.sub.seq e2⟩,e3⟩)⟩
  |bw ps=>
   obtain⟨a,vs,h1,h2,h3⟩:=rel.slot i _ e
   exact⟨.ref a,at_of h1,h _ F H rel (Same.refl _) (Same.refl _) (.inl ⟨a,rfl,⟨vs,aC.of (rel.lent a _ h2).1⟩,Fi h2 h3⟩)⟩
  |sh p=>
   obtain⟨v,h1,h2⟩:=rel.slot i _ e
   cases p with
   |lst ps=>
    obtain⟨a,e1,⟨xs,e2⟩,e3⟩:=oF (L:=c.L) h2
    exact⟨v,at_of h1,h v F H rel (Same.refl _) (Same.refl _) (.inl ⟨a,e1,⟨xs,rel.sub.seq e2⟩,e3⟩)⟩
   |tup ps=>
    obtain⟨a,e1,⟨xs,e2⟩,e3⟩:=Ja (L:=c.L) h2
    exact⟨v,at_of h1,h v F H rel (Same.refl _) (Same.refl _) (.inr ⟨a,e1,⟨xs,Same.tup rel.sub e2⟩,e3⟩)⟩
   |_=>exact h.elim
def gC:Nat→List PV→List PV
 |_,[]=>[]
 |k,p::ps=>.tup [.int k,p]::gC (k+1) ps
theorem qQ:∀(k:Nat) (ps:List PV),(gC k ps).length=ps.length
 |_,[]=>rfl
 |k,_::ps=>congrArg (·+ 1) (qQ (k+1) ps)
theorem qR:∀(k:Nat) (ps:List PV) (i:Nat),(gC k ps)[i]?=ps[i]?.map fun p=>.tup [.int ((k+i:Nat):Int),p]
 |_,[],_=>rfl
 |k,p::ps,0=>rfl
 |k,p::ps,i+1=>by
  show(gC (k+1) ps)[i]?=_
  rw[qR (k+1) ps i,List.getElem?_cons_succ,show k+1+i=k+(i+1) by omega]
def DK(m:M (List PV)):M (List PV):=fun ρ=>(m ρ).bind fun ps ρ1=>.ok (gC 0 ps) ρ1
theorem DN{K:KK}{c:Ctx}{F H:Hp}{σ:L2.St}{ρ:Ŏ}{T:Addr}{p q:PV}{x y:V}(rel:Rel K c F H σ ρ)(hT:H T=none)(r1:Rep K F p x)(r2:Rep K F q y):Rel K c (upd F T (.tup [x,y])) (upd H T (.tup [x,y])) σ ρ∧Rep K (upd F T (.tup [x,y])) (.tup [p,q]) (.ref T):=by
 have hF:=rel.sub.free hT
 refine⟨rel.alloc hT,?_⟩
 unfold Rep
 exact⟨T,[x,y],rfl,cY.of ī,Ĝ.cons (Rep.same (Same.upd hF) p x r1) (Ĝ.cons (Rep.same (Same.upd hF) q y r2) Ĝ.nil)⟩
theorem Fj{K:KK}{L F:Hp}{a:Addr}{ps:List PV}(h:fC K L F (Xh K.K a) ps):fC K L F (Ite K.K a) (gC 0 ps):=by
 intro c i F2 H σ ρ rel sF sL
 obtain⟨g,st⟩:=h c i F2 H σ ρ rel sF sL
 refine⟨fun p hp=>?_,fun hi=>st (by rw[hi,qQ])⟩
 rw[qR] at hp
 cases eq:ps[i]? with
 |none=>rw[eq] at hp;cases hp
 |some q=>
  rw[eq] at hp
  have hp':PV.tup [.int ((0+i:Nat):Int),q]=p:=Option.some.inj hp
  subst hp'
  obtain⟨⟨xs,x,hq,hx⟩,g2⟩:=g q eq
  refine⟨⟨xs,x,hq,hx⟩,fun y H' ⟨x',T,h1,hT,ey,eH⟩=>?_⟩
  subst ey eH
  obtain⟨F3,mj,s3,_,rp⟩:=g2 x' H ⟨rfl,h1⟩
  obtain⟨r1,r2⟩:=DN (p:=.int i) (x:=.int i) mj hT (by unfold Rep;rfl) rp
  refine⟨_,r1,s3.trans (Same.upd (mj.sub.free hT)),Same.upd hT,?_⟩
  rw[Nat.zero_add]
  exact r2
theorem Jc{elts:List Expr}{k:Nat}{tp p pos:Pos}{mi:M (List PV)}(hg:Gl X "enumerate")(hm:X.mg "enumerate" =none)(hl:PE X e (tG (kk X cm) E (rLs (kk X cm)) mi))(hs:starEach [e] X.env=[(false,eval e X.env)]:=by exact İ rfl) :
 PI X (.Tuple elts k tp) (.Call (.Name "enumerate" p) [e] [] pos) (tI (kk X cm) E (DK mi)):=fun pins s σ H R I h=>Tn hg hm (bY hl iW hs) hs pins s σ H R I (by
 obtain⟨c,F,ρ,rel,h⟩:=h
 refine⟨c,F,ρ,rel,h.bind fun ps ρ1 v F1 H1 Ę s1 s2 q h1=>?_⟩
 obtain⟨a,e1,e2,e3⟩:=q
 subst e1
 exact⟨a,rfl,e2,h1 _ F1 H1 Ę (Same.refl _) (Same.refl _) (Fj e3)⟩)
def Ao(i:Nat)(mo:M RV):M Fl:=fun ρ=>match ρ[i]? with
 |some (.ow _)=>(mo ρ).bind fun r ρ1=>match ρ1[i]?,r with
  |some (.ow ps),.ow qs=>if ps.length+qs.length≤16777216 then .ok .nx (ρ1.set i (.ow (ps++qs))) else .bad
  |_,_=>.bad
 |_=>.bad
theorem DP{i:Nat}{mo:M RV}{D:Ends}{σ:L2.St}{H:Hp}(h:tS (kk X cm) E (Ao i mo) D σ H):Gj (tBM X.K "list" CW (sY i) (Uj (tO (kk X cm) E mo) ZcZ)) D σ H:=by
 obtain⟨c,F,ρ,rel,h⟩:=h
 unfold Ao at h
 cases e1:ρ[i]? with
 |none=>rw[e1] at h;exact h.elim
 |some sl=>
  rw[e1] at h
  cases sl with
  |ow ps0=>
   obtain⟨a,vs0,z1,z2,z3,z4,z5,z6⟩:=rel.ow e1
   refine⟨.ref a,z1,.inl ⟨rfl,_,aC.of z2⟩,c,F,ρ,rel,?_⟩
   refine ť.bind h fun r ρ1 v F1 H1 Ę s1 q h1=>?_
   cases e2:ρ1[i]? with
   |none=>simp only[e2] at h1;exact h1.elim
   |some sl2=>
    simp only[e2] at h1
    cases sl2 with
    |ow ps=>
     cases r with
     |ow qs=>
      obtain⟨b,us,eb,hb1,hb2,hb3,hb4,hb5⟩:=q
      subst eb
      obtain⟨a2,vs,w1,w2,w3,w4,w5,w6⟩:=Ę.ow e2
      rw[z1] at w1
      cases w1
      dsimp only at h1
      split at h1
      ·rename_i hz
       refine⟨a,b,vs,us,rfl,rfl,w2,hb1,by rw[←w5.length,←hb5.length,ō];exact hz,h1 σ F1 _ (Ę.write w6 z1 ⟨a,vs++us,rfl,ī,w3,w4,Ĝ.append w5 hb5⟩ fun _ z=>(V.ref.inj z).symm) (Same.refl _)⟩
      ·exact h1.elim
     |_=>exact h1.elim
    |_=>exact h1.elim
  |_=>exact h.elim
def ZlM(i:Nat):M Fl:=fun ρ=>match ρ[i]? with
 |some (.ow _)=>.ok .nx (ρ.set i (.ow []))
 |_=>.bad
@[simp] theorem ZlN{i:Nat}{ρ:Ŏ}:ZlM i ρ=(match ρ[i]? with
  |some (.ow _)=>.ok .nx (ρ.set i (.ow []))
  |_=>.bad):=rfl
@[simp] theorem ZlO{i:Nat}{mo:M RV}{ρ:Ŏ}:Ao i mo ρ=(match ρ[i]? with
  |some (.ow _)=>(mo ρ).bind fun r ρ1=>match ρ1[i]?,r with
   |some (.ow ps),.ow qs=>if ps.length+qs.length≤16777216 then .ok .nx (ρ1.set i (.ow (ps++qs))) else .bad
   |_,_=>.bad
  |_=>.bad):=rfl
@[simp] theorem Zj1{mi:M (List PV)}{ρ:Ŏ}:DK mi ρ=(mi ρ).bind fun ps ρ1=>.ok (gC 0 ps) ρ1:=rfl
@[simp] theorem Zo9{ρ:Ŏ}:mLs m ρ=(m ρ).bind fun p ρ1=>match p with
  | .lst ps=>.ok ps ρ1
  |_=>.bad:=rfl
@[simp] theorem Zo_{ρ:Ŏ}:mSq m ρ=(m ρ).bind fun p ρ1=>match p with
  | .lst ps=>.ok ps ρ1
  | .tup ps=>.ok ps ρ1
  |_=>.bad:=rfl
@[simp] theorem ZlP{i:Nat}{ρ:Ŏ}:ZlL i ρ=(match ρ[i]? with
  |some (.bw ps)=>.ok ps ρ
  |some (.sh (.lst ps))=>.ok ps ρ
  |some (.ow ps)=>.ok ps (ρ.set i (.sh (.lst ps)))
  |_=>.bad):=rfl
@[simp] theorem ZlQ{i:Nat}{ρ:Ŏ}:Jb i ρ=(match ρ[i]? with
  |some (.bw ps)=>.ok ps ρ
  |some (.sh (.lst ps))=>.ok ps ρ
  |some (.sh (.tup ps))=>.ok ps ρ
  |some (.ow ps)=>.ok ps (ρ.set i (.sh (.lst ps)))
  |_=>.bad):=rfl
end
end P
namespace P
open PySem PySem.Spec PyProof.Rows L2 M2 M3 M4
theorem ZdO{X:Cx}:PIp X .BitOr (ipI fun i j=>Builtin.bitOr i j):=by
 intro pins s σ H x y v u Q I r1 r2 h
 obtain⟨i,j,e1,e2,q⟩:=h
 subst e1;subst e2
 obtain⟨t,rfl⟩:=r1
 obtain⟨t',rfl⟩:=r2
 exact ior_int ⟨.int _,H,I.tok _,⟨_,rfl⟩,q⟩
def wY(i:Nat)(m:M PV):M Fl:=fun ρ=>match ρ[i]? with
 |some (.sh (.int _))=>(m ρ).bind fun q ρ1=>match ρ1[i]?,q with
  |some (.sh (.int k)),.int j=>.ok .nx (ρ1.set i (.sh (.int (Builtin.bitOr k j))))
  |_,_=>.bad
 |_=>.bad
@[simp] theorem Zj2{i:Nat}{m:M PV}{ρ:Ŏ}:wY i m ρ=(match ρ[i]? with
  |some (.sh (.int _))=>(m ρ).bind fun q ρ1=>match ρ1[i]?,q with
   |some (.sh (.int k)),.int j=>.ok .nx (ρ1.set i (.sh (.int (Builtin.bitOr k j))))
   |_,_=>.bad
  |_=>.bad):=rfl
section
variable{X:Cx}{cm:String→Addr}{E:L2.St→XK}{e a b:Expr}{m ma mb:M PV}{pos:Pos}
theorem ux{K:KK}{F:Hp}{i:Int}{v:V}(h:Rep K F (.int i) v):v=.int i:=by unfold Rep at h;exact h
theorem Jd{i:Nat}{x:Str}{pos':Pos}(hN:X.N.Nodup)(hi:X.N[i]?=some x)(hx:Loc X.env.scope x)(he:PE X e (tV (kk X cm) E m))(hf:X.fn x=true∨X.env.scope.names.lookup x=some .local:=by first|exact .inl rfl|exact .inr rfl|assumption) :
 PS X (.AugAssign (.Name x pos') .BitOr e pos) (tS (kk X cm) E (wY i m)):=PS.wk (Xf hN hi hx he ZdO hf) fun D σ H ⟨c,F,ρ,rel,h⟩=>by
 unfold wY at h
 cases e1:ρ[i]? with
 |none=>rw[e1] at h;exact h.elim
 |some sl=>
  rw[e1] at h
  cases sl with
  |sh p=>
   cases p with
   |int k0=>
    obtain⟨v,h1,h2⟩:=rel.slot i _ e1
    cases ux h2
    refine⟨.int k0,at_of h1,c,F,ρ,rel,ť.bind h fun q ρ1 u F1 H1 Ę s1 rq h1'=>?_⟩
    cases e2:ρ1[i]? with
    |none=>simp only[e2] at h1';exact h1'.elim
    |some sl2=>
     simp only[e2] at h1'
     cases sl2 with
     |sh p2=>
      cases p2 with
      |int k=>
       cases q with
       |int j=>
        obtain⟨v2,w1,w2⟩:=Ę.slot i _ e2
        cases ux w2
        rw[h1] at w1
        cases w1
        cases ux rq
        exact⟨k0,j,rfl,rfl,h1' _ F1 H1 (Ę.put rfl ⟨_,rfl,Rep.int⟩) (Same.refl _)⟩
       |_=>exact h1'.elim
      |_=>exact h1'.elim
     |_=>exact h1'.elim
   |_=>exact h.elim
  |_=>exact h.elim
def ZdP:PV→Option PV
 | .int i=>some (.int (Builtin.bitNot i))
 |_=>none
@[simp] theorem Zj3{i:Int}:ZdP (.int i)=some (.int (Builtin.bitNot i)):=rfl
def ZdQ(m:M PV):M PV:=fun ρ=>(m ρ).bind fun p ρ1=>match p with
 | .int i=>.ok (.int ((Builtin.Int.intBits i:Nat):Int)) ρ1
 |_=>.bad
@[simp] theorem Zj4{ρ:Ŏ}:ZdQ m ρ=(m ρ).bind fun p ρ1=>match p with
  | .int i=>.ok (.int ((Builtin.Int.intBits i:Nat):Int)) ρ1
  |_=>.bad:=rfl
def ZlR(m:M PV):M RV:=fun ρ=>(m ρ).bind fun p ρ1=>match p with
 | .lst ps=>.ok (.ow ps.reverse) ρ1
 |_=>.bad
@[simp] theorem ZlS{ρ:Ŏ}:ZlR m ρ=(m ρ).bind fun p ρ1=>match p with
  | .lst ps=>.ok (.ow ps.reverse) ρ1
  |_=>.bad:=rfl
end
section
variable{X:Cx}{K:KK}
end
end P
namespace P
open PySem PySem.Spec PyProof.Rows L2 M2 M3 M4
section
variable{prog:Program}{w:World}{A:Around}{E:Value→Shared→Prop}{s:Shared}
theorem jx{it l:Addr}{i:Nat}{items}{x:Value}{Q:Value→Shared→Prop}(hit:s.heap.IsTupleIter it l i)
 (hl:s.heap.IsTuple l items)(hx:items[i]?=some x)
 (hQ:∀h',h'.IsTupleIter it l (i+1)→Heap.SameBut it s.heap h'→Q x {s with heap:=h'}) :
 wpAny (model prog w) A (Builtin.SmallTypes.nextOf (.ref it)) Q E s:=by
 obtain⟨o,ho,hc,hd⟩:=id hit
 obtain⟨ol,hol,_,nl,hdl⟩:=hl
 unfold Builtin.SmallTypes.nextOf
 refine wpAny_bind (wpAny_callSpecial?_slot (name:=Str.ofString "__next__") hit.typeIs F.slot_tuple_iterator_next
  (wpAny_call_entry F.slot_tuple_iterator_next hit.typeIs F.entry_tuple_iterator_next ?_ (F.args_tuple_iterator_next_1 _)))
 show wpAny _ _ (field (.ref it) 0 >>= _) _ _ s
 refine wpAny_bind (wpAny_field ho hd (x:=.ref l) rfl ?_)
 show wpAny _ _ (if(Value.ref l== Value.none)=true then _ else _) _ _ s
 rw[if_neg (show ¬((Value.ref l== Value.none)=true) from Bool.false_ne_true)]
 show wpAny _ _ (field (.ref it) 1 >>= _) _ _ s
 refine wpAny_bind (wpAny_field ho hd (x:=.int i 0) rfl ?_)
 show wpAny _ _ (seqItems? (.ref l) >>= _) _ _ s
 refine wpAny_bind (wpAny_seqItems hol hdl ?_)
 simp only[Int.toNat_natCast,hx]
 refine wpAny_bind (wpAny_setField ho hd (by simp) (wpAny_pure ⟨x,rfl,wpAny_pure (hQ _ ?_ (Heap.SameBut.update ..))⟩))
 exact⟨_,Heap.get?_update_self _ ho (Obj.isFreed_of_fields (Obj.data_mapFields hd _)),(Obj.cls_mapFields ..).trans hc,by
  rw[Obj.data_mapFields hd];simp[rawInt]⟩
theorem jZ{it l:Addr}{i:Nat}{items}{Q:Value→Shared→Prop}(hh:A.handled=none)
 (hit:s.heap.IsTupleIter it l i)(hl:s.heap.IsTuple l items)(hx:items[i]?=none)
 (hE:∀h' e,Heap.ExtBut it s.heap h'→(∃o,h'.get? e=some o∧o.cls=.type "StopIteration")→E (.ref e) {s with heap:=h'}) :
 wpAny (model prog w) A (Builtin.SmallTypes.nextOf (.ref it)) Q E s:=by
 obtain⟨o,ho,hc,hd⟩:=id hit
 obtain⟨ol,hol,_,nl,hdl⟩:=hl
 unfold Builtin.SmallTypes.nextOf
 refine wpAny_bind (wpAny_callSpecial?_slot (name:=Str.ofString "__next__") hit.typeIs F.slot_tuple_iterator_next
  (wpAny_call_entry F.slot_tuple_iterator_next hit.typeIs F.entry_tuple_iterator_next ?_ (F.args_tuple_iterator_next_1 _)))
 show wpAny _ _ (field (.ref it) 0 >>= _) _ _ s
 refine wpAny_bind (wpAny_field ho hd (x:=.ref l) rfl ?_)
 show wpAny _ _ (if(Value.ref l== Value.none)=true then _ else _) _ _ s
 rw[if_neg (show ¬((Value.ref l== Value.none)=true) from Bool.false_ne_true)]
 show wpAny _ _ (field (.ref it) 1 >>= _) _ _ s
 refine wpAny_bind (wpAny_field ho hd (x:=.int i 0) rfl ?_)
 show wpAny _ _ (seqItems? (.ref l) >>= _) _ _ s
 refine wpAny_bind (wpAny_seqItems hol hdl ?_)
 simp only[Int.toNat_natCast,hx]
 refine wpAny_bind (wpAny_rule (wpAny_bind (wpAny_setField ho hd (by simp) ?_)))
 show wpAny _ _ (newExc (.type "StopIteration") [] >>= _) _ _ _
 refine wpAny_bind ?_
 simp only[newExc,newTuple]
 refine wpAny_bind (wpAny_newObj_type ?_ (by size_fits))
 refine wpAny_bind (m:=firstArgMember _ _) (wpAny_of_eq (a:=Value.none) (by first|rfl|(simp only[firstArgMember];rfl)) ?_)
 refine wpAny_newObj_type ?_ (by size_fits)
 simp only[raiseNew]
 refine wpAny_bind (wpAny_handled ?_)
 first|rw[show A.in1.handled=none from hh]|rw[hh]
 refine wpAny_bind (wpAny_pure (wpAny_throw ?_))
 exact hE _ _ (((Heap.SameBut.update ..).extBut.push _).push _) ⟨_,Heap.get?_push_size _ rfl,rfl⟩
end
theorem wZ{prog:Program}{w:World}{A:Around}(hh:A.handled=none)(it l:Addr)(hne:l≠it)(items:Array Value) :
 Draws prog w A it [it,l] items.size (fun i v=>items[i]?=some v) (fun i h=>h.IsTupleIter it l i∧h.IsTuple l items) where
 live:=fun _ _ st=>let ⟨o,ho,_⟩:=st.1;⟨o,ho⟩
 frame:=fun _ _ _ st hk=>⟨let ⟨o,ho,r⟩:=st.1;⟨o,hk it (by simp) o ho,r⟩,let ⟨o,ho,r⟩:=st.2;⟨o,hk l (by simp) o ho,r⟩⟩
 item:=fun i s Q E hi st hQ=>by
  refine jx st.1 st.2 (x:=items[i]) (by simp[hi]) fun h' hit' hs'=>?_
  exact hQ _ h' s.toks (by simp[hi]) ⟨hit',st.2.extBut hs'.extBut hne⟩ hs'
 done:=fun s Q E st hE=>jZ hh st.1 st.2 (by simp) hE
structure ZAp(z TI TO i1 i2:Addr)(f1 f2:List Addr):Prop where
 TIz:TI≠z
 TOz:TO≠z
 i1z:i1≠z
 i2z:i2≠z
 TITO:TI≠TO
 TIi1:TI≠i1
 TIi2:TI≠i2
 TOi1:TO≠i1
 TOi2:TO≠i2
 i12:i1≠i2
 z1:z∉f1
 z2:z∉f2
 t1:TO∉f1
 t2:TO∉f2
 a1:i1∉f2
 a2:i2∉f1
section
variable{prog:Program}{w:World}{A:Around}{E:Value→Shared→Prop}{s:Shared}
theorem oG{z TI TO i1 i2:Addr}{f1 f2:List Addr}{n1 n2 k1 k2:Nat}{P1 P2:Nat→Value→Prop}{S1 S2:Nat→Heap→Prop}{a b:Value}{Q:Value→Shared→Prop}(D:ZAp z TI TO i1 i2 f1 f2)
 (D1:Draws prog w A i1 f1 n1 P1 S1)(D2:Draws prog w A i2 f2 n2 P2 S2)
 (hz:IsZip s.heap z TI TO .none)(hTI:IsPair s.heap TI (.ref i1) (.ref i2))(hTO:IsPair s.heap TO a b)(h1:S1 k1 s.heap)(h2:S2 k2 s.heap)(hk1:k1<n1)(hk2:k2<n2)
 (hQ:∀x y h' tk,P1 k1 x→P2 k2 y→IsZip h' z TI TO (rawInt s.heap.objs.size)→IsPair h' TO x y→S1 (k1+1) h'→S2 (k2+1) h'→IsPair h' s.heap.objs.size x y→h'.objs.size=s.heap.objs.size+1→
   (∀c o,c≠z→c≠TO→c≠i1→c≠i2→s.heap.get? c=some o→h'.get? c=some o)→Q (.ref s.heap.objs.size) {s with heap:=h',toks:=tk}) :
 wpAny (model prog w) A (Builtin.«zip.__next__» ⟨[.ref z],[]⟩) (fun fin s'=>∃v,fin=.done (.ret v)∧Q v s') E s:=by
 have UL:∀{b},b∈f1→b≠z∧b≠TO∧b≠i2:=fun hb=>⟨fun e=>D.z1 (e▸hb),fun e=>D.t1 (e▸hb),fun e=>D.a2 (e▸hb)⟩
 have Tp:∀{b},b∈f2→b≠z∧b≠TO∧b≠i1:=fun hb=>⟨fun e=>D.z2 (e▸hb),fun e=>D.t2 (e▸hb),fun e=>D.a1 (e▸hb)⟩
 obtain⟨hp,g,d,tk0,os⟩:=s
 show wpAny _ _ (field (.ref z) 2 >>= _) _ _ _
 refine wpAny_bind (wpAny_field hz rfl (x:=.bool false) rfl ?_)
 show wpAny _ _ (field (.ref z) 3 >>= _) _ _ _
 refine wpAny_bind (wpAny_field hz rfl (x:=.ref TI) rfl ?_)
 refine wpAny_bind (wpAny_seqItems hTI rfl ?_)
 show wpAny _ _ (Builtin.SmallTypes.ownedTupleIsFree (.ref z) >>= _) _ _ _
 refine wpAny_bind ?_
 unfold Builtin.SmallTypes.ownedTupleIsFree
 refine wpAny_bind (wpAny_field hz rfl (x:=.none) rfl (wpAny_pure ?_))
 simp only[if_true]
 refine wpAny_bind (wpAny_rule ?_)
 refine wpAny_bind (wpAny_field hz rfl (x:=.ref TO) rfl ?_)
 refine wpAny_bind (wpAny_setField_rec hz (by simp) fun h₁ hz₁ hs₁=>?_)
 replace hs₁:Heap.SameBut z hp h₁:= hs₁
 replace hz₁:IsZip h₁ z TI TO .ellipsis:=hz₁
 refine wpAny_bind ?_
 simp only[List.zipIdx_cons,List.zipIdx_nil,List.forIn_cons,List.forIn_nil]
 refine wpAny_bind (wpAny_bind (wpAny_onRaise ?_))
 show wpAny _ _ (Builtin.SmallTypes.nextOf (.ref i1) >>= _) _ _ _
 refine wpAny_bind (D1.item k1 _ _ _ hk1 (D1.frame _ _ _ h1 fun b hb o e=>hs₁.extBut b o (UL hb).1 e) fun x h₂ tk hPx h1₂ hs₂=>wpAny_pure ?_)
 replace hs₂:Heap.SameBut i1 h₁ h₂:= hs₂
 have hTO₂:IsPair h₂ TO a b:=hs₂.extBut _ _ D.TOi1 (hs₁.extBut _ _ D.TOz hTO)
 refine wpAny_bind (wpAny_seqItems hTO₂ rfl ?_)
 refine wpAny_bind (wpAny_updateSeq_pair hTO₂ fun h₃ hTO₃ hs₃=>?_)
 replace hs₃:Heap.SameBut TO h₂ h₃:= hs₃
 replace hTO₃:IsPair h₃ TO x b:=hTO₃
 refine wpAny_bind (wpAny_letGo (wpAny_pure ?_))
 refine wpAny_bind (wpAny_bind (wpAny_onRaise ?_))
 show wpAny _ _ (Builtin.SmallTypes.nextOf (.ref i2) >>= _) _ _ _
 refine wpAny_bind (D2.item k2 _ _ _ hk2 (D2.frame _ _ _ h2 fun b hb o e=>hs₃.extBut b o (Tp hb).2.1 (hs₂.extBut b o (Tp hb).2.2 (hs₁.extBut b o (Tp hb).1 e))) fun y h₄ tk' hPy h2₄ hs₄=>wpAny_pure ?_)
 replace hs₄:Heap.SameBut i2 h₃ h₄:= hs₄
 have hTO₄:IsPair h₄ TO x b:=hs₄.extBut _ _ D.TOi2 hTO₃
 refine wpAny_bind (wpAny_seqItems hTO₄ rfl ?_)
 refine wpAny_bind (wpAny_updateSeq_pair hTO₄ fun h₅ hTO₅ hs₅=>?_)
 replace hs₅:Heap.SameBut TO h₄ h₅:= hs₅
 replace hTO₅:IsPair h₅ TO x y:=hTO₅
 refine wpAny_bind (wpAny_letGo (wpAny_pure (wpAny_pure ?_)))
 refine wpAny_bind (wpAny_seqItems hTO₅ rfl ?_)
 refine wpAny_bind (wpAny_newTuple ?_)
 have hsz:h₅.objs.size=hp.objs.size:=by rw[hs₅.1,hs₄.1,hs₃.1,hs₂.1,hs₁.1]
 have hz₅:IsZip h₅ z TI TO .ellipsis:=hs₅.extBut _ _ D.TOz.symm (hs₄.extBut _ _ D.i2z.symm (hs₃.extBut _ _ D.TOz.symm (hs₂.extBut _ _ D.i1z.symm hz₁)))
 have hk₅:∀c o,c≠z→c≠TO→c≠i1→c≠i2→hp.get? c=some o→h₅.get? c=some o:=fun c o c1 c2 c3 c4 e=>
  hs₅.extBut _ _ c2 (hs₄.extBut _ _ c4 (hs₃.extBut _ _ c2 (hs₂.extBut _ _ c3 (hs₁.extBut _ _ c1 e))))
 have h1₅:S1 (k1+1) h₅:= D1.frame _ _ _ h1₂ fun b hb o e=>hs₅.extBut b o (UL hb).2.1 (hs₄.extBut b o (UL hb).2.2 (hs₃.extBut b o (UL hb).2.1 e))
 have h2₅:S2 (k2+1) h₅:= D2.frame _ _ _ h2₄ fun b hb o e=>hs₅.extBut b o (Tp hb).2.1 e
 have hzlt:z<h₅.objs.size:=Heap.lt_size hz₅
 show wpAny _ _ (Builtin.SmallTypes.ownedTupleHandOut (.ref z) (.ref h₅.objs.size) >>= _) _ _ _
 refine wpAny_bind ?_
 unfold Builtin.SmallTypes.ownedTupleHandOut
 have hz₆:IsZip (h₅.push {cls:=.type "tuple",data:=.seq #[x,y]}) z TI TO .ellipsis:=Heap.get?_push_of_some _ hz₅
 refine wpAny_bind (wpAny_setField_rec hz₆ (by simp) fun h₇ hz₇ hs₇=>?_)
 replace hz₇:IsZip h₇ z TI TO (rawInt h₅.objs.size):=hz₇
 refine wpAny_setField_rec hz₇ (by simp) fun h₈ hz₈ hs₈=>?_
 replace hz₈:IsZip h₈ z TI TO (rawInt h₅.objs.size):=hz₈
 have up:∀c o,c≠z→h₅.get? c=some o→h₈.get? c=some o:=fun c o c1 e=>hs₈.extBut _ _ c1 (hs₇.extBut _ _ c1 (Heap.get?_push_of_some _ e))
 have hT₈:IsPair h₈ h₅.objs.size x y:=hs₈.extBut _ _ (Nat.ne_of_gt hzlt) (hs₇.extBut _ _ (Nat.ne_of_gt hzlt) (Heap.get?_push_size _ rfl))
 have hz8:h₈.objs.size=h₅.objs.size+1:=by rw[hs₈.1,hs₇.1,Heap.size_push]
 rw[hsz] at hz₈ hT₈ hz8
 refine wpAny_pure ⟨_,rfl,?_⟩
 show Q (.ref h₅.objs.size) _
 rw[hsz]
 exact hQ x y h₈ tk' hPx hPy hz₈ (up _ _ D.TOz hTO₅) (D1.frame _ _ _ h1₅ fun b hb o e=>up b o (UL hb).1 e) (D2.frame _ _ _ h2₅ fun b hb o e=>up b o (Tp hb).1 e) hT₈ hz8 fun c o c1 c2 c3 c4 e=>up c o c1 (hk₅ c o c1 c2 c3 c4 e)
theorem qd{z TI TO i1 i2:Addr}{f1 f2:List Addr}{n1 n2 k1 k2:Nat}{P1 P2:Nat→Value→Prop}{S1 S2:Nat→Heap→Prop}{a b:Value}{Q:Fin→Shared→Prop}(D:ZAp z TI TO i1 i2 f1 f2)
 (D1:Draws prog w A i1 f1 n1 P1 S1)(D2:Draws prog w A i2 f2 n2 P2 S2)
 (hz:IsZip s.heap z TI TO .none)(hTI:IsPair s.heap TI (.ref i1) (.ref i2))(hTO:IsPair s.heap TO a b)(h1:S1 k1 s.heap)(h2:S2 k2 s.heap)(hend:k1=n1∨(k1<n1∧k2=n2))
 (hE:∀h' e tk,(∀c o,c≠z→c≠TO→c≠i1→c≠i2→s.heap.get? c=some o→h'.get? c=some o)→(∃o,h'.get? e=some o∧o.cls=.type "StopIteration")→E (.ref e) {s with heap:=h',toks:=tk}) :
 wpAny (model prog w) A (Builtin.«zip.__next__» ⟨[.ref z],[]⟩) Q E s:=by
 have UL:∀{b},b∈f1→b≠z∧b≠TO∧b≠i2:=fun hb=>⟨fun e=>D.z1 (e▸hb),fun e=>D.t1 (e▸hb),fun e=>D.a2 (e▸hb)⟩
 have Tp:∀{b},b∈f2→b≠z∧b≠TO∧b≠i1:=fun hb=>⟨fun e=>D.z2 (e▸hb),fun e=>D.t2 (e▸hb),fun e=>D.a1 (e▸hb)⟩
 obtain⟨hp,g,d,tk0,os⟩:=s
 show wpAny _ _ (field (.ref z) 2 >>= _) _ _ _
 refine wpAny_bind (wpAny_field hz rfl (x:=.bool false) rfl ?_)
 show wpAny _ _ (field (.ref z) 3 >>= _) _ _ _
 refine wpAny_bind (wpAny_field hz rfl (x:=.ref TI) rfl ?_)
 refine wpAny_bind (wpAny_seqItems hTI rfl ?_)
 show wpAny _ _ (Builtin.SmallTypes.ownedTupleIsFree (.ref z) >>= _) _ _ _
 refine wpAny_bind ?_
 unfold Builtin.SmallTypes.ownedTupleIsFree
 refine wpAny_bind (wpAny_field hz rfl (x:=.none) rfl (wpAny_pure ?_))
 simp only[if_true]
 refine wpAny_bind (wpAny_rule ?_)
 refine wpAny_bind (wpAny_field hz rfl (x:=.ref TO) rfl ?_)
 refine wpAny_bind (wpAny_setField_rec hz (by simp) fun h₁ hz₁ hs₁=>?_)
 replace hs₁:Heap.SameBut z hp h₁:= hs₁
 replace hz₁:IsZip h₁ z TI TO .ellipsis:=hz₁
 refine wpAny_bind ?_
 simp only[List.zipIdx_cons,List.zipIdx_nil,List.forIn_cons,List.forIn_nil]
 refine wpAny_bind (wpAny_bind (wpAny_onRaise ?_))
 show wpAny _ _ (Builtin.SmallTypes.nextOf (.ref i1) >>= _) _ _ _
 rcases hend with rfl|⟨hk1,rfl⟩
 ·refine wpAny_bind (D1.done _ _ _ (D1.frame _ _ _ h1 fun b hb o e=>hs₁.extBut b o (UL hb).1 e) fun h₂ e hs₂ he=>?_)
  obtain⟨oe,hoe,hce⟩:=he
  replace hs₂:Heap.ExtBut i1 h₁ h₂:= hs₂
  have hz₂:IsZip h₂ z TI TO .ellipsis:=hs₂ _ _ D.i1z.symm hz₁
  have hez:e≠z:=fun x=>by subst x;rw[hz₂] at hoe;cases hoe;simp at hce
  exact wpAny_setField_rec hz₂ (by simp) fun h₃ _ hs₃=>hE h₃ e tk0 (fun c o c1 _ c3 _ x=>hs₃.extBut _ _ c1 (hs₂ _ _ c3 (hs₁.extBut _ _ c1 x))) ⟨oe,hs₃.extBut _ _ hez hoe,hce⟩
 ·refine wpAny_bind (D1.item k1 _ _ _ hk1 (D1.frame _ _ _ h1 fun b hb o e=>hs₁.extBut b o (UL hb).1 e) fun x h₂ tk hPx h1₂ hs₂=>wpAny_pure ?_)
  replace hs₂:Heap.SameBut i1 h₁ h₂:= hs₂
  have hTO₂:IsPair h₂ TO a b:=hs₂.extBut _ _ D.TOi1 (hs₁.extBut _ _ D.TOz hTO)
  refine wpAny_bind (wpAny_seqItems hTO₂ rfl ?_)
  refine wpAny_bind (wpAny_updateSeq_pair hTO₂ fun h₃ hTO₃ hs₃=>?_)
  replace hs₃:Heap.SameBut TO h₂ h₃:= hs₃
  refine wpAny_bind (wpAny_letGo (wpAny_pure ?_))
  refine wpAny_bind (wpAny_bind (wpAny_onRaise ?_))
  show wpAny _ _ (Builtin.SmallTypes.nextOf (.ref i2) >>= _) _ _ _
  refine wpAny_bind (D2.done _ _ _ (D2.frame _ _ _ h2 fun b hb o e=>hs₃.extBut b o (Tp hb).2.1 (hs₂.extBut b o (Tp hb).2.2 (hs₁.extBut b o (Tp hb).1 e))) fun h₄ e hs₄ he=>?_)
  obtain⟨oe,hoe,hce⟩:=he
  replace hs₄:Heap.ExtBut i2 h₃ h₄:= hs₄
  have hz₄:IsZip h₄ z TI TO .ellipsis:=hs₄ _ _ D.i2z.symm (hs₃.extBut _ _ D.TOz.symm (hs₂.extBut _ _ D.i1z.symm hz₁))
  have hez:e≠z:=fun x=>by subst x;rw[hz₄] at hoe;cases hoe;simp at hce
  exact wpAny_setField_rec hz₄ (by simp) fun h₅ _ hs₅=>hE h₅ e tk (fun c o c1 c2 c3 c4 x=>hs₅.extBut _ _ c1 (hs₄ _ _ c4 (hs₃.extBut _ _ c2 (hs₂.extBut _ _ c3 (hs₁.extBut _ _ c1 x))))) ⟨oe,hs₅.extBut _ _ hez hoe,hce⟩
end
section
variable{prog:Program}{w:World}{A:Around}{E:Value→Shared→Prop}{s:Shared}
theorem j_{z TI TO i1 i2:Addr}{f1 f2:List Addr}{n1 n2 k1 k2:Nat}{P1 P2:Nat→Value→Prop}{S1 S2:Nat→Heap→Prop}{a b:Value}{Q:Option Value→Shared→Prop}(D:ZAp z TI TO i1 i2 f1 f2)
 (D1:Draws prog w A.in1 i1 f1 n1 P1 S1)(D2:Draws prog w A.in1 i2 f2 n2 P2 S2)
 (hz:IsZip s.heap z TI TO .none)(hTI:IsPair s.heap TI (.ref i1) (.ref i2))(hTO:IsPair s.heap TO a b)(h1:S1 k1 s.heap)(h2:S2 k2 s.heap)(hk1:k1<n1)(hk2:k2<n2)
 (hQ:∀x y h' tk,P1 k1 x→P2 k2 y→IsZip h' z TI TO (rawInt s.heap.objs.size)→IsPair h' TO x y→S1 (k1+1) h'→S2 (k2+1) h'→IsPair h' s.heap.objs.size x y→h'.objs.size=s.heap.objs.size+1→
   (∀c o,c≠z→c≠TO→c≠i1→c≠i2→s.heap.get? c=some o→h'.get? c=some o)→Q (some (.ref s.heap.objs.size)) {s with heap:=h',toks:=tk}) :
 wpAny (model prog w) A (pyNext (.ref z)) Q E s:=by
 have hT:s.TypeIs (.ref z) "zip" := ⟨_,hz,rfl⟩
 unfold pyNext
 exact wpAny_bind (wpAny_attempt (wpAny_callSpecial?_slot (name:=Str.ofString "__next__") hT F.slot_zip_next
  (wpAny_call_entry F.slot_zip_next hT F.entry_zip_next
    (oG D D1 D2 hz hTI hTO h1 h2 hk1 hk2 fun x y h' tk a0 b0 a1 a2 a3 a4 a5 a6 a7=>wpAny_pure (hQ x y h' tk a0 b0 a1 a2 a3 a4 a5 a6 a7)) (F.args_zip_next_1 _))))
theorem mH{z TI TO i1 i2:Addr}{f1 f2:List Addr}{n1 n2 k1 k2:Nat}{P1 P2:Nat→Value→Prop}{S1 S2:Nat→Heap→Prop}{a b:Value}{Q:Option Value→Shared→Prop}(D:ZAp z TI TO i1 i2 f1 f2)
 (D1:Draws prog w A.in1 i1 f1 n1 P1 S1)(D2:Draws prog w A.in1 i2 f2 n2 P2 S2)
 (hz:IsZip s.heap z TI TO .none)(hTI:IsPair s.heap TI (.ref i1) (.ref i2))(hTO:IsPair s.heap TO a b)(h1:S1 k1 s.heap)(h2:S2 k2 s.heap)(hend:k1=n1∨(k1<n1∧k2=n2))
 (hQ:∀h' tk,(∀c o,c≠z→c≠TO→c≠i1→c≠i2→s.heap.get? c=some o→h'.get? c=some o)→Q none {s with heap:=h',toks:=tk}):wpAny (model prog w) A (pyNext (.ref z)) Q E s:=by
 have hT:s.TypeIs (.ref z) "zip" := ⟨_,hz,rfl⟩
 unfold pyNext
 refine wpAny_bind (wpAny_attempt (wpAny_callSpecial?_slot (name:=Str.ofString "__next__") hT F.slot_zip_next
  (wpAny_call_entry F.slot_zip_next hT F.entry_zip_next (qd D D1 D2 hz hTI hTO h1 h2 hend fun h' e tk hk he=>?_) (F.args_zip_next_1 _))))
 obtain⟨o,ho,hc⟩:=he
 refine wpAny_bind (wpAny_isInstance (T:= "StopIteration") (b:=true) ⟨o,ho,hc⟩ isSubtype_stop ?_)
 exact wpAny_pure (hQ _ _ hk)
end
def pP(K:PySem.W.Frag)(b:Bool)(H:Hp)(a:Addr)(xs:List V):Prop:=if b=true then cY K H a xs else aC K H a xs
def eY(b:Bool)(h:Heap)(it l:Addr)(i:Nat):Prop:=if b=true then h.IsTupleIter it l i else h.IsListIter it l i
def Fo(b:Bool)(h:Heap)(l:Addr)(its:Array Value):Prop:=if b=true then h.IsTuple l its else h.IsList l its
def nmB(b:Bool):String:=if b=true then "tuple_iterator" else "list_iterator"
theorem m_{prog:Program}{w:World}{A:Around}(b:Bool)(hh:A.handled=none)(it l:Addr)(hne:l≠it)(items:Array Value) :
 Draws prog w A it [it,l] items.size (fun i v=>items[i]?=some v) (fun i h=>eY b h it l i∧Fo b h l items):=by
 cases b with
 |true=>exact wZ hh it l hne items
 |false=>exact Draws.list hh it l hne items
theorem eY.ex{b:Bool}{h:Heap}{it l:Addr}{i:Nat}(x:eY b h it l i):∃o,h.get? it=some o∧o.cls=.type (nmB b)∧o.data=.fields #[.ref l,.int i 0]:=by
 cases b with
 |true=>exact x
 |false=>exact x
theorem eY.of{b:Bool}{h:Heap}{it l:Addr}{i:Nat}{o:Obj}(h1:h.get? it=some o)(h2:o.cls=.type (nmB b))(h3:o.data=.fields #[.ref l,.int i 0]):eY b h it l i:=by
 cases b with
 |true=>exact⟨o,h1,h2,h3⟩
 |false=>exact⟨o,h1,h2,h3⟩
theorem eY.keep{b:Bool}{h h':Heap}{it l:Addr}{i:Nat}(x:eY b h it l i)(k:∀o,h.get? it=some o→h'.get? it=some o):eY b h' it l i:=by
 obtain⟨o,h1,h2,h3⟩:=x.ex
 exact .of (k o h1) h2 h3
def Tq(K:PySem.W.Frag)(b:Bool)(H:Hp)(l:Addr)(i:Nat)(xs:List V):Prop:=xs.length≤i∧∀j,j<i→∃ys y,pP K b H l ys∧ys[j]?=some y
def Itz(K:PySem.W.Frag)(b1 b2:Bool)(l1 l2:Addr):It:=
 ⟨fun i H=>(∃xs x,pP K b1 H l1 xs∧xs[i]?=some x)∧∃ys y,pP K b2 H l2 ys∧ys[i]?=some y,
  fun i H z H'=>∃x y T,(∀xs,pP K b1 H l1 xs→xs[i]?=some x)∧(∀ys,pP K b2 H l2 ys→ys[i]?=some y)∧H T=none∧z=.ref T∧H'=upd H T (.tup [x,y]),
  fun i H=>(∃xs,pP K b1 H l1 xs)∧(∃ys,pP K b2 H l2 ys)∧((∃xs,pP K b1 H l1 xs∧Tq K b1 H l1 i xs)∨((∃xs x,pP K b1 H l1 xs∧xs[i]?=some x)∧∃ys,pP K b2 H l2 ys∧Tq K b2 H l2 i ys))⟩
section
variable{X:Cx}{pins:List (Addr×Obj)}{σ:L2.St}{H:Hp}{s:Shared}
theorem qT{b:Bool}{a:Addr}{xs:List V}(I:Inv X pins σ H s)(h:pP X.K b H a xs):∃its:List Value,Vals xs its∧Fo b s.heap a its.toArray∧xs.length≤sizeLine:=by
 cases b with
 |true=>
  obtain⟨its,r,p,z⟩:=I.tuple h
  exact⟨its,r,p,z⟩
 |false=>
  obtain⟨its,r,p,z⟩:=I.list h
  exact⟨its,r,p.isList,z⟩
theorem qU{b:Bool}{a:Addr}{xs ys:List V}(I:Inv X pins σ H s)(h:pP X.K b H a xs)(h':pP X.K b H a ys):xs=ys:=by
 cases b with
 |true=>exact I.qm h h'
 |false=>exact I.nq h h'
theorem UW{b:Bool}{l:Addr}{i:Nat}{xs:List V}(I:Inv X pins σ H s)(h:pP X.K b H l xs)(q:Tq X.K b H l i xs):xs.length=i:=by
 obtain⟨h1,h2⟩:=q
 refine Nat.le_antisymm h1 ?_
 cases i with
 |zero=>omega
 |succ i=>
  obtain⟨ys,y,e1,e2⟩:=h2 i (by omega)
  rw[qU I e1 h] at e2
  have:=(List.getElem?_eq_some_iff.mp e2).1
  omega
theorem DQ{bb:Bool}{a b:Addr}{xs:List V}(I:Inv X pins σ H s)(f:fM X pins H b)(h:pP X.K bb H a xs):a≠b:=by
 intro e
 subst e
 have hk:∀o,X.K.lookup a=some o→False:=fun o e=>by
  have hb:=I.ok.mod.kin a o e
  rcases f.2.2.2.1 with z|z
  ·exact I.ok.Eh a o hb z
  ·exact absurd (Nat.lt_of_lt_of_le (Heap.lt_size (I.ok.bs a o hb).1) z) (Nat.lt_irrefl _)
 have hr:∀u,Rd H a u→False:=fun u r=>by
  rcases r with r|⟨o,r⟩<;>(rw[f.1] at r;cases r)
 cases bb with
 |true=>
  have h':cY X.K H a xs:=h
  rcases h' with q|⟨o,_,_,q,_⟩
  ·exact hr _ q
  ·exact hk o q
 |false=>
  have h':aC X.K H a xs:=h
  rcases h' with q|⟨o,_,_,q,_⟩
  ·exact hr _ q
  ·exact hk o q
end
theorem Je{P:Program}{w:World}{K:PySem.W.Frag}{elts:List Expr}{k:Nat}{pos:Pos}(b1 b2:Bool)(l1 l2 z TI TO i1 i2:Addr)(nd:[z,TI,TO,i1,i2].Nodup) :
 Turn P w K (.Tuple elts k pos) (Itz K b1 b2 l1 l2) [z,TI,TO,i1,i2] z (fun i h=>IsZip h z TI TO .none∧IsPair h TI (.ref i1) (.ref i2)∧(∃a b,IsPair h TO a b)∧eY b1 h i1 l1 i∧eY b2 h i2 l2 i) where
 mem:=by simp
 obj:=fun i h st b hb=>by
  obtain⟨hz,hTI,⟨x,y,hTO⟩,h1,h2⟩:=st
  simp only[List.mem_cons,List.not_mem_nil,or_false] at hb
  rcases hb with rfl|rfl|rfl|rfl|rfl
  ·exact⟨_,hz,fun v z=>by have z':Data.fields _=Data.cell v:=z;cases z'⟩
  ·exact⟨_,hTI,fun v z=>by have z':Data.seq _ _=Data.cell v:=z;cases z'⟩
  ·exact⟨_,hTO,fun v z=>by have z':Data.seq _ _=Data.cell v:=z;cases z'⟩
  ·obtain⟨o,e1,c,d⟩:=h1.ex
   exact⟨o,e1,fun v z=>by rw[d] at z;cases z⟩
  ·obtain⟨o,e1,c,d⟩:=h2.ex
   exact⟨o,e1,fun v z=>by rw[d] at z;cases z⟩
 keep:=fun i h h' st k=>by
  obtain⟨hz,hTI,⟨x,y,hTO⟩,h1,h2⟩:=st
  exact⟨k z (by simp) _ hz,k TI (by simp) _ hTI,⟨x,y,k TO (by simp) _ hTO⟩,h1.keep fun o q=>k i1 (by simp) o q,h2.keep fun o q=>k i2 (by simp) o q⟩
 item:=by
  intro X hP hw hK hc i pins s σ H E I hf st hg
  subst hP hw hK
  obtain⟨hz,hTI,⟨a,b,hTO⟩,h1,h2⟩:=st
  obtain⟨⟨xs,x,hq1,hx⟩,ys,y,hq2,hy⟩:=hg
  obtain⟨Aq,rv1,p1,_⟩:=qT I hq1
  obtain⟨its2,rv2,p2,_⟩:=qT I hq2
  obtain⟨u1,hu1,ru1⟩:=rv1.get hx
  obtain⟨u2,hu2,ru2⟩:=rv2.get hy
  have ne1:∀b∈[z,TI,TO,i1,i2],l1≠b:=fun b hb=>DQ I (hf b hb) hq1
  have ne2:∀b∈[z,TI,TO,i1,i2],l2≠b:=fun b hb=>DQ I (hf b hb) hq2
  have hh:X.A.in1.handled=none:=I.ok.hd hc
  simp only[List.nodup_cons,List.mem_cons,List.not_mem_nil,or_false,not_or,List.nodup_nil,not_false_eq_true,and_true] at nd
  obtain⟨⟨n1,n2,n3,n4⟩,⟨n5,n6,n7⟩,⟨n8,n9⟩,n10⟩:=nd
  have D:ZAp z TI TO i1 i2 [i1,l1] [i2,l2]:=by
   refine⟨Ne.symm n1,Ne.symm n2,Ne.symm n3,Ne.symm n4,n5,n6,n7,n8,n9,n10,?_,?_,?_,?_,?_,?_⟩<;>simp only[List.mem_cons,List.not_mem_nil,or_false,not_or]
   ·exact⟨n3,(ne1 z (by simp)).symm⟩
   ·exact⟨n4,(ne2 z (by simp)).symm⟩
   ·exact⟨n8,(ne1 TO (by simp)).symm⟩
   ·exact⟨n9,(ne2 TO (by simp)).symm⟩
   ·exact⟨n10,(ne2 i1 (by simp)).symm⟩
   ·exact⟨Ne.symm n10,(ne1 i2 (by simp)).symm⟩
  have lt1:i<Aq.toArray.size:=by
   rw[List.size_toArray]
   exact(List.getElem?_eq_some_iff.mp hu1).1
  have Hh:i<its2.toArray.size:=by
   rw[List.size_toArray]
   exact(List.getElem?_eq_some_iff.mp hu2).1
  have hlt:∀b∈[z,TI,TO,i1,i2],b<s.heap.objs.size:=fun b hb=>by
   simp only[List.mem_cons,List.not_mem_nil,or_false] at hb
   rcases hb with rfl|rfl|rfl|rfl|rfl
   ·exact Heap.lt_size hz
   ·exact Heap.lt_size hTI
   ·exact Heap.lt_size hTO
   ·obtain⟨o,e1,_⟩:=h1.ex;exact Heap.lt_size e1
   ·obtain⟨o,e1,_⟩:=h2.ex;exact Heap.lt_size e1
  refine j_ D (m_ (A:=X.A.in1) b1 hh i1 l1 (ne1 i1 (by simp)) Aq.toArray) (m_ (A:=X.A.in1) b2 hh i2 l2 (ne2 i2 (by simp)) its2.toArray) hz hTI hTO ⟨h1,p1⟩ ⟨h2,p2⟩ lt1 Hh fun x' y' h' tk hPx hPy hz' ZlT s1 s2 hT hsz hk=>?_
  have ex:x'=u1:=by
   have:Aq.toArray[i]?=some x':=hPx
   rw[show Aq.toArray[i]?=some u1 by simpa using hu1] at this
   exact(Option.some.inj this).symm
  have ey:y'=u2:=by
   have:its2.toArray[i]?=some y':=hPy
   rw[show its2.toArray[i]?=some u2 by simpa using hu2] at this
   exact(Option.some.inj this).symm
  subst ex ey
  refine⟨.ref s.heap.objs.size,rfl,wpAny_letOwnedTupleGo_zip hz' fun h'' hz'' hs'=>?_⟩
  have hs2:Heap.SameBut z h' h'':=hs'
  have I2:=oE (fp:=[z,TI,TO,i1,i2]) (h':=h'') (t':=tk) I ru1 ru2 ⟨_,(hs2.2 _ (Nat.ne_of_gt (hlt z (by simp)))).trans hT,rfl⟩ (fun b o hb q=>by
   have hne:∀c∈[z,TI,TO,i1,i2],b≠c:=fun c hc e=>hb (e▸hc)
   exact(hs2.2 b (hne z (by simp))).trans (hk b o (hne z (by simp)) (hne TO (by simp)) (hne i1 (by simp)) (hne i2 (by simp)) q)) hf hlt
  refine⟨.ref s.heap.objs.size,_,I2,rfl,⟨x,y,s.heap.objs.size,fun zs hzs=>by rw[qU I hzs hq1];exact hx,fun zs hzs=>by rw[qU I hzs hq2];exact hy,I.fresh,rfl,rfl⟩,
   ⟨hz'',(hs2.2 TI (Ne.symm n1)).trans (hk TI _ (Ne.symm n1) n5 n6 n7 hTI),⟨_,_,(hs2.2 TO (Ne.symm n2)).trans ZlT⟩,s1.1.keep fun o q=>(hs2.2 i1 (Ne.symm n3)).trans q,s2.1.keep fun o q=>(hs2.2 i2 (Ne.symm n4)).trans q⟩,fun b hb=>?_⟩
  rw[ğ (Nat.ne_of_lt (hlt b hb))];exact(hf b hb).1
 done:=by
  intro X hP hw hK hc i pins s σ H E I hf st hg
  subst hP hw hK
  obtain⟨hz,hTI,⟨a,b,hTO⟩,h1,h2⟩:=st
  obtain⟨⟨xs,hq1⟩,⟨ys,hq2⟩,hend'⟩:=hg
  have hend:xs.length=i∨(i<xs.length∧ys.length=i):=by
   rcases hend' with⟨xs',q1,q2⟩|⟨⟨xs',x,q1,q2⟩,ys',q3,q4⟩
   ·left;rw[qU I hq1 q1];exact UW I q1 q2
   ·right
    rw[qU I hq1 q1,qU I hq2 q3]
    exact⟨(List.getElem?_eq_some_iff.mp q2).1,UW I q3 q4⟩
  obtain⟨Aq,rv1,p1,_⟩:=qT I hq1
  obtain⟨its2,rv2,p2,_⟩:=qT I hq2
  have hl1:=rv1.length
  have hl2:=rv2.length
  have ne1:∀b∈[z,TI,TO,i1,i2],l1≠b:=fun b hb=>DQ I (hf b hb) hq1
  have ne2:∀b∈[z,TI,TO,i1,i2],l2≠b:=fun b hb=>DQ I (hf b hb) hq2
  have hh:X.A.in1.handled=none:=I.ok.hd hc
  simp only[List.nodup_cons,List.mem_cons,List.not_mem_nil,or_false,not_or,List.nodup_nil,not_false_eq_true,and_true] at nd
  obtain⟨⟨n1,n2,n3,n4⟩,⟨n5,n6,n7⟩,⟨n8,n9⟩,n10⟩:=nd
  have D:ZAp z TI TO i1 i2 [i1,l1] [i2,l2]:=by
   refine⟨Ne.symm n1,Ne.symm n2,Ne.symm n3,Ne.symm n4,n5,n6,n7,n8,n9,n10,?_,?_,?_,?_,?_,?_⟩<;>simp only[List.mem_cons,List.not_mem_nil,or_false,not_or]
   ·exact⟨n3,(ne1 z (by simp)).symm⟩
   ·exact⟨n4,(ne2 z (by simp)).symm⟩
   ·exact⟨n8,(ne1 TO (by simp)).symm⟩
   ·exact⟨n9,(ne2 TO (by simp)).symm⟩
   ·exact⟨n10,(ne2 i1 (by simp)).symm⟩
   ·exact⟨Ne.symm n10,(ne1 i2 (by simp)).symm⟩
  refine mH D (m_ (A:=X.A.in1) b1 hh i1 l1 (ne1 i1 (by simp)) Aq.toArray) (m_ (A:=X.A.in1) b2 hh i2 l2 (ne2 i2 (by simp)) its2.toArray) hz hTI hTO ⟨h1,p1⟩ ⟨h2,p2⟩ ?_ fun h' tk hk=>⟨rfl,turns (fp:=[z,TI,TO,i1,i2]) (t':=tk) I (fun b o hb q=>?_) hf⟩
  ·rw[List.size_toArray,List.size_toArray]
   omega
  ·have hne:∀c∈[z,TI,TO,i1,i2],b≠c:=fun c hc e=>hb (e▸hc)
   exact hk b o (hne z (by simp)) (hne TO (by simp)) (hne i1 (by simp)) (hne i2 (by simp)) q
 self:=fun _ _ _ _ _ st h=>wpAny_pyIter_zip st.1 h
section
abbrev zB1(b:Bool)(h:Heap)(l1:Addr):Heap:=h.push {cls:=.type (nmB b),data:=.fields #[.ref l1,.int 0 0]}
abbrev zB2(b b':Bool)(h:Heap)(l1 l2:Addr):Heap:=(zB1 b h l1).push {cls:=.type (nmB b'),data:=.fields #[.ref l2,.int 0 0]}
abbrev zB3(b b':Bool)(h:Heap)(l1 l2:Addr):Heap:=(zB2 b b' h l1 l2).push {cls:=.type "tuple",data:=.seq #[.ref h.objs.size,.ref (zB1 b h l1).objs.size]}
abbrev zB4(b b':Bool)(h:Heap)(l1 l2:Addr):Heap:=(zB3 b b' h l1 l2).push {cls:=.type "tuple",data:=.seq #[.none,.none]}
abbrev YZ(b b':Bool)(h:Heap)(l1 l2:Addr):Heap:=(zB4 b b' h l1 l2).push {cls:=.type "zip",data:=.fields #[.none,.bool false,.bool false,.ref (zB2 b b' h l1 l2).objs.size,.ref (zB3 b b' h l1 l2).objs.size]}
theorem xg{prog:Program}{w:World}{A:Around}{E:Value→Shared→Prop}{s:Shared}{b:Bool}{l:Addr}{its:Array Value}{Q:Value→Shared→Prop}(hl:Fo b s.heap l its)
 (hQ:Q (.ref s.heap.objs.size) {s with heap:=s.heap.push {cls:=.type (nmB b),data:=.fields #[.ref l,.int 0 0]}}):wpAny (model prog w) A (pyIter (.ref l)) Q E s:=by
 cases b with
 |true=>exact wpAny_pyIter_tuple hl hQ
 |false=>exact wpAny_pyIter_list hl hQ
theorem Fo.push{b:Bool}{h:Heap}{l:Addr}{its:Array Value}(x:Fo b h l its)(o:Obj):Fo b (h.push o) l its:=by
 cases b with
 |true=>exact Heap.IsTuple.push x o
 |false=>exact Heap.IsList.push x o
theorem xq(b b':Bool)(l1 l2:Addr)(xs ys:Array Value) :
 Meets (Builtin.«zip.__new__» ⟨[.type "zip",.ref l1,.ref l2],[]⟩) (fun _ R s=>Fo b s.heap l1 xs∧Fo b' s.heap l2 ys∧
  R (.ok (.ret (.ref (zB4 b b' s.heap l1 l2).objs.size))) {s with heap:=YZ b b' s.heap l1 l2}):=
 .of_wp fun prog w A R s h=>by
   obtain⟨hp,g,d,tk,os⟩:=s;obtain⟨hl1,hl2,h⟩:=h
   have hsub:=sub_zip
   have hL1:Fo b (Shared.heap ⟨hp,g,d,tk,os⟩) l1 xs:=hl1
   have hL2:Fo b' (Shared.heap ⟨hp.push {cls:=.type (nmB b),data:=.fields #[.ref l1,.int 0 0]},g,d,tk,os⟩) l2 ys:=Fo.push hl2 _
   wp_walk using xg hL1,xg hL2
   exact⟨_,rfl,h⟩
variable{prog:Program}{w:World}{A:Around}{E:Value→Shared→Prop}{s:Shared}
theorem Ar{b b':Bool}{l1 l2:Addr}{xs ys:Array Value}{Q:Value→Shared→Prop}(hl1:Fo b s.heap l1 xs)(hl2:Fo b' s.heap l2 ys)
 (h:∀h',IsZip h' (s.heap.objs.size+4) (s.heap.objs.size+2) (s.heap.objs.size+3) .none→IsPair h' (s.heap.objs.size+2) (.ref s.heap.objs.size) (.ref (s.heap.objs.size+1))→
   IsPair h' (s.heap.objs.size+3) .none .none→eY b h' s.heap.objs.size l1 0→eY b' h' (s.heap.objs.size+1) l2 0→h'.objs.size=s.heap.objs.size+5→
   (∀c o,s.heap.get? c=some o→h'.get? c=some o)→Q (.ref (s.heap.objs.size+4)) {s with heap:=h'}) :
 wpAny (model prog w) A (call (.type "zip") [.ref l1,.ref l2]) Q E s:=by
 refine callType_new F.called_zip (by decide) (F.typeCall_zip_2 _ _) (F.newCall_zip_2 _ _) (fun obj=>F.args_object_init_3 obj _ _) F.entry_zip_new
  (xq b b' l1 l2 xs ys) ⟨hl1,hl2,?_⟩
 have z1:(zB1 b s.heap l1).objs.size=s.heap.objs.size+1:=Heap.size_push ..
 have z2:(zB2 b b' s.heap l1 l2).objs.size=s.heap.objs.size+2:=by rw[Heap.size_push,z1]
 have z3:(zB3 b b' s.heap l1 l2).objs.size=s.heap.objs.size+3:=by rw[Heap.size_push,z2]
 have z4:(zB4 b b' s.heap l1 l2).objs.size=s.heap.objs.size+4:=by rw[Heap.size_push,z3]
 have z5:(YZ b b' s.heap l1 l2).objs.size=s.heap.objs.size+5:=by rw[Heap.size_push,z4]
 have g5:(YZ b b' s.heap l1 l2).get? (zB4 b b' s.heap l1 l2).objs.size=some _:=Heap.get?_push_size _ rfl
 have g4:(YZ b b' s.heap l1 l2).get? (zB3 b b' s.heap l1 l2).objs.size=some _:=Heap.get?_push_of_some _ (Heap.get?_push_size _ rfl)
 have g3:(YZ b b' s.heap l1 l2).get? (zB2 b b' s.heap l1 l2).objs.size=some _:=Heap.get?_push_of_some _ (Heap.get?_push_of_some _ (Heap.get?_push_size _ rfl))
 have g2:(YZ b b' s.heap l1 l2).get? (zB1 b s.heap l1).objs.size=some _:=Heap.get?_push_of_some _ (Heap.get?_push_of_some _ (Heap.get?_push_of_some _ (Heap.get?_push_size _ rfl)))
 have g1:(YZ b b' s.heap l1 l2).get? s.heap.objs.size=some _:=Heap.get?_push_of_some _ (Heap.get?_push_of_some _ (Heap.get?_push_of_some _ (Heap.get?_push_of_some _ (Heap.get?_push_size _ rfl))))
 show _∧_
 rw[z2,z3,z4] at g5
 rw[z1,z2] at g3
 rw[z3] at g4
 rw[z1] at g2
 rw[z4]
 exact⟨⟨_,g5,rfl⟩,h _ g5 g3 g4 (.of g1 rfl rfl) (.of g2 rfl rfl) z5 fun c o x=>
  Heap.get?_push_of_some _ (Heap.get?_push_of_some _ (Heap.get?_push_of_some _ (Heap.get?_push_of_some _ (Heap.get?_push_of_some _ x))))⟩
end
section
variable{X:Cx}{elts:List Expr}{k:Nat}{tp:Pos}
def ZlU(K:PySem.W.Frag)(ta:TA):TI:=fun σ H R=>ta σ H fun vs H1=>∃b1 b2 l1 l2,vs=[.ref l1,.ref l2]∧(∃xs,pP K b1 H1 l1 xs)∧(∃xs,pP K b2 H1 l2 xs)∧R (Itz K b1 b2 l1 l2) H1
theorem Y_{e1 e2:Expr}{ta:TA}{p pos:Pos}(hg:Gl X "zip")(hm:X.mg "zip" =none)(ha:PA X [e1,e2] ta)(hs:starEach [e1,e2] X.env=[(false,eval e1 X.env),(false,eval e2 X.env)]:=by exact Ho rfl rfl)(hs2:starEach [e2] X.env=[(false,eval e2 X.env)]:=by exact İ rfl) :
 PI X (.Tuple elts k tp) (.Call (.Name "zip" p) [e1,e2] [] pos) (ZlU X.K ta):=by
 intro pins s σ H R I h
 refine Call_ (jM I hg hm boot_zip (PyProof.Rows.callWith_type1 (Ť (ha pos pins s σ H _ I h) fun us s1 ⟨vs,H1,I1,r1,q1⟩=>?_) (by rw[hs,hs2]) (by rw[hs2];rfl)))
 obtain⟨b1,b2,l1,l2,e,⟨xs,hq1⟩,⟨ys,hq2⟩,q⟩:=q1
 subst e
 obtain⟨u1,u2,rfl,ru1,ru2⟩:=vals2 r1
 cases ru1
 cases ru2
 obtain⟨Aq,rv1,p1,_⟩:=qT I1 hq1
 obtain⟨its2,rv2,p2,_⟩:=qT I1 hq2
 refine Ar p1 p2 fun h' hz hTI hTO h1 h2 hsz hk=>?_
 have I2:Inv X pins σ H1 {s1 with heap:=h'}:=I1.kept (t':=s1.toks) hk
 refine wpAny_pyIter_zip (s:={s1 with heap:=h'}) hz ⟨s1.heap.objs.size+4,[s1.heap.objs.size+4,s1.heap.objs.size+2,s1.heap.objs.size+3,s1.heap.objs.size,s1.heap.objs.size+1],_,_,H1,rfl,I2,Je b1 b2 l1 l2 _ _ _ _ _ (by simp),⟨hz,hTI,⟨_,_,hTO⟩,h1,h2⟩,fun b hb=>?_,q⟩
 have hb':s1.heap.objs.size≤b:=by
  simp only[List.mem_cons,List.not_mem_nil,or_false] at hb
  rcases hb with rfl|rfl|rfl|rfl|rfl<;>omega
 exact I1.Ei hb' (I1.hok.fresh hb')
end
def jy:List PV→List PV→List PV
 |p::ps,q::qs=>.tup [p,q]::jy ps qs
 |_,_=>[]
theorem xr:∀(ps qs:List PV) (i:Nat) (r:PV),(jy ps qs)[i]?=some r→∃p q,ps[i]?=some p∧qs[i]?=some q∧r=.tup [p,q]
 | [],_,_,_,h=>by simp[jy] at h
 |_::_,[],_,_,h=>by simp[jy] at h
 |p::ps,q::qs,0,r,h=>by
  have h':some (PV.tup [p,q])=some r:=h
  cases h'
  exact⟨p,q,rfl,rfl,rfl⟩
 |p::ps,q::qs,i+1,r,h=>xr ps qs i r h
theorem xu:∀(ps qs:List PV),(jy ps qs).length=min ps.length qs.length
 | [],_=>by simp[jy]
 |_::_,[]=>by simp[jy]
 |_::ps,_::qs=>by
  show(jy ps qs).length+1=_
  rw[xu ps qs,List.length_cons,List.length_cons]
  omega
def Fp(m1 m2:M (List PV)):M (List PV):=fun ρ=>(m1 ρ).bind fun ps ρ1=>(m2 ρ1).bind fun qs ρ2=>.ok (jy ps qs) ρ2
def Itb(K:PySem.W.Frag)(b:Bool)(a:Addr):It:=if b=true then Itt K a else Xh K a
theorem oH{K:KK}{L F:Hp}{b:Bool}{a:Addr}{ps:List PV}(h:fC K L F (Itb K.K b a) ps){c:Ctx}{F2 H:Hp}{σ:L2.St}{ρ:Ŏ}(rel:Rel K c F2 H σ ρ)(sF:Same F F2)(sL:Same L H)(i:Nat)(p:PV)(hp:ps[i]?=some p) :
 (∃xs x,pP K.K b H a xs∧xs[i]?=some x)∧∀x,(∀xs,pP K.K b H a xs→xs[i]?=some x)→∃F3,Rel K c F3 H σ ρ∧Same F2 F3∧Rep K F3 p x:=by
 obtain⟨g,_⟩:=h c i F2 H σ ρ rel sF sL
 obtain⟨g1,g2⟩:=g p hp
 cases b with
 |true=>exact⟨g1,fun x hx=>let ⟨F3,r3,s3,_,rp⟩:=g2 x H ⟨rfl,hx⟩;⟨F3,r3,s3,rp⟩⟩
 |false=>exact⟨g1,fun x hx=>let ⟨F3,r3,s3,_,rp⟩:=g2 x H ⟨rfl,hx⟩;⟨F3,r3,s3,rp⟩⟩
theorem uy{K:KK}{L F:Hp}{b:Bool}{a:Addr}{ps:List PV}(h:fC K L F (Itb K.K b a) ps){c:Ctx}{F2 H:Hp}{σ:L2.St}{ρ:Ŏ}(rel:Rel K c F2 H σ ρ)(sF:Same F F2)(sL:Same L H) :
 ∃xs,pP K.K b H a xs∧Tq K.K b H a ps.length xs:=by
 obtain⟨_,st⟩:=h c ps.length F2 H σ ρ rel sF sL
 have st':∃xs,pP K.K b H a xs∧xs.length≤ps.length:=by
  cases b with
  |true=>exact st rfl
  |false=>exact st rfl
 obtain⟨xs,h1,h2⟩:=st'
 exact⟨xs,h1,h2,fun j hj=>(oH h rel sF sL j _ (List.getElem?_eq_getElem hj)).1⟩
theorem Jf{K:KK}{L F:Hp}{b1 b2:Bool}{a1 a2:Addr}{ps qs:List PV}(h1:fC K L F (Itb K.K b1 a1) ps)(h2:fC K L F (Itb K.K b2 a2) qs):fC K L F (Itz K.K b1 b2 a1 a2) (jy ps qs):=by
 intro c i F2 H σ ρ rel sF sL
 refine⟨fun r hr=>?_,fun hi=>?_⟩
 ·obtain⟨p,q,hp,hq,rfl⟩:=xr ps qs i r hr
  obtain⟨g1,y1⟩:=oH h1 rel sF sL i p hp
  refine⟨⟨g1,(oH h2 rel sF sL i q hq).1⟩,fun z H' ⟨x,y,T,e1,e2,hT,ez,eH⟩=>?_⟩
  subst ez eH
  obtain⟨F3,mj,s3,rp⟩:=y1 x e1
  obtain⟨F4,vY,s4,rq⟩:=(oH h2 mj (sF.trans s3) sL i q hq).2 y e2
  obtain⟨r1,r2⟩:=DN vY hT (Rep.same s4 p x rp) rq
  exact⟨_,r1,(s3.trans s4).trans (Same.upd (vY.sub.free hT)),Same.upd hT,r2⟩
 ·rw[xu] at hi
  obtain⟨xs,x1,x2⟩:=uy h1 rel sF sL
  obtain⟨ys,y1,y2⟩:=uy h2 rel sF sL
  refine⟨⟨xs,x1⟩,⟨ys,y1⟩,?_⟩
  by_cases hl:ps.length≤qs.length
  ·left
   have e:i=ps.length:=by omega
   exact⟨xs,x1,e▸x2⟩
  ·right
   have e:i=qs.length:=by omega
   exact⟨(oH h1 rel sF sL i _ (List.getElem?_eq_getElem (by omega))).1,ys,y1,e▸y2⟩
theorem ZdR{K:KK}{c:Ctx}{σ:L2.St}{ρ:Ŏ}{F H:Hp}{ps:List PV}{v:V}(h:rSq K c σ ρ F H ps v):∃b a,v=.ref a∧(∃xs,pP K.K b H a xs)∧fC K c.L F (Itb K.K b a) ps:=by
 rcases h with⟨a,e1,e2,e3⟩|⟨a,e1,e2,e3⟩
 ·exact⟨false,a,e1,e2,e3⟩
 ·exact⟨true,a,e1,e2,e3⟩
section
variable{X:Cx}{cm:String→Addr}{E:L2.St→XK}{e e2:Expr}
theorem ZdS{elts:List Expr}{k:Nat}{tp p pos:Pos}{m1 m2:M (List PV)}(hg:Gl X "zip")(hm:X.mg "zip" =none)(h1:PE X e (tG (kk X cm) E (rSq (kk X cm)) m1))(h2:PE X e2 (tG (kk X cm) E (rSq (kk X cm)) m2))
 (hs:starEach [e,e2] X.env=[(false,eval e X.env),(false,eval e2 X.env)]:=by exact Ho rfl rfl)(hs2:starEach [e2] X.env=[(false,eval e2 X.env)]:=by exact İ rfl) :
 PI X (.Tuple elts k tp) (.Call (.Name "zip" p) [e,e2] [] pos) (tI (kk X cm) E (Fp m1 m2)):=fun pins s σ H R I h=>Y_ hg hm (bY h1 (bY h2 iW hs2) (by rw[hs,hs2])) hs hs2 pins s σ H R I (by
 obtain⟨c,F,ρ,rel,h⟩:=h
 refine⟨c,F,ρ,rel,bB.bind h fun ps ρ1 v F1 H1 Ę s1 s2 q h1=>⟨c,F1,ρ1,Ę,bB.bind h1 fun qs ρ2 u F2 H2 ŉ s3 s4 q2 h2=>?_⟩⟩
 obtain⟨b1,a1,e1,_,e3⟩:=ZdR q
 obtain⟨b2,a2,f1,f2,f3⟩:=ZdR q2
 subst e1 f1
 obtain⟨xs,x1,_⟩:=uy (e3.mono s3) ŉ (Same.refl _) fun b u e=>(ŉ.lent b u e).1
 exact⟨b1,b2,a1,a2,rfl,⟨xs,x1⟩,f2,h2 _ F2 H2 ŉ (Same.refl _) (Same.refl _) (Jf (e3.mono s3) f3)⟩)
end
end P
namespace P
open PySem PySem.Spec PyProof.Rows L2 M2 M3 M4
def ZdT(K:PySem.W.Frag)(neg:Bool):R2:=fun x y H Q=>∃d es a xs,Rp K H d x∧y=.ref a∧(aC K H a xs∨cY K H a xs)∧jU K H es xs∧d.canLay0=true∧PyData.canLayAll0 es=true∧d.depth≤60∧Q (.bl (if neg then !(es.any fun e=>PyData.eqv e d) else es.any fun e=>PyData.eqv e d)) H
open Classical in
noncomputable def Qz(h:Heap)(d:PyData)(y:Value):Bool:=if ∃e as,Reads h y e as∧e.canLay0=true∧PyData.eqv e d=true then true else false
theorem Jg{h:Heap}{d e:PyData}{y:Value}{as:List Addr}(r:Reads h y e as)(hc:e.canLay0=true):Qz h d y=PyData.eqv e d:=by
 unfold Qz
 cases q:PyData.eqv e d with
 |true=>rw[if_pos ⟨e,as,r,hc,q⟩]
 |false=>
  rw[if_neg]
  rintro ⟨e',as',r',hc',q'⟩
  have:=SeqAt.Reads.unique e e' y as as' hc r r'
  subst this
  rw[q] at q'
  cases q'
theorem uz{h:Heap}{d:PyData}:∀{us:List Value} {es:List PyData} {as:List Addr},ReadsAll h us es as→PyData.canLayAll0 es=true→us.any (Qz h d)=es.any fun e=>PyData.eqv e d
 |_,_,_,.nil,_=>rfl
 |_,_,_,.cons r rs,hc=>by
  unfold PyData.canLayAll0 at hc
  rw[Bool.and_eq_true] at hc
  rw[List.any_cons,List.any_cons,Jg r hc.1,uz rs hc.2]
theorem uD{A:Around}{s:Shared}{d:PyData}{v:Value}{bs:List Addr}(rv:Reads s.heap v d bs)(hd:d.canLay0=true)(hu:A.units+d.depth<cLine):∀{us:List Value} {es:List PyData} {as:List Addr},ReadsAll s.heap us es as→PyData.canLayAll0 es=true→∀u∈us,SeqAt.EqAt A s u v (Qz s.heap d u)
 |_,_,_,.nil,_=>fun u hu=>by cases hu
 |_,_,_,.cons r rs,hc=>fun u hm=>by
  unfold PyData.canLayAll0 at hc
  rw[Bool.and_eq_true] at hc
  rcases List.mem_cons.mp hm with rfl|hm
  ·rw[Jg r hc.1]
   exact SeqAt.eqAt_reads _ _ A s _ _ _ _ r rv hc.1 hd (by omega)
  ·exact uD rv hd hu rs hc.2 u hm
section
variable{X:Cx}
theorem Fq(hu:X.A.units+64<cLine):ao X (compareOp .NotIn) (ZdT X.K true):=by
 intro pins s σ H x y v u Q I rx ry h
 obtain⟨d,es,a,xs,h1,rfl,hq,h3,h4,h5,h6,q⟩:=h
 cases ry
 obtain⟨as,ra⟩:=Rp.reads I d x v h1 rx
 have hu1:X.A.in1.units+d.depth<cLine:=by
  have:X.A.in1.units=X.A.units+1:=rfl
  omega
 rcases hq with hq|hq
 ·obtain⟨its,r,pl,hz⟩:=I.list hq
  obtain⟨bs,rb⟩:=jU.reads I es xs its h3 r
  refine SeqAt.notIn_listAt (Qz s.heap d) pl.isList (fun w hw=>uD ra h4 hu1 rb h5 w (by simpa using hw)) ⟨.bl _,H,I,rfl,?_⟩
  rw[show its.toArray.any (Qz s.heap d)=its.any (Qz s.heap d) by simp,uz rb h5]
  exact q
 ·obtain⟨its,r,pl,hz⟩:=I.tuple hq
  obtain⟨bs,rb⟩:=jU.reads I es xs its h3 r
  refine SeqAt.notIn_tupleAt (Qz s.heap d) pl (fun w hw=>uD ra h4 hu1 rb h5 w (by simpa using hw)) ⟨.bl _,H,I,rfl,?_⟩
  rw[show its.toArray.any (Qz s.heap d)=its.any (Qz s.heap d) by simp,uz rb h5]
  exact q
end
def inD(neg:Bool)(p q:PV):Option PV:=match q with
 | .lst ps=>if aF p && cg ps && decide (dep p≤60) then some (.bl (if neg then !(ps.any fun y=>eqB y p) else ps.any fun y=>eqB y p)) else none
 | .tup ps=>if aF p && cg ps && decide (dep p≤60) then some (.bl (if neg then !(ps.any fun y=>eqB y p) else ps.any fun y=>eqB y p)) else none
 |_=>none
theorem uE{p:PV}(h:aF p=true):∀{ps:List PV},cg ps=true→(dH ps).any (fun e=>PyData.eqv e (toD p))=ps.any fun y=>eqB y p
 | [],_=>rfl
 |y::ps,hp=>by
  unfold cg at hp
  rw[Bool.and_eq_true] at hp
  unfold dH
  rw[List.any_cons,List.any_cons,tZ y p hp.1 h,uE h hp.2]
theorem Z_{K:KK}{neg:Bool}:jr K (ZdT K.K neg) (inD neg):=by
 intro c F H σ ρ p q pv v u Q rel r1 r2 e k
 unfold inD at e
 split at e
 ·rename_i ps
  split at e
  ·rename_i hc
   rw[Bool.and_eq_true,Bool.and_eq_true,decide_eq_true_eq] at hc
   cases e
   obtain⟨a,xs,rfl,h1,h2⟩:=r2.lst rel.sub
   refine⟨toD p,dH ps,a,xs,gR rel.sub hc.1.1 r1,rfl,.inl h1,jU.same rel.sub _ _ (gQ ps xs hc.1.2 h2),eE p hc.1.1,gA ps hc.1.2,by rw[eG];exact hc.2,?_⟩
   rw[uE hc.1.1 hc.1.2]
   exact k _ F H rel (Same.refl _) (Same.refl _) Rep.bl
  ·cases e
 ·rename_i ps
  split at e
  ·rename_i hc
   rw[Bool.and_eq_true,Bool.and_eq_true,decide_eq_true_eq] at hc
   cases e
   obtain⟨a,xs,rfl,h1,h2⟩:=r2.tup rel.sub
   refine⟨toD p,dH ps,a,xs,gR rel.sub hc.1.1 r1,rfl,.inr h1,jU.same rel.sub _ _ (gQ ps xs hc.1.2 h2),eE p hc.1.1,gA ps hc.1.2,by rw[eG];exact hc.2,?_⟩
   rw[uE hc.1.1 hc.1.2]
   exact k _ F H rel (Same.refl _) (Same.refl _) Rep.bl
  ·cases e
 ·cases e
def Ft{α:Type}(m:M α):M α:= fun ρ=>match m ρ with
 | .ok a ρ'=>.ok a ρ'
 |_=>.bad
@[simp] theorem ZlV{α:Type}{m:M α}{ρ:Ŏ}:Ft m ρ=(match m ρ with
  | .ok a ρ'=>.ok a ρ'
  |_=>.bad):=rfl
theorem Jh{X:Cx}{cm:String→Addr}{E:L2.St→XK}{tg l:Expr}{mi:M (List PV)}(h:PI X tg l (tI (kk X cm) EF mi)):PI X tg l (tI (kk X cm) E (Ft mi)):=fun pins s σ H R I hh=>h pins s σ H R I (by
 obtain⟨c,F,ρ,rel,h'⟩:=hh
 refine⟨c,F,ρ,rel,?_⟩
 unfold Ft at h'
 cases e:mi ρ with
 |ok a ρ'=>rw[e] at h';exact h'
 |exc x ρ'=>rw[e] at h';exact h'.elim
 |bad=>rw[e] at h';exact h')
end P
namespace P
open PySem PySem.Spec PyProof.Rows L2 M2 M3 M4
theorem jz{x:Int}{n:Nat}(h1: -(2 ^ n:Int)<x)(h2:x<2 ^ n):bits x≤n:=by
 refine intBits_le_iff.mpr ?_
 have e:((2 ^ n:Nat):Int)=(2:Int) ^ n:=by simp
 have:((x.natAbs:Nat):Int)<((2 ^ n:Nat):Int):=by rw[e];omega
 omega
theorem U_{x y:Int}(h:y≠0)(h1: -18446744073709551616<y)(h2:y<18446744073709551616):eX x y=true:=wJ h (Nat.le_trans (jz (n:=64) (by omega) (by omega)) (by decide))
@[simp] theorem Zj5{x:Int}{n:Nat}(h:n≠0)(h2:n<18446744073709551616):eX x (no_index (OfNat.ofNat n):Int)=true:=by
  have e:(no_index (OfNat.ofNat n):Int)=(n:Int):=rfl
  rw[e]
  exact U_ (by omega) (by omega) (by omega)
@[simp] theorem ZdU{x:Int}{n:Nat}(h:n<18446744073709551616):ŗ x (no_index (OfNat.ofNat n):Int)=true:=by
  have e:(no_index (OfNat.ofNat n):Int)=(n:Int):=rfl
  rw[e]
  exact mul_r (by omega) (by omega)
@[simp] theorem ZdV{x:Int}{n:Nat}(h:n<18446744073709551616):ŗ (no_index (OfNat.ofNat n):Int) x=true:=by
  have e:(no_index (OfNat.ofNat n):Int)=(n:Int):=rfl
  rw[e]
  exact aV (by omega) (by omega)
@[simp] theorem Zj6{m n:Nat}(h:m<18446744073709551616)(h2:n≤1000000):wB (no_index (OfNat.ofNat m):Int) (no_index (OfNat.ofNat n):Int)=true:=by
  have e:(no_index (OfNat.ofNat m):Int)=(m:Int):=rfl
  have e2:(no_index (OfNat.ofNat n):Int)=(n:Int):=rfl
  rw[e,e2]
  unfold wB
  simp
  omega
@[simp] theorem ZdW{x:Int}{n:Nat}:x.fdiv (no_index (OfNat.ofNat n):Int)=x / (no_index (OfNat.ofNat n):Int):=Int.fdiv_eq_ediv_of_nonneg x (Int.natCast_nonneg n)
@[simp] theorem ZdX{x:Int}{n:Nat}:x.fmod (no_index (OfNat.ofNat n):Int)=x % (no_index (OfNat.ofNat n):Int):=Int.fmod_eq_emod_of_nonneg x (Int.natCast_nonneg n)
end P
namespace P
open PySem PySem.Spec PyProof.Rows L2 M2 M3 M4
theorem add_l{xs ys:List PV}(h:xs.length+ys.length≤16777216):ļ (.lst xs) (.lst ys)=some (.ow (xs++ys)):=by
 unfold ļ
 simp[h]
theorem Zaa{x y z w:Int}:eqB (.tup [.int x,.int y]) (.tup [.int z,.int w])=(decide (x=z) && decide (y=w)):=by
 rw[eqB.eq_def]
 show dG [.int x,.int y] [.int z,.int w]=_
 rw[dG.eq_def]
 show(eqB (.int x) (.int z) && dG [.int y] [.int w])=_
 rw[dG.eq_def]
 show(eqB (.int x) (.int z) && (eqB (.int y) (.int w) && dG [] []))=_
 have h1:eqB (.int x) (.int z)=decide (x=z):=by rw[eqB.eq_def];rfl
 have h2:eqB (.int y) (.int w)=decide (y=w):=by rw[eqB.eq_def];rfl
 have h3:dG [] []=true:=by rw[dG.eq_def]
 rw[h1,h2,h3,Bool.and_true]
mutual
theorem xG:∀p:PV,aF p=true→eqB p p=true
 | .non,_=>by unfold eqB;rfl
 | .bl b,_=>by unfold eqB;simp
 | .int i,_=>by unfold eqB;simp
 | .str x,_=>by unfold eqB;simp
 | .lst xs,h=>by unfold aF at h;unfold eqB;exact kh xs h
 | .tup xs,h=>by unfold aF at h;unfold eqB;exact kh xs h
 | .ins _ _ _,h=>by simp[aF] at h
 | .xc _ _ _,h=>by simp[aF] at h
 | .ty _,h=>by simp[aF] at h
 | .cls _,h=>by simp[aF] at h
theorem kh:∀ps:List PV,cg ps=true→dG ps ps=true
 | [],_=>by unfold dG;rfl
 |p::ps,h=>by
  unfold cg at h
  rw[Bool.and_eq_true] at h
  unfold dG
  rw[xG p h.1,kh ps h.2]
  rfl
end
theorem Fv{p:PV}(h:aF p=true)(hd:dep p≤60):cj p p=some (.bl false):=by
 unfold cj pY
 rw[h,xG p h,decide_eq_true (by omega:min (dep p) (dep p)≤60)]
 rfl
theorem cF{a b:Str}(ha:PyData.strOk a=true)(hb:PyData.strOk b=true):aA (.str a) (.str b)=some (.bl (decide (a=b))):=by
 have h:eqB (.str a) (.str b)=decide (a=b):=by unfold eqB;rfl
 unfold aA pY
 rw[show aF (.str a)=true by unfold aF;exact ha,show aF (.str b)=true by unfold aF;exact hb,h]
 rfl
theorem xH(ns:List Int):cg (ns.map PV.int)=true:=by
 induction ns with
 |nil=>simp[cg]
 |cons n ns ih=>simp[cg,aF,ih]
theorem xJ(ns:List Int):pX (ns.map PV.int)=0:=by
 induction ns with
 |nil=>simp[pX]
 |cons n ns ih=>simp[pX,dep,ih]
end P
namespace P
open PySem PySem.Spec PyProof.Rows L2 M2 M3 M4
section
variable{g:Tg}{mb:M Fl}{mt:M Bool}{me:M PV}
theorem cB{α β:Type}(c:α→PV)(step:β→α→β)(J:β→Ŏ→Prop):∀(xs:List α),(∀x∈xs,∀b ρ,J b ρ→∃ρ1 ρ2,g (c x) ρ=some ρ1∧mb ρ1=.ok .nx ρ2∧J (step b x) ρ2)→∀b ρ,J b ρ→∃ρ',forL g mb (xs.map c) ρ=.ok .nx ρ'∧J (xs.foldl step b) ρ'
 | [],_,b,ρ,h=>⟨ρ,rfl,h⟩
 |x::xs,hs,b,ρ,h=>by
  obtain⟨ρ1,ρ2,h1,h2,h3⟩:=hs x (by simp) b ρ h
  obtain⟨ρ',e,h4⟩:=cB c step J xs (fun y hy=>hs y (List.mem_cons_of_mem _ hy)) (step b x) ρ2 h3
  refine⟨ρ',?_,h4⟩
  rw[List.map_cons,forL,h1]
  dsimp only
  rw[h2]
  exact e
theorem bG{α γ:Type}(c:α→PV)(t:α→Option γ)(v:γ→RV)(J:Ŏ→Prop):∀(xs:List α),(∀x∈xs,∀ρ,J ρ→∃ρ1,g (c x) ρ=some ρ1∧((∃r ρ2,t x=some r∧mb ρ1=.ok (.rt (v r)) ρ2)∨(∃ρ2,t x=none∧mb ρ1=.ok .nx ρ2∧J ρ2)))→∀ρ,J ρ→
 (∃r ρ',xs.findSome? t=some r∧forL g mb (xs.map c) ρ=.ok (.rt (v r)) ρ')∨(∃ρ',xs.findSome? t=none∧forL g mb (xs.map c) ρ=.ok .nx ρ'∧J ρ')
 | [],_,ρ,h=>.inr ⟨ρ,rfl,rfl,h⟩
 |x::xs,hs,ρ,h=>by
  obtain⟨ρ1,h1,h2⟩:=hs x (by simp) ρ h
  rcases h2 with⟨r,ρ2,e1,e2⟩|⟨ρ2,e1,e2,e3⟩
  ·refine .inl ⟨r,ρ2,by rw[List.findSome?_cons,e1],?_⟩
   rw[List.map_cons,forL,h1]
   dsimp only
   rw[e2]
   rfl
  ·have hf:List.findSome? t (x::xs)=List.findSome? t xs:=by rw[List.findSome?_cons,e1]
   have hl:forL g mb ((x::xs).map c) ρ=forL g mb (xs.map c) ρ2:=by
    rw[List.map_cons,forL,h1]
    dsimp only
    rw[e2]
    rfl
   rw[hf,hl]
   exact bG c t v J xs (fun y hy=>hs y (List.mem_cons_of_mem _ hy)) ρ2 e3
theorem cu{α:Type}(c f:α→PV)(q:α→Bool)(I:Ŏ→Prop):∀(xs:List α) (ρ:Ŏ) (acc:List PV),I ρ→acc.length+xs.length≤16777216→
 (∀x∈xs,∀ρ,I ρ→∃ρ1 ρ2,g (c x) ρ=some ρ1∧mt ρ1=.ok (q x) ρ2∧(q x=false→I ρ2)∧(q x=true→∃ρ3,me ρ2=.ok (f x) ρ3∧I ρ3))→ň g mt me (xs.map c) ρ acc=some (acc++(xs.filter q).map f)
 | [],ρ,acc,_,_,_=>by simp[ň]
 |x::xs,ρ,acc,h,hz,hs=>by
  obtain⟨ρ1,ρ2,h1,h2,h3,h4⟩:=hs x List.mem_cons_self ρ h
  cases e:q x with
  |true=>
   obtain⟨ρ3,h5,h6⟩:=h4 e
   rw[e] at h2
   rw[List.map_cons,ň,h1]
   dsimp only
   rw[h2]
   dsimp only
   rw[h5]
   dsimp only
   rw[if_pos (by simp at hz;omega),cu c f q I xs ρ3 (acc ++ [f x]) h6 (by simp at hz ⊢;omega) fun y hy=>hs y (List.mem_cons_of_mem _ hy)]
   simp[e]
  |false=>
   rw[e] at h2
   rw[List.map_cons,ň,h1]
   dsimp only
   rw[h2]
   dsimp only
   rw[cu c f q I xs ρ2 acc (h3 e) (by simp at hz ⊢;omega) fun y hy=>hs y (List.mem_cons_of_mem _ hy)]
   simp[e]
end
end P
namespace P
open PySem PySem.Spec PyProof.Rows L2 M2 M3 M4
def ZlW(K:PySem.W.Frag)(n:Nat)(t:Gk):TG:=fun v σ H Q=>∃a xs,v=.ref a∧aC K H a xs∧xs.length=n∧t xs σ H Q
section
variable{X:Cx}{cm:String→Addr}{pos:Pos}
theorem Zab{es:List Expr}{k:Nat}{t:Gk}{n:Nat}(hc:X.calm=true)(h:zE X es t)
 (hn:(assignEach es X.env).length=n:=by rfl)(hst:(assignEach es X.env).findIdx? (·.1)=none:=by rfl):PG X (.Tuple es k pos) (ZlW X.K n t):=by
 intro pins s σ H v u Q I r hw
 obtain⟨a,xs,e1,hq,hl,hw⟩:=hw
 subst e1
 cases r
 obtain⟨its,rv,ht,hz⟩:=I.list hq
 rw[assign_Tuple]
 refine wpAny_bind (wpAny_standAt ?_)
 unfold unpack
 rw[show(assignEach es X.env).length=its.toArray.size by simp[hn,←hl,rv.length],hst]
 refine wpAny_bind (wpAny_holding (PySem.W.kun_itemsOf (I.ok.hd hc) ht.isList fun h' hx=>?_))
 have I1:Inv X pins σ H {s with heap:=h'}:=I.kept (t':=s.toks) fun b o e=>hx b o (Nat.ne_of_lt (Heap.lt_size e)) e
 exact h pins _ σ H xs _ Q I1 (by simpa using rv) hw
def gS(n:Nat)(gs:Gf):Tg:=fun p ρ=>match p with
 | .tup ps=>if ps.length=n then gs ps ρ else none
 | .lst ps=>if ps.length=n then gs ps ρ else none
 |_=>none
@[simp] theorem ZlX{n:Nat}{gs:Gf}{ps:List PV}{ρ:Ŏ}:gS n gs (.tup ps) ρ=if ps.length=n then gs ps ρ else none:=rfl
@[simp] theorem ZlY{n:Nat}{gs:Gf}{ps:List PV}{ρ:Ŏ}:gS n gs (.lst ps) ρ=if ps.length=n then gs ps ρ else none:=rfl
theorem Va{es:List Expr}{k:Nat}{gs:Gf}{n:Nat}(hc:X.calm=true)(h:zE X es (tTs (kk X cm) gs))(hn:(assignEach es X.env).length=n:=by rfl)(hst:(assignEach es X.env).findIdx? (·.1)=none:=by rfl):PG X (.Tuple es k pos) (tT (kk X cm) (gS n gs)):=by
 intro pins s σ H v u Q I r hw
 obtain⟨c,F,ρ,p,rel,rp,hw⟩:=hw
 cases p with
 |tup ps=>
  unfold Rep at rp
  obtain⟨a,xs,h1,h2,h3⟩:=rp
  unfold gS at hw
  dsimp only at hw
  split at hw
  ·rename_i hl
   exact Gn hc h hn hst pins s σ H v u Q I r ⟨a,xs,h1,Same.tup rel.sub h2,by rw[←h3.length];exact hl,c,F,ρ,ps,rel,h3,hw⟩
  ·exact hw.elim
 |lst ps=>
  unfold Rep at rp
  obtain⟨a,xs,h1,h2,h3⟩:=rp
  unfold gS at hw
  dsimp only at hw
  split at hw
  ·rename_i hl
   exact Zab hc h hn hst pins s σ H v u Q I r ⟨a,xs,h1,rel.sub.seq h2,by rw[←h3.length];exact hl,c,F,ρ,ps,rel,h3,hw⟩
  ·exact hw.elim
 |_=>exact hw.elim
end
end P
namespace P
open PySem PySem.Spec PyProof.Rows L2 M2 M3 M4
section
variable{X:Cx}{cm:String→Addr}{E:L2.St→XK}{a:Expr}{p p1 pos pos1:Pos}{mr:M (List PV)}
end
end P
namespace P
open PySem PySem.Spec PyProof.Rows L2 M2 M3 M4
def ZdY(i:Nat)(m:M Bool):M Bool:=fun ρ=>match ρ[i]? with
 |some (.ot ps qs)=>match m (ρ.set i (.sh (.tup (ps ++ [.lst qs])))) with
  | .ok b _=>.ok b ρ
  |_=>.bad
 |_=>m ρ
section
variable{X:Cx}{cm:String→Addr}{E:L2.St→XK}{e o:Expr}{es:List Expr}{pos:Pos}{m:M Bool}{mo:M RV}{ma:M PV}
def ZdZ(mo:M RV):M (List PV×RV):=fun ρ=>(mo ρ).bind fun r ρ1=>.ok ([],r) ρ1
def Zac(ma:M PV)(mr:M (List PV×RV)):M (List PV×RV):=fun ρ=>(ma ρ).bind fun p ρ1=>(mr ρ1).bind fun r ρ2=>.ok (p::r.1,r.2) ρ2
def Zd0(mr:M (List PV×RV)):M RV:=fun ρ=>(mr ρ).bind fun r ρ1=>if r.1.length<16777216 then(match r.2 with
 | .ow qs=>.ok (.ot r.1 qs) ρ1
 | .sh p=>.ok (.sh (.tup (r.1 ++ [p]))) ρ1
 |_=>.bad) else .bad
def Zd1(i j:Nat)(m:M PV):M Fl:=fun ρ=>match ρ[i]? with
 |some (.ot ps _)=>if ps.length=j then(m ρ).bind fun p ρ1=>match ρ1[i]? with
  |some (.ot ps' qs)=>if ps'.length=j∧qs.length<16777216 then .ok .nx (ρ1.set i (.ot ps' (qs ++ [p]))) else .bad
  |_=>.bad
  else .bad
 |_=>.bad
@[simp] theorem ZlZ{ps qs:List PV}:(RV.ot ps qs).val=.tup (ps ++ [.lst qs]):=rfl
@[simp] theorem Zl0{ps qs:List PV}:(RV.ot ps qs).slot=.ot ps qs:=rfl
@[simp] theorem Zj7{i:Nat}{ρ:Ŏ}:ZdY i m ρ=(match ρ[i]? with
  |some (.ot ps qs)=>match m (ρ.set i (.sh (.tup (ps ++ [.lst qs])))) with
   | .ok b _=>.ok b ρ
   |_=>.bad
  |_=>m ρ):=rfl
@[simp] theorem Zj8{ρ:Ŏ}:ZdZ mo ρ=(mo ρ).bind fun r ρ1=>.ok ([],r) ρ1:=rfl
@[simp] theorem Zd2{mr:M (List PV×RV)}{ρ:Ŏ}:Zac ma mr ρ=(ma ρ).bind fun p ρ1=>(mr ρ1).bind fun r ρ2=>.ok (p::r.1,r.2) ρ2:=rfl
@[simp] theorem Zd3{mr:M (List PV×RV)}{ρ:Ŏ}:Zd0 mr ρ=(mr ρ).bind fun r ρ1=>if r.1.length<16777216 then(match r.2 with
  | .ow qs=>.ok (.ot r.1 qs) ρ1
  | .sh p=>.ok (.sh (.tup (r.1 ++ [p]))) ρ1
  |_=>.bad) else .bad:=rfl
@[simp] theorem Zj9{i j:Nat}{ρ:Ŏ}:Zd1 i j ma ρ=(match ρ[i]? with
  |some (.ot ps _)=>if ps.length=j then(ma ρ).bind fun p ρ1=>match ρ1[i]? with
   |some (.ot ps' qs)=>if ps'.length=j∧qs.length<16777216 then .ok .nx (ρ1.set i (.ot ps' (qs ++ [p]))) else .bad
   |_=>.bad
   else .bad
  |_=>.bad):=rfl
end
end P
namespace P
open PySem PySem.Spec PyProof.Rows L2 M2 M3 M4
section
variable{X:Cx}{K:KK}
end
end P
namespace My
def gd(a b:Int):Int:=((Int.gcd a b:Nat):Int)
theorem Z1H(a b:Int):gd b (Int.fmod a b)=gd a b:=by
 unfold gd
 rw[Int.fmod_def,Int.gcd_sub_mul_left_right,Int.gcd_comm]
theorem Z1I(a:Int){b:Int}(h:b≠0):(Int.fmod a b).natAbs<b.natAbs:=by
 rcases(by omega:0<b∨b<0) with h|h
 ·have h1:=Int.fmod_nonneg_of_pos a h
  have h2:=Int.fmod_lt_of_pos a h
  omega
 ·have e:=Int.neg_fmod_neg a b
  have h1:=Int.fmod_nonneg_of_pos (-a) (show 0 < -b by omega)
  have h2:=Int.fmod_lt_of_pos (-a) (show 0 < -b by omega)
  omega
theorem Z1J(a:Int):gd a 0=if a<0 then -a else a:=by
 unfold gd
 rw[Int.gcd_zero]
 split<;>omega
theorem Z23(a:Int){b:Int}(h:b≠0):0<gd a b:=by
 have:=Int.gcd_ne_zero_right (a:=a) h
 unfold gd
 omega
theorem Z0Z(a b:Int):0≤gd a b:=by
 unfold gd
 omega
theorem Z2s(a:Int){b:Int}(h:b≠0):gd a b≤b.natAbs:=by
 unfold gd
 have:=Int.gcd_dvd_natAbs_right a b
 have:=Nat.le_of_dvd (by omega) this
 omega
def dv(t b:Int):Int:=if b<0 then-gd t b else gd t b
end My
namespace Hu
abbrev Pt:=Int×Int
def tn(a b c:Pt):Int:=(b.1-a.1)*(c.2-a.2)-(b.2-a.2)*(c.1-a.1)
section
variable{S:List Pt}{p:Pt}
end
abbrev Ln:=Int×Int×Int
def hd(l:Ln)(p:Pt):Bool:=decide (l.1*p.1+l.2.1*p.2≤l.2.2)
def Z2(a b:Pt):Ln:=(b.2-a.2,a.1-b.1,(b.2-a.2)*a.1+(a.1-b.1)*a.2)
theorem Z1B{a b s:Pt}:hd (Z2 a b) s=true↔0≤tn a b s:=by
 unfold hd Z2
 rw[decide_eq_true_iff]
 have e:tn a b s=((b.2-a.2)*a.1+(a.1-b.1)*a.2)-((b.2-a.2)*s.1+(a.1-b.1)*s.2):=by simp only[tn];grind
 dsimp only
 omega
def Z1(S:List Pt):List Pt:=S.foldl (fun k x=>if x∈k then k else k ++ [x]) []
theorem Z02(x:Pt):∀(S k:List Pt),x∈S.foldl (fun k x=>if x∈k then k else k ++ [x]) k↔x∈k∨x∈S
 | [],k=>by simp
 |y::S,k=>by
  rw[List.foldl_cons,Z02 x S]
  by_cases h:y∈k
  ·rw[if_pos h]
   constructor
   ·rintro (q|q)
    ·exact .inl q
    ·exact .inr (List.mem_cons_of_mem _ q)
   ·rintro (q|q)
    ·exact .inl q
    ·rcases List.mem_cons.mp q with e|e
     ·exact .inl (e▸h)
     ·exact .inr e
  ·rw[if_neg h]
   simp only[List.mem_append,List.mem_cons,List.not_mem_nil,or_false]
   constructor
   ·rintro ((q|q)|q)
    ·exact .inl q
    ·exact .inr (.inl q)
    ·exact .inr (.inr q)
   ·rintro (q|q|q)
    ·exact .inl (.inl q)
    ·exact .inl (.inr q)
    ·exact .inr q
theorem Zg{x:Pt}{S:List Pt}:x∈Z1 S↔x∈S:=by unfold Z1;rw[Z02];simp
def Zu(S:List Pt):List Ln:=(Z1 S).flatMap fun a=>(Z1 S).filterMap fun b=>if a≠b∧(Z1 S).all (hd (Z2 a b)) then some (Z2 a b) else none
theorem Z10{S:List Pt}{l:Ln}:l∈Zu S↔∃a∈S,∃b∈S,a≠b∧(∀s∈S,0≤tn a b s)∧l=Z2 a b:=by
 unfold Zu
 simp only[List.mem_flatMap,List.mem_filterMap]
 constructor
 ·rintro ⟨a,ha,b,hb,h⟩
  split at h
  ·rename_i hc
   refine⟨a,Zg.mp ha,b,Zg.mp hb,hc.1,fun s hs=>?_,(Option.some.inj h).symm⟩
   exact Z1B.mp (List.all_eq_true.mp hc.2 s (Zg.mpr hs))
  ·cases h
 ·rintro ⟨a,ha,b,hb,h1,h2,rfl⟩
  refine⟨a,Zg.mpr ha,b,Zg.mpr hb,?_⟩
  rw[if_pos ⟨h1,List.all_eq_true.mpr fun s hs=>Z1B.mpr (h2 s (Zg.mp hs))⟩]
def mx(l:List Int):Int:=l.tail.foldl max (l.headD 0)
def mn(l:List Int):Int:=l.tail.foldl min (l.headD 0)
def box(S:List Pt):List Ln:=[(1,0,mx (S.map (·.1))),(-1,0,- mn (S.map (·.1))),(0,1,mx (S.map (·.2))),(0,-1,- mn (S.map (·.2)))]
def Zd(S:List Pt):List Ln:=box S++Zu S
def Zx(S:List Pt)(p:Pt):Option Ln:=(Zd S).find? fun l=>!hd l p
def uF(a b c p:Pt):List Int:=[tn p b c,tn a p c,tn a b p]
def uG(a b p:Pt):List Int:=
 let g:=(b.1-a.1)*(p.1-a.1)+(b.2-a.2)*(p.2-a.2)
 [(b.1-a.1)*(b.1-a.1)+(b.2-a.2)*(b.2-a.2)-g,g]
def Zr(w:List Int):Bool:=decide (w.sum≠0) && w.all fun s=>decide (0≤s*w.sum)
def at_(S:List Pt)(i:Nat):Pt:=S.getD i (0,0)
theorem Z24{S:List Pt}{i:Nat}(h:i<S.length):at_ S i∈S:=by
 unfold at_
 rw[List.getD_eq_getElem?_getD,List.getElem?_eq_getElem h]
 exact List.getElem_mem h
def Z6(n:Nat):List (Nat×Nat):=(List.range n).flatMap fun j=>(List.range j).map fun i=>(i,j)
def Z8(n:Nat):List (Nat×Nat×Nat):=(List.range n).flatMap fun k=>(Z6 k).map fun q=>(q.1,q.2,k)
theorem ZD{n i j:Nat}:(i,j)∈Z6 n↔i<j∧j<n:=by
 unfold Z6
 simp only[List.mem_flatMap,List.mem_range,List.mem_map,Prod.mk.injEq]
 constructor
 ·rintro ⟨k,hk,m,hm,rfl,rfl⟩;exact⟨hm,hk⟩
 ·rintro ⟨h1,h2⟩;exact⟨j,h2,i,h1,rfl,rfl⟩
theorem Z0z{n i j k:Nat}:(i,j,k)∈Z8 n↔i<j∧j<k∧k<n:=by
 unfold Z8
 simp only[List.mem_flatMap,List.mem_range,List.mem_map,Prod.mk.injEq]
 constructor
 ·rintro ⟨m,hm,⟨a,b⟩,hq,rfl,rfl,rfl⟩
  have:=ZD.mp hq
  exact⟨this.1,this.2,hm⟩
 ·rintro ⟨h1,h2,h3⟩;exact⟨k,h3,(i,j),ZD.mpr ⟨h1,h2⟩,rfl,rfl,rfl⟩
def Z25(S:List Pt)(p:Pt):Option (List Int×List Nat):=(Z8 S.length).findSome? fun q=>if Zr (uF (at_ S q.1) (at_ S q.2.1) (at_ S q.2.2) p) then some (uF (at_ S q.1) (at_ S q.2.1) (at_ S q.2.2) p,[q.1,q.2.1,q.2.2]) else none
def Z26(S:List Pt)(p:Pt):Option (List Int×List Nat):=(Z6 S.length).findSome? fun q=>if Zr (uG (at_ S q.1) (at_ S q.2) p) then some (uG (at_ S q.1) (at_ S q.2) p,[q.1,q.2]) else none
def Z0M(S:List Pt)(p:Pt):List Int×List Nat:=((Z25 S p).orElse fun _=>Z26 S p).getD ([1],[0])
structure Z2H(S:List Pt)(p:Pt)(w:List Int)(q:List Nat):Prop where
 len:w.length=q.length
 sum:w.sum≠0
 sign:∀s∈w,0≤s*w.sum
 nd:q.Nodup
 lt:∀i∈q,i<S.length
 x:((w.zip q).map fun a=>a.1*(at_ S a.2).1).sum=w.sum*p.1
 y:((w.zip q).map fun a=>a.1*(at_ S a.2).2).sum=w.sum*p.2
theorem Z0d{w:List Int}:Zr w=true↔w.sum≠0∧∀s∈w,0≤s*w.sum:=by
 unfold Zr
 simp
end Hu
namespace Fr
def lay(l:List Int)(a:List (Int×Nat)):List Int:=a.foldl (fun acc a=>acc.set a.2 a.1) l
end Fr
namespace T
open PySem L2 M2 M3 M4 P
def top(i:Nat):Stmt:=PySem.Challenge.pw_shadowpost_k33_lit_turns.main.body.getD i (.Pass ⟨0,0,0,0⟩)
abbrev xK:Stmt:=top 78
abbrev xM:Stmt:=top 72
abbrev xO:Stmt:=top 73
abbrev xP:Stmt:=top 77
abbrev qW:Stmt:=top 79
abbrev qX:Stmt:=inClass (top 42) 0
abbrev xQ:Stmt:=top 75
abbrev xR:Stmt:=top 74
abbrev qY:Stmt:=top 76
abbrev xT:Stmt:=top 54
abbrev xU:Stmt:=top 55
abbrev xV:Stmt:=top 57
abbrev Ji:Stmt:=inClass (top 64) 0
abbrev qZ:Stmt:=top 58
abbrev xW:Stmt:=top 59
abbrev Jj:Stmt:=top 60
abbrev Jk:Stmt:=top 56
abbrev q_:Stmt:=top 61
abbrev xX:Stmt:=top 70
abbrev oJ:Stmt:=top 12
abbrev xY:Stmt:=top 14
abbrev xZ:Stmt:=top 13
abbrev yc:Stmt:=top 11
abbrev rm:Stmt:=top 15
abbrev yg:Stmt:=top 16
abbrev yj:Stmt:=top 28
abbrev yq:Stmt:=top 62
abbrev Jl:Stmt:=top 63
abbrev yr:Stmt:=inClass (top 65) 0
abbrev Jm:Stmt:=inClass (top 66) 0
abbrev yu:Stmt:=inClass (top 67) 0
abbrev rz:Stmt:=inClass (top 68) 0
abbrev yx:Stmt:=inClass (top 69) 0
abbrev rC:Stmt:=top 31
abbrev yC:Stmt:=top 35
abbrev yD:Stmt:=top 36
abbrev yE:Stmt:=top 37
abbrev Fw:Stmt:=top 38
abbrev yF:Stmt:=top 39
abbrev yG:Stmt:=top 43
abbrev yH:Stmt:=top 46
abbrev yI:Stmt:=top 45
abbrev yJ:Stmt:=top 47
abbrev yK:Stmt:=top 44
abbrev yL:Stmt:=top 17
abbrev rD:Stmt:=top 23
abbrev rE:Stmt:=top 24
abbrev Jo:Stmt:=top 8
abbrev yM:Stmt:=top 9
abbrev rG:Stmt:=top 22
abbrev yN:Stmt:=top 18
abbrev Jp:Stmt:=top 19
abbrev rH:Stmt:=top 21
abbrev yO:Stmt:=top 20
abbrev oK:Stmt:=top 25
abbrev yP:Stmt:=top 26
abbrev yQ:Stmt:=top 29
abbrev yR:Stmt:=top 32
abbrev yS:Stmt:=top 33
abbrev yU:Stmt:=top 40
abbrev rJ:Stmt:=top 49
abbrev rK:Stmt:=top 81
abbrev rM:Stmt:=top 80
abbrev yV:Stmt:=top 50
abbrev eZ:Stmt:=top 82
abbrev Jq:Stmt:=inClass (top 5) 0
abbrev Jr:Stmt:=inClass (top 6) 0
def Zk:List ((String×String)×Bool):=[]
def Zl:List ((String×String)×Bool):=[]
def Zm:List String:=[]
def Zn:List String:=[]
def bH(c0:Addr)(c1:Addr)(c2:Addr)(c3:Addr)(c4:Addr)(c5:Addr)(c6:Addr)(c7:Addr)(c8:Addr)(c9:Addr)(c10:Addr)(c11:Addr):String→Addr:=fun s=>match s with
 | "YardError" =>c0
 | "NoNumber" =>c1
 | "BadThing" =>c2
 | "NoStone" =>c3
 | "NoTurn" =>c4
 | "Yard" =>c5
 | "Thing" =>c6
 | "Post" =>c7
 | "Fence" =>c8
 | "Sail" =>c9
 | "Cloth" =>c10
 | "House" =>c11
 |_=>0
noncomputable def eO:M Fl:=(ĝ (cL (iy (cZ (Ĉ aA (Ĉ Ō (Ĉ aM (Ā 0) (mC (.int 7))) (mC (.int 16))) (mC (.int 11)))) (cZ (Ĉ RX (Ā 1) (mC (.int 6)))))
 (Ĳ (Ŗ (Ĉ Ě (ĕ (bF (Ą (Ř (Ą (mC (.int 1)) (Ą (mC (.int 20)) ě))) (Ą (Ř (Ą (mC (.int 20)) (Ą (mC (.int 1)) ě))) ě)))) (Ĉ Ō (Ā 0) (mC (.int 2))))))
 dD)
 (ĝ (ĳ 2 (Ł ļ (mC (.int 1)) (Ĉ Ō (Ā 0) (dz qL (Ą (mC (.int 5)) (Ą (Ā 1) ě))))))
 (Ĳ (Ŗ (Ř (Ą (ġ 2) (Ą (ĕ (Ł ļ (mC (.int 1)) (Ĉ Ō (Ĉ aM (Ā 0) (mC (.int 5))) (dz qL (Ą (mC (.int 4)) (Ą (Ĉ aM (Ā 1) (Ā 2)) ě)))))) ě)))))))
noncomputable def dJ:MF:=ń 2 3 eO
noncomputable def uH:M Fl:=(ĝ (cL (cZ (Ĉ mq (Ā 1) (dz jt (Ą (Ā 0) ě))))
 (Ĳ (Ŗ (Ĉ Ě (Ā 0) (Ā 1))))
 dD)
 (Ĳ (Ŗ (mC (.int 0)))))
noncomputable def Ů:MF:=ń 2 2 uH
noncomputable def kj:M Fl:=(cL (cZ (Ĉ aA (Ĉ Ō (Ā 0) (mC (.int 2))) (mC (.int 0))))
 (ĝ (tY 2 (Ĉ Ō (Ā 3) (mC (.int 524287))))
 (ĳ 3 (Ŗ (Ĉ aM (Ā 3) (mC (.int 524287))))))
 (ĝ (ĳ 3 (Ŗ (Ĉ Ō (ĕ (Ł ļ (ĕ (Ł ļ (Ĉ Į (Ā 3) (mC (.int 49157))) (mC (.int 24593)))) (Ĉ Į (mC (.int 2)) (Ā 4)))) (mC (.int 8388593)))))
 (tY 2 (Ĉ aM (Ā 3) (mC (.int 16))))))
noncomputable def uI:M Fl:=(ĝ (ĳ 2 (bF ě))
 (ĝ (ĳ 3 (Ŗ (Ĉ aM (Ā 0) (mC (.int 2)))))
 (ĝ (cL (cZ (Ĉ aA (Ĉ Ō (Ā 0) (mC (.int 2))) (mC (.int 1))))
 (ĳ 3 (Ŗ (Ĉ Ō (Ā 3) (mC (.int 8388593)))))
 dD)
 (ĝ (cJ (au aj (Ą (ġ 1) ě)) (gN 4) kj)
 (Ĳ (dh 2))))))
noncomputable def iJ:MF:=ń 2 5 uI
noncomputable def uJ:M Fl:=(ĝ (cL (cZ (Ĉ aA (Ĉ Ō (Ĉ Ě (Ā 0) (mC (.int 4))) (mC (.int 6))) (mC (.int 4))))
 (Ĳ (Ŗ (mC .non)))
 dD)
 (ĝ (ĳ 1 (Ŗ (Ĉ Ě (ĕ (bF (Ą (mC (.int 1)) (Ą (mC (.int 1)) (Ą (mC (.int 3)) (Ą (Ĉ nM (mC (.int 10)) (mC (.int 5))) ě)))))) (Ĉ Ō (Ĉ Ě (Ā 0) (mC (.int 3))) (mC (.int 4))))))
 (Ĳ (Ŗ (Ř (Ą (Ĉ Į (Ĉ ţ (Ĉ Ō (Ĉ Ě (Ā 0) (mC (.int 0))) (mC (.int 13))) (mC (.int 6))) (Ā 1)) (Ą (Ĉ Į (Ĉ ţ (Ĉ Ō (Ĉ Ě (Ā 0) (mC (.int 1))) (mC (.int 13))) (mC (.int 6))) (Ā 1)) (Ą (Ĉ Į (ĕ (Ł ļ (mC (.int 1)) (Ĉ Ō (Ĉ Ě (Ā 0) (mC (.int 2))) (mC (.int 5))))) (Ā 1)) ě))))))))
noncomputable def jA:MF:=ń 1 2 uJ
noncomputable def uK:M Fl:=(ĝ (ĳ 8 (đ iJ (Ė (ĕ (Ł ļ (Ĉ aM (ĕ (đ Ů (ą 0 (Ė (ĕ (Ł ļ (Ā 1) (Ā 7))) Ď)))) (mC (.int 12))) (Ĉ Į (mC (.int 5)) (Ā 7)))) (Ė (ĕ (Ł ļ (Ĉ Į (mC (.int 5)) (Ā 3)) (mC (.int 2)))) Ď))))
 (ĝ (ĳ 9 (Ŕ [8] 1 (au aj (Ą (ĕ (Ł ļ (mC (.int 1)) (Ĉ Ō (Ĉ Ě (Ā 8) (mC (.int 1))) (Ā 3)))) ě)) (gN 1) Ŋ (ĕ (đ jA (Ė (ĕ (Ad (Ā 0) (mP (ĕ (Ł ļ (mC (.int 2)) (Ĉ Į (mC (.int 5)) (Ā 1))))) (mP (ĕ (Ł ļ (mC (.int 7)) (Ĉ Į (mC (.int 5)) (Ā 1))))))) Ď)))))
 (tY 6 (Ř (Ą (Ĉ Ě (Ā 4) (Ā 7)) (Ą (ĕ (Ł ļ (mC (.int 1)) (Ĉ Ō (Ĉ Į (Ĉ Ě (Ā 8) (mC (.int 0))) (mC (.int 1907))) (Ĉ nM (mC (.int 10)) (mC (.int 9)))))) (Ą (ġ 9) ě)))))))
noncomputable def Av:M Fl:=(ĝ (ĳ 4 (bF (Ą (mC (.str "ab")) (Ą (mC (.str "a")) (Ą (mC (.str "abc")) (Ą (mC (.str "b")) (Ą (mC (.str "ba")) (Ą (mC (.str "z")) (Ą (mC (.str "zz")) (Ą (mC (.str "zzz")) (Ą (mC (.str "abcdefgh")) (Ą (mC (.str "abcdefgi")) (Ą (mC (.str "aa")) (Ą (mC (.str "bb")) ě))))))))))))))
 (ĝ (ĳ 5 (Ŗ (Ĉ Ō (ĕ (đ Ů (ą 0 (ą 1 Ď)))) (mC (.int 12)))))
 (ĝ (ĳ 4 (Ł ļ (ĕ (Ad (Ā 4) (mP (ġ 5)) wH)) (ĕ (Ad (Ā 4) wH (mP (ġ 5))))))
 (ĝ (ĳ 6 (bF ě))
 (ĝ (cJ (au aj (Ą (ġ 2) ě)) (gN 7) uK)
 (Ĳ (dh 6)))))))
noncomputable def fj:MF:=ń 4 10 Av
noncomputable def Aw:M Fl:=(ĝ (iH 0 ["Yard"] "width" (ġ 1))
 (ĝ (iH 0 ["Yard"] "height" (ġ 2))
 (ĝ (iH 0 ["Yard"] "things" (ĕ (nG dI (Ą (Ā 3) ě))))
 (iH 0 ["Yard"] "days" (ĕ (Ŕ [] 3 (ŏ 4) (gT 3 (ĥ (gN 0) (ĥ (gN 1) (ĥ (gN 2) Ū)))) Ŋ (Ř (Ą (ġ 0) (Ą (ġ 1) (Ą (ĕ (nG dI (Ą (Ā 2) ě))) ě))))))))))
noncomputable def jB:MI:=cO 5 5 "Yard" Aw
noncomputable def uL:M Fl:=(ĝ (cL (cZ (Ĉ aA (Ĉ Ō (Ĉ aM (Ā 0) (mC (.int 512))) (mC (.int 12))) (mC (.int 7))))
 (Ĳ (Ł ļ (mC (.int 1)) (Ĉ Ō (Ĉ Į (Ā 0) (mC (.int 1907))) (Ĉ nM (mC (.int 10)) (mC (.int 9))))))
 dD)
 (Ĳ (Ł ļ (mC (.int 1)) (Ĉ Ō (Ā 0) (mC (.int 9))))))
noncomputable def jC:MF:=ń 1 1 uL
noncomputable def uM:M Fl:=(ĝ (cL (cZ (Ĉ aA (Ĉ Ō (Ĉ aM (Ā 0) (mC (.int 512))) (mC (.int 16))) (mC (.int 5))))
 (Ĳ (Ł ļ (Ĉ ţ (Ĉ Ō (Ĉ Į (Ā 0) (mC (.int 3813))) (Ĉ ţ (Ĉ Į (mC (.int 2)) (Ĉ nM (mC (.int 10)) (mC (.int 9)))) (mC (.int 99)))) (Ĉ nM (mC (.int 10)) (mC (.int 9)))) (mC (.int 50))))
 dD)
 (Ĳ (Ŗ (Ĉ ţ (Ĉ Ō (Ā 0) (ĕ (Ł ļ (Ĉ Į (mC (.int 2)) (Ā 1)) (mC (.int 9))))) (mC (.int 4))))))
noncomputable def bV:MF:=ń 2 2 uM
noncomputable def jf:M Fl:=(ĝ (ĳ 2 (đ iJ (ą 0 (Ė (mC (.int 14)) Ď))))
 (ĝ (RG (gS 2 (ĥ (gN 5) (ĥ (gN 6) Ū))) (ĕ (Ŕ [1,2] 1 (au aj (Ą (mC (.int 2)) ě)) (gN 2) Ŋ (ĕ (đ bV (Ė (Ĉ Ě (Ā 1) (Ā 2)) (ą 0 Ď)))))))
 (ĝ (ĳ 3 (đ jC (Ė (Ĉ Ě (Ā 2) (mC (.int 2))) Ď)))
 (ĝ (ĳ 4 (Ŗ (Ĉ Ō (Ĉ Ě (Ā 2) (mC (.int 3))) (mC (.int 5)))))
 (ĝ (cL (cZ (Ĉ aA (Ā 4) (mC (.int 0))))
 (Ĳ (Ŗ (Ř (Ą (mC (.str "post")) (Ą (ĕ (bF (Ą (Ĉ aM (Ā 5) (mC (.int 2))) (Ą (Ĉ aM (Ā 6) (mC (.int 2))) (Ą (ġ 3) ě))))) ě)))))
 dD)
 (ĝ (cL (cZ (Ĉ aA (Ā 4) (mC (.int 1))))
 (ĝ (RG (gS 2 (ĥ (gN 7) (ĥ (gN 8) Ū))) (ĕ (bF (Ą (Ĉ ţ (ĕ (Ł ļ (Ā 5) (Ĉ Ō (Ĉ Ě (Ā 2) (mC (.int 4))) (mC (.int 9))))) (mC (.int 4))) (Ą (Ĉ ţ (ĕ (Ł ļ (Ā 6) (Ĉ Ō (Ĉ Ě (Ā 2) (mC (.int 5))) (mC (.int 9))))) (mC (.int 4))) ě)))))
 (Ĳ (Ŗ (Ř (Ą (mC (.str "fence")) (Ą (ĕ (bF (Ą (ġ 5) (Ą (ġ 6) (Ą (ĕ (Ł ļ (Ā 7) (dz Iz (Ą (Ĉ aA (Ř (Ą (ġ 5) (Ą (ġ 6) ě))) (Ř (Ą (ġ 7) (Ą (ġ 8) ě)))) ě)))) (Ą (ġ 8) (Ą (ġ 3) ě))))))) ě))))))
 dD)
 (ĝ (cL (cZ (Ĉ aA (Ā 4) (mC (.int 2))))
 (Ĳ (Ŗ (Ř (Ą (mC (.str "cloth")) (Ą (ĕ (Ł ļ (ĕ (Ł ļ (ĕ (bF (Ą (ġ 5) (Ą (ġ 6) (Ą (Ĉ Ō (Ĉ Ě (Ā 2) (mC (.int 6))) (mC (.int 10))) ě))))) (ĕ (bF (Ą (ĕ (đ bV (Ė (Ĉ Ě (Ā 2) (mC (.int 7))) (ą 1 Ď)))) (Ą (ĕ (đ bV (Ė (Ĉ Ě (Ā 2) (mC (.int 8))) (ą 1 Ď)))) (Ą (ġ 3) ě))))))) (ĕ (bF (Ą (ĕ (đ bV (Ė (Ĉ Ě (Ā 2) (mC (.int 9))) (ą 1 Ď)))) (Ą (ĕ (đ bV (Ė (Ĉ Ě (Ā 2) (mC (.int 10))) (ą 1 Ď)))) (Ą (ĕ (đ jC (Ė (Ĉ Ě (Ā 2) (mC (.int 11))) Ď))) ě))))))) ě)))))
 dD)
 (Ĳ (Ŗ (Ř (Ą (Ĉ Ě (ĕ (bF (Ą (mC (.str "sail")) (Ą (mC (.str "house")) ě)))) (Ĉ ţ (Ā 4) (mC (.int 3)))) (Ą (ĕ (bF (Ą (ġ 5) (Ą (ġ 6) (Ą (ĕ (Ł ļ (ĕ (Ł ļ (Ā 5) (mC (.int 1)))) (Ĉ Ō (Ĉ Ě (Ā 2) (mC (.int 4))) (mC (.int 8))))) (Ą (ĕ (Ł ļ (ĕ (Ł ļ (Ā 6) (mC (.int 1)))) (Ĉ Ō (Ĉ Ě (Ā 2) (mC (.int 5))) (mC (.int 8))))) (Ą (ġ 3) ě))))))) ě))))))))))))
noncomputable def dM:MF:=ń 2 9 jf
noncomputable def Ax:M Fl:=(Ĳ (Ŗ (tW mz mz (jh gq (mC (.int (1000000000)))) (Ā 0) (mC (.int (1000000000))))))
noncomputable def cR:MF:=ń 1 1 Ax
noncomputable def Ay:M Fl:=(Ĳ (Ŗ (tW mz mz (mC (.int 1)) (Ā 0) (mC (.int (1000000000))))))
noncomputable def lA:MF:=ń 1 1 Ay
noncomputable def uN:M Fl:=(Ĳ (Ŗ (dY (Ĉ aA (dz jt (Ą (Ā 0) ě)) (mC (.int 3))) (dY (ĕ (đ cR (Ė (Ĉ Ě (Ā 0) (mC (.int 0))) Ď))) (dY (ĕ (đ cR (Ė (Ĉ Ě (Ā 0) (mC (.int 1))) Ď))) (ĕ (đ lA (Ė (Ĉ Ě (Ā 0) (mC (.int 2))) Ď))))))))
noncomputable def oM:MF:=ń 1 1 uN
noncomputable def fu:M Fl:=(ĝ (iH 0 ["Thing","Post","Fence","Sail","Cloth","House"] "word" (ġ 1))
 (iH 0 ["Thing","Post","Fence","Sail","Cloth","House"] "numbers" (ĕ (nG dI (Ą (Ā 2) ě)))))
noncomputable def uO:MI:=cO 3 3 "Post" fu
noncomputable def oN:MI:=cO 3 3 "Fence" fu
noncomputable def uP:MI:=cO 3 3 "Sail" fu
noncomputable def oO:MI:=cO 3 3 "Cloth" fu
noncomputable def oR:MI:=cO 3 3 "House" fu
noncomputable def uQ:M Fl:=(Ĳ (Ŗ (dY (Ĉ aA (dz jt (Ą (Ā 0) ě)) (mC (.int 5))) (dY (dz mD (Ą (ĕ (Ŕ [] 1 (ŧ (ĕ (Ad (Ā 0) wH (mP (mC (.int 4)))))) (gN 0) Ŋ (ĕ (đ cR (ą 0 Ď))))) ě)) (ĕ (đ lA (Ė (Ĉ Ě (Ā 0) (mC (.int 4))) Ď)))))))
noncomputable def jD:MF:=ń 1 1 uQ
noncomputable def uR:M Fl:=(Ĳ (Ŗ (dY (ĕ (đ jD (ą 0 Ď))) (Ĉ cj (ĕ (Ad (Ā 0) wH (mP (mC (.int 2))))) (ĕ (Ad (Ā 0) (mP (mC (.int 2))) (mP (mC (.int 4)))))))))
noncomputable def oU:MF:=ń 1 1 uR
noncomputable def DR:M Fl:=(Ĳ (Ŗ (dY (ĕ (đ jD (ą 0 Ď))) (dY (Ĉ mq (Ĉ Ě (Ā 0) (mC (.int 0))) (Ĉ Ě (Ā 0) (mC (.int 2)))) (Ĉ mq (Ĉ Ě (Ā 0) (mC (.int 1))) (Ĉ Ě (Ā 0) (mC (.int 3))))))))
noncomputable def uT:MF:=ń 1 1 DR
noncomputable def Js:M Fl:=(Ĳ (Ŗ (dY (ĕ (đ cR (Ė (Ĉ Ě (Ā 0) (mC (.int 0))) Ď))) (dY (ĕ (đ cR (Ė (Ĉ Ě (Ā 0) (mC (.int 1))) Ď))) (tW mz mz (mC (.int 0)) (Ĉ Ě (Ā 0) (mC (.int 2))) (mC (.int (1000000000))))))))
noncomputable def Fx:MF:=ń 1 1 Js
noncomputable def uU:M Fl:=(Ĳ (Ŗ (dY (Ĉ aA (dz jt (Ą (Ā 0) ě)) (mC (.int 9))) (dz mD (Ą (ĕ (Ŕ [0] 1 (ŧ (Ř (Ą (mC (.int 0)) (Ą (mC (.int 3)) (Ą (mC (.int 6)) ě))))) (gN 1) Ŋ (ĕ (đ Fx (Ė (ĕ (Ad (Ā 0) (mP (ġ 1)) (mP (ĕ (Ł ļ (Ā 1) (mC (.int 3))))))) Ď))))) ě)))))
noncomputable def oV:MF:=ń 1 1 uU
noncomputable def gD:M Fl:=(ĝ (cL (iy (cZ (Ĉ aA (Ā 0) (mC (.str "post")))) (cI (ĕ (đ oM (ą 1 Ď)))))
 (Ĳ (Ŗ (bU "Post" uO (ą 0 (ą 1 Ď)))))
 dD)
 (ĝ (cL (iy (cZ (Ĉ aA (Ā 0) (mC (.str "fence")))) (cI (ĕ (đ oU (ą 1 Ď)))))
 (Ĳ (Ŗ (bU "Fence" oN (ą 0 (ą 1 Ď)))))
 dD)
 (ĝ (cL (iy (cZ (Ĉ aA (Ā 0) (mC (.str "sail")))) (cI (ĕ (đ uT (ą 1 Ď)))))
 (Ĳ (Ŗ (bU "Sail" uP (ą 0 (ą 1 Ď)))))
 dD)
 (ĝ (cL (iy (cZ (Ĉ aA (Ā 0) (mC (.str "cloth")))) (cI (ĕ (đ oV (ą 1 Ď)))))
 (Ĳ (Ŗ (bU "Cloth" oO (ą 0 (ą 1 Ď)))))
 dD)
 (ĝ (cL (iy (cZ (Ĉ aA (Ā 0) (mC (.str "house")))) (cI (ĕ (đ uT (ą 1 Ď)))))
 (Ĳ (Ŗ (bU "House" oR (ą 0 (ą 1 Ď)))))
 dD)
 (uh "BadThing"))))))
noncomputable def cG:MF:=ń 2 2 gD
noncomputable def Az:M Fl:=(ĝ (ĳ 1 (Ŕ [] 1 (ŏ 0) (gN 0) Ŋ (Ĉ Ě (Ā 0) (mC (.int 0)))))
 (ĝ (ĳ 2 (Ŕ [] 1 (ŏ 0) (gN 0) Ŋ (Ĉ Ě (Ā 0) (mC (.int 1)))))
 (Ĳ (bF (Ą (Ř (Ą (mC (.int 1)) (Ą (mC (.int 0)) (Ą (dz iI (Ą (Ā 1) ě)) ě)))) (Ą (Ř (Ą (jh gq (mC (.int 1))) (Ą (mC (.int 0)) (Ą (jh gq (dz qP (Ą (Ā 1) ě))) ě)))) (Ą (Ř (Ą (mC (.int 0)) (Ą (mC (.int 1)) (Ą (dz iI (Ą (Ā 2) ě)) ě)))) (Ą (Ř (Ą (mC (.int 0)) (Ą (jh gq (mC (.int 1))) (Ą (jh gq (dz qP (Ą (Ā 2) ě))) ě)))) ě))))))))
noncomputable def rN:MF:=ń 1 3 Az
noncomputable def kE:M Fl:=(cL (cZ (Ĉ (inD true) (Ā 2) (Ā 1)))
 (tY 1 (ġ 2))
 dD)
noncomputable def A_:M Fl:=(ĝ (ĳ 1 (bF ě))
 (ĝ (cJ (ŏ 0) (gN 2) kE)
 (Ĳ (dh 1))))
noncomputable def rP:MF:=ń 1 3 A_
noncomputable def Ba:M Fl:=(ĝ (ĳ 2 (Ŗ (Ĉ ţ (Ĉ Ě (Ā 1) (mC (.int 1))) (Ĉ Ě (Ā 0) (mC (.int 1))))))
 (ĝ (ĳ 3 (Ŗ (Ĉ ţ (Ĉ Ě (Ā 0) (mC (.int 0))) (Ĉ Ě (Ā 1) (mC (.int 0))))))
 (Ĳ (Ŗ (Ř (Ą (ġ 2) (Ą (ġ 3) (Ą (ĕ (Ł ļ (Ĉ Į (Ā 2) (Ĉ Ě (Ā 0) (mC (.int 0)))) (Ĉ Į (Ā 3) (Ĉ Ě (Ā 0) (mC (.int 1)))))) ě))))))))
noncomputable def rQ:MF:=ń 2 4 Ba
noncomputable def Bb:M Fl:=(Ĳ (Ŗ (Ĉ mz (ĕ (Ł ļ (Ĉ Į (Ĉ Ě (Ā 0) (mC (.int 0))) (Ĉ Ě (Ā 1) (mC (.int 0)))) (Ĉ Į (Ĉ Ě (Ā 0) (mC (.int 1))) (Ĉ Ě (Ā 1) (mC (.int 1)))))) (Ĉ Ě (Ā 0) (mC (.int 2))))))
noncomputable def iK:MF:=ń 2 2 Bb
noncomputable def kI:M Fl:=(ĝ (ĳ 5 (đ rQ (ą 3 (ą 4 Ď))))
 (cL (iy (cZ (Ĉ cj (Ā 3) (Ā 4))) (cI (dz mD (Ą (ĕ (Ŕ [5] 1 (ŏ 2) (gN 1) Ŋ (ĕ (đ iK (ą 0 (ą 1 Ď)))))) ě))))
 (tY 1 (ġ 5))
 dD))
noncomputable def uV:M Fl:=(cJ (ŏ 2) (gN 4) kI)
noncomputable def Bc:M Fl:=(ĝ (ĳ 1 (bF ě))
 (ĝ (ĳ 2 (đ rP (ą 0 Ď)))
 (ĝ (cJ (ŏ 2) (gN 3) uV)
 (Ĳ (dh 1)))))
noncomputable def rT:MF:=ń 1 6 Bc
noncomputable def Bd:M Fl:=(Ĳ (Ł ļ (ĕ (đ rN (ą 0 Ď))) (ĕ (đ rT (ą 0 Ď)))))
noncomputable def lB:MF:=ń 1 1 Bd
noncomputable def Bf:M Fl:=(Ĳ (Ŗ (Ř (Ą (ĕ (Ł ļ (Ĉ Į (Ĉ Ě (Ā 1) (mC (.int 2))) (Ĉ Ě (Ā 0) (mC (.int 0)))) (Ĉ Į (Ĉ Ě (Ā 1) (mC (.int 0))) (Ĉ Ě (Ā 0) (mC (.int 2)))))) (Ą (ĕ (Ł ļ (Ĉ Į (Ĉ Ě (Ā 1) (mC (.int 2))) (Ĉ Ě (Ā 0) (mC (.int 1)))) (Ĉ Į (Ĉ Ě (Ā 1) (mC (.int 1))) (Ĉ Ě (Ā 0) (mC (.int 2)))))) ě)))))
noncomputable def iM:MF:=ń 2 2 Bf
noncomputable def Bg:M Fl:=(Ĳ (bF (Ą (Ř (Ą (ġ 0) (Ą (ġ 1) (Ą (ġ 4) ě)))) (Ą (Ř (Ą (ġ 2) (Ą (ġ 1) (Ą (ġ 4) ě)))) (Ą (Ř (Ą (ġ 2) (Ą (ġ 3) (Ą (ġ 4) ě)))) (Ą (Ř (Ą (ġ 0) (Ą (ġ 3) (Ą (ġ 4) ě)))) ě))))))
noncomputable def iQ:MF:=ń 5 5 Bg
noncomputable def Jt:M Fl:=(Ĳ (Ł ļ (ĕ (đ iQ (ą 0 (ą 1 (ą 2 (ą 3 (Ė (mC (.int 0)) Ď))))))) (ĕ (đ iQ (ą 0 (ą 1 (ą 2 (ą 3 (ą 4 Ď)))))))))
noncomputable def yW:MF:=ń 5 5 Jt
noncomputable def Bh:M Fl:=(ĝ (ĳ 1 (Ŗ (Ĉ Į (mC (.int 2)) (Ĉ Ě (jh (aD ["Thing","Post","Fence","Sail","Cloth","House"] "numbers") (Ā 0)) (mC (.int 0))))))
 (ĝ (ĳ 2 (Ŗ (Ĉ Į (mC (.int 2)) (Ĉ Ě (jh (aD ["Thing","Post","Fence","Sail","Cloth","House"] "numbers") (Ā 0)) (mC (.int 1))))))
 (Ĳ (đ yW (Ė (Ĉ ţ (Ā 1) (mC (.int 1))) (Ė (Ĉ ţ (Ā 2) (mC (.int 1))) (Ė (ĕ (Ł ļ (Ā 1) (mC (.int 1)))) (Ė (ĕ (Ł ļ (Ā 2) (mC (.int 1)))) (Ė (Ĉ Ě (jh (aD ["Thing","Post","Fence","Sail","Cloth","House"] "numbers") (Ā 0)) (mC (.int 2))) Ď)))))))))
noncomputable def lE:MF:=ń 1 3 Bh
noncomputable def Ju:M Fl:=(ĝ (ĳ 1 (Ŗ (jh (aD ["Thing","Post","Fence","Sail","Cloth","House"] "numbers") (Ā 0))))
 (ĝ (ĳ 2 (Ŗ (Ř (Ą (Ĉ Ě (Ā 1) (mC (.int 0))) (Ą (Ĉ Ě (Ā 1) (mC (.int 1))) ě)))))
 (ĝ (ĳ 3 (Ŗ (Ř (Ą (Ĉ Ě (Ā 1) (mC (.int 2))) (Ą (Ĉ Ě (Ā 1) (mC (.int 3))) ě)))))
 (Ĳ (bF (Ą (ĕ (Ł ļ (Ā 2) (Ř (Ą (mC (.int 0)) ě)))) (Ą (ĕ (Ł ļ (Ā 3) (Ř (Ą (mC (.int 0)) ě)))) (Ą (ĕ (Ł ļ (Ā 3) (Ř (Ą (Ĉ Ě (Ā 1) (mC (.int 4))) ě)))) (Ą (ĕ (Ł ļ (Ā 2) (Ř (Ą (Ĉ Ě (Ā 1) (mC (.int 4))) ě)))) ě)))))))))
noncomputable def yX:MF:=ń 1 4 Ju
noncomputable def Bj:M Fl:=(ĝ (ĳ 1 (Ŗ (jh (aD ["Thing","Post","Fence","Sail","Cloth","House"] "numbers") (Ā 0))))
 (Ĳ (đ iQ (Ė (Ĉ Ě (Ā 1) (mC (.int 0))) (Ė (Ĉ Ě (Ā 1) (mC (.int 1))) (Ė (Ĉ Ě (Ā 1) (mC (.int 2))) (Ė (Ĉ Ě (Ā 1) (mC (.int 3))) (Ė (Ĉ Ě (Ā 1) (mC (.int 4))) Ď))))))))
noncomputable def lF:MF:=ń 1 2 Bj
noncomputable def Bk:M Fl:=(Ĳ (Ŕ [0] 1 (ŧ (Ř (Ą (mC (.int 0)) (Ą (mC (.int 3)) (Ą (mC (.int 6)) ě))))) (gN 1) Ŋ (dz nW (Ą (ĕ (Ad (jh (aD ["Thing","Post","Fence","Sail","Cloth","House"] "numbers") (Ā 0)) (mP (ġ 1)) (mP (ĕ (Ł ļ (Ā 1) (mC (.int 3))))))) ě))))
noncomputable def lG:MF:=ń 1 1 Bk
noncomputable def Bl:M Fl:=(ĝ (ĳ 1 (Ŗ (jh (aD ["Thing","Post","Fence","Sail","Cloth","House"] "numbers") (Ā 0))))
 (Ĳ (đ yW (Ė (Ĉ Ě (Ā 1) (mC (.int 0))) (Ė (Ĉ Ě (Ā 1) (mC (.int 1))) (Ė (Ĉ Ě (Ā 1) (mC (.int 2))) (Ė (Ĉ Ě (Ā 1) (mC (.int 3))) (Ė (Ĉ Ě (Ā 1) (mC (.int 4))) Ď))))))))
noncomputable def lH:MF:=ń 1 2 Bl
noncomputable def Bm:M Fl:=(Ĳ (Ŕ [1] 1 (Ft (ŧ (ĕ (n_ "corners" [("Post",lE),("Fence",yX),("Sail",lF),("Cloth",lG),("House",lH)] (ġ 0) Ď)))) (gN 1) Ŋ (ĕ (đ iM (ą 1 (ą 0 Ď))))))
noncomputable def jE:MF:=ń 2 2 Bm
noncomputable def uW:M Fl:=(ĝ (cL (cZ (Ĉ mq (Ā 1) (Ā 0)))
 (Ĳ (Ŗ (mC (.int 0))))
 dD)
 (Ĳ (Ŗ (Ĉ ţ (Ĉ wC (mC (.int 1)) (ĕ (Ł ļ (Ā 1) (mC (.int 1))))) (Ĉ wC (mC (.int 1)) (Ā 0))))))
noncomputable def jF:MF:=ń 2 2 uW
noncomputable def cU:M Fl:=(ĝ (ĳ 9 (Ŗ (Ĉ Į (Ā 6) (Ā 1))))
 (ĝ (ĳ 10 (Ŗ (Ĉ ţ (Ā 8) (Ĉ Į (Ĉ Į (Ā 7) (Ā 1)) (Ā 2)))))
 (cL (cZ (Ĉ RX (Ā 9) (mC (.int 0))))
 (ĳ 5 (Ŗ (dz qL (Ą (Ā 5) (Ą (Ĉ aM (Ā 10) (Ā 9)) ě)))))
 (cL (cZ (Ĉ mq (Ā 9) (mC (.int 0))))
 (ĳ 4 (Ŗ (dz Dq (Ą (Ā 4) (Ą (jh gq (Ĉ aM (Ā 10) (jh gq (Ā 9)))) ě)))))
 (cL (cZ (Ĉ mq (Ā 10) (mC (.int 0))))
 (Ĳ (Ŗ (mC (.int 0))))
 dD)))))
noncomputable def uX:M Fl:=(ĝ (ĳ 4 (Ŗ (mC (.int 0))))
 (ĝ (ĳ 5 (Ŗ (Ĉ ţ (Ā 3) (mC (.int 1)))))
 (ĝ (cJ (ŏ 0) (gT 3 (ĥ (gN 6) (ĥ (gN 7) (ĥ (gN 8) Ū)))) cU)
 (Ĳ (đ jF (ą 4 (ą 5 Ď)))))))
noncomputable def oW:MF:=ń 4 11 uX
noncomputable def uY:M Fl:=(wY 4 (Ĉ wC (ĕ (đ oW (ą 3 (Ė (Ĉ Į (mC (.int 2)) (Ĉ Ě (Ā 2) (mC (.int 2)))) (ą 5 (Ė (jh (aD ["Yard"] "width") (Ā 0)) Ď)))))) (Ĉ Į (Ā 5) (jh (aD ["Yard"] "width") (Ā 0)))))
noncomputable def Bo:M Fl:=(ĝ (ĳ 3 (đ lB (Ė (ĕ (đ jE (ą 1 (ą 2 Ď)))) Ď)))
 (ĝ (ĳ 4 (Ŗ (mC (.int 0))))
 (ĝ (cJ (au aj (Ą (jh (aD ["Yard"] "height") (Ā 0)) ě)) (gN 5) uY)
 (Ĳ (dh 4)))))
noncomputable def lJ:MF:=ń 3 6 Bo
noncomputable def Jv:M Fl:=(Ĳ (Ŕ [0,1] 1 (ŧ (jh (aD ["Yard"] "things") (Ā 0))) (gN 2) Ŋ (ĕ (đ lJ (ą 0 (ą 2 (ą 1 Ď)))))))
noncomputable def Fy:MF:=ń 2 2 Jv
noncomputable def Bp:M Fl:=(wY 2 (ġ 3))
noncomputable def uZ:M Fl:=(ĝ (cL (cZ (Ĉ pZ (Ā 1) (mC .non)))
 (Ĳ (đ jF (Ė (mC (.int 0)) (Ė (Ĉ ţ (Ĉ Į (jh (aD ["Yard"] "width") (Ā 0)) (jh (aD ["Yard"] "height") (Ā 0))) (mC (.int 1))) Ď))))
 dD)
 (ĝ (ĳ 2 (Ŗ (mC (.int 0))))
 (ĝ (cJ (ŧ (ĕ (đ Fy (ą 0 (ą 1 Ď))))) (gN 3) Bp)
 (Ĳ (dh 2)))))
noncomputable def fB:MF:=ń 2 4 uZ
noncomputable def Bq:M Fl:=(Ĳ (Ŗ (dY (tW mz mq (mC (.int 0)) (Ĉ Ě (Ā 1) (mC (.int 0))) (jh (aD ["Yard"] "width") (Ā 0))) (tW mz mq (mC (.int 0)) (Ĉ Ě (Ā 1) (mC (.int 1))) (jh (aD ["Yard"] "height") (Ā 0))))))
noncomputable def rW:MF:=ń 2 2 Bq
noncomputable def Br:M Fl:=(cL (dj (cI (ĕ (đ rW (ą 0 (ą 1 Ď))))))
 (mZ "NoStone" 2 [("stone",1)] (Ą (ġ 1) ě))
 dD)
noncomputable def lK:MF:=ń 2 2 Br
noncomputable def Bs:M Fl:=(Ĳ (Ŗ (tW mz mq (mC (.int 0)) (Ā 1) (dz jt (Ą (jh (aD ["Yard"] "days") (Ā 0)) ě)))))
noncomputable def rY:MF:=ń 2 2 Bs
noncomputable def Bt:M Fl:=(cL (dj (cI (ĕ (đ rY (ą 0 (ą 1 Ď))))))
 (mZ "NoTurn" 3 [("day",1),("turn",2)] (Ą (ġ 1) (Ą (mC .non) ě)))
 dD)
noncomputable def rZ:MF:=ń 2 2 Bt
noncomputable def Bu:M Fl:=(Ĳ (Ŗ (Ĉ Ě (Ĉ Ě (jh (aD ["Yard"] "days") (Ā 0)) (Ā 1)) (mC (.int 2)))))
noncomputable def lM:MF:=ń 2 2 Bu
noncomputable def u_:M Fl:=(cL (dj (cI (ĕ (đ iK (ą 2 (ą 1 Ď))))))
 (Ĳ (dh 2))
 dD)
noncomputable def vd:M Fl:=(ĝ (cJ (ŧ (ĕ (đ lB (ą 0 Ď)))) (gN 2) u_)
 (Ĳ (Ŗ (mC .non))))
noncomputable def oX:MF:=ń 2 3 vd
noncomputable def oY:M Fl:=(Ao 1 (Ŕ [2] 1 (au aj (Ą (ġ 2) ě)) (gN 1) Ŋ (Ř (Ą (ġ 1) (Ą (ġ 0) ě)))))
noncomputable def Bv:M Fl:=(ĝ (ĳ 1 (bF ě))
 (ĝ (cJ (au aj (Ą (ġ 0) ě)) (gN 2) oY)
 (Ĳ (dh 1))))
noncomputable def lN:MF:=ń 1 3 Bv
noncomputable def oZ:M Fl:=(Ao 1 (Ŕ [2] 1 (Ft (ŧ (ĕ (đ lN (ą 2 Ď))))) (gN 1) Ŋ (Ř (Ą (Ĉ Ě (Ā 1) (mC (.int 0))) (Ą (Ĉ Ě (Ā 1) (mC (.int 1))) (Ą (ġ 0) ě))))))
noncomputable def Bw:M Fl:=(ĝ (ĳ 1 (bF ě))
 (ĝ (cJ (au aj (Ą (ġ 0) ě)) (gN 2) oZ)
 (Ĳ (dh 1))))
noncomputable def su:MF:=ń 1 3 Bw
noncomputable def Vb:M Fl:=(Ÿ (cZ (Ĉ cj (Ā 1) (mC (.int 0))))
 (ĝ (ĳ 2 (Ŗ (Ĉ Ō (Ā 0) (Ā 1))))
 (ĝ (ĳ 0 (Ŗ (ġ 1)))
 (ĳ 1 (Ŗ (ġ 2))))))
noncomputable def Jw:M Fl:=(ĝ Vb
 (Ĳ (Ŗ (dz Sg (Ą (Ā 0) ě)))))
noncomputable def Fz:MF:=ń 2 3 Jw
noncomputable def vf:M Fl:=(ĝ (cL (cZ (Ĉ aA (Ā 1) (mC (.int 0))))
 (uh "NoNumber")
 dD)
 (ĝ (ĳ 2 (đ Fz (ą 0 (ą 1 Ď))))
 (ĝ (cL (cZ (Ĉ mq (Ā 1) (mC (.int 0))))
 (ĳ 2 (Ŗ (jh gq (Ā 2))))
 dD)
 (Ĳ (Ŗ (Ř (Ą (Ĉ aM (Ā 0) (Ā 2)) (Ą (Ĉ aM (Ā 1) (Ā 2)) ě))))))))
noncomputable def gF:MF:=ń 2 3 vf
noncomputable def vg:M Fl:=(zY 4 (ġ 6) (ĕ (đ gF (ą 5 (ą 3 Ď)))))
noncomputable def kJ:M Fl:=(ĝ (ĳ 3 (Ŗ (dz Al (Ą (Ā 0) ě))))
 (ĝ (ĳ 4 (Ŕ [3] 1 (au aj (Ą (ġ 2) ě)) (gN 1) Ŋ (ĕ (đ gF (Ė (mC (.int 0)) (ą 0 Ď))))))
 (ĝ (cJ (Fp (Jb 0) (Jb 1)) (gT 2 (ĥ (gN 5) (ĥ (gN 6) Ū))) vg)
 (Ĳ (dh 4)))))
noncomputable def dN:MF:=ń 3 7 kJ
noncomputable def Bx:M Fl:=(ĝ (ĳ 3 (Ŗ (Ĉ Į (Ĉ ţ (Ĉ Ě (Ā 1) (mC (.int 0))) (Ĉ Ě (Ā 0) (mC (.int 0)))) (Ĉ ţ (Ĉ Ě (Ā 2) (mC (.int 1))) (Ĉ Ě (Ā 0) (mC (.int 1)))))))
 (Ĳ (Ŗ (Ĉ ţ (Ā 3) (Ĉ Į (Ĉ ţ (Ĉ Ě (Ā 1) (mC (.int 1))) (Ĉ Ě (Ā 0) (mC (.int 1)))) (Ĉ ţ (Ĉ Ě (Ā 2) (mC (.int 0))) (Ĉ Ě (Ā 0) (mC (.int 0)))))))))
noncomputable def iR:MF:=ń 3 4 Bx
noncomputable def Jx:M Fl:=(ĝ (ĳ 2 (Ŗ (Ĉ Ě (Ā 0) (mC (.int 0)))))
 (ĝ (ĳ 3 (Ŗ (Ĉ Ě (Ā 0) (mC (.int 1)))))
 (ĝ (ĳ 4 (Ŗ (Ĉ Ě (Ā 0) (mC (.int 2)))))
 (Ĳ (bF (Ą (ĕ (đ iR (ą 1 (ą 3 (ą 4 Ď))))) (Ą (ĕ (đ iR (ą 2 (ą 1 (ą 4 Ď))))) (Ą (ĕ (đ iR (ą 2 (ą 3 (ą 1 Ď))))) ě))))))))
noncomputable def FJ:MF:=ń 2 5 Jx
noncomputable def vh:M Fl:=(ĝ (ĳ 1 (Ŗ (dz Al (Ą (Ā 0) ě))))
 (Ĳ (Ŗ (dY (Ĉ cj (Ā 1) (mC (.int 0))) (dz mD (Ą (ĕ (Ŕ [1] 1 (ŏ 0) (gN 1) Ŋ (Ĉ HB (Ĉ Į (Ā 1) (Ā 0)) (mC (.int 0))))) ě))))))
noncomputable def jG:MF:=ń 1 2 vh
noncomputable def BJ:M Fl:=(ĝ (ĳ 2 (Ŗ (Ĉ ţ (Ĉ Ě (Ĉ Ě (Ā 0) (mC (.int 1))) (mC (.int 0))) (Ĉ Ě (Ĉ Ě (Ā 0) (mC (.int 0))) (mC (.int 0))))))
 (ĝ (ĳ 3 (Ŗ (Ĉ ţ (Ĉ Ě (Ĉ Ě (Ā 0) (mC (.int 1))) (mC (.int 1))) (Ĉ Ě (Ĉ Ě (Ā 0) (mC (.int 0))) (mC (.int 1))))))
 (ĝ (ĳ 4 (Ł ļ (Ĉ Į (Ā 2) (Ĉ ţ (Ĉ Ě (Ā 1) (mC (.int 0))) (Ĉ Ě (Ĉ Ě (Ā 0) (mC (.int 0))) (mC (.int 0))))) (Ĉ Į (Ā 3) (Ĉ ţ (Ĉ Ě (Ā 1) (mC (.int 1))) (Ĉ Ě (Ĉ Ě (Ā 0) (mC (.int 0))) (mC (.int 1)))))))
 (Ĳ (bF (Ą (Ĉ ţ (ĕ (Ł ļ (Ĉ Į (Ā 2) (Ā 2)) (Ĉ Į (Ā 3) (Ā 3)))) (Ā 4)) (Ą (ġ 4) ě)))))))
noncomputable def sy:MF:=ń 2 5 BJ
noncomputable def vm:M Fl:=(ĝ (ĳ 4 (đ sy (Ė (ĕ (Ŕ [0] 1 (ŏ 3) (gN 1) Ŋ (Ĉ Ě (Ā 0) (Ā 1)))) (ą 1 Ď))))
 (cL (cI (ĕ (đ jG (ą 4 Ď))))
 (Ĳ (đ dN (ą 4 (ą 3 (ą 2 Ď)))))
 dD))
noncomputable def vo:M Fl:=(ĝ (ĳ 4 (đ FJ (Ė (ĕ (Ŕ [0] 1 (ŏ 3) (gN 1) Ŋ (Ĉ Ě (Ā 0) (Ā 1)))) (ą 1 Ď))))
 (cL (cI (ĕ (đ jG (ą 4 Ď))))
 (Ĳ (đ dN (ą 4 (ą 3 (ą 2 Ď)))))
 dD))
noncomputable def o_:M Fl:=(ĝ (ĳ 2 (Ŗ (dz jt (Ą (Ā 0) ě))))
 (ĝ (cJ (ŧ (ĕ (đ su (ą 2 Ď)))) (gN 3) vo)
 (ĝ (cJ (ŧ (ĕ (đ lN (ą 2 Ď)))) (gN 3) vm)
 (Ĳ (đ dN (Ė (ĕ (bF (Ą (mC (.int 1)) ě))) (Ė (ĕ (bF (Ą (mC (.int 0)) ě))) (ą 2 Ď))))))))
noncomputable def lO:MF:=ń 2 5 o_
noncomputable def vp:M Fl:=(ĝ (ĳ 2 (đ oX (ą 0 (ą 1 Ď))))
 (ĝ (cL (cZ (Ĉ pZ (Ā 2) (mC .non)))
 (Ĳ (Ŗ (Ř (Ą (mC (.str "in")) (Ą (ĕ (đ lO (ą 0 (ą 1 Ď)))) ě)))))
 dD)
 (Ĳ (Ŗ (Ř (Ą (mC (.str "out")) (Ą (ġ 2) ě)))))))
noncomputable def pq:MF:=ń 2 3 vp
noncomputable def BK:M Fl:=(Ĳ (đ iM (Ė (Ř (Ą (Ĉ Į (mC (.int 2)) (Ĉ Ě (Ā 0) (mC (.int 0)))) (Ą (Ĉ Į (mC (.int 2)) (Ĉ Ě (Ā 0) (mC (.int 1)))) (Ą (mC (.int 0)) ě)))) (ą 1 Ď))))
noncomputable def sE:MF:=ń 2 2 BK
noncomputable def BL:M Fl:=(Ĳ (đ pq (Ė (ĕ (đ jE (ą 0 (ą 2 Ď)))) (Ė (ĕ (đ sE (ą 1 (ą 2 Ď)))) Ď))))
noncomputable def sG:MF:=ń 3 3 BL
noncomputable def vq:M Fl:=(Ĳ (Ŗ (Ĉ aA (Ĉ Ě (ĕ (đ sG (ą 0 (ą 1 (ą 2 Ď))))) (mC (.int 0))) (mC (.str "in")))))
noncomputable def lQ:MF:=ń 3 3 vq
noncomputable def vA:M Fl:=(cL (cI (ĕ (đ lQ (ą 3 (ą 2 (ą 1 Ď))))))
 (Ĳ (Ŗ (mC (.bl true))))
 dD)
noncomputable def pA:M Fl:=(ĝ (cL (cZ (Ĉ pZ (Ā 1) (mC .non)))
 (Ĳ (Ŗ (mC (.bl true))))
 dD)
 (ĝ (cJ (ŧ (jh (aD ["Yard"] "things") (Ā 0))) (gN 3) vA)
 (Ĳ (Ŗ (mC (.bl false))))))
noncomputable def dO:MF:=ń 3 4 pA
noncomputable def BP:M Fl:=(ĝ (wg (ĕ (đ lK (ą 0 (ą 2 Ď)))))
 (ĝ (wg (ĕ (đ rZ (ą 0 (ą 1 Ď)))))
 (Ĳ (Ŕ [0,2] 2 (Ft (DK (mLs (ĕ (đ lM (ą 0 (ą 1 Ď))))))) (gT 2 (ĥ (gN 2) (ĥ (gN 3) Ū))) (dj (cI (ĕ (đ dO (ą 0 (ą 3 (ą 1 Ď))))))) (ġ 2)))))
noncomputable def lR:MF:=ń 3 3 BP
noncomputable def vB:M Fl:=(ĝ (cL (cZ (Ĉ pZ (Ā 1) (mC .non)))
 (Ĳ (Ŗ (Ĉ pZ (Ā 0) (mC .non))))
 dD)
 (ĝ (cL (Rz (dj (cI (dz (cQ Zk Zl Zm Zn) (Ą (Ā 0) (Ą (mC (.ty "tuple")) ě))))) (cZ (Ĉ cj (Ā 0) (Ā 1))))
 (Ĳ (Ŗ (mC (.bl false))))
 dD)
 (Ĳ (Ŗ (dz mD (Ą (ĕ (Ŕ [] 1 (ŏ 0) (gN 0) Ŋ (dY (dz (cQ Zk Zl Zm Zn) (Ą (Ā 0) (Ą (mC (.ty "int")) ě))) (Hv (dz (cQ Zk Zl Zm Zn) (Ą (Ā 0) (Ą (mC (.ty "bool")) ě))))))) ě))))))
noncomputable def pB:MF:=ń 2 2 vB
noncomputable def BR:M Fl:=(ĝ (cL (Rz (dj (cI (dz (cQ Zk Zl Zm Zn) (Ą (Ā 0) (Ą (mC (.ty "list")) ě))))) (cZ (Ĉ cj (Ā 0) (Ā 1))))
 (Ĳ (Ŗ (mC (.bl false))))
 dD)
 (Ĳ (Ŗ (dz mD (Ą (ĕ (Ŕ [] 1 (ŏ 0) (gN 0) Ŋ (dY (dz (cQ Zk Zl Zm Zn) (Ą (Ā 0) (Ą (mC (.ty "int")) ě))) (Hv (dz (cQ Zk Zl Zm Zn) (Ą (Ā 0) (Ą (mC (.ty "bool")) ě))))))) ě)))))
noncomputable def lU:MF:=ń 2 2 BR
noncomputable def vC:M Fl:=(cL (dj (cI (ĕ (đ dO (ą 0 (ą 4 (ą 1 Ď)))))))
 (Ĳ (Ŗ (Ř (Ą (ġ 2) (Ą (ġ 3) ě)))))
 dD)
noncomputable def vD:M Fl:=(cJ (DK (mLs (ĕ (đ lM (ą 0 (ą 2 Ď)))))) (gT 2 (ĥ (gN 3) (ĥ (gN 4) Ū))) vC)
noncomputable def vG:M Fl:=(ĝ (wg (ĕ (đ lK (ą 0 (ą 1 Ď)))))
 (ĝ (cJ (au aj (Ą (dz jt (Ą (jh (aD ["Yard"] "days") (Ā 0)) ě)) ě)) (gN 2) vD)
 (Ĳ (Ŗ (mC .non)))))
noncomputable def pC:MF:=ń 2 5 vG
noncomputable def kO:M Fl:=(ĝ (ĳ 11 (Ŕ [7,6,10] 1 (au aj (Ą (dz jt (Ą (Ĉ Ě (Ā 6) (Ā 10)) ě)) ě)) (gN 3) (cZ (Ĉ aA (Ĉ nQ (Ĉ wF (Ĉ Ě (Ĉ Ě (Ā 1) (Ā 2)) (Ā 3)) (Ā 0)) (mC (.int 1))) (mC (.int 0)))) (ġ 3)))
 (ĝ (cL (iy (cZ (Ĉ pZ (Ā 9) (mC .non))) (cZ (Ĉ cj (Ā 11) (ĕ (bF ě)))))
 (ĳ 9 (Ŗ (Ř (Ą (ġ 10) (Ą (Ĉ Ě (Ā 11) (mC (.int 0))) ě)))))
 dD)
 (ĝ (ĳ 12 (đ lR (ą 5 (ą 10 (ą 8 Ď)))))
 (ĝ (cL (dj (cI (ĕ (đ lU (ą 12 (ą 11 Ď))))))
 (Ĳ (Ŗ (mC (.bl false))))
 dD)
 (ĝ (tY 12 (mC (.int 0)))
 (cL (dj (cI (ĕ (đ lU (Ė (ĕ (đ lR (ą 5 (ą 10 (ą 8 Ď))))) (ą 11 Ď))))))
 (Ĳ (Ŗ (mC (.bl false))))
 dD))))))
noncomputable def pD:M Fl:=(ĝ (ĳ 8 (Ŗ (Ř (Ą (Ĉ Ō (Ā 7) (Ĉ Ě (Ā 1) (mC (.int 0)))) (Ą (Ĉ aM (Ā 7) (Ĉ Ě (Ā 1) (mC (.int 0)))) ě)))))
 (ĝ (ĳ 9 (Ŗ (mC .non)))
 (ĝ (cJ (au aj (Ą (dz jt (Ą (Ā 3) ě)) ě)) (gN 10) kO)
 (cL (dj (cI (ĕ (đ pB (Ė (ĕ (đ pC (ą 5 (ą 8 Ď)))) (ą 9 Ď))))))
 (Ĳ (Ŗ (mC (.bl false))))
 dD))))
noncomputable def BW:M Fl:=(ĝ (ĳ 1 (đ dJ (Ė (ĕ (đ Ů (ą 0 (Ė (mC (.int 0)) Ď)))) (Ė (mC (.int 9)) Ď))))
 (ĝ (ĳ 2 (Ŕ [1] 1 (ŧ (ĕ (Ad (Ā 0) (mP (mC (.int 2))) (mP (mC (.int 6)))))) (gN 1) Ŋ (ĕ (đ dM (ą 1 (Ė (dz iI (Ą (Ā 0) ě)) Ď))))))
 (ĝ (ĳ 3 (đ fj (ą 0 (Ė (mC (.int 6)) (Ė (Ĉ Ō (ĕ (đ Ů (ą 0 (Ė (mC (.int 1)) Ď)))) (mC (.int 4))) (Ė (mC (.int 4)) Ď))))))
 (ĝ (cL (cZ (Ĉ aA (Ĉ Ō (Ĉ aM (ĕ (đ Ů (ą 0 (Ė (mC (.int 1)) Ď)))) (mC (.int 4))) (mC (.int 16))) (mC (.int 9))))
 (ĝ (ĳ 1 (Ŗ (Ř (Ą (ĕ (Ł ļ (mC (.int 1)) (Ĉ Ō (ĕ (đ Ů (ą 0 (Ė (mC (.int 0)) Ď)))) (mC (.int 2))))) (Ą (mC (.int 1)) ě)))))
 (ĝ (ĳ 2 (Ad (Ā 2) wH (mP (mC (.int 1)))))
 (ĳ 3 (đ fj (ą 0 (Ė (mC (.int 6)) (Ė (mC (.int 3)) (Ė (mC (.int 24)) Ď))))))))
 dD)
 (ĝ (ĳ 4 (Ŕ [] 2 (ŏ 2) (gT 2 (ĥ (gN 0) (ĥ (gN 1) Ū))) Ŋ (ĕ (đ cG (ą 0 (Ė (ĕ (nG dI (Ą (Ā 1) ě))) Ď))))))
 (ĝ (ĳ 5 (Ŗ (bU "Yard" jB (Ė (Ĉ Ě (Ā 1) (mC (.int 0))) (Ė (Ĉ Ě (Ā 1) (mC (.int 1))) (ą 4 (ą 3 Ď)))))))
 (ĝ (ĳ 6 (Ŕ [5] 3 (ŏ 3) (gT 3 (ĥ (gN 1) (ĥ (gN 2) (ĥ (gN 3) Ū)))) Ŋ (ĕ (Ŕ [0] 1 (ŏ 3) (gN 1) Ŋ (ĕ (đ fB (ą 0 (ą 1 Ď))))))))
 (ĝ (cJ (au aj (Ą (Ĉ Į (Ĉ Ě (Ā 1) (mC (.int 0))) (Ĉ Ě (Ā 1) (mC (.int 1)))) ě)) (gN 7) pD)
 (Ĳ (Ŗ (mC (.bl true))))))))))))
noncomputable def lV:MF:=ń 1 13 BW
set_option genInjectivity false
set_option genSizeOf false
structure Adr where
 Jy:Addr
 Jz:FuncData
 JB:Addr
 JC:FuncData
 JD:Addr
 JF:FuncData
 JG:Addr
 JH:FuncData
 JK:Addr
 JL:FuncData
 JM:Addr
 JN:FuncData
 JQ:Addr
 JR:FuncData
 JT:Addr
 JV:FuncData
 JW:Addr
 JX:FuncData
 JZ:Addr
 J_:FuncData
 Ka:Addr
 Kc:FuncData
 Kd:Addr
 Ke:FuncData
 mJ:Addr
 BX:FuncData
 Kf:Addr
 Kg:FuncData
 Kh:Addr
 Kl:FuncData
 Zad:Addr
 Zae:FuncData
 Zaf:Addr
 Zag:FuncData
 Km:Addr
 Ko:FuncData
 Kp:Addr
 Kq:FuncData
 Kr:Addr
 Ks:FuncData
 Ku:Addr
 Kv:FuncData
 Kw:Addr
 Ky:FuncData
 Kz:Addr
 KC:FuncData
 KD:Addr
 KH:FuncData
 KJ:Addr
 KN:FuncData
 KQ:Addr
 KR:FuncData
 KY:Addr
 KZ:FuncData
 Zah:Addr
 Zai:FuncData
 K_:Addr
 La:FuncData
 Zaj:Addr
 Zak:FuncData
 Lb:Addr
 Ld:FuncData
 Le:Addr
 Lf:FuncData
 Lg:Addr
 Li:FuncData
 Lj:Addr
 Lk:FuncData
 Lp:Addr
 Lq:FuncData
 Lr:Addr
 Ls:FuncData
 Lw:Addr
 Lx:FuncData
 Zal:Addr
 Zam:FuncData
 Ly:Addr
 Lz:FuncData
 LC:Addr
 LQ:FuncData
 LR:Addr
 L_:FuncData
 Ma:Addr
 Mf:FuncData
 Mg:Addr
 Mh:FuncData
 Mi:Addr
 Mj:FuncData
 Ml:Addr
 Mp:FuncData
 Mq:Addr
 Mr:FuncData
 Ms:Addr
 Mt:FuncData
 Zan:Addr
 Zao:FuncData
 Mu:Addr
 Mv:FuncData
 Mw:Addr
 Mx:FuncData
 Mz:Addr
 MJ:FuncData
 Zap:Addr
 Zaq:FuncData
 MK:Addr
 MN:FuncData
 MP:Addr
 M_:FuncData
 Nb:Addr
 Nf:FuncData
 Ng:Addr
 Nh:FuncData
 Ni:Addr
 Nj:FuncData
 Nk:Addr
 Nm:FuncData
 Np:Addr
 Nq:FuncData
 Nr:Addr
 Nt:FuncData
 Nu:Addr
 Nv:FuncData
 Nx:Addr
 Ny:FuncData
 Nz:Addr
 NK:FuncData
 NP:Addr
 NQ:FuncData
 NT:Addr
 NZ:FuncData
 Zar:Addr
 Zas:FuncData
 Zat:Addr
 Zau:FuncData
 yZ:Addr
 BZ:Addr
 B_:Addr
 FP:Addr
 N_:Addr
 Zav:Addr
 Tr:Addr
 Zaw:Addr
 Tt:Addr
 Zax:Addr
 Tw:Addr
 Tz:Addr
 qe:Tok
 vH:Tok
def Ĩ(a:Adr):String→Addr:=bH a.yZ a.BZ a.B_ a.FP a.N_ a.Zav a.Tr a.Zaw a.Tt a.Zax a.Tw a.Tz
structure Tx(K:PySem.W.Frag)(mg:Str→Option Value)(a:Adr):Prop where
 Vc:Ŵ K "_law_size" "_law_size" xK a.Jy a.Jz
 dJ:mg "_law_size" =some (.ref a.Jy)
 Zd4:Binds K a.Jz ["_law_cell","_law_most"] []
 pF:Ŵ K "_law_at" "_law_at" xM a.JB a.JC
 Ů:mg "_law_at" =some (.ref a.JB)
 sI:Binds K a.JC ["_law_script","_law_k"] []
 Oa:Ŵ K "_law_grains" "_law_grains" xO a.JD a.JF
 iJ:mg "_law_grains" =some (.ref a.JD)
 Vd:Binds K a.JF ["_law_cell","_law_many"] []
 Ve:Ŵ K "_law_sky" "_law_sky" xP a.JG a.JH
 jA:mg "_law_sky" =some (.ref a.JG)
 Zd5:Binds K a.JH ["_law_xs"] []
 Ob:Ŵ K "_law_days" "_law_days" qW a.JK a.JL
 fj:mg "_law_days" =some (.ref a.JK)
 Vf:Binds K a.JL ["_law_script","_law_start","_law_many","_law_long"] []
 Zd6:Ŵ K "__init__" "Yard.__init__" qX a.JM a.JN
 Zd7:Binds K a.JN ["self","width","height","things","days"] []
 Oc:Ŵ K "_law_height" "_law_height" xQ a.JQ a.JR
 jC:mg "_law_height" =some (.ref a.JQ)
 Vg:Binds K a.JR ["_law_number"] []
 sJ:Ŵ K "_law_place" "_law_place" xR a.JT a.JV
 bV:mg "_law_place" =some (.ref a.JT)
 za:Binds K a.JV ["_law_number","_law_wide"] []
 Vh:Ŵ K "_law_thing" "_law_thing" qY a.JW a.JX
 dM:mg "_law_thing" =some (.ref a.JW)
 Zd8:Binds K a.JX ["_law_cell","_law_wide"] []
 sO:Ŵ K "is_place" "is_place" xT a.JZ a.J_
 cR:mg "is_place" =some (.ref a.JZ)
 zc:Binds K a.J_ ["number"] []
 Od:Ŵ K "is_height" "is_height" xU a.Ka a.Kc
 lA:mg "is_height" =some (.ref a.Ka)
 Vi:Binds K a.Kc ["number"] []
 Vj:Ŵ K "makes_post" "makes_post" xV a.Kd a.Ke
 oM:mg "makes_post" =some (.ref a.Kd)
 Zd9:Binds K a.Ke ["numbers"] []
 Oe:Ŵ K "__init__" "Thing.__init__" Ji a.mJ a.BX
 Og:Binds K a.BX ["self","word","numbers"] []
 Oh:Ŵ K "has_two_ends" "has_two_ends" qZ a.Kf a.Kg
 jD:mg "has_two_ends" =some (.ref a.Kf)
 Vk:Binds K a.Kg ["numbers"] []
 Vl:Ŵ K "makes_fence" "makes_fence" xW a.Kh a.Kl
 oU:mg "makes_fence" =some (.ref a.Kh)
 Zd_:Binds K a.Kl ["numbers"] []
 Zay:Ŵ K "makes_sail_or_house" "makes_sail_or_house" Jj a.Zad a.Zae
 uT:mg "makes_sail_or_house" =some (.ref a.Zad)
 Zea:Binds K a.Zae ["numbers"] []
 Zeb:Ŵ K "is_cloth_corner" "is_cloth_corner" Jk a.Zaf a.Zag
 Fx:mg "is_cloth_corner" =some (.ref a.Zaf)
 Zl1:Binds K a.Zag ["numbers"] []
 Vm:Ŵ K "makes_cloth" "makes_cloth" q_ a.Km a.Ko
 oV:mg "makes_cloth" =some (.ref a.Km)
 Zec:Binds K a.Ko ["numbers"] []
 Vn:Ŵ K "thing_of" "thing_of" xX a.Kp a.Kq
 cG:mg "thing_of" =some (.ref a.Kp)
 Zed:Binds K a.Kq ["word","numbers"] []
 Vo:Ŵ K "box_lines" "box_lines" oJ a.Kr a.Ks
 rN:mg "box_lines" =some (.ref a.Kr)
 Zee:Binds K a.Ks ["points"] []
 Vp:Ŵ K "each_once" "each_once" xY a.Ku a.Kv
 rP:mg "each_once" =some (.ref a.Ku)
 Zef:Binds K a.Kv ["points"] []
 Vq:Ŵ K "line_through" "line_through" xZ a.Kw a.Ky
 rQ:mg "line_through" =some (.ref a.Kw)
 Zeg:Binds K a.Ky ["one","other"] []
 Oi:Ŵ K "holds" "holds" yc a.Kz a.KC
 iK:mg "holds" =some (.ref a.Kz)
 Vr:Binds K a.KC ["line","pair"] []
 Vs:Ŵ K "edge_lines" "edge_lines" rm a.KD a.KH
 rT:mg "edge_lines" =some (.ref a.KD)
 Zeh:Binds K a.KH ["points"] []
 Oj:Ŵ K "lines_about" "lines_about" yg a.KJ a.KN
 lB:mg "lines_about" =some (.ref a.KJ)
 Vt:Binds K a.KN ["points"] []
 Ol:Ŵ K "cast" "cast" yj a.KQ a.KR
 iM:mg "cast" =some (.ref a.KQ)
 Vu:Binds K a.KR ["point","ray"] []
 DW:Ŵ K "level_corners" "level_corners" yq a.KY a.KZ
 iQ:mg "level_corners" =some (.ref a.KY)
 Om:Binds K a.KZ ["x","y","u","v","z"] []
 Zaz:Ŵ K "block_corners" "block_corners" Jl a.Zah a.Zai
 yW:mg "block_corners" =some (.ref a.Zah)
 Zei:Binds K a.Zai ["x","y","u","v","h"] []
 Zej:Ŵ K "corners" "Post.corners" yr a.K_ a.La
 Zek:Binds K a.La ["self"] []
 Zl2:Ŵ K "corners" "Fence.corners" Jm a.Zaj a.Zak
 Zl3:Binds K a.Zak ["self"] []
 Zel:Ŵ K "corners" "Sail.corners" yu a.Lb a.Ld
 Zem:Binds K a.Ld ["self"] []
 Zen:Ŵ K "corners" "Cloth.corners" rz a.Le a.Lf
 Zeo:Binds K a.Lf ["self"] []
 Zep:Ŵ K "corners" "House.corners" yx a.Lg a.Li
 Zeq:Binds K a.Li ["self"] []
 Oo:Ŵ K "corner_casts" "corner_casts" rC a.Lj a.Lk
 jE:mg "corner_casts" =some (.ref a.Lj)
 Vv:Binds K a.Lk ["thing","ray"] []
 Oq:Ŵ K "span_bits" "span_bits" yC a.Lp a.Lq
 jF:mg "span_bits" =some (.ref a.Lp)
 Vw:Binds K a.Lq ["first","last"] []
 Vx:Ŵ K "row_bits" "row_bits" yD a.Lr a.Ls
 oW:mg "row_bits" =some (.ref a.Lr)
 Zer:Binds K a.Ls ["lines","unit","q","width"] []
 Vy:Ŵ K "dark_of" "dark_of" yE a.Lw a.Lx
 lJ:mg "dark_of" =some (.ref a.Lw)
 Zes:Binds K a.Lx ["yard","thing","ray"] []
 Zet:Ŵ K "darks_of_things" "darks_of_things" Fw a.Zal a.Zam
 Fy:mg "darks_of_things" =some (.ref a.Zal)
 Zl4:Binds K a.Zam ["yard","ray"] []
 Vz:Ŵ K "dark" "dark" yF a.Ly a.Lz
 fB:mg "dark" =some (.ref a.Ly)
 Zeu:Binds K a.Lz ["yard","turn"] []
 VB:Ŵ K "has_stone" "has_stone" yG a.LC a.LQ
 rW:mg "has_stone" =some (.ref a.LC)
 Zev:Binds K a.LQ ["yard","stone"] []
 Ot:Ŵ K "check_stone" "check_stone" yH a.LR a.L_
 lK:mg "check_stone" =some (.ref a.LR)
 VD:Binds K a.L_ ["yard","stone"] []
 VF:Ŵ K "has_day" "has_day" yI a.Ma a.Mf
 rY:mg "has_day" =some (.ref a.Ma)
 Zew:Binds K a.Mf ["yard","day"] []
 VG:Ŵ K "check_day" "check_day" yJ a.Mg a.Mh
 rZ:mg "check_day" =some (.ref a.Mg)
 Zex:Binds K a.Mh ["yard","day"] []
 Ou:Ŵ K "turns_of" "turns_of" yK a.Mi a.Mj
 lM:mg "turns_of" =some (.ref a.Mi)
 VH:Binds K a.Mj ["yard","day"] []
 VJ:Ŵ K "parting_line" "parting_line" yL a.Ml a.Mp
 oX:mg "parting_line" =some (.ref a.Ml)
 Zey:Binds K a.Mp ["points","point"] []
 Ov:Ŵ K "pairs_below" "pairs_below" rD a.Mq a.Mr
 lN:mg "pairs_below" =some (.ref a.Mq)
 VL:Binds K a.Mr ["many"] []
 VN:Ŵ K "triples_below" "triples_below" rE a.Ms a.Mt
 su:mg "triples_below" =some (.ref a.Ms)
 Zez:Binds K a.Mt ["many"] []
 ZeA:Ŵ K "greatest_divisor" "greatest_divisor" Jo a.Zan a.Zao
 Fz:mg "greatest_divisor" =some (.ref a.Zan)
 Zl5:Binds K a.Zao ["one","other"] []
 Ow:Ŵ K "ratio" "ratio" yM a.Mu a.Mv
 gF:mg "ratio" =some (.ref a.Mu)
 VP:Binds K a.Mv ["top","bottom"] []
 DX:Ŵ K "spread" "spread" rG a.Mw a.Mx
 dN:mg "spread" =some (.ref a.Mw)
 Ox:Binds K a.Mx ["shares","places","many"] []
 DY:Ŵ K "turned" "turned" yN a.Mz a.MJ
 iR:mg "turned" =some (.ref a.Mz)
 Oz:Binds K a.MJ ["one","other","third"] []
 ZeB:Ŵ K "shares_of_three" "shares_of_three" Jp a.Zap a.Zaq
 FJ:mg "shares_of_three" =some (.ref a.Zap)
 Zl6:Binds K a.Zaq ["corners","point"] []
 OD:Ŵ K "are_weights" "are_weights" rH a.MK a.MN
 jG:mg "are_weights" =some (.ref a.MK)
 VR:Binds K a.MN ["shares"] []
 V_:Ŵ K "shares_of_two" "shares_of_two" yO a.MP a.M_
 sy:mg "shares_of_two" =some (.ref a.MP)
 ZeC:Binds K a.M_ ["ends","point"] []
 Wa:Ŵ K "weights_of" "weights_of" oK a.Nb a.Nf
 lO:mg "weights_of" =some (.ref a.Nb)
 ZeD:Binds K a.Nf ["points","point"] []
 Wb:Ŵ K "held" "held" yP a.Ng a.Nh
 pq:mg "held" =some (.ref a.Ng)
 ZeE:Binds K a.Nh ["points","point"] []
 Wc:Ŵ K "stone_cast" "stone_cast" yQ a.Ni a.Nj
 sE:mg "stone_cast" =some (.ref a.Ni)
 ZeF:Binds K a.Nj ["stone","ray"] []
 Wd:Ŵ K "shading" "shading" yR a.Nk a.Nm
 sG:mg "shading" =some (.ref a.Nk)
 ZeG:Binds K a.Nm ["thing","stone","ray"] []
 Wf:Ŵ K "shades" "shades" yS a.Np a.Nq
 lQ:mg "shades" =some (.ref a.Np)
 ZeH:Binds K a.Nq ["thing","stone","ray"] []
 OJ:Ŵ K "is_dark" "is_dark" yU a.Nr a.Nt
 dO:mg "is_dark" =some (.ref a.Nr)
 Wg:Binds K a.Nt ["yard","turn","stone"] []
 O_:Ŵ K "lit_turns" "lit_turns" rJ a.Nu a.Nv
 lR:mg "lit_turns" =some (.ref a.Nu)
 Wh:Binds K a.Nv ["yard","day","stone"] []
 Wi:Ŵ K "_law_pair" "_law_pair" rK a.Nx a.Ny
 pB:mg "_law_pair" =some (.ref a.Nx)
 ZeI:Binds K a.Ny ["_law_found","_law_due"] []
 Pa:Ŵ K "_law_numbers" "_law_numbers" rM a.Nz a.NK
 lU:mg "_law_numbers" =some (.ref a.Nz)
 Wj:Binds K a.NK ["_law_found","_law_due"] []
 Wk:Ŵ K "first_lit" "first_lit" yV a.NP a.NQ
 pC:mg "first_lit" =some (.ref a.NP)
 ZeJ:Binds K a.NQ ["yard","stone"] []
 ZeK:Ŵ K "law" "law" eZ a.NT a.NZ
 lV:mg "law" =some (.ref a.NT)
 Zpa:Binds K a.NZ ["_law_script"] []
 Zl7:Ŵ K "__init__" "NoStone.__init__" Jq a.Zar a.Zas
 Zl8:Binds K a.Zas ["self","stone"] []
 Zl9:Ŵ K "__init__" "NoTurn.__init__" Jr a.Zat a.Zau
 Zl_:Binds K a.Zau ["self","day","turn"] []
 Wm:mg "YardError" =some (.ref (Ĩ a "YardError"))
 Cd:mg "NoNumber" =some (.ref (Ĩ a "NoNumber"))
 Ce:mg "BadThing" =some (.ref (Ĩ a "BadThing"))
 FQ:mg "NoStone" =some (.ref (Ĩ a "NoStone"))
 Pb:mg "NoTurn" =some (.ref (Ĩ a "NoTurn"))
 ZaA:mg "Yard" =some (.ref (Ĩ a "Yard"))
 Zj_:mg "Thing" =some (.ref (Ĩ a "Thing"))
 ZaB:mg "Post" =some (.ref (Ĩ a "Post"))
 TF:mg "Fence" =some (.ref (Ĩ a "Fence"))
 ZaC:mg "Sail" =some (.ref (Ĩ a "Sail"))
 TJ:mg "Cloth" =some (.ref (Ĩ a "Cloth"))
 TQ:mg "House" =some (.ref (Ĩ a "House"))
 Wn:PySem.W.excIn K (Ĩ a "YardError") zx Sy=true
 Wo:PySem.W.keepIn K (.ref (Ĩ a "YardError"))=true
 Wq:ź K (Ĩ a "YardError")=true
 Cg:PySem.W.excIn K (Ĩ a "NoNumber") zx Sy=true
 ZaD:PySem.W.keepIn K (.ref (Ĩ a "NoNumber"))=true
 ZaE:ź K (Ĩ a "NoNumber")=true
 Ci:PySem.W.excIn K (Ĩ a "BadThing") zx Sy=true
 ZaF:PySem.W.keepIn K (.ref (Ĩ a "BadThing"))=true
 ZaG:ź K (Ĩ a "BadThing")=true
 FT:XMk K (Ĩ a "NoStone") a.Zar
 FW:ź K (Ĩ a "NoStone")=true
 mK:Ň K (Ĩ a "NoStone") "stone"
 Pg:XMk K (Ĩ a "NoTurn") a.Zat
 zf:ź K (Ĩ a "NoTurn")=true
 vI:Ň K (Ĩ a "NoTurn") "day"
 qg:Ň K (Ĩ a "NoTurn") "turn"
 aB:Cls K (Ĩ a "Yard")
 ZaH:Mk K (Ĩ a "Yard") a.JM
 aY:Ň K (Ĩ a "Yard") "width"
 bL:Ň K (Ĩ a "Yard") "height"
 cV:Ň K (Ĩ a "Yard") "things"
 cT:Ň K (Ĩ a "Yard") "days"
 Ţ:Cls K (Ĩ a "Thing")
 Zka:Mk K (Ĩ a "Thing") a.mJ
 aZ:Ň K (Ĩ a "Thing") "word"
 ķ:Ň K (Ĩ a "Thing") "numbers"
 Ų:Cls K (Ĩ a "Post")
 ZaI:Mk K (Ĩ a "Post") a.mJ
 bN:Ň K (Ĩ a "Post") "word"
 Ŀ:Ň K (Ĩ a "Post") "numbers"
 pG:Meth K (Ĩ a "Post") "corners" a.K_
 ś:Cls K (Ĩ a "Fence")
 TX:Mk K (Ĩ a "Fence") a.mJ
 bf:Ň K (Ĩ a "Fence") "word"
 ĸ:Ň K (Ĩ a "Fence") "numbers"
 mL:Meth K (Ĩ a "Fence") "corners" a.Zaj
 ų:Cls K (Ĩ a "Sail")
 ZaJ:Mk K (Ĩ a "Sail") a.mJ
 bO:Ň K (Ĩ a "Sail") "word"
 ŀ:Ň K (Ĩ a "Sail") "numbers"
 pH:Meth K (Ĩ a "Sail") "corners" a.Lb
 Ŝ:Cls K (Ĩ a "Cloth")
 TY:Mk K (Ĩ a "Cloth") a.mJ
 bh:Ň K (Ĩ a "Cloth") "word"
 Ĺ:Ň K (Ĩ a "Cloth") "numbers"
 mO:Meth K (Ĩ a "Cloth") "corners" a.Le
 ŝ:Cls K (Ĩ a "House")
 T_:Mk K (Ĩ a "House") a.mJ
 bx:Ň K (Ĩ a "House") "word"
 ĺ:Ň K (Ĩ a "House") "numbers"
 mQ:Meth K (Ĩ a "House") "corners" a.Lg
 iC:ur (fun C D b=>cP K (Ĩ a C)=true∧PySem.W.kitOne K (.ref (Ĩ a C)) (.ref (Ĩ a D))=some b) Zk
 iT:ur (fun C D b=>cP K (Ĩ a C)=true∧PySem.W.kitOne K (.ref (Ĩ a C)) (.type D)=some b) Zl
 iD:nY (fun D=>PySem.W.kitOne K (.type "NoneType") (.ref (Ĩ a D))=some false) Zm
 iN:nY (fun D=>PySem.W.kitOne K (.type "NoneType") (.type D)=some false) Zn
 iU:mg "MOST_HEIGHT" =some (.int (1000000000) a.qe)
 jH:mg "MOST_PLACE" =some (.int (1000000000) a.vH)
 ZeL:mg "abs" =none
 sS:mg "all" =none
 Ph:mg "bool" =none
 lW:mg "enumerate" =none
 Pj:mg "int" =none
 Ž:mg "isinstance" =none
 jJ:mg "len" =none
 eU:mg "list" =none
 D_:mg "max" =none
 zj:mg "min" =none
 ž:mg "range" =none
 Wr:mg "sum" =none
 Ea:mg "tuple" =none
 ZeM:mg "zip" =none
theorem Pk:Ĕ ["_law_cell","_law_most","_law_width"] ["_law_cell","_law_most"] (ĉ xK):=⟨rfl,rfl,rfl,by decide +kernel,rfl,by decide +kernel,by decide +kernel⟩
theorem ZaK:Ĕ ["_law_script","_law_k"] ["_law_script","_law_k"] (ĉ xM):=⟨rfl,rfl,rfl,by decide +kernel,rfl,by decide +kernel,by decide +kernel⟩
theorem jg:Ĕ ["_law_cell","_law_many","_law_found","_law_number","_law_k"] ["_law_cell","_law_many"] (ĉ xO):=⟨rfl,rfl,rfl,by decide +kernel,rfl,by decide +kernel,by decide +kernel⟩
theorem Pn:Ĕ ["_law_xs","_law_scale"] ["_law_xs"] (ĉ xP):=⟨rfl,rfl,rfl,by decide +kernel,rfl,by decide +kernel,by decide +kernel⟩
theorem gG:Ĕ ["_law_script","_law_start","_law_many","_law_long","_law_names","_law_turned","_law_days_here","_law_k","_law_xs","_law_turns"] ["_law_script","_law_start","_law_many","_law_long"] (ĉ qW):=⟨rfl,rfl,rfl,by decide +kernel,rfl,by decide +kernel,by decide +kernel⟩
theorem ZaL:Ĕ ["self","width","height","things","days"] ["self","width","height","things","days"] (ĉ qX):=⟨rfl,rfl,rfl,by decide +kernel,rfl,by decide +kernel,by decide +kernel⟩
theorem ZaM:Ĕ ["_law_number"] ["_law_number"] (ĉ xQ):=⟨rfl,rfl,rfl,by decide +kernel,rfl,by decide +kernel,by decide +kernel⟩
theorem ZaN:Ĕ ["_law_number","_law_wide"] ["_law_number","_law_wide"] (ĉ xR):=⟨rfl,rfl,rfl,by decide +kernel,rfl,by decide +kernel,by decide +kernel⟩
theorem gH:Ĕ ["_law_cell","_law_wide","_law_xs","_law_h","_law_kind","_law_x","_law_y","_law_u","_law_v"] ["_law_cell","_law_wide"] (ĉ qY):=⟨rfl,rfl,rfl,by decide +kernel,rfl,by decide +kernel,by decide +kernel⟩
theorem ZaO:Ĕ ["number"] ["number"] (ĉ xT):=⟨rfl,rfl,rfl,by decide +kernel,rfl,by decide +kernel,by decide +kernel⟩
theorem ZaP:Ĕ ["number"] ["number"] (ĉ xU):=⟨rfl,rfl,rfl,by decide +kernel,rfl,by decide +kernel,by decide +kernel⟩
theorem ZaQ:Ĕ ["numbers"] ["numbers"] (ĉ xV):=⟨rfl,rfl,rfl,by decide +kernel,rfl,by decide +kernel,by decide +kernel⟩
theorem zm:Ĕ ["self","word","numbers"] ["self","word","numbers"] (ĉ Ji):=⟨rfl,rfl,rfl,by decide +kernel,rfl,by decide +kernel,by decide +kernel⟩
theorem ZaR:Ĕ ["numbers"] ["numbers"] (ĉ qZ):=⟨rfl,rfl,rfl,by decide +kernel,rfl,by decide +kernel,by decide +kernel⟩
theorem ZaS:Ĕ ["numbers"] ["numbers"] (ĉ xW):=⟨rfl,rfl,rfl,by decide +kernel,rfl,by decide +kernel,by decide +kernel⟩
theorem ZeN:Ĕ ["numbers"] ["numbers"] (ĉ Jj):=⟨rfl,rfl,rfl,by decide +kernel,rfl,by decide +kernel,by decide +kernel⟩
theorem ZeO:Ĕ ["numbers"] ["numbers"] (ĉ Jk):=⟨rfl,rfl,rfl,by decide +kernel,rfl,by decide +kernel,by decide +kernel⟩
theorem ZaT:Ĕ ["numbers"] ["numbers"] (ĉ q_):=⟨rfl,rfl,rfl,by decide +kernel,rfl,by decide +kernel,by decide +kernel⟩
theorem ZaU:Ĕ ["word","numbers"] ["word","numbers"] (ĉ xX):=⟨rfl,rfl,rfl,by decide +kernel,rfl,by decide +kernel,by decide +kernel⟩
theorem Cj:Ĕ ["points","rights","downs"] ["points"] (ĉ oJ):=⟨rfl,rfl,rfl,by decide +kernel,rfl,by decide +kernel,by decide +kernel⟩
theorem Ck:Ĕ ["points","kept","point"] ["points"] (ĉ xY):=⟨rfl,rfl,rfl,by decide +kernel,rfl,by decide +kernel,by decide +kernel⟩
theorem Cm:Ĕ ["one","other","l","m"] ["one","other"] (ĉ xZ):=⟨rfl,rfl,rfl,by decide +kernel,rfl,by decide +kernel,by decide +kernel⟩
theorem ZaV:Ĕ ["line","pair"] ["line","pair"] (ĉ yc):=⟨rfl,rfl,rfl,by decide +kernel,rfl,by decide +kernel,by decide +kernel⟩
theorem kW:Ĕ ["points","lines","apart","one","other","line"] ["points"] (ĉ rm):=⟨rfl,rfl,rfl,by decide +kernel,rfl,by decide +kernel,by decide +kernel⟩
theorem ZaW:Ĕ ["points"] ["points"] (ĉ yg):=⟨rfl,rfl,rfl,by decide +kernel,rfl,by decide +kernel,by decide +kernel⟩
theorem ZaX:Ĕ ["point","ray"] ["point","ray"] (ĉ yj):=⟨rfl,rfl,rfl,by decide +kernel,rfl,by decide +kernel,by decide +kernel⟩
theorem ZaY:Ĕ ["x","y","u","v","z"] ["x","y","u","v","z"] (ĉ yq):=⟨rfl,rfl,rfl,by decide +kernel,rfl,by decide +kernel,by decide +kernel⟩
theorem ZeP:Ĕ ["x","y","u","v","h"] ["x","y","u","v","h"] (ĉ Jl):=⟨rfl,rfl,rfl,by decide +kernel,rfl,by decide +kernel,by decide +kernel⟩
theorem Cp:Ĕ ["self","right","down"] ["self"] (ĉ yr):=⟨rfl,rfl,rfl,by decide +kernel,rfl,by decide +kernel,by decide +kernel⟩
theorem Eb:Ĕ ["self","given","one","other"] ["self"] (ĉ Jm):=⟨rfl,rfl,rfl,by decide +kernel,rfl,by decide +kernel,by decide +kernel⟩
theorem Pq:Ĕ ["self","given"] ["self"] (ĉ yu):=⟨rfl,rfl,rfl,by decide +kernel,rfl,by decide +kernel,by decide +kernel⟩
theorem ZaZ:Ĕ ["self"] ["self"] (ĉ rz):=⟨rfl,rfl,rfl,by decide +kernel,rfl,by decide +kernel,by decide +kernel⟩
theorem Pr:Ĕ ["self","given"] ["self"] (ĉ yx):=⟨rfl,rfl,rfl,by decide +kernel,rfl,by decide +kernel,by decide +kernel⟩
theorem Za0:Ĕ ["thing","ray"] ["thing","ray"] (ĉ rC):=⟨rfl,rfl,rfl,by decide +kernel,rfl,by decide +kernel,by decide +kernel⟩
theorem Za1:Ĕ ["first","last"] ["first","last"] (ĉ yC):=⟨rfl,rfl,rfl,by decide +kernel,rfl,by decide +kernel,by decide +kernel⟩
theorem cW:Ĕ ["lines","unit","q","width","first","last","l","m","n","step","room"] ["lines","unit","q","width"] (ĉ yD):=⟨rfl,rfl,rfl,by decide +kernel,rfl,by decide +kernel,by decide +kernel⟩
theorem pI:Ĕ ["yard","thing","ray","lines","bits","q"] ["yard","thing","ray"] (ĉ yE):=⟨rfl,rfl,rfl,by decide +kernel,rfl,by decide +kernel,by decide +kernel⟩
theorem ZeQ:Ĕ ["yard","ray"] ["yard","ray"] (ĉ Fw):=⟨rfl,rfl,rfl,by decide +kernel,rfl,by decide +kernel,by decide +kernel⟩
theorem vJ:Ĕ ["yard","turn","bits","some"] ["yard","turn"] (ĉ yF):=⟨rfl,rfl,rfl,by decide +kernel,rfl,by decide +kernel,by decide +kernel⟩
theorem Za2:Ĕ ["yard","stone"] ["yard","stone"] (ĉ yG):=⟨rfl,rfl,rfl,by decide +kernel,rfl,by decide +kernel,by decide +kernel⟩
theorem Za3:Ĕ ["yard","stone"] ["yard","stone"] (ĉ yH):=⟨rfl,rfl,rfl,by decide +kernel,rfl,by decide +kernel,by decide +kernel⟩
theorem Za4:Ĕ ["yard","day"] ["yard","day"] (ĉ yI):=⟨rfl,rfl,rfl,by decide +kernel,rfl,by decide +kernel,by decide +kernel⟩
theorem Za5:Ĕ ["yard","day"] ["yard","day"] (ĉ yJ):=⟨rfl,rfl,rfl,by decide +kernel,rfl,by decide +kernel,by decide +kernel⟩
theorem Za6:Ĕ ["yard","day"] ["yard","day"] (ĉ yK):=⟨rfl,rfl,rfl,by decide +kernel,rfl,by decide +kernel,by decide +kernel⟩
theorem Pu:Ĕ ["points","point","line"] ["points","point"] (ĉ yL):=⟨rfl,rfl,rfl,by decide +kernel,rfl,by decide +kernel,by decide +kernel⟩
theorem Cq:Ĕ ["many","pairs","second"] ["many"] (ĉ rD):=⟨rfl,rfl,rfl,by decide +kernel,rfl,by decide +kernel,by decide +kernel⟩
theorem Cr:Ĕ ["many","triples","third"] ["many"] (ĉ rE):=⟨rfl,rfl,rfl,by decide +kernel,rfl,by decide +kernel,by decide +kernel⟩
theorem Ec:Ĕ ["one","other","rest"] ["one","other"] (ĉ Jo):=⟨rfl,rfl,rfl,by decide +kernel,rfl,by decide +kernel,by decide +kernel⟩
theorem Cu:Ĕ ["top","bottom","divisor"] ["top","bottom"] (ĉ yM):=⟨rfl,rfl,rfl,by decide +kernel,rfl,by decide +kernel,by decide +kernel⟩
theorem pJ:Ĕ ["shares","places","many","whole","weights","share","place"] ["shares","places","many"] (ĉ rG):=⟨rfl,rfl,rfl,by decide +kernel,rfl,by decide +kernel,by decide +kernel⟩
theorem Px:Ĕ ["one","other","third","right"] ["one","other","third"] (ĉ yN):=⟨rfl,rfl,rfl,by decide +kernel,rfl,by decide +kernel,by decide +kernel⟩
theorem Ed:Ĕ ["corners","point","one","other","third"] ["corners","point"] (ĉ Jp):=⟨rfl,rfl,rfl,by decide +kernel,rfl,by decide +kernel,by decide +kernel⟩
theorem Py:Ĕ ["shares","whole"] ["shares"] (ĉ rH):=⟨rfl,rfl,rfl,by decide +kernel,rfl,by decide +kernel,by decide +kernel⟩
theorem vK:Ĕ ["ends","point","right","down","gone"] ["ends","point"] (ĉ yO):=⟨rfl,rfl,rfl,by decide +kernel,rfl,by decide +kernel,by decide +kernel⟩
theorem kY:Ĕ ["points","point","many","places","shares"] ["points","point"] (ĉ oK):=⟨rfl,rfl,rfl,by decide +kernel,rfl,by decide +kernel,by decide +kernel⟩
theorem Pz:Ĕ ["points","point","line"] ["points","point"] (ĉ yP):=⟨rfl,rfl,rfl,by decide +kernel,rfl,by decide +kernel,by decide +kernel⟩
theorem Za7:Ĕ ["stone","ray"] ["stone","ray"] (ĉ yQ):=⟨rfl,rfl,rfl,by decide +kernel,rfl,by decide +kernel,by decide +kernel⟩
theorem Za8:Ĕ ["thing","stone","ray"] ["thing","stone","ray"] (ĉ yR):=⟨rfl,rfl,rfl,by decide +kernel,rfl,by decide +kernel,by decide +kernel⟩
theorem Za9:Ĕ ["thing","stone","ray"] ["thing","stone","ray"] (ĉ yS):=⟨rfl,rfl,rfl,by decide +kernel,rfl,by decide +kernel,by decide +kernel⟩
theorem PJ:Ĕ ["yard","turn","stone","thing"] ["yard","turn","stone"] (ĉ yU):=⟨rfl,rfl,rfl,by decide +kernel,rfl,by decide +kernel,by decide +kernel⟩
theorem Za_:Ĕ ["yard","day","stone"] ["yard","day","stone"] (ĉ rJ):=⟨rfl,rfl,rfl,by decide +kernel,rfl,by decide +kernel,by decide +kernel⟩
theorem Zba:Ĕ ["_law_found","_law_due"] ["_law_found","_law_due"] (ĉ rK):=⟨rfl,rfl,rfl,by decide +kernel,rfl,by decide +kernel,by decide +kernel⟩
theorem Zbb:Ĕ ["_law_found","_law_due"] ["_law_found","_law_due"] (ĉ rM):=⟨rfl,rfl,rfl,by decide +kernel,rfl,by decide +kernel,by decide +kernel⟩
theorem vL:Ĕ ["yard","stone","day","number","turn"] ["yard","stone"] (ĉ yV):=⟨rfl,rfl,rfl,by decide +kernel,rfl,by decide +kernel,by decide +kernel⟩
theorem Ż:Ĕ ["_law_script","_law_size_here","_law_drawn","_law_days_here","_law_things","_law_yard","_law_sets","_law_number","_law_stone","_law_due","_law_day","_law_right","_law_told"] ["_law_script"] (ĉ eZ):=⟨rfl,rfl,rfl,by decide +kernel,rfl,by decide +kernel,by decide +kernel⟩
theorem ZeR:Ĕ ["self","stone"] ["self","stone"] (ĉ Jq):=⟨rfl,rfl,rfl,by decide +kernel,rfl,by decide +kernel,by decide +kernel⟩
theorem ZeS:Ĕ ["self","day","turn"] ["self","day","turn"] (ĉ Jr):=⟨rfl,rfl,rfl,by decide +kernel,rfl,by decide +kernel,by decide +kernel⟩
theorem Z2t{a b:Scope}(h:(a.names.all fun y=>decide (y.2=.free→(b.names.lookup y.1=some .cell∨b.names.lookup y.1=some .free)))=true):∀y∈a.names,y.2=.free→(b.names.lookup y.1=some .cell∨b.names.lookup y.1=some .free):=fun y hy=>of_decide_eq_true (List.all_eq_true.mp h y hy)
section
variable{P:Program}{w:World}{K:PySem.W.Frag}{mg:Str→Option Value}{base:Heap}{a:Adr}
theorem ZeT(T:Tx K mg a):į P w K mg base (ũ P w) 1 a.Zar a.Zas ["self","stone"] (spX 2 (Ĩ a "NoStone") [("stone",1)]):=
 fnX T.Zl7 ZeR rfl fun cdv A outer s H E=>(uo (Ij T.FW T.mK (pv 0) (pv 1)) Ik)
theorem ZeU(T:Tx K mg a):į P w K mg base (ũ P w) 1 a.Zat a.Zau ["self","day","turn"] (spX 3 (Ĩ a "NoTurn") [("day",1),("turn",2)]):=
 fnX T.Zl9 ZeS rfl fun cdv A outer s H E=>(uo (Ij T.zf T.vI (pv 0) (pv 1)) (uo (Ij T.zf T.qg (pv 0) (pv 2)) Ik))
theorem Zbc(T:Tx K mg a):į P w K mg base (ũ P w) 1 a.Jy a.Jz ["_law_cell","_law_most"] (ŵ ⟨K,Ĩ a⟩ 2 dJ):=by
 refine aG (cm:=Ĩ a) (mb:=eO) T.Vc Pk rfl rfl rfl fun cdv A outer s H E hr=>?_
 have hu:=hr.units
 exact(Ċ (Ŧ (PW.pt (w_and (œ ak (Ş hu) (ā (Đ Ņ Ń (ā (Đ Ź š (Ă 0) (ā ă))) (ā ă))) (ā ă) (ı _)) (fZ (œ Uy Ul (Ă 1) (ā ă) (ı _)))))
  (Č (ģ (ĭ (Ħ ē Ē (ā (ę (ŭ (ć (ŋ (ć ă (ć ă Ĥ))) (ć (ŋ (ć ă (ć ă Ĥ))) Ĥ))))) (ā (Đ Ņ Ń (Ă 0) (ā ă))) (fun _ _=>rfl)))))
  ľ)
  (Ċ (ĩ (i:=2) Pk.nd rfl (Or.inl rfl) (ņ ĵ Ĵ (ā ă) (ā (Đ Ņ Ń (Ă 0) (ā (PE.wk (Ĭ (tK rfl) (by rfl) T.zj PyProof.Rows.boot_min (Ģ (ā ă) (Ģ (Ă 1) Ķ))) fun _ _ _ h=>Ŷ uc h))))))
  (Č (ģ (ĭ (ŋ (ć (v_var 2) (ć (ę (ņ ĵ Ĵ (ā ă) (ā (Đ Ņ Ń (ā (Đ Ź š (Ă 0) (ā ă))) (ā (PE.wk (Ĭ (tK rfl) (by rfl) T.zj PyProof.Rows.boot_min (Ģ (ā ă) (Ģ (ā (Đ Ź š (Ă 1) (Ă 2))) Ķ))) fun _ _ _ h=>Ŷ uc h)))))) Ĥ))))))))
theorem kZ(T:Tx K mg a):į P w K mg base (ũ P w) 1 a.JB a.JC ["_law_script","_law_k"] (ŵ ⟨K,Ĩ a⟩ 2 Ů):=by
 refine aG (cm:=Ĩ a) (mb:=uH) T.pF ZaK rfl rfl rfl fun cdv A outer s H E hr=>?_
 have hu:=hr.units
 exact(Ċ (Ŧ (œ iB g_ (Ă 1) (ā (PE.wk (Ĭ dU (by rfl) T.jJ PySem.boot_len (Ģ (Ă 0) Ķ)) fun _ _ _ h=>Ŷ eN h)) (ı _))
  (Č (ģ (ĭ (Ħ ē Ē (Ă 0) (Ă 1) (fun _ _=>rfl)))))
  ľ)
  (Č (ģ (ĭ ă))))
theorem PK(T:Tx K mg a):į P w K mg base (ũ P w) 1 a.JD a.JF ["_law_cell","_law_many"] (ŵ ⟨K,Ĩ a⟩ 2 iJ):=by
 refine aG (cm:=Ĩ a) (mb:=uI) T.Oa jg rfl rfl rfl fun cdv A outer s H E hr=>?_
 have hu:=hr.units
 exact(Ċ (ĩ (i:=2) jg.nd rfl (Or.inl rfl) (ŭ Ĥ))
  (Ċ (ĩ (i:=3) jg.nd rfl (Or.inl rfl) (ĭ (Đ Ź š (Ă 0) (ā ă))))
  (Ċ (Ŧ (œ ak (Ş hu) (ā (Đ Ņ Ń (Ă 0) (ā ă))) (ā ă) (ı _))
  (Č (ĩ (i:=3) jg.nd rfl (Or.inl rfl) (ĭ (Đ Ņ Ń (Ă 3) (ā ă)))))
  ľ)
  (Ċ (aU PassesOwn.leaving rfl (Ũ rfl T.ž (ć (v_var 1) Ĥ)) (ħ (i:=4) jg.nd rfl (Or.inl rfl))
  (Č (Ŧ (œ ak (Ş hu) (ā (Đ Ņ Ń (Ă 0) (ā ă))) (ā ă) (ı _))
  (Ċ (PS.wk (bW (k_ PySem.F.plainAttrs_list PySem.F.slot_list_append PySem.F.type_list_append aK (pv 2) (ć (Đ Ņ Ń (Ă 3) (ā ă)) Ĥ))) fun _ _ _ h=>gP h)
  (Č (ĩ (i:=3) jg.nd rfl (Or.inl rfl) (ĭ (Đ Ź š (Ă 3) (ā ă))))))
  (Ċ (ĩ (i:=3) jg.nd rfl (Or.inl rfl) (ĭ (Đ Ņ Ń (ā (ę (ņ ĵ Ĵ (ā (ę (ņ ĵ Ĵ (ā (Đ Ľ Ī (Ă 3) (ā ă))) (ā ă)))) (ā (Đ Ľ Ī (ā ă) (Ă 4)))))) (ā ă))))
  (Č (PS.wk (bW (k_ PySem.F.plainAttrs_list PySem.F.slot_list_append PySem.F.type_list_append aK (pv 2) (ć (Đ Ź š (Ă 3) (ā ă)) Ĥ))) fun _ _ _ h=>gP h))))))
  (Č (ģ (iu 2)))))))
theorem Zbd(T:Tx K mg a):į P w K mg base (ũ P w) 1 a.JG a.JH ["_law_xs"] (ŵ ⟨K,Ĩ a⟩ 1 jA):=by
 refine aG (cm:=Ĩ a) (mb:=uJ) T.Ve Pn rfl rfl rfl fun cdv A outer s H E hr=>?_
 have hu:=hr.units
 exact(@Ċ _ _ _ _ _ _ _ (@Ŧ _ _ _ _ _ _ _ _ _ _ (@œ _ _ _ _ _ _ _ _ _ _ _ (@ak _) (@Ş _ hu) (@ā _ _ _ _ _ (@Đ _ _ _ _ _ _ _ _ _ _ _ (@Ņ _) (@Ń _) (@ā _ _ _ _ _ (@Ħ _ _ _ _ _ _ _ _ _ _ (@ē _) (@Ē _) (@Ă _ _ _ 0 _ _ (by rfl) (by first|exact Or.inl rfl|exact Or.inr (Or.inl rfl)|exact Or.inr (Or.inr rfl)) (by decide) (by decide)) (@ā _ _ _ _ _ (@ă _ _ _ _ _ _)) (fun _ _=>rfl))) (@ā _ _ _ _ _ (@ă _ _ _ _ _ _)))) (@ā _ _ _ _ _ (@ă _ _ _ _ _ _)) (ı _)) (@Č _ _ _ _ _ (@ģ _ _ _ _ _ _ (@ĭ _ _ _ _ _ (@fY _ _ _ _ _)))) (@ľ _ _ _)) (@Ċ _ _ _ _ _ _ _ (@ĩ _ _ _ _ _ _ 1 _ _ Pn.nd rfl (Or.inl rfl) (@ĭ _ _ _ _ _ (@Ħ _ _ _ _ _ _ _ _ _ _ (@ē _) (@Ē _) (@ā _ _ _ _ _ (@ę _ _ _ _ _ (@ŭ _ _ _ _ _ _ (@ć _ _ _ _ _ _ _ (@ă _ _ _ _ _ _) (@ć _ _ _ _ _ _ _ (@ă _ _ _ _ _ _) (@ć _ _ _ _ _ _ _ (@ă _ _ _ _ _ _) (@ć _ _ _ _ _ _ _ (@Đ _ _ _ _ _ _ _ _ _ _ _ (@nO _) (@nA _) (@ā _ _ _ _ _ (@ă _ _ _ _ _ _)) (@ā _ _ _ _ _ (@ă _ _ _ _ _ _))) (@Ĥ _ _ _) (by exact İ rfl)) (by exact İ rfl)) (by exact İ rfl)) (by exact İ rfl))))) (@ā _ _ _ _ _ (@Đ _ _ _ _ _ _ _ _ _ _ _ (@Ņ _) (@Ń _) (@ā _ _ _ _ _ (@Ħ _ _ _ _ _ _ _ _ _ _ (@ē _) (@Ē _) (@Ă _ _ _ 0 _ _ (by rfl) (by first|exact Or.inl rfl|exact Or.inr (Or.inl rfl)|exact Or.inr (Or.inr rfl)) (by decide) (by decide)) (@ā _ _ _ _ _ (@ă _ _ _ _ _ _)) (fun _ _=>rfl))) (@ā _ _ _ _ _ (@ă _ _ _ _ _ _)))) (fun _ _=>rfl))) (by rfl) (by first|exact .inl rfl|exact .inr rfl|assumption)) (@Č _ _ _ _ _ (@ģ _ _ _ _ _ _ (@ĭ _ _ _ _ _ (@ŋ _ _ _ _ _ _ _ (@ć _ _ _ _ _ _ _ (@Đ _ _ _ _ _ _ _ _ _ _ _ (@Ľ _) (@Ī _) (@ā _ _ _ _ _ (@Đ _ _ _ _ _ _ _ _ _ _ _ (@ŕ _) (@Œ _) (@ā _ _ _ _ _ (@Đ _ _ _ _ _ _ _ _ _ _ _ (@Ņ _) (@Ń _) (@ā _ _ _ _ _ (@Ħ _ _ _ _ _ _ _ _ _ _ (@ē _) (@Ē _) (@Ă _ _ _ 0 _ _ (by rfl) (by first|exact Or.inl rfl|exact Or.inr (Or.inl rfl)|exact Or.inr (Or.inr rfl)) (by decide) (by decide)) (@ā _ _ _ _ _ (@ă _ _ _ _ _ _)) (fun _ _=>rfl))) (@ā _ _ _ _ _ (@ă _ _ _ _ _ _)))) (@ā _ _ _ _ _ (@ă _ _ _ _ _ _)))) (@Ă _ _ _ 1 _ _ (by rfl) (by first|exact Or.inl rfl|exact Or.inr (Or.inl rfl)|exact Or.inr (Or.inr rfl)) (by decide) (by decide))) (@ć _ _ _ _ _ _ _ (@Đ _ _ _ _ _ _ _ _ _ _ _ (@Ľ _) (@Ī _) (@ā _ _ _ _ _ (@Đ _ _ _ _ _ _ _ _ _ _ _ (@ŕ _) (@Œ _) (@ā _ _ _ _ _ (@Đ _ _ _ _ _ _ _ _ _ _ _ (@Ņ _) (@Ń _) (@ā _ _ _ _ _ (@Ħ _ _ _ _ _ _ _ _ _ _ (@ē _) (@Ē _) (@Ă _ _ _ 0 _ _ (by rfl) (by first|exact Or.inl rfl|exact Or.inr (Or.inl rfl)|exact Or.inr (Or.inr rfl)) (by decide) (by decide)) (@ā _ _ _ _ _ (@ă _ _ _ _ _ _)) (fun _ _=>rfl))) (@ā _ _ _ _ _ (@ă _ _ _ _ _ _)))) (@ā _ _ _ _ _ (@ă _ _ _ _ _ _)))) (@Ă _ _ _ 1 _ _ (by rfl) (by first|exact Or.inl rfl|exact Or.inr (Or.inl rfl)|exact Or.inr (Or.inr rfl)) (by decide) (by decide))) (@ć _ _ _ _ _ _ _ (@Đ _ _ _ _ _ _ _ _ _ _ _ (@Ľ _) (@Ī _) (@ā _ _ _ _ _ (@ę _ _ _ _ _ (@ņ _ _ _ _ _ _ _ _ _ _ _ (@ĵ _) (@Ĵ _) (@ā _ _ _ _ _ (@ă _ _ _ _ _ _)) (@ā _ _ _ _ _ (@Đ _ _ _ _ _ _ _ _ _ _ _ (@Ņ _) (@Ń _) (@ā _ _ _ _ _ (@Ħ _ _ _ _ _ _ _ _ _ _ (@ē _) (@Ē _) (@Ă _ _ _ 0 _ _ (by rfl) (by first|exact Or.inl rfl|exact Or.inr (Or.inl rfl)|exact Or.inr (Or.inr rfl)) (by decide) (by decide)) (@ā _ _ _ _ _ (@ă _ _ _ _ _ _)) (fun _ _=>rfl))) (@ā _ _ _ _ _ (@ă _ _ _ _ _ _))))))) (@Ă _ _ _ 1 _ _ (by rfl) (by first|exact Or.inl rfl|exact Or.inr (Or.inl rfl)|exact Or.inr (Or.inr rfl)) (by decide) (by decide))) (@Ĥ _ _ _) (by exact İ rfl)) (by exact İ rfl)) (by exact İ rfl))))))))
theorem PL(T:Tx K mg a):į P w K mg base (ũ P w) 2 a.JK a.JL ["_law_script","_law_start","_law_many","_law_long"] (ŵ ⟨K,Ĩ a⟩ 4 fj):=by
 refine aG (cm:=Ĩ a) (mb:=Av) T.Ob gG rfl rfl rfl fun cdv A outer s H E hr=>?_
 have hu:=hr.units
 exact(@Ċ _ _ _ _ _ _ _ (@ĩ _ _ _ _ _ _ 4 _ _ gG.nd rfl (Or.inl rfl) (@ŭ _ _ _ _ _ _ (@ć _ _ _ _ _ _ _ (@Ŭ _ _ _ _ _ _) (@ć _ _ _ _ _ _ _ (@Ŭ _ _ _ _ _ _) (@ć _ _ _ _ _ _ _ (@Ŭ _ _ _ _ _ _) (@ć _ _ _ _ _ _ _ (@Ŭ _ _ _ _ _ _) (@ć _ _ _ _ _ _ _ (@Ŭ _ _ _ _ _ _) (@ć _ _ _ _ _ _ _ (@Ŭ _ _ _ _ _ _) (@ć _ _ _ _ _ _ _ (@Ŭ _ _ _ _ _ _) (@ć _ _ _ _ _ _ _ (@Ŭ _ _ _ _ _ _) (@ć _ _ _ _ _ _ _ (@Ŭ _ _ _ _ _ _) (@ć _ _ _ _ _ _ _ (@Ŭ _ _ _ _ _ _) (@ć _ _ _ _ _ _ _ (@Ŭ _ _ _ _ _ _) (@ć _ _ _ _ _ _ _ (@Ŭ _ _ _ _ _ _) (@Ĥ _ _ _) (by exact İ rfl)) (by exact İ rfl)) (by exact İ rfl)) (by exact İ rfl)) (by exact İ rfl)) (by exact İ rfl)) (by exact İ rfl)) (by exact İ rfl)) (by exact İ rfl)) (by exact İ rfl)) (by exact İ rfl)) (by exact İ rfl))) (by rfl) (by first|exact .inl rfl|exact .inr rfl|assumption)) (@Ċ _ _ _ _ _ _ _ (@ĩ _ _ _ _ _ _ 5 _ _ gG.nd rfl (Or.inl rfl) (@ĭ _ _ _ _ _ (@Đ _ _ _ _ _ _ _ _ _ _ _ (@Ņ _) (@Ń _) (@ā _ _ _ _ _ (@ę _ _ _ _ _ (@ď _ _ _ _ _ _ _ _ _ _ _ _ _ _ _ _ (kZ T) ċ (hr.mono (by decide)) rfl T.Ů T.pF.kp T.sI (@Ğ _ _ _ _ _ _ _ _ _ _ _ _ _ _ _) (@Ć _ _ _ _ _ 0 _ _ (by rfl) (by first|exact Or.inl rfl|exact Or.inr (Or.inl rfl)|exact Or.inr (Or.inr rfl)) (by decide) (by decide) (@Ć _ _ _ _ _ 1 _ _ (by rfl) (by first|exact Or.inl rfl|exact Or.inr (Or.inl rfl)|exact Or.inr (Or.inr rfl)) (by decide) (by decide) (@č _ _ _) (by exact İ rfl)) (by exact İ rfl)) (by decide) (by exact İ rfl) (by rfl)))) (@ā _ _ _ _ _ (@ă _ _ _ _ _ _)))) (by rfl) (by first|exact .inl rfl|exact .inr rfl|assumption)) (@Ċ _ _ _ _ _ _ _ (@ĩ _ _ _ _ _ _ 4 _ _ gG.nd rfl (Or.inl rfl) (@ņ _ _ _ _ _ _ _ _ _ _ _ (@ĵ _) (@Ĵ _) (@ā _ _ _ _ _ (@ę _ _ _ _ _ (@bK _ _ _ _ _ _ _ _ _ _ _ (@Ă _ _ _ 4 _ _ (by rfl) (by first|exact Or.inl rfl|exact Or.inr (Or.inl rfl)|exact Or.inr (Or.inr rfl)) (by decide) (by decide)) (@aH _ _ _ _ _ (@v_var _ _ _ 5 _ _ (by rfl) (by first|exact Or.inl rfl|exact Or.inr (Or.inl rfl)|exact Or.inr (Or.inr rfl)) (by decide) (by decide))) (@nU _ _ _)))) (@ā _ _ _ _ _ (@ę _ _ _ _ _ (@bK _ _ _ _ _ _ _ _ _ _ _ (@Ă _ _ _ 4 _ _ (by rfl) (by first|exact Or.inl rfl|exact Or.inr (Or.inl rfl)|exact Or.inr (Or.inr rfl)) (by decide) (by decide)) (@nU _ _ _) (@aH _ _ _ _ _ (@v_var _ _ _ 5 _ _ (by rfl) (by first|exact Or.inl rfl|exact Or.inr (Or.inl rfl)|exact Or.inr (Or.inr rfl)) (by decide) (by decide))))))) (by rfl) (by first|exact .inl rfl|exact .inr rfl|assumption)) (@Ċ _ _ _ _ _ _ _ (@ĩ _ _ _ _ _ _ 6 _ _ gG.nd rfl (Or.inl rfl) (@ŭ _ _ _ _ _ _ (@Ĥ _ _ _)) (by rfl) (by first|exact .inl rfl|exact .inr rfl|assumption)) (@Ċ _ _ _ _ _ _ _ (@aU _ _ _ _ _ _ _ _ _ _ PassesOwn.leaving rfl (@Ũ _ _ _ _ _ _ _ _ rfl T.ž (@ć _ _ _ _ _ _ _ (@v_var _ _ _ 2 _ _ (by rfl) (by first|exact Or.inl rfl|exact Or.inr (Or.inl rfl)|exact Or.inr (Or.inr rfl)) (by decide) (by decide)) (@Ĥ _ _ _) (by exact İ rfl)) (by exact İ rfl)) (@ħ _ _ _ 7 _ gG.nd rfl (Or.inl rfl) (by first|exact .inl rfl|exact .inr rfl|assumption)) (@Ċ _ _ _ _ _ _ _ (@ĩ _ _ _ _ _ _ 8 _ _ gG.nd rfl (by first|exact Or.inl rfl|exact Or.inr rfl) (@ď _ _ _ _ _ _ _ _ _ _ _ _ _ _ _ _ (PK T) ċ (hr.mono (by decide)) rfl T.iJ T.Oa.kp T.Vd (@Ğ _ _ _ _ _ _ _ _ _ _ _ _ _ _ _) (@ė _ _ _ _ _ _ _ (@ę _ _ _ _ _ (@ņ _ _ _ _ _ _ _ _ _ _ _ (@ĵ _) (@Ĵ _) (@ā _ _ _ _ _ (@Đ _ _ _ _ _ _ _ _ _ _ _ (@Ź _) (@š _) (@ā _ _ _ _ _ (@ę _ _ _ _ _ (@ď _ _ _ _ _ _ _ _ _ _ _ _ _ _ _ _ (kZ T) ċ (hr.mono (by decide)) rfl T.Ů T.pF.kp T.sI (@Ğ _ _ _ _ _ _ _ _ _ _ _ _ _ _ _) (@Ć _ _ _ _ _ 0 _ _ (by rfl) (by first|exact Or.inl rfl|exact Or.inr (Or.inl rfl)|exact Or.inr (Or.inr rfl)) (by decide) (by decide) (@ė _ _ _ _ _ _ _ (@ę _ _ _ _ _ (@ņ _ _ _ _ _ _ _ _ _ _ _ (@ĵ _) (@Ĵ _) (@Ă _ _ _ 1 _ _ (by rfl) (by first|exact Or.inl rfl|exact Or.inr (Or.inl rfl)|exact Or.inr (Or.inr rfl)) (by decide) (by decide)) (@Ă _ _ _ 7 _ _ (by rfl) (by first|exact Or.inl rfl|exact Or.inr (Or.inl rfl)|exact Or.inr (Or.inr rfl)) (by decide) (by decide)))) (@č _ _ _) (by exact İ rfl)) (by exact İ rfl)) (by decide) (by exact İ rfl) (by rfl)))) (@ā _ _ _ _ _ (@ă _ _ _ _ _ _)))) (@ā _ _ _ _ _ (@Đ _ _ _ _ _ _ _ _ _ _ _ (@Ľ _) (@Ī _) (@ā _ _ _ _ _ (@ă _ _ _ _ _ _)) (@Ă _ _ _ 7 _ _ (by rfl) (by first|exact Or.inl rfl|exact Or.inr (Or.inl rfl)|exact Or.inr (Or.inr rfl)) (by decide) (by decide)))))) (@ė _ _ _ _ _ _ _ (@ę _ _ _ _ _ (@ņ _ _ _ _ _ _ _ _ _ _ _ (@ĵ _) (@Ĵ _) (@ā _ _ _ _ _ (@Đ _ _ _ _ _ _ _ _ _ _ _ (@Ľ _) (@Ī _) (@ā _ _ _ _ _ (@ă _ _ _ _ _ _)) (@Ă _ _ _ 3 _ _ (by rfl) (by first|exact Or.inl rfl|exact Or.inr (Or.inl rfl)|exact Or.inr (Or.inr rfl)) (by decide) (by decide)))) (@ā _ _ _ _ _ (@ă _ _ _ _ _ _)))) (@č _ _ _) (by exact İ rfl)) (by exact İ rfl)) (by decide) (by exact İ rfl) (by rfl)) (by rfl) (by first|exact .inl rfl|exact .inr rfl|assumption)) (@Ċ _ _ _ _ _ _ _ (je (i:=9) gG.nd rfl rfl ["_law_xs","_law_j"] [8] 1 (ĉ qW) rfl rfl (@Ũ _ _ _ _ _ _ _ _ rfl T.ž (@ć _ _ _ _ _ _ _ (@ę _ _ _ _ _ (@ņ _ _ _ _ _ _ _ _ _ _ _ (@ĵ _) (@Ĵ _) (@ā _ _ _ _ _ (@ă _ _ _ _ _ _)) (@ā _ _ _ _ _ (@Đ _ _ _ _ _ _ _ _ _ _ _ (@Ņ _) (@Ń _) (@ā _ _ _ _ _ (@Ħ _ _ _ _ _ _ _ _ _ _ (@ē _) (@Ē _) (@Ă _ _ _ 8 _ _ (by rfl) (by first|exact Or.inl rfl|exact Or.inr (Or.inl rfl)|exact Or.inr (Or.inr rfl)) (by decide) (by decide)) (@ā _ _ _ _ _ (@ă _ _ _ _ _ _)) (fun _ _=>rfl))) (@Ă _ _ _ 3 _ _ (by rfl) (by first|exact Or.inl rfl|exact Or.inr (Or.inl rfl)|exact Or.inr (Or.inr rfl)) (by decide) (by decide)))))) (@Ĥ _ _ _) (by exact İ rfl)) (by exact İ rfl)) (fun _ _ _ _ _=>(@ħ _ _ _ 1 _ (show(["_law_xs","_law_j"]:List Str).Nodup by decide +kernel) rfl (Or.inl rfl) (Or.inr rfl))) (fun _ _ _ _ _=>(@Ś _ _ _)) (fun _ _ _ _ _=>(@ę _ _ _ _ _ (@ď _ _ _ _ _ _ _ _ _ _ _ _ _ _ _ _ (Zbd T) ċ (hr.mono (by decide)) rfl T.jA T.Ve.kp T.Zd5 (@aJ _ _ _) (@ė _ _ _ _ _ _ _ (@ę _ _ _ _ _ (@bK _ _ _ _ _ _ _ _ _ _ _ (@Ă _ _ _ 0 _ _ (by rfl) (by first|exact Or.inl rfl|exact Or.inr (Or.inl rfl)|exact Or.inr (Or.inr rfl)) (by decide) (by decide)) (@aH _ _ _ _ _ (@ę _ _ _ _ _ (@ņ _ _ _ _ _ _ _ _ _ _ _ (@ĵ _) (@Ĵ _) (@ā _ _ _ _ _ (@ă _ _ _ _ _ _)) (@ā _ _ _ _ _ (@Đ _ _ _ _ _ _ _ _ _ _ _ (@Ľ _) (@Ī _) (@ā _ _ _ _ _ (@ă _ _ _ _ _ _)) (@Ă _ _ _ 1 _ _ (by rfl) (by first|exact Or.inl rfl|exact Or.inr (Or.inl rfl)|exact Or.inr (Or.inr rfl)) (by decide) (by decide))))))) (@aH _ _ _ _ _ (@ę _ _ _ _ _ (@ņ _ _ _ _ _ _ _ _ _ _ _ (@ĵ _) (@Ĵ _) (@ā _ _ _ _ _ (@ă _ _ _ _ _ _)) (@ā _ _ _ _ _ (@Đ _ _ _ _ _ _ _ _ _ _ _ (@Ľ _) (@Ī _) (@ā _ _ _ _ _ (@ă _ _ _ _ _ _)) (@Ă _ _ _ 1 _ _ (by rfl) (by first|exact Or.inl rfl|exact Or.inr (Or.inl rfl)|exact Or.inr (Or.inr rfl)) (by decide) (by decide))))))))) (@č _ _ _) (by exact İ rfl)) (by decide) (by exact İ rfl) (by rfl)))) ⟨rfl,⟨rfl,Or.inl rfl⟩,trivial⟩) (@Č _ _ _ _ _ (@PS.wk _ _ _ _ (bW (k_ PySem.F.plainAttrs_list PySem.F.slot_list_append PySem.F.type_list_append aK (pv 6) (@ć _ _ _ _ _ _ _ (@ŋ _ _ _ _ _ _ _ (@ć _ _ _ _ _ _ _ (@Ħ _ _ _ _ _ _ _ _ _ _ (@ē _) (@Ē _) (@Ă _ _ _ 4 _ _ (by rfl) (by first|exact Or.inl rfl|exact Or.inr (Or.inl rfl)|exact Or.inr (Or.inr rfl)) (by decide) (by decide)) (@Ă _ _ _ 7 _ _ (by rfl) (by first|exact Or.inl rfl|exact Or.inr (Or.inl rfl)|exact Or.inr (Or.inr rfl)) (by decide) (by decide)) (fun _ _=>rfl)) (@ć _ _ _ _ _ _ _ (@ę _ _ _ _ _ (@ņ _ _ _ _ _ _ _ _ _ _ _ (@ĵ _) (@Ĵ _) (@ā _ _ _ _ _ (@ă _ _ _ _ _ _)) (@ā _ _ _ _ _ (@Đ _ _ _ _ _ _ _ _ _ _ _ (@Ņ _) (@Ń _) (@ā _ _ _ _ _ (@Đ _ _ _ _ _ _ _ _ _ _ _ (@Ľ _) (@Ī _) (@ā _ _ _ _ _ (@Ħ _ _ _ _ _ _ _ _ _ _ (@ē _) (@Ē _) (@Ă _ _ _ 8 _ _ (by rfl) (by first|exact Or.inl rfl|exact Or.inr (Or.inl rfl)|exact Or.inr (Or.inr rfl)) (by decide) (by decide)) (@ā _ _ _ _ _ (@ă _ _ _ _ _ _)) (fun _ _=>rfl))) (@ā _ _ _ _ _ (@ă _ _ _ _ _ _)))) (@ā _ _ _ _ _ (@Đ _ _ _ _ _ _ _ _ _ _ _ (@nO _) (@nA _) (@ā _ _ _ _ _ (@ă _ _ _ _ _ _)) (@ā _ _ _ _ _ (@ă _ _ _ _ _ _)))))))) (@ć _ _ _ _ _ _ _ (@v_var _ _ _ 9 _ _ (by rfl) (by first|exact Or.inl rfl|exact Or.inr (Or.inl rfl)|exact Or.inr (Or.inr rfl)) (by decide) (by decide)) (@Ĥ _ _ _) (by exact İ rfl)) (by exact İ rfl)) (by exact İ rfl))) (@Ĥ _ _ _) (by exact İ rfl)))) (fun _ _ _ h=> @gP _ _ _ _ _ _ _ _ h))))) (by intro _;rfl)) (@Č _ _ _ _ _ (@ģ _ _ _ _ _ _ (@iu _ _ _ 6 _ _ (by rfl) (by first|exact Or.inl rfl|exact Or.inr (Or.inl rfl)|exact Or.inr (Or.inr rfl)) (by decide) (by decide)))))))))
theorem PN(T:Tx K mg a):į P w K mg base (ũ P w) 1 a.JM a.JN ["self","width","height","things","days"] (Qy ⟨K,Ĩ a⟩ 5 "Yard" jB):=by
 refine fnI (cm:=Ĩ a) (mb:=Aw) T.Zd6 ZaL rfl rfl rfl fun cdv A outer s H E hr=>?_
 have hu:=hr.units
 exact(Ċ (aX (i:=0) ["Yard"] ⟨⟨T.aB,T.aY⟩,trivial⟩ (pv 0) (v_var 1))
  (Ċ (aX (i:=0) ["Yard"] ⟨⟨T.aB,T.bL⟩,trivial⟩ (pv 0) (v_var 2))
  (Ċ (aX (i:=0) ["Yard"] ⟨⟨T.aB,T.cV⟩,trivial⟩ (pv 0) (ę (PE.wk (ů cM (by rfl) T.eU PyProof.Rows.boot_list (Ģ (Ă 3) Ķ)) fun _ _ _ h=>vZ cN h)))
  (Č (aX (i:=0) ["Yard"] ⟨⟨T.aB,T.cT⟩,trivial⟩ (pv 0) (ę (ű ["name","times","turns"] [] 3 (ĉ qX) rfl rfl (aq 4) (fun _ _ _ _ _=>(nH rfl (ő (ħ (i:=0) (show(["name","times","turns"]:List Str).Nodup by decide +kernel) rfl (Or.inl rfl) (hf:=Or.inr rfl)) (ő (ħ (i:=1) (show(["name","times","turns"]:List Str).Nodup by decide +kernel) rfl (Or.inl rfl) (hf:=Or.inr rfl)) (ő (ħ (i:=2) (show(["name","times","turns"]:List Str).Nodup by decide +kernel) rfl (Or.inl rfl) (hf:=Or.inr rfl)) dZ))))) (fun _ _ _ _ _=>Ś) (fun _ _ _ _ _=>(ŋ (ć (v_var 0) (ć (v_var 1) (ć (ę (PE.wk (ů cM (by rfl) T.eU PyProof.Rows.boot_list (Ģ (Ă 2) Ķ)) fun _ _ _ h=>vZ cN h)) Ĥ))))) trivial)))))))
theorem P_(T:Tx K mg a):į P w K mg base (ũ P w) 1 a.JQ a.JR ["_law_number"] (ŵ ⟨K,Ĩ a⟩ 1 jC):=by
 refine aG (cm:=Ĩ a) (mb:=uL) T.Oc ZaM rfl rfl rfl fun cdv A outer s H E hr=>?_
 have hu:=hr.units
 exact(Ċ (Ŧ (œ ak (Ş hu) (ā (Đ Ņ Ń (ā (Đ Ź š (Ă 0) (ā ă))) (ā ă))) (ā ă) (ı _))
  (Č (ģ (ņ ĵ Ĵ (ā ă) (ā (Đ Ņ Ń (ā (Đ Ľ Ī (Ă 0) (ā ă))) (ā (Đ nO nA (ā ă) (ā ă))))))))
  ľ)
  (Č (ģ (ņ ĵ Ĵ (ā ă) (ā (Đ Ņ Ń (Ă 0) (ā ă)))))))
theorem pK(T:Tx K mg a):į P w K mg base (ũ P w) 1 a.JT a.JV ["_law_number","_law_wide"] (ŵ ⟨K,Ĩ a⟩ 2 bV):=by
 refine aG (cm:=Ĩ a) (mb:=uM) T.sJ ZaN rfl rfl rfl fun cdv A outer s H E hr=>?_
 have hu:=hr.units
 exact(Ċ (Ŧ (œ ak (Ş hu) (ā (Đ Ņ Ń (ā (Đ Ź š (Ă 0) (ā ă))) (ā ă))) (ā ă) (ı _))
  (Č (ģ (ņ ĵ Ĵ (ā (Đ ŕ Œ (ā (Đ Ņ Ń (ā (Đ Ľ Ī (Ă 0) (ā ă))) (ā (Đ ŕ Œ (ā (Đ Ľ Ī (ā ă) (ā (Đ nO nA (ā ă) (ā ă))))) (ā ă))))) (ā (Đ nO nA (ā ă) (ā ă))))) (ā ă))))
  ľ)
  (Č (ģ (ĭ (Đ ŕ Œ (ā (Đ Ņ Ń (Ă 0) (ā (ę (ņ ĵ Ĵ (ā (Đ Ľ Ī (ā ă) (Ă 1))) (ā ă)))))) (ā ă))))))
theorem Zbe(T:Tx K mg a):į P w K mg base (ũ P w) 2 a.JW a.JX ["_law_cell","_law_wide"] (ŵ ⟨K,Ĩ a⟩ 2 dM):=by
 refine aG (cm:=Ĩ a) (mb:=jf) T.Vh gH rfl rfl rfl fun cdv A outer s H E hr=>?_
 have hu:=hr.units
 exact(Ċ (ĩ (i:=2) gH.nd rfl (by first|exact Or.inl rfl|exact Or.inr rfl) (ď (PK T) ċ (hr.mono (by decide)) rfl T.iJ T.Oa.kp T.Vd Ğ (Ć 0 (hr:=(ė ă č)))))
  (Ċ (Us (ę (ű ["_law_wide","_law_xs","_law_k"] [1,2] 1 (ĉ qY) rfl rfl (Ũ rfl T.ž (ć ă Ĥ)) (fun _ _ _ _ _=>(ħ (i:=2) (show(["_law_wide","_law_xs","_law_k"]:List Str).Nodup by decide +kernel) rfl (Or.inl rfl) (hf:=Or.inr rfl))) (fun _ _ _ _ _=>Ś) (fun _ _ _ _ _=>(ę (ď (pK T) ċ (hr.mono (by decide)) rfl T.bV T.sJ.kp T.za aJ (ė (Ħ ē Ē (Ă 1) (Ă 2) (fun _ _=>rfl)) (Ć 0 (hr:=č)))))) ⟨rfl,⟨rfl,Or.inl rfl⟩,⟨rfl,⟨rfl,Or.inl rfl⟩,trivial⟩⟩)) (Va rfl (ő (ħ (i:=5) gH.nd rfl (Or.inl rfl)) (ő (ħ (i:=6) gH.nd rfl (Or.inl rfl)) dZ))))
  (Ċ (ĩ (i:=3) gH.nd rfl (Or.inl rfl) (ď (P_ T) ċ (hr.mono (by decide)) rfl T.jC T.Oc.kp T.Vg Ğ (ė (Ħ ē Ē (Ă 2) (ā ă) (fun _ _=>rfl)) č)))
  (Ċ (ĩ (i:=4) gH.nd rfl (Or.inl rfl) (ĭ (Đ Ņ Ń (ā (Ħ ē Ē (Ă 2) (ā ă) (fun _ _=>rfl))) (ā ă))))
  (Ċ (Ŧ (œ ak (Ş hu) (Ă 4) (ā ă) (ı _))
  (Č (ģ (ĭ (ŋ (ć Ŭ (ć (ę (ŭ (ć (Đ Ź š (Ă 5) (ā ă)) (ć (Đ Ź š (Ă 6) (ā ă)) (ć (v_var 3) Ĥ))))) Ĥ))))))
  ľ)
  (Ċ (Ŧ (œ ak (Ş hu) (Ă 4) (ā ă) (ı _))
  (Ċ (Us (ę (ŭ (ć (Đ ŕ Œ (ā (ę (ņ ĵ Ĵ (Ă 5) (ā (Đ Ņ Ń (ā (Ħ ē Ē (Ă 2) (ā ă) (fun _ _=>rfl))) (ā ă)))))) (ā ă)) (ć (Đ ŕ Œ (ā (ę (ņ ĵ Ĵ (Ă 6) (ā (Đ Ņ Ń (ā (Ħ ē Ē (Ă 2) (ā ă) (fun _ _=>rfl))) (ā ă)))))) (ā ă)) Ĥ)))) (Va rfl (ő (ħ (i:=7) gH.nd rfl (Or.inl rfl)) (ő (ħ (i:=8) gH.nd rfl (Or.inl rfl)) dZ))))
  (Č (ģ (ĭ (ŋ (ć Ŭ (ć (ę (ŭ (ć (v_var 5) (ć (v_var 6) (ć (ę (ņ ĵ Ĵ (Ă 7) (ā (PE.wk (ů YT (by rfl) T.Pj PyProof.Rows.boot_int (Ģ (ā (eV ak (Ş hu) (ā (ŋ (ć (v_var 5) (ć (v_var 6) Ĥ)))) (ā (ŋ (ć (v_var 7) (ć (v_var 8) Ĥ)))) (ı _))) Ķ)) fun _ _ _ h=>Ŷ YW h)))) (ć (v_var 8) (ć (v_var 3) Ĥ))))))) Ĥ)))))))
  ľ)
  (Ċ (Ŧ (œ ak (Ş hu) (Ă 4) (ā ă) (ı _))
  (Č (ģ (ĭ (ŋ (ć Ŭ (ć (ę (ņ ĵ Ĵ (ā (ę (ņ ĵ Ĵ (ā (ę (ŭ (ć (v_var 5) (ć (v_var 6) (ć (Đ Ņ Ń (ā (Ħ ē Ē (Ă 2) (ā ă) (fun _ _=>rfl))) (ā ă)) Ĥ)))))) (ā (ę (ŭ (ć (ę (ď (pK T) ċ (hr.mono (by decide)) rfl T.bV T.sJ.kp T.za Ğ (ė (Ħ ē Ē (Ă 2) (ā ă) (fun _ _=>rfl)) (Ć 1 (hr:=č))))) (ć (ę (ď (pK T) ċ (hr.mono (by decide)) rfl T.bV T.sJ.kp T.za Ğ (ė (Ħ ē Ē (Ă 2) (ā ă) (fun _ _=>rfl)) (Ć 1 (hr:=č))))) (ć (v_var 3) Ĥ))))))))) (ā (ę (ŭ (ć (ę (ď (pK T) ċ (hr.mono (by decide)) rfl T.bV T.sJ.kp T.za Ğ (ė (Ħ ē Ē (Ă 2) (ā ă) (fun _ _=>rfl)) (Ć 1 (hr:=č))))) (ć (ę (ď (pK T) ċ (hr.mono (by decide)) rfl T.bV T.sJ.kp T.za Ğ (ė (Ħ ē Ē (Ă 2) (ā ă) (fun _ _=>rfl)) (Ć 1 (hr:=č))))) (ć (ę (ď (P_ T) ċ (hr.mono (by decide)) rfl T.jC T.Oc.kp T.Vg Ğ (ė (Ħ ē Ē (Ă 2) (ā ă) (fun _ _=>rfl)) č))) Ĥ)))))))) Ĥ))))))
  ľ)
  (Č (ģ (ĭ (ŋ (ć (Ħ ē Ē (ā (ę (ŭ (ć Ŭ (ć Ŭ Ĥ))))) (ā (Đ ŕ Œ (Ă 4) (ā ă))) (fun _ _=>rfl)) (ć (ę (ŭ (ć (v_var 5) (ć (v_var 6) (ć (ę (ņ ĵ Ĵ (ā (ę (ņ ĵ Ĵ (Ă 5) (ā ă)))) (ā (Đ Ņ Ń (ā (Ħ ē Ē (Ă 2) (ā ă) (fun _ _=>rfl))) (ā ă))))) (ć (ę (ņ ĵ Ĵ (ā (ę (ņ ĵ Ĵ (Ă 6) (ā ă)))) (ā (Đ Ņ Ń (ā (Ħ ē Ē (Ă 2) (ā ă) (fun _ _=>rfl))) (ā ă))))) (ć (v_var 3) Ĥ))))))) Ĥ)))))))))))))
theorem pL(T:Tx K mg a):į P w K mg base (ũ P w) 1 a.JZ a.J_ ["number"] (ŵ ⟨K,Ĩ a⟩ 1 cR):=by
 refine aG (cm:=Ĩ a) (mb:=Ax) T.sO ZaO rfl rfl rfl fun cdv A outer s H E hr=>?_
 have hu:=hr.units
 exact(Č (ģ (ĭ (qI iG iG h_ h_ (ā (vX gw fU (ā (Di (.int (1000000000)) (mR (v:=.int (1000000000)) rfl T.jH ⟨_,rfl⟩))))) (Ă 0) (ā (Di (.int (1000000000)) (mR (v:=.int (1000000000)) rfl T.jH ⟨_,rfl⟩)))))))
theorem Qa(T:Tx K mg a):į P w K mg base (ũ P w) 1 a.Ka a.Kc ["number"] (ŵ ⟨K,Ĩ a⟩ 1 lA):=by
 refine aG (cm:=Ĩ a) (mb:=Ay) T.Od ZaP rfl rfl rfl fun cdv A outer s H E hr=>?_
 have hu:=hr.units
 exact(Č (ģ (ĭ (qI iG iG h_ h_ (ā ă) (Ă 0) (ā (Di (.int (1000000000)) (mR (v:=.int (1000000000)) rfl T.iU ⟨_,rfl⟩)))))))
theorem Zbf(T:Tx K mg a):į P w K mg base (ũ P w) 2 a.Kd a.Ke ["numbers"] (ŵ ⟨K,Ĩ a⟩ 1 oM):=by
 refine aG (cm:=Ĩ a) (mb:=uN) T.Vj ZaQ rfl rfl rfl fun cdv A outer s H E hr=>?_
 have hu:=hr.units
 exact(Č (ģ (ĭ (v_and (eV ak (Ş hu) (ā (PE.wk (Ĭ dU (by rfl) T.jJ PySem.boot_len (Ģ (Ă 0) Ķ)) fun _ _ _ h=>Ŷ eN h)) (ā ă) (ı _)) (v_and (ę (ď (pL T) ċ (hr.mono (by decide)) rfl T.cR T.sO.kp T.zc Ğ (ė (Ħ ē Ē (Ă 0) (ā ă) (fun _ _=>rfl)) č))) (v_and (ę (ď (pL T) ċ (hr.mono (by decide)) rfl T.cR T.sO.kp T.zc Ğ (ė (Ħ ē Ē (Ă 0) (ā ă) (fun _ _=>rfl)) č))) (iz (ę (ď (Qa T) ċ (hr.mono (by decide)) rfl T.lA T.Od.kp T.Vi Ğ (ė (Ħ ē Ē (Ă 0) (ā ă) (fun _ _=>rfl)) č))))))))))
theorem Qc(T:Tx K mg a):į P w K mg base (ũ P w) 1 a.mJ a.BX ["self","word","numbers"] (Qy ⟨K,Ĩ a⟩ 3 "Post" uO):=by
 refine fnI (cm:=Ĩ a) (mb:=fu) T.Oe zm rfl rfl rfl fun cdv A outer s H E hr=>?_
 have hu:=hr.units
 exact(Ċ (aX (i:=0) ["Thing","Post","Fence","Sail","Cloth","House"] ⟨⟨T.Ţ,T.aZ⟩,⟨⟨T.Ų,T.bN⟩,⟨⟨T.ś,T.bf⟩,⟨⟨T.ų,T.bO⟩,⟨⟨T.Ŝ,T.bh⟩,⟨⟨T.ŝ,T.bx⟩,trivial⟩⟩⟩⟩⟩⟩ (pv 0) (v_var 1))
  (Č (aX (i:=0) ["Thing","Post","Fence","Sail","Cloth","House"] ⟨⟨T.Ţ,T.ķ⟩,⟨⟨T.Ų,T.Ŀ⟩,⟨⟨T.ś,T.ĸ⟩,⟨⟨T.ų,T.ŀ⟩,⟨⟨T.Ŝ,T.Ĺ⟩,⟨⟨T.ŝ,T.ĺ⟩,trivial⟩⟩⟩⟩⟩⟩ (pv 0) (ę (PE.wk (ů cM (by rfl) T.eU PyProof.Rows.boot_list (Ģ (Ă 2) Ķ)) fun _ _ _ h=>vZ cN h)))))
theorem FZ(T:Tx K mg a):į P w K mg base (ũ P w) 1 a.mJ a.BX ["self","word","numbers"] (Qy ⟨K,Ĩ a⟩ 3 "Fence" oN):=by
 refine fnI (cm:=Ĩ a) (mb:=fu) T.Oe zm rfl rfl rfl fun cdv A outer s H E hr=>?_
 have hu:=hr.units
 exact(Ċ (aX (i:=0) ["Thing","Post","Fence","Sail","Cloth","House"] ⟨⟨T.Ţ,T.aZ⟩,⟨⟨T.Ų,T.bN⟩,⟨⟨T.ś,T.bf⟩,⟨⟨T.ų,T.bO⟩,⟨⟨T.Ŝ,T.bh⟩,⟨⟨T.ŝ,T.bx⟩,trivial⟩⟩⟩⟩⟩⟩ (pv 0) (v_var 1))
  (Č (aX (i:=0) ["Thing","Post","Fence","Sail","Cloth","House"] ⟨⟨T.Ţ,T.ķ⟩,⟨⟨T.Ų,T.Ŀ⟩,⟨⟨T.ś,T.ĸ⟩,⟨⟨T.ų,T.ŀ⟩,⟨⟨T.Ŝ,T.Ĺ⟩,⟨⟨T.ŝ,T.ĺ⟩,trivial⟩⟩⟩⟩⟩⟩ (pv 0) (ę (PE.wk (ů cM (by rfl) T.eU PyProof.Rows.boot_list (Ģ (Ă 2) Ķ)) fun _ _ _ h=>vZ cN h)))))
theorem Qd(T:Tx K mg a):į P w K mg base (ũ P w) 1 a.mJ a.BX ["self","word","numbers"] (Qy ⟨K,Ĩ a⟩ 3 "Sail" uP):=by
 refine fnI (cm:=Ĩ a) (mb:=fu) T.Oe zm rfl rfl rfl fun cdv A outer s H E hr=>?_
 have hu:=hr.units
 exact(Ċ (aX (i:=0) ["Thing","Post","Fence","Sail","Cloth","House"] ⟨⟨T.Ţ,T.aZ⟩,⟨⟨T.Ų,T.bN⟩,⟨⟨T.ś,T.bf⟩,⟨⟨T.ų,T.bO⟩,⟨⟨T.Ŝ,T.bh⟩,⟨⟨T.ŝ,T.bx⟩,trivial⟩⟩⟩⟩⟩⟩ (pv 0) (v_var 1))
  (Č (aX (i:=0) ["Thing","Post","Fence","Sail","Cloth","House"] ⟨⟨T.Ţ,T.ķ⟩,⟨⟨T.Ų,T.Ŀ⟩,⟨⟨T.ś,T.ĸ⟩,⟨⟨T.ų,T.ŀ⟩,⟨⟨T.Ŝ,T.Ĺ⟩,⟨⟨T.ŝ,T.ĺ⟩,trivial⟩⟩⟩⟩⟩⟩ (pv 0) (ę (PE.wk (ů cM (by rfl) T.eU PyProof.Rows.boot_list (Ģ (Ă 2) Ķ)) fun _ _ _ h=>vZ cN h)))))
theorem Ga(T:Tx K mg a):į P w K mg base (ũ P w) 1 a.mJ a.BX ["self","word","numbers"] (Qy ⟨K,Ĩ a⟩ 3 "Cloth" oO):=by
 refine fnI (cm:=Ĩ a) (mb:=fu) T.Oe zm rfl rfl rfl fun cdv A outer s H E hr=>?_
 have hu:=hr.units
 exact(Ċ (aX (i:=0) ["Thing","Post","Fence","Sail","Cloth","House"] ⟨⟨T.Ţ,T.aZ⟩,⟨⟨T.Ų,T.bN⟩,⟨⟨T.ś,T.bf⟩,⟨⟨T.ų,T.bO⟩,⟨⟨T.Ŝ,T.bh⟩,⟨⟨T.ŝ,T.bx⟩,trivial⟩⟩⟩⟩⟩⟩ (pv 0) (v_var 1))
  (Č (aX (i:=0) ["Thing","Post","Fence","Sail","Cloth","House"] ⟨⟨T.Ţ,T.ķ⟩,⟨⟨T.Ų,T.Ŀ⟩,⟨⟨T.ś,T.ĸ⟩,⟨⟨T.ų,T.ŀ⟩,⟨⟨T.Ŝ,T.Ĺ⟩,⟨⟨T.ŝ,T.ĺ⟩,trivial⟩⟩⟩⟩⟩⟩ (pv 0) (ę (PE.wk (ů cM (by rfl) T.eU PyProof.Rows.boot_list (Ģ (Ă 2) Ķ)) fun _ _ _ h=>vZ cN h)))))
theorem Gb(T:Tx K mg a):į P w K mg base (ũ P w) 1 a.mJ a.BX ["self","word","numbers"] (Qy ⟨K,Ĩ a⟩ 3 "House" oR):=by
 refine fnI (cm:=Ĩ a) (mb:=fu) T.Oe zm rfl rfl rfl fun cdv A outer s H E hr=>?_
 have hu:=hr.units
 exact(Ċ (aX (i:=0) ["Thing","Post","Fence","Sail","Cloth","House"] ⟨⟨T.Ţ,T.aZ⟩,⟨⟨T.Ų,T.bN⟩,⟨⟨T.ś,T.bf⟩,⟨⟨T.ų,T.bO⟩,⟨⟨T.Ŝ,T.bh⟩,⟨⟨T.ŝ,T.bx⟩,trivial⟩⟩⟩⟩⟩⟩ (pv 0) (v_var 1))
  (Č (aX (i:=0) ["Thing","Post","Fence","Sail","Cloth","House"] ⟨⟨T.Ţ,T.ķ⟩,⟨⟨T.Ų,T.Ŀ⟩,⟨⟨T.ś,T.ĸ⟩,⟨⟨T.ų,T.ŀ⟩,⟨⟨T.Ŝ,T.Ĺ⟩,⟨⟨T.ŝ,T.ĺ⟩,trivial⟩⟩⟩⟩⟩⟩ (pv 0) (ę (PE.wk (ů cM (by rfl) T.eU PyProof.Rows.boot_list (Ģ (Ă 2) Ķ)) fun _ _ _ h=>vZ cN h)))))
theorem Qe(T:Tx K mg a):į P w K mg base (ũ P w) 2 a.Kf a.Kg ["numbers"] (ŵ ⟨K,Ĩ a⟩ 1 jD):=by
 refine aG (cm:=Ĩ a) (mb:=uQ) T.Oh ZaR rfl rfl rfl fun cdv A outer s H E hr=>?_
 have hu:=hr.units
 exact(Č (ģ (ĭ (v_and (eV ak (Ş hu) (ā (PE.wk (Ĭ dU (by rfl) T.jJ PySem.boot_len (Ģ (Ă 0) Ķ)) fun _ _ _ h=>Ŷ eN h)) (ā ă) (ı _)) (v_and (PE.wk (Ĭ (jV rfl) (by rfl) T.sS PyProof.Rows.boot_all (Ģ (ā (ę (ű ["number"] [] 1 (ĉ qZ) rfl rfl (dF (ę (bK (Ă 0) nU (aH ă)))) (fun _ _ _ _ _=>(ħ (i:=0) (show(["number"]:List Str).Nodup by decide +kernel) rfl (Or.inl rfl) (hf:=Or.inr rfl))) (fun _ _ _ _ _=>Ś) (fun _ _ _ _ _=>(ę (ď (pL T) ċ (hr.mono (by decide)) rfl T.cR T.sO.kp T.zc aJ (Ć 0 (hr:=č))))) trivial))) Ķ)) fun _ _ _ h=>Ŷ jW h) (iz (ę (ď (Qa T) ċ (hr.mono (by decide)) rfl T.lA T.Od.kp T.Vi Ğ (ė (Ħ ē Ē (Ă 0) (ā ă) (fun _ _=>rfl)) č)))))))))
theorem Zbg(T:Tx K mg a):į P w K mg base (ũ P w) 3 a.Kh a.Kl ["numbers"] (ŵ ⟨K,Ĩ a⟩ 1 oU):=by
 refine aG (cm:=Ĩ a) (mb:=uR) T.Vl ZaS rfl rfl rfl fun cdv A outer s H E hr=>?_
 have hu:=hr.units
 exact(Č (ģ (ĭ (v_and (ę (ď (Qe T) ċ (hr.mono (by decide)) rfl T.jD T.Oh.kp T.Vk Ğ (Ć 0 (hr:=č)))) (iz (eV nT (iY hu) (ā (ę (bK (Ă 0) nU (aH ă)))) (ā (ę (bK (Ă 0) (aH ă) (aH ă)))) (ı _)))))))
theorem Ws(T:Tx K mg a):į P w K mg base (ũ P w) 3 a.Zad a.Zae ["numbers"] (ŵ ⟨K,Ĩ a⟩ 1 uT):=by
 refine aG (cm:=Ĩ a) (mb:=DR) T.Zay ZeN rfl rfl rfl fun cdv A outer s H E hr=>?_
 have hu:=hr.units
 exact(Č (ģ (ĭ (v_and (ę (ď (Qe T) ċ (hr.mono (by decide)) rfl T.jD T.Oh.kp T.Vk Ğ (Ć 0 (hr:=č)))) (v_and (eV iB g_ (ā (Ħ ē Ē (Ă 0) (ā ă) (fun _ _=>rfl))) (ā (Ħ ē Ē (Ă 0) (ā ă) (fun _ _=>rfl))) (ı _)) (iz (eV iB g_ (ā (Ħ ē Ē (Ă 0) (ā ă) (fun _ _=>rfl))) (ā (Ħ ē Ē (Ă 0) (ā ă) (fun _ _=>rfl))) (ı _))))))))
theorem ZeV(T:Tx K mg a):į P w K mg base (ũ P w) 2 a.Zaf a.Zag ["numbers"] (ŵ ⟨K,Ĩ a⟩ 1 Fx):=by
 refine aG (cm:=Ĩ a) (mb:=Js) T.Zeb ZeO rfl rfl rfl fun cdv A outer s H E hr=>?_
 have hu:=hr.units
 exact(Č (ģ (ĭ (v_and (ę (ď (pL T) ċ (hr.mono (by decide)) rfl T.cR T.sO.kp T.zc Ğ (ė (Ħ ē Ē (Ă 0) (ā ă) (fun _ _=>rfl)) č))) (v_and (ę (ď (pL T) ċ (hr.mono (by decide)) rfl T.cR T.sO.kp T.zc Ğ (ė (Ħ ē Ē (Ă 0) (ā ă) (fun _ _=>rfl)) č))) (iz (qI iG iG h_ h_ (ā ă) (ā (Ħ ē Ē (Ă 0) (ā ă) (fun _ _=>rfl))) (ā (Di (.int (1000000000)) (mR (v:=.int (1000000000)) rfl T.iU ⟨_,rfl⟩))))))))))
theorem Zbh(T:Tx K mg a):į P w K mg base (ũ P w) 3 a.Km a.Ko ["numbers"] (ŵ ⟨K,Ĩ a⟩ 1 oV):=by
 refine aG (cm:=Ĩ a) (mb:=uU) T.Vm ZaT rfl rfl rfl fun cdv A outer s H E hr=>?_
 have hu:=hr.units
 exact(@Č _ _ _ _ _ (@ģ _ _ _ _ _ _ (@ĭ _ _ _ _ _ (@v_and _ _ _ _ _ _ _ _ _ (@eV _ _ _ _ _ _ _ _ _ _ _ (@ak _) (@Ş _ hu) (@ā _ _ _ _ _ (@PE.wk _ _ _ _ (Ĭ dU (by rfl) T.jJ PySem.boot_len (@Ģ _ _ _ _ _ _ _ (@Ă _ _ _ 0 _ _ (by rfl) (by first|exact Or.inl rfl|exact Or.inr (Or.inl rfl)|exact Or.inr (Or.inr rfl)) (by decide) (by decide)) (@Ķ _ _ _) (by exact İ rfl))) (fun _ _ _ h=> @Ŷ _ _ _ _ _ _ (@eN _) _ _ _ h))) (@ā _ _ _ _ _ (@ă _ _ _ _ _ _)) (ı _)) (@iz _ _ _ _ _ _ _ (@PE.wk _ _ _ _ (Ĭ (@jV _ rfl) (by rfl) T.sS PyProof.Rows.boot_all (@Ģ _ _ _ _ _ _ _ (@ā _ _ _ _ _ (@ę _ _ _ _ _ (ű ["numbers","place"] [0] 1 (ĉ q_) rfl rfl (@dF _ _ _ _ _ _ (@ŋ _ _ _ _ _ _ _ (@ć _ _ _ _ _ _ _ (@ă _ _ _ _ _ _) (@ć _ _ _ _ _ _ _ (@ă _ _ _ _ _ _) (@ć _ _ _ _ _ _ _ (@ă _ _ _ _ _ _) (@Ĥ _ _ _) (by exact İ rfl)) (by exact İ rfl)) (by exact İ rfl)))) (fun _ _ _ _ _=>(@ħ _ _ _ 1 _ (show(["numbers","place"]:List Str).Nodup by decide +kernel) rfl (Or.inl rfl) (Or.inr rfl))) (fun _ _ _ _ _=>(@Ś _ _ _)) (fun _ _ _ _ _=>(@ę _ _ _ _ _ (@ď _ _ _ _ _ _ _ _ _ _ _ _ _ _ _ _ (ZeV T) ċ (hr.mono (by decide)) rfl T.Fx T.Zeb.kp T.Zl1 (@aJ _ _ _) (@ė _ _ _ _ _ _ _ (@ę _ _ _ _ _ (@bK _ _ _ _ _ _ _ _ _ _ _ (@Ă _ _ _ 0 _ _ (by rfl) (by first|exact Or.inl rfl|exact Or.inr (Or.inl rfl)|exact Or.inr (Or.inr rfl)) (by decide) (by decide)) (@aH _ _ _ _ _ (@v_var _ _ _ 1 _ _ (by rfl) (by first|exact Or.inl rfl|exact Or.inr (Or.inl rfl)|exact Or.inr (Or.inr rfl)) (by decide) (by decide))) (@aH _ _ _ _ _ (@ę _ _ _ _ _ (@ņ _ _ _ _ _ _ _ _ _ _ _ (@ĵ _) (@Ĵ _) (@Ă _ _ _ 1 _ _ (by rfl) (by first|exact Or.inl rfl|exact Or.inr (Or.inl rfl)|exact Or.inr (Or.inr rfl)) (by decide) (by decide)) (@ā _ _ _ _ _ (@ă _ _ _ _ _ _))))))) (@č _ _ _) (by exact İ rfl)) (by decide) (by exact İ rfl) (by rfl)))) ⟨rfl,⟨rfl,Or.inl rfl⟩,trivial⟩))) (@Ķ _ _ _) (by exact İ rfl))) (fun _ _ _ h=> @Ŷ _ _ _ _ _ _ (@jW _) _ _ _ h)))))))
theorem Zbi(T:Tx K mg a):į P w K mg base (ũ P w) 4 a.Kp a.Kq ["word","numbers"] (ŵ ⟨K,Ĩ a⟩ 2 cG):=by
 refine aG (cm:=Ĩ a) (mb:=gD) T.Vn ZaU rfl rfl rfl fun cdv A outer s H E hr=>?_
 have hu:=hr.units
 exact(Ċ (Ŧ (PW.pt (w_and (œ ak (Ş hu) (Ă 0) (ā Ŭ) (ı _)) (fZ (aR (ā (ę (ď (Zbf T) ċ (hr.mono (by decide)) rfl T.oM T.Vj.kp T.Zd9 Ğ (Ć 1 (hr:=č)))))))))
  (Č (ģ (ĭ (jY T.ZaI (Qc T) cA (hr.mono (by decide)) rfl T.ZaB T.Og Ğ (Ć 0 (hr:=(Ć 1 (hr:=č))))))))
  ľ)
  (Ċ (Ŧ (PW.pt (w_and (œ ak (Ş hu) (Ă 0) (ā Ŭ) (ı _)) (fZ (aR (ā (ę (ď (Zbg T) ċ (hr.mono (by decide)) rfl T.oU T.Vl.kp T.Zd_ Ğ (Ć 1 (hr:=č)))))))))
  (Č (ģ (ĭ (jY T.TX (FZ T) cA (hr.mono (by decide)) rfl T.TF T.Og Ğ (Ć 0 (hr:=(Ć 1 (hr:=č))))))))
  ľ)
  (Ċ (Ŧ (PW.pt (w_and (œ ak (Ş hu) (Ă 0) (ā Ŭ) (ı _)) (fZ (aR (ā (ę (ď (Ws T) ċ (hr.mono (by decide)) rfl T.uT T.Zay.kp T.Zea Ğ (Ć 1 (hr:=č)))))))))
  (Č (ģ (ĭ (jY T.ZaJ (Qd T) cA (hr.mono (by decide)) rfl T.ZaC T.Og Ğ (Ć 0 (hr:=(Ć 1 (hr:=č))))))))
  ľ)
  (Ċ (Ŧ (PW.pt (w_and (œ ak (Ş hu) (Ă 0) (ā Ŭ) (ı _)) (fZ (aR (ā (ę (ď (Zbh T) ċ (hr.mono (by decide)) rfl T.oV T.Vm.kp T.Zec Ğ (Ć 1 (hr:=č)))))))))
  (Č (ģ (ĭ (jY T.TY (Ga T) cA (hr.mono (by decide)) rfl T.TJ T.Og Ğ (Ć 0 (hr:=(Ć 1 (hr:=č))))))))
  ľ)
  (Ċ (Ŧ (PW.pt (w_and (œ ak (Ş hu) (Ă 0) (ā Ŭ) (ı _)) (fZ (aR (ā (ę (ď (Ws T) ċ (hr.mono (by decide)) rfl T.uT T.Zay.kp T.Zea Ğ (Ć 1 (hr:=č)))))))))
  (Č (ģ (ĭ (jY T.T_ (Gb T) cA (hr.mono (by decide)) rfl T.TQ T.Og Ğ (Ć 0 (hr:=(Ć 1 (hr:=č))))))))
  ľ)
  (Č (wM (C:= "BadThing") rfl rfl mY rfl T.Ce T.Ci)))))))
theorem Zbj(T:Tx K mg a):į P w K mg base (ũ P w) 1 a.Kr a.Ks ["points"] (ŵ ⟨K,Ĩ a⟩ 1 rN):=by
 refine aG (cm:=Ĩ a) (mb:=Az) T.Vo Cj rfl rfl rfl fun cdv A outer s H E hr=>?_
 have hu:=hr.units
 exact(Ċ (je (i:=1) Cj.nd rfl rfl ["point"] [] 1 (ĉ oJ) rfl rfl (aq 0) (fun _ _ _ _ _=>(ħ (i:=0) (show(["point"]:List Str).Nodup by decide +kernel) rfl (Or.inl rfl) (hf:=Or.inr rfl))) (fun _ _ _ _ _=>Ś) (fun _ _ _ _ _=>(Ħ ē Ē (Ă 0) (ā ă) (fun _ _=>rfl))) trivial)
  (Ċ (je (i:=2) Cj.nd rfl rfl ["point"] [] 1 (ĉ oJ) rfl rfl (aq 0) (fun _ _ _ _ _=>(ħ (i:=0) (show(["point"]:List Str).Nodup by decide +kernel) rfl (Or.inl rfl) (hf:=Or.inr rfl))) (fun _ _ _ _ _=>Ś) (fun _ _ _ _ _=>(Ħ ē Ē (Ă 0) (ā ă) (fun _ _=>rfl))) trivial)
  (Č (ģ (ŭ (ć (ŋ (ć ă (ć ă (ć (PE.wk (Ĭ (Ak rfl) (by rfl) T.D_ PyProof.Rows.boot_max (Ģ (Ă 1) Ķ)) fun _ _ _ h=>Ŷ Am h) Ĥ)))) (ć (ŋ (ć (vX gw fU (ā ă)) (ć ă (ć (vX gw fU (ā (PE.wk (Ĭ (IV rfl) (by rfl) T.zj PyProof.Rows.boot_min (Ģ (Ă 1) Ķ)) fun _ _ _ h=>Ŷ I_ h))) Ĥ)))) (ć (ŋ (ć ă (ć ă (ć (PE.wk (Ĭ (Ak rfl) (by rfl) T.D_ PyProof.Rows.boot_max (Ģ (Ă 2) Ķ)) fun _ _ _ h=>Ŷ Am h) Ĥ)))) (ć (ŋ (ć ă (ć (vX gw fU (ā ă)) (ć (vX gw fU (ā (PE.wk (Ĭ (IV rfl) (by rfl) T.zj PyProof.Rows.boot_min (Ģ (Ă 2) Ķ)) fun _ _ _ h=>Ŷ I_ h))) Ĥ)))) Ĥ)))))))))
theorem Zbk(T:Tx K mg a):į P w K mg base (ũ P w) 1 a.Ku a.Kv ["points"] (ŵ ⟨K,Ĩ a⟩ 1 rP):=by
 refine aG (cm:=Ĩ a) (mb:=A_) T.Vp Ck rfl rfl rfl fun cdv A outer s H E hr=>?_
 have hu:=hr.units
 exact(Ċ (ĩ (i:=1) Ck.nd rfl (Or.inl rfl) (ŭ Ĥ))
  (Ċ (aU PassesOwn.leaving rfl (aq 0) (ħ (i:=2) Ck.nd rfl (Or.inl rfl))
  (Č (Ŧ (œ Z_ (Fq hu) (Ă 2) (Ă 1) (by with_unfolding_all rfl))
  (Č (PS.wk (bW (k_ PySem.F.plainAttrs_list PySem.F.slot_list_append PySem.F.type_list_append aK (pv 1) (ć (v_var 2) Ĥ))) fun _ _ _ h=>gP h))
  ľ)))
  (Č (ģ (iu 1)))))
theorem Zbl(T:Tx K mg a):į P w K mg base (ũ P w) 1 a.Kw a.Ky ["one","other"] (ŵ ⟨K,Ĩ a⟩ 2 rQ):=by
 refine aG (cm:=Ĩ a) (mb:=Ba) T.Vq Cm rfl rfl rfl fun cdv A outer s H E hr=>?_
 have hu:=hr.units
 exact(Ċ (ĩ (i:=2) Cm.nd rfl (Or.inl rfl) (ĭ (Đ ŕ Œ (ā (Ħ ē Ē (Ă 1) (ā ă) (fun _ _=>rfl))) (ā (Ħ ē Ē (Ă 0) (ā ă) (fun _ _=>rfl))))))
  (Ċ (ĩ (i:=3) Cm.nd rfl (Or.inl rfl) (ĭ (Đ ŕ Œ (ā (Ħ ē Ē (Ă 0) (ā ă) (fun _ _=>rfl))) (ā (Ħ ē Ē (Ă 1) (ā ă) (fun _ _=>rfl))))))
  (Č (ģ (ĭ (ŋ (ć (v_var 2) (ć (v_var 3) (ć (ę (ņ ĵ Ĵ (ā (Đ Ľ Ī (Ă 2) (ā (Ħ ē Ē (Ă 0) (ā ă) (fun _ _=>rfl))))) (ā (Đ Ľ Ī (Ă 3) (ā (Ħ ē Ē (Ă 0) (ā ă) (fun _ _=>rfl))))))) Ĥ)))))))))
theorem Qf(T:Tx K mg a):į P w K mg base (ũ P w) 1 a.Kz a.KC ["line","pair"] (ŵ ⟨K,Ĩ a⟩ 2 iK):=by
 refine aG (cm:=Ĩ a) (mb:=Bb) T.Oi ZaV rfl rfl rfl fun cdv A outer s H E hr=>?_
 have hu:=hr.units
 exact(Č (ģ (ĭ (eV iG h_ (ā (ę (ņ ĵ Ĵ (ā (Đ Ľ Ī (ā (Ħ ē Ē (Ă 0) (ā ă) (fun _ _=>rfl))) (ā (Ħ ē Ē (Ă 1) (ā ă) (fun _ _=>rfl))))) (ā (Đ Ľ Ī (ā (Ħ ē Ē (Ă 0) (ā ă) (fun _ _=>rfl))) (ā (Ħ ē Ē (Ă 1) (ā ă) (fun _ _=>rfl)))))))) (ā (Ħ ē Ē (Ă 0) (ā ă) (fun _ _=>rfl))) (ı _)))))
theorem Zbm(T:Tx K mg a):į P w K mg base (ũ P w) 2 a.KD a.KH ["points"] (ŵ ⟨K,Ĩ a⟩ 1 rT):=by
 refine aG (cm:=Ĩ a) (mb:=Bc) T.Vs kW rfl rfl rfl fun cdv A outer s H E hr=>?_
 have hu:=hr.units
 exact(Ċ (ĩ (i:=1) kW.nd rfl (Or.inl rfl) (ŭ Ĥ))
  (Ċ (ĩ (i:=2) kW.nd rfl (Or.inl rfl) (ď (Zbk T) ċ (hr.mono (by decide)) rfl T.rP T.Vp.kp T.Zef Ğ (Ć 0 (hr:=č))))
  (Ċ (aU PassesOwn.leaving rfl (aq 2) (ħ (i:=3) kW.nd rfl (Or.inl rfl))
  (Č (aU PassesOwn.leaving rfl (aq 2) (ħ (i:=4) kW.nd rfl (Or.inl rfl))
  (Ċ (ĩ (i:=5) kW.nd rfl (by first|exact Or.inl rfl|exact Or.inr rfl) (ď (Zbl T) ċ (hr.mono (by decide)) rfl T.rQ T.Vq.kp T.Zeg Ğ (Ć 3 (hr:=(Ć 4 (hr:=č))))))
  (Č (Ŧ (PW.pt (w_and (œ nT (iY hu) (Ă 3) (Ă 4) (ı _)) (fZ (aR (ā (PE.wk (Ĭ (jV rfl) (by rfl) T.sS PyProof.Rows.boot_all (Ģ (ā (ę (ű ["line","point"] [5] 1 (ĉ rm) rfl rfl (aq 2) (fun _ _ _ _ _=>(ħ (i:=1) (show(["line","point"]:List Str).Nodup by decide +kernel) rfl (Or.inl rfl) (hf:=Or.inr rfl))) (fun _ _ _ _ _=>Ś) (fun _ _ _ _ _=>(ę (ď (Qf T) ċ (hr.mono (by decide)) rfl T.iK T.Oi.kp T.Vr aJ (Ć 0 (hr:=(Ć 1 (hr:=č))))))) ⟨rfl,⟨rfl,Or.inl rfl⟩,trivial⟩))) Ķ)) fun _ _ _ h=>Ŷ jW h))))))
  (Č (PS.wk (bW (k_ PySem.F.plainAttrs_list PySem.F.slot_list_append PySem.F.type_list_append aK (pv 1) (ć (v_var 5) Ĥ))) fun _ _ _ h=>gP h))
  ľ))))))
  (Č (ģ (iu 1))))))
theorem Qg(T:Tx K mg a):į P w K mg base (ũ P w) 3 a.KJ a.KN ["points"] (ŵ ⟨K,Ĩ a⟩ 1 lB):=by
 refine aG (cm:=Ĩ a) (mb:=Bd) T.Oj ZaW rfl rfl rfl fun cdv A outer s H E hr=>?_
 have hu:=hr.units
 exact(Č (ģ (ņ ĵ Ĵ (ā (ę (ď (Zbj T) ċ (hr.mono (by decide)) rfl T.rN T.Vo.kp T.Zee Ğ (Ć 0 (hr:=č))))) (ā (ę (ď (Zbm T) ċ (hr.mono (by decide)) rfl T.rT T.Vs.kp T.Zeh Ğ (Ć 0 (hr:=č))))))))
theorem Qh(T:Tx K mg a):į P w K mg base (ũ P w) 1 a.KQ a.KR ["point","ray"] (ŵ ⟨K,Ĩ a⟩ 2 iM):=by
 refine aG (cm:=Ĩ a) (mb:=Bf) T.Ol ZaX rfl rfl rfl fun cdv A outer s H E hr=>?_
 have hu:=hr.units
 exact(Č (ģ (ĭ (ŋ (ć (ę (ņ ĵ Ĵ (ā (Đ Ľ Ī (ā (Ħ ē Ē (Ă 1) (ā ă) (fun _ _=>rfl))) (ā (Ħ ē Ē (Ă 0) (ā ă) (fun _ _=>rfl))))) (ā (Đ Ľ Ī (ā (Ħ ē Ē (Ă 1) (ā ă) (fun _ _=>rfl))) (ā (Ħ ē Ē (Ă 0) (ā ă) (fun _ _=>rfl))))))) (ć (ę (ņ ĵ Ĵ (ā (Đ Ľ Ī (ā (Ħ ē Ē (Ă 1) (ā ă) (fun _ _=>rfl))) (ā (Ħ ē Ē (Ă 0) (ā ă) (fun _ _=>rfl))))) (ā (Đ Ľ Ī (ā (Ħ ē Ē (Ă 1) (ā ă) (fun _ _=>rfl))) (ā (Ħ ē Ē (Ă 0) (ā ă) (fun _ _=>rfl))))))) Ĥ))))))
theorem Cv(T:Tx K mg a):į P w K mg base (ũ P w) 1 a.KY a.KZ ["x","y","u","v","z"] (ŵ ⟨K,Ĩ a⟩ 5 iQ):=by
 refine aG (cm:=Ĩ a) (mb:=Bg) T.DW ZaY rfl rfl rfl fun cdv A outer s H E hr=>?_
 have hu:=hr.units
 exact(Č (ģ (ŭ (ć (ŋ (ć (v_var 0) (ć (v_var 1) (ć (v_var 4) Ĥ)))) (ć (ŋ (ć (v_var 2) (ć (v_var 1) (ć (v_var 4) Ĥ)))) (ć (ŋ (ć (v_var 2) (ć (v_var 3) (ć (v_var 4) Ĥ)))) (ć (ŋ (ć (v_var 0) (ć (v_var 3) (ć (v_var 4) Ĥ)))) Ĥ)))))))
theorem Wt(T:Tx K mg a):į P w K mg base (ũ P w) 2 a.Zah a.Zai ["x","y","u","v","h"] (ŵ ⟨K,Ĩ a⟩ 5 yW):=by
 refine aG (cm:=Ĩ a) (mb:=Jt) T.Zaz ZeP rfl rfl rfl fun cdv A outer s H E hr=>?_
 have hu:=hr.units
 exact(Č (ģ (ņ ĵ Ĵ (ā (ę (ď (Cv T) ċ (hr.mono (by decide)) rfl T.iQ T.DW.kp T.Om Ğ (Ć 0 (hr:=(Ć 1 (hr:=(Ć 2 (hr:=(Ć 3 (hr:=(ė ă č)))))))))))) (ā (ę (ď (Cv T) ċ (hr.mono (by decide)) rfl T.iQ T.DW.kp T.Om Ğ (Ć 0 (hr:=(Ć 1 (hr:=(Ć 2 (hr:=(Ć 3 (hr:=(Ć 4 (hr:=č))))))))))))))))
theorem Zbn(T:Tx K mg a):į P w K mg base (ũ P w) 3 a.K_ a.La ["self"] (ŵ ⟨K,Ĩ a⟩ 1 lE):=by
 refine aG (cm:=Ĩ a) (mb:=Bh) T.Zej Cp rfl rfl rfl fun cdv A outer s H E hr=>?_
 have hu:=hr.units
 exact(Ċ (ĩ (i:=1) Cp.nd rfl (Or.inl rfl) (ĭ (Đ Ľ Ī (ā ă) (ā (Ħ ē Ē (ā (aW ["Thing","Post","Fence","Sail","Cloth","House"] ⟨⟨T.Ţ,T.ķ⟩,⟨⟨T.Ų,T.Ŀ⟩,⟨⟨T.ś,T.ĸ⟩,⟨⟨T.ų,T.ŀ⟩,⟨⟨T.Ŝ,T.Ĺ⟩,⟨⟨T.ŝ,T.ĺ⟩,trivial⟩⟩⟩⟩⟩⟩ (Ă 0))) (ā ă) (fun _ _=>rfl))))))
  (Ċ (ĩ (i:=2) Cp.nd rfl (Or.inl rfl) (ĭ (Đ Ľ Ī (ā ă) (ā (Ħ ē Ē (ā (aW ["Thing","Post","Fence","Sail","Cloth","House"] ⟨⟨T.Ţ,T.ķ⟩,⟨⟨T.Ų,T.Ŀ⟩,⟨⟨T.ś,T.ĸ⟩,⟨⟨T.ų,T.ŀ⟩,⟨⟨T.Ŝ,T.Ĺ⟩,⟨⟨T.ŝ,T.ĺ⟩,trivial⟩⟩⟩⟩⟩⟩ (Ă 0))) (ā ă) (fun _ _=>rfl))))))
  (Č (ģ (ď (Wt T) ċ (hr.mono (by decide)) rfl T.yW T.Zaz.kp T.Zei Ğ (ė (Đ ŕ Œ (Ă 1) (ā ă)) (ė (Đ ŕ Œ (Ă 2) (ā ă)) (ė (ę (ņ ĵ Ĵ (Ă 1) (ā ă))) (ė (ę (ņ ĵ Ĵ (Ă 2) (ā ă))) (ė (Ħ ē Ē (ā (aW ["Thing","Post","Fence","Sail","Cloth","House"] ⟨⟨T.Ţ,T.ķ⟩,⟨⟨T.Ų,T.Ŀ⟩,⟨⟨T.ś,T.ĸ⟩,⟨⟨T.ų,T.ŀ⟩,⟨⟨T.Ŝ,T.Ĺ⟩,⟨⟨T.ŝ,T.ĺ⟩,trivial⟩⟩⟩⟩⟩⟩ (Ă 0))) (ā ă) (fun _ _=>rfl)) č))))))))))
theorem ZeW(T:Tx K mg a):į P w K mg base (ũ P w) 1 a.Zaj a.Zak ["self"] (ŵ ⟨K,Ĩ a⟩ 1 yX):=by
 refine aG (cm:=Ĩ a) (mb:=Ju) T.Zl2 Eb rfl rfl rfl fun cdv A outer s H E hr=>?_
 have hu:=hr.units
 exact(Ċ (ĩ (i:=1) Eb.nd rfl (Or.inl rfl) (ĭ (aW ["Thing","Post","Fence","Sail","Cloth","House"] ⟨⟨T.Ţ,T.ķ⟩,⟨⟨T.Ų,T.Ŀ⟩,⟨⟨T.ś,T.ĸ⟩,⟨⟨T.ų,T.ŀ⟩,⟨⟨T.Ŝ,T.Ĺ⟩,⟨⟨T.ŝ,T.ĺ⟩,trivial⟩⟩⟩⟩⟩⟩ (Ă 0))))
  (Ċ (ĩ (i:=2) Eb.nd rfl (Or.inl rfl) (ĭ (ŋ (ć (Ħ ē Ē (Ă 1) (ā ă) (fun _ _=>rfl)) (ć (Ħ ē Ē (Ă 1) (ā ă) (fun _ _=>rfl)) Ĥ)))))
  (Ċ (ĩ (i:=3) Eb.nd rfl (Or.inl rfl) (ĭ (ŋ (ć (Ħ ē Ē (Ă 1) (ā ă) (fun _ _=>rfl)) (ć (Ħ ē Ē (Ă 1) (ā ă) (fun _ _=>rfl)) Ĥ)))))
  (Č (ģ (ŭ (ć (ę (ņ ĵ Ĵ (Ă 2) (ā (ŋ (ć ă Ĥ))))) (ć (ę (ņ ĵ Ĵ (Ă 3) (ā (ŋ (ć ă Ĥ))))) (ć (ę (ņ ĵ Ĵ (Ă 3) (ā (ŋ (ć (Ħ ē Ē (Ă 1) (ā ă) (fun _ _=>rfl)) Ĥ))))) (ć (ę (ņ ĵ Ĵ (Ă 2) (ā (ŋ (ć (Ħ ē Ē (Ă 1) (ā ă) (fun _ _=>rfl)) Ĥ))))) Ĥ))))))))))
theorem Zbo(T:Tx K mg a):į P w K mg base (ũ P w) 2 a.Lb a.Ld ["self"] (ŵ ⟨K,Ĩ a⟩ 1 lF):=by
 refine aG (cm:=Ĩ a) (mb:=Bj) T.Zel Pq rfl rfl rfl fun cdv A outer s H E hr=>?_
 have hu:=hr.units
 exact(Ċ (ĩ (i:=1) Pq.nd rfl (Or.inl rfl) (ĭ (aW ["Thing","Post","Fence","Sail","Cloth","House"] ⟨⟨T.Ţ,T.ķ⟩,⟨⟨T.Ų,T.Ŀ⟩,⟨⟨T.ś,T.ĸ⟩,⟨⟨T.ų,T.ŀ⟩,⟨⟨T.Ŝ,T.Ĺ⟩,⟨⟨T.ŝ,T.ĺ⟩,trivial⟩⟩⟩⟩⟩⟩ (Ă 0))))
  (Č (ģ (ď (Cv T) ċ (hr.mono (by decide)) rfl T.iQ T.DW.kp T.Om Ğ (ė (Ħ ē Ē (Ă 1) (ā ă) (fun _ _=>rfl)) (ė (Ħ ē Ē (Ă 1) (ā ă) (fun _ _=>rfl)) (ė (Ħ ē Ē (Ă 1) (ā ă) (fun _ _=>rfl)) (ė (Ħ ē Ē (Ă 1) (ā ă) (fun _ _=>rfl)) (ė (Ħ ē Ē (Ă 1) (ā ă) (fun _ _=>rfl)) č)))))))))
theorem Zbp(T:Tx K mg a):į P w K mg base (ũ P w) 1 a.Le a.Lf ["self"] (ŵ ⟨K,Ĩ a⟩ 1 lG):=by
 refine aG (cm:=Ĩ a) (mb:=Bk) T.Zen ZaZ rfl rfl rfl fun cdv A outer s H E hr=>?_
 have hu:=hr.units
 exact(@Č _ _ _ _ _ (@ģ _ _ _ _ _ _ (ű ["self","place"] [0] 1 (ĉ rz) rfl rfl (@dF _ _ _ _ _ _ (@ŋ _ _ _ _ _ _ _ (@ć _ _ _ _ _ _ _ (@ă _ _ _ _ _ _) (@ć _ _ _ _ _ _ _ (@ă _ _ _ _ _ _) (@ć _ _ _ _ _ _ _ (@ă _ _ _ _ _ _) (@Ĥ _ _ _) (by exact İ rfl)) (by exact İ rfl)) (by exact İ rfl)))) (fun _ _ _ _ _=>(@ħ _ _ _ 1 _ (show(["self","place"]:List Str).Nodup by decide +kernel) rfl (Or.inl rfl) (Or.inr rfl))) (fun _ _ _ _ _=>(@Ś _ _ _)) (fun _ _ _ _ _=>(@PE.wk _ _ _ _ (ů HX (by rfl) T.Ea PyProof.Rows.boot_tuple (@Ģ _ _ _ _ _ _ _ (@ā _ _ _ _ _ (@ę _ _ _ _ _ (@bK _ _ _ _ _ _ _ _ _ _ _ (@ā _ _ _ _ _ (@aW _ _ _ _ _ _ _ ["Thing","Post","Fence","Sail","Cloth","House"] ⟨⟨T.Ţ,T.ķ⟩,⟨⟨T.Ų,T.Ŀ⟩,⟨⟨T.ś,T.ĸ⟩,⟨⟨T.ų,T.ŀ⟩,⟨⟨T.Ŝ,T.Ĺ⟩,⟨⟨T.ŝ,T.ĺ⟩,trivial⟩⟩⟩⟩⟩⟩ (@Ă _ _ _ 0 _ _ (by rfl) (by first|exact Or.inl rfl|exact Or.inr (Or.inl rfl)|exact Or.inr (Or.inr rfl)) (by decide) (by decide)) (by rfl))) (@aH _ _ _ _ _ (@v_var _ _ _ 1 _ _ (by rfl) (by first|exact Or.inl rfl|exact Or.inr (Or.inl rfl)|exact Or.inr (Or.inr rfl)) (by decide) (by decide))) (@aH _ _ _ _ _ (@ę _ _ _ _ _ (@ņ _ _ _ _ _ _ _ _ _ _ _ (@ĵ _) (@Ĵ _) (@Ă _ _ _ 1 _ _ (by rfl) (by first|exact Or.inl rfl|exact Or.inr (Or.inl rfl)|exact Or.inr (Or.inr rfl)) (by decide) (by decide)) (@ā _ _ _ _ _ (@ă _ _ _ _ _ _)))))))) (@Ķ _ _ _) (by exact İ rfl))) (fun _ _ _ h=> @Ŷ _ _ _ _ _ _ (@HY _) _ _ _ h))) ⟨rfl,⟨rfl,Or.inl rfl⟩,trivial⟩)))
theorem Zbq(T:Tx K mg a):į P w K mg base (ũ P w) 3 a.Lg a.Li ["self"] (ŵ ⟨K,Ĩ a⟩ 1 lH):=by
 refine aG (cm:=Ĩ a) (mb:=Bl) T.Zep Pr rfl rfl rfl fun cdv A outer s H E hr=>?_
 have hu:=hr.units
 exact(Ċ (ĩ (i:=1) Pr.nd rfl (Or.inl rfl) (ĭ (aW ["Thing","Post","Fence","Sail","Cloth","House"] ⟨⟨T.Ţ,T.ķ⟩,⟨⟨T.Ų,T.Ŀ⟩,⟨⟨T.ś,T.ĸ⟩,⟨⟨T.ų,T.ŀ⟩,⟨⟨T.Ŝ,T.Ĺ⟩,⟨⟨T.ŝ,T.ĺ⟩,trivial⟩⟩⟩⟩⟩⟩ (Ă 0))))
  (Č (ģ (ď (Wt T) ċ (hr.mono (by decide)) rfl T.yW T.Zaz.kp T.Zei Ğ (ė (Ħ ē Ē (Ă 1) (ā ă) (fun _ _=>rfl)) (ė (Ħ ē Ē (Ă 1) (ā ă) (fun _ _=>rfl)) (ė (Ħ ē Ē (Ă 1) (ā ă) (fun _ _=>rfl)) (ė (Ħ ē Ē (Ă 1) (ā ă) (fun _ _=>rfl)) (ė (Ħ ē Ē (Ă 1) (ā ă) (fun _ _=>rfl)) č)))))))))
theorem Qi(T:Tx K mg a):į P w K mg base (ũ P w) 4 a.Lj a.Lk ["thing","ray"] (ŵ ⟨K,Ĩ a⟩ 2 jE):=by
 refine aG (cm:=Ĩ a) (mb:=Bm) T.Oo Za0 rfl rfl rfl fun cdv A outer s H E hr=>?_
 have hu:=hr.units
 exact(Č (ģ (ű ["ray","corner"] [1] 1 (ĉ rC) rfl rfl (Jh (dF (ę (Ss (Qx:= "corners") (k:=3) (n:=1) (pN:=[("Post",lE),("Fence",yX),("Sail",lF),("Cloth",lG),("House",lH)]) ⟨⟨T.Ų,_,_,_,T.pG,(Zbn T).mono (by decide),T.Zek,ċ⟩,⟨⟨T.ś,_,_,_,T.mL,(ZeW T).mono (by decide),T.Zl3,ċ⟩,⟨⟨T.ų,_,_,_,T.pH,(Zbo T).mono (by decide),T.Zem,ċ⟩,⟨⟨T.Ŝ,_,_,_,T.mO,(Zbp T).mono (by decide),T.Zeo,ċ⟩,⟨⟨T.ŝ,_,_,_,T.mQ,(Zbq T).mono (by decide),T.Zeq,ċ⟩,trivial⟩⟩⟩⟩⟩ (hr.mono (by decide)) aJ (v_var 0))))) (fun _ _ _ _ _=>(ħ (i:=1) (show(["ray","corner"]:List Str).Nodup by decide +kernel) rfl (Or.inl rfl) (hf:=Or.inr rfl))) (fun _ _ _ _ _=>Ś) (fun _ _ _ _ _=>(ę (ď (Qh T) ċ (hr.mono (by decide)) rfl T.iM T.Ol.kp T.Vu aJ (Ć 1 (hr:=(Ć 0 (hr:=č))))))) ⟨rfl,⟨rfl,Or.inl rfl⟩,trivial⟩)))
theorem Qj(T:Tx K mg a):į P w K mg base (ũ P w) 1 a.Lp a.Lq ["first","last"] (ŵ ⟨K,Ĩ a⟩ 2 jF):=by
 refine aG (cm:=Ĩ a) (mb:=uW) T.Oq Za1 rfl rfl rfl fun cdv A outer s H E hr=>?_
 have hu:=hr.units
 exact(Ċ (Ŧ (œ iB g_ (Ă 1) (Ă 0) (ı _))
  (Č (ģ (ĭ ă)))
  ľ)
  (Č (ģ (ĭ (Đ ŕ Œ (ā (Đ Ab Ac (ā ă) (ā (ę (ņ ĵ Ĵ (Ă 1) (ā ă)))))) (ā (Đ Ab Ac (ā ă) (Ă 0))))))))
theorem Zbr(T:Tx K mg a):į P w K mg base (ũ P w) 2 a.Lr a.Ls ["lines","unit","q","width"] (ŵ ⟨K,Ĩ a⟩ 4 oW):=by
 refine aG (cm:=Ĩ a) (mb:=uX) T.Vx cW rfl rfl rfl fun cdv A outer s H E hr=>?_
 have hu:=hr.units
 exact(Ċ (ĩ (i:=4) cW.nd rfl (Or.inl rfl) (ĭ ă))
  (Ċ (ĩ (i:=5) cW.nd rfl (Or.inl rfl) (ĭ (Đ ŕ Œ (Ă 3) (ā ă))))
  (Ċ (aU PassesOwn.leaving rfl (aq 0) (nH rfl (ő (ħ (i:=6) cW.nd rfl (Or.inl rfl)) (ő (ħ (i:=7) cW.nd rfl (Or.inl rfl)) (ő (ħ (i:=8) cW.nd rfl (Or.inl rfl)) dZ))))
  (Ċ (ĩ (i:=9) cW.nd rfl (Or.inl rfl) (ĭ (Đ Ľ Ī (Ă 6) (Ă 1))))
  (Ċ (ĩ (i:=10) cW.nd rfl (Or.inl rfl) (ĭ (Đ ŕ Œ (Ă 8) (ā (Đ Ľ Ī (ā (Đ Ľ Ī (Ă 7) (Ă 1))) (Ă 2))))))
  (Č (Ŧ (œ Uy Ul (Ă 9) (ā ă) (ı _))
  (Č (ĩ (i:=5) cW.nd rfl (Or.inl rfl) (ĭ (PE.wk (Ĭ (tK rfl) (by rfl) T.zj PyProof.Rows.boot_min (Ģ (Ă 5) (Ģ (ā (Đ Ź š (Ă 10) (Ă 9))) Ķ))) fun _ _ _ h=>Ŷ uc h))))
  (Č (Ŧ (œ iB g_ (Ă 9) (ā ă) (ı _))
  (Č (ĩ (i:=4) cW.nd rfl (Or.inl rfl) (ĭ (PE.wk (Ĭ (Rk rfl) (by rfl) T.D_ PyProof.Rows.boot_max (Ģ (Ă 4) (Ģ (ā (vX gw fU (ā (Đ Ź š (Ă 10) (ā (vX gw fU (Ă 9))))))) Ķ))) fun _ _ _ h=>Ŷ Sh h))))
  (Č (Ŧ (œ iB g_ (Ă 10) (ā ă) (ı _))
  (Č (ģ (ĭ ă)))
  ľ)))))))))
  (Č (ģ (ď (Qj T) ċ (hr.mono (by decide)) rfl T.jF T.Oq.kp T.Vw Ğ (Ć 4 (hr:=(Ć 5 (hr:=č))))))))))
theorem Zbs(T:Tx K mg a):į P w K mg base (ũ P w) 5 a.Lw a.Lx ["yard","thing","ray"] (ŵ ⟨K,Ĩ a⟩ 3 lJ):=by
 refine aG (cm:=Ĩ a) (mb:=Bo) T.Vy pI rfl rfl rfl fun cdv A outer s H E hr=>?_
 have hu:=hr.units
 exact(Ċ (ĩ (i:=3) pI.nd rfl (Or.inl rfl) (ď (Qg T) ċ (hr.mono (by decide)) rfl T.lB T.Oj.kp T.Vt Ğ (ė (ę (ď (Qi T) ċ (hr.mono (by decide)) rfl T.jE T.Oo.kp T.Vv Ğ (Ć 1 (hr:=(Ć 2 (hr:=č)))))) č)))
  (Ċ (ĩ (i:=4) pI.nd rfl (Or.inl rfl) (ĭ ă))
  (Ċ (aU PassesOwn.leaving rfl (Ũ rfl T.ž (ć (aW ["Yard"] ⟨⟨T.aB,T.bL⟩,trivial⟩ (Ă 0)) Ĥ)) (ħ (i:=5) pI.nd rfl (Or.inl rfl))
  (Č (Jd (i:=4) pI.nd rfl (Or.inl rfl) (Đ Ab Ac (ā (ę (ď (Zbr T) ċ (hr.mono (by decide)) rfl T.oW T.Vx.kp T.Zer Ğ (Ć 3 (hr:=(ė (Đ Ľ Ī (ā ă) (ā (Ħ ē Ē (Ă 2) (ā ă) (fun _ _=>rfl)))) (Ć 5 (hr:=(ė (aW ["Yard"] ⟨⟨T.aB,T.aY⟩,trivial⟩ (Ă 0)) č))))))))) (ā (Đ Ľ Ī (Ă 5) (ā (aW ["Yard"] ⟨⟨T.aB,T.aY⟩,trivial⟩ (Ă 0)))))))))
  (Č (ģ (iu 4))))))
theorem ZeX(T:Tx K mg a):į P w K mg base (ũ P w) 6 a.Zal a.Zam ["yard","ray"] (ŵ ⟨K,Ĩ a⟩ 2 Fy):=by
 refine aG (cm:=Ĩ a) (mb:=Jv) T.Zet ZeQ rfl rfl rfl fun cdv A outer s H E hr=>?_
 have hu:=hr.units
 exact(Č (ģ (ű ["yard","ray","thing"] [0,1] 1 (ĉ Fw) rfl rfl (dF (aW ["Yard"] ⟨⟨T.aB,T.cV⟩,trivial⟩ (Ă 0))) (fun _ _ _ _ _=>(ħ (i:=2) (show(["yard","ray","thing"]:List Str).Nodup by decide +kernel) rfl (Or.inl rfl) (hf:=Or.inr rfl))) (fun _ _ _ _ _=>Ś) (fun _ _ _ _ _=>(ę (ď (Zbs T) ċ (hr.mono (by decide)) rfl T.lJ T.Vy.kp T.Zes aJ (Ć 0 (hr:=(Ć 2 (hr:=(Ć 1 (hr:=č))))))))) ⟨rfl,⟨rfl,Or.inl rfl⟩,⟨rfl,⟨rfl,Or.inl rfl⟩,trivial⟩⟩)))
theorem Zbt(T:Tx K mg a):į P w K mg base (ũ P w) 7 a.Ly a.Lz ["yard","turn"] (ŵ ⟨K,Ĩ a⟩ 2 fB):=by
 refine aG (cm:=Ĩ a) (mb:=uZ) T.Vz vJ rfl rfl rfl fun cdv A outer s H E hr=>?_
 have hu:=hr.units
 exact(Ċ (Ŧ (œ qK jO (Ă 1) (ā fY) (ı _))
  (Č (ģ (ď (Qj T) ċ (hr.mono (by decide)) rfl T.jF T.Oq.kp T.Vw Ğ (ė ă (ė (Đ ŕ Œ (ā (Đ Ľ Ī (ā (aW ["Yard"] ⟨⟨T.aB,T.aY⟩,trivial⟩ (Ă 0))) (ā (aW ["Yard"] ⟨⟨T.aB,T.bL⟩,trivial⟩ (Ă 0))))) (ā ă)) č)))))
  ľ)
  (Ċ (ĩ (i:=2) vJ.nd rfl (Or.inl rfl) (ĭ ă))
  (Ċ (aU PassesOwn.leaving rfl (dF (ę (ď (ZeX T) ċ (hr.mono (by decide)) rfl T.Fy T.Zet.kp T.Zl4 Ğ (Ć 0 (hr:=(Ć 1 (hr:=č))))))) (ħ (i:=3) vJ.nd rfl (Or.inl rfl))
  (Č (Jd (i:=2) vJ.nd rfl (Or.inl rfl) (v_var 3))))
  (Č (ģ (iu 2))))))
theorem Zbu(T:Tx K mg a):į P w K mg base (ũ P w) 1 a.LC a.LQ ["yard","stone"] (ŵ ⟨K,Ĩ a⟩ 2 rW):=by
 refine aG (cm:=Ĩ a) (mb:=Bq) T.VB Za2 rfl rfl rfl fun cdv A outer s H E hr=>?_
 have hu:=hr.units
 exact(Č (ģ (ĭ (v_and (qI iG iB h_ g_ (ā ă) (ā (Ħ ē Ē (Ă 1) (ā ă) (fun _ _=>rfl))) (ā (aW ["Yard"] ⟨⟨T.aB,T.aY⟩,trivial⟩ (Ă 0)))) (iz (qI iG iB h_ g_ (ā ă) (ā (Ħ ē Ē (Ă 1) (ā ă) (fun _ _=>rfl))) (ā (aW ["Yard"] ⟨⟨T.aB,T.bL⟩,trivial⟩ (Ă 0)))))))))
theorem Qk(T:Tx K mg a):į P w K mg base (ũ P w) 3 a.LR a.L_ ["yard","stone"] (ŵ ⟨K,Ĩ a⟩ 2 lK):=by
 refine aG (cm:=Ĩ a) (mb:=Br) T.Ot Za3 rfl rfl rfl fun cdv A outer s H E hr=>?_
 have hu:=hr.units
 exact(Č (Ŧ (iw (aR (ā (ę (ď (Zbu T) ċ (hr.mono (by decide)) rfl T.rW T.VB.kp T.Zev Ğ (Ć 0 (hr:=(Ć 1 (hr:=č)))))))))
  (Č (wW (C:= "NoStone") rfl rfl mY T.FT (ZeT T) (hr.mono (by decide)) rfl T.FQ T.Zl8 Ğ (ć (v_var 1) Ĥ)))
  ľ))
theorem Zbv(T:Tx K mg a):į P w K mg base (ũ P w) 1 a.Ma a.Mf ["yard","day"] (ŵ ⟨K,Ĩ a⟩ 2 rY):=by
 refine aG (cm:=Ĩ a) (mb:=Bs) T.VF Za4 rfl rfl rfl fun cdv A outer s H E hr=>?_
 have hu:=hr.units
 exact(Č (ģ (ĭ (qI iG iB h_ g_ (ā ă) (Ă 1) (ā (PE.wk (Ĭ dU (by rfl) T.jJ PySem.boot_len (Ģ (ā (aW ["Yard"] ⟨⟨T.aB,T.cT⟩,trivial⟩ (Ă 0))) Ķ)) fun _ _ _ h=>Ŷ eN h))))))
theorem Zbw(T:Tx K mg a):į P w K mg base (ũ P w) 3 a.Mg a.Mh ["yard","day"] (ŵ ⟨K,Ĩ a⟩ 2 rZ):=by
 refine aG (cm:=Ĩ a) (mb:=Bt) T.VG Za5 rfl rfl rfl fun cdv A outer s H E hr=>?_
 have hu:=hr.units
 exact(Č (Ŧ (iw (aR (ā (ę (ď (Zbv T) ċ (hr.mono (by decide)) rfl T.rY T.VF.kp T.Zew Ğ (Ć 0 (hr:=(Ć 1 (hr:=č)))))))))
  (Č (wW (C:= "NoTurn") rfl rfl mY T.Pg (ZeU T) (hr.mono (by decide)) rfl T.Pb T.Zl_ Ğ (ć (v_var 1) (ć fY Ĥ))))
  ľ))
theorem Ql(T:Tx K mg a):į P w K mg base (ũ P w) 1 a.Mi a.Mj ["yard","day"] (ŵ ⟨K,Ĩ a⟩ 2 lM):=by
 refine aG (cm:=Ĩ a) (mb:=Bu) T.Ou Za6 rfl rfl rfl fun cdv A outer s H E hr=>?_
 have hu:=hr.units
 exact(Č (ģ (ĭ (Ħ ē Ē (ā (Ħ ē Ē (ā (aW ["Yard"] ⟨⟨T.aB,T.cT⟩,trivial⟩ (Ă 0))) (Ă 1) (fun _ _=>rfl))) (ā ă) (fun _ _=>rfl)))))
theorem Zbx(T:Tx K mg a):į P w K mg base (ũ P w) 4 a.Ml a.Mp ["points","point"] (ŵ ⟨K,Ĩ a⟩ 2 oX):=by
 refine aG (cm:=Ĩ a) (mb:=vd) T.VJ Pu rfl rfl rfl fun cdv A outer s H E hr=>?_
 have hu:=hr.units
 exact(Ċ (aU PassesOwn.leaving rfl (dF (ę (ď (Qg T) ċ (hr.mono (by decide)) rfl T.lB T.Oj.kp T.Vt Ğ (Ć 0 (hr:=č))))) (ħ (i:=2) Pu.nd rfl (Or.inl rfl))
  (Č (Ŧ (iw (aR (ā (ę (ď (Qf T) ċ (hr.mono (by decide)) rfl T.iK T.Oi.kp T.Vr Ğ (Ć 2 (hr:=(Ć 1 (hr:=č)))))))))
  (Č (ģ (iu 2)))
  ľ)))
  (Č (ģ (ĭ fY))))
theorem Qm(T:Tx K mg a):į P w K mg base (ũ P w) 1 a.Mq a.Mr ["many"] (ŵ ⟨K,Ĩ a⟩ 1 lN):=by
 refine aG (cm:=Ĩ a) (mb:=Bv) T.Ov Cq rfl rfl rfl fun cdv A outer s H E hr=>?_
 have hu:=hr.units
 exact(Ċ (ĩ (i:=1) Cq.nd rfl (Or.inl rfl) (ŭ Ĥ))
  (Ċ (aU PassesOwn.leaving rfl (Ũ rfl T.ž (ć (v_var 0) Ĥ)) (ħ (i:=2) Cq.nd rfl (by first|exact Or.inl rfl|exact Or.inr rfl))
  (Č (PS.wk (bW (k_ PySem.F.plainAttrs_list PySem.F.slot_list_extend PySem.F.type_list_extend qC (pv 1) (bY (ű ["second","first"] [2] 1 (ĉ rD) rfl rfl (Ũ rfl T.ž (ć (v_var 2) Ĥ)) (fun _ _ _ _ _=>(ħ (i:=1) (show(["second","first"]:List Str).Nodup by decide +kernel) rfl (Or.inl rfl) (hf:=Or.inr rfl))) (fun _ _ _ _ _=>Ś) (fun _ _ _ _ _=>(ŋ (ć (v_var 1) (ć (v_var 0) Ĥ)))) ⟨rfl,⟨rfl,Or.inl rfl⟩,trivial⟩) iW))) fun _ _ _ h=>DP h)))
  (Č (ģ (iu 1)))))
theorem Zby(T:Tx K mg a):į P w K mg base (ũ P w) 2 a.Ms a.Mt ["many"] (ŵ ⟨K,Ĩ a⟩ 1 su):=by
 refine aG (cm:=Ĩ a) (mb:=Bw) T.VN Cr rfl rfl rfl fun cdv A outer s H E hr=>?_
 have hu:=hr.units
 exact(Ċ (ĩ (i:=1) Cr.nd rfl (Or.inl rfl) (ŭ Ĥ))
  (Ċ (aU PassesOwn.leaving rfl (Ũ rfl T.ž (ć (v_var 0) Ĥ)) (ħ (i:=2) Cr.nd rfl (by first|exact Or.inl rfl|exact Or.inr rfl))
  (Č (PS.wk (bW (k_ PySem.F.plainAttrs_list PySem.F.slot_list_extend PySem.F.type_list_extend qC (pv 1) (bY (ű ["third","pair"] [2] 1 (ĉ rE) rfl rfl (Jh (dF (ę (ď (Qm T) ċ (hr.mono (by decide)) rfl T.lN T.Ov.kp T.VL aJ (Ć 2 (hr:=č)))))) (fun _ _ _ _ _=>(ħ (i:=1) (show(["third","pair"]:List Str).Nodup by decide +kernel) rfl (Or.inl rfl) (hf:=Or.inr rfl))) (fun _ _ _ _ _=>Ś) (fun _ _ _ _ _=>(ŋ (ć (Ħ ē Ē (Ă 1) (ā ă) (fun _ _=>rfl)) (ć (Ħ ē Ē (Ă 1) (ā ă) (fun _ _=>rfl)) (ć (v_var 0) Ĥ))))) ⟨rfl,⟨rfl,Or.inl rfl⟩,trivial⟩) iW))) fun _ _ _ h=>DP h)))
  (Č (ģ (iu 1)))))
theorem ZeY(T:Tx K mg a):į P w K mg base (ũ P w) 1 a.Zan a.Zao ["one","other"] (ŵ ⟨K,Ĩ a⟩ 2 Fz):=by
 refine aG (cm:=Ĩ a) (mb:=Jw) T.ZeA Ec rfl rfl rfl fun cdv A outer s H E hr=>?_
 have hu:=hr.units
 exact(Ċ (RK PassesOwn.leaving (œ nT (iY hu) (Ă 1) (ā ă) (ı _))
  (Ċ (ĩ (i:=2) Ec.nd rfl (Or.inl rfl) (ĭ (Đ Ņ Ń (Ă 0) (Ă 1))))
  (Ċ (ĩ (i:=0) Ec.nd rfl (Or.inl rfl) (ĭ (v_var 1)))
  (Č (ĩ (i:=1) Ec.nd rfl (Or.inl rfl) (ĭ (v_var 2)))))))
  (Č (ģ (ĭ (PE.wk (Ĭ Yi (by rfl) T.ZeL PyProof.Rows.boot_abs (Ģ (Ă 0) Ķ)) fun _ _ _ h=>Ŷ Yz h)))))
theorem Qn(T:Tx K mg a):į P w K mg base (ũ P w) 2 a.Mu a.Mv ["top","bottom"] (ŵ ⟨K,Ĩ a⟩ 2 gF):=by
 refine aG (cm:=Ĩ a) (mb:=vf) T.Ow Cu rfl rfl rfl fun cdv A outer s H E hr=>?_
 have hu:=hr.units
 exact(Ċ (Ŧ (œ ak (Ş hu) (Ă 1) (ā ă) (ı _))
  (Č (wM (C:= "NoNumber") rfl rfl mY rfl T.Cd T.Cg))
  ľ)
  (Ċ (ĩ (i:=2) Cu.nd rfl (Or.inl rfl) (ď (ZeY T) ċ (hr.mono (by decide)) rfl T.Fz T.ZeA.kp T.Zl5 Ğ (Ć 0 (hr:=(Ć 1 (hr:=č))))))
  (Ċ (Ŧ (œ iB g_ (Ă 1) (ā ă) (ı _))
  (Č (ĩ (i:=2) Cu.nd rfl (Or.inl rfl) (ĭ (vX gw fU (Ă 2)))))
  ľ)
  (Č (ģ (ĭ (ŋ (ć (Đ Ź š (Ă 0) (Ă 2)) (ć (Đ Ź š (Ă 1) (Ă 2)) Ĥ)))))))))
theorem Cw(T:Tx K mg a):į P w K mg base (ũ P w) 3 a.Mw a.Mx ["shares","places","many"] (ŵ ⟨K,Ĩ a⟩ 3 dN):=by
 refine aG (cm:=Ĩ a) (mb:=kJ) T.DX pJ rfl rfl rfl fun cdv A outer s H E hr=>?_
 have hu:=hr.units
 exact(Ċ (ĩ (i:=3) pJ.nd rfl (by first|exact Or.inl rfl|exact Or.inr rfl) (ĭ (PE.wk (Ĭ (IK rfl) (by rfl) T.Wr PyProof.Rows.boot_sum (Ģ (Ă 0) Ķ)) fun _ _ _ h=>Ŷ IW h)))
  (Ċ (je (i:=4) pJ.nd rfl rfl ["whole","place"] [3] 1 (ĉ rG) rfl rfl (Ũ rfl T.ž (ć (v_var 2) Ĥ)) (fun _ _ _ _ _=>(ħ (i:=1) (show(["whole","place"]:List Str).Nodup by decide +kernel) rfl (Or.inl rfl) (hf:=Or.inr rfl))) (fun _ _ _ _ _=>Ś) (fun _ _ _ _ _=>(ę (ď (Qn T) ċ (hr.mono (by decide)) rfl T.gF T.Ow.kp T.VP aJ (ė ă (Ć 0 (hr:=č)))))) ⟨rfl,⟨rfl,Or.inl rfl⟩,trivial⟩)
  (Ċ (aU PassesOwn.leaving rfl (ZdS rfl T.ZeM (UJ 0) (UJ 1)) (nH rfl (ő (ħ (i:=5) pJ.nd rfl (Or.inl rfl)) (ő (ħ (i:=6) pJ.nd rfl (Or.inl rfl)) dZ)))
  (Č (RJ (i:=4) (ę (ď (Qn T) ċ (hr.mono (by decide)) rfl T.gF T.Ow.kp T.VP Ğ (Ć 5 (hr:=(Ć 3 (hr:=č)))))) (v_var 6) (pv 4))))
  (Č (ģ (iu 4))))))
theorem Cy(T:Tx K mg a):į P w K mg base (ũ P w) 1 a.Mz a.MJ ["one","other","third"] (ŵ ⟨K,Ĩ a⟩ 3 iR):=by
 refine aG (cm:=Ĩ a) (mb:=Bx) T.DY Px rfl rfl rfl fun cdv A outer s H E hr=>?_
 have hu:=hr.units
 exact(Ċ (ĩ (i:=3) Px.nd rfl (Or.inl rfl) (ĭ (Đ Ľ Ī (ā (Đ ŕ Œ (ā (Ħ ē Ē (Ă 1) (ā ă) (fun _ _=>rfl))) (ā (Ħ ē Ē (Ă 0) (ā ă) (fun _ _=>rfl))))) (ā (Đ ŕ Œ (ā (Ħ ē Ē (Ă 2) (ā ă) (fun _ _=>rfl))) (ā (Ħ ē Ē (Ă 0) (ā ă) (fun _ _=>rfl))))))))
  (Č (ģ (ĭ (Đ ŕ Œ (Ă 3) (ā (Đ Ľ Ī (ā (Đ ŕ Œ (ā (Ħ ē Ē (Ă 1) (ā ă) (fun _ _=>rfl))) (ā (Ħ ē Ē (Ă 0) (ā ă) (fun _ _=>rfl))))) (ā (Đ ŕ Œ (ā (Ħ ē Ē (Ă 2) (ā ă) (fun _ _=>rfl))) (ā (Ħ ē Ē (Ă 0) (ā ă) (fun _ _=>rfl))))))))))))
theorem ZeZ(T:Tx K mg a):į P w K mg base (ũ P w) 2 a.Zap a.Zaq ["corners","point"] (ŵ ⟨K,Ĩ a⟩ 2 FJ):=by
 refine aG (cm:=Ĩ a) (mb:=Jx) T.ZeB Ed rfl rfl rfl fun cdv A outer s H E hr=>?_
 have hu:=hr.units
 exact(Ċ (ĩ (i:=2) Ed.nd rfl (Or.inl rfl) (ĭ (Ħ ē Ē (Ă 0) (ā ă) (fun _ _=>rfl))))
  (Ċ (ĩ (i:=3) Ed.nd rfl (Or.inl rfl) (ĭ (Ħ ē Ē (Ă 0) (ā ă) (fun _ _=>rfl))))
  (Ċ (ĩ (i:=4) Ed.nd rfl (Or.inl rfl) (ĭ (Ħ ē Ē (Ă 0) (ā ă) (fun _ _=>rfl))))
  (Č (ģ (ŭ (ć (ę (ď (Cy T) ċ (hr.mono (by decide)) rfl T.iR T.DY.kp T.Oz Ğ (Ć 1 (hr:=(Ć 3 (hr:=(Ć 4 (hr:=č)))))))) (ć (ę (ď (Cy T) ċ (hr.mono (by decide)) rfl T.iR T.DY.kp T.Oz Ğ (Ć 2 (hr:=(Ć 1 (hr:=(Ć 4 (hr:=č)))))))) (ć (ę (ď (Cy T) ċ (hr.mono (by decide)) rfl T.iR T.DY.kp T.Oz Ğ (Ć 2 (hr:=(Ć 3 (hr:=(Ć 1 (hr:=č)))))))) Ĥ)))))))))
theorem Qo(T:Tx K mg a):į P w K mg base (ũ P w) 1 a.MK a.MN ["shares"] (ŵ ⟨K,Ĩ a⟩ 1 jG):=by
 refine aG (cm:=Ĩ a) (mb:=vh) T.OD Py rfl rfl rfl fun cdv A outer s H E hr=>?_
 have hu:=hr.units
 exact(Ċ (ĩ (i:=1) Py.nd rfl (by first|exact Or.inl rfl|exact Or.inr rfl) (ĭ (PE.wk (Ĭ (IK rfl) (by rfl) T.Wr PyProof.Rows.boot_sum (Ģ (Ă 0) Ķ)) fun _ _ _ h=>Ŷ IW h)))
  (Č (ģ (ĭ (v_and (eV nT (iY hu) (Ă 1) (ā ă) (ı _)) (iz (PE.wk (Ĭ (jV rfl) (by rfl) T.sS PyProof.Rows.boot_all (Ģ (ā (ę (ű ["whole","share"] [1] 1 (ĉ rH) rfl rfl (aq 0) (fun _ _ _ _ _=>(ħ (i:=1) (show(["whole","share"]:List Str).Nodup by decide +kernel) rfl (Or.inl rfl) (hf:=Or.inr rfl))) (fun _ _ _ _ _=>Ś) (fun _ _ _ _ _=>(eV Zdp Zc_ (ā (Đ Ľ Ī (Ă 1) (Ă 0))) (ā ă) (ı _))) ⟨rfl,⟨rfl,Or.inl rfl⟩,trivial⟩))) Ķ)) fun _ _ _ h=>Ŷ jW h)))))))
theorem Zbz(T:Tx K mg a):į P w K mg base (ũ P w) 1 a.MP a.M_ ["ends","point"] (ŵ ⟨K,Ĩ a⟩ 2 sy):=by
 refine aG (cm:=Ĩ a) (mb:=BJ) T.V_ vK rfl rfl rfl fun cdv A outer s H E hr=>?_
 have hu:=hr.units
 exact(Ċ (ĩ (i:=2) vK.nd rfl (Or.inl rfl) (ĭ (Đ ŕ Œ (ā (Ħ ē Ē (ā (Ħ ē Ē (Ă 0) (ā ă) (fun _ _=>rfl))) (ā ă) (fun _ _=>rfl))) (ā (Ħ ē Ē (ā (Ħ ē Ē (Ă 0) (ā ă) (fun _ _=>rfl))) (ā ă) (fun _ _=>rfl))))))
  (Ċ (ĩ (i:=3) vK.nd rfl (Or.inl rfl) (ĭ (Đ ŕ Œ (ā (Ħ ē Ē (ā (Ħ ē Ē (Ă 0) (ā ă) (fun _ _=>rfl))) (ā ă) (fun _ _=>rfl))) (ā (Ħ ē Ē (ā (Ħ ē Ē (Ă 0) (ā ă) (fun _ _=>rfl))) (ā ă) (fun _ _=>rfl))))))
  (Ċ (ĩ (i:=4) vK.nd rfl (Or.inl rfl) (ņ ĵ Ĵ (ā (Đ Ľ Ī (Ă 2) (ā (Đ ŕ Œ (ā (Ħ ē Ē (Ă 1) (ā ă) (fun _ _=>rfl))) (ā (Ħ ē Ē (ā (Ħ ē Ē (Ă 0) (ā ă) (fun _ _=>rfl))) (ā ă) (fun _ _=>rfl))))))) (ā (Đ Ľ Ī (Ă 3) (ā (Đ ŕ Œ (ā (Ħ ē Ē (Ă 1) (ā ă) (fun _ _=>rfl))) (ā (Ħ ē Ē (ā (Ħ ē Ē (Ă 0) (ā ă) (fun _ _=>rfl))) (ā ă) (fun _ _=>rfl)))))))))
  (Č (ģ (ŭ (ć (Đ ŕ Œ (ā (ę (ņ ĵ Ĵ (ā (Đ Ľ Ī (Ă 2) (Ă 2))) (ā (Đ Ľ Ī (Ă 3) (Ă 3)))))) (Ă 4)) (ć (v_var 4) Ĥ))))))))
theorem ZbA(T:Tx K mg a):į P w K mg base (ũ P w) 4 a.Nb a.Nf ["points","point"] (ŵ ⟨K,Ĩ a⟩ 2 lO):=by
 refine aG (cm:=Ĩ a) (mb:=o_) T.Wa kY rfl rfl rfl fun cdv A outer s H E hr=>?_
 have hu:=hr.units
 exact(Ċ (ĩ (i:=2) kY.nd rfl (Or.inl rfl) (ĭ (PE.wk (Ĭ dU (by rfl) T.jJ PySem.boot_len (Ģ (Ă 0) Ķ)) fun _ _ _ h=>Ŷ eN h)))
  (Ċ (aU PassesOwn.leaving rfl (dF (ę (ď (Zby T) ċ (hr.mono (by decide)) rfl T.su T.VN.kp T.Zez Ğ (Ć 2 (hr:=č))))) (ħ (i:=3) kY.nd rfl (Or.inl rfl))
  (Ċ (ĩ (i:=4) kY.nd rfl (Or.inl rfl) (ď (ZeZ T) ċ (hr.mono (by decide)) rfl T.FJ T.ZeB.kp T.Zl6 Ğ (ė (ę (ű ["points","place"] [0] 1 (ĉ oK) rfl rfl (aq 3) (fun _ _ _ _ _=>(ħ (i:=1) (show(["points","place"]:List Str).Nodup by decide +kernel) rfl (Or.inl rfl) (hf:=Or.inr rfl))) (fun _ _ _ _ _=>Ś) (fun _ _ _ _ _=>(Ħ ē Ē (Ă 0) (Ă 1) (fun _ _=>rfl))) ⟨rfl,⟨rfl,Or.inl rfl⟩,trivial⟩)) (Ć 1 (hr:=č)))))
  (Č (Ŧ (aR (ā (ę (ď (Qo T) ċ (hr.mono (by decide)) rfl T.jG T.OD.kp T.VR Ğ (Ć 4 (hr:=č))))))
  (Č (ģ (ď (Cw T) ċ (hr.mono (by decide)) rfl T.dN T.DX.kp T.Ox Ğ (Ć 4 (hr:=(Ć 3 (hr:=(Ć 2 (hr:=č)))))))))
  ľ))))
  (Ċ (aU PassesOwn.leaving rfl (dF (ę (ď (Qm T) ċ (hr.mono (by decide)) rfl T.lN T.Ov.kp T.VL Ğ (Ć 2 (hr:=č))))) (ħ (i:=3) kY.nd rfl (Or.inl rfl))
  (Ċ (ĩ (i:=4) kY.nd rfl (Or.inl rfl) (ď (Zbz T) ċ (hr.mono (by decide)) rfl T.sy T.V_.kp T.ZeC Ğ (ė (ę (ű ["points","place"] [0] 1 (ĉ oK) rfl rfl (aq 3) (fun _ _ _ _ _=>(ħ (i:=1) (show(["points","place"]:List Str).Nodup by decide +kernel) rfl (Or.inl rfl) (hf:=Or.inr rfl))) (fun _ _ _ _ _=>Ś) (fun _ _ _ _ _=>(Ħ ē Ē (Ă 0) (Ă 1) (fun _ _=>rfl))) ⟨rfl,⟨rfl,Or.inl rfl⟩,trivial⟩)) (Ć 1 (hr:=č)))))
  (Č (Ŧ (aR (ā (ę (ď (Qo T) ċ (hr.mono (by decide)) rfl T.jG T.OD.kp T.VR Ğ (Ć 4 (hr:=č))))))
  (Č (ģ (ď (Cw T) ċ (hr.mono (by decide)) rfl T.dN T.DX.kp T.Ox Ğ (Ć 4 (hr:=(Ć 3 (hr:=(Ć 2 (hr:=č)))))))))
  ľ))))
  (Č (ģ (ď (Cw T) ċ (hr.mono (by decide)) rfl T.dN T.DX.kp T.Ox Ğ (ė (ę (ŭ (ć ă Ĥ))) (ė (ę (ŭ (ć ă Ĥ))) (Ć 2 (hr:=č))))))))))
theorem ZbB(T:Tx K mg a):į P w K mg base (ũ P w) 5 a.Ng a.Nh ["points","point"] (ŵ ⟨K,Ĩ a⟩ 2 pq):=by
 refine aG (cm:=Ĩ a) (mb:=vp) T.Wb Pz rfl rfl rfl fun cdv A outer s H E hr=>?_
 have hu:=hr.units
 exact(Ċ (ĩ (i:=2) Pz.nd rfl (Or.inl rfl) (ď (Zbx T) ċ (hr.mono (by decide)) rfl T.oX T.VJ.kp T.Zey Ğ (Ć 0 (hr:=(Ć 1 (hr:=č))))))
  (Ċ (Ŧ (œ qK jO (Ă 2) (ā fY) (ı _))
  (Č (ģ (ĭ (ŋ (ć Ŭ (ć (ę (ď (ZbA T) ċ (hr.mono (by decide)) rfl T.lO T.Wa.kp T.ZeD Ğ (Ć 0 (hr:=(Ć 1 (hr:=č)))))) Ĥ))))))
  ľ)
  (Č (ģ (ĭ (ŋ (ć Ŭ (ć (v_var 2) Ĥ))))))))
theorem ZbC(T:Tx K mg a):į P w K mg base (ũ P w) 2 a.Ni a.Nj ["stone","ray"] (ŵ ⟨K,Ĩ a⟩ 2 sE):=by
 refine aG (cm:=Ĩ a) (mb:=BK) T.Wc Za7 rfl rfl rfl fun cdv A outer s H E hr=>?_
 have hu:=hr.units
 exact(Č (ģ (ď (Qh T) ċ (hr.mono (by decide)) rfl T.iM T.Ol.kp T.Vu Ğ (ė (ŋ (ć (Đ Ľ Ī (ā ă) (ā (Ħ ē Ē (Ă 0) (ā ă) (fun _ _=>rfl)))) (ć (Đ Ľ Ī (ā ă) (ā (Ħ ē Ē (Ă 0) (ā ă) (fun _ _=>rfl)))) (ć ă Ĥ)))) (Ć 1 (hr:=č))))))
theorem ZbD(T:Tx K mg a):į P w K mg base (ũ P w) 6 a.Nk a.Nm ["thing","stone","ray"] (ŵ ⟨K,Ĩ a⟩ 3 sG):=by
 refine aG (cm:=Ĩ a) (mb:=BL) T.Wd Za8 rfl rfl rfl fun cdv A outer s H E hr=>?_
 have hu:=hr.units
 exact(Č (ģ (ď (ZbB T) ċ (hr.mono (by decide)) rfl T.pq T.Wb.kp T.ZeE Ğ (ė (ę (ď (Qi T) ċ (hr.mono (by decide)) rfl T.jE T.Oo.kp T.Vv Ğ (Ć 0 (hr:=(Ć 2 (hr:=č)))))) (ė (ę (ď (ZbC T) ċ (hr.mono (by decide)) rfl T.sE T.Wc.kp T.ZeF Ğ (Ć 1 (hr:=(Ć 2 (hr:=č)))))) č)))))
theorem ZbE(T:Tx K mg a):į P w K mg base (ũ P w) 7 a.Np a.Nq ["thing","stone","ray"] (ŵ ⟨K,Ĩ a⟩ 3 lQ):=by
 refine aG (cm:=Ĩ a) (mb:=vq) T.Wf Za9 rfl rfl rfl fun cdv A outer s H E hr=>?_
 have hu:=hr.units
 exact(Č (ģ (ĭ (eV ak (Ş hu) (ā (Ħ ē Ē (ā (ę (ď (ZbD T) ċ (hr.mono (by decide)) rfl T.sG T.Wd.kp T.ZeG Ğ (Ć 0 (hr:=(Ć 1 (hr:=(Ć 2 (hr:=č))))))))) (ā ă) (fun _ _=>rfl))) (ā Ŭ) (ı _)))))
theorem Qp(T:Tx K mg a):į P w K mg base (ũ P w) 8 a.Nr a.Nt ["yard","turn","stone"] (ŵ ⟨K,Ĩ a⟩ 3 dO):=by
 refine aG (cm:=Ĩ a) (mb:=pA) T.OJ PJ rfl rfl rfl fun cdv A outer s H E hr=>?_
 have hu:=hr.units
 exact(Ċ (Ŧ (œ qK jO (Ă 1) (ā fY) (ı _))
  (Č (ģ (ĭ tU)))
  ľ)
  (Ċ (aU PassesOwn.leaving rfl (dF (aW ["Yard"] ⟨⟨T.aB,T.cV⟩,trivial⟩ (Ă 0))) (ħ (i:=3) PJ.nd rfl (Or.inl rfl))
  (Č (Ŧ (aR (ā (ę (ď (ZbE T) ċ (hr.mono (by decide)) rfl T.lQ T.Wf.kp T.ZeH Ğ (Ć 3 (hr:=(Ć 2 (hr:=(Ć 1 (hr:=č))))))))))
  (Č (ģ (ĭ tU)))
  ľ)))
  (Č (ģ (ĭ tU)))))
theorem Qq(T:Tx K mg a):į P w K mg base (ũ P w) 9 a.Nu a.Nv ["yard","day","stone"] (ŵ ⟨K,Ĩ a⟩ 3 lR):=by
 refine aG (cm:=Ĩ a) (mb:=BP) T.O_ Za_ rfl rfl rfl fun cdv A outer s H E hr=>?_
 have hu:=hr.units
 exact(Ċ (zX (ę (ď (Qk T) ċ (hr.mono (by decide)) rfl T.lK T.Ot.kp T.VD Ğ (Ć 0 (hr:=(Ć 2 (hr:=č)))))))
  (Ċ (zX (ę (ď (Zbw T) ċ (hr.mono (by decide)) rfl T.rZ T.VG.kp T.Zex Ğ (Ć 0 (hr:=(Ć 1 (hr:=č)))))))
  (Č (ģ (ű ["yard","stone","number","turn"] [0,2] 2 (ĉ rJ) rfl rfl (Jh (Jc rfl T.lW (ZdN (ę (ď (Ql T) ċ (hr.mono (by decide)) rfl T.lM T.Ou.kp T.VH aJ (Ć 0 (hr:=(Ć 1 (hr:=č))))))))) (fun _ _ _ _ _=>(nH rfl (ő (ħ (i:=2) (show(["yard","stone","number","turn"]:List Str).Nodup by decide +kernel) rfl (Or.inl rfl) (hf:=Or.inr rfl)) (ő (ħ (i:=3) (show(["yard","stone","number","turn"]:List Str).Nodup by decide +kernel) rfl (Or.inl rfl) (hf:=Or.inr rfl)) dZ)))) (fun _ _ _ _ _=>(Hy (iw (aR (ā (ę (ď (Qp T) ċ (hr.mono (by decide)) rfl T.dO T.OJ.kp T.Wg aJ (Ć 0 (hr:=(Ć 3 (hr:=(Ć 1 (hr:=č))))))))))))) (fun _ _ _ _ _=>(v_var 2)) ⟨rfl,⟨rfl,Or.inl rfl⟩,⟨rfl,⟨rfl,Or.inl rfl⟩,trivial⟩⟩)))))
theorem ZbF(T:Tx K mg a):į P w K mg base (ũ P w) 1 a.Nx a.Ny ["_law_found","_law_due"] (ŵ ⟨K,Ĩ a⟩ 2 pB):=by
 refine aG (cm:=Ĩ a) (mb:=vB) T.Wi Zba rfl rfl rfl fun cdv A outer s H E hr=>?_
 have hu:=hr.units
 exact(Ċ (Ŧ (œ qK jO (Ă 1) (ā fY) (ı _))
  (Č (ģ (ĭ (eV qK jO (Ă 0) (ā fY) (ı _)))))
  ľ)
  (Ċ (Ŧ (PW.pt (w_or (iw (aR (ā (PE.wk (Ĭ gW (by rfl) T.Ž PyProof.Rows.boot_isinstance (Ģ (Ă 0) (Ģ (ā (Di (.ty "tuple") (gJ (v:=.ty "tuple") rfl T.Ea PyProof.Rows.boot_tuple rfl))) Ķ))) fun _ _ _ h=>Ŷ (gY T.iC T.iT T.iD T.iN) h)))) (Uq (œ nT (iY hu) (Ă 0) (Ă 1) (ı _)))))
  (Č (ģ (ĭ tU)))
  ľ)
  (Č (ģ (ĭ (PE.wk (Ĭ (jV rfl) (by rfl) T.sS PyProof.Rows.boot_all (Ģ (ā (ę (ű ["_law_one"] [] 1 (ĉ rK) rfl rfl (aq 0) (fun _ _ _ _ _=>(ħ (i:=0) (show(["_law_one"]:List Str).Nodup by decide +kernel) rfl (Or.inl rfl) (hf:=Or.inr rfl))) (fun _ _ _ _ _=>Ś) (fun _ _ _ _ _=>(v_and (PE.wk (Ĭ gW (by rfl) T.Ž PyProof.Rows.boot_isinstance (Ģ (Ă 0) (Ģ (ā (Di (.ty "int") (gJ (v:=.ty "int") rfl T.Pj PyProof.Rows.boot_int rfl))) Ķ))) fun _ _ _ h=>Ŷ (gY T.iC T.iT T.iD T.iN) h) (iz (v_not (PE.wk (Ĭ gW (by rfl) T.Ž PyProof.Rows.boot_isinstance (Ģ (Ă 0) (Ģ (ā (Di (.ty "bool") (gJ (v:=.ty "bool") rfl T.Ph PyProof.Rows.boot_bool rfl))) Ķ))) fun _ _ _ h=>Ŷ (gY T.iC T.iT T.iD T.iN) h))))) trivial))) Ķ)) fun _ _ _ h=>Ŷ jW h))))))
theorem Qs(T:Tx K mg a):į P w K mg base (ũ P w) 1 a.Nz a.NK ["_law_found","_law_due"] (ŵ ⟨K,Ĩ a⟩ 2 lU):=by
 refine aG (cm:=Ĩ a) (mb:=BR) T.Pa Zbb rfl rfl rfl fun cdv A outer s H E hr=>?_
 have hu:=hr.units
 exact(Ċ (Ŧ (PW.pt (w_or (iw (aR (ā (PE.wk (Ĭ gW (by rfl) T.Ž PyProof.Rows.boot_isinstance (Ģ (Ă 0) (Ģ (ā (Di (.ty "list") (gJ (v:=.ty "list") rfl T.eU PyProof.Rows.boot_list rfl))) Ķ))) fun _ _ _ h=>Ŷ (gY T.iC T.iT T.iD T.iN) h)))) (Uq (œ nT (iY hu) (Ă 0) (Ă 1) (ı _)))))
  (Č (ģ (ĭ tU)))
  ľ)
  (Č (ģ (ĭ (PE.wk (Ĭ (jV rfl) (by rfl) T.sS PyProof.Rows.boot_all (Ģ (ā (ę (ű ["_law_one"] [] 1 (ĉ rM) rfl rfl (aq 0) (fun _ _ _ _ _=>(ħ (i:=0) (show(["_law_one"]:List Str).Nodup by decide +kernel) rfl (Or.inl rfl) (hf:=Or.inr rfl))) (fun _ _ _ _ _=>Ś) (fun _ _ _ _ _=>(v_and (PE.wk (Ĭ gW (by rfl) T.Ž PyProof.Rows.boot_isinstance (Ģ (Ă 0) (Ģ (ā (Di (.ty "int") (gJ (v:=.ty "int") rfl T.Pj PyProof.Rows.boot_int rfl))) Ķ))) fun _ _ _ h=>Ŷ (gY T.iC T.iT T.iD T.iN) h) (iz (v_not (PE.wk (Ĭ gW (by rfl) T.Ž PyProof.Rows.boot_isinstance (Ģ (Ă 0) (Ģ (ā (Di (.ty "bool") (gJ (v:=.ty "bool") rfl T.Ph PyProof.Rows.boot_bool rfl))) Ķ))) fun _ _ _ h=>Ŷ (gY T.iC T.iT T.iD T.iN) h))))) trivial))) Ķ)) fun _ _ _ h=>Ŷ jW h)))))
theorem ZbG(T:Tx K mg a):į P w K mg base (ũ P w) 9 a.NP a.NQ ["yard","stone"] (ŵ ⟨K,Ĩ a⟩ 2 pC):=by
 refine aG (cm:=Ĩ a) (mb:=vG) T.Wk vL rfl rfl rfl fun cdv A outer s H E hr=>?_
 have hu:=hr.units
 exact(Ċ (zX (ę (ď (Qk T) ċ (hr.mono (by decide)) rfl T.lK T.Ot.kp T.VD Ğ (Ć 0 (hr:=(Ć 1 (hr:=č)))))))
  (Ċ (aU PassesOwn.leaving rfl (Ũ rfl T.ž (ć (PE.wk (Ĭ dU (by rfl) T.jJ PySem.boot_len (Ģ (ā (aW ["Yard"] ⟨⟨T.aB,T.cT⟩,trivial⟩ (Ă 0))) Ķ)) fun _ _ _ h=>Ŷ eN h) Ĥ)) (ħ (i:=2) vL.nd rfl (Or.inl rfl))
  (Č (aU PassesOwn.leaving rfl (Jc rfl T.lW (ZdN (ę (ď (Ql T) ċ (hr.mono (by decide)) rfl T.lM T.Ou.kp T.VH Ğ (Ć 0 (hr:=(Ć 2 (hr:=č)))))))) (nH rfl (ő (ħ (i:=3) vL.nd rfl (Or.inl rfl)) (ő (ħ (i:=4) vL.nd rfl (Or.inl rfl)) dZ)))
  (Č (Ŧ (iw (aR (ā (ę (ď (Qp T) ċ (hr.mono (by decide)) rfl T.dO T.OJ.kp T.Wg Ğ (Ć 0 (hr:=(Ć 4 (hr:=(Ć 1 (hr:=č)))))))))))
  (Č (ģ (ĭ (ŋ (ć (v_var 2) (ć (v_var 3) Ĥ))))))
  ľ)))))
  (Č (ģ (ĭ fY)))))
theorem ZbH(T:Tx K mg a):į P w K mg base (ũ P w) 10 a.NT a.NZ ["_law_script"] (ŵ ⟨K,Ĩ a⟩ 1 lV):=by
 refine aG (cm:=Ĩ a) (mb:=BW) T.ZeK Ż rfl rfl rfl fun cdv A outer s H E hr=>?_
 have hu:=hr.units
 exact(Ċ (ĩ (i:=1) Ż.nd rfl (by first|exact Or.inl rfl|exact Or.inr rfl) (ď (Zbc T) ċ (hr.mono (by decide)) rfl T.dJ T.Vc.kp T.Zd4 Ğ (ė (ę (ď (kZ T) ċ (hr.mono (by decide)) rfl T.Ů T.pF.kp T.sI Ğ (Ć 0 (hr:=(ė ă č))))) (ė ă č))))
  (Ċ (je (i:=2) Ż.nd rfl rfl ["_law_size_here","_law_cell"] [1] 1 (ĉ eZ) rfl rfl (dF (ę (bK (Ă 0) (aH ă) (aH ă)))) (fun _ _ _ _ _=>(ħ (i:=1) (show(["_law_size_here","_law_cell"]:List Str).Nodup by decide +kernel) rfl (Or.inl rfl) (hf:=Or.inr rfl))) (fun _ _ _ _ _=>Ś) (fun _ _ _ _ _=>(ę (ď (Zbe T) ċ (hr.mono (by decide)) rfl T.dM T.Vh.kp T.Zd8 aJ (Ć 1 (hr:=(ė (PE.wk (Ĭ (Ak rfl) (by rfl) T.D_ PyProof.Rows.boot_max (Ģ (Ă 0) Ķ)) fun _ _ _ h=>Ŷ Am h) č)))))) ⟨rfl,⟨rfl,Or.inl rfl⟩,trivial⟩)
  (Ċ (ĩ (i:=3) Ż.nd rfl (Or.inl rfl) (ď (PL T) ċ (hr.mono (by decide)) rfl T.fj T.Ob.kp T.Vf Ğ (Ć 0 (hr:=(ė ă (ė (Đ Ņ Ń (ā (ę (ď (kZ T) ċ (hr.mono (by decide)) rfl T.Ů T.pF.kp T.sI Ğ (Ć 0 (hr:=(ė ă č)))))) (ā ă)) (ė ă č)))))))
  (Ċ (Ŧ (œ ak (Ş hu) (ā (Đ Ņ Ń (ā (Đ Ź š (ā (ę (ď (kZ T) ċ (hr.mono (by decide)) rfl T.Ů T.pF.kp T.sI Ğ (Ć 0 (hr:=(ė ă č)))))) (ā ă))) (ā ă))) (ā ă) (ı _))
  (Ċ (ĩ (i:=1) Ż.nd rfl (by first|exact Or.inl rfl|exact Or.inr rfl) (ĭ (ŋ (ć (ę (ņ ĵ Ĵ (ā ă) (ā (Đ Ņ Ń (ā (ę (ď (kZ T) ċ (hr.mono (by decide)) rfl T.Ů T.pF.kp T.sI Ğ (Ć 0 (hr:=(ė ă č)))))) (ā ă))))) (ć ă Ĥ)))))
  (Ċ (ĩ (i:=2) Ż.nd rfl (Or.inl rfl) (bK (Ă 2) nU (aH ă)))
  (Č (ĩ (i:=3) Ż.nd rfl (Or.inl rfl) (ď (PL T) ċ (hr.mono (by decide)) rfl T.fj T.Ob.kp T.Vf Ğ (Ć 0 (hr:=(ė ă (ė ă (ė ă č))))))))))
  ľ)
  (Ċ (je (i:=4) Ż.nd rfl rfl ["_law_word","_law_numbers_here"] [] 2 (ĉ eZ) rfl rfl (aq 2) (fun _ _ _ _ _=>(nH rfl (ő (ħ (i:=0) (show(["_law_word","_law_numbers_here"]:List Str).Nodup by decide +kernel) rfl (Or.inl rfl) (hf:=Or.inr rfl)) (ő (ħ (i:=1) (show(["_law_word","_law_numbers_here"]:List Str).Nodup by decide +kernel) rfl (Or.inl rfl) (hf:=Or.inr rfl)) dZ)))) (fun _ _ _ _ _=>Ś) (fun _ _ _ _ _=>(ę (ď (Zbi T) ċ (hr.mono (by decide)) rfl T.cG T.Vn.kp T.Zed aJ (Ć 0 (hr:=(ė (ę (PE.wk (ů cM (by rfl) T.eU PyProof.Rows.boot_list (Ģ (Ă 1) Ķ)) fun _ _ _ h=>vZ cN h)) č)))))) trivial)
  (Ċ (ĩ (i:=5) Ż.nd rfl (by first|exact Or.inl rfl|exact Or.inr rfl) (ĭ (jY T.ZaH (PN T) cA (hr.mono (by decide)) rfl T.ZaA T.Zd7 Ğ (ė (Ħ ē Ē (Ă 1) (ā ă) (fun _ _=>rfl)) (ė (Ħ ē Ē (Ă 1) (ā ă) (fun _ _=>rfl)) (Ć 4 (hr:=(Ć 3 (hr:=č)))))))))
  (Ċ (ĩ (i:=6) Ż.nd rfl (by first|exact Or.inl rfl|exact Or.inr rfl) (ű ["_law_yard","_law_name","_law_many","_law_turns"] [5] 3 (ĉ eZ) rfl rfl (aq 3) (fun _ _ _ _ _=>(nH rfl (ő (ħ (i:=1) (show(["_law_yard","_law_name","_law_many","_law_turns"]:List Str).Nodup by decide +kernel) rfl (Or.inl rfl) (hf:=Or.inr rfl)) (ő (ħ (i:=2) (show(["_law_yard","_law_name","_law_many","_law_turns"]:List Str).Nodup by decide +kernel) rfl (Or.inl rfl) (hf:=Or.inr rfl)) (ő (ħ (i:=3) (show(["_law_yard","_law_name","_law_many","_law_turns"]:List Str).Nodup by decide +kernel) rfl (Or.inl rfl) (hf:=Or.inr rfl)) dZ))))) (fun _ _ _ _ _=>Ś) (fun _ _ _ _ _=>(ę (ű ["_law_yard","_law_turn"] [0] 1 _ rfl rfl (aq 3) (fun _ _ _ _ _=>(ħ (i:=1) (show(["_law_yard","_law_turn"]:List Str).Nodup by decide +kernel) rfl (Or.inl rfl) (hf:=Or.inr rfl))) (fun _ _ _ _ _=>Ś) (fun _ _ _ _ _=>(ę (ď (Zbt T) ċ (hr.mono (by decide)) rfl T.fB T.Vz.kp T.Zeu aJ (Ć 0 (hr:=(Ć 1 (hr:=č))))))) ⟨rfl,⟨rfl,Or.inl rfl⟩,trivial⟩ (hfree:=Z2t (by kernel_rfl))))) ⟨rfl,⟨rfl,Or.inl rfl⟩,trivial⟩))
  (Ċ (aU PassesOwn.leaving rfl (Ũ rfl T.ž (ć (Đ Ľ Ī (ā (Ħ ē Ē (Ă 1) (ā ă) (fun _ _=>rfl))) (ā (Ħ ē Ē (Ă 1) (ā ă) (fun _ _=>rfl)))) Ĥ)) (ħ (i:=7) Ż.nd rfl (by first|exact Or.inl rfl|exact Or.inr rfl))
  (Ċ (ĩ (i:=8) Ż.nd rfl (Or.inl rfl) (ĭ (ŋ (ć (Đ Ņ Ń (Ă 7) (ā (Ħ ē Ē (Ă 1) (ā ă) (fun _ _=>rfl)))) (ć (Đ Ź š (Ă 7) (ā (Ħ ē Ē (Ă 1) (ā ă) (fun _ _=>rfl)))) Ĥ)))))
  (Ċ (ĩ (i:=9) Ż.nd rfl (Or.inl rfl) (ĭ fY))
  (Ċ (aU PassesOwn.leaving rfl (Ũ rfl T.ž (ć (PE.wk (Ĭ dU (by rfl) T.jJ PySem.boot_len (Ģ (Ă 3) Ķ)) fun _ _ _ h=>Ŷ eN h) Ĥ)) (ħ (i:=10) Ż.nd rfl (by first|exact Or.inl rfl|exact Or.inr rfl))
  (Ċ (je (i:=11) Ż.nd rfl rfl ["_law_number","_law_sets","_law_day","_law_turn"] [7,6,10] 1 (ĉ eZ) rfl rfl (Ũ rfl T.ž (ć (PE.wk (Ĭ dU (by rfl) T.jJ PySem.boot_len (Ģ (ā (Ħ ē Ē (Ă 6) (Ă 10) (fun _ _=>rfl))) Ķ)) fun _ _ _ h=>Ŷ eN h) Ĥ)) (fun _ _ _ _ _=>(ħ (i:=3) (show(["_law_number","_law_sets","_law_day","_law_turn"]:List Str).Nodup by decide +kernel) rfl (Or.inl rfl) (hf:=Or.inr rfl))) (fun _ _ _ _ _=>(Hy (œ ak (Ş hu) (ā (Đ RT RW (ā (Đ Yw Yx (ā (Ħ ē Ē (ā (Ħ ē Ē (Ă 1) (Ă 2) (fun _ _=>rfl))) (Ă 3) (fun _ _=>rfl))) (Ă 0))) (ā ă))) (ā ă) (ı _)))) (fun _ _ _ _ _=>(v_var 3)) ⟨rfl,⟨rfl,Or.inl rfl⟩,⟨rfl,⟨rfl,Or.inl rfl⟩,⟨rfl,⟨rfl,Or.inl rfl⟩,trivial⟩⟩⟩)
  (Ċ (Ŧ (PW.pt (w_and (œ qK jO (Ă 9) (ā fY) (ı _)) (fZ (œ nT (iY hu) (Ă 11) (ā (ę (ŭ Ĥ))) (ı _)))))
  (Č (ĩ (i:=9) Ż.nd rfl (Or.inl rfl) (ĭ (ŋ (ć (v_var 10) (ć (Ħ ē Ē (Ă 11) (ā ă) (fun _ _=>rfl)) Ĥ))))))
  ľ)
  (Ċ (ĩ (i:=12) Ż.nd rfl (Or.inl rfl) (ď (Qq T) ċ (hr.mono (by decide)) rfl T.lR T.O_.kp T.Wh Ğ (Ć 5 (hr:=(Ć 10 (hr:=(Ć 8 (hr:=č))))))))
  (Ċ (Ŧ (iw (aR (ā (ę (ď (Qs T) ċ (hr.mono (by decide)) rfl T.lU T.Pa.kp T.Wj Ğ (Ć 12 (hr:=(Ć 11 (hr:=č)))))))))
  (Č (ģ (ĭ tU)))
  ľ)
  (Ċ (PS.wk (bW (k_ PySem.F.plainAttrs_list PySem.F.slot_list_append PySem.F.type_list_append aK (pv 12) (ć ă Ĥ))) fun _ _ _ h=>gP h)
  (Č (Ŧ (iw (aR (ā (ę (ď (Qs T) ċ (hr.mono (by decide)) rfl T.lU T.Pa.kp T.Wj Ğ (ė (ę (ď (Qq T) ċ (hr.mono (by decide)) rfl T.lR T.O_.kp T.Wh Ğ (Ć 5 (hr:=(Ć 10 (hr:=(Ć 8 (hr:=č)))))))) (Ć 11 (hr:=č))))))))
  (Č (ģ (ĭ tU)))
  ľ))))))))
  (Č (Ŧ (iw (aR (ā (ę (ď (ZbF T) ċ (hr.mono (by decide)) rfl T.pB T.Wi.kp T.ZeI Ğ (ė (ę (ď (ZbG T) ċ (hr.mono (by decide)) rfl T.pC T.Wk.kp T.ZeJ Ğ (Ć 5 (hr:=(Ć 8 (hr:=č)))))) (Ć 9 (hr:=č))))))))
  (Č (ģ (ĭ tU)))
  ľ))))))
  (Č (ģ (ĭ tU)))))))))))
end
def pt(p:Hu.Pt):PV:=.tup [.int p.1,.int p.2]
def cH(l:Hu.Ln):PV:=.tup [.int l.1,.int l.2.1,.int l.2.2]
def Sm(p:Hu.Pt):Prop:=-100000000000000000≤p.1∧p.1≤100000000000000000∧ -100000000000000000≤p.2∧p.2≤100000000000000000
def Wu(l:Hu.Ln):Prop:=-1000000000000000000≤l.1∧l.1≤1000000000000000000∧ -1000000000000000000≤l.2.1∧l.2.1≤1000000000000000000
theorem Z0e{x y:Hu.Pt}:eqB (pt y) (pt x)=decide (y=x):=by
 obtain⟨a,b⟩:=x
 obtain⟨c,d⟩:=y
 unfold pt
 rw[Zaa,Bool.eq_iff_iff]
 simp
theorem ZL(x:Hu.Pt):aF (pt x)=true:=by simp[pt,aF,cg]
theorem ZE(x:Hu.Pt):dep (pt x)=1:=by simp[pt,dep,pX]
theorem Z27(S:List Hu.Pt):cg (S.map pt)=true:=by
 induction S with
 |nil=>simp[cg]
 |cons p S ih=>simp[cg,ZL,ih]
theorem Z11(x:Hu.Pt):∀k:List Hu.Pt,(k.map pt).any (fun y=>eqB y (pt x))=decide (x∈k)
 | []=>by simp
 |y::k=>by
  rw[List.map_cons,List.any_cons,Z11 x k,Z0e,Bool.eq_iff_iff]
  simp
  constructor
  ·rintro (e|e)
   ·exact .inl e.symm
   ·exact .inr e
  ·rintro (e|e)
   ·exact .inl e.symm
   ·exact .inr e
theorem Z0f(x:Hu.Pt)(k:List Hu.Pt):inD true (pt x) (.lst (k.map pt))=some (.bl (!decide (x∈k))):=by
 unfold inD
 simp only[ZL,Z27,ZE,Z11]
 rfl
theorem Z0c(x y:Hu.Pt):cj (pt x) (pt y)=some (.bl (!decide (x=y))):=by
 unfold cj pY
 rw[ZL,ZL,ZE,ZE,Z0e]
 rfl
theorem Z1K{a b:Hu.Pt}(ha:Sm a)(hb:Sm b):rQ [.sh (pt a),.sh (pt b)]=.ret (.sh (cH (Hu.Z2 a b))):=by
 obtain⟨a1,a2,a3,a4⟩:=ha
 obtain⟨b1,b2,b3,b4⟩:=hb
 have m1:ŗ (b.2-a.2) a.1=true:=aV (by omega) (by omega)
 have m2:ŗ (a.1-b.1) a.2=true:=aV (by omega) (by omega)
 simp[rQ,Ba,List.replicate,pt,cH,Hu.Z2,m1,m2]
theorem Z0g{l:Hu.Ln}(hl:Wu l)(p:Hu.Pt):iK [.sh (cH l),.sh (pt p)]=.ret (.sh (.bl (Hu.hd l p))):=by
 obtain⟨a1,a2,a3,a4⟩:=hl
 have m1:ŗ l.1 p.1=true:=aV (by omega) (by omega)
 have m2:ŗ l.2.1 p.2=true:=aV (by omega) (by omega)
 simp[iK,Bb,List.replicate,pt,cH,Hu.hd,m1,m2]
theorem Z0D{a b:Hu.Pt}(ha:Sm a)(hb:Sm b):Wu (Hu.Z2 a b):=by
 obtain⟨a1,a2,a3,a4⟩:=ha
 obtain⟨b1,b2,b3,b4⟩:=hb
 simp only[Wu,Hu.Z2]
 omega
def Sl(s:P.Slot)(ps:List PV):Prop:=s=.sh (.lst ps)∨s=.bw ps
theorem Sl.lend{s:P.Slot}{ps:List PV}(h:Sl s ps):dw s=some s:=by rcases h with rfl|rfl<;>rfl
theorem Sl.it{s:P.Slot}{ps:List PV}(h:Sl s ps){i:Nat}{ρ:Ŏ}(e:ρ[i]?=some s):ŏ i ρ=.ok ps ρ:= by
 rcases h with rfl|rfl<;>simp[e]
theorem Z1L{S:List Hu.Pt}{sl:P.Slot}(hs:Sl sl (S.map pt))(hl:S.length≤1000):rP [sl]=.ret (.ow ((Hu.Z1 S).map pt)):=by
 have hlen:∀(xs k:List Hu.Pt),(xs.foldl (fun k x=>if x∈k then k else k ++ [x]) k).length≤k.length+xs.length:=by
  intro xs
  induction xs with
  |nil=>intro k;simp
  |cons x xs ih=>
   intro k
   rw[List.foldl_cons]
   refine Nat.le_trans (ih _) ?_
   split
   ·simp
   ·simp;omega
 have key:∀(xs:List Hu.Pt) (k:List Hu.Pt) (s2:P.Slot),k.length+xs.length≤1000→∃s2',forL (gN 2) kE (xs.map pt) [sl,.ow (k.map pt),s2]=.ok .nx [sl,.ow ((xs.foldl (fun k x=>if x∈k then k else k ++ [x]) k).map pt),s2']:=by
  intro xs
  induction xs with
  |nil=>intro k s2 _;exact⟨s2,rfl⟩
  |cons x xs ih=>
   intro k s2 hk
   rw[List.length_cons] at hk
   by_cases hx:x∈k
   ·obtain⟨s2',e⟩:=ih k (.sh (pt x)) (by omega)
    refine⟨s2',?_⟩
    have hb:kE [sl,.ow (k.map pt),.sh (pt x)]=.ok .nx [sl,.ow (k.map pt),.sh (pt x)]:=by simp[kE,Z0f,hx]
    rw[List.map_cons,List.foldl_cons,if_pos hx,forL]
    simp[hb,e]
   ·obtain⟨s2',e⟩:=ih (k ++ [x]) (.sh (pt x)) (by simp;omega)
    refine⟨s2',?_⟩
    have h3:k.length<16777216:=by omega
    have hb:kE [sl,.ow (k.map pt),.sh (pt x)]=.ok .nx [sl,.ow ((k ++ [x]).map pt),.sh (pt x)]:=by simp[kE,Z0f,hx,h3]
    rw[List.map_cons,List.foldl_cons,if_neg hx,forL]
    simp only[H_,List.set_cons_succ,List.set_cons_zero,hb,Res.aQ]
    exact e
 obtain⟨s2,e⟩:=key S [] .no (by simpa using hl)
 have hit:=hs.it (i:=0) (ρ:= [sl,.ow [],.no]) rfl
 simp only[List.map_nil] at e
 simp[rP,A_,List.replicate,-Af,hit,e]
 rfl
theorem Z12(x:Int)(l:List Int):iI [.lst ((x::l).map .int)]=some (.int (Hu.mx (x::l))):=by
 show((intsOf ((x::l).map .int)).bind (best max)).map PV.int=_
 rw[jc]
 rfl
theorem Z13(x:Int)(l:List Int):qP [.lst ((x::l).map .int)]=some (.int (Hu.mn (x::l))):=by
 show((intsOf ((x::l).map .int)).bind (best min)).map PV.int=_
 rw[jc]
 rfl
theorem Z28{S:List Hu.Pt}{sl:P.Slot}(hs:Sl sl (S.map pt))(h0:S≠[])(hl:S.length≤1000):rN [sl]=.ret (.ow ((Hu.box S).map cH)):=by
 have c1:ň (gN 0) Ŋ (Ĉ Ě (Ā 0) (mC (.int 0))) (S.map pt) [.no] []=some ((S.map (·.1)).map .int):=by
  have:=Ő (g:=gN 0) (mt:=Ŋ) (me:=Ĉ Ě (Ā 0) (mC (.int 0))) pt (fun p=>.int p.1) (fun ρ=>∃s,ρ=[s]) S [.no] [] ⟨_,rfl⟩ (by simp;omega) (by
   rintro x hx ρ ⟨s,rfl⟩
   exact⟨[.sh (pt x)],[.sh (pt x)],[.sh (pt x)],by simp,by simp,by simp[pt],_,rfl⟩)
  rw[this]
  simp
 have c2:ň (gN 0) Ŋ (Ĉ Ě (Ā 0) (mC (.int 1))) (S.map pt) [.no] []=some ((S.map (·.2)).map .int):=by
  have:=Ő (g:=gN 0) (mt:=Ŋ) (me:=Ĉ Ě (Ā 0) (mC (.int 1))) pt (fun p=>.int p.2) (fun ρ=>∃s,ρ=[s]) S [.no] [] ⟨_,rfl⟩ (by simp;omega) (by
   rintro x hx ρ ⟨s,rfl⟩
   exact⟨[.sh (pt x)],[.sh (pt x)],[.sh (pt x)],by simp,by simp,by simp[pt],_,rfl⟩)
  rw[this]
  simp
 obtain⟨p,R,rfl⟩:=List.exists_cons_of_ne_nil h0
 have x1:=Z12 p.1 (R.map (·.1))
 have x2:=Z13 p.1 (R.map (·.1))
 have x3:=Z12 p.2 (R.map (·.2))
 have x4:=Z13 p.2 (R.map (·.2))
 have hit:∀s1 s2,ŏ 0 [sl,s1,s2]=.ok ((p::R).map pt) [sl,s1,s2]:=fun s1 s2=>hs.it rfl
 have b:(Hu.box (p::R)).map cH=[.tup [.int 1,.int 0,.int (Hu.mx (p.1::R.map (·.1)))],.tup [.int (-1),.int 0,.int (- Hu.mn (p.1::R.map (·.1)))],.tup [.int 0,.int 1,.int (Hu.mx (p.2::R.map (·.2)))],.tup [.int 0,.int (-1),.int (- Hu.mn (p.2::R.map (·.2)))]]:=rfl
 rw[b]
 generalize (p::R).map pt=ps at hit c1 c2
 rw[List.map_cons] at c1 c2
 generalize (p.1::R.map (·.1)).map PV.int=us at c1 x1 x2
 generalize (p.2::R.map (·.2)).map PV.int=vs at c2 x3 x4
 simp[rN,Az,List.replicate,-Af,-Td,-Te,hit,c1,c2,x1,x2,x3,x4]
theorem Z03:∀l:List Bool,boolsOf (l.map .bl)=some l
 | []=>rfl
 |x::l=>by rw[List.map_cons,boolsOf,Z03 l];rfl
theorem Z0h(l:List Bool):mD [.lst (l.map .bl)]=some (.bl (l.all id)):=by
 show(boolsOf (l.map .bl)).map (fun bs=>PV.bl (bs.all id))=_
 rw[Z03]
 rfl
theorem Zz(S:List Hu.Pt):(Hu.Z1 S).length≤S.length:=by
 have:∀(xs k:List Hu.Pt),(xs.foldl (fun k x=>if x∈k then k else k ++ [x]) k).length≤k.length+xs.length:=by
  intro xs
  induction xs with
  |nil=>intro k;simp
  |cons x xs ih=>
   intro k
   rw[List.foldl_cons]
   refine Nat.le_trans (ih _) ?_
   split
   ·simp
   ·simp;omega
 have h:=this S []
 rw[List.length_nil,Nat.zero_add] at h
 exact h
theorem Z14{S:List Hu.Pt}(hS:∀p∈S,Sm p)(hl:S.length≤1000){a b:Hu.Pt}(ha:a∈S)(hb:b∈S)(s0 s5:P.Slot)(L:List Hu.Ln)(hL:L.length<16777216) :
 kI [s0,.ow (L.map cH),.sh (.lst ((Hu.Z1 S).map pt)),.sh (pt a),.sh (pt b),s5]=.ok .nx [s0,.ow ((L++(if a≠b∧(Hu.Z1 S).all (Hu.hd (Hu.Z2 a b)) then[Hu.Z2 a b] else[])).map cH),.sh (.lst ((Hu.Z1 S).map pt)),.sh (pt a),.sh (pt b),.sh (cH (Hu.Z2 a b))]:=by
 have hsm:=Z0D (hS a ha) (hS b hb)
 have c1:ň (gN 1) Ŋ (ĕ (đ iK (ą 0 (ą 1 Ď)))) ((Hu.Z1 S).map pt) [.sh (cH (Hu.Z2 a b)),.no] []=some (((Hu.Z1 S).map (Hu.hd (Hu.Z2 a b))).map .bl):=by
  have hlen:(Hu.Z1 S).length≤16777216:=by have:=Zz S;omega
  have:=Ő (g:=gN 1) (mt:=Ŋ) (me:=ĕ (đ iK (ą 0 (ą 1 Ď)))) pt (fun p=>.bl (Hu.hd (Hu.Z2 a b) p)) (fun ρ=>∃s,ρ=[.sh (cH (Hu.Z2 a b)),s]) (Hu.Z1 S) [.sh (cH (Hu.Z2 a b)),.no] [] ⟨_,rfl⟩ (by simpa using hlen) (by
   rintro x hx ρ ⟨s,rfl⟩
   exact⟨[.sh (cH (Hu.Z2 a b)),.sh (pt x)],[.sh (cH (Hu.Z2 a b)),.sh (pt x)],[.sh (cH (Hu.Z2 a b)),.sh (pt x)],by simp,by simp,by simp[Z0g hsm],_,rfl⟩)
  rw[this]
  simp
 have c2:=Z0h ((Hu.Z1 S).map (Hu.hd (Hu.Z2 a b)))
 have e1:=Z1K (hS a ha) (hS b hb)
 have e3:((Hu.Z1 S).map (Hu.hd (Hu.Z2 a b))).all id=(Hu.Z1 S).all (Hu.hd (Hu.Z2 a b)):=by simp
 rw[e3] at c2
 generalize ((Hu.Z1 S).map (Hu.hd (Hu.Z2 a b))).map PV.bl=bs at c1 c2
 by_cases h1:a=b
 ·subst h1
  simp[kI,e1,Z0c]
 ·by_cases h2:(Hu.Z1 S).all (Hu.hd (Hu.Z2 a b))=true
  ·rw[h2] at c2
   simp[kI,e1,Z0c,h1,c1,c2,h2,hL,-List.all_eq_true]
  ·rw[Bool.not_eq_true] at h2
   rw[h2] at c2
   simp[kI,e1,Z0c,h1,c1,c2,h2,hL,-List.all_eq_true,-List.all_eq_false]
theorem Z1l{S:List Hu.Pt}(hS:∀p∈S,Sm p)(hl:S.length≤1000){a:Hu.Pt}(ha:a∈S)(s0:P.Slot):∀(xs:List Hu.Pt) (L:List Hu.Ln) (s4 s5:P.Slot),(∀x∈xs,x∈S)→L.length+xs.length<16777216→
 ∃QB Ut,forL (gN 4) kI (xs.map pt) [s0,.ow (L.map cH),.sh (.lst ((Hu.Z1 S).map pt)),.sh (pt a),s4,s5]=.ok .nx [s0,.ow ((L++xs.filterMap fun b=>if a≠b∧(Hu.Z1 S).all (Hu.hd (Hu.Z2 a b)) then some (Hu.Z2 a b) else none).map cH),.sh (.lst ((Hu.Z1 S).map pt)),.sh (pt a),QB,Ut]:=by
 intro xs
 induction xs with
 |nil=>intro L s4 s5 _ _;exact⟨s4,s5,by simp[forL]⟩
 |cons b xs ih=>
  intro L s4 s5 hx hL
  rw[List.length_cons] at hL
  have hb:=Z14 hS hl ha (hx b (by simp)) s0 s5 L (by omega)
  obtain⟨QB,Ut,e⟩:=ih (L++(if a≠b∧(Hu.Z1 S).all (Hu.hd (Hu.Z2 a b)) then[Hu.Z2 a b] else[])) (.sh (pt b)) (.sh (cH (Hu.Z2 a b))) (fun x h=>hx x (List.mem_cons_of_mem _ h)) (by
   rw[List.length_append]
   split
   ·simp;omega
   ·simp;omega)
  refine⟨QB,Ut,?_⟩
  rw[List.map_cons,forL]
  simp only[H_,List.set_cons_succ,List.set_cons_zero,hb,Res.aQ]
  rw[e,List.filterMap_cons]
  by_cases hc:a≠b∧(Hu.Z1 S).all (Hu.hd (Hu.Z2 a b))=true
  ·rw[if_pos hc,if_pos hc]
   simp only[List.append_assoc,List.cons_append,List.nil_append]
  ·rw[if_neg hc,if_neg hc]
   simp only[List.append_nil]
theorem ZC{α β:Type}(f:α→Option β)(l:List α):(l.filterMap f).length≤l.length:=List.length_filterMap_le ..
theorem Z1m{S:List Hu.Pt}(hS:∀p∈S,Sm p)(hl:S.length≤1000)(s0:P.Slot):∀(xs:List Hu.Pt) (L:List Hu.Ln) (s3 s4 s5:P.Slot),(∀x∈xs,x∈S)→L.length+xs.length*1000<10000000→
 ∃s3' QB Ut,forL (gN 3) uV (xs.map pt) [s0,.ow (L.map cH),.sh (.lst ((Hu.Z1 S).map pt)),s3,s4,s5]=.ok .nx [s0,.ow ((L++xs.flatMap fun a=>(Hu.Z1 S).filterMap fun b=>if a≠b∧(Hu.Z1 S).all (Hu.hd (Hu.Z2 a b)) then some (Hu.Z2 a b) else none).map cH),.sh (.lst ((Hu.Z1 S).map pt)),s3',QB,Ut]:=by
 intro xs
 induction xs with
 |nil=>intro L s3 s4 s5 _ _;exact⟨s3,s4,s5,by simp[forL]⟩
 |cons a xs ih=>
  intro L s3 s4 s5 hx hL
  rw[List.length_cons] at hL
  have ho:=Zz S
  obtain⟨a4,a5,e1⟩:=Z1l hS hl (hx a (by simp)) s0 (Hu.Z1 S) L s4 s5 (fun x h=>Hu.Zg.mp h) (by omega)
  have hf:=ZC (fun b=>if a≠b∧(Hu.Z1 S).all (Hu.hd (Hu.Z2 a b))=true then some (Hu.Z2 a b) else none) (Hu.Z1 S)
  obtain⟨s3',QB,Ut,e2⟩:=ih (L++(Hu.Z1 S).filterMap fun b=>if a≠b∧(Hu.Z1 S).all (Hu.hd (Hu.Z2 a b))=true then some (Hu.Z2 a b) else none) (.sh (pt a)) a4 a5 (fun x h=>hx x (List.mem_cons_of_mem _ h)) (by rw[List.length_append];omega)
  refine⟨s3',QB,Ut,?_⟩
  have hb:uV [s0,.ow (L.map cH),.sh (.lst ((Hu.Z1 S).map pt)),.sh (pt a),s4,s5]=.ok .nx [s0,.ow ((L++(Hu.Z1 S).filterMap fun b=>if a≠b∧(Hu.Z1 S).all (Hu.hd (Hu.Z2 a b))=true then some (Hu.Z2 a b) else none).map cH),.sh (.lst ((Hu.Z1 S).map pt)),.sh (pt a),a4,a5]:=by
   unfold uV
   simp only[YC,Af,List.getElem?_cons_succ,List.getElem?_cons_zero,Res.aQ]
   exact e1
  rw[List.map_cons,forL]
  simp only[H_,List.set_cons_succ,List.set_cons_zero,hb,Res.aQ]
  rw[e2,List.flatMap_cons,List.append_assoc]
theorem Z1n{S:List Hu.Pt}{sl:P.Slot}(hs:Sl sl (S.map pt))(hS:∀p∈S,Sm p)(hl:S.length≤1000):rT [sl]=.ret (.ow ((Hu.Zu S).map cH)):=by
 have h1:=Z1L hs hl
 have ho:=Zz S
 obtain⟨s3,s4,s5,e⟩:=Z1m hS hl sl (Hu.Z1 S) [] .no .no .no (fun x h=>Hu.Zg.mp h) (by simp;omega)
 have he:[]++((Hu.Z1 S).flatMap fun a=>(Hu.Z1 S).filterMap fun b=>if a≠b∧(Hu.Z1 S).all (Hu.hd (Hu.Z2 a b))=true then some (Hu.Z2 a b) else none)=Hu.Zu S:=rfl
 rw[he] at e
 generalize Hu.Zu S=ed at e
 generalize (Hu.Z1 S).map pt=os at e h1
 simp only[List.map_nil] at e
 simp[rT,Bc,List.replicate,hs.lend,h1,e]
theorem Z15(S:List Hu.Pt)(hl:S.length≤1000):(Hu.Zu S).length≤1000000:=by
 have ho:=Zz S
 have:∀(xs:List Hu.Pt) (f:Hu.Pt→List Hu.Ln),(∀x,(f x).length≤1000)→(xs.flatMap f).length≤xs.length*1000:=by
  intro xs f hf
  induction xs with
  |nil=>simp
  |cons x xs ih=>rw[List.flatMap_cons,List.length_append,List.length_cons];have:=hf x;omega
 refine Nat.le_trans (this (Hu.Z1 S) _ fun x=>Nat.le_trans (ZC _ _) (by omega)) (by omega)
theorem Z0i{S:List Hu.Pt}{sl:P.Slot}(hs:Sl sl (S.map pt))(hS:∀p∈S,Sm p)(h0:S≠[])(hl:S.length≤1000):lB [sl]=.ret (.ow ((Hu.Zd S).map cH)):=by
 have h1:=Z28 hs h0 hl
 have h2:=Z1n hs hS hl
 have h3:ļ (.lst ((Hu.box S).map cH)) (.lst ((Hu.Zu S).map cH))=some (.ow ((Hu.Zd S).map cH)):=by
  rw[add_l (by have:=Z15 S hl;simp[Hu.box];omega),←List.map_append]
  rfl
 simp[lB,Bd,List.replicate,hs.lend,h1,h2,h3]
theorem Z16{S:List Hu.Pt}{l:Hu.Ln}(h:l∈Hu.Zd S)(hS:∀p∈S,Sm p):Wu l:=by
 rcases List.mem_append.mp h with h|h
 ·unfold Hu.box at h
  simp only[List.mem_cons,List.not_mem_nil,or_false] at h
  rcases h with e|e|e|e<;>subst e<;>simp only[Wu]<;>omega
 ·obtain⟨a,ha,b,hb,_,_,rfl⟩:=Hu.Z10.mp h
  exact Z0D (hS a ha) (hS b hb)
theorem Z0N(n:Nat):gn 0 n 1=(List.range n).map fun(i:Nat)=>PV.int (i:Int):=by
 unfold gn
 refine List.map_congr_left fun i _=>?_
 simp
theorem Zs{n:Nat}(h:n≤1000):aj [.int (n:Int)]=some ((List.range n).map fun(i:Nat)=>PV.int (i:Int)):=by
 have hs:nJ (n:Int)=true:=by unfold nJ;simp;omega
 unfold aj
 simp[hs,Z0N]
def Wv(s:P.Slot)(ps:List PV):Prop:=s=.sh (.lst ps)∨s=.bw ps
def aN(x:Int):Bool:=decide (-1000000000≤x∧x≤1000000000)
def zy(x:Int):Bool:=decide (1≤x∧x≤1000000000)
def zA(x:Int):Bool:=decide (0≤x∧x≤1000000000)
theorem ZO(x:Int):cR [.sh (.int x)]=.ret (.sh (.bl (aN x))):=by
 unfold aN
 by_cases h1: -1000000000≤x<;>by_cases h2:x≤1000000000<;>simp[cR,Ax,List.replicate,h1,h2]
theorem Z04(x:Int):lA [.sh (.int x)]=.ret (.sh (.bl (zy x))):=by
 unfold zy
 by_cases h1:1≤x<;>by_cases h2:x≤1000000000<;>simp[lA,Ay,List.replicate,h1,h2]
def Ze:List Int→Bool
 | [p,q,h]=>aN p && aN q && zy h
 |_=>false
def Zf:List Int→Bool
 | [x,y,u,v,h]=>aN x && aN y && aN u && aN v && zy h
 |_=>false
def Zb:List Int→Bool
 | [x,y,u,v,h]=>Zf [x,y,u,v,h] && !(decide (x=u) && decide (y=v))
 |_=>false
def Z7:List Int→Bool
 | [x,y,u,v,h]=>Zf [x,y,u,v,h] && decide (x<u) && decide (y<v)
 |_=>false
def Zc:List Int→Bool
 | [a,b,c,d,e,f,g,h,i]=>aN a && aN b && zA c && (aN d && aN e && zA f) && (aN g && aN h && zA i)
 |_=>false
theorem Z29(a b c:Bool):mD [.lst [.bl a,.bl b,.bl c]]=some (.bl (a && b && c)):=by cases a<;>cases b<;>cases c<;>rfl
theorem Z2a(a b c d:Bool):mD [.lst [.bl a,.bl b,.bl c,.bl d]]=some (.bl (a && b && c && d)):=by cases a<;>cases b<;>cases c<;>cases d<;>rfl
theorem Z0b{xs:List Int}{sl:P.Slot}(hs:Wv sl (xs.map .int)):oM [sl]=.ret (.sh (.bl (Ze xs))):=by
 by_cases hl:xs.length=3
 ·match xs,hl with
  | [a,b,c],_=>
    have h:Ze [a,b,c]=(aN a && aN b && zy c):=rfl
    rw[h]
    rcases hs with rfl|rfl<;>cases ea:aN a<;>cases eb:aN b<;>cases ec:zy c<;>simp[oM,uN,List.replicate,ZO,Z04,ea,eb,ec]
 ·have h:Ze xs=false:=by
   unfold Ze
   split
   ·simp at hl
   ·rfl
  rw[h]
  have hl':¬((xs.length:Nat):Int)=3:=by omega
  rcases hs with rfl|rfl<;>simp[oM,uN,List.replicate,hl']
theorem Z0E{xs:List Int}{sl:P.Slot}(hs:Wv sl (xs.map .int)):jD [sl]=.ret (.sh (.bl (Zf xs))):=by
 by_cases hl:xs.length=5
 ·match xs,hl with
  | [a,b,c,d,e],_=>
    have h:Zf [a,b,c,d,e]=(aN a && aN b && aN c && aN d && zy e):=rfl
    rw[h]
    have hc:bT ([.int a,.int b,.int c,.int d,.int e]:List PV) none (some 4)=[.int a,.int b,.int c,.int d]:=rfl
    have hb:=Z2a (aN a) (aN b) (aN c) (aN d)
    rcases hs with rfl|rfl<;>cases ea:(aN a && aN b && aN c && aN d)<;>cases ec:zy e<;>rw[ea] at hb<;>simp[jD,uQ,List.replicate,ZO,Z04,hc,ň,hb,ec]
 ·have h:Zf xs=false:=by
   unfold Zf
   split
   ·simp at hl
   ·rfl
  rw[h]
  have hl':¬((xs.length:Nat):Int)=5:=by omega
  rcases hs with rfl|rfl<;>simp[jD,uQ,List.replicate,hl']
theorem Z2b(a b c d:Int):cj (.lst [.int a,.int b]) (.lst [.int c,.int d])=some (.bl (!(decide (a=c) && decide (b=d)))):=by
 have h:eqB (.lst [.int a,.int b]) (.lst [.int c,.int d])=(decide (a=c) && decide (b=d)):=by
  simp[eqB,dG]
  rw[Bool.eq_iff_iff]
  simp
 unfold cj pY
 rw[h]
 simp[aF,cg,dep,pX]
theorem Z1C{xs:List Int}(hl:¬xs.length=5):Zf xs=false:=by
 unfold Zf
 split
 ·simp at hl
 ·rfl
theorem Z0O{s:P.Slot}{ps:List PV}(h:Wv s ps):dw s=some s:=by rcases h with rfl|rfl<;>rfl
theorem Z1o{xs:List Int}{sl:P.Slot}(hs:Wv sl (xs.map .int)):oU [sl]=.ret (.sh (.bl (Zb xs))):=by
 have he:=Z0E hs
 by_cases hl:xs.length=5
 ·match xs,hl with
  | [a,b,c,d,e],_=>
    have h:Zb [a,b,c,d,e]=(Zf [a,b,c,d,e] && !(decide (a=c) && decide (b=d))):=rfl
    rw[h]
    have h1:bT ([.int a,.int b,.int c,.int d,.int e]:List PV) none (some 2)=[.int a,.int b]:=rfl
    have h2:bT ([.int a,.int b,.int c,.int d,.int e]:List PV) (some 2) (some 4)=[.int c,.int d]:=rfl
    have h3:=Z2b a b c d
    generalize Zf [a,b,c,d,e]=q at *
    generalize (!(decide (a=c) && decide (b=d)))=r at *
    rcases hs with rfl|rfl<;>cases q<;>simp_all [oU,uR,List.replicate]
 ·have h:Zb xs=false:=by
   unfold Zb
   split
   ·simp at hl
   ·rfl
  rw[h]
  rw[Z1C hl] at he
  simp[oU,uR,List.replicate,Z0O hs,he]
theorem Z1M{xs:List Int}{sl:P.Slot}(hs:Wv sl (xs.map .int)):uT [sl]=.ret (.sh (.bl (Z7 xs))):=by
 have he:=Z0E hs
 by_cases hl:xs.length=5
 ·match xs,hl with
  | [a,b,c,d,e],_=>
    have h:Z7 [a,b,c,d,e]=(Zf [a,b,c,d,e] && decide (a<c) && decide (b<d)):=rfl
    rw[h]
    generalize Zf [a,b,c,d,e]=q at *
    rcases hs with rfl|rfl<;>simp only[List.map_cons,List.map_nil] at he<;>cases q<;>by_cases h1:a<c<;>by_cases h2:b<d<;>simp[uT,DR,List.replicate,he,h1,h2]
 ·have h:Z7 xs=false:=by
   unfold Z7
   split
   ·simp at hl
   ·rfl
  rw[h]
  rw[Z1C hl] at he
  simp[uT,DR,List.replicate,Z0O hs,he]
theorem ZF(a b c:Int):Fx [.sh (.lst [.int a,.int b,.int c])]=.ret (.sh (.bl (aN a && aN b && zA c))):=by
 unfold zA
 cases ea:aN a<;>cases eb:aN b<;>by_cases h1:0≤c<;>by_cases h2:c≤1000000000<;>simp[Fx,Js,List.replicate,ZO,ea,eb,h1,h2]
theorem Z1p{xs:List Int}{sl:P.Slot}(hs:Wv sl (xs.map .int)):oV [sl]=.ret (.sh (.bl (Zc xs))):=by
 by_cases hl:xs.length=9
 ·match xs,hl with
  | [a,b,c,d,e,f,g,h,i],_=>
    have hc:Zc [a,b,c,d,e,f,g,h,i]=((aN a && aN b && zA c) && (aN d && aN e && zA f) && (aN g && aN h && zA i)):=rfl
    rw[hc]
    have h1:bT ([.int a,.int b,.int c,.int d,.int e,.int f,.int g,.int h,.int i]:List PV) (some 0) (some 3)=[.int a,.int b,.int c]:=rfl
    have h2:bT ([.int a,.int b,.int c,.int d,.int e,.int f,.int g,.int h,.int i]:List PV) (some 3) (some 6)=[.int d,.int e,.int f]:=rfl
    have h3:bT ([.int a,.int b,.int c,.int d,.int e,.int f,.int g,.int h,.int i]:List PV) (some 6) (some 9)=[.int g,.int h,.int i]:=rfl
    have hb:=Z29 (aN a && aN b && zA c) (aN d && aN e && zA f) (aN g && aN h && zA i)
    have k1:=ZF a b c
    have k2:=ZF d e f
    have k3:=ZF g h i
    generalize (aN a && aN b && zA c)=q1 at *
    generalize (aN d && aN e && zA f)=q2 at *
    generalize (aN g && aN h && zA i)=q3 at *
    rcases hs with rfl|rfl<;>simp[oV,uU,List.replicate,ň,h1,h2,h3,k1,k2,k3,hb]
 ·have h:Zc xs=false:=by
   unfold Zc
   split
   ·simp at hl
   ·rfl
  rw[h]
  have hl':¬((xs.length:Nat):Int)=9:=by omega
  rcases hs with rfl|rfl<;>simp[oV,uU,List.replicate,hl']
def Za(w:Str):String:=if w= "post" then "Post" else if w= "fence" then "Fence" else if w= "sail" then "Sail" else if w= "cloth" then "Cloth" else "House"
def Z4(C:String)(w:Str)(xs:List Int):PV:=.ins C ["word","numbers"] [.str w,.lst (xs.map .int)]
def Z5(w:Str)(xs:List Int):Bool:=if w= "post" then Ze xs else if w= "fence" then Zb xs else if w= "sail" then Z7 xs else if w= "cloth" then Zc xs else if w= "house" then Z7 xs else false
theorem wn:((Str.ofString "word")=(Str.ofString "numbers"))=False:=eq_false (by decide +kernel)
theorem Zy{C:String}(hC:(["Thing","Post","Fence","Sail","Cloth","House"]:List String).contains C=true)(w:Str){xs:List Int}{sl:P.Slot}(hs:Wv sl (xs.map .int)):cO 3 3 C fu [.sh (.str w),sl]=.ok ["word","numbers"] [.str w,.lst (xs.map .int)]:=by
 rcases hs with rfl|rfl<;>simp[cO,fu,iH,IR.of,List.replicate,putN,wK,hC,wn,-List.contains_eq_mem,-List.contains_cons]
theorem s1:PyData.strOk (Str.ofString "post")=true:=by decide +kernel
theorem s2:PyData.strOk (Str.ofString "fence")=true:=by decide +kernel
theorem s3:PyData.strOk (Str.ofString "sail")=true:=by decide +kernel
theorem s4:PyData.strOk (Str.ofString "cloth")=true:=by decide +kernel
theorem s5:PyData.strOk (Str.ofString "house")=true:=by decide +kernel
theorem d12:(Str.ofString "post" =Str.ofString "fence")=False:=eq_false (by decide +kernel)
theorem d13:(Str.ofString "post" =Str.ofString "sail")=False:=eq_false (by decide +kernel)
theorem d14:(Str.ofString "post" =Str.ofString "cloth")=False:=eq_false (by decide +kernel)
theorem d15:(Str.ofString "post" =Str.ofString "house")=False:=eq_false (by decide +kernel)
theorem d23:(Str.ofString "fence" =Str.ofString "sail")=False:=eq_false (by decide +kernel)
theorem d24:(Str.ofString "fence" =Str.ofString "cloth")=False:=eq_false (by decide +kernel)
theorem d25:(Str.ofString "fence" =Str.ofString "house")=False:=eq_false (by decide +kernel)
theorem d34:(Str.ofString "sail" =Str.ofString "cloth")=False:=eq_false (by decide +kernel)
theorem d35:(Str.ofString "sail" =Str.ofString "house")=False:=eq_false (by decide +kernel)
theorem d45:(Str.ofString "cloth" =Str.ofString "house")=False:=eq_false (by decide +kernel)
theorem Z1q{w:Str}(hw:PyData.strOk w=true){xs:List Int}{sl:P.Slot}(hs:Wv sl (xs.map .int)):cG [.sh (.str w),sl]=if Z5 w xs=true then .ret (.sh (Z4 (Za w) w xs)) else .exc ⟨"BadThing",[],[]⟩:=by
 have e1:=cF hw s1
 have e2:=cF hw s2
 have e3:=cF hw s3
 have e4:=cF hw s4
 have e5:=cF hw s5
 have p1:=Z0b hs
 have p2:=Z1o hs
 have p3:=Z1M hs
 have p4:=Z1p hs
 have i1:uO [.sh (.str w),sl]=_:=Zy (by decide) w hs
 have i2:oN [.sh (.str w),sl]=_:=Zy (by decide) w hs
 have i3:uP [.sh (.str w),sl]=_:=Zy (by decide) w hs
 have i4:oO [.sh (.str w),sl]=_:=Zy (by decide) w hs
 have i5:oR [.sh (.str w),sl]=_:=Zy (by decide) w hs
 have hle:=Z0O hs
 unfold Z5 Za Z4
 by_cases h1:w=Str.ofString "post"
 ·have n2:¬w=Str.ofString "fence" := fun z=>(d12▸(h1.symm.trans z):False)
  have n3:¬w=Str.ofString "sail" := fun z=>(d13▸(h1.symm.trans z):False)
  have n4:¬w=Str.ofString "cloth" := fun z=>(d14▸(h1.symm.trans z):False)
  have n5:¬w=Str.ofString "house" := fun z=>(d15▸(h1.symm.trans z):False)
  rw[decide_eq_true h1] at e1
  rw[decide_eq_false n2] at e2
  rw[decide_eq_false n3] at e3
  rw[decide_eq_false n4] at e4
  rw[decide_eq_false n5] at e5
  have hg:(if w=Str.ofString "post" then Ze xs else if w=Str.ofString "fence" then Zb xs else if w=Str.ofString "sail" then Z7 xs else if w=Str.ofString "cloth" then Zc xs else if w=Str.ofString "house" then Z7 xs else false)=Ze xs:=by rw[if_pos h1]
  have hc:(if w=Str.ofString "post" then "Post" else if w=Str.ofString "fence" then "Fence" else if w=Str.ofString "sail" then "Sail" else if w=Str.ofString "cloth" then "Cloth" else "House")= "Post" := by rw[if_pos h1]
  rw[hg,hc]
  cases q:Ze xs<;>rw[q] at p1<;>simp[cG,gD,bU,List.replicate,e1,e2,e3,e4,e5,hle,p1,i1]
 ·skip
  by_cases h2:w=Str.ofString "fence"
  ·have n1:=h1
   have n3:¬w=Str.ofString "sail" := fun z=>(d23▸(h2.symm.trans z):False)
   have n4:¬w=Str.ofString "cloth" := fun z=>(d24▸(h2.symm.trans z):False)
   have n5:¬w=Str.ofString "house" := fun z=>(d25▸(h2.symm.trans z):False)
   rw[decide_eq_true h2] at e2
   rw[decide_eq_false n1] at e1
   rw[decide_eq_false n3] at e3
   rw[decide_eq_false n4] at e4
   rw[decide_eq_false n5] at e5
   have hg:(if w=Str.ofString "post" then Ze xs else if w=Str.ofString "fence" then Zb xs else if w=Str.ofString "sail" then Z7 xs else if w=Str.ofString "cloth" then Zc xs else if w=Str.ofString "house" then Z7 xs else false)=Zb xs:=by rw[if_neg n1,if_pos h2]
   have hc:(if w=Str.ofString "post" then "Post" else if w=Str.ofString "fence" then "Fence" else if w=Str.ofString "sail" then "Sail" else if w=Str.ofString "cloth" then "Cloth" else "House")= "Fence" := by rw[if_neg n1,if_pos h2]
   rw[hg,hc]
   cases q:Zb xs<;>rw[q] at p2<;>simp[cG,gD,bU,List.replicate,e1,e2,e3,e4,e5,hle,p2,i2]
  ·skip
   by_cases h3:w=Str.ofString "sail"
   ·have n1:=h1
    have n2:=h2
    have n4:¬w=Str.ofString "cloth" := fun z=>(d34▸(h3.symm.trans z):False)
    have n5:¬w=Str.ofString "house" := fun z=>(d35▸(h3.symm.trans z):False)
    rw[decide_eq_true h3] at e3
    rw[decide_eq_false n1] at e1
    rw[decide_eq_false n2] at e2
    rw[decide_eq_false n4] at e4
    rw[decide_eq_false n5] at e5
    have hg:(if w=Str.ofString "post" then Ze xs else if w=Str.ofString "fence" then Zb xs else if w=Str.ofString "sail" then Z7 xs else if w=Str.ofString "cloth" then Zc xs else if w=Str.ofString "house" then Z7 xs else false)=Z7 xs:=by rw[if_neg n1,if_neg n2,if_pos h3]
    have hc:(if w=Str.ofString "post" then "Post" else if w=Str.ofString "fence" then "Fence" else if w=Str.ofString "sail" then "Sail" else if w=Str.ofString "cloth" then "Cloth" else "House")= "Sail" := by rw[if_neg n1,if_neg n2,if_pos h3]
    rw[hg,hc]
    cases q:Z7 xs<;>rw[q] at p3<;>simp[cG,gD,bU,List.replicate,e1,e2,e3,e4,e5,hle,p3,i3]
   ·skip
    by_cases h4:w=Str.ofString "cloth"
    ·have n1:=h1
     have n2:=h2
     have n3:=h3
     have n5:¬w=Str.ofString "house" := fun z=>(d45▸(h4.symm.trans z):False)
     rw[decide_eq_true h4] at e4
     rw[decide_eq_false n1] at e1
     rw[decide_eq_false n2] at e2
     rw[decide_eq_false n3] at e3
     rw[decide_eq_false n5] at e5
     have hg:(if w=Str.ofString "post" then Ze xs else if w=Str.ofString "fence" then Zb xs else if w=Str.ofString "sail" then Z7 xs else if w=Str.ofString "cloth" then Zc xs else if w=Str.ofString "house" then Z7 xs else false)=Zc xs:=by rw[if_neg n1,if_neg n2,if_neg n3,if_pos h4]
     have hc:(if w=Str.ofString "post" then "Post" else if w=Str.ofString "fence" then "Fence" else if w=Str.ofString "sail" then "Sail" else if w=Str.ofString "cloth" then "Cloth" else "House")= "Cloth" := by rw[if_neg n1,if_neg n2,if_neg n3,if_pos h4]
     rw[hg,hc]
     cases q:Zc xs<;>rw[q] at p4<;>simp[cG,gD,bU,List.replicate,e1,e2,e3,e4,e5,hle,p4,i4]
    ·skip
     by_cases h5:w=Str.ofString "house"
     ·have n1:=h1
      have n2:=h2
      have n3:=h3
      have n4:=h4
      rw[decide_eq_true h5] at e5
      rw[decide_eq_false n1] at e1
      rw[decide_eq_false n2] at e2
      rw[decide_eq_false n3] at e3
      rw[decide_eq_false n4] at e4
      have hg:(if w=Str.ofString "post" then Ze xs else if w=Str.ofString "fence" then Zb xs else if w=Str.ofString "sail" then Z7 xs else if w=Str.ofString "cloth" then Zc xs else if w=Str.ofString "house" then Z7 xs else false)=Z7 xs:=by rw[if_neg n1,if_neg n2,if_neg n3,if_neg n4,if_pos h5]
      have hc:(if w=Str.ofString "post" then "Post" else if w=Str.ofString "fence" then "Fence" else if w=Str.ofString "sail" then "Sail" else if w=Str.ofString "cloth" then "Cloth" else "House")= "House" := by rw[if_neg n1,if_neg n2,if_neg n3,if_neg n4]
      rw[hg,hc]
      cases q:Z7 xs<;>rw[q] at p3<;>simp[cG,gD,bU,List.replicate,e1,e2,e3,e4,e5,hle,p3,i5]
     ·skip
      rw[decide_eq_false h1] at e1
      rw[decide_eq_false h2] at e2
      rw[decide_eq_false h3] at e3
      rw[decide_eq_false h4] at e4
      rw[decide_eq_false h5] at e5
      rw[if_neg h1,if_neg h2,if_neg h3,if_neg h4,if_neg h5]
      simp[cG,gD,bU,List.replicate,e1,e2,e3,e4,e5]
abbrev P3:=Int×Int×Int
def c3(p:P3):PV:=.tup [.int p.1,.int p.2.1,.int p.2.2]
def Zt(x y u v z:Int):List P3:=[(x,y,z),(u,y,z),(u,v,z),(x,v,z)]
def ZM(x y u v h:Int):List P3:=Zt x y u v 0++Zt x y u v h
def Z3(C:String)(xs:List Int):List P3:=
 if C= "Post" then(match xs with
  | [p,q,h]=>ZM (2*p-1) (2*q-1) (2*p+1) (2*q+1) h
  |_=>[])
 else if C= "Fence" then(match xs with
  | [x,y,u,v,h]=>[(x,y,0),(u,v,0),(u,v,h),(x,y,h)]
  |_=>[])
 else if C= "Sail" then(match xs with
  | [x,y,u,v,h]=>Zt x y u v h
  |_=>[])
 else if C= "Cloth" then(match xs with
  | [a,b,c,d,e,f,g,h,i]=>[(a,b,c),(d,e,f),(g,h,i)]
  |_=>[])
 else(match xs with
  | [x,y,u,v,h]=>ZM x y u v h
  |_=>[])
def Z9(w:Str)(xs:List Int):List P3:=Z3 (Za w) xs
theorem ZG{C:String}(hC:(["Thing","Post","Fence","Sail","Cloth","House"]:List String).contains C=true)(w:Str)(xs:List Int):aD ["Thing","Post","Fence","Sail","Cloth","House"] (Str.ofString "numbers") (Z4 C w xs)=some (.lst (xs.map .int)):=by
 unfold aD Z4
 dsimp only
 rw[if_pos hC]
 have:(Str.ofString "numbers" == Str.ofString "word")=false:=by decide +kernel
 show List.lookup _ [(_,_),(_,_)]=_
 rw[List.lookup_cons,this]
 simp
theorem Z0j(x y u v z:Int):iQ [.sh (.int x),.sh (.int y),.sh (.int u),.sh (.int v),.sh (.int z)]=.ret (.ow ((Zt x y u v z).map c3)):=by
 simp[iQ,Bg,List.replicate,Zt,c3]
theorem Z0k(x y u v h:Int):yW [.sh (.int x),.sh (.int y),.sh (.int u),.sh (.int v),.sh (.int h)]=.ret (.ow ((ZM x y u v h).map c3)):=by
 simp[yW,Jt,List.replicate,Z0j,ZM,Zt,add_l]
theorem Z2c{xs:List Int}(h:Ze xs=true)(w:Str):lE [.sh (Z4 "Post" w xs)]=.ret (.ow ((Z3 "Post" xs).map c3)):=by
 match xs,h with
 | [p,q,h],hh=>
   simp[Ze,aN,zy] at hh
   have hf:=ZG (C:= "Post") (by decide) w [p,q,h]
   generalize Z4 "Post" w [p,q,h]=v at *
   have e:=Z0k (2*p-1) (2*q-1) (2*p+1) (2*q+1) h
   simp[lE,Bh,List.replicate,hf,e,Z3]
theorem Z1N{xs:List Int}(h:Zb xs=true)(w:Str):yX [.sh (Z4 "Fence" w xs)]=.ret (.ow ((Z3 "Fence" xs).map c3)):=by
 match xs,h with
 | [x,y,u,v,h],hh=>
   have hf:=ZG (C:= "Fence") (by decide) w [x,y,u,v,h]
   generalize Z4 "Fence" w [x,y,u,v,h]=t at *
   simp[yX,Ju,List.replicate,hf,Z3,c3,ļ]
theorem Z2d{xs:List Int}(h:Z7 xs=true)(w:Str):lF [.sh (Z4 "Sail" w xs)]=.ret (.ow ((Z3 "Sail" xs).map c3)):=by
 match xs,h with
 | [x,y,u,v,h],hh=>
   have hf:=ZG (C:= "Sail") (by decide) w [x,y,u,v,h]
   generalize Z4 "Sail" w [x,y,u,v,h]=t at *
   have e:=Z0j x y u v h
   simp[lF,Bj,List.replicate,hf,e,Z3]
theorem Z1O{xs:List Int}(h:Z7 xs=true)(w:Str):lH [.sh (Z4 "House" w xs)]=.ret (.ow ((Z3 "House" xs).map c3)):=by
 match xs,h with
 | [x,y,u,v,h],hh=>
   have hf:=ZG (C:= "House") (by decide) w [x,y,u,v,h]
   generalize Z4 "House" w [x,y,u,v,h]=t at *
   have e:=Z0k x y u v h
   simp[lH,Bl,List.replicate,hf,e,Z3]
theorem Z1P{xs:List Int}(h:Zc xs=true)(w:Str):lG [.sh (Z4 "Cloth" w xs)]=.ret (.ow ((Z3 "Cloth" xs).map c3)):=by
 match xs,h with
 | [a,b,c,d,e,f,g,i,j],hh=>
   have hf:=ZG (C:= "Cloth") (by decide) w [a,b,c,d,e,f,g,i,j]
   generalize Z4 "Cloth" w [a,b,c,d,e,f,g,i,j]=t at *
   simp[lG,Bk,List.replicate,hf,Z3,c3,ň,Sd,bT]
   exact⟨rfl,rfl,rfl⟩
def cst(r p:P3):Hu.Pt:=(r.2.2*p.1+r.1*p.2.2,r.2.2*p.2.1+r.2.1*p.2.2)
def RB(r:P3):Prop:=-1000000≤r.1∧r.1≤1000000∧ -1000000≤r.2.1∧r.2.1≤1000000∧ -1000000≤r.2.2∧r.2.2≤1000000
def PB(p:P3):Prop:=-10000000000≤p.1∧p.1≤10000000000∧ -10000000000≤p.2.1∧p.2.1≤10000000000∧ -10000000000≤p.2.2∧p.2.2≤10000000000
theorem Z0F{r:P3}(hr:RB r)(p:P3):iM [.sh (c3 p),.sh (c3 r)]=.ret (.sh (pt (cst r p))):=by
 obtain⟨a1,a2,a3,a4,a5,a6⟩:=hr
 have m1:ŗ r.2.2 p.1=true:=aV (by omega) (by omega)
 have m2:ŗ r.2.2 p.2.1=true:=aV (by omega) (by omega)
 have m3:ŗ r.1 p.2.2=true:=aV (by omega) (by omega)
 have m4:ŗ r.2.1 p.2.2=true:=aV (by omega) (by omega)
 simp[iM,Bf,List.replicate,pt,c3,cst,m1,m2,m3,m4]
theorem ZT{x y A B:Int}(h1: -A≤x)(h2:x≤A)(h3: -B≤y)(h4:y≤B): -(A*B)≤x*y∧x*y≤A*B:=by
 have hA:0≤A:=by omega
 have hB:0≤B:=by omega
 have e:(x*y).natAbs≤A.natAbs*B.natAbs:=by
  rw[Int.natAbs_mul]
  exact Nat.mul_le_mul (by omega) (by omega)
 have e2:((A*B).natAbs)=A.natAbs*B.natAbs:=Int.natAbs_mul A B
 have e3:0≤A*B:=Int.mul_nonneg hA hB
 omega
theorem Z0l{r p:P3}(hr:RB r)(hp:PB p):Sm (cst r p):=by
 obtain⟨a1,a2,a3,a4,a5,a6⟩:=hr
 obtain⟨b1,b2,b3,b4,b5,b6⟩:=hp
 have q1:=ZT a5 a6 b1 b2
 have q2:=ZT a5 a6 b3 b4
 have q3:=ZT a1 a2 b5 b6
 have q4:=ZT a3 a4 b5 b6
 simp only[Sm,cst]
 omega
theorem Z17{w:Str}{xs:List Int}(hg:Z5 w xs=true){mo:M PV}{ρ ρ1:List P.Slot}(ho:mo ρ=.ok (Z4 (Za w) w xs) ρ1):n_ (Str.ofString "corners") [("Post",lE),("Fence",yX),("Sail",lF),("Cloth",lG),("House",lH)] mo Ď ρ=.ok (.ow ((Z9 w xs).map c3)) ρ1:=by
 have hn:(["word","numbers"]:List Str).contains (Str.ofString "corners")=false:=by decide +kernel
 have key:∀(C:String) (mf:MF),Za w=C→List.lookup C [("Post",lE),("Fence",yX),("Sail",lF),("Cloth",lG),("House",lH)]=some mf→mf [.sh (Z4 C w xs)]=.ret (.ow ((Z3 C xs).map c3))→n_ (Str.ofString "corners") [("Post",lE),("Fence",yX),("Sail",lF),("Cloth",lG),("House",lH)] mo Ď ρ=.ok (.ow ((Z9 w xs).map c3)) ρ1:=by
  intro C mf hC hl hf
  unfold Z9
  rw[hC] at ho ⊢
  unfold n_
  rw[ho]
  unfold Z4 at *
  simp only[Res.bind]
  rw[hl]
  dsimp only
  rw[if_neg (by rw[hn];decide)]
  simp only[Ď,Res.bind]
  rw[hf]
 unfold Z5 at hg
 by_cases e1:w= "post"
 ·rw[if_pos e1] at hg
  exact key "Post" _ (by unfold Za;rw[if_pos e1]) rfl (Z2c hg w)
 rw[if_neg e1] at hg
 by_cases e2:w= "fence"
 ·rw[if_pos e2] at hg
  exact key "Fence" _ (by unfold Za;rw[if_neg e1,if_pos e2]) rfl (Z1N hg w)
 rw[if_neg e2] at hg
 by_cases e3:w= "sail"
 ·rw[if_pos e3] at hg
  exact key "Sail" _ (by unfold Za;rw[if_neg e1,if_neg e2,if_pos e3]) rfl (Z2d hg w)
 rw[if_neg e3] at hg
 by_cases e4:w= "cloth"
 ·rw[if_pos e4] at hg
  exact key "Cloth" _ (by unfold Za;rw[if_neg e1,if_neg e2,if_neg e3,if_pos e4]) rfl (Z1P hg w)
 rw[if_neg e4] at hg
 by_cases e5:w= "house"
 ·rw[if_pos e5] at hg
  exact key "House" _ (by unfold Za;rw[if_neg e1,if_neg e2,if_neg e3,if_neg e4]) rfl (Z1O hg w)
 ·rw[if_neg e5] at hg
  cases hg
theorem Z0P{r:P3}(hr:RB r){L:List P3}(hl:L.length≤100)(s1:P.Slot):ň (gN 1) Ŋ (ĕ (đ iM (ą 1 (ą 0 Ď)))) (L.map c3) [.sh (c3 r),s1] []=some ((L.map (cst r)).map pt):=by
 have:=Ő (g:=gN 1) (mt:=Ŋ) (me:=ĕ (đ iM (ą 1 (ą 0 Ď)))) c3 (fun p=>pt (cst r p)) (fun ρ=>∃s,ρ=[.sh (c3 r),s]) L [.sh (c3 r),s1] [] ⟨_,rfl⟩ (by simp;omega) (by
  rintro p hp ρ ⟨s,rfl⟩
  have e:=Z0F hr p
  generalize c3 r=R at *
  generalize c3 p=Q at *
  exact⟨[R |> .sh,.sh Q],[.sh R,.sh Q],[.sh R,.sh Q],by simp,by simp,by simp[e],_,rfl⟩)
 rw[this]
 simp
theorem Z0m{w:Str}{xs:List Int}(hg:Z5 w xs=true)(hl:(Z9 w xs).length≤100){r:P3}(hr:RB r):jE [.sh (Z4 (Za w) w xs),.sh (c3 r)]=.ret (.ow (((Z9 w xs).map (cst r)).map pt)):=by
 have h1:=Z17 hg (mo:=ġ 0) (ρ:= [.sh (Z4 (Za w) w xs),.sh (c3 r)]) (ρ1:=[.sh (Z4 (Za w) w xs),.sh (c3 r)]) (by simp)
 have h2:=Z0P hr hl
 generalize ((Z9 w xs).map (cst r)).map pt=Y at *
 generalize (Z9 w xs).map c3=Z at *
 generalize Z4 (Za w) w xs=v at *
 generalize c3 r=R at *
 simp[jE,Bm,List.replicate,h1,h2,-Ti]
def vM(s:Hu.Pt):P3:=(2*s.1,2*s.2,0)
theorem Z0n{w:Str}{xs:List Int}(hg:Z5 w xs=true):(Z9 w xs).length≤8∧Z9 w xs≠[]∧∀p∈Z9 w xs,PB p:=by
 have hp:Ze xs=true→(Z3 "Post" xs).length≤8∧Z3 "Post" xs≠[]∧∀p∈Z3 "Post" xs,PB p:=by
  intro h
  match xs,h with
  | [a,b,c],h=>
    simp[Ze,aN,zy] at h
    simp[Z3,ZM,Zt,PB]
    omega
 have hf:Zb xs=true→(Z3 "Fence" xs).length≤8∧Z3 "Fence" xs≠[]∧∀p∈Z3 "Fence" xs,PB p:=by
  intro h
  match xs,h with
  | [a,b,c,d,e],h=>
    simp[Zb,Zf,aN,zy] at h
    simp[Z3,PB]
    omega
 have hs:Z7 xs=true→(Z3 "Sail" xs).length≤8∧Z3 "Sail" xs≠[]∧∀p∈Z3 "Sail" xs,PB p:=by
  intro h
  match xs,h with
  | [a,b,c,d,e],h=>
    simp[Z7,Zf,aN,zy] at h
    simp[Z3,Zt,PB]
    omega
 have hh:Z7 xs=true→(Z3 "House" xs).length≤8∧Z3 "House" xs≠[]∧∀p∈Z3 "House" xs,PB p:=by
  intro h
  match xs,h with
  | [a,b,c,d,e],h=>
    simp[Z7,Zf,aN,zy] at h
    simp[Z3,ZM,Zt,PB]
    omega
 have hc:Zc xs=true→(Z3 "Cloth" xs).length≤8∧Z3 "Cloth" xs≠[]∧∀p∈Z3 "Cloth" xs,PB p:=by
  intro h
  match xs,h with
  | [a,b,c,d,e,f,g,i,j],h=>
    simp[Zc,aN,zA] at h
    simp[Z3,PB]
    omega
 unfold Z5 at hg
 unfold Z9 Za
 by_cases e1:w= "post"
 ·rw[if_pos e1] at hg ⊢;exact hp hg
 rw[if_neg e1] at hg ⊢
 by_cases e2:w= "fence"
 ·rw[if_pos e2] at hg ⊢;exact hf hg
 rw[if_neg e2] at hg ⊢
 by_cases e3:w= "sail"
 ·rw[if_pos e3] at hg ⊢;exact hs hg
 rw[if_neg e3] at hg ⊢
 by_cases e4:w= "cloth"
 ·rw[if_pos e4] at hg ⊢;exact hc hg
 rw[if_neg e4] at hg ⊢
 by_cases e5:w= "house"
 ·rw[if_pos e5] at hg;exact hh hg
 ·rw[if_neg e5] at hg;cases hg
def shB(w:Str)(xs:List Int)(s:Hu.Pt)(r:P3):Bool:=(Hu.Zx ((Z9 w xs).map (cst r)) (cst r (vM s))).isNone
theorem Z18(b:Nat):Builtin.bitNot (b:Int)= -(b:Int)-1:=rfl
theorem Z19(a b:Nat):Builtin.bitOr a b=((a ||| b:Nat):Int):=by
 unfold Builtin.bitOr Builtin.bitAnd
 rw[Z18,Z18]
 have h1:decide (0≤ -(a:Int)-1)=false:=by simp;omega
 have h2:decide (0≤ -(b:Int)-1)=false:=by simp;omega
 rw[h1,h2]
 have e1:(Builtin.bitNot (-(a:Int)-1)).toNat=a:=by unfold Builtin.bitNot;omega
 have e2:(Builtin.bitNot (-(b:Int)-1)).toNat=b:=by unfold Builtin.bitNot;omega
 simp only[e1,e2]
 unfold Builtin.bitNot
 omega
theorem Z1Q(a k:Nat):(a:Int) / 2 ^ k=((a >>> k:Nat):Int):=by
 rw[Nat.shiftRight_eq_div_pow]
 simp
theorem Z1R(a k:Nat):(a:Int) / 2 ^ k % 2=if a.testBit k then 1 else 0:=by
 rw[Z1Q]
 have:(a >>> k) % 2=if a.testBit k then 1 else 0:=by
  rw[Nat.testBit]
  have h:1 &&& (a >>> k)=(a >>> k) % 2:=by rw[Nat.and_comm];exact Nat.and_one_is_mod _
  rw[h]
  have:(a >>> k) % 2=0∨(a >>> k) % 2=1:=by omega
  rcases this with e|e<;>simp[e]
 by_cases q:a.testBit k=true
 ·rw[if_pos q] at this ⊢;omega
 ·rw[if_neg q] at this ⊢;omega
theorem Z2u(a:Int):Builtin.bitAnd a 1=a % 2:=PyProof.Rows.bitAnd_m1 a
theorem Z1r(f l k:Nat)(h:f≤l):(2 ^ (l+1)-2 ^ f).testBit k=(decide (f≤k) && decide (k≤l)):=by
 have e:2 ^ (l+1)-2 ^ f=(2 ^ (l+1-f)-1)*2 ^ f:=by
  rw[Nat.sub_mul,←Nat.pow_add,Nat.one_mul]
  congr 2
  omega
 rw[e,Nat.testBit_mul_two_pow,Nat.testBit_two_pow_sub_one]
 by_cases h1:f≤k
 ·simp[h1]
  by_cases h2:k≤l
  ·simp[h2];omega
  ·simp[h2];omega
 ·simp[h1]
theorem Z0Q{a n:Nat}(h:∀k,n≤k→a.testBit k=false):a<2 ^ n:=Nat.lt_pow_two_of_testBit a h
theorem Z2e{k:Nat}(h:k≤1000000):nP 1 (k:Int)=true:=by unfold nP;simp;omega
theorem Z0G{f l:Int}{w:Nat}(hf:0≤f)(hl:l<w)(hw:w≤1000):∃B:Nat,jF [.sh (.int f),.sh (.int l)]=.ret (.sh (.int B))∧∀k:Nat,B.testBit k=(decide (f≤k) && decide ((k:Int)≤l)):=by
 by_cases h:l<f
 ·refine⟨0,by simp[jF,uW,List.replicate,h],fun k=>?_⟩
  by_cases h1:f≤k
  ·have h2:¬(k:Int)≤l:=by omega
   simp[h2]
  ·simp[h1]
 ·obtain⟨F,rfl⟩:=Int.eq_ofNat_of_zero_le hf
  obtain⟨L,rfl⟩:=Int.eq_ofNat_of_zero_le (by omega:0≤l)
  have e1:=Z2e (k:=L+1) (by omega)
  have e2:=Z2e (k:=F) (by omega)
  have hp:2 ^ F≤2 ^ (L+1):=Nat.pow_le_pow_right (by omega) (by omega)
  refine⟨2 ^ (L+1)-2 ^ F,?_,fun k=>?_⟩
  ·have t1:((L:Int)+1).toNat=L+1:=by omega
   have t2:((L:Int)+1)=((L+1:Nat):Int):=by omega
   simp only[Int.natCast_add,Int.cast_ofNat_Int] at e1
   have h':¬(L:Int)<F:=h
   simp[jF,uW,List.replicate,h',e1,e2,t1]
   rw[Int.natCast_sub hp]
   simp
  ·rw[Z1r F L k (by omega)]
   simp
def inR(L:List Hu.Ln)(u q k:Int):Prop:=∀l∈L,l.1*(u*k)+l.2.1*(u*q)≤l.2.2
theorem Z0H{a b k:Int}(hb:0<b):k≤a.fdiv b↔k*b≤a:=by
 rw[Int.fdiv_eq_ediv_of_nonneg _ (Int.le_of_lt hb)]
 exact Int.le_ediv_iff_mul_le hb
theorem Z0o{u q:Int}{w:Nat}(hu:0<u)(hu2:u≤10000000)(hq:0≤q)(hq2:q≤1000)(s0:P.Slot):∀(L:List Hu.Ln),(∀l∈L,Wu l)→∀(f la:Int) (s6 s7 s8 s9 zu:P.Slot),0≤f→la<w→
 (∃f' Qt RM Ww Gg Gh zp,forL (gT 3 (ĥ (gN 6) (ĥ (gN 7) (ĥ (gN 8) Ū)))) cU (L.map cH) [s0,.sh (.int u),.sh (.int q),.sh (.int w),.sh (.int f),.sh (.int la),s6,s7,s8,s9,zu]=.ok .nx [s0,.sh (.int u),.sh (.int q),.sh (.int w),.sh (.int f'),.sh (.int Qt),RM,Ww,Gg,Gh,zp]∧0≤f'∧Qt<w∧∀k:Int,(f'≤k∧k≤Qt)↔(f≤k∧k≤la∧inR L u q k))∨
 (∃ρ',forL (gT 3 (ĥ (gN 6) (ĥ (gN 7) (ĥ (gN 8) Ū)))) cU (L.map cH) [s0,.sh (.int u),.sh (.int q),.sh (.int w),.sh (.int f),.sh (.int la),s6,s7,s8,s9,zu]=.ok (.rt (.sh (.int 0))) ρ'∧∀k:Int,¬inR L u q k)
 | [],_,f,la,s6,s7,s8,s9,zu,h1,h2=>.inl ⟨f,la,s6,s7,s8,s9,zu,rfl,h1,h2,fun k=>by simp[inR]⟩
 |l::L,hS,f,la,s6,s7,s8,s9,zu,h1,h2=>by
  have hl:=hS l List.mem_cons_self
  have ih:=fun(f la:Int) (s6 s7 s8 s9 zu:P.Slot)=>Z0o (w:=w) hu hu2 hq hq2 s0 L (fun x hx=>hS x (List.mem_cons_of_mem _ hx)) f la s6 s7 s8 s9 zu
  have m1:ŗ l.1 u=true:=aV (by have:=hl.1;omega) (by have:=hl.2.1;omega)
  have m2:ŗ l.2.1 u=true:=aV (by have:=hl.2.2.1;omega) (by have:=hl.2.2.2;omega)
  have m3:ŗ (l.2.1*u) q=true:=mul_r (by omega) (by omega)
  have bs:=ZT hl.1 hl.2.1 (show -10000000≤u by omega) hu2
  obtain⟨st,hst⟩:∃st,l.1*u=st:=⟨_,rfl⟩
  obtain⟨ro,hro⟩:∃ro,l.2.2-l.2.1*u*q=ro:=⟨_,rfl⟩
  rw[hst] at bs
  have hin:∀k:Int,inR (l::L) u q k↔(k*st≤ro∧inR L u q k):=fun k=>by
   unfold inR
   rw[List.forall_mem_cons]
   have e:l.1*(u*k)=k*st:=by rw[←hst,←Int.mul_assoc,Int.mul_comm]
   have e2:l.2.1*(u*q)=l.2.1*u*q:=by rw[Int.mul_assoc]
   rw[e,e2]
   constructor
   ·rintro ⟨a,b⟩;exact⟨by omega,b⟩
   ·rintro ⟨a,b⟩;exact⟨by omega,b⟩
  have gg:gT 3 (ĥ (gN 6) (ĥ (gN 7) (ĥ (gN 8) Ū))) (cH l) [s0,.sh (.int u),.sh (.int q),.sh (.int w),.sh (.int f),.sh (.int la),s6,s7,s8,s9,zu]=some [s0,.sh (.int u),.sh (.int q),.sh (.int w),.sh (.int f),.sh (.int la),.sh (.int l.1),.sh (.int l.2.1),.sh (.int l.2.2),s9,zu]:=by simp[cH]
  rw[List.map_cons,forL,gg]
  dsimp only
  by_cases c1:0<st
  ·have d1:eX ro st=true:=wJ (by omega) (Nat.le_trans (jz (n:=200) (by omega) (by omega)) (by decide))
   have e:cU [s0,.sh (.int u),.sh (.int q),.sh (.int w),.sh (.int f),.sh (.int la),.sh (.int l.1),.sh (.int l.2.1),.sh (.int l.2.2),s9,zu]=.ok .nx [s0,.sh (.int u),.sh (.int q),.sh (.int w),.sh (.int f),.sh (.int (min la (ro.fdiv st))),.sh (.int l.1),.sh (.int l.2.1),.sh (.int l.2.2),.sh (.int st),.sh (.int ro)]:=by
    simp[cU,m1,m2,m3,hst,hro,c1,d1]
    split<;>omega
   rw[e]
   rcases ih f (min la (ro.fdiv st)) (.sh (.int l.1)) (.sh (.int l.2.1)) (.sh (.int l.2.2)) (.sh (.int st)) (.sh (.int ro)) h1 (by omega) with⟨f',Qt,RM,Ww,Gg,Gh,zp,q1,q2,q3,q4⟩|⟨ρ',q1,q2⟩
   ·refine .inl ⟨f',Qt,RM,Ww,Gg,Gh,zp,q1,q2,q3,fun k=>?_⟩
    rw[q4,hin]
    have:=Z0H (a:=ro) (k:=k) c1
    constructor
    ·rintro ⟨a,b,c⟩;exact⟨a,by omega,this.mp (by omega),c⟩
    ·rintro ⟨a,b,c,d⟩;exact⟨a,by have:=this.mpr c;omega,d⟩
   ·exact .inr ⟨ρ',q1,fun k=>by rw[hin];exact fun h=>q2 k h.2⟩
  ·by_cases c2:st<0
   ·have d1:eX ro (-st)=true:=wJ (by omega) (Nat.le_trans (jz (n:=200) (by omega) (by omega)) (by decide))
    have e:cU [s0,.sh (.int u),.sh (.int q),.sh (.int w),.sh (.int f),.sh (.int la),.sh (.int l.1),.sh (.int l.2.1),.sh (.int l.2.2),s9,zu]=.ok .nx [s0,.sh (.int u),.sh (.int q),.sh (.int w),.sh (.int (max f (-(ro.fdiv (-st))))),.sh (.int la),.sh (.int l.1),.sh (.int l.2.1),.sh (.int l.2.2),.sh (.int st),.sh (.int ro)]:=by
     simp[cU,m1,m2,m3,hst,hro,c1,c2,d1]
     split<;>omega
    rw[e]
    rcases ih (max f (-(ro.fdiv (-st)))) la (.sh (.int l.1)) (.sh (.int l.2.1)) (.sh (.int l.2.2)) (.sh (.int st)) (.sh (.int ro)) (by omega) h2 with⟨f',Qt,RM,Ww,Gg,Gh,zp,q1,q2,q3,q4⟩|⟨ρ',q1,q2⟩
    ·refine .inl ⟨f',Qt,RM,Ww,Gg,Gh,zp,q1,q2,q3,fun k=>?_⟩
     rw[q4,hin]
     have:=Z0H (a:=ro) (b:=-st) (k:=-k) (by omega)
     rw[Int.neg_mul_neg] at this
     constructor
     ·rintro ⟨a,b,c⟩;exact⟨by omega,b,this.mp (by omega),c⟩
     ·rintro ⟨a,b,c,d⟩;exact⟨by have:=this.mpr c;omega,b,d⟩
    ·exact .inr ⟨ρ',q1,fun k=>by rw[hin];exact fun h=>q2 k h.2⟩
   ·have c0:st=0:=by omega
    subst c0
    by_cases c3:ro<0
    ·refine .inr ⟨_,by simp[cU,m1,m2,m3,hst,hro,c3];rfl,fun k=>?_⟩
     rw[hin]
     rintro ⟨a,_⟩
     omega
    ·have e:cU [s0,.sh (.int u),.sh (.int q),.sh (.int w),.sh (.int f),.sh (.int la),.sh (.int l.1),.sh (.int l.2.1),.sh (.int l.2.2),s9,zu]=.ok .nx [s0,.sh (.int u),.sh (.int q),.sh (.int w),.sh (.int f),.sh (.int la),.sh (.int l.1),.sh (.int l.2.1),.sh (.int l.2.2),.sh (.int 0),.sh (.int ro)]:=by
      simp[cU,m1,m2,m3,hst,hro,c3]
     rw[e]
     rcases ih f la (.sh (.int l.1)) (.sh (.int l.2.1)) (.sh (.int l.2.2)) (.sh (.int 0)) (.sh (.int ro)) h1 h2 with⟨f',Qt,RM,Ww,Gg,Gh,zp,q1,q2,q3,q4⟩|⟨ρ',q1,q2⟩
     ·refine .inl ⟨f',Qt,RM,Ww,Gg,Gh,zp,q1,q2,q3,fun k=>?_⟩
      rw[q4,hin]
      constructor
      ·rintro ⟨a,b,c⟩;exact⟨a,b,by omega,c⟩
      ·rintro ⟨a,b,c,d⟩;exact⟨a,b,d⟩
     ·exact .inr ⟨ρ',q1,fun k=>by rw[hin];exact fun h=>q2 k h.2⟩
theorem Z2f{u q:Int}{w:Nat}(hu:0<u)(hu2:u≤10000000)(hq:0≤q)(hq2:q≤1000)(hw:w≤1000){L:List Hu.Ln}(hS:∀l∈L,Wu l){sl:P.Slot}(hs:Sl sl (L.map cH)) :
 ∃B:Nat,oW [sl,.sh (.int u),.sh (.int q),.sh (.int w)]=.ret (.sh (.int B))∧∀k:Nat,B.testBit k=true↔(k<w∧inR L u q k):=by
 rcases Z0o (w:=w) hu hu2 hq hq2 sl L hS 0 (w-1) .no .no .no .no .no (by omega) (by omega) with⟨f',Qt,RM,Ww,Gg,Gh,zp,q1,q2,q3,q4⟩|⟨ρ',q1,q2⟩
 ·obtain⟨B,b1,b2⟩:=Z0G (f:=f') (l:=Qt) q2 q3 hw
  refine⟨B,by rcases hs with rfl|rfl<;>simp[oW,uX,List.replicate,q1,b1],fun k=>?_⟩
  rw[b2,Bool.and_eq_true,decide_eq_true_eq,decide_eq_true_eq,q4 k]
  constructor
  ·rintro ⟨a,b,c⟩;exact⟨by omega,c⟩
  ·rintro ⟨a,b⟩;exact⟨by omega,by omega,b⟩
 ·refine⟨0,by rcases hs with rfl|rfl<;>simp[oW,uX,List.replicate,q1],fun k=>?_⟩
  simp
  exact fun _=>q2 k
abbrev Th:=Str×List Int
def jK(t:Th):PV:=Z4 (Za t.1) t.1 t.2
def fH:Option P3→PV
 |none=>.non
 |some r=>c3 r
abbrev Dy:=Str×Int×List (Option P3)
def bC(d:Dy):PV:=.tup [.str d.1,.int d.2.1,.lst (d.2.2.map fH)]
def Z0(w h:Int)(T:List Th)(D:List Dy):PV:=.ins "Yard" ["width","height","things","days"] [.int w,.int h,.lst (T.map jK),.lst (D.map bC)]
theorem ywh:(Str.ofString "width" =Str.ofString "height")=False:=eq_false (by decide +kernel)
theorem ywt:(Str.ofString "width" =Str.ofString "things")=False:=eq_false (by decide +kernel)
theorem ywd:(Str.ofString "width" =Str.ofString "days")=False:=eq_false (by decide +kernel)
theorem yht:(Str.ofString "height" =Str.ofString "things")=False:=eq_false (by decide +kernel)
theorem yhd:(Str.ofString "height" =Str.ofString "days")=False:=eq_false (by decide +kernel)
theorem ytd:(Str.ofString "things" =Str.ofString "days")=False:=eq_false (by decide +kernel)
theorem y_w(w h:Int)(T:List Th)(D:List Dy):aD ["Yard"] (Str.ofString "width") (Z0 w h T D)=some (.int w):=by
 unfold aD Z0
 simp
theorem y_h(w h:Int)(T:List Th)(D:List Dy):aD ["Yard"] (Str.ofString "height") (Z0 w h T D)=some (.int h):=by
 have:(Str.ofString "height" == Str.ofString "width")=false:=by decide +kernel
 unfold aD Z0
 simp[List.lookup_cons,this]
theorem y_t(w h:Int)(T:List Th)(D:List Dy):aD ["Yard"] (Str.ofString "things") (Z0 w h T D)=some (.lst (T.map jK)):=by
 have e1:(Str.ofString "things" == Str.ofString "width")=false:=by decide +kernel
 have e2:(Str.ofString "things" == Str.ofString "height")=false:=by decide +kernel
 unfold aD Z0
 simp[List.lookup_cons,e1,e2]
theorem y_d(w h:Int)(T:List Th)(D:List Dy):aD ["Yard"] (Str.ofString "days") (Z0 w h T D)=some (.lst (D.map bC)):=by
 have e1:(Str.ofString "days" == Str.ofString "width")=false:=by decide +kernel
 have e2:(Str.ofString "days" == Str.ofString "height")=false:=by decide +kernel
 have e3:(Str.ofString "days" == Str.ofString "things")=false:=by decide +kernel
 unfold aD Z0
 simp[List.lookup_cons,e1,e2,e3]
theorem Z1a(D:List Dy)(hD:D.length≤100000)(s0 s1 s2:P.Slot):ň (gT 3 (ĥ (gN 0) (ĥ (gN 1) (ĥ (gN 2) Ū)))) Ŋ (Ř (Ą (ġ 0) (Ą (ġ 1) (Ą (ĕ (nG dI (Ą (Ā 2) ě))) ě)))) (D.map bC) [s0,s1,s2] []=some (D.map bC):=by
 have h:=Ő (g:=gT 3 (ĥ (gN 0) (ĥ (gN 1) (ĥ (gN 2) Ū)))) (mt:=Ŋ) (me:=Ř (Ą (ġ 0) (Ą (ġ 1) (Ą (ĕ (nG dI (Ą (Ā 2) ě))) ě)))) bC bC (fun ρ=>∃a b c,ρ=[a,b,c]) D [s0,s1,s2] [] ⟨_,_,_,rfl⟩ (by simp;omega) (by
  rintro d _ ρ ⟨a,b,c,rfl⟩
  refine⟨[.sh (.str d.1),.sh (.int d.2.1),.sh (.lst (d.2.2.map fH))],[.sh (.str d.1),.sh (.int d.2.1),.sh (.lst (d.2.2.map fH))],[.sh (.str d.1),.sh (.int d.2.1),.sh (.lst (d.2.2.map fH))],by simp[bC],rfl,by simp[bC],_,_,_,rfl⟩)
 simpa using h
theorem Z1S(w h:Int){T:List Th}{D:List Dy}(hT:T.length≤100000)(hD:D.length≤100000){s3 s4:P.Slot}(h3:Sl s3 (T.map jK))(h4:Sl s4 (D.map bC)):jB [.sh (.int w),.sh (.int h),s3,s4]=.ok ["width","height","things","days"] [.int w,.int h,.lst (T.map jK),.lst (D.map bC)]:=by
 have c:=Z1a D hD .no .no .no
 generalize hx:T.map jK=tx at *
 generalize hy:D.map bC=dx at *
 rcases h3 with rfl|rfl<;>rcases h4 with rfl|rfl<;>simp[jB,cO,Aw,iH,IR.of,List.replicate,putN,wK,ywh,ywt,ywd,yht,yhd,ytd,c]
theorem Z2g{k q w:Nat}(hw:0<w):(q*w≤k∧k-q*w<w)↔k / w=q:=by
 constructor
 ·rintro ⟨a,b⟩
  exact Nat.div_eq_of_lt_le a (by rw[Nat.add_mul];omega)
 ·rintro rfl
  have h1:=Nat.div_mul_le_self k w
  have h2:=Nat.mod_lt k hw
  have h3:=Nat.mod_eq_sub_div_mul (x:=k) (k:=w)
  omega
theorem Z2h{k q w:Nat}(h:k / w=q):k-q*w=k % w:=by
 subst h
 exact(Nat.mod_eq_sub_div_mul).symm
theorem Z1D{k w h:Nat}(hw:0<w):k / w<h↔k<w*h:=by
 rw[Nat.div_lt_iff_lt_mul hw,Nat.mul_comm]
def bQ(w k:Nat):Hu.Pt:=(((k % w:Nat):Int),((k / w:Nat):Int))
theorem Z1T{S:List Hu.Pt}{r:P3}{p q:Int}:inR (Hu.Zd S) (2*r.2.2) q p↔(Hu.Zx S (cst r (vM (p,q)))).isNone=true:=by
 have e:cst r (vM (p,q))=(2*r.2.2*p,2*r.2.2*q):=by
  unfold cst vM
  simp only[Int.mul_zero,Int.add_zero,Prod.mk.injEq]
  constructor<;>grind
 rw[e]
 unfold Hu.Zx inR Hu.hd
 rw[Option.isNone_iff_eq_none,List.find?_eq_none]
 simp
theorem ZP{α:Type}(y:α):∀(xs b:List α),y∈xs.foldl (fun b x=>x::b) b↔(y∈xs∨y∈b)
 | [],b=>by simp
 |x::xs,b=>by rw[List.foldl_cons,ZP y xs (x::b)];simp;grind
def zq(t:Th)(s:Hu.Pt)(r:P3):Bool:=shB t.1 t.2 s r
theorem Z1b{w h:Nat}(hw:0<w)(hw2:w≤60)(hh:h≤1000)(T:List Th)(Ds:List Dy){t:Th}(hg:Z5 t.1 t.2=true){r:P3}(hr:RB r)(hz:0<r.2.2) :
 ∃D:Nat,lJ [.sh (Z0 w h T Ds),.sh (jK t),.sh (c3 r)]=.ret (.sh (.int D))∧∀k,D.testBit k=(decide (k<w*h) && zq t (bQ w k) r):=by
 obtain⟨g1,g2,g3⟩:=Z0n hg
 have hc:=Z0m hg (by omega) hr
 have hS:∀p∈(Z9 t.1 t.2).map (cst r),Sm p:=by
  intro p hp
  obtain⟨q,hq,rfl⟩:=List.mem_map.mp hp
  exact Z0l hr (g3 q hq)
 have hl:=Z0i (sl:=.sh (.lst (((Z9 t.1 t.2).map (cst r)).map pt))) (.inl rfl) hS (by simpa using g2) (by simp;omega)
 have hls:∀l∈Hu.Zd ((Z9 t.1 t.2).map (cst r)),Wu l:=fun l h=>Z16 h hS
 have yw:=y_w w h T Ds
 have yh:=y_h w h T Ds
 have hv:(2:Int)*r.2.2≤10000000:=by have:=hr.2.2.2.2.2;omega
 generalize hX:Hu.Zd ((Z9 t.1 t.2).map (cst r))=X at *
 generalize hY:Z0 w h T Ds=Y at *
 have hr2:Ě (c3 r) (.int 2)=some (.int r.2.2):=by simp[c3]
 obtain⟨ρ',e1,D,s5,rfl,hD⟩:=cB (g:=gN 5) (mb:=uY) (fun(q:Nat)=>PV.int q) (fun(b:List Nat) (x:Nat)=>x::b) (fun b ρ=>∃(D:Nat) (s5:P.Slot),ρ=[.sh Y,.sh (jK t),.sh (c3 r),.ow (X.map cH),.sh (.int D),s5]∧∀k,D.testBit k=true↔(k / w∈b∧zq t (bQ w k) r=true)) (List.range h) (by
  rintro q hq b ρ ⟨D,s5,rfl,hD⟩
  have hq:=List.mem_range.mp hq
  obtain⟨B,b1,b2⟩:=Z2f (u:=2*r.2.2) (q:=q) (w:=w) (by omega) hv (by omega) (by omega) (by omega) hls (sl:=.bw (X.map cH)) (.inr rfl)
  have hB:B<2 ^ w:=Z0Q fun k hk=>by
   have:=b2 k
   cases e:B.testBit k with
   |false=>rfl
   |true=>have:=(this.mp e).1;omega
  have hB2:B<2 ^ 60:=Nat.lt_of_lt_of_le hB (Nat.pow_le_pow_right (by omega) hw2)
  have hqw:q*w≤1000*60:=Nat.mul_le_mul (by omega) hw2
  have so:nP (B:Int) ((q:Int)*(w:Int))=true:=by
   have:((q:Int)*(w:Int))=((q*w:Nat):Int):=by simp
   rw[this]
   unfold nP
   simp
   omega
  have mo:ŗ (q:Int) (w:Int)=true:=aV (by omega) (by omega)
  have tn:((q:Int)*(w:Int)).toNat=q*w:=by
   have:((q:Int)*(w:Int))=((q*w:Nat):Int):=by simp
   rw[this];rfl
  obtain⟨Z,hZ⟩:∃Z:Nat,Z=D ||| B*2 ^ (q*w):=⟨_,rfl⟩
  have oe:Builtin.bitOr (D:Int) ((B:Int)*2 ^ (q*w))=(Z:Int):=by
   have ee:(B:Int)*2 ^ (q*w)=((B*2 ^ (q*w):Nat):Int):=by simp
   rw[ee,Z19,hZ]
  have m2:ŗ 2 r.2.2=true:=aV (by omega) (by omega)
  generalize c3 r=R at *
  have st:uY [.sh Y,.sh (jK t),.sh R,.ow (X.map cH),.sh (.int D),.sh (.int q)]=.ok .nx [.sh Y,.sh (jK t),.sh R,.ow (X.map cH),.sh (.int Z),.sh (.int q)]:=by
   simp[uY,hr2,yw,m2,b1,mo,so,tn,oe]
  refine⟨_,_,rfl,st,_,_,rfl,fun k=>?_⟩
  rw[hZ,Nat.testBit_or,Bool.or_eq_true,hD,Nat.testBit_mul_two_pow,Bool.and_eq_true,decide_eq_true_eq,b2,List.mem_cons,←hX,Z1T]
  have key:∀(_:k / w=q),((Hu.Zx ((Z9 t.1 t.2).map (cst r)) (cst r (vM (((k-q*w:Nat):Int),(q:Int))))).isNone=true↔zq t (bQ w k) r=true):=by
   intro hk
   unfold zq shB bQ
   rw[Z2h hk,hk]
  have d:=Z2g (k:=k) (q:=q) hw
  constructor
  ·rintro (⟨a,b⟩|⟨a,b,c⟩)
   ·exact⟨.inr a,b⟩
   ·have:=d.mp ⟨a,b⟩
    exact⟨.inl this,(key this).mp c⟩
  ·rintro ⟨a|a,b⟩
   ·have:=d.mpr a
    exact .inr ⟨this.1,this.2,(key a).mpr b⟩
   ·exact .inl ⟨a,b⟩) [] [.sh Y,.sh (jK t),.sh (c3 r),.ow (X.map cH),.sh (.int ((0:Nat):Int)),.no] ⟨0,.no,rfl,by simp⟩
 refine⟨D,?_,fun k=>?_⟩
 ·have rr:=Zs hh
  have hc':jE [.sh (jK t),.sh (c3 r)]=.ret (.ow (((Z9 t.1 t.2).map (cst r)).map pt)):=hc
  generalize c3 r=R at *
  generalize jK t=Tv at *
  simp[lJ,Bo,List.replicate,hc',hl,yh,rr,-List.map_map] at e1 ⊢
  simp[e1]
 ·have:=hD k
  rw[ZP,List.mem_range,Z1D hw] at this
  rw[Bool.eq_iff_iff,this,Bool.and_eq_true,decide_eq_true_eq]
  simp
def Zo:Nat→(Nat→Bool)→Nat
 |0,_=>0
 |n+1,p=>Zo n p+if p n then 2 ^ n else 0
theorem ZQ(p:Nat→Bool):∀n,Zo n p<2 ^ n
 |0=>by simp[Zo]
 |n+1=>by
  have:=ZQ p n
  unfold Zo
  rw[Nat.pow_succ]
  split<;>omega
theorem Zv(p:Nat→Bool):∀n k,(Zo n p).testBit k=(decide (k<n) && p k)
 |0,k=>by simp[Zo]
 |n+1,k=>by
  have hl:=ZQ p n
  unfold Zo
  by_cases h:k<n
  ·have ih:=Zv p n k
   have h1:k<n+1:=by omega
   split
   ·rw[Nat.add_comm,Nat.testBit_two_pow_add_gt h,ih];simp[h,h1]
   ·rw[Nat.add_zero,ih];simp[h,h1]
  ·by_cases h2:k=n
   ·subst h2
    split
    ·rename_i q
     rw[Nat.add_comm,Nat.testBit_two_pow_add_eq,Nat.testBit_lt_two_pow hl];simp[q]
    ·rename_i q
     rw[Nat.add_zero,Nat.testBit_lt_two_pow hl];simp[q]
   ·have h3:¬k<n+1:=by omega
    have:Zo n p+(if p n=true then 2 ^ n else 0)<2 ^ k:=by
     refine Nat.lt_of_lt_of_le (ZQ p (n+1)) (Nat.pow_le_pow_right (by omega) (by omega))
    rw[Nat.testBit_lt_two_pow this]
    simp[h3]
theorem ZR{n:Nat}{p:Nat→Bool}{D:Nat}(h:∀k,D.testBit k=(decide (k<n) && p k)):D=Zo n p:=Nat.eq_of_testBit_eq fun k=>by rw[h,Zv]
def dk1(w h:Nat)(r:P3)(t:Th):Nat:=Zo (w*h) fun k=>zq t (bQ w k) r
def sU(w:Nat)(T:List Th):Option P3→Nat→Bool
 |none,_=>true
 |some r,k=>T.any fun t=>zq t (bQ w k) r
def Cz(w h:Nat)(T:List Th)(o:Option P3):Nat:=Zo (w*h) (sU w T o)
def Wx(o:Option P3):Prop:=match o with|none=>True|some r=>RB r∧0<r.2.2
theorem Z0R{w h:Nat}(hw:0<w)(hw2:w≤60)(hh:h≤1000)(T:List Th)(Ds:List Dy){t:Th}(hg:Z5 t.1 t.2=true){r:P3}(hr:RB r)(hz:0<r.2.2) :
 lJ [.sh (Z0 w h T Ds),.sh (jK t),.sh (c3 r)]=.ret (.sh (.int (dk1 w h r t))):=by
 obtain⟨D,h1,h2⟩:=Z1b hw hw2 hh T Ds hg hr hz
 rw[h1,ZR h2]
 rfl
theorem Z1s{w h:Nat}(hw:0<w)(hw2:w≤60)(hh:h≤1000){T:List Th}(hT:T.length≤1000)(Ds:List Dy)(hg:∀t∈T,Z5 t.1 t.2=true){r:P3}(hr:RB r)(hz:0<r.2.2) :
 Fy [.sh (Z0 w h T Ds),.sh (c3 r)]=.ret (.ow (T.map fun t=>.int (dk1 w h r t))):=by
 have yt:=y_t w h T Ds
 have hc:=Ő (g:=gN 2) (mt:=Ŋ) (me:=ĕ (đ lJ (ą 0 (ą 2 (ą 1 Ď))))) jK (fun t=>.int (dk1 w h r t)) (fun ρ=>∃s,ρ=[.sh (Z0 w h T Ds),.sh (c3 r),s]) T [.sh (Z0 w h T Ds),.sh (c3 r),.no] [] ⟨_,rfl⟩ (by simp;omega) (by
  rintro t ht ρ ⟨s,rfl⟩
  have e:=Z0R hw hw2 hh T Ds (hg t ht) hr hz
  generalize Z0 w h T Ds=Y at *
  generalize c3 r=R at *
  generalize jK t=Tv at *
  refine⟨_,_,_,rfl,rfl,by simp[e];rfl,_,rfl⟩)
 generalize Z0 w h T Ds=Y at *
 generalize c3 r=R at *
 simp[Fy,Jv,List.replicate,yt]
 simp at hc
 simp[hc]
theorem Z1U{w h:Nat}(hw:0<w)(hw2:w≤60)(hh:h≤1000)(hwh:w*h≤1000){T:List Th}(hT:T.length≤1000)(Ds:List Dy)(hg:∀t∈T,Z5 t.1 t.2=true){o:Option P3}(ho:Wx o) :
 fB [.sh (Z0 w h T Ds),.sh (fH o)]=.ret (.sh (.int (Cz w h T o))):=by
 have yw:=y_w w h T Ds
 have yh:=y_h w h T Ds
 have mo:ŗ (w:Int) (h:Int)=true:=aV (by omega) (by omega)
 cases o with
 |none=>
  obtain⟨B,b1,b2⟩:=Z0G (f:=0) (l:=(w:Int)*h-1) (w:=w*h) (by omega) (by rw[Int.natCast_mul];omega) hwh
  have:B=Cz w h T none:=ZR fun k=>by
   rw[b2]
   simp[sU]
   have:((w*h:Nat):Int)=(w:Int)*h:=by simp
   omega
  subst this
  generalize Z0 w h T Ds=Y at *
  simp[fB,uZ,List.replicate,fH,yw,yh,mo,b1,wG]
 |some r=>
  have ho:RB r∧0<r.2.2:=ho
  have hd:=Z1s hw hw2 hh hT Ds hg ho.1 ho.2
  obtain⟨ρ',e1,D,s3,rfl,hD⟩:=cB (g:=gN 3) (mb:=Bp) (fun(t:Th)=>PV.int (dk1 w h r t)) (fun(b:List Th) (x:Th)=>x::b) (fun b ρ=>∃(D:Nat) (s3:P.Slot),ρ=[.sh (Z0 w h T Ds),.sh (c3 r),.sh (.int D),s3]∧∀k,D.testBit k=true↔(k<w*h∧∃t∈b,zq t (bQ w k) r=true)) T (by
   rintro t ht b ρ ⟨D,s3,rfl,hD⟩
   refine⟨_,_,rfl,by simp[Bp,Z19];exact⟨rfl,rfl⟩,_,_,rfl,fun k=>?_⟩
   rw[Nat.testBit_or,Bool.or_eq_true,hD,dk1,Zv,Bool.and_eq_true,decide_eq_true_eq]
   simp
   grind) [] [.sh (Z0 w h T Ds),.sh (c3 r),.sh (.int ((0:Nat):Int)),.no] ⟨0,.no,rfl,by simp⟩
  have:D=Cz w h T (some r):=ZR fun k=>by
   have:=hD k
   rw[Bool.eq_iff_iff,this]
   simp only[ZP,sU,List.not_mem_nil,or_false,Bool.and_eq_true,decide_eq_true_eq,List.any_eq_true]
  subst this
  have hn:pZ (c3 r) .non=some (.bl false):=by simp[c3,wG]
  generalize Z0 w h T Ds=Y at *
  show fB [.sh Y,.sh (c3 r)]=_
  simp at e1
  generalize c3 r=R at *
  have hn:wG R=false:=by simpa using hn
  simp[fB,uZ,List.replicate,hd,hn,e1]
theorem ZH(ns:List Int)(k:Nat):Ů [.sh (.lst (ns.map .int)),.sh (.int k)]=.ret (.sh (.int (ns.getD k 0))):=by
 by_cases h:k<ns.length
 ·have h':(k:Int)<(ns.length:Int):=by omega
  simp[Ů,uH,List.replicate,h',List.getElem?_eq_getElem h]
 ·have h':¬(k:Int)<(ns.length:Int):=by omega
  simp[Ů,uH,List.replicate,h',List.getElem?_eq_none (Nat.le_of_not_lt h)]
@[simp] theorem ZU(ns:List Int)(k:Nat):Ů [.sh (.lst (ns.map .int)),.sh (.int (no_index (OfNat.ofNat k)))]=.ret (.sh (.int (ns.getD k 0))):=ZH ns k
def Gr(x:Int):Prop:=0≤x∧x<524288
theorem Zq(c:Int)(s1:P.Slot):∀(ks:List Nat) (acc:List Int) (n:Int) (s4:P.Slot),acc.length+ks.length≤100000→(∀k∈ks,k≤100000)→(∀x∈acc,Gr x)→∃(acc':List Int) (n':Int) (QB:P.Slot),forL (gN 4) kj (ks.map fun(i:Nat)=>PV.int (i:Int)) [.sh (.int c),s1,.ow (acc.map .int),.sh (.int n),s4]=.ok .nx [.sh (.int c),s1,.ow (acc'.map .int),.sh (.int n'),QB]∧acc'.length=acc.length+ks.length∧∀x∈acc',Gr x
 | [],acc,n,s4,_,_,h=>⟨acc,n,s4,rfl,rfl,h⟩
 |k::ks,acc,n,s4,hl,hk,h=>by
  have hk0:=hk k List.mem_cons_self
  have hl0:acc.length<16777216:=by simp at hl;omega
  rw[List.map_cons,forL]
  have hg:gN 4 (PV.int (k:Int)) [.sh (.int c),s1,.ow (acc.map .int),.sh (.int n),s4]=some [.sh (.int c),s1,.ow (acc.map .int),.sh (.int n),.sh (.int k)]:=rfl
  rw[hg]
  dsimp only
  by_cases h0:c % 2=0
  ·have e:kj [.sh (.int c),s1,.ow (acc.map .int),.sh (.int n),.sh (.int k)]=.ok .nx [.sh (.int c),s1,.ow ((acc ++ [n % 524287]).map .int),.sh (.int (n / 524287)),.sh (.int k)]:=by
    simp[kj,h0,hl0]
   rw[e]
   obtain⟨a,b,d,q1,q2,q3⟩:=Zq c s1 ks (acc ++ [n % 524287]) (n / 524287) (.sh (.int k)) (by simp at hl ⊢;omega) (fun x hx=>hk x (List.mem_cons_of_mem _ hx)) (by
    intro x hx
    rcases List.mem_append.mp hx with hx|hx
    ·exact h x hx
    ·rw[List.mem_singleton.mp hx];unfold Gr;omega)
   exact⟨a,b,d,q1,by simp at q2 ⊢;omega,q3⟩
  ·obtain⟨m,hm⟩:∃m,(n*49157+24593+2*(k:Int)) % 8388593=m:=⟨_,rfl⟩
   have e:kj [.sh (.int c),s1,.ow (acc.map .int),.sh (.int n),.sh (.int k)]=.ok .nx [.sh (.int c),s1,.ow ((acc ++ [m / 16]).map .int),.sh (.int m),.sh (.int k)]:=by
    simp[kj,h0,hl0,hm]
   rw[e]
   obtain⟨a,b,d,q1,q2,q3⟩:=Zq c s1 ks (acc ++ [m / 16]) m (.sh (.int k)) (by simp at hl ⊢;omega) (fun x hx=>hk x (List.mem_cons_of_mem _ hx)) (by
    intro x hx
    rcases List.mem_append.mp hx with hx|hx
    ·exact h x hx
    ·rw[List.mem_singleton.mp hx];unfold Gr;omega)
   exact⟨a,b,d,q1,by simp at q2 ⊢;omega,q3⟩
theorem Z05(c:Int){n:Nat}(hn:n≤1000):∃xs:List Int,iJ [.sh (.int c),.sh (.int n)]=.ret (.ow (xs.map .int))∧xs.length=n∧∀x∈xs,Gr x:=by
 have rr:=Zs hn
 by_cases h:c % 2=1
 ·obtain⟨a,b,d,q1,q2,q3⟩:=Zq c (.sh (.int n)) (List.range n) [] (c / 2 % 8388593) .no (by simp;omega) (fun k hk=>by have:=List.mem_range.mp hk;omega) (by simp)
  refine⟨a,?_,by simpa using q2,q3⟩
  simp at q1
  simp[iJ,uI,List.replicate,h,rr,q1]
 ·obtain⟨a,b,d,q1,q2,q3⟩:=Zq c (.sh (.int n)) (List.range n) [] (c / 2) .no (by simp;omega) (fun k hk=>by have:=List.mem_range.mp hk;omega) (by simp)
  refine⟨a,?_,by simpa using q2,q3⟩
  simp at q1
  simp[iJ,uI,List.replicate,h,rr,q1]
def Pl(x:Int):Prop:=-1000000000+50≤x∧x≤1000000000-50
theorem Zj(n:Int){w:Int}(h1:1≤w)(h2:w≤1000):∃x:Int,bV [.sh (.int n),.sh (.int w)]=.ret (.sh (.int x))∧Pl x:=by
 by_cases h:n / 512 % 16=5
 ·exact⟨n*3813 % 1999999901-1000000000+50,by simp[bV,uM,List.replicate,h],by unfold Pl;omega⟩
 ·have m0:¬(2*w+9=0):=by omega
  have p:=Int.emod_nonneg n (show(2*w+9)≠0 by omega)
  have q:=Int.emod_lt_of_pos n (show 0<(2*w+9) by omega)
  have e:n.fmod (2*w+9)=n % (2*w+9):=Int.fmod_eq_emod_of_nonneg n (by omega)
  exact⟨n % (2*w+9)-4,by simp[bV,uM,List.replicate,h,m0,e],by unfold Pl;omega⟩
theorem ZV(n:Int):∃x:Int,jC [.sh (.int n)]=.ret (.sh (.int x))∧1≤x∧x≤1000000000:=by
 by_cases h:n / 512 % 12=7
 ·exact⟨1+n*1907 % 1000000000,by simp[jC,uL,List.replicate,h],by omega,by omega⟩
 ·exact⟨1+n % 9,by simp[jC,uL,List.replicate,h],by omega,by omega⟩
theorem Z1c{x y h:Int}(a:Pl x)(b:Pl y)(c:1≤h∧h≤1000000000):Z5 "post" [x / 2,y / 2,h]=true:=by
 unfold Pl at a b
 unfold Z5 Ze aN zy
 simp
 omega
theorem QC{a b:String}(h:decide (Str.ofString a=Str.ofString b)=false):¬(Str.ofString a=Str.ofString b):=of_decide_eq_false h
theorem Z0S{x y u v h:Int}(a:Pl x)(b:Pl y)(hu: -4≤u∧u≤4)(hv: -4≤v∧v≤4)(c:1≤h∧h≤1000000000)(e:Int)(he:e=if u=0∧v=0 then 1 else 0):Z5 "fence" [x,y,x+u+e,y+v,h]=true:=by
 have h1:¬(Str.ofString "fence" =Str.ofString "post"):=QC (by decide +kernel)
 unfold Pl at a b
 unfold Z5
 rw[if_neg h1,if_pos rfl]
 unfold Zb Zf aN zy
 simp
 split at he<;>omega
theorem Z0p{w:Str}(hw:w= "sail" ∨w= "house"){x y u v h:Int}(a:Pl x)(b:Pl y)(hu:0≤u∧u≤8)(hv:0≤v∧v≤8)(c:1≤h∧h≤1000000000):Z5 w [x,y,x+1+u,y+1+v,h]=true:=by
 have hb:Z7 [x,y,x+1+u,y+1+v,h]=true:=by
  unfold Pl at a b
  unfold Z7 Zf aN zy
  simp
  omega
 unfold Z5
 rcases hw with rfl|rfl
 ·rw[if_neg (QC (by decide +kernel)),if_neg (QC (by decide +kernel)),if_pos rfl]
  exact hb
 ·rw[if_neg (QC (by decide +kernel)),if_neg (QC (by decide +kernel)),if_neg (QC (by decide +kernel)),if_neg (QC (by decide +kernel)),if_pos rfl]
  exact hb
theorem Z0T{x y z a b c d e f:Int}(h1:Pl x)(h2:Pl y)(h3:0≤z∧z≤1000000000)(h4:Pl a)(h5:Pl b)(h6:1≤c∧c≤1000000000)(h7:Pl d)(h8:Pl e)(h9:1≤f∧f≤1000000000):Z5 "cloth" [x,y,z,a,b,c,d,e,f]=true:=by
 unfold Z5
 rw[if_neg (QC (by decide +kernel)),if_neg (QC (by decide +kernel)),if_neg (QC (by decide +kernel)),if_pos rfl]
 unfold Pl at *
 unfold Zc aN zA
 simp
 omega
theorem Z2v:∀(xs:List Int),xs.length=14→∃a b c d e f g h i j k l m n,xs=[a,b,c,d,e,f,g,h,i,j,k,l,m,n]
 | [a,b,c,d,e,f,g,h,i,j,k,l,m,n],_=>⟨a,b,c,d,e,f,g,h,i,j,k,l,m,n,rfl⟩
theorem Z2w(x y:Hu.Pt):aA (pt x) (pt y)=some (.bl (decide (x=y))):=by
 unfold aA pY
 rw[ZL,ZL,ZE,ZE,Z0e]
 rfl
theorem Z0q:aj [.int 2]=some [.int 0,.int 1]:=by rfl
theorem Z1d(c:Int){w:Int}(hw1:1≤w)(hw2:w≤1000):∃t:Th,dM [.sh (.int c),.sh (.int w)]=.ret (.sh (.tup [.str t.1,.lst (t.2.map .int)]))∧Z5 t.1 t.2=true:=by
 obtain⟨xs,eg,hl,hx⟩:=Z05 c (n:=14) (by omega)
 obtain⟨x0,x1,x2,x3,x4,x5,x6,x7,x8,x9,x10,x11,x12,x13,rfl⟩:=Z2v xs hl
 clear hl hx
 obtain⟨p0,e0,q0⟩:=Zj x0 hw1 hw2
 obtain⟨p1,e1,q1⟩:=Zj x1 hw1 hw2
 obtain⟨z,ez,qz⟩:=ZV x2
 have eg':iJ [.sh (.int c),.sh (.int 14)]=.ret (.ow [.int x0,.int x1,.int x2,.int x3,.int x4,.int x5,.int x6,.int x7,.int x8,.int x9,.int x10,.int x11,.int x12,.int x13]):=eg
 clear eg
 have hc:ň (gN 2) Ŋ (ĕ (đ bV (Ė (Ĉ Ě (Ā 1) (Ā 2)) (ą 0 Ď)))) [PV.int 0,PV.int 1] [.sh (.int w),.bw [.int x0,.int x1,.int x2,.int x3,.int x4,.int x5,.int x6,.int x7,.int x8,.int x9,.int x10,.int x11,.int x12,.int x13],.no] []=some [.int p0,.int p1]:=by
  simp[ň,e0,e1]
 have k:0≤x3 % 5∧x3 % 5<5:=by omega
 obtain⟨kd,hkd⟩:∃kd,x3 % 5=kd:=⟨_,rfl⟩
 rw[hkd] at k
 by_cases k0:kd=0
 ·refine⟨("post",[p0 / 2,p1 / 2,z]),?_,Z1c q0 q1 qz⟩
  simp[dM,jf,List.replicate,eg',Z0q,hc,ez,hkd,k0]
 ·by_cases k1:kd=1
  ·refine⟨("fence",[p0,p1,p0+(x4 % 9-4)+(if x4 % 9-4=0∧x5 % 9-4=0 then 1 else 0),p1+(x5 % 9-4),z]),?_,Z0S q0 q1 (by omega) (by omega) qz _ rfl⟩
   have hq:=Z2w (p0,p1) (p0+x4 % 9-4,p1+x5 % 9-4)
   unfold pt at hq
   dsimp only at hq
   have hi:(if x4 % 9-4=0∧x5 % 9-4=0 then(1:Int) else 0)=if decide ((p0,p1)=(p0+x4 % 9-4,p1+x5 % 9-4))=true then 1 else 0:=by
    simp only[decide_eq_true_eq,Prod.mk.injEq]
    split<;>split<;>omega
   generalize decide ((p0,p1)=(p0+x4 % 9-4,p1+x5 % 9-4))=bb at *
   have a1:p0+(x4 % 9-4)=p0+x4 % 9-4:=by omega
   have a2:p1+(x5 % 9-4)=p1+x5 % 9-4:=by omega
   rw[a1,a2,hi]
   cases bb<;>simp[dM,jf,List.replicate,eg',Z0q,hc,ez,hkd,k1,hq]
  ·by_cases k2:kd=2
   ·obtain⟨p7,e7,q7⟩:=Zj x7 hw1 hw2
    obtain⟨p8,e8,q8⟩:=Zj x8 hw1 hw2
    obtain⟨p9,e9,q9⟩:=Zj x9 hw1 hw2
    obtain⟨p10,e10,q10⟩:=Zj x10 hw1 hw2
    obtain⟨z2,ez2,qz2⟩:=ZV x11
    refine⟨("cloth",[p0,p1,x6 % 10,p7,p8,z,p9,p10,z2]),?_,Z0T q0 q1 (by omega) q7 q8 qz q9 q10 qz2⟩
    simp[dM,jf,List.replicate,eg',Z0q,hc,ez,hkd,k2,e7,e8,e9,e10,ez2,add_l]
   ·by_cases k3:kd=3
    ·refine⟨("sail",[p0,p1,p0+1+x4 % 8,p1+1+x5 % 8,z]),?_,Z0p (.inl rfl) q0 q1 (by omega) (by omega) qz⟩
     simp[dM,jf,List.replicate,eg',Z0q,hc,ez,hkd,k3]
    ·have k4:kd=4:=by omega
     refine⟨("house",[p0,p1,p0+1+x4 % 8,p1+1+x5 % 8,z]),?_,Z0p (.inr rfl) q0 q1 (by omega) (by omega) qz⟩
     simp[dM,jf,List.replicate,eg',Z0q,hc,ez,hkd,k4]
theorem Z1V{α:Type}(xs:List α)(a b:Nat)(h1:a≤b)(h2:b≤xs.length):bT xs (some (a:Int)) (some (b:Int))=(xs.drop a).take (b-a):=by
 unfold bT
 rw[HT.mW,HT.mW,Nat.min_eq_left h2,Nat.min_eq_left (Nat.le_trans h1 h2)]
theorem Z2E:∀(xs:List Int),xs.length=5→∃a b c d e,xs=[a,b,c,d,e]
 | [a,b,c,d,e],_=>⟨a,b,c,d,e,rfl⟩
theorem Z2i{xs:List Int}(h:xs.length=5):∃o:Option P3,jA [.sh (.lst (xs.map .int))]=.ret (.sh (fH o))∧Wx o:=by
 obtain⟨a,b,c,d,e,rfl⟩:=Z2E xs h
 by_cases he:e % 6=4
 ·exact⟨none,by simp[jA,uJ,List.replicate,he,fH],trivial⟩
 ·have a1:0≤a % 13∧a % 13<13:=by omega
  have b1:0≤b % 13∧b % 13<13:=by omega
  have c1:0≤c % 5∧c % 5<5:=by omega
  have go:∀s:Int,(s=1∨s=3∨s=100000)→Ě (.lst [.int 1,.int 1,.int 3,.int 100000]) (.int (d % 4))=some (.int s)→∃o:Option P3,jA [.sh (.lst ([a,b,c,d,e].map .int))]=.ret (.sh (fH o))∧Wx o:=by
   intro s hs hx
   have m1:∀x:Int,ŗ x s=true:=fun x=>mul_r (by omega) (by omega)
   refine⟨some ((a % 13-6)*s,(b % 13-6)*s,(1+c % 5)*s),?_,?_⟩
   ·simp[jA,uJ,List.replicate,he,fH,hx,m1,c3]
   ·rcases hs with rfl|rfl|rfl<;>refine⟨⟨?_,?_,?_,?_,?_,?_⟩,?_⟩<;>dsimp only<;>omega
  have hd:d % 4=0∨d % 4=1∨d % 4=2∨d % 4=3:=by omega
  rcases hd with hd|hd|hd|hd
  ·exact go 1 (by omega) (by rw[hd];rfl)
  ·exact go 1 (by omega) (by rw[hd];rfl)
  ·exact go 3 (by omega) (by rw[hd];rfl)
  ·exact go 100000 (by omega) (by rw[hd];rfl)
theorem Z1t(t:Int)(h:0≤t)(h2:t<12)(N:List Str)(hN:N.length=12):∃L:List Str,ļ (.lst (bT (N.map PV.str) (some t) none)) (.lst (bT (N.map PV.str) none (some t)))=some (.ow (L.map .str))∧L.length=12:=by
 obtain⟨k,rfl⟩:=Int.eq_ofNat_of_zero_le h
 have e1:bT (N.map PV.str) (some (k:Int)) none=(N.drop k).map PV.str:=by
  unfold bT
  rw[HT.mW,List.length_map,Nat.min_eq_left (by omega)]
  show List.take (N.length-k) _=_
  rw[←List.map_drop]
  exact List.take_of_length_le (by simp)
 have e2:bT (N.map PV.str) none (some (k:Int))=(N.take k).map PV.str:=by
  unfold bT
  rw[HT.mW,List.length_map,Nat.min_eq_left (by omega)]
  show List.take (k-0) (List.drop 0 _)=_
  simp[List.map_take]
 rw[e1,e2,add_l (by simp;omega)]
 exact⟨N.drop k++N.take k,by simp,by simp;omega⟩
def Zp(lg:Nat)(d:Dy):Prop:=(1≤d.2.1∧d.2.1≤1000000000)∧d.2.2.length≤lg∧∀o∈d.2.2,Wx o
theorem sl5{xs:List Int}{n lg j:Nat}(hl:xs.length=5*lg+2)(hj:j<lg):∃ys:List Int,bT (xs.map PV.int) (some (2+5*(j:Int))) (some (7+5*(j:Int)))=ys.map .int∧ys.length=5:=by
 refine⟨(xs.drop (2+5*j)).take 5,?_,by simp;omega⟩
 have:=Z1V (xs.map PV.int) (2+5*j) (7+5*j) (by omega) (by simp;omega)
 have e1:((2+5*j:Nat):Int)=2+5*(j:Int):=by omega
 have e2:((7+5*j:Nat):Int)=7+5*(j:Int):=by omega
 rw[e1,e2] at this
 rw[this,List.map_take,List.map_drop]
 congr 1
 omega
theorem Z0r{xs:List Int}{lg:Nat}(hl:xs.length=5*lg+2)(qj:lg≤100):∀(js:List Nat),(∀j∈js,j<lg)→∀(acc:List PV) (s1:P.Slot),acc.length+js.length≤1000→∃os:List (Option P3),ň (gN 1) Ŋ (ĕ (đ jA (Ė (ĕ (Ad (Ā 0) (mP (ĕ (Ł ļ (mC (.int 2)) (Ĉ Į (mC (.int 5)) (Ā 1))))) (mP (ĕ (Ł ļ (mC (.int 7)) (Ĉ Į (mC (.int 5)) (Ā 1))))))) Ď))) (js.map fun(i:Nat)=>PV.int (i:Int)) [.bw (xs.map .int),s1] acc=some (acc++os.map fH)∧os.length=js.length∧∀o∈os,Wx o
 | [],_,acc,s1,_=>⟨[],by simp[ň],rfl,by simp⟩
 |j::js,hj,acc,s1,ha=>by
  obtain⟨ys,e1,e2⟩:=sl5 (n:=0) hl (hj j List.mem_cons_self)
  obtain⟨o,e3,e4⟩:=Z2i e2
  obtain⟨os,q1,q2,q3⟩:=Z0r hl qj js (fun x hx=>hj x (List.mem_cons_of_mem _ hx)) (acc ++ [fH o]) (.sh (.int j)) (by simp at ha ⊢;omega)
  refine⟨o::os,?_,by simp[q2],?_⟩
  ·have hz:acc.length<16777216:=by simp at ha;omega
   generalize xs.map PV.int=X at *
   generalize ys.map PV.int=Y at *
   rw[List.map_cons,ň]
   simp[Sd,e1,e3,hz]
   simpa using q1
  ·intro x hx
   rcases List.mem_cons.mp hx with rfl|hx
   ·exact e4
   ·exact q3 x hx
theorem Z1u(ns:List Int){k lg:Nat}(hk:k<12)(qj:lg≤100)(hl0:0<lg){L:List Str}(hL:L.length=12)(s2 s5 s8 s9:P.Slot)(D:List Dy)(hD:D.length≤12) :
 ∃(d:Dy) (Gg Gh:P.Slot),uK [.sh (.lst (ns.map .int)),.sh (.int 6),s2,.sh (.int lg),.ow (L.map .str),s5,.ow (D.map bC),.sh (.int k),s8,s9]=.ok .nx [.sh (.lst (ns.map .int)),.sh (.int 6),s2,.sh (.int lg),.ow (L.map .str),s5,.ow ((D ++ [d]).map bC),.sh (.int k),Gg,Gh]∧Zp lg d:=by
 have ha:=ZH ns (6+k)
 have e6:((6+k:Nat):Int)=6+(k:Int):=by omega
 rw[e6] at ha
 obtain⟨v,hv⟩:∃v,ns.getD (6+k) 0=v:=⟨_,rfl⟩
 rw[hv] at ha
 obtain⟨xs,eg,hl,hx⟩:=Z05 (v / 12+5*k) (n:=5*lg+2) (by omega)
 have el:((5*lg+2:Nat):Int)=5*(lg:Int)+2:=by omega
 rw[el] at eg
 have x0:∃a,(xs.map PV.int)[0]?=some (.int a):=⟨xs[0],by simp⟩
 have x1:∃b,(xs.map PV.int)[1]?=some (.int b):=⟨xs[1],by simp⟩
 obtain⟨a,x0⟩:=x0
 obtain⟨b,x1⟩:=x1
 have hm:¬((lg:Int)=0):=by omega
 have hm2:¬lg=0:=by omega
 have hf:b.fmod (lg:Int)=b % lg:=Int.fmod_eq_emod_of_nonneg b (by omega)
 have b1:=Int.emod_nonneg b hm
 have b2:=Int.emod_lt_of_pos b (show 0<(lg:Int) by omega)
 obtain⟨m,hmm⟩:∃m:Nat,1+b % lg=(m:Int):=⟨(1+b % lg).toNat,by omega⟩
 have rr:=Zs (n:=m) (by omega)
 obtain⟨os,q1,q2,q3⟩:=Z0r hl qj (List.range m) (fun j hj=>by have:=List.mem_range.mp hj;omega) [] .no (by simp;omega)
 have hLk:(L.map PV.str)[k]?=some (.str L[k]):=by simp[hL,hk]
 refine⟨(L[k],1+a*1907 % 1000000000,os),.ow (xs.map .int),.sh (.lst (os.map fH)),?_,⟨by dsimp only;omega,by simp at q2;dsimp only;omega,q3⟩⟩
 have hz:D.length<16777216:=by omega
 rw[List.nil_append] at q1
 have hdl:(D.map bC).length=D.length:=by simp
 generalize ns.map PV.int=NS at *
 generalize xs.map PV.int=XS at *
 generalize L[k]=nm at *
 generalize hLL:L.map PV.str=LS at *
 have hmp:(D ++ [((nm,1+a*1907 % 1000000000,os):Dy)]).map bC=D.map bC ++ [.tup [.str nm,.int (1+a*1907 % 1000000000),.lst (os.map fH)]]:=by simp[bC]
 rw[hmp]
 generalize D.map bC=DS at *
 generalize hos:os.map fH=OS at *
 rw[←hdl] at hz
 simp[uK,ha,eg,x0,x1,hm2,hf,hmm,rr,q1,hLk,hz,-ZU]
theorem Z06(ns:List Int){n lg:Nat}(qj:lg≤100)(hl0:0<lg){L:List Str}(hL:L.length=12){v:Int}:∀(ks:List Nat),(∀k∈ks,k<12)→∀(D:List Dy) (s7 s8 s9:P.Slot),D.length+ks.length≤12→(∀d∈D,Zp lg d)→∃ρ',forL (gN 7) uK (ks.map fun(i:Nat)=>PV.int (i:Int)) [.sh (.lst (ns.map .int)),.sh (.int 6),.sh (.int n),.sh (.int lg),.ow (L.map .str),.sh (.int v),.ow (D.map bC),s7,s8,s9]=.ok .nx ρ'∧∃(D':List Dy) (s7 s8 s9:P.Slot),ρ'=[.sh (.lst (ns.map .int)),.sh (.int 6),.sh (.int n),.sh (.int lg),.ow (L.map .str),.sh (.int v),.ow (D'.map bC),s7,s8,s9]∧D'.length=D.length+ks.length∧∀d∈D',Zp lg d
 | [],_,D,s7,s8,s9,_,h=>⟨_,rfl,D,s7,s8,s9,rfl,rfl,h⟩
 |k::ks,hk,D,s7,s8,s9,hl,h=>by
  obtain⟨d,Gg,Gh,e,hd⟩:=Z1u ns (hk k List.mem_cons_self) qj hl0 hL (.sh (.int n)) (.sh (.int v)) s8 s9 D (by simp at hl;omega)
  obtain⟨ρ',q1,D',a,b,c,q2,q3,q4⟩:=Z06 ns (n:=n) qj hl0 hL (v:=v) ks (fun x hx=>hk x (List.mem_cons_of_mem _ hx)) (D ++ [d]) (.sh (.int k)) Gg Gh (by simp at hl ⊢;omega) (by
   intro x hx
   rcases List.mem_append.mp hx with hx|hx
   ·exact h x hx
   ·rw[List.mem_singleton.mp hx];exact hd)
  refine⟨ρ',?_,D',a,b,c,q2,by simp at q3 ⊢;omega,q4⟩
  rw[List.map_cons,forL]
  have hg:gN 7 (PV.int (k:Int)) [.sh (.lst (ns.map .int)),.sh (.int 6),.sh (.int n),.sh (.int lg),.ow (L.map .str),.sh (.int v),.ow (D.map bC),s7,s8,s9]=some [.sh (.lst (ns.map .int)),.sh (.int 6),.sh (.int n),.sh (.int lg),.ow (L.map .str),.sh (.int v),.ow (D.map bC),.sh (.int k),s8,s9]:=rfl
  rw[hg]
  dsimp only
  rw[e]
  exact q1
theorem Z0I(ns:List Int){n lg:Nat}(hn:n≤12)(qj:lg≤100)(hl0:0<lg):∃D:List Dy,fj [.sh (.lst (ns.map .int)),.sh (.int 6),.sh (.int n),.sh (.int lg)]=.ret (.ow (D.map bC))∧D.length=n∧∀d∈D,Zp lg d:=by
 have h6:Ů [.sh (.lst (ns.map .int)),.sh (.int 6)]=.ret (.sh (.int (ns.getD 6 0))):=ZH ns 6
 obtain⟨v,hv⟩:∃v,ns.getD 6 0=v:=⟨_,rfl⟩
 rw[hv] at h6
 obtain⟨L,e1,hL⟩:=Z1t (v % 12) (by omega) (by omega) [Str.ofString "ab",Str.ofString "a",Str.ofString "abc",Str.ofString "b",Str.ofString "ba",Str.ofString "z",Str.ofString "zz",Str.ofString "zzz",Str.ofString "abcdefgh",Str.ofString "abcdefgi",Str.ofString "aa",Str.ofString "bb"] rfl
 obtain⟨ρ',q1,D,s7,s8,s9,rfl,q2,q3⟩:=Z06 ns (n:=n) qj hl0 hL (v:=v % 12) (List.range n) (fun k hk=>by have:=List.mem_range.mp hk;omega) [] .no .no .no (by simp;omega) (by simp)
 have rr:=Zs (n:=n) (by omega)
 refine⟨D,?_,by simpa using q2,q3⟩
 generalize ns.map PV.int=NS at *
 simp only[List.map_cons,List.map_nil] at e1
 simp only[List.map_nil] at q1
 generalize D.map bC=DS at *
 generalize L.map PV.str=LS at *
 simp[fj,Av,List.replicate,Sd,h6,e1,rr,q1,-ZU]
theorem Z1v(c:Int):∃w h:Nat,dJ [.sh (.int c),.sh (.int 9)]=.ret (.sh (.tup [.int w,.int h]))∧1≤w∧w≤20∧1≤h∧h≤20∧w*h≤20:=by
 by_cases h0:c / 7 % 16=11
 ·have hd:c % 2=0∨c % 2=1:=by omega
  rcases hd with hd|hd
  ·exact⟨1,20,by simp[dJ,eO,List.replicate,h0,hd],by omega,by omega,by omega,by omega,by omega⟩
  ·exact⟨20,1,by simp[dJ,eO,List.replicate,h0,hd],by omega,by omega,by omega,by omega,by omega⟩
 ·have hd:c % 5=0∨c % 5=1∨c % 5=2∨c % 5=3∨c % 5=4:=by omega
  rcases hd with hd|hd|hd|hd|hd
  ·obtain⟨h,hh⟩:∃h:Nat,1+c / 5 % 4=(h:Int):=⟨(1+c / 5 % 4).toNat,by omega⟩
   exact⟨1,h,by simp[dJ,eO,List.replicate,h0,hd,hh],by omega,by omega,by omega,by omega,by omega⟩
  ·obtain⟨h,hh⟩:∃h:Nat,1+c / 5 % 4=(h:Int):=⟨(1+c / 5 % 4).toNat,by omega⟩
   exact⟨2,h,by simp[dJ,eO,List.replicate,h0,hd,hh],by omega,by omega,by omega,by omega,by omega⟩
  ·obtain⟨h,hh⟩:∃h:Nat,1+c / 5 % 3=(h:Int):=⟨(1+c / 5 % 3).toNat,by omega⟩
   exact⟨3,h,by simp[dJ,eO,List.replicate,h0,hd,hh],by omega,by omega,by omega,by omega,by omega⟩
  ·obtain⟨h,hh⟩:∃h:Nat,1+c / 5 % 2=(h:Int):=⟨(1+c / 5 % 2).toNat,by omega⟩
   exact⟨4,h,by simp[dJ,eO,List.replicate,h0,hd,hh],by omega,by omega,by omega,by omega,by omega⟩
  ·exact⟨5,1,by simp[dJ,eO,List.replicate,h0,hd],by omega,by omega,by omega,by omega,by omega⟩
def Z0s:Option Hu.Ln→PV
 |some l=>cH l
 |none=>.non
theorem Z0U{S:List Hu.Pt}{sl:P.Slot}(hs:Sl sl (S.map pt))(hS:∀p∈S,Sm p)(h0:S≠[])(hl:S.length≤1000)(p:Hu.Pt):oX [sl,.sh (pt p)]=.ret (.sh (Z0s (Hu.Zx S p))):=by
 have h1:=Z0i hs hS h0 hl
 have e:(Hu.Zd S).findSome? (fun l=>if Hu.hd l p=true then none else some l)=Hu.Zx S p:=by
  unfold Hu.Zx
  generalize Hu.Zd S=L
  induction L with
  |nil=>rfl
  |cons l L ih=>
   rw[List.findSome?_cons,List.find?_cons]
   cases q:Hu.hd l p with
   |true=>simpa using ih
   |false=>simp
 rcases bG (g:=gN 2) (mb:=u_) cH (fun l=>if Hu.hd l p=true then none else some l) (fun l=>.sh (cH l)) (fun ρ=>∃s2,ρ=[sl,.sh (pt p),s2]) (Hu.Zd S) (by
  rintro l hm ρ ⟨s2,rfl⟩
  refine⟨[sl,.sh (pt p),.sh (cH l)],by simp,?_⟩
  have hh:=Z0g (Z16 hm hS) p
  cases q:Hu.hd l p with
  |true=>
   rw[q] at hh
   exact .inr ⟨[sl,.sh (pt p),.sh (cH l)],by simp,by simp[u_,hh],_,rfl⟩
  |false=>
   rw[q] at hh
   exact .inl ⟨l,[sl,.sh (pt p),.sh (cH l)],by simp,by simp[u_,hh]⟩) [sl,.sh (pt p),.no] ⟨_,rfl⟩ with⟨l,ρ',q1,q2⟩|⟨ρ',q1,q2,_⟩
 ·rw[e] at q1
  rw[q1]
  simp[oX,vd,List.replicate,hs.lend,h1,q2,Z0s]
 ·rw[e] at q1
  rw[q1]
  simp[oX,vd,List.replicate,hs.lend,h1,q2,Z0s]
def pQ(q:Nat×Nat):PV:=.tup [.int q.1,.int q.2]
def zB(q:Nat×Nat×Nat):PV:=.tup [.int q.1,.int q.2.1,.int q.2.2]
theorem Z1e(j:Nat)(hj:j≤1000)(acc:List PV)(s0:P.Slot)(ha:acc.length+j≤16777216):oY [s0,.ow acc,.sh (.int j)]=.ok .nx [s0,.ow (acc++((List.range j).map fun i=>(i,j)).map pQ),.sh (.int j)]:=by
 have c1:ň (gN 1) Ŋ (Ř (Ą (ġ 1) (Ą (ġ 0) ě))) ((List.range j).map fun(i:Nat)=>PV.int (i:Int)) [.sh (.int j),.no] []=some (((List.range j).map fun i=>(i,j)).map pQ):=by
  have:=Ő (g:=gN 1) (mt:=Ŋ) (me:=Ř (Ą (ġ 1) (Ą (ġ 0) ě))) (fun(i:Nat)=>PV.int (i:Int)) (fun i=>pQ (i,j)) (fun ρ=>∃s,ρ=[.sh (.int j),s]) (List.range j) [.sh (.int j),.no] [] ⟨_,rfl⟩ (by simp;omega) (by
   rintro x hx ρ ⟨s,rfl⟩
   exact⟨[.sh (.int j),.sh (.int x)],[.sh (.int j),.sh (.int x)],[.sh (.int j),.sh (.int x)],by simp,by simp,by simp[pQ],_,rfl⟩)
  rw[this,List.map_map]
  rfl
 have hl:acc.length+(((List.range j).map fun i=>(i,j)).map pQ).length≤16777216:=by simpa using ha
 generalize ((List.range j).map fun i=>(i,j)).map pQ=qs at c1 hl
 simp[oY,Zs hj,c1,hl]
theorem ZW(k:Nat):Hu.Z6 (k+1)=Hu.Z6 k++(List.range k).map fun i=>(i,k):=by
 unfold Hu.Z6
 rw[List.range_succ,List.flatMap_append]
 simp
theorem Zw:∀n,(Hu.Z6 n).length≤n*n
 |0=>by simp[Hu.Z6]
 |n+1=>by
  have:=Zw n
  rw[ZW,List.length_append,List.length_map,List.length_range,Nat.succ_mul,Nat.mul_succ]
  omega
theorem ZI(k:Nat):Hu.Z8 (k+1)=Hu.Z8 k++(Hu.Z6 k).map fun q=>(q.1,q.2,k):=by
 unfold Hu.Z8
 rw[List.range_succ,List.flatMap_append]
 simp
theorem ZA{g:Tg}{mb:M Fl}(nb:∀ρ ρ',mb ρ≠ .ok .bk ρ'):∀(xs ys:List PV) (ρ ρ1:Ŏ),forL g mb xs ρ=.ok .nx ρ1→forL g mb (xs++ys) ρ=forL g mb ys ρ1
 | [],ys,ρ,ρ1,h=>by
   have e:Res.ok Fl.nx ρ=.ok .nx ρ1:=h
   cases e
   rfl
 |x::xs,ys,ρ,ρ1,h=>by
  rw[List.cons_append,forL]
  rw[forL] at h
  cases e:g x ρ with
  |none=>rw[e] at h;cases h
  |some ρ2=>
   rw[e] at h
   dsimp only at h ⊢
   cases e2:mb ρ2 with
   |bad=>rw[e2] at h;cases h
   |exc x ρ3=>rw[e2] at h;cases h
   |ok f ρ3=>
    rw[e2] at h
    cases f with
    |nx=>exact ZA nb xs ys ρ3 ρ1 h
    |ct=>exact ZA nb xs ys ρ3 ρ1 h
    |bk=>exact absurd e2 (nb ρ2 ρ3)
    |rt r=>cases h
theorem Z0t{g:Tg}{mb:M Fl}{p:PV}{ρ ρ1 ρ2:Ŏ}(h1:g p ρ=some ρ1)(h2:mb ρ1=.ok .nx ρ2):forL g mb [p] ρ=.ok .nx ρ2:=by
 rw[forL,h1]
 dsimp only
 rw[h2]
 rfl
theorem Z1f{i:Nat}{mo:M RV}{ρ ρ':Ŏ}:Ao i mo ρ≠ .ok .bk ρ':=by
 unfold Ao
 intro h
 split at h
 ·cases e:mo ρ with
  |bad=>rw[e] at h;cases h
  |exc x ρ1=>rw[e] at h;cases h
  |ok r ρ1=>
   rw[e] at h
   simp only[Res.aQ] at h
   split at h
   ·split at h<;>cases h
   ·cases h
 ·cases h
theorem Z0u(n:Nat)(hn:n≤100):lN [.sh (.int n)]=.ret (.ow ((Hu.Z6 n).map pQ)):=by
 have key:∀k,k≤n→∃s2,forL (gN 2) oY ((List.range k).map fun(i:Nat)=>PV.int (i:Int)) [.sh (.int n),.ow [],.no]=.ok .nx [.sh (.int n),.ow ((Hu.Z6 k).map pQ),s2]:=by
  intro k
  induction k with
  |zero=>intro _;exact⟨.no,rfl⟩
  |succ k ih=>
   intro hk
   obtain⟨s2,e⟩:=ih (by omega)
   refine⟨.sh (.int k),?_⟩
   rw[List.range_succ,List.map_append,ZA (mb:=oY) (fun _ _=>Z1f) _ _ _ _ e,ZW,List.map_append]
   have hlen:=Zw k
   have hm:k*k≤100*100:=Nat.mul_le_mul (by omega) (by omega)
   exact Z0t rfl (Z1e k (by omega) ((Hu.Z6 k).map pQ) (.sh (.int n)) (by rw[List.length_map];omega))
 obtain⟨s2,e⟩:=key n (Nat.le_refl n)
 have hr:=Zs (show n≤1000 by omega)
 simp[lN,Bv,List.replicate,hr,e]
theorem Z0A(k:Nat)(hk:k≤100)(acc:List PV)(s0:P.Slot)(ha:acc.length≤10000000):oZ [s0,.ow acc,.sh (.int k)]=.ok .nx [s0,.ow (acc++((Hu.Z6 k).map fun q=>(q.1,q.2,k)).map zB),.sh (.int k)]:=by
 have hlen:=Zw k
 have hm:k*k≤100*100:=Nat.mul_le_mul (by omega) (by omega)
 have c1:ň (gN 1) Ŋ (Ř (Ą (Ĉ Ě (Ā 1) (mC (.int 0))) (Ą (Ĉ Ě (Ā 1) (mC (.int 1))) (Ą (ġ 0) ě)))) ((Hu.Z6 k).map pQ) [.sh (.int k),.no] []=some (((Hu.Z6 k).map fun q=>(q.1,q.2,k)).map zB):=by
  have:=Ő (g:=gN 1) (mt:=Ŋ) (me:=Ř (Ą (Ĉ Ě (Ā 1) (mC (.int 0))) (Ą (Ĉ Ě (Ā 1) (mC (.int 1))) (Ą (ġ 0) ě)))) pQ (fun q=>zB (q.1,q.2,k)) (fun ρ=>∃s,ρ=[.sh (.int k),s]) (Hu.Z6 k) [.sh (.int k),.no] [] ⟨_,rfl⟩ (by simp;omega) (by
   rintro x hx ρ ⟨s,rfl⟩
   exact⟨[.sh (.int k),.sh (pQ x)],[.sh (.int k),.sh (pQ x)],[.sh (.int k),.sh (pQ x)],by simp,by simp,by simp[pQ,zB],_,rfl⟩)
  rw[this,List.map_map]
  rfl
 have hl:acc.length+(((Hu.Z6 k).map fun q=>(q.1,q.2,k)).map zB).length≤16777216:=by simp;omega
 have hp:=Z0u k hk
 generalize ((Hu.Z6 k).map fun q=>(q.1,q.2,k)).map zB=qs at c1 hl
 simp[oZ,hp,c1,hl]
theorem ZN:∀n,n≤100→(Hu.Z8 n).length≤n*10000
 |0,_=>by simp[Hu.Z8]
 |n+1,h=>by
  have:=ZN n (by omega)
  have h2:=Zw n
  have hm:n*n≤100*100:=Nat.mul_le_mul (by omega) (by omega)
  rw[ZI,List.length_append,List.length_map]
  omega
theorem Z0V(n:Nat)(hn:n≤100):su [.sh (.int n)]=.ret (.ow ((Hu.Z8 n).map zB)):=by
 have key:∀k,k≤n→∃s2,forL (gN 2) oZ ((List.range k).map fun(i:Nat)=>PV.int (i:Int)) [.sh (.int n),.ow [],.no]=.ok .nx [.sh (.int n),.ow ((Hu.Z8 k).map zB),s2]:=by
  intro k
  induction k with
  |zero=>intro _;exact⟨.no,rfl⟩
  |succ k ih=>
   intro hk
   obtain⟨s2,e⟩:=ih (by omega)
   refine⟨.sh (.int k),?_⟩
   rw[List.range_succ,List.map_append,ZA (mb:=oZ) (fun _ _=>Z1f) _ _ _ _ e,ZI,List.map_append]
   have hlen:=ZN k (by omega)
   exact Z0t rfl (Z0A k (by omega) ((Hu.Z8 k).map zB) (.sh (.int n)) (by rw[List.length_map];omega))
 obtain⟨s2,e⟩:=key n (Nat.le_refl n)
 have hr:=Zs (show n≤1000 by omega)
 simp[su,Bw,List.replicate,hr,e]
def W(x:Int):Prop:=-100000000000000000000000000000000000000000000000000<x∧x<100000000000000000000000000000000000000000000000000
theorem W.bits{x:Int}(h:W x):bits x≤200:=jz (n:=200) (by have:=h.1;omega) (by have:=h.2;omega)
theorem dif{a b:Int}(h1: -100000000000000000≤a)(h2:a≤100000000000000000)(h3: -100000000000000000≤b)(h4:b≤100000000000000000): -200000000000000000≤a-b∧a-b≤200000000000000000:=by omega
theorem Z00{a b c d:Int}(h1: -c≤a)(h2:a≤c)(h3: -d≤b)(h4:b≤d)(hc:0≤c)(hd:0≤d): -(c*d)≤a*b∧a*b≤c*d:=by
 have e1:(a*b).natAbs=a.natAbs*b.natAbs:=Int.natAbs_mul a b
 have e2:a.natAbs*b.natAbs≤c.natAbs*d.natAbs:=Nat.mul_le_mul (by omega) (by omega)
 have e3:(c*d).natAbs=c.natAbs*d.natAbs:=Int.natAbs_mul c d
 have e4:0≤c*d:=Int.mul_nonneg hc hd
 omega
theorem ZJ{a b c:Hu.Pt}(ha:Sm a)(hb:Sm b)(hc:Sm c):iR [.sh (pt a),.sh (pt b),.sh (pt c)]=.ret (.sh (.int (Hu.tn a b c))):=by
 obtain⟨a1,a2,a3,a4⟩:=ha
 obtain⟨b1,b2,b3,b4⟩:=hb
 obtain⟨c1,c2,c3,c4⟩:=hc
 have m1:ŗ (b.1-a.1) (c.2-a.2)=true:=aV (by omega) (by omega)
 have m2:ŗ (b.2-a.2) (c.1-a.1)=true:=aV (by omega) (by omega)
 simp[iR,Bx,List.replicate,pt,Hu.tn,m1,m2]
theorem Z1w{a b c:Hu.Pt}(ha:Sm a)(hb:Sm b)(hc:Sm c): -80000000000000000000000000000000000≤Hu.tn a b c∧Hu.tn a b c≤80000000000000000000000000000000000:=by
 obtain⟨a1,a2,a3,a4⟩:=ha
 obtain⟨b1,b2,b3,b4⟩:=hb
 obtain⟨c1,c2,c3,c4⟩:=hc
 obtain⟨x1,x2⟩:=dif b1 b2 a1 a2
 obtain⟨y1,y2⟩:=dif c3 c4 a3 a4
 obtain⟨z1,z2⟩:=dif b3 b4 a3 a4
 obtain⟨w1,w2⟩:=dif c1 c2 a1 a2
 obtain⟨p1,p2⟩:=Z00 x1 x2 y1 y2 (by decide) (by decide)
 obtain⟨q1,q2⟩:=Z00 z1 z2 w1 w2 (by decide) (by decide)
 unfold Hu.tn
 omega
theorem Z1x{a b c p:Hu.Pt}(ha:Sm a)(hb:Sm b)(hc:Sm c)(hp:Sm p):FJ [.sh (.lst [pt a,pt b,pt c]),.sh (pt p)]=.ret (.ow ((Hu.uF a b c p).map .int)):=by
 simp[FJ,Jx,List.replicate,ZJ hp hb hc,ZJ ha hp hc,ZJ ha hb hp,Hu.uF]
theorem Z2j{a b p:Hu.Pt}(ha:Sm a)(hb:Sm b)(hp:Sm p):sy [.sh (.lst [pt a,pt b]),.sh (pt p)]=.ret (.ow ((Hu.uG a b p).map .int)):=by
 obtain⟨a1,a2,a3,a4⟩:=ha
 obtain⟨b1,b2,b3,b4⟩:=hb
 obtain⟨c1,c2,c3,c4⟩:=hp
 have m1:∀x,ŗ (b.1-a.1) x=true:=fun x=>aV (by omega) (by omega)
 have m2:∀x,ŗ (b.2-a.2) x=true:=fun x=>aV (by omega) (by omega)
 simp[sy,BJ,List.replicate,pt,Hu.uG,m1,m2]
theorem Z2x{a b c p:Hu.Pt}(ha:Sm a)(hb:Sm b)(hc:Sm c)(hp:Sm p):∀s∈Hu.uF a b c p,-400000000000000000000000000000000000≤s∧s≤400000000000000000000000000000000000:=by
 have h1:=Z1w hp hb hc
 have h2:=Z1w ha hp hc
 have h3:=Z1w ha hb hp
 intro s hs
 simp only[Hu.uF,List.mem_cons,List.not_mem_nil,or_false] at hs
 rcases hs with e|e|e<;>omega
theorem Z2y{a b p:Hu.Pt}(ha:Sm a)(hb:Sm b)(hp:Sm p):∀s∈Hu.uG a b p,-400000000000000000000000000000000000≤s∧s≤400000000000000000000000000000000000:=by
 obtain⟨a1,a2,a3,a4⟩:=ha
 obtain⟨b1,b2,b3,b4⟩:=hb
 obtain⟨c1,c2,c3,c4⟩:=hp
 obtain⟨x1,x2⟩:=dif b1 b2 a1 a2
 obtain⟨z1,z2⟩:=dif b3 b4 a3 a4
 obtain⟨y1,y2⟩:=dif c1 c2 a1 a2
 obtain⟨w1,w2⟩:=dif c3 c4 a3 a4
 obtain⟨p1,p2⟩:=Z00 x1 x2 y1 y2 (by decide) (by decide)
 obtain⟨q1,q2⟩:=Z00 z1 z2 w1 w2 (by decide) (by decide)
 obtain⟨r1,r2⟩:=Z00 x1 x2 x1 x2 (by decide) (by decide)
 obtain⟨t1,t2⟩:=Z00 z1 z2 z1 z2 (by decide) (by decide)
 intro s hs
 simp only[Hu.uG,List.mem_cons,List.not_mem_nil,or_false] at hs
 rcases hs with e|e<;>omega
def ShB(w:List Int):Prop:=w.length≤3∧∀s∈w,-400000000000000000000000000000000000≤s∧s≤400000000000000000000000000000000000
theorem ShB.sum{w:List Int}(h:ShB w): -2000000000000000000000000000000000000≤w.sum∧w.sum≤2000000000000000000000000000000000000:=by
 obtain⟨h1,h2⟩:=h
 match w,h1,h2 with
 | [],_,_=>simp
 | [a],_,h2=>have:=h2 a (by simp);simp;omega
 | [a,b],_,h2=>have:=h2 a (by simp);have:=h2 b (by simp);simp;omega
 | [a,b,c],_,h2=>have:=h2 a (by simp);have:=h2 b (by simp);have:=h2 c (by simp);simp;omega
theorem ZS{x:Int}(h1: -2000000000000000000000000000000000000≤x)(h2:x≤2000000000000000000000000000000000000):bits x≤200:=jz (n:=200) (by omega) (by omega)
theorem Z1E{w:List Int}(h:ShB w){sl:P.Slot}(hs:Sl sl (w.map .int)):jG [sl]=.ret (.sh (.bl (Hu.Zr w))):=by
 obtain⟨s1,s2⟩:=h.sum
 have hb:=ZS s1 s2
 have c1:ň (gN 1) Ŋ (Ĉ HB (Ĉ Į (Ā 1) (Ā 0)) (mC (.int 0))) (w.map .int) [.sh (.int w.sum),.no] []=some ((w.map fun s=>decide (0≤s*w.sum)).map .bl):=by
  have:=Ő (g:=gN 1) (mt:=Ŋ) (me:=Ĉ HB (Ĉ Į (Ā 1) (Ā 0)) (mC (.int 0))) PV.int (fun s=>.bl (decide (0≤s*w.sum))) (fun ρ=>∃s,ρ=[.sh (.int w.sum),s]) w [.sh (.int w.sum),.no] [] ⟨_,rfl⟩ (by have:=h.1;simp;omega) (by
   rintro x hx ρ ⟨s,rfl⟩
   have hx':=h.2 x hx
   have hm:ŗ x w.sum=true:=ZdB (Nat.le_trans (ZS (by omega) (by omega)) (by decide)) (Nat.le_trans hb (by decide))
   exact⟨[.sh (.int w.sum),.sh (.int x)],[.sh (.int w.sum),.sh (.int x)],[.sh (.int w.sum),.sh (.int x)],by simp,by simp,by simp[hm],_,rfl⟩)
  rw[this,List.map_map]
  rfl
 have c2:=Z0h (w.map fun s=>decide (0≤s*w.sum))
 have c3:(w.map fun s=>decide (0≤s*w.sum)).all id=w.all fun s=>decide (0≤s*w.sum):=by simp
 rw[c3] at c2
 unfold Hu.Zr
 have hsum:Al [.lst (w.map .int)]=some (.int w.sum):=by simp
 unfold Sl at hs
 generalize (w.map fun s=>decide (0≤s*w.sum)).map PV.bl=bs at c1 c2
 generalize (w.all fun s=>decide (0≤s*w.sum))=q at c2
 generalize w.map PV.int=ws at c1 hsum hs
 generalize w.sum=S at c1 hsum
 by_cases h0:S=0
 ·subst h0
  rcases hs with rfl|rfl<;>simp[jG,vh,List.replicate,-gZ,hsum]
 ·rcases hs with rfl|rfl<;>simp[jG,vh,List.replicate,-gZ,hsum,c1,c2,h0]
theorem Z1F(x y:Int):Fz [.sh (.int x),.sh (.int y)]=.ret (.sh (.int (My.gd x y))):=by
 obtain⟨⟨u,v,r⟩,e1,e2,e3⟩:=Ag (mc:=(cZ (Ĉ cj (Ā 1) (mC (.int 0))))) (mb:=(ĝ (ĳ 2 (Ŗ (Ĉ Ō (Ā 0) (Ā 1)))) (ĝ (ĳ 0 (Ŗ (ġ 1))) (ĳ 1 (Ŗ (ġ 2))))))
  (fun b:Int×Int×P.Slot=>[.sh (.int b.1),.sh (.int b.2.1),b.2.2]) (fun b=>My.gd b.1 b.2.1=My.gd x y) (fun b=>b.2.1.natAbs) (b:=(x,y,.no)) (by
    rintro ⟨u,v,r⟩ e
    by_cases hv:v=0
    ·left;simp[hv]
    ·right;exact⟨by simp[hv],(v,u.fmod v,.sh (.int (u.fmod v))),by simp[hv],(My.Z1H u v).trans e,My.Z1I u hv⟩) rfl
 have hv:v=0:=by simpa using e3
 subst hv
 have e1':Vb [.sh (.int x),.sh (.int y),.no]=_:=e1
 simp[Fz,Jw,List.replicate,e1',←e2,My.Z1J]
theorem Z1W(t:Int){b:Int}{n:Nat}(h:b≠0)(hb:bits b≤n):bits (My.gd t b)≤n:=by
 refine intBits_le_of_natAbs ?_ hb
 have h1:=My.Z2s t h
 have h2:=My.Z0Z t b
 omega
def rt(t b:Int):Int×Int:=(t.fdiv (My.dv t b),b.fdiv (My.dv t b))
theorem Z0v{t b:Int}(h:b≠0)(hz:bits b≤8000):gF [.sh (.int t),.sh (.int b)]=.ret (.sh (pt (rt t b))):=by
 have g1:=Z1W t h hz
 have g0:=My.Z23 t h
 by_cases hn:b<0
 ·have e:My.dv t b= - My.gd t b:=if_pos hn
  have c:∀i,eX i (- My.gd t b)=true:=fun i=>wJ (by omega) (intBits_neg_le g1)
  simp[gF,vf,List.replicate,h,Z1F,hn,c,e,pt,rt]
 ·have e:My.dv t b=My.gd t b:=if_neg hn
  have c:∀i,eX i (My.gd t b)=true:=fun i=>wJ (by omega) g1
  simp[gF,vf,List.replicate,h,Z1F,hn,c,e,pt,rt]
theorem ZK{w:List Int}{q:List Nat}{n:Nat}(hw:ShB w)(h0:w.sum≠0)(hl:w.length=q.length)(hq:∀i∈q,i<n)(hn:n≤100){s0 s1:P.Slot}(hs0:Sl s0 (w.map .int))(hs1:s1=.sh (.lst (q.map fun(i:Nat)=>.int (i:Int)))∨s1=.sh (.tup (q.map fun(i:Nat)=>.int (i:Int)))) :
 dN [s0,s1,.sh (.int n)]=.ret (.ow ((Fr.lay (List.replicate n 0) (w.zip q)).map fun s=>pt (rt s w.sum))):=by
 obtain⟨b1,b2⟩:=hw.sum
 have hb:=Nat.le_trans (ZS b1 b2) (show 200≤8000 by decide)
 have hsum:Al [.lst (w.map .int)]=some (.int w.sum):=by simp
 have c1:ň (gN 1) Ŋ (ĕ (đ gF (Ė (mC (.int 0)) (ą 0 Ď)))) ((List.range n).map fun(i:Nat)=>PV.int (i:Int)) [.sh (.int w.sum),.no] []=some ((List.replicate n (0:Int)).map fun s=>pt (rt s w.sum)):=by
  have:=Ő (g:=gN 1) (mt:=Ŋ) (me:=ĕ (đ gF (Ė (mC (.int 0)) (ą 0 Ď)))) (fun(i:Nat)=>PV.int (i:Int)) (fun _=>pt (rt 0 w.sum)) (fun ρ=>∃s,ρ=[.sh (.int w.sum),s]) (List.range n) [.sh (.int w.sum),.no] [] ⟨_,rfl⟩ (by simp;omega) (by
   rintro x hx ρ ⟨s,rfl⟩
   exact⟨[.sh (.int w.sum),.sh (.int x)],[.sh (.int w.sum),.sh (.int x)],[.sh (.int w.sum),.sh (.int x)],by simp,by simp,by simp[Z0v h0 hb],_,rfl⟩)
  rw[this]
  simp[List.map_const']
 have hz:jy (w.map .int) (q.map fun(i:Nat)=>PV.int (i:Int))=(w.zip q).map fun a=>.tup [.int a.1,.int (a.2:Int)]:=by
  clear hw h0 hl hq hs0 hs1 hsum c1 hb b1 b2
  induction w generalizing q with
  |nil=>simp[jy]
  |cons x w ih=>
   cases q with
   |nil=>simp[jy]
   |cons i q=>simp[jy,ih]
 have loop:∀s0' s1',∃ρ',forL (gT 2 (ĥ (gN 5) (ĥ (gN 6) Ū))) vg ((w.zip q).map fun a=>.tup [.int a.1,.int (a.2:Int)]) [s0',s1',.sh (.int n),.sh (.int w.sum),.ow ((List.replicate n (0:Int)).map fun s=>pt (rt s w.sum)),.no,.no]=.ok .nx ρ'∧ρ'[4]?=some (.ow ((Fr.lay (List.replicate n 0) (w.zip q)).map fun s=>pt (rt s w.sum))):=by
  intro s0' s1'
  obtain⟨ρ',e,s5,s6,hρ,_⟩:=cB (g:=gT 2 (ĥ (gN 5) (ĥ (gN 6) Ū))) (mb:=vg) (fun a:Int×Nat=>.tup [.int a.1,.int (a.2:Int)]) (fun acc a=>acc.set a.2 a.1)
   (fun acc ρ=>∃s5 s6,ρ=[s0',s1',.sh (.int n),.sh (.int w.sum),.ow (acc.map fun s=>pt (rt s w.sum)),s5,s6]∧acc.length=n) (w.zip q) (by
     rintro ⟨x,i⟩ hx acc ρ ⟨s5,s6,rfl,hlen⟩
     have hi:i<n:=hq i (List.of_mem_zip hx).2
     have hix:Ge acc.length (i:Int)=some i:=by
      unfold Ge
      rw[if_pos (by omega),if_pos (by omega)]
      simp
     refine⟨[s0',s1',.sh (.int n),.sh (.int w.sum),.ow (acc.map fun s=>pt (rt s w.sum)),.sh (.int x),.sh (.int i)],[s0',s1',.sh (.int n),.sh (.int w.sum),.ow ((acc.set i x).map fun s=>pt (rt s w.sum)),.sh (.int x),.sh (.int i)],by simp,?_,_,_,rfl,by simpa using hlen⟩
     simp[vg,Z0v h0 hb,hix,List.map_set]) (List.replicate n 0) [s0',s1',.sh (.int n),.sh (.int w.sum),.ow ((List.replicate n (0:Int)).map fun s=>pt (rt s w.sum)),.no,.no] ⟨_,_,rfl,by simp⟩
  refine⟨ρ',e,?_⟩
  subst hρ
  rfl
 have hr:=Zs (show n≤1000 by omega)
 generalize (List.replicate n (0:Int)).map (fun s=>pt (rt s w.sum))=zs at c1 loop
 generalize (Fr.lay (List.replicate n 0) (w.zip q)).map (fun s=>pt (rt s w.sum))=rs at loop
 generalize ((w.zip q).map fun a=>PV.tup [.int a.1,.int (a.2:Int)])=ls at hz loop
 generalize w.map PV.int=ws at hs0 hsum hz
 generalize w.sum=S at hsum c1 loop
 generalize (q.map fun(i:Nat)=>PV.int (i:Int))=qs at hz hs1
 rcases hs0 with rfl|rfl<;>rcases hs1 with rfl|rfl
 ·obtain⟨ρ',e,e4⟩:=loop (.sh (.lst ws)) (.sh (.lst qs))
  simp[dN,kJ,List.replicate,-gZ,hsum,hr,c1,hz,Fp,e,e4]
 ·obtain⟨ρ',e,e4⟩:=loop (.sh (.lst ws)) (.sh (.tup qs))
  simp[dN,kJ,List.replicate,-gZ,hsum,hr,c1,hz,Fp,e,e4]
 ·obtain⟨ρ',e,e4⟩:=loop (.bw ws) (.sh (.lst qs))
  simp[dN,kJ,List.replicate,-gZ,hsum,hr,c1,hz,Fp,e,e4]
 ·obtain⟨ρ',e,e4⟩:=loop (.bw ws) (.sh (.tup qs))
  simp[dN,kJ,List.replicate,-gZ,hsum,hr,c1,hz,Fp,e,e4]
def Wy(S:List Hu.Pt)(r:List Int×List Nat):List PV:=(Fr.lay (List.replicate S.length 0) (r.1.zip r.2)).map fun s=>pt (rt s r.1.sum)
theorem fW{S:List Hu.Pt}{i:Nat}(h:i<S.length):(S.map pt)[i]?=some (pt (Hu.at_ S i)):=by
 unfold Hu.at_
 rw[List.getElem?_map,List.getD_eq_getElem?_getD,List.getElem?_eq_getElem h]
 rfl
theorem Z2z{S:List Hu.Pt}{sl:P.Slot}(hs:Sl sl (S.map pt)){i j k:Nat}(hi:i<S.length)(hj:j<S.length)(hk:k<S.length)(s3:P.Slot):ň (gN 1) Ŋ (Ĉ Ě (Ā 0) (Ā 1)) [.int (i:Int),.int (j:Int),.int (k:Int)] [sl,s3] []=some [pt (Hu.at_ S i),pt (Hu.at_ S j),pt (Hu.at_ S k)]:=by
 rcases hs with rfl|rfl<;>simp[ň,fW hi,fW hj,fW hk,-List.getElem?_map]
theorem Z2A{S:List Hu.Pt}{sl:P.Slot}(hs:Sl sl (S.map pt)){i j:Nat}(hi:i<S.length)(hj:j<S.length)(s3:P.Slot):ň (gN 1) Ŋ (Ĉ Ě (Ā 0) (Ā 1)) [.int (i:Int),.int (j:Int)] [sl,s3] []=some [pt (Hu.at_ S i),pt (Hu.at_ S j)]:=by
 rcases hs with rfl|rfl<;>simp[ň,fW hi,fW hj,-List.getElem?_map]
theorem Sl.cap{s:P.Slot}{ps:List PV}(h:Sl s ps):wu s=s:=by rcases h with rfl|rfl<;>rfl
theorem Z2k{a b c p:Hu.Pt}(ha:Sm a)(hb:Sm b)(hc:Sm c)(hp:Sm p):ShB (Hu.uF a b c p):=⟨by simp[Hu.uF],Z2x ha hb hc hp⟩
theorem Z2l{a b p:Hu.Pt}(ha:Sm a)(hb:Sm b)(hp:Sm p):ShB (Hu.uG a b p):=⟨by simp[Hu.uG],Z2y ha hb hp⟩
theorem Z0W{S:List Hu.Pt}{sl:P.Slot}(hs:Sl sl (S.map pt))(hS:∀p∈S,Sm p)(h0:S≠[])(hl:S.length≤100){p:Hu.Pt}(hp:Sm p):lO [sl,.sh (pt p)]=.ret (.ow (Wy S (Hu.Z0M S p))):=by
 have hat:∀i,i<S.length→Sm (Hu.at_ S i):=fun i h=>hS _ (Hu.Z24 h)
 have ht:=Z0V S.length hl
 have hpr:=Z0u S.length hl
 have hlen:jt [.lst (S.map pt)]=some (.int S.length):=by simp
 have F3:=bG (g:=gN 3) (mb:=vo) zB (fun q=>if Hu.Zr (Hu.uF (Hu.at_ S q.1) (Hu.at_ S q.2.1) (Hu.at_ S q.2.2) p)=true then some (Hu.uF (Hu.at_ S q.1) (Hu.at_ S q.2.1) (Hu.at_ S q.2.2) p,[q.1,q.2.1,q.2.2]) else none) (fun r=>.ow (Wy S r)) (fun ρ=>∃s3 s4,ρ=[sl,.sh (pt p),.sh (.int S.length),s3,s4]) (Hu.Z8 S.length) (by
  rintro ⟨i,j,k⟩ hm ρ ⟨s3,s4,rfl⟩
  obtain⟨h1,h2,h3⟩:=Hu.Z0z.mp hm
  have hi:i<S.length:=by omega
  have hj:j<S.length:=by omega
  have hb:=Z2k (hat i hi) (hat j hj) (hat k h3) hp
  have e1:=Z1x (hat i hi) (hat j hj) (hat k h3) hp
  have e2:=Z1E hb (sl:=.bw ((Hu.uF (Hu.at_ S i) (Hu.at_ S j) (Hu.at_ S k) p).map .int)) (.inr rfl)
  have e0:=Z2z hs hi hj h3 .no
  refine⟨[sl,.sh (pt p),.sh (.int S.length),.sh (zB (i,j,k)),s4],rfl,?_⟩
  cases q:Hu.Zr (Hu.uF (Hu.at_ S i) (Hu.at_ S j) (Hu.at_ S k) p) with
  |true=>
   left
   have hg:=Hu.Z0d.mp q
   have e3:=ZK (q:=[i,j,k]) (n:=S.length) hb hg.1 rfl (by simp;omega) hl (s0:=.bw ((Hu.uF (Hu.at_ S i) (Hu.at_ S j) (Hu.at_ S k) p).map .int)) (s1:=.sh (.tup [.int i,.int j,.int k])) (.inr rfl) (.inr rfl)
   rw[q] at e2
   refine⟨_,[sl,.sh (pt p),.sh (.int S.length),.sh (zB (i,j,k)),.ow ((Hu.uF (Hu.at_ S i) (Hu.at_ S j) (Hu.at_ S k) p).map .int)],rfl,?_⟩
   generalize Hu.uF (Hu.at_ S i) (Hu.at_ S j) (Hu.at_ S k) p=w at *
   generalize hws:w.map PV.int=ws at *
   simp[vo,zB,hs.cap,e0,e1,e2,e3,Wy]
  |false=>
   right
   rw[q] at e2
   refine⟨[sl,.sh (pt p),.sh (.int S.length),.sh (zB (i,j,k)),.ow ((Hu.uF (Hu.at_ S i) (Hu.at_ S j) (Hu.at_ S k) p).map .int)],rfl,?_,_,_,rfl⟩
   generalize Hu.uF (Hu.at_ S i) (Hu.at_ S j) (Hu.at_ S k) p=w at *
   generalize hws:w.map PV.int=ws at *
   simp[vo,zB,hs.cap,e0,e1,e2])
 have F2:=bG (g:=gN 3) (mb:=vm) pQ (fun q=>if Hu.Zr (Hu.uG (Hu.at_ S q.1) (Hu.at_ S q.2) p)=true then some (Hu.uG (Hu.at_ S q.1) (Hu.at_ S q.2) p,[q.1,q.2]) else none) (fun r=>.ow (Wy S r)) (fun ρ=>∃s3 s4,ρ=[sl,.sh (pt p),.sh (.int S.length),s3,s4]) (Hu.Z6 S.length) (by
  rintro ⟨i,j⟩ hm ρ ⟨s3,s4,rfl⟩
  obtain⟨h1,h2⟩:=Hu.ZD.mp hm
  have hi:i<S.length:=by omega
  have hb:=Z2l (hat i hi) (hat j h2) hp
  have e1:=Z2j (hat i hi) (hat j h2) hp
  have e2:=Z1E hb (sl:=.bw ((Hu.uG (Hu.at_ S i) (Hu.at_ S j) p).map .int)) (.inr rfl)
  have e0:=Z2A hs hi h2 .no
  refine⟨[sl,.sh (pt p),.sh (.int S.length),.sh (pQ (i,j)),s4],rfl,?_⟩
  cases q:Hu.Zr (Hu.uG (Hu.at_ S i) (Hu.at_ S j) p) with
  |true=>
   left
   have hg:=Hu.Z0d.mp q
   have e3:=ZK (q:=[i,j]) (n:=S.length) hb hg.1 rfl (by simp;omega) hl (s0:=.bw ((Hu.uG (Hu.at_ S i) (Hu.at_ S j) p).map .int)) (s1:=.sh (.tup [.int i,.int j])) (.inr rfl) (.inr rfl)
   rw[q] at e2
   refine⟨_,[sl,.sh (pt p),.sh (.int S.length),.sh (pQ (i,j)),.ow ((Hu.uG (Hu.at_ S i) (Hu.at_ S j) p).map .int)],rfl,?_⟩
   generalize Hu.uG (Hu.at_ S i) (Hu.at_ S j) p=w at *
   generalize hws:w.map PV.int=ws at *
   simp[vm,pQ,hs.cap,e0,e1,e2,e3,Wy]
  |false=>
   right
   rw[q] at e2
   refine⟨[sl,.sh (pt p),.sh (.int S.length),.sh (pQ (i,j)),.ow ((Hu.uG (Hu.at_ S i) (Hu.at_ S j) p).map .int)],rfl,?_,_,_,rfl⟩
   generalize Hu.uG (Hu.at_ S i) (Hu.at_ S j) p=w at *
   generalize hws:w.map PV.int=ws at *
   simp[vm,pQ,hs.cap,e0,e1,e2])
 have e3:(Hu.Z8 S.length).findSome? (fun q=>if Hu.Zr (Hu.uF (Hu.at_ S q.1) (Hu.at_ S q.2.1) (Hu.at_ S q.2.2) p)=true then some (Hu.uF (Hu.at_ S q.1) (Hu.at_ S q.2.1) (Hu.at_ S q.2.2) p,[q.1,q.2.1,q.2.2]) else none)=Hu.Z25 S p:=rfl
 have e2:(Hu.Z6 S.length).findSome? (fun q=>if Hu.Zr (Hu.uG (Hu.at_ S q.1) (Hu.at_ S q.2) p)=true then some (Hu.uG (Hu.at_ S q.1) (Hu.at_ S q.2) p,[q.1,q.2]) else none)=Hu.Z26 S p:=rfl
 rw[e3] at F3
 rw[e2] at F2
 have e1:=ZK (w:=[1]) (q:=[0]) (n:=S.length) ⟨by simp,by simp⟩ (by simp) rfl (by simpa using List.length_pos_iff.mpr h0) hl (s0:=.sh (.lst [.int 1])) (s1:=.sh (.lst [.int 0])) (.inl rfl) (.inl rfl)
 have hw1:(Fr.lay (List.replicate S.length 0) ([1].zip [0])).map (fun s=>pt (rt s [1].sum))=Wy S ([1],[0]):=rfl
 rw[hw1] at e1
 generalize hn:(S.length:Int)=N at *
 generalize (Hu.Z8 S.length).map zB=ts at *
 generalize (Hu.Z6 S.length).map pQ=prs at *
 unfold Hu.Z0M
 rcases F3 [sl,.sh (pt p),.sh (.int N),.no,.no] ⟨_,_,rfl⟩ with⟨r,ρ',q1,q2⟩|⟨ρ',q1,q2,s3,s4,hρ⟩
 ·rw[q1]
  rcases hs with rfl|rfl<;>simp[lO,o_,List.replicate,-ud,hlen,ht,q2]
 ·subst hρ
  rw[q1]
  rcases F2 [sl,.sh (pt p),.sh (.int N),s3,s4] ⟨_,_,rfl⟩ with⟨r,ρ',q3,q4⟩|⟨ρ',q3,q4,s3',QB,hρ⟩
  ·rw[q3]
   rcases hs with rfl|rfl<;>simp[lO,o_,List.replicate,-ud,hlen,ht,hpr,q2,q4]
  ·subst hρ
   rw[q3]
   rcases hs with rfl|rfl<;>simp[lO,o_,List.replicate,-ud,hlen,ht,hpr,q2,q4,e1]
def ZX(S:List Hu.Pt)(p:Hu.Pt):PV:=match Hu.Zx S p with
 |some l=>.tup [.str "out",cH l]
 |none=>.tup [.str "in",.lst (Wy S (Hu.Z0M S p))]
theorem Z1X{S:List Hu.Pt}{sl:P.Slot}(hs:Sl sl (S.map pt))(hS:∀p∈S,Sm p)(h0:S≠[])(hl:S.length≤100){p:Hu.Pt}(hp:Sm p):pq [sl,.sh (pt p)]=.ret (.sh (ZX S p)):=by
 have h1:=Z0U hs hS h0 (by omega) p
 have h2:=Z0W hs hS h0 hl hp
 unfold ZX
 cases e:Hu.Zx S p with
 |some l=>
  rw[e] at h1
  simp[pq,vp,List.replicate,hs.lend,h1,Z0s,cH,wG]
 |none=>
  rw[e] at h1
  simp[pq,vp,List.replicate,hs.lend,h1,Z0s,h2,wG]
theorem Z1y{r:P3}(hr:RB r)(s:Hu.Pt):sE [.sh (pt s),.sh (c3 r)]=.ret (.sh (pt (cst r (vM s)))):=by
 have e:=Z0F hr (vM s)
 have e':PV.tup [.int (2*s.1),.int (2*s.2),.int 0]=c3 (vM s):=rfl
 generalize hR:c3 r=R at *
 unfold pt
 simp[sE,BK,List.replicate,e',e]
 rfl
theorem Z0X{w:Str}{xs:List Int}(hg:Z5 w xs=true){r:P3}(hr:RB r){s:Hu.Pt}(hs:PB (vM s)):sG [.sh (Z4 (Za w) w xs),.sh (pt s),.sh (c3 r)]=.ret (.sh (ZX ((Z9 w xs).map (cst r)) (cst r (vM s)))):=by
 obtain⟨g1,g2,g3⟩:=Z0n hg
 have h1:=Z0m hg (by omega) hr
 have h2:=Z1y hr s
 have h3:=Z1X (S:=(Z9 w xs).map (cst r)) (sl:=.sh (.lst (((Z9 w xs).map (cst r)).map pt))) (.inl rfl) (by
  intro p hp
  obtain⟨q,hq,rfl⟩:=List.mem_map.mp hp
  exact Z0l hr (g3 q hq)) (by simpa using g2) (by simp;omega) (p:=cst r (vM s)) (Z0l hr hs)
 generalize ZX ((Z9 w xs).map (cst r)) (cst r (vM s))=V at *
 generalize ((Z9 w xs).map (cst r)).map pt=Y at *
 generalize pt (cst r (vM s))=Z at *
 generalize Z4 (Za w) w xs=v at *
 generalize c3 r=R at *
 generalize pt s=Q at *
 simp[sG,BL,List.replicate,h1,h2,h3]
theorem sIn:PyData.strOk (Str.ofString "in")=true:=by decide +kernel
theorem Z2F:PyData.strOk (Str.ofString "out")=true:=by decide +kernel
theorem dIO:(Str.ofString "out" =Str.ofString "in")=False:=eq_false (by decide +kernel)
theorem Z1g{w:Str}{xs:List Int}(hg:Z5 w xs=true){r:P3}(hr:RB r){s:Hu.Pt}(hs:PB (vM s)):lQ [.sh (Z4 (Za w) w xs),.sh (pt s),.sh (c3 r)]=.ret (.sh (.bl (shB w xs s r))):=by
 have h1:=Z0X hg hr hs
 unfold ZX at h1
 unfold shB
 generalize Z4 (Za w) w xs=v at *
 generalize c3 r=R at *
 generalize pt s=Q at *
 cases e:Hu.Zx ((Z9 w xs).map (cst r)) (cst r (vM s)) with
 |none=>
  rw[e] at h1
  dsimp only at h1
  generalize Wy ((Z9 w xs).map (cst r)) (Hu.Z0M ((Z9 w xs).map (cst r)) (cst r (vM s)))=Y at *
  simp[lQ,vq,List.replicate,h1,cF sIn sIn]
 |some l=>
  rw[e] at h1
  dsimp only at h1
  generalize cH l=Y at *
  simp[lQ,vq,List.replicate,h1,cF Z2F sIn,dIO]
structure YOk(w h:Nat)(T:List Th):Prop where
 w0:0<w
 w1:w≤60
 h1:h≤1000
 wh:w*h≤1000
 tl:T.length≤1000
 tg:∀t∈T,Z5 t.1 t.2=true
theorem Z2m{w k n:Nat}(hk:k<1000):PB (vM (bQ w k)):=by
 have h1:k % w≤k:=Nat.mod_le k w
 have h2:k / w≤k:=Nat.div_le_self k w
 unfold PB vM bQ
 dsimp only
 generalize k % w=a at *
 generalize k / w=b at *
 omega
theorem Z07{w h:Nat}{T:List Th}(Y:YOk w h T)(D:List Dy){o:Option P3}(ho:Wx o){k:Nat}(hk:k<1000):dO [.sh (Z0 w h T D),.sh (fH o),.sh (pt (bQ w k))]=.ret (.sh (.bl (sU w T o k))):=by
 cases o with
 |none=>
  generalize Z0 w h T D=Yv at *
  simp[dO,pA,List.replicate,fH,wG,sU]
 |some r=>
  have ho:RB r∧0<r.2.2:=ho
  have yt:=y_t w h T D
  have e:T.findSome? (fun t=>if zq t (bQ w k) r=true then some () else none)=if(T.any fun t=>zq t (bQ w k) r)=true then some () else none:=by
   generalize T=T'
   induction T' with
   |nil=>rfl
   |cons t T' ih=>
    rw[List.findSome?_cons,List.any_cons]
    cases q:zq t (bQ w k) r with
    |true=>simp
    |false=>rw[Bool.false_or,←ih];simp
  have hn:wG (c3 r)=false:=by simp[c3,wG]
  rcases bG (g:=gN 3) (mb:=vA) jK (fun t=>if zq t (bQ w k) r=true then some () else none) (fun _=>.sh (.bl true)) (fun ρ=>∃s,ρ=[.sh (Z0 w h T D),.sh (c3 r),.sh (pt (bQ w k)),s]) T (by
   rintro t ht ρ ⟨s,rfl⟩
   have es:lQ [.sh (jK t),.sh (pt (bQ w k)),.sh (c3 r)]=.ret (.sh (.bl (zq t (bQ w k) r))):=Z1g (Y.tg t ht) ho.1 (Z2m (n:=0) hk)
   refine⟨[.sh (Z0 w h T D),.sh (c3 r),.sh (pt (bQ w k)),.sh (jK t)],rfl,?_⟩
   generalize Z0 w h T D=Yv at *
   generalize c3 r=R at *
   generalize jK t=Tv at *
   generalize hP:pt (bQ w k)=Pv at *
   cases q:zq t (bQ w k) r with
   |true=>
    rw[q] at es
    exact .inl ⟨(),[.sh Yv,.sh R,.sh Pv,.sh Tv],by simp,by simp[vA,es]⟩
   |false=>
    rw[q] at es
    exact .inr ⟨[.sh Yv,.sh R,.sh Pv,.sh Tv],by simp,by simp[vA,es],_,rfl⟩) [.sh (Z0 w h T D),.sh (c3 r),.sh (pt (bQ w k)),.no] ⟨_,rfl⟩ with⟨_,ρ',q1,q2⟩|⟨ρ',q1,q2,_⟩
  ·rw[e] at q1
   have hd:sU w T (some r) k=true:=by
    show(T.any fun t=>zq t (bQ w k) r)=true
    cases q:T.any (fun t=>zq t (bQ w k) r) with
    |true=>rfl
    |false=>rw[q] at q1;simp at q1
   rw[hd]
   show dO [_,.sh (c3 r),_]=_
   generalize Z0 w h T D=Yv at *
   generalize c3 r=R at *
   generalize pt (bQ w k)=Pv at *
   simp[dO,pA,List.replicate,hn,yt,q2]
  ·rw[e] at q1
   have hd:sU w T (some r) k=false:=by
    show(T.any fun t=>zq t (bQ w k) r)=false
    cases q:T.any (fun t=>zq t (bQ w k) r) with
    |false=>rfl
    |true=>rw[q] at q1;simp at q1
   rw[hd]
   show dO [_,.sh (c3 r),_]=_
   generalize Z0 w h T D=Yv at *
   generalize c3 r=R at *
   generalize pt (bQ w k)=Pv at *
   simp[dO,pA,List.replicate,hn,yt,q2]
theorem ZY{w h:Nat}{T:List Th}{D:List Dy}{i:Nat}(hi:i<D.length):lM [.sh (Z0 w h T D),.sh (.int i)]=.ret (.sh (.lst (D[i].2.2.map fH))):=by
 have yd:=y_d w h T D
 have hx:(D.map bC)[i]?=some (bC D[i]):=by simp[hi]
 generalize Z0 w h T D=Yv at *
 generalize D.map bC=DV at *
 simp[lM,Bu,List.replicate,yd,hx]
 simp[bC]
theorem Z08{w h:Nat}{T:List Th}(D:List Dy)(hw:0<w){k:Nat}(hk:k<w*h):lK [.sh (Z0 w h T D),.sh (pt (bQ w k))]=.ret (.sh .non):=by
 have yw:=y_w w h T D
 have yh:=y_h w h T D
 have h1:=Nat.mod_lt k hw
 have h2:=(Z1D (k:=k) (h:=h) hw).mpr hk
 have a1:(0:Int)≤((k % w:Nat):Int):=Int.natCast_nonneg _
 have a2:((k % w:Nat):Int)<(w:Int):=Int.ofNat_lt.mpr h1
 have a3:(0:Int)≤((k / w:Nat):Int):=Int.natCast_nonneg _
 have a4:((k / w:Nat):Int)<(h:Int):=Int.ofNat_lt.mpr h2
 unfold pt bQ
 dsimp only
 generalize Z0 w h T D=Yv at *
 generalize ((k % w:Nat):Int)=x at *
 generalize ((k / w:Nat):Int)=y at *
 have hs:rW [.sh Yv,.sh (.tup [.int x,.int y])]=.ret (.sh (.bl true)):=by
  simp[rW,Bq,List.replicate,yw,yh,a1,a2,a3,a4]
 simp[lK,Br,List.replicate,hs]
theorem Z1Y{w h:Nat}{T:List Th}{D:List Dy}{i:Nat}(hi:i<D.length):rZ [.sh (Z0 w h T D),.sh (.int i)]=.ret (.sh .non):=by
 have yd:=y_d w h T D
 have hl:(D.map bC).length=D.length:=by simp
 have a1:(i:Int)<((D.map bC).length:Int):=by omega
 generalize Z0 w h T D=Yv at *
 generalize D.map bC=DV at *
 have hs:rY [.sh Yv,.sh (.int i)]=.ret (.sh (.bl true)):=by
  simp[rY,Bs,List.replicate,yd]
  omega
 simp[rZ,Bt,List.replicate,hs]
theorem Z09(f:Nat→PV):∀(n a:Nat),gC a ((List.range' a n).map f)=(List.range' a n).map fun(k:Nat)=>PV.tup [.int k,f k]
 |0,a=>rfl
 |n+1,a=>by
  rw[List.range'_succ,List.map_cons,List.map_cons]
  show _::gC (a+1) _=_
  rw[Z09 f n (a+1)]
theorem Z2B(f:Nat→PV)(n:Nat):gC 0 ((List.range n).map f)=(List.range n).map fun(k:Nat)=>PV.tup [.int k,f k]:=by
 rw[List.range_eq_range']
 exact Z09 f n 0
theorem Z0Y(os:List (Option P3)):(List.range os.length).map (fun j=>os.getD j none)=os:=by
 refine List.ext_getElem (by simp) fun i h1 h2=>?_
 simp at h1
 simp[h1]
theorem Z0J(os:List (Option P3)):gC 0 (os.map fH)=(List.range os.length).map fun(k:Nat)=>PV.tup [.int k,fH (os.getD k none)]:=by
 have h:=Z2B (fun j=>fH (os.getD j none)) os.length
 have e:(List.range os.length).map (fun j=>fH (os.getD j none))=os.map fH:=by
  have:=congrArg (List.map fH) (Z0Y os)
  rw[List.map_map] at this
  exact this
 rw[e] at h
 exact h
theorem Z0w{os:List (Option P3)}{j:Nat}(h:j<os.length):os.getD j none∈os:=by
 rw[List.getD_eq_getElem?_getD,List.getElem?_eq_getElem h]
 exact List.getElem_mem h
def ZB(w:Nat)(T:List Th)(os:List (Option P3))(k:Nat):List Nat:=(List.range os.length).filter fun j=>!sU w T (os.getD j none) k
def nV(j:Nat):PV:=.int (j:Int)
theorem Z0B{w h:Nat}{T:List Th}(Y:YOk w h T){lg:Nat}{D:List Dy}(hD:∀d∈D,Zp lg d)(qj:lg≤100){i k:Nat}(hi:i<D.length)(hk:k<w*h):lR [.sh (Z0 w h T D),.sh (.int i),.sh (pt (bQ w k))]=.ret (.ow ((ZB w T D[i].2.2 k).map nV)):=by
 have e1:=Z08 (T:=T) D Y.w0 hk
 have e2:=Z1Y (w:=w) (h:=h) (T:=T) hi
 have e3:=ZY (w:=w) (h:=h) (T:=T) hi
 have hd:=hD D[i] (List.getElem_mem hi)
 obtain⟨os,hos⟩:∃os,D[i].2.2=os:=⟨_,rfl⟩
 have hd2:os.length≤lg∧∀o∈os,Wx o:=by rw[←hos];exact hd.2
 rw[hos] at e3 ⊢
 have hc:=cu (g:=gT 2 (ĥ (gN 2) (ĥ (gN 3) Ū))) (mt:=dj (cI (ĕ (đ dO (ą 0 (ą 3 (ą 1 Ď))))))) (me:=ġ 2) (fun(j:Nat)=>PV.tup [.int j,fH (os.getD j none)]) nV (fun j=>!sU w T (os.getD j none) k) (fun ρ=>∃a b,ρ=[.sh (Z0 w h T D),.sh (pt (bQ w k)),a,b]) (List.range os.length) [.sh (Z0 w h T D),.sh (pt (bQ w k)),.no,.no] [] ⟨_,_,rfl⟩ (by simp;omega) (by
  rintro j hj ρ ⟨a,b,rfl⟩
  have hj:=List.mem_range.mp hj
  have ei:=Z07 Y D (hd2.2 _ (Z0w hj)) (k:=k) (by have:=Y.wh;omega)
  generalize os.getD j none=o at *
  generalize Z0 w h T D=Yv at *
  generalize fH o=O at *
  generalize pt (bQ w k)=Pv at *
  generalize sU w T o k=b at *
  refine⟨[.sh Yv,.sh Pv,.sh (.int j),.sh O],[.sh Yv,.sh Pv,.sh (.int j),.sh O],by simp,by simp[ei],fun _=>⟨_,_,rfl⟩,fun _=>⟨[.sh Yv,.sh Pv,.sh (.int j),.sh O],by simp[nV],_,_,rfl⟩⟩)
 rw[List.nil_append] at hc
 have he:=Z0J os
 rw[←he] at hc
 unfold ZB
 generalize ((List.range os.length).filter fun j=>!sU w T (os.getD j none) k).map nV=R at *
 generalize Z0 w h T D=Yv at *
 generalize pt (bQ w k)=Pv at *
 generalize os.map fH=OV at *
 simp[lR,BP,List.replicate,e1,e2,e3,hc]
def Zi(w:Nat)(T:List Th)(k:Nat)(D:List Dy)(i:Nat):Option (Nat×Nat):=((List.range (D.getD i default).2.2.length).find? fun j=>!sU w T ((D.getD i default).2.2.getD j none) k).map fun j=>(i,j)
def pV:Option (Nat×Nat)→PV
 |none=>.non
 |some q=>.tup [.int q.1,.int q.2]
theorem Z0a{α β:Type}(p:α→Bool)(f:α→β):∀l:List α,l.findSome? (fun x=>if p x=true then some (f x) else none)=(l.find? p).map f
 | []=>rfl
 |x::l=>by
  rw[List.findSome?_cons,List.find?_cons]
  cases h:p x with
  |true=>simp
  |false=>simpa using Z0a p f l
theorem Z0C{w h:Nat}{T:List Th}(Y:YOk w h T){lg:Nat}{D:List Dy}(hD:∀d∈D,Zp lg d)(qj:lg≤100)(hl:D.length≤100){k:Nat}(hk:k<w*h):pC [.sh (Z0 w h T D),.sh (pt (bQ w k))]=.ret (.sh (pV ((List.range D.length).findSome? (Zi w T k D)))):=by
 have e1:=Z08 (T:=T) D Y.w0 hk
 have yd:=y_d w h T D
 have rr:=Zs (n:=D.length) (by omega)
 have main:=bG (g:=gN 2) (mb:=vD) (fun(i:Nat)=>PV.int (i:Int)) (Zi w T k D) (fun q=>.sh (.tup [.int q.1,.int q.2])) (fun ρ=>∃a b c,ρ=[.sh (Z0 w h T D),.sh (pt (bQ w k)),a,b,c]) (List.range D.length) (by
  rintro i hi ρ ⟨a,b,c,rfl⟩
  have hi:=List.mem_range.mp hi
  have e3:=ZY (w:=w) (h:=h) (T:=T) hi
  have hd:=hD D[i] (List.getElem_mem hi)
  have hg:D.getD i default=D[i]:=by rw[List.getD_eq_getElem?_getD,List.getElem?_eq_getElem hi];rfl
  obtain⟨os,hos⟩:∃os,D[i].2.2=os:=⟨_,rfl⟩
  have hd2:os.length≤lg∧∀o∈os,Wx o:=by rw[←hos];exact hd.2
  have hf:Zi w T k D i=(List.range os.length).findSome? (fun j=>if(!sU w T (os.getD j none) k)=true then some (i,j) else none):=by
   unfold Zi
   rw[hg,hos,Z0a]
  rw[hos] at e3
  have inner:=bG (g:=gT 2 (ĥ (gN 3) (ĥ (gN 4) Ū))) (mb:=vC) (fun(j:Nat)=>PV.tup [.int j,fH (os.getD j none)]) (fun j=>if(!sU w T (os.getD j none) k)=true then some (i,j) else none) (fun q=>.sh (.tup [.int ((q.1:Nat):Int),.int ((q.2:Nat):Int)])) (fun ρ=>∃b c,ρ=[.sh (Z0 w h T D),.sh (pt (bQ w k)),.sh (.int i),b,c]) (List.range os.length) (by
   rintro j hj ρ ⟨b,c,rfl⟩
   have hj:=List.mem_range.mp hj
   have ei:=Z07 Y D (hd2.2 _ (Z0w hj)) (k:=k) (by have:=Y.wh;omega)
   generalize os.getD j none=o at *
   generalize Z0 w h T D=Yv at *
   generalize fH o=O at *
   generalize pt (bQ w k)=Pv at *
   generalize sU w T o k=bb at *
   refine⟨[.sh Yv,.sh Pv,.sh (.int i),.sh (.int j),.sh O],by simp,?_⟩
   cases bb with
   |false=>exact .inl ⟨(i,j),[.sh Yv,.sh Pv,.sh (.int i),.sh (.int j),.sh O],by simp,by simp[vC,ei]⟩
   |true=>exact .inr ⟨[.sh Yv,.sh Pv,.sh (.int i),.sh (.int j),.sh O],by simp,by simp[vC,ei],_,_,rfl⟩) [.sh (Z0 w h T D),.sh (pt (bQ w k)),.sh (.int i),b,c] ⟨_,_,rfl⟩
  rw[←Z0J os,←hf] at inner
  refine⟨[.sh (Z0 w h T D),.sh (pt (bQ w k)),.sh (.int i),b,c],rfl,?_⟩
  rcases inner with⟨r,ρ2,q1,q2⟩|⟨ρ2,q1,q2,b',c',rfl⟩
  ·refine .inl ⟨r,ρ2,q1,?_⟩
   generalize Z0 w h T D=Yv at *
   generalize pt (bQ w k)=Pv at *
   generalize os.map fH=OV at *
   simp[vD,e3,q2]
  ·refine .inr ⟨[.sh (Z0 w h T D),.sh (pt (bQ w k)),.sh (.int i),b',c'],q1,?_,_,_,_,rfl⟩
   generalize Z0 w h T D=Yv at *
   generalize pt (bQ w k)=Pv at *
   generalize os.map fH=OV at *
   simp[vD,e3,q2]) [.sh (Z0 w h T D),.sh (pt (bQ w k)),.no,.no,.no] ⟨_,_,_,rfl⟩
 have hdl:(D.map bC).length=D.length:=by simp
 have rr':aj [.int ((D.map bC).length:Int)]=some ((List.range D.length).map fun(i:Nat)=>PV.int (i:Int)):=by rw[hdl];exact rr
 generalize Z0 w h T D=Yv at *
 generalize pt (bQ w k)=Pv at *
 generalize D.map bC=DV at *
 rcases main with⟨r,ρ2,q1,q2⟩|⟨ρ2,q1,q2,_⟩
 ·rw[q1]
  simp[pC,vG,List.replicate,e1,yd,rr',q2,pV]
 ·rw[q1]
  simp[pC,vG,List.replicate,e1,yd,rr',q2,pV]
theorem Z1G(x:Int):cQ Zk Zl Zm Zn [.int x,.ty "int"]=some (.bl true):=rfl
theorem Z1h(x:Int):cQ Zk Zl Zm Zn [.int x,.ty "bool"]=some (.bl false):=rfl
theorem Z2n(x:List PV):cQ Zk Zl Zm Zn [.lst x,.ty "list"]=some (.bl true):=rfl
theorem Z2C(x:List PV):cQ Zk Zl Zm Zn [.tup x,.ty "tuple"]=some (.bl true):=rfl
theorem Z01(L:List Nat):L.map nV=(L.map fun(j:Nat)=>(j:Int)).map .int:=by simp[nV,Function.comp_def]
theorem Z2D(L:List Nat):cj (.lst (L.map nV)) (.lst (L.map nV))=some (.bl false):=by
 rw[Z01]
 exact Fv (by unfold aF;exact xH _) (by unfold dep;have:=xJ (L.map fun(j:Nat)=>(j:Int));omega)
theorem ZZ{L:List Nat}(hn:L.length≤1000){s0 s1:P.Slot}(h0:Sl s0 (L.map nV))(h1:Sl s1 (L.map nV)):lU [s0,s1]=.ret (.sh (.bl true)):=by
 have e:=Z2D L
 have hc:=Ő (g:=gN 0) (mt:=Ŋ) (me:=dY (dz (cQ Zk Zl Zm Zn) (Ą (Ā 0) (Ą (mC (.ty "int")) ě))) (Hv (dz (cQ Zk Zl Zm Zn) (Ą (Ā 0) (Ą (mC (.ty "bool")) ě))))) nV (fun _=>.bl true) (fun ρ=>∃a,ρ=[a]) L [.no] [] ⟨_,rfl⟩ (by simp;omega) (by
  rintro k hk ρ ⟨a,rfl⟩
  exact⟨[.sh (nV k)],_,[.sh (nV k)],rfl,rfl,by simp[nV,Z1G,Z1h],_,rfl⟩)
 rw[List.nil_append] at hc
 have ha:mD [.lst (L.map fun _=>PV.bl true)]=some (.bl true):=by
  have:=Z0h (L.map fun _=>true)
  rw[List.map_map] at this
  have e2:(L.map fun _=>true).all id=true:=by simp
  rw[e2] at this
  exact this
 generalize L.map nV=X at *
 rcases h0 with rfl|rfl<;>rcases h1 with rfl|rfl<;>simp[lU,BR,List.replicate,e,hc,Z2n,ha]
theorem Z1i(q:Option (Nat×Nat)):pB [.sh (pV q),.sh (pV q)]=.ret (.sh (.bl true)):=by
 cases q with
 |none=>simp[pB,vB,List.replicate,pV,wG]
 |some q=>
  have e:cj (.tup [.int q.1,.int q.2]) (.tup [.int q.1,.int q.2])=some (.bl false):=by
   have:=Z0c ((q.1:Int),(q.2:Int)) ((q.1:Int),(q.2:Int))
   simpa[pt] using this
  simp[pB,vB,List.replicate,pV,wG,e,Z2C,Z1G,Z1h,ň]
  rfl
def lX(w h:Nat)(T:List Th)(d:Dy):List PV:=d.2.2.map fun o=>.int (Cz w h T o)
theorem Z1Z{w h:Nat}{T:List Th}(Y:YOk w h T){lg:Nat}{D:List Dy}(hD:∀d∈D,Zp lg d)(qj:lg≤100)(hl:D.length≤100) :
 ň (gT 3 (ĥ (gN 1) (ĥ (gN 2) (ĥ (gN 3) Ū)))) Ŋ (ĕ (Ŕ [0] 1 (ŏ 3) (gN 1) Ŋ (ĕ (đ fB (ą 0 (ą 1 Ď)))))) (D.map bC) [.sh (Z0 w h T D),.no,.no,.no] []=some (D.map fun d=>.lst (lX w h T d)):=by
 have hc:=Ő (g:=gT 3 (ĥ (gN 1) (ĥ (gN 2) (ĥ (gN 3) Ū)))) (mt:=Ŋ) (me:=ĕ (Ŕ [0] 1 (ŏ 3) (gN 1) Ŋ (ĕ (đ fB (ą 0 (ą 1 Ď)))))) bC (fun d=>.lst (lX w h T d)) (fun ρ=>∃a b c,ρ=[.sh (Z0 w h T D),a,b,c]) D [.sh (Z0 w h T D),.no,.no,.no] [] ⟨_,_,_,rfl⟩ (by simp;omega) (by
  rintro d hd ρ ⟨a,b,c,rfl⟩
  have hdd:=hD d hd
  have hi:=Ő (g:=gN 1) (mt:=Ŋ) (me:=ĕ (đ fB (ą 0 (ą 1 Ď)))) fH (fun o=>.int (Cz w h T o)) (fun ρ=>∃a,ρ=[.sh (Z0 w h T D),a]) d.2.2 [.sh (Z0 w h T D),.no] [] ⟨_,rfl⟩ (by have:=hdd.2.1;simp;omega) (by
   rintro o ho ρ ⟨a,rfl⟩
   have e:=Z1U Y.w0 Y.w1 Y.h1 Y.wh Y.tl D Y.tg (hdd.2.2 o ho)
   generalize Z0 w h T D=Yv at *
   generalize fH o=O at *
   refine⟨[.sh Yv,.sh O],_,[.sh Yv,.sh O],rfl,rfl,by simp[e],_,rfl⟩)
  rw[List.nil_append] at hi
  refine⟨[.sh (Z0 w h T D),.sh (.str d.1),.sh (.int d.2.1),.sh (.lst (d.2.2.map fH))],_,[.sh (Z0 w h T D),.sh (.str d.1),.sh (.int d.2.1),.sh (.lst (d.2.2.map fH))],by simp[bC],rfl,?_,_,_,_,rfl⟩
  unfold lX
  generalize Z0 w h T D=Yv at *
  generalize d.2.2.map fH=OV at *
  simp[hi])
 simpa using hc
theorem Z2o(L:List Nat):cj (.lst (L.map nV)) (.lst [])=some (.bl (!L.isEmpty)):=by
 have h1:aF (.lst (L.map nV))=true:=by rw[Z01];unfold aF;exact xH _
 have h2:dep (.lst (L.map nV))≤60:=by rw[Z01];unfold dep;have:=xJ (L.map fun(j:Nat)=>(j:Int));omega
 have h3:aF (.lst [])=true:=rfl
 unfold cj pY
 rw[h1,h3]
 have h4:decide (min (dep (.lst (L.map nV))) (dep (.lst []))≤60)=true:=by rw[decide_eq_true_eq];omega
 rw[h4]
 cases L with
 |nil=>rfl
 |cons x L=>
  show some (PV.bl !eqB (.lst ((x::L).map nV)) (.lst []))=_
  simp[eqB,dG]
theorem Z20{w h:Nat}{T:List Th}{lg:Nat}{D:List Dy}(hD:∀d∈D,Zp lg d)(qj:lg≤100){i k:Nat}(hi:i<D.length)(hk:k<w*h)(s3:P.Slot) :
 ň (gN 3) (cZ (Ĉ aA (Ĉ nQ (Ĉ wF (Ĉ Ě (Ĉ Ě (Ā 1) (Ā 2)) (Ā 3)) (Ā 0)) (mC (.int 1))) (mC (.int 0)))) (ġ 3) ((List.range D[i].2.2.length).map fun(j:Nat)=>PV.int (j:Int)) [.sh (.int k),.bw (D.map fun d=>.lst (lX w h T d)),.sh (.int i),s3] []=some ((ZB w T D[i].2.2 k).map nV):=by
 have hx:(D.map fun d=>PV.lst (lX w h T d))[i]?=some (.lst (lX w h T D[i])):=by simp[hi]
 have hd:=hD D[i] (List.getElem_mem hi)
 obtain⟨os,hos⟩:∃os,D[i].2.2=os:=⟨_,rfl⟩
 have hol:os.length≤lg:=by rw[←hos];exact hd.2.1
 have hq:lX w h T D[i]=os.map fun o=>PV.int (Cz w h T o):=by unfold lX;rw[hos]
 rw[hq] at hx
 rw[hos]
 generalize (D.map fun d=>PV.lst (lX w h T d))=SV at *
 have hc:=cu (g:=gN 3) (mt:=cZ (Ĉ aA (Ĉ nQ (Ĉ wF (Ĉ Ě (Ĉ Ě (Ā 1) (Ā 2)) (Ā 3)) (Ā 0)) (mC (.int 1))) (mC (.int 0)))) (me:=ġ 3) (fun(j:Nat)=>PV.int (j:Int)) nV (fun j=>!sU w T (os.getD j none) k) (fun ρ=>∃a,ρ=[.sh (.int k),.bw SV,.sh (.int i),a]) (List.range os.length) [.sh (.int k),.bw SV,.sh (.int i),s3] [] ⟨_,rfl⟩ (by simp;omega) (by
  rintro j hj ρ ⟨a,rfl⟩
  have hj:=List.mem_range.mp hj
  have hy:(os.map fun o=>PV.int (Cz w h T o))[j]?=some (.int (Cz w h T (os.getD j none))):=by
   rw[List.getD_eq_getElem?_getD,List.getElem?_eq_getElem hj]
   simp[hj]
  generalize os.getD j none=o at *
  have hb:(Cz w h T o).testBit k=sU w T o k:=by rw[Cz,Zv];simp[hk]
  have sb:nQ (.int ((Cz w h T o:Int) / 2 ^ k)) (.int 1)=some (.int (if sU w T o k then 1 else 0)):=by
   show some (PV.int (Builtin.bitAnd ((Cz w h T o:Int) / 2 ^ k) 1))=_
   rw[Z2u,Z1R,hb]
  have so:wD (Cz w h T o:Int) (k:Int)=true:=by unfold wD;simp
  generalize Cz w h T o=A at *
  generalize (os.map fun o=>PV.int (Cz w h T o))=OA at *
  refine⟨[.sh (.int k),.bw SV,.sh (.int i),.sh (.int j)],[.sh (.int k),.bw SV,.sh (.int i),.sh (.int j)],rfl,?_,fun _=>⟨_,rfl⟩,fun _=>⟨[.sh (.int k),.bw SV,.sh (.int i),.sh (.int j)],by simp[nV],_,rfl⟩⟩
  cases hd:sU w T o k<;>rw[hd] at sb<;>simp at sb<;>simp[hx,hy,so,sb])
 simpa[ZB] using hc
theorem Z1j(w:Nat)(T:List Th)(k:Nat){D:List Dy}{i:Nat}(hi:i<D.length):Zi w T k D i=(ZB w T D[i].2.2 k).head?.map fun j=>(i,j):=by
 have hg:D.getD i default=D[i]:=by rw[List.getD_eq_getElem?_getD,List.getElem?_eq_getElem hi];rfl
 unfold Zi ZB
 rw[hg,List.head?_filter]
def nxt(w:Nat)(T:List Th)(k:Nat)(D:List Dy)(b:Option (Nat×Nat))(i:Nat):Option (Nat×Nat):=b.or (Zi w T k D i)
theorem Z0K{α β:Type}(f:α→Option β):∀(xs:List α) (b:Option β),xs.foldl (fun b x=>b.or (f x)) b=b.or (xs.findSome? f)
 | [],b=>by simp
 |x::xs,b=>by
  rw[List.foldl_cons,Z0K f xs,List.findSome?_cons]
  cases b with
  |some b=>simp
  |none=>cases f x<;>simp
theorem Z21{w h:Nat}{T:List Th}(Y:YOk w h T){lg:Nat}{D:List Dy}(hD:∀d∈D,Zp lg d)(qj:lg≤100){i k:Nat}(hi:i<D.length)(hk:k<w*h)(b:Option (Nat×Nat))(z0 z1 z2 z3 z4 Qu Qv:P.Slot):∃y11 y12,kO [z0,z1,z2,z3,z4,.sh (Z0 w h T D),.ow (D.map fun d=>.lst (lX w h T d)),.sh (.int k),.sh (pt (bQ w k)),.sh (pV b),.sh (.int i),Qu,Qv]=.ok .nx [z0,z1,z2,z3,z4,.sh (Z0 w h T D),.ow (D.map fun d=>.lst (lX w h T d)),.sh (.int k),.sh (pt (bQ w k)),.sh (pV (nxt w T k D b i)),.sh (.int i),y11,y12]:=by
 have hx:(D.map fun d=>PV.lst (lX w h T d))[i]?=some (.lst (lX w h T D[i])):=by simp[hi]
 have hdl:(lX w h T D[i]).length=D[i].2.2.length:=by simp[lX]
 have hd:=hD D[i] (List.getElem_mem hi)
 have rr:=Zs (n:=D[i].2.2.length) (by have:=hd.2.1;omega)
 have rr':aj [.int ((lX w h T D[i]).length:Int)]=some ((List.range D[i].2.2.length).map fun(j:Nat)=>PV.int (j:Int)):=by rw[hdl];exact rr
 have q1:=Z20 (w:=w) (h:=h) (T:=T) hD qj hi hk .no
 have q2:=Z0B Y hD qj hi hk
 have hll:(ZB w T D[i].2.2 k).length≤1000:=by
  unfold ZB
  have:=List.length_filter_le (fun j=>!sU w T (D[i].2.2.getD j none) k) (List.range D[i].2.2.length)
  have:=hd.2.1
  simp at *
  omega
 have hf:=Z1j w T k hi
 unfold nxt
 rw[hf]
 generalize ZB w T D[i].2.2 k=L at *
 have q3:=ZZ hll (s0:=.bw (L.map nV)) (s1:=.bw (L.map nV)) (.inr rfl) (.inr rfl)
 have q4:=ZZ hll (s0:=.sh (.lst (L.map nV))) (s1:=.bw (L.map nV)) (.inl rfl) (.inr rfl)
 have q5:=Z2o L
 have hlen:(L.map nV).length<16777216:=by simp;omega
 generalize Z0 w h T D=Yv at *
 generalize pt (bQ w k)=Pv at *
 generalize (D.map fun d=>PV.lst (lX w h T d))=SV at *
 generalize lX w h T D[i]=DL at *
 refine⟨.ow (L.map nV),.ow (L.map nV ++ [.int 0]),?_⟩
 cases b with
 |some b=>
  have hn:wG (pV (some b))=false:=rfl
  have e:(some b).or (L.head?.map fun j=>(i,j))=some b:=rfl
  rw[e]
  generalize pV (some b)=B at *
  generalize L.map nV=LV at *
  simp[kO,hx,rr',q1,hn,q2,q3,hlen,q4]
 |none=>
  have hn:wG (pV none)=true:=rfl
  cases L with
  |nil=>
   have e:(none:Option (Nat×Nat)).or (([]:List Nat).head?.map fun j=>(i,j))=none:=rfl
   rw[e]
   have q5':cj (.lst (([]:List Nat).map nV)) (.lst [])=some (.bl false):=q5
   generalize pV none=B at *
   generalize ([]:List Nat).map nV=LV at *
   simp[kO,hx,rr',q1,hn,q2,q3,hlen,q4,q5']
  |cons j L=>
   have e:(none:Option (Nat×Nat)).or ((j::L).head?.map fun j=>(i,j))=some (i,j):=rfl
   rw[e]
   have q5':cj (.lst ((j::L).map nV)) (.lst [])=some (.bl true):=q5
   have h0:((j::L).map nV)[0]?=some (.int (j:Int)):=rfl
   have e2:pV (some (i,j))=.tup [.int (i:Int),.int (j:Int)]:=rfl
   rw[e2]
   generalize pV none=B at *
   generalize (j::L).map nV=LV at *
   simp[kO,hx,rr',q1,hn,q2,q3,hlen,q4,q5',h0]
def Zh(t:Th):PV:=.tup [.str t.1,.lst (t.2.map .int)]
theorem Z2p(w h:Nat):iI [.tup [.int w,.int h]]=some (.int ((max w h:Nat):Int)):=by
 show some (PV.int (max (w:Int) h))=_
 congr 2
 omega
theorem Z0x{w h:Nat}(hw:1≤w∧w≤20)(hh:1≤h∧h≤20):∀(cs:List Int) (acc:List PV) (s1:P.Slot),acc.length+cs.length≤1000→∃T:List Th,ň (gN 1) Ŋ (ĕ (đ dM (ą 1 (Ė (dz iI (Ą (Ā 0) ě)) Ď)))) (cs.map .int) [.sh (.tup [.int w,.int h]),s1] acc=some (acc++T.map Zh)∧T.length=cs.length∧∀t∈T,Z5 t.1 t.2=true
 | [],acc,s1,_=>⟨[],by simp[ň],rfl,by simp⟩
 |c::cs,acc,s1,ha=>by
  obtain⟨t,e1,e2⟩:=Z1d c (w:=((max w h:Nat):Int)) (by omega) (by omega)
  obtain⟨T,q1,q2,q3⟩:=Z0x hw hh cs (acc ++ [Zh t]) (.sh (.int c)) (by simp at ha ⊢;omega)
  refine⟨t::T,?_,by simp[q2],?_⟩
  ·have hz:acc.length<16777216:=by simp at ha;omega
   have mx:=Z2p w h
   change dM _=.ret (.sh (Zh t)) at e1
   generalize hR:Zh t=R at *
   generalize ((max w h:Nat):Int)=m at *
   rw[List.map_cons,ň]
   simp[mx,e1,hz,hR]
   simpa using q1
  ·intro x hx
   rcases List.mem_cons.mp hx with rfl|hx
   ·exact e2
   ·exact q3 x hx
theorem Z1z{w:Str}{xs:List Int}(h:Z5 w xs=true):PyData.strOk w=true:=by
 unfold Z5 at h
 by_cases e1:w= "post"
 ·rw[e1];exact s1
 rw[if_neg e1] at h
 by_cases e2:w= "fence"
 ·rw[e2];exact s2
 rw[if_neg e2] at h
 by_cases e3:w= "sail"
 ·rw[e3];exact s3
 rw[if_neg e3] at h
 by_cases e4:w= "cloth"
 ·rw[e4];exact s4
 rw[if_neg e4] at h
 by_cases e5:w= "house"
 ·rw[e5];exact s5
 rw[if_neg e5] at h
 cases h
theorem Z1k{T:List Th}(hl:T.length≤1000)(hg:∀t∈T,Z5 t.1 t.2=true)(s0 s1:P.Slot):ň (gT 2 (ĥ (gN 0) (ĥ (gN 1) Ū))) Ŋ (ĕ (đ cG (ą 0 (Ė (ĕ (nG dI (Ą (Ā 1) ě))) Ď)))) (T.map Zh) [s0,s1] []=some (T.map jK):=by
 have hc:=Ő (g:=gT 2 (ĥ (gN 0) (ĥ (gN 1) Ū))) (mt:=Ŋ) (me:=ĕ (đ cG (ą 0 (Ė (ĕ (nG dI (Ą (Ā 1) ě))) Ď)))) Zh jK (fun ρ=>∃a b,ρ=[a,b]) T [s0,s1] [] ⟨_,_,rfl⟩ (by simp;omega) (by
  rintro t ht ρ ⟨a,b,rfl⟩
  have e:=Z1q (Z1z (hg t ht)) (xs:=t.2) (sl:=.sh (.lst (t.2.map .int))) (.inl rfl)
  rw[if_pos (hg t ht)] at e
  change cG _=.ret (.sh (jK t)) at e
  refine⟨[.sh (.str t.1),.sh (.lst (t.2.map .int))],_,[.sh (.str t.1),.sh (.lst (t.2.map .int))],by simp[Zh],rfl,?_,_,_,rfl⟩
  generalize t.2.map PV.int=X at *
  generalize jK t=V at *
  simp[e])
 simpa using hc
noncomputable def Z0y:M Fl:=(ĝ (ĳ 4 (Ŕ [] 2 (ŏ 2) (gT 2 (ĥ (gN 0) (ĥ (gN 1) Ū))) Ŋ (ĕ (đ cG (ą 0 (Ė (ĕ (nG dI (Ą (Ā 1) ě))) Ď)))))) (ĝ (ĳ 5 (Ŗ (bU "Yard" jB (Ė (Ĉ Ě (Ā 1) (mC (.int 0))) (Ė (Ĉ Ě (Ā 1) (mC (.int 1))) (ą 4 (ą 3 Ď))))))) (ĝ (ĳ 6 (Ŕ [5] 3 (ŏ 3) (gT 3 (ĥ (gN 1) (ĥ (gN 2) (ĥ (gN 3) Ū)))) Ŋ (ĕ (Ŕ [0] 1 (ŏ 3) (gN 1) Ŋ (ĕ (đ fB (ą 0 (ą 1 Ď)))))))) (ĝ (cJ (au aj (Ą (Ĉ Į (Ĉ Ě (Ā 1) (mC (.int 0))) (Ĉ Ě (Ā 1) (mC (.int 1)))) ě)) (gN 7) pD) (Ĳ (Ŗ (mC (.bl true))))))))
theorem Z2q:BW=(ĝ (ĳ 1 (đ dJ (Ė (ĕ (đ Ů (ą 0 (Ė (mC (.int 0)) Ď)))) (Ė (mC (.int 9)) Ď)))) (ĝ (ĳ 2 (Ŕ [1] 1 (ŧ (ĕ (Ad (Ā 0) (mP (mC (.int 2))) (mP (mC (.int 6)))))) (gN 1) Ŋ (ĕ (đ dM (ą 1 (Ė (dz iI (Ą (Ā 0) ě)) Ď)))))) (ĝ (ĳ 3 (đ fj (ą 0 (Ė (mC (.int 6)) (Ė (Ĉ Ō (ĕ (đ Ů (ą 0 (Ė (mC (.int 1)) Ď)))) (mC (.int 4))) (Ė (mC (.int 4)) Ď)))))) (ĝ (cL (cZ (Ĉ aA (Ĉ Ō (Ĉ aM (ĕ (đ Ů (ą 0 (Ė (mC (.int 1)) Ď)))) (mC (.int 4))) (mC (.int 16))) (mC (.int 9)))) (ĝ (ĳ 1 (Ŗ (Ř (Ą (ĕ (Ł ļ (mC (.int 1)) (Ĉ Ō (ĕ (đ Ů (ą 0 (Ė (mC (.int 0)) Ď)))) (mC (.int 2))))) (Ą (mC (.int 1)) ě))))) (ĝ (ĳ 2 (Ad (Ā 2) wH (mP (mC (.int 1))))) (ĳ 3 (đ fj (ą 0 (Ė (mC (.int 6)) (Ė (mC (.int 3)) (Ė (mC (.int 24)) Ď)))))))) dD) Z0y)))):=rfl
theorem Z22{w h:Nat}{T:List Th}(Y:YOk w h T){lg:Nat}{D:List Dy}(hD:∀d∈D,Zp lg d)(qj:lg≤100)(hl:D.length≤100){k:Nat}(hk:k<w*h)(z0 z2 z4 z8 z9 Ua Qu Qv:P.Slot):∃y8 y9 y10 y11 y12,pD [z0,.sh (.tup [.int w,.int h]),z2,.sh (.lst (D.map bC)),z4,.sh (Z0 w h T D),.ow (D.map fun d=>.lst (lX w h T d)),.sh (.int k),z8,z9,Ua,Qu,Qv]=.ok .nx [z0,.sh (.tup [.int w,.int h]),z2,.sh (.lst (D.map bC)),z4,.sh (Z0 w h T D),.ow (D.map fun d=>.lst (lX w h T d)),.sh (.int k),y8,y9,y10,y11,y12]:=by
 have hw:=Y.w0
 have hz:¬w=0:=by omega
 have m1:((k:Int)).fmod (w:Int)=((k % w:Nat):Int):=by rw[Int.fmod_eq_emod_of_nonneg _ (by omega)];rfl
 have m2:((k:Int)).fdiv (w:Int)=((k / w:Nat):Int):=by rw[Int.fdiv_eq_ediv_of_nonneg _ (by omega)];rfl
 have fo:eX (k:Int) (w:Int)=true:=U_ (by omega) (by have:=Y.w1;omega) (by have:=Y.w1;omega)
 have rr:=Zs (n:=D.length) (by omega)
 have hdl:(D.map bC).length=D.length:=by simp
 have rr':aj [.int ((D.map bC).length:Int)]=some ((List.range D.length).map fun(i:Nat)=>PV.int (i:Int)):=by rw[hdl];exact rr
 obtain⟨ρ',e1,y10,y11,y12,rfl⟩:=cB (g:=gN 10) (mb:=kO) (fun(i:Nat)=>PV.int (i:Int)) (fun b i=>nxt w T k D b i) (fun b ρ=>∃a c d,ρ=[z0,.sh (.tup [.int w,.int h]),z2,.sh (.lst (D.map bC)),z4,.sh (Z0 w h T D),.ow (D.map fun d=>.lst (lX w h T d)),.sh (.int k),.sh (pt (bQ w k)),.sh (pV b),a,c,d]) (List.range D.length) (by
  rintro i hi b ρ ⟨a,c,d,rfl⟩
  have hi:=List.mem_range.mp hi
  obtain⟨y11,y12,e⟩:=Z21 Y hD qj hi hk b z0 (.sh (.tup [.int w,.int h])) z2 (.sh (.lst (D.map bC))) z4 c d
  exact⟨_,_,rfl,e,_,_,_,rfl⟩) none [z0,.sh (.tup [.int w,.int h]),z2,.sh (.lst (D.map bC)),z4,.sh (Z0 w h T D),.ow (D.map fun d=>.lst (lX w h T d)),.sh (.int k),.sh (pt (bQ w k)),.sh (pV none),Ua,Qu,Qv] ⟨_,_,_,rfl⟩
 have hfo:(List.range D.length).foldl (fun b i=>nxt w T k D b i) none=(List.range D.length).findSome? (Zi w T k D):=by
  have:=Z0K (Zi w T k D) (List.range D.length) none
  simpa[nxt] using this
 rw[hfo] at e1
 have q1:=Z0C Y hD qj hl hk
 generalize (List.range D.length).findSome? (Zi w T k D)=q at *
 have q2:=Z1i q
 have hs:PV.tup [.int ((k % w:Nat):Int),.int ((k / w:Nat):Int)]=pt (bQ w k):=rfl
 refine⟨.sh (pt (bQ w k)),.sh (pV q),y10,y11,y12,?_⟩
 generalize Z0 w h T D=Yv at *
 generalize pt (bQ w k)=Pv at *
 generalize ((k % w:Nat):Int)=a1 at *
 generalize ((k / w:Nat):Int)=a2 at *
 generalize (D.map fun d=>PV.lst (lX w h T d))=SV at *
 generalize D.map bC=DV at *
 generalize pV q=Q at *
 change forL _ _ _ [_,_,_,_,_,_,_,_,_,.sh .non,_,_,_]=_ at e1
 simp[pD,hz,m1,m2,fo,hs,rr',e1,q1,q2]
theorem Z0L{w h:Nat}(hw:1≤w∧w≤20)(hh:1≤h∧h≤20)(hwh:w*h≤20){T:List Th}(hT:T.length≤100)(hg:∀t∈T,Z5 t.1 t.2=true){lg:Nat}(qj:lg≤100){D:List Dy}(hDl:D.length≤12)(hD:∀d∈D,Zp lg d)(z0 z4 z5 z6 z7 z8 z9 Ua Qu Qv:P.Slot) :
 FR.of (Z0y [z0,.sh (.tup [.int w,.int h]),.ow (T.map Zh),.ow (D.map bC),z4,z5,z6,z7,z8,z9,Ua,Qu,Qv])=.ret (.sh (.bl true)):=by
 have Y:YOk w h T:=⟨by omega,by omega,by omega,by omega,by omega,hg⟩
 have q1:=Z1k (T:=T) (by omega) hg .no .no
 have q2:=Z1S (w:Int) (h:Int) (T:=T) (D:=D) (by omega) (by omega) (s3:=.bw (T.map jK)) (s4:=.bw (D.map bC)) (.inr rfl) (.inr rfl)
 have mo:ŗ (w:Int) (h:Int)=true:=aV (by omega) (by omega)
 have rr:=Zs (n:=w*h) (by omega)
 rw[Int.natCast_mul] at rr
 have q3:=Z1Z Y hD qj (by omega)
 obtain⟨ρ',e1,y7,y8,y9,y10,y11,y12,rfl⟩:=cB (g:=gN 7) (mb:=pD) (fun(i:Nat)=>PV.int (i:Int)) (fun(_:Unit) (_:Nat)=>()) (fun _ ρ=>∃a b c d e f,ρ=[z0,.sh (.tup [.int w,.int h]),.sh (.lst (T.map Zh)),.sh (.lst (D.map bC)),.ow (T.map jK),.sh (Z0 w h T D),.ow (D.map fun d=>.lst (lX w h T d)),a,b,c,d,e,f]) (List.range (w*h)) (by
  rintro k hk _ ρ ⟨a,b,c,d,e,f,rfl⟩
  have hk:=List.mem_range.mp hk
  obtain⟨y8,y9,y10,y11,y12,q⟩:=Z22 Y hD qj (by omega) hk z0 (.sh (.lst (T.map Zh))) (.ow (T.map jK)) b c d e f
  exact⟨_,_,rfl,q,_,_,_,_,_,_,rfl⟩) () [z0,.sh (.tup [.int w,.int h]),.sh (.lst (T.map Zh)),.sh (.lst (D.map bC)),.ow (T.map jK),.sh (Z0 w h T D),.ow (D.map fun d=>.lst (lX w h T d)),z7,z8,z9,Ua,Qu,Qv] ⟨_,_,_,_,_,_,rfl⟩
 have hY:PV.ins "Yard" ["width","height","things","days"] [.int w,.int h,.lst (T.map jK),.lst (D.map bC)]=Z0 w h T D:=rfl
 generalize Z0 w h T D=Yv at *
 generalize T.map Zh=TR at *
 generalize T.map jK=TV at *
 generalize (D.map fun d=>PV.lst (lX w h T d))=SV at *
 generalize D.map bC=DV at *
 simp[Z0y,q1,bU,q2,hY,mo,rr,q3,e1]
theorem slI(xs:List Int)(lo hi:Option Int):∃ys:List Int,bT (xs.map PV.int) lo hi=ys.map PV.int∧ys.length≤xs.length:=by
 refine⟨(xs.drop (HT.gK xs.length 0 lo)).take (HT.gK xs.length xs.length hi-HT.gK xs.length 0 lo),?_,by simp;omega⟩
 unfold bT
 rw[List.length_map,List.map_take,List.map_drop]
theorem slR(T:List Th):∃T':List Th,bT (T.map Zh) none (some 1)=T'.map Zh∧T'.length≤T.length∧∀t∈T',t∈T:=by
 refine⟨T.take (HT.gK T.length T.length (some 1)),?_,by simp;omega,fun t ht=>List.mem_of_mem_take ht⟩
 unfold bT
 rw[List.length_map,List.map_take]
 rfl
abbrev FN(nm q:Str)(st:Stmt)(kV dc pm:Value)(an:Option Addr)(cd ct:Value):FuncData:=PySem.W.fnOf nm q (gM st) (bI st) (ĉ st) .none kV dc pm an cd ct
abbrev LK(K:PySem.W.Frag)(g:Addr)(oc:Value)(od:Option Addr)(f:FuncData)(sl:Array (Option Value)):Prop:=K.lookup g=some ⟨oc,od,.func f,sl⟩
theorem Z2r{l:PySem.W.OpenLaw}{w:World}{K:PySem.W.Frag}{h:Heap}{mg:Str→Option Value}{fa:Addr}(X:K.In h)(G:h.Ns mainGlobals mg)(hfa:mg "law" =some (.ref fa))
 {C0 C1 C2 C3 C4 C5 C6 C7 C8 C9 C10 C11 g0 g1 g2 g3 g4 g5 g6 g7 g8 g9 g10 g11 QD g13 g14 g15 g16 g17 g18 g19 g20 g21 g22 g23 g24 g25 g26 g27 g28 g29 g30 g31 g32 g33 g34 g35 g36 g37 g38 g39 g40 g41 g42 g43 g44 g45 g46 g47 g48 g49 g50 g51 g52 g53 g54 g55 g56 g57 g58 g59 g60 g61 g62 g63 g64 g65 g66:Addr}{od0 an0 od1 an1 od2 an2 od3 an3 od4 an4 od5 an5 od6 an6 od7 an7 od8 an8 od9 an9 Zma Ze0 Zmb Ze1 Zmc Ze2 Zmd Ze3 Zme Ze4 Zmf Ze5 Zmg Ze6 Zmh Ze7 Zmi Ze8 Zmj Ze9 Zmk Ze_ Zml Zfa Zmm Zfb Zmn Zfc Zmo Zfd Zmp Zfe Zmq Zff Zmr Zfg Zms Zfh Zmt Zfi Zmu Zfj Zmv Zfk Zmw Zfl Zmx Zfm Zmy Zfn Zmz Zfo ZmA Zfp ZmB Zfq ZmC Zfr ZmD Zfs ZmE Zft ZmF Zfu ZmG Zfv ZmH Zfw ZmI Zfx ZmJ Zfy ZmK Zfz ZmL ZfA ZmM ZfB ZmN ZfC ZmO ZfD ZmP ZfE ZmQ ZfF ZmR ZfG ZmS ZfH ZmT ZfI ZmU ZfJ ZmV ZfK ZmW ZfL ZmX ZfM ZmY ZfN ZmZ ZfO Zm0 ZfP Zm1 ZfQ Zm2 ZbI Zm3 ZfR Zm4 ZfS:Option Addr}{sl0 sl1 sl2 sl3 sl4 sl5 sl6 sl7 sl8 sl9 Zm5 Zm6 Zm7 Zm8 Zm9 Zm_ Zna Znb Znc Znd Zne Znf Zng Znh Zni Znj Znk Znl Znm Znn Zno Znp Znq Znr Zns Znt Znu Znv Znw Znx Zny Znz ZnA ZnB ZnC ZnD ZnE ZnF ZnG ZnH ZnI ZnJ ZnK ZnL ZnM ZnN ZnO ZnP ZnQ ZnR ZnS ZnT ZnU ZnV ZnW ZnX ZnY:Array (Option Value)}{oc0 kV0 dc0 pm0 cd0 ct0 oc1 kV1 dc1 pm1 cd1 ct1 oc2 kV2 dc2 pm2 cd2 ct2 oc3 kV3 dc3 pm3 cd3 ct3 oc4 kV4 dc4 pm4 cd4 ct4 oc5 kV5 dc5 pm5 cd5 ct5 oc6 kV6 dc6 pm6 cd6 ct6 oc7 kV7 dc7 pm7 cd7 ct7 oc8 kV8 dc8 pm8 cd8 ct8 oc9 kV9 dc9 pm9 cd9 ct9 ZnZ ZfT ZfU ZfV ZbJ ZfW Zn0 ZfX ZfY ZfZ ZbK Zf0 Zn1 Zf1 Zf2 Zf3 ZbL Zf4 Zn2 Zf5 Zf6 Zf7 ZbM Zf8 Zn3 Zf9 Zf_ Zga ZbN Zgb Zn4 Zgc Zgd Zge ZbO Zgf Zn5 Zgg Zgh Zgi ZbP Zgj Zn6 Zgk Zgl Zgm ZbQ Zgn Zn7 Zgo Zgp Zgq ZbR Zgr Zn8 Zgs Zgt Zgu ZbS Zgv Zn9 Zgw Zgx Zgy ZbT Zgz Zn_ ZgA ZgB ZgC ZbU ZgD Zoa ZgE ZgF ZgG ZbV ZgH Zob ZgI ZgJ ZgK ZbW ZgL Zoc ZgM ZgN ZgO ZbX ZgP Zod ZgQ ZgR ZgS ZbY ZgT Zoe ZgU ZgV ZgW ZbZ ZgX Zof ZgY ZgZ Zg0 Zb0 Zg1 Zog Zg2 Zg3 Zg4 Zb1 Zg5 Zoh Zg6 Zg7 Zg8 Zb2 Zg9 Zoi Zg_ Zha Zhb Zb3 Zhc Zoj Zhd Zhe Zhf Zb4 Zhg Zok Zhh Zhi Zhj Zb5 Zhk Zol Zhl Zhm Zhn Zb6 Zho Zom Zhp Zhq Zhr Zb7 Zhs Zon Zht Zhu Zhv Zb8 Zhw Zoo Zhx Zhy Zhz Zb9 ZhA Zop ZhB ZhC ZhD Zb_ ZhE Zoq ZhF ZhG ZhH Zca ZhI Zor ZhJ ZhK ZhL Zcb ZhM Zos ZhN ZhO ZhP Zcc ZhQ Zot ZhR ZhS ZhT Zcd ZhU Zou ZhV ZhW ZhX Zce ZhY Zov ZhZ Zh0 Zh1 Zcf Zh2 Zow Zh3 Zh4 Zh5 Zcg Zh6 Zox Zh7 Zh8 Zh9 Zch Zh_ Zoy Zia Zib Zic Zci Zid Zoz Zie Zif Zig Zcj Zih ZoA Zii Zij Zik Zck Zil ZoB Zim Zin Zio Zcl Ziq ZoC Zir Zis Zit Zcm Ziu ZoD Ziv Ziw Zix Zcn Ziy ZoE Ziz ZiA ZiB Zco ZiC ZoF ZiD ZiE ZiF Zcp ZiG ZoG ZiH ZiI ZiJ Zcq ZiK ZoH ZiL ZiM ZiN Zcr ZiO ZoI ZiP ZiQ ZiR Zcs ZiS ZoJ ZiT ZiU ZiV Zct ZiW ZoK ZiX ZiY ZiZ Zcu Zi0 ZoL Zi1 Zi2 Zi3 Zcv Zi4 ZoM Zi5 Zi6 Zi7 Zcw Zi8 ZoN Zi9 Zi_ Zja Zcx Zjb ZoO Zjc Zjd Zje Zcy Zjf ZoP Zjg Zjh Zji Zcz Zjj ZoQ ZcA ZcB ZcC Ub ZcD ZoR Zjk Zjl Zjm ZcE Zjn ZoS Zjo Zjp Zjq ZcF Zjr:Value}
 {tk0:Tok}
 {tk1:Tok}
 (u0:PySem.W.nsIn K mainGlobals "YardError" =some (some (.ref C0)))
 (u1:PySem.W.nsIn K mainGlobals "NoNumber" =some (some (.ref C1)))
 (u2:PySem.W.nsIn K mainGlobals "BadThing" =some (some (.ref C2)))
 (u3:PySem.W.nsIn K mainGlobals "NoStone" =some (some (.ref C3)))
 (u4:PySem.W.nsIn K mainGlobals "NoTurn" =some (some (.ref C4)))
 (u5:PySem.W.nsIn K mainGlobals "Yard" =some (some (.ref C5)))
 (u6:PySem.W.nsIn K mainGlobals "Thing" =some (some (.ref C6)))
 (u7:PySem.W.nsIn K mainGlobals "Post" =some (some (.ref C7)))
 (u8:PySem.W.nsIn K mainGlobals "Fence" =some (some (.ref C8)))
 (u9:PySem.W.nsIn K mainGlobals "Sail" =some (some (.ref C9)))
 (u10:PySem.W.nsIn K mainGlobals "Cloth" =some (some (.ref C10)))
 (u11:PySem.W.nsIn K mainGlobals "House" =some (some (.ref C11)))
 (a0:PySem.W.nsIn K mainGlobals "_law_size" =some (some (.ref g0)))
 (l0:LK K g0 oc0 od0 (FN "_law_size" "_law_size" xK kV0 dc0 pm0 an0 cd0 ct0) sl0)
 (c0:PySem.W.codeIn K cd0 "_law_size" =true)(k0:PySem.W.keepIn K (.ref g0)=true)
 (a1:PySem.W.nsIn K mainGlobals "_law_at" =some (some (.ref g1)))
 (l1:LK K g1 oc1 od1 (FN "_law_at" "_law_at" xM kV1 dc1 pm1 an1 cd1 ct1) sl1)
 (c1:PySem.W.codeIn K cd1 "_law_at" =true)(k1:PySem.W.keepIn K (.ref g1)=true)
 (a2:PySem.W.nsIn K mainGlobals "_law_grains" =some (some (.ref g2)))
 (l2:LK K g2 oc2 od2 (FN "_law_grains" "_law_grains" xO kV2 dc2 pm2 an2 cd2 ct2) sl2)
 (c2:PySem.W.codeIn K cd2 "_law_grains" =true)(k2:PySem.W.keepIn K (.ref g2)=true)
 (a3:PySem.W.nsIn K mainGlobals "_law_sky" =some (some (.ref g3)))
 (l3:LK K g3 oc3 od3 (FN "_law_sky" "_law_sky" xP kV3 dc3 pm3 an3 cd3 ct3) sl3)
 (c3:PySem.W.codeIn K cd3 "_law_sky" =true)(k3:PySem.W.keepIn K (.ref g3)=true)
 (a4:PySem.W.nsIn K mainGlobals "_law_days" =some (some (.ref g4)))
 (l4:LK K g4 oc4 od4 (FN "_law_days" "_law_days" qW kV4 dc4 pm4 an4 cd4 ct4) sl4)
 (c4:PySem.W.codeIn K cd4 "_law_days" =true)(k4:PySem.W.keepIn K (.ref g4)=true)
 (a5:PySem.W.findIn K (.ref C5) "__init__" =some (some (.ref g5)))
 (l5:LK K g5 oc5 od5 (FN "__init__" "Yard.__init__" qX kV5 dc5 pm5 an5 cd5 ct5) sl5)
 (c5:PySem.W.codeIn K cd5 "Yard.__init__" =true)(k5:PySem.W.keepIn K (.ref g5)=true)
 (a6:PySem.W.nsIn K mainGlobals "_law_height" =some (some (.ref g6)))
 (l6:LK K g6 oc6 od6 (FN "_law_height" "_law_height" xQ kV6 dc6 pm6 an6 cd6 ct6) sl6)
 (c6:PySem.W.codeIn K cd6 "_law_height" =true)(k6:PySem.W.keepIn K (.ref g6)=true)
 (a7:PySem.W.nsIn K mainGlobals "_law_place" =some (some (.ref g7)))
 (l7:LK K g7 oc7 od7 (FN "_law_place" "_law_place" xR kV7 dc7 pm7 an7 cd7 ct7) sl7)
 (c7:PySem.W.codeIn K cd7 "_law_place" =true)(k7:PySem.W.keepIn K (.ref g7)=true)
 (a8:PySem.W.nsIn K mainGlobals "_law_thing" =some (some (.ref g8)))
 (l8:LK K g8 oc8 od8 (FN "_law_thing" "_law_thing" qY kV8 dc8 pm8 an8 cd8 ct8) sl8)
 (c8:PySem.W.codeIn K cd8 "_law_thing" =true)(k8:PySem.W.keepIn K (.ref g8)=true)
 (a9:PySem.W.nsIn K mainGlobals "is_place" =some (some (.ref g9)))
 (l9:LK K g9 oc9 od9 (FN "is_place" "is_place" xT kV9 dc9 pm9 an9 cd9 ct9) sl9)
 (c9:PySem.W.codeIn K cd9 "is_place" =true)(k9:PySem.W.keepIn K (.ref g9)=true)
 (a10:PySem.W.nsIn K mainGlobals "is_height" =some (some (.ref g10)))
 (l10:LK K g10 ZnZ Zma (FN "is_height" "is_height" xU ZfT ZfU ZfV Ze0 ZbJ ZfW) Zm5)
 (c10:PySem.W.codeIn K ZbJ "is_height" =true)(k10:PySem.W.keepIn K (.ref g10)=true)
 (a11:PySem.W.nsIn K mainGlobals "makes_post" =some (some (.ref g11)))
 (l11:LK K g11 Zn0 Zmb (FN "makes_post" "makes_post" xV ZfX ZfY ZfZ Ze1 ZbK Zf0) Zm6)
 (c11:PySem.W.codeIn K ZbK "makes_post" =true)(k11:PySem.W.keepIn K (.ref g11)=true)
 (a12:PySem.W.findIn K (.ref C6) "__init__" =some (some (.ref QD)))
 (l12:LK K QD Zn1 Zmc (FN "__init__" "Thing.__init__" Ji Zf1 Zf2 Zf3 Ze2 ZbL Zf4) Zm7)
 (c12:PySem.W.codeIn K ZbL "Thing.__init__" =true)(k12:PySem.W.keepIn K (.ref QD)=true)
 (a13:PySem.W.nsIn K mainGlobals "has_two_ends" =some (some (.ref g13)))
 (l13:LK K g13 Zn2 Zmd (FN "has_two_ends" "has_two_ends" qZ Zf5 Zf6 Zf7 Ze3 ZbM Zf8) Zm8)
 (c13:PySem.W.codeIn K ZbM "has_two_ends" =true)(k13:PySem.W.keepIn K (.ref g13)=true)
 (a14:PySem.W.nsIn K mainGlobals "makes_fence" =some (some (.ref g14)))
 (l14:LK K g14 Zn3 Zme (FN "makes_fence" "makes_fence" xW Zf9 Zf_ Zga Ze4 ZbN Zgb) Zm9)
 (c14:PySem.W.codeIn K ZbN "makes_fence" =true)(k14:PySem.W.keepIn K (.ref g14)=true)
 (a15:PySem.W.nsIn K mainGlobals "makes_sail_or_house" =some (some (.ref g15)))
 (l15:LK K g15 Zn4 Zmf (FN "makes_sail_or_house" "makes_sail_or_house" Jj Zgc Zgd Zge Ze5 ZbO Zgf) Zm_)
 (c15:PySem.W.codeIn K ZbO "makes_sail_or_house" =true)(k15:PySem.W.keepIn K (.ref g15)=true)
 (a16:PySem.W.nsIn K mainGlobals "is_cloth_corner" =some (some (.ref g16)))
 (l16:LK K g16 Zn5 Zmg (FN "is_cloth_corner" "is_cloth_corner" Jk Zgg Zgh Zgi Ze6 ZbP Zgj) Zna)
 (c16:PySem.W.codeIn K ZbP "is_cloth_corner" =true)(k16:PySem.W.keepIn K (.ref g16)=true)
 (a17:PySem.W.nsIn K mainGlobals "makes_cloth" =some (some (.ref g17)))
 (l17:LK K g17 Zn6 Zmh (FN "makes_cloth" "makes_cloth" q_ Zgk Zgl Zgm Ze7 ZbQ Zgn) Znb)
 (c17:PySem.W.codeIn K ZbQ "makes_cloth" =true)(k17:PySem.W.keepIn K (.ref g17)=true)
 (a18:PySem.W.nsIn K mainGlobals "thing_of" =some (some (.ref g18)))
 (l18:LK K g18 Zn7 Zmi (FN "thing_of" "thing_of" xX Zgo Zgp Zgq Ze8 ZbR Zgr) Znc)
 (c18:PySem.W.codeIn K ZbR "thing_of" =true)(k18:PySem.W.keepIn K (.ref g18)=true)
 (a19:PySem.W.nsIn K mainGlobals "box_lines" =some (some (.ref g19)))
 (l19:LK K g19 Zn8 Zmj (FN "box_lines" "box_lines" oJ Zgs Zgt Zgu Ze9 ZbS Zgv) Znd)
 (c19:PySem.W.codeIn K ZbS "box_lines" =true)(k19:PySem.W.keepIn K (.ref g19)=true)
 (a20:PySem.W.nsIn K mainGlobals "each_once" =some (some (.ref g20)))
 (l20:LK K g20 Zn9 Zmk (FN "each_once" "each_once" xY Zgw Zgx Zgy Ze_ ZbT Zgz) Zne)
 (c20:PySem.W.codeIn K ZbT "each_once" =true)(k20:PySem.W.keepIn K (.ref g20)=true)
 (a21:PySem.W.nsIn K mainGlobals "line_through" =some (some (.ref g21)))
 (l21:LK K g21 Zn_ Zml (FN "line_through" "line_through" xZ ZgA ZgB ZgC Zfa ZbU ZgD) Znf)
 (c21:PySem.W.codeIn K ZbU "line_through" =true)(k21:PySem.W.keepIn K (.ref g21)=true)
 (a22:PySem.W.nsIn K mainGlobals "holds" =some (some (.ref g22)))
 (l22:LK K g22 Zoa Zmm (FN "holds" "holds" yc ZgE ZgF ZgG Zfb ZbV ZgH) Zng)
 (c22:PySem.W.codeIn K ZbV "holds" =true)(k22:PySem.W.keepIn K (.ref g22)=true)
 (a23:PySem.W.nsIn K mainGlobals "edge_lines" =some (some (.ref g23)))
 (l23:LK K g23 Zob Zmn (FN "edge_lines" "edge_lines" rm ZgI ZgJ ZgK Zfc ZbW ZgL) Znh)
 (c23:PySem.W.codeIn K ZbW "edge_lines" =true)(k23:PySem.W.keepIn K (.ref g23)=true)
 (a24:PySem.W.nsIn K mainGlobals "lines_about" =some (some (.ref g24)))
 (l24:LK K g24 Zoc Zmo (FN "lines_about" "lines_about" yg ZgM ZgN ZgO Zfd ZbX ZgP) Zni)
 (c24:PySem.W.codeIn K ZbX "lines_about" =true)(k24:PySem.W.keepIn K (.ref g24)=true)
 (a25:PySem.W.nsIn K mainGlobals "cast" =some (some (.ref g25)))
 (l25:LK K g25 Zod Zmp (FN "cast" "cast" yj ZgQ ZgR ZgS Zfe ZbY ZgT) Znj)
 (c25:PySem.W.codeIn K ZbY "cast" =true)(k25:PySem.W.keepIn K (.ref g25)=true)
 (a26:PySem.W.nsIn K mainGlobals "level_corners" =some (some (.ref g26)))
 (l26:LK K g26 Zoe Zmq (FN "level_corners" "level_corners" yq ZgU ZgV ZgW Zff ZbZ ZgX) Znk)
 (c26:PySem.W.codeIn K ZbZ "level_corners" =true)(k26:PySem.W.keepIn K (.ref g26)=true)
 (a27:PySem.W.nsIn K mainGlobals "block_corners" =some (some (.ref g27)))
 (l27:LK K g27 Zof Zmr (FN "block_corners" "block_corners" Jl ZgY ZgZ Zg0 Zfg Zb0 Zg1) Znl)
 (c27:PySem.W.codeIn K Zb0 "block_corners" =true)(k27:PySem.W.keepIn K (.ref g27)=true)
 (a28:PySem.W.findIn K (.ref C7) "corners" =some (some (.ref g28)))
 (l28:LK K g28 Zog Zms (FN "corners" "Post.corners" yr Zg2 Zg3 Zg4 Zfh Zb1 Zg5) Znm)
 (c28:PySem.W.codeIn K Zb1 "Post.corners" =true)(k28:PySem.W.keepIn K (.ref g28)=true)
 (a29:PySem.W.findIn K (.ref C8) "corners" =some (some (.ref g29)))
 (l29:LK K g29 Zoh Zmt (FN "corners" "Fence.corners" Jm Zg6 Zg7 Zg8 Zfi Zb2 Zg9) Znn)
 (c29:PySem.W.codeIn K Zb2 "Fence.corners" =true)(k29:PySem.W.keepIn K (.ref g29)=true)
 (a30:PySem.W.findIn K (.ref C9) "corners" =some (some (.ref g30)))
 (l30:LK K g30 Zoi Zmu (FN "corners" "Sail.corners" yu Zg_ Zha Zhb Zfj Zb3 Zhc) Zno)
 (c30:PySem.W.codeIn K Zb3 "Sail.corners" =true)(k30:PySem.W.keepIn K (.ref g30)=true)
 (a31:PySem.W.findIn K (.ref C10) "corners" =some (some (.ref g31)))
 (l31:LK K g31 Zoj Zmv (FN "corners" "Cloth.corners" rz Zhd Zhe Zhf Zfk Zb4 Zhg) Znp)
 (c31:PySem.W.codeIn K Zb4 "Cloth.corners" =true)(k31:PySem.W.keepIn K (.ref g31)=true)
 (a32:PySem.W.findIn K (.ref C11) "corners" =some (some (.ref g32)))
 (l32:LK K g32 Zok Zmw (FN "corners" "House.corners" yx Zhh Zhi Zhj Zfl Zb5 Zhk) Znq)
 (c32:PySem.W.codeIn K Zb5 "House.corners" =true)(k32:PySem.W.keepIn K (.ref g32)=true)
 (a33:PySem.W.nsIn K mainGlobals "corner_casts" =some (some (.ref g33)))
 (l33:LK K g33 Zol Zmx (FN "corner_casts" "corner_casts" rC Zhl Zhm Zhn Zfm Zb6 Zho) Znr)
 (c33:PySem.W.codeIn K Zb6 "corner_casts" =true)(k33:PySem.W.keepIn K (.ref g33)=true)
 (a34:PySem.W.nsIn K mainGlobals "span_bits" =some (some (.ref g34)))
 (l34:LK K g34 Zom Zmy (FN "span_bits" "span_bits" yC Zhp Zhq Zhr Zfn Zb7 Zhs) Zns)
 (c34:PySem.W.codeIn K Zb7 "span_bits" =true)(k34:PySem.W.keepIn K (.ref g34)=true)
 (a35:PySem.W.nsIn K mainGlobals "row_bits" =some (some (.ref g35)))
 (l35:LK K g35 Zon Zmz (FN "row_bits" "row_bits" yD Zht Zhu Zhv Zfo Zb8 Zhw) Znt)
 (c35:PySem.W.codeIn K Zb8 "row_bits" =true)(k35:PySem.W.keepIn K (.ref g35)=true)
 (a36:PySem.W.nsIn K mainGlobals "dark_of" =some (some (.ref g36)))
 (l36:LK K g36 Zoo ZmA (FN "dark_of" "dark_of" yE Zhx Zhy Zhz Zfp Zb9 ZhA) Znu)
 (c36:PySem.W.codeIn K Zb9 "dark_of" =true)(k36:PySem.W.keepIn K (.ref g36)=true)
 (a37:PySem.W.nsIn K mainGlobals "darks_of_things" =some (some (.ref g37)))
 (l37:LK K g37 Zop ZmB (FN "darks_of_things" "darks_of_things" Fw ZhB ZhC ZhD Zfq Zb_ ZhE) Znv)
 (c37:PySem.W.codeIn K Zb_ "darks_of_things" =true)(k37:PySem.W.keepIn K (.ref g37)=true)
 (a38:PySem.W.nsIn K mainGlobals "dark" =some (some (.ref g38)))
 (l38:LK K g38 Zoq ZmC (FN "dark" "dark" yF ZhF ZhG ZhH Zfr Zca ZhI) Znw)
 (c38:PySem.W.codeIn K Zca "dark" =true)(k38:PySem.W.keepIn K (.ref g38)=true)
 (a39:PySem.W.nsIn K mainGlobals "has_stone" =some (some (.ref g39)))
 (l39:LK K g39 Zor ZmD (FN "has_stone" "has_stone" yG ZhJ ZhK ZhL Zfs Zcb ZhM) Znx)
 (c39:PySem.W.codeIn K Zcb "has_stone" =true)(k39:PySem.W.keepIn K (.ref g39)=true)
 (a40:PySem.W.nsIn K mainGlobals "check_stone" =some (some (.ref g40)))
 (l40:LK K g40 Zos ZmE (FN "check_stone" "check_stone" yH ZhN ZhO ZhP Zft Zcc ZhQ) Zny)
 (c40:PySem.W.codeIn K Zcc "check_stone" =true)(k40:PySem.W.keepIn K (.ref g40)=true)
 (a41:PySem.W.nsIn K mainGlobals "has_day" =some (some (.ref g41)))
 (l41:LK K g41 Zot ZmF (FN "has_day" "has_day" yI ZhR ZhS ZhT Zfu Zcd ZhU) Znz)
 (c41:PySem.W.codeIn K Zcd "has_day" =true)(k41:PySem.W.keepIn K (.ref g41)=true)
 (a42:PySem.W.nsIn K mainGlobals "check_day" =some (some (.ref g42)))
 (l42:LK K g42 Zou ZmG (FN "check_day" "check_day" yJ ZhV ZhW ZhX Zfv Zce ZhY) ZnA)
 (c42:PySem.W.codeIn K Zce "check_day" =true)(k42:PySem.W.keepIn K (.ref g42)=true)
 (a43:PySem.W.nsIn K mainGlobals "turns_of" =some (some (.ref g43)))
 (l43:LK K g43 Zov ZmH (FN "turns_of" "turns_of" yK ZhZ Zh0 Zh1 Zfw Zcf Zh2) ZnB)
 (c43:PySem.W.codeIn K Zcf "turns_of" =true)(k43:PySem.W.keepIn K (.ref g43)=true)
 (a44:PySem.W.nsIn K mainGlobals "parting_line" =some (some (.ref g44)))
 (l44:LK K g44 Zow ZmI (FN "parting_line" "parting_line" yL Zh3 Zh4 Zh5 Zfx Zcg Zh6) ZnC)
 (c44:PySem.W.codeIn K Zcg "parting_line" =true)(k44:PySem.W.keepIn K (.ref g44)=true)
 (a45:PySem.W.nsIn K mainGlobals "pairs_below" =some (some (.ref g45)))
 (l45:LK K g45 Zox ZmJ (FN "pairs_below" "pairs_below" rD Zh7 Zh8 Zh9 Zfy Zch Zh_) ZnD)
 (c45:PySem.W.codeIn K Zch "pairs_below" =true)(k45:PySem.W.keepIn K (.ref g45)=true)
 (a46:PySem.W.nsIn K mainGlobals "triples_below" =some (some (.ref g46)))
 (l46:LK K g46 Zoy ZmK (FN "triples_below" "triples_below" rE Zia Zib Zic Zfz Zci Zid) ZnE)
 (c46:PySem.W.codeIn K Zci "triples_below" =true)(k46:PySem.W.keepIn K (.ref g46)=true)
 (a47:PySem.W.nsIn K mainGlobals "greatest_divisor" =some (some (.ref g47)))
 (l47:LK K g47 Zoz ZmL (FN "greatest_divisor" "greatest_divisor" Jo Zie Zif Zig ZfA Zcj Zih) ZnF)
 (c47:PySem.W.codeIn K Zcj "greatest_divisor" =true)(k47:PySem.W.keepIn K (.ref g47)=true)
 (a48:PySem.W.nsIn K mainGlobals "ratio" =some (some (.ref g48)))
 (l48:LK K g48 ZoA ZmM (FN "ratio" "ratio" yM Zii Zij Zik ZfB Zck Zil) ZnG)
 (c48:PySem.W.codeIn K Zck "ratio" =true)(k48:PySem.W.keepIn K (.ref g48)=true)
 (a49:PySem.W.nsIn K mainGlobals "spread" =some (some (.ref g49)))
 (l49:LK K g49 ZoB ZmN (FN "spread" "spread" rG Zim Zin Zio ZfC Zcl Ziq) ZnH)
 (c49:PySem.W.codeIn K Zcl "spread" =true)(k49:PySem.W.keepIn K (.ref g49)=true)
 (a50:PySem.W.nsIn K mainGlobals "turned" =some (some (.ref g50)))
 (l50:LK K g50 ZoC ZmO (FN "turned" "turned" yN Zir Zis Zit ZfD Zcm Ziu) ZnI)
 (c50:PySem.W.codeIn K Zcm "turned" =true)(k50:PySem.W.keepIn K (.ref g50)=true)
 (a51:PySem.W.nsIn K mainGlobals "shares_of_three" =some (some (.ref g51)))
 (l51:LK K g51 ZoD ZmP (FN "shares_of_three" "shares_of_three" Jp Ziv Ziw Zix ZfE Zcn Ziy) ZnJ)
 (c51:PySem.W.codeIn K Zcn "shares_of_three" =true)(k51:PySem.W.keepIn K (.ref g51)=true)
 (a52:PySem.W.nsIn K mainGlobals "are_weights" =some (some (.ref g52)))
 (l52:LK K g52 ZoE ZmQ (FN "are_weights" "are_weights" rH Ziz ZiA ZiB ZfF Zco ZiC) ZnK)
 (c52:PySem.W.codeIn K Zco "are_weights" =true)(k52:PySem.W.keepIn K (.ref g52)=true)
 (a53:PySem.W.nsIn K mainGlobals "shares_of_two" =some (some (.ref g53)))
 (l53:LK K g53 ZoF ZmR (FN "shares_of_two" "shares_of_two" yO ZiD ZiE ZiF ZfG Zcp ZiG) ZnL)
 (c53:PySem.W.codeIn K Zcp "shares_of_two" =true)(k53:PySem.W.keepIn K (.ref g53)=true)
 (a54:PySem.W.nsIn K mainGlobals "weights_of" =some (some (.ref g54)))
 (l54:LK K g54 ZoG ZmS (FN "weights_of" "weights_of" oK ZiH ZiI ZiJ ZfH Zcq ZiK) ZnM)
 (c54:PySem.W.codeIn K Zcq "weights_of" =true)(k54:PySem.W.keepIn K (.ref g54)=true)
 (a55:PySem.W.nsIn K mainGlobals "held" =some (some (.ref g55)))
 (l55:LK K g55 ZoH ZmT (FN "held" "held" yP ZiL ZiM ZiN ZfI Zcr ZiO) ZnN)
 (c55:PySem.W.codeIn K Zcr "held" =true)(k55:PySem.W.keepIn K (.ref g55)=true)
 (a56:PySem.W.nsIn K mainGlobals "stone_cast" =some (some (.ref g56)))
 (l56:LK K g56 ZoI ZmU (FN "stone_cast" "stone_cast" yQ ZiP ZiQ ZiR ZfJ Zcs ZiS) ZnO)
 (c56:PySem.W.codeIn K Zcs "stone_cast" =true)(k56:PySem.W.keepIn K (.ref g56)=true)
 (a57:PySem.W.nsIn K mainGlobals "shading" =some (some (.ref g57)))
 (l57:LK K g57 ZoJ ZmV (FN "shading" "shading" yR ZiT ZiU ZiV ZfK Zct ZiW) ZnP)
 (c57:PySem.W.codeIn K Zct "shading" =true)(k57:PySem.W.keepIn K (.ref g57)=true)
 (a58:PySem.W.nsIn K mainGlobals "shades" =some (some (.ref g58)))
 (l58:LK K g58 ZoK ZmW (FN "shades" "shades" yS ZiX ZiY ZiZ ZfL Zcu Zi0) ZnQ)
 (c58:PySem.W.codeIn K Zcu "shades" =true)(k58:PySem.W.keepIn K (.ref g58)=true)
 (a59:PySem.W.nsIn K mainGlobals "is_dark" =some (some (.ref g59)))
 (l59:LK K g59 ZoL ZmX (FN "is_dark" "is_dark" yU Zi1 Zi2 Zi3 ZfM Zcv Zi4) ZnR)
 (c59:PySem.W.codeIn K Zcv "is_dark" =true)(k59:PySem.W.keepIn K (.ref g59)=true)
 (a60:PySem.W.nsIn K mainGlobals "lit_turns" =some (some (.ref g60)))
 (l60:LK K g60 ZoM ZmY (FN "lit_turns" "lit_turns" rJ Zi5 Zi6 Zi7 ZfN Zcw Zi8) ZnS)
 (c60:PySem.W.codeIn K Zcw "lit_turns" =true)(k60:PySem.W.keepIn K (.ref g60)=true)
 (a61:PySem.W.nsIn K mainGlobals "_law_pair" =some (some (.ref g61)))
 (l61:LK K g61 ZoN ZmZ (FN "_law_pair" "_law_pair" rK Zi9 Zi_ Zja ZfO Zcx Zjb) ZnT)
 (c61:PySem.W.codeIn K Zcx "_law_pair" =true)(k61:PySem.W.keepIn K (.ref g61)=true)
 (a62:PySem.W.nsIn K mainGlobals "_law_numbers" =some (some (.ref g62)))
 (l62:LK K g62 ZoO Zm0 (FN "_law_numbers" "_law_numbers" rM Zjc Zjd Zje ZfP Zcy Zjf) ZnU)
 (c62:PySem.W.codeIn K Zcy "_law_numbers" =true)(k62:PySem.W.keepIn K (.ref g62)=true)
 (a63:PySem.W.nsIn K mainGlobals "first_lit" =some (some (.ref g63)))
 (l63:LK K g63 ZoP Zm1 (FN "first_lit" "first_lit" yV Zjg Zjh Zji ZfQ Zcz Zjj) ZnV)
 (c63:PySem.W.codeIn K Zcz "first_lit" =true)(k63:PySem.W.keepIn K (.ref g63)=true)
 (a64:PySem.W.nsIn K mainGlobals "law" =some (some (.ref g64)))
 (l64:LK K g64 ZoQ Zm2 (FN "law" "law" eZ ZcA ZcB ZcC ZbI Ub ZcD) ZnW)
 (c64:PySem.W.codeIn K Ub "law" =true)(k64:PySem.W.keepIn K (.ref g64)=true)
 (a65:PySem.W.findIn K (.ref C3) "__init__" =some (some (.ref g65)))
 (l65:LK K g65 ZoR Zm3 (FN "__init__" "NoStone.__init__" Jq Zjk Zjl Zjm ZfR ZcE Zjn) ZnX)
 (c65:PySem.W.codeIn K ZcE "NoStone.__init__" =true)(k65:PySem.W.keepIn K (.ref g65)=true)
 (a66:PySem.W.findIn K (.ref C4) "__init__" =some (some (.ref g66)))
 (l66:LK K g66 ZoS Zm4 (FN "__init__" "NoTurn.__init__" Jr Zjo Zjp Zjq ZfS ZcF Zjr) ZnY)
 (c66:PySem.W.codeIn K ZcF "NoTurn.__init__" =true)(k66:PySem.W.keepIn K (.ref g66)=true)
 (x0:PySem.W.nsIn K mainGlobals "MOST_HEIGHT" =some (some (.int (1000000000) tk0)))
 (x1:PySem.W.nsIn K mainGlobals "MOST_PLACE" =some (some (.int (1000000000) tk1)))
 (z0:PySem.W.nsIn K mainGlobals "abs" =some none)
 (z1:PySem.W.nsIn K mainGlobals "all" =some none)
 (z2:PySem.W.nsIn K mainGlobals "bool" =some none)
 (z3:PySem.W.nsIn K mainGlobals "enumerate" =some none)
 (z4:PySem.W.nsIn K mainGlobals "int" =some none)
 (z5:PySem.W.nsIn K mainGlobals "isinstance" =some none)
 (z6:PySem.W.nsIn K mainGlobals "len" =some none)
 (z7:PySem.W.nsIn K mainGlobals "list" =some none)
 (z8:PySem.W.nsIn K mainGlobals "max" =some none)
 (z9:PySem.W.nsIn K mainGlobals "min" =some none)
 (Ua:PySem.W.nsIn K mainGlobals "range" =some none)
 (Qu:PySem.W.nsIn K mainGlobals "sum" =some none)
 (Qv:PySem.W.nsIn K mainGlobals "tuple" =some none)
 (z13:PySem.W.nsIn K mainGlobals "zip" =some none)
 (q0:PySem.W.excIn K (bH C0 C1 C2 C3 C4 C5 C6 C7 C8 C9 C10 C11 "YardError") zx Sy=true)
 (q1:PySem.W.keepIn K (.ref (bH C0 C1 C2 C3 C4 C5 C6 C7 C8 C9 C10 C11 "YardError"))=true)
 (q2:ź K (bH C0 C1 C2 C3 C4 C5 C6 C7 C8 C9 C10 C11 "YardError")=true)
 (q3:PySem.W.excIn K (bH C0 C1 C2 C3 C4 C5 C6 C7 C8 C9 C10 C11 "NoNumber") zx Sy=true)
 (q4:PySem.W.keepIn K (.ref (bH C0 C1 C2 C3 C4 C5 C6 C7 C8 C9 C10 C11 "NoNumber"))=true)
 (q5:ź K (bH C0 C1 C2 C3 C4 C5 C6 C7 C8 C9 C10 C11 "NoNumber")=true)
 (q6:PySem.W.excIn K (bH C0 C1 C2 C3 C4 C5 C6 C7 C8 C9 C10 C11 "BadThing") zx Sy=true)
 (q7:PySem.W.keepIn K (.ref (bH C0 C1 C2 C3 C4 C5 C6 C7 C8 C9 C10 C11 "BadThing"))=true)
 (q8:ź K (bH C0 C1 C2 C3 C4 C5 C6 C7 C8 C9 C10 C11 "BadThing")=true)
 (q9:DG K (bH C0 C1 C2 C3 C4 C5 C6 C7 C8 C9 C10 C11 "NoStone") g65=true)
 (q10:ź K (bH C0 C1 C2 C3 C4 C5 C6 C7 C8 C9 C10 C11 "NoStone")=true)
 (q11:PySem.W.findIn K (.ref (bH C0 C1 C2 C3 C4 C5 C6 C7 C8 C9 C10 C11 "NoStone")) "stone" =some none)
 (q12:DG K (bH C0 C1 C2 C3 C4 C5 C6 C7 C8 C9 C10 C11 "NoTurn") g66=true)
 (q13:ź K (bH C0 C1 C2 C3 C4 C5 C6 C7 C8 C9 C10 C11 "NoTurn")=true)
 (q14:PySem.W.findIn K (.ref (bH C0 C1 C2 C3 C4 C5 C6 C7 C8 C9 C10 C11 "NoTurn")) "day" =some none)
 (q15:PySem.W.findIn K (.ref (bH C0 C1 C2 C3 C4 C5 C6 C7 C8 C9 C10 C11 "NoTurn")) "turn" =some none)
 (q16:uw K (bH C0 C1 C2 C3 C4 C5 C6 C7 C8 C9 C10 C11 "Yard")=true)
 (q17:Tf K (bH C0 C1 C2 C3 C4 C5 C6 C7 C8 C9 C10 C11 "Yard") g5=true)
 (q18:PySem.W.findIn K (.ref (bH C0 C1 C2 C3 C4 C5 C6 C7 C8 C9 C10 C11 "Yard")) "width" =some none)
 (q19:PySem.W.findIn K (.ref (bH C0 C1 C2 C3 C4 C5 C6 C7 C8 C9 C10 C11 "Yard")) "height" =some none)
 (q20:PySem.W.findIn K (.ref (bH C0 C1 C2 C3 C4 C5 C6 C7 C8 C9 C10 C11 "Yard")) "things" =some none)
 (q21:PySem.W.findIn K (.ref (bH C0 C1 C2 C3 C4 C5 C6 C7 C8 C9 C10 C11 "Yard")) "days" =some none)
 (q22:uw K (bH C0 C1 C2 C3 C4 C5 C6 C7 C8 C9 C10 C11 "Thing")=true)
 (q23:Tf K (bH C0 C1 C2 C3 C4 C5 C6 C7 C8 C9 C10 C11 "Thing") QD=true)
 (q24:PySem.W.findIn K (.ref (bH C0 C1 C2 C3 C4 C5 C6 C7 C8 C9 C10 C11 "Thing")) "word" =some none)
 (q25:PySem.W.findIn K (.ref (bH C0 C1 C2 C3 C4 C5 C6 C7 C8 C9 C10 C11 "Thing")) "numbers" =some none)
 (q26:uw K (bH C0 C1 C2 C3 C4 C5 C6 C7 C8 C9 C10 C11 "Post")=true)
 (q27:Tf K (bH C0 C1 C2 C3 C4 C5 C6 C7 C8 C9 C10 C11 "Post") QD=true)
 (q28:PySem.W.findIn K (.ref (bH C0 C1 C2 C3 C4 C5 C6 C7 C8 C9 C10 C11 "Post")) "word" =some none)
 (q29:PySem.W.findIn K (.ref (bH C0 C1 C2 C3 C4 C5 C6 C7 C8 C9 C10 C11 "Post")) "numbers" =some none)
 (q30:ou K (bH C0 C1 C2 C3 C4 C5 C6 C7 C8 C9 C10 C11 "Post") "corners" g28=true)
 (q31:uw K (bH C0 C1 C2 C3 C4 C5 C6 C7 C8 C9 C10 C11 "Fence")=true)
 (q32:Tf K (bH C0 C1 C2 C3 C4 C5 C6 C7 C8 C9 C10 C11 "Fence") QD=true)
 (q33:PySem.W.findIn K (.ref (bH C0 C1 C2 C3 C4 C5 C6 C7 C8 C9 C10 C11 "Fence")) "word" =some none)
 (q34:PySem.W.findIn K (.ref (bH C0 C1 C2 C3 C4 C5 C6 C7 C8 C9 C10 C11 "Fence")) "numbers" =some none)
 (q35:ou K (bH C0 C1 C2 C3 C4 C5 C6 C7 C8 C9 C10 C11 "Fence") "corners" g29=true)
 (q36:uw K (bH C0 C1 C2 C3 C4 C5 C6 C7 C8 C9 C10 C11 "Sail")=true)
 (q37:Tf K (bH C0 C1 C2 C3 C4 C5 C6 C7 C8 C9 C10 C11 "Sail") QD=true)
 (q38:PySem.W.findIn K (.ref (bH C0 C1 C2 C3 C4 C5 C6 C7 C8 C9 C10 C11 "Sail")) "word" =some none)
 (q39:PySem.W.findIn K (.ref (bH C0 C1 C2 C3 C4 C5 C6 C7 C8 C9 C10 C11 "Sail")) "numbers" =some none)
 (q40:ou K (bH C0 C1 C2 C3 C4 C5 C6 C7 C8 C9 C10 C11 "Sail") "corners" g30=true)
 (q41:uw K (bH C0 C1 C2 C3 C4 C5 C6 C7 C8 C9 C10 C11 "Cloth")=true)
 (q42:Tf K (bH C0 C1 C2 C3 C4 C5 C6 C7 C8 C9 C10 C11 "Cloth") QD=true)
 (q43:PySem.W.findIn K (.ref (bH C0 C1 C2 C3 C4 C5 C6 C7 C8 C9 C10 C11 "Cloth")) "word" =some none)
 (q44:PySem.W.findIn K (.ref (bH C0 C1 C2 C3 C4 C5 C6 C7 C8 C9 C10 C11 "Cloth")) "numbers" =some none)
 (q45:ou K (bH C0 C1 C2 C3 C4 C5 C6 C7 C8 C9 C10 C11 "Cloth") "corners" g31=true)
 (q46:uw K (bH C0 C1 C2 C3 C4 C5 C6 C7 C8 C9 C10 C11 "House")=true)
 (q47:Tf K (bH C0 C1 C2 C3 C4 C5 C6 C7 C8 C9 C10 C11 "House") QD=true)
 (q48:PySem.W.findIn K (.ref (bH C0 C1 C2 C3 C4 C5 C6 C7 C8 C9 C10 C11 "House")) "word" =some none)
 (q49:PySem.W.findIn K (.ref (bH C0 C1 C2 C3 C4 C5 C6 C7 C8 C9 C10 C11 "House")) "numbers" =some none)
 (q50:ou K (bH C0 C1 C2 C3 C4 C5 C6 C7 C8 C9 C10 C11 "House") "corners" g32=true)
 (q51:isC K (bH C0 C1 C2 C3 C4 C5 C6 C7 C8 C9 C10 C11) Zk=true)
 (q52:isT K (bH C0 C1 C2 C3 C4 C5 C6 C7 C8 C9 C10 C11) Zl=true)
 (q53:isD K (bH C0 C1 C2 C3 C4 C5 C6 C7 C8 C9 C10 C11) Zm=true)
 (q54:Tc K Zn=true)
 :∃fd:FuncData,(∀(s:Shared) (v:Value),BindsTo s fd ⟨[v],[]⟩ [("_law_script",v)])∧∀base:Heap,K.In base→base.Ns mainGlobals mg→∃cm,į l.prog w K mg base (ũ l.prog w) 10 fa fd ["_law_script"] (ŵ ⟨K,cm⟩ 1 lV):=by
 have e:=hfa.symm.trans (PySem.W.mg_of X G a64)
 cases e
 have F0:=Ġ (st:=xK) l0 c0 k0
 have b0:=F0.binds (ps:=["_law_cell","_law_most"]) fun _ _ _ _ _ _ us hl=>match us,hl with| [_,_],_=>rfl
 have F1:=Ġ (st:=xM) l1 c1 k1
 have b1:=F1.binds (ps:=["_law_script","_law_k"]) fun _ _ _ _ _ _ us hl=>match us,hl with| [_,_],_=>rfl
 have F2:=Ġ (st:=xO) l2 c2 k2
 have b2:=F2.binds (ps:=["_law_cell","_law_many"]) fun _ _ _ _ _ _ us hl=>match us,hl with| [_,_],_=>rfl
 have F3:=Ġ (st:=xP) l3 c3 k3
 have b3:=F3.binds (ps:=["_law_xs"]) fun _ _ _ _ _ _ us hl=>match us,hl with| [_],_=>rfl
 have F4:=Ġ (st:=qW) l4 c4 k4
 have b4:=F4.binds (ps:=["_law_script","_law_start","_law_many","_law_long"]) fun _ _ _ _ _ _ us hl=>match us,hl with| [_,_,_,_],_=>rfl
 have F5:=Ġ (st:=qX) l5 c5 k5
 have b5:=F5.binds (ps:=["self","width","height","things","days"]) fun _ _ _ _ _ _ us hl=>match us,hl with| [_,_,_,_,_],_=>rfl
 have F6:=Ġ (st:=xQ) l6 c6 k6
 have b6:=F6.binds (ps:=["_law_number"]) fun _ _ _ _ _ _ us hl=>match us,hl with| [_],_=>rfl
 have F7:=Ġ (st:=xR) l7 c7 k7
 have b7:=F7.binds (ps:=["_law_number","_law_wide"]) fun _ _ _ _ _ _ us hl=>match us,hl with| [_,_],_=>rfl
 have F8:=Ġ (st:=qY) l8 c8 k8
 have b8:=F8.binds (ps:=["_law_cell","_law_wide"]) fun _ _ _ _ _ _ us hl=>match us,hl with| [_,_],_=>rfl
 have F9:=Ġ (st:=xT) l9 c9 k9
 have b9:=F9.binds (ps:=["number"]) fun _ _ _ _ _ _ us hl=>match us,hl with| [_],_=>rfl
 have F10:=Ġ (st:=xU) l10 c10 k10
 have b10:=F10.binds (ps:=["number"]) fun _ _ _ _ _ _ us hl=>match us,hl with| [_],_=>rfl
 have F11:=Ġ (st:=xV) l11 c11 k11
 have b11:=F11.binds (ps:=["numbers"]) fun _ _ _ _ _ _ us hl=>match us,hl with| [_],_=>rfl
 have F12:=Ġ (st:=Ji) l12 c12 k12
 have b12:=F12.binds (ps:=["self","word","numbers"]) fun _ _ _ _ _ _ us hl=>match us,hl with| [_,_,_],_=>rfl
 have F13:=Ġ (st:=qZ) l13 c13 k13
 have b13:=F13.binds (ps:=["numbers"]) fun _ _ _ _ _ _ us hl=>match us,hl with| [_],_=>rfl
 have F14:=Ġ (st:=xW) l14 c14 k14
 have b14:=F14.binds (ps:=["numbers"]) fun _ _ _ _ _ _ us hl=>match us,hl with| [_],_=>rfl
 have F15:=Ġ (st:=Jj) l15 c15 k15
 have b15:=F15.binds (ps:=["numbers"]) fun _ _ _ _ _ _ us hl=>match us,hl with| [_],_=>rfl
 have F16:=Ġ (st:=Jk) l16 c16 k16
 have b16:=F16.binds (ps:=["numbers"]) fun _ _ _ _ _ _ us hl=>match us,hl with| [_],_=>rfl
 have F17:=Ġ (st:=q_) l17 c17 k17
 have b17:=F17.binds (ps:=["numbers"]) fun _ _ _ _ _ _ us hl=>match us,hl with| [_],_=>rfl
 have F18:=Ġ (st:=xX) l18 c18 k18
 have b18:=F18.binds (ps:=["word","numbers"]) fun _ _ _ _ _ _ us hl=>match us,hl with| [_,_],_=>rfl
 have F19:=Ġ (st:=oJ) l19 c19 k19
 have b19:=F19.binds (ps:=["points"]) fun _ _ _ _ _ _ us hl=>match us,hl with| [_],_=>rfl
 have F20:=Ġ (st:=xY) l20 c20 k20
 have b20:=F20.binds (ps:=["points"]) fun _ _ _ _ _ _ us hl=>match us,hl with| [_],_=>rfl
 have F21:=Ġ (st:=xZ) l21 c21 k21
 have b21:=F21.binds (ps:=["one","other"]) fun _ _ _ _ _ _ us hl=>match us,hl with| [_,_],_=>rfl
 have F22:=Ġ (st:=yc) l22 c22 k22
 have b22:=F22.binds (ps:=["line","pair"]) fun _ _ _ _ _ _ us hl=>match us,hl with| [_,_],_=>rfl
 have F23:=Ġ (st:=rm) l23 c23 k23
 have b23:=F23.binds (ps:=["points"]) fun _ _ _ _ _ _ us hl=>match us,hl with| [_],_=>rfl
 have F24:=Ġ (st:=yg) l24 c24 k24
 have b24:=F24.binds (ps:=["points"]) fun _ _ _ _ _ _ us hl=>match us,hl with| [_],_=>rfl
 have F25:=Ġ (st:=yj) l25 c25 k25
 have b25:=F25.binds (ps:=["point","ray"]) fun _ _ _ _ _ _ us hl=>match us,hl with| [_,_],_=>rfl
 have F26:=Ġ (st:=yq) l26 c26 k26
 have b26:=F26.binds (ps:=["x","y","u","v","z"]) fun _ _ _ _ _ _ us hl=>match us,hl with| [_,_,_,_,_],_=>rfl
 have F27:=Ġ (st:=Jl) l27 c27 k27
 have b27:=F27.binds (ps:=["x","y","u","v","h"]) fun _ _ _ _ _ _ us hl=>match us,hl with| [_,_,_,_,_],_=>rfl
 have F28:=Ġ (st:=yr) l28 c28 k28
 have b28:=F28.binds (ps:=["self"]) fun _ _ _ _ _ _ us hl=>match us,hl with| [_],_=>rfl
 have F29:=Ġ (st:=Jm) l29 c29 k29
 have b29:=F29.binds (ps:=["self"]) fun _ _ _ _ _ _ us hl=>match us,hl with| [_],_=>rfl
 have F30:=Ġ (st:=yu) l30 c30 k30
 have b30:=F30.binds (ps:=["self"]) fun _ _ _ _ _ _ us hl=>match us,hl with| [_],_=>rfl
 have F31:=Ġ (st:=rz) l31 c31 k31
 have b31:=F31.binds (ps:=["self"]) fun _ _ _ _ _ _ us hl=>match us,hl with| [_],_=>rfl
 have F32:=Ġ (st:=yx) l32 c32 k32
 have b32:=F32.binds (ps:=["self"]) fun _ _ _ _ _ _ us hl=>match us,hl with| [_],_=>rfl
 have F33:=Ġ (st:=rC) l33 c33 k33
 have b33:=F33.binds (ps:=["thing","ray"]) fun _ _ _ _ _ _ us hl=>match us,hl with| [_,_],_=>rfl
 have F34:=Ġ (st:=yC) l34 c34 k34
 have b34:=F34.binds (ps:=["first","last"]) fun _ _ _ _ _ _ us hl=>match us,hl with| [_,_],_=>rfl
 have F35:=Ġ (st:=yD) l35 c35 k35
 have b35:=F35.binds (ps:=["lines","unit","q","width"]) fun _ _ _ _ _ _ us hl=>match us,hl with| [_,_,_,_],_=>rfl
 have F36:=Ġ (st:=yE) l36 c36 k36
 have b36:=F36.binds (ps:=["yard","thing","ray"]) fun _ _ _ _ _ _ us hl=>match us,hl with| [_,_,_],_=>rfl
 have F37:=Ġ (st:=Fw) l37 c37 k37
 have b37:=F37.binds (ps:=["yard","ray"]) fun _ _ _ _ _ _ us hl=>match us,hl with| [_,_],_=>rfl
 have F38:=Ġ (st:=yF) l38 c38 k38
 have b38:=F38.binds (ps:=["yard","turn"]) fun _ _ _ _ _ _ us hl=>match us,hl with| [_,_],_=>rfl
 have F39:=Ġ (st:=yG) l39 c39 k39
 have b39:=F39.binds (ps:=["yard","stone"]) fun _ _ _ _ _ _ us hl=>match us,hl with| [_,_],_=>rfl
 have F40:=Ġ (st:=yH) l40 c40 k40
 have b40:=F40.binds (ps:=["yard","stone"]) fun _ _ _ _ _ _ us hl=>match us,hl with| [_,_],_=>rfl
 have F41:=Ġ (st:=yI) l41 c41 k41
 have b41:=F41.binds (ps:=["yard","day"]) fun _ _ _ _ _ _ us hl=>match us,hl with| [_,_],_=>rfl
 have F42:=Ġ (st:=yJ) l42 c42 k42
 have b42:=F42.binds (ps:=["yard","day"]) fun _ _ _ _ _ _ us hl=>match us,hl with| [_,_],_=>rfl
 have F43:=Ġ (st:=yK) l43 c43 k43
 have b43:=F43.binds (ps:=["yard","day"]) fun _ _ _ _ _ _ us hl=>match us,hl with| [_,_],_=>rfl
 have F44:=Ġ (st:=yL) l44 c44 k44
 have b44:=F44.binds (ps:=["points","point"]) fun _ _ _ _ _ _ us hl=>match us,hl with| [_,_],_=>rfl
 have F45:=Ġ (st:=rD) l45 c45 k45
 have b45:=F45.binds (ps:=["many"]) fun _ _ _ _ _ _ us hl=>match us,hl with| [_],_=>rfl
 have F46:=Ġ (st:=rE) l46 c46 k46
 have b46:=F46.binds (ps:=["many"]) fun _ _ _ _ _ _ us hl=>match us,hl with| [_],_=>rfl
 have F47:=Ġ (st:=Jo) l47 c47 k47
 have b47:=F47.binds (ps:=["one","other"]) fun _ _ _ _ _ _ us hl=>match us,hl with| [_,_],_=>rfl
 have F48:=Ġ (st:=yM) l48 c48 k48
 have b48:=F48.binds (ps:=["top","bottom"]) fun _ _ _ _ _ _ us hl=>match us,hl with| [_,_],_=>rfl
 have F49:=Ġ (st:=rG) l49 c49 k49
 have b49:=F49.binds (ps:=["shares","places","many"]) fun _ _ _ _ _ _ us hl=>match us,hl with| [_,_,_],_=>rfl
 have F50:=Ġ (st:=yN) l50 c50 k50
 have b50:=F50.binds (ps:=["one","other","third"]) fun _ _ _ _ _ _ us hl=>match us,hl with| [_,_,_],_=>rfl
 have F51:=Ġ (st:=Jp) l51 c51 k51
 have b51:=F51.binds (ps:=["corners","point"]) fun _ _ _ _ _ _ us hl=>match us,hl with| [_,_],_=>rfl
 have F52:=Ġ (st:=rH) l52 c52 k52
 have b52:=F52.binds (ps:=["shares"]) fun _ _ _ _ _ _ us hl=>match us,hl with| [_],_=>rfl
 have F53:=Ġ (st:=yO) l53 c53 k53
 have b53:=F53.binds (ps:=["ends","point"]) fun _ _ _ _ _ _ us hl=>match us,hl with| [_,_],_=>rfl
 have F54:=Ġ (st:=oK) l54 c54 k54
 have b54:=F54.binds (ps:=["points","point"]) fun _ _ _ _ _ _ us hl=>match us,hl with| [_,_],_=>rfl
 have F55:=Ġ (st:=yP) l55 c55 k55
 have b55:=F55.binds (ps:=["points","point"]) fun _ _ _ _ _ _ us hl=>match us,hl with| [_,_],_=>rfl
 have F56:=Ġ (st:=yQ) l56 c56 k56
 have b56:=F56.binds (ps:=["stone","ray"]) fun _ _ _ _ _ _ us hl=>match us,hl with| [_,_],_=>rfl
 have F57:=Ġ (st:=yR) l57 c57 k57
 have b57:=F57.binds (ps:=["thing","stone","ray"]) fun _ _ _ _ _ _ us hl=>match us,hl with| [_,_,_],_=>rfl
 have F58:=Ġ (st:=yS) l58 c58 k58
 have b58:=F58.binds (ps:=["thing","stone","ray"]) fun _ _ _ _ _ _ us hl=>match us,hl with| [_,_,_],_=>rfl
 have F59:=Ġ (st:=yU) l59 c59 k59
 have b59:=F59.binds (ps:=["yard","turn","stone"]) fun _ _ _ _ _ _ us hl=>match us,hl with| [_,_,_],_=>rfl
 have F60:=Ġ (st:=rJ) l60 c60 k60
 have b60:=F60.binds (ps:=["yard","day","stone"]) fun _ _ _ _ _ _ us hl=>match us,hl with| [_,_,_],_=>rfl
 have F61:=Ġ (st:=rK) l61 c61 k61
 have b61:=F61.binds (ps:=["_law_found","_law_due"]) fun _ _ _ _ _ _ us hl=>match us,hl with| [_,_],_=>rfl
 have F62:=Ġ (st:=rM) l62 c62 k62
 have b62:=F62.binds (ps:=["_law_found","_law_due"]) fun _ _ _ _ _ _ us hl=>match us,hl with| [_,_],_=>rfl
 have F63:=Ġ (st:=yV) l63 c63 k63
 have b63:=F63.binds (ps:=["yard","stone"]) fun _ _ _ _ _ _ us hl=>match us,hl with| [_,_],_=>rfl
 have F64:=Ġ (st:=eZ) l64 c64 k64
 have b64:=F64.binds (ps:=["_law_script"]) fun _ _ _ _ _ _ us hl=>match us,hl with| [_],_=>rfl
 have F65:=Ġ (st:=Jq) l65 c65 k65
 have b65:=F65.binds (ps:=["self","stone"]) fun _ _ _ _ _ _ us hl=>match us,hl with| [_,_],_=>rfl
 have F66:=Ġ (st:=Jr) l66 c66 k66
 have b66:=F66.binds (ps:=["self","day","turn"]) fun _ _ _ _ _ _ us hl=>match us,hl with| [_,_,_],_=>rfl
 have T:Tx K mg ⟨g0,FN "_law_size" "_law_size" xK kV0 dc0 pm0 an0 cd0 ct0,g1,FN "_law_at" "_law_at" xM kV1 dc1 pm1 an1 cd1 ct1,g2,FN "_law_grains" "_law_grains" xO kV2 dc2 pm2 an2 cd2 ct2,g3,FN "_law_sky" "_law_sky" xP kV3 dc3 pm3 an3 cd3 ct3,g4,FN "_law_days" "_law_days" qW kV4 dc4 pm4 an4 cd4 ct4,g5,FN "__init__" "Yard.__init__" qX kV5 dc5 pm5 an5 cd5 ct5,g6,FN "_law_height" "_law_height" xQ kV6 dc6 pm6 an6 cd6 ct6,g7,FN "_law_place" "_law_place" xR kV7 dc7 pm7 an7 cd7 ct7,g8,FN "_law_thing" "_law_thing" qY kV8 dc8 pm8 an8 cd8 ct8,g9,FN "is_place" "is_place" xT kV9 dc9 pm9 an9 cd9 ct9,g10,FN "is_height" "is_height" xU ZfT ZfU ZfV Ze0 ZbJ ZfW,g11,FN "makes_post" "makes_post" xV ZfX ZfY ZfZ Ze1 ZbK Zf0,QD,FN "__init__" "Thing.__init__" Ji Zf1 Zf2 Zf3 Ze2 ZbL Zf4,g13,FN "has_two_ends" "has_two_ends" qZ Zf5 Zf6 Zf7 Ze3 ZbM Zf8,g14,FN "makes_fence" "makes_fence" xW Zf9 Zf_ Zga Ze4 ZbN Zgb,g15,FN "makes_sail_or_house" "makes_sail_or_house" Jj Zgc Zgd Zge Ze5 ZbO Zgf,g16,FN "is_cloth_corner" "is_cloth_corner" Jk Zgg Zgh Zgi Ze6 ZbP Zgj,g17,FN "makes_cloth" "makes_cloth" q_ Zgk Zgl Zgm Ze7 ZbQ Zgn,g18,FN "thing_of" "thing_of" xX Zgo Zgp Zgq Ze8 ZbR Zgr,g19,FN "box_lines" "box_lines" oJ Zgs Zgt Zgu Ze9 ZbS Zgv,g20,FN "each_once" "each_once" xY Zgw Zgx Zgy Ze_ ZbT Zgz,g21,FN "line_through" "line_through" xZ ZgA ZgB ZgC Zfa ZbU ZgD,g22,FN "holds" "holds" yc ZgE ZgF ZgG Zfb ZbV ZgH,g23,FN "edge_lines" "edge_lines" rm ZgI ZgJ ZgK Zfc ZbW ZgL,g24,FN "lines_about" "lines_about" yg ZgM ZgN ZgO Zfd ZbX ZgP,g25,FN "cast" "cast" yj ZgQ ZgR ZgS Zfe ZbY ZgT,g26,FN "level_corners" "level_corners" yq ZgU ZgV ZgW Zff ZbZ ZgX,g27,FN "block_corners" "block_corners" Jl ZgY ZgZ Zg0 Zfg Zb0 Zg1,g28,FN "corners" "Post.corners" yr Zg2 Zg3 Zg4 Zfh Zb1 Zg5,g29,FN "corners" "Fence.corners" Jm Zg6 Zg7 Zg8 Zfi Zb2 Zg9,g30,FN "corners" "Sail.corners" yu Zg_ Zha Zhb Zfj Zb3 Zhc,g31,FN "corners" "Cloth.corners" rz Zhd Zhe Zhf Zfk Zb4 Zhg,g32,FN "corners" "House.corners" yx Zhh Zhi Zhj Zfl Zb5 Zhk,g33,FN "corner_casts" "corner_casts" rC Zhl Zhm Zhn Zfm Zb6 Zho,g34,FN "span_bits" "span_bits" yC Zhp Zhq Zhr Zfn Zb7 Zhs,g35,FN "row_bits" "row_bits" yD Zht Zhu Zhv Zfo Zb8 Zhw,g36,FN "dark_of" "dark_of" yE Zhx Zhy Zhz Zfp Zb9 ZhA,g37,FN "darks_of_things" "darks_of_things" Fw ZhB ZhC ZhD Zfq Zb_ ZhE,g38,FN "dark" "dark" yF ZhF ZhG ZhH Zfr Zca ZhI,g39,FN "has_stone" "has_stone" yG ZhJ ZhK ZhL Zfs Zcb ZhM,g40,FN "check_stone" "check_stone" yH ZhN ZhO ZhP Zft Zcc ZhQ,g41,FN "has_day" "has_day" yI ZhR ZhS ZhT Zfu Zcd ZhU,g42,FN "check_day" "check_day" yJ ZhV ZhW ZhX Zfv Zce ZhY,g43,FN "turns_of" "turns_of" yK ZhZ Zh0 Zh1 Zfw Zcf Zh2,g44,FN "parting_line" "parting_line" yL Zh3 Zh4 Zh5 Zfx Zcg Zh6,g45,FN "pairs_below" "pairs_below" rD Zh7 Zh8 Zh9 Zfy Zch Zh_,g46,FN "triples_below" "triples_below" rE Zia Zib Zic Zfz Zci Zid,g47,FN "greatest_divisor" "greatest_divisor" Jo Zie Zif Zig ZfA Zcj Zih,g48,FN "ratio" "ratio" yM Zii Zij Zik ZfB Zck Zil,g49,FN "spread" "spread" rG Zim Zin Zio ZfC Zcl Ziq,g50,FN "turned" "turned" yN Zir Zis Zit ZfD Zcm Ziu,g51,FN "shares_of_three" "shares_of_three" Jp Ziv Ziw Zix ZfE Zcn Ziy,g52,FN "are_weights" "are_weights" rH Ziz ZiA ZiB ZfF Zco ZiC,g53,FN "shares_of_two" "shares_of_two" yO ZiD ZiE ZiF ZfG Zcp ZiG,g54,FN "weights_of" "weights_of" oK ZiH ZiI ZiJ ZfH Zcq ZiK,g55,FN "held" "held" yP ZiL ZiM ZiN ZfI Zcr ZiO,g56,FN "stone_cast" "stone_cast" yQ ZiP ZiQ ZiR ZfJ Zcs ZiS,g57,FN "shading" "shading" yR ZiT ZiU ZiV ZfK Zct ZiW,g58,FN "shades" "shades" yS ZiX ZiY ZiZ ZfL Zcu Zi0,g59,FN "is_dark" "is_dark" yU Zi1 Zi2 Zi3 ZfM Zcv Zi4,g60,FN "lit_turns" "lit_turns" rJ Zi5 Zi6 Zi7 ZfN Zcw Zi8,g61,FN "_law_pair" "_law_pair" rK Zi9 Zi_ Zja ZfO Zcx Zjb,g62,FN "_law_numbers" "_law_numbers" rM Zjc Zjd Zje ZfP Zcy Zjf,g63,FN "first_lit" "first_lit" yV Zjg Zjh Zji ZfQ Zcz Zjj,fa,FN "law" "law" eZ ZcA ZcB ZcC ZbI Ub ZcD,g65,FN "__init__" "NoStone.__init__" Jq Zjk Zjl Zjm ZfR ZcE Zjn,g66,FN "__init__" "NoTurn.__init__" Jr Zjo Zjp Zjq ZfS ZcF Zjr,C0,C1,C2,C3,C4,C5,C6,C7,C8,C9,C10,C11,tk0,tk1⟩:=⟨F0,PySem.W.mg_of X G a0,b0,F1,PySem.W.mg_of X G a1,b1,F2,PySem.W.mg_of X G a2,b2,F3,PySem.W.mg_of X G a3,b3,F4,PySem.W.mg_of X G a4,b4,F5,b5,F6,PySem.W.mg_of X G a6,b6,F7,PySem.W.mg_of X G a7,b7,F8,PySem.W.mg_of X G a8,b8,F9,PySem.W.mg_of X G a9,b9,F10,PySem.W.mg_of X G a10,b10,F11,PySem.W.mg_of X G a11,b11,F12,b12,F13,PySem.W.mg_of X G a13,b13,F14,PySem.W.mg_of X G a14,b14,F15,PySem.W.mg_of X G a15,b15,F16,PySem.W.mg_of X G a16,b16,F17,PySem.W.mg_of X G a17,b17,F18,PySem.W.mg_of X G a18,b18,F19,PySem.W.mg_of X G a19,b19,F20,PySem.W.mg_of X G a20,b20,F21,PySem.W.mg_of X G a21,b21,F22,PySem.W.mg_of X G a22,b22,F23,PySem.W.mg_of X G a23,b23,F24,PySem.W.mg_of X G a24,b24,F25,PySem.W.mg_of X G a25,b25,F26,PySem.W.mg_of X G a26,b26,F27,PySem.W.mg_of X G a27,b27,F28,b28,F29,b29,F30,b30,F31,b31,F32,b32,F33,PySem.W.mg_of X G a33,b33,F34,PySem.W.mg_of X G a34,b34,F35,PySem.W.mg_of X G a35,b35,F36,PySem.W.mg_of X G a36,b36,F37,PySem.W.mg_of X G a37,b37,F38,PySem.W.mg_of X G a38,b38,F39,PySem.W.mg_of X G a39,b39,F40,PySem.W.mg_of X G a40,b40,F41,PySem.W.mg_of X G a41,b41,F42,PySem.W.mg_of X G a42,b42,F43,PySem.W.mg_of X G a43,b43,F44,PySem.W.mg_of X G a44,b44,F45,PySem.W.mg_of X G a45,b45,F46,PySem.W.mg_of X G a46,b46,F47,PySem.W.mg_of X G a47,b47,F48,PySem.W.mg_of X G a48,b48,F49,PySem.W.mg_of X G a49,b49,F50,PySem.W.mg_of X G a50,b50,F51,PySem.W.mg_of X G a51,b51,F52,PySem.W.mg_of X G a52,b52,F53,PySem.W.mg_of X G a53,b53,F54,PySem.W.mg_of X G a54,b54,F55,PySem.W.mg_of X G a55,b55,F56,PySem.W.mg_of X G a56,b56,F57,PySem.W.mg_of X G a57,b57,F58,PySem.W.mg_of X G a58,b58,F59,PySem.W.mg_of X G a59,b59,F60,PySem.W.mg_of X G a60,b60,F61,PySem.W.mg_of X G a61,b61,F62,PySem.W.mg_of X G a62,b62,F63,PySem.W.mg_of X G a63,b63,F64,PySem.W.mg_of X G a64,b64,F65,b65,F66,b66,PySem.W.mg_of X G u0,PySem.W.mg_of X G u1,PySem.W.mg_of X G u2,PySem.W.mg_of X G u3,PySem.W.mg_of X G u4,PySem.W.mg_of X G u5,PySem.W.mg_of X G u6,PySem.W.mg_of X G u7,PySem.W.mg_of X G u8,PySem.W.mg_of X G u9,PySem.W.mg_of X G u10,PySem.W.mg_of X G u11,q0,q1,q2,q3,q4,q5,q6,q7,q8,Iw q9,q10,q11,Iw q12,q13,q14,q15,jd q16,oA q17,q18,q19,q20,q21,jd q22,oA q23,q24,q25,jd q26,oA q27,q28,q29,jw q30,jd q31,oA q32,q33,q34,jw q35,jd q36,oA q37,q38,q39,jw q40,jd q41,oA q42,q43,q44,jw q45,jd q46,oA q47,q48,q49,jw q50,Ir q51,Iu q52,Iv q53,Dz q54,PySem.W.mg_of X G x0,PySem.W.mg_of X G x1,PySem.W.mg_none_of X G z0,PySem.W.mg_none_of X G z1,PySem.W.mg_none_of X G z2,PySem.W.mg_none_of X G z3,PySem.W.mg_none_of X G z4,PySem.W.mg_none_of X G z5,PySem.W.mg_none_of X G z6,PySem.W.mg_none_of X G z7,PySem.W.mg_none_of X G z8,PySem.W.mg_none_of X G z9,PySem.W.mg_none_of X G Ua,PySem.W.mg_none_of X G Qu,PySem.W.mg_none_of X G Qv,PySem.W.mg_none_of X G z13⟩
 exact⟨PySem.W.fnOf "law" "law" (gM eZ) (bI eZ) (ĉ eZ) .none ZcA ZcB ZcC ZbI Ub ZcD,fun s v=>.of_eq rfl,fun base _ _=>⟨_,ZbH T⟩⟩
theorem Z1A(ns:List Int)(hn:ns.length≤63):lV [.sh (.lst (ns.map .int))]=.ret (.sh (.bl true)):=by
 have k0:Ů [.sh (.lst (ns.map .int)),.sh (.int 0)]=.ret (.sh (.int (ns.getD 0 0))):=ZH ns 0
 have k1:Ů [.sh (.lst (ns.map .int)),.sh (.int 1)]=.ret (.sh (.int (ns.getD 1 0))):=ZH ns 1
 obtain⟨c0,e0⟩:∃c,ns.getD 0 0=c:=⟨_,rfl⟩
 obtain⟨c1,e1⟩:∃c,ns.getD 1 0=c:=⟨_,rfl⟩
 rw[e0] at k0
 rw[e1] at k1
 obtain⟨w,h,hs,w1,w2,h1,h2,wh⟩:=Z1v c0
 obtain⟨ys,hy,hyl⟩:=slI ns (some 2) (some 6)
 obtain⟨T,hT,hTl,hTg⟩:=Z0x ⟨w1,w2⟩ ⟨h1,h2⟩ ys [] .no (by simp;omega)
 rw[List.nil_append] at hT
 obtain⟨m,hm⟩:∃m:Nat,c1 % 4=(m:Int):=⟨(c1 % 4).toNat,by omega⟩
 obtain⟨D,hD,hDl,hDg⟩:=Z0I ns (n:=m) (lg:=4) (by omega) (by omega) (by omega)
 have hD':fj [.sh (.lst (ns.map .int)),.sh (.int 6),.sh (.int m),.sh (.int 4)]=.ret (.ow (D.map bC)):=hD
 by_cases hc:c1 / 4 % 16=9
 ·obtain⟨w',hw',w1',w2'⟩:∃w':Nat,1+c0 % 2=(w':Int)∧1≤w'∧w'≤2:=⟨(1+c0 % 2).toNat,by omega,by omega,by omega⟩
  obtain⟨T',t1,t2,t3⟩:=slR T
  obtain⟨E,hE,hEl,hEg⟩:=Z0I ns (n:=3) (lg:=24) (by omega) (by omega) (by omega)
  have hE':fj [.sh (.lst (ns.map .int)),.sh (.int 6),.sh (.int 3),.sh (.int 24)]=.ret (.ow (E.map bC)):=hE
  have fin:=Z0L (w:=w') (h:=1) ⟨w1',by omega⟩ ⟨by omega,by omega⟩ (by omega) (T:=T') (by omega) (fun t ht=>hTg t (t3 t ht)) (lg:=24) (by omega) (D:=E) (by omega) hEg (.sh (.lst (ns.map .int))) .no .no .no .no .no .no .no .no .no
  generalize ns.map PV.int=NS at *
  generalize ys.map PV.int=YS at *
  generalize T.map Zh=TR at *
  generalize T'.map Zh=TR' at *
  generalize D.map bC=DV at *
  generalize E.map bC=EV at *
  simp[lV,Z2q,List.replicate,k0,k1,hs,Sd,hy,hT,hm,hD',hc,hw',t1,hE',-ZU]
  simpa using fin
 ·have fin:=Z0L (w:=w) (h:=h) ⟨w1,w2⟩ ⟨h1,h2⟩ wh (T:=T) (by omega) hTg (lg:=4) (by omega) (D:=D) (by omega) hDg (.sh (.lst (ns.map .int))) .no .no .no .no .no .no .no .no .no
  generalize ns.map PV.int=NS at *
  generalize ys.map PV.int=YS at *
  generalize T.map Zh=TR at *
  generalize D.map bC=DV at *
  simp[lV,Z2q,List.replicate,k0,k1,hs,Sd,hy,hT,hm,hD',hc,-ZU]
  simpa using fin
theorem Z2G{l:PySem.W.OpenLaw}{q:Program}{loose:List Str}{XP:(Str→Option Value)→Heap→Prop}{YP:World→Heap→Prop}{d:DefRec}{K:Params→PySem.W.Frag}(hn:l.most=some 63)(hdf:d.params.defaults=[])
 (hY:∀(w:World) (h:Heap),YP w h→(K w.params).In h)
 (F:∀(w:World) (mg:Str→Option Value) (fa:Addr) (h:Heap),(K w.params).In h→h.Ns mainGlobals mg→mg d.name=some (.ref fa)→
   ∃fd:FuncData,(∀(s:Shared) (u:Value),BindsTo s fd ⟨[u],[]⟩ [("_law_script",u)])∧∀base:Heap,(K w.params).In base→base.Ns mainGlobals mg→∃cm,į l.prog w (K w.params) mg base (ũ l.prog w) 10 fa fd ["_law_script"] (ŵ ⟨K w.params,cm⟩ 1 lV)) :
 PySem.W.WalkO q loose XP YP l.row.toRowW d [] (fun f vs=>PySem.call f vs):=
 P.Fe (k:=10) (x:= "_law_script") (m:=lV) hn hdf ⟨rfl,by decide,by decide⟩ hY F Z1A
end T
namespace PySem.W.Fast
def tw4260295697394229048:=0
def tw11833594427923735684:=0
def tw11545057372061140579:=0
def tw6617646942172694668:=0
def tw3292640784396516010:=0
def tw6027973834246900817:=0
def tw16569402920143431751:=0
def tw9481320640306278920:=0
def tw8864121307324261386:=0
def tw11051333057374636841:=0
def tw16111728072451686344:=0
def tw11821471904878303859:=0
def tw9506811840105201218:=0
def tw14984384350122926819:=0
def tw12892671078794173563:=0
def tw18193470353857772419:=0
def tw9076945794867105316:=0
def tw17418068587949642402:=0
def tw13840281647945213835:=0
def tw3185176504912783545:=0
def tw5046595472372225613:=0
def tw12659891671146774130:=0
def tw8940625225039640974:=0
def tw15959010630108070241:=0
def tw10139557850115108716:=0
def tw10559533811761840436:=0
def tw17075489333619571423:=0
def tw10097912254383353006:=0
def tw2736785353567587429:=0
def tw14674628056383897642:=0
def tw14438603446835406170:=0
def tw7609541974751401805:=0
def tw1348773877129981106:=0
def tw5224752711094620742:=0
def tw11086201159641791549:=0
def tw14956700744315198382:=0
def tw7180982632017253233:=0
def tw11386505559677106355:=0
def tw2381752513249330476:=0
def tw10195376320597113441:=0
def tw2895559519023591791:=0
def tw6291682172426659176:=0
def tw6994295042351265952:=0
def tw6129929542519193854:=0
def tw735281556933538672:=0
def tw3710693480166971166:=0
def tw2906389482739342184:=0
def tw15883089611926475546:=0
def tw1545474999146160202:=0
def tw12516943737513807567:=0
def tw16755657141766665050:=0
def tw16736442565073634423:=0
def tw7352002252246769147:=0
def tw18251430044098236194:=0
def tw17276619953219826181:=0
def tw5630772228999182393:=0
def tw1084939321102439439:=0
def tw11058625775913267408:=0
def tw9059503318184960693:=0
def tw2682309992191344600:=0
def tw1417913395232758598:=0
def tw4573759398565012231:=0
def tw16865491370299329005:=0
def tw5071506646422467461:=0
def tw1816443556519283548:=0
def tw17804865573471299080:=0
def tw12217684174220619366:=0
def tw8643756306555627830:=0
def tw12535010649444113374:=0
def tw3519290475358307448:=0
def tw17164393767998969629:=0
def tw1036745842433560080:=0
def tw14755044396429934080:=0
def tw9090222495508447592:=0
def tw9715325491952603842:=0
def tw15229332996411771929:=0
def tw2552094436441875333:=0
def tw1192427167989224047:=0
def tw6034054787664829829:=0
def tw4698529432732048246:=0
def tw14590138962499369328:=0
def tw10172414102698198960:=0
def tw1015202931193437753:=0
def tw17369465213808290070:=0
def tw10849324777327117434:=0
def tw1107780797261575711:=0
def tw5376016793506309658:=0
def tw6952878528463558255:=0
def tw733114803092517044:=0
def tw4223709481579979472:=0
def tw4123256067231279166:=0
def tw2868722235680623897:=0
def tw7404066014435732636:=0
def tw1560682227265859676:=0
def tw1526845075463242713:=0
def tw5577924375825504663:=0
def tw5409071039542613898:=0
def tw18159271707085997544:=0
def tw82670424002140719:=0
def tw7900407519316040692:=0
def tw3821868627996625599:=0
def tw16028701298029923842:=0
def tw9574999614991768016:=0
def tw4298084394501424235:=0
def tw16512449807338757728:=0
def tw4593374810194903825:=0
def tw4851897376617718548:=0
def tw12130503329867386905:=0
def tw6321470905462953195:=0
def tw2944846873274257821:=0
def tw5861997848676113104:=0
def tw8654681774435536130:=0
def tw3426724521651339639:=0
def tw16146738319114375824:=0
def tw3412684987084037157:=0
def tw17525130853807065540:=0
def tw17671632748214273745:=0
def tw14262534073654071252:=0
def tw10176650035534219385:=0
def tw14595164455371329820:=0
def tw7239659152547574394:=0
def tw6234829346633226965:=0
def tw6940828205232602848:=0
def tw7364447780344601477:=0
def tw10739778370128182349:=0
def tw1247846075342667992:=0
def tw2738585457057329360:=0
def tw14394959646544529056:=0
def tw10545320065164715817:=0
def tw8398349892146122465:=0
def tw11044946650650676225:=0
def tw12837816000623128889:=0
def tw1379223050551984249:=0
def tw12893181724309913097:=0
def tw11765562165135468526:=0
def tw529780267757720821:=0
def tw3206239113811451067:=0
def tw15714540200227874068:=0
def tw7450079201370641114:=0
def tw4447694718894992043:=0
def tw4871098784078286947:=0
def tw2284607999768354055:=0
def tw13696654116404220633:=0
def tw8647344193967298312:=0
def tw14408958287955952733:=0
def tw2171833660940004043:=0
def tw6756894531054652123:=0
def tw2199211381292346486:=0
def tw13920004418740544692:=0
def tw9449934319950412382:=0
def tw18241073865702709276:=0
def tw236473963931012873:=0
def tw12446121826497202836:=0
def tw1613537606414756554:=0
def tw15901843214960927858:=0
def tw11838167669983605182:=0
def tw15164805874917778501:=0
def tw2518538970321363825:=0
def tw12715982732432489778:=0
def tw9764311426007179909:=0
def tw9966269879653355518:=0
def tw891611077787480608:=0
def tw8630005587359549458:=0
def tw17284581386782501447:=0
def tw12542310038854244393:=0
def tw5983350803115251709:=0
def tw9838636611991854589:=0
def tw3802826933627479802:=0
def tw4225746018946957465:=0
def tw12540254898862433646:=0
def tw8443371510379403745:=0
def tw15974214923204372342:=0
def tw16354952938776161362:=0
def tw7229520535754560418:=0
def tw3401978781344249012:=0
def tw16938086286423280502:=0
def tw15167644166939919460:=0
def tw6551960438777929740:=0
def tw12393221057450799933:=0
def tw14460483647626061609:=0
def tw10875799892109285793:=0
def tw11174672919918596062:=0
def tw6240630642553580612:=0
def tw11668492210073675802:=0
def tw10122333533909788913:=0
def tw3833931474814549888:=0
def tw12503260861961256645:=0
def tw16521899435157038281:=0
def tw3156967902459310616:=0
def tw17666616815509116598:=0
def tw1781907856673378337:=0
def tw5369516269409293105:=0
def tw8221673929994336059:=0
def tw12706249442210660015:=0
def tw5896193667536345510:=0
def tw7984373002102245962:=0
def tw16024585121891625723:=0
def tw12226813845021106419:=0
def tw17483469819108220705:=0
def tw13874490960952035189:=0
def tw8809353322172673615:=0
def tw4827185105753277905:=0
def tw16482309722009222895:=0
def tw14339998685045880942:=0
def tw13327247043130469275:=0
def tw5903696657421440561:=0
def tw8492879100795225423:=0
def tw4555509117913001521:=0
def tw9301760791163557652:=0
def tw1251273718736870076:=0
def tw4229776101809052775:=0
def tw1072196529760372807:=0
def tw1852482553068732240:=0
def tw4174515468125285849:=0
def tw3753550991414521770:=0
def tw14709111083980039192:=0
def tw13303410086349406742:=0
def tw15594383703144957484:=0
def tw2513192553916771280:=0
def tw12447636186094473323:=0
def tw2025035946795336729:=0
def tw14023755926223288149:=0
def tw4224667270357446321:=0
def tw17263730650701080635:=0
def tw9750206267087106011:=0
def tw6551932397042668231:=0
def tw17571770721849210404:=0
def tw8661586238449601461:=0
def tw16028381268285697111:=0
def tw14623232111408349158:=0
def tw15979203172864893574:=0
def tw3901562640895613312:=0
def tw1291080887762559585:=0
def tw9059775438076248507:=0
def tw4499300716131804030:=0
def tw13496371863061728160:=0
def tw249507694118143535:=0
def tw5905170774273606713:=0
def tw16128018798092878881:=0
def tw4367786927984578153:=0
def tw12744824431161817998:=0
def tw16887925341757954179:=0
def tw12909784956889007034:=0
def tw7383872176008786055:=0
def tw6525185439433866279:=0
def tw14365943821505846620:=0
def tw8222303176620318756:=0
def tw10366619029272794212:=0
def tw13775069301763347947:=0
def tw5717764192150328735:=0
def tw6582627286647531523:=0
def tw6591742143219023328:=0
def tw6615721705431607624:=0
def tw11817987343165713375:=0
def tw16463640209059077834:=0
def tw1954822674990093316:=0
def tw10121074754656514652:=0
def tw8523453105456133087:=0
def tw3308296869696123913:=0
def tw11538596161315069304:=0
def tw10998628669245404434:=0
def tw164062175461116692:=0
def tw17294687276610448230:=0
def tw2666988135334196246:=0
def tw4728557508072017497:=0
def tw17409449252226851048:=0
def tw3148829302338924015:=0
def tw14670638628036990051:=0
def tw14426129401577932480:=0
def tw12676323168974547510:=0
def tw9573582946231293946:=0
def tw1171618222692973851:=0
def tw7379091316830280694:=0
def tw8959512092646279491:=0
def tw7561676482520980167:=0
def tw5653577897036644884:=0
def tw4568091838400610905:=0
def tw7771215164498175972:=0
def tw12975170370195238064:=0
def tw14765784734581842879:=0
def tw9760212435564802283:=0
def tw13931347116941088143:=0
def tw10625549704439078153:=0
def tw16032642082977484717:=0
def tw13378330652031964932:=0
def tw18118870050687934386:=0
def tw7610761387934954980:=0
def tw18101094959176517831:=0
def tw1307887624059836963:=0
def tw8271999568854779382:=0
def tw13533152808872227378:=0
def tw17781624946559619317:=0
def tw9766466122544310125:=0
def tw17586625000123834885:=0
def tw6409715092219760223:=0
def tw11032499677503066459:=0
def tw16958991733668170812:=0
def tw16613554657403730882:=0
def tw16816418899851701371:=0
def tw13954688346633334675:=0
def tw8669086526836161601:=0
def tw10764514686249485467:=0
def tw10166718190700966302:=0
def tw18178701387809652319:=0
def tw7818310790805035131:=0
def tw4819447266109939099:=0
def tw14486074534148738871:=0
def tw18431077156602704369:=0
def tw4057121049534026507:=0
def tw791297956687219798:=0
def tw14699815656295097753:=0
def tw5329642290894296150:=0
def tw12568719491931115899:=0
def tw14630587076407080517:=0
def tw9712576945416932463:=0
def tw12457290875138913678:=0
def tw2198659440248402314:=0
def tw4714041409487992064:=0
def tw10149751441037404136:=0
def tw9505136021957506791:=0
def tw6928177046841815407:=0
def tw13350440669833029527:=0
def tw2991268845506306367:=0
def tw10555498355959628428:=0
def tw10458329191384873464:=0
def tw10599132199739447372:=0
def tw9593573716248280066:=0
def tw18151698419499320038:=0
def tw17931288447332711776:=0
def tw1584108649282465516:=0
def tw11830617025374902903:=0
def tw3199786579981644189:=0
def tw15723556370023372822:=0
def tw17830457429449749284:=0
def tw1119538069649542661:=0
def tw2840436848014037908:=0
def tw16440083604935220593:=0
def tw11241892239995251263:=0
def tw6362762432053216198:=0
def tw18412815879800629692:=0
def tw15590703464693430912:=0
def tw10901085963702929564:=0
def tw8529415690743372573:=0
def tw158668062378023092:=0
def tw6141268633723425658:=0
def tw394902488000707602:=0
def tw9725940919927825631:=0
def tw12795749177478223901:=0
def tw14143183206189619378:=0
def tw11037994151803062948:=0
def tw18172883163741638864:=0
def tw13326116361256418209:=0
def tw9887128044159803959:=0
def tw15613084333006956883:=0
def tw10655992094061379150:=0
def tw15317658107435501165:=0
def tw15313791050155656472:=0
def tw8467572687025776692:=0
def tw1958912843383214495:=0
def tw16889918049768094175:=0
def tw13814923885296239944:=0
def tw18243447216935683643:=0
def tw9279301088578489496:=0
def tw17642278342251376446:=0
def tw13011295269088945070:=0
def tw16246402877876891534:=0
def tw16665065056288625294:=0
def tw4643032508962748432:=0
def tw7394102588895777840:=0
def tw10149379902707623394:=0
def tw9014408546260340120:=0
def tw15259489618661622914:=0
def tw9178162188060108568:=0
def tw5287340974047957287:=0
def tw7858215003333955425:=0
def tw5605363728914928393:=0
def tw4036361160374036172:=0
def tw6043301161062949160:=0
def tw829876980843243561:=0
def tw6216831943172080697:=0
def tw4572935040380476036:=0
def tw869684825260101198:=0
def tw17847187379789775001:=0
def tw749766741045928044:=0
def tw14625625341566247296:=0
def tw2766197592789659225:=0
def tw15627114016600912869:=0
def tw4016209701069053668:=0
def tw7934551948610222710:=0
def tw11693627490089791724:=0
def tw12808846425153377480:=0
def tw10755241813842565552:=0
def tw9055345686501711970:=0
def tw9391192362702101633:=0
def tw18434603028743078422:=0
def tw17038883669760357208:=0
def tw10475855737137988477:=0
def tw339439428520911105:=0
def tw6025374914213780767:=0
def tw17205122566788541409:=0
def tw11281001733179059039:=0
def tw6143058507381904652:=0
def tw14232247412133894942:=0
def tw6148258369332637930:=0
def tw6869212362206799612:=0
def tw918098135778267085:=0
def tw14586872708905934277:=0
def tw10201545247216086986:=0
def tw17925694328895666536:=0
def tw15950524839282242405:=0
def tw8064975854006248565:=0
def tw4143754291443668980:=0
def tw16874412107655720635:=0
def tw3246652078694745864:=0
def tw4745151618175687441:=0
def tw12085854458629759965:=0
def tw10471160506336847083:=0
def tw14067965967638117892:=0
def tw962358049163403178:=0
def tw11965725839784714598:=0
def tw18215112783565150563:=0
def tw6122145843262151645:=0
def tw6338642864782596191:=0
def tw9771754974793665681:=0
def tw12252059608882936437:=0
def tw4514964976827002911:=0
def tw12295601936096668192:=0
def tw5160040123121116929:=0
def tw1055193704929570418:=0
def tw17376393989313412710:=0
def tw3474190785231024787:=0
def tw9359015522942747786:=0
def tw5067004629725526890:=0
def tw13505580122414674723:=0
def tw263643463941724044:=0
def tw13533522942830777940:=0
def tw17434666159830648185:=0
def tw728903728895334355:=0
def tw12377060213754886508:=0
def tw17058185752500137481:=0
def tw11986593151754056331:=0
def tw9338772555717270006:=0
def tw7540967718157269512:=0
def tw1071313238266007401:=0
def tw13909144639768217069:=0
def tw15575805173901635632:=0
def tw14817335192516845049:=0
def tw13492526018847980640:=0
def tw17236109524057500162:=0
def tw228549704110101214:=0
def tw11654735033684331712:=0
def tw15465079416352539614:=0
def tw16404949757969889028:=0
def tw5651041559180793605:=0
def tw17988482733516419306:=0
def tw451731426850256061:=0
def tw5734117378105725784:=0
def tw1948816704272574119:=0
def tw8851738217784137101:=0
def tw4236464903586154260:=0
def tw8191562064495673784:=0
def tw11540610619673363626:=0
def tw16028969211254236358:=0
def tw5799861086611367831:=0
def tw17632496518800279904:=0
def tw14945210489470671857:=0
def tw5354245529354173041:=0
def tw936907646002564153:=0
def tw4615151035287535258:=0
def tw6838655834158333082:=0
def tw4499977288558565263:=0
def tw2390876602335265303:=0
def tw9734040929173940787:=0
def tw10304988661049685356:=0
def tw1542811048259404932:=0
def tw2143542310928789703:=0
def tw11205735267841293114:=0
def tw1553555226986273885:=0
def tw8496204650679685622:=0
def tw4113769799904827878:=0
def tw14822551540379876801:=0
def tw187318673748472932:=0
def tw8877836101109825087:=0
def tw12821066569714695643:=0
def tw604884562809678738:=0
def tw17110075725495736094:=0
def tw6071270580966878693:=0
def tw6898338622988392772:=0
def tw18133614666793532296:=0
def tw10507466933556790549:=0
def tw9028130986296865012:=0
def tw6832271192436230725:=0
def tw1466100288980985811:=0
def tw6690070224164960350:=0
def tw3344718243735079661:=0
def tw3407025083072538022:=0
def tw9129974442294307934:=0
def tw9744230345065045738:=0
def tw4047143384201774751:=0
def tw8583117557352431221:=0
def tw994837607975834982:=0
def tw1422122051774448373:=0
def tw8502918188665178777:=0
def tw14140967477501652043:=0
def tw3833229444458743428:=0
def tw17687000571699959380:=0
def tw18302458984495522007:=0
def tw6341404357218197480:=0
def tw226425025445579771:=0
def tw2165186067251924034:=0
def tw12963002661833860260:=0
def tw5716065137812142144:=0
def tw18338021110651179477:=0
def tw15652910880522463955:=0
def tw10115558605996619916:=0
def tw8065568176580372005:=0
def tw14905906990459877992:=0
def tw9517129130598919771:=0
def tw14898932511306021114:=0
def tw1485024631939583746:=0
def tw7198756049787592464:=0
def tw7670367570553033651:=0
def tw9821524385706083076:=0
def tw15196698825675768638:=0
def tw7873380708347865143:=0
def tw18256780244242830137:=0
def tw5140329088642879021:=0
def tw9516068898874308149:=0
def tw17465383635463220954:=0
def tw15409827659875054209:=0
def tw14319180079081493476:=0
def tw18258975795638680414:=0
def tw11123303770284651111:=0
def tw3619856344899717853:=0
def tw236163362393303026:=0
def tw17242820844431075429:=0
def tw9311704818940078042:=0
def tw2835189536818038381:=0
def tw8388221158523304524:=0
def tw18372369928803860113:=0
def tw8575590045640844136:=0
def tw14195231694719254104:=0
def tw852247998916641357:=0
def tw14860845995922650738:=0
def tw16211419033339082948:=0
def tw17351432127570352268:=0
def tw4810744593291025506:=0
def tw7787525164979054304:=0
def tw7579957181128526159:=0
def tw10542896514962719825:=0
def tw6950351109282841058:=0
def tw15928918127950563446:=0
def tw9217450412010688676:=0
def tw17168696844578602954:=0
def tw3566840972578222343:=0
def tw16011015829535280140:=0
def tw15756696053393070663:=0
def tw5550222645408505938:=0
def tw13981522953537231989:=0
def tw8029623197004949020:=0
def tw181001746072345361:=0
def tw15541250802614444966:=0
def tw14023388269688891916:=0
def tw15204912270880040209:=0
def tw3358528087029366556:=0
def tw9721434208222535152:=0
def tw13784888945048481759:=0
def tw3891267481891309994:=0
def tw17730525941509793565:=0
def tw1177918547250448069:=0
def tw13108297353595568786:=0
def tw8335537733483875491:=0
def tw13494733333465218067:=0
def tw3834626373621347054:=0
def tw3867881187114440863:=0
def tw10165852970049384325:=0
def tw13126437928782479270:=0
def tw11892601589941877048:=0
def tw10127058610175941157:=0
def tw2090233290607668217:=0
def tw17913118418431315265:=0
end PySem.W.Fast
open PySem PySem.W PyProof.Rows
set_option maxRecDepth 100000 in
set_option maxHeartbeats 0 in
theorem PySem.Challenge.cw_shadowpost_k33_lit_turns_holds : PySem.Challenge.rw_shadowpost_k33_lit_turns.Holds := by
 w_on;o_law;k_head;(case hw=>w_witness2)
 k_fill
 refine T.Z2G (l:=PySem.Challenge.rw_shadowpost_k33_lit_turns) rfl rfl (fun w h Y=>PySem.W.kIn_of Y) ?F
 case F=>
  intro w mg fa h KX G hmg
  refine' T.Z2r KX G hmg ?u0 ?u1 ?u2 ?u3 ?u4 ?u5 ?u6 ?u7 ?u8 ?u9 ?u10 ?u11 ?a0 ?l0 ?c0 ?k0 ?a1 ?l1 ?c1 ?k1 ?a2 ?l2 ?c2 ?k2 ?a3 ?l3 ?c3 ?k3 ?a4 ?l4 ?c4 ?k4 ?a5 ?l5 ?c5 ?k5 ?a6 ?l6 ?c6 ?k6 ?a7 ?l7 ?c7 ?k7 ?a8 ?l8 ?c8 ?k8 ?a9 ?l9 ?c9 ?k9 ?a10 ?l10 ?c10 ?k10 ?a11 ?l11 ?c11 ?k11 ?a12 ?l12 ?c12 ?k12 ?a13 ?l13 ?c13 ?k13 ?a14 ?l14 ?c14 ?k14 ?a15 ?l15 ?c15 ?k15 ?a16 ?l16 ?c16 ?k16 ?a17 ?l17 ?c17 ?k17 ?a18 ?l18 ?c18 ?k18 ?a19 ?l19 ?c19 ?k19 ?a20 ?l20 ?c20 ?k20 ?a21 ?l21 ?c21 ?k21 ?a22 ?l22 ?c22 ?k22 ?a23 ?l23 ?c23 ?k23 ?a24 ?l24 ?c24 ?k24 ?a25 ?l25 ?c25 ?k25 ?a26 ?l26 ?c26 ?k26 ?a27 ?l27 ?c27 ?k27 ?a28 ?l28 ?c28 ?k28 ?a29 ?l29 ?c29 ?k29 ?a30 ?l30 ?c30 ?k30 ?a31 ?l31 ?c31 ?k31 ?a32 ?l32 ?c32 ?k32 ?a33 ?l33 ?c33 ?k33 ?a34 ?l34 ?c34 ?k34 ?a35 ?l35 ?c35 ?k35 ?a36 ?l36 ?c36 ?k36 ?a37 ?l37 ?c37 ?k37 ?a38 ?l38 ?c38 ?k38 ?a39 ?l39 ?c39 ?k39 ?a40 ?l40 ?c40 ?k40 ?a41 ?l41 ?c41 ?k41 ?a42 ?l42 ?c42 ?k42 ?a43 ?l43 ?c43 ?k43 ?a44 ?l44 ?c44 ?k44 ?a45 ?l45 ?c45 ?k45 ?a46 ?l46 ?c46 ?k46 ?a47 ?l47 ?c47 ?k47 ?a48 ?l48 ?c48 ?k48 ?a49 ?l49 ?c49 ?k49 ?a50 ?l50 ?c50 ?k50 ?a51 ?l51 ?c51 ?k51 ?a52 ?l52 ?c52 ?k52 ?a53 ?l53 ?c53 ?k53 ?a54 ?l54 ?c54 ?k54 ?a55 ?l55 ?c55 ?k55 ?a56 ?l56 ?c56 ?k56 ?a57 ?l57 ?c57 ?k57 ?a58 ?l58 ?c58 ?k58 ?a59 ?l59 ?c59 ?k59 ?a60 ?l60 ?c60 ?k60 ?a61 ?l61 ?c61 ?k61 ?a62 ?l62 ?c62 ?k62 ?a63 ?l63 ?c63 ?k63 ?a64 ?l64 ?c64 ?k64 ?a65 ?l65 ?c65 ?k65 ?a66 ?l66 ?c66 ?k66 ?x0 ?x1 ?z0 ?z1 ?z2 ?z3 ?z4 ?z5 ?z6 ?z7 ?z8 ?z9 ?Ua ?Qu ?Qv ?z13 ?q0 ?q1 ?q2 ?q3 ?q4 ?q5 ?q6 ?q7 ?q8 ?q9 ?q10 ?q11 ?q12 ?q13 ?q14 ?q15 ?q16 ?q17 ?q18 ?q19 ?q20 ?q21 ?q22 ?q23 ?q24 ?q25 ?q26 ?q27 ?q28 ?q29 ?q30 ?q31 ?q32 ?q33 ?q34 ?q35 ?q36 ?q37 ?q38 ?q39 ?q40 ?q41 ?q42 ?q43 ?q44 ?q45 ?q46 ?q47 ?q48 ?q49 ?q50 ?q51 ?q52 ?q53 ?q54
  (case u0=>k_is)
  (case u1=>k_is)
  (case u2=>k_is)
  (case u3=>k_is)
  (case u4=>k_is)
  (case u5=>k_is)
  (case u6=>k_is)
  (case u7=>k_is)
  (case u8=>k_is)
  (case u9=>k_is)
  (case u10=>k_is)
  (case u11=>k_is)
  (case a0=>k_is)
  (case l0=>unfold T.LK T.FN;k_is)
  (case c0=>k_is)
  (case k0=>k_is)
  (case a1=>k_is)
  (case l1=>unfold T.LK T.FN;k_is)
  (case c1=>k_is)
  (case k1=>k_is)
  (case a2=>k_is)
  (case l2=>unfold T.LK T.FN;k_is)
  (case c2=>k_is)
  (case k2=>k_is)
  (case a3=>k_is)
  (case l3=>unfold T.LK T.FN;k_is)
  (case c3=>k_is)
  (case k3=>k_is)
  (case a4=>k_is)
  (case l4=>unfold T.LK T.FN;k_is)
  (case c4=>k_is)
  (case k4=>k_is)
  (case a5=>k_is)
  (case l5=>unfold T.LK T.FN;k_is)
  (case c5=>k_is)
  (case k5=>k_is)
  (case a6=>k_is)
  (case l6=>unfold T.LK T.FN;k_is)
  (case c6=>k_is)
  (case k6=>k_is)
  (case a7=>k_is)
  (case l7=>unfold T.LK T.FN;k_is)
  (case c7=>k_is)
  (case k7=>k_is)
  (case a8=>k_is)
  (case l8=>unfold T.LK T.FN;k_is)
  (case c8=>k_is)
  (case k8=>k_is)
  (case a9=>k_is)
  (case l9=>unfold T.LK T.FN;k_is)
  (case c9=>k_is)
  (case k9=>k_is)
  (case a10=>k_is)
  (case l10=>unfold T.LK T.FN;k_is)
  (case c10=>k_is)
  (case k10=>k_is)
  (case a11=>k_is)
  (case l11=>unfold T.LK T.FN;k_is)
  (case c11=>k_is)
  (case k11=>k_is)
  (case a12=>k_is)
  (case l12=>unfold T.LK T.FN;k_is)
  (case c12=>k_is)
  (case k12=>k_is)
  (case a13=>k_is)
  (case l13=>unfold T.LK T.FN;k_is)
  (case c13=>k_is)
  (case k13=>k_is)
  (case a14=>k_is)
  (case l14=>unfold T.LK T.FN;k_is)
  (case c14=>k_is)
  (case k14=>k_is)
  (case a15=>k_is)
  (case l15=>unfold T.LK T.FN;k_is)
  (case c15=>k_is)
  (case k15=>k_is)
  (case a16=>k_is)
  (case l16=>unfold T.LK T.FN;k_is)
  (case c16=>k_is)
  (case k16=>k_is)
  (case a17=>k_is)
  (case l17=>unfold T.LK T.FN;k_is)
  (case c17=>k_is)
  (case k17=>k_is)
  (case a18=>k_is)
  (case l18=>unfold T.LK T.FN;k_is)
  (case c18=>k_is)
  (case k18=>k_is)
  (case a19=>k_is)
  (case l19=>unfold T.LK T.FN;k_is)
  (case c19=>k_is)
  (case k19=>k_is)
  (case a20=>k_is)
  (case l20=>unfold T.LK T.FN;k_is)
  (case c20=>k_is)
  (case k20=>k_is)
  (case a21=>k_is)
  (case l21=>unfold T.LK T.FN;k_is)
  (case c21=>k_is)
  (case k21=>k_is)
  (case a22=>k_is)
  (case l22=>unfold T.LK T.FN;k_is)
  (case c22=>k_is)
  (case k22=>k_is)
  (case a23=>k_is)
  (case l23=>unfold T.LK T.FN;k_is)
  (case c23=>k_is)
  (case k23=>k_is)
  (case a24=>k_is)
  (case l24=>unfold T.LK T.FN;k_is)
  (case c24=>k_is)
  (case k24=>k_is)
  (case a25=>k_is)
  (case l25=>unfold T.LK T.FN;k_is)
  (case c25=>k_is)
  (case k25=>k_is)
  (case a26=>k_is)
  (case l26=>unfold T.LK T.FN;k_is)
  (case c26=>k_is)
  (case k26=>k_is)
  (case a27=>k_is)
  (case l27=>unfold T.LK T.FN;k_is)
  (case c27=>k_is)
  (case k27=>k_is)
  (case a28=>k_is)
  (case l28=>unfold T.LK T.FN;k_is)
  (case c28=>k_is)
  (case k28=>k_is)
  (case a29=>k_is)
  (case l29=>unfold T.LK T.FN;k_is)
  (case c29=>k_is)
  (case k29=>k_is)
  (case a30=>k_is)
  (case l30=>unfold T.LK T.FN;k_is)
  (case c30=>k_is)
  (case k30=>k_is)
  (case a31=>k_is)
  (case l31=>unfold T.LK T.FN;k_is)
  (case c31=>k_is)
  (case k31=>k_is)
  (case a32=>k_is)
  (case l32=>unfold T.LK T.FN;k_is)
  (case c32=>k_is)
  (case k32=>k_is)
  (case a33=>k_is)
  (case l33=>unfold T.LK T.FN;k_is)
  (case c33=>k_is)
  (case k33=>k_is)
  (case a34=>k_is)
  (case l34=>unfold T.LK T.FN;k_is)
  (case c34=>k_is)
  (case k34=>k_is)
  (case a35=>k_is)
  (case l35=>unfold T.LK T.FN;k_is)
  (case c35=>k_is)
  (case k35=>k_is)
  (case a36=>k_is)
  (case l36=>unfold T.LK T.FN;k_is)
  (case c36=>k_is)
  (case k36=>k_is)
  (case a37=>k_is)
  (case l37=>unfold T.LK T.FN;k_is)
  (case c37=>k_is)
  (case k37=>k_is)
  (case a38=>k_is)
  (case l38=>unfold T.LK T.FN;k_is)
  (case c38=>k_is)
  (case k38=>k_is)
  (case a39=>k_is)
  (case l39=>unfold T.LK T.FN;k_is)
  (case c39=>k_is)
  (case k39=>k_is)
  (case a40=>k_is)
  (case l40=>unfold T.LK T.FN;k_is)
  (case c40=>k_is)
  (case k40=>k_is)
  (case a41=>k_is)
  (case l41=>unfold T.LK T.FN;k_is)
  (case c41=>k_is)
  (case k41=>k_is)
  (case a42=>k_is)
  (case l42=>unfold T.LK T.FN;k_is)
  (case c42=>k_is)
  (case k42=>k_is)
  (case a43=>k_is)
  (case l43=>unfold T.LK T.FN;k_is)
  (case c43=>k_is)
  (case k43=>k_is)
  (case a44=>k_is)
  (case l44=>unfold T.LK T.FN;k_is)
  (case c44=>k_is)
  (case k44=>k_is)
  (case a45=>k_is)
  (case l45=>unfold T.LK T.FN;k_is)
  (case c45=>k_is)
  (case k45=>k_is)
  (case a46=>k_is)
  (case l46=>unfold T.LK T.FN;k_is)
  (case c46=>k_is)
  (case k46=>k_is)
  (case a47=>k_is)
  (case l47=>unfold T.LK T.FN;k_is)
  (case c47=>k_is)
  (case k47=>k_is)
  (case a48=>k_is)
  (case l48=>unfold T.LK T.FN;k_is)
  (case c48=>k_is)
  (case k48=>k_is)
  (case a49=>k_is)
  (case l49=>unfold T.LK T.FN;k_is)
  (case c49=>k_is)
  (case k49=>k_is)
  (case a50=>k_is)
  (case l50=>unfold T.LK T.FN;k_is)
  (case c50=>k_is)
  (case k50=>k_is)
  (case a51=>k_is)
  (case l51=>unfold T.LK T.FN;k_is)
  (case c51=>k_is)
  (case k51=>k_is)
  (case a52=>k_is)
  (case l52=>unfold T.LK T.FN;k_is)
  (case c52=>k_is)
  (case k52=>k_is)
  (case a53=>k_is)
  (case l53=>unfold T.LK T.FN;k_is)
  (case c53=>k_is)
  (case k53=>k_is)
  (case a54=>k_is)
  (case l54=>unfold T.LK T.FN;k_is)
  (case c54=>k_is)
  (case k54=>k_is)
  (case a55=>k_is)
  (case l55=>unfold T.LK T.FN;k_is)
  (case c55=>k_is)
  (case k55=>k_is)
  (case a56=>k_is)
  (case l56=>unfold T.LK T.FN;k_is)
  (case c56=>k_is)
  (case k56=>k_is)
  (case a57=>k_is)
  (case l57=>unfold T.LK T.FN;k_is)
  (case c57=>k_is)
  (case k57=>k_is)
  (case a58=>k_is)
  (case l58=>unfold T.LK T.FN;k_is)
  (case c58=>k_is)
  (case k58=>k_is)
  (case a59=>k_is)
  (case l59=>unfold T.LK T.FN;k_is)
  (case c59=>k_is)
  (case k59=>k_is)
  (case a60=>k_is)
  (case l60=>unfold T.LK T.FN;k_is)
  (case c60=>k_is)
  (case k60=>k_is)
  (case a61=>k_is)
  (case l61=>unfold T.LK T.FN;k_is)
  (case c61=>k_is)
  (case k61=>k_is)
  (case a62=>k_is)
  (case l62=>unfold T.LK T.FN;k_is)
  (case c62=>k_is)
  (case k62=>k_is)
  (case a63=>k_is)
  (case l63=>unfold T.LK T.FN;k_is)
  (case c63=>k_is)
  (case k63=>k_is)
  (case a64=>k_is)
  (case l64=>unfold T.LK T.FN;k_is)
  (case c64=>k_is)
  (case k64=>k_is)
  (case a65=>k_is)
  (case l65=>unfold T.LK T.FN;k_is)
  (case c65=>k_is)
  (case k65=>k_is)
  (case a66=>k_is)
  (case l66=>unfold T.LK T.FN;k_is)
  (case c66=>k_is)
  (case k66=>k_is)
  (case x0=>k_is)
  (case x1=>k_is)
  (case z0=>k_is)
  (case z1=>k_is)
  (case z2=>k_is)
  (case z3=>k_is)
  (case z4=>k_is)
  (case z5=>k_is)
  (case z6=>k_is)
  (case z7=>k_is)
  (case z8=>k_is)
  (case z9=>k_is)
  (case Ua=>k_is)
  (case Qu=>k_is)
  (case Qv=>k_is)
  (case z13=>k_is)
  (case q0=>kernel_rfl)
  (case q1=>kernel_rfl)
  (case q2=>kernel_rfl)
  (case q3=>kernel_rfl)
  (case q4=>kernel_rfl)
  (case q5=>kernel_rfl)
  (case q6=>kernel_rfl)
  (case q7=>kernel_rfl)
  (case q8=>kernel_rfl)
  (case q9=>kernel_rfl)
  (case q10=>kernel_rfl)
  (case q11=>kernel_rfl)
  (case q12=>kernel_rfl)
  (case q13=>kernel_rfl)
  (case q14=>kernel_rfl)
  (case q15=>kernel_rfl)
  (case q16=>kernel_rfl)
  (case q17=>kernel_rfl)
  (case q18=>kernel_rfl)
  (case q19=>kernel_rfl)
  (case q20=>kernel_rfl)
  (case q21=>kernel_rfl)
  (case q22=>kernel_rfl)
  (case q23=>kernel_rfl)
  (case q24=>kernel_rfl)
  (case q25=>kernel_rfl)
  (case q26=>kernel_rfl)
  (case q27=>kernel_rfl)
  (case q28=>kernel_rfl)
  (case q29=>kernel_rfl)
  (case q30=>kernel_rfl)
  (case q31=>kernel_rfl)
  (case q32=>kernel_rfl)
  (case q33=>kernel_rfl)
  (case q34=>kernel_rfl)
  (case q35=>kernel_rfl)
  (case q36=>kernel_rfl)
  (case q37=>kernel_rfl)
  (case q38=>kernel_rfl)
  (case q39=>kernel_rfl)
  (case q40=>kernel_rfl)
  (case q41=>kernel_rfl)
  (case q42=>kernel_rfl)
  (case q43=>kernel_rfl)
  (case q44=>kernel_rfl)
  (case q45=>kernel_rfl)
  (case q46=>kernel_rfl)
  (case q47=>kernel_rfl)
  (case q48=>kernel_rfl)
  (case q49=>kernel_rfl)
  (case q50=>kernel_rfl)
  (case q51=>kernel_rfl)
  (case q52=>kernel_rfl)
  (case q53=>kernel_rfl)
  (case q54=>kernel_rfl)
