import PyProof.Rows.All
import Wide.All
import OpenK.AllK
import Wide.FinOn
import Lean
import PyProof.EqAt
import PyProof.EqKinds
import PyProof.TupleCall
import PySem.Challenge.RW_shadowpost_k35_lit_refused
set_option Elab.async false
set_option linter.all false
set_option maxRecDepth 100000
set_option maxHeartbeats 4000000
namespace L2
open PySem PySem.Spec PyProof.Rows
abbrev Key:=Sum Int Str
def Ue:Key→Value→Bool
 | .inl k,v=>Value.isInt k v
 | .inr x,v=>Value.isStrOf x v
def Zkb(w:World):Key→Int
 | .inl k=>hashInt k
 | .inr x=>hashStr w x
theorem š:∀{k:Key} {v:Value},Ue k v=true→(∃i t,k=Sum.inl i∧v=Value.int i t)∨(∃x t,k=Sum.inr x∧v=Value.str x t)
 | .inl i,v,h=>by
   obtain⟨t,e⟩:=Value.isInt_shape (k:=i) (v:=v) h
   exact .inl ⟨i,t,rfl,e⟩
 | .inr x,v,h=>by
   obtain⟨t,e⟩:=Value.isStrOf_shape (x:=x) (v:=v) h
   exact .inr ⟨x,t,rfl,e⟩
theorem Wq(a b:Int):decide ((Sum.inl a:Key)=Sum.inl b)=(a== b):=by
 by_cases e:a=b
 ·subst e;simp
 ·have h:¬(Sum.inl a:Key)=Sum.inl b:=fun q=>e (Sum.inl.inj q)
  rw[decide_eq_false h]
  exact(beq_eq_false_iff_ne.mpr e).symm
theorem Wr(a b:Str):decide ((Sum.inr a:Key)=Sum.inr b)=decide (a=b):=by
 by_cases e:a=b
 ·subst e;simp
 ·have h:¬(Sum.inr a:Key)=Sum.inr b:=fun q=>e (Sum.inr.inj q)
  rw[decide_eq_false h,decide_eq_false e]
theorem Ws(a:Int)(b:Str):decide ((Sum.inl a:Key)=Sum.inr b)=false:=decide_eq_false (fun q=>nomatch q)
theorem Wt(a:Str)(b:Int):decide ((Sum.inr a:Key)=Sum.inl b)=false:=decide_eq_false (fun q=>nomatch q)
def tK(prog:Program)(w:World):PySem.KeyKind prog w Key where
 is:=Ue
 hash:=Zkb w
 inj:=fun v a b ha hb=>by
  rcases š ha with⟨i,t,rfl,rfl⟩|⟨x,t,rfl,rfl⟩
  ·rcases š hb with⟨j,u,rfl,e⟩|⟨y,u,rfl,e⟩
   ·injection e with e1 _;rw[e1]
   ·exact nomatch e
  ·rcases š hb with⟨j,u,rfl,e⟩|⟨y,u,rfl,e⟩
   ·exact nomatch e
   ·injection e with e1 _;rw[e1]
 byValue:=fun k v h=>by
  rcases š h with⟨i,t,rfl,rfl⟩|⟨x,t,rfl,rfl⟩<;>rfl
 pyHash:=fun hv h=>by
  rcases š hv with⟨i,t,rfl,rfl⟩|⟨x,t,rfl,rfl⟩
  ·exact wpAny_pyHash_int h
  ·exact wpAny_pyHash_str h
 eqBool:=fun hu hv h=>by
  rcases š hu with⟨i,t,rfl,rfl⟩|⟨x,t,rfl,rfl⟩
  ·rcases š hv with⟨j,u,rfl,rfl⟩|⟨y,u,rfl,rfl⟩
   ·rw[Wq] at h;exact wpAny_eqBool_int h
   ·rw[Ws] at h;exact SeqAt.EqAt.int_str i t y u _ _ _ _ h
  ·rcases š hv with⟨j,u,rfl,rfl⟩|⟨y,u,rfl,rfl⟩
   ·rw[Wt] at h;exact SeqAt.EqAt.str_int x t j u _ _ _ _ h
   ·rw[Wr] at h;exact wpAny_eqBool_str h
 «strs» := fun k x t v h=>by
   rcases š h with⟨i,u,rfl,e⟩|⟨y,u,rfl,e⟩
   ·exact nomatch e
   ·injection e with e1 _
    subst e1
    cases v<;>rfl
end L2
namespace L2
open PySem PySem.Spec PyProof.Rows
inductive V where
 |non|bl (b:Bool)|int (i:Int)|str (x:Str)|Ug (b:Array UInt8)|flt (b:UInt64)|ref (a:Addr)|ty (n:String)
 deriving DecidableEq
def RelV:V→Value→Prop
 | .non,u=>u=Value.none
 | .bl b,u=>u=Value.bool b
 | .int i,u=>∃t,u=Value.int i t
 | .str x,u=>∃t,u=Value.str x t
 | .Ug b,u=>∃t,u=Value.bytes b t
 | .flt b,u=>∃t,u=Value.float b t
 | .ref a,u=>u=Value.ref a
 | .ty n,u=>u=Value.type n
abbrev Vals:List V→List Value→Prop:=Paired RelV
theorem Vals.length{xs:List V}{us:List Value}(r:Vals xs us):xs.length=us.length:=Paired.length r
theorem Vals.get:∀{xs:List V} {us:List Value} {i:Nat} {x:V},Vals xs us→xs[i]?=some x→∃u,us[i]?=some u∧RelV x u
 |_,_,_,_,.nil,e=>by simp at e
 |_,_,0,_,.cons r _,e=>by simp at e;subst e;exact⟨_,rfl,r⟩
 |_,_,i+1,x,.cons _ t,e=>by
  obtain⟨u,h1,h2⟩:=Vals.get (i:=i) (x:=x) t (by simpa using e)
  exact⟨u,by simpa using h1,h2⟩
theorem Vals.set{x:V}{u:Value}(r:RelV x u):∀{xs:List V} {us:List Value} (i:Nat),Vals xs us→Vals (xs.set i x) (us.set i u)
 |_,_,_,.nil=>.nil
 |_,_,0,.cons _ t=>.cons r t
 |_,_,i+1,.cons q t=>.cons q (Vals.set r i t)
theorem Vals.append:∀{xs ys:List V} {us ws:List Value},Vals xs us→Vals ys ws→Vals (xs++ys) (us++ws)
 |_,_,_,_,.nil,s=>s
 |_,_,_,_,.cons r t,s=>.cons r (Vals.append t s)
theorem Vals.take:∀{xs:List V} {us:List Value} (n:Nat),Vals xs us→Vals (xs.take n) (us.take n)
 |_,_,0,_=>.nil
 |_,_,_+1,.nil=>.nil
 |_,_,n+1,.cons r t=>.cons r (Vals.take n t)
theorem Vals.drop:∀{xs:List V} {us:List Value} (n:Nat),Vals xs us→Vals (xs.drop n) (us.drop n)
 |_,_,0,r=>r
 |_,_,_+1,.nil=>.nil
 |_,_,n+1,.cons _ t=>Vals.drop n t
def jw:Option V→Option Value→Prop
 |some v,some u=>RelV v u
 |none,none=>True
 |_,_=>False
def KV{κ:Type}:List (κ×V)→List (κ×Value)→Prop:=Paired fun(p:κ×V) (q:κ×Value)=>p.1=q.1∧RelV p.2 q.2
def kV:Key→V
 | .inl i=>.int i
 | .inr x=>.str x
inductive HO where
 /-- a list -/
 |lst (xs:List V)
 /-- a tuple (never changes) -/
 |tup (xs:List V)
 /-- a dict whose keys are ints and texts;one whose keys are tuples of ints and texts (the empty one is both) -/
 |dK (kvs:List (Key×V))|dT (kvs:List (List Key×V))
 /-- a set of ints:its members,its size -/
 |set (S:Int→Bool) (n:Nat)
 /-- an instance of the class at C,its dict at dx,its attributes -/
 |ins (C dx:Addr) (fs:List (Str×V))
 /-- the dict of the instance at x -/
 |own (x:Addr)
 /-- the dict of an exception -/
 |xd (fs:List (Str×V))
 /-- a bound method,f of x -/
 |met (f x:Addr)
 /-- a range object lo,lo+1,.. below hi -/
 |rng (lo hi:Int)
 /-- a thing that is known to the object (the script;a dict while a loop walks it):read,never written while it is so -/
 |dw (o:Obj) (u:HO)
 /-- a code object's table -/
 |qp (ps:Array Value)
 /-- any other thing,by what is true of its one object (a def of one's own:Zo7 a S n:=HO.ext fun h=>..) -/
 |ext (φ:Heap→Prop)
abbrev Hp:=Addr→Option HO
def upd(H:Hp)(a:Addr)(o:HO):Hp:=fun b=>if b=a then some o else H b
theorem Ĩ{H:Hp}{a:Addr}{o:HO}:upd H a o a=some o:=by unfold upd;rw[if_pos rfl]
theorem Ĝ{H:Hp}{a b:Addr}{o:HO}(h:b≠a):upd H a o b=H b:=by unfold upd;rw[if_neg h]
theorem ĩ{H:Hp}{a b:Addr}{o:HO}(h:H a=some o)(h':H b=none):a≠b:=by
 intro e;subst e;rw[h] at h';cases h'
section
variable(P:Program)(w:World)
def Ţ(H:Hp)(h:Heap)(a:Addr):HO→Prop
 | .lst xs=>xs.length≤sizeLine∧∃(its:List Value) (n:Nat),Vals xs its∧h.get? a=some {cls:=.type "list",data:=.seq its.toArray n}
 | .tup xs=>xs.length≤sizeLine∧∃its:List Value,Vals xs its∧IsTup h a its.toArray
 | .dK kvs=>kvs.length≤sizeLine∧(a== sysModules)=false∧∃vs,KV kvs vs∧h.DictOf (tK P w) a vs
 | .dT kvs=>kvs.length≤sizeLine∧(a== sysModules)=false∧∃xs:List (List Key×Addr×Value),
     Paired (fun(p:List Key×V) (q:List Key×Addr×Value)=>p.1=q.1∧H q.2.1=some (.tup (p.1.map kV))∧RelV p.2 q.2.2) kvs xs∧
     ∃o es ep,h.get? a=some o∧o.ExactDict∧o.data=.dict es ep∧es.toList=xs.map (entryOfKey (tupleKind (tK P w)))∧(xs.map (·.1)).Nodup
 | .set S n=>h.SetOf (intKind P w) a S n
 | .ins C dx fs=>H dx=some (.own a)∧fs.length≤1000∧dx≠a∧h.get? a=some (PySem.W.instObj C dx)∧
     ∃mA,h.Ns1 dx mA∧(∀f,jw (fs.lookup f) (mA f))∧PySem.Within mA (fs.map (·.1))
 | .own _=>∃o,h.get? a=some o
 | .xd fs=>∃mA,h.Ns1 a mA∧∀f,jw (fs.lookup f) (mA f)
 | .rng lo hi=>∃t u v,h.get? a=some {cls:=.type "range",data:=.fields #[.int lo t,.int hi u,.int 1 v]}
 | .dw o u=>h.get? a=some o∧Ţ H h a u
 | .qp ps=>h.get? a=some {cls:=.none,data:=.fields ps}
 | .met f x=>h.get? a=some (PySem.W.methodObj (.ref f) (.ref x))
 | .ext φ=>φ h∧(∃o,h.get? a=some o)∧∀h1 h2:Heap,φ h1→(∀o,h1.get? a=some o→h2.get? a=some o)→φ h2
def dz(H:Hp)(h:Heap):Prop:=∀a o,H a=some o→Ţ P w H h a o
end
section
variable{P:Program}{w:World}{H H':Hp}{h h':Heap}{a:Addr}{o:HO}
theorem Ţ.lt(x:Ţ P w H h a o):a<h.objs.size:=by
 cases o with
 |lst xs=>obtain⟨_,_,_,_,e⟩:=x;exact Heap.lt_size e
 |tup xs=>obtain⟨_,_,_,p⟩:=x;exact p.lt
 |dK kvs=>obtain⟨_,_,_,_,o,_,_,e,_⟩:=x;exact Heap.lt_size e
 |dT kvs=>obtain⟨_,_,_,_,o,_,_,e,_⟩:=x;exact Heap.lt_size e
 |set S n=>obtain⟨o,_,_,_,e,_⟩:=x;exact Heap.lt_size e
 |ins C dx fs=>obtain⟨_,_,_,e,_⟩:=x;exact Heap.lt_size e
 |own y=>obtain⟨_,e⟩:=x;exact Heap.lt_size e
 |xd fs=>obtain⟨_,⟨_,_,_,e,_⟩,_⟩:=x;exact Heap.lt_size e
 |rng lo hi=>obtain⟨_,_,_,e⟩:=x;exact Heap.lt_size e
 |dw ob u=>obtain⟨e,_⟩:=x;exact Heap.lt_size e
 |qp ps=>exact Heap.lt_size (show h.get? a=some _ from x)
 |met f y=>exact Heap.lt_size (show h.get? a=some _ from x)
 |ext φ=>obtain⟨_,⟨_,e⟩,_⟩:=x;exact Heap.lt_size e
theorem Paired.Zcv{α β:Type}{F G:α→β→Prop}:∀{l₁:List α} {l₂:List β},Paired F l₁ l₂→(∀a b,F a b→G a b)→Paired G l₁ l₂
 |_,_,.nil,_=>.nil
 |_,_,.cons r t,f=>.cons (f _ _ r) (Paired.Zcv t f)
theorem Ţ.stay(x:Ţ P w H h a o)(k:∀b u,(b=a∨H b=some (.own a))→h.get? b=some u→h'.get? b=some u)
 (ho:∀b,H b=some (.own a)→H' b=some (.own a))(ht:∀b xs,H b=some (.tup xs)→H' b=some (.tup xs)):Ţ P w H' h' a o:=by
 induction o with
 |lst xs=>obtain⟨z,its,n,r,e⟩:=x;exact⟨z,its,n,r,k _ _ (.inl rfl) e⟩
 |tup xs=>obtain⟨z,its,r,ob,e,c⟩:=x;exact⟨z,its,r,ob,k _ _ (.inl rfl) e,c⟩
 |dK kvs=>obtain⟨z,y,vs,r,ob,es,ep,e,c⟩:=x;exact⟨z,y,vs,r,ob,es,ep,k _ _ (.inl rfl) e,c⟩
 |dT kvs=>
  obtain⟨z,y,xs,r,ob,es,ep,e,c⟩:=x
  exact⟨z,y,xs,Paired.Zcv r fun p q z=>⟨z.1,ht _ _ z.2.1,z.2.2⟩,ob,es,ep,k _ _ (.inl rfl) e,c⟩
 |set S n=>obtain⟨ob,es,ep,t,e,c⟩:=x;exact⟨ob,es,ep,t,k _ _ (.inl rfl) e,c⟩
 |ins C dx fs=>
  obtain⟨d,z,ne,e,mA,⟨od,es,ep,e2,c⟩,r⟩:=x
  exact⟨ho _ d,z,ne,k _ _ (.inl rfl) e,mA,⟨od,es,ep,k _ _ (.inr d) e2,c⟩,r⟩
 |own y=>obtain⟨ob,e⟩:=x;exact⟨ob,k _ _ (.inl rfl) e⟩
 |xd fs=>obtain⟨mA,⟨od,es,ep,e,c⟩,r⟩:=x;exact⟨mA,⟨od,es,ep,k _ _ (.inl rfl) e,c⟩,r⟩
 |rng lo hi=>obtain⟨t,u,v,e⟩:=x;exact⟨t,u,v,k _ _ (.inl rfl) e⟩
 |dw ob u ih=>obtain⟨e,q⟩:=x;exact⟨k _ _ (.inl rfl) e,ih q⟩
 |qp ps=>
  have e:h.get? a=some {cls:=.none,data:=.fields ps}:=x
  show h'.get? a=some {cls:=.none,data:=.fields ps}
  exact k a _ (.inl rfl) e
 |met f y=>
  have e:h.get? a=some (PySem.W.methodObj (.ref f) (.ref y)):=x
  show h'.get? a=some (PySem.W.methodObj (.ref f) (.ref y))
  exact k a _ (.inl rfl) e
 |ext φ=>obtain⟨p,⟨o,e⟩,st⟩:=x;exact⟨st _ _ p fun o q=>k _ _ (.inl rfl) q,⟨o,k _ _ (.inl rfl) e⟩,st⟩
theorem dz.lt(x:dz P w H h)(e:H a=some o):a<h.objs.size:=(x a o e).lt
theorem dz.fresh(x:dz P w H h)(e:h.objs.size≤a):H a=none:=by
 cases q:H a with
 |none=>rfl
 |some u=>exact absurd (Nat.lt_of_lt_of_le (x.lt q) e) (Nat.lt_irrefl _)
theorem dz.kept(x:dz P w H h)(k:∀b u,h.get? b=some u→h'.get? b=some u):dz P w H h':=fun a o e=>
 (x a o e).stay (fun b u _ q=>k b u q) (fun _ q=>q) fun _ _ q=>q
theorem dz.laid(x:dz P w H h)(k:∀b u,h.get? b=some u→h'.get? b=some u)(hp:h.objs.size≤a)(new:Ţ P w (upd H a o) h' a o):dz P w (upd H a o) h':=fun b u e=>by
 have hn:=x.fresh hp
 by_cases hb:b=a
 ·subst hb;rw[Ĩ] at e;cases e;exact new
 ·rw[Ĝ hb] at e
  exact(x b u e).stay (fun c v _ q=>k c v q) (fun c q=>by rw[Ĝ (ĩ q hn)];exact q) fun c xs q=>by rw[Ĝ (ĩ q hn)];exact q
end
def Rd(H:Hp)(a:Addr)(u:HO):Prop:=H a=some u∨∃o,H a=some (.dw o u)
theorem Rd.ok{P:Program}{w:World}{H:Hp}{h:Heap}{a:Addr}{u:HO}(r:Rd H a u)(x:dz P w H h):Ţ P w H h a u:=by
 rcases r with r|⟨o,r⟩
 ·exact x a u r
 ·obtain⟨_,q⟩:=x a _ r
  exact q
def Mut:Option HO→Prop
 |some (.lst _)=>True
 |some (.dK _)=>True
 |some (.dT _)=>True
 |some (.set _ _)=>True
 |some (.ins _ _ _)=>True
 |some (.ext _)=>True
 |some (.xd _)=>True
 |_=>False
section
variable{P:Program}{w:World}{H:Hp}{h h':Heap}{x e:Addr}{o':HO}
theorem dz.write(ok:dz P w H h)(mu:Mut (H x))(he:e=x∨H e=some (.own x))(k:∀b u,b≠e→h.get? b=some u→h'.get? b=some u)(heo:∃u,h'.get? e=some u)
 (new:Ţ P w (upd H x o') h' x o'):dz P w (upd H x o') h':=fun b u q=>by
 have Zcw:∀c y,H c=some (.own y)→c≠x:=fun c y r z=>by subst z;rw[r] at mu;exact mu
 have Zkc:∀c xs,H c=some (.tup xs)→c≠x:=fun c xs r z=>by subst z;rw[r] at mu;exact mu
 by_cases hb:b=x
 ·subst hb;rw[Ĩ] at q;cases q;exact new
 ·rw[Ĝ hb] at q
  by_cases hbe:b=e
  ·have q':H b=some (.own x):=by
    rcases he with z|z
    ·exact absurd (hbe.trans z) hb
    ·rw[hbe];exact z
   rw[q] at q';cases q'
   obtain⟨v,hv⟩:=heo
   exact⟨v,by rw[hbe];exact hv⟩
  ·refine(ok b u q).stay (fun c v hc r=>k c v ?_ r) (fun c r=>by rw[Ĝ (Zcw c b r)];exact r) fun c xs r=>by rw[Ĝ (Zkc c xs r)];exact r
   rcases hc with rfl|hc
   ·exact hbe
   ·rintro rfl
    rcases he with z|z
    ·exact Zcw c b hc z
    ·rw[hc] at z;cases z;exact hb rfl
end
structure Un(fs ex:List Addr)(H H':Hp)(h h':Heap):Prop where
 keep:∀b o,h.get? b=some o→H b=none→b∉fs→b∉ex→h'.get? b=some o
 slot:∀b o,h.get? b=some o→H b=none→b∈fs→b∉ex→∃sl,h'.get? b=some {o with slots:=sl}
 free:∀b o,h.get? b=some o→H b=none→b∉ex→H' b=none
 there:∀b o,h.get? b=some o→b∉ex→∃o',h'.get? b=some o'
 tups:∀b xs,H b=some (.tup xs)→H' b=some (.tup xs)
 dY:∀b o u,H b=some (.dw o u)→H' b=some (.dw o u)
 fU:∀b ps,H b=some (.qp ps)→∃more,H' b=some (.qp (ps++more))
section
variable{fs fs' ex ex':List Addr}{H H1 H2:Hp}{h h1 h2 h':Heap}{a x e:Addr}{o:HO}
theorem Un.any(u:Un fs ex H H1 h h1){b:Addr}{ob:Obj}(q:h.get? b=some ob)(n:H b=none)(hx:b∉ex):∃sl,h1.get? b=some {ob with slots:=sl}:=by
 by_cases hb:b∈fs
 ·exact u.slot b ob q n hb hx
 ·exact⟨ob.slots,u.keep b ob q n hb hx⟩
theorem Un.kept(k:∀b u,h.get? b=some u→h'.get? b=some u):Un fs ex H H h h':=
 ⟨fun b ob q _ _ _=>k b ob q,fun b ob q _ _ _=>⟨ob.slots,k b ob q⟩,fun _ _ _ n _=>n,fun b ob q _=>⟨ob,k b ob q⟩,fun _ _ q=>q,fun _ _ _ q=>q,fun _ ps q=>⟨#[],by rw[q];simp⟩⟩
theorem Un.refl:Un fs ex H H h h:=Un.kept fun _ _ q=>q
theorem Un.laid(k:∀b u,h.get? b=some u→h'.get? b=some u)(hp:h.objs.size≤a)(hn:H a=none):Un fs ex H (upd H a o) h h' where
 keep:=fun b u q _ _ _=>k b u q
 slot:=fun b u q _ _ _=>⟨u.slots,k b u q⟩
 free:=fun b u q n _=>by rw[Ĝ (Nat.ne_of_lt (Nat.lt_of_lt_of_le (Heap.lt_size q) hp))];exact n
 there:=fun b u q _=>⟨u,k b u q⟩
 tups:=fun b xs q=>by rw[Ĝ (ĩ q hn)];exact q
 dY:=fun b u xs q=>by rw[Ĝ (ĩ q hn)];exact q
 fU:=fun b ps q=>⟨#[],by rw[Ĝ (ĩ q hn),q];simp⟩
theorem Un.write(mu:Mut (H x))(he:e=x∨H e=some (.own x))(k:∀b u,b≠e→h.get? b=some u→h'.get? b=some u)(heo:∃u,h'.get? e=some u):Un fs ex H (upd H x o) h h':=by
 have hx:∀b,H b=none→b≠x:=fun b n z=>by subst z;rw[n] at mu;exact mu
 have hb:∀b,H b=none→b≠e:=fun b n z=>by
  subst z
  rcases he with r|r
  ·exact hx b n r
  ·rw[n] at r;cases r
 have hm:∀b u,H b=some u→¬Mut (some u)→b≠x:=fun b u q nm z=>by subst z;rw[q] at mu;exact nm mu
 refine⟨fun b u q n _ _=>k b u (hb b n) q,fun b u q n _ _=>⟨u.slots,k b u (hb b n) q⟩,fun b u q n _=>by rw[Ĝ (hx b n)];exact n,fun b u q _=>?_,
  fun b xs q=>by rw[Ĝ (hm b _ q fun z=>z)];exact q,fun b u xs q=>by rw[Ĝ (hm b _ q fun z=>z)];exact q,fun b ps q=>⟨#[],by rw[Ĝ (hm b _ q fun z=>z),q];simp⟩⟩
 by_cases hbe:b=e
 ·subst hbe;exact heo
 ·exact⟨u,k b u hbe q⟩
end
def trk(h:Heap)(H:Hp):List Addr:=(List.range h.objs.size).filter fun a=>(H a).isSome
def tM(h:Heap)(H:Hp):Heap:=PySem.W.hideAll h (trk h H)
theorem Eo(h:Heap)(H:Hp):(tM h H).objs.size=h.objs.size:=PySem.W.hideAll_size _ _
theorem Gy{h:Heap}{H:Hp}{b:Addr}{o:Obj}(e:h.get? b=some o)(n:H b=none):(tM h H).get? b=some o:=
 PySem.W.hideAll_get _ e fun hm=>by
  have q:(H b).isSome=true:=(List.mem_filter.mp hm).2
  rw[n] at q;simp at q
theorem QL{h:Heap}{H:Hp}{b:Addr}{o:Obj}(e:(tM h H).get? b=some o):h.get? b=some o∧H b=none:=by
 have e':h.get? b=some o:=PySem.W.of_hideAll (trk h H) e
 refine⟨e',?_⟩
 cases q:H b with
 |none=>rfl
 |some x=>
  have hm:b∈trk h H:=List.mem_filter.mpr ⟨List.mem_range.mpr (Heap.lt_size e'),by simp[q]⟩
  have z:(tM h H).get? b=none:=PySem.W.hideAll_none (trk h H) hm
  rw[z] at e;cases e
def QM(g h:Heap)(L:Addr):List (Addr×Obj):=(List.range h.objs.size).filterMap fun a=>if a=L∨(g.get? a).isSome=true then none else(h.get? a).map fun o=>(a,o)
def rest(g h:Heap)(L d:Addr):List (Addr×Obj):=(QM g h L).filter fun p=>decide (p.1≠d)
end L2
namespace L2
open PySem PySem.Spec PyProof.Rows
structure Mod(K:PySem.W.Frag)(mg:Str→Option Value)(base:Heap):Prop where
 kin:K.In base
 glob:base.Ns mainGlobals mg
 blt:∃mb,base.Ns builtinsNs mb∧∀x:Str,x≠ "__name__" →mb x=bootBuiltins x
 nolimit:base.NoLimit
structure Cx where
 prog:Program
 w:World
 K:PySem.W.Frag
 mg:Str→Option Value
 base:Heap
 A:Around
 N:List Str
 s₀:Shared
 H₀:Hp
 env:Env
 outer:List Env
 stack:List Env
 ex:List Addr
 fn:Str→Bool
 calm:Bool
 pn:List (Addr×Obj)
 xe:Value→Shared→Prop
def frs(l:List Env):List Addr:=l.filterMap (·.frame)
abbrev Cx.fs(X:Cx):List Addr:=frs X.outer
def Gu(sc:Scope)(x:Str):Prop:=sc.names.lookup x=some .local∨sc.names.lookup x=some .cell∨sc.names.lookup x=some .free
def Loc(sc:Scope)(x:Str):Prop:=sc.names.lookup x=some .local∨sc.names.lookup x=some .cell
def Look(env:Env)(h:Heap)(m:Str→Option Value)(x:Str)(u:Value):Prop:=
 (env.kindOf x=some .local∧m x=some u)∨((env.kindOf x=some .cell∨env.kindOf x=some .free)∧∃c,env.cells.lookup x=some c∧h.IsCell c (some u))
structure Cx.Ok(X:Cx):Prop where
 mod:Mod X.K X.mg X.base
 kind:X.env.scope.kind=.function
 glob:X.env.globals=mainGlobals
 blt:X.env.builtins=builtinsNs
 above:X.s₀.heap.objs.size≤X.env.locals
 inj:∀x y c,X.env.cells.lookup x=some c→X.env.cells.lookup y=some c→x=y
 has:∀x,(X.env.kindOf x=some .cell∨X.env.kindOf x=some .free)→∃c,X.env.cells.lookup x=some c
 cab:∀x c,X.fn x=true→X.env.cells.lookup x=some c→X.s₀.heap.objs.size≤c
 hd:X.calm=true→X.A.handled=none
 frames:X.A.frames=some X.stack
 stk:X.stack=X.outer∨(X.stack=X.env::X.outer∧X.env.frame=some X.env.locals)
 exf:∀b∈X.ex,b≠X.env.locals∧∀x c,X.env.cells.lookup x=some c→c≠b
 bs:∀b o,X.base.get? b=some o→X.s₀.heap.get? b=some o∧X.H₀ b=none
 Ep:X.base.objs.size≤X.s₀.heap.objs.size
 qy:∀b o,X.base.get? b=some o→b∉X.ex
 wz:∀b∈X.ex,b∉X.fs
 h_:X.s₀.heap.FunFrames X.base X.outer
 Gz:∀b∈X.fs,X.H₀ b=none
structure Inv(X:Cx)(pins:List (Addr×Obj))(σ:List (Option V))(H:Hp)(s:Shared):Prop where
 ok:X.Ok
 os:s.os=X.s₀.os
 bare:AllBare s.gens
 base:Un X.fs X.ex X.H₀ H X.s₀.heap s.heap
 loc:∃m,s.heap.Ns X.env.locals m∧∀(i:Nat) (x:Str) (v:V),X.N[i]?=some x→σ[i]?=some (some v)→Gu X.env.scope x→∃u,RelV v u∧Look X.env s.heap m x u
 cell:∀x c,X.env.cells.lookup x=some c→∃v,s.heap.IsCell c v
 free:H X.env.locals=none
 bZ:∀x c,X.env.cells.lookup x=some c→H c=none
 pin:∀p∈X.pn++pins,s.heap.get? p.1=some p.2∧H p.1=none∧p.1≠X.env.locals∧p.1∉X.fs∧∀v,p.2.data≠ .cell v
 hok:dz X.prog X.w H s.heap
 len:σ.length=X.N.length
section
variable{X:Cx}{pins:List (Addr×Obj)}{σ:List (Option V)}{H H':Hp}{s:Shared}{h':Heap}
theorem Cx.Ok.Zkd(ok:X.Ok){b:Addr}{o:Obj}(e:X.base.get? b=some o):b∉X.fs:=fun hb=>by
 have:=(ok.h_.mem hb).1
 rw[e] at this;cases this
theorem Inv.bs(I:Inv X pins σ H s):∀b o,X.base.get? b=some o→s.heap.get? b=some o∧H b=none:=fun b o e=>
 ⟨I.base.keep b o (I.ok.bs b o e).1 (I.ok.bs b o e).2 (I.ok.Zkd e) (I.ok.qy b o e),I.base.free b o (I.ok.bs b o e).1 (I.ok.bs b o e).2 (I.ok.qy b o e)⟩
theorem Inv.bk(I:Inv X pins σ H s):∀b o,X.base.get? b=some o→s.heap.get? b=some o:=fun b o e=>(I.bs b o e).1
theorem Inv.mod(I:Inv X pins σ H s):Mod X.K X.mg X.base:=I.ok.mod
theorem Inv.dZ(I:Inv X pins σ H s):X.K.In s.heap:=I.ok.mod.kin.keeps I.bk
theorem Inv.lt(I:Inv X pins σ H s):X.env.locals<s.heap.objs.size:=let ⟨_,hn,_⟩:=I.loc;hn.lt
theorem Inv.sz(I:Inv X pins σ H s):X.s₀.heap.objs.size≤s.heap.objs.size:=Nat.le_trans I.ok.above (Nat.le_of_lt I.lt)
theorem Inv.Zke(I:Inv X pins σ H s){a:Addr}(h:s.heap.objs.size≤a):a∉X.fs:=fun hb=>by
 obtain⟨_,o,ho,_⟩:=I.ok.h_.mem hb
 exact absurd (Nat.lt_of_lt_of_le (Heap.lt_size ho) (Nat.le_trans I.sz h)) (Nat.lt_irrefl _)
theorem Inv.QS(I:Inv X pins σ H s):∀x c,X.env.cells.lookup x=some c→c≠X.env.locals:=fun x c e z=>by
 obtain⟨v,o,ho,hd⟩:=I.cell x c e
 obtain⟨m,⟨o',es,ep,ho',hd',_⟩,_⟩:=I.loc
 rw[z,ho'] at ho;cases ho;rw[hd'] at hd;cases hd
theorem Inv.h_(I:Inv X pins σ H s):s.heap.FunFrames X.base X.outer:=by
 have all:∀(l:List Env),(∀b∈frs l,b∈X.fs)→X.s₀.heap.FunFrames X.base l→s.heap.FunFrames X.base l:=by
  intro l
  induction l with
  |nil=>intro _ _;trivial
  |cons env r ih=>
   intro hs hl
   obtain⟨hk,⟨L,o,hf,hn,ho,hd⟩,hr⟩:=hl
   have hL:L∈X.fs:=hs L (by unfold frs;rw[List.filterMap_cons,hf];exact List.mem_cons_self)
   obtain⟨sl,e⟩:=I.base.slot L o ho (I.ok.Gz L hL) hL fun z=>I.ok.wz L z hL
   exact⟨hk,⟨L,_,hf,hn,e,hd⟩,ih (fun b hb=>hs b (by unfold frs;rw[List.filterMap_cons,hf];exact List.mem_cons_of_mem _ hb)) hr⟩
 exact all X.outer (fun _ hb=>hb) I.ok.h_
theorem Inv.stack(I:Inv X pins σ H s):s.heap.FunFrames X.base X.stack:=by
 rcases I.ok.stk with e|⟨e,hf⟩
 ·rw[e];exact I.h_
 ·rw[e]
  obtain⟨m,hn,_⟩:=I.loc
  refine .cons (by rw[I.ok.kind];decide) hf hn ?_ I.h_
  exact Heap.get?_none_of_le (Nat.le_trans I.ok.Ep I.ok.above)
theorem Inv.nQ(I:Inv X pins σ H s):∀b∈frs X.stack,b∈X.env.locals::X.fs:=fun b hb=>by
 rcases I.ok.stk with e|⟨e,hf⟩
 ·rw[e] at hb;exact List.mem_cons_of_mem _ hb
 ·rw[e] at hb
  unfold frs at hb
  rw[List.filterMap_cons,hf] at hb
  exact hb
theorem Inv.tQ(I:Inv X pins σ H s):∀b∈frs X.stack,H b=none:=fun b hb=>by
 rcases List.mem_cons.mp (I.nQ b hb) with e|hb
 ·rw[e];exact I.free
 ·obtain⟨_,o,ho,_⟩:=I.ok.h_.mem hb
  exact I.base.free b o ho (I.ok.Gz b hb) fun z=>I.ok.wz b z hb
theorem Inv.step{g':Array GenState}{t':Nat}{d':Drawn}{ch:List Addr}(I:Inv X pins σ H s)
 (hch:∀b∈ch,(b∈X.ex∨X.s₀.heap.objs.size≤b)∧b≠X.env.locals∧(∀x c,X.env.cells.lookup x=some c→c≠b)∧∀p∈X.pn++pins,p.1≠b)
 (keep:∀b o,b≠X.env.locals→b∉X.fs→b∉ch→s.heap.get? b=some o→H b=none→h'.get? b=some o)
 (slot:∀b o,b≠X.env.locals→b∈X.fs→b∉ch→s.heap.get? b=some o→H b=none→∃sl,h'.get? b=some {o with slots:=sl})(free:∀b o,b∉ch→s.heap.get? b=some o→H b=none→H' b=none)
 (there:∀b o,b∉ch→s.heap.get? b=some o→∃o',h'.get? b=some o')
 (tups:∀b xs,H b=some (.tup xs)→H' b=some (.tup xs))(dY:∀b o u,H b=some (.dw o u)→H' b=some (.dw o u))(fU:∀b ps,H b=some (.qp ps)→∃more,H' b=some (.qp (ps++more)))
 (ns:∀m,s.heap.Ns X.env.locals m→h'.Ns X.env.locals m)(hok:dz X.prog X.w H' h')(hg:AllBare g') :
 Inv X pins σ H' {s with heap:=h',gens:=g',drawn:=d',toks:=t'}:=by
 have QC:∀b o,X.s₀.heap.get? b=some o→b≠X.env.locals:=fun b o e=>Nat.ne_of_lt (Nat.lt_of_lt_of_le (Heap.lt_size e) I.ok.above)
 have neC:∀b o,X.s₀.heap.get? b=some o→b∉X.ex→b∉ch:=fun b o e hx hb=>by
  rcases(hch b hb).1 with z|z
  ·exact hx z
  ·exact absurd (Nat.lt_of_lt_of_le (Heap.lt_size e) z) (Nat.lt_irrefl _)
 have cellK:∀x c,X.env.cells.lookup x=some c→∀v,s.heap.IsCell c v→h'.IsCell c v:=fun x c e v ⟨o,ho,hd⟩=>by
  have nch:c∉ch:=fun z=>(hch c z).2.2.1 x c e rfl
  by_cases hc:c∈X.fs
  ·obtain⟨sl,q⟩:=slot c o (I.QS x c e) hc nch ho (I.bZ x c e)
   exact⟨_,q,hd⟩
  ·exact⟨o,keep c o (I.QS x c e) hc nch ho (I.bZ x c e),hd⟩
 refine⟨I.ok,I.os,hg,⟨fun b o e n hb hx=>?_,fun b o e n hb hx=>?_,fun b o e n hx=>?_,fun b o e hx=>?_,fun b xs e=>tups b xs (I.base.tups b xs e),fun b o xs e=>dY b o xs (I.base.dY b o xs e),fun b ps e=>?_⟩,?_,fun x c e=>?_,?_,fun x c e=>?_,fun p hp=>?_,hok,I.len⟩
 ·exact keep b o (QC b o e) hb (neC b o e hx) (I.base.keep b o e n hb hx) (I.base.free b o e n hx)
 ·obtain⟨sl,e1⟩:=I.base.slot b o e n hb hx
  obtain⟨sl',e2⟩:=slot b _ (QC b o e) hb (neC b o e hx) e1 (I.base.free b o e n hx)
  exact⟨sl',e2⟩
 ·obtain⟨o',e1⟩:=I.base.there b o e hx
  exact free b o' (neC b o e hx) e1 (I.base.free b o e n hx)
 ·obtain⟨o',e1⟩:=I.base.there b o e hx
  exact there b o' (neC b o e hx) e1
 ·obtain⟨m1,e1⟩:=I.base.fU b ps e
  obtain⟨m2,e2⟩:=fU b _ e1
  exact⟨m1++m2,by rw[e2,Array.append_assoc]⟩
 ·obtain⟨m,hn,hl⟩:=I.loc
  refine⟨m,ns m hn,fun i x v e1 e2 e3=>?_⟩
  obtain⟨u,r,l⟩:=hl i x v e1 e2 e3
  refine⟨u,r,?_⟩
  rcases l with l|⟨k,c,e,z⟩
  ·exact .inl l
  ·exact .inr ⟨k,c,e,cellK x c e _ z⟩
 ·obtain⟨v,z⟩:=I.cell x c e
  exact⟨v,cellK x c e v z⟩
 ·obtain⟨m,⟨o,_,_,ho,_⟩,_⟩:=I.loc
  exact free _ o (fun z=>(hch _ z).2.1 rfl) ho I.free
 ·obtain⟨v,o,ho,hd⟩:=I.cell x c e
  exact free c o (fun z=>(hch c z).2.2.1 x c e rfl) ho (I.bZ x c e)
 ·obtain⟨e,n,ne,nf,d⟩:=I.pin p hp
  have nch:p.1∉ch:=fun z=>(hch p.1 z).2.2.2 p hp rfl
  exact⟨keep p.1 p.2 ne nf nch e n,free p.1 p.2 nch e n,ne,nf,d⟩
theorem Inv.un{t':Nat}(I:Inv X pins σ H s)(u:Un X.fs [] H H' s.heap h')(hok:dz X.prog X.w H' h'):Inv X pins σ H' {s with heap:=h',toks:=t'}:=by
 obtain⟨m,⟨o,es,ep,ho,r⟩,_⟩:=id I.loc
 obtain⟨sl,hL⟩:=u.any ho I.free (by simp)
 exact I.step (g':=s.gens) (d':=s.drawn) (ch:=[]) (fun _ z=>nomatch z) (fun b o _ hb _ e n=>u.keep b o e n hb (by simp)) (fun b o _ hb _ e n=>u.slot b o e n hb (by simp)) (fun b o _ e n=>u.free b o e n (by simp)) (fun b o _ e=>u.there b o e (by simp)) u.tups u.dY u.fU (fun m' hm=>by
  obtain⟨o',es',ep',ho',r'⟩:=hm
  rw[ho] at ho';cases ho'
  exact⟨_,es',ep',hL,r'⟩) hok I.bare
theorem Inv.call{g':Array GenState}{t':Nat}{d':Drawn}{ch:List Addr}(I:Inv X pins σ H s)(u:Un (frs X.stack) ch H H' s.heap h')(hok:dz X.prog X.w H' h')(hg:AllBare g')
 (hch:∀b∈ch,(b∈X.ex∨X.s₀.heap.objs.size≤b)∧b≠X.env.locals∧(∀x c,X.env.cells.lookup x=some c→c≠b)∧∀p∈X.pn++pins,p.1≠b) :
 Inv X pins σ H' {s with heap:=h',gens:=g',drawn:=d',toks:=t'}:=by
 obtain⟨m,⟨o,es,ep,ho,r⟩,_⟩:=id I.loc
 obtain⟨sl,hL⟩:=u.any ho I.free fun z=>(hch _ z).2.1 rfl
 exact I.step (ch:=ch) hch (fun b o hL hb hc e n=>u.keep b o e n (fun z=>(List.mem_cons.mp (I.nQ b z)).elim hL hb) hc) (fun b o _ _ hc e n=>u.any e n hc) (fun b o hc e n=>u.free b o e n hc) (fun b o hc e=>u.there b o e hc) u.tups u.dY u.fU (fun m' hm=>by
  obtain⟨o',es',ep',ho',r'⟩:=hm
  rw[ho] at ho';cases ho'
  exact⟨_,es',ep',hL,r'⟩) hok hg
theorem Inv.turned{t':Nat}{it:Addr}(I:Inv X pins σ H s)(k:∀b o,b≠it→s.heap.get? b=some o→h'.get? b=some o)(hn:H it=none)(hL:it≠X.env.locals)
 (h1:it∈X.ex∨X.s₀.heap.objs.size≤it)(h2:∀x c,X.env.cells.lookup x=some c→c≠it)(h3:∀p∈X.pn++pins,p.1≠it):Inv X pins σ H {s with heap:=h',toks:=t'}:=by
 have nit:∀b u,H b=some u→b≠it:=fun b u e z=>by rw[z,hn] at e;cases e
 refine I.step (g':=s.gens) (d':=s.drawn) (ch:=[it]) (fun b hb=>?_) (fun b o _ _ hc e _=>k b o (fun z=>hc (by simp[z])) e) (fun b o _ _ hc e _=>⟨o.slots,k b o (fun z=>hc (by simp[z])) e⟩) (fun _ _ _ _ n=>n)
  (fun b o hc e=>⟨o,k b o (fun z=>hc (by simp[z])) e⟩) (fun _ _ e=>e) (fun _ _ _ e=>e) (fun b ps e=>⟨#[],by rw[e];simp⟩) (fun m hm=>?_) (fun b u e=>?_) I.bare
 ·have e:b=it:=by simpa using hb
  subst e
  exact⟨h1,hL,h2,h3⟩
 ·obtain⟨o,es,ep,ho,r⟩:=hm
  exact⟨o,es,ep,k _ o (Ne.symm hL) ho,r⟩
 ·refine(I.hok b u e).stay (fun c v hc q=>k c v ?_ q) (fun _ q=>q) fun _ _ q=>q
  rcases hc with z|z
  ·rw[z];exact nit b u e
  ·exact nit c _ z
theorem Inv.tok(I:Inv X pins σ H s)(t:Nat):Inv X pins σ H {s with toks:=t}:=I.un (h':=s.heap) (t':=t) Un.refl I.hok
theorem Inv.kept{t':Nat}(I:Inv X pins σ H s)(k:∀b u,s.heap.get? b=some u→h'.get? b=some u):Inv X pins σ H {s with heap:=h',toks:=t'}:=I.un (Un.kept k) (I.hok.kept k)
theorem Inv.laid{a:Addr}{o:HO}{t':Nat}(I:Inv X pins σ H s)(k:∀b u,s.heap.get? b=some u→h'.get? b=some u)(hp:s.heap.objs.size≤a)(new:Ţ X.prog X.w (upd H a o) h' a o) :
 Inv X pins σ (upd H a o) {s with heap:=h',toks:=t'}:=I.un (Un.laid k hp (I.hok.fresh hp)) (I.hok.laid k hp new)
theorem Inv.write{x e:Addr}{o:HO}{t':Nat}(I:Inv X pins σ H s)(mu:Mut (H x))(he:e=x∨H e=some (.own x))(k:∀b u,b≠e→s.heap.get? b=some u→h'.get? b=some u)(heo:∃u,h'.get? e=some u)
 (new:Ţ X.prog X.w (upd H x o) h' x o):Inv X pins σ (upd H x o) {s with heap:=h',toks:=t'}:=I.un (Un.write mu he k heo) (I.hok.write mu he k heo new)
theorem Inv.Cw{nR:List (Addr×Obj)}(I:Inv X pins σ H s)(h:∀p∈nR,s.heap.get? p.1=some p.2∧H p.1=none∧p.1≠X.env.locals∧p.1∉X.fs∧∀v,p.2.data≠ .cell v):Inv X nR σ H s:=
 ⟨I.ok,I.os,I.bare,I.base,I.loc,I.cell,I.free,I.bZ,fun p hp=>(List.mem_append.mp hp).elim (fun z=>I.pin p (List.mem_append_left _ z)) (h p),I.hok,I.len⟩
theorem nT{N:List Str}(hN:N.Nodup){i j:Nat}{x:Str}(a:N[i]?=some x)(b:N[j]?=some x):i=j:=by
 obtain⟨h1,e1⟩:=List.getElem?_eq_some_iff.mp a
 obtain⟨h2,e2⟩:=List.getElem?_eq_some_iff.mp b
 exact(List.getElem_inj hN).mp (e1.trans e2.symm)
theorem qK{M:Model}{A:Around}{E:Value→Shared→Prop}{i:Nat}{x:Str}{v:V}{u:Value}{Q:Unit→Shared→Prop}(I:Inv X pins σ H s)(hN:X.N.Nodup)(hi:X.N[i]?=some x)(hx:Loc X.env.scope x)(r:RelV v u)
 (h:∀s',Inv X pins (σ.set i (some v)) H s'→(∃a,Heap.SameBut a s.heap s'.heap∧(a=X.env.locals∨X.env.cells.lookup x=some a))→Q () s')(hf:X.fn x=true∨X.env.scope.names.lookup x=some .local:=by first|exact .inl rfl|exact .inr rfl|assumption):wpAny M A (storeName X.env x u) Q E s:=by
 obtain⟨m,hn,hl⟩:=id I.loc
 have hcls:(X.env.scope.kind== .class || (X.env.scope.kind== .module && X.env.locals != X.env.globals))=false:=by rw[I.ok.kind];rfl
 have ZoO:i < σ.length:=by rw[I.len];exact(List.getElem?_eq_some_iff.mp hi).1
 have QS:=I.QS
 have tracked:∀{a:Addr} {h':Heap},(∃o,s.heap.get? a=some o∧H a=none)→Heap.SameBut a s.heap h'→dz X.prog X.w H h':=fun{a h'} ha hs b ob e=>by
  obtain⟨_,_,hfree⟩:=ha
  refine(I.hok b ob e).stay (fun c w' hc q=>(hs.2 c ?_).trans q) (fun _ q=>q) fun _ _ q=>q
  rintro rfl
  rcases hc with rfl|hc
  ·rw[hfree] at e;cases e
  ·rw[hfree] at hc;cases hc
 rcases hx with hk|hk
 ·refine wpAny_storeName_local hk hn (fun h' hn' hs=>?_) hcls
  obtain⟨oL,_,_,hoL,_⟩:=id hn
  refine h _ ⟨I.ok,I.os,I.bare,⟨fun b o e n hb hx=>?_,fun b o e n hb hx=>?_,I.base.free,fun b o e hx=>?_,I.base.tups,I.base.dY,I.base.fU⟩,⟨_,hn',fun j y v' e1 e2 e3=>?_⟩,fun y c e=>?_,I.free,I.bZ,fun p hp=>?_,tracked ⟨oL,hoL,I.free⟩ hs,by simpa using I.len⟩ ⟨_,hs,.inl rfl⟩
  ·exact(hs.2 b (Nat.ne_of_lt (Nat.lt_of_lt_of_le (Heap.lt_size e) I.ok.above))).trans (I.base.keep b o e n hb hx)
  ·obtain⟨sl,e1⟩:=I.base.slot b o e n hb hx
   exact⟨sl,(hs.2 b (Nat.ne_of_lt (Nat.lt_of_lt_of_le (Heap.lt_size e) I.ok.above))).trans e1⟩
  ·obtain⟨o',e1⟩:=I.base.there b o e hx
   exact⟨o',(hs.2 b (Nat.ne_of_lt (Nat.lt_of_lt_of_le (Heap.lt_size e) I.ok.above))).trans e1⟩
  ·by_cases hj:j=i
   ·subst hj
    rw[hi] at e1;cases e1
    rw[List.getElem?_set_self ZoO] at e2
    cases e2
    exact⟨u,r,.inl ⟨hk,by simp⟩⟩
   ·rw[List.getElem?_set_ne (Ne.symm hj)] at e2
    obtain⟨u',r',q⟩:=hl j y v' e1 e2 e3
    refine⟨u',r',?_⟩
    rcases q with⟨k,e⟩|⟨k,c,e,z⟩
    ·refine .inl ⟨k,?_⟩
     have:y≠x:=fun e=>hj (nT hN e1 (e▸hi))
     simp[this,e]
    ·exact .inr ⟨k,c,e,z.sameBut hs (QS y c e)⟩
  ·obtain⟨w',z⟩:=I.cell y c e
   exact⟨w',z.sameBut hs (QS y c e)⟩
  ·obtain⟨e,n,ne,nf,d⟩:=I.pin p hp
   exact⟨(hs.2 p.1 ne).trans e,n,ne,nf,d⟩
 ·have hfn:X.fn x=true:=by
   rcases hf with z|z
   ·exact z
   ·rw[z] at hk;cases hk
  obtain⟨c,hc⟩:=I.ok.has x (.inl hk)
  obtain⟨w',z⟩:=I.cell x c hc
  refine wpAny_storeName_cell I.ok.kind hk hc z (fun h' hc' hs=>?_)
  obtain⟨oc,hoc,Zkf⟩:=id z
  refine h {s with heap:=h'} ⟨I.ok,I.os,I.bare,⟨fun b o e n hb hx=>?_,fun b o e n hb hx=>?_,I.base.free,fun b o e hx=>?_,I.base.tups,I.base.dY,I.base.fU⟩,⟨m,hn.sameBut hs (Ne.symm (QS x c hc)),fun j y v' e1 e2 e3=>?_⟩,fun y c' e=>?_,I.free,I.bZ,fun p hp=>?_,tracked ⟨oc,hoc,I.bZ x c hc⟩ hs,by simpa using I.len⟩ ⟨c,hs,.inr hc⟩
  ·exact(hs.2 b (Nat.ne_of_lt (Nat.lt_of_lt_of_le (Heap.lt_size e) (I.ok.cab x c hfn hc)))).trans (I.base.keep b o e n hb hx)
  ·obtain⟨sl,e1⟩:=I.base.slot b o e n hb hx
   exact⟨sl,(hs.2 b (Nat.ne_of_lt (Nat.lt_of_lt_of_le (Heap.lt_size e) (I.ok.cab x c hfn hc)))).trans e1⟩
  ·obtain⟨o',e1⟩:=I.base.there b o e hx
   exact⟨o',(hs.2 b (Nat.ne_of_lt (Nat.lt_of_lt_of_le (Heap.lt_size e) (I.ok.cab x c hfn hc)))).trans e1⟩
  ·by_cases hj:j=i
   ·subst hj
    rw[hi] at e1;cases e1
    rw[List.getElem?_set_self ZoO] at e2
    cases e2
    exact⟨u,r,.inr ⟨.inl hk,c,hc,hc'⟩⟩
   ·rw[List.getElem?_set_ne (Ne.symm hj)] at e2
    obtain⟨u',r',q⟩:=hl j y v' e1 e2 e3
    refine⟨u',r',?_⟩
    rcases q with q|⟨k,c',e,z'⟩
    ·exact .inl q
    ·refine .inr ⟨k,c',e,z'.sameBut hs ?_⟩
     rintro rfl
     exact hj (nT hN e1 (I.ok.inj _ _ _ e hc▸hi))
  ·by_cases hcc:c'=c
   ·subst hcc;exact⟨_,hc'⟩
   ·obtain⟨w2,z2⟩:=I.cell y c' e
    exact⟨w2,z2.sameBut hs hcc⟩
  ·obtain⟨e,n,ne,nf,d⟩:=I.pin p hp
   refine⟨(hs.2 p.1 ?_).trans e,n,ne,nf,d⟩
   intro q
   rw[q,hoc] at e
   have q':oc=p.2:=Option.some.inj e
   exact d w' (by rw[←q'];exact Zkf)
theorem nU{M:Model}{A:Around}{E:Value→Shared→Prop}{i:Nat}{x:Str}{v:V}{u:Value}{Q:Unit→Shared→Prop}(I:Inv X pins σ H s)(hN:X.N.Nodup)(hi:X.N[i]?=some x)(hx:Loc X.env.scope x)(r:RelV v u)
 (h:∀s',Inv X pins (σ.set i (some v)) H s'→Q () s')(hf:X.fn x=true∨X.env.scope.names.lookup x=some .local:=by first|exact .inl rfl|exact .inr rfl|assumption):wpAny M A (storeName X.env x u) Q E s:=
 qK I hN hi hx r (fun s' I' _=>h s' I') hf
theorem Inv.call'{s':Shared}{ch:List Addr}(I:Inv X pins σ H s)(ho:s'.os=s.os)(u:Un (frs X.stack) ch H H' s.heap s'.heap)(hok:dz X.prog X.w H' s'.heap)(hg:AllBare s'.gens)
 (hch:∀b∈ch,(b∈X.ex∨X.s₀.heap.objs.size≤b)∧b≠X.env.locals∧(∀x c,X.env.cells.lookup x=some c→c≠b)∧∀p∈X.pn++pins,p.1≠b):Inv X pins σ H' s':=by
 obtain⟨h',g',d',t',o'⟩:=s'
 have e:o'=s.os:=ho
 subst e
 exact I.call (g':=g') (t':=t') (d':=d') u hok hg hch
end
abbrev XK:=Value→Option Addr→Hp→Prop
abbrev St:=List (Option V)
abbrev VK:=V→Hp→Prop
abbrev TE:=St→Hp→VK→Prop
abbrev TT:=St→Hp→(Bool→Hp→Prop)→Prop
abbrev TA:=St→Hp→(List V→Hp→Prop)→Prop
structure Ends where
 nx:St→Hp→Prop
 rt:VK
 bk:St→Hp→Prop:=fun _ _=>False
 ct:St→Hp→Prop:=fun _ _=>False
abbrev TS:=Ends→St→Hp→Prop
def EP(X:Cx)(pins:List (Addr×Obj))(σ:St)(Q:VK)(u:Value)(s':Shared):Prop:=∃v H',Inv X pins σ H' s'∧RelV v u∧Q v H'
def TP(X:Cx)(pins:List (Addr×Obj))(σ:St)(Q:Bool→Hp→Prop)(b:Bool)(s':Shared):Prop:=∃H',Inv X pins σ H' s'∧Q b H'
def AP(X:Cx)(pins:List (Addr×Obj))(σ:St)(Q:List V→Hp→Prop)(us:List Value)(s':Shared):Prop:=∃vs H',Inv X pins σ H' s'∧Vals vs us∧Q vs H'
def SP(X:Cx)(pins:List (Addr×Obj))(D:Ends)(f:Flow)(s':Shared):Prop:=
 match f with
 | .next=>∃σ' H',Inv X pins σ' H' s'∧D.nx σ' H'
 | .brk=>∃σ' H',Inv X pins σ' H' s'∧D.bk σ' H'
 | .cont=>∃σ' H',Inv X pins σ' H' s'∧D.ct σ' H'
 | .ret u=>∃v σ' H',Inv X pins σ' H' s'∧RelV v u∧D.rt v H'
def PE(X:Cx)(e:Expr)(t:TE):Prop:=
 ∀(pins:List (Addr×Obj)) (s:Shared) (σ:St) (H:Hp) (Q:VK),Inv X pins σ H s→t σ H Q→wpAny (model X.prog X.w) X.A (eval e X.env) (EP X pins σ Q) X.xe s
def PT(X:Cx)(e:Expr)(t:TT):Prop:=
 ∀(pins:List (Addr×Obj)) (s:Shared) (σ:St) (H:Hp) (Q:Bool→Hp→Prop),Inv X pins σ H s→t σ H Q→wpAny (model X.prog X.w) X.A (isTrue e X.env (eval e X.env)) (TP X pins σ Q) X.xe s
def PW(X:Cx)(e:Expr)(t:TT):Prop:=
 ∀(whole:Sem Value) (pins:List (Addr×Obj)) (s:Shared) (σ:St) (H:Hp) (Q:Bool→Hp→Prop),Inv X pins σ H s→t σ H Q→wpAny (model X.prog X.w) X.A (isTrue e X.env whole) (TP X pins σ Q) X.xe s
theorem PW.pt{X:Cx}{e:Expr}{t:TT}(h:PW X e t):PT X e t:=h _
def PA(X:Cx)(es:List Expr)(t:TA):Prop:=
 ∀(pos:Pos) (pins:List (Addr×Obj)) (s:Shared) (σ:St) (H:Hp) (Q:List V→Hp→Prop),Inv X pins σ H s→t σ H Q→wpAny (model X.prog X.w) X.A (spliced (backTo pos (starEach es X.env))) (AP X pins σ Q) X.xe s
def PS(X:Cx)(st:Stmt)(t:TS):Prop:=
 ∀(pins:List (Addr×Obj)) (s:Shared) (σ:St) (H:Hp) (D:Ends),Inv X pins σ H s→t D σ H→wpAny (model X.prog X.w) X.A (exec st X.env) (SP X pins D) X.xe s
def jc(X:Cx)(st:List Stmt)(t:TS):Prop:=
 ∀(pins:List (Addr×Obj)) (s:Shared) (σ:St) (H:Hp) (D:Ends),Inv X pins σ H s→t D σ H→wpAny (model X.prog X.w) X.A (execs st X.env) (SP X pins D) X.xe s
theorem ŧ{α:Type}{t:Sem α}{Q Q':α→Shared→Prop}{M:Model}{A:Around}{E:Value→Shared→Prop}{s:Shared}(h:wpAny M A t Q E s)(hQ:∀a s,Q a s→Q' a s):wpAny M A t Q' E s:=wpAny_mono h hQ fun _ _ x=>x
end L2
namespace L2
open PySem PySem.Spec PyProof.Rows
section
variable{X:Cx}
def tU(i:Nat):TE:=fun σ H Q=>∃v,σ[i]?=some (some v)∧Q v H
def tC(v:V):TE:=fun _ H Q=>Q v H
theorem fZ{i:Nat}{x:Str}{pos:Pos}(hN:X.N[i]?=some x)(hv:Gu X.env.scope x)(hd:(x== ("__debug__" :Str))=false:=by decide)(hcd:(x== ("__classdict__" :Str))=false:=by decide):PE X (.Name x pos) (tU i):=by
 intro pins s σ H Q I h
 obtain⟨v,e,h⟩:=h
 obtain⟨m,hn,hl⟩:=I.loc
 obtain⟨u,r,l⟩:=hl i x v hN e hv
 have fin:EP X pins σ Q u s:=⟨v,H,I,r,h⟩
 rcases l with⟨hk,hm⟩|⟨hk,c,hc,hcell⟩
 ·exact wpAny_Name (wpAny_loadName_local I.ok.kind hk hn hm fin) hd
 ·rcases hk with hk|hk
  ·exact wpAny_Name (wpAny_loadName_cell I.ok.kind hk hc hcell fin) hd
  ·exact wpAny_Name (wpAny_loadName_free I.ok.kind hk hc hcell fin hcd) hd
theorem Wu{i j pos}:PE X (.Constant (.int i) j pos) (tC (.int i)):=fun _ _ _ H _ I h=>wpAny_Constant_int ⟨.int i,H,I.tok _,⟨_,rfl⟩,h⟩
theorem Zcx{b j pos}:PE X (.Constant (.bool b) j pos) (tC (.bl b)):=fun _ _ _ H _ I h=>Constant_bool ⟨.bl b,H,I,rfl,h⟩
theorem Wv{j pos}:PE X (.Constant .none j pos) (tC .non):=fun _ _ _ H _ I h=>Constant_none ⟨.non,H,I,rfl,h⟩
theorem Ww{x j pos}:PE X (.Constant (.str x) j pos) (tC (.str x)):=fun _ _ _ H _ I h=>Calls.Constant_str ⟨.str x,H,I.tok _,⟨_,rfl⟩,h⟩
def Gl(X:Cx)(x:Str):Prop:=X.env.kindOf x=some .globalImplicit
theorem gR{E:Value→Shared→Prop}{pins:List (Addr×Obj)}{s:Shared}{σ:St}{H:Hp}{x:Str}{u:Value}{pos:Pos}{Q:Value→Shared→Prop}(I:Inv X pins σ H s)(hg:Gl X x)(hm:X.mg x=some u)(h:Q u s)
 (hd:(x== ("__debug__" :Str))=false:=by decide):wpAny (model X.prog X.w) X.A (eval (.Name x pos) X.env) Q E s:=
 Calls.Name_function_global I.ok.kind hg (Calls.loadGlobal_global (by rw[I.ok.glob];exact I.mod.glob.keeps I.bk) hm h) hd
theorem gb{E:Value→Shared→Prop}{pins:List (Addr×Obj)}{s:Shared}{σ:St}{H:Hp}{x:Str}{u:Value}{pos:Pos}{Q:Value→Shared→Prop}(I:Inv X pins σ H s)(hg:Gl X x)(hm:X.mg x=none)(hv:bootBuiltins x=some u)(h:Q u s)
 (hn:x≠ "__name__" := by decide)(hd:(x== ("__debug__" :Str))=false:=by decide):wpAny (model X.prog X.w) X.A (eval (.Name x pos) X.env) Q E s:=by
 obtain⟨mb,h1,h2⟩:=I.mod.blt
 exact Calls.Name_function_global I.ok.kind hg (Calls.loadGlobal_builtin (by rw[I.ok.glob];exact I.mod.glob.keeps I.bk) hm (by rw[I.ok.blt];exact h1.keeps I.bk) ((h2 x hn).trans hv) h) hd
theorem Ś{x:Str}{v:V}{u:Value}{pos:Pos}(hg:Gl X x)(hm:X.mg x=some u)(r:RelV v u)(hd:(x== ("__debug__" :Str))=false:=by decide):PE X (.Name x pos) (tC v):=
 fun _ _ _ H _ I h=>gR I hg hm ⟨v,H,I,r,h⟩ hd
theorem nD{x:Str}{v:V}{u:Value}{pos:Pos}(hg:Gl X x)(hm:X.mg x=none)(hv:bootBuiltins x=some u)(r:RelV v u)(hn:x≠ "__name__" := by decide)(hd:(x== ("__debug__" :Str))=false:=by decide):PE X (.Name x pos) (tC v):=
 fun _ _ _ H _ I h=>gb I hg hm hv ⟨v,H,I,r,h⟩ hn hd
variable{a b:Expr}{ta tb:TE}{pos:Pos}
variable{tA tB':TT}{rest:List Expr}
def Zkg(t u:TT):TT:=fun σ H Q=>t σ H fun c H1=>if c=true then u σ H1 Q else Q false H1
def tOr(t u:TT):TT:=fun σ H Q=>t σ H fun c H1=>if c=true then Q true H1 else u σ H1 Q
def Zkh(t:TT):TT:=fun σ H Q=>t σ H fun c H1=>Q (!c) H1
theorem QT(ha:PT X a tA):PW X (.BoolOp .And [a] pos) tA:=by
 intro wh pins s σ H Q I h
 refine isTrue_and (ŧ (ha pins s σ H Q I h) fun c s1 e=>?_)
 cases c with
 |true=>exact isTrue_and_nil e
 |false=>exact e
theorem Wx(ha:PT X a tA):PW X (.BoolOp .Or [a] pos) tA:=by
 intro wh pins s σ H Q I h
 refine isTrue_or (ŧ (ha pins s σ H Q I h) fun c s1 e=>?_)
 cases c with
 |false=>exact isTrue_or_nil e
 |true=>exact e
theorem Wy(ha:PT X a tA)(hb:PW X (.BoolOp .And (b::rest) pos) tB'):PW X (.BoolOp .And (a::b::rest) pos) (Zkg tA tB'):=by
 intro wh pins s σ H Q I h
 refine isTrue_and (ŧ (ha pins s σ H _ I h) fun c s1 ⟨H1,I1,q1⟩=>?_)
 cases c with
 |true=>exact hb wh pins s1 σ H1 Q I1 q1
 |false=>exact⟨H1,I1,q1⟩
theorem Zcy(ha:PT X a tA)(hb:PW X (.BoolOp .Or (b::rest) pos) tB'):PW X (.BoolOp .Or (a::b::rest) pos) (tOr tA tB'):=by
 intro wh pins s σ H Q I h
 refine isTrue_or (ŧ (ha pins s σ H _ I h) fun c s1 ⟨H1,I1,q1⟩=>?_)
 cases c with
 |true=>exact⟨H1,I1,q1⟩
 |false=>exact hb wh pins s1 σ H1 Q I1 q1
theorem Wz(ha:PT X a tA):PT X (.UnaryOp .Not a pos) (Zkh tA):=by
 intro pins s σ H Q I h
 exact isTrue_not (ha pins s σ H (fun c H1=>Q (!c) H1) I h)
theorem WD{op}{t:TE}(h:PE X a t):PE X (.BoolOp op [a] pos) t:=fun pins s σ H Q I hw=>BoolOp_one (h pins s σ H Q I hw)
end
end L2
namespace L2
open PySem PySem.Spec PyProof.Rows
def aF(K:PySem.W.Frag)(H:Hp)(a:Addr)(xs:List V):Prop:=
 Rd H a (.lst xs)∨
  ∃(o:Obj) (its:Array Value) (n:Nat),K.lookup a=some o∧o.cls=.type "list" ∧o.dict=none∧o.data=.seq its n∧its.size≤sizeLine∧Vals xs its.toList
def cZ(K:PySem.W.Frag)(H:Hp)(a:Addr)(xs:List V):Prop:=
 Rd H a (.tup xs)∨
  ∃(o:Obj) (its:Array Value) (n:Nat),K.lookup a=some o∧o.cls=.type "tuple" ∧o.data=.seq its n∧its.size≤sizeLine∧Vals xs its.toList
def Zki:Value→Option V
 | .none=>some .non
 | .bool b=>some (.bl b)
 | .int i _=>some (.int i)
 | .str x _=>some (.str x)
 | .bytes b _=>some (.Ug b)
 | .float b _=>some (.flt b)
 | .ref a=>some (.ref a)
 | .type n=>some (.ty n)
 |_=>none
theorem RelV.abs{x:V}{u:Value}(r:RelV x u):Zki u=some x:=by
 cases x with
 |non=>cases r;rfl
 |bl _=>cases r;rfl
 |int _=>obtain⟨t,rfl⟩:=r;rfl
 |str _=>obtain⟨t,rfl⟩:=r;rfl
 |Ug _=>obtain⟨t,rfl⟩:=r;rfl
 |flt _=>obtain⟨t,rfl⟩:=r;rfl
 |ref _=>cases r;rfl
 |ty _=>cases r;rfl
theorem RelV.inj{x y:V}{u:Value}(r:RelV x u)(q:RelV y u):x=y:=Option.some.inj (r.abs.symm.trans q.abs)
theorem Vals.inj:∀{xs ys:List V} {us:List Value},Vals xs us→Vals ys us→xs=ys
 |_,_,_,.nil,.nil=>rfl
 |_,_,_,.cons r t,.cons r' t'=>by rw[r.inj r',Vals.inj t t']
section
variable{X:Cx}{pins:List (Addr×Obj)}{σ:St}{H:Hp}{s:Shared}{a:Addr}{xs ys:List V}
theorem aF.of{K:PySem.W.Frag}(h:H a=some (.lst xs)):aF K H a xs:=.inl (.inl h)
theorem cZ.of{K:PySem.W.Frag}(h:H a=some (.tup xs)):cZ K H a xs:=.inl (.inl h)
theorem Inv.list(I:Inv X pins σ H s)(h:aF X.K H a xs):∃its:List Value,Vals xs its∧PlainL s.heap a its.toArray∧xs.length≤sizeLine:=by
 rcases h with h|⟨o,its,n,hk,hc,hd,hs,hz,r⟩
 ·obtain⟨z,its,n,r,e⟩:=h.ok I.hok
  exact⟨its,r,⟨_,n,e,rfl,rfl,rfl⟩,z⟩
 ·refine⟨its.toList,r,⟨o,n,I.dZ a o hk,hc,hd,by simpa using hs⟩,?_⟩
  have e:=r.length
  simp only[Array.length_toList] at e
  omega
theorem Inv.tuple(I:Inv X pins σ H s)(h:cZ X.K H a xs):∃its:List Value,Vals xs its∧IsTup s.heap a its.toArray∧xs.length≤sizeLine:=by
 rcases h with h|⟨o,its,n,hk,hc,hs,hz,r⟩
 ·obtain⟨z,its,r,p⟩:=h.ok I.hok
  exact⟨its,r,p,z⟩
 ·refine⟨its.toList,r,⟨o,I.dZ a o hk,hc,n,by simpa using hs⟩,?_⟩
  have e:=r.length
  simp only[Array.length_toList] at e
  omega
theorem Inv.nW(I:Inv X pins σ H s)(h:aF X.K H a xs)(h':aF X.K H a ys):xs=ys:=by
 obtain⟨its,r,⟨o,n,e,_,_,d⟩,_⟩:=I.list h
 obtain⟨its',r',⟨o',n',e',_,_,d'⟩,_⟩:=I.list h'
 rw[e] at e';cases e'
 rw[d] at d'
 injection d' with d1 _
 have:its=its':=by simpa using congrArg Array.toList d1
 subst this
 exact r.inj r'
theorem Inv.qL(I:Inv X pins σ H s)(h:cZ X.K H a xs)(h':cZ X.K H a ys):xs=ys:=by
 obtain⟨its,r,⟨o,e,_,n,d⟩,_⟩:=I.tuple h
 obtain⟨its',r',⟨o',e',_,n',d'⟩,_⟩:=I.tuple h'
 rw[e] at e';cases e'
 rw[d] at d'
 injection d' with d1 _
 have:its=its':=by simpa using congrArg Array.toList d1
 subst this
 exact r.inj r'
end
abbrev Cx.wish(X:Cx)(E:Value→Shared→Prop):Cx:={X with xe:=E}
abbrev Cx.au(X:Cx):Cx:=X.wish fun _ _=>False
theorem Cx.Ok.wish{X:Cx}(ok:X.Ok)(E:Value→Shared→Prop):(X.wish E).Ok:=
 ⟨ok.mod,ok.kind,ok.glob,ok.blt,ok.above,ok.inj,ok.has,ok.cab,ok.hd,ok.frames,ok.stk,ok.exf,ok.bs,ok.Ep,ok.qy,ok.wz,ok.h_,ok.Gz⟩
theorem Cx.Ok.eE{X:Cx}{E:Value→Shared→Prop}(ok:(X.wish E).Ok):X.Ok:=
 ⟨ok.mod,ok.kind,ok.glob,ok.blt,ok.above,ok.inj,ok.has,ok.cab,ok.hd,ok.frames,ok.stk,ok.exf,ok.bs,ok.Ep,ok.qy,ok.wz,ok.h_,ok.Gz⟩
section
variable{X:Cx}{pins:List (Addr×Obj)}{σ:St}{H:Hp}{s:Shared}{E:Value→Shared→Prop}
theorem Inv.wish(I:Inv X pins σ H s)(E:Value→Shared→Prop):Inv (X.wish E) pins σ H s:=⟨I.ok.wish E,I.os,I.bare,I.base,I.loc,I.cell,I.free,I.bZ,I.pin,I.hok,I.len⟩
theorem Inv.eE(I:Inv (X.wish E) pins σ H s):Inv X pins σ H s:=⟨I.ok.eE,I.os,I.bare,I.base,I.loc,I.cell,I.free,I.bZ,I.pin,I.hok,I.len⟩
theorem SP.eE{D:Ends}{f:Flow}{s':Shared}(h:SP (X.wish E) pins D f s'):SP X pins D f s':=by
 cases f with
 |next=>obtain⟨σ',H',I,q⟩:=h;exact⟨σ',H',I.eE,q⟩
 |brk=>obtain⟨σ',H',I,q⟩:=h;exact⟨σ',H',I.eE,q⟩
 |cont=>obtain⟨σ',H',I,q⟩:=h;exact⟨σ',H',I.eE,q⟩
 |ret u=>obtain⟨v,σ',H',I,r,q⟩:=h;exact⟨v,σ',H',I.eE,r,q⟩
theorem PE.au{e:Expr}{t:TE}(h:PE X.au e t):PE X e t:=fun pins s σ H Q I hw=>
 wpAny_mono (h pins s σ H Q (I.wish _) hw) (fun _ _ ⟨v,H',I',r,q⟩=>⟨v,H',I'.eE,r,q⟩) fun _ _ z=>False.elim z
end
section
variable{X:Cx}{st:Stmt}{rest:List Stmt}{t u:TS}{e:Expr}{te:TE}{pos:Pos}
def Uh:TS:=fun D σ H=>D.nx σ H
def Zcz(t u:TS):TS:=fun D σ H=>t {D with nx:=u D} σ H
theorem Cy:jc X [] Uh:=fun _ _ σ H _ I h=>wpAny_execs_nil ⟨σ,H,I,h⟩
theorem wA(h1:PS X st t)(h2:jc X rest u):jc X (st::rest) (Zcz t u):=by
 intro pins s σ H D I h
 refine wpAny_execs_cons (ŧ (h1 pins s σ H {D with nx:=u D} I h) fun f s1 q=>?_)
 cases f with
 |next=>
  obtain⟨σ',H',I',q⟩:=q
  exact h2 pins s1 σ' H' D I' q
 |ret v=>exact q
 |brk=>exact q
 |cont=>exact q
theorem QV(h1:PS X st t):jc X [st] t:=by
 intro pins s σ H D I h
 refine wpAny_execs_cons (ŧ (h1 pins s σ H D I h) fun f s1 q=>?_)
 cases f with
 |next=>exact wpAny_execs_nil q
 |ret v=>exact q
 |brk=>exact q
 |cont=>exact q
theorem Inv.quiet{pins:List (Addr×Obj)}{σ:St}{H:Hp}{s:Shared}(I:Inv X pins σ H s):interactive X.env=false:=by simp[interactive,I.ok.kind]
def GC(te:TE):TS:=fun D σ H=>te σ H fun _ H1=>D.nx σ H1
theorem cP(he:PE X e te)(hs:swapsWith e none pos.line X.env=pure false:=by rfl):PS X (.Expr e pos) (GC te):=by
 intro pins s σ H D I h
 exact wpAny_Expr_any (ŧ (he pins s σ H _ I h) fun v s1 ⟨x,H1,I1,r1,q1⟩=>⟨σ,H1,I1,q1⟩) I.quiet hs
def Zkj(te:TE):TS:=fun D σ H=>te σ H D.rt
theorem WK(he:PE X e te):PS X (.Return (some e) pos) (Zkj te):=by
 intro pins s σ H D I h
 exact wpAny_Return_some (ŧ (he pins s σ H _ I h) fun v s1 ⟨x,H1,I1,r1,q1⟩=>⟨x,σ,H1,I1,r1,q1⟩)
def Zkk(c:TT)(t u:TS):TS:=fun D σ H=>c σ H fun b H1=>if b=true then t D σ H1 else u D σ H1
theorem ZcA{c:Expr}{a b:List Stmt}{tc:TT}(hc:PT X c tc)(ha:jc X a t)(hb:jc X b u):PS X (.If c a b pos) (Zkk tc t u):=by
 intro pins s σ H D I h
 refine wpAny_If (ŧ (hc pins s σ H _ I h) fun d s1 ⟨H1,I1,q1⟩=>?_)
 cases d with
 |true=>exact ha pins s1 σ H1 D I1 q1
 |false=>exact hb pins s1 σ H1 D I1 q1
end
abbrev TG:=V→St→Hp→(St→Hp→Prop)→Prop
abbrev GD:=List V→St→Hp→(St→Hp→Prop)→Prop
def PG(X:Cx)(target:Expr)(t:TG):Prop:=
 ∀(pins:List (Addr×Obj)) (s:Shared) (σ:St) (H:Hp) (v:V) (u:Value) (Q:St→Hp→Prop),Inv X pins σ H s→RelV v u→t v σ H Q→
  wpAny (model X.prog X.w) X.A (assign target X.env u) (fun _ s'=>∃σ' H',Inv X pins σ' H' s'∧Q σ' H') X.xe s
def zO(X:Cx)(ts:List Expr)(t:GD):Prop:=
 ∀(pins:List (Addr×Obj)) (s:Shared) (σ:St) (H:Hp) (vs:List V) (us:List Value) (Q:St→Hp→Prop),Inv X pins σ H s→Vals vs us→t vs σ H Q→
  wpAny (model X.prog X.w) X.A (assignInOrder ((assignEach ts X.env).map (·.2)) us) (fun _ s'=>∃σ' H',Inv X pins σ' H' s'∧Q σ' H') X.xe s
abbrev WL:=V→V→V→Hp→(Hp→Prop)→Prop
def ZcB(X:Cx)(t:WL):Prop:=
 ∀(pins:List (Addr×Obj)) (s:Shared) (σ:St) (H:Hp) (o i v:V) (ov iv u:Value) (Q:Hp→Prop),Inv X pins σ H s→RelV o ov→RelV i iv→RelV v u→t o i v H Q→
  wpAny (model X.prog X.w) X.A (setItem ov iv u) (fun _ s'=>∃H',Inv X pins σ H' s'∧Q H') X.xe s
section
variable{X:Cx}{pos:Pos}
def Ui(i:Nat):TG:=fun v σ H Q=>Q (σ.set i (some v)) H
theorem QW{i:Nat}{x:Str}(hN:X.N.Nodup)(hi:X.N[i]?=some x)(hx:Loc X.env.scope x)(hf:X.fn x=true∨X.env.scope.names.lookup x=some .local:=by first|exact .inl rfl|exact .inr rfl|assumption):PG X (.Name x pos) (Ui i):=by
 intro pins s σ H v u Q I r h
 exact wpAny_assign_Name (nU I hN hi hx r (fun s' I'=>⟨_,H,I',h⟩) hf)
def Zkl:GD:=fun vs σ H Q=>vs=[]∧Q σ H
def ZcC(t:TG)(u:GD):GD:=fun vs σ H Q=>∃v r,vs=v::r∧t v σ H fun σ' H'=>u r σ' H' Q
theorem QX:zO X [] Zkl:=by
 intro pins s σ H vs us Q I r h
 obtain⟨e,h⟩:=h
 subst e
 cases r
 exact assignInOrder_nil ⟨σ,H,I,h⟩
theorem GF{e:Expr}{es:List Expr}{t:TG}{u:GD}(h1:PG X e t)(h2:zO X es u)
 (hs:(assignEach (e::es) X.env).map (·.2)=assign e X.env::(assignEach es X.env).map (·.2):=by rfl):zO X (e::es) (ZcC t u):=by
 intro pins s σ H vs us Q I r h
 obtain⟨v,vr,e1,h⟩:=h
 subst e1
 cases r with
 |cons r rr=>
  rw[hs]
  refine assignInOrder_cons (ŧ (h1 pins s σ H _ _ _ I r h) fun _ s1 ⟨σ1,H1,I1,q1⟩=>?_)
  exact h2 pins s1 σ1 H1 _ _ Q I1 rr q1
def Zkm(K:PySem.W.Frag)(n:Nat)(t:GD):TG:=fun v σ H Q=>∃a xs,v=.ref a∧cZ K H a xs∧xs.length=n∧t xs σ H Q
theorem GJ{es:List Expr}{k:Nat}{t:GD}{n:Nat}(hc:X.calm=true)(h:zO X es t)
 (hn:(assignEach es X.env).length=n:=by rfl)(hst:(assignEach es X.env).findIdx? (·.1)=none:=by rfl):PG X (.Tuple es k pos) (Zkm X.K n t):=by
 intro pins s σ H v u Q I r hw
 obtain⟨a,xs,e1,hq,hl,hw⟩:=hw
 subst e1
 cases r
 obtain⟨its,rv,ht,hz⟩:=I.tuple hq
 refine assign_Tuple_tuple (I.ok.hd hc) ht (by simp[hn,←hl,rv.length]) hst fun h' hx=>?_
 have I1:Inv X pins σ H {s with heap:=h'}:=I.kept (t':=s.toks) fun b o e=>hx b o (Nat.ne_of_lt (Heap.lt_size e)) e
 exact h pins _ σ H xs _ Q I1 (by simpa using rv) hw
def Zkn(to ti:TE)(t:WL):TG:=fun v σ H Q=>to σ H fun o H1=>ti σ H1 fun i H2=>t o i v H2 fun H3=>Q σ H3
theorem WM{o i:Expr}{to ti:TE}{t:WL}(ho:PE X o to)(hi:PE X i ti)(hs:ZcB X t)
 (ha:∀v,assign (.Subscript o i pos) X.env v=(do
   let ov ←holding [v] (eval o X.env)
   let iv ←holding [v,ov] (eval i X.env)
   standAt pos
   holding [v,ov,iv] (setItem ov iv v)
   release [v,ov,iv] []):=by intro _;rfl):PG X (.Subscript o i pos) (Zkn to ti t):=by
 intro pins s σ H v u Q I r h
 rw[ha]
 refine wpAny_bind (wpAny_holding (ŧ (ho pins s σ H _ I h) fun ov s1 ⟨x,H1,I1,r1,q1⟩=>?_))
 refine wpAny_bind (wpAny_holding (ŧ (hi pins s1 σ H1 _ I1 q1) fun iv s2 ⟨y,H2,I2,r2,q2⟩=>?_))
 refine wpAny_bind (wpAny_standAt (wpAny_bind (wpAny_holding (ŧ (hs pins s2 σ H2 x y v ov iv u _ I2 r1 r2 r q2) fun _ s3 ⟨H3,I3,q3⟩=>?_))))
 exact wpAny_release ⟨σ,H3,I3,q3⟩
def ZcD(te:TE)(g:TG):TS:=fun D σ H=>te σ H fun x H1=>g x σ H1 D.nx
theorem GK{tg e:Expr}{te:TE}{g:TG}(he:PE X e te)(hg:PG X tg g)(hs:swapsWithSole [tg] e pos.line X.env=pure false:=by rfl)(hw:swappedStores [tg] e X.env=pure none:=by rfl)
 (h1:(assignEach [tg] X.env).map (·.2)=[assign tg X.env]:=by rfl):PS X (.Assign [tg] e pos) (ZcD te g):=by
 intro pins s σ H D I h
 refine wpAny_Assign_stores (ŧ (he pins s σ H _ I h) fun v s1 ⟨x,H1,I1,r1,q1⟩=>?_) hs hw
 rw[h1]
 exact ŧ (hg pins s1 σ H1 x v _ I1 r1 q1) fun _ s2 q=>q
theorem WQ{i:Nat}{x:Str}{e:Expr}{te:TE}{pos':Pos}(hN:X.N.Nodup)(hi:X.N[i]?=some x)(hx:Loc X.env.scope x)(he:PE X e te)(hs:swapsWith e (some (.Name x pos')) pos.line X.env=pure false:=by rfl)(hf:X.fn x=true∨X.env.scope.names.lookup x=some .local:=by first|exact .inl rfl|exact .inr rfl|assumption) :
 PS X (.Assign [.Name x pos'] e pos) (ZcD te (Ui i)):=by
 intro pins s σ H D I h
 refine wpAny_Assign_Name (ŧ (he pins s σ H _ I h) fun v s1 ⟨y,H1,I1,r1,q1⟩=>?_) hs
 exact nU I1 hN hi hx r1 (fun s2 I2=>⟨_,H1,I2,q1⟩) hf
end
section
variable{X:Cx}{pos:Pos}
def WR(c:TT)(tb:TS):TS:=fun D σ H=>∃W:Nat→St→Hp→Prop,(∃m,W m σ H)∧∀m σ H,W m σ H→
 c σ H fun b H1=>if b=true then ∃N:St→Hp→Prop,(∀σ' H',N σ' H'→∃m',m'<m∧W m' σ' H')∧tb {D with nx:=N,ct:=N,bk:=D.nx} σ H1 else D.nx σ H1
theorem GP{c:Expr}{body:List Stmt}{tc:TT}{tb:TS}(hp:PassesOwn (model X.prog X.w) X.A X.env X.xe)(hc:PT X c tc)(hb:jc X body tb):PS X (.While c body [] pos) (WR tc tb):=by
 intro pins s σ H D I h
 obtain⟨W,⟨m0,w0⟩,turn⟩:=h
 refine wpAny_While (codeAny_whileLoop (fun n s'=>∃σ' H',Inv X pins σ' H' s'∧W n σ' H') ?_ m0 ⟨σ,H,I,w0⟩)
 rintro n s1 ⟨σ1,H1,I1,w1⟩
 refine wpAny_passesOwn hp (ŧ (hc pins s1 σ1 H1 _ I1 (turn n σ1 H1 w1)) fun b s2 ⟨H2,I2,q2⟩=>?_)
 cases b with
 |true=>
  obtain⟨N,hN,q2⟩:=q2
  rw[if_pos rfl]
  refine wpAny_passesOwn hp (ŧ (hb pins s2 σ1 H2 _ I2 q2) fun f s3 q3=>?_)
  cases f with
  |next=>
   obtain⟨σ3,H3,I3,n3⟩:=q3
   obtain⟨m',hm,w3⟩:=hN σ3 H3 n3
   exact⟨m',hm,σ3,H3,I3,w3⟩
  |cont=>
   obtain⟨σ3,H3,I3,n3⟩:=q3
   obtain⟨m',hm,w3⟩:=hN σ3 H3 n3
   exact⟨m',hm,σ3,H3,I3,w3⟩
  |brk=>exact q3
  |ret v=>exact q3
 |false=>
  rw[if_neg Bool.false_ne_true]
  exact wpAny_execs_nil ⟨σ1,H2,I2,q2⟩
end
structure It where
 go:Nat→Hp→Prop
 yld:Nat→Hp→V→Hp→Prop
 stop:Nat→Hp→Prop
def gj(X:Cx)(pins:List (Addr×Obj))(H:Hp)(b:Addr):Prop:=
 H b=none∧b≠X.env.locals∧b∉X.fs∧(b∈X.ex∨X.s₀.heap.objs.size≤b)∧(∀x c,X.env.cells.lookup x=some c→c≠b)∧∀p∈X.pn++pins,p.1≠b
theorem Inv.Er{X:Cx}{pins:List (Addr×Obj)}{σ:St}{H H':Hp}{s:Shared}{b:Addr}(I:Inv X pins σ H s)(hb:s.heap.objs.size≤b)(hn:H' b=none):gj X pins H' b:=by
 refine⟨hn,Nat.ne_of_gt (Nat.lt_of_lt_of_le I.lt hb),I.Zke hb,.inr (Nat.le_trans I.sz hb),fun x c e z=>?_,fun p hp z=>?_⟩
 ·obtain⟨v,q⟩:=I.cell x c e
  exact absurd (Nat.lt_of_lt_of_le q.lt (by rw[z];exact hb)) (Nat.lt_irrefl _)
 ·exact absurd (Nat.lt_of_lt_of_le (Heap.lt_size (I.pin p hp).1) (by rw[z];exact hb)) (Nat.lt_irrefl _)
structure Turn(P:Program)(w:World)(K:PySem.W.Frag)(tg:Expr)(J:It)(fp:List Addr)(it:Addr)(tn:Nat→Heap→Prop):Prop where
 mem:it∈fp
 obj:∀i h,tn i h→∀b∈fp,∃o,h.get? b=some o∧∀v,o.data≠ .cell v
 keep:∀i h h',tn i h→(∀b∈fp,∀o,h.get? b=some o→h'.get? b=some o)→tn i h'
 item:∀(X:Cx),X.prog=P→X.w=w→X.K=K→X.calm=true→∀(i:Nat) (pins:List (Addr×Obj)) (s:Shared) (σ:St) (H:Hp) (E:Value→Shared→Prop),Inv X pins σ H s→(∀b∈fp,gj X pins H b)→tn i s.heap→J.go i H→
  wpAny (model P w) X.A (pyNext (.ref it)) (fun r s1=>∃u,r=some u∧
   wpAny (model P w) X.A (letOwnedTupleGo tg (.ref it) u) (fun _ s2=>∃x H',Inv X pins σ H' s2∧RelV x u∧J.yld i H x H'∧tn (i+1) s2.heap∧∀b∈fp,H' b=none) E s1) E s
 done:∀(X:Cx),X.prog=P→X.w=w→X.K=K→X.calm=true→∀(i:Nat) (pins:List (Addr×Obj)) (s:Shared) (σ:St) (H:Hp) (E:Value→Shared→Prop),Inv X pins σ H s→(∀b∈fp,gj X pins H b)→tn i s.heap→J.stop i H→
  wpAny (model P w) X.A (pyNext (.ref it)) (fun r s1=>r=none∧Inv X pins σ H s1) E s
 self:∀(A:Around) (i:Nat) (s:Shared) (Q:Value→Shared→Prop) (E:Value→Shared→Prop),tn i s.heap→Q (.ref it) s→wpAny (model P w) A (pyIter (.ref it)) Q E s
abbrev TI:=St→Hp→(It→Hp→Prop)→Prop
def PIE(X:Cx)(pins:List (Addr×Obj))(σ:St)(tg:Expr)(R:It→Hp→Prop)(itv:Value)(s2:Shared):Prop:=
 ∃(it:Addr) (fp:List Addr) (tn:Nat→Heap→Prop) (J:It) (H':Hp),itv=.ref it∧Inv X pins σ H' s2∧Turn X.prog X.w X.K tg J fp it tn∧tn 0 s2.heap∧(∀b∈fp,gj X pins H' b)∧R J H'
def PI(X:Cx)(tg iter:Expr)(wi:TI):Prop:=
 ∀(pins:List (Addr×Obj)) (s:Shared) (σ:St) (H:Hp) (R:It→Hp→Prop),Inv X pins σ H s→wi σ H R→
  wpAny (model X.prog X.w) X.A (eval iter X.env) (fun v s1=>wpAny (model X.prog X.w) X.A (pyIter v) (PIE X pins σ tg R) X.xe s1) X.xe s
theorem Cz{M:Model}{A:Around}{E:Value→Shared→Prop}{s:Shared}{tg:Expr}{it:Addr}{u:Value}{o:Obj}{n:String}{vs:Array Value}{Q:Unit→Shared→Prop}(ho:s.heap.get? it=some o)(hc:o.cls=.type n)(hd:o.data=.fields vs)
 (hn:["enumerate","zip","dict_itemiterator","dict_reverseitemiterator","odict_iterator","itertools.zip_longest","itertools.pairwise"].contains n=false)(hQ:Q () s):wpAny M A (letOwnedTupleGo tg (.ref it) u) Q E s:=by
 unfold letOwnedTupleGo
 cases tg<;>first
  |exact wpAny_pure hQ
  |(cases u<;>first
     |exact wpAny_pure hQ
     |(refine wpAny_bind (wpAny_load ho ?_)
       rw[hc,hd]
       show wpAny M A (if(["enumerate","zip","dict_itemiterator","dict_reverseitemiterator","odict_iterator","itertools.zip_longest","itertools.pairwise"].contains n && vs[0]?== some (rawInt _))=true then _ else _) Q E s
       rw[if_neg (by intro h;rw[hn,Bool.false_and] at h;cases h)]
       exact wpAny_pure hQ))
def WT(K:PySem.W.Frag)(a:Addr):It:=
 ⟨fun i H=>∃xs x,aF K H a xs∧xs[i]?=some x,fun i H x H'=>H'=H∧∀xs,aF K H a xs→xs[i]?=some x,fun i H=>∃xs,aF K H a xs∧xs.length≤i⟩
def Itt(K:PySem.W.Frag)(a:Addr):It:=
 ⟨fun i H=>∃xs x,cZ K H a xs∧xs[i]?=some x,fun i H x H'=>H'=H∧∀xs,cZ K H a xs→xs[i]?=some x,fun i H=>∃xs,cZ K H a xs∧xs.length≤i⟩
def Itr(lo:Int)(n:Nat):It:=⟨fun i _=>i<n,fun i H x H'=>H'=H∧x=.int (lo+i),fun i _=>n≤i⟩
theorem Es{P:Program}{w:World}{K:PySem.W.Frag}{tg:Expr}(a it:Addr):Turn P w K tg (WT K a) [it] it (fun i h=>h.IsListIter it a i) where
 mem:=by simp
 obj:=fun i h st b hb=>by
  have e:b=it:=by simpa using hb
  subst e
  obtain⟨o,e,c,d⟩:=st
  exact⟨o,e,fun v z=>by rw[d] at z;cases z⟩
 keep:=fun i h h' st k=>st.at fun o e=>k it (by simp) o e
 item:=by
  intro X hP hw hK hc i pins s σ H E I hf st hg
  subst hP hw hK
  obtain⟨xs,x,hq,hx⟩:=hg
  obtain⟨its,rv,p,hz⟩:=I.list hq
  obtain⟨u,hu,ru⟩:=rv.get hx
  obtain⟨f0,f1,f2,f3,f4,f5⟩:=hf it (by simp)
  refine wpAny_pyNext_list_item st p.isList (x:=u) (by simpa using hu) fun h' st' sb=>?_
  have I1:Inv X pins σ H {s with heap:=h'}:=I.turned (t':=s.toks) (fun b o hb e=>(sb.2 b hb).trans e) f0 f1 f3 f4 f5
  obtain⟨o,e,c,d⟩:=id st'
  exact⟨u,rfl,Cz (s:={s with heap:=h'}) e c d (by decide) ⟨x,H,I1,ru,⟨rfl,fun ys hy=>by rw[I.nW hy hq];exact hx⟩,st',fun b hb=>(hf b hb).1⟩⟩
 done:=by
  intro X hP hw hK hc i pins s σ H E I hf st hg
  subst hP hw hK
  obtain⟨xs,hq,hx⟩:=hg
  obtain⟨its,rv,p,hz⟩:=I.list hq
  obtain⟨f0,f1,f2,f3,f4,f5⟩:=hf it (by simp)
  have hl:=rv.length
  exact wpAny_pyNext_list_end (I.ok.hd hc) st p.isList (by simp;omega) fun h' eb=>⟨rfl,I.turned (t':=s.toks) (fun b o hb e=>eb b o hb e) f0 f1 f3 f4 f5⟩
 self:=fun _ _ _ _ _ st h=>wpAny_pyIter_listiter st h
theorem zP{P:Program}{w:World}{K:PySem.W.Frag}{tg:Expr}(a it:Addr):Turn P w K tg (Itt K a) [it] it (fun i h=>h.IsTupleIter it a i) where
 mem:=by simp
 obj:=fun i h st b hb=>by
  have e:b=it:=by simpa using hb
  subst e
  obtain⟨o,e,c,d⟩:=st
  exact⟨o,e,fun v z=>by rw[d] at z;cases z⟩
 keep:=fun i h h' st k=>st.at fun o e=>k it (by simp) o e
 item:=by
  intro X hP hw hK hc i pins s σ H E I hf st hg
  subst hP hw hK
  obtain⟨xs,x,hq,hx⟩:=hg
  obtain⟨its,rv,p,hz⟩:=I.tuple hq
  obtain⟨u,hu,ru⟩:=rv.get hx
  obtain⟨f0,f1,f2,f3,f4,f5⟩:=hf it (by simp)
  refine wpAny_pyNext_tuple_item st (show s.heap.IsTuple a its.toArray from p) (x:=u) (by simpa using hu) fun h' st' sb=>?_
  have I1:Inv X pins σ H {s with heap:=h'}:=I.turned (t':=s.toks) (fun b o hb e=>(sb.2 b hb).trans e) f0 f1 f3 f4 f5
  obtain⟨o,e,c,d⟩:=id st'
  exact⟨u,rfl,Cz (s:={s with heap:=h'}) e c d (by decide) ⟨x,H,I1,ru,⟨rfl,fun ys hy=>by rw[I.qL hy hq];exact hx⟩,st',fun b hb=>(hf b hb).1⟩⟩
 done:=by
  intro X hP hw hK hc i pins s σ H E I hf st hg
  subst hP hw hK
  obtain⟨xs,hq,hx⟩:=hg
  obtain⟨its,rv,p,hz⟩:=I.tuple hq
  obtain⟨f0,f1,f2,f3,f4,f5⟩:=hf it (by simp)
  have hl:=rv.length
  exact wpAny_pyNext_tuple_end (I.ok.hd hc) st (show s.heap.IsTuple a its.toArray from p) (by simp;omega) fun h' eb=>⟨rfl,I.turned (t':=s.toks) (fun b o hb e=>eb b o hb e) f0 f1 f3 f4 f5⟩
 self:=fun _ _ _ _ _ st h=>wpAny_pyIter_tupleiter st h
theorem zQ{P:Program}{w:World}{K:PySem.W.Frag}{tg:Expr}(it:Addr)(lo:Int)(n:Nat):Turn P w K tg (Itr lo n) [it] it (fun i h=>IsRangeIter h it (lo+(i:Nat)*1) ((n:Int)-(i:Nat)) 1) where
 mem:=by simp
 obj:=fun i h st b hb=>by
  have e:b=it:=by simpa using hb
  subst e
  exact⟨_,st,fun v z=>by
   have z':Data.fields _=Data.cell v:=z
   cases z'⟩
 keep:=fun i h h' st k=>k it (by simp) _ st
 item:=by
  intro X hP hw hK hc i pins s σ H E I hf st hg
  subst hP hw hK
  obtain⟨f0,f1,f2,f3,f4,f5⟩:=hf it (by simp)
  have W:=Walks.range (prog:=X.prog) (w:=X.w) (I.ok.hd hc) it lo 1 n
  refine W.item i s _ _ hg st fun v h' tk hv st' kk=>?_
  obtain⟨t,rfl⟩:=hv
  have I1:Inv X pins σ H {s with heap:=h',toks:=tk}:=I.turned (fun b o hb e=>kk b o (by simpa using hb) e) f0 f1 f3 f4 f5
  refine⟨_,rfl,Cz (s:={s with heap:=h',toks:=tk}) (n:= "range_iterator") st' rfl rfl (by decide) ⟨.int (lo+i),H,I1,⟨t,?_⟩,⟨rfl,rfl⟩,st',fun b hb=>(hf b hb).1⟩⟩
  rw[Int.mul_one]
 done:=by
  intro X hP hw hK hc i pins s σ H E I hf st hg
  subst hP hw hK
  obtain⟨f0,f1,f2,f3,f4,f5⟩:=hf it (by simp)
  exact wpAny_pyNext_range_end (I.ok.hd hc) st (by have:n≤i:=hg;omega) fun h' eb=>⟨rfl,I.turned (t':=s.toks) (fun b o hb e=>eb b o hb e) f0 f1 f3 f4 f5⟩
 self:=fun _ _ _ _ _ st h=>wpAny_pyIter_rangeiter st h
end L2
namespace L2
open PySem PySem.Spec PyProof.Rows
section
variable{X:Cx}{tg:Expr}
theorem GQ{pins:List (Addr×Obj)}{σ:St}{H:Hp}{s:Shared}{R:It→Hp→Prop}{E:Value→Shared→Prop}{lo hi:Int}{t u v:Tok}{tk:Nat}(I:Inv X pins σ H s)(h1: -(2 ^ 62)≤lo)(h2:lo<2 ^ 62)(h3: -(2 ^ 62)≤hi)(h4:hi<2 ^ 62)
 (q:R (Itr lo (hi-lo).toNat) H):wpAny (model X.prog X.w) X.A (pyIter (.ref s.heap.objs.size)) (PIE X pins σ tg R) E {s with heap:=s.heap.push {cls:=.type "range",data:=.fields #[.int lo t,.int hi u,.int 1 v]},toks:=tk}:=by
 refine wpAny_pyIter_range (IsRange.new ..) (small_one h1 h2 h3 h4) ?_
 have I1:Inv X pins σ H {s with heap:=s.heap.push {cls:=.type "range",data:=.fields #[.int lo t,.int hi u,.int 1 v]},toks:=tk}:=I.kept fun b o e=>Heap.get?_push_of_some _ e
 refine⟨(s.heap.push {cls:=.type "range",data:=.fields #[.int lo t,.int hi u,.int 1 v]}).objs.size,[(s.heap.push {cls:=.type "range",data:=.fields #[.int lo t,.int hi u,.int 1 v]}).objs.size],_,_,H,rfl,
  I1.kept (t':=tk) fun b o e=>Heap.get?_push_of_some _ e,zQ _ lo (hi-lo).toNat,?_,fun b hb=>?_,q⟩
 ·have e1:lo+((0:Nat):Int)*1=lo:=by simp
  have e2:(((hi-lo).toNat:Nat):Int)-((0:Nat):Int)=Builtin.Range.rangeSize lo hi 1:=by rw[rangeSize_one];split<;>omega
  show IsRangeIter _ _ (lo+((0:Nat):Int)*1) ((((hi-lo).toNat:Nat):Int)-((0:Nat):Int)) 1
  rw[e1,e2]
  exact Heap.get?_push_size _ rfl
 ·have e:b=(s.heap.push {cls:=.type "range",data:=.fields #[.int lo t,.int hi u,.int 1 v]}).objs.size:=by simpa using hb
  subst e
  exact I1.Er (Nat.le_refl _) (I1.hok.fresh (Nat.le_refl _))
def ZcE(ta:TA):TI:=fun σ H R=>ta σ H fun vs H1=>∃j:Int,vs=[.int j]∧ -(2 ^ 62)≤j∧j<2 ^ 62∧R (Itr 0 j.toNat) H1
theorem Eu{a:Expr}{ta:TA}{p pos:Pos}(hg:Gl X "range")(hm:X.mg "range" =none)(ha:PA X [a] ta)(hs:starEach [a] X.env=[(false,eval a X.env)]:=by rfl):PI X tg (.Call (.Name "range" p) [a] [] pos) (ZcE ta):=by
 intro pins s σ H R I h
 refine Call_ (gb I hg hm boot_range (PyProof.Rows.callWith_type1 (ŧ (ha pos pins s σ H _ I h) fun us s1 ⟨vs,H1,I1,r1,q1⟩=>?_) hs rfl))
 obtain⟨j,e,q1,q2,q⟩:=q1
 subst e
 cases r1 with
 |cons r rr=>
  cases rr
  obtain⟨t,rfl⟩:=r
  exact call_range_1 (GQ I1 (by omega) (by omega) q1 q2 (by simpa using q))
def Zko(wi:TI)(g:TG)(tb:TS):TS:=fun D σ H=>wi σ H fun J H1=>∃W:Nat→Nat→St→Hp→Prop,(∃m,W 0 m σ H1)∧∀i m σ H,W i m σ H→
 (J.stop i H∧D.nx σ H)∨(J.go i H∧∃N:St→Hp→Prop,(∀σ' H',N σ' H'→∃m',m'<m∧W (i+1) m' σ' H')∧∀x H',J.yld i H x H'→g x σ H' fun σ2 H2=>tb {D with nx:=N,ct:=N,bk:=D.nx} σ2 H2)
def kh(fp:List Addr)(h:Heap):List (Addr×Obj):=fp.filterMap fun b=>(h.get? b).map fun o=>(b,o)
theorem bD{fp:List Addr}{h:Heap}{b:Addr}{o:Obj}(hb:b∈fp)(e:h.get? b=some o):(b,o)∈kh fp h:=List.mem_filterMap.mpr ⟨b,hb,by rw[e];rfl⟩
theorem Ew{fp:List Addr}{h:Heap}{p:Addr×Obj}(hp:p∈kh fp h):p.1∈fp∧h.get? p.1=some p.2:=by
 obtain⟨b,hb,e⟩:=List.mem_filterMap.mp hp
 cases q:h.get? b with
 |none=>rw[q] at e;cases e
 |some o=>
  rw[q] at e
  have e':(b,o)=p:=Option.some.inj e
  subst e'
  exact⟨hb,q⟩
theorem Inv.pinned{pins:List (Addr×Obj)}{σ:St}{H:Hp}{s:Shared}{fp:List Addr}(I:Inv X pins σ H s)(hf:∀b∈fp,gj X pins H b)(ho:∀b∈fp,∃o,s.heap.get? b=some o∧∀v,o.data≠ .cell v):Inv X (pins++kh fp s.heap) σ H s:=
 I.Cw fun p hp=>(List.mem_append.mp hp).elim (fun z=>I.pin p (List.mem_append_right _ z)) fun z=>by
   obtain⟨hb,e⟩:=Ew z
   obtain⟨f0,f1,f2,_⟩:=hf p.1 hb
   obtain⟨o,e',d⟩:=ho p.1 hb
   rw[e] at e';cases e'
   exact⟨e,f0,f1,f2,d⟩
theorem Inv.gk{pins pl:List (Addr×Obj)}{σ:St}{H:Hp}{s:Shared}(I:Inv X (pins++pl) σ H s):Inv X pins σ H s:=I.Cw fun p hp=>I.pin p (List.mem_append_right _ (List.mem_append_left _ hp))
theorem WW{iter:Expr}{body:List Stmt}{wi:TI}{g:TG}{tb:TS}{pos:Pos}(hp:PassesOwn (model X.prog X.w) X.A X.env X.xe)(hc:X.calm=true)(hi:PI X tg iter wi)(hg:PG X tg g)(hb:jc X body tb)
 (hs:∀x,foldedSetIterable iter X.env x=pure x:=by intro _;rfl):PS X (.For tg iter body [] pos) (Zko wi g tb):=by
 intro pins s σ H D I h
 refine wpAny_For (ŧ (hi pins s σ H _ I h) fun v s1 h1=>ŧ h1 fun itv s2 h2=>?_) hs
 obtain⟨it,fp,tn,J,H2,e,I2,T,st2,f2,W,⟨m0,w0⟩,turn⟩:=h2
 subst e
 -- what stays true of the iterator's objects through the loop
 have stat:∀{H':Hp},(∀b∈fp,H' b=none)→∀b∈fp,gj X pins H' b:=fun hn b hb=>⟨hn b hb,(f2 b hb).2⟩
 refine codeAny_forLoop_any (fun n s'=>∃i σ' H',Inv X pins σ' H' s'∧tn i s'.heap∧(∀b∈fp,H' b=none)∧W i n σ' H') ?_ m0 ⟨0,σ,H2,I2,st2,fun b hb=>(f2 b hb).1,w0⟩
 rintro n s3 ⟨i,σ3,H3,I3,st3,fr3,w3⟩
 rcases turn i n σ3 H3 w3 with⟨stop,qn⟩|⟨go,N,hN,step⟩
 ·refine wpAny_passesOwn hp (ŧ (T.done X rfl rfl rfl hc i pins s3 σ3 H3 X.xe I3 (stat fr3) st3 stop) fun r s4 ⟨hr,I4⟩=>?_)
  subst hr
  exact wpAny_execs_nil ⟨σ3,H3,I4,qn⟩
 ·refine wpAny_passesOwn hp (ŧ (T.item X rfl rfl rfl hc i pins s3 σ3 H3 X.xe I3 (stat fr3) st3 go) fun r s4 ⟨u,hr,h4⟩=>?_)
  subst hr
  refine wpAny_passesOwn hp (ŧ h4 fun _ s5 ⟨x,H5,I5,r5,y5,QZ,WX⟩=>?_)
  have I5':=I5.pinned (stat WX) (T.obj _ _ QZ)
  refine wpAny_passesOwn hp (ŧ (hg _ s5 σ3 H5 x u _ I5' r5 (step x H5 y5)) fun _ s6 ⟨σ6,H6,I6,q6⟩=>?_)
  refine wpAny_passesOwn hp (ŧ (hb _ s6 σ6 H6 _ I6 q6) fun f s7 q7=>?_)
  have again:∀{σ7:St} {H7:Hp},Inv X (pins++kh fp s5.heap) σ7 H7 s7→N σ7 H7→∃m,m<n∧∃i σ' H',Inv X pins σ' H' s7∧tn i s7.heap∧(∀b∈fp,H' b=none)∧W i m σ' H':=fun{σ7 H7} I7 n7=>by
   obtain⟨m',hm,w7⟩:=hN σ7 H7 n7
   refine⟨m',hm,i+1,σ7,H7,I7.gk,T.keep _ _ _ QZ fun b hb o e=>(I7.pin (b,o) (List.mem_append_right _ (List.mem_append_right _ (bD hb e)))).1,fun b hb=>?_,w7⟩
   obtain⟨o,e,d⟩:=T.obj _ _ QZ b hb
   exact(I7.pin (b,o) (List.mem_append_right _ (List.mem_append_right _ (bD hb e)))).2.1
  cases f with
  |next=>obtain⟨σ7,H7,I7,n7⟩:=q7;exact again I7 n7
  |cont=>obtain⟨σ7,H7,I7,n7⟩:=q7;exact again I7 n7
  |brk=>obtain⟨σ7,H7,I7,q7⟩:=q7;exact⟨σ7,H7,I7.gk,q7⟩
  |ret v=>obtain⟨x7,σ7,H7,I7,r7,q7⟩:=q7;exact⟨x7,σ7,H7,I7.gk,r7,q7⟩
end
end L2
namespace L2
open PySem PySem.Spec PyProof.Rows
abbrev R2:=V→V→Hp→VK→Prop
def bh(X:Cx)(f:Value→Value→Sem Value)(r:R2):Prop:=
 ∀(pins:List (Addr×Obj)) (s:Shared) (σ:St) (H:Hp) (x y:V) (v u:Value) (Q:VK),Inv X pins σ H s→RelV x v→RelV y u→r x y H Q→
  wpAny (model X.prog X.w) X.A (f v u) (EP X pins σ Q) X.xe s
def Q_(X:Cx)(f:Value→Sem Value)(r:V→Hp→VK→Prop):Prop:=
 ∀(pins:List (Addr×Obj)) (s:Shared) (σ:St) (H:Hp) (x:V) (v:Value) (Q:VK),Inv X pins σ H s→RelV x v→r x H Q→
  wpAny (model X.prog X.w) X.A (f v) (EP X pins σ Q) X.xe s
def Ş(X:Cx)(f:Value)(r:List V→Hp→VK→Prop):Prop:=
 ∀(pins:List (Addr×Obj)) (s:Shared) (σ:St) (H:Hp) (xs:List V) (us:List Value) (Q:VK),Inv X pins σ H s→Vals xs us→r xs H Q→
  wpAny (model X.prog X.w) X.A (call f us) (EP X pins σ Q) X.xe s
def Zkp(X:Cx)(r:V→Hp→(Bool→Hp→Prop)→Prop):Prop:=
 ∀(pins:List (Addr×Obj)) (s:Shared) (σ:St) (H:Hp) (x:V) (v:Value) (Q:Bool→Hp→Prop),Inv X pins σ H s→RelV x v→r x H Q→
  wpAny (model X.prog X.w) X.A (truthy v) (TP X pins σ Q) X.xe s
def tOp(r:R2)(ta tb:TE):TE:=fun σ H Q=>ta σ H fun x H1=>tb σ H1 fun y H2=>r x y H2 Q
def tUn(r:V→Hp→VK→Prop)(ta:TE):TE:=fun σ H Q=>ta σ H fun x H1=>r x H1 Q
def rI(C:Int→Int→Prop)(g:Int→Int→V):R2:=fun x y H Q=>∃i j,x=.int i∧y=.int j∧C i j∧Q (g i j) H
def Ra(g:Int→Int→V):R2:=fun x y H Q=>∃i j,x=.int i∧y=.int j∧Q (g i j) H
def rU(g:Int→V):V→Hp→VK→Prop:=fun x H Q=>∃i,x=.int i∧Q (g i) H
section
variable{X:Cx}{a b c:Expr}{ta tb tc:TE}{pos:Pos}
theorem WY(ha:PE X a ta)(hb:PE X b tb){pins:List (Addr×Obj)}{s:Shared}{σ:St}{H:Hp}{R:V→V→Hp→Prop}(I:Inv X pins σ H s)
 (h:ta σ H fun x H1=>tb σ H1 fun y H2=>R x y H2){Q:Value→Shared→Prop}{f:Value→Value→Sem Value}
 (hf:∀v u s2 x y H2,Inv X pins σ H2 s2→RelV x v→RelV y u→R x y H2→wpAny (model X.prog X.w) X.A (f v u) Q X.xe s2) :
 wpAny (model X.prog X.w) X.A (eval a X.env) (fun v s₁=>wpAny (model X.prog X.w) X.A (eval b X.env) (fun u s₂=>wpAny (model X.prog X.w) X.A (f v u) Q X.xe s₂) X.xe s₁) X.xe s:=by
 refine ŧ (ha pins s σ H _ I h) fun v s1 ⟨x,H1,I1,r1,q1⟩=>?_
 refine ŧ (hb pins s1 σ H1 _ I1 q1) fun u s2 ⟨y,H2,I2,r2,q2⟩=>?_
 exact hf v u s2 x y H2 I2 r1 r2 q2
theorem Uj{op:Operator}{r:R2}(ho:bh X (binaryOp op) r)(ha:PE X a ta)(hb:PE X b tb):PE X (.BinOp a op b pos) (tOp r ta tb):=by
 intro pins s σ H Q I h
 exact wpAny_BinOp (WY ha hb I h fun v u s2 x y H2 I2 rx ry q=>ho pins s2 σ H2 x y v u Q I2 rx ry q)
theorem ZcF{op:UnaryOp}{r:V→Hp→VK→Prop}(ho:Q_ X (unaryOp op) r)(ha:PE X a ta):PE X (.UnaryOp op a pos) (tUn r ta):=by
 intro pins s σ H Q I h
 exact UnaryOp_ (ŧ (ha pins s σ H _ I h) fun v s1 ⟨x,H1,I1,r1,q1⟩=>ho pins s1 σ H1 x v Q I1 r1 q1)
theorem Gv{f:Value→Value→Sem Value}{C:Int→Int→Prop}{g:Int→Int→Int}
 (rule:∀(i j:Int) (t u:Tok) (s:Shared) (Q:Value→Shared→Prop) (E:Value→Shared→Prop),C i j→Q (.int (g i j) s.toks) {s with toks:=s.toks+1}→wpAny (model X.prog X.w) X.A (f (.int i t) (.int j u)) Q E s) :
 bh X f (rI C fun i j=>.int (g i j)):=by
 intro pins s σ H x y v u Q I rx ry h
 obtain⟨i,j,rfl,rfl,hc,q⟩:=h
 obtain⟨t,rfl⟩:=rx
 obtain⟨t',rfl⟩:=ry
 exact rule i j t t' s _ _ hc ⟨.int (g i j),H,I.tok _,⟨_,rfl⟩,q⟩
theorem Ey{f:Value→Value→Sem Value}{g:Int→Int→Int}
 (rule:∀(i j:Int) (t u:Tok) (s:Shared) (Q:Value→Shared→Prop) (E:Value→Shared→Prop),Q (.int (g i j) s.toks) {s with toks:=s.toks+1}→wpAny (model X.prog X.w) X.A (f (.int i t) (.int j u)) Q E s) :
 bh X f (Ra fun i j=>.int (g i j)):=by
 intro pins s σ H x y v u Q I rx ry h
 obtain⟨i,j,rfl,rfl,q⟩:=h
 obtain⟨t,rfl⟩:=rx
 obtain⟨t',rfl⟩:=ry
 exact rule i j t t' s _ _ ⟨.int (g i j),H,I.tok _,⟨_,rfl⟩,q⟩
theorem Rb{f:Value→Value→Sem Value}{g:Int→Int→Bool}
 (rule:∀(i j:Int) (t u:Tok) (s:Shared) (Q:Value→Shared→Prop) (E:Value→Shared→Prop),Q (.bool (g i j)) s→wpAny (model X.prog X.w) X.A (f (.int i t) (.int j u)) Q E s) :
 bh X f (Ra fun i j=>.bl (g i j)):=by
 intro pins s σ H x y v u Q I rx ry h
 obtain⟨i,j,rfl,rfl,q⟩:=h
 obtain⟨t,rfl⟩:=rx
 obtain⟨t',rfl⟩:=ry
 exact rule i j t t' s _ _ ⟨.bl (g i j),H,I,rfl,q⟩
def W_(i j:Int):Prop:=0≤j∧j≤1000000∧i.natAbs<2 ^ 64
def Xa(i j:Int):Prop:=(-(2 ^ 64)<i∧i<2 ^ 64)∨(-(2 ^ 64)<j∧j<2 ^ 64)
theorem Xa.ok{i j:Int}(h:Xa i j):IntMulOk i j:=by
 rcases h with⟨h1,h2⟩|⟨h1,h2⟩
 ·exact .of_left (intBits_le_64 h1 h2)
 ·exact .of_right (intBits_le_64 h1 h2)
theorem Xb:bh X (binaryOp .Add) (Ra fun i j=>.int (i+j)):=Ey fun _ _ _ _ _ _ _ q=>add_int q
theorem Xc:bh X (binaryOp .Sub) (Ra fun i j=>.int (i-j)):=Ey fun _ _ _ _ _ _ _ q=>sub_int q
theorem Rf:bh X (binaryOp .Mod) (rI (fun _ j=>j≠0) fun i j=>.int (i.fmod j)):=Gv fun _ _ _ _ _ _ _ hc q=>mod_int' hc q
theorem Xd:bh X (binaryOp .Pow) (rI W_ fun i j=>.int (i ^ j.toNat)):=Gv fun _ _ _ _ _ _ _ hc q=>pow_int_small hc.1 hc.2.1 hc.2.2 q
theorem unI{f:Value→Sem Value}{g:Int→Int}
 (rule:∀(i:Int) (t:Tok) (s:Shared) (Q:Value→Shared→Prop) (E:Value→Shared→Prop),Q (.int (g i) s.toks) {s with toks:=s.toks+1}→wpAny (model X.prog X.w) X.A (f (.int i t)) Q E s) :
 Q_ X f (rU fun i=>.int (g i)):=by
 intro pins s σ H x v Q I rx h
 obtain⟨i,rfl,q⟩:=h
 obtain⟨t,rfl⟩:=rx
 exact rule i t s _ _ ⟨.int (g i),H,I.tok _,⟨_,rfl⟩,q⟩
theorem Xe:Q_ X (unaryOp .USub) (rU fun i=>.int (-i)):=unI fun _ _ _ _ _ q=>neg_int q
end
section
variable{X:Cx}{a b c:Expr}{ta tb tc:TE}{pos:Pos}
theorem Xf{pins:List (Addr×Obj)}{σ:St}{H:Hp}{s:Shared}{Q:VK}{k k':Bool}(I:Inv X pins σ H s)(q:Q (.bl k) H)(e:k=k'):EP X pins σ Q (.bool k') s:=by
 subst e
 exact⟨.bl k,H,I,rfl,q⟩
theorem ZcG:bh X (compareOp .Lt) (Ra fun i j=>.bl (decide (i<j))):=Rb fun _ _ _ _ _ _ _ q=>lt_int q
theorem ZcH:bh X (compareOp .LtE) (Ra fun i j=>.bl (decide (i≤j))):=Rb fun _ _ _ _ _ _ _ q=>le_int q
theorem ZcI:bh X (compareOp .Gt) (Ra fun i j=>.bl (decide (j<i))):=Rb fun _ _ _ _ _ _ _ q=>gt_int q
theorem ZcJ:bh X (compareOp .GtE) (Ra fun i j=>.bl (decide (j≤i))):=Rb fun _ _ _ _ _ _ _ q=>ge_int q
theorem zR:bh X (compareOp .Is) (fun x y H Q=>y=.non∧Q (.bl (decide (x=.non))) H):=by
 intro pins s σ H x y v u Q I rx ry h
 obtain⟨rfl,q⟩:=h
 cases ry
 refine is_none_gen (Xf I q ?_)
 cases x<;>first
  |(cases rx;rfl)
  |(obtain⟨t,rfl⟩:=rx;rfl)
theorem bh.or{f:Value→Value→Sem Value}{r r':R2}(h:bh X f r)(h':bh X f r'):bh X f (fun x y H Q=>r x y H Q∨r' x y H Q):=by
 intro pins s σ H x y v u Q I rx ry q
 rcases q with q|q
 ·exact h pins s σ H x y v u Q I rx ry q
 ·exact h' pins s σ H x y v u Q I rx ry q
theorem ł(b:Expr){op:CmpOp}(h:op≠ .In:=by decide)(h2:op≠ .NotIn:=by decide):behindInMarks op b=false:=by
 have e1:(op== CmpOp.In)=false:=by cases op<;>first|rfl|exact absurd rfl h
 have e2:(op== CmpOp.NotIn)=false:=by cases op<;>first|rfl|exact absurd rfl h2
 cases b<;>simp[behindInMarks,e1,e2]
theorem Rg{op:CmpOp}{r:R2}(ho:bh X (compareOp op) r)(ha:PE X a ta)(hb:PE X b tb)(hm:behindInMarks op b=false):PE X (.Compare a [op] [b] pos) (tOp r ta tb):=by
 intro pins s σ H Q I h
 exact wpAny_Compare1 (WY ha hb I h fun v u s2 x y H2 I2 rx ry q=>ho pins s2 σ H2 x y v u Q I2 rx ry q) hm
def Xg(K:PySem.W.Frag)(x:V)(H:Hp)(k:Bool):Prop:=
 match x with
 | .non=>k=false
 | .bl b=>k=b
 | .int i=>k=(i != 0)
 | .str y=>y.length≤sizeLine∧k=((y.length:Int) != 0)
 | .Ug y=>y.size≤sizeLine∧k=((y.size:Int) != 0)
 | .ref p=>(∃xs,aF K H p xs∧k=!xs.isEmpty)∨(∃xs,cZ K H p xs∧k=!xs.isEmpty)∨∃kvs,H p=some (.dK kvs)∧k=!kvs.isEmpty
 |_=>False
theorem zT{κ:Type}{kvs:List (κ×V)}{vs:List (κ×Value)}(r:KV kvs vs):(!vs.isEmpty)=!kvs.isEmpty:=by
 cases r<;>rfl
theorem nY{xs:List V}{its:List Value}(r:Vals xs its):(!its.toArray.isEmpty)=!xs.isEmpty:=by
 cases r<;>simp
theorem kj:(sizeLine:Nat)<2 ^ 63:=by rw[sizeLine_eq];decide
theorem Xh:Zkp X (fun x H Q=>∃k,Xg X.K x H k∧Q k H):=by
 intro pins s σ H x v Q I rx h
 obtain⟨k,e,q⟩:=h
 have hl:=kj
 have hs:sizeLine=16777216:=sizeLine_eq
 cases x with
 |non=>
  cases rx
  have e':k=false:=e
  subst e'
  exact truthy_none ⟨H,I,q⟩
 |bl b=>
  cases rx
  have e':k=b:=e
  subst e'
  exact wpAny_truthy_bool ⟨H,I,q⟩
 |int i=>
  obtain⟨t,rfl⟩:=rx
  have e':k=(i != 0):=e
  subst e'
  exact PySem.P.truthy_int ⟨H,I,q⟩
 |str y=>
  obtain⟨t,rfl⟩:=rx
  obtain⟨hy,e'⟩:y.length≤sizeLine∧k=((y.length:Int) != 0):=e
  subst e'
  exact PySem.P.truthy_str (by omega) ⟨H,I.tok _,q⟩
 |Ug y=>
  obtain⟨t,rfl⟩:=rx
  obtain⟨hy,e'⟩:y.size≤sizeLine∧k=((y.size:Int) != 0):=e
  subst e'
  exact PySem.W.truthy_bytes (by omega) ⟨H,I.tok _,q⟩
 |ref p=>
  cases rx
  have e':(∃xs,aF X.K H p xs∧k=!xs.isEmpty)∨(∃xs,cZ X.K H p xs∧k=!xs.isEmpty)∨∃kvs,H p=some (.dK kvs)∧k=!kvs.isEmpty:=e
  rcases e' with⟨xs,hx,e'⟩|⟨xs,hx,e'⟩|⟨kvs,hx,e'⟩
  ·subst e'
   obtain⟨its,r,pl,hz⟩:=I.list hx
   have hlen:=r.length
   exact wpAny_truthy_list pl.isList (by simp only[List.size_toArray];omega) ⟨H,I.tok _,by rw[nY r];exact q⟩
  ·subst e'
   obtain⟨its,r,pl,hz⟩:=I.tuple hx
   have hlen:=r.length
   exact truthy_tuple pl (by simp only[List.size_toArray];omega) ⟨H,I.tok _,by rw[nY r];exact q⟩
  ·subst e'
   obtain⟨hz,hS,vs,r,m⟩:kvs.length≤sizeLine∧(p== sysModules)=false∧∃vs,KV kvs vs∧s.heap.DictOf (tK X.prog X.w) p vs:=I.hok p _ hx
   have hlen:kvs.length=vs.length:=Paired.length r
   exact wpAny_truthy_dict hS m (by omega) ⟨H,I.tok _,by rw[zT r];exact q⟩
 |_=>exact(show False from e).elim
theorem GR(ha:PE X a ta)(he:∀whole,isTrue a X.env whole=(do let v ←whole;standAt a.pos;holding [v] (truthy v))) :
 PT X a (fun σ H Q=>ta σ H fun x H'=>∃k,Xg X.K x H' k∧Q k H'):=by
 intro pins s σ H Q I h
 exact isTrue_plain (ŧ (ha pins s σ H _ I h) fun v s1 ⟨x,H1,I1,r1,q1⟩=>Xh pins s1 σ H1 x v Q I1 r1 q1) (he _)
theorem zU:bh X (binaryOp .Add) (fun x y H Q=>∃i j,x=.str i∧y=.str j∧i.length+j.length≤sizeLine∧Q (.str (i++j)) H):=by
 intro pins s σ H x y v u Q I rx ry h
 obtain⟨i,j,rfl,rfl,hz,q⟩:=h
 obtain⟨t,rfl⟩:=rx
 obtain⟨t',rfl⟩:=ry
 exact add_str (fun t' tk=>⟨.str (i++j),H,I.tok _,⟨_,rfl⟩,q⟩) hz
theorem vals1{x:V}{us:List Value}(r:Vals [x] us):∃u,us=[u]∧RelV x u:=by
 cases r with
 |cons r1 r2=>cases r2;exact⟨_,rfl,r1⟩
theorem vals2{x y:V}{us:List Value}(r:Vals [x,y] us):∃u w',us=[u,w']∧RelV x u∧RelV y w':=by
 cases r with
 |cons r1 r2=>
  cases r2 with
  |cons r3 r4=>cases r4;exact⟨_,_,rfl,r1,r3⟩
theorem GX:Ş X (.builtin "abs") (fun xs H Q=>∃i,xs=[.int i]∧Q (.int (if i<0 then -i else i)) H):=by
 intro pins s σ H xs us Q I r h
 obtain⟨i,rfl,q⟩:=h
 obtain⟨u,rfl,t,rfl⟩:=vals1 r
 exact call_abs_int fun u tk=>⟨.int (if i<0 then -i else i),H,I.tok _,⟨_,rfl⟩,q⟩
theorem Ez(hc:X.calm=true):Ş X (.builtin "max") (fun xs H Q=>∃i j,xs=[.int i,.int j]∧Q (.int (if j>i then j else i)) H):=by
 intro pins s σ H xs us Q I r h
 obtain⟨i,j,rfl,q⟩:=h
 obtain⟨u,w',rfl,⟨t,rfl⟩,⟨t',rfl⟩⟩:=vals2 r
 refine max_two_ints (I.ok.hd hc) fun h' tk k=>⟨_,H,I.kept k,?_,q⟩
 by_cases hj:j>i
 ·rw[if_pos hj,if_pos hj];exact⟨_,rfl⟩
 ·rw[if_neg hj,if_neg hj];exact⟨_,rfl⟩
theorem EY(hc:X.calm=true):Ş X (.builtin "min") (fun xs H Q=>∃i j,xs=[.int i,.int j]∧Q (.int (if j<i then j else i)) H):=by
 intro pins s σ H xs us Q I r h
 obtain⟨i,j,rfl,q⟩:=h
 obtain⟨u,w',rfl,⟨t,rfl⟩,⟨t',rfl⟩⟩:=vals2 r
 refine min_two_ints (I.ok.hd hc) fun h' tk k=>⟨_,H,I.kept k,?_,q⟩
 by_cases hj:j<i
 ·rw[if_pos hj,if_pos hj];exact⟨_,rfl⟩
 ·rw[if_neg hj,if_neg hj];exact⟨_,rfl⟩
theorem E_:Ş X (.type "int") (fun xs H Q=>(∃i,xs=[.int i]∧Q (.int i) H)∨∃k,xs=[.bl k]∧Q (.int (if k then 1 else 0)) H):=by
 intro pins s σ H xs us Q I r h
 rcases h with⟨i,rfl,q⟩|⟨k,rfl,q⟩
 ·obtain⟨u,rfl,t,rfl⟩:=vals1 r
  exact call_int_int ⟨.int i,H,I,⟨_,rfl⟩,q⟩
 ·obtain⟨u,rfl,r1⟩:=vals1 r
  cases r1
  exact call_int_bool ⟨.int (if k then 1 else 0),H,I.tok _,⟨_,rfl⟩,q⟩
def Zkq(K:PySem.W.Frag)(x:V)(H:Hp)(n:Nat):Prop:=
 match x with
 | .str y=>y.length≤sizeLine∧n=y.length
 | .Ug y=>y.size≤sizeLine∧n=y.size
 | .ref p=>(∃xs,aF K H p xs∧n=xs.length)∨∃xs,cZ K H p xs∧n=xs.length
 |_=>False
theorem GZ:Ş X (.builtin "len") (fun xs H Q=>∃x n,xs=[x]∧Zkq X.K x H n∧Q (.int n) H):=by
 intro pins s σ H xs us Q I r h
 obtain⟨x,n,rfl,e,q⟩:=h
 obtain⟨u,rfl,rx⟩:=vals1 r
 have hl:=kj
 have hs:sizeLine=16777216:=sizeLine_eq
 cases x with
 |str y=>
  obtain⟨t,rfl⟩:=rx
  obtain⟨hy,e'⟩:y.length≤sizeLine∧n=y.length:=e
  subst e'
  exact len_str (by omega) ⟨.int _,H,I.tok _,⟨_,rfl⟩,q⟩
 |Ug y=>
  obtain⟨t,rfl⟩:=rx
  obtain⟨hy,e'⟩:y.size≤sizeLine∧n=y.size:=e
  subst e'
  exact PySem.W.len_bytes (by omega) ⟨.int _,H,I.tok _,⟨_,rfl⟩,q⟩
 |ref p=>
  cases rx
  have e':(∃xs,aF X.K H p xs∧n=xs.length)∨∃xs,cZ X.K H p xs∧n=xs.length:=e
  rcases e' with⟨xs,hx,e'⟩|⟨xs,hx,e'⟩
  ·subst e'
   obtain⟨its,r',pl,hz⟩:=I.list hx
   have hlen:=r'.length
   exact Calls.call_len_list pl.isList (by simp only[List.size_toArray];omega) ⟨.int xs.length,H,I.tok _,⟨_,by simp only[List.size_toArray];rw[hlen]⟩,q⟩
  ·subst e'
   obtain⟨its,r',pl,hz⟩:=I.tuple hx
   have hlen:=r'.length
   exact len_tuple pl (by simp only[List.size_toArray];omega) ⟨.int xs.length,H,I.tok _,⟨_,by simp only[List.size_toArray];rw[hlen]⟩,q⟩
 |_=>exact(show False from e).elim
end
end L2
namespace L2
open PySem PySem.Spec PyProof.Rows
structure zV(h:Heap)(x dx C:Addr)(mA:Str→Option Value):Prop where
 obj:h.get? x=some (PySem.W.instObj C dx)
 ns:h.Ns1 dx mA
 ne:dx≠x
theorem kE{h:Heap}{dx:Addr}{mA:Str→Option Value}(n:h.Ns1 dx mA):∃od,h.get? dx=some od∧∀name,PySem.W.lookIn name od=some (mA name):=by
 obtain⟨o,es,ep,ho,hd,hk,_,hm⟩:=n
 refine⟨o,ho,fun name=>?_⟩
 have e:=hm name
 unfold nsFind findBy at e
 rw[←Array.find?_toList] at e
 unfold PySem.W.lookIn
 rw[hd]
 dsimp only
 split
 ·rename_i y q
  rw[q] at e
  exact congrArg some e
 ·rename_i q
  rw[q] at e
  have a:es.toList.any (·.refKey)=false:=by
   rw[List.any_eq_false]
   intro y hy
   obtain⟨z,t,hkey⟩:=hk y (Array.mem_toList_iff.mp hy)
   simp[DictEntry.refKey,hkey]
  have a':¬es.toList.any (·.refKey)=true:=by rw[a];exact Bool.false_ne_true
  rw[if_neg a']
  exact congrArg some e
theorem zV.look{h:Heap}{x dx C:Addr}{mA:Str→Option Value}(I:zV h x dx C mA):∃od,PySem.W.InstAt h x (PySem.W.instObj C dx) C (some od)∧∀name,PySem.W.lookIn name od=some (mA name):=
 let ⟨od,ho,hl⟩:=kE I.ns
 ⟨od,⟨I.obj,rfl,rfl,ho⟩,hl⟩
section
variable{prog:Program}{w:World}{A:Around}{E:Value→Shared→Prop}{s:Shared}{K:PySem.W.Frag}{x dx C f:Addr}{mA:Str→Option Value}{name:Str}{v:Value}
theorem get_map{expr:Bool}{Q:Value→Shared→Prop}(X:K.In s.heap)(I:zV s.heap x dx C mA)(hg:PySem.W.plainGet K C name=true)(hh:PySem.W.hasDictIn K C=true)
 (ha:PySem.W.findIn K (.ref C) name=some none)(hv:mA name=some v)(hv':PySem.W.handedIn v=true)(h:Q v {s with toks:=s.toks+1}) :
 wpAny (model prog w) A (getAttr (.ref x) name expr) Q E s:=by
 obtain⟨od,J,hl⟩:=I.look
 exact PySem.W.get_value X J (PySem.W.plainGet_of hg).1 (PySem.W.findObj_own hh ha rfl (by rw[hl,hv])) hv' h
theorem G_{pl:Sem Bool}{Q:Value×List Value→Shared→Prop}(X:K.In s.heap)(I:zV s.heap x dx C mA)(hg:PySem.W.plainGet K C name=true)
 (hf:PySem.W.findIn K (.ref C) name=some (some (.ref f)))(ht:PySem.W.isFn K (.ref f)=true)(hv:mA name=none)(h:Q (.ref f,[.ref x]) s) :
 wpAny (model prog w) A (getMethod (.ref x) name pl) Q E s:=by
 obtain⟨od,J,hl⟩:=I.look
 exact PySem.W.method_fn X J (PySem.W.plainGet_of hg).1 (PySem.W.plainGet_of hg).2 hf (beq_iff_eq.mp ht) (by show(PySem.W.lookIn name od).map (·.isSome)=some false;rw[hl,hv];rfl) h
theorem Rh{ns:List Str}{Q:Unit→Shared→Prop}(X:K.In s.heap)(I:zV s.heap x dx C mA)
 (hs:PySem.W.findIn K (.ref C) "__setattr__" =some (some (.builtin "object.__setattr__")))(hp:PySem.W.plainOver K C=true)(ht:PySem.W.takerIn K C name=some none)(hh:PySem.W.hasDictIn K C=true)
 (hw:PySem.Within mA ns)(hsz:ns.length≤sizeLine)
 (h:∀h',zV h' x dx C (fun y=>if y=name then some v else mA y)→Heap.SameBut dx s.heap h'→Q () {s with heap:=h',toks:=s.toks+2}) :
 wpAny (model prog w) A (setAttr (.ref x) name v) Q E s:=by
 obtain⟨od,J,hl⟩:=I.look
 refine PySem.W.set_plain X J hs (PySem.W.osa_open (s:={s with toks:=s.toks+1}) (r:=none) X J hp ht fun b=>?_)
 obtain⟨cd,hc,hd'⟩:=PySem.W.any_some hh
 have hx:s.heap.get? x=some ⟨.ref C,some dx,.plain,#[]⟩:=I.obj
 refine wpAny_bind (wpAny_pure (wpAny_bind (wpAny_bind (wpAny_loadPart hx (wpAny_bind (PySem.W.Looks.here (s:={s with toks:=s.toks+1}) (PySem.W.looks_clsIn X hc) ?_))))))
 rw[hd']
 refine wpAny_pure (a:=some dx) (wpAny_bind (wpAny_pure (wpAny_bind ?_)))
 refine wpAny_nsSet1 (s:={s with toks:=s.toks+1}) I.ns fun h' hn2 hs2=>?_
 obtain⟨oD,esD,epD,hoD,hdD,hcD⟩:=hn2.count (PySem.Within.cons name v hw)
 refine wpAny_bind (wpAny_lookBehind hoD (by rw[hdD];exact pastItsLine_dict (Nat.le_trans hcD (by rw[List.length_cons];omega))) ?_)
 exact wpAny_pure (h _ ⟨(hs2.2 _ (Ne.symm I.ne)).trans I.obj,hn2,I.ne⟩ hs2)
theorem Hf{R:Result→Shared→Prop}{vs:List Value}{kw:List (Str×Value)}(X:K.In s.heap)(hm:PySem.W.makesIn K C=true)
 (hi:PySem.W.findIn K (.ref C) "__init__" =some (some (.ref f)))(hf:PySem.W.typeIn K (.ref f)=some (.type "function"))
 (h:codeAny (model prog w) (A.under (.builtin "type.__call__" ⟨.ref C::vs,kw⟩)) (.call (.ref f) ⟨.ref (s.heap.objs.size+1)::vs,kw⟩) (PySem.W.InitBack (s.heap.objs.size+1) R)
   {s with heap:=(s.heap.push PySem.W.emptyDict).push (PySem.W.instObj C s.heap.objs.size)}) :
 codeAny (model prog w) A (.call (.ref C) ⟨vs,kw⟩) R s:=by
 obtain⟨hh,g,d,t,os⟩:=s
 exact PySem.W.make_core (PySem.W.makes_of X hm) (PySem.W.looks_findIn X hi) (fun self=>PySem.W.bind_fn X self hf) (.inl rfl) h
end
def aN(f:Str)(v:V):List (Str×V)→List (Str×V)
 | []=>[(f,v)]
 |(g,x)::r=>if g=f then(g,v)::r else(g,x)::aN f v r
theorem gn(f g:Str)(v:V):∀fs:List (Str×V),(aN f v fs).lookup g=if g=f then some v else fs.lookup g
 | []=>by
   show List.lookup g [(f,v)]=_
   by_cases h:g=f
   ·have hb:(g== f)=true:=beq_iff_eq.mpr h
    simp only[List.lookup,hb,if_pos h]
   ·have hb:(g== f)=false:=beq_eq_false_iff_ne.mpr h
    simp only[List.lookup,hb,if_neg h]
 |(k,x)::r=>by
  have ih:=gn f g v r
  rw[show aN f v ((k,x)::r)=(if k=f then(k,v)::r else(k,x)::aN f v r) from rfl]
  by_cases hk:k=f
  ·rw[if_pos hk]
   by_cases h:g=k
   ·have hb:(g== k)=true:=beq_iff_eq.mpr h
    simp only[List.lookup,hb,if_pos (h.trans hk)]
   ·have hb:(g== k)=false:=beq_eq_false_iff_ne.mpr h
    simp only[List.lookup,hb,if_neg (fun e:g=f=>h (e.trans hk.symm))]
  ·rw[if_neg hk]
   by_cases h:g=k
   ·have hb:(g== k)=true:=beq_iff_eq.mpr h
    simp only[List.lookup,hb,if_neg (fun e:g=f=>hk (h.symm.trans e))]
   ·have hb:(g== k)=false:=beq_eq_false_iff_ne.mpr h
    simp only[List.lookup,hb]
    exact ih
theorem kI(f:Str)(v:V):∀fs:List (Str×V),f∈(aN f v fs).map (·.1)∧∀g,g∈fs.map (·.1)→g∈(aN f v fs).map (·.1)
 | []=>⟨by simp[aN],fun g h=>by simp at h⟩
 |(k,x)::r=>by
  obtain⟨i1,i2⟩:=kI f v r
  rw[show aN f v ((k,x)::r)=(if k=f then(k,v)::r else(k,x)::aN f v r) from rfl]
  by_cases hk:k=f
  ·rw[if_pos hk]
   subst hk
   exact⟨by simp,fun g h=>by simpa using h⟩
  ·rw[if_neg hk]
   refine⟨?_,fun g h=>?_⟩
   ·rw[List.map_cons]
    exact List.mem_cons_of_mem _ i1
   ·rw[List.map_cons] at h ⊢
    rcases List.mem_cons.mp h with e|e
    ·exact List.mem_cons.mpr (.inl e)
    ·exact List.mem_cons_of_mem _ (i2 g e)
theorem gq(f:Str)(v:V):∀fs:List (Str×V),(aN f v fs).length≤fs.length+1
 | []=>by simp[aN]
 |(k,x)::r=>by
  have ih:=gq f v r
  rw[show aN f v ((k,x)::r)=(if k=f then(k,v)::r else(k,x)::aN f v r) from rfl]
  by_cases hk:k=f
  ·rw[if_pos hk,List.length_cons,List.length_cons];omega
  ·rw[if_neg hk,List.length_cons,List.length_cons];omega
theorem jw.some_of{v:V}{o:Option Value}(r:jw (some v) o):∃u,o=some u∧RelV v u:=by
 cases o with
 |none=>exact(show False from r).elim
 |some u=>exact⟨u,rfl,r⟩
theorem jw.none_of{o:Option Value}(r:jw none o):o=none:=by
 cases o with
 |none=>rfl
 |some u=>exact(show False from r).elim
theorem qM{v:V}{u:Value}(r:RelV v u):PySem.W.handedIn u=true:=by
 cases v with
 |non=>cases(show u=Value.none from r);rfl
 |bl b=>cases(show u=Value.bool b from r);rfl
 |int i=>obtain⟨t,e⟩:=(show ∃t,u=Value.int i t from r);cases e;rfl
 |str x=>obtain⟨t,e⟩:=(show ∃t,u=Value.str x t from r);cases e;rfl
 |Ug b=>obtain⟨t,e⟩:=(show ∃t,u=Value.bytes b t from r);cases e;rfl
 |flt b=>obtain⟨t,e⟩:=(show ∃t,u=Value.float b t from r);cases e;rfl
 |ref a=>cases(show u=Value.ref a from r);rfl
 |ty n=>cases(show u=Value.type n from r);rfl
section
variable{P:Program}{w:World}{H H':Hp}{h h':Heap}{a C dx:Addr}{fs fs':List (Str×V)}
theorem nF(hok:dz P w H h)(e:H a=some (.ins C dx fs)):∃mA,zV h a dx C mA∧(∀f,jw (fs.lookup f) (mA f))∧PySem.Within mA (fs.map (·.1))∧fs.length≤1000∧H dx=some (.own a):=by
 obtain⟨d,z,ne,ob,mA,n,r,q⟩:=(show Ţ P w H h a (.ins C dx fs) from hok a _ e)
 exact⟨mA,⟨ob,n,ne⟩,r,q,z,d⟩
end
structure Cls(K:PySem.W.Frag)(C:Addr):Prop where
 pg:PySem.W.plainGet K C Str.empty=true
 hd:PySem.W.hasDictIn K C=true
 po:PySem.W.plainOver K C=true
 sa:PySem.W.findIn K (.ref C) "__setattr__" =some (some (.builtin "object.__setattr__"))
theorem Cls.get{K:PySem.W.Frag}{C:Addr}(c:Cls K C)(f:Str):PySem.W.plainGet K C f=true:=c.pg
def ľ(K:PySem.W.Frag)(C:Addr)(f:Str):Prop:=PySem.W.findIn K (.ref C) f=some none
theorem ľ.taker{K:PySem.W.Frag}{C:Addr}{f:Str}(n:ľ K C f):PySem.W.takerIn K C f=some none:=by
 unfold PySem.W.takerIn
 rw[show PySem.W.findIn K (.ref C) f=some none from n]
 rfl
structure Meth(K:PySem.W.Frag)(C:Addr)(m:Str)(f:Addr):Prop where
 at_:PySem.W.findIn K (.ref C) m=some (some (.ref f))
 fn:PySem.W.isFn K (.ref f)=true
 kp:PySem.W.keepIn K (.ref f)=true
section
variable{X:Cx}{pins:List (Addr×Obj)}{σ:St}{H:Hp}{s:Shared}{a C dx:Addr}{fs:List (Str×V)}{f:Str}{v:V}{A:Around}{E:Value→Shared→Prop}
theorem zW{b:Bool}{Q:Value→Shared→Prop}(I:Inv X pins σ H s)(e:H a=some (.ins C dx fs))(c:Cls X.K C)(n:ľ X.K C f)(l:fs.lookup f=some v)
 (h:∀u s',Inv X pins σ H s'→RelV v u→Q u s'):wpAny (model X.prog X.w) A (getAttr (.ref a) f b) Q E s:=by
 obtain⟨mA,O,r,_,_,_⟩:=nF I.hok e
 obtain⟨u,hu,ru⟩:=jw.some_of (v:=v) (o:=mA f) (by rw[←l];exact r f)
 exact get_map I.dZ O (c.get f) c.hd n hu (qM ru) (h u _ (I.tok _) ru)
theorem zX{m:Str}{g:Addr}{pl:Sem Bool}{Q:Value×List Value→Shared→Prop}(I:Inv X pins σ H s)(e:H a=some (.ins C dx fs))(c:Cls X.K C)(k:Meth X.K C m g)(l:fs.lookup m=none)
 (h:Q (.ref g,[.ref a]) s):wpAny (model X.prog X.w) A (getMethod (.ref a) m pl) Q E s:=by
 obtain⟨mA,O,r,_,_,_⟩:=nF I.hok e
 have hn:mA m=none:=jw.none_of (by rw[←l];exact r m)
 exact G_ I.dZ O (c.get m) k.at_ k.fn hn h
theorem zY{y:V}{u:Value}{Q:Unit→Shared→Prop}(I:Inv X pins σ H s)(e:H a=some (.ins C dx fs))(c:Cls X.K C)(n:ľ X.K C f)(hl:fs.length<1000)(ry:RelV y u)
 (h:∀s',Inv X pins σ (upd H a (.ins C dx (aN f y fs))) s'→Q () s'):wpAny (model X.prog X.w) A (setAttr (.ref a) f u) Q E s:=by
 obtain⟨mA,O,r,wi,_,ho⟩:=nF I.hok e
 have hz:(fs.map (·.1)).length≤sizeLine:=by rw[List.length_map,sizeLine_eq];omega
 refine Rh I.dZ O c.sa c.po n.taker c.hd wi hz fun h' O' sb=>h _ ?_
 have hd:∃o,h'.get? dx=some o:=let ⟨o,_,_,e',_⟩:=O'.ns;⟨o,e'⟩
 refine I.write (x:=a) (e:=dx) (by rw[e];exact True.intro) (.inr ho) (fun b q hb z=>(sb.2 b hb).trans z) hd ?_
 refine⟨by rw[Ĝ O.ne];exact ho,?_,O.ne,O'.obj,_,O'.ns,fun g=>?_,fun g hg=>?_⟩
 ·have:=gq f y fs;omega
 ·show jw ((aN f y fs).lookup g) (if g=f then some u else mA g)
  rw[gn]
  by_cases q:g=f
  ·rw[if_pos q,if_pos q];exact ry
  ·rw[if_neg q,if_neg q];exact r g
 ·by_cases q:g=f
  ·rw[q];exact(kI f y fs).1
  ·refine(kI f y fs).2 g (wi g fun z=>hg ?_)
   show(if g=f then some u else mA g)=none
   rw[if_neg q];exact z
theorem Inv.made(I:Inv X pins σ H s):Inv X pins σ (upd (upd H s.heap.objs.size (.own (s.heap.objs.size+1))) (s.heap.objs.size+1) (.ins C s.heap.objs.size []))
 {s with heap:=(s.heap.push PySem.W.emptyDict).push (PySem.W.instObj C s.heap.objs.size)}:=by
 have e1:(s.heap.push PySem.W.emptyDict).get? s.heap.objs.size=some PySem.W.emptyDict:=Heap.get?_push_size s.heap rfl
 have e2:((s.heap.push PySem.W.emptyDict).push (PySem.W.instObj C s.heap.objs.size)).get? (s.heap.objs.size+1)=some (PySem.W.instObj C s.heap.objs.size):=by
  have:=Heap.get?_push_size (s.heap.push PySem.W.emptyDict) (o:=PySem.W.instObj C s.heap.objs.size) rfl
  rwa [Heap.size_push] at this
 have e3:(s.heap.push PySem.W.emptyDict).Ns s.heap.objs.size (fun _=>none):=⟨PySem.W.emptyDict,#[],_,e1,rfl,(fun e he=>absurd he (by simp)),fun _=>rfl⟩
 have I1:=I.laid (a:=s.heap.objs.size) (o:=.own (s.heap.objs.size+1)) (h':=s.heap.push PySem.W.emptyDict) (t':=s.toks) (fun b u q=>Heap.get?_push_of_some _ q) (Nat.le_refl _) ⟨_,e1⟩
 refine I1.laid (a:=s.heap.objs.size+1) (o:=.ins C s.heap.objs.size []) (t':=s.toks) (fun b u q=>Heap.get?_push_of_some _ q) (Nat.le_of_eq (Heap.size_push _ _)) ?_
 have ne:s.heap.objs.size≠s.heap.objs.size+1:=Nat.ne_of_lt (Nat.lt_succ_self _)
 refine⟨by rw[Ĝ ne,Ĩ],Nat.zero_le _,ne,e2,fun _=>none,(Heap.Ns1.of_empty e3).at fun o q=>Heap.get?_push_of_some _ q,fun _=>True.intro,fun y hy=>absurd rfl hy⟩
theorem CG{prog:Program}{w:World}{env:Env}{e:Expr}{f:Str}{pos:Pos}{s:Shared}{Q:Value→Shared→Prop}(hb:attributeBase e f env (eval e env)=eval e env)
 (h:wpAny (model prog w) A (eval e env) (fun o s₁=>wpAny (model prog w) A (getAttr o f true) Q E s₁) E s):wpAny (model prog w) A (eval (.Attribute e f pos) env) Q E s:=
 Attribute_any_ h (by rw[arm_eval_Attribute,hb])
end
def Zkr(K:PySem.W.Frag)(ta:TE)(f:Str):TE:=fun σ H Q=>ta σ H fun x H1=>∃a C dx fs v,x=.ref a∧H1 a=some (.ins C dx fs)∧Cls K C∧ľ K C f∧fs.lookup f=some v∧Q v H1
def Zks(K:PySem.W.Frag)(ta tv:TE)(f:Str):TS:=fun D σ H=>tv σ H fun y H1=>ta σ H1 fun x H2=>∃a C dx fs,x=.ref a∧H2 a=some (.ins C dx fs)∧Cls K C∧ľ K C f∧fs.length<1000∧
 D.nx σ (upd H2 a (.ins C dx (aN f y fs)))
section
variable{X:Cx}{o e value:Expr}{f:Str}{pos pos' tpos:Pos}{ta tv:TE}
theorem Xi(he:PE X e ta)(hb:attributeBase e f X.env (eval e X.env)=eval e X.env):PE X (.Attribute e f pos) (Zkr X.K ta f):=by
 intro pins s σ H Q I h
 refine CG hb (ŧ (he pins s σ H _ I h) fun u s1 ⟨x,H1,I1,rx,a,C,dx,fs,v,ex,ea,c,n,l,q⟩=>?_)
 subst ex
 obtain rfl:u=Value.ref a:=rx
 exact zW I1 ea c n l fun u' s2 I2 ru=>⟨v,H1,I2,ru,q⟩
theorem Xj(ha:PE X o ta)(hv:PE X value tv)(hs:swapsWith value (some (.Attribute o f pos')) pos.line X.env=pure false):PS X (.Assign [.Attribute o f pos'] value pos) (Zks X.K ta tv f):=by
 intro pins s σ H D I h
 refine plainObj_wpAny_Assign_Attribute (ŧ (hv pins s σ H _ I h) fun u s1 ⟨y,H1,I1,ry,q⟩=>ŧ (ha pins s1 σ H1 _ I1 q) fun ov s2 ⟨x,H2,I2,rx,a,C,dx,fs,ex,ea,c,n,l,q2⟩=>?_) hs
 subst ex
 obtain rfl:ov=Value.ref a:=rx
 exact zY I2 ea c n l ry fun s3 I3=>⟨σ,_,I3,q2⟩
end
section
variable{X:Cx}{pins:List (Addr×Obj)}{σ:St}{H:Hp}{s:Shared}{A:Around}{E:Value→Shared→Prop}{Q:Value→Shared→Prop}{c:Value}{b:Bool}
inductive kJ(K:PySem.W.Frag)(H:Hp):V→Value→Prop where
 |non:kJ K H .non (.type "NoneType")
 |bl (x:Bool):kJ K H (.bl x) (.type "bool")
 |int (i:Int):kJ K H (.int i) (.type "int")
 |str (x:Str):kJ K H (.str x) (.type "str")
 |flt (x:UInt64):kJ K H (.flt x) (.type "float")
 |lst {a:Addr} {xs:List V} (e:H a=some (.lst xs)):kJ K H (.ref a) (.type "list")
 |dw {a:Addr} {o:Obj} {xs:List V} (e:H a=some (.dw o (.lst xs))):kJ K H (.ref a) (.type "list")
 |tup {a:Addr} {xs:List V} (e:H a=some (.tup xs)):kJ K H (.ref a) (.type "tuple")
 |dK {a:Addr} {kvs:List (Key×V)} (e:H a=some (.dK kvs)):kJ K H (.ref a) (.type "dict")
 |dT {a:Addr} {kvs:List (List Key×V)} (e:H a=some (.dT kvs)):kJ K H (.ref a) (.type "dict")
 |ins {a C dx:Addr} {fs:List (Str×V)} (e:H a=some (.ins C dx fs)) (cl:Cls K C) (ha:PySem.W.findIn K (.ref C) "__class__" =some (some (.builtin "object.__class__")))
   (hn:PySem.W.specialIn K (.builtin "object.__class__") "__get__" =some (some (.builtin "getset_descriptor.__get__"))) (htk:PySem.W.takesIn K (.builtin "object.__class__")=some true)
   (hm:PySem.W.mroIn K C (.type "object")=some true):kJ K H (.ref a) (.ref C)
theorem dB{x:V}{u t:Value}(I:Inv X pins σ H s)(rx:RelV x u)(ty:kJ X.K H x t)(e:PySem.W.kitOne X.K t c=some b)(h:∀tk,Q (.bool b) {s with toks:=tk}) :
 wpAny (model X.prog X.w) A (call (.builtin "isinstance") [u,c]) Q E s:=by
 cases ty with
 |non=>cases(show u=Value.none from rx);exact PySem.W.kia_one PySem.W.kitx_none I.dZ True.intro e (fun z=>nomatch z) h
 |bl y=>cases(show u=Value.bool y from rx);exact PySem.W.kia_one PySem.W.kitx_bool I.dZ True.intro e (fun z=>nomatch z) h
 |int i=>obtain⟨t,q⟩:=(show ∃t,u=Value.int i t from rx);cases q;exact PySem.W.kia_one PySem.W.kitx_int I.dZ True.intro e (fun z=>nomatch z) h
 |str y=>obtain⟨t,q⟩:=(show ∃t,u=Value.str y t from rx);cases q;exact PySem.W.kia_one PySem.W.kitx_str I.dZ True.intro e (fun z=>nomatch z) h
 |flt y=>obtain⟨t,q⟩:=(show ∃t,u=Value.float y t from rx);cases q;exact PySem.W.kia_one PySem.W.kitx_float I.dZ True.intro e (fun z=>nomatch z) h
 |@lst a xs ea=>
  cases(show u=Value.ref a from rx)
  obtain⟨_,_,n,_,h1⟩:=(show Ţ X.prog X.w H s.heap a (.lst xs) from I.hok a _ ea)
  exact PySem.W.kia_one PySem.W.kitx_list I.dZ ⟨_,h1,rfl⟩ e (fun z=>nomatch z) h
 |@dw a ob xs ea=>
  cases(show u=Value.ref a from rx)
  obtain⟨_,_,_,n,_,h1⟩:=(show Ţ X.prog X.w H s.heap a (.dw ob (.lst xs)) from I.hok a _ ea)
  exact PySem.W.kia_one PySem.W.kitx_list I.dZ ⟨_,h1,rfl⟩ e (fun z=>nomatch z) h
 |@tup a xs ea=>
  cases(show u=Value.ref a from rx)
  obtain⟨_,_,_,p⟩:=(show Ţ X.prog X.w H s.heap a (.tup xs) from I.hok a _ ea)
  obtain⟨o,h1,h2,_⟩:=p
  exact PySem.W.kia_one PySem.W.kitx_tuple I.dZ ⟨o,h1,h2⟩ e (fun z=>nomatch z) h
 |@dK a kvs ea=>
  cases(show u=Value.ref a from rx)
  obtain⟨_,_,vs,_,p⟩:=(show Ţ X.prog X.w H s.heap a (.dK kvs) from I.hok a _ ea)
  obtain⟨o,es,ep,h1,h2,_⟩:=p
  exact PySem.W.kia_one PySem.W.kitx_dict I.dZ ⟨o,h1,h2.1⟩ e (fun z=>nomatch z) h
 |@dT a kvs ea=>
  cases(show u=Value.ref a from rx)
  obtain⟨_,_,xs,_,o,es,ep,h1,h2,_⟩:=(show Ţ X.prog X.w H s.heap a (.dT kvs) from I.hok a _ ea)
  exact PySem.W.kia_one PySem.W.kitx_dict I.dZ ⟨o,h1,h2.1⟩ e (fun z=>nomatch z) h
 |@ins a C dx fs ea cl ha hn htk hm=>
  cases(show u=Value.ref a from rx)
  obtain⟨mA,O,_⟩:=nF I.hok ea
  obtain⟨od,J,_⟩:=O.look
  exact PySem.W.kia_one (PySem.W.kitx_own (cl.get _) cl.hd ha hn htk hm) I.dZ J e (fun z=>nomatch z) h
end
end L2
namespace L2
open PySem PySem.Spec PyProof.Rows
structure bx(k:Nat)(A:Around):Prop where
 hd:A.handled=none
 dp:A.depth+3*k+5<recursionLimit
 un:A.units+16*k+200<cLine
theorem bx.mono{j k:Nat}{A:Around}(r:bx k A)(h:j≤k):bx j A:=⟨r.hd,by have:=r.dp;omega,by have:=r.un;omega⟩
theorem bx.deeper{k:Nat}{A:Around}(r:bx (k+1) A)(env:Env):bx k (A.deeper env):=
 ⟨r.hd,by have:=r.dp;show A.depth+1+3*k+5<_;omega,by have:=r.un;show A.units+3+16*k+200<_;omega⟩
theorem zZ{A:Around}{C:Addr}{us:List Value}{kw:List (Str×Value)}:(A.under (.builtin "type.__call__" ⟨.ref C::us,kw⟩)).depth=A.depth+1:=by
 first|rfl|simp[Around.under,Code.weight,Code.isCreation,Code.isGuard,Code.isCaller,Code.frames,Code.isFrame,guardIds]
theorem z_{A:Around}{C:Addr}{us:List Value}{kw:List (Str×Value)}:(A.under (.builtin "type.__call__" ⟨.ref C::us,kw⟩)).units=A.units+1:=by
 first|rfl|simp[Around.under,Code.cUnits,Code.frames,Code.isFrame]
theorem bx.make{k:Nat}{A:Around}(r:bx (k+1) A)(C:Addr)(us:List Value)(kw:List (Str×Value)):bx k (A.under (.builtin "type.__call__" ⟨.ref C::us,kw⟩)):=
 ⟨r.hd,by have:=r.dp;rw[zZ];omega,by have:=r.un;rw[z_];omega⟩
theorem bx.depth{k:Nat}{A:Around}(r:bx k A):A.depth<recursionLimit:=by have:=r.dp;omega
theorem bx.units{k:Nat}{A:Around}(r:bx k A):A.units+64<cLine:=by have:=r.un;omega
def ZcK:TA:=fun _ H Q=>Q [] H
def Uk(ta:TE)(tr:TA):TA:=fun σ H Q=>ta σ H fun x H1=>tr σ H1 fun xs H2=>Q (x::xs) H2
section
variable{X:Cx}{e:Expr}{es:List Expr}{te:TE}{t:TA}{pos:Pos}
theorem jd:PA X [] ZcK:=fun _ _ _ _ H Q I h=>Calls.spliced_nil ⟨[],H,I,.nil,h⟩
theorem cA(ha:PE X e te)(hr:PA X es t)(hs:starEach (e::es) X.env=(false,eval e X.env)::starEach es X.env:=by rfl):PA X (e::es) (Uk te t):=by
 intro pos pins s σ H Q I h
 rw[hs]
 show wpAny _ _ (spliced ((false,eval e X.env)::backTo pos (starEach es X.env))) _ _ s
 refine Calls.spliced_cons (ŧ (ha pins s σ H _ I h) fun u s1 ⟨x,H1,I1,r1,q1⟩=>?_)
 exact ŧ (hr pos pins s1 σ H1 _ I1 q1) fun us s2 ⟨xs,H2,I2,r2,q2⟩=>⟨x::xs,H2,I2,.cons r1 r2,q2⟩
def Zkt(t:TA):TE:=fun σ H Q=>t σ H fun xs H1=>xs.length≤sizeLine∧∀p,H1 p=none→Q (.ref p) (upd H1 p (.tup xs))
def Zku(t:TA):TE:=fun σ H Q=>t σ H fun xs H1=>xs.length≤sizeLine∧∀p,H1 p=none→Q (.ref p) (upd H1 p (.lst xs))
theorem Xk{x1}(h:PA X es t):PE X (.Tuple es x1 pos) (Zkt t):=by
 intro pins s σ H Q I hq
 refine wpAny_Tuple_spliced (ŧ (h pos pins s σ H _ I hq) fun us s1 ⟨xs,H1,I1,r,z,q⟩=>⟨by rw[←r.length];exact z,?_⟩)
 have hf:H1 s1.heap.objs.size=none:=I1.hok.fresh (Nat.le_refl _)
 refine⟨.ref s1.heap.objs.size,upd H1 s1.heap.objs.size (.tup xs),I1.laid (t':=s1.toks) (fun b u e=>Heap.get?_push_of_some _ e) (Nat.le_refl _) ?_,rfl,q _ hf⟩
 exact⟨z,us,r,⟨_,Heap.get?_push_size _ rfl,rfl,_,rfl⟩⟩
theorem Xl(h:PA X es t):PE X (.List es pos) (Zku t):=by
 intro pins s σ H Q I hq
 refine wpAny_List_spliced (ŧ (h pos pins s σ H _ I hq) fun us s1 ⟨xs,H1,I1,r,z,q⟩=>⟨by rw[←r.length];exact z,?_⟩)
 have hf:H1 s1.heap.objs.size=none:=I1.hok.fresh (Nat.le_refl _)
 refine⟨.ref s1.heap.objs.size,upd H1 s1.heap.objs.size (.lst xs),I1.laid (t':=s1.toks) (fun b u e=>Heap.get?_push_of_some _ e) (Nat.le_refl _) ?_,rfl,q _ hf⟩
 exact⟨z,us,0,r,Heap.get?_push_size _ rfl⟩
end
abbrev Sp:=List V→Hp→VK→XK→Prop
abbrev qt:=List Env→Hp→Shared→XK→Value→Shared→Prop
structure Aa(P:Program)(w:World)(K:PySem.W.Frag)(mg:Str→Option Value)(base:Heap)(A:Around)(outer:List Env)(s:Shared)(H:Hp):Prop where
 frames:A.frames=some outer
 mod:Mod K mg base
 bs:∀b o,base.get? b=some o→s.heap.get? b=some o∧H b=none
 Ep:base.objs.size≤s.heap.objs.size
 h_:s.heap.FunFrames base outer
 Gz:∀b∈frs outer,H b=none
 hok:dz P w H s.heap
 bare:AllBare s.gens
def CE(outer:List Env)(P:Program)(w:World)(H:Hp)(s:Shared)(Q:VK)(u:Value)(s':Shared):Prop:=
 ∃v H',s'.os=s.os∧AllBare s'.gens∧Un (frs outer) [] H H' s.heap s'.heap∧dz P w H' s'.heap∧RelV v u∧Q v H'
def CR(CX:qt)(outer:List Env)(P:Program)(w:World)(H:Hp)(s:Shared)(Q:VK)(E:XK)(r:Result)(s':Shared):Prop:=
 match r with
 | .ok (.ret u)=>CE outer P w H s Q u s'
 | .ok _=>False
 | .error e=>CX outer H s E e s'
structure į(P:Program)(w:World)(K:PySem.W.Frag)(mg:Str→Option Value)(base:Heap)(CX:qt)(k:Nat)(f:Addr)(fd:FuncData)(ps:List Str)(sp:Sp):Prop where
 len:∀vs H Q E,sp vs H Q E→vs.length=ps.length
 run:∀(A:Around) (outer:List Env) (s:Shared) (H:Hp) (args:Args) (us:List Value) (vs:List V) (Q:VK) (E:XK),bx k A→Aa P w K mg base A outer s H→BindsTo s fd args (ps.zip us)→Vals vs us→sp vs H Q E→
  codeAny (model P w) A (.call (.ref f) args) (CR CX outer P w H s Q E) s
theorem į.mono{P:Program}{w:World}{K:PySem.W.Frag}{mg:Str→Option Value}{base:Heap}{CX:qt}{j k:Nat}{f:Addr}{fd:FuncData}{ps:List Str}{sp:Sp}(F:į P w K mg base CX j f fd ps sp)(h:j≤k) :
 į P w K mg base CX k f fd ps sp:=⟨F.len,fun A outer s H args us vs Q E hr=>F.run A outer s H args us vs Q E (hr.mono h)⟩
theorem į.imp{P:Program}{w:World}{K:PySem.W.Frag}{mg:Str→Option Value}{base:Heap}{CX:qt}{k:Nat}{f:Addr}{fd:FuncData}{ps:List Str}{sp sp':Sp}(F:į P w K mg base CX k f fd ps sp)
 (h:∀vs H Q E,sp' vs H Q E→sp vs H Q E):į P w K mg base CX k f fd ps sp':=
 ⟨fun vs H Q E q=>F.len vs H Q E (h _ _ _ _ q),fun A outer s H args us vs Q E hr he hb hv hs=>F.run A outer s H args us vs Q E hr he hb hv (h _ _ _ _ hs)⟩
theorem Aa.make{P:Program}{w:World}{K:PySem.W.Frag}{mg:Str→Option Value}{base:Heap}{A:Around}{outer:List Env}{s:Shared}{H:Hp}(e:Aa P w K mg base A outer s H)(C:Addr)(us:List Value)(kw:List (Str×Value)) :
 Aa P w K mg base (A.under (.builtin "type.__call__" ⟨.ref C::us,kw⟩)) outer s H:=⟨by first|exact e.frames|(simpa[Around.under,Code.envs,Code.isFrame,pushEnvs] using e.frames),e.mod,e.bs,e.Ep,e.h_,e.Gz,e.hok,e.bare⟩
section
variable{X:Cx}{pins:List (Addr×Obj)}{σ:St}{H:Hp}{s s':Shared}
theorem Inv.env0(I:Inv X pins σ H s):Aa X.prog X.w X.K X.mg X.base X.A X.stack s H:=
 ⟨I.ok.frames,I.ok.mod,I.bs,Nat.le_trans I.ok.Ep I.sz,I.stack,I.tQ,I.hok,I.bare⟩
theorem Inv.after{Q:VK}{u:Value}(I:Inv X pins σ H s)(h:CE X.stack X.prog X.w H s Q u s'):EP X pins σ Q u s':=by
 obtain⟨v,H',os,bare,un,hok,r,q⟩:=h
 obtain⟨hh,g,d,t,os'⟩:=s'
 obtain rfl:os'=s.os:=os
 exact⟨v,H',I.call (h':=hh) (g':=g) (d':=d) (t':=t) (ch:=[]) un hok bare (fun b z=>absurd z (by simp)),r,q⟩
end
def Binds(K:PySem.W.Frag)(fd:FuncData)(ps:List Str)(ds:List Value):Prop:=
 ∀(s:Shared) (us:List Value),K.In s.heap→(us++ds).length=ps.length→BindsTo s fd ⟨us,[]⟩ (ps.zip (us++ds))
theorem Binds.all{K:PySem.W.Frag}{fd:FuncData}{ps:List Str}(h:∀us:List Value,us.length=ps.length→bindArgs fd ⟨us,[]⟩=pure (ps.zip us)):Binds K fd ps []:=fun s us _ hl=>by
 rw[List.append_nil] at hl ⊢
 exact .of_eq (h us hl)
section
variable{X:Cx}{CX:qt}{k:Nat}{f C:Addr}{fd:FuncData}{ps:List Str}{sp:Sp}{dvs:List V}{ds:List Value}{E:XK}{x m:Str}{p pos apos:Pos}{e o:Expr}{es:List Expr}{ta:TE}{t:TA}
structure Mk(K:PySem.W.Frag)(C f:Addr):Prop where
 makes:PySem.W.makesIn K C=true
 init:PySem.W.findIn K (.ref C) "__init__" =some (some (.ref f))
 fn:PySem.W.isFn K (.ref f)=true
 kp:PySem.W.keepIn K (.ref C)=true
end
section
variable{X:Cx}{CX:qt}{k:Nat}{f C:Addr}{fd:FuncData}{ps ks:List Str}{sp:Sp}{E:XK}{x m:Str}{p pos apos kpos:Pos}{e o:Expr}{es:List Expr}{kws:List Keyword}{te ta:TE}{t tk:TA}{nm:Option Str}
variable{g:List Value→List Value→List Value}{gV:List V→List V→List V}
end
structure Ė(N P:List Str)(sc:Scope):Prop where
 kind:sc.kind=.function
 co:sc.isCoroutine=false
 gen:sc.isGenerator=false
 nd:N.Nodup
 pre:N.take P.length=P
 par:∀x∈P,sc.names.lookup x=some .local∨sc.names.lookup x=some .cell
 Xm:∀y∈sc.names,y.2≠ .free
theorem qN{kindOf:Str→Option NameKind}{x:Str}:∀{binds:List (Str×Value)} {m:Str→Option Value},(∀v,(x,v)∉binds)→bindL kindOf binds m x=m x
 | [],_,_=>rfl
 |(n,v)::r,m,h=>by
  unfold bindL
  rw[qN fun w hw=>h w (List.mem_cons_of_mem _ hw)]
  split
  ·have:x≠n:=by rintro rfl;exact h v List.mem_cons_self
   simp[this]
  ·rfl
theorem qO{kindOf:Str→Option NameKind}{x:Str}:∀{binds:List (Str×Value)} {m:Str→Option Value},(∀v,(x,v)∉binds)→bindC kindOf binds m x=m x
 | [],_,_=>rfl
 |(n,v)::r,m,h=>by
  unfold bindC
  rw[qO fun w hw=>h w (List.mem_cons_of_mem _ hw)]
  split
  ·rfl
  ·have:x≠n:=by rintro rfl;exact h v List.mem_cons_self
   simp[this]
theorem qP{kindOf:Str→Option NameKind}{x:Str}{v:Value}:∀{P:List Str} {vs:List Value} {i:Nat} {m:Str→Option Value},P.Nodup→P[i]?=some x→vs[i]?=some v→kindOf x=some .local→
 bindL kindOf (P.zip vs) m x=some v
 | [],_,_,_,_,h,_,_=>by simp at h
 |_::_,[],_,_,_,_,h,_=>by simp at h
 |p::P,w::vs,0,m,nd,h1,h2,hk=>by
  simp at h1 h2;subst h1;subst h2
  show bindL kindOf ((p,w)::P.zip vs) m p=_
  unfold bindL
  rw[qN fun v hv=>(List.nodup_cons.mp nd).1 (List.of_mem_zip hv).1,if_pos hk]
  simp
 |p::P,w::vs,i+1,m,nd,h1,h2,hk=>by
  show bindL kindOf ((p,w)::P.zip vs) m x=_
  unfold bindL
  exact qP (i:=i) (List.nodup_cons.mp nd).2 (by simpa using h1) (by simpa using h2) hk
theorem qQ{kindOf:Str→Option NameKind}{x:Str}{v:Value}:∀{P:List Str} {vs:List Value} {i:Nat} {m:Str→Option Value},P.Nodup→P[i]?=some x→vs[i]?=some v→kindOf x≠some .local→
 bindC kindOf (P.zip vs) m x=some v
 | [],_,_,_,_,h,_,_=>by simp at h
 |_::_,[],_,_,_,_,h,_=>by simp at h
 |p::P,w::vs,0,m,nd,h1,h2,hk=>by
  simp at h1 h2;subst h1;subst h2
  show bindC kindOf ((p,w)::P.zip vs) m p=_
  unfold bindC
  rw[qO fun v hv=>(List.nodup_cons.mp nd).1 (List.of_mem_zip hv).1,if_neg hk]
  simp
 |p::P,w::vs,i+1,m,nd,h1,h2,hk=>by
  show bindC kindOf ((p,w)::P.zip vs) m x=_
  unfold bindC
  exact qQ (i:=i) (List.nodup_cons.mp nd).2 (by simpa using h1) (by simpa using h2) hk
def start(N:List Str)(vs:List V):St:=vs.map some++List.replicate (N.length-vs.length) none
def bT(CX:qt)(P:Program)(w:World)(K:PySem.W.Frag)(mg:Str→Option Value)(base:Heap)(N:List Str)(qual:Str)(scope:Scope)(f:Addr)(cd:Value)(A:Around)(outer:List Env)(s:Shared)(H:Hp)(E:XK):Cx where
 prog:=P
 w:=w
 K:=K
 mg:=mg
 base:=base
 A:=A.deeper (envOfC qual scope s.heap.objs.size f cd)
 N:=N
 s₀:= s
 H₀:= H
 env:=envOfC qual scope s.heap.objs.size f cd
 outer:=outer
 stack:=envOfC qual scope s.heap.objs.size f cd::outer
 ex:=[]
 calm:=true
 fn:=fun _=>true
 pn:=[]
 xe:=fun e s'=>wpAny (model P w) (A.deeper (envOfC qual scope s.heap.objs.size f cd)) (leaving (envOfC qual scope s.heap.objs.size f cd) e) (fun _ s''=>CX outer H s E e s'') (fun e' s''=>CX outer H s E e' s'') s'
theorem jx{sc:Scope}{n:Nat}{x:Str}(h:sc.names.lookup x=some .cell):∃c,(cellsFrom n sc.names []).lookup x=some c:=by
 have q:=PySem.W.cellsFrom_some sc.names n [] (.inl h)
 exact Option.isSome_iff_exists.mp q
theorem Fb{CX:qt}{P:Program}{w:World}{K:PySem.W.Frag}{mg:Str→Option Value}{base:Heap}{N ps:List Str}{qual:Str}{scope:Scope}{f:Addr}{cd:Value}{A:Around}{outer:List Env}{s s1:Shared}{H:Hp}{E:XK}{us:List Value}{vs:List V}
 (S:Ė N ps scope)(hd:A.handled=none)(e0:Aa P w K mg base A outer s H)(hl:vs.length=ps.length)(r:Vals vs us)
 (x:InCallC s s.heap.objs.size (bindL (envOfC qual scope s.heap.objs.size f cd).kindOf (ps.zip us) fun _=>none) (cellsFrom (s.heap.objs.size+1) scope.names []) (bindC (envOfC qual scope s.heap.objs.size f cd).kindOf (ps.zip us) fun _=>none) s1) :
 Inv (bT CX P w K mg base N qual scope f cd A outer s H E) [] (start N vs) H s1:=by
 have hpl:ps.length≤N.length:=by have:=congrArg List.length S.pre;rw[List.length_take] at this;omega
 obtain⟨h1,tk,rfl,hk⟩:=x.done
 have noA:∀b:Addr,b∉(bT CX P w K mg base N qual scope f cd A outer s H E).ex:=fun b z=>absurd (show b∈([]:List Addr) from z) (by simp)
 refine⟨⟨e0.mod,S.kind,rfl,rfl,Nat.le_refl _,fun y z c h1 h2=>?_,fun y hy=>?_,fun y c _ h=>?_,fun _=>hd,Around.frames_deeper e0.frames,.inr ⟨rfl,rfl⟩,fun b z=>absurd z (noA b),e0.bs,e0.Ep,fun b _ _=>noA b,fun b z=>absurd z (noA b),e0.h_,e0.Gz⟩,
  rfl,e0.bare,Un.kept hk,⟨_,x.toInCall.ns,fun i y v h1 h2 h3=>?_⟩,fun y c h=>⟨_,x.cell y c h⟩,e0.hok.fresh (Nat.le_refl _),fun y c h=>?_,fun p hp=>absurd (show p∈([]:List (Addr×Obj)) from hp) (by simp),e0.hok.kept hk,?_⟩
 ·exact name_of_addr x.apart (PySem.mem_of_lookup h1) (PySem.mem_of_lookup h2)
 ·have hy:scope.names.lookup y=some .cell∨scope.names.lookup y=some .free:=hy
  rcases hy with hy|hy
  ·exact jx hy
  ·exact absurd rfl (S.Xm _ (PySem.mem_of_lookup hy))
 ·exact Nat.le_of_lt (x.above y c (PySem.mem_of_lookup h))
 ·have hi:i<vs.length:=by
   unfold start at h2
   by_cases hi:i<vs.length
   ·exact hi
   ·rw[List.getElem?_append_right (by simpa using hi)] at h2
    rw[List.getElem?_replicate] at h2
    split at h2<;>cases h2
  have ha:vs[i]?=some v:=by
   unfold start at h2
   rw[List.getElem?_append_left (by simpa using hi),List.getElem?_map] at h2
   cases e:vs[i]? with
   |none=>rw[e] at h2;cases h2
   |some a=>rw[e] at h2;cases h2;rfl
  obtain⟨u,hu,rv⟩:=r.get ha
  have hp:ps[i]?=some y:=by
   rw[←S.pre,List.getElem?_take_of_lt (by omega)];exact h1
  have ndP:ps.Nodup:=by rw[←S.pre];exact S.nd.sublist (List.take_sublist _ _)
  refine⟨u,rv,?_⟩
  rcases S.par y (List.mem_of_getElem? hp) with k|k
  ·exact .inl ⟨k,qP ndP hp hu k⟩
  ·obtain⟨c,e⟩:=jx (n:=s.heap.objs.size+1) k
   refine .inr ⟨.inl k,c,e,?_⟩
   have q:=x.cell y c e
   rw[qQ ndP hp hu (by show scope.names.lookup y≠_;rw[k];decide)] at q
   exact q
 ·exact e0.hok.fresh (Nat.le_of_lt (x.above y c (PySem.mem_of_lookup h)))
 ·unfold start
  show _=N.length
  rw[List.length_append,List.length_map,List.length_replicate]
  omega
theorem Hg{CX:qt}{P:Program}{w:World}{K:PySem.W.Frag}{mg:Str→Option Value}{base:Heap}{k:Nat}{f:Addr}{name qual:Str}{params:Arguments}{body:List Stmt}{scope:Scope}{dV kV doc pm cdv ct oc:Value}{an od:Option Addr}
 {osl:Array (Option Value)}{N ps:List Str}{sp:Sp}(lk:K.lookup f=some ⟨oc,od,.func (PySem.W.fnOf name qual params body scope dV kV doc pm an cdv ct),osl⟩)(hcd:PySem.W.codeIn K cdv qual=true)(S:Ė N ps scope)
 (len:∀vs H Q E,sp vs H Q E→vs.length=ps.length)
 (hbody:∀(A:Around) (outer:List Env) (s:Shared) (H:Hp) (vs:List V) (Q:VK) (E:XK),bx k (A.deeper (envOfC qual scope s.heap.objs.size f cdv))→sp vs H Q E→
   ∃t,jc (bT CX P w K mg base N qual scope f cdv A outer s H E) body t∧t {nx:=fun _ H'=>Q .non H',rt:=Q} (start N vs) H) :
 į P w K mg base CX (k+1) f (PySem.W.fnOf name qual params body scope dV kV doc pm an cdv ct) ps sp:=by
 refine⟨len,fun A outer s H args us vs Q E hr e0 hb r hsp=>?_⟩
 have hl:=len _ _ _ _ hsp
 have KX:K.In s.heap:=e0.mod.kin.keeps fun b o e=>(e0.bs b o e).1
 have lim:s.heap.NoLimit:=e0.mod.nolimit.keeps fun b o e=>(e0.bs b o e).1
 have hkind:∀y∈ps.zip us,scope.names.lookup y.1=some .local∨(scope.names.lookup y.1=some .cell∧((cellsFrom (s.heap.objs.size+1) scope.names []).lookup y.1).isSome=true):=fun⟨n,v⟩ hy=>by
  rcases S.par n (List.of_mem_zip hy).1 with q|q
  ·exact .inl q
  ·exact .inr ⟨q,PySem.W.cellsFrom_some _ _ _ (.inl q)⟩
 refine codeAny_call_function hr.depth (KX _ _ lk) rfl S.co S.gen rfl (PySem.W.codeRec_of KX hcd) (hb _ _ _ _ ?_)
 refine wpAny_newFunctionEnv_cells S.kind hkind fun env he s1 x=>?_
 subst he
 refine⟨lim.keeps x.toInCall.keep,codeAny_func ?_⟩
 obtain⟨t,ht,hq⟩:=hbody A outer s H vs Q E (hr.deeper _) hsp
 have I:Inv (bT CX P w K mg base N qual scope f cdv A outer s H E) [] (start N vs) H s1:=Fb S hr.hd e0 hl r x
 refine wpAny_mono (ht [] s1 (start N vs) H _ I hq) (fun fl s' hs=>?_) fun e s' hs=>hs
 have fin:∀{σ':St} {H':Hp} {v:V} {u:Value},Inv (bT CX P w K mg base N qual scope f cdv A outer s H E) [] σ' H' s'→RelV v u→Q v H'→CE outer P w H s Q u s':=
  fun{σ' H' v u} J rv q=>⟨v,H',J.os,J.bare,J.base,J.hok,rv,q⟩
 cases fl with
 |ret u=>
  obtain⟨v,σ',H',J,rv,q⟩:=hs
  exact fin J rv q
 |next=>
  obtain⟨σ',H',J,q⟩:=hs
  exact fin (v:=V.non) (u:=Value.none) J rfl q
 |brk=>
  obtain⟨_,_,_,q⟩:=hs
  exact False.elim q
 |cont=>
  obtain⟨_,_,_,q⟩:=hs
  exact False.elim q
end L2
namespace L2
open PySem PySem.Spec PyProof.Rows
section
variable{X:Cx}{x:Str}{p pos:Pos}{e:Expr}{es:List Expr}{t:TA}{id T:String}{r:List V→Hp→VK→Prop}
def tCB(r:List V→Hp→VK→Prop)(t:TA):TE:=fun σ H Q=>t σ H fun vs H1=>r vs H1 Q
theorem Ħ(hc:Ş X (.builtin id) r)(hg:Gl X x)(hm:X.mg x=none)(hv:bootBuiltins x=some (.builtin id))(ha:PA X (e::es) t)(hn:x≠ "__name__" := by decide)(hdb:(x== ("__debug__" :Str))=false:=by decide)
 (he:starEach (e::es) X.env=(false,eval e X.env)::starEach es X.env:=by rfl)(hpl:(backTo pos (starEach es X.env)).any (·.1)=false:=by rfl):PE X (.Call (.Name x p) (e::es) [] pos) (tCB r t):=by
 intro pins s σ H Q I h
 refine wpAny_Call_Name_kw (gb I hg hm hv ?_ hn hdb)
 exact PyProof.Rows.callWith_builtin1 (ŧ (ha pos pins s σ H _ I h) fun us s1 ⟨vs,H1,I1,r1,q1⟩=>hc pins s1 σ H1 vs us Q I1 r1 q1) he hpl
theorem Ų(hc:Ş X (.type T) r)(hg:Gl X x)(hm:X.mg x=none)(hv:bootBuiltins x=some (.type T))(ha:PA X (e::es) t)(hn:x≠ "__name__" := by decide)(hdb:(x== ("__debug__" :Str))=false:=by decide)
 (he:starEach (e::es) X.env=(false,eval e X.env)::starEach es X.env:=by rfl)(hpl:(backTo pos (starEach es X.env)).any (·.1)=false:=by rfl):PE X (.Call (.Name x p) (e::es) [] pos) (tCB r t):=by
 intro pins s σ H Q I h
 refine wpAny_Call_Name_kw (gb I hg hm hv ?_ hn hdb)
 exact PyProof.Rows.callWith_type1 (ŧ (ha pos pins s σ H _ I h) fun us s1 ⟨vs,H1,I1,r1,q1⟩=>hc pins s1 σ H1 vs us Q I1 r1 q1) he hpl
end
end L2
namespace HT
open PySem PyProof.Rows
section
open PySem.SeqAt
open PySem.AutoSeq1 (wpAny_loadPart')
open PySem.MeetsSeq PySem.MeetsSeq2 PySem.MeetsSeq3
end
section
variable{prog:Program}{w:World}{A:Around}{E:Value→Shared→Prop}{s:Shared}
def ig(n d:Nat):Option Int→Nat
 |none=>d
 |some v=>if v<0 then(v+(n:Int)).toNat else min v.toNat n
theorem nG(n d k:Nat):ig n d (some (k:Int))=min k n:=by
 show(if(k:Int)<0 then((k:Int)+(n:Int)).toNat else min (k:Int).toNat n)=min k n
 rw[if_neg (by omega),Int.toNat_natCast]
theorem Hh(n d:Nat)(hd:d≤n)(o:Option Int):ig n d o≤n:=by
 cases o with
 |none=>exact hd
 |some v=>
  show(if v<0 then(v+(n:Int)).toNat else min v.toNat n)≤n
  by_cases hv:v<0
  ·rw[if_pos hv];omega
  ·rw[if_neg hv];exact Nat.min_le_right _ _
end
end HT
namespace L2
open PySem PySem.Spec PyProof.Rows
abbrev TO:=St→Hp→(Option Int→Hp→Prop)→Prop
def PO(X:Cx)(e:Option Expr)(t:TO):Prop:=
 ∀(pins:List (Addr×Obj)) (s:Shared) (σ:St) (H:Hp) (Q:Option Int→Hp→Prop),Inv X pins σ H s→t σ H Q→
  wpAny (model X.prog X.w) X.A (evalPart e X.env) (fun u s'=>∃o H',Inv X pins σ H' s'∧IsPart u o∧Q o H') X.xe s
def Ri:TO:=fun _ H Q=>Q none H
section
variable{X:Cx}{e:Expr}{te:TE}{lo hi:Option Expr}{tl th:TO}{pos p2:Pos}
theorem Rj:PO X none Ri:=by
 intro pins s σ H Q I h
 rw[evalPart_none]
 exact wpAny_pure ⟨none,H,I,.none,h⟩
def CJ(X:Cx)(r:V→Option Int→Option Int→Hp→VK→Prop):Prop:=
 ∀(pins:List (Addr×Obj)) (s:Shared) (σ:St) (H:Hp) (x:V) (v vl vu:Value) (lo hi:Option Int) (sl:Addr) (Q:VK),Inv X pins σ H s→RelV x v→s.heap.IsSliceOf sl vl vu .none→IsPart vl lo→IsPart vu hi→r x lo hi H Q→
  ∃T id,typeLookup (.type T) "__getitem__" =pure (some (.builtin id))∧s.TypeIs v T∧wpAny (model X.prog X.w) X.A (getItem v (.ref sl)) (EP X pins σ Q) X.xe s
theorem CJ.or{r r':V→Option Int→Option Int→Hp→VK→Prop}(h:CJ X r)(h':CJ X r'):CJ X (fun x lo hi H Q=>r x lo hi H Q∨r' x lo hi H Q):=by
 intro pins s σ H x v vl vu lo hi sl Q I rx hs pl pu q
 rcases q with q|q
 ·exact h pins s σ H x v vl vu lo hi sl Q I rx hs pl pu q
 ·exact h' pins s σ H x v vl vu lo hi sl Q I rx hs pl pu q
def tSl(r:V→Option Int→Option Int→Hp→VK→Prop)(te:TE)(tl th:TO):TE:=fun σ H Q=>te σ H fun x H1=>tl σ H1 fun l H2=>th σ H2 fun u H3=>r x l u H3 Q
theorem Hi{r:V→Option Int→Option Int→Hp→VK→Prop}(hr:CJ X r)(he:PE X e te)(hl:PO X lo tl)(hu:PO X hi th):PE X (.Subscript e (.Slice lo hi none p2) pos) (tSl r te tl th):=by
 intro pins s σ H Q I h
 refine Subscript_ (ŧ (he pins s σ H _ I h) fun v s1 ⟨x,H1,I1,r1,q1⟩=>?_)
 refine wpAny_Slice (ŧ (hl pins s1 σ H1 _ I1 q1) fun vl s2 ⟨l,H2,I2,pl,q2⟩=>ŧ (hu pins s2 σ H2 _ I2 q2) fun vu s3 ⟨u,H3,I3,pu,q3⟩=>?_)
 rw[evalPart_none]
 refine wpAny_pure ?_
 have I4:Inv X pins σ H3 {s3 with heap:=s3.heap.push {cls:=.type "slice",data:=.fields #[vl,vu,.none]}}:=I3.kept (t':=s3.toks) fun b ob q=>Heap.get?_push_of_some _ q
 obtain⟨T,id,hT,ht,hg⟩:=hr pins {s3 with heap:=s3.heap.push {cls:=.type "slice",data:=.fields #[vl,vu,.none]}} σ H3 x v vl vu l u s3.heap.objs.size Q I4 r1 (Heap.IsSliceOf.new ..) pl pu q3
 show wpAny (model X.prog X.w) X.A (subscriptTail e (.Slice lo hi none p2) v (.ref s3.heap.objs.size)) (EP X pins σ Q) X.xe {s3 with heap:=s3.heap.push {cls:=.type "slice",data:=.fields #[vl,vu,.none]}}
 exact tail_any (ops:=[.ref s3.heap.objs.size,v]) ht hT hg (by with_unfolding_all rfl)
def wB(xs:List V)(lo hi:Option Int):List V:=(xs.drop (HT.ig xs.length 0 lo)).take (HT.ig xs.length xs.length hi-HT.ig xs.length 0 lo)
theorem wC(xs:List V)(lo hi:Option Int):(wB xs lo hi).length≤xs.length:=by
 unfold wB
 rw[List.length_take,List.length_drop]
 omega
end
end L2
namespace L2
open PySem PySem.Spec PyProof.Rows
def CK(n:Nat)(i:Int):Option Nat:=if 0≤i then(if i<n then some i.toNat else none) else if -(n:Int)≤i then some (i+n).toNat else none
def qR{α:Type}(xs:List α)(i:Int):Option α:= (CK xs.length i).bind fun j=>xs[j]?
theorem CN{n:Nat}{i:Int}{j:Nat}(h:CK n i=some j):seqIndex? i n=some j∧j<n∧ -(n:Int)≤i∧i<n:=by
 unfold CK at h
 by_cases h0:0≤i
 ·rw[if_pos h0] at h
  by_cases h1:i<n
  ·rw[if_pos h1] at h
   have e:i.toNat=j:=Option.some.inj h
   exact⟨by rw[seqIndex_of h0 h1,e],by omega,by omega,h1⟩
  ·rw[if_neg h1] at h;cases h
 ·rw[if_neg h0] at h
  by_cases h1: -(n:Int)≤i
  ·rw[if_pos h1] at h
   have e:(i+n).toNat=j:=Option.some.inj h
   exact⟨by rw[seqIndex_neg (by omega) h1,e],by omega,h1,by omega⟩
  ·rw[if_neg h1] at h;cases h
theorem tW{α:Type}{xs:List α}{i:Int}{v:α}(h:qR xs i=some v):∃j,seqIndex? i xs.length=some j∧xs[j]?=some v∧j<xs.length∧ -(xs.length:Int)≤i∧i<xs.length:=by
 unfold qR at h
 cases e:CK xs.length i with
 |none=>rw[e] at h;cases h
 |some j=>
  rw[e] at h
  obtain⟨h1,h2,h3,h4⟩:=CN e
  exact⟨j,h1,h,h2,h3,h4⟩
def CP(b:Expr):Prop:=∀o i,subscripted b false o i=operate [o,i] (getItem o i)
def Ab(X:Cx)(r:R2):Prop:=
 ∀(value slice:Expr) (pins:List (Addr×Obj)) (s:Shared) (σ:St) (H:Hp) (x y:V) (v u:Value) (Q:VK),Inv X pins σ H s→RelV x v→RelV y u→r x y H Q→
  subscripted slice false v u=operate [v,u] (getItem v u)→wpAny (model X.prog X.w) X.A (subscriptTail value slice v u) (EP X pins σ Q) X.xe s
def MtR(X:Cx)(id:String)(r:V→List V→Hp→VK→Prop):Prop:=
 ∀(pins:List (Addr×Obj)) (s:Shared) (σ:St) (H:Hp) (x:V) (xs:List V) (v:Value) (us:List Value) (Q:VK),Inv X pins σ H s→RelV x v→Vals xs us→r x xs H Q→
  wpAny (model X.prog X.w) X.A (call (.builtin id) (v::us)) (EP X pins σ Q) X.xe s
section
variable{X:Cx}{a b:Expr}{ta tb:TE}{pos:Pos}
theorem Ab.or{r r':R2}(h:Ab X r)(h':Ab X r'):Ab X (fun x y H Q=>r x y H Q∨r' x y H Q):=by
 intro value slice pins s σ H x y v u Q I rx ry q hs
 rcases q with q|q
 ·exact h value slice pins s σ H x y v u Q I rx ry q hs
 ·exact h' value slice pins s σ H x y v u Q I rx ry q hs
theorem ZcL{r:R2}(hr:Ab X r)(ha:PE X a ta)(hb:PE X b tb)(hs:CP b):PE X (.Subscript a b pos) (tOp r ta tb):=by
 intro pins s σ H Q I h
 exact Subscript_ (WY ha hb I h fun v u s2 x y H2 I2 rx ry q=>hr a b pins s2 σ H2 x y v u Q I2 rx ry q (hs _ _))
def ZcM(K:PySem.W.Frag):R2:=fun x y H Q=>∃p xs i v,x=.ref p∧y=.int i∧aF K H p xs∧qR xs i=some v∧Q v H
def ZcN(K:PySem.W.Frag):R2:=fun x y H Q=>∃p xs i v,x=.ref p∧y=.int i∧cZ K H p xs∧qR xs i=some v∧Q v H
def ZcO:R2:=fun x y H Q=>∃z i c,x=.str z∧y=.int i∧z.length≤sizeLine∧qR z.cps.toList i=some c∧Q (.str ⟨#[c]⟩) H
theorem Rk:Ab X (ZcM X.K):=by
 intro value slice pins s σ H x y v u Q I rx ry h hs
 obtain⟨p,xs,i,z,rfl,rfl,hq,he,q⟩:=h
 cases rx
 obtain⟨t,rfl⟩:=ry
 obtain⟨its,r,pl,hz⟩:=I.list hq
 obtain⟨j,h1,h2,h3,h4,h5⟩:=tW he
 obtain⟨w,ew,rw'⟩:=r.get h2
 have hl:=r.length
 have hn:=kj
 have fin:EP X pins σ Q w s:=⟨z,H,I,rw',q⟩
 by_cases h0:0≤i
 ·have hj:i.toNat=j:=by
   rw[seqIndex_of h0 h5] at h1
   exact Option.some.inj h1
  exact item_listR pl.isList h0 (by omega) (by rw[hj];simpa using ew) fin hs
 ·have hj:(i+(its.toArray.size:Int)).toNat=j:=by
   rw[seqIndex_neg (by omega) h4] at h1
   rw[List.size_toArray,←hl]
   exact Option.some.inj h1
  exact subscriptTail_builtinR (x:=w) pl.isList.typeIs slot_list_getitem.lookup
   (wpAny_getItem_list_neg (Q:=fun r s'=>r=w∧EP X pins σ Q r s') pl.isList (by omega) (by rw[List.size_toArray]<;>omega) (by omega) (by rw[hj];simpa using ew) ⟨rfl,fin⟩) hs
theorem Xn:Ab X (ZcN X.K):=by
 intro value slice pins s σ H x y v u Q I rx ry h hs
 obtain⟨p,xs,i,z,rfl,rfl,hq,he,q⟩:=h
 cases rx
 obtain⟨t,rfl⟩:=ry
 obtain⟨its,r,pl,hz⟩:=I.tuple hq
 obtain⟨j,h1,h2,h3,h4,h5⟩:=tW he
 obtain⟨w,ew,rw'⟩:=r.get h2
 have hl:=r.length
 have hn:=kj
 have fin:EP X pins σ Q w s:=⟨z,H,I,rw',q⟩
 exact subscriptTail_builtinR (x:=w) pl.typeIs slot_tuple_getitem.lookup
  (getItem_tuple (j:=j) (Q:=fun r s'=>r=w∧EP X pins σ Q r s') pl (by omega) (by omega) (by rw[List.size_toArray,←hl];exact h1) (by simpa using ew) ⟨rfl,fin⟩) hs
theorem Xo:Ab X ZcO:=by
 intro value slice pins s σ H x y v u Q I rx ry h hs
 obtain⟨z,i,c,rfl,rfl,hz,he,q⟩:=h
 obtain⟨t,rfl⟩:=rx
 obtain⟨t',rfl⟩:=ry
 obtain⟨j,h1,h2,h3,h4,h5⟩:=tW he
 have hl:z.cps.toList.length=z.length:=by simp[Str.length]
 rw[hl] at h1 h4 h5
 have hn:=kj
 exact tail_any (typeIs_str s z t) slot_str_getitem.lookup (getItem_str (c:=c) (by
  have e1:decide (i < -(2 ^ 63:Int))=false:=decide_eq_false (by omega)
  have e2:decide (i ≥ 2 ^ 63)=false:=decide_eq_false (by omega)
  rw[e1,e2,Bool.or_false]) (by rw[h1];simpa using h2) ⟨.str ⟨#[c]⟩,H,I.tok _,⟨_,rfl⟩,q⟩) hs
def rIx(K:PySem.W.Frag):R2:=fun x y H Q=>ZcM K x y H Q∨ZcN K x y H Q∨ZcO x y H Q
theorem Xp:Ab X (rIx X.K):=Rk.or (Xn.or Xo)
theorem Ac(its:List Value)(n j:Nat)(u:Value):Obj.mapSeq (·.setIfInBounds j u) {cls:=.type "list",data:=.seq its.toArray n}= {cls:=.type "list",data:=.seq (its.set j u).toArray n}:=by
 simp[Obj.mapSeq]
theorem Inv.lst{pins:List (Addr×Obj)}{σ:St}{H:Hp}{s:Shared}{p:Addr}{xs:List V}(I:Inv X pins σ H s)(h:H p=some (.lst xs)) :
 ∃(its:List Value) (n:Nat),Vals xs its∧s.heap.get? p=some {cls:=.type "list",data:=.seq its.toArray n}∧xs.length≤sizeLine:=by
 obtain⟨z,its,n,r,e⟩:=I.hok p _ h
 exact⟨its,n,r,e,z⟩
theorem Inv.Xq{pins:List (Addr×Obj)}{σ:St}{H:Hp}{s:Shared}{p:Addr}{xs ys:List V}{its its':List Value}{n n':Nat}{f:Obj→Obj}(I:Inv X pins σ H s)(h:H p=some (.lst xs))
 (ho:s.heap.get? p=some {cls:=.type "list",data:=.seq its.toArray n})(hf:f {cls:=.type "list",data:=.seq its.toArray n}= {cls:=.type "list",data:=.seq its'.toArray n'})(r:Vals ys its')(hz:ys.length≤sizeLine)(t:Nat) :
 Inv X pins σ (upd H p (.lst ys)) {s with heap:=s.heap.update p f,toks:=t}:=by
 have e:(s.heap.update p f).get? p=some {cls:=.type "list",data:=.seq its'.toArray n'}:=by
  rw[Heap.get?_update_self f ho (by rw[hf]<;>rfl),hf]
 refine I.write (x:=p) (e:=p) (by rw[h];trivial) (.inl rfl) (fun b u hb q=>(Heap.get?_update_other _ _ (Ne.symm hb)).trans q) ⟨_,e⟩ ?_
 exact⟨hz,its',n',r,e⟩
def ZcP:V→V→V→Hp→(Hp→Prop)→Prop:=fun o i v H Q=>∃p xs k j,o=.ref p∧i=.int k∧H p=some (.lst xs)∧CK xs.length k=some j∧Q (upd H p (.lst (xs.set j v)))
theorem set_list:ZcB X ZcP:=by
 intro pins s σ H o i v ov iv u Q I ro ri rv h
 obtain⟨p,xs,k,j,rfl,rfl,hp,hj,q⟩:=h
 cases ro
 obtain⟨t,rfl⟩:=ri
 obtain⟨its,n,r,ho,hz⟩:=I.lst hp
 obtain⟨h1,h2,h3,h4⟩:=CN hj
 have hl:=r.length
 have hn:=kj
 have I':Inv X pins σ (upd H p (.lst (xs.set j v))) {s with heap:=s.heap.update p (Obj.mapSeq (·.setIfInBounds j u))}:=
  I.Xq hp ho (Ac its n j u) (r.set rv j) (by rw[List.length_set];exact hz) s.toks
 by_cases h0:0≤k
 ·have hk:k.toNat=j:=by
   rw[seqIndex_of h0 h4] at h1
   exact Option.some.inj h1
  exact PySem.W.ki_setAt ho h0 (by omega) (by rw[List.size_toArray,←hl];exact h4) (by rw[hk];exact⟨_,I',q⟩)
 ·have hk:(k+(its.toArray.size:Int)).toNat=j:=by
   rw[seqIndex_neg (by omega) h3] at h1
   rw[List.size_toArray,←hl]
   exact Option.some.inj h1
  exact PySem.W.ki_setBack ho (by omega) (by rw[List.size_toArray,←hl];exact h3) (by omega) (by rw[hk];exact⟨_,I',q⟩)
theorem tX(lo hi:Option Int)(n:Nat):(sliceBounds lo hi none n).1=((HT.ig n 0 lo:Nat):Int)∧(sliceBounds lo hi none n).2.1=((HT.ig n n hi:Nat):Int)∧(sliceBounds lo hi none n).2.2=1:=by
 refine⟨?_,?_,rfl⟩
 ·cases lo with
  |none=>simp[sliceBounds,HT.ig]
  |some i=>
   simp only[sliceBounds,HT.ig,Option.getD_none,show(1:Int)>0 by decide,if_true]
   by_cases h:i<0
   ·simp only[h,if_true]<;>omega
   ·simp only[h,if_false]<;>omega
 ·cases hi with
  |none=>simp[sliceBounds,HT.ig]
  |some i=>
   simp only[sliceBounds,HT.ig,Option.getD_none,show(1:Int)>0 by decide,if_true]
   by_cases h:i<0
   ·simp only[h,if_true]<;>omega
   ·simp only[h,if_false]<;>omega
theorem qC(its:List Value)(lo hi:Option Int):slicePick its.toArray lo hi none=((its.drop (HT.ig its.length 0 lo)).take (HT.ig its.length its.length hi-HT.ig its.length 0 lo)).toArray:=by
 obtain⟨h1,h2,h3⟩:=tX lo hi its.toArray.size
 unfold slicePick
 rw[h1,h2,h3]
 simp only[sliceRange_one,pick_run,List.size_toArray]<;>rfl
def Zkv(K:PySem.W.Frag):V→Option Int→Option Int→Hp→VK→Prop:=fun x lo hi H Q=>∃a xs,x=.ref a∧aF K H a xs∧∀p,H p=none→Q (.ref p) (upd H p (.lst (wB xs lo hi)))
theorem Rm:CJ X (Zkv X.K):=by
 intro pins s σ H x v vl vu lo hi sl Q I rx hs pl pu h
 obtain⟨a,xs,rfl,hx,q⟩:=h
 cases rx
 obtain⟨its,r,ht,hz⟩:=I.list hx
 have hlen:=r.length
 refine⟨"list",_,slot_list_getitem.lookup,ht.isList.typeIs,?_⟩
 refine wpAny_getItem_list_slice ht.isList hs pl pu .none (by simp) ?_ (by rw[List.size_toArray]<;>omega)
 rw[qC,←hlen]
 refine⟨.ref s.heap.objs.size,_,I.laid (t':=s.toks) (o:=.lst (wB xs lo hi)) (fun b ob q=>Heap.get?_push_of_some _ q) (Nat.le_refl _) ?_,rfl,q _ (I.hok.fresh (Nat.le_refl _))⟩
 exact⟨Nat.le_trans (wC xs lo hi) hz,_,0,(r.drop (HT.ig xs.length 0 lo)).take (HT.ig xs.length xs.length hi-HT.ig xs.length 0 lo),Heap.get?_push_size _ rfl⟩
theorem tY:Ş X (.type "list") (fun xs H Q=>∃p ys,xs=[.ref p]∧(aF X.K H p ys∨cZ X.K H p ys)∧∀l,H l=none→Q (.ref l) (upd H l (.lst ys))):=by
 intro pins s σ H xs us Q I r h
 obtain⟨p,ys,rfl,hq,q⟩:=h
 obtain⟨u,rfl,rx⟩:=vals1 r
 cases rx
 have fin:∀(its:List Value),Vals ys its→ys.length≤sizeLine→∀(h':Heap) (c':Nat),(∀b o',s.heap.get? b=some o'→h'.get? b=some o')→
  h'.get? s.heap.objs.size=some {cls:=.type "list",dict:=none,data:=.seq its.toArray c',slots:=#[]}→EP X pins σ Q (.ref s.heap.objs.size) {s with heap:=h'}:=fun its r' hz h' c' kp e=>
  ⟨.ref s.heap.objs.size,_,I.laid (t':=s.toks) kp (Nat.le_refl _) (show Ţ X.prog X.w _ h' _ (.lst ys) from⟨hz,its,c',r',e⟩),rfl,q _ (I.hok.fresh (Nat.le_refl _))⟩
 rcases hq with hq|hq
 ·obtain⟨its,r',pl,hz⟩:=I.list hq
  have hlen:=r'.length
  obtain⟨o,ho,hc,n,hd⟩:=pl.isList
  exact call_list_seq p (.inl rfl) ho hc hd (fun h' c' kp e=>fin its r' hz h' c' kp e) (by simp only[List.size_toArray]<;>omega)
 ·obtain⟨its,r',pl,hz⟩:=I.tuple hq
  have hlen:=r'.length
  obtain⟨o,ho,hc,n,hd⟩:=pl
  exact call_list_seq p (.inr rfl) ho hc hd (fun h' c' kp e=>fin its r' hz h' c' kp e) (by simp only[List.size_toArray]<;>omega)
theorem qD:Ş X (.type "tuple") (fun xs H Q=>∃p ys,xs=[.ref p]∧((aF X.K H p ys∧∀l,H l=none→Q (.ref l) (upd H l (.tup ys)))∨(cZ X.K H p ys∧Q (.ref p) H))):=by
 intro pins s σ H xs us Q I r h
 obtain⟨p,ys,rfl,h⟩:=h
 obtain⟨u,rfl,rx⟩:=vals1 r
 cases rx
 rcases h with⟨hq,q⟩|⟨hq,q⟩
 ·obtain⟨its,r',pl,hz⟩:=I.list hq
  have hlen:=r'.length
  refine call_tuple_list pl.isList (fun h' kp=>?_) (by simp only[List.size_toArray]<;>omega)
  have I1:Inv X pins σ H {s with heap:=h'}:=I.kept (t':=s.toks) kp
  have I2:Inv X pins σ (upd H h'.objs.size (.tup ys)) {s with heap:=h'.push {cls:=.type "tuple",data:=.seq its.toArray}}:=
   I1.laid (t':=s.toks) (fun b o e=>Heap.get?_push_of_some _ e) (Nat.le_refl _) (show Ţ X.prog X.w _ _ _ (.tup ys) from⟨hz,its,r',IsTup.new _ _⟩)
  exact⟨.ref h'.objs.size,_,I2,rfl,q _ (I1.hok.fresh (Nat.le_refl _))⟩
 ·obtain⟨its,r',pl,hz⟩:=I.tuple hq
  exact call_tuple_same pl ⟨.ref p,H,I,rfl,q⟩
def tyV(K:PySem.W.Frag)(T:String)(x:V)(H:Hp):Prop:=match x with
 | .str _=>T= "str"
 | .int _=>T= "int"
 | .ref p=>(T= "list" ∧∃xs,aF K H p xs)∨(T= "tuple" ∧∃o,K.lookup p=some o∧o.cls=.type "tuple" ∧o.dict=none)∨
     (T= "dict" ∧((∃kvs,H p=some (.dK kvs))∨∃kvs,H p=some (.dT kvs)))∨(T= "set" ∧∃S n,H p=some (.set S n))
 |_=>False
theorem Xr{pins:List (Addr×Obj)}{σ:St}{H:Hp}{s:Shared}{T:String}{x:V}{v:Value}(I:Inv X pins σ H s)(r:RelV x v)(ty:tyV X.K T x H) :
 s.TypeIs v T∧∀a,v=.ref a→∃ob,s.heap.get? a=some ob∧ob.dict=none:=by
 cases x with
 |str z=>
  obtain⟨t,rfl⟩:=r
  cases(show T= "str" from ty)
  exact⟨typeIs_str s z t,fun _ e=>nomatch e⟩
 |int i=>
  obtain⟨t,rfl⟩:=r
  cases(show T= "int" from ty)
  exact⟨typeIs_int s i t,fun _ e=>nomatch e⟩
 |ref p=>
  cases r
  rcases ty with⟨rfl,xs,hq⟩|⟨rfl,o,hk,hc,hd⟩|⟨rfl,hk⟩|⟨rfl,S,n,hk⟩
  ·obtain⟨its,_,pl,_⟩:=I.list hq
   refine⟨pl.isList.typeIs,fun a e=>?_⟩
   cases e
   obtain⟨o,n,e,c,hd,_⟩:=pl
   exact⟨o,e,hd⟩
  ·refine⟨⟨o,I.dZ p o hk,hc⟩,fun a e=>?_⟩
   cases e
   exact⟨o,I.dZ _ o hk,hd⟩
  ·have z:∃o,s.heap.get? p=some o∧o.ExactDict:=by
    rcases hk with⟨kvs,hk⟩|⟨kvs,hk⟩
    ·obtain⟨_,_,_,_,o,_,_,e,ex,_⟩:=I.hok p _ hk
     exact⟨o,e,ex⟩
    ·obtain⟨_,_,_,_,o,_,_,e,ex,_⟩:=I.hok p _ hk
     exact⟨o,e,ex⟩
   obtain⟨o,e,ex⟩:=z
   refine⟨⟨o,e,ex.1⟩,fun a e2=>?_⟩
   cases e2
   exact⟨o,e,ex.2.1⟩
  ·obtain⟨o,_,_,_,e,ex,_⟩:=I.hok p _ hk
   refine⟨⟨o,e,ex.1⟩,fun a e2=>?_⟩
   cases e2
   exact⟨o,e,ex.2.1⟩
 |_=>exact False.elim ty
def tBM(K:PySem.W.Frag)(T:String)(r:V→List V→Hp→VK→Prop)(to:TE)(t:TA):TE:=fun σ H Q=>to σ H fun x H1=>tyV K T x H1∧t σ H1 fun xs H2=>r x xs H2 Q
variable{o e:Expr}{es:List Expr}{to:TE}{t:TA}{name:Str}{apos cpos:Pos}{T id:String}{r:V→List V→Hp→VK→Prop}
theorem nZ(pa:PlainAttrs T)(slot:Slot T name id)(hty:typeOf (.builtin id)=pure (.type "method_descriptor"))(hm:MtR X id r)(ho:PE X o to)(ha:PA X (e::es) t)
 (hbase:attributeBase o name X.env (eval o X.env)=eval o X.env:=by rfl)
 (hfew:((backTo cpos (starEach (e::es) X.env)).all (fun x=>!x.1) && (backToKw cpos (keywordEach [] X.env)).all (fun x=>x.1.isSome)
   && decide ((e::es).length+([]:List Keyword).length+(if([]:List Keyword).isEmpty then 0 else 1)<30))=true:=by rfl)
 (hline:(apos.endLine== cpos.line)=true:=by rfl)(hs:starEach (e::es) X.env=(false,eval e X.env)::starEach es X.env:=by rfl)(hplain:(backTo cpos (starEach es X.env)).any (·.1)=false:=by rfl) :
 PE X (.Call (.Attribute o name apos) (e::es) [] cpos) (tBM X.K T r to t):=by
 intro pins s σ H Q I h
 refine wpAny_Call_method_late hbase hfew hline rfl (ŧ (ho pins s σ H _ I h) fun v s1 ⟨x,H1,I1,r1,ty,q1⟩=>?_)
 obtain⟨h1,h2⟩:=Xr I1 r1 ty
 refine⟨T,id,pa,slot,hty,h1,h2,?_⟩
 have hA:=ha cpos pins s1 σ H1 _ I1 q1
 rw[hs] at hA ⊢
 refine Calls.callWith_builtin (by show(false || (backTo cpos (starEach es X.env)).any (·.1))=false;rw[hplain]<;>rfl) (Calls.evalArgs_plain ?_)
 exact ŧ hA fun us s2 ⟨vs,H2,I2,r2,q2⟩=>hm pins s2 σ H2 x vs v us Q I2 r1 r2 q2
end
end L2
namespace L2
open PySem PySem.Spec PyProof.Rows
def MtM(X:Cx)(id:String)(r:V→List V→Hp→VK→Prop):Prop:=
 ∀(pins:List (Addr×Obj)) (s:Shared) (σ:St) (H:Hp) (x:V) (xs:List V) (v:Value) (us:List Value) (Q:VK),Inv X pins σ H s→RelV x v→Vals xs us→r x xs H Q→
  wpAny (model X.prog X.w) X.A (call (.builtin id) (v::us)) (EP X pins σ Q) X.xe s
theorem Vals.one:∀{x:V} {us:List Value},Vals [x] us→∃u,us=[u]∧RelV x u
 |_,_,.cons r .nil=>⟨_,rfl,r⟩
section
variable{X:Cx}{pins:List (Addr×Obj)}{σ:St}{H:Hp}{s:Shared}{l b:Addr}{xs ys zs:List V}
theorem Inv.ZcQ{its its':List Value}{n:Nat}{f:Array Value→Array Value}{t':Nat}(I:Inv X pins σ H s)(hH:H l=some (.lst xs))
 (e:s.heap.get? l=some {cls:=.type "list",data:=.seq its.toArray n})(hf:f its.toArray=its'.toArray)(hv:Vals ys its')(hz:ys.length≤sizeLine) :
 Inv X pins σ (upd H l (.lst ys)) {s with heap:=s.heap.update l (Obj.mapSeq f),toks:=t'}:=by
 have q:=PySem.IsL.update e f
 rw[hf] at q
 refine I.write (x:=l) (e:=l) (by rw[hH];exact trivial) (.inl rfl) (fun b' u hb hu=>(Heap.get?_update_other s.heap (Obj.mapSeq f) (Ne.symm hb)).trans hu) ⟨_,q⟩ ?_
 exact⟨hz,its',_,hv,q⟩
theorem Inv.Zkw{its:List Value}{t':Nat}(I:Inv X pins σ H s)(hv:Vals ys its)(hz:ys.length≤sizeLine) :
 Inv X pins σ (upd H s.heap.objs.size (.lst ys)) {s with heap:=s.heap.push {cls:=.type "list",data:=.seq its.toArray},toks:=t'}:=
 I.laid (fun _ _ q=>Heap.get?_push_of_some _ q) (Nat.le_refl _) ⟨hz,its,0,hv,Heap.get?_push_size _ rfl⟩
theorem Inv.fresh(I:Inv X pins σ H s):H s.heap.objs.size=none:=I.hok.fresh (Nat.le_refl _)
theorem Inv.Xu(I:Inv X pins σ H s)(hH:H l=some (.lst xs)):xs.length≤sizeLine∧∃(its:List Value) (n:Nat),Vals xs its∧xs.length=its.length∧s.heap.get? l=some {cls:=.type "list",data:=.seq its.toArray n}:=by
 obtain⟨z,its,n,r,e⟩:=I.hok l _ hH
 exact⟨z,its,n,r,r.length,e⟩
theorem Hj{n:Nat}(h:n≤sizeLine):Builtin.List.listTooLong n=false:=by
 unfold Builtin.List.listTooLong
 exact decide_eq_false (by omega)
end
section
variable{X:Cx}
def CQ:V→List V→Hp→VK→Prop:=fun x vs H Q=>∃l xs y,x=.ref l∧vs=[y]∧H l=some (.lst xs)∧xs.length<sizeLine∧Q .non (upd H l (.lst (xs ++ [y])))
theorem bF:MtM X "list.append" CQ:=by
 intro pins s σ H x vs v us Q I rx rv h
 obtain⟨l,xs,y,rfl,rfl,hH,hz,q⟩:=h
 cases rx
 obtain⟨u,rfl,ru⟩:=rv.one
 obtain⟨z,its,n,r,hl,e⟩:=I.Xu hH
 refine call_meets F.slot_list_append ⟨_,e,rfl⟩ F.entry_list_append (F.args_list_append_2 _ _) (PySem.list_append l its.toArray n u (by rw[List.size_toArray];omega)) ⟨e,?_⟩
 refine⟨.non,_,I.ZcQ (its':=its ++ [u]) hH e (by simp) (r.append (.cons ru .nil)) ?_,rfl,q⟩
 rw[List.length_append,List.length_singleton]
 omega
def CT:V→List V→Hp→VK→Prop:=fun x vs H Q=>∃l b xs zs,x=.ref l∧vs=[.ref b]∧H l=some (.lst xs)∧H b=some (.lst zs)∧xs.length+zs.length≤sizeLine∧Q .non (upd H l (.lst (xs++zs)))
theorem qT:MtM X "list.extend" CT:=by
 intro pins s σ H x vs v us Q I rx rv h
 obtain⟨l,b,xs,zs,rfl,rfl,hH,hB,hz,q⟩:=h
 cases rx
 obtain⟨u,rfl,ru⟩:=rv.one
 cases ru
 obtain⟨z,its,n,r,hl,e⟩:=I.Xu hH
 obtain⟨z2,its2,n2,r2,hl2,e2⟩:=I.Xu hB
 have hsz:its.toArray.size+its2.toArray.size≤sizeLine:=by rw[List.size_toArray,List.size_toArray];omega
 have ZcR:¬(!its.toArray.isEmpty && Builtin.List.listTooLong (its.toArray.size+its2.toArray.size))=true:=by
  rw[Hj hsz,Bool.and_false]
  exact Bool.false_ne_true
 refine call_meets F.slot_list_extend ⟨_,e,rfl⟩ F.entry_list_extend (F.args_list_extend_2 _ _)
  (AutoSeq1.list_extend_list_list_0 l its.toArray n b its2.toArray n2 ZcR (by rw[List.size_toArray];omega) (by omega)) ⟨e,e2,?_⟩
 refine⟨.non,_,I.ZcQ (its':=its++its2) hH e (by simp) (r.append r2) ?_,rfl,q⟩
 rw[List.length_append]
 omega
end
section
variable{prog:Program}{w:World}{A:Around}{E:Value→Shared→Prop}{s:Shared}
end
section
variable{X:Cx}
end
end L2
namespace Att
open PySem PySem.W PySem.Calls PyProof.Rows
theorem mW{P:Params}{h:Heap}:∀(ns:List Int) (vs:List Value),WellAll P h vs (ns.map WData.int)→IntsAre vs ns:=by
 intro ns
 induction ns with
 |nil=>
  intro vs w
  rw[List.map_nil] at w
  cases w
  exact .nil
 |cons n ns ih=>
  intro vs w
  rw[List.map_cons] at w
  cases w with
  |cons a b=>
   cases a
   exact .cons _ _ (ih _ b)
theorem Fd{l:OpenLaw}{n:Nat}(hn:l.most=some n){P:Params}{h:Heap}{args:List WData}{vals:List Value}
 (hpre:l.row.toRowW.claim.pre args=true)(hwl:WellAll P h vals args) :
 ∃a vs ns,vals=[Value.ref a]∧args=[WData.list (ns.map WData.int)]∧h.get? a=some {cls:=.type "list",data:=.seq vs.toArray}∧IntsAre vs ns∧ns.length≤n:=by
 have hsh:WShape.hasAll [] args [.list .int]=true:=(pre_splitW hpre).1
 have hc:l.pre.holds [] {args:=args}=true:=(pre_splitW hpre).2
 obtain⟨d,r,rfl,h1,h2⟩:=hasAllW_cons hsh
 obtain rfl:=hasAllW_nil h2
 obtain⟨xs,rfl,h3⟩:=hasW_list h1
 obtain⟨ns,rfl⟩:=items_int h3
 have hlen:ns.length≤n:=by
  unfold OpenLaw.pre at hc
  have h4:(WTm.not (.lt (.lit (.int (n:Int))) (.len (.arg 0)))).holds [] {args:=[.list (ns.map .int)]}=true:=by
   have h4:=(holds_andW hc).1
   rw[hn] at h4
   exact h4
  have h5:=condW_of h4 (w_not (w_lt w_lit (w_len_list (w_arg rfl))))
  rw[List.length_map] at h5
  refine Nat.le_of_not_lt fun q=>?_
  have q':(n:Int)<((ns.length:Nat):Int):=by omega
  first
   |(rw[decide_eq_true q'] at h5;exact absurd h5 (by decide))
   |(simp at h5;omega)
 cases hwl with
 |cons w1 w2=>
  cases w2
  cases w1 with
  |list ho hall=>exact⟨_,_,ns,rfl,rfl,ho,mW ns _ hall,hlen⟩
theorem Fe(l:OpenLaw)(args:List WData):l.row.toRowW.claim.post args (.bool true) args=true:=
 postW_of (r:=l.row.toRowW) (X:=(true== true))
  (show WShape.has [] (.bool true) .bool=true by first|rfl|decide|simp[WShape.has,WShape.arms,WShape.armsAll])
  (show(WTm.eq .res (.lit (.bool true))).value [] {args:=args,res:=some (.bool true),after:=args}=some (.bool (true== true)) from w_eq_bool (w_res rfl) w_lit) rfl
theorem wD{l:OpenLaw}{n:Nat}{q:Program}{loose:List Str}{XP:(Str→Option Value)→Heap→Prop}{YP:World→Heap→Prop}{d:DefRec}
 (hn:l.most=some n)(hdf:d.params.defaults=[])
 (call:∀(w:World) (s₀ s₁:Shared) (mg mb:Str→Option Value) (fa:Addr) (o:Obj) (pm cd doc:Value) (a:Addr) (vs:List Value) (ns:List Int),
   Ground q loose [] XP w s₀ mg mb s₁.heap→YP w s₁.heap→
   s₁.heap.get? fa=some o→o.data=.func (docDef d.name d.params d.body d.scope pm cd doc)→s₁.heap.CodeRec cd d.name→mg d.name=some (.ref fa)→
   s₁.heap.get? a=some {cls:=.type "list",data:=.seq vs.toArray}→IntsAre vs ns→ns.length≤n→s₁.gens= #[]→
   codeAny (model l.prog w) callerA (.call (.ref fa) ⟨[.ref a],[]⟩) (fun r s'=>r=.ok (.ret (.bool true))∧OldK s₁.heap s'.heap∧s'.os=s₁.os∧AllBare s'.gens) s₁) :
 WalkO q loose XP YP l.row.toRowW d [] (fun f vs=>PySem.call f vs):=by
 intro w s₀ s₁ mg mb G Y fa o pm cd doc dV kV ho hd hcd hD hmg hg args vals as hpre hlay hrd hwl hlo
 obtain rfl:dV=.none:=Dflts.none hD hdf
 obtain rfl:kV=.none:=Dflts.noKw hD
 obtain⟨a,vs,ns,rfl,rfl,hobj,hints,hlen⟩:=Fd hn hpre hwl
 refine enter_call (codeAny_mono (call w s₀ s₁ mg mb fa o pm cd doc a vs ns G Y ho (fd_plain hd) hcd hmg hobj hints hlen hg) fun r s' hq=>?_)
 obtain⟨rfl,h2,h3,h4⟩:=hq
 exact⟨.inl ⟨.bool true,.bool true,[],rfl,fun _=>rfl,.bool true,Fe l _,fun _=>⟨List.Pairwise.nil,fun _ hm=>(nomatch hm)⟩⟩,h2,h3,h4⟩
section
variable{prog:Program}{w:World}{A:Around}{E:Value→Shared→Prop}{s:Shared}{K:Frag}
end
end Att
namespace L2
open PySem PySem.Spec PyProof.Rows
theorem aL:∀{vs:List Value} {ns:List Int},IntsAre vs ns→Vals (ns.map V.int) vs
 |_,_,.nil=>.nil
 |_,_,.cons n t h=>.cons ⟨t,rfl⟩ (aL h)
def Only(H:Hp):Prop:=∀b,H b=none∨∃o xs,H b=some (.dw o (.lst xs))
theorem Hl{P:Program}{w:World}{K:PySem.W.Frag}{mg mb:Str→Option Value}{CX:qt}{k:Nat}{fa a:Addr}{fd:FuncData}{x:Str}{sp:Sp}{s₁:Shared}{vs:List Value}{ns:List Int}
 (KX:K.In s₁.heap)(hns:s₁.heap.Ns mainGlobals mg)(hb:s₁.heap.Ns builtinsNs mb)(hbb:∀x:Str,x≠ "__name__" →mb x=bootBuiltins x)(hlim:s₁.heap.NoLimit)(hg:s₁.gens= #[])
 (ha:s₁.heap.get? a=some {cls:=.type "list",data:=.seq vs.toArray})(hi:IntsAre vs ns)(hl:ns.length≤sizeLine)(hr:bx k callerA)
 (F:∀base:Heap,K.In base→base.Ns mainGlobals mg→į P w K mg base CX k fa fd [x] sp)(hbind:∀(s:Shared) (u:Value),BindsTo s fd ⟨[u],[]⟩ [(x,u)])
 (hsp:∀H:Hp,Only H→aF K H a (ns.map V.int)→sp [.ref a] H (fun v _=>v=.bl true) fun _ _ _=>False)
 (hCX:∀H e s',CX [] H s₁ (fun _ _ _=>False) e s'→False) :
 codeAny (model P w) callerA (.call (.ref fa) ⟨[.ref a],[]⟩) (fun r s'=>r=.ok (.ret (.bool true))∧OldK s₁.heap s'.heap∧s'.os=s₁.os∧AllBare s'.gens) s₁:= by
 have rv:=aL hi
 have lenV:=hi.length
 -- from an abstract heap in which nothing but the script may be tracked
 have core:∀H:Hp,Only H→aF K H a (ns.map V.int)→dz P w H s₁.heap→(∀b,H b≠none→b=a)→(H a≠none→K.lookup a=none)→
  codeAny (model P w) callerA (.call (.ref fa) ⟨[.ref a],[]⟩) (fun r s'=>r=.ok (.ret (.bool true))∧OldK s₁.heap s'.heap∧s'.os=s₁.os∧AllBare s'.gens) s₁:= by
  intro H hO hS hok hA hK
  have CV:∀{b:Addr} {o:Obj},s₁.heap.get? b=some o→H b=none→(tM s₁.heap H).get? b=some o:=fun e n=>Gy e n
  have noA:∀{b:Addr} {o:Obj} {es:Array DictEntry} {ep:Nat},s₁.heap.get? b=some o→o.data=.dict es ep→H b=none:=fun{b o es ep} e d=>by
   cases q:H b with
   |none=>rfl
   |some u=>
    have e':b=a:=hA b (by rw[q];simp)
    subst e'
    rw[ha] at e;cases e
    have d':Data.seq vs.toArray _=Data.dict es ep:=d
    cases d'
  have nsK:∀{b:Addr} {m:Str→Option Value},s₁.heap.Ns b m→(tM s₁.heap H).Ns b m:=fun{b m} ⟨o,es,ep,e,d,r⟩=>⟨o,es,ep,CV e (noA e d),d,r⟩
  have hKb:K.In (tM s₁.heap H):=fun b o e=>CV (KX b o e) (by
   cases q:H b with
   |none=>rfl
   |some u=>
    have e':b=a:=hA b (by rw[q];simp)
    subst e'
    rw[hK (by rw[q];simp)] at e;cases e)
  have hM:Mod K mg (tM s₁.heap H):=⟨hKb,nsK hns,⟨mb,nsK hb,hbb⟩,let ⟨mc,h1,h2⟩:=hlim;⟨mc,nsK h1,h2⟩⟩
  have e0:Aa P w K mg (tM s₁.heap H) callerA [] s₁ H:=⟨rfl,hM,fun b o e=>QL e,Nat.le_of_eq (Eo _ _),trivial,fun b hb=>absurd (show b∈([]:List Addr) from hb) (by simp),hok,.of_eq hg⟩
  refine codeAny_mono ((F _ hKb (nsK hns)).run callerA [] s₁ H ⟨[.ref a],[]⟩ [.ref a] [.ref a] _ _ hr e0 (hbind s₁ (.ref a)) (.cons rfl .nil) (hsp H hO hS)) fun r s' h=>?_
  cases r with
  |error e=>exact(hCX H e s' h).elim
  |ok fl=>
   cases fl with
   |next=>exact False.elim h
   |brk=>exact False.elim h
   |cont=>exact False.elim h
   |ret u=>
    obtain⟨v,H',os,bare,un,hok',r',q⟩:=h
    have q':v=.bl true:=q
    subst q'
    obtain rfl:u=Value.bool true:=r'
    refine⟨rfl,OldK.of_keep fun b o e=>?_,os,bare⟩
    cases q:H b with
    |none=>exact un.keep b o e q (by intro z;exact absurd (show b∈([]:List Addr) from z) (by simp)) (by simp)
    |some u=>
     rcases hO b with z|⟨ob,xs,z⟩
     ·rw[q] at z;cases z
     ·have z2:=un.dY b ob _ z
      obtain⟨e1,_⟩:=hok b _ z
      obtain⟨e2,_⟩:=hok' b _ z2
      rw[e] at e1;cases e1
      exact e2
 cases hk:K.lookup a with
 |some o=>
  -- the script is one of the module's own objects
  have e:=KX a o hk
  rw[ha] at e
  cases e
  refine core (fun _=>none) (fun _=>.inl rfl) (.inr ⟨_,vs.toArray,_,hk,rfl,rfl,rfl,by rw[List.size_toArray,lenV];exact hl,by simpa using rv⟩) (fun b u z=>by have z':(none:Option HO)=some u:=z;cases z') (fun b z=>absurd rfl z) fun z=>absurd rfl z
 |none=>
  refine core (fun b=>if b=a then some (.dw {cls:=.type "list",data:=.seq vs.toArray} (.lst (ns.map V.int))) else none) (fun b=>?_) (.inl (.inr ⟨{cls:=.type "list",data:=.seq vs.toArray},if_pos rfl⟩)) (fun b u z=>?_) (fun b z=>?_) fun _=>hk
  ·by_cases hb:b=a
   ·exact .inr ⟨_,_,if_pos hb⟩
   ·exact .inl (if_neg hb)
  ·by_cases hb:b=a
   ·have z':=(if_pos hb).symm.trans z
    cases z'
    subst hb
    exact⟨ha,by rw[List.length_map];exact hl,vs,_,rv,ha⟩
   ·have z':=(if_neg hb).symm.trans z
    cases z'
  ·by_cases hb:b=a
   ·exact hb
   ·exact absurd (if_neg hb) z
end L2
namespace L2
open PySem PySem.Spec PyProof.Rows
theorem Rn{l:PySem.W.OpenLaw}{n k:Nat}{q:Program}{loose:List Str}{XP:(Str→Option Value)→Heap→Prop}{YP:World→Heap→Prop}{d:DefRec}{K:Params→PySem.W.Frag}{CX:World→qt}{sp:World→Sp}{x:Str}
 (hn:l.most=some n)(hn2:n≤sizeLine)(hdf:d.params.defaults=[])(hr:bx k callerA)
 (hY:∀(w:World) (h:Heap),YP w h→(K w.params).In h)
 (F:∀(w:World) (mg:Str→Option Value) (fa:Addr) (h:Heap),(K w.params).In h→h.Ns mainGlobals mg→mg d.name=some (.ref fa)→
   ∃fd:FuncData,(∀(s:Shared) (u:Value),BindsTo s fd ⟨[u],[]⟩ [(x,u)])∧
    ∀base:Heap,(K w.params).In base→base.Ns mainGlobals mg→į l.prog w (K w.params) mg base (CX w) k fa fd [x] (sp w))
 (hsp:∀(w:World) (H:Hp) (a:Addr) (ns:List Int),ns.length≤n→Only H→aF (K w.params) H a (ns.map V.int)→sp w [.ref a] H (fun v _=>v=.bl true) fun _ _ _=>False)
 (hCX:∀(w:World) (H:Hp) (s:Shared) (e:Value) (s':Shared),CX w [] H s (fun _ _ _=>False) e s'→False) :
 PySem.W.WalkO q loose XP YP l.row.toRowW d [] (fun f vs=>PySem.call f vs):=by
 refine Att.wD hn hdf fun w s₀ s₁ mg mb fa o pm cd doc a vs ns G Y ho hd hcd hmg hobj hints hlen hg=>?_
 have KX:=hY w _ Y
 obtain⟨fd,hb,hF⟩:=F w mg fa _ KX G.T.g hmg
 exact Hl KX G.T.g G.T.b G.T.builtins G.T.nolimit hg hobj hints (Nat.le_trans hlen hn2) hr hF hb (fun H hO hS=>hsp w H a ns hlen hO hS) fun H e s'=>hCX w H s₁ e s'
end L2
namespace L2
open PySem PySem.Spec PyProof.Rows
def inClass(s:Stmt)(j:Nat):Stmt:=match s with
 | .ClassDef _ _ _ body _ _ _ _ _ _ _=>body.getD j (.Pass ⟨0,0,0,0⟩)
 |_=>.Pass ⟨0,0,0,0⟩
def gU(s:Stmt):Arguments:=match s with
 | .FunctionDef _ a _ _ _ _ _ _ _ _=>a
 |_=> {posonlyargs:=[],args:=[],vararg:=none,kwonlyargs:=[],kw_defaults:=[],kwarg:=none,defaults:=[]}
def bH(s:Stmt):List Stmt:=match s with
 | .FunctionDef _ _ b _ _ _ _ _ _ _=>b
 |_=>[]
def ĉ(s:Stmt):Scope:=match s with
 | .FunctionDef _ _ _ _ _ _ sc _ _ _=>sc
 |_=> {kind:=.function,names:=[],isGenerator:=false,isCoroutine:=false}
structure ź(K:PySem.W.Frag)(x qual:Str)(st:Stmt)(f:Addr)(fd:FuncData):Prop where
 ex:∃(oc:Value) (od:Option Addr) (kV doc pm:Value) (an:Option Addr) (cdv ct:Value) (osl:Array (Option Value)),
   fd=PySem.W.fnOf x qual (gU st) (bH st) (ĉ st) .none kV doc pm an cdv ct∧K.lookup f=some ⟨oc,od,.func fd,osl⟩∧PySem.W.codeIn K cdv qual=true
 kp:PySem.W.keepIn K (.ref f)=true
section
variable{P:Program}{w:World}{K:PySem.W.Frag}{mg:Str→Option Value}{base:Heap}
theorem ź.binds{x qual:Str}{st:Stmt}{f:Addr}{fd:FuncData}{ps:List Str}(F:ź K x qual st f fd)
 (h:∀(kV doc pm:Value) (an:Option Addr) (cdv ct:Value) (us:List Value),us.length=ps.length→bindArgs (PySem.W.fnOf x qual (gU st) (bH st) (ĉ st) .none kV doc pm an cdv ct) ⟨us,[]⟩=pure (ps.zip us)):Binds K fd ps []:=by
 obtain⟨oc,od,kV,doc,pm,an,cdv,ct,osl,rfl,lk,hcd⟩:=F.ex
 exact .all (h kV doc pm an cdv ct)
theorem Ģ{x qual:Str}{st:Stmt}{f:Addr}{oc:Value}{od an:Option Addr}{osl:Array (Option Value)}{kV doc pm cdv ct:Value}(l:K.lookup f=some ⟨oc,od,.func (PySem.W.fnOf x qual (gU st) (bH st) (ĉ st) .none kV doc pm an cdv ct),osl⟩)
 (c:PySem.W.codeIn K cdv qual=true)(k:PySem.W.keepIn K (.ref f)=true):ź K x qual st f (PySem.W.fnOf x qual (gU st) (bH st) (ĉ st) .none kV doc pm an cdv ct):=⟨⟨oc,od,kV,doc,pm,an,cdv,ct,osl,rfl,l,c⟩,k⟩
end
section
variable{X:Cx}
theorem pv(i:Nat){x:Str}{pos:Pos}(hN:X.N[i]?=some x:=by rfl)(hv:Gu X.env.scope x:=by first|exact Or.inl rfl|exact Or.inr (Or.inl rfl)|exact Or.inr (Or.inr rfl))(hd:(x== ("__debug__" :Str))=false:=by decide)
 (hcd:(x== ("__classdict__" :Str))=false:=by decide):PE X (.Name x pos) (tU i):=fZ hN hv hd hcd
end
def Same(H H':Hp):Prop:=∀b o,H b=some o→H' b=some o
theorem Same.refl(H:Hp):Same H H:=fun _ _ h=>h
theorem Same.trans{H H1 H2:Hp}(a:Same H H1)(b:Same H1 H2):Same H H2:=fun c o h=>b c o (a c o h)
theorem Same.free{H H':Hp}(e:Same H H'){l:Addr}(h:H' l=Option.none):H l=Option.none:=by
 cases q:H l with
 |none=>rfl
 |some o=>
  rw[e l o q] at h
  cases h
theorem Same.seq{K:PySem.W.Frag}{H H':Hp}{a:Addr}{xs:List V}(e:Same H H')(h:aF K H a xs):aF K H' a xs:=by
 rcases h with(h|⟨o,h⟩)|h
 ·exact .inl (.inl (e _ _ h))
 ·exact .inl (.inr ⟨o,e _ _ h⟩)
 ·exact .inr h
end L2
namespace M2
open PySem PySem.Spec PyProof.Rows L2
section
variable{X:Cx}{a b c e:Expr}{ta tb tc te:TE}{pos:Pos}
theorem PE.wk{t t':TE}(h:PE X e t)(i:∀σ H Q,t' σ H Q→t σ H Q):PE X e t':=fun pins s σ H Q I q=>h pins s σ H Q I (i σ H Q q)
theorem PS.wk{st:Stmt}{t t':TS}(h:PS X st t)(i:∀D σ H,t' D σ H→t D σ H):PS X st t':=fun pins s σ H D I q=>h pins s σ H D I (i D σ H q)
theorem bh.wk{f:Value→Value→Sem Value}{r r':R2}(h:bh X f r)(i:∀x y H Q,r' x y H Q→r x y H Q):bh X f r':=fun pins s σ H x y v u Q I rx ry q=>h pins s σ H x y v u Q I rx ry (i x y H Q q)
theorem Q_.wk{f:Value→Sem Value}{r r':V→Hp→VK→Prop}(h:Q_ X f r)(i:∀x H Q,r' x H Q→r x H Q):Q_ X f r':=fun pins s σ H x v Q I rx q=>h pins s σ H x v Q I rx (i x H Q q)
theorem Ş.wk{f:Value}{r r':List V→Hp→VK→Prop}(h:Ş X f r)(i:∀xs H Q,r' xs H Q→r xs H Q):Ş X f r':=fun pins s σ H xs us Q I r q=>h pins s σ H xs us Q I r (i xs H Q q)
theorem Ab.wk{r r':R2}(h:Ab X r)(i:∀x y H Q,r' x y H Q→r x y H Q):Ab X r':=fun va sl pins s σ H x y v u Q I rx ry q=>h va sl pins s σ H x y v u Q I rx ry (i x y H Q q)
theorem CJ.wk{r r':V→Option Int→Option Int→Hp→VK→Prop}(h:CJ X r)(i:∀x lo hi H Q,r' x lo hi H Q→r x lo hi H Q):CJ X r':=fun pins s σ H x v vl vu lo hi sl Q I rx hs pl pu q=>h pins s σ H x v vl vu lo hi sl Q I rx hs pl pu (i x lo hi H Q q)
def Xx(i:Nat):TE:=fun σ H Q=>match σ[i]? with
 |some (some v)=>Q v H
 |_=>False
theorem Ro{i:Nat}{σ:L2.St}{H:Hp}{Q:VK}(h:Xx i σ H Q):tU i σ H Q:=by
 unfold Xx at h
 split at h
 ·exact⟨_,by assumption,h⟩
 ·exact h.elim
theorem mv(i:Nat){x:Str}{pos:Pos}(hN:X.N[i]?=some x:=by rfl)(hv:Gu X.env.scope x:=by first|exact Or.inl rfl|exact Or.inr (Or.inl rfl)|exact Or.inr (Or.inr rfl))(hd:(x== ("__debug__" :Str))=false:=by decide)
 (hcd:(x== ("__classdict__" :Str))=false:=by decide):PE X (.Name x pos) (Xx i):=PE.wk (fZ hN hv hd hcd) fun _ _ _ h=>Ro h
def bOf(x:V)(k:Bool→Prop):Prop:=match x with
 | .bl c=>k c
 |_=>False
theorem tZ{x:V}{k:Bool→Prop}(h:bOf x k):∃c,x=.bl c∧k c:=by
 cases x with
 |bl c=>exact⟨c,rfl,h⟩
 |_=>exact h.elim
def Ul(t:TE):TT:=fun σ H Q=>t σ H fun x H1=>bOf x fun c=>Q c H1
theorem Xy{op:CmpOp}{r:R2}(ho:bh X (compareOp op) r)(ha:PE X a ta)(hb:PE X b tb)(hm:behindInMarks op b=false):PT X (.Compare a [op] [b] pos) (Ul (tOp r ta tb)):=by
 intro pins s σ H Q I h
 refine wpAny_isTrue_Compare1 (ŧ (ha pins s σ H _ I h) fun v s1 ⟨x,H1,I1,r1,q1⟩=>ŧ (hb pins s1 σ H1 _ I1 q1) fun u s2 ⟨y,H2,I2,r2,q2⟩=>
  ŧ (ho pins s2 σ H2 x y v u _ I2 r1 r2 q2) fun c s3 ⟨z,H3,I3,r3,q3⟩=>?_) hm
 obtain⟨k,e,q3⟩:=tZ q3
 subst e
 cases r3
 exact wpAny_truthy_bool ⟨H3,I3,q3⟩
def Ho(r r':R2)(ta tb tc:TE):TE:=fun σ H Q=>ta σ H fun x H1=>tb σ H1 fun y H2=>r x y H2 fun z H3=>bOf z fun k=>
 (if k=true then tc σ H3 fun w' H4=>r' y w' H4 Q else Q (.bl false) H3)
theorem Hq{op op':CmpOp}{r r':R2}(ho:bh X (compareOp op) r)(ho':bh X (compareOp op') r')(ha:PE X a ta)(hb:PE X b tb)(hc:PE X c tc)
 (hm:lastMarks [op,op'] [b,c]=false:=by with_unfolding_all rfl):PE X (.Compare a [op,op'] [b,c] pos) (Ho r r' ta tb tc):=by
 intro pins s σ H Q I h
 refine Compare_chain (ŧ (ha pins s σ H _ I h) fun v s1 ⟨x,H1,I1,r1,q1⟩=>chain_link (ŧ (hb pins s1 σ H1 _ I1 q1) fun u s2 ⟨y,H2,I2,r2,q2⟩=>
  ŧ (ho pins s2 σ H2 x y v u _ I2 r1 r2 q2) fun d s3 ⟨z,H3,I3,r3,q3⟩=>?_)) hm
 obtain⟨k,e,q3⟩:=tZ q3
 subst e
 cases r3
 refine wpAny_truthy_bool ?_
 cases k with
 |false=>exact ite_ff ⟨.bl false,H3,I3,rfl,q3⟩
 |true=>exact ite_tt (chain_last (ŧ (hc pins s3 σ H3 _ I3 q3) fun w' s4 ⟨z',H4,I4,r4,q4⟩=>ho' pins s4 σ H4 y z' u w' Q I4 r2 r4 q4))
def ZcS(ta tb:TE):TE:=fun σ H Q=>ta σ H fun x H1=>bOf x fun c=>if c=true then tb σ H1 Q else Q (.bl false) H1
def ZcT(ta:TE):TE:=fun σ H Q=>ta σ H fun x H1=>bOf x fun c=>Q (.bl (!c)) H1
variable{rest:List Expr}
theorem Xz(ha:PE X a ta)(hb:PE X (.BoolOp .And (b::rest) pos) tb):PE X (.BoolOp .And (a::b::rest) pos) (ZcS ta tb):=by
 intro pins s σ H Q I h
 refine BoolOp_and (ŧ (ha pins s σ H _ I h) fun v s1 ⟨x,H1,I1,r1,q1⟩=>?_)
 obtain⟨c,rfl,q1⟩:=tZ q1
 cases r1
 refine wpAny_truthy_bool ?_
 cases c with
 |true=>exact hb pins s1 σ H1 Q I1 q1
 |false=>exact⟨.bl false,H1,I1,rfl,q1⟩
theorem XC(ha:PE X a ta):PE X (.UnaryOp .Not a pos) (ZcT ta):=by
 intro pins s σ H Q I h
 refine UnaryOp_ (ŧ (ha pins s σ H _ I h) fun v s1 ⟨x,H1,I1,r1,q1⟩=>?_)
 obtain⟨c,rfl,q1⟩:=tZ q1
 cases r1
 exact not_of (wpAny_truthy_bool ⟨.bl (!c),H1,I1,rfl,q1⟩)
def mI(C:Int→Int→Prop)(g:Int→Int→V):R2:=fun x y H Q=>match x,y with
 | .int i,.int j=>C i j∧Q (g i j) H
 |_,_=>False
def Fg(g:Int→Int→V):R2:=fun x y H Q=>match x,y with
 | .int i,.int j=>Q (g i j) H
 |_,_=>False
theorem CW{C:Int→Int→Prop}{g:Int→Int→V}(x y:V)(H:Hp)(Q:VK)(h:mI C g x y H Q):rI C g x y H Q:=by
 cases x with
 |int i=>
  cases y with
  |int j=>exact⟨i,j,rfl,rfl,h.1,h.2⟩
  |_=>exact h.elim
 |_=>exact h.elim
theorem n_{g:Int→Int→V}(x y:V)(H:Hp)(Q:VK)(h:Fg g x y H Q):Ra g x y H Q:=by
 cases x with
 |int i=>
  cases y with
  |int j=>exact⟨i,j,rfl,rfl,h⟩
  |_=>exact h.elim
 |_=>exact h.elim
def ZcU:R2:=fun x y H Q=>match x,y with
 | .int i,.int j=>Q (.int (i+j)) H
 | .str i,.str j=>i.length+j.length≤sizeLine∧Q (.str (i++j)) H
 |_,_=>False
theorem XD:bh X (binaryOp .Add) ZcU:=bh.wk (Xb.or zU) fun x y H Q h=>by
 cases x with
 |int i=>
  cases y with
  |int j=>exact .inl ⟨i,j,rfl,rfl,h⟩
  |_=>exact h.elim
 |str i=>
  cases y with
  |str j=>exact .inr ⟨i,j,rfl,rfl,h.1,h.2⟩
  |_=>exact h.elim
 |_=>exact h.elim
theorem ŏ:bh X (binaryOp .Sub) (Fg fun i j=>.int (i-j)):=bh.wk Xc n_
def qU(i j:Int):Prop:=Xa i j∨(Builtin.Int.intBits i≤1048576∧Builtin.Int.intBits j≤1048576)
theorem qU.ok{i j:Int}(h:qU i j):IntMulOk i j:=by
 rcases h with h|⟨h1,h2⟩
 ·exact h.ok
 ·exact IntMulOk.of_le h1 h2 (by decide)
theorem XF:bh X (binaryOp .Mult) (mI qU fun i j=>.int (i*j)):=bh.wk (Gv (C:=qU) (g:=fun i j=>i*j) fun _ _ _ _ _ _ _ hc q=>mul_int q hc.ok) CW
def Fi(_ j:Int):Prop:=j≠0∧Builtin.Int.intBits j≤8000
theorem Fi.py{i j:Int}(h:Fi i j):Builtin.divisionGoesByPylong i j=false:=by
 refine PyProof.noPylong_of_log2 ?_
 have hb:=intBits_le_iff.mp h.2
 have h0:j.natAbs≠0:=by have:=h.1;omega
 exact Nat.lt_of_lt_of_le ((Nat.log2_lt h0).mpr hb) (by decide)
theorem Œ:bh X (binaryOp .FloorDiv) (mI Fi fun i j=>.int (i.fdiv j)):=bh.wk (Gv (C:=Fi) (g:=fun i j=>i.fdiv j) fun _ _ _ _ _ _ _ hc q=>floordiv_int hc.1 q (.inl hc.py)) CW
theorem ĺ:bh X (binaryOp .Mod) (mI (fun _ j=>j≠0) fun i j=>.int (i.fmod j)):=bh.wk Rf CW
theorem je:bh X (binaryOp .Pow) (mI W_ fun i j=>.int (i ^ j.toNat)):=bh.wk Xd CW
theorem oh:bh X (compareOp .Lt) (Fg fun i j=>.bl (decide (i<j))):=bh.wk ZcG n_
theorem iw:bh X (compareOp .LtE) (Fg fun i j=>.bl (decide (i≤j))):=bh.wk ZcH n_
theorem ZcV:bh X (compareOp .Gt) (Fg fun i j=>.bl (decide (j<i))):=bh.wk ZcI n_
theorem ZcW:bh X (compareOp .GtE) (Fg fun i j=>.bl (decide (j≤i))):=bh.wk ZcJ n_
def mU(g:Int→V):V→Hp→VK→Prop:=fun x H Q=>match x with
 | .int i=>Q (g i) H
 |_=>False
theorem kO:Q_ X (unaryOp .USub) (mU fun i=>.int (-i)):=Q_.wk Xe fun x H Q h=>by
 cases x with
 |int i=>exact⟨i,rfl,h⟩
 |_=>exact h.elim
def mAbs:List V→Hp→VK→Prop:=fun xs H Q=>match xs with
 | [.int i]=>Q (.int (if i<0 then -i else i)) H
 |_=>False
theorem XH:Ş X (.builtin "abs") mAbs:=Ş.wk GX fun xs H Q h=>by
 unfold mAbs at h
 split at h
 ·exact⟨_,rfl,h⟩
 ·exact h.elim
def Hr:List V→Hp→VK→Prop:=fun xs H Q=>match xs with
 | [.int i,.int j]=>Q (.int (if j<i then j else i)) H
 |_=>False
theorem CZ(hc:X.calm=true):Ş X (.builtin "min") Hr:=Ş.wk (EY hc) fun xs H Q h=>by
 unfold Hr at h
 split at h
 ·exact⟨_,_,rfl,h⟩
 ·exact h.elim
def Hs:List V→Hp→VK→Prop:=fun xs H Q=>match xs with
 | [.int i,.int j]=>Q (.int (if j>i then j else i)) H
 |_=>False
theorem C_(hc:X.calm=true):Ş X (.builtin "max") Hs:=Ş.wk (Ez hc) fun xs H Q h=>by
 unfold Hs at h
 split at h
 ·exact⟨_,_,rfl,h⟩
 ·exact h.elim
def XJ(K:PySem.W.Frag):List V→Hp→VK→Prop:=fun xs H Q=>match xs with
 | [.str y]=>y.length≤sizeLine∧Q (.int (y.length:Int)) H
 | [.ref p]=>∃ys,(aF K H p ys∨cZ K H p ys)∧Q (.int (ys.length:Int)) H
 |_=>False
theorem bU:Ş X (.builtin "len") (XJ X.K):=Ş.wk GZ fun xs H Q h=>by
 unfold XJ at h
 split at h
 ·exact⟨_,_,rfl,⟨h.1,rfl⟩,h.2⟩
 ·obtain⟨ys,h1,h2⟩:=h
  refine⟨_,ys.length,rfl,?_,h2⟩
  rcases h1 with h1|h1
  ·exact .inl ⟨ys,h1,rfl⟩
  ·exact .inr ⟨ys,h1,rfl⟩
 ·exact h.elim
def mIx(K:PySem.W.Frag):R2:=fun x y H Q=>match x,y with
 | .ref p,.int i=>∃xs v,(aF K H p xs∨cZ K H p xs)∧qR xs i=some v∧Q v H
 | .str z,.int i=>∃c,z.length≤sizeLine∧qR z.cps.toList i=some c∧Q (.str ⟨#[c]⟩) H
 |_,_=>False
theorem Ĕ:Ab X (mIx X.K):=Ab.wk Xp fun x y H Q h=>by
 cases x with
 |ref p=>
  cases y with
  |int i=>
   obtain⟨xs,v,h1,h2,h3⟩:=h
   rcases h1 with h1|h1
   ·exact .inl ⟨p,xs,i,v,rfl,rfl,h1,h2,h3⟩
   ·exact .inr (.inl ⟨p,xs,i,v,rfl,rfl,h1,h2,h3⟩)
  |_=>exact h.elim
 |str z=>
  cases y with
  |int i=>
   obtain⟨c,h1,h2,h3⟩:=h
   exact .inr (.inr ⟨z,i,c,rfl,rfl,h1,h2,h3⟩)
  |_=>exact h.elim
 |_=>exact h.elim
def iOf(x:V)(k:Int→Prop):Prop:=match x with
 | .int i=>k i
 |_=>False
def ZcX(t:TE):TO:=fun σ H Q=>t σ H fun x H1=>iOf x fun i=>Q (some i) H1
theorem Ht(h:PE X e te):PO X (some e) (ZcX te):=by
 intro pins s σ H Q I hw
 rw[evalPart_some]
 refine ŧ (h pins s σ H _ I hw) fun u s1 ⟨x,H1,I1,r1,q1⟩=>?_
 cases x with
 |int i=>
  obtain⟨t,rfl⟩:=r1
  exact⟨some i,H1,I1,.int i t,q1⟩
 |_=>exact q1.elim
def Zkx(K:PySem.W.Frag):V→Option Int→Option Int→Hp→VK→Prop:=fun x lo hi H Q=>match x with
 | .ref a=>∃xs,aF K H a xs∧∀p,H p=none→Q (.ref p) (upd H p (.lst (wB xs lo hi)))
 |_=>False
theorem Hv:CJ X (Zkx X.K):=CJ.wk Rm fun x lo hi H Q h=>by
 cases x with
 |ref a=>
  obtain⟨xs,h1,h2⟩:=h
  exact⟨a,xs,rfl,h1,h2⟩
 |_=>exact h.elim
end
end M2
namespace M2
open PySem PySem.Spec PyProof.Rows L2
section
variable{X:Cx}{tg:Expr}
end
mutual
def Rp(K:PySem.W.Frag)(H:Hp):PyData→V→Prop
 | .none,v=>v=.non
 | .bool b,v=>v=.bl b
 | .int i,v=>v=.int i
 | .str x,v=>v=.str x
 | .tuple ds,v=>∃a xs,v=.ref a∧cZ K H a xs∧kW K H ds xs
 | .list ds,v=>∃a xs,v=.ref a∧aF K H a xs∧kW K H ds xs
 | .dict _,_=>False
def kW(K:PySem.W.Frag)(H:Hp):List PyData→List V→Prop
 | [],xs=>xs=[]
 |d::ds,xs=>∃x r,xs=x::r∧Rp K H d x∧kW K H ds r
end
theorem Same.tup{K:PySem.W.Frag}{H H':Hp}{a:Addr}{xs:List V}(e:Same H H')(h:cZ K H a xs):cZ K H' a xs:=by
 rcases h with(h|⟨o,h⟩)|h
 ·exact .inl (.inl (e _ _ h))
 ·exact .inl (.inr ⟨o,e _ _ h⟩)
 ·exact .inr h
theorem Same.upd{H:Hp}{p:Addr}{o:HO}(h:H p=none):Same H (upd H p o):=fun b u e=>by
 rw[Ĝ (ĩ e h)]
 exact e
mutual
theorem Rp.same{K:PySem.W.Frag}{H H':Hp}(e:Same H H'):∀(d:PyData) (v:V),Rp K H d v→Rp K H' d v
 | .none,_,h=>by unfold Rp at h ⊢;exact h
 | .bool _,_,h=>by unfold Rp at h ⊢;exact h
 | .int _,_,h=>by unfold Rp at h ⊢;exact h
 | .str _,_,h=>by unfold Rp at h ⊢;exact h
 | .tuple ds,_,h=>by
   unfold Rp at h ⊢
   obtain⟨a,xs,h1,h2,h3⟩:=h
   exact⟨a,xs,h1,Same.tup e h2,kW.same e ds xs h3⟩
 | .list ds,_,h=>by
   unfold Rp at h ⊢
   obtain⟨a,xs,h1,h2,h3⟩:=h
   exact⟨a,xs,h1,e.seq h2,kW.same e ds xs h3⟩
 | .dict _,_,h=>by unfold Rp at h;exact h.elim
theorem kW.same{K:PySem.W.Frag}{H H':Hp}(e:Same H H'):∀(ds:List PyData) (xs:List V),kW K H ds xs→kW K H' ds xs
 | [],_,h=>by unfold kW at h ⊢;exact h
 |d::ds,_,h=>by
  unfold kW at h ⊢
  obtain⟨x,r,h1,h2,h3⟩:=h
  exact⟨x,r,h1,Rp.same e d x h2,kW.same e ds r h3⟩
end
section
variable{X:Cx}{pins:List (Addr×Obj)}{σ:L2.St}{H:Hp}{s:Shared}
mutual
theorem Rp.reads(I:Inv X pins σ H s):∀(d:PyData) (v:V) (u:Value),Rp X.K H d v→RelV v u→∃as,Reads s.heap u d as
 | .none,v,u,h,r=>by
   unfold Rp at h;subst h;cases r;exact⟨_,.none⟩
 | .bool b,v,u,h,r=>by
   unfold Rp at h;subst h;cases r;exact⟨_,.bool b⟩
 | .int i,v,u,h,r=>by
   unfold Rp at h;subst h;obtain⟨t,rfl⟩:=r;exact⟨_,.int i t⟩
 | .str x,v,u,h,r=>by
   unfold Rp at h;subst h;obtain⟨t,rfl⟩:=r;exact⟨_,.str x t⟩
 | .tuple ds,v,u,h,r=>by
   unfold Rp at h
   obtain⟨a,xs,h1,h2,h3⟩:=h
   subst h1
   cases r
   obtain⟨its,rv,⟨o,e,hc,n,hd⟩,hz⟩:=I.tuple h2
   obtain⟨as,ra⟩:=kW.reads I ds xs its h3 rv
   exact⟨_,.tuple e hc hd (by simpa using ra)⟩
 | .list ds,v,u,h,r=>by
   unfold Rp at h
   obtain⟨a,xs,h1,h2,h3⟩:=h
   subst h1
   cases r
   obtain⟨its,rv,⟨o,n,e,hc,hdd,hd⟩,hz⟩:=I.list h2
   obtain⟨as,ra⟩:=kW.reads I ds xs its h3 rv
   exact⟨_,.list e hc hd (by simpa using ra)⟩
 | .dict _,_,_,h,_=>by unfold Rp at h;exact h.elim
theorem kW.reads(I:Inv X pins σ H s):∀(ds:List PyData) (xs:List V) (us:List Value),kW X.K H ds xs→Vals xs us→∃as,ReadsAll s.heap us ds as
 | [],xs,us,h,r=>by
   unfold kW at h;subst h;cases r;exact⟨_,.nil⟩
 |d::ds,xs,us,h,r=>by
  unfold kW at h
  obtain⟨x,q,h1,h2,h3⟩:=h
  subst h1
  cases r with
  |cons r1 r2=>
   obtain⟨as,ra⟩:=Rp.reads I d x _ h2 r1
   obtain⟨bs,rb⟩:=kW.reads I ds q _ h3 r2
   exact⟨_,.cons ra rb⟩
end
end
def Rq(K:PySem.W.Frag)(neg:Bool):R2:=fun x y H Q=>∃d e,Rp K H d x∧Rp K H e y∧d.canLay0=true∧e.canLay0=true∧min d.depth e.depth≤60∧Q (.bl (if neg then !PyData.eqv d e else PyData.eqv d e)) H
section
variable{X:Cx}
theorem ş(hu:X.A.units+64<cLine):bh X (compareOp .Eq) (Rq X.K false):=by
 intro pins s σ H x y v u Q I rx ry h
 obtain⟨d,e,h1,h2,h3,h4,h5,q⟩:=h
 obtain⟨as,ra⟩:=Rp.reads I d x v h1 rx
 obtain⟨bs,rb⟩:=Rp.reads I e y u h2 ry
 exact SeqAt.compareEq_reads ra rb h3 h4 (by omega) ⟨.bl _,H,I,rfl,q⟩
theorem ou(hu:X.A.units+64<cLine):bh X (compareOp .NotEq) (Rq X.K true):=by
 intro pins s σ H x y v u Q I rx ry h
 obtain⟨d,e,h1,h2,h3,h4,h5,q⟩:=h
 obtain⟨as,ra⟩:=Rp.reads I d x v h1 rx
 obtain⟨bs,rb⟩:=Rp.reads I e y u h2 ry
 exact SeqAt.compareNe_reads ra rb h3 h4 (by omega) ⟨.bl _,H,I,rfl,q⟩
end
section
variable{K:PySem.W.Frag}
end
end M2
namespace M3
open PySem PySem.Spec PyProof.Rows L2 M2
theorem Dc{P:Program}{w:World}{H:Hp}{h h':Heap}{C:Addr}(x:dz P w H h)(hC:H C=none)(k:∀b u,b≠C→h.get? b=some u→h'.get? b=some u):dz P w H h':=fun a o e=>
 (x a o e).stay (fun b u hb q=>k b u (by
   rcases hb with hb|hb
   ·rw[hb];exact ĩ e hC
   ·exact ĩ hb hC) q) (fun _ q=>q) fun _ _ q=>q
theorem jf{env:Env}:∀(ns:List (Str×NameKind)) (cs:List (Str×Addr)),(∀y∈ns,y.2=.free→∃c,env.cells.lookup y.1=some c)→(∀x c,cs.lookup x=some c→env.cells.lookup x=some c)→
 ∃cl,(forIn ns cs (fun(x:Str×NameKind) r=>if(x.2== .free)=true then(do let c ←cellOf env x.1;pure (ForInStep.yield ((x.1,c)::r))) else pure (ForInStep.yield r)):Sem (List (Str×Addr)))=pure cl∧
  (∀x c,cl.lookup x=some c→env.cells.lookup x=some c)∧(∀x,(∃c,cs.lookup x=some c)→∃c,cl.lookup x=some c)∧∀y∈ns,y.2=.free→∃c,cl.lookup y.1=some c
 | [],cs,_,h2=>⟨cs,rfl,h2,fun _ z=>z,fun _ z=>nomatch z⟩
 |(n,k)::ns,cs,h1,h2=>by
  by_cases hk:k=.free
  ·subst hk
   obtain⟨c,hc⟩:=h1 (n,.free) List.mem_cons_self rfl
   have e:cellOf env n=pure c:=by unfold cellOf;rw[hc]
   have h2':∀x d,((n,c)::cs).lookup x=some d→env.cells.lookup x=some d:=fun x d q=>by
    rw[List.lookup_cons] at q
    cases hx:x== n with
    |true=>
     rw[hx] at q
     have:x=n:=eq_of_beq hx
     subst this
     cases q
     exact hc
    |false=>
     rw[hx] at q
     exact h2 x d q
   obtain⟨cl,q1,q2,q3,q4⟩:=jf ns ((n,c)::cs) (fun y hy=>h1 y (List.mem_cons_of_mem _ hy)) h2'
   refine⟨cl,?_,q2,fun x ⟨d,hd⟩=>q3 x ?_,fun y hy hf=>?_⟩
   ·rw[List.forIn_cons]
    simp only[beq_self_eq_true,if_true,e,pure_bind]
    exact q1
   ·rw[List.lookup_cons]
    cases hx:x== n with
    |true=>exact⟨c,rfl⟩
    |false=>exact⟨d,hd⟩
   ·rcases List.mem_cons.mp hy with rfl|hy
    ·exact q3 n ⟨c,by rw[List.lookup_cons,beq_self_eq_true]⟩
    ·exact q4 y hy hf
  ·have hb:(k== NameKind.free)=false:=by simpa using hk
   obtain⟨cl,q1,q2,q3,q4⟩:=jf ns cs (fun y hy=>h1 y (List.mem_cons_of_mem _ hy)) h2
   refine⟨cl,?_,q2,q3,fun y hy hf=>?_⟩
   ·rw[List.forIn_cons]
    simp only[hb,Bool.false_eq_true,if_false,pure_bind]
    exact q1
   ·rcases List.mem_cons.mp hy with rfl|hy
    ·exact absurd hf hk
    ·exact q4 y hy hf
theorem jy{scope:Scope}{env:Env}(h:∀y∈scope.names,y.2=.free→∃c,env.cells.lookup y.1=some c) :
 ∃cl,closureFor scope env=pure cl∧(∀x c,cl.lookup x=some c→env.cells.lookup x=some c)∧∀y∈scope.names,y.2=.free→∃c,cl.lookup y.1=some c:=by
 obtain⟨cl,q1,q2,_,q4⟩:=jf (env:=env) scope.names [] h (fun x c z=>by simp at z)
 refine⟨cl,?_,q2,q4⟩
 unfold closureFor
 have e:(forIn scope.names [] (fun(x:Str×NameKind) (r:List (Str×Addr))=>match x with
  |(name,kind)=>if(kind== .free)=true then(do let a ←cellOf env name;pure (ForInStep.yield ((name,a)::r))) else pure (ForInStep.yield r)):Sem (List (Str×Addr)))=pure cl:=q1
 first
  |(simp only[bind_pure];exact q1)
  |(rw[show ∀(t:Sem (List (Str×Addr))),(do let r ←t;pure r)=t from fun t=>by simp];exact q1)
  |(simp only[q1,pure_bind])
def gW(X:Cx)(N':List Str)(scope:Scope)(cl:List (Str×Addr))(C:Addr)(s:Shared)(H:Hp)(fp:List Addr):Cx where
 prog:=X.prog
 w:=X.w
 K:=X.K
 mg:=X.mg
 base:=X.base
 A:=X.A
 N:=N'
 s₀:= s
 H₀:= H
 env:=compEnvC scope cl C X.env
 outer:=X.stack
 stack:=X.stack
 ex:=fp
 fn:=fun x=>scope.names.lookup x== some .cell
 calm:=X.calm
 pn:=[]
 xe:=fun _ _=>False
def oA(X:Cx)(sc scope:Scope):List Str→List Nat→Prop
 |x::xs,j::js=>X.N[j]?=some x∧(scope.names.lookup x=some .free∧(sc.names.lookup x=some .cell∨sc.names.lookup x=some .free))∧oA X sc scope xs js
 |_,[]=>True
 | [],_::_=>False
def gw(js:List Nat)(nl:Nat)(σ:L2.St):L2.St:=js.map (fun j:Nat=>(σ[j]?).getD none)++List.replicate nl none
theorem qW{X:Cx}{sc scope:Scope}{σ:L2.St}{nl:Nat}:∀{N':List Str} {js:List Nat} {i:Nat} {x:Str} {v:V},oA X sc scope N' js→N'[i]?=some x→(gw js nl σ)[i]?=some (some v)→
 ∃j:Nat,X.N[j]?=some x∧σ[j]?=some (some v)∧scope.names.lookup x=some .free∧(sc.names.lookup x=some .cell∨sc.names.lookup x=some .free)
 |N',[],i,x,v,_,_,h=>by
  unfold gw at h
  rw[List.map_nil,List.nil_append,List.getElem?_replicate] at h
  split at h<;>cases h
 | [],_::_,_,_,_,c,_,_=>c.elim
 |y::N',j::js,0,x,v,c,h1,h2=>by
  obtain⟨c1,c2,_⟩:=c
  simp at h1
  subst h1
  have e:(σ[j]?).getD none=some v:=by simpa[gw] using h2
  refine⟨j,c1,?_,c2⟩
  cases q:σ[j]? with
  |none=>rw[q] at e;cases e
  |some o=>rw[q] at e;exact congrArg some e
 |y::N',j::js,i+1,x,v,c,h1,h2=>by
  exact qW (N':=N') (js:=js) (i:=i) c.2.2 (by simpa using h1) (by simpa[gw] using h2)
section
variable{prog:Program}{w:World}{A:Around}{R:Result→Shared→Prop}{s:Shared}
theorem jz{elt target iter:Expr}{ifs:List Expr}{scope:Scope}{pos:Pos}{it acc:Value}{env:Env}(I:Nat→Shared→Prop)
 (turn:∀n s,I n s→wpAny (model prog w) A (pyNext it) (fun r s₁=>match r with
   |none=>R (.ok .next) s₁
   |some v=>wpAny (model prog w) A (letOwnedTupleGo target it v) (fun _ s₁'=>wpAny (model prog w) A (assign target env v) (fun _ s₂=>
     wpAny (model prog w) A (forIn ifs true fun c r=>if r=true then do let ok ←isTrue c env (eval c env);pure (ForInStep.yield ok) else pure (ForInStep.yield r)) (fun ok s₃=>
      if ok=true then wpAny (model prog w) A (eval elt env) (fun x s₄=>
       wpAny (model prog w) A (call (.builtin "list.append") [acc,x]) (fun _ s₅=>∃m,m<n∧I m s₅) (fun _ _=>False) s₄) (fun _ _=>False) s₃
      else ∃m,m<n∧I m s₃) (fun _ _=>False) s₂) (fun _ _=>False) s₁') (fun _ _=>False) s₁) (fun _ _=>False) s)
 (n:Nat)(h:I n s) :
 codeAny (model prog w) A (.compLoop (.ListComp elt [⟨target,iter,ifs,0⟩] scope pos) 0 it acc env) R s:=by
 refine codeAny_loop rfl I (fun n s hI=>?_) n h
 show wpAny _ A ((compTurn (.ListComp elt [⟨target,iter,ifs,0⟩] scope pos) 0 it acc env).onRaise (fun x=>do noteFrame x env;theTreesLotGoes x)) _ _ s
 refine wpAny_noted (wpAny_noRaise ?_)
 rw[compTurn_list]
 refine wpAny_bind (wpAny_standAt (wpAny_bind (wpAny_mono (turn n s hI) (fun r s₁ h₁=>?_) fun _ _ h'=>h')))
 cases r with
 |none=>exact wpAny_pure h₁
 |some v=>
  refine wpAny_bind (wpAny_mono h₁ (fun _ s₁' h₁'=>?_) fun _ _ h'=>h')
  refine wpAny_bind (wpAny_mono h₁' (fun _ s₂ h₂=>wpAny_bind (wpAny_mono h₂ (fun ok s₃ h₃=>?_) fun _ _ h'=>h')) fun _ _ h'=>h')
  cases ok with
  |false=>exact wpAny_pure ⟨rfl,h₃⟩
  |true=>
   exact wpAny_bind (wpAny_bind (wpAny_mono h₃ (fun x s₄ h₄=>wpAny_bind (wpAny_mono h₄ (fun _ s₅ h₅=>wpAny_pure (wpAny_pure ⟨rfl,h₅⟩)) fun _ _ h'=>h')) fun _ _ h'=>h'))
end
def Um(X:Cx)(ifs:List Expr)(t:TT):Prop:=
 ∀(pins:List (Addr×Obj)) (s:Shared) (σ:L2.St) (H:Hp) (Q:Bool→Hp→Prop),Inv X pins σ H s→t σ H Q→
  wpAny (model X.prog X.w) X.A (forIn ifs true fun c r=>if r=true then do let ok ←isTrue c X.env (eval c X.env);pure (ForInStep.yield ok) else pure (ForInStep.yield r)) (TP X pins σ Q) X.xe s
def Zky:TT:=fun _ H Q=>Q true H
theorem Rr{X:Cx}:Um X [] Zky:=fun _ _ _ H _ I h=>wpAny_tests_nil ⟨H,I,h⟩
theorem Rt{X:Cx}{c:Expr}{t:TT}(h:PT X c t):Um X [c] t:=fun pins s σ H Q I hw=>wpAny_tests_one (h pins s σ H Q I hw)
def Hw(js:List Nat)(nl:Nat)(wi:TI)(g:TG)(tt:TT)(te:TE):TE:=fun σ H Q=>wi σ H fun J H1=>∀D,H1 D=none→
 ∃W:Nat→Nat→L2.St→Hp→Prop,(∃m,W 0 m (gw js nl σ) (upd H1 D (.lst [])))∧∀i m σ' H',W i m σ' H'→
  (J.stop i H'∧Q (.ref D) H')∨(J.go i H'∧∃N:L2.St→Hp→Prop,(∀σ2 H2,N σ2 H2→∃m',m'<m∧W (i+1) m' σ2 H2)∧∀x H2,J.yld i H' x H2→g x σ' H2 fun σ2 H3=>tt σ2 H3 fun c H4=>
    if c=true then te σ2 H4 fun y H5=>∃ys,H5 D=some (.lst ys)∧ys.length<sizeLine∧N σ2 (upd H5 D (.lst (ys ++ [y]))) else N σ2 H4)
section
variable{X:Cx}{elt tg iter:Expr}{ifs:List Expr}{scope:Scope}{pos:Pos}{wi:TI}{g:TG}{tt:TT}{te:TE}
theorem eG{env:Env}:∀{names:List (Str×NameKind)} {x:Str} {k:NameKind},(k=.cell∨k=.free)→
 (names.map fun(n,k)=>if(k== NameKind.free && env.scope.kind== .function && env.kindOf n== some .cell) then(n,NameKind.cell) else(n,k)).lookup x=some k→(x,NameKind.free)∈names∨(x,NameKind.cell)∈names
 | [],x,k,_,h=>by simp at h
 |(n,q)::r,x,k,hk,h=>by
  have ih:=@eG env r x k hk
  rw[List.map_cons] at h
  by_cases hx:x=n
  ·subst hx
   by_cases hf:q=.free
   ·subst hf
    exact .inl List.mem_cons_self
   ·have hb:(q== NameKind.free)=false:=by simpa using hf
    have e:(if(q== NameKind.free && env.scope.kind== .function && env.kindOf x== some .cell)=true then(x,NameKind.cell) else(x,q))=(x,q):=by
     rw[hb];rfl
    have h2:=h
    simp only[e,List.lookup_cons,beq_self_eq_true] at h2
    have:q=k:=Option.some.inj h2
    rcases hk with hk|hk
    ·rw[this,hk]
     exact .inr List.mem_cons_self
    ·exact absurd (this.trans hk) hf
  ·have hn:(x== n)=false:=by simpa using hx
   have h3:(x,NameKind.free)∈r∨(x,NameKind.cell)∈r:=ih (by
    by_cases c:(q== NameKind.free && env.scope.kind== .function && env.kindOf n== some .cell)=true
    ·simp only[c,if_true,List.lookup_cons,hn] at h
     exact h
    ·simp only[c,if_false,Bool.false_eq_true,List.lookup_cons,hn] at h
     exact h)
   rcases h3 with h3|h3
   ·exact .inl (List.mem_cons_of_mem _ h3)
   ·exact .inr (List.mem_cons_of_mem _ h3)
theorem ų:∀(names:List (Str×NameKind)) (n:Nat) (acc:List (Str×Addr)),cellsFrom n names acc=cellsFrom n names []++acc
 | [],_,_=>rfl
 |(x,k)::r,n,acc=>by
  unfold cellsFrom
  split
  ·rw[ų r (n+1) ((x,n)::acc),ų r (n+1) [(x,n)],List.append_assoc]
   rfl
  ·exact ų r n acc
theorem eN:∀(names:List (Str×NameKind)) (n:Nat) {x:Str} {c:Addr},(x,c)∈cellsFrom n names []→(x,NameKind.cell)∈names
 | [],_,_,_,h=>by simp[cellsFrom] at h
 |(y,k)::r,n,x,c,h=>by
  unfold cellsFrom at h
  split at h
  ·rename_i hk
   rw[ų r (n+1) [(y,n)]] at h
   rcases List.mem_append.mp h with h|h
   ·exact List.mem_cons_of_mem _ (eN r _ h)
   ·have e:(x,c)=(y,n):=by simpa using h
    cases e
    rw[beq_iff_eq.mp hk]
    exact List.mem_cons_self
  ·exact List.mem_cons_of_mem _ (eN r _ h)
structure Blk(X:Cx)(scope:Scope)(n:Nat)(h:Heap)(cl:List (Str×Addr)):Prop where
 at_:∀x c,cl.lookup x=some c→(X.env.cells.lookup x=some c∧scope.names.lookup x≠some .cell)∨(n<c∧h.IsCell c none∧scope.names.lookup x=some .cell)
 inj:∀x y c,cl.lookup x=some c→cl.lookup y=some c→n<c→x=y
 has:∀x,((x,NameKind.free)∈scope.names∨(x,NameKind.cell)∈scope.names)→∃c,cl.lookup x=some c
theorem Hx{X:Cx}{scope:Scope}{n:Nat}{h:Heap}{cl:List (Str×Addr)}(hcell:∀y∈scope.names,y.2=.cell→scope.names.lookup y.1=some .cell)
 (h1:∀x c,cl.lookup x=some c→X.env.cells.lookup x=some c)(h2:∀y∈scope.names,y.2=.free→∃c,cl.lookup y.1=some c)(hlt:∀x c,X.env.cells.lookup x=some c→c<n)
 (ok:CellsOk h (n+1) (cellsFrom (n+1) scope.names [])):Blk X scope n h (cellsFrom (n+1) scope.names cl):=by
 have sp:∀x c,(cellsFrom (n+1) scope.names cl).lookup x=some c→(cl.lookup x=some c∧(cellsFrom (n+1) scope.names []).lookup x=none)∨(cellsFrom (n+1) scope.names []).lookup x=some c:=fun x c e=>by
  rw[ų,List.lookup_append] at e
  cases q:(cellsFrom (n+1) scope.names []).lookup x with
  |none=>rw[q] at e;exact .inl ⟨by simpa using e,rfl⟩
  |some d=>rw[q] at e;exact .inr (by simpa using e)
 refine⟨fun x c e=>?_,fun x y c e1 e2 hc=>?_,fun x hx=>?_⟩
 ·rcases sp x c e with⟨e,q⟩|e
  ·refine .inl ⟨h1 x c e,fun z=>?_⟩
   obtain⟨d,hd⟩:=jx (sc:=scope) (n:=n+1) z
   rw[hd] at q
   cases q
  ·have m:=mem_of_lookup e
   exact .inr ⟨(ok.empty x c m).2,(ok.empty x c m).1,hcell _ (eN _ _ m) rfl⟩
 ·have nw:∀z,(cellsFrom (n+1) scope.names cl).lookup z=some c→(cellsFrom (n+1) scope.names []).lookup z=some c:=fun z e=>by
   rcases sp z c e with⟨e,q⟩|e
   ·exact absurd (hlt z c (h1 z c e)) (Nat.lt_asymm hc)
   ·exact e
  exact name_of_addr ok.apart (mem_of_lookup (nw x e1)) (mem_of_lookup (nw y e2))
 ·rw[ų,List.lookup_append]
  rcases hx with hx|hx
  ·obtain⟨c,hc⟩:=h2 _ hx rfl
   cases q:(cellsFrom (n+1) scope.names []).lookup x with
   |none=>exact⟨c,by simpa using hc⟩
   |some d=>exact⟨d,rfl⟩
  ·obtain⟨d,hd⟩:=jx (sc:=scope) (n:=n+1) (hcell _ hx rfl)
   rw[hd]
   exact⟨d,rfl⟩
theorem iy{M:Model}{A:Around}{E:Value→Shared→Prop}{s:Shared}{scope:Scope}{globals:Addr}{closure:List (Str×Addr)}{qual:Str}
 {func:Option Addr}{code:Value}{env0:Env}{builtins:Addr}{Q:Env→Shared→Prop}
 (hQ:∀h',h'.Ns s.heap.objs.size (fun _=>none)→(∀b o,s.heap.get? b=some o→h'.get? b=some o)→CellsOk h' (s.heap.objs.size+1) (cellsFrom (s.heap.objs.size+1) scope.names [])→
   Q (newEnv scope s.heap.objs.size globals (cellsFrom (s.heap.objs.size+1) scope.names closure) qual func code (some env0) builtins) {s with heap:=h'}) :
 wpAny M A (newFunctionEnv scope globals closure [] qual func code (some env0) builtins) Q E s:=by
 simp only[newFunctionEnv,Option.isSome_some,if_true]
 refine wpAny_bind (wpAny_alloc ?_)
 refine wpAny_bind (wpAny_layCells _ (fun name kind cells=>by cases hkc:kind== NameKind.cell<;>simp[hkc]) _ _ _ _ ?_)
 have ok:=cellsFrom_ok scope.names (s.heap.push {cls:=.type "dict",data:=.dict #[]}) (s.heap.objs.size+1) [] ⟨fun _ _ hm=>(nomatch hm),List.Pairwise.nil⟩ (by rw[Heap.size_push];exact Nat.le_refl _)
 rw[Heap.size_push] at ok
 rw[show({s with heap:=s.heap.push {cls:=.type "dict",data:=.dict #[]}}:Shared).heap.objs.size=s.heap.objs.size+1 from Heap.size_push ..]
 refine wpAny_bind ?_
 rw[List.forIn_nil]
 exact wpAny_pure (wpAny_pure (hQ _ ((Heap.Ns.new s.heap (.type "dict")).keeps (pushCells_keeps _ _)) (fun b o e=>pushCells_keeps _ _ b o (Heap.get?_push_of_some _ e)) ok))
theorem jA{env:Env}:∀{names:List (Str×NameKind)} {x:Str},names.lookup x=some .free→
 ¬(names.map fun(n,k)=>if(k== NameKind.free && env.scope.kind== .function && env.kindOf n== some .cell) then(n,NameKind.cell) else(n,k)).lookup x=some .local
 | [],x,h=>by simp at h
 |(n,q)::r,x,h=>by
  intro h2
  rw[List.map_cons] at h2
  rw[List.lookup_cons] at h
  cases hx:x== n with
  |true=>
   rw[hx] at h
   cases h
   by_cases c:(NameKind.free== NameKind.free && env.scope.kind== .function && env.kindOf n== some .cell)=true
   ·simp only[c,if_true,List.lookup_cons,hx] at h2
    cases h2
   ·simp only[c,if_false,Bool.false_eq_true,List.lookup_cons,hx] at h2
    cases h2
  |false=>
   rw[hx] at h
   have ih:=jA (env:=env) h
   by_cases c:(q== NameKind.free && env.scope.kind== .function && env.kindOf n== some .cell)=true
   ·simp only[c,if_true,List.lookup_cons,hx] at h2
    exact ih h2
   ·simp only[c,if_false,Bool.false_eq_true,List.lookup_cons,hx] at h2
    exact ih h2
theorem qX{pins:List (Addr×Obj)}{σ:L2.St}{H:Hp}{s:Shared}{N':List Str}{js:List Nat}{nl:Nat}{sc:Scope}{cl:List (Str×Addr)}{fp:List Addr}{h':Heap}{tk:Nat}
 (hsc:X.env.scope=sc)(hk:scope.kind=.function)(hcap:oA X sc scope N' js)(hlen:js.length+nl=N'.length)(B:Blk X scope s.heap.objs.size h' cl)
 (I:Inv X pins σ H s)(hf:∀b∈fp,gj X pins H b)(hlt:∀b∈fp,b<s.heap.objs.size)
 (hn:h'.Ns s.heap.objs.size (fun _=>none))(kp:∀b o,s.heap.get? b=some o→h'.get? b=some o) :
 Inv (gW X N' scope cl s.heap.objs.size s H fp) [] (gw js nl σ) H {s with heap:=h',toks:=tk}:=by
 have Hy:∀x,((gW X N' scope cl s.heap.objs.size s H fp).env.kindOf x=some .cell∨(gW X N' scope cl s.heap.objs.size s H fp).env.kindOf x=some .free)→∃c,cl.lookup x=some c:=fun x hx=>by
  rcases hx with hx|hx
  ·exact B.has x (eG (.inl rfl) hx)
  ·exact B.has x (eG (.inr rfl) hx)
 have lt:∀x c,X.env.cells.lookup x=some c→c<s.heap.objs.size:=fun x c e=>by
  obtain⟨v,o,ho,_⟩:=I.cell x c e
  exact Heap.lt_size ho
 have inj:∀x y c,cl.lookup x=some c→cl.lookup y=some c→x=y:=fun x y c e1 e2=>by
  rcases B.at_ x c e1 with⟨q1,_⟩|⟨q1,_⟩
  ·rcases B.at_ y c e2 with⟨q2,_⟩|⟨q2,_⟩
   ·exact I.ok.inj x y c q1 q2
   ·exact absurd (lt x c q1) (Nat.lt_asymm q2)
  ·exact B.inj x y c e1 e2 q1
 refine⟨⟨I.ok.mod,hk,I.ok.glob,I.ok.blt,Nat.le_refl _,inj,Hy,fun x c z e=>by
  rcases B.at_ x c e with⟨_,q⟩|⟨q,_⟩
  ·exact absurd (beq_iff_eq.mp z) q
  ·exact Nat.le_of_lt q,I.ok.hd,I.ok.frames,.inl rfl,fun b hb=>⟨Nat.ne_of_lt (hlt b hb),fun x c e=>by
  rcases B.at_ x c e with⟨q,_⟩|⟨q,_⟩
  ·exact(hf b hb).2.2.2.2.1 x c q
  ·exact Nat.ne_of_gt (Nat.lt_trans (hlt b hb) q)⟩,
  I.bs,Nat.le_trans I.ok.Ep I.sz,fun b o e hb=>?_,fun b hb hz=>?_,I.stack,I.tQ⟩,rfl,I.bare,Un.kept kp,⟨_,hn,fun i x v e1 e2 e3=>?_⟩,fun x c e=>?_,I.hok.fresh (Nat.le_refl _),fun x c e=>by
    rcases B.at_ x c e with⟨q,_⟩|⟨q,_⟩
    ·exact I.bZ x c q
    ·exact I.hok.fresh (Nat.le_of_lt q),fun p hp=>?_,I.hok.kept kp,?_⟩
 ·rcases(hf b hb).2.2.2.1 with z|z
  ·exact I.ok.qy b o e z
  ·exact absurd (Nat.lt_of_lt_of_le (Heap.lt_size e) (Nat.le_trans I.ok.Ep z)) (Nat.lt_irrefl _)
 ·rcases List.mem_cons.mp (I.nQ b hz) with z|z
  ·exact(hf b hb).2.1 z
  ·exact(hf b hb).2.2.1 z
 ·obtain⟨j,q1,q2,q0,q3⟩:=qW hcap e1 e2
  obtain⟨m,hm,hl⟩:=I.loc
  have Zkz:Gu X.env.scope x:=by
   rw[hsc]
   rcases q3 with q3|q3
   ·exact .inr (.inl q3)
   ·exact .inr (.inr q3)
  obtain⟨u,ru,lk⟩:=hl j x v q1 q2 Zkz
  refine⟨u,ru,?_⟩
  rcases lk with⟨k1,_⟩|⟨k1,c,hc,ic⟩
  ·exfalso
   have k1':sc.names.lookup x=some .local:=by rw[←hsc];exact k1
   rcases q3 with q3|q3<;>(rw[k1'] at q3;cases q3)
  ·have e3':(gW X N' scope cl s.heap.objs.size s H fp).env.kindOf x=some .local∨(gW X N' scope cl s.heap.objs.size s H fp).env.kindOf x=some .cell∨(gW X N' scope cl s.heap.objs.size s H fp).env.kindOf x=some .free:=e3
   rcases e3' with z|z
   ·exact absurd z (jA (env:=X.env) q0)
   ·obtain⟨d,hd⟩:=Hy x z
    have:d=c:=by
     rcases B.at_ x d hd with⟨q,_⟩|⟨_,_,q⟩
     ·rw[hc] at q
      exact(Option.some.inj q).symm
     ·rw[q0] at q
      cases q
    subst this
    exact .inr ⟨z,d,hd,by
     obtain⟨o,ho,hd'⟩:=ic
     exact⟨o,kp _ _ ho,hd'⟩⟩
 ·rcases B.at_ x c e with⟨q,_⟩|⟨_,q,_⟩
  ·obtain⟨v,o,ho,hd⟩:=I.cell x c q
   exact⟨v,o,kp _ _ ho,hd⟩
  ·exact⟨none,q⟩
 ·exact absurd hp (by simp[gW])
 ·show _=N'.length
  rw[←hlen]
  simp[gw]
theorem oE{pins:List (Addr×Obj)}{σ σ':L2.St}{H H':Hp}{s s':Shared}{N':List Str}{cl:List (Str×Addr)}{fp:List Addr}{h':Heap}(I:Inv X pins σ H s)(hf:∀b∈fp,gj X pins H b)
 (J:Inv (gW X N' scope cl s.heap.objs.size s H fp) [] σ' H' s')(kp:∀b u,b≠s.heap.objs.size→s'.heap.get? b=some u→h'.get? b=some u):Inv X pins σ H' {s' with heap:=h'}:=by
 have ne:∀{b:Addr} {o:Obj},s.heap.get? b=some o→b≠s.heap.objs.size:=fun e=>Nat.ne_of_lt (Heap.lt_size e)
 have u:=J.base
 refine I.call' (ch:=fp) J.os ⟨fun b o e n hb hx=>kp b o (ne e) (u.keep b o e n hb hx),fun b o e n hb hx=>?_,fun b o e n hx=>u.free b o e n hx,fun b o e hx=>?_,u.tups,u.dY,u.fU⟩ (Dc J.hok J.free kp) J.bare fun b hb=>?_
 ·obtain⟨sl,q⟩:=u.slot b o e n hb hx
  exact⟨sl,kp b _ (ne e) q⟩
 ·obtain⟨o',q⟩:=u.there b o e hx
  exact⟨o',kp b _ (ne e) q⟩
 ·exact⟨(hf b hb).2.2.2.1,(hf b hb).2.1,(hf b hb).2.2.2.2.1,(hf b hb).2.2.2.2.2⟩
theorem Ru(N':List Str)(js:List Nat)(nl:Nat)(sc:Scope)(hsc:X.env.scope=sc)(hcalm:X.calm=true)
 (hi:PI X.au tg iter wi)(hg:∀cl C s H fp,PG (gW X.au N' scope cl C s H fp) tg g)(ht:∀cl C s H fp,Um (gW X.au N' scope cl C s H fp) ifs tt)(he:∀cl C s H fp,PE (gW X.au N' scope cl C s H fp) elt te)
 (hcap:oA X.au sc scope N' js)(hlen:js.length+nl=N'.length:=by rfl)
 (hk:scope.kind=.function:=by rfl)(hcell:∀y∈scope.names,y.2=.cell→scope.names.lookup y.1=some .cell:=by decide +kernel)(hnames:∀y∈scope.names,y.2=.local→scope.names.lookup y.1=some .local:=by decide +kernel)
 (hfree:∀y∈scope.names,y.2=.free→(sc.names.lookup y.1=some .cell∨sc.names.lookup y.1=some .free):=by decide +kernel)
 (hs:∀x,foldedSetIterable iter X.env x=pure x:=by intro _;rfl) :
 PE X.au (.ListComp elt [⟨tg,iter,ifs,0⟩] scope pos) (Hw js nl wi g tt te):=by
 intro pins s σ H Q I h
 obtain⟨cl0,c1,c2,c3⟩:=jy (scope:=scope) (env:=X.au.env) fun y hy hf=>I.ok.has y.1 (by
  have:=hfree y hy hf
  rw[←hsc] at this
  exact this)
 rw[eval_ListComp]
 refine wpAny_comprehension_free (use:=none) rfl hs c1 hk hnames (ŧ (hi pins s σ H _ I h) fun v s1 h1=>ŧ h1 fun itv s2 h2=>?_)
 obtain⟨it,fp,tn,J,H2,e,I2,T,st2,f2,q2⟩:=h2
 subst e
 refine wpAny_newObj_type (iy (fun h₁ hns₁ old XM=>?_))
 dsimp only at hns₁ old XM ⊢
 generalize XQ:s2.heap.push {cls:=.type "list",dict:=none,data:=.seq ([]:List Value).toArray}=cB at hns₁ old XM ⊢
 have hD:H2 s2.heap.objs.size=none:=I2.hok.fresh (Nat.le_refl _)
 have I3:Inv X.au pins σ (upd H2 s2.heap.objs.size (.lst [])) {s2 with heap:=cB}:=by
  rw[←XQ]
  exact I2.laid (t':=s2.toks) (fun b u e=>Heap.get?_push_of_some _ e) (Nat.le_refl _) ⟨Nat.zero_le _,[],0,.nil,Heap.get?_push_size _ rfl⟩
 have Hz:∀b∈fp,b<s2.heap.objs.size:=fun b hb=>by
  obtain⟨o,ho,_⟩:=T.obj 0 _ st2 b hb
  exact Heap.lt_size ho
 have XR:cB.objs.size=s2.heap.objs.size+1:=by rw[←XQ,Heap.size_push]
 have f3:∀b∈fp,gj X.au pins (upd H2 s2.heap.objs.size (.lst [])) b:=fun b hb=>by
  obtain⟨g0,g1⟩:=f2 b hb
  exact⟨by rw[Ĝ (Nat.ne_of_lt (Hz b hb))];exact g0,g1⟩
 have B:=Hx (X:=X.au) (cl:=cl0) hcell c2 c3 (fun x c e=>by
  obtain⟨v,o,ho,_⟩:=I3.cell x c e
  exact Heap.lt_size ho) XM
 generalize cellsFrom (cB.objs.size+1) scope.names cl0=cl at B ⊢
 obtain⟨W,⟨m0,w0⟩,turn⟩:=q2 s2.heap.objs.size hD
 have I4:=qX (X:=X.au) (N':=N') (js:=js) (nl:=nl) (sc:=sc) (scope:=scope) (cl:=cl) (fp:=fp) (h':=h₁) (tk:=s2.toks) hsc hk hcap hlen B I3 f3 (fun b hb=>by show b<cB.objs.size;rw[XR];exact Nat.lt_succ_of_lt (Hz b hb)) hns₁ old
 have st4:tn 0 h₁:= T.keep 0 _ _ st2 fun b hb o e=>old b o (by rw[←XQ];exact Heap.get?_push_of_some _ e)
 have fr4:∀b∈fp,(upd H2 s2.heap.objs.size (.lst [])) b=none:=fun b hb=>(f3 b hb).1
 have stat:∀{H':Hp},(∀b∈fp,H' b=none)→∀b∈fp,gj (gW X.au N' scope cl cB.objs.size {s2 with heap:=cB} (upd H2 s2.heap.objs.size (.lst [])) fp) [] H' b:=fun{H'} hn b hb=>by
  obtain⟨g0,g1,g2,g3,g4,g5⟩:=f3 b hb
  refine⟨hn b hb,Nat.ne_of_lt (by show b<cB.objs.size;rw[XR];exact Nat.lt_succ_of_lt (Hz b hb)),fun z=>?_,.inl hb,fun x c e=>by
   rcases B.at_ x c e with⟨q,_⟩|⟨q,_⟩
   ·exact g4 x c q
   ·exact Nat.ne_of_gt (Nat.lt_trans (by show b<cB.objs.size;rw[XR];exact Nat.lt_succ_of_lt (Hz b hb)) q),fun p hp=>absurd hp (by simp[gW])⟩
  rcases List.mem_cons.mp (I3.nQ b z) with z|z
  ·exact g1 z
  ·exact g2 z
 have loop:∀s₃:Shared,s₃= {s2 with heap:=h₁}→
  codeAny (model X.prog X.w) X.A (.compLoop (.ListComp elt [⟨tg,iter,ifs,0⟩] scope pos) 0 (.ref it) (.ref s2.heap.objs.size) (compEnvC scope cl cB.objs.size X.au.env))
   (compPost (model X.prog X.w) X.A X.au.xe none (EP X.au pins σ Q) (.ref s2.heap.objs.size) cB.objs.size) s₃:= by
  rintro s₃ rfl
  refine jz (fun n s'=>∃i σ' H',Inv (gW X.au N' scope cl cB.objs.size {s2 with heap:=cB} (upd H2 s2.heap.objs.size (.lst [])) fp) [] σ' H' s'∧tn i s'.heap∧(∀b∈fp,H' b=none)∧W i n σ' H') ?_ m0 ⟨0,_,_,I4,st4,fr4,w0⟩
  rintro n s5 ⟨i,σ5,H5,I5,QZ,WX,w5⟩
  rcases turn i n σ5 H5 w5 with⟨stop,qn⟩|⟨go,N,hN,step⟩
  ·refine ŧ (T.done (gW X.au N' scope cl cB.objs.size {s2 with heap:=cB} (upd H2 s2.heap.objs.size (.lst [])) fp) rfl rfl rfl hcalm i [] s5 σ5 H5 (fun _ _=>False) I5 (stat WX) QZ stop) fun r s6 ⟨hr,I6⟩=>?_
   subst hr
   obtain⟨m,hm,_⟩:=I6.loc
   refine⟨m,hm,fun h' hs'=>⟨.ref s2.heap.objs.size,H5,oE I3 f3 I6 (fun b u hb e=>hs'.extBut b u hb e),rfl,qn⟩⟩
  ·refine ŧ (T.item (gW X.au N' scope cl cB.objs.size {s2 with heap:=cB} (upd H2 s2.heap.objs.size (.lst [])) fp) rfl rfl rfl hcalm i [] s5 σ5 H5 (fun _ _=>False) I5 (stat WX) QZ go) fun r s6 ⟨u,hr,h6⟩=>?_
   subst hr
   refine ŧ h6 fun _ s7 ⟨x,H7,I7,r7,y7,X_,fr7⟩=>?_
   have I7':=I7.pinned (stat fr7) (T.obj _ _ X_)
   have again:∀{s8:Shared} {σ8:L2.St} {H8:Hp},Inv (gW X.au N' scope cl cB.objs.size {s2 with heap:=cB} (upd H2 s2.heap.objs.size (.lst [])) fp) ([]++kh fp s7.heap) σ8 H8 s8→
    Inv (gW X.au N' scope cl cB.objs.size {s2 with heap:=cB} (upd H2 s2.heap.objs.size (.lst [])) fp) [] σ8 H8 s8∧tn (i+1) s8.heap∧∀b∈fp,H8 b=none:=fun{s8 σ8 H8} I8=>by
    refine⟨I8.gk,T.keep _ _ _ X_ fun b hb o e=>(I8.pin (b,o) (List.mem_append_right _ (List.mem_append_right _ (bD hb e)))).1,fun b hb=>?_⟩
    obtain⟨o,e,d⟩:=T.obj _ _ X_ b hb
    exact(I8.pin (b,o) (List.mem_append_right _ (List.mem_append_right _ (bD hb e)))).2.1
   refine ŧ (hg cl _ _ _ fp _ s7 σ5 H7 x u _ I7' r7 (step x H7 y7)) fun _ s8 ⟨σ8,H8,I8,q8⟩=>?_
   refine ŧ (ht cl _ _ _ fp _ s8 σ8 H8 _ I8 q8) fun c s9 ⟨H9,I9,q9⟩=>?_
   cases c with
   |false=>
    rw[if_neg Bool.false_ne_true] at q9 ⊢
    obtain⟨m',hm',w9⟩:=hN _ _ q9
    obtain⟨a1,a2,a3⟩:=again I9
    exact⟨m',hm',i+1,σ8,H9,a1,a2,a3,w9⟩
   |true=>
    rw[if_pos rfl] at q9 ⊢
    refine ŧ (he cl _ _ _ fp _ s9 σ8 H9 _ I9 q9) fun yv s10 ⟨y,H10,I10,r10,ys,e10,l10,w10⟩=>?_
    refine ŧ (bF _ s10 σ8 H10 (.ref s2.heap.objs.size) [y] (.ref s2.heap.objs.size) [yv] (fun _ Yb=>N σ8 Yb) I10 rfl (.cons r10 .nil) ⟨_,ys,y,rfl,rfl,e10,l10,w10⟩) fun _ s11 ⟨v11,Yb,I11,_,w11⟩=>?_
    obtain⟨a1,a2,a3⟩:=again I11
    obtain⟨m',hm',w11⟩:=hN _ _ w11
    exact⟨m',hm',i+1,σ8,Yb,a1,a2,a3,w11⟩
 exact codeAny_compStart_list (loop _ rfl) (T.self _ 0 _ _ _ st4 (loop _ rfl))
end
def Its(z:Str):It:=⟨fun i _=>i<z.cps.size,fun i H x H'=>H'=H∧∃c,z.cps.toList[i]?=some c∧x=.str ⟨#[c]⟩,fun i _=>i=z.cps.size⟩
theorem Fj{P:Program}{w:World}{K:PySem.W.Frag}{tg:Expr}(it:Addr)(z:Str)(t:Tok)(ty:String)
 (hW:∀A:Around,A.handled=none→Walks P w A it [it] [it] z.cps.size (SignAt z) (fun i h=>h.IsStrIter it ty z t i))
 (hS:∀(A:Around) (i:Nat) (s:Shared) (Q:Value→Shared→Prop) (E:Value→Shared→Prop),s.heap.IsStrIter it ty z t i→Q (.ref it) s→wpAny (model P w) A (pyIter (.ref it)) Q E s)
 (hty:["enumerate","zip","dict_itemiterator","dict_reverseitemiterator","odict_iterator","itertools.zip_longest","itertools.pairwise"].contains ty=false):Turn P w K tg (Its z) [it] it (fun i h=>h.IsStrIter it ty z t i) where
 mem:=by simp
 obj:=fun i h st b hb=>by
  have e:b=it:=by simpa using hb
  subst e
  obtain⟨o,e,c,d⟩:=st
  exact⟨o,e,fun v z=>by rw[d] at z;cases z⟩
 keep:=fun i h h' st k=>by
  obtain⟨o,e,c,d⟩:=st
  exact⟨o,k it (by simp) o e,c,d⟩
 item:=by
  intro X hP hw hK hc i pins s σ H E I hf st hg
  subst hP hw hK
  obtain⟨f0,f1,f2,f3,f4,f5⟩:=hf it (by simp)
  refine(hW X.A (I.ok.hd hc)).item i s _ _ hg st fun v h' tk hv st' kk=>?_
  obtain⟨c,u,hcu,rfl⟩:=hv
  have I1:Inv X pins σ H {s with heap:=h',toks:=tk}:=I.turned (fun b o hb e=>kk b o (by simpa using hb) e) f0 f1 f3 f4 f5
  obtain⟨o,e,cl,d⟩:=id st'
  exact⟨_,rfl,Cz (s:={s with heap:=h',toks:=tk}) e cl d hty ⟨.str ⟨#[c]⟩,H,I1,⟨u,rfl⟩,⟨rfl,c,by simpa using hcu,rfl⟩,st',fun b hb=>(hf b hb).1⟩⟩
 done:=by
  intro X hP hw hK hc i pins s σ H E I hf st hg
  subst hP hw hK
  obtain⟨f0,f1,f2,f3,f4,f5⟩:=hf it (by simp)
  have e:i=z.cps.size:=hg
  subst e
  exact(hW X.A (I.ok.hd hc)).done s _ _ st fun h' tk kk=>⟨rfl,I.turned (fun b o hb e=>kk b o (by simpa using hb) e) f0 f1 f3 f4 f5⟩
 self:=hS
section
variable{X:Cx}{tg:Expr}
end
end M3
namespace M4
open PySem PySem.Spec PyProof.Rows L2 M2 M3
section
variable{X:Cx}
theorem Rv{bs:List Bool}:∀{us:List Value},Vals (bs.map V.bl) us→us=bs.map Value.bool:=by
 induction bs with
 |nil=>intro us r;rw[List.map_nil] at r;cases r;rfl
 |cons b bs ih=>
  intro us r
  rw[List.map_cons] at r
  cases r with
  |cons r1 r2=>
   cases r1
   rw[ih r2]
   rfl
theorem all_range(bs:List Bool):(List.range (bs.map Value.bool).toArray.size).all (fun i=>bs.getD i false)=bs.all id:=by
 have e:(bs.map Value.bool).toArray.size=bs.length:=by simp
 rw[e,Bool.eq_iff_iff]
 simp only[List.all_eq_true,List.mem_range,id]
 constructor
 ·intro h b hb
  obtain⟨i,hi,rfl⟩:=List.mem_iff_getElem.mp hb
  have:=h i hi
  rw[List.getD_eq_getElem?_getD,List.getElem?_eq_getElem hi] at this
  exact this
 ·intro h i hi
  rw[List.getD_eq_getElem?_getD,List.getElem?_eq_getElem hi]
  exact h _ (List.getElem_mem hi)
theorem wF{prog:Program}{w:World}{A:Around}(bs:List Bool):TruthOf prog w A (fun i v=>(bs.map Value.bool).toArray[i]?=some v) (fun i=>bs.getD i false):=by
 intro i v s Q E hv hq
 have hv':bs[i]?.map Value.bool=some v:=by
  rw[←List.getElem?_map]
  simpa using hv
 cases hb:bs[i]? with
 |none=>rw[hb] at hv';cases hv'
 |some b=>
  rw[hb] at hv'
  cases hv'
  dsimp only at hq
  rw[List.getD_eq_getElem?_getD,hb] at hq
  exact wpAny_truthy_bool hq
def Yc(K:PySem.W.Frag):List V→Hp→VK→Prop:=fun xs H Q=>match xs with
 | [.ref p]=>∃bs:List Bool,aF K H p (bs.map V.bl)∧Q (.bl (bs.all id)) H
 |_=>False
theorem t_(hc:X.calm=true):Ş X (.builtin "all") (Yc X.K):=by
 intro pins s σ H xs us Q I r h
 unfold Yc at h
 split at h
 ·rename_i p
  obtain⟨bs,hS,q⟩:=h
  obtain⟨u,rfl,ru⟩:=vals1 r
  cases ru
  obtain⟨its,rv,pl,hz⟩:=I.list hS
  have e:=Rv rv
  subst e
  have hp:p≠s.heap.objs.size:=by
   obtain⟨o,n,e,_⟩:=pl
   exact Nat.ne_of_lt (Heap.lt_size e)
  refine call_all_walk (wpAny_pyIter_list pl.isList ?_)
  refine⟨s.heap.objs.size,_,_,_,_,_,_,rfl,Walks.list (A:=X.A.in1) (show X.A.in1.handled=none from I.ok.hd hc) s.heap.objs.size p hp (bs.map Value.bool).toArray,⟨⟨_,Heap.get?_push_size _ rfl,rfl,rfl⟩,pl.isList.at fun o e=>Heap.get?_push_of_some _ e⟩,wF bs,fun h' tk k=>?_⟩
  rw[all_range]
  exact⟨.bl _,H,I.kept fun b o e=>k b o (by simpa using Nat.ne_of_lt (Heap.lt_size e)) (Heap.get?_push_of_some _ e),rfl,q⟩
 ·exact h.elim
end
abbrev S(l:List Nat):Str:=⟨l.toArray⟩
theorem ZkA(z:Str):S z.cps.toList=z:=by
 cases z
 simp
theorem ZcY(l:List Nat):(S l).length=l.length:=by simp[Str.length]
theorem wG(z:Str):z.cps.toList.length=z.length:=by simp[Str.length]
def uc(xs:List Nat)(lo hi:Option Int):List Nat:=(xs.drop (HT.ig xs.length 0 lo)).take (HT.ig xs.length xs.length hi-HT.ig xs.length 0 lo)
theorem idx_eq(z:Str)(lo hi:Option Int):Builtin.Str.strSliceIndices lo hi 1 z.length=(List.range (HT.ig z.length z.length hi-HT.ig z.length 0 lo)).map (HT.ig z.length 0 lo + ·):=by
 have hc:∀(o:Option Int) (d:Nat),d≤z.length→(match o with|none=>((d:Nat):Int)|some i=>max 0 (min (if i<0 then i+(z.length:Int) else i) (z.length:Int)))=((HT.ig z.length d o:Nat):Int):=by
  intro o d hd
  cases o with
  |none=>rfl
  |some i=>
   show max 0 (min (if i<0 then i+(z.length:Int) else i) (z.length:Int))=((if i<0 then(i+(z.length:Int)).toNat else min i.toNat z.length:Nat):Int)
   by_cases h:i<0
   ·rw[if_pos h,if_pos h];omega
   ·rw[if_neg h,if_neg h];omega
 have e:Builtin.Str.strSliceIndices lo hi 1 z.length=sliceRange ((HT.ig z.length 0 lo:Nat):Int) ((HT.ig z.length z.length hi:Nat):Int) 1:=by
  have h1:=hc lo 0 (Nat.zero_le _)
  have h2:=hc hi z.length (Nat.le_refl _)
  unfold Builtin.Str.strSliceIndices
  simp only[show(1:Int)>0 by decide,if_true]
  rw[←h1,←h2]
  cases lo<;>cases hi<;>rfl
 rw[e,sliceRange_one]
theorem Rw(z:Str)(lo hi:Option Int):(Builtin.Str.strSliceIndices lo hi 1 z.length).filterMap (z.cps[·]?)=uc z.cps.toList lo hi:=by
 rw[idx_eq,pick_run]
 unfold uc
 rw[wG]
theorem Rx(xs:List Nat)(lo hi:Option Int):(uc xs lo hi).length≤xs.length:=by
 unfold uc
 rw[List.length_take,List.length_drop]
 omega
theorem HB{z:Str}{t:Tok}{l u:Option (Int×Tok)}{Q:Value→Shared→Prop}{s:Shared}(hz:z.length≤sizeLine)
 (h:∀t' k,Q (.str (S (uc z.cps.toList (l.map (·.1)) (u.map (·.1)))) t') {s with toks:=k}):(sliceMade z t l u none).post Q s:=by
 have e:=Rw z (l.map (·.1)) (u.map (·.1))
 unfold sliceMade
 have ep:slicePicked z l u none=Builtin.Str.strSliceIndices (l.map (·.1)) (u.map (·.1)) 1 z.length:=rfl
 rw[ep]
 split
 ·rename_i hc
  have hl:(Builtin.Str.strSliceIndices (l.map (·.1)) (u.map (·.1)) 1 z.length).length=z.length:=by simpa using hc
  have hz2:uc z.cps.toList (l.map (·.1)) (u.map (·.1))=z.cps.toList:=by
   rw[idx_eq,List.length_map,List.length_range] at hl
   have hi:=HT.Hh z.length 0 (Nat.zero_le _) (l.map (·.1))
   have hj:=HT.Hh z.length z.length (Nat.le_refl _) (u.map (·.1))
   unfold uc
   rw[wG]
   have hl2:=wG z
   have a0:HT.ig z.length 0 (l.map (·.1))=0∨z.length=0:=by omega
   rcases a0 with a0|a0
   ·rw[a0] at hl ⊢
    rw[List.drop_zero]
    exact List.take_of_length_le (by omega)
   ·have:z.cps.toList=[]:=List.eq_nil_of_length_eq_zero (by omega)
    rw[this]
    simp
  have:=h t s.toks
  rw[hz2,ZkA] at this
  exact this
 ·rw[e]
  exact⟨by rw[ZcY];have:=Rx z.cps.toList (l.map (·.1)) (u.map (·.1));rw[wG] at this;omega,h _ _⟩
section
variable{X:Cx}
def ZkB:V→Option Int→Option Int→Hp→VK→Prop:=fun x lo hi H Q=>match x with
 | .str z=>z.length≤sizeLine∧Q (.str (S (uc z.cps.toList lo hi))) H
 |_=>False
theorem Ry:CJ X ZkB:=by
 intro pins s σ H x v vl vu lo hi sl Q I rx hs pl pu h
 cases x with
 |str z=>
  obtain⟨t,rfl⟩:=rx
  obtain⟨hz,q⟩:=h
  obtain⟨l,el,el2⟩:∃l:Option (Int×Tok),partValue l=vl∧l.map (·.1)=lo:=by
   cases pl with
   |none=>exact⟨none,rfl,rfl⟩
   |int i t=>exact⟨some (i,t),rfl,rfl⟩
  obtain⟨u,eu,eu2⟩:∃u:Option (Int×Tok),partValue u=vu∧u.map (·.1)=hi:=by
   cases pu with
   |none=>exact⟨none,rfl,rfl⟩
   |int i t=>exact⟨some (i,t),rfl,rfl⟩
  subst el el2 eu eu2
  exact⟨"str",_,F.slot_str_getitem.lookup,typeIs_str s z t,wpAny_getItem_str_slice (l:=l) (u:=u) (st:=none) hs rfl (HB hz fun t' k=>⟨.str _,H,I.tok _,⟨_,rfl⟩,q⟩)⟩
 |_=>exact h.elim
def ZkC(K:PySem.W.Frag):V→Option Int→Option Int→Hp→VK→Prop:=fun x lo hi H Q=>match x with
 | .ref a=>∃xs,aF K H a xs∧∀p,H p=none→Q (.ref p) (upd H p (.lst (wB xs lo hi)))
 | .str z=>z.length≤sizeLine∧Q (.str (S (uc z.cps.toList lo hi))) H
 |_=>False
theorem slm:CJ X (ZkC X.K):=CJ.wk (Hv.or Ry) fun x lo hi H Q h=>by
 cases x with
 |ref a=>exact .inl h
 |str z=>exact .inr h
 |_=>exact h.elim
theorem mul_eq(z:Str){n:Int}(h:0≤n):Txt.mul z n=S (List.replicate n.toNat z.cps.toList).flatten:=by
 have key:∀(k:Nat) (acc:Array Nat),((List.replicate k z.cps).foldl (·++ ·) acc).toList=acc.toList++(List.replicate k z.cps.toList).flatten:=by
  intro k
  induction k with
  |zero=>intro acc;simp
  |succ k ih=>
   intro acc
   rw[List.replicate_succ,List.foldl_cons,ih,List.replicate_succ,List.flatten_cons]
   simp
 unfold Txt.mul
 refine PyProof.Rows.ext_toList ?_
 by_cases h1:n<1
 ·rw[if_pos h1]
  have:n.toNat=0:=by omega
  rw[this]
  simp[Str.empty]
 ·rw[if_neg h1]
  split
  ·rename_i hc
   rw[Bool.or_eq_true] at hc
   rcases hc with hc|hc
   ·have:n=1:=by simpa using hc
    subst this
    simp
   ·have h0:z.cps.toList=[]:=List.eq_nil_of_length_eq_zero (by rw[wG];simpa using hc)
    rw[h0]
    simp
  ·rw[key]
   simp
def HD(z:Str)(n:Int):Prop:=0≤n∧n≤1000∧z.length≤1000
theorem HD.ok{z:Str}{n:Int}(h:HD z n):MulOk z n:=by
 obtain⟨h0,h1,h2⟩:=h
 refine⟨?_,fun hn _=>?_,fun hn _=>?_⟩
 ·rw[decide_eq_false (by omega),decide_eq_false (by omega)]
  rfl
 ·have:(9000000000000000:Int)≤(2 ^ 63-1) / n:=by
   rw[Int.le_ediv_iff_mul_le (by omega)]
   omega
  omega
 ·have:z.length*n.toNat≤1000*1000:=Nat.mul_le_mul h2 (by omega)
  unfold Builtin.Str.tooLong
  simp
  rw[sizeLine_eq]
  omega
def HF:R2:=fun x y H Q=>match x,y with
 | .int i,.int j=>qU i j∧Q (.int (i*j)) H
 | .str z,.int n=>HD z n∧Q (.str (S (List.replicate n.toNat z.cps.toList).flatten)) H
 |_,_=>False
theorem ĵ:bh X (binaryOp .Mult) HF:=by
 intro pins s σ H x y v u Q I rx ry h
 unfold HF at h
 split at h
 ·exact XF pins s σ H _ _ v u Q I rx ry h
 ·obtain⟨t,rfl⟩:=rx
  obtain⟨t',rfl⟩:=ry
  exact SB.mul h.1.ok fun t' k=>⟨.str _,H,I.tok _,⟨_,by rw[mul_eq _ h.1.1]⟩,h.2⟩
 ·exact h.elim
end
end M4
namespace P
def nst:PySem.Expr→Bool
 | .Starred .. =>false
 |_=>true
theorem ī{e:PySem.Expr}{es:List PySem.Expr}{env:PySem.Env}(h:nst e=true):PySem.starEach (e::es) env=(false,PySem.eval e env)::PySem.starEach es env:=by
 cases e<;>first|rfl|cases h
theorem HJ{a b:PySem.Expr}{env:PySem.Env}(h:nst a=true)(h2:nst b=true):PySem.starEach [a,b] env=[(false,PySem.eval a env),(false,PySem.eval b env)]:=by
 rw[ī h,ī h2];rfl
open PySem PySem.Spec PyProof.Rows L2 M2
structure KK where
 K:PySem.W.Frag
 cm:String→Addr
abbrev kk(X:Cx)(cm:String→Addr):KK:=⟨X.K,cm⟩
inductive PV where
 |non|bl (b:Bool)|int (i:Int)|str (x:Str)|tup (xs:List PV)|lst (xs:List PV)
 |ins (C:String) (ns:List Str) (xs:List PV)|xc (C:String) (ns:List Str) (xs:List PV)|ty (n:String)|cls (C:String)
def xo(a C:Addr)(d:Option Addr):HO:=.ext fun h=>∃o vs,h.get? a=some o∧o.cls=.ref C∧o.dict=d∧o.data=.fields vs
def lR(F:Hp)(d:Option Addr)(fs:List (Str×V)):Prop:=(d=none∧fs=[])∨∃a,d=some a∧F a=some (.xd fs)
mutual
def Rep(K:KK)(F:Hp):PV→V→Prop
 | .non,v=>v=.non
 | .bl b,v=>v=.bl b
 | .int i,v=>v=.int i
 | .str x,v=>v=.str x
 | .tup ps,v=>∃a xs,v=.ref a∧cZ K.K F a xs∧Ğ K F ps xs
 | .lst ps,v=>∃a xs,v=.ref a∧aF K.K F a xs∧Ğ K F ps xs
 | .ins C ns ps,v=>∃a dx fs,v=.ref a∧F a=some (.ins (K.cm C) dx fs)∧fs.map (·.1)=ns∧Ğ K F ps (fs.map (·.2))
 | .xc C ns ps,v=>∃a d fs,v=.ref a∧F a=some (xo a (K.cm C) d)∧lR F d fs∧fs.map (·.1)=ns∧Ğ K F ps (fs.map (·.2))
 | .ty n,v=>v=.ty n
 | .cls C,v=>v=.ref (K.cm C)
def Ğ(K:KK)(F:Hp):List PV→List V→Prop
 | [],xs=>xs=[]
 |p::ps,xs=>∃x r,xs=x::r∧Rep K F p x∧Ğ K F ps r
end
section
variable{K:KK}{F F' H H':Hp}
theorem lR.same{d:Option Addr}{fs:List (Str×V)}(e:Same F F')(h:lR F d fs):lR F' d fs:=by
 rcases h with h|⟨a,h1,h2⟩
 ·exact .inl h
 ·exact .inr ⟨a,h1,e _ _ h2⟩
mutual
theorem Rep.same(e:Same F F'):∀(p:PV) (v:V),Rep K F p v→Rep K F' p v
 | .non,_,h=>by unfold Rep at h ⊢;exact h
 | .bl _,_,h=>by unfold Rep at h ⊢;exact h
 | .int _,_,h=>by unfold Rep at h ⊢;exact h
 | .str _,_,h=>by unfold Rep at h ⊢;exact h
 | .ty _,_,h=>by unfold Rep at h ⊢;exact h
 | .cls _,_,h=>by unfold Rep at h ⊢;exact h
 | .tup ps,_,h=>by
   unfold Rep at h ⊢
   obtain⟨a,xs,h1,h2,h3⟩:=h
   exact⟨a,xs,h1,Same.tup e h2,Ğ.same e ps xs h3⟩
 | .lst ps,_,h=>by
   unfold Rep at h ⊢
   obtain⟨a,xs,h1,h2,h3⟩:=h
   exact⟨a,xs,h1,e.seq h2,Ğ.same e ps xs h3⟩
 | .ins C ns ps,_,h=>by
   unfold Rep at h ⊢
   obtain⟨a,dx,fs,h1,h2,h3,h4⟩:=h
   exact⟨a,dx,fs,h1,e _ _ h2,h3,Ğ.same e ps _ h4⟩
 | .xc C ns ps,_,h=>by
   unfold Rep at h ⊢
   obtain⟨a,d,fs,h1,h2,hd,h3,h4⟩:=h
   exact⟨a,d,fs,h1,e _ _ h2,hd.same e,h3,Ğ.same e ps _ h4⟩
theorem Ğ.same(e:Same F F'):∀(ps:List PV) (xs:List V),Ğ K F ps xs→Ğ K F' ps xs
 | [],_,h=>by unfold Ğ at h ⊢;exact h
 |p::ps,_,h=>by
  unfold Ğ at h ⊢
  obtain⟨x,r,h1,h2,h3⟩:=h
  exact⟨x,r,h1,Rep.same e p x h2,Ğ.same e ps r h3⟩
end
theorem Ğ.pr:∀{ps:List PV} {vs:List V},Ğ K F ps vs→Paired (Rep K F) ps vs
 | [],_,h=>by unfold Ğ at h;subst h;exact .nil
 |p::ps,_,h=>by
  unfold Ğ at h
  obtain⟨x,r,rfl,h2,h3⟩:=h
  exact .cons h2 (Ğ.pr h3)
theorem Ğ.of:∀{ps:List PV} {vs:List V},Paired (Rep K F) ps vs→Ğ K F ps vs
 | [],_,.nil=>by unfold Ğ;rfl
 |p::ps,_,.cons h t=>by unfold Ğ;exact⟨_,_,rfl,h,Ğ.of t⟩
theorem Ğ.nil:Ğ K F [] []:=Ğ.of .nil
theorem Ğ.cons{p:PV}{v:V}{ps:List PV}{vs:List V}(h:Rep K F p v)(t:Ğ K F ps vs):Ğ K F (p::ps) (v::vs):=Ğ.of (.cons h t.pr)
theorem Ğ.length{ps:List PV}{vs:List V}(h:Ğ K F ps vs):ps.length=vs.length:=Paired.length h.pr
theorem cG{α β:Type}{G:α→β→Prop}:∀{l:List α} {m:List β} {i:Nat} {x:α},Paired G l m→l[i]?=some x→∃y,m[i]?=some y∧G x y
 |_,_,_,_,.nil,e=>by simp at e
 |_,_,0,_,.cons r _,e=>by simp at e;subst e;exact⟨_,rfl,r⟩
 |_,_,i+1,x,.cons _ t,e=>by
  obtain⟨y,h1,h2⟩:=cG (i:=i) (x:=x) t (by simpa using e)
  exact⟨y,by simpa using h1,h2⟩
theorem HN{α β:Type}{G:α→β→Prop}:∀{l l2:List α} {m m2:List β},Paired G l m→Paired G l2 m2→Paired G (l++l2) (m++m2)
 |_,_,_,_,.nil,t=>t
 |_,_,_,_,.cons r s,t=>.cons r (HN s t)
theorem HS{α β:Type}{G:α→β→Prop}{x:α}{y:β}(r:G x y):∀{l:List α} {m:List β} (i:Nat),Paired G l m→Paired G (l.set i x) (m.set i y)
 |_,_,_,.nil=>.nil
 |_,_,0,.cons _ t=>.cons r t
 |_,_,i+1,.cons q t=>.cons q (HS r i t)
theorem Dd{α β:Type}{G:α→β→Prop}:∀{l:List α} {m:List β} (n:Nat),Paired G l m→Paired G (l.take n) (m.take n)
 |_,_,0,_=>.nil
 |_,_,_+1,.nil=>.nil
 |_,_,n+1,.cons r t=>.cons r (Dd n t)
theorem Df{α β:Type}{G:α→β→Prop}:∀{l:List α} {m:List β} (n:Nat),Paired G l m→Paired G (l.drop n) (m.drop n)
 |_,_,0,h=>h
 |_,_,_+1,.nil=>.nil
 |_,_,n+1,.cons _ t=>Df n t
theorem Ğ.append{ps qs:List PV}{vs us:List V}(h:Ğ K F ps vs)(t:Ğ K F qs us):Ğ K F (ps++qs) (vs++us):=Ğ.of (HN h.pr t.pr)
end
inductive Slot where
 |no|sh (p:PV)|ow (ps:List PV)|bw (ps:List PV)|rc (C:String) (ns:List Str) (ps:List PV)|ot (ps qs:List PV)
abbrev Ŏ:=List Slot
def Slot.own:Slot→Bool
 | .ow _=>true
 | .rc _ _ _=>true
 | .ot _ _=>true
 |_=>false
structure Ctx where
 B:Hp
 F₀:Hp
 /-- what is lent here:read,never changed,never kept -/
 L:Hp
 /-- which objects may be held as one's own:address,dict,class -/
 S:Addr→Addr→String→Prop
def aP(K:KK)(c:Ctx)(F H:Hp)(o:Option V):Slot→Prop
 | .no=>True
 | .sh p=>∃v,o=some v∧Rep K F p v
 | .ow ps=>∃a vs,o=some (.ref a)∧H a=some (.lst vs)∧F a=none∧c.B a=none∧Ğ K F ps vs
 | .bw ps=>∃a vs,o=some (.ref a)∧c.L a=some (.lst vs)∧Ğ K F ps vs
 | .rc C ns ps=>∃a dx fs,o=some (.ref a)∧H a=some (.ins (K.cm C) dx fs)∧F a=none∧c.B a=none∧fs.map (·.1)=ns∧Ğ K F ps (fs.map (·.2))∧c.S a dx C
 | .ot ps qs=>∃p a xs vs,o=some (.ref p)∧F p=some (.tup (xs ++ [.ref a]))∧Ğ K F ps xs∧H a=some (.lst vs)∧F a=none∧c.B a=none∧Ğ K F qs vs
def Slot.at_(F:Hp)(x:V)(a:Addr):Slot→Prop
 | .ot _ _=>∃p xs,x=.ref p∧F p=some (.tup (xs ++ [.ref a]))
 | .ow _=>x=.ref a
 | .rc _ _ _=>x=.ref a
 |_=>False
def Ř(F:Hp)(σ:L2.St)(ρ:Ŏ)(i:Nat)(a:Addr):Prop:=∃s x,ρ[i]?=some s∧σ[i]?=some (some x)∧s.at_ F x a
structure Rel(K:KK)(c:Ctx)(F H:Hp)(σ:L2.St)(ρ:Ŏ):Prop where
 sub:Same F H
 base:Same c.B H
 f0:Same c.F₀ F
 dw:∀a,c.B a≠none→c.F₀ a=none→F a=none
 lent:∀a u,c.L a=some u→H a=some u∧F a=none
 lb:∀a,c.B a=none→c.L a=none
 len:σ.length=ρ.length
 slot:∀(i:Nat) s,ρ[i]?=some s→aP K c F H ((σ[i]?).getD none) s
 sep:∀i j a,Ř F σ ρ i a→Ř F σ ρ j a→i=j
def lU(F:Hp)(σ:L2.St)(ρ:Ŏ)(a:Addr):Prop:=∀i,¬Ř F σ ρ i a
section
variable{K:KK}{c:Ctx}{F F' H H':Hp}{σ:L2.St}{ρ:Ŏ}{a:Addr}{o:HO}
theorem eO{s:Slot}{x:V}(h:s.at_ F x a):s.own=true:=by
 cases s<;>first|rfl|exact h.elim
theorem Rz{s:Slot}{x:V}(e:Same F F')(h:s.at_ F x a):s.at_ F' x a:=by
 cases s with
 |ot ps qs=>obtain⟨p,xs,h1,h2⟩:=h;exact⟨p,xs,h1,e _ _ h2⟩
 |_=>exact h
theorem Ad{s:Slot}{x:V}{b:Addr}(h:s.at_ F x a)(h':s.at_ F x b):a=b:=by
 cases s with
 |ot ps qs=>
  obtain⟨p,xs,h1,h2⟩:=h
  obtain⟨q,ys,h3,h4⟩:=h'
  rw[h1] at h3
  cases h3
  rw[h2] at h4
  have e:xs ++ [V.ref a]=ys ++ [V.ref b]:=by
   injection h4 with h4
   injection h4
  have e2:=congrArg List.getLast? e
  simp at e2
  exact e2
 |ow ps=>rw[show x=.ref a from h] at h';cases h';rfl
 |rc C ns ps=>rw[show x=.ref a from h] at h';cases h';rfl
 |no=>exact h.elim
 |sh p=>exact h.elim
 |bw ps=>exact h.elim
theorem aP.grow{s:Slot}{x:Option V}(h:aP K c F H x s)(eF:Same F F')(eH:∀b vs,(∃y,x=some y∧s.at_ F y b)→H b=some vs→F b=none→c.B b=none→H' b=some vs∧F' b=none):aP K c F' H' x s:=by
 cases s with
 |no=>trivial
 |sh p=>obtain⟨v,h1,h2⟩:=h;exact⟨v,h1,h2.same eF p v⟩
 |ow ps=>
  obtain⟨b,vs,h1,h2,h3,h4,h5⟩:=h
  obtain⟨e1,e2⟩:=eH b _ ⟨_,h1,rfl⟩ h2 h3 h4
  exact⟨b,vs,h1,e1,e2,h4,h5.same eF ps vs⟩
 |bw ps=>obtain⟨b,vs,h1,h2,h3⟩:=h;exact⟨b,vs,h1,h2,h3.same eF ps vs⟩
 |rc C ns ps=>
  obtain⟨b,dx,fs,h1,h2,h3,h4,h5,h6⟩:=h
  obtain⟨e1,e2⟩:=eH b _ ⟨_,h1,rfl⟩ h2 h3 h4
  exact⟨b,dx,fs,h1,e1,e2,h4,h5,h6.1.same eF ps _,h6.2⟩
 |ot ps qs=>
  obtain⟨p,b,xs,vs,h1,h2,h3,h4,h5,h6,h7⟩:=h
  obtain⟨e1,e2⟩:=eH b _ ⟨_,h1,p,xs,rfl,h2⟩ h4 h5 h6
  exact⟨p,b,xs,vs,h1,eF _ _ h2,h3.same eF ps xs,e1,e2,h6,h7.same eF qs vs⟩
theorem aP.owned{s:Slot}{x:Option V}(h:aP K c F H x s)(hs:s.own=true):∃b u y,x=some y∧s.at_ F y b∧H b=some u∧F b=none∧c.B b=none:=by
 cases s with
 |no=>cases hs
 |sh p=>cases hs
 |bw ps=>cases hs
 |ow ps=>obtain⟨b,vs,h1,h2,h3,h4,h5⟩:=h;exact⟨b,_,_,h1,rfl,h2,h3,h4⟩
 |rc C ns ps=>obtain⟨b,dx,fs,h1,h2,h3,h4,h5,h6⟩:=h;exact⟨b,_,_,h1,rfl,h2,h3,h4⟩
 |ot ps qs=>obtain⟨p,b,xs,vs,h1,h2,h3,h4,h5,h6,h7⟩:=h;exact⟨b,_,_,h1,⟨p,xs,rfl,h2⟩,h4,h5,h6⟩
theorem gA{i:Nat}{x:V}(e:σ[i]?=some (some x)):(σ[i]?).getD none=some x:=by rw[e];rfl
theorem HW{i:Nat}{x:V}(e:(σ[i]?).getD none=some x):σ[i]?=some (some x):=by
 cases q:σ[i]? with
 |none=>rw[q] at e;cases e
 |some y=>rw[q] at e;exact congrArg some e
theorem Rel.owned(r:Rel K c F H σ ρ){i:Nat}(h:Ř F σ ρ i a):(∃u,H a=some u)∧F a=none∧c.B a=none:=by
 obtain⟨s,x,h1,h2,h3⟩:=h
 obtain⟨b,u,y,e,q0,q⟩:=(r.slot i s h1).owned (eO h3)
 rw[gA h2] at e
 cases e
 cases Ad h3 q0
 exact⟨⟨u,q.1⟩,q.2⟩
theorem Rel.back(r:Rel K c F H σ ρ)(e:Same F F'){i:Nat}(h:Ř F' σ ρ i a):Ř F σ ρ i a:=by
 obtain⟨s,x,h1,h2,h3⟩:=h
 obtain⟨b,u,y,e1,q0,q⟩:=(r.slot i s h1).owned (eO h3)
 rw[gA h2] at e1
 cases e1
 cases Ad h3 (Rz e q0)
 exact⟨s,x,h1,h2,q0⟩
theorem Rel.Yd(r:Rel K c F H σ ρ)(e:Same F F'):∀i j a,Ř F' σ ρ i a→Ř F' σ ρ j a→i=j:=fun i j a h1 h2=>r.sep i j a (r.back e h1) (r.back e h2)
theorem Rel.ud(r:Rel K c F H σ ρ)(e:Same F F')(h:lU F σ ρ a):lU F' σ ρ a:=fun i q=>h i (r.back e q)
theorem Rel.fresh(r:Rel K c F H σ ρ)(h:H a=none):lU F σ ρ a:=fun i q=>by
 obtain⟨⟨u,e⟩,_⟩:=r.owned q
 rw[h] at e;cases e
theorem Rel.alloc(r:Rel K c F H σ ρ)(h:H a=none):Rel K c (upd F a o) (upd H a o) σ ρ where
 sub:=fun b u e=>by
  by_cases hb:b=a
  ·subst hb;rw[Ĩ] at e ⊢;exact e
  ·rw[Ĝ hb] at e ⊢;exact r.sub b u e
 base:=fun b u e=>by
  have hb:b≠a:=fun z=>by rw[z] at e;rw[r.base _ _ e] at h;cases h
  rw[Ĝ hb];exact r.base b u e
 f0:=fun b u e=>by
   have hb:b≠a:=fun z=>by rw[z] at e;rw[r.sub _ _ (r.f0 _ _ e)] at h;cases h
   rw[Ĝ hb];exact r.f0 b u e
 dw:=fun b h1 h2=>by
  have hb:b≠a:=fun z=>by
   subst z
   cases q:c.B b with
   |none=>exact h1 q
   |some u=>rw[r.base _ _ q] at h;cases h
  rw[Ĝ hb];exact r.dw b h1 h2
 lent:=fun b u e=>by
  obtain⟨h1,h2⟩:=r.lent b u e
  have hb:b≠a:=fun z=>by rw[z,h] at h1;cases h1
  rw[Ĝ hb,Ĝ hb];exact⟨h1,h2⟩
 lb:=r.lb
 len:=r.len
 slot:=fun i s e=>by
  have hF:F a=none:=r.sub.free h
  refine(r.slot i s e).grow (Same.upd hF) fun b u _ h1 h2 h3=>?_
  have hb:b≠a:=fun z=>by rw[z,h] at h1;cases h1
  rw[Ĝ hb,Ĝ hb];exact⟨h1,h2⟩
 sep:=r.Yd (Same.upd (r.sub.free h))
theorem Rel.made(r:Rel K c F H σ ρ)(h:H a=none):Rel K c F (upd H a o) σ ρ where
 sub:=r.sub.trans (Same.upd h)
 base:=r.base.trans (Same.upd h)
 f0:=r.f0
 dw:=r.dw
 lent:=fun b u e=>⟨Same.upd h b u (r.lent b u e).1,(r.lent b u e).2⟩
 lb:=r.lb
 len:=r.len
 slot:=fun i s e=>(r.slot i s e).grow (Same.refl F) fun b u _ h1 h2 h3=>⟨Same.upd h b u h1,h2⟩
 sep:=r.sep
theorem Rel.freeze(r:Rel K c F H σ ρ)(h:H a=some o)(hB:c.B a=none)(hF:F a=none)(hf:lU F σ ρ a):Rel K c (upd F a o) H σ ρ where
 sub:=fun b u e=>by
  by_cases hb:b=a
  ·subst hb;rw[Ĩ] at e;rw[h];exact e
  ·rw[Ĝ hb] at e;exact r.sub b u e
 base:=r.base
 f0:=r.f0.trans (Same.upd hF)
 dw:=fun b h1 h2=>by
  have hb:b≠a:=fun z=>h1 (by rw[z];exact hB)
  rw[Ĝ hb];exact r.dw b h1 h2
 lent:=fun b u e=>by
  have hb:b≠a:=fun z=>by rw[z,r.lb a hB] at e;cases e
  rw[Ĝ hb];exact r.lent b u e
 lb:=r.lb
 len:=r.len
 slot:=fun i s e=>(r.slot i s e).grow (Same.upd hF) fun b' u' ⟨y,e1',ha⟩ h1 h2 h3=>by
  have hb:b'≠a:=fun z=>by
   subst z
   exact hf i ⟨s,y,e,HW e1',ha⟩
  rw[Ĝ hb];exact⟨h1,h2⟩
 sep:=r.Yd (Same.upd hF)
theorem ak{α:Type}{l:List α}{i j:Nat}{x y:α}(h:(l.set i x)[j]?=some y):(j=i∧y=x∧i<l.length)∨(j≠i∧l[j]?=some y):=by
 by_cases hj:j=i
 ·subst hj
  have hl:j<l.length:=by
   have:=(List.getElem?_eq_some_iff.mp h).1
   simpa using this
  rw[List.getElem?_set_self hl] at h
  exact .inl ⟨rfl,(Option.some.inj h).symm,hl⟩
 ·rw[List.getElem?_set_ne (Ne.symm hj)] at h
  exact .inr ⟨hj,h⟩
theorem HX{l:L2.St}{i:Nat}{x:Option V}(h:i<l.length):((l.set i x)[i]?).getD none=x:=by rw[List.getElem?_set_self h];rfl
theorem Dg{l:L2.St}{i j:Nat}{x:Option V}(h:j≠i):((l.set i x)[j]?).getD none=(l[j]?).getD none:=by rw[List.getElem?_set_ne (Ne.symm h)]
theorem Ř.off{i j:Nat}{x:Option V}{s:Slot}(h:Ř F (σ.set i x) (ρ.set i s) j a)(hj:j≠i):Ř F σ ρ j a:=by
 obtain⟨s',y,h1,h2,h3⟩:=h
 rw[List.getElem?_set_ne (Ne.symm hj)] at h1 h2
 exact⟨s',y,h1,h2,h3⟩
theorem Rel.put(r:Rel K c F H σ ρ){i:Nat}{x:Option V}{s:Slot}(hs:s.own=false)(h:aP K c F H x s):Rel K c F H (σ.set i x) (ρ.set i s) where
 sub:=r.sub
 base:=r.base
 f0:=r.f0
 dw:=r.dw
 lent:=r.lent
 lb:=r.lb
 len:=by simpa using r.len
 slot:=fun j s' e=>by
  rcases ak e with⟨rfl,rfl,hl⟩|⟨hj,e⟩
  ·rw[HX (by rw[r.len];exact hl)];exact h
  ·rw[Dg hj];exact r.slot j s' e
 sep:=fun j k b h1 h2=>by
  have off:∀{j},Ř F (σ.set i x) (ρ.set i s) j b→j≠i:=fun{j} q z=>by
   subst z
   obtain⟨s',y,q1,_,q2⟩:=q
   rcases ak q1 with⟨_,rfl,_⟩|⟨q,_⟩
   ·have:=eO q2;rw[hs] at this;cases this
   ·exact q rfl
  exact r.sep j k b (h1.off (off h1)) (h2.off (off h2))
theorem Rel.Uo(r:Rel K c F H σ ρ){i:Nat}{s:Slot}(hs:s.own=false)(h:aP K c F H ((σ[i]?).getD none) s):Rel K c F H σ (ρ.set i s) where
 sub:=r.sub
 base:=r.base
 f0:=r.f0
 dw:=r.dw
 lent:=r.lent
 lb:=r.lb
 len:=by simpa using r.len
 slot:=fun j s' e=>by
  rcases ak e with⟨rfl,rfl,hl⟩|⟨hj,e⟩
  ·exact h
  ·exact r.slot j s' e
 sep:=fun j k b h1 h2=>by
  have off:∀{j},Ř F σ (ρ.set i s) j b→Ř F σ ρ j b:=fun{j} ⟨s',y,q1,q3,q2⟩=>by
   rcases ak q1 with⟨_,rfl,_⟩|⟨_,q⟩
   ·have:=eO q2;rw[hs] at this;cases this
   ·exact⟨s',y,q,q3,q2⟩
  exact r.sep j k b (off h1) (off h2)
theorem Rel.RD(r:Rel K c F H σ ρ){i:Nat}{x:V}{s:Slot}(h:aP K c F H (some x) s)(ha:s.at_ F x a)(hf:lU F σ ρ a):Rel K c F H (σ.set i (some x)) (ρ.set i s) where
 sub:=r.sub
 base:=r.base
 f0:=r.f0
 dw:=r.dw
 lent:=r.lent
 lb:=r.lb
 len:=by simpa using r.len
 slot:=fun j s' e=>by
  rcases ak e with⟨rfl,rfl,hl⟩|⟨hj,e⟩
  ·rw[HX (by rw[r.len];exact hl)];exact h
  ·rw[Dg hj];exact r.slot j s' e
 sep:=fun j k b h1 h2=>by
  have Ye:∀{j},Ř F (σ.set i (some x)) (ρ.set i s) j b→(j=i∧b=a)∨(j≠i∧Ř F σ ρ j b∧b≠a):=fun{j} q=>by
   by_cases hj:j=i
   ·subst hj
    obtain⟨s',y,q1,q2,q3⟩:=q
    rcases ak q2 with⟨_,e,_⟩|⟨z,_⟩
    ·cases e
     rcases ak q1 with⟨_,e,_⟩|⟨z,_⟩
     ·cases e
      exact .inl ⟨rfl,Ad q3 ha⟩
     ·exact absurd rfl z
    ·exact absurd rfl z
   ·exact .inr ⟨hj,q.off hj,fun z=>hf j (z▸q.off hj)⟩
  rcases Ye h1 with⟨e1,z1⟩|⟨e1,o1,z1⟩
  ·rcases Ye h2 with⟨e2,z2⟩|⟨e2,o2,z2⟩
   ·rw[e1,e2]
   ·exact absurd z1 z2
  ·rcases Ye h2 with⟨e2,z2⟩|⟨e2,o2,z2⟩
   ·exact absurd z2 z1
   ·exact r.sep j k b o1 o2
theorem Rel.Yg(r:Rel K c F H σ ρ){i:Nat}{s:Slot}(ho:Ř F σ ρ i a)(h:aP K c F (upd H a o) ((σ[i]?).getD none) s)(hs:∀x b,σ[i]?=some (some x)→s.at_ F x b→b=a):Rel K c F (upd H a o) σ (ρ.set i s) where
 sub:=fun b u e=>by
  have hb:b≠a:=fun z=>by rw[z,(r.owned ho).2.1] at e;cases e
  rw[Ĝ hb];exact r.sub b u e
 base:=fun b u e=>by
  have hb:b≠a:=fun z=>by rw[z,(r.owned ho).2.2] at e;cases e
  rw[Ĝ hb];exact r.base b u e
 f0:=r.f0
 dw:=r.dw
 lent:=fun b u e=>by
  have hb:b≠a:=fun z=>by rw[z,r.lb a (r.owned ho).2.2] at e;cases e
  rw[Ĝ hb];exact r.lent b u e
 lb:=r.lb
 len:=by simpa using r.len
 slot:=fun j s' e=>by
  rcases ak e with⟨rfl,rfl,hl⟩|⟨hj,e⟩
  ·exact h
  ·refine(r.slot j s' e).grow (Same.refl F) fun b u ⟨y,e1,e2⟩ h1 h2 h3=>?_
   have hb:b≠a:=fun z=>by
    subst z
    exact hj (r.sep j i b ⟨s',y,e,HW e1,e2⟩ ho)
   exact⟨by rw[Ĝ hb];exact h1,h2⟩
 sep:=fun j k b h1 h2=>by
  have off:∀{j},Ř F σ (ρ.set i s) j b→Ř F σ ρ j b:=fun{j} ⟨s',y,q1,q3,q2⟩=>by
   rcases ak q1 with⟨e,rfl,_⟩|⟨_,q⟩
   ·subst e
    rw[hs y b q3 q2]
    exact ho
   ·exact⟨s',y,q,q3,q2⟩
  exact r.sep j k b (off h1) (off h2)
theorem Rel.write(r:Rel K c F H σ ρ){i:Nat}{s:Slot}(ho:Ř F σ ρ i a)(hx:σ[i]?=some (some (.ref a)))(h:aP K c F (upd H a o) (some (.ref a)) s)(hs:∀b,s.at_ F (.ref a) b→b=a):Rel K c F (upd H a o) σ (ρ.set i s):=
 r.Yg ho (by rw[hx];exact h) fun x b e q=>by rw[hx] at e;cases e;exact hs b q
structure Gr(F H F' H':Hp):Prop where
 h:Same H H'
 f:Same F F'
 sub:Same F' H'
 out:∀a,H a≠none→F a=none→F' a=none
theorem Rel.call(r:Rel K c F H σ ρ)(g:Gr F H F' H'):Rel K c F' H' σ ρ where
 sub:=g.sub
 base:=r.base.trans g.h
 f0:=r.f0.trans g.f
 dw:=fun b h1 h2=>by
  refine g.out b (fun z=>h1 ?_) (r.dw b h1 h2)
  cases q:c.B b with
  |none=>rfl
  |some u=>rw[r.base _ _ q] at z;cases z
 lent:=fun b u e=>⟨g.h b u (r.lent b u e).1,g.out b (by rw[(r.lent b u e).1];intro z;cases z) (r.lent b u e).2⟩
 lb:=r.lb
 len:=r.len
 slot:=fun i s e=>(r.slot i s e).grow g.f fun b u _ h1 h2 h3=>⟨g.h b u h1,g.out b (by rw[h1];intro z;cases z) h2⟩
 sep:=r.Yd g.f
def ctx0(F H:Hp):Ctx:=⟨H,F,fun a=>match F a with
 |none=>H a
 |some _=>none,fun _ _ _=>True⟩
theorem gB{a:Addr}{u:HO}(h:(ctx0 F H).L a=some u):H a=some u∧F a=none:=by
 unfold ctx0 at h
 dsimp only at h
 cases q:F a with
 |none=>rw[q] at h;exact⟨h,rfl⟩
 |some o=>rw[q] at h;cases h
theorem Rel.gr(r:Rel K (ctx0 F H) F' H' σ ρ):Gr F H F' H':=⟨r.base,r.f0,r.sub,r.dw⟩
def cH(K:KK)(F H:Hp):Slot→V→Prop
 | .sh p,v=>Rep K F p v
 | .bw ps,v=>∃a vs,v=.ref a∧H a=some (.lst vs)∧F a=none∧Ğ K F ps vs
 |_,_=>False
theorem cH.slot{s:Slot}{v:V}(h:cH K F H s v):aP K (ctx0 F H) F H (some v) s∧s.own=false:=by
 cases s with
 |sh p=>exact⟨⟨v,rfl,h⟩,rfl⟩
 |bw ps=>
  obtain⟨a,vs,rfl,h1,h2,h3⟩:=h
  refine⟨⟨a,vs,rfl,?_,h3⟩,rfl⟩
  show(match F a with|none=>H a|some _=>none)=_
  rw[h2]
  exact h1
 |no=>exact h.elim
 |ow ps=>exact h.elim
 |rc C ns ps=>exact h.elim
 |ot ps qs=>exact h.elim
def startP(n:Nat)(as:List Slot):Ŏ:=as++List.replicate (n-as.length) .no
theorem Rel.start{N:List Str}{as:List Slot}{vs:List V}(s:Same F H)(h:Paired (cH K F H) as vs):Rel K (ctx0 F H) F H (L2.start N vs) (startP N.length as) where
 sub:=s
 base:=Same.refl H
 f0:=Same.refl F
 dw:=fun _ _ h=>h
 lent:=fun _ _ e=>gB e
 lb:=fun a e=>by
   cases q:(ctx0 F H).L a with
   |none=>rfl
   |some u=>
    have e':H a=none:=e
    rw[(gB q).1] at e'
    cases e'
 len:=by unfold L2.start startP;simp[Paired.length h]
 slot:=fun i s' e=>by
  unfold startP at e
  by_cases hi:i<as.length
  ·rw[List.getElem?_append_left hi] at e
   obtain⟨v,h1,h2⟩:=cG h e
   have hv:((L2.start N vs)[i]?).getD none=some v:=by
    unfold L2.start
    rw[List.getElem?_append_left (by simpa[←Paired.length h] using hi),List.getElem?_map,h1];rfl
   rw[hv]
   exact(cH.slot h2).1
  ·rw[List.getElem?_append_right (by omega),List.getElem?_replicate] at e
   split at e
   ·cases e;trivial
   ·cases e
 sep:=fun i j a h1 _=>by
  obtain⟨s',y,h1,_,h2⟩:=h1
  have h2:=eO h2
  exfalso
  unfold startP at h1
  by_cases hi:i<as.length
  ·rw[List.getElem?_append_left hi] at h1
   obtain⟨v,_,h3⟩:=cG h h1
   rw[(cH.slot h3).2] at h2
   cases h2
  ·rw[List.getElem?_append_right (by omega),List.getElem?_replicate] at h1
   split at h1
   ·cases h1;cases h2
   ·cases h1
end
structure PX where
 C:String
 ns:List Str
 ps:List PV
def Fo(K:KK)(F:Hp)(x:PX)(C:Value)(d:Option Addr):Prop:=C=.ref (K.cm x.C)∧∃fs,lR F d fs∧fs.map (·.1)=x.ns∧Ğ K F x.ps (fs.map (·.2))
inductive Res(α:Type) where
 |ok (a:α) (ρ:Ŏ)|exc (x:PX) (ρ:Ŏ)|bad
def Res.bind{α β:Type}(r:Res α)(f:α→Ŏ→Res β):Res β:= match r with
 | .ok a ρ=>f a ρ
 | .exc x ρ=>.exc x ρ
 | .bad=>.bad
@[simp] theorem Res.aQ{α β:Type}{a:α}{ρ:Ŏ}{f:α→Ŏ→Res β}:(Res.ok a ρ).bind f=f a ρ:= rfl
@[simp] theorem Res.ZcZ{α β:Type}{x:PX}{ρ:Ŏ}{f:α→Ŏ→Res β}:(Res.exc x ρ:Res α).bind f=.exc x ρ:= rfl
@[simp] theorem Res.Zc0{α β:Type}{f:α→Ŏ→Res β}:(Res.bad:Res α).bind f=.bad:=rfl
def Res.mX{α:Type}(o:Option α)(ρ:Ŏ):Res α:= match o with
 |some a=>.ok a ρ
 |none=>.bad
@[simp] theorem Res.Zc1{α:Type}{a:α}{ρ:Ŏ}:Res.mX (some a) ρ=.ok a ρ:= rfl
@[simp] theorem Res.Zc2{α:Type}{ρ:Ŏ}:Res.mX (none:Option α) ρ=.bad:=rfl
abbrev M(α:Type):=Ŏ→Res α
inductive RV where
 |sh (p:PV)|ow (ps:List PV)|ot (ps qs:List PV)
def RV.val:RV→PV
 | .sh p=>p
 | .ow ps=>.lst ps
 | .ot ps qs=>.tup (ps ++ [.lst qs])
def RV.slot:RV→Slot
 | .sh p=>.sh p
 | .ow ps=>.ow ps
 | .ot ps qs=>.ot ps qs
abbrev RR(α β:Type):=Ctx→L2.St→Ŏ→Hp→Hp→α→β→Prop
def rV(K:KK):RR PV V:=fun _ _ _ F _ p v=>Rep K F p v
def Dh(K:KK)(F H:Hp)(p:PV)(v:V):Prop:=match p with
 | .lst ps=>∃a vs,v=.ref a∧H a=some (.lst vs)∧Ğ K F ps vs
 | .ins C ns ps=>∃a dx fs,v=.ref a∧H a=some (.ins (K.cm C) dx fs)∧fs.map (·.1)=ns∧Ğ K F ps (fs.map (·.2))
 |_=>False
def rR(K:KK):RR PV V:=fun _ _ _ F H p v=>Rep K F p v∨Dh K F H p v
def rA(K:KK):RR (List Slot) (List V):=fun _ _ _ F H as vs=>Paired (cH K F H) as vs
def Held(K:KK)(c:Ctx)(σ:L2.St)(ρ:Ŏ)(F H:Hp)(ps:List PV)(v:V):Prop:=∃a vs,v=.ref a∧H a=some (.lst vs)∧F a=none∧c.B a=none∧lU F σ ρ a∧Ğ K F ps vs
def Di(K:KK)(c:Ctx)(σ:L2.St)(ρ:Ŏ)(F H:Hp)(ps qs:List PV)(v:V):Prop:=∃p a xs vs,v=.ref p∧F p=some (.tup (xs ++ [.ref a]))∧Ğ K F ps xs∧H a=some (.lst vs)∧F a=none∧c.B a=none∧lU F σ ρ a∧Ğ K F qs vs
def rO(K:KK):RR RV V:=fun c σ ρ F H r v=>match r with
 | .sh p=>Rep K F p v
 | .ow ps=>Held K c σ ρ F H ps v
 | .ot ps qs=>Di K c σ ρ F H ps qs v
def rL(K:KK):RR (List PV) (List V):=fun _ _ _ F _ p v=>Ğ K F p v
def rRL(K:KK):RR (List PV) (List V):=fun c σ ρ F H p v=>Paired (rR K c σ ρ F H) p v
def rB:RR Bool Bool:=fun _ _ _ _ _ p v=>p=v
def rI:RR (Option Int) (Option Int):=fun _ _ _ _ _ p v=>p=v
def bA{α β:Type}(K:KK)(E:L2.St→XK)(R:RR α β)(c:Ctx)(F H:Hp)(σ:L2.St)(Q:β→Hp→Prop):Res α→Prop
 | .ok p ρ'=>∀v F' H',Rel K c F' H' σ ρ'→Same F F'→Same H H'→R c σ ρ' F' H' p v→Q v H'
 | .exc x ρ'=>∀C d F' H',Rel K c F' H' σ ρ'→Same F F'→Fo K F' x C d→E σ C d H'
 | .bad=>False
def tG{α β:Type}(K:KK)(E:L2.St→XK)(R:RR α β)(m:M α):L2.St→Hp→(β→Hp→Prop)→Prop:=fun σ H Q=>∃c F ρ,Rel K c F H σ ρ∧bA K E R c F H σ Q (m ρ)
section
variable{α β α' β':Type}{K:KK}{E:L2.St→XK}{R:RR α β}{R':RR α' β'}{c:Ctx}{F F1 H H1:Hp}{σ:L2.St}
theorem bA.mono{Q:β→Hp→Prop}{r:Res α}(h:bA K E R c F H σ Q r)(sF:Same F F1)(sH:Same H H1):bA K E R c F1 H1 σ Q r:=by
 cases r with
 |ok p ρ'=>exact fun v F' H' rel s1 s2 q=>h v F' H' rel (sF.trans s1) (sH.trans s2) q
 |exc x ρ'=>exact fun C d F' H' rel s1 q=>h C d F' H' rel (sF.trans s1) q
 |bad=>exact h
theorem bA.bind{Q:β→Hp→Prop}{Q':β'→Hp→Prop}{r:Res α}{f:α→Ŏ→Res α'}(h:bA K E R' c F H σ Q' (r.bind f))
 (k:∀p ρ1 v F1 H1,Rel K c F1 H1 σ ρ1→Same F F1→Same H H1→R c σ ρ1 F1 H1 p v→bA K E R' c F1 H1 σ Q' (f p ρ1)→Q v H1):bA K E R c F H σ Q r:=by
 cases r with
 |ok p ρ'=>exact fun v F' H' rel s1 s2 q=>k p ρ' v F' H' rel s1 s2 q (bA.mono (show bA K E R' c F H σ Q' (f p ρ') from h) s1 s2)
 |exc x ρ'=>exact h
 |bad=>exact h
theorem bA.rel{R2:RR α β}{Q:β→Hp→Prop}{r:Res α}(h:bA K E R c F H σ Q r)(k:∀p ρ' v F' H',Rel K c F' H' σ ρ'→R2 c σ ρ' F' H' p v→R c σ ρ' F' H' p v):bA K E R2 c F H σ Q r:=by
 cases r with
 |ok p ρ'=>exact fun v F' H' rel s1 s2 q=>h v F' H' rel s1 s2 (k p ρ' v F' H' rel q)
 |exc x ρ'=>exact h
 |bad=>exact h
end
abbrev tV(K:KK)(E:L2.St→XK)(m:M PV):TE:=tG K E (rV K) m
abbrev tR(K:KK)(E:L2.St→XK)(m:M PV):TE:=tG K E (rR K) m
abbrev tO(K:KK)(E:L2.St→XK)(m:M RV):TE:=tG K E (rO K) m
abbrev tL(K:KK)(E:L2.St→XK)(m:M (List PV)):TA:=tG K E (rL K) m
abbrev tA(K:KK)(E:L2.St→XK)(m:M (List Slot)):TA:=tG K E (rA K) m
abbrev tRL(K:KK)(E:L2.St→XK)(m:M (List PV)):TA:=tG K E (rRL K) m
abbrev tB(K:KK)(E:L2.St→XK)(m:M Bool):TT:=tG K E rB m
inductive Fl where
 |nx|bk|ct|rt (r:RV)
def ť(K:KK)(E:L2.St→XK)(c:Ctx)(F:Hp)(D:Ends):Res Fl→Prop
 | .ok .nx ρ'=>∀σ' F' H',Rel K c F' H' σ' ρ'→Same F F'→D.nx σ' H'
 | .ok .bk ρ'=>∀σ' F' H',Rel K c F' H' σ' ρ'→Same F F'→D.bk σ' H'
 | .ok .ct ρ'=>∀σ' F' H',Rel K c F' H' σ' ρ'→Same F F'→D.ct σ' H'
 | .ok (.rt r) ρ'=>∀v σ' F' H',Rel K c F' H' σ' ρ'→Same F F'→rO K c σ' ρ' F' H' r v→D.rt v H'
 | .exc x ρ'=>∀σ' C d F' H',Rel K c F' H' σ' ρ'→Same F F'→Fo K F' x C d→E σ' C d H'
 | .bad=>False
def tS(K:KK)(E:L2.St→XK)(m:M Fl):TS:=fun D σ H=>∃c F ρ,Rel K c F H σ ρ∧ť K E c F D (m ρ)
section
variable{K:KK}{E:L2.St→XK}{c:Ctx}{F F1:Hp}{D:Ends}
theorem ť.mono{r:Res Fl}(h:ť K E c F D r)(sF:Same F F1):ť K E c F1 D r:=by
 cases r with
 |ok f ρ'=>
  cases f with
  |rt v=>exact fun v σ' F' H' rel s1 q=>h v σ' F' H' rel (sF.trans s1) q
  |nx=>exact fun σ' F' H' rel s1=>h σ' F' H' rel (sF.trans s1)
  |bk=>exact fun σ' F' H' rel s1=>h σ' F' H' rel (sF.trans s1)
  |ct=>exact fun σ' F' H' rel s1=>h σ' F' H' rel (sF.trans s1)
 |exc x ρ'=>exact fun σ' C d F' H' rel s1 q=>h σ' C d F' H' rel (sF.trans s1) q
 |bad=>exact h
theorem ť.bind{α β:Type}{R:RR α β}{σ:L2.St}{H:Hp}{Q:β→Hp→Prop}{r:Res α}{f:α→Ŏ→Res Fl}(h:ť K E c F D (r.bind f))
 (k:∀p ρ1 v F1 H1,Rel K c F1 H1 σ ρ1→Same F F1→R c σ ρ1 F1 H1 p v→ť K E c F1 D (f p ρ1)→Q v H1):bA K E R c F H σ Q r:=by
 cases r with
 |ok p ρ'=>exact fun v F' H' rel s1 s2 q=>k p ρ' v F' H' rel s1 q (ť.mono (show ť K E c F D (f p ρ') from h) s1)
 |exc x ρ'=>exact fun C d F' H' rel s1 q=>h σ C d F' H' rel s1 q
 |bad=>exact h
end
end P
namespace P
open PySem PySem.Spec PyProof.Rows L2 M2
def ğ(i:Nat):M PV:=fun ρ=>match ρ[i]? with
 |some (.sh p)=>.ok p ρ
 |some (.ow ps)=>.ok (.lst ps) (ρ.set i (.sh (.lst ps)))
 |_=>.bad
def ā(i:Nat):M PV:=fun ρ=>match ρ[i]? with
 |some (.sh p)=>.ok p ρ
 |some (.ow ps)=>.ok (.lst ps) ρ
 |some (.bw ps)=>.ok (.lst ps) ρ
 |some (.rc C ns ps)=>.ok (.ins C ns ps) ρ
 |_=>.bad
def fJ(i:Nat):M RV:=fun ρ=>match ρ[i]? with
 |some (.sh p)=>.ok (.sh p) ρ
 |some (.ow ps)=>.ok (.ow ps) (ρ.set i .no)
 |_=>.bad
def mC(p:PV):M PV:=fun ρ=>.ok p ρ
def Ŕ(m:M PV):M RV:=fun ρ=>(m ρ).bind fun p ρ1=>.ok (.sh p) ρ1
def Ď(m:M RV):M PV:=fun ρ=>(m ρ).bind fun r ρ1=>.ok r.val ρ1
section
variable{K:KK}{c:Ctx}{F H:Hp}{σ:L2.St}{ρ:Ŏ}
theorem at_of{i:Nat}{x:V}(h:(σ[i]?).getD none=some x):σ[i]?=some (some x):=by
 cases q:σ[i]? with
 |none=>rw[q] at h;cases h
 |some y=>rw[q] at h;exact congrArg some h
theorem Rel.ow(r:Rel K c F H σ ρ){i:Nat}{ps:List PV}(e:ρ[i]?=some (.ow ps)):∃a vs,σ[i]?=some (some (.ref a))∧H a=some (.lst vs)∧F a=none∧c.B a=none∧Ğ K F ps vs∧Ř F σ ρ i a:=by
 obtain⟨a,vs,h1,h2,h3,h4,h5⟩:=r.slot i _ e
 exact⟨a,vs,at_of h1,h2,h3,h4,h5,⟨_,_,e,at_of h1,rfl⟩⟩
theorem Rel.move(r:Rel K c F H σ ρ){i:Nat}{a:Addr}(h:Ř F σ ρ i a):Rel K c F H σ (ρ.set i .no)∧lU F σ (ρ.set i .no) a:=by
 refine⟨r.Uo rfl trivial,fun j ⟨s,y,q1,q3,q2⟩=>?_⟩
 rcases ak q1 with⟨_,rfl,_⟩|⟨hj,q⟩
 ·exact q2.elim
 ·exact hj (r.sep j i a ⟨s,y,q,q3,q2⟩ h)
theorem Rel.share(r:Rel K c F H σ ρ){i:Nat}{ps:List PV}(e:ρ[i]?=some (.ow ps)):∃a vs,σ[i]?=some (some (.ref a))∧F a=none∧Rep K (upd F a (.lst vs)) (.lst ps) (.ref a)∧Rel K c (upd F a (.lst vs)) H σ (ρ.set i (.sh (.lst ps))):=by
 obtain⟨a,vs,h1,h2,h3,h4,h5,ho⟩:=r.ow e
 obtain⟨m1,m2⟩:=r.move ho
 have rp:Rep K (upd F a (.lst vs)) (.lst ps) (.ref a):=by
  unfold Rep
  exact⟨a,vs,rfl,aF.of Ĩ,h5.same (Same.upd h3) ps vs⟩
 have q:=(m1.freeze h2 h4 h3 m2).Uo (i:=i) (s:=.sh (.lst ps)) rfl (show aP K c _ H _ (.sh (.lst ps)) from⟨.ref a,by rw[h1];rfl,rp⟩)
 rw[List.set_set] at q
 exact⟨a,vs,h1,h3,rp,q⟩
theorem Dh.mono{F1 H1:Hp}{p:PV}{v:V}(h:Dh K F H p v)(sF:Same F F1)(sH:Same H H1):Dh K F1 H1 p v:=by
 cases p with
 |lst ps=>
  obtain⟨a,vs,h2,h3,h4⟩:=h
  exact⟨a,vs,h2,sH _ _ h3,h4.same sF ps vs⟩
 |ins C ns ps=>
  obtain⟨a,dx,fs,h2,h3,h4,h5⟩:=h
  exact⟨a,dx,fs,h2,sH _ _ h3,h4,h5.same sF ps _⟩
 |_=>exact h.elim
theorem rR.mono{c:Ctx}{σ:L2.St}{ρ ρ':Ŏ}{F1 H1:Hp}{p:PV}{v:V}(h:rR K c σ ρ F H p v)(sF:Same F F1)(sH:Same H H1):rR K c σ ρ' F1 H1 p v:=by
 rcases h with h|h
 ·exact .inl (h.same sF p v)
 ·exact .inr (h.mono sF sH)
theorem rR.lst{c:Ctx}{σ:L2.St}{ρ:Ŏ}{ps:List PV}{v:V}(s:Same F H)(h:rR K c σ ρ F H (.lst ps) v):∃a vs,v=.ref a∧aF K.K H a vs∧Ğ K F ps vs:=by
 rcases h with h|⟨a,vs,h2,h3,h4⟩
 ·unfold Rep at h
  obtain⟨a,xs,h1,h2,h3⟩:=h
  exact⟨a,xs,h1,s.seq h2,h3⟩
 ·exact⟨a,vs,h2,aF.of h3,h4⟩
theorem rR.tup{c:Ctx}{σ:L2.St}{ρ:Ŏ}{ps:List PV}{v:V}(s:Same F H)(h:rR K c σ ρ F H (.tup ps) v):∃a vs,v=.ref a∧cZ K.K H a vs∧Ğ K F ps vs:=by
 rcases h with h|h
 ·unfold Rep at h
  obtain⟨a,xs,h1,h2,h3⟩:=h
  exact⟨a,xs,h1,Same.tup s h2,h3⟩
 ·exact h.elim
theorem rR.int{c:Ctx}{σ:L2.St}{ρ:Ŏ}{i:Int}{v:V}(h:rR K c σ ρ F H (.int i) v):v=.int i:=by
 rcases h with h|h
 ·unfold Rep at h;exact h
 ·exact h.elim
theorem rR.str{c:Ctx}{σ:L2.St}{ρ:Ŏ}{i:Str}{v:V}(h:rR K c σ ρ F H (.str i) v):v=.str i:=by
 rcases h with h|h
 ·unfold Rep at h;exact h
 ·exact h.elim
theorem rR.bl{c:Ctx}{σ:L2.St}{ρ:Ŏ}{i:Bool}{v:V}(h:rR K c σ ρ F H (.bl i) v):v=.bl i:=by
 rcases h with h|h
 ·unfold Rep at h;exact h
 ·exact h.elim
theorem rR.non{c:Ctx}{σ:L2.St}{ρ:Ŏ}{v:V}(h:rR K c σ ρ F H .non v):v=.non:=by
 rcases h with h|h
 ·unfold Rep at h;exact h
 ·exact h.elim
theorem rR.ty{c:Ctx}{σ:L2.St}{ρ:Ŏ}{n:String}{v:V}(h:rR K c σ ρ F H (.ty n) v):v=.ty n:=by
 rcases h with h|h
 ·unfold Rep at h;exact h
 ·exact h.elim
theorem Rep.int{i:Int}:Rep K F (.int i) (.int i):=by unfold Rep;rfl
theorem Rep.str{i:Str}:Rep K F (.str i) (.str i):=by unfold Rep;rfl
theorem Rep.bl{i:Bool}:Rep K F (.bl i) (.bl i):=by unfold Rep;rfl
theorem Rep.non:Rep K F .non .non:=by unfold Rep;rfl
end
section
variable{X:Cx}{cm:String→Addr}{E:L2.St→XK}{a b e:Expr}{es:List Expr}{pos:Pos}{m ma mb mc:M PV}{mo:M RV}
theorem PT.wk{t t':TT}(h:PT X e t)(i:∀σ H Q,t' σ H Q→t σ H Q):PT X e t':=fun pins s σ H Q I q=>h pins s σ H Q I (i σ H Q q)
theorem PA.wk{t t':TA}(h:PA X es t)(i:∀σ H Q,t' σ H Q→t σ H Q):PA X es t':=fun pos pins s σ H Q I q=>h pos pins s σ H Q I (i σ H Q q)
theorem PW.wk{t t':TT}(h:PW X e t)(i:∀σ H Q,t' σ H Q→t σ H Q):PW X e t':=fun wh pins s σ H Q I q=>h wh pins s σ H Q I (i σ H Q q)
theorem jc.wk{st:List Stmt}{t t':TS}(h:jc X st t)(i:∀D σ H,t' D σ H→t D σ H):jc X st t':=fun pins s σ H D I q=>h pins s σ H D I (i D σ H q)
theorem v_var(i:Nat){x:Str}{pos:Pos}(hN:X.N[i]?=some x:=by rfl)(hv:Gu X.env.scope x:=by first|exact Or.inl rfl|exact Or.inr (Or.inl rfl)|exact Or.inr (Or.inr rfl))(hd:(x== ("__debug__" :Str))=false:=by decide)
 (hcd:(x== ("__classdict__" :Str))=false:=by decide):PE X (.Name x pos) (tV (kk X cm) E (ğ i)):=PE.wk (fZ hN hv hd hcd) fun σ H Q ⟨c,F,ρ,rel,h⟩=>by
 unfold ğ at h
 split at h
 ·rename_i p e
  obtain⟨v,h1,h2⟩:=rel.slot i _ e
  exact⟨v,at_of h1,h v F H rel (Same.refl F) (Same.refl H) h2⟩
 ·rename_i ps e
  obtain⟨a,vs,h1,h2,h3,h4⟩:=rel.share e
  exact⟨.ref a,h1,h _ _ H h4 (Same.upd h2) (Same.refl H) h3⟩
 ·exact h.elim
theorem Ą(i:Nat){x:Str}{pos:Pos}(hN:X.N[i]?=some x:=by rfl)(hv:Gu X.env.scope x:=by first|exact Or.inl rfl|exact Or.inr (Or.inl rfl)|exact Or.inr (Or.inr rfl))(hd:(x== ("__debug__" :Str))=false:=by decide)
 (hcd:(x== ("__classdict__" :Str))=false:=by decide):PE X (.Name x pos) (tR (kk X cm) E (ā i)):=PE.wk (fZ hN hv hd hcd) fun σ H Q ⟨c,F,ρ,rel,h⟩=>by
 unfold ā at h
 split at h
 ·rename_i p e
  obtain⟨v,h1,h2⟩:=rel.slot i _ e
  exact⟨v,at_of h1,h v F H rel (Same.refl F) (Same.refl H) (.inl h2)⟩
 ·rename_i ps e
  obtain⟨a,vs,h1,h2,h3,h4,h5,_⟩:=rel.ow e
  exact⟨.ref a,h1,h _ F H rel (Same.refl F) (Same.refl H) (.inr ⟨a,vs,rfl,h2,h5⟩)⟩
 ·rename_i ps e
  obtain⟨a,vs,h1,h2,h3⟩:=rel.slot i _ e
  exact⟨.ref a,at_of h1,h _ F H rel (Same.refl F) (Same.refl H) (.inr ⟨a,vs,rfl,(rel.lent a _ h2).1,h3⟩)⟩
 ·rename_i C ns ps e
  obtain⟨a,dx,fs,h1,h2,h3,h4,h5,h6⟩:=rel.slot i _ e
  exact⟨.ref a,at_of h1,h _ F H rel (Same.refl F) (Same.refl H) (.inr ⟨a,dx,fs,rfl,h2,h5,h6.1⟩)⟩
 ·exact h.elim
theorem jB(i:Nat){x:Str}{pos:Pos}(hN:X.N[i]?=some x:=by rfl)(hv:Gu X.env.scope x:=by first|exact Or.inl rfl|exact Or.inr (Or.inl rfl)|exact Or.inr (Or.inr rfl))(hd:(x== ("__debug__" :Str))=false:=by decide)
 (hcd:(x== ("__classdict__" :Str))=false:=by decide):PE X (.Name x pos) (tO (kk X cm) E (fJ i)):=PE.wk (fZ hN hv hd hcd) fun σ H Q ⟨c,F,ρ,rel,h⟩=>by
 unfold fJ at h
 split at h
 ·rename_i p e
  obtain⟨v,h1,h2⟩:=rel.slot i _ e
  exact⟨v,at_of h1,h v F H rel (Same.refl F) (Same.refl H) h2⟩
 ·rename_i ps e
  obtain⟨a,vs,h1,h2,h3,h4,h5,h6⟩:=rel.ow e
  obtain⟨m1,m2⟩:=rel.move h6
  exact⟨.ref a,h1,h _ F H m1 (Same.refl F) (Same.refl H) ⟨a,vs,rfl,h2,h3,h4,m2,h5⟩⟩
 ·exact h.elim
theorem lV{v:V}(p:PV)(h:PE X e (tC v))(hr:∀F,Rep (kk X cm) F p v:=by intro _;unfold Rep;rfl):PE X e (tV (kk X cm) E (mC p)):=PE.wk h fun σ H Q ⟨c,F,ρ,rel,h⟩=>h v F H rel (Same.refl F) (Same.refl H) (hr F)
theorem Ă{i j pos}:PE X (.Constant (.int i) j pos) (tV (kk X cm) E (mC (.int i))):=lV _ Wu
theorem kY{i j pos}:PE X (.Constant (.bool i) j pos) (tV (kk X cm) E (mC (.bl i))):=lV _ Zcx
theorem lW{j pos}:PE X (.Constant .none j pos) (tV (kk X cm) E (mC .non)):=lV _ Wv
theorem ű{x j pos}:PE X (.Constant (.str x) j pos) (tV (kk X cm) E (mC (.str x))):=lV _ Ww
theorem Ā(h:PE X e (tV (kk X cm) E m)):PE X e (tR (kk X cm) E m):=PE.wk h fun σ H Q ⟨c,F,ρ,rel,h⟩=>⟨c,F,ρ,rel,h.rel fun _ _ _ _ _ _ q=>.inl q⟩
theorem Ĳ(h:PE X e (tV (kk X cm) E m)):PE X e (tO (kk X cm) E (Ŕ m)):=PE.wk h fun σ H Q ⟨c,F,ρ,rel,h⟩=>⟨c,F,ρ,rel,h.bind fun p ρ1 v F1 H1 ě s1 s2 q h1=>h1 v F1 H1 ě (Same.refl _) (Same.refl _) q⟩
theorem Held.share{K:KK}{c:Ctx}{F H:Hp}{σ:L2.St}{ρ:Ŏ}{ps:List PV}{v:V}(rel:Rel K c F H σ ρ)(h:Held K c σ ρ F H ps v):∃F1,Same F F1∧Rel K c F1 H σ ρ∧Rep K F1 (.lst ps) v:=by
 obtain⟨a,vs,rfl,h1,h2,h3,h4,h5⟩:=h
 refine⟨_,Same.upd h2,rel.freeze h1 h3 h2 h4,?_⟩
 unfold Rep
 exact⟨a,vs,rfl,aF.of Ĩ,h5.same (Same.upd h2) ps vs⟩
theorem Di.share{K:KK}{c:Ctx}{F H:Hp}{σ:L2.St}{ρ:Ŏ}{ps qs:List PV}{v:V}(rel:Rel K c F H σ ρ)(h:Di K c σ ρ F H ps qs v):∃F1,Same F F1∧Rel K c F1 H σ ρ∧Rep K F1 (.tup (ps ++ [.lst qs])) v:=by
 obtain⟨p,a,xs,vs,rfl,h0,hx,h1,h2,h3,h4,h5⟩:=h
 refine⟨_,Same.upd h2,rel.freeze h1 h3 h2 h4,?_⟩
 have ra:Rep K (upd F a (.lst vs)) (.lst qs) (.ref a):=by
  unfold Rep
  exact⟨a,vs,rfl,aF.of Ĩ,h5.same (Same.upd h2) qs vs⟩
 unfold Rep
 exact⟨p,_,rfl,cZ.of (Same.upd h2 _ _ h0),Ğ.append (hx.same (Same.upd h2) ps xs) (Ğ.cons ra Ğ.nil)⟩
theorem Ę(h:PE X e (tO (kk X cm) E mo)):PE X e (tV (kk X cm) E (Ď mo)):=PE.wk h fun σ H Q ⟨c,F,ρ,rel,h⟩=>⟨c,F,ρ,rel,h.bind fun r ρ1 v F1 H1 ě s1 s2 q h1=>by
 cases r with
 |sh p=>exact h1 v F1 H1 ě (Same.refl _) (Same.refl _) q
 |ow ps=>
  obtain⟨F2,s3,ŉ,rp⟩:=Held.share ě q
  exact h1 v F2 H1 ŉ s3 (Same.refl _) rp
 |ot ps qs=>
  obtain⟨F2,s3,ŉ,rp⟩:=Di.share ě q
  exact h1 v F2 H1 ŉ s3 (Same.refl _) rp⟩
def Ĉ(f:PV→PV→Option PV)(ma mb:M PV):M PV:=fun ρ=>(ma ρ).bind fun p ρ1=>(mb ρ1).bind fun q ρ2=>Res.mX (f p q) ρ2
def Ĵ(f:PV→PV→Option RV)(ma mb:M PV):M RV:=fun ρ=>(ma ρ).bind fun p ρ1=>(mb ρ1).bind fun q ρ2=>Res.mX (f p q) ρ2
def lX(K:KK)(r:R2)(f:PV→PV→Option PV):Prop:=∀{c:Ctx} {F H:Hp} {σ:L2.St} {ρ:Ŏ} {p q pv:PV} {v u:V} {Q:VK},Rel K c F H σ ρ→rR K c σ ρ F H p v→rR K c σ ρ F H q u→f p q=some pv→
 (∀z F' H',Rel K c F' H' σ ρ→Same F F'→Same H H'→Rep K F' pv z→Q z H')→r v u H Q
def OpO(K:KK)(r:R2)(f:PV→PV→Option RV):Prop:=∀{c:Ctx} {F H:Hp} {σ:L2.St} {ρ:Ŏ} {p q:PV} {pv:RV} {v u:V} {Q:VK},Rel K c F H σ ρ→rR K c σ ρ F H p v→rR K c σ ρ F H q u→f p q=some pv→
 (∀z F' H',Rel K c F' H' σ ρ→Same F F'→Same H H'→rO K c σ ρ F' H' pv z→Q z H')→r v u H Q
theorem Dj{r:R2}{f:PV→PV→Option PV}(hf:lX (kk X cm) r f){σ:L2.St}{H:Hp}{Q:VK}(h:tV (kk X cm) E (Ĉ f ma mb) σ H Q):tOp r (tR (kk X cm) E ma) (tR (kk X cm) E mb) σ H Q:=by
 obtain⟨c,F,ρ,rel,h⟩:=h
 refine⟨c,F,ρ,rel,h.bind fun p ρ1 v F1 H1 ě _ _ r1 h1=>⟨c,F1,ρ1,ě,h1.bind fun q ρ2 u F2 H2 ŉ sF sH r2 h2=>?_⟩⟩
 cases e:f p q with
 |none=>rw[e] at h2;exact h2.elim
 |some pv=>rw[e] at h2;exact hf ŉ (r1.mono sF sH) r2 e fun z F' H' bM s1 s2 q'=>h2 z F' H' bM s1 s2 q'
theorem Zc3{r:R2}{f:PV→PV→Option RV}(hf:OpO (kk X cm) r f){σ:L2.St}{H:Hp}{Q:VK}(h:tO (kk X cm) E (Ĵ f ma mb) σ H Q):tOp r (tR (kk X cm) E ma) (tR (kk X cm) E mb) σ H Q:=by
 obtain⟨c,F,ρ,rel,h⟩:=h
 refine⟨c,F,ρ,rel,h.bind fun p ρ1 v F1 H1 ě _ _ r1 h1=>⟨c,F1,ρ1,ě,h1.bind fun q ρ2 u F2 H2 ŉ sF sH r2 h2=>?_⟩⟩
 cases e:f p q with
 |none=>rw[e] at h2;exact h2.elim
 |some pv=>rw[e] at h2;exact hf ŉ (r1.mono sF sH) r2 e fun z F' H' bM s1 s2 q'=>h2 z F' H' bM s1 s2 q'
theorem Ē{op:Operator}{r:R2}{f:PV→PV→Option PV}(hf:lX (kk X cm) r f)(ho:bh X (binaryOp op) r)(ha:PE X a (tR (kk X cm) E ma))(hb:PE X b (tR (kk X cm) E mb)):PE X (.BinOp a op b pos) (tV (kk X cm) E (Ĉ f ma mb)):=PE.wk (Uj ho ha hb) fun _ _ _ h=>Dj hf h
theorem Ņ{op:Operator}{r:R2}{f:PV→PV→Option RV}(hf:OpO (kk X cm) r f)(ho:bh X (binaryOp op) r)(ha:PE X a (tR (kk X cm) E ma))(hb:PE X b (tR (kk X cm) E mb)):PE X (.BinOp a op b pos) (tO (kk X cm) E (Ĵ f ma mb)):=PE.wk (Uj ho ha hb) fun _ _ _ h=>Zc3 hf h
theorem cQ{op:CmpOp}{r:R2}{f:PV→PV→Option PV}(hf:lX (kk X cm) r f)(ho:bh X (compareOp op) r)(ha:PE X a (tR (kk X cm) E ma))(hb:PE X b (tR (kk X cm) E mb))(hm:behindInMarks op b=false):PE X (.Compare a [op] [b] pos) (tV (kk X cm) E (Ĉ f ma mb)):=
 PE.wk (Rg ho ha hb hm) fun _ _ _ h=>Dj hf h
theorem ĥ{r:R2}{f:PV→PV→Option PV}(hf:lX (kk X cm) r f)(hr:Ab X r)(ha:PE X a (tR (kk X cm) E ma))(hb:PE X b (tR (kk X cm) E mb))(hs:CP b):PE X (.Subscript a b pos) (tV (kk X cm) E (Ĉ f ma mb)):=
 PE.wk (ZcL hr ha hb hs) fun _ _ _ h=>Dj hf h
def jZ(f:PV→Option PV)(ma:M PV):M PV:=fun ρ=>(ma ρ).bind fun p ρ1=>Res.mX (f p) ρ1
def UnV(K:KK)(r:V→Hp→VK→Prop)(f:PV→Option PV):Prop:=∀{c:Ctx} {F H:Hp} {σ:L2.St} {ρ:Ŏ} {p pv:PV} {v:V} {Q:VK},Rel K c F H σ ρ→rR K c σ ρ F H p v→f p=some pv→
 (∀z F' H',Rel K c F' H' σ ρ→Same F F'→Same H H'→Rep K F' pv z→Q z H')→r v H Q
theorem Fp{op:UnaryOp}{r:V→Hp→VK→Prop}{f:PV→Option PV}(hf:UnV (kk X cm) r f)(ho:Q_ X (unaryOp op) r)(ha:PE X a (tR (kk X cm) E ma)):PE X (.UnaryOp op a pos) (tV (kk X cm) E (jZ f ma)):=PE.wk (ZcF ho ha) fun σ H Q ⟨c,F,ρ,rel,h⟩=>
 ⟨c,F,ρ,rel,h.bind fun p ρ1 v F1 H1 ě _ _ r1 h1=>by
   cases e:f p with
   |none=>rw[e] at h1;exact h1.elim
   |some pv=>rw[e] at h1;exact hf ě r1 e fun z F' H' bM s1 s2 q'=>h1 z F' H' bM s1 s2 q'⟩
def Yh:PV→Option Bool
 | .bl b=>some b
 | .int i=>some (i != 0)
 | .non=>some false
 | .str y=>if y.length≤sizeLine then some ((y.length:Int) != 0) else none
 | .lst ps=>some (!ps.isEmpty)
 | .tup ps=>some (!ps.isEmpty)
 |_=>none
def aG(m:M PV):M Bool:=fun ρ=>(m ρ).bind fun p ρ1=>Res.mX (Yh p) ρ1
theorem Zc4{K:KK}{c:Ctx}{F H:Hp}{σ:L2.St}{ρ:Ŏ}{p:PV}{v:V}{k:Bool}(s:Same F H)(r:rR K c σ ρ F H p v)(h:Yh p=some k):Xg K.K v H k:=by
 cases p with
 |bl b=>cases r.bl;cases h;rfl
 |int i=>cases r.int;cases h;rfl
 |non=>cases r.non;cases h;rfl
 |str y=>
  cases r.str
  have h':(if y.length≤sizeLine then some ((y.length:Int) != 0) else none)=some k:=h
  split at h'
  ·rename_i hy;cases h';exact⟨hy,rfl⟩
  ·cases h'
 |lst ps=>
  obtain⟨a,vs,rfl,h1,h2⟩:=r.lst s
  cases h
  have e:ps.isEmpty=vs.isEmpty:=by cases h2.pr<;>rfl
  exact .inl ⟨vs,h1,by rw[e]⟩
 |tup ps=>
  obtain⟨a,vs,rfl,h1,h2⟩:=r.tup s
  cases h
  have e:ps.isEmpty=vs.isEmpty:=by cases h2.pr<;>rfl
  exact .inr (.inl ⟨vs,h1,by rw[e]⟩)
 |ins C ns ps=>cases h
 |xc C ns ps=>cases h
 |ty n=>cases h
 |cls C=>cases h
theorem Ũ(ha:PE X a (tR (kk X cm) E ma))(he:∀whole,isTrue a X.env whole=(do let v ←whole;standAt a.pos;holding [v] (truthy v)):=by intro _;rfl):PT X a (tB (kk X cm) E (aG ma)):=PT.wk (GR ha he) fun σ H Q ⟨c,F,ρ,rel,h⟩=>
 ⟨c,F,ρ,rel,h.bind fun p ρ1 v F1 H1 ě _ _ r1 h1=>by
   cases e:Yh p with
   |none=>rw[e] at h1;exact h1.elim
   |some k=>rw[e] at h1;exact⟨k,Zc4 ě.sub r1 e,h1 k F1 H1 ě (Same.refl _) (Same.refl _) rfl⟩⟩
def j_(m:M PV):M Bool:=fun ρ=>(m ρ).bind fun p ρ1=>match p with
 | .bl b=>.ok b ρ1
 |_=>.bad
theorem Zc5{σ:L2.St}{H:Hp}{Q:Bool→Hp→Prop}(h:tB (kk X cm) E (j_ m) σ H Q):M2.Ul (tV (kk X cm) E m) σ H Q:=by
 obtain⟨c,F,ρ,rel,h⟩:=h
 refine⟨c,F,ρ,rel,h.bind fun p ρ1 v F1 H1 ě _ _ r1 h1=>?_⟩
 cases p with
 |bl b=>
  have e:v=.bl b:=by have r1':Rep (kk X cm) F1 (.bl b) v:=r1;unfold Rep at r1';exact r1'
  subst e
  exact h1 b F1 H1 ě (Same.refl _) (Same.refl _) rfl
 |_=>exact h1.elim
theorem ŷ{op:CmpOp}{r:R2}{f:PV→PV→Option PV}(hf:lX (kk X cm) r f)(ho:bh X (compareOp op) r)(ha:PE X a (tR (kk X cm) E ma))(hb:PE X b (tR (kk X cm) E mb))(hm:behindInMarks op b=false):PT X (.Compare a [op] [b] pos) (tB (kk X cm) E (j_ (Ĉ f ma mb))):=
 PT.wk (Xy ho ha hb hm) fun σ H Q h=>by
   obtain⟨c,F,ρ,rel,h⟩:=Zc5 h
   exact Dj hf ⟨c,F,ρ,rel,h⟩
def uf(f g:PV→PV→Option PV)(ma mb mc:M PV):M PV:=fun ρ=>(ma ρ).bind fun p ρ1=>(mb ρ1).bind fun q ρ2=>(Res.mX (f p q) ρ2).bind fun z ρ3=>match z with
 | .bl true=>(mc ρ3).bind fun w ρ4=>Res.mX (g q w) ρ4
 | .bl false=>.ok (.bl false) ρ3
 |_=>.bad
theorem Zc6{r r':R2}{f g:PV→PV→Option PV}(hf:lX (kk X cm) r f)(hg:lX (kk X cm) r' g){σ:L2.St}{H:Hp}{Q:VK}(h:tV (kk X cm) E (uf f g ma mb mc) σ H Q):M2.Ho r r' (tR (kk X cm) E ma) (tR (kk X cm) E mb) (tR (kk X cm) E mc) σ H Q:=by
 obtain⟨c,F,ρ,rel,h⟩:=h
 refine⟨c,F,ρ,rel,h.bind fun p ρ1 v F1 H1 ě _ _ r1 h1=>⟨c,F1,ρ1,ě,h1.bind fun q ρ2 u F2 H2 ŉ sF sH r2 h2=>?_⟩⟩
 cases e:f p q with
 |none=>rw[e] at h2;exact h2.elim
 |some pv=>
  rw[e] at h2
  refine hf ŉ (r1.mono sF sH) r2 e fun z F' H' bM s1 s2 q'=>?_
  cases pv with
  |bl k=>
   have ez:z=.bl k:=by unfold Rep at q';exact q'
   subst ez
   cases k with
   |false=>exact h2 _ F' H' bM s1 s2 q'
   |true=>
    refine⟨c,F',ρ2,bM,bA.bind (bA.mono h2 s1 s2) fun w ρ4 x F4 H4 wH s3 s4 r4 h4=>?_⟩
    cases e':g q w with
    |none=>rw[e'] at h4;exact h4.elim
    |some pv'=>rw[e'] at h4;exact hg wH (r2.mono (s1.trans s3) (s2.trans s4)) r4 e' fun z F' H' bM s1 s2 q'=>h4 z F' H' bM s1 s2 q'
  |_=>exact h2.elim
theorem qY{op op':CmpOp}{r r':R2}{f g:PV→PV→Option PV}{c:Expr}(hf:lX (kk X cm) r f)(hg:lX (kk X cm) r' g)(ho:bh X (compareOp op) r)(ho':bh X (compareOp op') r')(ha:PE X a (tR (kk X cm) E ma))(hb:PE X b (tR (kk X cm) E mb))(hc:PE X c (tR (kk X cm) E mc))
 (hm:lastMarks [op,op'] [b,c]=false:=by with_unfolding_all rfl):PE X (.Compare a [op,op'] [b,c] pos) (tV (kk X cm) E (uf f g ma mb mc)):=PE.wk (Hq ho ho' ha hb hc hm) fun _ _ _ h=>Zc6 hf hg h
def bB(m:M Bool):M Bool:=fun ρ=>(m ρ).bind fun b ρ1=>.ok (!b) ρ1
theorem dD{m:M Bool}(h:PT X a (tB (kk X cm) E m)):PT X (.UnaryOp .Not a pos) (tB (kk X cm) E (bB m)):=PT.wk (Wz h) fun σ H Q ⟨c,F,ρ,rel,h⟩=>
 ⟨c,F,ρ,rel,h.bind fun p ρ1 v F1 H1 ě _ _ r1 h1=>h1 _ F1 H1 ě (Same.refl _) (Same.refl _) (by have e:p=v:=r1;rw[e];rfl)⟩
def jC(ma mb:M Bool):M Bool:=fun ρ=>(ma ρ).bind fun b ρ1=>if b=true then mb ρ1 else .ok false ρ1
def wI(ma mb:M Bool):M Bool:=fun ρ=>(ma ρ).bind fun b ρ1=>if b=true then .ok true ρ1 else mb ρ1
variable{ta tb:M Bool}{rest:List Expr}
theorem jg(h:PT X a (tB (kk X cm) E ta)):PW X (.BoolOp .And [a] pos) (tB (kk X cm) E ta):=QT h
theorem HY(h:PT X a (tB (kk X cm) E ta)):PW X (.BoolOp .Or [a] pos) (tB (kk X cm) E ta):=Wx h
theorem w_and(ha:PT X a (tB (kk X cm) E ta))(hb:PW X (.BoolOp .And (b::rest) pos) (tB (kk X cm) E tb)):PW X (.BoolOp .And (a::b::rest) pos) (tB (kk X cm) E (jC ta tb)):=PW.wk (Wy ha hb) fun σ H Q ⟨c,F,ρ,rel,h⟩=>
 ⟨c,F,ρ,rel,h.bind fun p ρ1 v F1 H1 ě _ _ r1 h1=>by
   have e:p=v:=r1
   subst e
   cases p with
   |true=>exact⟨c,F1,ρ1,ě,h1⟩
   |false=>exact h1 false F1 H1 ě (Same.refl _) (Same.refl _) rfl⟩
theorem w_or(ha:PT X a (tB (kk X cm) E ta))(hb:PW X (.BoolOp .Or (b::rest) pos) (tB (kk X cm) E tb)):PW X (.BoolOp .Or (a::b::rest) pos) (tB (kk X cm) E (wI ta tb)):=PW.wk (Zcy ha hb) fun σ H Q ⟨c,F,ρ,rel,h⟩=>
 ⟨c,F,ρ,rel,h.bind fun p ρ1 v F1 H1 ě _ _ r1 h1=>by
   have e:p=v:=r1
   subst e
   cases p with
   |false=>exact⟨c,F1,ρ1,ě,h1⟩
   |true=>exact h1 true F1 H1 ě (Same.refl _) (Same.refl _) rfl⟩
def fV(ma mb:M PV):M PV:=fun ρ=>(ma ρ).bind fun p ρ1=>match p with
 | .bl true=>mb ρ1
 | .bl false=>.ok (.bl false) ρ1
 |_=>.bad
def mOr(ma mb:M PV):M PV:=fun ρ=>(ma ρ).bind fun p ρ1=>match p with
 | .bl true=>.ok (.bl true) ρ1
 | .bl false=>mb ρ1
 |_=>.bad
def RJ(ma:M PV):M PV:=fun ρ=>(ma ρ).bind fun p ρ1=>match p with
 | .bl b=>.ok (.bl (!b)) ρ1
 |_=>.bad
theorem ug{K:KK}{F:Hp}{b:Bool}{v:V}(h:Rep K F (.bl b) v):v=.bl b:=by unfold Rep at h;exact h
theorem jD{op}(h:PE X a (tV (kk X cm) E ma)):PE X (.BoolOp op [a] pos) (tV (kk X cm) E ma):=WD h
theorem v_and(ha:PE X a (tV (kk X cm) E ma))(hb:PE X (.BoolOp .And (b::rest) pos) (tV (kk X cm) E mb)):PE X (.BoolOp .And (a::b::rest) pos) (tV (kk X cm) E (fV ma mb)):=PE.wk (Xz ha hb) fun σ H Q ⟨c,F,ρ,rel,h⟩=>
 ⟨c,F,ρ,rel,h.bind fun p ρ1 v F1 H1 ě _ _ r1 h1=>by
   cases p with
   |bl k=>
    cases ug r1
    cases k with
    |true=>exact⟨c,F1,ρ1,ě,h1⟩
    |false=>exact h1 _ F1 H1 ě (Same.refl _) (Same.refl _) r1
   |_=>exact h1.elim⟩
theorem v_not(ha:PE X a (tV (kk X cm) E ma)):PE X (.UnaryOp .Not a pos) (tV (kk X cm) E (RJ ma)):=PE.wk (XC ha) fun σ H Q ⟨c,F,ρ,rel,h⟩=>
 ⟨c,F,ρ,rel,h.bind fun p ρ1 v F1 H1 ě _ _ r1 h1=>by
   cases p with
   |bl k=>
    cases ug r1
    exact h1 _ F1 H1 ě (Same.refl _) (Same.refl _) Rep.bl
   |_=>exact h1.elim⟩
def dX{α:Type}(t:M Bool)(ma mb:M α):M α:= fun ρ=>(t ρ).bind fun b ρ1=>if b=true then ma ρ1 else mb ρ1
def Ě:M (List PV):=fun ρ=>.ok [] ρ
def ă(ma:M PV)(mr:M (List PV)):M (List PV):=fun ρ=>(ma ρ).bind fun p ρ1=>(mr ρ1).bind fun ps ρ2=>.ok (p::ps) ρ2
variable{mr:M (List PV)}
theorem Ġ:PA X [] (tL (kk X cm) E Ě):=PA.wk jd fun σ H Q ⟨c,F,ρ,rel,h⟩=>h [] F H rel (Same.refl _) (Same.refl _) Ğ.nil
theorem Ć(ha:PE X e (tV (kk X cm) E ma))(hr:PA X es (tL (kk X cm) E mr))(hs:starEach (e::es) X.env=(false,eval e X.env)::starEach es X.env:=by exact ī rfl):PA X (e::es) (tL (kk X cm) E (ă ma mr)):=PA.wk (cA ha hr hs) fun σ H Q ⟨c,F,ρ,rel,h⟩=>
 ⟨c,F,ρ,rel,h.bind fun p ρ1 v F1 H1 ě _ _ r1 h1=>⟨c,F1,ρ1,ě,h1.bind fun ps ρ2 vs F2 H2 ŉ sF sH r2 h2=>h2 _ F2 H2 ŉ (Same.refl _) (Same.refl _) (Ğ.cons (Rep.same sF p v r1) r2)⟩⟩
theorem Ī:PA X [] (tRL (kk X cm) E Ě):=PA.wk jd fun σ H Q ⟨c,F,ρ,rel,h⟩=>h [] F H rel (Same.refl _) (Same.refl _) .nil
theorem ę(ha:PE X e (tR (kk X cm) E ma))(hr:PA X es (tRL (kk X cm) E mr))(hs:starEach (e::es) X.env=(false,eval e X.env)::starEach es X.env:=by exact ī rfl):PA X (e::es) (tRL (kk X cm) E (ă ma mr)):=PA.wk (cA ha hr hs) fun σ H Q ⟨c,F,ρ,rel,h⟩=>
 ⟨c,F,ρ,rel,h.bind fun p ρ1 v F1 H1 ě _ _ r1 h1=>⟨c,F1,ρ1,ě,h1.bind fun ps ρ2 vs F2 H2 ŉ sF sH r2 h2=>h2 _ F2 H2 ŉ (Same.refl _) (Same.refl _) (.cons (rR.mono r1 sF sH) r2)⟩⟩
def č:M (List Slot):=fun ρ=>.ok [] ρ
def đ(ma:M PV)(mr:M (List Slot)):M (List Slot):=fun ρ=>(ma ρ).bind fun p ρ1=>(mr ρ1).bind fun as ρ2=>.ok (.sh p::as) ρ2
def dF:Slot→Option Slot
 | .sh p=>some (.sh p)
 | .ow ps=>some (.bw ps)
 | .bw ps=>some (.bw ps)
 |_=>none
def ą(i:Nat)(mr:M (List Slot)):M (List Slot):=fun ρ=>match(ρ[i]?).bind dF with
 |none=>.bad
 |some _=>(mr ρ).bind fun as ρ2=>match(ρ2[i]?).bind dF with
  |some s=>.ok (s::as) ρ2
  |none=>.bad
variable{ms:M (List Slot)}
theorem ď:PA X [] (tA (kk X cm) E č):=PA.wk jd fun σ H Q ⟨c,F,ρ,rel,h⟩=>h [] F H rel (Same.refl _) (Same.refl _) .nil
theorem ė(ha:PE X e (tV (kk X cm) E ma))(hr:PA X es (tA (kk X cm) E ms))(hs:starEach (e::es) X.env=(false,eval e X.env)::starEach es X.env:=by exact ī rfl):PA X (e::es) (tA (kk X cm) E (đ ma ms)):=PA.wk (cA ha hr hs) fun σ H Q ⟨c,F,ρ,rel,h⟩=>
 ⟨c,F,ρ,rel,h.bind fun p ρ1 v F1 H1 ě _ _ r1 h1=>⟨c,F1,ρ1,ě,h1.bind fun as ρ2 vs F2 H2 ŉ sF sH r2 h2=>h2 _ F2 H2 ŉ (Same.refl _) (Same.refl _) (.cons (show cH _ _ _ (.sh p) v from Rep.same sF p v r1) r2)⟩⟩
theorem Dk{K:KK}{c:Ctx}{F H:Hp}{σ:L2.St}{ρ:Ŏ}{i:Nat}{s:Slot}(rel:Rel K c F H σ ρ)(h:(ρ[i]?).bind dF=some s):∃v,σ[i]?=some (some v)∧cH K F H s v:=by
 cases e:ρ[i]? with
 |none=>rw[e] at h;cases h
 |some sl=>
  rw[e] at h
  have h':dF sl=some s:=h
  cases sl with
  |sh p=>
   cases h'
   obtain⟨v,h1,h2⟩:=rel.slot i _ e
   exact⟨v,at_of h1,h2⟩
  |ow ps=>
   cases h'
   obtain⟨a,vs,h1,h2,h3,h4,h5,_⟩:=rel.ow e
   exact⟨.ref a,h1,a,vs,rfl,h2,h3,h5⟩
  |bw ps=>
   cases h'
   obtain⟨a,vs,h1,h2,h3⟩:=rel.slot i _ e
   exact⟨.ref a,at_of h1,a,vs,rfl,(rel.lent a _ h2).1,(rel.lent a _ h2).2,h3⟩
  |no=>cases h'
  |rc C ns ps=>cases h'
  |ot ps qs=>cases h'
theorem ć(i:Nat){x:Str}{px:Pos}(hN:X.N[i]?=some x:=by rfl)(hv:Gu X.env.scope x:=by first|exact Or.inl rfl|exact Or.inr (Or.inl rfl)|exact Or.inr (Or.inr rfl))(hd:(x== ("__debug__" :Str))=false:=by decide)
 (hcd:(x== ("__classdict__" :Str))=false:=by decide)(hr:PA X es (tA (kk X cm) E ms))(hs:starEach (.Name x px::es) X.env=(false,eval (.Name x px) X.env)::starEach es X.env:=by exact ī rfl):PA X (.Name x px::es) (tA (kk X cm) E (ą i ms)):=
 PA.wk (cA (fZ hN hv hd hcd) hr hs) fun σ H Q ⟨c,F,ρ,rel,h⟩=>by
   unfold ą at h
   cases e:(ρ[i]?).bind dF with
   |none=>rw[e] at h;exact h.elim
   |some s0=>
    rw[e] at h
    obtain⟨v,hv,_⟩:=Dk rel e
    refine⟨v,hv,c,F,ρ,rel,bA.bind h fun as ρ2 vs F2 H2 ŉ sF sH r2 h2=>?_⟩
    cases e2:(ρ2[i]?).bind dF with
    |none=>simp only[e2] at h2;exact h2.elim
    |some s=>
     simp only[e2] at h2
     obtain⟨v',hv',r1⟩:=Dk ŉ e2
     rw[hv] at hv'
     cases hv'
     exact h2 _ F2 H2 ŉ (Same.refl _) (Same.refl _) (.cons r1 r2)
def Ŗ(mr:M (List PV)):M PV:=fun ρ=>(mr ρ).bind fun ps ρ1=>if ps.length≤16777216 then .ok (.tup ps) ρ1 else .bad
def ũ(mr:M (List PV)):M RV:=fun ρ=>(mr ρ).bind fun ps ρ1=>if ps.length≤16777216 then .ok (.ow ps) ρ1 else .bad
theorem Ŋ:sizeLine=16777216:=sizeLine_eq
theorem ŋ{x1}(h:PA X es (tL (kk X cm) E mr)):PE X (.Tuple es x1 pos) (tV (kk X cm) E (Ŗ mr)):=PE.wk (Xk h) fun σ H Q ⟨c,F,ρ,rel,h⟩=>
 ⟨c,F,ρ,rel,h.bind fun ps ρ1 vs F1 H1 ě _ _ r1 h1=>by
   split at h1
   ·rename_i hz
    refine⟨by rw[←Ğ.length r1,Ŋ];exact hz,fun p hp=>h1 _ _ _ (ě.alloc hp) (Same.upd (ě.sub.free hp)) (Same.upd hp) ?_⟩
    show Rep _ _ _ _
    unfold Rep
    exact⟨p,vs,rfl,cZ.of Ĩ,Ğ.same (Same.upd (ě.sub.free hp)) ps vs r1⟩
   ·exact h1.elim⟩
theorem dG{K:KK}{c:Ctx}{F H:Hp}{σ:L2.St}{ρ:Ŏ}{ps:List PV}{vs:List V}{a:Addr}(rel:Rel K c F H σ ρ)(ha:H a=none)(r:Ğ K F ps vs):Rel K c F (upd H a (.lst vs)) σ ρ∧Held K c σ ρ F (upd H a (.lst vs)) ps (.ref a):=
 ⟨rel.made ha,a,vs,rfl,Ĩ,rel.sub.free ha,rel.base.free ha,rel.fresh ha,r⟩
theorem ř(h:PA X es (tL (kk X cm) E mr)):PE X (.List es pos) (tO (kk X cm) E (ũ mr)):=PE.wk (Xl h) fun σ H Q ⟨c,F,ρ,rel,h⟩=>
 ⟨c,F,ρ,rel,h.bind fun ps ρ1 vs F1 H1 ě _ _ r1 h1=>by
   split at h1
   ·rename_i hz
    refine⟨by rw[←Ğ.length r1,Ŋ];exact hz,fun p hp=>?_⟩
    obtain⟨q1,q2⟩:=dG ě hp r1
    exact h1 _ _ _ q1 (Same.refl _) (Same.upd hp) q2
   ·exact h1.elim⟩
def b_(f:List PV→Option PV)(mr:M (List PV)):M PV:=fun ρ=>(mr ρ).bind fun ps ρ1=>Res.mX (f ps) ρ1
def oF(f:List PV→Option RV)(mr:M (List PV)):M RV:=fun ρ=>(mr ρ).bind fun ps ρ1=>Res.mX (f ps) ρ1
def cR(K:KK)(r:List V→Hp→VK→Prop)(f:List PV→Option PV):Prop:=∀{c:Ctx} {F H:Hp} {σ:L2.St} {ρ:Ŏ} {ps:List PV} {pv:PV} {vs:List V} {Q:VK},Rel K c F H σ ρ→rRL K c σ ρ F H ps vs→f ps=some pv→
 (∀z F' H',Rel K c F' H' σ ρ→Same F F'→Same H H'→Rep K F' pv z→Q z H')→r vs H Q
def Uq(K:KK)(r:List V→Hp→VK→Prop)(f:List PV→Option RV):Prop:=∀{c:Ctx} {F H:Hp} {σ:L2.St} {ρ:Ŏ} {ps:List PV} {pv:RV} {vs:List V} {Q:VK},Rel K c F H σ ρ→rRL K c σ ρ F H ps vs→f ps=some pv→
 (∀z F' H',Rel K c F' H' σ ρ→Same F F'→Same H H'→rO K c σ ρ F' H' pv z→Q z H')→r vs H Q
theorem Ū{r:List V→Hp→VK→Prop}{f:List PV→Option PV}(hf:cR (kk X cm) r f){σ:L2.St}{H:Hp}{Q:VK}(h:tV (kk X cm) E (b_ f mr) σ H Q):tCB r (tRL (kk X cm) E mr) σ H Q:=by
 obtain⟨c,F,ρ,rel,h⟩:=h
 refine⟨c,F,ρ,rel,h.bind fun p ρ1 v F1 H1 ě _ _ r1 h1=>?_⟩
 cases e:f p with
 |none=>rw[e] at h1;exact h1.elim
 |some pv=>rw[e] at h1;exact hf ě r1 e fun z F' H' bM s1 s2 q'=>h1 z F' H' bM s1 s2 q'
theorem wJ{r:List V→Hp→VK→Prop}{f:List PV→Option RV}(hf:Uq (kk X cm) r f){σ:L2.St}{H:Hp}{Q:VK}(h:tO (kk X cm) E (oF f mr) σ H Q):tCB r (tRL (kk X cm) E mr) σ H Q:=by
 obtain⟨c,F,ρ,rel,h⟩:=h
 refine⟨c,F,ρ,rel,h.bind fun p ρ1 v F1 H1 ě _ _ r1 h1=>?_⟩
 cases e:f p with
 |none=>rw[e] at h1;exact h1.elim
 |some pv=>rw[e] at h1;exact hf ě r1 e fun z F' H' bM s1 s2 q'=>h1 z F' H' bM s1 s2 q'
end
end P
namespace P
open PySem PySem.Spec PyProof.Rows L2 M2 M3
def fK:M Fl:=fun ρ=>.ok .nx ρ
def mBk:M Fl:=fun ρ=>.ok .bk ρ
def mCt:M Fl:=fun ρ=>.ok .ct ρ
def ģ(a b:M Fl):M Fl:=fun ρ=>(a ρ).bind fun f ρ1=>match f with
 | .nx=>b ρ1
 |f=>.ok f ρ1
def Ļ(i:Nat)(m:M RV):M Fl:=fun ρ=>(m ρ).bind fun r ρ1=>.ok .nx (ρ1.set i r.slot)
def ĳ(m:M RV):M Fl:=fun ρ=>(m ρ).bind fun r ρ1=>.ok (.rt r) ρ1
def Zc7:M Fl:=fun ρ=>.ok (.rt (.sh .non)) ρ
def oG(m:M PV):M Fl:=fun ρ=>(m ρ).bind fun _ ρ1=>.ok .nx ρ1
section
variable{X:Cx}{cm:String→Addr}{E:L2.St→XK}{a b e:Expr}{st:Stmt}{rest:List Stmt}{es:List Expr}{pos:Pos}{m1 m2:M Fl}{mo:M RV}{mv:M PV}
theorem ņ:jc X [] (tS (kk X cm) E fK):=jc.wk Cy fun D σ H ⟨c,F,ρ,rel,h⟩=>h σ F H rel (Same.refl F)
theorem Č(h:PS X st (tS (kk X cm) E m1)):jc X [st] (tS (kk X cm) E m1):=QV h
theorem RK{c:Ctx}{F:Hp}{D:Ends}{r:Res Fl}(h:ť (kk X cm) E c F D (r.bind fun f ρ1=>match f with| .nx=>m2 ρ1|f=>.ok f ρ1)):ť (kk X cm) E c F {D with nx:=tS (kk X cm) E m2 D} r:=by
 cases r with
 |ok f ρ1=>
  cases f with
  |nx=>exact fun σ' F' H' bM s=>⟨c,F',ρ1,bM,ť.mono h s⟩
  |bk=>exact h
  |ct=>exact h
  |rt v=>exact h
 |exc x ρ1=>exact h
 |bad=>exact h
theorem ċ(h1:PS X st (tS (kk X cm) E m1))(h2:jc X rest (tS (kk X cm) E m2)):jc X (st::rest) (tS (kk X cm) E (ģ m1 m2)):=jc.wk (wA h1 h2) fun D σ H ⟨c,F,ρ,rel,h⟩=>⟨c,F,ρ,rel,RK h⟩
theorem İ{i:Nat}{x:Str}{pos':Pos}(hN:X.N.Nodup)(hi:X.N[i]?=some x)(hx:Loc X.env.scope x)(he:PE X e (tO (kk X cm) E mo))(hs:swapsWith e (some (.Name x pos')) pos.line X.env=pure false:=by rfl)(hf:X.fn x=true∨X.env.scope.names.lookup x=some .local:=by first|exact .inl rfl|exact .inr rfl|assumption) :
 PS X (.Assign [.Name x pos'] e pos) (tS (kk X cm) E (Ļ i mo)):=PS.wk (WQ hN hi hx he hs hf) fun D σ H ⟨c,F,ρ,rel,h⟩=>⟨c,F,ρ,rel,ť.bind h fun r ρ1 v F1 H1 ě s1 q h1=>by
 cases r with
 |sh p=>exact h1 _ F1 H1 (ě.put rfl ⟨v,rfl,q⟩) (Same.refl _)
 |ow ps=>
  obtain⟨a,vs,rfl,q1,q2,q3,q4,q5⟩:=q
  exact h1 _ F1 H1 (ě.RD ⟨a,vs,rfl,q1,q2,q3,q5⟩ rfl q4) (Same.refl _)
 |ot ps qs=>
  obtain⟨p,a,xs,vs,rfl,q0,qx,q1,q2,q3,q4,q5⟩:=q
  exact h1 _ F1 H1 (ě.RD (s:=.ot ps qs) ⟨p,a,xs,vs,rfl,q0,qx,q1,q2,q3,q5⟩ ⟨p,xs,rfl,q0⟩ q4) (Same.refl _)⟩
theorem Ĥ(he:PE X e (tO (kk X cm) E mo)):PS X (.Return (some e) pos) (tS (kk X cm) E (ĳ mo)):=PS.wk (WK he) fun D σ H ⟨c,F,ρ,rel,h⟩=>⟨c,F,ρ,rel,ť.bind h fun r ρ1 v F1 H1 ě s1 q h1=>h1 v σ F1 H1 ě (Same.refl _) q⟩
theorem oH(he:PE X e (tV (kk X cm) E mv))(hs:swapsWith e none pos.line X.env=pure false:=by rfl):PS X (.Expr e pos) (tS (kk X cm) E (oG mv)):=PS.wk (cP he hs) fun D σ H ⟨c,F,ρ,rel,h⟩=>⟨c,F,ρ,rel,ť.bind h fun r ρ1 v F1 H1 ě s1 q h1=>h1 σ F1 H1 ě (Same.refl _)⟩
theorem Ż{t:M Bool}{ss ss':List Stmt}(hc:PT X a (tB (kk X cm) E t))(ha:jc X ss (tS (kk X cm) E m1))(hb:jc X ss' (tS (kk X cm) E m2)):PS X (.If a ss ss' pos) (tS (kk X cm) E (dX t m1 m2)):=PS.wk (ZcA hc ha hb) fun D σ H ⟨c,F,ρ,rel,h⟩=>⟨c,F,ρ,rel,ť.bind h fun r ρ1 v F1 H1 ě s1 q h1=>by
 have e:r=v:=q
 subst e
 cases r with
 |true=>exact⟨c,F1,ρ1,ě,h1⟩
 |false=>exact⟨c,F1,ρ1,ě,h1⟩⟩
def ZkD{α:Type}:M α:= fun _=>.bad
abbrev Tg:=PV→Ŏ→Option Ŏ
abbrev Gw:=List PV→Ŏ→Option Ŏ
def Zc8(K:KK)(c:Ctx)(F H:Hp)(Q:L2.St→Hp→Prop):Option Ŏ→Prop
 |some ρ'=>∀σ',Rel K c F H σ' ρ'→Q σ' H
 |none=>False
def tT(K:KK)(g:Tg):TG:=fun v σ H Q=>∃c F ρ p,Rel K c F H σ ρ∧Rep K F p v∧Zc8 K c F H Q (g p ρ)
def tTs(K:KK)(g:Gw):GD:=fun v σ H Q=>∃c F ρ p,Rel K c F H σ ρ∧Ğ K F p v∧Zc8 K c F H Q (g p ρ)
def gN(i:Nat):Tg:=fun p ρ=>some (ρ.set i (.sh p))
def bC:Gw:=fun ps ρ=>match ps with
 | []=>some ρ
 |_=>none
def Ŀ(g:Tg)(gs:Gw):Gw:=fun ps ρ=>match ps with
 |p::ps=>(g p ρ).bind fun ρ1=>gs ps ρ1
 | []=>none
def gT(n:Nat)(gs:Gw):Tg:=fun p ρ=>match p with
 | .tup ps=>if ps.length=n then gs ps ρ else none
 |_=>none
theorem PG.wk'{tg:Expr}{t t':TG}(h:PG X tg t)(i:∀v σ H Q,t' v σ H Q→t v σ H Q):PG X tg t':=fun pins s σ H v u Q I r q=>h pins s σ H v u Q I r (i v σ H Q q)
theorem zO.wk{tg:List Expr}{t t':GD}(h:zO X tg t)(i:∀v σ H Q,t' v σ H Q→t v σ H Q):zO X tg t':=fun pins s σ H v u Q I r q=>h pins s σ H v u Q I r (i v σ H Q q)
theorem Į{i:Nat}{x:Str}(hN:X.N.Nodup)(hi:X.N[i]?=some x)(hx:Loc X.env.scope x)(hf:X.fn x=true∨X.env.scope.names.lookup x=some .local:=by first|exact .inl rfl|exact .inr rfl|assumption):PG X (.Name x pos) (tT (kk X cm) (gN i)):=
 PG.wk' (QW hN hi hx hf) fun v σ H Q ⟨c,F,ρ,p,rel,rp,h⟩=>h _ (rel.put rfl ⟨v,rfl,rp⟩)
theorem jh:zO X [] (tTs (kk X cm) bC):=zO.wk QX fun v σ H Q ⟨c,F,ρ,p,rel,rp,h⟩=>by
 cases p with
 |nil=>
  have e:v=[]:=by have:=rp;unfold Ğ at this;exact this
  exact⟨e,h σ rel⟩
 |cons _ _=>exact h.elim
theorem ů{es:List Expr}{g:Tg}{gs:Gw}(h1:PG X e (tT (kk X cm) g))(h2:zO X es (tTs (kk X cm) gs))(hs:(assignEach (e::es) X.env).map (·.2)=assign e X.env::(assignEach es X.env).map (·.2):=by rfl):zO X (e::es) (tTs (kk X cm) (Ŀ g gs)):=
 zO.wk (GF h1 h2 hs) fun v σ H Q ⟨c,F,ρ,p,rel,rp,h⟩=>by
  cases p with
  |nil=>exact h.elim
  |cons p ps=>
   unfold Ğ at rp
   obtain⟨x,r,rfl,r1,r2⟩:=rp
   refine⟨x,r,rfl,c,F,ρ,p,rel,r1,?_⟩
   unfold Ŀ at h
   dsimp only at h
   cases eg:g p ρ with
   |none=>rw[eg] at h;exact h.elim
   |some ρ1=>rw[eg] at h;exact fun σ' bM=>⟨c,F,ρ1,ps,bM,r2,h⟩
theorem wK{es:List Expr}{k:Nat}{gs:Gw}{n:Nat}(hc:X.calm=true)(h:zO X es (tTs (kk X cm) gs))(hn:(assignEach es X.env).length=n:=by rfl)(hst:(assignEach es X.env).findIdx? (·.1)=none:=by rfl):PG X (.Tuple es k pos) (tT (kk X cm) (gT n gs)):=
 PG.wk' (GJ hc h hn hst) fun v σ H Q ⟨c,F,ρ,p,rel,rp,h⟩=>by
   cases p with
   |tup ps=>
    unfold Rep at rp
    obtain⟨a,xs,h1,h2,h3⟩:=rp
    unfold gT at h
    dsimp only at h
    split at h
    ·rename_i hl
     exact⟨a,xs,h1,Same.tup rel.sub h2,by rw[←h3.length];exact hl,c,F,ρ,ps,rel,h3,h⟩
    ·exact h.elim
   |_=>exact h.elim
def RL(g:Tg)(m:M PV):M Fl:=fun ρ=>(m ρ).bind fun p ρ1=>match g p ρ1 with
 |some ρ2=>.ok .nx ρ2
 |none=>.bad
theorem Ur{tg:Expr}{g:Tg}(he:PE X e (tV (kk X cm) E mv))(hg:PG X tg (tT (kk X cm) g))(hs:swapsWithSole [tg] e pos.line X.env=pure false:=by rfl)(hw:swappedStores [tg] e X.env=pure none:=by rfl)
 (h1:(assignEach [tg] X.env).map (·.2)=[assign tg X.env]:=by rfl):PS X (.Assign [tg] e pos) (tS (kk X cm) E (RL g mv)):=PS.wk (GK he hg hs hw h1) fun D σ H ⟨c,F,ρ,rel,h⟩=>⟨c,F,ρ,rel,ť.bind h fun r ρ1 v F1 H1 ě s1 q h1=>by
 refine⟨c,F1,ρ1,r,ě,q,?_⟩
 cases eg:g r ρ1 with
 |none=>rw[eg] at h1;exact h1.elim
 |some ρ2=>rw[eg] at h1;exact fun σ' bM=>h1 σ' F1 H1 bM (Same.refl _)⟩
def ZkE(i j:Nat)(mr:M (List PV)):M Fl:=fun ρ=>(mr ρ).bind fun ps ρ1=>match ps with
 | [p,q]=>.ok .nx ((ρ1.set i (.sh p)).set j (.sh q))
 |_=>.bad
def uh(i:Nat)(mi:M PV)(m:M PV):M Fl:=fun ρ=>(m ρ).bind fun p ρ1=>match ρ1[i]? with
 |some (.ow _)=>(mi ρ1).bind fun q ρ2=>match ρ2[i]?,q with
  |some (.ow ps),.int k=>match CK ps.length k with
   |some j=>.ok .nx (ρ2.set i (.ow (ps.set j p)))
   |none=>.bad
  |_,_=>.bad
 |_=>.bad
theorem Dl{i:Nat}{x:Str}{ix:Expr}{mi:M PV}{px Ae:Pos}(he:PE X e (tV (kk X cm) E mv))(hi:PE X ix (tV (kk X cm) E mi))(ho:PE X (.Name x px) (tU i))
 (hsub:∀v,assign (.Subscript (.Name x px) ix Ae) X.env v=(do
   let ov ←holding [v] (eval (.Name x px) X.env)
   let iv ←holding [v,ov] (eval ix X.env)
   standAt Ae
   holding [v,ov,iv] (setItem ov iv v)
   release [v,ov,iv] []):=by intro _;rfl)
 (hs:swapsWithSole [.Subscript (.Name x px) ix Ae] e pos.line X.env=pure false:=by rfl)(hw:swappedStores [.Subscript (.Name x px) ix Ae] e X.env=pure none:=by rfl)
 (h1:(assignEach [.Subscript (.Name x px) ix Ae] X.env).map (·.2)=[assign (.Subscript (.Name x px) ix Ae) X.env]:=by rfl) :
 PS X (.Assign [.Subscript (.Name x px) ix Ae] e pos) (tS (kk X cm) E (uh i mi mv)):=PS.wk (GK he (WM ho hi set_list hsub) hs hw h1) fun D σ H ⟨c,F,ρ,rel,h⟩=>⟨c,F,ρ,rel,ť.bind h fun p ρ1 v F1 H1 ě s1 q h1=>by
 cases e1:ρ1[i]? with
 |none=>rw[e1] at h1;exact h1.elim
 |some sl=>
  rw[e1] at h1
  cases sl with
  |ow ps0=>
   obtain⟨a,vs0,z1,_,_,_,_,_⟩:=ě.ow e1
   refine⟨.ref a,z1,c,F1,ρ1,ě,ť.bind h1 fun q' ρ2 u F2 H2 ŉ s2 r2 h2=>?_⟩
   cases e2:ρ2[i]? with
   |none=>rw[e2] at h2;exact h2.elim
   |some sl2=>
    rw[e2] at h2
    cases sl2 with
    |ow ps=>
     cases q' with
     |int k=>
      have eu:u=.int k:=by have:Rep (kk X cm) F2 (.int k) u:=r2;unfold Rep at this;exact this
      subst eu
      dsimp only at h2
      obtain⟨a2,vs,w1,w2,w3,w4,w5,w6⟩:=ŉ.ow e2
      rw[z1] at w1
      cases w1
      cases ej:CK ps.length k with
      |none=>rw[ej] at h2;exact h2.elim
      |some j=>
       rw[ej] at h2
       refine⟨a,vs,k,j,rfl,rfl,w2,by rw[←w5.length];exact ej,h2 σ F2 _ (ŉ.write w6 z1 ⟨a,vs.set j v,rfl,Ĩ,w3,w4,?_⟩ fun _ z=>(V.ref.inj z).symm) (Same.refl _)⟩
       exact Ğ.of (HS (Rep.same s2 p v q) j w5.pr)
     |_=>exact h2.elim
    |_=>exact h2.elim
  |_=>exact h1.elim⟩
def wL(i:Nat)(m:M PV):M Fl:=fun ρ=>match ρ[i]? with
 |some (.ow _)=>(m ρ).bind fun p ρ1=>match ρ1[i]? with
  |some (.ow ps)=>if ps.length<16777216 then .ok .nx (ρ1.set i (.ow (ps ++ [p]))) else .bad
  |_=>.bad
 |_=>.bad
theorem jE{i:Nat}{D:Ends}{σ:L2.St}{H:Hp}(h:tS (kk X cm) E (wL i mv) D σ H):GC (tBM X.K "list" CQ (tU i) (tL (kk X cm) E (ă mv Ě))) D σ H:=by
 obtain⟨c,F,ρ,rel,h⟩:=h
 unfold wL at h
 cases e1:ρ[i]? with
 |none=>rw[e1] at h;exact h.elim
 |some sl=>
  rw[e1] at h
  cases sl with
  |ow ps0=>
   obtain⟨a,vs0,z1,z2,z3,z4,z5,z6⟩:=rel.ow e1
   refine⟨.ref a,z1,.inl ⟨rfl,_,aF.of z2⟩,c,F,ρ,rel,?_⟩
   dsimp only at h
   unfold ă
   cases em:mv ρ with
   |bad=>rw[em] at h;exact h
   |exc x ρ1=>rw[em] at h;exact fun C d F' H' bM s1 q=>h σ C d F' H' bM s1 q
   |ok p ρ1=>
    rw[em] at h
    intro us F1 H1 ě s1 s2 r1
    have r1':Ğ (kk X cm) F1 [p] us:=r1
    cases r1'.pr with
    |cons rp t=>
     rename_i v vs'
     cases t
     cases e2:ρ1[i]? with
     |none=>simp only[Res.aQ,e2] at h;exact h.elim
     |some sl2=>
      simp only[Res.aQ,e2] at h
      cases sl2 with
      |ow ps=>
       obtain⟨a2,vs,w1,w2,w3,w4,w5,w6⟩:=ě.ow e2
       rw[z1] at w1
       cases w1
       dsimp only at h
       split at h
       ·rename_i hz
        refine⟨a,vs,v,rfl,rfl,w2,by rw[←w5.length,Ŋ];exact hz,h σ F1 _ (ě.write w6 z1 ⟨a,vs ++ [v],rfl,Ĩ,w3,w4,Ğ.append w5 (Ğ.cons rp Ğ.nil)⟩ fun _ z=>(V.ref.inj z).symm) s1⟩
       ·exact h.elim
      |_=>exact h.elim
  |_=>exact h.elim
def Ń(mc:M Bool)(mb:M Fl):Nat→Ŏ→Res Fl
 |0,_=>.bad
 |n+1,ρ=>(mc ρ).bind fun b ρ1=>if b=true then(mb ρ1).bind fun f ρ2=>match f with
  | .nx=>Ń mc mb n ρ2
  | .ct=>Ń mc mb n ρ2
  | .bk=>.ok .nx ρ2
  | .rt r=>.ok (.rt r) ρ2 else .ok .nx ρ1
theorem ż{mc:M Bool}{mb:M Fl}(n:Nat)(ρ:Ŏ):Ń mc mb (n+1) ρ=(mc ρ).bind fun b ρ1=>if b=true then(mb ρ1).bind fun f ρ2=>match f with
 | .nx=>Ń mc mb n ρ2
 | .ct=>Ń mc mb n ρ2
 | .bk=>.ok .nx ρ2
 | .rt r=>.ok (.rt r) ρ2 else .ok .nx ρ1:=rfl
open Classical in
noncomputable def Ž(mc:M Bool)(mb:M Fl):M Fl:=fun ρ=>if h:∃n,Ń mc mb n ρ≠ .bad then Ń mc mb (Classical.choose h) ρ else .bad
theorem gC{mc:M Bool}{mb:M Fl}:∀(n:Nat) (ρ:Ŏ),Ń mc mb n ρ≠ .bad→Ń mc mb (n+1) ρ=Ń mc mb n ρ
 |0,ρ,h=>absurd rfl h
 |n+1,ρ,h=>by
  rw[ż] at h
  rw[ż (n+1),ż n]
  cases e:mc ρ with
  |bad=>rfl
  |exc x ρ1=>rfl
  |ok b ρ1=>
   rw[e] at h
   simp only[Res.aQ] at h ⊢
   cases b with
   |false=>rfl
   |true=>
    simp only[if_true] at h ⊢
    cases e2:mb ρ1 with
    |bad=>rfl
    |exc x ρ2=>rfl
    |ok f ρ2=>
     rw[e2] at h
     simp only[Res.aQ] at h ⊢
     cases f with
     |nx=>exact gC n ρ2 h
     |ct=>exact gC n ρ2 h
     |bk=>rfl
     |rt r=>rfl
theorem qZ{mc:M Bool}{mb:M Fl}{n m:Nat}{ρ:Ŏ}(h:Ń mc mb n ρ≠ .bad)(hm:n≤m):Ń mc mb m ρ=Ń mc mb n ρ:= by
 induction hm with
 |refl=>rfl
 |step _ ih=>rw[gC _ _ (by rw[ih];exact h),ih]
theorem ao{mc:M Bool}{mb:M Fl}{ρ:Ŏ}(n:Nat)(h:Ń mc mb n ρ≠ .bad):Ž mc mb ρ=Ń mc mb n ρ:= by
 unfold Ž
 have hx:∃n,Ń mc mb n ρ≠ .bad:=⟨n,h⟩
 rw[dif_pos hx]
 have hc:=Classical.choose_spec hx
 rcases Nat.le_total n (Classical.choose hx) with hle|hle
 ·exact qZ h hle
 ·exact(qZ hc hle).symm
theorem gD{mc:M Bool}{mb:M Fl}{ρ:Ŏ}:Ž mc mb ρ=(mc ρ).bind fun b ρ1=>if b=true then(mb ρ1).bind fun f ρ2=>match f with
 | .nx=>Ž mc mb ρ2
 | .ct=>Ž mc mb ρ2
 | .bk=>.ok .nx ρ2
 | .rt r=>.ok (.rt r) ρ2 else .ok .nx ρ1:=by
 have go:∀ρ2,Ž mc mb ρ2=.bad∨∃n,Ž mc mb ρ2=Ń mc mb n ρ2∧Ń mc mb n ρ2≠ .bad:=fun ρ2=>by
  by_cases hx:∃n,Ń mc mb n ρ2≠ .bad
  ·obtain⟨n,h⟩:=hx
   exact .inr ⟨n,ao n h,h⟩
  ·left;unfold Ž;rw[dif_neg hx]
 have ZkF:∀ρ2,Ž mc mb ρ2=.bad→∀n,Ń mc mb n ρ2=.bad:=fun ρ2 h n=>by
  refine Classical.byContradiction fun z=>?_
  rw[ao n z] at h
  exact z h
 have fin:∀n,Ń mc mb (n+1) ρ≠ .bad→Ž mc mb ρ=Ń mc mb (n+1) ρ:= fun n h=>ao _ h
 cases e:mc ρ with
 |bad=>rcases go ρ with h|⟨n,h1,h2⟩
       ·rw[h];rfl
       ·cases n with
        |zero=>exact absurd rfl h2
        |succ n=>rw[ż,e] at h2;exact absurd rfl h2
 |exc x ρ1=>
  have h:Ń mc mb 1 ρ=.exc x ρ1:=by rw[ż,e];rfl
  rw[ao 1 (by rw[h];intro z;cases z),h];rfl
 |ok b ρ1=>
  simp only[Res.aQ]
  cases b with
  |false=>
   have h:Ń mc mb 1 ρ=.ok .nx ρ1:=by rw[ż,e];rfl
   rw[ao 1 (by rw[h];intro z;cases z),h];rfl
  |true=>
   simp only[if_true]
   have one:∀n,Ń mc mb (n+1) ρ=(mb ρ1).bind fun f ρ2=>match f with
    | .nx=>Ń mc mb n ρ2
    | .ct=>Ń mc mb n ρ2
    | .bk=>.ok .nx ρ2
    | .rt r=>.ok (.rt r) ρ2:=fun n=>by rw[ż,e];rfl
   cases e2:mb ρ1 with
   |bad=>
    rcases go ρ with h|⟨n,h1,h2⟩
    ·rw[h];rfl
    ·cases n with
     |zero=>exact absurd rfl h2
     |succ n=>rw[one,e2] at h2;exact absurd rfl h2
   |exc x ρ2=>
    have h:Ń mc mb 1 ρ=.exc x ρ2:=by rw[one,e2];rfl
    rw[ao 1 (by rw[h];intro z;cases z),h];rfl
   |ok f ρ2=>
    have turn:(∀n,Ń mc mb (n+1) ρ=Ń mc mb n ρ2)→Ž mc mb ρ=Ž mc mb ρ2:=fun hn=>by
     rcases go ρ2 with h|⟨n,h1,h2⟩
     ·rcases go ρ with h'|⟨n,h1,h2⟩
      ·rw[h,h']
      ·cases n with
       |zero=>exact absurd rfl h2
       |succ n=>rw[hn,ZkF ρ2 h n] at h2;exact absurd rfl h2
     ·rw[h1,←hn n]
      exact fin n (by rw[hn n];exact h2)
    cases f with
    |nx=>exact turn fun n=>by rw[one,e2];rfl
    |ct=>exact turn fun n=>by rw[one,e2];rfl
    |bk=>
     have h:Ń mc mb 1 ρ=.ok .nx ρ2:=by rw[one,e2];rfl
     rw[ao 1 (by rw[h];intro z;cases z),h];rfl
    |rt r=>
     have h:Ń mc mb 1 ρ=.ok (.rt r) ρ2:=by rw[one,e2];rfl
     rw[ao 1 (by rw[h];intro z;cases z),h];rfl
theorem RM{c:Expr}{body:List Stmt}{mc:M Bool}{mb:M Fl}(hp:PassesOwn (model X.prog X.w) X.A X.env X.xe)(hc:PT X c (tB (kk X cm) E mc))(hb:jc X body (tS (kk X cm) E mb)):PS X (.While c body [] pos) (tS (kk X cm) E (Ž mc mb)):=PS.wk (GP hp hc hb) fun D σ H ⟨c,F,ρ,rel,h⟩=>by
 obtain⟨n,hn⟩:∃n,ť (kk X cm) E c F D (Ń mc mb n ρ):=by
  by_cases hx:∃n,Ń mc mb n ρ≠ .bad
  ·obtain⟨n,hn⟩:=hx
   rw[ao n hn] at h
   exact⟨n,h⟩
  ·unfold Ž at h
   rw[dif_neg hx] at h
   exact h.elim
 refine⟨fun m σ' H'=>∃F2 ρ2,Rel (kk X cm) c F2 H' σ' ρ2∧Same F F2∧ť (kk X cm) E c F2 D (Ń mc mb m ρ2),⟨n,F,ρ,rel,Same.refl _,hn⟩,?_⟩
 rintro m σ1 H1 ⟨F1,ρ1,ě,s1,h1⟩
 cases m with
 |zero=>exact h1.elim
 |succ m=>
  rw[ż] at h1
  refine⟨c,F1,ρ1,ě,ť.bind h1 fun k ρ2 v F2 H2 ŉ s2 q h2=>?_⟩
  have e:k=v:=q
  subst e
  cases k with
  |false=>
   rw[if_neg Bool.false_ne_true]
   rw[if_neg Bool.false_ne_true] at h2
   exact h2 σ1 F2 H2 ŉ (Same.refl _)
  |true=>
   rw[if_pos rfl]
   rw[if_pos rfl] at h2
   refine⟨_,fun σ' H' z=>z,c,F2,ρ2,ŉ,?_⟩
   have nxt:∀{ρ3:Ŏ},ť (kk X cm) E c F2 D (Ń mc mb m ρ3)→∀σ' F' H',Rel (kk X cm) c F' H' σ' ρ3→Same F2 F'→∃m',m'<m+1∧∃F2 ρ2,Rel (kk X cm) c F2 H' σ' ρ2∧Same F F2∧ť (kk X cm) E c F2 D (Ń mc mb m' ρ2):=
    fun{ρ3} h3 σ' F' H' bM s'=>⟨m,Nat.lt_succ_self m,F',ρ3,bM,(s1.trans s2).trans s',ť.mono h3 s'⟩
   cases e2:mb ρ2 with
   |bad=>rw[e2] at h2;exact h2
   |exc x ρ3=>rw[e2] at h2;exact h2
   |ok f ρ3=>
    rw[e2] at h2
    cases f with
    |nx=>exact nxt h2
    |ct=>exact nxt h2
    |bk=>exact h2
    |rt r=>exact h2
def fW(K:KK)(Lh F:Hp)(J:It)(items:List PV):Prop:=∀(c:Ctx) (i:Nat) (F2 H:Hp) (σ:L2.St) (ρ:Ŏ),Rel K c F2 H σ ρ→Same F F2→Same Lh H→
 (∀p,items[i]?=some p→J.go i H∧∀x H',J.yld i H x H'→∃F3,Rel K c F3 H' σ ρ∧Same F2 F3∧Same H H'∧Rep K F3 p x)∧(i=items.length→J.stop i H)
def rIt(K:KK):RR (List PV) It:=fun c _ _ F _ items J=>fW K c.L F J items
abbrev tI(K:KK)(E:L2.St→XK)(m:M (List PV)):TI:=tG K E (rIt K) m
def forL(g:Tg)(mb:M Fl):List PV→M Fl
 | [],ρ=>.ok .nx ρ
 |p::ps,ρ=>match g p ρ with
  |none=>.bad
  |some ρ1=>(mb ρ1).bind fun f ρ2=>match f with
   | .nx=>forL g mb ps ρ2
   | .ct=>forL g mb ps ρ2
   | .bk=>.ok .nx ρ2
   | .rt r=>.ok (.rt r) ρ2
def fX(mi:M (List PV))(g:Tg)(mb:M Fl):M Fl:=fun ρ=>(mi ρ).bind fun items ρ1=>forL g mb items ρ1
theorem cI{iter tg:Expr}{body:List Stmt}{mi:M (List PV)}{g:Tg}{mb:M Fl}(hp:PassesOwn (model X.prog X.w) X.A X.env X.xe)(hc:X.calm=true)(hi:PI X tg iter (tI (kk X cm) E mi))(hg:PG X tg (tT (kk X cm) g))(hb:jc X body (tS (kk X cm) E mb))
 (hs:∀x,foldedSetIterable iter X.env x=pure x:=by intro _;rfl):PS X (.For tg iter body [] pos) (tS (kk X cm) E (fX mi g mb)):=PS.wk (WW hp hc hi hg hb hs) fun D σ H ⟨c,F,ρ,rel,h⟩=>⟨c,F,ρ,rel,ť.bind h fun items ρ1 J F1 H1 ě s1 ito h1=>by
 refine⟨fun i m σ' H'=>∃F2 ρ2,i≤items.length∧m=items.length-i∧Rel (kk X cm) c F2 H' σ' ρ2∧Same F1 F2∧ť (kk X cm) E c F2 D (forL g mb (items.drop i) ρ2),⟨_,F1,ρ1,Nat.zero_le _,rfl,ě,Same.refl _,h1⟩,?_⟩
 rintro i m σ2 H2 ⟨F2,ρ2,hle,rfl,ŉ,s2,h2⟩
 obtain⟨go,stop⟩:=ito c i F2 H2 σ2 ρ2 ŉ s2 fun b u e=>(ŉ.lent b u e).1
 by_cases hlt:i<items.length
 ·obtain⟨g1,g2⟩:=go items[i] (List.getElem?_eq_getElem hlt)
  rw[List.drop_eq_getElem_cons hlt] at h2
  unfold forL at h2
  refine .inr ⟨g1,_,fun σ' H' z=>z,fun x H3 hy=>?_⟩
  obtain⟨F3,jF,s3,_,rp⟩:=g2 x H3 hy
  refine⟨c,F3,ρ2,items[i],jF,rp,?_⟩
  cases eg:g items[i] ρ2 with
  |none=>rw[eg] at h2;exact h2.elim
  |some ρ3=>
   rw[eg] at h2
   dsimp only at h2
   intro σ4 wH
   refine⟨c,F3,ρ3,wH,?_⟩
   have nxt:∀{ρ4:Ŏ},ť (kk X cm) E c F2 D (forL g mb (items.drop (i+1)) ρ4)→∀σ' F' H',Rel (kk X cm) c F' H' σ' ρ4→Same F3 F'→∃m',m'<items.length-i∧∃F2 ρ2,i+1≤items.length∧m'=items.length-(i+1)∧Rel (kk X cm) c F2 H' σ' ρ2∧Same F1 F2∧ť (kk X cm) E c F2 D (forL g mb (items.drop (i+1)) ρ2):=
    fun{ρ4} h3 σ' F' H' bM s'=>⟨items.length-(i+1),by omega,F',ρ4,hlt,rfl,bM,(s2.trans s3).trans s',ť.mono h3 (s3.trans s')⟩
   have h2':=ť.mono h2 s3
   cases e2:mb ρ3 with
   |bad=>rw[e2] at h2;exact h2
   |exc x ρ4=>rw[e2] at h2';exact h2'
   |ok f ρ4=>
    rw[e2] at h2 h2'
    cases f with
    |nx=>exact nxt h2
    |ct=>exact nxt h2
    |bk=>exact h2'
    |rt r=>exact h2'
 ·have e:i=items.length:=by omega
  refine .inl ⟨stop e,?_⟩
  rw[List.drop_eq_nil_of_le (by omega)] at h2
  unfold forL at h2
  exact h2 σ2 F2 H2 ŉ (Same.refl _)⟩
end
end P
namespace P
open PySem PySem.Spec PyProof.Rows L2 M2 M3
inductive FR where
 |ret (r:RV)|exc (x:PX)|bad
abbrev MF:=List Slot→FR
def FR.of:Res Fl→FR
 | .ok (.rt r) _=>.ret r
 | .ok .nx _=>.ret (.sh .non)
 | .exc x _=>.exc x
 |_=>.bad
def ň(n k:Nat)(mb:M Fl):MF:=fun as=>if as.length=n then FR.of (mb (startP k as)) else .bad
def rF(K:KK)(H F' H':Hp):RV→V→Prop
 | .sh p,v=>Rep K F' p v
 | .ow ps,v=>∃a vs,v=.ref a∧H' a=some (.lst vs)∧F' a=none∧H a=none∧Ğ K F' ps vs
 | .ot ps qs,v=>∃p a xs vs,v=.ref p∧F' p=some (.tup (xs ++ [.ref a]))∧Ğ K F' ps xs∧H' a=some (.lst vs)∧F' a=none∧H a=none∧Ğ K F' qs vs
def ZkG(K:KK)(E:XK)(F H:Hp)(Q:VK):FR→Prop
 | .ret r=>∀v F' H',Gr F H F' H'→rF K H F' H' r v→Q v H'
 | .exc x=>∀C d F' H',Gr F H F' H'→Fo K F' x C d→E C d H'
 | .bad=>False
def ž(K:KK)(n:Nat)(mf:MF):Sp:=fun vs H Q E=>∃F as,as.length=n∧Same F H∧Paired (cH K F H) as vs∧ZkG K E F H Q (mf as)
def bI(CX:qt)(X:Cx)(E:L2.St→XK):Prop:=∀(pins:List (Addr×Obj)) (σ:L2.St) (H:Hp) (s:Shared) (e:Value) (s':Shared),Inv X pins σ H s→CX X.stack H s (E σ) e s'→X.xe e s'
section
variable{P:Program}{w:World}{K:PySem.W.Frag}{cm:String→Addr}{mg:Str→Option Value}{base:Heap}{CX:qt}
theorem fnP{x qual:Str}{st:Stmt}{f:Addr}{fd:FuncData}{N ps:List Str}{k:Nat}{mb:M Fl}(F:ź K x qual st f fd)(S:Ė N ps (ĉ st))
 (hbody:∀(cdv:Value) (A:Around) (outer:List Env) (s:Shared) (H:Hp) (E:XK),bx k (A.deeper (envOfC qual (ĉ st) s.heap.objs.size f cdv))→
   jc (bT CX P w K mg base N qual (ĉ st) f cdv A outer s H E) (bH st) (tS ⟨K,cm⟩ (fun _=>E) mb)):į P w K mg base CX (k+1) f fd ps (ž ⟨K,cm⟩ ps.length (ň ps.length N.length mb)):=by
 obtain⟨oc,od,kV,doc,pm,an,cdv,ct,osl,rfl,lk,hcd⟩:=F.ex
 refine Hg lk hcd S (fun vs H Q E ⟨F,ps',h1,_,h2,_⟩=>by rw[←Paired.length h2];exact h1) fun A outer s H vs Q E hr hsp=>?_
 obtain⟨F,ps',h1,h2,h3,h4⟩:=hsp
 refine⟨_,hbody cdv A outer s H E hr,ctx0 F H,F,startP N.length ps',Rel.start h2 h3,?_⟩
 unfold ň at h4
 rw[if_pos h1] at h4
 cases e:mb (startP N.length ps') with
 |bad=>rw[e] at h4;exact h4
 |exc x ρ'=>rw[e] at h4;exact fun σ' C d F' H' rel s1 q=>h4 C d F' H' rel.gr q
 |ok fl ρ'=>
  rw[e] at h4
  cases fl with
  |nx=>exact fun σ' F' H' rel s1=>h4 .non F' H' rel.gr (Rep.non (K:=⟨K,cm⟩) (F:=F'))
  |bk=>exact h4.elim
  |ct=>exact h4.elim
  |rt r=>
   intro v σ' F' H' rel s1 q
   refine h4 v F' H' rel.gr ?_
   cases r with
   |sh p=>exact q
   |ow qs=>
    obtain⟨a,vs',e1,e2,e3,e4,_,e5⟩:=q
    exact⟨a,vs',e1,e2,e3,e4,e5⟩
   |ot qs ts=>
    obtain⟨p,a,xs,vs',e1,e0,ex,e2,e3,e4,_,e5⟩:=q
    exact⟨p,a,xs,vs',e1,e0,ex,e2,e3,e4,e5⟩
theorem aO{x qual:Str}{st:Stmt}{f:Addr}{fd:FuncData}{N ps:List Str}{k n j:Nat}{mb:M Fl}{mf:MF}(F:ź K x qual st f fd)(S:Ė N ps (ĉ st))(hn:ps.length=n)(hj:N.length=j)(hf:mf=ň n j mb)
 (hbody:∀(cdv:Value) (A:Around) (outer:List Env) (s:Shared) (H:Hp) (E:XK),bx k (A.deeper (envOfC qual (ĉ st) s.heap.objs.size f cdv))→
   jc (bT CX P w K mg base N qual (ĉ st) f cdv A outer s H E) (bH st) (tS ⟨K,cm⟩ (fun _=>E) mb)):į P w K mg base CX (k+1) f fd ps (ž ⟨K,cm⟩ n mf):=by
 subst hn hj hf
 exact fnP F S hbody
end
def Đ(mf:MF)(mr:M (List Slot)):M RV:=fun ρ=>(mr ρ).bind fun ps ρ1=>match mf ps with
 | .ret r=>.ok r ρ1
 | .exc x=>.exc x ρ1
 | .bad=>.bad
section
variable{X:Cx}{cm:String→Addr}{E:L2.St→XK}{CX:qt}{k n:Nat}{f:Addr}{fd:FuncData}{ps:List Str}{mf:MF}{mr:M (List Slot)}{x:Str}{p pos:Pos}{e:Expr}{es:List Expr}
theorem Dm{sp:Sp}{pins:List (Addr×Obj)}{σ:L2.St}{H:Hp}{s:Shared}{Q:VK}{us:List Value}{vs:List V}(F:į X.prog X.w X.K X.mg X.base CX k f fd ps sp)(hr:bx k X.A)(hb:Binds X.K fd ps [])(hx:bI CX X E)
 (I:Inv X pins σ H s)(r:Vals vs us)(h:sp vs H Q (E σ)):wpAny (model X.prog X.w) X.A (call (.ref f) us) (EP X pins σ Q) X.xe s:=by
 have hl:(us ++ []).length=ps.length:=by rw[List.append_nil,←r.length];exact F.len _ _ _ _ h
 have hbd:=hb s us I.dZ hl
 rw[List.append_nil] at hbd
 refine wpAny_call (codeAny_mono (F.run X.A X.stack s H ⟨us,[]⟩ us vs Q (E σ) hr I.env0 hbd r h) fun r s' hq=>?_)
 cases r with
 |error e=>exact hx pins σ H s e s' I hq
 |ok fl=>
  cases fl with
  |ret u=>exact I.after hq
  |next=>exact False.elim hq
  |brk=>exact False.elim hq
  |cont=>exact False.elim hq
theorem wM{c:Ctx}{F1 H1:Hp}{σ:L2.St}{ρ1:Ŏ}{Q:VK}{ps:List Slot}{vs:List V}(hlen:(∃r,mf ps=r∧∀z,r=z→z≠ .bad)→ps.length=n)(ě:Rel (kk X cm) c F1 H1 σ ρ1)(r1:Paired (cH (kk X cm) F1 H1) ps vs)
 (h:bA (kk X cm) E (rO (kk X cm)) c F1 H1 σ Q (match mf ps with| .ret r=>.ok r ρ1| .exc x=>.exc x ρ1| .bad=>.bad)):ž (kk X cm) n mf vs H1 Q (E σ):=by
 refine⟨F1,ps,?_,ě.sub,r1,?_⟩
 ·refine hlen ⟨_,rfl,fun z hz hb=>?_⟩
  rw[hz,hb] at h
  exact h
 ·cases em:mf ps with
  |bad=>rw[em] at h;exact h
  |exc x=>rw[em] at h;exact fun C d F' H' g rx=>h C d F' H' (ě.call g) g.f rx
  |ret r=>
   rw[em] at h
   intro v F' H' g rf
   refine h v F' H' (ě.call g) g.f g.h ?_
   cases r with
   |sh p=>exact rf
   |ow qs=>
    obtain⟨a,vs',e1,e2,e3,e4,e5⟩:=rf
    exact⟨a,vs',e1,e2,e3,ě.base.free e4,ě.ud g.f (ě.fresh e4),e5⟩
   |ot qs ts=>
    obtain⟨p,a,xs,vs',e1,e0,ex,e2,e3,e4,e5⟩:=rf
    exact⟨p,a,xs,vs',e1,e0,ex,e2,e3,ě.base.free e4,ě.ud g.f (ě.fresh e4),e5⟩
theorem Ċ{n k:Nat}{mb:M Fl}{ps:List Slot}(h:∃r,ň n k mb ps=r∧∀z,r=z→z≠ .bad):ps.length=n:=by
 obtain⟨r,h1,h2⟩:=h
 unfold ň at h1
 by_cases hl:ps.length=n
 ·exact hl
 ·rw[if_neg hl] at h1
  exact absurd h1.symm (fun z=>h2 .bad (by rw[←h1]) rfl)
theorem ē(F:į X.prog X.w X.K X.mg X.base CX k f fd ps (ž (kk X cm) n mf))(hlen:∀{ps:List Slot},(∃r,mf ps=r∧∀z,r=z→z≠ .bad)→ps.length=n)(hr:bx k X.A)(hg:Gl X x)(hm:X.mg x=some (.ref f))(hk:PySem.W.keepIn X.K (.ref f)=true)(hb:Binds X.K fd ps [])(hx:bI CX X E)
 (ha:PA X (e::es) (tA (kk X cm) E mr))(hdb:(x== ("__debug__" :Str))=false:=by decide)(he:starEach (e::es) X.env=(false,eval e X.env)::starEach es X.env:=by exact ī rfl)(hpl:(backTo pos (starEach es X.env)).any (·.1)=false:=by rfl) :
 PE X (.Call (.Name x p) (e::es) [] pos) (tO (kk X cm) E (Đ mf mr)):=by
 intro pins s σ H Q I h
 obtain⟨c,F,ρ,rel,h⟩:=h
 refine wpAny_Call_Name_kw (gR I hg hm ?_ hdb)
 refine PySem.W.callWith_K (h₀:= X.base) I.ok.mod.kin hk (ŧ (ha pos pins s σ H (fun vs H1=>ž (kk X cm) n mf vs H1 Q (E σ)) I ⟨c,F,ρ,rel,h.bind fun ps' ρ1 vs F1 H1 ě _ _ r1 h1=>wM hlen ě r1 h1⟩) fun us s1 ⟨vs,H1,I1,r,q⟩=>⟨I1.dZ,?_⟩) he hpl
 exact Dm (by assumption) hr hb hx I1 r q
end
def ū(m:M PV):M (List PV):=fun ρ=>(m ρ).bind fun p ρ1=>match p with
 | .lst ps=>.ok ps ρ1
 | .tup ps=>.ok ps ρ1
 | .str z=>.ok (z.cps.toList.map fun c=>.str ⟨#[c]⟩) ρ1
 |_=>.bad
section
variable{X:Cx}{cm:String→Addr}{E:L2.St→XK}{tg:Expr}
def ZkH(K:PySem.W.Frag)(tl:TE):TI:=fun σ H R=>tl σ H fun x H1=>(∃a,x=.ref a∧(∃xs,aF K H1 a xs)∧R (WT K a) H1)∨(∃a,x=.ref a∧(∃xs,cZ K H1 a xs)∧R (Itt K a) H1)∨∃z,x=.str z∧R (Its z) H1
theorem H_{l:Expr}{tl:TE}(hl:PE X l tl):PI X tg l (ZkH X.K tl):=by
 intro pins s σ H R I h
 refine ŧ (hl pins s σ H _ I h) fun v s1 ⟨x,H1,I1,r1,q1⟩=>?_
 rcases q1 with⟨a,e,⟨xs,hq⟩,q⟩|⟨a,e,⟨xs,hq⟩,q⟩|⟨z,e,q⟩
 ·subst e
  cases r1
  obtain⟨its,rv,p,hz⟩:=I1.list hq
  refine wpAny_pyIter_list p.isList ?_
  refine⟨s1.heap.objs.size,[s1.heap.objs.size],_,_,H1,rfl,I1.kept (t':=s1.toks) fun b o e=>Heap.get?_push_of_some _ e,Es a _,⟨_,Heap.get?_push_size _ rfl,rfl,rfl⟩,fun b hb=>?_,q⟩
  have e:b=s1.heap.objs.size:=by simpa using hb
  subst e
  exact I1.Er (Nat.le_refl _) (I1.hok.fresh (Nat.le_refl _))
 ·subst e
  cases r1
  obtain⟨its,rv,p,hz⟩:=I1.tuple hq
  refine wpAny_pyIter_tuple (show s1.heap.IsTuple a its.toArray from p) ?_
  refine⟨s1.heap.objs.size,[s1.heap.objs.size],_,_,H1,rfl,I1.kept (t':=s1.toks) fun b o e=>Heap.get?_push_of_some _ e,zP a _,⟨_,Heap.get?_push_size _ rfl,rfl,rfl⟩,fun b hb=>?_,q⟩
  have e:b=s1.heap.objs.size:=by simpa using hb
  subst e
  exact I1.Er (Nat.le_refl _) (I1.hok.fresh (Nat.le_refl _))
 ·subst e
  obtain⟨t,rfl⟩:=r1
  have fin:∀ty,(∀A:Around,A.handled=none→Walks X.prog X.w A s1.heap.objs.size [s1.heap.objs.size] [s1.heap.objs.size] z.cps.size (SignAt z) (fun i h=>h.IsStrIter s1.heap.objs.size ty z t i))→
   (∀(A:Around) (i:Nat) (s:Shared) (Q:Value→Shared→Prop) (E:Value→Shared→Prop),s.heap.IsStrIter s1.heap.objs.size ty z t i→Q (.ref s1.heap.objs.size) s→wpAny (model X.prog X.w) A (pyIter (.ref s1.heap.objs.size)) Q E s)→
   (["enumerate","zip","dict_itemiterator","dict_reverseitemiterator","odict_iterator","itertools.zip_longest","itertools.pairwise"].contains ty=false)→
   PIE X pins σ tg R (.ref s1.heap.objs.size) {s1 with heap:=s1.heap.push {cls:=.type ty,data:=.fields #[.str z t,.int 0 0]}}:=fun ty hW hS hty=>by
   refine⟨s1.heap.objs.size,[s1.heap.objs.size],_,_,H1,rfl,I1.kept (t':=s1.toks) fun b o e=>Heap.get?_push_of_some _ e,Fj _ z t ty hW hS hty,⟨_,Heap.get?_push_size _ rfl,rfl,rfl⟩,fun b hb=>?_,q⟩
   have e:b=s1.heap.objs.size:=by simpa using hb
   subst e
   exact I1.Er (Nat.le_refl _) (I1.hok.fresh (Nat.le_refl _))
  cases ha:z.cps.all (·< 128) with
  |true=>exact wpAny_pyIter_ascii ha (fin _ (fun A hA=>Walks.strAscii hA _ z t) (fun A i s Q E st q=>wpAny_pyIter_striter_ascii st q) (by decide))
  |false=>exact wpAny_pyIter_wide ha (fin _ (fun A hA=>Walks.strWide hA _ z t) (fun A i s Q E st q=>wpAny_pyIter_striter_wide st q) (by decide))
theorem fL{l:Expr}{m:M PV}(hl:PE X l (tV (kk X cm) E m)):PI X tg l (tI (kk X cm) E (ū m)):=fun pins s σ H R I h=>H_ hl pins s σ H R I (by
 obtain⟨c,F,ρ,rel,h⟩:=h
 refine⟨c,F,ρ,rel,h.bind fun p ρ1 v F1 H1 ě s1 s2 q h1=>?_⟩
 cases p with
 |lst ps=>
  have q':Rep (kk X cm) F1 (.lst ps) v:=q
  unfold Rep at q'
  obtain⟨a,vs,rfl,e1,e2⟩:=q'
  refine .inl ⟨a,rfl,⟨vs,ě.sub.seq e1⟩,h1 _ F1 H1 ě (Same.refl _) (Same.refl _) ?_⟩
  intro c' i F2 H2 σ2 ρ2 ŉ sF _
  have hq:aF X.K H2 a vs:=(sF.trans ŉ.sub).seq e1
  refine⟨fun p hp=>?_,fun hi=>⟨vs,hq,by rw[hi,e2.length];exact Nat.le_refl _⟩⟩
  obtain⟨u,hu,ru⟩:=cG e2.pr hp
  refine⟨⟨vs,u,hq,hu⟩,fun x H' ⟨hH,hx⟩=>?_⟩
  subst hH
  have:vs[i]?=some x:=hx vs hq
  rw[hu] at this
  cases this
  exact⟨F2,ŉ,Same.refl _,Same.refl _,Rep.same sF p u ru⟩
 |tup ps=>
  have q':Rep (kk X cm) F1 (.tup ps) v:=q
  unfold Rep at q'
  obtain⟨a,vs,rfl,e1,e2⟩:=q'
  refine .inr (.inl ⟨a,rfl,⟨vs,Same.tup ě.sub e1⟩,h1 _ F1 H1 ě (Same.refl _) (Same.refl _) ?_⟩)
  intro c' i F2 H2 σ2 ρ2 ŉ sF _
  have hq:cZ X.K H2 a vs:=Same.tup (sF.trans ŉ.sub) e1
  refine⟨fun p hp=>?_,fun hi=>⟨vs,hq,by rw[hi,e2.length];exact Nat.le_refl _⟩⟩
  obtain⟨u,hu,ru⟩:=cG e2.pr hp
  refine⟨⟨vs,u,hq,hu⟩,fun x H' ⟨hH,hx⟩=>?_⟩
  subst hH
  have:vs[i]?=some x:=hx vs hq
  rw[hu] at this
  cases this
  exact⟨F2,ŉ,Same.refl _,Same.refl _,Rep.same sF p u ru⟩
 |str z=>
  have q':v=.str z:=by have q':Rep (kk X cm) F1 (.str z) v:=q;unfold Rep at q';exact q'
  subst q'
  refine .inr (.inr ⟨z,rfl,h1 _ F1 H1 ě (Same.refl _) (Same.refl _) ?_⟩)
  intro c' i F2 H2 σ2 ρ2 ŉ sF _
  refine⟨fun p hp=>?_,fun hi=>by rw[hi,List.length_map];show _=_;simp⟩
  rw[List.getElem?_map] at hp
  cases ez:z.cps.toList[i]? with
  |none=>rw[ez] at hp;cases hp
  |some cc=>
   rw[ez] at hp
   cases hp
   refine⟨by have:=(List.getElem?_eq_some_iff.mp ez).1;show i<z.cps.size;simpa using this,fun x H' ⟨hH,c2,hc,hx⟩=>?_⟩
   subst hH hx
   rw[ez] at hc
   cases hc
   exact⟨F2,ŉ,Same.refl _,Same.refl _,Rep.str⟩
 |_=>exact h1.elim)
def Ŵ(i:Nat):M (List PV):=fun ρ=>match ρ[i]? with
 |some (.bw ps)=>.ok ps ρ
 |some (.sh (.lst ps))=>.ok ps ρ
 |some (.sh (.tup ps))=>.ok ps ρ
 |some (.sh (.str z))=>.ok (z.cps.toList.map fun c=>.str ⟨#[c]⟩) ρ
 |some (.ow ps)=>.ok ps (ρ.set i (.sh (.lst ps)))
 |_=>.bad
theorem cJ(i:Nat){x:Str}{px:Pos}(hN:X.N[i]?=some x:=by rfl)(hv:Gu X.env.scope x:=by first|exact Or.inl rfl|exact Or.inr (Or.inl rfl)|exact Or.inr (Or.inr rfl))(hd:(x== ("__debug__" :Str))=false:=by decide)
 (hcd:(x== ("__classdict__" :Str))=false:=by decide):PI X tg (.Name x px) (tI (kk X cm) E (Ŵ i)):=fun pins s σ H R I h=>by
 obtain⟨c,F,ρ,rel,h⟩:=h
 cases e:ρ[i]? with
 |none=>unfold Ŵ at h;rw[e] at h;exact h.elim
 |some sl=>
  have RN:bA (kk X cm) E (rIt (kk X cm)) c F H σ R (ū (ğ i) ρ)→wpAny (model X.prog X.w) X.A (eval (.Name x px) X.env) (fun v s1=>wpAny (model X.prog X.w) X.A (pyIter v) (PIE X pins σ tg R) X.xe s1) X.xe s:=fun h'=>
   fL (v_var i hN hv hd hcd) pins s σ H R I ⟨c,F,ρ,rel,h'⟩
  unfold Ŵ at h
  rw[e] at h
  cases sl with
  |no=>exact h.elim
  |rc C ns ps=>exact h.elim
  |ot ps qs=>exact h.elim
  |ow ps=>exact RN (by unfold ū ğ;rw[e];exact h)
  |sh p=>
   cases p with
   |lst ps=>exact RN (by unfold ū ğ;rw[e];exact h)
   |tup ps=>exact RN (by unfold ū ğ;rw[e];exact h)
   |str z=>exact RN (by unfold ū ğ;rw[e];exact h)
   |_=>exact h.elim
  |bw ps=>
   obtain⟨a,vs,h1,h2,h3⟩:=rel.slot i _ e
   refine H_ (fZ hN hv hd hcd) pins s σ H R I ⟨.ref a,at_of h1,.inl ⟨a,rfl,⟨vs,aF.of (rel.lent a _ h2).1⟩,h _ F H rel (Same.refl _) (Same.refl _) ?_⟩⟩
   intro c' j F2 H2 σ2 ρ2 ŉ sF sL
   have hq:aF X.K H2 a vs:=aF.of (sL a _ h2)
   refine⟨fun p hp=>?_,fun hi=>⟨vs,hq,by rw[hi,h3.length];exact Nat.le_refl _⟩⟩
   obtain⟨u,hu,ru⟩:=cG h3.pr hp
   refine⟨⟨vs,u,hq,hu⟩,fun x H' ⟨hH,hx⟩=>?_⟩
   subst hH
   have:vs[j]?=some x:=hx vs hq
   rw[hu] at this
   cases this
   exact⟨F2,ŉ,Same.refl _,Same.refl _,Rep.same sF p u ru⟩
def dg(lo:Int)(n:Nat)(c:Int):List PV:=(List.range n).map fun(i:Nat)=>.int (lo+i*c)
def oJ(i:Int):Bool:=decide (i.natAbs<1152921504606846976)
def Ÿ:List PV→Option (List PV)
 | [.int j]=>if oJ j=true then some (dg 0 j.toNat 1) else none
 |_=>none
def Ű(f:List PV→Option (List PV))(mr:M (List PV)):M (List PV):=fun ρ=>(mr ρ).bind fun ps ρ1=>Res.mX (f ps) ρ1
theorem Af{lo c:Int}{n i:Nat}{p:PV}(h:(dg lo n c)[i]?=some p):i<n∧p=.int (lo+i*c):=by
 unfold dg at h
 by_cases hn:i<n
 ·rw[List.getElem?_map,List.getElem?_range hn] at h
  exact⟨hn,(Option.some.inj h).symm⟩
 ·rw[List.getElem?_eq_none (by simpa using hn)] at h
  cases h
theorem oK{lo c:Int}{n:Nat}:(dg lo n c).length=n:=by simp[dg]
theorem Yi{K:KK}{Lh F:Hp}(lo:Int)(n:Nat):fW K Lh F (Itr lo n) (dg lo n 1):=fun c i F2 H σ ρ rel sF _=>
 ⟨fun p hp=>by
   obtain⟨h1,rfl⟩:=Af hp
   refine⟨h1,fun x H' ⟨e1,e2⟩=>?_⟩
   subst e1 e2
   exact⟨F2,rel,Same.refl _,Same.refl _,by rw[Int.mul_one];exact Rep.int⟩,fun hi=>by rw[oK] at hi;subst hi;exact Nat.le_refl _⟩
theorem q_{i:Int}(h:oJ i=true): -(2 ^ 60)≤i∧i<2 ^ 60:=by
 unfold oJ at h
 rw[decide_eq_true_eq] at h
 omega
variable{a b d:Expr}{p pos:Pos}{mr:M (List PV)}
theorem um{K:KK}{F:Hp}{ps:List PV}{vs:List V}(h:Ğ K F ps vs):(∀i r,ps=.int i::r→∃r',vs=.int i::r'∧Ğ K F r r')∧(ps=[]→vs=[]):=by
 refine⟨fun i r e=>?_,fun e=>?_⟩
 ·subst e
  unfold Ğ at h
  obtain⟨x,r',h1,h2,h3⟩:=h
  unfold Rep at h2
  exact⟨r',by rw[h1,h2],h3⟩
 ·subst e
  unfold Ğ at h
  exact h
theorem ſ(hg:Gl X "range")(hm:X.mg "range" =none)(ha:PA X [a] (tL (kk X cm) E mr))(hs:starEach [a] X.env=[(false,eval a X.env)]:=by exact ī rfl):PI X tg (.Call (.Name "range" p) [a] [] pos) (tI (kk X cm) E (Ű Ÿ mr)):=
 fun pins s σ H R I h=>Eu hg hm ha hs pins s σ H R I (by
  obtain⟨c,F,ρ,rel,h⟩:=h
  refine⟨c,F,ρ,rel,h.bind fun ps ρ1 vs F1 H1 ě s1 s2 q h1=>?_⟩
  have q':Ğ (kk X cm) F1 ps vs:=q
  unfold Ÿ at h1
  split at h1
  ·rename_i j
   split at h1
   ·rename_i hj
    obtain⟨r',e1,e2⟩:=(um q').1 _ _ rfl
    cases(um e2).2 rfl
    obtain⟨k1,k2⟩:=q_ hj
    exact⟨j,e1,by omega,by omega,h1 _ F1 H1 ě (Same.refl _) (Same.refl _) (Yi 0 j.toNat)⟩
   ·exact h1.elim
  ·exact h1.elim)
end
def wN:Slot→Slot
 | .sh p=>.sh p
 | .ow ps=>.bw ps
 | .bw ps=>.bw ps
 |_=>.no
def wO(js:List Nat)(nl:Nat)(ρ:Ŏ):Ŏ:=js.map (fun(j:Nat)=>wN ((ρ[j]?).getD .no))++List.replicate nl .no
def Ō(g:Tg)(mt:M Bool)(me:M PV):List PV→Ŏ→List PV→Option (List PV)
 | [],_,acc=>some acc
 |p::ps,ρ,acc=>match g p ρ with
  |none=>none
  |some ρ1=>match mt ρ1 with
   | .ok true ρ2=>match me ρ2 with
     | .ok q ρ3=>if acc.length<16777216 then Ō g mt me ps ρ3 (acc ++ [q]) else none
     |_=>none
   | .ok false ρ2=>Ō g mt me ps ρ2 acc
   |_=>none
def ţ(js:List Nat)(nl:Nat)(mi:M (List PV))(g:Tg)(mt:M Bool)(me:M PV):M RV:=fun ρ=>(mi ρ).bind fun items ρ1=>match Ō g mt me items (wO js nl ρ1) [] with
 |some ps=>.ok (.ow ps) ρ1
 |none=>.bad
abbrev EF:L2.St→XK:=fun _ _ _ _=>False
def œ:M Bool:=fun ρ=>.ok true ρ
section
variable{K:KK}{c:Ctx}{F H:Hp}{σ:L2.St}{ρ:Ŏ}
def qF(F H H1:Hp):Ctx:=⟨H1,F,(ctx0 F H).L,fun _ _ _=>True⟩
theorem Rel.cap(js:List Nat)(nl:Nat)(rel:Rel K c F H σ ρ){D:Addr}{o:HO}(hD:H D=none):Rel K (qF F H (upd H D o)) F (upd H D o) (gw js nl σ) (wO js nl ρ) where
 sub:=rel.sub.trans (Same.upd hD)
 base:=Same.refl _
 f0:=Same.refl _
 dw:=fun _ _ z=>z
 lent:=fun a u e=>⟨Same.upd hD a u (gB e).1,(gB e).2⟩
 lb:=fun a e=>by
   cases q:(qF F H (upd H D o)).L a with
   |none=>rfl
   |some u=>
    have e':upd H D o a=none:=e
    rw[Same.upd hD a u (gB q).1] at e'
    cases e'
 len:=by simp[gw,wO]
 slot:= fun i s e=>by
  unfold wO at e
  by_cases hi:i<js.length
  ·rw[List.getElem?_append_left (by simpa using hi),List.getElem?_map] at e
   cases ej:js[i]? with
   |none=>rw[ej] at e;cases e
   |some j=>
    rw[ej] at e
    have e':wN ((ρ[j]?).getD .no)=s:=Option.some.inj e
    subst e'
    have hx:((gw js nl σ)[i]?).getD none=(σ[j]?).getD none:=by
     unfold gw
     rw[List.getElem?_append_left (by simpa using hi),List.getElem?_map,ej]
     rfl
    rw[hx]
    cases er:ρ[j]? with
    |none=>trivial
    |some sl=>
     have q:=rel.slot j sl er
     cases sl with
     |no=>trivial
     |sh p=>exact q
     |ow ps=>
      obtain⟨a,vs,h1,h2,h3,h4,h5⟩:=q
      refine⟨a,vs,h1,?_,h5⟩
      show(match F a with|none=>H a|some _=>none)=_
      rw[h3]
      exact h2
     |bw ps=>
      obtain⟨a,vs,h1,h2,h3⟩:=q
      obtain⟨l1,l2⟩:=rel.lent a _ h2
      refine⟨a,vs,h1,?_,h3⟩
      show(match F a with|none=>H a|some _=>none)=_
      rw[l2]
      exact l1
     |rc C ns ps=>trivial
     |ot ps qs=>trivial
  ·rw[List.getElem?_append_right (by simpa using hi),List.getElem?_replicate] at e
   split at e
   ·cases e;trivial
   ·cases e
 sep:=fun i j a h1 _=>by
  exfalso
  obtain⟨s,y,h1,_,h2⟩:=h1
  have h2:=eO h2
  unfold wO at h1
  by_cases hi:i<js.length
  ·rw[List.getElem?_append_left (by simpa using hi),List.getElem?_map] at h1
   cases ej:js[i]? with
   |none=>rw[ej] at h1;cases h1
   |some j=>
    rw[ej] at h1
    have e':wN ((ρ[j]?).getD .no)=s:=Option.some.inj h1
    subst e'
    cases q:(ρ[j]?).getD .no<;>rw[q] at h2<;>cases h2
  ·rw[List.getElem?_append_right (by simpa using hi),List.getElem?_replicate] at h1
   split at h1
   ·cases h1;cases h2
   ·cases h1
theorem Rel.rebase{H1 F1:Hp}{D:Addr}{ys zs:List V}(hD:H1 D=none)(hF:F1 D=none)(rel:Rel K (qF F1 H1 (upd H1 D (.lst ys))) F H σ ρ):Rel K (qF F1 H1 (upd H1 D (.lst zs))) F (upd H D (.lst zs)) σ ρ:= by
 have fD:F D=none:=rel.dw D (by show upd H1 D _ D≠none;rw[Ĩ];intro z;cases z) hF
 have lD:∀b u,(qF F1 H1 (upd H1 D (.lst ys))).L b=some u→b≠D:=fun b u e z=>by
  have q:=(gB (F:=F1) (H:=H1) (a:=b) (u:=u) e).1
  rw[z,hD] at q
  cases q
 have ne:∀b,(qF F1 H1 (upd H1 D (.lst ys))).B b=none→b≠D:=fun b z q=>by
  subst q
  have z':upd H1 b (.lst ys) b=none:=z
  rw[Ĩ] at z';cases z'
 have back:∀b,b≠D→(qF F1 H1 (upd H1 D (.lst ys))).B b=none→(qF F1 H1 (upd H1 D (.lst zs))).B b=none:=fun b hb z=>by
  have z':upd H1 D (.lst ys) b=none:=z
  show upd H1 D (.lst zs) b=none
  rw[Ĝ hb] at z' ⊢;exact z'
 refine⟨fun b u e=>?_,fun b u e=>?_,rel.f0,fun b h1 h2=>?_,fun b u e=>?_,fun b e=>?_,rel.len,fun i s e=>?_,rel.sep⟩
 ·have hb:b≠D:=fun z=>by rw[z,fD] at e;cases e
  rw[Ĝ hb];exact rel.sub b u e
 ·by_cases hb:b=D
  ·subst hb
   have e':upd H1 b (.lst zs) b=some u:=e
   rw[Ĩ] at e' ⊢;exact e'
  ·have e':upd H1 D (.lst zs) b=some u:=e
   rw[Ĝ hb] at e' ⊢
   exact rel.base b u (by show upd H1 D _ b=some u;rw[Ĝ hb];exact e')
 ·refine rel.dw b (fun z=>h1 ?_) h2
  exact back b (ne b z) z
 ·rw[Ĝ (lD b u e)]
  exact rel.lent b u e
 ·refine rel.lb b ?_
  have z':upd H1 D (.lst zs) b=none:=e
  have hb:b≠D:=fun q=>by rw[q,Ĩ] at z';cases z'
  show upd H1 D (.lst ys) b=none
  rw[Ĝ hb] at z' ⊢;exact z'
 ·have q:=rel.slot i s e
  cases s with
  |no=>trivial
  |sh p=>exact q
  |bw ps=>exact q
  |ow ps=>
   obtain⟨a,vs,q1,q2,q3,q4,q5⟩:=q
   have hb:=ne a q4
   exact⟨a,vs,q1,by rw[Ĝ hb];exact q2,q3,back a hb q4,q5⟩
  |rc C ns ps=>
   obtain⟨a,dx,fs,q1,q2,q3,q4,q5⟩:=q
   have hb:=ne a q4
   exact⟨a,dx,fs,q1,by rw[Ĝ hb];exact q2,q3,back a hb q4,q5⟩
  |ot ps qs=>
   obtain⟨p,a,xs,vs,q1,q0,qx,q2,q3,q4,q5⟩:=q
   have hb:=ne a q4
   exact⟨p,a,xs,vs,q1,q0,qx,by rw[Ĝ hb];exact q2,q3,back a hb q4,q5⟩
end
section
variable{X:Cx}{cm:String→Addr}{E:L2.St→XK}{elt tg iter:Expr}{ifs:List Expr}{scope:Scope}{pos:Pos}{mi:M (List PV)}{g:Tg}{mt:M Bool}{me:M PV}
theorem Ŭ:Um X [] (tB (kk X cm) E œ):=fun pins s σ H Q I h=>Rr pins s σ H Q I (by
 obtain⟨c,F,ρ,rel,h⟩:=h
 exact h true F H rel (Same.refl _) (Same.refl _) rfl)
theorem Yj{a:Expr}(h:PT X a (tB (kk X cm) E mt)):Um X [a] (tB (kk X cm) E mt):=Rt h
theorem wQ{js:List Nat}{nl:Nat}{σ:L2.St}{H:Hp}{Q:VK}(h:tO (kk X cm) E (ţ js nl mi g mt me) σ H Q):Hw js nl (tI (kk X cm) E mi) (tT (kk X cm) g) (tB (kk X cm) EF mt) (tV (kk X cm) EF me) σ H Q:=by
 obtain⟨c,F,ρ,rel,h⟩:=h
 refine⟨c,F,ρ,rel,h.bind fun items ρ1 J F1 H1 ě s1 s2 ito h1=>?_⟩
 intro D hD
 have hF:F1 D=none:=ě.sub.free hD
 cases ec:Ō g mt me items (wO js nl ρ1) [] with
 |none=>rw[ec] at h1;exact h1.elim
 |some res=>
  rw[ec] at h1
  refine⟨fun i m σ' H'=>∃F' ρ' ys acc,i≤items.length∧m=items.length-i∧Rel (kk X cm) (qF F1 H1 (upd H1 D (.lst ys))) F' H' σ' ρ'∧Ğ (kk X cm) F' acc ys∧Ō g mt me (items.drop i) ρ' acc=some res,
   ⟨_,F1,_,[],[],Nat.zero_le _,rfl,?_,Ğ.nil,ec⟩,?_⟩
  ·exact ě.cap js nl hD
  ·rintro i m σ2 H2 ⟨F2,ρ2,ys,acc,hle,rfl,ŉ,ra,h2⟩
   have s12:Same F1 F2:=ŉ.f0
   have Zc9:∀{b:Addr} {u:HO},c.L b=some u→(qF F1 H1 (upd H1 D (.lst ys))).L b=some u:=fun{b u} e=>by
    obtain⟨l1,l2⟩:=ě.lent b u e
    show(match F1 b with|none=>H1 b|some _=>none)=some u
    rw[l2]
    exact l1
   obtain⟨go,stop⟩:=ito _ i F2 H2 σ2 ρ2 ŉ s12 fun b u e=>(ŉ.lent b u (Zc9 e)).1
   have hH2:H2 D=some (.lst ys):=ŉ.base D _ (show upd H1 D _ D=_ from Ĩ)
   have fD:F2 D=none:=ŉ.dw D (by show upd H1 D _ D≠none;rw[Ĩ];intro z;cases z) hF
   by_cases hlt:i<items.length
   ·obtain⟨g1,g2⟩:=go items[i] (List.getElem?_eq_getElem hlt)
    rw[List.drop_eq_getElem_cons hlt] at h2
    unfold Ō at h2
    refine .inr ⟨g1,_,fun σ' H' z=>z,fun x H3 hy=>?_⟩
    obtain⟨F3,jF,s3,sH3,rp⟩:=g2 x H3 hy
    refine⟨_,F3,ρ2,items[i],jF,rp,?_⟩
    cases eg:g items[i] ρ2 with
    |none=>rw[eg] at h2;cases h2
    |some ρ3=>
     rw[eg] at h2
     dsimp only at h2
     intro σ4 wH
     refine⟨_,F3,ρ3,wH,?_⟩
     cases em:mt ρ3 with
     |bad=>rw[em] at h2;cases h2
     |exc x ρ4=>rw[em] at h2;cases h2
     |ok b ρ4=>
      rw[em] at h2
      intro b' F5 H5 Zc_ s5 Us eb
      have eb':b=b':=eb
      subst eb'
      cases b with
      |false=>
       rw[if_neg Bool.false_ne_true]
       dsimp only at h2
       exact⟨items.length-(i+1),by omega,F5,ρ4,ys,acc,hlt,rfl,Zc_,Ğ.same (s3.trans s5) acc ys ra,h2⟩
      |true=>
       rw[if_pos rfl]
       dsimp only at h2
       refine⟨_,F5,ρ4,Zc_,?_⟩
       cases ee:me ρ4 with
       |bad=>rw[ee] at h2;cases h2
       |exc x ρ5=>rw[ee] at h2;cases h2
       |ok q ρ5=>
        rw[ee] at h2
        dsimp only at h2
        intro y F6 H6 Zda s6 s6' rq
        split at h2
        ·rename_i hz
         have ra6:=Ğ.same ((s3.trans s5).trans s6) acc ys ra
         refine⟨ys,Zda.base D _ (show upd H1 D _ D=_ from Ĩ),by rw[←ra6.length,Ŋ];exact hz,?_⟩
         exact⟨items.length-(i+1),by omega,F6,ρ5,ys ++ [y],acc ++ [q],hlt,rfl,Zda.rebase hD hF,Ğ.append ra6 (Ğ.cons rq Ğ.nil),h2⟩
        ·cases h2
   ·have e:i=items.length:=by omega
    refine .inl ⟨stop e,?_⟩
    rw[List.drop_eq_nil_of_le (by omega)] at h2
    unfold Ō at h2
    cases h2
    have gr:Gr F1 H1 F2 H2:=⟨fun b u e=>ŉ.base b u (by show upd H1 D _ b=_;rw[Ĝ (ĩ e hD)];exact e),s12,ŉ.sub,fun b hb hf=>ŉ.dw b (by
     show upd H1 D _ b≠none
     by_cases hbD:b=D
     ·rw[hbD,Ĩ];intro z;cases z
     ·rw[Ĝ hbD];exact hb) hf⟩
    have ZkI:=ě.call gr
    exact h1 _ F2 H2 ZkI s12 gr.h ⟨D,ys,rfl,hH2,fD,ě.base.free hD,ě.ud gr.f (ě.fresh hD),ra⟩
theorem aJ(N':List Str)(js:List Nat)(nl:Nat)(sc:Scope)(hsc:X.env.scope=sc)(hcalm:X.calm=true)
 (hi:PI X.au tg iter (tI (kk X cm) E mi))(hg:∀cl C s H fp,PG (gW X.au N' scope cl C s H fp) tg (tT (kk X cm) g))(ht:∀cl C s H fp,Um (gW X.au N' scope cl C s H fp) ifs (tB (kk X cm) EF mt))(he:∀cl C s H fp,PE (gW X.au N' scope cl C s H fp) elt (tV (kk X cm) EF me))
 (hcap:oA X.au sc scope N' js)(hlen:js.length+nl=N'.length:=by rfl)
 (hk:scope.kind=.function:=by rfl)(hcell:∀y∈scope.names,y.2=.cell→scope.names.lookup y.1=some .cell:=by decide +kernel)(hnames:∀y∈scope.names,y.2=.local→scope.names.lookup y.1=some .local:=by decide +kernel)
 (hfree:∀y∈scope.names,y.2=.free→(sc.names.lookup y.1=some .cell∨sc.names.lookup y.1=some .free):=by decide +kernel)
 (hs:∀x,foldedSetIterable iter X.env x=pure x:=by intro _;rfl) :
 PE X (.ListComp elt [⟨tg,iter,ifs,0⟩] scope pos) (tO (kk X cm) E (ţ js nl mi g mt me)):=
 PE.wk (PE.au (Ru N' js nl sc hsc hcalm hi hg ht he hcap hlen hk hcell hnames hfree hs)) fun _ _ _ h=>wQ h
end
end P
namespace P
open PySem PySem.Spec PyProof.Rows L2 M2 M3 M4
abbrev bits(x:Int):Nat:=Builtin.Int.intBits x
section
variable{X:Cx}{cm:String→Addr}{K:KK}
def Ut(K:PySem.W.Frag):R2:=fun x y H Q=>∃l b xs zs,x=.ref l∧y=.ref b∧aF K H l xs∧aF K H b zs∧xs.length+zs.length≤sizeLine∧∀p,H p=none→Q (.ref p) (upd H p (.lst (xs++zs)))
theorem RP:bh X (binaryOp .Add) (Ut X.K):=by
 intro pins s σ H x y v u Q I rx ry h
 obtain⟨l,b,xs,zs,rfl,rfl,hH,hB,hz,q⟩:=h
 cases rx
 cases ry
 obtain⟨its,r,pl,z⟩:=I.list hH
 obtain⟨its2,r2,pl2,z2⟩:=I.list hB
 obtain⟨⟨c1,d1,t1,sl1⟩,n,e,hc,hd,hs⟩:=pl
 obtain⟨⟨c2,d2,t2,sl2⟩,n2,e2,hc2,hd2,hs2⟩:=pl2
 simp only at hc hd hs hc2 hd2 hs2
 subst hc hd hs hc2 hd2 hs2
 have hl:=r.length
 have hl2:=r2.length
 have ea:its.toArray++its2.toArray=(its++its2).toArray:=by simp
 refine concat_meets ⟨_,e,rfl⟩ ⟨_,e2,rfl⟩ noFill_list_add seq_list_add PySem.F.slot_list_add PySem.F.entry_list_add (PySem.F.args_list_add_2 _ _) (list_addW l b its.toArray its2.toArray n n2 none none sl1 sl2 (by simp only[List.size_toArray];omega)) ⟨e,e2,?_⟩
 rw[ea]
 exact⟨.ref _,_,I.Zkw (t':=s.toks) (r.append r2) (by rw[List.length_append];omega),rfl,q _ I.fresh⟩
def Uu(K:PySem.W.Frag):R2:=fun x y H Q=>∃l b xs zs,x=.ref l∧y=.ref b∧cZ K H l xs∧cZ K H b zs∧xs≠[]∧zs≠[]∧xs.length+zs.length≤sizeLine∧∀p,H p=none→Q (.ref p) (upd H p (.tup (xs++zs)))
theorem RQ:bh X (binaryOp .Add) (Uu X.K):=by
 intro pins s σ H x y v u Q I rx ry h
 obtain⟨l,b,xs,zs,rfl,rfl,hH,hB,nx,nz,hz,q⟩:=h
 cases rx
 cases ry
 obtain⟨its,r,pl,z⟩:=I.tuple hH
 obtain⟨its2,r2,pl2,z2⟩:=I.tuple hB
 obtain⟨⟨c1,d1,t1,sl1⟩,e,hc,n,hd⟩:=pl
 obtain⟨⟨c2,d2,t2,sl2⟩,e2,hc2,n2,hd2⟩:=pl2
 simp only at hc hd hc2 hd2
 subst hc hd hc2 hd2
 have hl:=r.length
 have hl2:=r2.length
 have ne1:its≠[]:=fun z=>by rw[z] at hl;exact nx (List.length_eq_zero_iff.mp hl)
 have ne2:its2≠[]:=fun z=>by rw[z] at hl2;exact nz (List.length_eq_zero_iff.mp hl2)
 have ea:its.toArray++its2.toArray=(its++its2).toArray:=by simp
 refine concat_meets ⟨_,e,rfl⟩ ⟨_,e2,rfl⟩ noFill_tuple_add seq_tuple_add PySem.F.slot_tuple_add PySem.F.entry_tuple_add (PySem.F.args_tuple_add_2 _ _) (tuple_addW2 l b its.toArray its2.toArray n n2 d1 d2 sl1 sl2 (by simpa using ne1) (by simpa using ne2) (by simp only[List.size_toArray];omega)) ⟨e,e2,?_⟩
 rw[ea]
 exact⟨.ref _,_,I.laid (o:=.tup (xs++zs)) (t':=s.toks) (fun _ _ q=>Heap.get?_push_of_some _ q) (Nat.le_refl _) ⟨by rw[List.length_append];omega,(its++its2),r.append r2,⟨_,Heap.get?_push_size _ rfl,rfl,_,rfl⟩⟩,rfl,q _ I.fresh⟩
def ı:PV→PV→Option RV
 | .int i,.int j=>some (.sh (.int (i+j)))
 | .str i,.str j=>if i.length+j.length≤16777216 then some (.sh (.str (i++j))) else none
 | .lst ps,.lst qs=>if ps.length+qs.length≤16777216 then some (.ow (ps++qs)) else none
 | .tup (p::ps),.tup (q::qs)=>if(p::ps).length+(q::qs).length≤16777216 then some (.sh (.tup ((p::ps)++(q::qs)))) else none
 |_,_=>none
def Uv(K:PySem.W.Frag):R2:=fun x y H Q=>ZcU x y H Q∨(Ut K x y H Q∨Uu K x y H Q)
theorem Ĭ:bh X (binaryOp .Add) (Uv X.K):=XD.or (RP.or RQ)
theorem ĭ:OpO K (Uv K.K) ı:=by
 intro c F H σ ρ p q pv v u Q rel r1 r2 e k
 unfold ı at e
 split at e
 ·cases e
  cases r1.int
  cases r2.int
  exact .inl (k _ F H rel (Same.refl _) (Same.refl _) (Rep.int (K:=K) (F:=F)))
 ·split at e
  ·rename_i hz
   cases e
   cases r1.str
   cases r2.str
   exact .inl ⟨by rw[Ŋ];exact hz,k _ F H rel (Same.refl _) (Same.refl _) (Rep.str (K:=K) (F:=F))⟩
  ·cases e
 ·split at e
  ·rename_i hz
   cases e
   obtain⟨a,xs,rfl,h1,h2⟩:=r1.lst rel.sub
   obtain⟨b,ys,rfl,h3,h4⟩:=r2.lst rel.sub
   refine .inr (.inl ⟨a,b,xs,ys,rfl,rfl,h1,h3,by rw[←h2.length,←h4.length,Ŋ];exact hz,fun d hd=>?_⟩)
   obtain⟨q1,q2⟩:=dG rel hd (Ğ.append h2 h4)
   exact k _ F _ q1 (Same.refl _) (Same.upd hd) q2
  ·cases e
 ·split at e
  ·rename_i hz
   cases e
   obtain⟨a,xs,rfl,h1,h2⟩:=r1.tup rel.sub
   obtain⟨b,ys,rfl,h3,h4⟩:=r2.tup rel.sub
   have l1:=h2.length
   have l2:=h4.length
   refine .inr (.inr ⟨a,b,xs,ys,rfl,rfl,h1,h3,(fun z=>by rw[z] at l1;cases l1),(fun z=>by rw[z] at l2;cases l2),by rw[←l1,←l2,Ŋ];exact hz,fun l hl=>k _ _ _ (rel.alloc hl) (Same.upd (rel.sub.free hl)) (Same.upd hl) ?_⟩)
   show Rep K _ _ _
   unfold Rep
   exact⟨l,xs++ys,rfl,cZ.of Ĩ,Ğ.same (Same.upd (rel.sub.free hl)) _ _ (Ğ.append h2 h4)⟩
  ·cases e
 ·cases e
def Ey(g:Int→Int→Int):PV→PV→Option PV
 | .int i,.int j=>some (.int (g i j))
 |_,_=>none
def Gv(C:Int→Int→Bool)(g:Int→Int→Int):PV→PV→Option PV
 | .int i,.int j=>if C i j=true then some (.int (g i j)) else none
 |_,_=>none
def opC(g:Int→Int→Bool):PV→PV→Option PV
 | .int i,.int j=>some (.bl (g i j))
 |_,_=>none
theorem Zdb{g:Int→Int→Int}:lX K (Fg fun i j=>.int (g i j)) (Ey g):=by
 intro c F H σ ρ p q pv v u Q rel r1 r2 e k
 unfold Ey at e
 split at e
 ·cases e
  cases r1.int
  cases r2.int
  exact k _ F H rel (Same.refl _) (Same.refl _) Rep.int
 ·cases e
theorem RT{g:Int→Int→Bool}:lX K (Fg fun i j=>.bl (g i j)) (opC g):=by
 intro c F H σ ρ p q pv v u Q rel r1 r2 e k
 unfold opC at e
 split at e
 ·cases e
  cases r1.int
  cases r2.int
  exact k _ F H rel (Same.refl _) (Same.refl _) Rep.bl
 ·cases e
theorem Yk{C:Int→Int→Bool}{C':Int→Int→Prop}{g:Int→Int→Int}(hC:∀i j,C i j=true→C' i j):lX K (mI C' fun i j=>.int (g i j)) (Gv C g):=by
 intro c F H σ ρ p q pv v u Q rel r1 r2 e k
 unfold Gv at e
 split at e
 ·split at e
  ·rename_i hc
   cases e
   cases r1.int
   cases r2.int
   exact⟨hC _ _ hc,k _ F H rel (Same.refl _) (Same.refl _) Rep.int⟩
  ·cases e
 ·cases e
def ŗ:=Ey fun i j=>i-j
theorem Ő:lX K (Fg fun i j=>.int (i-j)) ŗ:=Zdb
def jG(_ j:Int):Bool:=decide (j≠0) && decide (bits j≤8000)
def Ź:=Gv jG fun i j=>i.fdiv j
theorem Ŧ:lX K (mI Fi fun i j=>.int (i.fdiv j)) Ź:=Yk fun i j h=>by unfold jG at h;simpa[Fi] using h
def Dp(_ j:Int):Bool:=decide (j≠0)
def ń:=Gv Dp fun i j=>i.fmod j
theorem ļ:lX K (mI (fun _ j=>j≠0) fun i j=>.int (i.fmod j)) ń:=Yk fun i j h=>by unfold Dp at h;simpa using h
def oM(i j:Int):Bool:=decide (0≤j) && decide (j.natAbs≤1000000) && decide (i.natAbs<18446744073709551616)
def iz:=Gv oM fun i j=>i ^ j.toNat
theorem ji:lX K (mI W_ fun i j=>.int (i ^ j.toNat)) iz:=Yk fun i j h=>by
 unfold oM at h
 simp only[Bool.and_eq_true,decide_eq_true_eq] at h
 exact⟨h.1.1,by omega,by have:=h.2;simpa using this⟩
def Uw(i j:Int):Bool:=decide (0≤j) && decide (j.natAbs≤1000000) && decide (i.natAbs<18446744073709551616)
def Zdc:=Gv Uw fun i j=>i*2 ^ j.toNat
def Ux(_ j:Int):Bool:=decide (0≤j)
def Zdd:=Gv Ux fun i j=>i / 2 ^ j.toNat
def uo:=opC fun i j=>decide (i<j)
def mY:=opC fun i j=>decide (i≤j)
def Yl:=opC fun i j=>decide (j<i)
def Ia:=opC fun i j=>decide (j≤i)
theorem oN:lX K (Fg fun i j=>.bl (decide (i<j))) uo:=RT
theorem iB:lX K (Fg fun i j=>.bl (decide (i≤j))) mY:=RT
theorem Zde:lX K (Fg fun i j=>.bl (decide (j<i))) Yl:=RT
theorem Zdf:lX K (Fg fun i j=>.bl (decide (j≤i))) Ia:=RT
def ŭ(i j:Int):Bool:=decide (i.natAbs<18446744073709551616) || decide (j.natAbs<18446744073709551616) || (decide (bits i≤1048576) && decide (bits j≤1048576))
theorem Ib{i j:Int}(h:ŭ i j=true):qU i j:=by
 unfold ŭ at h
 simp only[Bool.or_eq_true,Bool.and_eq_true,decide_eq_true_eq] at h
 rcases h with(h|h)|h
 ·exact .inl (.inl ⟨by omega,by omega⟩)
 ·exact .inl (.inr ⟨by omega,by omega⟩)
 ·exact .inr h
def Ľ:PV→PV→Option PV
 | .int i,.int j=>if ŭ i j=true then some (.int (i*j)) else none
 | .str z,.int n=>if 0≤n∧n≤1000∧z.length≤1000 then some (.str (S (List.replicate n.toNat z.cps.toList).flatten)) else none
 |_,_=>none
theorem Ň:lX K HF Ľ:=by
 intro c F H σ ρ p q pv v u Q rel r1 r2 e k
 unfold Ľ at e
 split at e
 ·split at e
  ·rename_i hc
   cases e
   cases r1.int
   cases r2.int
   exact⟨Ib hc,k _ F H rel (Same.refl _) (Same.refl _) Rep.int⟩
  ·cases e
 ·split at e
  ·rename_i hc
   cases e
   cases r1.str
   cases r2.int
   exact⟨hc,k _ F H rel (Same.refl _) (Same.refl _) Rep.str⟩
  ·cases e
 ·cases e
def Zdg(mr:M (List PV))(mk:M PV):M RV:=fun ρ=>(mr ρ).bind fun ps ρ1=>if ps.length≤16777216 then(mk ρ1).bind fun q ρ2=>match q with
 | .int k=>if -(2 ^ 60)≤k∧k<2 ^ 60∧ps.length*k.toNat≤16777216 then .ok (.ow (List.replicate k.toNat ps).flatten) ρ2 else .bad
 |_=>.bad else .bad
variable{E:L2.St→XK}{a b e:Expr}{es:List Expr}{pos:Pos}{ma mb:M PV}{mr:M (List PV)}
def jH:PV→Option PV
 | .int i=>some (.int (-i))
 |_=>none
theorem kZ:UnV K (mU fun i=>.int (-i)) jH:=by
 intro c F H σ ρ p pv v Q rel r1 e k
 unfold jH at e
 split at e
 ·cases e
  cases r1.int
  exact k _ F H rel (Same.refl _) (Same.refl _) Rep.int
 ·cases e
mutual
def eqB:PV→PV→Bool
 | .non,.non=>true
 | .bl a,.bl b=>a== b
 | .bl a,.int j=>(if a then 1 else 0)== j
 | .int i,.bl b=>i== (if b then 1 else 0)
 | .int i,.int j=>i== j
 | .str x,.str y=>x== y
 | .lst xs,.lst ys=>eU xs ys
 | .tup xs,.tup ys=>eU xs ys
 |_,_=>false
def eU:List PV→List PV→Bool
 | [],[]=>true
 |x::xs,y::ys=>eqB x y && eU xs ys
 |_,_=>false
end
mutual
def aB:PV→Bool
 | .non| .bl _| .int _=>true
 | .str x=>PyData.strOk x
 | .lst xs=>aC xs
 | .tup xs=>aC xs
 |_=>false
def aC:List PV→Bool
 | []=>true
 |x::xs=>aB x && aC xs
end
mutual
def dep:PV→Nat
 | .lst xs=>eV xs+1
 | .tup xs=>eV xs+1
 |_=>0
def eV:List PV→Nat
 | []=>0
 |x::xs=>max (dep x) (eV xs)
end
mutual
def toD:PV→PyData
 | .non=>.none
 | .bl b=>.bool b
 | .int i=>.int i
 | .str x=>.str x
 | .lst xs=>.list (dH xs)
 | .tup xs=>.tuple (dH xs)
 |_=>.none
def dH:List PV→List PyData
 | []=>[]
 |x::xs=>toD x::dH xs
end
mutual
theorem eX:∀p:PV,aB p=true→(toD p).canLay0=true
 | .non,_=>rfl
 | .bl _,_=>rfl
 | .int _,_=>rfl
 | .str x,h=>by unfold aB at h;unfold toD PyData.canLay0;exact h
 | .lst xs,h=>by unfold aB at h;unfold toD PyData.canLay0;exact gF xs h
 | .tup xs,h=>by unfold aB at h;unfold toD PyData.canLay0;exact gF xs h
 | .ins _ _ _,h=>by simp[aB] at h
 | .xc _ _ _,h=>by simp[aB] at h
 | .ty _,h=>by simp[aB] at h
 | .cls _,h=>by simp[aB] at h
theorem gF:∀ps:List PV,aC ps=true→PyData.canLayAll0 (dH ps)=true
 | [],_=>rfl
 |p::ps,h=>by
  unfold aC at h
  rw[Bool.and_eq_true] at h
  unfold dH PyData.canLayAll0
  rw[eX p h.1,gF ps h.2]
  rfl
end
mutual
theorem eY:∀p:PV,(toD p).depth=dep p
 | .non=>rfl
 | .bl _=>rfl
 | .int _=>rfl
 | .str x=>rfl
 | .lst xs=>by unfold toD PyData.depth dep;rw[oO xs]
 | .tup xs=>by unfold toD PyData.depth dep;rw[oO xs]
 | .ins _ _ _=>rfl
 | .xc _ _ _=>rfl
 | .ty _=>rfl
 | .cls _=>rfl
theorem oO:∀ps:List PV,PyData.depthAll (dH ps)=eV ps
 | []=>rfl
 |p::ps=>by unfold dH PyData.depthAll eV;rw[eY p,oO ps]
end
mutual
theorem ur:∀p q:PV,aB p=true→aB q=true→PyData.eqv (toD p) (toD q)=eqB p q
 | .lst xs,.lst ys,h1,h2=>by
   unfold aB at h1 h2
   unfold toD eqB PyData.eqv
   exact uw xs ys h1 h2
 | .tup xs,.tup ys,h1,h2=>by
   unfold aB at h1 h2
   unfold toD eqB PyData.eqv
   exact uw xs ys h1 h2
 | .ins _ _ _,_,h,_=>by simp[aB] at h
 | .xc _ _ _,_,h,_=>by simp[aB] at h
 | .ty _,_,h,_=>by simp[aB] at h
 | .cls _,_,h,_=>by simp[aB] at h
 | .non,q,_,h=>by cases q<;>first|rfl|(simp[aB] at h)|(simp[toD,eqB,PyData.eqv])
 | .bl _,q,_,h=>by cases q<;>first|rfl|(simp[aB] at h)|(simp[toD,eqB,PyData.eqv])
 | .int _,q,_,h=>by cases q<;>first|rfl|(simp[aB] at h)|(simp[toD,eqB,PyData.eqv])
 | .str _,q,_,h=>by cases q<;>first|rfl|(simp[aB] at h;done)|(simp[toD,eqB,PyData.eqv])
 | .lst _,.non,_,_=>by simp[toD,eqB,PyData.eqv]
 | .lst _,.bl _,_,_=>by simp[toD,eqB,PyData.eqv]
 | .lst _,.int _,_,_=>by simp[toD,eqB,PyData.eqv]
 | .lst _,.str _,_,_=>by simp[toD,eqB,PyData.eqv]
 | .lst _,.tup _,_,_=>by simp[toD,eqB,PyData.eqv]
 | .lst _,.ins _ _ _,_,h=>by simp[aB] at h
 | .lst _,.xc _ _ _,_,h=>by simp[aB] at h
 | .lst _,.ty _,_,h=>by simp[aB] at h
 | .lst _,.cls _,_,h=>by simp[aB] at h
 | .tup _,.non,_,_=>by simp[toD,eqB,PyData.eqv]
 | .tup _,.bl _,_,_=>by simp[toD,eqB,PyData.eqv]
 | .tup _,.int _,_,_=>by simp[toD,eqB,PyData.eqv]
 | .tup _,.str _,_,_=>by simp[toD,eqB,PyData.eqv]
 | .tup _,.lst _,_,_=>by simp[toD,eqB,PyData.eqv]
 | .tup _,.ins _ _ _,_,h=>by simp[aB] at h
 | .tup _,.xc _ _ _,_,h=>by simp[aB] at h
 | .tup _,.ty _,_,h=>by simp[aB] at h
 | .tup _,.cls _,_,h=>by simp[aB] at h
theorem uw:∀ps qs:List PV,aC ps=true→aC qs=true→PyData.eqvAll (dH ps) (dH qs)=eU ps qs
 | [],[],_,_=>by simp[dH,eU,PyData.eqvAll]
 | [],_::_,_,_=>by simp[dH,eU,PyData.eqvAll]
 |_::_,[],_,_=>by simp[dH,eU,PyData.eqvAll]
 |p::ps,q::qs,h1,h2=>by
  unfold aC at h1 h2
  rw[Bool.and_eq_true] at h1 h2
  unfold dH eU PyData.eqvAll
  rw[ur p q h1.1 h2.1,uw ps qs h1.2 h2.2]
end
mutual
theorem Ie{F:Hp}:∀(p:PV) (v:V),aB p=true→Rep K F p v→Rp K.K F (toD p) v
 | .non,_,_,r=>by unfold Rep at r;unfold toD Rp;exact r
 | .bl _,_,_,r=>by unfold Rep at r;unfold toD Rp;exact r
 | .int _,_,_,r=>by unfold Rep at r;unfold toD Rp;exact r
 | .str _,_,_,r=>by unfold Rep at r;unfold toD Rp;exact r
 | .lst xs,_,h,r=>by
   unfold aB at h
   unfold Rep at r
   unfold toD Rp
   obtain⟨a,vs,h1,h2,h3⟩:=r
   exact⟨a,vs,h1,h2,gY xs vs h h3⟩
 | .tup xs,_,h,r=>by
   unfold aB at h
   unfold Rep at r
   unfold toD Rp
   obtain⟨a,vs,h1,h2,h3⟩:=r
   exact⟨a,vs,h1,h2,gY xs vs h h3⟩
 | .ins _ _ _,_,h,_=>by simp[aB] at h
 | .xc _ _ _,_,h,_=>by simp[aB] at h
 | .ty _,_,h,_=>by simp[aB] at h
 | .cls _,_,h,_=>by simp[aB] at h
theorem gY{F:Hp}:∀(ps:List PV) (vs:List V),aC ps=true→Ğ K F ps vs→kW K.K F (dH ps) vs
 | [],_,_,r=>by unfold Ğ at r;unfold dH kW;exact r
 |p::ps,_,h,r=>by
  unfold aC at h
  rw[Bool.and_eq_true] at h
  unfold Ğ at r
  unfold dH kW
  obtain⟨x,t,h1,h2,h3⟩:=r
  exact⟨x,t,h1,Ie p x h.1 h2,gY ps t h.2 h3⟩
end
theorem gZ{c:Ctx}{F H:Hp}{σ:L2.St}{ρ:Ŏ}{p:PV}{v:V}(s:Same F H)(h:aB p=true)(r:rR K c σ ρ F H p v):Rp K.K H (toD p) v:=by
 rcases r with r|r
 ·exact Rp.same s _ _ (Ie p v h r)
 ·cases p with
  |lst ps=>
   obtain⟨a,vs,rfl,h3,h4⟩:=r
   unfold aB at h
   unfold toD Rp
   exact⟨a,vs,rfl,aF.of h3,kW.same s _ _ (gY ps vs h h4)⟩
  |ins C ns ps=>simp[aB] at h
  |_=>exact r.elim
def ux(p q:PV):Bool:=aB p && aB q && decide (min (dep p) (dep q)≤60)
def aq(p q:PV):Option PV:=if ux p q=true then some (.bl (eqB p q)) else none
def jj(p q:PV):Option PV:=if ux p q=true then some (.bl (!eqB p q)) else none
theorem aA:lX K (Rq K.K false) aq:=by
 intro c F H σ ρ p q pv v u Q rel r1 r2 e k
 unfold aq at e
 split at e
 ·rename_i hz
  cases e
  unfold ux at hz
  simp only[Bool.and_eq_true,decide_eq_true_eq] at hz
  refine⟨toD p,toD q,gZ rel.sub hz.1.1 r1,gZ rel.sub hz.1.2 r2,eX p hz.1.1,eX q hz.1.2,by rw[eY,eY];exact hz.2,?_⟩
  rw[ur p q hz.1.1 hz.1.2]
  exact k _ F H rel (Same.refl _) (Same.refl _) Rep.bl
 ·cases e
theorem wR:lX K (Rq K.K true) jj:=by
 intro c F H σ ρ p q pv v u Q rel r1 r2 e k
 unfold jj at e
 split at e
 ·rename_i hz
  cases e
  unfold ux at hz
  simp only[Bool.and_eq_true,decide_eq_true_eq] at hz
  refine⟨toD p,toD q,gZ rel.sub hz.1.1 r1,gZ rel.sub hz.1.2 r2,eX p hz.1.1,eX q hz.1.2,by rw[eY,eY];exact hz.2,?_⟩
  rw[ur p q hz.1.1 hz.1.2]
  exact k _ F H rel (Same.refl _) (Same.refl _) Rep.bl
 ·cases e
def Ig:PV→Bool
 | .non=>true
 |_=>false
def Fq(p q:PV):Option PV:=match q with
 | .non=>some (.bl (Ig p))
 |_=>none
def RW(p q:PV):Option PV:=match q with
 | .non=>some (.bl (!Ig p))
 |_=>none
theorem RX{c:Ctx}{F H:Hp}{σ:L2.St}{ρ:Ŏ}{p:PV}{v:V}(r:rR K c σ ρ F H p v):decide (v=.non)=Ig p:=by
 rcases r with r|r
 ·cases p<;>unfold Rep at r<;>first
   |(subst r;rfl)
   |(obtain⟨a,xs,rfl,_⟩:=r;rfl)
   |(obtain⟨a,xs,ys,rfl,_⟩:=r;rfl)
 ·cases p with
  |lst ps=>obtain⟨a,vs,rfl,_⟩:=r;rfl
  |ins C ns ps=>obtain⟨a,dx,fs,rfl,_⟩:=r;rfl
  |_=>exact r.elim
theorem Ih:lX K (fun x y H Q=>y=.non∧Q (.bl (decide (x=.non))) H) Fq:=by
 intro c F H σ ρ p q pv v u Q rel r1 r2 e k
 unfold Fq at e
 split at e
 ·cases e
  refine⟨r2.non,?_⟩
  rw[RX r1]
  exact k _ F H rel (Same.refl _) (Same.refl _) Rep.bl
 ·cases e
def ĝ:PV→PV→Option PV
 | .lst ps,.int i=>qR ps i
 | .tup ps,.int i=>qR ps i
 | .str z,.int i=>if z.length≤16777216 then(qR z.cps.toList i).map fun c=>.str ⟨#[c]⟩ else none
 |_,_=>none
theorem Dq{F:Hp}{ps:List PV}{vs:List V}{i:Int}{p:PV}(r:Ğ K F ps vs)(h:qR ps i=some p):∃v,qR vs i=some v∧Rep K F p v:=by
 unfold qR at h ⊢
 rw[r.length] at h
 cases e:CK vs.length i with
 |none=>rw[e] at h;cases h
 |some j=>
  rw[e] at h
  obtain⟨v,h1,h2⟩:=cG r.pr h
  exact⟨v,h1,h2⟩
theorem ĕ:lX K (mIx K.K) ĝ:=by
 intro c F H σ ρ p q pv v u Q rel r1 r2 e k
 unfold ĝ at e
 split at e
 ·obtain⟨a,vs,rfl,h1,h2⟩:=r1.lst rel.sub
  cases r2.int
  obtain⟨x,h3,h4⟩:=Dq h2 e
  exact⟨vs,x,.inl h1,h3,k _ F H rel (Same.refl _) (Same.refl _) h4⟩
 ·obtain⟨a,vs,rfl,h1,h2⟩:=r1.tup rel.sub
  cases r2.int
  obtain⟨x,h3,h4⟩:=Dq h2 e
  exact⟨vs,x,.inr h1,h3,k _ F H rel (Same.refl _) (Same.refl _) h4⟩
 ·split at e
  ·rename_i z i hz
   cases r1.str
   cases r2.int
   cases ea:qR z.cps.toList i with
   |none=>rw[ea] at e;cases e
   |some cc=>
    rw[ea] at e
    cases e
    exact⟨cc,by rw[Ŋ];exact hz,ea,k _ F H rel (Same.refl _) (Same.refl _) Rep.str⟩
  ·cases e
 ·cases e
def Ft:M (Option Int):=fun ρ=>.ok none ρ
def mP(m:M PV):M (Option Int):=fun ρ=>(m ρ).bind fun p ρ1=>match p with
 | .int i=>.ok (some i) ρ1
 |_=>.bad
abbrev tP(K:KK)(E:L2.St→XK)(m:M (Option Int)):TO:=tG K E rI m
theorem uy:PO X none (tP (kk X cm) E Ft):=fun pins s σ H Q I h=>Rj pins s σ H Q I (by
 obtain⟨c,F,ρ,rel,h⟩:=h
 exact h none F H rel (Same.refl _) (Same.refl _) rfl)
theorem aR(ha:PE X e (tV (kk X cm) E ma)):PO X (some e) (tP (kk X cm) E (mP ma)):=fun pins s σ H Q I h=>Ht ha pins s σ H Q I (by
 obtain⟨c,F,ρ,rel,h⟩:=h
 refine⟨c,F,ρ,rel,h.bind fun p ρ1 v F1 H1 ě _ _ r1 h1=>?_⟩
 cases p with
 |int i=>
  have e:v=.int i:=by have r1':Rep (kk X cm) F1 (.int i) v:=r1;unfold Rep at r1';exact r1'
  subst e
  exact h1 (some i) F1 H1 ě (Same.refl _) (Same.refl _) rfl
 |_=>exact h1.elim)
def cL{α:Type}(xs:List α)(lo hi:Option Int):List α:= (xs.drop (HT.ig xs.length 0 lo)).take (HT.ig xs.length xs.length hi-HT.ig xs.length 0 lo)
def Uy(p:PV)(lo hi:Option Int):Option RV:=match p with
 | .lst ps=>some (.ow (cL ps lo hi))
 | .str z=>if z.length≤16777216 then some (.sh (.str (S (cL z.cps.toList lo hi)))) else none
 |_=>none
def Fv(ma:M PV)(ml mh:M (Option Int)):M RV:=fun ρ=>(ma ρ).bind fun p ρ1=>(ml ρ1).bind fun lo ρ2=>(mh ρ2).bind fun hi ρ3=>Res.mX (Uy p lo hi) ρ3
theorem cC{ml mh:M (Option Int)}{lo hi:Option Expr}{p2:Pos}(ha:PE X a (tR (kk X cm) E ma))(hl:PO X lo (tP (kk X cm) E ml))(hh:PO X hi (tP (kk X cm) E mh)):PE X (.Subscript a (.Slice lo hi none p2) pos) (tO (kk X cm) E (Fv ma ml mh)):=
 PE.wk (Hi slm ha hl hh) fun σ H Q ⟨c,F,ρ,rel,h⟩=>⟨c,F,ρ,rel,h.bind fun p ρ1 v F1 H1 ě _ _ r1 h1=>⟨c,F1,ρ1,ě,h1.bind fun lo ρ2 lo' F2 H2 ŉ sF sH r2 h2=>⟨c,F2,ρ2,ŉ,h2.bind fun hi ρ3 hi' F3 H3 jF sF3 sH3 r3 h3=>by
   have e2:lo=lo':=r2
   have e3:hi=hi':=r3
   subst e2 e3
   have r1':rR (kk X cm) c σ ρ3 F3 H3 p v:=r1.mono (sF.trans sF3) (sH.trans sH3)
   cases p with
   |lst ps=>
    obtain⟨a,vs,rfl,q1,q2⟩:=r1'.lst jF.sub
    refine⟨vs,q1,fun d hd=>?_⟩
    have e:Ğ (kk X cm) F3 (cL ps lo hi) (wB vs lo hi):=by
     unfold cL wB
     rw[q2.length]
     exact Ğ.of (Dd _ (Df _ q2.pr))
    obtain⟨z1,z2⟩:=dG jF hd e
    exact h3 _ F3 _ z1 (Same.refl _) (Same.upd hd) z2
   |str z=>
    cases r1'.str
    unfold Uy at h3
    dsimp only at h3
    split at h3
    ·rename_i hz
     exact⟨by rw[Ŋ];exact hz,h3 _ F3 H3 jF (Same.refl _) (Same.refl _) (Rep.str (K:=kk X cm) (F:=F3))⟩
    ·exact h3.elim
   |_=>exact h3.elim⟩⟩⟩
theorem Ag{c:Ctx}{F H:Hp}{σ:L2.St}{ρ:Ŏ}{p:PV}{vs:List V}(h:rRL K c σ ρ F H [p] vs):∃v,vs=[v]∧rR K c σ ρ F H p v:=by
 cases h with
 |cons r t=>cases t;exact⟨_,rfl,r⟩
theorem Uz{c:Ctx}{F H:Hp}{σ:L2.St}{ρ:Ŏ}{p q:PV}{vs:List V}(h:rRL K c σ ρ F H [p,q] vs):∃v u,vs=[v,u]∧rR K c σ ρ F H p v∧rR K c σ ρ F H q u:=by
 cases h with
 |cons r t=>
  cases t with
  |cons r' t=>cases t;exact⟨_,_,rfl,r,r'⟩
def cO:List PV→Option PV
 | [.lst ps]=>some (.int ps.length)
 | [.tup ps]=>some (.int ps.length)
 | [.str z]=>if z.length≤16777216 then some (.int z.length) else none
 |_=>none
theorem bV:cR K (XJ K.K) cO:=by
 intro c F H σ ρ ps pv vs Q rel r e k
 unfold cO at e
 split at e
 ·cases e
  obtain⟨v,rfl,r1⟩:=Ag r
  obtain⟨a,xs,rfl,h1,h2⟩:=r1.lst rel.sub
  refine⟨xs,.inl h1,?_⟩
  rw[←h2.length]
  exact k _ F H rel (Same.refl _) (Same.refl _) Rep.int
 ·cases e
  obtain⟨v,rfl,r1⟩:=Ag r
  obtain⟨a,xs,rfl,h1,h2⟩:=r1.tup rel.sub
  refine⟨xs,.inr h1,?_⟩
  rw[←h2.length]
  exact k _ F H rel (Same.refl _) (Same.refl _) Rep.int
 ·split at e
  ·rename_i hz
   cases e
   obtain⟨v,rfl,r1⟩:=Ag r
   cases r1.str
   exact⟨by rw[Ŋ];exact hz,k _ F H rel (Same.refl _) (Same.refl _) Rep.int⟩
  ·cases e
 ·cases e
def RZ:List PV→Option PV
 | [.int i]=>some (.int (if i<0 then -i else i))
 |_=>none
theorem Ym:cR K mAbs RZ:=by
 intro c F H σ ρ ps pv vs Q rel r e k
 unfold RZ at e
 split at e
 ·cases e
  obtain⟨v,rfl,r1⟩:=Ag r
  cases r1.int
  exact k _ F H rel (Same.refl _) (Same.refl _) Rep.int
 ·cases e
def wU:List PV→Option PV
 | [.int i,.int j]=>some (.int (if j<i then j else i))
 |_=>none
def wV:List PV→Option PV
 | [.int i,.int j]=>some (.int (if j>i then j else i))
 |_=>none
theorem Dr:cR K Hr wU:=by
 intro c F H σ ρ ps pv vs Q rel r e k
 unfold wU at e
 split at e
 ·cases e
  obtain⟨v,u,rfl,r1,r2⟩:=Uz r
  cases r1.int
  cases r2.int
  exact k _ F H rel (Same.refl _) (Same.refl _) Rep.int
 ·cases e
theorem Ds:cR K Hs wV:=by
 intro c F H σ ρ ps pv vs Q rel r e k
 unfold wV at e
 split at e
 ·cases e
  obtain⟨v,u,rfl,r1,r2⟩:=Uz r
  cases r1.int
  cases r2.int
  exact k _ F H rel (Same.refl _) (Same.refl _) Rep.int
 ·cases e
def dI:List PV→Option RV
 | [.lst ps]=>some (.ow ps)
 | [.tup ps]=>some (.ow ps)
 |_=>none
def Dt(K:PySem.W.Frag):List V→Hp→VK→Prop:=fun xs H Q=>∃p ys,xs=[.ref p]∧(aF K H p ys∨cZ K H p ys)∧∀l,H l=none→Q (.ref l) (upd H l (.lst ys))
theorem cT:Ş X (.type "list") (Dt X.K):=tY
theorem cU:Uq K (Dt K.K) dI:=by
 intro c F H σ ρ ps pv vs Q rel r e k
 unfold dI at e
 split at e
 ·cases e
  obtain⟨v,rfl,r1⟩:=Ag r
  obtain⟨a,xs,rfl,h1,h2⟩:=r1.lst rel.sub
  refine⟨a,xs,rfl,.inl h1,fun l hl=>?_⟩
  obtain⟨q1,q2⟩:=dG rel hl h2
  exact k _ F _ q1 (Same.refl _) (Same.upd hl) q2
 ·cases e
  obtain⟨v,rfl,r1⟩:=Ag r
  obtain⟨a,xs,rfl,h1,h2⟩:=r1.tup rel.sub
  refine⟨a,xs,rfl,.inr h1,fun l hl=>?_⟩
  obtain⟨q1,q2⟩:=dG rel hl h2
  exact k _ F _ q1 (Same.refl _) (Same.upd hl) q2
 ·cases e
def qG:PV→String→Option Bool
 | .int _,"int" =>some true
 | .int _,"bool" =>some false
 | .int _,"str" =>some false
 | .int _,"tuple" =>some false
 | .int _,"list" =>some false
 | .bl _,"int" =>some true
 | .bl _,"bool" =>some true
 | .lst _,"list" =>some true
 | .lst _,"tuple" =>some false
 | .lst _,"int" =>some false
 | .lst _,"str" =>some false
 | .tup _,"tuple" =>some true
 | .tup _,"list" =>some false
 | .tup _,"int" =>some false
 | .tup _,"str" =>some false
 | .str _,"str" =>some true
 | .str _,"int" =>some false
 | .str _,"list" =>some false
 | .str _,"tuple" =>some false
 | .non,"int" =>some false
 | .non,"str" =>some false
 | .non,"tuple" =>some false
 | .non,"list" =>some false
 |_,_=>none
end
theorem wW{K:KK}{F:Hp}:∀ns:List Int,Ğ K F (ns.map .int) (ns.map V.int)
 | []=>Ğ.nil
 |n::ns=>Ğ.cons Rep.int (wW ns)
def Zdh(K:PySem.W.Frag):Sp:=fun vs H Q _=>∃(sa:Addr) (ns:List Int),vs=[.ref sa]∧aF K H sa (ns.map V.int)∧ns.length≤63∧∀v H',v=.bl true→Q v H'
end P
namespace P
open PySem PySem.Spec PyProof.Rows L2 M2 M3 M4
section
variable{X:Cx}{cm:String→Addr}{K:KK}
def TyP(K:PySem.W.Frag)(H:Hp)(x:V)(t:Value):Prop:=match x with
 | .non=>t=.type "NoneType"
 | .bl _=>t=.type "bool"
 | .int _=>t=.type "int"
 | .str _=>t=.type "str"
 | .ref a=>(t=.type "list" ∧∃xs,aF K H a xs)∨(t=.type "tuple" ∧∃xs,cZ K H a xs)∨kJ K H (.ref a) t
 |_=>False
def Du(K:PySem.W.Frag):List V→Hp→VK→Prop:=fun xs H Q=>match xs with
 | [x,.ty n]=>∃t b,TyP K H x t∧PySem.W.kitOne K t (.type n)=some b∧Q (.bl b) H
 | [x,.ref C]=>∃t b,TyP K H x t∧PySem.W.kitOne K t (.ref C)=some b∧Q (.bl b) H
 |_=>False
theorem Dv{pins:List (Addr×Obj)}{σ:L2.St}{H:Hp}{s:Shared}{A:Around}{E:Value→Shared→Prop}{Q:Value→Shared→Prop}{c:Value}{b:Bool}{x:V}{u t:Value}(I:Inv X pins σ H s)(rx:RelV x u)(ty:TyP X.K H x t)(e:PySem.W.kitOne X.K t c=some b)(h:∀tk,Q (.bool b) {s with toks:=tk}) :
 wpAny (model X.prog X.w) A (call (.builtin "isinstance") [u,c]) Q E s:=by
 cases x with
 |non=>cases(show t=_ from ty);exact dB I rx .non e h
 |bl y=>cases(show t=_ from ty);exact dB I rx (.bl y) e h
 |int y=>cases(show t=_ from ty);exact dB I rx (.int y) e h
 |str y=>cases(show t=_ from ty);exact dB I rx (.str y) e h
 |ref a=>
  cases(show u=Value.ref a from rx)
  rcases ty with⟨rfl,xs,hS⟩|⟨rfl,xs,hS⟩|ty
  ·obtain⟨its,r,⟨o,n,h1,h2,_⟩,_⟩:=I.list hS
   exact PySem.W.kia_one PySem.W.kitx_list I.dZ ⟨o,h1,h2⟩ e (fun z=>nomatch z) h
  ·obtain⟨its,r,⟨o,h1,h2,_⟩,_⟩:=I.tuple hS
   exact PySem.W.kia_one PySem.W.kitx_tuple I.dZ ⟨o,h1,h2⟩ e (fun z=>nomatch z) h
  ·exact dB I rx ty e h
 |_=>exact ty.elim
theorem Yn:Ş X (.builtin "isinstance") (Du X.K):=by
 intro pins s σ H xs us Q I r h
 unfold Du at h
 split at h
 ·obtain⟨t,b,h1,h2,h3⟩:=h
  obtain⟨u,w',rfl,r1,r2⟩:=vals2 r
  cases r2
  exact Dv I r1 h1 h2 fun tk=>⟨.bl b,H,I.tok _,rfl,h3⟩
 ·obtain⟨t,b,h1,h2,h3⟩:=h
  obtain⟨u,w',rfl,r1,r2⟩:=vals2 r
  cases r2
  exact Dv I r1 h1 h2 fun tk=>⟨.bl b,H,I.tok _,rfl,h3⟩
 ·exact h.elim
def tyN:PV→String
 | .non=> "NoneType"
 | .bl _=> "bool"
 | .int _=> "int"
 | .str _=> "str"
 | .lst _=> "list"
 | .tup _=> "tuple"
 |_=> ""
theorem Ii{F:PySem.W.Frag}{p:PV}{n:String}{b:Bool}(h:qG p n=some b):PySem.W.kitOne F (.type (tyN p)) (.type n)=some b:=by
 unfold qG at h
 split at h<;>first
  |(cases h;first|rfl|decide +kernel|kernel_rfl)
  |cases h
theorem R_{c:Ctx}{F H:Hp}{σ:L2.St}{ρ:Ŏ}{p:PV}{v:V}(s:Same F H)(r:rR K c σ ρ F H p v)(h:∃n b,qG p n=some b):TyP K.K H v (.type (tyN p)):=by
 obtain⟨n,b,h⟩:=h
 cases p with
 |non=>cases r.non;rfl
 |bl _=>cases r.bl;rfl
 |int _=>cases r.int;rfl
 |str _=>cases r.str;rfl
 |lst ps=>
  obtain⟨a,vs,rfl,h1,h2⟩:=r.lst s
  exact .inl ⟨rfl,vs,h1⟩
 |tup ps=>
  obtain⟨a,vs,rfl,h1,h2⟩:=r.tup s
  exact .inr (.inl ⟨rfl,vs,h1⟩)
 |ins _ _ _=>simp[qG] at h
 |xc _ _ _=>simp[qG] at h
 |ty _=>simp[qG] at h
 |cls _=>simp[qG] at h
def Ij:List PV→Option PV
 | [p,.ty n]=>(qG p n).map .bl
 |_=>none
theorem Ik:cR K (Du K.K) Ij:=by
 intro c F H σ ρ ps pv vs Q rel r e k
 unfold Ij at e
 split at e
 ·rename_i p n
  obtain⟨v,u,rfl,r1,r2⟩:=Uz r
  cases r2.ty
  cases eb:qG p n with
  |none=>rw[eb] at e;cases e
  |some b=>
   rw[eb] at e
   cases e
   exact⟨_,b,R_ rel.sub r1 ⟨n,b,eb⟩,Ii eb,k _ F H rel (Same.refl _) (Same.refl _) Rep.bl⟩
 ·cases e
def oR:List PV→Option PV
 | [.lst ps]=>some (.tup ps)
 | [.tup ps]=>some (.tup ps)
 |_=>none
def Il(K:PySem.W.Frag):List V→Hp→VK→Prop:=fun xs H Q=>∃p ys,xs=[.ref p]∧((aF K H p ys∧∀l,H l=none→Q (.ref l) (upd H l (.tup ys)))∨(cZ K H p ys∧Q (.ref p) H))
theorem Im:Ş X (.type "tuple") (Il X.K):=qD
theorem Io:cR K (Il K.K) oR:=by
 intro c F H σ ρ ps pv vs Q rel r e k
 unfold oR at e
 split at e
 ·cases e
  obtain⟨v,rfl,r1⟩:=Ag r
  obtain⟨a,xs,rfl,h1,h2⟩:=r1.lst rel.sub
  refine⟨a,xs,rfl,.inl ⟨h1,fun l hl=>k _ _ _ (rel.alloc hl) (Same.upd (rel.sub.free hl)) (Same.upd hl) ?_⟩⟩
  unfold Rep
  exact⟨l,xs,rfl,cZ.of Ĩ,Ğ.same (Same.upd (rel.sub.free hl)) _ _ h2⟩
 ·cases e
  obtain⟨v,rfl,r1⟩:=Ag r
  have r1':=r1
  obtain⟨a,xs,rfl,h1,h2⟩:=r1.tup rel.sub
  refine⟨a,xs,rfl,.inr ⟨h1,k _ F H rel (Same.refl _) (Same.refl _) ?_⟩⟩
  rcases r1' with q|q
  ·exact q
  ·exact q.elim
 ·cases e
def boolsOf:List PV→Option (List Bool)
 | []=>some []
 | .bl b::ps=>(boolsOf ps).map (b:: ·)
 |_::_=>none
theorem rm{F:Hp}:∀{ps:List PV} {vs:List V} {bs:List Bool},Ğ K F ps vs→boolsOf ps=some bs→vs=bs.map V.bl
 | [],vs,bs,r,h=>by
   cases h
   have r':=r.pr
   cases r'
   rfl
 |p::ps,vs,bs,r,h=>by
  cases p with
  |bl b=>
   unfold boolsOf at h
   cases eb:boolsOf ps with
   |none=>rw[eb] at h;cases h
   |some cs=>
    rw[eb] at h
    cases h
    have r':=r.pr
    cases r' with
    |cons r1 t=>
     rw[ug r1,rm (Ğ.of t) eb]
     rfl
  |_=>simp[boolsOf] at h
def uz:List PV→Option PV
 | [.lst ps]=>(boolsOf ps).map fun bs=>.bl (bs.all id)
 |_=>none
theorem uD:cR K (Yc K.K) uz:=by
 intro c F H σ ρ ps pv vs Q rel r e k
 unfold uz at e
 split at e
 ·rename_i ps
  obtain⟨v,rfl,r1⟩:=Ag r
  obtain⟨a,xs,rfl,h1,h2⟩:=r1.lst rel.sub
  cases eb:boolsOf ps with
  |none=>rw[eb] at e;cases e
  |some bs=>
   rw[eb] at e
   cases e
   refine⟨bs,by rw[←rm h2 eb];exact h1,k _ F H rel (Same.refl _) (Same.refl _) Rep.bl⟩
 ·cases e
end
end P
namespace P
open PySem PySem.Spec PyProof.Rows L2 M2 M3 M4
section
variable{α β:Type}{ρ:Ŏ}{i j n k:Nat}{p q:PV}{ps:List PV}{m ma mb mc:M PV}{mo:M RV}{a b:M Fl}{ta tb:M Bool}{mr:M (List PV)}{f:PV→PV→Option PV}{fo:PV→PV→Option RV}{fl:List PV→Option PV}{flo:List PV→Option RV}{g:Tg}{gs:Gw}
@[simp] theorem ZoP:fK ρ=.ok .nx ρ:= rfl
@[simp] theorem ZoQ:mBk ρ=.ok .bk ρ:= rfl
@[simp] theorem ZoR:mCt ρ=.ok .ct ρ:= rfl
@[simp] theorem ZkJ:(ZkD:M α) ρ=.bad:=rfl
@[simp] theorem ZkK:ģ a b ρ=(a ρ).bind fun f ρ1=>match f with| .nx=>b ρ1|f=>.ok f ρ1:=rfl
@[simp] theorem ZkL:Ļ i mo ρ=(mo ρ).bind fun r ρ1=>.ok .nx (ρ1.set i r.slot):=rfl
@[simp] theorem ZkM:ĳ mo ρ=(mo ρ).bind fun r ρ1=>.ok (.rt r) ρ1:=rfl
@[simp] theorem Zjn:Zc7 ρ=.ok (.rt (.sh .non)) ρ:= rfl
@[simp] theorem Zjo:oG m ρ=(m ρ).bind fun _ ρ1=>.ok .nx ρ1:=rfl
@[simp] theorem Zo8:mC p ρ=.ok p ρ:= rfl
@[simp] theorem ZoS:Ŕ m ρ=(m ρ).bind fun p ρ1=>.ok (.sh p) ρ1:=rfl
@[simp] theorem ZkN:Ď mo ρ=(mo ρ).bind fun r ρ1=>.ok r.val ρ1:=rfl
@[simp] theorem ZkO:(RV.sh p).val=p:=rfl
@[simp] theorem ZkP:(RV.ow ps).val=.lst ps:=rfl
@[simp] theorem ZkQ:(RV.sh p).slot=.sh p:=rfl
@[simp] theorem ZkR:(RV.ow ps).slot=.ow ps:=rfl
@[simp] theorem ZkS:Ĉ f ma mb ρ=(ma ρ).bind fun p ρ1=>(mb ρ1).bind fun q ρ2=>Res.mX (f p q) ρ2:=rfl
@[simp] theorem Zjp:Ĵ fo ma mb ρ=(ma ρ).bind fun p ρ1=>(mb ρ1).bind fun q ρ2=>Res.mX (fo p q) ρ2:=rfl
@[simp] theorem ZoT{u:PV→Option PV}:jZ u ma ρ=(ma ρ).bind fun p ρ1=>Res.mX (u p) ρ1:=rfl
@[simp] theorem ZkT:aG m ρ=(m ρ).bind fun p ρ1=>Res.mX (Yh p) ρ1:=rfl
@[simp] theorem ZoU:j_ m ρ=(m ρ).bind fun p ρ1=>match p with| .bl b=>.ok b ρ1|_=>.bad:=rfl
@[simp] theorem Zjq:bB ta ρ=(ta ρ).bind fun b ρ1=>.ok (!b) ρ1:=rfl
@[simp] theorem Zjr:jC ta tb ρ=(ta ρ).bind fun b ρ1=>if b=true then tb ρ1 else .ok false ρ1:=rfl
@[simp] theorem ZkU:wI ta tb ρ=(ta ρ).bind fun b ρ1=>if b=true then .ok true ρ1 else tb ρ1:=rfl
@[simp] theorem ZkV:fV ma mb ρ=(ma ρ).bind fun p ρ1=>match p with| .bl b=>if b=true then mb ρ1 else .ok (.bl false) ρ1|_=>.bad:=by
  unfold fV
  congr
  funext p ρ1
  cases p with
  |bl b=>cases b<;>rfl
  |_=>rfl
@[simp] theorem ZoV:mOr ma mb ρ=(ma ρ).bind fun p ρ1=>match p with| .bl b=>if b=true then .ok (.bl true) ρ1 else mb ρ1|_=>.bad:=by
  unfold mOr
  congr
  funext p ρ1
  cases p with
  |bl b=>cases b<;>rfl
  |_=>rfl
@[simp] theorem ZkW:RJ ma ρ=(ma ρ).bind fun p ρ1=>match p with| .bl b=>.ok (.bl (!b)) ρ1|_=>.bad:=rfl
@[simp] theorem ZoW{x y:M α}:dX ta x y ρ=(ta ρ).bind fun b ρ1=>if b=true then x ρ1 else y ρ1:=rfl
@[simp] theorem ZkX{f g:PV→PV→Option PV}:uf f g ma mb mc ρ=(ma ρ).bind fun p ρ1=>(mb ρ1).bind fun q ρ2=>(Res.mX (f p q) ρ2).bind fun z ρ3=>match z with
  | .bl true=>(mc ρ3).bind fun w ρ4=>Res.mX (g q w) ρ4
  | .bl false=>.ok (.bl false) ρ3
  |_=>.bad:=rfl
@[simp] theorem ZkY:Ě ρ=.ok [] ρ:= rfl
@[simp] theorem Zjs:ă ma mr ρ=(ma ρ).bind fun p ρ1=>(mr ρ1).bind fun ps ρ2=>.ok (p::ps) ρ2:=rfl
@[simp] theorem ZkZ:Ŗ mr ρ=(mr ρ).bind fun ps ρ1=>if ps.length≤16777216 then .ok (.tup ps) ρ1 else .bad:=rfl
@[simp] theorem Zk0:ũ mr ρ=(mr ρ).bind fun ps ρ1=>if ps.length≤16777216 then .ok (.ow ps) ρ1 else .bad:=rfl
@[simp] theorem ZoX:b_ fl mr ρ=(mr ρ).bind fun ps ρ1=>Res.mX (fl ps) ρ1:=rfl
@[simp] theorem Zk1:oF flo mr ρ=(mr ρ).bind fun ps ρ1=>Res.mX (flo ps) ρ1:=rfl
@[simp] theorem Zjt{mf:MF}{ms:M (List Slot)}:Đ mf ms ρ=(ms ρ).bind fun ps ρ1=>match mf ps with| .ret r=>.ok r ρ1| .exc x=>.exc x ρ1| .bad=>.bad:=rfl
@[simp] theorem ZoY:ğ i ρ=(match ρ[i]? with|some (.sh p)=>.ok p ρ|some (.ow ps)=>.ok (.lst ps) (ρ.set i (.sh (.lst ps)))|_=>.bad):=rfl
@[simp] theorem ZoZ:ā i ρ=(match ρ[i]? with|some (.sh p)=>.ok p ρ|some (.ow ps)=>.ok (.lst ps) ρ|some (.bw ps)=>.ok (.lst ps) ρ|some (.rc C ns ps)=>.ok (.ins C ns ps) ρ|_=>.bad):=rfl
@[simp] theorem Zo0:fJ i ρ=(match ρ[i]? with|some (.sh p)=>.ok (.sh p) ρ|some (.ow ps)=>.ok (.ow ps) (ρ.set i .no)|_=>.bad):=rfl
@[simp] theorem Zk2:RL g m ρ=(m ρ).bind fun p ρ1=>match g p ρ1 with|some ρ2=>.ok .nx ρ2|none=>.bad:=rfl
@[simp] theorem Zk3:ZkE i j mr ρ=(mr ρ).bind fun ps ρ1=>match ps with| [p,q]=>.ok .nx ((ρ1.set i (.sh p)).set j (.sh q))|_=>.bad:=rfl
@[simp] theorem Ip:gN i p ρ=some (ρ.set i (.sh p)):=rfl
@[simp] theorem Zdi:bC [] ρ=some ρ:= rfl
@[simp] theorem Zcr:Ŀ g gs (p::ps) ρ=(g p ρ).bind fun ρ1=>gs ps ρ1:=rfl
@[simp] theorem Zo1:gT n gs (.tup ps) ρ=if ps.length=n then gs ps ρ else none:=rfl
@[simp] theorem Zk4:wL i m ρ=(match ρ[i]? with
  |some (.ow _)=>(m ρ).bind fun p ρ1=>match ρ1[i]? with
   |some (.ow ps)=>if ps.length<16777216 then .ok .nx (ρ1.set i (.ow (ps ++ [p]))) else .bad
   |_=>.bad
  |_=>.bad):=rfl
@[simp] theorem Zdj{mi:M PV}:uh i mi m ρ=(m ρ).bind fun p ρ1=>match ρ1[i]? with
  |some (.ow _)=>(mi ρ1).bind fun q ρ2=>match ρ2[i]?,q with
   |some (.ow ps),.int k=>match CK ps.length k with
    |some j=>.ok .nx (ρ2.set i (.ow (ps.set j p)))
    |none=>.bad
   |_,_=>.bad
  |_=>.bad:=rfl
@[simp] theorem Zk5:Ft ρ=.ok none ρ:= rfl
@[simp] theorem Zo9:mP m ρ=(m ρ).bind fun p ρ1=>match p with| .int i=>.ok (some i) ρ1|_=>.bad:=rfl
@[simp] theorem Zo2{ml mh:M (Option Int)}:Fv ma ml mh ρ=(ma ρ).bind fun p ρ1=>(ml ρ1).bind fun lo ρ2=>(mh ρ2).bind fun hi ρ3=>Res.mX (Uy p lo hi) ρ3:=rfl
@[simp] theorem Zk6{lo hi:Option Int}:Uy (.lst ps) lo hi=some (.ow (cL ps lo hi)):=rfl
@[simp] theorem Zdk:ū m ρ=(m ρ).bind fun p ρ1=>match p with
  | .lst ps=>.ok ps ρ1
  | .tup ps=>.ok ps ρ1
  | .str z=>.ok (z.cps.toList.map fun c=>.str ⟨#[c]⟩) ρ1
  |_=>.bad:=rfl
@[simp] theorem Zdl{h:List PV→Option (List PV)}:Ű h mr ρ=(mr ρ).bind fun ps ρ1=>Res.mX (h ps) ρ1:=rfl
@[simp] theorem Yo{mi:M (List PV)}:fX mi g b ρ=(mi ρ).bind fun items ρ1=>forL g b items ρ1:=rfl
@[simp] theorem Zju{js:List Nat}{nl:Nat}{mi:M (List PV)}{mt:M Bool}{me:M PV}:ţ js nl mi g mt me ρ=(mi ρ).bind fun items ρ1=>match Ō g mt me items (wO js nl ρ1) [] with
  |some ps=>.ok (.ow ps) ρ1
  |none=>.bad:=rfl
@[simp] theorem Zk7:œ ρ=.ok true ρ:= rfl
@[simp] theorem Zjv{mk:M PV}:Zdg mr mk ρ=(mr ρ).bind fun ps ρ1=>if ps.length≤16777216 then(mk ρ1).bind fun q ρ2=>match q with
  | .int k=>if -(2 ^ 60)≤k∧k<2 ^ 60∧ps.length*k.toNat≤16777216 then .ok (.ow (List.replicate k.toNat ps).flatten) ρ2 else .bad
  |_=>.bad else .bad:=rfl
@[simp] theorem Zk8{mbd:M Fl}{as:List Slot}:ň n k mbd as=if as.length=n then FR.of (mbd (startP k as)) else .bad:=rfl
@[simp] theorem Zk9{r:RV}:FR.of (.ok (.rt r) ρ)=.ret r:=rfl
@[simp] theorem Zk_:FR.of (.ok .nx ρ)=.ret (.sh .non):=rfl
@[simp] theorem Zla{x:PX}:FR.of (.exc x ρ)=.exc x:=rfl
@[simp] theorem Zlb:FR.of .bad=.bad:=rfl
@[simp] theorem Zdm{as:List Slot}:startP k as=as++List.replicate (k-as.length) .no:=rfl
@[simp] theorem Zjw:č ρ=.ok [] ρ:= rfl
@[simp] theorem Zdn{ms:M (List Slot)}:đ ma ms ρ=(ma ρ).bind fun p ρ1=>(ms ρ1).bind fun as ρ2=>.ok (.sh p::as) ρ2:=rfl
@[simp] theorem Zdo{ms:M (List Slot)}:ą i ms ρ=(match(ρ[i]?).bind dF with
  |none=>.bad
  |some _=>(ms ρ).bind fun as ρ2=>match(ρ2[i]?).bind dF with
   |some s=>.ok (s::as) ρ2
   |none=>.bad):=rfl
@[simp] theorem Zlc:dF (.sh p)=some (.sh p):=rfl
@[simp] theorem Zld:dF (.ow ps)=some (.bw ps):=rfl
@[simp] theorem Zle:dF (.bw ps)=some (.bw ps):=rfl
@[simp] theorem Zlf:wN (.sh p)=.sh p:=rfl
@[simp] theorem Zlg:wN (.ow ps)=.bw ps:=rfl
@[simp] theorem Zlh:wN (.bw ps)=.bw ps:=rfl
@[simp] theorem Zli{js:List Nat}{nl:Nat}:wO js nl ρ=js.map (fun(j:Nat)=>wN ((ρ[j]?).getD .no))++List.replicate nl .no:=rfl
@[simp] theorem Ah:Ŵ i ρ=(match ρ[i]? with
  |some (.bw ps)=>.ok ps ρ
  |some (.sh (.lst ps))=>.ok ps ρ
  |some (.sh (.tup ps))=>.ok ps ρ
  |some (.sh (.str z))=>.ok (z.cps.toList.map fun c=>.str ⟨#[c]⟩) ρ
  |some (.ow ps)=>.ok ps (ρ.set i (.sh (.lst ps)))
  |_=>.bad):=rfl
@[simp] theorem Zjx{x y:Int}:ı (.int x) (.int y)=some (.sh (.int (x+y))):=rfl
@[simp] theorem Zjy{x y:Int}:ŗ (.int x) (.int y)=some (.int (x-y)):=rfl
@[simp] theorem Zjz{x y:Int}:Ľ (.int x) (.int y)=if ŭ x y=true then some (.int (x*y)) else none:=rfl
@[simp] theorem ZjA{x y:Int}:Ź (.int x) (.int y)=if jG x y=true then some (.int (x.fdiv y)) else none:=rfl
@[simp] theorem ZjB{x y:Int}:ń (.int x) (.int y)=if Dp x y=true then some (.int (x.fmod y)) else none:=rfl
@[simp] theorem ZjC{x y:Int}:iz (.int x) (.int y)=if oM x y=true then some (.int (x ^ y.toNat)) else none:=rfl
@[simp] theorem ZjD{x y:Int}:Zdc (.int x) (.int y)=if Uw x y=true then some (.int (x*2 ^ y.toNat)) else none:=rfl
@[simp] theorem ZjE{x y:Int}:Zdd (.int x) (.int y)=if Ux x y=true then some (.int (x / 2 ^ y.toNat)) else none:=rfl
@[simp] theorem ZjF{x:Int}:jH (.int x)=some (.int (-x)):=rfl
@[simp] theorem Zlj{x y:Int}:uo (.int x) (.int y)=some (.bl (decide (x<y))):=rfl
@[simp] theorem Zlk{x y:Int}:mY (.int x) (.int y)=some (.bl (decide (x≤y))):=rfl
@[simp] theorem Zll{x y:Int}:Yl (.int x) (.int y)=some (.bl (decide (y<x))):=rfl
@[simp] theorem Zlm{x y:Int}:Ia (.int x) (.int y)=some (.bl (decide (y≤x))):=rfl
@[simp] theorem Zln{x y:Int}:aq (.int x) (.int y)=some (.bl (decide (x=y))):=by
  have h:eqB (.int x) (.int y)=decide (x=y):=by rw[eqB.eq_def];rfl
  rw[←h];rfl
@[simp] theorem Zlo{x y:Int}:jj (.int x) (.int y)=some (.bl (!decide (x=y))):=by
  have h:eqB (.int x) (.int y)=decide (x=y):=by rw[eqB.eq_def];rfl
  rw[←h];rfl
@[simp] theorem Zlp{x y:Bool}:aq (.bl x) (.bl y)=some (.bl (x== y)):=rfl
@[simp] theorem Zlq{x y:Bool}:jj (.bl x) (.bl y)=some (.bl (!(x== y))):=rfl
@[simp] theorem Zlr{p:PV}:Fq p .non=some (.bl (Ig p)):=rfl
@[simp] theorem ZjG{p:PV}:RW p .non=some (.bl (!Ig p)):=rfl
@[simp] theorem Zls{x:Int}:ĝ (.lst ps) (.int x)=qR ps x:=rfl
@[simp] theorem Zlt{x:Int}:ĝ (.tup ps) (.int x)=qR ps x:=rfl
@[simp] theorem uE:cO [.lst ps]=some (.int ps.length):=rfl
@[simp] theorem ZjH:cO [.tup ps]=some (.int ps.length):=rfl
@[simp] theorem Zlu{x:Int}:RZ [.int x]=some (.int (if x<0 then -x else x)):=rfl
@[simp] theorem Zlv{x y:Int}:wU [.int x,.int y]=some (.int (if y<x then y else x)):=rfl
@[simp] theorem Zlw{x y:Int}:wV [.int x,.int y]=some (.int (if y>x then y else x)):=rfl
@[simp] theorem Zdp:dI [.lst ps]=some (.ow ps):=rfl
@[simp] theorem Zdq:dI [.tup ps]=some (.ow ps):=rfl
@[simp] theorem ZjI:oR [.lst ps]=some (.tup ps):=rfl
@[simp] theorem ZjJ:oR [.tup ps]=some (.tup ps):=rfl
@[simp] theorem Zlx{t:String}:Ij [p,.ty t]=(qG p t).map .bl:=rfl
@[simp] theorem ZjK{x:Bool}:Yh (.bl x)=some x:=rfl
@[simp] theorem ZjL{x:Int}:Yh (.int x)=some (x != 0):=rfl
@[simp] theorem ZjM:Yh (.lst ps)=some (!ps.isEmpty):=rfl
@[simp] theorem Ir(xs:List α)(n:Nat):qR xs (n:Int)=xs[n]?:= by
  unfold qR CK
  rw[if_pos (by omega)]
  by_cases h:n<xs.length
  ·rw[if_pos (by omega)]
   simp
  ·rw[if_neg (by omega)]
   simp
   omega
@[simp] theorem ZjN(xs:List α)(n:Nat):qR xs (no_index (OfNat.ofNat n):Int)=xs[(no_index (OfNat.ofNat n):Nat)]?:= Ir xs n
@[simp] theorem Zcs{x y:Int}:Dp x y=decide (y≠0):=rfl
end
theorem dJ{x y:Int}(h1: -(2 ^ 64)<x)(h2:x<2 ^ 64):ŭ x y=true:=by unfold ŭ;rw[decide_eq_true (by omega:x.natAbs<18446744073709551616)];rfl
theorem mul_r{x y:Int}(h1: -(2 ^ 64)<y)(h2:y<2 ^ 64):ŭ x y=true:=by unfold ŭ;rw[decide_eq_true (by omega:y.natAbs<18446744073709551616)];simp
theorem Zdr{x y:Int}(h1:bits x≤1048576)(h2:bits y≤1048576):ŭ x y=true:=by unfold ŭ;simp[h1,h2]
theorem Iu{x y:Int}(h1:y≠0)(h2:bits y≤8000):jG x y=true:=by unfold jG;simp[h1,h2]
section
variable{g:Tg}{mb:M Fl}{mc mt:M Bool}{me:M PV}{items:List PV}{ρ:Ŏ}
theorem Š{α:Type}(c f:α→PV)(I:Ŏ→Prop):∀(xs:List α) (ρ:Ŏ) (acc:List PV),I ρ→acc.length+xs.length≤16777216→
 (∀x∈xs,∀ρ,I ρ→∃ρ1 ρ2 ρ3,g (c x) ρ=some ρ1∧mt ρ1=.ok true ρ2∧me ρ2=.ok (f x) ρ3∧I ρ3)→Ō g mt me (xs.map c) ρ acc=some (acc++xs.map f)
 | [],ρ,acc,_,_,_=>by simp[Ō]
 |x::xs,ρ,acc,h,hz,hs=>by
  obtain⟨ρ1,ρ2,ρ3,h1,h2,h3,h4⟩:=hs x List.mem_cons_self ρ h
  rw[List.map_cons,Ō,h1]
  dsimp only
  rw[h2]
  dsimp only
  rw[h3]
  dsimp only
  rw[if_pos (by simp at hz;omega),Š c f I xs ρ3 (acc ++ [f x]) h4 (by simp at hz ⊢;omega) fun y hy=>hs y (List.mem_cons_of_mem _ hy)]
  simp
theorem Ai{β:Type}(st:β→Ŏ)(I:β→Prop)(μ:β→Nat)(hs:∀b,I b→mc (st b)=.ok false (st b)∨(mc (st b)=.ok true (st b)∧∃b',mb (st b)=.ok .nx (st b')∧I b'∧μ b' < μ b)){b:β}(h0:I b) :
 ∃b',Ž mc mb (st b)=.ok .nx (st b')∧I b'∧mc (st b')=.ok false (st b'):=by
 have go:∀n b,μ b≤n→I b→∃b',Ž mc mb (st b)=.ok .nx (st b')∧I b'∧mc (st b')=.ok false (st b'):=by
  intro n
  induction n with
  |zero=>
   intro b hn hi
   rcases hs b hi with e|⟨e,b',_,_,hl⟩
   ·exact⟨b,by rw[gD,e];rfl,hi,e⟩
   ·omega
  |succ n ih=>
   intro b hn hi
   rcases hs b hi with e|⟨e,b',e2,hi',hl⟩
   ·exact⟨b,by rw[gD,e];rfl,hi,e⟩
   ·obtain⟨b2,q1,q2⟩:=ih b' (by omega) hi'
    refine⟨b2,?_,q2⟩
    rw[gD,e]
    simp only[Res.aQ,if_true,e2]
    exact q1
 exact go (μ b) b (Nat.le_refl _) h0
end
end P
namespace P
open PySem PySem.Spec PyProof.Rows L2 M2 M3 M4
def eZ(Q:String→Prop):List String→Prop
 | []=>True
 |c::cs=>Q c∧eZ Q cs
theorem eZ.get{Q:String→Prop}:∀{cs:List String} {C:String},eZ Q cs→cs.contains C=true→Q C
 | [],_,_,h=>by simp at h
 |c::cs,C,⟨h1,h2⟩,h=>by
  by_cases e:C=c
  ·rw[e];exact h1
  ·refine h2.get ?_
   rw[List.contains_cons] at h
   have:(C== c)=false:=by simpa using e
   rw[this,Bool.false_or] at h
   exact h
section
variable{X:Cx}{cm:String→Addr}{K:KK}{E:L2.St→XK}{a b e o:Expr}{es:List Expr}{pos apos:Pos}{m ma mb:M PV}{f:Str}
theorem jk{F:Hp}:∀{fs:List (Str×V)} {ps:List PV} {p:PV},Ğ K F ps (fs.map (·.2))→((fs.map (·.1)).zip ps).lookup f=some p→∃v,fs.lookup f=some v∧Rep K F p v
 | [],ps,p,_,h=>by simp at h
 |(g,v)::fs,ps,p,r,h=>by
  have r':=r.pr
  rw[List.map_cons] at r'
  cases r' with
  |cons r1 t=>
   rename_i q qs
   rw[List.map_cons,List.zip_cons_cons,List.lookup_cons] at h
   rw[List.lookup_cons]
   cases hg:f== g with
   |true=>
    simp only[hg] at h
    cases h
    exact⟨v,rfl,r1⟩
   |false=>
    simp only[hg] at h
    exact jk (Ğ.of t) h
theorem rR.ins{c:Ctx}{F H:Hp}{σ:L2.St}{ρ:Ŏ}{C:String}{ns:List Str}{ps:List PV}{v:V}(s:Same F H)(h:rR K c σ ρ F H (.ins C ns ps) v):∃a dx fs,v=.ref a∧H a=some (.ins (K.cm C) dx fs)∧fs.map (·.1)=ns∧Ğ K F ps (fs.map (·.2)):=by
 rcases h with h|h
 ·unfold Rep at h
  obtain⟨a,dx,fs,h1,h2,h3,h4⟩:=h
  exact⟨a,dx,fs,h1,s _ _ h2,h3,h4⟩
 ·exact h
def bN(cs:List String)(f:Str):PV→Option PV
 | .ins C ns ps=>if cs.contains C=true then(ns.zip ps).lookup f else none
 |_=>none
theorem dM(cs:List String)(hcs:eZ (fun C=>Cls X.K (cm C)∧ľ X.K (cm C) f) cs)(he:PE X e (tR (kk X cm) E m))(hb:attributeBase e f X.env (eval e X.env)=eval e X.env:=by rfl):PE X (.Attribute e f pos) (tV (kk X cm) E (jZ (bN cs f) m)):=
 PE.wk (Xi he hb) fun σ H Q ⟨c,F,ρ,rel,h⟩=>⟨c,F,ρ,rel,h.bind fun p ρ1 v F1 H1 ě _ _ r1 h1=>by
   cases p with
   |ins C ns ps=>
    unfold bN at h1
    dsimp only at h1
    split at h1
    ·rename_i hc
     obtain⟨a,dx,fs,rfl,q2,q3,q4⟩:=r1.ins ě.sub
     cases el:(ns.zip ps).lookup f with
     |none=>rw[el] at h1;exact h1.elim
     |some q=>
      rw[el] at h1
      subst q3
      obtain⟨v,e1,e2⟩:=jk q4 el
      obtain⟨k1,k2⟩:=hcs.get hc
      exact⟨a,_,dx,fs,v,rfl,q2,k1,k2,e1,h1 v F1 H1 ě (Same.refl _) (Same.refl _) e2⟩
    ·exact h1.elim
   |_=>exact h1.elim⟩
def Iv(X:Cx)(cm:String→Addr)(CX:qt)(k n:Nat)(m:Str)(C:String)(mf:MF):Prop:=Cls X.K (cm C)∧∃f fd ps,Meth X.K (cm C) m f∧į X.prog X.w X.K X.mg X.base CX k f fd ps (ž (kk X cm) n mf)∧Binds X.K fd ps []∧
 ∀{ps:List Slot},(∃r,mf ps=r∧∀z,r=z→z≠ .bad)→ps.length=n
def Iw(Q:String→MF→Prop):List (String×MF)→Prop
 | []=>True
 |(c,mf)::cs=>Q c mf∧Iw Q cs
theorem Iw.get{Q:String→MF→Prop}:∀{cs:List (String×MF)} {C:String} {mf:MF},Iw Q cs→cs.lookup C=some mf→Q C mf
 | [],_,_,_,h=>by simp at h
 |(c,g)::cs,C,mf,⟨h1,h2⟩,h=>by
  rw[List.lookup_cons] at h
  cases hc:C== c with
  |true=>
   rw[hc] at h
   cases h
   have:C=c:=by simpa using hc
   rw[this];exact h1
  |false=>
   rw[hc] at h
   exact h2.get h
def oU(m:Str)(qp:List (String×MF))(mo:M PV)(ms:M (List Slot)):M RV:=fun ρ=>(mo ρ).bind fun p ρ1=>match p with
 | .ins C ns ps=>match qp.lookup C with
   |some mf=>if ns.contains m=true then .bad else(ms ρ1).bind fun as ρ2=>match mf (.sh (.ins C ns ps)::as) with
    | .ret r=>.ok r ρ2
    | .exc x=>.exc x ρ2
    | .bad=>.bad
   |none=>.bad
 |_=>.bad
theorem k_{m:Str}:∀{fs:List (Str×V)},(fs.map (·.1)).contains m=false→fs.lookup m=none
 | [],_=>rfl
 |(g,v)::fs,h=>by
  rw[List.map_cons,List.contains_cons,Bool.or_eq_false_iff] at h
  rw[List.lookup_cons,h.1]
  exact k_ h.2
variable{CX:qt}{k n:Nat}{QD:Str}{qp:List (String×MF)}{ms:M (List Slot)}
theorem Iz{c:Ctx}{F H:Hp}{σ:L2.St}{ρ:Ŏ}{Q:VK}(rel:Rel (kk X cm) c F H σ ρ)(h:bA (kk X cm) E (rO (kk X cm)) c F H σ Q (oU QD qp m ms ρ))(Yp:Iw (fun C mf=>Iv X cm CX k n QD C mf) qp) :
 bA (kk X cm) E (rV (kk X cm)) c F H σ (fun x H1=>∃a C dx fs g fd ps mf,x=.ref a∧H1 a=some (.ins C dx fs)∧Cls X.K C∧Meth X.K C QD g∧fs.lookup QD=none∧į X.prog X.w X.K X.mg X.base CX k g fd ps (ž (kk X cm) n mf)∧Binds X.K fd ps []∧
  tA (kk X cm) E ms σ H1 fun vs H2=>ž (kk X cm) n mf (.ref a::vs) H2 Q (E σ)) (m ρ):=
 bA.bind h fun p ρ1 v F1 H1 ě _ _ r1 h1=>by
  cases p with
  |ins C ns ps=>
   dsimp only at h1
   cases el:qp.lookup C with
   |none=>rw[el] at h1;exact h1.elim
   |some mf=>
    rw[el] at h1
    dsimp only at h1
    split at h1
    ·exact h1.elim
    ·rename_i hn
     obtain⟨k1,f,fd,qs,k2,k3,k4,k5⟩:=Yp.get el
     have r1':Rep (kk X cm) F1 (.ins C ns ps) v:=r1
     have r2:=r1'
     unfold Rep at r2
     obtain⟨a,dx,fs,rfl,q2,q3,q4⟩:=r2
     refine⟨a,_,dx,fs,f,fd,qs,mf,rfl,ě.sub _ _ q2,k1,k2,k_ (by rw[q3];simpa using hn),k3,k4,c,F1,ρ1,ě,bA.bind h1 fun as ρ2 vs F2 H2 ŉ sF sH r3 h3=>?_⟩
     exact wM (vs:=.ref a::vs) k5 ŉ (.cons (show cH _ _ _ (.sh _) _ from Rep.same sF _ _ r1') r3) h3
  |_=>exact h1.elim
theorem Sd{pl:Sem Bool}(Yp:Iw (fun C mf=>Iv X cm CX k n QD C mf) qp)(hr:bx k X.A)(hx:bI CX X E)(he:PE X o (tV (kk X cm) E m))
 (ht:eval (.Call (.Attribute o QD apos) [] [] pos) X.env=(do
   let ov ←eval o X.env
   standAt apos.atName
   let (f,first) ←holding [ov] (getMethod ov QD pl)
   callWith pos f first (backTo pos (starEach [] X.env)) (backToKw pos (keywordEach [] X.env))):=by rfl) :
 PE X (.Call (.Attribute o QD apos) [] [] pos) (tO (kk X cm) E (oU QD qp m č)):=by
 intro pins s σ H Q I ⟨c,F,ρ,rel,h⟩
 refine PySem.W.methodCall_KW (pl:=pl) (ŧ (he pins s σ H _ I ⟨c,F,ρ,rel,Iz rel h Yp⟩) fun u s1 ⟨x,H1,I1,rx,a,C,dx,fs,g,fd,ps,mf,ex,ea,cl,k2,l,k3,k4,q⟩=>?_) ht
 subst ex
 obtain rfl:u=Value.ref a:=rx
 refine zX I1 ea cl k2 l ?_
 obtain⟨c1,F1,ρ1,ě,q⟩:=q
 exact PySem.W.callWith_K0 (first:=[.ref a]) I1.dZ k2.kp (Dm (us:=[.ref a]) (vs:=[.ref a]) k3 hr k4 hx I1 (.cons rfl .nil) (q [] F1 H1 ě (Same.refl _) (Same.refl _) .nil))
def putN(f:Str):List Str→List Str
 | []=>[f]
 |g::r=>if g=f then g::r else g::putN f r
def qH(f:Str)(p:PV):List Str→List PV→List PV
 | [],_=>[p]
 |g::r,q::qs=>if g=f then p::qs else q::qH f p r qs
 |_::_,[]=>[]
theorem uF{F:Hp}{p:PV}{y:V}(ry:Rep K F p y):∀{fs:List (Str×V)} {ps:List PV},Ğ K F ps (fs.map (·.2))→(aN f y fs).map (·.1)=putN f (fs.map (·.1))∧Ğ K F (qH f p (fs.map (·.1)) ps) ((aN f y fs).map (·.2))
 | [],ps,r=>⟨rfl,Ğ.cons ry Ğ.nil⟩
 |(g,v)::fs,ps,r=>by
  have r':=r.pr
  rw[List.map_cons] at r'
  cases r' with
  |cons r1 t=>
   rename_i q qs
   unfold aN
   rw[List.map_cons]
   unfold putN qH
   by_cases hg:g=f
   ·rw[if_pos hg,if_pos hg,if_pos hg]
    exact⟨rfl,Ğ.cons ry (Ğ.of t)⟩
   ·rw[if_neg hg,if_neg hg,if_neg hg]
    obtain⟨h1,h2⟩:=uF ry (Ğ.of t)
    exact⟨by rw[List.map_cons,h1],Ğ.cons r1 h2⟩
def iG(i:Nat)(cs:List String)(f:Str)(mv:M PV):M Fl:=fun ρ=>(mv ρ).bind fun p ρ1=>match ρ1[i]? with
 |some (.rc C ns ps)=>if cs.contains C=true∧ns.length<1000 then .ok .nx (ρ1.set i (.rc C (putN f ns) (qH f p ns ps))) else .bad
 |_=>.bad
theorem aU{i:Nat}{x:Str}{px pos':Pos}(cs:List String)(hcs:eZ (fun C=>Cls X.K (cm C)∧ľ X.K (cm C) f) cs)(ho:PE X (.Name x px) (tU i))(he:PE X e (tV (kk X cm) E m))(hs:swapsWith e (some (.Attribute (.Name x px) f pos')) pos.line X.env=pure false:=by rfl) :
 PS X (.Assign [.Attribute (.Name x px) f pos'] e pos) (tS (kk X cm) E (iG i cs f m)):=PS.wk (Xj ho he hs) fun D σ H ⟨c,F,ρ,rel,h⟩=>⟨c,F,ρ,rel,ť.bind h fun p ρ1 y F1 H1 ě s1 ry h1=>by
 cases e1:ρ1[i]? with
 |none=>rw[e1] at h1;exact h1.elim
 |some sl=>
  rw[e1] at h1
  cases sl with
  |rc C ns ps=>
   dsimp only at h1
   split at h1
   ·rename_i hc
    obtain⟨a,dx,fs,q1,q2,q3,q4,q5,q6,q7⟩:=ě.slot i _ e1
    subst q5
    obtain⟨k1,k2⟩:=hcs.get hc.1
    refine⟨.ref a,at_of q1,a,_,dx,fs,rfl,q2,k1,k2,by simpa using hc.2,?_⟩
    obtain⟨z1,z2⟩:=uF (f:=f) (p:=p) ry q6
    exact h1 σ F1 _ (ě.write ⟨_,_,e1,at_of q1,rfl⟩ (at_of q1) ⟨a,dx,_,rfl,Ĩ,q3,q4,z1,z2,q7⟩ fun _ z=>(V.ref.inj z).symm) (Same.refl _)
   ·exact h1.elim
  |_=>exact h1.elim⟩
inductive IR where
 |ok (ns:List Str) (ps:List PV)|exc (x:PX)|bad
abbrev MI:=List Slot→IR
def IR.of:Res Fl→IR
 | .ok .nx (.rc _ ns ps::_)=>.ok ns ps
 | .exc x _=>.exc x
 |_=>.bad
def cV(n k:Nat)(C:String)(mb:M Fl):MI:=fun as=>if as.length+1=n then IR.of (mb (.rc C [] []::startP (k-1) as)) else .bad
structure GrB(a:Addr)(F H F' H':Hp):Prop where
 h:∀b u,b≠a→H b=some u→H' b=some u
 f:Same F F'
 sub:Same F' H'
 out:∀b,b≠a→H b≠none→F b=none→F' b=none
def Zly(K:KK)(E:XK)(F H:Hp)(Q:VK)(a dx:Addr)(C:String):IR→Prop
 | .ok ns ps=>∀F' H' fs,GrB a F H F' H'→H' a=some (.ins (K.cm C) dx fs)→F' a=none→fs.map (·.1)=ns→Ğ K F' ps (fs.map (·.2))→Q .non H'
 | .exc x=>∀C' d F' H',GrB a F H F' H'→Fo K F' x C' d→E C' d H'
 | .bad=>False
def QF(K:KK)(n:Nat)(C:String)(mi:MI):Sp:=fun vs H Q E=>∃F a dx vs' as,vs=.ref a::vs'∧as.length+1=n∧H a=some (.ins (K.cm C) dx [])∧F a=none∧Same F H∧Paired (cH K F H) as vs'∧Zly K E F H Q a dx C (mi as)
def Sg(a dx:Addr)(C:String)(F H:Hp):Ctx:=⟨fun b=>if b=a then none else H b,F,fun b=>if b=a then none else(ctx0 F H).L b,fun a' dx' C'=>a'=a∧dx'=dx∧C'=C⟩
theorem Rel.gri{σ:L2.St}{ρ:Ŏ}{a dx:Addr}{C:String}{F H F' H':Hp}(r:Rel K (Sg a dx C F H) F' H' σ ρ):GrB a F H F' H':=
 ⟨fun b u hb e=>r.base b u (by show(if b=a then none else H b)=_;rw[if_neg hb];exact e),r.f0,r.sub,fun b hb h1 h2=>r.dw b (by show(if b=a then none else H b)≠none;rw[if_neg hb];exact h1) h2⟩
theorem Rel.Yq{F H:Hp}{N:List Str}{as:List Slot}{vs:List V}{a dx:Addr}{C:String}(s:Same F H)(ha:H a=some (.ins (K.cm C) dx []))(hF:F a=none)(h:Paired (cH K F H) as vs) :
 Rel K (Sg a dx C F H) F H (L2.start N (.ref a::vs)) (.rc C [] []::startP (N.length-1) as):=by
 have r0:=Rel.start (N:=N) (K:=K) s (as:=.sh (.int 0)::as) (vs:=.int 0::vs) (.cons (Rep.int (K:=K) (F:=F) (i:=0)) h)
 have est:L2.start N (.ref a::vs)=some (.ref a)::(L2.start N (.int 0::vs)).tail:=by unfold L2.start;simp
 have Zlz:(L2.start N (V.int 0::vs)).tail.length=(startP (N.length-1) as).length:=by
  unfold L2.start startP
  simp[Paired.length h]
  omega
 have tl:∀i:Nat,(L2.start N (.int 0::vs)).tail[i]?=(L2.start N (.int 0::vs))[i+1]?:= fun i=>by simp
 have sp:∀i:Nat,(startP (N.length-1) as)[i]?=(startP N.length (.sh (.int 0)::as))[i+1]?:= fun i=>by
  unfold startP
  simp only[List.cons_append,List.getElem?_cons_succ,List.length_cons]
  rw[show N.length-1-as.length=N.length-(as.length+1) by omega]
 have Dw:∀(i:Nat) (s':Slot),(startP (N.length-1) as)[i]?=some s'→s'.own=false:=fun i s' e=>by
  unfold startP at e
  by_cases hi:i<as.length
  ·rw[List.getElem?_append_left hi] at e
   obtain⟨v,_,h3⟩:=cG h e
   exact(cH.slot h3).2
  ·rw[List.getElem?_append_right (by omega),List.getElem?_replicate] at e
   split at e
   ·cases e;rfl
   ·cases e
 rw[est]
 refine⟨s,fun b u e=>?_,Same.refl _,fun _ _ z=>z,fun b u e=>?_,fun b e=>?_,?_,fun i s' e=>?_,fun i j b h1 h2=>?_⟩
 ·have e':(if b=a then none else H b)=some u:=e
  split at e'
  ·cases e'
  ·exact e'
 ·have e':(if b=a then none else(ctx0 F H).L b)=some u:=e
  split at e'
  ·cases e'
  ·exact gB e'
 ·show(if b=a then none else(ctx0 F H).L b)=none
  have e':(if b=a then none else H b)=none:=e
  split
  ·rfl
  ·rename_i hb
   rw[if_neg hb] at e'
   exact r0.lb b e'
 ·simp[Zlz]
 ·cases i with
  |zero=>
   cases e
   exact⟨a,dx,[],rfl,ha,hF,by show(if a=a then none else H a)=none;rw[if_pos rfl],rfl,Ğ.nil,rfl,rfl,rfl⟩
  |succ i=>
   have e':(startP (N.length-1) as)[i]?=some s':=by simpa using e
   have q:=r0.slot (i+1) s' (by rw[←sp];exact e')
   rw[←tl] at q
   show aP K (Sg a dx C F H) F H (((some (V.ref a)::(L2.start N (.int 0::vs)).tail)[i+1]?).getD none) s'
   rw[List.getElem?_cons_succ]
   cases s' with
   |no=>trivial
   |sh p=>exact q
   |bw ps=>
    obtain⟨b,ws,q1,q2,q3⟩:=q
    refine⟨b,ws,q1,?_,q3⟩
    show(if b=a then none else(ctx0 F H).L b)=_
    rw[if_neg (fun z=>by
     have:=(gB q2).1
     rw[z,ha] at this
     cases this)]
    exact q2
   |ow ps=>have:=Dw i _ e';cases this
   |rc C ns ps=>have:=Dw i _ e';cases this
   |ot ps qs=>have:=Dw i _ e';cases this
 ·have at0:∀{i},Ř F (some (.ref a)::(L2.start N (.int 0::vs)).tail) (Slot.rc C [] []::startP (N.length-1) as) i b→i=0:=fun{i} ⟨s',y,q1,_,q2⟩=>by
   have q2:=eO q2
   cases i with
   |zero=>rfl
   |succ i=>
    have:=Dw i s' (by simpa using q1)
    rw[this] at q2
    cases q2
  rw[at0 h1,at0 h2]
end
section
variable{P:Program}{w:World}{K:PySem.W.Frag}{cm:String→Addr}{mg:Str→Option Value}{base:Heap}{CX:qt}
theorem fnI{x qual:Str}{st:Stmt}{f:Addr}{fd:FuncData}{N ps:List Str}{k n j:Nat}{C:String}{mb:M Fl}{mi:MI}(F:ź K x qual st f fd)(S:Ė N ps (ĉ st))(hn:ps.length=n)(hj:N.length=j)(hf:mi=cV n j C mb)
 (hbody:∀(cdv:Value) (A:Around) (outer:List Env) (s:Shared) (H:Hp) (E:XK),bx k (A.deeper (envOfC qual (ĉ st) s.heap.objs.size f cdv))→
   jc (bT CX P w K mg base N qual (ĉ st) f cdv A outer s H E) (bH st) (tS ⟨K,cm⟩ (fun _=>E) mb)):į P w K mg base CX (k+1) f fd ps (QF ⟨K,cm⟩ n C mi):=by
 subst hn hj hf
 obtain⟨oc,od,kV,doc,pm,an,cdv,ct,osl,rfl,lk,hcd⟩:=F.ex
 refine Hg lk hcd S (fun vs H Q E ⟨F,a,dx,vs',as,h1,h2,_,_,_,h3,_⟩=>by rw[h1,List.length_cons,←Paired.length h3];exact h2) fun A outer s H vs Q E hr hsp=>?_
 obtain⟨F,a,dx,vs',as,rfl,h2,h3,h4,h5,h6,h7⟩:=hsp
 refine⟨_,hbody cdv A outer s H E hr,Sg a dx C F H,F,_,Rel.Yq h5 h3 h4 h6,?_⟩
 unfold cV at h7
 rw[if_pos h2] at h7
 cases e:mb (.rc C [] []::startP (N.length-1) as) with
 |bad=>rw[e] at h7;exact h7
 |exc x ρ'=>rw[e] at h7;exact fun σ' C' d F' H' rel s1 q=>h7 C' d F' H' rel.gri q
 |ok fl ρ'=>
  rw[e] at h7
  cases fl with
  |nx=>
   cases ρ' with
   |nil=>exact h7.elim
   |cons sl ρ'=>
    cases sl with
    |rc C' ns qs=>
     intro σ' F' H' rel s1
     obtain⟨b,dy,fs,q1,q2,q3,q4,q5,q6,rfl,rfl,rfl⟩:=rel.slot 0 _ rfl
     exact h7 F' H' fs rel.gri q2 q3 q5 q6
    |_=>exact h7.elim
  |bk=>exact h7.elim
  |ct=>exact h7.elim
  |rt r=>exact h7.elim
end
def cg(C:String)(mi:MI)(ms:M (List Slot)):M PV:=fun ρ=>(ms ρ).bind fun as ρ1=>match mi as with
 | .ok ns ps=>.ok (.ins C ns ps) ρ1
 | .exc x=>.exc x ρ1
 | .bad=>.bad
section
variable{X:Cx}{cm:String→Addr}{E:L2.St→XK}{e:Expr}{es:List Expr}{pos p:Pos}{CX:qt}{k n:Nat}{f:Addr}{fd:FuncData}{ps:List Str}{C:String}{mi:MI}{ms:M (List Slot)}{x:Str}
theorem IK{c:Ctx}{F1 H1:Hp}{σ:L2.St}{ρ1:Ŏ}{Q:VK}{as:List Slot}{vs:List V}(hlen:(∃r,mi as=r∧∀z,r=z→z≠ .bad)→as.length+1=n)(ě:Rel (kk X cm) c F1 H1 σ ρ1)(r1:Paired (cH (kk X cm) F1 H1) as vs)
 (h:bA (kk X cm) E (rV (kk X cm)) c F1 H1 σ Q (match mi as with| .ok ns ps=>.ok (.ins C ns ps) ρ1| .exc x=>.exc x ρ1| .bad=>.bad)) :
 ∀x dx,H1 x=none→H1 dx=none→dx≠x→QF (kk X cm) n C mi (.ref x::vs) (upd (upd H1 dx (.own x)) x (.ins (cm C) dx [])) (fun v H2=>v=.non∧Q (.ref x) H2) (E σ):=by
 intro x dx hx hdx hne
 have up:∀b u,H1 b=some u→upd (upd H1 dx (.own x)) x (.ins (cm C) dx []) b=some u:=fun b u e=>by
  rw[Ĝ (ĩ e hx),Ĝ (ĩ e hdx)];exact e
 have Sh:∀{F' H':Hp},GrB x F1 (upd (upd H1 dx (.own x)) x (.ins (cm C) dx [])) F' H'→Gr F1 H1 F' H':=fun{F' H'} g=>
  ⟨fun b u e=>g.h b u (ĩ e hx) (up b u e),g.f,g.sub,fun b hb hf=>by
    obtain⟨u,hu⟩:∃u,H1 b=some u:=by
     cases q:H1 b with
     |none=>exact absurd q hb
     |some u=>exact⟨u,rfl⟩
    exact g.out b (ĩ hu hx) (by rw[up b u hu];intro z;cases z) hf⟩
 refine⟨F1,x,dx,vs,as,rfl,?_,Ĩ,ě.sub.free hx,fun b u e=>up b u (ě.sub b u e),?_,?_⟩
 ·refine hlen ⟨_,rfl,fun z hz hb=>?_⟩
  rw[hz,hb] at h
  exact h
 ·refine Paired.mono (fun s v hs=>?_) r1
  cases s with
  |sh p=>exact hs
  |bw qs=>
   obtain⟨b,ws,q1,q2,q3,q4⟩:=hs
   exact⟨b,ws,q1,up b _ q2,q3,q4⟩
  |_=>exact hs.elim
 ·cases em:mi as with
  |bad=>rw[em] at h;exact h
  |exc y=>rw[em] at h;exact fun C' d F' H' g rx=>h C' d F' H' (ě.call (Sh g)) g.f rx
  |ok ns qs=>
   rw[em] at h
   intro F' H' fs g hx' hF' hn hr
   have r2:=ě.call (Sh g)
   have r3:=r2.freeze hx' (ě.base.free hx) hF' (ě.ud (Sh g).f (ě.fresh hx))
   refine⟨rfl,h _ _ H' r3 (g.f.trans (Same.upd hF')) (Sh g).h ?_⟩
   show Rep _ _ _ _
   unfold Rep
   exact⟨x,dx,fs,rfl,Ĩ,hn,Ğ.same (Same.upd hF') qs _ hr⟩
theorem Fw{pins:List (Addr×Obj)}{σ:L2.St}{H:Hp}{s:Shared}{Q:VK}{us:List Value}{vs:List V}{sp:Sp}{C:Addr}(M:Mk X.K C f)(F:į X.prog X.w X.K X.mg X.base CX k f fd ps sp)(hr:bx (k+1) X.A)(hb:Binds X.K fd ps [])
 (hx:bI CX X E)(I:Inv X pins σ H s)(r:Vals vs us)
 (h:∀x dx,H x=none→H dx=none→dx≠x→sp (.ref x::vs) (upd (upd H dx (.own x)) x (.ins C dx [])) (fun v H2=>v=.non∧Q (.ref x) H2) (E σ)) :
 wpAny (model X.prog X.w) X.A (call (.ref C) us) (EP X pins σ Q) X.xe s:=by
 have hq:=h (s.heap.objs.size+1) s.heap.objs.size (I.hok.fresh (Nat.le_succ _)) (I.hok.fresh (Nat.le_refl _)) (Nat.ne_of_lt (Nat.lt_succ_self _))
 have I2:=Inv.made (C:=C) I
 have r2:Vals (V.ref (s.heap.objs.size+1)::vs) (Value.ref (s.heap.objs.size+1)::us):=.cons rfl r
 have hl:(Value.ref (s.heap.objs.size+1)::us ++ []).length=ps.length:=by
  have e:=r2.length
  rw[F.len _ _ _ _ hq] at e
  rw[List.append_nil]
  exact e.symm
 have hbd:=hb {s with heap:=(s.heap.push PySem.W.emptyDict).push (PySem.W.instObj C s.heap.objs.size)} (Value.ref (s.heap.objs.size+1)::us) I2.dZ hl
 rw[List.append_nil] at hbd
 refine wpAny_call (Hf (f:=f) I.dZ M.makes M.init (beq_iff_eq.mp M.fn) (codeAny_mono (F.run _ X.stack _ _ ⟨Value.ref (s.heap.objs.size+1)::us,[]⟩ _ _ _ (E σ) (hr.make C us []) (I2.env0.make C us []) hbd r2 hq) fun r s' hq'=>?_))
 cases r with
 |error e=>exact hx pins σ _ _ e s' I2 hq'
 |ok fl=>
  cases fl with
  |ret u=>
   obtain⟨v,H',I3,rv,ev,q3⟩:=I2.after hq'
   subst ev
   exact⟨rv,⟨V.ref (s.heap.objs.size+1),H',I3,rfl,q3⟩⟩
  |next=>exact False.elim hq'
  |brk=>exact False.elim hq'
  |cont=>exact False.elim hq'
theorem cD{n k:Nat}{C:String}{mb:M Fl}{as:List Slot}(h:∃r,cV n k C mb as=r∧∀z,r=z→z≠ .bad):as.length+1=n:=by
 obtain⟨r,h1,h2⟩:=h
 unfold cV at h1
 by_cases hl:as.length+1=n
 ·exact hl
 ·rw[if_neg hl] at h1
  exact absurd h1.symm (fun z=>h2 .bad (by rw[←h1]) rfl)
theorem lq(M:Mk X.K (cm C) f)(F:į X.prog X.w X.K X.mg X.base CX k f fd ps (QF (kk X cm) n C mi))(hlen:∀{as:List Slot},(∃r,mi as=r∧∀z,r=z→z≠ .bad)→as.length+1=n)(hr:bx (k+1) X.A)(hg:Gl X x)(hm:X.mg x=some (.ref (cm C)))(hb:Binds X.K fd ps [])(hx:bI CX X E)
 (ha:PA X (e::es) (tA (kk X cm) E ms))(hdb:(x== ("__debug__" :Str))=false:=by decide)(he:starEach (e::es) X.env=(false,eval e X.env)::starEach es X.env:=by exact ī rfl)(hpl:(backTo pos (starEach es X.env)).any (·.1)=false:=by rfl) :
 PE X (.Call (.Name x p) (e::es) [] pos) (tV (kk X cm) E (cg C mi ms)):=by
 intro pins s σ H Q I ⟨c,F',ρ,rel,h⟩
 refine wpAny_Call_Name_kw (gR I hg hm ?_ hdb)
 refine PySem.W.callWith_K (h₀:= X.base) I.ok.mod.kin M.kp (ŧ (ha pos pins s σ H (fun vs H1=>∀x dx,H1 x=none→H1 dx=none→dx≠x→QF (kk X cm) n C mi (.ref x::vs) (upd (upd H1 dx (.own x)) x (.ins (cm C) dx [])) (fun v H2=>v=.non∧Q (.ref x) H2) (E σ)) I
  ⟨c,F',ρ,rel,bA.bind h fun as ρ1 vs F1 H1 ě _ _ r1 h1=>IK hlen ě r1 h1⟩) fun us s1 ⟨vs,H1,I1,r,q⟩=>⟨I1.dZ,?_⟩) he hpl
 exact Fw M F hr hb hx I1 r q
end
end P
namespace P
open PySem PySem.Spec PyProof.Rows L2 M2 M3 M4
def UG(B:Heap)(e:Addr)(C:Value)(d:Option Addr)(fl:Value)(h:Heap):Prop:=
 ∃oe vs T oT ts,h.get? e=some oe∧(oe.cls=C∧oe.dict=d)∧oe.data=.fields vs∧vs[1]?=some (.ref T)∧B.get? T=none∧T≠e∧h.get? T=some oT∧oT.data=.fields ts∧ts[3]?=some fl
structure Moved(h h':Heap):Prop where
 up:h.UpToSlots h'
 there:∀b o,h.get? b=some o→∃o',h'.get? b=some o'
theorem Moved.trans{h h1 h2:Heap}(a:Moved h h1)(b:Moved h1 h2):Moved h h2:=⟨a.up.trans b.up,fun c o e=>let ⟨o1,e1⟩:=a.there c o e;b.there c o1 e1⟩
theorem Fx(o:Obj)(f:Array Value→Array Value):(o.mapFields f).dict=o.dict:=by
 obtain⟨c,d,dt,sl⟩:=o
 cases dt<;>rfl
section
variable{M:Model}{A:Around}{E:Value→Shared→Prop}{s:Shared}{B:Heap}{env:Env}{outer:List Env}{L e:Addr}{Q:Unit→Shared→Prop}
theorem Zds{oe:Obj}{vs:Array Value}{head:Value}{nxt:Bool}(hfr:A.frames=some (env::outer))(hl:s.heap.FunFrames B (env::outer))(hf:env.frame=some L)
 (he:s.heap.get? e=some oe)(hkb:B.StaysIn s.heap)(hen:B.get? e=none)(hd:oe.data=.fields vs)(hsz:1<vs.size)
 (k:∀h',B.StaysIn h'→h'.FunFrames B (env::outer)→UG B e oe.cls oe.dict (rawInt L) h'→Moved s.heap h'→Q () {s with heap:=h'}) :
 wpAny M A (do
  let a ←frameOf env
  let pl ←entryPlaceOf L nxt
  let b ←EntryCells.newEntry head a .none (rawInt L) .none pl
  setField (.ref e) 1 b) Q E s:=by
 have out:e∉(env::outer).filterMap (·.frame):=fun z=>by
  obtain⟨_,o,ho,hn⟩:=hl.mem z
  rw[he] at ho
  cases ho
  exact hn vs hd
 refine wpAny_bind (wpAny_frameOf_fun hfr hl hf fun g1 so=>?_)
 refine wpAny_bind (wpAny_entryPlaceOf fun pl hpl=>?_)
 unfold EntryCells.newEntry newFields
 refine wpAny_bind (wpAny_newObj_type ?_ (hpl.sizeOk5 _ _ _ _ _))
 have e1:g1.get? e=some oe:=(so.2.1 e out).trans he
 have b1:B.StaysIn g1:=fun b o q=>(so.2.1 b fun z=>by
  rw[(hl.mem z).1] at q
  cases q).trans (hkb b o q)
 generalize hnw:([head,Value.ref L,.none,rawInt L,.none]++(if pl.isEmpty then List.replicate 6 Value.none else pl))=nw
 have n3:nw.toArray[3]?=some (rawInt L):=by rw[←hnw];simp
 dsimp only
 have e2:=Heap.get?_push_of_some (h:=g1) {cls:=.type "traceback",dict:=none,data:=.fields nw.toArray} e1
 refine wpAny_setField e2 hd hsz ?_
 have ne:g1.objs.size≠e:=Nat.ne_of_gt (Heap.lt_size e1)
 have d3:=Obj.data_mapFields hd (·.setIfInBounds 1 (Value.ref g1.objs.size))
 have e3:=Heap.get?_update_self (Obj.mapFields (·.setIfInBounds 1 (Value.ref g1.objs.size))) e2 (Obj.isFreed_of_fields d3)
 have kp:∀b o,b≠e→g1.get? b=some o→((g1.push {cls:=.type "traceback",dict:=none,data:=.fields nw.toArray}).update e (Obj.mapFields (·.setIfInBounds 1 (Value.ref g1.objs.size)))).get? b=some o:=fun b o hb q=>by
  rw[Heap.get?_update_other _ _ (Ne.symm hb)]
  exact Heap.get?_push_of_some _ q
 have t3:((g1.push {cls:=.type "traceback",dict:=none,data:=.fields nw.toArray}).update e (Obj.mapFields (·.setIfInBounds 1 (Value.ref g1.objs.size)))).get? g1.objs.size=some {cls:=.type "traceback",dict:=none,data:=.fields nw.toArray}:=by
  rw[Heap.get?_update_other _ _ (Ne.symm ne)]
  exact Heap.get?_push_size g1 rfl
 have nr:∀b o,s.heap.get? b=some o→(∀ws,o.data≠ .fields ws)→b≠e:=fun b o q hn z=>by
  rw[z,he] at q
  cases q
  exact hn vs hd
 refine k _ (fun b o q=>kp b o (fun z=>by rw[z,hen] at q;cases q) (b1 b o q)) (hl.of_keeps fun b o q hn=>?_) ?_ ⟨fun b o q hn=>?_,fun b o q=>?_⟩
 ·obtain⟨sl,z⟩:=so.2.2 b o q
  exact⟨_,kp b _ (nr b o q hn) z,rfl⟩
 ·exact⟨_,_,g1.objs.size,_,_,e3,⟨Obj.cls_mapFields _ _,Fx _ _⟩,d3,by simp[hsz],b1.fresh,ne,t3,rfl,n3⟩
 ·obtain⟨sl,z⟩:=so.2.2 b o q
  exact⟨sl,kp b _ (nr b o q hn) z⟩
 ·obtain⟨sl,z⟩:=so.2.2 b o q
  by_cases hb:b=e
  ·rw[hb];exact⟨_,e3⟩
  ·exact⟨_,kp b _ hb z⟩
theorem Sq{oe:Obj}{vs:Array Value}(hfr:A.frames=some (env::outer))(hl:s.heap.FunFrames B (env::outer))(hf:env.frame=some L)(he:s.heap.get? e=some oe)(hkb:B.StaysIn s.heap)(hen:B.get? e=none)
 (hd:oe.data=.fields vs)(h1:vs[1]?=some .none)(k:∀h',B.StaysIn h'→h'.FunFrames B (env::outer)→UG B e oe.cls oe.dict (rawInt L) h'→Moved s.heap h'→Q () {s with heap:=h'}) :
 wpAny M A (noteFrame (.ref e) env) Q E s:=by
 unfold noteFrame
 simp only[hf]
 refine wpAny_bind (wpAny_field he hd h1 ?_)
 rw[if_neg (by decide)]
 exact Zds hfr hl hf he hkb hen hd (Array.getElem?_eq_some_iff.mp h1).1 k
theorem IV{C:Value}{d:Option Addr}(hfr:A.frames=some (env::outer))(hl:s.heap.FunFrames B (env::outer))(hf:env.frame=some L)(ht:UG B e C d .none s.heap)(hkb:B.StaysIn s.heap)(hen:B.get? e=none)
 (k:∀h',B.StaysIn h'→h'.FunFrames B (env::outer)→UG B e C d (rawInt L) h'→Moved s.heap h'→Q () {s with heap:=h'}):wpAny M A (noteFrame (.ref e) env) Q E s:=by
 obtain⟨oe,vs,T,oT,ts,he,⟨rfl,rfl⟩,hd,h1,hT,hTe,hT2,hdT,h3⟩:=ht
 unfold noteFrame
 simp only[hf]
 refine wpAny_bind (wpAny_field he hd h1 ?_)
 rw[if_pos (show(Value.ref T != Value.none)=true by simp)]
 refine wpAny_bind (wpAny_field hT2 hdT h3 ?_)
 rw[if_neg (show ¬((Value.none== rawInt L)=true) by simp[rawInt])]
 refine wpAny_bind (wpAny_setField hT2 hdT (Array.getElem?_eq_some_iff.mp h3).1 ?_)
 have oth:∀b,b≠T→(s.heap.update T (Obj.mapFields (·.setIfInBounds 3 Value.none))).get? b=s.heap.get? b:=fun b hb=>Heap.get?_update_other _ _ (Ne.symm hb)
 have nr:∀b o,s.heap.get? b=some o→(∀ws,o.data≠ .fields ws)→b≠T:=fun b o q hn z=>by
  rw[z,hT2] at q
  cases q
  exact hn ts hdT
 refine Zds hfr (hl.of_keeps fun b o q hn=>⟨o,(oth b (nr b o q hn)).trans q,rfl⟩) hf ((oth e (Ne.symm hTe)).trans he) (fun b o q=>(oth b fun z=>by rw[z,hT] at q;cases q).trans (hkb b o q)) hen hd (Array.getElem?_eq_some_iff.mp h1).1
  fun h' x1 x2 x3 x4=>k h' x1 x2 x3 (Moved.trans ⟨fun b o q hn=>⟨o.slots,(oth b (nr b o q hn)).trans q⟩,fun b o q=>?_⟩ x4)
 by_cases hb:b=T
 ·rw[hb];exact⟨_,Heap.get?_update_self _ hT2 (Obj.isFreed_of_fields (Obj.data_mapFields hdT _))⟩
 ·exact⟨o,(oth b hb).trans q⟩
theorem nH{C fl:Value}{d:Option Addr}{l:List Env}(hkb:B.StaysIn s.heap)(hl:s.heap.FunFrames B l)(ht:UG B e C d fl s.heap)
 (k:∀h',B.StaysIn h'→h'.FunFrames B l→UG B e C d .none h'→Moved s.heap h'→Q () {s with heap:=h'}):wpAny M A (setFlight (.ref e) none) Q E s:=by
 obtain⟨oe,vs,T,oT,ts,he,hc,hd,h1,hT,hTe,hT2,hdT,h3⟩:=ht
 have z3:3<ts.size:=(Array.getElem?_eq_some_iff.mp h3).1
 have oth:∀b,b≠T→(s.heap.update T (Obj.mapFields (·.setIfInBounds 3 ((none:Option Addr).elim Value.none fun f=>rawInt f)))).get? b=s.heap.get? b:=fun b hb=>Heap.get?_update_other _ _ (Ne.symm hb)
 have nr:∀b o,s.heap.get? b=some o→(∀ws,o.data≠ .fields ws)→b≠T:=fun b o q hn z=>by
  rw[z,hT2] at q
  cases q
  exact hn ts hdT
 unfold setFlight
 refine wpAny_bind (wpAny_field he hd h1 ?_)
 rw[if_pos (show(Value.ref T != Value.none)=true by simp)]
 refine wpAny_setField hT2 hdT z3 (k _ (fun b o q=>(oth b fun z=>by rw[z,hT] at q;cases q).trans (hkb b o q)) (hl.of_keeps fun b o q hn=>⟨o,(oth b (nr b o q hn)).trans q,rfl⟩) ?_ ⟨fun b o q hn=>⟨o.slots,(oth b (nr b o q hn)).trans q⟩,fun b o q=>?_⟩)
 rotate_left
 ·by_cases hb:b=T
  ·rw[hb];exact⟨_,Heap.get?_update_self _ hT2 (Obj.isFreed_of_fields (Obj.data_mapFields hdT _))⟩
  ·exact⟨o,(oth b hb).trans q⟩
 exact⟨oe,vs,T,_,_,(oth e (Ne.symm hTe)).trans he,hc,hd,h1,hT,hTe,Heap.get?_update_self _ hT2 (Obj.isFreed_of_fields (Obj.data_mapFields hdT _)),Obj.data_mapFields hdT _,by simp[z3]⟩
end
theorem oV{P:Program}{w:World}{H:Hp}{h:Heap}{a:Addr}{o:HO}(x:Ţ P w H h a o):∃ob,h.get? a=some ob:=by
 cases o with
 |lst xs=>obtain⟨_,_,_,_,e⟩:=x;exact⟨_,e⟩
 |tup xs=>obtain⟨_,_,_,ob,e,_⟩:=x;exact⟨_,e⟩
 |dK kvs=>obtain⟨_,_,_,_,ob,_,_,e,_⟩:=x;exact⟨_,e⟩
 |dT kvs=>obtain⟨_,_,_,_,ob,_,_,e,_⟩:=x;exact⟨_,e⟩
 |set S n=>obtain⟨ob,_,_,_,e,_⟩:=x;exact⟨_,e⟩
 |ins C dx fs=>obtain⟨_,_,_,e,_⟩:=x;exact⟨_,e⟩
 |own y=>exact x
 |xd fs=>obtain⟨_,⟨ob,_,_,e,_⟩,_⟩:=x;exact⟨_,e⟩
 |rng lo hi=>obtain⟨_,_,_,e⟩:=x;exact⟨_,e⟩
 |dw ob u=>obtain⟨e,_⟩:=x;exact⟨_,e⟩
 |qp ps=>exact⟨_,(show h.get? a=some _ from x)⟩
 |met f y=>exact⟨_,(show h.get? a=some _ from x)⟩
 |ext φ=>obtain⟨_,e,_⟩:=x;exact e
theorem dz.sub{P:Program}{w:World}{H:Hp}{h B:Heap}(x:dz P w H h)(k:∀b o u,H b=some u→h.get? b=some o→B.get? b=some o):dz P w H B:=fun a o e=>
 (x a o e).stay (fun b u hb q=>by
   rcases hb with rfl|hb
   ·exact k _ _ _ e q
   ·exact k _ _ _ hb q) (fun _ q=>q) fun _ _ q=>q
structure UnX(fs:List Addr)(H H':Hp)(h B h':Heap):Prop where
 keep:∀b o,h.get? b=some o→H b=none→b∉fs→B.get? b=some o
 slot:∀b o,h.get? b=some o→H b=none→b∈fs→∃sl,h'.get? b=some {o with slots:=sl}
 free:∀b o,h.get? b=some o→H b=none→H' b=none
 there:∀b o,h.get? b=some o→∃o',h'.get? b=some o'
 tups:∀b xs,H b=some (.tup xs)→H' b=some (.tup xs)
 dY:∀b o u,H b=some (.dw o u)→H' b=some (.dw o u)
 fU:∀b ps,H b=some (.qp ps)→∃more,H' b=some (.qp (ps++more))
theorem UnX.un{fs:List Addr}{H H':Hp}{h B h':Heap}(u:UnX fs H H' h B h')(k:B.StaysIn h'):Un fs [] H H' h h':=
 ⟨fun b o e n hb _=>k b o (u.keep b o e n hb),fun b o e n hb _=>u.slot b o e n hb,fun b o e n _=>u.free b o e n,fun b o e _=>u.there b o e,u.tups,u.dY,u.fU⟩
structure Lies(P:Program)(w:World)(outer:List Env)(H:Hp)(s:Shared)(ea:Addr)(C:Value)(d:Option Addr)(fl:Value)(H':Hp)(B:Heap)(s':Shared):Prop where
 os:s'.os=s.os
 bare:AllBare s'.gens
 st:B.StaysIn s'.heap
 en:B.get? ea=none
 fr:s'.heap.FunFrames B outer
 tr:UG B ea C d fl s'.heap
 hok:dz P w H' B
 un:UnX (frs outer) H H' s.heap B s'.heap
 no:H' ea=none
 new:s.heap.get? ea=none
theorem Lies.move{P:Program}{w:World}{outer:List Env}{H:Hp}{s s':Shared}{ea:Addr}{C fl fl':Value}{d:Option Addr}{H':Hp}{B h':Heap}(l:Lies P w outer H s ea C d fl H' B s')(st:B.StaysIn h')(fr:h'.FunFrames B outer)(tr:UG B ea C d fl' h')(mv:Moved s'.heap h') :
 Lies P w outer H s ea C d fl' H' B {s' with heap:=h'}:=
 ⟨l.os,l.bare,st,l.en,fr,tr,l.hok,⟨l.un.keep,fun b o q n hb=>by
   obtain⟨sl,q2⟩:=l.un.slot b o q n hb
   obtain⟨_,o',q3,hn⟩:=l.fr.mem hb
   rw[q2] at q3
   cases q3
   obtain⟨Yr,q3⟩:=mv.up b _ q2 hn
   exact⟨Yr,q3⟩,l.un.free,fun b o q=>by
   obtain⟨o2,q2⟩:=l.un.there b o q
   exact mv.there b o2 q2,l.un.tups,l.un.dY,l.un.fU⟩,l.no,l.new⟩
def Ů(P:Program)(w:World):qt:=fun outer H s E e s'=>∃ea C d H' B,e=.ref ea∧Lies P w outer H s ea C d .none H' B s'∧E C d H'
theorem rz{P:Program}{w:World}{outer:List Env}{H:Hp}{s s':Shared}{e:Value}(h:Ů P w outer H s (fun _ _ _=>False) e s'):False:=by
 obtain⟨_,_,_,_,_,_,_,h⟩:=h
 exact h
theorem aK{P:Program}{w:World}{X:Cx}:bI (Ů P w) X EF:=fun _ _ _ _ _ _ _ h=>(rz h).elim
section
variable{P:Program}{w:World}{K:PySem.W.Frag}{mg:Str→Option Value}{base:Heap}{N:List Str}{qual:Str}{scope:Scope}{f:Addr}{cdv:Value}{A:Around}{outer:List Env}{s₀:Shared}{H₀:Hp}{E:XK}
theorem ġ:bI (Ů P w) (bT (Ů P w) P w K mg base N qual scope f cdv A outer s₀ H₀ E) (fun _=>E):=by
 intro pins σ H s e s' I h
 obtain⟨ea,C,d,H',B,rfl,l,hE⟩:=h
 have hfr:(A.deeper (envOfC qual scope s₀.heap.objs.size f cdv)).frames=some (envOfC qual scope s₀.heap.objs.size f cdv::outer):=I.ok.frames
 show wpAny _ _ (leaving _ _) _ _ s'
 unfold leaving
 refine wpAny_bind (IV hfr l.fr rfl l.tr l.st l.en fun h1 x1 x2 x3 x4=>?_)
 refine nH (s:={s' with heap:=h1}) x1 x2 x3 fun h2 y1 y2 y3 y4=>?_
 obtain⟨_,_,y2'⟩:=y2
 have mv:=x4.trans y4
 have QC:∀b o,s₀.heap.get? b=some o→b∉frs outer→b∉frs (envOfC qual scope s₀.heap.objs.size f cdv::outer):=fun b o q hb z=>by
  rcases List.mem_cons.mp (show b∈s₀.heap.objs.size::frs outer from z) with z|z
  ·exact absurd (Heap.lt_size q) (by rw[z];exact Nat.lt_irrefl _)
  ·exact hb z
 have inL:∀b,b∈frs outer→b∈frs (envOfC qual scope s₀.heap.objs.size f cdv::outer):=fun b z=>List.mem_cons_of_mem _ z
 refine⟨ea,C,d,H',B,rfl,⟨l.os.trans I.os,l.bare,y1,l.en,y2',y3,l.hok,⟨fun b o q n hb=>?_,fun b o q n hb=>?_,fun b o q n=>?_,fun b o q=>?_,fun b xs q=>l.un.tups b xs (I.base.tups b xs q),fun b o u q=>l.un.dY b o u (I.base.dY b o u q),fun b ps q=>?_⟩,l.no,?_⟩,hE⟩
 ·exact l.un.keep b o (I.base.keep b o q n hb (by simp[bT])) (I.base.free b o q n (by simp[bT])) (QC b o q hb)
 ·obtain⟨sl,q1⟩:=I.base.slot b o q n hb (by simp[bT])
  obtain⟨sl2,q2⟩:=l.un.slot b _ q1 (I.base.free b o q n (by simp[bT])) (inL b hb)
  have nf:∀vs,o.data≠ .fields vs:=by
   obtain⟨_,o',q3,hn⟩:=l.fr.mem (inL b hb)
   rw[q2] at q3
   cases q3
   exact hn
  obtain⟨Yr,q3⟩:=mv.up b _ q2 nf
  exact⟨Yr,q3⟩
 ·obtain⟨o1,q1⟩:=I.base.there b o q (by simp[bT])
  exact l.un.free b o1 q1 (I.base.free b o q n (by simp[bT]))
 ·obtain⟨o1,q1⟩:=I.base.there b o q (by simp[bT])
  obtain⟨o2,q2⟩:=l.un.there b o1 q1
  exact mv.there b o2 q2
 ·obtain⟨m1,e1⟩:=I.base.fU b ps q
  obtain⟨m2,e2⟩:=l.un.fU b _ e1
  exact⟨m1++m2,by rw[e2,Array.append_assoc]⟩
 ·cases q:s₀.heap.get? ea with
  |none=>rfl
  |some o=>
   obtain⟨o1,q1⟩:=I.base.there ea o q (by simp[bT])
   rw[l.new] at q1
   cases q1
theorem Ys{pins:List (Addr×Obj)}{σ:L2.St}{H:Hp}{s:Shared}{e:Addr}{oe:Obj}{vs:Array Value}(I:Inv (bT (Ů P w) P w K mg base N qual scope f cdv A outer s₀ H₀ E) pins σ H s)
 (he:s.heap.get? e=some oe)(hd:oe.data=.fields vs)(h1:vs[1]?=some .none)(hn:H e=none)(hnew:s₀.heap.get? e=none)(hE:E oe.cls oe.dict H) :
 (bT (Ů P w) P w K mg base N qual scope f cdv A outer s₀ H₀ E).xe (.ref e) s:=by
 have hfr:(A.deeper (envOfC qual scope s₀.heap.objs.size f cdv)).frames=some (envOfC qual scope s₀.heap.objs.size f cdv::outer):=I.ok.frames
 have st:s.heap.FunFrames base (envOfC qual scope s₀.heap.objs.size f cdv::outer):=I.stack
 have nof:e∉frs (envOfC qual scope s₀.heap.objs.size f cdv::outer):=fun z=>by
  obtain⟨_,o,q,hn⟩:=st.mem z
  rw[he] at q
  cases q
  exact hn vs hd
 have hin:∀env∈(envOfC qual scope s₀.heap.objs.size f cdv::outer),∀a,env.frame=some a→a∈e::frs (envOfC qual scope s₀.heap.objs.size f cdv::outer):=fun env h1 a h2=>List.mem_cons_of_mem _ (List.mem_filterMap.mpr ⟨env,h1,h2⟩)
 have hl:s.heap.FunFrames (PySem.W.hideAll s.heap (e::frs (envOfC qual scope s₀.heap.objs.size f cdv::outer))) (envOfC qual scope s₀.heap.objs.size f cdv::outer):=PySem.W.funFrames_hide st hin
 have hB:∀b o,s.heap.get? b=some o→b≠e→b∉frs (envOfC qual scope s₀.heap.objs.size f cdv::outer)→(PySem.W.hideAll s.heap (e::frs (envOfC qual scope s₀.heap.objs.size f cdv::outer))).get? b=some o:=fun b o q h1 h2=>
  PySem.W.hideAll_get _ q fun z=>(List.mem_cons.mp z).elim h1 h2
 have QC:∀b o,s₀.heap.get? b=some o→b∉frs outer→b∉frs (envOfC qual scope s₀.heap.objs.size f cdv::outer):=fun b o q hb z=>by
  rcases List.mem_cons.mp (show b∈s₀.heap.objs.size::frs outer from z) with z|z
  ·exact absurd (Heap.lt_size q) (by rw[z];exact Nat.lt_irrefl _)
  ·exact hb z
 have ne0:∀b o,s₀.heap.get? b=some o→b≠e:=fun b o q z=>by rw[z,hnew] at q;cases q
 have kb:(PySem.W.hideAll s.heap (e::frs (envOfC qual scope s₀.heap.objs.size f cdv::outer))).StaysIn s.heap:=fun b o q=>PySem.W.of_hideAll _ q
 have en:(PySem.W.hideAll s.heap (e::frs (envOfC qual scope s₀.heap.objs.size f cdv::outer))).get? e=none:=PySem.W.hideAll_none _ List.mem_cons_self
 show wpAny _ _ (leaving _ _) _ _ s
 unfold leaving
 refine wpAny_bind (Sq hfr hl rfl he kb en hd h1 fun g1 x1 x2 x3 x4=>?_)
 refine nH (s:={s with heap:=g1}) x1 x2 x3 fun g2 y1 y2 y3 y4=>?_
 obtain⟨_,_,y2'⟩:=y2
 have mv:=x4.trans y4
 refine⟨e,oe.cls,oe.dict,H,_,rfl,⟨I.os,I.bare,y1,en,y2',y3,?_,⟨fun b o q n hb=>?_,fun b o q n hb=>?_,fun b o q n=>?_,fun b o q=>?_,I.base.tups,I.base.dY,I.base.fU⟩,hn,hnew⟩,hE⟩
 ·refine dz.sub I.hok fun b o u hu q=>hB b o q (fun z=>by rw[z,hn] at hu;cases hu) fun z=>?_
  have:=I.tQ b z
  rw[hu] at this
  cases this
 ·exact hB b o (I.base.keep b o q n hb (by simp[bT])) (ne0 b o q) (QC b o q hb)
 ·obtain⟨sl,q1⟩:=I.base.slot b o q n hb (by simp[bT])
  have nf:∀vs,o.data≠ .fields vs:=by
   obtain⟨_,o',q3,hn⟩:=st.mem (List.mem_cons_of_mem _ hb)
   rw[q1] at q3
   cases q3
   exact hn
  obtain⟨Yr,q3⟩:=mv.up b _ q1 nf
  exact⟨Yr,q3⟩
 ·exact I.base.free b o q n (by simp[bT])
 ·obtain⟨o1,q1⟩:=I.base.there b o q (by simp[bT])
  exact mv.there b o1 q1
end
end P
namespace P
open PySem PySem.Spec PyProof.Rows L2 M2 M3 M4
abbrev wu:List Value:=[.type "ValueError",.type "Exception",.type "BaseException",.type "object"]
abbrev IW:String:= "ValueError.__new__"
section
variable{K:PySem.W.Frag}{h:Heap}{C:Addr}{bmB:List Value}{newId:String}
theorem Yt(X:K.In h)(q:PySem.W.excIn K C bmB newId=true) :
 ∃bm N nm qn bs hd sn sub ab col dd k0 k1 k2 k3 k5 mN,h.get? C=some (excClassObj nm qn C N bs bm hd sn sub ab col dd k0 k1 k2 k3 k5 newId)∧h.Ns N mN∧mN "__init__" =none∧OwnTail h bmB bm:=by
 unfold PySem.W.excIn at q
 split at q
 case h_2=>cases q
 rename_i dd cd sl ho
 split at q
 case h_2=>cases q
 rename_i C1 bm k0 k1 k2 k3 n1 k5 e1 e2
 simp only[Bool.and_eq_true,beq_iff_eq,Bool.not_eq_true'] at q
 obtain⟨⟨⟨⟨⟨z1,z2⟩,z3⟩,z4⟩,z5⟩,z6⟩:=q
 subst z1 z2
 obtain⟨nm,bs,mro,ns,qn,hd,sn,sub,ab,col,del⟩:=cd
 dsimp only at e1 z3 z5 z6
 subst e1 z3
 obtain⟨sll⟩:=sl
 dsimp only at e2
 subst e2
 exact⟨bm,ns,nm,qn,bs,hd,sn,sub,ab,col,dd,k0,k1,k2,k3,k5,_,X _ _ ho,.of_isNs (PySem.W.isNs_of_in X z5),PySem.W.nsMap_none_of_in X z5 z6,PySem.W.tail_of_in X z4⟩
end
def uG(X:Cx)(E:L2.St→XK):Prop:=∀(pins:List (Addr×Obj)) (σ:L2.St) (H:Hp) (s:Shared) (e:Addr) (oe:Obj) (vs:Array Value),Inv X pins σ H s→s.heap.get? e=some oe→oe.data=.fields vs→vs[1]?=some .none→H e=none→
 X.s₀.heap.get? e=none→E σ oe.cls oe.dict H→X.xe (.ref e) s
theorem nJ{P:Program}{w:World}{K:PySem.W.Frag}{mg:Str→Option Value}{base:Heap}{N:List Str}{qual:Str}{scope:Scope}{f:Addr}{cdv:Value}{A:Around}{outer:List Env}{s₀:Shared}{H₀:Hp}{E:XK} :
 uG (bT (Ů P w) P w K mg base N qual scope f cdv A outer s₀ H₀ E) (fun _=>E):=fun _ _ _ _ _ _ _ I he hd h1 hn hnew hE=>Ys I he hd h1 hn hnew hE
def uH(C:String):M Fl:=fun ρ=>.exc ⟨C,[],[]⟩ ρ
section
variable{X:Cx}{cm:String→Addr}{E:L2.St→XK}{x:Str}{C:String}{np cpos pos:Pos}
theorem uI{P:Program}{w:World}{H:Hp}{h:Heap}{e:Addr}(k:dz P w H h)(q:h.get? e=none):H e=none:=by
 cases z:H e with
 |none=>rfl
 |some u=>
  obtain⟨o,ho⟩:=oV (k e u z)
  rw[q] at ho
  cases ho
theorem Inv.Zdt{pins:List (Addr×Obj)}{σ:L2.St}{H:Hp}{s:Shared}{e:Addr}(I:Inv X pins σ H s)(hex:X.ex=[])(q:s.heap.get? e=none):X.s₀.heap.get? e=none:=by
 cases z:X.s₀.heap.get? e with
 |none=>rfl
 |some o=>
  obtain⟨o1,q1⟩:=I.base.there e o z (by rw[hex];simp)
  rw[q] at q1
  cases q1
theorem wX(hc:X.calm=true)(hex:X.ex=[])(hr:uG X E)(hg:Gl X x)(hm:X.mg x=some (.ref (cm C)))(q:PySem.W.excIn X.K (cm C) wu IW=true)(hdb:(x== ("__debug__" :Str))=false:=by decide) :
 PS X (.Raise (some (.Call (.Name x np) [] [] cpos)) none pos) (tS (kk X cm) E (uH C)):=by
 intro pins s σ H D I ⟨c,F,ρ,rel,h⟩
 obtain⟨bm,N,nm,qn,bs,hd,sn,sub,ab,col,dd,k0,k1,k2,k3,k5,mN,hC,hN,hni,T⟩:=Yt I.dZ q
 refine wpAny_Raise_call_subT (C:=cm C) (nm:=nm) (q:=qn) (N:=N) (bs:=bs) (bm:=bm) (hdct:=hd) (sn:=sn) (sub:=sub) (ab:=ab) (col:=col) (dd:=dd) (k0:=k0) (k1:=k1) (k2:=k2) (k3:=k3) (k5:=k5)
  PySem.F.excBase_ValueError (mN:=mN) (T.hasType (by decide)) (I.ok.hd hc) rfl hni (gR I hg hm ⟨rfl,?_⟩ hdb)
 refine evalArgs_empty ⟨rfl,Nat.zero_le _,hC,hN,T,fun h' e hx=>?_⟩
 obtain⟨t,he,_,_⟩:=hx.there
 have I2:Inv X pins σ H {s with heap:=h'}:=I.kept (t':=s.toks) hx.keeps
 exact hr pins σ H _ e _ _ I2 he rfl rfl (uI I.hok hx.new) (Inv.Zdt I hex hx.new) (h σ _ _ F H rel (Same.refl _) ⟨rfl,[],.inl ⟨rfl,rfl⟩,rfl,Ğ.nil⟩)
end
section
variable{M:Model}{A:Around}{E:Value→Shared→Prop}{s:Shared}{K:PySem.W.Frag}{e C D:Addr}{oe:Obj}{b:Bool}{Q:Bool→Shared→Prop}
theorem rC(X:K.In s.heap)(hk:PySem.W.kitCls K (.ref C) (.ref D)=some b)(hx:PySem.W.mroIn K D (.type "BaseException")=some true)(he:s.heap.get? e=some oe)(hc:oe.cls=.ref C)(hq:Q b s):wpAny M A (excMatches (.ref e) (.ref D)) Q E s:=by
 obtain⟨l1,l2,l3⟩:=PySem.W.kit_cls (M:=M) X hk
 have l4:=PySem.W.looks_mroIn (M:=M) X hx
 have f:=tc_notTuple
 unfold excMatches isInstance
 refine wpAny_bind (wpAny_bind (l1.here ?_))
 rw[f]
 refine wpAny_pure ?_
 simp only[Bool.false_eq_true,if_false]
 refine wpAny_bind (wpAny_pure ?_)
 simp only[List.forIn_cons,List.forIn_nil]
 unfold isExcClass
 refine wpAny_bind (wpAny_bind (wpAny_bind (wpAny_bind (l2.here ?_))))
 rw[if_pos rfl]
 refine l4.here ?_
 rw[if_neg (by decide)]
 refine wpAny_pure (wpAny_pure ?_)
 refine wpAny_bind (wpAny_typeOf_ref he ?_)
 rw[hc]
 refine wpAny_bind (wpAny_bind (wpAny_bind (l3.here ?_)))
 cases b with
 |true=>exact wpAny_pure (wpAny_pure (wpAny_pure hq))
 |false=>exact wpAny_pure (wpAny_pure (wpAny_pure hq))
end
def wY(X:Cx)(xe:Value→Shared→Prop)(pins:List (Addr×Obj)):Cx:={X with xe:=xe,pn:=X.pn++pins}
def markX(X:Cx)(e:Value):Cx:={X with A:=X.A.mark (some e),calm:=false,xe:=fun _ _=>False}
section
variable{X:Cx}{pins:List (Addr×Obj)}{σ:L2.St}{H:Hp}{s:Shared}{xe:Value→Shared→Prop}
theorem Inv.Zdu(I:Inv X pins σ H s):Inv (wY X xe pins) [] σ H s:=
 ⟨⟨I.ok.mod,I.ok.kind,I.ok.glob,I.ok.blt,I.ok.above,I.ok.inj,I.ok.has,I.ok.cab,I.ok.hd,I.ok.frames,I.ok.stk,I.ok.exf,I.ok.bs,I.ok.Ep,I.ok.qy,I.ok.wz,I.ok.h_,I.ok.Gz⟩,
   I.os,I.bare,I.base,I.loc,I.cell,I.free,I.bZ,fun p hp=>I.pin p (by simpa[wY] using hp),I.hok,I.len⟩
theorem Inv.oW{nR:List (Addr×Obj)}(I:Inv (wY X xe pins) nR σ H s):Inv X pins σ H s:=
 ⟨⟨I.ok.mod,I.ok.kind,I.ok.glob,I.ok.blt,I.ok.above,I.ok.inj,I.ok.has,I.ok.cab,I.ok.hd,I.ok.frames,I.ok.stk,I.ok.exf,I.ok.bs,I.ok.Ep,I.ok.qy,I.ok.wz,I.ok.h_,I.ok.Gz⟩,
   I.os,I.bare,I.base,I.loc,I.cell,I.free,I.bZ,fun p hp=>I.pin p (List.mem_append_left _ hp),I.hok,I.len⟩
theorem SP.oW{nR:List (Addr×Obj)}{D:Ends}{f:Flow}(h:SP (wY X xe pins) nR D f s):SP X pins D f s:=by
 cases f with
 |next=>obtain⟨σ',H',I,q⟩:=h;exact⟨σ',H',Inv.oW I,q⟩
 |brk=>obtain⟨σ',H',I,q⟩:=h;exact⟨σ',H',Inv.oW I,q⟩
 |cont=>obtain⟨σ',H',I,q⟩:=h;exact⟨σ',H',Inv.oW I,q⟩
 |ret u=>obtain⟨v,σ',H',I,r,q⟩:=h;exact⟨v,σ',H',Inv.oW I,r,q⟩
theorem Inv.mark(I:Inv X pins σ H s)(e:Value):Inv (markX X e) pins σ H s:=
 ⟨⟨I.ok.mod,I.ok.kind,I.ok.glob,I.ok.blt,I.ok.above,I.ok.inj,I.ok.has,I.ok.cab,(fun z=>nomatch z),I.ok.frames,I.ok.stk,I.ok.exf,I.ok.bs,I.ok.Ep,I.ok.qy,I.ok.wz,I.ok.h_,I.ok.Gz⟩,
   I.os,I.bare,I.base,I.loc,I.cell,I.free,I.bZ,I.pin,I.hok,I.len⟩
theorem Inv.unmark{e:Value}(I:Inv (markX X e) pins σ H s)(hd:X.calm=true→X.A.handled=none):Inv X pins σ H s:=
 ⟨⟨I.ok.mod,I.ok.kind,I.ok.glob,I.ok.blt,I.ok.above,I.ok.inj,I.ok.has,I.ok.cab,hd,I.ok.frames,I.ok.stk,I.ok.exf,I.ok.bs,I.ok.Ep,I.ok.qy,I.ok.wz,I.ok.h_,I.ok.Gz⟩,
   I.os,I.bare,I.base,I.loc,I.cell,I.free,I.bZ,I.pin,I.hok,I.len⟩
theorem Inv.gone{i:Nat}{n:Str}{m:Str→Option Value}{v:Option Value}{h':Heap}{tk:Nat}(I:Inv X pins σ H s)(hN:X.N.Nodup)(hi:X.N[i]?=some n)(hx:X.env.scope.names.lookup n=some .local)
 (hn:s.heap.Ns X.env.locals m)(hm:∀(j:Nat) (x:Str) (v:V),X.N[j]?=some x→σ[j]?=some (some v)→Gu X.env.scope x→∃u,RelV v u∧Look X.env s.heap m x u)
 (hn':h'.Ns X.env.locals (fun x=>if x=n then v else m x))(hs:Heap.SameBut X.env.locals s.heap h'):Inv X pins (σ.set i none) H {s with heap:=h',toks:=tk}:=by
 have QC:∀b o,X.s₀.heap.get? b=some o→b≠X.env.locals:=fun b o q=>Nat.ne_of_lt (Nat.lt_of_lt_of_le (Heap.lt_size q) I.ok.above)
 refine⟨I.ok,I.os,I.bare,⟨fun b o q z hb hx=>(hs.2 b (QC b o q)).trans (I.base.keep b o q z hb hx),fun b o q z hb hx=>?_,I.base.free,fun b o q hx=>?_,I.base.tups,I.base.dY,I.base.fU⟩,⟨_,hn',fun j x v e1 e2 e3=>?_⟩,fun x c e=>?_,I.free,I.bZ,fun p hp=>?_,fun b o e=>?_,by simpa using I.len⟩
 ·obtain⟨sl,q1⟩:=I.base.slot b o q z hb hx
  exact⟨sl,(hs.2 b (QC b o q)).trans q1⟩
 ·obtain⟨o1,q1⟩:=I.base.there b o q hx
  exact⟨o1,(hs.2 b (QC b o q)).trans q1⟩
 ·have hj:j≠i:=fun z=>by
   subst z
   rcases ak e2 with⟨_,q,_⟩|⟨q,_⟩
   ·cases q
   ·exact q rfl
  rw[List.getElem?_set_ne (Ne.symm hj)] at e2
  obtain⟨u,r,q⟩:=hm j x v e1 e2 e3
  refine⟨u,r,?_⟩
  have hxn:x≠n:=fun z=>hj (nT hN e1 (z▸hi))
  rcases q with⟨k,e⟩|⟨k,c,e,z⟩
  ·exact .inl ⟨k,by simp[hxn,e]⟩
  ·exact .inr ⟨k,c,e,z.sameBut hs (I.QS x c e)⟩
 ·obtain⟨w',z⟩:=I.cell x c e
  exact⟨w',z.sameBut hs (I.QS x c e)⟩
 ·obtain⟨e,z,ne,nf,d⟩:=I.pin p hp
  exact⟨(hs.2 p.1 ne).trans e,z,ne,nf,d⟩
 ·refine(I.hok b o e).stay (fun c u hc q=>(hs.2 c ?_).trans q) (fun _ q=>q) fun _ _ q=>q
  rintro rfl
  rcases hc with hc|hc
  ·rw[←hc,I.free] at e;cases e
  ·rw[I.free] at hc;cases hc
end
end P
namespace P
open PySem PySem.Spec PyProof.Rows L2 M2 M3 M4
abbrev MH:=PX→Ŏ→Res Fl
def wZ:MH:=fun _ _=>.bad
def nM(i:Nat)(yes no:List String)(mh:M Fl)(rest:MH):MH:=fun x ρ=>if yes.contains x.C=true then(match mh (ρ.set i (.sh (.xc x.C x.ns x.ps))) with
 | .ok f ρ2=>.ok f (ρ2.set i .no)
 |_=>.bad) else if no.contains x.C=true then rest x ρ else .bad
def Zdv(yes no:List String)(mh:M Fl)(rest:MH):MH:=fun x ρ=>if yes.contains x.C=true then(match mh ρ with
 | .ok f ρ2=>.ok f ρ2
 |_=>.bad) else if no.contains x.C=true then rest x ρ else .bad
def Ss(mb:M Fl)(mh:MH):M Fl:=fun ρ=>match mb ρ with
 | .exc x ρ1=>mh x ρ1
 |r=>r
def PH(X:Cx)(cm:String→Addr)(E:L2.St→XK)(hs:List ExceptHandler)(mh:MH):Prop:=∀(pins:List (Addr×Obj)) (σ:L2.St) (H Hc:Hp) (s sc:Shared) (ea:Addr) (C:Value) (d:Option Addr) (B:Heap) (D:Ends) (c:Ctx) (F:Hp) (ρ:Ŏ) (x:PX),
 Inv X pins σ Hc sc→Lies X.prog X.w X.stack Hc sc ea C d .none H B s→Rel (kk X cm) c F H σ ρ→Fo (kk X cm) F x C d→ť (kk X cm) E c F D (mh x ρ)→wpAny (model X.prog X.w) X.A (handleBy (.ref ea) X.env hs) (SP X pins D) X.xe s
section
variable{X:Cx}{cm:String→Addr}{E:L2.St→XK}{pins:List (Addr×Obj)}{σ:L2.St}{H Hc:Hp}{s sc:Shared}{ea:Addr}{C:Value}{d:Option Addr}{B:Heap}
theorem Sv(I:Inv X pins σ Hc sc){fl:Value}(l:Lies X.prog X.w X.stack Hc sc ea C d fl H B s):Inv X pins σ H s:=I.call' l.os (l.un.un l.st) (l.hok.kept l.st) l.bare fun b z=>absurd z (by simp)
theorem dz.exc{P:Program}{w:World}{H:Hp}{h:Heap}{ea Ca:Addr}{d:Option Addr}{oe:Obj}{vs:Array Value}(k:dz P w H h)(hn:H ea=none)(he:h.get? ea=some oe)(hc:oe.cls=.ref Ca)(hdi:oe.dict=d)(hd:oe.data=.fields vs):dz P w (upd H ea (xo ea Ca d)) h:=fun b u e=>by
 by_cases hb:b=ea
 ·subst hb
  rw[Ĩ] at e
  cases e
  refine⟨⟨oe,vs,he,hc,hdi,hd⟩,⟨oe,he⟩,?_⟩
  rintro h1 h2 ⟨o,ws,q1,q2⟩ kk
  exact⟨o,ws,kk o q1,q2⟩
 ·rw[Ĝ hb] at e
  exact(k b u e).stay (fun _ _ _ q=>q) (fun c q=>by rw[Ĝ (ĩ q hn)];exact q) fun c xs q=>by rw[Ĝ (ĩ q hn)];exact q
theorem Sw(I:Inv X pins σ Hc sc){fl:Value}{Ca:Addr}(l:Lies X.prog X.w X.stack Hc sc ea (.ref Ca) d fl H B s):Inv X pins σ (upd H ea (xo ea Ca d)) s:=by
 obtain⟨oe,vs,T,oT,ts,he,⟨hc,hdi⟩,hd,_⟩:=l.tr
 have hw:dz X.prog X.w (upd H ea (xo ea Ca d)) s.heap:=dz.exc (l.hok.kept l.st) l.no he hc hdi hd
 have u:=l.un.un l.st
 refine I.call' l.os ⟨u.keep,u.slot,fun b o q n hx=>?_,u.there,fun b xs q=>?_,fun b o v q=>?_,fun b ps q=>?_⟩ hw l.bare fun b z=>absurd z (by simp)
 ·have hb:b≠ea:=fun z=>by rw[z,l.new] at q;cases q
  rw[Ĝ hb]
  exact u.free b o q n hx
 ·have q':=u.tups b xs q
  rw[Ĝ (ĩ q' l.no)];exact q'
 ·have q':=u.dY b o v q
  rw[Ĝ (ĩ q' l.no)];exact q'
 ·obtain⟨m,q'⟩:=u.fU b ps q
  exact⟨m,by rw[Ĝ (ĩ q' l.no)];exact q'⟩
theorem Zdw:PH X cm E [] wZ:=fun _ _ _ _ _ _ _ _ _ _ _ _ _ _ _ _ _ _ _ h=>h.elim
variable{y n:Str}{Dn:String}{i:Nat}{yp hpos:Pos}{b₀:Stmt}{suite:List Stmt}{rest:List ExceptHandler}{yes no:List String}{mh:M Fl}{mr:MH}
theorem Sx{K:KK}{c:Ctx}{F' H':Hp}{σ':L2.St}{ρ2:Ŏ}{r:RV}{v:V}(h:rO K c σ' ρ2 F' H' r v):rO K c (σ'.set i none) (ρ2.set i .no) F' H' r v:=by
 cases r with
 |sh p=>exact h
 |ow ps=>
  obtain⟨a,vs,h1,h2,h3,h4,h5,h6⟩:=h
  refine⟨a,vs,h1,h2,h3,h4,fun j q=>?_,h6⟩
  have hj:j≠i:=fun z=>by
   subst z
   obtain⟨s',y,q1,_,q2⟩:=q
   have q2:=eO q2
   rcases ak q1 with⟨_,rfl,_⟩|⟨q,_⟩
   ·cases q2
   ·exact q rfl
  exact h5 j (q.off hj)
 |ot ps qs=>
  obtain⟨p,a,xs,vs,h1,h0,hx,h2,h3,h4,h5,h6⟩:=h
  refine⟨p,a,xs,vs,h1,h0,hx,h2,h3,h4,fun j q=>?_,h6⟩
  have hj:j≠i:=fun z=>by
   subst z
   obtain⟨s',y,q1,_,q2⟩:=q
   have q2:=eO q2
   rcases ak q1 with⟨_,rfl,_⟩|⟨q,_⟩
   ·cases q2
   ·exact q rfl
  exact h5 j (q.off hj)
theorem ZlA(hN:X.N.Nodup)(hi:X.N[i]?=some n)(hx:X.env.scope.names.lookup n=some .local)(hg:Gl X y)(hm:X.mg y=some (.ref (cm Dn)))(hex:PySem.W.mroIn X.K (cm Dn) (.type "BaseException")=some true)
 (hyes:eZ (fun c=>PySem.W.kitCls X.K (.ref (cm c)) (.ref (cm Dn))=some true) yes)(hno:eZ (fun c=>PySem.W.kitCls X.K (.ref (cm c)) (.ref (cm Dn))=some false) no)
 (hb:∀e:Value,jc (markX X e) (b₀::suite) (tS (kk X cm) EF mh))(hr:PH X cm E rest mr)(hdb:(y== ("__debug__" :Str))=false:=by decide) :
 PH X cm E (.ExceptHandler (some (.Name y yp)) (some n) (b₀::suite) hpos::rest) (nM i yes no mh mr):=by
 intro pins σ H Hc s sc ea C d B D c F ρ x I l rel rx h
 have I1:=Sv I l
 obtain⟨oe,vs,T,oT,ts,he,⟨hc,hdi⟩,hd,_⟩:=id l.tr
 obtain⟨eC,fs,hfd,hns,hps⟩:=rx
 have hcx:oe.cls=.ref (cm x.C):=hc.trans eC
 refine wpAny_handleBy_cons (codeAny_handlers_test (gR (X:=markX X (.ref ea)) (Inv.mark I1 (.ref ea)) hg hm ?_ hdb)) (by intro q;cases q)
 unfold nM at h
 split at h
 ·rename_i hy
  refine rC I1.dZ (hyes.get hy) hex he hcx (codeAny_handlers_suite_as ?_)
  refine nH l.st l.fr l.tr fun h1 x1 x2 x3 x4=>?_
  have l2:=l.move x1 x2 x3 x4
  subst eC
  have I2:=Inv.mark (Sw I l2) (.ref ea)
  have ŉ:=rel.alloc (o:=xo ea (cm x.C) d) l.no
  have hF:F ea=none:=rel.sub.free l.no
  have rp:Rep (kk X cm) (upd F ea (xo ea (cm x.C) d)) (.xc x.C x.ns x.ps) (.ref ea):=by
   unfold Rep
   exact⟨ea,d,fs,rfl,Ĩ,hfd.same (Same.upd hF),hns,Ğ.same (Same.upd hF) _ _ hps⟩
  refine nU (X:=markX X (.ref ea)) I2 hN hi (.inl hx) (v:=.ref ea) rfl (fun s6 I6=>?_) (.inr hx)
  have jF:=ŉ.put (i:=i) (x:=some (.ref ea)) (s:=.sh (.xc x.C x.ns x.ps)) rfl ⟨_,rfl,rp⟩
  refine wpAny_mono (hb (.ref ea) pins s6 _ _ {nx:=fun σ' H'=>D.nx (σ'.set i none) H',rt:=D.rt,bk:=fun σ' H'=>D.bk (σ'.set i none) H',ct:=fun σ' H'=>D.ct (σ'.set i none) H'} I6 ⟨c,_,_,jF,?_⟩) (fun f s7 q=>?_) fun _ _ z=>z.elim
  ·have sF:Same F (upd F ea (xo ea (cm x.C) d)):=Same.upd hF
   cases em:mh (ρ.set i (.sh (.xc x.C x.ns x.ps))) with
   |bad=>rw[em] at h;exact h
   |exc z ρ2=>rw[em] at h;exact h.elim
   |ok f ρ2=>
    rw[em] at h
    cases f with
    |nx=>exact fun σ' F' H' r s1=>h _ F' H' (r.put (s:=.no) rfl trivial) (sF.trans s1)
    |bk=>exact fun σ' F' H' r s1=>h _ F' H' (r.put (s:=.no) rfl trivial) (sF.trans s1)
    |ct=>exact fun σ' F' H' r s1=>h _ F' H' (r.put (s:=.no) rfl trivial) (sF.trans s1)
    |rt r0=>exact fun v σ' F' H' r s1 q=>h v _ F' H' (r.put (s:=.no) rfl trivial) (sF.trans s1) (Sx q)
  ·have fin:∀{σ7:L2.St} {H7:Hp},Inv (markX X (.ref ea)) pins σ7 H7 s7→(∀s8,Inv X pins (σ7.set i none) H7 s8→SP X pins D f s8)→
    wpAny (model X.prog X.w) X.A (do bindName X.env n .none;unbindBehindTheSuite X.env n hpos) (fun _ s8=>SP X pins D f s8) X.xe s7:=fun{σ7 H7} I7 k=>by
    have I8:=Inv.unmark I7 I.ok.hd
    obtain⟨m,hn,hl⟩:=id I8.loc
    refine wpAny_nameGoes_keeps hx hn (by rw[I.ok.kind];rfl) fun h' v hn' hs=>k _ ?_
    exact Inv.gone I8 hN hi hx hn hl hn' hs
   cases f with
   |next=>obtain⟨σ7,H7,I7,q7⟩:=q;exact fin I7 fun s8 I8=>⟨_,_,I8,q7⟩
   |brk=>obtain⟨σ7,H7,I7,q7⟩:=q;exact fin I7 fun s8 I8=>⟨_,_,I8,q7⟩
   |cont=>obtain⟨σ7,H7,I7,q7⟩:=q;exact fin I7 fun s8 I8=>⟨_,_,I8,q7⟩
   |ret u=>obtain⟨v,σ7,H7,I7,rv,q7⟩:=q;exact fin I7 fun s8 I8=>⟨_,_,_,I8,rv,q7⟩
 ·split at h
  ·rename_i hn
   refine rC I1.dZ (hno.get hn) hex he hcx ?_
   exact hr pins σ H Hc s sc ea C d B D c F ρ x I l rel ⟨eC,fs,hfd,hns,hps⟩ h
  ·exact h.elim
theorem Zdx{body:List Stmt}{h0:ExceptHandler}{hs:List ExceptHandler}{pos:Pos}{mb:M Fl}{mh:MH}(hst:∃env outer,X.stack=env::outer∧X.env=env∧env.frame=some env.locals)
 (hb:∀(xe:Value→Shared→Prop) (pins:List (Addr×Obj)) (Et:L2.St→XK),bI (Ů X.prog X.w) (wY X xe pins) Et→jc (wY X xe pins) body (tS (kk X cm) Et mb))
 (hh:PH X cm E (h0::hs) mh):PS X (.Try body (h0::hs) [] [] pos) (tS (kk X cm) E (Ss mb mh)):=by
 intro pins s σ H D I ⟨c,F,ρ,rel,h⟩
 refine wpAny_Try_except ?_
 obtain⟨env,outer,Yu,rfl,hfr⟩:=hst
 have hframes:X.A.frames=some (X.env::outer):=by rw[←Yu];exact I.ok.frames
 have J:Inv (wY X (fun e s₁=>wpAny (model X.prog X.w) X.A (noteFrame e X.env) (fun _ s₂=>wpAny (model X.prog X.w) X.A (setFlight e none) (fun _ s₃=>wpAny (model X.prog X.w) X.A (handleBy e X.env (h0::hs)) (SP X pins D) X.xe s₃) X.xe s₂) X.xe s₁) pins) [] σ H s:=Inv.Zdu I
 refine ŧ (hb _ pins (fun σ1 C d H'=>∃c F ρ x,Rel (kk X cm) c F H' σ1 ρ∧Fo (kk X cm) F x C d∧ť (kk X cm) E c F D (mh x ρ)) ?_ [] s σ H D J ⟨c,F,ρ,rel,?_⟩) fun f s1 q=>?_
 ·intro nR σ1 H1 s1 e s2 I1 hx
  obtain⟨ea,C,d,H',B,rfl,l,c1,F1,ρ1,x,ě,rx,h1⟩:=hx
  have I2:=Inv.oW I1
  have lfr:s2.heap.FunFrames B (X.env::outer):=by
   have:=l.fr
   rw[show(wY X _ pins).stack=X.env::outer from Yu] at this
   exact this
  show wpAny (model X.prog X.w) X.A (noteFrame (.ref ea) X.env) _ X.xe s2
  refine IV hframes lfr hfr l.tr l.st l.en fun g1 x1 x2 x3 x4=>?_
  refine nH (s:={s2 with heap:=g1}) x1 x2 x3 fun g2 y1 y2 y3 y4=>?_
  have l':Lies X.prog X.w X.stack H1 s1 ea C d .none H' B s2:=l
  have l2:=l'.move y1 (by rw[Yu];exact y2) y3 (x4.trans y4)
  exact hh pins σ1 H' H1 _ s1 ea C d B D c1 F1 ρ1 x I2 l2 ě rx h1
 ·unfold Ss at h
  cases em:mb ρ with
  |bad=>rw[em] at h;exact h
  |ok f ρ1=>
   rw[em] at h
   cases f<;>exact h
  |exc x ρ1=>
   rw[em] at h
   exact fun σ' C d F' H' r s1 rx=>⟨c,F',ρ1,x,r,rx,ť.mono h s1⟩
 ·have q':=SP.oW q
  cases f with
  |next=>exact wpAny_execs_nil q'
  |brk=>exact q'
  |cont=>exact q'
  |ret u=>exact q'
end
end P
namespace P
open PySem PySem.Spec PyProof.Rows L2 M2 M3 M4 Builtin Builtin.ObjectAttr
def ŕ(K:PySem.W.Frag)(C:Addr):Bool:=match K.lookup C with
 |some ⟨.type "type",_,.cls cd,sl⟩=>(match cd.mro,sl.toList with
  | .ref C'::bm,[_,_,_,_,some (.builtin n),_]=>C'== C && n== IW && !cd.hasDel && cd.hasDict && PySem.W.tailIn K wu bm && PySem.W.findIn K (.ref C) "__setattr__" == some (some (.builtin "object.__setattr__")) &&
      PySem.W.findIn K (.ref C) "__getattribute__" == some (some (.builtin "BaseException.__getattribute__")) && PySem.W.findIn K (.ref C) "__getattr__" == some none
  |_,_=>false)
 |_=>false
structure iu(K:PySem.W.Frag)(C:Addr)(cd:ClassData)(bm:List Value):Prop where
 at_:∃dd k0 k1 k2 k3 k5,K.lookup C=some ⟨.type "type",dd,.cls cd,#[k0,k1,k2,k3,some (.builtin IW),k5]⟩
 mro:cd.mro=.ref C::bm
 del:cd.hasDel=false
 dict:cd.hasDict=true
 tail:PySem.W.tailIn K wu bm=true
 sa:PySem.W.findIn K (.ref C) "__setattr__" =some (some (.builtin "object.__setattr__"))
 ga:PySem.W.findIn K (.ref C) "__getattribute__" =some (some (.builtin "BaseException.__getattribute__"))
 gg:PySem.W.findIn K (.ref C) "__getattr__" =some none
theorem fj{K:PySem.W.Frag}{C:Addr}(q:ŕ K C=true):∃cd bm,iu K C cd bm:=by
 unfold ŕ at q
 split at q
 case h_2=>cases q
 rename_i dd cd sl ho
 split at q
 case h_2=>cases q
 rename_i C1 bm k0 k1 k2 k3 n1 k5 e1 e2
 simp only[Bool.and_eq_true,beq_iff_eq,Bool.not_eq_true'] at q
 obtain⟨⟨⟨⟨⟨⟨⟨z1,z2⟩,z3⟩,z4⟩,z5⟩,z6⟩,z7⟩,z8⟩:=q
 subst z1 z2
 obtain⟨sll⟩:=sl
 dsimp only at e2
 subst e2
 exact⟨cd,bm,⟨dd,k0,k1,k2,k3,k5,ho⟩,e1,z3,z4,z5,z6,z7,z8⟩
section
variable{K:PySem.W.Frag}{h:Heap}{C:Addr}{cd:ClassData}{bm:List Value}
theorem iu.own(x:iu K C cd bm)(X:K.In h):OwnTail h wu bm:=PySem.W.tail_of_in X x.tail
theorem iu.cls(x:iu K C cd bm):PySem.W.clsIn K C=some cd:=by
 obtain⟨_,_,_,_,_,_,e⟩:=x.at_
 unfold PySem.W.clsIn
 rw[e]
theorem xg{T:String}(hT:wu.contains (.type T)=true):∀{l:List Value},PySem.W.tailIn K wu l=true→l.contains (.type T)=true
 | [],e=>by cases(show(wu== [])=true from e)
 |v::r,e=>by
  unfold PySem.W.tailIn at e
  rcases Bool.or_eq_true_iff.mp e with q|q
  ·rw[beq_iff_eq.mp q];exact hT
  ·split at q
   ·split at q
    ·simp only[Bool.and_eq_true,beq_iff_eq] at q
     rw[List.contains_cons,xg hT q.2,Bool.or_true]
    ·cases q
   ·cases q
theorem lY(self:Value):∀{l:List Value},PySem.W.tailIn K wu l=true→refuseLoop self "__setattr__" l=pure ()
 | [],e=>by cases(show(wu== [])=true from e)
 |v::r,e=>by
  unfold PySem.W.tailIn at e
  rcases Bool.or_eq_true_iff.mp e with q|q
  ·rw[beq_iff_eq.mp q];exact PySem.F.store_ValueError.passes self
  ·split at q
   ·split at q
    ·simp only[Bool.and_eq_true,beq_iff_eq] at q
     rw[refuseLoop_ref]
     exact lY self q.2
    ·cases q
   ·cases q
theorem iu.mroIs(x:iu K C cd bm){T:String}(hT:wu.contains (.type T)=true):PySem.W.mroIn K C (.type T)=some true:=by
 unfold PySem.W.mroIn
 rw[x.cls,Option.bind_some,if_neg (by rw[x.mro];simp),x.mro,List.contains_cons,xg hT x.tail,Bool.or_true]
theorem iu.Zdy(x:iu K C cd bm):PySem.W.hasDictIn K C=true:=by
 unfold PySem.W.hasDictIn
 rw[x.cls]
 exact x.dict
end
section
variable{prog:Program}{w:World}{A:Around}{E:Value→Shared→Prop}{h:Heap}{g:Array GenState}{d:Drawn}{t:Nat}{os:OsState}
variable{nm q:Str}{C N:Addr}{bs bm bmB:List Value}{hdct:Bool}{sn:List Str}{sub:List Value}{ab:Bool}{col:Option Bool}{dd:Option Addr}{k0 k1 k2 k3 k5:Option Value}{B newId initId:String}
theorem mZ(F:ExcBaseFacts B newId initId bmB)(T:OwnTail h bmB bm){rest:List Value}{fI:Addr}{oI:Obj}{Q:Fin→Shared→Prop}
 (hC:h.get? C=some (excClassObj nm q C N bs bm hdct sn sub ab col dd k0 k1 k2 k3 k5 newId))(hi:PySem.W.Looks (model prog w) h (typeLookup (.ref C) "__init__") (some (.ref fI)))
 (hfI:h.get? fI=some oI)(hfc:oI.cls=.type "function")
 (hq:∀h' e,Heap.MadeExcOf h h' e (.ref C) rest→
   wpAny (model prog w) A (call (.ref fI) (.ref e::rest)) (fun r s'=>r=.none∧Q (.done (.ret (.ref e))) s') E ⟨h',g,d,t,os⟩)(hrest:rest.length≤sizeLine) :
 wpAny (model prog w) A (Builtin.«type.__call__» ⟨.ref C::rest,[]⟩) Q E ⟨h,g,d,t,os⟩:=by
 repeat (first|with_reducible refine wpAny_loadPart_at hC ?_|with_reducible refine wpAny_madeBy_exc hC ?_|wp_step)
 refine codeAny_call_builtin_code (Code.quiet_builtin _ F.quiet) (wpAny_check_new_subT F T hC ?_)
 refine codeAny_exc_new_subT F T hC ?_ hrest
 show wpAny _ _ _ _ _ _
 have hC₁:= Heap.get?_push_of_some {cls:=.ref C,data:=.fields #[.ref h.objs.size,.none,.none,.none,.bool false,.none]}
  (Heap.get?_push_of_some {cls:=.type "tuple",data:=.seq rest.toArray} hC)
 have hfI₁:= Heap.get?_push_of_some {cls:=.ref C,data:=.fields #[.ref h.objs.size,.none,.none,.none,.bool false,.none]}
  (Heap.get?_push_of_some {cls:=.type "tuple",data:=.seq rest.toArray} hfI)
 have hi₁:= hi.keeps (h':=(h.push {cls:=.type "tuple",data:=.seq rest.toArray}).push {cls:=.ref C,data:=.fields #[.ref h.objs.size,.none,.none,.none,.bool false,.none]}) fun b o e=>Heap.get?_push_of_some _ (Heap.get?_push_of_some _ e)
 have hget:((h.push {cls:=.type "tuple",data:=.seq rest.toArray}).push
  {cls:=.ref C,data:=.fields #[.ref h.objs.size,.none,.none,.none,.bool false,.none]}).get? (h.objs.size+1)=some
  {cls:=.ref C,data:=.fields #[.ref h.objs.size,.none,.none,.none,.bool false,.none]}:=by heap_get
 have hcC:(Value.ref C::bm).contains (.ref C)=true:=by simp
 unfold isInstance
 repeat (first|with_reducible refine wpAny_loadPart_at hget ?_|(with_reducible refine wpAny_isSubtype_exc hC₁ ?_;rw[hcC])|wp_step)
 show wpAny _ _ (typeLookup (.ref C) _) _ _ _
 refine hi₁.at ?_
 refine wpAny_holding (wpAny_bind ?_)
 unfold bindSpecial
 refine wpAny_bind (wpAny_typeOf (T:= "function") ⟨_,hfI₁,hfc⟩ ?_)
 rw[if_pos (by decide)]
 refine wpAny_pure (wpAny_bind (wpAny_mono (hq _ (h.objs.size+1) ⟨fun b o hb=>Heap.get?_push_of_some _ (Heap.get?_push_of_some _ hb),Heap.get?_none_of_le (Nat.le_succ _),h.objs.size,hget,Heap.get?_none_of_le (Nat.le_refl _),?_⟩) (fun r s' hr=>?_) fun _ _ x=>x))
 ·exact Heap.get?_push_of_some _ (Heap.get?_push_at rfl rfl)
 ·obtain⟨rfl,hQ⟩:=hr
  wp_walk
  exact hQ
theorem Aj(F:ExcBaseFacts B newId initId bmB)(T:OwnTail h bmB bm){rest:List Value}{fI:Addr}{oI:Obj}{Q:Value→Shared→Prop}
 (hC:h.get? C=some (excClassObj nm q C N bs bm hdct sn sub ab col dd k0 k1 k2 k3 k5 newId))(hi:PySem.W.Looks (model prog w) h (typeLookup (.ref C) "__init__") (some (.ref fI)))
 (hfI:h.get? fI=some oI)(hfc:oI.cls=.type "function")
 (hq:∀h' e,Heap.MadeExcOf h h' e (.ref C) rest→
   wpAny (model prog w) (A.under (.builtin "type.__call__" ⟨.ref C::rest,[]⟩)) (call (.ref fI) (.ref e::rest)) (fun r s'=>r=.none∧Q (.ref e) s') E ⟨h',g,d,t,os⟩)(hrest:rest.length≤sizeLine) :
 wpAny (model prog w) A (call (.ref C) rest) Q E ⟨h,g,d,t,os⟩:=by
 have f1:=tc_lookup
 have f2:=tc_bind (.ref C)
 have hT:(⟨h,g,d,t,os⟩:Shared).TypeIs (.ref C) "type" := ⟨_,hC,rfl⟩
 refine wpAny_call (codeAny_of_tree ?_)
 show wpAny _ _ (callAny (.ref C) _) _ _ _
 repeat (any_goals (first|assumption|with_reducible refine wpAny_loadPart_at hC ?_|wp_step))
 refine⟨rfl,?_⟩
 refine codeAny_call_builtin_at (Code.quiet_builtin _ (by decide +kernel)) entry_typeCall (wpAny_check_type_call_sub hC (mZ (hrest:=hrest) F T hC hi hfI hfc fun h' e hm=>?_))
 exact hq h' e hm
end
section
variable{prog:Program}{w:World}{A:Around}{E:Value→Shared→Prop}{s:Shared}{K:PySem.W.Frag}{x C:Addr}{cd:ClassData}{bm:List Value}{ox:Obj}{od:Option Obj}{name:Str}{v:Value}
theorem Zdz{rest:List Value}{fI:Addr}{Q:Value→Shared→Prop}(X:K.In s.heap)(c:iu K C cd bm)(hi:PySem.W.findIn K (.ref C) "__init__" =some (some (.ref fI)))(hf:PySem.W.typeIn K (.ref fI)=some (.type "function"))(hrest:rest.length≤sizeLine)
 (hq:∀h' e,Heap.MadeExcOf s.heap h' e (.ref C) rest→wpAny (model prog w) (A.under (.builtin "type.__call__" ⟨.ref C::rest,[]⟩)) (call (.ref fI) (.ref e::rest)) (fun r s'=>r=.none∧Q (.ref e) s') E {s with heap:=h'}) :
 wpAny (model prog w) A (call (.ref C) rest) Q E s:=by
 obtain⟨dd,k0,k1,k2,k3,k5,e⟩:=c.at_
 obtain⟨oI,hoI,hfc⟩:=Option.map_eq_some_iff.mp hf
 have hC:=X _ _ e
 have T:=c.own X
 obtain⟨nm,bs,mro,ns,qn,hd,sn,sub,ab,col,del⟩:=cd
 obtain rfl:mro=.ref C::bm:=c.mro
 obtain rfl:del=false:=c.del
 obtain⟨hh,g,d,t,os⟩:=s
 exact Aj (C:=C) (nm:=nm) (q:=qn) (N:=ns) (bs:=bs) (bm:=bm) (hdct:=hd) (sn:=sn) (sub:=sub) (ab:=ab) (col:=col) (dd:=dd) (k0:=k0) (k1:=k1) (k2:=k2) (k3:=k3) (k5:=k5) PySem.F.excBase_ValueError T hC (PySem.W.looks_findIn X hi) (X _ _ hoI) hfc hq hrest
theorem xq{tk:Tok}{R:Result→Shared→Prop}(X:K.In s.heap)(I:PySem.W.InstAt s.heap x ox C od)(c:iu K C cd bm)(ht:ľ K C name)
 (h:∀b,wpAny (model prog w) A.in1 (storeInOwnDict (.ref x) (.ref C) (.str name tk) name v b)
   (fun fin s'=>match fin with| .done f=>R (.ok f) s'| .again c'=>c'.quiet=true∧codeAny (model prog w) A c' R s') (fun e s'=>R (.error e) s') s) :
 codeAny (model prog w) A (.call (.builtin "object.__setattr__") ⟨[.ref x,.str name tk,v],[]⟩) R s:=by
 have SF:=PySem.F.store_object
 have sub:PySem.W.Looks (model prog w) s.heap (isInstance (.ref x) (.type "object")) true:=I.type.andThen (PySem.W.looks_mroIn X (c.mroIs (by decide)))
 refine codeAny_call_builtin SF.slot.plain SF.entry (@PySem.W.check_slot (model prog w) _ _ s "object.__setattr__" "object" "__setattr__" (.ref x) [.str name tk,v] [] _ SF.kind SF.split sub (SF.args (.ref x) (.str name tk) v) ?_)
 have hm:PySem.W.Looks (model prog w) s.heap (mroOf (.ref C)) cd.mro:=(PySem.W.looks_clsIn X c.cls).andThen .now
 have L3:PySem.W.Looks (model prog w) s.heap (typeLookup (.ref C) name) none:=PySem.W.looks_findIn X ht
 rw[PySem.W.osa_eq,refuse_eq]
 refine wpAny_bind (wpAny_bind (I.type.here (wpAny_bind (hm.here ?_))))
 rw[c.mro,refuseLoop_ref,lY _ c.tail]
 refine wpAny_pure (wpAny_bind (I.type.here (wpAny_bind (L3.here (wpAny_bind (wpAny_pure ?_))))))
 exact h _
theorem I_{sl:Array (Option Value)}{vs:Array Value}{Q:Unit→Shared→Prop}(X:K.In s.heap)(hx:s.heap.get? x=some ⟨.ref C,none,.fields vs,sl⟩)(c:iu K C cd bm)(ht:ľ K C name)
 (h:∀h',h'.get? x=some ⟨.ref C,some s.heap.objs.size,.fields vs,sl⟩→h'.Ns1 s.heap.objs.size (fun y=>if y=name then some v else none)→(∀b o,b≠x→s.heap.get? b=some o→h'.get? b=some o)→Q () {s with heap:=h',toks:=s.toks+2}) :
 wpAny (model prog w) A (setAttr (.ref x) name v) Q E s:=by
 have J:PySem.W.InstAt s.heap x ⟨.ref C,none,.fields vs,sl⟩ C none:=⟨hx,rfl,rfl,trivial⟩
 refine PySem.W.set_plain X J c.sa (xq (s:={s with toks:=s.toks+1}) X J c ht fun b=>?_)
 refine wpAny_bind (wpAny_pure (wpAny_bind (wpAny_bind (wpAny_loadPart hx (wpAny_bind (PySem.W.Looks.here (s:={s with toks:=s.toks+1}) (PySem.W.looks_clsIn X c.cls) ?_))))))
 rw[c.dict]
 have hxs:x≠s.heap.objs.size:=Nat.ne_of_lt (Heap.lt_size hx)
 have hx₁:(s.heap.push {cls:=.type "dict",data:=.dict #[]}).get? x=some ⟨.ref C,none,.fields vs,sl⟩:=Heap.get?_push_of_some _ hx
 refine wpAny_bind (wpAny_alloc ?_)
 refine wpAny_bind (wpAny_update hx₁ ?_)
 refine wpAny_pure (a:=some s.heap.objs.size) (wpAny_bind (wpAny_pure (wpAny_bind ?_)))
 have hgd:((s.heap.push {cls:=.type "dict",data:=.dict #[]}).update x fun o=> {cls:=o.cls,dict:=some s.heap.objs.size,data:=o.data,slots:=o.slots}).get? s.heap.objs.size
  = some {cls:=.type "dict",data:=.dict #[]}:=(Heap.get?_update_ne _ _ _ _ hxs.symm).trans (Heap.get?_push_at rfl rfl)
 have hnd:((s.heap.push {cls:=.type "dict",data:=.dict #[]}).update x fun o=> {cls:=o.cls,dict:=some s.heap.objs.size,data:=o.data,slots:=o.slots}).Ns s.heap.objs.size (fun _=>none):=
  ⟨_,#[],_,hgd,rfl,fun e he=>absurd he (by simp),fun _=>rfl⟩
 refine wpAny_nsSet1 (Heap.Ns1.of_empty hnd) fun h' hn' hs=>?_
 obtain⟨oD,esD,epD,hoD,hdD,hcD⟩:=hn'.count (PySem.Within.cons name v PySem.Within.nil)
 refine wpAny_bind (wpAny_lookBehind hoD (by rw[hdD];exact pastItsLine_dict (Nat.le_trans hcD (by rw[List.length_cons,List.length_nil,sizeLine_eq];omega))) ?_)
 refine wpAny_pure (h h' ?_ hn' fun b o hb q=>?_)
 ·exact(hs.2 x hxs).trans (Heap.get?_update_self _ hx₁ rfl)
 ·exact(hs.2 b (Nat.ne_of_lt (Heap.lt_size q))).trans ((Heap.get?_update_ne _ _ _ _ hb).trans (Heap.get?_push_of_some _ q))
theorem Fy{sl:Array (Option Value)}{vs:Array Value}{dx:Addr}{mA:Str→Option Value}{ns:List Str}{Q:Unit→Shared→Prop}(X:K.In s.heap)(hx:s.heap.get? x=some ⟨.ref C,some dx,.fields vs,sl⟩)(hn:s.heap.Ns1 dx mA)(hw:PySem.Within mA ns)(hsz:ns.length<sizeLine)(c:iu K C cd bm)(ht:ľ K C name)
 (h:∀h',h'.Ns1 dx (fun y=>if y=name then some v else mA y)→Heap.SameBut dx s.heap h'→Q () {s with heap:=h',toks:=s.toks+2}) :
 wpAny (model prog w) A (setAttr (.ref x) name v) Q E s:=by
 obtain⟨od,hod,_⟩:=kE hn
 have J:PySem.W.InstAt s.heap x ⟨.ref C,some dx,.fields vs,sl⟩ C (some od):=⟨hx,rfl,rfl,hod⟩
 refine PySem.W.set_plain X J c.sa (xq (s:={s with toks:=s.toks+1}) X J c ht fun b=>?_)
 refine wpAny_bind (wpAny_pure (wpAny_bind (wpAny_bind (wpAny_loadPart hx (wpAny_bind (PySem.W.Looks.here (s:={s with toks:=s.toks+1}) (PySem.W.looks_clsIn X c.cls) ?_))))))
 rw[c.dict]
 refine wpAny_pure (a:=some dx) (wpAny_bind (wpAny_pure (wpAny_bind ?_)))
 refine wpAny_nsSet1 (s:={s with toks:=s.toks+1}) hn fun h' hn2 hs2=>?_
 obtain⟨oD,esD,epD,hoD,hdD,hcD⟩:=hn2.count (PySem.Within.cons name v hw)
 refine wpAny_bind (wpAny_lookBehind hoD (by rw[hdD];exact pastItsLine_dict (Nat.le_trans hcD (by rw[List.length_cons];omega))) ?_)
 exact wpAny_pure (h _ hn2 hs2)
theorem xga{R:Result→Shared→Prop}{u:Value}{od:Obj}{tk:Tok}(X:K.In s.heap)(I:PySem.W.InstAt s.heap x ox C (some od))(c:iu K C cd bm)(ht:ľ K C name)(hl:PySem.W.lookIn name od=some (some u))
 (h:R (.ok (.ret u)) s):codeAny (model prog w) A (.call (.builtin "BaseException.__getattribute__") ⟨[.ref x,.str name tk],[]⟩) R s:=by
 have hk:builtinKind "BaseException.__getattribute__" =some .slot:=by decide +kernel
 have hsplit:splitId "BaseException.__getattribute__" =some ("BaseException","__getattribute__"):=by decide +kernel
 have L0:=I.type (M:=model prog w)
 have L3:=PySem.W.looks_find (M:=model prog w) X I (PySem.W.findObj_own c.Zdy ht rfl hl)
 have hsub:PySem.W.Looks (model prog w) s.heap (isInstance (.ref x) (.type "BaseException")) true:=L0.andThen (PySem.W.looks_mroIn X (c.mroIs (by decide)))
 refine codeAny_call_builtin PySem.F.attrBase_ValueError.ga.plain PySem.F.entry_bexc_ga (@PySem.W.check_slot (model prog w) _ _ s "BaseException.__getattribute__" "BaseException" "__getattribute__" (.ref x) [.str name tk] [] _ hk hsplit hsub (PySem.F.args_bexc_ga (.ref x) (.str name tk)) ?_)
 unfold Builtin.«object.__getattribute__»
 refine wpAny_bind (wpAny_pure (wpAny_bind (wpAny_pure (wpAny_bind (L0.here (wpAny_bind (L3.here (wpAny_pure ?_))))))))
 exact h
theorem ZlB{expr:Bool}{u:Value}{od:Obj}{Q:Value→Shared→Prop}(X:K.In s.heap)(I:PySem.W.InstAt s.heap x ox C (some od))(c:iu K C cd bm)(ht:ľ K C name)(hl:PySem.W.lookIn name od=some (some u))(hh:PySem.W.handedIn u=true)
 (h:Q u {s with toks:=s.toks+1}):wpAny (model prog w) A (getAttr (.ref x) name expr) Q E s:=by
 have FB:=PySem.F.attrBase_ValueError
 obtain⟨hp,g,d,t,os⟩:=s
 have L0:=I.type (M:=model prog w)
 have L1:=PySem.W.looks_findIn (M:=model prog w) X c.ga
 have L2:=PySem.W.looks_findIn (M:=model prog w) X c.gg
 have L3:=PySem.W.looks_find (M:=model prog w) X I (PySem.W.findObj_own c.Zdy ht rfl hl)
 have hsub:PySem.W.Looks (model prog w) hp (isInstance (.ref x) (.type "BaseException")) true:=L0.andThen (PySem.W.looks_mroIn X (c.mroIs (by decide)))
 unfold getAttr getAttrBy
 refine wpAny_bind (wpAny_mkText (wpAny_holding (wpAny_bind (L0.at (wpAny_bind (L1.at ?_))))))
 show wpAny _ _ (getAttrByItsOwn _ _ _ _ _ _) _ _ _
 have f3:=FB.ga.bind (.ref x)
 have hx0:(expr && onTheHeap (Value.builtin "BaseException.__getattribute__"))=false:=by cases expr<;>rfl
 unfold getAttrByItsOwn hookBefore callGetattribute
 refine wpAny_bind (L2.at ?_)
 rw[hx0]
 have hk:builtinKind "BaseException.__getattribute__" =some .slot:=by decide +kernel
 have hsplit:splitId "BaseException.__getattribute__" =some ("BaseException","__getattribute__"):=by decide +kernel
 refine wpAny_bind (wpAny_attempt (wpAny_holding ?_))
 rw[if_neg (by decide)]
 unfold boundAndCalled
 rw[f3]
 refine wpAny_bind (wpAny_pure (wpAny_call ?_))
 exact xga X I c ht hl (show wpAny _ _ (handedOut u) _ _ _ by rw[PySem.W.handedOut_of hh];exact wpAny_pure h)
end
end P
namespace P
open PySem PySem.Spec PyProof.Rows L2 M2 M3 M4
def xn(a C:Addr)(d:Option Addr):HO:=.ext fun h=>∃o vs,h.get? a=some o∧o.cls=.ref C∧o.dict=d∧o.data=.fields vs∧vs[1]?=some .none
def Yw(H:Hp)(a:Addr)(d:Option Addr)(fs:List (Str×V)):Prop:=(d=none∧fs=[])∨∃d0,d=some d0∧H d0=some (.xd fs)∧d0≠a
def XDn(H:Hp)(a:Addr)(d:Option Addr)(d':Addr):Prop:=d=some d'∨(d=none∧H d'=none∧d'≠a)
def xr(H:Hp)(a C:Addr)(d:Option Addr)(d':Addr)(fs:List (Str×V)):Hp:=match d with
 |some _=>upd H d' (.xd fs)
 |none=>upd (upd H d' (.xd fs)) a (xn a C (some d'))
theorem xu{f g:Str}{y:V}{u:Value}{fs:List (Str×V)}{mA:Str→Option Value}(ry:RelV y u)(r:∀g,jw (fs.lookup g) (mA g)):jw ((aN f y fs).lookup g) (if g=f then some u else mA g):=by
 rw[gn]
 split
 ·exact ry
 ·exact r g
section
variable{X:Cx}{pins:List (Addr×Obj)}{σ:L2.St}{H:Hp}{s:Shared}{a C:Addr}{cd:ClassData}{bm:List Value}{d:Option Addr}{fs:List (Str×V)}{f:Str}{y:V}{u:Value}{A:Around}{E:Value→Shared→Prop}
theorem Sy{Q:Unit→Shared→Prop}(I:Inv X pins σ H s)(c:iu X.K C cd bm)(ha:H a=some (xn a C d))(hD:Yw H a d fs)(n:ľ X.K C f)(hl:fs.length<1000)(ry:RelV y u)
 (h:∀s' d',XDn H a d d'→Inv X pins σ (xr H a C d d' (aN f y fs)) s'→Q () s'):wpAny (model X.prog X.w) A (setAttr (.ref a) f u) Q E s:=by
 obtain⟨⟨o,vs,ho,hcl,hdi,hda,hv1⟩,_,_⟩:=(show Ţ X.prog X.w H s.heap a (xn a C d) from I.hok a _ ha)
 obtain⟨ocls,odict,odata,osl⟩:=o
 dsimp only at hcl hdi hda
 subst hcl hdi hda
 rcases hD with⟨rfl,rfl⟩|⟨d0,rfl,hd0,hne⟩
 ·refine I_ I.dZ ho c n fun h' hx' hns k=>h _ s.heap.objs.size (.inr ⟨rfl,I.hok.fresh (Nat.le_refl _),fun z=>?_⟩) ?_
  ·have:=Heap.lt_size ho
   rw[z] at this
   exact Nat.lt_irrefl _ this
  ·obtain⟨od,es,ep,e1,e2⟩:=id hns
   have hfr:=(Heap.get?_some_iff.mp e1).2
   have g1:(s.heap.push od).get? s.heap.objs.size=some od:=Heap.get?_push_at rfl hfr
   have ne:s.heap.objs.size≠a:=fun z=>by
    have:=Heap.lt_size ho
    rw[←z] at this
    exact Nat.lt_irrefl _ this
   have I1:Inv X pins σ (upd H s.heap.objs.size (.xd (aN f y []))) {s with heap:=s.heap.push od,toks:=s.toks}:=
    I.laid (fun b o q=>Heap.get?_push_of_some _ q) (Nat.le_refl _) ⟨_,hns.at fun o q=>by rw[e1] at q;cases q;exact g1,fun g=>xu (fs:=[]) (mA:=fun _=>none) ry fun _=>trivial⟩
   refine I1.write (x:=a) (e:=a) (h':=h') (by rw[Ĝ (Ne.symm ne),ha];exact trivial) (.inl rfl) (fun b o hb q=>?_) ⟨_,hx'⟩ ?_
   ·rcases Heap.get?_push_cases q with⟨rfl,rfl⟩|q
    ·exact e1
    ·exact k b o hb q
   ·refine⟨⟨_,vs,hx',rfl,rfl,rfl,hv1⟩,⟨_,hx'⟩,?_⟩
    rintro h1 h2 ⟨o,ws,q1,q2⟩ kk
    exact⟨o,ws,kk o q1,q2⟩
 ·obtain⟨mA,hns,r⟩:=(show Ţ X.prog X.w H s.heap d0 (.xd fs) from I.hok d0 _ hd0)
  have wi:PySem.Within mA (fs.map (·.1)):=fun g hg=>by
   refine Classical.byContradiction fun hn=>hg (jw.none_of ?_)
   rw[←k_ (m:=g) (fs:=fs) (by simpa using hn)]
   exact r g
  refine Fy I.dZ ho hns wi (by rw[List.length_map,sizeLine_eq];omega) c n fun h' hn2 sb=>h _ d0 (.inl rfl) ?_
  exact I.write (x:=d0) (e:=d0) (by rw[hd0];exact trivial) (.inl rfl) (fun b o hb q=>(sb.2 b hb).trans q) (let ⟨o,_,_,e,_⟩:=hn2;⟨o,e⟩) ⟨_,hn2,fun g=>xu ry r⟩
def tXF(C:Addr)(f:Str)(j:Nat):TS:=fun D σ H=>∃a d fs y,σ[0]?=some (some (.ref a))∧σ[j]?=some (some y)∧H a=some (xn a C d)∧Yw H a d fs∧fs.length<1000∧∀d',XDn H a d d'→D.nx σ (xr H a C d d' (aN f y fs))
def Yx(C:Addr):List (Str×Nat)→TS
 | []=>Uh
 |(f,j)::r=>Zcz (tXF C f j) (Yx C r)
variable{o value:Expr}{pos pos':Pos}{j:Nat}{ss:List Stmt}{r:List (Str×Nat)}
theorem Ja(q:ŕ X.K C=true)(n:ľ X.K C f)(ho:PE X o (tU 0))(hv:PE X value (tU j))(hs:swapsWith value (some (.Attribute o f pos')) pos.line X.env=pure false:=by rfl):PS X (.Assign [.Attribute o f pos'] value pos) (tXF C f j):=by
 intro pins s σ H D I ⟨a,d,fs,y,h0,hj,ha,hD,hl,h⟩
 obtain⟨cd,bm,c⟩:=fj q
 refine plainObj_wpAny_Assign_Attribute (ŧ (hv pins s σ H (fun v H1=>v=y∧H1=H) I ⟨y,hj,rfl,rfl⟩) fun u s1 ⟨y1,H1,I1,ry,e1,e2⟩=>?_) hs
 subst e1 e2
 refine ŧ (ho pins s1 σ _ (fun v H2=>v=.ref a∧H2=H1) I1 ⟨_,h0,rfl,rfl⟩) fun ov s2 ⟨x,H2,I2,rx,e1,e2⟩=>?_
 subst e1 e2
 obtain rfl:ov=Value.ref a:=rx
 exact Sy I2 c ha hD n hl ry fun s3 d' hn I3=>⟨σ,_,I3,h d' hn⟩
theorem Jb:jc X [] (Yx C []):=Cy
theorem uJ(h1:PS X (.Assign [.Attribute o f pos'] value pos) (tXF C f j))(h2:jc X ss (Yx C r)):jc X (.Assign [.Attribute o f pos'] value pos::ss) (Yx C ((f,j)::r)):=wA h1 h2
end
def xiV:List (Str×Nat)→List V→List (Str×V)→Option (List (Str×V))
 | [],_,fs=>some fs
 |(f,j)::r,vs,fs=>match vs[j]? with
  |some v=>xiV r vs (aN f v fs)
  |none=>none
theorem Jc{D:Ends}{σ:L2.St}{a C:Addr}{vs:List V}(h0:σ[0]?=some (some (.ref a)))(hσ:∀(j:Nat) v,vs[j]?=some v→σ[j]?=some (some v)):∀{fl:List (Str×Nat)} {d:Option Addr} {fs fs':List (Str×V)} {H:Hp},H a=some (xn a C d)→Yw H a d fs→fs.length+fl.length<1000→xiV fl vs fs=some fs'→
 (∀H' d',H' a=some (xn a C d')→Yw H' a d' fs'→(∀b u,b≠a→d≠some b→H b=some u→H' b=some u)→(∀d0,d'=some d0→d=some d0∨H d0=none)→D.nx σ H')→Yx C fl D σ H
 | [],d,fs,fs',H,ha,hD,hl,e,k=>by
   cases e
   exact k H d ha hD (fun _ _ _ _ q=>q) fun d0 q=>.inl q
 |(f,j)::r,d,fs,fs',H,ha,hD,hl,e,k=>by
  unfold xiV at e
  cases ej:vs[j]? with
  |none=>rw[ej] at e;cases e
  |some y=>
   rw[ej] at e
   rw[List.length_cons] at hl
   refine⟨a,d,fs,y,h0,hσ j y ej,ha,hD,by omega,fun d' hn=>?_⟩
   have hda:d'≠a:=by
    rcases hn with rfl|⟨_,_,q⟩
    ·rcases hD with⟨q,_⟩|⟨d0,q,_,z⟩
     ·cases q
     ·cases q;exact z
    ·exact q
   have e1:xr H a C d d' (aN f y fs) a=some (xn a C (some d')):=by
    unfold xr
    rcases hn with rfl|⟨rfl,_,_⟩
    ·dsimp only;rw[Ĝ (Ne.symm hda)];exact ha
    ·exact Ĩ
   have e2:xr H a C d d' (aN f y fs) d'=some (.xd (aN f y fs)):=by
    unfold xr
    cases d with
    |some _=>exact Ĩ
    |none=>dsimp only;rw[Ĝ hda];exact Ĩ
   have e3:∀b,b≠a→b≠d'→xr H a C d d' (aN f y fs) b=H b:=fun b h1 h2=>by
    unfold xr
    cases d with
    |some _=>exact Ĝ h2
    |none=>dsimp only;rw[Ĝ h1,Ĝ h2]
   have hlen:=gq f y fs
   show Yx C r _ σ _
   refine Jc (fl:=r) (d:=some d') (fs:=aN f y fs) (fs':=fs') h0 hσ e1 (.inr ⟨d',rfl,e2,hda⟩) (by omega) e fun H' d'' q1 q2 q3 q4=>k H' d'' q1 q2 (fun b u h1 h2 h3=>?_) fun d0 z=>?_
   ·have hb:b≠d':=fun z=>by
     rcases hn with q|⟨_,q,_⟩
     ·exact h2 (by rw[q,z])
     ·rw[z,q] at h3;cases h3
    exact q3 b u h1 (fun z=>hb (by cases z;rfl)) (by rw[e3 b h1 hb];exact h3)
   ·rcases q4 d0 z with q|q
    ·cases q
     rcases hn with q|⟨_,q,_⟩
     ·exact .inl q
     ·exact .inr q
    ·have n1:d0≠a:=fun z=>by rw[z,e1] at q;cases q
     have n2:d0≠d':=fun z=>by rw[z,e2] at q;cases q
     rw[e3 d0 n1 n2] at q
     exact .inr q
def spX(n:Nat)(C:Addr)(fl:List (Str×Nat)):Sp:=fun vs H Q _=>∃a vs' fs,vs=.ref a::vs'∧vs'.length+1=n∧H a=some (xn a C none)∧fl.length<1000∧xiV fl vs []=some fs∧
 ∀H' d',H' a=some (xn a C d')→Yw H' a d' fs→(∀b u,b≠a→H b=some u→H' b=some u)→(∀d0,d'=some d0→H d0=none)→Q .non H'
theorem rD{N:List Str}{vs:List V}{j:Nat}{v:V}(e:vs[j]?=some v):(L2.start N vs)[j]?=some (some v):=by
 unfold L2.start
 obtain⟨hj,e'⟩:=List.getElem?_eq_some_iff.mp e
 rw[List.getElem?_append_left (by simpa using hj)]
 simp[e]
section
variable{P:Program}{w:World}{K:PySem.W.Frag}{mg:Str→Option Value}{base:Heap}{CX:qt}
theorem fnX{x qual:Str}{st:Stmt}{f:Addr}{fd:FuncData}{N ps:List Str}{k n:Nat}{C:Addr}{fl:List (Str×Nat)}(F:ź K x qual st f fd)(S:Ė N ps (ĉ st))(hn:ps.length=n)
 (hbody:∀(cdv:Value) (A:Around) (outer:List Env) (s:Shared) (H:Hp) (E:XK),jc (bT CX P w K mg base N qual (ĉ st) f cdv A outer s H E) (bH st) (Yx C fl)):į P w K mg base CX (k+1) f fd ps (spX n C fl):=by
 subst hn
 obtain⟨oc,od,kV,doc,pm,an,cdv,ct,osl,rfl,lk,hcd⟩:=F.ex
 refine Hg lk hcd S (fun vs H Q E ⟨a,vs',fs,h1,h2,_⟩=>by rw[h1,List.length_cons];exact h2) fun A outer s H vs Q E hr hsp=>?_
 obtain⟨a,vs',fs,rfl,h2,h3,h4,h5,h6⟩:=hsp
 refine⟨_,hbody cdv A outer s H E,Jc (vs:=.ref a::vs') (rD rfl) (fun j v e=>rD e) h3 (.inl ⟨rfl,rfl⟩) (by simpa using h4) h5 fun H' d' q1 q2 q3 q4=>h6 H' d' q1 q2 (fun b u hb q=>q3 b u hb (by intro z;cases z) q) fun d0 z=>?_⟩
 rcases q4 d0 z with q|q
 ·cases q
 ·exact q
end
theorem dz.ZlC{P:Program}{w:World}{H:Hp}{h:Heap}{ea Ca:Addr}{d:Option Addr}{oe:Obj}{vs:Array Value}(k:dz P w H h)(hn:H ea=none)(he:h.get? ea=some oe)(hc:oe.cls=.ref Ca)(hdi:oe.dict=d)(hd:oe.data=.fields vs)(h1:vs[1]?=some .none):dz P w (upd H ea (xn ea Ca d)) h:=fun b u e=>by
 by_cases hb:b=ea
 ·subst hb
  rw[Ĩ] at e
  cases e
  refine⟨⟨oe,vs,he,hc,hdi,hd,h1⟩,⟨oe,he⟩,?_⟩
  rintro h1 h2 ⟨o,ws,q1,q2⟩ kk
  exact⟨o,ws,kk o q1,q2⟩
 ·rw[Ĝ hb] at e
  exact(k b u e).stay (fun _ _ _ q=>q) (fun c q=>by rw[Ĝ (ĩ q hn)];exact q) fun c xs q=>by rw[Ĝ (ĩ q hn)];exact q
theorem Inv.ZlD{X:Cx}{pins:List (Addr×Obj)}{σ:L2.St}{H:Hp}{s:Shared}{h':Heap}{e Ca:Addr}{d:Option Addr}{oe:Obj}{vs:Array Value}{t':Nat}(I:Inv X pins σ H s)(k:∀b o,s.heap.get? b=some o→h'.get? b=some o)(new:s.heap.get? e=none)
 (he:h'.get? e=some oe)(hc:oe.cls=.ref Ca)(hdi:oe.dict=d)(hd:oe.data=.fields vs)(h1:vs[1]?=some .none):Inv X pins σ (upd H e (xn e Ca d)) {s with heap:=h',toks:=t'}:=by
 have hn:H e=none:=uI I.hok new
 have u:Un X.fs [] H H s.heap h':=Un.kept k
 refine I.un ⟨u.keep,u.slot,fun b o q n hx=>?_,u.there,fun b xs q=>?_,fun b o v q=>?_,fun b ps q=>?_⟩ (dz.ZlC (I.hok.kept k) hn he hc hdi hd h1)
 ·have hb:b≠e:=fun z=>by rw[z,new] at q;cases q
  rw[Ĝ hb];exact n
 ·rw[Ĝ (ĩ q hn)];exact q
 ·rw[Ĝ (ĩ q hn)];exact q
 ·exact⟨#[],by rw[Ĝ (ĩ q hn),q];simp⟩
def Jd:List (Str×Nat)→List PV→List Str→List PV→Option (List Str×List PV)
 | [],_,ns,qs=>some (ns,qs)
 |(_,0)::_,_,_,_=>none
 |(f,j+1)::r,ps,ns,qs=>match ps[j]? with
  |some p=>Jd r ps (putN f ns) (qH f p ns qs)
  |none=>none
theorem xG{K:KK}{F:Hp}:∀{ps:List PV} {vs:List V} {j:Nat} {p:PV},Ğ K F ps vs→ps[j]?=some p→∃v,vs[j]?=some v∧Rep K F p v
 | [],_,_,_,_,e=>by simp at e
 |q::ps,vs,j,p,h,e=>by
  unfold Ğ at h
  obtain⟨x,r,rfl,h1,h2⟩:=h
  cases j with
  |zero=>cases e;exact⟨x,rfl,h1⟩
  |succ j=>rw[List.getElem?_cons_succ] at e ⊢;exact xG h2 e
theorem Je{K:KK}{F:Hp}{ps:List PV}{vs:List V}{e:V}(h:Ğ K F ps vs):∀{fl:List (Str×Nat)} {ns ns':List Str} {qs qs':List PV} {fs:List (Str×V)},Jd fl ps ns qs=some (ns',qs')→fs.map (·.1)=ns→Ğ K F qs (fs.map (·.2))→
 ∃fs',xiV fl (e::vs) fs=some fs'∧fs'.map (·.1)=ns'∧Ğ K F qs' (fs'.map (·.2))
 | [],ns,ns',qs,qs',fs,z,hn,hq=>by cases z;exact⟨fs,rfl,hn,hq⟩
 |(f,0)::r,ns,ns',qs,qs',fs,z,hn,hq=>by cases z
 |(f,j+1)::r,ns,ns',qs,qs',fs,z,hn,hq=>by
  unfold Jd at z
  cases ej:ps[j]? with
  |none=>rw[ej] at z;cases z
  |some p=>
   rw[ej] at z
   obtain⟨v,ev,rv⟩:=xG h ej
   unfold xiV
   rw[List.getElem?_cons_succ,ev]
   subst hn
   obtain⟨z1,z2⟩:=uF (f:=f) (p:=p) rv hq
   exact Je h (fs:=aN f v fs) z z1 z2
def Yy(C:String)(n:Nat)(fl:List (Str×Nat))(ms:M (List PV)):M PV:=fun ρ=>(ms ρ).bind fun ps ρ1=>if ps.length+1=n∧ps.length<1000∧fl.length<1000 then(match Jd fl ps [] [] with
 |some (ns,qs)=>.ok (.xc C ns qs) ρ1
 |none=>.bad) else .bad
def nO(C:String)(n:Nat)(fl:List (Str×Nat))(ms:M (List PV)):M Fl:=fun ρ=>(ms ρ).bind fun ps ρ1=>if ps.length+1=n∧ps.length<1000∧fl.length<1000 then(match Jd fl ps [] [] with
 |some (ns,qs)=>.exc ⟨C,ns,qs⟩ ρ1
 |none=>.bad) else .bad
section
variable{X:Cx}{cm:String→Addr}{E:L2.St→XK}{e:Expr}{es:List Expr}{pos p:Pos}{CX:qt}{k n:Nat}{f:Addr}{fd:FuncData}{ps:List Str}{C:String}{fl:List (Str×Nat)}{ms:M (List PV)}{x:Str}
structure Yz(K:PySem.W.Frag)(C f:Addr):Prop where
 x:ŕ K C=true
 kp:PySem.W.keepIn K (.ref C)=true
 init:PySem.W.findIn K (.ref C) "__init__" =some (some (.ref f))
 fn:PySem.W.typeIn K (.ref f)=some (.type "function")
theorem Fz{pins:List (Addr×Obj)}{σ:L2.St}{H:Hp}{s:Shared}{G:Value→Shared→Prop}{us:List Value}{vs:List V}{sp:Sp}{C:Addr}{T:Addr→Hp→Prop}(M:Yz X.K C f)(F:į X.prog X.w X.K X.mg X.base CX k f fd ps sp)(hr:bx (k+1) X.A)(hb:Binds X.K fd ps [])
 (hx:bI CX X E)(I:Inv X pins σ H s)(r:Vals vs us)(hl:us.length≤sizeLine)
 (h:∀x,H x=none→sp (.ref x::vs) (upd H x (xn x C none)) (fun v H2=>v=.non∧T x H2) (E σ))
 (k:∀x H2 s',H x=none→s.heap.get? x=none→Inv X pins σ H2 s'→T x H2→G (.ref x) s') :
 wpAny (model X.prog X.w) X.A (call (.ref C) us) G X.xe s:=by
 obtain⟨cd,bm,c⟩:=fj M.x
 refine Zdz I.dZ c M.init M.fn hl fun h' e hm=>?_
 obtain⟨t,he,_,_⟩:=hm.there
 have hn:H e=none:=uI I.hok hm.new
 have I2:Inv X pins σ (upd H e (xn e C none)) {s with heap:=h',toks:=s.toks}:=Inv.ZlD I hm.keeps hm.new he rfl rfl rfl rfl
 have hq:=h e hn
 have r2:Vals (V.ref e::vs) (Value.ref e::us):=.cons rfl r
 have hl:(Value.ref e::us ++ []).length=ps.length:=by
  have q:=r2.length
  rw[F.len _ _ _ _ hq] at q
  rw[List.append_nil]
  exact q.symm
 have hbd:=hb {s with heap:=h'} (Value.ref e::us) I2.dZ hl
 rw[List.append_nil] at hbd
 refine wpAny_call (codeAny_mono (F.run _ X.stack _ _ ⟨Value.ref e::us,[]⟩ _ _ _ (E σ) (hr.make C us []) (I2.env0.make C us []) hbd r2 hq) fun r s' hq'=>?_)
 cases r with
 |error e=>exact hx pins σ _ _ e s' I2 hq'
 |ok fl=>
  cases fl with
  |ret u=>
   obtain⟨v,H',I3,rv,ev,q3⟩:=I2.after hq'
   subst ev
   exact⟨rv,k e H' s' hn hm.new I3 q3⟩
  |next=>exact False.elim hq'
  |brk=>exact False.elim hq'
  |cont=>exact False.elim hq'
def rem(H:Hp)(a:Addr):Hp:=fun b=>if b=a then none else H b
theorem gG{H:Hp}{a b:Addr}(h:b≠a):rem H a b=H b:=if_neg h
theorem xH{H:Hp}{a:Addr}:rem H a a=none:=if_pos rfl
theorem jJ{H:Hp}{a b:Addr}(h:H b=none):rem H a b=none:=by
 unfold rem
 split
 ·rfl
 ·exact h
theorem Inv.drop{pins:List (Addr×Obj)}{σ:L2.St}{H:Hp}{s:Shared}{a:Addr}{φ:Heap→Prop}(I:Inv X pins σ H s)(ha:H a=some (.ext φ)):Inv X pins σ (rem H a) s:=by
 have ne:∀b u,H b=some u→(∀ψ,u≠ .ext ψ)→b≠a:=fun b u q n z=>by rw[z,ha] at q;cases q;exact n _ rfl
 refine⟨I.ok,I.os,I.bare,⟨I.base.keep,I.base.slot,fun b o q n hx=>jJ (I.base.free b o q n hx),I.base.there,fun b xs q=>?_,fun b o u q=>?_,fun b ps q=>?_⟩,I.loc,I.cell,jJ I.free,fun x c e=>jJ (I.bZ x c e),fun p hp=>?_,fun b u e=>?_,I.len⟩
 ·have q':=I.base.tups b xs q
  rw[gG (ne b _ q' (by intro ψ z;cases z))];exact q'
 ·have q':=I.base.dY b o u q
  rw[gG (ne b _ q' (by intro ψ z;cases z))];exact q'
 ·obtain⟨m,q'⟩:=I.base.fU b ps q
  exact⟨m,by rw[gG (ne b _ q' (by intro ψ z;cases z))];exact q'⟩
 ·obtain⟨h1,h2,h3⟩:=I.pin p hp
  exact⟨h1,jJ h2,h3⟩
 ·have hb:b≠a:=fun z=>by rw[z,xH] at e;cases e
  rw[gG hb] at e
  exact(I.hok b u e).stay (fun _ _ _ q=>q) (fun c q=>by rw[gG (ne c _ q (by intro ψ z;cases z))];exact q) fun c xs q=>by rw[gG (ne c _ q (by intro ψ z;cases z))];exact q
theorem ZdA{K:KK}{c:Ctx}{F1 H1 H':Hp}{σ:L2.St}{ρ1:Ŏ}{x Ca:Addr}{d':Option Addr}{fs:List (Str×V)}(ě:Rel K c F1 H1 σ ρ1)(hx:H1 x=none)(hD:Yw H' x d' fs)(hH:∀b u,b≠x→upd H1 x (xn x Ca none) b=some u→H' b=some u)
 (hd:∀d0,d'=some d0→upd H1 x (xn x Ca none) d0=none):∃F',Rel K c F' H' σ ρ1∧Same F1 F'∧Same H1 H'∧lR F' d' fs∧F' x=none:=by
 have sH:Same H1 H':=fun b u e=>hH b u (ĩ e hx) (by rw[Ĝ (ĩ e hx)];exact e)
 have r2:Rel K c F1 H' σ ρ1:=ě.call ⟨sH,Same.refl _,ě.sub.trans sH,fun _ _ q=>q⟩
 rcases hD with⟨rfl,rfl⟩|⟨d0,rfl,h2,hne⟩
 ·exact⟨F1,r2,Same.refl _,sH,.inl ⟨rfl,rfl⟩,ě.sub.free hx⟩
 ·have n0:H1 d0=none:=by
   have:=hd d0 rfl
   rw[Ĝ hne] at this
   exact this
  refine⟨upd F1 d0 (.xd fs),r2.freeze h2 (ě.base.free n0) (ě.sub.free n0) (ě.fresh n0),Same.upd (ě.sub.free n0),sH,.inr ⟨d0,rfl,Ĩ⟩,?_⟩
  rw[Ĝ (Ne.symm hne)]
  exact ě.sub.free hx
def SJ(C:String):M PV:=fun ρ=>.ok (.xc C [] []) ρ
end
section
variable{M:Model}{A:Around}{E:Value→Shared→Prop}{s:Shared}{K:PySem.W.Frag}{env:Env}
theorem SM{x:Sem Value}{Q:Flow→Shared→Prop}(hh:A.handled=none)
 (h:wpAny M A x (fun v s₁=>∃e C oe vs oC,v=.ref e∧K.In s₁.heap∧s₁.heap.get? C=some oC∧oC.cls=.type "type" ∧PySem.W.mroIn K C (.type "BaseException")=some true∧s₁.heap.get? e=some oe∧oe.cls=.ref C∧oe.data=.fields vs∧vs[1]?=some .none∧E (.ref e) s₁) E s) :
 wpAny M A (raiseStmt env (some x) none) Q E s:=by
 unfold raiseStmt
 refine wpAny_bind (wpAny_mono h (fun v s₁ h₁=>?_) fun _ _ x=>x)
 obtain⟨e,C,oe,vs,oC,rfl,KX,hC,hCt,hm,he,hc,hd,h1,hE⟩:=h₁
 have L4:=PySem.W.looks_mroIn (M:=M) KX hm
 obtain⟨hp,g,d,tk,os⟩:=s₁
 obtain⟨ocls,odict,odata,osl⟩:=oe
 dsimp only at hc hd
 subst hc hd
 repeat (first|with_reducible refine wpAny_loadPart_at he ?_|(with_reducible refine wpAny_loadPart_at hC ?_;rw[hCt])|with_reducible refine PySem.W.Looks.at L4 ?_|with_reducible refine wpAny_field he rfl h1 ?_|wp_step)
 exact wpAny_raiseNew_none hh hE
end
section
variable{X:Cx}{cm:String→Addr}{E:L2.St→XK}{e:Expr}{es:List Expr}{pos cpos np:Pos}{CX:qt}{k n:Nat}{f:Addr}{fd:FuncData}{ps:List Str}{C:String}{fl:List (Str×Nat)}{ms:M (List PV)}{x:Str}
theorem ť.bindL{K:KK}{c:Ctx}{F H:Hp}{σ:L2.St}{D:Ends}{Q':List V→Hp→Prop}{r:Res (List PV)}{g:List PV→Ŏ→Res Fl}(h:ť K E c F D (r.bind g))
 (k:∀p ρ1 v F1 H1,Rel K c F1 H1 σ ρ1→Same F F1→Same H H1→Ğ K F1 p v→ť K E c F1 D (g p ρ1)→Q' v H1):bA K E (rL K) c F H σ Q' r:=by
 cases r with
 |bad=>exact h
 |exc x ρ'=>exact fun C d F' H' rel s1 q=>h σ C d F' H' rel s1 q
 |ok p ρ1=>exact fun v F' H' rel s1 s2 q=>k p ρ1 v F' H' rel s1 s2 q (ť.mono h s1)
theorem Ak{c:Ctx}{F1 H1:Hp}{σ:L2.St}{ρ1:Ŏ}{D:Ends}{qs:List PV}{vs:List V}(ě:Rel (kk X cm) c F1 H1 σ ρ1)(r1:Ğ (kk X cm) F1 qs vs)
 (h:ť (kk X cm) E c F1 D (if qs.length+1=n∧qs.length<1000∧fl.length<1000 then(match Jd fl qs [] [] with|some (ns,qs)=>.exc ⟨C,ns,qs⟩ ρ1|none=>.bad) else .bad)) :
 vs.length≤sizeLine∧∀x,H1 x=none→spX n (cm C) fl (.ref x::vs) (upd H1 x (xn x (cm C) none)) (fun v H2=>v=.non∧∃d',H2 x=some (xn x (cm C) d')∧E σ (.ref (cm C)) d' (rem H2 x)) (E σ):=by
 split at h
 case isFalse=>exact h.elim
 rename_i hz
 cases ex:Jd fl qs [] [] with
 |none=>rw[ex] at h;exact h.elim
 |some z=>
  obtain⟨ns,ws⟩:=z
  rw[ex] at h
  refine⟨by rw[←Ğ.length r1,Ŋ];omega,fun x hx=>?_⟩
  obtain⟨fs,e1,e2,e3⟩:=Je (e:=.ref x) r1 (fs:=[]) ex rfl Ğ.nil
  refine⟨x,vs,fs,rfl,by rw[←Ğ.length r1];exact hz.1,Ĩ,hz.2.2,e1,fun H' d' q1 q2 q3 q4=>⟨rfl,d',q1,?_⟩⟩
  have q2':Yw (rem H' x) x d' fs:=by
   rcases q2 with q|⟨d0,z1,z2,z3⟩
   ·exact .inl q
   ·exact .inr ⟨d0,z1,by rw[gG z3];exact z2,z3⟩
  obtain⟨F',rl,sF,sH,xd,fx⟩:=ZdA (Ca:=cm C) ě hx q2' (fun b u hb q=>by rw[gG hb];exact q3 b u hb q) q4
  exact h σ _ _ F' _ rl sF ⟨rfl,fs,xd,e2,Ğ.same sF _ _ e3⟩
theorem xJ(hc:X.calm=true)(hex:X.ex=[])(hrs:uG X E)(M:Yz X.K (cm C) f)(F:į X.prog X.w X.K X.mg X.base CX k f fd ps (spX n (cm C) fl))(hr:bx (k+1) X.A)(hg:Gl X x)(hm:X.mg x=some (.ref (cm C)))(hb:Binds X.K fd ps [])(hx:bI CX X E)
 (ha:PA X (e::es) (tL (kk X cm) E ms))(hdb:(x== ("__debug__" :Str))=false:=by decide)(he:starEach (e::es) X.env=(false,eval e X.env)::starEach es X.env:=by exact ī rfl)(hpl:(backTo cpos (starEach es X.env)).any (·.1)=false:=by rfl) :
 PS X (.Raise (some (.Call (.Name x np) (e::es) [] cpos)) none pos) (tS (kk X cm) E (nO C n fl ms)):=by
 intro pins s σ H D I ⟨c,F',ρ,rel,h⟩
 rw[arm_exec_Raise]
 refine wpAny_bind (wpAny_standAt ?_)
 show wpAny _ _ (raiseStmt X.env (some (do let v ←eval (.Call (.Name x np) (e::es) [] cpos) X.env;standAt pos;pure v)) none) _ _ _
 refine SM (K:=X.K) (I.ok.hd hc) (wpAny_bind ?_)
 obtain⟨cd,bm,xc⟩:=fj M.x
 obtain⟨dd,k0,k1,k2,k3,k5,lC⟩:=xc.at_
 refine wpAny_mono (wpAny_Call_Name_kw (gR I hg hm (PySem.W.callWith_K (h₀:= X.base) I.ok.mod.kin M.kp (ŧ (ha cpos pins s σ H (fun vs H1=>vs.length≤sizeLine∧∀x,H1 x=none→spX n (cm C) fl (.ref x::vs) (upd H1 x (xn x (cm C) none)) (fun v H2=>v=.non∧∃d',H2 x=some (xn x (cm C) d')∧E σ (.ref (cm C)) d' (rem H2 x)) (E σ)) I
  ⟨c,F',ρ,rel,ť.bindL h fun qs ρ1 vs F1 H1 ě _ _ r1 h1=>Ak ě r1 h1⟩) fun us s1 ⟨vs,H1,I1,r,q0,q⟩=>⟨I1.dZ,Fz (G:=fun v s₁=>∃e C oe vs oC,v=.ref e∧X.K.In s₁.heap∧s₁.heap.get? C=some oC∧oC.cls=.type "type" ∧PySem.W.mroIn X.K C (.type "BaseException")=some true∧s₁.heap.get? e=some oe∧oe.cls=.ref C∧oe.data=.fields vs∧vs[1]?=some .none∧X.xe (.ref e) s₁)
    M F hr hb hx I1 r (by rw[←Vals.length r];exact q0) q fun y H2 s' _ hnew I3 ⟨d',h1,h2⟩=>?_⟩) he hpl) hdb)) (fun v s3 h3=>wpAny_bind (wpAny_standAt (wpAny_pure h3))) fun _ _ z=>z
 obtain⟨⟨oe,ws,ho,hcl,hdi,hda,hv1⟩,_,_⟩:=(show Ţ X.prog X.w H2 s'.heap y (xn y (cm C) d') from I3.hok y _ h1)
 refine⟨y,cm C,oe,ws,_,rfl,I3.dZ,I3.dZ _ _ lC,rfl,xc.mroIs (by decide),ho,hcl,hda,hv1,?_⟩
 exact hrs pins σ (rem H2 y) s' y oe ws (Inv.drop I3 h1) ho hda hv1 xH (Inv.Zdt I1 hex hnew) (by rw[hcl,hdi];exact h2)
def dN(cs:List String)(f:Str):PV→Option PV
 | .xc C ns ps=>if cs.contains C=true then(ns.zip ps).lookup f else none
 |_=>none
theorem oX{fn:Str}{m:M PV}(cs:List String)(hcs:eZ (fun C=>ŕ X.K (cm C)=true∧ľ X.K (cm C) fn) cs)(he:PE X e (tV (kk X cm) E m))(hb:attributeBase e fn X.env (eval e X.env)=eval e X.env:=by rfl):PE X (.Attribute e fn pos) (tV (kk X cm) E (jZ (dN cs fn) m)):=by
 intro pins s σ H Q I ⟨c,F,ρ,rel,h⟩
 refine CG hb (ŧ (he pins s σ H (fun x H1=>∃a C d d0 fs v,x=.ref a∧H1 a=some (xo a C d)∧d=some d0∧H1 d0=some (.xd fs)∧ŕ X.K C=true∧ľ X.K C fn∧fs.lookup fn=some v∧Q v H1) I ⟨c,F,ρ,rel,h.bind fun p ρ1 v F1 H1 ě _ _ r1 h1=>?_⟩) fun u s1 ⟨x,H1,I1,rx,a,C,d,d0,fs,v,ex,e1,e2,e3,k1,k2,l,q⟩=>?_)
 ·cases p with
  |xc C ns ps=>
   unfold dN at h1
   dsimp only at h1
   split at h1
   ·rename_i hc
    have r2:Rep (kk X cm) F1 (.xc C ns ps) v:=r1
    unfold Rep at r2
    obtain⟨a,d,fs,rfl,q2,q3,q4,q5⟩:=r2
    cases el:(ns.zip ps).lookup fn with
    |none=>rw[el] at h1;exact h1.elim
    |some q=>
     rw[el] at h1
     subst q4
     obtain⟨v,e1,e2⟩:=jk q5 el
     obtain⟨k1,k2⟩:=hcs.get hc
     rcases q3 with⟨_,rfl⟩|⟨d0,z1,z2⟩
     ·cases e1
     ·exact⟨a,_,d,d0,fs,v,rfl,ě.sub _ _ q2,z1,ě.sub _ _ z2,k1,k2,e1,h1 v F1 H1 ě (Same.refl _) (Same.refl _) e2⟩
   ·exact h1.elim
  |_=>exact h1.elim
 ·subst ex e2
  obtain rfl:u=Value.ref a:=rx
  obtain⟨cd,bm,xc⟩:=fj k1
  obtain⟨⟨o,ws,ho,hcl,hdi,hda⟩,_,_⟩:=(show Ţ X.prog X.w H1 s1.heap a (xo a C (some d0)) from I1.hok a _ e1)
  obtain⟨mA,hns,r⟩:=(show Ţ X.prog X.w H1 s1.heap d0 (.xd fs) from I1.hok d0 _ e3)
  obtain⟨od,hod,hlk⟩:=kE hns
  obtain⟨u,hu,ru⟩:=jw.some_of (v:=v) (o:=mA fn) (by rw[←l];exact r fn)
  obtain⟨ocls,odict,odata,osl⟩:=o
  dsimp only at hcl hdi hda
  subst hcl hdi hda
  exact ZlB I1.dZ (ox:=⟨.ref C,some d0,.fields ws,osl⟩) (od:=od) ⟨ho,rfl,rfl,hod⟩ xc k2 (by rw[hlk,hu]) (qM ru) ⟨v,H1,I1.tok _,ru,q⟩
end
end P
namespace P
open PySem PySem.Spec PyProof.Rows L2 M2 M3 M4 Builtin Builtin.ObjectAttr
def aV(K:PySem.W.Frag)(C:Addr):Bool:=ŕ K C && PySem.W.findIn K (.ref C) "__class__" == some (some (.builtin "object.__class__")) && PySem.W.specialIn K (.builtin "object.__class__") "__get__" == some (some (.builtin "getset_descriptor.__get__")) && PySem.W.takesIn K (.builtin "object.__class__")== some true
theorem oY{K:PySem.W.Frag}{C:Addr}(q:aV K C=true):ŕ K C=true∧PySem.W.findIn K (.ref C) "__class__" =some (some (.builtin "object.__class__"))∧PySem.W.specialIn K (.builtin "object.__class__") "__get__" =some (some (.builtin "getset_descriptor.__get__"))∧PySem.W.takesIn K (.builtin "object.__class__")=some true:=by
 unfold aV at q
 simp only[Bool.and_eq_true,beq_iff_eq] at q
 obtain⟨⟨⟨z1,z2⟩,z3⟩,z4⟩:=q
 exact⟨z1,z2,z3,z4⟩
section
variable{prog:Program}{w:World}{A:Around}{E:Value→Shared→Prop}{s:Shared}{K:PySem.W.Frag}{x C:Addr}{ox:Obj}{od:Option Obj}
theorem SN{R:Result→Shared→Prop}{tk:Tok}(X:K.In s.heap)(I:PySem.W.InstAt s.heap x ox C od)(q:aV K C=true)
 (h:R (.ok (.ret (.ref C))) s):codeAny (model prog w) A (.call (.builtin "BaseException.__getattribute__") ⟨[.ref x,.str "__class__" tk],[]⟩) R s:=by
 obtain⟨q0,q1,q2,q3⟩:=oY q
 obtain⟨cd,bm,c⟩:=fj q0
 have hk:builtinKind "BaseException.__getattribute__" =some .slot:=by decide +kernel
 have hsplit:splitId "BaseException.__getattribute__" =some ("BaseException","__getattribute__"):=by decide +kernel
 have L0:=I.type (M:=model prog w)
 have hf:PySem.W.findObj K C od "__class__" =some (.bind (.builtin "getset_descriptor.__get__") (.builtin "object.__class__")):=by
  unfold PySem.W.findObj
  rw[c.cls,Option.bind_some,q1,Option.bind_some]
  simp[q2,q3]
 have L3:=PySem.W.looks_find (M:=model prog w) X I hf
 have hsub:PySem.W.Looks (model prog w) s.heap (isInstance (.ref x) (.type "BaseException")) true:=L0.andThen (PySem.W.looks_mroIn X (c.mroIs (by decide)))
 refine codeAny_call_builtin PySem.F.attrBase_ValueError.ga.plain PySem.F.entry_bexc_ga (@PySem.W.check_slot (model prog w) _ _ s "BaseException.__getattribute__" "BaseException" "__getattribute__" (.ref x) [.str "__class__" tk] [] _ hk hsplit hsub (PySem.F.args_bexc_ga (.ref x) (.str "__class__" tk)) ?_)
 unfold Builtin.«object.__getattribute__»
 refine wpAny_bind (wpAny_pure (wpAny_bind (wpAny_pure (wpAny_bind (L0.here (wpAny_bind (L3.here ?_)))))))
 refine wpAny_bind (wpAny_holding (wpAny_call (PySem.W.class_get X I (c.mroIs (by decide)) ?_)))
 exact wpAny_pure h
theorem Jf{Q:Option Value→Shared→Prop}(X:K.In s.heap)(I:PySem.W.InstAt s.heap x ox C od)(q:aV K C=true)
 (h:Q (some (.ref C)) {s with toks:=s.toks+1}):wpAny (model prog w) A (getAttr? (.ref x) "__class__") Q E s:=by
 obtain⟨q0,q1,q2,q3⟩:=oY q
 obtain⟨cd,bm,c⟩:=fj q0
 have FB:=PySem.F.attrBase_ValueError
 obtain⟨hp,g,d,t,os⟩:=s
 have L0:=I.type (M:=model prog w)
 have L1:=PySem.W.looks_findIn (M:=model prog w) X c.ga
 have L2:=PySem.W.looks_findIn (M:=model prog w) X c.gg
 unfold getAttr? getAttrBy? getAttrBy
 refine wpAny_bind (wpAny_mkText (wpAny_bind (wpAny_attempt (wpAny_holding (wpAny_bind (L0.at (wpAny_bind (L1.at ?_))))))))
 show wpAny _ _ (getAttrByItsOwn _ _ _ _ _ _) _ _ _
 have f3:=FB.ga.bind (.ref x)
 unfold getAttrByItsOwn hookBefore callGetattribute
 refine wpAny_bind (L2.at ?_)
 refine wpAny_bind (wpAny_attempt (wpAny_holding ?_))
 rw[if_neg (by decide)]
 unfold boundAndCalled
 rw[f3]
 refine wpAny_bind (wpAny_pure (wpAny_call ?_))
 exact SN (s:=⟨hp,g,d,t+1,os⟩) X I q (show wpAny _ _ (handedOut (.ref C)) _ _ _ by rw[PySem.W.handedOut_of rfl];exact wpAny_pure (wpAny_pure h))
end
theorem xK{K:PySem.W.Frag}{x D:Addr}(q:aV K D=true):PySem.W.KitX K (.ref x) (.ref D) (fun h=>∃ox od,PySem.W.InstAt h x ox D od):=by
 obtain⟨q0,q1,q2,q3⟩:=oY q
 obtain⟨cd,bm,c⟩:=fj q0
 obtain⟨dd,k0,k1,k2,k3,k5,lC⟩:=c.at_
 refine⟨fun _ _ _ ⟨ox,od,I⟩=>I.type,fun _ _ X _=>?_,fun h tp dd its n sl X htp=>?_,fun X ⟨ox,od,I⟩ k=>Jf X I q k⟩
 ·intro A' Q' E' s' k q
  unfold isType loadHead
  exact wpAny_bind (wpAny_loadPart (k _ _ (X _ _ lC)) (wpAny_pure q))
 ·refine Bool.eq_false_iff.mpr fun q=>?_
  have e:D=tp:=Value.ref.inj (beq_iff_eq.mp q)
  subst e
  have z:=congrArg Obj.cls (Option.some.inj ((X _ _ lC).symm.trans htp))
  exact absurd (Value.type.inj z) (by decide)
section
variable{X:Cx}{cm:String→Addr}{K:KK}
def Jg(K:PySem.W.Frag):List V→Hp→VK→Prop:=fun xs H Q=>Du K xs H Q∨∃a C d fs c cv b,xs=[.ref a,c]∧RelV c cv∧(∀u,RelV c u→u=cv)∧H a=some (xo a C d)∧lR H d fs∧aV K C=true∧PySem.W.kitOne K (.ref C) cv=some b∧Q (.bl b) H
theorem bJ:Ş X (.builtin "isinstance") (Jg X.K):=by
 intro pins s σ H xs us Q I r h
 rcases h with h|⟨a,C,d,fs,c,cv,b,rfl,rc,uq,ha,hD,q,hk,hQ⟩
 ·exact Yn pins s σ H xs us Q I r h
 ·obtain⟨u,w',rfl,r1,r2⟩:=vals2 r
  cases(show u=Value.ref a from r1)
  rw[uq w' r2]
  obtain⟨⟨o,ws,ho,hcl,hdi,hda⟩,_,_⟩:=(show Ţ X.prog X.w H s.heap a (xo a C d) from I.hok a _ ha)
  obtain⟨ocls,odict,odata,osl⟩:=o
  dsimp only at hcl hdi hda
  subst hcl hdi hda
  have J:∃ox od,PySem.W.InstAt s.heap a ox C od:=by
   rcases hD with⟨rfl,_⟩|⟨d0,rfl,z⟩
   ·exact⟨_,none,ho,rfl,rfl,trivial⟩
   ·obtain⟨od,z'⟩:=oV (I.hok d0 _ z)
    exact⟨_,some od,ho,rfl,rfl,z'⟩
  exact PySem.W.kia_one (xK q) I.dZ J hk (fun z=>nomatch z) fun tk=>⟨.bl b,H,I.tok _,rfl,hQ⟩
def m_(Q:String→String→Bool→Prop):List ((String×String)×Bool)→Prop
 | []=>True
 |((c,d),b)::r=>Q c d b∧m_ Q r
theorem m_.get{Q:String→String→Bool→Prop}:∀{t:List ((String×String)×Bool)} {c d:String} {b:Bool},m_ Q t→t.lookup (c,d)=some b→Q c d b
 | [],_,_,_,_,h=>by simp at h
 |((c',d'),b')::r,c,d,b,⟨h1,h2⟩,h=>by
  rw[List.lookup_cons] at h
  cases e:(c,d)== (c',d') with
  |true=>
   rw[e] at h
   cases h
   obtain⟨rfl,rfl⟩:=Prod.mk.inj (beq_iff_eq.mp e)
   exact h1
  |false=>
   rw[e] at h
   exact h2.get h
def aj(tc tt:List ((String×String)×Bool))(ds nt:List String):List PV→Option PV
 | [.xc C _ _,.cls D]=>(tc.lookup (C,D)).map .bl
 | [.xc C _ _,.ty D]=>(tt.lookup (C,D)).map .bl
 | [.non,.cls D]=>if ds.contains D=true then some (.bl false) else none
 | [.non,.ty D]=>if nt.contains D=true then some (.bl false) else Ij [.non,.ty D]
 |ps=>Ij ps
theorem bK{tc tt:List ((String×String)×Bool)}{ds nt:List String}(hc:m_ (fun C D b=>aV K.K (K.cm C)=true∧PySem.W.kitOne K.K (.ref (K.cm C)) (.ref (K.cm D))=some b) tc)
 (ht:m_ (fun C D b=>aV K.K (K.cm C)=true∧PySem.W.kitOne K.K (.ref (K.cm C)) (.type D)=some b) tt)(hd:eZ (fun D=>PySem.W.kitOne K.K (.type "NoneType") (.ref (K.cm D))=some false) ds)
 (hn:eZ (fun D=>PySem.W.kitOne K.K (.type "NoneType") (.type D)=some false) nt):cR K (Jg K.K) (aj tc tt ds nt):=by
 intro c F H σ ρ ps pv vs Q rel r e k
 unfold aj at e
 split at e
 ·rename_i C ns qs D
  obtain⟨v,u,rfl,r1,r2⟩:=Uz r
  cases eb:tc.lookup (C,D) with
  |none=>rw[eb] at e;cases e
  |some b=>
   rw[eb] at e
   cases e
   obtain⟨k1,k2⟩:=hc.get eb
   have r1':Rep K F (.xc C ns qs) v:=by rcases r1 with q|q;exact q;exact q.elim
   have r2':Rep K F (.cls D) u:=by rcases r2 with q|q;exact q;exact q.elim
   unfold Rep at r1' r2'
   obtain⟨a,d,fs,rfl,q2,q3,q4,q5⟩:=r1'
   subst r2'
   exact .inr ⟨a,_,d,fs,_,.ref (K.cm D),b,rfl,rfl,fun u z=>z,rel.sub _ _ q2,q3.same rel.sub,k1,k2,k _ F H rel (Same.refl _) (Same.refl _) Rep.bl⟩
 ·rename_i C ns qs D
  obtain⟨v,u,rfl,r1,r2⟩:=Uz r
  cases eb:tt.lookup (C,D) with
  |none=>rw[eb] at e;cases e
  |some b=>
   rw[eb] at e
   cases e
   obtain⟨k1,k2⟩:=ht.get eb
   have r1':Rep K F (.xc C ns qs) v:=by rcases r1 with q|q;exact q;exact q.elim
   have r2':Rep K F (.ty D) u:=by rcases r2 with q|q;exact q;exact q.elim
   unfold Rep at r1' r2'
   obtain⟨a,d,fs,rfl,q2,q3,q4,q5⟩:=r1'
   subst r2'
   exact .inr ⟨a,_,d,fs,_,.type D,b,rfl,rfl,fun u z=>z,rel.sub _ _ q2,q3.same rel.sub,k1,k2,k _ F H rel (Same.refl _) (Same.refl _) Rep.bl⟩
 ·rename_i D
  obtain⟨v,u,rfl,r1,r2⟩:=Uz r
  split at e
  ·rename_i hD
   cases e
   cases r1.non
   have r2':Rep K F (.cls D) u:=by rcases r2 with q|q;exact q;exact q.elim
   unfold Rep at r2'
   subst r2'
   exact .inl ⟨_,false,rfl,hd.get hD,k _ F H rel (Same.refl _) (Same.refl _) Rep.bl⟩
  ·cases e
 ·rename_i D
  split at e
  ·rename_i hD
   obtain⟨v,u,rfl,r1,r2⟩:=Uz r
   cases e
   cases r1.non
   cases r2.ty
   exact .inl ⟨_,false,rfl,hn.get hD,k _ F H rel (Same.refl _) (Same.refl _) Rep.bl⟩
  ·exact .inl (Ik rel r e k)
 ·exact .inl (Ik rel r e k)
end
def Jh(K:PySem.W.Frag)(cm:String→Addr)(cs:List String)(D:String)(b:Bool):Bool:=match cs with
 | []=>true
 |c::r=>PySem.W.kitCls K (.ref (cm c)) (.ref (cm D))== some b && Jh K cm r D b
theorem uK{K:PySem.W.Frag}{cm:String→Addr}{D:String}{b:Bool}:∀{cs:List String},Jh K cm cs D b=true→eZ (fun c=>PySem.W.kitCls K (.ref (cm c)) (.ref (cm D))=some b) cs
 | [],_=>trivial
 |c::r,h=>by
  unfold Jh at h
  rw[Bool.and_eq_true] at h
  exact⟨beq_iff_eq.mp h.1,uK h.2⟩
def isC(K:PySem.W.Frag)(cm:String→Addr):List ((String×String)×Bool)→Bool
 | []=>true
 |((c,d),b)::r=>aV K (cm c) && PySem.W.kitOne K (.ref (cm c)) (.ref (cm d))== some b && isC K cm r
theorem Ji{K:PySem.W.Frag}{cm:String→Addr}:∀{t:List ((String×String)×Bool)},isC K cm t=true→m_ (fun C D b=>aV K (cm C)=true∧PySem.W.kitOne K (.ref (cm C)) (.ref (cm D))=some b) t
 | [],_=>trivial
 |((c,d),b)::r,h=>by
  unfold isC at h
  rw[Bool.and_eq_true,Bool.and_eq_true] at h
  exact⟨⟨h.1.1,beq_iff_eq.mp h.1.2⟩,Ji h.2⟩
def isT(K:PySem.W.Frag)(cm:String→Addr):List ((String×String)×Bool)→Bool
 | []=>true
 |((c,d),b)::r=>aV K (cm c) && PySem.W.kitOne K (.ref (cm c)) (.type d)== some b && isT K cm r
theorem Jj{K:PySem.W.Frag}{cm:String→Addr}:∀{t:List ((String×String)×Bool)},isT K cm t=true→m_ (fun C D b=>aV K (cm C)=true∧PySem.W.kitOne K (.ref (cm C)) (.type D)=some b) t
 | [],_=>trivial
 |((c,d),b)::r,h=>by
  unfold isT at h
  rw[Bool.and_eq_true,Bool.and_eq_true] at h
  exact⟨⟨h.1.1,beq_iff_eq.mp h.1.2⟩,Jj h.2⟩
def isD(K:PySem.W.Frag)(cm:String→Addr):List String→Bool
 | []=>true
 |d::r=>PySem.W.kitOne K (.type "NoneType") (.ref (cm d))== some false && isD K cm r
theorem Jk{K:PySem.W.Frag}{cm:String→Addr}:∀{t:List String},isD K cm t=true→eZ (fun D=>PySem.W.kitOne K (.type "NoneType") (.ref (cm D))=some false) t
 | [],_=>trivial
 |d::r,h=>by
  unfold isD at h
  rw[Bool.and_eq_true] at h
  exact⟨beq_iff_eq.mp h.1,Jk h.2⟩
def SQ(K:PySem.W.Frag):List String→Bool
 | []=>true
 |d::r=>PySem.W.kitOne K (.type "NoneType") (.type d)== some false && SQ K r
theorem Dz{K:PySem.W.Frag}:∀{t:List String},SQ K t=true→eZ (fun D=>PySem.W.kitOne K (.type "NoneType") (.type D)=some false) t
 | [],_=>trivial
 |d::r,h=>by
  unfold SQ at h
  rw[Bool.and_eq_true] at h
  exact⟨beq_iff_eq.mp h.1,Dz h.2⟩
def rE(K:PySem.W.Frag)(C f:Addr):Bool:=ŕ K C && PySem.W.keepIn K (.ref C) && PySem.W.findIn K (.ref C) "__init__" == some (some (.ref f)) && PySem.W.typeIn K (.ref f)== some (.type "function")
theorem uL{K:PySem.W.Frag}{C f:Addr}(h:rE K C f=true):Yz K C f:=by
 unfold rE at h
 simp only[Bool.and_eq_true,beq_iff_eq] at h
 exact⟨h.1.1.1,h.1.1.2,h.1.2,h.2⟩
theorem FJ{l:PySem.W.OpenLaw}{k:Nat}{x:Str}{m:MF}{q:Program}{loose:List Str}{XP:(Str→Option Value)→Heap→Prop}{YP:World→Heap→Prop}{d:DefRec}{K:Params→PySem.W.Frag}(hn:l.most=some 63)(hdf:d.params.defaults=[])(hr:bx k callerA)
 (hY:∀(w:World) (h:Heap),YP w h→(K w.params).In h)
 (F:∀(w:World) (mg:Str→Option Value) (fa:Addr) (h:Heap),(K w.params).In h→h.Ns mainGlobals mg→mg d.name=some (.ref fa)→
   ∃fd:FuncData,(∀(s:Shared) (u:Value),BindsTo s fd ⟨[u],[]⟩ [(x,u)])∧∀base:Heap,(K w.params).In base→base.Ns mainGlobals mg→∃cm,į l.prog w (K w.params) mg base (Ů l.prog w) k fa fd [x] (ž ⟨K w.params,cm⟩ 1 m))
 (ht:∀ns:List Int,ns.length≤63→m [.sh (.lst (ns.map .int))]=.ret (.sh (.bl true))) :
 PySem.W.WalkO q loose XP YP l.row.toRowW d [] (fun f vs=>PySem.call f vs):=by
 refine L2.Rn (n:=63) (k:=k) (x:=x) (CX:=fun w=>Ů l.prog w) (sp:=fun w=>Zdh (K w.params)) hn (by decide) hdf hr hY (fun w mg fa h h1 h2 h3=>?_) (fun w H a ns hl _ hS=>⟨a,ns,rfl,hS,hl,fun _ _ z=>z⟩) fun w H s e s' z=>rz z
 obtain⟨fd,hb,hF⟩:=F w mg fa h h1 h2 h3
 refine⟨fd,hb,fun base k1 k2=>?_⟩
 obtain⟨cm,G⟩:=hF base k1 k2
 refine G.imp fun vs H Q E hs=>?_
 obtain⟨sa,ns,rfl,hS,hl,hq⟩:=hs
 refine⟨H,[.sh (.lst (ns.map .int))],rfl,Same.refl _,.cons ?_ .nil,?_⟩
 ·show Rep _ _ _ _
  unfold Rep
  exact⟨sa,_,rfl,hS,wW ns⟩
 ·rw[ht ns hl]
  intro v F' H' g rf
  have e:v=.bl true:=ug (K:=⟨K w.params,cm⟩) (F:=F') rf
  exact hq v H' e
section
variable{ρ:Ŏ}{C:String}{n i:Nat}{fl:List (Str×Nat)}{ms:M (List PV)}{mb mh:M Fl}{mr:MH}{yes no:List String}{x:PX}
@[simp] theorem ZdB:uH C ρ=.exc ⟨C,[],[]⟩ ρ:= rfl
@[simp] theorem Zct:SJ C ρ=.ok (.xc C [] []) ρ:= rfl
@[simp] theorem ZdC:Yy C n fl ms ρ=(ms ρ).bind fun ps ρ1=>if ps.length+1=n∧ps.length<1000∧fl.length<1000 then(match Jd fl ps [] [] with
  |some (ns,qs)=>.ok (.xc C ns qs) ρ1
  |none=>.bad) else .bad:=rfl
@[simp] theorem Zcu:nO C n fl ms ρ=(ms ρ).bind fun ps ρ1=>if ps.length+1=n∧ps.length<1000∧fl.length<1000 then(match Jd fl ps [] [] with
  |some (ns,qs)=>.exc ⟨C,ns,qs⟩ ρ1
  |none=>.bad) else .bad:=rfl
@[simp] theorem ZlE:Ss mb mr ρ=(match mb ρ with
  | .exc x ρ1=>mr x ρ1
  |r=>r):=rfl
@[simp] theorem ZlF:nM i yes no mh mr x ρ=(if yes.contains x.C=true then(match mh (ρ.set i (.sh (.xc x.C x.ns x.ps))) with
  | .ok f ρ2=>.ok f (ρ2.set i .no)
  |_=>.bad) else if no.contains x.C=true then mr x ρ else .bad):=rfl
end
end P
namespace P
open PySem PySem.Spec PyProof.Rows L2 M2 M3 M4
section
variable{X:Cx}{cm:String→Addr}{E:L2.St→XK}{y:Str}{Dn:String}{yp hpos:Pos}{b₀:Stmt}{suite:List Stmt}{rest:List ExceptHandler}{yes no:List String}{mh:M Fl}{mr:MH}
@[simp] theorem ZlG{ρ:Ŏ}{x:PX}:Zdv yes no mh mr x ρ=(if yes.contains x.C=true then(match mh ρ with
  | .ok f ρ2=>.ok f ρ2
  |_=>.bad) else if no.contains x.C=true then mr x ρ else .bad):=rfl
end
end P
namespace P
open PySem PySem.Spec PyProof.Rows L2 M2 M3 M4
section
variable{X:Cx}{cm:String→Addr}{K:KK}
def UJ:List V→Hp→VK→Prop:=fun xs H Q=>(∃i,xs=[.int i]∧Q (.int i) H)∨∃k,xs=[.bl k]∧Q (.int (if k then 1 else 0)) H
theorem YB:Ş X (.type "int") UJ:=E_
def Jl:List PV→Option PV
 | [.int i]=>some (.int i)
 | [.bl k]=>some (.int (if k then 1 else 0))
 |_=>none
theorem YC:cR K UJ Jl:=by
 intro c F H σ ρ ps pv vs Q rel r e k
 unfold Jl at e
 split at e
 ·cases e
  obtain⟨v,rfl,r1⟩:=Ag r
  cases r1.int
  exact .inl ⟨_,rfl,k _ F H rel (Same.refl _) (Same.refl _) Rep.int⟩
 ·cases e
  obtain⟨v,rfl,r1⟩:=Ag r
  cases r1.bl
  exact .inr ⟨_,rfl,k _ F H rel (Same.refl _) (Same.refl _) Rep.int⟩
 ·cases e
def ZlH:List PV→Option PV
 | [.int i]=>if i.natAbs.log2<1920 then some (.str (toString i)) else none
 |_=>none
def ZlI:List PV→Option PV
 | [.str x]=>if x.length=1 then some (.int (x.cps.getD 0 0:Nat)) else none
 |_=>none
theorem aL:∀{ns:List Int} {its:List Value},Vals (ns.map V.int) its→IntsAre its ns
 | [],its,h=>by cases h;exact .nil
 |n::ns,its,h=>by
  cases h with
  |cons r t=>
   obtain⟨k,e⟩:=(show ∃k,_=Value.int n k from r)
   subst e
   exact .cons n k (aL t)
def ZdD(K:PySem.W.Frag):List V→Hp→VK→Prop:=fun xs H Q=>∃(p:Addr) (ns:List Int),xs=[.ref p]∧aF K H p (ns.map V.int)∧Q (.int ns.sum) H
theorem Jm(hc:X.calm=true):Ş X (.builtin "sum") (ZdD X.K):=by
 intro pins s σ H xs us Q I r h
 obtain⟨p,ns,rfl,hS,q⟩:=h
 obtain⟨u,rfl,ru⟩:=vals1 r
 cases ru
 obtain⟨its,rv,pl,hz⟩:=I.list hS
 have hi:=aL rv
 obtain⟨ys,e⟩:=hi.allInts.items
 have hns:ns=ys.toList.map (·.1):=by rw[←hi.numsOf,←nums_intItems,←e]
 have hl:=pl.isList
 rw[e] at hl
 refine sum_intListG (show X.A.handled=none from I.ok.hd hc) hl fun h' tk t' hk=>?_
 refine⟨.int ns.sum,H,I.kept hk,⟨t',?_⟩,q⟩
 rw[preSum_eq,List.take_of_length_le (by simp),←hns]
section
variable{prog:Program}{w:World}{A:Around}{E:Value→Shared→Prop}{s:Shared}{l:Addr}{xs:Array (Int×Tok)}
theorem xM{Q:Value→Shared→Prop}(hl:s.heap.IsTuple l (intItems xs))
 (h:∀s₂:Shared,s₂= {s with heap:=s.heap.push {cls:=.type "tuple_iterator",data:=.fields #[.ref l,.int 0 0]}}→
   (s₂.heap.IsTupleIter s.heap.objs.size l 0∧s₂.heap.IsTuple l (intItems xs))→(∀b∈[s.heap.objs.size,l],b<s₂.heap.objs.size)→l≠s.heap.objs.size→(∀h':Heap,(∀b o,b∉[s.heap.objs.size]→s₂.heap.get? b=some o→h'.get? b=some o)→∀b o,s.heap.get? b=some o→h'.get? b=some o)→Q (.ref s.heap.objs.size) s₂) :
 wpAny (model prog w) A (pyIter (.ref l)) Q E s:=by
 have hlt:l<s.heap.objs.size:=by obtain⟨_,e,_⟩:=hl;exact Heap.lt_size e
 refine wpAny_pyIter_tuple hl (h _ rfl ⟨⟨_,Heap.get?_push_size _ rfl,rfl,rfl⟩,hl.push _⟩ (fun b hb=>?_) (Nat.ne_of_lt hlt) fun h' hk b o e=>?_)
 ·show b<(s.heap.push _).objs.size
  rw[Heap.size_push]
  rcases List.mem_cons.mp hb with rfl|hb
  ·exact Nat.lt_succ_self _
  ·rcases List.mem_cons.mp hb with rfl|hb
   ·exact Nat.lt_succ_of_lt hlt
   ·cases hb
 ·refine hk b o (fun hm=>?_) (Heap.get?_push_of_some _ e)
  rcases List.mem_cons.mp hm with e1|hm
  ·exact absurd (e1▸Heap.lt_size e) (Nat.lt_irrefl _)
  ·cases hm
theorem Al{Q:Value→Shared→Prop}(hh:A.handled=none)(hl:s.heap.IsTuple l (intItems xs))(hne:0<xs.size)
 (h:∀v h' tk,(intItems xs)[argBest (fun i j=>decide (numAt xs i>numAt xs j)) (xs.size-1)]?=some v→(∀b o,s.heap.get? b=some o→h'.get? b=some o)→Q v {s with heap:=h',toks:=tk}) :
 wpAny (model prog w) A (call (.builtin "max") [.ref l]) Q E s:=by
 refine call_max_walk (xM hl fun s₂ e st hfp hlI hk0=>?_)
 subst e
 refine⟨_,_,_,_,_,_,_,rfl,Walks.tuple (A:=A.in1) hh _ l hlI (intItems xs),st,hfp,by simpa[intItems] using hne,CmpOf.ints_gt (numAt xs) (fun _ _=>intItems_at),fun v h' tk hP hk=>?_⟩
 exact h v h' tk (by simpa[intItems] using hP) (hk0 h' hk)
end
def ZdE(K:PySem.W.Frag):List V→Hp→VK→Prop:=fun xs H Q=>∃(p:Addr) (ns:List Int),xs=[.ref p]∧(aF K H p (ns.map V.int)∨cZ K H p (ns.map V.int))∧0<ns.length∧∀M,M∈ns→(∀a∈ns,a≤M)→Q (.int M) H
theorem Am(hc:X.calm=true):Ş X (.builtin "max") (ZdE X.K):=by
 intro pins s σ H xs us Q I r h
 obtain⟨p,ns,rfl,hS,hne,q⟩:=h
 obtain⟨u,rfl,ru⟩:=vals1 r
 cases ru
 have fin:∀(ys:Array (Int×Tok)),ns=ys.toList.map (·.1)→0<ys.size→∀v h' tk,(intItems ys)[argBest (fun i j=>decide (numAt ys i>numAt ys j)) (ys.size-1)]?=some v→(∀b o,s.heap.get? b=some o→h'.get? b=some o)→EP X pins σ Q v {s with heap:=h',toks:=tk}:=by
  intro ys hns hsz v h' tk hv hk
  obtain⟨t,rfl⟩:=intItems_at hv
  obtain⟨h1,h2⟩:=argBest_gt (numAt ys) (ys.size-1)
  refine⟨.int _,H,I.kept hk,⟨t,rfl⟩,q _ ?_ fun a ha=>?_⟩
  ·rw[hns,numAt_eq]
   have hj:argBest (fun i j=>decide (numAt ys i>numAt ys j)) (ys.size-1)<(ys.toList.map (·.1)).length:=by rw[List.length_map,Array.length_toList];omega
   rw[List.getD_eq_getElem?_getD,List.getElem?_eq_getElem hj]
   exact List.getElem_mem _
  ·rw[hns] at ha
   obtain⟨j,hj,rfl⟩:=List.mem_iff_getElem.mp ha
   rw[List.length_map,Array.length_toList] at hj
   have:=h2 j (by omega)
   rw[numAt_eq ys j,List.getD_eq_getElem?_getD,List.getElem?_eq_getElem (by rw[List.length_map,Array.length_toList];exact hj)] at this
   exact this
 rcases hS with hS|hS
 ·obtain⟨its,rv,pl,hz⟩:=I.list hS
  have hi:=aL rv
  obtain⟨ys,e⟩:=hi.allInts.items
  have hns:ns=ys.toList.map (·.1):=by rw[←hi.numsOf,←nums_intItems,←e]
  have hl:=pl.isList
  rw[e] at hl
  have hsz:0<ys.size:=by rw[hns,List.length_map,Array.length_toList] at hne;exact hne
  exact max_intList (show X.A.handled=none from I.ok.hd hc) hl hsz (fin ys hns hsz)
 ·obtain⟨its,rv,pl,hz⟩:=I.tuple hS
  have hi:=aL rv
  obtain⟨ys,e⟩:=hi.allInts.items
  have hns:ns=ys.toList.map (·.1):=by rw[←hi.numsOf,←nums_intItems,←e]
  have hl:s.heap.IsTuple p its.toArray:=pl
  rw[e] at hl
  have hsz:0<ys.size:=by rw[hns,List.length_map,Array.length_toList] at hne;exact hne
  exact Al (show X.A.handled=none from I.ok.hd hc) hl hsz (fin ys hns hsz)
def ZdF(K:PySem.W.Frag):List V→Hp→VK→Prop:=fun xs H Q=>∃(p:Addr) (ns:List Int),xs=[.ref p]∧aF K H p (ns.map V.int)∧0<ns.length∧∀M,M∈ns→(∀a∈ns,M≤a)→Q (.int M) H
theorem Jo(hc:X.calm=true):Ş X (.builtin "min") (ZdF X.K):=by
 intro pins s σ H xs us Q I r h
 obtain⟨p,ns,rfl,hS,hne,q⟩:=h
 obtain⟨u,rfl,ru⟩:=vals1 r
 cases ru
 obtain⟨its,rv,pl,hz⟩:=I.list hS
 have hi:=aL rv
 obtain⟨ys,e⟩:=hi.allInts.items
 have hns:ns=ys.toList.map (·.1):=by rw[←hi.numsOf,←nums_intItems,←e]
 have hl:=pl.isList
 rw[e] at hl
 have hsz:0<ys.size:=by rw[hns,List.length_map,Array.length_toList] at hne;exact hne
 refine min_intList (show X.A.handled=none from I.ok.hd hc) hl hsz fun v h' tk hv hk=>?_
 obtain⟨t,rfl⟩:=intItems_at hv
 obtain⟨h1,h2⟩:=argBest_lt (numAt ys) (ys.size-1)
 refine⟨.int _,H,I.kept hk,⟨t,rfl⟩,q _ ?_ fun a ha=>?_⟩
 ·rw[hns,numAt_eq]
  have hj:argBest (fun i j=>decide (numAt ys i<numAt ys j)) (ys.size-1)<(ys.toList.map (·.1)).length:=by rw[List.length_map,Array.length_toList];omega
  rw[List.getD_eq_getElem?_getD,List.getElem?_eq_getElem hj]
  exact List.getElem_mem _
 ·rw[hns] at ha
  obtain⟨j,hj,rfl⟩:=List.mem_iff_getElem.mp ha
  rw[List.length_map,Array.length_toList] at hj
  have:=h2 j (by omega)
  rw[numAt_eq ys j,List.getD_eq_getElem?_getD,List.getElem?_eq_getElem (by rw[List.length_map,Array.length_toList];exact hj)] at this
  exact this
def intsOf:List PV→Option (List Int)
 | []=>some []
 | .int b::ps=>(intsOf ps).map (b:: ·)
 |_::_=>none
@[simp] theorem jl:∀ns:List Int,intsOf (ns.map PV.int)=some ns
  | []=>rfl
  |n::ns=>by rw[List.map_cons,intsOf,jl ns];rfl
theorem ints_rep{F:Hp}:∀{ps:List PV} {vs:List V} {bs:List Int},Ğ K F ps vs→intsOf ps=some bs→vs=bs.map V.int
 | [],vs,bs,r,h=>by
   cases h
   cases r.pr
   rfl
 |p::ps,vs,bs,r,h=>by
  cases r.pr with
  |cons r1 t=>
   cases p with
   |int b=>
    unfold intsOf at h
    obtain⟨cs,e,rfl⟩:=Option.map_eq_some_iff.mp h
    rw[ints_rep (Ğ.of t) e,show _=V.int b from r1]
    rfl
   |_=>cases h
def best(f:Int→Int→Int):List Int→Option Int
 | []=>none
 |n::ns=>some (ns.foldl f n)
theorem foldl_max:∀(ns:List Int) (n:Int),ns.foldl max n∈n::ns∧∀a∈n::ns,a≤ns.foldl max n
 | [],n=>by simp
 |m::ns,n=>by
  obtain⟨h1,h2⟩:=foldl_max ns (max n m)
  rw[List.foldl_cons]
  refine⟨?_,fun a ha=>?_⟩
  ·rcases List.mem_cons.mp h1 with e|e
   ·rw[e]
    by_cases h:n≤m
    ·rw[Int.max_eq_right h];simp
    ·rw[Int.max_eq_left (by omega)];simp
   ·simp[e]
  ·have hm:=h2 (max n m) List.mem_cons_self
   rcases List.mem_cons.mp ha with rfl|ha
   ·omega
   ·rcases List.mem_cons.mp ha with rfl|ha
    ·omega
    ·exact h2 a (List.mem_cons_of_mem _ ha)
theorem foldl_min:∀(ns:List Int) (n:Int),ns.foldl min n∈n::ns∧∀a∈n::ns,ns.foldl min n≤a
 | [],n=>by simp
 |m::ns,n=>by
  obtain⟨h1,h2⟩:=foldl_min ns (min n m)
  rw[List.foldl_cons]
  refine⟨?_,fun a ha=>?_⟩
  ·rcases List.mem_cons.mp h1 with e|e
   ·rw[e]
    by_cases h:n≤m
    ·rw[Int.min_eq_left h];simp
    ·rw[Int.min_eq_right (by omega)];simp
   ·simp[e]
  ·have hm:=h2 (min n m) List.mem_cons_self
   rcases List.mem_cons.mp ha with rfl|ha
   ·omega
   ·rcases List.mem_cons.mp ha with rfl|ha
    ·omega
    ·exact h2 a (List.mem_cons_of_mem _ ha)
def Ao:List PV→Option PV
 | [.lst ps]=>(intsOf ps).map fun ns=>.int ns.sum
 |_=>none
def iH:List PV→Option PV
 | [.lst ps]=>((intsOf ps).bind (best max)).map .int
 | [.tup ps]=>((intsOf ps).bind (best max)).map .int
 |_=>none
def rG:List PV→Option PV
 | [.lst ps]=>((intsOf ps).bind (best min)).map .int
 |_=>none
theorem Jp:cR K (ZdD K.K) Ao:=by
 intro c F H σ ρ ps pv vs Q rel r e k
 unfold Ao at e
 split at e
 ·rename_i ps
  obtain⟨v,rfl,r1⟩:=Ag r
  obtain⟨a,xs,rfl,h1,h2⟩:=r1.lst rel.sub
  obtain⟨ns,eb,rfl⟩:=Option.map_eq_some_iff.mp e
  exact⟨a,ns,rfl,by rw[←ints_rep h2 eb];exact h1,k _ F H rel (Same.refl _) (Same.refl _) Rep.int⟩
 ·cases e
theorem Aq:cR K (ZdE K.K) iH:=by
 intro c F H σ ρ ps pv vs Q rel r e k
 have fin:∀(ps:List PV) (xs:List V),Ğ K F ps xs→((intsOf ps).bind (best max)).map PV.int=some pv→∃ns:List Int,xs=ns.map V.int∧0<ns.length∧∀M,M∈ns→(∀a∈ns,a≤M)→Q (.int M) H:=by
  intro ps xs h2 e
  obtain⟨m,em,rfl⟩:=Option.map_eq_some_iff.mp e
  obtain⟨ns,eb,hb⟩:=Option.bind_eq_some_iff.mp em
  cases ns with
  |nil=>cases hb
  |cons n ns=>
   cases hb
   obtain⟨z1,z2⟩:=foldl_max ns n
   refine⟨n::ns,ints_rep h2 eb,by simp,fun M m1 m2=>?_⟩
   have:M=ns.foldl max n:=Int.le_antisymm (z2 M m1) (m2 _ z1)
   rw[this]
   exact k _ F H rel (Same.refl _) (Same.refl _) Rep.int
 unfold iH at e
 split at e
 ·rename_i ps
  obtain⟨v,rfl,r1⟩:=Ag r
  obtain⟨a,xs,rfl,h1,h2⟩:=r1.lst rel.sub
  obtain⟨ns,rfl,hl,hq⟩:=fin ps xs h2 e
  exact⟨a,ns,rfl,.inl h1,hl,hq⟩
 ·rename_i ps
  obtain⟨v,rfl,r1⟩:=Ag r
  obtain⟨a,xs,rfl,h1,h2⟩:=r1.tup rel.sub
  obtain⟨ns,rfl,hl,hq⟩:=fin ps xs h2 e
  exact⟨a,ns,rfl,.inr h1,hl,hq⟩
 ·cases e
theorem Jq:cR K (ZdF K.K) rG:=by
 intro c F H σ ρ ps pv vs Q rel r e k
 unfold rG at e
 split at e
 ·rename_i ps
  obtain⟨v,rfl,r1⟩:=Ag r
  obtain⟨a,xs,rfl,h1,h2⟩:=r1.lst rel.sub
  obtain⟨m,em,rfl⟩:=Option.map_eq_some_iff.mp e
  obtain⟨ns,eb,hb⟩:=Option.bind_eq_some_iff.mp em
  cases ns with
  |nil=>cases hb
  |cons n ns=>
   cases hb
   obtain⟨z1,z2⟩:=foldl_min ns n
   refine⟨a,n::ns,rfl,by rw[←ints_rep h2 eb];exact h1,by simp,fun M m1 m2=>?_⟩
   have:M=ns.foldl min n:=Int.le_antisymm (m2 _ z1) (z2 M m1)
   rw[this]
   exact k _ F H rel (Same.refl _) (Same.refl _) Rep.int
 ·cases e
@[simp] theorem ZjO{i:Int}:Jl [.int i]=some (.int i):=rfl
@[simp] theorem ZjP{b:Bool}:Jl [.bl b]=some (.int (if b then 1 else 0)):=rfl
@[simp] theorem ZjQ{i:Int}:ZlH [.int i]=if i.natAbs.log2<1920 then some (.str (toString i)) else none:=rfl
@[simp] theorem ZjR{x:Str}:ZlI [.str x]=if x.length=1 then some (.int (x.cps.getD 0 0:Nat)) else none:=rfl
@[simp] theorem g_{ps:List PV}:Ao [.lst ps]=(intsOf ps).map fun ns=>.int ns.sum:=rfl
@[simp] theorem SX{ps:List PV}:iH [.lst ps]=((intsOf ps).bind (best max)).map .int:=rfl
@[simp] theorem S_{ps:List PV}:rG [.lst ps]=((intsOf ps).bind (best min)).map .int:=rfl
@[simp] theorem ZjS{f:Int→Int→Int}{n:Int}{ns:List Int}:best f (n::ns)=some (ns.foldl f n):=rfl
end
end P
namespace P
open PySem PySem.Spec PyProof.Rows L2 M2 M3 M4
def uM(K:PySem.W.Frag)(C:Addr):Bool:=PySem.W.plainGet K C Str.empty && PySem.W.hasDictIn K C && PySem.W.plainOver K C && PySem.W.findIn K (.ref C) "__setattr__" == some (some (.builtin "object.__setattr__"))
theorem jm{K:PySem.W.Frag}{C:Addr}(h:uM K C=true):Cls K C:=by
 unfold uM at h
 simp only[Bool.and_eq_true,beq_iff_eq] at h
 exact⟨h.1.1.1,h.1.1.2,h.1.2,h.2⟩
def oZ(K:PySem.W.Frag)(C:Addr)(m:Str)(f:Addr):Bool:=PySem.W.findIn K (.ref C) m== some (some (.ref f)) && PySem.W.isFn K (.ref f) && PySem.W.keepIn K (.ref f)
theorem jK{K:PySem.W.Frag}{C f:Addr}{m:Str}(h:oZ K C m f=true):Meth K C m f:=by
 unfold oZ at h
 simp only[Bool.and_eq_true,beq_iff_eq] at h
 exact⟨h.1.1,h.1.2,h.2⟩
def Tc(K:PySem.W.Frag)(C f:Addr):Bool:=PySem.W.makesIn K C && PySem.W.findIn K (.ref C) "__init__" == some (some (.ref f)) && PySem.W.isFn K (.ref f) && PySem.W.keepIn K (.ref C)
theorem o_{K:PySem.W.Frag}{C f:Addr}(h:Tc K C f=true):Mk K C f:=by
 unfold Tc at h
 simp only[Bool.and_eq_true,beq_iff_eq] at h
 exact⟨h.1.1.1,h.1.1.2,h.1.2,h.2⟩
section
variable{ρ:Ŏ}{i n k:Nat}{C:String}{cs:List String}{f m:Str}{mv mo:M PV}{mi:MI}{ms:M (List Slot)}{mb:M Fl}{qp:List (String×MF)}{as:List Slot}{ns:List Str}{ps:List PV}
@[simp] theorem ZjT:iG i cs f mv ρ=(mv ρ).bind fun p ρ1=>match ρ1[i]? with
  |some (.rc C ns ps)=>if cs.contains C=true∧ns.length<1000 then .ok .nx (ρ1.set i (.rc C (putN f ns) (qH f p ns ps))) else .bad
  |_=>.bad:=rfl
@[simp] theorem ZjU:cV n k C mb as=if as.length+1=n then IR.of (mb (.rc C [] []::startP (k-1) as)) else .bad:=rfl
@[simp] theorem ZlJ{C:String}:IR.of (.ok .nx (.rc C ns ps::ρ))=.ok ns ps:=rfl
@[simp] theorem ZjV:cg C mi ms ρ=(ms ρ).bind fun as ρ1=>match mi as with
  | .ok ns ps=>.ok (.ins C ns ps) ρ1
  | .exc x=>.exc x ρ1
  | .bad=>.bad:=rfl
@[simp] theorem ZlK:bN cs f (.ins C ns ps)=if cs.contains C=true then(ns.zip ps).lookup f else none:=rfl
@[simp] theorem Td:oU m qp mo ms ρ=(mo ρ).bind fun p ρ1=>match p with
  | .ins C ns ps=>match qp.lookup C with
    |some mf=>if ns.contains m=true then .bad else(ms ρ1).bind fun as ρ2=>match mf (.sh (.ins C ns ps)::as) with
     | .ret r=>.ok r ρ2
     | .exc x=>.exc x ρ2
     | .bad=>.bad
    |none=>.bad
  |_=>.bad:=rfl
end
end P
namespace M3
open PySem PySem.Spec PyProof.Rows L2 M2
section
variable{X:Cx}{elt tg iter:Expr}{ifs:List Expr}{scope:Scope}{pos:Pos}{wi:TI}{g:TG}{tt:TT}{te:TE}
theorem Te{iv:Nat}{y:Str}{py spos:Pos}(hN:X.N.Nodup)(hiN:X.N[iv]?=some y)(hy:X.env.scope.names.lookup y=some .local)(hsw:swapsWith (.ListComp elt [⟨tg,iter,ifs,0⟩] scope pos) (some (.Name y py)) spos.line X.env=pure true)(N':List Str)(js:List Nat)(nl:Nat)(sc:Scope)(hsc:X.env.scope=sc)(hcalm:X.calm=true)
 (hi:PI X.au tg iter wi)(hg:∀cl C s H fp,PG (gW X.au N' scope cl C s H fp) tg g)(ht:∀cl C s H fp,Um (gW X.au N' scope cl C s H fp) ifs tt)(he:∀cl C s H fp,PE (gW X.au N' scope cl C s H fp) elt te)
 (hcap:oA X.au sc scope N' js)(hlen:js.length+nl=N'.length:=by rfl)
 (hk:scope.kind=.function:=by rfl)(hcell:∀y∈scope.names,y.2=.cell→scope.names.lookup y.1=some .cell:=by decide +kernel)(hnames:∀y∈scope.names,y.2=.local→scope.names.lookup y.1=some .local:=by decide +kernel)
 (hfree:∀y∈scope.names,y.2=.free→(sc.names.lookup y.1=some .cell∨sc.names.lookup y.1=some .free):=by decide +kernel)
 (hs:∀x,foldedSetIterable iter X.env x=pure x:=by intro _;rfl) :
 PS X.au (.Assign [.Name y py] (.ListComp elt [⟨tg,iter,ifs,0⟩] scope pos) spos) (fun D σ H=>Hw js nl wi g tt te σ H fun v H'=>D.nx (σ.set iv (some v)) H'):=by
 intro pins s σ H D I h
 obtain⟨cl0,c1,c2,c3⟩:=jy (scope:=scope) (env:=X.au.env) fun y hy hf=>I.ok.has y.1 (by
  have:=hfree y hy hf
  rw[←hsc] at this
  exact this)
 rw[exec_Assign_Name_used _ _ _ _ (show swapsWith _ _ _ X.au.env=pure true from hsw)]
 refine wpAny_bind (wpAny_standAt (wpAny_bind ?_))
 show wpAny _ X.A (do let _ ←comprehension (.ListComp elt [⟨tg,iter,ifs,0⟩] scope pos) scope X.au.env _ (newList []) false (eval iter X.au.env) (some (assign (.Name y py) X.au.env))) _ _ s
 refine wpAny_bind (wpAny_mono (wpAny_comprehension_free (Q:=fun _ s'=>SP X.au pins D .next s') (use:=some (assign (.Name y py) X.au.env)) rfl hs c1 hk hnames (ŧ (hi pins s σ H _ I h) fun v s1 h1=>ŧ h1 fun itv s2 h2=>?_)) (fun _ s' hq=>wpAny_pure (wpAny_pure hq)) fun _ _ e=>e)
 obtain⟨it,fp,tn,J,H2,e,I2,T,st2,f2,q2⟩:=h2
 subst e
 refine wpAny_newObj_type (iy (fun h₁ hns₁ old XM=>?_))
 dsimp only at hns₁ old XM ⊢
 generalize XQ:s2.heap.push {cls:=.type "list",dict:=none,data:=.seq ([]:List Value).toArray}=cB at hns₁ old XM ⊢
 have hD:H2 s2.heap.objs.size=none:=I2.hok.fresh (Nat.le_refl _)
 have I3:Inv X.au pins σ (upd H2 s2.heap.objs.size (.lst [])) {s2 with heap:=cB}:=by
  rw[←XQ]
  exact I2.laid (t':=s2.toks) (fun b u e=>Heap.get?_push_of_some _ e) (Nat.le_refl _) ⟨Nat.zero_le _,[],0,.nil,Heap.get?_push_size _ rfl⟩
 have Hz:∀b∈fp,b<s2.heap.objs.size:=fun b hb=>by
  obtain⟨o,ho,_⟩:=T.obj 0 _ st2 b hb
  exact Heap.lt_size ho
 have XR:cB.objs.size=s2.heap.objs.size+1:=by rw[←XQ,Heap.size_push]
 have f3:∀b∈fp,gj X.au pins (upd H2 s2.heap.objs.size (.lst [])) b:=fun b hb=>by
  obtain⟨g0,g1⟩:=f2 b hb
  exact⟨by rw[Ĝ (Nat.ne_of_lt (Hz b hb))];exact g0,g1⟩
 have B:=Hx (X:=X.au) (cl:=cl0) hcell c2 c3 (fun x c e=>by
  obtain⟨v,o,ho,_⟩:=I3.cell x c e
  exact Heap.lt_size ho) XM
 generalize cellsFrom (cB.objs.size+1) scope.names cl0=cl at B ⊢
 obtain⟨W,⟨m0,w0⟩,turn⟩:=q2 s2.heap.objs.size hD
 have I4:=qX (X:=X.au) (N':=N') (js:=js) (nl:=nl) (sc:=sc) (scope:=scope) (cl:=cl) (fp:=fp) (h':=h₁) (tk:=s2.toks) hsc hk hcap hlen B I3 f3 (fun b hb=>by show b<cB.objs.size;rw[XR];exact Nat.lt_succ_of_lt (Hz b hb)) hns₁ old
 have st4:tn 0 h₁:= T.keep 0 _ _ st2 fun b hb o e=>old b o (by rw[←XQ];exact Heap.get?_push_of_some _ e)
 have fr4:∀b∈fp,(upd H2 s2.heap.objs.size (.lst [])) b=none:=fun b hb=>(f3 b hb).1
 have stat:∀{H':Hp},(∀b∈fp,H' b=none)→∀b∈fp,gj (gW X.au N' scope cl cB.objs.size {s2 with heap:=cB} (upd H2 s2.heap.objs.size (.lst [])) fp) [] H' b:=fun{H'} hn b hb=>by
  obtain⟨g0,g1,g2,g3,g4,g5⟩:=f3 b hb
  refine⟨hn b hb,Nat.ne_of_lt (by show b<cB.objs.size;rw[XR];exact Nat.lt_succ_of_lt (Hz b hb)),fun z=>?_,.inl hb,fun x c e=>by
   rcases B.at_ x c e with⟨q,_⟩|⟨q,_⟩
   ·exact g4 x c q
   ·exact Nat.ne_of_gt (Nat.lt_trans (by show b<cB.objs.size;rw[XR];exact Nat.lt_succ_of_lt (Hz b hb)) q),fun p hp=>absurd hp (by simp[gW])⟩
  rcases List.mem_cons.mp (I3.nQ b z) with z|z
  ·exact g1 z
  ·exact g2 z
 have loop:∀s₃:Shared,s₃= {s2 with heap:=h₁}→
  codeAny (model X.prog X.w) X.A (.compLoop (.ListComp elt [⟨tg,iter,ifs,0⟩] scope pos) 0 (.ref it) (.ref s2.heap.objs.size) (compEnvC scope cl cB.objs.size X.au.env))
   (compPost (model X.prog X.w) X.A X.au.xe (some (assign (.Name y py) X.au.env)) (fun _ s'=>SP X.au pins D .next s') (.ref s2.heap.objs.size) cB.objs.size) s₃:= by
  rintro s₃ rfl
  refine jz (fun n s'=>∃i σ' H',Inv (gW X.au N' scope cl cB.objs.size {s2 with heap:=cB} (upd H2 s2.heap.objs.size (.lst [])) fp) [] σ' H' s'∧tn i s'.heap∧(∀b∈fp,H' b=none)∧W i n σ' H') ?_ m0 ⟨0,_,_,I4,st4,fr4,w0⟩
  rintro n s5 ⟨i,σ5,H5,I5,QZ,WX,w5⟩
  rcases turn i n σ5 H5 w5 with⟨stop,qn⟩|⟨go,N,hN,step⟩
  ·refine ŧ (T.done (gW X.au N' scope cl cB.objs.size {s2 with heap:=cB} (upd H2 s2.heap.objs.size (.lst [])) fp) rfl rfl rfl hcalm i [] s5 σ5 H5 (fun _ _=>False) I5 (stat WX) QZ stop) fun r s6 ⟨hr,I6⟩=>?_
   subst hr
   obtain⟨m,hm,_⟩:=I6.loc
   have I7:Inv X.au pins σ H5 s6:=oE (h':=s6.heap) I3 f3 I6 (fun b u hb e=>e)
   have hCL:cB.objs.size≠X.au.env.locals:=Nat.ne_of_gt I3.lt
   have hcC:∀x c,X.au.env.cells.lookup x=some c→c≠cB.objs.size:=fun x c e z=>by
    obtain⟨v,o,ho,_⟩:=I3.cell x c e
    exact absurd (Heap.lt_size ho) (by rw[z];exact Nat.lt_irrefl _)
   have hpC:∀p∈X.au.pn++pins,p.1≠cB.objs.size:=fun p hp z=>by
    have:=Heap.lt_size (I3.pin p hp).1
    rw[z] at this
    exact Nat.lt_irrefl _ this
   have hnC:H5 cB.objs.size=none:=I6.free
   refine wpAny_assign_Name (qK (X:=X.au) (i:=iv) I7 hN hiN (.inl hy) (v:=.ref s2.heap.objs.size) rfl (fun s8 I8 ⟨a8,sb8,ha8⟩=>?_) (.inr hy))
   have ne8:cB.objs.size≠a8:=by
    rcases ha8 with rfl|ha8
    ·exact hCL
    ·exact fun z=>hcC _ _ ha8 z.symm
   refine⟨m,hm.sameBut sb8 ne8,fun h' hs'=>⟨_,H5,?_,qn⟩⟩
   have kp:∀b o,b≠cB.objs.size→s8.heap.get? b=some o→h'.get? b=some o:=fun b o hb e=>hs'.extBut b o hb e
   have kp':∀b o,b∉[cB.objs.size]→s8.heap.get? b=some o→h'.get? b=some o:=fun b o hb e=>kp b o (fun z=>hb (by rw[z];exact List.mem_cons_self)) e
   refine I8.call' (ch:=[cB.objs.size]) (s':={s8 with heap:=h'}) rfl ⟨fun b o e _ _ hx=>kp' b o hx e,fun b o e _ _ hx=>⟨o.slots,kp' b o hx e⟩,fun b o _ n _=>n,fun b o e hx=>⟨o,kp' b o hx e⟩,fun _ _ q=>q,fun _ _ _ q=>q,fun _ ps q=>⟨#[],by rw[q];simp⟩⟩ (Dc I8.hok hnC kp) I8.bare fun b hb=>?_
   cases List.mem_singleton.mp hb
   exact⟨.inr I3.sz,hCL,hcC,hpC⟩
  ·refine ŧ (T.item (gW X.au N' scope cl cB.objs.size {s2 with heap:=cB} (upd H2 s2.heap.objs.size (.lst [])) fp) rfl rfl rfl hcalm i [] s5 σ5 H5 (fun _ _=>False) I5 (stat WX) QZ go) fun r s6 ⟨u,hr,h6⟩=>?_
   subst hr
   refine ŧ h6 fun _ s7 ⟨x,H7,I7,r7,y7,X_,fr7⟩=>?_
   have I7':=I7.pinned (stat fr7) (T.obj _ _ X_)
   have again:∀{s8:Shared} {σ8:L2.St} {H8:Hp},Inv (gW X.au N' scope cl cB.objs.size {s2 with heap:=cB} (upd H2 s2.heap.objs.size (.lst [])) fp) ([]++kh fp s7.heap) σ8 H8 s8→
    Inv (gW X.au N' scope cl cB.objs.size {s2 with heap:=cB} (upd H2 s2.heap.objs.size (.lst [])) fp) [] σ8 H8 s8∧tn (i+1) s8.heap∧∀b∈fp,H8 b=none:=fun{s8 σ8 H8} I8=>by
    refine⟨I8.gk,T.keep _ _ _ X_ fun b hb o e=>(I8.pin (b,o) (List.mem_append_right _ (List.mem_append_right _ (bD hb e)))).1,fun b hb=>?_⟩
    obtain⟨o,e,d⟩:=T.obj _ _ X_ b hb
    exact(I8.pin (b,o) (List.mem_append_right _ (List.mem_append_right _ (bD hb e)))).2.1
   refine ŧ (hg cl _ _ _ fp _ s7 σ5 H7 x u _ I7' r7 (step x H7 y7)) fun _ s8 ⟨σ8,H8,I8,q8⟩=>?_
   refine ŧ (ht cl _ _ _ fp _ s8 σ8 H8 _ I8 q8) fun c s9 ⟨H9,I9,q9⟩=>?_
   cases c with
   |false=>
    rw[if_neg Bool.false_ne_true] at q9 ⊢
    obtain⟨m',hm',w9⟩:=hN _ _ q9
    obtain⟨a1,a2,a3⟩:=again I9
    exact⟨m',hm',i+1,σ8,H9,a1,a2,a3,w9⟩
   |true=>
    rw[if_pos rfl] at q9 ⊢
    refine ŧ (he cl _ _ _ fp _ s9 σ8 H9 _ I9 q9) fun yv s10 ⟨y,H10,I10,r10,ys,e10,l10,w10⟩=>?_
    refine ŧ (bF _ s10 σ8 H10 (.ref s2.heap.objs.size) [y] (.ref s2.heap.objs.size) [yv] (fun _ Yb=>N σ8 Yb) I10 rfl (.cons r10 .nil) ⟨_,ys,y,rfl,rfl,e10,l10,w10⟩) fun _ s11 ⟨v11,Yb,I11,_,w11⟩=>?_
    obtain⟨a1,a2,a3⟩:=again I11
    obtain⟨m',hm',w11⟩:=hN _ _ w11
    exact⟨m',hm',i+1,σ8,Yb,a1,a2,a3,w11⟩
 exact codeAny_compStart_list (loop _ rfl) (T.self _ 0 _ _ _ st4 (loop _ rfl))
end
end M3
namespace P
open PySem PySem.Spec PyProof.Rows L2 M2 M3 M4
section
variable{X:Cx}{cm:String→Addr}{E:L2.St→XK}{elt tg iter:Expr}{ifs:List Expr}{scope:Scope}{pos:Pos}{mi:M (List PV)}{g:Tg}{mt:M Bool}{me:M PV}
theorem PS.au{st:Stmt}{t:TS}(h:PS X.au st t):PS X st t:=fun pins s σ H D I hw=>
 wpAny_mono (h pins s σ H D (I.wish _) hw) (fun _ _ q=>q.eE) fun _ _ z=>False.elim z
theorem lu{i:Nat}{y:Str}{py spos:Pos}(hN:X.N.Nodup)(hi0:X.N[i]?=some y)(hy:X.env.scope.names.lookup y=some .local)(N':List Str)(js:List Nat)(nl:Nat)(sc:Scope)(hsc:X.env.scope=sc)(hcalm:X.calm=true)
 (hi:PI X.au tg iter (tI (kk X cm) E mi))(hg:∀cl C s H fp,PG (gW X.au N' scope cl C s H fp) tg (tT (kk X cm) g))(ht:∀cl C s H fp,Um (gW X.au N' scope cl C s H fp) ifs (tB (kk X cm) EF mt))(he:∀cl C s H fp,PE (gW X.au N' scope cl C s H fp) elt (tV (kk X cm) EF me))
 (hcap:oA X.au sc scope N' js)(hlen:js.length+nl=N'.length:=by rfl)
 (hk:scope.kind=.function:=by rfl)(hcell:∀y∈scope.names,y.2=.cell→scope.names.lookup y.1=some .cell:=by decide +kernel)(hnames:∀y∈scope.names,y.2=.local→scope.names.lookup y.1=some .local:=by decide +kernel)
 (hfree:∀y∈scope.names,y.2=.free→(sc.names.lookup y.1=some .cell∨sc.names.lookup y.1=some .free):=by decide +kernel)
 (hs:∀x,foldedSetIterable iter X.env x=pure x:=by intro _;rfl)(hsw:swapsWith (.ListComp elt [⟨tg,iter,ifs,0⟩] scope pos) (some (.Name y py)) spos.line X.env=pure true:=by rfl) :
 PS X (.Assign [.Name y py] (.ListComp elt [⟨tg,iter,ifs,0⟩] scope pos) spos) (tS (kk X cm) E (Ļ i (ţ js nl mi g mt me))):=
 PS.wk (PS.au (Te hN hi0 hy hsw N' js nl sc hsc hcalm hi hg ht he hcap hlen hk hcell hnames hfree hs)) fun D σ H ⟨c,F,ρ,rel,h⟩=>wQ ⟨c,F,ρ,rel,ť.bind h fun r ρ1 v F1 H1 ě s1 q h1=>by
   cases r with
   |sh p=>exact h1 _ F1 H1 (ě.put rfl ⟨v,rfl,q⟩) (Same.refl _)
   |ow ps=>
    obtain⟨a,vs,rfl,q1,q2,q3,q4,q5⟩:=q
    exact h1 _ F1 H1 (ě.RD ⟨a,vs,rfl,q1,q2,q3,q5⟩ rfl q4) (Same.refl _)
   |ot ps qs=>
    obtain⟨p,a,xs,vs,rfl,q0,qx,q1,q2,q3,q4,q5⟩:=q
    exact h1 _ F1 H1 (ě.RD (s:=.ot ps qs) ⟨p,a,xs,vs,rfl,q0,qx,q1,q2,q3,q5⟩ ⟨p,xs,rfl,q0⟩ q4) (Same.refl _)⟩
end
end P
namespace P
open PySem PySem.Spec PyProof.Rows L2 M2 M3 M4
def mBM(f:PV→List PV→Option PV)(mo:M PV)(ms:M (List PV)):M PV:=fun ρ=>(mo ρ).bind fun p ρ1=>match p with
 | .str _=>(ms ρ1).bind fun ps ρ2=>Res.mX (f p ps) ρ2
 |_=>.bad
@[simp] theorem Zo3{f:PV→List PV→Option PV}{mo:M PV}{ms:M (List PV)}{ρ:Ŏ}:mBM f mo ms ρ=(mo ρ).bind fun p ρ1=>match p with
  | .str _=>(ms ρ1).bind fun ps ρ2=>Res.mX (f p ps) ρ2
  |_=>.bad:=rfl
section
variable{X:Cx}{cm:String→Addr}{K:KK}{E:L2.St→XK}{o e:Expr}{es:List Expr}{name:Str}{apos cpos:Pos}{id:String}{r:V→List V→Hp→VK→Prop}{f:PV→List PV→Option PV}{mo:M PV}{ms:M (List PV)}
end
end P
namespace P
open PySem PySem.Spec PyProof.Rows L2 M2 M3 M4
section
variable{X:Cx}{pins:List (Addr×Obj)}{σ:L2.St}{H:Hp}{s:Shared}{h':Heap}
theorem turns{t':Nat}{fp:List Addr}(I:Inv X pins σ H s)(k:∀b o,b∉fp→s.heap.get? b=some o→h'.get? b=some o)(hf:∀b∈fp,gj X pins H b):Inv X pins σ H {s with heap:=h',toks:=t'}:=by
 have nit:∀b u,H b=some u→b∉fp:=fun b u e z=>by rw[(hf b z).1] at e;cases e
 have hL:X.env.locals∉fp:=fun z=>(hf _ z).2.1 rfl
 refine I.step (g':=s.gens) (d':=s.drawn) (ch:=fp) (fun b hb=>?_) (fun b o _ _ hc e _=>k b o hc e) (fun b o _ _ hc e _=>⟨o.slots,k b o hc e⟩) (fun _ _ _ _ n=>n)
  (fun b o hc e=>⟨o,k b o hc e⟩) (fun _ _ e=>e) (fun _ _ _ e=>e) (fun b ps e=>⟨#[],by rw[e];simp⟩) (fun m hm=>?_) (fun b u e=>?_) I.bare
 ·obtain⟨f0,f1,f2,f3,f4,f5⟩:=hf b hb
  exact⟨f3,f1,f4,f5⟩
 ·obtain⟨o,es,ep,ho,r⟩:=hm
  exact⟨o,es,ep,k _ o hL ho,r⟩
 ·refine(I.hok b u e).stay (fun c v hc q=>k c v ?_ q) (fun _ q=>q) fun _ _ q=>q
  rcases hc with z|z
  ·rw[z];exact nit b u e
  ·exact nit c _ z
theorem YD{a b:Addr}{o:HO}(f:gj X pins H b)(h:b≠a):gj X pins (upd H a o) b:=⟨by rw[Ĝ h];exact f.1,f.2⟩
theorem pq{t':Nat}{fp:List Addr}{u1 u2:Value}{x1 x2:V}(I:Inv X pins σ H s)(r1:RelV x1 u1)(r2:RelV x2 u2)(ht:∃o,h'.get? s.heap.objs.size=some o∧o= {cls:=.type "tuple",data:=.seq #[u1,u2]})
 (k:∀b o,b∉fp→s.heap.get? b=some o→h'.get? b=some o)(hf:∀b∈fp,gj X pins H b)(hlt:∀b∈fp,b<s.heap.objs.size) :
 Inv X pins σ (upd H s.heap.objs.size (.tup [x1,x2])) {s with heap:=h',toks:=t'}:=by
 have I1:Inv X pins σ (upd H s.heap.objs.size (.tup [x1,x2])) {s with heap:=s.heap.push {cls:=.type "tuple",data:=.seq #[u1,u2]},toks:=s.toks}:=
  I.laid (t':=s.toks) (fun b u e=>Heap.get?_push_of_some _ e) (Nat.le_refl _) ⟨by show 2≤sizeLine;decide,[u1,u2],.cons r1 (.cons r2 .nil),⟨_,Heap.get?_push_size _ rfl,rfl,_,rfl⟩⟩
 refine turns (fp:=fp) (s:={s with heap:=s.heap.push {cls:=.type "tuple",data:=.seq #[u1,u2]},toks:=s.toks}) (h':=h') (t':=t') I1 (fun b o hb e=>?_) fun b hb=>YD (hf b hb) (Nat.ne_of_lt (hlt b hb))
 rcases Heap.get?_push_cases e with⟨rfl,rfl⟩|e
 ·obtain⟨o,h1,h2⟩:=ht
  rw[h1,h2]
 ·exact k b o hb e
end
def Ite(K:PySem.W.Frag)(a:Addr):It:=
 ⟨fun i H=>∃xs x,aF K H a xs∧xs[i]?=some x,fun i H y H'=>∃x T,(∀xs,aF K H a xs→xs[i]?=some x)∧H T=none∧y=.ref T∧H'=upd H T (.tup [.int i,x]),fun i H=>∃xs,aF K H a xs∧xs.length≤i⟩
theorem FP{P:Program}{w:World}{K:PySem.W.Frag}{elts:List Expr}{k:Nat}{pos:Pos}(a e it:Addr)(hne:e≠it):Turn P w K (.Tuple elts k pos) (Ite K a) [e,it] e (fun i h=>(∃old,IsEnum h e it i old)∧h.IsListIter it a i) where
 mem:=by simp
 obj:=fun i h st b hb=>by
  obtain⟨⟨old,he⟩,hit⟩:=st
  rcases List.mem_cons.mp hb with rfl|hb
  ·exact⟨_,he,fun v z=>by
    have z':Data.fields _=Data.cell v:=z
    cases z'⟩
  ·have e':b=it:=by simpa using hb
   subst e'
   obtain⟨o,e1,c,d⟩:=hit
   exact⟨o,e1,fun v z=>by rw[d] at z;cases z⟩
 keep:=fun i h h' st k=>⟨let ⟨old,he⟩:=st.1;⟨old,k e (by simp) _ he⟩,st.2.at fun o q=>k it (by simp) o q⟩
 item:=by
  intro X hP hw hK hc i pins s σ H E I hf st hg
  subst hP hw hK
  obtain⟨⟨old,he⟩,hit⟩:=st
  obtain⟨xs,x,hq,hx⟩:=hg
  obtain⟨its,rv,p,hz⟩:=I.list hq
  obtain⟨u,hu,ru⟩:=rv.get hx
  have elt:e<s.heap.objs.size:=Heap.lt_size he
  have ilt:it<s.heap.objs.size:=by obtain⟨_,q,_⟩:=hit;exact Heap.lt_size q
  refine wpAny_pyNext_enum_item he hit p.isList (x:=u) (by simpa using hu) hne fun h' ho hit' hT hsz hk=>?_
  refine⟨.ref s.heap.objs.size,rfl,wpAny_letOwnedTupleGo_enum ho fun h'' he' hs'=>?_⟩
  have hs2:Heap.SameBut e h' h'':=hs'
  have hlt:∀b∈[e,it],b<s.heap.objs.size:=fun b hb=>by
   rcases List.mem_cons.mp hb with rfl|hb
   ·exact elt
   ·have e':b=it:=by simpa using hb
    subst e';exact ilt
  have I2:=pq (fp:=[e,it]) (h':=h'') (t':=s.toks+1) (x1:=.int i) I ⟨s.toks,rfl⟩ ru ⟨_,(hs2.2 _ (Nat.ne_of_gt elt)).trans hT,rfl⟩ (fun b o hb q=>by
   have hbe:b≠e:=fun z=>hb (by simp[z])
   have hbi:b≠it:=fun z=>hb (by simp[z])
   exact(hs2.2 b hbe).trans (hk b o hbe hbi q)) hf hlt
  refine⟨.ref s.heap.objs.size,_,I2,rfl,⟨x,s.heap.objs.size,fun ys hy=>by rw[I.nW hy hq];exact hx,I.fresh,rfl,rfl⟩,⟨⟨u,?_⟩,hit'.at fun o q=>(hs2.2 it hne.symm).trans q⟩,fun b hb=>?_⟩
  ·have he2:IsEnum h'' e it ((i:Int)+1) u:=he'
   show IsEnum h'' e it (((i+1:Nat):Int)) u
   rw[Int.natCast_add]
   exact he2
  ·rw[Ĝ (Nat.ne_of_lt (hlt b hb))];exact(hf b hb).1
 done:=by
  intro X hP hw hK hc i pins s σ H E I hf st hg
  subst hP hw hK
  obtain⟨⟨old,he⟩,hit⟩:=st
  obtain⟨xs,hq,hx⟩:=hg
  obtain⟨its,rv,p,hz⟩:=I.list hq
  have hl:=rv.length
  refine wpAny_pyNext_enum_end (I.ok.hd hc) he hit p.isList (by simp;omega) fun h' eb=>⟨rfl,turns (fp:=[e,it]) (t':=s.toks) I (fun b o hb q=>eb b o (fun z=>hb (by simp[z])) q) hf⟩
 self:=fun _ _ _ _ _ st h=>let ⟨_,he⟩:=st.1;wpAny_pyIter_enum he h
section
variable{X:Cx}{elts:List Expr}{k:Nat}{tp:Pos}
def ZdG(K:PySem.W.Frag)(ta:TA):TI:=fun σ H R=>ta σ H fun vs H1=>∃a,vs=[.ref a]∧(∃xs,aF K H1 a xs)∧R (Ite K a) H1
theorem Tf{l:Expr}{ta:TA}{p pos:Pos}(hg:Gl X "enumerate")(hm:X.mg "enumerate" =none)(ha:PA X [l] ta)(hs:starEach [l] X.env=[(false,eval l X.env)]:=by exact ī rfl):PI X (.Tuple elts k tp) (.Call (.Name "enumerate" p) [l] [] pos) (ZdG X.K ta):=by
 intro pins s σ H R I h
 refine Call_ (gb I hg hm boot_enumerate (PyProof.Rows.callWith_type1 (ŧ (ha pos pins s σ H _ I h) fun us s1 ⟨vs,H1,I1,r1,q1⟩=>?_) hs rfl))
 obtain⟨a,e,⟨xs,hq⟩,q⟩:=q1
 subst e
 obtain⟨u,rfl,ru⟩:=r1.one
 cases ru
 obtain⟨its,rv,pl,hz⟩:=I1.list hq
 refine call_enumerate_list pl.isList fun h' he hit hsz hk=>?_
 have I2:Inv X pins σ H1 {s1 with heap:=h'}:=I1.kept (t':=s1.toks) hk
 refine wpAny_pyIter_enum (s:={s1 with heap:=h'}) he ⟨s1.heap.objs.size+1,[s1.heap.objs.size+1,s1.heap.objs.size],_,_,H1,rfl,I2,FP a _ _ (Nat.succ_ne_self _),⟨⟨_,he⟩,hit⟩,fun b hb=>?_,q⟩
 have hb':s1.heap.objs.size≤b:=by
  rcases List.mem_cons.mp hb with rfl|hb
  ·exact Nat.le_succ _
  ·have e':b=s1.heap.objs.size:=by simpa using hb
   exact Nat.le_of_eq e'.symm
 exact I1.Er hb' (I1.hok.fresh hb')
end
def rLs(K:KK):RR (List PV) V:=fun c _ _ F H items v=>∃a,v=.ref a∧(∃xs,aF K.K H a xs)∧fW K c.L F (WT K.K a) items
def rTs(K:KK):RR (List PV) V:=fun c _ _ F H items v=>∃a,v=.ref a∧(∃xs,cZ K.K H a xs)∧fW K c.L F (Itt K.K a) items
def rSq(K:KK):RR (List PV) V:=fun c σ ρ F H items v=>rLs K c σ ρ F H items v∨rTs K c σ ρ F H items v
theorem pA{K:KK}{L F:Hp}{ps:List PV}{v:V}(h:Rep K F (.lst ps) v):∃a,v=.ref a∧(∃xs,aF K.K F a xs)∧fW K L F (WT K.K a) ps:=by
 unfold Rep at h
 obtain⟨a,vs,rfl,e1,e2⟩:=h
 refine⟨a,rfl,⟨vs,e1⟩,?_⟩
 intro c' i F2 H2 σ2 ρ2 ŉ sF _
 have hq:aF K.K H2 a vs:=(sF.trans ŉ.sub).seq e1
 refine⟨fun p hp=>?_,fun hi=>⟨vs,hq,by rw[hi,e2.length];exact Nat.le_refl _⟩⟩
 obtain⟨u,hu,ru⟩:=cG e2.pr hp
 refine⟨⟨vs,u,hq,hu⟩,fun x H' ⟨hH,hx⟩=>?_⟩
 subst hH
 have:vs[i]?=some x:=hx vs hq
 rw[hu] at this
 cases this
 exact⟨F2,ŉ,Same.refl _,Same.refl _,Rep.same sF p u ru⟩
theorem Jr{K:KK}{L F:Hp}{ps:List PV}{v:V}(h:Rep K F (.tup ps) v):∃a,v=.ref a∧(∃xs,cZ K.K F a xs)∧fW K L F (Itt K.K a) ps:=by
 unfold Rep at h
 obtain⟨a,vs,rfl,e1,e2⟩:=h
 refine⟨a,rfl,⟨vs,e1⟩,?_⟩
 intro c' i F2 H2 σ2 ρ2 ŉ sF _
 have hq:cZ K.K H2 a vs:=Same.tup (sF.trans ŉ.sub) e1
 refine⟨fun p hp=>?_,fun hi=>⟨vs,hq,by rw[hi,e2.length];exact Nat.le_refl _⟩⟩
 obtain⟨u,hu,ru⟩:=cG e2.pr hp
 refine⟨⟨vs,u,hq,hu⟩,fun x H' ⟨hH,hx⟩=>?_⟩
 subst hH
 have:vs[i]?=some x:=hx vs hq
 rw[hu] at this
 cases this
 exact⟨F2,ŉ,Same.refl _,Same.refl _,Rep.same sF p u ru⟩
theorem FQ{K:KK}{c:Ctx}{F:Hp}{a:Addr}{vs:List V}{ps:List PV}(h2:c.L a=some (.lst vs))(h3:Ğ K F ps vs):fW K c.L F (WT K.K a) ps:=by
 intro c' j F2 H2 σ2 ρ2 ŉ sF sL
 have hq:aF K.K H2 a vs:=aF.of (sL a _ h2)
 refine⟨fun p hp=>?_,fun hi=>⟨vs,hq,by rw[hi,h3.length];exact Nat.le_refl _⟩⟩
 obtain⟨u,hu,ru⟩:=cG h3.pr hp
 refine⟨⟨vs,u,hq,hu⟩,fun x H' ⟨hH,hx⟩=>?_⟩
 subst hH
 have:vs[j]?=some x:=hx vs hq
 rw[hu] at this
 cases this
 exact⟨F2,ŉ,Same.refl _,Same.refl _,Rep.same sF p u ru⟩
theorem fW.mono{K:KK}{L F F1:Hp}{J:It}{ps:List PV}(h:fW K L F J ps)(s:Same F F1):fW K L F1 J ps:=fun c i F2 H σ ρ rel sF sL=>h c i F2 H σ ρ rel (s.trans sF) sL
def mLs(m:M PV):M (List PV):=fun ρ=>(m ρ).bind fun p ρ1=>match p with
 | .lst ps=>.ok ps ρ1
 |_=>.bad
def mSq(m:M PV):M (List PV):=fun ρ=>(m ρ).bind fun p ρ1=>match p with
 | .lst ps=>.ok ps ρ1
 | .tup ps=>.ok ps ρ1
 |_=>.bad
def ZlL(i:Nat):M (List PV):=fun ρ=>match ρ[i]? with
 |some (.bw ps)=>.ok ps ρ
 |some (.sh (.lst ps))=>.ok ps ρ
 |some (.ow ps)=>.ok ps (ρ.set i (.sh (.lst ps)))
 |_=>.bad
def Js(i:Nat):M (List PV):=fun ρ=>match ρ[i]? with
 |some (.bw ps)=>.ok ps ρ
 |some (.sh (.lst ps))=>.ok ps ρ
 |some (.sh (.tup ps))=>.ok ps ρ
 |some (.ow ps)=>.ok ps (ρ.set i (.sh (.lst ps)))
 |_=>.bad
section
variable{X:Cx}{cm:String→Addr}{E:L2.St→XK}{e:Expr}{m:M PV}
theorem ZdH(h:PE X e (tV (kk X cm) E m)):PE X e (tG (kk X cm) E (rLs (kk X cm)) (mLs m)):=PE.wk h fun σ H Q ⟨c,F,ρ,rel,h⟩=>⟨c,F,ρ,rel,h.bind fun p ρ1 v F1 H1 ě s1 s2 q h1=>by
 cases p with
 |lst ps=>
  obtain⟨a,e1,⟨xs,e2⟩,e3⟩:=pA (L:=c.L) (show Rep (kk X cm) F1 (.lst ps) v from q)
  exact h1 v F1 H1 ě (Same.refl _) (Same.refl _) ⟨a,e1,⟨xs,ě.sub.seq e2⟩,e3⟩
 |_=>exact h1.elim⟩
theorem UL(i:Nat){x:Str}{px:Pos}(hN:X.N[i]?=some x:=by rfl)(hv:Gu X.env.scope x:=by first|exact Or.inl rfl|exact Or.inr (Or.inl rfl)|exact Or.inr (Or.inr rfl))(hd:(x== ("__debug__" :Str))=false:=by decide)
 (hcd:(x== ("__classdict__" :Str))=false:=by decide):PE X (.Name x px) (tG (kk X cm) E (rSq (kk X cm)) (Js i)):=PE.wk (fZ hN hv hd hcd) fun σ H Q ⟨c,F,ρ,rel,h⟩=>by
 unfold Js at h
 cases e:ρ[i]? with
 |none=>rw[e] at h;exact h.elim
 |some sl=>
  rw[e] at h
  cases sl with
  |no=>exact h.elim
  |rc C ns ps=>exact h.elim
  |ot ps qs=>exact h.elim
  |ow ps=>
   obtain⟨a,vs,z1,z2,z3,z4⟩:=rel.share e
   obtain⟨a',e1,⟨xs,e2⟩,e3⟩:=pA (L:=c.L) z3
   cases e1
   exact⟨.ref a,z1,h _ _ H z4 (Same.upd z2) (Same.refl _) (.inl ⟨a,rfl,⟨xs,z4.sub.seq e2⟩,e3⟩)⟩
  |bw ps=>
   obtain⟨a,vs,h1,h2,h3⟩:=rel.slot i _ e
   exact⟨.ref a,at_of h1,h _ F H rel (Same.refl _) (Same.refl _) (.inl ⟨a,rfl,⟨vs,aF.of (rel.lent a _ h2).1⟩,FQ h2 h3⟩)⟩
  |sh p=>
   obtain⟨v,h1,h2⟩:=rel.slot i _ e
   cases p with
   |lst ps=>
    obtain⟨a,e1,⟨xs,e2⟩,e3⟩:=pA (L:=c.L) h2
    exact⟨v,at_of h1,h v F H rel (Same.refl _) (Same.refl _) (.inl ⟨a,e1,⟨xs,rel.sub.seq e2⟩,e3⟩)⟩
   |tup ps=>
    obtain⟨a,e1,⟨xs,e2⟩,e3⟩:=Jr (L:=c.L) h2
    exact⟨v,at_of h1,h v F H rel (Same.refl _) (Same.refl _) (.inr ⟨a,e1,⟨xs,Same.tup rel.sub e2⟩,e3⟩)⟩
   |_=>exact h.elim
def gH:Nat→List PV→List PV
 |_,[]=>[]
 |k,p::ps=>.tup [.int k,p]::gH (k+1) ps
theorem rH:∀(k:Nat) (ps:List PV),(gH k ps).length=ps.length
 |_,[]=>rfl
 |k,_::ps=>congrArg (·+ 1) (rH (k+1) ps)
theorem rJ:∀(k:Nat) (ps:List PV) (i:Nat),(gH k ps)[i]?=ps[i]?.map fun p=>.tup [.int ((k+i:Nat):Int),p]
 |_,[],_=>rfl
 |k,p::ps,0=>rfl
 |k,p::ps,i+1=>by
  show(gH (k+1) ps)[i]?=_
  rw[rJ (k+1) ps i,List.getElem?_cons_succ,show k+1+i=k+(i+1) by omega]
def DG(m:M (List PV)):M (List PV):=fun ρ=>(m ρ).bind fun ps ρ1=>.ok (gH 0 ps) ρ1
theorem DK{K:KK}{c:Ctx}{F H:Hp}{σ:L2.St}{ρ:Ŏ}{T:Addr}{p q:PV}{x y:V}(rel:Rel K c F H σ ρ)(hT:H T=none)(r1:Rep K F p x)(r2:Rep K F q y):Rel K c (upd F T (.tup [x,y])) (upd H T (.tup [x,y])) σ ρ∧Rep K (upd F T (.tup [x,y])) (.tup [p,q]) (.ref T):=by
 have hF:=rel.sub.free hT
 refine⟨rel.alloc hT,?_⟩
 unfold Rep
 exact⟨T,[x,y],rfl,cZ.of Ĩ,Ğ.cons (Rep.same (Same.upd hF) p x r1) (Ğ.cons (Rep.same (Same.upd hF) q y r2) Ğ.nil)⟩
theorem FT{K:KK}{L F:Hp}{a:Addr}{ps:List PV}(h:fW K L F (WT K.K a) ps):fW K L F (Ite K.K a) (gH 0 ps):=by
 intro c i F2 H σ ρ rel sF sL
 obtain⟨g,st⟩:=h c i F2 H σ ρ rel sF sL
 refine⟨fun p hp=>?_,fun hi=>st (by rw[hi,rH])⟩
 rw[rJ] at hp
 cases eq:ps[i]? with
 |none=>rw[eq] at hp;cases hp
 |some q=>
  rw[eq] at hp
  have hp':PV.tup [.int ((0+i:Nat):Int),q]=p:=Option.some.inj hp
  subst hp'
  obtain⟨⟨xs,x,hq,hx⟩,g2⟩:=g q eq
  refine⟨⟨xs,x,hq,hx⟩,fun y H' ⟨x',T,h1,hT,ey,eH⟩=>?_⟩
  subst ey eH
  obtain⟨F3,jF,s3,_,rp⟩:=g2 x' H ⟨rfl,h1⟩
  obtain⟨r1,r2⟩:=DK (p:=.int i) (x:=.int i) jF hT (by unfold Rep;rfl) rp
  refine⟨_,r1,s3.trans (Same.upd (jF.sub.free hT)),Same.upd hT,?_⟩
  rw[Nat.zero_add]
  exact r2
theorem Jt{elts:List Expr}{k:Nat}{tp p pos:Pos}{mi:M (List PV)}(hg:Gl X "enumerate")(hm:X.mg "enumerate" =none)(hl:PE X e (tG (kk X cm) E (rLs (kk X cm)) mi))(hs:starEach [e] X.env=[(false,eval e X.env)]:=by exact ī rfl) :
 PI X (.Tuple elts k tp) (.Call (.Name "enumerate" p) [e] [] pos) (tI (kk X cm) E (DG mi)):=fun pins s σ H R I h=>Tf hg hm (cA hl jd hs) hs pins s σ H R I (by
 obtain⟨c,F,ρ,rel,h⟩:=h
 refine⟨c,F,ρ,rel,h.bind fun ps ρ1 v F1 H1 ě s1 s2 q h1=>?_⟩
 obtain⟨a,e1,e2,e3⟩:=q
 subst e1
 exact⟨a,rfl,e2,h1 _ F1 H1 ě (Same.refl _) (Same.refl _) (FT e3)⟩)
def Ar(i:Nat)(mo:M RV):M Fl:=fun ρ=>match ρ[i]? with
 |some (.ow _)=>(mo ρ).bind fun r ρ1=>match ρ1[i]?,r with
  |some (.ow ps),.ow qs=>if ps.length+qs.length≤16777216 then .ok .nx (ρ1.set i (.ow (ps++qs))) else .bad
  |_,_=>.bad
 |_=>.bad
theorem DN{i:Nat}{mo:M RV}{D:Ends}{σ:L2.St}{H:Hp}(h:tS (kk X cm) E (Ar i mo) D σ H):GC (tBM X.K "list" CT (tU i) (Uk (tO (kk X cm) E mo) ZcK)) D σ H:=by
 obtain⟨c,F,ρ,rel,h⟩:=h
 unfold Ar at h
 cases e1:ρ[i]? with
 |none=>rw[e1] at h;exact h.elim
 |some sl=>
  rw[e1] at h
  cases sl with
  |ow ps0=>
   obtain⟨a,vs0,z1,z2,z3,z4,z5,z6⟩:=rel.ow e1
   refine⟨.ref a,z1,.inl ⟨rfl,_,aF.of z2⟩,c,F,ρ,rel,?_⟩
   refine ť.bind h fun r ρ1 v F1 H1 ě s1 q h1=>?_
   cases e2:ρ1[i]? with
   |none=>simp only[e2] at h1;exact h1.elim
   |some sl2=>
    simp only[e2] at h1
    cases sl2 with
    |ow ps=>
     cases r with
     |ow qs=>
      obtain⟨b,us,eb,hb1,hb2,hb3,hb4,hb5⟩:=q
      subst eb
      obtain⟨a2,vs,w1,w2,w3,w4,w5,w6⟩:=ě.ow e2
      rw[z1] at w1
      cases w1
      dsimp only at h1
      split at h1
      ·rename_i hz
       refine⟨a,b,vs,us,rfl,rfl,w2,hb1,by rw[←w5.length,←hb5.length,Ŋ];exact hz,h1 σ F1 _ (ě.write w6 z1 ⟨a,vs++us,rfl,Ĩ,w3,w4,Ğ.append w5 hb5⟩ fun _ z=>(V.ref.inj z).symm) (Same.refl _)⟩
      ·exact h1.elim
     |_=>exact h1.elim
    |_=>exact h1.elim
  |_=>exact h.elim
def ZlM(i:Nat):M Fl:=fun ρ=>match ρ[i]? with
 |some (.ow _)=>.ok .nx (ρ.set i (.ow []))
 |_=>.bad
@[simp] theorem ZlN{i:Nat}{ρ:Ŏ}:ZlM i ρ=(match ρ[i]? with
  |some (.ow _)=>.ok .nx (ρ.set i (.ow []))
  |_=>.bad):=rfl
@[simp] theorem ZlO{i:Nat}{mo:M RV}{ρ:Ŏ}:Ar i mo ρ=(match ρ[i]? with
  |some (.ow _)=>(mo ρ).bind fun r ρ1=>match ρ1[i]?,r with
   |some (.ow ps),.ow qs=>if ps.length+qs.length≤16777216 then .ok .nx (ρ1.set i (.ow (ps++qs))) else .bad
   |_,_=>.bad
  |_=>.bad):=rfl
@[simp] theorem ZjW{mi:M (List PV)}{ρ:Ŏ}:DG mi ρ=(mi ρ).bind fun ps ρ1=>.ok (gH 0 ps) ρ1:=rfl
@[simp] theorem Zo4{ρ:Ŏ}:mLs m ρ=(m ρ).bind fun p ρ1=>match p with
  | .lst ps=>.ok ps ρ1
  |_=>.bad:=rfl
@[simp] theorem Zo5{ρ:Ŏ}:mSq m ρ=(m ρ).bind fun p ρ1=>match p with
  | .lst ps=>.ok ps ρ1
  | .tup ps=>.ok ps ρ1
  |_=>.bad:=rfl
@[simp] theorem ZlP{i:Nat}{ρ:Ŏ}:ZlL i ρ=(match ρ[i]? with
  |some (.bw ps)=>.ok ps ρ
  |some (.sh (.lst ps))=>.ok ps ρ
  |some (.ow ps)=>.ok ps (ρ.set i (.sh (.lst ps)))
  |_=>.bad):=rfl
@[simp] theorem ZlQ{i:Nat}{ρ:Ŏ}:Js i ρ=(match ρ[i]? with
  |some (.bw ps)=>.ok ps ρ
  |some (.sh (.lst ps))=>.ok ps ρ
  |some (.sh (.tup ps))=>.ok ps ρ
  |some (.ow ps)=>.ok ps (ρ.set i (.sh (.lst ps)))
  |_=>.bad):=rfl
end
end P
namespace P
open PySem PySem.Spec PyProof.Rows L2 M2 M3 M4
def ZdI(i:Nat)(m:M PV):M Fl:=fun ρ=>match ρ[i]? with
 |some (.sh (.int _))=>(m ρ).bind fun q ρ1=>match ρ1[i]?,q with
  |some (.sh (.int k)),.int j=>.ok .nx (ρ1.set i (.sh (.int (Builtin.bitOr k j))))
  |_,_=>.bad
 |_=>.bad
@[simp] theorem ZjX{i:Nat}{m:M PV}{ρ:Ŏ}:ZdI i m ρ=(match ρ[i]? with
  |some (.sh (.int _))=>(m ρ).bind fun q ρ1=>match ρ1[i]?,q with
   |some (.sh (.int k)),.int j=>.ok .nx (ρ1.set i (.sh (.int (Builtin.bitOr k j))))
   |_,_=>.bad
  |_=>.bad):=rfl
section
variable{X:Cx}{cm:String→Addr}{E:L2.St→XK}{e a b:Expr}{m ma mb:M PV}{pos:Pos}
def ZdJ:PV→Option PV
 | .int i=>some (.int (Builtin.bitNot i))
 |_=>none
@[simp] theorem ZjY{i:Int}:ZdJ (.int i)=some (.int (Builtin.bitNot i)):=rfl
def ZdK(m:M PV):M PV:=fun ρ=>(m ρ).bind fun p ρ1=>match p with
 | .int i=>.ok (.int ((Builtin.Int.intBits i:Nat):Int)) ρ1
 |_=>.bad
@[simp] theorem ZjZ{ρ:Ŏ}:ZdK m ρ=(m ρ).bind fun p ρ1=>match p with
  | .int i=>.ok (.int ((Builtin.Int.intBits i:Nat):Int)) ρ1
  |_=>.bad:=rfl
def ZlR(m:M PV):M RV:=fun ρ=>(m ρ).bind fun p ρ1=>match p with
 | .lst ps=>.ok (.ow ps.reverse) ρ1
 |_=>.bad
@[simp] theorem ZlS{ρ:Ŏ}:ZlR m ρ=(m ρ).bind fun p ρ1=>match p with
  | .lst ps=>.ok (.ow ps.reverse) ρ1
  |_=>.bad:=rfl
end
section
variable{X:Cx}{K:KK}
end
end P
namespace P
open PySem PySem.Spec PyProof.Rows L2 M2 M3 M4
section
variable{prog:Program}{w:World}{A:Around}{E:Value→Shared→Prop}{s:Shared}
theorem jL{it l:Addr}{i:Nat}{items}{x:Value}{Q:Value→Shared→Prop}(hit:s.heap.IsTupleIter it l i)
 (hl:s.heap.IsTuple l items)(hx:items[i]?=some x)
 (hQ:∀h',h'.IsTupleIter it l (i+1)→Heap.SameBut it s.heap h'→Q x {s with heap:=h'}) :
 wpAny (model prog w) A (Builtin.SmallTypes.nextOf (.ref it)) Q E s:=by
 obtain⟨o,ho,hc,hd⟩:=id hit
 obtain⟨ol,hol,_,nl,hdl⟩:=hl
 unfold Builtin.SmallTypes.nextOf
 refine wpAny_bind (wpAny_callSpecial?_slot (name:=Str.ofString "__next__") hit.typeIs F.slot_tuple_iterator_next
  (wpAny_call_entry F.slot_tuple_iterator_next hit.typeIs F.entry_tuple_iterator_next ?_ (F.args_tuple_iterator_next_1 _)))
 show wpAny _ _ (field (.ref it) 0 >>= _) _ _ s
 refine wpAny_bind (wpAny_field ho hd (x:=.ref l) rfl ?_)
 show wpAny _ _ (if(Value.ref l== Value.none)=true then _ else _) _ _ s
 rw[if_neg (show ¬((Value.ref l== Value.none)=true) from Bool.false_ne_true)]
 show wpAny _ _ (field (.ref it) 1 >>= _) _ _ s
 refine wpAny_bind (wpAny_field ho hd (x:=.int i 0) rfl ?_)
 show wpAny _ _ (seqItems? (.ref l) >>= _) _ _ s
 refine wpAny_bind (wpAny_seqItems hol hdl ?_)
 simp only[Int.toNat_natCast,hx]
 refine wpAny_bind (wpAny_setField ho hd (by simp) (wpAny_pure ⟨x,rfl,wpAny_pure (hQ _ ?_ (Heap.SameBut.update ..))⟩))
 exact⟨_,Heap.get?_update_self _ ho (Obj.isFreed_of_fields (Obj.data_mapFields hd _)),(Obj.cls_mapFields ..).trans hc,by
  rw[Obj.data_mapFields hd];simp[rawInt]⟩
theorem lA{it l:Addr}{i:Nat}{items}{Q:Value→Shared→Prop}(hh:A.handled=none)
 (hit:s.heap.IsTupleIter it l i)(hl:s.heap.IsTuple l items)(hx:items[i]?=none)
 (hE:∀h' e,Heap.ExtBut it s.heap h'→(∃o,h'.get? e=some o∧o.cls=.type "StopIteration")→E (.ref e) {s with heap:=h'}) :
 wpAny (model prog w) A (Builtin.SmallTypes.nextOf (.ref it)) Q E s:=by
 obtain⟨o,ho,hc,hd⟩:=id hit
 obtain⟨ol,hol,_,nl,hdl⟩:=hl
 unfold Builtin.SmallTypes.nextOf
 refine wpAny_bind (wpAny_callSpecial?_slot (name:=Str.ofString "__next__") hit.typeIs F.slot_tuple_iterator_next
  (wpAny_call_entry F.slot_tuple_iterator_next hit.typeIs F.entry_tuple_iterator_next ?_ (F.args_tuple_iterator_next_1 _)))
 show wpAny _ _ (field (.ref it) 0 >>= _) _ _ s
 refine wpAny_bind (wpAny_field ho hd (x:=.ref l) rfl ?_)
 show wpAny _ _ (if(Value.ref l== Value.none)=true then _ else _) _ _ s
 rw[if_neg (show ¬((Value.ref l== Value.none)=true) from Bool.false_ne_true)]
 show wpAny _ _ (field (.ref it) 1 >>= _) _ _ s
 refine wpAny_bind (wpAny_field ho hd (x:=.int i 0) rfl ?_)
 show wpAny _ _ (seqItems? (.ref l) >>= _) _ _ s
 refine wpAny_bind (wpAny_seqItems hol hdl ?_)
 simp only[Int.toNat_natCast,hx]
 refine wpAny_bind (wpAny_rule (wpAny_bind (wpAny_setField ho hd (by simp) ?_)))
 show wpAny _ _ (newExc (.type "StopIteration") [] >>= _) _ _ _
 refine wpAny_bind ?_
 simp only[newExc,newTuple]
 refine wpAny_bind (wpAny_newObj_type ?_ (by size_fits))
 refine wpAny_bind (m:=firstArgMember _ _) (wpAny_of_eq (a:=Value.none) (by first|rfl|(simp only[firstArgMember];rfl)) ?_)
 refine wpAny_newObj_type ?_ (by size_fits)
 simp only[raiseNew]
 refine wpAny_bind (wpAny_handled ?_)
 first|rw[show A.in1.handled=none from hh]|rw[hh]
 refine wpAny_bind (wpAny_pure (wpAny_throw ?_))
 exact hE _ _ (((Heap.SameBut.update ..).extBut.push _).push _) ⟨_,Heap.get?_push_size _ rfl,rfl⟩
end
theorem xO{prog:Program}{w:World}{A:Around}(hh:A.handled=none)(it l:Addr)(hne:l≠it)(items:Array Value) :
 Draws prog w A it [it,l] items.size (fun i v=>items[i]?=some v) (fun i h=>h.IsTupleIter it l i∧h.IsTuple l items) where
 live:=fun _ _ st=>let ⟨o,ho,_⟩:=st.1;⟨o,ho⟩
 frame:=fun _ _ _ st hk=>⟨let ⟨o,ho,r⟩:=st.1;⟨o,hk it (by simp) o ho,r⟩,let ⟨o,ho,r⟩:=st.2;⟨o,hk l (by simp) o ho,r⟩⟩
 item:=fun i s Q E hi st hQ=>by
  refine jL st.1 st.2 (x:=items[i]) (by simp[hi]) fun h' hit' hs'=>?_
  exact hQ _ h' s.toks (by simp[hi]) ⟨hit',st.2.extBut hs'.extBut hne⟩ hs'
 done:=fun s Q E st hE=>lA hh st.1 st.2 (by simp) hE
structure ZAp(z TI TO i1 i2:Addr)(f1 f2:List Addr):Prop where
 TIz:TI≠z
 TOz:TO≠z
 i1z:i1≠z
 i2z:i2≠z
 TITO:TI≠TO
 TIi1:TI≠i1
 TIi2:TI≠i2
 TOi1:TO≠i1
 TOi2:TO≠i2
 i12:i1≠i2
 z1:z∉f1
 z2:z∉f2
 t1:TO∉f1
 t2:TO∉f2
 a1:i1∉f2
 a2:i2∉f1
section
variable{prog:Program}{w:World}{A:Around}{E:Value→Shared→Prop}{s:Shared}
theorem pB{z TI TO i1 i2:Addr}{f1 f2:List Addr}{n1 n2 k1 k2:Nat}{P1 P2:Nat→Value→Prop}{S1 S2:Nat→Heap→Prop}{a b:Value}{Q:Value→Shared→Prop}(D:ZAp z TI TO i1 i2 f1 f2)
 (D1:Draws prog w A i1 f1 n1 P1 S1)(D2:Draws prog w A i2 f2 n2 P2 S2)
 (hz:IsZip s.heap z TI TO .none)(hTI:IsPair s.heap TI (.ref i1) (.ref i2))(hTO:IsPair s.heap TO a b)(h1:S1 k1 s.heap)(h2:S2 k2 s.heap)(hk1:k1<n1)(hk2:k2<n2)
 (hQ:∀x y h' tk,P1 k1 x→P2 k2 y→IsZip h' z TI TO (rawInt s.heap.objs.size)→IsPair h' TO x y→S1 (k1+1) h'→S2 (k2+1) h'→IsPair h' s.heap.objs.size x y→h'.objs.size=s.heap.objs.size+1→
   (∀c o,c≠z→c≠TO→c≠i1→c≠i2→s.heap.get? c=some o→h'.get? c=some o)→Q (.ref s.heap.objs.size) {s with heap:=h',toks:=tk}) :
 wpAny (model prog w) A (Builtin.«zip.__next__» ⟨[.ref z],[]⟩) (fun fin s'=>∃v,fin=.done (.ret v)∧Q v s') E s:=by
 have UW:∀{b},b∈f1→b≠z∧b≠TO∧b≠i2:=fun hb=>⟨fun e=>D.z1 (e▸hb),fun e=>D.t1 (e▸hb),fun e=>D.a2 (e▸hb)⟩
 have Ti:∀{b},b∈f2→b≠z∧b≠TO∧b≠i1:=fun hb=>⟨fun e=>D.z2 (e▸hb),fun e=>D.t2 (e▸hb),fun e=>D.a1 (e▸hb)⟩
 obtain⟨hp,g,d,tk0,os⟩:=s
 show wpAny _ _ (field (.ref z) 2 >>= _) _ _ _
 refine wpAny_bind (wpAny_field hz rfl (x:=.bool false) rfl ?_)
 show wpAny _ _ (field (.ref z) 3 >>= _) _ _ _
 refine wpAny_bind (wpAny_field hz rfl (x:=.ref TI) rfl ?_)
 refine wpAny_bind (wpAny_seqItems hTI rfl ?_)
 show wpAny _ _ (Builtin.SmallTypes.ownedTupleIsFree (.ref z) >>= _) _ _ _
 refine wpAny_bind ?_
 unfold Builtin.SmallTypes.ownedTupleIsFree
 refine wpAny_bind (wpAny_field hz rfl (x:=.none) rfl (wpAny_pure ?_))
 simp only[if_true]
 refine wpAny_bind (wpAny_rule ?_)
 refine wpAny_bind (wpAny_field hz rfl (x:=.ref TO) rfl ?_)
 refine wpAny_bind (wpAny_setField_rec hz (by simp) fun h₁ hz₁ hs₁=>?_)
 replace hs₁:Heap.SameBut z hp h₁:= hs₁
 replace hz₁:IsZip h₁ z TI TO .ellipsis:=hz₁
 refine wpAny_bind ?_
 simp only[List.zipIdx_cons,List.zipIdx_nil,List.forIn_cons,List.forIn_nil]
 refine wpAny_bind (wpAny_bind (wpAny_onRaise ?_))
 show wpAny _ _ (Builtin.SmallTypes.nextOf (.ref i1) >>= _) _ _ _
 refine wpAny_bind (D1.item k1 _ _ _ hk1 (D1.frame _ _ _ h1 fun b hb o e=>hs₁.extBut b o (UW hb).1 e) fun x h₂ tk hPx h1₂ hs₂=>wpAny_pure ?_)
 replace hs₂:Heap.SameBut i1 h₁ h₂:= hs₂
 have hTO₂:IsPair h₂ TO a b:=hs₂.extBut _ _ D.TOi1 (hs₁.extBut _ _ D.TOz hTO)
 refine wpAny_bind (wpAny_seqItems hTO₂ rfl ?_)
 refine wpAny_bind (wpAny_updateSeq_pair hTO₂ fun h₃ hTO₃ hs₃=>?_)
 replace hs₃:Heap.SameBut TO h₂ h₃:= hs₃
 replace hTO₃:IsPair h₃ TO x b:=hTO₃
 refine wpAny_bind (wpAny_letGo (wpAny_pure ?_))
 refine wpAny_bind (wpAny_bind (wpAny_onRaise ?_))
 show wpAny _ _ (Builtin.SmallTypes.nextOf (.ref i2) >>= _) _ _ _
 refine wpAny_bind (D2.item k2 _ _ _ hk2 (D2.frame _ _ _ h2 fun b hb o e=>hs₃.extBut b o (Ti hb).2.1 (hs₂.extBut b o (Ti hb).2.2 (hs₁.extBut b o (Ti hb).1 e))) fun y h₄ tk' hPy h2₄ hs₄=>wpAny_pure ?_)
 replace hs₄:Heap.SameBut i2 h₃ h₄:= hs₄
 have hTO₄:IsPair h₄ TO x b:=hs₄.extBut _ _ D.TOi2 hTO₃
 refine wpAny_bind (wpAny_seqItems hTO₄ rfl ?_)
 refine wpAny_bind (wpAny_updateSeq_pair hTO₄ fun h₅ hTO₅ hs₅=>?_)
 replace hs₅:Heap.SameBut TO h₄ h₅:= hs₅
 replace hTO₅:IsPair h₅ TO x y:=hTO₅
 refine wpAny_bind (wpAny_letGo (wpAny_pure (wpAny_pure ?_)))
 refine wpAny_bind (wpAny_seqItems hTO₅ rfl ?_)
 refine wpAny_bind (wpAny_newTuple ?_)
 have hsz:h₅.objs.size=hp.objs.size:=by rw[hs₅.1,hs₄.1,hs₃.1,hs₂.1,hs₁.1]
 have hz₅:IsZip h₅ z TI TO .ellipsis:=hs₅.extBut _ _ D.TOz.symm (hs₄.extBut _ _ D.i2z.symm (hs₃.extBut _ _ D.TOz.symm (hs₂.extBut _ _ D.i1z.symm hz₁)))
 have hk₅:∀c o,c≠z→c≠TO→c≠i1→c≠i2→hp.get? c=some o→h₅.get? c=some o:=fun c o c1 c2 c3 c4 e=>
  hs₅.extBut _ _ c2 (hs₄.extBut _ _ c4 (hs₃.extBut _ _ c2 (hs₂.extBut _ _ c3 (hs₁.extBut _ _ c1 e))))
 have h1₅:S1 (k1+1) h₅:= D1.frame _ _ _ h1₂ fun b hb o e=>hs₅.extBut b o (UW hb).2.1 (hs₄.extBut b o (UW hb).2.2 (hs₃.extBut b o (UW hb).2.1 e))
 have h2₅:S2 (k2+1) h₅:= D2.frame _ _ _ h2₄ fun b hb o e=>hs₅.extBut b o (Ti hb).2.1 e
 have hzlt:z<h₅.objs.size:=Heap.lt_size hz₅
 show wpAny _ _ (Builtin.SmallTypes.ownedTupleHandOut (.ref z) (.ref h₅.objs.size) >>= _) _ _ _
 refine wpAny_bind ?_
 unfold Builtin.SmallTypes.ownedTupleHandOut
 have hz₆:IsZip (h₅.push {cls:=.type "tuple",data:=.seq #[x,y]}) z TI TO .ellipsis:=Heap.get?_push_of_some _ hz₅
 refine wpAny_bind (wpAny_setField_rec hz₆ (by simp) fun h₇ hz₇ hs₇=>?_)
 replace hz₇:IsZip h₇ z TI TO (rawInt h₅.objs.size):=hz₇
 refine wpAny_setField_rec hz₇ (by simp) fun h₈ hz₈ hs₈=>?_
 replace hz₈:IsZip h₈ z TI TO (rawInt h₅.objs.size):=hz₈
 have up:∀c o,c≠z→h₅.get? c=some o→h₈.get? c=some o:=fun c o c1 e=>hs₈.extBut _ _ c1 (hs₇.extBut _ _ c1 (Heap.get?_push_of_some _ e))
 have hT₈:IsPair h₈ h₅.objs.size x y:=hs₈.extBut _ _ (Nat.ne_of_gt hzlt) (hs₇.extBut _ _ (Nat.ne_of_gt hzlt) (Heap.get?_push_size _ rfl))
 have hz8:h₈.objs.size=h₅.objs.size+1:=by rw[hs₈.1,hs₇.1,Heap.size_push]
 rw[hsz] at hz₈ hT₈ hz8
 refine wpAny_pure ⟨_,rfl,?_⟩
 show Q (.ref h₅.objs.size) _
 rw[hsz]
 exact hQ x y h₈ tk' hPx hPy hz₈ (up _ _ D.TOz hTO₅) (D1.frame _ _ _ h1₅ fun b hb o e=>up b o (UW hb).1 e) (D2.frame _ _ _ h2₅ fun b hb o e=>up b o (Ti hb).1 e) hT₈ hz8 fun c o c1 c2 c3 c4 e=>up c o c1 (hk₅ c o c1 c2 c3 c4 e)
theorem qI{z TI TO i1 i2:Addr}{f1 f2:List Addr}{n1 n2 k1 k2:Nat}{P1 P2:Nat→Value→Prop}{S1 S2:Nat→Heap→Prop}{a b:Value}{Q:Fin→Shared→Prop}(D:ZAp z TI TO i1 i2 f1 f2)
 (D1:Draws prog w A i1 f1 n1 P1 S1)(D2:Draws prog w A i2 f2 n2 P2 S2)
 (hz:IsZip s.heap z TI TO .none)(hTI:IsPair s.heap TI (.ref i1) (.ref i2))(hTO:IsPair s.heap TO a b)(h1:S1 k1 s.heap)(h2:S2 k2 s.heap)(hend:k1=n1∨(k1<n1∧k2=n2))
 (hE:∀h' e tk,(∀c o,c≠z→c≠TO→c≠i1→c≠i2→s.heap.get? c=some o→h'.get? c=some o)→(∃o,h'.get? e=some o∧o.cls=.type "StopIteration")→E (.ref e) {s with heap:=h',toks:=tk}) :
 wpAny (model prog w) A (Builtin.«zip.__next__» ⟨[.ref z],[]⟩) Q E s:=by
 have UW:∀{b},b∈f1→b≠z∧b≠TO∧b≠i2:=fun hb=>⟨fun e=>D.z1 (e▸hb),fun e=>D.t1 (e▸hb),fun e=>D.a2 (e▸hb)⟩
 have Ti:∀{b},b∈f2→b≠z∧b≠TO∧b≠i1:=fun hb=>⟨fun e=>D.z2 (e▸hb),fun e=>D.t2 (e▸hb),fun e=>D.a1 (e▸hb)⟩
 obtain⟨hp,g,d,tk0,os⟩:=s
 show wpAny _ _ (field (.ref z) 2 >>= _) _ _ _
 refine wpAny_bind (wpAny_field hz rfl (x:=.bool false) rfl ?_)
 show wpAny _ _ (field (.ref z) 3 >>= _) _ _ _
 refine wpAny_bind (wpAny_field hz rfl (x:=.ref TI) rfl ?_)
 refine wpAny_bind (wpAny_seqItems hTI rfl ?_)
 show wpAny _ _ (Builtin.SmallTypes.ownedTupleIsFree (.ref z) >>= _) _ _ _
 refine wpAny_bind ?_
 unfold Builtin.SmallTypes.ownedTupleIsFree
 refine wpAny_bind (wpAny_field hz rfl (x:=.none) rfl (wpAny_pure ?_))
 simp only[if_true]
 refine wpAny_bind (wpAny_rule ?_)
 refine wpAny_bind (wpAny_field hz rfl (x:=.ref TO) rfl ?_)
 refine wpAny_bind (wpAny_setField_rec hz (by simp) fun h₁ hz₁ hs₁=>?_)
 replace hs₁:Heap.SameBut z hp h₁:= hs₁
 replace hz₁:IsZip h₁ z TI TO .ellipsis:=hz₁
 refine wpAny_bind ?_
 simp only[List.zipIdx_cons,List.zipIdx_nil,List.forIn_cons,List.forIn_nil]
 refine wpAny_bind (wpAny_bind (wpAny_onRaise ?_))
 show wpAny _ _ (Builtin.SmallTypes.nextOf (.ref i1) >>= _) _ _ _
 rcases hend with rfl|⟨hk1,rfl⟩
 ·refine wpAny_bind (D1.done _ _ _ (D1.frame _ _ _ h1 fun b hb o e=>hs₁.extBut b o (UW hb).1 e) fun h₂ e hs₂ he=>?_)
  obtain⟨oe,hoe,hce⟩:=he
  replace hs₂:Heap.ExtBut i1 h₁ h₂:= hs₂
  have hz₂:IsZip h₂ z TI TO .ellipsis:=hs₂ _ _ D.i1z.symm hz₁
  have hez:e≠z:=fun x=>by subst x;rw[hz₂] at hoe;cases hoe;simp at hce
  exact wpAny_setField_rec hz₂ (by simp) fun h₃ _ hs₃=>hE h₃ e tk0 (fun c o c1 _ c3 _ x=>hs₃.extBut _ _ c1 (hs₂ _ _ c3 (hs₁.extBut _ _ c1 x))) ⟨oe,hs₃.extBut _ _ hez hoe,hce⟩
 ·refine wpAny_bind (D1.item k1 _ _ _ hk1 (D1.frame _ _ _ h1 fun b hb o e=>hs₁.extBut b o (UW hb).1 e) fun x h₂ tk hPx h1₂ hs₂=>wpAny_pure ?_)
  replace hs₂:Heap.SameBut i1 h₁ h₂:= hs₂
  have hTO₂:IsPair h₂ TO a b:=hs₂.extBut _ _ D.TOi1 (hs₁.extBut _ _ D.TOz hTO)
  refine wpAny_bind (wpAny_seqItems hTO₂ rfl ?_)
  refine wpAny_bind (wpAny_updateSeq_pair hTO₂ fun h₃ hTO₃ hs₃=>?_)
  replace hs₃:Heap.SameBut TO h₂ h₃:= hs₃
  refine wpAny_bind (wpAny_letGo (wpAny_pure ?_))
  refine wpAny_bind (wpAny_bind (wpAny_onRaise ?_))
  show wpAny _ _ (Builtin.SmallTypes.nextOf (.ref i2) >>= _) _ _ _
  refine wpAny_bind (D2.done _ _ _ (D2.frame _ _ _ h2 fun b hb o e=>hs₃.extBut b o (Ti hb).2.1 (hs₂.extBut b o (Ti hb).2.2 (hs₁.extBut b o (Ti hb).1 e))) fun h₄ e hs₄ he=>?_)
  obtain⟨oe,hoe,hce⟩:=he
  replace hs₄:Heap.ExtBut i2 h₃ h₄:= hs₄
  have hz₄:IsZip h₄ z TI TO .ellipsis:=hs₄ _ _ D.i2z.symm (hs₃.extBut _ _ D.TOz.symm (hs₂.extBut _ _ D.i1z.symm hz₁))
  have hez:e≠z:=fun x=>by subst x;rw[hz₄] at hoe;cases hoe;simp at hce
  exact wpAny_setField_rec hz₄ (by simp) fun h₅ _ hs₅=>hE h₅ e tk (fun c o c1 c2 c3 c4 x=>hs₅.extBut _ _ c1 (hs₄ _ _ c4 (hs₃.extBut _ _ c2 (hs₂.extBut _ _ c3 (hs₁.extBut _ _ c1 x))))) ⟨oe,hs₅.extBut _ _ hez hoe,hce⟩
end
section
variable{prog:Program}{w:World}{A:Around}{E:Value→Shared→Prop}{s:Shared}
theorem lB{z TI TO i1 i2:Addr}{f1 f2:List Addr}{n1 n2 k1 k2:Nat}{P1 P2:Nat→Value→Prop}{S1 S2:Nat→Heap→Prop}{a b:Value}{Q:Option Value→Shared→Prop}(D:ZAp z TI TO i1 i2 f1 f2)
 (D1:Draws prog w A.in1 i1 f1 n1 P1 S1)(D2:Draws prog w A.in1 i2 f2 n2 P2 S2)
 (hz:IsZip s.heap z TI TO .none)(hTI:IsPair s.heap TI (.ref i1) (.ref i2))(hTO:IsPair s.heap TO a b)(h1:S1 k1 s.heap)(h2:S2 k2 s.heap)(hk1:k1<n1)(hk2:k2<n2)
 (hQ:∀x y h' tk,P1 k1 x→P2 k2 y→IsZip h' z TI TO (rawInt s.heap.objs.size)→IsPair h' TO x y→S1 (k1+1) h'→S2 (k2+1) h'→IsPair h' s.heap.objs.size x y→h'.objs.size=s.heap.objs.size+1→
   (∀c o,c≠z→c≠TO→c≠i1→c≠i2→s.heap.get? c=some o→h'.get? c=some o)→Q (some (.ref s.heap.objs.size)) {s with heap:=h',toks:=tk}) :
 wpAny (model prog w) A (pyNext (.ref z)) Q E s:=by
 have hT:s.TypeIs (.ref z) "zip" := ⟨_,hz,rfl⟩
 unfold pyNext
 exact wpAny_bind (wpAny_attempt (wpAny_callSpecial?_slot (name:=Str.ofString "__next__") hT F.slot_zip_next
  (wpAny_call_entry F.slot_zip_next hT F.entry_zip_next
    (pB D D1 D2 hz hTI hTO h1 h2 hk1 hk2 fun x y h' tk a0 b0 a1 a2 a3 a4 a5 a6 a7=>wpAny_pure (hQ x y h' tk a0 b0 a1 a2 a3 a4 a5 a6 a7)) (F.args_zip_next_1 _))))
theorem ni{z TI TO i1 i2:Addr}{f1 f2:List Addr}{n1 n2 k1 k2:Nat}{P1 P2:Nat→Value→Prop}{S1 S2:Nat→Heap→Prop}{a b:Value}{Q:Option Value→Shared→Prop}(D:ZAp z TI TO i1 i2 f1 f2)
 (D1:Draws prog w A.in1 i1 f1 n1 P1 S1)(D2:Draws prog w A.in1 i2 f2 n2 P2 S2)
 (hz:IsZip s.heap z TI TO .none)(hTI:IsPair s.heap TI (.ref i1) (.ref i2))(hTO:IsPair s.heap TO a b)(h1:S1 k1 s.heap)(h2:S2 k2 s.heap)(hend:k1=n1∨(k1<n1∧k2=n2))
 (hQ:∀h' tk,(∀c o,c≠z→c≠TO→c≠i1→c≠i2→s.heap.get? c=some o→h'.get? c=some o)→Q none {s with heap:=h',toks:=tk}):wpAny (model prog w) A (pyNext (.ref z)) Q E s:=by
 have hT:s.TypeIs (.ref z) "zip" := ⟨_,hz,rfl⟩
 unfold pyNext
 refine wpAny_bind (wpAny_attempt (wpAny_callSpecial?_slot (name:=Str.ofString "__next__") hT F.slot_zip_next
  (wpAny_call_entry F.slot_zip_next hT F.entry_zip_next (qI D D1 D2 hz hTI hTO h1 h2 hend fun h' e tk hk he=>?_) (F.args_zip_next_1 _))))
 obtain⟨o,ho,hc⟩:=he
 refine wpAny_bind (wpAny_isInstance (T:= "StopIteration") (b:=true) ⟨o,ho,hc⟩ isSubtype_stop ?_)
 exact wpAny_pure (hQ _ _ hk)
end
def qu(K:PySem.W.Frag)(b:Bool)(H:Hp)(a:Addr)(xs:List V):Prop:=if b=true then cZ K H a xs else aF K H a xs
def fM(b:Bool)(h:Heap)(it l:Addr)(i:Nat):Prop:=if b=true then h.IsTupleIter it l i else h.IsListIter it l i
def FW(b:Bool)(h:Heap)(l:Addr)(its:Array Value):Prop:=if b=true then h.IsTuple l its else h.IsList l its
def nmB(b:Bool):String:=if b=true then "tuple_iterator" else "list_iterator"
theorem nP{prog:Program}{w:World}{A:Around}(b:Bool)(hh:A.handled=none)(it l:Addr)(hne:l≠it)(items:Array Value) :
 Draws prog w A it [it,l] items.size (fun i v=>items[i]?=some v) (fun i h=>fM b h it l i∧FW b h l items):=by
 cases b with
 |true=>exact xO hh it l hne items
 |false=>exact Draws.list hh it l hne items
theorem fM.ex{b:Bool}{h:Heap}{it l:Addr}{i:Nat}(x:fM b h it l i):∃o,h.get? it=some o∧o.cls=.type (nmB b)∧o.data=.fields #[.ref l,.int i 0]:=by
 cases b with
 |true=>exact x
 |false=>exact x
theorem fM.of{b:Bool}{h:Heap}{it l:Addr}{i:Nat}{o:Obj}(h1:h.get? it=some o)(h2:o.cls=.type (nmB b))(h3:o.data=.fields #[.ref l,.int i 0]):fM b h it l i:=by
 cases b with
 |true=>exact⟨o,h1,h2,h3⟩
 |false=>exact⟨o,h1,h2,h3⟩
theorem fM.keep{b:Bool}{h h':Heap}{it l:Addr}{i:Nat}(x:fM b h it l i)(k:∀o,h.get? it=some o→h'.get? it=some o):fM b h' it l i:=by
 obtain⟨o,h1,h2,h3⟩:=x.ex
 exact .of (k o h1) h2 h3
def Tj(K:PySem.W.Frag)(b:Bool)(H:Hp)(l:Addr)(i:Nat)(xs:List V):Prop:=xs.length≤i∧∀j,j<i→∃ys y,qu K b H l ys∧ys[j]?=some y
def Itz(K:PySem.W.Frag)(b1 b2:Bool)(l1 l2:Addr):It:=
 ⟨fun i H=>(∃xs x,qu K b1 H l1 xs∧xs[i]?=some x)∧∃ys y,qu K b2 H l2 ys∧ys[i]?=some y,
  fun i H z H'=>∃x y T,(∀xs,qu K b1 H l1 xs→xs[i]?=some x)∧(∀ys,qu K b2 H l2 ys→ys[i]?=some y)∧H T=none∧z=.ref T∧H'=upd H T (.tup [x,y]),
  fun i H=>(∃xs,qu K b1 H l1 xs)∧(∃ys,qu K b2 H l2 ys)∧((∃xs,qu K b1 H l1 xs∧Tj K b1 H l1 i xs)∨((∃xs x,qu K b1 H l1 xs∧xs[i]?=some x)∧∃ys,qu K b2 H l2 ys∧Tj K b2 H l2 i ys))⟩
section
variable{X:Cx}{pins:List (Addr×Obj)}{σ:L2.St}{H:Hp}{s:Shared}
theorem rK{b:Bool}{a:Addr}{xs:List V}(I:Inv X pins σ H s)(h:qu X.K b H a xs):∃its:List Value,Vals xs its∧FW b s.heap a its.toArray∧xs.length≤sizeLine:=by
 cases b with
 |true=>
  obtain⟨its,r,p,z⟩:=I.tuple h
  exact⟨its,r,p,z⟩
 |false=>
  obtain⟨its,r,p,z⟩:=I.list h
  exact⟨its,r,p.isList,z⟩
theorem rM{b:Bool}{a:Addr}{xs ys:List V}(I:Inv X pins σ H s)(h:qu X.K b H a xs)(h':qu X.K b H a ys):xs=ys:=by
 cases b with
 |true=>exact I.qL h h'
 |false=>exact I.nW h h'
theorem U_{b:Bool}{l:Addr}{i:Nat}{xs:List V}(I:Inv X pins σ H s)(h:qu X.K b H l xs)(q:Tj X.K b H l i xs):xs.length=i:=by
 obtain⟨h1,h2⟩:=q
 refine Nat.le_antisymm h1 ?_
 cases i with
 |zero=>omega
 |succ i=>
  obtain⟨ys,y,e1,e2⟩:=h2 i (by omega)
  rw[rM I e1 h] at e2
  have:=(List.getElem?_eq_some_iff.mp e2).1
  omega
theorem DP{bb:Bool}{a b:Addr}{xs:List V}(I:Inv X pins σ H s)(f:gj X pins H b)(h:qu X.K bb H a xs):a≠b:=by
 intro e
 subst e
 have hk:∀o,X.K.lookup a=some o→False:=fun o e=>by
  have hb:=I.ok.mod.kin a o e
  rcases f.2.2.2.1 with z|z
  ·exact I.ok.qy a o hb z
  ·exact absurd (Nat.lt_of_lt_of_le (Heap.lt_size (I.ok.bs a o hb).1) z) (Nat.lt_irrefl _)
 have hr:∀u,Rd H a u→False:=fun u r=>by
  rcases r with r|⟨o,r⟩<;>(rw[f.1] at r;cases r)
 cases bb with
 |true=>
  have h':cZ X.K H a xs:=h
  rcases h' with q|⟨o,_,_,q,_⟩
  ·exact hr _ q
  ·exact hk o q
 |false=>
  have h':aF X.K H a xs:=h
  rcases h' with q|⟨o,_,_,q,_⟩
  ·exact hr _ q
  ·exact hk o q
end
theorem Ju{P:Program}{w:World}{K:PySem.W.Frag}{elts:List Expr}{k:Nat}{pos:Pos}(b1 b2:Bool)(l1 l2 z TI TO i1 i2:Addr)(nd:[z,TI,TO,i1,i2].Nodup) :
 Turn P w K (.Tuple elts k pos) (Itz K b1 b2 l1 l2) [z,TI,TO,i1,i2] z (fun i h=>IsZip h z TI TO .none∧IsPair h TI (.ref i1) (.ref i2)∧(∃a b,IsPair h TO a b)∧fM b1 h i1 l1 i∧fM b2 h i2 l2 i) where
 mem:=by simp
 obj:=fun i h st b hb=>by
  obtain⟨hz,hTI,⟨x,y,hTO⟩,h1,h2⟩:=st
  simp only[List.mem_cons,List.not_mem_nil,or_false] at hb
  rcases hb with rfl|rfl|rfl|rfl|rfl
  ·exact⟨_,hz,fun v z=>by have z':Data.fields _=Data.cell v:=z;cases z'⟩
  ·exact⟨_,hTI,fun v z=>by have z':Data.seq _ _=Data.cell v:=z;cases z'⟩
  ·exact⟨_,hTO,fun v z=>by have z':Data.seq _ _=Data.cell v:=z;cases z'⟩
  ·obtain⟨o,e1,c,d⟩:=h1.ex
   exact⟨o,e1,fun v z=>by rw[d] at z;cases z⟩
  ·obtain⟨o,e1,c,d⟩:=h2.ex
   exact⟨o,e1,fun v z=>by rw[d] at z;cases z⟩
 keep:=fun i h h' st k=>by
  obtain⟨hz,hTI,⟨x,y,hTO⟩,h1,h2⟩:=st
  exact⟨k z (by simp) _ hz,k TI (by simp) _ hTI,⟨x,y,k TO (by simp) _ hTO⟩,h1.keep fun o q=>k i1 (by simp) o q,h2.keep fun o q=>k i2 (by simp) o q⟩
 item:=by
  intro X hP hw hK hc i pins s σ H E I hf st hg
  subst hP hw hK
  obtain⟨hz,hTI,⟨a,b,hTO⟩,h1,h2⟩:=st
  obtain⟨⟨xs,x,hq1,hx⟩,ys,y,hq2,hy⟩:=hg
  obtain⟨Av,rv1,p1,_⟩:=rK I hq1
  obtain⟨its2,rv2,p2,_⟩:=rK I hq2
  obtain⟨u1,hu1,ru1⟩:=rv1.get hx
  obtain⟨u2,hu2,ru2⟩:=rv2.get hy
  have ne1:∀b∈[z,TI,TO,i1,i2],l1≠b:=fun b hb=>DP I (hf b hb) hq1
  have ne2:∀b∈[z,TI,TO,i1,i2],l2≠b:=fun b hb=>DP I (hf b hb) hq2
  have hh:X.A.in1.handled=none:=I.ok.hd hc
  simp only[List.nodup_cons,List.mem_cons,List.not_mem_nil,or_false,not_or,List.nodup_nil,not_false_eq_true,and_true] at nd
  obtain⟨⟨n1,n2,n3,n4⟩,⟨n5,n6,n7⟩,⟨n8,n9⟩,n10⟩:=nd
  have D:ZAp z TI TO i1 i2 [i1,l1] [i2,l2]:=by
   refine⟨Ne.symm n1,Ne.symm n2,Ne.symm n3,Ne.symm n4,n5,n6,n7,n8,n9,n10,?_,?_,?_,?_,?_,?_⟩<;>simp only[List.mem_cons,List.not_mem_nil,or_false,not_or]
   ·exact⟨n3,(ne1 z (by simp)).symm⟩
   ·exact⟨n4,(ne2 z (by simp)).symm⟩
   ·exact⟨n8,(ne1 TO (by simp)).symm⟩
   ·exact⟨n9,(ne2 TO (by simp)).symm⟩
   ·exact⟨n10,(ne2 i1 (by simp)).symm⟩
   ·exact⟨Ne.symm n10,(ne1 i2 (by simp)).symm⟩
  have lt1:i<Av.toArray.size:=by
   rw[List.size_toArray]
   exact(List.getElem?_eq_some_iff.mp hu1).1
  have Hz:i<its2.toArray.size:=by
   rw[List.size_toArray]
   exact(List.getElem?_eq_some_iff.mp hu2).1
  have hlt:∀b∈[z,TI,TO,i1,i2],b<s.heap.objs.size:=fun b hb=>by
   simp only[List.mem_cons,List.not_mem_nil,or_false] at hb
   rcases hb with rfl|rfl|rfl|rfl|rfl
   ·exact Heap.lt_size hz
   ·exact Heap.lt_size hTI
   ·exact Heap.lt_size hTO
   ·obtain⟨o,e1,_⟩:=h1.ex;exact Heap.lt_size e1
   ·obtain⟨o,e1,_⟩:=h2.ex;exact Heap.lt_size e1
  refine lB D (nP (A:=X.A.in1) b1 hh i1 l1 (ne1 i1 (by simp)) Av.toArray) (nP (A:=X.A.in1) b2 hh i2 l2 (ne2 i2 (by simp)) its2.toArray) hz hTI hTO ⟨h1,p1⟩ ⟨h2,p2⟩ lt1 Hz fun x' y' h' tk hPx hPy hz' ZlT s1 s2 hT hsz hk=>?_
  have ex:x'=u1:=by
   have:Av.toArray[i]?=some x':=hPx
   rw[show Av.toArray[i]?=some u1 by simpa using hu1] at this
   exact(Option.some.inj this).symm
  have ey:y'=u2:=by
   have:its2.toArray[i]?=some y':=hPy
   rw[show its2.toArray[i]?=some u2 by simpa using hu2] at this
   exact(Option.some.inj this).symm
  subst ex ey
  refine⟨.ref s.heap.objs.size,rfl,wpAny_letOwnedTupleGo_zip hz' fun h'' hz'' hs'=>?_⟩
  have hs2:Heap.SameBut z h' h'':=hs'
  have I2:=pq (fp:=[z,TI,TO,i1,i2]) (h':=h'') (t':=tk) I ru1 ru2 ⟨_,(hs2.2 _ (Nat.ne_of_gt (hlt z (by simp)))).trans hT,rfl⟩ (fun b o hb q=>by
   have hne:∀c∈[z,TI,TO,i1,i2],b≠c:=fun c hc e=>hb (e▸hc)
   exact(hs2.2 b (hne z (by simp))).trans (hk b o (hne z (by simp)) (hne TO (by simp)) (hne i1 (by simp)) (hne i2 (by simp)) q)) hf hlt
  refine⟨.ref s.heap.objs.size,_,I2,rfl,⟨x,y,s.heap.objs.size,fun zs hzs=>by rw[rM I hzs hq1];exact hx,fun zs hzs=>by rw[rM I hzs hq2];exact hy,I.fresh,rfl,rfl⟩,
   ⟨hz'',(hs2.2 TI (Ne.symm n1)).trans (hk TI _ (Ne.symm n1) n5 n6 n7 hTI),⟨_,_,(hs2.2 TO (Ne.symm n2)).trans ZlT⟩,s1.1.keep fun o q=>(hs2.2 i1 (Ne.symm n3)).trans q,s2.1.keep fun o q=>(hs2.2 i2 (Ne.symm n4)).trans q⟩,fun b hb=>?_⟩
  rw[Ĝ (Nat.ne_of_lt (hlt b hb))];exact(hf b hb).1
 done:=by
  intro X hP hw hK hc i pins s σ H E I hf st hg
  subst hP hw hK
  obtain⟨hz,hTI,⟨a,b,hTO⟩,h1,h2⟩:=st
  obtain⟨⟨xs,hq1⟩,⟨ys,hq2⟩,hend'⟩:=hg
  have hend:xs.length=i∨(i<xs.length∧ys.length=i):=by
   rcases hend' with⟨xs',q1,q2⟩|⟨⟨xs',x,q1,q2⟩,ys',q3,q4⟩
   ·left;rw[rM I hq1 q1];exact U_ I q1 q2
   ·right
    rw[rM I hq1 q1,rM I hq2 q3]
    exact⟨(List.getElem?_eq_some_iff.mp q2).1,U_ I q3 q4⟩
  obtain⟨Av,rv1,p1,_⟩:=rK I hq1
  obtain⟨its2,rv2,p2,_⟩:=rK I hq2
  have hl1:=rv1.length
  have hl2:=rv2.length
  have ne1:∀b∈[z,TI,TO,i1,i2],l1≠b:=fun b hb=>DP I (hf b hb) hq1
  have ne2:∀b∈[z,TI,TO,i1,i2],l2≠b:=fun b hb=>DP I (hf b hb) hq2
  have hh:X.A.in1.handled=none:=I.ok.hd hc
  simp only[List.nodup_cons,List.mem_cons,List.not_mem_nil,or_false,not_or,List.nodup_nil,not_false_eq_true,and_true] at nd
  obtain⟨⟨n1,n2,n3,n4⟩,⟨n5,n6,n7⟩,⟨n8,n9⟩,n10⟩:=nd
  have D:ZAp z TI TO i1 i2 [i1,l1] [i2,l2]:=by
   refine⟨Ne.symm n1,Ne.symm n2,Ne.symm n3,Ne.symm n4,n5,n6,n7,n8,n9,n10,?_,?_,?_,?_,?_,?_⟩<;>simp only[List.mem_cons,List.not_mem_nil,or_false,not_or]
   ·exact⟨n3,(ne1 z (by simp)).symm⟩
   ·exact⟨n4,(ne2 z (by simp)).symm⟩
   ·exact⟨n8,(ne1 TO (by simp)).symm⟩
   ·exact⟨n9,(ne2 TO (by simp)).symm⟩
   ·exact⟨n10,(ne2 i1 (by simp)).symm⟩
   ·exact⟨Ne.symm n10,(ne1 i2 (by simp)).symm⟩
  refine ni D (nP (A:=X.A.in1) b1 hh i1 l1 (ne1 i1 (by simp)) Av.toArray) (nP (A:=X.A.in1) b2 hh i2 l2 (ne2 i2 (by simp)) its2.toArray) hz hTI hTO ⟨h1,p1⟩ ⟨h2,p2⟩ ?_ fun h' tk hk=>⟨rfl,turns (fp:=[z,TI,TO,i1,i2]) (t':=tk) I (fun b o hb q=>?_) hf⟩
  ·rw[List.size_toArray,List.size_toArray]
   omega
  ·have hne:∀c∈[z,TI,TO,i1,i2],b≠c:=fun c hc e=>hb (e▸hc)
   exact hk b o (hne z (by simp)) (hne TO (by simp)) (hne i1 (by simp)) (hne i2 (by simp)) q
 self:=fun _ _ _ _ _ st h=>wpAny_pyIter_zip st.1 h
section
abbrev zB1(b:Bool)(h:Heap)(l1:Addr):Heap:=h.push {cls:=.type (nmB b),data:=.fields #[.ref l1,.int 0 0]}
abbrev zB2(b b':Bool)(h:Heap)(l1 l2:Addr):Heap:=(zB1 b h l1).push {cls:=.type (nmB b'),data:=.fields #[.ref l2,.int 0 0]}
abbrev zB3(b b':Bool)(h:Heap)(l1 l2:Addr):Heap:=(zB2 b b' h l1 l2).push {cls:=.type "tuple",data:=.seq #[.ref h.objs.size,.ref (zB1 b h l1).objs.size]}
abbrev zB4(b b':Bool)(h:Heap)(l1 l2:Addr):Heap:=(zB3 b b' h l1 l2).push {cls:=.type "tuple",data:=.seq #[.none,.none]}
abbrev YF(b b':Bool)(h:Heap)(l1 l2:Addr):Heap:=(zB4 b b' h l1 l2).push {cls:=.type "zip",data:=.fields #[.none,.bool false,.bool false,.ref (zB2 b b' h l1 l2).objs.size,.ref (zB3 b b' h l1 l2).objs.size]}
theorem xP{prog:Program}{w:World}{A:Around}{E:Value→Shared→Prop}{s:Shared}{b:Bool}{l:Addr}{its:Array Value}{Q:Value→Shared→Prop}(hl:FW b s.heap l its)
 (hQ:Q (.ref s.heap.objs.size) {s with heap:=s.heap.push {cls:=.type (nmB b),data:=.fields #[.ref l,.int 0 0]}}):wpAny (model prog w) A (pyIter (.ref l)) Q E s:=by
 cases b with
 |true=>exact wpAny_pyIter_tuple hl hQ
 |false=>exact wpAny_pyIter_list hl hQ
theorem FW.push{b:Bool}{h:Heap}{l:Addr}{its:Array Value}(x:FW b h l its)(o:Obj):FW b (h.push o) l its:=by
 cases b with
 |true=>exact Heap.IsTuple.push x o
 |false=>exact Heap.IsList.push x o
theorem xQ(b b':Bool)(l1 l2:Addr)(xs ys:Array Value) :
 Meets (Builtin.«zip.__new__» ⟨[.type "zip",.ref l1,.ref l2],[]⟩) (fun _ R s=>FW b s.heap l1 xs∧FW b' s.heap l2 ys∧
  R (.ok (.ret (.ref (zB4 b b' s.heap l1 l2).objs.size))) {s with heap:=YF b b' s.heap l1 l2}):=
 .of_wp fun prog w A R s h=>by
   obtain⟨hp,g,d,tk,os⟩:=s;obtain⟨hl1,hl2,h⟩:=h
   have hsub:=sub_zip
   have hL1:FW b (Shared.heap ⟨hp,g,d,tk,os⟩) l1 xs:=hl1
   have hL2:FW b' (Shared.heap ⟨hp.push {cls:=.type (nmB b),data:=.fields #[.ref l1,.int 0 0]},g,d,tk,os⟩) l2 ys:=FW.push hl2 _
   wp_walk using xP hL1,xP hL2
   exact⟨_,rfl,h⟩
variable{prog:Program}{w:World}{A:Around}{E:Value→Shared→Prop}{s:Shared}
theorem Aw{b b':Bool}{l1 l2:Addr}{xs ys:Array Value}{Q:Value→Shared→Prop}(hl1:FW b s.heap l1 xs)(hl2:FW b' s.heap l2 ys)
 (h:∀h',IsZip h' (s.heap.objs.size+4) (s.heap.objs.size+2) (s.heap.objs.size+3) .none→IsPair h' (s.heap.objs.size+2) (.ref s.heap.objs.size) (.ref (s.heap.objs.size+1))→
   IsPair h' (s.heap.objs.size+3) .none .none→fM b h' s.heap.objs.size l1 0→fM b' h' (s.heap.objs.size+1) l2 0→h'.objs.size=s.heap.objs.size+5→
   (∀c o,s.heap.get? c=some o→h'.get? c=some o)→Q (.ref (s.heap.objs.size+4)) {s with heap:=h'}) :
 wpAny (model prog w) A (call (.type "zip") [.ref l1,.ref l2]) Q E s:=by
 refine callType_new F.called_zip (by decide) (F.typeCall_zip_2 _ _) (F.newCall_zip_2 _ _) (fun obj=>F.args_object_init_3 obj _ _) F.entry_zip_new
  (xQ b b' l1 l2 xs ys) ⟨hl1,hl2,?_⟩
 have z1:(zB1 b s.heap l1).objs.size=s.heap.objs.size+1:=Heap.size_push ..
 have z2:(zB2 b b' s.heap l1 l2).objs.size=s.heap.objs.size+2:=by rw[Heap.size_push,z1]
 have z3:(zB3 b b' s.heap l1 l2).objs.size=s.heap.objs.size+3:=by rw[Heap.size_push,z2]
 have z4:(zB4 b b' s.heap l1 l2).objs.size=s.heap.objs.size+4:=by rw[Heap.size_push,z3]
 have z5:(YF b b' s.heap l1 l2).objs.size=s.heap.objs.size+5:=by rw[Heap.size_push,z4]
 have g5:(YF b b' s.heap l1 l2).get? (zB4 b b' s.heap l1 l2).objs.size=some _:=Heap.get?_push_size _ rfl
 have g4:(YF b b' s.heap l1 l2).get? (zB3 b b' s.heap l1 l2).objs.size=some _:=Heap.get?_push_of_some _ (Heap.get?_push_size _ rfl)
 have g3:(YF b b' s.heap l1 l2).get? (zB2 b b' s.heap l1 l2).objs.size=some _:=Heap.get?_push_of_some _ (Heap.get?_push_of_some _ (Heap.get?_push_size _ rfl))
 have g2:(YF b b' s.heap l1 l2).get? (zB1 b s.heap l1).objs.size=some _:=Heap.get?_push_of_some _ (Heap.get?_push_of_some _ (Heap.get?_push_of_some _ (Heap.get?_push_size _ rfl)))
 have g1:(YF b b' s.heap l1 l2).get? s.heap.objs.size=some _:=Heap.get?_push_of_some _ (Heap.get?_push_of_some _ (Heap.get?_push_of_some _ (Heap.get?_push_of_some _ (Heap.get?_push_size _ rfl))))
 show _∧_
 rw[z2,z3,z4] at g5
 rw[z1,z2] at g3
 rw[z3] at g4
 rw[z1] at g2
 rw[z4]
 exact⟨⟨_,g5,rfl⟩,h _ g5 g3 g4 (.of g1 rfl rfl) (.of g2 rfl rfl) z5 fun c o x=>
  Heap.get?_push_of_some _ (Heap.get?_push_of_some _ (Heap.get?_push_of_some _ (Heap.get?_push_of_some _ (Heap.get?_push_of_some _ x))))⟩
end
section
variable{X:Cx}{elts:List Expr}{k:Nat}{tp:Pos}
def ZlU(K:PySem.W.Frag)(ta:TA):TI:=fun σ H R=>ta σ H fun vs H1=>∃b1 b2 l1 l2,vs=[.ref l1,.ref l2]∧(∃xs,qu K b1 H1 l1 xs)∧(∃xs,qu K b2 H1 l2 xs)∧R (Itz K b1 b2 l1 l2) H1
theorem YG{e1 e2:Expr}{ta:TA}{p pos:Pos}(hg:Gl X "zip")(hm:X.mg "zip" =none)(ha:PA X [e1,e2] ta)(hs:starEach [e1,e2] X.env=[(false,eval e1 X.env),(false,eval e2 X.env)]:=by exact HJ rfl rfl)(hs2:starEach [e2] X.env=[(false,eval e2 X.env)]:=by exact ī rfl) :
 PI X (.Tuple elts k tp) (.Call (.Name "zip" p) [e1,e2] [] pos) (ZlU X.K ta):=by
 intro pins s σ H R I h
 refine Call_ (gb I hg hm boot_zip (PyProof.Rows.callWith_type1 (ŧ (ha pos pins s σ H _ I h) fun us s1 ⟨vs,H1,I1,r1,q1⟩=>?_) (by rw[hs,hs2]) (by rw[hs2];rfl)))
 obtain⟨b1,b2,l1,l2,e,⟨xs,hq1⟩,⟨ys,hq2⟩,q⟩:=q1
 subst e
 obtain⟨u1,u2,rfl,ru1,ru2⟩:=vals2 r1
 cases ru1
 cases ru2
 obtain⟨Av,rv1,p1,_⟩:=rK I1 hq1
 obtain⟨its2,rv2,p2,_⟩:=rK I1 hq2
 refine Aw p1 p2 fun h' hz hTI hTO h1 h2 hsz hk=>?_
 have I2:Inv X pins σ H1 {s1 with heap:=h'}:=I1.kept (t':=s1.toks) hk
 refine wpAny_pyIter_zip (s:={s1 with heap:=h'}) hz ⟨s1.heap.objs.size+4,[s1.heap.objs.size+4,s1.heap.objs.size+2,s1.heap.objs.size+3,s1.heap.objs.size,s1.heap.objs.size+1],_,_,H1,rfl,I2,Ju b1 b2 l1 l2 _ _ _ _ _ (by simp),⟨hz,hTI,⟨_,_,hTO⟩,h1,h2⟩,fun b hb=>?_,q⟩
 have hb':s1.heap.objs.size≤b:=by
  simp only[List.mem_cons,List.not_mem_nil,or_false] at hb
  rcases hb with rfl|rfl|rfl|rfl|rfl<;>omega
 exact I1.Er hb' (I1.hok.fresh hb')
end
def jM:List PV→List PV→List PV
 |p::ps,q::qs=>.tup [p,q]::jM ps qs
 |_,_=>[]
theorem xR:∀(ps qs:List PV) (i:Nat) (r:PV),(jM ps qs)[i]?=some r→∃p q,ps[i]?=some p∧qs[i]?=some q∧r=.tup [p,q]
 | [],_,_,_,h=>by simp[jM] at h
 |_::_,[],_,_,h=>by simp[jM] at h
 |p::ps,q::qs,0,r,h=>by
  have h':some (PV.tup [p,q])=some r:=h
  cases h'
  exact⟨p,q,rfl,rfl,rfl⟩
 |p::ps,q::qs,i+1,r,h=>xR ps qs i r h
theorem xT:∀(ps qs:List PV),(jM ps qs).length=min ps.length qs.length
 | [],_=>by simp[jM]
 |_::_,[]=>by simp[jM]
 |_::ps,_::qs=>by
  show(jM ps qs).length+1=_
  rw[xT ps qs,List.length_cons,List.length_cons]
  omega
def FZ(m1 m2:M (List PV)):M (List PV):=fun ρ=>(m1 ρ).bind fun ps ρ1=>(m2 ρ1).bind fun qs ρ2=>.ok (jM ps qs) ρ2
def Itb(K:PySem.W.Frag)(b:Bool)(a:Addr):It:=if b=true then Itt K a else WT K a
theorem pC{K:KK}{L F:Hp}{b:Bool}{a:Addr}{ps:List PV}(h:fW K L F (Itb K.K b a) ps){c:Ctx}{F2 H:Hp}{σ:L2.St}{ρ:Ŏ}(rel:Rel K c F2 H σ ρ)(sF:Same F F2)(sL:Same L H)(i:Nat)(p:PV)(hp:ps[i]?=some p) :
 (∃xs x,qu K.K b H a xs∧xs[i]?=some x)∧∀x,(∀xs,qu K.K b H a xs→xs[i]?=some x)→∃F3,Rel K c F3 H σ ρ∧Same F2 F3∧Rep K F3 p x:=by
 obtain⟨g,_⟩:=h c i F2 H σ ρ rel sF sL
 obtain⟨g1,g2⟩:=g p hp
 cases b with
 |true=>exact⟨g1,fun x hx=>let ⟨F3,r3,s3,_,rp⟩:=g2 x H ⟨rfl,hx⟩;⟨F3,r3,s3,rp⟩⟩
 |false=>exact⟨g1,fun x hx=>let ⟨F3,r3,s3,_,rp⟩:=g2 x H ⟨rfl,hx⟩;⟨F3,r3,s3,rp⟩⟩
theorem uN{K:KK}{L F:Hp}{b:Bool}{a:Addr}{ps:List PV}(h:fW K L F (Itb K.K b a) ps){c:Ctx}{F2 H:Hp}{σ:L2.St}{ρ:Ŏ}(rel:Rel K c F2 H σ ρ)(sF:Same F F2)(sL:Same L H) :
 ∃xs,qu K.K b H a xs∧Tj K.K b H a ps.length xs:=by
 obtain⟨_,st⟩:=h c ps.length F2 H σ ρ rel sF sL
 have st':∃xs,qu K.K b H a xs∧xs.length≤ps.length:=by
  cases b with
  |true=>exact st rfl
  |false=>exact st rfl
 obtain⟨xs,h1,h2⟩:=st'
 exact⟨xs,h1,h2,fun j hj=>(pC h rel sF sL j _ (List.getElem?_eq_getElem hj)).1⟩
theorem Jv{K:KK}{L F:Hp}{b1 b2:Bool}{a1 a2:Addr}{ps qs:List PV}(h1:fW K L F (Itb K.K b1 a1) ps)(h2:fW K L F (Itb K.K b2 a2) qs):fW K L F (Itz K.K b1 b2 a1 a2) (jM ps qs):=by
 intro c i F2 H σ ρ rel sF sL
 refine⟨fun r hr=>?_,fun hi=>?_⟩
 ·obtain⟨p,q,hp,hq,rfl⟩:=xR ps qs i r hr
  obtain⟨g1,y1⟩:=pC h1 rel sF sL i p hp
  refine⟨⟨g1,(pC h2 rel sF sL i q hq).1⟩,fun z H' ⟨x,y,T,e1,e2,hT,ez,eH⟩=>?_⟩
  subst ez eH
  obtain⟨F3,jF,s3,rp⟩:=y1 x e1
  obtain⟨F4,wH,s4,rq⟩:=(pC h2 jF (sF.trans s3) sL i q hq).2 y e2
  obtain⟨r1,r2⟩:=DK wH hT (Rep.same s4 p x rp) rq
  exact⟨_,r1,(s3.trans s4).trans (Same.upd (wH.sub.free hT)),Same.upd hT,r2⟩
 ·rw[xT] at hi
  obtain⟨xs,x1,x2⟩:=uN h1 rel sF sL
  obtain⟨ys,y1,y2⟩:=uN h2 rel sF sL
  refine⟨⟨xs,x1⟩,⟨ys,y1⟩,?_⟩
  by_cases hl:ps.length≤qs.length
  ·left
   have e:i=ps.length:=by omega
   exact⟨xs,x1,e▸x2⟩
  ·right
   have e:i=qs.length:=by omega
   exact⟨(pC h1 rel sF sL i _ (List.getElem?_eq_getElem (by omega))).1,ys,y1,e▸y2⟩
theorem ZdL{K:KK}{c:Ctx}{σ:L2.St}{ρ:Ŏ}{F H:Hp}{ps:List PV}{v:V}(h:rSq K c σ ρ F H ps v):∃b a,v=.ref a∧(∃xs,qu K.K b H a xs)∧fW K c.L F (Itb K.K b a) ps:=by
 rcases h with⟨a,e1,e2,e3⟩|⟨a,e1,e2,e3⟩
 ·exact⟨false,a,e1,e2,e3⟩
 ·exact⟨true,a,e1,e2,e3⟩
section
variable{X:Cx}{cm:String→Addr}{E:L2.St→XK}{e e2:Expr}
theorem ZdM{elts:List Expr}{k:Nat}{tp p pos:Pos}{m1 m2:M (List PV)}(hg:Gl X "zip")(hm:X.mg "zip" =none)(h1:PE X e (tG (kk X cm) E (rSq (kk X cm)) m1))(h2:PE X e2 (tG (kk X cm) E (rSq (kk X cm)) m2))
 (hs:starEach [e,e2] X.env=[(false,eval e X.env),(false,eval e2 X.env)]:=by exact HJ rfl rfl)(hs2:starEach [e2] X.env=[(false,eval e2 X.env)]:=by exact ī rfl) :
 PI X (.Tuple elts k tp) (.Call (.Name "zip" p) [e,e2] [] pos) (tI (kk X cm) E (FZ m1 m2)):=fun pins s σ H R I h=>YG hg hm (cA h1 (cA h2 jd hs2) (by rw[hs,hs2])) hs hs2 pins s σ H R I (by
 obtain⟨c,F,ρ,rel,h⟩:=h
 refine⟨c,F,ρ,rel,bA.bind h fun ps ρ1 v F1 H1 ě s1 s2 q h1=>⟨c,F1,ρ1,ě,bA.bind h1 fun qs ρ2 u F2 H2 ŉ s3 s4 q2 h2=>?_⟩⟩
 obtain⟨b1,a1,e1,_,e3⟩:=ZdL q
 obtain⟨b2,a2,f1,f2,f3⟩:=ZdL q2
 subst e1 f1
 obtain⟨xs,x1,_⟩:=uN (e3.mono s3) ŉ (Same.refl _) fun b u e=>(ŉ.lent b u e).1
 exact⟨b1,b2,a1,a2,rfl,⟨xs,x1⟩,f2,h2 _ F2 H2 ŉ (Same.refl _) (Same.refl _) (Jv (e3.mono s3) f3)⟩)
end
end P
namespace P
open PySem PySem.Spec PyProof.Rows L2 M2 M3 M4
def ZdN(K:PySem.W.Frag)(neg:Bool):R2:=fun x y H Q=>∃d es a xs,Rp K H d x∧y=.ref a∧(aF K H a xs∨cZ K H a xs)∧kW K H es xs∧d.canLay0=true∧PyData.canLayAll0 es=true∧d.depth≤60∧Q (.bl (if neg then !(es.any fun e=>PyData.eqv e d) else es.any fun e=>PyData.eqv e d)) H
open Classical in
noncomputable def QG(h:Heap)(d:PyData)(y:Value):Bool:=if ∃e as,Reads h y e as∧e.canLay0=true∧PyData.eqv e d=true then true else false
theorem Jw{h:Heap}{d e:PyData}{y:Value}{as:List Addr}(r:Reads h y e as)(hc:e.canLay0=true):QG h d y=PyData.eqv e d:=by
 unfold QG
 cases q:PyData.eqv e d with
 |true=>rw[if_pos ⟨e,as,r,hc,q⟩]
 |false=>
  rw[if_neg]
  rintro ⟨e',as',r',hc',q'⟩
  have:=SeqAt.Reads.unique e e' y as as' hc r r'
  subst this
  rw[q] at q'
  cases q'
theorem uO{h:Heap}{d:PyData}:∀{us:List Value} {es:List PyData} {as:List Addr},ReadsAll h us es as→PyData.canLayAll0 es=true→us.any (QG h d)=es.any fun e=>PyData.eqv e d
 |_,_,_,.nil,_=>rfl
 |_,_,_,.cons r rs,hc=>by
  unfold PyData.canLayAll0 at hc
  rw[Bool.and_eq_true] at hc
  rw[List.any_cons,List.any_cons,Jw r hc.1,uO rs hc.2]
theorem uP{A:Around}{s:Shared}{d:PyData}{v:Value}{bs:List Addr}(rv:Reads s.heap v d bs)(hd:d.canLay0=true)(hu:A.units+d.depth<cLine):∀{us:List Value} {es:List PyData} {as:List Addr},ReadsAll s.heap us es as→PyData.canLayAll0 es=true→∀u∈us,SeqAt.EqAt A s u v (QG s.heap d u)
 |_,_,_,.nil,_=>fun u hu=>by cases hu
 |_,_,_,.cons r rs,hc=>fun u hm=>by
  unfold PyData.canLayAll0 at hc
  rw[Bool.and_eq_true] at hc
  rcases List.mem_cons.mp hm with rfl|hm
  ·rw[Jw r hc.1]
   exact SeqAt.eqAt_reads _ _ A s _ _ _ _ r rv hc.1 hd (by omega)
  ·exact uP rv hd hu rs hc.2 u hm
section
variable{X:Cx}
theorem Ga(hu:X.A.units+64<cLine):bh X (compareOp .NotIn) (ZdN X.K true):=by
 intro pins s σ H x y v u Q I rx ry h
 obtain⟨d,es,a,xs,h1,rfl,hq,h3,h4,h5,h6,q⟩:=h
 cases ry
 obtain⟨as,ra⟩:=Rp.reads I d x v h1 rx
 have hu1:X.A.in1.units+d.depth<cLine:=by
  have:X.A.in1.units=X.A.units+1:=rfl
  omega
 rcases hq with hq|hq
 ·obtain⟨its,r,pl,hz⟩:=I.list hq
  obtain⟨bs,rb⟩:=kW.reads I es xs its h3 r
  refine SeqAt.notIn_listAt (QG s.heap d) pl.isList (fun w hw=>uP ra h4 hu1 rb h5 w (by simpa using hw)) ⟨.bl _,H,I,rfl,?_⟩
  rw[show its.toArray.any (QG s.heap d)=its.any (QG s.heap d) by simp,uO rb h5]
  exact q
 ·obtain⟨its,r,pl,hz⟩:=I.tuple hq
  obtain⟨bs,rb⟩:=kW.reads I es xs its h3 r
  refine SeqAt.notIn_tupleAt (QG s.heap d) pl (fun w hw=>uP ra h4 hu1 rb h5 w (by simpa using hw)) ⟨.bl _,H,I,rfl,?_⟩
  rw[show its.toArray.any (QG s.heap d)=its.any (QG s.heap d) by simp,uO rb h5]
  exact q
end
def inD(neg:Bool)(p q:PV):Option PV:=match q with
 | .lst ps=>if aB p && aC ps && decide (dep p≤60) then some (.bl (if neg then !(ps.any fun y=>eqB y p) else ps.any fun y=>eqB y p)) else none
 | .tup ps=>if aB p && aC ps && decide (dep p≤60) then some (.bl (if neg then !(ps.any fun y=>eqB y p) else ps.any fun y=>eqB y p)) else none
 |_=>none
theorem uQ{p:PV}(h:aB p=true):∀{ps:List PV},aC ps=true→(dH ps).any (fun e=>PyData.eqv e (toD p))=ps.any fun y=>eqB y p
 | [],_=>rfl
 |y::ps,hp=>by
  unfold aC at hp
  rw[Bool.and_eq_true] at hp
  unfold dH
  rw[List.any_cons,List.any_cons,ur y p hp.1 h,uQ h hp.2]
theorem YH{K:KK}{neg:Bool}:lX K (ZdN K.K neg) (inD neg):=by
 intro c F H σ ρ p q pv v u Q rel r1 r2 e k
 unfold inD at e
 split at e
 ·rename_i ps
  split at e
  ·rename_i hc
   rw[Bool.and_eq_true,Bool.and_eq_true,decide_eq_true_eq] at hc
   cases e
   obtain⟨a,xs,rfl,h1,h2⟩:=r2.lst rel.sub
   refine⟨toD p,dH ps,a,xs,gZ rel.sub hc.1.1 r1,rfl,.inl h1,kW.same rel.sub _ _ (gY ps xs hc.1.2 h2),eX p hc.1.1,gF ps hc.1.2,by rw[eY];exact hc.2,?_⟩
   rw[uQ hc.1.1 hc.1.2]
   exact k _ F H rel (Same.refl _) (Same.refl _) Rep.bl
  ·cases e
 ·rename_i ps
  split at e
  ·rename_i hc
   rw[Bool.and_eq_true,Bool.and_eq_true,decide_eq_true_eq] at hc
   cases e
   obtain⟨a,xs,rfl,h1,h2⟩:=r2.tup rel.sub
   refine⟨toD p,dH ps,a,xs,gZ rel.sub hc.1.1 r1,rfl,.inr h1,kW.same rel.sub _ _ (gY ps xs hc.1.2 h2),eX p hc.1.1,gF ps hc.1.2,by rw[eY];exact hc.2,?_⟩
   rw[uQ hc.1.1 hc.1.2]
   exact k _ F H rel (Same.refl _) (Same.refl _) Rep.bl
  ·cases e
 ·cases e
def Gb{α:Type}(m:M α):M α:= fun ρ=>match m ρ with
 | .ok a ρ'=>.ok a ρ'
 |_=>.bad
@[simp] theorem ZlV{α:Type}{m:M α}{ρ:Ŏ}:Gb m ρ=(match m ρ with
  | .ok a ρ'=>.ok a ρ'
  |_=>.bad):=rfl
theorem Jx{X:Cx}{cm:String→Addr}{E:L2.St→XK}{tg l:Expr}{mi:M (List PV)}(h:PI X tg l (tI (kk X cm) EF mi)):PI X tg l (tI (kk X cm) E (Gb mi)):=fun pins s σ H R I hh=>h pins s σ H R I (by
 obtain⟨c,F,ρ,rel,h'⟩:=hh
 refine⟨c,F,ρ,rel,?_⟩
 unfold Gb at h'
 cases e:mi ρ with
 |ok a ρ'=>rw[e] at h';exact h'
 |exc x ρ'=>rw[e] at h';exact h'.elim
 |bad=>rw[e] at h';exact h')
end P
namespace P
open PySem PySem.Spec PyProof.Rows L2 M2 M3 M4
theorem uR{x:Int}{n:Nat}(h1: -(2 ^ n:Int)<x)(h2:x<2 ^ n):bits x≤n:=by
 refine intBits_le_iff.mpr ?_
 have e:((2 ^ n:Nat):Int)=(2:Int) ^ n:=by simp
 have:((x.natAbs:Nat):Int)<((2 ^ n:Nat):Int):=by rw[e];omega
 omega
theorem ZdO{x y:Int}(h:y≠0)(h1: -18446744073709551616<y)(h2:y<18446744073709551616):jG x y=true:=Iu h (Nat.le_trans (uR (n:=64) (by omega) (by omega)) (by decide))
@[simp] theorem Zj0{x:Int}{n:Nat}(h:n≠0)(h2:n<18446744073709551616):jG x (no_index (OfNat.ofNat n):Int)=true:=by
  have e:(no_index (OfNat.ofNat n):Int)=(n:Int):=rfl
  rw[e]
  exact ZdO (by omega) (by omega) (by omega)
@[simp] theorem ZdP{x:Int}{n:Nat}(h:n<18446744073709551616):ŭ x (no_index (OfNat.ofNat n):Int)=true:=by
  have e:(no_index (OfNat.ofNat n):Int)=(n:Int):=rfl
  rw[e]
  exact mul_r (by omega) (by omega)
@[simp] theorem ZdQ{x:Int}{n:Nat}(h:n<18446744073709551616):ŭ (no_index (OfNat.ofNat n):Int) x=true:=by
  have e:(no_index (OfNat.ofNat n):Int)=(n:Int):=rfl
  rw[e]
  exact dJ (by omega) (by omega)
@[simp] theorem Zj1{m n:Nat}(h:m<18446744073709551616)(h2:n≤1000000):oM (no_index (OfNat.ofNat m):Int) (no_index (OfNat.ofNat n):Int)=true:=by
  have e:(no_index (OfNat.ofNat m):Int)=(m:Int):=rfl
  have e2:(no_index (OfNat.ofNat n):Int)=(n:Int):=rfl
  rw[e,e2]
  unfold oM
  simp
  omega
@[simp] theorem ZdR{x:Int}{n:Nat}:x.fdiv (no_index (OfNat.ofNat n):Int)=x / (no_index (OfNat.ofNat n):Int):=Int.fdiv_eq_ediv_of_nonneg x (Int.natCast_nonneg n)
@[simp] theorem ZdS{x:Int}{n:Nat}:x.fmod (no_index (OfNat.ofNat n):Int)=x % (no_index (OfNat.ofNat n):Int):=Int.fmod_eq_emod_of_nonneg x (Int.natCast_nonneg n)
end P
namespace P
open PySem PySem.Spec PyProof.Rows L2 M2 M3 M4
theorem add_l{xs ys:List PV}(h:xs.length+ys.length≤16777216):ı (.lst xs) (.lst ys)=some (.ow (xs++ys)):=by
 unfold ı
 simp[h]
theorem YJ{x y z w:Int}:eqB (.tup [.int x,.int y]) (.tup [.int z,.int w])=(decide (x=z) && decide (y=w)):=by
 rw[eqB.eq_def]
 show eU [.int x,.int y] [.int z,.int w]=_
 rw[eU.eq_def]
 show(eqB (.int x) (.int z) && eU [.int y] [.int w])=_
 rw[eU.eq_def]
 show(eqB (.int x) (.int z) && (eqB (.int y) (.int w) && eU [] []))=_
 have h1:eqB (.int x) (.int z)=decide (x=z):=by rw[eqB.eq_def];rfl
 have h2:eqB (.int y) (.int w)=decide (y=w):=by rw[eqB.eq_def];rfl
 have h3:eU [] []=true:=by rw[eU.eq_def]
 rw[h1,h2,h3,Bool.and_true]
mutual
theorem xU:∀p:PV,aB p=true→eqB p p=true
 | .non,_=>by unfold eqB;rfl
 | .bl b,_=>by unfold eqB;simp
 | .int i,_=>by unfold eqB;simp
 | .str x,_=>by unfold eqB;simp
 | .lst xs,h=>by unfold aB at h;unfold eqB;exact lE xs h
 | .tup xs,h=>by unfold aB at h;unfold eqB;exact lE xs h
 | .ins _ _ _,h=>by simp[aB] at h
 | .xc _ _ _,h=>by simp[aB] at h
 | .ty _,h=>by simp[aB] at h
 | .cls _,h=>by simp[aB] at h
theorem lE:∀ps:List PV,aC ps=true→eU ps ps=true
 | [],_=>by unfold eU;rfl
 |p::ps,h=>by
  unfold aC at h
  rw[Bool.and_eq_true] at h
  unfold eU
  rw[xU p h.1,lE ps h.2]
  rfl
end
theorem Gd{p:PV}(h:aB p=true)(hd:dep p≤60):aq p p=some (.bl true):=by
 unfold aq ux
 rw[h,xU p h,decide_eq_true (by omega:min (dep p) (dep p)≤60)]
 rfl
theorem cM{a b:Str}(ha:PyData.strOk a=true)(hb:PyData.strOk b=true):aq (.str a) (.str b)=some (.bl (decide (a=b))):=by
 have h:eqB (.str a) (.str b)=decide (a=b):=by unfold eqB;rfl
 unfold aq ux
 rw[show aB (.str a)=true by unfold aB;exact ha,show aB (.str b)=true by unfold aB;exact hb,h]
 rfl
theorem Jy(ns:List Int):aC (ns.map PV.int)=true:=by
 induction ns with
 |nil=>simp[aC]
 |cons n ns ih=>simp[aC,aB,ih]
theorem Jz(ns:List Int):eV (ns.map PV.int)=0:=by
 induction ns with
 |nil=>simp[eV]
 |cons n ns ih=>simp[eV,dep,ih]
end P
namespace P
open PySem PySem.Spec PyProof.Rows L2 M2 M3 M4
section
variable{g:Tg}{mb:M Fl}{mt:M Bool}{me:M PV}
theorem lF{α β:Type}(c:α→PV)(step:β→α→β)(J:β→Ŏ→Prop):∀(xs:List α),(∀x∈xs,∀b ρ,J b ρ→∃ρ1 ρ2,g (c x) ρ=some ρ1∧mb ρ1=.ok .nx ρ2∧J (step b x) ρ2)→∀b ρ,J b ρ→∃ρ',forL g mb (xs.map c) ρ=.ok .nx ρ'∧J (xs.foldl step b) ρ'
 | [],_,b,ρ,h=>⟨ρ,rfl,h⟩
 |x::xs,hs,b,ρ,h=>by
  obtain⟨ρ1,ρ2,h1,h2,h3⟩:=hs x (by simp) b ρ h
  obtain⟨ρ',e,h4⟩:=lF c step J xs (fun y hy=>hs y (List.mem_cons_of_mem _ hy)) (step b x) ρ2 h3
  refine⟨ρ',?_,h4⟩
  rw[List.map_cons,forL,h1]
  dsimp only
  rw[h2]
  exact e
theorem bG{α γ:Type}(c:α→PV)(t:α→Option γ)(v:γ→RV)(J:Ŏ→Prop):∀(xs:List α),(∀x∈xs,∀ρ,J ρ→∃ρ1,g (c x) ρ=some ρ1∧((∃r ρ2,t x=some r∧mb ρ1=.ok (.rt (v r)) ρ2)∨(∃ρ2,t x=none∧mb ρ1=.ok .nx ρ2∧J ρ2)))→∀ρ,J ρ→
 (∃r ρ',xs.findSome? t=some r∧forL g mb (xs.map c) ρ=.ok (.rt (v r)) ρ')∨(∃ρ',xs.findSome? t=none∧forL g mb (xs.map c) ρ=.ok .nx ρ'∧J ρ')
 | [],_,ρ,h=>.inr ⟨ρ,rfl,rfl,h⟩
 |x::xs,hs,ρ,h=>by
  obtain⟨ρ1,h1,h2⟩:=hs x (by simp) ρ h
  rcases h2 with⟨r,ρ2,e1,e2⟩|⟨ρ2,e1,e2,e3⟩
  ·refine .inl ⟨r,ρ2,by rw[List.findSome?_cons,e1],?_⟩
   rw[List.map_cons,forL,h1]
   dsimp only
   rw[e2]
   rfl
  ·have hf:List.findSome? t (x::xs)=List.findSome? t xs:=by rw[List.findSome?_cons,e1]
   have hl:forL g mb ((x::xs).map c) ρ=forL g mb (xs.map c) ρ2:=by
    rw[List.map_cons,forL,h1]
    dsimp only
    rw[e2]
    rfl
   rw[hf,hl]
   exact bG c t v J xs (fun y hy=>hs y (List.mem_cons_of_mem _ hy)) ρ2 e3
theorem fu{α:Type}(c f:α→PV)(q:α→Bool)(I:Ŏ→Prop):∀(xs:List α) (ρ:Ŏ) (acc:List PV),I ρ→acc.length+xs.length≤16777216→
 (∀x∈xs,∀ρ,I ρ→∃ρ1 ρ2,g (c x) ρ=some ρ1∧mt ρ1=.ok (q x) ρ2∧(q x=false→I ρ2)∧(q x=true→∃ρ3,me ρ2=.ok (f x) ρ3∧I ρ3))→Ō g mt me (xs.map c) ρ acc=some (acc++(xs.filter q).map f)
 | [],ρ,acc,_,_,_=>by simp[Ō]
 |x::xs,ρ,acc,h,hz,hs=>by
  obtain⟨ρ1,ρ2,h1,h2,h3,h4⟩:=hs x List.mem_cons_self ρ h
  cases e:q x with
  |true=>
   obtain⟨ρ3,h5,h6⟩:=h4 e
   rw[e] at h2
   rw[List.map_cons,Ō,h1]
   dsimp only
   rw[h2]
   dsimp only
   rw[h5]
   dsimp only
   rw[if_pos (by simp at hz;omega),fu c f q I xs ρ3 (acc ++ [f x]) h6 (by simp at hz ⊢;omega) fun y hy=>hs y (List.mem_cons_of_mem _ hy)]
   simp[e]
  |false=>
   rw[e] at h2
   rw[List.map_cons,Ō,h1]
   dsimp only
   rw[h2]
   dsimp only
   rw[fu c f q I xs ρ2 acc (h3 e) (by simp at hz ⊢;omega) fun y hy=>hs y (List.mem_cons_of_mem _ hy)]
   simp[e]
end
end P
namespace P
open PySem PySem.Spec PyProof.Rows L2 M2 M3 M4
def ZlW(K:PySem.W.Frag)(n:Nat)(t:GD):TG:=fun v σ H Q=>∃a xs,v=.ref a∧aF K H a xs∧xs.length=n∧t xs σ H Q
section
variable{X:Cx}{cm:String→Addr}{pos:Pos}
theorem YK{es:List Expr}{k:Nat}{t:GD}{n:Nat}(hc:X.calm=true)(h:zO X es t)
 (hn:(assignEach es X.env).length=n:=by rfl)(hst:(assignEach es X.env).findIdx? (·.1)=none:=by rfl):PG X (.Tuple es k pos) (ZlW X.K n t):=by
 intro pins s σ H v u Q I r hw
 obtain⟨a,xs,e1,hq,hl,hw⟩:=hw
 subst e1
 cases r
 obtain⟨its,rv,ht,hz⟩:=I.list hq
 rw[assign_Tuple]
 refine wpAny_bind (wpAny_standAt ?_)
 unfold unpack
 rw[show(assignEach es X.env).length=its.toArray.size by simp[hn,←hl,rv.length],hst]
 refine wpAny_bind (wpAny_holding (PySem.W.kun_itemsOf (I.ok.hd hc) ht.isList fun h' hx=>?_))
 have I1:Inv X pins σ H {s with heap:=h'}:=I.kept (t':=s.toks) fun b o e=>hx b o (Nat.ne_of_lt (Heap.lt_size e)) e
 exact h pins _ σ H xs _ Q I1 (by simpa using rv) hw
def gS(n:Nat)(gs:Gw):Tg:=fun p ρ=>match p with
 | .tup ps=>if ps.length=n then gs ps ρ else none
 | .lst ps=>if ps.length=n then gs ps ρ else none
 |_=>none
@[simp] theorem ZlX{n:Nat}{gs:Gw}{ps:List PV}{ρ:Ŏ}:gS n gs (.tup ps) ρ=if ps.length=n then gs ps ρ else none:=rfl
@[simp] theorem ZlY{n:Nat}{gs:Gw}{ps:List PV}{ρ:Ŏ}:gS n gs (.lst ps) ρ=if ps.length=n then gs ps ρ else none:=rfl
theorem Va{es:List Expr}{k:Nat}{gs:Gw}{n:Nat}(hc:X.calm=true)(h:zO X es (tTs (kk X cm) gs))(hn:(assignEach es X.env).length=n:=by rfl)(hst:(assignEach es X.env).findIdx? (·.1)=none:=by rfl):PG X (.Tuple es k pos) (tT (kk X cm) (gS n gs)):=by
 intro pins s σ H v u Q I r hw
 obtain⟨c,F,ρ,p,rel,rp,hw⟩:=hw
 cases p with
 |tup ps=>
  unfold Rep at rp
  obtain⟨a,xs,h1,h2,h3⟩:=rp
  unfold gS at hw
  dsimp only at hw
  split at hw
  ·rename_i hl
   exact GJ hc h hn hst pins s σ H v u Q I r ⟨a,xs,h1,Same.tup rel.sub h2,by rw[←h3.length];exact hl,c,F,ρ,ps,rel,h3,hw⟩
  ·exact hw.elim
 |lst ps=>
  unfold Rep at rp
  obtain⟨a,xs,h1,h2,h3⟩:=rp
  unfold gS at hw
  dsimp only at hw
  split at hw
  ·rename_i hl
   exact YK hc h hn hst pins s σ H v u Q I r ⟨a,xs,h1,rel.sub.seq h2,by rw[←h3.length];exact hl,c,F,ρ,ps,rel,h3,hw⟩
  ·exact hw.elim
 |_=>exact hw.elim
end
end P
namespace P
open PySem PySem.Spec PyProof.Rows L2 M2 M3 M4
theorem Res.Ge{α β γ:Type}(r:Res α)(f:α→Ŏ→Res β)(g:β→Ŏ→Res γ):(r.bind f).bind g=r.bind fun a ρ=>(f a ρ).bind g:=by cases r<;>rfl
theorem pD:∀(n k:Nat) (its:List Value),its.length=n→(∀i v,its[i]?=some v→∃t,v=Value.int ((k+i:Nat):Int) t)→Vals ((List.range' k n).map fun i:Nat=>V.int (i:Int)) its
 |0,_,[],_,_=>.nil
 |n+1,k,v::r,hl,h=>by
  rw[List.range'_succ,List.map_cons]
  refine .cons ?_ (pD n (k+1) r (by simpa using hl) fun i w e=>?_)
  ·obtain⟨t,e⟩:=h 0 v rfl
   exact⟨t,by simpa using e⟩
  ·obtain⟨t,e⟩:=h (i+1) w (by simpa using e)
   exact⟨t,by rw[e];congr 1;omega⟩
section
variable{X:Cx}{cm:String→Addr}{E:L2.St→XK}{a:Expr}{p p1 pos pos1:Pos}{mr:M (List PV)}
def ZdT(ta:TA):TE:=fun σ H Q=>ta σ H fun vs H1=>∃j:Int,vs=[.int j]∧ -(2 ^ 62)≤j∧j.toNat≤16777216∧∀l,H1 l=none→Q (.ref l) (upd H1 l (.lst ((List.range' 0 j.toNat).map fun i:Nat=>V.int (i:Int))))
theorem Gf{ta:TA}(hc:X.calm=true)(hg1:Gl X "list")(hm1:X.mg "list" =none)(hg:Gl X "range")(hm:X.mg "range" =none)(ha:PA X [a] ta)(hs:starEach [a] X.env=[(false,eval a X.env)]) :
 PE X (.Call (.Name "list" p1) [.Call (.Name "range" p) [a] [] pos] [] pos1) (ZdT ta):=by
 intro pins s σ H Q I h
 refine Call_ (gb I hg1 hm1 PySem.Pv.boot_list (PyProof.Rows.callWith_type1 ?_ rfl rfl))
 refine Calls.spliced_cons ?_
 refine Call_ (gb I hg hm boot_range (PyProof.Rows.callWith_type1 (ŧ (ha pos pins s σ H _ I h) fun us s1 ⟨vs,H1,I1,r1,q1⟩=>?_) hs rfl))
 obtain⟨j,e,q1,q2,q⟩:=q1
 subst e
 cases r1 with
 |cons r rr=>
  cases rr
  obtain⟨t,rfl⟩:=r
  refine call_range_1 (Calls.spliced_nil ?_)
  refine call_list_range (n:=j.toNat) (I1.ok.hd hc) (IsRange.new ..) (small_one (by omega) (by omega) q1 (by omega)) (by rw[rangeSize_one];split<;>omega) q2 fun h' tk acc' c' hk hD hI=>?_
  have hf:=I1.hok.fresh (Nat.le_refl _)
  have I2:Inv X pins σ H1 {s1 with heap:=s1.heap.push {cls:=.type "range",data:=.fields #[.int 0 s1.toks,.int j t,.int 1 (s1.toks+1)]},toks:=s1.toks+1+1}:=I1.kept fun b o e=>Heap.get?_push_of_some _ e
  refine⟨.ref _,_,I2.laid (t':=tk) hk (Nat.le_refl _) (show Ţ X.prog X.w _ h' _ (.lst ((List.range' 0 j.toNat).map fun i:Nat=>V.int (i:Int))) from⟨by simpa[Ŋ] using q2,acc'.toList,c',?_,by simpa using hD⟩),rfl,q _ (I2.hok.fresh (Nat.le_refl _))⟩
  refine pD _ _ _ (by simpa using hI.1) fun i v e=>?_
  obtain⟨t',e'⟩:=hI.2 i v (by simpa using e)
  exact⟨t',by rw[e'];simp⟩
theorem pF{K:KK}{F:Hp}:∀(n k:Nat),Ğ K F ((List.range' k n).map fun i:Nat=>PV.int (i:Int)) ((List.range' k n).map fun i:Nat=>V.int (i:Int))
 |0,_=>by simp[Ğ]
 |n+1,k=>by
  rw[List.range'_succ,List.map_cons,List.map_cons]
  unfold Ğ
  exact⟨_,_,rfl,Rep.int,pF n (k+1)⟩
theorem YL(hc:X.calm=true)(hg1:Gl X "list")(hm1:X.mg "list" =none)(hg:Gl X "range")(hm:X.mg "range" =none)(ha:PA X [a] (tL (kk X cm) E mr))(hs:starEach [a] X.env=[(false,eval a X.env)]:=by exact ī rfl) :
 PE X (.Call (.Name "list" p1) [.Call (.Name "range" p) [a] [] pos] [] pos1) (tO (kk X cm) E (ũ (Ű Ÿ mr))):=
 PE.wk (Gf hc hg1 hm1 hg hm ha hs) fun σ H Q ⟨c,F,ρ,rel,h⟩=>by
   unfold ũ Ű at h
   rw[Res.Ge] at h
   refine⟨c,F,ρ,rel,h.bind fun ps ρ1 vs F1 H1 ě s1 s2 q h1=>?_⟩
   have q':Ğ (kk X cm) F1 ps vs:=q
   unfold Ÿ at h1
   split at h1
   ·rename_i j
    split at h1
    ·rename_i hj
     obtain⟨r',e1,e2⟩:=(um q').1 _ _ rfl
     cases(um e2).2 rfl
     obtain⟨k1,k2⟩:=q_ hj
     simp only[Res.mX,Res.bind,oK] at h1
     split at h1
     ·rename_i hz
      refine⟨j,e1,by omega,hz,fun l hl=>?_⟩
      have er:dg 0 j.toNat 1=(List.range' 0 j.toNat).map fun i:Nat=>PV.int (i:Int):=by
       unfold dg
       rw[List.range_eq_range']
       simp
      rw[er] at h1
      obtain⟨q1,q2⟩:=dG ě hl (pF j.toNat 0)
      exact h1 _ _ _ q1 (Same.refl _) (Same.upd hl) q2
     ·exact h1.elim
    ·exact h1.elim
   ·exact h1.elim
end
end P
namespace P
open PySem PySem.Spec PyProof.Rows L2 M2 M3 M4
def ZdU(i:Nat)(m:M Bool):M Bool:=fun ρ=>match ρ[i]? with
 |some (.ot ps qs)=>match m (ρ.set i (.sh (.tup (ps ++ [.lst qs])))) with
  | .ok b _=>.ok b ρ
  |_=>.bad
 |_=>m ρ
section
variable{X:Cx}{cm:String→Addr}{E:L2.St→XK}{e o:Expr}{es:List Expr}{pos:Pos}{m:M Bool}{mo:M RV}{ma:M PV}
def ZdV(mo:M RV):M (List PV×RV):=fun ρ=>(mo ρ).bind fun r ρ1=>.ok ([],r) ρ1
def YM(ma:M PV)(mr:M (List PV×RV)):M (List PV×RV):=fun ρ=>(ma ρ).bind fun p ρ1=>(mr ρ1).bind fun r ρ2=>.ok (p::r.1,r.2) ρ2
def ZdW(mr:M (List PV×RV)):M RV:=fun ρ=>(mr ρ).bind fun r ρ1=>if r.1.length<16777216 then(match r.2 with
 | .ow qs=>.ok (.ot r.1 qs) ρ1
 | .sh p=>.ok (.sh (.tup (r.1 ++ [p]))) ρ1
 |_=>.bad) else .bad
def ZdX(i j:Nat)(m:M PV):M Fl:=fun ρ=>match ρ[i]? with
 |some (.ot ps _)=>if ps.length=j then(m ρ).bind fun p ρ1=>match ρ1[i]? with
  |some (.ot ps' qs)=>if ps'.length=j∧qs.length<16777216 then .ok .nx (ρ1.set i (.ot ps' (qs ++ [p]))) else .bad
  |_=>.bad
  else .bad
 |_=>.bad
@[simp] theorem ZlZ{ps qs:List PV}:(RV.ot ps qs).val=.tup (ps ++ [.lst qs]):=rfl
@[simp] theorem Zl0{ps qs:List PV}:(RV.ot ps qs).slot=.ot ps qs:=rfl
@[simp] theorem Zj2{i:Nat}{ρ:Ŏ}:ZdU i m ρ=(match ρ[i]? with
  |some (.ot ps qs)=>match m (ρ.set i (.sh (.tup (ps ++ [.lst qs])))) with
   | .ok b _=>.ok b ρ
   |_=>.bad
  |_=>m ρ):=rfl
@[simp] theorem Zj3{ρ:Ŏ}:ZdV mo ρ=(mo ρ).bind fun r ρ1=>.ok ([],r) ρ1:=rfl
@[simp] theorem ZdY{mr:M (List PV×RV)}{ρ:Ŏ}:YM ma mr ρ=(ma ρ).bind fun p ρ1=>(mr ρ1).bind fun r ρ2=>.ok (p::r.1,r.2) ρ2:=rfl
@[simp] theorem ZdZ{mr:M (List PV×RV)}{ρ:Ŏ}:ZdW mr ρ=(mr ρ).bind fun r ρ1=>if r.1.length<16777216 then(match r.2 with
  | .ow qs=>.ok (.ot r.1 qs) ρ1
  | .sh p=>.ok (.sh (.tup (r.1 ++ [p]))) ρ1
  |_=>.bad) else .bad:=rfl
@[simp] theorem Zj4{i j:Nat}{ρ:Ŏ}:ZdX i j ma ρ=(match ρ[i]? with
  |some (.ot ps _)=>if ps.length=j then(ma ρ).bind fun p ρ1=>match ρ1[i]? with
   |some (.ot ps' qs)=>if ps'.length=j∧qs.length<16777216 then .ok .nx (ρ1.set i (.ot ps' (qs ++ [p]))) else .bad
   |_=>.bad
   else .bad
  |_=>.bad):=rfl
end
end P
namespace P
open PySem PySem.Spec PyProof.Rows L2 M2 M3 M4
section
variable{X:Cx}{K:KK}
def Vb(K:PySem.W.Frag):List V→Hp→VK→Prop:=fun xs H Q=>Jg K xs H Q∨∃(a:Addr) (C:Addr) (d:Option Addr) (fs:List (Str×V)) (p:Addr) (cs:List Addr) (b:Bool),xs=[.ref a,.ref p]∧H a=some (xo a C d)∧lR H d fs∧aV K C=true∧cZ K H p (cs.map V.ref)∧PySem.W.kitAny K (.ref C) (cs.map Value.ref)=some b∧Q (.bl b) H
theorem rN:∀{cs:List Addr} {its:List Value},Vals (cs.map V.ref) its→its=cs.map Value.ref
 | [],_,.nil=>rfl
 |c::cs,_,.cons r t=>by
  rw[rN t,show _=Value.ref c from r]
  rfl
theorem DQ:Ş X (.builtin "isinstance") (Vb X.K):=by
 intro pins s σ H xs us Q I r h
 rcases h with h|⟨a,C,d,fs,p,cs,b,rfl,ha,hD,q,hp,hk,hQ⟩
 ·exact bJ pins s σ H xs us Q I r h
 ·obtain⟨u,w',rfl,r1,r2⟩:=vals2 r
  cases(show u=Value.ref a from r1)
  cases(show w'=Value.ref p from r2)
  obtain⟨⟨o,ws,ho,hcl,hdi,hda⟩,_,_⟩:=(show Ţ X.prog X.w H s.heap a (xo a C d) from I.hok a _ ha)
  obtain⟨ocls,odict,odata,osl⟩:=o
  dsimp only at hcl hdi hda
  subst hcl hdi hda
  have J:∃ox od,PySem.W.InstAt s.heap a ox C od:=by
   rcases hD with⟨rfl,_⟩|⟨d0,rfl,z⟩
   ·exact⟨_,none,ho,rfl,rfl,trivial⟩
   ·obtain⟨od,z'⟩:=oV (I.hok d0 _ z)
    exact⟨_,some od,ho,rfl,rfl,z'⟩
  obtain⟨its,rv,⟨⟨tc,td,tda,tsl⟩,ht,hc,n,hd⟩,_⟩:=I.tuple hp
  dsimp only at hc hd
  subst hc hd
  rw[rN rv] at ht
  exact PySem.W.kia_tup (xK q) I.dZ J ht hk (fun z=>nomatch z) fun tk=>⟨.bl b,H,I.tok _,rfl,hQ⟩
def nj(tc:List ((String×String)×Bool))(C:String):List PV→Option Bool
 | []=>some false
 | .cls D::r=>match tc.lookup (C,D),nj tc C r with
   |some b,some b'=>some (b || b')
   |_,_=>none
 |_=>none
def rP(tc tt:List ((String×String)×Bool))(ds nt:List String):List PV→Option PV
 | [.xc C _ _,.tup (q::qs)]=>(nj tc C (q::qs)).map .bl
 |ps=>aj tc tt ds nt ps
theorem DR{tc:List ((String×String)×Bool)}{C:String}(hc:m_ (fun C D b=>aV K.K (K.cm C)=true∧PySem.W.kitOne K.K (.ref (K.cm C)) (.ref (K.cm D))=some b) tc){F:Hp}:∀{qs:List PV} {xs:List V} {b:Bool},Ğ K F qs xs→nj tc C qs=some b→
 ∃cs:List Addr,xs=cs.map V.ref∧PySem.W.kitAny K.K (.ref (K.cm C)) (cs.map Value.ref)=some b∧(qs≠[]→aV K.K (K.cm C)=true)
 | [],xs,b,r,e=>by
   unfold Ğ at r
   subst r
   unfold nj at e
   cases e
   exact⟨[],rfl,rfl,fun z=>absurd rfl z⟩
 |q::qs,xs,b,r,e=>by
  unfold Ğ at r
  obtain⟨x,xs',rfl,r1,r2⟩:=r
  cases q with
  |cls D=>
   unfold nj at e
   cases e1:tc.lookup (C,D) with
   |none=>rw[e1] at e;cases e
   |some b1=>
    cases e2:nj tc C qs with
    |none=>rw[e1,e2] at e;cases e
    |some b2=>
     rw[e1,e2] at e
     cases e
     obtain⟨k1,k2⟩:=hc.get e1
     obtain⟨cs,rfl,h2,_⟩:=DR hc r2 e2
     unfold Rep at r1
     subst r1
     refine⟨K.cm D::cs,rfl,?_,fun _=>k1⟩
     show PySem.W.kitAny K.K (.ref (K.cm C)) (Value.ref (K.cm D)::cs.map Value.ref)=_
     unfold PySem.W.kitAny
     rw[k2]
     cases b1 with
     |true=>rfl
     |false=>exact h2
  |_=>unfold nj at e;cases e
theorem DW{tc tt:List ((String×String)×Bool)}{ds nt:List String}(hc:m_ (fun C D b=>aV K.K (K.cm C)=true∧PySem.W.kitOne K.K (.ref (K.cm C)) (.ref (K.cm D))=some b) tc)
 (ht:m_ (fun C D b=>aV K.K (K.cm C)=true∧PySem.W.kitOne K.K (.ref (K.cm C)) (.type D)=some b) tt)(hd:eZ (fun D=>PySem.W.kitOne K.K (.type "NoneType") (.ref (K.cm D))=some false) ds)
 (hn:eZ (fun D=>PySem.W.kitOne K.K (.type "NoneType") (.type D)=some false) nt):cR K (Vb K.K) (rP tc tt ds nt):=by
 intro c F H σ ρ ps pv vs Q rel r e k
 unfold rP at e
 split at e
 ·rename_i C ns qs0 q qs
  obtain⟨v,u,rfl,r1,r2⟩:=Uz r
  cases eb:nj tc C (q::qs) with
  |none=>rw[eb] at e;cases e
  |some b=>
   rw[eb] at e
   cases e
   have r1':Rep K F (.xc C ns qs0) v:=by rcases r1 with q|q;exact q;exact q.elim
   unfold Rep at r1'
   obtain⟨a,d,fs,rfl,h1,h2,h3,h4⟩:=r1'
   obtain⟨p,xs,rfl,h5,h6⟩:=r2.tup rel.sub
   obtain⟨cs,rfl,h7,h8⟩:=DR hc h6 eb
   exact .inr ⟨a,_,d,fs,p,cs,b,rfl,rel.sub _ _ h1,h2.same rel.sub,h8 (by simp),h5,h7,k _ F H rel (Same.refl _) (Same.refl _) Rep.bl⟩
 ·exact .inl (bK hc ht hd hn rel r e k)
end
end P
namespace My
def gd(a b:Int):Int:=((Int.gcd a b:Nat):Int)
theorem Z1w(a b:Int):gd b (Int.fmod a b)=gd a b:=by
 unfold gd
 rw[Int.fmod_def,Int.gcd_sub_mul_left_right,Int.gcd_comm]
theorem Z1x(a:Int){b:Int}(h:b≠0):(Int.fmod a b).natAbs<b.natAbs:=by
 rcases(by omega:0<b∨b<0) with h|h
 ·have h1:=Int.fmod_nonneg_of_pos a h
  have h2:=Int.fmod_lt_of_pos a h
  omega
 ·have e:=Int.neg_fmod_neg a b
  have h1:=Int.fmod_nonneg_of_pos (-a) (show 0 < -b by omega)
  have h2:=Int.fmod_lt_of_pos (-a) (show 0 < -b by omega)
  omega
theorem Z1y(a:Int):gd a 0=if a<0 then -a else a:=by
 unfold gd
 rw[Int.gcd_zero]
 split<;>omega
theorem Z1N(a:Int){b:Int}(h:b≠0):0<gd a b:=by
 have:=Int.gcd_ne_zero_right (a:=a) h
 unfold gd
 omega
theorem Z0O(a b:Int):0≤gd a b:=by
 unfold gd
 omega
theorem Z2a(a:Int){b:Int}(h:b≠0):gd a b≤b.natAbs:=by
 unfold gd
 have:=Int.gcd_dvd_natAbs_right a b
 have:=Nat.le_of_dvd (by omega) this
 omega
def dv(t b:Int):Int:=if b<0 then-gd t b else gd t b
end My
namespace Hu
abbrev Pt:=Int×Int
def tn(a b c:Pt):Int:=(b.1-a.1)*(c.2-a.2)-(b.2-a.2)*(c.1-a.1)
section
variable{S:List Pt}{p:Pt}
end
abbrev Ln:=Int×Int×Int
def hd(l:Ln)(p:Pt):Bool:=decide (l.1*p.1+l.2.1*p.2≤l.2.2)
def Z2(a b:Pt):Ln:=(b.2-a.2,a.1-b.1,(b.2-a.2)*a.1+(a.1-b.1)*a.2)
theorem Z1r{a b s:Pt}:hd (Z2 a b) s=true↔0≤tn a b s:=by
 unfold hd Z2
 rw[decide_eq_true_iff]
 have e:tn a b s=((b.2-a.2)*a.1+(a.1-b.1)*a.2)-((b.2-a.2)*s.1+(a.1-b.1)*s.2):=by simp only[tn];grind
 dsimp only
 omega
def Z1(S:List Pt):List Pt:=S.foldl (fun k x=>if x∈k then k else k ++ [x]) []
theorem ZV(x:Pt):∀(S k:List Pt),x∈S.foldl (fun k x=>if x∈k then k else k ++ [x]) k↔x∈k∨x∈S
 | [],k=>by simp
 |y::S,k=>by
  rw[List.foldl_cons,ZV x S]
  by_cases h:y∈k
  ·rw[if_pos h]
   constructor
   ·rintro (q|q)
    ·exact .inl q
    ·exact .inr (List.mem_cons_of_mem _ q)
   ·rintro (q|q)
    ·exact .inl q
    ·rcases List.mem_cons.mp q with e|e
     ·exact .inl (e▸h)
     ·exact .inr e
  ·rw[if_neg h]
   simp only[List.mem_append,List.mem_cons,List.not_mem_nil,or_false]
   constructor
   ·rintro ((q|q)|q)
    ·exact .inl q
    ·exact .inr (.inl q)
    ·exact .inr (.inr q)
   ·rintro (q|q|q)
    ·exact .inl (.inl q)
    ·exact .inl (.inr q)
    ·exact .inr q
theorem Zj{x:Pt}{S:List Pt}:x∈Z1 S↔x∈S:=by unfold Z1;rw[ZV];simp
def Zq(S:List Pt):List Ln:=(Z1 S).flatMap fun a=>(Z1 S).filterMap fun b=>if a≠b∧(Z1 S).all (hd (Z2 a b)) then some (Z2 a b) else none
theorem Z0P{S:List Pt}{l:Ln}:l∈Zq S↔∃a∈S,∃b∈S,a≠b∧(∀s∈S,0≤tn a b s)∧l=Z2 a b:=by
 unfold Zq
 simp only[List.mem_flatMap,List.mem_filterMap]
 constructor
 ·rintro ⟨a,ha,b,hb,h⟩
  split at h
  ·rename_i hc
   refine⟨a,Zj.mp ha,b,Zj.mp hb,hc.1,fun s hs=>?_,(Option.some.inj h).symm⟩
   exact Z1r.mp (List.all_eq_true.mp hc.2 s (Zj.mpr hs))
  ·cases h
 ·rintro ⟨a,ha,b,hb,h1,h2,rfl⟩
  refine⟨a,Zj.mpr ha,b,Zj.mpr hb,?_⟩
  rw[if_pos ⟨h1,List.all_eq_true.mpr fun s hs=>Z1r.mpr (h2 s (Zj.mp hs))⟩]
def mx(l:List Int):Int:=l.tail.foldl max (l.headD 0)
def mn(l:List Int):Int:=l.tail.foldl min (l.headD 0)
def box(S:List Pt):List Ln:=[(1,0,mx (S.map (·.1))),(-1,0,- mn (S.map (·.1))),(0,1,mx (S.map (·.2))),(0,-1,- mn (S.map (·.2)))]
def Zr(S:List Pt):List Ln:=box S++Zq S
def ZN(S:List Pt)(p:Pt):Option Ln:=(Zr S).find? fun l=>!hd l p
def uT(a b c p:Pt):List Int:=[tn p b c,tn a p c,tn a b p]
def uU(a b p:Pt):List Int:=
 let g:=(b.1-a.1)*(p.1-a.1)+(b.2-a.2)*(p.2-a.2)
 [(b.1-a.1)*(b.1-a.1)+(b.2-a.2)*(b.2-a.2)-g,g]
def Zn(w:List Int):Bool:=decide (w.sum≠0) && w.all fun s=>decide (0≤s*w.sum)
def at_(S:List Pt)(i:Nat):Pt:=S.getD i (0,0)
theorem Z1O{S:List Pt}{i:Nat}(h:i<S.length):at_ S i∈S:=by
 unfold at_
 rw[List.getD_eq_getElem?_getD,List.getElem?_eq_getElem h]
 exact List.getElem_mem h
def Z6(n:Nat):List (Nat×Nat):=(List.range n).flatMap fun j=>(List.range j).map fun i=>(i,j)
def Za(n:Nat):List (Nat×Nat×Nat):=(List.range n).flatMap fun k=>(Z6 k).map fun q=>(q.1,q.2,k)
theorem ZC{n i j:Nat}:(i,j)∈Z6 n↔i<j∧j<n:=by
 unfold Z6
 simp only[List.mem_flatMap,List.mem_range,List.mem_map,Prod.mk.injEq]
 constructor
 ·rintro ⟨k,hk,m,hm,rfl,rfl⟩;exact⟨hm,hk⟩
 ·rintro ⟨h1,h2⟩;exact⟨j,h2,i,h1,rfl,rfl⟩
theorem Z0r{n i j k:Nat}:(i,j,k)∈Za n↔i<j∧j<k∧k<n:=by
 unfold Za
 simp only[List.mem_flatMap,List.mem_range,List.mem_map,Prod.mk.injEq]
 constructor
 ·rintro ⟨m,hm,⟨a,b⟩,hq,rfl,rfl,rfl⟩
  have:=ZC.mp hq
  exact⟨this.1,this.2,hm⟩
 ·rintro ⟨h1,h2,h3⟩;exact⟨k,h3,(i,j),ZC.mpr ⟨h1,h2⟩,rfl,rfl,rfl⟩
def Z1P(S:List Pt)(p:Pt):Option (List Int×List Nat):=(Za S.length).findSome? fun q=>if Zn (uT (at_ S q.1) (at_ S q.2.1) (at_ S q.2.2) p) then some (uT (at_ S q.1) (at_ S q.2.1) (at_ S q.2.2) p,[q.1,q.2.1,q.2.2]) else none
def Z1Q(S:List Pt)(p:Pt):Option (List Int×List Nat):=(Z6 S.length).findSome? fun q=>if Zn (uU (at_ S q.1) (at_ S q.2) p) then some (uU (at_ S q.1) (at_ S q.2) p,[q.1,q.2]) else none
def Z0C(S:List Pt)(p:Pt):List Int×List Nat:=((Z1P S p).orElse fun _=>Z1Q S p).getD ([1],[0])
structure Z2p(S:List Pt)(p:Pt)(w:List Int)(q:List Nat):Prop where
 len:w.length=q.length
 sum:w.sum≠0
 sign:∀s∈w,0≤s*w.sum
 nd:q.Nodup
 lt:∀i∈q,i<S.length
 x:((w.zip q).map fun a=>a.1*(at_ S a.2).1).sum=w.sum*p.1
 y:((w.zip q).map fun a=>a.1*(at_ S a.2).2).sum=w.sum*p.2
theorem Z07{w:List Int}:Zn w=true↔w.sum≠0∧∀s∈w,0≤s*w.sum:=by
 unfold Zn
 simp
end Hu
namespace Fr
def lay(l:List Int)(a:List (Int×Nat)):List Int:=a.foldl (fun acc a=>acc.set a.2 a.1) l
end Fr
namespace T
open PySem L2 M2 M3 M4 P
def top(i:Nat):Stmt:=PySem.Challenge.pw_shadowpost_k35_lit_refused.main.body.getD i (.Pass ⟨0,0,0,0⟩)
abbrev xW:Stmt:=top 76
abbrev xX:Stmt:=top 70
abbrev xY:Stmt:=top 71
abbrev xZ:Stmt:=top 75
abbrev rQ:Stmt:=top 77
abbrev rT:Stmt:=inClass (top 40) 0
abbrev yc:Stmt:=top 78
abbrev yg:Stmt:=top 73
abbrev yj:Stmt:=top 72
abbrev rW:Stmt:=top 74
abbrev yq:Stmt:=top 52
abbrev yr:Stmt:=top 53
abbrev yu:Stmt:=top 55
abbrev JB:Stmt:=inClass (top 62) 0
abbrev rY:Stmt:=top 56
abbrev yx:Stmt:=top 57
abbrev JC:Stmt:=top 58
abbrev JD:Stmt:=top 54
abbrev rZ:Stmt:=top 59
abbrev yC:Stmt:=top 68
abbrev yD:Stmt:=top 80
abbrev yE:Stmt:=top 81
abbrev yF:Stmt:=top 41
abbrev yG:Stmt:=top 44
abbrev yH:Stmt:=top 43
abbrev yI:Stmt:=top 45
abbrev yJ:Stmt:=top 42
abbrev pG:Stmt:=top 15
abbrev yK:Stmt:=top 17
abbrev yL:Stmt:=top 16
abbrev yM:Stmt:=top 14
abbrev su:Stmt:=top 18
abbrev yN:Stmt:=top 19
abbrev yO:Stmt:=top 20
abbrev sy:Stmt:=top 26
abbrev Gg:Stmt:=top 27
abbrev JF:Stmt:=top 11
abbrev yP:Stmt:=top 12
abbrev sE:Stmt:=top 25
abbrev yQ:Stmt:=top 21
abbrev JG:Stmt:=top 22
abbrev sG:Stmt:=top 24
abbrev yR:Stmt:=top 23
abbrev pH:Stmt:=top 28
abbrev yS:Stmt:=top 29
abbrev yU:Stmt:=top 31
abbrev yV:Stmt:=top 60
abbrev yW:Stmt:=top 61
abbrev yX:Stmt:=inClass (top 63) 0
abbrev yZ:Stmt:=inClass (top 64) 0
abbrev za:Stmt:=inClass (top 65) 0
abbrev sI:Stmt:=inClass (top 66) 0
abbrev zc:Stmt:=inClass (top 67) 0
abbrev sJ:Stmt:=top 34
abbrev zf:Stmt:=top 32
abbrev zj:Stmt:=top 35
abbrev zm:Stmt:=top 36
abbrev zp:Stmt:=top 38
abbrev sO:Stmt:=top 47
abbrev zq:Stmt:=top 48
abbrev zu:Stmt:=top 79
abbrev fO:Stmt:=top 82
abbrev JH:Stmt:=inClass (top 5) 0
abbrev JK:Stmt:=inClass (top 6) 0
abbrev Tn:Stmt:=inClass (top 7) 0
abbrev Tp:Stmt:=inClass (top 9) 0
def Z5:List ((String×String)×Bool):=[(("YardError","BadRow"),false),(("YardError","BadThing"),false),(("YardError","NoDay"),false),(("YardError","NoNumber"),false),(("YardError","NoRow"),false),(("YardError","NoStone"),false),(("YardError","NoTurn"),false),(("NoNumber","BadRow"),false),(("NoNumber","BadThing"),false),(("NoNumber","NoDay"),false),(("NoNumber","NoNumber"),true),(("NoNumber","NoRow"),false),(("NoNumber","NoStone"),false),(("NoNumber","NoTurn"),false),(("BadThing","BadRow"),false),(("BadThing","BadThing"),true),(("BadThing","NoDay"),false),(("BadThing","NoNumber"),false),(("BadThing","NoRow"),false),(("BadThing","NoStone"),false),(("BadThing","NoTurn"),false),(("NoStone","BadRow"),false),(("NoStone","BadThing"),false),(("NoStone","NoDay"),false),(("NoStone","NoNumber"),false),(("NoStone","NoRow"),false),(("NoStone","NoStone"),true),(("NoStone","NoTurn"),false),(("NoTurn","BadRow"),false),(("NoTurn","BadThing"),false),(("NoTurn","NoDay"),false),(("NoTurn","NoNumber"),false),(("NoTurn","NoRow"),false),(("NoTurn","NoStone"),false),(("NoTurn","NoTurn"),true),(("BadRow","BadRow"),true),(("BadRow","BadThing"),false),(("BadRow","NoDay"),false),(("BadRow","NoNumber"),false),(("BadRow","NoRow"),false),(("BadRow","NoStone"),false),(("BadRow","NoTurn"),false),(("NoRow","BadRow"),false),(("NoRow","BadThing"),false),(("NoRow","NoDay"),false),(("NoRow","NoNumber"),false),(("NoRow","NoRow"),true),(("NoRow","NoStone"),false),(("NoRow","NoTurn"),false),(("NoDay","BadRow"),false),(("NoDay","BadThing"),false),(("NoDay","NoDay"),true),(("NoDay","NoNumber"),false),(("NoDay","NoRow"),false),(("NoDay","NoStone"),false),(("NoDay","NoTurn"),false)]
def Z7:List ((String×String)×Bool):=[(("YardError","ValueError"),true),(("NoNumber","ValueError"),true),(("BadThing","ValueError"),true),(("NoStone","ValueError"),true),(("NoTurn","ValueError"),true),(("BadRow","ValueError"),true),(("NoRow","ValueError"),true),(("NoDay","ValueError"),true)]
def Zb:List String:=["BadRow","BadThing","NoDay","NoNumber","NoRow","NoStone","NoTurn"]
def Zc:List String:=["ValueError"]
def aD(c0:Addr)(c1:Addr)(c2:Addr)(c3:Addr)(c4:Addr)(c5:Addr)(c6:Addr)(c7:Addr)(c8:Addr)(c9:Addr)(c10:Addr)(c11:Addr)(c12:Addr)(c13:Addr)(c14:Addr):String→Addr:=fun s=>match s with
 | "YardError" =>c0
 | "NoNumber" =>c1
 | "BadThing" =>c2
 | "NoStone" =>c3
 | "NoTurn" =>c4
 | "BadRow" =>c5
 | "NoRow" =>c6
 | "NoDay" =>c7
 | "Yard" =>c8
 | "Thing" =>c9
 | "Post" =>c10
 | "Fence" =>c11
 | "Sail" =>c12
 | "Cloth" =>c13
 | "House" =>c14
 |_=>0
noncomputable def fB:M Fl:=(ģ (dX (jC (j_ (Ĉ aq (Ĉ ń (Ĉ Ź (ā 0) (mC (.int 7))) (mC (.int 16))) (mC (.int 11)))) (j_ (Ĉ Yl (ā 1) (mC (.int 6)))))
 (ĳ (Ŕ (Ĉ ĝ (Ď (ũ (ă (Ŗ (ă (mC (.int 1)) (ă (mC (.int 20)) Ě))) (ă (Ŗ (ă (mC (.int 20)) (ă (mC (.int 1)) Ě))) Ě)))) (Ĉ ń (ā 0) (mC (.int 2))))))
 fK)
 (ģ (Ļ 2 (Ĵ ı (mC (.int 1)) (Ĉ ń (ā 0) (b_ wU (ă (mC (.int 5)) (ă (ā 1) Ě))))))
 (ĳ (Ŕ (Ŗ (ă (ğ 2) (ă (Ď (Ĵ ı (mC (.int 1)) (Ĉ ń (Ĉ Ź (ā 0) (mC (.int 5))) (b_ wU (ă (mC (.int 4)) (ă (Ĉ Ź (ā 1) (ā 2)) Ě)))))) Ě)))))))
noncomputable def dO:MF:=ň 2 3 fB
noncomputable def uV:M Fl:=(ģ (dX (j_ (Ĉ uo (ā 1) (b_ cO (ă (ā 0) Ě))))
 (ĳ (Ŕ (Ĉ ĝ (ā 0) (ā 1))))
 fK)
 (ĳ (Ŕ (mC (.int 0)))))
noncomputable def ő:MF:=ň 2 2 uV
noncomputable def lG:M Fl:=(dX (j_ (Ĉ aq (Ĉ ń (ā 0) (mC (.int 2))) (mC (.int 0))))
 (ģ (wL 2 (Ĉ ń (ā 3) (mC (.int 524287))))
 (Ļ 3 (Ŕ (Ĉ Ź (ā 3) (mC (.int 524287))))))
 (ģ (Ļ 3 (Ŕ (Ĉ ń (Ď (Ĵ ı (Ď (Ĵ ı (Ĉ Ľ (ā 3) (mC (.int 49157))) (mC (.int 24593)))) (Ĉ Ľ (mC (.int 2)) (ā 4)))) (mC (.int 8388593)))))
 (wL 2 (Ĉ Ź (ā 3) (mC (.int 16))))))
noncomputable def uW:M Fl:=(ģ (Ļ 2 (ũ Ě))
 (ģ (Ļ 3 (Ŕ (Ĉ Ź (ā 0) (mC (.int 2)))))
 (ģ (dX (j_ (Ĉ aq (Ĉ ń (ā 0) (mC (.int 2))) (mC (.int 1))))
 (Ļ 3 (Ŕ (Ĉ ń (ā 3) (mC (.int 8388593)))))
 fK)
 (ģ (fX (Ű Ÿ (ă (ğ 1) Ě)) (gN 4) lG)
 (ĳ (fJ 2))))))
noncomputable def iI:MF:=ň 2 5 uW
noncomputable def uX:M Fl:=(ģ (dX (j_ (Ĉ aq (Ĉ ń (Ĉ ĝ (ā 0) (mC (.int 4))) (mC (.int 6))) (mC (.int 4))))
 (ĳ (Ŕ (mC .non)))
 fK)
 (ģ (Ļ 1 (Ŕ (Ĉ ĝ (Ď (ũ (ă (mC (.int 1)) (ă (mC (.int 1)) (ă (mC (.int 3)) (ă (Ĉ iz (mC (.int 10)) (mC (.int 5))) Ě)))))) (Ĉ ń (Ĉ ĝ (ā 0) (mC (.int 3))) (mC (.int 4))))))
 (ĳ (Ŕ (Ŗ (ă (Ĉ Ľ (Ĉ ŗ (Ĉ ń (Ĉ ĝ (ā 0) (mC (.int 0))) (mC (.int 13))) (mC (.int 6))) (ā 1)) (ă (Ĉ Ľ (Ĉ ŗ (Ĉ ń (Ĉ ĝ (ā 0) (mC (.int 1))) (mC (.int 13))) (mC (.int 6))) (ā 1)) (ă (Ĉ Ľ (Ď (Ĵ ı (mC (.int 1)) (Ĉ ń (Ĉ ĝ (ā 0) (mC (.int 2))) (mC (.int 5))))) (ā 1)) Ě))))))))
noncomputable def jN:MF:=ň 1 2 uX
noncomputable def uY:M Fl:=(ģ (Ļ 8 (Đ iI (đ (Ď (Ĵ ı (Ĉ Ź (Ď (Đ ő (ą 0 (đ (Ď (Ĵ ı (ā 1) (ā 7))) č)))) (mC (.int 12))) (Ĉ Ľ (mC (.int 5)) (ā 7)))) (đ (Ď (Ĵ ı (Ĉ Ľ (mC (.int 5)) (ā 3)) (mC (.int 2)))) č))))
 (ģ (Ļ 9 (ţ [8] 1 (Ű Ÿ (ă (Ď (Ĵ ı (mC (.int 1)) (Ĉ ń (Ĉ ĝ (ā 8) (mC (.int 1))) (ā 3)))) Ě)) (gN 1) œ (Ď (Đ jN (đ (Ď (Fv (ā 0) (mP (Ď (Ĵ ı (mC (.int 2)) (Ĉ Ľ (mC (.int 5)) (ā 1))))) (mP (Ď (Ĵ ı (mC (.int 7)) (Ĉ Ľ (mC (.int 5)) (ā 1))))))) č)))))
 (wL 6 (Ŗ (ă (Ĉ ĝ (ā 4) (ā 7)) (ă (Ď (Ĵ ı (mC (.int 1)) (Ĉ ń (Ĉ Ľ (Ĉ ĝ (ā 8) (mC (.int 0))) (mC (.int 1907))) (Ĉ iz (mC (.int 10)) (mC (.int 9)))))) (ă (ğ 9) Ě)))))))
noncomputable def Ax:M Fl:=(ģ (Ļ 4 (ũ (ă (mC (.str "ab")) (ă (mC (.str "a")) (ă (mC (.str "abc")) (ă (mC (.str "b")) (ă (mC (.str "ba")) (ă (mC (.str "z")) (ă (mC (.str "zz")) (ă (mC (.str "zzz")) (ă (mC (.str "abcdefgh")) (ă (mC (.str "abcdefgi")) (ă (mC (.str "aa")) (ă (mC (.str "bb")) Ě))))))))))))))
 (ģ (Ļ 5 (Ŕ (Ĉ ń (Ď (Đ ő (ą 0 (ą 1 č)))) (mC (.int 12)))))
 (ģ (Ļ 4 (Ĵ ı (Ď (Fv (ā 4) (mP (ğ 5)) Ft)) (Ď (Fv (ā 4) Ft (mP (ğ 5))))))
 (ģ (Ļ 6 (ũ Ě))
 (ģ (fX (Ű Ÿ (ă (ğ 2) Ě)) (gN 7) uY)
 (ĳ (fJ 6)))))))
noncomputable def lZ:MF:=ň 4 10 Ax
noncomputable def Ay:M Fl:=(ģ (iG 0 ["Yard"] "width" (ğ 1))
 (ģ (iG 0 ["Yard"] "height" (ğ 2))
 (ģ (iG 0 ["Yard"] "things" (Ď (oF dI (ă (ā 3) Ě))))
 (iG 0 ["Yard"] "days" (Ď (ţ [] 3 (Ŵ 4) (gT 3 (Ŀ (gN 0) (Ŀ (gN 1) (Ŀ (gN 2) bC)))) œ (Ŗ (ă (ğ 0) (ă (ğ 1) (ă (Ď (oF dI (ă (ā 2) Ě))) Ě))))))))))
noncomputable def jO:MI:=cV 5 5 "Yard" Ay
noncomputable def dh:M Fl:=(ģ (Ļ 2 (ũ (ă (Ĉ ń (Ĉ Ź (ā 1) (mC (.int 3))) (Ĉ ĝ (ā 0) (mC (.int 0)))) (ă (Ĉ ń (Ĉ Ź (ā 1) (mC (.int 5))) (Ĉ ĝ (ā 0) (mC (.int 1)))) Ě))))
 (ģ (Ļ 3 (Ŕ (Ĉ ń (Ĉ Ź (ā 1) (mC (.int 7))) (mC (.int 2)))))
 (ģ (Ļ 4 (Ŕ (Ĉ ĝ (Ď (ũ (ă (mC (.int 0)) (ă (Ĉ ŗ (Ĉ ń (Ĉ Ź (ā 1) (mC (.int 28))) (Ĉ iz (mC (.int 10)) (mC (.int 9)))) (mC (.int 30))) Ě)))) (Ĉ Ź (Ĉ ń (Ĉ Ź (ā 1) (mC (.int 14))) (mC (.int 3))) (mC (.int 2))))))
 (ģ (uh 2 (ğ 3) (Ĉ ĝ (Ď (ũ (ă (Ď (Ĵ ı (Ĉ ĝ (ā 0) (ā 3)) (b_ wV (ă (mC (.int 0)) (ă (ā 4) Ě))))) (ă (Ĉ ŗ (Ĉ ŗ (mC (.int 0)) (mC (.int 1))) (b_ wV (ă (mC (.int 0)) (ă (ā 4) Ě)))) Ě)))) (Ĉ ń (Ĉ Ź (ā 1) (mC (.int 2))) (mC (.int 2)))))
 (ĳ (Ŕ (Ŗ (ă (Ĉ ĝ (ā 2) (mC (.int 0))) (ă (Ĉ ĝ (ā 2) (mC (.int 1))) Ě)))))))))
noncomputable def cW:MF:=ň 2 5 dh
noncomputable def uZ:M Fl:=(ģ (dX (j_ (Ĉ aq (Ĉ ń (Ĉ Ź (ā 0) (mC (.int 512))) (mC (.int 12))) (mC (.int 7))))
 (ĳ (Ĵ ı (mC (.int 1)) (Ĉ ń (Ĉ Ľ (ā 0) (mC (.int 1907))) (Ĉ iz (mC (.int 10)) (mC (.int 9))))))
 fK)
 (ĳ (Ĵ ı (mC (.int 1)) (Ĉ ń (ā 0) (mC (.int 9))))))
noncomputable def jP:MF:=ň 1 1 uZ
noncomputable def u_:M Fl:=(ģ (dX (j_ (Ĉ aq (Ĉ ń (Ĉ Ź (ā 0) (mC (.int 512))) (mC (.int 16))) (mC (.int 5))))
 (ĳ (Ĵ ı (Ĉ ŗ (Ĉ ń (Ĉ Ľ (ā 0) (mC (.int 3813))) (Ĉ ŗ (Ĉ Ľ (mC (.int 2)) (Ĉ iz (mC (.int 10)) (mC (.int 9)))) (mC (.int 99)))) (Ĉ iz (mC (.int 10)) (mC (.int 9)))) (mC (.int 50))))
 fK)
 (ĳ (Ŕ (Ĉ ŗ (Ĉ ń (ā 0) (Ď (Ĵ ı (Ĉ Ľ (mC (.int 2)) (ā 1)) (mC (.int 9))))) (mC (.int 4))))))
noncomputable def cj:MF:=ň 2 2 u_
noncomputable def jo:M Fl:=(ģ (Ļ 2 (Đ iI (ą 0 (đ (mC (.int 14)) č))))
 (ģ (RL (gS 2 (Ŀ (gN 5) (Ŀ (gN 6) bC))) (Ď (ţ [1,2] 1 (Ű Ÿ (ă (mC (.int 2)) Ě)) (gN 2) œ (Ď (Đ cj (đ (Ĉ ĝ (ā 1) (ā 2)) (ą 0 č)))))))
 (ģ (Ļ 3 (Đ jP (đ (Ĉ ĝ (ā 2) (mC (.int 2))) č)))
 (ģ (Ļ 4 (Ŕ (Ĉ ń (Ĉ ĝ (ā 2) (mC (.int 3))) (mC (.int 5)))))
 (ģ (dX (j_ (Ĉ aq (ā 4) (mC (.int 0))))
 (ĳ (Ŕ (Ŗ (ă (mC (.str "post")) (ă (Ď (ũ (ă (Ĉ Ź (ā 5) (mC (.int 2))) (ă (Ĉ Ź (ā 6) (mC (.int 2))) (ă (ğ 3) Ě))))) Ě)))))
 fK)
 (ģ (dX (j_ (Ĉ aq (ā 4) (mC (.int 1))))
 (ģ (RL (gS 2 (Ŀ (gN 7) (Ŀ (gN 8) bC))) (Ď (ũ (ă (Ĉ ŗ (Ď (Ĵ ı (ā 5) (Ĉ ń (Ĉ ĝ (ā 2) (mC (.int 4))) (mC (.int 9))))) (mC (.int 4))) (ă (Ĉ ŗ (Ď (Ĵ ı (ā 6) (Ĉ ń (Ĉ ĝ (ā 2) (mC (.int 5))) (mC (.int 9))))) (mC (.int 4))) Ě)))))
 (ĳ (Ŕ (Ŗ (ă (mC (.str "fence")) (ă (Ď (ũ (ă (ğ 5) (ă (ğ 6) (ă (Ď (Ĵ ı (ā 7) (b_ Jl (ă (Ĉ aq (Ŗ (ă (ğ 5) (ă (ğ 6) Ě))) (Ŗ (ă (ğ 7) (ă (ğ 8) Ě)))) Ě)))) (ă (ğ 8) (ă (ğ 3) Ě))))))) Ě))))))
 fK)
 (ģ (dX (j_ (Ĉ aq (ā 4) (mC (.int 2))))
 (ĳ (Ŕ (Ŗ (ă (mC (.str "cloth")) (ă (Ď (Ĵ ı (Ď (Ĵ ı (Ď (ũ (ă (ğ 5) (ă (ğ 6) (ă (Ĉ ń (Ĉ ĝ (ā 2) (mC (.int 6))) (mC (.int 10))) Ě))))) (Ď (ũ (ă (Ď (Đ cj (đ (Ĉ ĝ (ā 2) (mC (.int 7))) (ą 1 č)))) (ă (Ď (Đ cj (đ (Ĉ ĝ (ā 2) (mC (.int 8))) (ą 1 č)))) (ă (ğ 3) Ě))))))) (Ď (ũ (ă (Ď (Đ cj (đ (Ĉ ĝ (ā 2) (mC (.int 9))) (ą 1 č)))) (ă (Ď (Đ cj (đ (Ĉ ĝ (ā 2) (mC (.int 10))) (ą 1 č)))) (ă (Ď (Đ jP (đ (Ĉ ĝ (ā 2) (mC (.int 11))) č))) Ě))))))) Ě)))))
 fK)
 (ĳ (Ŕ (Ŗ (ă (Ĉ ĝ (Ď (ũ (ă (mC (.str "sail")) (ă (mC (.str "house")) Ě)))) (Ĉ ŗ (ā 4) (mC (.int 3)))) (ă (Ď (ũ (ă (ğ 5) (ă (ğ 6) (ă (Ď (Ĵ ı (Ď (Ĵ ı (ā 5) (mC (.int 1)))) (Ĉ ń (Ĉ ĝ (ā 2) (mC (.int 4))) (mC (.int 8))))) (ă (Ď (Ĵ ı (Ď (Ĵ ı (ā 6) (mC (.int 1)))) (Ĉ ń (Ĉ ĝ (ā 2) (mC (.int 5))) (mC (.int 8))))) (ă (ğ 3) Ě))))))) Ě))))))))))))
noncomputable def dR:MF:=ň 2 9 jo
noncomputable def Az:M Fl:=(ĳ (Ŕ (uf mY mY (jZ jH (mC (.int (1000000000)))) (ā 0) (mC (.int (1000000000))))))
noncomputable def cX:MF:=ň 1 1 Az
noncomputable def A_:M Fl:=(ĳ (Ŕ (uf mY mY (mC (.int 1)) (ā 0) (mC (.int (1000000000))))))
noncomputable def mj:MF:=ň 1 1 A_
noncomputable def vd:M Fl:=(ĳ (Ŕ (fV (Ĉ aq (b_ cO (ă (ā 0) Ě)) (mC (.int 3))) (fV (Ď (Đ cX (đ (Ĉ ĝ (ā 0) (mC (.int 0))) č))) (fV (Ď (Đ cX (đ (Ĉ ĝ (ā 0) (mC (.int 1))) č))) (Ď (Đ mj (đ (Ĉ ĝ (ā 0) (mC (.int 2))) č))))))))
noncomputable def pI:MF:=ň 1 1 vd
noncomputable def fP:M Fl:=(ģ (iG 0 ["Thing","Post","Fence","Sail","Cloth","House"] "word" (ğ 1))
 (iG 0 ["Thing","Post","Fence","Sail","Cloth","House"] "numbers" (Ď (oF dI (ă (ā 2) Ě)))))
noncomputable def vf:MI:=cV 3 3 "Post" fP
noncomputable def pJ:MI:=cV 3 3 "Fence" fP
noncomputable def vg:MI:=cV 3 3 "Sail" fP
noncomputable def pK:MI:=cV 3 3 "Cloth" fP
noncomputable def pL:MI:=cV 3 3 "House" fP
noncomputable def vh:M Fl:=(ĳ (Ŕ (fV (Ĉ aq (b_ cO (ă (ā 0) Ě)) (mC (.int 5))) (fV (b_ uz (ă (Ď (ţ [] 1 (ū (Ď (Fv (ā 0) Ft (mP (mC (.int 4)))))) (gN 0) œ (Ď (Đ cX (ą 0 č))))) Ě)) (Ď (Đ mj (đ (Ĉ ĝ (ā 0) (mC (.int 4))) č)))))))
noncomputable def jQ:MF:=ň 1 1 vh
noncomputable def vm:M Fl:=(ĳ (Ŕ (fV (Ď (Đ jQ (ą 0 č))) (Ĉ jj (Ď (Fv (ā 0) Ft (mP (mC (.int 2))))) (Ď (Fv (ā 0) (mP (mC (.int 2))) (mP (mC (.int 4)))))))))
noncomputable def pN:MF:=ň 1 1 vm
noncomputable def DX:M Fl:=(ĳ (Ŕ (fV (Ď (Đ jQ (ą 0 č))) (fV (Ĉ uo (Ĉ ĝ (ā 0) (mC (.int 0))) (Ĉ ĝ (ā 0) (mC (.int 2)))) (Ĉ uo (Ĉ ĝ (ā 0) (mC (.int 1))) (Ĉ ĝ (ā 0) (mC (.int 3))))))))
noncomputable def vo:MF:=ň 1 1 DX
noncomputable def JL:M Fl:=(ĳ (Ŕ (fV (Ď (Đ cX (đ (Ĉ ĝ (ā 0) (mC (.int 0))) č))) (fV (Ď (Đ cX (đ (Ĉ ĝ (ā 0) (mC (.int 1))) č))) (uf mY mY (mC (.int 0)) (Ĉ ĝ (ā 0) (mC (.int 2))) (mC (.int (1000000000))))))))
noncomputable def Gh:MF:=ň 1 1 JL
noncomputable def vp:M Fl:=(ĳ (Ŕ (fV (Ĉ aq (b_ cO (ă (ā 0) Ě)) (mC (.int 9))) (b_ uz (ă (Ď (ţ [0] 1 (ū (Ŗ (ă (mC (.int 0)) (ă (mC (.int 3)) (ă (mC (.int 6)) Ě))))) (gN 1) œ (Ď (Đ Gh (đ (Ď (Fv (ā 0) (mP (ğ 1)) (mP (Ď (Ĵ ı (ā 1) (mC (.int 3))))))) č))))) Ě)))))
noncomputable def pO:MF:=ň 1 1 vp
noncomputable def gJ:M Fl:=(ģ (dX (jC (j_ (Ĉ aq (ā 0) (mC (.str "post")))) (aG (Ď (Đ pI (ą 1 č)))))
 (ĳ (Ŕ (cg "Post" vf (ą 0 (ą 1 č)))))
 fK)
 (ģ (dX (jC (j_ (Ĉ aq (ā 0) (mC (.str "fence")))) (aG (Ď (Đ pN (ą 1 č)))))
 (ĳ (Ŕ (cg "Fence" pJ (ą 0 (ą 1 č)))))
 fK)
 (ģ (dX (jC (j_ (Ĉ aq (ā 0) (mC (.str "sail")))) (aG (Ď (Đ vo (ą 1 č)))))
 (ĳ (Ŕ (cg "Sail" vg (ą 0 (ą 1 č)))))
 fK)
 (ģ (dX (jC (j_ (Ĉ aq (ā 0) (mC (.str "cloth")))) (aG (Ď (Đ pO (ą 1 č)))))
 (ĳ (Ŕ (cg "Cloth" pK (ą 0 (ą 1 č)))))
 fK)
 (ģ (dX (jC (j_ (Ĉ aq (ā 0) (mC (.str "house")))) (aG (Ď (Đ vo (ą 1 č)))))
 (ĳ (Ŕ (cg "House" pL (ą 0 (ą 1 č)))))
 fK)
 (uH "BadThing"))))))
noncomputable def cN:MF:=ň 2 2 gJ
noncomputable def Ba:M Fl:=(ģ (dX (wI (bB (aG (b_ (aj Z5 Z7 Zb Zc) (ă (ā 0) (ă (mC (.cls "NoStone")) Ě))))) (wI (bB (aG (b_ (aj Z5 Z7 Zb Zc) (ă (ā 0) (ă (mC (.ty "ValueError")) Ě))))) (j_ (Ĉ jj (jZ (dN ["NoStone"] "stone") (ğ 0)) (ā 1)))))
 (ĳ (Ŕ (mC (.bl false))))
 fK)
 (ģ (dX (wI (bB (aG (b_ (aj Z5 Z7 Zb Zc) (ă (jZ (dN ["NoStone"] "stone") (ğ 0)) (ă (mC (.ty "tuple")) Ě))))) (wI (aG (b_ (aj Z5 Z7 Zb Zc) (ă (ā 0) (ă (mC (.cls "NoTurn")) Ě)))) (aG (b_ (aj Z5 Z7 Zb Zc) (ă (ā 0) (ă (mC (.cls "NoNumber")) Ě))))))
 (ĳ (Ŕ (mC (.bl false))))
 fK)
 (ĳ (Ŕ (RJ (b_ (rP Z5 Z7 Zb Zc) (ă (ā 0) (ă (Ŗ (ă (mC (.cls "BadRow")) (ă (mC (.cls "BadThing")) (ă (mC (.cls "NoDay")) (ă (mC (.cls "NoRow")) Ě))))) Ě))))))))
noncomputable def iJ:MF:=ň 2 2 Ba
noncomputable def Bb:M Fl:=(ģ (dX (wI (bB (aG (b_ (aj Z5 Z7 Zb Zc) (ă (ā 0) (ă (mC (.cls "NoTurn")) Ě))))) (wI (bB (aG (b_ (aj Z5 Z7 Zb Zc) (ă (ā 0) (ă (mC (.ty "ValueError")) Ě))))) (aG (b_ (aj Z5 Z7 Zb Zc) (ă (ā 0) (ă (mC (.cls "NoStone")) Ě))))))
 (ĳ (Ŕ (mC (.bl false))))
 fK)
 (ģ (dX (aG (b_ (rP Z5 Z7 Zb Zc) (ă (ā 0) (ă (Ŗ (ă (mC (.cls "BadRow")) (ă (mC (.cls "BadThing")) (ă (mC (.cls "NoDay")) (ă (mC (.cls "NoNumber")) (ă (mC (.cls "NoRow")) Ě)))))) Ě))))
 (ĳ (Ŕ (mC (.bl false))))
 fK)
 (ĳ (Ŕ (fV (RJ (b_ (aj Z5 Z7 Zb Zc) (ă (jZ (dN ["NoTurn"] "day") (ğ 0)) (ă (mC (.ty "bool")) Ě)))) (fV (Ĉ aq (jZ (dN ["NoTurn"] "day") (ğ 0)) (ā 1)) (Ĉ Fq (jZ (dN ["NoTurn"] "turn") (ğ 0)) (mC .non))))))))
noncomputable def mq:MF:=ň 2 2 Bb
noncomputable def jq:M Fl:=(ĳ (Ŕ (fV (uf mY uo (mC (.int 0)) (Ĉ ĝ (ā 1) (mC (.int 0))) (jZ (bN ["Yard"] "width") (ā 0))) (uf mY uo (mC (.int 0)) (Ĉ ĝ (ā 1) (mC (.int 1))) (jZ (bN ["Yard"] "height") (ā 0))))))
noncomputable def gK:MF:=ň 2 2 jq
noncomputable def vq:M Fl:=(dX (bB (aG (Ď (Đ gK (ą 0 (ą 1 č))))))
 (nO "NoStone" 2 [("stone",1)] (ă (ğ 1) Ě))
 fK)
noncomputable def iK:MF:=ň 2 2 vq
noncomputable def pP:M Fl:=(ĳ (Ŕ (uf mY uo (mC (.int 0)) (ā 1) (b_ cO (ă (jZ (bN ["Yard"] "days") (ā 0)) Ě)))))
noncomputable def jR:MF:=ň 2 2 pP
noncomputable def vA:M Fl:=(dX (bB (aG (Ď (Đ jR (ą 0 (ą 1 č))))))
 (nO "NoTurn" 3 [("day",1),("turn",2)] (ă (ğ 1) (ă (mC .non) Ě)))
 fK)
noncomputable def mz:MF:=ň 2 2 vA
noncomputable def Bc:M Fl:=(ĳ (Ŕ (Ĉ ĝ (Ĉ ĝ (jZ (bN ["Yard"] "days") (ā 0)) (ā 1)) (mC (.int 2)))))
noncomputable def mD:MF:=ň 2 2 Bc
noncomputable def Bd:M Fl:=(ģ (Ļ 1 (ţ [] 1 (Ŵ 0) (gN 0) œ (Ĉ ĝ (ā 0) (mC (.int 0)))))
 (ģ (Ļ 2 (ţ [] 1 (Ŵ 0) (gN 0) œ (Ĉ ĝ (ā 0) (mC (.int 1)))))
 (ĳ (ũ (ă (Ŗ (ă (mC (.int 1)) (ă (mC (.int 0)) (ă (b_ iH (ă (ā 1) Ě)) Ě)))) (ă (Ŗ (ă (jZ jH (mC (.int 1))) (ă (mC (.int 0)) (ă (jZ jH (b_ rG (ă (ā 1) Ě))) Ě)))) (ă (Ŗ (ă (mC (.int 0)) (ă (mC (.int 1)) (ă (b_ iH (ă (ā 2) Ě)) Ě)))) (ă (Ŗ (ă (mC (.int 0)) (ă (jZ jH (mC (.int 1))) (ă (jZ jH (b_ rG (ă (ā 2) Ě))) Ě)))) Ě))))))))
noncomputable def sS:MF:=ň 1 3 Bd
noncomputable def lH:M Fl:=(dX (j_ (Ĉ (inD true) (ā 2) (ā 1)))
 (wL 1 (ğ 2))
 fK)
noncomputable def Bf:M Fl:=(ģ (Ļ 1 (ũ Ě))
 (ģ (fX (Ŵ 0) (gN 2) lH)
 (ĳ (fJ 1))))
noncomputable def sU:MF:=ň 1 3 Bf
noncomputable def Bg:M Fl:=(ģ (Ļ 2 (Ŕ (Ĉ ŗ (Ĉ ĝ (ā 1) (mC (.int 1))) (Ĉ ĝ (ā 0) (mC (.int 1))))))
 (ģ (Ļ 3 (Ŕ (Ĉ ŗ (Ĉ ĝ (ā 0) (mC (.int 0))) (Ĉ ĝ (ā 1) (mC (.int 0))))))
 (ĳ (Ŕ (Ŗ (ă (ğ 2) (ă (ğ 3) (ă (Ď (Ĵ ı (Ĉ Ľ (ā 2) (Ĉ ĝ (ā 0) (mC (.int 0)))) (Ĉ Ľ (ā 3) (Ĉ ĝ (ā 0) (mC (.int 1)))))) Ě))))))))
noncomputable def sV:MF:=ň 2 4 Bg
noncomputable def Bh:M Fl:=(ĳ (Ŕ (Ĉ mY (Ď (Ĵ ı (Ĉ Ľ (Ĉ ĝ (ā 0) (mC (.int 0))) (Ĉ ĝ (ā 1) (mC (.int 0)))) (Ĉ Ľ (Ĉ ĝ (ā 0) (mC (.int 1))) (Ĉ ĝ (ā 1) (mC (.int 1)))))) (Ĉ ĝ (ā 0) (mC (.int 2))))))
noncomputable def iM:MF:=ň 2 2 Bh
noncomputable def lJ:M Fl:=(ģ (Ļ 5 (Đ sV (ą 3 (ą 4 č))))
 (dX (jC (j_ (Ĉ jj (ā 3) (ā 4))) (aG (b_ uz (ă (Ď (ţ [5] 1 (Ŵ 2) (gN 1) œ (Ď (Đ iM (ą 0 (ą 1 č)))))) Ě))))
 (wL 1 (ğ 5))
 fK))
noncomputable def vB:M Fl:=(fX (Ŵ 2) (gN 4) lJ)
noncomputable def Bj:M Fl:=(ģ (Ļ 1 (ũ Ě))
 (ģ (Ļ 2 (Đ sU (ą 0 č)))
 (ģ (fX (Ŵ 2) (gN 3) vB)
 (ĳ (fJ 1)))))
noncomputable def sW:MF:=ň 1 6 Bj
noncomputable def Bk:M Fl:=(ĳ (Ĵ ı (Ď (Đ sS (ą 0 č))) (Ď (Đ sW (ą 0 č)))))
noncomputable def sX:MF:=ň 1 1 Bk
noncomputable def vC:M Fl:=(dX (bB (aG (Ď (Đ iM (ą 2 (ą 1 č))))))
 (ĳ (fJ 2))
 fK)
noncomputable def vD:M Fl:=(ģ (fX (ū (Ď (Đ sX (ą 0 č)))) (gN 2) vC)
 (ĳ (Ŕ (mC .non))))
noncomputable def pQ:MF:=ň 2 3 vD
noncomputable def pR:M Fl:=(Ar 1 (ţ [2] 1 (Ű Ÿ (ă (ğ 2) Ě)) (gN 1) œ (Ŗ (ă (ğ 1) (ă (ğ 0) Ě)))))
noncomputable def Bl:M Fl:=(ģ (Ļ 1 (ũ Ě))
 (ģ (fX (Ű Ÿ (ă (ğ 0) Ě)) (gN 2) pR)
 (ĳ (fJ 1))))
noncomputable def mF:MF:=ň 1 3 Bl
noncomputable def zx:M Fl:=(Ar 1 (ţ [2] 1 (Gb (ū (Ď (Đ mF (ą 2 č))))) (gN 1) œ (Ŗ (ă (Ĉ ĝ (ā 1) (mC (.int 0))) (ă (Ĉ ĝ (ā 1) (mC (.int 1))) (ă (ğ 0) Ě))))))
noncomputable def JM:M Fl:=(ģ (Ļ 1 (ũ Ě))
 (ģ (fX (Ű Ÿ (ă (ğ 0) Ě)) (gN 2) zx)
 (ĳ (fJ 1))))
noncomputable def Gi:MF:=ň 1 3 JM
noncomputable def Vc:M Fl:=(Ž (j_ (Ĉ jj (ā 1) (mC (.int 0))))
 (ģ (Ļ 2 (Ŕ (Ĉ ń (ā 0) (ā 1))))
 (ģ (Ļ 0 (Ŕ (ğ 1)))
 (Ļ 1 (Ŕ (ğ 2))))))
noncomputable def JN:M Fl:=(ģ Vc
 (ĳ (Ŕ (b_ RZ (ă (ā 0) Ě)))))
noncomputable def Gj:MF:=ň 2 3 JN
noncomputable def vG:M Fl:=(ģ (dX (j_ (Ĉ aq (ā 1) (mC (.int 0))))
 (uH "NoNumber")
 fK)
 (ģ (Ļ 2 (Đ Gj (ą 0 (ą 1 č))))
 (ģ (dX (j_ (Ĉ uo (ā 1) (mC (.int 0))))
 (Ļ 2 (Ŕ (jZ jH (ā 2))))
 fK)
 (ĳ (Ŕ (Ŗ (ă (Ĉ Ź (ā 0) (ā 2)) (ă (Ĉ Ź (ā 1) (ā 2)) Ě))))))))
noncomputable def gM:MF:=ň 2 3 vG
noncomputable def vH:M Fl:=(uh 4 (ğ 6) (Ď (Đ gM (ą 5 (ą 3 č)))))
noncomputable def lK:M Fl:=(ģ (Ļ 3 (Ŕ (b_ Ao (ă (ā 0) Ě))))
 (ģ (Ļ 4 (ţ [3] 1 (Ű Ÿ (ă (ğ 2) Ě)) (gN 1) œ (Ď (Đ gM (đ (mC (.int 0)) (ą 0 č))))))
 (ģ (fX (FZ (Js 0) (Js 1)) (gT 2 (Ŀ (gN 5) (Ŀ (gN 6) bC))) vH)
 (ĳ (fJ 4)))))
noncomputable def dU:MF:=ň 3 7 lK
noncomputable def Bm:M Fl:=(ģ (Ļ 3 (Ŕ (Ĉ Ľ (Ĉ ŗ (Ĉ ĝ (ā 1) (mC (.int 0))) (Ĉ ĝ (ā 0) (mC (.int 0)))) (Ĉ ŗ (Ĉ ĝ (ā 2) (mC (.int 1))) (Ĉ ĝ (ā 0) (mC (.int 1)))))))
 (ĳ (Ŕ (Ĉ ŗ (ā 3) (Ĉ Ľ (Ĉ ŗ (Ĉ ĝ (ā 1) (mC (.int 1))) (Ĉ ĝ (ā 0) (mC (.int 1)))) (Ĉ ŗ (Ĉ ĝ (ā 2) (mC (.int 0))) (Ĉ ĝ (ā 0) (mC (.int 0)))))))))
noncomputable def iQ:MF:=ň 3 4 Bm
noncomputable def JQ:M Fl:=(ģ (Ļ 2 (Ŕ (Ĉ ĝ (ā 0) (mC (.int 0)))))
 (ģ (Ļ 3 (Ŕ (Ĉ ĝ (ā 0) (mC (.int 1)))))
 (ģ (Ļ 4 (Ŕ (Ĉ ĝ (ā 0) (mC (.int 2)))))
 (ĳ (ũ (ă (Ď (Đ iQ (ą 1 (ą 3 (ą 4 č))))) (ă (Ď (Đ iQ (ą 2 (ą 1 (ą 4 č))))) (ă (Ď (Đ iQ (ą 2 (ą 3 (ą 1 č))))) Ě))))))))
noncomputable def Gk:MF:=ň 2 5 JQ
noncomputable def vI:M Fl:=(ģ (Ļ 1 (Ŕ (b_ Ao (ă (ā 0) Ě))))
 (ĳ (Ŕ (fV (Ĉ jj (ā 1) (mC (.int 0))) (b_ uz (ă (Ď (ţ [1] 1 (Ŵ 0) (gN 1) œ (Ĉ Ia (Ĉ Ľ (ā 1) (ā 0)) (mC (.int 0))))) Ě))))))
noncomputable def jT:MF:=ň 1 2 vI
noncomputable def Bo:M Fl:=(ģ (Ļ 2 (Ŕ (Ĉ ŗ (Ĉ ĝ (Ĉ ĝ (ā 0) (mC (.int 1))) (mC (.int 0))) (Ĉ ĝ (Ĉ ĝ (ā 0) (mC (.int 0))) (mC (.int 0))))))
 (ģ (Ļ 3 (Ŕ (Ĉ ŗ (Ĉ ĝ (Ĉ ĝ (ā 0) (mC (.int 1))) (mC (.int 1))) (Ĉ ĝ (Ĉ ĝ (ā 0) (mC (.int 0))) (mC (.int 1))))))
 (ģ (Ļ 4 (Ĵ ı (Ĉ Ľ (ā 2) (Ĉ ŗ (Ĉ ĝ (ā 1) (mC (.int 0))) (Ĉ ĝ (Ĉ ĝ (ā 0) (mC (.int 0))) (mC (.int 0))))) (Ĉ Ľ (ā 3) (Ĉ ŗ (Ĉ ĝ (ā 1) (mC (.int 1))) (Ĉ ĝ (Ĉ ĝ (ā 0) (mC (.int 0))) (mC (.int 1)))))))
 (ĳ (ũ (ă (Ĉ ŗ (Ď (Ĵ ı (Ĉ Ľ (ā 2) (ā 2)) (Ĉ Ľ (ā 3) (ā 3)))) (ā 4)) (ă (ğ 4) Ě)))))))
noncomputable def sY:MF:=ň 2 5 Bo
noncomputable def vJ:M Fl:=(ģ (Ļ 4 (Đ sY (đ (Ď (ţ [0] 1 (Ŵ 3) (gN 1) œ (Ĉ ĝ (ā 0) (ā 1)))) (ą 1 č))))
 (dX (aG (Ď (Đ jT (ą 4 č))))
 (ĳ (Đ dU (ą 4 (ą 3 (ą 2 č)))))
 fK))
noncomputable def vK:M Fl:=(ģ (Ļ 4 (Đ Gk (đ (Ď (ţ [0] 1 (Ŵ 3) (gN 1) œ (Ĉ ĝ (ā 0) (ā 1)))) (ą 1 č))))
 (dX (aG (Ď (Đ jT (ą 4 č))))
 (ĳ (Đ dU (ą 4 (ą 3 (ą 2 č)))))
 fK))
noncomputable def pU:M Fl:=(ģ (Ļ 2 (Ŕ (b_ cO (ă (ā 0) Ě))))
 (ģ (fX (ū (Ď (Đ Gi (ą 2 č)))) (gN 3) vK)
 (ģ (fX (ū (Ď (Đ mF (ą 2 č)))) (gN 3) vJ)
 (ĳ (Đ dU (đ (Ď (ũ (ă (mC (.int 1)) Ě))) (đ (Ď (ũ (ă (mC (.int 0)) Ě))) (ą 2 č))))))))
noncomputable def mG:MF:=ň 2 5 pU
noncomputable def vL:M Fl:=(ģ (Ļ 2 (Đ pQ (ą 0 (ą 1 č))))
 (ģ (dX (j_ (Ĉ Fq (ā 2) (mC .non)))
 (ĳ (Ŕ (Ŗ (ă (mC (.str "in")) (ă (Ď (Đ mG (ą 0 (ą 1 č)))) Ě)))))
 fK)
 (ĳ (Ŕ (Ŗ (ă (mC (.str "out")) (ă (ğ 2) Ě)))))))
noncomputable def pW:MF:=ň 2 3 vL
noncomputable def Bp:M Fl:=(ĳ (Ŕ (Ŗ (ă (Ď (Ĵ ı (Ĉ Ľ (Ĉ ĝ (ā 1) (mC (.int 2))) (Ĉ ĝ (ā 0) (mC (.int 0)))) (Ĉ Ľ (Ĉ ĝ (ā 1) (mC (.int 0))) (Ĉ ĝ (ā 0) (mC (.int 2)))))) (ă (Ď (Ĵ ı (Ĉ Ľ (Ĉ ĝ (ā 1) (mC (.int 2))) (Ĉ ĝ (ā 0) (mC (.int 1)))) (Ĉ Ľ (Ĉ ĝ (ā 1) (mC (.int 1))) (Ĉ ĝ (ā 0) (mC (.int 2)))))) Ě)))))
noncomputable def iR:MF:=ň 2 2 Bp
noncomputable def Bq:M Fl:=(ĳ (ũ (ă (Ŗ (ă (ğ 0) (ă (ğ 1) (ă (ğ 4) Ě)))) (ă (Ŗ (ă (ğ 2) (ă (ğ 1) (ă (ğ 4) Ě)))) (ă (Ŗ (ă (ğ 2) (ă (ğ 3) (ă (ğ 4) Ě)))) (ă (Ŗ (ă (ğ 0) (ă (ğ 3) (ă (ğ 4) Ě)))) Ě))))))
noncomputable def iU:MF:=ň 5 5 Bq
noncomputable def Br:M Fl:=(ĳ (Ĵ ı (Ď (Đ iU (ą 0 (ą 1 (ą 2 (ą 3 (đ (mC (.int 0)) č))))))) (Ď (Đ iU (ą 0 (ą 1 (ą 2 (ą 3 (ą 4 č)))))))))
noncomputable def mH:MF:=ň 5 5 Br
noncomputable def Bs:M Fl:=(ģ (Ļ 1 (Ŕ (Ĉ Ľ (mC (.int 2)) (Ĉ ĝ (jZ (bN ["Thing","Post","Fence","Sail","Cloth","House"] "numbers") (ā 0)) (mC (.int 0))))))
 (ģ (Ļ 2 (Ŕ (Ĉ Ľ (mC (.int 2)) (Ĉ ĝ (jZ (bN ["Thing","Post","Fence","Sail","Cloth","House"] "numbers") (ā 0)) (mC (.int 1))))))
 (ĳ (Đ mH (đ (Ĉ ŗ (ā 1) (mC (.int 1))) (đ (Ĉ ŗ (ā 2) (mC (.int 1))) (đ (Ď (Ĵ ı (ā 1) (mC (.int 1)))) (đ (Ď (Ĵ ı (ā 2) (mC (.int 1)))) (đ (Ĉ ĝ (jZ (bN ["Thing","Post","Fence","Sail","Cloth","House"] "numbers") (ā 0)) (mC (.int 2))) č)))))))))
noncomputable def mJ:MF:=ň 1 3 Bs
noncomputable def Bt:M Fl:=(ģ (Ļ 1 (Ŕ (jZ (bN ["Thing","Post","Fence","Sail","Cloth","House"] "numbers") (ā 0))))
 (ģ (Ļ 2 (Ŕ (Ŗ (ă (Ĉ ĝ (ā 1) (mC (.int 0))) (ă (Ĉ ĝ (ā 1) (mC (.int 1))) Ě)))))
 (ģ (Ļ 3 (Ŕ (Ŗ (ă (Ĉ ĝ (ā 1) (mC (.int 2))) (ă (Ĉ ĝ (ā 1) (mC (.int 3))) Ě)))))
 (ĳ (ũ (ă (Ď (Ĵ ı (ā 2) (Ŗ (ă (mC (.int 0)) Ě)))) (ă (Ď (Ĵ ı (ā 3) (Ŗ (ă (mC (.int 0)) Ě)))) (ă (Ď (Ĵ ı (ā 3) (Ŗ (ă (Ĉ ĝ (ā 1) (mC (.int 4))) Ě)))) (ă (Ď (Ĵ ı (ā 2) (Ŗ (ă (Ĉ ĝ (ā 1) (mC (.int 4))) Ě)))) Ě)))))))))
noncomputable def mK:MF:=ň 1 4 Bt
noncomputable def Bu:M Fl:=(ģ (Ļ 1 (Ŕ (jZ (bN ["Thing","Post","Fence","Sail","Cloth","House"] "numbers") (ā 0))))
 (ĳ (Đ iU (đ (Ĉ ĝ (ā 1) (mC (.int 0))) (đ (Ĉ ĝ (ā 1) (mC (.int 1))) (đ (Ĉ ĝ (ā 1) (mC (.int 2))) (đ (Ĉ ĝ (ā 1) (mC (.int 3))) (đ (Ĉ ĝ (ā 1) (mC (.int 4))) č))))))))
noncomputable def mL:MF:=ň 1 2 Bu
noncomputable def Bv:M Fl:=(ĳ (ţ [0] 1 (ū (Ŗ (ă (mC (.int 0)) (ă (mC (.int 3)) (ă (mC (.int 6)) Ě))))) (gN 1) œ (b_ oR (ă (Ď (Fv (jZ (bN ["Thing","Post","Fence","Sail","Cloth","House"] "numbers") (ā 0)) (mP (ğ 1)) (mP (Ď (Ĵ ı (ā 1) (mC (.int 3))))))) Ě))))
noncomputable def mO:MF:=ň 1 1 Bv
noncomputable def Bw:M Fl:=(ģ (Ļ 1 (Ŕ (jZ (bN ["Thing","Post","Fence","Sail","Cloth","House"] "numbers") (ā 0))))
 (ĳ (Đ mH (đ (Ĉ ĝ (ā 1) (mC (.int 0))) (đ (Ĉ ĝ (ā 1) (mC (.int 1))) (đ (Ĉ ĝ (ā 1) (mC (.int 2))) (đ (Ĉ ĝ (ā 1) (mC (.int 3))) (đ (Ĉ ĝ (ā 1) (mC (.int 4))) č))))))))
noncomputable def mQ:MF:=ň 1 2 Bw
noncomputable def Bx:M Fl:=(ĳ (ţ [1] 1 (Gb (ū (Ď (oU "corners" [("Post",mJ),("Fence",mK),("Sail",mL),("Cloth",mO),("House",mQ)] (ğ 0) č)))) (gN 1) œ (Ď (Đ iR (ą 1 (ą 0 č))))))
noncomputable def sZ:MF:=ň 2 2 Bx
noncomputable def BJ:M Fl:=(ĳ (Đ iR (đ (Ŗ (ă (Ĉ Ľ (mC (.int 2)) (Ĉ ĝ (ā 0) (mC (.int 0)))) (ă (Ĉ Ľ (mC (.int 2)) (Ĉ ĝ (ā 0) (mC (.int 1)))) (ă (mC (.int 0)) Ě)))) (ą 1 č))))
noncomputable def tu:MF:=ň 2 2 BJ
noncomputable def BK:M Fl:=(ĳ (Đ pW (đ (Ď (Đ sZ (ą 0 (ą 2 č)))) (đ (Ď (Đ tu (ą 1 (ą 2 č)))) č))))
noncomputable def tD:MF:=ň 3 3 BK
noncomputable def vM:M Fl:=(ĳ (Ŕ (Ĉ aq (Ĉ ĝ (Ď (Đ tD (ą 0 (ą 1 (ą 2 č))))) (mC (.int 0))) (mC (.str "in")))))
noncomputable def mR:MF:=ň 3 3 vM
noncomputable def vN:M Fl:=(dX (aG (Ď (Đ mR (ą 3 (ą 2 (ą 1 č))))))
 (ĳ (Ŕ (mC (.bl true))))
 fK)
noncomputable def pX:M Fl:=(ģ (dX (j_ (Ĉ Fq (ā 1) (mC .non)))
 (ĳ (Ŕ (mC (.bl true))))
 fK)
 (ģ (fX (ū (jZ (bN ["Yard"] "things") (ā 0))) (gN 3) vN)
 (ĳ (Ŕ (mC (.bl false))))))
noncomputable def dW:MF:=ň 3 4 pX
noncomputable def pY:M Fl:=(ģ (oG (Ď (Đ iK (ą 0 (ą 2 č)))))
 (ģ (oG (Ď (Đ mz (ą 0 (ą 1 č)))))
 (ĳ (ţ [0,2] 2 (Gb (DG (mLs (Ď (Đ mD (ą 0 (ą 1 č))))))) (gT 2 (Ŀ (gN 2) (Ŀ (gN 3) bC))) (bB (aG (Ď (Đ dW (ą 0 (ą 3 (ą 1 č))))))) (ğ 2)))))
noncomputable def aW:MF:=ň 3 3 pY
noncomputable def vO:M Fl:=(dX (bB (aG (Ď (Đ dW (ą 0 (ą 4 (ą 1 č)))))))
 (ĳ (Ŕ (Ŗ (ă (ğ 2) (ă (ğ 3) Ě)))))
 fK)
noncomputable def vP:M Fl:=(fX (DG (mLs (Ď (Đ mD (ą 0 (ą 2 č)))))) (gT 2 (Ŀ (gN 3) (Ŀ (gN 4) bC))) vO)
noncomputable def pZ:M Fl:=(ģ (oG (Ď (Đ iK (ą 0 (ą 1 č)))))
 (ģ (fX (Ű Ÿ (ă (b_ cO (ă (jZ (bN ["Yard"] "days") (ā 0)) Ě)) Ě)) (gN 2) vP)
 (ĳ (Ŕ (mC .non)))))
noncomputable def cu:MF:=ň 2 5 pZ
noncomputable def vQ:M Fl:=(ģ (Ļ 4 (Ŕ (mC .non)))
 (ģ (Ss (dX (aG (ā 1))
 (oG (Ď (Đ aW (ą 0 (ą 2 (ą 3 č))))))
 (oG (Ď (Đ cu (ą 0 (ą 3 č)))))) (nM 5 ["YardError","NoNumber","BadThing","NoStone","NoTurn","BadRow","NoRow","NoDay"] [] (Ļ 4 (Ŕ (ğ 5))) wZ))
 (ĳ (fJ 4))))
noncomputable def bO:MF:=ň 4 6 vQ
noncomputable def vR:M Fl:=(dX (bB (aG (Ď (Đ iJ (đ (Ď (Đ bO (ą 5 (đ (mC (.bl true)) (ą 11 (ą 7 č)))))) (ą 7 č))))))
 (ĳ (Ŕ (mC (.bl false))))
 fK)
noncomputable def BL:M Fl:=(ģ (Ļ 1 (Đ dO (đ (Ď (Đ ő (ą 0 (đ (mC (.int 0)) č)))) (đ (mC (.int 9)) č))))
 (ģ (Ļ 2 (ţ [1] 1 (ū (Ď (Fv (ā 0) (mP (mC (.int 2))) (mP (mC (.int 4)))))) (gN 1) œ (Ď (Đ dR (ą 1 (đ (b_ iH (ă (ā 0) Ě)) č))))))
 (ģ (Ļ 3 (ţ [] 2 (Ŵ 2) (gT 2 (Ŀ (gN 0) (Ŀ (gN 1) bC))) œ (Ď (Đ cN (ą 0 (đ (Ď (oF dI (ă (ā 1) Ě))) č))))))
 (ģ (Ļ 4 (Đ lZ (ą 0 (đ (mC (.int 6)) (đ (Ĉ ń (Ď (Đ ő (ą 0 (đ (mC (.int 1)) č)))) (mC (.int 4))) (đ (mC (.int 4)) č))))))
 (ģ (Ļ 5 (Ŕ (cg "Yard" jO (đ (Ĉ ĝ (ā 1) (mC (.int 0))) (đ (Ĉ ĝ (ā 1) (mC (.int 1))) (ą 3 (ą 4 č)))))))
 (ģ (Ļ 6 (Ŕ (Ŗ (ă (Ĉ ń (Ď (Đ ő (ą 0 (đ (mC (.int 4)) č)))) (Ĉ ĝ (ā 1) (mC (.int 0)))) (ă (Ĉ ń (Ď (Đ ő (ą 0 (đ (mC (.int 5)) č)))) (Ĉ ĝ (ā 1) (mC (.int 1)))) Ě)))))
 (ģ (Ļ 7 (Đ cW (ą 1 (đ (Ď (Đ ő (ą 0 (đ (mC (.int 4)) č)))) č))))
 (ģ (Ļ 8 (Ŕ (Ĉ ń (Ĉ Ź (Ď (Đ ő (ą 0 (đ (mC (.int 5)) č)))) (mC (.int 3))) (Ĉ iz (mC (.int 10)) (mC (.int 12))))))
 (ģ (Ļ 9 (Ŕ (Ĉ ĝ (Ď (ũ (ă (b_ cO (ă (ā 4) Ě)) (ă (Ĉ ŗ (mC (.int 0)) (mC (.int 1))) (ă (Ď (Ĵ ı (b_ cO (ă (ā 4) Ě)) (ā 8))) (ă (Ĉ ŗ (Ĉ ŗ (mC (.int 0)) (mC (.int 1))) (ā 8)) Ě)))))) (Ĉ ń (Ď (Đ ő (ą 0 (đ (mC (.int 5)) č)))) (mC (.int 4))))))
 (ģ (Ļ 10 (Ĵ ı (Ď (ţ [5,6] 1 (Ű Ÿ (ă (b_ cO (ă (ā 4) Ě)) Ě)) (gN 2) œ (Ď (Đ aW (ą 0 (ą 2 (ą 1 č))))))) (Ď (ũ (ă (Ď (Đ cu (ą 5 (ą 6 č)))) Ě)))))
 (ģ (fX (ū (Ď (Ĵ ı (Ď (ũ (Ű Ÿ (ă (b_ cO (ă (ā 4) Ě)) Ě)))) (Ď (ũ (ă (ğ 9) Ě)))))) (gN 11) vR)
 (ģ (dX (bB (aG (Ď (Đ iJ (đ (Ď (Đ bO (ą 5 (đ (mC (.bl false)) (đ (mC (.int 0)) (ą 7 č)))))) (ą 7 č))))))
 (ĳ (Ŕ (mC (.bl false))))
 fK)
 (ģ (dX (bB (aG (Ď (Đ mq (đ (Ď (Đ bO (ą 5 (đ (mC (.bl true)) (ą 9 (ą 6 č)))))) (ą 9 č))))))
 (ĳ (Ŕ (mC (.bl false))))
 fK)
 (ĳ (Ŕ (Ĉ aq (Ď (Ĵ ı (Ď (ţ [5,6] 1 (Ű Ÿ (ă (b_ cO (ă (ā 4) Ě)) Ě)) (gN 2) œ (Ď (Đ aW (ą 0 (ą 2 (ą 1 č))))))) (Ď (ũ (ă (Ď (Đ cu (ą 5 (ą 6 č)))) Ě))))) (ā 10)))))))))))))))))
noncomputable def qb:MF:=ň 1 12 BL
set_option genInjectivity false
set_option genSizeOf false
structure Adr where
 JR:Addr
 JT:FuncData
 JV:Addr
 JW:FuncData
 JX:Addr
 JZ:FuncData
 J_:Addr
 Ka:FuncData
 Kc:Addr
 Kd:FuncData
 Ke:Addr
 Kf:FuncData
 Kg:Addr
 Kh:FuncData
 Kl:Addr
 Km:FuncData
 Ko:Addr
 Kp:FuncData
 Kq:Addr
 Kr:FuncData
 Ks:Addr
 Ku:FuncData
 Kv:Addr
 Kw:FuncData
 Ky:Addr
 Kz:FuncData
 nq:Addr
 BP:FuncData
 KC:Addr
 KD:FuncData
 KH:Addr
 KJ:FuncData
 YQ:Addr
 YT:FuncData
 YW:Addr
 YX:FuncData
 KN:Addr
 KQ:FuncData
 KR:Addr
 KY:FuncData
 KZ:Addr
 K_:FuncData
 La:Addr
 Lb:FuncData
 Ld:Addr
 Le:FuncData
 Lf:Addr
 Lg:FuncData
 Li:Addr
 Lj:FuncData
 Lk:Addr
 Lp:FuncData
 Lq:Addr
 Lr:FuncData
 Ls:Addr
 Lw:FuncData
 Lx:Addr
 Ly:FuncData
 Lz:Addr
 LC:FuncData
 LQ:Addr
 LR:FuncData
 L_:Addr
 Ma:FuncData
 Mf:Addr
 Mg:FuncData
 Mh:Addr
 Mi:FuncData
 Mj:Addr
 Ml:FuncData
 YZ:Addr
 Y_:FuncData
 Z_:Addr
 Zaa:FuncData
 Mp:Addr
 Mq:FuncData
 Mr:Addr
 Ms:FuncData
 Mt:Addr
 Mu:FuncData
 Zab:Addr
 Zac:FuncData
 Mv:Addr
 Mw:FuncData
 Mx:Addr
 Mz:FuncData
 MJ:Addr
 MK:FuncData
 MN:Addr
 MP:FuncData
 M_:Addr
 Nb:FuncData
 Nf:Addr
 Ng:FuncData
 Nh:Addr
 Ni:FuncData
 Nj:Addr
 Nk:FuncData
 Nm:Addr
 Np:FuncData
 Nq:Addr
 Nr:FuncData
 Nt:Addr
 Nu:FuncData
 Nv:Addr
 Nx:FuncData
 Ny:Addr
 Nz:FuncData
 NK:Addr
 NP:FuncData
 NQ:Addr
 NT:FuncData
 NZ:Addr
 N_:FuncData
 Oa:Addr
 Ob:FuncData
 Oc:Addr
 Od:FuncData
 Oe:Addr
 Og:FuncData
 Oh:Addr
 Oi:FuncData
 Oj:Addr
 Ol:FuncData
 Zad:Addr
 Zae:FuncData
 Zaf:Addr
 Zag:FuncData
 Zd0:Addr
 Zd1:FuncData
 Zd2:Addr
 Zd3:FuncData
 zy:Addr
 BR:Addr
 BW:Addr
 Gm:Addr
 Om:Addr
 Oo:Addr
 Tq:Addr
 Tr:Addr
 Zah:Addr
 Tt:Addr
 Zai:Addr
 Tw:Addr
 Zaj:Addr
 Tz:Addr
 TF:Addr
 qJ:Tok
 vU:Tok
def ħ(a:Adr):String→Addr:=aD a.zy a.BR a.BW a.Gm a.Om a.Oo a.Tq a.Tr a.Zah a.Tt a.Zai a.Tw a.Zaj a.Tz a.TF
structure Tx(K:PySem.W.Frag)(mg:Str→Option Value)(a:Adr):Prop where
 Vd:ź K "_law_size" "_law_size" xW a.JR a.JT
 dO:mg "_law_size" =some (.ref a.JR)
 Zd4:Binds K a.JT ["_law_cell","_law_most"] []
 iV:ź K "_law_at" "_law_at" xX a.JV a.JW
 ő:mg "_law_at" =some (.ref a.JV)
 jU:Binds K a.JW ["_law_script","_law_k"] []
 Oq:ź K "_law_grains" "_law_grains" xY a.JX a.JZ
 iI:mg "_law_grains" =some (.ref a.JX)
 Ve:Binds K a.JZ ["_law_cell","_law_many"] []
 Vf:ź K "_law_sky" "_law_sky" xZ a.J_ a.Ka
 jN:mg "_law_sky" =some (.ref a.J_)
 Zd5:Binds K a.Ka ["_law_xs"] []
 Vg:ź K "_law_days" "_law_days" rQ a.Kc a.Kd
 lZ:mg "_law_days" =some (.ref a.Kc)
 Zd6:Binds K a.Kd ["_law_script","_law_start","_law_many","_law_long"] []
 Zd7:ź K "__init__" "Yard.__init__" rT a.Ke a.Kf
 Zd8:Binds K a.Kf ["self","width","height","things","days"] []
 Vh:ź K "_law_beside" "_law_beside" yc a.Kg a.Kh
 cW:mg "_law_beside" =some (.ref a.Kg)
 Zd9:Binds K a.Kh ["_law_size_here","_law_cell"] []
 Ot:ź K "_law_height" "_law_height" yg a.Kl a.Km
 jP:mg "_law_height" =some (.ref a.Kl)
 Vi:Binds K a.Km ["_law_number"] []
 tE:ź K "_law_place" "_law_place" yj a.Ko a.Kp
 cj:mg "_law_place" =some (.ref a.Ko)
 zA:Binds K a.Kp ["_law_number","_law_wide"] []
 Vj:ź K "_law_thing" "_law_thing" rW a.Kq a.Kr
 dR:mg "_law_thing" =some (.ref a.Kq)
 Zd_:Binds K a.Kr ["_law_cell","_law_wide"] []
 tH:ź K "is_place" "is_place" yq a.Ks a.Ku
 cX:mg "is_place" =some (.ref a.Ks)
 zB:Binds K a.Ku ["number"] []
 Ou:ź K "is_height" "is_height" yr a.Kv a.Kw
 mj:mg "is_height" =some (.ref a.Kv)
 Vk:Binds K a.Kw ["number"] []
 Vl:ź K "makes_post" "makes_post" yu a.Ky a.Kz
 pI:mg "makes_post" =some (.ref a.Ky)
 Zea:Binds K a.Kz ["numbers"] []
 Ov:ź K "__init__" "Thing.__init__" JB a.nq a.BP
 Ow:Binds K a.BP ["self","word","numbers"] []
 Ox:ź K "has_two_ends" "has_two_ends" rY a.KC a.KD
 jQ:mg "has_two_ends" =some (.ref a.KC)
 Vm:Binds K a.KD ["numbers"] []
 Vn:ź K "makes_fence" "makes_fence" yx a.KH a.KJ
 pN:mg "makes_fence" =some (.ref a.KH)
 Zeb:Binds K a.KJ ["numbers"] []
 Zak:ź K "makes_sail_or_house" "makes_sail_or_house" JC a.YQ a.YT
 vo:mg "makes_sail_or_house" =some (.ref a.YQ)
 Zec:Binds K a.YT ["numbers"] []
 Zed:ź K "is_cloth_corner" "is_cloth_corner" JD a.YW a.YX
 Gh:mg "is_cloth_corner" =some (.ref a.YW)
 Zl1:Binds K a.YX ["numbers"] []
 Vo:ź K "makes_cloth" "makes_cloth" rZ a.KN a.KQ
 pO:mg "makes_cloth" =some (.ref a.KN)
 Zee:Binds K a.KQ ["numbers"] []
 Vp:ź K "thing_of" "thing_of" yC a.KR a.KY
 cN:mg "thing_of" =some (.ref a.KR)
 Zef:Binds K a.KY ["word","numbers"] []
 Oz:ź K "_law_no_stone" "_law_no_stone" yD a.KZ a.K_
 iJ:mg "_law_no_stone" =some (.ref a.KZ)
 Vq:Binds K a.K_ ["_law_caught","_law_stone"] []
 Vr:ź K "_law_no_turn" "_law_no_turn" yE a.La a.Lb
 mq:mg "_law_no_turn" =some (.ref a.La)
 Zeg:Binds K a.Lb ["_law_caught","_law_day"] []
 Vs:ź K "has_stone" "has_stone" yF a.Ld a.Le
 gK:mg "has_stone" =some (.ref a.Ld)
 Zeh:Binds K a.Le ["yard","stone"] []
 OD:ź K "check_stone" "check_stone" yG a.Lf a.Lg
 iK:mg "check_stone" =some (.ref a.Lf)
 Vt:Binds K a.Lg ["yard","stone"] []
 Vu:ź K "has_day" "has_day" yH a.Li a.Lj
 jR:mg "has_day" =some (.ref a.Li)
 Zei:Binds K a.Lj ["yard","day"] []
 Vv:ź K "check_day" "check_day" yI a.Lk a.Lp
 mz:mg "check_day" =some (.ref a.Lk)
 Zej:Binds K a.Lp ["yard","day"] []
 OJ:ź K "turns_of" "turns_of" yJ a.Lq a.Lr
 mD:mg "turns_of" =some (.ref a.Lq)
 Vw:Binds K a.Lr ["yard","day"] []
 Vx:ź K "box_lines" "box_lines" pG a.Ls a.Lw
 sS:mg "box_lines" =some (.ref a.Ls)
 Zek:Binds K a.Lw ["points"] []
 Vy:ź K "each_once" "each_once" yK a.Lx a.Ly
 sU:mg "each_once" =some (.ref a.Lx)
 Zel:Binds K a.Ly ["points"] []
 Vz:ź K "line_through" "line_through" yL a.Lz a.LC
 sV:mg "line_through" =some (.ref a.Lz)
 Zem:Binds K a.LC ["one","other"] []
 O_:ź K "holds" "holds" yM a.LQ a.LR
 iM:mg "holds" =some (.ref a.LQ)
 VB:Binds K a.LR ["line","pair"] []
 VD:ź K "edge_lines" "edge_lines" su a.L_ a.Ma
 sW:mg "edge_lines" =some (.ref a.L_)
 Zen:Binds K a.Ma ["points"] []
 VF:ź K "lines_about" "lines_about" yN a.Mf a.Mg
 sX:mg "lines_about" =some (.ref a.Mf)
 Zeo:Binds K a.Mg ["points"] []
 VG:ź K "parting_line" "parting_line" yO a.Mh a.Mi
 pQ:mg "parting_line" =some (.ref a.Mh)
 Zep:Binds K a.Mi ["points","point"] []
 Pa:ź K "pairs_below" "pairs_below" sy a.Mj a.Ml
 mF:mg "pairs_below" =some (.ref a.Mj)
 VH:Binds K a.Ml ["many"] []
 Zeq:ź K "triples_below" "triples_below" Gg a.YZ a.Y_
 Gi:mg "triples_below" =some (.ref a.YZ)
 Zl2:Binds K a.Y_ ["many"] []
 Zer:ź K "greatest_divisor" "greatest_divisor" JF a.Z_ a.Zaa
 Gj:mg "greatest_divisor" =some (.ref a.Z_)
 Zl3:Binds K a.Zaa ["one","other"] []
 Pb:ź K "ratio" "ratio" yP a.Mp a.Mq
 gM:mg "ratio" =some (.ref a.Mp)
 VJ:Binds K a.Mq ["top","bottom"] []
 DY:ź K "spread" "spread" sE a.Mr a.Ms
 dU:mg "spread" =some (.ref a.Mr)
 Pg:Binds K a.Ms ["shares","places","many"] []
 D_:ź K "turned" "turned" yQ a.Mt a.Mu
 iQ:mg "turned" =some (.ref a.Mt)
 Ph:Binds K a.Mu ["one","other","third"] []
 Zes:ź K "shares_of_three" "shares_of_three" JG a.Zab a.Zac
 Gk:mg "shares_of_three" =some (.ref a.Zab)
 Zl4:Binds K a.Zac ["corners","point"] []
 Pj:ź K "are_weights" "are_weights" sG a.Mv a.Mw
 jT:mg "are_weights" =some (.ref a.Mv)
 VL:Binds K a.Mw ["shares"] []
 VN:ź K "shares_of_two" "shares_of_two" yR a.Mx a.Mz
 sY:mg "shares_of_two" =some (.ref a.Mx)
 Zet:Binds K a.Mz ["ends","point"] []
 VP:ź K "weights_of" "weights_of" pH a.MJ a.MK
 mG:mg "weights_of" =some (.ref a.MJ)
 Zeu:Binds K a.MK ["points","point"] []
 VR:ź K "held" "held" yS a.MN a.MP
 pW:mg "held" =some (.ref a.MN)
 Zev:Binds K a.MP ["points","point"] []
 Pk:ź K "cast" "cast" yU a.M_ a.Nb
 iR:mg "cast" =some (.ref a.M_)
 V_:Binds K a.Nb ["point","ray"] []
 Ea:ź K "level_corners" "level_corners" yV a.Nf a.Ng
 iU:mg "level_corners" =some (.ref a.Nf)
 Pn:Binds K a.Ng ["x","y","u","v","z"] []
 Pq:ź K "block_corners" "block_corners" yW a.Nh a.Ni
 mH:mg "block_corners" =some (.ref a.Nh)
 Wa:Binds K a.Ni ["x","y","u","v","h"] []
 Zew:ź K "corners" "Post.corners" yX a.Nj a.Nk
 Zex:Binds K a.Nk ["self"] []
 Zey:ź K "corners" "Fence.corners" yZ a.Nm a.Np
 Zez:Binds K a.Np ["self"] []
 ZeA:ź K "corners" "Sail.corners" za a.Nq a.Nr
 ZeB:Binds K a.Nr ["self"] []
 ZeC:ź K "corners" "Cloth.corners" sI a.Nt a.Nu
 ZeD:Binds K a.Nu ["self"] []
 ZeE:ź K "corners" "House.corners" zc a.Nv a.Nx
 ZeF:Binds K a.Nx ["self"] []
 Wb:ź K "corner_casts" "corner_casts" sJ a.Ny a.Nz
 sZ:mg "corner_casts" =some (.ref a.Ny)
 ZeG:Binds K a.Nz ["thing","ray"] []
 Wc:ź K "stone_cast" "stone_cast" zf a.NK a.NP
 tu:mg "stone_cast" =some (.ref a.NK)
 ZeH:Binds K a.NP ["stone","ray"] []
 Wd:ź K "shading" "shading" zj a.NQ a.NT
 tD:mg "shading" =some (.ref a.NQ)
 ZeI:Binds K a.NT ["thing","stone","ray"] []
 Wf:ź K "shades" "shades" zm a.NZ a.N_
 mR:mg "shades" =some (.ref a.NZ)
 ZeJ:Binds K a.N_ ["thing","stone","ray"] []
 Pr:ź K "is_dark" "is_dark" zp a.Oa a.Ob
 dW:mg "is_dark" =some (.ref a.Oa)
 Wg:Binds K a.Ob ["yard","turn","stone"] []
 Eb:ź K "lit_turns" "lit_turns" sO a.Oc a.Od
 aW:mg "lit_turns" =some (.ref a.Oc)
 Pu:Binds K a.Od ["yard","day","stone"] []
 Ec:ź K "first_lit" "first_lit" zq a.Oe a.Og
 cu:mg "first_lit" =some (.ref a.Oe)
 Px:Binds K a.Og ["yard","stone"] []
 Ed:ź K "_law_refused" "_law_refused" zu a.Oh a.Oi
 bO:mg "_law_refused" =some (.ref a.Oh)
 Py:Binds K a.Oi ["_law_yard","_law_of_day","_law_day","_law_stone"] []
 ZeK:ź K "law" "law" fO a.Oj a.Ol
 qb:mg "law" =some (.ref a.Oj)
 Zo6:Binds K a.Ol ["_law_script"] []
 Zl5:ź K "__init__" "NoStone.__init__" JH a.Zad a.Zae
 Zl6:Binds K a.Zae ["self","stone"] []
 Zl7:ź K "__init__" "NoTurn.__init__" JK a.Zaf a.Zag
 Zl8:Binds K a.Zag ["self","day","turn"] []
 Zo_:ź K "__init__" "BadRow.__init__" Tn a.Zd0 a.Zd1
 Zpa:Binds K a.Zd1 ["self","row"] []
 Zpb:ź K "__init__" "NoDay.__init__" Tp a.Zd2 a.Zd3
 Zpc:Binds K a.Zd3 ["self","name"] []
 zE:mg "YardError" =some (.ref (ħ a "YardError"))
 jr:mg "NoNumber" =some (.ref (ħ a "NoNumber"))
 jt:mg "BadThing" =some (.ref (ħ a "BadThing"))
 lM:mg "NoStone" =some (.ref (ħ a "NoStone"))
 qd:mg "NoTurn" =some (.ref (ħ a "NoTurn"))
 zF:mg "BadRow" =some (.ref (ħ a "BadRow"))
 Ef:mg "NoRow" =some (.ref (ħ a "NoRow"))
 Eh:mg "NoDay" =some (.ref (ħ a "NoDay"))
 Zal:mg "Yard" =some (.ref (ħ a "Yard"))
 Zj5:mg "Thing" =some (.ref (ħ a "Thing"))
 Zam:mg "Post" =some (.ref (ħ a "Post"))
 TJ:mg "Fence" =some (.ref (ħ a "Fence"))
 Zan:mg "Sail" =some (.ref (ħ a "Sail"))
 TQ:mg "Cloth" =some (.ref (ħ a "Cloth"))
 TX:mg "House" =some (.ref (ħ a "House"))
 Wh:PySem.W.excIn K (ħ a "YardError") wu IW=true
 Wi:PySem.W.keepIn K (.ref (ħ a "YardError"))=true
 Wj:ŕ K (ħ a "YardError")=true
 BX:PySem.W.excIn K (ħ a "NoNumber") wu IW=true
 Zao:PySem.W.keepIn K (.ref (ħ a "NoNumber"))=true
 Zap:ŕ K (ħ a "NoNumber")=true
 BZ:PySem.W.excIn K (ħ a "BadThing") wu IW=true
 Zaq:PySem.W.keepIn K (.ref (ħ a "BadThing"))=true
 Zar:ŕ K (ħ a "BadThing")=true
 Gn:Yz K (ħ a "NoStone") a.Zad
 lN:ŕ K (ħ a "NoStone")=true
 bW:ľ K (ħ a "NoStone") "stone"
 Pz:Yz K (ħ a "NoTurn") a.Zaf
 gO:ŕ K (ħ a "NoTurn")=true
 fC:ľ K (ħ a "NoTurn") "day"
 iW:ľ K (ħ a "NoTurn") "turn"
 ZeL:Yz K (ħ a "BadRow") a.Zd0
 ZeM:ŕ K (ħ a "BadRow")=true
 TY:ľ K (ħ a "BadRow") "row"
 Zj6:PySem.W.excIn K (ħ a "NoRow") wu IW=true
 Zj7:PySem.W.keepIn K (.ref (ħ a "NoRow"))=true
 Zj8:ŕ K (ħ a "NoRow")=true
 Zj9:Yz K (ħ a "NoDay") a.Zd2
 Zj_:ŕ K (ħ a "NoDay")=true
 T_:ľ K (ħ a "NoDay") "name"
 dj:Cls K (ħ a "Yard")
 Zas:Mk K (ħ a "Yard") a.Ke
 jV:ľ K (ħ a "Yard") "width"
 iY:ľ K (ħ a "Yard") "height"
 iZ:ľ K (ħ a "Yard") "things"
 cY:ľ K (ħ a "Yard") "days"
 Ť:Cls K (ħ a "Thing")
 Zka:Mk K (ħ a "Thing") a.nq
 aX:ľ K (ħ a "Thing") "word"
 Ķ:ľ K (ħ a "Thing") "numbers"
 ŵ:Cls K (ħ a "Post")
 Zat:Mk K (ħ a "Post") a.nq
 bQ:ľ K (ħ a "Post") "word"
 ŀ:ľ K (ħ a "Post") "numbers"
 qe:Meth K (ħ a "Post") "corners" a.Nj
 ś:Cls K (ħ a "Fence")
 Ua:Mk K (ħ a "Fence") a.nq
 aY:ľ K (ħ a "Fence") "word"
 ķ:ľ K (ħ a "Fence") "numbers"
 nu:Meth K (ħ a "Fence") "corners" a.Nm
 Ŷ:Cls K (ħ a "Sail")
 Zau:Mk K (ħ a "Sail") a.nq
 bR:ľ K (ħ a "Sail") "word"
 Ł:ľ K (ħ a "Sail") "numbers"
 qg:Meth K (ħ a "Sail") "corners" a.Nq
 Ŝ:Cls K (ħ a "Cloth")
 Ub:Mk K (ħ a "Cloth") a.nq
 aZ:ľ K (ħ a "Cloth") "word"
 ĸ:ľ K (ħ a "Cloth") "numbers"
 nA:Meth K (ħ a "Cloth") "corners" a.Nt
 ŝ:Cls K (ħ a "House")
 Uc:Mk K (ħ a "House") a.nq
 bf:ľ K (ħ a "House") "word"
 Ĺ:ľ K (ħ a "House") "numbers"
 nC:Meth K (ħ a "House") "corners" a.Nv
 zG:PySem.W.mroIn K (ħ a "YardError") (.type "BaseException")=some true
 vV:eZ (fun c=>PySem.W.kitCls K (.ref (ħ a c)) (.ref (ħ a "YardError"))=some true) ["YardError","NoNumber","BadThing","NoStone","NoTurn","BadRow","NoRow","NoDay"]
 vW:eZ (fun c=>PySem.W.kitCls K (.ref (ħ a c)) (.ref (ħ a "YardError"))=some false) []
 iC:m_ (fun C D b=>aV K (ħ a C)=true∧PySem.W.kitOne K (.ref (ħ a C)) (.ref (ħ a D))=some b) Z5
 iT:m_ (fun C D b=>aV K (ħ a C)=true∧PySem.W.kitOne K (.ref (ħ a C)) (.type D)=some b) Z7
 iD:eZ (fun D=>PySem.W.kitOne K (.type "NoneType") (.ref (ħ a D))=some false) Zb
 iN:eZ (fun D=>PySem.W.kitOne K (.type "NoneType") (.type D)=some false) Zc
 i_:mg "MOST_HEIGHT" =some (.int (1000000000) a.qJ)
 jW:mg "MOST_PLACE" =some (.int (1000000000) a.vU)
 jX:mg "ValueError" =none
 ZeN:mg "abs" =none
 Ei:mg "all" =none
 Zav:mg "bool" =none
 mV:mg "enumerate" =none
 ZeO:mg "int" =none
 ō:mg "isinstance" =none
 fQ:mg "len" =none
 fG:mg "list" =none
 zH:mg "max" =none
 Ej:mg "min" =none
 aH:mg "range" =none
 Wk:mg "sum" =none
 Ek:mg "tuple" =none
 ZeP:mg "zip" =none
theorem PJ:Ė ["_law_cell","_law_most","_law_width"] ["_law_cell","_law_most"] (ĉ xW):=⟨rfl,rfl,rfl,by decide +kernel,rfl,by decide +kernel,by decide +kernel⟩
theorem Zaw:Ė ["_law_script","_law_k"] ["_law_script","_law_k"] (ĉ xX):=⟨rfl,rfl,rfl,by decide +kernel,rfl,by decide +kernel,by decide +kernel⟩
theorem ju:Ė ["_law_cell","_law_many","_law_found","_law_number","_law_k"] ["_law_cell","_law_many"] (ĉ xY):=⟨rfl,rfl,rfl,by decide +kernel,rfl,by decide +kernel,by decide +kernel⟩
theorem PK:Ė ["_law_xs","_law_scale"] ["_law_xs"] (ĉ xZ):=⟨rfl,rfl,rfl,by decide +kernel,rfl,by decide +kernel,by decide +kernel⟩
theorem gP:Ė ["_law_script","_law_start","_law_many","_law_long","_law_names","_law_turned","_law_days_here","_law_k","_law_xs","_law_turns"] ["_law_script","_law_start","_law_many","_law_long"] (ĉ rQ):=⟨rfl,rfl,rfl,by decide +kernel,rfl,by decide +kernel,by decide +kernel⟩
theorem Zax:Ė ["self","width","height","things","days"] ["self","width","height","things","days"] (ĉ rT):=⟨rfl,rfl,rfl,by decide +kernel,rfl,by decide +kernel,by decide +kernel⟩
theorem vX:Ė ["_law_size_here","_law_cell","_law_good","_law_side","_law_far"] ["_law_size_here","_law_cell"] (ĉ yc):=⟨rfl,rfl,rfl,by decide +kernel,rfl,by decide +kernel,by decide +kernel⟩
theorem Zay:Ė ["_law_number"] ["_law_number"] (ĉ yg):=⟨rfl,rfl,rfl,by decide +kernel,rfl,by decide +kernel,by decide +kernel⟩
theorem Zaz:Ė ["_law_number","_law_wide"] ["_law_number","_law_wide"] (ĉ yj):=⟨rfl,rfl,rfl,by decide +kernel,rfl,by decide +kernel,by decide +kernel⟩
theorem gQ:Ė ["_law_cell","_law_wide","_law_xs","_law_h","_law_kind","_law_x","_law_y","_law_u","_law_v"] ["_law_cell","_law_wide"] (ĉ rW):=⟨rfl,rfl,rfl,by decide +kernel,rfl,by decide +kernel,by decide +kernel⟩
theorem ZaA:Ė ["number"] ["number"] (ĉ yq):=⟨rfl,rfl,rfl,by decide +kernel,rfl,by decide +kernel,by decide +kernel⟩
theorem ZaB:Ė ["number"] ["number"] (ĉ yr):=⟨rfl,rfl,rfl,by decide +kernel,rfl,by decide +kernel,by decide +kernel⟩
theorem ZaC:Ė ["numbers"] ["numbers"] (ĉ yu):=⟨rfl,rfl,rfl,by decide +kernel,rfl,by decide +kernel,by decide +kernel⟩
theorem zJ:Ė ["self","word","numbers"] ["self","word","numbers"] (ĉ JB):=⟨rfl,rfl,rfl,by decide +kernel,rfl,by decide +kernel,by decide +kernel⟩
theorem ZaD:Ė ["numbers"] ["numbers"] (ĉ rY):=⟨rfl,rfl,rfl,by decide +kernel,rfl,by decide +kernel,by decide +kernel⟩
theorem ZaE:Ė ["numbers"] ["numbers"] (ĉ yx):=⟨rfl,rfl,rfl,by decide +kernel,rfl,by decide +kernel,by decide +kernel⟩
theorem ZeQ:Ė ["numbers"] ["numbers"] (ĉ JC):=⟨rfl,rfl,rfl,by decide +kernel,rfl,by decide +kernel,by decide +kernel⟩
theorem ZeR:Ė ["numbers"] ["numbers"] (ĉ JD):=⟨rfl,rfl,rfl,by decide +kernel,rfl,by decide +kernel,by decide +kernel⟩
theorem ZaF:Ė ["numbers"] ["numbers"] (ĉ rZ):=⟨rfl,rfl,rfl,by decide +kernel,rfl,by decide +kernel,by decide +kernel⟩
theorem ZaG:Ė ["word","numbers"] ["word","numbers"] (ĉ yC):=⟨rfl,rfl,rfl,by decide +kernel,rfl,by decide +kernel,by decide +kernel⟩
theorem ZaH:Ė ["_law_caught","_law_stone"] ["_law_caught","_law_stone"] (ĉ yD):=⟨rfl,rfl,rfl,by decide +kernel,rfl,by decide +kernel,by decide +kernel⟩
theorem ZaI:Ė ["_law_caught","_law_day"] ["_law_caught","_law_day"] (ĉ yE):=⟨rfl,rfl,rfl,by decide +kernel,rfl,by decide +kernel,by decide +kernel⟩
theorem ZaJ:Ė ["yard","stone"] ["yard","stone"] (ĉ yF):=⟨rfl,rfl,rfl,by decide +kernel,rfl,by decide +kernel,by decide +kernel⟩
theorem ZaK:Ė ["yard","stone"] ["yard","stone"] (ĉ yG):=⟨rfl,rfl,rfl,by decide +kernel,rfl,by decide +kernel,by decide +kernel⟩
theorem ZaL:Ė ["yard","day"] ["yard","day"] (ĉ yH):=⟨rfl,rfl,rfl,by decide +kernel,rfl,by decide +kernel,by decide +kernel⟩
theorem ZaM:Ė ["yard","day"] ["yard","day"] (ĉ yI):=⟨rfl,rfl,rfl,by decide +kernel,rfl,by decide +kernel,by decide +kernel⟩
theorem ZaN:Ė ["yard","day"] ["yard","day"] (ĉ yJ):=⟨rfl,rfl,rfl,by decide +kernel,rfl,by decide +kernel,by decide +kernel⟩
theorem B_:Ė ["points","rights","downs"] ["points"] (ĉ pG):=⟨rfl,rfl,rfl,by decide +kernel,rfl,by decide +kernel,by decide +kernel⟩
theorem Cd:Ė ["points","kept","point"] ["points"] (ĉ yK):=⟨rfl,rfl,rfl,by decide +kernel,rfl,by decide +kernel,by decide +kernel⟩
theorem Ce:Ė ["one","other","l","m"] ["one","other"] (ĉ yL):=⟨rfl,rfl,rfl,by decide +kernel,rfl,by decide +kernel,by decide +kernel⟩
theorem ZaO:Ė ["line","pair"] ["line","pair"] (ĉ yM):=⟨rfl,rfl,rfl,by decide +kernel,rfl,by decide +kernel,by decide +kernel⟩
theorem lO:Ė ["points","lines","apart","one","other","line"] ["points"] (ĉ su):=⟨rfl,rfl,rfl,by decide +kernel,rfl,by decide +kernel,by decide +kernel⟩
theorem ZaP:Ė ["points"] ["points"] (ĉ yN):=⟨rfl,rfl,rfl,by decide +kernel,rfl,by decide +kernel,by decide +kernel⟩
theorem PL:Ė ["points","point","line"] ["points","point"] (ĉ yO):=⟨rfl,rfl,rfl,by decide +kernel,rfl,by decide +kernel,by decide +kernel⟩
theorem Cg:Ė ["many","pairs","second"] ["many"] (ĉ sy):=⟨rfl,rfl,rfl,by decide +kernel,rfl,by decide +kernel,by decide +kernel⟩
theorem PN:Ė ["many","triples","third"] ["many"] (ĉ Gg):=⟨rfl,rfl,rfl,by decide +kernel,rfl,by decide +kernel,by decide +kernel⟩
theorem El:Ė ["one","other","rest"] ["one","other"] (ĉ JF):=⟨rfl,rfl,rfl,by decide +kernel,rfl,by decide +kernel,by decide +kernel⟩
theorem Ci:Ė ["top","bottom","divisor"] ["top","bottom"] (ĉ yP):=⟨rfl,rfl,rfl,by decide +kernel,rfl,by decide +kernel,by decide +kernel⟩
theorem qj:Ė ["shares","places","many","whole","weights","share","place"] ["shares","places","many"] (ĉ sE):=⟨rfl,rfl,rfl,by decide +kernel,rfl,by decide +kernel,by decide +kernel⟩
theorem P_:Ė ["one","other","third","right"] ["one","other","third"] (ĉ yQ):=⟨rfl,rfl,rfl,by decide +kernel,rfl,by decide +kernel,by decide +kernel⟩
theorem Em:Ė ["corners","point","one","other","third"] ["corners","point"] (ĉ JG):=⟨rfl,rfl,rfl,by decide +kernel,rfl,by decide +kernel,by decide +kernel⟩
theorem Qa:Ė ["shares","whole"] ["shares"] (ĉ sG):=⟨rfl,rfl,rfl,by decide +kernel,rfl,by decide +kernel,by decide +kernel⟩
theorem vY:Ė ["ends","point","right","down","gone"] ["ends","point"] (ĉ yR):=⟨rfl,rfl,rfl,by decide +kernel,rfl,by decide +kernel,by decide +kernel⟩
theorem lQ:Ė ["points","point","many","places","shares"] ["points","point"] (ĉ pH):=⟨rfl,rfl,rfl,by decide +kernel,rfl,by decide +kernel,by decide +kernel⟩
theorem Qc:Ė ["points","point","line"] ["points","point"] (ĉ yS):=⟨rfl,rfl,rfl,by decide +kernel,rfl,by decide +kernel,by decide +kernel⟩
theorem ZaQ:Ė ["point","ray"] ["point","ray"] (ĉ yU):=⟨rfl,rfl,rfl,by decide +kernel,rfl,by decide +kernel,by decide +kernel⟩
theorem ZaR:Ė ["x","y","u","v","z"] ["x","y","u","v","z"] (ĉ yV):=⟨rfl,rfl,rfl,by decide +kernel,rfl,by decide +kernel,by decide +kernel⟩
theorem ZaS:Ė ["x","y","u","v","h"] ["x","y","u","v","h"] (ĉ yW):=⟨rfl,rfl,rfl,by decide +kernel,rfl,by decide +kernel,by decide +kernel⟩
theorem Cj:Ė ["self","right","down"] ["self"] (ĉ yX):=⟨rfl,rfl,rfl,by decide +kernel,rfl,by decide +kernel,by decide +kernel⟩
theorem vZ:Ė ["self","given","one","other"] ["self"] (ĉ yZ):=⟨rfl,rfl,rfl,by decide +kernel,rfl,by decide +kernel,by decide +kernel⟩
theorem Qd:Ė ["self","given"] ["self"] (ĉ za):=⟨rfl,rfl,rfl,by decide +kernel,rfl,by decide +kernel,by decide +kernel⟩
theorem ZaT:Ė ["self"] ["self"] (ĉ sI):=⟨rfl,rfl,rfl,by decide +kernel,rfl,by decide +kernel,by decide +kernel⟩
theorem Qe:Ė ["self","given"] ["self"] (ĉ zc):=⟨rfl,rfl,rfl,by decide +kernel,rfl,by decide +kernel,by decide +kernel⟩
theorem ZaU:Ė ["thing","ray"] ["thing","ray"] (ĉ sJ):=⟨rfl,rfl,rfl,by decide +kernel,rfl,by decide +kernel,by decide +kernel⟩
theorem ZaV:Ė ["stone","ray"] ["stone","ray"] (ĉ zf):=⟨rfl,rfl,rfl,by decide +kernel,rfl,by decide +kernel,by decide +kernel⟩
theorem ZaW:Ė ["thing","stone","ray"] ["thing","stone","ray"] (ĉ zj):=⟨rfl,rfl,rfl,by decide +kernel,rfl,by decide +kernel,by decide +kernel⟩
theorem ZaX:Ė ["thing","stone","ray"] ["thing","stone","ray"] (ĉ zm):=⟨rfl,rfl,rfl,by decide +kernel,rfl,by decide +kernel,by decide +kernel⟩
theorem Qf:Ė ["yard","turn","stone","thing"] ["yard","turn","stone"] (ĉ zp):=⟨rfl,rfl,rfl,by decide +kernel,rfl,by decide +kernel,by decide +kernel⟩
theorem ZaY:Ė ["yard","day","stone"] ["yard","day","stone"] (ĉ sO):=⟨rfl,rfl,rfl,by decide +kernel,rfl,by decide +kernel,by decide +kernel⟩
theorem wg:Ė ["yard","stone","day","number","turn"] ["yard","stone"] (ĉ zq):=⟨rfl,rfl,rfl,by decide +kernel,rfl,by decide +kernel,by decide +kernel⟩
theorem wj:Ė ["_law_yard","_law_of_day","_law_day","_law_stone","_law_caught","e"] ["_law_yard","_law_of_day","_law_day","_law_stone"] (ĉ zu):=⟨rfl,rfl,rfl,by decide +kernel,rfl,by decide +kernel,by decide +kernel⟩
theorem bY:Ė ["_law_script","_law_size_here","_law_drawn","_law_things","_law_days_here","_law_yard","_law_good","_law_odd","_law_far","_law_none","_law_ahead","_law_day"] ["_law_script"] (ĉ fO):=⟨rfl,rfl,rfl,by decide +kernel,rfl,by decide +kernel,by decide +kernel⟩
theorem ZeS:Ė ["self","stone"] ["self","stone"] (ĉ JH):=⟨rfl,rfl,rfl,by decide +kernel,rfl,by decide +kernel,by decide +kernel⟩
theorem ZeT:Ė ["self","day","turn"] ["self","day","turn"] (ĉ JK):=⟨rfl,rfl,rfl,by decide +kernel,rfl,by decide +kernel,by decide +kernel⟩
section
variable{P:Program}{w:World}{K:PySem.W.Frag}{mg:Str→Option Value}{base:Heap}{a:Adr}
theorem ZeU(T:Tx K mg a):į P w K mg base (Ů P w) 1 a.Zad a.Zae ["self","stone"] (spX 2 (ħ a "NoStone") [("stone",1)]):=
 fnX T.Zl5 ZeS rfl fun cdv A outer s H E=>(uJ (Ja T.lN T.bW (pv 0) (pv 1)) Jb)
theorem ZeV(T:Tx K mg a):į P w K mg base (Ů P w) 1 a.Zaf a.Zag ["self","day","turn"] (spX 3 (ħ a "NoTurn") [("day",1),("turn",2)]):=
 fnX T.Zl7 ZeT rfl fun cdv A outer s H E=>(uJ (Ja T.gO T.fC (pv 0) (pv 1)) (uJ (Ja T.gO T.iW (pv 0) (pv 2)) Jb))
theorem ZaZ(T:Tx K mg a):į P w K mg base (Ů P w) 1 a.JR a.JT ["_law_cell","_law_most"] (ž ⟨K,ħ a⟩ 2 dO):=by
 refine aO (cm:=ħ a) (mb:=fB) T.Vd PJ rfl rfl rfl fun cdv A outer s H E hr=>?_
 have hu:=hr.units
 exact(ċ (Ż (PW.pt (w_and (ŷ aA (ş hu) (Ā (Ē ļ ĺ (Ā (Ē Ŧ Œ (Ą 0) (Ā Ă))) (Ā Ă))) (Ā Ă) (ł _)) (jg (ŷ Zde ZcV (Ą 1) (Ā Ă) (ł _)))))
  (Č (Ĥ (Ĳ (ĥ ĕ Ĕ (Ā (Ę (ř (Ć (ŋ (Ć Ă (Ć Ă Ġ))) (Ć (ŋ (Ć Ă (Ć Ă Ġ))) Ġ))))) (Ā (Ē ļ ĺ (Ą 0) (Ā Ă))) (fun _ _=>rfl)))))
  ņ)
  (ċ (İ (i:=2) PJ.nd rfl (Or.inl rfl) (Ņ ĭ Ĭ (Ā Ă) (Ā (Ē ļ ĺ (Ą 0) (Ā (PE.wk (Ħ (CZ rfl) (by rfl) T.Ej PyProof.Rows.boot_min (ę (Ā Ă) (ę (Ą 1) Ī))) fun _ _ _ h=>Ū Dr h))))))
  (Č (Ĥ (Ĳ (ŋ (Ć (v_var 2) (Ć (Ę (Ņ ĭ Ĭ (Ā Ă) (Ā (Ē ļ ĺ (Ā (Ē Ŧ Œ (Ą 0) (Ā Ă))) (Ā (PE.wk (Ħ (CZ rfl) (by rfl) T.Ej PyProof.Rows.boot_min (ę (Ā Ă) (ę (Ā (Ē Ŧ Œ (Ą 1) (Ą 2))) Ī))) fun _ _ _ h=>Ū Dr h)))))) Ġ))))))))
theorem fH(T:Tx K mg a):į P w K mg base (Ů P w) 1 a.JV a.JW ["_law_script","_law_k"] (ž ⟨K,ħ a⟩ 2 ő):=by
 refine aO (cm:=ħ a) (mb:=uV) T.iV Zaw rfl rfl rfl fun cdv A outer s H E hr=>?_
 have hu:=hr.units
 exact(ċ (Ż (ŷ oN oh (Ą 1) (Ā (PE.wk (Ħ bU (by rfl) T.fQ PySem.boot_len (ę (Ą 0) Ī)) fun _ _ _ h=>Ū bV h)) (ł _))
  (Č (Ĥ (Ĳ (ĥ ĕ Ĕ (Ą 0) (Ą 1) (fun _ _=>rfl)))))
  ņ)
  (Č (Ĥ (Ĳ Ă))))
theorem Qg(T:Tx K mg a):į P w K mg base (Ů P w) 1 a.JX a.JZ ["_law_cell","_law_many"] (ž ⟨K,ħ a⟩ 2 iI):=by
 refine aO (cm:=ħ a) (mb:=uW) T.Oq ju rfl rfl rfl fun cdv A outer s H E hr=>?_
 have hu:=hr.units
 exact(ċ (İ (i:=2) ju.nd rfl (Or.inl rfl) (ř Ġ))
  (ċ (İ (i:=3) ju.nd rfl (Or.inl rfl) (Ĳ (Ē Ŧ Œ (Ą 0) (Ā Ă))))
  (ċ (Ż (ŷ aA (ş hu) (Ā (Ē ļ ĺ (Ą 0) (Ā Ă))) (Ā Ă) (ł _))
  (Č (İ (i:=3) ju.nd rfl (Or.inl rfl) (Ĳ (Ē ļ ĺ (Ą 3) (Ā Ă)))))
  ņ)
  (ċ (cI PassesOwn.leaving rfl (ſ rfl T.aH (Ć (v_var 1) Ġ)) (Į (i:=4) ju.nd rfl (Or.inl rfl))
  (Č (Ż (ŷ aA (ş hu) (Ā (Ē ļ ĺ (Ą 0) (Ā Ă))) (Ā Ă) (ł _))
  (ċ (PS.wk (cP (nZ PySem.F.plainAttrs_list PySem.F.slot_list_append PySem.F.type_list_append bF (pv 2) (Ć (Ē ļ ĺ (Ą 3) (Ā Ă)) Ġ))) fun _ _ _ h=>jE h)
  (Č (İ (i:=3) ju.nd rfl (Or.inl rfl) (Ĳ (Ē Ŧ Œ (Ą 3) (Ā Ă))))))
  (ċ (İ (i:=3) ju.nd rfl (Or.inl rfl) (Ĳ (Ē ļ ĺ (Ā (Ę (Ņ ĭ Ĭ (Ā (Ę (Ņ ĭ Ĭ (Ā (Ē Ň ĵ (Ą 3) (Ā Ă))) (Ā Ă)))) (Ā (Ē Ň ĵ (Ā Ă) (Ą 4)))))) (Ā Ă))))
  (Č (PS.wk (cP (nZ PySem.F.plainAttrs_list PySem.F.slot_list_append PySem.F.type_list_append bF (pv 2) (Ć (Ē Ŧ Œ (Ą 3) (Ā Ă)) Ġ))) fun _ _ _ h=>jE h))))))
  (Č (Ĥ (jB 2)))))))
theorem Za0(T:Tx K mg a):į P w K mg base (Ů P w) 1 a.J_ a.Ka ["_law_xs"] (ž ⟨K,ħ a⟩ 1 jN):=by
 refine aO (cm:=ħ a) (mb:=uX) T.Vf PK rfl rfl rfl fun cdv A outer s H E hr=>?_
 have hu:=hr.units
 exact(@ċ _ _ _ _ _ _ _ (@Ż _ _ _ _ _ _ _ _ _ _ (@ŷ _ _ _ _ _ _ _ _ _ _ _ (@aA _) (@ş _ hu) (@Ā _ _ _ _ _ (@Ē _ _ _ _ _ _ _ _ _ _ _ (@ļ _) (@ĺ _) (@Ā _ _ _ _ _ (@ĥ _ _ _ _ _ _ _ _ _ _ (@ĕ _) (@Ĕ _) (@Ą _ _ _ 0 _ _ (by rfl) (by first|exact Or.inl rfl|exact Or.inr (Or.inl rfl)|exact Or.inr (Or.inr rfl)) (by decide) (by decide)) (@Ā _ _ _ _ _ (@Ă _ _ _ _ _ _)) (fun _ _=>rfl))) (@Ā _ _ _ _ _ (@Ă _ _ _ _ _ _)))) (@Ā _ _ _ _ _ (@Ă _ _ _ _ _ _)) (ł _)) (@Č _ _ _ _ _ (@Ĥ _ _ _ _ _ _ (@Ĳ _ _ _ _ _ (@lW _ _ _ _ _)))) (@ņ _ _ _)) (@ċ _ _ _ _ _ _ _ (@İ _ _ _ _ _ _ 1 _ _ PK.nd rfl (Or.inl rfl) (@Ĳ _ _ _ _ _ (@ĥ _ _ _ _ _ _ _ _ _ _ (@ĕ _) (@Ĕ _) (@Ā _ _ _ _ _ (@Ę _ _ _ _ _ (@ř _ _ _ _ _ _ (@Ć _ _ _ _ _ _ _ (@Ă _ _ _ _ _ _) (@Ć _ _ _ _ _ _ _ (@Ă _ _ _ _ _ _) (@Ć _ _ _ _ _ _ _ (@Ă _ _ _ _ _ _) (@Ć _ _ _ _ _ _ _ (@Ē _ _ _ _ _ _ _ _ _ _ _ (@ji _) (@je _) (@Ā _ _ _ _ _ (@Ă _ _ _ _ _ _)) (@Ā _ _ _ _ _ (@Ă _ _ _ _ _ _))) (@Ġ _ _ _) (by exact ī rfl)) (by exact ī rfl)) (by exact ī rfl)) (by exact ī rfl))))) (@Ā _ _ _ _ _ (@Ē _ _ _ _ _ _ _ _ _ _ _ (@ļ _) (@ĺ _) (@Ā _ _ _ _ _ (@ĥ _ _ _ _ _ _ _ _ _ _ (@ĕ _) (@Ĕ _) (@Ą _ _ _ 0 _ _ (by rfl) (by first|exact Or.inl rfl|exact Or.inr (Or.inl rfl)|exact Or.inr (Or.inr rfl)) (by decide) (by decide)) (@Ā _ _ _ _ _ (@Ă _ _ _ _ _ _)) (fun _ _=>rfl))) (@Ā _ _ _ _ _ (@Ă _ _ _ _ _ _)))) (fun _ _=>rfl))) (by rfl) (by first|exact .inl rfl|exact .inr rfl|assumption)) (@Č _ _ _ _ _ (@Ĥ _ _ _ _ _ _ (@Ĳ _ _ _ _ _ (@ŋ _ _ _ _ _ _ _ (@Ć _ _ _ _ _ _ _ (@Ē _ _ _ _ _ _ _ _ _ _ _ (@Ň _) (@ĵ _) (@Ā _ _ _ _ _ (@Ē _ _ _ _ _ _ _ _ _ _ _ (@Ő _) (@ŏ _) (@Ā _ _ _ _ _ (@Ē _ _ _ _ _ _ _ _ _ _ _ (@ļ _) (@ĺ _) (@Ā _ _ _ _ _ (@ĥ _ _ _ _ _ _ _ _ _ _ (@ĕ _) (@Ĕ _) (@Ą _ _ _ 0 _ _ (by rfl) (by first|exact Or.inl rfl|exact Or.inr (Or.inl rfl)|exact Or.inr (Or.inr rfl)) (by decide) (by decide)) (@Ā _ _ _ _ _ (@Ă _ _ _ _ _ _)) (fun _ _=>rfl))) (@Ā _ _ _ _ _ (@Ă _ _ _ _ _ _)))) (@Ā _ _ _ _ _ (@Ă _ _ _ _ _ _)))) (@Ą _ _ _ 1 _ _ (by rfl) (by first|exact Or.inl rfl|exact Or.inr (Or.inl rfl)|exact Or.inr (Or.inr rfl)) (by decide) (by decide))) (@Ć _ _ _ _ _ _ _ (@Ē _ _ _ _ _ _ _ _ _ _ _ (@Ň _) (@ĵ _) (@Ā _ _ _ _ _ (@Ē _ _ _ _ _ _ _ _ _ _ _ (@Ő _) (@ŏ _) (@Ā _ _ _ _ _ (@Ē _ _ _ _ _ _ _ _ _ _ _ (@ļ _) (@ĺ _) (@Ā _ _ _ _ _ (@ĥ _ _ _ _ _ _ _ _ _ _ (@ĕ _) (@Ĕ _) (@Ą _ _ _ 0 _ _ (by rfl) (by first|exact Or.inl rfl|exact Or.inr (Or.inl rfl)|exact Or.inr (Or.inr rfl)) (by decide) (by decide)) (@Ā _ _ _ _ _ (@Ă _ _ _ _ _ _)) (fun _ _=>rfl))) (@Ā _ _ _ _ _ (@Ă _ _ _ _ _ _)))) (@Ā _ _ _ _ _ (@Ă _ _ _ _ _ _)))) (@Ą _ _ _ 1 _ _ (by rfl) (by first|exact Or.inl rfl|exact Or.inr (Or.inl rfl)|exact Or.inr (Or.inr rfl)) (by decide) (by decide))) (@Ć _ _ _ _ _ _ _ (@Ē _ _ _ _ _ _ _ _ _ _ _ (@Ň _) (@ĵ _) (@Ā _ _ _ _ _ (@Ę _ _ _ _ _ (@Ņ _ _ _ _ _ _ _ _ _ _ _ (@ĭ _) (@Ĭ _) (@Ā _ _ _ _ _ (@Ă _ _ _ _ _ _)) (@Ā _ _ _ _ _ (@Ē _ _ _ _ _ _ _ _ _ _ _ (@ļ _) (@ĺ _) (@Ā _ _ _ _ _ (@ĥ _ _ _ _ _ _ _ _ _ _ (@ĕ _) (@Ĕ _) (@Ą _ _ _ 0 _ _ (by rfl) (by first|exact Or.inl rfl|exact Or.inr (Or.inl rfl)|exact Or.inr (Or.inr rfl)) (by decide) (by decide)) (@Ā _ _ _ _ _ (@Ă _ _ _ _ _ _)) (fun _ _=>rfl))) (@Ā _ _ _ _ _ (@Ă _ _ _ _ _ _))))))) (@Ą _ _ _ 1 _ _ (by rfl) (by first|exact Or.inl rfl|exact Or.inr (Or.inl rfl)|exact Or.inr (Or.inr rfl)) (by decide) (by decide))) (@Ġ _ _ _) (by exact ī rfl)) (by exact ī rfl)) (by exact ī rfl))))))))
theorem Za1(T:Tx K mg a):į P w K mg base (Ů P w) 2 a.Kc a.Kd ["_law_script","_law_start","_law_many","_law_long"] (ž ⟨K,ħ a⟩ 4 lZ):=by
 refine aO (cm:=ħ a) (mb:=Ax) T.Vg gP rfl rfl rfl fun cdv A outer s H E hr=>?_
 have hu:=hr.units
 exact(@ċ _ _ _ _ _ _ _ (@İ _ _ _ _ _ _ 4 _ _ gP.nd rfl (Or.inl rfl) (@ř _ _ _ _ _ _ (@Ć _ _ _ _ _ _ _ (@ű _ _ _ _ _ _) (@Ć _ _ _ _ _ _ _ (@ű _ _ _ _ _ _) (@Ć _ _ _ _ _ _ _ (@ű _ _ _ _ _ _) (@Ć _ _ _ _ _ _ _ (@ű _ _ _ _ _ _) (@Ć _ _ _ _ _ _ _ (@ű _ _ _ _ _ _) (@Ć _ _ _ _ _ _ _ (@ű _ _ _ _ _ _) (@Ć _ _ _ _ _ _ _ (@ű _ _ _ _ _ _) (@Ć _ _ _ _ _ _ _ (@ű _ _ _ _ _ _) (@Ć _ _ _ _ _ _ _ (@ű _ _ _ _ _ _) (@Ć _ _ _ _ _ _ _ (@ű _ _ _ _ _ _) (@Ć _ _ _ _ _ _ _ (@ű _ _ _ _ _ _) (@Ć _ _ _ _ _ _ _ (@ű _ _ _ _ _ _) (@Ġ _ _ _) (by exact ī rfl)) (by exact ī rfl)) (by exact ī rfl)) (by exact ī rfl)) (by exact ī rfl)) (by exact ī rfl)) (by exact ī rfl)) (by exact ī rfl)) (by exact ī rfl)) (by exact ī rfl)) (by exact ī rfl)) (by exact ī rfl))) (by rfl) (by first|exact .inl rfl|exact .inr rfl|assumption)) (@ċ _ _ _ _ _ _ _ (@İ _ _ _ _ _ _ 5 _ _ gP.nd rfl (Or.inl rfl) (@Ĳ _ _ _ _ _ (@Ē _ _ _ _ _ _ _ _ _ _ _ (@ļ _) (@ĺ _) (@Ā _ _ _ _ _ (@Ę _ _ _ _ _ (@ē _ _ _ _ _ _ _ _ _ _ _ _ _ _ _ _ (fH T) Ċ (hr.mono (by decide)) rfl T.ő T.iV.kp T.jU (@ġ _ _ _ _ _ _ _ _ _ _ _ _ _ _ _) (@ć _ _ _ _ _ 0 _ _ (by rfl) (by first|exact Or.inl rfl|exact Or.inr (Or.inl rfl)|exact Or.inr (Or.inr rfl)) (by decide) (by decide) (@ć _ _ _ _ _ 1 _ _ (by rfl) (by first|exact Or.inl rfl|exact Or.inr (Or.inl rfl)|exact Or.inr (Or.inr rfl)) (by decide) (by decide) (@ď _ _ _) (by exact ī rfl)) (by exact ī rfl)) (by decide) (by exact ī rfl) (by rfl)))) (@Ā _ _ _ _ _ (@Ă _ _ _ _ _ _)))) (by rfl) (by first|exact .inl rfl|exact .inr rfl|assumption)) (@ċ _ _ _ _ _ _ _ (@İ _ _ _ _ _ _ 4 _ _ gP.nd rfl (Or.inl rfl) (@Ņ _ _ _ _ _ _ _ _ _ _ _ (@ĭ _) (@Ĭ _) (@Ā _ _ _ _ _ (@Ę _ _ _ _ _ (@cC _ _ _ _ _ _ _ _ _ _ _ (@Ą _ _ _ 4 _ _ (by rfl) (by first|exact Or.inl rfl|exact Or.inr (Or.inl rfl)|exact Or.inr (Or.inr rfl)) (by decide) (by decide)) (@aR _ _ _ _ _ (@v_var _ _ _ 5 _ _ (by rfl) (by first|exact Or.inl rfl|exact Or.inr (Or.inl rfl)|exact Or.inr (Or.inr rfl)) (by decide) (by decide))) (@uy _ _ _)))) (@Ā _ _ _ _ _ (@Ę _ _ _ _ _ (@cC _ _ _ _ _ _ _ _ _ _ _ (@Ą _ _ _ 4 _ _ (by rfl) (by first|exact Or.inl rfl|exact Or.inr (Or.inl rfl)|exact Or.inr (Or.inr rfl)) (by decide) (by decide)) (@uy _ _ _) (@aR _ _ _ _ _ (@v_var _ _ _ 5 _ _ (by rfl) (by first|exact Or.inl rfl|exact Or.inr (Or.inl rfl)|exact Or.inr (Or.inr rfl)) (by decide) (by decide))))))) (by rfl) (by first|exact .inl rfl|exact .inr rfl|assumption)) (@ċ _ _ _ _ _ _ _ (@İ _ _ _ _ _ _ 6 _ _ gP.nd rfl (Or.inl rfl) (@ř _ _ _ _ _ _ (@Ġ _ _ _)) (by rfl) (by first|exact .inl rfl|exact .inr rfl|assumption)) (@ċ _ _ _ _ _ _ _ (@cI _ _ _ _ _ _ _ _ _ _ PassesOwn.leaving rfl (@ſ _ _ _ _ _ _ _ _ rfl T.aH (@Ć _ _ _ _ _ _ _ (@v_var _ _ _ 2 _ _ (by rfl) (by first|exact Or.inl rfl|exact Or.inr (Or.inl rfl)|exact Or.inr (Or.inr rfl)) (by decide) (by decide)) (@Ġ _ _ _) (by exact ī rfl)) (by exact ī rfl)) (@Į _ _ _ 7 _ gP.nd rfl (Or.inl rfl) (by first|exact .inl rfl|exact .inr rfl|assumption)) (@ċ _ _ _ _ _ _ _ (@İ _ _ _ _ _ _ 8 _ _ gP.nd rfl (by first|exact Or.inl rfl|exact Or.inr rfl) (@ē _ _ _ _ _ _ _ _ _ _ _ _ _ _ _ _ (Qg T) Ċ (hr.mono (by decide)) rfl T.iI T.Oq.kp T.Ve (@ġ _ _ _ _ _ _ _ _ _ _ _ _ _ _ _) (@ė _ _ _ _ _ _ _ (@Ę _ _ _ _ _ (@Ņ _ _ _ _ _ _ _ _ _ _ _ (@ĭ _) (@Ĭ _) (@Ā _ _ _ _ _ (@Ē _ _ _ _ _ _ _ _ _ _ _ (@Ŧ _) (@Œ _) (@Ā _ _ _ _ _ (@Ę _ _ _ _ _ (@ē _ _ _ _ _ _ _ _ _ _ _ _ _ _ _ _ (fH T) Ċ (hr.mono (by decide)) rfl T.ő T.iV.kp T.jU (@ġ _ _ _ _ _ _ _ _ _ _ _ _ _ _ _) (@ć _ _ _ _ _ 0 _ _ (by rfl) (by first|exact Or.inl rfl|exact Or.inr (Or.inl rfl)|exact Or.inr (Or.inr rfl)) (by decide) (by decide) (@ė _ _ _ _ _ _ _ (@Ę _ _ _ _ _ (@Ņ _ _ _ _ _ _ _ _ _ _ _ (@ĭ _) (@Ĭ _) (@Ą _ _ _ 1 _ _ (by rfl) (by first|exact Or.inl rfl|exact Or.inr (Or.inl rfl)|exact Or.inr (Or.inr rfl)) (by decide) (by decide)) (@Ą _ _ _ 7 _ _ (by rfl) (by first|exact Or.inl rfl|exact Or.inr (Or.inl rfl)|exact Or.inr (Or.inr rfl)) (by decide) (by decide)))) (@ď _ _ _) (by exact ī rfl)) (by exact ī rfl)) (by decide) (by exact ī rfl) (by rfl)))) (@Ā _ _ _ _ _ (@Ă _ _ _ _ _ _)))) (@Ā _ _ _ _ _ (@Ē _ _ _ _ _ _ _ _ _ _ _ (@Ň _) (@ĵ _) (@Ā _ _ _ _ _ (@Ă _ _ _ _ _ _)) (@Ą _ _ _ 7 _ _ (by rfl) (by first|exact Or.inl rfl|exact Or.inr (Or.inl rfl)|exact Or.inr (Or.inr rfl)) (by decide) (by decide)))))) (@ė _ _ _ _ _ _ _ (@Ę _ _ _ _ _ (@Ņ _ _ _ _ _ _ _ _ _ _ _ (@ĭ _) (@Ĭ _) (@Ā _ _ _ _ _ (@Ē _ _ _ _ _ _ _ _ _ _ _ (@Ň _) (@ĵ _) (@Ā _ _ _ _ _ (@Ă _ _ _ _ _ _)) (@Ą _ _ _ 3 _ _ (by rfl) (by first|exact Or.inl rfl|exact Or.inr (Or.inl rfl)|exact Or.inr (Or.inr rfl)) (by decide) (by decide)))) (@Ā _ _ _ _ _ (@Ă _ _ _ _ _ _)))) (@ď _ _ _) (by exact ī rfl)) (by exact ī rfl)) (by decide) (by exact ī rfl) (by rfl)) (by rfl) (by first|exact .inl rfl|exact .inr rfl|assumption)) (@ċ _ _ _ _ _ _ _ (lu (i:=9) gP.nd rfl rfl ["_law_xs","_law_j"] [8] 1 (ĉ rQ) rfl rfl (@ſ _ _ _ _ _ _ _ _ rfl T.aH (@Ć _ _ _ _ _ _ _ (@Ę _ _ _ _ _ (@Ņ _ _ _ _ _ _ _ _ _ _ _ (@ĭ _) (@Ĭ _) (@Ā _ _ _ _ _ (@Ă _ _ _ _ _ _)) (@Ā _ _ _ _ _ (@Ē _ _ _ _ _ _ _ _ _ _ _ (@ļ _) (@ĺ _) (@Ā _ _ _ _ _ (@ĥ _ _ _ _ _ _ _ _ _ _ (@ĕ _) (@Ĕ _) (@Ą _ _ _ 8 _ _ (by rfl) (by first|exact Or.inl rfl|exact Or.inr (Or.inl rfl)|exact Or.inr (Or.inr rfl)) (by decide) (by decide)) (@Ā _ _ _ _ _ (@Ă _ _ _ _ _ _)) (fun _ _=>rfl))) (@Ą _ _ _ 3 _ _ (by rfl) (by first|exact Or.inl rfl|exact Or.inr (Or.inl rfl)|exact Or.inr (Or.inr rfl)) (by decide) (by decide)))))) (@Ġ _ _ _) (by exact ī rfl)) (by exact ī rfl)) (fun _ _ _ _ _=>(@Į _ _ _ 1 _ (show(["_law_xs","_law_j"]:List Str).Nodup by decide +kernel) rfl (Or.inl rfl) (Or.inr rfl))) (fun _ _ _ _ _=>(@Ŭ _ _ _)) (fun _ _ _ _ _=>(@Ę _ _ _ _ _ (@ē _ _ _ _ _ _ _ _ _ _ _ _ _ _ _ _ (Za0 T) Ċ (hr.mono (by decide)) rfl T.jN T.Vf.kp T.Zd5 (@aK _ _ _) (@ė _ _ _ _ _ _ _ (@Ę _ _ _ _ _ (@cC _ _ _ _ _ _ _ _ _ _ _ (@Ą _ _ _ 0 _ _ (by rfl) (by first|exact Or.inl rfl|exact Or.inr (Or.inl rfl)|exact Or.inr (Or.inr rfl)) (by decide) (by decide)) (@aR _ _ _ _ _ (@Ę _ _ _ _ _ (@Ņ _ _ _ _ _ _ _ _ _ _ _ (@ĭ _) (@Ĭ _) (@Ā _ _ _ _ _ (@Ă _ _ _ _ _ _)) (@Ā _ _ _ _ _ (@Ē _ _ _ _ _ _ _ _ _ _ _ (@Ň _) (@ĵ _) (@Ā _ _ _ _ _ (@Ă _ _ _ _ _ _)) (@Ą _ _ _ 1 _ _ (by rfl) (by first|exact Or.inl rfl|exact Or.inr (Or.inl rfl)|exact Or.inr (Or.inr rfl)) (by decide) (by decide))))))) (@aR _ _ _ _ _ (@Ę _ _ _ _ _ (@Ņ _ _ _ _ _ _ _ _ _ _ _ (@ĭ _) (@Ĭ _) (@Ā _ _ _ _ _ (@Ă _ _ _ _ _ _)) (@Ā _ _ _ _ _ (@Ē _ _ _ _ _ _ _ _ _ _ _ (@Ň _) (@ĵ _) (@Ā _ _ _ _ _ (@Ă _ _ _ _ _ _)) (@Ą _ _ _ 1 _ _ (by rfl) (by first|exact Or.inl rfl|exact Or.inr (Or.inl rfl)|exact Or.inr (Or.inr rfl)) (by decide) (by decide))))))))) (@ď _ _ _) (by exact ī rfl)) (by decide) (by exact ī rfl) (by rfl)))) ⟨rfl,⟨rfl,Or.inl rfl⟩,trivial⟩) (@Č _ _ _ _ _ (@PS.wk _ _ _ _ (cP (nZ PySem.F.plainAttrs_list PySem.F.slot_list_append PySem.F.type_list_append bF (pv 6) (@Ć _ _ _ _ _ _ _ (@ŋ _ _ _ _ _ _ _ (@Ć _ _ _ _ _ _ _ (@ĥ _ _ _ _ _ _ _ _ _ _ (@ĕ _) (@Ĕ _) (@Ą _ _ _ 4 _ _ (by rfl) (by first|exact Or.inl rfl|exact Or.inr (Or.inl rfl)|exact Or.inr (Or.inr rfl)) (by decide) (by decide)) (@Ą _ _ _ 7 _ _ (by rfl) (by first|exact Or.inl rfl|exact Or.inr (Or.inl rfl)|exact Or.inr (Or.inr rfl)) (by decide) (by decide)) (fun _ _=>rfl)) (@Ć _ _ _ _ _ _ _ (@Ę _ _ _ _ _ (@Ņ _ _ _ _ _ _ _ _ _ _ _ (@ĭ _) (@Ĭ _) (@Ā _ _ _ _ _ (@Ă _ _ _ _ _ _)) (@Ā _ _ _ _ _ (@Ē _ _ _ _ _ _ _ _ _ _ _ (@ļ _) (@ĺ _) (@Ā _ _ _ _ _ (@Ē _ _ _ _ _ _ _ _ _ _ _ (@Ň _) (@ĵ _) (@Ā _ _ _ _ _ (@ĥ _ _ _ _ _ _ _ _ _ _ (@ĕ _) (@Ĕ _) (@Ą _ _ _ 8 _ _ (by rfl) (by first|exact Or.inl rfl|exact Or.inr (Or.inl rfl)|exact Or.inr (Or.inr rfl)) (by decide) (by decide)) (@Ā _ _ _ _ _ (@Ă _ _ _ _ _ _)) (fun _ _=>rfl))) (@Ā _ _ _ _ _ (@Ă _ _ _ _ _ _)))) (@Ā _ _ _ _ _ (@Ē _ _ _ _ _ _ _ _ _ _ _ (@ji _) (@je _) (@Ā _ _ _ _ _ (@Ă _ _ _ _ _ _)) (@Ā _ _ _ _ _ (@Ă _ _ _ _ _ _)))))))) (@Ć _ _ _ _ _ _ _ (@v_var _ _ _ 9 _ _ (by rfl) (by first|exact Or.inl rfl|exact Or.inr (Or.inl rfl)|exact Or.inr (Or.inr rfl)) (by decide) (by decide)) (@Ġ _ _ _) (by exact ī rfl)) (by exact ī rfl)) (by exact ī rfl))) (@Ġ _ _ _) (by exact ī rfl)))) (fun _ _ _ h=> @jE _ _ _ _ _ _ _ _ h))))) (by intro _;rfl)) (@Č _ _ _ _ _ (@Ĥ _ _ _ _ _ _ (@jB _ _ _ 6 _ _ (by rfl) (by first|exact Or.inl rfl|exact Or.inr (Or.inl rfl)|exact Or.inr (Or.inr rfl)) (by decide) (by decide)))))))))
theorem Qh(T:Tx K mg a):į P w K mg base (Ů P w) 1 a.Ke a.Kf ["self","width","height","things","days"] (QF ⟨K,ħ a⟩ 5 "Yard" jO):=by
 refine fnI (cm:=ħ a) (mb:=Ay) T.Zd7 Zax rfl rfl rfl fun cdv A outer s H E hr=>?_
 have hu:=hr.units
 exact(ċ (aU (i:=0) ["Yard"] ⟨⟨T.dj,T.jV⟩,trivial⟩ (pv 0) (v_var 1))
  (ċ (aU (i:=0) ["Yard"] ⟨⟨T.dj,T.iY⟩,trivial⟩ (pv 0) (v_var 2))
  (ċ (aU (i:=0) ["Yard"] ⟨⟨T.dj,T.iZ⟩,trivial⟩ (pv 0) (Ę (PE.wk (Ų cT (by rfl) T.fG PyProof.Rows.boot_list (ę (Ą 3) Ī)) fun _ _ _ h=>wJ cU h)))
  (Č (aU (i:=0) ["Yard"] ⟨⟨T.dj,T.cY⟩,trivial⟩ (pv 0) (Ę (aJ ["name","times","turns"] [] 3 (ĉ rT) rfl rfl (cJ 4) (fun _ _ _ _ _=>(wK rfl (ů (Į (i:=0) (show(["name","times","turns"]:List Str).Nodup by decide +kernel) rfl (Or.inl rfl) (hf:=Or.inr rfl)) (ů (Į (i:=1) (show(["name","times","turns"]:List Str).Nodup by decide +kernel) rfl (Or.inl rfl) (hf:=Or.inr rfl)) (ů (Į (i:=2) (show(["name","times","turns"]:List Str).Nodup by decide +kernel) rfl (Or.inl rfl) (hf:=Or.inr rfl)) jh))))) (fun _ _ _ _ _=>Ŭ) (fun _ _ _ _ _=>(ŋ (Ć (v_var 0) (Ć (v_var 1) (Ć (Ę (PE.wk (Ų cT (by rfl) T.fG PyProof.Rows.boot_list (ę (Ą 2) Ī)) fun _ _ _ h=>wJ cU h)) Ġ))))) trivial)))))))
theorem Za2(T:Tx K mg a):į P w K mg base (Ů P w) 1 a.Kg a.Kh ["_law_size_here","_law_cell"] (ž ⟨K,ħ a⟩ 2 cW):=by
 refine aO (cm:=ħ a) (mb:=dh) T.Vh vX rfl rfl rfl fun cdv A outer s H E hr=>?_
 have hu:=hr.units
 exact(ċ (İ (i:=2) vX.nd rfl (Or.inl rfl) (ř (Ć (Ē ļ ĺ (Ā (Ē Ŧ Œ (Ą 1) (Ā Ă))) (Ā (ĥ ĕ Ĕ (Ą 0) (Ā Ă) (fun _ _=>rfl)))) (Ć (Ē ļ ĺ (Ā (Ē Ŧ Œ (Ą 1) (Ā Ă))) (Ā (ĥ ĕ Ĕ (Ą 0) (Ā Ă) (fun _ _=>rfl)))) Ġ))))
  (ċ (İ (i:=3) vX.nd rfl (Or.inl rfl) (Ĳ (Ē ļ ĺ (Ā (Ē Ŧ Œ (Ą 1) (Ā Ă))) (Ā Ă))))
  (ċ (İ (i:=4) vX.nd rfl (Or.inl rfl) (Ĳ (ĥ ĕ Ĕ (Ā (Ę (ř (Ć Ă (Ć (Ē Ő ŏ (Ā (Ē ļ ĺ (Ā (Ē Ŧ Œ (Ą 1) (Ā Ă))) (Ā (Ē ji je (Ā Ă) (Ā Ă))))) (Ā Ă)) Ġ))))) (Ā (Ē Ŧ Œ (Ā (Ē ļ ĺ (Ā (Ē Ŧ Œ (Ą 1) (Ā Ă))) (Ā Ă))) (Ā Ă))) (fun _ _=>rfl))))
  (ċ (Dl (i:=2) (ĥ ĕ Ĕ (Ā (Ę (ř (Ć (Ę (Ņ ĭ Ĭ (Ā (ĥ ĕ Ĕ (Ą 0) (Ą 3) (fun _ _=>rfl))) (Ā (PE.wk (Ħ (C_ rfl) (by rfl) T.zH PyProof.Rows.boot_max (ę (Ā Ă) (ę (Ą 4) Ī))) fun _ _ _ h=>Ū Ds h)))) (Ć (Ē Ő ŏ (Ā (Ē Ő ŏ (Ā Ă) (Ā Ă))) (Ā (PE.wk (Ħ (C_ rfl) (by rfl) T.zH PyProof.Rows.boot_max (ę (Ā Ă) (ę (Ą 4) Ī))) fun _ _ _ h=>Ū Ds h))) Ġ))))) (Ā (Ē ļ ĺ (Ā (Ē Ŧ Œ (Ą 1) (Ā Ă))) (Ā Ă))) (fun _ _=>rfl)) (v_var 3) (pv 2))
  (Č (Ĥ (Ĳ (ŋ (Ć (ĥ ĕ Ĕ (Ą 2) (Ā Ă) (fun _ _=>rfl)) (Ć (ĥ ĕ Ĕ (Ą 2) (Ā Ă) (fun _ _=>rfl)) Ġ))))))))))
theorem Qi(T:Tx K mg a):į P w K mg base (Ů P w) 1 a.Kl a.Km ["_law_number"] (ž ⟨K,ħ a⟩ 1 jP):=by
 refine aO (cm:=ħ a) (mb:=uZ) T.Ot Zay rfl rfl rfl fun cdv A outer s H E hr=>?_
 have hu:=hr.units
 exact(ċ (Ż (ŷ aA (ş hu) (Ā (Ē ļ ĺ (Ā (Ē Ŧ Œ (Ą 0) (Ā Ă))) (Ā Ă))) (Ā Ă) (ł _))
  (Č (Ĥ (Ņ ĭ Ĭ (Ā Ă) (Ā (Ē ļ ĺ (Ā (Ē Ň ĵ (Ą 0) (Ā Ă))) (Ā (Ē ji je (Ā Ă) (Ā Ă))))))))
  ņ)
  (Č (Ĥ (Ņ ĭ Ĭ (Ā Ă) (Ā (Ē ļ ĺ (Ą 0) (Ā Ă)))))))
theorem ql(T:Tx K mg a):į P w K mg base (Ů P w) 1 a.Ko a.Kp ["_law_number","_law_wide"] (ž ⟨K,ħ a⟩ 2 cj):=by
 refine aO (cm:=ħ a) (mb:=u_) T.tE Zaz rfl rfl rfl fun cdv A outer s H E hr=>?_
 have hu:=hr.units
 exact(ċ (Ż (ŷ aA (ş hu) (Ā (Ē ļ ĺ (Ā (Ē Ŧ Œ (Ą 0) (Ā Ă))) (Ā Ă))) (Ā Ă) (ł _))
  (Č (Ĥ (Ņ ĭ Ĭ (Ā (Ē Ő ŏ (Ā (Ē ļ ĺ (Ā (Ē Ň ĵ (Ą 0) (Ā Ă))) (Ā (Ē Ő ŏ (Ā (Ē Ň ĵ (Ā Ă) (Ā (Ē ji je (Ā Ă) (Ā Ă))))) (Ā Ă))))) (Ā (Ē ji je (Ā Ă) (Ā Ă))))) (Ā Ă))))
  ņ)
  (Č (Ĥ (Ĳ (Ē Ő ŏ (Ā (Ē ļ ĺ (Ą 0) (Ā (Ę (Ņ ĭ Ĭ (Ā (Ē Ň ĵ (Ā Ă) (Ą 1))) (Ā Ă)))))) (Ā Ă))))))
theorem Za3(T:Tx K mg a):į P w K mg base (Ů P w) 2 a.Kq a.Kr ["_law_cell","_law_wide"] (ž ⟨K,ħ a⟩ 2 dR):=by
 refine aO (cm:=ħ a) (mb:=jo) T.Vj gQ rfl rfl rfl fun cdv A outer s H E hr=>?_
 have hu:=hr.units
 exact(ċ (İ (i:=2) gQ.nd rfl (by first|exact Or.inl rfl|exact Or.inr rfl) (ē (Qg T) Ċ (hr.mono (by decide)) rfl T.iI T.Oq.kp T.Ve ġ (ć 0 (hr:=(ė Ă ď)))))
  (ċ (Ur (Ę (aJ ["_law_wide","_law_xs","_law_k"] [1,2] 1 (ĉ rW) rfl rfl (ſ rfl T.aH (Ć Ă Ġ)) (fun _ _ _ _ _=>(Į (i:=2) (show(["_law_wide","_law_xs","_law_k"]:List Str).Nodup by decide +kernel) rfl (Or.inl rfl) (hf:=Or.inr rfl))) (fun _ _ _ _ _=>Ŭ) (fun _ _ _ _ _=>(Ę (ē (ql T) Ċ (hr.mono (by decide)) rfl T.cj T.tE.kp T.zA aK (ė (ĥ ĕ Ĕ (Ą 1) (Ą 2) (fun _ _=>rfl)) (ć 0 (hr:=ď)))))) ⟨rfl,⟨rfl,Or.inl rfl⟩,⟨rfl,⟨rfl,Or.inl rfl⟩,trivial⟩⟩)) (Va rfl (ů (Į (i:=5) gQ.nd rfl (Or.inl rfl)) (ů (Į (i:=6) gQ.nd rfl (Or.inl rfl)) jh))))
  (ċ (İ (i:=3) gQ.nd rfl (Or.inl rfl) (ē (Qi T) Ċ (hr.mono (by decide)) rfl T.jP T.Ot.kp T.Vi ġ (ė (ĥ ĕ Ĕ (Ą 2) (Ā Ă) (fun _ _=>rfl)) ď)))
  (ċ (İ (i:=4) gQ.nd rfl (Or.inl rfl) (Ĳ (Ē ļ ĺ (Ā (ĥ ĕ Ĕ (Ą 2) (Ā Ă) (fun _ _=>rfl))) (Ā Ă))))
  (ċ (Ż (ŷ aA (ş hu) (Ą 4) (Ā Ă) (ł _))
  (Č (Ĥ (Ĳ (ŋ (Ć ű (Ć (Ę (ř (Ć (Ē Ŧ Œ (Ą 5) (Ā Ă)) (Ć (Ē Ŧ Œ (Ą 6) (Ā Ă)) (Ć (v_var 3) Ġ))))) Ġ))))))
  ņ)
  (ċ (Ż (ŷ aA (ş hu) (Ą 4) (Ā Ă) (ł _))
  (ċ (Ur (Ę (ř (Ć (Ē Ő ŏ (Ā (Ę (Ņ ĭ Ĭ (Ą 5) (Ā (Ē ļ ĺ (Ā (ĥ ĕ Ĕ (Ą 2) (Ā Ă) (fun _ _=>rfl))) (Ā Ă)))))) (Ā Ă)) (Ć (Ē Ő ŏ (Ā (Ę (Ņ ĭ Ĭ (Ą 6) (Ā (Ē ļ ĺ (Ā (ĥ ĕ Ĕ (Ą 2) (Ā Ă) (fun _ _=>rfl))) (Ā Ă)))))) (Ā Ă)) Ġ)))) (Va rfl (ů (Į (i:=7) gQ.nd rfl (Or.inl rfl)) (ů (Į (i:=8) gQ.nd rfl (Or.inl rfl)) jh))))
  (Č (Ĥ (Ĳ (ŋ (Ć ű (Ć (Ę (ř (Ć (v_var 5) (Ć (v_var 6) (Ć (Ę (Ņ ĭ Ĭ (Ą 7) (Ā (PE.wk (Ų YB (by rfl) T.ZeO PyProof.Rows.boot_int (ę (Ā (cQ aA (ş hu) (Ā (ŋ (Ć (v_var 5) (Ć (v_var 6) Ġ)))) (Ā (ŋ (Ć (v_var 7) (Ć (v_var 8) Ġ)))) (ł _))) Ī)) fun _ _ _ h=>Ū YC h)))) (Ć (v_var 8) (Ć (v_var 3) Ġ))))))) Ġ)))))))
  ņ)
  (ċ (Ż (ŷ aA (ş hu) (Ą 4) (Ā Ă) (ł _))
  (Č (Ĥ (Ĳ (ŋ (Ć ű (Ć (Ę (Ņ ĭ Ĭ (Ā (Ę (Ņ ĭ Ĭ (Ā (Ę (ř (Ć (v_var 5) (Ć (v_var 6) (Ć (Ē ļ ĺ (Ā (ĥ ĕ Ĕ (Ą 2) (Ā Ă) (fun _ _=>rfl))) (Ā Ă)) Ġ)))))) (Ā (Ę (ř (Ć (Ę (ē (ql T) Ċ (hr.mono (by decide)) rfl T.cj T.tE.kp T.zA ġ (ė (ĥ ĕ Ĕ (Ą 2) (Ā Ă) (fun _ _=>rfl)) (ć 1 (hr:=ď))))) (Ć (Ę (ē (ql T) Ċ (hr.mono (by decide)) rfl T.cj T.tE.kp T.zA ġ (ė (ĥ ĕ Ĕ (Ą 2) (Ā Ă) (fun _ _=>rfl)) (ć 1 (hr:=ď))))) (Ć (v_var 3) Ġ))))))))) (Ā (Ę (ř (Ć (Ę (ē (ql T) Ċ (hr.mono (by decide)) rfl T.cj T.tE.kp T.zA ġ (ė (ĥ ĕ Ĕ (Ą 2) (Ā Ă) (fun _ _=>rfl)) (ć 1 (hr:=ď))))) (Ć (Ę (ē (ql T) Ċ (hr.mono (by decide)) rfl T.cj T.tE.kp T.zA ġ (ė (ĥ ĕ Ĕ (Ą 2) (Ā Ă) (fun _ _=>rfl)) (ć 1 (hr:=ď))))) (Ć (Ę (ē (Qi T) Ċ (hr.mono (by decide)) rfl T.jP T.Ot.kp T.Vi ġ (ė (ĥ ĕ Ĕ (Ą 2) (Ā Ă) (fun _ _=>rfl)) ď))) Ġ)))))))) Ġ))))))
  ņ)
  (Č (Ĥ (Ĳ (ŋ (Ć (ĥ ĕ Ĕ (Ā (Ę (ř (Ć ű (Ć ű Ġ))))) (Ā (Ē Ő ŏ (Ą 4) (Ā Ă))) (fun _ _=>rfl)) (Ć (Ę (ř (Ć (v_var 5) (Ć (v_var 6) (Ć (Ę (Ņ ĭ Ĭ (Ā (Ę (Ņ ĭ Ĭ (Ą 5) (Ā Ă)))) (Ā (Ē ļ ĺ (Ā (ĥ ĕ Ĕ (Ą 2) (Ā Ă) (fun _ _=>rfl))) (Ā Ă))))) (Ć (Ę (Ņ ĭ Ĭ (Ā (Ę (Ņ ĭ Ĭ (Ą 6) (Ā Ă)))) (Ā (Ē ļ ĺ (Ā (ĥ ĕ Ĕ (Ą 2) (Ā Ă) (fun _ _=>rfl))) (Ā Ă))))) (Ć (v_var 3) Ġ))))))) Ġ)))))))))))))
theorem qm(T:Tx K mg a):į P w K mg base (Ů P w) 1 a.Ks a.Ku ["number"] (ž ⟨K,ħ a⟩ 1 cX):=by
 refine aO (cm:=ħ a) (mb:=Az) T.tH ZaA rfl rfl rfl fun cdv A outer s H E hr=>?_
 have hu:=hr.units
 exact(Č (Ĥ (Ĳ (qY iB iB iw iw (Ā (Fp kZ kO (Ā (lV (.int (1000000000)) (Ś (v:=.int (1000000000)) rfl T.jW ⟨_,rfl⟩))))) (Ą 0) (Ā (lV (.int (1000000000)) (Ś (v:=.int (1000000000)) rfl T.jW ⟨_,rfl⟩)))))))
theorem Qj(T:Tx K mg a):į P w K mg base (Ů P w) 1 a.Kv a.Kw ["number"] (ž ⟨K,ħ a⟩ 1 mj):=by
 refine aO (cm:=ħ a) (mb:=A_) T.Ou ZaB rfl rfl rfl fun cdv A outer s H E hr=>?_
 have hu:=hr.units
 exact(Č (Ĥ (Ĳ (qY iB iB iw iw (Ā Ă) (Ą 0) (Ā (lV (.int (1000000000)) (Ś (v:=.int (1000000000)) rfl T.i_ ⟨_,rfl⟩)))))))
theorem Za4(T:Tx K mg a):į P w K mg base (Ů P w) 2 a.Ky a.Kz ["numbers"] (ž ⟨K,ħ a⟩ 1 pI):=by
 refine aO (cm:=ħ a) (mb:=vd) T.Vl ZaC rfl rfl rfl fun cdv A outer s H E hr=>?_
 have hu:=hr.units
 exact(Č (Ĥ (Ĳ (v_and (cQ aA (ş hu) (Ā (PE.wk (Ħ bU (by rfl) T.fQ PySem.boot_len (ę (Ą 0) Ī)) fun _ _ _ h=>Ū bV h)) (Ā Ă) (ł _)) (v_and (Ę (ē (qm T) Ċ (hr.mono (by decide)) rfl T.cX T.tH.kp T.zB ġ (ė (ĥ ĕ Ĕ (Ą 0) (Ā Ă) (fun _ _=>rfl)) ď))) (v_and (Ę (ē (qm T) Ċ (hr.mono (by decide)) rfl T.cX T.tH.kp T.zB ġ (ė (ĥ ĕ Ĕ (Ą 0) (Ā Ă) (fun _ _=>rfl)) ď))) (jD (Ę (ē (Qj T) Ċ (hr.mono (by decide)) rfl T.mj T.Ou.kp T.Vk ġ (ė (ĥ ĕ Ĕ (Ą 0) (Ā Ă) (fun _ _=>rfl)) ď))))))))))
theorem Qk(T:Tx K mg a):į P w K mg base (Ů P w) 1 a.nq a.BP ["self","word","numbers"] (QF ⟨K,ħ a⟩ 3 "Post" vf):=by
 refine fnI (cm:=ħ a) (mb:=fP) T.Ov zJ rfl rfl rfl fun cdv A outer s H E hr=>?_
 have hu:=hr.units
 exact(ċ (aU (i:=0) ["Thing","Post","Fence","Sail","Cloth","House"] ⟨⟨T.Ť,T.aX⟩,⟨⟨T.ŵ,T.bQ⟩,⟨⟨T.ś,T.aY⟩,⟨⟨T.Ŷ,T.bR⟩,⟨⟨T.Ŝ,T.aZ⟩,⟨⟨T.ŝ,T.bf⟩,trivial⟩⟩⟩⟩⟩⟩ (pv 0) (v_var 1))
  (Č (aU (i:=0) ["Thing","Post","Fence","Sail","Cloth","House"] ⟨⟨T.Ť,T.Ķ⟩,⟨⟨T.ŵ,T.ŀ⟩,⟨⟨T.ś,T.ķ⟩,⟨⟨T.Ŷ,T.Ł⟩,⟨⟨T.Ŝ,T.ĸ⟩,⟨⟨T.ŝ,T.Ĺ⟩,trivial⟩⟩⟩⟩⟩⟩ (pv 0) (Ę (PE.wk (Ų cT (by rfl) T.fG PyProof.Rows.boot_list (ę (Ą 2) Ī)) fun _ _ _ h=>wJ cU h)))))
theorem Gp(T:Tx K mg a):į P w K mg base (Ů P w) 1 a.nq a.BP ["self","word","numbers"] (QF ⟨K,ħ a⟩ 3 "Fence" pJ):=by
 refine fnI (cm:=ħ a) (mb:=fP) T.Ov zJ rfl rfl rfl fun cdv A outer s H E hr=>?_
 have hu:=hr.units
 exact(ċ (aU (i:=0) ["Thing","Post","Fence","Sail","Cloth","House"] ⟨⟨T.Ť,T.aX⟩,⟨⟨T.ŵ,T.bQ⟩,⟨⟨T.ś,T.aY⟩,⟨⟨T.Ŷ,T.bR⟩,⟨⟨T.Ŝ,T.aZ⟩,⟨⟨T.ŝ,T.bf⟩,trivial⟩⟩⟩⟩⟩⟩ (pv 0) (v_var 1))
  (Č (aU (i:=0) ["Thing","Post","Fence","Sail","Cloth","House"] ⟨⟨T.Ť,T.Ķ⟩,⟨⟨T.ŵ,T.ŀ⟩,⟨⟨T.ś,T.ķ⟩,⟨⟨T.Ŷ,T.Ł⟩,⟨⟨T.Ŝ,T.ĸ⟩,⟨⟨T.ŝ,T.Ĺ⟩,trivial⟩⟩⟩⟩⟩⟩ (pv 0) (Ę (PE.wk (Ų cT (by rfl) T.fG PyProof.Rows.boot_list (ę (Ą 2) Ī)) fun _ _ _ h=>wJ cU h)))))
theorem Ql(T:Tx K mg a):į P w K mg base (Ů P w) 1 a.nq a.BP ["self","word","numbers"] (QF ⟨K,ħ a⟩ 3 "Sail" vg):=by
 refine fnI (cm:=ħ a) (mb:=fP) T.Ov zJ rfl rfl rfl fun cdv A outer s H E hr=>?_
 have hu:=hr.units
 exact(ċ (aU (i:=0) ["Thing","Post","Fence","Sail","Cloth","House"] ⟨⟨T.Ť,T.aX⟩,⟨⟨T.ŵ,T.bQ⟩,⟨⟨T.ś,T.aY⟩,⟨⟨T.Ŷ,T.bR⟩,⟨⟨T.Ŝ,T.aZ⟩,⟨⟨T.ŝ,T.bf⟩,trivial⟩⟩⟩⟩⟩⟩ (pv 0) (v_var 1))
  (Č (aU (i:=0) ["Thing","Post","Fence","Sail","Cloth","House"] ⟨⟨T.Ť,T.Ķ⟩,⟨⟨T.ŵ,T.ŀ⟩,⟨⟨T.ś,T.ķ⟩,⟨⟨T.Ŷ,T.Ł⟩,⟨⟨T.Ŝ,T.ĸ⟩,⟨⟨T.ŝ,T.Ĺ⟩,trivial⟩⟩⟩⟩⟩⟩ (pv 0) (Ę (PE.wk (Ų cT (by rfl) T.fG PyProof.Rows.boot_list (ę (Ą 2) Ī)) fun _ _ _ h=>wJ cU h)))))
theorem Gq(T:Tx K mg a):į P w K mg base (Ů P w) 1 a.nq a.BP ["self","word","numbers"] (QF ⟨K,ħ a⟩ 3 "Cloth" pK):=by
 refine fnI (cm:=ħ a) (mb:=fP) T.Ov zJ rfl rfl rfl fun cdv A outer s H E hr=>?_
 have hu:=hr.units
 exact(ċ (aU (i:=0) ["Thing","Post","Fence","Sail","Cloth","House"] ⟨⟨T.Ť,T.aX⟩,⟨⟨T.ŵ,T.bQ⟩,⟨⟨T.ś,T.aY⟩,⟨⟨T.Ŷ,T.bR⟩,⟨⟨T.Ŝ,T.aZ⟩,⟨⟨T.ŝ,T.bf⟩,trivial⟩⟩⟩⟩⟩⟩ (pv 0) (v_var 1))
  (Č (aU (i:=0) ["Thing","Post","Fence","Sail","Cloth","House"] ⟨⟨T.Ť,T.Ķ⟩,⟨⟨T.ŵ,T.ŀ⟩,⟨⟨T.ś,T.ķ⟩,⟨⟨T.Ŷ,T.Ł⟩,⟨⟨T.Ŝ,T.ĸ⟩,⟨⟨T.ŝ,T.Ĺ⟩,trivial⟩⟩⟩⟩⟩⟩ (pv 0) (Ę (PE.wk (Ų cT (by rfl) T.fG PyProof.Rows.boot_list (ę (Ą 2) Ī)) fun _ _ _ h=>wJ cU h)))))
theorem Gs(T:Tx K mg a):į P w K mg base (Ů P w) 1 a.nq a.BP ["self","word","numbers"] (QF ⟨K,ħ a⟩ 3 "House" pL):=by
 refine fnI (cm:=ħ a) (mb:=fP) T.Ov zJ rfl rfl rfl fun cdv A outer s H E hr=>?_
 have hu:=hr.units
 exact(ċ (aU (i:=0) ["Thing","Post","Fence","Sail","Cloth","House"] ⟨⟨T.Ť,T.aX⟩,⟨⟨T.ŵ,T.bQ⟩,⟨⟨T.ś,T.aY⟩,⟨⟨T.Ŷ,T.bR⟩,⟨⟨T.Ŝ,T.aZ⟩,⟨⟨T.ŝ,T.bf⟩,trivial⟩⟩⟩⟩⟩⟩ (pv 0) (v_var 1))
  (Č (aU (i:=0) ["Thing","Post","Fence","Sail","Cloth","House"] ⟨⟨T.Ť,T.Ķ⟩,⟨⟨T.ŵ,T.ŀ⟩,⟨⟨T.ś,T.ķ⟩,⟨⟨T.Ŷ,T.Ł⟩,⟨⟨T.Ŝ,T.ĸ⟩,⟨⟨T.ŝ,T.Ĺ⟩,trivial⟩⟩⟩⟩⟩⟩ (pv 0) (Ę (PE.wk (Ų cT (by rfl) T.fG PyProof.Rows.boot_list (ę (Ą 2) Ī)) fun _ _ _ h=>wJ cU h)))))
theorem Qm(T:Tx K mg a):į P w K mg base (Ů P w) 2 a.KC a.KD ["numbers"] (ž ⟨K,ħ a⟩ 1 jQ):=by
 refine aO (cm:=ħ a) (mb:=vh) T.Ox ZaD rfl rfl rfl fun cdv A outer s H E hr=>?_
 have hu:=hr.units
 exact(Č (Ĥ (Ĳ (v_and (cQ aA (ş hu) (Ā (PE.wk (Ħ bU (by rfl) T.fQ PySem.boot_len (ę (Ą 0) Ī)) fun _ _ _ h=>Ū bV h)) (Ā Ă) (ł _)) (v_and (PE.wk (Ħ (t_ rfl) (by rfl) T.Ei PyProof.Rows.boot_all (ę (Ā (Ę (aJ ["number"] [] 1 (ĉ rY) rfl rfl (fL (Ę (cC (Ą 0) uy (aR Ă)))) (fun _ _ _ _ _=>(Į (i:=0) (show(["number"]:List Str).Nodup by decide +kernel) rfl (Or.inl rfl) (hf:=Or.inr rfl))) (fun _ _ _ _ _=>Ŭ) (fun _ _ _ _ _=>(Ę (ē (qm T) Ċ (hr.mono (by decide)) rfl T.cX T.tH.kp T.zB aK (ć 0 (hr:=ď))))) trivial))) Ī)) fun _ _ _ h=>Ū uD h) (jD (Ę (ē (Qj T) Ċ (hr.mono (by decide)) rfl T.mj T.Ou.kp T.Vk ġ (ė (ĥ ĕ Ĕ (Ą 0) (Ā Ă) (fun _ _=>rfl)) ď)))))))))
theorem Za5(T:Tx K mg a):į P w K mg base (Ů P w) 3 a.KH a.KJ ["numbers"] (ž ⟨K,ħ a⟩ 1 pN):=by
 refine aO (cm:=ħ a) (mb:=vm) T.Vn ZaE rfl rfl rfl fun cdv A outer s H E hr=>?_
 have hu:=hr.units
 exact(Č (Ĥ (Ĳ (v_and (Ę (ē (Qm T) Ċ (hr.mono (by decide)) rfl T.jQ T.Ox.kp T.Vm ġ (ć 0 (hr:=ď)))) (jD (cQ wR (ou hu) (Ā (Ę (cC (Ą 0) uy (aR Ă)))) (Ā (Ę (cC (Ą 0) (aR Ă) (aR Ă)))) (ł _)))))))
theorem Wm(T:Tx K mg a):į P w K mg base (Ů P w) 3 a.YQ a.YT ["numbers"] (ž ⟨K,ħ a⟩ 1 vo):=by
 refine aO (cm:=ħ a) (mb:=DX) T.Zak ZeQ rfl rfl rfl fun cdv A outer s H E hr=>?_
 have hu:=hr.units
 exact(Č (Ĥ (Ĳ (v_and (Ę (ē (Qm T) Ċ (hr.mono (by decide)) rfl T.jQ T.Ox.kp T.Vm ġ (ć 0 (hr:=ď)))) (v_and (cQ oN oh (Ā (ĥ ĕ Ĕ (Ą 0) (Ā Ă) (fun _ _=>rfl))) (Ā (ĥ ĕ Ĕ (Ą 0) (Ā Ă) (fun _ _=>rfl))) (ł _)) (jD (cQ oN oh (Ā (ĥ ĕ Ĕ (Ą 0) (Ā Ă) (fun _ _=>rfl))) (Ā (ĥ ĕ Ĕ (Ą 0) (Ā Ă) (fun _ _=>rfl))) (ł _))))))))
theorem ZeW(T:Tx K mg a):į P w K mg base (Ů P w) 2 a.YW a.YX ["numbers"] (ž ⟨K,ħ a⟩ 1 Gh):=by
 refine aO (cm:=ħ a) (mb:=JL) T.Zed ZeR rfl rfl rfl fun cdv A outer s H E hr=>?_
 have hu:=hr.units
 exact(Č (Ĥ (Ĳ (v_and (Ę (ē (qm T) Ċ (hr.mono (by decide)) rfl T.cX T.tH.kp T.zB ġ (ė (ĥ ĕ Ĕ (Ą 0) (Ā Ă) (fun _ _=>rfl)) ď))) (v_and (Ę (ē (qm T) Ċ (hr.mono (by decide)) rfl T.cX T.tH.kp T.zB ġ (ė (ĥ ĕ Ĕ (Ą 0) (Ā Ă) (fun _ _=>rfl)) ď))) (jD (qY iB iB iw iw (Ā Ă) (Ā (ĥ ĕ Ĕ (Ą 0) (Ā Ă) (fun _ _=>rfl))) (Ā (lV (.int (1000000000)) (Ś (v:=.int (1000000000)) rfl T.i_ ⟨_,rfl⟩))))))))))
theorem Za6(T:Tx K mg a):į P w K mg base (Ů P w) 3 a.KN a.KQ ["numbers"] (ž ⟨K,ħ a⟩ 1 pO):=by
 refine aO (cm:=ħ a) (mb:=vp) T.Vo ZaF rfl rfl rfl fun cdv A outer s H E hr=>?_
 have hu:=hr.units
 exact(@Č _ _ _ _ _ (@Ĥ _ _ _ _ _ _ (@Ĳ _ _ _ _ _ (@v_and _ _ _ _ _ _ _ _ _ (@cQ _ _ _ _ _ _ _ _ _ _ _ (@aA _) (@ş _ hu) (@Ā _ _ _ _ _ (@PE.wk _ _ _ _ (Ħ bU (by rfl) T.fQ PySem.boot_len (@ę _ _ _ _ _ _ _ (@Ą _ _ _ 0 _ _ (by rfl) (by first|exact Or.inl rfl|exact Or.inr (Or.inl rfl)|exact Or.inr (Or.inr rfl)) (by decide) (by decide)) (@Ī _ _ _) (by exact ī rfl))) (fun _ _ _ h=> @Ū _ _ _ _ _ _ (@bV _) _ _ _ h))) (@Ā _ _ _ _ _ (@Ă _ _ _ _ _ _)) (ł _)) (@jD _ _ _ _ _ _ _ (@PE.wk _ _ _ _ (Ħ (@t_ _ rfl) (by rfl) T.Ei PyProof.Rows.boot_all (@ę _ _ _ _ _ _ _ (@Ā _ _ _ _ _ (@Ę _ _ _ _ _ (aJ ["numbers","place"] [0] 1 (ĉ rZ) rfl rfl (@fL _ _ _ _ _ _ (@ŋ _ _ _ _ _ _ _ (@Ć _ _ _ _ _ _ _ (@Ă _ _ _ _ _ _) (@Ć _ _ _ _ _ _ _ (@Ă _ _ _ _ _ _) (@Ć _ _ _ _ _ _ _ (@Ă _ _ _ _ _ _) (@Ġ _ _ _) (by exact ī rfl)) (by exact ī rfl)) (by exact ī rfl)))) (fun _ _ _ _ _=>(@Į _ _ _ 1 _ (show(["numbers","place"]:List Str).Nodup by decide +kernel) rfl (Or.inl rfl) (Or.inr rfl))) (fun _ _ _ _ _=>(@Ŭ _ _ _)) (fun _ _ _ _ _=>(@Ę _ _ _ _ _ (@ē _ _ _ _ _ _ _ _ _ _ _ _ _ _ _ _ (ZeW T) Ċ (hr.mono (by decide)) rfl T.Gh T.Zed.kp T.Zl1 (@aK _ _ _) (@ė _ _ _ _ _ _ _ (@Ę _ _ _ _ _ (@cC _ _ _ _ _ _ _ _ _ _ _ (@Ą _ _ _ 0 _ _ (by rfl) (by first|exact Or.inl rfl|exact Or.inr (Or.inl rfl)|exact Or.inr (Or.inr rfl)) (by decide) (by decide)) (@aR _ _ _ _ _ (@v_var _ _ _ 1 _ _ (by rfl) (by first|exact Or.inl rfl|exact Or.inr (Or.inl rfl)|exact Or.inr (Or.inr rfl)) (by decide) (by decide))) (@aR _ _ _ _ _ (@Ę _ _ _ _ _ (@Ņ _ _ _ _ _ _ _ _ _ _ _ (@ĭ _) (@Ĭ _) (@Ą _ _ _ 1 _ _ (by rfl) (by first|exact Or.inl rfl|exact Or.inr (Or.inl rfl)|exact Or.inr (Or.inr rfl)) (by decide) (by decide)) (@Ā _ _ _ _ _ (@Ă _ _ _ _ _ _))))))) (@ď _ _ _) (by exact ī rfl)) (by decide) (by exact ī rfl) (by rfl)))) ⟨rfl,⟨rfl,Or.inl rfl⟩,trivial⟩))) (@Ī _ _ _) (by exact ī rfl))) (fun _ _ _ h=> @Ū _ _ _ _ _ _ (@uD _) _ _ _ h)))))))
theorem Za7(T:Tx K mg a):į P w K mg base (Ů P w) 4 a.KR a.KY ["word","numbers"] (ž ⟨K,ħ a⟩ 2 cN):=by
 refine aO (cm:=ħ a) (mb:=gJ) T.Vp ZaG rfl rfl rfl fun cdv A outer s H E hr=>?_
 have hu:=hr.units
 exact(ċ (Ż (PW.pt (w_and (ŷ aA (ş hu) (Ą 0) (Ā ű) (ł _)) (jg (Ũ (Ā (Ę (ē (Za4 T) Ċ (hr.mono (by decide)) rfl T.pI T.Vl.kp T.Zea ġ (ć 1 (hr:=ď)))))))))
  (Č (Ĥ (Ĳ (lq T.Zat (Qk T) cD (hr.mono (by decide)) rfl T.Zam T.Ow ġ (ć 0 (hr:=(ć 1 (hr:=ď))))))))
  ņ)
  (ċ (Ż (PW.pt (w_and (ŷ aA (ş hu) (Ą 0) (Ā ű) (ł _)) (jg (Ũ (Ā (Ę (ē (Za5 T) Ċ (hr.mono (by decide)) rfl T.pN T.Vn.kp T.Zeb ġ (ć 1 (hr:=ď)))))))))
  (Č (Ĥ (Ĳ (lq T.Ua (Gp T) cD (hr.mono (by decide)) rfl T.TJ T.Ow ġ (ć 0 (hr:=(ć 1 (hr:=ď))))))))
  ņ)
  (ċ (Ż (PW.pt (w_and (ŷ aA (ş hu) (Ą 0) (Ā ű) (ł _)) (jg (Ũ (Ā (Ę (ē (Wm T) Ċ (hr.mono (by decide)) rfl T.vo T.Zak.kp T.Zec ġ (ć 1 (hr:=ď)))))))))
  (Č (Ĥ (Ĳ (lq T.Zau (Ql T) cD (hr.mono (by decide)) rfl T.Zan T.Ow ġ (ć 0 (hr:=(ć 1 (hr:=ď))))))))
  ņ)
  (ċ (Ż (PW.pt (w_and (ŷ aA (ş hu) (Ą 0) (Ā ű) (ł _)) (jg (Ũ (Ā (Ę (ē (Za6 T) Ċ (hr.mono (by decide)) rfl T.pO T.Vo.kp T.Zee ġ (ć 1 (hr:=ď)))))))))
  (Č (Ĥ (Ĳ (lq T.Ub (Gq T) cD (hr.mono (by decide)) rfl T.TQ T.Ow ġ (ć 0 (hr:=(ć 1 (hr:=ď))))))))
  ņ)
  (ċ (Ż (PW.pt (w_and (ŷ aA (ş hu) (Ą 0) (Ā ű) (ł _)) (jg (Ũ (Ā (Ę (ē (Wm T) Ċ (hr.mono (by decide)) rfl T.vo T.Zak.kp T.Zec ġ (ć 1 (hr:=ď)))))))))
  (Č (Ĥ (Ĳ (lq T.Uc (Gs T) cD (hr.mono (by decide)) rfl T.TX T.Ow ġ (ć 0 (hr:=(ć 1 (hr:=ď))))))))
  ņ)
  (Č (wX (C:= "BadThing") rfl rfl nJ rfl T.jt T.BZ)))))))
theorem Qn(T:Tx K mg a):į P w K mg base (Ů P w) 1 a.KZ a.K_ ["_law_caught","_law_stone"] (ž ⟨K,ħ a⟩ 2 iJ):=by
 refine aO (cm:=ħ a) (mb:=Ba) T.Oz ZaH rfl rfl rfl fun cdv A outer s H E hr=>?_
 have hu:=hr.units
 exact(ċ (Ż (PW.pt (w_or (dD (Ũ (Ā (PE.wk (Ħ bJ (by rfl) T.ō PyProof.Rows.boot_isinstance (ę (Ą 0) (ę (Ā (lV (.cls "NoStone") (Ś (v:=.ref (ħ a "NoStone")) rfl T.lM rfl))) Ī))) fun _ _ _ h=>Ū (bK T.iC T.iT T.iD T.iN) h)))) (w_or (dD (Ũ (Ā (PE.wk (Ħ bJ (by rfl) T.ō PyProof.Rows.boot_isinstance (ę (Ą 0) (ę (Ā (lV (.ty "ValueError") (nD (v:=.ty "ValueError") rfl T.jX (show bootBuiltins "ValueError" =some (.type "ValueError") by kernel_rfl) rfl))) Ī))) fun _ _ _ h=>Ū (bK T.iC T.iT T.iD T.iN) h)))) (HY (ŷ wR (ou hu) (Ā (oX ["NoStone"] ⟨⟨T.lN,T.bW⟩,trivial⟩ (v_var 0))) (Ą 1) (ł _))))))
  (Č (Ĥ (Ĳ kY)))
  ņ)
  (ċ (Ż (PW.pt (w_or (dD (Ũ (Ā (PE.wk (Ħ bJ (by rfl) T.ō PyProof.Rows.boot_isinstance (ę (Ā (oX ["NoStone"] ⟨⟨T.lN,T.bW⟩,trivial⟩ (v_var 0))) (ę (Ā (lV (.ty "tuple") (nD (v:=.ty "tuple") rfl T.Ek PyProof.Rows.boot_tuple rfl))) Ī))) fun _ _ _ h=>Ū (bK T.iC T.iT T.iD T.iN) h)))) (w_or (Ũ (Ā (PE.wk (Ħ bJ (by rfl) T.ō PyProof.Rows.boot_isinstance (ę (Ą 0) (ę (Ā (lV (.cls "NoTurn") (Ś (v:=.ref (ħ a "NoTurn")) rfl T.qd rfl))) Ī))) fun _ _ _ h=>Ū (bK T.iC T.iT T.iD T.iN) h))) (HY (Ũ (Ā (PE.wk (Ħ bJ (by rfl) T.ō PyProof.Rows.boot_isinstance (ę (Ą 0) (ę (Ā (lV (.cls "NoNumber") (Ś (v:=.ref (ħ a "NoNumber")) rfl T.jr rfl))) Ī))) fun _ _ _ h=>Ū (bK T.iC T.iT T.iD T.iN) h)))))))
  (Č (Ĥ (Ĳ kY)))
  ņ)
  (Č (Ĥ (Ĳ (v_not (PE.wk (Ħ DQ (by rfl) T.ō PyProof.Rows.boot_isinstance (ę (Ą 0) (ę (Ā (ŋ (Ć (lV (.cls "BadRow") (Ś (v:=.ref (ħ a "BadRow")) rfl T.zF rfl)) (Ć (lV (.cls "BadThing") (Ś (v:=.ref (ħ a "BadThing")) rfl T.jt rfl)) (Ć (lV (.cls "NoDay") (Ś (v:=.ref (ħ a "NoDay")) rfl T.Eh rfl)) (Ć (lV (.cls "NoRow") (Ś (v:=.ref (ħ a "NoRow")) rfl T.Ef rfl)) Ġ)))))) Ī))) fun _ _ _ h=>Ū (DW T.iC T.iT T.iD T.iN) h)))))))
theorem Za8(T:Tx K mg a):į P w K mg base (Ů P w) 1 a.La a.Lb ["_law_caught","_law_day"] (ž ⟨K,ħ a⟩ 2 mq):=by
 refine aO (cm:=ħ a) (mb:=Bb) T.Vr ZaI rfl rfl rfl fun cdv A outer s H E hr=>?_
 have hu:=hr.units
 exact(ċ (Ż (PW.pt (w_or (dD (Ũ (Ā (PE.wk (Ħ bJ (by rfl) T.ō PyProof.Rows.boot_isinstance (ę (Ą 0) (ę (Ā (lV (.cls "NoTurn") (Ś (v:=.ref (ħ a "NoTurn")) rfl T.qd rfl))) Ī))) fun _ _ _ h=>Ū (bK T.iC T.iT T.iD T.iN) h)))) (w_or (dD (Ũ (Ā (PE.wk (Ħ bJ (by rfl) T.ō PyProof.Rows.boot_isinstance (ę (Ą 0) (ę (Ā (lV (.ty "ValueError") (nD (v:=.ty "ValueError") rfl T.jX (show bootBuiltins "ValueError" =some (.type "ValueError") by kernel_rfl) rfl))) Ī))) fun _ _ _ h=>Ū (bK T.iC T.iT T.iD T.iN) h)))) (HY (Ũ (Ā (PE.wk (Ħ bJ (by rfl) T.ō PyProof.Rows.boot_isinstance (ę (Ą 0) (ę (Ā (lV (.cls "NoStone") (Ś (v:=.ref (ħ a "NoStone")) rfl T.lM rfl))) Ī))) fun _ _ _ h=>Ū (bK T.iC T.iT T.iD T.iN) h)))))))
  (Č (Ĥ (Ĳ kY)))
  ņ)
  (ċ (Ż (Ũ (Ā (PE.wk (Ħ DQ (by rfl) T.ō PyProof.Rows.boot_isinstance (ę (Ą 0) (ę (Ā (ŋ (Ć (lV (.cls "BadRow") (Ś (v:=.ref (ħ a "BadRow")) rfl T.zF rfl)) (Ć (lV (.cls "BadThing") (Ś (v:=.ref (ħ a "BadThing")) rfl T.jt rfl)) (Ć (lV (.cls "NoDay") (Ś (v:=.ref (ħ a "NoDay")) rfl T.Eh rfl)) (Ć (lV (.cls "NoNumber") (Ś (v:=.ref (ħ a "NoNumber")) rfl T.jr rfl)) (Ć (lV (.cls "NoRow") (Ś (v:=.ref (ħ a "NoRow")) rfl T.Ef rfl)) Ġ))))))) Ī))) fun _ _ _ h=>Ū (DW T.iC T.iT T.iD T.iN) h)))
  (Č (Ĥ (Ĳ kY)))
  ņ)
  (Č (Ĥ (Ĳ (v_and (v_not (PE.wk (Ħ bJ (by rfl) T.ō PyProof.Rows.boot_isinstance (ę (Ā (oX ["NoTurn"] ⟨⟨T.gO,T.fC⟩,trivial⟩ (v_var 0))) (ę (Ā (lV (.ty "bool") (nD (v:=.ty "bool") rfl T.Zav PyProof.Rows.boot_bool rfl))) Ī))) fun _ _ _ h=>Ū (bK T.iC T.iT T.iD T.iN) h)) (v_and (cQ aA (ş hu) (Ā (oX ["NoTurn"] ⟨⟨T.gO,T.fC⟩,trivial⟩ (v_var 0))) (Ą 1) (ł _)) (jD (cQ Ih zR (Ā (oX ["NoTurn"] ⟨⟨T.gO,T.iW⟩,trivial⟩ (v_var 0))) (Ā lW) (ł _))))))))))
theorem Za9(T:Tx K mg a):į P w K mg base (Ů P w) 1 a.Ld a.Le ["yard","stone"] (ž ⟨K,ħ a⟩ 2 gK):=by
 refine aO (cm:=ħ a) (mb:=jq) T.Vs ZaJ rfl rfl rfl fun cdv A outer s H E hr=>?_
 have hu:=hr.units
 exact(Č (Ĥ (Ĳ (v_and (qY iB oN iw oh (Ā Ă) (Ā (ĥ ĕ Ĕ (Ą 1) (Ā Ă) (fun _ _=>rfl))) (Ā (dM ["Yard"] ⟨⟨T.dj,T.jV⟩,trivial⟩ (Ą 0)))) (jD (qY iB oN iw oh (Ā Ă) (Ā (ĥ ĕ Ĕ (Ą 1) (Ā Ă) (fun _ _=>rfl))) (Ā (dM ["Yard"] ⟨⟨T.dj,T.iY⟩,trivial⟩ (Ą 0)))))))))
theorem Qo(T:Tx K mg a):į P w K mg base (Ů P w) 3 a.Lf a.Lg ["yard","stone"] (ž ⟨K,ħ a⟩ 2 iK):=by
 refine aO (cm:=ħ a) (mb:=vq) T.OD ZaK rfl rfl rfl fun cdv A outer s H E hr=>?_
 have hu:=hr.units
 exact(Č (Ż (dD (Ũ (Ā (Ę (ē (Za9 T) Ċ (hr.mono (by decide)) rfl T.gK T.Vs.kp T.Zeh ġ (ć 0 (hr:=(ć 1 (hr:=ď)))))))))
  (Č (xJ (C:= "NoStone") rfl rfl nJ T.Gn (ZeU T) (hr.mono (by decide)) rfl T.lM T.Zl6 ġ (Ć (v_var 1) Ġ)))
  ņ))
theorem Za_(T:Tx K mg a):į P w K mg base (Ů P w) 1 a.Li a.Lj ["yard","day"] (ž ⟨K,ħ a⟩ 2 jR):=by
 refine aO (cm:=ħ a) (mb:=pP) T.Vu ZaL rfl rfl rfl fun cdv A outer s H E hr=>?_
 have hu:=hr.units
 exact(Č (Ĥ (Ĳ (qY iB oN iw oh (Ā Ă) (Ą 1) (Ā (PE.wk (Ħ bU (by rfl) T.fQ PySem.boot_len (ę (Ā (dM ["Yard"] ⟨⟨T.dj,T.cY⟩,trivial⟩ (Ą 0))) Ī)) fun _ _ _ h=>Ū bV h))))))
theorem Zba(T:Tx K mg a):į P w K mg base (Ů P w) 3 a.Lk a.Lp ["yard","day"] (ž ⟨K,ħ a⟩ 2 mz):=by
 refine aO (cm:=ħ a) (mb:=vA) T.Vv ZaM rfl rfl rfl fun cdv A outer s H E hr=>?_
 have hu:=hr.units
 exact(Č (Ż (dD (Ũ (Ā (Ę (ē (Za_ T) Ċ (hr.mono (by decide)) rfl T.jR T.Vu.kp T.Zei ġ (ć 0 (hr:=(ć 1 (hr:=ď)))))))))
  (Č (xJ (C:= "NoTurn") rfl rfl nJ T.Pz (ZeV T) (hr.mono (by decide)) rfl T.qd T.Zl8 ġ (Ć (v_var 1) (Ć lW Ġ))))
  ņ))
theorem Qp(T:Tx K mg a):į P w K mg base (Ů P w) 1 a.Lq a.Lr ["yard","day"] (ž ⟨K,ħ a⟩ 2 mD):=by
 refine aO (cm:=ħ a) (mb:=Bc) T.OJ ZaN rfl rfl rfl fun cdv A outer s H E hr=>?_
 have hu:=hr.units
 exact(Č (Ĥ (Ĳ (ĥ ĕ Ĕ (Ā (ĥ ĕ Ĕ (Ā (dM ["Yard"] ⟨⟨T.dj,T.cY⟩,trivial⟩ (Ą 0))) (Ą 1) (fun _ _=>rfl))) (Ā Ă) (fun _ _=>rfl)))))
theorem Zbb(T:Tx K mg a):į P w K mg base (Ů P w) 1 a.Ls a.Lw ["points"] (ž ⟨K,ħ a⟩ 1 sS):=by
 refine aO (cm:=ħ a) (mb:=Bd) T.Vx B_ rfl rfl rfl fun cdv A outer s H E hr=>?_
 have hu:=hr.units
 exact(ċ (lu (i:=1) B_.nd rfl rfl ["point"] [] 1 (ĉ pG) rfl rfl (cJ 0) (fun _ _ _ _ _=>(Į (i:=0) (show(["point"]:List Str).Nodup by decide +kernel) rfl (Or.inl rfl) (hf:=Or.inr rfl))) (fun _ _ _ _ _=>Ŭ) (fun _ _ _ _ _=>(ĥ ĕ Ĕ (Ą 0) (Ā Ă) (fun _ _=>rfl))) trivial)
  (ċ (lu (i:=2) B_.nd rfl rfl ["point"] [] 1 (ĉ pG) rfl rfl (cJ 0) (fun _ _ _ _ _=>(Į (i:=0) (show(["point"]:List Str).Nodup by decide +kernel) rfl (Or.inl rfl) (hf:=Or.inr rfl))) (fun _ _ _ _ _=>Ŭ) (fun _ _ _ _ _=>(ĥ ĕ Ĕ (Ą 0) (Ā Ă) (fun _ _=>rfl))) trivial)
  (Č (Ĥ (ř (Ć (ŋ (Ć Ă (Ć Ă (Ć (PE.wk (Ħ (Am rfl) (by rfl) T.zH PyProof.Rows.boot_max (ę (Ą 1) Ī)) fun _ _ _ h=>Ū Aq h) Ġ)))) (Ć (ŋ (Ć (Fp kZ kO (Ā Ă)) (Ć Ă (Ć (Fp kZ kO (Ā (PE.wk (Ħ (Jo rfl) (by rfl) T.Ej PyProof.Rows.boot_min (ę (Ą 1) Ī)) fun _ _ _ h=>Ū Jq h))) Ġ)))) (Ć (ŋ (Ć Ă (Ć Ă (Ć (PE.wk (Ħ (Am rfl) (by rfl) T.zH PyProof.Rows.boot_max (ę (Ą 2) Ī)) fun _ _ _ h=>Ū Aq h) Ġ)))) (Ć (ŋ (Ć Ă (Ć (Fp kZ kO (Ā Ă)) (Ć (Fp kZ kO (Ā (PE.wk (Ħ (Jo rfl) (by rfl) T.Ej PyProof.Rows.boot_min (ę (Ą 2) Ī)) fun _ _ _ h=>Ū Jq h))) Ġ)))) Ġ)))))))))
theorem Zbc(T:Tx K mg a):į P w K mg base (Ů P w) 1 a.Lx a.Ly ["points"] (ž ⟨K,ħ a⟩ 1 sU):=by
 refine aO (cm:=ħ a) (mb:=Bf) T.Vy Cd rfl rfl rfl fun cdv A outer s H E hr=>?_
 have hu:=hr.units
 exact(ċ (İ (i:=1) Cd.nd rfl (Or.inl rfl) (ř Ġ))
  (ċ (cI PassesOwn.leaving rfl (cJ 0) (Į (i:=2) Cd.nd rfl (Or.inl rfl))
  (Č (Ż (ŷ YH (Ga hu) (Ą 2) (Ą 1) (by with_unfolding_all rfl))
  (Č (PS.wk (cP (nZ PySem.F.plainAttrs_list PySem.F.slot_list_append PySem.F.type_list_append bF (pv 1) (Ć (v_var 2) Ġ))) fun _ _ _ h=>jE h))
  ņ)))
  (Č (Ĥ (jB 1)))))
theorem Zbd(T:Tx K mg a):į P w K mg base (Ů P w) 1 a.Lz a.LC ["one","other"] (ž ⟨K,ħ a⟩ 2 sV):=by
 refine aO (cm:=ħ a) (mb:=Bg) T.Vz Ce rfl rfl rfl fun cdv A outer s H E hr=>?_
 have hu:=hr.units
 exact(ċ (İ (i:=2) Ce.nd rfl (Or.inl rfl) (Ĳ (Ē Ő ŏ (Ā (ĥ ĕ Ĕ (Ą 1) (Ā Ă) (fun _ _=>rfl))) (Ā (ĥ ĕ Ĕ (Ą 0) (Ā Ă) (fun _ _=>rfl))))))
  (ċ (İ (i:=3) Ce.nd rfl (Or.inl rfl) (Ĳ (Ē Ő ŏ (Ā (ĥ ĕ Ĕ (Ą 0) (Ā Ă) (fun _ _=>rfl))) (Ā (ĥ ĕ Ĕ (Ą 1) (Ā Ă) (fun _ _=>rfl))))))
  (Č (Ĥ (Ĳ (ŋ (Ć (v_var 2) (Ć (v_var 3) (Ć (Ę (Ņ ĭ Ĭ (Ā (Ē Ň ĵ (Ą 2) (Ā (ĥ ĕ Ĕ (Ą 0) (Ā Ă) (fun _ _=>rfl))))) (Ā (Ē Ň ĵ (Ą 3) (Ā (ĥ ĕ Ĕ (Ą 0) (Ā Ă) (fun _ _=>rfl))))))) Ġ)))))))))
theorem Qq(T:Tx K mg a):į P w K mg base (Ů P w) 1 a.LQ a.LR ["line","pair"] (ž ⟨K,ħ a⟩ 2 iM):=by
 refine aO (cm:=ħ a) (mb:=Bh) T.O_ ZaO rfl rfl rfl fun cdv A outer s H E hr=>?_
 have hu:=hr.units
 exact(Č (Ĥ (Ĳ (cQ iB iw (Ā (Ę (Ņ ĭ Ĭ (Ā (Ē Ň ĵ (Ā (ĥ ĕ Ĕ (Ą 0) (Ā Ă) (fun _ _=>rfl))) (Ā (ĥ ĕ Ĕ (Ą 1) (Ā Ă) (fun _ _=>rfl))))) (Ā (Ē Ň ĵ (Ā (ĥ ĕ Ĕ (Ą 0) (Ā Ă) (fun _ _=>rfl))) (Ā (ĥ ĕ Ĕ (Ą 1) (Ā Ă) (fun _ _=>rfl)))))))) (Ā (ĥ ĕ Ĕ (Ą 0) (Ā Ă) (fun _ _=>rfl))) (ł _)))))
theorem Zbe(T:Tx K mg a):į P w K mg base (Ů P w) 2 a.L_ a.Ma ["points"] (ž ⟨K,ħ a⟩ 1 sW):=by
 refine aO (cm:=ħ a) (mb:=Bj) T.VD lO rfl rfl rfl fun cdv A outer s H E hr=>?_
 have hu:=hr.units
 exact(ċ (İ (i:=1) lO.nd rfl (Or.inl rfl) (ř Ġ))
  (ċ (İ (i:=2) lO.nd rfl (Or.inl rfl) (ē (Zbc T) Ċ (hr.mono (by decide)) rfl T.sU T.Vy.kp T.Zel ġ (ć 0 (hr:=ď))))
  (ċ (cI PassesOwn.leaving rfl (cJ 2) (Į (i:=3) lO.nd rfl (Or.inl rfl))
  (Č (cI PassesOwn.leaving rfl (cJ 2) (Į (i:=4) lO.nd rfl (Or.inl rfl))
  (ċ (İ (i:=5) lO.nd rfl (by first|exact Or.inl rfl|exact Or.inr rfl) (ē (Zbd T) Ċ (hr.mono (by decide)) rfl T.sV T.Vz.kp T.Zem ġ (ć 3 (hr:=(ć 4 (hr:=ď))))))
  (Č (Ż (PW.pt (w_and (ŷ wR (ou hu) (Ą 3) (Ą 4) (ł _)) (jg (Ũ (Ā (PE.wk (Ħ (t_ rfl) (by rfl) T.Ei PyProof.Rows.boot_all (ę (Ā (Ę (aJ ["line","point"] [5] 1 (ĉ su) rfl rfl (cJ 2) (fun _ _ _ _ _=>(Į (i:=1) (show(["line","point"]:List Str).Nodup by decide +kernel) rfl (Or.inl rfl) (hf:=Or.inr rfl))) (fun _ _ _ _ _=>Ŭ) (fun _ _ _ _ _=>(Ę (ē (Qq T) Ċ (hr.mono (by decide)) rfl T.iM T.O_.kp T.VB aK (ć 0 (hr:=(ć 1 (hr:=ď))))))) ⟨rfl,⟨rfl,Or.inl rfl⟩,trivial⟩))) Ī)) fun _ _ _ h=>Ū uD h))))))
  (Č (PS.wk (cP (nZ PySem.F.plainAttrs_list PySem.F.slot_list_append PySem.F.type_list_append bF (pv 1) (Ć (v_var 5) Ġ))) fun _ _ _ h=>jE h))
  ņ))))))
  (Č (Ĥ (jB 1))))))
theorem Zbf(T:Tx K mg a):į P w K mg base (Ů P w) 3 a.Mf a.Mg ["points"] (ž ⟨K,ħ a⟩ 1 sX):=by
 refine aO (cm:=ħ a) (mb:=Bk) T.VF ZaP rfl rfl rfl fun cdv A outer s H E hr=>?_
 have hu:=hr.units
 exact(Č (Ĥ (Ņ ĭ Ĭ (Ā (Ę (ē (Zbb T) Ċ (hr.mono (by decide)) rfl T.sS T.Vx.kp T.Zek ġ (ć 0 (hr:=ď))))) (Ā (Ę (ē (Zbe T) Ċ (hr.mono (by decide)) rfl T.sW T.VD.kp T.Zen ġ (ć 0 (hr:=ď))))))))
theorem Zbg(T:Tx K mg a):į P w K mg base (Ů P w) 4 a.Mh a.Mi ["points","point"] (ž ⟨K,ħ a⟩ 2 pQ):=by
 refine aO (cm:=ħ a) (mb:=vD) T.VG PL rfl rfl rfl fun cdv A outer s H E hr=>?_
 have hu:=hr.units
 exact(ċ (cI PassesOwn.leaving rfl (fL (Ę (ē (Zbf T) Ċ (hr.mono (by decide)) rfl T.sX T.VF.kp T.Zeo ġ (ć 0 (hr:=ď))))) (Į (i:=2) PL.nd rfl (Or.inl rfl))
  (Č (Ż (dD (Ũ (Ā (Ę (ē (Qq T) Ċ (hr.mono (by decide)) rfl T.iM T.O_.kp T.VB ġ (ć 2 (hr:=(ć 1 (hr:=ď)))))))))
  (Č (Ĥ (jB 2)))
  ņ)))
  (Č (Ĥ (Ĳ lW))))
theorem Qs(T:Tx K mg a):į P w K mg base (Ů P w) 1 a.Mj a.Ml ["many"] (ž ⟨K,ħ a⟩ 1 mF):=by
 refine aO (cm:=ħ a) (mb:=Bl) T.Pa Cg rfl rfl rfl fun cdv A outer s H E hr=>?_
 have hu:=hr.units
 exact(ċ (İ (i:=1) Cg.nd rfl (Or.inl rfl) (ř Ġ))
  (ċ (cI PassesOwn.leaving rfl (ſ rfl T.aH (Ć (v_var 0) Ġ)) (Į (i:=2) Cg.nd rfl (by first|exact Or.inl rfl|exact Or.inr rfl))
  (Č (PS.wk (cP (nZ PySem.F.plainAttrs_list PySem.F.slot_list_extend PySem.F.type_list_extend qT (pv 1) (cA (aJ ["second","first"] [2] 1 (ĉ sy) rfl rfl (ſ rfl T.aH (Ć (v_var 2) Ġ)) (fun _ _ _ _ _=>(Į (i:=1) (show(["second","first"]:List Str).Nodup by decide +kernel) rfl (Or.inl rfl) (hf:=Or.inr rfl))) (fun _ _ _ _ _=>Ŭ) (fun _ _ _ _ _=>(ŋ (Ć (v_var 1) (Ć (v_var 0) Ġ)))) ⟨rfl,⟨rfl,Or.inl rfl⟩,trivial⟩) jd))) fun _ _ _ h=>DN h)))
  (Č (Ĥ (jB 1)))))
theorem ZeX(T:Tx K mg a):į P w K mg base (Ů P w) 2 a.YZ a.Y_ ["many"] (ž ⟨K,ħ a⟩ 1 Gi):=by
 refine aO (cm:=ħ a) (mb:=JM) T.Zeq PN rfl rfl rfl fun cdv A outer s H E hr=>?_
 have hu:=hr.units
 exact(ċ (İ (i:=1) PN.nd rfl (Or.inl rfl) (ř Ġ))
  (ċ (cI PassesOwn.leaving rfl (ſ rfl T.aH (Ć (v_var 0) Ġ)) (Į (i:=2) PN.nd rfl (by first|exact Or.inl rfl|exact Or.inr rfl))
  (Č (PS.wk (cP (nZ PySem.F.plainAttrs_list PySem.F.slot_list_extend PySem.F.type_list_extend qT (pv 1) (cA (aJ ["third","pair"] [2] 1 (ĉ Gg) rfl rfl (Jx (fL (Ę (ē (Qs T) Ċ (hr.mono (by decide)) rfl T.mF T.Pa.kp T.VH aK (ć 2 (hr:=ď)))))) (fun _ _ _ _ _=>(Į (i:=1) (show(["third","pair"]:List Str).Nodup by decide +kernel) rfl (Or.inl rfl) (hf:=Or.inr rfl))) (fun _ _ _ _ _=>Ŭ) (fun _ _ _ _ _=>(ŋ (Ć (ĥ ĕ Ĕ (Ą 1) (Ā Ă) (fun _ _=>rfl)) (Ć (ĥ ĕ Ĕ (Ą 1) (Ā Ă) (fun _ _=>rfl)) (Ć (v_var 0) Ġ))))) ⟨rfl,⟨rfl,Or.inl rfl⟩,trivial⟩) jd))) fun _ _ _ h=>DN h)))
  (Č (Ĥ (jB 1)))))
theorem ZeY(T:Tx K mg a):į P w K mg base (Ů P w) 1 a.Z_ a.Zaa ["one","other"] (ž ⟨K,ħ a⟩ 2 Gj):=by
 refine aO (cm:=ħ a) (mb:=JN) T.Zer El rfl rfl rfl fun cdv A outer s H E hr=>?_
 have hu:=hr.units
 exact(ċ (RM PassesOwn.leaving (ŷ wR (ou hu) (Ą 1) (Ā Ă) (ł _))
  (ċ (İ (i:=2) El.nd rfl (Or.inl rfl) (Ĳ (Ē ļ ĺ (Ą 0) (Ą 1))))
  (ċ (İ (i:=0) El.nd rfl (Or.inl rfl) (Ĳ (v_var 1)))
  (Č (İ (i:=1) El.nd rfl (Or.inl rfl) (Ĳ (v_var 2)))))))
  (Č (Ĥ (Ĳ (PE.wk (Ħ XH (by rfl) T.ZeN PyProof.Rows.boot_abs (ę (Ą 0) Ī)) fun _ _ _ h=>Ū Ym h)))))
theorem Qt(T:Tx K mg a):į P w K mg base (Ů P w) 2 a.Mp a.Mq ["top","bottom"] (ž ⟨K,ħ a⟩ 2 gM):=by
 refine aO (cm:=ħ a) (mb:=vG) T.Pb Ci rfl rfl rfl fun cdv A outer s H E hr=>?_
 have hu:=hr.units
 exact(ċ (Ż (ŷ aA (ş hu) (Ą 1) (Ā Ă) (ł _))
  (Č (wX (C:= "NoNumber") rfl rfl nJ rfl T.jr T.BX))
  ņ)
  (ċ (İ (i:=2) Ci.nd rfl (Or.inl rfl) (ē (ZeY T) Ċ (hr.mono (by decide)) rfl T.Gj T.Zer.kp T.Zl3 ġ (ć 0 (hr:=(ć 1 (hr:=ď))))))
  (ċ (Ż (ŷ oN oh (Ą 1) (Ā Ă) (ł _))
  (Č (İ (i:=2) Ci.nd rfl (Or.inl rfl) (Ĳ (Fp kZ kO (Ą 2)))))
  ņ)
  (Č (Ĥ (Ĳ (ŋ (Ć (Ē Ŧ Œ (Ą 0) (Ą 2)) (Ć (Ē Ŧ Œ (Ą 1) (Ą 2)) Ġ)))))))))
theorem Ck(T:Tx K mg a):į P w K mg base (Ů P w) 3 a.Mr a.Ms ["shares","places","many"] (ž ⟨K,ħ a⟩ 3 dU):=by
 refine aO (cm:=ħ a) (mb:=lK) T.DY qj rfl rfl rfl fun cdv A outer s H E hr=>?_
 have hu:=hr.units
 exact(ċ (İ (i:=3) qj.nd rfl (by first|exact Or.inl rfl|exact Or.inr rfl) (Ĳ (PE.wk (Ħ (Jm rfl) (by rfl) T.Wk PyProof.Rows.boot_sum (ę (Ą 0) Ī)) fun _ _ _ h=>Ū Jp h)))
  (ċ (lu (i:=4) qj.nd rfl rfl ["whole","place"] [3] 1 (ĉ sE) rfl rfl (ſ rfl T.aH (Ć (v_var 2) Ġ)) (fun _ _ _ _ _=>(Į (i:=1) (show(["whole","place"]:List Str).Nodup by decide +kernel) rfl (Or.inl rfl) (hf:=Or.inr rfl))) (fun _ _ _ _ _=>Ŭ) (fun _ _ _ _ _=>(Ę (ē (Qt T) Ċ (hr.mono (by decide)) rfl T.gM T.Pb.kp T.VJ aK (ė Ă (ć 0 (hr:=ď)))))) ⟨rfl,⟨rfl,Or.inl rfl⟩,trivial⟩)
  (ċ (cI PassesOwn.leaving rfl (ZdM rfl T.ZeP (UL 0) (UL 1)) (wK rfl (ů (Į (i:=5) qj.nd rfl (Or.inl rfl)) (ů (Į (i:=6) qj.nd rfl (Or.inl rfl)) jh)))
  (Č (Dl (i:=4) (Ę (ē (Qt T) Ċ (hr.mono (by decide)) rfl T.gM T.Pb.kp T.VJ ġ (ć 5 (hr:=(ć 3 (hr:=ď)))))) (v_var 6) (pv 4))))
  (Č (Ĥ (jB 4))))))
theorem Cm(T:Tx K mg a):į P w K mg base (Ů P w) 1 a.Mt a.Mu ["one","other","third"] (ž ⟨K,ħ a⟩ 3 iQ):=by
 refine aO (cm:=ħ a) (mb:=Bm) T.D_ P_ rfl rfl rfl fun cdv A outer s H E hr=>?_
 have hu:=hr.units
 exact(ċ (İ (i:=3) P_.nd rfl (Or.inl rfl) (Ĳ (Ē Ň ĵ (Ā (Ē Ő ŏ (Ā (ĥ ĕ Ĕ (Ą 1) (Ā Ă) (fun _ _=>rfl))) (Ā (ĥ ĕ Ĕ (Ą 0) (Ā Ă) (fun _ _=>rfl))))) (Ā (Ē Ő ŏ (Ā (ĥ ĕ Ĕ (Ą 2) (Ā Ă) (fun _ _=>rfl))) (Ā (ĥ ĕ Ĕ (Ą 0) (Ā Ă) (fun _ _=>rfl))))))))
  (Č (Ĥ (Ĳ (Ē Ő ŏ (Ą 3) (Ā (Ē Ň ĵ (Ā (Ē Ő ŏ (Ā (ĥ ĕ Ĕ (Ą 1) (Ā Ă) (fun _ _=>rfl))) (Ā (ĥ ĕ Ĕ (Ą 0) (Ā Ă) (fun _ _=>rfl))))) (Ā (Ē Ő ŏ (Ā (ĥ ĕ Ĕ (Ą 2) (Ā Ă) (fun _ _=>rfl))) (Ā (ĥ ĕ Ĕ (Ą 0) (Ā Ă) (fun _ _=>rfl))))))))))))
theorem ZeZ(T:Tx K mg a):į P w K mg base (Ů P w) 2 a.Zab a.Zac ["corners","point"] (ž ⟨K,ħ a⟩ 2 Gk):=by
 refine aO (cm:=ħ a) (mb:=JQ) T.Zes Em rfl rfl rfl fun cdv A outer s H E hr=>?_
 have hu:=hr.units
 exact(ċ (İ (i:=2) Em.nd rfl (Or.inl rfl) (Ĳ (ĥ ĕ Ĕ (Ą 0) (Ā Ă) (fun _ _=>rfl))))
  (ċ (İ (i:=3) Em.nd rfl (Or.inl rfl) (Ĳ (ĥ ĕ Ĕ (Ą 0) (Ā Ă) (fun _ _=>rfl))))
  (ċ (İ (i:=4) Em.nd rfl (Or.inl rfl) (Ĳ (ĥ ĕ Ĕ (Ą 0) (Ā Ă) (fun _ _=>rfl))))
  (Č (Ĥ (ř (Ć (Ę (ē (Cm T) Ċ (hr.mono (by decide)) rfl T.iQ T.D_.kp T.Ph ġ (ć 1 (hr:=(ć 3 (hr:=(ć 4 (hr:=ď)))))))) (Ć (Ę (ē (Cm T) Ċ (hr.mono (by decide)) rfl T.iQ T.D_.kp T.Ph ġ (ć 2 (hr:=(ć 1 (hr:=(ć 4 (hr:=ď)))))))) (Ć (Ę (ē (Cm T) Ċ (hr.mono (by decide)) rfl T.iQ T.D_.kp T.Ph ġ (ć 2 (hr:=(ć 3 (hr:=(ć 1 (hr:=ď)))))))) Ġ)))))))))
theorem Qu(T:Tx K mg a):į P w K mg base (Ů P w) 1 a.Mv a.Mw ["shares"] (ž ⟨K,ħ a⟩ 1 jT):=by
 refine aO (cm:=ħ a) (mb:=vI) T.Pj Qa rfl rfl rfl fun cdv A outer s H E hr=>?_
 have hu:=hr.units
 exact(ċ (İ (i:=1) Qa.nd rfl (by first|exact Or.inl rfl|exact Or.inr rfl) (Ĳ (PE.wk (Ħ (Jm rfl) (by rfl) T.Wk PyProof.Rows.boot_sum (ę (Ą 0) Ī)) fun _ _ _ h=>Ū Jp h)))
  (Č (Ĥ (Ĳ (v_and (cQ wR (ou hu) (Ą 1) (Ā Ă) (ł _)) (jD (PE.wk (Ħ (t_ rfl) (by rfl) T.Ei PyProof.Rows.boot_all (ę (Ā (Ę (aJ ["whole","share"] [1] 1 (ĉ sG) rfl rfl (cJ 0) (fun _ _ _ _ _=>(Į (i:=1) (show(["whole","share"]:List Str).Nodup by decide +kernel) rfl (Or.inl rfl) (hf:=Or.inr rfl))) (fun _ _ _ _ _=>Ŭ) (fun _ _ _ _ _=>(cQ Zdf ZcW (Ā (Ē Ň ĵ (Ą 1) (Ą 0))) (Ā Ă) (ł _))) ⟨rfl,⟨rfl,Or.inl rfl⟩,trivial⟩))) Ī)) fun _ _ _ h=>Ū uD h)))))))
theorem Zbh(T:Tx K mg a):į P w K mg base (Ů P w) 1 a.Mx a.Mz ["ends","point"] (ž ⟨K,ħ a⟩ 2 sY):=by
 refine aO (cm:=ħ a) (mb:=Bo) T.VN vY rfl rfl rfl fun cdv A outer s H E hr=>?_
 have hu:=hr.units
 exact(ċ (İ (i:=2) vY.nd rfl (Or.inl rfl) (Ĳ (Ē Ő ŏ (Ā (ĥ ĕ Ĕ (Ā (ĥ ĕ Ĕ (Ą 0) (Ā Ă) (fun _ _=>rfl))) (Ā Ă) (fun _ _=>rfl))) (Ā (ĥ ĕ Ĕ (Ā (ĥ ĕ Ĕ (Ą 0) (Ā Ă) (fun _ _=>rfl))) (Ā Ă) (fun _ _=>rfl))))))
  (ċ (İ (i:=3) vY.nd rfl (Or.inl rfl) (Ĳ (Ē Ő ŏ (Ā (ĥ ĕ Ĕ (Ā (ĥ ĕ Ĕ (Ą 0) (Ā Ă) (fun _ _=>rfl))) (Ā Ă) (fun _ _=>rfl))) (Ā (ĥ ĕ Ĕ (Ā (ĥ ĕ Ĕ (Ą 0) (Ā Ă) (fun _ _=>rfl))) (Ā Ă) (fun _ _=>rfl))))))
  (ċ (İ (i:=4) vY.nd rfl (Or.inl rfl) (Ņ ĭ Ĭ (Ā (Ē Ň ĵ (Ą 2) (Ā (Ē Ő ŏ (Ā (ĥ ĕ Ĕ (Ą 1) (Ā Ă) (fun _ _=>rfl))) (Ā (ĥ ĕ Ĕ (Ā (ĥ ĕ Ĕ (Ą 0) (Ā Ă) (fun _ _=>rfl))) (Ā Ă) (fun _ _=>rfl))))))) (Ā (Ē Ň ĵ (Ą 3) (Ā (Ē Ő ŏ (Ā (ĥ ĕ Ĕ (Ą 1) (Ā Ă) (fun _ _=>rfl))) (Ā (ĥ ĕ Ĕ (Ā (ĥ ĕ Ĕ (Ą 0) (Ā Ă) (fun _ _=>rfl))) (Ā Ă) (fun _ _=>rfl)))))))))
  (Č (Ĥ (ř (Ć (Ē Ő ŏ (Ā (Ę (Ņ ĭ Ĭ (Ā (Ē Ň ĵ (Ą 2) (Ą 2))) (Ā (Ē Ň ĵ (Ą 3) (Ą 3)))))) (Ą 4)) (Ć (v_var 4) Ġ))))))))
theorem Zbi(T:Tx K mg a):į P w K mg base (Ů P w) 4 a.MJ a.MK ["points","point"] (ž ⟨K,ħ a⟩ 2 mG):=by
 refine aO (cm:=ħ a) (mb:=pU) T.VP lQ rfl rfl rfl fun cdv A outer s H E hr=>?_
 have hu:=hr.units
 exact(ċ (İ (i:=2) lQ.nd rfl (Or.inl rfl) (Ĳ (PE.wk (Ħ bU (by rfl) T.fQ PySem.boot_len (ę (Ą 0) Ī)) fun _ _ _ h=>Ū bV h)))
  (ċ (cI PassesOwn.leaving rfl (fL (Ę (ē (ZeX T) Ċ (hr.mono (by decide)) rfl T.Gi T.Zeq.kp T.Zl2 ġ (ć 2 (hr:=ď))))) (Į (i:=3) lQ.nd rfl (Or.inl rfl))
  (ċ (İ (i:=4) lQ.nd rfl (Or.inl rfl) (ē (ZeZ T) Ċ (hr.mono (by decide)) rfl T.Gk T.Zes.kp T.Zl4 ġ (ė (Ę (aJ ["points","place"] [0] 1 (ĉ pH) rfl rfl (cJ 3) (fun _ _ _ _ _=>(Į (i:=1) (show(["points","place"]:List Str).Nodup by decide +kernel) rfl (Or.inl rfl) (hf:=Or.inr rfl))) (fun _ _ _ _ _=>Ŭ) (fun _ _ _ _ _=>(ĥ ĕ Ĕ (Ą 0) (Ą 1) (fun _ _=>rfl))) ⟨rfl,⟨rfl,Or.inl rfl⟩,trivial⟩)) (ć 1 (hr:=ď)))))
  (Č (Ż (Ũ (Ā (Ę (ē (Qu T) Ċ (hr.mono (by decide)) rfl T.jT T.Pj.kp T.VL ġ (ć 4 (hr:=ď))))))
  (Č (Ĥ (ē (Ck T) Ċ (hr.mono (by decide)) rfl T.dU T.DY.kp T.Pg ġ (ć 4 (hr:=(ć 3 (hr:=(ć 2 (hr:=ď)))))))))
  ņ))))
  (ċ (cI PassesOwn.leaving rfl (fL (Ę (ē (Qs T) Ċ (hr.mono (by decide)) rfl T.mF T.Pa.kp T.VH ġ (ć 2 (hr:=ď))))) (Į (i:=3) lQ.nd rfl (Or.inl rfl))
  (ċ (İ (i:=4) lQ.nd rfl (Or.inl rfl) (ē (Zbh T) Ċ (hr.mono (by decide)) rfl T.sY T.VN.kp T.Zet ġ (ė (Ę (aJ ["points","place"] [0] 1 (ĉ pH) rfl rfl (cJ 3) (fun _ _ _ _ _=>(Į (i:=1) (show(["points","place"]:List Str).Nodup by decide +kernel) rfl (Or.inl rfl) (hf:=Or.inr rfl))) (fun _ _ _ _ _=>Ŭ) (fun _ _ _ _ _=>(ĥ ĕ Ĕ (Ą 0) (Ą 1) (fun _ _=>rfl))) ⟨rfl,⟨rfl,Or.inl rfl⟩,trivial⟩)) (ć 1 (hr:=ď)))))
  (Č (Ż (Ũ (Ā (Ę (ē (Qu T) Ċ (hr.mono (by decide)) rfl T.jT T.Pj.kp T.VL ġ (ć 4 (hr:=ď))))))
  (Č (Ĥ (ē (Ck T) Ċ (hr.mono (by decide)) rfl T.dU T.DY.kp T.Pg ġ (ć 4 (hr:=(ć 3 (hr:=(ć 2 (hr:=ď)))))))))
  ņ))))
  (Č (Ĥ (ē (Ck T) Ċ (hr.mono (by decide)) rfl T.dU T.DY.kp T.Pg ġ (ė (Ę (ř (Ć Ă Ġ))) (ė (Ę (ř (Ć Ă Ġ))) (ć 2 (hr:=ď))))))))))
theorem Zbj(T:Tx K mg a):į P w K mg base (Ů P w) 5 a.MN a.MP ["points","point"] (ž ⟨K,ħ a⟩ 2 pW):=by
 refine aO (cm:=ħ a) (mb:=vL) T.VR Qc rfl rfl rfl fun cdv A outer s H E hr=>?_
 have hu:=hr.units
 exact(ċ (İ (i:=2) Qc.nd rfl (Or.inl rfl) (ē (Zbg T) Ċ (hr.mono (by decide)) rfl T.pQ T.VG.kp T.Zep ġ (ć 0 (hr:=(ć 1 (hr:=ď))))))
  (ċ (Ż (ŷ Ih zR (Ą 2) (Ā lW) (ł _))
  (Č (Ĥ (Ĳ (ŋ (Ć ű (Ć (Ę (ē (Zbi T) Ċ (hr.mono (by decide)) rfl T.mG T.VP.kp T.Zeu ġ (ć 0 (hr:=(ć 1 (hr:=ď)))))) Ġ))))))
  ņ)
  (Č (Ĥ (Ĳ (ŋ (Ć ű (Ć (v_var 2) Ġ))))))))
theorem Qw(T:Tx K mg a):į P w K mg base (Ů P w) 1 a.M_ a.Nb ["point","ray"] (ž ⟨K,ħ a⟩ 2 iR):=by
 refine aO (cm:=ħ a) (mb:=Bp) T.Pk ZaQ rfl rfl rfl fun cdv A outer s H E hr=>?_
 have hu:=hr.units
 exact(Č (Ĥ (Ĳ (ŋ (Ć (Ę (Ņ ĭ Ĭ (Ā (Ē Ň ĵ (Ā (ĥ ĕ Ĕ (Ą 1) (Ā Ă) (fun _ _=>rfl))) (Ā (ĥ ĕ Ĕ (Ą 0) (Ā Ă) (fun _ _=>rfl))))) (Ā (Ē Ň ĵ (Ā (ĥ ĕ Ĕ (Ą 1) (Ā Ă) (fun _ _=>rfl))) (Ā (ĥ ĕ Ĕ (Ą 0) (Ā Ă) (fun _ _=>rfl))))))) (Ć (Ę (Ņ ĭ Ĭ (Ā (Ē Ň ĵ (Ā (ĥ ĕ Ĕ (Ą 1) (Ā Ă) (fun _ _=>rfl))) (Ā (ĥ ĕ Ĕ (Ą 0) (Ā Ă) (fun _ _=>rfl))))) (Ā (Ē Ň ĵ (Ā (ĥ ĕ Ĕ (Ą 1) (Ā Ă) (fun _ _=>rfl))) (Ā (ĥ ĕ Ĕ (Ą 0) (Ā Ă) (fun _ _=>rfl))))))) Ġ))))))
theorem Cp(T:Tx K mg a):į P w K mg base (Ů P w) 1 a.Nf a.Ng ["x","y","u","v","z"] (ž ⟨K,ħ a⟩ 5 iU):=by
 refine aO (cm:=ħ a) (mb:=Bq) T.Ea ZaR rfl rfl rfl fun cdv A outer s H E hr=>?_
 have hu:=hr.units
 exact(Č (Ĥ (ř (Ć (ŋ (Ć (v_var 0) (Ć (v_var 1) (Ć (v_var 4) Ġ)))) (Ć (ŋ (Ć (v_var 2) (Ć (v_var 1) (Ć (v_var 4) Ġ)))) (Ć (ŋ (Ć (v_var 2) (Ć (v_var 3) (Ć (v_var 4) Ġ)))) (Ć (ŋ (Ć (v_var 0) (Ć (v_var 3) (Ć (v_var 4) Ġ)))) Ġ)))))))
theorem Qx(T:Tx K mg a):į P w K mg base (Ů P w) 2 a.Nh a.Ni ["x","y","u","v","h"] (ž ⟨K,ħ a⟩ 5 mH):=by
 refine aO (cm:=ħ a) (mb:=Br) T.Pq ZaS rfl rfl rfl fun cdv A outer s H E hr=>?_
 have hu:=hr.units
 exact(Č (Ĥ (Ņ ĭ Ĭ (Ā (Ę (ē (Cp T) Ċ (hr.mono (by decide)) rfl T.iU T.Ea.kp T.Pn ġ (ć 0 (hr:=(ć 1 (hr:=(ć 2 (hr:=(ć 3 (hr:=(ė Ă ď)))))))))))) (Ā (Ę (ē (Cp T) Ċ (hr.mono (by decide)) rfl T.iU T.Ea.kp T.Pn ġ (ć 0 (hr:=(ć 1 (hr:=(ć 2 (hr:=(ć 3 (hr:=(ć 4 (hr:=ď))))))))))))))))
theorem Zbk(T:Tx K mg a):į P w K mg base (Ů P w) 3 a.Nj a.Nk ["self"] (ž ⟨K,ħ a⟩ 1 mJ):=by
 refine aO (cm:=ħ a) (mb:=Bs) T.Zew Cj rfl rfl rfl fun cdv A outer s H E hr=>?_
 have hu:=hr.units
 exact(ċ (İ (i:=1) Cj.nd rfl (Or.inl rfl) (Ĳ (Ē Ň ĵ (Ā Ă) (Ā (ĥ ĕ Ĕ (Ā (dM ["Thing","Post","Fence","Sail","Cloth","House"] ⟨⟨T.Ť,T.Ķ⟩,⟨⟨T.ŵ,T.ŀ⟩,⟨⟨T.ś,T.ķ⟩,⟨⟨T.Ŷ,T.Ł⟩,⟨⟨T.Ŝ,T.ĸ⟩,⟨⟨T.ŝ,T.Ĺ⟩,trivial⟩⟩⟩⟩⟩⟩ (Ą 0))) (Ā Ă) (fun _ _=>rfl))))))
  (ċ (İ (i:=2) Cj.nd rfl (Or.inl rfl) (Ĳ (Ē Ň ĵ (Ā Ă) (Ā (ĥ ĕ Ĕ (Ā (dM ["Thing","Post","Fence","Sail","Cloth","House"] ⟨⟨T.Ť,T.Ķ⟩,⟨⟨T.ŵ,T.ŀ⟩,⟨⟨T.ś,T.ķ⟩,⟨⟨T.Ŷ,T.Ł⟩,⟨⟨T.Ŝ,T.ĸ⟩,⟨⟨T.ŝ,T.Ĺ⟩,trivial⟩⟩⟩⟩⟩⟩ (Ą 0))) (Ā Ă) (fun _ _=>rfl))))))
  (Č (Ĥ (ē (Qx T) Ċ (hr.mono (by decide)) rfl T.mH T.Pq.kp T.Wa ġ (ė (Ē Ő ŏ (Ą 1) (Ā Ă)) (ė (Ē Ő ŏ (Ą 2) (Ā Ă)) (ė (Ę (Ņ ĭ Ĭ (Ą 1) (Ā Ă))) (ė (Ę (Ņ ĭ Ĭ (Ą 2) (Ā Ă))) (ė (ĥ ĕ Ĕ (Ā (dM ["Thing","Post","Fence","Sail","Cloth","House"] ⟨⟨T.Ť,T.Ķ⟩,⟨⟨T.ŵ,T.ŀ⟩,⟨⟨T.ś,T.ķ⟩,⟨⟨T.Ŷ,T.Ł⟩,⟨⟨T.Ŝ,T.ĸ⟩,⟨⟨T.ŝ,T.Ĺ⟩,trivial⟩⟩⟩⟩⟩⟩ (Ą 0))) (Ā Ă) (fun _ _=>rfl)) ď))))))))))
theorem Zbl(T:Tx K mg a):į P w K mg base (Ů P w) 1 a.Nm a.Np ["self"] (ž ⟨K,ħ a⟩ 1 mK):=by
 refine aO (cm:=ħ a) (mb:=Bt) T.Zey vZ rfl rfl rfl fun cdv A outer s H E hr=>?_
 have hu:=hr.units
 exact(ċ (İ (i:=1) vZ.nd rfl (Or.inl rfl) (Ĳ (dM ["Thing","Post","Fence","Sail","Cloth","House"] ⟨⟨T.Ť,T.Ķ⟩,⟨⟨T.ŵ,T.ŀ⟩,⟨⟨T.ś,T.ķ⟩,⟨⟨T.Ŷ,T.Ł⟩,⟨⟨T.Ŝ,T.ĸ⟩,⟨⟨T.ŝ,T.Ĺ⟩,trivial⟩⟩⟩⟩⟩⟩ (Ą 0))))
  (ċ (İ (i:=2) vZ.nd rfl (Or.inl rfl) (Ĳ (ŋ (Ć (ĥ ĕ Ĕ (Ą 1) (Ā Ă) (fun _ _=>rfl)) (Ć (ĥ ĕ Ĕ (Ą 1) (Ā Ă) (fun _ _=>rfl)) Ġ)))))
  (ċ (İ (i:=3) vZ.nd rfl (Or.inl rfl) (Ĳ (ŋ (Ć (ĥ ĕ Ĕ (Ą 1) (Ā Ă) (fun _ _=>rfl)) (Ć (ĥ ĕ Ĕ (Ą 1) (Ā Ă) (fun _ _=>rfl)) Ġ)))))
  (Č (Ĥ (ř (Ć (Ę (Ņ ĭ Ĭ (Ą 2) (Ā (ŋ (Ć Ă Ġ))))) (Ć (Ę (Ņ ĭ Ĭ (Ą 3) (Ā (ŋ (Ć Ă Ġ))))) (Ć (Ę (Ņ ĭ Ĭ (Ą 3) (Ā (ŋ (Ć (ĥ ĕ Ĕ (Ą 1) (Ā Ă) (fun _ _=>rfl)) Ġ))))) (Ć (Ę (Ņ ĭ Ĭ (Ą 2) (Ā (ŋ (Ć (ĥ ĕ Ĕ (Ą 1) (Ā Ă) (fun _ _=>rfl)) Ġ))))) Ġ))))))))))
theorem Zbm(T:Tx K mg a):į P w K mg base (Ů P w) 2 a.Nq a.Nr ["self"] (ž ⟨K,ħ a⟩ 1 mL):=by
 refine aO (cm:=ħ a) (mb:=Bu) T.ZeA Qd rfl rfl rfl fun cdv A outer s H E hr=>?_
 have hu:=hr.units
 exact(ċ (İ (i:=1) Qd.nd rfl (Or.inl rfl) (Ĳ (dM ["Thing","Post","Fence","Sail","Cloth","House"] ⟨⟨T.Ť,T.Ķ⟩,⟨⟨T.ŵ,T.ŀ⟩,⟨⟨T.ś,T.ķ⟩,⟨⟨T.Ŷ,T.Ł⟩,⟨⟨T.Ŝ,T.ĸ⟩,⟨⟨T.ŝ,T.Ĺ⟩,trivial⟩⟩⟩⟩⟩⟩ (Ą 0))))
  (Č (Ĥ (ē (Cp T) Ċ (hr.mono (by decide)) rfl T.iU T.Ea.kp T.Pn ġ (ė (ĥ ĕ Ĕ (Ą 1) (Ā Ă) (fun _ _=>rfl)) (ė (ĥ ĕ Ĕ (Ą 1) (Ā Ă) (fun _ _=>rfl)) (ė (ĥ ĕ Ĕ (Ą 1) (Ā Ă) (fun _ _=>rfl)) (ė (ĥ ĕ Ĕ (Ą 1) (Ā Ă) (fun _ _=>rfl)) (ė (ĥ ĕ Ĕ (Ą 1) (Ā Ă) (fun _ _=>rfl)) ď)))))))))
theorem Zbn(T:Tx K mg a):į P w K mg base (Ů P w) 1 a.Nt a.Nu ["self"] (ž ⟨K,ħ a⟩ 1 mO):=by
 refine aO (cm:=ħ a) (mb:=Bv) T.ZeC ZaT rfl rfl rfl fun cdv A outer s H E hr=>?_
 have hu:=hr.units
 exact(@Č _ _ _ _ _ (@Ĥ _ _ _ _ _ _ (aJ ["self","place"] [0] 1 (ĉ sI) rfl rfl (@fL _ _ _ _ _ _ (@ŋ _ _ _ _ _ _ _ (@Ć _ _ _ _ _ _ _ (@Ă _ _ _ _ _ _) (@Ć _ _ _ _ _ _ _ (@Ă _ _ _ _ _ _) (@Ć _ _ _ _ _ _ _ (@Ă _ _ _ _ _ _) (@Ġ _ _ _) (by exact ī rfl)) (by exact ī rfl)) (by exact ī rfl)))) (fun _ _ _ _ _=>(@Į _ _ _ 1 _ (show(["self","place"]:List Str).Nodup by decide +kernel) rfl (Or.inl rfl) (Or.inr rfl))) (fun _ _ _ _ _=>(@Ŭ _ _ _)) (fun _ _ _ _ _=>(@PE.wk _ _ _ _ (Ų Im (by rfl) T.Ek PyProof.Rows.boot_tuple (@ę _ _ _ _ _ _ _ (@Ā _ _ _ _ _ (@Ę _ _ _ _ _ (@cC _ _ _ _ _ _ _ _ _ _ _ (@Ā _ _ _ _ _ (@dM _ _ _ _ _ _ _ ["Thing","Post","Fence","Sail","Cloth","House"] ⟨⟨T.Ť,T.Ķ⟩,⟨⟨T.ŵ,T.ŀ⟩,⟨⟨T.ś,T.ķ⟩,⟨⟨T.Ŷ,T.Ł⟩,⟨⟨T.Ŝ,T.ĸ⟩,⟨⟨T.ŝ,T.Ĺ⟩,trivial⟩⟩⟩⟩⟩⟩ (@Ą _ _ _ 0 _ _ (by rfl) (by first|exact Or.inl rfl|exact Or.inr (Or.inl rfl)|exact Or.inr (Or.inr rfl)) (by decide) (by decide)) (by rfl))) (@aR _ _ _ _ _ (@v_var _ _ _ 1 _ _ (by rfl) (by first|exact Or.inl rfl|exact Or.inr (Or.inl rfl)|exact Or.inr (Or.inr rfl)) (by decide) (by decide))) (@aR _ _ _ _ _ (@Ę _ _ _ _ _ (@Ņ _ _ _ _ _ _ _ _ _ _ _ (@ĭ _) (@Ĭ _) (@Ą _ _ _ 1 _ _ (by rfl) (by first|exact Or.inl rfl|exact Or.inr (Or.inl rfl)|exact Or.inr (Or.inr rfl)) (by decide) (by decide)) (@Ā _ _ _ _ _ (@Ă _ _ _ _ _ _)))))))) (@Ī _ _ _) (by exact ī rfl))) (fun _ _ _ h=> @Ū _ _ _ _ _ _ (@Io _) _ _ _ h))) ⟨rfl,⟨rfl,Or.inl rfl⟩,trivial⟩)))
theorem Zbo(T:Tx K mg a):į P w K mg base (Ů P w) 3 a.Nv a.Nx ["self"] (ž ⟨K,ħ a⟩ 1 mQ):=by
 refine aO (cm:=ħ a) (mb:=Bw) T.ZeE Qe rfl rfl rfl fun cdv A outer s H E hr=>?_
 have hu:=hr.units
 exact(ċ (İ (i:=1) Qe.nd rfl (Or.inl rfl) (Ĳ (dM ["Thing","Post","Fence","Sail","Cloth","House"] ⟨⟨T.Ť,T.Ķ⟩,⟨⟨T.ŵ,T.ŀ⟩,⟨⟨T.ś,T.ķ⟩,⟨⟨T.Ŷ,T.Ł⟩,⟨⟨T.Ŝ,T.ĸ⟩,⟨⟨T.ŝ,T.Ĺ⟩,trivial⟩⟩⟩⟩⟩⟩ (Ą 0))))
  (Č (Ĥ (ē (Qx T) Ċ (hr.mono (by decide)) rfl T.mH T.Pq.kp T.Wa ġ (ė (ĥ ĕ Ĕ (Ą 1) (Ā Ă) (fun _ _=>rfl)) (ė (ĥ ĕ Ĕ (Ą 1) (Ā Ă) (fun _ _=>rfl)) (ė (ĥ ĕ Ĕ (Ą 1) (Ā Ă) (fun _ _=>rfl)) (ė (ĥ ĕ Ĕ (Ą 1) (Ā Ă) (fun _ _=>rfl)) (ė (ĥ ĕ Ĕ (Ą 1) (Ā Ă) (fun _ _=>rfl)) ď)))))))))
theorem Zbp(T:Tx K mg a):į P w K mg base (Ů P w) 4 a.Ny a.Nz ["thing","ray"] (ž ⟨K,ħ a⟩ 2 sZ):=by
 refine aO (cm:=ħ a) (mb:=Bx) T.Wb ZaU rfl rfl rfl fun cdv A outer s H E hr=>?_
 have hu:=hr.units
 exact(Č (Ĥ (aJ ["ray","corner"] [1] 1 (ĉ sJ) rfl rfl (Jx (fL (Ę (Sd (QD:= "corners") (k:=3) (n:=1) (qp:=[("Post",mJ),("Fence",mK),("Sail",mL),("Cloth",mO),("House",mQ)]) ⟨⟨T.ŵ,_,_,_,T.qe,(Zbk T).mono (by decide),T.Zex,Ċ⟩,⟨⟨T.ś,_,_,_,T.nu,(Zbl T).mono (by decide),T.Zez,Ċ⟩,⟨⟨T.Ŷ,_,_,_,T.qg,(Zbm T).mono (by decide),T.ZeB,Ċ⟩,⟨⟨T.Ŝ,_,_,_,T.nA,(Zbn T).mono (by decide),T.ZeD,Ċ⟩,⟨⟨T.ŝ,_,_,_,T.nC,(Zbo T).mono (by decide),T.ZeF,Ċ⟩,trivial⟩⟩⟩⟩⟩ (hr.mono (by decide)) aK (v_var 0))))) (fun _ _ _ _ _=>(Į (i:=1) (show(["ray","corner"]:List Str).Nodup by decide +kernel) rfl (Or.inl rfl) (hf:=Or.inr rfl))) (fun _ _ _ _ _=>Ŭ) (fun _ _ _ _ _=>(Ę (ē (Qw T) Ċ (hr.mono (by decide)) rfl T.iR T.Pk.kp T.V_ aK (ć 1 (hr:=(ć 0 (hr:=ď))))))) ⟨rfl,⟨rfl,Or.inl rfl⟩,trivial⟩)))
theorem Zbq(T:Tx K mg a):į P w K mg base (Ů P w) 2 a.NK a.NP ["stone","ray"] (ž ⟨K,ħ a⟩ 2 tu):=by
 refine aO (cm:=ħ a) (mb:=BJ) T.Wc ZaV rfl rfl rfl fun cdv A outer s H E hr=>?_
 have hu:=hr.units
 exact(Č (Ĥ (ē (Qw T) Ċ (hr.mono (by decide)) rfl T.iR T.Pk.kp T.V_ ġ (ė (ŋ (Ć (Ē Ň ĵ (Ā Ă) (Ā (ĥ ĕ Ĕ (Ą 0) (Ā Ă) (fun _ _=>rfl)))) (Ć (Ē Ň ĵ (Ā Ă) (Ā (ĥ ĕ Ĕ (Ą 0) (Ā Ă) (fun _ _=>rfl)))) (Ć Ă Ġ)))) (ć 1 (hr:=ď))))))
theorem Zbr(T:Tx K mg a):į P w K mg base (Ů P w) 6 a.NQ a.NT ["thing","stone","ray"] (ž ⟨K,ħ a⟩ 3 tD):=by
 refine aO (cm:=ħ a) (mb:=BK) T.Wd ZaW rfl rfl rfl fun cdv A outer s H E hr=>?_
 have hu:=hr.units
 exact(Č (Ĥ (ē (Zbj T) Ċ (hr.mono (by decide)) rfl T.pW T.VR.kp T.Zev ġ (ė (Ę (ē (Zbp T) Ċ (hr.mono (by decide)) rfl T.sZ T.Wb.kp T.ZeG ġ (ć 0 (hr:=(ć 2 (hr:=ď)))))) (ė (Ę (ē (Zbq T) Ċ (hr.mono (by decide)) rfl T.tu T.Wc.kp T.ZeH ġ (ć 1 (hr:=(ć 2 (hr:=ď)))))) ď)))))
theorem Zbs(T:Tx K mg a):į P w K mg base (Ů P w) 7 a.NZ a.N_ ["thing","stone","ray"] (ž ⟨K,ħ a⟩ 3 mR):=by
 refine aO (cm:=ħ a) (mb:=vM) T.Wf ZaX rfl rfl rfl fun cdv A outer s H E hr=>?_
 have hu:=hr.units
 exact(Č (Ĥ (Ĳ (cQ aA (ş hu) (Ā (ĥ ĕ Ĕ (Ā (Ę (ē (Zbr T) Ċ (hr.mono (by decide)) rfl T.tD T.Wd.kp T.ZeI ġ (ć 0 (hr:=(ć 1 (hr:=(ć 2 (hr:=ď))))))))) (Ā Ă) (fun _ _=>rfl))) (Ā ű) (ł _)))))
theorem Qy(T:Tx K mg a):į P w K mg base (Ů P w) 8 a.Oa a.Ob ["yard","turn","stone"] (ž ⟨K,ħ a⟩ 3 dW):=by
 refine aO (cm:=ħ a) (mb:=pX) T.Pr Qf rfl rfl rfl fun cdv A outer s H E hr=>?_
 have hu:=hr.units
 exact(ċ (Ż (ŷ Ih zR (Ą 1) (Ā lW) (ł _))
  (Č (Ĥ (Ĳ kY)))
  ņ)
  (ċ (cI PassesOwn.leaving rfl (fL (dM ["Yard"] ⟨⟨T.dj,T.iZ⟩,trivial⟩ (Ą 0))) (Į (i:=3) Qf.nd rfl (Or.inl rfl))
  (Č (Ż (Ũ (Ā (Ę (ē (Zbs T) Ċ (hr.mono (by decide)) rfl T.mR T.Wf.kp T.ZeJ ġ (ć 3 (hr:=(ć 2 (hr:=(ć 1 (hr:=ď))))))))))
  (Č (Ĥ (Ĳ kY)))
  ņ)))
  (Č (Ĥ (Ĳ kY)))))
theorem Cq(T:Tx K mg a):į P w K mg base (Ů P w) 9 a.Oc a.Od ["yard","day","stone"] (ž ⟨K,ħ a⟩ 3 aW):=by
 refine aO (cm:=ħ a) (mb:=pY) T.Eb ZaY rfl rfl rfl fun cdv A outer s H E hr=>?_
 have hu:=hr.units
 exact(ċ (oH (Ę (ē (Qo T) Ċ (hr.mono (by decide)) rfl T.iK T.OD.kp T.Vt ġ (ć 0 (hr:=(ć 2 (hr:=ď)))))))
  (ċ (oH (Ę (ē (Zba T) Ċ (hr.mono (by decide)) rfl T.mz T.Vv.kp T.Zej ġ (ć 0 (hr:=(ć 1 (hr:=ď)))))))
  (Č (Ĥ (aJ ["yard","stone","number","turn"] [0,2] 2 (ĉ sO) rfl rfl (Jx (Jt rfl T.mV (ZdH (Ę (ē (Qp T) Ċ (hr.mono (by decide)) rfl T.mD T.OJ.kp T.Vw aK (ć 0 (hr:=(ć 1 (hr:=ď))))))))) (fun _ _ _ _ _=>(wK rfl (ů (Į (i:=2) (show(["yard","stone","number","turn"]:List Str).Nodup by decide +kernel) rfl (Or.inl rfl) (hf:=Or.inr rfl)) (ů (Į (i:=3) (show(["yard","stone","number","turn"]:List Str).Nodup by decide +kernel) rfl (Or.inl rfl) (hf:=Or.inr rfl)) jh)))) (fun _ _ _ _ _=>(Yj (dD (Ũ (Ā (Ę (ē (Qy T) Ċ (hr.mono (by decide)) rfl T.dW T.Pr.kp T.Wg aK (ć 0 (hr:=(ć 3 (hr:=(ć 1 (hr:=ď))))))))))))) (fun _ _ _ _ _=>(v_var 2)) ⟨rfl,⟨rfl,Or.inl rfl⟩,⟨rfl,⟨rfl,Or.inl rfl⟩,trivial⟩⟩)))))
theorem Cr(T:Tx K mg a):į P w K mg base (Ů P w) 9 a.Oe a.Og ["yard","stone"] (ž ⟨K,ħ a⟩ 2 cu):=by
 refine aO (cm:=ħ a) (mb:=pZ) T.Ec wg rfl rfl rfl fun cdv A outer s H E hr=>?_
 have hu:=hr.units
 exact(ċ (oH (Ę (ē (Qo T) Ċ (hr.mono (by decide)) rfl T.iK T.OD.kp T.Vt ġ (ć 0 (hr:=(ć 1 (hr:=ď)))))))
  (ċ (cI PassesOwn.leaving rfl (ſ rfl T.aH (Ć (PE.wk (Ħ bU (by rfl) T.fQ PySem.boot_len (ę (Ā (dM ["Yard"] ⟨⟨T.dj,T.cY⟩,trivial⟩ (Ą 0))) Ī)) fun _ _ _ h=>Ū bV h) Ġ)) (Į (i:=2) wg.nd rfl (Or.inl rfl))
  (Č (cI PassesOwn.leaving rfl (Jt rfl T.mV (ZdH (Ę (ē (Qp T) Ċ (hr.mono (by decide)) rfl T.mD T.OJ.kp T.Vw ġ (ć 0 (hr:=(ć 2 (hr:=ď)))))))) (wK rfl (ů (Į (i:=3) wg.nd rfl (Or.inl rfl)) (ů (Į (i:=4) wg.nd rfl (Or.inl rfl)) jh)))
  (Č (Ż (dD (Ũ (Ā (Ę (ē (Qy T) Ċ (hr.mono (by decide)) rfl T.dW T.Pr.kp T.Wg ġ (ć 0 (hr:=(ć 4 (hr:=(ć 1 (hr:=ď)))))))))))
  (Č (Ĥ (Ĳ (ŋ (Ć (v_var 2) (Ć (v_var 3) Ġ))))))
  ņ)))))
  (Č (Ĥ (Ĳ lW)))))
theorem Cu(T:Tx K mg a):į P w K mg base (Ů P w) 10 a.Oh a.Oi ["_law_yard","_law_of_day","_law_day","_law_stone"] (ž ⟨K,ħ a⟩ 4 bO):=by
 refine aO (cm:=ħ a) (mb:=vQ) T.Ed wj rfl rfl rfl fun cdv A outer s H E hr=>?_
 have hu:=hr.units
 exact(ċ (İ (i:=4) wj.nd rfl (Or.inl rfl) (Ĳ lW))
  (ċ (Zdx ⟨_,outer,rfl,rfl,rfl⟩ (fun _ _ _ hpx=>(Č (Ż (Ũ (Ą 1))
  (Č (oH (Ę (ē (Cq T) Ċ (hr.mono (by decide)) rfl T.aW T.Eb.kp T.Pu hpx (ć 0 (hr:=(ć 2 (hr:=(ć 3 (hr:=ď))))))))))
  (Č (oH (Ę (ē (Cr T) Ċ (hr.mono (by decide)) rfl T.cu T.Ec.kp T.Px hpx (ć 0 (hr:=(ć 3 (hr:=ď)))))))))))
  (ZlA (Dn:= "YardError") (i:=5) wj.nd rfl rfl rfl T.zE T.zG T.vV T.vW (fun e=>(Č (İ (i:=4) wj.nd rfl (Or.inl rfl) (Ĳ (v_var 5)))))
  Zdw))
  (Č (Ĥ (jB 4)))))
theorem Zbt(T:Tx K mg a):į P w K mg base (Ů P w) 11 a.Oj a.Ol ["_law_script"] (ž ⟨K,ħ a⟩ 1 qb):=by
 refine aO (cm:=ħ a) (mb:=BL) T.ZeK bY rfl rfl rfl fun cdv A outer s H E hr=>?_
 have hu:=hr.units
 exact(ċ (İ (i:=1) bY.nd rfl (by first|exact Or.inl rfl|exact Or.inr rfl) (ē (ZaZ T) Ċ (hr.mono (by decide)) rfl T.dO T.Vd.kp T.Zd4 ġ (ė (Ę (ē (fH T) Ċ (hr.mono (by decide)) rfl T.ő T.iV.kp T.jU ġ (ć 0 (hr:=(ė Ă ď))))) (ė Ă ď))))
  (ċ (lu (i:=2) bY.nd rfl rfl ["_law_size_here","_law_cell"] [1] 1 (ĉ fO) rfl rfl (fL (Ę (cC (Ą 0) (aR Ă) (aR Ă)))) (fun _ _ _ _ _=>(Į (i:=1) (show(["_law_size_here","_law_cell"]:List Str).Nodup by decide +kernel) rfl (Or.inl rfl) (hf:=Or.inr rfl))) (fun _ _ _ _ _=>Ŭ) (fun _ _ _ _ _=>(Ę (ē (Za3 T) Ċ (hr.mono (by decide)) rfl T.dR T.Vj.kp T.Zd_ aK (ć 1 (hr:=(ė (PE.wk (Ħ (Am rfl) (by rfl) T.zH PyProof.Rows.boot_max (ę (Ą 0) Ī)) fun _ _ _ h=>Ū Aq h) ď)))))) ⟨rfl,⟨rfl,Or.inl rfl⟩,trivial⟩)
  (ċ (lu (i:=3) bY.nd rfl rfl ["_law_word","_law_numbers"] [] 2 (ĉ fO) rfl rfl (cJ 2) (fun _ _ _ _ _=>(wK rfl (ů (Į (i:=0) (show(["_law_word","_law_numbers"]:List Str).Nodup by decide +kernel) rfl (Or.inl rfl) (hf:=Or.inr rfl)) (ů (Į (i:=1) (show(["_law_word","_law_numbers"]:List Str).Nodup by decide +kernel) rfl (Or.inl rfl) (hf:=Or.inr rfl)) jh)))) (fun _ _ _ _ _=>Ŭ) (fun _ _ _ _ _=>(Ę (ē (Za7 T) Ċ (hr.mono (by decide)) rfl T.cN T.Vp.kp T.Zef aK (ć 0 (hr:=(ė (Ę (PE.wk (Ų cT (by rfl) T.fG PyProof.Rows.boot_list (ę (Ą 1) Ī)) fun _ _ _ h=>wJ cU h)) ď)))))) trivial)
  (ċ (İ (i:=4) bY.nd rfl (Or.inl rfl) (ē (Za1 T) Ċ (hr.mono (by decide)) rfl T.lZ T.Vg.kp T.Zd6 ġ (ć 0 (hr:=(ė Ă (ė (Ē ļ ĺ (Ā (Ę (ē (fH T) Ċ (hr.mono (by decide)) rfl T.ő T.iV.kp T.jU ġ (ć 0 (hr:=(ė Ă ď)))))) (Ā Ă)) (ė Ă ď)))))))
  (ċ (İ (i:=5) bY.nd rfl (by first|exact Or.inl rfl|exact Or.inr rfl) (Ĳ (lq T.Zas (Qh T) cD (hr.mono (by decide)) rfl T.Zal T.Zd8 ġ (ė (ĥ ĕ Ĕ (Ą 1) (Ā Ă) (fun _ _=>rfl)) (ė (ĥ ĕ Ĕ (Ą 1) (Ā Ă) (fun _ _=>rfl)) (ć 3 (hr:=(ć 4 (hr:=ď)))))))))
  (ċ (İ (i:=6) bY.nd rfl (by first|exact Or.inl rfl|exact Or.inr rfl) (Ĳ (ŋ (Ć (Ē ļ ĺ (Ā (Ę (ē (fH T) Ċ (hr.mono (by decide)) rfl T.ő T.iV.kp T.jU ġ (ć 0 (hr:=(ė Ă ď)))))) (Ā (ĥ ĕ Ĕ (Ą 1) (Ā Ă) (fun _ _=>rfl)))) (Ć (Ē ļ ĺ (Ā (Ę (ē (fH T) Ċ (hr.mono (by decide)) rfl T.ő T.iV.kp T.jU ġ (ć 0 (hr:=(ė Ă ď)))))) (Ā (ĥ ĕ Ĕ (Ą 1) (Ā Ă) (fun _ _=>rfl)))) Ġ)))))
  (ċ (İ (i:=7) bY.nd rfl (Or.inl rfl) (ē (Za2 T) Ċ (hr.mono (by decide)) rfl T.cW T.Vh.kp T.Zd9 ġ (ć 1 (hr:=(ė (Ę (ē (fH T) Ċ (hr.mono (by decide)) rfl T.ő T.iV.kp T.jU ġ (ć 0 (hr:=(ė Ă ď))))) ď)))))
  (ċ (İ (i:=8) bY.nd rfl (Or.inl rfl) (Ĳ (Ē ļ ĺ (Ā (Ē Ŧ Œ (Ā (Ę (ē (fH T) Ċ (hr.mono (by decide)) rfl T.ő T.iV.kp T.jU ġ (ć 0 (hr:=(ė Ă ď)))))) (Ā Ă))) (Ā (Ē ji je (Ā Ă) (Ā Ă))))))
  (ċ (İ (i:=9) bY.nd rfl (Or.inl rfl) (Ĳ (ĥ ĕ Ĕ (Ā (Ę (ř (Ć (PE.wk (Ħ bU (by rfl) T.fQ PySem.boot_len (ę (Ą 4) Ī)) fun _ _ _ h=>Ū bV h) (Ć (Ē Ő ŏ (Ā Ă) (Ā Ă)) (Ć (Ę (Ņ ĭ Ĭ (Ā (PE.wk (Ħ bU (by rfl) T.fQ PySem.boot_len (ę (Ą 4) Ī)) fun _ _ _ h=>Ū bV h)) (Ą 8))) (Ć (Ē Ő ŏ (Ā (Ē Ő ŏ (Ā Ă) (Ā Ă))) (Ą 8)) Ġ))))))) (Ā (Ē ļ ĺ (Ā (Ę (ē (fH T) Ċ (hr.mono (by decide)) rfl T.ő T.iV.kp T.jU ġ (ć 0 (hr:=(ė Ă ď)))))) (Ā Ă))) (fun _ _=>rfl))))
  (ċ (İ (i:=10) bY.nd rfl (Or.inl rfl) (Ņ ĭ Ĭ (Ā (Ę (aJ ["_law_yard","_law_good","_law_day"] [5,6] 1 (ĉ fO) rfl rfl (ſ rfl T.aH (Ć (PE.wk (Ħ bU (by rfl) T.fQ PySem.boot_len (ę (Ą 4) Ī)) fun _ _ _ h=>Ū bV h) Ġ)) (fun _ _ _ _ _=>(Į (i:=2) (show(["_law_yard","_law_good","_law_day"]:List Str).Nodup by decide +kernel) rfl (Or.inl rfl) (hf:=Or.inr rfl))) (fun _ _ _ _ _=>Ŭ) (fun _ _ _ _ _=>(Ę (ē (Cq T) Ċ (hr.mono (by decide)) rfl T.aW T.Eb.kp T.Pu aK (ć 0 (hr:=(ć 2 (hr:=(ć 1 (hr:=ď))))))))) ⟨rfl,⟨rfl,Or.inl rfl⟩,⟨rfl,⟨rfl,Or.inl rfl⟩,trivial⟩⟩))) (Ā (Ę (ř (Ć (Ę (ē (Cr T) Ċ (hr.mono (by decide)) rfl T.cu T.Ec.kp T.Px ġ (ć 5 (hr:=(ć 6 (hr:=ď)))))) Ġ))))))
  (ċ (cI PassesOwn.leaving rfl (fL (Ę (Ņ ĭ Ĭ (Ā (Ę (YL rfl rfl T.fG rfl T.aH (Ć (PE.wk (Ħ bU (by rfl) T.fQ PySem.boot_len (ę (Ą 4) Ī)) fun _ _ _ h=>Ū bV h) Ġ)))) (Ā (Ę (ř (Ć (v_var 9) Ġ))))))) (Į (i:=11) bY.nd rfl (Or.inl rfl))
  (Č (Ż (dD (Ũ (Ā (Ę (ē (Qn T) Ċ (hr.mono (by decide)) rfl T.iJ T.Oz.kp T.Vq ġ (ė (Ę (ē (Cu T) Ċ (hr.mono (by decide)) rfl T.bO T.Ed.kp T.Py ġ (ć 5 (hr:=(ė kY (ć 11 (hr:=(ć 7 (hr:=ď))))))))) (ć 7 (hr:=ď))))))))
  (Č (Ĥ (Ĳ kY)))
  ņ)))
  (ċ (Ż (dD (Ũ (Ā (Ę (ē (Qn T) Ċ (hr.mono (by decide)) rfl T.iJ T.Oz.kp T.Vq ġ (ė (Ę (ē (Cu T) Ċ (hr.mono (by decide)) rfl T.bO T.Ed.kp T.Py ġ (ć 5 (hr:=(ė kY (ė Ă (ć 7 (hr:=ď)))))))) (ć 7 (hr:=ď))))))))
  (Č (Ĥ (Ĳ kY)))
  ņ)
  (ċ (Ż (dD (Ũ (Ā (Ę (ē (Za8 T) Ċ (hr.mono (by decide)) rfl T.mq T.Vr.kp T.Zeg ġ (ė (Ę (ē (Cu T) Ċ (hr.mono (by decide)) rfl T.bO T.Ed.kp T.Py ġ (ć 5 (hr:=(ė kY (ć 9 (hr:=(ć 6 (hr:=ď))))))))) (ć 9 (hr:=ď))))))))
  (Č (Ĥ (Ĳ kY)))
  ņ)
  (Č (Ĥ (Ĳ (cQ aA (ş hu) (Ā (Ę (Ņ ĭ Ĭ (Ā (Ę (aJ ["_law_yard","_law_good","_law_day"] [5,6] 1 (ĉ fO) rfl rfl (ſ rfl T.aH (Ć (PE.wk (Ħ bU (by rfl) T.fQ PySem.boot_len (ę (Ą 4) Ī)) fun _ _ _ h=>Ū bV h) Ġ)) (fun _ _ _ _ _=>(Į (i:=2) (show(["_law_yard","_law_good","_law_day"]:List Str).Nodup by decide +kernel) rfl (Or.inl rfl) (hf:=Or.inr rfl))) (fun _ _ _ _ _=>Ŭ) (fun _ _ _ _ _=>(Ę (ē (Cq T) Ċ (hr.mono (by decide)) rfl T.aW T.Eb.kp T.Pu aK (ć 0 (hr:=(ć 2 (hr:=(ć 1 (hr:=ď))))))))) ⟨rfl,⟨rfl,Or.inl rfl⟩,⟨rfl,⟨rfl,Or.inl rfl⟩,trivial⟩⟩))) (Ā (Ę (ř (Ć (Ę (ē (Cr T) Ċ (hr.mono (by decide)) rfl T.cu T.Ec.kp T.Px ġ (ć 5 (hr:=(ć 6 (hr:=ď)))))) Ġ))))))) (Ą 10) (ł _))))))))))))))))))
end
def pt(p:Hu.Pt):PV:=.tup [.int p.1,.int p.2]
def fY(l:Hu.Ln):PV:=.tup [.int l.1,.int l.2.1,.int l.2.2]
def Sm(p:Hu.Pt):Prop:=-100000000000000000≤p.1∧p.1≤100000000000000000∧ -100000000000000000≤p.2∧p.2≤100000000000000000
def SmL(l:Hu.Ln):Prop:=-1000000000000000000≤l.1∧l.1≤1000000000000000000∧ -1000000000000000000≤l.2.1∧l.2.1≤1000000000000000000
theorem Z08{x y:Hu.Pt}:eqB (pt y) (pt x)=decide (y=x):=by
 obtain⟨a,b⟩:=x
 obtain⟨c,d⟩:=y
 unfold pt
 rw[YJ,Bool.eq_iff_iff]
 simp
theorem ZK(x:Hu.Pt):aB (pt x)=true:=by simp[pt,aB,aC]
theorem ZD(x:Hu.Pt):dep (pt x)=1:=by simp[pt,dep,eV]
theorem Z1R(S:List Hu.Pt):aC (S.map pt)=true:=by
 induction S with
 |nil=>simp[aC]
 |cons p S ih=>simp[aC,ZK,ih]
theorem Z0Q(x:Hu.Pt):∀k:List Hu.Pt,(k.map pt).any (fun y=>eqB y (pt x))=decide (x∈k)
 | []=>by simp
 |y::k=>by
  rw[List.map_cons,List.any_cons,Z0Q x k,Z08,Bool.eq_iff_iff]
  simp
  constructor
  ·rintro (e|e)
   ·exact .inl e.symm
   ·exact .inr e
  ·rintro (e|e)
   ·exact .inl e.symm
   ·exact .inr e
theorem Z09(x:Hu.Pt)(k:List Hu.Pt):inD true (pt x) (.lst (k.map pt))=some (.bl (!decide (x∈k))):=by
 unfold inD
 simp only[ZK,Z1R,ZD,Z0Q]
 rfl
theorem Z05(x y:Hu.Pt):jj (pt x) (pt y)=some (.bl (!decide (x=y))):=by
 unfold jj ux
 rw[ZK,ZK,ZD,ZD,Z08]
 rfl
theorem Z1z{a b:Hu.Pt}(ha:Sm a)(hb:Sm b):sV [.sh (pt a),.sh (pt b)]=.ret (.sh (fY (Hu.Z2 a b))):=by
 obtain⟨a1,a2,a3,a4⟩:=ha
 obtain⟨b1,b2,b3,b4⟩:=hb
 have m1:ŭ (b.2-a.2) a.1=true:=dJ (by omega) (by omega)
 have m2:ŭ (a.1-b.1) a.2=true:=dJ (by omega) (by omega)
 simp[sV,Bg,List.replicate,pt,fY,Hu.Z2,m1,m2]
theorem Z0a{l:Hu.Ln}(hl:SmL l)(p:Hu.Pt):iM [.sh (fY l),.sh (pt p)]=.ret (.sh (.bl (Hu.hd l p))):=by
 obtain⟨a1,a2,a3,a4⟩:=hl
 have m1:ŭ l.1 p.1=true:=dJ (by omega) (by omega)
 have m2:ŭ l.2.1 p.2=true:=dJ (by omega) (by omega)
 simp[iM,Bh,List.replicate,pt,fY,Hu.hd,m1,m2]
theorem Z0x{a b:Hu.Pt}(ha:Sm a)(hb:Sm b):SmL (Hu.Z2 a b):=by
 obtain⟨a1,a2,a3,a4⟩:=ha
 obtain⟨b1,b2,b3,b4⟩:=hb
 simp only[SmL,Hu.Z2]
 omega
def Sl(s:P.Slot)(ps:List PV):Prop:=s=.sh (.lst ps)∨s=.bw ps
theorem Sl.lend{s:P.Slot}{ps:List PV}(h:Sl s ps):dF s=some s:=by rcases h with rfl|rfl<;>rfl
theorem Sl.it{s:P.Slot}{ps:List PV}(h:Sl s ps){i:Nat}{ρ:Ŏ}(e:ρ[i]?=some s):Ŵ i ρ=.ok ps ρ:= by
 rcases h with rfl|rfl<;>simp[e]
theorem Z1A{S:List Hu.Pt}{sl:P.Slot}(hs:Sl sl (S.map pt))(hl:S.length≤1000):sU [sl]=.ret (.ow ((Hu.Z1 S).map pt)):=by
 have hlen:∀(xs k:List Hu.Pt),(xs.foldl (fun k x=>if x∈k then k else k ++ [x]) k).length≤k.length+xs.length:=by
  intro xs
  induction xs with
  |nil=>intro k;simp
  |cons x xs ih=>
   intro k
   rw[List.foldl_cons]
   refine Nat.le_trans (ih _) ?_
   split
   ·simp
   ·simp;omega
 have key:∀(xs:List Hu.Pt) (k:List Hu.Pt) (s2:P.Slot),k.length+xs.length≤1000→∃s2',forL (gN 2) lH (xs.map pt) [sl,.ow (k.map pt),s2]=.ok .nx [sl,.ow ((xs.foldl (fun k x=>if x∈k then k else k ++ [x]) k).map pt),s2']:=by
  intro xs
  induction xs with
  |nil=>intro k s2 _;exact⟨s2,rfl⟩
  |cons x xs ih=>
   intro k s2 hk
   rw[List.length_cons] at hk
   by_cases hx:x∈k
   ·obtain⟨s2',e⟩:=ih k (.sh (pt x)) (by omega)
    refine⟨s2',?_⟩
    have hb:lH [sl,.ow (k.map pt),.sh (pt x)]=.ok .nx [sl,.ow (k.map pt),.sh (pt x)]:=by simp[lH,Z09,hx]
    rw[List.map_cons,List.foldl_cons,if_pos hx,forL]
    simp[hb,e]
   ·obtain⟨s2',e⟩:=ih (k ++ [x]) (.sh (pt x)) (by simp;omega)
    refine⟨s2',?_⟩
    have h3:k.length<16777216:=by omega
    have hb:lH [sl,.ow (k.map pt),.sh (pt x)]=.ok .nx [sl,.ow ((k ++ [x]).map pt),.sh (pt x)]:=by simp[lH,Z09,hx,h3]
    rw[List.map_cons,List.foldl_cons,if_neg hx,forL]
    simp only[Ip,List.set_cons_succ,List.set_cons_zero,hb,Res.aQ]
    exact e
 obtain⟨s2,e⟩:=key S [] .no (by simpa using hl)
 have hit:=hs.it (i:=0) (ρ:= [sl,.ow [],.no]) rfl
 simp only[List.map_nil] at e
 simp[sU,Bf,List.replicate,-Ah,hit,e]
 rfl
theorem Z0R(x:Int)(l:List Int):iH [.lst ((x::l).map .int)]=some (.int (Hu.mx (x::l))):=by
 show((intsOf ((x::l).map .int)).bind (best max)).map PV.int=_
 rw[jl]
 rfl
theorem Z0S(x:Int)(l:List Int):rG [.lst ((x::l).map .int)]=some (.int (Hu.mn (x::l))):=by
 show((intsOf ((x::l).map .int)).bind (best min)).map PV.int=_
 rw[jl]
 rfl
theorem Z1S{S:List Hu.Pt}{sl:P.Slot}(hs:Sl sl (S.map pt))(h0:S≠[])(hl:S.length≤1000):sS [sl]=.ret (.ow ((Hu.box S).map fY)):=by
 have c1:Ō (gN 0) œ (Ĉ ĝ (ā 0) (mC (.int 0))) (S.map pt) [.no] []=some ((S.map (·.1)).map .int):=by
  have:=Š (g:=gN 0) (mt:=œ) (me:=Ĉ ĝ (ā 0) (mC (.int 0))) pt (fun p=>.int p.1) (fun ρ=>∃s,ρ=[s]) S [.no] [] ⟨_,rfl⟩ (by simp;omega) (by
   rintro x hx ρ ⟨s,rfl⟩
   exact⟨[.sh (pt x)],[.sh (pt x)],[.sh (pt x)],by simp,by simp,by simp[pt],_,rfl⟩)
  rw[this]
  simp
 have c2:Ō (gN 0) œ (Ĉ ĝ (ā 0) (mC (.int 1))) (S.map pt) [.no] []=some ((S.map (·.2)).map .int):=by
  have:=Š (g:=gN 0) (mt:=œ) (me:=Ĉ ĝ (ā 0) (mC (.int 1))) pt (fun p=>.int p.2) (fun ρ=>∃s,ρ=[s]) S [.no] [] ⟨_,rfl⟩ (by simp;omega) (by
   rintro x hx ρ ⟨s,rfl⟩
   exact⟨[.sh (pt x)],[.sh (pt x)],[.sh (pt x)],by simp,by simp,by simp[pt],_,rfl⟩)
  rw[this]
  simp
 obtain⟨p,R,rfl⟩:=List.exists_cons_of_ne_nil h0
 have x1:=Z0R p.1 (R.map (·.1))
 have x2:=Z0S p.1 (R.map (·.1))
 have x3:=Z0R p.2 (R.map (·.2))
 have x4:=Z0S p.2 (R.map (·.2))
 have hit:∀s1 s2,Ŵ 0 [sl,s1,s2]=.ok ((p::R).map pt) [sl,s1,s2]:=fun s1 s2=>hs.it rfl
 have b:(Hu.box (p::R)).map fY=[.tup [.int 1,.int 0,.int (Hu.mx (p.1::R.map (·.1)))],.tup [.int (-1),.int 0,.int (- Hu.mn (p.1::R.map (·.1)))],.tup [.int 0,.int 1,.int (Hu.mx (p.2::R.map (·.2)))],.tup [.int 0,.int (-1),.int (- Hu.mn (p.2::R.map (·.2)))]]:=rfl
 rw[b]
 generalize (p::R).map pt=ps at hit c1 c2
 rw[List.map_cons] at c1 c2
 generalize (p.1::R.map (·.1)).map PV.int=us at c1 x1 x2
 generalize (p.2::R.map (·.2)).map PV.int=vs at c2 x3 x4
 simp[sS,Bd,List.replicate,-Ah,-SX,-S_,hit,c1,c2,x1,x2,x3,x4]
theorem ZW:∀l:List Bool,boolsOf (l.map .bl)=some l
 | []=>rfl
 |x::l=>by rw[List.map_cons,boolsOf,ZW l];rfl
theorem Z0T(l:List Bool):uz [.lst (l.map .bl)]=some (.bl (l.all id)):=by
 show(boolsOf (l.map .bl)).map (fun bs=>PV.bl (bs.all id))=_
 rw[ZW]
 rfl
theorem Zx(S:List Hu.Pt):(Hu.Z1 S).length≤S.length:=by
 have:∀(xs k:List Hu.Pt),(xs.foldl (fun k x=>if x∈k then k else k ++ [x]) k).length≤k.length+xs.length:=by
  intro xs
  induction xs with
  |nil=>intro k;simp
  |cons x xs ih=>
   intro k
   rw[List.foldl_cons]
   refine Nat.le_trans (ih _) ?_
   split
   ·simp
   ·simp;omega
 have h:=this S []
 rw[List.length_nil,Nat.zero_add] at h
 exact h
theorem Z0U{S:List Hu.Pt}(hS:∀p∈S,Sm p)(hl:S.length≤1000){a b:Hu.Pt}(ha:a∈S)(hb:b∈S)(s0 s5:P.Slot)(L:List Hu.Ln)(hL:L.length<16777216) :
 lJ [s0,.ow (L.map fY),.sh (.lst ((Hu.Z1 S).map pt)),.sh (pt a),.sh (pt b),s5]=.ok .nx [s0,.ow ((L++(if a≠b∧(Hu.Z1 S).all (Hu.hd (Hu.Z2 a b)) then[Hu.Z2 a b] else[])).map fY),.sh (.lst ((Hu.Z1 S).map pt)),.sh (pt a),.sh (pt b),.sh (fY (Hu.Z2 a b))]:=by
 have hsm:=Z0x (hS a ha) (hS b hb)
 have c1:Ō (gN 1) œ (Ď (Đ iM (ą 0 (ą 1 č)))) ((Hu.Z1 S).map pt) [.sh (fY (Hu.Z2 a b)),.no] []=some (((Hu.Z1 S).map (Hu.hd (Hu.Z2 a b))).map .bl):=by
  have hlen:(Hu.Z1 S).length≤16777216:=by have:=Zx S;omega
  have:=Š (g:=gN 1) (mt:=œ) (me:=Ď (Đ iM (ą 0 (ą 1 č)))) pt (fun p=>.bl (Hu.hd (Hu.Z2 a b) p)) (fun ρ=>∃s,ρ=[.sh (fY (Hu.Z2 a b)),s]) (Hu.Z1 S) [.sh (fY (Hu.Z2 a b)),.no] [] ⟨_,rfl⟩ (by simpa using hlen) (by
   rintro x hx ρ ⟨s,rfl⟩
   exact⟨[.sh (fY (Hu.Z2 a b)),.sh (pt x)],[.sh (fY (Hu.Z2 a b)),.sh (pt x)],[.sh (fY (Hu.Z2 a b)),.sh (pt x)],by simp,by simp,by simp[Z0a hsm],_,rfl⟩)
  rw[this]
  simp
 have c2:=Z0T ((Hu.Z1 S).map (Hu.hd (Hu.Z2 a b)))
 have e1:=Z1z (hS a ha) (hS b hb)
 have e3:((Hu.Z1 S).map (Hu.hd (Hu.Z2 a b))).all id=(Hu.Z1 S).all (Hu.hd (Hu.Z2 a b)):=by simp
 rw[e3] at c2
 generalize ((Hu.Z1 S).map (Hu.hd (Hu.Z2 a b))).map PV.bl=bs at c1 c2
 by_cases h1:a=b
 ·subst h1
  simp[lJ,e1,Z05]
 ·by_cases h2:(Hu.Z1 S).all (Hu.hd (Hu.Z2 a b))=true
  ·rw[h2] at c2
   simp[lJ,e1,Z05,h1,c1,c2,h2,hL,-List.all_eq_true]
  ·rw[Bool.not_eq_true] at h2
   rw[h2] at c2
   simp[lJ,e1,Z05,h1,c1,c2,h2,hL,-List.all_eq_true,-List.all_eq_false]
theorem Z19{S:List Hu.Pt}(hS:∀p∈S,Sm p)(hl:S.length≤1000){a:Hu.Pt}(ha:a∈S)(s0:P.Slot):∀(xs:List Hu.Pt) (L:List Hu.Ln) (s4 s5:P.Slot),(∀x∈xs,x∈S)→L.length+xs.length<16777216→
 ∃QH Us,forL (gN 4) lJ (xs.map pt) [s0,.ow (L.map fY),.sh (.lst ((Hu.Z1 S).map pt)),.sh (pt a),s4,s5]=.ok .nx [s0,.ow ((L++xs.filterMap fun b=>if a≠b∧(Hu.Z1 S).all (Hu.hd (Hu.Z2 a b)) then some (Hu.Z2 a b) else none).map fY),.sh (.lst ((Hu.Z1 S).map pt)),.sh (pt a),QH,Us]:=by
 intro xs
 induction xs with
 |nil=>intro L s4 s5 _ _;exact⟨s4,s5,by simp[forL]⟩
 |cons b xs ih=>
  intro L s4 s5 hx hL
  rw[List.length_cons] at hL
  have hb:=Z0U hS hl ha (hx b (by simp)) s0 s5 L (by omega)
  obtain⟨QH,Us,e⟩:=ih (L++(if a≠b∧(Hu.Z1 S).all (Hu.hd (Hu.Z2 a b)) then[Hu.Z2 a b] else[])) (.sh (pt b)) (.sh (fY (Hu.Z2 a b))) (fun x h=>hx x (List.mem_cons_of_mem _ h)) (by
   rw[List.length_append]
   split
   ·simp;omega
   ·simp;omega)
  refine⟨QH,Us,?_⟩
  rw[List.map_cons,forL]
  simp only[Ip,List.set_cons_succ,List.set_cons_zero,hb,Res.aQ]
  rw[e,List.filterMap_cons]
  by_cases hc:a≠b∧(Hu.Z1 S).all (Hu.hd (Hu.Z2 a b))=true
  ·rw[if_pos hc,if_pos hc]
   simp only[List.append_assoc,List.cons_append,List.nil_append]
  ·rw[if_neg hc,if_neg hc]
   simp only[List.append_nil]
theorem ZB{α β:Type}(f:α→Option β)(l:List α):(l.filterMap f).length≤l.length:=List.length_filterMap_le ..
theorem Z1a{S:List Hu.Pt}(hS:∀p∈S,Sm p)(hl:S.length≤1000)(s0:P.Slot):∀(xs:List Hu.Pt) (L:List Hu.Ln) (s3 s4 s5:P.Slot),(∀x∈xs,x∈S)→L.length+xs.length*1000<10000000→
 ∃s3' QH Us,forL (gN 3) vB (xs.map pt) [s0,.ow (L.map fY),.sh (.lst ((Hu.Z1 S).map pt)),s3,s4,s5]=.ok .nx [s0,.ow ((L++xs.flatMap fun a=>(Hu.Z1 S).filterMap fun b=>if a≠b∧(Hu.Z1 S).all (Hu.hd (Hu.Z2 a b)) then some (Hu.Z2 a b) else none).map fY),.sh (.lst ((Hu.Z1 S).map pt)),s3',QH,Us]:=by
 intro xs
 induction xs with
 |nil=>intro L s3 s4 s5 _ _;exact⟨s3,s4,s5,by simp[forL]⟩
 |cons a xs ih=>
  intro L s3 s4 s5 hx hL
  rw[List.length_cons] at hL
  have ho:=Zx S
  obtain⟨a4,a5,e1⟩:=Z19 hS hl (hx a (by simp)) s0 (Hu.Z1 S) L s4 s5 (fun x h=>Hu.Zj.mp h) (by omega)
  have hf:=ZB (fun b=>if a≠b∧(Hu.Z1 S).all (Hu.hd (Hu.Z2 a b))=true then some (Hu.Z2 a b) else none) (Hu.Z1 S)
  obtain⟨s3',QH,Us,e2⟩:=ih (L++(Hu.Z1 S).filterMap fun b=>if a≠b∧(Hu.Z1 S).all (Hu.hd (Hu.Z2 a b))=true then some (Hu.Z2 a b) else none) (.sh (pt a)) a4 a5 (fun x h=>hx x (List.mem_cons_of_mem _ h)) (by rw[List.length_append];omega)
  refine⟨s3',QH,Us,?_⟩
  have hb:vB [s0,.ow (L.map fY),.sh (.lst ((Hu.Z1 S).map pt)),.sh (pt a),s4,s5]=.ok .nx [s0,.ow ((L++(Hu.Z1 S).filterMap fun b=>if a≠b∧(Hu.Z1 S).all (Hu.hd (Hu.Z2 a b))=true then some (Hu.Z2 a b) else none).map fY),.sh (.lst ((Hu.Z1 S).map pt)),.sh (pt a),a4,a5]:=by
   unfold vB
   simp only[Yo,Ah,List.getElem?_cons_succ,List.getElem?_cons_zero,Res.aQ]
   exact e1
  rw[List.map_cons,forL]
  simp only[Ip,List.set_cons_succ,List.set_cons_zero,hb,Res.aQ]
  rw[e2,List.flatMap_cons,List.append_assoc]
theorem Z1b{S:List Hu.Pt}{sl:P.Slot}(hs:Sl sl (S.map pt))(hS:∀p∈S,Sm p)(hl:S.length≤1000):sW [sl]=.ret (.ow ((Hu.Zq S).map fY)):=by
 have h1:=Z1A hs hl
 have ho:=Zx S
 obtain⟨s3,s4,s5,e⟩:=Z1a hS hl sl (Hu.Z1 S) [] .no .no .no (fun x h=>Hu.Zj.mp h) (by simp;omega)
 have he:[]++((Hu.Z1 S).flatMap fun a=>(Hu.Z1 S).filterMap fun b=>if a≠b∧(Hu.Z1 S).all (Hu.hd (Hu.Z2 a b))=true then some (Hu.Z2 a b) else none)=Hu.Zq S:=rfl
 rw[he] at e
 generalize Hu.Zq S=ed at e
 generalize (Hu.Z1 S).map pt=os at e h1
 simp only[List.map_nil] at e
 simp[sW,Bj,List.replicate,hs.lend,h1,e]
theorem Z0V(S:List Hu.Pt)(hl:S.length≤1000):(Hu.Zq S).length≤1000000:=by
 have ho:=Zx S
 have:∀(xs:List Hu.Pt) (f:Hu.Pt→List Hu.Ln),(∀x,(f x).length≤1000)→(xs.flatMap f).length≤xs.length*1000:=by
  intro xs f hf
  induction xs with
  |nil=>simp
  |cons x xs ih=>rw[List.flatMap_cons,List.length_append,List.length_cons];have:=hf x;omega
 refine Nat.le_trans (this (Hu.Z1 S) _ fun x=>Nat.le_trans (ZB _ _) (by omega)) (by omega)
theorem Z1c{S:List Hu.Pt}{sl:P.Slot}(hs:Sl sl (S.map pt))(hS:∀p∈S,Sm p)(h0:S≠[])(hl:S.length≤1000):sX [sl]=.ret (.ow ((Hu.Zr S).map fY)):=by
 have h1:=Z1S hs h0 hl
 have h2:=Z1b hs hS hl
 have h3:ı (.lst ((Hu.box S).map fY)) (.lst ((Hu.Zq S).map fY))=some (.ow ((Hu.Zr S).map fY)):=by
  rw[add_l (by have:=Z0V S hl;simp[Hu.box];omega),←List.map_append]
  rfl
 simp[sX,Bk,List.replicate,hs.lend,h1,h2,h3]
theorem Z1T{S:List Hu.Pt}{l:Hu.Ln}(h:l∈Hu.Zr S)(hS:∀p∈S,Sm p):SmL l:=by
 rcases List.mem_append.mp h with h|h
 ·unfold Hu.box at h
  simp only[List.mem_cons,List.not_mem_nil,or_false] at h
  rcases h with e|e|e|e<;>subst e<;>simp only[SmL]<;>omega
 ·obtain⟨a,ha,b,hb,_,_,rfl⟩:=Hu.Z0P.mp h
  exact Z0x (hS a ha) (hS b hb)
theorem Z0D(n:Nat):dg 0 n 1=(List.range n).map fun(i:Nat)=>PV.int (i:Int):=by
 unfold dg
 refine List.map_congr_left fun i _=>?_
 simp
theorem Zy{n:Nat}(h:n≤1000):Ÿ [.int (n:Int)]=some ((List.range n).map fun(i:Nat)=>PV.int (i:Int)):=by
 have hs:oJ (n:Int)=true:=by unfold oJ;simp;omega
 unfold Ÿ
 simp[hs,Z0D]
def Wn(s:P.Slot)(ps:List PV):Prop:=s=.sh (.lst ps)∨s=.bw ps
def aM(x:Int):Bool:=decide (-1000000000≤x∧x≤1000000000)
def zL(x:Int):Bool:=decide (1≤x∧x≤1000000000)
def zM(x:Int):Bool:=decide (0≤x∧x≤1000000000)
theorem ZO(x:Int):cX [.sh (.int x)]=.ret (.sh (.bl (aM x))):=by
 unfold aM
 by_cases h1: -1000000000≤x<;>by_cases h2:x≤1000000000<;>simp[cX,Az,List.replicate,h1,h2]
theorem ZX(x:Int):mj [.sh (.int x)]=.ret (.sh (.bl (zL x))):=by
 unfold zL
 by_cases h1:1≤x<;>by_cases h2:x≤1000000000<;>simp[mj,A_,List.replicate,h1,h2]
def Zg:List Int→Bool
 | [p,q,h]=>aM p && aM q && zL h
 |_=>false
def Zh:List Int→Bool
 | [x,y,u,v,h]=>aM x && aM y && aM u && aM v && zL h
 |_=>false
def Ze:List Int→Bool
 | [x,y,u,v,h]=>Zh [x,y,u,v,h] && !(decide (x=u) && decide (y=v))
 |_=>false
def Z9:List Int→Bool
 | [x,y,u,v,h]=>Zh [x,y,u,v,h] && decide (x<u) && decide (y<v)
 |_=>false
def Zf:List Int→Bool
 | [a,b,c,d,e,f,g,h,i]=>aM a && aM b && zM c && (aM d && aM e && zM f) && (aM g && aM h && zM i)
 |_=>false
theorem Z1U(a b c:Bool):uz [.lst [.bl a,.bl b,.bl c]]=some (.bl (a && b && c)):=by cases a<;>cases b<;>cases c<;>rfl
theorem Z1V(a b c d:Bool):uz [.lst [.bl a,.bl b,.bl c,.bl d]]=some (.bl (a && b && c && d)):=by cases a<;>cases b<;>cases c<;>cases d<;>rfl
theorem Z04{xs:List Int}{sl:P.Slot}(hs:Wn sl (xs.map .int)):pI [sl]=.ret (.sh (.bl (Zg xs))):=by
 by_cases hl:xs.length=3
 ·match xs,hl with
  | [a,b,c],_=>
    have h:Zg [a,b,c]=(aM a && aM b && zL c):=rfl
    rw[h]
    rcases hs with rfl|rfl<;>cases ea:aM a<;>cases eb:aM b<;>cases ec:zL c<;>simp[pI,vd,List.replicate,ZO,ZX,ea,eb,ec]
 ·have h:Zg xs=false:=by
   unfold Zg
   split
   ·simp at hl
   ·rfl
  rw[h]
  have hl':¬((xs.length:Nat):Int)=3:=by omega
  rcases hs with rfl|rfl<;>simp[pI,vd,List.replicate,hl']
theorem Z0y{xs:List Int}{sl:P.Slot}(hs:Wn sl (xs.map .int)):jQ [sl]=.ret (.sh (.bl (Zh xs))):=by
 by_cases hl:xs.length=5
 ·match xs,hl with
  | [a,b,c,d,e],_=>
    have h:Zh [a,b,c,d,e]=(aM a && aM b && aM c && aM d && zL e):=rfl
    rw[h]
    have hc:cL ([.int a,.int b,.int c,.int d,.int e]:List PV) none (some 4)=[.int a,.int b,.int c,.int d]:=rfl
    have hb:=Z1V (aM a) (aM b) (aM c) (aM d)
    rcases hs with rfl|rfl<;>cases ea:(aM a && aM b && aM c && aM d)<;>cases ec:zL e<;>rw[ea] at hb<;>simp[jQ,vh,List.replicate,ZO,ZX,hc,Ō,hb,ec]
 ·have h:Zh xs=false:=by
   unfold Zh
   split
   ·simp at hl
   ·rfl
  rw[h]
  have hl':¬((xs.length:Nat):Int)=5:=by omega
  rcases hs with rfl|rfl<;>simp[jQ,vh,List.replicate,hl']
theorem Z1W(a b c d:Int):jj (.lst [.int a,.int b]) (.lst [.int c,.int d])=some (.bl (!(decide (a=c) && decide (b=d)))):=by
 have h:eqB (.lst [.int a,.int b]) (.lst [.int c,.int d])=(decide (a=c) && decide (b=d)):=by
  simp[eqB,eU]
  rw[Bool.eq_iff_iff]
  simp
 unfold jj ux
 rw[h]
 simp[aB,aC,dep,eV]
theorem Z1s{xs:List Int}(hl:¬xs.length=5):Zh xs=false:=by
 unfold Zh
 split
 ·simp at hl
 ·rfl
theorem Z0E{s:P.Slot}{ps:List PV}(h:Wn s ps):dF s=some s:=by rcases h with rfl|rfl<;>rfl
theorem Z1d{xs:List Int}{sl:P.Slot}(hs:Wn sl (xs.map .int)):pN [sl]=.ret (.sh (.bl (Ze xs))):=by
 have he:=Z0y hs
 by_cases hl:xs.length=5
 ·match xs,hl with
  | [a,b,c,d,e],_=>
    have h:Ze [a,b,c,d,e]=(Zh [a,b,c,d,e] && !(decide (a=c) && decide (b=d))):=rfl
    rw[h]
    have h1:cL ([.int a,.int b,.int c,.int d,.int e]:List PV) none (some 2)=[.int a,.int b]:=rfl
    have h2:cL ([.int a,.int b,.int c,.int d,.int e]:List PV) (some 2) (some 4)=[.int c,.int d]:=rfl
    have h3:=Z1W a b c d
    generalize Zh [a,b,c,d,e]=q at *
    generalize (!(decide (a=c) && decide (b=d)))=r at *
    rcases hs with rfl|rfl<;>cases q<;>simp_all [pN,vm,List.replicate]
 ·have h:Ze xs=false:=by
   unfold Ze
   split
   ·simp at hl
   ·rfl
  rw[h]
  rw[Z1s hl] at he
  simp[pN,vm,List.replicate,Z0E hs,he]
theorem Z1B{xs:List Int}{sl:P.Slot}(hs:Wn sl (xs.map .int)):vo [sl]=.ret (.sh (.bl (Z9 xs))):=by
 have he:=Z0y hs
 by_cases hl:xs.length=5
 ·match xs,hl with
  | [a,b,c,d,e],_=>
    have h:Z9 [a,b,c,d,e]=(Zh [a,b,c,d,e] && decide (a<c) && decide (b<d)):=rfl
    rw[h]
    generalize Zh [a,b,c,d,e]=q at *
    rcases hs with rfl|rfl<;>simp only[List.map_cons,List.map_nil] at he<;>cases q<;>by_cases h1:a<c<;>by_cases h2:b<d<;>simp[vo,DX,List.replicate,he,h1,h2]
 ·have h:Z9 xs=false:=by
   unfold Z9
   split
   ·simp at hl
   ·rfl
  rw[h]
  rw[Z1s hl] at he
  simp[vo,DX,List.replicate,Z0E hs,he]
theorem ZE(a b c:Int):Gh [.sh (.lst [.int a,.int b,.int c])]=.ret (.sh (.bl (aM a && aM b && zM c))):=by
 unfold zM
 cases ea:aM a<;>cases eb:aM b<;>by_cases h1:0≤c<;>by_cases h2:c≤1000000000<;>simp[Gh,JL,List.replicate,ZO,ea,eb,h1,h2]
theorem Z1e{xs:List Int}{sl:P.Slot}(hs:Wn sl (xs.map .int)):pO [sl]=.ret (.sh (.bl (Zf xs))):=by
 by_cases hl:xs.length=9
 ·match xs,hl with
  | [a,b,c,d,e,f,g,h,i],_=>
    have hc:Zf [a,b,c,d,e,f,g,h,i]=((aM a && aM b && zM c) && (aM d && aM e && zM f) && (aM g && aM h && zM i)):=rfl
    rw[hc]
    have h1:cL ([.int a,.int b,.int c,.int d,.int e,.int f,.int g,.int h,.int i]:List PV) (some 0) (some 3)=[.int a,.int b,.int c]:=rfl
    have h2:cL ([.int a,.int b,.int c,.int d,.int e,.int f,.int g,.int h,.int i]:List PV) (some 3) (some 6)=[.int d,.int e,.int f]:=rfl
    have h3:cL ([.int a,.int b,.int c,.int d,.int e,.int f,.int g,.int h,.int i]:List PV) (some 6) (some 9)=[.int g,.int h,.int i]:=rfl
    have hb:=Z1U (aM a && aM b && zM c) (aM d && aM e && zM f) (aM g && aM h && zM i)
    have k1:=ZE a b c
    have k2:=ZE d e f
    have k3:=ZE g h i
    generalize (aM a && aM b && zM c)=q1 at *
    generalize (aM d && aM e && zM f)=q2 at *
    generalize (aM g && aM h && zM i)=q3 at *
    rcases hs with rfl|rfl<;>simp[pO,vp,List.replicate,Ō,h1,h2,h3,k1,k2,k3,hb]
 ·have h:Zf xs=false:=by
   unfold Zf
   split
   ·simp at hl
   ·rfl
  rw[h]
  have hl':¬((xs.length:Nat):Int)=9:=by omega
  rcases hs with rfl|rfl<;>simp[pO,vp,List.replicate,hl']
def Zd(w:Str):String:=if w= "post" then "Post" else if w= "fence" then "Fence" else if w= "sail" then "Sail" else if w= "cloth" then "Cloth" else "House"
def Z4(C:String)(w:Str)(xs:List Int):PV:=.ins C ["word","numbers"] [.str w,.lst (xs.map .int)]
def Z8(w:Str)(xs:List Int):Bool:=if w= "post" then Zg xs else if w= "fence" then Ze xs else if w= "sail" then Z9 xs else if w= "cloth" then Zf xs else if w= "house" then Z9 xs else false
theorem wn:((Str.ofString "word")=(Str.ofString "numbers"))=False:=eq_false (by decide +kernel)
theorem Zw{C:String}(hC:(["Thing","Post","Fence","Sail","Cloth","House"]:List String).contains C=true)(w:Str){xs:List Int}{sl:P.Slot}(hs:Wn sl (xs.map .int)):cV 3 3 C fP [.sh (.str w),sl]=.ok ["word","numbers"] [.str w,.lst (xs.map .int)]:=by
 rcases hs with rfl|rfl<;>simp[cV,fP,iG,IR.of,List.replicate,putN,qH,hC,wn,-List.contains_eq_mem,-List.contains_cons]
theorem s1:PyData.strOk (Str.ofString "post")=true:=by decide +kernel
theorem s2:PyData.strOk (Str.ofString "fence")=true:=by decide +kernel
theorem s3:PyData.strOk (Str.ofString "sail")=true:=by decide +kernel
theorem s4:PyData.strOk (Str.ofString "cloth")=true:=by decide +kernel
theorem s5:PyData.strOk (Str.ofString "house")=true:=by decide +kernel
theorem d12:(Str.ofString "post" =Str.ofString "fence")=False:=eq_false (by decide +kernel)
theorem d13:(Str.ofString "post" =Str.ofString "sail")=False:=eq_false (by decide +kernel)
theorem d14:(Str.ofString "post" =Str.ofString "cloth")=False:=eq_false (by decide +kernel)
theorem d15:(Str.ofString "post" =Str.ofString "house")=False:=eq_false (by decide +kernel)
theorem d23:(Str.ofString "fence" =Str.ofString "sail")=False:=eq_false (by decide +kernel)
theorem d24:(Str.ofString "fence" =Str.ofString "cloth")=False:=eq_false (by decide +kernel)
theorem d25:(Str.ofString "fence" =Str.ofString "house")=False:=eq_false (by decide +kernel)
theorem d34:(Str.ofString "sail" =Str.ofString "cloth")=False:=eq_false (by decide +kernel)
theorem d35:(Str.ofString "sail" =Str.ofString "house")=False:=eq_false (by decide +kernel)
theorem d45:(Str.ofString "cloth" =Str.ofString "house")=False:=eq_false (by decide +kernel)
theorem Z1f{w:Str}(hw:PyData.strOk w=true){xs:List Int}{sl:P.Slot}(hs:Wn sl (xs.map .int)):cN [.sh (.str w),sl]=if Z8 w xs=true then .ret (.sh (Z4 (Zd w) w xs)) else .exc ⟨"BadThing",[],[]⟩:=by
 have e1:=cM hw s1
 have e2:=cM hw s2
 have e3:=cM hw s3
 have e4:=cM hw s4
 have e5:=cM hw s5
 have p1:=Z04 hs
 have p2:=Z1d hs
 have p3:=Z1B hs
 have p4:=Z1e hs
 have i1:vf [.sh (.str w),sl]=_:=Zw (by decide) w hs
 have i2:pJ [.sh (.str w),sl]=_:=Zw (by decide) w hs
 have i3:vg [.sh (.str w),sl]=_:=Zw (by decide) w hs
 have i4:pK [.sh (.str w),sl]=_:=Zw (by decide) w hs
 have i5:pL [.sh (.str w),sl]=_:=Zw (by decide) w hs
 have hle:=Z0E hs
 unfold Z8 Zd Z4
 by_cases h1:w=Str.ofString "post"
 ·have n2:¬w=Str.ofString "fence" := fun z=>(d12▸(h1.symm.trans z):False)
  have n3:¬w=Str.ofString "sail" := fun z=>(d13▸(h1.symm.trans z):False)
  have n4:¬w=Str.ofString "cloth" := fun z=>(d14▸(h1.symm.trans z):False)
  have n5:¬w=Str.ofString "house" := fun z=>(d15▸(h1.symm.trans z):False)
  rw[decide_eq_true h1] at e1
  rw[decide_eq_false n2] at e2
  rw[decide_eq_false n3] at e3
  rw[decide_eq_false n4] at e4
  rw[decide_eq_false n5] at e5
  have hg:(if w=Str.ofString "post" then Zg xs else if w=Str.ofString "fence" then Ze xs else if w=Str.ofString "sail" then Z9 xs else if w=Str.ofString "cloth" then Zf xs else if w=Str.ofString "house" then Z9 xs else false)=Zg xs:=by rw[if_pos h1]
  have hc:(if w=Str.ofString "post" then "Post" else if w=Str.ofString "fence" then "Fence" else if w=Str.ofString "sail" then "Sail" else if w=Str.ofString "cloth" then "Cloth" else "House")= "Post" := by rw[if_pos h1]
  rw[hg,hc]
  cases q:Zg xs<;>rw[q] at p1<;>simp[cN,gJ,cg,List.replicate,e1,e2,e3,e4,e5,hle,p1,i1]
 ·skip
  by_cases h2:w=Str.ofString "fence"
  ·have n1:=h1
   have n3:¬w=Str.ofString "sail" := fun z=>(d23▸(h2.symm.trans z):False)
   have n4:¬w=Str.ofString "cloth" := fun z=>(d24▸(h2.symm.trans z):False)
   have n5:¬w=Str.ofString "house" := fun z=>(d25▸(h2.symm.trans z):False)
   rw[decide_eq_true h2] at e2
   rw[decide_eq_false n1] at e1
   rw[decide_eq_false n3] at e3
   rw[decide_eq_false n4] at e4
   rw[decide_eq_false n5] at e5
   have hg:(if w=Str.ofString "post" then Zg xs else if w=Str.ofString "fence" then Ze xs else if w=Str.ofString "sail" then Z9 xs else if w=Str.ofString "cloth" then Zf xs else if w=Str.ofString "house" then Z9 xs else false)=Ze xs:=by rw[if_neg n1,if_pos h2]
   have hc:(if w=Str.ofString "post" then "Post" else if w=Str.ofString "fence" then "Fence" else if w=Str.ofString "sail" then "Sail" else if w=Str.ofString "cloth" then "Cloth" else "House")= "Fence" := by rw[if_neg n1,if_pos h2]
   rw[hg,hc]
   cases q:Ze xs<;>rw[q] at p2<;>simp[cN,gJ,cg,List.replicate,e1,e2,e3,e4,e5,hle,p2,i2]
  ·skip
   by_cases h3:w=Str.ofString "sail"
   ·have n1:=h1
    have n2:=h2
    have n4:¬w=Str.ofString "cloth" := fun z=>(d34▸(h3.symm.trans z):False)
    have n5:¬w=Str.ofString "house" := fun z=>(d35▸(h3.symm.trans z):False)
    rw[decide_eq_true h3] at e3
    rw[decide_eq_false n1] at e1
    rw[decide_eq_false n2] at e2
    rw[decide_eq_false n4] at e4
    rw[decide_eq_false n5] at e5
    have hg:(if w=Str.ofString "post" then Zg xs else if w=Str.ofString "fence" then Ze xs else if w=Str.ofString "sail" then Z9 xs else if w=Str.ofString "cloth" then Zf xs else if w=Str.ofString "house" then Z9 xs else false)=Z9 xs:=by rw[if_neg n1,if_neg n2,if_pos h3]
    have hc:(if w=Str.ofString "post" then "Post" else if w=Str.ofString "fence" then "Fence" else if w=Str.ofString "sail" then "Sail" else if w=Str.ofString "cloth" then "Cloth" else "House")= "Sail" := by rw[if_neg n1,if_neg n2,if_pos h3]
    rw[hg,hc]
    cases q:Z9 xs<;>rw[q] at p3<;>simp[cN,gJ,cg,List.replicate,e1,e2,e3,e4,e5,hle,p3,i3]
   ·skip
    by_cases h4:w=Str.ofString "cloth"
    ·have n1:=h1
     have n2:=h2
     have n3:=h3
     have n5:¬w=Str.ofString "house" := fun z=>(d45▸(h4.symm.trans z):False)
     rw[decide_eq_true h4] at e4
     rw[decide_eq_false n1] at e1
     rw[decide_eq_false n2] at e2
     rw[decide_eq_false n3] at e3
     rw[decide_eq_false n5] at e5
     have hg:(if w=Str.ofString "post" then Zg xs else if w=Str.ofString "fence" then Ze xs else if w=Str.ofString "sail" then Z9 xs else if w=Str.ofString "cloth" then Zf xs else if w=Str.ofString "house" then Z9 xs else false)=Zf xs:=by rw[if_neg n1,if_neg n2,if_neg n3,if_pos h4]
     have hc:(if w=Str.ofString "post" then "Post" else if w=Str.ofString "fence" then "Fence" else if w=Str.ofString "sail" then "Sail" else if w=Str.ofString "cloth" then "Cloth" else "House")= "Cloth" := by rw[if_neg n1,if_neg n2,if_neg n3,if_pos h4]
     rw[hg,hc]
     cases q:Zf xs<;>rw[q] at p4<;>simp[cN,gJ,cg,List.replicate,e1,e2,e3,e4,e5,hle,p4,i4]
    ·skip
     by_cases h5:w=Str.ofString "house"
     ·have n1:=h1
      have n2:=h2
      have n3:=h3
      have n4:=h4
      rw[decide_eq_true h5] at e5
      rw[decide_eq_false n1] at e1
      rw[decide_eq_false n2] at e2
      rw[decide_eq_false n3] at e3
      rw[decide_eq_false n4] at e4
      have hg:(if w=Str.ofString "post" then Zg xs else if w=Str.ofString "fence" then Ze xs else if w=Str.ofString "sail" then Z9 xs else if w=Str.ofString "cloth" then Zf xs else if w=Str.ofString "house" then Z9 xs else false)=Z9 xs:=by rw[if_neg n1,if_neg n2,if_neg n3,if_neg n4,if_pos h5]
      have hc:(if w=Str.ofString "post" then "Post" else if w=Str.ofString "fence" then "Fence" else if w=Str.ofString "sail" then "Sail" else if w=Str.ofString "cloth" then "Cloth" else "House")= "House" := by rw[if_neg n1,if_neg n2,if_neg n3,if_neg n4]
      rw[hg,hc]
      cases q:Z9 xs<;>rw[q] at p3<;>simp[cN,gJ,cg,List.replicate,e1,e2,e3,e4,e5,hle,p3,i5]
     ·skip
      rw[decide_eq_false h1] at e1
      rw[decide_eq_false h2] at e2
      rw[decide_eq_false h3] at e3
      rw[decide_eq_false h4] at e4
      rw[decide_eq_false h5] at e5
      rw[if_neg h1,if_neg h2,if_neg h3,if_neg h4,if_neg h5]
      simp[cN,gJ,cg,List.replicate,e1,e2,e3,e4,e5]
abbrev P3:=Int×Int×Int
def c3(p:P3):PV:=.tup [.int p.1,.int p.2.1,.int p.2.2]
def Zo(x y u v z:Int):List P3:=[(x,y,z),(u,y,z),(u,v,z),(x,v,z)]
def ZL(x y u v h:Int):List P3:=Zo x y u v 0++Zo x y u v h
def Z3(C:String)(xs:List Int):List P3:=
 if C= "Post" then(match xs with
  | [p,q,h]=>ZL (2*p-1) (2*q-1) (2*p+1) (2*q+1) h
  |_=>[])
 else if C= "Fence" then(match xs with
  | [x,y,u,v,h]=>[(x,y,0),(u,v,0),(u,v,h),(x,y,h)]
  |_=>[])
 else if C= "Sail" then(match xs with
  | [x,y,u,v,h]=>Zo x y u v h
  |_=>[])
 else if C= "Cloth" then(match xs with
  | [a,b,c,d,e,f,g,h,i]=>[(a,b,c),(d,e,f),(g,h,i)]
  |_=>[])
 else(match xs with
  | [x,y,u,v,h]=>ZL x y u v h
  |_=>[])
def Zi(w:Str)(xs:List Int):List P3:=Z3 (Zd w) xs
theorem ZF{C:String}(hC:(["Thing","Post","Fence","Sail","Cloth","House"]:List String).contains C=true)(w:Str)(xs:List Int):bN ["Thing","Post","Fence","Sail","Cloth","House"] (Str.ofString "numbers") (Z4 C w xs)=some (.lst (xs.map .int)):=by
 unfold bN Z4
 dsimp only
 rw[if_pos hC]
 have:(Str.ofString "numbers" == Str.ofString "word")=false:=by decide +kernel
 show List.lookup _ [(_,_),(_,_)]=_
 rw[List.lookup_cons,this]
 simp
theorem Z0b(x y u v z:Int):iU [.sh (.int x),.sh (.int y),.sh (.int u),.sh (.int v),.sh (.int z)]=.ret (.ow ((Zo x y u v z).map c3)):=by
 simp[iU,Bq,List.replicate,Zo,c3]
theorem Z0c(x y u v h:Int):mH [.sh (.int x),.sh (.int y),.sh (.int u),.sh (.int v),.sh (.int h)]=.ret (.ow ((ZL x y u v h).map c3)):=by
 simp[mH,Br,List.replicate,Z0b,ZL,Zo,add_l]
theorem Z1X{xs:List Int}(h:Zg xs=true)(w:Str):mJ [.sh (Z4 "Post" w xs)]=.ret (.ow ((Z3 "Post" xs).map c3)):=by
 match xs,h with
 | [p,q,h],hh=>
   simp[Zg,aM,zL] at hh
   have hf:=ZF (C:= "Post") (by decide) w [p,q,h]
   generalize Z4 "Post" w [p,q,h]=v at *
   have e:=Z0c (2*p-1) (2*q-1) (2*p+1) (2*q+1) h
   simp[mJ,Bs,List.replicate,hf,e,Z3]
theorem Z1C{xs:List Int}(h:Ze xs=true)(w:Str):mK [.sh (Z4 "Fence" w xs)]=.ret (.ow ((Z3 "Fence" xs).map c3)):=by
 match xs,h with
 | [x,y,u,v,h],hh=>
   have hf:=ZF (C:= "Fence") (by decide) w [x,y,u,v,h]
   generalize Z4 "Fence" w [x,y,u,v,h]=t at *
   simp[mK,Bt,List.replicate,hf,Z3,c3,ı]
theorem Z1Y{xs:List Int}(h:Z9 xs=true)(w:Str):mL [.sh (Z4 "Sail" w xs)]=.ret (.ow ((Z3 "Sail" xs).map c3)):=by
 match xs,h with
 | [x,y,u,v,h],hh=>
   have hf:=ZF (C:= "Sail") (by decide) w [x,y,u,v,h]
   generalize Z4 "Sail" w [x,y,u,v,h]=t at *
   have e:=Z0b x y u v h
   simp[mL,Bu,List.replicate,hf,e,Z3]
theorem Z1D{xs:List Int}(h:Z9 xs=true)(w:Str):mQ [.sh (Z4 "House" w xs)]=.ret (.ow ((Z3 "House" xs).map c3)):=by
 match xs,h with
 | [x,y,u,v,h],hh=>
   have hf:=ZF (C:= "House") (by decide) w [x,y,u,v,h]
   generalize Z4 "House" w [x,y,u,v,h]=t at *
   have e:=Z0c x y u v h
   simp[mQ,Bw,List.replicate,hf,e,Z3]
theorem Z1E{xs:List Int}(h:Zf xs=true)(w:Str):mO [.sh (Z4 "Cloth" w xs)]=.ret (.ow ((Z3 "Cloth" xs).map c3)):=by
 match xs,h with
 | [a,b,c,d,e,f,g,i,j],hh=>
   have hf:=ZF (C:= "Cloth") (by decide) w [a,b,c,d,e,f,g,i,j]
   generalize Z4 "Cloth" w [a,b,c,d,e,f,g,i,j]=t at *
   simp[mO,Bv,List.replicate,hf,Z3,c3,Ō,Uy,cL]
   exact⟨rfl,rfl,rfl⟩
def cst(r p:P3):Hu.Pt:=(r.2.2*p.1+r.1*p.2.2,r.2.2*p.2.1+r.2.1*p.2.2)
def RB(r:P3):Prop:=-1000000≤r.1∧r.1≤1000000∧ -1000000≤r.2.1∧r.2.1≤1000000∧ -1000000≤r.2.2∧r.2.2≤1000000
def PB(p:P3):Prop:=-10000000000≤p.1∧p.1≤10000000000∧ -10000000000≤p.2.1∧p.2.1≤10000000000∧ -10000000000≤p.2.2∧p.2.2≤10000000000
theorem Z0z{r:P3}(hr:RB r)(p:P3):iR [.sh (c3 p),.sh (c3 r)]=.ret (.sh (pt (cst r p))):=by
 obtain⟨a1,a2,a3,a4,a5,a6⟩:=hr
 have m1:ŭ r.2.2 p.1=true:=dJ (by omega) (by omega)
 have m2:ŭ r.2.2 p.2.1=true:=dJ (by omega) (by omega)
 have m3:ŭ r.1 p.2.2=true:=dJ (by omega) (by omega)
 have m4:ŭ r.2.1 p.2.2=true:=dJ (by omega) (by omega)
 simp[iR,Bp,List.replicate,pt,c3,cst,m1,m2,m3,m4]
theorem Z06{x y A B:Int}(h1: -A≤x)(h2:x≤A)(h3: -B≤y)(h4:y≤B): -(A*B)≤x*y∧x*y≤A*B:=by
 have hA:0≤A:=by omega
 have hB:0≤B:=by omega
 have e:(x*y).natAbs≤A.natAbs*B.natAbs:=by
  rw[Int.natAbs_mul]
  exact Nat.mul_le_mul (by omega) (by omega)
 have e2:((A*B).natAbs)=A.natAbs*B.natAbs:=Int.natAbs_mul A B
 have e3:0≤A*B:=Int.mul_nonneg hA hB
 omega
theorem Z0W{r p:P3}(hr:RB r)(hp:PB p):Sm (cst r p):=by
 obtain⟨a1,a2,a3,a4,a5,a6⟩:=hr
 obtain⟨b1,b2,b3,b4,b5,b6⟩:=hp
 have q1:=Z06 a5 a6 b1 b2
 have q2:=Z06 a5 a6 b3 b4
 have q3:=Z06 a1 a2 b5 b6
 have q4:=Z06 a3 a4 b5 b6
 simp only[Sm,cst]
 omega
theorem Z0X{w:Str}{xs:List Int}(hg:Z8 w xs=true){mo:M PV}{ρ ρ1:List P.Slot}(ho:mo ρ=.ok (Z4 (Zd w) w xs) ρ1):oU (Str.ofString "corners") [("Post",mJ),("Fence",mK),("Sail",mL),("Cloth",mO),("House",mQ)] mo č ρ=.ok (.ow ((Zi w xs).map c3)) ρ1:=by
 have hn:(["word","numbers"]:List Str).contains (Str.ofString "corners")=false:=by decide +kernel
 have key:∀(C:String) (mf:MF),Zd w=C→List.lookup C [("Post",mJ),("Fence",mK),("Sail",mL),("Cloth",mO),("House",mQ)]=some mf→mf [.sh (Z4 C w xs)]=.ret (.ow ((Z3 C xs).map c3))→oU (Str.ofString "corners") [("Post",mJ),("Fence",mK),("Sail",mL),("Cloth",mO),("House",mQ)] mo č ρ=.ok (.ow ((Zi w xs).map c3)) ρ1:=by
  intro C mf hC hl hf
  unfold Zi
  rw[hC] at ho ⊢
  unfold oU
  rw[ho]
  unfold Z4 at *
  simp only[Res.bind]
  rw[hl]
  dsimp only
  rw[if_neg (by rw[hn];decide)]
  simp only[č,Res.bind]
  rw[hf]
 unfold Z8 at hg
 by_cases e1:w= "post"
 ·rw[if_pos e1] at hg
  exact key "Post" _ (by unfold Zd;rw[if_pos e1]) rfl (Z1X hg w)
 rw[if_neg e1] at hg
 by_cases e2:w= "fence"
 ·rw[if_pos e2] at hg
  exact key "Fence" _ (by unfold Zd;rw[if_neg e1,if_pos e2]) rfl (Z1C hg w)
 rw[if_neg e2] at hg
 by_cases e3:w= "sail"
 ·rw[if_pos e3] at hg
  exact key "Sail" _ (by unfold Zd;rw[if_neg e1,if_neg e2,if_pos e3]) rfl (Z1Y hg w)
 rw[if_neg e3] at hg
 by_cases e4:w= "cloth"
 ·rw[if_pos e4] at hg
  exact key "Cloth" _ (by unfold Zd;rw[if_neg e1,if_neg e2,if_neg e3,if_pos e4]) rfl (Z1E hg w)
 rw[if_neg e4] at hg
 by_cases e5:w= "house"
 ·rw[if_pos e5] at hg
  exact key "House" _ (by unfold Zd;rw[if_neg e1,if_neg e2,if_neg e3,if_neg e4]) rfl (Z1D hg w)
 ·rw[if_neg e5] at hg
  cases hg
theorem Z0F{r:P3}(hr:RB r){L:List P3}(hl:L.length≤100)(s1:P.Slot):Ō (gN 1) œ (Ď (Đ iR (ą 1 (ą 0 č)))) (L.map c3) [.sh (c3 r),s1] []=some ((L.map (cst r)).map pt):=by
 have:=Š (g:=gN 1) (mt:=œ) (me:=Ď (Đ iR (ą 1 (ą 0 č)))) c3 (fun p=>pt (cst r p)) (fun ρ=>∃s,ρ=[.sh (c3 r),s]) L [.sh (c3 r),s1] [] ⟨_,rfl⟩ (by simp;omega) (by
  rintro p hp ρ ⟨s,rfl⟩
  have e:=Z0z hr p
  generalize c3 r=R at *
  generalize c3 p=Q at *
  exact⟨[R |> .sh,.sh Q],[.sh R,.sh Q],[.sh R,.sh Q],by simp,by simp,by simp[e],_,rfl⟩)
 rw[this]
 simp
theorem Z1g{w:Str}{xs:List Int}(hg:Z8 w xs=true)(hl:(Zi w xs).length≤100){r:P3}(hr:RB r):sZ [.sh (Z4 (Zd w) w xs),.sh (c3 r)]=.ret (.ow (((Zi w xs).map (cst r)).map pt)):=by
 have h1:=Z0X hg (mo:=ğ 0) (ρ:= [.sh (Z4 (Zd w) w xs),.sh (c3 r)]) (ρ1:=[.sh (Z4 (Zd w) w xs),.sh (c3 r)]) (by simp)
 have h2:=Z0F hr hl
 generalize ((Zi w xs).map (cst r)).map pt=Y at *
 generalize (Zi w xs).map c3=Z at *
 generalize Z4 (Zd w) w xs=v at *
 generalize c3 r=R at *
 simp[sZ,Bx,List.replicate,h1,h2,-Td]
def En(s:Hu.Pt):P3:=(2*s.1,2*s.2,0)
theorem Z1h{w:Str}{xs:List Int}(hg:Z8 w xs=true):(Zi w xs).length≤8∧Zi w xs≠[]∧∀p∈Zi w xs,PB p:=by
 have hp:Zg xs=true→(Z3 "Post" xs).length≤8∧Z3 "Post" xs≠[]∧∀p∈Z3 "Post" xs,PB p:=by
  intro h
  match xs,h with
  | [a,b,c],h=>
    simp[Zg,aM,zL] at h
    simp[Z3,ZL,Zo,PB]
    omega
 have hf:Ze xs=true→(Z3 "Fence" xs).length≤8∧Z3 "Fence" xs≠[]∧∀p∈Z3 "Fence" xs,PB p:=by
  intro h
  match xs,h with
  | [a,b,c,d,e],h=>
    simp[Ze,Zh,aM,zL] at h
    simp[Z3,PB]
    omega
 have hs:Z9 xs=true→(Z3 "Sail" xs).length≤8∧Z3 "Sail" xs≠[]∧∀p∈Z3 "Sail" xs,PB p:=by
  intro h
  match xs,h with
  | [a,b,c,d,e],h=>
    simp[Z9,Zh,aM,zL] at h
    simp[Z3,Zo,PB]
    omega
 have hh:Z9 xs=true→(Z3 "House" xs).length≤8∧Z3 "House" xs≠[]∧∀p∈Z3 "House" xs,PB p:=by
  intro h
  match xs,h with
  | [a,b,c,d,e],h=>
    simp[Z9,Zh,aM,zL] at h
    simp[Z3,ZL,Zo,PB]
    omega
 have hc:Zf xs=true→(Z3 "Cloth" xs).length≤8∧Z3 "Cloth" xs≠[]∧∀p∈Z3 "Cloth" xs,PB p:=by
  intro h
  match xs,h with
  | [a,b,c,d,e,f,g,i,j],h=>
    simp[Zf,aM,zM] at h
    simp[Z3,PB]
    omega
 unfold Z8 at hg
 unfold Zi Zd
 by_cases e1:w= "post"
 ·rw[if_pos e1] at hg ⊢;exact hp hg
 rw[if_neg e1] at hg ⊢
 by_cases e2:w= "fence"
 ·rw[if_pos e2] at hg ⊢;exact hf hg
 rw[if_neg e2] at hg ⊢
 by_cases e3:w= "sail"
 ·rw[if_pos e3] at hg ⊢;exact hs hg
 rw[if_neg e3] at hg ⊢
 by_cases e4:w= "cloth"
 ·rw[if_pos e4] at hg ⊢;exact hc hg
 rw[if_neg e4] at hg ⊢
 by_cases e5:w= "house"
 ·rw[if_pos e5] at hg;exact hh hg
 ·rw[if_neg e5] at hg;cases hg
def shB(w:Str)(xs:List Int)(s:Hu.Pt)(r:P3):Bool:=(Hu.ZN ((Zi w xs).map (cst r)) (cst r (En s))).isNone
abbrev Th:=Str×List Int
def zK(t:Th):PV:=Z4 (Zd t.1) t.1 t.2
def jY:Option P3→PV
 |none=>.non
 |some r=>c3 r
abbrev Dy:=Str×Int×List (Option P3)
def cF(d:Dy):PV:=.tup [.str d.1,.int d.2.1,.lst (d.2.2.map jY)]
def Z0(w h:Int)(T:List Th)(D:List Dy):PV:=.ins "Yard" ["width","height","things","days"] [.int w,.int h,.lst (T.map zK),.lst (D.map cF)]
theorem ywh:(Str.ofString "width" =Str.ofString "height")=False:=eq_false (by decide +kernel)
theorem ywt:(Str.ofString "width" =Str.ofString "things")=False:=eq_false (by decide +kernel)
theorem ywd:(Str.ofString "width" =Str.ofString "days")=False:=eq_false (by decide +kernel)
theorem yht:(Str.ofString "height" =Str.ofString "things")=False:=eq_false (by decide +kernel)
theorem yhd:(Str.ofString "height" =Str.ofString "days")=False:=eq_false (by decide +kernel)
theorem ytd:(Str.ofString "things" =Str.ofString "days")=False:=eq_false (by decide +kernel)
theorem y_w(w h:Int)(T:List Th)(D:List Dy):bN ["Yard"] (Str.ofString "width") (Z0 w h T D)=some (.int w):=by
 unfold bN Z0
 simp
theorem y_h(w h:Int)(T:List Th)(D:List Dy):bN ["Yard"] (Str.ofString "height") (Z0 w h T D)=some (.int h):=by
 have:(Str.ofString "height" == Str.ofString "width")=false:=by decide +kernel
 unfold bN Z0
 simp[List.lookup_cons,this]
theorem y_t(w h:Int)(T:List Th)(D:List Dy):bN ["Yard"] (Str.ofString "things") (Z0 w h T D)=some (.lst (T.map zK)):=by
 have e1:(Str.ofString "things" == Str.ofString "width")=false:=by decide +kernel
 have e2:(Str.ofString "things" == Str.ofString "height")=false:=by decide +kernel
 unfold bN Z0
 simp[List.lookup_cons,e1,e2]
theorem y_d(w h:Int)(T:List Th)(D:List Dy):bN ["Yard"] (Str.ofString "days") (Z0 w h T D)=some (.lst (D.map cF)):=by
 have e1:(Str.ofString "days" == Str.ofString "width")=false:=by decide +kernel
 have e2:(Str.ofString "days" == Str.ofString "height")=false:=by decide +kernel
 have e3:(Str.ofString "days" == Str.ofString "things")=false:=by decide +kernel
 unfold bN Z0
 simp[List.lookup_cons,e1,e2,e3]
theorem Z0Y(D:List Dy)(hD:D.length≤100000)(s0 s1 s2:P.Slot):Ō (gT 3 (Ŀ (gN 0) (Ŀ (gN 1) (Ŀ (gN 2) bC)))) œ (Ŗ (ă (ğ 0) (ă (ğ 1) (ă (Ď (oF dI (ă (ā 2) Ě))) Ě)))) (D.map cF) [s0,s1,s2] []=some (D.map cF):=by
 have h:=Š (g:=gT 3 (Ŀ (gN 0) (Ŀ (gN 1) (Ŀ (gN 2) bC)))) (mt:=œ) (me:=Ŗ (ă (ğ 0) (ă (ğ 1) (ă (Ď (oF dI (ă (ā 2) Ě))) Ě)))) cF cF (fun ρ=>∃a b c,ρ=[a,b,c]) D [s0,s1,s2] [] ⟨_,_,_,rfl⟩ (by simp;omega) (by
  rintro d _ ρ ⟨a,b,c,rfl⟩
  refine⟨[.sh (.str d.1),.sh (.int d.2.1),.sh (.lst (d.2.2.map jY))],[.sh (.str d.1),.sh (.int d.2.1),.sh (.lst (d.2.2.map jY))],[.sh (.str d.1),.sh (.int d.2.1),.sh (.lst (d.2.2.map jY))],by simp[cF],rfl,by simp[cF],_,_,_,rfl⟩)
 simpa using h
theorem Z1F(w h:Int){T:List Th}{D:List Dy}(hT:T.length≤100000)(hD:D.length≤100000){s3 s4:P.Slot}(h3:Sl s3 (T.map zK))(h4:Sl s4 (D.map cF)):jO [.sh (.int w),.sh (.int h),s3,s4]=.ok ["width","height","things","days"] [.int w,.int h,.lst (T.map zK),.lst (D.map cF)]:=by
 have c:=Z0Y D hD .no .no .no
 generalize hx:T.map zK=tx at *
 generalize hy:D.map cF=dx at *
 rcases h3 with rfl|rfl<;>rcases h4 with rfl|rfl<;>simp[jO,cV,Ay,iG,IR.of,List.replicate,putN,qH,ywh,ywt,ywd,yht,yhd,ytd,c]
theorem Z2b{k w h:Nat}(hw:0<w):k / w<h↔k<w*h:=by
 rw[Nat.div_lt_iff_lt_mul hw,Nat.mul_comm]
def bL(w k:Nat):Hu.Pt:=(((k % w:Nat):Int),((k / w:Nat):Int))
def Qz(t:Th)(s:Hu.Pt)(r:P3):Bool:=shB t.1 t.2 s r
def Gx(w:Nat)(T:List Th):Option P3→Nat→Bool
 |none,_=>true
 |some r,k=>T.any fun t=>Qz t (bL w k) r
def RB'(o:Option P3):Prop:=match o with|none=>True|some r=>RB r∧0<r.2.2
theorem Zp(ns:List Int)(k:Nat):ő [.sh (.lst (ns.map .int)),.sh (.int k)]=.ret (.sh (.int (ns.getD k 0))):=by
 by_cases h:k<ns.length
 ·have h':(k:Int)<(ns.length:Int):=by omega
  simp[ő,uV,List.replicate,h',List.getElem?_eq_getElem h]
 ·have h':¬(k:Int)<(ns.length:Int):=by omega
  simp[ő,uV,List.replicate,h',List.getElem?_eq_none (Nat.le_of_not_lt h)]
@[simp] theorem Z0d(ns:List Int)(k:Nat):ő [.sh (.lst (ns.map .int)),.sh (.int (no_index (OfNat.ofNat k)))]=.ret (.sh (.int (ns.getD k 0))):=Zp ns k
def Gr(x:Int):Prop:=0≤x∧x<524288
theorem Zm(c:Int)(s1:P.Slot):∀(ks:List Nat) (acc:List Int) (n:Int) (s4:P.Slot),acc.length+ks.length≤100000→(∀k∈ks,k≤100000)→(∀x∈acc,Gr x)→∃(acc':List Int) (n':Int) (QH:P.Slot),forL (gN 4) lG (ks.map fun(i:Nat)=>PV.int (i:Int)) [.sh (.int c),s1,.ow (acc.map .int),.sh (.int n),s4]=.ok .nx [.sh (.int c),s1,.ow (acc'.map .int),.sh (.int n'),QH]∧acc'.length=acc.length+ks.length∧∀x∈acc',Gr x
 | [],acc,n,s4,_,_,h=>⟨acc,n,s4,rfl,rfl,h⟩
 |k::ks,acc,n,s4,hl,hk,h=>by
  have hk0:=hk k List.mem_cons_self
  have hl0:acc.length<16777216:=by simp at hl;omega
  rw[List.map_cons,forL]
  have hg:gN 4 (PV.int (k:Int)) [.sh (.int c),s1,.ow (acc.map .int),.sh (.int n),s4]=some [.sh (.int c),s1,.ow (acc.map .int),.sh (.int n),.sh (.int k)]:=rfl
  rw[hg]
  dsimp only
  by_cases h0:c % 2=0
  ·have e:lG [.sh (.int c),s1,.ow (acc.map .int),.sh (.int n),.sh (.int k)]=.ok .nx [.sh (.int c),s1,.ow ((acc ++ [n % 524287]).map .int),.sh (.int (n / 524287)),.sh (.int k)]:=by
    simp[lG,h0,hl0]
   rw[e]
   obtain⟨a,b,d,q1,q2,q3⟩:=Zm c s1 ks (acc ++ [n % 524287]) (n / 524287) (.sh (.int k)) (by simp at hl ⊢;omega) (fun x hx=>hk x (List.mem_cons_of_mem _ hx)) (by
    intro x hx
    rcases List.mem_append.mp hx with hx|hx
    ·exact h x hx
    ·rw[List.mem_singleton.mp hx];unfold Gr;omega)
   exact⟨a,b,d,q1,by simp at q2 ⊢;omega,q3⟩
  ·obtain⟨m,hm⟩:∃m,(n*49157+24593+2*(k:Int)) % 8388593=m:=⟨_,rfl⟩
   have e:lG [.sh (.int c),s1,.ow (acc.map .int),.sh (.int n),.sh (.int k)]=.ok .nx [.sh (.int c),s1,.ow ((acc ++ [m / 16]).map .int),.sh (.int m),.sh (.int k)]:=by
    simp[lG,h0,hl0,hm]
   rw[e]
   obtain⟨a,b,d,q1,q2,q3⟩:=Zm c s1 ks (acc ++ [m / 16]) m (.sh (.int k)) (by simp at hl ⊢;omega) (fun x hx=>hk x (List.mem_cons_of_mem _ hx)) (by
    intro x hx
    rcases List.mem_append.mp hx with hx|hx
    ·exact h x hx
    ·rw[List.mem_singleton.mp hx];unfold Gr;omega)
   exact⟨a,b,d,q1,by simp at q2 ⊢;omega,q3⟩
theorem ZY(c:Int){n:Nat}(hn:n≤1000):∃xs:List Int,iI [.sh (.int c),.sh (.int n)]=.ret (.ow (xs.map .int))∧xs.length=n∧∀x∈xs,Gr x:=by
 have rr:=Zy hn
 by_cases h:c % 2=1
 ·obtain⟨a,b,d,q1,q2,q3⟩:=Zm c (.sh (.int n)) (List.range n) [] (c / 2 % 8388593) .no (by simp;omega) (fun k hk=>by have:=List.mem_range.mp hk;omega) (by simp)
  refine⟨a,?_,by simpa using q2,q3⟩
  simp at q1
  simp[iI,uW,List.replicate,h,rr,q1]
 ·obtain⟨a,b,d,q1,q2,q3⟩:=Zm c (.sh (.int n)) (List.range n) [] (c / 2) .no (by simp;omega) (fun k hk=>by have:=List.mem_range.mp hk;omega) (by simp)
  refine⟨a,?_,by simpa using q2,q3⟩
  simp at q1
  simp[iI,uW,List.replicate,h,rr,q1]
def Pl(x:Int):Prop:=-1000000000+50≤x∧x≤1000000000-50
theorem Zk(n:Int){w:Int}(h1:1≤w)(h2:w≤1000):∃x:Int,cj [.sh (.int n),.sh (.int w)]=.ret (.sh (.int x))∧Pl x:=by
 by_cases h:n / 512 % 16=5
 ·exact⟨n*3813 % 1999999901-1000000000+50,by simp[cj,u_,List.replicate,h],by unfold Pl;omega⟩
 ·have m0:¬(2*w+9=0):=by omega
  have p:=Int.emod_nonneg n (show(2*w+9)≠0 by omega)
  have q:=Int.emod_lt_of_pos n (show 0<(2*w+9) by omega)
  have e:n.fmod (2*w+9)=n % (2*w+9):=Int.fmod_eq_emod_of_nonneg n (by omega)
  exact⟨n % (2*w+9)-4,by simp[cj,u_,List.replicate,h,m0,e],by unfold Pl;omega⟩
theorem ZQ(n:Int):∃x:Int,jP [.sh (.int n)]=.ret (.sh (.int x))∧1≤x∧x≤1000000000:=by
 by_cases h:n / 512 % 12=7
 ·exact⟨1+n*1907 % 1000000000,by simp[jP,uZ,List.replicate,h],by omega,by omega⟩
 ·exact⟨1+n % 9,by simp[jP,uZ,List.replicate,h],by omega,by omega⟩
theorem Z0Z{x y h:Int}(a:Pl x)(b:Pl y)(c:1≤h∧h≤1000000000):Z8 "post" [x / 2,y / 2,h]=true:=by
 unfold Pl at a b
 unfold Z8 Zg aM zL
 simp
 omega
theorem QJ{a b:String}(h:decide (Str.ofString a=Str.ofString b)=false):¬(Str.ofString a=Str.ofString b):=of_decide_eq_false h
theorem Z0G{x y u v h:Int}(a:Pl x)(b:Pl y)(hu: -4≤u∧u≤4)(hv: -4≤v∧v≤4)(c:1≤h∧h≤1000000000)(e:Int)(he:e=if u=0∧v=0 then 1 else 0):Z8 "fence" [x,y,x+u+e,y+v,h]=true:=by
 have h1:¬(Str.ofString "fence" =Str.ofString "post"):=QJ (by decide +kernel)
 unfold Pl at a b
 unfold Z8
 rw[if_neg h1,if_pos rfl]
 unfold Ze Zh aM zL
 simp
 split at he<;>omega
theorem Z0e{w:Str}(hw:w= "sail" ∨w= "house"){x y u v h:Int}(a:Pl x)(b:Pl y)(hu:0≤u∧u≤8)(hv:0≤v∧v≤8)(c:1≤h∧h≤1000000000):Z8 w [x,y,x+1+u,y+1+v,h]=true:=by
 have hb:Z9 [x,y,x+1+u,y+1+v,h]=true:=by
  unfold Pl at a b
  unfold Z9 Zh aM zL
  simp
  omega
 unfold Z8
 rcases hw with rfl|rfl
 ·rw[if_neg (QJ (by decide +kernel)),if_neg (QJ (by decide +kernel)),if_pos rfl]
  exact hb
 ·rw[if_neg (QJ (by decide +kernel)),if_neg (QJ (by decide +kernel)),if_neg (QJ (by decide +kernel)),if_neg (QJ (by decide +kernel)),if_pos rfl]
  exact hb
theorem Z0H{x y z a b c d e f:Int}(h1:Pl x)(h2:Pl y)(h3:0≤z∧z≤1000000000)(h4:Pl a)(h5:Pl b)(h6:1≤c∧c≤1000000000)(h7:Pl d)(h8:Pl e)(h9:1≤f∧f≤1000000000):Z8 "cloth" [x,y,z,a,b,c,d,e,f]=true:=by
 unfold Z8
 rw[if_neg (QJ (by decide +kernel)),if_neg (QJ (by decide +kernel)),if_neg (QJ (by decide +kernel)),if_pos rfl]
 unfold Pl at *
 unfold Zf aM zM
 simp
 omega
theorem Z2c:∀(xs:List Int),xs.length=14→∃a b c d e f g h i j k l m n,xs=[a,b,c,d,e,f,g,h,i,j,k,l,m,n]
 | [a,b,c,d,e,f,g,h,i,j,k,l,m,n],_=>⟨a,b,c,d,e,f,g,h,i,j,k,l,m,n,rfl⟩
theorem Z2d(x y:Hu.Pt):aq (pt x) (pt y)=some (.bl (decide (x=y))):=by
 unfold aq ux
 rw[ZK,ZK,ZD,ZD,Z08]
 rfl
theorem Z0f:Ÿ [.int 2]=some [.int 0,.int 1]:=by rfl
theorem Z10(c:Int){w:Int}(hw1:1≤w)(hw2:w≤1000):∃t:Th,dR [.sh (.int c),.sh (.int w)]=.ret (.sh (.tup [.str t.1,.lst (t.2.map .int)]))∧Z8 t.1 t.2=true:=by
 obtain⟨xs,eg,hl,hx⟩:=ZY c (n:=14) (by omega)
 obtain⟨x0,x1,x2,x3,x4,x5,x6,x7,x8,x9,x10,x11,x12,x13,rfl⟩:=Z2c xs hl
 clear hl hx
 obtain⟨p0,e0,q0⟩:=Zk x0 hw1 hw2
 obtain⟨p1,e1,q1⟩:=Zk x1 hw1 hw2
 obtain⟨z,ez,qz⟩:=ZQ x2
 have eg':iI [.sh (.int c),.sh (.int 14)]=.ret (.ow [.int x0,.int x1,.int x2,.int x3,.int x4,.int x5,.int x6,.int x7,.int x8,.int x9,.int x10,.int x11,.int x12,.int x13]):=eg
 clear eg
 have hc:Ō (gN 2) œ (Ď (Đ cj (đ (Ĉ ĝ (ā 1) (ā 2)) (ą 0 č)))) [PV.int 0,PV.int 1] [.sh (.int w),.bw [.int x0,.int x1,.int x2,.int x3,.int x4,.int x5,.int x6,.int x7,.int x8,.int x9,.int x10,.int x11,.int x12,.int x13],.no] []=some [.int p0,.int p1]:=by
  simp[Ō,e0,e1]
 have k:0≤x3 % 5∧x3 % 5<5:=by omega
 obtain⟨kd,hkd⟩:∃kd,x3 % 5=kd:=⟨_,rfl⟩
 rw[hkd] at k
 by_cases k0:kd=0
 ·refine⟨("post",[p0 / 2,p1 / 2,z]),?_,Z0Z q0 q1 qz⟩
  simp[dR,jo,List.replicate,eg',Z0f,hc,ez,hkd,k0]
 ·by_cases k1:kd=1
  ·refine⟨("fence",[p0,p1,p0+(x4 % 9-4)+(if x4 % 9-4=0∧x5 % 9-4=0 then 1 else 0),p1+(x5 % 9-4),z]),?_,Z0G q0 q1 (by omega) (by omega) qz _ rfl⟩
   have hq:=Z2d (p0,p1) (p0+x4 % 9-4,p1+x5 % 9-4)
   unfold pt at hq
   dsimp only at hq
   have hi:(if x4 % 9-4=0∧x5 % 9-4=0 then(1:Int) else 0)=if decide ((p0,p1)=(p0+x4 % 9-4,p1+x5 % 9-4))=true then 1 else 0:=by
    simp only[decide_eq_true_eq,Prod.mk.injEq]
    split<;>split<;>omega
   generalize decide ((p0,p1)=(p0+x4 % 9-4,p1+x5 % 9-4))=bb at *
   have a1:p0+(x4 % 9-4)=p0+x4 % 9-4:=by omega
   have a2:p1+(x5 % 9-4)=p1+x5 % 9-4:=by omega
   rw[a1,a2,hi]
   cases bb<;>simp[dR,jo,List.replicate,eg',Z0f,hc,ez,hkd,k1,hq]
  ·by_cases k2:kd=2
   ·obtain⟨p7,e7,q7⟩:=Zk x7 hw1 hw2
    obtain⟨p8,e8,q8⟩:=Zk x8 hw1 hw2
    obtain⟨p9,e9,q9⟩:=Zk x9 hw1 hw2
    obtain⟨p10,e10,q10⟩:=Zk x10 hw1 hw2
    obtain⟨z2,ez2,qz2⟩:=ZQ x11
    refine⟨("cloth",[p0,p1,x6 % 10,p7,p8,z,p9,p10,z2]),?_,Z0H q0 q1 (by omega) q7 q8 qz q9 q10 qz2⟩
    simp[dR,jo,List.replicate,eg',Z0f,hc,ez,hkd,k2,e7,e8,e9,e10,ez2,add_l]
   ·by_cases k3:kd=3
    ·refine⟨("sail",[p0,p1,p0+1+x4 % 8,p1+1+x5 % 8,z]),?_,Z0e (.inl rfl) q0 q1 (by omega) (by omega) qz⟩
     simp[dR,jo,List.replicate,eg',Z0f,hc,ez,hkd,k3]
    ·have k4:kd=4:=by omega
     refine⟨("house",[p0,p1,p0+1+x4 % 8,p1+1+x5 % 8,z]),?_,Z0e (.inr rfl) q0 q1 (by omega) (by omega) qz⟩
     simp[dR,jo,List.replicate,eg',Z0f,hc,ez,hkd,k4]
theorem Z1G{α:Type}(xs:List α)(a b:Nat)(h1:a≤b)(h2:b≤xs.length):cL xs (some (a:Int)) (some (b:Int))=(xs.drop a).take (b-a):=by
 unfold cL
 rw[HT.nG,HT.nG,Nat.min_eq_left h2,Nat.min_eq_left (Nat.le_trans h1 h2)]
theorem Z2l:∀(xs:List Int),xs.length=5→∃a b c d e,xs=[a,b,c,d,e]
 | [a,b,c,d,e],_=>⟨a,b,c,d,e,rfl⟩
theorem Z1Z{xs:List Int}(h:xs.length=5):∃o:Option P3,jN [.sh (.lst (xs.map .int))]=.ret (.sh (jY o))∧RB' o:=by
 obtain⟨a,b,c,d,e,rfl⟩:=Z2l xs h
 by_cases he:e % 6=4
 ·exact⟨none,by simp[jN,uX,List.replicate,he,jY],trivial⟩
 ·have a1:0≤a % 13∧a % 13<13:=by omega
  have b1:0≤b % 13∧b % 13<13:=by omega
  have c1:0≤c % 5∧c % 5<5:=by omega
  have go:∀s:Int,(s=1∨s=3∨s=100000)→ĝ (.lst [.int 1,.int 1,.int 3,.int 100000]) (.int (d % 4))=some (.int s)→∃o:Option P3,jN [.sh (.lst ([a,b,c,d,e].map .int))]=.ret (.sh (jY o))∧RB' o:=by
   intro s hs hx
   have m1:∀x:Int,ŭ x s=true:=fun x=>mul_r (by omega) (by omega)
   refine⟨some ((a % 13-6)*s,(b % 13-6)*s,(1+c % 5)*s),?_,?_⟩
   ·simp[jN,uX,List.replicate,he,jY,hx,m1,c3]
   ·rcases hs with rfl|rfl|rfl<;>refine⟨⟨?_,?_,?_,?_,?_,?_⟩,?_⟩<;>dsimp only<;>omega
  have hd:d % 4=0∨d % 4=1∨d % 4=2∨d % 4=3:=by omega
  rcases hd with hd|hd|hd|hd
  ·exact go 1 (by omega) (by rw[hd];rfl)
  ·exact go 1 (by omega) (by rw[hd];rfl)
  ·exact go 3 (by omega) (by rw[hd];rfl)
  ·exact go 100000 (by omega) (by rw[hd];rfl)
theorem Z1i(t:Int)(h:0≤t)(h2:t<12)(N:List Str)(hN:N.length=12):∃L:List Str,ı (.lst (cL (N.map PV.str) (some t) none)) (.lst (cL (N.map PV.str) none (some t)))=some (.ow (L.map .str))∧L.length=12:=by
 obtain⟨k,rfl⟩:=Int.eq_ofNat_of_zero_le h
 have e1:cL (N.map PV.str) (some (k:Int)) none=(N.drop k).map PV.str:=by
  unfold cL
  rw[HT.nG,List.length_map,Nat.min_eq_left (by omega)]
  show List.take (N.length-k) _=_
  rw[←List.map_drop]
  exact List.take_of_length_le (by simp)
 have e2:cL (N.map PV.str) none (some (k:Int))=(N.take k).map PV.str:=by
  unfold cL
  rw[HT.nG,List.length_map,Nat.min_eq_left (by omega)]
  show List.take (k-0) (List.drop 0 _)=_
  simp[List.map_take]
 rw[e1,e2,add_l (by simp;omega)]
 exact⟨N.drop k++N.take k,by simp,by simp;omega⟩
def Zs(lg:Nat)(d:Dy):Prop:=(1≤d.2.1∧d.2.1≤1000000000)∧d.2.2.length≤lg∧∀o∈d.2.2,RB' o
theorem sl5{xs:List Int}{n lg j:Nat}(hl:xs.length=5*lg+2)(hj:j<lg):∃ys:List Int,cL (xs.map PV.int) (some (2+5*(j:Int))) (some (7+5*(j:Int)))=ys.map .int∧ys.length=5:=by
 refine⟨(xs.drop (2+5*j)).take 5,?_,by simp;omega⟩
 have:=Z1G (xs.map PV.int) (2+5*j) (7+5*j) (by omega) (by simp;omega)
 have e1:((2+5*j:Nat):Int)=2+5*(j:Int):=by omega
 have e2:((7+5*j:Nat):Int)=7+5*(j:Int):=by omega
 rw[e1,e2] at this
 rw[this,List.map_take,List.map_drop]
 congr 1
 omega
theorem Z0g{xs:List Int}{lg:Nat}(hl:xs.length=5*lg+2)(Cv:lg≤100):∀(js:List Nat),(∀j∈js,j<lg)→∀(acc:List PV) (s1:P.Slot),acc.length+js.length≤1000→∃os:List (Option P3),Ō (gN 1) œ (Ď (Đ jN (đ (Ď (Fv (ā 0) (mP (Ď (Ĵ ı (mC (.int 2)) (Ĉ Ľ (mC (.int 5)) (ā 1))))) (mP (Ď (Ĵ ı (mC (.int 7)) (Ĉ Ľ (mC (.int 5)) (ā 1))))))) č))) (js.map fun(i:Nat)=>PV.int (i:Int)) [.bw (xs.map .int),s1] acc=some (acc++os.map jY)∧os.length=js.length∧∀o∈os,RB' o
 | [],_,acc,s1,_=>⟨[],by simp[Ō],rfl,by simp⟩
 |j::js,hj,acc,s1,ha=>by
  obtain⟨ys,e1,e2⟩:=sl5 (n:=0) hl (hj j List.mem_cons_self)
  obtain⟨o,e3,e4⟩:=Z1Z e2
  obtain⟨os,q1,q2,q3⟩:=Z0g hl Cv js (fun x hx=>hj x (List.mem_cons_of_mem _ hx)) (acc ++ [jY o]) (.sh (.int j)) (by simp at ha ⊢;omega)
  refine⟨o::os,?_,by simp[q2],?_⟩
  ·have hz:acc.length<16777216:=by simp at ha;omega
   generalize xs.map PV.int=X at *
   generalize ys.map PV.int=Y at *
   rw[List.map_cons,Ō]
   simp[Uy,e1,e3,hz]
   simpa using q1
  ·intro x hx
   rcases List.mem_cons.mp hx with rfl|hx
   ·exact e4
   ·exact q3 x hx
theorem Z1j(ns:List Int){k lg:Nat}(hk:k<12)(Cv:lg≤100)(hl0:0<lg){L:List Str}(hL:L.length=12)(s2 s5 s8 s9:P.Slot)(D:List Dy)(hD:D.length≤12) :
 ∃(d:Dy) (s8' s9':P.Slot),uY [.sh (.lst (ns.map .int)),.sh (.int 6),s2,.sh (.int lg),.ow (L.map .str),s5,.ow (D.map cF),.sh (.int k),s8,s9]=.ok .nx [.sh (.lst (ns.map .int)),.sh (.int 6),s2,.sh (.int lg),.ow (L.map .str),s5,.ow ((D ++ [d]).map cF),.sh (.int k),s8',s9']∧Zs lg d:=by
 have ha:=Zp ns (6+k)
 have e6:((6+k:Nat):Int)=6+(k:Int):=by omega
 rw[e6] at ha
 obtain⟨v,hv⟩:∃v,ns.getD (6+k) 0=v:=⟨_,rfl⟩
 rw[hv] at ha
 obtain⟨xs,eg,hl,hx⟩:=ZY (v / 12+5*k) (n:=5*lg+2) (by omega)
 have el:((5*lg+2:Nat):Int)=5*(lg:Int)+2:=by omega
 rw[el] at eg
 have x0:∃a,(xs.map PV.int)[0]?=some (.int a):=⟨xs[0],by simp⟩
 have x1:∃b,(xs.map PV.int)[1]?=some (.int b):=⟨xs[1],by simp⟩
 obtain⟨a,x0⟩:=x0
 obtain⟨b,x1⟩:=x1
 have hm:¬((lg:Int)=0):=by omega
 have hm2:¬lg=0:=by omega
 have hf:b.fmod (lg:Int)=b % lg:=Int.fmod_eq_emod_of_nonneg b (by omega)
 have b1:=Int.emod_nonneg b hm
 have b2:=Int.emod_lt_of_pos b (show 0<(lg:Int) by omega)
 obtain⟨m,hmm⟩:∃m:Nat,1+b % lg=(m:Int):=⟨(1+b % lg).toNat,by omega⟩
 have rr:=Zy (n:=m) (by omega)
 obtain⟨os,q1,q2,q3⟩:=Z0g hl Cv (List.range m) (fun j hj=>by have:=List.mem_range.mp hj;omega) [] .no (by simp;omega)
 have hLk:(L.map PV.str)[k]?=some (.str L[k]):=by simp[hL,hk]
 refine⟨(L[k],1+a*1907 % 1000000000,os),.ow (xs.map .int),.sh (.lst (os.map jY)),?_,⟨by dsimp only;omega,by simp at q2;dsimp only;omega,q3⟩⟩
 have hz:D.length<16777216:=by omega
 rw[List.nil_append] at q1
 have hdl:(D.map cF).length=D.length:=by simp
 generalize ns.map PV.int=NS at *
 generalize xs.map PV.int=XS at *
 generalize L[k]=nm at *
 generalize hLL:L.map PV.str=LS at *
 have hmp:(D ++ [((nm,1+a*1907 % 1000000000,os):Dy)]).map cF=D.map cF ++ [.tup [.str nm,.int (1+a*1907 % 1000000000),.lst (os.map jY)]]:=by simp[cF]
 rw[hmp]
 generalize D.map cF=DS at *
 generalize hos:os.map jY=OS at *
 rw[←hdl] at hz
 simp[uY,ha,eg,x0,x1,hm2,hf,hmm,rr,q1,hLk,hz,-Z0d]
theorem ZZ(ns:List Int){n lg:Nat}(Cv:lg≤100)(hl0:0<lg){L:List Str}(hL:L.length=12){v:Int}:∀(ks:List Nat),(∀k∈ks,k<12)→∀(D:List Dy) (s7 s8 s9:P.Slot),D.length+ks.length≤12→(∀d∈D,Zs lg d)→∃ρ',forL (gN 7) uY (ks.map fun(i:Nat)=>PV.int (i:Int)) [.sh (.lst (ns.map .int)),.sh (.int 6),.sh (.int n),.sh (.int lg),.ow (L.map .str),.sh (.int v),.ow (D.map cF),s7,s8,s9]=.ok .nx ρ'∧∃(D':List Dy) (s7 s8 s9:P.Slot),ρ'=[.sh (.lst (ns.map .int)),.sh (.int 6),.sh (.int n),.sh (.int lg),.ow (L.map .str),.sh (.int v),.ow (D'.map cF),s7,s8,s9]∧D'.length=D.length+ks.length∧∀d∈D',Zs lg d
 | [],_,D,s7,s8,s9,_,h=>⟨_,rfl,D,s7,s8,s9,rfl,rfl,h⟩
 |k::ks,hk,D,s7,s8,s9,hl,h=>by
  obtain⟨d,s8',s9',e,hd⟩:=Z1j ns (hk k List.mem_cons_self) Cv hl0 hL (.sh (.int n)) (.sh (.int v)) s8 s9 D (by simp at hl;omega)
  obtain⟨ρ',q1,D',a,b,c,q2,q3,q4⟩:=ZZ ns (n:=n) Cv hl0 hL (v:=v) ks (fun x hx=>hk x (List.mem_cons_of_mem _ hx)) (D ++ [d]) (.sh (.int k)) s8' s9' (by simp at hl ⊢;omega) (by
   intro x hx
   rcases List.mem_append.mp hx with hx|hx
   ·exact h x hx
   ·rw[List.mem_singleton.mp hx];exact hd)
  refine⟨ρ',?_,D',a,b,c,q2,by simp at q3 ⊢;omega,q4⟩
  rw[List.map_cons,forL]
  have hg:gN 7 (PV.int (k:Int)) [.sh (.lst (ns.map .int)),.sh (.int 6),.sh (.int n),.sh (.int lg),.ow (L.map .str),.sh (.int v),.ow (D.map cF),s7,s8,s9]=some [.sh (.lst (ns.map .int)),.sh (.int 6),.sh (.int n),.sh (.int lg),.ow (L.map .str),.sh (.int v),.ow (D.map cF),.sh (.int k),s8,s9]:=rfl
  rw[hg]
  dsimp only
  rw[e]
  exact q1
theorem Z1H(ns:List Int){n lg:Nat}(hn:n≤12)(Cv:lg≤100)(hl0:0<lg):∃D:List Dy,lZ [.sh (.lst (ns.map .int)),.sh (.int 6),.sh (.int n),.sh (.int lg)]=.ret (.ow (D.map cF))∧D.length=n∧∀d∈D,Zs lg d:=by
 have h6:ő [.sh (.lst (ns.map .int)),.sh (.int 6)]=.ret (.sh (.int (ns.getD 6 0))):=Zp ns 6
 obtain⟨v,hv⟩:∃v,ns.getD 6 0=v:=⟨_,rfl⟩
 rw[hv] at h6
 obtain⟨L,e1,hL⟩:=Z1i (v % 12) (by omega) (by omega) [Str.ofString "ab",Str.ofString "a",Str.ofString "abc",Str.ofString "b",Str.ofString "ba",Str.ofString "z",Str.ofString "zz",Str.ofString "zzz",Str.ofString "abcdefgh",Str.ofString "abcdefgi",Str.ofString "aa",Str.ofString "bb"] rfl
 obtain⟨ρ',q1,D,s7,s8,s9,rfl,q2,q3⟩:=ZZ ns (n:=n) Cv hl0 hL (v:=v % 12) (List.range n) (fun k hk=>by have:=List.mem_range.mp hk;omega) [] .no .no .no (by simp;omega) (by simp)
 have rr:=Zy (n:=n) (by omega)
 refine⟨D,?_,by simpa using q2,q3⟩
 generalize ns.map PV.int=NS at *
 simp only[List.map_cons,List.map_nil] at e1
 simp only[List.map_nil] at q1
 generalize D.map cF=DS at *
 generalize L.map PV.str=LS at *
 simp[lZ,Ax,List.replicate,Uy,h6,e1,rr,q1,-Z0d]
theorem Z1k(c:Int):∃w h:Nat,dO [.sh (.int c),.sh (.int 9)]=.ret (.sh (.tup [.int w,.int h]))∧1≤w∧w≤20∧1≤h∧h≤20∧w*h≤20:=by
 by_cases h0:c / 7 % 16=11
 ·have hd:c % 2=0∨c % 2=1:=by omega
  rcases hd with hd|hd
  ·exact⟨1,20,by simp[dO,fB,List.replicate,h0,hd],by omega,by omega,by omega,by omega,by omega⟩
  ·exact⟨20,1,by simp[dO,fB,List.replicate,h0,hd],by omega,by omega,by omega,by omega,by omega⟩
 ·have hd:c % 5=0∨c % 5=1∨c % 5=2∨c % 5=3∨c % 5=4:=by omega
  rcases hd with hd|hd|hd|hd|hd
  ·obtain⟨h,hh⟩:∃h:Nat,1+c / 5 % 4=(h:Int):=⟨(1+c / 5 % 4).toNat,by omega⟩
   exact⟨1,h,by simp[dO,fB,List.replicate,h0,hd,hh],by omega,by omega,by omega,by omega,by omega⟩
  ·obtain⟨h,hh⟩:∃h:Nat,1+c / 5 % 4=(h:Int):=⟨(1+c / 5 % 4).toNat,by omega⟩
   exact⟨2,h,by simp[dO,fB,List.replicate,h0,hd,hh],by omega,by omega,by omega,by omega,by omega⟩
  ·obtain⟨h,hh⟩:∃h:Nat,1+c / 5 % 3=(h:Int):=⟨(1+c / 5 % 3).toNat,by omega⟩
   exact⟨3,h,by simp[dO,fB,List.replicate,h0,hd,hh],by omega,by omega,by omega,by omega,by omega⟩
  ·obtain⟨h,hh⟩:∃h:Nat,1+c / 5 % 2=(h:Int):=⟨(1+c / 5 % 2).toNat,by omega⟩
   exact⟨4,h,by simp[dO,fB,List.replicate,h0,hd,hh],by omega,by omega,by omega,by omega,by omega⟩
  ·exact⟨5,1,by simp[dO,fB,List.replicate,h0,hd],by omega,by omega,by omega,by omega,by omega⟩
def Z0h:Option Hu.Ln→PV
 |some l=>fY l
 |none=>.non
theorem Z0I{S:List Hu.Pt}{sl:P.Slot}(hs:Sl sl (S.map pt))(hS:∀p∈S,Sm p)(h0:S≠[])(hl:S.length≤1000)(p:Hu.Pt):pQ [sl,.sh (pt p)]=.ret (.sh (Z0h (Hu.ZN S p))):=by
 have h1:=Z1c hs hS h0 hl
 have e:(Hu.Zr S).findSome? (fun l=>if Hu.hd l p=true then none else some l)=Hu.ZN S p:=by
  unfold Hu.ZN
  generalize Hu.Zr S=L
  induction L with
  |nil=>rfl
  |cons l L ih=>
   rw[List.findSome?_cons,List.find?_cons]
   cases q:Hu.hd l p with
   |true=>simpa using ih
   |false=>simp
 rcases bG (g:=gN 2) (mb:=vC) fY (fun l=>if Hu.hd l p=true then none else some l) (fun l=>.sh (fY l)) (fun ρ=>∃s2,ρ=[sl,.sh (pt p),s2]) (Hu.Zr S) (by
  rintro l hm ρ ⟨s2,rfl⟩
  refine⟨[sl,.sh (pt p),.sh (fY l)],by simp,?_⟩
  have hh:=Z0a (Z1T hm hS) p
  cases q:Hu.hd l p with
  |true=>
   rw[q] at hh
   exact .inr ⟨[sl,.sh (pt p),.sh (fY l)],by simp,by simp[vC,hh],_,rfl⟩
  |false=>
   rw[q] at hh
   exact .inl ⟨l,[sl,.sh (pt p),.sh (fY l)],by simp,by simp[vC,hh]⟩) [sl,.sh (pt p),.no] ⟨_,rfl⟩ with⟨l,ρ',q1,q2⟩|⟨ρ',q1,q2,_⟩
 ·rw[e] at q1
  rw[q1]
  simp[pQ,vD,List.replicate,hs.lend,h1,q2,Z0h]
 ·rw[e] at q1
  rw[q1]
  simp[pQ,vD,List.replicate,hs.lend,h1,q2,Z0h]
def qw(q:Nat×Nat):PV:=.tup [.int q.1,.int q.2]
def zN(q:Nat×Nat×Nat):PV:=.tup [.int q.1,.int q.2.1,.int q.2.2]
theorem Z11(j:Nat)(hj:j≤1000)(acc:List PV)(s0:P.Slot)(ha:acc.length+j≤16777216):pR [s0,.ow acc,.sh (.int j)]=.ok .nx [s0,.ow (acc++((List.range j).map fun i=>(i,j)).map qw),.sh (.int j)]:=by
 have c1:Ō (gN 1) œ (Ŗ (ă (ğ 1) (ă (ğ 0) Ě))) ((List.range j).map fun(i:Nat)=>PV.int (i:Int)) [.sh (.int j),.no] []=some (((List.range j).map fun i=>(i,j)).map qw):=by
  have:=Š (g:=gN 1) (mt:=œ) (me:=Ŗ (ă (ğ 1) (ă (ğ 0) Ě))) (fun(i:Nat)=>PV.int (i:Int)) (fun i=>qw (i,j)) (fun ρ=>∃s,ρ=[.sh (.int j),s]) (List.range j) [.sh (.int j),.no] [] ⟨_,rfl⟩ (by simp;omega) (by
   rintro x hx ρ ⟨s,rfl⟩
   exact⟨[.sh (.int j),.sh (.int x)],[.sh (.int j),.sh (.int x)],[.sh (.int j),.sh (.int x)],by simp,by simp,by simp[qw],_,rfl⟩)
  rw[this,List.map_map]
  rfl
 have hl:acc.length+(((List.range j).map fun i=>(i,j)).map qw).length≤16777216:=by simpa using ha
 generalize ((List.range j).map fun i=>(i,j)).map qw=qs at c1 hl
 simp[pR,Zy hj,c1,hl]
theorem ZR(k:Nat):Hu.Z6 (k+1)=Hu.Z6 k++(List.range k).map fun i=>(i,k):=by
 unfold Hu.Z6
 rw[List.range_succ,List.flatMap_append]
 simp
theorem Zt:∀n,(Hu.Z6 n).length≤n*n
 |0=>by simp[Hu.Z6]
 |n+1=>by
  have:=Zt n
  rw[ZR,List.length_append,List.length_map,List.length_range,Nat.succ_mul,Nat.mul_succ]
  omega
theorem ZG(k:Nat):Hu.Za (k+1)=Hu.Za k++(Hu.Z6 k).map fun q=>(q.1,q.2,k):=by
 unfold Hu.Za
 rw[List.range_succ,List.flatMap_append]
 simp
theorem Zz{g:Tg}{mb:M Fl}(nb:∀ρ ρ',mb ρ≠ .ok .bk ρ'):∀(xs ys:List PV) (ρ ρ1:Ŏ),forL g mb xs ρ=.ok .nx ρ1→forL g mb (xs++ys) ρ=forL g mb ys ρ1
 | [],ys,ρ,ρ1,h=>by
   have e:Res.ok Fl.nx ρ=.ok .nx ρ1:=h
   cases e
   rfl
 |x::xs,ys,ρ,ρ1,h=>by
  rw[List.cons_append,forL]
  rw[forL] at h
  cases e:g x ρ with
  |none=>rw[e] at h;cases h
  |some ρ2=>
   rw[e] at h
   dsimp only at h ⊢
   cases e2:mb ρ2 with
   |bad=>rw[e2] at h;cases h
   |exc x ρ3=>rw[e2] at h;cases h
   |ok f ρ3=>
    rw[e2] at h
    cases f with
    |nx=>exact Zz nb xs ys ρ3 ρ1 h
    |ct=>exact Zz nb xs ys ρ3 ρ1 h
    |bk=>exact absurd e2 (nb ρ2 ρ3)
    |rt r=>cases h
theorem Z0i{g:Tg}{mb:M Fl}{p:PV}{ρ ρ1 ρ2:Ŏ}(h1:g p ρ=some ρ1)(h2:mb ρ1=.ok .nx ρ2):forL g mb [p] ρ=.ok .nx ρ2:=by
 rw[forL,h1]
 dsimp only
 rw[h2]
 rfl
theorem Z12{i:Nat}{mo:M RV}{ρ ρ':Ŏ}:Ar i mo ρ≠ .ok .bk ρ':=by
 unfold Ar
 intro h
 split at h
 ·cases e:mo ρ with
  |bad=>rw[e] at h;cases h
  |exc x ρ1=>rw[e] at h;cases h
  |ok r ρ1=>
   rw[e] at h
   simp only[Res.aQ] at h
   split at h
   ·split at h<;>cases h
   ·cases h
 ·cases h
theorem Z0j(n:Nat)(hn:n≤100):mF [.sh (.int n)]=.ret (.ow ((Hu.Z6 n).map qw)):=by
 have key:∀k,k≤n→∃s2,forL (gN 2) pR ((List.range k).map fun(i:Nat)=>PV.int (i:Int)) [.sh (.int n),.ow [],.no]=.ok .nx [.sh (.int n),.ow ((Hu.Z6 k).map qw),s2]:=by
  intro k
  induction k with
  |zero=>intro _;exact⟨.no,rfl⟩
  |succ k ih=>
   intro hk
   obtain⟨s2,e⟩:=ih (by omega)
   refine⟨.sh (.int k),?_⟩
   rw[List.range_succ,List.map_append,Zz (mb:=pR) (fun _ _=>Z12) _ _ _ _ e,ZR,List.map_append]
   have hlen:=Zt k
   have hm:k*k≤100*100:=Nat.mul_le_mul (by omega) (by omega)
   exact Z0i rfl (Z11 k (by omega) ((Hu.Z6 k).map qw) (.sh (.int n)) (by rw[List.length_map];omega))
 obtain⟨s2,e⟩:=key n (Nat.le_refl n)
 have hr:=Zy (show n≤1000 by omega)
 simp[mF,Bl,List.replicate,hr,e]
theorem Z0s(k:Nat)(hk:k≤100)(acc:List PV)(s0:P.Slot)(ha:acc.length≤10000000):zx [s0,.ow acc,.sh (.int k)]=.ok .nx [s0,.ow (acc++((Hu.Z6 k).map fun q=>(q.1,q.2,k)).map zN),.sh (.int k)]:=by
 have hlen:=Zt k
 have hm:k*k≤100*100:=Nat.mul_le_mul (by omega) (by omega)
 have c1:Ō (gN 1) œ (Ŗ (ă (Ĉ ĝ (ā 1) (mC (.int 0))) (ă (Ĉ ĝ (ā 1) (mC (.int 1))) (ă (ğ 0) Ě)))) ((Hu.Z6 k).map qw) [.sh (.int k),.no] []=some (((Hu.Z6 k).map fun q=>(q.1,q.2,k)).map zN):=by
  have:=Š (g:=gN 1) (mt:=œ) (me:=Ŗ (ă (Ĉ ĝ (ā 1) (mC (.int 0))) (ă (Ĉ ĝ (ā 1) (mC (.int 1))) (ă (ğ 0) Ě)))) qw (fun q=>zN (q.1,q.2,k)) (fun ρ=>∃s,ρ=[.sh (.int k),s]) (Hu.Z6 k) [.sh (.int k),.no] [] ⟨_,rfl⟩ (by simp;omega) (by
   rintro x hx ρ ⟨s,rfl⟩
   exact⟨[.sh (.int k),.sh (qw x)],[.sh (.int k),.sh (qw x)],[.sh (.int k),.sh (qw x)],by simp,by simp,by simp[qw,zN],_,rfl⟩)
  rw[this,List.map_map]
  rfl
 have hl:acc.length+(((Hu.Z6 k).map fun q=>(q.1,q.2,k)).map zN).length≤16777216:=by simp;omega
 have hp:=Z0j k hk
 generalize ((Hu.Z6 k).map fun q=>(q.1,q.2,k)).map zN=qs at c1 hl
 simp[zx,hp,c1,hl]
theorem ZM:∀n,n≤100→(Hu.Za n).length≤n*10000
 |0,_=>by simp[Hu.Za]
 |n+1,h=>by
  have:=ZM n (by omega)
  have h2:=Zt n
  have hm:n*n≤100*100:=Nat.mul_le_mul (by omega) (by omega)
  rw[ZG,List.length_append,List.length_map]
  omega
theorem Z0J(n:Nat)(hn:n≤100):Gi [.sh (.int n)]=.ret (.ow ((Hu.Za n).map zN)):=by
 have key:∀k,k≤n→∃s2,forL (gN 2) zx ((List.range k).map fun(i:Nat)=>PV.int (i:Int)) [.sh (.int n),.ow [],.no]=.ok .nx [.sh (.int n),.ow ((Hu.Za k).map zN),s2]:=by
  intro k
  induction k with
  |zero=>intro _;exact⟨.no,rfl⟩
  |succ k ih=>
   intro hk
   obtain⟨s2,e⟩:=ih (by omega)
   refine⟨.sh (.int k),?_⟩
   rw[List.range_succ,List.map_append,Zz (mb:=zx) (fun _ _=>Z12) _ _ _ _ e,ZG,List.map_append]
   have hlen:=ZM k (by omega)
   exact Z0i rfl (Z0s k (by omega) ((Hu.Za k).map zN) (.sh (.int n)) (by rw[List.length_map];omega))
 obtain⟨s2,e⟩:=key n (Nat.le_refl n)
 have hr:=Zy (show n≤1000 by omega)
 simp[Gi,JM,List.replicate,hr,e]
def W(x:Int):Prop:=-100000000000000000000000000000000000000000000000000<x∧x<100000000000000000000000000000000000000000000000000
theorem W.bits{x:Int}(h:W x):bits x≤200:=uR (n:=200) (by have:=h.1;omega) (by have:=h.2;omega)
theorem dif{a b:Int}(h1: -100000000000000000≤a)(h2:a≤100000000000000000)(h3: -100000000000000000≤b)(h4:b≤100000000000000000): -200000000000000000≤a-b∧a-b≤200000000000000000:=by omega
theorem ZU{a b c d:Int}(h1: -c≤a)(h2:a≤c)(h3: -d≤b)(h4:b≤d)(hc:0≤c)(hd:0≤d): -(c*d)≤a*b∧a*b≤c*d:=by
 have e1:(a*b).natAbs=a.natAbs*b.natAbs:=Int.natAbs_mul a b
 have e2:a.natAbs*b.natAbs≤c.natAbs*d.natAbs:=Nat.mul_le_mul (by omega) (by omega)
 have e3:(c*d).natAbs=c.natAbs*d.natAbs:=Int.natAbs_mul c d
 have e4:0≤c*d:=Int.mul_nonneg hc hd
 omega
theorem ZH{a b c:Hu.Pt}(ha:Sm a)(hb:Sm b)(hc:Sm c):iQ [.sh (pt a),.sh (pt b),.sh (pt c)]=.ret (.sh (.int (Hu.tn a b c))):=by
 obtain⟨a1,a2,a3,a4⟩:=ha
 obtain⟨b1,b2,b3,b4⟩:=hb
 obtain⟨c1,c2,c3,c4⟩:=hc
 have m1:ŭ (b.1-a.1) (c.2-a.2)=true:=dJ (by omega) (by omega)
 have m2:ŭ (b.2-a.2) (c.1-a.1)=true:=dJ (by omega) (by omega)
 simp[iQ,Bm,List.replicate,pt,Hu.tn,m1,m2]
theorem Z1l{a b c:Hu.Pt}(ha:Sm a)(hb:Sm b)(hc:Sm c): -80000000000000000000000000000000000≤Hu.tn a b c∧Hu.tn a b c≤80000000000000000000000000000000000:=by
 obtain⟨a1,a2,a3,a4⟩:=ha
 obtain⟨b1,b2,b3,b4⟩:=hb
 obtain⟨c1,c2,c3,c4⟩:=hc
 obtain⟨x1,x2⟩:=dif b1 b2 a1 a2
 obtain⟨y1,y2⟩:=dif c3 c4 a3 a4
 obtain⟨z1,z2⟩:=dif b3 b4 a3 a4
 obtain⟨w1,w2⟩:=dif c1 c2 a1 a2
 obtain⟨p1,p2⟩:=ZU x1 x2 y1 y2 (by decide) (by decide)
 obtain⟨q1,q2⟩:=ZU z1 z2 w1 w2 (by decide) (by decide)
 unfold Hu.tn
 omega
theorem Z1m{a b c p:Hu.Pt}(ha:Sm a)(hb:Sm b)(hc:Sm c)(hp:Sm p):Gk [.sh (.lst [pt a,pt b,pt c]),.sh (pt p)]=.ret (.ow ((Hu.uT a b c p).map .int)):=by
 simp[Gk,JQ,List.replicate,ZH hp hb hc,ZH ha hp hc,ZH ha hb hp,Hu.uT]
theorem Z20{a b p:Hu.Pt}(ha:Sm a)(hb:Sm b)(hp:Sm p):sY [.sh (.lst [pt a,pt b]),.sh (pt p)]=.ret (.ow ((Hu.uU a b p).map .int)):=by
 obtain⟨a1,a2,a3,a4⟩:=ha
 obtain⟨b1,b2,b3,b4⟩:=hb
 obtain⟨c1,c2,c3,c4⟩:=hp
 have m1:∀x,ŭ (b.1-a.1) x=true:=fun x=>dJ (by omega) (by omega)
 have m2:∀x,ŭ (b.2-a.2) x=true:=fun x=>dJ (by omega) (by omega)
 simp[sY,Bo,List.replicate,pt,Hu.uU,m1,m2]
theorem Z2e{a b c p:Hu.Pt}(ha:Sm a)(hb:Sm b)(hc:Sm c)(hp:Sm p):∀s∈Hu.uT a b c p,-400000000000000000000000000000000000≤s∧s≤400000000000000000000000000000000000:=by
 have h1:=Z1l hp hb hc
 have h2:=Z1l ha hp hc
 have h3:=Z1l ha hb hp
 intro s hs
 simp only[Hu.uT,List.mem_cons,List.not_mem_nil,or_false] at hs
 rcases hs with e|e|e<;>omega
theorem Z2f{a b p:Hu.Pt}(ha:Sm a)(hb:Sm b)(hp:Sm p):∀s∈Hu.uU a b p,-400000000000000000000000000000000000≤s∧s≤400000000000000000000000000000000000:=by
 obtain⟨a1,a2,a3,a4⟩:=ha
 obtain⟨b1,b2,b3,b4⟩:=hb
 obtain⟨c1,c2,c3,c4⟩:=hp
 obtain⟨x1,x2⟩:=dif b1 b2 a1 a2
 obtain⟨z1,z2⟩:=dif b3 b4 a3 a4
 obtain⟨y1,y2⟩:=dif c1 c2 a1 a2
 obtain⟨w1,w2⟩:=dif c3 c4 a3 a4
 obtain⟨p1,p2⟩:=ZU x1 x2 y1 y2 (by decide) (by decide)
 obtain⟨q1,q2⟩:=ZU z1 z2 w1 w2 (by decide) (by decide)
 obtain⟨r1,r2⟩:=ZU x1 x2 x1 x2 (by decide) (by decide)
 obtain⟨t1,t2⟩:=ZU z1 z2 z1 z2 (by decide) (by decide)
 intro s hs
 simp only[Hu.uU,List.mem_cons,List.not_mem_nil,or_false] at hs
 rcases hs with e|e<;>omega
def ShB(w:List Int):Prop:=w.length≤3∧∀s∈w,-400000000000000000000000000000000000≤s∧s≤400000000000000000000000000000000000
theorem ShB.sum{w:List Int}(h:ShB w): -2000000000000000000000000000000000000≤w.sum∧w.sum≤2000000000000000000000000000000000000:=by
 obtain⟨h1,h2⟩:=h
 match w,h1,h2 with
 | [],_,_=>simp
 | [a],_,h2=>have:=h2 a (by simp);simp;omega
 | [a,b],_,h2=>have:=h2 a (by simp);have:=h2 b (by simp);simp;omega
 | [a,b,c],_,h2=>have:=h2 a (by simp);have:=h2 b (by simp);have:=h2 c (by simp);simp;omega
theorem ZP{x:Int}(h1: -2000000000000000000000000000000000000≤x)(h2:x≤2000000000000000000000000000000000000):bits x≤200:=uR (n:=200) (by omega) (by omega)
theorem Z1t{w:List Int}(h:ShB w){sl:P.Slot}(hs:Sl sl (w.map .int)):jT [sl]=.ret (.sh (.bl (Hu.Zn w))):=by
 obtain⟨s1,s2⟩:=h.sum
 have hb:=ZP s1 s2
 have c1:Ō (gN 1) œ (Ĉ Ia (Ĉ Ľ (ā 1) (ā 0)) (mC (.int 0))) (w.map .int) [.sh (.int w.sum),.no] []=some ((w.map fun s=>decide (0≤s*w.sum)).map .bl):=by
  have:=Š (g:=gN 1) (mt:=œ) (me:=Ĉ Ia (Ĉ Ľ (ā 1) (ā 0)) (mC (.int 0))) PV.int (fun s=>.bl (decide (0≤s*w.sum))) (fun ρ=>∃s,ρ=[.sh (.int w.sum),s]) w [.sh (.int w.sum),.no] [] ⟨_,rfl⟩ (by have:=h.1;simp;omega) (by
   rintro x hx ρ ⟨s,rfl⟩
   have hx':=h.2 x hx
   have hm:ŭ x w.sum=true:=Zdr (Nat.le_trans (ZP (by omega) (by omega)) (by decide)) (Nat.le_trans hb (by decide))
   exact⟨[.sh (.int w.sum),.sh (.int x)],[.sh (.int w.sum),.sh (.int x)],[.sh (.int w.sum),.sh (.int x)],by simp,by simp,by simp[hm],_,rfl⟩)
  rw[this,List.map_map]
  rfl
 have c2:=Z0T (w.map fun s=>decide (0≤s*w.sum))
 have c3:(w.map fun s=>decide (0≤s*w.sum)).all id=w.all fun s=>decide (0≤s*w.sum):=by simp
 rw[c3] at c2
 unfold Hu.Zn
 have hsum:Ao [.lst (w.map .int)]=some (.int w.sum):=by simp
 unfold Sl at hs
 generalize (w.map fun s=>decide (0≤s*w.sum)).map PV.bl=bs at c1 c2
 generalize (w.all fun s=>decide (0≤s*w.sum))=q at c2
 generalize w.map PV.int=ws at c1 hsum hs
 generalize w.sum=S at c1 hsum
 by_cases h0:S=0
 ·subst h0
  rcases hs with rfl|rfl<;>simp[jT,vI,List.replicate,-g_,hsum]
 ·rcases hs with rfl|rfl<;>simp[jT,vI,List.replicate,-g_,hsum,c1,c2,h0]
theorem Z1u(x y:Int):Gj [.sh (.int x),.sh (.int y)]=.ret (.sh (.int (My.gd x y))):=by
 obtain⟨⟨u,v,r⟩,e1,e2,e3⟩:=Ai (mc:=(j_ (Ĉ jj (ā 1) (mC (.int 0))))) (mb:=(ģ (Ļ 2 (Ŕ (Ĉ ń (ā 0) (ā 1)))) (ģ (Ļ 0 (Ŕ (ğ 1))) (Ļ 1 (Ŕ (ğ 2))))))
  (fun b:Int×Int×P.Slot=>[.sh (.int b.1),.sh (.int b.2.1),b.2.2]) (fun b=>My.gd b.1 b.2.1=My.gd x y) (fun b=>b.2.1.natAbs) (b:=(x,y,.no)) (by
    rintro ⟨u,v,r⟩ e
    by_cases hv:v=0
    ·left;simp[hv]
    ·right;exact⟨by simp[hv],(v,u.fmod v,.sh (.int (u.fmod v))),by simp[hv],(My.Z1w u v).trans e,My.Z1x u hv⟩) rfl
 have hv:v=0:=by simpa using e3
 subst hv
 have e1':Vc [.sh (.int x),.sh (.int y),.no]=_:=e1
 simp[Gj,JN,List.replicate,e1',←e2,My.Z1y]
theorem Z1I(t:Int){b:Int}{n:Nat}(h:b≠0)(hb:bits b≤n):bits (My.gd t b)≤n:=by
 refine intBits_le_of_natAbs ?_ hb
 have h1:=My.Z2a t h
 have h2:=My.Z0O t b
 omega
def rt(t b:Int):Int×Int:=(t.fdiv (My.dv t b),b.fdiv (My.dv t b))
theorem Z0k{t b:Int}(h:b≠0)(hz:bits b≤8000):gM [.sh (.int t),.sh (.int b)]=.ret (.sh (pt (rt t b))):=by
 have g1:=Z1I t h hz
 have g0:=My.Z1N t h
 by_cases hn:b<0
 ·have e:My.dv t b= - My.gd t b:=if_pos hn
  have c:∀i,jG i (- My.gd t b)=true:=fun i=>Iu (by omega) (intBits_neg_le g1)
  simp[gM,vG,List.replicate,h,Z1u,hn,c,e,pt,rt]
 ·have e:My.dv t b=My.gd t b:=if_neg hn
  have c:∀i,jG i (My.gd t b)=true:=fun i=>Iu (by omega) g1
  simp[gM,vG,List.replicate,h,Z1u,hn,c,e,pt,rt]
theorem ZI{w:List Int}{q:List Nat}{n:Nat}(hw:ShB w)(h0:w.sum≠0)(hl:w.length=q.length)(hq:∀i∈q,i<n)(hn:n≤100){s0 s1:P.Slot}(hs0:Sl s0 (w.map .int))(hs1:s1=.sh (.lst (q.map fun(i:Nat)=>.int (i:Int)))∨s1=.sh (.tup (q.map fun(i:Nat)=>.int (i:Int)))) :
 dU [s0,s1,.sh (.int n)]=.ret (.ow ((Fr.lay (List.replicate n 0) (w.zip q)).map fun s=>pt (rt s w.sum))):=by
 obtain⟨b1,b2⟩:=hw.sum
 have hb:=Nat.le_trans (ZP b1 b2) (show 200≤8000 by decide)
 have hsum:Ao [.lst (w.map .int)]=some (.int w.sum):=by simp
 have c1:Ō (gN 1) œ (Ď (Đ gM (đ (mC (.int 0)) (ą 0 č)))) ((List.range n).map fun(i:Nat)=>PV.int (i:Int)) [.sh (.int w.sum),.no] []=some ((List.replicate n (0:Int)).map fun s=>pt (rt s w.sum)):=by
  have:=Š (g:=gN 1) (mt:=œ) (me:=Ď (Đ gM (đ (mC (.int 0)) (ą 0 č)))) (fun(i:Nat)=>PV.int (i:Int)) (fun _=>pt (rt 0 w.sum)) (fun ρ=>∃s,ρ=[.sh (.int w.sum),s]) (List.range n) [.sh (.int w.sum),.no] [] ⟨_,rfl⟩ (by simp;omega) (by
   rintro x hx ρ ⟨s,rfl⟩
   exact⟨[.sh (.int w.sum),.sh (.int x)],[.sh (.int w.sum),.sh (.int x)],[.sh (.int w.sum),.sh (.int x)],by simp,by simp,by simp[Z0k h0 hb],_,rfl⟩)
  rw[this]
  simp[List.map_const']
 have hz:jM (w.map .int) (q.map fun(i:Nat)=>PV.int (i:Int))=(w.zip q).map fun a=>.tup [.int a.1,.int (a.2:Int)]:=by
  clear hw h0 hl hq hs0 hs1 hsum c1 hb b1 b2
  induction w generalizing q with
  |nil=>simp[jM]
  |cons x w ih=>
   cases q with
   |nil=>simp[jM]
   |cons i q=>simp[jM,ih]
 have loop:∀s0' s1',∃ρ',forL (gT 2 (Ŀ (gN 5) (Ŀ (gN 6) bC))) vH ((w.zip q).map fun a=>.tup [.int a.1,.int (a.2:Int)]) [s0',s1',.sh (.int n),.sh (.int w.sum),.ow ((List.replicate n (0:Int)).map fun s=>pt (rt s w.sum)),.no,.no]=.ok .nx ρ'∧ρ'[4]?=some (.ow ((Fr.lay (List.replicate n 0) (w.zip q)).map fun s=>pt (rt s w.sum))):=by
  intro s0' s1'
  obtain⟨ρ',e,s5,s6,hρ,_⟩:=lF (g:=gT 2 (Ŀ (gN 5) (Ŀ (gN 6) bC))) (mb:=vH) (fun a:Int×Nat=>.tup [.int a.1,.int (a.2:Int)]) (fun acc a=>acc.set a.2 a.1)
   (fun acc ρ=>∃s5 s6,ρ=[s0',s1',.sh (.int n),.sh (.int w.sum),.ow (acc.map fun s=>pt (rt s w.sum)),s5,s6]∧acc.length=n) (w.zip q) (by
     rintro ⟨x,i⟩ hx acc ρ ⟨s5,s6,rfl,hlen⟩
     have hi:i<n:=hq i (List.of_mem_zip hx).2
     have hix:CK acc.length (i:Int)=some i:=by
      unfold CK
      rw[if_pos (by omega),if_pos (by omega)]
      simp
     refine⟨[s0',s1',.sh (.int n),.sh (.int w.sum),.ow (acc.map fun s=>pt (rt s w.sum)),.sh (.int x),.sh (.int i)],[s0',s1',.sh (.int n),.sh (.int w.sum),.ow ((acc.set i x).map fun s=>pt (rt s w.sum)),.sh (.int x),.sh (.int i)],by simp,?_,_,_,rfl,by simpa using hlen⟩
     simp[vH,Z0k h0 hb,hix,List.map_set]) (List.replicate n 0) [s0',s1',.sh (.int n),.sh (.int w.sum),.ow ((List.replicate n (0:Int)).map fun s=>pt (rt s w.sum)),.no,.no] ⟨_,_,rfl,by simp⟩
  refine⟨ρ',e,?_⟩
  subst hρ
  rfl
 have hr:=Zy (show n≤1000 by omega)
 generalize (List.replicate n (0:Int)).map (fun s=>pt (rt s w.sum))=zs at c1 loop
 generalize (Fr.lay (List.replicate n 0) (w.zip q)).map (fun s=>pt (rt s w.sum))=rs at loop
 generalize ((w.zip q).map fun a=>PV.tup [.int a.1,.int (a.2:Int)])=ls at hz loop
 generalize w.map PV.int=ws at hs0 hsum hz
 generalize w.sum=S at hsum c1 loop
 generalize (q.map fun(i:Nat)=>PV.int (i:Int))=qs at hz hs1
 rcases hs0 with rfl|rfl<;>rcases hs1 with rfl|rfl
 ·obtain⟨ρ',e,e4⟩:=loop (.sh (.lst ws)) (.sh (.lst qs))
  simp[dU,lK,List.replicate,-g_,hsum,hr,c1,hz,FZ,e,e4]
 ·obtain⟨ρ',e,e4⟩:=loop (.sh (.lst ws)) (.sh (.tup qs))
  simp[dU,lK,List.replicate,-g_,hsum,hr,c1,hz,FZ,e,e4]
 ·obtain⟨ρ',e,e4⟩:=loop (.bw ws) (.sh (.lst qs))
  simp[dU,lK,List.replicate,-g_,hsum,hr,c1,hz,FZ,e,e4]
 ·obtain⟨ρ',e,e4⟩:=loop (.bw ws) (.sh (.tup qs))
  simp[dU,lK,List.replicate,-g_,hsum,hr,c1,hz,FZ,e,e4]
def Wo(S:List Hu.Pt)(r:List Int×List Nat):List PV:=(Fr.lay (List.replicate S.length 0) (r.1.zip r.2)).map fun s=>pt (rt s r.1.sum)
theorem gA{S:List Hu.Pt}{i:Nat}(h:i<S.length):(S.map pt)[i]?=some (pt (Hu.at_ S i)):=by
 unfold Hu.at_
 rw[List.getElem?_map,List.getD_eq_getElem?_getD,List.getElem?_eq_getElem h]
 rfl
theorem Z2g{S:List Hu.Pt}{sl:P.Slot}(hs:Sl sl (S.map pt)){i j k:Nat}(hi:i<S.length)(hj:j<S.length)(hk:k<S.length)(s3:P.Slot):Ō (gN 1) œ (Ĉ ĝ (ā 0) (ā 1)) [.int (i:Int),.int (j:Int),.int (k:Int)] [sl,s3] []=some [pt (Hu.at_ S i),pt (Hu.at_ S j),pt (Hu.at_ S k)]:=by
 rcases hs with rfl|rfl<;>simp[Ō,gA hi,gA hj,gA hk,-List.getElem?_map]
theorem Z2h{S:List Hu.Pt}{sl:P.Slot}(hs:Sl sl (S.map pt)){i j:Nat}(hi:i<S.length)(hj:j<S.length)(s3:P.Slot):Ō (gN 1) œ (Ĉ ĝ (ā 0) (ā 1)) [.int (i:Int),.int (j:Int)] [sl,s3] []=some [pt (Hu.at_ S i),pt (Hu.at_ S j)]:=by
 rcases hs with rfl|rfl<;>simp[Ō,gA hi,gA hj,-List.getElem?_map]
theorem Sl.cap{s:P.Slot}{ps:List PV}(h:Sl s ps):wN s=s:=by rcases h with rfl|rfl<;>rfl
theorem Z21{a b c p:Hu.Pt}(ha:Sm a)(hb:Sm b)(hc:Sm c)(hp:Sm p):ShB (Hu.uT a b c p):=⟨by simp[Hu.uT],Z2e ha hb hc hp⟩
theorem Z22{a b p:Hu.Pt}(ha:Sm a)(hb:Sm b)(hp:Sm p):ShB (Hu.uU a b p):=⟨by simp[Hu.uU],Z2f ha hb hp⟩
theorem Z0K{S:List Hu.Pt}{sl:P.Slot}(hs:Sl sl (S.map pt))(hS:∀p∈S,Sm p)(h0:S≠[])(hl:S.length≤100){p:Hu.Pt}(hp:Sm p):mG [sl,.sh (pt p)]=.ret (.ow (Wo S (Hu.Z0C S p))):=by
 have hat:∀i,i<S.length→Sm (Hu.at_ S i):=fun i h=>hS _ (Hu.Z1O h)
 have ht:=Z0J S.length hl
 have hpr:=Z0j S.length hl
 have hlen:cO [.lst (S.map pt)]=some (.int S.length):=by simp
 have F3:=bG (g:=gN 3) (mb:=vK) zN (fun q=>if Hu.Zn (Hu.uT (Hu.at_ S q.1) (Hu.at_ S q.2.1) (Hu.at_ S q.2.2) p)=true then some (Hu.uT (Hu.at_ S q.1) (Hu.at_ S q.2.1) (Hu.at_ S q.2.2) p,[q.1,q.2.1,q.2.2]) else none) (fun r=>.ow (Wo S r)) (fun ρ=>∃s3 s4,ρ=[sl,.sh (pt p),.sh (.int S.length),s3,s4]) (Hu.Za S.length) (by
  rintro ⟨i,j,k⟩ hm ρ ⟨s3,s4,rfl⟩
  obtain⟨h1,h2,h3⟩:=Hu.Z0r.mp hm
  have hi:i<S.length:=by omega
  have hj:j<S.length:=by omega
  have hb:=Z21 (hat i hi) (hat j hj) (hat k h3) hp
  have e1:=Z1m (hat i hi) (hat j hj) (hat k h3) hp
  have e2:=Z1t hb (sl:=.bw ((Hu.uT (Hu.at_ S i) (Hu.at_ S j) (Hu.at_ S k) p).map .int)) (.inr rfl)
  have e0:=Z2g hs hi hj h3 .no
  refine⟨[sl,.sh (pt p),.sh (.int S.length),.sh (zN (i,j,k)),s4],rfl,?_⟩
  cases q:Hu.Zn (Hu.uT (Hu.at_ S i) (Hu.at_ S j) (Hu.at_ S k) p) with
  |true=>
   left
   have hg:=Hu.Z07.mp q
   have e3:=ZI (q:=[i,j,k]) (n:=S.length) hb hg.1 rfl (by simp;omega) hl (s0:=.bw ((Hu.uT (Hu.at_ S i) (Hu.at_ S j) (Hu.at_ S k) p).map .int)) (s1:=.sh (.tup [.int i,.int j,.int k])) (.inr rfl) (.inr rfl)
   rw[q] at e2
   refine⟨_,[sl,.sh (pt p),.sh (.int S.length),.sh (zN (i,j,k)),.ow ((Hu.uT (Hu.at_ S i) (Hu.at_ S j) (Hu.at_ S k) p).map .int)],rfl,?_⟩
   generalize Hu.uT (Hu.at_ S i) (Hu.at_ S j) (Hu.at_ S k) p=w at *
   generalize hws:w.map PV.int=ws at *
   simp[vK,zN,hs.cap,e0,e1,e2,e3,Wo]
  |false=>
   right
   rw[q] at e2
   refine⟨[sl,.sh (pt p),.sh (.int S.length),.sh (zN (i,j,k)),.ow ((Hu.uT (Hu.at_ S i) (Hu.at_ S j) (Hu.at_ S k) p).map .int)],rfl,?_,_,_,rfl⟩
   generalize Hu.uT (Hu.at_ S i) (Hu.at_ S j) (Hu.at_ S k) p=w at *
   generalize hws:w.map PV.int=ws at *
   simp[vK,zN,hs.cap,e0,e1,e2])
 have F2:=bG (g:=gN 3) (mb:=vJ) qw (fun q=>if Hu.Zn (Hu.uU (Hu.at_ S q.1) (Hu.at_ S q.2) p)=true then some (Hu.uU (Hu.at_ S q.1) (Hu.at_ S q.2) p,[q.1,q.2]) else none) (fun r=>.ow (Wo S r)) (fun ρ=>∃s3 s4,ρ=[sl,.sh (pt p),.sh (.int S.length),s3,s4]) (Hu.Z6 S.length) (by
  rintro ⟨i,j⟩ hm ρ ⟨s3,s4,rfl⟩
  obtain⟨h1,h2⟩:=Hu.ZC.mp hm
  have hi:i<S.length:=by omega
  have hb:=Z22 (hat i hi) (hat j h2) hp
  have e1:=Z20 (hat i hi) (hat j h2) hp
  have e2:=Z1t hb (sl:=.bw ((Hu.uU (Hu.at_ S i) (Hu.at_ S j) p).map .int)) (.inr rfl)
  have e0:=Z2h hs hi h2 .no
  refine⟨[sl,.sh (pt p),.sh (.int S.length),.sh (qw (i,j)),s4],rfl,?_⟩
  cases q:Hu.Zn (Hu.uU (Hu.at_ S i) (Hu.at_ S j) p) with
  |true=>
   left
   have hg:=Hu.Z07.mp q
   have e3:=ZI (q:=[i,j]) (n:=S.length) hb hg.1 rfl (by simp;omega) hl (s0:=.bw ((Hu.uU (Hu.at_ S i) (Hu.at_ S j) p).map .int)) (s1:=.sh (.tup [.int i,.int j])) (.inr rfl) (.inr rfl)
   rw[q] at e2
   refine⟨_,[sl,.sh (pt p),.sh (.int S.length),.sh (qw (i,j)),.ow ((Hu.uU (Hu.at_ S i) (Hu.at_ S j) p).map .int)],rfl,?_⟩
   generalize Hu.uU (Hu.at_ S i) (Hu.at_ S j) p=w at *
   generalize hws:w.map PV.int=ws at *
   simp[vJ,qw,hs.cap,e0,e1,e2,e3,Wo]
  |false=>
   right
   rw[q] at e2
   refine⟨[sl,.sh (pt p),.sh (.int S.length),.sh (qw (i,j)),.ow ((Hu.uU (Hu.at_ S i) (Hu.at_ S j) p).map .int)],rfl,?_,_,_,rfl⟩
   generalize Hu.uU (Hu.at_ S i) (Hu.at_ S j) p=w at *
   generalize hws:w.map PV.int=ws at *
   simp[vJ,qw,hs.cap,e0,e1,e2])
 have e3:(Hu.Za S.length).findSome? (fun q=>if Hu.Zn (Hu.uT (Hu.at_ S q.1) (Hu.at_ S q.2.1) (Hu.at_ S q.2.2) p)=true then some (Hu.uT (Hu.at_ S q.1) (Hu.at_ S q.2.1) (Hu.at_ S q.2.2) p,[q.1,q.2.1,q.2.2]) else none)=Hu.Z1P S p:=rfl
 have e2:(Hu.Z6 S.length).findSome? (fun q=>if Hu.Zn (Hu.uU (Hu.at_ S q.1) (Hu.at_ S q.2) p)=true then some (Hu.uU (Hu.at_ S q.1) (Hu.at_ S q.2) p,[q.1,q.2]) else none)=Hu.Z1Q S p:=rfl
 rw[e3] at F3
 rw[e2] at F2
 have e1:=ZI (w:=[1]) (q:=[0]) (n:=S.length) ⟨by simp,by simp⟩ (by simp) rfl (by simpa using List.length_pos_iff.mpr h0) hl (s0:=.sh (.lst [.int 1])) (s1:=.sh (.lst [.int 0])) (.inl rfl) (.inl rfl)
 have hw1:(Fr.lay (List.replicate S.length 0) ([1].zip [0])).map (fun s=>pt (rt s [1].sum))=Wo S ([1],[0]):=rfl
 rw[hw1] at e1
 generalize hn:(S.length:Int)=N at *
 generalize (Hu.Za S.length).map zN=ts at *
 generalize (Hu.Z6 S.length).map qw=prs at *
 unfold Hu.Z0C
 rcases F3 [sl,.sh (pt p),.sh (.int N),.no,.no] ⟨_,_,rfl⟩ with⟨r,ρ',q1,q2⟩|⟨ρ',q1,q2,s3,s4,hρ⟩
 ·rw[q1]
  rcases hs with rfl|rfl<;>simp[mG,pU,List.replicate,-uE,hlen,ht,q2]
 ·subst hρ
  rw[q1]
  rcases F2 [sl,.sh (pt p),.sh (.int N),s3,s4] ⟨_,_,rfl⟩ with⟨r,ρ',q3,q4⟩|⟨ρ',q3,q4,s3',QH,hρ⟩
  ·rw[q3]
   rcases hs with rfl|rfl<;>simp[mG,pU,List.replicate,-uE,hlen,ht,hpr,q2,q4]
  ·subst hρ
   rw[q3]
   rcases hs with rfl|rfl<;>simp[mG,pU,List.replicate,-uE,hlen,ht,hpr,q2,q4,e1]
def ZS(S:List Hu.Pt)(p:Hu.Pt):PV:=match Hu.ZN S p with
 |some l=>.tup [.str "out",fY l]
 |none=>.tup [.str "in",.lst (Wo S (Hu.Z0C S p))]
theorem Z1J{S:List Hu.Pt}{sl:P.Slot}(hs:Sl sl (S.map pt))(hS:∀p∈S,Sm p)(h0:S≠[])(hl:S.length≤100){p:Hu.Pt}(hp:Sm p):pW [sl,.sh (pt p)]=.ret (.sh (ZS S p)):=by
 have h1:=Z0I hs hS h0 (by omega) p
 have h2:=Z0K hs hS h0 hl hp
 unfold ZS
 cases e:Hu.ZN S p with
 |some l=>
  rw[e] at h1
  simp[pW,vL,List.replicate,hs.lend,h1,Z0h,fY,Ig]
 |none=>
  rw[e] at h1
  simp[pW,vL,List.replicate,hs.lend,h1,Z0h,h2,Ig]
theorem Z1n{r:P3}(hr:RB r)(s:Hu.Pt):tu [.sh (pt s),.sh (c3 r)]=.ret (.sh (pt (cst r (En s)))):=by
 have e:=Z0z hr (En s)
 have e':PV.tup [.int (2*s.1),.int (2*s.2),.int 0]=c3 (En s):=rfl
 generalize hR:c3 r=R at *
 unfold pt
 simp[tu,BJ,List.replicate,e',e]
 rfl
theorem Z0L{w:Str}{xs:List Int}(hg:Z8 w xs=true){r:P3}(hr:RB r){s:Hu.Pt}(hs:PB (En s)):tD [.sh (Z4 (Zd w) w xs),.sh (pt s),.sh (c3 r)]=.ret (.sh (ZS ((Zi w xs).map (cst r)) (cst r (En s)))):=by
 obtain⟨g1,g2,g3⟩:=Z1h hg
 have h1:=Z1g hg (by omega) hr
 have h2:=Z1n hr s
 have h3:=Z1J (S:=(Zi w xs).map (cst r)) (sl:=.sh (.lst (((Zi w xs).map (cst r)).map pt))) (.inl rfl) (by
  intro p hp
  obtain⟨q,hq,rfl⟩:=List.mem_map.mp hp
  exact Z0W hr (g3 q hq)) (by simpa using g2) (by simp;omega) (p:=cst r (En s)) (Z0W hr hs)
 generalize ZS ((Zi w xs).map (cst r)) (cst r (En s))=V at *
 generalize ((Zi w xs).map (cst r)).map pt=Y at *
 generalize pt (cst r (En s))=Z at *
 generalize Z4 (Zd w) w xs=v at *
 generalize c3 r=R at *
 generalize pt s=Q at *
 simp[tD,BK,List.replicate,h1,h2,h3]
theorem sIn:PyData.strOk (Str.ofString "in")=true:=by decide +kernel
theorem Z2m:PyData.strOk (Str.ofString "out")=true:=by decide +kernel
theorem dIO:(Str.ofString "out" =Str.ofString "in")=False:=eq_false (by decide +kernel)
theorem Z13{w:Str}{xs:List Int}(hg:Z8 w xs=true){r:P3}(hr:RB r){s:Hu.Pt}(hs:PB (En s)):mR [.sh (Z4 (Zd w) w xs),.sh (pt s),.sh (c3 r)]=.ret (.sh (.bl (shB w xs s r))):=by
 have h1:=Z0L hg hr hs
 unfold ZS at h1
 unfold shB
 generalize Z4 (Zd w) w xs=v at *
 generalize c3 r=R at *
 generalize pt s=Q at *
 cases e:Hu.ZN ((Zi w xs).map (cst r)) (cst r (En s)) with
 |none=>
  rw[e] at h1
  dsimp only at h1
  generalize Wo ((Zi w xs).map (cst r)) (Hu.Z0C ((Zi w xs).map (cst r)) (cst r (En s)))=Y at *
  simp[mR,vM,List.replicate,h1,cM sIn sIn]
 |some l=>
  rw[e] at h1
  dsimp only at h1
  generalize fY l=Y at *
  simp[mR,vM,List.replicate,h1,cM Z2m sIn,dIO]
structure YOk(w h:Nat)(T:List Th):Prop where
 w0:0<w
 w1:w≤60
 h1:h≤1000
 wh:w*h≤1000
 tl:T.length≤1000
 tg:∀t∈T,Z8 t.1 t.2=true
theorem Z23{w k n:Nat}(hk:k<1000):PB (En (bL w k)):=by
 have h1:k % w≤k:=Nat.mod_le k w
 have h2:k / w≤k:=Nat.div_le_self k w
 unfold PB En bL
 dsimp only
 generalize k % w=a at *
 generalize k / w=b at *
 omega
theorem Z00{w h:Nat}{T:List Th}(Y:YOk w h T)(D:List Dy){o:Option P3}(ho:RB' o){k:Nat}(hk:k<1000):dW [.sh (Z0 w h T D),.sh (jY o),.sh (pt (bL w k))]=.ret (.sh (.bl (Gx w T o k))):=by
 cases o with
 |none=>
  generalize Z0 w h T D=Yv at *
  simp[dW,pX,List.replicate,jY,Ig,Gx]
 |some r=>
  have ho:RB r∧0<r.2.2:=ho
  have yt:=y_t w h T D
  have e:T.findSome? (fun t=>if Qz t (bL w k) r=true then some () else none)=if(T.any fun t=>Qz t (bL w k) r)=true then some () else none:=by
   generalize T=T'
   induction T' with
   |nil=>rfl
   |cons t T' ih=>
    rw[List.findSome?_cons,List.any_cons]
    cases q:Qz t (bL w k) r with
    |true=>simp
    |false=>rw[Bool.false_or,←ih];simp
  have hn:Ig (c3 r)=false:=by simp[c3,Ig]
  rcases bG (g:=gN 3) (mb:=vN) zK (fun t=>if Qz t (bL w k) r=true then some () else none) (fun _=>.sh (.bl true)) (fun ρ=>∃s,ρ=[.sh (Z0 w h T D),.sh (c3 r),.sh (pt (bL w k)),s]) T (by
   rintro t ht ρ ⟨s,rfl⟩
   have es:mR [.sh (zK t),.sh (pt (bL w k)),.sh (c3 r)]=.ret (.sh (.bl (Qz t (bL w k) r))):=Z13 (Y.tg t ht) ho.1 (Z23 (n:=0) hk)
   refine⟨[.sh (Z0 w h T D),.sh (c3 r),.sh (pt (bL w k)),.sh (zK t)],rfl,?_⟩
   generalize Z0 w h T D=Yv at *
   generalize c3 r=R at *
   generalize zK t=Tv at *
   generalize hP:pt (bL w k)=Pv at *
   cases q:Qz t (bL w k) r with
   |true=>
    rw[q] at es
    exact .inl ⟨(),[.sh Yv,.sh R,.sh Pv,.sh Tv],by simp,by simp[vN,es]⟩
   |false=>
    rw[q] at es
    exact .inr ⟨[.sh Yv,.sh R,.sh Pv,.sh Tv],by simp,by simp[vN,es],_,rfl⟩) [.sh (Z0 w h T D),.sh (c3 r),.sh (pt (bL w k)),.no] ⟨_,rfl⟩ with⟨_,ρ',q1,q2⟩|⟨ρ',q1,q2,_⟩
  ·rw[e] at q1
   have hd:Gx w T (some r) k=true:=by
    show(T.any fun t=>Qz t (bL w k) r)=true
    cases q:T.any (fun t=>Qz t (bL w k) r) with
    |true=>rfl
    |false=>rw[q] at q1;simp at q1
   rw[hd]
   show dW [_,.sh (c3 r),_]=_
   generalize Z0 w h T D=Yv at *
   generalize c3 r=R at *
   generalize pt (bL w k)=Pv at *
   simp[dW,pX,List.replicate,hn,yt,q2]
  ·rw[e] at q1
   have hd:Gx w T (some r) k=false:=by
    show(T.any fun t=>Qz t (bL w k) r)=false
    cases q:T.any (fun t=>Qz t (bL w k) r) with
    |false=>rfl
    |true=>rw[q] at q1;simp at q1
   rw[hd]
   show dW [_,.sh (c3 r),_]=_
   generalize Z0 w h T D=Yv at *
   generalize c3 r=R at *
   generalize pt (bL w k)=Pv at *
   simp[dW,pX,List.replicate,hn,yt,q2]
theorem ZT{w h:Nat}{T:List Th}{D:List Dy}{i:Nat}(hi:i<D.length):mD [.sh (Z0 w h T D),.sh (.int i)]=.ret (.sh (.lst (D[i].2.2.map jY))):=by
 have yd:=y_d w h T D
 have hx:(D.map cF)[i]?=some (cF D[i]):=by simp[hi]
 generalize Z0 w h T D=Yv at *
 generalize D.map cF=DV at *
 simp[mD,Bc,List.replicate,yd,hx]
 simp[cF]
theorem ZJ{w h:Nat}{T:List Th}(D:List Dy)(hw:0<w){k:Nat}(hk:k<w*h):iK [.sh (Z0 w h T D),.sh (pt (bL w k))]=.ret (.sh .non):=by
 have yw:=y_w w h T D
 have yh:=y_h w h T D
 have h1:=Nat.mod_lt k hw
 have h2:=(Z2b (k:=k) (h:=h) hw).mpr hk
 have a1:(0:Int)≤((k % w:Nat):Int):=Int.natCast_nonneg _
 have a2:((k % w:Nat):Int)<(w:Int):=Int.ofNat_lt.mpr h1
 have a3:(0:Int)≤((k / w:Nat):Int):=Int.natCast_nonneg _
 have a4:((k / w:Nat):Int)<(h:Int):=Int.ofNat_lt.mpr h2
 unfold pt bL
 dsimp only
 generalize Z0 w h T D=Yv at *
 generalize ((k % w:Nat):Int)=x at *
 generalize ((k / w:Nat):Int)=y at *
 have hs:gK [.sh Yv,.sh (.tup [.int x,.int y])]=.ret (.sh (.bl true)):=by
  simp[gK,jq,List.replicate,yw,yh,a1,a2,a3,a4]
 simp[iK,vq,List.replicate,hs]
theorem Z1K{w h:Nat}{T:List Th}{D:List Dy}{i:Nat}(hi:i<D.length):mz [.sh (Z0 w h T D),.sh (.int i)]=.ret (.sh .non):=by
 have yd:=y_d w h T D
 have hl:(D.map cF).length=D.length:=by simp
 have a1:(i:Int)<((D.map cF).length:Int):=by omega
 generalize Z0 w h T D=Yv at *
 generalize D.map cF=DV at *
 have hs:jR [.sh Yv,.sh (.int i)]=.ret (.sh (.bl true)):=by
  simp[jR,pP,List.replicate,yd]
  omega
 simp[mz,vA,List.replicate,hs]
theorem Z01(f:Nat→PV):∀(n a:Nat),gH a ((List.range' a n).map f)=(List.range' a n).map fun(k:Nat)=>PV.tup [.int k,f k]
 |0,a=>rfl
 |n+1,a=>by
  rw[List.range'_succ,List.map_cons,List.map_cons]
  show _::gH (a+1) _=_
  rw[Z01 f n (a+1)]
theorem Z2i(f:Nat→PV)(n:Nat):gH 0 ((List.range n).map f)=(List.range n).map fun(k:Nat)=>PV.tup [.int k,f k]:=by
 rw[List.range_eq_range']
 exact Z01 f n 0
theorem Z0M(os:List (Option P3)):(List.range os.length).map (fun j=>os.getD j none)=os:=by
 refine List.ext_getElem (by simp) fun i h1 h2=>?_
 simp at h1
 simp[h1]
theorem Z0A(os:List (Option P3)):gH 0 (os.map jY)=(List.range os.length).map fun(k:Nat)=>PV.tup [.int k,jY (os.getD k none)]:=by
 have h:=Z2i (fun j=>jY (os.getD j none)) os.length
 have e:(List.range os.length).map (fun j=>jY (os.getD j none))=os.map jY:=by
  have:=congrArg (List.map jY) (Z0M os)
  rw[List.map_map] at this
  exact this
 rw[e] at h
 exact h
theorem Z0l{os:List (Option P3)}{j:Nat}(h:j<os.length):os.getD j none∈os:=by
 rw[List.getD_eq_getElem?_getD,List.getElem?_eq_getElem h]
 exact List.getElem_mem h
def Z0m(w:Nat)(T:List Th)(os:List (Option P3))(k:Nat):List Nat:=(List.range os.length).filter fun j=>!Gx w T (os.getD j none) k
def nV(j:Nat):PV:=.int (j:Int)
theorem Z0t{w h:Nat}{T:List Th}(Y:YOk w h T){lg:Nat}{D:List Dy}(hD:∀d∈D,Zs lg d)(Cv:lg≤100){i k:Nat}(hi:i<D.length)(hk:k<w*h):aW [.sh (Z0 w h T D),.sh (.int i),.sh (pt (bL w k))]=.ret (.ow ((Z0m w T D[i].2.2 k).map nV)):=by
 have e1:=ZJ (T:=T) D Y.w0 hk
 have e2:=Z1K (w:=w) (h:=h) (T:=T) hi
 have e3:=ZT (w:=w) (h:=h) (T:=T) hi
 have hd:=hD D[i] (List.getElem_mem hi)
 obtain⟨os,hos⟩:∃os,D[i].2.2=os:=⟨_,rfl⟩
 have hd2:os.length≤lg∧∀o∈os,RB' o:=by rw[←hos];exact hd.2
 rw[hos] at e3 ⊢
 have hc:=fu (g:=gT 2 (Ŀ (gN 2) (Ŀ (gN 3) bC))) (mt:=bB (aG (Ď (Đ dW (ą 0 (ą 3 (ą 1 č))))))) (me:=ğ 2) (fun(j:Nat)=>PV.tup [.int j,jY (os.getD j none)]) nV (fun j=>!Gx w T (os.getD j none) k) (fun ρ=>∃a b,ρ=[.sh (Z0 w h T D),.sh (pt (bL w k)),a,b]) (List.range os.length) [.sh (Z0 w h T D),.sh (pt (bL w k)),.no,.no] [] ⟨_,_,rfl⟩ (by simp;omega) (by
  rintro j hj ρ ⟨a,b,rfl⟩
  have hj:=List.mem_range.mp hj
  have ei:=Z00 Y D (hd2.2 _ (Z0l hj)) (k:=k) (by have:=Y.wh;omega)
  generalize os.getD j none=o at *
  generalize Z0 w h T D=Yv at *
  generalize jY o=O at *
  generalize pt (bL w k)=Pv at *
  generalize Gx w T o k=b at *
  refine⟨[.sh Yv,.sh Pv,.sh (.int j),.sh O],[.sh Yv,.sh Pv,.sh (.int j),.sh O],by simp,by simp[ei],fun _=>⟨_,_,rfl⟩,fun _=>⟨[.sh Yv,.sh Pv,.sh (.int j),.sh O],by simp[nV],_,_,rfl⟩⟩)
 rw[List.nil_append] at hc
 have he:=Z0A os
 rw[←he] at hc
 unfold Z0m
 generalize ((List.range os.length).filter fun j=>!Gx w T (os.getD j none) k).map nV=R at *
 generalize Z0 w h T D=Yv at *
 generalize pt (bL w k)=Pv at *
 generalize os.map jY=OV at *
 simp[aW,pY,List.replicate,e1,e2,e3,hc]
def Zl(w:Nat)(T:List Th)(k:Nat)(D:List Dy)(i:Nat):Option (Nat×Nat):=((List.range (D.getD i default).2.2.length).find? fun j=>!Gx w T ((D.getD i default).2.2.getD j none) k).map fun j=>(i,j)
def pV:Option (Nat×Nat)→PV
 |none=>.non
 |some q=>.tup [.int q.1,.int q.2]
theorem Z02{α β:Type}(p:α→Bool)(f:α→β):∀l:List α,l.findSome? (fun x=>if p x=true then some (f x) else none)=(l.find? p).map f
 | []=>rfl
 |x::l=>by
  rw[List.findSome?_cons,List.find?_cons]
  cases h:p x with
  |true=>simp
  |false=>simpa using Z02 p f l
theorem Z0u{w h:Nat}{T:List Th}(Y:YOk w h T){lg:Nat}{D:List Dy}(hD:∀d∈D,Zs lg d)(Cv:lg≤100)(hl:D.length≤100){k:Nat}(hk:k<w*h):cu [.sh (Z0 w h T D),.sh (pt (bL w k))]=.ret (.sh (pV ((List.range D.length).findSome? (Zl w T k D)))):=by
 have e1:=ZJ (T:=T) D Y.w0 hk
 have yd:=y_d w h T D
 have rr:=Zy (n:=D.length) (by omega)
 have main:=bG (g:=gN 2) (mb:=vP) (fun(i:Nat)=>PV.int (i:Int)) (Zl w T k D) (fun q=>.sh (.tup [.int q.1,.int q.2])) (fun ρ=>∃a b c,ρ=[.sh (Z0 w h T D),.sh (pt (bL w k)),a,b,c]) (List.range D.length) (by
  rintro i hi ρ ⟨a,b,c,rfl⟩
  have hi:=List.mem_range.mp hi
  have e3:=ZT (w:=w) (h:=h) (T:=T) hi
  have hd:=hD D[i] (List.getElem_mem hi)
  have hg:D.getD i default=D[i]:=by rw[List.getD_eq_getElem?_getD,List.getElem?_eq_getElem hi];rfl
  obtain⟨os,hos⟩:∃os,D[i].2.2=os:=⟨_,rfl⟩
  have hd2:os.length≤lg∧∀o∈os,RB' o:=by rw[←hos];exact hd.2
  have hf:Zl w T k D i=(List.range os.length).findSome? (fun j=>if(!Gx w T (os.getD j none) k)=true then some (i,j) else none):=by
   unfold Zl
   rw[hg,hos,Z02]
  rw[hos] at e3
  have inner:=bG (g:=gT 2 (Ŀ (gN 3) (Ŀ (gN 4) bC))) (mb:=vO) (fun(j:Nat)=>PV.tup [.int j,jY (os.getD j none)]) (fun j=>if(!Gx w T (os.getD j none) k)=true then some (i,j) else none) (fun q=>.sh (.tup [.int ((q.1:Nat):Int),.int ((q.2:Nat):Int)])) (fun ρ=>∃b c,ρ=[.sh (Z0 w h T D),.sh (pt (bL w k)),.sh (.int i),b,c]) (List.range os.length) (by
   rintro j hj ρ ⟨b,c,rfl⟩
   have hj:=List.mem_range.mp hj
   have ei:=Z00 Y D (hd2.2 _ (Z0l hj)) (k:=k) (by have:=Y.wh;omega)
   generalize os.getD j none=o at *
   generalize Z0 w h T D=Yv at *
   generalize jY o=O at *
   generalize pt (bL w k)=Pv at *
   generalize Gx w T o k=bb at *
   refine⟨[.sh Yv,.sh Pv,.sh (.int i),.sh (.int j),.sh O],by simp,?_⟩
   cases bb with
   |false=>exact .inl ⟨(i,j),[.sh Yv,.sh Pv,.sh (.int i),.sh (.int j),.sh O],by simp,by simp[vO,ei]⟩
   |true=>exact .inr ⟨[.sh Yv,.sh Pv,.sh (.int i),.sh (.int j),.sh O],by simp,by simp[vO,ei],_,_,rfl⟩) [.sh (Z0 w h T D),.sh (pt (bL w k)),.sh (.int i),b,c] ⟨_,_,rfl⟩
  rw[←Z0A os,←hf] at inner
  refine⟨[.sh (Z0 w h T D),.sh (pt (bL w k)),.sh (.int i),b,c],rfl,?_⟩
  rcases inner with⟨r,ρ2,q1,q2⟩|⟨ρ2,q1,q2,b',c',rfl⟩
  ·refine .inl ⟨r,ρ2,q1,?_⟩
   generalize Z0 w h T D=Yv at *
   generalize pt (bL w k)=Pv at *
   generalize os.map jY=OV at *
   simp[vP,e3,q2]
  ·refine .inr ⟨[.sh (Z0 w h T D),.sh (pt (bL w k)),.sh (.int i),b',c'],q1,?_,_,_,_,rfl⟩
   generalize Z0 w h T D=Yv at *
   generalize pt (bL w k)=Pv at *
   generalize os.map jY=OV at *
   simp[vP,e3,q2]) [.sh (Z0 w h T D),.sh (pt (bL w k)),.no,.no,.no] ⟨_,_,_,rfl⟩
 have hdl:(D.map cF).length=D.length:=by simp
 have rr':Ÿ [.int ((D.map cF).length:Int)]=some ((List.range D.length).map fun(i:Nat)=>PV.int (i:Int)):=by rw[hdl];exact rr
 generalize Z0 w h T D=Yv at *
 generalize pt (bL w k)=Pv at *
 generalize D.map cF=DV at *
 rcases main with⟨r,ρ2,q1,q2⟩|⟨ρ2,q1,q2,_⟩
 ·rw[q1]
  simp[cu,pZ,List.replicate,e1,yd,rr',q2,pV]
 ·rw[q1]
  simp[cu,pZ,List.replicate,e1,yd,rr',q2,pV]
def ZA(t:Th):PV:=.tup [.str t.1,.lst (t.2.map .int)]
theorem Z24(w h:Nat):iH [.tup [.int w,.int h]]=some (.int ((max w h:Nat):Int)):=by
 show some (PV.int (max (w:Int) h))=_
 congr 2
 omega
theorem Z0n{w h:Nat}(hw:1≤w∧w≤20)(hh:1≤h∧h≤20):∀(cs:List Int) (acc:List PV) (s1:P.Slot),acc.length+cs.length≤1000→∃T:List Th,Ō (gN 1) œ (Ď (Đ dR (ą 1 (đ (b_ iH (ă (ā 0) Ě)) č)))) (cs.map .int) [.sh (.tup [.int w,.int h]),s1] acc=some (acc++T.map ZA)∧T.length=cs.length∧∀t∈T,Z8 t.1 t.2=true
 | [],acc,s1,_=>⟨[],by simp[Ō],rfl,by simp⟩
 |c::cs,acc,s1,ha=>by
  obtain⟨t,e1,e2⟩:=Z10 c (w:=((max w h:Nat):Int)) (by omega) (by omega)
  obtain⟨T,q1,q2,q3⟩:=Z0n hw hh cs (acc ++ [ZA t]) (.sh (.int c)) (by simp at ha ⊢;omega)
  refine⟨t::T,?_,by simp[q2],?_⟩
  ·have hz:acc.length<16777216:=by simp at ha;omega
   have mx:=Z24 w h
   change dR _=.ret (.sh (ZA t)) at e1
   generalize hR:ZA t=R at *
   generalize ((max w h:Nat):Int)=m at *
   rw[List.map_cons,Ō]
   simp[mx,e1,hz,hR]
   simpa using q1
  ·intro x hx
   rcases List.mem_cons.mp hx with rfl|hx
   ·exact e2
   ·exact q3 x hx
theorem Z1o{w:Str}{xs:List Int}(h:Z8 w xs=true):PyData.strOk w=true:=by
 unfold Z8 at h
 by_cases e1:w= "post"
 ·rw[e1];exact s1
 rw[if_neg e1] at h
 by_cases e2:w= "fence"
 ·rw[e2];exact s2
 rw[if_neg e2] at h
 by_cases e3:w= "sail"
 ·rw[e3];exact s3
 rw[if_neg e3] at h
 by_cases e4:w= "cloth"
 ·rw[e4];exact s4
 rw[if_neg e4] at h
 by_cases e5:w= "house"
 ·rw[e5];exact s5
 rw[if_neg e5] at h
 cases h
theorem Z14{T:List Th}(hl:T.length≤1000)(hg:∀t∈T,Z8 t.1 t.2=true)(s0 s1:P.Slot):Ō (gT 2 (Ŀ (gN 0) (Ŀ (gN 1) bC))) œ (Ď (Đ cN (ą 0 (đ (Ď (oF dI (ă (ā 1) Ě))) č)))) (T.map ZA) [s0,s1] []=some (T.map zK):=by
 have hc:=Š (g:=gT 2 (Ŀ (gN 0) (Ŀ (gN 1) bC))) (mt:=œ) (me:=Ď (Đ cN (ą 0 (đ (Ď (oF dI (ă (ā 1) Ě))) č)))) ZA zK (fun ρ=>∃a b,ρ=[a,b]) T [s0,s1] [] ⟨_,_,rfl⟩ (by simp;omega) (by
  rintro t ht ρ ⟨a,b,rfl⟩
  have e:=Z1f (Z1o (hg t ht)) (xs:=t.2) (sl:=.sh (.lst (t.2.map .int))) (.inl rfl)
  rw[if_pos (hg t ht)] at e
  change cN _=.ret (.sh (zK t)) at e
  refine⟨[.sh (.str t.1),.sh (.lst (t.2.map .int))],_,[.sh (.str t.1),.sh (.lst (t.2.map .int))],by simp[ZA],rfl,?_,_,_,rfl⟩
  generalize t.2.map PV.int=X at *
  generalize zK t=V at *
  simp[e])
 simpa using hc
theorem slI(xs:List Int)(lo hi:Option Int):∃ys:List Int,cL (xs.map PV.int) lo hi=ys.map PV.int∧ys.length≤xs.length:=by
 refine⟨(xs.drop (HT.ig xs.length 0 lo)).take (HT.ig xs.length xs.length hi-HT.ig xs.length 0 lo),?_,by simp;omega⟩
 unfold cL
 rw[List.length_map,List.map_take,List.map_drop]
theorem Z15{w h:Nat}{T:List Th}(D:List Dy){x y:Int}(hx:¬((0≤x∧x<w)∧(0≤y∧y<h))):gK [.sh (Z0 w h T D),.sh (.tup [.int x,.int y])]=.ret (.sh (.bl false)):=by
 have yw:=y_w w h T D
 have yh:=y_h w h T D
 generalize Z0 w h T D=Yv at *
 by_cases a1:0≤x
 ·by_cases a2:x<(w:Int)
  ·by_cases a3:0≤y
   ·have a4:¬y<(h:Int):=fun a4=>hx ⟨⟨a1,a2⟩,a3,a4⟩
    simp[gK,jq,List.replicate,yw,yh,a1,a2,a3,a4]
   ·simp[gK,jq,List.replicate,yw,yh,a1,a2,a3]
  ·simp[gK,jq,List.replicate,yw,yh,a1,a2]
 ·simp[gK,jq,List.replicate,yw,yh,a1]
def QB(x y:Int):PX:=⟨"NoStone",["stone"],[.tup [.int x,.int y]]⟩
def xTn(d:Int):PX:=⟨"NoTurn",["day","turn"],[.int d,.non]⟩
theorem Z03{w h:Nat}{T:List Th}(D:List Dy){x y:Int}(hx:¬((0≤x∧x<w)∧(0≤y∧y<h))):iK [.sh (Z0 w h T D),.sh (.tup [.int x,.int y])]=.exc (QB x y):=by
 have hs:=Z15 (T:=T) D hx
 generalize Z0 w h T D=Yv at *
 simp[iK,vq,List.replicate,hs,Jd,putN,qH,QB]
theorem Z0v{w h:Nat}{T:List Th}(D:List Dy)(d:Int){x y:Int}(hx:¬((0≤x∧x<w)∧(0≤y∧y<h))):aW [.sh (Z0 w h T D),.sh (.int d),.sh (.tup [.int x,.int y])]=.exc (QB x y):=by
 have hs:=Z03 (T:=T) D hx
 generalize Z0 w h T D=Yv at *
 generalize QB x y=X at *
 simp[aW,pY,List.replicate,hs]
theorem Z0w{w h:Nat}{T:List Th}(D:List Dy){x y:Int}(hx:¬((0≤x∧x<w)∧(0≤y∧y<h))):cu [.sh (Z0 w h T D),.sh (.tup [.int x,.int y])]=.exc (QB x y):=by
 have hs:=Z03 (T:=T) D hx
 generalize Z0 w h T D=Yv at *
 generalize QB x y=X at *
 simp[cu,pZ,List.replicate,hs]
theorem y35:(Str.ofString "day" =Str.ofString "turn")=False:=eq_false (by decide +kernel)
theorem Z25:(Str.ofString "turn" == Str.ofString "day")=false:=by decide +kernel
theorem Z1L{w h:Nat}{T:List Th}{D:List Dy}{d:Int}(hd:¬(0≤d∧d<D.length)):mz [.sh (Z0 w h T D),.sh (.int d)]=.exc (xTn d):=by
 have yd:=y_d w h T D
 have hl:(D.map cF).length=D.length:=by simp
 rw[←hl] at hd
 generalize Z0 w h T D=Yv at *
 generalize D.map cF=DV at *
 have hs:jR [.sh Yv,.sh (.int d)]=.ret (.sh (.bl false)):=by
  by_cases a1:0≤d
  ·have a2:¬d<(DV.length:Int):=fun a2=>hd ⟨a1,a2⟩
   simp[jR,pP,List.replicate,yd,a1,a2]
  ·simp[jR,pP,List.replicate,yd,a1]
 simp[mz,vA,List.replicate,hs,Jd,putN,qH,xTn,y35,Z25]
theorem Z0o{w h:Nat}{T:List Th}(D:List Dy)(hw:0<w){k:Nat}(hk:k<w*h){d:Int}(hd:¬(0≤d∧d<D.length)):aW [.sh (Z0 w h T D),.sh (.int d),.sh (pt (bL w k))]=.exc (xTn d):=by
 have e1:=ZJ (T:=T) D hw hk
 have e2:=Z1L (w:=w) (h:=h) (T:=T) hd
 generalize Z0 w h T D=Yv at *
 generalize pt (bL w k)=Pv at *
 generalize xTn d=X at *
 simp[aW,pY,List.replicate,e1,e2]
def xV(x:PX):PV:=.xc x.C x.ns x.ps
theorem Z1v{Yv d p:PV}{x:PX}(h:aW [.sh Yv,.sh d,.sh p]=.exc x)(hc:x.C= "NoStone" ∨x.C= "NoTurn"):bO [.sh Yv,.sh (.bl true),.sh d,.sh p]=.ret (.sh (xV x)):=by
 have hy:x.C∈(["YardError","NoNumber","BadThing","NoStone","NoTurn","BadRow","NoRow","NoDay"]:List String):=by
  rcases hc with hc|hc<;>rw[hc]<;>decide
 generalize hL:(["YardError","NoNumber","BadThing","NoStone","NoTurn","BadRow","NoRow","NoDay"]:List String)=L at *
 simp[bO,vQ,List.replicate,h,hL,hy,xV]
theorem Z2j{Yv d p:PV}{x:PX}(h:cu [.sh Yv,.sh p]=.exc x)(hc:x.C= "NoStone" ∨x.C= "NoTurn"):bO [.sh Yv,.sh (.bl false),.sh d,.sh p]=.ret (.sh (xV x)):=by
 have hy:x.C∈(["YardError","NoNumber","BadThing","NoStone","NoTurn","BadRow","NoRow","NoDay"]:List String):=by
  rcases hc with hc|hc<;>rw[hc]<;>decide
 generalize hL:(["YardError","NoNumber","BadThing","NoStone","NoTurn","BadRow","NoRow","NoDay"]:List String)=L at *
 simp[bO,vQ,List.replicate,h,hL,hy,xV]
theorem isx{C D:String}{ns:List Str}{ps:List PV}:aj Z5 Z7 Zb Zc [.xc C ns ps,.cls D]=(Z5.lookup (C,D)).map .bl:=rfl
theorem isv{C D:String}{ns:List Str}{ps:List PV}:aj Z5 Z7 Zb Zc [.xc C ns ps,.ty D]=(Z7.lookup (C,D)).map .bl:=rfl
theorem a1:Z5.lookup ("NoStone","NoStone")=some true:=by decide +kernel
theorem a2:Z7.lookup ("NoStone","ValueError")=some true:=by decide +kernel
theorem a3:Z5.lookup ("NoStone","NoTurn")=some false:=by decide +kernel
theorem a4:Z5.lookup ("NoStone","NoNumber")=some false:=by decide +kernel
theorem a5:Z5.lookup ("NoTurn","NoTurn")=some true:=by decide +kernel
theorem a6:Z7.lookup ("NoTurn","ValueError")=some true:=by decide +kernel
theorem a7:Z5.lookup ("NoTurn","NoStone")=some false:=by decide +kernel
theorem z1:nj Z5 "NoStone" [.cls "BadRow",.cls "BadThing",.cls "NoDay",.cls "NoRow"]=some false:=by decide +kernel
theorem z2:nj Z5 "NoTurn" [.cls "BadRow",.cls "BadThing",.cls "NoDay",.cls "NoNumber",.cls "NoRow"]=some false:=by decide +kernel
theorem Z0N(x y:Int):iJ [.sh (xV (QB x y)),.sh (.tup [.int x,.int y])]=.ret (.sh (.bl true)):=by
 have h1:rP Z5 Z7 Zb Zc [.xc "NoStone" ["stone"] [.tup [.int x,.int y]],.tup [.cls "BadRow",.cls "BadThing",.cls "NoDay",.cls "NoRow"]]=some (.bl false):=by
  show(nj Z5 "NoStone" [.cls "BadRow",.cls "BadThing",.cls "NoDay",.cls "NoRow"]).map PV.bl=_
  rw[z1];rfl
 have h2:dN ["NoStone"] "stone" (.xc "NoStone" ["stone"] [.tup [.int x,.int y]])=some (.tup [.int x,.int y]):=by
  simp[dN,List.lookup]
 have h3:aj Z5 Z7 Zb Zc [.tup [.int x,.int y],.ty "tuple"]=some (.bl true):=rfl
 have h4:jj (.tup [.int x,.int y]) (.tup [.int x,.int y])=some (.bl false):=by
  have h:=Z05 (x,y) (x,y)
  rw[decide_eq_true rfl] at h
  exact h
 have h5:aj Z5 Z7 Zb Zc [.xc "NoStone" ["stone"] [.tup [.int x,.int y]],.cls "NoStone"]=some (.bl true):=by rw[isx,a1];rfl
 have h6:aj Z5 Z7 Zb Zc [.xc "NoStone" ["stone"] [.tup [.int x,.int y]],.ty "ValueError"]=some (.bl true):=by rw[isv,a2];rfl
 have h7:aj Z5 Z7 Zb Zc [.xc "NoStone" ["stone"] [.tup [.int x,.int y]],.cls "NoTurn"]=some (.bl false):=by rw[isx,a3];rfl
 have h8:aj Z5 Z7 Zb Zc [.xc "NoStone" ["stone"] [.tup [.int x,.int y]],.cls "NoNumber"]=some (.bl false):=by rw[isx,a4];rfl
 show iJ [.sh (.xc "NoStone" ["stone"] [.tup [.int x,.int y]]),.sh (.tup [.int x,.int y])]=_
 generalize PV.xc "NoStone" ["stone"] [.tup [.int x,.int y]]=Xv at *
 generalize PV.tup [.int x,.int y]=Pv at *
 simp[iJ,Ba,List.replicate,h1,h2,h3,h4,h5,h6,h7,h8]
theorem Z16(d:Int):mq [.sh (xV (xTn d)),.sh (.int d)]=.ret (.sh (.bl true)):=by
 have h1:rP Z5 Z7 Zb Zc [.xc "NoTurn" ["day","turn"] [.int d,.non],.tup [.cls "BadRow",.cls "BadThing",.cls "NoDay",.cls "NoNumber",.cls "NoRow"]]=some (.bl false):=by
  show(nj Z5 "NoTurn" [.cls "BadRow",.cls "BadThing",.cls "NoDay",.cls "NoNumber",.cls "NoRow"]).map PV.bl=_
  rw[z2];rfl
 have h2:dN ["NoTurn"] "day" (.xc "NoTurn" ["day","turn"] [.int d,.non])=some (.int d):=by
  simp[dN,List.lookup]
 have h3:dN ["NoTurn"] "turn" (.xc "NoTurn" ["day","turn"] [.int d,.non])=some .non:=by
  simp[dN,List.lookup,Z25]
 have h4:aj Z5 Z7 Zb Zc [.int d,.ty "bool"]=some (.bl false):=rfl
 have h5:aj Z5 Z7 Zb Zc [.xc "NoTurn" ["day","turn"] [.int d,.non],.cls "NoTurn"]=some (.bl true):=by rw[isx,a5];rfl
 have h6:aj Z5 Z7 Zb Zc [.xc "NoTurn" ["day","turn"] [.int d,.non],.ty "ValueError"]=some (.bl true):=by rw[isv,a6];rfl
 have h7:aj Z5 Z7 Zb Zc [.xc "NoTurn" ["day","turn"] [.int d,.non],.cls "NoStone"]=some (.bl false):=by rw[isx,a7];rfl
 show mq [.sh (.xc "NoTurn" ["day","turn"] [.int d,.non]),.sh (.int d)]=_
 generalize PV.xc "NoTurn" ["day","turn"] [.int d,.non]=Xv at *
 simp[mq,Bb,List.replicate,h1,h2,h3,h4,h5,h6,h7,Ig]
theorem Zu:CK 2 0=some 0:=rfl
theorem Zv:CK 2 1=some 1:=rfl
theorem Z1p(c:Int){w h:Nat}(hw:1≤w∧w≤20)(hh:1≤h∧h≤20):∃a b:Int,cW [.sh (.tup [.int w,.int h]),.sh (.int c)]=.ret (.sh (.tup [.int a,.int b]))∧¬((0≤a∧a<w)∧(0≤b∧b<h)):=by
 have i1:c / 7 % 2=0∨c / 7 % 2=1:=by omega
 have i2:c / 14 % 3 / 2=0∨c / 14 % 3 / 2=1:=by omega
 have i3:c / 2 % 2=0∨c / 2 % 2=1:=by omega
 have hz:¬w=0:=by omega
 have hz':¬h=0:=by omega
 have hp:oM 10 9=true:=by decide
 obtain⟨F,hF,hF0⟩:∃F:Int,(if 30<c / 28 % 1000000000 then c / 28 % 1000000000-30 else 0)=F∧0≤F:=⟨_,rfl,by split<;>omega⟩
 rcases i1 with i1|i1
 ·rcases i2 with i2|i2
  ·rcases i3 with i3|i3
   ·refine⟨w,(c / 5).fmod h,?_,by omega⟩
    simp[cW,dh,List.replicate,i1,i2,i3,hz,hz',hp,Zu,Zv]
   ·refine⟨-1,(c / 5).fmod h,?_,by omega⟩
    simp[cW,dh,List.replicate,i1,i2,i3,hz,hz',hp,Zu,Zv]
  ·rcases i3 with i3|i3
   ·refine⟨w+F,(c / 5).fmod h,?_,by omega⟩
    simp[cW,dh,List.replicate,i1,i2,i3,hz,hz',hp,Zu,Zv,hF]
   ·refine⟨-1-F,(c / 5).fmod h,?_,by omega⟩
    simp[cW,dh,List.replicate,i1,i2,i3,hz,hz',hp,Zu,Zv,hF]
 ·rcases i2 with i2|i2
  ·rcases i3 with i3|i3
   ·refine⟨(c / 3).fmod w,h,?_,by omega⟩
    simp[cW,dh,List.replicate,i1,i2,i3,hz,hz',hp,Zu,Zv]
   ·refine⟨(c / 3).fmod w,-1,?_,by omega⟩
    simp[cW,dh,List.replicate,i1,i2,i3,hz,hz',hp,Zu,Zv]
  ·rcases i3 with i3|i3
   ·refine⟨(c / 3).fmod w,h+F,?_,by omega⟩
    simp[cW,dh,List.replicate,i1,i2,i3,hz,hz',hp,Zu,Zv,hF]
   ·refine⟨(c / 3).fmod w,-1-F,?_,by omega⟩
    simp[cW,dh,List.replicate,i1,i2,i3,hz,hz',hp,Zu,Zv,hF]
theorem Z0B(L:List Nat):L.map nV=(L.map fun(j:Nat)=>(j:Int)).map .int:=by simp[nV,Function.comp_def]
noncomputable def Z0p:M Fl:=(ģ (Ļ 10 (Ĵ ı (Ď (ţ [5,6] 1 (Ű Ÿ (ă (b_ cO (ă (ā 4) Ě)) Ě)) (gN 2) œ (Ď (Đ aW (ą 0 (ą 2 (ą 1 č))))))) (Ď (ũ (ă (Ď (Đ cu (ą 5 (ą 6 č)))) Ě))))) (ģ (fX (ū (Ď (Ĵ ı (Ď (ũ (Ű Ÿ (ă (b_ cO (ă (ā 4) Ě)) Ě)))) (Ď (ũ (ă (ğ 9) Ě)))))) (gN 11) vR) (ģ (dX (bB (aG (Ď (Đ iJ (đ (Ď (Đ bO (ą 5 (đ (mC (.bl false)) (đ (mC (.int 0)) (ą 7 č)))))) (ą 7 č)))))) (ĳ (Ŕ (mC (.bl false)))) fK) (ģ (dX (bB (aG (Ď (Đ mq (đ (Ď (Đ bO (ą 5 (đ (mC (.bl true)) (ą 9 (ą 6 č)))))) (ą 9 č)))))) (ĳ (Ŕ (mC (.bl false)))) fK) (ĳ (Ŕ (Ĉ aq (Ď (Ĵ ı (Ď (ţ [5,6] 1 (Ű Ÿ (ă (b_ cO (ă (ā 4) Ě)) Ě)) (gN 2) œ (Ď (Đ aW (ą 0 (ą 2 (ą 1 č))))))) (Ď (ũ (ă (Ď (Đ cu (ą 5 (ą 6 č)))) Ě))))) (ā 10))))))))
theorem Z2n:BL=(ģ (Ļ 1 (Đ dO (đ (Ď (Đ ő (ą 0 (đ (mC (.int 0)) č)))) (đ (mC (.int 9)) č)))) (ģ (Ļ 2 (ţ [1] 1 (ū (Ď (Fv (ā 0) (mP (mC (.int 2))) (mP (mC (.int 4)))))) (gN 1) œ (Ď (Đ dR (ą 1 (đ (b_ iH (ă (ā 0) Ě)) č)))))) (ģ (Ļ 3 (ţ [] 2 (Ŵ 2) (gT 2 (Ŀ (gN 0) (Ŀ (gN 1) bC))) œ (Ď (Đ cN (ą 0 (đ (Ď (oF dI (ă (ā 1) Ě))) č)))))) (ģ (Ļ 4 (Đ lZ (ą 0 (đ (mC (.int 6)) (đ (Ĉ ń (Ď (Đ ő (ą 0 (đ (mC (.int 1)) č)))) (mC (.int 4))) (đ (mC (.int 4)) č)))))) (ģ (Ļ 5 (Ŕ (cg "Yard" jO (đ (Ĉ ĝ (ā 1) (mC (.int 0))) (đ (Ĉ ĝ (ā 1) (mC (.int 1))) (ą 3 (ą 4 č))))))) (ģ (Ļ 6 (Ŕ (Ŗ (ă (Ĉ ń (Ď (Đ ő (ą 0 (đ (mC (.int 4)) č)))) (Ĉ ĝ (ā 1) (mC (.int 0)))) (ă (Ĉ ń (Ď (Đ ő (ą 0 (đ (mC (.int 5)) č)))) (Ĉ ĝ (ā 1) (mC (.int 1)))) Ě))))) (ģ (Ļ 7 (Đ cW (ą 1 (đ (Ď (Đ ő (ą 0 (đ (mC (.int 4)) č)))) č)))) (ģ (Ļ 8 (Ŕ (Ĉ ń (Ĉ Ź (Ď (Đ ő (ą 0 (đ (mC (.int 5)) č)))) (mC (.int 3))) (Ĉ iz (mC (.int 10)) (mC (.int 12)))))) (ģ (Ļ 9 (Ŕ (Ĉ ĝ (Ď (ũ (ă (b_ cO (ă (ā 4) Ě)) (ă (Ĉ ŗ (mC (.int 0)) (mC (.int 1))) (ă (Ď (Ĵ ı (b_ cO (ă (ā 4) Ě)) (ā 8))) (ă (Ĉ ŗ (Ĉ ŗ (mC (.int 0)) (mC (.int 1))) (ā 8)) Ě)))))) (Ĉ ń (Ď (Đ ő (ą 0 (đ (mC (.int 5)) č)))) (mC (.int 4)))))) Z0p))))))))):=rfl
def ltV(w:Nat)(T:List Th)(D:List Dy)(k:Nat)(i:Nat):PV:=.lst ((Z0m w T (D.getD i default).2.2 k).map nV)
theorem Z1M{w h:Nat}{T:List Th}(Y:YOk w h T){lg:Nat}{D:List Dy}(hD:∀d∈D,Zs lg d)(Cv:lg≤100)(hl:D.length≤100){k:Nat}(hk:k<w*h) :
 Ō (gN 2) œ (Ď (Đ aW (ą 0 (ą 2 (ą 1 č))))) ((List.range D.length).map fun(i:Nat)=>PV.int (i:Int)) [.sh (Z0 w h T D),.sh (pt (bL w k)),.no] []=some ((List.range D.length).map (ltV w T D k)):=by
 have hc:=Š (g:=gN 2) (mt:=œ) (me:=Ď (Đ aW (ą 0 (ą 2 (ą 1 č))))) (fun(i:Nat)=>PV.int (i:Int)) (ltV w T D k) (fun ρ=>∃a,ρ=[.sh (Z0 w h T D),.sh (pt (bL w k)),a]) (List.range D.length) [.sh (Z0 w h T D),.sh (pt (bL w k)),.no] [] ⟨_,rfl⟩ (by simp;omega) (by
  rintro i hi ρ ⟨a,rfl⟩
  have hi:=List.mem_range.mp hi
  have e:=Z0t Y hD Cv hi hk
  have hg:D.getD i default=D[i]:=by rw[List.getD_eq_getElem?_getD,List.getElem?_eq_getElem hi];rfl
  unfold ltV
  rw[hg]
  generalize (Z0m w T D[i].2.2 k).map nV=L at *
  generalize Z0 w h T D=Yv at *
  generalize pt (bL w k)=Pv at *
  exact⟨[.sh Yv,.sh Pv,.sh (.int i)],[.sh Yv,.sh Pv,.sh (.int i)],[.sh Yv,.sh Pv,.sh (.int i)],by simp,by simp,by simp[e],_,rfl⟩)
 rw[List.nil_append] at hc
 exact hc
theorem Z0q(w:Nat)(T:List Th)(D:List Dy)(k:Nat):∀ns:List Nat,aC (ns.map (ltV w T D k))=true∧eV (ns.map (ltV w T D k))≤2
 | []=>⟨by simp[aC],by simp[eV]⟩
 |n::ns=>by
  obtain⟨h1,h2⟩:=Z0q w T D k ns
  have e1:aB (ltV w T D k n)=true:=by unfold ltV;rw[Z0B];unfold aB;exact Jy _
  have e2:dep (ltV w T D k n)≤2:=by unfold ltV;rw[Z0B];unfold dep;have:=Jz ((Z0m w T (D.getD n default).2.2 k).map fun(j:Nat)=>(j:Int));omega
  rw[List.map_cons]
  refine⟨?_,?_⟩
  ·unfold aC;rw[e1,h1];rfl
  ·unfold eV;omega
theorem Z2k(q:Option (Nat×Nat)):aB (pV q)=true∧dep (pV q)≤1:=by
 cases q with
 |none=>exact⟨by simp[pV,aB],by simp[pV,dep]⟩
 |some q=>exact⟨by simp[pV,aB,aC],by simp[pV,dep,eV]⟩
theorem Z17:∀(ps:List PV) (q:PV),aC ps=true→eV ps≤2→aB q=true→dep q≤1→aC (ps ++ [q])=true∧eV (ps ++ [q])≤2
 | [],q,_,_,h3,h4=>⟨by simp[aC,h3],by simp[eV];omega⟩
 |p::ps,q,h1,h2,h3,h4=>by
  unfold aC at h1
  unfold eV at h2
  rw[Bool.and_eq_true] at h1
  obtain⟨k1,k2⟩:=Z17 ps q h1.2 (by omega) h3 h4
  rw[List.cons_append]
  refine⟨?_,?_⟩
  ·unfold aC;rw[h1.1,k1];rfl
  ·unfold eV;omega
theorem Z26(w:Nat)(T:List Th)(D:List Dy)(k:Nat)(ns:List Nat)(q:Option (Nat×Nat)):aq (.lst (ns.map (ltV w T D k) ++ [pV q])) (.lst (ns.map (ltV w T D k) ++ [pV q]))=some (.bl true):=by
 obtain⟨h1,h2⟩:=Z0q w T D k ns
 obtain⟨h3,h4⟩:=Z2k q
 obtain⟨h5,h6⟩:=Z17 _ _ h1 h2 h3 h4
 exact Gd (by unfold aB;exact h5) (by unfold dep;omega)
theorem Z18{w h:Nat}{T:List Th}(Y:YOk w h T){lg:Nat}{D:List Dy}(hD:∀d∈D,Zs lg d)(Cv:lg≤100)(hl:D.length≤100){k:Nat}(hk:k<w*h){x y d:Int}(hx:¬((0≤x∧x<w)∧(0≤y∧y<h)))(hd:¬(0≤d∧d<D.length))(z0 z1 z2 z3 z8 z10 z11:P.Slot) :
 FR.of (Z0p [z0,z1,z2,z3,.ow (D.map cF),.sh (Z0 w h T D),.sh (pt (bL w k)),.sh (.tup [.int x,.int y]),z8,.sh (.int d),z10,z11])=.ret (.sh (.bl true)):=by
 have c1:=Z1M Y hD Cv hl hk
 have c2:=Z0u Y hD Cv hl hk
 have c3:=Z26 w T D k (List.range D.length) ((List.range D.length).findSome? (Zl w T k D))
 have rr:=Zy (n:=D.length) (by omega)
 have hdl:(D.map cF).length=D.length:=by simp
 have rr':Ÿ [.int ((D.map cF).length:Int)]=some ((List.range D.length).map fun(i:Nat)=>PV.int (i:Int)):=by rw[hdl];exact rr
 have e1:∀d:Int,bO [.sh (Z0 w h T D),.sh (.bl true),.sh (.int d),.sh (.tup [.int x,.int y])]=.ret (.sh (xV (QB x y))):=fun d=>Z1v (Z0v D d hx) (.inl rfl)
 have e2:bO [.sh (Z0 w h T D),.sh (.bl false),.sh (.int 0),.sh (.tup [.int x,.int y])]=.ret (.sh (xV (QB x y))):=Z2j (Z0w D hx) (.inl rfl)
 have e3:bO [.sh (Z0 w h T D),.sh (.bl true),.sh (.int d),.sh (pt (bL w k))]=.ret (.sh (xV (xTn d))):=Z1v (Z0o D Y.w0 hk hd) (.inr rfl)
 have e4:=Z0N x y
 have e5:=Z16 d
 have l1:((List.range D.length).map (ltV w T D k)).length+1≤16777216:=by simp;omega
 have l2:((List.range D.length).map fun(i:Nat)=>PV.int (i:Int)).length≤16777216:=by simp;omega
 have l3:((List.range D.length).map fun(i:Nat)=>PV.int (i:Int)).length+1≤16777216:=by simp;omega
 have lm:((List.range D.length).map fun(i:Nat)=>PV.int (i:Int)) ++ [.int d]=(((List.range D.length).map fun(i:Nat)=>(i:Int)) ++ [d]).map PV.int:=by simp[Function.comp_def]
 obtain⟨ρ',e6,y11,rfl⟩:=lF (g:=gN 11) (mb:=vR) PV.int (fun(_:Unit) (_:Int)=>()) (fun _ ρ=>∃a,ρ=[z0,z1,z2,z3,.ow (D.map cF),.sh (Z0 w h T D),.sh (pt (bL w k)),.sh (.tup [.int x,.int y]),z8,.sh (.int d),.ow ((List.range D.length).map (ltV w T D k) ++ [pV ((List.range D.length).findSome? (Zl w T k D))]),a]) (((List.range D.length).map fun(i:Nat)=>(i:Int)) ++ [d]) (by
  rintro v _ _ ρ ⟨a,rfl⟩
  have e:=e1 v
  generalize Z0 w h T D=Yv at *
  generalize pt (bL w k)=Pv at *
  generalize PV.tup [.int x,.int y]=Qv at *
  generalize xV (QB x y)=Xv at *
  generalize D.map cF=DV at *
  generalize ((List.range D.length).map (ltV w T D k) ++ [pV ((List.range D.length).findSome? (Zl w T k D))])=A at *
  exact⟨_,_,rfl,by simp[vR,e,e4];rfl,_,rfl⟩) () [z0,z1,z2,z3,.ow (D.map cF),.sh (Z0 w h T D),.sh (pt (bL w k)),.sh (.tup [.int x,.int y]),z8,.sh (.int d),.ow ((List.range D.length).map (ltV w T D k) ++ [pV ((List.range D.length).findSome? (Zl w T k D))]),z11] ⟨_,rfl⟩
 rw[←lm] at e6
 generalize (List.range D.length).map (fun(i:Nat)=>PV.int (i:Int))=RG at *
 generalize (List.range D.length).map (ltV w T D k)=LT at *
 generalize pV ((List.range D.length).findSome? (Zl w T k D))=FL at *
 generalize Z0 w h T D=Yv at *
 generalize pt (bL w k)=Pv at *
 generalize PV.tup [.int x,.int y]=Qv at *
 generalize xV (QB x y)=Xv at *
 generalize xV (xTn d)=Xw at *
 generalize D.map cF=DV at *
 simp[Z0p,rr',c1,c2,c3,e2,e3,e4,e5,e6,l1,l2,l3,add_l]
abbrev FN(nm q:Str)(st:Stmt)(kV dc pm:Value)(an:Option Addr)(cd ct:Value):FuncData:=PySem.W.fnOf nm q (gU st) (bH st) (ĉ st) .none kV dc pm an cd ct
abbrev LK(K:PySem.W.Frag)(g:Addr)(oc:Value)(od:Option Addr)(f:FuncData)(sl:Array (Option Value)):Prop:=K.lookup g=some ⟨oc,od,.func f,sl⟩
theorem Z27{l:PySem.W.OpenLaw}{w:World}{K:PySem.W.Frag}{h:Heap}{mg:Str→Option Value}{fa:Addr}(X:K.In h)(G:h.Ns mainGlobals mg)(hfa:mg "law" =some (.ref fa))
 {C0 C1 C2 C3 C4 C5 C6 C7 C8 C9 C10 C11 C12 C13 C14 g0 g1 g2 g3 g4 g5 g6 g7 g8 g9 g10 g11 g12 QK g14 g15 g16 g17 g18 g19 g20 g21 g22 g23 g24 g25 g26 g27 g28 g29 g30 g31 g32 g33 g34 g35 g36 g37 g38 g39 g40 g41 g42 g43 g44 g45 g46 g47 g48 g49 g50 g51 g52 g53 g54 g55 g56 g57 g58 g59 g60 g61 g62 g63 g64 g65:Addr}{od0 an0 od1 an1 od2 an2 od3 an3 od4 an4 od5 an5 od6 an6 od7 an7 od8 an8 od9 an9 Zl9 Ze0 Zl_ Ze1 Zma Ze2 Zmb Ze3 Zmc Ze4 Zmd Ze5 Zme Ze6 Zmf Ze7 Zmg Ze8 Zmh Ze9 Zmi Ze_ Zmj Zfa Zmk Zfb Zml Zfc Zmm Zfd Zmn Zfe Zmo Zff Zmp Zfg Zmq Zfh Zmr Zfi Zms Zfj Zmt Zfk Zmu Zfl Zmv Zfm Zmw Zfn Zmx Zfo Zmy Zfp Zmz Zfq ZmA Zfr ZmB Zfs ZmC Zft ZmD Zfu ZmE Zfv ZmF Zfw ZmG Zfx ZmH Zfy ZmI Zfz ZmJ ZfA ZmK ZfB ZmL ZfC ZmM ZfD ZmN ZfE ZmO ZfF ZmP ZfG ZmQ ZfH ZmR ZfI ZmS ZfJ ZmT ZfK ZmU ZfL ZmV ZfM ZmW ZfN ZmX Zbu ZmY ZfO ZmZ ZfP Zm0 ZfQ Zm1 ZfR:Option Addr}{sl0 sl1 sl2 Yr sl4 sl5 sl6 sl7 sl8 sl9 Zm2 Zm3 Zm4 Zm5 Zm6 Zm7 Zm8 Zm9 Zm_ Zna Znb Znc Znd Zne Znf Zng Znh Zni Znj Znk Znl Znm Znn Zno Znp Znq Znr Zns Znt Znu Znv Znw Znx Zny Znz ZnA ZnB ZnC ZnD ZnE ZnF ZnG ZnH ZnI ZnJ ZnK ZnL ZnM ZnN ZnO ZnP ZnQ ZnR ZnS ZnT ZnU:Array (Option Value)}{oc0 kV0 dc0 pm0 cd0 ct0 oc1 kV1 dc1 pm1 cd1 ct1 oc2 kV2 dc2 pm2 cd2 ct2 oc3 kV3 dc3 pm3 cd3 ct3 oc4 kV4 dc4 pm4 cd4 ct4 oc5 kV5 dc5 pm5 cd5 ct5 oc6 kV6 dc6 pm6 cd6 ct6 oc7 kV7 dc7 pm7 cd7 ct7 oc8 kV8 dc8 pm8 cd8 ct8 oc9 kV9 dc9 pm9 cd9 ct9 ZnV ZfS ZfT ZfU Zbv ZfV ZnW ZfW ZfX ZfY Zbw ZfZ ZnX Zf0 Zf1 Zf2 Zbx Zf3 ZnY Zf4 Zf5 Zf6 Zby Zf7 ZnZ Zf8 Zf9 Zf_ Zbz Zga Zn0 Zgb Zgc Zgd ZbA Zge Zn1 Zgf Zgg Zgh ZbB Zgi Zn2 Zgj Zgk Zgl ZbC Zgm Zn3 Zgn Zgo Zgp ZbD Zgq Zn4 Zgr Zgs Zgt ZbE Zgu Zn5 Zgv Zgw Zgx ZbF Zgy Zn6 Zgz ZgA ZgB ZbG ZgC Zn7 ZgD ZgE ZgF ZbH ZgG Zn8 ZgH ZgI ZgJ ZbI ZgK Zn9 ZgL ZgM ZgN ZbJ ZgO Zn_ ZgP ZgQ ZgR ZbK ZgS Zoa ZgT ZgU ZgV ZbL ZgW Zob ZgX ZgY ZgZ ZbM Zg0 Zoc Zg1 Zg2 Zg3 ZbN Zg4 Zod Zg5 Zg6 Zg7 ZbO Zg8 Zoe Zg9 Zg_ Zha ZbP Zhb Zof Zhc Zhd Zhe ZbQ Zhf Zog Zhg Zhh Zhi ZbR Zhj Zoh Zhk Zhl Zhm ZbS Zhn Zoi Zho Zhp Zhq ZbT Zhr Zoj Zhs Zht Zhu ZbU Zhv Zok Zhw Zhx Zhy ZbV Zhz Zol ZhA ZhB ZhC ZbW ZhD Zom ZhE ZhF ZhG ZbX ZhH Zon ZhI ZhJ ZhK ZbY ZhL Zoo ZhM ZhN ZhO ZbZ ZhP Zop ZhQ ZhR ZhS Zb0 ZhT Zoq ZhU ZhV ZhW Zb1 ZhX Zor ZhY ZhZ Zh0 Zb2 Zh1 Zos Zh2 Zh3 Zh4 Zb3 Zh5 Zot Zh6 Zh7 Zh8 Zb4 Zh9 Zou Zh_ Zia Zib Zb5 Zic Zov Zid Zie Zif Zb6 Zig Zow Zih Zii Zij Zb7 Zik Zox Zil Zim Zin Zb8 Zio Zoy Ziq Zir Zis Zb9 Zit Zoz Ziu Ziv Ziw Zb_ Zix ZoA Ziy Ziz ZiA Zca ZiB ZoB ZiC ZiD ZiE Zcb ZiF ZoC ZiG ZiH ZiI Zcc ZiJ ZoD ZiK ZiL ZiM Zcd ZiN ZoE ZiO ZiP ZiQ Zce ZiR ZoF ZiS ZiT ZiU Zcf ZiV ZoG ZiW ZiX ZiY Zcg ZiZ ZoH Zi0 Zi1 Zi2 Zch Zi3 ZoI Zi4 Zi5 Zi6 Zci Zi7 ZoJ Zcj Zck Zcl Ud Zcm ZoK Zi8 Zi9 Zi_ Zcn Zja ZoL Zjb Zjc Zjd Zco Zje ZoM Zjf Zjg Zjh Zcp Zji ZoN Zjj Zjk Zjl Zcq Zjm:Value}
 {tk0:Tok}
 {tk1:Tok}
 (u0:PySem.W.nsIn K mainGlobals "YardError" =some (some (.ref C0)))
 (u1:PySem.W.nsIn K mainGlobals "NoNumber" =some (some (.ref C1)))
 (u2:PySem.W.nsIn K mainGlobals "BadThing" =some (some (.ref C2)))
 (u3:PySem.W.nsIn K mainGlobals "NoStone" =some (some (.ref C3)))
 (u4:PySem.W.nsIn K mainGlobals "NoTurn" =some (some (.ref C4)))
 (u5:PySem.W.nsIn K mainGlobals "BadRow" =some (some (.ref C5)))
 (u6:PySem.W.nsIn K mainGlobals "NoRow" =some (some (.ref C6)))
 (u7:PySem.W.nsIn K mainGlobals "NoDay" =some (some (.ref C7)))
 (u8:PySem.W.nsIn K mainGlobals "Yard" =some (some (.ref C8)))
 (u9:PySem.W.nsIn K mainGlobals "Thing" =some (some (.ref C9)))
 (u10:PySem.W.nsIn K mainGlobals "Post" =some (some (.ref C10)))
 (u11:PySem.W.nsIn K mainGlobals "Fence" =some (some (.ref C11)))
 (u12:PySem.W.nsIn K mainGlobals "Sail" =some (some (.ref C12)))
 (u13:PySem.W.nsIn K mainGlobals "Cloth" =some (some (.ref C13)))
 (u14:PySem.W.nsIn K mainGlobals "House" =some (some (.ref C14)))
 (a0:PySem.W.nsIn K mainGlobals "_law_size" =some (some (.ref g0)))
 (l0:LK K g0 oc0 od0 (FN "_law_size" "_law_size" xW kV0 dc0 pm0 an0 cd0 ct0) sl0)
 (c0:PySem.W.codeIn K cd0 "_law_size" =true)(k0:PySem.W.keepIn K (.ref g0)=true)
 (a1:PySem.W.nsIn K mainGlobals "_law_at" =some (some (.ref g1)))
 (l1:LK K g1 oc1 od1 (FN "_law_at" "_law_at" xX kV1 dc1 pm1 an1 cd1 ct1) sl1)
 (c1:PySem.W.codeIn K cd1 "_law_at" =true)(k1:PySem.W.keepIn K (.ref g1)=true)
 (a2:PySem.W.nsIn K mainGlobals "_law_grains" =some (some (.ref g2)))
 (l2:LK K g2 oc2 od2 (FN "_law_grains" "_law_grains" xY kV2 dc2 pm2 an2 cd2 ct2) sl2)
 (c2:PySem.W.codeIn K cd2 "_law_grains" =true)(k2:PySem.W.keepIn K (.ref g2)=true)
 (a3:PySem.W.nsIn K mainGlobals "_law_sky" =some (some (.ref g3)))
 (l3:LK K g3 oc3 od3 (FN "_law_sky" "_law_sky" xZ kV3 dc3 pm3 an3 cd3 ct3) Yr)
 (c3:PySem.W.codeIn K cd3 "_law_sky" =true)(k3:PySem.W.keepIn K (.ref g3)=true)
 (a4:PySem.W.nsIn K mainGlobals "_law_days" =some (some (.ref g4)))
 (l4:LK K g4 oc4 od4 (FN "_law_days" "_law_days" rQ kV4 dc4 pm4 an4 cd4 ct4) sl4)
 (c4:PySem.W.codeIn K cd4 "_law_days" =true)(k4:PySem.W.keepIn K (.ref g4)=true)
 (a5:PySem.W.findIn K (.ref C8) "__init__" =some (some (.ref g5)))
 (l5:LK K g5 oc5 od5 (FN "__init__" "Yard.__init__" rT kV5 dc5 pm5 an5 cd5 ct5) sl5)
 (c5:PySem.W.codeIn K cd5 "Yard.__init__" =true)(k5:PySem.W.keepIn K (.ref g5)=true)
 (a6:PySem.W.nsIn K mainGlobals "_law_beside" =some (some (.ref g6)))
 (l6:LK K g6 oc6 od6 (FN "_law_beside" "_law_beside" yc kV6 dc6 pm6 an6 cd6 ct6) sl6)
 (c6:PySem.W.codeIn K cd6 "_law_beside" =true)(k6:PySem.W.keepIn K (.ref g6)=true)
 (a7:PySem.W.nsIn K mainGlobals "_law_height" =some (some (.ref g7)))
 (l7:LK K g7 oc7 od7 (FN "_law_height" "_law_height" yg kV7 dc7 pm7 an7 cd7 ct7) sl7)
 (c7:PySem.W.codeIn K cd7 "_law_height" =true)(k7:PySem.W.keepIn K (.ref g7)=true)
 (a8:PySem.W.nsIn K mainGlobals "_law_place" =some (some (.ref g8)))
 (l8:LK K g8 oc8 od8 (FN "_law_place" "_law_place" yj kV8 dc8 pm8 an8 cd8 ct8) sl8)
 (c8:PySem.W.codeIn K cd8 "_law_place" =true)(k8:PySem.W.keepIn K (.ref g8)=true)
 (a9:PySem.W.nsIn K mainGlobals "_law_thing" =some (some (.ref g9)))
 (l9:LK K g9 oc9 od9 (FN "_law_thing" "_law_thing" rW kV9 dc9 pm9 an9 cd9 ct9) sl9)
 (c9:PySem.W.codeIn K cd9 "_law_thing" =true)(k9:PySem.W.keepIn K (.ref g9)=true)
 (a10:PySem.W.nsIn K mainGlobals "is_place" =some (some (.ref g10)))
 (l10:LK K g10 ZnV Zl9 (FN "is_place" "is_place" yq ZfS ZfT ZfU Ze0 Zbv ZfV) Zm2)
 (c10:PySem.W.codeIn K Zbv "is_place" =true)(k10:PySem.W.keepIn K (.ref g10)=true)
 (a11:PySem.W.nsIn K mainGlobals "is_height" =some (some (.ref g11)))
 (l11:LK K g11 ZnW Zl_ (FN "is_height" "is_height" yr ZfW ZfX ZfY Ze1 Zbw ZfZ) Zm3)
 (c11:PySem.W.codeIn K Zbw "is_height" =true)(k11:PySem.W.keepIn K (.ref g11)=true)
 (a12:PySem.W.nsIn K mainGlobals "makes_post" =some (some (.ref g12)))
 (l12:LK K g12 ZnX Zma (FN "makes_post" "makes_post" yu Zf0 Zf1 Zf2 Ze2 Zbx Zf3) Zm4)
 (c12:PySem.W.codeIn K Zbx "makes_post" =true)(k12:PySem.W.keepIn K (.ref g12)=true)
 (a13:PySem.W.findIn K (.ref C9) "__init__" =some (some (.ref QK)))
 (l13:LK K QK ZnY Zmb (FN "__init__" "Thing.__init__" JB Zf4 Zf5 Zf6 Ze3 Zby Zf7) Zm5)
 (c13:PySem.W.codeIn K Zby "Thing.__init__" =true)(k13:PySem.W.keepIn K (.ref QK)=true)
 (a14:PySem.W.nsIn K mainGlobals "has_two_ends" =some (some (.ref g14)))
 (l14:LK K g14 ZnZ Zmc (FN "has_two_ends" "has_two_ends" rY Zf8 Zf9 Zf_ Ze4 Zbz Zga) Zm6)
 (c14:PySem.W.codeIn K Zbz "has_two_ends" =true)(k14:PySem.W.keepIn K (.ref g14)=true)
 (a15:PySem.W.nsIn K mainGlobals "makes_fence" =some (some (.ref g15)))
 (l15:LK K g15 Zn0 Zmd (FN "makes_fence" "makes_fence" yx Zgb Zgc Zgd Ze5 ZbA Zge) Zm7)
 (c15:PySem.W.codeIn K ZbA "makes_fence" =true)(k15:PySem.W.keepIn K (.ref g15)=true)
 (a16:PySem.W.nsIn K mainGlobals "makes_sail_or_house" =some (some (.ref g16)))
 (l16:LK K g16 Zn1 Zme (FN "makes_sail_or_house" "makes_sail_or_house" JC Zgf Zgg Zgh Ze6 ZbB Zgi) Zm8)
 (c16:PySem.W.codeIn K ZbB "makes_sail_or_house" =true)(k16:PySem.W.keepIn K (.ref g16)=true)
 (a17:PySem.W.nsIn K mainGlobals "is_cloth_corner" =some (some (.ref g17)))
 (l17:LK K g17 Zn2 Zmf (FN "is_cloth_corner" "is_cloth_corner" JD Zgj Zgk Zgl Ze7 ZbC Zgm) Zm9)
 (c17:PySem.W.codeIn K ZbC "is_cloth_corner" =true)(k17:PySem.W.keepIn K (.ref g17)=true)
 (a18:PySem.W.nsIn K mainGlobals "makes_cloth" =some (some (.ref g18)))
 (l18:LK K g18 Zn3 Zmg (FN "makes_cloth" "makes_cloth" rZ Zgn Zgo Zgp Ze8 ZbD Zgq) Zm_)
 (c18:PySem.W.codeIn K ZbD "makes_cloth" =true)(k18:PySem.W.keepIn K (.ref g18)=true)
 (a19:PySem.W.nsIn K mainGlobals "thing_of" =some (some (.ref g19)))
 (l19:LK K g19 Zn4 Zmh (FN "thing_of" "thing_of" yC Zgr Zgs Zgt Ze9 ZbE Zgu) Zna)
 (c19:PySem.W.codeIn K ZbE "thing_of" =true)(k19:PySem.W.keepIn K (.ref g19)=true)
 (a20:PySem.W.nsIn K mainGlobals "_law_no_stone" =some (some (.ref g20)))
 (l20:LK K g20 Zn5 Zmi (FN "_law_no_stone" "_law_no_stone" yD Zgv Zgw Zgx Ze_ ZbF Zgy) Znb)
 (c20:PySem.W.codeIn K ZbF "_law_no_stone" =true)(k20:PySem.W.keepIn K (.ref g20)=true)
 (a21:PySem.W.nsIn K mainGlobals "_law_no_turn" =some (some (.ref g21)))
 (l21:LK K g21 Zn6 Zmj (FN "_law_no_turn" "_law_no_turn" yE Zgz ZgA ZgB Zfa ZbG ZgC) Znc)
 (c21:PySem.W.codeIn K ZbG "_law_no_turn" =true)(k21:PySem.W.keepIn K (.ref g21)=true)
 (a22:PySem.W.nsIn K mainGlobals "has_stone" =some (some (.ref g22)))
 (l22:LK K g22 Zn7 Zmk (FN "has_stone" "has_stone" yF ZgD ZgE ZgF Zfb ZbH ZgG) Znd)
 (c22:PySem.W.codeIn K ZbH "has_stone" =true)(k22:PySem.W.keepIn K (.ref g22)=true)
 (a23:PySem.W.nsIn K mainGlobals "check_stone" =some (some (.ref g23)))
 (l23:LK K g23 Zn8 Zml (FN "check_stone" "check_stone" yG ZgH ZgI ZgJ Zfc ZbI ZgK) Zne)
 (c23:PySem.W.codeIn K ZbI "check_stone" =true)(k23:PySem.W.keepIn K (.ref g23)=true)
 (a24:PySem.W.nsIn K mainGlobals "has_day" =some (some (.ref g24)))
 (l24:LK K g24 Zn9 Zmm (FN "has_day" "has_day" yH ZgL ZgM ZgN Zfd ZbJ ZgO) Znf)
 (c24:PySem.W.codeIn K ZbJ "has_day" =true)(k24:PySem.W.keepIn K (.ref g24)=true)
 (a25:PySem.W.nsIn K mainGlobals "check_day" =some (some (.ref g25)))
 (l25:LK K g25 Zn_ Zmn (FN "check_day" "check_day" yI ZgP ZgQ ZgR Zfe ZbK ZgS) Zng)
 (c25:PySem.W.codeIn K ZbK "check_day" =true)(k25:PySem.W.keepIn K (.ref g25)=true)
 (a26:PySem.W.nsIn K mainGlobals "turns_of" =some (some (.ref g26)))
 (l26:LK K g26 Zoa Zmo (FN "turns_of" "turns_of" yJ ZgT ZgU ZgV Zff ZbL ZgW) Znh)
 (c26:PySem.W.codeIn K ZbL "turns_of" =true)(k26:PySem.W.keepIn K (.ref g26)=true)
 (a27:PySem.W.nsIn K mainGlobals "box_lines" =some (some (.ref g27)))
 (l27:LK K g27 Zob Zmp (FN "box_lines" "box_lines" pG ZgX ZgY ZgZ Zfg ZbM Zg0) Zni)
 (c27:PySem.W.codeIn K ZbM "box_lines" =true)(k27:PySem.W.keepIn K (.ref g27)=true)
 (a28:PySem.W.nsIn K mainGlobals "each_once" =some (some (.ref g28)))
 (l28:LK K g28 Zoc Zmq (FN "each_once" "each_once" yK Zg1 Zg2 Zg3 Zfh ZbN Zg4) Znj)
 (c28:PySem.W.codeIn K ZbN "each_once" =true)(k28:PySem.W.keepIn K (.ref g28)=true)
 (a29:PySem.W.nsIn K mainGlobals "line_through" =some (some (.ref g29)))
 (l29:LK K g29 Zod Zmr (FN "line_through" "line_through" yL Zg5 Zg6 Zg7 Zfi ZbO Zg8) Znk)
 (c29:PySem.W.codeIn K ZbO "line_through" =true)(k29:PySem.W.keepIn K (.ref g29)=true)
 (a30:PySem.W.nsIn K mainGlobals "holds" =some (some (.ref g30)))
 (l30:LK K g30 Zoe Zms (FN "holds" "holds" yM Zg9 Zg_ Zha Zfj ZbP Zhb) Znl)
 (c30:PySem.W.codeIn K ZbP "holds" =true)(k30:PySem.W.keepIn K (.ref g30)=true)
 (a31:PySem.W.nsIn K mainGlobals "edge_lines" =some (some (.ref g31)))
 (l31:LK K g31 Zof Zmt (FN "edge_lines" "edge_lines" su Zhc Zhd Zhe Zfk ZbQ Zhf) Znm)
 (c31:PySem.W.codeIn K ZbQ "edge_lines" =true)(k31:PySem.W.keepIn K (.ref g31)=true)
 (a32:PySem.W.nsIn K mainGlobals "lines_about" =some (some (.ref g32)))
 (l32:LK K g32 Zog Zmu (FN "lines_about" "lines_about" yN Zhg Zhh Zhi Zfl ZbR Zhj) Znn)
 (c32:PySem.W.codeIn K ZbR "lines_about" =true)(k32:PySem.W.keepIn K (.ref g32)=true)
 (a33:PySem.W.nsIn K mainGlobals "parting_line" =some (some (.ref g33)))
 (l33:LK K g33 Zoh Zmv (FN "parting_line" "parting_line" yO Zhk Zhl Zhm Zfm ZbS Zhn) Zno)
 (c33:PySem.W.codeIn K ZbS "parting_line" =true)(k33:PySem.W.keepIn K (.ref g33)=true)
 (a34:PySem.W.nsIn K mainGlobals "pairs_below" =some (some (.ref g34)))
 (l34:LK K g34 Zoi Zmw (FN "pairs_below" "pairs_below" sy Zho Zhp Zhq Zfn ZbT Zhr) Znp)
 (c34:PySem.W.codeIn K ZbT "pairs_below" =true)(k34:PySem.W.keepIn K (.ref g34)=true)
 (a35:PySem.W.nsIn K mainGlobals "triples_below" =some (some (.ref g35)))
 (l35:LK K g35 Zoj Zmx (FN "triples_below" "triples_below" Gg Zhs Zht Zhu Zfo ZbU Zhv) Znq)
 (c35:PySem.W.codeIn K ZbU "triples_below" =true)(k35:PySem.W.keepIn K (.ref g35)=true)
 (a36:PySem.W.nsIn K mainGlobals "greatest_divisor" =some (some (.ref g36)))
 (l36:LK K g36 Zok Zmy (FN "greatest_divisor" "greatest_divisor" JF Zhw Zhx Zhy Zfp ZbV Zhz) Znr)
 (c36:PySem.W.codeIn K ZbV "greatest_divisor" =true)(k36:PySem.W.keepIn K (.ref g36)=true)
 (a37:PySem.W.nsIn K mainGlobals "ratio" =some (some (.ref g37)))
 (l37:LK K g37 Zol Zmz (FN "ratio" "ratio" yP ZhA ZhB ZhC Zfq ZbW ZhD) Zns)
 (c37:PySem.W.codeIn K ZbW "ratio" =true)(k37:PySem.W.keepIn K (.ref g37)=true)
 (a38:PySem.W.nsIn K mainGlobals "spread" =some (some (.ref g38)))
 (l38:LK K g38 Zom ZmA (FN "spread" "spread" sE ZhE ZhF ZhG Zfr ZbX ZhH) Znt)
 (c38:PySem.W.codeIn K ZbX "spread" =true)(k38:PySem.W.keepIn K (.ref g38)=true)
 (a39:PySem.W.nsIn K mainGlobals "turned" =some (some (.ref g39)))
 (l39:LK K g39 Zon ZmB (FN "turned" "turned" yQ ZhI ZhJ ZhK Zfs ZbY ZhL) Znu)
 (c39:PySem.W.codeIn K ZbY "turned" =true)(k39:PySem.W.keepIn K (.ref g39)=true)
 (a40:PySem.W.nsIn K mainGlobals "shares_of_three" =some (some (.ref g40)))
 (l40:LK K g40 Zoo ZmC (FN "shares_of_three" "shares_of_three" JG ZhM ZhN ZhO Zft ZbZ ZhP) Znv)
 (c40:PySem.W.codeIn K ZbZ "shares_of_three" =true)(k40:PySem.W.keepIn K (.ref g40)=true)
 (a41:PySem.W.nsIn K mainGlobals "are_weights" =some (some (.ref g41)))
 (l41:LK K g41 Zop ZmD (FN "are_weights" "are_weights" sG ZhQ ZhR ZhS Zfu Zb0 ZhT) Znw)
 (c41:PySem.W.codeIn K Zb0 "are_weights" =true)(k41:PySem.W.keepIn K (.ref g41)=true)
 (a42:PySem.W.nsIn K mainGlobals "shares_of_two" =some (some (.ref g42)))
 (l42:LK K g42 Zoq ZmE (FN "shares_of_two" "shares_of_two" yR ZhU ZhV ZhW Zfv Zb1 ZhX) Znx)
 (c42:PySem.W.codeIn K Zb1 "shares_of_two" =true)(k42:PySem.W.keepIn K (.ref g42)=true)
 (a43:PySem.W.nsIn K mainGlobals "weights_of" =some (some (.ref g43)))
 (l43:LK K g43 Zor ZmF (FN "weights_of" "weights_of" pH ZhY ZhZ Zh0 Zfw Zb2 Zh1) Zny)
 (c43:PySem.W.codeIn K Zb2 "weights_of" =true)(k43:PySem.W.keepIn K (.ref g43)=true)
 (a44:PySem.W.nsIn K mainGlobals "held" =some (some (.ref g44)))
 (l44:LK K g44 Zos ZmG (FN "held" "held" yS Zh2 Zh3 Zh4 Zfx Zb3 Zh5) Znz)
 (c44:PySem.W.codeIn K Zb3 "held" =true)(k44:PySem.W.keepIn K (.ref g44)=true)
 (a45:PySem.W.nsIn K mainGlobals "cast" =some (some (.ref g45)))
 (l45:LK K g45 Zot ZmH (FN "cast" "cast" yU Zh6 Zh7 Zh8 Zfy Zb4 Zh9) ZnA)
 (c45:PySem.W.codeIn K Zb4 "cast" =true)(k45:PySem.W.keepIn K (.ref g45)=true)
 (a46:PySem.W.nsIn K mainGlobals "level_corners" =some (some (.ref g46)))
 (l46:LK K g46 Zou ZmI (FN "level_corners" "level_corners" yV Zh_ Zia Zib Zfz Zb5 Zic) ZnB)
 (c46:PySem.W.codeIn K Zb5 "level_corners" =true)(k46:PySem.W.keepIn K (.ref g46)=true)
 (a47:PySem.W.nsIn K mainGlobals "block_corners" =some (some (.ref g47)))
 (l47:LK K g47 Zov ZmJ (FN "block_corners" "block_corners" yW Zid Zie Zif ZfA Zb6 Zig) ZnC)
 (c47:PySem.W.codeIn K Zb6 "block_corners" =true)(k47:PySem.W.keepIn K (.ref g47)=true)
 (a48:PySem.W.findIn K (.ref C10) "corners" =some (some (.ref g48)))
 (l48:LK K g48 Zow ZmK (FN "corners" "Post.corners" yX Zih Zii Zij ZfB Zb7 Zik) ZnD)
 (c48:PySem.W.codeIn K Zb7 "Post.corners" =true)(k48:PySem.W.keepIn K (.ref g48)=true)
 (a49:PySem.W.findIn K (.ref C11) "corners" =some (some (.ref g49)))
 (l49:LK K g49 Zox ZmL (FN "corners" "Fence.corners" yZ Zil Zim Zin ZfC Zb8 Zio) ZnE)
 (c49:PySem.W.codeIn K Zb8 "Fence.corners" =true)(k49:PySem.W.keepIn K (.ref g49)=true)
 (a50:PySem.W.findIn K (.ref C12) "corners" =some (some (.ref g50)))
 (l50:LK K g50 Zoy ZmM (FN "corners" "Sail.corners" za Ziq Zir Zis ZfD Zb9 Zit) ZnF)
 (c50:PySem.W.codeIn K Zb9 "Sail.corners" =true)(k50:PySem.W.keepIn K (.ref g50)=true)
 (a51:PySem.W.findIn K (.ref C13) "corners" =some (some (.ref g51)))
 (l51:LK K g51 Zoz ZmN (FN "corners" "Cloth.corners" sI Ziu Ziv Ziw ZfE Zb_ Zix) ZnG)
 (c51:PySem.W.codeIn K Zb_ "Cloth.corners" =true)(k51:PySem.W.keepIn K (.ref g51)=true)
 (a52:PySem.W.findIn K (.ref C14) "corners" =some (some (.ref g52)))
 (l52:LK K g52 ZoA ZmO (FN "corners" "House.corners" zc Ziy Ziz ZiA ZfF Zca ZiB) ZnH)
 (c52:PySem.W.codeIn K Zca "House.corners" =true)(k52:PySem.W.keepIn K (.ref g52)=true)
 (a53:PySem.W.nsIn K mainGlobals "corner_casts" =some (some (.ref g53)))
 (l53:LK K g53 ZoB ZmP (FN "corner_casts" "corner_casts" sJ ZiC ZiD ZiE ZfG Zcb ZiF) ZnI)
 (c53:PySem.W.codeIn K Zcb "corner_casts" =true)(k53:PySem.W.keepIn K (.ref g53)=true)
 (a54:PySem.W.nsIn K mainGlobals "stone_cast" =some (some (.ref g54)))
 (l54:LK K g54 ZoC ZmQ (FN "stone_cast" "stone_cast" zf ZiG ZiH ZiI ZfH Zcc ZiJ) ZnJ)
 (c54:PySem.W.codeIn K Zcc "stone_cast" =true)(k54:PySem.W.keepIn K (.ref g54)=true)
 (a55:PySem.W.nsIn K mainGlobals "shading" =some (some (.ref g55)))
 (l55:LK K g55 ZoD ZmR (FN "shading" "shading" zj ZiK ZiL ZiM ZfI Zcd ZiN) ZnK)
 (c55:PySem.W.codeIn K Zcd "shading" =true)(k55:PySem.W.keepIn K (.ref g55)=true)
 (a56:PySem.W.nsIn K mainGlobals "shades" =some (some (.ref g56)))
 (l56:LK K g56 ZoE ZmS (FN "shades" "shades" zm ZiO ZiP ZiQ ZfJ Zce ZiR) ZnL)
 (c56:PySem.W.codeIn K Zce "shades" =true)(k56:PySem.W.keepIn K (.ref g56)=true)
 (a57:PySem.W.nsIn K mainGlobals "is_dark" =some (some (.ref g57)))
 (l57:LK K g57 ZoF ZmT (FN "is_dark" "is_dark" zp ZiS ZiT ZiU ZfK Zcf ZiV) ZnM)
 (c57:PySem.W.codeIn K Zcf "is_dark" =true)(k57:PySem.W.keepIn K (.ref g57)=true)
 (a58:PySem.W.nsIn K mainGlobals "lit_turns" =some (some (.ref g58)))
 (l58:LK K g58 ZoG ZmU (FN "lit_turns" "lit_turns" sO ZiW ZiX ZiY ZfL Zcg ZiZ) ZnN)
 (c58:PySem.W.codeIn K Zcg "lit_turns" =true)(k58:PySem.W.keepIn K (.ref g58)=true)
 (a59:PySem.W.nsIn K mainGlobals "first_lit" =some (some (.ref g59)))
 (l59:LK K g59 ZoH ZmV (FN "first_lit" "first_lit" zq Zi0 Zi1 Zi2 ZfM Zch Zi3) ZnO)
 (c59:PySem.W.codeIn K Zch "first_lit" =true)(k59:PySem.W.keepIn K (.ref g59)=true)
 (a60:PySem.W.nsIn K mainGlobals "_law_refused" =some (some (.ref g60)))
 (l60:LK K g60 ZoI ZmW (FN "_law_refused" "_law_refused" zu Zi4 Zi5 Zi6 ZfN Zci Zi7) ZnP)
 (c60:PySem.W.codeIn K Zci "_law_refused" =true)(k60:PySem.W.keepIn K (.ref g60)=true)
 (a61:PySem.W.nsIn K mainGlobals "law" =some (some (.ref g61)))
 (l61:LK K g61 ZoJ ZmX (FN "law" "law" fO Zcj Zck Zcl Zbu Ud Zcm) ZnQ)
 (c61:PySem.W.codeIn K Ud "law" =true)(k61:PySem.W.keepIn K (.ref g61)=true)
 (a62:PySem.W.findIn K (.ref C3) "__init__" =some (some (.ref g62)))
 (l62:LK K g62 ZoK ZmY (FN "__init__" "NoStone.__init__" JH Zi8 Zi9 Zi_ ZfO Zcn Zja) ZnR)
 (c62:PySem.W.codeIn K Zcn "NoStone.__init__" =true)(k62:PySem.W.keepIn K (.ref g62)=true)
 (a63:PySem.W.findIn K (.ref C4) "__init__" =some (some (.ref g63)))
 (l63:LK K g63 ZoL ZmZ (FN "__init__" "NoTurn.__init__" JK Zjb Zjc Zjd ZfP Zco Zje) ZnS)
 (c63:PySem.W.codeIn K Zco "NoTurn.__init__" =true)(k63:PySem.W.keepIn K (.ref g63)=true)
 (a64:PySem.W.findIn K (.ref C5) "__init__" =some (some (.ref g64)))
 (l64:LK K g64 ZoM Zm0 (FN "__init__" "BadRow.__init__" Tn Zjf Zjg Zjh ZfQ Zcp Zji) ZnT)
 (c64:PySem.W.codeIn K Zcp "BadRow.__init__" =true)(k64:PySem.W.keepIn K (.ref g64)=true)
 (a65:PySem.W.findIn K (.ref C7) "__init__" =some (some (.ref g65)))
 (l65:LK K g65 ZoN Zm1 (FN "__init__" "NoDay.__init__" Tp Zjj Zjk Zjl ZfR Zcq Zjm) ZnU)
 (c65:PySem.W.codeIn K Zcq "NoDay.__init__" =true)(k65:PySem.W.keepIn K (.ref g65)=true)
 (x0:PySem.W.nsIn K mainGlobals "MOST_HEIGHT" =some (some (.int (1000000000) tk0)))
 (x1:PySem.W.nsIn K mainGlobals "MOST_PLACE" =some (some (.int (1000000000) tk1)))
 (z0:PySem.W.nsIn K mainGlobals "ValueError" =some none)
 (z1:PySem.W.nsIn K mainGlobals "abs" =some none)
 (z2:PySem.W.nsIn K mainGlobals "all" =some none)
 (z3:PySem.W.nsIn K mainGlobals "bool" =some none)
 (z4:PySem.W.nsIn K mainGlobals "enumerate" =some none)
 (z5:PySem.W.nsIn K mainGlobals "int" =some none)
 (z6:PySem.W.nsIn K mainGlobals "isinstance" =some none)
 (z7:PySem.W.nsIn K mainGlobals "len" =some none)
 (z8:PySem.W.nsIn K mainGlobals "list" =some none)
 (z9:PySem.W.nsIn K mainGlobals "max" =some none)
 (z10:PySem.W.nsIn K mainGlobals "min" =some none)
 (z11:PySem.W.nsIn K mainGlobals "range" =some none)
 (z12:PySem.W.nsIn K mainGlobals "sum" =some none)
 (z13:PySem.W.nsIn K mainGlobals "tuple" =some none)
 (z14:PySem.W.nsIn K mainGlobals "zip" =some none)
 (q0:PySem.W.excIn K (aD C0 C1 C2 C3 C4 C5 C6 C7 C8 C9 C10 C11 C12 C13 C14 "YardError") wu IW=true)
 (q1:PySem.W.keepIn K (.ref (aD C0 C1 C2 C3 C4 C5 C6 C7 C8 C9 C10 C11 C12 C13 C14 "YardError"))=true)
 (q2:ŕ K (aD C0 C1 C2 C3 C4 C5 C6 C7 C8 C9 C10 C11 C12 C13 C14 "YardError")=true)
 (q3:PySem.W.excIn K (aD C0 C1 C2 C3 C4 C5 C6 C7 C8 C9 C10 C11 C12 C13 C14 "NoNumber") wu IW=true)
 (q4:PySem.W.keepIn K (.ref (aD C0 C1 C2 C3 C4 C5 C6 C7 C8 C9 C10 C11 C12 C13 C14 "NoNumber"))=true)
 (q5:ŕ K (aD C0 C1 C2 C3 C4 C5 C6 C7 C8 C9 C10 C11 C12 C13 C14 "NoNumber")=true)
 (q6:PySem.W.excIn K (aD C0 C1 C2 C3 C4 C5 C6 C7 C8 C9 C10 C11 C12 C13 C14 "BadThing") wu IW=true)
 (q7:PySem.W.keepIn K (.ref (aD C0 C1 C2 C3 C4 C5 C6 C7 C8 C9 C10 C11 C12 C13 C14 "BadThing"))=true)
 (q8:ŕ K (aD C0 C1 C2 C3 C4 C5 C6 C7 C8 C9 C10 C11 C12 C13 C14 "BadThing")=true)
 (q9:rE K (aD C0 C1 C2 C3 C4 C5 C6 C7 C8 C9 C10 C11 C12 C13 C14 "NoStone") g62=true)
 (q10:ŕ K (aD C0 C1 C2 C3 C4 C5 C6 C7 C8 C9 C10 C11 C12 C13 C14 "NoStone")=true)
 (q11:PySem.W.findIn K (.ref (aD C0 C1 C2 C3 C4 C5 C6 C7 C8 C9 C10 C11 C12 C13 C14 "NoStone")) "stone" =some none)
 (q12:rE K (aD C0 C1 C2 C3 C4 C5 C6 C7 C8 C9 C10 C11 C12 C13 C14 "NoTurn") g63=true)
 (q13:ŕ K (aD C0 C1 C2 C3 C4 C5 C6 C7 C8 C9 C10 C11 C12 C13 C14 "NoTurn")=true)
 (q14:PySem.W.findIn K (.ref (aD C0 C1 C2 C3 C4 C5 C6 C7 C8 C9 C10 C11 C12 C13 C14 "NoTurn")) "day" =some none)
 (q15:PySem.W.findIn K (.ref (aD C0 C1 C2 C3 C4 C5 C6 C7 C8 C9 C10 C11 C12 C13 C14 "NoTurn")) "turn" =some none)
 (q16:rE K (aD C0 C1 C2 C3 C4 C5 C6 C7 C8 C9 C10 C11 C12 C13 C14 "BadRow") g64=true)
 (q17:ŕ K (aD C0 C1 C2 C3 C4 C5 C6 C7 C8 C9 C10 C11 C12 C13 C14 "BadRow")=true)
 (q18:PySem.W.findIn K (.ref (aD C0 C1 C2 C3 C4 C5 C6 C7 C8 C9 C10 C11 C12 C13 C14 "BadRow")) "row" =some none)
 (q19:PySem.W.excIn K (aD C0 C1 C2 C3 C4 C5 C6 C7 C8 C9 C10 C11 C12 C13 C14 "NoRow") wu IW=true)
 (q20:PySem.W.keepIn K (.ref (aD C0 C1 C2 C3 C4 C5 C6 C7 C8 C9 C10 C11 C12 C13 C14 "NoRow"))=true)
 (q21:ŕ K (aD C0 C1 C2 C3 C4 C5 C6 C7 C8 C9 C10 C11 C12 C13 C14 "NoRow")=true)
 (q22:rE K (aD C0 C1 C2 C3 C4 C5 C6 C7 C8 C9 C10 C11 C12 C13 C14 "NoDay") g65=true)
 (q23:ŕ K (aD C0 C1 C2 C3 C4 C5 C6 C7 C8 C9 C10 C11 C12 C13 C14 "NoDay")=true)
 (q24:PySem.W.findIn K (.ref (aD C0 C1 C2 C3 C4 C5 C6 C7 C8 C9 C10 C11 C12 C13 C14 "NoDay")) "name" =some none)
 (q25:uM K (aD C0 C1 C2 C3 C4 C5 C6 C7 C8 C9 C10 C11 C12 C13 C14 "Yard")=true)
 (q26:Tc K (aD C0 C1 C2 C3 C4 C5 C6 C7 C8 C9 C10 C11 C12 C13 C14 "Yard") g5=true)
 (q27:PySem.W.findIn K (.ref (aD C0 C1 C2 C3 C4 C5 C6 C7 C8 C9 C10 C11 C12 C13 C14 "Yard")) "width" =some none)
 (q28:PySem.W.findIn K (.ref (aD C0 C1 C2 C3 C4 C5 C6 C7 C8 C9 C10 C11 C12 C13 C14 "Yard")) "height" =some none)
 (q29:PySem.W.findIn K (.ref (aD C0 C1 C2 C3 C4 C5 C6 C7 C8 C9 C10 C11 C12 C13 C14 "Yard")) "things" =some none)
 (q30:PySem.W.findIn K (.ref (aD C0 C1 C2 C3 C4 C5 C6 C7 C8 C9 C10 C11 C12 C13 C14 "Yard")) "days" =some none)
 (q31:uM K (aD C0 C1 C2 C3 C4 C5 C6 C7 C8 C9 C10 C11 C12 C13 C14 "Thing")=true)
 (q32:Tc K (aD C0 C1 C2 C3 C4 C5 C6 C7 C8 C9 C10 C11 C12 C13 C14 "Thing") QK=true)
 (q33:PySem.W.findIn K (.ref (aD C0 C1 C2 C3 C4 C5 C6 C7 C8 C9 C10 C11 C12 C13 C14 "Thing")) "word" =some none)
 (q34:PySem.W.findIn K (.ref (aD C0 C1 C2 C3 C4 C5 C6 C7 C8 C9 C10 C11 C12 C13 C14 "Thing")) "numbers" =some none)
 (q35:uM K (aD C0 C1 C2 C3 C4 C5 C6 C7 C8 C9 C10 C11 C12 C13 C14 "Post")=true)
 (q36:Tc K (aD C0 C1 C2 C3 C4 C5 C6 C7 C8 C9 C10 C11 C12 C13 C14 "Post") QK=true)
 (q37:PySem.W.findIn K (.ref (aD C0 C1 C2 C3 C4 C5 C6 C7 C8 C9 C10 C11 C12 C13 C14 "Post")) "word" =some none)
 (q38:PySem.W.findIn K (.ref (aD C0 C1 C2 C3 C4 C5 C6 C7 C8 C9 C10 C11 C12 C13 C14 "Post")) "numbers" =some none)
 (q39:oZ K (aD C0 C1 C2 C3 C4 C5 C6 C7 C8 C9 C10 C11 C12 C13 C14 "Post") "corners" g48=true)
 (q40:uM K (aD C0 C1 C2 C3 C4 C5 C6 C7 C8 C9 C10 C11 C12 C13 C14 "Fence")=true)
 (q41:Tc K (aD C0 C1 C2 C3 C4 C5 C6 C7 C8 C9 C10 C11 C12 C13 C14 "Fence") QK=true)
 (q42:PySem.W.findIn K (.ref (aD C0 C1 C2 C3 C4 C5 C6 C7 C8 C9 C10 C11 C12 C13 C14 "Fence")) "word" =some none)
 (q43:PySem.W.findIn K (.ref (aD C0 C1 C2 C3 C4 C5 C6 C7 C8 C9 C10 C11 C12 C13 C14 "Fence")) "numbers" =some none)
 (q44:oZ K (aD C0 C1 C2 C3 C4 C5 C6 C7 C8 C9 C10 C11 C12 C13 C14 "Fence") "corners" g49=true)
 (q45:uM K (aD C0 C1 C2 C3 C4 C5 C6 C7 C8 C9 C10 C11 C12 C13 C14 "Sail")=true)
 (q46:Tc K (aD C0 C1 C2 C3 C4 C5 C6 C7 C8 C9 C10 C11 C12 C13 C14 "Sail") QK=true)
 (q47:PySem.W.findIn K (.ref (aD C0 C1 C2 C3 C4 C5 C6 C7 C8 C9 C10 C11 C12 C13 C14 "Sail")) "word" =some none)
 (q48:PySem.W.findIn K (.ref (aD C0 C1 C2 C3 C4 C5 C6 C7 C8 C9 C10 C11 C12 C13 C14 "Sail")) "numbers" =some none)
 (q49:oZ K (aD C0 C1 C2 C3 C4 C5 C6 C7 C8 C9 C10 C11 C12 C13 C14 "Sail") "corners" g50=true)
 (q50:uM K (aD C0 C1 C2 C3 C4 C5 C6 C7 C8 C9 C10 C11 C12 C13 C14 "Cloth")=true)
 (q51:Tc K (aD C0 C1 C2 C3 C4 C5 C6 C7 C8 C9 C10 C11 C12 C13 C14 "Cloth") QK=true)
 (q52:PySem.W.findIn K (.ref (aD C0 C1 C2 C3 C4 C5 C6 C7 C8 C9 C10 C11 C12 C13 C14 "Cloth")) "word" =some none)
 (q53:PySem.W.findIn K (.ref (aD C0 C1 C2 C3 C4 C5 C6 C7 C8 C9 C10 C11 C12 C13 C14 "Cloth")) "numbers" =some none)
 (q54:oZ K (aD C0 C1 C2 C3 C4 C5 C6 C7 C8 C9 C10 C11 C12 C13 C14 "Cloth") "corners" g51=true)
 (q55:uM K (aD C0 C1 C2 C3 C4 C5 C6 C7 C8 C9 C10 C11 C12 C13 C14 "House")=true)
 (q56:Tc K (aD C0 C1 C2 C3 C4 C5 C6 C7 C8 C9 C10 C11 C12 C13 C14 "House") QK=true)
 (q57:PySem.W.findIn K (.ref (aD C0 C1 C2 C3 C4 C5 C6 C7 C8 C9 C10 C11 C12 C13 C14 "House")) "word" =some none)
 (q58:PySem.W.findIn K (.ref (aD C0 C1 C2 C3 C4 C5 C6 C7 C8 C9 C10 C11 C12 C13 C14 "House")) "numbers" =some none)
 (q59:oZ K (aD C0 C1 C2 C3 C4 C5 C6 C7 C8 C9 C10 C11 C12 C13 C14 "House") "corners" g52=true)
 (q60:PySem.W.mroIn K (aD C0 C1 C2 C3 C4 C5 C6 C7 C8 C9 C10 C11 C12 C13 C14 "YardError") (.type "BaseException")=some true)
 (q61:Jh K (aD C0 C1 C2 C3 C4 C5 C6 C7 C8 C9 C10 C11 C12 C13 C14) ["YardError","NoNumber","BadThing","NoStone","NoTurn","BadRow","NoRow","NoDay"] "YardError" true=true)
 (q62:Jh K (aD C0 C1 C2 C3 C4 C5 C6 C7 C8 C9 C10 C11 C12 C13 C14) [] "YardError" false=true)
 (q63:isC K (aD C0 C1 C2 C3 C4 C5 C6 C7 C8 C9 C10 C11 C12 C13 C14) Z5=true)
 (q64:isT K (aD C0 C1 C2 C3 C4 C5 C6 C7 C8 C9 C10 C11 C12 C13 C14) Z7=true)
 (q65:isD K (aD C0 C1 C2 C3 C4 C5 C6 C7 C8 C9 C10 C11 C12 C13 C14) Zb=true)
 (q66:SQ K Zc=true)
 :∃fd:FuncData,(∀(s:Shared) (v:Value),BindsTo s fd ⟨[v],[]⟩ [("_law_script",v)])∧∀base:Heap,K.In base→base.Ns mainGlobals mg→∃cm,į l.prog w K mg base (Ů l.prog w) 11 fa fd ["_law_script"] (ž ⟨K,cm⟩ 1 qb):=by
 have e:=hfa.symm.trans (PySem.W.mg_of X G a61)
 cases e
 have F0:=Ģ (st:=xW) l0 c0 k0
 have b0:=F0.binds (ps:=["_law_cell","_law_most"]) fun _ _ _ _ _ _ us hl=>match us,hl with| [_,_],_=>rfl
 have F1:=Ģ (st:=xX) l1 c1 k1
 have b1:=F1.binds (ps:=["_law_script","_law_k"]) fun _ _ _ _ _ _ us hl=>match us,hl with| [_,_],_=>rfl
 have F2:=Ģ (st:=xY) l2 c2 k2
 have b2:=F2.binds (ps:=["_law_cell","_law_many"]) fun _ _ _ _ _ _ us hl=>match us,hl with| [_,_],_=>rfl
 have F3:=Ģ (st:=xZ) l3 c3 k3
 have b3:=F3.binds (ps:=["_law_xs"]) fun _ _ _ _ _ _ us hl=>match us,hl with| [_],_=>rfl
 have F4:=Ģ (st:=rQ) l4 c4 k4
 have b4:=F4.binds (ps:=["_law_script","_law_start","_law_many","_law_long"]) fun _ _ _ _ _ _ us hl=>match us,hl with| [_,_,_,_],_=>rfl
 have F5:=Ģ (st:=rT) l5 c5 k5
 have b5:=F5.binds (ps:=["self","width","height","things","days"]) fun _ _ _ _ _ _ us hl=>match us,hl with| [_,_,_,_,_],_=>rfl
 have F6:=Ģ (st:=yc) l6 c6 k6
 have b6:=F6.binds (ps:=["_law_size_here","_law_cell"]) fun _ _ _ _ _ _ us hl=>match us,hl with| [_,_],_=>rfl
 have F7:=Ģ (st:=yg) l7 c7 k7
 have b7:=F7.binds (ps:=["_law_number"]) fun _ _ _ _ _ _ us hl=>match us,hl with| [_],_=>rfl
 have F8:=Ģ (st:=yj) l8 c8 k8
 have b8:=F8.binds (ps:=["_law_number","_law_wide"]) fun _ _ _ _ _ _ us hl=>match us,hl with| [_,_],_=>rfl
 have F9:=Ģ (st:=rW) l9 c9 k9
 have b9:=F9.binds (ps:=["_law_cell","_law_wide"]) fun _ _ _ _ _ _ us hl=>match us,hl with| [_,_],_=>rfl
 have F10:=Ģ (st:=yq) l10 c10 k10
 have b10:=F10.binds (ps:=["number"]) fun _ _ _ _ _ _ us hl=>match us,hl with| [_],_=>rfl
 have F11:=Ģ (st:=yr) l11 c11 k11
 have b11:=F11.binds (ps:=["number"]) fun _ _ _ _ _ _ us hl=>match us,hl with| [_],_=>rfl
 have F12:=Ģ (st:=yu) l12 c12 k12
 have b12:=F12.binds (ps:=["numbers"]) fun _ _ _ _ _ _ us hl=>match us,hl with| [_],_=>rfl
 have F13:=Ģ (st:=JB) l13 c13 k13
 have b13:=F13.binds (ps:=["self","word","numbers"]) fun _ _ _ _ _ _ us hl=>match us,hl with| [_,_,_],_=>rfl
 have F14:=Ģ (st:=rY) l14 c14 k14
 have b14:=F14.binds (ps:=["numbers"]) fun _ _ _ _ _ _ us hl=>match us,hl with| [_],_=>rfl
 have F15:=Ģ (st:=yx) l15 c15 k15
 have b15:=F15.binds (ps:=["numbers"]) fun _ _ _ _ _ _ us hl=>match us,hl with| [_],_=>rfl
 have F16:=Ģ (st:=JC) l16 c16 k16
 have b16:=F16.binds (ps:=["numbers"]) fun _ _ _ _ _ _ us hl=>match us,hl with| [_],_=>rfl
 have F17:=Ģ (st:=JD) l17 c17 k17
 have b17:=F17.binds (ps:=["numbers"]) fun _ _ _ _ _ _ us hl=>match us,hl with| [_],_=>rfl
 have F18:=Ģ (st:=rZ) l18 c18 k18
 have b18:=F18.binds (ps:=["numbers"]) fun _ _ _ _ _ _ us hl=>match us,hl with| [_],_=>rfl
 have F19:=Ģ (st:=yC) l19 c19 k19
 have b19:=F19.binds (ps:=["word","numbers"]) fun _ _ _ _ _ _ us hl=>match us,hl with| [_,_],_=>rfl
 have F20:=Ģ (st:=yD) l20 c20 k20
 have b20:=F20.binds (ps:=["_law_caught","_law_stone"]) fun _ _ _ _ _ _ us hl=>match us,hl with| [_,_],_=>rfl
 have F21:=Ģ (st:=yE) l21 c21 k21
 have b21:=F21.binds (ps:=["_law_caught","_law_day"]) fun _ _ _ _ _ _ us hl=>match us,hl with| [_,_],_=>rfl
 have F22:=Ģ (st:=yF) l22 c22 k22
 have b22:=F22.binds (ps:=["yard","stone"]) fun _ _ _ _ _ _ us hl=>match us,hl with| [_,_],_=>rfl
 have F23:=Ģ (st:=yG) l23 c23 k23
 have b23:=F23.binds (ps:=["yard","stone"]) fun _ _ _ _ _ _ us hl=>match us,hl with| [_,_],_=>rfl
 have F24:=Ģ (st:=yH) l24 c24 k24
 have b24:=F24.binds (ps:=["yard","day"]) fun _ _ _ _ _ _ us hl=>match us,hl with| [_,_],_=>rfl
 have F25:=Ģ (st:=yI) l25 c25 k25
 have b25:=F25.binds (ps:=["yard","day"]) fun _ _ _ _ _ _ us hl=>match us,hl with| [_,_],_=>rfl
 have F26:=Ģ (st:=yJ) l26 c26 k26
 have b26:=F26.binds (ps:=["yard","day"]) fun _ _ _ _ _ _ us hl=>match us,hl with| [_,_],_=>rfl
 have F27:=Ģ (st:=pG) l27 c27 k27
 have b27:=F27.binds (ps:=["points"]) fun _ _ _ _ _ _ us hl=>match us,hl with| [_],_=>rfl
 have F28:=Ģ (st:=yK) l28 c28 k28
 have b28:=F28.binds (ps:=["points"]) fun _ _ _ _ _ _ us hl=>match us,hl with| [_],_=>rfl
 have F29:=Ģ (st:=yL) l29 c29 k29
 have b29:=F29.binds (ps:=["one","other"]) fun _ _ _ _ _ _ us hl=>match us,hl with| [_,_],_=>rfl
 have F30:=Ģ (st:=yM) l30 c30 k30
 have b30:=F30.binds (ps:=["line","pair"]) fun _ _ _ _ _ _ us hl=>match us,hl with| [_,_],_=>rfl
 have F31:=Ģ (st:=su) l31 c31 k31
 have b31:=F31.binds (ps:=["points"]) fun _ _ _ _ _ _ us hl=>match us,hl with| [_],_=>rfl
 have F32:=Ģ (st:=yN) l32 c32 k32
 have b32:=F32.binds (ps:=["points"]) fun _ _ _ _ _ _ us hl=>match us,hl with| [_],_=>rfl
 have F33:=Ģ (st:=yO) l33 c33 k33
 have b33:=F33.binds (ps:=["points","point"]) fun _ _ _ _ _ _ us hl=>match us,hl with| [_,_],_=>rfl
 have F34:=Ģ (st:=sy) l34 c34 k34
 have b34:=F34.binds (ps:=["many"]) fun _ _ _ _ _ _ us hl=>match us,hl with| [_],_=>rfl
 have F35:=Ģ (st:=Gg) l35 c35 k35
 have b35:=F35.binds (ps:=["many"]) fun _ _ _ _ _ _ us hl=>match us,hl with| [_],_=>rfl
 have F36:=Ģ (st:=JF) l36 c36 k36
 have b36:=F36.binds (ps:=["one","other"]) fun _ _ _ _ _ _ us hl=>match us,hl with| [_,_],_=>rfl
 have F37:=Ģ (st:=yP) l37 c37 k37
 have b37:=F37.binds (ps:=["top","bottom"]) fun _ _ _ _ _ _ us hl=>match us,hl with| [_,_],_=>rfl
 have F38:=Ģ (st:=sE) l38 c38 k38
 have b38:=F38.binds (ps:=["shares","places","many"]) fun _ _ _ _ _ _ us hl=>match us,hl with| [_,_,_],_=>rfl
 have F39:=Ģ (st:=yQ) l39 c39 k39
 have b39:=F39.binds (ps:=["one","other","third"]) fun _ _ _ _ _ _ us hl=>match us,hl with| [_,_,_],_=>rfl
 have F40:=Ģ (st:=JG) l40 c40 k40
 have b40:=F40.binds (ps:=["corners","point"]) fun _ _ _ _ _ _ us hl=>match us,hl with| [_,_],_=>rfl
 have F41:=Ģ (st:=sG) l41 c41 k41
 have b41:=F41.binds (ps:=["shares"]) fun _ _ _ _ _ _ us hl=>match us,hl with| [_],_=>rfl
 have F42:=Ģ (st:=yR) l42 c42 k42
 have b42:=F42.binds (ps:=["ends","point"]) fun _ _ _ _ _ _ us hl=>match us,hl with| [_,_],_=>rfl
 have F43:=Ģ (st:=pH) l43 c43 k43
 have b43:=F43.binds (ps:=["points","point"]) fun _ _ _ _ _ _ us hl=>match us,hl with| [_,_],_=>rfl
 have F44:=Ģ (st:=yS) l44 c44 k44
 have b44:=F44.binds (ps:=["points","point"]) fun _ _ _ _ _ _ us hl=>match us,hl with| [_,_],_=>rfl
 have F45:=Ģ (st:=yU) l45 c45 k45
 have b45:=F45.binds (ps:=["point","ray"]) fun _ _ _ _ _ _ us hl=>match us,hl with| [_,_],_=>rfl
 have F46:=Ģ (st:=yV) l46 c46 k46
 have b46:=F46.binds (ps:=["x","y","u","v","z"]) fun _ _ _ _ _ _ us hl=>match us,hl with| [_,_,_,_,_],_=>rfl
 have F47:=Ģ (st:=yW) l47 c47 k47
 have b47:=F47.binds (ps:=["x","y","u","v","h"]) fun _ _ _ _ _ _ us hl=>match us,hl with| [_,_,_,_,_],_=>rfl
 have F48:=Ģ (st:=yX) l48 c48 k48
 have b48:=F48.binds (ps:=["self"]) fun _ _ _ _ _ _ us hl=>match us,hl with| [_],_=>rfl
 have F49:=Ģ (st:=yZ) l49 c49 k49
 have b49:=F49.binds (ps:=["self"]) fun _ _ _ _ _ _ us hl=>match us,hl with| [_],_=>rfl
 have F50:=Ģ (st:=za) l50 c50 k50
 have b50:=F50.binds (ps:=["self"]) fun _ _ _ _ _ _ us hl=>match us,hl with| [_],_=>rfl
 have F51:=Ģ (st:=sI) l51 c51 k51
 have b51:=F51.binds (ps:=["self"]) fun _ _ _ _ _ _ us hl=>match us,hl with| [_],_=>rfl
 have F52:=Ģ (st:=zc) l52 c52 k52
 have b52:=F52.binds (ps:=["self"]) fun _ _ _ _ _ _ us hl=>match us,hl with| [_],_=>rfl
 have F53:=Ģ (st:=sJ) l53 c53 k53
 have b53:=F53.binds (ps:=["thing","ray"]) fun _ _ _ _ _ _ us hl=>match us,hl with| [_,_],_=>rfl
 have F54:=Ģ (st:=zf) l54 c54 k54
 have b54:=F54.binds (ps:=["stone","ray"]) fun _ _ _ _ _ _ us hl=>match us,hl with| [_,_],_=>rfl
 have F55:=Ģ (st:=zj) l55 c55 k55
 have b55:=F55.binds (ps:=["thing","stone","ray"]) fun _ _ _ _ _ _ us hl=>match us,hl with| [_,_,_],_=>rfl
 have F56:=Ģ (st:=zm) l56 c56 k56
 have b56:=F56.binds (ps:=["thing","stone","ray"]) fun _ _ _ _ _ _ us hl=>match us,hl with| [_,_,_],_=>rfl
 have F57:=Ģ (st:=zp) l57 c57 k57
 have b57:=F57.binds (ps:=["yard","turn","stone"]) fun _ _ _ _ _ _ us hl=>match us,hl with| [_,_,_],_=>rfl
 have F58:=Ģ (st:=sO) l58 c58 k58
 have b58:=F58.binds (ps:=["yard","day","stone"]) fun _ _ _ _ _ _ us hl=>match us,hl with| [_,_,_],_=>rfl
 have F59:=Ģ (st:=zq) l59 c59 k59
 have b59:=F59.binds (ps:=["yard","stone"]) fun _ _ _ _ _ _ us hl=>match us,hl with| [_,_],_=>rfl
 have F60:=Ģ (st:=zu) l60 c60 k60
 have b60:=F60.binds (ps:=["_law_yard","_law_of_day","_law_day","_law_stone"]) fun _ _ _ _ _ _ us hl=>match us,hl with| [_,_,_,_],_=>rfl
 have F61:=Ģ (st:=fO) l61 c61 k61
 have b61:=F61.binds (ps:=["_law_script"]) fun _ _ _ _ _ _ us hl=>match us,hl with| [_],_=>rfl
 have F62:=Ģ (st:=JH) l62 c62 k62
 have b62:=F62.binds (ps:=["self","stone"]) fun _ _ _ _ _ _ us hl=>match us,hl with| [_,_],_=>rfl
 have F63:=Ģ (st:=JK) l63 c63 k63
 have b63:=F63.binds (ps:=["self","day","turn"]) fun _ _ _ _ _ _ us hl=>match us,hl with| [_,_,_],_=>rfl
 have F64:=Ģ (st:=Tn) l64 c64 k64
 have b64:=F64.binds (ps:=["self","row"]) fun _ _ _ _ _ _ us hl=>match us,hl with| [_,_],_=>rfl
 have F65:=Ģ (st:=Tp) l65 c65 k65
 have b65:=F65.binds (ps:=["self","name"]) fun _ _ _ _ _ _ us hl=>match us,hl with| [_,_],_=>rfl
 have T:Tx K mg ⟨g0,FN "_law_size" "_law_size" xW kV0 dc0 pm0 an0 cd0 ct0,g1,FN "_law_at" "_law_at" xX kV1 dc1 pm1 an1 cd1 ct1,g2,FN "_law_grains" "_law_grains" xY kV2 dc2 pm2 an2 cd2 ct2,g3,FN "_law_sky" "_law_sky" xZ kV3 dc3 pm3 an3 cd3 ct3,g4,FN "_law_days" "_law_days" rQ kV4 dc4 pm4 an4 cd4 ct4,g5,FN "__init__" "Yard.__init__" rT kV5 dc5 pm5 an5 cd5 ct5,g6,FN "_law_beside" "_law_beside" yc kV6 dc6 pm6 an6 cd6 ct6,g7,FN "_law_height" "_law_height" yg kV7 dc7 pm7 an7 cd7 ct7,g8,FN "_law_place" "_law_place" yj kV8 dc8 pm8 an8 cd8 ct8,g9,FN "_law_thing" "_law_thing" rW kV9 dc9 pm9 an9 cd9 ct9,g10,FN "is_place" "is_place" yq ZfS ZfT ZfU Ze0 Zbv ZfV,g11,FN "is_height" "is_height" yr ZfW ZfX ZfY Ze1 Zbw ZfZ,g12,FN "makes_post" "makes_post" yu Zf0 Zf1 Zf2 Ze2 Zbx Zf3,QK,FN "__init__" "Thing.__init__" JB Zf4 Zf5 Zf6 Ze3 Zby Zf7,g14,FN "has_two_ends" "has_two_ends" rY Zf8 Zf9 Zf_ Ze4 Zbz Zga,g15,FN "makes_fence" "makes_fence" yx Zgb Zgc Zgd Ze5 ZbA Zge,g16,FN "makes_sail_or_house" "makes_sail_or_house" JC Zgf Zgg Zgh Ze6 ZbB Zgi,g17,FN "is_cloth_corner" "is_cloth_corner" JD Zgj Zgk Zgl Ze7 ZbC Zgm,g18,FN "makes_cloth" "makes_cloth" rZ Zgn Zgo Zgp Ze8 ZbD Zgq,g19,FN "thing_of" "thing_of" yC Zgr Zgs Zgt Ze9 ZbE Zgu,g20,FN "_law_no_stone" "_law_no_stone" yD Zgv Zgw Zgx Ze_ ZbF Zgy,g21,FN "_law_no_turn" "_law_no_turn" yE Zgz ZgA ZgB Zfa ZbG ZgC,g22,FN "has_stone" "has_stone" yF ZgD ZgE ZgF Zfb ZbH ZgG,g23,FN "check_stone" "check_stone" yG ZgH ZgI ZgJ Zfc ZbI ZgK,g24,FN "has_day" "has_day" yH ZgL ZgM ZgN Zfd ZbJ ZgO,g25,FN "check_day" "check_day" yI ZgP ZgQ ZgR Zfe ZbK ZgS,g26,FN "turns_of" "turns_of" yJ ZgT ZgU ZgV Zff ZbL ZgW,g27,FN "box_lines" "box_lines" pG ZgX ZgY ZgZ Zfg ZbM Zg0,g28,FN "each_once" "each_once" yK Zg1 Zg2 Zg3 Zfh ZbN Zg4,g29,FN "line_through" "line_through" yL Zg5 Zg6 Zg7 Zfi ZbO Zg8,g30,FN "holds" "holds" yM Zg9 Zg_ Zha Zfj ZbP Zhb,g31,FN "edge_lines" "edge_lines" su Zhc Zhd Zhe Zfk ZbQ Zhf,g32,FN "lines_about" "lines_about" yN Zhg Zhh Zhi Zfl ZbR Zhj,g33,FN "parting_line" "parting_line" yO Zhk Zhl Zhm Zfm ZbS Zhn,g34,FN "pairs_below" "pairs_below" sy Zho Zhp Zhq Zfn ZbT Zhr,g35,FN "triples_below" "triples_below" Gg Zhs Zht Zhu Zfo ZbU Zhv,g36,FN "greatest_divisor" "greatest_divisor" JF Zhw Zhx Zhy Zfp ZbV Zhz,g37,FN "ratio" "ratio" yP ZhA ZhB ZhC Zfq ZbW ZhD,g38,FN "spread" "spread" sE ZhE ZhF ZhG Zfr ZbX ZhH,g39,FN "turned" "turned" yQ ZhI ZhJ ZhK Zfs ZbY ZhL,g40,FN "shares_of_three" "shares_of_three" JG ZhM ZhN ZhO Zft ZbZ ZhP,g41,FN "are_weights" "are_weights" sG ZhQ ZhR ZhS Zfu Zb0 ZhT,g42,FN "shares_of_two" "shares_of_two" yR ZhU ZhV ZhW Zfv Zb1 ZhX,g43,FN "weights_of" "weights_of" pH ZhY ZhZ Zh0 Zfw Zb2 Zh1,g44,FN "held" "held" yS Zh2 Zh3 Zh4 Zfx Zb3 Zh5,g45,FN "cast" "cast" yU Zh6 Zh7 Zh8 Zfy Zb4 Zh9,g46,FN "level_corners" "level_corners" yV Zh_ Zia Zib Zfz Zb5 Zic,g47,FN "block_corners" "block_corners" yW Zid Zie Zif ZfA Zb6 Zig,g48,FN "corners" "Post.corners" yX Zih Zii Zij ZfB Zb7 Zik,g49,FN "corners" "Fence.corners" yZ Zil Zim Zin ZfC Zb8 Zio,g50,FN "corners" "Sail.corners" za Ziq Zir Zis ZfD Zb9 Zit,g51,FN "corners" "Cloth.corners" sI Ziu Ziv Ziw ZfE Zb_ Zix,g52,FN "corners" "House.corners" zc Ziy Ziz ZiA ZfF Zca ZiB,g53,FN "corner_casts" "corner_casts" sJ ZiC ZiD ZiE ZfG Zcb ZiF,g54,FN "stone_cast" "stone_cast" zf ZiG ZiH ZiI ZfH Zcc ZiJ,g55,FN "shading" "shading" zj ZiK ZiL ZiM ZfI Zcd ZiN,g56,FN "shades" "shades" zm ZiO ZiP ZiQ ZfJ Zce ZiR,g57,FN "is_dark" "is_dark" zp ZiS ZiT ZiU ZfK Zcf ZiV,g58,FN "lit_turns" "lit_turns" sO ZiW ZiX ZiY ZfL Zcg ZiZ,g59,FN "first_lit" "first_lit" zq Zi0 Zi1 Zi2 ZfM Zch Zi3,g60,FN "_law_refused" "_law_refused" zu Zi4 Zi5 Zi6 ZfN Zci Zi7,fa,FN "law" "law" fO Zcj Zck Zcl Zbu Ud Zcm,g62,FN "__init__" "NoStone.__init__" JH Zi8 Zi9 Zi_ ZfO Zcn Zja,g63,FN "__init__" "NoTurn.__init__" JK Zjb Zjc Zjd ZfP Zco Zje,g64,FN "__init__" "BadRow.__init__" Tn Zjf Zjg Zjh ZfQ Zcp Zji,g65,FN "__init__" "NoDay.__init__" Tp Zjj Zjk Zjl ZfR Zcq Zjm,C0,C1,C2,C3,C4,C5,C6,C7,C8,C9,C10,C11,C12,C13,C14,tk0,tk1⟩:=⟨F0,PySem.W.mg_of X G a0,b0,F1,PySem.W.mg_of X G a1,b1,F2,PySem.W.mg_of X G a2,b2,F3,PySem.W.mg_of X G a3,b3,F4,PySem.W.mg_of X G a4,b4,F5,b5,F6,PySem.W.mg_of X G a6,b6,F7,PySem.W.mg_of X G a7,b7,F8,PySem.W.mg_of X G a8,b8,F9,PySem.W.mg_of X G a9,b9,F10,PySem.W.mg_of X G a10,b10,F11,PySem.W.mg_of X G a11,b11,F12,PySem.W.mg_of X G a12,b12,F13,b13,F14,PySem.W.mg_of X G a14,b14,F15,PySem.W.mg_of X G a15,b15,F16,PySem.W.mg_of X G a16,b16,F17,PySem.W.mg_of X G a17,b17,F18,PySem.W.mg_of X G a18,b18,F19,PySem.W.mg_of X G a19,b19,F20,PySem.W.mg_of X G a20,b20,F21,PySem.W.mg_of X G a21,b21,F22,PySem.W.mg_of X G a22,b22,F23,PySem.W.mg_of X G a23,b23,F24,PySem.W.mg_of X G a24,b24,F25,PySem.W.mg_of X G a25,b25,F26,PySem.W.mg_of X G a26,b26,F27,PySem.W.mg_of X G a27,b27,F28,PySem.W.mg_of X G a28,b28,F29,PySem.W.mg_of X G a29,b29,F30,PySem.W.mg_of X G a30,b30,F31,PySem.W.mg_of X G a31,b31,F32,PySem.W.mg_of X G a32,b32,F33,PySem.W.mg_of X G a33,b33,F34,PySem.W.mg_of X G a34,b34,F35,PySem.W.mg_of X G a35,b35,F36,PySem.W.mg_of X G a36,b36,F37,PySem.W.mg_of X G a37,b37,F38,PySem.W.mg_of X G a38,b38,F39,PySem.W.mg_of X G a39,b39,F40,PySem.W.mg_of X G a40,b40,F41,PySem.W.mg_of X G a41,b41,F42,PySem.W.mg_of X G a42,b42,F43,PySem.W.mg_of X G a43,b43,F44,PySem.W.mg_of X G a44,b44,F45,PySem.W.mg_of X G a45,b45,F46,PySem.W.mg_of X G a46,b46,F47,PySem.W.mg_of X G a47,b47,F48,b48,F49,b49,F50,b50,F51,b51,F52,b52,F53,PySem.W.mg_of X G a53,b53,F54,PySem.W.mg_of X G a54,b54,F55,PySem.W.mg_of X G a55,b55,F56,PySem.W.mg_of X G a56,b56,F57,PySem.W.mg_of X G a57,b57,F58,PySem.W.mg_of X G a58,b58,F59,PySem.W.mg_of X G a59,b59,F60,PySem.W.mg_of X G a60,b60,F61,PySem.W.mg_of X G a61,b61,F62,b62,F63,b63,F64,b64,F65,b65,PySem.W.mg_of X G u0,PySem.W.mg_of X G u1,PySem.W.mg_of X G u2,PySem.W.mg_of X G u3,PySem.W.mg_of X G u4,PySem.W.mg_of X G u5,PySem.W.mg_of X G u6,PySem.W.mg_of X G u7,PySem.W.mg_of X G u8,PySem.W.mg_of X G u9,PySem.W.mg_of X G u10,PySem.W.mg_of X G u11,PySem.W.mg_of X G u12,PySem.W.mg_of X G u13,PySem.W.mg_of X G u14,q0,q1,q2,q3,q4,q5,q6,q7,q8,uL q9,q10,q11,uL q12,q13,q14,q15,uL q16,q17,q18,q19,q20,q21,uL q22,q23,q24,jm q25,o_ q26,q27,q28,q29,q30,jm q31,o_ q32,q33,q34,jm q35,o_ q36,q37,q38,jK q39,jm q40,o_ q41,q42,q43,jK q44,jm q45,o_ q46,q47,q48,jK q49,jm q50,o_ q51,q52,q53,jK q54,jm q55,o_ q56,q57,q58,jK q59,q60,uK q61,uK q62,Ji q63,Jj q64,Jk q65,Dz q66,PySem.W.mg_of X G x0,PySem.W.mg_of X G x1,PySem.W.mg_none_of X G z0,PySem.W.mg_none_of X G z1,PySem.W.mg_none_of X G z2,PySem.W.mg_none_of X G z3,PySem.W.mg_none_of X G z4,PySem.W.mg_none_of X G z5,PySem.W.mg_none_of X G z6,PySem.W.mg_none_of X G z7,PySem.W.mg_none_of X G z8,PySem.W.mg_none_of X G z9,PySem.W.mg_none_of X G z10,PySem.W.mg_none_of X G z11,PySem.W.mg_none_of X G z12,PySem.W.mg_none_of X G z13,PySem.W.mg_none_of X G z14⟩
 exact⟨PySem.W.fnOf "law" "law" (gU fO) (bH fO) (ĉ fO) .none Zcj Zck Zcl Zbu Ud Zcm,fun s v=>.of_eq rfl,fun base _ _=>⟨_,Zbt T⟩⟩
theorem Z28(c4 c5:Int){w h:Nat}(hw:0<w)(hh:0<h):∃k,k<w*h∧PV.tup [.int (c4.fmod w),.int (c5.fmod h)]=pt (bL w k):=by
 have a1:c4.fmod (w:Int)=c4 % (w:Int):=Int.fmod_eq_emod_of_nonneg _ (by omega)
 have a2:c5.fmod (h:Int)=c5 % (h:Int):=Int.fmod_eq_emod_of_nonneg _ (by omega)
 have b1:=Int.emod_nonneg c4 (show(w:Int)≠0 by omega)
 have b2:=Int.emod_lt_of_pos c4 (show(0:Int)<w by omega)
 have b3:=Int.emod_nonneg c5 (show(h:Int)≠0 by omega)
 have b4:=Int.emod_lt_of_pos c5 (show(0:Int)<h by omega)
 rw[a1,a2]
 obtain⟨a,ha⟩:∃a:Nat,c4 % (w:Int)=(a:Int):=⟨(c4 % (w:Int)).toNat,by omega⟩
 obtain⟨b,hb⟩:∃b:Nat,c5 % (h:Int)=(b:Int):=⟨(c5 % (h:Int)).toNat,by omega⟩
 rw[ha] at b1 b2 ⊢
 rw[hb] at b3 b4 ⊢
 have ha':a<w:=by omega
 have hb':b<h:=by omega
 refine⟨a+w*b,?_,?_⟩
 ·have:w*(b+1)≤w*h:=Nat.mul_le_mul_left w (by omega)
  rw[Nat.mul_add] at this
  omega
 ·have e1:(a+w*b) % w=a:=by rw[Nat.add_mul_mod_self_left,Nat.mod_eq_of_lt ha']
  have e2:(a+w*b) / w=b:=by rw[Nat.add_mul_div_left _ _ hw,Nat.div_eq_of_lt ha',Nat.zero_add]
  unfold pt bL
  rw[e1,e2]
theorem Z29(c n f:Int)(hn:0≤n)(hf:0≤f):∃d:Int,qR ([.int n,.int (-1),.int (n+f),.int (-1-f)]:List PV) (c % 4)=some (.int d)∧¬(0≤d∧d<n):=by
 have h:c % 4=0∨c % 4=1∨c % 4=2∨c % 4=3:=by omega
 rcases h with h|h|h|h<;>rw[h]
 ·exact⟨n,rfl,by omega⟩
 ·exact⟨-1,rfl,by omega⟩
 ·exact⟨n+f,rfl,by omega⟩
 ·exact⟨-1-f,rfl,by omega⟩
theorem Z1q(ns:List Int)(hn:ns.length≤63):qb [.sh (.lst (ns.map .int))]=.ret (.sh (.bl true)):=by
 have k0:ő [.sh (.lst (ns.map .int)),.sh (.int 0)]=.ret (.sh (.int (ns.getD 0 0))):=Zp ns 0
 have k1:ő [.sh (.lst (ns.map .int)),.sh (.int 1)]=.ret (.sh (.int (ns.getD 1 0))):=Zp ns 1
 have k4:ő [.sh (.lst (ns.map .int)),.sh (.int 4)]=.ret (.sh (.int (ns.getD 4 0))):=Zp ns 4
 have k5:ő [.sh (.lst (ns.map .int)),.sh (.int 5)]=.ret (.sh (.int (ns.getD 5 0))):=Zp ns 5
 obtain⟨c0,e0⟩:∃c,ns.getD 0 0=c:=⟨_,rfl⟩
 obtain⟨c1,e1⟩:∃c,ns.getD 1 0=c:=⟨_,rfl⟩
 obtain⟨c4,e4⟩:∃c,ns.getD 4 0=c:=⟨_,rfl⟩
 obtain⟨c5,e5⟩:∃c,ns.getD 5 0=c:=⟨_,rfl⟩
 rw[e0] at k0
 rw[e1] at k1
 rw[e4] at k4
 rw[e5] at k5
 obtain⟨w,h,hs,w1,w2,h1,h2,wh⟩:=Z1k c0
 obtain⟨ys,hy,hyl⟩:=slI ns (some 2) (some 4)
 obtain⟨T,hT,hTl,hTg⟩:=Z0n ⟨w1,w2⟩ ⟨h1,h2⟩ ys [] .no (by simp;omega)
 rw[List.nil_append] at hT
 obtain⟨m,hm⟩:∃m:Nat,c1 % 4=(m:Int):=⟨(c1 % 4).toNat,by omega⟩
 obtain⟨D,hD,hDl,hDg⟩:=Z1H ns (n:=m) (lg:=4) (by omega) (by omega) (by omega)
 have hD':lZ [.sh (.lst (ns.map .int)),.sh (.int 6),.sh (.int m),.sh (.int 4)]=.ret (.ow (D.map cF)):=hD
 have Y:YOk w h T:=⟨by omega,by omega,by omega,by omega,by omega,hTg⟩
 have q1:=Z14 (T:=T) (by omega) hTg .no .no
 have q2:=Z1F (w:Int) (h:Int) (T:=T) (D:=D) (by omega) (by omega) (s3:=.bw (T.map zK)) (s4:=.bw (D.map cF)) (.inr rfl) (.inr rfl)
 obtain⟨x,y,hb,hx⟩:=Z1p c4 ⟨w1,w2⟩ ⟨h1,h2⟩
 obtain⟨k,hk,hp⟩:=Z28 c4 c5 (w:=w) (h:=h) (by omega) (by omega)
 obtain⟨d,hd,hdn⟩:=Z29 c5 (D.length:Int) (c5 / 3 % 1000000000000) (by omega) (by omega)
 have hdl:(D.map cF).length=D.length:=by simp
 rw[←hdl] at hd
 have fin:=Z18 Y hDg (by omega) (by omega) hk hx hdn (.sh (.lst (ns.map .int))) (.sh (.tup [.int w,.int h])) (.sh (.lst (T.map ZA))) (.ow (T.map zK)) (.sh (.int (c5 / 3 % 1000000000000))) .no .no
 have hY:PV.ins "Yard" ["width","height","things","days"] [.int w,.int h,.lst (T.map zK),.lst (D.map cF)]=Z0 w h T D:=rfl
 have hz:¬w=0:=by omega
 have hz':¬h=0:=by omega
 have po:oM 10 12=true:=by decide
 generalize Z0 w h T D=Yv at *
 generalize ns.map PV.int=NS at *
 generalize ys.map PV.int=YS at *
 generalize T.map ZA=TR at *
 generalize T.map zK=TV at *
 generalize D.map cF=DV at *
 generalize pt (bL w k)=Pv at *
 simp[qb,Z2n,List.replicate,k0,k1,k4,k5,hs,Uy,hy,hT,hm,hD',q1,cg,q2,hY,hb,hp,hd,hz,hz',po,-Z0d]
 simpa using fin
theorem Z2o{l:PySem.W.OpenLaw}{q:Program}{loose:List Str}{XP:(Str→Option Value)→Heap→Prop}{YP:World→Heap→Prop}{d:DefRec}{K:Params→PySem.W.Frag}(hn:l.most=some 63)(hdf:d.params.defaults=[])
 (hY:∀(w:World) (h:Heap),YP w h→(K w.params).In h)
 (F:∀(w:World) (mg:Str→Option Value) (fa:Addr) (h:Heap),(K w.params).In h→h.Ns mainGlobals mg→mg d.name=some (.ref fa)→
   ∃fd:FuncData,(∀(s:Shared) (u:Value),BindsTo s fd ⟨[u],[]⟩ [("_law_script",u)])∧∀base:Heap,(K w.params).In base→base.Ns mainGlobals mg→∃cm,į l.prog w (K w.params) mg base (Ů l.prog w) 11 fa fd ["_law_script"] (ž ⟨K w.params,cm⟩ 1 qb)) :
 PySem.W.WalkO q loose XP YP l.row.toRowW d [] (fun f vs=>PySem.call f vs):=
 P.FJ (k:=11) (x:= "_law_script") (m:=qb) hn hdf ⟨rfl,by decide,by decide⟩ hY F Z1q
end T
namespace PySem.W.Fast
def tw18189643844925353179:=0
def tw3305191112809052470:=0
def tw9920308716139489416:=0
def tw11353603350860500380:=0
def tw18103623917230507679:=0
def tw8786004248641446990:=0
def tw17597346898516917909:=0
def tw18170833899679473020:=0
def tw6787868583881121561:=0
def tw3899074833770045593:=0
def tw8757644451540583373:=0
def tw7154442323522736254:=0
def tw6232034138654281647:=0
def tw5878318255196336960:=0
def tw5013661783874349556:=0
def tw726190847170622812:=0
def tw3544233935473694137:=0
def tw12431772048106899658:=0
def tw8645965968451854471:=0
def tw10370989718210151452:=0
def tw4906912408052390002:=0
def tw3237723214181947548:=0
def tw14153462627739297482:=0
def tw6086426344194594965:=0
def tw199446507645886914:=0
def tw2259525299132212750:=0
def tw13659948968353119325:=0
def tw14539623015989810880:=0
def tw9537995800154117247:=0
def tw7905891006930700723:=0
def tw5454425593683321831:=0
def tw529829829099543139:=0
def tw8736307447174349612:=0
def tw2423233417075081226:=0
def tw10307567994000078265:=0
def tw4706912877598432343:=0
def tw15396540183200017225:=0
def tw727020022534886598:=0
def tw9848080052603595863:=0
def tw819271914762867194:=0
def tw1768160015062146837:=0
def tw9527028348252564943:=0
def tw16037583341769766955:=0
def tw10339379909103767992:=0
def tw9441109027672453149:=0
def tw6046185017065726013:=0
def tw14987876863124150069:=0
def tw5985094483052750769:=0
def tw5974566879488615874:=0
def tw17042376889846389006:=0
def tw2103070963532225956:=0
def tw11868036030544565274:=0
def tw238547631136475933:=0
def tw3708922722391685402:=0
def tw5745943801613361684:=0
def tw8150347581476519111:=0
def tw1070874614891690784:=0
def tw6583755062983053509:=0
def tw88082000457721183:=0
def tw6061379195531400853:=0
def tw8132524647184490548:=0
def tw15906245100556880672:=0
def tw18038400678983468324:=0
def tw16948900542603566173:=0
def tw3334832320503868308:=0
def tw8482813861678929457:=0
def tw4592545356742565693:=0
def tw15490262395102746803:=0
def tw13449522412534594200:=0
def tw9030266712302325415:=0
def tw17555280785165473208:=0
def tw15867818276170845769:=0
def tw12903056184990612505:=0
def tw377497826338676118:=0
def tw10798999704114141911:=0
def tw17697755651421124283:=0
def tw18071101515742008909:=0
def tw17898664596586181425:=0
def tw981956515259910306:=0
def tw4518973397502069278:=0
def tw3613300140058551728:=0
def tw3071065034289800971:=0
def tw3500554310869041767:=0
def tw16105256838483114963:=0
def tw4619534746959110275:=0
def tw16580450007609700892:=0
def tw13126800357032286166:=0
def tw5325787405256143785:=0
def tw12430563435567408242:=0
def tw6784514220977096246:=0
def tw17579599545656000996:=0
def tw13123541089758885671:=0
def tw1478002928582811706:=0
def tw9160955676258218987:=0
def tw228232698428089398:=0
def tw11713217271436415773:=0
def tw16054413719869718542:=0
def tw15544452992000513732:=0
def tw1420578107389633634:=0
def tw7974434949742330303:=0
def tw17928388968574296307:=0
def tw5369244015398692534:=0
def tw18275972154767502044:=0
def tw5321732687393122888:=0
def tw6887978806876471213:=0
def tw15970751239416133742:=0
def tw12969413940496407032:=0
def tw8013592754540667820:=0
def tw2854951593018299535:=0
def tw16537415141842994954:=0
def tw17107358481657138632:=0
def tw13243746686127628596:=0
def tw4656665771892820072:=0
def tw10300057851808983914:=0
def tw5244356765089543082:=0
def tw16577521050546333352:=0
def tw7452227816786608285:=0
def tw16785254573755807036:=0
def tw7907872171348572634:=0
def tw200463084872436437:=0
def tw298006046561250623:=0
def tw14648796722380822698:=0
def tw10478198217803064770:=0
def tw5750374311410215600:=0
def tw7121181773407822911:=0
def tw7799365494061471220:=0
def tw7027933969766217619:=0
def tw9790006775716693342:=0
def tw14592806209601805630:=0
def tw11066168630071763349:=0
def tw6654088599050599702:=0
def tw4907248749287183812:=0
def tw16497680771076508657:=0
def tw2105923082509373275:=0
def tw7230982903475770134:=0
def tw9312855402258149293:=0
def tw1917744538475138372:=0
def tw9213463736061225977:=0
def tw13720747090852303692:=0
def tw6937005990239474694:=0
def tw10597190944296431203:=0
def tw16227920814062622769:=0
def tw5622895594960443854:=0
def tw6722459153049000837:=0
def tw7211768191216520322:=0
def tw13495209962109142080:=0
def tw431089435524180025:=0
def tw1012436774079469740:=0
def tw3085523369912233084:=0
def tw6721649033692288810:=0
def tw5931466038103240851:=0
def tw13530742518653559733:=0
def tw11768871837503382170:=0
def tw13760575827666718279:=0
def tw1842080140483977596:=0
def tw1001764137271266142:=0
def tw4237068098783151821:=0
def tw8068110986597778300:=0
def tw8441144407339161631:=0
def tw7908125920710496183:=0
def tw15817390193276156970:=0
def tw13650308758915831639:=0
def tw221912273723478360:=0
def tw4177631320192882946:=0
def tw4023475636837176529:=0
def tw458866624723698709:=0
def tw12107225195686313258:=0
def tw7848282231558888593:=0
def tw5493160448220512636:=0
def tw11032076735263619435:=0
def tw17927757761637019185:=0
def tw6923832277497179340:=0
def tw10824882797887026893:=0
def tw2279377885558287043:=0
def tw1040624275873938499:=0
def tw3771687396627678462:=0
def tw12153188137309777240:=0
def tw9213935589476989489:=0
def tw11207837175207557162:=0
def tw3782239211877556285:=0
def tw1259561934771953831:=0
def tw2785939683872285734:=0
def tw3367790735573260974:=0
def tw10393855857709576308:=0
def tw17032092604741881289:=0
def tw9738339928797800851:=0
def tw12303937953334306845:=0
def tw17041067798121909120:=0
def tw3561073774996742342:=0
def tw12987309908609079822:=0
def tw4659625035613012613:=0
def tw8944783824961495409:=0
def tw4826003432089869165:=0
def tw8497126880332200308:=0
def tw8257510357736614510:=0
def tw8225783479615263067:=0
def tw9488532344484285865:=0
def tw8824020636015247184:=0
def tw7573527503566753609:=0
def tw10092131247704170991:=0
def tw5131328768836978899:=0
def tw8027965573848020757:=0
def tw7082554659099794389:=0
def tw83326397235836945:=0
def tw9491808401962686871:=0
def tw9575517221711972246:=0
def tw15947517377773030593:=0
def tw12463512675707386434:=0
def tw14949965573311880798:=0
def tw4840021592348472613:=0
def tw4507408006874196349:=0
def tw2130813028983562665:=0
def tw14890760048014981042:=0
def tw18317813923592113699:=0
def tw6705776171938091003:=0
def tw4019741200025973637:=0
def tw3086044089399788785:=0
def tw3739367802243150447:=0
def tw18043851088865568507:=0
def tw18187131118746142480:=0
def tw16596542096583805541:=0
def tw8597723018562982858:=0
def tw11799956442822443510:=0
def tw14165452189800310200:=0
def tw602955964849693200:=0
def tw6876212242132732495:=0
def tw13496476492183597635:=0
def tw12676514432372543996:=0
def tw11808801291955985373:=0
def tw15852014656760978678:=0
def tw6456141484565132148:=0
def tw15499185467884873418:=0
def tw1505135734268309257:=0
def tw7806532888443362016:=0
def tw1069228311047202428:=0
def tw5047678780623446725:=0
def tw9152635063533582619:=0
def tw7541756793799392977:=0
def tw4860430473830414:=0
def tw851496458486734579:=0
def tw7400217946295524357:=0
def tw12500239162480540096:=0
def tw10221768019293558671:=0
def tw13318304560604143347:=0
def tw6911644256343779432:=0
def tw18242066197712066193:=0
def tw5667617799665378480:=0
def tw6419614200195443227:=0
def tw16788722990305271593:=0
def tw4280053585299527482:=0
def tw1553274784634337839:=0
def tw6275996548448684346:=0
def tw9120773541401565272:=0
def tw6551760790174971606:=0
def tw9668652292614238830:=0
def tw14022475844898240100:=0
def tw2335240458215316452:=0
def tw6586028524313808044:=0
def tw7496295505573010776:=0
def tw5665467388030109309:=0
def tw8234214340645142235:=0
def tw10008879842498599916:=0
def tw12681301987008611350:=0
def tw15511283956689483713:=0
def tw6723243836307740852:=0
def tw14818349741109173102:=0
def tw2521084934063369384:=0
def tw7082058977400447341:=0
def tw5097870070076107911:=0
def tw10840555026775106228:=0
def tw9163579027108222347:=0
def tw3690890033898148995:=0
def tw14621416798304948370:=0
def tw13284529210869483675:=0
def tw6885900681433276734:=0
def tw5584439541380620385:=0
def tw1110031057784066268:=0
def tw15020042940797607842:=0
def tw14686556743542576543:=0
def tw13621881495101220840:=0
def tw12836451205306264662:=0
def tw387992044840795421:=0
def tw13907268434975385128:=0
def tw5633273626774151896:=0
def tw10503879235195133736:=0
def tw17249742611991097020:=0
def tw13226045971802147340:=0
def tw5982594059272772037:=0
def tw14911567740176308089:=0
def tw10880965027951510889:=0
def tw16637983972678051520:=0
def tw15976359954441018799:=0
def tw10659584788130445218:=0
def tw1607946541688155138:=0
def tw18181079150843036534:=0
def tw17105233388627074376:=0
def tw9065198403426988267:=0
def tw8998336131112971895:=0
def tw3112688463255132157:=0
def tw11498850333650166251:=0
def tw4441000943528884994:=0
def tw13241235955035814952:=0
def tw14494417392041727010:=0
def tw9231226609447448507:=0
def tw16192248901005663925:=0
def tw2570991678397159612:=0
def tw12099175084487933995:=0
def tw10696179573723381350:=0
def tw11429947880437916277:=0
def tw12253224500086152946:=0
def tw12295711148236791453:=0
def tw10296787617296291164:=0
def tw13861327824937414695:=0
def tw11671165889935000108:=0
def tw3078190308404595151:=0
def tw9803499911578171453:=0
def tw15906055179821628908:=0
def tw4259699056081631477:=0
def tw5729325719066951746:=0
def tw13337610098850910635:=0
def tw5949838815092760015:=0
def tw7114855951276981487:=0
def tw4586360767461374479:=0
def tw240341571515842314:=0
def tw1733678527691225023:=0
def tw8250987941671447989:=0
def tw7347390833658838978:=0
def tw16123052708239709326:=0
def tw6839804138438093576:=0
def tw2983414160756186471:=0
def tw5876741675610267275:=0
def tw15114974526639658717:=0
def tw17311140101429834642:=0
def tw2564337735395933072:=0
def tw18167241295776311583:=0
def tw15978131871290649261:=0
def tw9461418289002683719:=0
def tw16471422634886302040:=0
def tw13622287950071025398:=0
def tw14432207933658731943:=0
def tw291863577146755198:=0
def tw10051031639392986818:=0
def tw15964202435203910902:=0
def tw9106864255864018552:=0
def tw2391637163105728883:=0
def tw4941529343563578104:=0
def tw1404251639247219990:=0
def tw10321980740787554513:=0
def tw8442196367061324704:=0
def tw16771219777980660037:=0
def tw3598810233329015388:=0
def tw7657994570895763711:=0
def tw7222806114433176548:=0
def tw2751226101646278319:=0
def tw9458643846679147576:=0
def tw4930202295596250822:=0
def tw4353067627677088025:=0
def tw9727286984545516388:=0
def tw3982214789610079646:=0
def tw7528461280767752140:=0
def tw8903453436679114224:=0
def tw683056843494737177:=0
def tw15240697109574659706:=0
def tw6634723495420364353:=0
def tw4695579003102907102:=0
def tw5499821289075180165:=0
def tw15757536631595456811:=0
def tw5279273674165517714:=0
def tw14205049063327945103:=0
def tw15615848587714045953:=0
def tw13358543093696504872:=0
def tw11277872020733053199:=0
def tw2278843858238832511:=0
def tw17665846252490048832:=0
def tw363320472997397989:=0
def tw8030459294963793091:=0
def tw1750298587082163766:=0
def tw9727920589340666609:=0
def tw12401641126496433025:=0
def tw5617766209358566635:=0
def tw12180502450486327083:=0
def tw17269918631774877126:=0
def tw18385511682746614986:=0
def tw7754668068655028440:=0
def tw1191825288754032964:=0
def tw17093158278387721844:=0
def tw14247196401850315174:=0
def tw2703853124453245472:=0
def tw3306095755226102085:=0
def tw3343786014716824737:=0
def tw11111980733985742586:=0
def tw10782106936408200750:=0
def tw9040294333835682219:=0
def tw1616517901037522140:=0
def tw12230260479653881850:=0
def tw16913988920166884318:=0
def tw2954947048657315810:=0
def tw8415440899234290920:=0
def tw4016645421103058351:=0
def tw8154983024119486665:=0
def tw17344034418359355925:=0
def tw18020741822109006058:=0
def tw8241882241645289606:=0
def tw10332449487776542187:=0
def tw8080278081149523499:=0
def tw5089661866796941509:=0
def tw15287255590045222536:=0
def tw3937298287187110482:=0
def tw2315271645297112635:=0
def tw12442306953697914594:=0
def tw10574628430496050288:=0
def tw16449281790718846156:=0
def tw14774587188775464262:=0
def tw1512153330002613405:=0
def tw998773333114021546:=0
def tw8276374618394576288:=0
def tw5633228846460892928:=0
def tw597324160340028284:=0
def tw7748962043347430395:=0
def tw9404005860818549852:=0
def tw6037032783060861374:=0
def tw12545371426655957611:=0
def tw6446914231726300913:=0
def tw16081375166914352626:=0
def tw14333722948620463899:=0
def tw12741420940439859371:=0
def tw2371389980586762096:=0
def tw3356936117232431155:=0
def tw10581218346672915124:=0
def tw12606159364505627163:=0
def tw13263535193716447541:=0
def tw15244762907845140120:=0
def tw17950179461800134779:=0
def tw4600874207126558332:=0
def tw3021405873772240309:=0
def tw17479048166827312384:=0
def tw13066309379083212904:=0
def tw12243593309061367313:=0
def tw8208794628005403396:=0
def tw1783217559001591148:=0
def tw6821416425782322791:=0
def tw2080128026046864399:=0
def tw14969511437601463582:=0
def tw7799629211666263513:=0
def tw4665468204993953302:=0
def tw14138138903911369317:=0
def tw1211306591376582081:=0
def tw12464547751528175117:=0
def tw12229804867027423169:=0
def tw11499210822691943394:=0
def tw7538464811713950201:=0
def tw16350760493892666376:=0
def tw3397109116907838180:=0
def tw1822093900832311626:=0
def tw4635341752966990699:=0
def tw8332740414933427588:=0
def tw14921611094220956645:=0
def tw3999701053658634834:=0
def tw2150106757958073020:=0
def tw1840308406299781287:=0
def tw4455558944015385515:=0
def tw4180953076441740218:=0
def tw11489541441316274362:=0
def tw3463900320224734906:=0
def tw15372802531357014327:=0
def tw6633413250431983136:=0
def tw10466484009941892100:=0
def tw1091112799778001169:=0
def tw1190565488889825016:=0
def tw14321261363598563535:=0
def tw13245478350317217728:=0
def tw10156422206400850170:=0
def tw5062158068277344069:=0
def tw9505046992829304930:=0
def tw7829198626619280841:=0
def tw3395793831617972605:=0
def tw15542603363386439671:=0
def tw7372675315261921902:=0
def tw11441194871915710691:=0
def tw3839921750570223565:=0
def tw17122785618812233714:=0
def tw8207293219016046747:=0
def tw9902928953980365531:=0
def tw2778140991676318934:=0
def tw16042792382203662391:=0
def tw12563533693272864936:=0
def tw9162746373772979434:=0
def tw7244643593583644684:=0
def tw12891053879032848089:=0
def tw16031506786513244621:=0
def tw11535732197868336876:=0
def tw13103119497285295735:=0
def tw5404009752824259485:=0
def tw15802852661733594704:=0
def tw8433386122830851139:=0
def tw10718682977581649325:=0
def tw6749669608239835664:=0
def tw6791087684935223285:=0
def tw6595940095004555820:=0
def tw3082096385048162489:=0
def tw16387926063546586088:=0
def tw10682893423838726237:=0
def tw9154441149883565657:=0
def tw151406999060149039:=0
def tw10634002787669274370:=0
def tw9706796265865445166:=0
def tw3443372555596140703:=0
def tw12602722808795724219:=0
def tw1495680096190490073:=0
def tw2755529126212523109:=0
def tw2317490755122397633:=0
def tw13640087954862925714:=0
def tw5971059531069694784:=0
def tw6456339630314168134:=0
def tw6690422953796076567:=0
def tw2332692346965179043:=0
def tw2952011668672637263:=0
def tw12394402674903629893:=0
def tw5981031166023990445:=0
def tw15245992370337104656:=0
def tw12640648725233635250:=0
def tw7357689316652155834:=0
def tw2631487707814188479:=0
def tw4213430236682904867:=0
def tw13812831678396533657:=0
def tw4935611284783118726:=0
def tw5509997223118136178:=0
def tw14006782591091315719:=0
def tw6241570119150213930:=0
def tw1118226180817045453:=0
def tw11156464479208864172:=0
def tw5938630758021793132:=0
def tw4856289557470450079:=0
def tw13203433649646675390:=0
def tw17139158001038582637:=0
def tw15107818922924095332:=0
def tw3901476810548199819:=0
def tw11549845927579134537:=0
def tw7829821256559300102:=0
def tw14420204393739825998:=0
def tw6848576496538814540:=0
def tw14942262934049040443:=0
def tw230708092749974391:=0
def tw12090065520735179933:=0
def tw11725034665160284046:=0
def tw13287491027527942480:=0
def tw7846463572718034977:=0
def tw17094706072426534669:=0
def tw6610258226376534787:=0
def tw2260117283582633359:=0
def tw5174581661266186160:=0
def tw4291576414733310950:=0
def tw6327175357579708406:=0
def tw9882260246745517546:=0
def tw7797539007808885452:=0
def tw4658897449914696601:=0
def tw7016885905648787467:=0
def tw2991104528968383252:=0
def tw13814113974240151811:=0
def tw16211237563496197393:=0
def tw11520821596148035754:=0
def tw2084803328094503744:=0
def tw13133836451830764739:=0
def tw11091605796886127539:=0
def tw3547963180487643140:=0
def tw1345877056985490121:=0
def tw10352819100451480460:=0
def tw4658773979937725111:=0
def tw5008595996801400490:=0
def tw5062656935337821944:=0
def tw13434785656267262885:=0
def tw16978882790973150888:=0
def tw10597837461833832542:=0
def tw4606045663768587767:=0
def tw799977996961517286:=0
def tw17033884163546341989:=0
def tw3564912383998962436:=0
def tw10713850653502656233:=0
def tw9652411698325496861:=0
def tw4954701324404869232:=0
def tw4723900039004724401:=0
def tw16247944758441028536:=0
def tw10692511860762710424:=0
def tw1526152733495047078:=0
def tw8328481330460814973:=0
def tw114216574631217538:=0
def tw10606381775048467586:=0
def tw1551275132542115675:=0
def tw3093921227514507773:=0
def tw10967321303189931034:=0
def tw2612457067868676964:=0
def tw9837124628418555481:=0
def tw66678801667905137:=0
def tw8422667982987031878:=0
def tw18207528086367833144:=0
def tw11196449696499293960:=0
def tw3548218459109466072:=0
def tw8918824377268449472:=0
def tw10686469794367203822:=0
def tw5462912190425055398:=0
def tw14825243755514674888:=0
def tw3603037058099648213:=0
def tw3643183072115118104:=0
def tw11251212141088633009:=0
def tw5109824133447946728:=0
def tw7170555166219274376:=0
def tw5954313425324525026:=0
def tw3881236536570408122:=0
def tw12469984010812506632:=0
def tw769601531819193643:=0
def tw4408605965402839010:=0
def tw4459277946638507388:=0
def tw12668119399811592636:=0
def tw11543638567736975762:=0
def tw18369951088469700627:=0
def tw15314274951760179773:=0
def tw8790130358952983224:=0
def tw1896253015508042969:=0
def tw11710513134539869262:=0
def tw6725376413804385051:=0
def tw1786524348751171028:=0
def tw16921079564190350026:=0
def tw8420501782920171837:=0
def tw3206243559685803364:=0
def tw4372154131515665812:=0
def tw794406133590356910:=0
end PySem.W.Fast
open PySem PySem.W PyProof.Rows
set_option maxRecDepth 100000 in
set_option maxHeartbeats 0 in
theorem PySem.Challenge.cw_shadowpost_k35_lit_refused_holds : PySem.Challenge.rw_shadowpost_k35_lit_refused.Holds := by
 w_on;o_law;k_head;(case hw=>w_witness2)
 k_fill
 refine T.Z2o (l:=PySem.Challenge.rw_shadowpost_k35_lit_refused) rfl rfl (fun w h Y=>PySem.W.kIn_of Y) ?F
 case F=>
  intro w mg fa h KX G hmg
  refine' T.Z27 KX G hmg ?u0 ?u1 ?u2 ?u3 ?u4 ?u5 ?u6 ?u7 ?u8 ?u9 ?u10 ?u11 ?u12 ?u13 ?u14 ?a0 ?l0 ?c0 ?k0 ?a1 ?l1 ?c1 ?k1 ?a2 ?l2 ?c2 ?k2 ?a3 ?l3 ?c3 ?k3 ?a4 ?l4 ?c4 ?k4 ?a5 ?l5 ?c5 ?k5 ?a6 ?l6 ?c6 ?k6 ?a7 ?l7 ?c7 ?k7 ?a8 ?l8 ?c8 ?k8 ?a9 ?l9 ?c9 ?k9 ?a10 ?l10 ?c10 ?k10 ?a11 ?l11 ?c11 ?k11 ?a12 ?l12 ?c12 ?k12 ?a13 ?l13 ?c13 ?k13 ?a14 ?l14 ?c14 ?k14 ?a15 ?l15 ?c15 ?k15 ?a16 ?l16 ?c16 ?k16 ?a17 ?l17 ?c17 ?k17 ?a18 ?l18 ?c18 ?k18 ?a19 ?l19 ?c19 ?k19 ?a20 ?l20 ?c20 ?k20 ?a21 ?l21 ?c21 ?k21 ?a22 ?l22 ?c22 ?k22 ?a23 ?l23 ?c23 ?k23 ?a24 ?l24 ?c24 ?k24 ?a25 ?l25 ?c25 ?k25 ?a26 ?l26 ?c26 ?k26 ?a27 ?l27 ?c27 ?k27 ?a28 ?l28 ?c28 ?k28 ?a29 ?l29 ?c29 ?k29 ?a30 ?l30 ?c30 ?k30 ?a31 ?l31 ?c31 ?k31 ?a32 ?l32 ?c32 ?k32 ?a33 ?l33 ?c33 ?k33 ?a34 ?l34 ?c34 ?k34 ?a35 ?l35 ?c35 ?k35 ?a36 ?l36 ?c36 ?k36 ?a37 ?l37 ?c37 ?k37 ?a38 ?l38 ?c38 ?k38 ?a39 ?l39 ?c39 ?k39 ?a40 ?l40 ?c40 ?k40 ?a41 ?l41 ?c41 ?k41 ?a42 ?l42 ?c42 ?k42 ?a43 ?l43 ?c43 ?k43 ?a44 ?l44 ?c44 ?k44 ?a45 ?l45 ?c45 ?k45 ?a46 ?l46 ?c46 ?k46 ?a47 ?l47 ?c47 ?k47 ?a48 ?l48 ?c48 ?k48 ?a49 ?l49 ?c49 ?k49 ?a50 ?l50 ?c50 ?k50 ?a51 ?l51 ?c51 ?k51 ?a52 ?l52 ?c52 ?k52 ?a53 ?l53 ?c53 ?k53 ?a54 ?l54 ?c54 ?k54 ?a55 ?l55 ?c55 ?k55 ?a56 ?l56 ?c56 ?k56 ?a57 ?l57 ?c57 ?k57 ?a58 ?l58 ?c58 ?k58 ?a59 ?l59 ?c59 ?k59 ?a60 ?l60 ?c60 ?k60 ?a61 ?l61 ?c61 ?k61 ?a62 ?l62 ?c62 ?k62 ?a63 ?l63 ?c63 ?k63 ?a64 ?l64 ?c64 ?k64 ?a65 ?l65 ?c65 ?k65 ?x0 ?x1 ?z0 ?z1 ?z2 ?z3 ?z4 ?z5 ?z6 ?z7 ?z8 ?z9 ?z10 ?z11 ?z12 ?z13 ?z14 ?q0 ?q1 ?q2 ?q3 ?q4 ?q5 ?q6 ?q7 ?q8 ?q9 ?q10 ?q11 ?q12 ?q13 ?q14 ?q15 ?q16 ?q17 ?q18 ?q19 ?q20 ?q21 ?q22 ?q23 ?q24 ?q25 ?q26 ?q27 ?q28 ?q29 ?q30 ?q31 ?q32 ?q33 ?q34 ?q35 ?q36 ?q37 ?q38 ?q39 ?q40 ?q41 ?q42 ?q43 ?q44 ?q45 ?q46 ?q47 ?q48 ?q49 ?q50 ?q51 ?q52 ?q53 ?q54 ?q55 ?q56 ?q57 ?q58 ?q59 ?q60 ?q61 ?q62 ?q63 ?q64 ?q65 ?q66
  (case u0=>k_is)
  (case u1=>k_is)
  (case u2=>k_is)
  (case u3=>k_is)
  (case u4=>k_is)
  (case u5=>k_is)
  (case u6=>k_is)
  (case u7=>k_is)
  (case u8=>k_is)
  (case u9=>k_is)
  (case u10=>k_is)
  (case u11=>k_is)
  (case u12=>k_is)
  (case u13=>k_is)
  (case u14=>k_is)
  (case a0=>k_is)
  (case l0=>unfold T.LK T.FN;k_is)
  (case c0=>k_is)
  (case k0=>k_is)
  (case a1=>k_is)
  (case l1=>unfold T.LK T.FN;k_is)
  (case c1=>k_is)
  (case k1=>k_is)
  (case a2=>k_is)
  (case l2=>unfold T.LK T.FN;k_is)
  (case c2=>k_is)
  (case k2=>k_is)
  (case a3=>k_is)
  (case l3=>unfold T.LK T.FN;k_is)
  (case c3=>k_is)
  (case k3=>k_is)
  (case a4=>k_is)
  (case l4=>unfold T.LK T.FN;k_is)
  (case c4=>k_is)
  (case k4=>k_is)
  (case a5=>k_is)
  (case l5=>unfold T.LK T.FN;k_is)
  (case c5=>k_is)
  (case k5=>k_is)
  (case a6=>k_is)
  (case l6=>unfold T.LK T.FN;k_is)
  (case c6=>k_is)
  (case k6=>k_is)
  (case a7=>k_is)
  (case l7=>unfold T.LK T.FN;k_is)
  (case c7=>k_is)
  (case k7=>k_is)
  (case a8=>k_is)
  (case l8=>unfold T.LK T.FN;k_is)
  (case c8=>k_is)
  (case k8=>k_is)
  (case a9=>k_is)
  (case l9=>unfold T.LK T.FN;k_is)
  (case c9=>k_is)
  (case k9=>k_is)
  (case a10=>k_is)
  (case l10=>unfold T.LK T.FN;k_is)
  (case c10=>k_is)
  (case k10=>k_is)
  (case a11=>k_is)
  (case l11=>unfold T.LK T.FN;k_is)
  (case c11=>k_is)
  (case k11=>k_is)
  (case a12=>k_is)
  (case l12=>unfold T.LK T.FN;k_is)
  (case c12=>k_is)
  (case k12=>k_is)
  (case a13=>k_is)
  (case l13=>unfold T.LK T.FN;k_is)
  (case c13=>k_is)
  (case k13=>k_is)
  (case a14=>k_is)
  (case l14=>unfold T.LK T.FN;k_is)
  (case c14=>k_is)
  (case k14=>k_is)
  (case a15=>k_is)
  (case l15=>unfold T.LK T.FN;k_is)
  (case c15=>k_is)
  (case k15=>k_is)
  (case a16=>k_is)
  (case l16=>unfold T.LK T.FN;k_is)
  (case c16=>k_is)
  (case k16=>k_is)
  (case a17=>k_is)
  (case l17=>unfold T.LK T.FN;k_is)
  (case c17=>k_is)
  (case k17=>k_is)
  (case a18=>k_is)
  (case l18=>unfold T.LK T.FN;k_is)
  (case c18=>k_is)
  (case k18=>k_is)
  (case a19=>k_is)
  (case l19=>unfold T.LK T.FN;k_is)
  (case c19=>k_is)
  (case k19=>k_is)
  (case a20=>k_is)
  (case l20=>unfold T.LK T.FN;k_is)
  (case c20=>k_is)
  (case k20=>k_is)
  (case a21=>k_is)
  (case l21=>unfold T.LK T.FN;k_is)
  (case c21=>k_is)
  (case k21=>k_is)
  (case a22=>k_is)
  (case l22=>unfold T.LK T.FN;k_is)
  (case c22=>k_is)
  (case k22=>k_is)
  (case a23=>k_is)
  (case l23=>unfold T.LK T.FN;k_is)
  (case c23=>k_is)
  (case k23=>k_is)
  (case a24=>k_is)
  (case l24=>unfold T.LK T.FN;k_is)
  (case c24=>k_is)
  (case k24=>k_is)
  (case a25=>k_is)
  (case l25=>unfold T.LK T.FN;k_is)
  (case c25=>k_is)
  (case k25=>k_is)
  (case a26=>k_is)
  (case l26=>unfold T.LK T.FN;k_is)
  (case c26=>k_is)
  (case k26=>k_is)
  (case a27=>k_is)
  (case l27=>unfold T.LK T.FN;k_is)
  (case c27=>k_is)
  (case k27=>k_is)
  (case a28=>k_is)
  (case l28=>unfold T.LK T.FN;k_is)
  (case c28=>k_is)
  (case k28=>k_is)
  (case a29=>k_is)
  (case l29=>unfold T.LK T.FN;k_is)
  (case c29=>k_is)
  (case k29=>k_is)
  (case a30=>k_is)
  (case l30=>unfold T.LK T.FN;k_is)
  (case c30=>k_is)
  (case k30=>k_is)
  (case a31=>k_is)
  (case l31=>unfold T.LK T.FN;k_is)
  (case c31=>k_is)
  (case k31=>k_is)
  (case a32=>k_is)
  (case l32=>unfold T.LK T.FN;k_is)
  (case c32=>k_is)
  (case k32=>k_is)
  (case a33=>k_is)
  (case l33=>unfold T.LK T.FN;k_is)
  (case c33=>k_is)
  (case k33=>k_is)
  (case a34=>k_is)
  (case l34=>unfold T.LK T.FN;k_is)
  (case c34=>k_is)
  (case k34=>k_is)
  (case a35=>k_is)
  (case l35=>unfold T.LK T.FN;k_is)
  (case c35=>k_is)
  (case k35=>k_is)
  (case a36=>k_is)
  (case l36=>unfold T.LK T.FN;k_is)
  (case c36=>k_is)
  (case k36=>k_is)
  (case a37=>k_is)
  (case l37=>unfold T.LK T.FN;k_is)
  (case c37=>k_is)
  (case k37=>k_is)
  (case a38=>k_is)
  (case l38=>unfold T.LK T.FN;k_is)
  (case c38=>k_is)
  (case k38=>k_is)
  (case a39=>k_is)
  (case l39=>unfold T.LK T.FN;k_is)
  (case c39=>k_is)
  (case k39=>k_is)
  (case a40=>k_is)
  (case l40=>unfold T.LK T.FN;k_is)
  (case c40=>k_is)
  (case k40=>k_is)
  (case a41=>k_is)
  (case l41=>unfold T.LK T.FN;k_is)
  (case c41=>k_is)
  (case k41=>k_is)
  (case a42=>k_is)
  (case l42=>unfold T.LK T.FN;k_is)
  (case c42=>k_is)
  (case k42=>k_is)
  (case a43=>k_is)
  (case l43=>unfold T.LK T.FN;k_is)
  (case c43=>k_is)
  (case k43=>k_is)
  (case a44=>k_is)
  (case l44=>unfold T.LK T.FN;k_is)
  (case c44=>k_is)
  (case k44=>k_is)
  (case a45=>k_is)
  (case l45=>unfold T.LK T.FN;k_is)
  (case c45=>k_is)
  (case k45=>k_is)
  (case a46=>k_is)
  (case l46=>unfold T.LK T.FN;k_is)
  (case c46=>k_is)
  (case k46=>k_is)
  (case a47=>k_is)
  (case l47=>unfold T.LK T.FN;k_is)
  (case c47=>k_is)
  (case k47=>k_is)
  (case a48=>k_is)
  (case l48=>unfold T.LK T.FN;k_is)
  (case c48=>k_is)
  (case k48=>k_is)
  (case a49=>k_is)
  (case l49=>unfold T.LK T.FN;k_is)
  (case c49=>k_is)
  (case k49=>k_is)
  (case a50=>k_is)
  (case l50=>unfold T.LK T.FN;k_is)
  (case c50=>k_is)
  (case k50=>k_is)
  (case a51=>k_is)
  (case l51=>unfold T.LK T.FN;k_is)
  (case c51=>k_is)
  (case k51=>k_is)
  (case a52=>k_is)
  (case l52=>unfold T.LK T.FN;k_is)
  (case c52=>k_is)
  (case k52=>k_is)
  (case a53=>k_is)
  (case l53=>unfold T.LK T.FN;k_is)
  (case c53=>k_is)
  (case k53=>k_is)
  (case a54=>k_is)
  (case l54=>unfold T.LK T.FN;k_is)
  (case c54=>k_is)
  (case k54=>k_is)
  (case a55=>k_is)
  (case l55=>unfold T.LK T.FN;k_is)
  (case c55=>k_is)
  (case k55=>k_is)
  (case a56=>k_is)
  (case l56=>unfold T.LK T.FN;k_is)
  (case c56=>k_is)
  (case k56=>k_is)
  (case a57=>k_is)
  (case l57=>unfold T.LK T.FN;k_is)
  (case c57=>k_is)
  (case k57=>k_is)
  (case a58=>k_is)
  (case l58=>unfold T.LK T.FN;k_is)
  (case c58=>k_is)
  (case k58=>k_is)
  (case a59=>k_is)
  (case l59=>unfold T.LK T.FN;k_is)
  (case c59=>k_is)
  (case k59=>k_is)
  (case a60=>k_is)
  (case l60=>unfold T.LK T.FN;k_is)
  (case c60=>k_is)
  (case k60=>k_is)
  (case a61=>k_is)
  (case l61=>unfold T.LK T.FN;k_is)
  (case c61=>k_is)
  (case k61=>k_is)
  (case a62=>k_is)
  (case l62=>unfold T.LK T.FN;k_is)
  (case c62=>k_is)
  (case k62=>k_is)
  (case a63=>k_is)
  (case l63=>unfold T.LK T.FN;k_is)
  (case c63=>k_is)
  (case k63=>k_is)
  (case a64=>k_is)
  (case l64=>unfold T.LK T.FN;k_is)
  (case c64=>k_is)
  (case k64=>k_is)
  (case a65=>k_is)
  (case l65=>unfold T.LK T.FN;k_is)
  (case c65=>k_is)
  (case k65=>k_is)
  (case x0=>k_is)
  (case x1=>k_is)
  (case z0=>k_is)
  (case z1=>k_is)
  (case z2=>k_is)
  (case z3=>k_is)
  (case z4=>k_is)
  (case z5=>k_is)
  (case z6=>k_is)
  (case z7=>k_is)
  (case z8=>k_is)
  (case z9=>k_is)
  (case z10=>k_is)
  (case z11=>k_is)
  (case z12=>k_is)
  (case z13=>k_is)
  (case z14=>k_is)
  (case q0=>kernel_rfl)
  (case q1=>kernel_rfl)
  (case q2=>kernel_rfl)
  (case q3=>kernel_rfl)
  (case q4=>kernel_rfl)
  (case q5=>kernel_rfl)
  (case q6=>kernel_rfl)
  (case q7=>kernel_rfl)
  (case q8=>kernel_rfl)
  (case q9=>kernel_rfl)
  (case q10=>kernel_rfl)
  (case q11=>kernel_rfl)
  (case q12=>kernel_rfl)
  (case q13=>kernel_rfl)
  (case q14=>kernel_rfl)
  (case q15=>kernel_rfl)
  (case q16=>kernel_rfl)
  (case q17=>kernel_rfl)
  (case q18=>kernel_rfl)
  (case q19=>kernel_rfl)
  (case q20=>kernel_rfl)
  (case q21=>kernel_rfl)
  (case q22=>kernel_rfl)
  (case q23=>kernel_rfl)
  (case q24=>kernel_rfl)
  (case q25=>kernel_rfl)
  (case q26=>kernel_rfl)
  (case q27=>kernel_rfl)
  (case q28=>kernel_rfl)
  (case q29=>kernel_rfl)
  (case q30=>kernel_rfl)
  (case q31=>kernel_rfl)
  (case q32=>kernel_rfl)
  (case q33=>kernel_rfl)
  (case q34=>kernel_rfl)
  (case q35=>kernel_rfl)
  (case q36=>kernel_rfl)
  (case q37=>kernel_rfl)
  (case q38=>kernel_rfl)
  (case q39=>kernel_rfl)
  (case q40=>kernel_rfl)
  (case q41=>kernel_rfl)
  (case q42=>kernel_rfl)
  (case q43=>kernel_rfl)
  (case q44=>kernel_rfl)
  (case q45=>kernel_rfl)
  (case q46=>kernel_rfl)
  (case q47=>kernel_rfl)
  (case q48=>kernel_rfl)
  (case q49=>kernel_rfl)
  (case q50=>kernel_rfl)
  (case q51=>kernel_rfl)
  (case q52=>kernel_rfl)
  (case q53=>kernel_rfl)
  (case q54=>kernel_rfl)
  (case q55=>kernel_rfl)
  (case q56=>kernel_rfl)
  (case q57=>kernel_rfl)
  (case q58=>kernel_rfl)
  (case q59=>kernel_rfl)
  (case q60=>kernel_rfl)
  (case q61=>kernel_rfl)
  (case q62=>kernel_rfl)
  (case q63=>kernel_rfl)
  (case q64=>kernel_rfl)
  (case q65=>kernel_rfl)
  (case q66=>kernel_rfl)
