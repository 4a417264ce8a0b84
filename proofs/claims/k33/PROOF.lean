import PyProof.Rows.All
import Wide.All
import OpenK.AllK
import Wide.FinOn
import Lean
import PyProof.EqAt
import PyProof.EqKinds
import PyProof.TupleCall
import PySem.Challenge.RW_shadowpost_k33_lit_turns
set_option Elab.async false
set_option linter.all false
set_option maxRecDepth 100000
set_option maxHeartbeats 4000000
namespace L2
open PySem PySem.Spec PyProof.Rows
abbrev Key:=Sum Int Str
def U_:Key→Value→Bool
 | .inl k,v=>Value.isInt k v
 | .inr x,v=>Value.isStrOf x v
def Zku(w:World):Key→Int
 | .inl k=>hashInt k
 | .inr x=>hashStr w x
theorem š:∀{k:Key} {v:Value},U_ k v=true→(∃i t,k=Sum.inl i∧v=Value.int i t)∨(∃x t,k=Sum.inr x∧v=Value.str x t)
 | .inl i,v,h=>by
   obtain⟨t,e⟩:=Value.isInt_shape (k:=i) (v:=v) h
   exact .inl ⟨i,t,rfl,e⟩
 | .inr x,v,h=>by
   obtain⟨t,e⟩:=Value.isStrOf_shape (x:=x) (v:=v) h
   exact .inr ⟨x,t,rfl,e⟩
theorem Xo(a b:Int):decide ((Sum.inl a:Key)=Sum.inl b)=(a== b):=by
 by_cases e:a=b
 ·subst e;simp
 ·have h:¬(Sum.inl a:Key)=Sum.inl b:=fun q=>e (Sum.inl.inj q)
  rw[decide_eq_false h]
  exact(beq_eq_false_iff_ne.mpr e).symm
theorem Xp(a b:Str):decide ((Sum.inr a:Key)=Sum.inr b)=decide (a=b):=by
 by_cases e:a=b
 ·subst e;simp
 ·have h:¬(Sum.inr a:Key)=Sum.inr b:=fun q=>e (Sum.inr.inj q)
  rw[decide_eq_false h,decide_eq_false e]
theorem Xq(a:Int)(b:Str):decide ((Sum.inl a:Key)=Sum.inr b)=false:=decide_eq_false (fun q=>nomatch q)
theorem Xr(a:Str)(b:Int):decide ((Sum.inr a:Key)=Sum.inl b)=false:=decide_eq_false (fun q=>nomatch q)
def tX(prog:Program)(w:World):PySem.KeyKind prog w Key where
 is:=U_
 hash:=Zku w
 inj:=fun v a b ha hb=>by
  rcases š ha with⟨i,t,rfl,rfl⟩|⟨x,t,rfl,rfl⟩
  ·rcases š hb with⟨j,u,rfl,e⟩|⟨y,u,rfl,e⟩
   ·injection e with e1 _;rw[e1]
   ·exact nomatch e
  ·rcases š hb with⟨j,u,rfl,e⟩|⟨y,u,rfl,e⟩
   ·exact nomatch e
   ·injection e with e1 _;rw[e1]
 byValue:=fun k v h=>by
  rcases š h with⟨i,t,rfl,rfl⟩|⟨x,t,rfl,rfl⟩<;>rfl
 pyHash:=fun hv h=>by
  rcases š hv with⟨i,t,rfl,rfl⟩|⟨x,t,rfl,rfl⟩
  ·exact wpAny_pyHash_int h
  ·exact wpAny_pyHash_str h
 eqBool:=fun hu hv h=>by
  rcases š hu with⟨i,t,rfl,rfl⟩|⟨x,t,rfl,rfl⟩
  ·rcases š hv with⟨j,u,rfl,rfl⟩|⟨y,u,rfl,rfl⟩
   ·rw[Xo] at h;exact wpAny_eqBool_int h
   ·rw[Xq] at h;exact SeqAt.EqAt.int_str i t y u _ _ _ _ h
  ·rcases š hv with⟨j,u,rfl,rfl⟩|⟨y,u,rfl,rfl⟩
   ·rw[Xr] at h;exact SeqAt.EqAt.str_int x t j u _ _ _ _ h
   ·rw[Xp] at h;exact wpAny_eqBool_str h
 «strs» := fun k x t v h=>by
   rcases š h with⟨i,u,rfl,e⟩|⟨y,u,rfl,e⟩
   ·exact nomatch e
   ·injection e with e1 _
    subst e1
    cases v<;>rfl
end L2
namespace L2
open PySem PySem.Spec PyProof.Rows
inductive V where
 |non|bl (b:Bool)|int (i:Int)|str (x:Str)|Va (b:Array UInt8)|flt (b:UInt64)|ref (a:Addr)|ty (n:String)
 deriving DecidableEq
def RelV:V→Value→Prop
 | .non,u=>u=Value.none
 | .bl b,u=>u=Value.bool b
 | .int i,u=>∃t,u=Value.int i t
 | .str x,u=>∃t,u=Value.str x t
 | .Va b,u=>∃t,u=Value.bytes b t
 | .flt b,u=>∃t,u=Value.float b t
 | .ref a,u=>u=Value.ref a
 | .ty n,u=>u=Value.type n
abbrev Vals:List V→List Value→Prop:=Paired RelV
theorem Vals.length{xs:List V}{us:List Value}(r:Vals xs us):xs.length=us.length:=Paired.length r
theorem Vals.get:∀{xs:List V} {us:List Value} {i:Nat} {x:V},Vals xs us→xs[i]?=some x→∃u,us[i]?=some u∧RelV x u
 |_,_,_,_,.nil,e=>by simp at e
 |_,_,0,_,.cons r _,e=>by simp at e;subst e;exact⟨_,rfl,r⟩
 |_,_,i+1,x,.cons _ t,e=>by
  obtain⟨u,h1,h2⟩:=Vals.get (i:=i) (x:=x) t (by simpa using e)
  exact⟨u,by simpa using h1,h2⟩
theorem Vals.set{x:V}{u:Value}(r:RelV x u):∀{xs:List V} {us:List Value} (i:Nat),Vals xs us→Vals (xs.set i x) (us.set i u)
 |_,_,_,.nil=>.nil
 |_,_,0,.cons _ t=>.cons r t
 |_,_,i+1,.cons q t=>.cons q (Vals.set r i t)
theorem Vals.append:∀{xs ys:List V} {us ws:List Value},Vals xs us→Vals ys ws→Vals (xs++ys) (us++ws)
 |_,_,_,_,.nil,s=>s
 |_,_,_,_,.cons r t,s=>.cons r (Vals.append t s)
theorem Vals.take:∀{xs:List V} {us:List Value} (n:Nat),Vals xs us→Vals (xs.take n) (us.take n)
 |_,_,0,_=>.nil
 |_,_,_+1,.nil=>.nil
 |_,_,n+1,.cons r t=>.cons r (Vals.take n t)
theorem Vals.drop:∀{xs:List V} {us:List Value} (n:Nat),Vals xs us→Vals (xs.drop n) (us.drop n)
 |_,_,0,r=>r
 |_,_,_+1,.nil=>.nil
 |_,_,n+1,.cons _ t=>Vals.drop n t
def jV:Option V→Option Value→Prop
 |some v,some u=>RelV v u
 |none,none=>True
 |_,_=>False
def KV{κ:Type}:List (κ×V)→List (κGJ)→Prop:=Paired fun(p:κ×V) (q:κGJ)=>p.1=q.1∧RelV p.2 q.2
def kV:Key→V
 | .inl i=>.int i
 | .inr x=>.str x
inductive HO where
 /-- a list -/
 |lst (xs:List V)
 /-- a tuple (never changes) -/
 |tup (xs:List V)
 /-- a dict whose keys are ints and texts;one whose keys are tuples of ints and texts (the empty one is both) -/
 |dK (kvs:List (Dk))|dT (kvs:List (List Dk))
 /-- a set of ints:its members,its size -/
 |set (S:Int→Bool) (n:Nat)
 /-- an instance of the class at C,its dict at dx,its attributes -/
 |ins (C dx:Addr) (fs:List (Ÿ))
 /-- the dict of the instance at x -/
 |own (x:Addr)
 /-- the dict of an exception -/
 |xd (fs:List (Ÿ))
 /-- a bound method,f of x -/
 |met (f x:Addr)
 /-- a range object lo,lo+1,.. below hi -/
 |rng (lo hi:Int)
 /-- a thing that is known to the object (the script;a dict while a loop walks it):read,never written while it is so -/
 |dB (o:Obj) (u:HO)
 /-- a code object's table -/
 |qg (ps:Array Value)
 /-- any other thing,by what is true of its one object (a def of one's own:Zpt a S n:=HO.ext fun h=>..) -/
 |ext (φ:Heap→Prop)
abbrev Hp:=Addr→Option HO
def upd(H:Hp)(a:Addr)(o:HO):Hp:=fun b=>if b=a then some o else H b
theorem Ĭ{H:Hp}{a:Addr}{o:HO}:upd H a o a=some o:=by unfold upd;rw[if_pos rfl]
theorem Ġ{H:Hp}{a b:Addr}{o:HO}(h:b≠a):upd H a o b=H b:=by unfold upd;rw[if_neg h]
theorem ļ{H:Hp}{a b:Addr}{o:HO}(h:H a=some o)(h':H b=none):a≠b:=by
 intro e;subst e;rw[h] at h';cases h'
section
variable(P:Program)(w:World)
def ŭ(H:Hp)(h:Heap)(a:Addr):HO→Prop
 | .lst xs=>xs.length≤sizeLine∧∃(its:List Value) (n:Nat),Vals xs its∧h.get? a=some {cls:=.type "list",data:=.seq its.toArray n}
 | .tup xs=>xs.length≤sizeLine∧∃its:List Value,Vals xs its∧IsTup h a its.toArray
 | .dK kvs=>kvs.length≤sizeLine∧(a== sysModules)=false∧∃vs,KV kvs vs∧h.DictOf (tX P w) a vs
 | .dT kvs=>kvs.length≤sizeLine∧(a== sysModules)=false∧∃xs:List (List nM),
     Paired (fun(p:List Dk) (q:List nM)=>p.1=q.1∧H q.2.1=some (.tup (p.1.map kV))∧RelV p.2 q.2.2) kvs xs∧
     ∃o es ep,h.get? a=some o∧o.ExactDict∧o.data=.dict es ep∧es.toList=xs.map (entryOfKey (tupleKind (tX P w)))∧(xs.map (·.1)).Nodup
 | .set S n=>h.SetOf (intKind P w) a S n
 | .ins C dx fs=>H dx=some (.own a)∧fs.length≤1000∧dx≠a∧h.get? a=some (PySem.W.instObj C dx)∧
     ∃mA,h.Ns1 dx mA∧(∀f,jV (fs.lookup f) (mA f))∧PySem.Within mA (fs.map (·.1))
 | .own _=>∃o,h.get? a=some o
 | .xd fs=>∃mA,h.Ns1 a mA∧∀f,jV (fs.lookup f) (mA f)
 | .rng lo hi=>∃t u v,h.get? a=some {cls:=.type "range",data:=.fields #[.int lo t,.int hi u,.int 1 v]}
 | .dB o u=>h.get? a=some o∧ŭ H h a u
 | .qg ps=>h.get? a=some {cls:=.none,data:=.fields ps}
 | .met f x=>h.get? a=some (PySem.W.methodObj (.ref f) (.ref x))
 | .ext φ=>φ h∧(∃o,h.get? a=some o)∧∀h1 h2:Heap,φ h1→(∀o,h1.get? a=some o→h2.get? a=some o)→φ h2
def fP(H:Hp)(h:Heap):Prop:=∀a o,H a=some o→ŭ P w H h a o
end
section
variable{P:Program}{w:World}{H H':Hp}{h h':Heap}{a:Addr}{o:HO}
theorem ŭ.lt(x:ŭ P w H h a o):a<h.objs.size:=by
 cases o with
 |lst xs=>obtain⟨_,_,_,_,e⟩:=x;exact Heap.lt_size e
 |tup xs=>obtain⟨_,_,_,p⟩:=x;exact p.lt
 |dK kvs=>obtain⟨_,_,_,_,o,_,_,e,_⟩:=x;exact Heap.lt_size e
 |dT kvs=>obtain⟨_,_,_,_,o,_,_,e,_⟩:=x;exact Heap.lt_size e
 |set S n=>obtain⟨o,_,_,_,e,_⟩:=x;exact Heap.lt_size e
 |ins C dx fs=>obtain⟨_,_,_,e,_⟩:=x;exact Heap.lt_size e
 |own y=>obtain⟨_,e⟩:=x;exact Heap.lt_size e
 |xd fs=>obtain⟨_,⟨_,_,_,e,_⟩,_⟩:=x;exact Heap.lt_size e
 |rng lo hi=>obtain⟨_,_,_,e⟩:=x;exact Heap.lt_size e
 |dB ob u=>obtain⟨e,_⟩:=x;exact Heap.lt_size e
 |qg ps=>exact Heap.lt_size (show h.get? a=some _ from x)
 |met f y=>exact Heap.lt_size (show h.get? a=some _ from x)
 |ext φ=>obtain⟨_,⟨_,e⟩,_⟩:=x;exact Heap.lt_size e
theorem Paired.Zc4{α β:Type}{F G:α→β→Prop}:∀{l₁:List α} {l₂:List β},Paired F l₁ l₂→(∀a b,F a b→G a b)→Paired G l₁ l₂
 |_,_,.nil,_=>.nil
 |_,_,.cons r t,f=>.cons (f _ _ r) (Paired.Zc4 t f)
theorem ŭ.stay(x:ŭ P w H h a o)(k:∀b u,(b=a∨H b=some (.own a))→h.get? b=some u→h'.get? b=some u)
 (ho:∀b,H b=some (.own a)→H' b=some (.own a))(ht:∀b xs,H b=some (.tup xs)→H' b=some (.tup xs)):ŭ P w H' h' a o:=by
 induction o with
 |lst xs=>obtain⟨z,its,n,r,e⟩:=x;exact⟨z,its,n,r,k _ _ (.inl rfl) e⟩
 |tup xs=>obtain⟨z,its,r,ob,e,c⟩:=x;exact⟨z,its,r,ob,k _ _ (.inl rfl) e,c⟩
 |dK kvs=>obtain⟨z,y,vs,r,ob,es,ep,e,c⟩:=x;exact⟨z,y,vs,r,ob,es,ep,k _ _ (.inl rfl) e,c⟩
 |dT kvs=>
  obtain⟨z,y,xs,r,ob,es,ep,e,c⟩:=x
  exact⟨z,y,xs,Paired.Zc4 r fun p q z=>⟨z.1,ht _ _ z.2.1,z.2.2⟩,ob,es,ep,k _ _ (.inl rfl) e,c⟩
 |set S n=>obtain⟨ob,es,ep,t,e,c⟩:=x;exact⟨ob,es,ep,t,k _ _ (.inl rfl) e,c⟩
 |ins C dx fs=>
  obtain⟨d,z,ne,e,mA,⟨od,es,ep,e2,c⟩,r⟩:=x
  exact⟨ho _ d,z,ne,k _ _ (.inl rfl) e,mA,⟨od,es,ep,k _ _ (.inr d) e2,c⟩,r⟩
 |own y=>obtain⟨ob,e⟩:=x;exact⟨ob,k _ _ (.inl rfl) e⟩
 |xd fs=>obtain⟨mA,⟨od,es,ep,e,c⟩,r⟩:=x;exact⟨mA,⟨od,es,ep,k _ _ (.inl rfl) e,c⟩,r⟩
 |rng lo hi=>obtain⟨t,u,v,e⟩:=x;exact⟨t,u,v,k _ _ (.inl rfl) e⟩
 |dB ob u ih=>obtain⟨e,q⟩:=x;exact⟨k _ _ (.inl rfl) e,ih q⟩
 |qg ps=>
  have e:h.get? a=some {cls:=.none,data:=.fields ps}:=x
  show h'.get? a=some {cls:=.none,data:=.fields ps}
  exact k a _ (.inl rfl) e
 |met f y=>
  have e:h.get? a=some (PySem.W.methodObj (.ref f) (.ref y)):=x
  show h'.get? a=some (PySem.W.methodObj (.ref f) (.ref y))
  exact k a _ (.inl rfl) e
 |ext φ=>obtain⟨p,⟨o,e⟩,st⟩:=x;exact⟨st _ _ p fun o q=>k _ _ (.inl rfl) q,⟨o,k _ _ (.inl rfl) e⟩,st⟩
theorem fP.lt(x:fP P w H h)(e:H a=some o):a<h.objs.size:=(x a o e).lt
theorem fP.fresh(x:fP P w H h)(e:h.objs.size≤a):H a=none:=by
 cases q:H a with
 |none=>rfl
 |some u=>exact absurd (Nat.lt_of_lt_of_le (x.lt q) e) (Nat.lt_irrefl _)
theorem fP.kept(x:fP P w H h)(k:∀b u,h.get? b=some u→h'.get? b=some u):fP P w H h':=fun a o e=>
 (x a o e).stay (fun b u _ q=>k b u q) (fun _ q=>q) fun _ _ q=>q
theorem fP.laid(x:fP P w H h)(k:∀b u,h.get? b=some u→h'.get? b=some u)(hp:h.objs.size≤a)(new:ŭ P w (upd H a o) h' a o):fP P w (upd H a o) h':=fun b u e=>by
 have hn:=x.fresh hp
 by_cases hb:b=a
 ·subst hb;rw[Ĭ] at e;cases e;exact new
 ·rw[Ġ hb] at e
  exact(x b u e).stay (fun c v _ q=>k c v q) (fun c q=>by rw[Ġ (ļ q hn)];exact q) fun c xs q=>by rw[Ġ (ļ q hn)];exact q
end
def Rd(H:Hp)(a:Addr)(u:HO):Prop:=H a=some u∨∃o,H a=some (.dB o u)
theorem Rd.ok{P:Program}{w:World}{H:Hp}{h:Heap}{a:Addr}{u:HO}(r:Rd H a u)(x:fP P w H h):ŭ P w H h a u:=by
 rcases r with r|⟨o,r⟩
 ·exact x a u r
 ·obtain⟨_,q⟩:=x a _ r
  exact q
def Mut:Option HO→Prop
 |some (.lst _)=>True
 |some (.dK _)=>True
 |some (.dT _)=>True
 |some (.set _ _)=>True
 |some (.ins _ _ _)=>True
 |some (.ext _)=>True
 |some (.xd _)=>True
 |_=>False
section
variable{P:Program}{w:World}{H:Hp}{h h':Heap}{x e:Addr}{o':HO}
theorem fP.write(ok:fP P w H h)(mu:Mut (H x))(he:e=x∨H e=some (.own x))(k:∀b u,b≠e→h.get? b=some u→h'.get? b=some u)(heo:∃u,h'.get? e=some u)
 (new:ŭ P w (upd H x o') h' x o'):fP P w (upd H x o') h':=fun b u q=>by
 have Zc5:∀c y,H c=some (.own y)→c≠x:=fun c y r z=>by subst z;rw[r] at mu;exact mu
 have Zkv:∀c xs,H c=some (.tup xs)→c≠x:=fun c xs r z=>by subst z;rw[r] at mu;exact mu
 by_cases hb:b=x
 ·subst hb;rw[Ĭ] at q;cases q;exact new
 ·rw[Ġ hb] at q
  by_cases hbe:b=e
  ·have q':H b=some (.own x):=by
    rcases he with z|z
    ·exact absurd (hbe.trans z) hb
    ·rw[hbe];exact z
   rw[q] at q';cases q'
   obtain⟨v,hv⟩:=heo
   exact⟨v,by rw[hbe];exact hv⟩
  ·refine(ok b u q).stay (fun c v hc r=>k c v ?_ r) (fun c r=>by rw[Ġ (Zc5 c b r)];exact r) fun c xs r=>by rw[Ġ (Zkv c xs r)];exact r
   rcases hc with rfl|hc
   ·exact hbe
   ·rintro rfl
    rcases he with z|z
    ·exact Zc5 c b hc z
    ·rw[hc] at z;cases z;exact hb rfl
end
structure Un(fs ex:List Addr)(H H':Hp)(h h':Heap):Prop where
 keep:∀b o,h.get? b=some o→H b=none→b∉fs→b∉ex→h'.get? b=some o
 slot:∀b o,h.get? b=some o→H b=none→b∈fs→b∉ex→∃sl,h'.get? b=some {o with slots:=sl}
 free:∀b o,h.get? b=some o→H b=none→b∉ex→H' b=none
 there:∀b o,h.get? b=some o→b∉ex→∃o',h'.get? b=some o'
 tups:∀b xs,H b=some (.tup xs)→H' b=some (.tup xs)
 jf:∀b o u,H b=some (.dB o u)→H' b=some (.dB o u)
 jt:∀b ps,H b=some (.qg ps)→∃more,H' b=some (.qg (ps++more))
section
variable{fs fs' ex ex':List Addr}{H H1 H2:Hp}{h h1 h2 h':Heap}{a x e:Addr}{o:HO}
theorem Un.any(u:Un fs ex H H1 h h1){b:Addr}{ob:Obj}(q:h.get? b=some ob)(n:H b=none)(hx:b∉ex):∃sl,h1.get? b=some {ob with slots:=sl}:=by
 by_cases hb:b∈fs
 ·exact u.slot b ob q n hb hx
 ·exact⟨ob.slots,u.keep b ob q n hb hx⟩
theorem Un.kept(k:∀b u,h.get? b=some u→h'.get? b=some u):Un fs ex H H h h':=
 ⟨fun b ob q _ _ _=>k b ob q,fun b ob q _ _ _=>⟨ob.slots,k b ob q⟩,fun _ _ _ n _=>n,fun b ob q _=>⟨ob,k b ob q⟩,fun _ _ q=>q,fun _ _ _ q=>q,fun _ ps q=>⟨#[],by rw[q];simp⟩⟩
theorem Un.refl:Un fs ex H H h h:=Un.kept fun _ _ q=>q
theorem Un.laid(k:∀b u,h.get? b=some u→h'.get? b=some u)(hp:h.objs.size≤a)(hn:H a=none):Un fs ex H (upd H a o) h h' where
 keep:=fun b u q _ _ _=>k b u q
 slot:=fun b u q _ _ _=>⟨u.slots,k b u q⟩
 free:=fun b u q n _=>by rw[Ġ (Nat.ne_of_lt (Nat.lt_of_lt_of_le (Heap.lt_size q) hp))];exact n
 there:=fun b u q _=>⟨u,k b u q⟩
 tups:=fun b xs q=>by rw[Ġ (ļ q hn)];exact q
 jf:=fun b u xs q=>by rw[Ġ (ļ q hn)];exact q
 jt:=fun b ps q=>⟨#[],by rw[Ġ (ļ q hn),q];simp⟩
theorem Un.write(mu:Mut (H x))(he:e=x∨H e=some (.own x))(k:∀b u,b≠e→h.get? b=some u→h'.get? b=some u)(heo:∃u,h'.get? e=some u):Un fs ex H (upd H x o) h h':=by
 have hx:∀b,H b=none→b≠x:=fun b n z=>by subst z;rw[n] at mu;exact mu
 have hb:∀b,H b=none→b≠e:=fun b n z=>by
  subst z
  rcases he with r|r
  ·exact hx b n r
  ·rw[n] at r;cases r
 have hm:∀b u,H b=some u→¬Mut (some u)→b≠x:=fun b u q nm z=>by subst z;rw[q] at mu;exact nm mu
 refine⟨fun b u q n _ _=>k b u (hb b n) q,fun b u q n _ _=>⟨u.slots,k b u (hb b n) q⟩,fun b u q n _=>by rw[Ġ (hx b n)];exact n,fun b u q _=>?_,
  fun b xs q=>by rw[Ġ (hm b _ q fun z=>z)];exact q,fun b u xs q=>by rw[Ġ (hm b _ q fun z=>z)];exact q,fun b ps q=>⟨#[],by rw[Ġ (hm b _ q fun z=>z),q];simp⟩⟩
 by_cases hbe:b=e
 ·subst hbe;exact heo
 ·exact⟨u,k b u hbe q⟩
end
def trk(h:Heap)(H:Hp):List Addr:=(List.range h.objs.size).filter fun a=>(H a).isSome
def tY(h:Heap)(H:Hp):Heap:=PySem.W.hideAll h (trk h H)
theorem EY(h:Heap)(H:Hp):(tY h H).objs.size=h.objs.size:=PySem.W.hideAll_size _ _
theorem GK{h:Heap}{H:Hp}{b:Addr}{o:Obj}(e:h.get? b=some o)(n:H b=none):(tY h H).get? b=some o:=
 PySem.W.hideAll_get _ e fun hm=>by
  have q:(H b).isSome=true:=(List.mem_filter.mp hm).2
  rw[n] at q;simp at q
theorem Rk{h:Heap}{H:Hp}{b:Addr}{o:Obj}(e:(tY h H).get? b=some o):h.get? b=some o∧H b=none:=by
 have e':h.get? b=some o:=PySem.W.of_hideAll (trk h H) e
 refine⟨e',?_⟩
 cases q:H b with
 |none=>rfl
 |some x=>
  have hm:b∈trk h H:=List.mem_filter.mpr ⟨List.mem_range.mpr (Heap.lt_size e'),by simp[q]⟩
  have z:(tY h H).get? b=none:=PySem.W.hideAll_none (trk h H) hm
  rw[z] at e;cases e
def Rm(g h:Heap)(L:Addr):List (č):=(List.range h.objs.size).filterMap fun a=>if a=L∨(g.get? a).isSome=true then none else(h.get? a).map fun o=>(a,o)
def rest(g h:Heap)(L d:Addr):List (č):=(Rm g h L).filter fun p=>decide (p.1≠d)
end L2
namespace L2
open PySem PySem.Spec PyProof.Rows
structure Mod(K:PySem.W.Frag)(mg:Str→Option Value)(base:Heap):Prop where
 kin:K.In base
 glob:base.Ns mainGlobals mg
 blt:∃mb,base.Ns builtinsNs mb∧∀x:Str,x≠ "__name__" →mb x=bootBuiltins x
 nolimit:base.NoLimit
structure Cx where
 prog:Program
 w:World
 K:PySem.W.Frag
 mg:Str→Option Value
 base:Heap
 A:Around
 N:List Str
 s₀:Shared
 H₀:Hp
 env:Env
 outer:List Env
 stack:List Env
 ex:List Addr
 fn:Str→Bool
 calm:Bool
 pn:List (č)
 xe:Value→Shared→Prop
def frs(l:List Env):List Addr:=l.filterMap (·.frame)
abbrev Cx.fs(X:Cx):List Addr:=frs X.outer
def Gy(sc:Scope)(x:Str):Prop:=sc.names.lookup x=some .local∨sc.names.lookup x=some .cell∨sc.names.lookup x=some .free
def Loc(sc:Scope)(x:Str):Prop:=sc.names.lookup x=some .local∨sc.names.lookup x=some .cell
def Look(env:Env)(h:Heap)(m:Str→Option Value)(x:Str)(u:Value):Prop:=
 (env.kindOf x=some .local∧m x=some u)∨((env.kindOf x=some .cell∨env.kindOf x=some .free)∧∃c,env.cells.lookup x=some c∧h.IsCell c (some u))
structure Cx.Ok(X:Cx):Prop where
 mod:Mod X.K X.mg X.base
 kind:X.env.scope.kind=.function
 glob:X.env.globals=mainGlobals
 blt:X.env.builtins=builtinsNs
 above:X.s₀.heap.objs.size≤X.env.locals
 inj:∀x y c,X.env.cells.lookup x=some c→X.env.cells.lookup y=some c→x=y
 has:∀x,(X.env.kindOf x=some .cell∨X.env.kindOf x=some .free)→∃c,X.env.cells.lookup x=some c
 cab:∀x c,X.fn x=true→X.env.cells.lookup x=some c→X.s₀.heap.objs.size≤c
 hd:X.calm=true→X.A.handled=none
 frames:X.A.frames=some X.stack
 stk:X.stack=X.outer∨(X.stack=X.env::X.outer∧X.env.frame=some X.env.locals)
 exf:∀b∈X.ex,b≠X.env.locals∧∀x c,X.env.cells.lookup x=some c→c≠b
 bs:∀b o,X.base.get? b=some o→X.s₀.heap.get? b=some o∧X.H₀ b=none
 Rn:X.base.objs.size≤X.s₀.heap.objs.size
 E_:∀b o,X.base.get? b=some o→b∉X.ex
 Ro:∀b∈X.ex,b∉X.fs
 mK:X.s₀.heap.FunFrames X.base X.outer
 Xu:∀b∈X.fs,X.H₀ b=none
structure Inv(X:Cx)(pins:List (č))(σ:List (Option V))(H:Hp)(s:Shared):Prop where
 ok:X.Ok
 os:s.os=X.s₀.os
 bare:AllBare s.gens
 base:Un X.fs X.ex X.H₀ H X.s₀.heap s.heap
 loc:∃m,s.heap.Ns X.env.locals m∧∀(i:Nat) (x:Str) (v:V),X.N[i]?=some x→σ[i]?=some (some v)→Gy X.env.scope x→∃u,RelV v u∧Look X.env s.heap m x u
 cell:∀x c,X.env.cells.lookup x=some c→∃v,s.heap.IsCell c v
 free:H X.env.locals=none
 fU:∀x c,X.env.cells.lookup x=some c→H c=none
 pin:∀p∈X.pn++pins,s.heap.get? p.1=some p.2∧H p.1=none∧p.1≠X.env.locals∧p.1∉X.fs∧∀v,p.2.data≠ .cell v
 hok:fP X.prog X.w H s.heap
 len:σ.length=X.N.length
section
variable{X:Cx}{pins:List (č)}{σ:List (Option V)}{H H':Hp}{s:Shared}{h':Heap}
theorem Cx.Ok.Zkw(ok:X.Ok){b:Addr}{o:Obj}(e:X.base.get? b=some o):b∉X.fs:=fun hb=>by
 have:=(ok.mK.mem hb).1
 rw[e] at this;cases this
theorem Inv.bs(I:Inv X pins σ H s):∀b o,X.base.get? b=some o→s.heap.get? b=some o∧H b=none:=fun b o e=>
 ⟨I.base.keep b o (I.ok.bs b o e).1 (I.ok.bs b o e).2 (I.ok.Zkw e) (I.ok.E_ b o e),I.base.free b o (I.ok.bs b o e).1 (I.ok.bs b o e).2 (I.ok.E_ b o e)⟩
theorem Inv.bk(I:Inv X pins σ H s):∀b o,X.base.get? b=some o→s.heap.get? b=some o:=fun b o e=>(I.bs b o e).1
theorem Inv.mod(I:Inv X pins σ H s):Mod X.K X.mg X.base:=I.ok.mod
theorem Inv.fV(I:Inv X pins σ H s):X.K.In s.heap:=I.ok.mod.kin.keeps I.bk
theorem Inv.lt(I:Inv X pins σ H s):X.env.locals<s.heap.objs.size:=let ⟨_,hn,_⟩:=I.loc;hn.lt
theorem Inv.sz(I:Inv X pins σ H s):X.s₀.heap.objs.size≤s.heap.objs.size:=Nat.le_trans I.ok.above (Nat.le_of_lt I.lt)
theorem Inv.Zkx(I:Inv X pins σ H s){a:Addr}(h:s.heap.objs.size≤a):a∉X.fs:=fun hb=>by
 obtain⟨_,o,ho,_⟩:=I.ok.mK.mem hb
 exact absurd (Nat.lt_of_lt_of_le (Heap.lt_size ho) (Nat.le_trans I.sz h)) (Nat.lt_irrefl _)
theorem Inv.Xv(I:Inv X pins σ H s):∀x c,X.env.cells.lookup x=some c→c≠X.env.locals:=fun x c e z=>by
 obtain⟨v,o,ho,hd⟩:=I.cell x c e
 obtain⟨m,⟨o',es,ep,ho',hd',_⟩,_⟩:=I.loc
 rw[z,ho'] at ho;cases ho;rw[hd'] at hd;cases hd
theorem Inv.mK(I:Inv X pins σ H s):s.heap.FunFrames X.base X.outer:=by
 have all:∀(l:List Env),(∀b∈frs l,b∈X.fs)→X.s₀.heap.FunFrames X.base l→s.heap.FunFrames X.base l:=by
  intro l
  induction l with
  |nil=>intro _ _;trivial
  |cons env r ih=>
   intro hs hl
   obtain⟨hk,⟨L,o,hf,hn,ho,hd⟩,hr⟩:=hl
   have hL:L∈X.fs:=hs L (by unfold frs;rw[List.filterMap_cons,hf];exact List.mem_cons_self)
   obtain⟨sl,e⟩:=I.base.slot L o ho (I.ok.Xu L hL) hL fun z=>I.ok.Ro L z hL
   exact⟨hk,⟨L,_,hf,hn,e,hd⟩,ih (fun b hb=>hs b (by unfold frs;rw[List.filterMap_cons,hf];exact List.mem_cons_of_mem _ hb)) hr⟩
 exact all X.outer (fun _ hb=>hb) I.ok.mK
theorem Inv.stack(I:Inv X pins σ H s):s.heap.FunFrames X.base X.stack:=by
 rcases I.ok.stk with e|⟨e,hf⟩
 ·rw[e];exact I.mK
 ·rw[e]
  obtain⟨m,hn,_⟩:=I.loc
  refine .cons (by rw[I.ok.kind];decide) hf hn ?_ I.mK
  exact Heap.get?_none_of_le (Nat.le_trans I.ok.Rn I.ok.above)
theorem Inv.nO(I:Inv X pins σ H s):∀b∈frs X.stack,b∈X.env.locals::X.fs:=fun b hb=>by
 rcases I.ok.stk with e|⟨e,hf⟩
 ·rw[e] at hb;exact List.mem_cons_of_mem _ hb
 ·rw[e] at hb
  unfold frs at hb
  rw[List.filterMap_cons,hf] at hb
  exact hb
theorem Inv.tZ(I:Inv X pins σ H s):∀b∈frs X.stack,H b=none:=fun b hb=>by
 rcases List.mem_cons.mp (I.nO b hb) with e|hb
 ·rw[e];exact I.free
 ·obtain⟨_,o,ho,_⟩:=I.ok.mK.mem hb
  exact I.base.free b o ho (I.ok.Xu b hb) fun z=>I.ok.Ro b z hb
theorem Inv.step{g':Array GenState}{t':Nat}{d':Drawn}{ch:List Addr}(I:Inv X pins σ H s)
 (hch:∀b∈ch,(b∈X.ex∨X.s₀.heap.objs.size≤b)∧b≠X.env.locals∧(∀x c,X.env.cells.lookup x=some c→c≠b)∧∀p∈X.pn++pins,p.1≠b)
 (keep:∀b o,b≠X.env.locals→b∉X.fs→b∉ch→s.heap.get? b=some o→H b=none→h'.get? b=some o)
 (slot:∀b o,b≠X.env.locals→b∈X.fs→b∉ch→s.heap.get? b=some o→H b=none→∃sl,h'.get? b=some {o with slots:=sl})(free:∀b o,b∉ch→s.heap.get? b=some o→H b=none→H' b=none)
 (there:∀b o,b∉ch→s.heap.get? b=some o→∃o',h'.get? b=some o')
 (tups:∀b xs,H b=some (.tup xs)→H' b=some (.tup xs))(jf:∀b o u,H b=some (.dB o u)→H' b=some (.dB o u))(jt:∀b ps,H b=some (.qg ps)→∃more,H' b=some (.qg (ps++more)))
 (ns:∀m,s.heap.Ns X.env.locals m→h'.Ns X.env.locals m)(hok:fP X.prog X.w H' h')(hg:AllBare g') :
 Inv X pins σ H' {s with heap:=h',gens:=g',drawn:=d',toks:=t'}:=by
 have neL:∀b o,X.s₀.heap.get? b=some o→b≠X.env.locals:=fun b o e=>Nat.ne_of_lt (Nat.lt_of_lt_of_le (Heap.lt_size e) I.ok.above)
 have neC:∀b o,X.s₀.heap.get? b=some o→b∉X.ex→b∉ch:=fun b o e hx hb=>by
  rcases(hch b hb).1 with z|z
  ·exact hx z
  ·exact absurd (Nat.lt_of_lt_of_le (Heap.lt_size e) z) (Nat.lt_irrefl _)
 have cellK:∀x c,X.env.cells.lookup x=some c→∀v,s.heap.IsCell c v→h'.IsCell c v:=fun x c e v ⟨o,ho,hd⟩=>by
  have nch:c∉ch:=fun z=>(hch c z).2.2.1 x c e rfl
  by_cases hc:c∈X.fs
  ·obtain⟨sl,q⟩:=slot c o (I.Xv x c e) hc nch ho (I.fU x c e)
   exact⟨_,q,hd⟩
  ·exact⟨o,keep c o (I.Xv x c e) hc nch ho (I.fU x c e),hd⟩
 refine⟨I.ok,I.os,hg,⟨fun b o e n hb hx=>?_,fun b o e n hb hx=>?_,fun b o e n hx=>?_,fun b o e hx=>?_,fun b xs e=>tups b xs (I.base.tups b xs e),fun b o xs e=>jf b o xs (I.base.jf b o xs e),fun b ps e=>?_⟩,?_,fun x c e=>?_,?_,fun x c e=>?_,fun p hp=>?_,hok,I.len⟩
 ·exact keep b o (neL b o e) hb (neC b o e hx) (I.base.keep b o e n hb hx) (I.base.free b o e n hx)
 ·obtain⟨sl,e1⟩:=I.base.slot b o e n hb hx
  obtain⟨sl',e2⟩:=slot b _ (neL b o e) hb (neC b o e hx) e1 (I.base.free b o e n hx)
  exact⟨sl',e2⟩
 ·obtain⟨o',e1⟩:=I.base.there b o e hx
  exact free b o' (neC b o e hx) e1 (I.base.free b o e n hx)
 ·obtain⟨o',e1⟩:=I.base.there b o e hx
  exact there b o' (neC b o e hx) e1
 ·obtain⟨m1,e1⟩:=I.base.jt b ps e
  obtain⟨m2,e2⟩:=jt b _ e1
  exact⟨m1++m2,by rw[e2,Array.append_assoc]⟩
 ·obtain⟨m,hn,hl⟩:=I.loc
  refine⟨m,ns m hn,fun i x v e1 e2 e3=>?_⟩
  obtain⟨u,r,l⟩:=hl i x v e1 e2 e3
  refine⟨u,r,?_⟩
  rcases l with l|⟨k,c,e,z⟩
  ·exact .inl l
  ·exact .inr ⟨k,c,e,cellK x c e _ z⟩
 ·obtain⟨v,z⟩:=I.cell x c e
  exact⟨v,cellK x c e v z⟩
 ·obtain⟨m,⟨o,_,_,ho,_⟩,_⟩:=I.loc
  exact free _ o (fun z=>(hch _ z).2.1 rfl) ho I.free
 ·obtain⟨v,o,ho,hd⟩:=I.cell x c e
  exact free c o (fun z=>(hch c z).2.2.1 x c e rfl) ho (I.fU x c e)
 ·obtain⟨e,n,ne,nf,d⟩:=I.pin p hp
  have nch:p.1∉ch:=fun z=>(hch p.1 z).2.2.2 p hp rfl
  exact⟨keep p.1 p.2 ne nf nch e n,free p.1 p.2 nch e n,ne,nf,d⟩
theorem Inv.un{t':Nat}(I:Inv X pins σ H s)(u:Un X.fs [] H H' s.heap h')(hok:fP X.prog X.w H' h'):Inv X pins σ H' {s with heap:=h',toks:=t'}:=by
 obtain⟨m,⟨o,es,ep,ho,r⟩,_⟩:=id I.loc
 obtain⟨sl,hL⟩:=u.any ho I.free (by simp)
 exact I.step (g':=s.gens) (d':=s.drawn) (ch:=[]) (fun _ z=>nomatch z) (fun b o _ hb _ e n=>u.keep b o e n hb (by simp)) (fun b o _ hb _ e n=>u.slot b o e n hb (by simp)) (fun b o _ e n=>u.free b o e n (by simp)) (fun b o _ e=>u.there b o e (by simp)) u.tups u.jf u.jt (fun m' hm=>by
  obtain⟨o',es',ep',ho',r'⟩:=hm
  rw[ho] at ho';cases ho'
  exact⟨_,es',ep',hL,r'⟩) hok I.bare
theorem Inv.call{g':Array GenState}{t':Nat}{d':Drawn}{ch:List Addr}(I:Inv X pins σ H s)(u:Un (frs X.stack) ch H H' s.heap h')(hok:fP X.prog X.w H' h')(hg:AllBare g')
 (hch:∀b∈ch,(b∈X.ex∨X.s₀.heap.objs.size≤b)∧b≠X.env.locals∧(∀x c,X.env.cells.lookup x=some c→c≠b)∧∀p∈X.pn++pins,p.1≠b) :
 Inv X pins σ H' {s with heap:=h',gens:=g',drawn:=d',toks:=t'}:=by
 obtain⟨m,⟨o,es,ep,ho,r⟩,_⟩:=id I.loc
 obtain⟨sl,hL⟩:=u.any ho I.free fun z=>(hch _ z).2.1 rfl
 exact I.step (ch:=ch) hch (fun b o hL hb hc e n=>u.keep b o e n (fun z=>(List.mem_cons.mp (I.nO b z)).elim hL hb) hc) (fun b o _ _ hc e n=>u.any e n hc) (fun b o hc e n=>u.free b o e n hc) (fun b o hc e=>u.there b o e hc) u.tups u.jf u.jt (fun m' hm=>by
  obtain⟨o',es',ep',ho',r'⟩:=hm
  rw[ho] at ho';cases ho'
  exact⟨_,es',ep',hL,r'⟩) hok hg
theorem Inv.turned{t':Nat}{it:Addr}(I:Inv X pins σ H s)(k:∀b o,b≠it→s.heap.get? b=some o→h'.get? b=some o)(hn:H it=none)(hL:it≠X.env.locals)
 (h1:it∈X.ex∨X.s₀.heap.objs.size≤it)(h2:∀x c,X.env.cells.lookup x=some c→c≠it)(h3:∀p∈X.pn++pins,p.1≠it):Inv X pins σ H {s with heap:=h',toks:=t'}:=by
 have nit:∀b u,H b=some u→b≠it:=fun b u e z=>by rw[z,hn] at e;cases e
 refine I.step (g':=s.gens) (d':=s.drawn) (ch:=[it]) (fun b hb=>?_) (fun b o _ _ hc e _=>k b o (fun z=>hc (by simp[z])) e) (fun b o _ _ hc e _=>⟨o.slots,k b o (fun z=>hc (by simp[z])) e⟩) (fun _ _ _ _ n=>n)
  (fun b o hc e=>⟨o,k b o (fun z=>hc (by simp[z])) e⟩) (fun _ _ e=>e) (fun _ _ _ e=>e) (fun b ps e=>⟨#[],by rw[e];simp⟩) (fun m hm=>?_) (fun b u e=>?_) I.bare
 ·have e:b=it:=by simpa using hb
  subst e
  exact⟨h1,hL,h2,h3⟩
 ·obtain⟨o,es,ep,ho,r⟩:=hm
  exact⟨o,es,ep,k _ o (Ne.symm hL) ho,r⟩
 ·refine(I.hok b u e).stay (fun c v hc q=>k c v ?_ q) (fun _ q=>q) fun _ _ q=>q
  rcases hc with z|z
  ·rw[z];exact nit b u e
  ·exact nit c _ z
theorem Inv.tok(I:Inv X pins σ H s)(t:Nat):Inv X pins σ H {s with toks:=t}:=I.un (h':=s.heap) (t':=t) Un.refl I.hok
theorem Inv.kept{t':Nat}(I:Inv X pins σ H s)(k:∀b u,s.heap.get? b=some u→h'.get? b=some u):Inv X pins σ H {s with heap:=h',toks:=t'}:=I.un (Un.kept k) (I.hok.kept k)
theorem Inv.laid{a:Addr}{o:HO}{t':Nat}(I:Inv X pins σ H s)(k:∀b u,s.heap.get? b=some u→h'.get? b=some u)(hp:s.heap.objs.size≤a)(new:ŭ X.prog X.w (upd H a o) h' a o) :
 Inv X pins σ (upd H a o) {s with heap:=h',toks:=t'}:=I.un (Un.laid k hp (I.hok.fresh hp)) (I.hok.laid k hp new)
theorem Inv.write{x e:Addr}{o:HO}{t':Nat}(I:Inv X pins σ H s)(mu:Mut (H x))(he:e=x∨H e=some (.own x))(k:∀b u,b≠e→s.heap.get? b=some u→h'.get? b=some u)(heo:∃u,h'.get? e=some u)
 (new:ŭ X.prog X.w (upd H x o) h' x o):Inv X pins σ (upd H x o) {s with heap:=h',toks:=t'}:=I.un (Un.write mu he k heo) (I.hok.write mu he k heo new)
theorem Inv.Dl{Vb:List (č)}(I:Inv X pins σ H s)(h:∀p∈Vb,s.heap.get? p.1=some p.2∧H p.1=none∧p.1≠X.env.locals∧p.1∉X.fs∧∀v,p.2.data≠ .cell v):Inv X Vb σ H s:=
 ⟨I.ok,I.os,I.bare,I.base,I.loc,I.cell,I.free,I.fU,fun p hp=>(List.mem_append.mp hp).elim (fun z=>I.pin p (List.mem_append_left _ z)) (h p),I.hok,I.len⟩
theorem wB{N:List Str}(hN:N.Nodup){i j:Nat}{x:Str}(a:N[i]?=some x)(b:N[j]?=some x):i=j:=by
 obtain⟨h1,e1⟩:=List.getElem?_eq_some_iff.mp a
 obtain⟨h2,e2⟩:=List.getElem?_eq_some_iff.mp b
 exact(List.getElem_inj hN).mp (e1.trans e2.symm)
theorem qK{M:Model}{A:Around}{E:Value→Shared→Prop}{i:Nat}{x:Str}{v:V}{u:Value}{Q:Unit→Shared→Prop}(I:Inv X pins σ H s)(hN:X.N.Nodup)(hi:X.N[i]?=some x)(hx:Loc X.env.scope x)(r:RelV v u)
 (h:∀s',Inv X pins (σ.set i (some v)) H s'→(∃a,Heap.SameBut a s.heap s'.heap∧(a=X.env.locals∨X.env.cells.lookup x=some a))→Q () s')(hf:X.fn x=true∨X.env.scope.names.lookup x=some .local:=by first|exact .inl rfl|exact .inr rfl|assumption):wpAny M A (storeName X.env x u) Q E s:=by
 obtain⟨m,hn,hl⟩:=id I.loc
 have hcls:(X.env.scope.kind== .class || (X.env.scope.kind== .module && X.env.locals != X.env.globals))=false:=by rw[I.ok.kind];rfl
 have hiσ:i < σ.length:=by rw[I.len];exact(List.getElem?_eq_some_iff.mp hi).1
 have Xv:=I.Xv
 have tracked:∀{a:Addr} {h':Heap},(∃o,s.heap.get? a=some o∧H a=none)→Heap.SameBut a s.heap h'→fP X.prog X.w H h':=fun{a h'} ha hs b ob e=>by
  obtain⟨_,_,hfree⟩:=ha
  refine(I.hok b ob e).stay (fun c w' hc q=>(hs.2 c ?_).trans q) (fun _ q=>q) fun _ _ q=>q
  rintro rfl
  rcases hc with rfl|hc
  ·rw[hfree] at e;cases e
  ·rw[hfree] at hc;cases hc
 rcases hx with hk|hk
 ·refine wpAny_storeName_local hk hn (fun h' hn' hs=>?_) hcls
  obtain⟨oL,_,_,hoL,_⟩:=id hn
  refine h _ ⟨I.ok,I.os,I.bare,⟨fun b o e n hb hx=>?_,fun b o e n hb hx=>?_,I.base.free,fun b o e hx=>?_,I.base.tups,I.base.jf,I.base.jt⟩,⟨_,hn',fun j y v' e1 e2 e3=>?_⟩,fun y c e=>?_,I.free,I.fU,fun p hp=>?_,tracked ⟨oL,hoL,I.free⟩ hs,by simpa using I.len⟩ ⟨_,hs,.inl rfl⟩
  ·exact(hs.2 b (Nat.ne_of_lt (Nat.lt_of_lt_of_le (Heap.lt_size e) I.ok.above))).trans (I.base.keep b o e n hb hx)
  ·obtain⟨sl,e1⟩:=I.base.slot b o e n hb hx
   exact⟨sl,(hs.2 b (Nat.ne_of_lt (Nat.lt_of_lt_of_le (Heap.lt_size e) I.ok.above))).trans e1⟩
  ·obtain⟨o',e1⟩:=I.base.there b o e hx
   exact⟨o',(hs.2 b (Nat.ne_of_lt (Nat.lt_of_lt_of_le (Heap.lt_size e) I.ok.above))).trans e1⟩
  ·by_cases hj:j=i
   ·subst hj
    rw[hi] at e1;cases e1
    rw[List.getElem?_set_self hiσ] at e2
    cases e2
    exact⟨u,r,.inl ⟨hk,by simp⟩⟩
   ·rw[List.getElem?_set_ne (Ne.symm hj)] at e2
    obtain⟨u',r',q⟩:=hl j y v' e1 e2 e3
    refine⟨u',r',?_⟩
    rcases q with⟨k,e⟩|⟨k,c,e,z⟩
    ·refine .inl ⟨k,?_⟩
     have:y≠x:=fun e=>hj (wB hN e1 (e▸hi))
     simp[this,e]
    ·exact .inr ⟨k,c,e,z.sameBut hs (Xv y c e)⟩
  ·obtain⟨w',z⟩:=I.cell y c e
   exact⟨w',z.sameBut hs (Xv y c e)⟩
  ·obtain⟨e,n,ne,nf,d⟩:=I.pin p hp
   exact⟨(hs.2 p.1 ne).trans e,n,ne,nf,d⟩
 ·have hfn:X.fn x=true:=by
   rcases hf with z|z
   ·exact z
   ·rw[z] at hk;cases hk
  obtain⟨c,hc⟩:=I.ok.has x (.inl hk)
  obtain⟨w',z⟩:=I.cell x c hc
  refine wpAny_storeName_cell I.ok.kind hk hc z (fun h' hc' hs=>?_)
  obtain⟨oc,hoc,Zky⟩:=id z
  refine h {s with heap:=h'} ⟨I.ok,I.os,I.bare,⟨fun b o e n hb hx=>?_,fun b o e n hb hx=>?_,I.base.free,fun b o e hx=>?_,I.base.tups,I.base.jf,I.base.jt⟩,⟨m,hn.sameBut hs (Ne.symm (Xv x c hc)),fun j y v' e1 e2 e3=>?_⟩,fun y c' e=>?_,I.free,I.fU,fun p hp=>?_,tracked ⟨oc,hoc,I.fU x c hc⟩ hs,by simpa using I.len⟩ ⟨c,hs,.inr hc⟩
  ·exact(hs.2 b (Nat.ne_of_lt (Nat.lt_of_lt_of_le (Heap.lt_size e) (I.ok.cab x c hfn hc)))).trans (I.base.keep b o e n hb hx)
  ·obtain⟨sl,e1⟩:=I.base.slot b o e n hb hx
   exact⟨sl,(hs.2 b (Nat.ne_of_lt (Nat.lt_of_lt_of_le (Heap.lt_size e) (I.ok.cab x c hfn hc)))).trans e1⟩
  ·obtain⟨o',e1⟩:=I.base.there b o e hx
   exact⟨o',(hs.2 b (Nat.ne_of_lt (Nat.lt_of_lt_of_le (Heap.lt_size e) (I.ok.cab x c hfn hc)))).trans e1⟩
  ·by_cases hj:j=i
   ·subst hj
    rw[hi] at e1;cases e1
    rw[List.getElem?_set_self hiσ] at e2
    cases e2
    exact⟨u,r,.inr ⟨.inl hk,c,hc,hc'⟩⟩
   ·rw[List.getElem?_set_ne (Ne.symm hj)] at e2
    obtain⟨u',r',q⟩:=hl j y v' e1 e2 e3
    refine⟨u',r',?_⟩
    rcases q with q|⟨k,c',e,z'⟩
    ·exact .inl q
    ·refine .inr ⟨k,c',e,z'.sameBut hs ?_⟩
     rintro rfl
     exact hj (wB hN e1 (I.ok.inj _ _ _ e hc▸hi))
  ·by_cases hcc:c'=c
   ·subst hcc;exact⟨_,hc'⟩
   ·obtain⟨w2,z2⟩:=I.cell y c' e
    exact⟨w2,z2.sameBut hs hcc⟩
  ·obtain⟨e,n,ne,nf,d⟩:=I.pin p hp
   refine⟨(hs.2 p.1 ?_).trans e,n,ne,nf,d⟩
   intro q
   rw[q,hoc] at e
   have q':oc=p.2:=Option.some.inj e
   exact d w' (by rw[←q'];exact Zky)
theorem nP{M:Model}{A:Around}{E:Value→Shared→Prop}{i:Nat}{x:Str}{v:V}{u:Value}{Q:Unit→Shared→Prop}(I:Inv X pins σ H s)(hN:X.N.Nodup)(hi:X.N[i]?=some x)(hx:Loc X.env.scope x)(r:RelV v u)
 (h:∀s',Inv X pins (σ.set i (some v)) H s'→Q () s')(hf:X.fn x=true∨X.env.scope.names.lookup x=some .local:=by first|exact .inl rfl|exact .inr rfl|assumption):wpAny M A (storeName X.env x u) Q E s:=
 qK I hN hi hx r (fun s' I' _=>h s' I') hf
theorem Inv.call'{s':Shared}{ch:List Addr}(I:Inv X pins σ H s)(ho:s'.os=s.os)(u:Un (frs X.stack) ch H H' s.heap s'.heap)(hok:fP X.prog X.w H' s'.heap)(hg:AllBare s'.gens)
 (hch:∀b∈ch,(b∈X.ex∨X.s₀.heap.objs.size≤b)∧b≠X.env.locals∧(∀x c,X.env.cells.lookup x=some c→c≠b)∧∀p∈X.pn++pins,p.1≠b):Inv X pins σ H' s':=by
 obtain⟨h',g',d',t',o'⟩:=s'
 have e:o'=s.os:=ho
 subst e
 exact I.call (g':=g') (t':=t') (d':=d') u hok hg hch
end
abbrev XK:=Value→Option Addr→Hp→Prop
abbrev St:=List (Option V)
abbrev VK:=V→Hp→Prop
abbrev TE:=St→Hp→VK→Prop
abbrev TT:=St→Hp→(Bool→Hp→Prop)→Prop
abbrev TA:=St→Hp→(List V→Hp→Prop)→Prop
structure Ends where
 nx:St→Hp→Prop
 rt:VK
 bk:St→Hp→Prop:=fun _ _=>False
 ct:St→Hp→Prop:=fun _ _=>False
abbrev TS:=Ends→St→Hp→Prop
def EP(X:Cx)(pins:List (č))(σ:St)(Q:VK)(u:Value)(s':Shared):Prop:=∃v H',Inv X pins σ H' s'∧RelV v u∧Q v H'
def TP(X:Cx)(pins:List (č))(σ:St)(Q:Bool→Hp→Prop)(b:Bool)(s':Shared):Prop:=∃H',Inv X pins σ H' s'∧Q b H'
def AP(X:Cx)(pins:List (č))(σ:St)(Q:List V→Hp→Prop)(us:List Value)(s':Shared):Prop:=∃vs H',Inv X pins σ H' s'∧Vals vs us∧Q vs H'
def SP(X:Cx)(pins:List (č))(D:Ends)(f:Flow)(s':Shared):Prop:=
 match f with
 | .next=>∃σ' H',Inv X pins σ' H' s'∧D.nx σ' H'
 | .brk=>∃σ' H',Inv X pins σ' H' s'∧D.bk σ' H'
 | .cont=>∃σ' H',Inv X pins σ' H' s'∧D.ct σ' H'
 | .ret u=>∃v σ' H',Inv X pins σ' H' s'∧RelV v u∧D.rt v H'
def PE(X:Cx)(e:Expr)(t:TE):Prop:=
 ∀(pins:List (č)) (s:Shared) (σ:St) (H:Hp) (Q:VK),Inv X pins σ H s→t σ H Q→wpAny (model X.prog X.w) X.A (eval e X.env) (EP X pins σ Q) X.xe s
def PT(X:Cx)(e:Expr)(t:TT):Prop:=
 ∀(pins:List (č)) (s:Shared) (σ:St) (H:Hp) (Q:Bool→Hp→Prop),Inv X pins σ H s→t σ H Q→wpAny (model X.prog X.w) X.A (isTrue e X.env (eval e X.env)) (TP X pins σ Q) X.xe s
def PW(X:Cx)(e:Expr)(t:TT):Prop:=
 ∀(whole:Sem Value) (pins:List (č)) (s:Shared) (σ:St) (H:Hp) (Q:Bool→Hp→Prop),Inv X pins σ H s→t σ H Q→wpAny (model X.prog X.w) X.A (isTrue e X.env whole) (TP X pins σ Q) X.xe s
theorem PW.pt{X:Cx}{e:Expr}{t:TT}(h:PW X e t):PT X e t:=h _
def PA(X:Cx)(es:List Expr)(t:TA):Prop:=
 ∀(pos:Pos) (pins:List (č)) (s:Shared) (σ:St) (H:Hp) (Q:List V→Hp→Prop),Inv X pins σ H s→t σ H Q→wpAny (model X.prog X.w) X.A (spliced (backTo pos (starEach es X.env))) (AP X pins σ Q) X.xe s
def PS(X:Cx)(st:Stmt)(t:TS):Prop:=
 ∀(pins:List (č)) (s:Shared) (σ:St) (H:Hp) (D:Ends),Inv X pins σ H s→t D σ H→wpAny (model X.prog X.w) X.A (exec st X.env) (SP X pins D) X.xe s
def ju(X:Cx)(st:List Stmt)(t:TS):Prop:=
 ∀(pins:List (č)) (s:Shared) (σ:St) (H:Hp) (D:Ends),Inv X pins σ H s→t D σ H→wpAny (model X.prog X.w) X.A (execs st X.env) (SP X pins D) X.xe s
theorem Ŧ{α:Type}{t:Sem α}{Q Q':α→Shared→Prop}{M:Model}{A:Around}{E:Value→Shared→Prop}{s:Shared}(h:wpAny M A t Q E s)(hQ:∀a s,Q a s→Q' a s):wpAny M A t Q' E s:=wpAny_mono h hQ fun _ _ x=>x
end L2
namespace L2
open PySem PySem.Spec PyProof.Rows
section
variable{X:Cx}
def t_(i:Nat):TE:=fun σ H Q=>∃v,σ[i]?=some (some v)∧Q v H
def tC(v:V):TE:=fun _ H Q=>Q v H
theorem fW{i:Nat}{x:Str}{pos:Pos}(hN:X.N[i]?=some x)(hv:Gy X.env.scope x)(hd:(x== ("__debug__" :Str))=false:=by decide)(hcd:(x== ("__classdict__" :Str))=false:=by decide):PE X (.Name x pos) (t_ i):=by
 intro pins s σ H Q I h
 obtain⟨v,e,h⟩:=h
 obtain⟨m,hn,hl⟩:=I.loc
 obtain⟨u,r,l⟩:=hl i x v hN e hv
 have fin:EP X pins σ Q u s:=⟨v,H,I,r,h⟩
 rcases l with⟨hk,hm⟩|⟨hk,c,hc,hcell⟩
 ·exact wpAny_Name (wpAny_loadName_local I.ok.kind hk hn hm fin) hd
 ·rcases hk with hk|hk
  ·exact wpAny_Name (wpAny_loadName_cell I.ok.kind hk hc hcell fin) hd
  ·exact wpAny_Name (wpAny_loadName_free I.ok.kind hk hc hcell fin hcd) hd
theorem Xw{i j pos}:PE X (.Constant (.int i) j pos) (tC (.int i)):=fun _ _ _ H _ I h=>wpAny_Constant_int ⟨.int i,H,I.tok _,⟨_,rfl⟩,h⟩
theorem Zc6{b j pos}:PE X (.Constant (.bool b) j pos) (tC (.bl b)):=fun _ _ _ H _ I h=>Constant_bool ⟨.bl b,H,I,rfl,h⟩
theorem Xx{j pos}:PE X (.Constant .none j pos) (tC .non):=fun _ _ _ H _ I h=>Constant_none ⟨.non,H,I,rfl,h⟩
theorem Xy{x j pos}:PE X (.Constant (.str x) j pos) (tC (.str x)):=fun _ _ _ H _ I h=>Calls.Constant_str ⟨.str x,H,I.tok _,⟨_,rfl⟩,h⟩
def Gl(X:Cx)(x:Str):Prop:=X.env.kindOf x=some .globalImplicit
theorem jw{E:Value→Shared→Prop}{pins:List (č)}{s:Shared}{σ:St}{H:Hp}{x:Str}{u:Value}{pos:Pos}{Q:Value→Shared→Prop}(I:Inv X pins σ H s)(hg:Gl X x)(hm:X.mg x=some u)(h:Q u s)
 (hd:(x== ("__debug__" :Str))=false:=by decide):wpAny (model X.prog X.w) X.A (eval (.Name x pos) X.env) Q E s:=
 Calls.Name_function_global I.ok.kind hg (Calls.loadGlobal_global (by rw[I.ok.glob];exact I.mod.glob.keeps I.bk) hm h) hd
theorem jW{E:Value→Shared→Prop}{pins:List (č)}{s:Shared}{σ:St}{H:Hp}{x:Str}{u:Value}{pos:Pos}{Q:Value→Shared→Prop}(I:Inv X pins σ H s)(hg:Gl X x)(hm:X.mg x=none)(hv:bootBuiltins x=some u)(h:Q u s)
 (hn:x≠ "__name__" := by decide)(hd:(x== ("__debug__" :Str))=false:=by decide):wpAny (model X.prog X.w) X.A (eval (.Name x pos) X.env) Q E s:=by
 obtain⟨mb,h1,h2⟩:=I.mod.blt
 exact Calls.Name_function_global I.ok.kind hg (Calls.loadGlobal_builtin (by rw[I.ok.glob];exact I.mod.glob.keeps I.bk) hm (by rw[I.ok.blt];exact h1.keeps I.bk) ((h2 x hn).trans hv) h) hd
theorem nu{x:Str}{v:V}{u:Value}{pos:Pos}(hg:Gl X x)(hm:X.mg x=some u)(r:RelV v u)(hd:(x== ("__debug__" :Str))=false:=by decide):PE X (.Name x pos) (tC v):=
 fun _ _ _ H _ I h=>jw I hg hm ⟨v,H,I,r,h⟩ hd
theorem gU{x:Str}{v:V}{u:Value}{pos:Pos}(hg:Gl X x)(hm:X.mg x=none)(hv:bootBuiltins x=some u)(r:RelV v u)(hn:x≠ "__name__" := by decide)(hd:(x== ("__debug__" :Str))=false:=by decide):PE X (.Name x pos) (tC v):=
 fun _ _ _ H _ I h=>jW I hg hm hv ⟨v,H,I,r,h⟩ hn hd
variable{a b:Expr}{ta tb:TE}{pos:Pos}
variable{tA tB':TT}{rest:List Expr}
def Zkz(t u:TT):TT:=fun σ H Q=>t σ H fun c H1=>if c=true then u σ H1 Q else Q false H1
def tOr(t u:TT):TT:=fun σ H Q=>t σ H fun c H1=>if c=true then Q true H1 else u σ H1 Q
def ZkA(t:TT):TT:=fun σ H Q=>t σ H fun c H1=>Q (!c) H1
theorem Rq(ha:PT X a tA):PW X (.BoolOp .And [a] pos) tA:=by
 intro wh pins s σ H Q I h
 refine isTrue_and (Ŧ (ha pins s σ H Q I h) fun c s1 e=>?_)
 cases c with
 |true=>exact isTrue_and_nil e
 |false=>exact e
theorem Xz(ha:PT X a tA):PW X (.BoolOp .Or [a] pos) tA:=by
 intro wh pins s σ H Q I h
 refine isTrue_or (Ŧ (ha pins s σ H Q I h) fun c s1 e=>?_)
 cases c with
 |false=>exact isTrue_or_nil e
 |true=>exact e
theorem XC(ha:PT X a tA)(hb:PW X (.BoolOp .And (b::rest) pos) tB'):PW X (.BoolOp .And (a::b::rest) pos) (Zkz tA tB'):=by
 intro wh pins s σ H Q I h
 refine isTrue_and (Ŧ (ha pins s σ H _ I h) fun c s1 ⟨H1,I1,q1⟩=>?_)
 cases c with
 |true=>exact hb wh pins s1 σ H1 Q I1 q1
 |false=>exact⟨H1,I1,q1⟩
theorem Zc7(ha:PT X a tA)(hb:PW X (.BoolOp .Or (b::rest) pos) tB'):PW X (.BoolOp .Or (a::b::rest) pos) (tOr tA tB'):=by
 intro wh pins s σ H Q I h
 refine isTrue_or (Ŧ (ha pins s σ H _ I h) fun c s1 ⟨H1,I1,q1⟩=>?_)
 cases c with
 |true=>exact⟨H1,I1,q1⟩
 |false=>exact hb wh pins s1 σ H1 Q I1 q1
theorem XD(ha:PT X a tA):PT X (.UnaryOp .Not a pos) (ZkA tA):=by
 intro pins s σ H Q I h
 exact isTrue_not (ha pins s σ H (fun c H1=>Q (!c) H1) I h)
theorem XF{op}{t:TE}(h:PE X a t):PE X (.BoolOp op [a] pos) t:=fun pins s σ H Q I hw=>BoolOp_one (h pins s σ H Q I hw)
end
end L2
namespace L2
open PySem PySem.Spec PyProof.Rows
def aJ(K:PySem.W.Frag)(H:Hp)(a:Addr)(xs:List V):Prop:=
 Rd H a (.lst xs)∨
  ∃(o:Obj) (its:Array Value) (n:Nat),K.lookup a=some o∧o.cls=.type "list" ∧o.dict=none∧o.data=.seq its n∧its.size≤sizeLine∧Vals xs its.toList
def dD(K:PySem.W.Frag)(H:Hp)(a:Addr)(xs:List V):Prop:=
 Rd H a (.tup xs)∨
  ∃(o:Obj) (its:Array Value) (n:Nat),K.lookup a=some o∧o.cls=.type "tuple" ∧o.data=.seq its n∧its.size≤sizeLine∧Vals xs its.toList
def ZkB:Value→Option V
 | .none=>some .non
 | .bool b=>some (.bl b)
 | .int i _=>some (.int i)
 | .str x _=>some (.str x)
 | .bytes b _=>some (.Va b)
 | .float b _=>some (.flt b)
 | .ref a=>some (.ref a)
 | .type n=>some (.ty n)
 |_=>none
theorem RelV.abs{x:V}{u:Value}(r:RelV x u):ZkB u=some x:=by
 cases x with
 |non=>cases r;rfl
 |bl _=>cases r;rfl
 |int _=>obtain⟨t,rfl⟩:=r;rfl
 |str _=>obtain⟨t,rfl⟩:=r;rfl
 |Va _=>obtain⟨t,rfl⟩:=r;rfl
 |flt _=>obtain⟨t,rfl⟩:=r;rfl
 |ref _=>cases r;rfl
 |ty _=>cases r;rfl
theorem RelV.inj{x y:V}{u:Value}(r:RelV x u)(q:RelV y u):x=y:=Option.some.inj (r.abs.symm.trans q.abs)
theorem Vals.inj:∀{xs ys:List V} {us:List Value},Vals xs us→Vals ys us→xs=ys
 |_,_,_,.nil,.nil=>rfl
 |_,_,_,.cons r t,.cons r' t'=>by rw[r.inj r',Vals.inj t t']
section
variable{X:Cx}{pins:List (č)}{σ:St}{H:Hp}{s:Shared}{a:Addr}{xs ys:List V}
theorem aJ.of{K:PySem.W.Frag}(h:H a=some (.lst xs)):aJ K H a xs:=.inl (.inl h)
theorem dD.of{K:PySem.W.Frag}(h:H a=some (.tup xs)):dD K H a xs:=.inl (.inl h)
theorem Inv.list(I:Inv X pins σ H s)(h:aJ X.K H a xs):∃its:List Value,Vals xs its∧PlainL s.heap a its.toArray∧xs.length≤sizeLine:=by
 rcases h with h|⟨o,its,n,hk,hc,hd,hs,hz,r⟩
 ·obtain⟨z,its,n,r,e⟩:=h.ok I.hok
  exact⟨its,r,⟨_,n,e,rfl,rfl,rfl⟩,z⟩
 ·refine⟨its.toList,r,⟨o,n,I.fV a o hk,hc,hd,by simpa using hs⟩,?_⟩
  have e:=r.length
  simp only[Array.length_toList] at e
  omega
theorem Inv.tuple(I:Inv X pins σ H s)(h:dD X.K H a xs):∃its:List Value,Vals xs its∧IsTup s.heap a its.toArray∧xs.length≤sizeLine:=by
 rcases h with h|⟨o,its,n,hk,hc,hs,hz,r⟩
 ·obtain⟨z,its,r,p⟩:=h.ok I.hok
  exact⟨its,r,p,z⟩
 ·refine⟨its.toList,r,⟨o,I.fV a o hk,hc,n,by simpa using hs⟩,?_⟩
  have e:=r.length
  simp only[Array.length_toList] at e
  omega
theorem Inv.nQ(I:Inv X pins σ H s)(h:aJ X.K H a xs)(h':aJ X.K H a ys):xs=ys:=by
 obtain⟨its,r,⟨o,n,e,_,_,d⟩,_⟩:=I.list h
 obtain⟨its',r',⟨o',n',e',_,_,d'⟩,_⟩:=I.list h'
 rw[e] at e';cases e'
 rw[d] at d'
 injection d' with d1 _
 have:its=its':=by simpa using congrArg Array.toList d1
 subst this
 exact r.inj r'
theorem Inv.qL(I:Inv X pins σ H s)(h:dD X.K H a xs)(h':dD X.K H a ys):xs=ys:=by
 obtain⟨its,r,⟨o,e,_,n,d⟩,_⟩:=I.tuple h
 obtain⟨its',r',⟨o',e',_,n',d'⟩,_⟩:=I.tuple h'
 rw[e] at e';cases e'
 rw[d] at d'
 injection d' with d1 _
 have:its=its':=by simpa using congrArg Array.toList d1
 subst this
 exact r.inj r'
end
abbrev Cx.wish(X:Cx)(E:Value→Shared→Prop):Cx:={X with xe:=E}
abbrev Cx.au(X:Cx):Cx:=X.wish fun _ _=>False
theorem Cx.Ok.wish{X:Cx}(ok:X.Ok)(E:Value→Shared→Prop):(X.wish E).Ok:=
 ⟨ok.mod,ok.kind,ok.glob,ok.blt,ok.above,ok.inj,ok.has,ok.cab,ok.hd,ok.frames,ok.stk,ok.exf,ok.bs,ok.Rn,ok.E_,ok.Ro,ok.mK,ok.Xu⟩
theorem Cx.Ok.eG{X:Cx}{E:Value→Shared→Prop}(ok:(X.wish E).Ok):X.Ok:=
 ⟨ok.mod,ok.kind,ok.glob,ok.blt,ok.above,ok.inj,ok.has,ok.cab,ok.hd,ok.frames,ok.stk,ok.exf,ok.bs,ok.Rn,ok.E_,ok.Ro,ok.mK,ok.Xu⟩
section
variable{X:Cx}{pins:List (č)}{σ:St}{H:Hp}{s:Shared}{E:Value→Shared→Prop}
theorem Inv.wish(I:Inv X pins σ H s)(E:Value→Shared→Prop):Inv (X.wish E) pins σ H s:=⟨I.ok.wish E,I.os,I.bare,I.base,I.loc,I.cell,I.free,I.fU,I.pin,I.hok,I.len⟩
theorem Inv.eG(I:Inv (X.wish E) pins σ H s):Inv X pins σ H s:=⟨I.ok.eG,I.os,I.bare,I.base,I.loc,I.cell,I.free,I.fU,I.pin,I.hok,I.len⟩
theorem SP.eG{D:Ends}{f:Flow}{s':Shared}(h:SP (X.wish E) pins D f s'):SP X pins D f s':=by
 cases f with
 |next=>obtain⟨σ',H',I,q⟩:=h;exact⟨σ',H',I.eG,q⟩
 |brk=>obtain⟨σ',H',I,q⟩:=h;exact⟨σ',H',I.eG,q⟩
 |cont=>obtain⟨σ',H',I,q⟩:=h;exact⟨σ',H',I.eG,q⟩
 |ret u=>obtain⟨v,σ',H',I,r,q⟩:=h;exact⟨v,σ',H',I.eG,r,q⟩
theorem PE.au{e:Expr}{t:TE}(h:PE X.au e t):PE X e t:=fun pins s σ H Q I hw=>
 wpAny_mono (h pins s σ H Q (I.wish _) hw) (fun _ _ ⟨v,H',I',r,q⟩=>⟨v,H',I'.eG,r,q⟩) fun _ _ z=>False.elim z
end
section
variable{X:Cx}{st:Stmt}{rest:List Stmt}{t u:TS}{e:Expr}{te:TE}{pos:Pos}
def Vc:TS:=fun D σ H=>D.nx σ H
def Zc8(t u:TS):TS:=fun D σ H=>t {D with nx:=u D} σ H
theorem Dm:ju X [] Vc:=fun _ _ σ H _ I h=>wpAny_execs_nil ⟨σ,H,I,h⟩
theorem wC(h1:PS X st t)(h2:ju X rest u):ju X (st::rest) (Zc8 t u):=by
 intro pins s σ H D I h
 refine wpAny_execs_cons (Ŧ (h1 pins s σ H {D with nx:=u D} I h) fun f s1 q=>?_)
 cases f with
 |next=>
  obtain⟨σ',H',I',q⟩:=q
  exact h2 pins s1 σ' H' D I' q
 |ret v=>exact q
 |brk=>exact q
 |cont=>exact q
theorem Rr(h1:PS X st t):ju X [st] t:=by
 intro pins s σ H D I h
 refine wpAny_execs_cons (Ŧ (h1 pins s σ H D I h) fun f s1 q=>?_)
 cases f with
 |next=>exact wpAny_execs_nil q
 |ret v=>exact q
 |brk=>exact q
 |cont=>exact q
theorem Inv.quiet{pins:List (č)}{σ:St}{H:Hp}{s:Shared}(I:Inv X pins σ H s):interactive X.env=false:=by simp[interactive,I.ok.kind]
def GP(te:TE):TS:=fun D σ H=>te σ H fun _ H1=>D.nx σ H1
theorem cA(he:PE X e te)(hs:swapsWith e none pos.line X.env=pure false:=by rfl):PS X (.Expr e pos) (GP te):=by
 intro pins s σ H D I h
 exact wpAny_Expr_any (Ŧ (he pins s σ H _ I h) fun v s1 ⟨x,H1,I1,r1,q1⟩=>⟨σ,H1,I1,q1⟩) I.quiet hs
def ZkC(te:TE):TS:=fun D σ H=>te σ H D.rt
theorem XH(he:PE X e te):PS X (.Return (some e) pos) (ZkC te):=by
 intro pins s σ H D I h
 exact wpAny_Return_some (Ŧ (he pins s σ H _ I h) fun v s1 ⟨x,H1,I1,r1,q1⟩=>⟨x,σ,H1,I1,r1,q1⟩)
def ZkD(c:TT)(t u:TS):TS:=fun D σ H=>c σ H fun b H1=>if b=true then t D σ H1 else u D σ H1
theorem Zc9{c:Expr}{a b:List Stmt}{tc:TT}(hc:PT X c tc)(ha:ju X a t)(hb:ju X b u):PS X (.If c a b pos) (ZkD tc t u):=by
 intro pins s σ H D I h
 refine wpAny_If (Ŧ (hc pins s σ H _ I h) fun d s1 ⟨H1,I1,q1⟩=>?_)
 cases d with
 |true=>exact ha pins s1 σ H1 D I1 q1
 |false=>exact hb pins s1 σ H1 D I1 q1
end
abbrev TG:=V→St→Hp→(St→Hp→Prop)→Prop
abbrev GQ:=List V→St→Hp→(St→Hp→Prop)→Prop
def PG(X:Cx)(target:Expr)(t:TG):Prop:=
 ∀(pins:List (č)) (s:Shared) (σ:St) (H:Hp) (v:V) (u:Value) (Q:St→Hp→Prop),Inv X pins σ H s→RelV v u→t v σ H Q→
  wpAny (model X.prog X.w) X.A (assign target X.env u) (fun _ s'=>∃σ' H',Inv X pins σ' H' s'∧Q σ' H') X.xe s
def zY(X:Cx)(ts:List Expr)(t:GQ):Prop:=
 ∀(pins:List (č)) (s:Shared) (σ:St) (H:Hp) (vs:List V) (us:List Value) (Q:St→Hp→Prop),Inv X pins σ H s→Vals vs us→t vs σ H Q→
  wpAny (model X.prog X.w) X.A (assignInOrder ((assignEach ts X.env).map (·.2)) us) (fun _ s'=>∃σ' H',Inv X pins σ' H' s'∧Q σ' H') X.xe s
abbrev XJ:=V→V→V→Hp→(Hp→Prop)→Prop
def Zc_(X:Cx)(t:XJ):Prop:=
 ∀(pins:List (č)) (s:Shared) (σ:St) (H:Hp) (o i v:V) (ov iv u:Value) (Q:Hp→Prop),Inv X pins σ H s→RelV o ov→RelV i iv→RelV v u→t o i v H Q→
  wpAny (model X.prog X.w) X.A (setItem ov iv u) (fun _ s'=>∃H',Inv X pins σ H' s'∧Q H') X.xe s
abbrev TIp:=V→V→Hp→VK→Prop
def PIp(X:Cx)(op:Operator)(t:TIp):Prop:=
 ∀(pins:List (č)) (s:Shared) (σ:St) (H:Hp) (x y:V) (v u:Value) (Q:VK),Inv X pins σ H s→RelV x v→RelV y u→t x y H Q→
  wpAny (model X.prog X.w) X.A (inplaceOp op v u) (EP X pins σ Q) X.xe s
section
variable{X:Cx}{pos:Pos}
def Vd(i:Nat):TG:=fun v σ H Q=>Q (σ.set i (some v)) H
theorem Rt{i:Nat}{x:Str}(hN:X.N.Nodup)(hi:X.N[i]?=some x)(hx:Loc X.env.scope x)(hf:X.fn x=true∨X.env.scope.names.lookup x=some .local:=by first|exact .inl rfl|exact .inr rfl|assumption):PG X (.Name x pos) (Vd i):=by
 intro pins s σ H v u Q I r h
 exact wpAny_assign_Name (nP I hN hi hx r (fun s' I'=>⟨_,H,I',h⟩) hf)
def ZkE:GQ:=fun vs σ H Q=>vs=[]∧Q σ H
def Zda(t:TG)(u:GQ):GQ:=fun vs σ H Q=>∃v r,vs=v::r∧t v σ H fun σ' H'=>u r σ' H' Q
theorem Ru:zY X [] ZkE:=by
 intro pins s σ H vs us Q I r h
 obtain⟨e,h⟩:=h
 subst e
 cases r
 exact assignInOrder_nil ⟨σ,H,I,h⟩
theorem GR{e:Expr}{es:List Expr}{t:TG}{u:GQ}(h1:PG X e t)(h2:zY X es u)
 (hs:(assignEach (e::es) X.env).map (·.2)=assign e X.env::(assignEach es X.env).map (·.2):=by rfl):zY X (e::es) (Zda t u):=by
 intro pins s σ H vs us Q I r h
 obtain⟨v,vr,e1,h⟩:=h
 subst e1
 cases r with
 |cons r rr=>
  rw[hs]
  refine assignInOrder_cons (Ŧ (h1 pins s σ H _ _ _ I r h) fun _ s1 ⟨σ1,H1,I1,q1⟩=>?_)
  exact h2 pins s1 σ1 H1 _ _ Q I1 rr q1
def ZkF(K:PySem.W.Frag)(n:Nat)(t:GQ):TG:=fun v σ H Q=>∃a xs,v=.ref a∧dD K H a xs∧xs.length=n∧t xs σ H Q
theorem GX{es:List Expr}{k:Nat}{t:GQ}{n:Nat}(hc:X.calm=true)(h:zY X es t)
 (hn:(assignEach es X.env).length=n:=by rfl)(hst:(assignEach es X.env).findIdx? (·.1)=none:=by rfl):PG X (.Tuple es k pos) (ZkF X.K n t):=by
 intro pins s σ H v u Q I r hw
 obtain⟨a,xs,e1,hq,hl,hw⟩:=hw
 subst e1
 cases r
 obtain⟨its,rv,ht,hz⟩:=I.tuple hq
 refine assign_Tuple_tuple (I.ok.hd hc) ht (by simp[hn,←hl,rv.length]) hst fun h' hx=>?_
 have I1:Inv X pins σ H {s with heap:=h'}:=I.kept (t':=s.toks) fun b o e=>hx b o (Nat.ne_of_lt (Heap.lt_size e)) e
 exact h pins _ σ H xs _ Q I1 (by simpa using rv) hw
def ZkG(to ti:TE)(t:XJ):TG:=fun v σ H Q=>to σ H fun o H1=>ti σ H1 fun i H2=>t o i v H2 fun H3=>Q σ H3
theorem XM{o i:Expr}{to ti:TE}{t:XJ}(ho:PE X o to)(hi:PE X i ti)(hs:Zc_ X t)
 (ha:∀v,assign (.Subscript o i pos) X.env v=(do
   let ov ←holding [v] (eval o X.env)
   let iv ←holding [v,ov] (eval i X.env)
   standAt pos
   holding [v,ov,iv] (setItem ov iv v)
   release [v,ov,iv] []):=by intro _;rfl):PG X (.Subscript o i pos) (ZkG to ti t):=by
 intro pins s σ H v u Q I r h
 rw[ha]
 refine wpAny_bind (wpAny_holding (Ŧ (ho pins s σ H _ I h) fun ov s1 ⟨x,H1,I1,r1,q1⟩=>?_))
 refine wpAny_bind (wpAny_holding (Ŧ (hi pins s1 σ H1 _ I1 q1) fun iv s2 ⟨y,H2,I2,r2,q2⟩=>?_))
 refine wpAny_bind (wpAny_standAt (wpAny_bind (wpAny_holding (Ŧ (hs pins s2 σ H2 x y v ov iv u _ I2 r1 r2 r q2) fun _ s3 ⟨H3,I3,q3⟩=>?_))))
 exact wpAny_release ⟨σ,H3,I3,q3⟩
def Zdb(te:TE)(g:TG):TS:=fun D σ H=>te σ H fun x H1=>g x σ H1 D.nx
theorem GZ{tg e:Expr}{te:TE}{g:TG}(he:PE X e te)(hg:PG X tg g)(hs:swapsWithSole [tg] e pos.line X.env=pure false:=by rfl)(hw:swappedStores [tg] e X.env=pure none:=by rfl)
 (h1:(assignEach [tg] X.env).map (·.2)=[assign tg X.env]:=by rfl):PS X (.Assign [tg] e pos) (Zdb te g):=by
 intro pins s σ H D I h
 refine wpAny_Assign_stores (Ŧ (he pins s σ H _ I h) fun v s1 ⟨x,H1,I1,r1,q1⟩=>?_) hs hw
 rw[h1]
 exact Ŧ (hg pins s1 σ H1 x v _ I1 r1 q1) fun _ s2 q=>q
theorem XQ{i:Nat}{x:Str}{e:Expr}{te:TE}{pos':Pos}(hN:X.N.Nodup)(hi:X.N[i]?=some x)(hx:Loc X.env.scope x)(he:PE X e te)(hs:swapsWith e (some (.Name x pos')) pos.line X.env=pure false:=by rfl)(hf:X.fn x=true∨X.env.scope.names.lookup x=some .local:=by first|exact .inl rfl|exact .inr rfl|assumption) :
 PS X (.Assign [.Name x pos'] e pos) (Zdb te (Vd i)):=by
 intro pins s σ H D I h
 refine wpAny_Assign_Name (Ŧ (he pins s σ H _ I h) fun v s1 ⟨y,H1,I1,r1,q1⟩=>?_) hs
 exact nP I1 hN hi hx r1 (fun s2 I2=>⟨_,H1,I2,q1⟩) hf
def ZkH(i:Nat)(te:TE)(ti:TIp):TS:=fun D σ H=>∃x,σ[i]?=some (some x)∧te σ H fun y H1=>ti x y H1 fun z H2=>D.nx (σ.set i (some z)) H2
theorem XR{i:Nat}{x:Str}{e:Expr}{te:TE}{op:Operator}{ti:TIp}{pos':Pos}(hN:X.N.Nodup)(hi:X.N[i]?=some x)(hx:Loc X.env.scope x)(he:PE X e te)(ho:PIp X op ti)(hf:X.fn x=true∨X.env.scope.names.lookup x=some .local:=by first|exact .inl rfl|exact .inr rfl|assumption) :
 PS X (.AugAssign (.Name x pos') op e pos) (ZkH i te ti):=by
 intro pins s σ H D I h
 obtain⟨v,e1,h⟩:=h
 obtain⟨m,hn,hl⟩:=I.loc
 have vis:Gy X.env.scope x:=by rcases hx with k|k;exact .inl k;exact .inr (.inl k)
 obtain⟨u,r,l⟩:=hl i x v hi e1 vis
 refine wpAny_AugAssign_Name ?_
 have go:wpAny (model X.prog X.w) X.A (eval e X.env) (fun w s₂=>wpAny (model X.prog X.w) X.A (inplaceOp op u w) (fun r s₃=>wpAny (model X.prog X.w) X.A (storeName X.env x r) (fun _=>SP X pins D .next) X.xe s₃) X.xe s₂) X.xe s:=by
  refine Ŧ (he pins s σ H _ I h) fun w s1 ⟨y,H1,I1,r1,q1⟩=>?_
  refine Ŧ (ho pins s1 σ H1 v y u w _ I1 r r1 q1) fun z s2 ⟨zv,H2,I2,r2,q2⟩=>?_
  exact nP I2 hN hi hx r2 (fun s3 I3=>⟨_,H2,I3,q2⟩) hf
 rcases l with⟨hk,hm⟩|⟨hk,c,hc,hcell⟩
 ·exact wpAny_loadName_local I.ok.kind hk hn hm go
 ·rcases hk with hk|hk
  ·exact wpAny_loadName_cell I.ok.kind hk hc hcell go
  ·rcases hx with k|k
   ·have:X.env.scope.names.lookup x=some .free:=hk
    rw[k] at this;cases this
   ·have:X.env.scope.names.lookup x=some .free:=hk
    rw[k] at this;cases this
def ipI(f:Int→Int→Int):TIp:=fun x y H Q=>∃i j,x=.int i∧y=.int j∧Q (.int (f i j)) H
end
section
variable{X:Cx}{pos:Pos}
def X_(c:TT)(tb:TS):TS:=fun D σ H=>∃W:Nat→St→Hp→Prop,(∃m,W m σ H)∧∀m σ H,W m σ H→
 c σ H fun b H1=>if b=true then ∃N:St→Hp→Prop,(∀σ' H',N σ' H'→∃m',m'<m∧W m' σ' H')∧tb {D with nx:=N,ct:=N,bk:=D.nx} σ H1 else D.nx σ H1
theorem G_{c:Expr}{body:List Stmt}{tc:TT}{tb:TS}(hp:PassesOwn (model X.prog X.w) X.A X.env X.xe)(hc:PT X c tc)(hb:ju X body tb):PS X (.While c body [] pos) (X_ tc tb):=by
 intro pins s σ H D I h
 obtain⟨W,⟨m0,w0⟩,turn⟩:=h
 refine wpAny_While (codeAny_whileLoop (fun n s'=>∃σ' H',Inv X pins σ' H' s'∧W n σ' H') ?_ m0 ⟨σ,H,I,w0⟩)
 rintro n s1 ⟨σ1,H1,I1,w1⟩
 refine wpAny_passesOwn hp (Ŧ (hc pins s1 σ1 H1 _ I1 (turn n σ1 H1 w1)) fun b s2 ⟨H2,I2,q2⟩=>?_)
 cases b with
 |true=>
  obtain⟨N,hN,q2⟩:=q2
  rw[if_pos rfl]
  refine wpAny_passesOwn hp (Ŧ (hb pins s2 σ1 H2 _ I2 q2) fun f s3 q3=>?_)
  cases f with
  |next=>
   obtain⟨σ3,H3,I3,n3⟩:=q3
   obtain⟨m',hm,w3⟩:=hN σ3 H3 n3
   exact⟨m',hm,σ3,H3,I3,w3⟩
  |cont=>
   obtain⟨σ3,H3,I3,n3⟩:=q3
   obtain⟨m',hm,w3⟩:=hN σ3 H3 n3
   exact⟨m',hm,σ3,H3,I3,w3⟩
  |brk=>exact q3
  |ret v=>exact q3
 |false=>
  rw[if_neg Bool.false_ne_true]
  exact wpAny_execs_nil ⟨σ1,H2,I2,q2⟩
end
structure It where
 go:Nat→Hp→Prop
 yld:Nat→Hp→V→Hp→Prop
 stop:Nat→Hp→Prop
def fX(X:Cx)(pins:List (č))(H:Hp)(b:Addr):Prop:=
 H b=none∧b≠X.env.locals∧b∉X.fs∧(b∈X.ex∨X.s₀.heap.objs.size≤b)∧(∀x c,X.env.cells.lookup x=some c→c≠b)∧∀p∈X.pn++pins,p.1≠b
theorem Inv.Fb{X:Cx}{pins:List (č)}{σ:St}{H H':Hp}{s:Shared}{b:Addr}(I:Inv X pins σ H s)(hb:s.heap.objs.size≤b)(hn:H' b=none):fX X pins H' b:=by
 refine⟨hn,Nat.ne_of_gt (Nat.lt_of_lt_of_le I.lt hb),I.Zkx hb,.inr (Nat.le_trans I.sz hb),fun x c e z=>?_,fun p hp z=>?_⟩
 ·obtain⟨v,q⟩:=I.cell x c e
  exact absurd (Nat.lt_of_lt_of_le q.lt (by rw[z];exact hb)) (Nat.lt_irrefl _)
 ·exact absurd (Nat.lt_of_lt_of_le (Heap.lt_size (I.pin p hp).1) (by rw[z];exact hb)) (Nat.lt_irrefl _)
structure Turn(P:Program)(w:World)(K:PySem.W.Frag)(tg:Expr)(J:It)(fp:List Addr)(it:Addr)(tn:Nat→Heap→Prop):Prop where
 mem:it∈fp
 obj:∀i h,tn i h→∀b∈fp,∃o,h.get? b=some o∧∀v,o.data≠ .cell v
 keep:∀i h h',tn i h→(∀b∈fp,∀o,h.get? b=some o→h'.get? b=some o)→tn i h'
 item:∀(X:Cx),X.prog=P→X.w=w→X.K=K→X.calm=true→∀(i:Nat) (pins:List (č)) (s:Shared) (σ:St) (H:Hp) (E:Value→Shared→Prop),Inv X pins σ H s→(∀b∈fp,fX X pins H b)→tn i s.heap→J.go i H→
  wpAny (model P w) X.A (pyNext (.ref it)) (fun r s1=>∃u,r=some u∧
   wpAny (model P w) X.A (letOwnedTupleGo tg (.ref it) u) (fun _ s2=>∃x H',Inv X pins σ H' s2∧RelV x u∧J.yld i H x H'∧tn (i+1) s2.heap∧∀b∈fp,H' b=none) E s1) E s
 done:∀(X:Cx),X.prog=P→X.w=w→X.K=K→X.calm=true→∀(i:Nat) (pins:List (č)) (s:Shared) (σ:St) (H:Hp) (E:Value→Shared→Prop),Inv X pins σ H s→(∀b∈fp,fX X pins H b)→tn i s.heap→J.stop i H→
  wpAny (model P w) X.A (pyNext (.ref it)) (fun r s1=>r=none∧Inv X pins σ H s1) E s
 self:∀(A:Around) (i:Nat) (s:Shared) (Q:Value→Shared→Prop) (E:Value→Shared→Prop),tn i s.heap→Q (.ref it) s→wpAny (model P w) A (pyIter (.ref it)) Q E s
abbrev TI:=St→Hp→(It→Hp→Prop)→Prop
def PIE(X:Cx)(pins:List (č))(σ:St)(tg:Expr)(R:It→Hp→Prop)(itv:Value)(s2:Shared):Prop:=
 ∃(it:Addr) (fp:List Addr) (tn:Nat→Heap→Prop) (J:It) (H':Hp),itv=.ref it∧Inv X pins σ H' s2∧Turn X.prog X.w X.K tg J fp it tn∧tn 0 s2.heap∧(∀b∈fp,fX X pins H' b)∧R J H'
def PI(X:Cx)(tg iter:Expr)(wi:TI):Prop:=
 ∀(pins:List (č)) (s:Shared) (σ:St) (H:Hp) (R:It→Hp→Prop),Inv X pins σ H s→wi σ H R→
  wpAny (model X.prog X.w) X.A (eval iter X.env) (fun v s1=>wpAny (model X.prog X.w) X.A (pyIter v) (PIE X pins σ tg R) X.xe s1) X.xe s
theorem Dp{M:Model}{A:Around}{E:Value→Shared→Prop}{s:Shared}{tg:Expr}{it:Addr}{u:Value}{o:Obj}{n:String}{vs:Array Value}{Q:Unit→Shared→Prop}(ho:s.heap.get? it=some o)(hc:o.cls=.type n)(hd:o.data=.fields vs)
 (hn:["enumerate","zip","dict_itemiterator","dict_reverseitemiterator","odict_iterator","itertools.zip_longest","itertools.pairwise"].contains n=false)(hQ:Q () s):wpAny M A (letOwnedTupleGo tg (.ref it) u) Q E s:=by
 unfold letOwnedTupleGo
 cases tg<;>first
  |exact wpAny_pure hQ
  |(cases u<;>first
     |exact wpAny_pure hQ
     |(refine wpAny_bind (wpAny_load ho ?_)
       rw[hc,hd]
       show wpAny M A (if(["enumerate","zip","dict_itemiterator","dict_reverseitemiterator","odict_iterator","itertools.zip_longest","itertools.pairwise"].contains n && vs[0]?== some (rawInt _))=true then _ else _) Q E s
       rw[if_neg (by intro h;rw[hn,Bool.false_and] at h;cases h)]
       exact wpAny_pure hQ))
def Yb(K:PySem.W.Frag)(a:Addr):It:=
 ⟨fun i H=>∃xs x,aJ K H a xs∧xs[i]?=some x,fun i H x H'=>H'=H∧∀xs,aJ K H a xs→xs[i]?=some x,fun i H=>∃xs,aJ K H a xs∧xs.length≤i⟩
def Itt(K:PySem.W.Frag)(a:Addr):It:=
 ⟨fun i H=>∃xs x,dD K H a xs∧xs[i]?=some x,fun i H x H'=>H'=H∧∀xs,dD K H a xs→xs[i]?=some x,fun i H=>∃xs,dD K H a xs∧xs.length≤i⟩
def Itr(lo:Int)(n:Nat):It:=⟨fun i _=>i<n,fun i H x H'=>H'=H∧x=.int (lo+i),fun i _=>n≤i⟩
theorem Fd{P:Program}{w:World}{K:PySem.W.Frag}{tg:Expr}(a it:Addr):Turn P w K tg (Yb K a) [it] it (fun i h=>h.IsListIter it a i) where
 mem:=by simp
 obj:=fun i h st b hb=>by
  have e:b=it:=by simpa using hb
  subst e
  obtain⟨o,e,c,d⟩:=st
  exact⟨o,e,fun v z=>by rw[d] at z;cases z⟩
 keep:=fun i h h' st k=>st.at fun o e=>k it (by simp) o e
 item:=by
  intro X hP hw hK hc i pins s σ H E I hf st hg
  subst hP hw hK
  obtain⟨xs,x,hq,hx⟩:=hg
  obtain⟨its,rv,p,hz⟩:=I.list hq
  obtain⟨u,hu,ru⟩:=rv.get hx
  obtain⟨f0,f1,f2,f3,f4,f5⟩:=hf it (by simp)
  refine wpAny_pyNext_list_item st p.isList (x:=u) (by simpa using hu) fun h' st' sb=>?_
  have I1:Inv X pins σ H {s with heap:=h'}:=I.turned (t':=s.toks) (fun b o hb e=>(sb.2 b hb).trans e) f0 f1 f3 f4 f5
  obtain⟨o,e,c,d⟩:=id st'
  exact⟨u,rfl,Dp (s:={s with heap:=h'}) e c d (by decide) ⟨x,H,I1,ru,⟨rfl,fun ys hy=>by rw[I.nQ hy hq];exact hx⟩,st',fun b hb=>(hf b hb).1⟩⟩
 done:=by
  intro X hP hw hK hc i pins s σ H E I hf st hg
  subst hP hw hK
  obtain⟨xs,hq,hx⟩:=hg
  obtain⟨its,rv,p,hz⟩:=I.list hq
  obtain⟨f0,f1,f2,f3,f4,f5⟩:=hf it (by simp)
  have hl:=rv.length
  exact wpAny_pyNext_list_end (I.ok.hd hc) st p.isList (by simp;omega) fun h' eb=>⟨rfl,I.turned (t':=s.toks) (fun b o hb e=>eb b o hb e) f0 f1 f3 f4 f5⟩
 self:=fun _ _ _ _ _ st h=>wpAny_pyIter_listiter st h
theorem zZ{P:Program}{w:World}{K:PySem.W.Frag}{tg:Expr}(a it:Addr):Turn P w K tg (Itt K a) [it] it (fun i h=>h.IsTupleIter it a i) where
 mem:=by simp
 obj:=fun i h st b hb=>by
  have e:b=it:=by simpa using hb
  subst e
  obtain⟨o,e,c,d⟩:=st
  exact⟨o,e,fun v z=>by rw[d] at z;cases z⟩
 keep:=fun i h h' st k=>st.at fun o e=>k it (by simp) o e
 item:=by
  intro X hP hw hK hc i pins s σ H E I hf st hg
  subst hP hw hK
  obtain⟨xs,x,hq,hx⟩:=hg
  obtain⟨its,rv,p,hz⟩:=I.tuple hq
  obtain⟨u,hu,ru⟩:=rv.get hx
  obtain⟨f0,f1,f2,f3,f4,f5⟩:=hf it (by simp)
  refine wpAny_pyNext_tuple_item st (show s.heap.IsTuple a its.toArray from p) (x:=u) (by simpa using hu) fun h' st' sb=>?_
  have I1:Inv X pins σ H {s with heap:=h'}:=I.turned (t':=s.toks) (fun b o hb e=>(sb.2 b hb).trans e) f0 f1 f3 f4 f5
  obtain⟨o,e,c,d⟩:=id st'
  exact⟨u,rfl,Dp (s:={s with heap:=h'}) e c d (by decide) ⟨x,H,I1,ru,⟨rfl,fun ys hy=>by rw[I.qL hy hq];exact hx⟩,st',fun b hb=>(hf b hb).1⟩⟩
 done:=by
  intro X hP hw hK hc i pins s σ H E I hf st hg
  subst hP hw hK
  obtain⟨xs,hq,hx⟩:=hg
  obtain⟨its,rv,p,hz⟩:=I.tuple hq
  obtain⟨f0,f1,f2,f3,f4,f5⟩:=hf it (by simp)
  have hl:=rv.length
  exact wpAny_pyNext_tuple_end (I.ok.hd hc) st (show s.heap.IsTuple a its.toArray from p) (by simp;omega) fun h' eb=>⟨rfl,I.turned (t':=s.toks) (fun b o hb e=>eb b o hb e) f0 f1 f3 f4 f5⟩
 self:=fun _ _ _ _ _ st h=>wpAny_pyIter_tupleiter st h
theorem z_{P:Program}{w:World}{K:PySem.W.Frag}{tg:Expr}(it:Addr)(lo:Int)(n:Nat):Turn P w K tg (Itr lo n) [it] it (fun i h=>IsRangeIter h it (lo+(i:Nat)*1) ((n:Int)-(i:Nat)) 1) where
 mem:=by simp
 obj:=fun i h st b hb=>by
  have e:b=it:=by simpa using hb
  subst e
  exact⟨_,st,fun v z=>by
   have z':Data.fields _=Data.cell v:=z
   cases z'⟩
 keep:=fun i h h' st k=>k it (by simp) _ st
 item:=by
  intro X hP hw hK hc i pins s σ H E I hf st hg
  subst hP hw hK
  obtain⟨f0,f1,f2,f3,f4,f5⟩:=hf it (by simp)
  have W:=Walks.range (prog:=X.prog) (w:=X.w) (I.ok.hd hc) it lo 1 n
  refine W.item i s _ _ hg st fun v h' tk hv st' kk=>?_
  obtain⟨t,rfl⟩:=hv
  have I1:Inv X pins σ H {s with heap:=h',toks:=tk}:=I.turned (fun b o hb e=>kk b o (by simpa using hb) e) f0 f1 f3 f4 f5
  refine⟨_,rfl,Dp (s:={s with heap:=h',toks:=tk}) (n:= "range_iterator") st' rfl rfl (by decide) ⟨.int (lo+i),H,I1,⟨t,?_⟩,⟨rfl,rfl⟩,st',fun b hb=>(hf b hb).1⟩⟩
  rw[Int.mul_one]
 done:=by
  intro X hP hw hK hc i pins s σ H E I hf st hg
  subst hP hw hK
  obtain⟨f0,f1,f2,f3,f4,f5⟩:=hf it (by simp)
  exact wpAny_pyNext_range_end (I.ok.hd hc) st (by have:n≤i:=hg;omega) fun h' eb=>⟨rfl,I.turned (t':=s.toks) (fun b o hb e=>eb b o hb e) f0 f1 f3 f4 f5⟩
 self:=fun _ _ _ _ _ st h=>wpAny_pyIter_rangeiter st h
end L2
namespace L2
open PySem PySem.Spec PyProof.Rows
section
variable{X:Cx}{tg:Expr}
theorem Hf{pins:List (č)}{σ:St}{H:Hp}{s:Shared}{R:It→Hp→Prop}{E:Value→Shared→Prop}{lo hi:Int}{t u v:Tok}{tk:Nat}(I:Inv X pins σ H s)(h1: -(2 ^ 62)≤lo)(h2:lo<2 ^ 62)(h3: -(2 ^ 62)≤hi)(h4:hi<2 ^ 62)
 (q:R (Itr lo (hi-lo).toNat) H):wpAny (model X.prog X.w) X.A (pyIter (.ref s.heap.objs.size)) (PIE X pins σ tg R) E {s with heap:=s.heap.push {cls:=.type "range",data:=.fields #[.int lo t,.int hi u,.int 1 v]},toks:=tk}:=by
 refine wpAny_pyIter_range (IsRange.new ..) (small_one h1 h2 h3 h4) ?_
 have I1:Inv X pins σ H {s with heap:=s.heap.push {cls:=.type "range",data:=.fields #[.int lo t,.int hi u,.int 1 v]},toks:=tk}:=I.kept fun b o e=>Heap.get?_push_of_some _ e
 refine⟨(s.heap.push {cls:=.type "range",data:=.fields #[.int lo t,.int hi u,.int 1 v]}).objs.size,[(s.heap.push {cls:=.type "range",data:=.fields #[.int lo t,.int hi u,.int 1 v]}).objs.size],_,_,H,rfl,
  I1.kept (t':=tk) fun b o e=>Heap.get?_push_of_some _ e,z_ _ lo (hi-lo).toNat,?_,fun b hb=>?_,q⟩
 ·have e1:lo+((0:Nat):Int)*1=lo:=by simp
  have e2:(((hi-lo).toNat:Nat):Int)-((0:Nat):Int)=Builtin.Range.rangeSize lo hi 1:=by rw[rangeSize_one];split<;>omega
  show IsRangeIter _ _ (lo+((0:Nat):Int)*1) ((((hi-lo).toNat:Nat):Int)-((0:Nat):Int)) 1
  rw[e1,e2]
  exact Heap.get?_push_size _ rfl
 ·have e:b=(s.heap.push {cls:=.type "range",data:=.fields #[.int lo t,.int hi u,.int 1 v]}).objs.size:=by simpa using hb
  subst e
  exact I1.Fb (Nat.le_refl _) (I1.hok.fresh (Nat.le_refl _))
def Zdc(ta:TA):TI:=fun σ H R=>ta σ H fun vs H1=>∃j:Int,vs=[.int j]∧ -(2 ^ 62)≤j∧j<2 ^ 62∧R (Itr 0 j.toNat) H1
theorem Fe{a:Expr}{ta:TA}{p pos:Pos}(hg:Gl X "range")(hm:X.mg "range" =none)(ha:PA X [a] ta)(hs:starEach [a] X.env=[(false,eval a X.env)]:=by rfl):PI X tg (.Call (.Name "range" p) [a] [] pos) (Zdc ta):=by
 intro pins s σ H R I h
 refine Call_ (jW I hg hm boot_range (PyProof.Rows.callWith_type1 (Ŧ (ha pos pins s σ H _ I h) fun us s1 ⟨vs,H1,I1,r1,q1⟩=>?_) hs rfl))
 obtain⟨j,e,q1,q2,q⟩:=q1
 subst e
 cases r1 with
 |cons r rr=>
  cases rr
  obtain⟨t,rfl⟩:=r
  exact call_range_1 (Hf I1 (by omega) (by omega) q1 q2 (by simpa using q))
def ZkI(wi:TI)(g:TG)(tb:TS):TS:=fun D σ H=>wi σ H fun J H1=>∃W:Nat→Nat→St→Hp→Prop,(∃m,W 0 m σ H1)∧∀i m σ H,W i m σ H→
 (J.stop i H∧D.nx σ H)∨(J.go i H∧∃N:St→Hp→Prop,(∀σ' H',N σ' H'→∃m',m'<m∧W (i+1) m' σ' H')∧∀x H',J.yld i H x H'→g x σ H' fun σ2 H2=>tb {D with nx:=N,ct:=N,bk:=D.nx} σ2 H2)
def jX(fp:List Addr)(h:Heap):List (č):=fp.filterMap fun b=>(h.get? b).map fun o=>(b,o)
theorem bL{fp:List Addr}{h:Heap}{b:Addr}{o:Obj}(hb:b∈fp)(e:h.get? b=some o):(b,o)∈jX fp h:=List.mem_filterMap.mpr ⟨b,hb,by rw[e];rfl⟩
theorem Fg{fp:List Addr}{h:Heap}{p:č}(hp:p∈jX fp h):p.1∈fp∧h.get? p.1=some p.2:=by
 obtain⟨b,hb,e⟩:=List.mem_filterMap.mp hp
 cases q:h.get? b with
 |none=>rw[q] at e;cases e
 |some o=>
  rw[q] at e
  have e':(b,o)=p:=Option.some.inj e
  subst e'
  exact⟨hb,q⟩
theorem Inv.pinned{pins:List (č)}{σ:St}{H:Hp}{s:Shared}{fp:List Addr}(I:Inv X pins σ H s)(hf:∀b∈fp,fX X pins H b)(ho:∀b∈fp,∃o,s.heap.get? b=some o∧∀v,o.data≠ .cell v):Inv X (pins++jX fp s.heap) σ H s:=
 I.Dl fun p hp=>(List.mem_append.mp hp).elim (fun z=>I.pin p (List.mem_append_right _ z)) fun z=>by
   obtain⟨hb,e⟩:=Fg z
   obtain⟨f0,f1,f2,_⟩:=hf p.1 hb
   obtain⟨o,e',d⟩:=ho p.1 hb
   rw[e] at e';cases e'
   exact⟨e,f0,f1,f2,d⟩
theorem Inv.fY{pins pl:List (č)}{σ:St}{H:Hp}{s:Shared}(I:Inv X (pins++pl) σ H s):Inv X pins σ H s:=I.Dl fun p hp=>I.pin p (List.mem_append_right _ (List.mem_append_left _ hp))
theorem Yc{iter:Expr}{body:List Stmt}{wi:TI}{g:TG}{tb:TS}{pos:Pos}(hp:PassesOwn (model X.prog X.w) X.A X.env X.xe)(hc:X.calm=true)(hi:PI X tg iter wi)(hg:PG X tg g)(hb:ju X body tb)
 (hs:∀x,foldedSetIterable iter X.env x=pure x:=by intro _;rfl):PS X (.For tg iter body [] pos) (ZkI wi g tb):=by
 intro pins s σ H D I h
 refine wpAny_For (Ŧ (hi pins s σ H _ I h) fun v s1 h1=>Ŧ h1 fun itv s2 h2=>?_) hs
 obtain⟨it,fp,tn,J,H2,e,I2,T,st2,f2,W,⟨m0,w0⟩,turn⟩:=h2
 subst e
 -- what stays true of the iterator's objects through the loop
 have stat:∀{H':Hp},(∀b∈fp,H' b=none)→∀b∈fp,fX X pins H' b:=fun hn b hb=>⟨hn b hb,(f2 b hb).2⟩
 refine codeAny_forLoop_any (fun n s'=>∃i σ' H',Inv X pins σ' H' s'∧tn i s'.heap∧(∀b∈fp,H' b=none)∧W i n σ' H') ?_ m0 ⟨0,σ,H2,I2,st2,fun b hb=>(f2 b hb).1,w0⟩
 rintro n s3 ⟨i,σ3,H3,I3,st3,fr3,w3⟩
 rcases turn i n σ3 H3 w3 with⟨stop,qn⟩|⟨go,N,hN,step⟩
 ·refine wpAny_passesOwn hp (Ŧ (T.done X rfl rfl rfl hc i pins s3 σ3 H3 X.xe I3 (stat fr3) st3 stop) fun r s4 ⟨hr,I4⟩=>?_)
  subst hr
  exact wpAny_execs_nil ⟨σ3,H3,I4,qn⟩
 ·refine wpAny_passesOwn hp (Ŧ (T.item X rfl rfl rfl hc i pins s3 σ3 H3 X.xe I3 (stat fr3) st3 go) fun r s4 ⟨u,hr,h4⟩=>?_)
  subst hr
  refine wpAny_passesOwn hp (Ŧ h4 fun _ s5 ⟨x,H5,I5,r5,y5,Rv,Yd⟩=>?_)
  have I5':=I5.pinned (stat Yd) (T.obj _ _ Rv)
  refine wpAny_passesOwn hp (Ŧ (hg _ s5 σ3 H5 x u _ I5' r5 (step x H5 y5)) fun _ s6 ⟨σ6,H6,I6,q6⟩=>?_)
  refine wpAny_passesOwn hp (Ŧ (hb _ s6 σ6 H6 _ I6 q6) fun f s7 q7=>?_)
  have again:∀{σ7:St} {H7:Hp},Inv X (pins++jX fp s5.heap) σ7 H7 s7→N σ7 H7→∃m,m<n∧∃i σ' H',Inv X pins σ' H' s7∧tn i s7.heap∧(∀b∈fp,H' b=none)∧W i m σ' H':=fun{σ7 H7} I7 n7=>by
   obtain⟨m',hm,w7⟩:=hN σ7 H7 n7
   refine⟨m',hm,i+1,σ7,H7,I7.fY,T.keep _ _ _ Rv fun b hb o e=>(I7.pin (b,o) (List.mem_append_right _ (List.mem_append_right _ (bL hb e)))).1,fun b hb=>?_,w7⟩
   obtain⟨o,e,d⟩:=T.obj _ _ Rv b hb
   exact(I7.pin (b,o) (List.mem_append_right _ (List.mem_append_right _ (bL hb e)))).2.1
  cases f with
  |next=>obtain⟨σ7,H7,I7,n7⟩:=q7;exact again I7 n7
  |cont=>obtain⟨σ7,H7,I7,n7⟩:=q7;exact again I7 n7
  |brk=>obtain⟨σ7,H7,I7,q7⟩:=q7;exact⟨σ7,H7,I7.fY,q7⟩
  |ret v=>obtain⟨x7,σ7,H7,I7,r7,q7⟩:=q7;exact⟨x7,σ7,H7,I7.fY,r7,q7⟩
end
end L2
namespace L2
open PySem PySem.Spec PyProof.Rows
abbrev R2:=V→V→Hp→VK→Prop
def aC(X:Cx)(f:Value→Value→Sem Value)(r:R2):Prop:=
 ∀(pins:List (č)) (s:Shared) (σ:St) (H:Hp) (x y:V) (v u:Value) (Q:VK),Inv X pins σ H s→RelV x v→RelV y u→r x y H Q→
  wpAny (model X.prog X.w) X.A (f v u) (EP X pins σ Q) X.xe s
def Rw(X:Cx)(f:Value→Sem Value)(r:V→Hp→VK→Prop):Prop:=
 ∀(pins:List (č)) (s:Shared) (σ:St) (H:Hp) (x:V) (v:Value) (Q:VK),Inv X pins σ H s→RelV x v→r x H Q→
  wpAny (model X.prog X.w) X.A (f v) (EP X pins σ Q) X.xe s
def Ţ(X:Cx)(f:Value)(r:List V→Hp→VK→Prop):Prop:=
 ∀(pins:List (č)) (s:Shared) (σ:St) (H:Hp) (xs:List V) (us:List Value) (Q:VK),Inv X pins σ H s→Vals xs us→r xs H Q→
  wpAny (model X.prog X.w) X.A (call f us) (EP X pins σ Q) X.xe s
def ZkJ(X:Cx)(r:V→Hp→(Bool→Hp→Prop)→Prop):Prop:=
 ∀(pins:List (č)) (s:Shared) (σ:St) (H:Hp) (x:V) (v:Value) (Q:Bool→Hp→Prop),Inv X pins σ H s→RelV x v→r x H Q→
  wpAny (model X.prog X.w) X.A (truthy v) (TP X pins σ Q) X.xe s
def tOp(r:R2)(ta tb:TE):TE:=fun σ H Q=>ta σ H fun x H1=>tb σ H1 fun y H2=>r x y H2 Q
def tUn(r:V→Hp→VK→Prop)(ta:TE):TE:=fun σ H Q=>ta σ H fun x H1=>r x H1 Q
def rI(C:Int→Int→Prop)(g:Int→Int→V):R2:=fun x y H Q=>∃i j,x=.int i∧y=.int j∧C i j∧Q (g i j) H
def Ra(g:Int→Int→V):R2:=fun x y H Q=>∃i j,x=.int i∧y=.int j∧Q (g i j) H
def rU(g:Int→V):V→Hp→VK→Prop:=fun x H Q=>∃i,x=.int i∧Q (g i) H
section
variable{X:Cx}{a b c:Expr}{ta tb tc:TE}{pos:Pos}
theorem Ye(ha:PE X a ta)(hb:PE X b tb){pins:List (č)}{s:Shared}{σ:St}{H:Hp}{R:V→V→Hp→Prop}(I:Inv X pins σ H s)
 (h:ta σ H fun x H1=>tb σ H1 fun y H2=>R x y H2){Q:Value→Shared→Prop}{f:Value→Value→Sem Value}
 (hf:∀v u s2 x y H2,Inv X pins σ H2 s2→RelV x v→RelV y u→R x y H2→wpAny (model X.prog X.w) X.A (f v u) Q X.xe s2) :
 wpAny (model X.prog X.w) X.A (eval a X.env) (fun v s₁=>wpAny (model X.prog X.w) X.A (eval b X.env) (fun u s₂=>wpAny (model X.prog X.w) X.A (f v u) Q X.xe s₂) X.xe s₁) X.xe s:=by
 refine Ŧ (ha pins s σ H _ I h) fun v s1 ⟨x,H1,I1,r1,q1⟩=>?_
 refine Ŧ (hb pins s1 σ H1 _ I1 q1) fun u s2 ⟨y,H2,I2,r2,q2⟩=>?_
 exact hf v u s2 x y H2 I2 r1 r2 q2
theorem Ve{op:Operator}{r:R2}(ho:aC X (binaryOp op) r)(ha:PE X a ta)(hb:PE X b tb):PE X (.BinOp a op b pos) (tOp r ta tb):=by
 intro pins s σ H Q I h
 exact wpAny_BinOp (Ye ha hb I h fun v u s2 x y H2 I2 rx ry q=>ho pins s2 σ H2 x y v u Q I2 rx ry q)
theorem Zdd{op:UnaryOp}{r:V→Hp→VK→Prop}(ho:Rw X (unaryOp op) r)(ha:PE X a ta):PE X (.UnaryOp op a pos) (tUn r ta):=by
 intro pins s σ H Q I h
 exact UnaryOp_ (Ŧ (ha pins s σ H _ I h) fun v s1 ⟨x,H1,I1,r1,q1⟩=>ho pins s1 σ H1 x v Q I1 r1 q1)
theorem Dq{f:Value→Value→Sem Value}{C:Int→Int→Prop}{g:Int→Int→Int}
 (rule:∀(i j:Int) (t u:Tok) (s:Shared) (Q:Value→Shared→Prop) (E:Value→Shared→Prop),C i j→Q (.int (g i j) s.toks) {s with toks:=s.toks+1}→wpAny (model X.prog X.w) X.A (f (.int i t) (.int j u)) Q E s) :
 aC X f (rI C fun i j=>.int (g i j)):=by
 intro pins s σ H x y v u Q I rx ry h
 obtain⟨i,j,rfl,rfl,hc,q⟩:=h
 obtain⟨t,rfl⟩:=rx
 obtain⟨t',rfl⟩:=ry
 exact rule i j t t' s _ _ hc ⟨.int (g i j),H,I.tok _,⟨_,rfl⟩,q⟩
theorem wD{f:Value→Value→Sem Value}{g:Int→Int→Int}
 (rule:∀(i j:Int) (t u:Tok) (s:Shared) (Q:Value→Shared→Prop) (E:Value→Shared→Prop),Q (.int (g i j) s.toks) {s with toks:=s.toks+1}→wpAny (model X.prog X.w) X.A (f (.int i t) (.int j u)) Q E s) :
 aC X f (Ra fun i j=>.int (g i j)):=by
 intro pins s σ H x y v u Q I rx ry h
 obtain⟨i,j,rfl,rfl,q⟩:=h
 obtain⟨t,rfl⟩:=rx
 obtain⟨t',rfl⟩:=ry
 exact rule i j t t' s _ _ ⟨.int (g i j),H,I.tok _,⟨_,rfl⟩,q⟩
theorem Rx{f:Value→Value→Sem Value}{g:Int→Int→Bool}
 (rule:∀(i j:Int) (t u:Tok) (s:Shared) (Q:Value→Shared→Prop) (E:Value→Shared→Prop),Q (.bool (g i j)) s→wpAny (model X.prog X.w) X.A (f (.int i t) (.int j u)) Q E s) :
 aC X f (Ra fun i j=>.bl (g i j)):=by
 intro pins s σ H x y v u Q I rx ry h
 obtain⟨i,j,rfl,rfl,q⟩:=h
 obtain⟨t,rfl⟩:=rx
 obtain⟨t',rfl⟩:=ry
 exact rule i j t t' s _ _ ⟨.bl (g i j),H,I,rfl,q⟩
def Fi(i j:Int):Prop:=0≤j∧j≤1000000∧i.natAbs<2 ^ 64
def Yg(i j:Int):Prop:=(-(2 ^ 64)<i∧i<2 ^ 64)∨(-(2 ^ 64)<j∧j<2 ^ 64)
theorem Yg.ok{i j:Int}(h:Yg i j):IntMulOk i j:=by
 rcases h with⟨h1,h2⟩|⟨h1,h2⟩
 ·exact .of_left (intBits_le_64 h1 h2)
 ·exact .of_right (intBits_le_64 h1 h2)
theorem Aa(k:Nat):(0:Int)≤2 ^ k:=by
 rw[two_pow_cast]
 exact Int.natCast_nonneg _
theorem Yh:aC X (binaryOp .Add) (Ra fun i j=>.int (i+j)):=wD fun _ _ _ _ _ _ _ q=>add_int q
theorem Yi:aC X (binaryOp .Sub) (Ra fun i j=>.int (i-j)):=wD fun _ _ _ _ _ _ _ q=>sub_int q
theorem Ry:aC X (binaryOp .Mod) (rI (fun _ j=>j≠0) fun i j=>.int (i.fmod j)):=Dq fun _ _ _ _ _ _ _ hc q=>mod_int' hc q
theorem Yj:aC X (binaryOp .Pow) (rI Fi fun i j=>.int (i ^ j.toNat)):=Dq fun _ _ _ _ _ _ _ hc q=>pow_int_small hc.1 hc.2.1 hc.2.2 q
theorem Yk:aC X (binaryOp .LShift) (rI Fi fun i j=>.int (i*2 ^ j.toNat)):=Dq fun _ _ _ _ _ _ _ hc q=>lshift_int_small hc.1 hc.2.1 hc.2.2 q
theorem Yl:aC X (binaryOp .RShift) (rI (fun _ j=>0≤j) fun i j=>.int (i / 2 ^ j.toNat)):=Dq fun i j _ _ _ _ _ hc q=>
 rshift_int hc (by rw[Int.fdiv_eq_ediv_of_nonneg i (Aa _)];exact q)
theorem Ym:aC X (binaryOp .BitAnd) (Ra fun i j=>.int (Builtin.bitAnd i j)):=wD fun _ _ _ _ _ _ _ q=>and_int q
theorem unI{f:Value→Sem Value}{g:Int→Int}
 (rule:∀(i:Int) (t:Tok) (s:Shared) (Q:Value→Shared→Prop) (E:Value→Shared→Prop),Q (.int (g i) s.toks) {s with toks:=s.toks+1}→wpAny (model X.prog X.w) X.A (f (.int i t)) Q E s) :
 Rw X f (rU fun i=>.int (g i)):=by
 intro pins s σ H x v Q I rx h
 obtain⟨i,rfl,q⟩:=h
 obtain⟨t,rfl⟩:=rx
 exact rule i t s _ _ ⟨.int (g i),H,I.tok _,⟨_,rfl⟩,q⟩
theorem Yn:Rw X (unaryOp .USub) (rU fun i=>.int (-i)):=unI fun _ _ _ _ _ q=>neg_int q
end
section
variable{X:Cx}{a b c:Expr}{ta tb tc:TE}{pos:Pos}
theorem Yo{pins:List (č)}{σ:St}{H:Hp}{s:Shared}{Q:VK}{k k':Bool}(I:Inv X pins σ H s)(q:Q (.bl k) H)(e:k=k'):EP X pins σ Q (.bool k') s:=by
 subst e
 exact⟨.bl k,H,I,rfl,q⟩
theorem Zde:aC X (compareOp .Lt) (Ra fun i j=>.bl (decide (i<j))):=Rx fun _ _ _ _ _ _ _ q=>lt_int q
theorem Zdf:aC X (compareOp .LtE) (Ra fun i j=>.bl (decide (i≤j))):=Rx fun _ _ _ _ _ _ _ q=>le_int q
theorem Zdg:aC X (compareOp .Gt) (Ra fun i j=>.bl (decide (j<i))):=Rx fun _ _ _ _ _ _ _ q=>gt_int q
theorem Zdh:aC X (compareOp .GtE) (Ra fun i j=>.bl (decide (j≤i))):=Rx fun _ _ _ _ _ _ _ q=>ge_int q
theorem jY:aC X (compareOp .Is) (fun x y H Q=>y=.non∧Q (.bl (decide (x=.non))) H):=by
 intro pins s σ H x y v u Q I rx ry h
 obtain⟨rfl,q⟩:=h
 cases ry
 refine is_none_gen (Yo I q ?_)
 cases x<;>first
  |(cases rx;rfl)
  |(obtain⟨t,rfl⟩:=rx;rfl)
theorem aC.or{f:Value→Value→Sem Value}{r r':R2}(h:aC X f r)(h':aC X f r'):aC X f (fun x y H Q=>r x y H Q∨r' x y H Q):=by
 intro pins s σ H x y v u Q I rx ry q
 rcases q with q|q
 ·exact h pins s σ H x y v u Q I rx ry q
 ·exact h' pins s σ H x y v u Q I rx ry q
theorem Ĳ(b:Expr){op:CmpOp}(h:op≠ .In:=by decide)(h2:op≠ .NotIn:=by decide):behindInMarks op b=false:=by
 have e1:(op== CmpOp.In)=false:=by cases op<;>first|rfl|exact absurd rfl h
 have e2:(op== CmpOp.NotIn)=false:=by cases op<;>first|rfl|exact absurd rfl h2
 cases b<;>simp[behindInMarks,e1,e2]
theorem Rz{op:CmpOp}{r:R2}(ho:aC X (compareOp op) r)(ha:PE X a ta)(hb:PE X b tb)(hm:behindInMarks op b=false):PE X (.Compare a [op] [b] pos) (tOp r ta tb):=by
 intro pins s σ H Q I h
 exact wpAny_Compare1 (Ye ha hb I h fun v u s2 x y H2 I2 rx ry q=>ho pins s2 σ H2 x y v u Q I2 rx ry q) hm
def Yp(K:PySem.W.Frag)(x:V)(H:Hp)(k:Bool):Prop:=
 match x with
 | .non=>k=false
 | .bl b=>k=b
 | .int i=>k=(i != 0)
 | .str y=>y.length≤sizeLine∧k=((y.length:Int) != 0)
 | .Va y=>y.size≤sizeLine∧k=((y.size:Int) != 0)
 | .ref p=>(∃xs,aJ K H p xs∧k=!xs.isEmpty)∨(∃xs,dD K H p xs∧k=!xs.isEmpty)∨∃kvs,H p=some (.dK kvs)∧k=!kvs.isEmpty
 |_=>False
theorem Ab{κ:Type}{kvs:List (κ×V)}{vs:List (κGJ)}(r:KV kvs vs):(!vs.isEmpty)=!kvs.isEmpty:=by
 cases r<;>rfl
theorem nR{xs:List V}{its:List Value}(r:Vals xs its):(!its.toArray.isEmpty)=!xs.isEmpty:=by
 cases r<;>simp
theorem jZ:(sizeLine:Nat)<2 ^ 63:=by rw[sizeLine_eq];decide
theorem Yq:ZkJ X (fun x H Q=>∃k,Yp X.K x H k∧Q k H):=by
 intro pins s σ H x v Q I rx h
 obtain⟨k,e,q⟩:=h
 have hl:=jZ
 have hs:sizeLine=16777216:=sizeLine_eq
 cases x with
 |non=>
  cases rx
  have e':k=false:=e
  subst e'
  exact truthy_none ⟨H,I,q⟩
 |bl b=>
  cases rx
  have e':k=b:=e
  subst e'
  exact wpAny_truthy_bool ⟨H,I,q⟩
 |int i=>
  obtain⟨t,rfl⟩:=rx
  have e':k=(i != 0):=e
  subst e'
  exact PySem.P.truthy_int ⟨H,I,q⟩
 |str y=>
  obtain⟨t,rfl⟩:=rx
  obtain⟨hy,e'⟩:y.length≤sizeLine∧k=((y.length:Int) != 0):=e
  subst e'
  exact PySem.P.truthy_str (by omega) ⟨H,I.tok _,q⟩
 |Va y=>
  obtain⟨t,rfl⟩:=rx
  obtain⟨hy,e'⟩:y.size≤sizeLine∧k=((y.size:Int) != 0):=e
  subst e'
  exact PySem.W.truthy_bytes (by omega) ⟨H,I.tok _,q⟩
 |ref p=>
  cases rx
  have e':(∃xs,aJ X.K H p xs∧k=!xs.isEmpty)∨(∃xs,dD X.K H p xs∧k=!xs.isEmpty)∨∃kvs,H p=some (.dK kvs)∧k=!kvs.isEmpty:=e
  rcases e' with⟨xs,hx,e'⟩|⟨xs,hx,e'⟩|⟨kvs,hx,e'⟩
  ·subst e'
   obtain⟨its,r,pl,hz⟩:=I.list hx
   have hlen:=r.length
   exact wpAny_truthy_list pl.isList (by simp only[List.size_toArray];omega) ⟨H,I.tok _,by rw[nR r];exact q⟩
  ·subst e'
   obtain⟨its,r,pl,hz⟩:=I.tuple hx
   have hlen:=r.length
   exact truthy_tuple pl (by simp only[List.size_toArray];omega) ⟨H,I.tok _,by rw[nR r];exact q⟩
  ·subst e'
   obtain⟨hz,hS,vs,r,m⟩:kvs.length≤sizeLine∧(p== sysModules)=false∧∃vs,KV kvs vs∧s.heap.DictOf (tX X.prog X.w) p vs:=I.hok p _ hx
   have hlen:kvs.length=vs.length:=Paired.length r
   exact wpAny_truthy_dict hS m (by omega) ⟨H,I.tok _,by rw[Ab r];exact q⟩
 |_=>exact(show False from e).elim
theorem Hg(ha:PE X a ta)(he:∀whole,isTrue a X.env whole=(do let v ←whole;standAt a.pos;holding [v] (truthy v))) :
 PT X a (fun σ H Q=>ta σ H fun x H'=>∃k,Yp X.K x H' k∧Q k H'):=by
 intro pins s σ H Q I h
 exact isTrue_plain (Ŧ (ha pins s σ H _ I h) fun v s1 ⟨x,H1,I1,r1,q1⟩=>Yq pins s1 σ H1 x v Q I1 r1 q1) (he _)
theorem Ac:aC X (binaryOp .Add) (fun x y H Q=>∃i j,x=.str i∧y=.str j∧i.length+j.length≤sizeLine∧Q (.str (i++j)) H):=by
 intro pins s σ H x y v u Q I rx ry h
 obtain⟨i,j,rfl,rfl,hz,q⟩:=h
 obtain⟨t,rfl⟩:=rx
 obtain⟨t',rfl⟩:=ry
 exact add_str (fun t' tk=>⟨.str (i++j),H,I.tok _,⟨_,rfl⟩,q⟩) hz
theorem vals1{x:V}{us:List Value}(r:Vals [x] us):∃u,us=[u]∧RelV x u:=by
 cases r with
 |cons r1 r2=>cases r2;exact⟨_,rfl,r1⟩
theorem vals2{x y:V}{us:List Value}(r:Vals [x,y] us):∃u w',us=[u,w']∧RelV x u∧RelV y w':=by
 cases r with
 |cons r1 r2=>
  cases r2 with
  |cons r3 r4=>cases r4;exact⟨_,_,rfl,r1,r3⟩
theorem Hh:Ţ X (.builtin "abs") (fun xs H Q=>∃i,xs=[.int i]∧Q (.int (if i<0 then -i else i)) H):=by
 intro pins s σ H xs us Q I r h
 obtain⟨i,rfl,q⟩:=h
 obtain⟨u,rfl,t,rfl⟩:=vals1 r
 exact call_abs_int fun u tk=>⟨.int (if i<0 then -i else i),H,I.tok _,⟨_,rfl⟩,q⟩
theorem Fj(hc:X.calm=true):Ţ X (.builtin "max") (fun xs H Q=>∃i j,xs=[.int i,.int j]∧Q (.int (if j>i then j else i)) H):=by
 intro pins s σ H xs us Q I r h
 obtain⟨i,j,rfl,q⟩:=h
 obtain⟨u,w',rfl,⟨t,rfl⟩,⟨t',rfl⟩⟩:=vals2 r
 refine max_two_ints (I.ok.hd hc) fun h' tk k=>⟨_,H,I.kept k,?_,q⟩
 by_cases hj:j>i
 ·rw[if_pos hj,if_pos hj];exact⟨_,rfl⟩
 ·rw[if_neg hj,if_neg hj];exact⟨_,rfl⟩
theorem Fo(hc:X.calm=true):Ţ X (.builtin "min") (fun xs H Q=>∃i j,xs=[.int i,.int j]∧Q (.int (if j<i then j else i)) H):=by
 intro pins s σ H xs us Q I r h
 obtain⟨i,j,rfl,q⟩:=h
 obtain⟨u,w',rfl,⟨t,rfl⟩,⟨t',rfl⟩⟩:=vals2 r
 refine min_two_ints (I.ok.hd hc) fun h' tk k=>⟨_,H,I.kept k,?_,q⟩
 by_cases hj:j<i
 ·rw[if_pos hj,if_pos hj];exact⟨_,rfl⟩
 ·rw[if_neg hj,if_neg hj];exact⟨_,rfl⟩
theorem Fp:Ţ X (.type "int") (fun xs H Q=>(∃i,xs=[.int i]∧Q (.int i) H)∨∃k,xs=[.bl k]∧Q (.int (if k then 1 else 0)) H):=by
 intro pins s σ H xs us Q I r h
 rcases h with⟨i,rfl,q⟩|⟨k,rfl,q⟩
 ·obtain⟨u,rfl,t,rfl⟩:=vals1 r
  exact call_int_int ⟨.int i,H,I,⟨_,rfl⟩,q⟩
 ·obtain⟨u,rfl,r1⟩:=vals1 r
  cases r1
  exact call_int_bool ⟨.int (if k then 1 else 0),H,I.tok _,⟨_,rfl⟩,q⟩
def ZkK(K:PySem.W.Frag)(x:V)(H:Hp)(n:Nat):Prop:=
 match x with
 | .str y=>y.length≤sizeLine∧n=y.length
 | .Va y=>y.size≤sizeLine∧n=y.size
 | .ref p=>(∃xs,aJ K H p xs∧n=xs.length)∨∃xs,dD K H p xs∧n=xs.length
 |_=>False
theorem Hi:Ţ X (.builtin "len") (fun xs H Q=>∃x n,xs=[x]∧ZkK X.K x H n∧Q (.int n) H):=by
 intro pins s σ H xs us Q I r h
 obtain⟨x,n,rfl,e,q⟩:=h
 obtain⟨u,rfl,rx⟩:=vals1 r
 have hl:=jZ
 have hs:sizeLine=16777216:=sizeLine_eq
 cases x with
 |str y=>
  obtain⟨t,rfl⟩:=rx
  obtain⟨hy,e'⟩:y.length≤sizeLine∧n=y.length:=e
  subst e'
  exact len_str (by omega) ⟨.int _,H,I.tok _,⟨_,rfl⟩,q⟩
 |Va y=>
  obtain⟨t,rfl⟩:=rx
  obtain⟨hy,e'⟩:y.size≤sizeLine∧n=y.size:=e
  subst e'
  exact PySem.W.len_bytes (by omega) ⟨.int _,H,I.tok _,⟨_,rfl⟩,q⟩
 |ref p=>
  cases rx
  have e':(∃xs,aJ X.K H p xs∧n=xs.length)∨∃xs,dD X.K H p xs∧n=xs.length:=e
  rcases e' with⟨xs,hx,e'⟩|⟨xs,hx,e'⟩
  ·subst e'
   obtain⟨its,r',pl,hz⟩:=I.list hx
   have hlen:=r'.length
   exact Calls.call_len_list pl.isList (by simp only[List.size_toArray];omega) ⟨.int xs.length,H,I.tok _,⟨_,by simp only[List.size_toArray];rw[hlen]⟩,q⟩
  ·subst e'
   obtain⟨its,r',pl,hz⟩:=I.tuple hx
   have hlen:=r'.length
   exact len_tuple pl (by simp only[List.size_toArray];omega) ⟨.int xs.length,H,I.tok _,⟨_,by simp only[List.size_toArray];rw[hlen]⟩,q⟩
 |_=>exact(show False from e).elim
end
end L2
namespace L2
open PySem PySem.Spec PyProof.Rows
structure Ad(h:Heap)(x dx C:Addr)(mA:Str→Option Value):Prop where
 obj:h.get? x=some (PySem.W.instObj C dx)
 ns:h.Ns1 dx mA
 ne:dx≠x
theorem qM{h:Heap}{dx:Addr}{mA:Str→Option Value}(n:h.Ns1 dx mA):∃od,h.get? dx=some od∧∀name,PySem.W.lookIn name od=some (mA name):=by
 obtain⟨o,es,ep,ho,hd,hk,_,hm⟩:=n
 refine⟨o,ho,fun name=>?_⟩
 have e:=hm name
 unfold nsFind findBy at e
 rw[←Array.find?_toList] at e
 unfold PySem.W.lookIn
 rw[hd]
 dsimp only
 split
 ·rename_i y q
  rw[q] at e
  exact congrArg some e
 ·rename_i q
  rw[q] at e
  have a:es.toList.any (·.refKey)=false:=by
   rw[List.any_eq_false]
   intro y hy
   obtain⟨z,t,hkey⟩:=hk y (Array.mem_toList_iff.mp hy)
   simp[DictEntry.refKey,hkey]
  have a':¬es.toList.any (·.refKey)=true:=by rw[a];exact Bool.false_ne_true
  rw[if_neg a']
  exact congrArg some e
theorem Ad.look{h:Heap}{x dx C:Addr}{mA:Str→Option Value}(I:Ad h x dx C mA):∃od,PySem.W.InstAt h x (PySem.W.instObj C dx) C (some od)∧∀name,PySem.W.lookIn name od=some (mA name):=
 let ⟨od,ho,hl⟩:=qM I.ns
 ⟨od,⟨I.obj,rfl,rfl,ho⟩,hl⟩
section
variable{prog:Program}{w:World}{A:Around}{E:Value→Shared→Prop}{s:Shared}{K:PySem.W.Frag}{x dx C f:Addr}{mA:Str→Option Value}{name:Str}{v:Value}
theorem get_map{expr:Bool}{Q:Value→Shared→Prop}(X:K.In s.heap)(I:Ad s.heap x dx C mA)(hg:PySem.W.plainGet K C name=true)(hh:PySem.W.hasDictIn K C=true)
 (ha:PySem.W.findIn K (.ref C) name=some none)(hv:mA name=some v)(hv':PySem.W.handedIn v=true)(h:Q v {s with toks:=s.toks+1}) :
 wpAny (model prog w) A (getAttr (.ref x) name expr) Q E s:=by
 obtain⟨od,J,hl⟩:=I.look
 exact PySem.W.get_value X J (PySem.W.plainGet_of hg).1 (PySem.W.findObj_own hh ha rfl (by rw[hl,hv])) hv' h
theorem Hj{pl:Sem Bool}{Q:Ae Value→Shared→Prop}(X:K.In s.heap)(I:Ad s.heap x dx C mA)(hg:PySem.W.plainGet K C name=true)
 (hf:PySem.W.findIn K (.ref C) name=some (some (.ref f)))(ht:PySem.W.isFn K (.ref f)=true)(hv:mA name=none)(h:Q (.ref f,[.ref x]) s) :
 wpAny (model prog w) A (getMethod (.ref x) name pl) Q E s:=by
 obtain⟨od,J,hl⟩:=I.look
 exact PySem.W.method_fn X J (PySem.W.plainGet_of hg).1 (PySem.W.plainGet_of hg).2 hf (beq_iff_eq.mp ht) (by show(PySem.W.lookIn name od).map (·.isSome)=some false;rw[hl,hv];rfl) h
theorem RD{ns:List Str}{Q:Unit→Shared→Prop}(X:K.In s.heap)(I:Ad s.heap x dx C mA)
 (hs:PySem.W.findIn K (.ref C) "__setattr__" =some (some (.builtin "object.__setattr__")))(hp:PySem.W.plainOver K C=true)(ht:PySem.W.takerIn K C name=some none)(hh:PySem.W.hasDictIn K C=true)
 (hw:PySem.Within mA ns)(hsz:ns.length≤sizeLine)
 (h:∀h',Ad h' x dx C (fun y=>if y=name then some v else mA y)→Heap.SameBut dx s.heap h'→Q () {s with heap:=h',toks:=s.toks+2}) :
 wpAny (model prog w) A (setAttr (.ref x) name v) Q E s:=by
 obtain⟨od,J,hl⟩:=I.look
 refine PySem.W.set_plain X J hs (PySem.W.osa_open (s:={s with toks:=s.toks+1}) (r:=none) X J hp ht fun b=>?_)
 obtain⟨cd,hc,hd'⟩:=PySem.W.any_some hh
 have hx:s.heap.get? x=some ⟨.ref C,some dx,.plain,#[]⟩:=I.obj
 refine wpAny_bind (wpAny_pure (wpAny_bind (wpAny_bind (wpAny_loadPart hx (wpAny_bind (PySem.W.Looks.here (s:={s with toks:=s.toks+1}) (PySem.W.looks_clsIn X hc) ?_))))))
 rw[hd']
 refine wpAny_pure (a:=some dx) (wpAny_bind (wpAny_pure (wpAny_bind ?_)))
 refine wpAny_nsSet1 (s:={s with toks:=s.toks+1}) I.ns fun h' hn2 hs2=>?_
 obtain⟨oD,esD,epD,hoD,hdD,hcD⟩:=hn2.count (PySem.Within.cons name v hw)
 refine wpAny_bind (wpAny_lookBehind hoD (by rw[hdD];exact pastItsLine_dict (Nat.le_trans hcD (by rw[List.length_cons];omega))) ?_)
 exact wpAny_pure (h _ ⟨(hs2.2 _ (Ne.symm I.ne)).trans I.obj,hn2,I.ne⟩ hs2)
theorem Hl{R:Result→Shared→Prop}{vs:List Value}{kw:List (cI)}(X:K.In s.heap)(hm:PySem.W.makesIn K C=true)
 (hi:PySem.W.findIn K (.ref C) "__init__" =some (some (.ref f)))(hf:PySem.W.typeIn K (.ref f)=some (.type "function"))
 (h:codeAny (model prog w) (A.under (.builtin "type.__call__" ⟨.ref C::vs,kw⟩)) (.call (.ref f) ⟨.ref (s.heap.objs.size+1)::vs,kw⟩) (PySem.W.InitBack (s.heap.objs.size+1) R)
   {s with heap:=(s.heap.push PySem.W.emptyDict).push (PySem.W.instObj C s.heap.objs.size)}) :
 codeAny (model prog w) A (.call (.ref C) ⟨vs,kw⟩) R s:=by
 obtain⟨hh,g,d,t,os⟩:=s
 exact PySem.W.make_core (PySem.W.makes_of X hm) (PySem.W.looks_findIn X hi) (fun self=>PySem.W.bind_fn X self hf) (.inl rfl) h
end
def aW(f:Str)(v:V):List (Ÿ)→List (Ÿ)
 | []=>[(f,v)]
 |(g,x)::r=>if g=f then(g,v)::r else(g,x)::aW f v r
theorem fZ(f g:Str)(v:V):∀fs:List (Ÿ),(aW f v fs).lookup g=if g=f then some v else fs.lookup g
 | []=>by
   show List.lookup g [(f,v)]=_
   by_cases h:g=f
   ·have hb:(g== f)=true:=beq_iff_eq.mpr h
    simp only[List.lookup,hb,if_pos h]
   ·have hb:(g== f)=false:=beq_eq_false_iff_ne.mpr h
    simp only[List.lookup,hb,if_neg h]
 |(k,x)::r=>by
  have ih:=fZ f g v r
  rw[show aW f v ((k,x)::r)=(if k=f then(k,v)::r else(k,x)::aW f v r) from rfl]
  by_cases hk:k=f
  ·rw[if_pos hk]
   by_cases h:g=k
   ·have hb:(g== k)=true:=beq_iff_eq.mpr h
    simp only[List.lookup,hb,if_pos (h.trans hk)]
   ·have hb:(g== k)=false:=beq_eq_false_iff_ne.mpr h
    simp only[List.lookup,hb,if_neg (fun e:g=f=>h (e.trans hk.symm))]
  ·rw[if_neg hk]
   by_cases h:g=k
   ·have hb:(g== k)=true:=beq_iff_eq.mpr h
    simp only[List.lookup,hb,if_neg (fun e:g=f=>hk (h.symm.trans e))]
   ·have hb:(g== k)=false:=beq_eq_false_iff_ne.mpr h
    simp only[List.lookup,hb]
    exact ih
theorem j_(f:Str)(v:V):∀fs:List (Ÿ),f∈(aW f v fs).map (·.1)∧∀g,g∈fs.map (·.1)→g∈(aW f v fs).map (·.1)
 | []=>⟨by simp[aW],fun g h=>by simp at h⟩
 |(k,x)::r=>by
  obtain⟨i1,i2⟩:=j_ f v r
  rw[show aW f v ((k,x)::r)=(if k=f then(k,v)::r else(k,x)::aW f v r) from rfl]
  by_cases hk:k=f
  ·rw[if_pos hk]
   subst hk
   exact⟨by simp,fun g h=>by simpa using h⟩
  ·rw[if_neg hk]
   refine⟨?_,fun g h=>?_⟩
   ·rw[List.map_cons]
    exact List.mem_cons_of_mem _ i1
   ·rw[List.map_cons] at h ⊢
    rcases List.mem_cons.mp h with e|e
    ·exact List.mem_cons.mpr (.inl e)
    ·exact List.mem_cons_of_mem _ (i2 g e)
theorem gb(f:Str)(v:V):∀fs:List (Ÿ),(aW f v fs).length≤fs.length+1
 | []=>by simp[aW]
 |(k,x)::r=>by
  have ih:=gb f v r
  rw[show aW f v ((k,x)::r)=(if k=f then(k,v)::r else(k,x)::aW f v r) from rfl]
  by_cases hk:k=f
  ·rw[if_pos hk,List.length_cons,List.length_cons];omega
  ·rw[if_neg hk,List.length_cons,List.length_cons];omega
theorem jV.some_of{v:V}{o:Option Value}(r:jV (some v) o):∃u,o=some u∧RelV v u:=by
 cases o with
 |none=>exact(show False from r).elim
 |some u=>exact⟨u,rfl,r⟩
theorem jV.none_of{o:Option Value}(r:jV none o):o=none:=by
 cases o with
 |none=>rfl
 |some u=>exact(show False from r).elim
theorem Fq{v:V}{u:Value}(r:RelV v u):PySem.W.handedIn u=true:=by
 cases v with
 |non=>cases(show u=Value.none from r);rfl
 |bl b=>cases(show u=Value.bool b from r);rfl
 |int i=>obtain⟨t,e⟩:=(show ∃t,u=Value.int i t from r);cases e;rfl
 |str x=>obtain⟨t,e⟩:=(show ∃t,u=Value.str x t from r);cases e;rfl
 |Va b=>obtain⟨t,e⟩:=(show ∃t,u=Value.bytes b t from r);cases e;rfl
 |flt b=>obtain⟨t,e⟩:=(show ∃t,u=Value.float b t from r);cases e;rfl
 |ref a=>cases(show u=Value.ref a from r);rfl
 |ty n=>cases(show u=Value.type n from r);rfl
section
variable{P:Program}{w:World}{H H':Hp}{h h':Heap}{a C dx:Addr}{fs fs':List (Ÿ)}
theorem nA(hok:fP P w H h)(e:H a=some (.ins C dx fs)):∃mA,Ad h a dx C mA∧(∀f,jV (fs.lookup f) (mA f))∧PySem.Within mA (fs.map (·.1))∧fs.length≤1000∧H dx=some (.own a):=by
 obtain⟨d,z,ne,ob,mA,n,r,q⟩:=(show ŭ P w H h a (.ins C dx fs) from hok a _ e)
 exact⟨mA,⟨ob,n,ne⟩,r,q,z,d⟩
end
structure Cls(K:PySem.W.Frag)(C:Addr):Prop where
 pg:PySem.W.plainGet K C Str.empty=true
 hd:PySem.W.hasDictIn K C=true
 po:PySem.W.plainOver K C=true
 sa:PySem.W.findIn K (.ref C) "__setattr__" =some (some (.builtin "object.__setattr__"))
theorem Cls.get{K:PySem.W.Frag}{C:Addr}(c:Cls K C)(f:Str):PySem.W.plainGet K C f=true:=c.pg
def ň(K:PySem.W.Frag)(C:Addr)(f:Str):Prop:=PySem.W.findIn K (.ref C) f=some none
theorem ň.taker{K:PySem.W.Frag}{C:Addr}{f:Str}(n:ň K C f):PySem.W.takerIn K C f=some none:=by
 unfold PySem.W.takerIn
 rw[show PySem.W.findIn K (.ref C) f=some none from n]
 rfl
structure Meth(K:PySem.W.Frag)(C:Addr)(m:Str)(f:Addr):Prop where
 at_:PySem.W.findIn K (.ref C) m=some (some (.ref f))
 fn:PySem.W.isFn K (.ref f)=true
 kp:PySem.W.keepIn K (.ref f)=true
section
variable{X:Cx}{pins:List (č)}{σ:St}{H:Hp}{s:Shared}{a C dx:Addr}{fs:List (Ÿ)}{f:Str}{v:V}{A:Around}{E:Value→Shared→Prop}
theorem Af{b:Bool}{Q:Value→Shared→Prop}(I:Inv X pins σ H s)(e:H a=some (.ins C dx fs))(c:Cls X.K C)(n:ň X.K C f)(l:fs.lookup f=some v)
 (h:∀u s',Inv X pins σ H s'→RelV v u→Q u s'):wpAny (model X.prog X.w) A (getAttr (.ref a) f b) Q E s:=by
 obtain⟨mA,O,r,_,_,_⟩:=nA I.hok e
 obtain⟨u,hu,ru⟩:=jV.some_of (v:=v) (o:=mA f) (by rw[←l];exact r f)
 exact get_map I.fV O (c.get f) c.hd n hu (Fq ru) (h u _ (I.tok _) ru)
theorem Ag{m:Str}{g:Addr}{pl:Sem Bool}{Q:Ae Value→Shared→Prop}(I:Inv X pins σ H s)(e:H a=some (.ins C dx fs))(c:Cls X.K C)(k:Meth X.K C m g)(l:fs.lookup m=none)
 (h:Q (.ref g,[.ref a]) s):wpAny (model X.prog X.w) A (getMethod (.ref a) m pl) Q E s:=by
 obtain⟨mA,O,r,_,_,_⟩:=nA I.hok e
 have hn:mA m=none:=jV.none_of (by rw[←l];exact r m)
 exact Hj I.fV O (c.get m) k.at_ k.fn hn h
theorem Ah{y:V}{u:Value}{Q:Unit→Shared→Prop}(I:Inv X pins σ H s)(e:H a=some (.ins C dx fs))(c:Cls X.K C)(n:ň X.K C f)(hl:fs.length<1000)(ry:RelV y u)
 (h:∀s',Inv X pins σ (upd H a (.ins C dx (aW f y fs))) s'→Q () s'):wpAny (model X.prog X.w) A (setAttr (.ref a) f u) Q E s:=by
 obtain⟨mA,O,r,wi,_,ho⟩:=nA I.hok e
 have hz:(fs.map (·.1)).length≤sizeLine:=by rw[List.length_map,sizeLine_eq];omega
 refine RD I.fV O c.sa c.po n.taker c.hd wi hz fun h' O' sb=>h _ ?_
 have hd:∃o,h'.get? dx=some o:=let ⟨o,_,_,e',_⟩:=O'.ns;⟨o,e'⟩
 refine I.write (x:=a) (e:=dx) (by rw[e];exact True.intro) (.inr ho) (fun b q hb z=>(sb.2 b hb).trans z) hd ?_
 refine⟨by rw[Ġ O.ne];exact ho,?_,O.ne,O'.obj,_,O'.ns,fun g=>?_,fun g hg=>?_⟩
 ·have:=gb f y fs;omega
 ·show jV ((aW f y fs).lookup g) (if g=f then some u else mA g)
  rw[fZ]
  by_cases q:g=f
  ·rw[if_pos q,if_pos q];exact ry
  ·rw[if_neg q,if_neg q];exact r g
 ·by_cases q:g=f
  ·rw[q];exact(j_ f y fs).1
  ·refine(j_ f y fs).2 g (wi g fun z=>hg ?_)
   show(if g=f then some u else mA g)=none
   rw[if_neg q];exact z
theorem Inv.made(I:Inv X pins σ H s):Inv X pins σ (upd (upd H s.heap.objs.size (.own (s.heap.objs.size+1))) (s.heap.objs.size+1) (.ins C s.heap.objs.size []))
 {s with heap:=(s.heap.push PySem.W.emptyDict).push (PySem.W.instObj C s.heap.objs.size)}:=by
 have e1:(s.heap.push PySem.W.emptyDict).get? s.heap.objs.size=some PySem.W.emptyDict:=Heap.get?_push_size s.heap rfl
 have e2:((s.heap.push PySem.W.emptyDict).push (PySem.W.instObj C s.heap.objs.size)).get? (s.heap.objs.size+1)=some (PySem.W.instObj C s.heap.objs.size):=by
  have:=Heap.get?_push_size (s.heap.push PySem.W.emptyDict) (o:=PySem.W.instObj C s.heap.objs.size) rfl
  rwa [Heap.size_push] at this
 have e3:(s.heap.push PySem.W.emptyDict).Ns s.heap.objs.size (fun _=>none):=⟨PySem.W.emptyDict,#[],_,e1,rfl,(fun e he=>absurd he (by simp)),fun _=>rfl⟩
 have I1:=I.laid (a:=s.heap.objs.size) (o:=.own (s.heap.objs.size+1)) (h':=s.heap.push PySem.W.emptyDict) (t':=s.toks) (fun b u q=>Heap.get?_push_of_some _ q) (Nat.le_refl _) ⟨_,e1⟩
 refine I1.laid (a:=s.heap.objs.size+1) (o:=.ins C s.heap.objs.size []) (t':=s.toks) (fun b u q=>Heap.get?_push_of_some _ q) (Nat.le_of_eq (Heap.size_push _ _)) ?_
 have ne:s.heap.objs.size≠s.heap.objs.size+1:=Nat.ne_of_lt (Nat.lt_succ_self _)
 refine⟨by rw[Ġ ne,Ĭ],Nat.zero_le _,ne,e2,fun _=>none,(Heap.Ns1.of_empty e3).at fun o q=>Heap.get?_push_of_some _ q,fun _=>True.intro,fun y hy=>absurd rfl hy⟩
theorem RG{prog:Program}{w:World}{env:Env}{e:Expr}{f:Str}{pos:Pos}{s:Shared}{Q:Value→Shared→Prop}(hb:attributeBase e f env (eval e env)=eval e env)
 (h:wpAny (model prog w) A (eval e env) (fun o s₁=>wpAny (model prog w) A (getAttr o f true) Q E s₁) E s):wpAny (model prog w) A (eval (.Attribute e f pos) env) Q E s:=
 Attribute_any_ h (by rw[arm_eval_Attribute,hb])
end
def ZkL(K:PySem.W.Frag)(ta:TE)(f:Str):TE:=fun σ H Q=>ta σ H fun x H1=>∃a C dx fs v,x=.ref a∧H1 a=some (.ins C dx fs)∧Cls K C∧ň K C f∧fs.lookup f=some v∧Q v H1
def ZkM(K:PySem.W.Frag)(ta tv:TE)(f:Str):TS:=fun D σ H=>tv σ H fun y H1=>ta σ H1 fun x H2=>∃a C dx fs,x=.ref a∧H2 a=some (.ins C dx fs)∧Cls K C∧ň K C f∧fs.length<1000∧
 D.nx σ (upd H2 a (.ins C dx (aW f y fs)))
section
variable{X:Cx}{o e value:Expr}{f:Str}{pos pos' tpos:Pos}{ta tv:TE}
theorem Yr(he:PE X e ta)(hb:attributeBase e f X.env (eval e X.env)=eval e X.env):PE X (.Attribute e f pos) (ZkL X.K ta f):=by
 intro pins s σ H Q I h
 refine RG hb (Ŧ (he pins s σ H _ I h) fun u s1 ⟨x,H1,I1,rx,a,C,dx,fs,v,ex,ea,c,n,l,q⟩=>?_)
 subst ex
 obtain rfl:u=Value.ref a:=rx
 exact Af I1 ea c n l fun u' s2 I2 ru=>⟨v,H1,I2,ru,q⟩
theorem Ys(ha:PE X o ta)(hv:PE X value tv)(hs:swapsWith value (some (.Attribute o f pos')) pos.line X.env=pure false):PS X (.Assign [.Attribute o f pos'] value pos) (ZkM X.K ta tv f):=by
 intro pins s σ H D I h
 refine plainObj_wpAny_Assign_Attribute (Ŧ (hv pins s σ H _ I h) fun u s1 ⟨y,H1,I1,ry,q⟩=>Ŧ (ha pins s1 σ H1 _ I1 q) fun ov s2 ⟨x,H2,I2,rx,a,C,dx,fs,ex,ea,c,n,l,q2⟩=>?_) hs
 subst ex
 obtain rfl:ov=Value.ref a:=rx
 exact Ah I2 ea c n l ry fun s3 I3=>⟨σ,_,I3,q2⟩
end
section
variable{X:Cx}{pins:List (č)}{σ:St}{H:Hp}{s:Shared}{A:Around}{E:Value→Shared→Prop}{Q:Value→Shared→Prop}{c:Value}{b:Bool}
inductive kh(K:PySem.W.Frag)(H:Hp):V→Value→Prop where
 |non:kh K H .non (.type "NoneType")
 |bl (x:Bool):kh K H (.bl x) (.type "bool")
 |int (i:Int):kh K H (.int i) (.type "int")
 |str (x:Str):kh K H (.str x) (.type "str")
 |flt (x:UInt64):kh K H (.flt x) (.type "float")
 |lst {a:Addr} {xs:List V} (e:H a=some (.lst xs)):kh K H (.ref a) (.type "list")
 |dB {a:Addr} {o:Obj} {xs:List V} (e:H a=some (.dB o (.lst xs))):kh K H (.ref a) (.type "list")
 |tup {a:Addr} {xs:List V} (e:H a=some (.tup xs)):kh K H (.ref a) (.type "tuple")
 |dK {a:Addr} {kvs:List (Dk)} (e:H a=some (.dK kvs)):kh K H (.ref a) (.type "dict")
 |dT {a:Addr} {kvs:List (List Dk)} (e:H a=some (.dT kvs)):kh K H (.ref a) (.type "dict")
 |ins {a C dx:Addr} {fs:List (Ÿ)} (e:H a=some (.ins C dx fs)) (cl:Cls K C) (ha:PySem.W.findIn K (.ref C) "__class__" =some (some (.builtin "object.__class__")))
   (hn:PySem.W.specialIn K (.builtin "object.__class__") "__get__" =some (some (.builtin "getset_descriptor.__get__"))) (htk:PySem.W.takesIn K (.builtin "object.__class__")=some true)
   (hm:PySem.W.mroIn K C (.type "object")=some true):kh K H (.ref a) (.ref C)
theorem dG{x:V}{u t:Value}(I:Inv X pins σ H s)(rx:RelV x u)(ty:kh X.K H x t)(e:PySem.W.kitOne X.K t c=some b)(h:∀tk,Q (.bool b) {s with toks:=tk}) :
 wpAny (model X.prog X.w) A (call (.builtin "isinstance") [u,c]) Q E s:=by
 cases ty with
 |non=>cases(show u=Value.none from rx);exact PySem.W.kia_one PySem.W.kitx_none I.fV True.intro e (fun z=>nomatch z) h
 |bl y=>cases(show u=Value.bool y from rx);exact PySem.W.kia_one PySem.W.kitx_bool I.fV True.intro e (fun z=>nomatch z) h
 |int i=>obtain⟨t,q⟩:=(show ∃t,u=Value.int i t from rx);cases q;exact PySem.W.kia_one PySem.W.kitx_int I.fV True.intro e (fun z=>nomatch z) h
 |str y=>obtain⟨t,q⟩:=(show ∃t,u=Value.str y t from rx);cases q;exact PySem.W.kia_one PySem.W.kitx_str I.fV True.intro e (fun z=>nomatch z) h
 |flt y=>obtain⟨t,q⟩:=(show ∃t,u=Value.float y t from rx);cases q;exact PySem.W.kia_one PySem.W.kitx_float I.fV True.intro e (fun z=>nomatch z) h
 |@lst a xs ea=>
  cases(show u=Value.ref a from rx)
  obtain⟨_,_,n,_,h1⟩:=(show ŭ X.prog X.w H s.heap a (.lst xs) from I.hok a _ ea)
  exact PySem.W.kia_one PySem.W.kitx_list I.fV ⟨_,h1,rfl⟩ e (fun z=>nomatch z) h
 |@dB a ob xs ea=>
  cases(show u=Value.ref a from rx)
  obtain⟨_,_,_,n,_,h1⟩:=(show ŭ X.prog X.w H s.heap a (.dB ob (.lst xs)) from I.hok a _ ea)
  exact PySem.W.kia_one PySem.W.kitx_list I.fV ⟨_,h1,rfl⟩ e (fun z=>nomatch z) h
 |@tup a xs ea=>
  cases(show u=Value.ref a from rx)
  obtain⟨_,_,_,p⟩:=(show ŭ X.prog X.w H s.heap a (.tup xs) from I.hok a _ ea)
  obtain⟨o,h1,h2,_⟩:=p
  exact PySem.W.kia_one PySem.W.kitx_tuple I.fV ⟨o,h1,h2⟩ e (fun z=>nomatch z) h
 |@dK a kvs ea=>
  cases(show u=Value.ref a from rx)
  obtain⟨_,_,vs,_,p⟩:=(show ŭ X.prog X.w H s.heap a (.dK kvs) from I.hok a _ ea)
  obtain⟨o,es,ep,h1,h2,_⟩:=p
  exact PySem.W.kia_one PySem.W.kitx_dict I.fV ⟨o,h1,h2.1⟩ e (fun z=>nomatch z) h
 |@dT a kvs ea=>
  cases(show u=Value.ref a from rx)
  obtain⟨_,_,xs,_,o,es,ep,h1,h2,_⟩:=(show ŭ X.prog X.w H s.heap a (.dT kvs) from I.hok a _ ea)
  exact PySem.W.kia_one PySem.W.kitx_dict I.fV ⟨o,h1,h2.1⟩ e (fun z=>nomatch z) h
 |@ins a C dx fs ea cl ha hn htk hm=>
  cases(show u=Value.ref a from rx)
  obtain⟨mA,O,_⟩:=nA I.hok ea
  obtain⟨od,J,_⟩:=O.look
  exact PySem.W.kia_one (PySem.W.kitx_own (cl.get _) cl.hd ha hn htk hm) I.fV J e (fun z=>nomatch z) h
end
end L2
namespace L2
open PySem PySem.Spec PyProof.Rows
structure bI(k:Nat)(A:Around):Prop where
 hd:A.handled=none
 dp:A.depth+3*k+5<recursionLimit
 un:A.units+16*k+200<cLine
theorem bI.mono{j k:Nat}{A:Around}(r:bI k A)(h:j≤k):bI j A:=⟨r.hd,by have:=r.dp;omega,by have:=r.un;omega⟩
theorem bI.deeper{k:Nat}{A:Around}(r:bI (k+1) A)(env:Env):bI k (A.deeper env):=
 ⟨r.hd,by have:=r.dp;show A.depth+1+3*k+5<_;omega,by have:=r.un;show A.units+3+16*k+200<_;omega⟩
theorem Ai{A:Around}{C:Addr}{us:List Value}{kw:List (cI)}:(A.under (.builtin "type.__call__" ⟨.ref C::us,kw⟩)).depth=A.depth+1:=by
 first|rfl|simp[Around.under,Code.weight,Code.isCreation,Code.isGuard,Code.isCaller,Code.frames,Code.isFrame,guardIds]
theorem Aj{A:Around}{C:Addr}{us:List Value}{kw:List (cI)}:(A.under (.builtin "type.__call__" ⟨.ref C::us,kw⟩)).units=A.units+1:=by
 first|rfl|simp[Around.under,Code.cUnits,Code.frames,Code.isFrame]
theorem bI.make{k:Nat}{A:Around}(r:bI (k+1) A)(C:Addr)(us:List Value)(kw:List (cI)):bI k (A.under (.builtin "type.__call__" ⟨.ref C::us,kw⟩)):=
 ⟨r.hd,by have:=r.dp;rw[Ai];omega,by have:=r.un;rw[Aj];omega⟩
theorem bI.depth{k:Nat}{A:Around}(r:bI k A):A.depth<recursionLimit:=by have:=r.dp;omega
theorem bI.units{k:Nat}{A:Around}(r:bI k A):A.units+64<cLine:=by have:=r.un;omega
def Zdi:TA:=fun _ H Q=>Q [] H
def Vf(ta:TE)(tr:TA):TA:=fun σ H Q=>ta σ H fun x H1=>tr σ H1 fun xs H2=>Q (x::xs) H2
section
variable{X:Cx}{e:Expr}{es:List Expr}{te:TE}{t:TA}{pos:Pos}
theorem jg:PA X [] Zdi:=fun _ _ _ _ H Q I h=>Calls.spliced_nil ⟨[],H,I,.nil,h⟩
theorem cB(ha:PE X e te)(hr:PA X es t)(hs:starEach (e::es) X.env=(false,eval e X.env)::starEach es X.env:=by rfl):PA X (e::es) (Vf te t):=by
 intro pos pins s σ H Q I h
 rw[hs]
 show wpAny _ _ (spliced ((false,eval e X.env)::backTo pos (starEach es X.env))) _ _ s
 refine Calls.spliced_cons (Ŧ (ha pins s σ H _ I h) fun u s1 ⟨x,H1,I1,r1,q1⟩=>?_)
 exact Ŧ (hr pos pins s1 σ H1 _ I1 q1) fun us s2 ⟨xs,H2,I2,r2,q2⟩=>⟨x::xs,H2,I2,.cons r1 r2,q2⟩
def ZkN(t:TA):TE:=fun σ H Q=>t σ H fun xs H1=>xs.length≤sizeLine∧∀p,H1 p=none→Q (.ref p) (upd H1 p (.tup xs))
def ZkO(t:TA):TE:=fun σ H Q=>t σ H fun xs H1=>xs.length≤sizeLine∧∀p,H1 p=none→Q (.ref p) (upd H1 p (.lst xs))
theorem Yt{x1}(h:PA X es t):PE X (.Tuple es x1 pos) (ZkN t):=by
 intro pins s σ H Q I hq
 refine wpAny_Tuple_spliced (Ŧ (h pos pins s σ H _ I hq) fun us s1 ⟨xs,H1,I1,r,z,q⟩=>⟨by rw[←r.length];exact z,?_⟩)
 have hf:H1 s1.heap.objs.size=none:=I1.hok.fresh (Nat.le_refl _)
 refine⟨.ref s1.heap.objs.size,upd H1 s1.heap.objs.size (.tup xs),I1.laid (t':=s1.toks) (fun b u e=>Heap.get?_push_of_some _ e) (Nat.le_refl _) ?_,rfl,q _ hf⟩
 exact⟨z,us,r,⟨_,Heap.get?_push_size _ rfl,rfl,_,rfl⟩⟩
theorem Yu(h:PA X es t):PE X (.List es pos) (ZkO t):=by
 intro pins s σ H Q I hq
 refine wpAny_List_spliced (Ŧ (h pos pins s σ H _ I hq) fun us s1 ⟨xs,H1,I1,r,z,q⟩=>⟨by rw[←r.length];exact z,?_⟩)
 have hf:H1 s1.heap.objs.size=none:=I1.hok.fresh (Nat.le_refl _)
 refine⟨.ref s1.heap.objs.size,upd H1 s1.heap.objs.size (.lst xs),I1.laid (t':=s1.toks) (fun b u e=>Heap.get?_push_of_some _ e) (Nat.le_refl _) ?_,rfl,q _ hf⟩
 exact⟨z,us,0,r,Heap.get?_push_size _ rfl⟩
end
abbrev Sp:=List V→Hp→VK→XK→Prop
abbrev qj:=List Env→Hp→Shared→XK→Value→Shared→Prop
structure Ak(P:Program)(w:World)(K:PySem.W.Frag)(mg:Str→Option Value)(base:Heap)(A:Around)(outer:List Env)(s:Shared)(H:Hp):Prop where
 frames:A.frames=some outer
 mod:Mod K mg base
 bs:∀b o,base.get? b=some o→s.heap.get? b=some o∧H b=none
 Rn:base.objs.size≤s.heap.objs.size
 mK:s.heap.FunFrames base outer
 Xu:∀b∈frs outer,H b=none
 hok:fP P w H s.heap
 bare:AllBare s.gens
def CE(outer:List Env)(P:Program)(w:World)(H:Hp)(s:Shared)(Q:VK)(u:Value)(s':Shared):Prop:=
 ∃v H',s'.os=s.os∧AllBare s'.gens∧Un (frs outer) [] H H' s.heap s'.heap∧fP P w H' s'.heap∧RelV v u∧Q v H'
def CR(CX:qj)(outer:List Env)(P:Program)(w:World)(H:Hp)(s:Shared)(Q:VK)(E:XK)(r:Result)(s':Shared):Prop:=
 match r with
 | .ok (.ret u)=>CE outer P w H s Q u s'
 | .ok _=>False
 | .error e=>CX outer H s E e s'
structure İ(P:Program)(w:World)(K:PySem.W.Frag)(mg:Str→Option Value)(base:Heap)(CX:qj)(k:Nat)(f:Addr)(fd:FuncData)(ps:List Str)(sp:Sp):Prop where
 len:∀vs H Q E,sp vs H Q E→vs.length=ps.length
 run:∀(A:Around) (outer:List Env) (s:Shared) (H:Hp) (args:Args) (us:List Value) (vs:List V) (Q:VK) (E:XK),bI k A→Ak P w K mg base A outer s H→BindsTo s fd args (ps.zip us)→Vals vs us→sp vs H Q E→
  codeAny (model P w) A (.call (.ref f) args) (CR CX outer P w H s Q E) s
theorem İ.mono{P:Program}{w:World}{K:PySem.W.Frag}{mg:Str→Option Value}{base:Heap}{CX:qj}{j k:Nat}{f:Addr}{fd:FuncData}{ps:List Str}{sp:Sp}(F:İ P w K mg base CX j f fd ps sp)(h:j≤k) :
 İ P w K mg base CX k f fd ps sp:=⟨F.len,fun A outer s H args us vs Q E hr=>F.run A outer s H args us vs Q E (hr.mono h)⟩
theorem İ.imp{P:Program}{w:World}{K:PySem.W.Frag}{mg:Str→Option Value}{base:Heap}{CX:qj}{k:Nat}{f:Addr}{fd:FuncData}{ps:List Str}{sp sp':Sp}(F:İ P w K mg base CX k f fd ps sp)
 (h:∀vs H Q E,sp' vs H Q E→sp vs H Q E):İ P w K mg base CX k f fd ps sp':=
 ⟨fun vs H Q E q=>F.len vs H Q E (h _ _ _ _ q),fun A outer s H args us vs Q E hr he hb hv hs=>F.run A outer s H args us vs Q E hr he hb hv (h _ _ _ _ hs)⟩
theorem Ak.make{P:Program}{w:World}{K:PySem.W.Frag}{mg:Str→Option Value}{base:Heap}{A:Around}{outer:List Env}{s:Shared}{H:Hp}(e:Ak P w K mg base A outer s H)(C:Addr)(us:List Value)(kw:List (cI)) :
 Ak P w K mg base (A.under (.builtin "type.__call__" ⟨.ref C::us,kw⟩)) outer s H:=⟨by first|exact e.frames|(simpa[Around.under,Code.envs,Code.isFrame,pushEnvs] using e.frames),e.mod,e.bs,e.Rn,e.mK,e.Xu,e.hok,e.bare⟩
section
variable{X:Cx}{pins:List (č)}{σ:St}{H:Hp}{s s':Shared}
theorem Inv.env0(I:Inv X pins σ H s):Ak X.prog X.w X.K X.mg X.base X.A X.stack s H:=
 ⟨I.ok.frames,I.ok.mod,I.bs,Nat.le_trans I.ok.Rn I.sz,I.stack,I.tZ,I.hok,I.bare⟩
theorem Inv.after{Q:VK}{u:Value}(I:Inv X pins σ H s)(h:CE X.stack X.prog X.w H s Q u s'):EP X pins σ Q u s':=by
 obtain⟨v,H',os,bare,un,hok,r,q⟩:=h
 obtain⟨hh,g,d,t,os'⟩:=s'
 obtain rfl:os'=s.os:=os
 exact⟨v,H',I.call (h':=hh) (g':=g) (d':=d) (t':=t) (ch:=[]) un hok bare (fun b z=>absurd z (by simp)),r,q⟩
end
def Binds(K:PySem.W.Frag)(fd:FuncData)(ps:List Str)(ds:List Value):Prop:=
 ∀(s:Shared) (us:List Value),K.In s.heap→(us++ds).length=ps.length→BindsTo s fd ⟨us,[]⟩ (ps.zip (us++ds))
theorem Binds.all{K:PySem.W.Frag}{fd:FuncData}{ps:List Str}(h:∀us:List Value,us.length=ps.length→bindArgs fd ⟨us,[]⟩=pure (ps.zip us)):Binds K fd ps []:=fun s us _ hl=>by
 rw[List.append_nil] at hl ⊢
 exact .of_eq (h us hl)
section
variable{X:Cx}{CX:qj}{k:Nat}{f C:Addr}{fd:FuncData}{ps:List Str}{sp:Sp}{dvs:List V}{ds:List Value}{E:XK}{x m:Str}{p pos apos:Pos}{e o:Expr}{es:List Expr}{ta:TE}{t:TA}
structure Mk(K:PySem.W.Frag)(C f:Addr):Prop where
 makes:PySem.W.makesIn K C=true
 init:PySem.W.findIn K (.ref C) "__init__" =some (some (.ref f))
 fn:PySem.W.isFn K (.ref f)=true
 kp:PySem.W.keepIn K (.ref C)=true
end
section
variable{X:Cx}{CX:qj}{k:Nat}{f C:Addr}{fd:FuncData}{ps ks:List Str}{sp:Sp}{E:XK}{x m:Str}{p pos apos kpos:Pos}{e o:Expr}{es:List Expr}{kws:List Keyword}{te ta:TE}{t tk:TA}{nm:Option Str}
variable{g:List Value→List Value→List Value}{gV:List V→List V→List V}
end
structure ĕ(N P:List Str)(sc:Scope):Prop where
 kind:sc.kind=.function
 co:sc.isCoroutine=false
 gen:sc.isGenerator=false
 nd:N.Nodup
 pre:N.take P.length=P
 par:∀x∈P,sc.names.lookup x=some .local∨sc.names.lookup x=some .cell
 Yw:∀y∈sc.names,y.2≠ .free
theorem qN{kindOf:Str→Option NameKind}{x:Str}:∀{binds:List (cI)} {m:Str→Option Value},(∀v,(x,v)∉binds)→bindL kindOf binds m x=m x
 | [],_,_=>rfl
 |(n,v)::r,m,h=>by
  unfold bindL
  rw[qN fun w hw=>h w (List.mem_cons_of_mem _ hw)]
  split
  ·have:x≠n:=by rintro rfl;exact h v List.mem_cons_self
   simp[this]
  ·rfl
theorem qO{kindOf:Str→Option NameKind}{x:Str}:∀{binds:List (cI)} {m:Str→Option Value},(∀v,(x,v)∉binds)→bindC kindOf binds m x=m x
 | [],_,_=>rfl
 |(n,v)::r,m,h=>by
  unfold bindC
  rw[qO fun w hw=>h w (List.mem_cons_of_mem _ hw)]
  split
  ·rfl
  ·have:x≠n:=by rintro rfl;exact h v List.mem_cons_self
   simp[this]
theorem qP{kindOf:Str→Option NameKind}{x:Str}{v:Value}:∀{P:List Str} {vs:List Value} {i:Nat} {m:Str→Option Value},P.Nodup→P[i]?=some x→vs[i]?=some v→kindOf x=some .local→
 bindL kindOf (P.zip vs) m x=some v
 | [],_,_,_,_,h,_,_=>by simp at h
 |_::_,[],_,_,_,_,h,_=>by simp at h
 |p::P,w::vs,0,m,nd,h1,h2,hk=>by
  simp at h1 h2;subst h1;subst h2
  show bindL kindOf ((p,w)::P.zip vs) m p=_
  unfold bindL
  rw[qN fun v hv=>(List.nodup_cons.mp nd).1 (List.of_mem_zip hv).1,if_pos hk]
  simp
 |p::P,w::vs,i+1,m,nd,h1,h2,hk=>by
  show bindL kindOf ((p,w)::P.zip vs) m x=_
  unfold bindL
  exact qP (i:=i) (List.nodup_cons.mp nd).2 (by simpa using h1) (by simpa using h2) hk
theorem qQ{kindOf:Str→Option NameKind}{x:Str}{v:Value}:∀{P:List Str} {vs:List Value} {i:Nat} {m:Str→Option Value},P.Nodup→P[i]?=some x→vs[i]?=some v→kindOf x≠some .local→
 bindC kindOf (P.zip vs) m x=some v
 | [],_,_,_,_,h,_,_=>by simp at h
 |_::_,[],_,_,_,_,h,_=>by simp at h
 |p::P,w::vs,0,m,nd,h1,h2,hk=>by
  simp at h1 h2;subst h1;subst h2
  show bindC kindOf ((p,w)::P.zip vs) m p=_
  unfold bindC
  rw[qO fun v hv=>(List.nodup_cons.mp nd).1 (List.of_mem_zip hv).1,if_neg hk]
  simp
 |p::P,w::vs,i+1,m,nd,h1,h2,hk=>by
  show bindC kindOf ((p,w)::P.zip vs) m x=_
  unfold bindC
  exact qQ (i:=i) (List.nodup_cons.mp nd).2 (by simpa using h1) (by simpa using h2) hk
def start(N:List Str)(vs:List V):St:=vs.map some++List.replicate (N.length-vs.length) none
def b_(CX:qj)(P:Program)(w:World)(K:PySem.W.Frag)(mg:Str→Option Value)(base:Heap)(N:List Str)(qual:Str)(scope:Scope)(f:Addr)(cd:Value)(A:Around)(outer:List Env)(s:Shared)(H:Hp)(E:XK):Cx where
 prog:=P
 w:=w
 K:=K
 mg:=mg
 base:=base
 A:=A.deeper (envOfC qual scope s.heap.objs.size f cd)
 N:=N
 s₀:= s
 H₀:= H
 env:=envOfC qual scope s.heap.objs.size f cd
 outer:=outer
 stack:=envOfC qual scope s.heap.objs.size f cd::outer
 ex:=[]
 calm:=true
 fn:=fun _=>true
 pn:=[]
 xe:=fun e s'=>wpAny (model P w) (A.deeper (envOfC qual scope s.heap.objs.size f cd)) (leaving (envOfC qual scope s.heap.objs.size f cd) e) (fun _ s''=>CX outer H s E e s'') (fun e' s''=>CX outer H s E e' s'') s'
theorem jx{sc:Scope}{n:Nat}{x:Str}(h:sc.names.lookup x=some .cell):∃c,(cellsFrom n sc.names []).lookup x=some c:=by
 have q:=PySem.W.cellsFrom_some sc.names n [] (.inl h)
 exact Option.isSome_iff_exists.mp q
theorem Ft{CX:qj}{P:Program}{w:World}{K:PySem.W.Frag}{mg:Str→Option Value}{base:Heap}{N ps:List Str}{qual:Str}{scope:Scope}{f:Addr}{cd:Value}{A:Around}{outer:List Env}{s s1:Shared}{H:Hp}{E:XK}{us:List Value}{vs:List V}
 (S:ĕ N ps scope)(hd:A.handled=none)(e0:Ak P w K mg base A outer s H)(hl:vs.length=ps.length)(r:Vals vs us)
 (x:InCallC s s.heap.objs.size (bindL (envOfC qual scope s.heap.objs.size f cd).kindOf (ps.zip us) fun _=>none) (cellsFrom (s.heap.objs.size+1) scope.names []) (bindC (envOfC qual scope s.heap.objs.size f cd).kindOf (ps.zip us) fun _=>none) s1) :
 Inv (b_ CX P w K mg base N qual scope f cd A outer s H E) [] (start N vs) H s1:=by
 have hpl:ps.length≤N.length:=by have:=congrArg List.length S.pre;rw[List.length_take] at this;omega
 obtain⟨h1,tk,rfl,hk⟩:=x.done
 have noA:∀b:Addr,b∉(b_ CX P w K mg base N qual scope f cd A outer s H E).ex:=fun b z=>absurd (show b∈([]:List Addr) from z) (by simp)
 refine⟨⟨e0.mod,S.kind,rfl,rfl,Nat.le_refl _,fun y z c h1 h2=>?_,fun y hy=>?_,fun y c _ h=>?_,fun _=>hd,Around.frames_deeper e0.frames,.inr ⟨rfl,rfl⟩,fun b z=>absurd z (noA b),e0.bs,e0.Rn,fun b _ _=>noA b,fun b z=>absurd z (noA b),e0.mK,e0.Xu⟩,
  rfl,e0.bare,Un.kept hk,⟨_,x.toInCall.ns,fun i y v h1 h2 h3=>?_⟩,fun y c h=>⟨_,x.cell y c h⟩,e0.hok.fresh (Nat.le_refl _),fun y c h=>?_,fun p hp=>absurd (show p∈([]:List (č)) from hp) (by simp),e0.hok.kept hk,?_⟩
 ·exact name_of_addr x.apart (PySem.mem_of_lookup h1) (PySem.mem_of_lookup h2)
 ·have hy:scope.names.lookup y=some .cell∨scope.names.lookup y=some .free:=hy
  rcases hy with hy|hy
  ·exact jx hy
  ·exact absurd rfl (S.Yw _ (PySem.mem_of_lookup hy))
 ·exact Nat.le_of_lt (x.above y c (PySem.mem_of_lookup h))
 ·have hi:i<vs.length:=by
   unfold start at h2
   by_cases hi:i<vs.length
   ·exact hi
   ·rw[List.getElem?_append_right (by simpa using hi)] at h2
    rw[List.getElem?_replicate] at h2
    split at h2<;>cases h2
  have ha:vs[i]?=some v:=by
   unfold start at h2
   rw[List.getElem?_append_left (by simpa using hi),List.getElem?_map] at h2
   cases e:vs[i]? with
   |none=>rw[e] at h2;cases h2
   |some a=>rw[e] at h2;cases h2;rfl
  obtain⟨u,hu,rv⟩:=r.get ha
  have hp:ps[i]?=some y:=by
   rw[←S.pre,List.getElem?_take_of_lt (by omega)];exact h1
  have ndP:ps.Nodup:=by rw[←S.pre];exact S.nd.sublist (List.take_sublist _ _)
  refine⟨u,rv,?_⟩
  rcases S.par y (List.mem_of_getElem? hp) with k|k
  ·exact .inl ⟨k,qP ndP hp hu k⟩
  ·obtain⟨c,e⟩:=jx (n:=s.heap.objs.size+1) k
   refine .inr ⟨.inl k,c,e,?_⟩
   have q:=x.cell y c e
   rw[qQ ndP hp hu (by show scope.names.lookup y≠_;rw[k];decide)] at q
   exact q
 ·exact e0.hok.fresh (Nat.le_of_lt (x.above y c (PySem.mem_of_lookup h)))
 ·unfold start
  show _=N.length
  rw[List.length_append,List.length_map,List.length_replicate]
  omega
theorem Ho{CX:qj}{P:Program}{w:World}{K:PySem.W.Frag}{mg:Str→Option Value}{base:Heap}{k:Nat}{f:Addr}{name qual:Str}{params:Arguments}{body:List Stmt}{scope:Scope}{dV kV doc pm cdv ct oc:Value}{an od:Option Addr}
 {osl:Array (Option Value)}{N ps:List Str}{sp:Sp}(lk:K.lookup f=some ⟨oc,od,.func (PySem.W.fnOf name qual params body scope dV kV doc pm an cdv ct),osl⟩)(hcd:PySem.W.codeIn K cdv qual=true)(S:ĕ N ps scope)
 (len:∀vs H Q E,sp vs H Q E→vs.length=ps.length)
 (hbody:∀(A:Around) (outer:List Env) (s:Shared) (H:Hp) (vs:List V) (Q:VK) (E:XK),bI k (A.deeper (envOfC qual scope s.heap.objs.size f cdv))→sp vs H Q E→
   ∃t,ju (b_ CX P w K mg base N qual scope f cdv A outer s H E) body t∧t {nx:=fun _ H'=>Q .non H',rt:=Q} (start N vs) H) :
 İ P w K mg base CX (k+1) f (PySem.W.fnOf name qual params body scope dV kV doc pm an cdv ct) ps sp:=by
 refine⟨len,fun A outer s H args us vs Q E hr e0 hb r hsp=>?_⟩
 have hl:=len _ _ _ _ hsp
 have KX:K.In s.heap:=e0.mod.kin.keeps fun b o e=>(e0.bs b o e).1
 have lim:s.heap.NoLimit:=e0.mod.nolimit.keeps fun b o e=>(e0.bs b o e).1
 have hkind:∀y∈ps.zip us,scope.names.lookup y.1=some .local∨(scope.names.lookup y.1=some .cell∧((cellsFrom (s.heap.objs.size+1) scope.names []).lookup y.1).isSome=true):=fun⟨n,v⟩ hy=>by
  rcases S.par n (List.of_mem_zip hy).1 with q|q
  ·exact .inl q
  ·exact .inr ⟨q,PySem.W.cellsFrom_some _ _ _ (.inl q)⟩
 refine codeAny_call_function hr.depth (KX _ _ lk) rfl S.co S.gen rfl (PySem.W.codeRec_of KX hcd) (hb _ _ _ _ ?_)
 refine wpAny_newFunctionEnv_cells S.kind hkind fun env he s1 x=>?_
 subst he
 refine⟨lim.keeps x.toInCall.keep,codeAny_func ?_⟩
 obtain⟨t,ht,hq⟩:=hbody A outer s H vs Q E (hr.deeper _) hsp
 have I:Inv (b_ CX P w K mg base N qual scope f cdv A outer s H E) [] (start N vs) H s1:=Ft S hr.hd e0 hl r x
 refine wpAny_mono (ht [] s1 (start N vs) H _ I hq) (fun fl s' hs=>?_) fun e s' hs=>hs
 have fin:∀{σ':St} {H':Hp} {v:V} {u:Value},Inv (b_ CX P w K mg base N qual scope f cdv A outer s H E) [] σ' H' s'→RelV v u→Q v H'→CE outer P w H s Q u s':=
  fun{σ' H' v u} J rv q=>⟨v,H',J.os,J.bare,J.base,J.hok,rv,q⟩
 cases fl with
 |ret u=>
  obtain⟨v,σ',H',J,rv,q⟩:=hs
  exact fin J rv q
 |next=>
  obtain⟨σ',H',J,q⟩:=hs
  exact fin (v:=V.non) (u:=Value.none) J rfl q
 |brk=>
  obtain⟨_,_,_,q⟩:=hs
  exact False.elim q
 |cont=>
  obtain⟨_,_,_,q⟩:=hs
  exact False.elim q
end L2
namespace L2
open PySem PySem.Spec PyProof.Rows
section
variable{X:Cx}{x:Str}{p pos:Pos}{e:Expr}{es:List Expr}{t:TA}{id T:String}{r:List V→Hp→VK→Prop}
def tCB(r:List V→Hp→VK→Prop)(t:TA):TE:=fun σ H Q=>t σ H fun vs H1=>r vs H1 Q
theorem ĭ(hc:Ţ X (.builtin id) r)(hg:Gl X x)(hm:X.mg x=none)(hv:bootBuiltins x=some (.builtin id))(ha:PA X (e::es) t)(hn:x≠ "__name__" := by decide)(hdb:(x== ("__debug__" :Str))=false:=by decide)
 (he:starEach (e::es) X.env=(false,eval e X.env)::starEach es X.env:=by rfl)(hpl:(backTo pos (starEach es X.env)).any (·.1)=false:=by rfl):PE X (.Call (.Name x p) (e::es) [] pos) (tCB r t):=by
 intro pins s σ H Q I h
 refine wpAny_Call_Name_kw (jW I hg hm hv ?_ hn hdb)
 exact PyProof.Rows.callWith_builtin1 (Ŧ (ha pos pins s σ H _ I h) fun us s1 ⟨vs,H1,I1,r1,q1⟩=>hc pins s1 σ H1 vs us Q I1 r1 q1) he hpl
theorem ű(hc:Ţ X (.type T) r)(hg:Gl X x)(hm:X.mg x=none)(hv:bootBuiltins x=some (.type T))(ha:PA X (e::es) t)(hn:x≠ "__name__" := by decide)(hdb:(x== ("__debug__" :Str))=false:=by decide)
 (he:starEach (e::es) X.env=(false,eval e X.env)::starEach es X.env:=by rfl)(hpl:(backTo pos (starEach es X.env)).any (·.1)=false:=by rfl):PE X (.Call (.Name x p) (e::es) [] pos) (tCB r t):=by
 intro pins s σ H Q I h
 refine wpAny_Call_Name_kw (jW I hg hm hv ?_ hn hdb)
 exact PyProof.Rows.callWith_type1 (Ŧ (ha pos pins s σ H _ I h) fun us s1 ⟨vs,H1,I1,r1,q1⟩=>hc pins s1 σ H1 vs us Q I1 r1 q1) he hpl
end
end L2
namespace HT
open PySem PyProof.Rows
section
open PySem.SeqAt
open PySem.AutoSeq1 (wpAny_loadPart')
open PySem.MeetsSeq PySem.MeetsSeq2 PySem.MeetsSeq3
end
section
variable{prog:Program}{w:World}{A:Around}{E:Value→Shared→Prop}{s:Shared}
def gW(n d:Nat):Option Int→Nat
 |none=>d
 |some v=>if v<0 then(v+(n:Int)).toNat else min v.toNat n
theorem nC(n d k:Nat):gW n d (some (k:Int))=min k n:=by
 show(if(k:Int)<0 then((k:Int)+(n:Int)).toNat else min (k:Int).toNat n)=min k n
 rw[if_neg (by omega),Int.toNat_natCast]
theorem Hq(n d:Nat)(hd:d≤n)(o:Option Int):gW n d o≤n:=by
 cases o with
 |none=>exact hd
 |some v=>
  show(if v<0 then(v+(n:Int)).toNat else min v.toNat n)≤n
  by_cases hv:v<0
  ·rw[if_pos hv];omega
  ·rw[if_neg hv];exact Nat.min_le_right _ _
end
end HT
namespace L2
open PySem PySem.Spec PyProof.Rows
abbrev TO:=St→Hp→(Option Int→Hp→Prop)→Prop
def PO(X:Cx)(e:Option Expr)(t:TO):Prop:=
 ∀(pins:List (č)) (s:Shared) (σ:St) (H:Hp) (Q:Option Int→Hp→Prop),Inv X pins σ H s→t σ H Q→
  wpAny (model X.prog X.w) X.A (evalPart e X.env) (fun u s'=>∃o H',Inv X pins σ H' s'∧IsPart u o∧Q o H') X.xe s
def RJ:TO:=fun _ H Q=>Q none H
section
variable{X:Cx}{e:Expr}{te:TE}{lo hi:Option Expr}{tl th:TO}{pos p2:Pos}
theorem RK:PO X none RJ:=by
 intro pins s σ H Q I h
 rw[evalPart_none]
 exact wpAny_pure ⟨none,H,I,.none,h⟩
def Dr(X:Cx)(r:V→Option Int→Option Int→Hp→VK→Prop):Prop:=
 ∀(pins:List (č)) (s:Shared) (σ:St) (H:Hp) (x:V) (v vl vu:Value) (lo hi:Option Int) (sl:Addr) (Q:VK),Inv X pins σ H s→RelV x v→s.heap.IsSliceOf sl vl vu .none→IsPart vl lo→IsPart vu hi→r x lo hi H Q→
  ∃T id,typeLookup (.type T) "__getitem__" =pure (some (.builtin id))∧s.TypeIs v T∧wpAny (model X.prog X.w) X.A (getItem v (.ref sl)) (EP X pins σ Q) X.xe s
theorem Dr.or{r r':V→Option Int→Option Int→Hp→VK→Prop}(h:Dr X r)(h':Dr X r'):Dr X (fun x lo hi H Q=>r x lo hi H Q∨r' x lo hi H Q):=by
 intro pins s σ H x v vl vu lo hi sl Q I rx hs pl pu q
 rcases q with q|q
 ·exact h pins s σ H x v vl vu lo hi sl Q I rx hs pl pu q
 ·exact h' pins s σ H x v vl vu lo hi sl Q I rx hs pl pu q
def tSl(r:V→Option Int→Option Int→Hp→VK→Prop)(te:TE)(tl th:TO):TE:=fun σ H Q=>te σ H fun x H1=>tl σ H1 fun l H2=>th σ H2 fun u H3=>r x l u H3 Q
theorem Hr{r:V→Option Int→Option Int→Hp→VK→Prop}(hr:Dr X r)(he:PE X e te)(hl:PO X lo tl)(hu:PO X hi th):PE X (.Subscript e (.Slice lo hi none p2) pos) (tSl r te tl th):=by
 intro pins s σ H Q I h
 refine Subscript_ (Ŧ (he pins s σ H _ I h) fun v s1 ⟨x,H1,I1,r1,q1⟩=>?_)
 refine wpAny_Slice (Ŧ (hl pins s1 σ H1 _ I1 q1) fun vl s2 ⟨l,H2,I2,pl,q2⟩=>Ŧ (hu pins s2 σ H2 _ I2 q2) fun vu s3 ⟨u,H3,I3,pu,q3⟩=>?_)
 rw[evalPart_none]
 refine wpAny_pure ?_
 have I4:Inv X pins σ H3 {s3 with heap:=s3.heap.push {cls:=.type "slice",data:=.fields #[vl,vu,.none]}}:=I3.kept (t':=s3.toks) fun b ob q=>Heap.get?_push_of_some _ q
 obtain⟨T,id,hT,ht,hg⟩:=hr pins {s3 with heap:=s3.heap.push {cls:=.type "slice",data:=.fields #[vl,vu,.none]}} σ H3 x v vl vu l u s3.heap.objs.size Q I4 r1 (Heap.IsSliceOf.new ..) pl pu q3
 show wpAny (model X.prog X.w) X.A (subscriptTail e (.Slice lo hi none p2) v (.ref s3.heap.objs.size)) (EP X pins σ Q) X.xe {s3 with heap:=s3.heap.push {cls:=.type "slice",data:=.fields #[vl,vu,.none]}}
 exact tail_any (ops:=[.ref s3.heap.objs.size,v]) ht hT hg (by with_unfolding_all rfl)
def wF(xs:List V)(lo hi:Option Int):List V:=(xs.drop (HT.gW xs.length 0 lo)).take (HT.gW xs.length xs.length hi-HT.gW xs.length 0 lo)
theorem wG(xs:List V)(lo hi:Option Int):(wF xs lo hi).length≤xs.length:=by
 unfold wF
 rw[List.length_take,List.length_drop]
 omega
end
end L2
namespace L2
open PySem PySem.Spec PyProof.Rows
def Gz(n:Nat)(i:Int):Option Nat:=if 0≤i then(if i<n then some i.toNat else none) else if -(n:Int)≤i then some (i+n).toNat else none
def uc{α:Type}(xs:List α)(i:Int):Option α:= (Gz xs.length i).bind fun j=>xs[j]?
theorem Dt{n:Nat}{i:Int}{j:Nat}(h:Gz n i=some j):seqIndex? i n=some j∧j<n∧ -(n:Int)≤i∧i<n:=by
 unfold Gz at h
 by_cases h0:0≤i
 ·rw[if_pos h0] at h
  by_cases h1:i<n
  ·rw[if_pos h1] at h
   have e:i.toNat=j:=Option.some.inj h
   exact⟨by rw[seqIndex_of h0 h1,e],by omega,by omega,h1⟩
  ·rw[if_neg h1] at h;cases h
 ·rw[if_neg h0] at h
  by_cases h1: -(n:Int)≤i
  ·rw[if_pos h1] at h
   have e:(i+n).toNat=j:=Option.some.inj h
   exact⟨by rw[seqIndex_neg (by omega) h1,e],by omega,h1,by omega⟩
  ·rw[if_neg h1] at h;cases h
theorem ud{α:Type}{xs:List α}{i:Int}{v:α}(h:uc xs i=some v):∃j,seqIndex? i xs.length=some j∧xs[j]?=some v∧j<xs.length∧ -(xs.length:Int)≤i∧i<xs.length:=by
 unfold uc at h
 cases e:Gz xs.length i with
 |none=>rw[e] at h;cases h
 |some j=>
  rw[e] at h
  obtain⟨h1,h2,h3,h4⟩:=Dt e
  exact⟨j,h1,h,h2,h3,h4⟩
def Du(b:Expr):Prop:=∀o i,subscripted b false o i=operate [o,i] (getItem o i)
def Al(X:Cx)(r:R2):Prop:=
 ∀(value slice:Expr) (pins:List (č)) (s:Shared) (σ:St) (H:Hp) (x y:V) (v u:Value) (Q:VK),Inv X pins σ H s→RelV x v→RelV y u→r x y H Q→
  subscripted slice false v u=operate [v,u] (getItem v u)→wpAny (model X.prog X.w) X.A (subscriptTail value slice v u) (EP X pins σ Q) X.xe s
def MtR(X:Cx)(id:String)(r:V→List V→Hp→VK→Prop):Prop:=
 ∀(pins:List (č)) (s:Shared) (σ:St) (H:Hp) (x:V) (xs:List V) (v:Value) (us:List Value) (Q:VK),Inv X pins σ H s→RelV x v→Vals xs us→r x xs H Q→
  wpAny (model X.prog X.w) X.A (call (.builtin id) (v::us)) (EP X pins σ Q) X.xe s
section
variable{X:Cx}{a b:Expr}{ta tb:TE}{pos:Pos}
theorem Al.or{r r':R2}(h:Al X r)(h':Al X r'):Al X (fun x y H Q=>r x y H Q∨r' x y H Q):=by
 intro value slice pins s σ H x y v u Q I rx ry q hs
 rcases q with q|q
 ·exact h value slice pins s σ H x y v u Q I rx ry q hs
 ·exact h' value slice pins s σ H x y v u Q I rx ry q hs
theorem Zdj{r:R2}(hr:Al X r)(ha:PE X a ta)(hb:PE X b tb)(hs:Du b):PE X (.Subscript a b pos) (tOp r ta tb):=by
 intro pins s σ H Q I h
 exact Subscript_ (Ye ha hb I h fun v u s2 x y H2 I2 rx ry q=>hr a b pins s2 σ H2 x y v u Q I2 rx ry q (hs _ _))
def Zdk(K:PySem.W.Frag):R2:=fun x y H Q=>∃p xs i v,x=.ref p∧y=.int i∧aJ K H p xs∧uc xs i=some v∧Q v H
def Zdl(K:PySem.W.Frag):R2:=fun x y H Q=>∃p xs i v,x=.ref p∧y=.int i∧dD K H p xs∧uc xs i=some v∧Q v H
def Zdm:R2:=fun x y H Q=>∃z i c,x=.str z∧y=.int i∧z.length≤sizeLine∧uc z.cps.toList i=some c∧Q (.str ⟨#[c]⟩) H
theorem RL:Al X (Zdk X.K):=by
 intro value slice pins s σ H x y v u Q I rx ry h hs
 obtain⟨p,xs,i,z,rfl,rfl,hq,he,q⟩:=h
 cases rx
 obtain⟨t,rfl⟩:=ry
 obtain⟨its,r,pl,hz⟩:=I.list hq
 obtain⟨j,h1,h2,h3,h4,h5⟩:=ud he
 obtain⟨w,ew,rw'⟩:=r.get h2
 have hl:=r.length
 have hn:=jZ
 have fin:EP X pins σ Q w s:=⟨z,H,I,rw',q⟩
 by_cases h0:0≤i
 ·have hj:i.toNat=j:=by
   rw[seqIndex_of h0 h5] at h1
   exact Option.some.inj h1
  exact item_listR pl.isList h0 (by omega) (by rw[hj];simpa using ew) fin hs
 ·have hj:(i+(its.toArray.size:Int)).toNat=j:=by
   rw[seqIndex_neg (by omega) h4] at h1
   rw[List.size_toArray,←hl]
   exact Option.some.inj h1
  exact subscriptTail_builtinR (x:=w) pl.isList.typeIs slot_list_getitem.lookup
   (wpAny_getItem_list_neg (Q:=fun r s'=>r=w∧EP X pins σ Q r s') pl.isList (by omega) (by rw[List.size_toArray]<;>omega) (by omega) (by rw[hj];simpa using ew) ⟨rfl,fin⟩) hs
theorem Yx:Al X (Zdl X.K):=by
 intro value slice pins s σ H x y v u Q I rx ry h hs
 obtain⟨p,xs,i,z,rfl,rfl,hq,he,q⟩:=h
 cases rx
 obtain⟨t,rfl⟩:=ry
 obtain⟨its,r,pl,hz⟩:=I.tuple hq
 obtain⟨j,h1,h2,h3,h4,h5⟩:=ud he
 obtain⟨w,ew,rw'⟩:=r.get h2
 have hl:=r.length
 have hn:=jZ
 have fin:EP X pins σ Q w s:=⟨z,H,I,rw',q⟩
 exact subscriptTail_builtinR (x:=w) pl.typeIs slot_tuple_getitem.lookup
  (getItem_tuple (j:=j) (Q:=fun r s'=>r=w∧EP X pins σ Q r s') pl (by omega) (by omega) (by rw[List.size_toArray,←hl];exact h1) (by simpa using ew) ⟨rfl,fin⟩) hs
theorem Yy:Al X Zdm:=by
 intro value slice pins s σ H x y v u Q I rx ry h hs
 obtain⟨z,i,c,rfl,rfl,hz,he,q⟩:=h
 obtain⟨t,rfl⟩:=rx
 obtain⟨t',rfl⟩:=ry
 obtain⟨j,h1,h2,h3,h4,h5⟩:=ud he
 have hl:z.cps.toList.length=z.length:=by simp[Str.length]
 rw[hl] at h1 h4 h5
 have hn:=jZ
 exact tail_any (typeIs_str s z t) slot_str_getitem.lookup (getItem_str (c:=c) (by
  have e1:decide (i < -(2 ^ 63:Int))=false:=decide_eq_false (by omega)
  have e2:decide (i ≥ 2 ^ 63)=false:=decide_eq_false (by omega)
  rw[e1,e2,Bool.or_false]) (by rw[h1];simpa using h2) ⟨.str ⟨#[c]⟩,H,I.tok _,⟨_,rfl⟩,q⟩) hs
def rIx(K:PySem.W.Frag):R2:=fun x y H Q=>Zdk K x y H Q∨Zdl K x y H Q∨Zdm x y H Q
theorem Yz:Al X (rIx X.K):=RL.or (Yx.or Yy)
theorem Am(its:List Value)(n j:Nat)(u:Value):Obj.mapSeq (·.setIfInBounds j u) {cls:=.type "list",data:=.seq its.toArray n}= {cls:=.type "list",data:=.seq (its.set j u).toArray n}:=by
 simp[Obj.mapSeq]
theorem Inv.lst{pins:List (č)}{σ:St}{H:Hp}{s:Shared}{p:Addr}{xs:List V}(I:Inv X pins σ H s)(h:H p=some (.lst xs)) :
 ∃(its:List Value) (n:Nat),Vals xs its∧s.heap.get? p=some {cls:=.type "list",data:=.seq its.toArray n}∧xs.length≤sizeLine:=by
 obtain⟨z,its,n,r,e⟩:=I.hok p _ h
 exact⟨its,n,r,e,z⟩
theorem Inv.YB{pins:List (č)}{σ:St}{H:Hp}{s:Shared}{p:Addr}{xs ys:List V}{its its':List Value}{n n':Nat}{f:Obj→Obj}(I:Inv X pins σ H s)(h:H p=some (.lst xs))
 (ho:s.heap.get? p=some {cls:=.type "list",data:=.seq its.toArray n})(hf:f {cls:=.type "list",data:=.seq its.toArray n}= {cls:=.type "list",data:=.seq its'.toArray n'})(r:Vals ys its')(hz:ys.length≤sizeLine)(t:Nat) :
 Inv X pins σ (upd H p (.lst ys)) {s with heap:=s.heap.update p f,toks:=t}:=by
 have e:(s.heap.update p f).get? p=some {cls:=.type "list",data:=.seq its'.toArray n'}:=by
  rw[Heap.get?_update_self f ho (by rw[hf]<;>rfl),hf]
 refine I.write (x:=p) (e:=p) (by rw[h];trivial) (.inl rfl) (fun b u hb q=>(Heap.get?_update_other _ _ (Ne.symm hb)).trans q) ⟨_,e⟩ ?_
 exact⟨hz,its',n',r,e⟩
def Zdn:V→V→V→Hp→(Hp→Prop)→Prop:=fun o i v H Q=>∃p xs k j,o=.ref p∧i=.int k∧H p=some (.lst xs)∧Gz xs.length k=some j∧Q (upd H p (.lst (xs.set j v)))
theorem set_list:Zc_ X Zdn:=by
 intro pins s σ H o i v ov iv u Q I ro ri rv h
 obtain⟨p,xs,k,j,rfl,rfl,hp,hj,q⟩:=h
 cases ro
 obtain⟨t,rfl⟩:=ri
 obtain⟨its,n,r,ho,hz⟩:=I.lst hp
 obtain⟨h1,h2,h3,h4⟩:=Dt hj
 have hl:=r.length
 have hn:=jZ
 have I':Inv X pins σ (upd H p (.lst (xs.set j v))) {s with heap:=s.heap.update p (Obj.mapSeq (·.setIfInBounds j u))}:=
  I.YB hp ho (Am its n j u) (r.set rv j) (by rw[List.length_set];exact hz) s.toks
 by_cases h0:0≤k
 ·have hk:k.toNat=j:=by
   rw[seqIndex_of h0 h4] at h1
   exact Option.some.inj h1
  exact PySem.W.ki_setAt ho h0 (by omega) (by rw[List.size_toArray,←hl];exact h4) (by rw[hk];exact⟨_,I',q⟩)
 ·have hk:(k+(its.toArray.size:Int)).toNat=j:=by
   rw[seqIndex_neg (by omega) h3] at h1
   rw[List.size_toArray,←hl]
   exact Option.some.inj h1
  exact PySem.W.ki_setBack ho (by omega) (by rw[List.size_toArray,←hl];exact h3) (by omega) (by rw[hk];exact⟨_,I',q⟩)
theorem uf(lo hi:Option Int)(n:Nat):(sliceBounds lo hi none n).1=((HT.gW n 0 lo:Nat):Int)∧(sliceBounds lo hi none n).2.1=((HT.gW n n hi:Nat):Int)∧(sliceBounds lo hi none n).2.2=1:=by
 refine⟨?_,?_,rfl⟩
 ·cases lo with
  |none=>simp[sliceBounds,HT.gW]
  |some i=>
   simp only[sliceBounds,HT.gW,Option.getD_none,show(1:Int)>0 by decide,if_true]
   by_cases h:i<0
   ·simp only[h,if_true]<;>omega
   ·simp only[h,if_false]<;>omega
 ·cases hi with
  |none=>simp[sliceBounds,HT.gW]
  |some i=>
   simp only[sliceBounds,HT.gW,Option.getD_none,show(1:Int)>0 by decide,if_true]
   by_cases h:i<0
   ·simp only[h,if_true]<;>omega
   ·simp only[h,if_false]<;>omega
theorem qp(its:List Value)(lo hi:Option Int):slicePick its.toArray lo hi none=((its.drop (HT.gW its.length 0 lo)).take (HT.gW its.length its.length hi-HT.gW its.length 0 lo)).toArray:=by
 obtain⟨h1,h2,h3⟩:=uf lo hi its.toArray.size
 unfold slicePick
 rw[h1,h2,h3]
 simp only[sliceRange_one,pick_run,List.size_toArray]<;>rfl
def ZkP(K:PySem.W.Frag):V→Option Int→Option Int→Hp→VK→Prop:=fun x lo hi H Q=>∃a xs,x=.ref a∧aJ K H a xs∧∀p,H p=none→Q (.ref p) (upd H p (.lst (wF xs lo hi)))
theorem RM:Dr X (ZkP X.K):=by
 intro pins s σ H x v vl vu lo hi sl Q I rx hs pl pu h
 obtain⟨a,xs,rfl,hx,q⟩:=h
 cases rx
 obtain⟨its,r,ht,hz⟩:=I.list hx
 have hlen:=r.length
 refine⟨"list",_,slot_list_getitem.lookup,ht.isList.typeIs,?_⟩
 refine wpAny_getItem_list_slice ht.isList hs pl pu .none (by simp) ?_ (by rw[List.size_toArray]<;>omega)
 rw[qp,←hlen]
 refine⟨.ref s.heap.objs.size,_,I.laid (t':=s.toks) (o:=.lst (wF xs lo hi)) (fun b ob q=>Heap.get?_push_of_some _ q) (Nat.le_refl _) ?_,rfl,q _ (I.hok.fresh (Nat.le_refl _))⟩
 exact⟨Nat.le_trans (wG xs lo hi) hz,_,0,(r.drop (HT.gW xs.length 0 lo)).take (HT.gW xs.length xs.length hi-HT.gW xs.length 0 lo),Heap.get?_push_size _ rfl⟩
theorem ug:Ţ X (.type "list") (fun xs H Q=>∃p ys,xs=[.ref p]∧(aJ X.K H p ys∨dD X.K H p ys)∧∀l,H l=none→Q (.ref l) (upd H l (.lst ys))):=by
 intro pins s σ H xs us Q I r h
 obtain⟨p,ys,rfl,hq,q⟩:=h
 obtain⟨u,rfl,rx⟩:=vals1 r
 cases rx
 have fin:∀(its:List Value),Vals ys its→ys.length≤sizeLine→∀(h':Heap) (c':Nat),(∀b o',s.heap.get? b=some o'→h'.get? b=some o')→
  h'.get? s.heap.objs.size=some {cls:=.type "list",dict:=none,data:=.seq its.toArray c',slots:=#[]}→EP X pins σ Q (.ref s.heap.objs.size) {s with heap:=h'}:=fun its r' hz h' c' kp e=>
  ⟨.ref s.heap.objs.size,_,I.laid (t':=s.toks) kp (Nat.le_refl _) (show ŭ X.prog X.w _ h' _ (.lst ys) from⟨hz,its,c',r',e⟩),rfl,q _ (I.hok.fresh (Nat.le_refl _))⟩
 rcases hq with hq|hq
 ·obtain⟨its,r',pl,hz⟩:=I.list hq
  have hlen:=r'.length
  obtain⟨o,ho,hc,n,hd⟩:=pl.isList
  exact call_list_seq p (.inl rfl) ho hc hd (fun h' c' kp e=>fin its r' hz h' c' kp e) (by simp only[List.size_toArray]<;>omega)
 ·obtain⟨its,r',pl,hz⟩:=I.tuple hq
  have hlen:=r'.length
  obtain⟨o,ho,hc,n,hd⟩:=pl
  exact call_list_seq p (.inr rfl) ho hc hd (fun h' c' kp e=>fin its r' hz h' c' kp e) (by simp only[List.size_toArray]<;>omega)
theorem qt:Ţ X (.type "tuple") (fun xs H Q=>∃p ys,xs=[.ref p]∧((aJ X.K H p ys∧∀l,H l=none→Q (.ref l) (upd H l (.tup ys)))∨(dD X.K H p ys∧Q (.ref p) H))):=by
 intro pins s σ H xs us Q I r h
 obtain⟨p,ys,rfl,h⟩:=h
 obtain⟨u,rfl,rx⟩:=vals1 r
 cases rx
 rcases h with⟨hq,q⟩|⟨hq,q⟩
 ·obtain⟨its,r',pl,hz⟩:=I.list hq
  have hlen:=r'.length
  refine call_tuple_list pl.isList (fun h' kp=>?_) (by simp only[List.size_toArray]<;>omega)
  have I1:Inv X pins σ H {s with heap:=h'}:=I.kept (t':=s.toks) kp
  have I2:Inv X pins σ (upd H h'.objs.size (.tup ys)) {s with heap:=h'.push {cls:=.type "tuple",data:=.seq its.toArray}}:=
   I1.laid (t':=s.toks) (fun b o e=>Heap.get?_push_of_some _ e) (Nat.le_refl _) (show ŭ X.prog X.w _ _ _ (.tup ys) from⟨hz,its,r',IsTup.new _ _⟩)
  exact⟨.ref h'.objs.size,_,I2,rfl,q _ (I1.hok.fresh (Nat.le_refl _))⟩
 ·obtain⟨its,r',pl,hz⟩:=I.tuple hq
  exact call_tuple_same pl ⟨.ref p,H,I,rfl,q⟩
def tyV(K:PySem.W.Frag)(T:String)(x:V)(H:Hp):Prop:=match x with
 | .str _=>T= "str"
 | .int _=>T= "int"
 | .ref p=>(T= "list" ∧∃xs,aJ K H p xs)∨(T= "tuple" ∧∃o,K.lookup p=some o∧o.cls=.type "tuple" ∧o.dict=none)∨
     (T= "dict" ∧((∃kvs,H p=some (.dK kvs))∨∃kvs,H p=some (.dT kvs)))∨(T= "set" ∧∃S n,H p=some (.set S n))
 |_=>False
theorem YC{pins:List (č)}{σ:St}{H:Hp}{s:Shared}{T:String}{x:V}{v:Value}(I:Inv X pins σ H s)(r:RelV x v)(ty:tyV X.K T x H) :
 s.TypeIs v T∧∀a,v=.ref a→∃ob,s.heap.get? a=some ob∧ob.dict=none:=by
 cases x with
 |str z=>
  obtain⟨t,rfl⟩:=r
  cases(show T= "str" from ty)
  exact⟨typeIs_str s z t,fun _ e=>nomatch e⟩
 |int i=>
  obtain⟨t,rfl⟩:=r
  cases(show T= "int" from ty)
  exact⟨typeIs_int s i t,fun _ e=>nomatch e⟩
 |ref p=>
  cases r
  rcases ty with⟨rfl,xs,hq⟩|⟨rfl,o,hk,hc,hd⟩|⟨rfl,hk⟩|⟨rfl,S,n,hk⟩
  ·obtain⟨its,_,pl,_⟩:=I.list hq
   refine⟨pl.isList.typeIs,fun a e=>?_⟩
   cases e
   obtain⟨o,n,e,c,hd,_⟩:=pl
   exact⟨o,e,hd⟩
  ·refine⟨⟨o,I.fV p o hk,hc⟩,fun a e=>?_⟩
   cases e
   exact⟨o,I.fV _ o hk,hd⟩
  ·have z:∃o,s.heap.get? p=some o∧o.ExactDict:=by
    rcases hk with⟨kvs,hk⟩|⟨kvs,hk⟩
    ·obtain⟨_,_,_,_,o,_,_,e,ex,_⟩:=I.hok p _ hk
     exact⟨o,e,ex⟩
    ·obtain⟨_,_,_,_,o,_,_,e,ex,_⟩:=I.hok p _ hk
     exact⟨o,e,ex⟩
   obtain⟨o,e,ex⟩:=z
   refine⟨⟨o,e,ex.1⟩,fun a e2=>?_⟩
   cases e2
   exact⟨o,e,ex.2.1⟩
  ·obtain⟨o,_,_,_,e,ex,_⟩:=I.hok p _ hk
   refine⟨⟨o,e,ex.1⟩,fun a e2=>?_⟩
   cases e2
   exact⟨o,e,ex.2.1⟩
 |_=>exact False.elim ty
def tBM(K:PySem.W.Frag)(T:String)(r:V→List V→Hp→VK→Prop)(to:TE)(t:TA):TE:=fun σ H Q=>to σ H fun x H1=>tyV K T x H1∧t σ H1 fun xs H2=>r x xs H2 Q
variable{o e:Expr}{es:List Expr}{to:TE}{t:TA}{name:Str}{apos cpos:Pos}{T id:String}{r:V→List V→Hp→VK→Prop}
theorem lJ(pa:PlainAttrs T)(slot:Slot T name id)(hty:typeOf (.builtin id)=pure (.type "method_descriptor"))(hm:MtR X id r)(ho:PE X o to)(ha:PA X (e::es) t)
 (hbase:attributeBase o name X.env (eval o X.env)=eval o X.env:=by rfl)
 (hfew:((backTo cpos (starEach (e::es) X.env)).all (fun x=>!x.1) && (backToKw cpos (keywordEach [] X.env)).all (fun x=>x.1.isSome)
   && decide ((e::es).length+([]:List Keyword).length+(if([]:List Keyword).isEmpty then 0 else 1)<30))=true:=by rfl)
 (hline:(apos.endLine== cpos.line)=true:=by rfl)(hs:starEach (e::es) X.env=(false,eval e X.env)::starEach es X.env:=by rfl)(hplain:(backTo cpos (starEach es X.env)).any (·.1)=false:=by rfl) :
 PE X (.Call (.Attribute o name apos) (e::es) [] cpos) (tBM X.K T r to t):=by
 intro pins s σ H Q I h
 refine wpAny_Call_method_late hbase hfew hline rfl (Ŧ (ho pins s σ H _ I h) fun v s1 ⟨x,H1,I1,r1,ty,q1⟩=>?_)
 obtain⟨h1,h2⟩:=YC I1 r1 ty
 refine⟨T,id,pa,slot,hty,h1,h2,?_⟩
 have hA:=ha cpos pins s1 σ H1 _ I1 q1
 rw[hs] at hA ⊢
 refine Calls.callWith_builtin (by show(false || (backTo cpos (starEach es X.env)).any (·.1))=false;rw[hplain]<;>rfl) (Calls.evalArgs_plain ?_)
 exact Ŧ hA fun us s2 ⟨vs,H2,I2,r2,q2⟩=>hm pins s2 σ H2 x vs v us Q I2 r1 r2 q2
end
end L2
namespace L2
open PySem PySem.Spec PyProof.Rows
def MtM(X:Cx)(id:String)(r:V→List V→Hp→VK→Prop):Prop:=
 ∀(pins:List (č)) (s:Shared) (σ:St) (H:Hp) (x:V) (xs:List V) (v:Value) (us:List Value) (Q:VK),Inv X pins σ H s→RelV x v→Vals xs us→r x xs H Q→
  wpAny (model X.prog X.w) X.A (call (.builtin id) (v::us)) (EP X pins σ Q) X.xe s
theorem Vals.one:∀{x:V} {us:List Value},Vals [x] us→∃u,us=[u]∧RelV x u
 |_,_,.cons r .nil=>⟨_,rfl,r⟩
section
variable{X:Cx}{pins:List (č)}{σ:St}{H:Hp}{s:Shared}{l b:Addr}{xs ys zs:List V}
theorem Inv.Zdo{its its':List Value}{n:Nat}{f:Array Value→Array Value}{t':Nat}(I:Inv X pins σ H s)(hH:H l=some (.lst xs))
 (e:s.heap.get? l=some {cls:=.type "list",data:=.seq its.toArray n})(hf:f its.toArray=its'.toArray)(hv:Vals ys its')(hz:ys.length≤sizeLine) :
 Inv X pins σ (upd H l (.lst ys)) {s with heap:=s.heap.update l (Obj.mapSeq f),toks:=t'}:=by
 have q:=PySem.IsL.update e f
 rw[hf] at q
 refine I.write (x:=l) (e:=l) (by rw[hH];exact trivial) (.inl rfl) (fun b' u hb hu=>(Heap.get?_update_other s.heap (Obj.mapSeq f) (Ne.symm hb)).trans hu) ⟨_,q⟩ ?_
 exact⟨hz,its',_,hv,q⟩
theorem Inv.ZkQ{its:List Value}{t':Nat}(I:Inv X pins σ H s)(hv:Vals ys its)(hz:ys.length≤sizeLine) :
 Inv X pins σ (upd H s.heap.objs.size (.lst ys)) {s with heap:=s.heap.push {cls:=.type "list",data:=.seq its.toArray},toks:=t'}:=
 I.laid (fun _ _ q=>Heap.get?_push_of_some _ q) (Nat.le_refl _) ⟨hz,its,0,hv,Heap.get?_push_size _ rfl⟩
theorem Inv.fresh(I:Inv X pins σ H s):H s.heap.objs.size=none:=I.hok.fresh (Nat.le_refl _)
theorem Inv.YD(I:Inv X pins σ H s)(hH:H l=some (.lst xs)):xs.length≤sizeLine∧∃(its:List Value) (n:Nat),Vals xs its∧xs.length=its.length∧s.heap.get? l=some {cls:=.type "list",data:=.seq its.toArray n}:=by
 obtain⟨z,its,n,r,e⟩:=I.hok l _ hH
 exact⟨z,its,n,r,r.length,e⟩
theorem Hs{n:Nat}(h:n≤sizeLine):Builtin.List.listTooLong n=false:=by
 unfold Builtin.List.listTooLong
 exact decide_eq_false (by omega)
end
section
variable{X:Cx}
def Dv:V→List V→Hp→VK→Prop:=fun x vs H Q=>∃l xs y,x=.ref l∧vs=[y]∧H l=some (.lst xs)∧xs.length<sizeLine∧Q .non (upd H l (.lst (xs ++ [y])))
theorem aQ:MtM X "list.append" Dv:=by
 intro pins s σ H x vs v us Q I rx rv h
 obtain⟨l,xs,y,rfl,rfl,hH,hz,q⟩:=h
 cases rx
 obtain⟨u,rfl,ru⟩:=rv.one
 obtain⟨z,its,n,r,hl,e⟩:=I.YD hH
 refine call_meets F.slot_list_append ⟨_,e,rfl⟩ F.entry_list_append (F.args_list_append_2 _ _) (PySem.list_append l its.toArray n u (by rw[List.size_toArray];omega)) ⟨e,?_⟩
 refine⟨.non,_,I.Zdo (its':=its ++ [u]) hH e (by simp) (r.append (.cons ru .nil)) ?_,rfl,q⟩
 rw[List.length_append,List.length_singleton]
 omega
def Dw:V→List V→Hp→VK→Prop:=fun x vs H Q=>∃l b xs zs,x=.ref l∧vs=[.ref b]∧H l=some (.lst xs)∧H b=some (.lst zs)∧xs.length+zs.length≤sizeLine∧Q .non (upd H l (.lst (xs++zs)))
theorem qR:MtM X "list.extend" Dw:=by
 intro pins s σ H x vs v us Q I rx rv h
 obtain⟨l,b,xs,zs,rfl,rfl,hH,hB,hz,q⟩:=h
 cases rx
 obtain⟨u,rfl,ru⟩:=rv.one
 cases ru
 obtain⟨z,its,n,r,hl,e⟩:=I.YD hH
 obtain⟨z2,its2,n2,r2,hl2,e2⟩:=I.YD hB
 have hsz:its.toArray.size+its2.toArray.size≤sizeLine:=by rw[List.size_toArray,List.size_toArray];omega
 have Zdp:¬(!its.toArray.isEmpty && Builtin.List.listTooLong (its.toArray.size+its2.toArray.size))=true:=by
  rw[Hs hsz,Bool.and_false]
  exact Bool.false_ne_true
 refine call_meets F.slot_list_extend ⟨_,e,rfl⟩ F.entry_list_extend (F.args_list_extend_2 _ _)
  (AutoSeq1.list_extend_list_list_0 l its.toArray n b its2.toArray n2 Zdp (by rw[List.size_toArray];omega) (by omega)) ⟨e,e2,?_⟩
 refine⟨.non,_,I.Zdo (its':=its++its2) hH e (by simp) (r.append r2) ?_,rfl,q⟩
 rw[List.length_append]
 omega
end
section
variable{prog:Program}{w:World}{A:Around}{E:Value→Shared→Prop}{s:Shared}
end
section
variable{X:Cx}
end
end L2
namespace Att
open PySem PySem.W PySem.Calls PyProof.Rows
theorem mL{P:Params}{h:Heap}:∀(ns:List Int) (vs:List Value),WellAll P h vs (ns.map WData.int)→IntsAre vs ns:=by
 intro ns
 induction ns with
 |nil=>
  intro vs w
  rw[List.map_nil] at w
  cases w
  exact .nil
 |cons n ns ih=>
  intro vs w
  rw[List.map_cons] at w
  cases w with
  |cons a b=>
   cases a
   exact .cons _ _ (ih _ b)
theorem Fv{l:OpenLaw}{n:Nat}(hn:l.most=some n){P:Params}{h:Heap}{args:List WData}{vals:List Value}
 (hpre:l.row.toRowW.claim.pre args=true)(hwl:WellAll P h vals args) :
 ∃a vs ns,vals=[Value.ref a]∧args=[WData.list (ns.map WData.int)]∧h.get? a=some {cls:=.type "list",data:=.seq vs.toArray}∧IntsAre vs ns∧ns.length≤n:=by
 have hsh:WShape.hasAll [] args [.list .int]=true:=(pre_splitW hpre).1
 have hc:l.pre.holds [] {args:=args}=true:=(pre_splitW hpre).2
 obtain⟨d,r,rfl,h1,h2⟩:=hasAllW_cons hsh
 obtain rfl:=hasAllW_nil h2
 obtain⟨xs,rfl,h3⟩:=hasW_list h1
 obtain⟨ns,rfl⟩:=items_int h3
 have hlen:ns.length≤n:=by
  unfold OpenLaw.pre at hc
  have h4:(WTm.not (.lt (.lit (.int (n:Int))) (.len (.arg 0)))).holds [] {args:=[.list (ns.map .int)]}=true:=by
   have h4:=(holds_andW hc).1
   rw[hn] at h4
   exact h4
  have h5:=condW_of h4 (w_not (w_lt w_lit (w_len_list (w_arg rfl))))
  rw[List.length_map] at h5
  refine Nat.le_of_not_lt fun q=>?_
  have q':(n:Int)<((ns.length:Nat):Int):=by omega
  first
   |(rw[decide_eq_true q'] at h5;exact absurd h5 (by decide))
   |(simp at h5;omega)
 cases hwl with
 |cons w1 w2=>
  cases w2
  cases w1 with
  |list ho hall=>exact⟨_,_,ns,rfl,rfl,ho,mL ns _ hall,hlen⟩
theorem Fw(l:OpenLaw)(args:List WData):l.row.toRowW.claim.post args (.bool true) args=true:=
 postW_of (r:=l.row.toRowW) (X:=(true== true))
  (show WShape.has [] (.bool true) .bool=true by first|rfl|decide|simp[WShape.has,WShape.arms,WShape.armsAll])
  (show(WTm.eq .res (.lit (.bool true))).value [] {args:=args,res:=some (.bool true),after:=args}=some (.bool (true== true)) from w_eq_bool (w_res rfl) w_lit) rfl
theorem wH{l:OpenLaw}{n:Nat}{q:Program}{loose:List Str}{XP:(Str→Option Value)→Heap→Prop}{YP:World→Heap→Prop}{d:DefRec}
 (hn:l.most=some n)(hdf:d.params.defaults=[])
 (call:∀(w:World) (s₀ s₁:Shared) (mg mb:Str→Option Value) (fa:Addr) (o:Obj) (pm cd doc:Value) (a:Addr) (vs:List Value) (ns:List Int),
   Ground q loose [] XP w s₀ mg mb s₁.heap→YP w s₁.heap→
   s₁.heap.get? fa=some o→o.data=.func (docDef d.name d.params d.body d.scope pm cd doc)→s₁.heap.CodeRec cd d.name→mg d.name=some (.ref fa)→
   s₁.heap.get? a=some {cls:=.type "list",data:=.seq vs.toArray}→IntsAre vs ns→ns.length≤n→s₁.gens= #[]→
   codeAny (model l.prog w) callerA (.call (.ref fa) ⟨[.ref a],[]⟩) (fun r s'=>r=.ok (.ret (.bool true))∧OldK s₁.heap s'.heap∧s'.os=s₁.os∧AllBare s'.gens) s₁) :
 WalkO q loose XP YP l.row.toRowW d [] (fun f vs=>PySem.call f vs):=by
 intro w s₀ s₁ mg mb G Y fa o pm cd doc dV kV ho hd hcd hD hmg hg args vals as hpre hlay hrd hwl hlo
 obtain rfl:dV=.none:=Dflts.none hD hdf
 obtain rfl:kV=.none:=Dflts.noKw hD
 obtain⟨a,vs,ns,rfl,rfl,hobj,hints,hlen⟩:=Fv hn hpre hwl
 refine enter_call (codeAny_mono (call w s₀ s₁ mg mb fa o pm cd doc a vs ns G Y ho (fd_plain hd) hcd hmg hobj hints hlen hg) fun r s' hq=>?_)
 obtain⟨rfl,h2,h3,h4⟩:=hq
 exact⟨.inl ⟨.bool true,.bool true,[],rfl,fun _=>rfl,.bool true,Fw l _,fun _=>⟨List.Pairwise.nil,fun _ hm=>(nomatch hm)⟩⟩,h2,h3,h4⟩
section
variable{prog:Program}{w:World}{A:Around}{E:Value→Shared→Prop}{s:Shared}{K:Frag}
end
end Att
namespace L2
open PySem PySem.Spec PyProof.Rows
theorem aR:∀{vs:List Value} {ns:List Int},IntsAre vs ns→Vals (ns.map V.int) vs
 |_,_,.nil=>.nil
 |_,_,.cons n t h=>.cons ⟨t,rfl⟩ (aR h)
def Only(H:Hp):Prop:=∀b,H b=none∨∃o xs,H b=some (.dB o (.lst xs))
theorem Ht{P:Program}{w:World}{K:PySem.W.Frag}{mg mb:Str→Option Value}{CX:qj}{k:Nat}{fa a:Addr}{fd:FuncData}{x:Str}{sp:Sp}{s₁:Shared}{vs:List Value}{ns:List Int}
 (KX:K.In s₁.heap)(hns:s₁.heap.Ns mainGlobals mg)(hb:s₁.heap.Ns builtinsNs mb)(hbb:∀x:Str,x≠ "__name__" →mb x=bootBuiltins x)(hlim:s₁.heap.NoLimit)(hg:s₁.gens= #[])
 (ha:s₁.heap.get? a=some {cls:=.type "list",data:=.seq vs.toArray})(hi:IntsAre vs ns)(hl:ns.length≤sizeLine)(hr:bI k callerA)
 (F:∀base:Heap,K.In base→base.Ns mainGlobals mg→İ P w K mg base CX k fa fd [x] sp)(hbind:∀(s:Shared) (u:Value),BindsTo s fd ⟨[u],[]⟩ [(x,u)])
 (hsp:∀H:Hp,Only H→aJ K H a (ns.map V.int)→sp [.ref a] H (fun v _=>v=.bl true) fun _ _ _=>False)
 (hCX:∀H e s',CX [] H s₁ (fun _ _ _=>False) e s'→False) :
 codeAny (model P w) callerA (.call (.ref fa) ⟨[.ref a],[]⟩) (fun r s'=>r=.ok (.ret (.bool true))∧OldK s₁.heap s'.heap∧s'.os=s₁.os∧AllBare s'.gens) s₁:= by
 have rv:=aR hi
 have lenV:=hi.length
 -- from an abstract heap in which nothing but the script may be tracked
 have core:∀H:Hp,Only H→aJ K H a (ns.map V.int)→fP P w H s₁.heap→(∀b,H b≠none→b=a)→(H a≠none→K.lookup a=none)→
  codeAny (model P w) callerA (.call (.ref fa) ⟨[.ref a],[]⟩) (fun r s'=>r=.ok (.ret (.bool true))∧OldK s₁.heap s'.heap∧s'.os=s₁.os∧AllBare s'.gens) s₁:= by
  intro H hO hS hok hA hK
  have Dz:∀{b:Addr} {o:Obj},s₁.heap.get? b=some o→H b=none→(tY s₁.heap H).get? b=some o:=fun e n=>GK e n
  have noA:∀{b:Addr} {o:Obj} {es:Array DictEntry} {ep:Nat},s₁.heap.get? b=some o→o.data=.dict es ep→H b=none:=fun{b o es ep} e d=>by
   cases q:H b with
   |none=>rfl
   |some u=>
    have e':b=a:=hA b (by rw[q];simp)
    subst e'
    rw[ha] at e;cases e
    have d':Data.seq vs.toArray _=Data.dict es ep:=d
    cases d'
  have nsK:∀{b:Addr} {m:Str→Option Value},s₁.heap.Ns b m→(tY s₁.heap H).Ns b m:=fun{b m} ⟨o,es,ep,e,d,r⟩=>⟨o,es,ep,Dz e (noA e d),d,r⟩
  have hKb:K.In (tY s₁.heap H):=fun b o e=>Dz (KX b o e) (by
   cases q:H b with
   |none=>rfl
   |some u=>
    have e':b=a:=hA b (by rw[q];simp)
    subst e'
    rw[hK (by rw[q];simp)] at e;cases e)
  have hM:Mod K mg (tY s₁.heap H):=⟨hKb,nsK hns,⟨mb,nsK hb,hbb⟩,let ⟨mc,h1,h2⟩:=hlim;⟨mc,nsK h1,h2⟩⟩
  have e0:Ak P w K mg (tY s₁.heap H) callerA [] s₁ H:=⟨rfl,hM,fun b o e=>Rk e,Nat.le_of_eq (EY _ _),trivial,fun b hb=>absurd (show b∈([]:List Addr) from hb) (by simp),hok,.of_eq hg⟩
  refine codeAny_mono ((F _ hKb (nsK hns)).run callerA [] s₁ H ⟨[.ref a],[]⟩ [.ref a] [.ref a] _ _ hr e0 (hbind s₁ (.ref a)) (.cons rfl .nil) (hsp H hO hS)) fun r s' h=>?_
  cases r with
  |error e=>exact(hCX H e s' h).elim
  |ok fl=>
   cases fl with
   |next=>exact False.elim h
   |brk=>exact False.elim h
   |cont=>exact False.elim h
   |ret u=>
    obtain⟨v,H',os,bare,un,hok',r',q⟩:=h
    have q':v=.bl true:=q
    subst q'
    obtain rfl:u=Value.bool true:=r'
    refine⟨rfl,OldK.of_keep fun b o e=>?_,os,bare⟩
    cases q:H b with
    |none=>exact un.keep b o e q (by intro z;exact absurd (show b∈([]:List Addr) from z) (by simp)) (by simp)
    |some u=>
     rcases hO b with z|⟨ob,xs,z⟩
     ·rw[q] at z;cases z
     ·have z2:=un.jf b ob _ z
      obtain⟨e1,_⟩:=hok b _ z
      obtain⟨e2,_⟩:=hok' b _ z2
      rw[e] at e1;cases e1
      exact e2
 cases hk:K.lookup a with
 |some o=>
  -- the script is one of the module's own objects
  have e:=KX a o hk
  rw[ha] at e
  cases e
  refine core (fun _=>none) (fun _=>.inl rfl) (.inr ⟨_,vs.toArray,_,hk,rfl,rfl,rfl,by rw[List.size_toArray,lenV];exact hl,by simpa using rv⟩) (fun b u z=>by have z':(none:Option HO)=some u:=z;cases z') (fun b z=>absurd rfl z) fun z=>absurd rfl z
 |none=>
  refine core (fun b=>if b=a then some (.dB {cls:=.type "list",data:=.seq vs.toArray} (.lst (ns.map V.int))) else none) (fun b=>?_) (.inl (.inr ⟨{cls:=.type "list",data:=.seq vs.toArray},if_pos rfl⟩)) (fun b u z=>?_) (fun b z=>?_) fun _=>hk
  ·by_cases hb:b=a
   ·exact .inr ⟨_,_,if_pos hb⟩
   ·exact .inl (if_neg hb)
  ·by_cases hb:b=a
   ·have z':=(if_pos hb).symm.trans z
    cases z'
    subst hb
    exact⟨ha,by rw[List.length_map];exact hl,vs,_,rv,ha⟩
   ·have z':=(if_neg hb).symm.trans z
    cases z'
  ·by_cases hb:b=a
   ·exact hb
   ·exact absurd (if_neg hb) z
end L2
namespace L2
open PySem PySem.Spec PyProof.Rows
theorem RN{l:PySem.W.OpenLaw}{n k:Nat}{q:Program}{loose:List Str}{XP:(Str→Option Value)→Heap→Prop}{YP:World→Heap→Prop}{d:DefRec}{K:Params→PySem.W.Frag}{CX:World→qj}{sp:World→Sp}{x:Str}
 (hn:l.most=some n)(hn2:n≤sizeLine)(hdf:d.params.defaults=[])(hr:bI k callerA)
 (hY:∀(w:World) (h:Heap),YP w h→(K w.params).In h)
 (F:∀(w:World) (mg:Str→Option Value) (fa:Addr) (h:Heap),(K w.params).In h→h.Ns mainGlobals mg→mg d.name=some (.ref fa)→
   ∃fd:FuncData,(∀(s:Shared) (u:Value),BindsTo s fd ⟨[u],[]⟩ [(x,u)])∧
    ∀base:Heap,(K w.params).In base→base.Ns mainGlobals mg→İ l.prog w (K w.params) mg base (CX w) k fa fd [x] (sp w))
 (hsp:∀(w:World) (H:Hp) (a:Addr) (ns:List Int),ns.length≤n→Only H→aJ (K w.params) H a (ns.map V.int)→sp w [.ref a] H (fun v _=>v=.bl true) fun _ _ _=>False)
 (hCX:∀(w:World) (H:Hp) (s:Shared) (e:Value) (s':Shared),CX w [] H s (fun _ _ _=>False) e s'→False) :
 PySem.W.WalkO q loose XP YP l.row.toRowW d [] (fun f vs=>PySem.call f vs):=by
 refine Att.wH hn hdf fun w s₀ s₁ mg mb fa o pm cd doc a vs ns G Y ho hd hcd hmg hobj hints hlen hg=>?_
 have KX:=hY w _ Y
 obtain⟨fd,hb,hF⟩:=F w mg fa _ KX G.T.g hmg
 exact Ht KX G.T.g G.T.b G.T.builtins G.T.nolimit hg hobj hints (Nat.le_trans hlen hn2) hr hF hb (fun H hO hS=>hsp w H a ns hlen hO hS) fun H e s'=>hCX w H s₁ e s'
end L2
namespace L2
open PySem PySem.Spec PyProof.Rows
def inClass(s:Stmt)(j:Nat):Stmt:=match s with
 | .ClassDef _ _ _ body _ _ _ _ _ _ _=>body.getD j (.Pass ⟨0,0,0,0⟩)
 |_=>.Pass ⟨0,0,0,0⟩
def gY(s:Stmt):Arguments:=match s with
 | .FunctionDef _ a _ _ _ _ _ _ _ _=>a
 |_=> {posonlyargs:=[],args:=[],vararg:=none,kwonlyargs:=[],kw_defaults:=[],kwarg:=none,defaults:=[]}
def bQ(s:Stmt):List Stmt:=match s with
 | .FunctionDef _ _ b _ _ _ _ _ _ _=>b
 |_=>[]
def ĉ(s:Stmt):Scope:=match s with
 | .FunctionDef _ _ _ _ _ _ sc _ _ _=>sc
 |_=> {kind:=.function,names:=[],isGenerator:=false,isCoroutine:=false}
structure Ŷ(K:PySem.W.Frag)(x qual:Str)(st:Stmt)(f:Addr)(fd:FuncData):Prop where
 ex:∃(oc:Value) (od:Option Addr) (kV doc pm:Value) (an:Option Addr) (cdv ct:Value) (osl:Array (Option Value)),
   fd=PySem.W.fnOf x qual (gY st) (bQ st) (ĉ st) .none kV doc pm an cdv ct∧K.lookup f=some ⟨oc,od,.func fd,osl⟩∧PySem.W.codeIn K cdv qual=true
 kp:PySem.W.keepIn K (.ref f)=true
section
variable{P:Program}{w:World}{K:PySem.W.Frag}{mg:Str→Option Value}{base:Heap}
theorem Ŷ.binds{x qual:Str}{st:Stmt}{f:Addr}{fd:FuncData}{ps:List Str}(F:Ŷ K x qual st f fd)
 (h:∀(kV doc pm:Value) (an:Option Addr) (cdv ct:Value) (us:List Value),us.length=ps.length→bindArgs (PySem.W.fnOf x qual (gY st) (bQ st) (ĉ st) .none kV doc pm an cdv ct) ⟨us,[]⟩=pure (ps.zip us)):Binds K fd ps []:=by
 obtain⟨oc,od,kV,doc,pm,an,cdv,ct,osl,rfl,lk,hcd⟩:=F.ex
 exact .all (h kV doc pm an cdv ct)
theorem ġ{x qual:Str}{st:Stmt}{f:Addr}{oc:Value}{od an:Option Addr}{osl:Array (Option Value)}{kV doc pm cdv ct:Value}(l:K.lookup f=some ⟨oc,od,.func (PySem.W.fnOf x qual (gY st) (bQ st) (ĉ st) .none kV doc pm an cdv ct),osl⟩)
 (c:PySem.W.codeIn K cdv qual=true)(k:PySem.W.keepIn K (.ref f)=true):Ŷ K x qual st f (PySem.W.fnOf x qual (gY st) (bQ st) (ĉ st) .none kV doc pm an cdv ct):=⟨⟨oc,od,kV,doc,pm,an,cdv,ct,osl,rfl,l,c⟩,k⟩
end
section
variable{X:Cx}
theorem pv(i:Nat){x:Str}{pos:Pos}(hN:X.N[i]?=some x:=by rfl)(hv:Gy X.env.scope x:=by first|exact Or.inl rfl|exact Or.inr (Or.inl rfl)|exact Or.inr (Or.inr rfl))(hd:(x== ("__debug__" :Str))=false:=by decide)
 (hcd:(x== ("__classdict__" :Str))=false:=by decide):PE X (.Name x pos) (t_ i):=fW hN hv hd hcd
end
def Same(H H':Hp):Prop:=∀b o,H b=some o→H' b=some o
theorem Same.refl(H:Hp):Same H H:=fun _ _ h=>h
theorem Same.trans{H H1 H2:Hp}(a:Same H H1)(b:Same H1 H2):Same H H2:=fun c o h=>b c o (a c o h)
theorem Same.free{H H':Hp}(e:Same H H'){l:Addr}(h:H' l=Option.none):H l=Option.none:=by
 cases q:H l with
 |none=>rfl
 |some o=>
  rw[e l o q] at h
  cases h
theorem Same.seq{K:PySem.W.Frag}{H H':Hp}{a:Addr}{xs:List V}(e:Same H H')(h:aJ K H a xs):aJ K H' a xs:=by
 rcases h with(h|⟨o,h⟩)|h
 ·exact .inl (.inl (e _ _ h))
 ·exact .inl (.inr ⟨o,e _ _ h⟩)
 ·exact .inr h
end L2
namespace M2
open PySem PySem.Spec PyProof.Rows L2
section
variable{X:Cx}{a b c e:Expr}{ta tb tc te:TE}{pos:Pos}
theorem PE.wk{t t':TE}(h:PE X e t)(i:∀σ H Q,t' σ H Q→t σ H Q):PE X e t':=fun pins s σ H Q I q=>h pins s σ H Q I (i σ H Q q)
theorem PS.wk{st:Stmt}{t t':TS}(h:PS X st t)(i:∀D σ H,t' D σ H→t D σ H):PS X st t':=fun pins s σ H D I q=>h pins s σ H D I (i D σ H q)
theorem aC.wk{f:Value→Value→Sem Value}{r r':R2}(h:aC X f r)(i:∀x y H Q,r' x y H Q→r x y H Q):aC X f r':=fun pins s σ H x y v u Q I rx ry q=>h pins s σ H x y v u Q I rx ry (i x y H Q q)
theorem Rw.wk{f:Value→Sem Value}{r r':V→Hp→VK→Prop}(h:Rw X f r)(i:∀x H Q,r' x H Q→r x H Q):Rw X f r':=fun pins s σ H x v Q I rx q=>h pins s σ H x v Q I rx (i x H Q q)
theorem Ţ.wk{f:Value}{r r':List V→Hp→VK→Prop}(h:Ţ X f r)(i:∀xs H Q,r' xs H Q→r xs H Q):Ţ X f r':=fun pins s σ H xs us Q I r q=>h pins s σ H xs us Q I r (i xs H Q q)
theorem Al.wk{r r':R2}(h:Al X r)(i:∀x y H Q,r' x y H Q→r x y H Q):Al X r':=fun va sl pins s σ H x y v u Q I rx ry q=>h va sl pins s σ H x y v u Q I rx ry (i x y H Q q)
theorem Dr.wk{r r':V→Option Int→Option Int→Hp→VK→Prop}(h:Dr X r)(i:∀x lo hi H Q,r' x lo hi H Q→r x lo hi H Q):Dr X r':=fun pins s σ H x v vl vu lo hi sl Q I rx hs pl pu q=>h pins s σ H x v vl vu lo hi sl Q I rx hs pl pu (i x lo hi H Q q)
def YF(i:Nat):TE:=fun σ H Q=>match σ[i]? with
 |some (some v)=>Q v H
 |_=>False
theorem RP{i:Nat}{σ:L2.St}{H:Hp}{Q:VK}(h:YF i σ H Q):t_ i σ H Q:=by
 unfold YF at h
 split at h
 ·exact⟨_,by assumption,h⟩
 ·exact h.elim
theorem mv(i:Nat){x:Str}{pos:Pos}(hN:X.N[i]?=some x:=by rfl)(hv:Gy X.env.scope x:=by first|exact Or.inl rfl|exact Or.inr (Or.inl rfl)|exact Or.inr (Or.inr rfl))(hd:(x== ("__debug__" :Str))=false:=by decide)
 (hcd:(x== ("__classdict__" :Str))=false:=by decide):PE X (.Name x pos) (YF i):=PE.wk (fW hN hv hd hcd) fun _ _ _ h=>RP h
def bOf(x:V)(k:Bool→Prop):Prop:=match x with
 | .bl c=>k c
 |_=>False
theorem uh{x:V}{k:Bool→Prop}(h:bOf x k):∃c,x=.bl c∧k c:=by
 cases x with
 |bl c=>exact⟨c,rfl,h⟩
 |_=>exact h.elim
def Vg(t:TE):TT:=fun σ H Q=>t σ H fun x H1=>bOf x fun c=>Q c H1
theorem YG{op:CmpOp}{r:R2}(ho:aC X (compareOp op) r)(ha:PE X a ta)(hb:PE X b tb)(hm:behindInMarks op b=false):PT X (.Compare a [op] [b] pos) (Vg (tOp r ta tb)):=by
 intro pins s σ H Q I h
 refine wpAny_isTrue_Compare1 (Ŧ (ha pins s σ H _ I h) fun v s1 ⟨x,H1,I1,r1,q1⟩=>Ŧ (hb pins s1 σ H1 _ I1 q1) fun u s2 ⟨y,H2,I2,r2,q2⟩=>
  Ŧ (ho pins s2 σ H2 x y v u _ I2 r1 r2 q2) fun c s3 ⟨z,H3,I3,r3,q3⟩=>?_) hm
 obtain⟨k,e,q3⟩:=uh q3
 subst e
 cases r3
 exact wpAny_truthy_bool ⟨H3,I3,q3⟩
def Hv(r r':R2)(ta tb tc:TE):TE:=fun σ H Q=>ta σ H fun x H1=>tb σ H1 fun y H2=>r x y H2 fun z H3=>bOf z fun k=>
 (if k=true then tc σ H3 fun w' H4=>r' y w' H4 Q else Q (.bl false) H3)
theorem Hw{op op':CmpOp}{r r':R2}(ho:aC X (compareOp op) r)(ho':aC X (compareOp op') r')(ha:PE X a ta)(hb:PE X b tb)(hc:PE X c tc)
 (hm:lastMarks [op,op'] [b,c]=false:=by with_unfolding_all rfl):PE X (.Compare a [op,op'] [b,c] pos) (Hv r r' ta tb tc):=by
 intro pins s σ H Q I h
 refine Compare_chain (Ŧ (ha pins s σ H _ I h) fun v s1 ⟨x,H1,I1,r1,q1⟩=>chain_link (Ŧ (hb pins s1 σ H1 _ I1 q1) fun u s2 ⟨y,H2,I2,r2,q2⟩=>
  Ŧ (ho pins s2 σ H2 x y v u _ I2 r1 r2 q2) fun d s3 ⟨z,H3,I3,r3,q3⟩=>?_)) hm
 obtain⟨k,e,q3⟩:=uh q3
 subst e
 cases r3
 refine wpAny_truthy_bool ?_
 cases k with
 |false=>exact ite_ff ⟨.bl false,H3,I3,rfl,q3⟩
 |true=>exact ite_tt (chain_last (Ŧ (hc pins s3 σ H3 _ I3 q3) fun w' s4 ⟨z',H4,I4,r4,q4⟩=>ho' pins s4 σ H4 y z' u w' Q I4 r2 r4 q4))
def Zdq(ta tb:TE):TE:=fun σ H Q=>ta σ H fun x H1=>bOf x fun c=>if c=true then tb σ H1 Q else Q (.bl false) H1
def Zdr(ta:TE):TE:=fun σ H Q=>ta σ H fun x H1=>bOf x fun c=>Q (.bl (!c)) H1
variable{rest:List Expr}
theorem YH(ha:PE X a ta)(hb:PE X (.BoolOp .And (b::rest) pos) tb):PE X (.BoolOp .And (a::b::rest) pos) (Zdq ta tb):=by
 intro pins s σ H Q I h
 refine BoolOp_and (Ŧ (ha pins s σ H _ I h) fun v s1 ⟨x,H1,I1,r1,q1⟩=>?_)
 obtain⟨c,rfl,q1⟩:=uh q1
 cases r1
 refine wpAny_truthy_bool ?_
 cases c with
 |true=>exact hb pins s1 σ H1 Q I1 q1
 |false=>exact⟨.bl false,H1,I1,rfl,q1⟩
theorem YJ(ha:PE X a ta):PE X (.UnaryOp .Not a pos) (Zdr ta):=by
 intro pins s σ H Q I h
 refine UnaryOp_ (Ŧ (ha pins s σ H _ I h) fun v s1 ⟨x,H1,I1,r1,q1⟩=>?_)
 obtain⟨c,rfl,q1⟩:=uh q1
 cases r1
 exact not_of (wpAny_truthy_bool ⟨.bl (!c),H1,I1,rfl,q1⟩)
def mI(C:Int→Int→Prop)(g:Int→Int→V):R2:=fun x y H Q=>match x,y with
 | .int i,.int j=>C i j∧Q (g i j) H
 |_,_=>False
def Ao(g:Int→Int→V):R2:=fun x y H Q=>match x,y with
 | .int i,.int j=>Q (g i j) H
 |_,_=>False
theorem qT{C:Int→Int→Prop}{g:Int→Int→V}(x y:V)(H:Hp)(Q:VK)(h:mI C g x y H Q):rI C g x y H Q:=by
 cases x with
 |int i=>
  cases y with
  |int j=>exact⟨i,j,rfl,rfl,h.1,h.2⟩
  |_=>exact h.elim
 |_=>exact h.elim
theorem kj{g:Int→Int→V}(x y:V)(H:Hp)(Q:VK)(h:Ao g x y H Q):Ra g x y H Q:=by
 cases x with
 |int i=>
  cases y with
  |int j=>exact⟨i,j,rfl,rfl,h⟩
  |_=>exact h.elim
 |_=>exact h.elim
def Zds:R2:=fun x y H Q=>match x,y with
 | .int i,.int j=>Q (.int (i+j)) H
 | .str i,.str j=>i.length+j.length≤sizeLine∧Q (.str (i++j)) H
 |_,_=>False
theorem YK:aC X (binaryOp .Add) Zds:=aC.wk (Yh.or Ac) fun x y H Q h=>by
 cases x with
 |int i=>
  cases y with
  |int j=>exact .inl ⟨i,j,rfl,rfl,h⟩
  |_=>exact h.elim
 |str i=>
  cases y with
  |str j=>exact .inr ⟨i,j,rfl,rfl,h.1,h.2⟩
  |_=>exact h.elim
 |_=>exact h.elim
theorem Ŕ:aC X (binaryOp .Sub) (Ao fun i j=>.int (i-j)):=aC.wk Yi kj
def qU(i j:Int):Prop:=Yg i j∨(Builtin.Int.intBits i≤1048576∧Builtin.Int.intBits j≤1048576)
theorem qU.ok{i j:Int}(h:qU i j):IntMulOk i j:=by
 rcases h with h|⟨h1,h2⟩
 ·exact h.ok
 ·exact IntMulOk.of_le h1 h2 (by decide)
theorem YL:aC X (binaryOp .Mult) (mI qU fun i j=>.int (i*j)):=aC.wk (Dq (C:=qU) (g:=fun i j=>i*j) fun _ _ _ _ _ _ _ hc q=>mul_int q hc.ok) qT
def Fx(_ j:Int):Prop:=j≠0∧Builtin.Int.intBits j≤8000
theorem Fx.py{i j:Int}(h:Fx i j):Builtin.divisionGoesByPylong i j=false:=by
 refine PyProof.noPylong_of_log2 ?_
 have hb:=intBits_le_iff.mp h.2
 have h0:j.natAbs≠0:=by have:=h.1;omega
 exact Nat.lt_of_lt_of_le ((Nat.log2_lt h0).mpr hb) (by decide)
theorem ţ:aC X (binaryOp .FloorDiv) (mI Fx fun i j=>.int (i.fdiv j)):=aC.wk (Dq (C:=Fx) (g:=fun i j=>i.fdiv j) fun _ _ _ _ _ _ _ hc q=>floordiv_int hc.1 q (.inl hc.py)) qT
theorem ń:aC X (binaryOp .Mod) (mI (fun _ j=>j≠0) fun i j=>.int (i.fmod j)):=aC.wk Ry qT
theorem nT:aC X (binaryOp .Pow) (mI Fi fun i j=>.int (i ^ j.toNat)):=aC.wk Yj qT
theorem iH:aC X (compareOp .Lt) (Ao fun i j=>.bl (decide (i<j))):=aC.wk Zde kj
theorem iI:aC X (compareOp .LtE) (Ao fun i j=>.bl (decide (i≤j))):=aC.wk Zdf kj
theorem Vh:aC X (compareOp .Gt) (Ao fun i j=>.bl (decide (j<i))):=aC.wk Zdg kj
theorem Zdt:aC X (compareOp .GtE) (Ao fun i j=>.bl (decide (j≤i))):=aC.wk Zdh kj
def mU(g:Int→V):V→Hp→VK→Prop:=fun x H Q=>match x with
 | .int i=>Q (g i) H
 |_=>False
theorem gj:Rw X (unaryOp .USub) (mU fun i=>.int (-i)):=Rw.wk Yn fun x H Q h=>by
 cases x with
 |int i=>exact⟨i,rfl,h⟩
 |_=>exact h.elim
def mAbs:List V→Hp→VK→Prop:=fun xs H Q=>match xs with
 | [.int i]=>Q (.int (if i<0 then -i else i)) H
 |_=>False
theorem YM:Ţ X (.builtin "abs") mAbs:=Ţ.wk Hh fun xs H Q h=>by
 unfold mAbs at h
 split at h
 ·exact⟨_,rfl,h⟩
 ·exact h.elim
def Hx:List V→Hp→VK→Prop:=fun xs H Q=>match xs with
 | [.int i,.int j]=>Q (.int (if j<i then j else i)) H
 |_=>False
theorem uo(hc:X.calm=true):Ţ X (.builtin "min") Hx:=Ţ.wk (Fo hc) fun xs H Q h=>by
 unfold Hx at h
 split at h
 ·exact⟨_,_,rfl,h⟩
 ·exact h.elim
def Hy:List V→Hp→VK→Prop:=fun xs H Q=>match xs with
 | [.int i,.int j]=>Q (.int (if j>i then j else i)) H
 |_=>False
theorem RQ(hc:X.calm=true):Ţ X (.builtin "max") Hy:=Ţ.wk (Fj hc) fun xs H Q h=>by
 unfold Hy at h
 split at h
 ·exact⟨_,_,rfl,h⟩
 ·exact h.elim
def YQ(K:PySem.W.Frag):List V→Hp→VK→Prop:=fun xs H Q=>match xs with
 | [.str y]=>y.length≤sizeLine∧Q (.int (y.length:Int)) H
 | [.ref p]=>∃ys,(aJ K H p ys∨dD K H p ys)∧Q (.int (ys.length:Int)) H
 |_=>False
theorem eN:Ţ X (.builtin "len") (YQ X.K):=Ţ.wk Hi fun xs H Q h=>by
 unfold YQ at h
 split at h
 ·exact⟨_,_,rfl,⟨h.1,rfl⟩,h.2⟩
 ·obtain⟨ys,h1,h2⟩:=h
  refine⟨_,ys.length,rfl,?_,h2⟩
  rcases h1 with h1|h1
  ·exact .inl ⟨ys,h1,rfl⟩
  ·exact .inr ⟨ys,h1,rfl⟩
 ·exact h.elim
def mIx(K:PySem.W.Frag):R2:=fun x y H Q=>match x,y with
 | .ref p,.int i=>∃xs v,(aJ K H p xs∨dD K H p xs)∧uc xs i=some v∧Q v H
 | .str z,.int i=>∃c,z.length≤sizeLine∧uc z.cps.toList i=some c∧Q (.str ⟨#[c]⟩) H
 |_,_=>False
theorem ē:Al X (mIx X.K):=Al.wk Yz fun x y H Q h=>by
 cases x with
 |ref p=>
  cases y with
  |int i=>
   obtain⟨xs,v,h1,h2,h3⟩:=h
   rcases h1 with h1|h1
   ·exact .inl ⟨p,xs,i,v,rfl,rfl,h1,h2,h3⟩
   ·exact .inr (.inl ⟨p,xs,i,v,rfl,rfl,h1,h2,h3⟩)
  |_=>exact h.elim
 |str z=>
  cases y with
  |int i=>
   obtain⟨c,h1,h2,h3⟩:=h
   exact .inr (.inr ⟨z,i,c,rfl,rfl,h1,h2,h3⟩)
  |_=>exact h.elim
 |_=>exact h.elim
def iOf(x:V)(k:Int→Prop):Prop:=match x with
 | .int i=>k i
 |_=>False
def Zdu(t:TE):TO:=fun σ H Q=>t σ H fun x H1=>iOf x fun i=>Q (some i) H1
theorem Hz(h:PE X e te):PO X (some e) (Zdu te):=by
 intro pins s σ H Q I hw
 rw[evalPart_some]
 refine Ŧ (h pins s σ H _ I hw) fun u s1 ⟨x,H1,I1,r1,q1⟩=>?_
 cases x with
 |int i=>
  obtain⟨t,rfl⟩:=r1
  exact⟨some i,H1,I1,.int i t,q1⟩
 |_=>exact q1.elim
def ZkR(K:PySem.W.Frag):V→Option Int→Option Int→Hp→VK→Prop:=fun x lo hi H Q=>match x with
 | .ref a=>∃xs,aJ K H a xs∧∀p,H p=none→Q (.ref p) (upd H p (.lst (wF xs lo hi)))
 |_=>False
theorem HB:Dr X (ZkR X.K):=Dr.wk RM fun x lo hi H Q h=>by
 cases x with
 |ref a=>
  obtain⟨xs,h1,h2⟩:=h
  exact⟨a,xs,rfl,h1,h2⟩
 |_=>exact h.elim
end
end M2
namespace M2
open PySem PySem.Spec PyProof.Rows L2
section
variable{X:Cx}{tg:Expr}
end
mutual
def Rp(K:PySem.W.Frag)(H:Hp):PyData→V→Prop
 | .none,v=>v=.non
 | .bool b,v=>v=.bl b
 | .int i,v=>v=.int i
 | .str x,v=>v=.str x
 | .tuple ds,v=>∃a xs,v=.ref a∧dD K H a xs∧kE K H ds xs
 | .list ds,v=>∃a xs,v=.ref a∧aJ K H a xs∧kE K H ds xs
 | .dict _,_=>False
def kE(K:PySem.W.Frag)(H:Hp):List PyData→List V→Prop
 | [],xs=>xs=[]
 |d::ds,xs=>∃x r,xs=x::r∧Rp K H d x∧kE K H ds r
end
theorem Same.tup{K:PySem.W.Frag}{H H':Hp}{a:Addr}{xs:List V}(e:Same H H')(h:dD K H a xs):dD K H' a xs:=by
 rcases h with(h|⟨o,h⟩)|h
 ·exact .inl (.inl (e _ _ h))
 ·exact .inl (.inr ⟨o,e _ _ h⟩)
 ·exact .inr h
theorem Same.upd{H:Hp}{p:Addr}{o:HO}(h:H p=none):Same H (upd H p o):=fun b u e=>by
 rw[Ġ (ļ e h)]
 exact e
mutual
theorem Rp.same{K:PySem.W.Frag}{H H':Hp}(e:Same H H'):∀(d:PyData) (v:V),Rp K H d v→Rp K H' d v
 | .none,_,h=>by unfold Rp at h ⊢;exact h
 | .bool _,_,h=>by unfold Rp at h ⊢;exact h
 | .int _,_,h=>by unfold Rp at h ⊢;exact h
 | .str _,_,h=>by unfold Rp at h ⊢;exact h
 | .tuple ds,_,h=>by
   unfold Rp at h ⊢
   obtain⟨a,xs,h1,h2,h3⟩:=h
   exact⟨a,xs,h1,Same.tup e h2,kE.same e ds xs h3⟩
 | .list ds,_,h=>by
   unfold Rp at h ⊢
   obtain⟨a,xs,h1,h2,h3⟩:=h
   exact⟨a,xs,h1,e.seq h2,kE.same e ds xs h3⟩
 | .dict _,_,h=>by unfold Rp at h;exact h.elim
theorem kE.same{K:PySem.W.Frag}{H H':Hp}(e:Same H H'):∀(ds:List PyData) (xs:List V),kE K H ds xs→kE K H' ds xs
 | [],_,h=>by unfold kE at h ⊢;exact h
 |d::ds,_,h=>by
  unfold kE at h ⊢
  obtain⟨x,r,h1,h2,h3⟩:=h
  exact⟨x,r,h1,Rp.same e d x h2,kE.same e ds r h3⟩
end
section
variable{X:Cx}{pins:List (č)}{σ:L2.St}{H:Hp}{s:Shared}
mutual
theorem Rp.reads(I:Inv X pins σ H s):∀(d:PyData) (v:V) (u:Value),Rp X.K H d v→RelV v u→∃as,Reads s.heap u d as
 | .none,v,u,h,r=>by
   unfold Rp at h;subst h;cases r;exact⟨_,.none⟩
 | .bool b,v,u,h,r=>by
   unfold Rp at h;subst h;cases r;exact⟨_,.bool b⟩
 | .int i,v,u,h,r=>by
   unfold Rp at h;subst h;obtain⟨t,rfl⟩:=r;exact⟨_,.int i t⟩
 | .str x,v,u,h,r=>by
   unfold Rp at h;subst h;obtain⟨t,rfl⟩:=r;exact⟨_,.str x t⟩
 | .tuple ds,v,u,h,r=>by
   unfold Rp at h
   obtain⟨a,xs,h1,h2,h3⟩:=h
   subst h1
   cases r
   obtain⟨its,rv,⟨o,e,hc,n,hd⟩,hz⟩:=I.tuple h2
   obtain⟨as,ra⟩:=kE.reads I ds xs its h3 rv
   exact⟨_,.tuple e hc hd (by simpa using ra)⟩
 | .list ds,v,u,h,r=>by
   unfold Rp at h
   obtain⟨a,xs,h1,h2,h3⟩:=h
   subst h1
   cases r
   obtain⟨its,rv,⟨o,n,e,hc,hdd,hd⟩,hz⟩:=I.list h2
   obtain⟨as,ra⟩:=kE.reads I ds xs its h3 rv
   exact⟨_,.list e hc hd (by simpa using ra)⟩
 | .dict _,_,_,h,_=>by unfold Rp at h;exact h.elim
theorem kE.reads(I:Inv X pins σ H s):∀(ds:List PyData) (xs:List V) (us:List Value),kE X.K H ds xs→Vals xs us→∃as,ReadsAll s.heap us ds as
 | [],xs,us,h,r=>by
   unfold kE at h;subst h;cases r;exact⟨_,.nil⟩
 |d::ds,xs,us,h,r=>by
  unfold kE at h
  obtain⟨x,q,h1,h2,h3⟩:=h
  subst h1
  cases r with
  |cons r1 r2=>
   obtain⟨as,ra⟩:=Rp.reads I d x _ h2 r1
   obtain⟨bs,rb⟩:=kE.reads I ds q _ h3 r2
   exact⟨_,.cons ra rb⟩
end
end
def RT(K:PySem.W.Frag)(neg:Bool):R2:=fun x y H Q=>∃d e,Rp K H d x∧Rp K H e y∧d.canLay0=true∧e.canLay0=true∧min d.depth e.depth≤60∧Q (.bl (if neg then !PyData.eqv d e else PyData.eqv d e)) H
section
variable{X:Cx}
theorem Š(hu:X.A.units+64<cLine):aC X (compareOp .Eq) (RT X.K false):=by
 intro pins s σ H x y v u Q I rx ry h
 obtain⟨d,e,h1,h2,h3,h4,h5,q⟩:=h
 obtain⟨as,ra⟩:=Rp.reads I d x v h1 rx
 obtain⟨bs,rb⟩:=Rp.reads I e y u h2 ry
 exact SeqAt.compareEq_reads ra rb h3 h4 (by omega) ⟨.bl _,H,I,rfl,q⟩
theorem jh(hu:X.A.units+64<cLine):aC X (compareOp .NotEq) (RT X.K true):=by
 intro pins s σ H x y v u Q I rx ry h
 obtain⟨d,e,h1,h2,h3,h4,h5,q⟩:=h
 obtain⟨as,ra⟩:=Rp.reads I d x v h1 rx
 obtain⟨bs,rb⟩:=Rp.reads I e y u h2 ry
 exact SeqAt.compareNe_reads ra rb h3 h4 (by omega) ⟨.bl _,H,I,rfl,q⟩
end
section
variable{K:PySem.W.Frag}
end
end M2
namespace M3
open PySem PySem.Spec PyProof.Rows L2 M2
theorem DG{P:Program}{w:World}{H:Hp}{h h':Heap}{C:Addr}(x:fP P w H h)(hC:H C=none)(k:∀b u,b≠C→h.get? b=some u→h'.get? b=some u):fP P w H h':=fun a o e=>
 (x a o e).stay (fun b u hb q=>k b u (by
   rcases hb with hb|hb
   ·rw[hb];exact ļ e hC
   ·exact ļ hb hC) q) (fun _ q=>q) fun _ _ q=>q
theorem ji{env:Env}:∀(ns:List (aj)) (cs:List (Ź)),(∀y∈ns,y.2=.free→∃c,env.cells.lookup y.1=some c)→(∀x c,cs.lookup x=some c→env.cells.lookup x=some c)→
 ∃cl,(forIn ns cs (fun(x:aj) r=>if(x.2== .free)=true then(do let c ←cellOf env x.1;pure (ForInStep.yield ((x.1,c)::r))) else pure (ForInStep.yield r)):Sem (List (Ź)))=pure cl∧
  (∀x c,cl.lookup x=some c→env.cells.lookup x=some c)∧(∀x,(∃c,cs.lookup x=some c)→∃c,cl.lookup x=some c)∧∀y∈ns,y.2=.free→∃c,cl.lookup y.1=some c
 | [],cs,_,h2=>⟨cs,rfl,h2,fun _ z=>z,fun _ z=>nomatch z⟩
 |(n,k)::ns,cs,h1,h2=>by
  by_cases hk:k=.free
  ·subst hk
   obtain⟨c,hc⟩:=h1 (n,.free) List.mem_cons_self rfl
   have e:cellOf env n=pure c:=by unfold cellOf;rw[hc]
   have h2':∀x d,((n,c)::cs).lookup x=some d→env.cells.lookup x=some d:=fun x d q=>by
    rw[List.lookup_cons] at q
    cases hx:x== n with
    |true=>
     rw[hx] at q
     have:x=n:=eq_of_beq hx
     subst this
     cases q
     exact hc
    |false=>
     rw[hx] at q
     exact h2 x d q
   obtain⟨cl,q1,q2,q3,q4⟩:=ji ns ((n,c)::cs) (fun y hy=>h1 y (List.mem_cons_of_mem _ hy)) h2'
   refine⟨cl,?_,q2,fun x ⟨d,hd⟩=>q3 x ?_,fun y hy hf=>?_⟩
   ·rw[List.forIn_cons]
    simp only[beq_self_eq_true,if_true,e,pure_bind]
    exact q1
   ·rw[List.lookup_cons]
    cases hx:x== n with
    |true=>exact⟨c,rfl⟩
    |false=>exact⟨d,hd⟩
   ·rcases List.mem_cons.mp hy with rfl|hy
    ·exact q3 n ⟨c,by rw[List.lookup_cons,beq_self_eq_true]⟩
    ·exact q4 y hy hf
  ·have hb:(k== NameKind.free)=false:=by simpa using hk
   obtain⟨cl,q1,q2,q3,q4⟩:=ji ns cs (fun y hy=>h1 y (List.mem_cons_of_mem _ hy)) h2
   refine⟨cl,?_,q2,q3,fun y hy hf=>?_⟩
   ·rw[List.forIn_cons]
    simp only[hb,Bool.false_eq_true,if_false,pure_bind]
    exact q1
   ·rcases List.mem_cons.mp hy with rfl|hy
    ·exact absurd hf hk
    ·exact q4 y hy hf
theorem jy{scope:Scope}{env:Env}(h:∀y∈scope.names,y.2=.free→∃c,env.cells.lookup y.1=some c) :
 ∃cl,closureFor scope env=pure cl∧(∀x c,cl.lookup x=some c→env.cells.lookup x=some c)∧∀y∈scope.names,y.2=.free→∃c,cl.lookup y.1=some c:=by
 obtain⟨cl,q1,q2,_,q4⟩:=ji (env:=env) scope.names [] h (fun x c z=>by simp at z)
 refine⟨cl,?_,q2,q4⟩
 unfold closureFor
 have e:(forIn scope.names [] (fun(x:aj) (r:List (Ź))=>match x with
  |(name,kind)=>if(kind== .free)=true then(do let a ←cellOf env name;pure (ForInStep.yield ((name,a)::r))) else pure (ForInStep.yield r)):Sem (List (Ź)))=pure cl:=q1
 first
  |(simp only[bind_pure];exact q1)
  |(rw[show ∀(t:Sem (List (Ź))),(do let r ←t;pure r)=t from fun t=>by simp];exact q1)
  |(simp only[q1,pure_bind])
def gZ(X:Cx)(N':List Str)(scope:Scope)(cl:List (Ź))(C:Addr)(s:Shared)(H:Hp)(fp:List Addr):Cx where
 prog:=X.prog
 w:=X.w
 K:=X.K
 mg:=X.mg
 base:=X.base
 A:=X.A
 N:=N'
 s₀:= s
 H₀:= H
 env:=compEnvC scope cl C X.env
 outer:=X.stack
 stack:=X.stack
 ex:=fp
 fn:=fun x=>scope.names.lookup x== some .cell
 calm:=X.calm
 pn:=[]
 xe:=fun _ _=>False
def nU(X:Cx)(sc scope:Scope):List Str→List Nat→Prop
 |x::xs,j::js=>X.N[j]?=some x∧(scope.names.lookup x=some .free∧(sc.names.lookup x=some .cell∨sc.names.lookup x=some .free))∧nU X sc scope xs js
 |_,[]=>True
 | [],_::_=>False
def gk(js:List Nat)(nl:Nat)(σ:L2.St):L2.St:=js.map (fun j:Nat=>(σ[j]?).getD none)++List.replicate nl none
theorem qW{X:Cx}{sc scope:Scope}{σ:L2.St}{nl:Nat}:∀{N':List Str} {js:List Nat} {i:Nat} {x:Str} {v:V},nU X sc scope N' js→N'[i]?=some x→(gk js nl σ)[i]?=some (some v)→
 ∃j:Nat,X.N[j]?=some x∧σ[j]?=some (some v)∧scope.names.lookup x=some .free∧(sc.names.lookup x=some .cell∨sc.names.lookup x=some .free)
 |N',[],i,x,v,_,_,h=>by
  unfold gk at h
  rw[List.map_nil,List.nil_append,List.getElem?_replicate] at h
  split at h<;>cases h
 | [],_::_,_,_,_,c,_,_=>c.elim
 |y::N',j::js,0,x,v,c,h1,h2=>by
  obtain⟨c1,c2,_⟩:=c
  simp at h1
  subst h1
  have e:(σ[j]?).getD none=some v:=by simpa[gk] using h2
  refine⟨j,c1,?_,c2⟩
  cases q:σ[j]? with
  |none=>rw[q] at e;cases e
  |some o=>rw[q] at e;exact congrArg some e
 |y::N',j::js,i+1,x,v,c,h1,h2=>by
  exact qW (N':=N') (js:=js) (i:=i) c.2.2 (by simpa using h1) (by simpa[gk] using h2)
section
variable{prog:Program}{w:World}{A:Around}{R:Result→Shared→Prop}{s:Shared}
theorem jz{elt target iter:Expr}{ifs:List Expr}{scope:Scope}{pos:Pos}{it acc:Value}{env:Env}(I:Nat→Shared→Prop)
 (turn:∀n s,I n s→wpAny (model prog w) A (pyNext it) (fun r s₁=>match r with
   |none=>R (.ok .next) s₁
   |some v=>wpAny (model prog w) A (letOwnedTupleGo target it v) (fun _ s₁'=>wpAny (model prog w) A (assign target env v) (fun _ s₂=>
     wpAny (model prog w) A (forIn ifs true fun c r=>if r=true then do let ok ←isTrue c env (eval c env);pure (ForInStep.yield ok) else pure (ForInStep.yield r)) (fun ok s₃=>
      if ok=true then wpAny (model prog w) A (eval elt env) (fun x s₄=>
       wpAny (model prog w) A (call (.builtin "list.append") [acc,x]) (fun _ s₅=>∃m,m<n∧I m s₅) (fun _ _=>False) s₄) (fun _ _=>False) s₃
      else ∃m,m<n∧I m s₃) (fun _ _=>False) s₂) (fun _ _=>False) s₁') (fun _ _=>False) s₁) (fun _ _=>False) s)
 (n:Nat)(h:I n s) :
 codeAny (model prog w) A (.compLoop (.ListComp elt [⟨target,iter,ifs,0⟩] scope pos) 0 it acc env) R s:=by
 refine codeAny_loop rfl I (fun n s hI=>?_) n h
 show wpAny _ A ((compTurn (.ListComp elt [⟨target,iter,ifs,0⟩] scope pos) 0 it acc env).onRaise (fun x=>do noteFrame x env;theTreesLotGoes x)) _ _ s
 refine wpAny_noted (wpAny_noRaise ?_)
 rw[compTurn_list]
 refine wpAny_bind (wpAny_standAt (wpAny_bind (wpAny_mono (turn n s hI) (fun r s₁ h₁=>?_) fun _ _ h'=>h')))
 cases r with
 |none=>exact wpAny_pure h₁
 |some v=>
  refine wpAny_bind (wpAny_mono h₁ (fun _ s₁' h₁'=>?_) fun _ _ h'=>h')
  refine wpAny_bind (wpAny_mono h₁' (fun _ s₂ h₂=>wpAny_bind (wpAny_mono h₂ (fun ok s₃ h₃=>?_) fun _ _ h'=>h')) fun _ _ h'=>h')
  cases ok with
  |false=>exact wpAny_pure ⟨rfl,h₃⟩
  |true=>
   exact wpAny_bind (wpAny_bind (wpAny_mono h₃ (fun x s₄ h₄=>wpAny_bind (wpAny_mono h₄ (fun _ s₅ h₅=>wpAny_pure (wpAny_pure ⟨rfl,h₅⟩)) fun _ _ h'=>h')) fun _ _ h'=>h'))
end
def Vi(X:Cx)(ifs:List Expr)(t:TT):Prop:=
 ∀(pins:List (č)) (s:Shared) (σ:L2.St) (H:Hp) (Q:Bool→Hp→Prop),Inv X pins σ H s→t σ H Q→
  wpAny (model X.prog X.w) X.A (forIn ifs true fun c r=>if r=true then do let ok ←isTrue c X.env (eval c X.env);pure (ForInStep.yield ok) else pure (ForInStep.yield r)) (TP X pins σ Q) X.xe s
def ZkS:TT:=fun _ H Q=>Q true H
theorem RW{X:Cx}:Vi X [] ZkS:=fun _ _ _ H _ I h=>wpAny_tests_nil ⟨H,I,h⟩
theorem RX{X:Cx}{c:Expr}{t:TT}(h:PT X c t):Vi X [c] t:=fun pins s σ H Q I hw=>wpAny_tests_one (h pins s σ H Q I hw)
def HD(js:List Nat)(nl:Nat)(wi:TI)(g:TG)(tt:TT)(te:TE):TE:=fun σ H Q=>wi σ H fun J H1=>∀D,H1 D=none→
 ∃W:Nat→Nat→L2.St→Hp→Prop,(∃m,W 0 m (gk js nl σ) (upd H1 D (.lst [])))∧∀i m σ' H',W i m σ' H'→
  (J.stop i H'∧Q (.ref D) H')∨(J.go i H'∧∃N:L2.St→Hp→Prop,(∀σ2 H2,N σ2 H2→∃m',m'<m∧W (i+1) m' σ2 H2)∧∀x H2,J.yld i H' x H2→g x σ' H2 fun σ2 H3=>tt σ2 H3 fun c H4=>
    if c=true then te σ2 H4 fun y H5=>∃ys,H5 D=some (.lst ys)∧ys.length<sizeLine∧N σ2 (upd H5 D (.lst (ys ++ [y]))) else N σ2 H4)
section
variable{X:Cx}{elt tg iter:Expr}{ifs:List Expr}{scope:Scope}{pos:Pos}{wi:TI}{g:TG}{tt:TT}{te:TE}
theorem eO{env:Env}:∀{names:List (aj)} {x:Str} {k:NameKind},(k=.cell∨k=.free)→
 (names.map fun(n,k)=>if(k== NameKind.free && env.scope.kind== .function && env.kindOf n== some .cell) then(n,NameKind.cell) else(n,k)).lookup x=some k→(x,NameKind.free)∈names∨(x,NameKind.cell)∈names
 | [],x,k,_,h=>by simp at h
 |(n,q)::r,x,k,hk,h=>by
  have ih:=@eO env r x k hk
  rw[List.map_cons] at h
  by_cases hx:x=n
  ·subst hx
   by_cases hf:q=.free
   ·subst hf
    exact .inl List.mem_cons_self
   ·have hb:(q== NameKind.free)=false:=by simpa using hf
    have e:(if(q== NameKind.free && env.scope.kind== .function && env.kindOf x== some .cell)=true then(x,NameKind.cell) else(x,q))=(x,q):=by
     rw[hb];rfl
    have h2:=h
    simp only[e,List.lookup_cons,beq_self_eq_true] at h2
    have:q=k:=Option.some.inj h2
    rcases hk with hk|hk
    ·rw[this,hk]
     exact .inr List.mem_cons_self
    ·exact absurd (this.trans hk) hf
  ·have hn:(x== n)=false:=by simpa using hx
   have h3:(x,NameKind.free)∈r∨(x,NameKind.cell)∈r:=ih (by
    by_cases c:(q== NameKind.free && env.scope.kind== .function && env.kindOf n== some .cell)=true
    ·simp only[c,if_true,List.lookup_cons,hn] at h
     exact h
    ·simp only[c,if_false,Bool.false_eq_true,List.lookup_cons,hn] at h
     exact h)
   rcases h3 with h3|h3
   ·exact .inl (List.mem_cons_of_mem _ h3)
   ·exact .inr (List.mem_cons_of_mem _ h3)
theorem Ų:∀(names:List (aj)) (n:Nat) (acc:List (Ź)),cellsFrom n names acc=cellsFrom n names []++acc
 | [],_,_=>rfl
 |(x,k)::r,n,acc=>by
  unfold cellsFrom
  split
  ·rw[Ų r (n+1) ((x,n)::acc),Ų r (n+1) [(x,n)],List.append_assoc]
   rfl
  ·exact Ų r n acc
theorem eU:∀(names:List (aj)) (n:Nat) {x:Str} {c:Addr},(x,c)∈cellsFrom n names []→(x,NameKind.cell)∈names
 | [],_,_,_,h=>by simp[cellsFrom] at h
 |(y,k)::r,n,x,c,h=>by
  unfold cellsFrom at h
  split at h
  ·rename_i hk
   rw[Ų r (n+1) [(y,n)]] at h
   rcases List.mem_append.mp h with h|h
   ·exact List.mem_cons_of_mem _ (eU r _ h)
   ·have e:(x,c)=(y,n):=by simpa using h
    cases e
    rw[beq_iff_eq.mp hk]
    exact List.mem_cons_self
  ·exact List.mem_cons_of_mem _ (eU r _ h)
structure Blk(X:Cx)(scope:Scope)(n:Nat)(h:Heap)(cl:List (Ź)):Prop where
 at_:∀x c,cl.lookup x=some c→(X.env.cells.lookup x=some c∧scope.names.lookup x≠some .cell)∨(n<c∧h.IsCell c none∧scope.names.lookup x=some .cell)
 inj:∀x y c,cl.lookup x=some c→cl.lookup y=some c→n<c→x=y
 has:∀x,((x,NameKind.free)∈scope.names∨(x,NameKind.cell)∈scope.names)→∃c,cl.lookup x=some c
theorem HF{X:Cx}{scope:Scope}{n:Nat}{h:Heap}{cl:List (Ź)}(hcell:∀y∈scope.names,y.2=.cell→scope.names.lookup y.1=some .cell)
 (h1:∀x c,cl.lookup x=some c→X.env.cells.lookup x=some c)(h2:∀y∈scope.names,y.2=.free→∃c,cl.lookup y.1=some c)(hlt:∀x c,X.env.cells.lookup x=some c→c<n)
 (ok:CellsOk h (n+1) (cellsFrom (n+1) scope.names [])):Blk X scope n h (cellsFrom (n+1) scope.names cl):=by
 have sp:∀x c,(cellsFrom (n+1) scope.names cl).lookup x=some c→(cl.lookup x=some c∧(cellsFrom (n+1) scope.names []).lookup x=none)∨(cellsFrom (n+1) scope.names []).lookup x=some c:=fun x c e=>by
  rw[Ų,List.lookup_append] at e
  cases q:(cellsFrom (n+1) scope.names []).lookup x with
  |none=>rw[q] at e;exact .inl ⟨by simpa using e,rfl⟩
  |some d=>rw[q] at e;exact .inr (by simpa using e)
 refine⟨fun x c e=>?_,fun x y c e1 e2 hc=>?_,fun x hx=>?_⟩
 ·rcases sp x c e with⟨e,q⟩|e
  ·refine .inl ⟨h1 x c e,fun z=>?_⟩
   obtain⟨d,hd⟩:=jx (sc:=scope) (n:=n+1) z
   rw[hd] at q
   cases q
  ·have m:=mem_of_lookup e
   exact .inr ⟨(ok.empty x c m).2,(ok.empty x c m).1,hcell _ (eU _ _ m) rfl⟩
 ·have nw:∀z,(cellsFrom (n+1) scope.names cl).lookup z=some c→(cellsFrom (n+1) scope.names []).lookup z=some c:=fun z e=>by
   rcases sp z c e with⟨e,q⟩|e
   ·exact absurd (hlt z c (h1 z c e)) (Nat.lt_asymm hc)
   ·exact e
  exact name_of_addr ok.apart (mem_of_lookup (nw x e1)) (mem_of_lookup (nw y e2))
 ·rw[Ų,List.lookup_append]
  rcases hx with hx|hx
  ·obtain⟨c,hc⟩:=h2 _ hx rfl
   cases q:(cellsFrom (n+1) scope.names []).lookup x with
   |none=>exact⟨c,by simpa using hc⟩
   |some d=>exact⟨d,rfl⟩
  ·obtain⟨d,hd⟩:=jx (sc:=scope) (n:=n+1) (hcell _ hx rfl)
   rw[hd]
   exact⟨d,rfl⟩
theorem iJ{M:Model}{A:Around}{E:Value→Shared→Prop}{s:Shared}{scope:Scope}{globals:Addr}{closure:List (Ź)}{qual:Str}
 {func:Option Addr}{code:Value}{env0:Env}{builtins:Addr}{Q:Env→Shared→Prop}
 (hQ:∀h',h'.Ns s.heap.objs.size (fun _=>none)→(∀b o,s.heap.get? b=some o→h'.get? b=some o)→CellsOk h' (s.heap.objs.size+1) (cellsFrom (s.heap.objs.size+1) scope.names [])→
   Q (newEnv scope s.heap.objs.size globals (cellsFrom (s.heap.objs.size+1) scope.names closure) qual func code (some env0) builtins) {s with heap:=h'}) :
 wpAny M A (newFunctionEnv scope globals closure [] qual func code (some env0) builtins) Q E s:=by
 simp only[newFunctionEnv,Option.isSome_some,if_true]
 refine wpAny_bind (wpAny_alloc ?_)
 refine wpAny_bind (wpAny_layCells _ (fun name kind cells=>by cases hkc:kind== NameKind.cell<;>simp[hkc]) _ _ _ _ ?_)
 have ok:=cellsFrom_ok scope.names (s.heap.push {cls:=.type "dict",data:=.dict #[]}) (s.heap.objs.size+1) [] ⟨fun _ _ hm=>(nomatch hm),List.Pairwise.nil⟩ (by rw[Heap.size_push];exact Nat.le_refl _)
 rw[Heap.size_push] at ok
 rw[show({s with heap:=s.heap.push {cls:=.type "dict",data:=.dict #[]}}:Shared).heap.objs.size=s.heap.objs.size+1 from Heap.size_push ..]
 refine wpAny_bind ?_
 rw[List.forIn_nil]
 exact wpAny_pure (wpAny_pure (hQ _ ((Heap.Ns.new s.heap (.type "dict")).keeps (pushCells_keeps _ _)) (fun b o e=>pushCells_keeps _ _ b o (Heap.get?_push_of_some _ e)) ok))
theorem jA{env:Env}:∀{names:List (aj)} {x:Str},names.lookup x=some .free→
 ¬(names.map fun(n,k)=>if(k== NameKind.free && env.scope.kind== .function && env.kindOf n== some .cell) then(n,NameKind.cell) else(n,k)).lookup x=some .local
 | [],x,h=>by simp at h
 |(n,q)::r,x,h=>by
  intro h2
  rw[List.map_cons] at h2
  rw[List.lookup_cons] at h
  cases hx:x== n with
  |true=>
   rw[hx] at h
   cases h
   by_cases c:(NameKind.free== NameKind.free && env.scope.kind== .function && env.kindOf n== some .cell)=true
   ·simp only[c,if_true,List.lookup_cons,hx] at h2
    cases h2
   ·simp only[c,if_false,Bool.false_eq_true,List.lookup_cons,hx] at h2
    cases h2
  |false=>
   rw[hx] at h
   have ih:=jA (env:=env) h
   by_cases c:(q== NameKind.free && env.scope.kind== .function && env.kindOf n== some .cell)=true
   ·simp only[c,if_true,List.lookup_cons,hx] at h2
    exact ih h2
   ·simp only[c,if_false,Bool.false_eq_true,List.lookup_cons,hx] at h2
    exact ih h2
theorem qX{pins:List (č)}{σ:L2.St}{H:Hp}{s:Shared}{N':List Str}{js:List Nat}{nl:Nat}{sc:Scope}{cl:List (Ź)}{fp:List Addr}{h':Heap}{tk:Nat}
 (hsc:X.env.scope=sc)(hk:scope.kind=.function)(hcap:nU X sc scope N' js)(hlen:js.length+nl=N'.length)(B:Blk X scope s.heap.objs.size h' cl)
 (I:Inv X pins σ H s)(hf:∀b∈fp,fX X pins H b)(hlt:∀b∈fp,b<s.heap.objs.size)
 (hn:h'.Ns s.heap.objs.size (fun _=>none))(kp:∀b o,s.heap.get? b=some o→h'.get? b=some o) :
 Inv (gZ X N' scope cl s.heap.objs.size s H fp) [] (gk js nl σ) H {s with heap:=h',toks:=tk}:=by
 have HJ:∀x,((gZ X N' scope cl s.heap.objs.size s H fp).env.kindOf x=some .cell∨(gZ X N' scope cl s.heap.objs.size s H fp).env.kindOf x=some .free)→∃c,cl.lookup x=some c:=fun x hx=>by
  rcases hx with hx|hx
  ·exact B.has x (eO (.inl rfl) hx)
  ·exact B.has x (eO (.inr rfl) hx)
 have lt:∀x c,X.env.cells.lookup x=some c→c<s.heap.objs.size:=fun x c e=>by
  obtain⟨v,o,ho,_⟩:=I.cell x c e
  exact Heap.lt_size ho
 have inj:∀x y c,cl.lookup x=some c→cl.lookup y=some c→x=y:=fun x y c e1 e2=>by
  rcases B.at_ x c e1 with⟨q1,_⟩|⟨q1,_⟩
  ·rcases B.at_ y c e2 with⟨q2,_⟩|⟨q2,_⟩
   ·exact I.ok.inj x y c q1 q2
   ·exact absurd (lt x c q1) (Nat.lt_asymm q2)
  ·exact B.inj x y c e1 e2 q1
 refine⟨⟨I.ok.mod,hk,I.ok.glob,I.ok.blt,Nat.le_refl _,inj,HJ,fun x c z e=>by
  rcases B.at_ x c e with⟨_,q⟩|⟨q,_⟩
  ·exact absurd (beq_iff_eq.mp z) q
  ·exact Nat.le_of_lt q,I.ok.hd,I.ok.frames,.inl rfl,fun b hb=>⟨Nat.ne_of_lt (hlt b hb),fun x c e=>by
  rcases B.at_ x c e with⟨q,_⟩|⟨q,_⟩
  ·exact(hf b hb).2.2.2.2.1 x c q
  ·exact Nat.ne_of_gt (Nat.lt_trans (hlt b hb) q)⟩,
  I.bs,Nat.le_trans I.ok.Rn I.sz,fun b o e hb=>?_,fun b hb hz=>?_,I.stack,I.tZ⟩,rfl,I.bare,Un.kept kp,⟨_,hn,fun i x v e1 e2 e3=>?_⟩,fun x c e=>?_,I.hok.fresh (Nat.le_refl _),fun x c e=>by
    rcases B.at_ x c e with⟨q,_⟩|⟨q,_⟩
    ·exact I.fU x c q
    ·exact I.hok.fresh (Nat.le_of_lt q),fun p hp=>?_,I.hok.kept kp,?_⟩
 ·rcases(hf b hb).2.2.2.1 with z|z
  ·exact I.ok.E_ b o e z
  ·exact absurd (Nat.lt_of_lt_of_le (Heap.lt_size e) (Nat.le_trans I.ok.Rn z)) (Nat.lt_irrefl _)
 ·rcases List.mem_cons.mp (I.nO b hz) with z|z
  ·exact(hf b hb).2.1 z
  ·exact(hf b hb).2.2.1 z
 ·obtain⟨j,q1,q2,q0,q3⟩:=qW hcap e1 e2
  obtain⟨m,hm,hl⟩:=I.loc
  have ZkT:Gy X.env.scope x:=by
   rw[hsc]
   rcases q3 with q3|q3
   ·exact .inr (.inl q3)
   ·exact .inr (.inr q3)
  obtain⟨u,ru,lk⟩:=hl j x v q1 q2 ZkT
  refine⟨u,ru,?_⟩
  rcases lk with⟨k1,_⟩|⟨k1,c,hc,ic⟩
  ·exfalso
   have k1':sc.names.lookup x=some .local:=by rw[←hsc];exact k1
   rcases q3 with q3|q3<;>(rw[k1'] at q3;cases q3)
  ·have e3':(gZ X N' scope cl s.heap.objs.size s H fp).env.kindOf x=some .local∨(gZ X N' scope cl s.heap.objs.size s H fp).env.kindOf x=some .cell∨(gZ X N' scope cl s.heap.objs.size s H fp).env.kindOf x=some .free:=e3
   rcases e3' with z|z
   ·exact absurd z (jA (env:=X.env) q0)
   ·obtain⟨d,hd⟩:=HJ x z
    have:d=c:=by
     rcases B.at_ x d hd with⟨q,_⟩|⟨_,_,q⟩
     ·rw[hc] at q
      exact(Option.some.inj q).symm
     ·rw[q0] at q
      cases q
    subst this
    exact .inr ⟨z,d,hd,by
     obtain⟨o,ho,hd'⟩:=ic
     exact⟨o,kp _ _ ho,hd'⟩⟩
 ·rcases B.at_ x c e with⟨q,_⟩|⟨_,q,_⟩
  ·obtain⟨v,o,ho,hd⟩:=I.cell x c q
   exact⟨v,o,kp _ _ ho,hd⟩
  ·exact⟨none,q⟩
 ·exact absurd hp (by simp[gZ])
 ·show _=N'.length
  rw[←hlen]
  simp[gk]
theorem nW{pins:List (č)}{σ σ':L2.St}{H H':Hp}{s s':Shared}{N':List Str}{cl:List (Ź)}{fp:List Addr}{h':Heap}(I:Inv X pins σ H s)(hf:∀b∈fp,fX X pins H b)
 (J:Inv (gZ X N' scope cl s.heap.objs.size s H fp) [] σ' H' s')(kp:∀b u,b≠s.heap.objs.size→s'.heap.get? b=some u→h'.get? b=some u):Inv X pins σ H' {s' with heap:=h'}:=by
 have ne:∀{b:Addr} {o:Obj},s.heap.get? b=some o→b≠s.heap.objs.size:=fun e=>Nat.ne_of_lt (Heap.lt_size e)
 have u:=J.base
 refine I.call' (ch:=fp) J.os ⟨fun b o e n hb hx=>kp b o (ne e) (u.keep b o e n hb hx),fun b o e n hb hx=>?_,fun b o e n hx=>u.free b o e n hx,fun b o e hx=>?_,u.tups,u.jf,u.jt⟩ (DG J.hok J.free kp) J.bare fun b hb=>?_
 ·obtain⟨sl,q⟩:=u.slot b o e n hb hx
  exact⟨sl,kp b _ (ne e) q⟩
 ·obtain⟨o',q⟩:=u.there b o e hx
  exact⟨o',kp b _ (ne e) q⟩
 ·exact⟨(hf b hb).2.2.2.1,(hf b hb).2.1,(hf b hb).2.2.2.2.1,(hf b hb).2.2.2.2.2⟩
theorem RZ(N':List Str)(js:List Nat)(nl:Nat)(sc:Scope)(hsc:X.env.scope=sc)(hcalm:X.calm=true)
 (hi:PI X.au tg iter wi)(hg:∀cl C s H fp,PG (gZ X.au N' scope cl C s H fp) tg g)(ht:∀cl C s H fp,Vi (gZ X.au N' scope cl C s H fp) ifs tt)(he:∀cl C s H fp,PE (gZ X.au N' scope cl C s H fp) elt te)
 (hcap:nU X.au sc scope N' js)(hlen:js.length+nl=N'.length:=by rfl)
 (hk:scope.kind=.function:=by rfl)(hcell:∀y∈scope.names,y.2=.cell→scope.names.lookup y.1=some .cell:=by decide +kernel)(hnames:∀y∈scope.names,y.2=.local→scope.names.lookup y.1=some .local:=by decide +kernel)
 (hfree:∀y∈scope.names,y.2=.free→(sc.names.lookup y.1=some .cell∨sc.names.lookup y.1=some .free):=by decide +kernel)
 (hs:∀x,foldedSetIterable iter X.env x=pure x:=by intro _;rfl) :
 PE X.au (.ListComp elt [⟨tg,iter,ifs,0⟩] scope pos) (HD js nl wi g tt te):=by
 intro pins s σ H Q I h
 obtain⟨cl0,c1,c2,c3⟩:=jy (scope:=scope) (env:=X.au.env) fun y hy hf=>I.ok.has y.1 (by
  have:=hfree y hy hf
  rw[←hsc] at this
  exact this)
 rw[eval_ListComp]
 refine wpAny_comprehension_free (use:=none) rfl hs c1 hk hnames (Ŧ (hi pins s σ H _ I h) fun v s1 h1=>Ŧ h1 fun itv s2 h2=>?_)
 obtain⟨it,fp,tn,J,H2,e,I2,T,st2,f2,q2⟩:=h2
 subst e
 refine wpAny_newObj_type (iJ (fun h₁ hns₁ old ok₁=>?_))
 dsimp only at hns₁ old ok₁ ⊢
 generalize YT:s2.heap.push {cls:=.type "list",dict:=none,data:=.seq ([]:List Value).toArray}=cC at hns₁ old ok₁ ⊢
 have hD:H2 s2.heap.objs.size=none:=I2.hok.fresh (Nat.le_refl _)
 have I3:Inv X.au pins σ (upd H2 s2.heap.objs.size (.lst [])) {s2 with heap:=cC}:=by
  rw[←YT]
  exact I2.laid (t':=s2.toks) (fun b u e=>Heap.get?_push_of_some _ e) (Nat.le_refl _) ⟨Nat.zero_le _,[],0,.nil,Heap.get?_push_size _ rfl⟩
 have HN:∀b∈fp,b<s2.heap.objs.size:=fun b hb=>by
  obtain⟨o,ho,_⟩:=T.obj 0 _ st2 b hb
  exact Heap.lt_size ho
 have YW:cC.objs.size=s2.heap.objs.size+1:=by rw[←YT,Heap.size_push]
 have f3:∀b∈fp,fX X.au pins (upd H2 s2.heap.objs.size (.lst [])) b:=fun b hb=>by
  obtain⟨g0,g1⟩:=f2 b hb
  exact⟨by rw[Ġ (Nat.ne_of_lt (HN b hb))];exact g0,g1⟩
 have B:=HF (X:=X.au) (cl:=cl0) hcell c2 c3 (fun x c e=>by
  obtain⟨v,o,ho,_⟩:=I3.cell x c e
  exact Heap.lt_size ho) ok₁
 generalize cellsFrom (cC.objs.size+1) scope.names cl0=cl at B ⊢
 obtain⟨W,⟨m0,w0⟩,turn⟩:=q2 s2.heap.objs.size hD
 have I4:=qX (X:=X.au) (N':=N') (js:=js) (nl:=nl) (sc:=sc) (scope:=scope) (cl:=cl) (fp:=fp) (h':=h₁) (tk:=s2.toks) hsc hk hcap hlen B I3 f3 (fun b hb=>by show b<cC.objs.size;rw[YW];exact Nat.lt_succ_of_lt (HN b hb)) hns₁ old
 have st4:tn 0 h₁:= T.keep 0 _ _ st2 fun b hb o e=>old b o (by rw[←YT];exact Heap.get?_push_of_some _ e)
 have fr4:∀b∈fp,(upd H2 s2.heap.objs.size (.lst [])) b=none:=fun b hb=>(f3 b hb).1
 have stat:∀{H':Hp},(∀b∈fp,H' b=none)→∀b∈fp,fX (gZ X.au N' scope cl cC.objs.size {s2 with heap:=cC} (upd H2 s2.heap.objs.size (.lst [])) fp) [] H' b:=fun{H'} hn b hb=>by
  obtain⟨g0,g1,g2,g3,g4,g5⟩:=f3 b hb
  refine⟨hn b hb,Nat.ne_of_lt (by show b<cC.objs.size;rw[YW];exact Nat.lt_succ_of_lt (HN b hb)),fun z=>?_,.inl hb,fun x c e=>by
   rcases B.at_ x c e with⟨q,_⟩|⟨q,_⟩
   ·exact g4 x c q
   ·exact Nat.ne_of_gt (Nat.lt_trans (by show b<cC.objs.size;rw[YW];exact Nat.lt_succ_of_lt (HN b hb)) q),fun p hp=>absurd hp (by simp[gZ])⟩
  rcases List.mem_cons.mp (I3.nO b z) with z|z
  ·exact g1 z
  ·exact g2 z
 have loop:∀s₃:Shared,s₃= {s2 with heap:=h₁}→
  codeAny (model X.prog X.w) X.A (.compLoop (.ListComp elt [⟨tg,iter,ifs,0⟩] scope pos) 0 (.ref it) (.ref s2.heap.objs.size) (compEnvC scope cl cC.objs.size X.au.env))
   (compPost (model X.prog X.w) X.A X.au.xe none (EP X.au pins σ Q) (.ref s2.heap.objs.size) cC.objs.size) s₃:= by
  rintro s₃ rfl
  refine jz (fun n s'=>∃i σ' H',Inv (gZ X.au N' scope cl cC.objs.size {s2 with heap:=cC} (upd H2 s2.heap.objs.size (.lst [])) fp) [] σ' H' s'∧tn i s'.heap∧(∀b∈fp,H' b=none)∧W i n σ' H') ?_ m0 ⟨0,_,_,I4,st4,fr4,w0⟩
  rintro n s5 ⟨i,σ5,H5,I5,Rv,Yd,w5⟩
  rcases turn i n σ5 H5 w5 with⟨stop,qn⟩|⟨go,N,hN,step⟩
  ·refine Ŧ (T.done (gZ X.au N' scope cl cC.objs.size {s2 with heap:=cC} (upd H2 s2.heap.objs.size (.lst [])) fp) rfl rfl rfl hcalm i [] s5 σ5 H5 (fun _ _=>False) I5 (stat Yd) Rv stop) fun r s6 ⟨hr,I6⟩=>?_
   subst hr
   obtain⟨m,hm,_⟩:=I6.loc
   refine⟨m,hm,fun h' hs'=>⟨.ref s2.heap.objs.size,H5,nW I3 f3 I6 (fun b u hb e=>hs'.extBut b u hb e),rfl,qn⟩⟩
  ·refine Ŧ (T.item (gZ X.au N' scope cl cC.objs.size {s2 with heap:=cC} (upd H2 s2.heap.objs.size (.lst [])) fp) rfl rfl rfl hcalm i [] s5 σ5 H5 (fun _ _=>False) I5 (stat Yd) Rv go) fun r s6 ⟨u,hr,h6⟩=>?_
   subst hr
   refine Ŧ h6 fun _ s7 ⟨x,H7,I7,r7,y7,YX,fr7⟩=>?_
   have I7':=I7.pinned (stat fr7) (T.obj _ _ YX)
   have again:∀{s8:Shared} {σ8:L2.St} {H8:Hp},Inv (gZ X.au N' scope cl cC.objs.size {s2 with heap:=cC} (upd H2 s2.heap.objs.size (.lst [])) fp) ([]++jX fp s7.heap) σ8 H8 s8→
    Inv (gZ X.au N' scope cl cC.objs.size {s2 with heap:=cC} (upd H2 s2.heap.objs.size (.lst [])) fp) [] σ8 H8 s8∧tn (i+1) s8.heap∧∀b∈fp,H8 b=none:=fun{s8 σ8 H8} I8=>by
    refine⟨I8.fY,T.keep _ _ _ YX fun b hb o e=>(I8.pin (b,o) (List.mem_append_right _ (List.mem_append_right _ (bL hb e)))).1,fun b hb=>?_⟩
    obtain⟨o,e,d⟩:=T.obj _ _ YX b hb
    exact(I8.pin (b,o) (List.mem_append_right _ (List.mem_append_right _ (bL hb e)))).2.1
   refine Ŧ (hg cl _ _ _ fp _ s7 σ5 H7 x u _ I7' r7 (step x H7 y7)) fun _ s8 ⟨σ8,H8,I8,q8⟩=>?_
   refine Ŧ (ht cl _ _ _ fp _ s8 σ8 H8 _ I8 q8) fun c s9 ⟨H9,I9,q9⟩=>?_
   cases c with
   |false=>
    rw[if_neg Bool.false_ne_true] at q9 ⊢
    obtain⟨m',hm',w9⟩:=hN _ _ q9
    obtain⟨a1,a2,a3⟩:=again I9
    exact⟨m',hm',i+1,σ8,H9,a1,a2,a3,w9⟩
   |true=>
    rw[if_pos rfl] at q9 ⊢
    refine Ŧ (he cl _ _ _ fp _ s9 σ8 H9 _ I9 q9) fun yv zT ⟨y,H10,I10,r10,ys,e10,l10,w10⟩=>?_
    refine Ŧ (aQ _ zT σ8 H10 (.ref s2.heap.objs.size) [y] (.ref s2.heap.objs.size) [yv] (fun _ YZ=>N σ8 YZ) I10 rfl (.cons r10 .nil) ⟨_,ys,y,rfl,rfl,e10,l10,w10⟩) fun _ s11 ⟨v11,YZ,I11,_,w11⟩=>?_
    obtain⟨a1,a2,a3⟩:=again I11
    obtain⟨m',hm',w11⟩:=hN _ _ w11
    exact⟨m',hm',i+1,σ8,YZ,a1,a2,a3,w11⟩
 exact codeAny_compStart_list (loop _ rfl) (T.self _ 0 _ _ _ st4 (loop _ rfl))
end
def Its(z:Str):It:=⟨fun i _=>i<z.cps.size,fun i H x H'=>H'=H∧∃c,z.cps.toList[i]?=some c∧x=.str ⟨#[c]⟩,fun i _=>i=z.cps.size⟩
theorem Fy{P:Program}{w:World}{K:PySem.W.Frag}{tg:Expr}(it:Addr)(z:Str)(t:Tok)(ty:String)
 (hW:∀A:Around,A.handled=none→Walks P w A it [it] [it] z.cps.size (SignAt z) (fun i h=>h.IsStrIter it ty z t i))
 (hS:∀(A:Around) (i:Nat) (s:Shared) (Q:Value→Shared→Prop) (E:Value→Shared→Prop),s.heap.IsStrIter it ty z t i→Q (.ref it) s→wpAny (model P w) A (pyIter (.ref it)) Q E s)
 (hty:["enumerate","zip","dict_itemiterator","dict_reverseitemiterator","odict_iterator","itertools.zip_longest","itertools.pairwise"].contains ty=false):Turn P w K tg (Its z) [it] it (fun i h=>h.IsStrIter it ty z t i) where
 mem:=by simp
 obj:=fun i h st b hb=>by
  have e:b=it:=by simpa using hb
  subst e
  obtain⟨o,e,c,d⟩:=st
  exact⟨o,e,fun v z=>by rw[d] at z;cases z⟩
 keep:=fun i h h' st k=>by
  obtain⟨o,e,c,d⟩:=st
  exact⟨o,k it (by simp) o e,c,d⟩
 item:=by
  intro X hP hw hK hc i pins s σ H E I hf st hg
  subst hP hw hK
  obtain⟨f0,f1,f2,f3,f4,f5⟩:=hf it (by simp)
  refine(hW X.A (I.ok.hd hc)).item i s _ _ hg st fun v h' tk hv st' kk=>?_
  obtain⟨c,u,hcu,rfl⟩:=hv
  have I1:Inv X pins σ H {s with heap:=h',toks:=tk}:=I.turned (fun b o hb e=>kk b o (by simpa using hb) e) f0 f1 f3 f4 f5
  obtain⟨o,e,cl,d⟩:=id st'
  exact⟨_,rfl,Dp (s:={s with heap:=h',toks:=tk}) e cl d hty ⟨.str ⟨#[c]⟩,H,I1,⟨u,rfl⟩,⟨rfl,c,by simpa using hcu,rfl⟩,st',fun b hb=>(hf b hb).1⟩⟩
 done:=by
  intro X hP hw hK hc i pins s σ H E I hf st hg
  subst hP hw hK
  obtain⟨f0,f1,f2,f3,f4,f5⟩:=hf it (by simp)
  have e:i=z.cps.size:=hg
  subst e
  exact(hW X.A (I.ok.hd hc)).done s _ _ st fun h' tk kk=>⟨rfl,I.turned (fun b o hb e=>kk b o (by simpa using hb) e) f0 f1 f3 f4 f5⟩
 self:=hS
section
variable{X:Cx}{tg:Expr}
end
end M3
namespace M4
open PySem PySem.Spec PyProof.Rows L2 M2 M3
section
variable{X:Cx}
theorem R_{bs:List Bool}:∀{us:List Value},Vals (bs.map V.bl) us→us=bs.map Value.bool:=by
 induction bs with
 |nil=>intro us r;rw[List.map_nil] at r;cases r;rfl
 |cons b bs ih=>
  intro us r
  rw[List.map_cons] at r
  cases r with
  |cons r1 r2=>
   cases r1
   rw[ih r2]
   rfl
theorem all_range(bs:List Bool):(List.range (bs.map Value.bool).toArray.size).all (fun i=>bs.getD i false)=bs.all id:=by
 have e:(bs.map Value.bool).toArray.size=bs.length:=by simp
 rw[e,Bool.eq_iff_iff]
 simp only[List.all_eq_true,List.mem_range,id]
 constructor
 ·intro h b hb
  obtain⟨i,hi,rfl⟩:=List.mem_iff_getElem.mp hb
  have:=h i hi
  rw[List.getD_eq_getElem?_getD,List.getElem?_eq_getElem hi] at this
  exact this
 ·intro h i hi
  rw[List.getD_eq_getElem?_getD,List.getElem?_eq_getElem hi]
  exact h _ (List.getElem_mem hi)
theorem wI{prog:Program}{w:World}{A:Around}(bs:List Bool):TruthOf prog w A (fun i v=>(bs.map Value.bool).toArray[i]?=some v) (fun i=>bs.getD i false):=by
 intro i v s Q E hv hq
 have hv':bs[i]?.map Value.bool=some v:=by
  rw[←List.getElem?_map]
  simpa using hv
 cases hb:bs[i]? with
 |none=>rw[hb] at hv';cases hv'
 |some b=>
  rw[hb] at hv'
  cases hv'
  dsimp only at hq
  rw[List.getD_eq_getElem?_getD,hb] at hq
  exact wpAny_truthy_bool hq
def Y_(K:PySem.W.Frag):List V→Hp→VK→Prop:=fun xs H Q=>match xs with
 | [.ref p]=>∃bs:List Bool,aJ K H p (bs.map V.bl)∧Q (.bl (bs.all id)) H
 |_=>False
theorem kI(hc:X.calm=true):Ţ X (.builtin "all") (Y_ X.K):=by
 intro pins s σ H xs us Q I r h
 unfold Y_ at h
 split at h
 ·rename_i p
  obtain⟨bs,hS,q⟩:=h
  obtain⟨u,rfl,ru⟩:=vals1 r
  cases ru
  obtain⟨its,rv,pl,hz⟩:=I.list hS
  have e:=R_ rv
  subst e
  have hp:p≠s.heap.objs.size:=by
   obtain⟨o,n,e,_⟩:=pl
   exact Nat.ne_of_lt (Heap.lt_size e)
  refine call_all_walk (wpAny_pyIter_list pl.isList ?_)
  refine⟨s.heap.objs.size,_,_,_,_,_,_,rfl,Walks.list (A:=X.A.in1) (show X.A.in1.handled=none from I.ok.hd hc) s.heap.objs.size p hp (bs.map Value.bool).toArray,⟨⟨_,Heap.get?_push_size _ rfl,rfl,rfl⟩,pl.isList.at fun o e=>Heap.get?_push_of_some _ e⟩,wI bs,fun h' tk k=>?_⟩
  rw[all_range]
  exact⟨.bl _,H,I.kept fun b o e=>k b o (by simpa using Nat.ne_of_lt (Heap.lt_size e)) (Heap.get?_push_of_some _ e),rfl,q⟩
 ·exact h.elim
end
abbrev S(l:List Nat):Str:=⟨l.toArray⟩
theorem ZkU(z:Str):S z.cps.toList=z:=by
 cases z
 simp
theorem Zdv(l:List Nat):(S l).length=l.length:=by simp[Str.length]
theorem wJ(z:Str):z.cps.toList.length=z.length:=by simp[Str.length]
def ur(xs:List Nat)(lo hi:Option Int):List Nat:=(xs.drop (HT.gW xs.length 0 lo)).take (HT.gW xs.length xs.length hi-HT.gW xs.length 0 lo)
theorem idx_eq(z:Str)(lo hi:Option Int):Builtin.Str.strSliceIndices lo hi 1 z.length=(List.range (HT.gW z.length z.length hi-HT.gW z.length 0 lo)).map (HT.gW z.length 0 lo + ·):=by
 have hc:∀(o:Option Int) (d:Nat),d≤z.length→(match o with|none=>((d:Nat):Int)|some i=>max 0 (min (if i<0 then i+(z.length:Int) else i) (z.length:Int)))=((HT.gW z.length d o:Nat):Int):=by
  intro o d hd
  cases o with
  |none=>rfl
  |some i=>
   show max 0 (min (if i<0 then i+(z.length:Int) else i) (z.length:Int))=((if i<0 then(i+(z.length:Int)).toNat else min i.toNat z.length:Nat):Int)
   by_cases h:i<0
   ·rw[if_pos h,if_pos h];omega
   ·rw[if_neg h,if_neg h];omega
 have e:Builtin.Str.strSliceIndices lo hi 1 z.length=sliceRange ((HT.gW z.length 0 lo:Nat):Int) ((HT.gW z.length z.length hi:Nat):Int) 1:=by
  have h1:=hc lo 0 (Nat.zero_le _)
  have h2:=hc hi z.length (Nat.le_refl _)
  unfold Builtin.Str.strSliceIndices
  simp only[show(1:Int)>0 by decide,if_true]
  rw[←h1,←h2]
  cases lo<;>cases hi<;>rfl
 rw[e,sliceRange_one]
theorem Sd(z:Str)(lo hi:Option Int):(Builtin.Str.strSliceIndices lo hi 1 z.length).filterMap (z.cps[·]?)=ur z.cps.toList lo hi:=by
 rw[idx_eq,pick_run]
 unfold ur
 rw[wJ]
theorem Sg(xs:List Nat)(lo hi:Option Int):(ur xs lo hi).length≤xs.length:=by
 unfold ur
 rw[List.length_take,List.length_drop]
 omega
theorem HS{z:Str}{t:Tok}{l u:Option (nD)}{Q:Value→Shared→Prop}{s:Shared}(hz:z.length≤sizeLine)
 (h:∀t' k,Q (.str (S (ur z.cps.toList (l.map (·.1)) (u.map (·.1)))) t') {s with toks:=k}):(sliceMade z t l u none).post Q s:=by
 have e:=Sd z (l.map (·.1)) (u.map (·.1))
 unfold sliceMade
 have ep:slicePicked z l u none=Builtin.Str.strSliceIndices (l.map (·.1)) (u.map (·.1)) 1 z.length:=rfl
 rw[ep]
 split
 ·rename_i hc
  have hl:(Builtin.Str.strSliceIndices (l.map (·.1)) (u.map (·.1)) 1 z.length).length=z.length:=by simpa using hc
  have hz2:ur z.cps.toList (l.map (·.1)) (u.map (·.1))=z.cps.toList:=by
   rw[idx_eq,List.length_map,List.length_range] at hl
   have hi:=HT.Hq z.length 0 (Nat.zero_le _) (l.map (·.1))
   have hj:=HT.Hq z.length z.length (Nat.le_refl _) (u.map (·.1))
   unfold ur
   rw[wJ]
   have hl2:=wJ z
   have a0:HT.gW z.length 0 (l.map (·.1))=0∨z.length=0:=by omega
   rcases a0 with a0|a0
   ·rw[a0] at hl ⊢
    rw[List.drop_zero]
    exact List.take_of_length_le (by omega)
   ·have:z.cps.toList=[]:=List.eq_nil_of_length_eq_zero (by omega)
    rw[this]
    simp
  have:=h t s.toks
  rw[hz2,ZkU] at this
  exact this
 ·rw[e]
  exact⟨by rw[Zdv];have:=Sg z.cps.toList (l.map (·.1)) (u.map (·.1));rw[wJ] at this;omega,h _ _⟩
section
variable{X:Cx}
def ZkV:V→Option Int→Option Int→Hp→VK→Prop:=fun x lo hi H Q=>match x with
 | .str z=>z.length≤sizeLine∧Q (.str (S (ur z.cps.toList lo hi))) H
 |_=>False
theorem Sh:Dr X ZkV:=by
 intro pins s σ H x v vl vu lo hi sl Q I rx hs pl pu h
 cases x with
 |str z=>
  obtain⟨t,rfl⟩:=rx
  obtain⟨hz,q⟩:=h
  obtain⟨l,el,el2⟩:∃l:Option (nD),partValue l=vl∧l.map (·.1)=lo:=by
   cases pl with
   |none=>exact⟨none,rfl,rfl⟩
   |int i t=>exact⟨some (i,t),rfl,rfl⟩
  obtain⟨u,eu,eu2⟩:∃u:Option (nD),partValue u=vu∧u.map (·.1)=hi:=by
   cases pu with
   |none=>exact⟨none,rfl,rfl⟩
   |int i t=>exact⟨some (i,t),rfl,rfl⟩
  subst el el2 eu eu2
  exact⟨"str",_,F.slot_str_getitem.lookup,typeIs_str s z t,wpAny_getItem_str_slice (l:=l) (u:=u) (st:=none) hs rfl (HS hz fun t' k=>⟨.str _,H,I.tok _,⟨_,rfl⟩,q⟩)⟩
 |_=>exact h.elim
def ZkW(K:PySem.W.Frag):V→Option Int→Option Int→Hp→VK→Prop:=fun x lo hi H Q=>match x with
 | .ref a=>∃xs,aJ K H a xs∧∀p,H p=none→Q (.ref p) (upd H p (.lst (wF xs lo hi)))
 | .str z=>z.length≤sizeLine∧Q (.str (S (ur z.cps.toList lo hi))) H
 |_=>False
theorem slm:Dr X (ZkW X.K):=Dr.wk (HB.or Sh) fun x lo hi H Q h=>by
 cases x with
 |ref a=>exact .inl h
 |str z=>exact .inr h
 |_=>exact h.elim
theorem mul_eq(z:Str){n:Int}(h:0≤n):Txt.mul z n=S (List.replicate n.toNat z.cps.toList).flatten:=by
 have key:∀(k:Nat) (acc:Array Nat),((List.replicate k z.cps).foldl (·++ ·) acc).toList=acc.toList++(List.replicate k z.cps.toList).flatten:=by
  intro k
  induction k with
  |zero=>intro acc;simp
  |succ k ih=>
   intro acc
   rw[List.replicate_succ,List.foldl_cons,ih,List.replicate_succ,List.flatten_cons]
   simp
 unfold Txt.mul
 refine PyProof.Rows.ext_toList ?_
 by_cases h1:n<1
 ·rw[if_pos h1]
  have:n.toNat=0:=by omega
  rw[this]
  simp[Str.empty]
 ·rw[if_neg h1]
  split
  ·rename_i hc
   rw[Bool.or_eq_true] at hc
   rcases hc with hc|hc
   ·have:n=1:=by simpa using hc
    subst this
    simp
   ·have h0:z.cps.toList=[]:=List.eq_nil_of_length_eq_zero (by rw[wJ];simpa using hc)
    rw[h0]
    simp
  ·rw[key]
   simp
def HW(z:Str)(n:Int):Prop:=0≤n∧n≤1000∧z.length≤1000
theorem HW.ok{z:Str}{n:Int}(h:HW z n):MulOk z n:=by
 obtain⟨h0,h1,h2⟩:=h
 refine⟨?_,fun hn _=>?_,fun hn _=>?_⟩
 ·rw[decide_eq_false (by omega),decide_eq_false (by omega)]
  rfl
 ·have:(9000000000000000:Int)≤(2 ^ 63-1) / n:=by
   rw[Int.le_ediv_iff_mul_le (by omega)]
   omega
  omega
 ·have:z.length*n.toNat≤1000*1000:=Nat.mul_le_mul h2 (by omega)
  unfold Builtin.Str.tooLong
  simp
  rw[sizeLine_eq]
  omega
def HX:R2:=fun x y H Q=>match x,y with
 | .int i,.int j=>qU i j∧Q (.int (i*j)) H
 | .str z,.int n=>HW z n∧Q (.str (S (List.replicate n.toNat z.cps.toList).flatten)) H
 |_,_=>False
theorem ī:aC X (binaryOp .Mult) HX:=by
 intro pins s σ H x y v u Q I rx ry h
 unfold HX at h
 split at h
 ·exact YL pins s σ H _ _ v u Q I rx ry h
 ·obtain⟨t,rfl⟩:=rx
  obtain⟨t',rfl⟩:=ry
  exact SB.mul h.1.ok fun t' k=>⟨.str _,H,I.tok _,⟨_,by rw[mul_eq _ h.1.1]⟩,h.2⟩
 ·exact h.elim
end
end M4
namespace P
def nst:PySem.Expr→Bool
 | .Starred .. =>false
 |_=>true
theorem ı{e:PySem.Expr}{es:List PySem.Expr}{env:PySem.Env}(h:nst e=true):PySem.starEach (e::es) env=(false,PySem.eval e env)::PySem.starEach es env:=by
 cases e<;>first|rfl|cases h
theorem HY{a b:PySem.Expr}{env:PySem.Env}(h:nst a=true)(h2:nst b=true):PySem.starEach [a,b] env=[(false,PySem.eval a env),(false,PySem.eval b env)]:=by
 rw[ı h,ı h2];rfl
open PySem PySem.Spec PyProof.Rows L2 M2
structure KK where
 K:PySem.W.Frag
 cm:String→Addr
abbrev kk(X:Cx)(cm:String→Addr):KK:=⟨X.K,cm⟩
inductive PV where
 |non|bl (b:Bool)|int (i:Int)|str (x:Str)|tup (xs:List PV)|lst (xs:List PV)
 |ins (C:String) (ns:List Str) (xs:List PV)|xc (C:String) (ns:List Str) (xs:List PV)|ty (n:String)|cls (C:String)
def xo(a C:Addr)(d:Option Addr):HO:=.ext fun h=>∃o vs,h.get? a=some o∧o.cls=.ref C∧o.dict=d∧o.data=.fields vs
def nY(F:Hp)(d:Option Addr)(fs:List (Ÿ)):Prop:=(d=none∧fs=[])∨∃a,d=some a∧F a=some (.xd fs)
mutual
def Rep(K:KK)(F:Hp):PV→V→Prop
 | .non,v=>v=.non
 | .bl b,v=>v=.bl b
 | .int i,v=>v=.int i
 | .str x,v=>v=.str x
 | .tup ps,v=>∃a xs,v=.ref a∧dD K.K F a xs∧ĝ K F ps xs
 | .lst ps,v=>∃a xs,v=.ref a∧aJ K.K F a xs∧ĝ K F ps xs
 | .ins C ns ps,v=>∃a dx fs,v=.ref a∧F a=some (.ins (K.cm C) dx fs)∧fs.map (·.1)=ns∧ĝ K F ps (fs.map (·.2))
 | .xc C ns ps,v=>∃a d fs,v=.ref a∧F a=some (xo a (K.cm C) d)∧nY F d fs∧fs.map (·.1)=ns∧ĝ K F ps (fs.map (·.2))
 | .ty n,v=>v=.ty n
 | .cls C,v=>v=.ref (K.cm C)
def ĝ(K:KK)(F:Hp):List PV→List V→Prop
 | [],xs=>xs=[]
 |p::ps,xs=>∃x r,xs=x::r∧Rep K F p x∧ĝ K F ps r
end
section
variable{K:KK}{F F' H H':Hp}
theorem nY.same{d:Option Addr}{fs:List (Ÿ)}(e:Same F F')(h:nY F d fs):nY F' d fs:=by
 rcases h with h|⟨a,h1,h2⟩
 ·exact .inl h
 ·exact .inr ⟨a,h1,e _ _ h2⟩
mutual
theorem Rep.same(e:Same F F'):∀(p:PV) (v:V),Rep K F p v→Rep K F' p v
 | .non,_,h=>by unfold Rep at h ⊢;exact h
 | .bl _,_,h=>by unfold Rep at h ⊢;exact h
 | .int _,_,h=>by unfold Rep at h ⊢;exact h
 | .str _,_,h=>by unfold Rep at h ⊢;exact h
 | .ty _,_,h=>by unfold Rep at h ⊢;exact h
 | .cls _,_,h=>by unfold Rep at h ⊢;exact h
 | .tup ps,_,h=>by
   unfold Rep at h ⊢
   obtain⟨a,xs,h1,h2,h3⟩:=h
   exact⟨a,xs,h1,Same.tup e h2,ĝ.same e ps xs h3⟩
 | .lst ps,_,h=>by
   unfold Rep at h ⊢
   obtain⟨a,xs,h1,h2,h3⟩:=h
   exact⟨a,xs,h1,e.seq h2,ĝ.same e ps xs h3⟩
 | .ins C ns ps,_,h=>by
   unfold Rep at h ⊢
   obtain⟨a,dx,fs,h1,h2,h3,h4⟩:=h
   exact⟨a,dx,fs,h1,e _ _ h2,h3,ĝ.same e ps _ h4⟩
 | .xc C ns ps,_,h=>by
   unfold Rep at h ⊢
   obtain⟨a,d,fs,h1,h2,hd,h3,h4⟩:=h
   exact⟨a,d,fs,h1,e _ _ h2,hd.same e,h3,ĝ.same e ps _ h4⟩
theorem ĝ.same(e:Same F F'):∀(ps:List PV) (xs:List V),ĝ K F ps xs→ĝ K F' ps xs
 | [],_,h=>by unfold ĝ at h ⊢;exact h
 |p::ps,_,h=>by
  unfold ĝ at h ⊢
  obtain⟨x,r,h1,h2,h3⟩:=h
  exact⟨x,r,h1,Rep.same e p x h2,ĝ.same e ps r h3⟩
end
theorem ĝ.pr:∀{ps:List PV} {vs:List V},ĝ K F ps vs→Paired (Rep K F) ps vs
 | [],_,h=>by unfold ĝ at h;subst h;exact .nil
 |p::ps,_,h=>by
  unfold ĝ at h
  obtain⟨x,r,rfl,h2,h3⟩:=h
  exact .cons h2 (ĝ.pr h3)
theorem ĝ.of:∀{ps:List PV} {vs:List V},Paired (Rep K F) ps vs→ĝ K F ps vs
 | [],_,.nil=>by unfold ĝ;rfl
 |p::ps,_,.cons h t=>by unfold ĝ;exact⟨_,_,rfl,h,ĝ.of t⟩
theorem ĝ.nil:ĝ K F [] []:=ĝ.of .nil
theorem ĝ.cons{p:PV}{v:V}{ps:List PV}{vs:List V}(h:Rep K F p v)(t:ĝ K F ps vs):ĝ K F (p::ps) (v::vs):=ĝ.of (.cons h t.pr)
theorem ĝ.length{ps:List PV}{vs:List V}(h:ĝ K F ps vs):ps.length=vs.length:=Paired.length h.pr
theorem cM{α β:Type}{G:α→β→Prop}:∀{l:List α} {m:List β} {i:Nat} {x:α},Paired G l m→l[i]?=some x→∃y,m[i]?=some y∧G x y
 |_,_,_,_,.nil,e=>by simp at e
 |_,_,0,_,.cons r _,e=>by simp at e;subst e;exact⟨_,rfl,r⟩
 |_,_,i+1,x,.cons _ t,e=>by
  obtain⟨y,h1,h2⟩:=cM (i:=i) (x:=x) t (by simpa using e)
  exact⟨y,by simpa using h1,h2⟩
theorem H_{α β:Type}{G:α→β→Prop}:∀{l l2:List α} {m m2:List β},Paired G l m→Paired G l2 m2→Paired G (l++l2) (m++m2)
 |_,_,_,_,.nil,t=>t
 |_,_,_,_,.cons r s,t=>.cons r (H_ s t)
theorem Ia{α β:Type}{G:α→β→Prop}{x:α}{y:β}(r:G x y):∀{l:List α} {m:List β} (i:Nat),Paired G l m→Paired G (l.set i x) (m.set i y)
 |_,_,_,.nil=>.nil
 |_,_,0,.cons _ t=>.cons r t
 |_,_,i+1,.cons q t=>.cons q (Ia r i t)
theorem DK{α β:Type}{G:α→β→Prop}:∀{l:List α} {m:List β} (n:Nat),Paired G l m→Paired G (l.take n) (m.take n)
 |_,_,0,_=>.nil
 |_,_,_+1,.nil=>.nil
 |_,_,n+1,.cons r t=>.cons r (DK n t)
theorem DN{α β:Type}{G:α→β→Prop}:∀{l:List α} {m:List β} (n:Nat),Paired G l m→Paired G (l.drop n) (m.drop n)
 |_,_,0,h=>h
 |_,_,_+1,.nil=>.nil
 |_,_,n+1,.cons _ t=>DN n t
theorem ĝ.append{ps qs:List PV}{vs us:List V}(h:ĝ K F ps vs)(t:ĝ K F qs us):ĝ K F (ps++qs) (vs++us):=ĝ.of (H_ h.pr t.pr)
end
inductive Slot where
 |no|sh (p:PV)|ow (ps:List PV)|bw (ps:List PV)|rc (C:String) (ns:List Str) (ps:List PV)|ot (ps qs:List PV)
abbrev ŏ:=List Slot
def Slot.own:Slot→Bool
 | .ow _=>true
 | .rc _ _ _=>true
 | .ot _ _=>true
 |_=>false
structure Ctx where
 B:Hp
 F₀:Hp
 /-- what is lent here:read,never changed,never kept -/
 L:Hp
 /-- which objects may be held as one's own:address,dict,class -/
 S:Addr→Addr→String→Prop
def aX(K:KK)(c:Ctx)(F H:Hp)(o:Option V):Slot→Prop
 | .no=>True
 | .sh p=>∃v,o=some v∧Rep K F p v
 | .ow ps=>∃a vs,o=some (.ref a)∧H a=some (.lst vs)∧F a=none∧c.B a=none∧ĝ K F ps vs
 | .bw ps=>∃a vs,o=some (.ref a)∧c.L a=some (.lst vs)∧ĝ K F ps vs
 | .rc C ns ps=>∃a dx fs,o=some (.ref a)∧H a=some (.ins (K.cm C) dx fs)∧F a=none∧c.B a=none∧fs.map (·.1)=ns∧ĝ K F ps (fs.map (·.2))∧c.S a dx C
 | .ot ps qs=>∃p a xs vs,o=some (.ref p)∧F p=some (.tup (xs ++ [.ref a]))∧ĝ K F ps xs∧H a=some (.lst vs)∧F a=none∧c.B a=none∧ĝ K F qs vs
def Slot.at_(F:Hp)(x:V)(a:Addr):Slot→Prop
 | .ot _ _=>∃p xs,x=.ref p∧F p=some (.tup (xs ++ [.ref a]))
 | .ow _=>x=.ref a
 | .rc _ _ _=>x=.ref a
 |_=>False
def ś(F:Hp)(σ:L2.St)(ρ:ŏ)(i:Nat)(a:Addr):Prop:=∃s x,ρ[i]?=some s∧σ[i]?=some (some x)∧s.at_ F x a
structure Rel(K:KK)(c:Ctx)(F H:Hp)(σ:L2.St)(ρ:ŏ):Prop where
 sub:Same F H
 base:Same c.B H
 f0:Same c.F₀ F
 dB:∀a,c.B a≠none→c.F₀ a=none→F a=none
 lent:∀a u,c.L a=some u→H a=some u∧F a=none
 lb:∀a,c.B a=none→c.L a=none
 len:σ.length=ρ.length
 slot:∀(i:Nat) s,ρ[i]?=some s→aX K c F H ((σ[i]?).getD none) s
 sep:∀i j a,ś F σ ρ i a→ś F σ ρ j a→i=j
def lK(F:Hp)(σ:L2.St)(ρ:ŏ)(a:Addr):Prop:=∀i,¬ś F σ ρ i a
section
variable{K:KK}{c:Ctx}{F F' H H':Hp}{σ:L2.St}{ρ:ŏ}{a:Addr}{o:HO}
theorem jj{s:Slot}{x:V}(h:s.at_ F x a):s.own=true:=by
 cases s<;>first|rfl|exact h.elim
theorem Sq{s:Slot}{x:V}(e:Same F F')(h:s.at_ F x a):s.at_ F' x a:=by
 cases s with
 |ot ps qs=>obtain⟨p,xs,h1,h2⟩:=h;exact⟨p,xs,h1,e _ _ h2⟩
 |_=>exact h
theorem Aq{s:Slot}{x:V}{b:Addr}(h:s.at_ F x a)(h':s.at_ F x b):a=b:=by
 cases s with
 |ot ps qs=>
  obtain⟨p,xs,h1,h2⟩:=h
  obtain⟨q,ys,h3,h4⟩:=h'
  rw[h1] at h3
  cases h3
  rw[h2] at h4
  have e:xs ++ [V.ref a]=ys ++ [V.ref b]:=by
   injection h4 with h4
   injection h4
  have e2:=congrArg List.getLast? e
  simp at e2
  exact e2
 |ow ps=>rw[show x=.ref a from h] at h';cases h';rfl
 |rc C ns ps=>rw[show x=.ref a from h] at h';cases h';rfl
 |no=>exact h.elim
 |sh p=>exact h.elim
 |bw ps=>exact h.elim
theorem aX.grow{s:Slot}{x:Option V}(h:aX K c F H x s)(eF:Same F F')(eH:∀b vs,(∃y,x=some y∧s.at_ F y b)→H b=some vs→F b=none→c.B b=none→H' b=some vs∧F' b=none):aX K c F' H' x s:=by
 cases s with
 |no=>trivial
 |sh p=>obtain⟨v,h1,h2⟩:=h;exact⟨v,h1,h2.same eF p v⟩
 |ow ps=>
  obtain⟨b,vs,h1,h2,h3,h4,h5⟩:=h
  obtain⟨e1,e2⟩:=eH b _ ⟨_,h1,rfl⟩ h2 h3 h4
  exact⟨b,vs,h1,e1,e2,h4,h5.same eF ps vs⟩
 |bw ps=>obtain⟨b,vs,h1,h2,h3⟩:=h;exact⟨b,vs,h1,h2,h3.same eF ps vs⟩
 |rc C ns ps=>
  obtain⟨b,dx,fs,h1,h2,h3,h4,h5,h6⟩:=h
  obtain⟨e1,e2⟩:=eH b _ ⟨_,h1,rfl⟩ h2 h3 h4
  exact⟨b,dx,fs,h1,e1,e2,h4,h5,h6.1.same eF ps _,h6.2⟩
 |ot ps qs=>
  obtain⟨p,b,xs,vs,h1,h2,h3,h4,h5,h6,h7⟩:=h
  obtain⟨e1,e2⟩:=eH b _ ⟨_,h1,p,xs,rfl,h2⟩ h4 h5 h6
  exact⟨p,b,xs,vs,h1,eF _ _ h2,h3.same eF ps xs,e1,e2,h6,h7.same eF qs vs⟩
theorem aX.owned{s:Slot}{x:Option V}(h:aX K c F H x s)(hs:s.own=true):∃b u y,x=some y∧s.at_ F y b∧H b=some u∧F b=none∧c.B b=none:=by
 cases s with
 |no=>cases hs
 |sh p=>cases hs
 |bw ps=>cases hs
 |ow ps=>obtain⟨b,vs,h1,h2,h3,h4,h5⟩:=h;exact⟨b,_,_,h1,rfl,h2,h3,h4⟩
 |rc C ns ps=>obtain⟨b,dx,fs,h1,h2,h3,h4,h5,h6⟩:=h;exact⟨b,_,_,h1,rfl,h2,h3,h4⟩
 |ot ps qs=>obtain⟨p,b,xs,vs,h1,h2,h3,h4,h5,h6,h7⟩:=h;exact⟨b,_,_,h1,⟨p,xs,rfl,h2⟩,h4,h5,h6⟩
theorem gn{i:Nat}{x:V}(e:σ[i]?=some (some x)):(σ[i]?).getD none=some x:=by rw[e];rfl
theorem Ib{i:Nat}{x:V}(e:(σ[i]?).getD none=some x):σ[i]?=some (some x):=by
 cases q:σ[i]? with
 |none=>rw[q] at e;cases e
 |some y=>rw[q] at e;exact congrArg some e
theorem Rel.owned(r:Rel K c F H σ ρ){i:Nat}(h:ś F σ ρ i a):(∃u,H a=some u)∧F a=none∧c.B a=none:=by
 obtain⟨s,x,h1,h2,h3⟩:=h
 obtain⟨b,u,y,e,q0,q⟩:=(r.slot i s h1).owned (jj h3)
 rw[gn h2] at e
 cases e
 cases Aq h3 q0
 exact⟨⟨u,q.1⟩,q.2⟩
theorem Rel.back(r:Rel K c F H σ ρ)(e:Same F F'){i:Nat}(h:ś F' σ ρ i a):ś F σ ρ i a:=by
 obtain⟨s,x,h1,h2,h3⟩:=h
 obtain⟨b,u,y,e1,q0,q⟩:=(r.slot i s h1).owned (jj h3)
 rw[gn h2] at e1
 cases e1
 cases Aq h3 (Sq e q0)
 exact⟨s,x,h1,h2,q0⟩
theorem Rel.Z_(r:Rel K c F H σ ρ)(e:Same F F'):∀i j a,ś F' σ ρ i a→ś F' σ ρ j a→i=j:=fun i j a h1 h2=>r.sep i j a (r.back e h1) (r.back e h2)
theorem Rel.uw(r:Rel K c F H σ ρ)(e:Same F F')(h:lK F σ ρ a):lK F' σ ρ a:=fun i q=>h i (r.back e q)
theorem Rel.fresh(r:Rel K c F H σ ρ)(h:H a=none):lK F σ ρ a:=fun i q=>by
 obtain⟨⟨u,e⟩,_⟩:=r.owned q
 rw[h] at e;cases e
theorem Rel.alloc(r:Rel K c F H σ ρ)(h:H a=none):Rel K c (upd F a o) (upd H a o) σ ρ where
 sub:=fun b u e=>by
  by_cases hb:b=a
  ·subst hb;rw[Ĭ] at e ⊢;exact e
  ·rw[Ġ hb] at e ⊢;exact r.sub b u e
 base:=fun b u e=>by
  have hb:b≠a:=fun z=>by rw[z] at e;rw[r.base _ _ e] at h;cases h
  rw[Ġ hb];exact r.base b u e
 f0:=fun b u e=>by
   have hb:b≠a:=fun z=>by rw[z] at e;rw[r.sub _ _ (r.f0 _ _ e)] at h;cases h
   rw[Ġ hb];exact r.f0 b u e
 dB:=fun b h1 h2=>by
  have hb:b≠a:=fun z=>by
   subst z
   cases q:c.B b with
   |none=>exact h1 q
   |some u=>rw[r.base _ _ q] at h;cases h
  rw[Ġ hb];exact r.dB b h1 h2
 lent:=fun b u e=>by
  obtain⟨h1,h2⟩:=r.lent b u e
  have hb:b≠a:=fun z=>by rw[z,h] at h1;cases h1
  rw[Ġ hb,Ġ hb];exact⟨h1,h2⟩
 lb:=r.lb
 len:=r.len
 slot:=fun i s e=>by
  have hF:F a=none:=r.sub.free h
  refine(r.slot i s e).grow (Same.upd hF) fun b u _ h1 h2 h3=>?_
  have hb:b≠a:=fun z=>by rw[z,h] at h1;cases h1
  rw[Ġ hb,Ġ hb];exact⟨h1,h2⟩
 sep:=r.Z_ (Same.upd (r.sub.free h))
theorem Rel.made(r:Rel K c F H σ ρ)(h:H a=none):Rel K c F (upd H a o) σ ρ where
 sub:=r.sub.trans (Same.upd h)
 base:=r.base.trans (Same.upd h)
 f0:=r.f0
 dB:=r.dB
 lent:=fun b u e=>⟨Same.upd h b u (r.lent b u e).1,(r.lent b u e).2⟩
 lb:=r.lb
 len:=r.len
 slot:=fun i s e=>(r.slot i s e).grow (Same.refl F) fun b u _ h1 h2 h3=>⟨Same.upd h b u h1,h2⟩
 sep:=r.sep
theorem Rel.freeze(r:Rel K c F H σ ρ)(h:H a=some o)(hB:c.B a=none)(hF:F a=none)(hf:lK F σ ρ a):Rel K c (upd F a o) H σ ρ where
 sub:=fun b u e=>by
  by_cases hb:b=a
  ·subst hb;rw[Ĭ] at e;rw[h];exact e
  ·rw[Ġ hb] at e;exact r.sub b u e
 base:=r.base
 f0:=r.f0.trans (Same.upd hF)
 dB:=fun b h1 h2=>by
  have hb:b≠a:=fun z=>h1 (by rw[z];exact hB)
  rw[Ġ hb];exact r.dB b h1 h2
 lent:=fun b u e=>by
  have hb:b≠a:=fun z=>by rw[z,r.lb a hB] at e;cases e
  rw[Ġ hb];exact r.lent b u e
 lb:=r.lb
 len:=r.len
 slot:=fun i s e=>(r.slot i s e).grow (Same.upd hF) fun b' u' ⟨y,e1',ha⟩ h1 h2 h3=>by
  have hb:b'≠a:=fun z=>by
   subst z
   exact hf i ⟨s,y,e,Ib e1',ha⟩
  rw[Ġ hb];exact⟨h1,h2⟩
 sep:=r.Z_ (Same.upd hF)
theorem bR{α:Type}{l:List α}{i j:Nat}{x y:α}(h:(l.set i x)[j]?=some y):(j=i∧y=x∧i<l.length)∨(j≠i∧l[j]?=some y):=by
 by_cases hj:j=i
 ·subst hj
  have hl:j<l.length:=by
   have:=(List.getElem?_eq_some_iff.mp h).1
   simpa using this
  rw[List.getElem?_set_self hl] at h
  exact .inl ⟨rfl,(Option.some.inj h).symm,hl⟩
 ·rw[List.getElem?_set_ne (Ne.symm hj)] at h
  exact .inr ⟨hj,h⟩
theorem Ie{l:L2.St}{i:Nat}{x:Option V}(h:i<l.length):((l.set i x)[i]?).getD none=x:=by rw[List.getElem?_set_self h];rfl
theorem DP{l:L2.St}{i j:Nat}{x:Option V}(h:j≠i):((l.set i x)[j]?).getD none=(l[j]?).getD none:=by rw[List.getElem?_set_ne (Ne.symm h)]
theorem ś.off{i j:Nat}{x:Option V}{s:Slot}(h:ś F (σ.set i x) (ρ.set i s) j a)(hj:j≠i):ś F σ ρ j a:=by
 obtain⟨s',y,h1,h2,h3⟩:=h
 rw[List.getElem?_set_ne (Ne.symm hj)] at h1 h2
 exact⟨s',y,h1,h2,h3⟩
theorem Rel.put(r:Rel K c F H σ ρ){i:Nat}{x:Option V}{s:Slot}(hs:s.own=false)(h:aX K c F H x s):Rel K c F H (σ.set i x) (ρ.set i s) where
 sub:=r.sub
 base:=r.base
 f0:=r.f0
 dB:=r.dB
 lent:=r.lent
 lb:=r.lb
 len:=by simpa using r.len
 slot:=fun j s' e=>by
  rcases bR e with⟨rfl,rfl,hl⟩|⟨hj,e⟩
  ·rw[Ie (by rw[r.len];exact hl)];exact h
  ·rw[DP hj];exact r.slot j s' e
 sep:=fun j k b h1 h2=>by
  have off:∀{j},ś F (σ.set i x) (ρ.set i s) j b→j≠i:=fun{j} q z=>by
   subst z
   obtain⟨s',y,q1,_,q2⟩:=q
   rcases bR q1 with⟨_,rfl,_⟩|⟨q,_⟩
   ·have:=jj q2;rw[hs] at this;cases this
   ·exact q rfl
  exact r.sep j k b (h1.off (off h1)) (h2.off (off h2))
theorem Rel.Vj(r:Rel K c F H σ ρ){i:Nat}{s:Slot}(hs:s.own=false)(h:aX K c F H ((σ[i]?).getD none) s):Rel K c F H σ (ρ.set i s) where
 sub:=r.sub
 base:=r.base
 f0:=r.f0
 dB:=r.dB
 lent:=r.lent
 lb:=r.lb
 len:=by simpa using r.len
 slot:=fun j s' e=>by
  rcases bR e with⟨rfl,rfl,hl⟩|⟨hj,e⟩
  ·exact h
  ·exact r.slot j s' e
 sep:=fun j k b h1 h2=>by
  have off:∀{j},ś F σ (ρ.set i s) j b→ś F σ ρ j b:=fun{j} ⟨s',y,q1,q3,q2⟩=>by
   rcases bR q1 with⟨_,rfl,_⟩|⟨_,q⟩
   ·have:=jj q2;rw[hs] at this;cases this
   ·exact⟨s',y,q,q3,q2⟩
  exact r.sep j k b (off h1) (off h2)
theorem Rel.Ss(r:Rel K c F H σ ρ){i:Nat}{x:V}{s:Slot}(h:aX K c F H (some x) s)(ha:s.at_ F x a)(hf:lK F σ ρ a):Rel K c F H (σ.set i (some x)) (ρ.set i s) where
 sub:=r.sub
 base:=r.base
 f0:=r.f0
 dB:=r.dB
 lent:=r.lent
 lb:=r.lb
 len:=by simpa using r.len
 slot:=fun j s' e=>by
  rcases bR e with⟨rfl,rfl,hl⟩|⟨hj,e⟩
  ·rw[Ie (by rw[r.len];exact hl)];exact h
  ·rw[DP hj];exact r.slot j s' e
 sep:=fun j k b h1 h2=>by
  have Zaa:∀{j},ś F (σ.set i (some x)) (ρ.set i s) j b→(j=i∧b=a)∨(j≠i∧ś F σ ρ j b∧b≠a):=fun{j} q=>by
   by_cases hj:j=i
   ·subst hj
    obtain⟨s',y,q1,q2,q3⟩:=q
    rcases bR q2 with⟨_,e,_⟩|⟨z,_⟩
    ·cases e
     rcases bR q1 with⟨_,e,_⟩|⟨z,_⟩
     ·cases e
      exact .inl ⟨rfl,Aq q3 ha⟩
     ·exact absurd rfl z
    ·exact absurd rfl z
   ·exact .inr ⟨hj,q.off hj,fun z=>hf j (z▸q.off hj)⟩
  rcases Zaa h1 with⟨e1,z1⟩|⟨e1,o1,z1⟩
  ·rcases Zaa h2 with⟨e2,z2⟩|⟨e2,o2,z2⟩
   ·rw[e1,e2]
   ·exact absurd z1 z2
  ·rcases Zaa h2 with⟨e2,z2⟩|⟨e2,o2,z2⟩
   ·exact absurd z2 z1
   ·exact r.sep j k b o1 o2
theorem Rel.Zab(r:Rel K c F H σ ρ){i:Nat}{s:Slot}(ho:ś F σ ρ i a)(h:aX K c F (upd H a o) ((σ[i]?).getD none) s)(hs:∀x b,σ[i]?=some (some x)→s.at_ F x b→b=a):Rel K c F (upd H a o) σ (ρ.set i s) where
 sub:=fun b u e=>by
  have hb:b≠a:=fun z=>by rw[z,(r.owned ho).2.1] at e;cases e
  rw[Ġ hb];exact r.sub b u e
 base:=fun b u e=>by
  have hb:b≠a:=fun z=>by rw[z,(r.owned ho).2.2] at e;cases e
  rw[Ġ hb];exact r.base b u e
 f0:=r.f0
 dB:=r.dB
 lent:=fun b u e=>by
  have hb:b≠a:=fun z=>by rw[z,r.lb a (r.owned ho).2.2] at e;cases e
  rw[Ġ hb];exact r.lent b u e
 lb:=r.lb
 len:=by simpa using r.len
 slot:=fun j s' e=>by
  rcases bR e with⟨rfl,rfl,hl⟩|⟨hj,e⟩
  ·exact h
  ·refine(r.slot j s' e).grow (Same.refl F) fun b u ⟨y,e1,e2⟩ h1 h2 h3=>?_
   have hb:b≠a:=fun z=>by
    subst z
    exact hj (r.sep j i b ⟨s',y,e,Ib e1,e2⟩ ho)
   exact⟨by rw[Ġ hb];exact h1,h2⟩
 sep:=fun j k b h1 h2=>by
  have off:∀{j},ś F σ (ρ.set i s) j b→ś F σ ρ j b:=fun{j} ⟨s',y,q1,q3,q2⟩=>by
   rcases bR q1 with⟨e,rfl,_⟩|⟨_,q⟩
   ·subst e
    rw[hs y b q3 q2]
    exact ho
   ·exact⟨s',y,q,q3,q2⟩
  exact r.sep j k b (off h1) (off h2)
theorem Rel.write(r:Rel K c F H σ ρ){i:Nat}{s:Slot}(ho:ś F σ ρ i a)(hx:σ[i]?=some (some (.ref a)))(h:aX K c F (upd H a o) (some (.ref a)) s)(hs:∀b,s.at_ F (.ref a) b→b=a):Rel K c F (upd H a o) σ (ρ.set i s):=
 r.Zab ho (by rw[hx];exact h) fun x b e q=>by rw[hx] at e;cases e;exact hs b q
structure Gr(F H F' H':Hp):Prop where
 h:Same H H'
 f:Same F F'
 sub:Same F' H'
 out:∀a,H a≠none→F a=none→F' a=none
theorem Rel.call(r:Rel K c F H σ ρ)(g:Gr F H F' H'):Rel K c F' H' σ ρ where
 sub:=g.sub
 base:=r.base.trans g.h
 f0:=r.f0.trans g.f
 dB:=fun b h1 h2=>by
  refine g.out b (fun z=>h1 ?_) (r.dB b h1 h2)
  cases q:c.B b with
  |none=>rfl
  |some u=>rw[r.base _ _ q] at z;cases z
 lent:=fun b u e=>⟨g.h b u (r.lent b u e).1,g.out b (by rw[(r.lent b u e).1];intro z;cases z) (r.lent b u e).2⟩
 lb:=r.lb
 len:=r.len
 slot:=fun i s e=>(r.slot i s e).grow g.f fun b u _ h1 h2 h3=>⟨g.h b u h1,g.out b (by rw[h1];intro z;cases z) h2⟩
 sep:=r.Z_ g.f
def ctx0(F H:Hp):Ctx:=⟨H,F,fun a=>match F a with
 |none=>H a
 |some _=>none,fun _ _ _=>True⟩
theorem gq{a:Addr}{u:HO}(h:(ctx0 F H).L a=some u):H a=some u∧F a=none:=by
 unfold ctx0 at h
 dsimp only at h
 cases q:F a with
 |none=>rw[q] at h;exact⟨h,rfl⟩
 |some o=>rw[q] at h;cases h
theorem Rel.gr(r:Rel K (ctx0 F H) F' H' σ ρ):Gr F H F' H':=⟨r.base,r.f0,r.sub,r.dB⟩
def cN(K:KK)(F H:Hp):Slot→V→Prop
 | .sh p,v=>Rep K F p v
 | .bw ps,v=>∃a vs,v=.ref a∧H a=some (.lst vs)∧F a=none∧ĝ K F ps vs
 |_,_=>False
theorem cN.slot{s:Slot}{v:V}(h:cN K F H s v):aX K (ctx0 F H) F H (some v) s∧s.own=false:=by
 cases s with
 |sh p=>exact⟨⟨v,rfl,h⟩,rfl⟩
 |bw ps=>
  obtain⟨a,vs,rfl,h1,h2,h3⟩:=h
  refine⟨⟨a,vs,rfl,?_,h3⟩,rfl⟩
  show(match F a with|none=>H a|some _=>none)=_
  rw[h2]
  exact h1
 |no=>exact h.elim
 |ow ps=>exact h.elim
 |rc C ns ps=>exact h.elim
 |ot ps qs=>exact h.elim
def startP(n:Nat)(as:List Slot):ŏ:=as++List.replicate (n-as.length) .no
theorem Rel.start{N:List Str}{as:List Slot}{vs:List V}(s:Same F H)(h:Paired (cN K F H) as vs):Rel K (ctx0 F H) F H (L2.start N vs) (startP N.length as) where
 sub:=s
 base:=Same.refl H
 f0:=Same.refl F
 dB:=fun _ _ h=>h
 lent:=fun _ _ e=>gq e
 lb:=fun a e=>by
   cases q:(ctx0 F H).L a with
   |none=>rfl
   |some u=>
    have e':H a=none:=e
    rw[(gq q).1] at e'
    cases e'
 len:=by unfold L2.start startP;simp[Paired.length h]
 slot:=fun i s' e=>by
  unfold startP at e
  by_cases hi:i<as.length
  ·rw[List.getElem?_append_left hi] at e
   obtain⟨v,h1,h2⟩:=cM h e
   have hv:((L2.start N vs)[i]?).getD none=some v:=by
    unfold L2.start
    rw[List.getElem?_append_left (by simpa[←Paired.length h] using hi),List.getElem?_map,h1];rfl
   rw[hv]
   exact(cN.slot h2).1
  ·rw[List.getElem?_append_right (by omega),List.getElem?_replicate] at e
   split at e
   ·cases e;trivial
   ·cases e
 sep:=fun i j a h1 _=>by
  obtain⟨s',y,h1,_,h2⟩:=h1
  have h2:=jj h2
  exfalso
  unfold startP at h1
  by_cases hi:i<as.length
  ·rw[List.getElem?_append_left hi] at h1
   obtain⟨v,_,h3⟩:=cM h h1
   rw[(cN.slot h3).2] at h2
   cases h2
  ·rw[List.getElem?_append_right (by omega),List.getElem?_replicate] at h1
   split at h1
   ·cases h1;cases h2
   ·cases h1
end
structure PX where
 C:String
 ns:List Str
 ps:List PV
def Sv(K:KK)(F:Hp)(x:PX)(C:Value)(d:Option Addr):Prop:=C=.ref (K.cm x.C)∧∃fs,nY F d fs∧fs.map (·.1)=x.ns∧ĝ K F x.ps (fs.map (·.2))
inductive Res(α:Type) where
 |ok (a:α) (ρ:ŏ)|exc (x:PX) (ρ:ŏ)|bad
def Res.bind{α β:Type}(r:Res α)(f:α→ŏ→Res β):Res β:= match r with
 | .ok a ρ=>f a ρ
 | .exc x ρ=>.exc x ρ
 | .bad=>.bad
@[simp] theorem Res.aY{α β:Type}{a:α}{ρ:ŏ}{f:α→ŏ→Res β}:(Res.ok a ρ).bind f=f a ρ:= rfl
@[simp] theorem Res.Zdw{α β:Type}{x:PX}{ρ:ŏ}{f:α→ŏ→Res β}:(Res.exc x ρ:Res α).bind f=.exc x ρ:= rfl
@[simp] theorem Res.Zdx{α β:Type}{f:α→ŏ→Res β}:(Res.bad:Res α).bind f=.bad:=rfl
def Res.nF{α:Type}(o:Option α)(ρ:ŏ):Res α:= match o with
 |some a=>.ok a ρ
 |none=>.bad
@[simp] theorem Res.Zdy{α:Type}{a:α}{ρ:ŏ}:Res.nF (some a) ρ=.ok a ρ:= rfl
@[simp] theorem Res.Zdz{α:Type}{ρ:ŏ}:Res.nF (none:Option α) ρ=.bad:=rfl
abbrev M(α:Type):=ŏ→Res α
inductive RV where
 |sh (p:PV)|ow (ps:List PV)|ot (ps qs:List PV)
def RV.val:RV→PV
 | .sh p=>p
 | .ow ps=>.lst ps
 | .ot ps qs=>.tup (ps ++ [.lst qs])
def RV.slot:RV→Slot
 | .sh p=>.sh p
 | .ow ps=>.ow ps
 | .ot ps qs=>.ot ps qs
abbrev RR(α β:Type):=Ctx→L2.St→ŏ→Hp→Hp→α→β→Prop
def rV(K:KK):RR PV V:=fun _ _ _ F _ p v=>Rep K F p v
def DQ(K:KK)(F H:Hp)(p:PV)(v:V):Prop:=match p with
 | .lst ps=>∃a vs,v=.ref a∧H a=some (.lst vs)∧ĝ K F ps vs
 | .ins C ns ps=>∃a dx fs,v=.ref a∧H a=some (.ins (K.cm C) dx fs)∧fs.map (·.1)=ns∧ĝ K F ps (fs.map (·.2))
 |_=>False
def rR(K:KK):RR PV V:=fun _ _ _ F H p v=>Rep K F p v∨DQ K F H p v
def rA(K:KK):RR (List Slot) (List V):=fun _ _ _ F H as vs=>Paired (cN K F H) as vs
def Held(K:KK)(c:Ctx)(σ:L2.St)(ρ:ŏ)(F H:Hp)(ps:List PV)(v:V):Prop:=∃a vs,v=.ref a∧H a=some (.lst vs)∧F a=none∧c.B a=none∧lK F σ ρ a∧ĝ K F ps vs
def DR(K:KK)(c:Ctx)(σ:L2.St)(ρ:ŏ)(F H:Hp)(ps qs:List PV)(v:V):Prop:=∃p a xs vs,v=.ref p∧F p=some (.tup (xs ++ [.ref a]))∧ĝ K F ps xs∧H a=some (.lst vs)∧F a=none∧c.B a=none∧lK F σ ρ a∧ĝ K F qs vs
def rO(K:KK):RR RV V:=fun c σ ρ F H r v=>match r with
 | .sh p=>Rep K F p v
 | .ow ps=>Held K c σ ρ F H ps v
 | .ot ps qs=>DR K c σ ρ F H ps qs v
def rL(K:KK):RR (List PV) (List V):=fun _ _ _ F _ p v=>ĝ K F p v
def rRL(K:KK):RR (List PV) (List V):=fun c σ ρ F H p v=>Paired (rR K c σ ρ F H) p v
def rB:RR Bool Bool:=fun _ _ _ _ _ p v=>p=v
def rI:RR (Option Int) (Option Int):=fun _ _ _ _ _ p v=>p=v
def bJ{α β:Type}(K:KK)(E:L2.St→XK)(R:RR α β)(c:Ctx)(F H:Hp)(σ:L2.St)(Q:β→Hp→Prop):Res α→Prop
 | .ok p ρ'=>∀v F' H',Rel K c F' H' σ ρ'→Same F F'→Same H H'→R c σ ρ' F' H' p v→Q v H'
 | .exc x ρ'=>∀C d F' H',Rel K c F' H' σ ρ'→Same F F'→Sv K F' x C d→E σ C d H'
 | .bad=>False
def tG{α β:Type}(K:KK)(E:L2.St→XK)(R:RR α β)(m:M α):L2.St→Hp→(β→Hp→Prop)→Prop:=fun σ H Q=>∃c F ρ,Rel K c F H σ ρ∧bJ K E R c F H σ Q (m ρ)
section
variable{α β α' β':Type}{K:KK}{E:L2.St→XK}{R:RR α β}{R':RR α' β'}{c:Ctx}{F F1 H H1:Hp}{σ:L2.St}
theorem bJ.mono{Q:β→Hp→Prop}{r:Res α}(h:bJ K E R c F H σ Q r)(sF:Same F F1)(sH:Same H H1):bJ K E R c F1 H1 σ Q r:=by
 cases r with
 |ok p ρ'=>exact fun v F' H' rel s1 s2 q=>h v F' H' rel (sF.trans s1) (sH.trans s2) q
 |exc x ρ'=>exact fun C d F' H' rel s1 q=>h C d F' H' rel (sF.trans s1) q
 |bad=>exact h
theorem bJ.bind{Q:β→Hp→Prop}{Q':β'→Hp→Prop}{r:Res α}{f:α→ŏ→Res α'}(h:bJ K E R' c F H σ Q' (r.bind f))
 (k:∀p ρ1 v F1 H1,Rel K c F1 H1 σ ρ1→Same F F1→Same H H1→R c σ ρ1 F1 H1 p v→bJ K E R' c F1 H1 σ Q' (f p ρ1)→Q v H1):bJ K E R c F H σ Q r:=by
 cases r with
 |ok p ρ'=>exact fun v F' H' rel s1 s2 q=>k p ρ' v F' H' rel s1 s2 q (bJ.mono (show bJ K E R' c F H σ Q' (f p ρ') from h) s1 s2)
 |exc x ρ'=>exact h
 |bad=>exact h
theorem bJ.rel{R2:RR α β}{Q:β→Hp→Prop}{r:Res α}(h:bJ K E R c F H σ Q r)(k:∀p ρ' v F' H',Rel K c F' H' σ ρ'→R2 c σ ρ' F' H' p v→R c σ ρ' F' H' p v):bJ K E R2 c F H σ Q r:=by
 cases r with
 |ok p ρ'=>exact fun v F' H' rel s1 s2 q=>h v F' H' rel s1 s2 (k p ρ' v F' H' rel q)
 |exc x ρ'=>exact h
 |bad=>exact h
end
abbrev tV(K:KK)(E:L2.St→XK)(m:M PV):TE:=tG K E (rV K) m
abbrev tR(K:KK)(E:L2.St→XK)(m:M PV):TE:=tG K E (rR K) m
abbrev tO(K:KK)(E:L2.St→XK)(m:M RV):TE:=tG K E (rO K) m
abbrev tL(K:KK)(E:L2.St→XK)(m:M (List PV)):TA:=tG K E (rL K) m
abbrev tA(K:KK)(E:L2.St→XK)(m:M (List Slot)):TA:=tG K E (rA K) m
abbrev tRL(K:KK)(E:L2.St→XK)(m:M (List PV)):TA:=tG K E (rRL K) m
abbrev tB(K:KK)(E:L2.St→XK)(m:M Bool):TT:=tG K E rB m
inductive Fl where
 |nx|bk|ct|rt (r:RV)
def ŧ(K:KK)(E:L2.St→XK)(c:Ctx)(F:Hp)(D:Ends):Res Fl→Prop
 | .ok .nx ρ'=>∀σ' F' H',Rel K c F' H' σ' ρ'→Same F F'→D.nx σ' H'
 | .ok .bk ρ'=>∀σ' F' H',Rel K c F' H' σ' ρ'→Same F F'→D.bk σ' H'
 | .ok .ct ρ'=>∀σ' F' H',Rel K c F' H' σ' ρ'→Same F F'→D.ct σ' H'
 | .ok (.rt r) ρ'=>∀v σ' F' H',Rel K c F' H' σ' ρ'→Same F F'→rO K c σ' ρ' F' H' r v→D.rt v H'
 | .exc x ρ'=>∀σ' C d F' H',Rel K c F' H' σ' ρ'→Same F F'→Sv K F' x C d→E σ' C d H'
 | .bad=>False
def tS(K:KK)(E:L2.St→XK)(m:M Fl):TS:=fun D σ H=>∃c F ρ,Rel K c F H σ ρ∧ŧ K E c F D (m ρ)
section
variable{K:KK}{E:L2.St→XK}{c:Ctx}{F F1:Hp}{D:Ends}
theorem ŧ.mono{r:Res Fl}(h:ŧ K E c F D r)(sF:Same F F1):ŧ K E c F1 D r:=by
 cases r with
 |ok f ρ'=>
  cases f with
  |rt v=>exact fun v σ' F' H' rel s1 q=>h v σ' F' H' rel (sF.trans s1) q
  |nx=>exact fun σ' F' H' rel s1=>h σ' F' H' rel (sF.trans s1)
  |bk=>exact fun σ' F' H' rel s1=>h σ' F' H' rel (sF.trans s1)
  |ct=>exact fun σ' F' H' rel s1=>h σ' F' H' rel (sF.trans s1)
 |exc x ρ'=>exact fun σ' C d F' H' rel s1 q=>h σ' C d F' H' rel (sF.trans s1) q
 |bad=>exact h
theorem ŧ.bind{α β:Type}{R:RR α β}{σ:L2.St}{H:Hp}{Q:β→Hp→Prop}{r:Res α}{f:α→ŏ→Res Fl}(h:ŧ K E c F D (r.bind f))
 (k:∀p ρ1 v F1 H1,Rel K c F1 H1 σ ρ1→Same F F1→R c σ ρ1 F1 H1 p v→ŧ K E c F1 D (f p ρ1)→Q v H1):bJ K E R c F H σ Q r:=by
 cases r with
 |ok p ρ'=>exact fun v F' H' rel s1 s2 q=>k p ρ' v F' H' rel s1 q (ŧ.mono (show ŧ K E c F D (f p ρ') from h) s1)
 |exc x ρ'=>exact fun C d F' H' rel s1 q=>h σ C d F' H' rel s1 q
 |bad=>exact h
end
end P
namespace P
open PySem PySem.Spec PyProof.Rows L2 M2
def Ģ(i:Nat):M PV:=fun ρ=>match ρ[i]? with
 |some (.sh p)=>.ok p ρ
 |some (.ow ps)=>.ok (.lst ps) (ρ.set i (.sh (.lst ps)))
 |_=>.bad
def Ā(i:Nat):M PV:=fun ρ=>match ρ[i]? with
 |some (.sh p)=>.ok p ρ
 |some (.ow ps)=>.ok (.lst ps) ρ
 |some (.bw ps)=>.ok (.lst ps) ρ
 |some (.rc C ns ps)=>.ok (.ins C ns ps) ρ
 |_=>.bad
def dH(i:Nat):M RV:=fun ρ=>match ρ[i]? with
 |some (.sh p)=>.ok (.sh p) ρ
 |some (.ow ps)=>.ok (.ow ps) (ρ.set i .no)
 |_=>.bad
def mC(p:PV):M PV:=fun ρ=>.ok p ρ
def Ř(m:M PV):M RV:=fun ρ=>(m ρ).bind fun p ρ1=>.ok (.sh p) ρ1
def Ė(m:M RV):M PV:=fun ρ=>(m ρ).bind fun r ρ1=>.ok r.val ρ1
section
variable{K:KK}{c:Ctx}{F H:Hp}{σ:L2.St}{ρ:ŏ}
theorem at_of{i:Nat}{x:V}(h:(σ[i]?).getD none=some x):σ[i]?=some (some x):=by
 cases q:σ[i]? with
 |none=>rw[q] at h;cases h
 |some y=>rw[q] at h;exact congrArg some h
theorem Rel.ow(r:Rel K c F H σ ρ){i:Nat}{ps:List PV}(e:ρ[i]?=some (.ow ps)):∃a vs,σ[i]?=some (some (.ref a))∧H a=some (.lst vs)∧F a=none∧c.B a=none∧ĝ K F ps vs∧ś F σ ρ i a:=by
 obtain⟨a,vs,h1,h2,h3,h4,h5⟩:=r.slot i _ e
 exact⟨a,vs,at_of h1,h2,h3,h4,h5,⟨_,_,e,at_of h1,rfl⟩⟩
theorem Rel.move(r:Rel K c F H σ ρ){i:Nat}{a:Addr}(h:ś F σ ρ i a):Rel K c F H σ (ρ.set i .no)∧lK F σ (ρ.set i .no) a:=by
 refine⟨r.Vj rfl trivial,fun j ⟨s,y,q1,q3,q2⟩=>?_⟩
 rcases bR q1 with⟨_,rfl,_⟩|⟨hj,q⟩
 ·exact q2.elim
 ·exact hj (r.sep j i a ⟨s,y,q,q3,q2⟩ h)
theorem Rel.share(r:Rel K c F H σ ρ){i:Nat}{ps:List PV}(e:ρ[i]?=some (.ow ps)):∃a vs,σ[i]?=some (some (.ref a))∧F a=none∧Rep K (upd F a (.lst vs)) (.lst ps) (.ref a)∧Rel K c (upd F a (.lst vs)) H σ (ρ.set i (.sh (.lst ps))):=by
 obtain⟨a,vs,h1,h2,h3,h4,h5,ho⟩:=r.ow e
 obtain⟨m1,m2⟩:=r.move ho
 have rp:Rep K (upd F a (.lst vs)) (.lst ps) (.ref a):=by
  unfold Rep
  exact⟨a,vs,rfl,aJ.of Ĭ,h5.same (Same.upd h3) ps vs⟩
 have q:=(m1.freeze h2 h4 h3 m2).Vj (i:=i) (s:=.sh (.lst ps)) rfl (show aX K c _ H _ (.sh (.lst ps)) from⟨.ref a,by rw[h1];rfl,rp⟩)
 rw[List.set_set] at q
 exact⟨a,vs,h1,h3,rp,q⟩
theorem DQ.mono{F1 H1:Hp}{p:PV}{v:V}(h:DQ K F H p v)(sF:Same F F1)(sH:Same H H1):DQ K F1 H1 p v:=by
 cases p with
 |lst ps=>
  obtain⟨a,vs,h2,h3,h4⟩:=h
  exact⟨a,vs,h2,sH _ _ h3,h4.same sF ps vs⟩
 |ins C ns ps=>
  obtain⟨a,dx,fs,h2,h3,h4,h5⟩:=h
  exact⟨a,dx,fs,h2,sH _ _ h3,h4,h5.same sF ps _⟩
 |_=>exact h.elim
theorem rR.mono{c:Ctx}{σ:L2.St}{ρ ρ':ŏ}{F1 H1:Hp}{p:PV}{v:V}(h:rR K c σ ρ F H p v)(sF:Same F F1)(sH:Same H H1):rR K c σ ρ' F1 H1 p v:=by
 rcases h with h|h
 ·exact .inl (h.same sF p v)
 ·exact .inr (h.mono sF sH)
theorem rR.lst{c:Ctx}{σ:L2.St}{ρ:ŏ}{ps:List PV}{v:V}(s:Same F H)(h:rR K c σ ρ F H (.lst ps) v):∃a vs,v=.ref a∧aJ K.K H a vs∧ĝ K F ps vs:=by
 rcases h with h|⟨a,vs,h2,h3,h4⟩
 ·unfold Rep at h
  obtain⟨a,xs,h1,h2,h3⟩:=h
  exact⟨a,xs,h1,s.seq h2,h3⟩
 ·exact⟨a,vs,h2,aJ.of h3,h4⟩
theorem rR.tup{c:Ctx}{σ:L2.St}{ρ:ŏ}{ps:List PV}{v:V}(s:Same F H)(h:rR K c σ ρ F H (.tup ps) v):∃a vs,v=.ref a∧dD K.K H a vs∧ĝ K F ps vs:=by
 rcases h with h|h
 ·unfold Rep at h
  obtain⟨a,xs,h1,h2,h3⟩:=h
  exact⟨a,xs,h1,Same.tup s h2,h3⟩
 ·exact h.elim
theorem rR.int{c:Ctx}{σ:L2.St}{ρ:ŏ}{i:Int}{v:V}(h:rR K c σ ρ F H (.int i) v):v=.int i:=by
 rcases h with h|h
 ·unfold Rep at h;exact h
 ·exact h.elim
theorem rR.str{c:Ctx}{σ:L2.St}{ρ:ŏ}{i:Str}{v:V}(h:rR K c σ ρ F H (.str i) v):v=.str i:=by
 rcases h with h|h
 ·unfold Rep at h;exact h
 ·exact h.elim
theorem rR.bl{c:Ctx}{σ:L2.St}{ρ:ŏ}{i:Bool}{v:V}(h:rR K c σ ρ F H (.bl i) v):v=.bl i:=by
 rcases h with h|h
 ·unfold Rep at h;exact h
 ·exact h.elim
theorem rR.non{c:Ctx}{σ:L2.St}{ρ:ŏ}{v:V}(h:rR K c σ ρ F H .non v):v=.non:=by
 rcases h with h|h
 ·unfold Rep at h;exact h
 ·exact h.elim
theorem rR.ty{c:Ctx}{σ:L2.St}{ρ:ŏ}{n:String}{v:V}(h:rR K c σ ρ F H (.ty n) v):v=.ty n:=by
 rcases h with h|h
 ·unfold Rep at h;exact h
 ·exact h.elim
theorem Rep.int{i:Int}:Rep K F (.int i) (.int i):=by unfold Rep;rfl
theorem Rep.str{i:Str}:Rep K F (.str i) (.str i):=by unfold Rep;rfl
theorem Rep.bl{i:Bool}:Rep K F (.bl i) (.bl i):=by unfold Rep;rfl
theorem Rep.non:Rep K F .non .non:=by unfold Rep;rfl
end
section
variable{X:Cx}{cm:String→Addr}{E:L2.St→XK}{a b e:Expr}{es:List Expr}{pos:Pos}{m ma mb mc:M PV}{mo:M RV}
theorem PT.wk{t t':TT}(h:PT X e t)(i:∀σ H Q,t' σ H Q→t σ H Q):PT X e t':=fun pins s σ H Q I q=>h pins s σ H Q I (i σ H Q q)
theorem PA.wk{t t':TA}(h:PA X es t)(i:∀σ H Q,t' σ H Q→t σ H Q):PA X es t':=fun pos pins s σ H Q I q=>h pos pins s σ H Q I (i σ H Q q)
theorem PW.wk{t t':TT}(h:PW X e t)(i:∀σ H Q,t' σ H Q→t σ H Q):PW X e t':=fun wh pins s σ H Q I q=>h wh pins s σ H Q I (i σ H Q q)
theorem ju.wk{st:List Stmt}{t t':TS}(h:ju X st t)(i:∀D σ H,t' D σ H→t D σ H):ju X st t':=fun pins s σ H D I q=>h pins s σ H D I (i D σ H q)
theorem v_var(i:Nat){x:Str}{pos:Pos}(hN:X.N[i]?=some x:=by rfl)(hv:Gy X.env.scope x:=by first|exact Or.inl rfl|exact Or.inr (Or.inl rfl)|exact Or.inr (Or.inr rfl))(hd:(x== ("__debug__" :Str))=false:=by decide)
 (hcd:(x== ("__classdict__" :Str))=false:=by decide):PE X (.Name x pos) (tV (kk X cm) E (Ģ i)):=PE.wk (fW hN hv hd hcd) fun σ H Q ⟨c,F,ρ,rel,h⟩=>by
 unfold Ģ at h
 split at h
 ·rename_i p e
  obtain⟨v,h1,h2⟩:=rel.slot i _ e
  exact⟨v,at_of h1,h v F H rel (Same.refl F) (Same.refl H) h2⟩
 ·rename_i ps e
  obtain⟨a,vs,h1,h2,h3,h4⟩:=rel.share e
  exact⟨.ref a,h1,h _ _ H h4 (Same.upd h2) (Same.refl H) h3⟩
 ·exact h.elim
theorem Ă(i:Nat){x:Str}{pos:Pos}(hN:X.N[i]?=some x:=by rfl)(hv:Gy X.env.scope x:=by first|exact Or.inl rfl|exact Or.inr (Or.inl rfl)|exact Or.inr (Or.inr rfl))(hd:(x== ("__debug__" :Str))=false:=by decide)
 (hcd:(x== ("__classdict__" :Str))=false:=by decide):PE X (.Name x pos) (tR (kk X cm) E (Ā i)):=PE.wk (fW hN hv hd hcd) fun σ H Q ⟨c,F,ρ,rel,h⟩=>by
 unfold Ā at h
 split at h
 ·rename_i p e
  obtain⟨v,h1,h2⟩:=rel.slot i _ e
  exact⟨v,at_of h1,h v F H rel (Same.refl F) (Same.refl H) (.inl h2)⟩
 ·rename_i ps e
  obtain⟨a,vs,h1,h2,h3,h4,h5,_⟩:=rel.ow e
  exact⟨.ref a,h1,h _ F H rel (Same.refl F) (Same.refl H) (.inr ⟨a,vs,rfl,h2,h5⟩)⟩
 ·rename_i ps e
  obtain⟨a,vs,h1,h2,h3⟩:=rel.slot i _ e
  exact⟨.ref a,at_of h1,h _ F H rel (Same.refl F) (Same.refl H) (.inr ⟨a,vs,rfl,(rel.lent a _ h2).1,h3⟩)⟩
 ·rename_i C ns ps e
  obtain⟨a,dx,fs,h1,h2,h3,h4,h5,h6⟩:=rel.slot i _ e
  exact⟨.ref a,at_of h1,h _ F H rel (Same.refl F) (Same.refl H) (.inr ⟨a,dx,fs,rfl,h2,h5,h6.1⟩)⟩
 ·exact h.elim
theorem iK(i:Nat){x:Str}{pos:Pos}(hN:X.N[i]?=some x:=by rfl)(hv:Gy X.env.scope x:=by first|exact Or.inl rfl|exact Or.inr (Or.inl rfl)|exact Or.inr (Or.inr rfl))(hd:(x== ("__debug__" :Str))=false:=by decide)
 (hcd:(x== ("__classdict__" :Str))=false:=by decide):PE X (.Name x pos) (tO (kk X cm) E (dH i)):=PE.wk (fW hN hv hd hcd) fun σ H Q ⟨c,F,ρ,rel,h⟩=>by
 unfold dH at h
 split at h
 ·rename_i p e
  obtain⟨v,h1,h2⟩:=rel.slot i _ e
  exact⟨v,at_of h1,h v F H rel (Same.refl F) (Same.refl H) h2⟩
 ·rename_i ps e
  obtain⟨a,vs,h1,h2,h3,h4,h5,h6⟩:=rel.ow e
  obtain⟨m1,m2⟩:=rel.move h6
  exact⟨.ref a,h1,h _ F H m1 (Same.refl F) (Same.refl H) ⟨a,vs,rfl,h2,h3,h4,m2,h5⟩⟩
 ·exact h.elim
theorem DW{v:V}(p:PV)(h:PE X e (tC v))(hr:∀F,Rep (kk X cm) F p v:=by intro _;unfold Rep;rfl):PE X e (tV (kk X cm) E (mC p)):=PE.wk h fun σ H Q ⟨c,F,ρ,rel,h⟩=>h v F H rel (Same.refl F) (Same.refl H) (hr F)
theorem ă{i j pos}:PE X (.Constant (.int i) j pos) (tV (kk X cm) E (mC (.int i))):=DW _ Xw
theorem ux{i j pos}:PE X (.Constant (.bool i) j pos) (tV (kk X cm) E (mC (.bl i))):=DW _ Zc6
theorem gw{j pos}:PE X (.Constant .none j pos) (tV (kk X cm) E (mC .non)):=DW _ Xx
theorem Ů{x j pos}:PE X (.Constant (.str x) j pos) (tV (kk X cm) E (mC (.str x))):=DW _ Xy
theorem ā(h:PE X e (tV (kk X cm) E m)):PE X e (tR (kk X cm) E m):=PE.wk h fun σ H Q ⟨c,F,ρ,rel,h⟩=>⟨c,F,ρ,rel,h.rel fun _ _ _ _ _ _ q=>.inl q⟩
theorem Į(h:PE X e (tV (kk X cm) E m)):PE X e (tO (kk X cm) E (Ř m)):=PE.wk h fun σ H Q ⟨c,F,ρ,rel,h⟩=>⟨c,F,ρ,rel,h.bind fun p ρ1 v F1 H1 ę s1 s2 q h1=>h1 v F1 H1 ę (Same.refl _) (Same.refl _) q⟩
theorem Held.share{K:KK}{c:Ctx}{F H:Hp}{σ:L2.St}{ρ:ŏ}{ps:List PV}{v:V}(rel:Rel K c F H σ ρ)(h:Held K c σ ρ F H ps v):∃F1,Same F F1∧Rel K c F1 H σ ρ∧Rep K F1 (.lst ps) v:=by
 obtain⟨a,vs,rfl,h1,h2,h3,h4,h5⟩:=h
 refine⟨_,Same.upd h2,rel.freeze h1 h3 h2 h4,?_⟩
 unfold Rep
 exact⟨a,vs,rfl,aJ.of Ĭ,h5.same (Same.upd h2) ps vs⟩
theorem DR.share{K:KK}{c:Ctx}{F H:Hp}{σ:L2.St}{ρ:ŏ}{ps qs:List PV}{v:V}(rel:Rel K c F H σ ρ)(h:DR K c σ ρ F H ps qs v):∃F1,Same F F1∧Rel K c F1 H σ ρ∧Rep K F1 (.tup (ps ++ [.lst qs])) v:=by
 obtain⟨p,a,xs,vs,rfl,h0,hx,h1,h2,h3,h4,h5⟩:=h
 refine⟨_,Same.upd h2,rel.freeze h1 h3 h2 h4,?_⟩
 have ra:Rep K (upd F a (.lst vs)) (.lst qs) (.ref a):=by
  unfold Rep
  exact⟨a,vs,rfl,aJ.of Ĭ,h5.same (Same.upd h2) qs vs⟩
 unfold Rep
 exact⟨p,_,rfl,dD.of (Same.upd h2 _ _ h0),ĝ.append (hx.same (Same.upd h2) ps xs) (ĝ.cons ra ĝ.nil)⟩
theorem Ě(h:PE X e (tO (kk X cm) E mo)):PE X e (tV (kk X cm) E (Ė mo)):=PE.wk h fun σ H Q ⟨c,F,ρ,rel,h⟩=>⟨c,F,ρ,rel,h.bind fun r ρ1 v F1 H1 ę s1 s2 q h1=>by
 cases r with
 |sh p=>exact h1 v F1 H1 ę (Same.refl _) (Same.refl _) q
 |ow ps=>
  obtain⟨F2,s3,Ŋ,rp⟩:=Held.share ę q
  exact h1 v F2 H1 Ŋ s3 (Same.refl _) rp
 |ot ps qs=>
  obtain⟨F2,s3,Ŋ,rp⟩:=DR.share ę q
  exact h1 v F2 H1 Ŋ s3 (Same.refl _) rp⟩
def Ĉ(f:PV→PV→Option PV)(ma mb:M PV):M PV:=fun ρ=>(ma ρ).bind fun p ρ1=>(mb ρ1).bind fun q ρ2=>Res.nF (f p q) ρ2
def ł(f:PV→PV→Option RV)(ma mb:M PV):M RV:=fun ρ=>(ma ρ).bind fun p ρ1=>(mb ρ1).bind fun q ρ2=>Res.nF (f p q) ρ2
def jB(K:KK)(r:R2)(f:PV→PV→Option PV):Prop:=∀{c:Ctx} {F H:Hp} {σ:L2.St} {ρ:ŏ} {p q pv:PV} {v u:V} {Q:VK},Rel K c F H σ ρ→rR K c σ ρ F H p v→rR K c σ ρ F H q u→f p q=some pv→
 (∀z F' H',Rel K c F' H' σ ρ→Same F F'→Same H H'→Rep K F' pv z→Q z H')→r v u H Q
def OpO(K:KK)(r:R2)(f:PV→PV→Option RV):Prop:=∀{c:Ctx} {F H:Hp} {σ:L2.St} {ρ:ŏ} {p q:PV} {pv:RV} {v u:V} {Q:VK},Rel K c F H σ ρ→rR K c σ ρ F H p v→rR K c σ ρ F H q u→f p q=some pv→
 (∀z F' H',Rel K c F' H' σ ρ→Same F F'→Same H H'→rO K c σ ρ F' H' pv z→Q z H')→r v u H Q
theorem DX{r:R2}{f:PV→PV→Option PV}(hf:jB (kk X cm) r f){σ:L2.St}{H:Hp}{Q:VK}(h:tV (kk X cm) E (Ĉ f ma mb) σ H Q):tOp r (tR (kk X cm) E ma) (tR (kk X cm) E mb) σ H Q:=by
 obtain⟨c,F,ρ,rel,h⟩:=h
 refine⟨c,F,ρ,rel,h.bind fun p ρ1 v F1 H1 ę _ _ r1 h1=>⟨c,F1,ρ1,ę,h1.bind fun q ρ2 u F2 H2 Ŋ sF sH r2 h2=>?_⟩⟩
 cases e:f p q with
 |none=>rw[e] at h2;exact h2.elim
 |some pv=>rw[e] at h2;exact hf Ŋ (r1.mono sF sH) r2 e fun z F' H' bV s1 s2 q'=>h2 z F' H' bV s1 s2 q'
theorem ZdA{r:R2}{f:PV→PV→Option RV}(hf:OpO (kk X cm) r f){σ:L2.St}{H:Hp}{Q:VK}(h:tO (kk X cm) E (ł f ma mb) σ H Q):tOp r (tR (kk X cm) E ma) (tR (kk X cm) E mb) σ H Q:=by
 obtain⟨c,F,ρ,rel,h⟩:=h
 refine⟨c,F,ρ,rel,h.bind fun p ρ1 v F1 H1 ę _ _ r1 h1=>⟨c,F1,ρ1,ę,h1.bind fun q ρ2 u F2 H2 Ŋ sF sH r2 h2=>?_⟩⟩
 cases e:f p q with
 |none=>rw[e] at h2;exact h2.elim
 |some pv=>rw[e] at h2;exact hf Ŋ (r1.mono sF sH) r2 e fun z F' H' bV s1 s2 q'=>h2 z F' H' bV s1 s2 q'
theorem đ{op:Operator}{r:R2}{f:PV→PV→Option PV}(hf:jB (kk X cm) r f)(ho:aC X (binaryOp op) r)(ha:PE X a (tR (kk X cm) E ma))(hb:PE X b (tR (kk X cm) E mb)):PE X (.BinOp a op b pos) (tV (kk X cm) E (Ĉ f ma mb)):=PE.wk (Ve ho ha hb) fun _ _ _ h=>DX hf h
theorem Ň{op:Operator}{r:R2}{f:PV→PV→Option RV}(hf:OpO (kk X cm) r f)(ho:aC X (binaryOp op) r)(ha:PE X a (tR (kk X cm) E ma))(hb:PE X b (tR (kk X cm) E mb)):PE X (.BinOp a op b pos) (tO (kk X cm) E (ł f ma mb)):=PE.wk (Ve ho ha hb) fun _ _ _ h=>ZdA hf h
theorem fC{op:CmpOp}{r:R2}{f:PV→PV→Option PV}(hf:jB (kk X cm) r f)(ho:aC X (compareOp op) r)(ha:PE X a (tR (kk X cm) E ma))(hb:PE X b (tR (kk X cm) E mb))(hm:behindInMarks op b=false):PE X (.Compare a [op] [b] pos) (tV (kk X cm) E (Ĉ f ma mb)):=
 PE.wk (Rz ho ha hb hm) fun _ _ _ h=>DX hf h
theorem ħ{r:R2}{f:PV→PV→Option PV}(hf:jB (kk X cm) r f)(hr:Al X r)(ha:PE X a (tR (kk X cm) E ma))(hb:PE X b (tR (kk X cm) E mb))(hs:Du b):PE X (.Subscript a b pos) (tV (kk X cm) E (Ĉ f ma mb)):=
 PE.wk (Zdj hr ha hb hs) fun _ _ _ h=>DX hf h
def jr(f:PV→Option PV)(ma:M PV):M PV:=fun ρ=>(ma ρ).bind fun p ρ1=>Res.nF (f p) ρ1
def UnV(K:KK)(r:V→Hp→VK→Prop)(f:PV→Option PV):Prop:=∀{c:Ctx} {F H:Hp} {σ:L2.St} {ρ:ŏ} {p pv:PV} {v:V} {Q:VK},Rel K c F H σ ρ→rR K c σ ρ F H p v→f p=some pv→
 (∀z F' H',Rel K c F' H' σ ρ→Same F F'→Same H H'→Rep K F' pv z→Q z H')→r v H Q
theorem wK{op:UnaryOp}{r:V→Hp→VK→Prop}{f:PV→Option PV}(hf:UnV (kk X cm) r f)(ho:Rw X (unaryOp op) r)(ha:PE X a (tR (kk X cm) E ma)):PE X (.UnaryOp op a pos) (tV (kk X cm) E (jr f ma)):=PE.wk (Zdd ho ha) fun σ H Q ⟨c,F,ρ,rel,h⟩=>
 ⟨c,F,ρ,rel,h.bind fun p ρ1 v F1 H1 ę _ _ r1 h1=>by
   cases e:f p with
   |none=>rw[e] at h1;exact h1.elim
   |some pv=>rw[e] at h1;exact hf ę r1 e fun z F' H' bV s1 s2 q'=>h1 z F' H' bV s1 s2 q'⟩
def tru:PV→Option Bool
 | .bl b=>some b
 | .int i=>some (i != 0)
 | .non=>some false
 | .str y=>if y.length≤sizeLine then some ((y.length:Int) != 0) else none
 | .lst ps=>some (!ps.isEmpty)
 | .tup ps=>some (!ps.isEmpty)
 |_=>none
def cR(m:M PV):M Bool:=fun ρ=>(m ρ).bind fun p ρ1=>Res.nF (tru p) ρ1
theorem ZdB{K:KK}{c:Ctx}{F H:Hp}{σ:L2.St}{ρ:ŏ}{p:PV}{v:V}{k:Bool}(s:Same F H)(r:rR K c σ ρ F H p v)(h:tru p=some k):Yp K.K v H k:=by
 cases p with
 |bl b=>cases r.bl;cases h;rfl
 |int i=>cases r.int;cases h;rfl
 |non=>cases r.non;cases h;rfl
 |str y=>
  cases r.str
  have h':(if y.length≤sizeLine then some ((y.length:Int) != 0) else none)=some k:=h
  split at h'
  ·rename_i hy;cases h';exact⟨hy,rfl⟩
  ·cases h'
 |lst ps=>
  obtain⟨a,vs,rfl,h1,h2⟩:=r.lst s
  cases h
  have e:ps.isEmpty=vs.isEmpty:=by cases h2.pr<;>rfl
  exact .inl ⟨vs,h1,by rw[e]⟩
 |tup ps=>
  obtain⟨a,vs,rfl,h1,h2⟩:=r.tup s
  cases h
  have e:ps.isEmpty=vs.isEmpty:=by cases h2.pr<;>rfl
  exact .inr (.inl ⟨vs,h1,by rw[e]⟩)
 |ins C ns ps=>cases h
 |xc C ns ps=>cases h
 |ty n=>cases h
 |cls C=>cases h
theorem aZ(ha:PE X a (tR (kk X cm) E ma))(he:∀whole,isTrue a X.env whole=(do let v ←whole;standAt a.pos;holding [v] (truthy v)):=by intro _;rfl):PT X a (tB (kk X cm) E (cR ma)):=PT.wk (Hg ha he) fun σ H Q ⟨c,F,ρ,rel,h⟩=>
 ⟨c,F,ρ,rel,h.bind fun p ρ1 v F1 H1 ę _ _ r1 h1=>by
   cases e:tru p with
   |none=>rw[e] at h1;exact h1.elim
   |some k=>rw[e] at h1;exact⟨k,ZdB ę.sub r1 e,h1 k F1 H1 ę (Same.refl _) (Same.refl _) rfl⟩⟩
def dF(m:M PV):M Bool:=fun ρ=>(m ρ).bind fun p ρ1=>match p with
 | .bl b=>.ok b ρ1
 |_=>.bad
theorem ZdC{σ:L2.St}{H:Hp}{Q:Bool→Hp→Prop}(h:tB (kk X cm) E (dF m) σ H Q):M2.Vg (tV (kk X cm) E m) σ H Q:=by
 obtain⟨c,F,ρ,rel,h⟩:=h
 refine⟨c,F,ρ,rel,h.bind fun p ρ1 v F1 H1 ę _ _ r1 h1=>?_⟩
 cases p with
 |bl b=>
  have e:v=.bl b:=by have r1':Rep (kk X cm) F1 (.bl b) v:=r1;unfold Rep at r1';exact r1'
  subst e
  exact h1 b F1 H1 ę (Same.refl _) (Same.refl _) rfl
 |_=>exact h1.elim
theorem ŕ{op:CmpOp}{r:R2}{f:PV→PV→Option PV}(hf:jB (kk X cm) r f)(ho:aC X (compareOp op) r)(ha:PE X a (tR (kk X cm) E ma))(hb:PE X b (tR (kk X cm) E mb))(hm:behindInMarks op b=false):PT X (.Compare a [op] [b] pos) (tB (kk X cm) E (dF (Ĉ f ma mb))):=
 PT.wk (YG ho ha hb hm) fun σ H Q h=>by
   obtain⟨c,F,ρ,rel,h⟩:=ZdC h
   exact DX hf ⟨c,F,ρ,rel,h⟩
def uy(f g:PV→PV→Option PV)(ma mb mc:M PV):M PV:=fun ρ=>(ma ρ).bind fun p ρ1=>(mb ρ1).bind fun q ρ2=>(Res.nF (f p q) ρ2).bind fun z ρ3=>match z with
 | .bl true=>(mc ρ3).bind fun w ρ4=>Res.nF (g q w) ρ4
 | .bl false=>.ok (.bl false) ρ3
 |_=>.bad
theorem ZdD{r r':R2}{f g:PV→PV→Option PV}(hf:jB (kk X cm) r f)(hg:jB (kk X cm) r' g){σ:L2.St}{H:Hp}{Q:VK}(h:tV (kk X cm) E (uy f g ma mb mc) σ H Q):M2.Hv r r' (tR (kk X cm) E ma) (tR (kk X cm) E mb) (tR (kk X cm) E mc) σ H Q:=by
 obtain⟨c,F,ρ,rel,h⟩:=h
 refine⟨c,F,ρ,rel,h.bind fun p ρ1 v F1 H1 ę _ _ r1 h1=>⟨c,F1,ρ1,ę,h1.bind fun q ρ2 u F2 H2 Ŋ sF sH r2 h2=>?_⟩⟩
 cases e:f p q with
 |none=>rw[e] at h2;exact h2.elim
 |some pv=>
  rw[e] at h2
  refine hf Ŋ (r1.mono sF sH) r2 e fun z F' H' bV s1 s2 q'=>?_
  cases pv with
  |bl k=>
   have ez:z=.bl k:=by unfold Rep at q';exact q'
   subst ez
   cases k with
   |false=>exact h2 _ F' H' bV s1 s2 q'
   |true=>
    refine⟨c,F',ρ2,bV,bJ.bind (bJ.mono h2 s1 s2) fun w ρ4 x F4 H4 wL s3 s4 r4 h4=>?_⟩
    cases e':g q w with
    |none=>rw[e'] at h4;exact h4.elim
    |some pv'=>rw[e'] at h4;exact hg wL (r2.mono (s1.trans s3) (s2.trans s4)) r4 e' fun z F' H' bV s1 s2 q'=>h4 z F' H' bV s1 s2 q'
  |_=>exact h2.elim
theorem qY{op op':CmpOp}{r r':R2}{f g:PV→PV→Option PV}{c:Expr}(hf:jB (kk X cm) r f)(hg:jB (kk X cm) r' g)(ho:aC X (compareOp op) r)(ho':aC X (compareOp op') r')(ha:PE X a (tR (kk X cm) E ma))(hb:PE X b (tR (kk X cm) E mb))(hc:PE X c (tR (kk X cm) E mc))
 (hm:lastMarks [op,op'] [b,c]=false:=by with_unfolding_all rfl):PE X (.Compare a [op,op'] [b,c] pos) (tV (kk X cm) E (uy f g ma mb mc)):=PE.wk (Hw ho ho' ha hb hc hm) fun _ _ _ h=>ZdD hf hg h
def dI(m:M Bool):M Bool:=fun ρ=>(m ρ).bind fun b ρ1=>.ok (!b) ρ1
theorem iM{m:M Bool}(h:PT X a (tB (kk X cm) E m)):PT X (.UnaryOp .Not a pos) (tB (kk X cm) E (dI m)):=PT.wk (XD h) fun σ H Q ⟨c,F,ρ,rel,h⟩=>
 ⟨c,F,ρ,rel,h.bind fun p ρ1 v F1 H1 ę _ _ r1 h1=>h1 _ F1 H1 ę (Same.refl _) (Same.refl _) (by have e:p=v:=r1;rw[e];rfl)⟩
def iQ(ma mb:M Bool):M Bool:=fun ρ=>(ma ρ).bind fun b ρ1=>if b=true then mb ρ1 else .ok false ρ1
def Sw(ma mb:M Bool):M Bool:=fun ρ=>(ma ρ).bind fun b ρ1=>if b=true then .ok true ρ1 else mb ρ1
variable{ta tb:M Bool}{rest:List Expr}
theorem gA(h:PT X a (tB (kk X cm) E ta)):PW X (.BoolOp .And [a] pos) (tB (kk X cm) E ta):=Rq h
theorem Vk(h:PT X a (tB (kk X cm) E ta)):PW X (.BoolOp .Or [a] pos) (tB (kk X cm) E ta):=Xz h
theorem w_and(ha:PT X a (tB (kk X cm) E ta))(hb:PW X (.BoolOp .And (b::rest) pos) (tB (kk X cm) E tb)):PW X (.BoolOp .And (a::b::rest) pos) (tB (kk X cm) E (iQ ta tb)):=PW.wk (XC ha hb) fun σ H Q ⟨c,F,ρ,rel,h⟩=>
 ⟨c,F,ρ,rel,h.bind fun p ρ1 v F1 H1 ę _ _ r1 h1=>by
   have e:p=v:=r1
   subst e
   cases p with
   |true=>exact⟨c,F1,ρ1,ę,h1⟩
   |false=>exact h1 false F1 H1 ę (Same.refl _) (Same.refl _) rfl⟩
theorem w_or(ha:PT X a (tB (kk X cm) E ta))(hb:PW X (.BoolOp .Or (b::rest) pos) (tB (kk X cm) E tb)):PW X (.BoolOp .Or (a::b::rest) pos) (tB (kk X cm) E (Sw ta tb)):=PW.wk (Zc7 ha hb) fun σ H Q ⟨c,F,ρ,rel,h⟩=>
 ⟨c,F,ρ,rel,h.bind fun p ρ1 v F1 H1 ę _ _ r1 h1=>by
   have e:p=v:=r1
   subst e
   cases p with
   |false=>exact⟨c,F1,ρ1,ę,h1⟩
   |true=>exact h1 true F1 H1 ę (Same.refl _) (Same.refl _) rfl⟩
def eV(ma mb:M PV):M PV:=fun ρ=>(ma ρ).bind fun p ρ1=>match p with
 | .bl true=>mb ρ1
 | .bl false=>.ok (.bl false) ρ1
 |_=>.bad
def mOr(ma mb:M PV):M PV:=fun ρ=>(ma ρ).bind fun p ρ1=>match p with
 | .bl true=>.ok (.bl true) ρ1
 | .bl false=>mb ρ1
 |_=>.bad
def Ig(ma:M PV):M PV:=fun ρ=>(ma ρ).bind fun p ρ1=>match p with
 | .bl b=>.ok (.bl (!b)) ρ1
 |_=>.bad
theorem uz{K:KK}{F:Hp}{b:Bool}{v:V}(h:Rep K F (.bl b) v):v=.bl b:=by unfold Rep at h;exact h
theorem iR{op}(h:PE X a (tV (kk X cm) E ma)):PE X (.BoolOp op [a] pos) (tV (kk X cm) E ma):=XF h
theorem v_and(ha:PE X a (tV (kk X cm) E ma))(hb:PE X (.BoolOp .And (b::rest) pos) (tV (kk X cm) E mb)):PE X (.BoolOp .And (a::b::rest) pos) (tV (kk X cm) E (eV ma mb)):=PE.wk (YH ha hb) fun σ H Q ⟨c,F,ρ,rel,h⟩=>
 ⟨c,F,ρ,rel,h.bind fun p ρ1 v F1 H1 ę _ _ r1 h1=>by
   cases p with
   |bl k=>
    cases uz r1
    cases k with
    |true=>exact⟨c,F1,ρ1,ę,h1⟩
    |false=>exact h1 _ F1 H1 ę (Same.refl _) (Same.refl _) r1
   |_=>exact h1.elim⟩
theorem v_not(ha:PE X a (tV (kk X cm) E ma)):PE X (.UnaryOp .Not a pos) (tV (kk X cm) E (Ig ma)):=PE.wk (YJ ha) fun σ H Q ⟨c,F,ρ,rel,h⟩=>
 ⟨c,F,ρ,rel,h.bind fun p ρ1 v F1 H1 ę _ _ r1 h1=>by
   cases p with
   |bl k=>
    cases uz r1
    exact h1 _ F1 H1 ę (Same.refl _) (Same.refl _) Rep.bl
   |_=>exact h1.elim⟩
def cU{α:Type}(t:M Bool)(ma mb:M α):M α:= fun ρ=>(t ρ).bind fun b ρ1=>if b=true then ma ρ1 else mb ρ1
def Ĝ:M (List PV):=fun ρ=>.ok [] ρ
def Ą(ma:M PV)(mr:M (List PV)):M (List PV):=fun ρ=>(ma ρ).bind fun p ρ1=>(mr ρ1).bind fun ps ρ2=>.ok (p::ps) ρ2
variable{mr:M (List PV)}
theorem ĥ:PA X [] (tL (kk X cm) E Ĝ):=PA.wk jg fun σ H Q ⟨c,F,ρ,rel,h⟩=>h [] F H rel (Same.refl _) (Same.refl _) ĝ.nil
theorem ć(ha:PE X e (tV (kk X cm) E ma))(hr:PA X es (tL (kk X cm) E mr))(hs:starEach (e::es) X.env=(false,eval e X.env)::starEach es X.env:=by exact ı rfl):PA X (e::es) (tL (kk X cm) E (Ą ma mr)):=PA.wk (cB ha hr hs) fun σ H Q ⟨c,F,ρ,rel,h⟩=>
 ⟨c,F,ρ,rel,h.bind fun p ρ1 v F1 H1 ę _ _ r1 h1=>⟨c,F1,ρ1,ę,h1.bind fun ps ρ2 vs F2 H2 Ŋ sF sH r2 h2=>h2 _ F2 H2 Ŋ (Same.refl _) (Same.refl _) (ĝ.cons (Rep.same sF p v r1) r2)⟩⟩
theorem ķ:PA X [] (tRL (kk X cm) E Ĝ):=PA.wk jg fun σ H Q ⟨c,F,ρ,rel,h⟩=>h [] F H rel (Same.refl _) (Same.refl _) .nil
theorem ģ(ha:PE X e (tR (kk X cm) E ma))(hr:PA X es (tRL (kk X cm) E mr))(hs:starEach (e::es) X.env=(false,eval e X.env)::starEach es X.env:=by exact ı rfl):PA X (e::es) (tRL (kk X cm) E (Ą ma mr)):=PA.wk (cB ha hr hs) fun σ H Q ⟨c,F,ρ,rel,h⟩=>
 ⟨c,F,ρ,rel,h.bind fun p ρ1 v F1 H1 ę _ _ r1 h1=>⟨c,F1,ρ1,ę,h1.bind fun ps ρ2 vs F2 H2 Ŋ sF sH r2 h2=>h2 _ F2 H2 Ŋ (Same.refl _) (Same.refl _) (.cons (rR.mono r1 sF sH) r2)⟩⟩
def ď:M (List Slot):=fun ρ=>.ok [] ρ
def ė(ma:M PV)(mr:M (List Slot)):M (List Slot):=fun ρ=>(ma ρ).bind fun p ρ1=>(mr ρ1).bind fun as ρ2=>.ok (.sh p::as) ρ2
def dJ:Slot→Option Slot
 | .sh p=>some (.sh p)
 | .ow ps=>some (.bw ps)
 | .bw ps=>some (.bw ps)
 |_=>none
def ą(i:Nat)(mr:M (List Slot)):M (List Slot):=fun ρ=>match(ρ[i]?).bind dJ with
 |none=>.bad
 |some _=>(mr ρ).bind fun as ρ2=>match(ρ2[i]?).bind dJ with
  |some s=>.ok (s::as) ρ2
  |none=>.bad
variable{ms:M (List Slot)}
theorem Ď:PA X [] (tA (kk X cm) E ď):=PA.wk jg fun σ H Q ⟨c,F,ρ,rel,h⟩=>h [] F H rel (Same.refl _) (Same.refl _) .nil
theorem Ę(ha:PE X e (tV (kk X cm) E ma))(hr:PA X es (tA (kk X cm) E ms))(hs:starEach (e::es) X.env=(false,eval e X.env)::starEach es X.env:=by exact ı rfl):PA X (e::es) (tA (kk X cm) E (ė ma ms)):=PA.wk (cB ha hr hs) fun σ H Q ⟨c,F,ρ,rel,h⟩=>
 ⟨c,F,ρ,rel,h.bind fun p ρ1 v F1 H1 ę _ _ r1 h1=>⟨c,F1,ρ1,ę,h1.bind fun as ρ2 vs F2 H2 Ŋ sF sH r2 h2=>h2 _ F2 H2 Ŋ (Same.refl _) (Same.refl _) (.cons (show cN _ _ _ (.sh p) v from Rep.same sF p v r1) r2)⟩⟩
theorem DY{K:KK}{c:Ctx}{F H:Hp}{σ:L2.St}{ρ:ŏ}{i:Nat}{s:Slot}(rel:Rel K c F H σ ρ)(h:(ρ[i]?).bind dJ=some s):∃v,σ[i]?=some (some v)∧cN K F H s v:=by
 cases e:ρ[i]? with
 |none=>rw[e] at h;cases h
 |some sl=>
  rw[e] at h
  have h':dJ sl=some s:=h
  cases sl with
  |sh p=>
   cases h'
   obtain⟨v,h1,h2⟩:=rel.slot i _ e
   exact⟨v,at_of h1,h2⟩
  |ow ps=>
   cases h'
   obtain⟨a,vs,h1,h2,h3,h4,h5,_⟩:=rel.ow e
   exact⟨.ref a,h1,a,vs,rfl,h2,h3,h5⟩
  |bw ps=>
   cases h'
   obtain⟨a,vs,h1,h2,h3⟩:=rel.slot i _ e
   exact⟨.ref a,at_of h1,a,vs,rfl,(rel.lent a _ h2).1,(rel.lent a _ h2).2,h3⟩
  |no=>cases h'
  |rc C ns ps=>cases h'
  |ot ps qs=>cases h'
theorem Ć(i:Nat){x:Str}{px:Pos}(hN:X.N[i]?=some x:=by rfl)(hv:Gy X.env.scope x:=by first|exact Or.inl rfl|exact Or.inr (Or.inl rfl)|exact Or.inr (Or.inr rfl))(hd:(x== ("__debug__" :Str))=false:=by decide)
 (hcd:(x== ("__classdict__" :Str))=false:=by decide)(hr:PA X es (tA (kk X cm) E ms))(hs:starEach (.Name x px::es) X.env=(false,eval (.Name x px) X.env)::starEach es X.env:=by exact ı rfl):PA X (.Name x px::es) (tA (kk X cm) E (ą i ms)):=
 PA.wk (cB (fW hN hv hd hcd) hr hs) fun σ H Q ⟨c,F,ρ,rel,h⟩=>by
   unfold ą at h
   cases e:(ρ[i]?).bind dJ with
   |none=>rw[e] at h;exact h.elim
   |some s0=>
    rw[e] at h
    obtain⟨v,hv,_⟩:=DY rel e
    refine⟨v,hv,c,F,ρ,rel,bJ.bind h fun as ρ2 vs F2 H2 Ŋ sF sH r2 h2=>?_⟩
    cases e2:(ρ2[i]?).bind dJ with
    |none=>simp only[e2] at h2;exact h2.elim
    |some s=>
     simp only[e2] at h2
     obtain⟨v',hv',r1⟩:=DY Ŋ e2
     rw[hv] at hv'
     cases hv'
     exact h2 _ F2 H2 Ŋ (Same.refl _) (Same.refl _) (.cons r1 r2)
def Ś(mr:M (List PV)):M PV:=fun ρ=>(mr ρ).bind fun ps ρ1=>if ps.length≤16777216 then .ok (.tup ps) ρ1 else .bad
def bM(mr:M (List PV)):M RV:=fun ρ=>(mr ρ).bind fun ps ρ1=>if ps.length≤16777216 then .ok (.ow ps) ρ1 else .bad
theorem Ŏ:sizeLine=16777216:=sizeLine_eq
theorem Ō{x1}(h:PA X es (tL (kk X cm) E mr)):PE X (.Tuple es x1 pos) (tV (kk X cm) E (Ś mr)):=PE.wk (Yt h) fun σ H Q ⟨c,F,ρ,rel,h⟩=>
 ⟨c,F,ρ,rel,h.bind fun ps ρ1 vs F1 H1 ę _ _ r1 h1=>by
   split at h1
   ·rename_i hz
    refine⟨by rw[←ĝ.length r1,Ŏ];exact hz,fun p hp=>h1 _ _ _ (ę.alloc hp) (Same.upd (ę.sub.free hp)) (Same.upd hp) ?_⟩
    show Rep _ _ _ _
    unfold Rep
    exact⟨p,vs,rfl,dD.of Ĭ,ĝ.same (Same.upd (ę.sub.free hp)) ps vs r1⟩
   ·exact h1.elim⟩
theorem gB{K:KK}{c:Ctx}{F H:Hp}{σ:L2.St}{ρ:ŏ}{ps:List PV}{vs:List V}{a:Addr}(rel:Rel K c F H σ ρ)(ha:H a=none)(r:ĝ K F ps vs):Rel K c F (upd H a (.lst vs)) σ ρ∧Held K c σ ρ F (upd H a (.lst vs)) ps (.ref a):=
 ⟨rel.made ha,a,vs,rfl,Ĭ,rel.sub.free ha,rel.base.free ha,rel.fresh ha,r⟩
theorem ů(h:PA X es (tL (kk X cm) E mr)):PE X (.List es pos) (tO (kk X cm) E (bM mr)):=PE.wk (Yu h) fun σ H Q ⟨c,F,ρ,rel,h⟩=>
 ⟨c,F,ρ,rel,h.bind fun ps ρ1 vs F1 H1 ę _ _ r1 h1=>by
   split at h1
   ·rename_i hz
    refine⟨by rw[←ĝ.length r1,Ŏ];exact hz,fun p hp=>?_⟩
    obtain⟨q1,q2⟩:=gB ę hp r1
    exact h1 _ _ _ q1 (Same.refl _) (Same.upd hp) q2
   ·exact h1.elim⟩
def dM(f:List PV→Option PV)(mr:M (List PV)):M PV:=fun ρ=>(mr ρ).bind fun ps ρ1=>Res.nF (f ps) ρ1
def nZ(f:List PV→Option RV)(mr:M (List PV)):M RV:=fun ρ=>(mr ρ).bind fun ps ρ1=>Res.nF (f ps) ρ1
def dN(K:KK)(r:List V→Hp→VK→Prop)(f:List PV→Option PV):Prop:=∀{c:Ctx} {F H:Hp} {σ:L2.St} {ρ:ŏ} {ps:List PV} {pv:PV} {vs:List V} {Q:VK},Rel K c F H σ ρ→rRL K c σ ρ F H ps vs→f ps=some pv→
 (∀z F' H',Rel K c F' H' σ ρ→Same F F'→Same H H'→Rep K F' pv z→Q z H')→r vs H Q
def Vl(K:KK)(r:List V→Hp→VK→Prop)(f:List PV→Option RV):Prop:=∀{c:Ctx} {F H:Hp} {σ:L2.St} {ρ:ŏ} {ps:List PV} {pv:RV} {vs:List V} {Q:VK},Rel K c F H σ ρ→rRL K c σ ρ F H ps vs→f ps=some pv→
 (∀z F' H',Rel K c F' H' σ ρ→Same F F'→Same H H'→rO K c σ ρ F' H' pv z→Q z H')→r vs H Q
theorem ź{r:List V→Hp→VK→Prop}{f:List PV→Option PV}(hf:dN (kk X cm) r f){σ:L2.St}{H:Hp}{Q:VK}(h:tV (kk X cm) E (dM f mr) σ H Q):tCB r (tRL (kk X cm) E mr) σ H Q:=by
 obtain⟨c,F,ρ,rel,h⟩:=h
 refine⟨c,F,ρ,rel,h.bind fun p ρ1 v F1 H1 ę _ _ r1 h1=>?_⟩
 cases e:f p with
 |none=>rw[e] at h1;exact h1.elim
 |some pv=>rw[e] at h1;exact hf ę r1 e fun z F' H' bV s1 s2 q'=>h1 z F' H' bV s1 s2 q'
theorem wM{r:List V→Hp→VK→Prop}{f:List PV→Option RV}(hf:Vl (kk X cm) r f){σ:L2.St}{H:Hp}{Q:VK}(h:tO (kk X cm) E (nZ f mr) σ H Q):tCB r (tRL (kk X cm) E mr) σ H Q:=by
 obtain⟨c,F,ρ,rel,h⟩:=h
 refine⟨c,F,ρ,rel,h.bind fun p ρ1 v F1 H1 ę _ _ r1 h1=>?_⟩
 cases e:f p with
 |none=>rw[e] at h1;exact h1.elim
 |some pv=>rw[e] at h1;exact hf ę r1 e fun z F' H' bV s1 s2 q'=>h1 z F' H' bV s1 s2 q'
end
end P
namespace P
open PySem PySem.Spec PyProof.Rows L2 M2 M3
def dO:M Fl:=fun ρ=>.ok .nx ρ
def mBk:M Fl:=fun ρ=>.ok .bk ρ
def mCt:M Fl:=fun ρ=>.ok .ct ρ
def Ğ(a b:M Fl):M Fl:=fun ρ=>(a ρ).bind fun f ρ1=>match f with
 | .nx=>b ρ1
 |f=>.ok f ρ1
def Ĵ(i:Nat)(m:M RV):M Fl:=fun ρ=>(m ρ).bind fun r ρ1=>.ok .nx (ρ1.set i r.slot)
def ĳ(m:M RV):M Fl:=fun ρ=>(m ρ).bind fun r ρ1=>.ok (.rt r) ρ1
def ZdE:M Fl:=fun ρ=>.ok (.rt (.sh .non)) ρ
def wN(m:M PV):M Fl:=fun ρ=>(m ρ).bind fun _ ρ1=>.ok .nx ρ1
section
variable{X:Cx}{cm:String→Addr}{E:L2.St→XK}{a b e:Expr}{st:Stmt}{rest:List Stmt}{es:List Expr}{pos:Pos}{m1 m2:M Fl}{mo:M RV}{mv:M PV}
theorem Ŀ:ju X [] (tS (kk X cm) E dO):=ju.wk Dm fun D σ H ⟨c,F,ρ,rel,h⟩=>h σ F H rel (Same.refl F)
theorem Č(h:PS X st (tS (kk X cm) E m1)):ju X [st] (tS (kk X cm) E m1):=Rr h
theorem Sx{c:Ctx}{F:Hp}{D:Ends}{r:Res Fl}(h:ŧ (kk X cm) E c F D (r.bind fun f ρ1=>match f with| .nx=>m2 ρ1|f=>.ok f ρ1)):ŧ (kk X cm) E c F {D with nx:=tS (kk X cm) E m2 D} r:=by
 cases r with
 |ok f ρ1=>
  cases f with
  |nx=>exact fun σ' F' H' bV s=>⟨c,F',ρ1,bV,ŧ.mono h s⟩
  |bk=>exact h
  |ct=>exact h
  |rt v=>exact h
 |exc x ρ1=>exact h
 |bad=>exact h
theorem Ċ(h1:PS X st (tS (kk X cm) E m1))(h2:ju X rest (tS (kk X cm) E m2)):ju X (st::rest) (tS (kk X cm) E (Ğ m1 m2)):=ju.wk (wC h1 h2) fun D σ H ⟨c,F,ρ,rel,h⟩=>⟨c,F,ρ,rel,Sx h⟩
theorem Ī{i:Nat}{x:Str}{pos':Pos}(hN:X.N.Nodup)(hi:X.N[i]?=some x)(hx:Loc X.env.scope x)(he:PE X e (tO (kk X cm) E mo))(hs:swapsWith e (some (.Name x pos')) pos.line X.env=pure false:=by rfl)(hf:X.fn x=true∨X.env.scope.names.lookup x=some .local:=by first|exact .inl rfl|exact .inr rfl|assumption) :
 PS X (.Assign [.Name x pos'] e pos) (tS (kk X cm) E (Ĵ i mo)):=PS.wk (XQ hN hi hx he hs hf) fun D σ H ⟨c,F,ρ,rel,h⟩=>⟨c,F,ρ,rel,ŧ.bind h fun r ρ1 v F1 H1 ę s1 q h1=>by
 cases r with
 |sh p=>exact h1 _ F1 H1 (ę.put rfl ⟨v,rfl,q⟩) (Same.refl _)
 |ow ps=>
  obtain⟨a,vs,rfl,q1,q2,q3,q4,q5⟩:=q
  exact h1 _ F1 H1 (ę.Ss ⟨a,vs,rfl,q1,q2,q3,q5⟩ rfl q4) (Same.refl _)
 |ot ps qs=>
  obtain⟨p,a,xs,vs,rfl,q0,qx,q1,q2,q3,q4,q5⟩:=q
  exact h1 _ F1 H1 (ę.Ss (s:=.ot ps qs) ⟨p,a,xs,vs,rfl,q0,qx,q1,q2,q3,q5⟩ ⟨p,xs,rfl,q0⟩ q4) (Same.refl _)⟩
theorem Ĥ(he:PE X e (tO (kk X cm) E mo)):PS X (.Return (some e) pos) (tS (kk X cm) E (ĳ mo)):=PS.wk (XH he) fun D σ H ⟨c,F,ρ,rel,h⟩=>⟨c,F,ρ,rel,ŧ.bind h fun r ρ1 v F1 H1 ę s1 q h1=>h1 v σ F1 H1 ę (Same.refl _) q⟩
theorem Ar(he:PE X e (tV (kk X cm) E mv))(hs:swapsWith e none pos.line X.env=pure false:=by rfl):PS X (.Expr e pos) (tS (kk X cm) E (wN mv)):=PS.wk (cA he hs) fun D σ H ⟨c,F,ρ,rel,h⟩=>⟨c,F,ρ,rel,ŧ.bind h fun r ρ1 v F1 H1 ę s1 q h1=>h1 σ F1 H1 ę (Same.refl _)⟩
theorem Ũ{t:M Bool}{ss ss':List Stmt}(hc:PT X a (tB (kk X cm) E t))(ha:ju X ss (tS (kk X cm) E m1))(hb:ju X ss' (tS (kk X cm) E m2)):PS X (.If a ss ss' pos) (tS (kk X cm) E (cU t m1 m2)):=PS.wk (Zc9 hc ha hb) fun D σ H ⟨c,F,ρ,rel,h⟩=>⟨c,F,ρ,rel,ŧ.bind h fun r ρ1 v F1 H1 ę s1 q h1=>by
 have e:r=v:=q
 subst e
 cases r with
 |true=>exact⟨c,F1,ρ1,ę,h1⟩
 |false=>exact⟨c,F1,ρ1,ę,h1⟩⟩
def ZkX{α:Type}:M α:= fun _=>.bad
abbrev Tg:=PV→ŏ→Option ŏ
abbrev GC:=List PV→ŏ→Option ŏ
def ZdF(K:KK)(c:Ctx)(F H:Hp)(Q:L2.St→Hp→Prop):Option ŏ→Prop
 |some ρ'=>∀σ',Rel K c F H σ' ρ'→Q σ' H
 |none=>False
def tT(K:KK)(g:Tg):TG:=fun v σ H Q=>∃c F ρ p,Rel K c F H σ ρ∧Rep K F p v∧ZdF K c F H Q (g p ρ)
def tTs(K:KK)(g:GC):GQ:=fun v σ H Q=>∃c F ρ p,Rel K c F H σ ρ∧ĝ K F p v∧ZdF K c F H Q (g p ρ)
def gN(i:Nat):Tg:=fun p ρ=>some (ρ.set i (.sh p))
def Ŭ:GC:=fun ps ρ=>match ps with
 | []=>some ρ
 |_=>none
def Ħ(g:Tg)(gs:GC):GC:=fun ps ρ=>match ps with
 |p::ps=>(g p ρ).bind fun ρ1=>gs ps ρ1
 | []=>none
def gT(n:Nat)(gs:GC):Tg:=fun p ρ=>match p with
 | .tup ps=>if ps.length=n then gs ps ρ else none
 |_=>none
theorem PG.wk'{tg:Expr}{t t':TG}(h:PG X tg t)(i:∀v σ H Q,t' v σ H Q→t v σ H Q):PG X tg t':=fun pins s σ H v u Q I r q=>h pins s σ H v u Q I r (i v σ H Q q)
theorem zY.wk{tg:List Expr}{t t':GQ}(h:zY X tg t)(i:∀v σ H Q,t' v σ H Q→t v σ H Q):zY X tg t':=fun pins s σ H v u Q I r q=>h pins s σ H v u Q I r (i v σ H Q q)
theorem Ĩ{i:Nat}{x:Str}(hN:X.N.Nodup)(hi:X.N[i]?=some x)(hx:Loc X.env.scope x)(hf:X.fn x=true∨X.env.scope.names.lookup x=some .local:=by first|exact .inl rfl|exact .inr rfl|assumption):PG X (.Name x pos) (tT (kk X cm) (gN i)):=
 PG.wk' (Rt hN hi hx hf) fun v σ H Q ⟨c,F,ρ,p,rel,rp,h⟩=>h _ (rel.put rfl ⟨v,rfl,rp⟩)
theorem eX:zY X [] (tTs (kk X cm) Ŭ):=zY.wk Ru fun v σ H Q ⟨c,F,ρ,p,rel,rp,h⟩=>by
 cases p with
 |nil=>
  have e:v=[]:=by have:=rp;unfold ĝ at this;exact this
  exact⟨e,h σ rel⟩
 |cons _ _=>exact h.elim
theorem Œ{es:List Expr}{g:Tg}{gs:GC}(h1:PG X e (tT (kk X cm) g))(h2:zY X es (tTs (kk X cm) gs))(hs:(assignEach (e::es) X.env).map (·.2)=assign e X.env::(assignEach es X.env).map (·.2):=by rfl):zY X (e::es) (tTs (kk X cm) (Ħ g gs)):=
 zY.wk (GR h1 h2 hs) fun v σ H Q ⟨c,F,ρ,p,rel,rp,h⟩=>by
  cases p with
  |nil=>exact h.elim
  |cons p ps=>
   unfold ĝ at rp
   obtain⟨x,r,rfl,r1,r2⟩:=rp
   refine⟨x,r,rfl,c,F,ρ,p,rel,r1,?_⟩
   unfold Ħ at h
   dsimp only at h
   cases eg:g p ρ with
   |none=>rw[eg] at h;exact h.elim
   |some ρ1=>rw[eg] at h;exact fun σ' bV=>⟨c,F,ρ1,ps,bV,r2,h⟩
theorem n_{es:List Expr}{k:Nat}{gs:GC}{n:Nat}(hc:X.calm=true)(h:zY X es (tTs (kk X cm) gs))(hn:(assignEach es X.env).length=n:=by rfl)(hst:(assignEach es X.env).findIdx? (·.1)=none:=by rfl):PG X (.Tuple es k pos) (tT (kk X cm) (gT n gs)):=
 PG.wk' (GX hc h hn hst) fun v σ H Q ⟨c,F,ρ,p,rel,rp,h⟩=>by
   cases p with
   |tup ps=>
    unfold Rep at rp
    obtain⟨a,xs,h1,h2,h3⟩:=rp
    unfold gT at h
    dsimp only at h
    split at h
    ·rename_i hl
     exact⟨a,xs,h1,Same.tup rel.sub h2,by rw[←h3.length];exact hl,c,F,ρ,ps,rel,h3,h⟩
    ·exact h.elim
   |_=>exact h.elim
def Sy(g:Tg)(m:M PV):M Fl:=fun ρ=>(m ρ).bind fun p ρ1=>match g p ρ1 with
 |some ρ2=>.ok .nx ρ2
 |none=>.bad
theorem Vm{tg:Expr}{g:Tg}(he:PE X e (tV (kk X cm) E mv))(hg:PG X tg (tT (kk X cm) g))(hs:swapsWithSole [tg] e pos.line X.env=pure false:=by rfl)(hw:swappedStores [tg] e X.env=pure none:=by rfl)
 (h1:(assignEach [tg] X.env).map (·.2)=[assign tg X.env]:=by rfl):PS X (.Assign [tg] e pos) (tS (kk X cm) E (Sy g mv)):=PS.wk (GZ he hg hs hw h1) fun D σ H ⟨c,F,ρ,rel,h⟩=>⟨c,F,ρ,rel,ŧ.bind h fun r ρ1 v F1 H1 ę s1 q h1=>by
 refine⟨c,F1,ρ1,r,ę,q,?_⟩
 cases eg:g r ρ1 with
 |none=>rw[eg] at h1;exact h1.elim
 |some ρ2=>rw[eg] at h1;exact fun σ' bV=>h1 σ' F1 H1 bV (Same.refl _)⟩
def ZkY(i j:Nat)(mr:M (List PV)):M Fl:=fun ρ=>(mr ρ).bind fun ps ρ1=>match ps with
 | [p,q]=>.ok .nx ((ρ1.set i (.sh p)).set j (.sh q))
 |_=>.bad
def Av(i:Nat)(mi:M PV)(m:M PV):M Fl:=fun ρ=>(m ρ).bind fun p ρ1=>match ρ1[i]? with
 |some (.ow _)=>(mi ρ1).bind fun q ρ2=>match ρ2[i]?,q with
  |some (.ow ps),.int k=>match Gz ps.length k with
   |some j=>.ok .nx (ρ2.set i (.ow (ps.set j p)))
   |none=>.bad
  |_,_=>.bad
 |_=>.bad
theorem SJ{i:Nat}{x:Str}{ix:Expr}{mi:M PV}{px Aw:Pos}(he:PE X e (tV (kk X cm) E mv))(hi:PE X ix (tV (kk X cm) E mi))(ho:PE X (.Name x px) (t_ i))
 (hsub:∀v,assign (.Subscript (.Name x px) ix Aw) X.env v=(do
   let ov ←holding [v] (eval (.Name x px) X.env)
   let iv ←holding [v,ov] (eval ix X.env)
   standAt Aw
   holding [v,ov,iv] (setItem ov iv v)
   release [v,ov,iv] []):=by intro _;rfl)
 (hs:swapsWithSole [.Subscript (.Name x px) ix Aw] e pos.line X.env=pure false:=by rfl)(hw:swappedStores [.Subscript (.Name x px) ix Aw] e X.env=pure none:=by rfl)
 (h1:(assignEach [.Subscript (.Name x px) ix Aw] X.env).map (·.2)=[assign (.Subscript (.Name x px) ix Aw) X.env]:=by rfl) :
 PS X (.Assign [.Subscript (.Name x px) ix Aw] e pos) (tS (kk X cm) E (Av i mi mv)):=PS.wk (GZ he (XM ho hi set_list hsub) hs hw h1) fun D σ H ⟨c,F,ρ,rel,h⟩=>⟨c,F,ρ,rel,ŧ.bind h fun p ρ1 v F1 H1 ę s1 q h1=>by
 cases e1:ρ1[i]? with
 |none=>rw[e1] at h1;exact h1.elim
 |some sl=>
  rw[e1] at h1
  cases sl with
  |ow ps0=>
   obtain⟨a,vs0,z1,_,_,_,_,_⟩:=ę.ow e1
   refine⟨.ref a,z1,c,F1,ρ1,ę,ŧ.bind h1 fun q' ρ2 u F2 H2 Ŋ s2 r2 h2=>?_⟩
   cases e2:ρ2[i]? with
   |none=>rw[e2] at h2;exact h2.elim
   |some sl2=>
    rw[e2] at h2
    cases sl2 with
    |ow ps=>
     cases q' with
     |int k=>
      have eu:u=.int k:=by have:Rep (kk X cm) F2 (.int k) u:=r2;unfold Rep at this;exact this
      subst eu
      dsimp only at h2
      obtain⟨a2,vs,w1,w2,w3,w4,w5,w6⟩:=Ŋ.ow e2
      rw[z1] at w1
      cases w1
      cases ej:Gz ps.length k with
      |none=>rw[ej] at h2;exact h2.elim
      |some j=>
       rw[ej] at h2
       refine⟨a,vs,k,j,rfl,rfl,w2,by rw[←w5.length];exact ej,h2 σ F2 _ (Ŋ.write w6 z1 ⟨a,vs.set j v,rfl,Ĭ,w3,w4,?_⟩ fun _ z=>(V.ref.inj z).symm) (Same.refl _)⟩
       exact ĝ.of (Ia (Rep.same s2 p v q) j w5.pr)
     |_=>exact h2.elim
    |_=>exact h2.elim
  |_=>exact h1.elim⟩
def uD(i:Nat)(m:M PV):M Fl:=fun ρ=>match ρ[i]? with
 |some (.ow _)=>(m ρ).bind fun p ρ1=>match ρ1[i]? with
  |some (.ow ps)=>if ps.length<16777216 then .ok .nx (ρ1.set i (.ow (ps ++ [p]))) else .bad
  |_=>.bad
 |_=>.bad
theorem g_{i:Nat}{D:Ends}{σ:L2.St}{H:Hp}(h:tS (kk X cm) E (uD i mv) D σ H):GP (tBM X.K "list" Dv (t_ i) (tL (kk X cm) E (Ą mv Ĝ))) D σ H:=by
 obtain⟨c,F,ρ,rel,h⟩:=h
 unfold uD at h
 cases e1:ρ[i]? with
 |none=>rw[e1] at h;exact h.elim
 |some sl=>
  rw[e1] at h
  cases sl with
  |ow ps0=>
   obtain⟨a,vs0,z1,z2,z3,z4,z5,z6⟩:=rel.ow e1
   refine⟨.ref a,z1,.inl ⟨rfl,_,aJ.of z2⟩,c,F,ρ,rel,?_⟩
   dsimp only at h
   unfold Ą
   cases em:mv ρ with
   |bad=>rw[em] at h;exact h
   |exc x ρ1=>rw[em] at h;exact fun C d F' H' bV s1 q=>h σ C d F' H' bV s1 q
   |ok p ρ1=>
    rw[em] at h
    intro us F1 H1 ę s1 s2 r1
    have r1':ĝ (kk X cm) F1 [p] us:=r1
    cases r1'.pr with
    |cons rp t=>
     rename_i v vs'
     cases t
     cases e2:ρ1[i]? with
     |none=>simp only[Res.aY,e2] at h;exact h.elim
     |some sl2=>
      simp only[Res.aY,e2] at h
      cases sl2 with
      |ow ps=>
       obtain⟨a2,vs,w1,w2,w3,w4,w5,w6⟩:=ę.ow e2
       rw[z1] at w1
       cases w1
       dsimp only at h
       split at h
       ·rename_i hz
        refine⟨a,vs,v,rfl,rfl,w2,by rw[←w5.length,Ŏ];exact hz,h σ F1 _ (ę.write w6 z1 ⟨a,vs ++ [v],rfl,Ĭ,w3,w4,ĝ.append w5 (ĝ.cons rp ĝ.nil)⟩ fun _ z=>(V.ref.inj z).symm) s1⟩
       ·exact h.elim
      |_=>exact h.elim
  |_=>exact h.elim
def Ń(mc:M Bool)(mb:M Fl):Nat→ŏ→Res Fl
 |0,_=>.bad
 |n+1,ρ=>(mc ρ).bind fun b ρ1=>if b=true then(mb ρ1).bind fun f ρ2=>match f with
  | .nx=>Ń mc mb n ρ2
  | .ct=>Ń mc mb n ρ2
  | .bk=>.ok .nx ρ2
  | .rt r=>.ok (.rt r) ρ2 else .ok .nx ρ1
theorem Ż{mc:M Bool}{mb:M Fl}(n:Nat)(ρ:ŏ):Ń mc mb (n+1) ρ=(mc ρ).bind fun b ρ1=>if b=true then(mb ρ1).bind fun f ρ2=>match f with
 | .nx=>Ń mc mb n ρ2
 | .ct=>Ń mc mb n ρ2
 | .bk=>.ok .nx ρ2
 | .rt r=>.ok (.rt r) ρ2 else .ok .nx ρ1:=rfl
open Classical in
noncomputable def ż(mc:M Bool)(mb:M Fl):M Fl:=fun ρ=>if h:∃n,Ń mc mb n ρ≠ .bad then Ń mc mb (Classical.choose h) ρ else .bad
theorem gC{mc:M Bool}{mb:M Fl}:∀(n:Nat) (ρ:ŏ),Ń mc mb n ρ≠ .bad→Ń mc mb (n+1) ρ=Ń mc mb n ρ
 |0,ρ,h=>absurd rfl h
 |n+1,ρ,h=>by
  rw[Ż] at h
  rw[Ż (n+1),Ż n]
  cases e:mc ρ with
  |bad=>rfl
  |exc x ρ1=>rfl
  |ok b ρ1=>
   rw[e] at h
   simp only[Res.aY] at h ⊢
   cases b with
   |false=>rfl
   |true=>
    simp only[if_true] at h ⊢
    cases e2:mb ρ1 with
    |bad=>rfl
    |exc x ρ2=>rfl
    |ok f ρ2=>
     rw[e2] at h
     simp only[Res.aY] at h ⊢
     cases f with
     |nx=>exact gC n ρ2 h
     |ct=>exact gC n ρ2 h
     |bk=>rfl
     |rt r=>rfl
theorem qZ{mc:M Bool}{mb:M Fl}{n m:Nat}{ρ:ŏ}(h:Ń mc mb n ρ≠ .bad)(hm:n≤m):Ń mc mb m ρ=Ń mc mb n ρ:= by
 induction hm with
 |refl=>rfl
 |step _ ih=>rw[gC _ _ (by rw[ih];exact h),ih]
theorem ak{mc:M Bool}{mb:M Fl}{ρ:ŏ}(n:Nat)(h:Ń mc mb n ρ≠ .bad):ż mc mb ρ=Ń mc mb n ρ:= by
 unfold ż
 have hx:∃n,Ń mc mb n ρ≠ .bad:=⟨n,h⟩
 rw[dif_pos hx]
 have hc:=Classical.choose_spec hx
 rcases Nat.le_total n (Classical.choose hx) with hle|hle
 ·exact qZ h hle
 ·exact(qZ hc hle).symm
theorem gD{mc:M Bool}{mb:M Fl}{ρ:ŏ}:ż mc mb ρ=(mc ρ).bind fun b ρ1=>if b=true then(mb ρ1).bind fun f ρ2=>match f with
 | .nx=>ż mc mb ρ2
 | .ct=>ż mc mb ρ2
 | .bk=>.ok .nx ρ2
 | .rt r=>.ok (.rt r) ρ2 else .ok .nx ρ1:=by
 have go:∀ρ2,ż mc mb ρ2=.bad∨∃n,ż mc mb ρ2=Ń mc mb n ρ2∧Ń mc mb n ρ2≠ .bad:=fun ρ2=>by
  by_cases hx:∃n,Ń mc mb n ρ2≠ .bad
  ·obtain⟨n,h⟩:=hx
   exact .inr ⟨n,ak n h,h⟩
  ·left;unfold ż;rw[dif_neg hx]
 have ZkZ:∀ρ2,ż mc mb ρ2=.bad→∀n,Ń mc mb n ρ2=.bad:=fun ρ2 h n=>by
  refine Classical.byContradiction fun z=>?_
  rw[ak n z] at h
  exact z h
 have fin:∀n,Ń mc mb (n+1) ρ≠ .bad→ż mc mb ρ=Ń mc mb (n+1) ρ:= fun n h=>ak _ h
 cases e:mc ρ with
 |bad=>rcases go ρ with h|⟨n,h1,h2⟩
       ·rw[h];rfl
       ·cases n with
        |zero=>exact absurd rfl h2
        |succ n=>rw[Ż,e] at h2;exact absurd rfl h2
 |exc x ρ1=>
  have h:Ń mc mb 1 ρ=.exc x ρ1:=by rw[Ż,e];rfl
  rw[ak 1 (by rw[h];intro z;cases z),h];rfl
 |ok b ρ1=>
  simp only[Res.aY]
  cases b with
  |false=>
   have h:Ń mc mb 1 ρ=.ok .nx ρ1:=by rw[Ż,e];rfl
   rw[ak 1 (by rw[h];intro z;cases z),h];rfl
  |true=>
   simp only[if_true]
   have one:∀n,Ń mc mb (n+1) ρ=(mb ρ1).bind fun f ρ2=>match f with
    | .nx=>Ń mc mb n ρ2
    | .ct=>Ń mc mb n ρ2
    | .bk=>.ok .nx ρ2
    | .rt r=>.ok (.rt r) ρ2:=fun n=>by rw[Ż,e];rfl
   cases e2:mb ρ1 with
   |bad=>
    rcases go ρ with h|⟨n,h1,h2⟩
    ·rw[h];rfl
    ·cases n with
     |zero=>exact absurd rfl h2
     |succ n=>rw[one,e2] at h2;exact absurd rfl h2
   |exc x ρ2=>
    have h:Ń mc mb 1 ρ=.exc x ρ2:=by rw[one,e2];rfl
    rw[ak 1 (by rw[h];intro z;cases z),h];rfl
   |ok f ρ2=>
    have turn:(∀n,Ń mc mb (n+1) ρ=Ń mc mb n ρ2)→ż mc mb ρ=ż mc mb ρ2:=fun hn=>by
     rcases go ρ2 with h|⟨n,h1,h2⟩
     ·rcases go ρ with h'|⟨n,h1,h2⟩
      ·rw[h,h']
      ·cases n with
       |zero=>exact absurd rfl h2
       |succ n=>rw[hn,ZkZ ρ2 h n] at h2;exact absurd rfl h2
     ·rw[h1,←hn n]
      exact fin n (by rw[hn n];exact h2)
    cases f with
    |nx=>exact turn fun n=>by rw[one,e2];rfl
    |ct=>exact turn fun n=>by rw[one,e2];rfl
    |bk=>
     have h:Ń mc mb 1 ρ=.ok .nx ρ2:=by rw[one,e2];rfl
     rw[ak 1 (by rw[h];intro z;cases z),h];rfl
    |rt r=>
     have h:Ń mc mb 1 ρ=.ok (.rt r) ρ2:=by rw[one,e2];rfl
     rw[ak 1 (by rw[h];intro z;cases z),h];rfl
theorem SM{c:Expr}{body:List Stmt}{mc:M Bool}{mb:M Fl}(hp:PassesOwn (model X.prog X.w) X.A X.env X.xe)(hc:PT X c (tB (kk X cm) E mc))(hb:ju X body (tS (kk X cm) E mb)):PS X (.While c body [] pos) (tS (kk X cm) E (ż mc mb)):=PS.wk (G_ hp hc hb) fun D σ H ⟨c,F,ρ,rel,h⟩=>by
 obtain⟨n,hn⟩:∃n,ŧ (kk X cm) E c F D (Ń mc mb n ρ):=by
  by_cases hx:∃n,Ń mc mb n ρ≠ .bad
  ·obtain⟨n,hn⟩:=hx
   rw[ak n hn] at h
   exact⟨n,h⟩
  ·unfold ż at h
   rw[dif_neg hx] at h
   exact h.elim
 refine⟨fun m σ' H'=>∃F2 ρ2,Rel (kk X cm) c F2 H' σ' ρ2∧Same F F2∧ŧ (kk X cm) E c F2 D (Ń mc mb m ρ2),⟨n,F,ρ,rel,Same.refl _,hn⟩,?_⟩
 rintro m σ1 H1 ⟨F1,ρ1,ę,s1,h1⟩
 cases m with
 |zero=>exact h1.elim
 |succ m=>
  rw[Ż] at h1
  refine⟨c,F1,ρ1,ę,ŧ.bind h1 fun k ρ2 v F2 H2 Ŋ s2 q h2=>?_⟩
  have e:k=v:=q
  subst e
  cases k with
  |false=>
   rw[if_neg Bool.false_ne_true]
   rw[if_neg Bool.false_ne_true] at h2
   exact h2 σ1 F2 H2 Ŋ (Same.refl _)
  |true=>
   rw[if_pos rfl]
   rw[if_pos rfl] at h2
   refine⟨_,fun σ' H' z=>z,c,F2,ρ2,Ŋ,?_⟩
   have nxt:∀{ρ3:ŏ},ŧ (kk X cm) E c F2 D (Ń mc mb m ρ3)→∀σ' F' H',Rel (kk X cm) c F' H' σ' ρ3→Same F2 F'→∃m',m'<m+1∧∃F2 ρ2,Rel (kk X cm) c F2 H' σ' ρ2∧Same F F2∧ŧ (kk X cm) E c F2 D (Ń mc mb m' ρ2):=
    fun{ρ3} h3 σ' F' H' bV s'=>⟨m,Nat.lt_succ_self m,F',ρ3,bV,(s1.trans s2).trans s',ŧ.mono h3 s'⟩
   cases e2:mb ρ2 with
   |bad=>rw[e2] at h2;exact h2
   |exc x ρ3=>rw[e2] at h2;exact h2
   |ok f ρ3=>
    rw[e2] at h2
    cases f with
    |nx=>exact nxt h2
    |ct=>exact nxt h2
    |bk=>exact h2
    |rt r=>exact h2
def fO(K:KK)(Lh F:Hp)(J:It)(items:List PV):Prop:=∀(c:Ctx) (i:Nat) (F2 H:Hp) (σ:L2.St) (ρ:ŏ),Rel K c F2 H σ ρ→Same F F2→Same Lh H→
 (∀p,items[i]?=some p→J.go i H∧∀x H',J.yld i H x H'→∃F3,Rel K c F3 H' σ ρ∧Same F2 F3∧Same H H'∧Rep K F3 p x)∧(i=items.length→J.stop i H)
def rIt(K:KK):RR (List PV) It:=fun c _ _ F _ items J=>fO K c.L F J items
abbrev tI(K:KK)(E:L2.St→XK)(m:M (List PV)):TI:=tG K E (rIt K) m
def forL(g:Tg)(mb:M Fl):List PV→M Fl
 | [],ρ=>.ok .nx ρ
 |p::ps,ρ=>match g p ρ with
  |none=>.bad
  |some ρ1=>(mb ρ1).bind fun f ρ2=>match f with
   | .nx=>forL g mb ps ρ2
   | .ct=>forL g mb ps ρ2
   | .bk=>.ok .nx ρ2
   | .rt r=>.ok (.rt r) ρ2
def cT(mi:M (List PV))(g:Tg)(mb:M Fl):M Fl:=fun ρ=>(mi ρ).bind fun items ρ1=>forL g mb items ρ1
theorem bf{iter tg:Expr}{body:List Stmt}{mi:M (List PV)}{g:Tg}{mb:M Fl}(hp:PassesOwn (model X.prog X.w) X.A X.env X.xe)(hc:X.calm=true)(hi:PI X tg iter (tI (kk X cm) E mi))(hg:PG X tg (tT (kk X cm) g))(hb:ju X body (tS (kk X cm) E mb))
 (hs:∀x,foldedSetIterable iter X.env x=pure x:=by intro _;rfl):PS X (.For tg iter body [] pos) (tS (kk X cm) E (cT mi g mb)):=PS.wk (Yc hp hc hi hg hb hs) fun D σ H ⟨c,F,ρ,rel,h⟩=>⟨c,F,ρ,rel,ŧ.bind h fun items ρ1 J F1 H1 ę s1 ito h1=>by
 refine⟨fun i m σ' H'=>∃F2 ρ2,i≤items.length∧m=items.length-i∧Rel (kk X cm) c F2 H' σ' ρ2∧Same F1 F2∧ŧ (kk X cm) E c F2 D (forL g mb (items.drop i) ρ2),⟨_,F1,ρ1,Nat.zero_le _,rfl,ę,Same.refl _,h1⟩,?_⟩
 rintro i m σ2 H2 ⟨F2,ρ2,hle,rfl,Ŋ,s2,h2⟩
 obtain⟨go,stop⟩:=ito c i F2 H2 σ2 ρ2 Ŋ s2 fun b u e=>(Ŋ.lent b u e).1
 by_cases hlt:i<items.length
 ·obtain⟨g1,g2⟩:=go items[i] (List.getElem?_eq_getElem hlt)
  rw[List.drop_eq_getElem_cons hlt] at h2
  unfold forL at h2
  refine .inr ⟨g1,_,fun σ' H' z=>z,fun x H3 hy=>?_⟩
  obtain⟨F3,mO,s3,_,rp⟩:=g2 x H3 hy
  refine⟨c,F3,ρ2,items[i],mO,rp,?_⟩
  cases eg:g items[i] ρ2 with
  |none=>rw[eg] at h2;exact h2.elim
  |some ρ3=>
   rw[eg] at h2
   dsimp only at h2
   intro σ4 wL
   refine⟨c,F3,ρ3,wL,?_⟩
   have nxt:∀{ρ4:ŏ},ŧ (kk X cm) E c F2 D (forL g mb (items.drop (i+1)) ρ4)→∀σ' F' H',Rel (kk X cm) c F' H' σ' ρ4→Same F3 F'→∃m',m'<items.length-i∧∃F2 ρ2,i+1≤items.length∧m'=items.length-(i+1)∧Rel (kk X cm) c F2 H' σ' ρ2∧Same F1 F2∧ŧ (kk X cm) E c F2 D (forL g mb (items.drop (i+1)) ρ2):=
    fun{ρ4} h3 σ' F' H' bV s'=>⟨items.length-(i+1),by omega,F',ρ4,hlt,rfl,bV,(s2.trans s3).trans s',ŧ.mono h3 (s3.trans s')⟩
   have h2':=ŧ.mono h2 s3
   cases e2:mb ρ3 with
   |bad=>rw[e2] at h2;exact h2
   |exc x ρ4=>rw[e2] at h2';exact h2'
   |ok f ρ4=>
    rw[e2] at h2 h2'
    cases f with
    |nx=>exact nxt h2
    |ct=>exact nxt h2
    |bk=>exact h2'
    |rt r=>exact h2'
 ·have e:i=items.length:=by omega
  refine .inl ⟨stop e,?_⟩
  rw[List.drop_eq_nil_of_le (by omega)] at h2
  unfold forL at h2
  exact h2 σ2 F2 H2 Ŋ (Same.refl _)⟩
end
end P
namespace P
open PySem PySem.Spec PyProof.Rows L2 M2 M3
inductive FR where
 |ret (r:RV)|exc (x:PX)|bad
abbrev MF:=List Slot→FR
def FR.of:Res Fl→FR
 | .ok (.rt r) _=>.ret r
 | .ok .nx _=>.ret (.sh .non)
 | .exc x _=>.exc x
 |_=>.bad
def Ņ(n k:Nat)(mb:M Fl):MF:=fun as=>if as.length=n then FR.of (mb (startP k as)) else .bad
def rF(K:KK)(H F' H':Hp):RV→V→Prop
 | .sh p,v=>Rep K F' p v
 | .ow ps,v=>∃a vs,v=.ref a∧H' a=some (.lst vs)∧F' a=none∧H a=none∧ĝ K F' ps vs
 | .ot ps qs,v=>∃p a xs vs,v=.ref p∧F' p=some (.tup (xs ++ [.ref a]))∧ĝ K F' ps xs∧H' a=some (.lst vs)∧F' a=none∧H a=none∧ĝ K F' qs vs
def Zk0(K:KK)(E:XK)(F H:Hp)(Q:VK):FR→Prop
 | .ret r=>∀v F' H',Gr F H F' H'→rF K H F' H' r v→Q v H'
 | .exc x=>∀C d F' H',Gr F H F' H'→Sv K F' x C d→E C d H'
 | .bad=>False
def ŷ(K:KK)(n:Nat)(mf:MF):Sp:=fun vs H Q E=>∃F as,as.length=n∧Same F H∧Paired (cN K F H) as vs∧Zk0 K E F H Q (mf as)
def cD(CX:qj)(X:Cx)(E:L2.St→XK):Prop:=∀(pins:List (č)) (σ:L2.St) (H:Hp) (s:Shared) (e:Value) (s':Shared),Inv X pins σ H s→CX X.stack H s (E σ) e s'→X.xe e s'
section
variable{P:Program}{w:World}{K:PySem.W.Frag}{cm:String→Addr}{mg:Str→Option Value}{base:Heap}{CX:qj}
theorem fnP{x qual:Str}{st:Stmt}{f:Addr}{fd:FuncData}{N ps:List Str}{k:Nat}{mb:M Fl}(F:Ŷ K x qual st f fd)(S:ĕ N ps (ĉ st))
 (hbody:∀(cdv:Value) (A:Around) (outer:List Env) (s:Shared) (H:Hp) (E:XK),bI k (A.deeper (envOfC qual (ĉ st) s.heap.objs.size f cdv))→
   ju (b_ CX P w K mg base N qual (ĉ st) f cdv A outer s H E) (bQ st) (tS ⟨K,cm⟩ (fun _=>E) mb)):İ P w K mg base CX (k+1) f fd ps (ŷ ⟨K,cm⟩ ps.length (Ņ ps.length N.length mb)):=by
 obtain⟨oc,od,kV,doc,pm,an,cdv,ct,osl,rfl,lk,hcd⟩:=F.ex
 refine Ho lk hcd S (fun vs H Q E ⟨F,ps',h1,_,h2,_⟩=>by rw[←Paired.length h2];exact h1) fun A outer s H vs Q E hr hsp=>?_
 obtain⟨F,ps',h1,h2,h3,h4⟩:=hsp
 refine⟨_,hbody cdv A outer s H E hr,ctx0 F H,F,startP N.length ps',Rel.start h2 h3,?_⟩
 unfold Ņ at h4
 rw[if_pos h1] at h4
 cases e:mb (startP N.length ps') with
 |bad=>rw[e] at h4;exact h4
 |exc x ρ'=>rw[e] at h4;exact fun σ' C d F' H' rel s1 q=>h4 C d F' H' rel.gr q
 |ok fl ρ'=>
  rw[e] at h4
  cases fl with
  |nx=>exact fun σ' F' H' rel s1=>h4 .non F' H' rel.gr (Rep.non (K:=⟨K,cm⟩) (F:=F'))
  |bk=>exact h4.elim
  |ct=>exact h4.elim
  |rt r=>
   intro v σ' F' H' rel s1 q
   refine h4 v F' H' rel.gr ?_
   cases r with
   |sh p=>exact q
   |ow qs=>
    obtain⟨a,vs',e1,e2,e3,e4,_,e5⟩:=q
    exact⟨a,vs',e1,e2,e3,e4,e5⟩
   |ot qs ts=>
    obtain⟨p,a,xs,vs',e1,e0,ex,e2,e3,e4,_,e5⟩:=q
    exact⟨p,a,xs,vs',e1,e0,ex,e2,e3,e4,e5⟩
theorem aN{x qual:Str}{st:Stmt}{f:Addr}{fd:FuncData}{N ps:List Str}{k n j:Nat}{mb:M Fl}{mf:MF}(F:Ŷ K x qual st f fd)(S:ĕ N ps (ĉ st))(hn:ps.length=n)(hj:N.length=j)(hf:mf=Ņ n j mb)
 (hbody:∀(cdv:Value) (A:Around) (outer:List Env) (s:Shared) (H:Hp) (E:XK),bI k (A.deeper (envOfC qual (ĉ st) s.heap.objs.size f cdv))→
   ju (b_ CX P w K mg base N qual (ĉ st) f cdv A outer s H E) (bQ st) (tS ⟨K,cm⟩ (fun _=>E) mb)):İ P w K mg base CX (k+1) f fd ps (ŷ ⟨K,cm⟩ n mf):=by
 subst hn hj hf
 exact fnP F S hbody
end
def Ē(mf:MF)(mr:M (List Slot)):M RV:=fun ρ=>(mr ρ).bind fun ps ρ1=>match mf ps with
 | .ret r=>.ok r ρ1
 | .exc x=>.exc x ρ1
 | .bad=>.bad
section
variable{X:Cx}{cm:String→Addr}{E:L2.St→XK}{CX:qj}{k n:Nat}{f:Addr}{fd:FuncData}{ps:List Str}{mf:MF}{mr:M (List Slot)}{x:Str}{p pos:Pos}{e:Expr}{es:List Expr}
theorem D_{sp:Sp}{pins:List (č)}{σ:L2.St}{H:Hp}{s:Shared}{Q:VK}{us:List Value}{vs:List V}(F:İ X.prog X.w X.K X.mg X.base CX k f fd ps sp)(hr:bI k X.A)(hb:Binds X.K fd ps [])(hx:cD CX X E)
 (I:Inv X pins σ H s)(r:Vals vs us)(h:sp vs H Q (E σ)):wpAny (model X.prog X.w) X.A (call (.ref f) us) (EP X pins σ Q) X.xe s:=by
 have hl:(us ++ []).length=ps.length:=by rw[List.append_nil,←r.length];exact F.len _ _ _ _ h
 have hbd:=hb s us I.fV hl
 rw[List.append_nil] at hbd
 refine wpAny_call (codeAny_mono (F.run X.A X.stack s H ⟨us,[]⟩ us vs Q (E σ) hr I.env0 hbd r h) fun r s' hq=>?_)
 cases r with
 |error e=>exact hx pins σ H s e s' I hq
 |ok fl=>
  cases fl with
  |ret u=>exact I.after hq
  |next=>exact False.elim hq
  |brk=>exact False.elim hq
  |cont=>exact False.elim hq
theorem wO{c:Ctx}{F1 H1:Hp}{σ:L2.St}{ρ1:ŏ}{Q:VK}{ps:List Slot}{vs:List V}(hlen:(∃r,mf ps=r∧∀z,r=z→z≠ .bad)→ps.length=n)(ę:Rel (kk X cm) c F1 H1 σ ρ1)(r1:Paired (cN (kk X cm) F1 H1) ps vs)
 (h:bJ (kk X cm) E (rO (kk X cm)) c F1 H1 σ Q (match mf ps with| .ret r=>.ok r ρ1| .exc x=>.exc x ρ1| .bad=>.bad)):ŷ (kk X cm) n mf vs H1 Q (E σ):=by
 refine⟨F1,ps,?_,ę.sub,r1,?_⟩
 ·refine hlen ⟨_,rfl,fun z hz hb=>?_⟩
  rw[hz,hb] at h
  exact h
 ·cases em:mf ps with
  |bad=>rw[em] at h;exact h
  |exc x=>rw[em] at h;exact fun C d F' H' g rx=>h C d F' H' (ę.call g) g.f rx
  |ret r=>
   rw[em] at h
   intro v F' H' g rf
   refine h v F' H' (ę.call g) g.f g.h ?_
   cases r with
   |sh p=>exact rf
   |ow qs=>
    obtain⟨a,vs',e1,e2,e3,e4,e5⟩:=rf
    exact⟨a,vs',e1,e2,e3,ę.base.free e4,ę.uw g.f (ę.fresh e4),e5⟩
   |ot qs ts=>
    obtain⟨p,a,xs,vs',e1,e0,ex,e2,e3,e4,e5⟩:=rf
    exact⟨p,a,xs,vs',e1,e0,ex,e2,e3,ę.base.free e4,ę.uw g.f (ę.fresh e4),e5⟩
theorem ċ{n k:Nat}{mb:M Fl}{ps:List Slot}(h:∃r,Ņ n k mb ps=r∧∀z,r=z→z≠ .bad):ps.length=n:=by
 obtain⟨r,h1,h2⟩:=h
 unfold Ņ at h1
 by_cases hl:ps.length=n
 ·exact hl
 ·rw[if_neg hl] at h1
  exact absurd h1.symm (fun z=>h2 .bad (by rw[←h1]) rfl)
theorem Đ(F:İ X.prog X.w X.K X.mg X.base CX k f fd ps (ŷ (kk X cm) n mf))(hlen:∀{ps:List Slot},(∃r,mf ps=r∧∀z,r=z→z≠ .bad)→ps.length=n)(hr:bI k X.A)(hg:Gl X x)(hm:X.mg x=some (.ref f))(hk:PySem.W.keepIn X.K (.ref f)=true)(hb:Binds X.K fd ps [])(hx:cD CX X E)
 (ha:PA X (e::es) (tA (kk X cm) E mr))(hdb:(x== ("__debug__" :Str))=false:=by decide)(he:starEach (e::es) X.env=(false,eval e X.env)::starEach es X.env:=by exact ı rfl)(hpl:(backTo pos (starEach es X.env)).any (·.1)=false:=by rfl) :
 PE X (.Call (.Name x p) (e::es) [] pos) (tO (kk X cm) E (Ē mf mr)):=by
 intro pins s σ H Q I h
 obtain⟨c,F,ρ,rel,h⟩:=h
 refine wpAny_Call_Name_kw (jw I hg hm ?_ hdb)
 refine PySem.W.callWith_K (h₀:= X.base) I.ok.mod.kin hk (Ŧ (ha pos pins s σ H (fun vs H1=>ŷ (kk X cm) n mf vs H1 Q (E σ)) I ⟨c,F,ρ,rel,h.bind fun ps' ρ1 vs F1 H1 ę _ _ r1 h1=>wO hlen ę r1 h1⟩) fun us s1 ⟨vs,H1,I1,r,q⟩=>⟨I1.fV,?_⟩) he hpl
 exact D_ (by assumption) hr hb hx I1 r q
end
def ũ(m:M PV):M (List PV):=fun ρ=>(m ρ).bind fun p ρ1=>match p with
 | .lst ps=>.ok ps ρ1
 | .tup ps=>.ok ps ρ1
 | .str z=>.ok (z.cps.toList.map fun c=>.str ⟨#[c]⟩) ρ1
 |_=>.bad
section
variable{X:Cx}{cm:String→Addr}{E:L2.St→XK}{tg:Expr}
def Zk1(K:PySem.W.Frag)(tl:TE):TI:=fun σ H R=>tl σ H fun x H1=>(∃a,x=.ref a∧(∃xs,aJ K H1 a xs)∧R (Yb K a) H1)∨(∃a,x=.ref a∧(∃xs,dD K H1 a xs)∧R (Itt K a) H1)∨∃z,x=.str z∧R (Its z) H1
theorem Ih{l:Expr}{tl:TE}(hl:PE X l tl):PI X tg l (Zk1 X.K tl):=by
 intro pins s σ H R I h
 refine Ŧ (hl pins s σ H _ I h) fun v s1 ⟨x,H1,I1,r1,q1⟩=>?_
 rcases q1 with⟨a,e,⟨xs,hq⟩,q⟩|⟨a,e,⟨xs,hq⟩,q⟩|⟨z,e,q⟩
 ·subst e
  cases r1
  obtain⟨its,rv,p,hz⟩:=I1.list hq
  refine wpAny_pyIter_list p.isList ?_
  refine⟨s1.heap.objs.size,[s1.heap.objs.size],_,_,H1,rfl,I1.kept (t':=s1.toks) fun b o e=>Heap.get?_push_of_some _ e,Fd a _,⟨_,Heap.get?_push_size _ rfl,rfl,rfl⟩,fun b hb=>?_,q⟩
  have e:b=s1.heap.objs.size:=by simpa using hb
  subst e
  exact I1.Fb (Nat.le_refl _) (I1.hok.fresh (Nat.le_refl _))
 ·subst e
  cases r1
  obtain⟨its,rv,p,hz⟩:=I1.tuple hq
  refine wpAny_pyIter_tuple (show s1.heap.IsTuple a its.toArray from p) ?_
  refine⟨s1.heap.objs.size,[s1.heap.objs.size],_,_,H1,rfl,I1.kept (t':=s1.toks) fun b o e=>Heap.get?_push_of_some _ e,zZ a _,⟨_,Heap.get?_push_size _ rfl,rfl,rfl⟩,fun b hb=>?_,q⟩
  have e:b=s1.heap.objs.size:=by simpa using hb
  subst e
  exact I1.Fb (Nat.le_refl _) (I1.hok.fresh (Nat.le_refl _))
 ·subst e
  obtain⟨t,rfl⟩:=r1
  have fin:∀ty,(∀A:Around,A.handled=none→Walks X.prog X.w A s1.heap.objs.size [s1.heap.objs.size] [s1.heap.objs.size] z.cps.size (SignAt z) (fun i h=>h.IsStrIter s1.heap.objs.size ty z t i))→
   (∀(A:Around) (i:Nat) (s:Shared) (Q:Value→Shared→Prop) (E:Value→Shared→Prop),s.heap.IsStrIter s1.heap.objs.size ty z t i→Q (.ref s1.heap.objs.size) s→wpAny (model X.prog X.w) A (pyIter (.ref s1.heap.objs.size)) Q E s)→
   (["enumerate","zip","dict_itemiterator","dict_reverseitemiterator","odict_iterator","itertools.zip_longest","itertools.pairwise"].contains ty=false)→
   PIE X pins σ tg R (.ref s1.heap.objs.size) {s1 with heap:=s1.heap.push {cls:=.type ty,data:=.fields #[.str z t,.int 0 0]}}:=fun ty hW hS hty=>by
   refine⟨s1.heap.objs.size,[s1.heap.objs.size],_,_,H1,rfl,I1.kept (t':=s1.toks) fun b o e=>Heap.get?_push_of_some _ e,Fy _ z t ty hW hS hty,⟨_,Heap.get?_push_size _ rfl,rfl,rfl⟩,fun b hb=>?_,q⟩
   have e:b=s1.heap.objs.size:=by simpa using hb
   subst e
   exact I1.Fb (Nat.le_refl _) (I1.hok.fresh (Nat.le_refl _))
  cases ha:z.cps.all (·< 128) with
  |true=>exact wpAny_pyIter_ascii ha (fin _ (fun A hA=>Walks.strAscii hA _ z t) (fun A i s Q E st q=>wpAny_pyIter_striter_ascii st q) (by decide))
  |false=>exact wpAny_pyIter_wide ha (fin _ (fun A hA=>Walks.strWide hA _ z t) (fun A i s Q E st q=>wpAny_pyIter_striter_wide st q) (by decide))
theorem dR{l:Expr}{m:M PV}(hl:PE X l (tV (kk X cm) E m)):PI X tg l (tI (kk X cm) E (ũ m)):=fun pins s σ H R I h=>Ih hl pins s σ H R I (by
 obtain⟨c,F,ρ,rel,h⟩:=h
 refine⟨c,F,ρ,rel,h.bind fun p ρ1 v F1 H1 ę s1 s2 q h1=>?_⟩
 cases p with
 |lst ps=>
  have q':Rep (kk X cm) F1 (.lst ps) v:=q
  unfold Rep at q'
  obtain⟨a,vs,rfl,e1,e2⟩:=q'
  refine .inl ⟨a,rfl,⟨vs,ę.sub.seq e1⟩,h1 _ F1 H1 ę (Same.refl _) (Same.refl _) ?_⟩
  intro c' i F2 H2 σ2 ρ2 Ŋ sF _
  have hq:aJ X.K H2 a vs:=(sF.trans Ŋ.sub).seq e1
  refine⟨fun p hp=>?_,fun hi=>⟨vs,hq,by rw[hi,e2.length];exact Nat.le_refl _⟩⟩
  obtain⟨u,hu,ru⟩:=cM e2.pr hp
  refine⟨⟨vs,u,hq,hu⟩,fun x H' ⟨hH,hx⟩=>?_⟩
  subst hH
  have:vs[i]?=some x:=hx vs hq
  rw[hu] at this
  cases this
  exact⟨F2,Ŋ,Same.refl _,Same.refl _,Rep.same sF p u ru⟩
 |tup ps=>
  have q':Rep (kk X cm) F1 (.tup ps) v:=q
  unfold Rep at q'
  obtain⟨a,vs,rfl,e1,e2⟩:=q'
  refine .inr (.inl ⟨a,rfl,⟨vs,Same.tup ę.sub e1⟩,h1 _ F1 H1 ę (Same.refl _) (Same.refl _) ?_⟩)
  intro c' i F2 H2 σ2 ρ2 Ŋ sF _
  have hq:dD X.K H2 a vs:=Same.tup (sF.trans Ŋ.sub) e1
  refine⟨fun p hp=>?_,fun hi=>⟨vs,hq,by rw[hi,e2.length];exact Nat.le_refl _⟩⟩
  obtain⟨u,hu,ru⟩:=cM e2.pr hp
  refine⟨⟨vs,u,hq,hu⟩,fun x H' ⟨hH,hx⟩=>?_⟩
  subst hH
  have:vs[i]?=some x:=hx vs hq
  rw[hu] at this
  cases this
  exact⟨F2,Ŋ,Same.refl _,Same.refl _,Rep.same sF p u ru⟩
 |str z=>
  have q':v=.str z:=by have q':Rep (kk X cm) F1 (.str z) v:=q;unfold Rep at q';exact q'
  subst q'
  refine .inr (.inr ⟨z,rfl,h1 _ F1 H1 ę (Same.refl _) (Same.refl _) ?_⟩)
  intro c' i F2 H2 σ2 ρ2 Ŋ sF _
  refine⟨fun p hp=>?_,fun hi=>by rw[hi,List.length_map];show _=_;simp⟩
  rw[List.getElem?_map] at hp
  cases ez:z.cps.toList[i]? with
  |none=>rw[ez] at hp;cases hp
  |some cc=>
   rw[ez] at hp
   cases hp
   refine⟨by have:=(List.getElem?_eq_some_iff.mp ez).1;show i<z.cps.size;simpa using this,fun x H' ⟨hH,c2,hc,hx⟩=>?_⟩
   subst hH hx
   rw[ez] at hc
   cases hc
   exact⟨F2,Ŋ,Same.refl _,Same.refl _,Rep.str⟩
 |_=>exact h1.elim)
def Ő(i:Nat):M (List PV):=fun ρ=>match ρ[i]? with
 |some (.bw ps)=>.ok ps ρ
 |some (.sh (.lst ps))=>.ok ps ρ
 |some (.sh (.tup ps))=>.ok ps ρ
 |some (.sh (.str z))=>.ok (z.cps.toList.map fun c=>.str ⟨#[c]⟩) ρ
 |some (.ow ps)=>.ok ps (ρ.set i (.sh (.lst ps)))
 |_=>.bad
theorem aD(i:Nat){x:Str}{px:Pos}(hN:X.N[i]?=some x:=by rfl)(hv:Gy X.env.scope x:=by first|exact Or.inl rfl|exact Or.inr (Or.inl rfl)|exact Or.inr (Or.inr rfl))(hd:(x== ("__debug__" :Str))=false:=by decide)
 (hcd:(x== ("__classdict__" :Str))=false:=by decide):PI X tg (.Name x px) (tI (kk X cm) E (Ő i)):=fun pins s σ H R I h=>by
 obtain⟨c,F,ρ,rel,h⟩:=h
 cases e:ρ[i]? with
 |none=>unfold Ő at h;rw[e] at h;exact h.elim
 |some sl=>
  have SN:bJ (kk X cm) E (rIt (kk X cm)) c F H σ R (ũ (Ģ i) ρ)→wpAny (model X.prog X.w) X.A (eval (.Name x px) X.env) (fun v s1=>wpAny (model X.prog X.w) X.A (pyIter v) (PIE X pins σ tg R) X.xe s1) X.xe s:=fun h'=>
   dR (v_var i hN hv hd hcd) pins s σ H R I ⟨c,F,ρ,rel,h'⟩
  unfold Ő at h
  rw[e] at h
  cases sl with
  |no=>exact h.elim
  |rc C ns ps=>exact h.elim
  |ot ps qs=>exact h.elim
  |ow ps=>exact SN (by unfold ũ Ģ;rw[e];exact h)
  |sh p=>
   cases p with
   |lst ps=>exact SN (by unfold ũ Ģ;rw[e];exact h)
   |tup ps=>exact SN (by unfold ũ Ģ;rw[e];exact h)
   |str z=>exact SN (by unfold ũ Ģ;rw[e];exact h)
   |_=>exact h.elim
  |bw ps=>
   obtain⟨a,vs,h1,h2,h3⟩:=rel.slot i _ e
   refine Ih (fW hN hv hd hcd) pins s σ H R I ⟨.ref a,at_of h1,.inl ⟨a,rfl,⟨vs,aJ.of (rel.lent a _ h2).1⟩,h _ F H rel (Same.refl _) (Same.refl _) ?_⟩⟩
   intro c' j F2 H2 σ2 ρ2 Ŋ sF sL
   have hq:aJ X.K H2 a vs:=aJ.of (sL a _ h2)
   refine⟨fun p hp=>?_,fun hi=>⟨vs,hq,by rw[hi,h3.length];exact Nat.le_refl _⟩⟩
   obtain⟨u,hu,ru⟩:=cM h3.pr hp
   refine⟨⟨vs,u,hq,hu⟩,fun x H' ⟨hH,hx⟩=>?_⟩
   subst hH
   have:vs[j]?=some x:=hx vs hq
   rw[hu] at this
   cases this
   exact⟨F2,Ŋ,Same.refl _,Same.refl _,Rep.same sF p u ru⟩
def gF(lo:Int)(n:Nat)(c:Int):List PV:=(List.range n).map fun(i:Nat)=>.int (lo+i*c)
def oh(i:Int):Bool:=decide (i.natAbs<1152921504606846976)
def aA:List PV→Option (List PV)
 | [.int j]=>if oh j=true then some (gF 0 j.toNat 1) else none
 |_=>none
def aF(f:List PV→Option (List PV))(mr:M (List PV)):M (List PV):=fun ρ=>(mr ρ).bind fun ps ρ1=>Res.nF (f ps) ρ1
theorem Ax{lo c:Int}{n i:Nat}{p:PV}(h:(gF lo n c)[i]?=some p):i<n∧p=.int (lo+i*c):=by
 unfold gF at h
 by_cases hn:i<n
 ·rw[List.getElem?_map,List.getElem?_range hn] at h
  exact⟨hn,(Option.some.inj h).symm⟩
 ·rw[List.getElem?_eq_none (by simpa using hn)] at h
  cases h
theorem Ay{lo c:Int}{n:Nat}:(gF lo n c).length=n:=by simp[gF]
theorem Zac{K:KK}{Lh F:Hp}(lo:Int)(n:Nat):fO K Lh F (Itr lo n) (gF lo n 1):=fun c i F2 H σ ρ rel sF _=>
 ⟨fun p hp=>by
   obtain⟨h1,rfl⟩:=Ax hp
   refine⟨h1,fun x H' ⟨e1,e2⟩=>?_⟩
   subst e1 e2
   exact⟨F2,rel,Same.refl _,Same.refl _,by rw[Int.mul_one];exact Rep.int⟩,fun hi=>by rw[Ay] at hi;subst hi;exact Nat.le_refl _⟩
theorem Fz{i:Int}(h:oh i=true): -(2 ^ 60)≤i∧i<2 ^ 60:=by
 unfold oh at h
 rw[decide_eq_true_eq] at h
 omega
variable{a b d:Expr}{p pos:Pos}{mr:M (List PV)}
theorem Ii{K:KK}{F:Hp}{ps:List PV}{vs:List V}(h:ĝ K F ps vs):(∀i r,ps=.int i::r→∃r',vs=.int i::r'∧ĝ K F r r')∧(ps=[]→vs=[]):=by
 refine⟨fun i r e=>?_,fun e=>?_⟩
 ·subst e
  unfold ĝ at h
  obtain⟨x,r',h1,h2,h3⟩:=h
  unfold Rep at h2
  exact⟨r',by rw[h1,h2],h3⟩
 ·subst e
  unfold ĝ at h
  exact h
theorem Ū(hg:Gl X "range")(hm:X.mg "range" =none)(ha:PA X [a] (tL (kk X cm) E mr))(hs:starEach [a] X.env=[(false,eval a X.env)]:=by exact ı rfl):PI X tg (.Call (.Name "range" p) [a] [] pos) (tI (kk X cm) E (aF aA mr)):=
 fun pins s σ H R I h=>Fe hg hm ha hs pins s σ H R I (by
  obtain⟨c,F,ρ,rel,h⟩:=h
  refine⟨c,F,ρ,rel,h.bind fun ps ρ1 vs F1 H1 ę s1 s2 q h1=>?_⟩
  have q':ĝ (kk X cm) F1 ps vs:=q
  unfold aA at h1
  split at h1
  ·rename_i j
   split at h1
   ·rename_i hj
    obtain⟨r',e1,e2⟩:=(Ii q').1 _ _ rfl
    cases(Ii e2).2 rfl
    obtain⟨k1,k2⟩:=Fz hj
    exact⟨j,e1,by omega,by omega,h1 _ F1 H1 ę (Same.refl _) (Same.refl _) (Zac 0 j.toNat)⟩
   ·exact h1.elim
  ·exact h1.elim)
end
def wQ:Slot→Slot
 | .sh p=>.sh p
 | .ow ps=>.bw ps
 | .bw ps=>.bw ps
 |_=>.no
def wR(js:List Nat)(nl:Nat)(ρ:ŏ):ŏ:=js.map (fun(j:Nat)=>wQ ((ρ[j]?).getD .no))++List.replicate nl .no
def ŉ(g:Tg)(mt:M Bool)(me:M PV):List PV→ŏ→List PV→Option (List PV)
 | [],_,acc=>some acc
 |p::ps,ρ,acc=>match g p ρ with
  |none=>none
  |some ρ1=>match mt ρ1 with
   | .ok true ρ2=>match me ρ2 with
     | .ok q ρ3=>if acc.length<16777216 then ŉ g mt me ps ρ3 (acc ++ [q]) else none
     |_=>none
   | .ok false ρ2=>ŉ g mt me ps ρ2 acc
   |_=>none
def Ŗ(js:List Nat)(nl:Nat)(mi:M (List PV))(g:Tg)(mt:M Bool)(me:M PV):M RV:=fun ρ=>(mi ρ).bind fun items ρ1=>match ŉ g mt me items (wR js nl ρ1) [] with
 |some ps=>.ok (.ow ps) ρ1
 |none=>.bad
abbrev EF:L2.St→XK:=fun _ _ _ _=>False
def ŋ:M Bool:=fun ρ=>.ok true ρ
section
variable{K:KK}{c:Ctx}{F H:Hp}{σ:L2.St}{ρ:ŏ}
def qu(F H H1:Hp):Ctx:=⟨H1,F,(ctx0 F H).L,fun _ _ _=>True⟩
theorem Rel.cap(js:List Nat)(nl:Nat)(rel:Rel K c F H σ ρ){D:Addr}{o:HO}(hD:H D=none):Rel K (qu F H (upd H D o)) F (upd H D o) (gk js nl σ) (wR js nl ρ) where
 sub:=rel.sub.trans (Same.upd hD)
 base:=Same.refl _
 f0:=Same.refl _
 dB:=fun _ _ z=>z
 lent:=fun a u e=>⟨Same.upd hD a u (gq e).1,(gq e).2⟩
 lb:=fun a e=>by
   cases q:(qu F H (upd H D o)).L a with
   |none=>rfl
   |some u=>
    have e':upd H D o a=none:=e
    rw[Same.upd hD a u (gq q).1] at e'
    cases e'
 len:=by simp[gk,wR]
 slot:= fun i s e=>by
  unfold wR at e
  by_cases hi:i<js.length
  ·rw[List.getElem?_append_left (by simpa using hi),List.getElem?_map] at e
   cases ej:js[i]? with
   |none=>rw[ej] at e;cases e
   |some j=>
    rw[ej] at e
    have e':wQ ((ρ[j]?).getD .no)=s:=Option.some.inj e
    subst e'
    have hx:((gk js nl σ)[i]?).getD none=(σ[j]?).getD none:=by
     unfold gk
     rw[List.getElem?_append_left (by simpa using hi),List.getElem?_map,ej]
     rfl
    rw[hx]
    cases er:ρ[j]? with
    |none=>trivial
    |some sl=>
     have q:=rel.slot j sl er
     cases sl with
     |no=>trivial
     |sh p=>exact q
     |ow ps=>
      obtain⟨a,vs,h1,h2,h3,h4,h5⟩:=q
      refine⟨a,vs,h1,?_,h5⟩
      show(match F a with|none=>H a|some _=>none)=_
      rw[h3]
      exact h2
     |bw ps=>
      obtain⟨a,vs,h1,h2,h3⟩:=q
      obtain⟨l1,l2⟩:=rel.lent a _ h2
      refine⟨a,vs,h1,?_,h3⟩
      show(match F a with|none=>H a|some _=>none)=_
      rw[l2]
      exact l1
     |rc C ns ps=>trivial
     |ot ps qs=>trivial
  ·rw[List.getElem?_append_right (by simpa using hi),List.getElem?_replicate] at e
   split at e
   ·cases e;trivial
   ·cases e
 sep:=fun i j a h1 _=>by
  exfalso
  obtain⟨s,y,h1,_,h2⟩:=h1
  have h2:=jj h2
  unfold wR at h1
  by_cases hi:i<js.length
  ·rw[List.getElem?_append_left (by simpa using hi),List.getElem?_map] at h1
   cases ej:js[i]? with
   |none=>rw[ej] at h1;cases h1
   |some j=>
    rw[ej] at h1
    have e':wQ ((ρ[j]?).getD .no)=s:=Option.some.inj h1
    subst e'
    cases q:(ρ[j]?).getD .no<;>rw[q] at h2<;>cases h2
  ·rw[List.getElem?_append_right (by simpa using hi),List.getElem?_replicate] at h1
   split at h1
   ·cases h1;cases h2
   ·cases h1
theorem Rel.rebase{H1 F1:Hp}{D:Addr}{ys zs:List V}(hD:H1 D=none)(hF:F1 D=none)(rel:Rel K (qu F1 H1 (upd H1 D (.lst ys))) F H σ ρ):Rel K (qu F1 H1 (upd H1 D (.lst zs))) F (upd H D (.lst zs)) σ ρ:= by
 have fD:F D=none:=rel.dB D (by show upd H1 D _ D≠none;rw[Ĭ];intro z;cases z) hF
 have lD:∀b u,(qu F1 H1 (upd H1 D (.lst ys))).L b=some u→b≠D:=fun b u e z=>by
  have q:=(gq (F:=F1) (H:=H1) (a:=b) (u:=u) e).1
  rw[z,hD] at q
  cases q
 have ne:∀b,(qu F1 H1 (upd H1 D (.lst ys))).B b=none→b≠D:=fun b z q=>by
  subst q
  have z':upd H1 b (.lst ys) b=none:=z
  rw[Ĭ] at z';cases z'
 have back:∀b,b≠D→(qu F1 H1 (upd H1 D (.lst ys))).B b=none→(qu F1 H1 (upd H1 D (.lst zs))).B b=none:=fun b hb z=>by
  have z':upd H1 D (.lst ys) b=none:=z
  show upd H1 D (.lst zs) b=none
  rw[Ġ hb] at z' ⊢;exact z'
 refine⟨fun b u e=>?_,fun b u e=>?_,rel.f0,fun b h1 h2=>?_,fun b u e=>?_,fun b e=>?_,rel.len,fun i s e=>?_,rel.sep⟩
 ·have hb:b≠D:=fun z=>by rw[z,fD] at e;cases e
  rw[Ġ hb];exact rel.sub b u e
 ·by_cases hb:b=D
  ·subst hb
   have e':upd H1 b (.lst zs) b=some u:=e
   rw[Ĭ] at e' ⊢;exact e'
  ·have e':upd H1 D (.lst zs) b=some u:=e
   rw[Ġ hb] at e' ⊢
   exact rel.base b u (by show upd H1 D _ b=some u;rw[Ġ hb];exact e')
 ·refine rel.dB b (fun z=>h1 ?_) h2
  exact back b (ne b z) z
 ·rw[Ġ (lD b u e)]
  exact rel.lent b u e
 ·refine rel.lb b ?_
  have z':upd H1 D (.lst zs) b=none:=e
  have hb:b≠D:=fun q=>by rw[q,Ĭ] at z';cases z'
  show upd H1 D (.lst ys) b=none
  rw[Ġ hb] at z' ⊢;exact z'
 ·have q:=rel.slot i s e
  cases s with
  |no=>trivial
  |sh p=>exact q
  |bw ps=>exact q
  |ow ps=>
   obtain⟨a,vs,q1,q2,q3,q4,q5⟩:=q
   have hb:=ne a q4
   exact⟨a,vs,q1,by rw[Ġ hb];exact q2,q3,back a hb q4,q5⟩
  |rc C ns ps=>
   obtain⟨a,dx,fs,q1,q2,q3,q4,q5⟩:=q
   have hb:=ne a q4
   exact⟨a,dx,fs,q1,by rw[Ġ hb];exact q2,q3,back a hb q4,q5⟩
  |ot ps qs=>
   obtain⟨p,a,xs,vs,q1,q0,qx,q2,q3,q4,q5⟩:=q
   have hb:=ne a q4
   exact⟨p,a,xs,vs,q1,q0,qx,by rw[Ġ hb];exact q2,q3,back a hb q4,q5⟩
end
section
variable{X:Cx}{cm:String→Addr}{E:L2.St→XK}{elt tg iter:Expr}{ifs:List Expr}{scope:Scope}{pos:Pos}{mi:M (List PV)}{g:Tg}{mt:M Bool}{me:M PV}
theorem Ŝ:Vi X [] (tB (kk X cm) E ŋ):=fun pins s σ H Q I h=>RW pins s σ H Q I (by
 obtain⟨c,F,ρ,rel,h⟩:=h
 exact h true F H rel (Same.refl _) (Same.refl _) rfl)
theorem Ij{a:Expr}(h:PT X a (tB (kk X cm) E mt)):Vi X [a] (tB (kk X cm) E mt):=RX h
theorem wU{js:List Nat}{nl:Nat}{σ:L2.St}{H:Hp}{Q:VK}(h:tO (kk X cm) E (Ŗ js nl mi g mt me) σ H Q):HD js nl (tI (kk X cm) E mi) (tT (kk X cm) g) (tB (kk X cm) EF mt) (tV (kk X cm) EF me) σ H Q:=by
 obtain⟨c,F,ρ,rel,h⟩:=h
 refine⟨c,F,ρ,rel,h.bind fun items ρ1 J F1 H1 ę s1 s2 ito h1=>?_⟩
 intro D hD
 have hF:F1 D=none:=ę.sub.free hD
 cases ec:ŉ g mt me items (wR js nl ρ1) [] with
 |none=>rw[ec] at h1;exact h1.elim
 |some res=>
  rw[ec] at h1
  refine⟨fun i m σ' H'=>∃F' ρ' ys acc,i≤items.length∧m=items.length-i∧Rel (kk X cm) (qu F1 H1 (upd H1 D (.lst ys))) F' H' σ' ρ'∧ĝ (kk X cm) F' acc ys∧ŉ g mt me (items.drop i) ρ' acc=some res,
   ⟨_,F1,_,[],[],Nat.zero_le _,rfl,?_,ĝ.nil,ec⟩,?_⟩
  ·exact ę.cap js nl hD
  ·rintro i m σ2 H2 ⟨F2,ρ2,ys,acc,hle,rfl,Ŋ,ra,h2⟩
   have s12:Same F1 F2:=Ŋ.f0
   have ZdG:∀{b:Addr} {u:HO},c.L b=some u→(qu F1 H1 (upd H1 D (.lst ys))).L b=some u:=fun{b u} e=>by
    obtain⟨l1,l2⟩:=ę.lent b u e
    show(match F1 b with|none=>H1 b|some _=>none)=some u
    rw[l2]
    exact l1
   obtain⟨go,stop⟩:=ito _ i F2 H2 σ2 ρ2 Ŋ s12 fun b u e=>(Ŋ.lent b u (ZdG e)).1
   have hH2:H2 D=some (.lst ys):=Ŋ.base D _ (show upd H1 D _ D=_ from Ĭ)
   have fD:F2 D=none:=Ŋ.dB D (by show upd H1 D _ D≠none;rw[Ĭ];intro z;cases z) hF
   by_cases hlt:i<items.length
   ·obtain⟨g1,g2⟩:=go items[i] (List.getElem?_eq_getElem hlt)
    rw[List.drop_eq_getElem_cons hlt] at h2
    unfold ŉ at h2
    refine .inr ⟨g1,_,fun σ' H' z=>z,fun x H3 hy=>?_⟩
    obtain⟨F3,mO,s3,sH3,rp⟩:=g2 x H3 hy
    refine⟨_,F3,ρ2,items[i],mO,rp,?_⟩
    cases eg:g items[i] ρ2 with
    |none=>rw[eg] at h2;cases h2
    |some ρ3=>
     rw[eg] at h2
     dsimp only at h2
     intro σ4 wL
     refine⟨_,F3,ρ3,wL,?_⟩
     cases em:mt ρ3 with
     |bad=>rw[em] at h2;cases h2
     |exc x ρ4=>rw[em] at h2;cases h2
     |ok b ρ4=>
      rw[em] at h2
      intro b' F5 H5 ZdH s5 Vn eb
      have eb':b=b':=eb
      subst eb'
      cases b with
      |false=>
       rw[if_neg Bool.false_ne_true]
       dsimp only at h2
       exact⟨items.length-(i+1),by omega,F5,ρ4,ys,acc,hlt,rfl,ZdH,ĝ.same (s3.trans s5) acc ys ra,h2⟩
      |true=>
       rw[if_pos rfl]
       dsimp only at h2
       refine⟨_,F5,ρ4,ZdH,?_⟩
       cases ee:me ρ4 with
       |bad=>rw[ee] at h2;cases h2
       |exc x ρ5=>rw[ee] at h2;cases h2
       |ok q ρ5=>
        rw[ee] at h2
        dsimp only at h2
        intro y F6 H6 ZdI s6 SQ rq
        split at h2
        ·rename_i hz
         have ra6:=ĝ.same ((s3.trans s5).trans s6) acc ys ra
         refine⟨ys,ZdI.base D _ (show upd H1 D _ D=_ from Ĭ),by rw[←ra6.length,Ŏ];exact hz,?_⟩
         exact⟨items.length-(i+1),by omega,F6,ρ5,ys ++ [y],acc ++ [q],hlt,rfl,ZdI.rebase hD hF,ĝ.append ra6 (ĝ.cons rq ĝ.nil),h2⟩
        ·cases h2
   ·have e:i=items.length:=by omega
    refine .inl ⟨stop e,?_⟩
    rw[List.drop_eq_nil_of_le (by omega)] at h2
    unfold ŉ at h2
    cases h2
    have gr:Gr F1 H1 F2 H2:=⟨fun b u e=>Ŋ.base b u (by show upd H1 D _ b=_;rw[Ġ (ļ e hD)];exact e),s12,Ŋ.sub,fun b hb hf=>Ŋ.dB b (by
     show upd H1 D _ b≠none
     by_cases hbD:b=D
     ·rw[hbD,Ĭ];intro z;cases z
     ·rw[Ġ hbD];exact hb) hf⟩
    have Zk2:=ę.call gr
    exact h1 _ F2 H2 Zk2 s12 gr.h ⟨D,ys,rfl,hH2,fD,ę.base.free hD,ę.uw gr.f (ę.fresh hD),ra⟩
theorem ų(N':List Str)(js:List Nat)(nl:Nat)(sc:Scope)(hsc:X.env.scope=sc)(hcalm:X.calm=true)
 (hi:PI X.au tg iter (tI (kk X cm) E mi))(hg:∀cl C s H fp,PG (gZ X.au N' scope cl C s H fp) tg (tT (kk X cm) g))(ht:∀cl C s H fp,Vi (gZ X.au N' scope cl C s H fp) ifs (tB (kk X cm) EF mt))(he:∀cl C s H fp,PE (gZ X.au N' scope cl C s H fp) elt (tV (kk X cm) EF me))
 (hcap:nU X.au sc scope N' js)(hlen:js.length+nl=N'.length:=by rfl)
 (hk:scope.kind=.function:=by rfl)(hcell:∀y∈scope.names,y.2=.cell→scope.names.lookup y.1=some .cell:=by decide +kernel)(hnames:∀y∈scope.names,y.2=.local→scope.names.lookup y.1=some .local:=by decide +kernel)
 (hfree:∀y∈scope.names,y.2=.free→(sc.names.lookup y.1=some .cell∨sc.names.lookup y.1=some .free):=by decide +kernel)
 (hs:∀x,foldedSetIterable iter X.env x=pure x:=by intro _;rfl) :
 PE X (.ListComp elt [⟨tg,iter,ifs,0⟩] scope pos) (tO (kk X cm) E (Ŗ js nl mi g mt me)):=
 PE.wk (PE.au (RZ N' js nl sc hsc hcalm hi hg ht he hcap hlen hk hcell hnames hfree hs)) fun _ _ _ h=>wU h
end
end P
namespace P
open PySem PySem.Spec PyProof.Rows L2 M2 M3 M4
abbrev bits(x:Int):Nat:=Builtin.Int.intBits x
section
variable{X:Cx}{cm:String→Addr}{K:KK}
def Vo(K:PySem.W.Frag):R2:=fun x y H Q=>∃l b xs zs,x=.ref l∧y=.ref b∧aJ K H l xs∧aJ K H b zs∧xs.length+zs.length≤sizeLine∧∀p,H p=none→Q (.ref p) (upd H p (.lst (xs++zs)))
theorem SX:aC X (binaryOp .Add) (Vo X.K):=by
 intro pins s σ H x y v u Q I rx ry h
 obtain⟨l,b,xs,zs,rfl,rfl,hH,hB,hz,q⟩:=h
 cases rx
 cases ry
 obtain⟨its,r,pl,z⟩:=I.list hH
 obtain⟨its2,r2,pl2,z2⟩:=I.list hB
 obtain⟨⟨c1,d1,t1,sl1⟩,n,e,hc,hd,hs⟩:=pl
 obtain⟨⟨c2,d2,t2,sl2⟩,n2,e2,hc2,hd2,hs2⟩:=pl2
 simp only at hc hd hs hc2 hd2 hs2
 subst hc hd hs hc2 hd2 hs2
 have hl:=r.length
 have hl2:=r2.length
 have ea:its.toArray++its2.toArray=(its++its2).toArray:=by simp
 refine concat_meets ⟨_,e,rfl⟩ ⟨_,e2,rfl⟩ noFill_list_add seq_list_add PySem.F.slot_list_add PySem.F.entry_list_add (PySem.F.args_list_add_2 _ _) (list_addW l b its.toArray its2.toArray n n2 none none sl1 sl2 (by simp only[List.size_toArray];omega)) ⟨e,e2,?_⟩
 rw[ea]
 exact⟨.ref _,_,I.ZkQ (t':=s.toks) (r.append r2) (by rw[List.length_append];omega),rfl,q _ I.fresh⟩
def Vp(K:PySem.W.Frag):R2:=fun x y H Q=>∃l b xs zs,x=.ref l∧y=.ref b∧dD K H l xs∧dD K H b zs∧xs≠[]∧zs≠[]∧xs.length+zs.length≤sizeLine∧∀p,H p=none→Q (.ref p) (upd H p (.tup (xs++zs)))
theorem S_:aC X (binaryOp .Add) (Vp X.K):=by
 intro pins s σ H x y v u Q I rx ry h
 obtain⟨l,b,xs,zs,rfl,rfl,hH,hB,nx,nz,hz,q⟩:=h
 cases rx
 cases ry
 obtain⟨its,r,pl,z⟩:=I.tuple hH
 obtain⟨its2,r2,pl2,z2⟩:=I.tuple hB
 obtain⟨⟨c1,d1,t1,sl1⟩,e,hc,n,hd⟩:=pl
 obtain⟨⟨c2,d2,t2,sl2⟩,e2,hc2,n2,hd2⟩:=pl2
 simp only at hc hd hc2 hd2
 subst hc hd hc2 hd2
 have hl:=r.length
 have hl2:=r2.length
 have ne1:its≠[]:=fun z=>by rw[z] at hl;exact nx (List.length_eq_zero_iff.mp hl)
 have ne2:its2≠[]:=fun z=>by rw[z] at hl2;exact nz (List.length_eq_zero_iff.mp hl2)
 have ea:its.toArray++its2.toArray=(its++its2).toArray:=by simp
 refine concat_meets ⟨_,e,rfl⟩ ⟨_,e2,rfl⟩ noFill_tuple_add seq_tuple_add PySem.F.slot_tuple_add PySem.F.entry_tuple_add (PySem.F.args_tuple_add_2 _ _) (tuple_addW2 l b its.toArray its2.toArray n n2 d1 d2 sl1 sl2 (by simpa using ne1) (by simpa using ne2) (by simp only[List.size_toArray];omega)) ⟨e,e2,?_⟩
 rw[ea]
 exact⟨.ref _,_,I.laid (o:=.tup (xs++zs)) (t':=s.toks) (fun _ _ q=>Heap.get?_push_of_some _ q) (Nat.le_refl _) ⟨by rw[List.length_append];omega,(its++its2),r.append r2,⟨_,Heap.get?_push_size _ rfl,rfl,_,rfl⟩⟩,rfl,q _ I.fresh⟩
def Ľ:PV→PV→Option RV
 | .int i,.int j=>some (.sh (.int (i+j)))
 | .str i,.str j=>if i.length+j.length≤16777216 then some (.sh (.str (i++j))) else none
 | .lst ps,.lst qs=>if ps.length+qs.length≤16777216 then some (.ow (ps++qs)) else none
 | .tup (p::ps),.tup (q::qs)=>if(p::ps).length+(q::qs).length≤16777216 then some (.sh (.tup ((p::ps)++(q::qs)))) else none
 |_,_=>none
def Vq(K:PySem.W.Frag):R2:=fun x y H Q=>Zds x y H Q∨(Vo K x y H Q∨Vp K x y H Q)
theorem ĵ:aC X (binaryOp .Add) (Vq X.K):=YK.or (SX.or S_)
theorem Ķ:OpO K (Vq K.K) Ľ:=by
 intro c F H σ ρ p q pv v u Q rel r1 r2 e k
 unfold Ľ at e
 split at e
 ·cases e
  cases r1.int
  cases r2.int
  exact .inl (k _ F H rel (Same.refl _) (Same.refl _) (Rep.int (K:=K) (F:=F)))
 ·split at e
  ·rename_i hz
   cases e
   cases r1.str
   cases r2.str
   exact .inl ⟨by rw[Ŏ];exact hz,k _ F H rel (Same.refl _) (Same.refl _) (Rep.str (K:=K) (F:=F))⟩
  ·cases e
 ·split at e
  ·rename_i hz
   cases e
   obtain⟨a,xs,rfl,h1,h2⟩:=r1.lst rel.sub
   obtain⟨b,ys,rfl,h3,h4⟩:=r2.lst rel.sub
   refine .inr (.inl ⟨a,b,xs,ys,rfl,rfl,h1,h3,by rw[←h2.length,←h4.length,Ŏ];exact hz,fun d hd=>?_⟩)
   obtain⟨q1,q2⟩:=gB rel hd (ĝ.append h2 h4)
   exact k _ F _ q1 (Same.refl _) (Same.upd hd) q2
  ·cases e
 ·split at e
  ·rename_i hz
   cases e
   obtain⟨a,xs,rfl,h1,h2⟩:=r1.tup rel.sub
   obtain⟨b,ys,rfl,h3,h4⟩:=r2.tup rel.sub
   have l1:=h2.length
   have l2:=h4.length
   refine .inr (.inr ⟨a,b,xs,ys,rfl,rfl,h1,h3,(fun z=>by rw[z] at l1;cases l1),(fun z=>by rw[z] at l2;cases l2),by rw[←l1,←l2,Ŏ];exact hz,fun l hl=>k _ _ _ (rel.alloc hl) (Same.upd (rel.sub.free hl)) (Same.upd hl) ?_⟩)
   show Rep K _ _ _
   unfold Rep
   exact⟨l,xs++ys,rfl,dD.of Ĭ,ĝ.same (Same.upd (rel.sub.free hl)) _ _ (ĝ.append h2 h4)⟩
  ·cases e
 ·cases e
def wD(g:Int→Int→Int):PV→PV→Option PV
 | .int i,.int j=>some (.int (g i j))
 |_,_=>none
def Dq(C:Int→Int→Bool)(g:Int→Int→Int):PV→PV→Option PV
 | .int i,.int j=>if C i j=true then some (.int (g i j)) else none
 |_,_=>none
def opC(g:Int→Int→Bool):PV→PV→Option PV
 | .int i,.int j=>some (.bl (g i j))
 |_,_=>none
theorem Vr{g:Int→Int→Int}:jB K (Ao fun i j=>.int (g i j)) (wD g):=by
 intro c F H σ ρ p q pv v u Q rel r1 r2 e k
 unfold wD at e
 split at e
 ·cases e
  cases r1.int
  cases r2.int
  exact k _ F H rel (Same.refl _) (Same.refl _) Rep.int
 ·cases e
theorem Tc{g:Int→Int→Bool}:jB K (Ao fun i j=>.bl (g i j)) (opC g):=by
 intro c F H σ ρ p q pv v u Q rel r1 r2 e k
 unfold opC at e
 split at e
 ·cases e
  cases r1.int
  cases r2.int
  exact k _ F H rel (Same.refl _) (Same.refl _) Rep.bl
 ·cases e
theorem Ik{C:Int→Int→Bool}{C':Int→Int→Prop}{g:Int→Int→Int}(hC:∀i j,C i j=true→C' i j):jB K (mI C' fun i j=>.int (g i j)) (Dq C g):=by
 intro c F H σ ρ p q pv v u Q rel r1 r2 e k
 unfold Dq at e
 split at e
 ·split at e
  ·rename_i hc
   cases e
   cases r1.int
   cases r2.int
   exact⟨hC _ _ hc,k _ F H rel (Same.refl _) (Same.refl _) Rep.int⟩
  ·cases e
 ·cases e
def ť:=wD fun i j=>i-j
theorem ŗ:jB K (Ao fun i j=>.int (i-j)) ť:=Vr
def fG(_ j:Int):Bool:=decide (j≠0) && decide (bits j≤8000)
def aU:=Dq fG fun i j=>i.fdiv j
theorem Ž:jB K (mI Fx fun i j=>.int (i.fdiv j)) aU:=Ik fun i j h=>by unfold fG at h;simpa[Fx] using h
def Ea(_ j:Int):Bool:=decide (j≠0)
def ō:=Dq Ea fun i j=>i.fmod j
theorem ņ:jB K (mI (fun _ j=>j≠0) fun i j=>.int (i.fmod j)) ō:=Ik fun i j h=>by unfold Ea at h;simpa using h
def wV(i j:Int):Bool:=decide (0≤j) && decide (j.natAbs≤1000000) && decide (i.natAbs<18446744073709551616)
def ou:=Dq wV fun i j=>i ^ j.toNat
theorem oA:jB K (mI Fi fun i j=>.int (i ^ j.toNat)) ou:=Ik fun i j h=>by
 unfold wV at h
 simp only[Bool.and_eq_true,decide_eq_true_eq] at h
 exact⟨h.1.1,by omega,by have:=h.2;simpa using this⟩
def oE(i j:Int):Bool:=decide (0≤j) && decide (j.natAbs≤1000000) && decide (i.natAbs<18446744073709551616)
def wW:=Dq oE fun i j=>i*2 ^ j.toNat
theorem Az:jB K (mI Fi fun i j=>.int (i*2 ^ j.toNat)) wW:=Ik fun i j h=>by
 unfold oE at h
 simp only[Bool.and_eq_true,decide_eq_true_eq] at h
 exact⟨h.1.1,by omega,by have:=h.2;simpa using this⟩
def wX(_ j:Int):Bool:=decide (0≤j)
def wY:=Dq wX fun i j=>i / 2 ^ j.toNat
theorem Zad:jB K (mI (fun _ j=>0≤j) fun i j=>.int (i / 2 ^ j.toNat)) wY:=Ik fun i j h=>by unfold wX at h;simpa using h
def oF:=wD fun i j=>Builtin.bitAnd i j
theorem Td:jB K (Ao fun i j=>.int (Builtin.bitAnd i j)) oF:=Vr
theorem A_:aC X (binaryOp .LShift) (mI Fi fun i j=>.int (i*2 ^ j.toNat)):=aC.wk Yk qT
theorem Zae:aC X (binaryOp .RShift) (mI (fun _ j=>0≤j) fun i j=>.int (i / 2 ^ j.toNat)):=aC.wk Yl qT
theorem Te:aC X (binaryOp .BitAnd) (Ao fun i j=>.int (Builtin.bitAnd i j)):=aC.wk Ym kj
def mQ:=opC fun i j=>decide (i<j)
def mR:=opC fun i j=>decide (i≤j)
def Tf:=opC fun i j=>decide (j<i)
def Il:=opC fun i j=>decide (j≤i)
theorem iU:jB K (Ao fun i j=>.bl (decide (i<j))) mQ:=Tc
theorem iV:jB K (Ao fun i j=>.bl (decide (i≤j))) mR:=Tc
theorem Vs:jB K (Ao fun i j=>.bl (decide (j<i))) Tf:=Tc
theorem ZdJ:jB K (Ao fun i j=>.bl (decide (j≤i))) Il:=Tc
def ř(i j:Int):Bool:=decide (i.natAbs<18446744073709551616) || decide (j.natAbs<18446744073709551616) || (decide (bits i≤1048576) && decide (bits j≤1048576))
theorem Im{i j:Int}(h:ř i j=true):qU i j:=by
 unfold ř at h
 simp only[Bool.or_eq_true,Bool.and_eq_true,decide_eq_true_eq] at h
 rcases h with(h|h)|h
 ·exact .inl (.inl ⟨by omega,by omega⟩)
 ·exact .inl (.inr ⟨by omega,by omega⟩)
 ·exact .inr h
def į:PV→PV→Option PV
 | .int i,.int j=>if ř i j=true then some (.int (i*j)) else none
 | .str z,.int n=>if 0≤n∧n≤1000∧z.length≤1000 then some (.str (S (List.replicate n.toNat z.cps.toList).flatten)) else none
 |_,_=>none
theorem ľ:jB K HX į:=by
 intro c F H σ ρ p q pv v u Q rel r1 r2 e k
 unfold į at e
 split at e
 ·split at e
  ·rename_i hc
   cases e
   cases r1.int
   cases r2.int
   exact⟨Im hc,k _ F H rel (Same.refl _) (Same.refl _) Rep.int⟩
  ·cases e
 ·split at e
  ·rename_i hc
   cases e
   cases r1.str
   cases r2.int
   exact⟨hc,k _ F H rel (Same.refl _) (Same.refl _) Rep.str⟩
  ·cases e
 ·cases e
def ZdK(mr:M (List PV))(mk:M PV):M RV:=fun ρ=>(mr ρ).bind fun ps ρ1=>if ps.length≤16777216 then(mk ρ1).bind fun q ρ2=>match q with
 | .int k=>if -(2 ^ 60)≤k∧k<2 ^ 60∧ps.length*k.toNat≤16777216 then .ok (.ow (List.replicate k.toNat ps).flatten) ρ2 else .bad
 |_=>.bad else .bad
variable{E:L2.St→XK}{a b e:Expr}{es:List Expr}{pos:Pos}{ma mb:M PV}{mr:M (List PV)}
def gG:PV→Option PV
 | .int i=>some (.int (-i))
 |_=>none
theorem gH:UnV K (mU fun i=>.int (-i)) gG:=by
 intro c F H σ ρ p pv v Q rel r1 e k
 unfold gG at e
 split at e
 ·cases e
  cases r1.int
  exact k _ F H rel (Same.refl _) (Same.refl _) Rep.int
 ·cases e
mutual
def eqB:PV→PV→Bool
 | .non,.non=>true
 | .bl a,.bl b=>a== b
 | .bl a,.int j=>(if a then 1 else 0)== j
 | .int i,.bl b=>i== (if b then 1 else 0)
 | .int i,.int j=>i== j
 | .str x,.str y=>x== y
 | .lst xs,.lst ys=>dU xs ys
 | .tup xs,.tup ys=>dU xs ys
 |_,_=>false
def dU:List PV→List PV→Bool
 | [],[]=>true
 |x::xs,y::ys=>eqB x y && dU xs ys
 |_,_=>false
end
mutual
def aL:PV→Bool
 | .non| .bl _| .int _=>true
 | .str x=>PyData.strOk x
 | .lst xs=>cF xs
 | .tup xs=>cF xs
 |_=>false
def cF:List PV→Bool
 | []=>true
 |x::xs=>aL x && cF xs
end
mutual
def dep:PV→Nat
 | .lst xs=>qw xs+1
 | .tup xs=>qw xs+1
 |_=>0
def qw:List PV→Nat
 | []=>0
 |x::xs=>max (dep x) (qw xs)
end
mutual
def toD:PV→PyData
 | .non=>.none
 | .bl b=>.bool b
 | .int i=>.int i
 | .str x=>.str x
 | .lst xs=>.list (dW xs)
 | .tup xs=>.tuple (dW xs)
 |_=>.none
def dW:List PV→List PyData
 | []=>[]
 |x::xs=>toD x::dW xs
end
mutual
theorem eY:∀p:PV,aL p=true→(toD p).canLay0=true
 | .non,_=>rfl
 | .bl _,_=>rfl
 | .int _,_=>rfl
 | .str x,h=>by unfold aL at h;unfold toD PyData.canLay0;exact h
 | .lst xs,h=>by unfold aL at h;unfold toD PyData.canLay0;exact gJ xs h
 | .tup xs,h=>by unfold aL at h;unfold toD PyData.canLay0;exact gJ xs h
 | .ins _ _ _,h=>by simp[aL] at h
 | .xc _ _ _,h=>by simp[aL] at h
 | .ty _,h=>by simp[aL] at h
 | .cls _,h=>by simp[aL] at h
theorem gJ:∀ps:List PV,cF ps=true→PyData.canLayAll0 (dW ps)=true
 | [],_=>rfl
 |p::ps,h=>by
  unfold cF at h
  rw[Bool.and_eq_true] at h
  unfold dW PyData.canLayAll0
  rw[eY p h.1,gJ ps h.2]
  rfl
end
mutual
theorem eZ:∀p:PV,(toD p).depth=dep p
 | .non=>rfl
 | .bl _=>rfl
 | .int _=>rfl
 | .str x=>rfl
 | .lst xs=>by unfold toD PyData.depth dep;rw[oG xs]
 | .tup xs=>by unfold toD PyData.depth dep;rw[oG xs]
 | .ins _ _ _=>rfl
 | .xc _ _ _=>rfl
 | .ty _=>rfl
 | .cls _=>rfl
theorem oG:∀ps:List PV,PyData.depthAll (dW ps)=qw ps
 | []=>rfl
 |p::ps=>by unfold dW PyData.depthAll qw;rw[eZ p,oG ps]
end
mutual
theorem uE:∀p q:PV,aL p=true→aL q=true→PyData.eqv (toD p) (toD q)=eqB p q
 | .lst xs,.lst ys,h1,h2=>by
   unfold aL at h1 h2
   unfold toD eqB PyData.eqv
   exact uF xs ys h1 h2
 | .tup xs,.tup ys,h1,h2=>by
   unfold aL at h1 h2
   unfold toD eqB PyData.eqv
   exact uF xs ys h1 h2
 | .ins _ _ _,_,h,_=>by simp[aL] at h
 | .xc _ _ _,_,h,_=>by simp[aL] at h
 | .ty _,_,h,_=>by simp[aL] at h
 | .cls _,_,h,_=>by simp[aL] at h
 | .non,q,_,h=>by cases q<;>first|rfl|(simp[aL] at h)|(simp[toD,eqB,PyData.eqv])
 | .bl _,q,_,h=>by cases q<;>first|rfl|(simp[aL] at h)|(simp[toD,eqB,PyData.eqv])
 | .int _,q,_,h=>by cases q<;>first|rfl|(simp[aL] at h)|(simp[toD,eqB,PyData.eqv])
 | .str _,q,_,h=>by cases q<;>first|rfl|(simp[aL] at h;done)|(simp[toD,eqB,PyData.eqv])
 | .lst _,.non,_,_=>by simp[toD,eqB,PyData.eqv]
 | .lst _,.bl _,_,_=>by simp[toD,eqB,PyData.eqv]
 | .lst _,.int _,_,_=>by simp[toD,eqB,PyData.eqv]
 | .lst _,.str _,_,_=>by simp[toD,eqB,PyData.eqv]
 | .lst _,.tup _,_,_=>by simp[toD,eqB,PyData.eqv]
 | .lst _,.ins _ _ _,_,h=>by simp[aL] at h
 | .lst _,.xc _ _ _,_,h=>by simp[aL] at h
 | .lst _,.ty _,_,h=>by simp[aL] at h
 | .lst _,.cls _,_,h=>by simp[aL] at h
 | .tup _,.non,_,_=>by simp[toD,eqB,PyData.eqv]
 | .tup _,.bl _,_,_=>by simp[toD,eqB,PyData.eqv]
 | .tup _,.int _,_,_=>by simp[toD,eqB,PyData.eqv]
 | .tup _,.str _,_,_=>by simp[toD,eqB,PyData.eqv]
 | .tup _,.lst _,_,_=>by simp[toD,eqB,PyData.eqv]
 | .tup _,.ins _ _ _,_,h=>by simp[aL] at h
 | .tup _,.xc _ _ _,_,h=>by simp[aL] at h
 | .tup _,.ty _,_,h=>by simp[aL] at h
 | .tup _,.cls _,_,h=>by simp[aL] at h
theorem uF:∀ps qs:List PV,cF ps=true→cF qs=true→PyData.eqvAll (dW ps) (dW qs)=dU ps qs
 | [],[],_,_=>by simp[dW,dU,PyData.eqvAll]
 | [],_::_,_,_=>by simp[dW,dU,PyData.eqvAll]
 |_::_,[],_,_=>by simp[dW,dU,PyData.eqvAll]
 |p::ps,q::qs,h1,h2=>by
  unfold cF at h1 h2
  rw[Bool.and_eq_true] at h1 h2
  unfold dW dU PyData.eqvAll
  rw[uE p q h1.1 h2.1,uF ps qs h1.2 h2.2]
end
mutual
theorem Io{F:Hp}:∀(p:PV) (v:V),aL p=true→Rep K F p v→Rp K.K F (toD p) v
 | .non,_,_,r=>by unfold Rep at r;unfold toD Rp;exact r
 | .bl _,_,_,r=>by unfold Rep at r;unfold toD Rp;exact r
 | .int _,_,_,r=>by unfold Rep at r;unfold toD Rp;exact r
 | .str _,_,_,r=>by unfold Rep at r;unfold toD Rp;exact r
 | .lst xs,_,h,r=>by
   unfold aL at h
   unfold Rep at r
   unfold toD Rp
   obtain⟨a,vs,h1,h2,h3⟩:=r
   exact⟨a,vs,h1,h2,h_ xs vs h h3⟩
 | .tup xs,_,h,r=>by
   unfold aL at h
   unfold Rep at r
   unfold toD Rp
   obtain⟨a,vs,h1,h2,h3⟩:=r
   exact⟨a,vs,h1,h2,h_ xs vs h h3⟩
 | .ins _ _ _,_,h,_=>by simp[aL] at h
 | .xc _ _ _,_,h,_=>by simp[aL] at h
 | .ty _,_,h,_=>by simp[aL] at h
 | .cls _,_,h,_=>by simp[aL] at h
theorem h_{F:Hp}:∀(ps:List PV) (vs:List V),cF ps=true→ĝ K F ps vs→kE K.K F (dW ps) vs
 | [],_,_,r=>by unfold ĝ at r;unfold dW kE;exact r
 |p::ps,_,h,r=>by
  unfold cF at h
  rw[Bool.and_eq_true] at h
  unfold ĝ at r
  unfold dW kE
  obtain⟨x,t,h1,h2,h3⟩:=r
  exact⟨x,t,h1,Io p x h.1 h2,h_ ps t h.2 h3⟩
end
theorem iu{c:Ctx}{F H:Hp}{σ:L2.St}{ρ:ŏ}{p:PV}{v:V}(s:Same F H)(h:aL p=true)(r:rR K c σ ρ F H p v):Rp K.K H (toD p) v:=by
 rcases r with r|r
 ·exact Rp.same s _ _ (Io p v h r)
 ·cases p with
  |lst ps=>
   obtain⟨a,vs,rfl,h3,h4⟩:=r
   unfold aL at h
   unfold toD Rp
   exact⟨a,vs,rfl,aJ.of h3,kE.same s _ _ (h_ ps vs h h4)⟩
  |ins C ns ps=>simp[aL] at h
  |_=>exact r.elim
def qy(p q:PV):Bool:=aL p && aL q && decide (min (dep p) (dep q)≤60)
def aG(p q:PV):Option PV:=if qy p q=true then some (.bl (eqB p q)) else none
def cG(p q:PV):Option PV:=if qy p q=true then some (.bl (!eqB p q)) else none
theorem aB:jB K (RT K.K false) aG:=by
 intro c F H σ ρ p q pv v u Q rel r1 r2 e k
 unfold aG at e
 split at e
 ·rename_i hz
  cases e
  unfold qy at hz
  simp only[Bool.and_eq_true,decide_eq_true_eq] at hz
  refine⟨toD p,toD q,iu rel.sub hz.1.1 r1,iu rel.sub hz.1.2 r2,eY p hz.1.1,eY q hz.1.2,by rw[eZ,eZ];exact hz.2,?_⟩
  rw[uE p q hz.1.1 hz.1.2]
  exact k _ F H rel (Same.refl _) (Same.refl _) Rep.bl
 ·cases e
theorem oH:jB K (RT K.K true) cG:=by
 intro c F H σ ρ p q pv v u Q rel r1 r2 e k
 unfold cG at e
 split at e
 ·rename_i hz
  cases e
  unfold qy at hz
  simp only[Bool.and_eq_true,decide_eq_true_eq] at hz
  refine⟨toD p,toD q,iu rel.sub hz.1.1 r1,iu rel.sub hz.1.2 r2,eY p hz.1.1,eY q hz.1.2,by rw[eZ,eZ];exact hz.2,?_⟩
  rw[uE p q hz.1.1 hz.1.2]
  exact k _ F H rel (Same.refl _) (Same.refl _) Rep.bl
 ·cases e
def wZ:PV→Bool
 | .non=>true
 |_=>false
def qC(p q:PV):Option PV:=match q with
 | .non=>some (.bl (wZ p))
 |_=>none
def Ti(p q:PV):Option PV:=match q with
 | .non=>some (.bl (!wZ p))
 |_=>none
theorem Tj{c:Ctx}{F H:Hp}{σ:L2.St}{ρ:ŏ}{p:PV}{v:V}(r:rR K c σ ρ F H p v):decide (v=.non)=wZ p:=by
 rcases r with r|r
 ·cases p<;>unfold Rep at r<;>first
   |(subst r;rfl)
   |(obtain⟨a,xs,rfl,_⟩:=r;rfl)
   |(obtain⟨a,xs,ys,rfl,_⟩:=r;rfl)
 ·cases p with
  |lst ps=>obtain⟨a,vs,rfl,_⟩:=r;rfl
  |ins C ns ps=>obtain⟨a,dx,fs,rfl,_⟩:=r;rfl
  |_=>exact r.elim
theorem q_:jB K (fun x y H Q=>y=.non∧Q (.bl (decide (x=.non))) H) qC:=by
 intro c F H σ ρ p q pv v u Q rel r1 r2 e k
 unfold qC at e
 split at e
 ·cases e
  refine⟨r2.non,?_⟩
  rw[Tj r1]
  exact k _ F H rel (Same.refl _) (Same.refl _) Rep.bl
 ·cases e
def ě:PV→PV→Option PV
 | .lst ps,.int i=>uc ps i
 | .tup ps,.int i=>uc ps i
 | .str z,.int i=>if z.length≤16777216 then(uc z.cps.toList i).map fun c=>.str ⟨#[c]⟩ else none
 |_,_=>none
theorem Eb{F:Hp}{ps:List PV}{vs:List V}{i:Int}{p:PV}(r:ĝ K F ps vs)(h:uc ps i=some p):∃v,uc vs i=some v∧Rep K F p v:=by
 unfold uc at h ⊢
 rw[r.length] at h
 cases e:Gz vs.length i with
 |none=>rw[e] at h;cases h
 |some j=>
  rw[e] at h
  obtain⟨v,h1,h2⟩:=cM r.pr h
  exact⟨v,h1,h2⟩
theorem Ĕ:jB K (mIx K.K) ě:=by
 intro c F H σ ρ p q pv v u Q rel r1 r2 e k
 unfold ě at e
 split at e
 ·obtain⟨a,vs,rfl,h1,h2⟩:=r1.lst rel.sub
  cases r2.int
  obtain⟨x,h3,h4⟩:=Eb h2 e
  exact⟨vs,x,.inl h1,h3,k _ F H rel (Same.refl _) (Same.refl _) h4⟩
 ·obtain⟨a,vs,rfl,h1,h2⟩:=r1.tup rel.sub
  cases r2.int
  obtain⟨x,h3,h4⟩:=Eb h2 e
  exact⟨vs,x,.inr h1,h3,k _ F H rel (Same.refl _) (Same.refl _) h4⟩
 ·split at e
  ·rename_i z i hz
   cases r1.str
   cases r2.int
   cases ea:uc z.cps.toList i with
   |none=>rw[ea] at e;cases e
   |some cc=>
    rw[ea] at e
    cases e
    exact⟨cc,by rw[Ŏ];exact hz,ea,k _ F H rel (Same.refl _) (Same.refl _) Rep.str⟩
  ·cases e
 ·cases e
def xg:M (Option Int):=fun ρ=>.ok none ρ
def mP(m:M PV):M (Option Int):=fun ρ=>(m ρ).bind fun p ρ1=>match p with
 | .int i=>.ok (some i) ρ1
 |_=>.bad
abbrev tP(K:KK)(E:L2.St→XK)(m:M (Option Int)):TO:=tG K E rI m
theorem oJ:PO X none (tP (kk X cm) E xg):=fun pins s σ H Q I h=>RK pins s σ H Q I (by
 obtain⟨c,F,ρ,rel,h⟩:=h
 exact h none F H rel (Same.refl _) (Same.refl _) rfl)
theorem aO(ha:PE X e (tV (kk X cm) E ma)):PO X (some e) (tP (kk X cm) E (mP ma)):=fun pins s σ H Q I h=>Hz ha pins s σ H Q I (by
 obtain⟨c,F,ρ,rel,h⟩:=h
 refine⟨c,F,ρ,rel,h.bind fun p ρ1 v F1 H1 ę _ _ r1 h1=>?_⟩
 cases p with
 |int i=>
  have e:v=.int i:=by have r1':Rep (kk X cm) F1 (.int i) v:=r1;unfold Rep at r1';exact r1'
  subst e
  exact h1 (some i) F1 H1 ę (Same.refl _) (Same.refl _) rfl
 |_=>exact h1.elim)
def cg{α:Type}(xs:List α)(lo hi:Option Int):List α:= (xs.drop (HT.gW xs.length 0 lo)).take (HT.gW xs.length xs.length hi-HT.gW xs.length 0 lo)
def Tn(p:PV)(lo hi:Option Int):Option RV:=match p with
 | .lst ps=>some (.ow (cg ps lo hi))
 | .str z=>if z.length≤16777216 then some (.sh (.str (S (cg z.cps.toList lo hi)))) else none
 |_=>none
def Ba(ma:M PV)(ml mh:M (Option Int)):M RV:=fun ρ=>(ma ρ).bind fun p ρ1=>(ml ρ1).bind fun lo ρ2=>(mh ρ2).bind fun hi ρ3=>Res.nF (Tn p lo hi) ρ3
theorem bT{ml mh:M (Option Int)}{lo hi:Option Expr}{p2:Pos}(ha:PE X a (tR (kk X cm) E ma))(hl:PO X lo (tP (kk X cm) E ml))(hh:PO X hi (tP (kk X cm) E mh)):PE X (.Subscript a (.Slice lo hi none p2) pos) (tO (kk X cm) E (Ba ma ml mh)):=
 PE.wk (Hr slm ha hl hh) fun σ H Q ⟨c,F,ρ,rel,h⟩=>⟨c,F,ρ,rel,h.bind fun p ρ1 v F1 H1 ę _ _ r1 h1=>⟨c,F1,ρ1,ę,h1.bind fun lo ρ2 lo' F2 H2 Ŋ sF sH r2 h2=>⟨c,F2,ρ2,Ŋ,h2.bind fun hi ρ3 hi' F3 H3 mO sF3 sH3 r3 h3=>by
   have e2:lo=lo':=r2
   have e3:hi=hi':=r3
   subst e2 e3
   have r1':rR (kk X cm) c σ ρ3 F3 H3 p v:=r1.mono (sF.trans sF3) (sH.trans sH3)
   cases p with
   |lst ps=>
    obtain⟨a,vs,rfl,q1,q2⟩:=r1'.lst mO.sub
    refine⟨vs,q1,fun d hd=>?_⟩
    have e:ĝ (kk X cm) F3 (cg ps lo hi) (wF vs lo hi):=by
     unfold cg wF
     rw[q2.length]
     exact ĝ.of (DK _ (DN _ q2.pr))
    obtain⟨z1,z2⟩:=gB mO hd e
    exact h3 _ F3 _ z1 (Same.refl _) (Same.upd hd) z2
   |str z=>
    cases r1'.str
    unfold Tn at h3
    dsimp only at h3
    split at h3
    ·rename_i hz
     exact⟨by rw[Ŏ];exact hz,h3 _ F3 H3 mO (Same.refl _) (Same.refl _) (Rep.str (K:=kk X cm) (F:=F3))⟩
    ·exact h3.elim
   |_=>exact h3.elim⟩⟩⟩
theorem Bb{c:Ctx}{F H:Hp}{σ:L2.St}{ρ:ŏ}{p:PV}{vs:List V}(h:rRL K c σ ρ F H [p] vs):∃v,vs=[v]∧rR K c σ ρ F H p v:=by
 cases h with
 |cons r t=>cases t;exact⟨_,rfl,r⟩
theorem rl2{c:Ctx}{F H:Hp}{σ:L2.St}{ρ:ŏ}{p q:PV}{vs:List V}(h:rRL K c σ ρ F H [p,q] vs):∃v u,vs=[v,u]∧rR K c σ ρ F H p v∧rR K c σ ρ F H q u:=by
 cases h with
 |cons r t=>
  cases t with
  |cons r' t=>cases t;exact⟨_,_,rfl,r,r'⟩
def jC:List PV→Option PV
 | [.lst ps]=>some (.int ps.length)
 | [.tup ps]=>some (.int ps.length)
 | [.str z]=>if z.length≤16777216 then some (.int z.length) else none
 |_=>none
theorem fj:dN K (YQ K.K) jC:=by
 intro c F H σ ρ ps pv vs Q rel r e k
 unfold jC at e
 split at e
 ·cases e
  obtain⟨v,rfl,r1⟩:=Bb r
  obtain⟨a,xs,rfl,h1,h2⟩:=r1.lst rel.sub
  refine⟨xs,.inl h1,?_⟩
  rw[←h2.length]
  exact k _ F H rel (Same.refl _) (Same.refl _) Rep.int
 ·cases e
  obtain⟨v,rfl,r1⟩:=Bb r
  obtain⟨a,xs,rfl,h1,h2⟩:=r1.tup rel.sub
  refine⟨xs,.inr h1,?_⟩
  rw[←h2.length]
  exact k _ F H rel (Same.refl _) (Same.refl _) Rep.int
 ·split at e
  ·rename_i hz
   cases e
   obtain⟨v,rfl,r1⟩:=Bb r
   cases r1.str
   exact⟨by rw[Ŏ];exact hz,k _ F H rel (Same.refl _) (Same.refl _) Rep.int⟩
  ·cases e
 ·cases e
def Tp:List PV→Option PV
 | [.int i]=>some (.int (if i<0 then -i else i))
 |_=>none
theorem Zaf:dN K mAbs Tp:=by
 intro c F H σ ρ ps pv vs Q rel r e k
 unfold Tp at e
 split at e
 ·cases e
  obtain⟨v,rfl,r1⟩:=Bb r
  cases r1.int
  exact k _ F H rel (Same.refl _) (Same.refl _) Rep.int
 ·cases e
def rm:List PV→Option PV
 | [.int i,.int j]=>some (.int (if j<i then j else i))
 |_=>none
def Ec:List PV→Option PV
 | [.int i,.int j]=>some (.int (if j>i then j else i))
 |_=>none
theorem uG:dN K Hx rm:=by
 intro c F H σ ρ ps pv vs Q rel r e k
 unfold rm at e
 split at e
 ·cases e
  obtain⟨v,u,rfl,r1,r2⟩:=rl2 r
  cases r1.int
  cases r2.int
  exact k _ F H rel (Same.refl _) (Same.refl _) Rep.int
 ·cases e
theorem Tq:dN K Hy Ec:=by
 intro c F H σ ρ ps pv vs Q rel r e k
 unfold Ec at e
 split at e
 ·cases e
  obtain⟨v,u,rfl,r1,r2⟩:=rl2 r
  cases r1.int
  cases r2.int
  exact k _ F H rel (Same.refl _) (Same.refl _) Rep.int
 ·cases e
def dX:List PV→Option RV
 | [.lst ps]=>some (.ow ps)
 | [.tup ps]=>some (.ow ps)
 |_=>none
def Ed(K:PySem.W.Frag):List V→Hp→VK→Prop:=fun xs H Q=>∃p ys,xs=[.ref p]∧(aJ K H p ys∨dD K H p ys)∧∀l,H l=none→Q (.ref l) (upd H l (.lst ys))
theorem cV:Ţ X (.type "list") (Ed X.K):=ug
theorem cW:Vl K (Ed K.K) dX:=by
 intro c F H σ ρ ps pv vs Q rel r e k
 unfold dX at e
 split at e
 ·cases e
  obtain⟨v,rfl,r1⟩:=Bb r
  obtain⟨a,xs,rfl,h1,h2⟩:=r1.lst rel.sub
  refine⟨a,xs,rfl,.inl h1,fun l hl=>?_⟩
  obtain⟨q1,q2⟩:=gB rel hl h2
  exact k _ F _ q1 (Same.refl _) (Same.upd hl) q2
 ·cases e
  obtain⟨v,rfl,r1⟩:=Bb r
  obtain⟨a,xs,rfl,h1,h2⟩:=r1.tup rel.sub
  refine⟨a,xs,rfl,.inr h1,fun l hl=>?_⟩
  obtain⟨q1,q2⟩:=gB rel hl h2
  exact k _ F _ q1 (Same.refl _) (Same.upd hl) q2
 ·cases e
def qD:PV→String→Option Bool
 | .int _,"int" =>some true
 | .int _,"bool" =>some false
 | .int _,"str" =>some false
 | .int _,"tuple" =>some false
 | .int _,"list" =>some false
 | .bl _,"int" =>some true
 | .bl _,"bool" =>some true
 | .lst _,"list" =>some true
 | .lst _,"tuple" =>some false
 | .lst _,"int" =>some false
 | .lst _,"str" =>some false
 | .tup _,"tuple" =>some true
 | .tup _,"list" =>some false
 | .tup _,"int" =>some false
 | .tup _,"str" =>some false
 | .str _,"str" =>some true
 | .str _,"int" =>some false
 | .str _,"list" =>some false
 | .str _,"tuple" =>some false
 | .non,"int" =>some false
 | .non,"str" =>some false
 | .non,"tuple" =>some false
 | .non,"list" =>some false
 |_,_=>none
end
theorem xq{K:KK}{F:Hp}:∀ns:List Int,ĝ K F (ns.map .int) (ns.map V.int)
 | []=>ĝ.nil
 |n::ns=>ĝ.cons Rep.int (xq ns)
def ZdL(K:PySem.W.Frag):Sp:=fun vs H Q _=>∃(sa:Addr) (ns:List Int),vs=[.ref sa]∧aJ K H sa (ns.map V.int)∧ns.length≤63∧∀v H',v=.bl true→Q v H'
end P
namespace P
open PySem PySem.Spec PyProof.Rows L2 M2 M3 M4
section
variable{X:Cx}{cm:String→Addr}{K:KK}
def TyP(K:PySem.W.Frag)(H:Hp)(x:V)(t:Value):Prop:=match x with
 | .non=>t=.type "NoneType"
 | .bl _=>t=.type "bool"
 | .int _=>t=.type "int"
 | .str _=>t=.type "str"
 | .ref a=>(t=.type "list" ∧∃xs,aJ K H a xs)∨(t=.type "tuple" ∧∃xs,dD K H a xs)∨kh K H (.ref a) t
 |_=>False
def Ef(K:PySem.W.Frag):List V→Hp→VK→Prop:=fun xs H Q=>match xs with
 | [x,.ty n]=>∃t b,TyP K H x t∧PySem.W.kitOne K t (.type n)=some b∧Q (.bl b) H
 | [x,.ref C]=>∃t b,TyP K H x t∧PySem.W.kitOne K t (.ref C)=some b∧Q (.bl b) H
 |_=>False
theorem Eh{pins:List (č)}{σ:L2.St}{H:Hp}{s:Shared}{A:Around}{E:Value→Shared→Prop}{Q:Value→Shared→Prop}{c:Value}{b:Bool}{x:V}{u t:Value}(I:Inv X pins σ H s)(rx:RelV x u)(ty:TyP X.K H x t)(e:PySem.W.kitOne X.K t c=some b)(h:∀tk,Q (.bool b) {s with toks:=tk}) :
 wpAny (model X.prog X.w) A (call (.builtin "isinstance") [u,c]) Q E s:=by
 cases x with
 |non=>cases(show t=_ from ty);exact dG I rx .non e h
 |bl y=>cases(show t=_ from ty);exact dG I rx (.bl y) e h
 |int y=>cases(show t=_ from ty);exact dG I rx (.int y) e h
 |str y=>cases(show t=_ from ty);exact dG I rx (.str y) e h
 |ref a=>
  cases(show u=Value.ref a from rx)
  rcases ty with⟨rfl,xs,hS⟩|⟨rfl,xs,hS⟩|ty
  ·obtain⟨its,r,⟨o,n,h1,h2,_⟩,_⟩:=I.list hS
   exact PySem.W.kia_one PySem.W.kitx_list I.fV ⟨o,h1,h2⟩ e (fun z=>nomatch z) h
  ·obtain⟨its,r,⟨o,h1,h2,_⟩,_⟩:=I.tuple hS
   exact PySem.W.kia_one PySem.W.kitx_tuple I.fV ⟨o,h1,h2⟩ e (fun z=>nomatch z) h
  ·exact dG I rx ty e h
 |_=>exact ty.elim
theorem Zag:Ţ X (.builtin "isinstance") (Ef X.K):=by
 intro pins s σ H xs us Q I r h
 unfold Ef at h
 split at h
 ·obtain⟨t,b,h1,h2,h3⟩:=h
  obtain⟨u,w',rfl,r1,r2⟩:=vals2 r
  cases r2
  exact Eh I r1 h1 h2 fun tk=>⟨.bl b,H,I.tok _,rfl,h3⟩
 ·obtain⟨t,b,h1,h2,h3⟩:=h
  obtain⟨u,w',rfl,r1,r2⟩:=vals2 r
  cases r2
  exact Eh I r1 h1 h2 fun tk=>⟨.bl b,H,I.tok _,rfl,h3⟩
 ·exact h.elim
def tyN:PV→String
 | .non=> "NoneType"
 | .bl _=> "bool"
 | .int _=> "int"
 | .str _=> "str"
 | .lst _=> "list"
 | .tup _=> "tuple"
 |_=> ""
theorem Ip{F:PySem.W.Frag}{p:PV}{n:String}{b:Bool}(h:qD p n=some b):PySem.W.kitOne F (.type (tyN p)) (.type n)=some b:=by
 unfold qD at h
 split at h<;>first
  |(cases h;first|rfl|decide +kernel|kernel_rfl)
  |cases h
theorem Tr{c:Ctx}{F H:Hp}{σ:L2.St}{ρ:ŏ}{p:PV}{v:V}(s:Same F H)(r:rR K c σ ρ F H p v)(h:∃n b,qD p n=some b):TyP K.K H v (.type (tyN p)):=by
 obtain⟨n,b,h⟩:=h
 cases p with
 |non=>cases r.non;rfl
 |bl _=>cases r.bl;rfl
 |int _=>cases r.int;rfl
 |str _=>cases r.str;rfl
 |lst ps=>
  obtain⟨a,vs,rfl,h1,h2⟩:=r.lst s
  exact .inl ⟨rfl,vs,h1⟩
 |tup ps=>
  obtain⟨a,vs,rfl,h1,h2⟩:=r.tup s
  exact .inr (.inl ⟨rfl,vs,h1⟩)
 |ins _ _ _=>simp[qD] at h
 |xc _ _ _=>simp[qD] at h
 |ty _=>simp[qD] at h
 |cls _=>simp[qD] at h
def Ir:List PV→Option PV
 | [p,.ty n]=>(qD p n).map .bl
 |_=>none
theorem Iu:dN K (Ef K.K) Ir:=by
 intro c F H σ ρ ps pv vs Q rel r e k
 unfold Ir at e
 split at e
 ·rename_i p n
  obtain⟨v,u,rfl,r1,r2⟩:=rl2 r
  cases r2.ty
  cases eb:qD p n with
  |none=>rw[eb] at e;cases e
  |some b=>
   rw[eb] at e
   cases e
   exact⟨_,b,Tr rel.sub r1 ⟨n,b,eb⟩,Ip eb,k _ F H rel (Same.refl _) (Same.refl _) Rep.bl⟩
 ·cases e
def oK:List PV→Option PV
 | [.lst ps]=>some (.tup ps)
 | [.tup ps]=>some (.tup ps)
 |_=>none
def Iv(K:PySem.W.Frag):List V→Hp→VK→Prop:=fun xs H Q=>∃p ys,xs=[.ref p]∧((aJ K H p ys∧∀l,H l=none→Q (.ref l) (upd H l (.tup ys)))∨(dD K H p ys∧Q (.ref p) H))
theorem Iw:Ţ X (.type "tuple") (Iv X.K):=qt
theorem Iz:dN K (Iv K.K) oK:=by
 intro c F H σ ρ ps pv vs Q rel r e k
 unfold oK at e
 split at e
 ·cases e
  obtain⟨v,rfl,r1⟩:=Bb r
  obtain⟨a,xs,rfl,h1,h2⟩:=r1.lst rel.sub
  refine⟨a,xs,rfl,.inl ⟨h1,fun l hl=>k _ _ _ (rel.alloc hl) (Same.upd (rel.sub.free hl)) (Same.upd hl) ?_⟩⟩
  unfold Rep
  exact⟨l,xs,rfl,dD.of Ĭ,ĝ.same (Same.upd (rel.sub.free hl)) _ _ h2⟩
 ·cases e
  obtain⟨v,rfl,r1⟩:=Bb r
  have r1':=r1
  obtain⟨a,xs,rfl,h1,h2⟩:=r1.tup rel.sub
  refine⟨a,xs,rfl,.inr ⟨h1,k _ F H rel (Same.refl _) (Same.refl _) ?_⟩⟩
  rcases r1' with q|q
  ·exact q
  ·exact q.elim
 ·cases e
def boolsOf:List PV→Option (List Bool)
 | []=>some []
 | .bl b::ps=>(boolsOf ps).map (b:: ·)
 |_::_=>none
theorem rz{F:Hp}:∀{ps:List PV} {vs:List V} {bs:List Bool},ĝ K F ps vs→boolsOf ps=some bs→vs=bs.map V.bl
 | [],vs,bs,r,h=>by
   cases h
   have r':=r.pr
   cases r'
   rfl
 |p::ps,vs,bs,r,h=>by
  cases p with
  |bl b=>
   unfold boolsOf at h
   cases eb:boolsOf ps with
   |none=>rw[eb] at h;cases h
   |some cs=>
    rw[eb] at h
    cases h
    have r':=r.pr
    cases r' with
    |cons r1 t=>
     rw[uz r1,rz (ĝ.of t) eb]
     rfl
  |_=>simp[boolsOf] at h
def mV:List PV→Option PV
 | [.lst ps]=>(boolsOf ps).map fun bs=>.bl (bs.all id)
 |_=>none
theorem kJ:dN K (Y_ K.K) mV:=by
 intro c F H σ ρ ps pv vs Q rel r e k
 unfold mV at e
 split at e
 ·rename_i ps
  obtain⟨v,rfl,r1⟩:=Bb r
  obtain⟨a,xs,rfl,h1,h2⟩:=r1.lst rel.sub
  cases eb:boolsOf ps with
  |none=>rw[eb] at e;cases e
  |some bs=>
   rw[eb] at e
   cases e
   refine⟨bs,by rw[←rz h2 eb];exact h1,k _ F H rel (Same.refl _) (Same.refl _) Rep.bl⟩
 ·cases e
end
end P
namespace P
open PySem PySem.Spec PyProof.Rows L2 M2 M3 M4
section
variable{α β:Type}{ρ:ŏ}{i j n k:Nat}{p q:PV}{ps:List PV}{m ma mb mc:M PV}{mo:M RV}{a b:M Fl}{ta tb:M Bool}{mr:M (List PV)}{f:PV→PV→Option PV}{fo:PV→PV→Option RV}{fl:List PV→Option PV}{flo:List PV→Option RV}{g:Tg}{gs:GC}
@[simp] theorem Zpb:dO ρ=.ok .nx ρ:= rfl
@[simp] theorem Zpc:mBk ρ=.ok .bk ρ:= rfl
@[simp] theorem Zpd:mCt ρ=.ok .ct ρ:= rfl
@[simp] theorem Zk3:(ZkX:M α) ρ=.bad:=rfl
@[simp] theorem Zk4:Ğ a b ρ=(a ρ).bind fun f ρ1=>match f with| .nx=>b ρ1|f=>.ok f ρ1:=rfl
@[simp] theorem Zk5:Ĵ i mo ρ=(mo ρ).bind fun r ρ1=>.ok .nx (ρ1.set i r.slot):=rfl
@[simp] theorem Zk6:ĳ mo ρ=(mo ρ).bind fun r ρ1=>.ok (.rt r) ρ1:=rfl
@[simp] theorem ZjL:ZdE ρ=.ok (.rt (.sh .non)) ρ:= rfl
@[simp] theorem ZjM:wN m ρ=(m ρ).bind fun _ ρ1=>.ok .nx ρ1:=rfl
@[simp] theorem Zpu:mC p ρ=.ok p ρ:= rfl
@[simp] theorem Zpe:Ř m ρ=(m ρ).bind fun p ρ1=>.ok (.sh p) ρ1:=rfl
@[simp] theorem Zk7:Ė mo ρ=(mo ρ).bind fun r ρ1=>.ok r.val ρ1:=rfl
@[simp] theorem Zk8:(RV.sh p).val=p:=rfl
@[simp] theorem Zk9:(RV.ow ps).val=.lst ps:=rfl
@[simp] theorem Zk_:(RV.sh p).slot=.sh p:=rfl
@[simp] theorem Zla:(RV.ow ps).slot=.ow ps:=rfl
@[simp] theorem Zlb:Ĉ f ma mb ρ=(ma ρ).bind fun p ρ1=>(mb ρ1).bind fun q ρ2=>Res.nF (f p q) ρ2:=rfl
@[simp] theorem ZjN:ł fo ma mb ρ=(ma ρ).bind fun p ρ1=>(mb ρ1).bind fun q ρ2=>Res.nF (fo p q) ρ2:=rfl
@[simp] theorem Zpf{u:PV→Option PV}:jr u ma ρ=(ma ρ).bind fun p ρ1=>Res.nF (u p) ρ1:=rfl
@[simp] theorem Zlc:cR m ρ=(m ρ).bind fun p ρ1=>Res.nF (tru p) ρ1:=rfl
@[simp] theorem Zpg:dF m ρ=(m ρ).bind fun p ρ1=>match p with| .bl b=>.ok b ρ1|_=>.bad:=rfl
@[simp] theorem ZjO:dI ta ρ=(ta ρ).bind fun b ρ1=>.ok (!b) ρ1:=rfl
@[simp] theorem ZjP:iQ ta tb ρ=(ta ρ).bind fun b ρ1=>if b=true then tb ρ1 else .ok false ρ1:=rfl
@[simp] theorem Zld:Sw ta tb ρ=(ta ρ).bind fun b ρ1=>if b=true then .ok true ρ1 else tb ρ1:=rfl
@[simp] theorem Zle:eV ma mb ρ=(ma ρ).bind fun p ρ1=>match p with| .bl b=>if b=true then mb ρ1 else .ok (.bl false) ρ1|_=>.bad:=by
  unfold eV
  congr
  funext p ρ1
  cases p with
  |bl b=>cases b<;>rfl
  |_=>rfl
@[simp] theorem Zph:mOr ma mb ρ=(ma ρ).bind fun p ρ1=>match p with| .bl b=>if b=true then .ok (.bl true) ρ1 else mb ρ1|_=>.bad:=by
  unfold mOr
  congr
  funext p ρ1
  cases p with
  |bl b=>cases b<;>rfl
  |_=>rfl
@[simp] theorem Zlf:Ig ma ρ=(ma ρ).bind fun p ρ1=>match p with| .bl b=>.ok (.bl (!b)) ρ1|_=>.bad:=rfl
@[simp] theorem Zpi{x y:M α}:cU ta x y ρ=(ta ρ).bind fun b ρ1=>if b=true then x ρ1 else y ρ1:=rfl
@[simp] theorem Zlg{f g:PV→PV→Option PV}:uy f g ma mb mc ρ=(ma ρ).bind fun p ρ1=>(mb ρ1).bind fun q ρ2=>(Res.nF (f p q) ρ2).bind fun z ρ3=>match z with
  | .bl true=>(mc ρ3).bind fun w ρ4=>Res.nF (g q w) ρ4
  | .bl false=>.ok (.bl false) ρ3
  |_=>.bad:=rfl
@[simp] theorem Zlh:Ĝ ρ=.ok [] ρ:= rfl
@[simp] theorem ZjQ:Ą ma mr ρ=(ma ρ).bind fun p ρ1=>(mr ρ1).bind fun ps ρ2=>.ok (p::ps) ρ2:=rfl
@[simp] theorem Zli:Ś mr ρ=(mr ρ).bind fun ps ρ1=>if ps.length≤16777216 then .ok (.tup ps) ρ1 else .bad:=rfl
@[simp] theorem Zlj:bM mr ρ=(mr ρ).bind fun ps ρ1=>if ps.length≤16777216 then .ok (.ow ps) ρ1 else .bad:=rfl
@[simp] theorem Zpj:dM fl mr ρ=(mr ρ).bind fun ps ρ1=>Res.nF (fl ps) ρ1:=rfl
@[simp] theorem Zlk:nZ flo mr ρ=(mr ρ).bind fun ps ρ1=>Res.nF (flo ps) ρ1:=rfl
@[simp] theorem ZjR{mf:MF}{ms:M (List Slot)}:Ē mf ms ρ=(ms ρ).bind fun ps ρ1=>match mf ps with| .ret r=>.ok r ρ1| .exc x=>.exc x ρ1| .bad=>.bad:=rfl
@[simp] theorem Zpk:Ģ i ρ=(match ρ[i]? with|some (.sh p)=>.ok p ρ|some (.ow ps)=>.ok (.lst ps) (ρ.set i (.sh (.lst ps)))|_=>.bad):=rfl
@[simp] theorem Zpl:Ā i ρ=(match ρ[i]? with|some (.sh p)=>.ok p ρ|some (.ow ps)=>.ok (.lst ps) ρ|some (.bw ps)=>.ok (.lst ps) ρ|some (.rc C ns ps)=>.ok (.ins C ns ps) ρ|_=>.bad):=rfl
@[simp] theorem Zpm:dH i ρ=(match ρ[i]? with|some (.sh p)=>.ok (.sh p) ρ|some (.ow ps)=>.ok (.ow ps) (ρ.set i .no)|_=>.bad):=rfl
@[simp] theorem Zll:Sy g m ρ=(m ρ).bind fun p ρ1=>match g p ρ1 with|some ρ2=>.ok .nx ρ2|none=>.bad:=rfl
@[simp] theorem Zlm:ZkY i j mr ρ=(mr ρ).bind fun ps ρ1=>match ps with| [p,q]=>.ok .nx ((ρ1.set i (.sh p)).set j (.sh q))|_=>.bad:=rfl
@[simp] theorem IK:gN i p ρ=some (ρ.set i (.sh p)):=rfl
@[simp] theorem ZdM:Ŭ [] ρ=some ρ:= rfl
@[simp] theorem ZcZ:Ħ g gs (p::ps) ρ=(g p ρ).bind fun ρ1=>gs ps ρ1:=rfl
@[simp] theorem Zpn:gT n gs (.tup ps) ρ=if ps.length=n then gs ps ρ else none:=rfl
@[simp] theorem Zln:uD i m ρ=(match ρ[i]? with
  |some (.ow _)=>(m ρ).bind fun p ρ1=>match ρ1[i]? with
   |some (.ow ps)=>if ps.length<16777216 then .ok .nx (ρ1.set i (.ow (ps ++ [p]))) else .bad
   |_=>.bad
  |_=>.bad):=rfl
@[simp] theorem ZdN{mi:M PV}:Av i mi m ρ=(m ρ).bind fun p ρ1=>match ρ1[i]? with
  |some (.ow _)=>(mi ρ1).bind fun q ρ2=>match ρ2[i]?,q with
   |some (.ow ps),.int k=>match Gz ps.length k with
    |some j=>.ok .nx (ρ2.set i (.ow (ps.set j p)))
    |none=>.bad
   |_,_=>.bad
  |_=>.bad:=rfl
@[simp] theorem Zlo:xg ρ=.ok none ρ:= rfl
@[simp] theorem Zpv:mP m ρ=(m ρ).bind fun p ρ1=>match p with| .int i=>.ok (some i) ρ1|_=>.bad:=rfl
@[simp] theorem Zpo{ml mh:M (Option Int)}:Ba ma ml mh ρ=(ma ρ).bind fun p ρ1=>(ml ρ1).bind fun lo ρ2=>(mh ρ2).bind fun hi ρ3=>Res.nF (Tn p lo hi) ρ3:=rfl
@[simp] theorem Zlp{lo hi:Option Int}:Tn (.lst ps) lo hi=some (.ow (cg ps lo hi)):=rfl
@[simp] theorem ZdO:ũ m ρ=(m ρ).bind fun p ρ1=>match p with
  | .lst ps=>.ok ps ρ1
  | .tup ps=>.ok ps ρ1
  | .str z=>.ok (z.cps.toList.map fun c=>.str ⟨#[c]⟩) ρ1
  |_=>.bad:=rfl
@[simp] theorem ZdP{h:List PV→Option (List PV)}:aF h mr ρ=(mr ρ).bind fun ps ρ1=>Res.nF (h ps) ρ1:=rfl
@[simp] theorem Zah{mi:M (List PV)}:cT mi g b ρ=(mi ρ).bind fun items ρ1=>forL g b items ρ1:=rfl
@[simp] theorem ZjS{js:List Nat}{nl:Nat}{mi:M (List PV)}{mt:M Bool}{me:M PV}:Ŗ js nl mi g mt me ρ=(mi ρ).bind fun items ρ1=>match ŉ g mt me items (wR js nl ρ1) [] with
  |some ps=>.ok (.ow ps) ρ1
  |none=>.bad:=rfl
@[simp] theorem Zlq:ŋ ρ=.ok true ρ:= rfl
@[simp] theorem ZjT{mk:M PV}:ZdK mr mk ρ=(mr ρ).bind fun ps ρ1=>if ps.length≤16777216 then(mk ρ1).bind fun q ρ2=>match q with
  | .int k=>if -(2 ^ 60)≤k∧k<2 ^ 60∧ps.length*k.toNat≤16777216 then .ok (.ow (List.replicate k.toNat ps).flatten) ρ2 else .bad
  |_=>.bad else .bad:=rfl
@[simp] theorem Zlr{mbd:M Fl}{as:List Slot}:Ņ n k mbd as=if as.length=n then FR.of (mbd (startP k as)) else .bad:=rfl
@[simp] theorem Zls{r:RV}:FR.of (.ok (.rt r) ρ)=.ret r:=rfl
@[simp] theorem Zlt:FR.of (.ok .nx ρ)=.ret (.sh .non):=rfl
@[simp] theorem Zlu{x:PX}:FR.of (.exc x ρ)=.exc x:=rfl
@[simp] theorem Zlv:FR.of .bad=.bad:=rfl
@[simp] theorem ZdQ{as:List Slot}:startP k as=as++List.replicate (k-as.length) .no:=rfl
@[simp] theorem ZjU:ď ρ=.ok [] ρ:= rfl
@[simp] theorem ZdR{ms:M (List Slot)}:ė ma ms ρ=(ma ρ).bind fun p ρ1=>(ms ρ1).bind fun as ρ2=>.ok (.sh p::as) ρ2:=rfl
@[simp] theorem ZdS{ms:M (List Slot)}:ą i ms ρ=(match(ρ[i]?).bind dJ with
  |none=>.bad
  |some _=>(ms ρ).bind fun as ρ2=>match(ρ2[i]?).bind dJ with
   |some s=>.ok (s::as) ρ2
   |none=>.bad):=rfl
@[simp] theorem Zlw:dJ (.sh p)=some (.sh p):=rfl
@[simp] theorem Zlx:dJ (.ow ps)=some (.bw ps):=rfl
@[simp] theorem Zly:dJ (.bw ps)=some (.bw ps):=rfl
@[simp] theorem Zlz:wQ (.sh p)=.sh p:=rfl
@[simp] theorem ZlA:wQ (.ow ps)=.bw ps:=rfl
@[simp] theorem ZlB:wQ (.bw ps)=.bw ps:=rfl
@[simp] theorem ZlC{js:List Nat}{nl:Nat}:wR js nl ρ=js.map (fun(j:Nat)=>wQ ((ρ[j]?).getD .no))++List.replicate nl .no:=rfl
@[simp] theorem Bc:Ő i ρ=(match ρ[i]? with
  |some (.bw ps)=>.ok ps ρ
  |some (.sh (.lst ps))=>.ok ps ρ
  |some (.sh (.tup ps))=>.ok ps ρ
  |some (.sh (.str z))=>.ok (z.cps.toList.map fun c=>.str ⟨#[c]⟩) ρ
  |some (.ow ps)=>.ok ps (ρ.set i (.sh (.lst ps)))
  |_=>.bad):=rfl
@[simp] theorem ZjV{x y:Int}:Ľ (.int x) (.int y)=some (.sh (.int (x+y))):=rfl
@[simp] theorem ZjW{x y:Int}:ť (.int x) (.int y)=some (.int (x-y)):=rfl
@[simp] theorem ZjX{x y:Int}:į (.int x) (.int y)=if ř x y=true then some (.int (x*y)) else none:=rfl
@[simp] theorem ZjY{x y:Int}:aU (.int x) (.int y)=if fG x y=true then some (.int (x.fdiv y)) else none:=rfl
@[simp] theorem ZjZ{x y:Int}:ō (.int x) (.int y)=if Ea x y=true then some (.int (x.fmod y)) else none:=rfl
@[simp] theorem Zj0{x y:Int}:ou (.int x) (.int y)=if wV x y=true then some (.int (x ^ y.toNat)) else none:=rfl
@[simp] theorem Zj1{x y:Int}:wW (.int x) (.int y)=if oE x y=true then some (.int (x*2 ^ y.toNat)) else none:=rfl
@[simp] theorem Zj2{x y:Int}:wY (.int x) (.int y)=if wX x y=true then some (.int (x / 2 ^ y.toNat)) else none:=rfl
@[simp] theorem Zj3{x:Int}:gG (.int x)=some (.int (-x)):=rfl
@[simp] theorem ZlD{x y:Int}:mQ (.int x) (.int y)=some (.bl (decide (x<y))):=rfl
@[simp] theorem ZlE{x y:Int}:mR (.int x) (.int y)=some (.bl (decide (x≤y))):=rfl
@[simp] theorem ZlF{x y:Int}:Tf (.int x) (.int y)=some (.bl (decide (y<x))):=rfl
@[simp] theorem ZlG{x y:Int}:Il (.int x) (.int y)=some (.bl (decide (y≤x))):=rfl
@[simp] theorem ZlH{x y:Int}:aG (.int x) (.int y)=some (.bl (decide (x=y))):=by
  have h:eqB (.int x) (.int y)=decide (x=y):=by rw[eqB.eq_def];rfl
  rw[←h];rfl
@[simp] theorem ZlI{x y:Int}:cG (.int x) (.int y)=some (.bl (!decide (x=y))):=by
  have h:eqB (.int x) (.int y)=decide (x=y):=by rw[eqB.eq_def];rfl
  rw[←h];rfl
@[simp] theorem ZlJ{x y:Bool}:aG (.bl x) (.bl y)=some (.bl (x== y)):=rfl
@[simp] theorem ZlK{x y:Bool}:cG (.bl x) (.bl y)=some (.bl (!(x== y))):=rfl
@[simp] theorem ZlL{p:PV}:qC p .non=some (.bl (wZ p)):=rfl
@[simp] theorem Zj4{p:PV}:Ti p .non=some (.bl (!wZ p)):=rfl
@[simp] theorem ZlM{x:Int}:ě (.lst ps) (.int x)=uc ps x:=rfl
@[simp] theorem ZlN{x:Int}:ě (.tup ps) (.int x)=uc ps x:=rfl
@[simp] theorem uH:jC [.lst ps]=some (.int ps.length):=rfl
@[simp] theorem Zj5:jC [.tup ps]=some (.int ps.length):=rfl
@[simp] theorem ZlO{x:Int}:Tp [.int x]=some (.int (if x<0 then -x else x)):=rfl
@[simp] theorem ZlP{x y:Int}:rm [.int x,.int y]=some (.int (if y<x then y else x)):=rfl
@[simp] theorem ZlQ{x y:Int}:Ec [.int x,.int y]=some (.int (if y>x then y else x)):=rfl
@[simp] theorem ZdT:dX [.lst ps]=some (.ow ps):=rfl
@[simp] theorem ZdU:dX [.tup ps]=some (.ow ps):=rfl
@[simp] theorem Zj6:oK [.lst ps]=some (.tup ps):=rfl
@[simp] theorem Zj7:oK [.tup ps]=some (.tup ps):=rfl
@[simp] theorem ZlR{t:String}:Ir [p,.ty t]=(qD p t).map .bl:=rfl
@[simp] theorem Zj8{x:Bool}:tru (.bl x)=some x:=rfl
@[simp] theorem Zj9{x:Int}:tru (.int x)=some (x != 0):=rfl
@[simp] theorem Zj_:tru (.lst ps)=some (!ps.isEmpty):=rfl
@[simp] theorem IV(xs:List α)(n:Nat):uc xs (n:Int)=xs[n]?:= by
  unfold uc Gz
  rw[if_pos (by omega)]
  by_cases h:n<xs.length
  ·rw[if_pos (by omega)]
   simp
  ·rw[if_neg (by omega)]
   simp
   omega
@[simp] theorem Zka(xs:List α)(n:Nat):uc xs (no_index (OfNat.ofNat n):Int)=xs[(no_index (OfNat.ofNat n):Nat)]?:= IV xs n
@[simp] theorem Zc0{x y:Int}:Ea x y=decide (y≠0):=rfl
end
theorem bx{x y:Int}(h1: -(2 ^ 64)<x)(h2:x<2 ^ 64):ř x y=true:=by unfold ř;rw[decide_eq_true (by omega:x.natAbs<18446744073709551616)];rfl
theorem mul_r{x y:Int}(h1: -(2 ^ 64)<y)(h2:y<2 ^ 64):ř x y=true:=by unfold ř;rw[decide_eq_true (by omega:y.natAbs<18446744073709551616)];simp
theorem ZdV{x y:Int}(h1:bits x≤1048576)(h2:bits y≤1048576):ř x y=true:=by unfold ř;simp[h1,h2]
theorem xr{x y:Int}(h1:y≠0)(h2:bits y≤8000):fG x y=true:=by unfold fG;simp[h1,h2]
section
variable{g:Tg}{mb:M Fl}{mc mt:M Bool}{me:M PV}{items:List PV}{ρ:ŏ}
theorem ő{α:Type}(c f:α→PV)(I:ŏ→Prop):∀(xs:List α) (ρ:ŏ) (acc:List PV),I ρ→acc.length+xs.length≤16777216→
 (∀x∈xs,∀ρ,I ρ→∃ρ1 ρ2 ρ3,g (c x) ρ=some ρ1∧mt ρ1=.ok true ρ2∧me ρ2=.ok (f x) ρ3∧I ρ3)→ŉ g mt me (xs.map c) ρ acc=some (acc++xs.map f)
 | [],ρ,acc,_,_,_=>by simp[ŉ]
 |x::xs,ρ,acc,h,hz,hs=>by
  obtain⟨ρ1,ρ2,ρ3,h1,h2,h3,h4⟩:=hs x List.mem_cons_self ρ h
  rw[List.map_cons,ŉ,h1]
  dsimp only
  rw[h2]
  dsimp only
  rw[h3]
  dsimp only
  rw[if_pos (by simp at hz;omega),ő c f I xs ρ3 (acc ++ [f x]) h4 (by simp at hz ⊢;omega) fun y hy=>hs y (List.mem_cons_of_mem _ hy)]
  simp
theorem Bd{β:Type}(st:β→ŏ)(I:β→Prop)(μ:β→Nat)(hs:∀b,I b→mc (st b)=.ok false (st b)∨(mc (st b)=.ok true (st b)∧∃b',mb (st b)=.ok .nx (st b')∧I b'∧μ b' < μ b)){b:β}(h0:I b) :
 ∃b',ż mc mb (st b)=.ok .nx (st b')∧I b'∧mc (st b')=.ok false (st b'):=by
 have go:∀n b,μ b≤n→I b→∃b',ż mc mb (st b)=.ok .nx (st b')∧I b'∧mc (st b')=.ok false (st b'):=by
  intro n
  induction n with
  |zero=>
   intro b hn hi
   rcases hs b hi with e|⟨e,b',_,_,hl⟩
   ·exact⟨b,by rw[gD,e];rfl,hi,e⟩
   ·omega
  |succ n ih=>
   intro b hn hi
   rcases hs b hi with e|⟨e,b',e2,hi',hl⟩
   ·exact⟨b,by rw[gD,e];rfl,hi,e⟩
   ·obtain⟨b2,q1,q2⟩:=ih b' (by omega) hi'
    refine⟨b2,?_,q2⟩
    rw[gD,e]
    simp only[Res.aY,if_true,e2]
    exact q1
 exact go (μ b) b (Nat.le_refl _) h0
end
end P
namespace P
open PySem PySem.Spec PyProof.Rows L2 M2 M3 M4
def oM(Q:String→Prop):List String→Prop
 | []=>True
 |c::cs=>Q c∧oM Q cs
theorem oM.get{Q:String→Prop}:∀{cs:List String} {C:String},oM Q cs→cs.contains C=true→Q C
 | [],_,_,h=>by simp at h
 |c::cs,C,⟨h1,h2⟩,h=>by
  by_cases e:C=c
  ·rw[e];exact h1
  ·refine h2.get ?_
   rw[List.contains_cons] at h
   have:(C== c)=false:=by simpa using e
   rw[this,Bool.false_or] at h
   exact h
section
variable{X:Cx}{cm:String→Addr}{K:KK}{E:L2.St→XK}{a b e o:Expr}{es:List Expr}{pos apos:Pos}{m ma mb:M PV}{f:Str}
theorem oN{F:Hp}:∀{fs:List (Ÿ)} {ps:List PV} {p:PV},ĝ K F ps (fs.map (·.2))→((fs.map (·.1)).zip ps).lookup f=some p→∃v,fs.lookup f=some v∧Rep K F p v
 | [],ps,p,_,h=>by simp at h
 |(g,v)::fs,ps,p,r,h=>by
  have r':=r.pr
  rw[List.map_cons] at r'
  cases r' with
  |cons r1 t=>
   rename_i q qs
   rw[List.map_cons,List.zip_cons_cons,List.lookup_cons] at h
   rw[List.lookup_cons]
   cases hg:f== g with
   |true=>
    simp only[hg] at h
    cases h
    exact⟨v,rfl,r1⟩
   |false=>
    simp only[hg] at h
    exact oN (ĝ.of t) h
theorem rR.ins{c:Ctx}{F H:Hp}{σ:L2.St}{ρ:ŏ}{C:String}{ns:List Str}{ps:List PV}{v:V}(s:Same F H)(h:rR K c σ ρ F H (.ins C ns ps) v):∃a dx fs,v=.ref a∧H a=some (.ins (K.cm C) dx fs)∧fs.map (·.1)=ns∧ĝ K F ps (fs.map (·.2)):=by
 rcases h with h|h
 ·unfold Rep at h
  obtain⟨a,dx,fs,h1,h2,h3,h4⟩:=h
  exact⟨a,dx,fs,h1,s _ _ h2,h3,h4⟩
 ·exact h
def aK(cs:List String)(f:Str):PV→Option PV
 | .ins C ns ps=>if cs.contains C=true then(ns.zip ps).lookup f else none
 |_=>none
theorem bA(cs:List String)(hcs:oM (fun C=>Cls X.K (cm C)∧ň X.K (cm C) f) cs)(he:PE X e (tR (kk X cm) E m))(hb:attributeBase e f X.env (eval e X.env)=eval e X.env:=by rfl):PE X (.Attribute e f pos) (tV (kk X cm) E (jr (aK cs f) m)):=
 PE.wk (Yr he hb) fun σ H Q ⟨c,F,ρ,rel,h⟩=>⟨c,F,ρ,rel,h.bind fun p ρ1 v F1 H1 ę _ _ r1 h1=>by
   cases p with
   |ins C ns ps=>
    unfold aK at h1
    dsimp only at h1
    split at h1
    ·rename_i hc
     obtain⟨a,dx,fs,rfl,q2,q3,q4⟩:=r1.ins ę.sub
     cases el:(ns.zip ps).lookup f with
     |none=>rw[el] at h1;exact h1.elim
     |some q=>
      rw[el] at h1
      subst q3
      obtain⟨v,e1,e2⟩:=oN q4 el
      obtain⟨k1,k2⟩:=hcs.get hc
      exact⟨a,_,dx,fs,v,rfl,q2,k1,k2,e1,h1 v F1 H1 ę (Same.refl _) (Same.refl _) e2⟩
    ·exact h1.elim
   |_=>exact h1.elim⟩
def IW(X:Cx)(cm:String→Addr)(CX:qj)(k n:Nat)(m:Str)(C:String)(mf:MF):Prop:=Cls X.K (cm C)∧∃f fd ps,Meth X.K (cm C) m f∧İ X.prog X.w X.K X.mg X.base CX k f fd ps (ŷ (kk X cm) n mf)∧Binds X.K fd ps []∧
 ∀{ps:List Slot},(∃r,mf ps=r∧∀z,r=z→z≠ .bad)→ps.length=n
def I_(Q:String→MF→Prop):List (iw)→Prop
 | []=>True
 |(c,mf)::cs=>Q c mf∧I_ Q cs
theorem I_.get{Q:String→MF→Prop}:∀{cs:List (iw)} {C:String} {mf:MF},I_ Q cs→cs.lookup C=some mf→Q C mf
 | [],_,_,_,h=>by simp at h
 |(c,g)::cs,C,mf,⟨h1,h2⟩,h=>by
  rw[List.lookup_cons] at h
  cases hc:C== c with
  |true=>
   rw[hc] at h
   cases h
   have:C=c:=by simpa using hc
   rw[this];exact h1
  |false=>
   rw[hc] at h
   exact h2.get h
def oO(m:Str)(qg:List (iw))(mo:M PV)(ms:M (List Slot)):M RV:=fun ρ=>(mo ρ).bind fun p ρ1=>match p with
 | .ins C ns ps=>match qg.lookup C with
   |some mf=>if ns.contains m=true then .bad else(ms ρ1).bind fun as ρ2=>match mf (.sh (.ins C ns ps)::as) with
    | .ret r=>.ok r ρ2
    | .exc x=>.exc x ρ2
    | .bad=>.bad
   |none=>.bad
 |_=>.bad
theorem kO{m:Str}:∀{fs:List (Ÿ)},(fs.map (·.1)).contains m=false→fs.lookup m=none
 | [],_=>rfl
 |(g,v)::fs,h=>by
  rw[List.map_cons,List.contains_cons,Bool.or_eq_false_iff] at h
  rw[List.lookup_cons,h.1]
  exact kO h.2
variable{CX:qj}{k n:Nat}{Rb:Str}{qg:List (iw)}{ms:M (List Slot)}
theorem Ja{c:Ctx}{F H:Hp}{σ:L2.St}{ρ:ŏ}{Q:VK}(rel:Rel (kk X cm) c F H σ ρ)(h:bJ (kk X cm) E (rO (kk X cm)) c F H σ Q (oO Rb qg m ms ρ))(Zai:I_ (fun C mf=>IW X cm CX k n Rb C mf) qg) :
 bJ (kk X cm) E (rV (kk X cm)) c F H σ (fun x H1=>∃a C dx fs g fd ps mf,x=.ref a∧H1 a=some (.ins C dx fs)∧Cls X.K C∧Meth X.K C Rb g∧fs.lookup Rb=none∧İ X.prog X.w X.K X.mg X.base CX k g fd ps (ŷ (kk X cm) n mf)∧Binds X.K fd ps []∧
  tA (kk X cm) E ms σ H1 fun vs H2=>ŷ (kk X cm) n mf (.ref a::vs) H2 Q (E σ)) (m ρ):=
 bJ.bind h fun p ρ1 v F1 H1 ę _ _ r1 h1=>by
  cases p with
  |ins C ns ps=>
   dsimp only at h1
   cases el:qg.lookup C with
   |none=>rw[el] at h1;exact h1.elim
   |some mf=>
    rw[el] at h1
    dsimp only at h1
    split at h1
    ·exact h1.elim
    ·rename_i hn
     obtain⟨k1,f,fd,qs,k2,k3,k4,k5⟩:=Zai.get el
     have r1':Rep (kk X cm) F1 (.ins C ns ps) v:=r1
     have r2:=r1'
     unfold Rep at r2
     obtain⟨a,dx,fs,rfl,q2,q3,q4⟩:=r2
     refine⟨a,_,dx,fs,f,fd,qs,mf,rfl,ę.sub _ _ q2,k1,k2,kO (by rw[q3];simpa using hn),k3,k4,c,F1,ρ1,ę,bJ.bind h1 fun as ρ2 vs F2 H2 Ŋ sF sH r3 h3=>?_⟩
     exact wO (vs:=.ref a::vs) k5 Ŋ (.cons (show cN _ _ _ (.sh _) _ from Rep.same sF _ _ r1') r3) h3
  |_=>exact h1.elim
theorem Tt{pl:Sem Bool}(Zai:I_ (fun C mf=>IW X cm CX k n Rb C mf) qg)(hr:bI k X.A)(hx:cD CX X E)(he:PE X o (tV (kk X cm) E m))
 (ht:eval (.Call (.Attribute o Rb apos) [] [] pos) X.env=(do
   let ov ←eval o X.env
   standAt apos.atName
   let (f,first) ←holding [ov] (getMethod ov Rb pl)
   callWith pos f first (backTo pos (starEach [] X.env)) (backToKw pos (keywordEach [] X.env))):=by rfl) :
 PE X (.Call (.Attribute o Rb apos) [] [] pos) (tO (kk X cm) E (oO Rb qg m ď)):=by
 intro pins s σ H Q I ⟨c,F,ρ,rel,h⟩
 refine PySem.W.methodCall_KW (pl:=pl) (Ŧ (he pins s σ H _ I ⟨c,F,ρ,rel,Ja rel h Zai⟩) fun u s1 ⟨x,H1,I1,rx,a,C,dx,fs,g,fd,ps,mf,ex,ea,cl,k2,l,k3,k4,q⟩=>?_) ht
 subst ex
 obtain rfl:u=Value.ref a:=rx
 refine Ag I1 ea cl k2 l ?_
 obtain⟨c1,F1,ρ1,ę,q⟩:=q
 exact PySem.W.callWith_K0 (first:=[.ref a]) I1.fV k2.kp (D_ (us:=[.ref a]) (vs:=[.ref a]) k3 hr k4 hx I1 (.cons rfl .nil) (q [] F1 H1 ę (Same.refl _) (Same.refl _) .nil))
def putN(f:Str):List Str→List Str
 | []=>[f]
 |g::r=>if g=f then g::r else g::putN f r
def xu(f:Str)(p:PV):List Str→List PV→List PV
 | [],_=>[p]
 |g::r,q::qs=>if g=f then p::qs else q::xu f p r qs
 |_::_,[]=>[]
theorem uI{F:Hp}{p:PV}{y:V}(ry:Rep K F p y):∀{fs:List (Ÿ)} {ps:List PV},ĝ K F ps (fs.map (·.2))→(aW f y fs).map (·.1)=putN f (fs.map (·.1))∧ĝ K F (xu f p (fs.map (·.1)) ps) ((aW f y fs).map (·.2))
 | [],ps,r=>⟨rfl,ĝ.cons ry ĝ.nil⟩
 |(g,v)::fs,ps,r=>by
  have r':=r.pr
  rw[List.map_cons] at r'
  cases r' with
  |cons r1 t=>
   rename_i q qs
   unfold aW
   rw[List.map_cons]
   unfold putN xu
   by_cases hg:g=f
   ·rw[if_pos hg,if_pos hg,if_pos hg]
    exact⟨rfl,ĝ.cons ry (ĝ.of t)⟩
   ·rw[if_neg hg,if_neg hg,if_neg hg]
    obtain⟨h1,h2⟩:=uI ry (ĝ.of t)
    exact⟨by rw[List.map_cons,h1],ĝ.cons r1 h2⟩
def iW(i:Nat)(cs:List String)(f:Str)(mv:M PV):M Fl:=fun ρ=>(mv ρ).bind fun p ρ1=>match ρ1[i]? with
 |some (.rc C ns ps)=>if cs.contains C=true∧ns.length<1000 then .ok .nx (ρ1.set i (.rc C (putN f ns) (xu f p ns ps))) else .bad
 |_=>.bad
theorem bB{i:Nat}{x:Str}{px pos':Pos}(cs:List String)(hcs:oM (fun C=>Cls X.K (cm C)∧ň X.K (cm C) f) cs)(ho:PE X (.Name x px) (t_ i))(he:PE X e (tV (kk X cm) E m))(hs:swapsWith e (some (.Attribute (.Name x px) f pos')) pos.line X.env=pure false:=by rfl) :
 PS X (.Assign [.Attribute (.Name x px) f pos'] e pos) (tS (kk X cm) E (iW i cs f m)):=PS.wk (Ys ho he hs) fun D σ H ⟨c,F,ρ,rel,h⟩=>⟨c,F,ρ,rel,ŧ.bind h fun p ρ1 y F1 H1 ę s1 ry h1=>by
 cases e1:ρ1[i]? with
 |none=>rw[e1] at h1;exact h1.elim
 |some sl=>
  rw[e1] at h1
  cases sl with
  |rc C ns ps=>
   dsimp only at h1
   split at h1
   ·rename_i hc
    obtain⟨a,dx,fs,q1,q2,q3,q4,q5,q6,q7⟩:=ę.slot i _ e1
    subst q5
    obtain⟨k1,k2⟩:=hcs.get hc.1
    refine⟨.ref a,at_of q1,a,_,dx,fs,rfl,q2,k1,k2,by simpa using hc.2,?_⟩
    obtain⟨z1,z2⟩:=uI (f:=f) (p:=p) ry q6
    exact h1 σ F1 _ (ę.write ⟨_,_,e1,at_of q1,rfl⟩ (at_of q1) ⟨a,dx,_,rfl,Ĭ,q3,q4,z1,z2,q7⟩ fun _ z=>(V.ref.inj z).symm) (Same.refl _)
   ·exact h1.elim
  |_=>exact h1.elim⟩
inductive IR where
 |ok (ns:List Str) (ps:List PV)|exc (x:PX)|bad
abbrev MI:=List Slot→IR
def IR.of:Res Fl→IR
 | .ok .nx (.rc _ ns ps::_)=>.ok ns ps
 | .exc x _=>.exc x
 |_=>.bad
def cX(n k:Nat)(C:String)(mb:M Fl):MI:=fun as=>if as.length+1=n then IR.of (mb (.rc C [] []::startP (k-1) as)) else .bad
structure GrB(a:Addr)(F H F' H':Hp):Prop where
 h:∀b u,b≠a→H b=some u→H' b=some u
 f:Same F F'
 sub:Same F' H'
 out:∀b,b≠a→H b≠none→F b=none→F' b=none
def ZlS(K:KK)(E:XK)(F H:Hp)(Q:VK)(a dx:Addr)(C:String):IR→Prop
 | .ok ns ps=>∀F' H' fs,GrB a F H F' H'→H' a=some (.ins (K.cm C) dx fs)→F' a=none→fs.map (·.1)=ns→ĝ K F' ps (fs.map (·.2))→Q .non H'
 | .exc x=>∀C' d F' H',GrB a F H F' H'→Sv K F' x C' d→E C' d H'
 | .bad=>False
def Rf(K:KK)(n:Nat)(C:String)(mi:MI):Sp:=fun vs H Q E=>∃F a dx vs' as,vs=.ref a::vs'∧as.length+1=n∧H a=some (.ins (K.cm C) dx [])∧F a=none∧Same F H∧Paired (cN K F H) as vs'∧ZlS K E F H Q a dx C (mi as)
def Tw(a dx:Addr)(C:String)(F H:Hp):Ctx:=⟨fun b=>if b=a then none else H b,F,fun b=>if b=a then none else(ctx0 F H).L b,fun a' dx' C'=>a'=a∧dx'=dx∧C'=C⟩
theorem Rel.gri{σ:L2.St}{ρ:ŏ}{a dx:Addr}{C:String}{F H F' H':Hp}(r:Rel K (Tw a dx C F H) F' H' σ ρ):GrB a F H F' H':=
 ⟨fun b u hb e=>r.base b u (by show(if b=a then none else H b)=_;rw[if_neg hb];exact e),r.f0,r.sub,fun b hb h1 h2=>r.dB b (by show(if b=a then none else H b)≠none;rw[if_neg hb];exact h1) h2⟩
theorem Rel.Zaj{F H:Hp}{N:List Str}{as:List Slot}{vs:List V}{a dx:Addr}{C:String}(s:Same F H)(ha:H a=some (.ins (K.cm C) dx []))(hF:F a=none)(h:Paired (cN K F H) as vs) :
 Rel K (Tw a dx C F H) F H (L2.start N (.ref a::vs)) (.rc C [] []::startP (N.length-1) as):=by
 have r0:=Rel.start (N:=N) (K:=K) s (as:=.sh (.int 0)::as) (vs:=.int 0::vs) (.cons (Rep.int (K:=K) (F:=F) (i:=0)) h)
 have est:L2.start N (.ref a::vs)=some (.ref a)::(L2.start N (.int 0::vs)).tail:=by unfold L2.start;simp
 have ZlT:(L2.start N (V.int 0::vs)).tail.length=(startP (N.length-1) as).length:=by
  unfold L2.start startP
  simp[Paired.length h]
  omega
 have tl:∀i:Nat,(L2.start N (.int 0::vs)).tail[i]?=(L2.start N (.int 0::vs))[i+1]?:= fun i=>by simp
 have sp:∀i:Nat,(startP (N.length-1) as)[i]?=(startP N.length (.sh (.int 0)::as))[i+1]?:= fun i=>by
  unfold startP
  simp only[List.cons_append,List.getElem?_cons_succ,List.length_cons]
  rw[show N.length-1-as.length=N.length-(as.length+1) by omega]
 have Ei:∀(i:Nat) (s':Slot),(startP (N.length-1) as)[i]?=some s'→s'.own=false:=fun i s' e=>by
  unfold startP at e
  by_cases hi:i<as.length
  ·rw[List.getElem?_append_left hi] at e
   obtain⟨v,_,h3⟩:=cM h e
   exact(cN.slot h3).2
  ·rw[List.getElem?_append_right (by omega),List.getElem?_replicate] at e
   split at e
   ·cases e;rfl
   ·cases e
 rw[est]
 refine⟨s,fun b u e=>?_,Same.refl _,fun _ _ z=>z,fun b u e=>?_,fun b e=>?_,?_,fun i s' e=>?_,fun i j b h1 h2=>?_⟩
 ·have e':(if b=a then none else H b)=some u:=e
  split at e'
  ·cases e'
  ·exact e'
 ·have e':(if b=a then none else(ctx0 F H).L b)=some u:=e
  split at e'
  ·cases e'
  ·exact gq e'
 ·show(if b=a then none else(ctx0 F H).L b)=none
  have e':(if b=a then none else H b)=none:=e
  split
  ·rfl
  ·rename_i hb
   rw[if_neg hb] at e'
   exact r0.lb b e'
 ·simp[ZlT]
 ·cases i with
  |zero=>
   cases e
   exact⟨a,dx,[],rfl,ha,hF,by show(if a=a then none else H a)=none;rw[if_pos rfl],rfl,ĝ.nil,rfl,rfl,rfl⟩
  |succ i=>
   have e':(startP (N.length-1) as)[i]?=some s':=by simpa using e
   have q:=r0.slot (i+1) s' (by rw[←sp];exact e')
   rw[←tl] at q
   show aX K (Tw a dx C F H) F H (((some (V.ref a)::(L2.start N (.int 0::vs)).tail)[i+1]?).getD none) s'
   rw[List.getElem?_cons_succ]
   cases s' with
   |no=>trivial
   |sh p=>exact q
   |bw ps=>
    obtain⟨b,ws,q1,q2,q3⟩:=q
    refine⟨b,ws,q1,?_,q3⟩
    show(if b=a then none else(ctx0 F H).L b)=_
    rw[if_neg (fun z=>by
     have:=(gq q2).1
     rw[z,ha] at this
     cases this)]
    exact q2
   |ow ps=>have:=Ei i _ e';cases this
   |rc C ns ps=>have:=Ei i _ e';cases this
   |ot ps qs=>have:=Ei i _ e';cases this
 ·have at0:∀{i},ś F (some (.ref a)::(L2.start N (.int 0::vs)).tail) (Slot.rc C [] []::startP (N.length-1) as) i b→i=0:=fun{i} ⟨s',y,q1,_,q2⟩=>by
   have q2:=jj q2
   cases i with
   |zero=>rfl
   |succ i=>
    have:=Ei i s' (by simpa using q1)
    rw[this] at q2
    cases q2
  rw[at0 h1,at0 h2]
end
section
variable{P:Program}{w:World}{K:PySem.W.Frag}{cm:String→Addr}{mg:Str→Option Value}{base:Heap}{CX:qj}
theorem fnI{x qual:Str}{st:Stmt}{f:Addr}{fd:FuncData}{N ps:List Str}{k n j:Nat}{C:String}{mb:M Fl}{mi:MI}(F:Ŷ K x qual st f fd)(S:ĕ N ps (ĉ st))(hn:ps.length=n)(hj:N.length=j)(hf:mi=cX n j C mb)
 (hbody:∀(cdv:Value) (A:Around) (outer:List Env) (s:Shared) (H:Hp) (E:XK),bI k (A.deeper (envOfC qual (ĉ st) s.heap.objs.size f cdv))→
   ju (b_ CX P w K mg base N qual (ĉ st) f cdv A outer s H E) (bQ st) (tS ⟨K,cm⟩ (fun _=>E) mb)):İ P w K mg base CX (k+1) f fd ps (Rf ⟨K,cm⟩ n C mi):=by
 subst hn hj hf
 obtain⟨oc,od,kV,doc,pm,an,cdv,ct,osl,rfl,lk,hcd⟩:=F.ex
 refine Ho lk hcd S (fun vs H Q E ⟨F,a,dx,vs',as,h1,h2,_,_,_,h3,_⟩=>by rw[h1,List.length_cons,←Paired.length h3];exact h2) fun A outer s H vs Q E hr hsp=>?_
 obtain⟨F,a,dx,vs',as,rfl,h2,h3,h4,h5,h6,h7⟩:=hsp
 refine⟨_,hbody cdv A outer s H E hr,Tw a dx C F H,F,_,Rel.Zaj h5 h3 h4 h6,?_⟩
 unfold cX at h7
 rw[if_pos h2] at h7
 cases e:mb (.rc C [] []::startP (N.length-1) as) with
 |bad=>rw[e] at h7;exact h7
 |exc x ρ'=>rw[e] at h7;exact fun σ' C' d F' H' rel s1 q=>h7 C' d F' H' rel.gri q
 |ok fl ρ'=>
  rw[e] at h7
  cases fl with
  |nx=>
   cases ρ' with
   |nil=>exact h7.elim
   |cons sl ρ'=>
    cases sl with
    |rc C' ns qs=>
     intro σ' F' H' rel s1
     obtain⟨b,dy,fs,q1,q2,q3,q4,q5,q6,rfl,rfl,rfl⟩:=rel.slot 0 _ rfl
     exact h7 F' H' fs rel.gri q2 q3 q5 q6
    |_=>exact h7.elim
  |bk=>exact h7.elim
  |ct=>exact h7.elim
  |rt r=>exact h7.elim
end
def cj(C:String)(mi:MI)(ms:M (List Slot)):M PV:=fun ρ=>(ms ρ).bind fun as ρ1=>match mi as with
 | .ok ns ps=>.ok (.ins C ns ps) ρ1
 | .exc x=>.exc x ρ1
 | .bad=>.bad
section
variable{X:Cx}{cm:String→Addr}{E:L2.St→XK}{e:Expr}{es:List Expr}{pos p:Pos}{CX:qj}{k n:Nat}{f:Addr}{fd:FuncData}{ps:List Str}{C:String}{mi:MI}{ms:M (List Slot)}{x:Str}
theorem Jb{c:Ctx}{F1 H1:Hp}{σ:L2.St}{ρ1:ŏ}{Q:VK}{as:List Slot}{vs:List V}(hlen:(∃r,mi as=r∧∀z,r=z→z≠ .bad)→as.length+1=n)(ę:Rel (kk X cm) c F1 H1 σ ρ1)(r1:Paired (cN (kk X cm) F1 H1) as vs)
 (h:bJ (kk X cm) E (rV (kk X cm)) c F1 H1 σ Q (match mi as with| .ok ns ps=>.ok (.ins C ns ps) ρ1| .exc x=>.exc x ρ1| .bad=>.bad)) :
 ∀x dx,H1 x=none→H1 dx=none→dx≠x→Rf (kk X cm) n C mi (.ref x::vs) (upd (upd H1 dx (.own x)) x (.ins (cm C) dx [])) (fun v H2=>v=.non∧Q (.ref x) H2) (E σ):=by
 intro x dx hx hdx hne
 have up:∀b u,H1 b=some u→upd (upd H1 dx (.own x)) x (.ins (cm C) dx []) b=some u:=fun b u e=>by
  rw[Ġ (ļ e hx),Ġ (ļ e hdx)];exact e
 have Tz:∀{F' H':Hp},GrB x F1 (upd (upd H1 dx (.own x)) x (.ins (cm C) dx [])) F' H'→Gr F1 H1 F' H':=fun{F' H'} g=>
  ⟨fun b u e=>g.h b u (ļ e hx) (up b u e),g.f,g.sub,fun b hb hf=>by
    obtain⟨u,hu⟩:∃u,H1 b=some u:=by
     cases q:H1 b with
     |none=>exact absurd q hb
     |some u=>exact⟨u,rfl⟩
    exact g.out b (ļ hu hx) (by rw[up b u hu];intro z;cases z) hf⟩
 refine⟨F1,x,dx,vs,as,rfl,?_,Ĭ,ę.sub.free hx,fun b u e=>up b u (ę.sub b u e),?_,?_⟩
 ·refine hlen ⟨_,rfl,fun z hz hb=>?_⟩
  rw[hz,hb] at h
  exact h
 ·refine Paired.mono (fun s v hs=>?_) r1
  cases s with
  |sh p=>exact hs
  |bw qs=>
   obtain⟨b,ws,q1,q2,q3,q4⟩:=hs
   exact⟨b,ws,q1,up b _ q2,q3,q4⟩
  |_=>exact hs.elim
 ·cases em:mi as with
  |bad=>rw[em] at h;exact h
  |exc y=>rw[em] at h;exact fun C' d F' H' g rx=>h C' d F' H' (ę.call (Tz g)) g.f rx
  |ok ns qs=>
   rw[em] at h
   intro F' H' fs g hx' hF' hn hr
   have r2:=ę.call (Tz g)
   have r3:=r2.freeze hx' (ę.base.free hx) hF' (ę.uw (Tz g).f (ę.fresh hx))
   refine⟨rfl,h _ _ H' r3 (g.f.trans (Same.upd hF')) (Tz g).h ?_⟩
   show Rep _ _ _ _
   unfold Rep
   exact⟨x,dx,fs,rfl,Ĭ,hn,ĝ.same (Same.upd hF') qs _ hr⟩
theorem FJ{pins:List (č)}{σ:L2.St}{H:Hp}{s:Shared}{Q:VK}{us:List Value}{vs:List V}{sp:Sp}{C:Addr}(M:Mk X.K C f)(F:İ X.prog X.w X.K X.mg X.base CX k f fd ps sp)(hr:bI (k+1) X.A)(hb:Binds X.K fd ps [])
 (hx:cD CX X E)(I:Inv X pins σ H s)(r:Vals vs us)
 (h:∀x dx,H x=none→H dx=none→dx≠x→sp (.ref x::vs) (upd (upd H dx (.own x)) x (.ins C dx [])) (fun v H2=>v=.non∧Q (.ref x) H2) (E σ)) :
 wpAny (model X.prog X.w) X.A (call (.ref C) us) (EP X pins σ Q) X.xe s:=by
 have hq:=h (s.heap.objs.size+1) s.heap.objs.size (I.hok.fresh (Nat.le_succ _)) (I.hok.fresh (Nat.le_refl _)) (Nat.ne_of_lt (Nat.lt_succ_self _))
 have I2:=Inv.made (C:=C) I
 have r2:Vals (V.ref (s.heap.objs.size+1)::vs) (Value.ref (s.heap.objs.size+1)::us):=.cons rfl r
 have hl:(Value.ref (s.heap.objs.size+1)::us ++ []).length=ps.length:=by
  have e:=r2.length
  rw[F.len _ _ _ _ hq] at e
  rw[List.append_nil]
  exact e.symm
 have hbd:=hb {s with heap:=(s.heap.push PySem.W.emptyDict).push (PySem.W.instObj C s.heap.objs.size)} (Value.ref (s.heap.objs.size+1)::us) I2.fV hl
 rw[List.append_nil] at hbd
 refine wpAny_call (Hl (f:=f) I.fV M.makes M.init (beq_iff_eq.mp M.fn) (codeAny_mono (F.run _ X.stack _ _ ⟨Value.ref (s.heap.objs.size+1)::us,[]⟩ _ _ _ (E σ) (hr.make C us []) (I2.env0.make C us []) hbd r2 hq) fun r s' hq'=>?_))
 cases r with
 |error e=>exact hx pins σ _ _ e s' I2 hq'
 |ok fl=>
  cases fl with
  |ret u=>
   obtain⟨v,H',I3,rv,ev,q3⟩:=I2.after hq'
   subst ev
   exact⟨rv,⟨V.ref (s.heap.objs.size+1),H',I3,rfl,q3⟩⟩
  |next=>exact False.elim hq'
  |brk=>exact False.elim hq'
  |cont=>exact False.elim hq'
theorem cJ{n k:Nat}{C:String}{mb:M Fl}{as:List Slot}(h:∃r,cX n k C mb as=r∧∀z,r=z→z≠ .bad):as.length+1=n:=by
 obtain⟨r,h1,h2⟩:=h
 unfold cX at h1
 by_cases hl:as.length+1=n
 ·exact hl
 ·rw[if_neg hl] at h1
  exact absurd h1.symm (fun z=>h2 .bad (by rw[←h1]) rfl)
theorem kW(M:Mk X.K (cm C) f)(F:İ X.prog X.w X.K X.mg X.base CX k f fd ps (Rf (kk X cm) n C mi))(hlen:∀{as:List Slot},(∃r,mi as=r∧∀z,r=z→z≠ .bad)→as.length+1=n)(hr:bI (k+1) X.A)(hg:Gl X x)(hm:X.mg x=some (.ref (cm C)))(hb:Binds X.K fd ps [])(hx:cD CX X E)
 (ha:PA X (e::es) (tA (kk X cm) E ms))(hdb:(x== ("__debug__" :Str))=false:=by decide)(he:starEach (e::es) X.env=(false,eval e X.env)::starEach es X.env:=by exact ı rfl)(hpl:(backTo pos (starEach es X.env)).any (·.1)=false:=by rfl) :
 PE X (.Call (.Name x p) (e::es) [] pos) (tV (kk X cm) E (cj C mi ms)):=by
 intro pins s σ H Q I ⟨c,F',ρ,rel,h⟩
 refine wpAny_Call_Name_kw (jw I hg hm ?_ hdb)
 refine PySem.W.callWith_K (h₀:= X.base) I.ok.mod.kin M.kp (Ŧ (ha pos pins s σ H (fun vs H1=>∀x dx,H1 x=none→H1 dx=none→dx≠x→Rf (kk X cm) n C mi (.ref x::vs) (upd (upd H1 dx (.own x)) x (.ins (cm C) dx [])) (fun v H2=>v=.non∧Q (.ref x) H2) (E σ)) I
  ⟨c,F',ρ,rel,bJ.bind h fun as ρ1 vs F1 H1 ę _ _ r1 h1=>Jb hlen ę r1 h1⟩) fun us s1 ⟨vs,H1,I1,r,q⟩=>⟨I1.fV,?_⟩) he hpl
 exact FJ M F hr hb hx I1 r q
end
end P
namespace P
open PySem PySem.Spec PyProof.Rows L2 M2 M3 M4
def TrD(B:Heap)(e:Addr)(C:Value)(d:Option Addr)(fl:Value)(h:Heap):Prop:=
 ∃oe vs T oT ts,h.get? e=some oe∧(oe.cls=C∧oe.dict=d)∧oe.data=.fields vs∧vs[1]?=some (.ref T)∧B.get? T=none∧T≠e∧h.get? T=some oT∧oT.data=.fields ts∧ts[3]?=some fl
structure Moved(h h':Heap):Prop where
 up:h.UpToSlots h'
 there:∀b o,h.get? b=some o→∃o',h'.get? b=some o'
theorem Moved.trans{h h1 h2:Heap}(a:Moved h h1)(b:Moved h1 h2):Moved h h2:=⟨a.up.trans b.up,fun c o e=>let ⟨o1,e1⟩:=a.there c o e;b.there c o1 e1⟩
theorem FP(o:Obj)(f:Array Value→Array Value):(o.mapFields f).dict=o.dict:=by
 obtain⟨c,d,dt,sl⟩:=o
 cases dt<;>rfl
section
variable{M:Model}{A:Around}{E:Value→Shared→Prop}{s:Shared}{B:Heap}{env:Env}{outer:List Env}{L e:Addr}{Q:Unit→Shared→Prop}
theorem ZdW{oe:Obj}{vs:Array Value}{head:Value}{nxt:Bool}(hfr:A.frames=some (env::outer))(hl:s.heap.FunFrames B (env::outer))(hf:env.frame=some L)
 (he:s.heap.get? e=some oe)(hkb:B.StaysIn s.heap)(hen:B.get? e=none)(hd:oe.data=.fields vs)(hsz:1<vs.size)
 (k:∀h',B.StaysIn h'→h'.FunFrames B (env::outer)→TrD B e oe.cls oe.dict (rawInt L) h'→Moved s.heap h'→Q () {s with heap:=h'}) :
 wpAny M A (do
  let a ←frameOf env
  let pl ←entryPlaceOf L nxt
  let b ←EntryCells.newEntry head a .none (rawInt L) .none pl
  setField (.ref e) 1 b) Q E s:=by
 have out:e∉(env::outer).filterMap (·.frame):=fun z=>by
  obtain⟨_,o,ho,hn⟩:=hl.mem z
  rw[he] at ho
  cases ho
  exact hn vs hd
 refine wpAny_bind (wpAny_frameOf_fun hfr hl hf fun g1 so=>?_)
 refine wpAny_bind (wpAny_entryPlaceOf fun pl hpl=>?_)
 unfold EntryCells.newEntry newFields
 refine wpAny_bind (wpAny_newObj_type ?_ (hpl.sizeOk5 _ _ _ _ _))
 have e1:g1.get? e=some oe:=(so.2.1 e out).trans he
 have b1:B.StaysIn g1:=fun b o q=>(so.2.1 b fun z=>by
  rw[(hl.mem z).1] at q
  cases q).trans (hkb b o q)
 generalize hnw:([head,Value.ref L,.none,rawInt L,.none]++(if pl.isEmpty then List.replicate 6 Value.none else pl))=nw
 have n3:nw.toArray[3]?=some (rawInt L):=by rw[←hnw];simp
 dsimp only
 have e2:=Heap.get?_push_of_some (h:=g1) {cls:=.type "traceback",dict:=none,data:=.fields nw.toArray} e1
 refine wpAny_setField e2 hd hsz ?_
 have ne:g1.objs.size≠e:=Nat.ne_of_gt (Heap.lt_size e1)
 have d3:=Obj.data_mapFields hd (·.setIfInBounds 1 (Value.ref g1.objs.size))
 have e3:=Heap.get?_update_self (Obj.mapFields (·.setIfInBounds 1 (Value.ref g1.objs.size))) e2 (Obj.isFreed_of_fields d3)
 have kp:∀b o,b≠e→g1.get? b=some o→((g1.push {cls:=.type "traceback",dict:=none,data:=.fields nw.toArray}).update e (Obj.mapFields (·.setIfInBounds 1 (Value.ref g1.objs.size)))).get? b=some o:=fun b o hb q=>by
  rw[Heap.get?_update_other _ _ (Ne.symm hb)]
  exact Heap.get?_push_of_some _ q
 have t3:((g1.push {cls:=.type "traceback",dict:=none,data:=.fields nw.toArray}).update e (Obj.mapFields (·.setIfInBounds 1 (Value.ref g1.objs.size)))).get? g1.objs.size=some {cls:=.type "traceback",dict:=none,data:=.fields nw.toArray}:=by
  rw[Heap.get?_update_other _ _ (Ne.symm ne)]
  exact Heap.get?_push_size g1 rfl
 have nr:∀b o,s.heap.get? b=some o→(∀ws,o.data≠ .fields ws)→b≠e:=fun b o q hn z=>by
  rw[z,he] at q
  cases q
  exact hn vs hd
 refine k _ (fun b o q=>kp b o (fun z=>by rw[z,hen] at q;cases q) (b1 b o q)) (hl.of_keeps fun b o q hn=>?_) ?_ ⟨fun b o q hn=>?_,fun b o q=>?_⟩
 ·obtain⟨sl,z⟩:=so.2.2 b o q
  exact⟨_,kp b _ (nr b o q hn) z,rfl⟩
 ·exact⟨_,_,g1.objs.size,_,_,e3,⟨Obj.cls_mapFields _ _,FP _ _⟩,d3,by simp[hsz],b1.fresh,ne,t3,rfl,n3⟩
 ·obtain⟨sl,z⟩:=so.2.2 b o q
  exact⟨sl,kp b _ (nr b o q hn) z⟩
 ·obtain⟨sl,z⟩:=so.2.2 b o q
  by_cases hb:b=e
  ·rw[hb];exact⟨_,e3⟩
  ·exact⟨_,kp b _ hb z⟩
theorem TF{oe:Obj}{vs:Array Value}(hfr:A.frames=some (env::outer))(hl:s.heap.FunFrames B (env::outer))(hf:env.frame=some L)(he:s.heap.get? e=some oe)(hkb:B.StaysIn s.heap)(hen:B.get? e=none)
 (hd:oe.data=.fields vs)(h1:vs[1]?=some .none)(k:∀h',B.StaysIn h'→h'.FunFrames B (env::outer)→TrD B e oe.cls oe.dict (rawInt L) h'→Moved s.heap h'→Q () {s with heap:=h'}) :
 wpAny M A (noteFrame (.ref e) env) Q E s:=by
 unfold noteFrame
 simp only[hf]
 refine wpAny_bind (wpAny_field he hd h1 ?_)
 rw[if_neg (by decide)]
 exact ZdW hfr hl hf he hkb hen hd (Array.getElem?_eq_some_iff.mp h1).1 k
theorem Zak{C:Value}{d:Option Addr}(hfr:A.frames=some (env::outer))(hl:s.heap.FunFrames B (env::outer))(hf:env.frame=some L)(ht:TrD B e C d .none s.heap)(hkb:B.StaysIn s.heap)(hen:B.get? e=none)
 (k:∀h',B.StaysIn h'→h'.FunFrames B (env::outer)→TrD B e C d (rawInt L) h'→Moved s.heap h'→Q () {s with heap:=h'}):wpAny M A (noteFrame (.ref e) env) Q E s:=by
 obtain⟨oe,vs,T,oT,ts,he,⟨rfl,rfl⟩,hd,h1,hT,hTe,hT2,hdT,h3⟩:=ht
 unfold noteFrame
 simp only[hf]
 refine wpAny_bind (wpAny_field he hd h1 ?_)
 rw[if_pos (show(Value.ref T != Value.none)=true by simp)]
 refine wpAny_bind (wpAny_field hT2 hdT h3 ?_)
 rw[if_neg (show ¬((Value.none== rawInt L)=true) by simp[rawInt])]
 refine wpAny_bind (wpAny_setField hT2 hdT (Array.getElem?_eq_some_iff.mp h3).1 ?_)
 have oth:∀b,b≠T→(s.heap.update T (Obj.mapFields (·.setIfInBounds 3 Value.none))).get? b=s.heap.get? b:=fun b hb=>Heap.get?_update_other _ _ (Ne.symm hb)
 have nr:∀b o,s.heap.get? b=some o→(∀ws,o.data≠ .fields ws)→b≠T:=fun b o q hn z=>by
  rw[z,hT2] at q
  cases q
  exact hn ts hdT
 refine ZdW hfr (hl.of_keeps fun b o q hn=>⟨o,(oth b (nr b o q hn)).trans q,rfl⟩) hf ((oth e (Ne.symm hTe)).trans he) (fun b o q=>(oth b fun z=>by rw[z,hT] at q;cases q).trans (hkb b o q)) hen hd (Array.getElem?_eq_some_iff.mp h1).1
  fun h' x1 x2 x3 x4=>k h' x1 x2 x3 (Moved.trans ⟨fun b o q hn=>⟨o.slots,(oth b (nr b o q hn)).trans q⟩,fun b o q=>?_⟩ x4)
 by_cases hb:b=T
 ·rw[hb];exact⟨_,Heap.get?_update_self _ hT2 (Obj.isFreed_of_fields (Obj.data_mapFields hdT _))⟩
 ·exact⟨o,(oth b hb).trans q⟩
theorem Ej{C fl:Value}{d:Option Addr}{l:List Env}(hkb:B.StaysIn s.heap)(hl:s.heap.FunFrames B l)(ht:TrD B e C d fl s.heap)
 (k:∀h',B.StaysIn h'→h'.FunFrames B l→TrD B e C d .none h'→Moved s.heap h'→Q () {s with heap:=h'}):wpAny M A (setFlight (.ref e) none) Q E s:=by
 obtain⟨oe,vs,T,oT,ts,he,hc,hd,h1,hT,hTe,hT2,hdT,h3⟩:=ht
 have z3:3<ts.size:=(Array.getElem?_eq_some_iff.mp h3).1
 have oth:∀b,b≠T→(s.heap.update T (Obj.mapFields (·.setIfInBounds 3 ((none:Option Addr).elim Value.none fun f=>rawInt f)))).get? b=s.heap.get? b:=fun b hb=>Heap.get?_update_other _ _ (Ne.symm hb)
 have nr:∀b o,s.heap.get? b=some o→(∀ws,o.data≠ .fields ws)→b≠T:=fun b o q hn z=>by
  rw[z,hT2] at q
  cases q
  exact hn ts hdT
 unfold setFlight
 refine wpAny_bind (wpAny_field he hd h1 ?_)
 rw[if_pos (show(Value.ref T != Value.none)=true by simp)]
 refine wpAny_setField hT2 hdT z3 (k _ (fun b o q=>(oth b fun z=>by rw[z,hT] at q;cases q).trans (hkb b o q)) (hl.of_keeps fun b o q hn=>⟨o,(oth b (nr b o q hn)).trans q,rfl⟩) ?_ ⟨fun b o q hn=>⟨o.slots,(oth b (nr b o q hn)).trans q⟩,fun b o q=>?_⟩)
 rotate_left
 ·by_cases hb:b=T
  ·rw[hb];exact⟨_,Heap.get?_update_self _ hT2 (Obj.isFreed_of_fields (Obj.data_mapFields hdT _))⟩
  ·exact⟨o,(oth b hb).trans q⟩
 exact⟨oe,vs,T,_,_,(oth e (Ne.symm hTe)).trans he,hc,hd,h1,hT,hTe,Heap.get?_update_self _ hT2 (Obj.isFreed_of_fields (Obj.data_mapFields hdT _)),Obj.data_mapFields hdT _,by simp[z3]⟩
end
theorem xG{P:Program}{w:World}{H:Hp}{h:Heap}{a:Addr}{o:HO}(x:ŭ P w H h a o):∃ob,h.get? a=some ob:=by
 cases o with
 |lst xs=>obtain⟨_,_,_,_,e⟩:=x;exact⟨_,e⟩
 |tup xs=>obtain⟨_,_,_,ob,e,_⟩:=x;exact⟨_,e⟩
 |dK kvs=>obtain⟨_,_,_,_,ob,_,_,e,_⟩:=x;exact⟨_,e⟩
 |dT kvs=>obtain⟨_,_,_,_,ob,_,_,e,_⟩:=x;exact⟨_,e⟩
 |set S n=>obtain⟨ob,_,_,_,e,_⟩:=x;exact⟨_,e⟩
 |ins C dx fs=>obtain⟨_,_,_,e,_⟩:=x;exact⟨_,e⟩
 |own y=>exact x
 |xd fs=>obtain⟨_,⟨ob,_,_,e,_⟩,_⟩:=x;exact⟨_,e⟩
 |rng lo hi=>obtain⟨_,_,_,e⟩:=x;exact⟨_,e⟩
 |dB ob u=>obtain⟨e,_⟩:=x;exact⟨_,e⟩
 |qg ps=>exact⟨_,(show h.get? a=some _ from x)⟩
 |met f y=>exact⟨_,(show h.get? a=some _ from x)⟩
 |ext φ=>obtain⟨_,e,_⟩:=x;exact e
theorem fP.sub{P:Program}{w:World}{H:Hp}{h B:Heap}(x:fP P w H h)(k:∀b o u,H b=some u→h.get? b=some o→B.get? b=some o):fP P w H B:=fun a o e=>
 (x a o e).stay (fun b u hb q=>by
   rcases hb with rfl|hb
   ·exact k _ _ _ e q
   ·exact k _ _ _ hb q) (fun _ q=>q) fun _ _ q=>q
structure UnX(fs:List Addr)(H H':Hp)(h B h':Heap):Prop where
 keep:∀b o,h.get? b=some o→H b=none→b∉fs→B.get? b=some o
 slot:∀b o,h.get? b=some o→H b=none→b∈fs→∃sl,h'.get? b=some {o with slots:=sl}
 free:∀b o,h.get? b=some o→H b=none→H' b=none
 there:∀b o,h.get? b=some o→∃o',h'.get? b=some o'
 tups:∀b xs,H b=some (.tup xs)→H' b=some (.tup xs)
 jf:∀b o u,H b=some (.dB o u)→H' b=some (.dB o u)
 jt:∀b ps,H b=some (.qg ps)→∃more,H' b=some (.qg (ps++more))
structure Lies(P:Program)(w:World)(outer:List Env)(H:Hp)(s:Shared)(ea:Addr)(C:Value)(d:Option Addr)(fl:Value)(H':Hp)(B:Heap)(s':Shared):Prop where
 os:s'.os=s.os
 bare:AllBare s'.gens
 st:B.StaysIn s'.heap
 en:B.get? ea=none
 fr:s'.heap.FunFrames B outer
 tr:TrD B ea C d fl s'.heap
 hok:fP P w H' B
 un:UnX (frs outer) H H' s.heap B s'.heap
 no:H' ea=none
 new:s.heap.get? ea=none
def ū(P:Program)(w:World):qj:=fun outer H s E e s'=>∃ea C d H' B,e=.ref ea∧Lies P w outer H s ea C d .none H' B s'∧E C d H'
theorem rC{P:Program}{w:World}{outer:List Env}{H:Hp}{s s':Shared}{e:Value}(h:ū P w outer H s (fun _ _ _=>False) e s'):False:=by
 obtain⟨_,_,_,_,_,_,_,h⟩:=h
 exact h
theorem aP{P:Program}{w:World}{X:Cx}:cD (ū P w) X EF:=fun _ _ _ _ _ _ _ h=>(rC h).elim
section
variable{P:Program}{w:World}{K:PySem.W.Frag}{mg:Str→Option Value}{base:Heap}{N:List Str}{qual:Str}{scope:Scope}{f:Addr}{cdv:Value}{A:Around}{outer:List Env}{s₀:Shared}{H₀:Hp}{E:XK}
theorem ğ:cD (ū P w) (b_ (ū P w) P w K mg base N qual scope f cdv A outer s₀ H₀ E) (fun _=>E):=by
 intro pins σ H s e s' I h
 obtain⟨ea,C,d,H',B,rfl,l,hE⟩:=h
 have hfr:(A.deeper (envOfC qual scope s₀.heap.objs.size f cdv)).frames=some (envOfC qual scope s₀.heap.objs.size f cdv::outer):=I.ok.frames
 show wpAny _ _ (leaving _ _) _ _ s'
 unfold leaving
 refine wpAny_bind (Zak hfr l.fr rfl l.tr l.st l.en fun h1 x1 x2 x3 x4=>?_)
 refine Ej (s:={s' with heap:=h1}) x1 x2 x3 fun h2 y1 y2 y3 y4=>?_
 obtain⟨_,_,y2'⟩:=y2
 have mv:=x4.trans y4
 have neL:∀b o,s₀.heap.get? b=some o→b∉frs outer→b∉frs (envOfC qual scope s₀.heap.objs.size f cdv::outer):=fun b o q hb z=>by
  rcases List.mem_cons.mp (show b∈s₀.heap.objs.size::frs outer from z) with z|z
  ·exact absurd (Heap.lt_size q) (by rw[z];exact Nat.lt_irrefl _)
  ·exact hb z
 have inL:∀b,b∈frs outer→b∈frs (envOfC qual scope s₀.heap.objs.size f cdv::outer):=fun b z=>List.mem_cons_of_mem _ z
 refine⟨ea,C,d,H',B,rfl,⟨l.os.trans I.os,l.bare,y1,l.en,y2',y3,l.hok,⟨fun b o q n hb=>?_,fun b o q n hb=>?_,fun b o q n=>?_,fun b o q=>?_,fun b xs q=>l.un.tups b xs (I.base.tups b xs q),fun b o u q=>l.un.jf b o u (I.base.jf b o u q),fun b ps q=>?_⟩,l.no,?_⟩,hE⟩
 ·exact l.un.keep b o (I.base.keep b o q n hb (by simp[b_])) (I.base.free b o q n (by simp[b_])) (neL b o q hb)
 ·obtain⟨sl,q1⟩:=I.base.slot b o q n hb (by simp[b_])
  obtain⟨sl2,q2⟩:=l.un.slot b _ q1 (I.base.free b o q n (by simp[b_])) (inL b hb)
  have nf:∀vs,o.data≠ .fields vs:=by
   obtain⟨_,o',q3,hn⟩:=l.fr.mem (inL b hb)
   rw[q2] at q3
   cases q3
   exact hn
  obtain⟨sl3,q3⟩:=mv.up b _ q2 nf
  exact⟨sl3,q3⟩
 ·obtain⟨o1,q1⟩:=I.base.there b o q (by simp[b_])
  exact l.un.free b o1 q1 (I.base.free b o q n (by simp[b_]))
 ·obtain⟨o1,q1⟩:=I.base.there b o q (by simp[b_])
  obtain⟨o2,q2⟩:=l.un.there b o1 q1
  exact mv.there b o2 q2
 ·obtain⟨m1,e1⟩:=I.base.jt b ps q
  obtain⟨m2,e2⟩:=l.un.jt b _ e1
  exact⟨m1++m2,by rw[e2,Array.append_assoc]⟩
 ·cases q:s₀.heap.get? ea with
  |none=>rfl
  |some o=>
   obtain⟨o1,q1⟩:=I.base.there ea o q (by simp[b_])
   rw[l.new] at q1
   cases q1
theorem Zal{pins:List (č)}{σ:L2.St}{H:Hp}{s:Shared}{e:Addr}{oe:Obj}{vs:Array Value}(I:Inv (b_ (ū P w) P w K mg base N qual scope f cdv A outer s₀ H₀ E) pins σ H s)
 (he:s.heap.get? e=some oe)(hd:oe.data=.fields vs)(h1:vs[1]?=some .none)(hn:H e=none)(hnew:s₀.heap.get? e=none)(hE:E oe.cls oe.dict H) :
 (b_ (ū P w) P w K mg base N qual scope f cdv A outer s₀ H₀ E).xe (.ref e) s:=by
 have hfr:(A.deeper (envOfC qual scope s₀.heap.objs.size f cdv)).frames=some (envOfC qual scope s₀.heap.objs.size f cdv::outer):=I.ok.frames
 have st:s.heap.FunFrames base (envOfC qual scope s₀.heap.objs.size f cdv::outer):=I.stack
 have nof:e∉frs (envOfC qual scope s₀.heap.objs.size f cdv::outer):=fun z=>by
  obtain⟨_,o,q,hn⟩:=st.mem z
  rw[he] at q
  cases q
  exact hn vs hd
 have hin:∀env∈(envOfC qual scope s₀.heap.objs.size f cdv::outer),∀a,env.frame=some a→a∈e::frs (envOfC qual scope s₀.heap.objs.size f cdv::outer):=fun env h1 a h2=>List.mem_cons_of_mem _ (List.mem_filterMap.mpr ⟨env,h1,h2⟩)
 have hl:s.heap.FunFrames (PySem.W.hideAll s.heap (e::frs (envOfC qual scope s₀.heap.objs.size f cdv::outer))) (envOfC qual scope s₀.heap.objs.size f cdv::outer):=PySem.W.funFrames_hide st hin
 have hB:∀b o,s.heap.get? b=some o→b≠e→b∉frs (envOfC qual scope s₀.heap.objs.size f cdv::outer)→(PySem.W.hideAll s.heap (e::frs (envOfC qual scope s₀.heap.objs.size f cdv::outer))).get? b=some o:=fun b o q h1 h2=>
  PySem.W.hideAll_get _ q fun z=>(List.mem_cons.mp z).elim h1 h2
 have neL:∀b o,s₀.heap.get? b=some o→b∉frs outer→b∉frs (envOfC qual scope s₀.heap.objs.size f cdv::outer):=fun b o q hb z=>by
  rcases List.mem_cons.mp (show b∈s₀.heap.objs.size::frs outer from z) with z|z
  ·exact absurd (Heap.lt_size q) (by rw[z];exact Nat.lt_irrefl _)
  ·exact hb z
 have ne0:∀b o,s₀.heap.get? b=some o→b≠e:=fun b o q z=>by rw[z,hnew] at q;cases q
 have kb:(PySem.W.hideAll s.heap (e::frs (envOfC qual scope s₀.heap.objs.size f cdv::outer))).StaysIn s.heap:=fun b o q=>PySem.W.of_hideAll _ q
 have en:(PySem.W.hideAll s.heap (e::frs (envOfC qual scope s₀.heap.objs.size f cdv::outer))).get? e=none:=PySem.W.hideAll_none _ List.mem_cons_self
 show wpAny _ _ (leaving _ _) _ _ s
 unfold leaving
 refine wpAny_bind (TF hfr hl rfl he kb en hd h1 fun g1 x1 x2 x3 x4=>?_)
 refine Ej (s:={s with heap:=g1}) x1 x2 x3 fun g2 y1 y2 y3 y4=>?_
 obtain⟨_,_,y2'⟩:=y2
 have mv:=x4.trans y4
 refine⟨e,oe.cls,oe.dict,H,_,rfl,⟨I.os,I.bare,y1,en,y2',y3,?_,⟨fun b o q n hb=>?_,fun b o q n hb=>?_,fun b o q n=>?_,fun b o q=>?_,I.base.tups,I.base.jf,I.base.jt⟩,hn,hnew⟩,hE⟩
 ·refine fP.sub I.hok fun b o u hu q=>hB b o q (fun z=>by rw[z,hn] at hu;cases hu) fun z=>?_
  have:=I.tZ b z
  rw[hu] at this
  cases this
 ·exact hB b o (I.base.keep b o q n hb (by simp[b_])) (ne0 b o q) (neL b o q hb)
 ·obtain⟨sl,q1⟩:=I.base.slot b o q n hb (by simp[b_])
  have nf:∀vs,o.data≠ .fields vs:=by
   obtain⟨_,o',q3,hn⟩:=st.mem (List.mem_cons_of_mem _ hb)
   rw[q1] at q3
   cases q3
   exact hn
  obtain⟨sl3,q3⟩:=mv.up b _ q1 nf
  exact⟨sl3,q3⟩
 ·exact I.base.free b o q n (by simp[b_])
 ·obtain⟨o1,q1⟩:=I.base.there b o q (by simp[b_])
  exact mv.there b o1 q1
end
end P
namespace P
open PySem PySem.Spec PyProof.Rows L2 M2 M3 M4
abbrev zU:List Value:=[.type "ValueError",.type "Exception",.type "BaseException",.type "object"]
abbrev TJ:String:= "ValueError.__new__"
section
variable{K:PySem.W.Frag}{h:Heap}{C:Addr}{bmB:List Value}{newId:String}
theorem Zam(X:K.In h)(q:PySem.W.excIn K C bmB newId=true) :
 ∃bm N nm qn bs hd sn sub ab col dd k0 k1 k2 k3 k5 mN,h.get? C=some (excClassObj nm qn C N bs bm hd sn sub ab col dd k0 k1 k2 k3 k5 newId)∧h.Ns N mN∧mN "__init__" =none∧OwnTail h bmB bm:=by
 unfold PySem.W.excIn at q
 split at q
 case h_2=>cases q
 rename_i dd cd sl ho
 split at q
 case h_2=>cases q
 rename_i C1 bm k0 k1 k2 k3 n1 k5 e1 e2
 simp only[Bool.and_eq_true,beq_iff_eq,Bool.not_eq_true'] at q
 obtain⟨⟨⟨⟨⟨z1,z2⟩,z3⟩,z4⟩,z5⟩,z6⟩:=q
 subst z1 z2
 obtain⟨nm,bs,mro,ns,qn,hd,sn,sub,ab,col,del⟩:=cd
 dsimp only at e1 z3 z5 z6
 subst e1 z3
 obtain⟨sll⟩:=sl
 dsimp only at e2
 subst e2
 exact⟨bm,ns,nm,qn,bs,hd,sn,sub,ab,col,dd,k0,k1,k2,k3,k5,_,X _ _ ho,.of_isNs (PySem.W.isNs_of_in X z5),PySem.W.nsMap_none_of_in X z5 z6,PySem.W.tail_of_in X z4⟩
end
def uJ(X:Cx)(E:L2.St→XK):Prop:=∀(pins:List (č)) (σ:L2.St) (H:Hp) (s:Shared) (e:Addr) (oe:Obj) (vs:Array Value),Inv X pins σ H s→s.heap.get? e=some oe→oe.data=.fields vs→vs[1]?=some .none→H e=none→
 X.s₀.heap.get? e=none→E σ oe.cls oe.dict H→X.xe (.ref e) s
theorem nG{P:Program}{w:World}{K:PySem.W.Frag}{mg:Str→Option Value}{base:Heap}{N:List Str}{qual:Str}{scope:Scope}{f:Addr}{cdv:Value}{A:Around}{outer:List Env}{s₀:Shared}{H₀:Hp}{E:XK} :
 uJ (b_ (ū P w) P w K mg base N qual scope f cdv A outer s₀ H₀ E) (fun _=>E):=fun _ _ _ _ _ _ _ I he hd h1 hn hnew hE=>Zal I he hd h1 hn hnew hE
def uK(C:String):M Fl:=fun ρ=>.exc ⟨C,[],[]⟩ ρ
section
variable{X:Cx}{cm:String→Addr}{E:L2.St→XK}{x:Str}{C:String}{np cpos pos:Pos}
theorem uL{P:Program}{w:World}{H:Hp}{h:Heap}{e:Addr}(k:fP P w H h)(q:h.get? e=none):H e=none:=by
 cases z:H e with
 |none=>rfl
 |some u=>
  obtain⟨o,ho⟩:=xG (k e u z)
  rw[q] at ho
  cases ho
theorem Inv.ZdX{pins:List (č)}{σ:L2.St}{H:Hp}{s:Shared}{e:Addr}(I:Inv X pins σ H s)(hex:X.ex=[])(q:s.heap.get? e=none):X.s₀.heap.get? e=none:=by
 cases z:X.s₀.heap.get? e with
 |none=>rfl
 |some o=>
  obtain⟨o1,q1⟩:=I.base.there e o z (by rw[hex];simp)
  rw[q] at q1
  cases q1
theorem xH(hc:X.calm=true)(hex:X.ex=[])(hr:uJ X E)(hg:Gl X x)(hm:X.mg x=some (.ref (cm C)))(q:PySem.W.excIn X.K (cm C) zU TJ=true)(hdb:(x== ("__debug__" :Str))=false:=by decide) :
 PS X (.Raise (some (.Call (.Name x np) [] [] cpos)) none pos) (tS (kk X cm) E (uK C)):=by
 intro pins s σ H D I ⟨c,F,ρ,rel,h⟩
 obtain⟨bm,N,nm,qn,bs,hd,sn,sub,ab,col,dd,k0,k1,k2,k3,k5,mN,hC,hN,hni,T⟩:=Zam I.fV q
 refine wpAny_Raise_call_subT (C:=cm C) (nm:=nm) (q:=qn) (N:=N) (bs:=bs) (bm:=bm) (hdct:=hd) (sn:=sn) (sub:=sub) (ab:=ab) (col:=col) (dd:=dd) (k0:=k0) (k1:=k1) (k2:=k2) (k3:=k3) (k5:=k5)
  PySem.F.excBase_ValueError (mN:=mN) (T.hasType (by decide)) (I.ok.hd hc) rfl hni (jw I hg hm ⟨rfl,?_⟩ hdb)
 refine evalArgs_empty ⟨rfl,Nat.zero_le _,hC,hN,T,fun h' e hx=>?_⟩
 obtain⟨t,he,_,_⟩:=hx.there
 have I2:Inv X pins σ H {s with heap:=h'}:=I.kept (t':=s.toks) hx.keeps
 exact hr pins σ H _ e _ _ I2 he rfl rfl (uL I.hok hx.new) (Inv.ZdX I hex hx.new) (h σ _ _ F H rel (Same.refl _) ⟨rfl,[],.inl ⟨rfl,rfl⟩,rfl,ĝ.nil⟩)
end
section
variable{M:Model}{A:Around}{E:Value→Shared→Prop}{s:Shared}{K:PySem.W.Frag}{e C D:Addr}{oe:Obj}{b:Bool}{Q:Bool→Shared→Prop}
end
section
variable{X:Cx}{pins:List (č)}{σ:L2.St}{H:Hp}{s:Shared}{xe:Value→Shared→Prop}
end
end P
namespace P
open PySem PySem.Spec PyProof.Rows L2 M2 M3 M4
abbrev MH:=PX→ŏ→Res Fl
def TQ(i:Nat)(yes no:List String)(mh:M Fl)(rest:MH):MH:=fun x ρ=>if yes.contains x.C=true then(match mh (ρ.set i (.sh (.xc x.C x.ns x.ps))) with
 | .ok f ρ2=>.ok f (ρ2.set i .no)
 |_=>.bad) else if no.contains x.C=true then rest x ρ else .bad
def ZdY(yes no:List String)(mh:M Fl)(rest:MH):MH:=fun x ρ=>if yes.contains x.C=true then(match mh ρ with
 | .ok f ρ2=>.ok f ρ2
 |_=>.bad) else if no.contains x.C=true then rest x ρ else .bad
def ZlU(mb:M Fl)(mh:MH):M Fl:=fun ρ=>match mb ρ with
 | .exc x ρ1=>mh x ρ1
 |r=>r
section
variable{X:Cx}{cm:String→Addr}{E:L2.St→XK}{pins:List (č)}{σ:L2.St}{H Hc:Hp}{s sc:Shared}{ea:Addr}{C:Value}{d:Option Addr}{B:Heap}
variable{y n:Str}{Dn:String}{i:Nat}{yp hpos:Pos}{b₀:Stmt}{suite:List Stmt}{rest:List ExceptHandler}{yes no:List String}{mh:M Fl}{mr:MH}
end
end P
namespace P
open PySem PySem.Spec PyProof.Rows L2 M2 M3 M4 Builtin Builtin.ObjectAttr
def ž(K:PySem.W.Frag)(C:Addr):Bool:=match K.lookup C with
 |some ⟨.type "type",_,.cls cd,sl⟩=>(match cd.mro,sl.toList with
  | .ref C'::bm,[_,_,_,_,some (.builtin n),_]=>C'== C && n== TJ && !cd.hasDel && cd.hasDict && PySem.W.tailIn K zU bm && PySem.W.findIn K (.ref C) "__setattr__" == some (some (.builtin "object.__setattr__")) &&
      PySem.W.findIn K (.ref C) "__getattribute__" == some (some (.builtin "BaseException.__getattribute__")) && PySem.W.findIn K (.ref C) "__getattr__" == some none
  |_,_=>false)
 |_=>false
structure mW(K:PySem.W.Frag)(C:Addr)(cd:ClassData)(bm:List Value):Prop where
 at_:∃dd k0 k1 k2 k3 k5,K.lookup C=some ⟨.type "type",dd,.cls cd,#[k0,k1,k2,k3,some (.builtin TJ),k5]⟩
 mro:cd.mro=.ref C::bm
 del:cd.hasDel=false
 dict:cd.hasDict=true
 tail:PySem.W.tailIn K zU bm=true
 sa:PySem.W.findIn K (.ref C) "__setattr__" =some (some (.builtin "object.__setattr__"))
 ga:PySem.W.findIn K (.ref C) "__getattribute__" =some (some (.builtin "BaseException.__getattribute__"))
 gg:PySem.W.findIn K (.ref C) "__getattr__" =some none
theorem iy{K:PySem.W.Frag}{C:Addr}(q:ž K C=true):∃cd bm,mW K C cd bm:=by
 unfold ž at q
 split at q
 case h_2=>cases q
 rename_i dd cd sl ho
 split at q
 case h_2=>cases q
 rename_i C1 bm k0 k1 k2 k3 n1 k5 e1 e2
 simp only[Bool.and_eq_true,beq_iff_eq,Bool.not_eq_true'] at q
 obtain⟨⟨⟨⟨⟨⟨⟨z1,z2⟩,z3⟩,z4⟩,z5⟩,z6⟩,z7⟩,z8⟩:=q
 subst z1 z2
 obtain⟨sll⟩:=sl
 dsimp only at e2
 subst e2
 exact⟨cd,bm,⟨dd,k0,k1,k2,k3,k5,ho⟩,e1,z3,z4,z5,z6,z7,z8⟩
section
variable{K:PySem.W.Frag}{h:Heap}{C:Addr}{cd:ClassData}{bm:List Value}
theorem mW.own(x:mW K C cd bm)(X:K.In h):OwnTail h zU bm:=PySem.W.tail_of_in X x.tail
theorem mW.cls(x:mW K C cd bm):PySem.W.clsIn K C=some cd:=by
 obtain⟨_,_,_,_,_,_,e⟩:=x.at_
 unfold PySem.W.clsIn
 rw[e]
theorem xJ{T:String}(hT:zU.contains (.type T)=true):∀{l:List Value},PySem.W.tailIn K zU l=true→l.contains (.type T)=true
 | [],e=>by cases(show(zU== [])=true from e)
 |v::r,e=>by
  unfold PySem.W.tailIn at e
  rcases Bool.or_eq_true_iff.mp e with q|q
  ·rw[beq_iff_eq.mp q];exact hT
  ·split at q
   ·split at q
    ·simp only[Bool.and_eq_true,beq_iff_eq] at q
     rw[List.contains_cons,xJ hT q.2,Bool.or_true]
    ·cases q
   ·cases q
theorem lM(self:Value):∀{l:List Value},PySem.W.tailIn K zU l=true→refuseLoop self "__setattr__" l=pure ()
 | [],e=>by cases(show(zU== [])=true from e)
 |v::r,e=>by
  unfold PySem.W.tailIn at e
  rcases Bool.or_eq_true_iff.mp e with q|q
  ·rw[beq_iff_eq.mp q];exact PySem.F.store_ValueError.passes self
  ·split at q
   ·split at q
    ·simp only[Bool.and_eq_true,beq_iff_eq] at q
     rw[refuseLoop_ref]
     exact lM self q.2
    ·cases q
   ·cases q
theorem mW.mroIs(x:mW K C cd bm){T:String}(hT:zU.contains (.type T)=true):PySem.W.mroIn K C (.type T)=some true:=by
 unfold PySem.W.mroIn
 rw[x.cls,Option.bind_some,if_neg (by rw[x.mro];simp),x.mro,List.contains_cons,xJ hT x.tail,Bool.or_true]
end
section
variable{prog:Program}{w:World}{A:Around}{E:Value→Shared→Prop}{h:Heap}{g:Array GenState}{d:Drawn}{t:Nat}{os:OsState}
variable{nm q:Str}{C N:Addr}{bs bm bmB:List Value}{hdct:Bool}{sn:List Str}{sub:List Value}{ab:Bool}{col:Option Bool}{dd:Option Addr}{k0 k1 k2 k3 k5:Option Value}{B newId initId:String}
theorem mX(F:ExcBaseFacts B newId initId bmB)(T:OwnTail h bmB bm){rest:List Value}{fI:Addr}{oI:Obj}{Q:Fin→Shared→Prop}
 (hC:h.get? C=some (excClassObj nm q C N bs bm hdct sn sub ab col dd k0 k1 k2 k3 k5 newId))(hi:PySem.W.Looks (model prog w) h (typeLookup (.ref C) "__init__") (some (.ref fI)))
 (hfI:h.get? fI=some oI)(hfc:oI.cls=.type "function")
 (hq:∀h' e,Heap.MadeExcOf h h' e (.ref C) rest→
   wpAny (model prog w) A (call (.ref fI) (.ref e::rest)) (fun r s'=>r=.none∧Q (.done (.ret (.ref e))) s') E ⟨h',g,d,t,os⟩)(hrest:rest.length≤sizeLine) :
 wpAny (model prog w) A (Builtin.«type.__call__» ⟨.ref C::rest,[]⟩) Q E ⟨h,g,d,t,os⟩:=by
 repeat (first|with_reducible refine wpAny_loadPart_at hC ?_|with_reducible refine wpAny_madeBy_exc hC ?_|wp_step)
 refine codeAny_call_builtin_code (Code.quiet_builtin _ F.quiet) (wpAny_check_new_subT F T hC ?_)
 refine codeAny_exc_new_subT F T hC ?_ hrest
 show wpAny _ _ _ _ _ _
 have hC₁:= Heap.get?_push_of_some {cls:=.ref C,data:=.fields #[.ref h.objs.size,.none,.none,.none,.bool false,.none]}
  (Heap.get?_push_of_some {cls:=.type "tuple",data:=.seq rest.toArray} hC)
 have hfI₁:= Heap.get?_push_of_some {cls:=.ref C,data:=.fields #[.ref h.objs.size,.none,.none,.none,.bool false,.none]}
  (Heap.get?_push_of_some {cls:=.type "tuple",data:=.seq rest.toArray} hfI)
 have hi₁:= hi.keeps (h':=(h.push {cls:=.type "tuple",data:=.seq rest.toArray}).push {cls:=.ref C,data:=.fields #[.ref h.objs.size,.none,.none,.none,.bool false,.none]}) fun b o e=>Heap.get?_push_of_some _ (Heap.get?_push_of_some _ e)
 have hget:((h.push {cls:=.type "tuple",data:=.seq rest.toArray}).push
  {cls:=.ref C,data:=.fields #[.ref h.objs.size,.none,.none,.none,.bool false,.none]}).get? (h.objs.size+1)=some
  {cls:=.ref C,data:=.fields #[.ref h.objs.size,.none,.none,.none,.bool false,.none]}:=by heap_get
 have hcC:(Value.ref C::bm).contains (.ref C)=true:=by simp
 unfold isInstance
 repeat (first|with_reducible refine wpAny_loadPart_at hget ?_|(with_reducible refine wpAny_isSubtype_exc hC₁ ?_;rw[hcC])|wp_step)
 show wpAny _ _ (typeLookup (.ref C) _) _ _ _
 refine hi₁.at ?_
 refine wpAny_holding (wpAny_bind ?_)
 unfold bindSpecial
 refine wpAny_bind (wpAny_typeOf (T:= "function") ⟨_,hfI₁,hfc⟩ ?_)
 rw[if_pos (by decide)]
 refine wpAny_pure (wpAny_bind (wpAny_mono (hq _ (h.objs.size+1) ⟨fun b o hb=>Heap.get?_push_of_some _ (Heap.get?_push_of_some _ hb),Heap.get?_none_of_le (Nat.le_succ _),h.objs.size,hget,Heap.get?_none_of_le (Nat.le_refl _),?_⟩) (fun r s' hr=>?_) fun _ _ x=>x))
 ·exact Heap.get?_push_of_some _ (Heap.get?_push_at rfl rfl)
 ·obtain⟨rfl,hQ⟩:=hr
  wp_walk
  exact hQ
theorem Bf(F:ExcBaseFacts B newId initId bmB)(T:OwnTail h bmB bm){rest:List Value}{fI:Addr}{oI:Obj}{Q:Value→Shared→Prop}
 (hC:h.get? C=some (excClassObj nm q C N bs bm hdct sn sub ab col dd k0 k1 k2 k3 k5 newId))(hi:PySem.W.Looks (model prog w) h (typeLookup (.ref C) "__init__") (some (.ref fI)))
 (hfI:h.get? fI=some oI)(hfc:oI.cls=.type "function")
 (hq:∀h' e,Heap.MadeExcOf h h' e (.ref C) rest→
   wpAny (model prog w) (A.under (.builtin "type.__call__" ⟨.ref C::rest,[]⟩)) (call (.ref fI) (.ref e::rest)) (fun r s'=>r=.none∧Q (.ref e) s') E ⟨h',g,d,t,os⟩)(hrest:rest.length≤sizeLine) :
 wpAny (model prog w) A (call (.ref C) rest) Q E ⟨h,g,d,t,os⟩:=by
 have f1:=tc_lookup
 have f2:=tc_bind (.ref C)
 have hT:(⟨h,g,d,t,os⟩:Shared).TypeIs (.ref C) "type" := ⟨_,hC,rfl⟩
 refine wpAny_call (codeAny_of_tree ?_)
 show wpAny _ _ (callAny (.ref C) _) _ _ _
 repeat (any_goals (first|assumption|with_reducible refine wpAny_loadPart_at hC ?_|wp_step))
 refine⟨rfl,?_⟩
 refine codeAny_call_builtin_at (Code.quiet_builtin _ (by decide +kernel)) entry_typeCall (wpAny_check_type_call_sub hC (mX (hrest:=hrest) F T hC hi hfI hfc fun h' e hm=>?_))
 exact hq h' e hm
end
section
variable{prog:Program}{w:World}{A:Around}{E:Value→Shared→Prop}{s:Shared}{K:PySem.W.Frag}{x C:Addr}{cd:ClassData}{bm:List Value}{ox:Obj}{od:Option Obj}{name:Str}{v:Value}
theorem ZdZ{rest:List Value}{fI:Addr}{Q:Value→Shared→Prop}(X:K.In s.heap)(c:mW K C cd bm)(hi:PySem.W.findIn K (.ref C) "__init__" =some (some (.ref fI)))(hf:PySem.W.typeIn K (.ref fI)=some (.type "function"))(hrest:rest.length≤sizeLine)
 (hq:∀h' e,Heap.MadeExcOf s.heap h' e (.ref C) rest→wpAny (model prog w) (A.under (.builtin "type.__call__" ⟨.ref C::rest,[]⟩)) (call (.ref fI) (.ref e::rest)) (fun r s'=>r=.none∧Q (.ref e) s') E {s with heap:=h'}) :
 wpAny (model prog w) A (call (.ref C) rest) Q E s:=by
 obtain⟨dd,k0,k1,k2,k3,k5,e⟩:=c.at_
 obtain⟨oI,hoI,hfc⟩:=Option.map_eq_some_iff.mp hf
 have hC:=X _ _ e
 have T:=c.own X
 obtain⟨nm,bs,mro,ns,qn,hd,sn,sub,ab,col,del⟩:=cd
 obtain rfl:mro=.ref C::bm:=c.mro
 obtain rfl:del=false:=c.del
 obtain⟨hh,g,d,t,os⟩:=s
 exact Bf (C:=C) (nm:=nm) (q:=qn) (N:=ns) (bs:=bs) (bm:=bm) (hdct:=hd) (sn:=sn) (sub:=sub) (ab:=ab) (col:=col) (dd:=dd) (k0:=k0) (k1:=k1) (k2:=k2) (k3:=k3) (k5:=k5) PySem.F.excBase_ValueError T hC (PySem.W.looks_findIn X hi) (X _ _ hoI) hfc hq hrest
theorem xK{tk:Tok}{R:Result→Shared→Prop}(X:K.In s.heap)(I:PySem.W.InstAt s.heap x ox C od)(c:mW K C cd bm)(ht:ň K C name)
 (h:∀b,wpAny (model prog w) A.in1 (storeInOwnDict (.ref x) (.ref C) (.str name tk) name v b)
   (fun fin s'=>match fin with| .done f=>R (.ok f) s'| .again c'=>c'.quiet=true∧codeAny (model prog w) A c' R s') (fun e s'=>R (.error e) s') s) :
 codeAny (model prog w) A (.call (.builtin "object.__setattr__") ⟨[.ref x,.str name tk,v],[]⟩) R s:=by
 have SF:=PySem.F.store_object
 have sub:PySem.W.Looks (model prog w) s.heap (isInstance (.ref x) (.type "object")) true:=I.type.andThen (PySem.W.looks_mroIn X (c.mroIs (by decide)))
 refine codeAny_call_builtin SF.slot.plain SF.entry (@PySem.W.check_slot (model prog w) _ _ s "object.__setattr__" "object" "__setattr__" (.ref x) [.str name tk,v] [] _ SF.kind SF.split sub (SF.args (.ref x) (.str name tk) v) ?_)
 have hm:PySem.W.Looks (model prog w) s.heap (mroOf (.ref C)) cd.mro:=(PySem.W.looks_clsIn X c.cls).andThen .now
 have L3:PySem.W.Looks (model prog w) s.heap (typeLookup (.ref C) name) none:=PySem.W.looks_findIn X ht
 rw[PySem.W.osa_eq,refuse_eq]
 refine wpAny_bind (wpAny_bind (I.type.here (wpAny_bind (hm.here ?_))))
 rw[c.mro,refuseLoop_ref,lM _ c.tail]
 refine wpAny_pure (wpAny_bind (I.type.here (wpAny_bind (L3.here (wpAny_bind (wpAny_pure ?_))))))
 exact h _
theorem Jc{sl:Array (Option Value)}{vs:Array Value}{Q:Unit→Shared→Prop}(X:K.In s.heap)(hx:s.heap.get? x=some ⟨.ref C,none,.fields vs,sl⟩)(c:mW K C cd bm)(ht:ň K C name)
 (h:∀h',h'.get? x=some ⟨.ref C,some s.heap.objs.size,.fields vs,sl⟩→h'.Ns1 s.heap.objs.size (fun y=>if y=name then some v else none)→(∀b o,b≠x→s.heap.get? b=some o→h'.get? b=some o)→Q () {s with heap:=h',toks:=s.toks+2}) :
 wpAny (model prog w) A (setAttr (.ref x) name v) Q E s:=by
 have J:PySem.W.InstAt s.heap x ⟨.ref C,none,.fields vs,sl⟩ C none:=⟨hx,rfl,rfl,trivial⟩
 refine PySem.W.set_plain X J c.sa (xK (s:={s with toks:=s.toks+1}) X J c ht fun b=>?_)
 refine wpAny_bind (wpAny_pure (wpAny_bind (wpAny_bind (wpAny_loadPart hx (wpAny_bind (PySem.W.Looks.here (s:={s with toks:=s.toks+1}) (PySem.W.looks_clsIn X c.cls) ?_))))))
 rw[c.dict]
 have hxs:x≠s.heap.objs.size:=Nat.ne_of_lt (Heap.lt_size hx)
 have hx₁:(s.heap.push {cls:=.type "dict",data:=.dict #[]}).get? x=some ⟨.ref C,none,.fields vs,sl⟩:=Heap.get?_push_of_some _ hx
 refine wpAny_bind (wpAny_alloc ?_)
 refine wpAny_bind (wpAny_update hx₁ ?_)
 refine wpAny_pure (a:=some s.heap.objs.size) (wpAny_bind (wpAny_pure (wpAny_bind ?_)))
 have hgd:((s.heap.push {cls:=.type "dict",data:=.dict #[]}).update x fun o=> {cls:=o.cls,dict:=some s.heap.objs.size,data:=o.data,slots:=o.slots}).get? s.heap.objs.size
  = some {cls:=.type "dict",data:=.dict #[]}:=(Heap.get?_update_ne _ _ _ _ hxs.symm).trans (Heap.get?_push_at rfl rfl)
 have hnd:((s.heap.push {cls:=.type "dict",data:=.dict #[]}).update x fun o=> {cls:=o.cls,dict:=some s.heap.objs.size,data:=o.data,slots:=o.slots}).Ns s.heap.objs.size (fun _=>none):=
  ⟨_,#[],_,hgd,rfl,fun e he=>absurd he (by simp),fun _=>rfl⟩
 refine wpAny_nsSet1 (Heap.Ns1.of_empty hnd) fun h' hn' hs=>?_
 obtain⟨oD,esD,epD,hoD,hdD,hcD⟩:=hn'.count (PySem.Within.cons name v PySem.Within.nil)
 refine wpAny_bind (wpAny_lookBehind hoD (by rw[hdD];exact pastItsLine_dict (Nat.le_trans hcD (by rw[List.length_cons,List.length_nil,sizeLine_eq];omega))) ?_)
 refine wpAny_pure (h h' ?_ hn' fun b o hb q=>?_)
 ·exact(hs.2 x hxs).trans (Heap.get?_update_self _ hx₁ rfl)
 ·exact(hs.2 b (Nat.ne_of_lt (Heap.lt_size q))).trans ((Heap.get?_update_ne _ _ _ _ hb).trans (Heap.get?_push_of_some _ q))
theorem FQ{sl:Array (Option Value)}{vs:Array Value}{dx:Addr}{mA:Str→Option Value}{ns:List Str}{Q:Unit→Shared→Prop}(X:K.In s.heap)(hx:s.heap.get? x=some ⟨.ref C,some dx,.fields vs,sl⟩)(hn:s.heap.Ns1 dx mA)(hw:PySem.Within mA ns)(hsz:ns.length<sizeLine)(c:mW K C cd bm)(ht:ň K C name)
 (h:∀h',h'.Ns1 dx (fun y=>if y=name then some v else mA y)→Heap.SameBut dx s.heap h'→Q () {s with heap:=h',toks:=s.toks+2}) :
 wpAny (model prog w) A (setAttr (.ref x) name v) Q E s:=by
 obtain⟨od,hod,_⟩:=qM hn
 have J:PySem.W.InstAt s.heap x ⟨.ref C,some dx,.fields vs,sl⟩ C (some od):=⟨hx,rfl,rfl,hod⟩
 refine PySem.W.set_plain X J c.sa (xK (s:={s with toks:=s.toks+1}) X J c ht fun b=>?_)
 refine wpAny_bind (wpAny_pure (wpAny_bind (wpAny_bind (wpAny_loadPart hx (wpAny_bind (PySem.W.Looks.here (s:={s with toks:=s.toks+1}) (PySem.W.looks_clsIn X c.cls) ?_))))))
 rw[c.dict]
 refine wpAny_pure (a:=some dx) (wpAny_bind (wpAny_pure (wpAny_bind ?_)))
 refine wpAny_nsSet1 (s:={s with toks:=s.toks+1}) hn fun h' hn2 hs2=>?_
 obtain⟨oD,esD,epD,hoD,hdD,hcD⟩:=hn2.count (PySem.Within.cons name v hw)
 refine wpAny_bind (wpAny_lookBehind hoD (by rw[hdD];exact pastItsLine_dict (Nat.le_trans hcD (by rw[List.length_cons];omega))) ?_)
 exact wpAny_pure (h _ hn2 hs2)
end
end P
namespace P
open PySem PySem.Spec PyProof.Rows L2 M2 M3 M4
def xn(a C:Addr)(d:Option Addr):HO:=.ext fun h=>∃o vs,h.get? a=some o∧o.cls=.ref C∧o.dict=d∧o.data=.fields vs∧vs[1]?=some .none
def XDh(H:Hp)(a:Addr)(d:Option Addr)(fs:List (Ÿ)):Prop:=(d=none∧fs=[])∨∃d0,d=some d0∧H d0=some (.xd fs)∧d0≠a
def XDn(H:Hp)(a:Addr)(d:Option Addr)(d':Addr):Prop:=d=some d'∨(d=none∧H d'=none∧d'≠a)
def xM(H:Hp)(a C:Addr)(d:Option Addr)(d':Addr)(fs:List (Ÿ)):Hp:=match d with
 |some _=>upd H d' (.xd fs)
 |none=>upd (upd H d' (.xd fs)) a (xn a C (some d'))
theorem xO{f g:Str}{y:V}{u:Value}{fs:List (Ÿ)}{mA:Str→Option Value}(ry:RelV y u)(r:∀g,jV (fs.lookup g) (mA g)):jV ((aW f y fs).lookup g) (if g=f then some u else mA g):=by
 rw[fZ]
 split
 ·exact ry
 ·exact r g
section
variable{X:Cx}{pins:List (č)}{σ:L2.St}{H:Hp}{s:Shared}{a C:Addr}{cd:ClassData}{bm:List Value}{d:Option Addr}{fs:List (Ÿ)}{f:Str}{y:V}{u:Value}{A:Around}{E:Value→Shared→Prop}
theorem TX{Q:Unit→Shared→Prop}(I:Inv X pins σ H s)(c:mW X.K C cd bm)(ha:H a=some (xn a C d))(hD:XDh H a d fs)(n:ň X.K C f)(hl:fs.length<1000)(ry:RelV y u)
 (h:∀s' d',XDn H a d d'→Inv X pins σ (xM H a C d d' (aW f y fs)) s'→Q () s'):wpAny (model X.prog X.w) A (setAttr (.ref a) f u) Q E s:=by
 obtain⟨⟨o,vs,ho,hcl,hdi,hda,hv1⟩,_,_⟩:=(show ŭ X.prog X.w H s.heap a (xn a C d) from I.hok a _ ha)
 obtain⟨ocls,odict,odata,osl⟩:=o
 dsimp only at hcl hdi hda
 subst hcl hdi hda
 rcases hD with⟨rfl,rfl⟩|⟨d0,rfl,hd0,hne⟩
 ·refine Jc I.fV ho c n fun h' hx' hns k=>h _ s.heap.objs.size (.inr ⟨rfl,I.hok.fresh (Nat.le_refl _),fun z=>?_⟩) ?_
  ·have:=Heap.lt_size ho
   rw[z] at this
   exact Nat.lt_irrefl _ this
  ·obtain⟨od,es,ep,e1,e2⟩:=id hns
   have hfr:=(Heap.get?_some_iff.mp e1).2
   have g1:(s.heap.push od).get? s.heap.objs.size=some od:=Heap.get?_push_at rfl hfr
   have ne:s.heap.objs.size≠a:=fun z=>by
    have:=Heap.lt_size ho
    rw[←z] at this
    exact Nat.lt_irrefl _ this
   have I1:Inv X pins σ (upd H s.heap.objs.size (.xd (aW f y []))) {s with heap:=s.heap.push od,toks:=s.toks}:=
    I.laid (fun b o q=>Heap.get?_push_of_some _ q) (Nat.le_refl _) ⟨_,hns.at fun o q=>by rw[e1] at q;cases q;exact g1,fun g=>xO (fs:=[]) (mA:=fun _=>none) ry fun _=>trivial⟩
   refine I1.write (x:=a) (e:=a) (h':=h') (by rw[Ġ (Ne.symm ne),ha];exact trivial) (.inl rfl) (fun b o hb q=>?_) ⟨_,hx'⟩ ?_
   ·rcases Heap.get?_push_cases q with⟨rfl,rfl⟩|q
    ·exact e1
    ·exact k b o hb q
   ·refine⟨⟨_,vs,hx',rfl,rfl,rfl,hv1⟩,⟨_,hx'⟩,?_⟩
    rintro h1 h2 ⟨o,ws,q1,q2⟩ kk
    exact⟨o,ws,kk o q1,q2⟩
 ·obtain⟨mA,hns,r⟩:=(show ŭ X.prog X.w H s.heap d0 (.xd fs) from I.hok d0 _ hd0)
  have wi:PySem.Within mA (fs.map (·.1)):=fun g hg=>by
   refine Classical.byContradiction fun hn=>hg (jV.none_of ?_)
   rw[←kO (m:=g) (fs:=fs) (by simpa using hn)]
   exact r g
  refine FQ I.fV ho hns wi (by rw[List.length_map,sizeLine_eq];omega) c n fun h' hn2 sb=>h _ d0 (.inl rfl) ?_
  exact I.write (x:=d0) (e:=d0) (by rw[hd0];exact trivial) (.inl rfl) (fun b o hb q=>(sb.2 b hb).trans q) (let ⟨o,_,_,e,_⟩:=hn2;⟨o,e⟩) ⟨_,hn2,fun g=>xO ry r⟩
def tXF(C:Addr)(f:Str)(j:Nat):TS:=fun D σ H=>∃a d fs y,σ[0]?=some (some (.ref a))∧σ[j]?=some (some y)∧H a=some (xn a C d)∧XDh H a d fs∧fs.length<1000∧∀d',XDn H a d d'→D.nx σ (xM H a C d d' (aW f y fs))
def tXB(C:Addr):List (aM)→TS
 | []=>Vc
 |(f,j)::r=>Zc8 (tXF C f j) (tXB C r)
variable{o value:Expr}{pos pos':Pos}{j:Nat}{ss:List Stmt}{r:List (aM)}
theorem Jd(q:ž X.K C=true)(n:ň X.K C f)(ho:PE X o (t_ 0))(hv:PE X value (t_ j))(hs:swapsWith value (some (.Attribute o f pos')) pos.line X.env=pure false:=by rfl):PS X (.Assign [.Attribute o f pos'] value pos) (tXF C f j):=by
 intro pins s σ H D I ⟨a,d,fs,y,h0,hj,ha,hD,hl,h⟩
 obtain⟨cd,bm,c⟩:=iy q
 refine plainObj_wpAny_Assign_Attribute (Ŧ (hv pins s σ H (fun v H1=>v=y∧H1=H) I ⟨y,hj,rfl,rfl⟩) fun u s1 ⟨y1,H1,I1,ry,e1,e2⟩=>?_) hs
 subst e1 e2
 refine Ŧ (ho pins s1 σ _ (fun v H2=>v=.ref a∧H2=H1) I1 ⟨_,h0,rfl,rfl⟩) fun ov s2 ⟨x,H2,I2,rx,e1,e2⟩=>?_
 subst e1 e2
 obtain rfl:ov=Value.ref a:=rx
 exact TX I2 c ha hD n hl ry fun s3 d' hn I3=>⟨σ,_,I3,h d' hn⟩
theorem Je:ju X [] (tXB C []):=Dm
theorem uM(h1:PS X (.Assign [.Attribute o f pos'] value pos) (tXF C f j))(h2:ju X ss (tXB C r)):ju X (.Assign [.Attribute o f pos'] value pos::ss) (tXB C ((f,j)::r)):=wC h1 h2
end
def xiV:List (aM)→List V→List (Ÿ)→Option (List (Ÿ))
 | [],_,fs=>some fs
 |(f,j)::r,vs,fs=>match vs[j]? with
  |some v=>xiV r vs (aW f v fs)
  |none=>none
theorem Jf{D:Ends}{σ:L2.St}{a C:Addr}{vs:List V}(h0:σ[0]?=some (some (.ref a)))(hσ:∀(j:Nat) v,vs[j]?=some v→σ[j]?=some (some v)):∀{fl:List (aM)} {d:Option Addr} {fs fs':List (Ÿ)} {H:Hp},H a=some (xn a C d)→XDh H a d fs→fs.length+fl.length<1000→xiV fl vs fs=some fs'→
 (∀H' d',H' a=some (xn a C d')→XDh H' a d' fs'→(∀b u,b≠a→d≠some b→H b=some u→H' b=some u)→(∀d0,d'=some d0→d=some d0∨H d0=none)→D.nx σ H')→tXB C fl D σ H
 | [],d,fs,fs',H,ha,hD,hl,e,k=>by
   cases e
   exact k H d ha hD (fun _ _ _ _ q=>q) fun d0 q=>.inl q
 |(f,j)::r,d,fs,fs',H,ha,hD,hl,e,k=>by
  unfold xiV at e
  cases ej:vs[j]? with
  |none=>rw[ej] at e;cases e
  |some y=>
   rw[ej] at e
   rw[List.length_cons] at hl
   refine⟨a,d,fs,y,h0,hσ j y ej,ha,hD,by omega,fun d' hn=>?_⟩
   have hda:d'≠a:=by
    rcases hn with rfl|⟨_,_,q⟩
    ·rcases hD with⟨q,_⟩|⟨d0,q,_,z⟩
     ·cases q
     ·cases q;exact z
    ·exact q
   have e1:xM H a C d d' (aW f y fs) a=some (xn a C (some d')):=by
    unfold xM
    rcases hn with rfl|⟨rfl,_,_⟩
    ·dsimp only;rw[Ġ (Ne.symm hda)];exact ha
    ·exact Ĭ
   have e2:xM H a C d d' (aW f y fs) d'=some (.xd (aW f y fs)):=by
    unfold xM
    cases d with
    |some _=>exact Ĭ
    |none=>dsimp only;rw[Ġ hda];exact Ĭ
   have e3:∀b,b≠a→b≠d'→xM H a C d d' (aW f y fs) b=H b:=fun b h1 h2=>by
    unfold xM
    cases d with
    |some _=>exact Ġ h2
    |none=>dsimp only;rw[Ġ h1,Ġ h2]
   have hlen:=gb f y fs
   show tXB C r _ σ _
   refine Jf (fl:=r) (d:=some d') (fs:=aW f y fs) (fs':=fs') h0 hσ e1 (.inr ⟨d',rfl,e2,hda⟩) (by omega) e fun H' d'' q1 q2 q3 q4=>k H' d'' q1 q2 (fun b u h1 h2 h3=>?_) fun d0 z=>?_
   ·have hb:b≠d':=fun z=>by
     rcases hn with q|⟨_,q,_⟩
     ·exact h2 (by rw[q,z])
     ·rw[z,q] at h3;cases h3
    exact q3 b u h1 (fun z=>hb (by cases z;rfl)) (by rw[e3 b h1 hb];exact h3)
   ·rcases q4 d0 z with q|q
    ·cases q
     rcases hn with q|⟨_,q,_⟩
     ·exact .inl q
     ·exact .inr q
    ·have n1:d0≠a:=fun z=>by rw[z,e1] at q;cases q
     have n2:d0≠d':=fun z=>by rw[z,e2] at q;cases q
     rw[e3 d0 n1 n2] at q
     exact .inr q
def spX(n:Nat)(C:Addr)(fl:List (aM)):Sp:=fun vs H Q _=>∃a vs' fs,vs=.ref a::vs'∧vs'.length+1=n∧H a=some (xn a C none)∧fl.length<1000∧xiV fl vs []=some fs∧
 ∀H' d',H' a=some (xn a C d')→XDh H' a d' fs→(∀b u,b≠a→H b=some u→H' b=some u)→(∀d0,d'=some d0→H d0=none)→Q .non H'
theorem rD{N:List Str}{vs:List V}{j:Nat}{v:V}(e:vs[j]?=some v):(L2.start N vs)[j]?=some (some v):=by
 unfold L2.start
 obtain⟨hj,e'⟩:=List.getElem?_eq_some_iff.mp e
 rw[List.getElem?_append_left (by simpa using hj)]
 simp[e]
section
variable{P:Program}{w:World}{K:PySem.W.Frag}{mg:Str→Option Value}{base:Heap}{CX:qj}
theorem fnX{x qual:Str}{st:Stmt}{f:Addr}{fd:FuncData}{N ps:List Str}{k n:Nat}{C:Addr}{fl:List (aM)}(F:Ŷ K x qual st f fd)(S:ĕ N ps (ĉ st))(hn:ps.length=n)
 (hbody:∀(cdv:Value) (A:Around) (outer:List Env) (s:Shared) (H:Hp) (E:XK),ju (b_ CX P w K mg base N qual (ĉ st) f cdv A outer s H E) (bQ st) (tXB C fl)):İ P w K mg base CX (k+1) f fd ps (spX n C fl):=by
 subst hn
 obtain⟨oc,od,kV,doc,pm,an,cdv,ct,osl,rfl,lk,hcd⟩:=F.ex
 refine Ho lk hcd S (fun vs H Q E ⟨a,vs',fs,h1,h2,_⟩=>by rw[h1,List.length_cons];exact h2) fun A outer s H vs Q E hr hsp=>?_
 obtain⟨a,vs',fs,rfl,h2,h3,h4,h5,h6⟩:=hsp
 refine⟨_,hbody cdv A outer s H E,Jf (vs:=.ref a::vs') (rD rfl) (fun j v e=>rD e) h3 (.inl ⟨rfl,rfl⟩) (by simpa using h4) h5 fun H' d' q1 q2 q3 q4=>h6 H' d' q1 q2 (fun b u hb q=>q3 b u hb (by intro z;cases z) q) fun d0 z=>?_⟩
 rcases q4 d0 z with q|q
 ·cases q
 ·exact q
end
theorem fP.ZlV{P:Program}{w:World}{H:Hp}{h:Heap}{ea Ca:Addr}{d:Option Addr}{oe:Obj}{vs:Array Value}(k:fP P w H h)(hn:H ea=none)(he:h.get? ea=some oe)(hc:oe.cls=.ref Ca)(hdi:oe.dict=d)(hd:oe.data=.fields vs)(h1:vs[1]?=some .none):fP P w (upd H ea (xn ea Ca d)) h:=fun b u e=>by
 by_cases hb:b=ea
 ·subst hb
  rw[Ĭ] at e
  cases e
  refine⟨⟨oe,vs,he,hc,hdi,hd,h1⟩,⟨oe,he⟩,?_⟩
  rintro h1 h2 ⟨o,ws,q1,q2⟩ kk
  exact⟨o,ws,kk o q1,q2⟩
 ·rw[Ġ hb] at e
  exact(k b u e).stay (fun _ _ _ q=>q) (fun c q=>by rw[Ġ (ļ q hn)];exact q) fun c xs q=>by rw[Ġ (ļ q hn)];exact q
theorem Inv.ZlW{X:Cx}{pins:List (č)}{σ:L2.St}{H:Hp}{s:Shared}{h':Heap}{e Ca:Addr}{d:Option Addr}{oe:Obj}{vs:Array Value}{t':Nat}(I:Inv X pins σ H s)(k:∀b o,s.heap.get? b=some o→h'.get? b=some o)(new:s.heap.get? e=none)
 (he:h'.get? e=some oe)(hc:oe.cls=.ref Ca)(hdi:oe.dict=d)(hd:oe.data=.fields vs)(h1:vs[1]?=some .none):Inv X pins σ (upd H e (xn e Ca d)) {s with heap:=h',toks:=t'}:=by
 have hn:H e=none:=uL I.hok new
 have u:Un X.fs [] H H s.heap h':=Un.kept k
 refine I.un ⟨u.keep,u.slot,fun b o q n hx=>?_,u.there,fun b xs q=>?_,fun b o v q=>?_,fun b ps q=>?_⟩ (fP.ZlV (I.hok.kept k) hn he hc hdi hd h1)
 ·have hb:b≠e:=fun z=>by rw[z,new] at q;cases q
  rw[Ġ hb];exact n
 ·rw[Ġ (ļ q hn)];exact q
 ·rw[Ġ (ļ q hn)];exact q
 ·exact⟨#[],by rw[Ġ (ļ q hn),q];simp⟩
def TY:List (aM)→List PV→List Str→List PV→Option (List Jg PV)
 | [],_,ns,qs=>some (ns,qs)
 |(_,0)::_,_,_,_=>none
 |(f,j+1)::r,ps,ns,qs=>match ps[j]? with
  |some p=>TY r ps (putN f ns) (xu f p ns qs)
  |none=>none
theorem xP{K:KK}{F:Hp}:∀{ps:List PV} {vs:List V} {j:Nat} {p:PV},ĝ K F ps vs→ps[j]?=some p→∃v,vs[j]?=some v∧Rep K F p v
 | [],_,_,_,_,e=>by simp at e
 |q::ps,vs,j,p,h,e=>by
  unfold ĝ at h
  obtain⟨x,r,rfl,h1,h2⟩:=h
  cases j with
  |zero=>cases e;exact⟨x,rfl,h1⟩
  |succ j=>rw[List.getElem?_cons_succ] at e ⊢;exact xP h2 e
theorem Jh{K:KK}{F:Hp}{ps:List PV}{vs:List V}{e:V}(h:ĝ K F ps vs):∀{fl:List (aM)} {ns ns':List Str} {qs qs':List PV} {fs:List (Ÿ)},TY fl ps ns qs=some (ns',qs')→fs.map (·.1)=ns→ĝ K F qs (fs.map (·.2))→
 ∃fs',xiV fl (e::vs) fs=some fs'∧fs'.map (·.1)=ns'∧ĝ K F qs' (fs'.map (·.2))
 | [],ns,ns',qs,qs',fs,z,hn,hq=>by cases z;exact⟨fs,rfl,hn,hq⟩
 |(f,0)::r,ns,ns',qs,qs',fs,z,hn,hq=>by cases z
 |(f,j+1)::r,ns,ns',qs,qs',fs,z,hn,hq=>by
  unfold TY at z
  cases ej:ps[j]? with
  |none=>rw[ej] at z;cases z
  |some p=>
   rw[ej] at z
   obtain⟨v,ev,rv⟩:=xP h ej
   unfold xiV
   rw[List.getElem?_cons_succ,ev]
   subst hn
   obtain⟨z1,z2⟩:=uI (f:=f) (p:=p) rv hq
   exact Jh h (fs:=aW f v fs) z z1 z2
def Zan(C:String)(n:Nat)(fl:List (aM))(ms:M (List PV)):M PV:=fun ρ=>(ms ρ).bind fun ps ρ1=>if ps.length+1=n∧ps.length<1000∧fl.length<1000 then(match TY fl ps [] [] with
 |some (ns,qs)=>.ok (.xc C ns qs) ρ1
 |none=>.bad) else .bad
def nH(C:String)(n:Nat)(fl:List (aM))(ms:M (List PV)):M Fl:=fun ρ=>(ms ρ).bind fun ps ρ1=>if ps.length+1=n∧ps.length<1000∧fl.length<1000 then(match TY fl ps [] [] with
 |some (ns,qs)=>.exc ⟨C,ns,qs⟩ ρ1
 |none=>.bad) else .bad
section
variable{X:Cx}{cm:String→Addr}{E:L2.St→XK}{e:Expr}{es:List Expr}{pos p:Pos}{CX:qj}{k n:Nat}{f:Addr}{fd:FuncData}{ps:List Str}{C:String}{fl:List (aM)}{ms:M (List PV)}{x:Str}
structure XMk(K:PySem.W.Frag)(C f:Addr):Prop where
 x:ž K C=true
 kp:PySem.W.keepIn K (.ref C)=true
 init:PySem.W.findIn K (.ref C) "__init__" =some (some (.ref f))
 fn:PySem.W.typeIn K (.ref f)=some (.type "function")
theorem FT{pins:List (č)}{σ:L2.St}{H:Hp}{s:Shared}{G:Value→Shared→Prop}{us:List Value}{vs:List V}{sp:Sp}{C:Addr}{T:Addr→Hp→Prop}(M:XMk X.K C f)(F:İ X.prog X.w X.K X.mg X.base CX k f fd ps sp)(hr:bI (k+1) X.A)(hb:Binds X.K fd ps [])
 (hx:cD CX X E)(I:Inv X pins σ H s)(r:Vals vs us)(hl:us.length≤sizeLine)
 (h:∀x,H x=none→sp (.ref x::vs) (upd H x (xn x C none)) (fun v H2=>v=.non∧T x H2) (E σ))
 (k:∀x H2 s',H x=none→s.heap.get? x=none→Inv X pins σ H2 s'→T x H2→G (.ref x) s') :
 wpAny (model X.prog X.w) X.A (call (.ref C) us) G X.xe s:=by
 obtain⟨cd,bm,c⟩:=iy M.x
 refine ZdZ I.fV c M.init M.fn hl fun h' e hm=>?_
 obtain⟨t,he,_,_⟩:=hm.there
 have hn:H e=none:=uL I.hok hm.new
 have I2:Inv X pins σ (upd H e (xn e C none)) {s with heap:=h',toks:=s.toks}:=Inv.ZlW I hm.keeps hm.new he rfl rfl rfl rfl
 have hq:=h e hn
 have r2:Vals (V.ref e::vs) (Value.ref e::us):=.cons rfl r
 have hl:(Value.ref e::us ++ []).length=ps.length:=by
  have q:=r2.length
  rw[F.len _ _ _ _ hq] at q
  rw[List.append_nil]
  exact q.symm
 have hbd:=hb {s with heap:=h'} (Value.ref e::us) I2.fV hl
 rw[List.append_nil] at hbd
 refine wpAny_call (codeAny_mono (F.run _ X.stack _ _ ⟨Value.ref e::us,[]⟩ _ _ _ (E σ) (hr.make C us []) (I2.env0.make C us []) hbd r2 hq) fun r s' hq'=>?_)
 cases r with
 |error e=>exact hx pins σ _ _ e s' I2 hq'
 |ok fl=>
  cases fl with
  |ret u=>
   obtain⟨v,H',I3,rv,ev,q3⟩:=I2.after hq'
   subst ev
   exact⟨rv,k e H' s' hn hm.new I3 q3⟩
  |next=>exact False.elim hq'
  |brk=>exact False.elim hq'
  |cont=>exact False.elim hq'
def rem(H:Hp)(a:Addr):Hp:=fun b=>if b=a then none else H b
theorem gK{H:Hp}{a b:Addr}(h:b≠a):rem H a b=H b:=if_neg h
theorem xQ{H:Hp}{a:Addr}:rem H a a=none:=if_pos rfl
theorem jD{H:Hp}{a b:Addr}(h:H b=none):rem H a b=none:=by
 unfold rem
 split
 ·rfl
 ·exact h
theorem Inv.drop{pins:List (č)}{σ:L2.St}{H:Hp}{s:Shared}{a:Addr}{φ:Heap→Prop}(I:Inv X pins σ H s)(ha:H a=some (.ext φ)):Inv X pins σ (rem H a) s:=by
 have ne:∀b u,H b=some u→(∀ψ,u≠ .ext ψ)→b≠a:=fun b u q n z=>by rw[z,ha] at q;cases q;exact n _ rfl
 refine⟨I.ok,I.os,I.bare,⟨I.base.keep,I.base.slot,fun b o q n hx=>jD (I.base.free b o q n hx),I.base.there,fun b xs q=>?_,fun b o u q=>?_,fun b ps q=>?_⟩,I.loc,I.cell,jD I.free,fun x c e=>jD (I.fU x c e),fun p hp=>?_,fun b u e=>?_,I.len⟩
 ·have q':=I.base.tups b xs q
  rw[gK (ne b _ q' (by intro ψ z;cases z))];exact q'
 ·have q':=I.base.jf b o u q
  rw[gK (ne b _ q' (by intro ψ z;cases z))];exact q'
 ·obtain⟨m,q'⟩:=I.base.jt b ps q
  exact⟨m,by rw[gK (ne b _ q' (by intro ψ z;cases z))];exact q'⟩
 ·obtain⟨h1,h2,h3⟩:=I.pin p hp
  exact⟨h1,jD h2,h3⟩
 ·have hb:b≠a:=fun z=>by rw[z,xQ] at e;cases e
  rw[gK hb] at e
  exact(I.hok b u e).stay (fun _ _ _ q=>q) (fun c q=>by rw[gK (ne c _ q (by intro ψ z;cases z))];exact q) fun c xs q=>by rw[gK (ne c _ q (by intro ψ z;cases z))];exact q
theorem Zd0{K:KK}{c:Ctx}{F1 H1 H':Hp}{σ:L2.St}{ρ1:ŏ}{x Ca:Addr}{d':Option Addr}{fs:List (Ÿ)}(ę:Rel K c F1 H1 σ ρ1)(hx:H1 x=none)(hD:XDh H' x d' fs)(hH:∀b u,b≠x→upd H1 x (xn x Ca none) b=some u→H' b=some u)
 (hd:∀d0,d'=some d0→upd H1 x (xn x Ca none) d0=none):∃F',Rel K c F' H' σ ρ1∧Same F1 F'∧Same H1 H'∧nY F' d' fs∧F' x=none:=by
 have sH:Same H1 H':=fun b u e=>hH b u (ļ e hx) (by rw[Ġ (ļ e hx)];exact e)
 have r2:Rel K c F1 H' σ ρ1:=ę.call ⟨sH,Same.refl _,ę.sub.trans sH,fun _ _ q=>q⟩
 rcases hD with⟨rfl,rfl⟩|⟨d0,rfl,h2,hne⟩
 ·exact⟨F1,r2,Same.refl _,sH,.inl ⟨rfl,rfl⟩,ę.sub.free hx⟩
 ·have n0:H1 d0=none:=by
   have:=hd d0 rfl
   rw[Ġ hne] at this
   exact this
  refine⟨upd F1 d0 (.xd fs),r2.freeze h2 (ę.base.free n0) (ę.sub.free n0) (ę.fresh n0),Same.upd (ę.sub.free n0),sH,.inr ⟨d0,rfl,Ĭ⟩,?_⟩
  rw[Ġ (Ne.symm hne)]
  exact ę.sub.free hx
def T_(C:String):M PV:=fun ρ=>.ok (.xc C [] []) ρ
end
section
variable{M:Model}{A:Around}{E:Value→Shared→Prop}{s:Shared}{K:PySem.W.Frag}{env:Env}
theorem Ua{x:Sem Value}{Q:Flow→Shared→Prop}(hh:A.handled=none)
 (h:wpAny M A x (fun v s₁=>∃e C oe vs oC,v=.ref e∧K.In s₁.heap∧s₁.heap.get? C=some oC∧oC.cls=.type "type" ∧PySem.W.mroIn K C (.type "BaseException")=some true∧s₁.heap.get? e=some oe∧oe.cls=.ref C∧oe.data=.fields vs∧vs[1]?=some .none∧E (.ref e) s₁) E s) :
 wpAny M A (raiseStmt env (some x) none) Q E s:=by
 unfold raiseStmt
 refine wpAny_bind (wpAny_mono h (fun v s₁ h₁=>?_) fun _ _ x=>x)
 obtain⟨e,C,oe,vs,oC,rfl,KX,hC,hCt,hm,he,hc,hd,h1,hE⟩:=h₁
 have L4:=PySem.W.looks_mroIn (M:=M) KX hm
 obtain⟨hp,g,d,tk,os⟩:=s₁
 obtain⟨ocls,odict,odata,osl⟩:=oe
 dsimp only at hc hd
 subst hc hd
 repeat (first|with_reducible refine wpAny_loadPart_at he ?_|(with_reducible refine wpAny_loadPart_at hC ?_;rw[hCt])|with_reducible refine PySem.W.Looks.at L4 ?_|with_reducible refine wpAny_field he rfl h1 ?_|wp_step)
 exact wpAny_raiseNew_none hh hE
end
section
variable{X:Cx}{cm:String→Addr}{E:L2.St→XK}{e:Expr}{es:List Expr}{pos cpos np:Pos}{CX:qj}{k n:Nat}{f:Addr}{fd:FuncData}{ps:List Str}{C:String}{fl:List (aM)}{ms:M (List PV)}{x:Str}
theorem ŧ.bindL{K:KK}{c:Ctx}{F H:Hp}{σ:L2.St}{D:Ends}{Q':List V→Hp→Prop}{r:Res (List PV)}{g:List PV→ŏ→Res Fl}(h:ŧ K E c F D (r.bind g))
 (k:∀p ρ1 v F1 H1,Rel K c F1 H1 σ ρ1→Same F F1→Same H H1→ĝ K F1 p v→ŧ K E c F1 D (g p ρ1)→Q' v H1):bJ K E (rL K) c F H σ Q' r:=by
 cases r with
 |bad=>exact h
 |exc x ρ'=>exact fun C d F' H' rel s1 q=>h σ C d F' H' rel s1 q
 |ok p ρ1=>exact fun v F' H' rel s1 s2 q=>k p ρ1 v F' H' rel s1 s2 q (ŧ.mono h s1)
theorem Bg{c:Ctx}{F1 H1:Hp}{σ:L2.St}{ρ1:ŏ}{D:Ends}{qs:List PV}{vs:List V}(ę:Rel (kk X cm) c F1 H1 σ ρ1)(r1:ĝ (kk X cm) F1 qs vs)
 (h:ŧ (kk X cm) E c F1 D (if qs.length+1=n∧qs.length<1000∧fl.length<1000 then(match TY fl qs [] [] with|some (ns,qs)=>.exc ⟨C,ns,qs⟩ ρ1|none=>.bad) else .bad)) :
 vs.length≤sizeLine∧∀x,H1 x=none→spX n (cm C) fl (.ref x::vs) (upd H1 x (xn x (cm C) none)) (fun v H2=>v=.non∧∃d',H2 x=some (xn x (cm C) d')∧E σ (.ref (cm C)) d' (rem H2 x)) (E σ):=by
 split at h
 case isFalse=>exact h.elim
 rename_i hz
 cases ex:TY fl qs [] [] with
 |none=>rw[ex] at h;exact h.elim
 |some z=>
  obtain⟨ns,ws⟩:=z
  rw[ex] at h
  refine⟨by rw[←ĝ.length r1,Ŏ];omega,fun x hx=>?_⟩
  obtain⟨fs,e1,e2,e3⟩:=Jh (e:=.ref x) r1 (fs:=[]) ex rfl ĝ.nil
  refine⟨x,vs,fs,rfl,by rw[←ĝ.length r1];exact hz.1,Ĭ,hz.2.2,e1,fun H' d' q1 q2 q3 q4=>⟨rfl,d',q1,?_⟩⟩
  have q2':XDh (rem H' x) x d' fs:=by
   rcases q2 with q|⟨d0,z1,z2,z3⟩
   ·exact .inl q
   ·exact .inr ⟨d0,z1,by rw[gK z3];exact z2,z3⟩
  obtain⟨F',rl,sF,sH,xd,fx⟩:=Zd0 (Ca:=cm C) ę hx q2' (fun b u hb q=>by rw[gK hb];exact q3 b u hb q) q4
  exact h σ _ _ F' _ rl sF ⟨rfl,fs,xd,e2,ĝ.same sF _ _ e3⟩
theorem xR(hc:X.calm=true)(hex:X.ex=[])(hrs:uJ X E)(M:XMk X.K (cm C) f)(F:İ X.prog X.w X.K X.mg X.base CX k f fd ps (spX n (cm C) fl))(hr:bI (k+1) X.A)(hg:Gl X x)(hm:X.mg x=some (.ref (cm C)))(hb:Binds X.K fd ps [])(hx:cD CX X E)
 (ha:PA X (e::es) (tL (kk X cm) E ms))(hdb:(x== ("__debug__" :Str))=false:=by decide)(he:starEach (e::es) X.env=(false,eval e X.env)::starEach es X.env:=by exact ı rfl)(hpl:(backTo cpos (starEach es X.env)).any (·.1)=false:=by rfl) :
 PS X (.Raise (some (.Call (.Name x np) (e::es) [] cpos)) none pos) (tS (kk X cm) E (nH C n fl ms)):=by
 intro pins s σ H D I ⟨c,F',ρ,rel,h⟩
 rw[arm_exec_Raise]
 refine wpAny_bind (wpAny_standAt ?_)
 show wpAny _ _ (raiseStmt X.env (some (do let v ←eval (.Call (.Name x np) (e::es) [] cpos) X.env;standAt pos;pure v)) none) _ _ _
 refine Ua (K:=X.K) (I.ok.hd hc) (wpAny_bind ?_)
 obtain⟨cd,bm,xc⟩:=iy M.x
 obtain⟨dd,k0,k1,k2,k3,k5,lC⟩:=xc.at_
 refine wpAny_mono (wpAny_Call_Name_kw (jw I hg hm (PySem.W.callWith_K (h₀:= X.base) I.ok.mod.kin M.kp (Ŧ (ha cpos pins s σ H (fun vs H1=>vs.length≤sizeLine∧∀x,H1 x=none→spX n (cm C) fl (.ref x::vs) (upd H1 x (xn x (cm C) none)) (fun v H2=>v=.non∧∃d',H2 x=some (xn x (cm C) d')∧E σ (.ref (cm C)) d' (rem H2 x)) (E σ)) I
  ⟨c,F',ρ,rel,ŧ.bindL h fun qs ρ1 vs F1 H1 ę _ _ r1 h1=>Bg ę r1 h1⟩) fun us s1 ⟨vs,H1,I1,r,q0,q⟩=>⟨I1.fV,FT (G:=fun v s₁=>∃e C oe vs oC,v=.ref e∧X.K.In s₁.heap∧s₁.heap.get? C=some oC∧oC.cls=.type "type" ∧PySem.W.mroIn X.K C (.type "BaseException")=some true∧s₁.heap.get? e=some oe∧oe.cls=.ref C∧oe.data=.fields vs∧vs[1]?=some .none∧X.xe (.ref e) s₁)
    M F hr hb hx I1 r (by rw[←Vals.length r];exact q0) q fun y H2 s' _ hnew I3 ⟨d',h1,h2⟩=>?_⟩) he hpl) hdb)) (fun v s3 h3=>wpAny_bind (wpAny_standAt (wpAny_pure h3))) fun _ _ z=>z
 obtain⟨⟨oe,ws,ho,hcl,hdi,hda,hv1⟩,_,_⟩:=(show ŭ X.prog X.w H2 s'.heap y (xn y (cm C) d') from I3.hok y _ h1)
 refine⟨y,cm C,oe,ws,_,rfl,I3.fV,I3.fV _ _ lC,rfl,xc.mroIs (by decide),ho,hcl,hda,hv1,?_⟩
 exact hrs pins σ (rem H2 y) s' y oe ws (Inv.drop I3 h1) ho hda hv1 xQ (Inv.ZdX I1 hex hnew) (by rw[hcl,hdi];exact h2)
end
end P
namespace P
open PySem PySem.Spec PyProof.Rows L2 M2 M3 M4 Builtin Builtin.ObjectAttr
def cY(K:PySem.W.Frag)(C:Addr):Bool:=ž K C && PySem.W.findIn K (.ref C) "__class__" == some (some (.builtin "object.__class__")) && PySem.W.specialIn K (.builtin "object.__class__") "__get__" == some (some (.builtin "getset_descriptor.__get__")) && PySem.W.takesIn K (.builtin "object.__class__")== some true
theorem oR{K:PySem.W.Frag}{C:Addr}(q:cY K C=true):ž K C=true∧PySem.W.findIn K (.ref C) "__class__" =some (some (.builtin "object.__class__"))∧PySem.W.specialIn K (.builtin "object.__class__") "__get__" =some (some (.builtin "getset_descriptor.__get__"))∧PySem.W.takesIn K (.builtin "object.__class__")=some true:=by
 unfold cY at q
 simp only[Bool.and_eq_true,beq_iff_eq] at q
 obtain⟨⟨⟨z1,z2⟩,z3⟩,z4⟩:=q
 exact⟨z1,z2,z3,z4⟩
section
variable{prog:Program}{w:World}{A:Around}{E:Value→Shared→Prop}{s:Shared}{K:PySem.W.Frag}{x C:Addr}{ox:Obj}{od:Option Obj}
theorem Ub{R:Result→Shared→Prop}{tk:Tok}(X:K.In s.heap)(I:PySem.W.InstAt s.heap x ox C od)(q:cY K C=true)
 (h:R (.ok (.ret (.ref C))) s):codeAny (model prog w) A (.call (.builtin "BaseException.__getattribute__") ⟨[.ref x,.str "__class__" tk],[]⟩) R s:=by
 obtain⟨q0,q1,q2,q3⟩:=oR q
 obtain⟨cd,bm,c⟩:=iy q0
 have hk:builtinKind "BaseException.__getattribute__" =some .slot:=by decide +kernel
 have hsplit:splitId "BaseException.__getattribute__" =some ("BaseException","__getattribute__"):=by decide +kernel
 have L0:=I.type (M:=model prog w)
 have hf:PySem.W.findObj K C od "__class__" =some (.bind (.builtin "getset_descriptor.__get__") (.builtin "object.__class__")):=by
  unfold PySem.W.findObj
  rw[c.cls,Option.bind_some,q1,Option.bind_some]
  simp[q2,q3]
 have L3:=PySem.W.looks_find (M:=model prog w) X I hf
 have hsub:PySem.W.Looks (model prog w) s.heap (isInstance (.ref x) (.type "BaseException")) true:=L0.andThen (PySem.W.looks_mroIn X (c.mroIs (by decide)))
 refine codeAny_call_builtin PySem.F.attrBase_ValueError.ga.plain PySem.F.entry_bexc_ga (@PySem.W.check_slot (model prog w) _ _ s "BaseException.__getattribute__" "BaseException" "__getattribute__" (.ref x) [.str "__class__" tk] [] _ hk hsplit hsub (PySem.F.args_bexc_ga (.ref x) (.str "__class__" tk)) ?_)
 unfold Builtin.«object.__getattribute__»
 refine wpAny_bind (wpAny_pure (wpAny_bind (wpAny_pure (wpAny_bind (L0.here (wpAny_bind (L3.here ?_)))))))
 refine wpAny_bind (wpAny_holding (wpAny_call (PySem.W.class_get X I (c.mroIs (by decide)) ?_)))
 exact wpAny_pure h
theorem Ji{Q:Option Value→Shared→Prop}(X:K.In s.heap)(I:PySem.W.InstAt s.heap x ox C od)(q:cY K C=true)
 (h:Q (some (.ref C)) {s with toks:=s.toks+1}):wpAny (model prog w) A (getAttr? (.ref x) "__class__") Q E s:=by
 obtain⟨q0,q1,q2,q3⟩:=oR q
 obtain⟨cd,bm,c⟩:=iy q0
 have FB:=PySem.F.attrBase_ValueError
 obtain⟨hp,g,d,t,os⟩:=s
 have L0:=I.type (M:=model prog w)
 have L1:=PySem.W.looks_findIn (M:=model prog w) X c.ga
 have L2:=PySem.W.looks_findIn (M:=model prog w) X c.gg
 unfold getAttr? getAttrBy? getAttrBy
 refine wpAny_bind (wpAny_mkText (wpAny_bind (wpAny_attempt (wpAny_holding (wpAny_bind (L0.at (wpAny_bind (L1.at ?_))))))))
 show wpAny _ _ (getAttrByItsOwn _ _ _ _ _ _) _ _ _
 have f3:=FB.ga.bind (.ref x)
 unfold getAttrByItsOwn hookBefore callGetattribute
 refine wpAny_bind (L2.at ?_)
 refine wpAny_bind (wpAny_attempt (wpAny_holding ?_))
 rw[if_neg (by decide)]
 unfold boundAndCalled
 rw[f3]
 refine wpAny_bind (wpAny_pure (wpAny_call ?_))
 exact Ub (s:=⟨hp,g,d,t+1,os⟩) X I q (show wpAny _ _ (handedOut (.ref C)) _ _ _ by rw[PySem.W.handedOut_of rfl];exact wpAny_pure (wpAny_pure h))
end
theorem Jj{K:PySem.W.Frag}{x D:Addr}(q:cY K D=true):PySem.W.KitX K (.ref x) (.ref D) (fun h=>∃ox od,PySem.W.InstAt h x ox D od):=by
 obtain⟨q0,q1,q2,q3⟩:=oR q
 obtain⟨cd,bm,c⟩:=iy q0
 obtain⟨dd,k0,k1,k2,k3,k5,lC⟩:=c.at_
 refine⟨fun _ _ _ ⟨ox,od,I⟩=>I.type,fun _ _ X _=>?_,fun h tp dd its n sl X htp=>?_,fun X ⟨ox,od,I⟩ k=>Ji X I q k⟩
 ·intro A' Q' E' s' k q
  unfold isType loadHead
  exact wpAny_bind (wpAny_loadPart (k _ _ (X _ _ lC)) (wpAny_pure q))
 ·refine Bool.eq_false_iff.mpr fun q=>?_
  have e:D=tp:=Value.ref.inj (beq_iff_eq.mp q)
  subst e
  have z:=congrArg Obj.cls (Option.some.inj ((X _ _ lC).symm.trans htp))
  exact absurd (Value.type.inj z) (by decide)
section
variable{X:Cx}{cm:String→Addr}{K:KK}
def Vt(K:PySem.W.Frag):List V→Hp→VK→Prop:=fun xs H Q=>Ef K xs H Q∨∃a C d fs c cv b,xs=[.ref a,c]∧RelV c cv∧(∀u,RelV c u→u=cv)∧H a=some (xo a C d)∧nY H d fs∧cY K C=true∧PySem.W.kitOne K (.ref C) cv=some b∧Q (.bl b) H
theorem iz:Ţ X (.builtin "isinstance") (Vt X.K):=by
 intro pins s σ H xs us Q I r h
 rcases h with h|⟨a,C,d,fs,c,cv,b,rfl,rc,uq,ha,hD,q,hk,hQ⟩
 ·exact Zag pins s σ H xs us Q I r h
 ·obtain⟨u,w',rfl,r1,r2⟩:=vals2 r
  cases(show u=Value.ref a from r1)
  rw[uq w' r2]
  obtain⟨⟨o,ws,ho,hcl,hdi,hda⟩,_,_⟩:=(show ŭ X.prog X.w H s.heap a (xo a C d) from I.hok a _ ha)
  obtain⟨ocls,odict,odata,osl⟩:=o
  dsimp only at hcl hdi hda
  subst hcl hdi hda
  have J:∃ox od,PySem.W.InstAt s.heap a ox C od:=by
   rcases hD with⟨rfl,_⟩|⟨d0,rfl,z⟩
   ·exact⟨_,none,ho,rfl,rfl,trivial⟩
   ·obtain⟨od,z'⟩:=xG (I.hok d0 _ z)
    exact⟨_,some od,ho,rfl,rfl,z'⟩
  exact PySem.W.kia_one (Jj q) I.fV J hk (fun z=>nomatch z) fun tk=>⟨.bl b,H,I.tok _,rfl,hQ⟩
def uN(Q:String→String→Bool→Prop):List ((œ)jE)→Prop
 | []=>True
 |((c,d),b)::r=>Q c d b∧uN Q r
theorem uN.get{Q:String→String→Bool→Prop}:∀{t:List ((œ)jE)} {c d:String} {b:Bool},uN Q t→t.lookup (c,d)=some b→Q c d b
 | [],_,_,_,_,h=>by simp at h
 |((c',d'),b')::r,c,d,b,⟨h1,h2⟩,h=>by
  rw[List.lookup_cons] at h
  cases e:(c,d)== (c',d') with
  |true=>
   rw[e] at h
   cases h
   obtain⟨rfl,rfl⟩:=Prod.mk.inj (beq_iff_eq.mp e)
   exact h1
  |false=>
   rw[e] at h
   exact h2.get h
def cZ(tc tt:List ((œ)jE))(ds nt:List String):List PV→Option PV
 | [.xc C _ _,.cls D]=>(tc.lookup (C,D)).map .bl
 | [.xc C _ _,.ty D]=>(tt.lookup (C,D)).map .bl
 | [.non,.cls D]=>if ds.contains D=true then some (.bl false) else none
 | [.non,.ty D]=>if nt.contains D=true then some (.bl false) else Ir [.non,.ty D]
 |ps=>Ir ps
theorem iB{tc tt:List ((œ)jE)}{ds nt:List String}(hc:uN (fun C D b=>cY K.K (K.cm C)=true∧PySem.W.kitOne K.K (.ref (K.cm C)) (.ref (K.cm D))=some b) tc)
 (ht:uN (fun C D b=>cY K.K (K.cm C)=true∧PySem.W.kitOne K.K (.ref (K.cm C)) (.type D)=some b) tt)(hd:oM (fun D=>PySem.W.kitOne K.K (.type "NoneType") (.ref (K.cm D))=some false) ds)
 (hn:oM (fun D=>PySem.W.kitOne K.K (.type "NoneType") (.type D)=some false) nt):dN K (Vt K.K) (cZ tc tt ds nt):=by
 intro c F H σ ρ ps pv vs Q rel r e k
 unfold cZ at e
 split at e
 ·rename_i C ns qs D
  obtain⟨v,u,rfl,r1,r2⟩:=rl2 r
  cases eb:tc.lookup (C,D) with
  |none=>rw[eb] at e;cases e
  |some b=>
   rw[eb] at e
   cases e
   obtain⟨k1,k2⟩:=hc.get eb
   have r1':Rep K F (.xc C ns qs) v:=by rcases r1 with q|q;exact q;exact q.elim
   have r2':Rep K F (.cls D) u:=by rcases r2 with q|q;exact q;exact q.elim
   unfold Rep at r1' r2'
   obtain⟨a,d,fs,rfl,q2,q3,q4,q5⟩:=r1'
   subst r2'
   exact .inr ⟨a,_,d,fs,_,.ref (K.cm D),b,rfl,rfl,fun u z=>z,rel.sub _ _ q2,q3.same rel.sub,k1,k2,k _ F H rel (Same.refl _) (Same.refl _) Rep.bl⟩
 ·rename_i C ns qs D
  obtain⟨v,u,rfl,r1,r2⟩:=rl2 r
  cases eb:tt.lookup (C,D) with
  |none=>rw[eb] at e;cases e
  |some b=>
   rw[eb] at e
   cases e
   obtain⟨k1,k2⟩:=ht.get eb
   have r1':Rep K F (.xc C ns qs) v:=by rcases r1 with q|q;exact q;exact q.elim
   have r2':Rep K F (.ty D) u:=by rcases r2 with q|q;exact q;exact q.elim
   unfold Rep at r1' r2'
   obtain⟨a,d,fs,rfl,q2,q3,q4,q5⟩:=r1'
   subst r2'
   exact .inr ⟨a,_,d,fs,_,.type D,b,rfl,rfl,fun u z=>z,rel.sub _ _ q2,q3.same rel.sub,k1,k2,k _ F H rel (Same.refl _) (Same.refl _) Rep.bl⟩
 ·rename_i D
  obtain⟨v,u,rfl,r1,r2⟩:=rl2 r
  split at e
  ·rename_i hD
   cases e
   cases r1.non
   have r2':Rep K F (.cls D) u:=by rcases r2 with q|q;exact q;exact q.elim
   unfold Rep at r2'
   subst r2'
   exact .inl ⟨_,false,rfl,hd.get hD,k _ F H rel (Same.refl _) (Same.refl _) Rep.bl⟩
  ·cases e
 ·rename_i D
  split at e
  ·rename_i hD
   obtain⟨v,u,rfl,r1,r2⟩:=rl2 r
   cases e
   cases r1.non
   cases r2.ty
   exact .inl ⟨_,false,rfl,hn.get hD,k _ F H rel (Same.refl _) (Same.refl _) Rep.bl⟩
  ·exact .inl (Iu rel r e k)
 ·exact .inl (Iu rel r e k)
end
def isC(K:PySem.W.Frag)(cm:String→Addr):List ((œ)jE)→Bool
 | []=>true
 |((c,d),b)::r=>cY K (cm c) && PySem.W.kitOne K (.ref (cm c)) (.ref (cm d))== some b && isC K cm r
theorem Jk{K:PySem.W.Frag}{cm:String→Addr}:∀{t:List ((œ)jE)},isC K cm t=true→uN (fun C D b=>cY K (cm C)=true∧PySem.W.kitOne K (.ref (cm C)) (.ref (cm D))=some b) t
 | [],_=>trivial
 |((c,d),b)::r,h=>by
  unfold isC at h
  rw[Bool.and_eq_true,Bool.and_eq_true] at h
  exact⟨⟨h.1.1,beq_iff_eq.mp h.1.2⟩,Jk h.2⟩
def isT(K:PySem.W.Frag)(cm:String→Addr):List ((œ)jE)→Bool
 | []=>true
 |((c,d),b)::r=>cY K (cm c) && PySem.W.kitOne K (.ref (cm c)) (.type d)== some b && isT K cm r
theorem Jl{K:PySem.W.Frag}{cm:String→Addr}:∀{t:List ((œ)jE)},isT K cm t=true→uN (fun C D b=>cY K (cm C)=true∧PySem.W.kitOne K (.ref (cm C)) (.type D)=some b) t
 | [],_=>trivial
 |((c,d),b)::r,h=>by
  unfold isT at h
  rw[Bool.and_eq_true,Bool.and_eq_true] at h
  exact⟨⟨h.1.1,beq_iff_eq.mp h.1.2⟩,Jl h.2⟩
def isD(K:PySem.W.Frag)(cm:String→Addr):List String→Bool
 | []=>true
 |d::r=>PySem.W.kitOne K (.type "NoneType") (.ref (cm d))== some false && isD K cm r
theorem Jm{K:PySem.W.Frag}{cm:String→Addr}:∀{t:List String},isD K cm t=true→oM (fun D=>PySem.W.kitOne K (.type "NoneType") (.ref (cm D))=some false) t
 | [],_=>trivial
 |d::r,h=>by
  unfold isD at h
  rw[Bool.and_eq_true] at h
  exact⟨beq_iff_eq.mp h.1,Jm h.2⟩
def Uc(K:PySem.W.Frag):List String→Bool
 | []=>true
 |d::r=>PySem.W.kitOne K (.type "NoneType") (.type d)== some false && Uc K r
theorem Ek{K:PySem.W.Frag}:∀{t:List String},Uc K t=true→oM (fun D=>PySem.W.kitOne K (.type "NoneType") (.type D)=some false) t
 | [],_=>trivial
 |d::r,h=>by
  unfold Uc at h
  rw[Bool.and_eq_true] at h
  exact⟨beq_iff_eq.mp h.1,Ek h.2⟩
def El(K:PySem.W.Frag)(C f:Addr):Bool:=ž K C && PySem.W.keepIn K (.ref C) && PySem.W.findIn K (.ref C) "__init__" == some (some (.ref f)) && PySem.W.typeIn K (.ref f)== some (.type "function")
theorem Jo{K:PySem.W.Frag}{C f:Addr}(h:El K C f=true):XMk K C f:=by
 unfold El at h
 simp only[Bool.and_eq_true,beq_iff_eq] at h
 exact⟨h.1.1.1,h.1.1.2,h.1.2,h.2⟩
theorem FW{l:PySem.W.OpenLaw}{k:Nat}{x:Str}{m:MF}{q:Program}{loose:List Str}{XP:(Str→Option Value)→Heap→Prop}{YP:World→Heap→Prop}{d:DefRec}{K:Params→PySem.W.Frag}(hn:l.most=some 63)(hdf:d.params.defaults=[])(hr:bI k callerA)
 (hY:∀(w:World) (h:Heap),YP w h→(K w.params).In h)
 (F:∀(w:World) (mg:Str→Option Value) (fa:Addr) (h:Heap),(K w.params).In h→h.Ns mainGlobals mg→mg d.name=some (.ref fa)→
   ∃fd:FuncData,(∀(s:Shared) (u:Value),BindsTo s fd ⟨[u],[]⟩ [(x,u)])∧∀base:Heap,(K w.params).In base→base.Ns mainGlobals mg→∃cm,İ l.prog w (K w.params) mg base (ū l.prog w) k fa fd [x] (ŷ ⟨K w.params,cm⟩ 1 m))
 (ht:∀ns:List Int,ns.length≤63→m [.sh (.lst (ns.map .int))]=.ret (.sh (.bl true))) :
 PySem.W.WalkO q loose XP YP l.row.toRowW d [] (fun f vs=>PySem.call f vs):=by
 refine L2.RN (n:=63) (k:=k) (x:=x) (CX:=fun w=>ū l.prog w) (sp:=fun w=>ZdL (K w.params)) hn (by decide) hdf hr hY (fun w mg fa h h1 h2 h3=>?_) (fun w H a ns hl _ hS=>⟨a,ns,rfl,hS,hl,fun _ _ z=>z⟩) fun w H s e s' z=>rC z
 obtain⟨fd,hb,hF⟩:=F w mg fa h h1 h2 h3
 refine⟨fd,hb,fun base k1 k2=>?_⟩
 obtain⟨cm,G⟩:=hF base k1 k2
 refine G.imp fun vs H Q E hs=>?_
 obtain⟨sa,ns,rfl,hS,hl,hq⟩:=hs
 refine⟨H,[.sh (.lst (ns.map .int))],rfl,Same.refl _,.cons ?_ .nil,?_⟩
 ·show Rep _ _ _ _
  unfold Rep
  exact⟨sa,_,rfl,hS,xq ns⟩
 ·rw[ht ns hl]
  intro v F' H' g rf
  have e:v=.bl true:=uz (K:=⟨K w.params,cm⟩) (F:=F') rf
  exact hq v H' e
section
variable{ρ:ŏ}{C:String}{n i:Nat}{fl:List (aM)}{ms:M (List PV)}{mb mh:M Fl}{mr:MH}{yes no:List String}{x:PX}
@[simp] theorem Zd1:uK C ρ=.exc ⟨C,[],[]⟩ ρ:= rfl
@[simp] theorem Zc1:T_ C ρ=.ok (.xc C [] []) ρ:= rfl
@[simp] theorem Zd2:Zan C n fl ms ρ=(ms ρ).bind fun ps ρ1=>if ps.length+1=n∧ps.length<1000∧fl.length<1000 then(match TY fl ps [] [] with
  |some (ns,qs)=>.ok (.xc C ns qs) ρ1
  |none=>.bad) else .bad:=rfl
@[simp] theorem Zc2:nH C n fl ms ρ=(ms ρ).bind fun ps ρ1=>if ps.length+1=n∧ps.length<1000∧fl.length<1000 then(match TY fl ps [] [] with
  |some (ns,qs)=>.exc ⟨C,ns,qs⟩ ρ1
  |none=>.bad) else .bad:=rfl
@[simp] theorem ZlX:ZlU mb mr ρ=(match mb ρ with
  | .exc x ρ1=>mr x ρ1
  |r=>r):=rfl
@[simp] theorem ZlY:TQ i yes no mh mr x ρ=(if yes.contains x.C=true then(match mh (ρ.set i (.sh (.xc x.C x.ns x.ps))) with
  | .ok f ρ2=>.ok f (ρ2.set i .no)
  |_=>.bad) else if no.contains x.C=true then mr x ρ else .bad):=rfl
end
end P
namespace P
open PySem PySem.Spec PyProof.Rows L2 M2 M3 M4
section
variable{X:Cx}{cm:String→Addr}{E:L2.St→XK}{y:Str}{Dn:String}{yp hpos:Pos}{b₀:Stmt}{suite:List Stmt}{rest:List ExceptHandler}{yes no:List String}{mh:M Fl}{mr:MH}
@[simp] theorem ZlZ{ρ:ŏ}{x:PX}:ZdY yes no mh mr x ρ=(if yes.contains x.C=true then(match mh ρ with
  | .ok f ρ2=>.ok f ρ2
  |_=>.bad) else if no.contains x.C=true then mr x ρ else .bad):=rfl
end
end P
namespace P
open PySem PySem.Spec PyProof.Rows L2 M2 M3 M4
section
variable{X:Cx}{cm:String→Addr}{K:KK}
def Vu:List V→Hp→VK→Prop:=fun xs H Q=>(∃i,xs=[.int i]∧Q (.int i) H)∨∃k,xs=[.bl k]∧Q (.int (if k then 1 else 0)) H
theorem Zao:Ţ X (.type "int") Vu:=Fp
def Jp:List PV→Option PV
 | [.int i]=>some (.int i)
 | [.bl k]=>some (.int (if k then 1 else 0))
 |_=>none
theorem Zap:dN K Vu Jp:=by
 intro c F H σ ρ ps pv vs Q rel r e k
 unfold Jp at e
 split at e
 ·cases e
  obtain⟨v,rfl,r1⟩:=Bb r
  cases r1.int
  exact .inl ⟨_,rfl,k _ F H rel (Same.refl _) (Same.refl _) Rep.int⟩
 ·cases e
  obtain⟨v,rfl,r1⟩:=Bb r
  cases r1.bl
  exact .inr ⟨_,rfl,k _ F H rel (Same.refl _) (Same.refl _) Rep.int⟩
 ·cases e
def Zl0:List PV→Option PV
 | [.int i]=>if i.natAbs.log2<1920 then some (.str (toString i)) else none
 |_=>none
def Zl1:List PV→Option PV
 | [.str x]=>if x.length=1 then some (.int (x.cps.getD 0 0:Nat)) else none
 |_=>none
theorem aR:∀{ns:List Int} {its:List Value},Vals (ns.map V.int) its→IntsAre its ns
 | [],its,h=>by cases h;exact .nil
 |n::ns,its,h=>by
  cases h with
  |cons r t=>
   obtain⟨k,e⟩:=(show ∃k,_=Value.int n k from r)
   subst e
   exact .cons n k (aR t)
def Zd3(K:PySem.W.Frag):List V→Hp→VK→Prop:=fun xs H Q=>∃(p:Addr) (ns:List Int),xs=[.ref p]∧aJ K H p (ns.map V.int)∧Q (.int ns.sum) H
theorem Jq(hc:X.calm=true):Ţ X (.builtin "sum") (Zd3 X.K):=by
 intro pins s σ H xs us Q I r h
 obtain⟨p,ns,rfl,hS,q⟩:=h
 obtain⟨u,rfl,ru⟩:=vals1 r
 cases ru
 obtain⟨its,rv,pl,hz⟩:=I.list hS
 have hi:=aR rv
 obtain⟨ys,e⟩:=hi.allInts.items
 have hns:ns=ys.toList.map (·.1):=by rw[←hi.numsOf,←nums_intItems,←e]
 have hl:=pl.isList
 rw[e] at hl
 refine sum_intListG (show X.A.handled=none from I.ok.hd hc) hl fun h' tk t' hk=>?_
 refine⟨.int ns.sum,H,I.kept hk,⟨t',?_⟩,q⟩
 rw[preSum_eq,List.take_of_length_le (by simp),←hns]
section
variable{prog:Program}{w:World}{A:Around}{E:Value→Shared→Prop}{s:Shared}{l:Addr}{xs:Array (nD)}
theorem xT{Q:Value→Shared→Prop}(hl:s.heap.IsTuple l (intItems xs))
 (h:∀s₂:Shared,s₂= {s with heap:=s.heap.push {cls:=.type "tuple_iterator",data:=.fields #[.ref l,.int 0 0]}}→
   (s₂.heap.IsTupleIter s.heap.objs.size l 0∧s₂.heap.IsTuple l (intItems xs))→(∀b∈[s.heap.objs.size,l],b<s₂.heap.objs.size)→l≠s.heap.objs.size→(∀h':Heap,(∀b o,b∉[s.heap.objs.size]→s₂.heap.get? b=some o→h'.get? b=some o)→∀b o,s.heap.get? b=some o→h'.get? b=some o)→Q (.ref s.heap.objs.size) s₂) :
 wpAny (model prog w) A (pyIter (.ref l)) Q E s:=by
 have hlt:l<s.heap.objs.size:=by obtain⟨_,e,_⟩:=hl;exact Heap.lt_size e
 refine wpAny_pyIter_tuple hl (h _ rfl ⟨⟨_,Heap.get?_push_size _ rfl,rfl,rfl⟩,hl.push _⟩ (fun b hb=>?_) (Nat.ne_of_lt hlt) fun h' hk b o e=>?_)
 ·show b<(s.heap.push _).objs.size
  rw[Heap.size_push]
  rcases List.mem_cons.mp hb with rfl|hb
  ·exact Nat.lt_succ_self _
  ·rcases List.mem_cons.mp hb with rfl|hb
   ·exact Nat.lt_succ_of_lt hlt
   ·cases hb
 ·refine hk b o (fun hm=>?_) (Heap.get?_push_of_some _ e)
  rcases List.mem_cons.mp hm with e1|hm
  ·exact absurd (e1▸Heap.lt_size e) (Nat.lt_irrefl _)
  ·cases hm
theorem Bh{Q:Value→Shared→Prop}(hh:A.handled=none)(hl:s.heap.IsTuple l (intItems xs))(hne:0<xs.size)
 (h:∀v h' tk,(intItems xs)[argBest (fun i j=>decide (numAt xs i>numAt xs j)) (xs.size-1)]?=some v→(∀b o,s.heap.get? b=some o→h'.get? b=some o)→Q v {s with heap:=h',toks:=tk}) :
 wpAny (model prog w) A (call (.builtin "max") [.ref l]) Q E s:=by
 refine call_max_walk (xT hl fun s₂ e st hfp hlI hk0=>?_)
 subst e
 refine⟨_,_,_,_,_,_,_,rfl,Walks.tuple (A:=A.in1) hh _ l hlI (intItems xs),st,hfp,by simpa[intItems] using hne,CmpOf.ints_gt (numAt xs) (fun _ _=>intItems_at),fun v h' tk hP hk=>?_⟩
 exact h v h' tk (by simpa[intItems] using hP) (hk0 h' hk)
end
def Zd4(K:PySem.W.Frag):List V→Hp→VK→Prop:=fun xs H Q=>∃(p:Addr) (ns:List Int),xs=[.ref p]∧(aJ K H p (ns.map V.int)∨dD K H p (ns.map V.int))∧0<ns.length∧∀M,M∈ns→(∀a∈ns,a≤M)→Q (.int M) H
theorem Bj(hc:X.calm=true):Ţ X (.builtin "max") (Zd4 X.K):=by
 intro pins s σ H xs us Q I r h
 obtain⟨p,ns,rfl,hS,hne,q⟩:=h
 obtain⟨u,rfl,ru⟩:=vals1 r
 cases ru
 have fin:∀(ys:Array (nD)),ns=ys.toList.map (·.1)→0<ys.size→∀v h' tk,(intItems ys)[argBest (fun i j=>decide (numAt ys i>numAt ys j)) (ys.size-1)]?=some v→(∀b o,s.heap.get? b=some o→h'.get? b=some o)→EP X pins σ Q v {s with heap:=h',toks:=tk}:=by
  intro ys hns hsz v h' tk hv hk
  obtain⟨t,rfl⟩:=intItems_at hv
  obtain⟨h1,h2⟩:=argBest_gt (numAt ys) (ys.size-1)
  refine⟨.int _,H,I.kept hk,⟨t,rfl⟩,q _ ?_ fun a ha=>?_⟩
  ·rw[hns,numAt_eq]
   have hj:argBest (fun i j=>decide (numAt ys i>numAt ys j)) (ys.size-1)<(ys.toList.map (·.1)).length:=by rw[List.length_map,Array.length_toList];omega
   rw[List.getD_eq_getElem?_getD,List.getElem?_eq_getElem hj]
   exact List.getElem_mem _
  ·rw[hns] at ha
   obtain⟨j,hj,rfl⟩:=List.mem_iff_getElem.mp ha
   rw[List.length_map,Array.length_toList] at hj
   have:=h2 j (by omega)
   rw[numAt_eq ys j,List.getD_eq_getElem?_getD,List.getElem?_eq_getElem (by rw[List.length_map,Array.length_toList];exact hj)] at this
   exact this
 rcases hS with hS|hS
 ·obtain⟨its,rv,pl,hz⟩:=I.list hS
  have hi:=aR rv
  obtain⟨ys,e⟩:=hi.allInts.items
  have hns:ns=ys.toList.map (·.1):=by rw[←hi.numsOf,←nums_intItems,←e]
  have hl:=pl.isList
  rw[e] at hl
  have hsz:0<ys.size:=by rw[hns,List.length_map,Array.length_toList] at hne;exact hne
  exact max_intList (show X.A.handled=none from I.ok.hd hc) hl hsz (fin ys hns hsz)
 ·obtain⟨its,rv,pl,hz⟩:=I.tuple hS
  have hi:=aR rv
  obtain⟨ys,e⟩:=hi.allInts.items
  have hns:ns=ys.toList.map (·.1):=by rw[←hi.numsOf,←nums_intItems,←e]
  have hl:s.heap.IsTuple p its.toArray:=pl
  rw[e] at hl
  have hsz:0<ys.size:=by rw[hns,List.length_map,Array.length_toList] at hne;exact hne
  exact Bh (show X.A.handled=none from I.ok.hd hc) hl hsz (fin ys hns hsz)
def Zd5(K:PySem.W.Frag):List V→Hp→VK→Prop:=fun xs H Q=>∃(p:Addr) (ns:List Int),xs=[.ref p]∧aJ K H p (ns.map V.int)∧0<ns.length∧∀M,M∈ns→(∀a∈ns,M≤a)→Q (.int M) H
theorem Jr(hc:X.calm=true):Ţ X (.builtin "min") (Zd5 X.K):=by
 intro pins s σ H xs us Q I r h
 obtain⟨p,ns,rfl,hS,hne,q⟩:=h
 obtain⟨u,rfl,ru⟩:=vals1 r
 cases ru
 obtain⟨its,rv,pl,hz⟩:=I.list hS
 have hi:=aR rv
 obtain⟨ys,e⟩:=hi.allInts.items
 have hns:ns=ys.toList.map (·.1):=by rw[←hi.numsOf,←nums_intItems,←e]
 have hl:=pl.isList
 rw[e] at hl
 have hsz:0<ys.size:=by rw[hns,List.length_map,Array.length_toList] at hne;exact hne
 refine min_intList (show X.A.handled=none from I.ok.hd hc) hl hsz fun v h' tk hv hk=>?_
 obtain⟨t,rfl⟩:=intItems_at hv
 obtain⟨h1,h2⟩:=argBest_lt (numAt ys) (ys.size-1)
 refine⟨.int _,H,I.kept hk,⟨t,rfl⟩,q _ ?_ fun a ha=>?_⟩
 ·rw[hns,numAt_eq]
  have hj:argBest (fun i j=>decide (numAt ys i<numAt ys j)) (ys.size-1)<(ys.toList.map (·.1)).length:=by rw[List.length_map,Array.length_toList];omega
  rw[List.getD_eq_getElem?_getD,List.getElem?_eq_getElem hj]
  exact List.getElem_mem _
 ·rw[hns] at ha
  obtain⟨j,hj,rfl⟩:=List.mem_iff_getElem.mp ha
  rw[List.length_map,Array.length_toList] at hj
  have:=h2 j (by omega)
  rw[numAt_eq ys j,List.getD_eq_getElem?_getD,List.getElem?_eq_getElem (by rw[List.length_map,Array.length_toList];exact hj)] at this
  exact this
def intsOf:List PV→Option (List Int)
 | []=>some []
 | .int b::ps=>(intsOf ps).map (b:: ·)
 |_::_=>none
@[simp] theorem jk:∀ns:List Int,intsOf (ns.map PV.int)=some ns
  | []=>rfl
  |n::ns=>by rw[List.map_cons,intsOf,jk ns];rfl
theorem ints_rep{F:Hp}:∀{ps:List PV} {vs:List V} {bs:List Int},ĝ K F ps vs→intsOf ps=some bs→vs=bs.map V.int
 | [],vs,bs,r,h=>by
   cases h
   cases r.pr
   rfl
 |p::ps,vs,bs,r,h=>by
  cases r.pr with
  |cons r1 t=>
   cases p with
   |int b=>
    unfold intsOf at h
    obtain⟨cs,e,rfl⟩:=Option.map_eq_some_iff.mp h
    rw[ints_rep (ĝ.of t) e,show _=V.int b from r1]
    rfl
   |_=>cases h
def best(f:Int→Int→Int):List Int→Option Int
 | []=>none
 |n::ns=>some (ns.foldl f n)
theorem foldl_max:∀(ns:List Int) (n:Int),ns.foldl max n∈n::ns∧∀a∈n::ns,a≤ns.foldl max n
 | [],n=>by simp
 |m::ns,n=>by
  obtain⟨h1,h2⟩:=foldl_max ns (max n m)
  rw[List.foldl_cons]
  refine⟨?_,fun a ha=>?_⟩
  ·rcases List.mem_cons.mp h1 with e|e
   ·rw[e]
    by_cases h:n≤m
    ·rw[Int.max_eq_right h];simp
    ·rw[Int.max_eq_left (by omega)];simp
   ·simp[e]
  ·have hm:=h2 (max n m) List.mem_cons_self
   rcases List.mem_cons.mp ha with rfl|ha
   ·omega
   ·rcases List.mem_cons.mp ha with rfl|ha
    ·omega
    ·exact h2 a (List.mem_cons_of_mem _ ha)
theorem foldl_min:∀(ns:List Int) (n:Int),ns.foldl min n∈n::ns∧∀a∈n::ns,ns.foldl min n≤a
 | [],n=>by simp
 |m::ns,n=>by
  obtain⟨h1,h2⟩:=foldl_min ns (min n m)
  rw[List.foldl_cons]
  refine⟨?_,fun a ha=>?_⟩
  ·rcases List.mem_cons.mp h1 with e|e
   ·rw[e]
    by_cases h:n≤m
    ·rw[Int.min_eq_left h];simp
    ·rw[Int.min_eq_right (by omega)];simp
   ·simp[e]
  ·have hm:=h2 (min n m) List.mem_cons_self
   rcases List.mem_cons.mp ha with rfl|ha
   ·omega
   ·rcases List.mem_cons.mp ha with rfl|ha
    ·omega
    ·exact h2 a (List.mem_cons_of_mem _ ha)
def Bk:List PV→Option PV
 | [.lst ps]=>(intsOf ps).map fun ns=>.int ns.sum
 |_=>none
def iY:List PV→Option PV
 | [.lst ps]=>((intsOf ps).bind (best max)).map .int
 | [.tup ps]=>((intsOf ps).bind (best max)).map .int
 |_=>none
def rE:List PV→Option PV
 | [.lst ps]=>((intsOf ps).bind (best min)).map .int
 |_=>none
theorem Js:dN K (Zd3 K.K) Bk:=by
 intro c F H σ ρ ps pv vs Q rel r e k
 unfold Bk at e
 split at e
 ·rename_i ps
  obtain⟨v,rfl,r1⟩:=Bb r
  obtain⟨a,xs,rfl,h1,h2⟩:=r1.lst rel.sub
  obtain⟨ns,eb,rfl⟩:=Option.map_eq_some_iff.mp e
  exact⟨a,ns,rfl,by rw[←ints_rep h2 eb];exact h1,k _ F H rel (Same.refl _) (Same.refl _) Rep.int⟩
 ·cases e
theorem Bl:dN K (Zd4 K.K) iY:=by
 intro c F H σ ρ ps pv vs Q rel r e k
 have fin:∀(ps:List PV) (xs:List V),ĝ K F ps xs→((intsOf ps).bind (best max)).map PV.int=some pv→∃ns:List Int,xs=ns.map V.int∧0<ns.length∧∀M,M∈ns→(∀a∈ns,a≤M)→Q (.int M) H:=by
  intro ps xs h2 e
  obtain⟨m,em,rfl⟩:=Option.map_eq_some_iff.mp e
  obtain⟨ns,eb,hb⟩:=Option.bind_eq_some_iff.mp em
  cases ns with
  |nil=>cases hb
  |cons n ns=>
   cases hb
   obtain⟨z1,z2⟩:=foldl_max ns n
   refine⟨n::ns,ints_rep h2 eb,by simp,fun M m1 m2=>?_⟩
   have:M=ns.foldl max n:=Int.le_antisymm (z2 M m1) (m2 _ z1)
   rw[this]
   exact k _ F H rel (Same.refl _) (Same.refl _) Rep.int
 unfold iY at e
 split at e
 ·rename_i ps
  obtain⟨v,rfl,r1⟩:=Bb r
  obtain⟨a,xs,rfl,h1,h2⟩:=r1.lst rel.sub
  obtain⟨ns,rfl,hl,hq⟩:=fin ps xs h2 e
  exact⟨a,ns,rfl,.inl h1,hl,hq⟩
 ·rename_i ps
  obtain⟨v,rfl,r1⟩:=Bb r
  obtain⟨a,xs,rfl,h1,h2⟩:=r1.tup rel.sub
  obtain⟨ns,rfl,hl,hq⟩:=fin ps xs h2 e
  exact⟨a,ns,rfl,.inr h1,hl,hq⟩
 ·cases e
theorem Jt:dN K (Zd5 K.K) rE:=by
 intro c F H σ ρ ps pv vs Q rel r e k
 unfold rE at e
 split at e
 ·rename_i ps
  obtain⟨v,rfl,r1⟩:=Bb r
  obtain⟨a,xs,rfl,h1,h2⟩:=r1.lst rel.sub
  obtain⟨m,em,rfl⟩:=Option.map_eq_some_iff.mp e
  obtain⟨ns,eb,hb⟩:=Option.bind_eq_some_iff.mp em
  cases ns with
  |nil=>cases hb
  |cons n ns=>
   cases hb
   obtain⟨z1,z2⟩:=foldl_min ns n
   refine⟨a,n::ns,rfl,by rw[←ints_rep h2 eb];exact h1,by simp,fun M m1 m2=>?_⟩
   have:M=ns.foldl min n:=Int.le_antisymm (m2 _ z1) (z2 M m1)
   rw[this]
   exact k _ F H rel (Same.refl _) (Same.refl _) Rep.int
 ·cases e
@[simp] theorem Zkb{i:Int}:Jp [.int i]=some (.int i):=rfl
@[simp] theorem Zkc{b:Bool}:Jp [.bl b]=some (.int (if b then 1 else 0)):=rfl
@[simp] theorem Zkd{i:Int}:Zl0 [.int i]=if i.natAbs.log2<1920 then some (.str (toString i)) else none:=rfl
@[simp] theorem Zke{x:Str}:Zl1 [.str x]=if x.length=1 then some (.int (x.cps.getD 0 0:Nat)) else none:=rfl
@[simp] theorem iG{ps:List PV}:Bk [.lst ps]=(intsOf ps).map fun ns=>.int ns.sum:=rfl
@[simp] theorem Ud{ps:List PV}:iY [.lst ps]=((intsOf ps).bind (best max)).map .int:=rfl
@[simp] theorem Ue{ps:List PV}:rE [.lst ps]=((intsOf ps).bind (best min)).map .int:=rfl
@[simp] theorem Zkf{f:Int→Int→Int}{n:Int}{ns:List Int}:best f (n::ns)=some (ns.foldl f n):=rfl
end
end P
namespace P
open PySem PySem.Spec PyProof.Rows L2 M2 M3 M4
def uO(K:PySem.W.Frag)(C:Addr):Bool:=PySem.W.plainGet K C Str.empty && PySem.W.hasDictIn K C && PySem.W.plainOver K C && PySem.W.findIn K (.ref C) "__setattr__" == some (some (.builtin "object.__setattr__"))
theorem jl{K:PySem.W.Frag}{C:Addr}(h:uO K C=true):Cls K C:=by
 unfold uO at h
 simp only[Bool.and_eq_true,beq_iff_eq] at h
 exact⟨h.1.1.1,h.1.1.2,h.1.2,h.2⟩
def oU(K:PySem.W.Frag)(C:Addr)(m:Str)(f:Addr):Bool:=PySem.W.findIn K (.ref C) m== some (some (.ref f)) && PySem.W.isFn K (.ref f) && PySem.W.keepIn K (.ref f)
theorem jF{K:PySem.W.Frag}{C f:Addr}{m:Str}(h:oU K C m f=true):Meth K C m f:=by
 unfold oU at h
 simp only[Bool.and_eq_true,beq_iff_eq] at h
 exact⟨h.1.1,h.1.2,h.2⟩
def Ug(K:PySem.W.Frag)(C f:Addr):Bool:=PySem.W.makesIn K C && PySem.W.findIn K (.ref C) "__init__" == some (some (.ref f)) && PySem.W.isFn K (.ref f) && PySem.W.keepIn K (.ref C)
theorem oV{K:PySem.W.Frag}{C f:Addr}(h:Ug K C f=true):Mk K C f:=by
 unfold Ug at h
 simp only[Bool.and_eq_true,beq_iff_eq] at h
 exact⟨h.1.1.1,h.1.1.2,h.1.2,h.2⟩
section
variable{ρ:ŏ}{i n k:Nat}{C:String}{cs:List String}{f m:Str}{mv mo:M PV}{mi:MI}{ms:M (List Slot)}{mb:M Fl}{qg:List (iw)}{as:List Slot}{ns:List Str}{ps:List PV}
@[simp] theorem Zkg:iW i cs f mv ρ=(mv ρ).bind fun p ρ1=>match ρ1[i]? with
  |some (.rc C ns ps)=>if cs.contains C=true∧ns.length<1000 then .ok .nx (ρ1.set i (.rc C (putN f ns) (xu f p ns ps))) else .bad
  |_=>.bad:=rfl
@[simp] theorem Zkh:cX n k C mb as=if as.length+1=n then IR.of (mb (.rc C [] []::startP (k-1) as)) else .bad:=rfl
@[simp] theorem Zl2{C:String}:IR.of (.ok .nx (.rc C ns ps::ρ))=.ok ns ps:=rfl
@[simp] theorem Zki:cj C mi ms ρ=(ms ρ).bind fun as ρ1=>match mi as with
  | .ok ns ps=>.ok (.ins C ns ps) ρ1
  | .exc x=>.exc x ρ1
  | .bad=>.bad:=rfl
@[simp] theorem Zl3:aK cs f (.ins C ns ps)=if cs.contains C=true then(ns.zip ps).lookup f else none:=rfl
@[simp] theorem Uh:oO m qg mo ms ρ=(mo ρ).bind fun p ρ1=>match p with
  | .ins C ns ps=>match qg.lookup C with
    |some mf=>if ns.contains m=true then .bad else(ms ρ1).bind fun as ρ2=>match mf (.sh (.ins C ns ps)::as) with
     | .ret r=>.ok r ρ2
     | .exc x=>.exc x ρ2
     | .bad=>.bad
    |none=>.bad
  |_=>.bad:=rfl
end
end P
namespace M3
open PySem PySem.Spec PyProof.Rows L2 M2
section
variable{X:Cx}{elt tg iter:Expr}{ifs:List Expr}{scope:Scope}{pos:Pos}{wi:TI}{g:TG}{tt:TT}{te:TE}
theorem Ui{iv:Nat}{y:Str}{py spos:Pos}(hN:X.N.Nodup)(hiN:X.N[iv]?=some y)(hy:X.env.scope.names.lookup y=some .local)(hsw:swapsWith (.ListComp elt [⟨tg,iter,ifs,0⟩] scope pos) (some (.Name y py)) spos.line X.env=pure true)(N':List Str)(js:List Nat)(nl:Nat)(sc:Scope)(hsc:X.env.scope=sc)(hcalm:X.calm=true)
 (hi:PI X.au tg iter wi)(hg:∀cl C s H fp,PG (gZ X.au N' scope cl C s H fp) tg g)(ht:∀cl C s H fp,Vi (gZ X.au N' scope cl C s H fp) ifs tt)(he:∀cl C s H fp,PE (gZ X.au N' scope cl C s H fp) elt te)
 (hcap:nU X.au sc scope N' js)(hlen:js.length+nl=N'.length:=by rfl)
 (hk:scope.kind=.function:=by rfl)(hcell:∀y∈scope.names,y.2=.cell→scope.names.lookup y.1=some .cell:=by decide +kernel)(hnames:∀y∈scope.names,y.2=.local→scope.names.lookup y.1=some .local:=by decide +kernel)
 (hfree:∀y∈scope.names,y.2=.free→(sc.names.lookup y.1=some .cell∨sc.names.lookup y.1=some .free):=by decide +kernel)
 (hs:∀x,foldedSetIterable iter X.env x=pure x:=by intro _;rfl) :
 PS X.au (.Assign [.Name y py] (.ListComp elt [⟨tg,iter,ifs,0⟩] scope pos) spos) (fun D σ H=>HD js nl wi g tt te σ H fun v H'=>D.nx (σ.set iv (some v)) H'):=by
 intro pins s σ H D I h
 obtain⟨cl0,c1,c2,c3⟩:=jy (scope:=scope) (env:=X.au.env) fun y hy hf=>I.ok.has y.1 (by
  have:=hfree y hy hf
  rw[←hsc] at this
  exact this)
 rw[exec_Assign_Name_used _ _ _ _ (show swapsWith _ _ _ X.au.env=pure true from hsw)]
 refine wpAny_bind (wpAny_standAt (wpAny_bind ?_))
 show wpAny _ X.A (do let _ ←comprehension (.ListComp elt [⟨tg,iter,ifs,0⟩] scope pos) scope X.au.env _ (newList []) false (eval iter X.au.env) (some (assign (.Name y py) X.au.env))) _ _ s
 refine wpAny_bind (wpAny_mono (wpAny_comprehension_free (Q:=fun _ s'=>SP X.au pins D .next s') (use:=some (assign (.Name y py) X.au.env)) rfl hs c1 hk hnames (Ŧ (hi pins s σ H _ I h) fun v s1 h1=>Ŧ h1 fun itv s2 h2=>?_)) (fun _ s' hq=>wpAny_pure (wpAny_pure hq)) fun _ _ e=>e)
 obtain⟨it,fp,tn,J,H2,e,I2,T,st2,f2,q2⟩:=h2
 subst e
 refine wpAny_newObj_type (iJ (fun h₁ hns₁ old ok₁=>?_))
 dsimp only at hns₁ old ok₁ ⊢
 generalize YT:s2.heap.push {cls:=.type "list",dict:=none,data:=.seq ([]:List Value).toArray}=cC at hns₁ old ok₁ ⊢
 have hD:H2 s2.heap.objs.size=none:=I2.hok.fresh (Nat.le_refl _)
 have I3:Inv X.au pins σ (upd H2 s2.heap.objs.size (.lst [])) {s2 with heap:=cC}:=by
  rw[←YT]
  exact I2.laid (t':=s2.toks) (fun b u e=>Heap.get?_push_of_some _ e) (Nat.le_refl _) ⟨Nat.zero_le _,[],0,.nil,Heap.get?_push_size _ rfl⟩
 have HN:∀b∈fp,b<s2.heap.objs.size:=fun b hb=>by
  obtain⟨o,ho,_⟩:=T.obj 0 _ st2 b hb
  exact Heap.lt_size ho
 have YW:cC.objs.size=s2.heap.objs.size+1:=by rw[←YT,Heap.size_push]
 have f3:∀b∈fp,fX X.au pins (upd H2 s2.heap.objs.size (.lst [])) b:=fun b hb=>by
  obtain⟨g0,g1⟩:=f2 b hb
  exact⟨by rw[Ġ (Nat.ne_of_lt (HN b hb))];exact g0,g1⟩
 have B:=HF (X:=X.au) (cl:=cl0) hcell c2 c3 (fun x c e=>by
  obtain⟨v,o,ho,_⟩:=I3.cell x c e
  exact Heap.lt_size ho) ok₁
 generalize cellsFrom (cC.objs.size+1) scope.names cl0=cl at B ⊢
 obtain⟨W,⟨m0,w0⟩,turn⟩:=q2 s2.heap.objs.size hD
 have I4:=qX (X:=X.au) (N':=N') (js:=js) (nl:=nl) (sc:=sc) (scope:=scope) (cl:=cl) (fp:=fp) (h':=h₁) (tk:=s2.toks) hsc hk hcap hlen B I3 f3 (fun b hb=>by show b<cC.objs.size;rw[YW];exact Nat.lt_succ_of_lt (HN b hb)) hns₁ old
 have st4:tn 0 h₁:= T.keep 0 _ _ st2 fun b hb o e=>old b o (by rw[←YT];exact Heap.get?_push_of_some _ e)
 have fr4:∀b∈fp,(upd H2 s2.heap.objs.size (.lst [])) b=none:=fun b hb=>(f3 b hb).1
 have stat:∀{H':Hp},(∀b∈fp,H' b=none)→∀b∈fp,fX (gZ X.au N' scope cl cC.objs.size {s2 with heap:=cC} (upd H2 s2.heap.objs.size (.lst [])) fp) [] H' b:=fun{H'} hn b hb=>by
  obtain⟨g0,g1,g2,g3,g4,g5⟩:=f3 b hb
  refine⟨hn b hb,Nat.ne_of_lt (by show b<cC.objs.size;rw[YW];exact Nat.lt_succ_of_lt (HN b hb)),fun z=>?_,.inl hb,fun x c e=>by
   rcases B.at_ x c e with⟨q,_⟩|⟨q,_⟩
   ·exact g4 x c q
   ·exact Nat.ne_of_gt (Nat.lt_trans (by show b<cC.objs.size;rw[YW];exact Nat.lt_succ_of_lt (HN b hb)) q),fun p hp=>absurd hp (by simp[gZ])⟩
  rcases List.mem_cons.mp (I3.nO b z) with z|z
  ·exact g1 z
  ·exact g2 z
 have loop:∀s₃:Shared,s₃= {s2 with heap:=h₁}→
  codeAny (model X.prog X.w) X.A (.compLoop (.ListComp elt [⟨tg,iter,ifs,0⟩] scope pos) 0 (.ref it) (.ref s2.heap.objs.size) (compEnvC scope cl cC.objs.size X.au.env))
   (compPost (model X.prog X.w) X.A X.au.xe (some (assign (.Name y py) X.au.env)) (fun _ s'=>SP X.au pins D .next s') (.ref s2.heap.objs.size) cC.objs.size) s₃:= by
  rintro s₃ rfl
  refine jz (fun n s'=>∃i σ' H',Inv (gZ X.au N' scope cl cC.objs.size {s2 with heap:=cC} (upd H2 s2.heap.objs.size (.lst [])) fp) [] σ' H' s'∧tn i s'.heap∧(∀b∈fp,H' b=none)∧W i n σ' H') ?_ m0 ⟨0,_,_,I4,st4,fr4,w0⟩
  rintro n s5 ⟨i,σ5,H5,I5,Rv,Yd,w5⟩
  rcases turn i n σ5 H5 w5 with⟨stop,qn⟩|⟨go,N,hN,step⟩
  ·refine Ŧ (T.done (gZ X.au N' scope cl cC.objs.size {s2 with heap:=cC} (upd H2 s2.heap.objs.size (.lst [])) fp) rfl rfl rfl hcalm i [] s5 σ5 H5 (fun _ _=>False) I5 (stat Yd) Rv stop) fun r s6 ⟨hr,I6⟩=>?_
   subst hr
   obtain⟨m,hm,_⟩:=I6.loc
   have I7:Inv X.au pins σ H5 s6:=nW (h':=s6.heap) I3 f3 I6 (fun b u hb e=>e)
   have hCL:cC.objs.size≠X.au.env.locals:=Nat.ne_of_gt I3.lt
   have hcC:∀x c,X.au.env.cells.lookup x=some c→c≠cC.objs.size:=fun x c e z=>by
    obtain⟨v,o,ho,_⟩:=I3.cell x c e
    exact absurd (Heap.lt_size ho) (by rw[z];exact Nat.lt_irrefl _)
   have hpC:∀p∈X.au.pn++pins,p.1≠cC.objs.size:=fun p hp z=>by
    have:=Heap.lt_size (I3.pin p hp).1
    rw[z] at this
    exact Nat.lt_irrefl _ this
   have hnC:H5 cC.objs.size=none:=I6.free
   refine wpAny_assign_Name (qK (X:=X.au) (i:=iv) I7 hN hiN (.inl hy) (v:=.ref s2.heap.objs.size) rfl (fun s8 I8 ⟨a8,sb8,ha8⟩=>?_) (.inr hy))
   have ne8:cC.objs.size≠a8:=by
    rcases ha8 with rfl|ha8
    ·exact hCL
    ·exact fun z=>hcC _ _ ha8 z.symm
   refine⟨m,hm.sameBut sb8 ne8,fun h' hs'=>⟨_,H5,?_,qn⟩⟩
   have kp:∀b o,b≠cC.objs.size→s8.heap.get? b=some o→h'.get? b=some o:=fun b o hb e=>hs'.extBut b o hb e
   have kp':∀b o,b∉[cC.objs.size]→s8.heap.get? b=some o→h'.get? b=some o:=fun b o hb e=>kp b o (fun z=>hb (by rw[z];exact List.mem_cons_self)) e
   refine I8.call' (ch:=[cC.objs.size]) (s':={s8 with heap:=h'}) rfl ⟨fun b o e _ _ hx=>kp' b o hx e,fun b o e _ _ hx=>⟨o.slots,kp' b o hx e⟩,fun b o _ n _=>n,fun b o e hx=>⟨o,kp' b o hx e⟩,fun _ _ q=>q,fun _ _ _ q=>q,fun _ ps q=>⟨#[],by rw[q];simp⟩⟩ (DG I8.hok hnC kp) I8.bare fun b hb=>?_
   cases List.mem_singleton.mp hb
   exact⟨.inr I3.sz,hCL,hcC,hpC⟩
  ·refine Ŧ (T.item (gZ X.au N' scope cl cC.objs.size {s2 with heap:=cC} (upd H2 s2.heap.objs.size (.lst [])) fp) rfl rfl rfl hcalm i [] s5 σ5 H5 (fun _ _=>False) I5 (stat Yd) Rv go) fun r s6 ⟨u,hr,h6⟩=>?_
   subst hr
   refine Ŧ h6 fun _ s7 ⟨x,H7,I7,r7,y7,YX,fr7⟩=>?_
   have I7':=I7.pinned (stat fr7) (T.obj _ _ YX)
   have again:∀{s8:Shared} {σ8:L2.St} {H8:Hp},Inv (gZ X.au N' scope cl cC.objs.size {s2 with heap:=cC} (upd H2 s2.heap.objs.size (.lst [])) fp) ([]++jX fp s7.heap) σ8 H8 s8→
    Inv (gZ X.au N' scope cl cC.objs.size {s2 with heap:=cC} (upd H2 s2.heap.objs.size (.lst [])) fp) [] σ8 H8 s8∧tn (i+1) s8.heap∧∀b∈fp,H8 b=none:=fun{s8 σ8 H8} I8=>by
    refine⟨I8.fY,T.keep _ _ _ YX fun b hb o e=>(I8.pin (b,o) (List.mem_append_right _ (List.mem_append_right _ (bL hb e)))).1,fun b hb=>?_⟩
    obtain⟨o,e,d⟩:=T.obj _ _ YX b hb
    exact(I8.pin (b,o) (List.mem_append_right _ (List.mem_append_right _ (bL hb e)))).2.1
   refine Ŧ (hg cl _ _ _ fp _ s7 σ5 H7 x u _ I7' r7 (step x H7 y7)) fun _ s8 ⟨σ8,H8,I8,q8⟩=>?_
   refine Ŧ (ht cl _ _ _ fp _ s8 σ8 H8 _ I8 q8) fun c s9 ⟨H9,I9,q9⟩=>?_
   cases c with
   |false=>
    rw[if_neg Bool.false_ne_true] at q9 ⊢
    obtain⟨m',hm',w9⟩:=hN _ _ q9
    obtain⟨a1,a2,a3⟩:=again I9
    exact⟨m',hm',i+1,σ8,H9,a1,a2,a3,w9⟩
   |true=>
    rw[if_pos rfl] at q9 ⊢
    refine Ŧ (he cl _ _ _ fp _ s9 σ8 H9 _ I9 q9) fun yv zT ⟨y,H10,I10,r10,ys,e10,l10,w10⟩=>?_
    refine Ŧ (aQ _ zT σ8 H10 (.ref s2.heap.objs.size) [y] (.ref s2.heap.objs.size) [yv] (fun _ YZ=>N σ8 YZ) I10 rfl (.cons r10 .nil) ⟨_,ys,y,rfl,rfl,e10,l10,w10⟩) fun _ s11 ⟨v11,YZ,I11,_,w11⟩=>?_
    obtain⟨a1,a2,a3⟩:=again I11
    obtain⟨m',hm',w11⟩:=hN _ _ w11
    exact⟨m',hm',i+1,σ8,YZ,a1,a2,a3,w11⟩
 exact codeAny_compStart_list (loop _ rfl) (T.self _ 0 _ _ _ st4 (loop _ rfl))
end
end M3
namespace P
open PySem PySem.Spec PyProof.Rows L2 M2 M3 M4
section
variable{X:Cx}{cm:String→Addr}{E:L2.St→XK}{elt tg iter:Expr}{ifs:List Expr}{scope:Scope}{pos:Pos}{mi:M (List PV)}{g:Tg}{mt:M Bool}{me:M PV}
theorem PS.au{st:Stmt}{t:TS}(h:PS X.au st t):PS X st t:=fun pins s σ H D I hw=>
 wpAny_mono (h pins s σ H D (I.wish _) hw) (fun _ _ q=>q.eG) fun _ _ z=>False.elim z
theorem jm{i:Nat}{y:Str}{py spos:Pos}(hN:X.N.Nodup)(hi0:X.N[i]?=some y)(hy:X.env.scope.names.lookup y=some .local)(N':List Str)(js:List Nat)(nl:Nat)(sc:Scope)(hsc:X.env.scope=sc)(hcalm:X.calm=true)
 (hi:PI X.au tg iter (tI (kk X cm) E mi))(hg:∀cl C s H fp,PG (gZ X.au N' scope cl C s H fp) tg (tT (kk X cm) g))(ht:∀cl C s H fp,Vi (gZ X.au N' scope cl C s H fp) ifs (tB (kk X cm) EF mt))(he:∀cl C s H fp,PE (gZ X.au N' scope cl C s H fp) elt (tV (kk X cm) EF me))
 (hcap:nU X.au sc scope N' js)(hlen:js.length+nl=N'.length:=by rfl)
 (hk:scope.kind=.function:=by rfl)(hcell:∀y∈scope.names,y.2=.cell→scope.names.lookup y.1=some .cell:=by decide +kernel)(hnames:∀y∈scope.names,y.2=.local→scope.names.lookup y.1=some .local:=by decide +kernel)
 (hfree:∀y∈scope.names,y.2=.free→(sc.names.lookup y.1=some .cell∨sc.names.lookup y.1=some .free):=by decide +kernel)
 (hs:∀x,foldedSetIterable iter X.env x=pure x:=by intro _;rfl)(hsw:swapsWith (.ListComp elt [⟨tg,iter,ifs,0⟩] scope pos) (some (.Name y py)) spos.line X.env=pure true:=by rfl) :
 PS X (.Assign [.Name y py] (.ListComp elt [⟨tg,iter,ifs,0⟩] scope pos) spos) (tS (kk X cm) E (Ĵ i (Ŗ js nl mi g mt me))):=
 PS.wk (PS.au (Ui hN hi0 hy hsw N' js nl sc hsc hcalm hi hg ht he hcap hlen hk hcell hnames hfree hs)) fun D σ H ⟨c,F,ρ,rel,h⟩=>wU ⟨c,F,ρ,rel,ŧ.bind h fun r ρ1 v F1 H1 ę s1 q h1=>by
   cases r with
   |sh p=>exact h1 _ F1 H1 (ę.put rfl ⟨v,rfl,q⟩) (Same.refl _)
   |ow ps=>
    obtain⟨a,vs,rfl,q1,q2,q3,q4,q5⟩:=q
    exact h1 _ F1 H1 (ę.Ss ⟨a,vs,rfl,q1,q2,q3,q5⟩ rfl q4) (Same.refl _)
   |ot ps qs=>
    obtain⟨p,a,xs,vs,rfl,q0,qx,q1,q2,q3,q4,q5⟩:=q
    exact h1 _ F1 H1 (ę.Ss (s:=.ot ps qs) ⟨p,a,xs,vs,rfl,q0,qx,q1,q2,q3,q5⟩ ⟨p,xs,rfl,q0⟩ q4) (Same.refl _)⟩
end
end P
namespace P
open PySem PySem.Spec PyProof.Rows L2 M2 M3 M4
def mBM(f:PV→List PV→Option PV)(mo:M PV)(ms:M (List PV)):M PV:=fun ρ=>(mo ρ).bind fun p ρ1=>match p with
 | .str _=>(ms ρ1).bind fun ps ρ2=>Res.nF (f p ps) ρ2
 |_=>.bad
@[simp] theorem Zpp{f:PV→List PV→Option PV}{mo:M PV}{ms:M (List PV)}{ρ:ŏ}:mBM f mo ms ρ=(mo ρ).bind fun p ρ1=>match p with
  | .str _=>(ms ρ1).bind fun ps ρ2=>Res.nF (f p ps) ρ2
  |_=>.bad:=rfl
section
variable{X:Cx}{cm:String→Addr}{K:KK}{E:L2.St→XK}{o e:Expr}{es:List Expr}{name:Str}{apos cpos:Pos}{id:String}{r:V→List V→Hp→VK→Prop}{f:PV→List PV→Option PV}{mo:M PV}{ms:M (List PV)}
end
end P
namespace P
open PySem PySem.Spec PyProof.Rows L2 M2 M3 M4
section
variable{X:Cx}{pins:List (č)}{σ:L2.St}{H:Hp}{s:Shared}{h':Heap}
theorem turns{t':Nat}{fp:List Addr}(I:Inv X pins σ H s)(k:∀b o,b∉fp→s.heap.get? b=some o→h'.get? b=some o)(hf:∀b∈fp,fX X pins H b):Inv X pins σ H {s with heap:=h',toks:=t'}:=by
 have nit:∀b u,H b=some u→b∉fp:=fun b u e z=>by rw[(hf b z).1] at e;cases e
 have hL:X.env.locals∉fp:=fun z=>(hf _ z).2.1 rfl
 refine I.step (g':=s.gens) (d':=s.drawn) (ch:=fp) (fun b hb=>?_) (fun b o _ _ hc e _=>k b o hc e) (fun b o _ _ hc e _=>⟨o.slots,k b o hc e⟩) (fun _ _ _ _ n=>n)
  (fun b o hc e=>⟨o,k b o hc e⟩) (fun _ _ e=>e) (fun _ _ _ e=>e) (fun b ps e=>⟨#[],by rw[e];simp⟩) (fun m hm=>?_) (fun b u e=>?_) I.bare
 ·obtain⟨f0,f1,f2,f3,f4,f5⟩:=hf b hb
  exact⟨f3,f1,f4,f5⟩
 ·obtain⟨o,es,ep,ho,r⟩:=hm
  exact⟨o,es,ep,k _ o hL ho,r⟩
 ·refine(I.hok b u e).stay (fun c v hc q=>k c v ?_ q) (fun _ q=>q) fun _ _ q=>q
  rcases hc with z|z
  ·rw[z];exact nit b u e
  ·exact nit c _ z
theorem Zaq{a b:Addr}{o:HO}(f:fX X pins H b)(h:b≠a):fX X pins (upd H a o) b:=⟨by rw[Ġ h];exact f.1,f.2⟩
theorem oW{t':Nat}{fp:List Addr}{u1 u2:Value}{x1 x2:V}(I:Inv X pins σ H s)(r1:RelV x1 u1)(r2:RelV x2 u2)(ht:∃o,h'.get? s.heap.objs.size=some o∧o= {cls:=.type "tuple",data:=.seq #[u1,u2]})
 (k:∀b o,b∉fp→s.heap.get? b=some o→h'.get? b=some o)(hf:∀b∈fp,fX X pins H b)(hlt:∀b∈fp,b<s.heap.objs.size) :
 Inv X pins σ (upd H s.heap.objs.size (.tup [x1,x2])) {s with heap:=h',toks:=t'}:=by
 have I1:Inv X pins σ (upd H s.heap.objs.size (.tup [x1,x2])) {s with heap:=s.heap.push {cls:=.type "tuple",data:=.seq #[u1,u2]},toks:=s.toks}:=
  I.laid (t':=s.toks) (fun b u e=>Heap.get?_push_of_some _ e) (Nat.le_refl _) ⟨by show 2≤sizeLine;decide,[u1,u2],.cons r1 (.cons r2 .nil),⟨_,Heap.get?_push_size _ rfl,rfl,_,rfl⟩⟩
 refine turns (fp:=fp) (s:={s with heap:=s.heap.push {cls:=.type "tuple",data:=.seq #[u1,u2]},toks:=s.toks}) (h':=h') (t':=t') I1 (fun b o hb e=>?_) fun b hb=>Zaq (hf b hb) (Nat.ne_of_lt (hlt b hb))
 rcases Heap.get?_push_cases e with⟨rfl,rfl⟩|e
 ·obtain⟨o,h1,h2⟩:=ht
  rw[h1,h2]
 ·exact k b o hb e
end
def Ite(K:PySem.W.Frag)(a:Addr):It:=
 ⟨fun i H=>∃xs x,aJ K H a xs∧xs[i]?=some x,fun i H y H'=>∃x T,(∀xs,aJ K H a xs→xs[i]?=some x)∧H T=none∧y=.ref T∧H'=upd H T (.tup [.int i,x]),fun i H=>∃xs,aJ K H a xs∧xs.length≤i⟩
theorem FZ{P:Program}{w:World}{K:PySem.W.Frag}{elts:List Expr}{k:Nat}{pos:Pos}(a e it:Addr)(hne:e≠it):Turn P w K (.Tuple elts k pos) (Ite K a) [e,it] e (fun i h=>(∃old,IsEnum h e it i old)∧h.IsListIter it a i) where
 mem:=by simp
 obj:=fun i h st b hb=>by
  obtain⟨⟨old,he⟩,hit⟩:=st
  rcases List.mem_cons.mp hb with rfl|hb
  ·exact⟨_,he,fun v z=>by
    have z':Data.fields _=Data.cell v:=z
    cases z'⟩
  ·have e':b=it:=by simpa using hb
   subst e'
   obtain⟨o,e1,c,d⟩:=hit
   exact⟨o,e1,fun v z=>by rw[d] at z;cases z⟩
 keep:=fun i h h' st k=>⟨let ⟨old,he⟩:=st.1;⟨old,k e (by simp) _ he⟩,st.2.at fun o q=>k it (by simp) o q⟩
 item:=by
  intro X hP hw hK hc i pins s σ H E I hf st hg
  subst hP hw hK
  obtain⟨⟨old,he⟩,hit⟩:=st
  obtain⟨xs,x,hq,hx⟩:=hg
  obtain⟨its,rv,p,hz⟩:=I.list hq
  obtain⟨u,hu,ru⟩:=rv.get hx
  have elt:e<s.heap.objs.size:=Heap.lt_size he
  have ilt:it<s.heap.objs.size:=by obtain⟨_,q,_⟩:=hit;exact Heap.lt_size q
  refine wpAny_pyNext_enum_item he hit p.isList (x:=u) (by simpa using hu) hne fun h' ho hit' hT hsz hk=>?_
  refine⟨.ref s.heap.objs.size,rfl,wpAny_letOwnedTupleGo_enum ho fun h'' he' hs'=>?_⟩
  have hs2:Heap.SameBut e h' h'':=hs'
  have hlt:∀b∈[e,it],b<s.heap.objs.size:=fun b hb=>by
   rcases List.mem_cons.mp hb with rfl|hb
   ·exact elt
   ·have e':b=it:=by simpa using hb
    subst e';exact ilt
  have I2:=oW (fp:=[e,it]) (h':=h'') (t':=s.toks+1) (x1:=.int i) I ⟨s.toks,rfl⟩ ru ⟨_,(hs2.2 _ (Nat.ne_of_gt elt)).trans hT,rfl⟩ (fun b o hb q=>by
   have hbe:b≠e:=fun z=>hb (by simp[z])
   have hbi:b≠it:=fun z=>hb (by simp[z])
   exact(hs2.2 b hbe).trans (hk b o hbe hbi q)) hf hlt
  refine⟨.ref s.heap.objs.size,_,I2,rfl,⟨x,s.heap.objs.size,fun ys hy=>by rw[I.nQ hy hq];exact hx,I.fresh,rfl,rfl⟩,⟨⟨u,?_⟩,hit'.at fun o q=>(hs2.2 it hne.symm).trans q⟩,fun b hb=>?_⟩
  ·have he2:IsEnum h'' e it ((i:Int)+1) u:=he'
   show IsEnum h'' e it (((i+1:Nat):Int)) u
   rw[Int.natCast_add]
   exact he2
  ·rw[Ġ (Nat.ne_of_lt (hlt b hb))];exact(hf b hb).1
 done:=by
  intro X hP hw hK hc i pins s σ H E I hf st hg
  subst hP hw hK
  obtain⟨⟨old,he⟩,hit⟩:=st
  obtain⟨xs,hq,hx⟩:=hg
  obtain⟨its,rv,p,hz⟩:=I.list hq
  have hl:=rv.length
  refine wpAny_pyNext_enum_end (I.ok.hd hc) he hit p.isList (by simp;omega) fun h' eb=>⟨rfl,turns (fp:=[e,it]) (t':=s.toks) I (fun b o hb q=>eb b o (fun z=>hb (by simp[z])) q) hf⟩
 self:=fun _ _ _ _ _ st h=>let ⟨_,he⟩:=st.1;wpAny_pyIter_enum he h
section
variable{X:Cx}{elts:List Expr}{k:Nat}{tp:Pos}
def Zd6(K:PySem.W.Frag)(ta:TA):TI:=fun σ H R=>ta σ H fun vs H1=>∃a,vs=[.ref a]∧(∃xs,aJ K H1 a xs)∧R (Ite K a) H1
theorem Uj{l:Expr}{ta:TA}{p pos:Pos}(hg:Gl X "enumerate")(hm:X.mg "enumerate" =none)(ha:PA X [l] ta)(hs:starEach [l] X.env=[(false,eval l X.env)]:=by exact ı rfl):PI X (.Tuple elts k tp) (.Call (.Name "enumerate" p) [l] [] pos) (Zd6 X.K ta):=by
 intro pins s σ H R I h
 refine Call_ (jW I hg hm boot_enumerate (PyProof.Rows.callWith_type1 (Ŧ (ha pos pins s σ H _ I h) fun us s1 ⟨vs,H1,I1,r1,q1⟩=>?_) hs rfl))
 obtain⟨a,e,⟨xs,hq⟩,q⟩:=q1
 subst e
 obtain⟨u,rfl,ru⟩:=r1.one
 cases ru
 obtain⟨its,rv,pl,hz⟩:=I1.list hq
 refine call_enumerate_list pl.isList fun h' he hit hsz hk=>?_
 have I2:Inv X pins σ H1 {s1 with heap:=h'}:=I1.kept (t':=s1.toks) hk
 refine wpAny_pyIter_enum (s:={s1 with heap:=h'}) he ⟨s1.heap.objs.size+1,[s1.heap.objs.size+1,s1.heap.objs.size],_,_,H1,rfl,I2,FZ a _ _ (Nat.succ_ne_self _),⟨⟨_,he⟩,hit⟩,fun b hb=>?_,q⟩
 have hb':s1.heap.objs.size≤b:=by
  rcases List.mem_cons.mp hb with rfl|hb
  ·exact Nat.le_succ _
  ·have e':b=s1.heap.objs.size:=by simpa using hb
   exact Nat.le_of_eq e'.symm
 exact I1.Fb hb' (I1.hok.fresh hb')
end
def rLs(K:KK):RR (List PV) V:=fun c _ _ F H items v=>∃a,v=.ref a∧(∃xs,aJ K.K H a xs)∧fO K c.L F (Yb K.K a) items
def rTs(K:KK):RR (List PV) V:=fun c _ _ F H items v=>∃a,v=.ref a∧(∃xs,dD K.K H a xs)∧fO K c.L F (Itt K.K a) items
def rSq(K:KK):RR (List PV) V:=fun c σ ρ F H items v=>rLs K c σ ρ F H items v∨rTs K c σ ρ F H items v
theorem oX{K:KK}{L F:Hp}{ps:List PV}{v:V}(h:Rep K F (.lst ps) v):∃a,v=.ref a∧(∃xs,aJ K.K F a xs)∧fO K L F (Yb K.K a) ps:=by
 unfold Rep at h
 obtain⟨a,vs,rfl,e1,e2⟩:=h
 refine⟨a,rfl,⟨vs,e1⟩,?_⟩
 intro c' i F2 H2 σ2 ρ2 Ŋ sF _
 have hq:aJ K.K H2 a vs:=(sF.trans Ŋ.sub).seq e1
 refine⟨fun p hp=>?_,fun hi=>⟨vs,hq,by rw[hi,e2.length];exact Nat.le_refl _⟩⟩
 obtain⟨u,hu,ru⟩:=cM e2.pr hp
 refine⟨⟨vs,u,hq,hu⟩,fun x H' ⟨hH,hx⟩=>?_⟩
 subst hH
 have:vs[i]?=some x:=hx vs hq
 rw[hu] at this
 cases this
 exact⟨F2,Ŋ,Same.refl _,Same.refl _,Rep.same sF p u ru⟩
theorem Ju{K:KK}{L F:Hp}{ps:List PV}{v:V}(h:Rep K F (.tup ps) v):∃a,v=.ref a∧(∃xs,dD K.K F a xs)∧fO K L F (Itt K.K a) ps:=by
 unfold Rep at h
 obtain⟨a,vs,rfl,e1,e2⟩:=h
 refine⟨a,rfl,⟨vs,e1⟩,?_⟩
 intro c' i F2 H2 σ2 ρ2 Ŋ sF _
 have hq:dD K.K H2 a vs:=Same.tup (sF.trans Ŋ.sub) e1
 refine⟨fun p hp=>?_,fun hi=>⟨vs,hq,by rw[hi,e2.length];exact Nat.le_refl _⟩⟩
 obtain⟨u,hu,ru⟩:=cM e2.pr hp
 refine⟨⟨vs,u,hq,hu⟩,fun x H' ⟨hH,hx⟩=>?_⟩
 subst hH
 have:vs[i]?=some x:=hx vs hq
 rw[hu] at this
 cases this
 exact⟨F2,Ŋ,Same.refl _,Same.refl _,Rep.same sF p u ru⟩
theorem Ga{K:KK}{c:Ctx}{F:Hp}{a:Addr}{vs:List V}{ps:List PV}(h2:c.L a=some (.lst vs))(h3:ĝ K F ps vs):fO K c.L F (Yb K.K a) ps:=by
 intro c' j F2 H2 σ2 ρ2 Ŋ sF sL
 have hq:aJ K.K H2 a vs:=aJ.of (sL a _ h2)
 refine⟨fun p hp=>?_,fun hi=>⟨vs,hq,by rw[hi,h3.length];exact Nat.le_refl _⟩⟩
 obtain⟨u,hu,ru⟩:=cM h3.pr hp
 refine⟨⟨vs,u,hq,hu⟩,fun x H' ⟨hH,hx⟩=>?_⟩
 subst hH
 have:vs[j]?=some x:=hx vs hq
 rw[hu] at this
 cases this
 exact⟨F2,Ŋ,Same.refl _,Same.refl _,Rep.same sF p u ru⟩
theorem fO.mono{K:KK}{L F F1:Hp}{J:It}{ps:List PV}(h:fO K L F J ps)(s:Same F F1):fO K L F1 J ps:=fun c i F2 H σ ρ rel sF sL=>h c i F2 H σ ρ rel (s.trans sF) sL
def mLs(m:M PV):M (List PV):=fun ρ=>(m ρ).bind fun p ρ1=>match p with
 | .lst ps=>.ok ps ρ1
 |_=>.bad
def mSq(m:M PV):M (List PV):=fun ρ=>(m ρ).bind fun p ρ1=>match p with
 | .lst ps=>.ok ps ρ1
 | .tup ps=>.ok ps ρ1
 |_=>.bad
def Zl4(i:Nat):M (List PV):=fun ρ=>match ρ[i]? with
 |some (.bw ps)=>.ok ps ρ
 |some (.sh (.lst ps))=>.ok ps ρ
 |some (.ow ps)=>.ok ps (ρ.set i (.sh (.lst ps)))
 |_=>.bad
def Jv(i:Nat):M (List PV):=fun ρ=>match ρ[i]? with
 |some (.bw ps)=>.ok ps ρ
 |some (.sh (.lst ps))=>.ok ps ρ
 |some (.sh (.tup ps))=>.ok ps ρ
 |some (.ow ps)=>.ok ps (ρ.set i (.sh (.lst ps)))
 |_=>.bad
section
variable{X:Cx}{cm:String→Addr}{E:L2.St→XK}{e:Expr}{m:M PV}
theorem Zd7(h:PE X e (tV (kk X cm) E m)):PE X e (tG (kk X cm) E (rLs (kk X cm)) (mLs m)):=PE.wk h fun σ H Q ⟨c,F,ρ,rel,h⟩=>⟨c,F,ρ,rel,h.bind fun p ρ1 v F1 H1 ę s1 s2 q h1=>by
 cases p with
 |lst ps=>
  obtain⟨a,e1,⟨xs,e2⟩,e3⟩:=oX (L:=c.L) (show Rep (kk X cm) F1 (.lst ps) v from q)
  exact h1 v F1 H1 ę (Same.refl _) (Same.refl _) ⟨a,e1,⟨xs,ę.sub.seq e2⟩,e3⟩
 |_=>exact h1.elim⟩
theorem Vv(i:Nat){x:Str}{px:Pos}(hN:X.N[i]?=some x:=by rfl)(hv:Gy X.env.scope x:=by first|exact Or.inl rfl|exact Or.inr (Or.inl rfl)|exact Or.inr (Or.inr rfl))(hd:(x== ("__debug__" :Str))=false:=by decide)
 (hcd:(x== ("__classdict__" :Str))=false:=by decide):PE X (.Name x px) (tG (kk X cm) E (rSq (kk X cm)) (Jv i)):=PE.wk (fW hN hv hd hcd) fun σ H Q ⟨c,F,ρ,rel,h⟩=>by
 unfold Jv at h
 cases e:ρ[i]? with
 |none=>rw[e] at h;exact h.elim
 |some sl=>
  rw[e] at h
  cases sl with
  |no=>exact h.elim
  |rc C ns ps=>exact h.elim
  |ot ps qs=>exact h.elim
  |ow ps=>
   obtain⟨a,vs,z1,z2,z3,z4⟩:=rel.share e
   obtain⟨a',e1,⟨xs,e2⟩,e3⟩:=oX (L:=c.L) z3
   cases e1
   exact⟨.ref a,z1,h _ _ H z4 (Same.upd z2) (Same.refl _) (.inl ⟨a,rfl,⟨xs,z4.sub.seq e2⟩,e3⟩)⟩
  |bw ps=>
   obtain⟨a,vs,h1,h2,h3⟩:=rel.slot i _ e
   exact⟨.ref a,at_of h1,h _ F H rel (Same.refl _) (Same.refl _) (.inl ⟨a,rfl,⟨vs,aJ.of (rel.lent a _ h2).1⟩,Ga h2 h3⟩)⟩
  |sh p=>
   obtain⟨v,h1,h2⟩:=rel.slot i _ e
   cases p with
   |lst ps=>
    obtain⟨a,e1,⟨xs,e2⟩,e3⟩:=oX (L:=c.L) h2
    exact⟨v,at_of h1,h v F H rel (Same.refl _) (Same.refl _) (.inl ⟨a,e1,⟨xs,rel.sub.seq e2⟩,e3⟩)⟩
   |tup ps=>
    obtain⟨a,e1,⟨xs,e2⟩,e3⟩:=Ju (L:=c.L) h2
    exact⟨v,at_of h1,h v F H rel (Same.refl _) (Same.refl _) (.inr ⟨a,e1,⟨xs,Same.tup rel.sub e2⟩,e3⟩)⟩
   |_=>exact h.elim
def gM:Nat→List PV→List PV
 |_,[]=>[]
 |k,p::ps=>.tup [.int k,p]::gM (k+1) ps
theorem rG:∀(k:Nat) (ps:List PV),(gM k ps).length=ps.length
 |_,[]=>rfl
 |k,_::ps=>congrArg (·+ 1) (rG (k+1) ps)
theorem rH:∀(k:Nat) (ps:List PV) (i:Nat),(gM k ps)[i]?=ps[i]?.map fun p=>.tup [.int ((k+i:Nat):Int),p]
 |_,[],_=>rfl
 |k,p::ps,0=>rfl
 |k,p::ps,i+1=>by
  show(gM (k+1) ps)[i]?=_
  rw[rH (k+1) ps i,List.getElem?_cons_succ,show k+1+i=k+(i+1) by omega]
def Em(m:M (List PV)):M (List PV):=fun ρ=>(m ρ).bind fun ps ρ1=>.ok (gM 0 ps) ρ1
theorem En{K:KK}{c:Ctx}{F H:Hp}{σ:L2.St}{ρ:ŏ}{T:Addr}{p q:PV}{x y:V}(rel:Rel K c F H σ ρ)(hT:H T=none)(r1:Rep K F p x)(r2:Rep K F q y):Rel K c (upd F T (.tup [x,y])) (upd H T (.tup [x,y])) σ ρ∧Rep K (upd F T (.tup [x,y])) (.tup [p,q]) (.ref T):=by
 have hF:=rel.sub.free hT
 refine⟨rel.alloc hT,?_⟩
 unfold Rep
 exact⟨T,[x,y],rfl,dD.of Ĭ,ĝ.cons (Rep.same (Same.upd hF) p x r1) (ĝ.cons (Rep.same (Same.upd hF) q y r2) ĝ.nil)⟩
theorem Gb{K:KK}{L F:Hp}{a:Addr}{ps:List PV}(h:fO K L F (Yb K.K a) ps):fO K L F (Ite K.K a) (gM 0 ps):=by
 intro c i F2 H σ ρ rel sF sL
 obtain⟨g,st⟩:=h c i F2 H σ ρ rel sF sL
 refine⟨fun p hp=>?_,fun hi=>st (by rw[hi,rG])⟩
 rw[rH] at hp
 cases eq:ps[i]? with
 |none=>rw[eq] at hp;cases hp
 |some q=>
  rw[eq] at hp
  have hp':PV.tup [.int ((0+i:Nat):Int),q]=p:=Option.some.inj hp
  subst hp'
  obtain⟨⟨xs,x,hq,hx⟩,g2⟩:=g q eq
  refine⟨⟨xs,x,hq,hx⟩,fun y H' ⟨x',T,h1,hT,ey,eH⟩=>?_⟩
  subst ey eH
  obtain⟨F3,mO,s3,_,rp⟩:=g2 x' H ⟨rfl,h1⟩
  obtain⟨r1,r2⟩:=En (p:=.int i) (x:=.int i) mO hT (by unfold Rep;rfl) rp
  refine⟨_,r1,s3.trans (Same.upd (mO.sub.free hT)),Same.upd hT,?_⟩
  rw[Nat.zero_add]
  exact r2
theorem Jw{elts:List Expr}{k:Nat}{tp p pos:Pos}{mi:M (List PV)}(hg:Gl X "enumerate")(hm:X.mg "enumerate" =none)(hl:PE X e (tG (kk X cm) E (rLs (kk X cm)) mi))(hs:starEach [e] X.env=[(false,eval e X.env)]:=by exact ı rfl) :
 PI X (.Tuple elts k tp) (.Call (.Name "enumerate" p) [e] [] pos) (tI (kk X cm) E (Em mi)):=fun pins s σ H R I h=>Uj hg hm (cB hl jg hs) hs pins s σ H R I (by
 obtain⟨c,F,ρ,rel,h⟩:=h
 refine⟨c,F,ρ,rel,h.bind fun ps ρ1 v F1 H1 ę s1 s2 q h1=>?_⟩
 obtain⟨a,e1,e2,e3⟩:=q
 subst e1
 exact⟨a,rfl,e2,h1 _ F1 H1 ę (Same.refl _) (Same.refl _) (Gb e3)⟩)
def Bm(i:Nat)(mo:M RV):M Fl:=fun ρ=>match ρ[i]? with
 |some (.ow _)=>(mo ρ).bind fun r ρ1=>match ρ1[i]?,r with
  |some (.ow ps),.ow qs=>if ps.length+qs.length≤16777216 then .ok .nx (ρ1.set i (.ow (ps++qs))) else .bad
  |_,_=>.bad
 |_=>.bad
theorem Eo{i:Nat}{mo:M RV}{D:Ends}{σ:L2.St}{H:Hp}(h:tS (kk X cm) E (Bm i mo) D σ H):GP (tBM X.K "list" Dw (t_ i) (Vf (tO (kk X cm) E mo) Zdi)) D σ H:=by
 obtain⟨c,F,ρ,rel,h⟩:=h
 unfold Bm at h
 cases e1:ρ[i]? with
 |none=>rw[e1] at h;exact h.elim
 |some sl=>
  rw[e1] at h
  cases sl with
  |ow ps0=>
   obtain⟨a,vs0,z1,z2,z3,z4,z5,z6⟩:=rel.ow e1
   refine⟨.ref a,z1,.inl ⟨rfl,_,aJ.of z2⟩,c,F,ρ,rel,?_⟩
   refine ŧ.bind h fun r ρ1 v F1 H1 ę s1 q h1=>?_
   cases e2:ρ1[i]? with
   |none=>simp only[e2] at h1;exact h1.elim
   |some sl2=>
    simp only[e2] at h1
    cases sl2 with
    |ow ps=>
     cases r with
     |ow qs=>
      obtain⟨b,us,eb,hb1,hb2,hb3,hb4,hb5⟩:=q
      subst eb
      obtain⟨a2,vs,w1,w2,w3,w4,w5,w6⟩:=ę.ow e2
      rw[z1] at w1
      cases w1
      dsimp only at h1
      split at h1
      ·rename_i hz
       refine⟨a,b,vs,us,rfl,rfl,w2,hb1,by rw[←w5.length,←hb5.length,Ŏ];exact hz,h1 σ F1 _ (ę.write w6 z1 ⟨a,vs++us,rfl,Ĭ,w3,w4,ĝ.append w5 hb5⟩ fun _ z=>(V.ref.inj z).symm) (Same.refl _)⟩
      ·exact h1.elim
     |_=>exact h1.elim
    |_=>exact h1.elim
  |_=>exact h.elim
def Zl5(i:Nat):M Fl:=fun ρ=>match ρ[i]? with
 |some (.ow _)=>.ok .nx (ρ.set i (.ow []))
 |_=>.bad
@[simp] theorem Zl6{i:Nat}{ρ:ŏ}:Zl5 i ρ=(match ρ[i]? with
  |some (.ow _)=>.ok .nx (ρ.set i (.ow []))
  |_=>.bad):=rfl
@[simp] theorem Zl7{i:Nat}{mo:M RV}{ρ:ŏ}:Bm i mo ρ=(match ρ[i]? with
  |some (.ow _)=>(mo ρ).bind fun r ρ1=>match ρ1[i]?,r with
   |some (.ow ps),.ow qs=>if ps.length+qs.length≤16777216 then .ok .nx (ρ1.set i (.ow (ps++qs))) else .bad
   |_,_=>.bad
  |_=>.bad):=rfl
@[simp] theorem Zkj{mi:M (List PV)}{ρ:ŏ}:Em mi ρ=(mi ρ).bind fun ps ρ1=>.ok (gM 0 ps) ρ1:=rfl
@[simp] theorem Zpq{ρ:ŏ}:mLs m ρ=(m ρ).bind fun p ρ1=>match p with
  | .lst ps=>.ok ps ρ1
  |_=>.bad:=rfl
@[simp] theorem Zpr{ρ:ŏ}:mSq m ρ=(m ρ).bind fun p ρ1=>match p with
  | .lst ps=>.ok ps ρ1
  | .tup ps=>.ok ps ρ1
  |_=>.bad:=rfl
@[simp] theorem Zl8{i:Nat}{ρ:ŏ}:Zl4 i ρ=(match ρ[i]? with
  |some (.bw ps)=>.ok ps ρ
  |some (.sh (.lst ps))=>.ok ps ρ
  |some (.ow ps)=>.ok ps (ρ.set i (.sh (.lst ps)))
  |_=>.bad):=rfl
@[simp] theorem Zl9{i:Nat}{ρ:ŏ}:Jv i ρ=(match ρ[i]? with
  |some (.bw ps)=>.ok ps ρ
  |some (.sh (.lst ps))=>.ok ps ρ
  |some (.sh (.tup ps))=>.ok ps ρ
  |some (.ow ps)=>.ok ps (ρ.set i (.sh (.lst ps)))
  |_=>.bad):=rfl
end
end P
namespace P
open PySem PySem.Spec PyProof.Rows L2 M2 M3 M4
theorem Zd8{X:Cx}:PIp X .BitOr (ipI fun i j=>Builtin.bitOr i j):=by
 intro pins s σ H x y v u Q I r1 r2 h
 obtain⟨i,j,e1,e2,q⟩:=h
 subst e1;subst e2
 obtain⟨t,rfl⟩:=r1
 obtain⟨t',rfl⟩:=r2
 exact ior_int ⟨.int _,H,I.tok _,⟨_,rfl⟩,q⟩
def xU(i:Nat)(m:M PV):M Fl:=fun ρ=>match ρ[i]? with
 |some (.sh (.int _))=>(m ρ).bind fun q ρ1=>match ρ1[i]?,q with
  |some (.sh (.int k)),.int j=>.ok .nx (ρ1.set i (.sh (.int (Builtin.bitOr k j))))
  |_,_=>.bad
 |_=>.bad
@[simp] theorem Zkk{i:Nat}{m:M PV}{ρ:ŏ}:xU i m ρ=(match ρ[i]? with
  |some (.sh (.int _))=>(m ρ).bind fun q ρ1=>match ρ1[i]?,q with
   |some (.sh (.int k)),.int j=>.ok .nx (ρ1.set i (.sh (.int (Builtin.bitOr k j))))
   |_,_=>.bad
  |_=>.bad):=rfl
section
variable{X:Cx}{cm:String→Addr}{E:L2.St→XK}{e a b:Expr}{m ma mb:M PV}{pos:Pos}
theorem uP{K:KK}{F:Hp}{i:Int}{v:V}(h:Rep K F (.int i) v):v=.int i:=by unfold Rep at h;exact h
theorem Jx{i:Nat}{x:Str}{pos':Pos}(hN:X.N.Nodup)(hi:X.N[i]?=some x)(hx:Loc X.env.scope x)(he:PE X e (tV (kk X cm) E m))(hf:X.fn x=true∨X.env.scope.names.lookup x=some .local:=by first|exact .inl rfl|exact .inr rfl|assumption) :
 PS X (.AugAssign (.Name x pos') .BitOr e pos) (tS (kk X cm) E (xU i m)):=PS.wk (XR hN hi hx he Zd8 hf) fun D σ H ⟨c,F,ρ,rel,h⟩=>by
 unfold xU at h
 cases e1:ρ[i]? with
 |none=>rw[e1] at h;exact h.elim
 |some sl=>
  rw[e1] at h
  cases sl with
  |sh p=>
   cases p with
   |int k0=>
    obtain⟨v,h1,h2⟩:=rel.slot i _ e1
    cases uP h2
    refine⟨.int k0,at_of h1,c,F,ρ,rel,ŧ.bind h fun q ρ1 u F1 H1 ę s1 rq h1'=>?_⟩
    cases e2:ρ1[i]? with
    |none=>simp only[e2] at h1';exact h1'.elim
    |some sl2=>
     simp only[e2] at h1'
     cases sl2 with
     |sh p2=>
      cases p2 with
      |int k=>
       cases q with
       |int j=>
        obtain⟨v2,w1,w2⟩:=ę.slot i _ e2
        cases uP w2
        rw[h1] at w1
        cases w1
        cases uP rq
        exact⟨k0,j,rfl,rfl,h1' _ F1 H1 (ę.put rfl ⟨_,rfl,Rep.int⟩) (Same.refl _)⟩
       |_=>exact h1'.elim
      |_=>exact h1'.elim
     |_=>exact h1'.elim
   |_=>exact h.elim
  |_=>exact h.elim
def Zd9:PV→Option PV
 | .int i=>some (.int (Builtin.bitNot i))
 |_=>none
@[simp] theorem Zkl{i:Int}:Zd9 (.int i)=some (.int (Builtin.bitNot i)):=rfl
def Zd_(m:M PV):M PV:=fun ρ=>(m ρ).bind fun p ρ1=>match p with
 | .int i=>.ok (.int ((Builtin.Int.intBits i:Nat):Int)) ρ1
 |_=>.bad
@[simp] theorem Zkm{ρ:ŏ}:Zd_ m ρ=(m ρ).bind fun p ρ1=>match p with
  | .int i=>.ok (.int ((Builtin.Int.intBits i:Nat):Int)) ρ1
  |_=>.bad:=rfl
def Zl_(m:M PV):M RV:=fun ρ=>(m ρ).bind fun p ρ1=>match p with
 | .lst ps=>.ok (.ow ps.reverse) ρ1
 |_=>.bad
@[simp] theorem Zma{ρ:ŏ}:Zl_ m ρ=(m ρ).bind fun p ρ1=>match p with
  | .lst ps=>.ok (.ow ps.reverse) ρ1
  |_=>.bad:=rfl
end
section
variable{X:Cx}{K:KK}
end
end P
namespace P
open PySem PySem.Spec PyProof.Rows L2 M2 M3 M4
section
variable{prog:Program}{w:World}{A:Around}{E:Value→Shared→Prop}{s:Shared}
theorem jG{it l:Addr}{i:Nat}{items}{x:Value}{Q:Value→Shared→Prop}(hit:s.heap.IsTupleIter it l i)
 (hl:s.heap.IsTuple l items)(hx:items[i]?=some x)
 (hQ:∀h',h'.IsTupleIter it l (i+1)→Heap.SameBut it s.heap h'→Q x {s with heap:=h'}) :
 wpAny (model prog w) A (Builtin.SmallTypes.nextOf (.ref it)) Q E s:=by
 obtain⟨o,ho,hc,hd⟩:=id hit
 obtain⟨ol,hol,_,nl,hdl⟩:=hl
 unfold Builtin.SmallTypes.nextOf
 refine wpAny_bind (wpAny_callSpecial?_slot (name:=Str.ofString "__next__") hit.typeIs F.slot_tuple_iterator_next
  (wpAny_call_entry F.slot_tuple_iterator_next hit.typeIs F.entry_tuple_iterator_next ?_ (F.args_tuple_iterator_next_1 _)))
 show wpAny _ _ (field (.ref it) 0 >>= _) _ _ s
 refine wpAny_bind (wpAny_field ho hd (x:=.ref l) rfl ?_)
 show wpAny _ _ (if(Value.ref l== Value.none)=true then _ else _) _ _ s
 rw[if_neg (show ¬((Value.ref l== Value.none)=true) from Bool.false_ne_true)]
 show wpAny _ _ (field (.ref it) 1 >>= _) _ _ s
 refine wpAny_bind (wpAny_field ho hd (x:=.int i 0) rfl ?_)
 show wpAny _ _ (seqItems? (.ref l) >>= _) _ _ s
 refine wpAny_bind (wpAny_seqItems hol hdl ?_)
 simp only[Int.toNat_natCast,hx]
 refine wpAny_bind (wpAny_setField ho hd (by simp) (wpAny_pure ⟨x,rfl,wpAny_pure (hQ _ ?_ (Heap.SameBut.update ..))⟩))
 exact⟨_,Heap.get?_update_self _ ho (Obj.isFreed_of_fields (Obj.data_mapFields hd _)),(Obj.cls_mapFields ..).trans hc,by
  rw[Obj.data_mapFields hd];simp[rawInt]⟩
theorem kY{it l:Addr}{i:Nat}{items}{Q:Value→Shared→Prop}(hh:A.handled=none)
 (hit:s.heap.IsTupleIter it l i)(hl:s.heap.IsTuple l items)(hx:items[i]?=none)
 (hE:∀h' e,Heap.ExtBut it s.heap h'→(∃o,h'.get? e=some o∧o.cls=.type "StopIteration")→E (.ref e) {s with heap:=h'}) :
 wpAny (model prog w) A (Builtin.SmallTypes.nextOf (.ref it)) Q E s:=by
 obtain⟨o,ho,hc,hd⟩:=id hit
 obtain⟨ol,hol,_,nl,hdl⟩:=hl
 unfold Builtin.SmallTypes.nextOf
 refine wpAny_bind (wpAny_callSpecial?_slot (name:=Str.ofString "__next__") hit.typeIs F.slot_tuple_iterator_next
  (wpAny_call_entry F.slot_tuple_iterator_next hit.typeIs F.entry_tuple_iterator_next ?_ (F.args_tuple_iterator_next_1 _)))
 show wpAny _ _ (field (.ref it) 0 >>= _) _ _ s
 refine wpAny_bind (wpAny_field ho hd (x:=.ref l) rfl ?_)
 show wpAny _ _ (if(Value.ref l== Value.none)=true then _ else _) _ _ s
 rw[if_neg (show ¬((Value.ref l== Value.none)=true) from Bool.false_ne_true)]
 show wpAny _ _ (field (.ref it) 1 >>= _) _ _ s
 refine wpAny_bind (wpAny_field ho hd (x:=.int i 0) rfl ?_)
 show wpAny _ _ (seqItems? (.ref l) >>= _) _ _ s
 refine wpAny_bind (wpAny_seqItems hol hdl ?_)
 simp only[Int.toNat_natCast,hx]
 refine wpAny_bind (wpAny_rule (wpAny_bind (wpAny_setField ho hd (by simp) ?_)))
 show wpAny _ _ (newExc (.type "StopIteration") [] >>= _) _ _ _
 refine wpAny_bind ?_
 simp only[newExc,newTuple]
 refine wpAny_bind (wpAny_newObj_type ?_ (by size_fits))
 refine wpAny_bind (m:=firstArgMember _ _) (wpAny_of_eq (a:=Value.none) (by first|rfl|(simp only[firstArgMember];rfl)) ?_)
 refine wpAny_newObj_type ?_ (by size_fits)
 simp only[raiseNew]
 refine wpAny_bind (wpAny_handled ?_)
 first|rw[show A.in1.handled=none from hh]|rw[hh]
 refine wpAny_bind (wpAny_pure (wpAny_throw ?_))
 exact hE _ _ (((Heap.SameBut.update ..).extBut.push _).push _) ⟨_,Heap.get?_push_size _ rfl,rfl⟩
end
theorem xV{prog:Program}{w:World}{A:Around}(hh:A.handled=none)(it l:Addr)(hne:l≠it)(items:Array Value) :
 Draws prog w A it [it,l] items.size (fun i v=>items[i]?=some v) (fun i h=>h.IsTupleIter it l i∧h.IsTuple l items) where
 live:=fun _ _ st=>let ⟨o,ho,_⟩:=st.1;⟨o,ho⟩
 frame:=fun _ _ _ st hk=>⟨let ⟨o,ho,r⟩:=st.1;⟨o,hk it (by simp) o ho,r⟩,let ⟨o,ho,r⟩:=st.2;⟨o,hk l (by simp) o ho,r⟩⟩
 item:=fun i s Q E hi st hQ=>by
  refine jG st.1 st.2 (x:=items[i]) (by simp[hi]) fun h' hit' hs'=>?_
  exact hQ _ h' s.toks (by simp[hi]) ⟨hit',st.2.extBut hs'.extBut hne⟩ hs'
 done:=fun s Q E st hE=>kY hh st.1 st.2 (by simp) hE
structure ZAp(z TI TO i1 i2:Addr)(f1 f2:List Addr):Prop where
 TIz:TI≠z
 TOz:TO≠z
 i1z:i1≠z
 i2z:i2≠z
 TITO:TI≠TO
 TIi1:TI≠i1
 TIi2:TI≠i2
 TOi1:TO≠i1
 TOi2:TO≠i2
 i12:i1≠i2
 z1:z∉f1
 z2:z∉f2
 t1:TO∉f1
 t2:TO∉f2
 a1:i1∉f2
 a2:i2∉f1
section
variable{prog:Program}{w:World}{A:Around}{E:Value→Shared→Prop}{s:Shared}
theorem oY{z TI TO i1 i2:Addr}{f1 f2:List Addr}{n1 n2 k1 k2:Nat}{P1 P2:Nat→Value→Prop}{S1 S2:Nat→Heap→Prop}{a b:Value}{Q:Value→Shared→Prop}(D:ZAp z TI TO i1 i2 f1 f2)
 (D1:Draws prog w A i1 f1 n1 P1 S1)(D2:Draws prog w A i2 f2 n2 P2 S2)
 (hz:IsZip s.heap z TI TO .none)(hTI:IsPair s.heap TI (.ref i1) (.ref i2))(hTO:IsPair s.heap TO a b)(h1:S1 k1 s.heap)(h2:S2 k2 s.heap)(hk1:k1<n1)(hk2:k2<n2)
 (hQ:∀x y h' tk,P1 k1 x→P2 k2 y→IsZip h' z TI TO (rawInt s.heap.objs.size)→IsPair h' TO x y→S1 (k1+1) h'→S2 (k2+1) h'→IsPair h' s.heap.objs.size x y→h'.objs.size=s.heap.objs.size+1→
   (∀c o,c≠z→c≠TO→c≠i1→c≠i2→s.heap.get? c=some o→h'.get? c=some o)→Q (.ref s.heap.objs.size) {s with heap:=h',toks:=tk}) :
 wpAny (model prog w) A (Builtin.«zip.__next__» ⟨[.ref z],[]⟩) (fun fin s'=>∃v,fin=.done (.ret v)∧Q v s') E s:=by
 have Vw:∀{b},b∈f1→b≠z∧b≠TO∧b≠i2:=fun hb=>⟨fun e=>D.z1 (e▸hb),fun e=>D.t1 (e▸hb),fun e=>D.a2 (e▸hb)⟩
 have Uk:∀{b},b∈f2→b≠z∧b≠TO∧b≠i1:=fun hb=>⟨fun e=>D.z2 (e▸hb),fun e=>D.t2 (e▸hb),fun e=>D.a1 (e▸hb)⟩
 obtain⟨hp,g,d,tk0,os⟩:=s
 show wpAny _ _ (field (.ref z) 2 >>= _) _ _ _
 refine wpAny_bind (wpAny_field hz rfl (x:=.bool false) rfl ?_)
 show wpAny _ _ (field (.ref z) 3 >>= _) _ _ _
 refine wpAny_bind (wpAny_field hz rfl (x:=.ref TI) rfl ?_)
 refine wpAny_bind (wpAny_seqItems hTI rfl ?_)
 show wpAny _ _ (Builtin.SmallTypes.ownedTupleIsFree (.ref z) >>= _) _ _ _
 refine wpAny_bind ?_
 unfold Builtin.SmallTypes.ownedTupleIsFree
 refine wpAny_bind (wpAny_field hz rfl (x:=.none) rfl (wpAny_pure ?_))
 simp only[if_true]
 refine wpAny_bind (wpAny_rule ?_)
 refine wpAny_bind (wpAny_field hz rfl (x:=.ref TO) rfl ?_)
 refine wpAny_bind (wpAny_setField_rec hz (by simp) fun h₁ hz₁ hs₁=>?_)
 replace hs₁:Heap.SameBut z hp h₁:= hs₁
 replace hz₁:IsZip h₁ z TI TO .ellipsis:=hz₁
 refine wpAny_bind ?_
 simp only[List.zipIdx_cons,List.zipIdx_nil,List.forIn_cons,List.forIn_nil]
 refine wpAny_bind (wpAny_bind (wpAny_onRaise ?_))
 show wpAny _ _ (Builtin.SmallTypes.nextOf (.ref i1) >>= _) _ _ _
 refine wpAny_bind (D1.item k1 _ _ _ hk1 (D1.frame _ _ _ h1 fun b hb o e=>hs₁.extBut b o (Vw hb).1 e) fun x h₂ tk hPx h1₂ hs₂=>wpAny_pure ?_)
 replace hs₂:Heap.SameBut i1 h₁ h₂:= hs₂
 have hTO₂:IsPair h₂ TO a b:=hs₂.extBut _ _ D.TOi1 (hs₁.extBut _ _ D.TOz hTO)
 refine wpAny_bind (wpAny_seqItems hTO₂ rfl ?_)
 refine wpAny_bind (wpAny_updateSeq_pair hTO₂ fun h₃ hTO₃ hs₃=>?_)
 replace hs₃:Heap.SameBut TO h₂ h₃:= hs₃
 replace hTO₃:IsPair h₃ TO x b:=hTO₃
 refine wpAny_bind (wpAny_letGo (wpAny_pure ?_))
 refine wpAny_bind (wpAny_bind (wpAny_onRaise ?_))
 show wpAny _ _ (Builtin.SmallTypes.nextOf (.ref i2) >>= _) _ _ _
 refine wpAny_bind (D2.item k2 _ _ _ hk2 (D2.frame _ _ _ h2 fun b hb o e=>hs₃.extBut b o (Uk hb).2.1 (hs₂.extBut b o (Uk hb).2.2 (hs₁.extBut b o (Uk hb).1 e))) fun y h₄ tk' hPy h2₄ hs₄=>wpAny_pure ?_)
 replace hs₄:Heap.SameBut i2 h₃ h₄:= hs₄
 have hTO₄:IsPair h₄ TO x b:=hs₄.extBut _ _ D.TOi2 hTO₃
 refine wpAny_bind (wpAny_seqItems hTO₄ rfl ?_)
 refine wpAny_bind (wpAny_updateSeq_pair hTO₄ fun h₅ hTO₅ hs₅=>?_)
 replace hs₅:Heap.SameBut TO h₄ h₅:= hs₅
 replace hTO₅:IsPair h₅ TO x y:=hTO₅
 refine wpAny_bind (wpAny_letGo (wpAny_pure (wpAny_pure ?_)))
 refine wpAny_bind (wpAny_seqItems hTO₅ rfl ?_)
 refine wpAny_bind (wpAny_newTuple ?_)
 have hsz:h₅.objs.size=hp.objs.size:=by rw[hs₅.1,hs₄.1,hs₃.1,hs₂.1,hs₁.1]
 have hz₅:IsZip h₅ z TI TO .ellipsis:=hs₅.extBut _ _ D.TOz.symm (hs₄.extBut _ _ D.i2z.symm (hs₃.extBut _ _ D.TOz.symm (hs₂.extBut _ _ D.i1z.symm hz₁)))
 have hk₅:∀c o,c≠z→c≠TO→c≠i1→c≠i2→hp.get? c=some o→h₅.get? c=some o:=fun c o c1 c2 c3 c4 e=>
  hs₅.extBut _ _ c2 (hs₄.extBut _ _ c4 (hs₃.extBut _ _ c2 (hs₂.extBut _ _ c3 (hs₁.extBut _ _ c1 e))))
 have h1₅:S1 (k1+1) h₅:= D1.frame _ _ _ h1₂ fun b hb o e=>hs₅.extBut b o (Vw hb).2.1 (hs₄.extBut b o (Vw hb).2.2 (hs₃.extBut b o (Vw hb).2.1 e))
 have h2₅:S2 (k2+1) h₅:= D2.frame _ _ _ h2₄ fun b hb o e=>hs₅.extBut b o (Uk hb).2.1 e
 have hzlt:z<h₅.objs.size:=Heap.lt_size hz₅
 show wpAny _ _ (Builtin.SmallTypes.ownedTupleHandOut (.ref z) (.ref h₅.objs.size) >>= _) _ _ _
 refine wpAny_bind ?_
 unfold Builtin.SmallTypes.ownedTupleHandOut
 have hz₆:IsZip (h₅.push {cls:=.type "tuple",data:=.seq #[x,y]}) z TI TO .ellipsis:=Heap.get?_push_of_some _ hz₅
 refine wpAny_bind (wpAny_setField_rec hz₆ (by simp) fun h₇ hz₇ hs₇=>?_)
 replace hz₇:IsZip h₇ z TI TO (rawInt h₅.objs.size):=hz₇
 refine wpAny_setField_rec hz₇ (by simp) fun h₈ hz₈ hs₈=>?_
 replace hz₈:IsZip h₈ z TI TO (rawInt h₅.objs.size):=hz₈
 have up:∀c o,c≠z→h₅.get? c=some o→h₈.get? c=some o:=fun c o c1 e=>hs₈.extBut _ _ c1 (hs₇.extBut _ _ c1 (Heap.get?_push_of_some _ e))
 have hT₈:IsPair h₈ h₅.objs.size x y:=hs₈.extBut _ _ (Nat.ne_of_gt hzlt) (hs₇.extBut _ _ (Nat.ne_of_gt hzlt) (Heap.get?_push_size _ rfl))
 have hz8:h₈.objs.size=h₅.objs.size+1:=by rw[hs₈.1,hs₇.1,Heap.size_push]
 rw[hsz] at hz₈ hT₈ hz8
 refine wpAny_pure ⟨_,rfl,?_⟩
 show Q (.ref h₅.objs.size) _
 rw[hsz]
 exact hQ x y h₈ tk' hPx hPy hz₈ (up _ _ D.TOz hTO₅) (D1.frame _ _ _ h1₅ fun b hb o e=>up b o (Vw hb).1 e) (D2.frame _ _ _ h2₅ fun b hb o e=>up b o (Uk hb).1 e) hT₈ hz8 fun c o c1 c2 c3 c4 e=>up c o c1 (hk₅ c o c1 c2 c3 c4 e)
theorem qF{z TI TO i1 i2:Addr}{f1 f2:List Addr}{n1 n2 k1 k2:Nat}{P1 P2:Nat→Value→Prop}{S1 S2:Nat→Heap→Prop}{a b:Value}{Q:Fin→Shared→Prop}(D:ZAp z TI TO i1 i2 f1 f2)
 (D1:Draws prog w A i1 f1 n1 P1 S1)(D2:Draws prog w A i2 f2 n2 P2 S2)
 (hz:IsZip s.heap z TI TO .none)(hTI:IsPair s.heap TI (.ref i1) (.ref i2))(hTO:IsPair s.heap TO a b)(h1:S1 k1 s.heap)(h2:S2 k2 s.heap)(hend:k1=n1∨(k1<n1∧k2=n2))
 (hE:∀h' e tk,(∀c o,c≠z→c≠TO→c≠i1→c≠i2→s.heap.get? c=some o→h'.get? c=some o)→(∃o,h'.get? e=some o∧o.cls=.type "StopIteration")→E (.ref e) {s with heap:=h',toks:=tk}) :
 wpAny (model prog w) A (Builtin.«zip.__next__» ⟨[.ref z],[]⟩) Q E s:=by
 have Vw:∀{b},b∈f1→b≠z∧b≠TO∧b≠i2:=fun hb=>⟨fun e=>D.z1 (e▸hb),fun e=>D.t1 (e▸hb),fun e=>D.a2 (e▸hb)⟩
 have Uk:∀{b},b∈f2→b≠z∧b≠TO∧b≠i1:=fun hb=>⟨fun e=>D.z2 (e▸hb),fun e=>D.t2 (e▸hb),fun e=>D.a1 (e▸hb)⟩
 obtain⟨hp,g,d,tk0,os⟩:=s
 show wpAny _ _ (field (.ref z) 2 >>= _) _ _ _
 refine wpAny_bind (wpAny_field hz rfl (x:=.bool false) rfl ?_)
 show wpAny _ _ (field (.ref z) 3 >>= _) _ _ _
 refine wpAny_bind (wpAny_field hz rfl (x:=.ref TI) rfl ?_)
 refine wpAny_bind (wpAny_seqItems hTI rfl ?_)
 show wpAny _ _ (Builtin.SmallTypes.ownedTupleIsFree (.ref z) >>= _) _ _ _
 refine wpAny_bind ?_
 unfold Builtin.SmallTypes.ownedTupleIsFree
 refine wpAny_bind (wpAny_field hz rfl (x:=.none) rfl (wpAny_pure ?_))
 simp only[if_true]
 refine wpAny_bind (wpAny_rule ?_)
 refine wpAny_bind (wpAny_field hz rfl (x:=.ref TO) rfl ?_)
 refine wpAny_bind (wpAny_setField_rec hz (by simp) fun h₁ hz₁ hs₁=>?_)
 replace hs₁:Heap.SameBut z hp h₁:= hs₁
 replace hz₁:IsZip h₁ z TI TO .ellipsis:=hz₁
 refine wpAny_bind ?_
 simp only[List.zipIdx_cons,List.zipIdx_nil,List.forIn_cons,List.forIn_nil]
 refine wpAny_bind (wpAny_bind (wpAny_onRaise ?_))
 show wpAny _ _ (Builtin.SmallTypes.nextOf (.ref i1) >>= _) _ _ _
 rcases hend with rfl|⟨hk1,rfl⟩
 ·refine wpAny_bind (D1.done _ _ _ (D1.frame _ _ _ h1 fun b hb o e=>hs₁.extBut b o (Vw hb).1 e) fun h₂ e hs₂ he=>?_)
  obtain⟨oe,hoe,hce⟩:=he
  replace hs₂:Heap.ExtBut i1 h₁ h₂:= hs₂
  have hz₂:IsZip h₂ z TI TO .ellipsis:=hs₂ _ _ D.i1z.symm hz₁
  have hez:e≠z:=fun x=>by subst x;rw[hz₂] at hoe;cases hoe;simp at hce
  exact wpAny_setField_rec hz₂ (by simp) fun h₃ _ hs₃=>hE h₃ e tk0 (fun c o c1 _ c3 _ x=>hs₃.extBut _ _ c1 (hs₂ _ _ c3 (hs₁.extBut _ _ c1 x))) ⟨oe,hs₃.extBut _ _ hez hoe,hce⟩
 ·refine wpAny_bind (D1.item k1 _ _ _ hk1 (D1.frame _ _ _ h1 fun b hb o e=>hs₁.extBut b o (Vw hb).1 e) fun x h₂ tk hPx h1₂ hs₂=>wpAny_pure ?_)
  replace hs₂:Heap.SameBut i1 h₁ h₂:= hs₂
  have hTO₂:IsPair h₂ TO a b:=hs₂.extBut _ _ D.TOi1 (hs₁.extBut _ _ D.TOz hTO)
  refine wpAny_bind (wpAny_seqItems hTO₂ rfl ?_)
  refine wpAny_bind (wpAny_updateSeq_pair hTO₂ fun h₃ hTO₃ hs₃=>?_)
  replace hs₃:Heap.SameBut TO h₂ h₃:= hs₃
  refine wpAny_bind (wpAny_letGo (wpAny_pure ?_))
  refine wpAny_bind (wpAny_bind (wpAny_onRaise ?_))
  show wpAny _ _ (Builtin.SmallTypes.nextOf (.ref i2) >>= _) _ _ _
  refine wpAny_bind (D2.done _ _ _ (D2.frame _ _ _ h2 fun b hb o e=>hs₃.extBut b o (Uk hb).2.1 (hs₂.extBut b o (Uk hb).2.2 (hs₁.extBut b o (Uk hb).1 e))) fun h₄ e hs₄ he=>?_)
  obtain⟨oe,hoe,hce⟩:=he
  replace hs₄:Heap.ExtBut i2 h₃ h₄:= hs₄
  have hz₄:IsZip h₄ z TI TO .ellipsis:=hs₄ _ _ D.i2z.symm (hs₃.extBut _ _ D.TOz.symm (hs₂.extBut _ _ D.i1z.symm hz₁))
  have hez:e≠z:=fun x=>by subst x;rw[hz₄] at hoe;cases hoe;simp at hce
  exact wpAny_setField_rec hz₄ (by simp) fun h₅ _ hs₅=>hE h₅ e tk (fun c o c1 c2 c3 c4 x=>hs₅.extBut _ _ c1 (hs₄ _ _ c4 (hs₃.extBut _ _ c2 (hs₂.extBut _ _ c3 (hs₁.extBut _ _ c1 x))))) ⟨oe,hs₅.extBut _ _ hez hoe,hce⟩
end
section
variable{prog:Program}{w:World}{A:Around}{E:Value→Shared→Prop}{s:Shared}
theorem kZ{z TI TO i1 i2:Addr}{f1 f2:List Addr}{n1 n2 k1 k2:Nat}{P1 P2:Nat→Value→Prop}{S1 S2:Nat→Heap→Prop}{a b:Value}{Q:Option Value→Shared→Prop}(D:ZAp z TI TO i1 i2 f1 f2)
 (D1:Draws prog w A.in1 i1 f1 n1 P1 S1)(D2:Draws prog w A.in1 i2 f2 n2 P2 S2)
 (hz:IsZip s.heap z TI TO .none)(hTI:IsPair s.heap TI (.ref i1) (.ref i2))(hTO:IsPair s.heap TO a b)(h1:S1 k1 s.heap)(h2:S2 k2 s.heap)(hk1:k1<n1)(hk2:k2<n2)
 (hQ:∀x y h' tk,P1 k1 x→P2 k2 y→IsZip h' z TI TO (rawInt s.heap.objs.size)→IsPair h' TO x y→S1 (k1+1) h'→S2 (k2+1) h'→IsPair h' s.heap.objs.size x y→h'.objs.size=s.heap.objs.size+1→
   (∀c o,c≠z→c≠TO→c≠i1→c≠i2→s.heap.get? c=some o→h'.get? c=some o)→Q (some (.ref s.heap.objs.size)) {s with heap:=h',toks:=tk}) :
 wpAny (model prog w) A (pyNext (.ref z)) Q E s:=by
 have hT:s.TypeIs (.ref z) "zip" := ⟨_,hz,rfl⟩
 unfold pyNext
 exact wpAny_bind (wpAny_attempt (wpAny_callSpecial?_slot (name:=Str.ofString "__next__") hT F.slot_zip_next
  (wpAny_call_entry F.slot_zip_next hT F.entry_zip_next
    (oY D D1 D2 hz hTI hTO h1 h2 hk1 hk2 fun x y h' tk a0 b0 a1 a2 a3 a4 a5 a6 a7=>wpAny_pure (hQ x y h' tk a0 b0 a1 a2 a3 a4 a5 a6 a7)) (F.args_zip_next_1 _))))
theorem mY{z TI TO i1 i2:Addr}{f1 f2:List Addr}{n1 n2 k1 k2:Nat}{P1 P2:Nat→Value→Prop}{S1 S2:Nat→Heap→Prop}{a b:Value}{Q:Option Value→Shared→Prop}(D:ZAp z TI TO i1 i2 f1 f2)
 (D1:Draws prog w A.in1 i1 f1 n1 P1 S1)(D2:Draws prog w A.in1 i2 f2 n2 P2 S2)
 (hz:IsZip s.heap z TI TO .none)(hTI:IsPair s.heap TI (.ref i1) (.ref i2))(hTO:IsPair s.heap TO a b)(h1:S1 k1 s.heap)(h2:S2 k2 s.heap)(hend:k1=n1∨(k1<n1∧k2=n2))
 (hQ:∀h' tk,(∀c o,c≠z→c≠TO→c≠i1→c≠i2→s.heap.get? c=some o→h'.get? c=some o)→Q none {s with heap:=h',toks:=tk}):wpAny (model prog w) A (pyNext (.ref z)) Q E s:=by
 have hT:s.TypeIs (.ref z) "zip" := ⟨_,hz,rfl⟩
 unfold pyNext
 refine wpAny_bind (wpAny_attempt (wpAny_callSpecial?_slot (name:=Str.ofString "__next__") hT F.slot_zip_next
  (wpAny_call_entry F.slot_zip_next hT F.entry_zip_next (qF D D1 D2 hz hTI hTO h1 h2 hend fun h' e tk hk he=>?_) (F.args_zip_next_1 _))))
 obtain⟨o,ho,hc⟩:=he
 refine wpAny_bind (wpAny_isInstance (T:= "StopIteration") (b:=true) ⟨o,ho,hc⟩ isSubtype_stop ?_)
 exact wpAny_pure (hQ _ _ hk)
end
def ql(K:PySem.W.Frag)(b:Bool)(H:Hp)(a:Addr)(xs:List V):Prop:=if b=true then dD K H a xs else aJ K H a xs
def fH(b:Bool)(h:Heap)(it l:Addr)(i:Nat):Prop:=if b=true then h.IsTupleIter it l i else h.IsListIter it l i
def Gd(b:Bool)(h:Heap)(l:Addr)(its:Array Value):Prop:=if b=true then h.IsTuple l its else h.IsList l its
def nmB(b:Bool):String:=if b=true then "tuple_iterator" else "list_iterator"
theorem nJ{prog:Program}{w:World}{A:Around}(b:Bool)(hh:A.handled=none)(it l:Addr)(hne:l≠it)(items:Array Value) :
 Draws prog w A it [it,l] items.size (fun i v=>items[i]?=some v) (fun i h=>fH b h it l i∧Gd b h l items):=by
 cases b with
 |true=>exact xV hh it l hne items
 |false=>exact Draws.list hh it l hne items
theorem fH.ex{b:Bool}{h:Heap}{it l:Addr}{i:Nat}(x:fH b h it l i):∃o,h.get? it=some o∧o.cls=.type (nmB b)∧o.data=.fields #[.ref l,.int i 0]:=by
 cases b with
 |true=>exact x
 |false=>exact x
theorem fH.of{b:Bool}{h:Heap}{it l:Addr}{i:Nat}{o:Obj}(h1:h.get? it=some o)(h2:o.cls=.type (nmB b))(h3:o.data=.fields #[.ref l,.int i 0]):fH b h it l i:=by
 cases b with
 |true=>exact⟨o,h1,h2,h3⟩
 |false=>exact⟨o,h1,h2,h3⟩
theorem fH.keep{b:Bool}{h h':Heap}{it l:Addr}{i:Nat}(x:fH b h it l i)(k:∀o,h.get? it=some o→h'.get? it=some o):fH b h' it l i:=by
 obtain⟨o,h1,h2,h3⟩:=x.ex
 exact .of (k o h1) h2 h3
def Ul(K:PySem.W.Frag)(b:Bool)(H:Hp)(l:Addr)(i:Nat)(xs:List V):Prop:=xs.length≤i∧∀j,j<i→∃ys y,ql K b H l ys∧ys[j]?=some y
def Itz(K:PySem.W.Frag)(b1 b2:Bool)(l1 l2:Addr):It:=
 ⟨fun i H=>(∃xs x,ql K b1 H l1 xs∧xs[i]?=some x)∧∃ys y,ql K b2 H l2 ys∧ys[i]?=some y,
  fun i H z H'=>∃x y T,(∀xs,ql K b1 H l1 xs→xs[i]?=some x)∧(∀ys,ql K b2 H l2 ys→ys[i]?=some y)∧H T=none∧z=.ref T∧H'=upd H T (.tup [x,y]),
  fun i H=>(∃xs,ql K b1 H l1 xs)∧(∃ys,ql K b2 H l2 ys)∧((∃xs,ql K b1 H l1 xs∧Ul K b1 H l1 i xs)∨((∃xs x,ql K b1 H l1 xs∧xs[i]?=some x)∧∃ys,ql K b2 H l2 ys∧Ul K b2 H l2 i ys))⟩
section
variable{X:Cx}{pins:List (č)}{σ:L2.St}{H:Hp}{s:Shared}
theorem rJ{b:Bool}{a:Addr}{xs:List V}(I:Inv X pins σ H s)(h:ql X.K b H a xs):∃its:List Value,Vals xs its∧Gd b s.heap a its.toArray∧xs.length≤sizeLine:=by
 cases b with
 |true=>
  obtain⟨its,r,p,z⟩:=I.tuple h
  exact⟨its,r,p,z⟩
 |false=>
  obtain⟨its,r,p,z⟩:=I.list h
  exact⟨its,r,p.isList,z⟩
theorem rK{b:Bool}{a:Addr}{xs ys:List V}(I:Inv X pins σ H s)(h:ql X.K b H a xs)(h':ql X.K b H a ys):xs=ys:=by
 cases b with
 |true=>exact I.qL h h'
 |false=>exact I.nQ h h'
theorem Vx{b:Bool}{l:Addr}{i:Nat}{xs:List V}(I:Inv X pins σ H s)(h:ql X.K b H l xs)(q:Ul X.K b H l i xs):xs.length=i:=by
 obtain⟨h1,h2⟩:=q
 refine Nat.le_antisymm h1 ?_
 cases i with
 |zero=>omega
 |succ i=>
  obtain⟨ys,y,e1,e2⟩:=h2 i (by omega)
  rw[rK I e1 h] at e2
  have:=(List.getElem?_eq_some_iff.mp e2).1
  omega
theorem Ep{bb:Bool}{a b:Addr}{xs:List V}(I:Inv X pins σ H s)(f:fX X pins H b)(h:ql X.K bb H a xs):a≠b:=by
 intro e
 subst e
 have hk:∀o,X.K.lookup a=some o→False:=fun o e=>by
  have hb:=I.ok.mod.kin a o e
  rcases f.2.2.2.1 with z|z
  ·exact I.ok.E_ a o hb z
  ·exact absurd (Nat.lt_of_lt_of_le (Heap.lt_size (I.ok.bs a o hb).1) z) (Nat.lt_irrefl _)
 have hr:∀u,Rd H a u→False:=fun u r=>by
  rcases r with r|⟨o,r⟩<;>(rw[f.1] at r;cases r)
 cases bb with
 |true=>
  have h':dD X.K H a xs:=h
  rcases h' with q|⟨o,_,_,q,_⟩
  ·exact hr _ q
  ·exact hk o q
 |false=>
  have h':aJ X.K H a xs:=h
  rcases h' with q|⟨o,_,_,q,_⟩
  ·exact hr _ q
  ·exact hk o q
end
theorem Jy{P:Program}{w:World}{K:PySem.W.Frag}{elts:List Expr}{k:Nat}{pos:Pos}(b1 b2:Bool)(l1 l2 z TI TO i1 i2:Addr)(nd:[z,TI,TO,i1,i2].Nodup) :
 Turn P w K (.Tuple elts k pos) (Itz K b1 b2 l1 l2) [z,TI,TO,i1,i2] z (fun i h=>IsZip h z TI TO .none∧IsPair h TI (.ref i1) (.ref i2)∧(∃a b,IsPair h TO a b)∧fH b1 h i1 l1 i∧fH b2 h i2 l2 i) where
 mem:=by simp
 obj:=fun i h st b hb=>by
  obtain⟨hz,hTI,⟨x,y,hTO⟩,h1,h2⟩:=st
  simp only[List.mem_cons,List.not_mem_nil,or_false] at hb
  rcases hb with rfl|rfl|rfl|rfl|rfl
  ·exact⟨_,hz,fun v z=>by have z':Data.fields _=Data.cell v:=z;cases z'⟩
  ·exact⟨_,hTI,fun v z=>by have z':Data.seq _ _=Data.cell v:=z;cases z'⟩
  ·exact⟨_,hTO,fun v z=>by have z':Data.seq _ _=Data.cell v:=z;cases z'⟩
  ·obtain⟨o,e1,c,d⟩:=h1.ex
   exact⟨o,e1,fun v z=>by rw[d] at z;cases z⟩
  ·obtain⟨o,e1,c,d⟩:=h2.ex
   exact⟨o,e1,fun v z=>by rw[d] at z;cases z⟩
 keep:=fun i h h' st k=>by
  obtain⟨hz,hTI,⟨x,y,hTO⟩,h1,h2⟩:=st
  exact⟨k z (by simp) _ hz,k TI (by simp) _ hTI,⟨x,y,k TO (by simp) _ hTO⟩,h1.keep fun o q=>k i1 (by simp) o q,h2.keep fun o q=>k i2 (by simp) o q⟩
 item:=by
  intro X hP hw hK hc i pins s σ H E I hf st hg
  subst hP hw hK
  obtain⟨hz,hTI,⟨a,b,hTO⟩,h1,h2⟩:=st
  obtain⟨⟨xs,x,hq1,hx⟩,ys,y,hq2,hy⟩:=hg
  obtain⟨Bo,rv1,p1,_⟩:=rJ I hq1
  obtain⟨its2,rv2,p2,_⟩:=rJ I hq2
  obtain⟨u1,hu1,ru1⟩:=rv1.get hx
  obtain⟨u2,hu2,ru2⟩:=rv2.get hy
  have ne1:∀b∈[z,TI,TO,i1,i2],l1≠b:=fun b hb=>Ep I (hf b hb) hq1
  have ne2:∀b∈[z,TI,TO,i1,i2],l2≠b:=fun b hb=>Ep I (hf b hb) hq2
  have hh:X.A.in1.handled=none:=I.ok.hd hc
  simp only[List.nodup_cons,List.mem_cons,List.not_mem_nil,or_false,not_or,List.nodup_nil,not_false_eq_true,and_true] at nd
  obtain⟨⟨n1,n2,n3,n4⟩,⟨n5,n6,n7⟩,⟨n8,n9⟩,n10⟩:=nd
  have D:ZAp z TI TO i1 i2 [i1,l1] [i2,l2]:=by
   refine⟨Ne.symm n1,Ne.symm n2,Ne.symm n3,Ne.symm n4,n5,n6,n7,n8,n9,n10,?_,?_,?_,?_,?_,?_⟩<;>simp only[List.mem_cons,List.not_mem_nil,or_false,not_or]
   ·exact⟨n3,(ne1 z (by simp)).symm⟩
   ·exact⟨n4,(ne2 z (by simp)).symm⟩
   ·exact⟨n8,(ne1 TO (by simp)).symm⟩
   ·exact⟨n9,(ne2 TO (by simp)).symm⟩
   ·exact⟨n10,(ne2 i1 (by simp)).symm⟩
   ·exact⟨Ne.symm n10,(ne1 i2 (by simp)).symm⟩
  have lt1:i<Bo.toArray.size:=by
   rw[List.size_toArray]
   exact(List.getElem?_eq_some_iff.mp hu1).1
  have HN:i<its2.toArray.size:=by
   rw[List.size_toArray]
   exact(List.getElem?_eq_some_iff.mp hu2).1
  have hlt:∀b∈[z,TI,TO,i1,i2],b<s.heap.objs.size:=fun b hb=>by
   simp only[List.mem_cons,List.not_mem_nil,or_false] at hb
   rcases hb with rfl|rfl|rfl|rfl|rfl
   ·exact Heap.lt_size hz
   ·exact Heap.lt_size hTI
   ·exact Heap.lt_size hTO
   ·obtain⟨o,e1,_⟩:=h1.ex;exact Heap.lt_size e1
   ·obtain⟨o,e1,_⟩:=h2.ex;exact Heap.lt_size e1
  refine kZ D (nJ (A:=X.A.in1) b1 hh i1 l1 (ne1 i1 (by simp)) Bo.toArray) (nJ (A:=X.A.in1) b2 hh i2 l2 (ne2 i2 (by simp)) its2.toArray) hz hTI hTO ⟨h1,p1⟩ ⟨h2,p2⟩ lt1 HN fun x' y' h' tk hPx hPy hz' Zmb s1 s2 hT hsz hk=>?_
  have ex:x'=u1:=by
   have:Bo.toArray[i]?=some x':=hPx
   rw[show Bo.toArray[i]?=some u1 by simpa using hu1] at this
   exact(Option.some.inj this).symm
  have ey:y'=u2:=by
   have:its2.toArray[i]?=some y':=hPy
   rw[show its2.toArray[i]?=some u2 by simpa using hu2] at this
   exact(Option.some.inj this).symm
  subst ex ey
  refine⟨.ref s.heap.objs.size,rfl,wpAny_letOwnedTupleGo_zip hz' fun h'' hz'' hs'=>?_⟩
  have hs2:Heap.SameBut z h' h'':=hs'
  have I2:=oW (fp:=[z,TI,TO,i1,i2]) (h':=h'') (t':=tk) I ru1 ru2 ⟨_,(hs2.2 _ (Nat.ne_of_gt (hlt z (by simp)))).trans hT,rfl⟩ (fun b o hb q=>by
   have hne:∀c∈[z,TI,TO,i1,i2],b≠c:=fun c hc e=>hb (e▸hc)
   exact(hs2.2 b (hne z (by simp))).trans (hk b o (hne z (by simp)) (hne TO (by simp)) (hne i1 (by simp)) (hne i2 (by simp)) q)) hf hlt
  refine⟨.ref s.heap.objs.size,_,I2,rfl,⟨x,y,s.heap.objs.size,fun zs hzs=>by rw[rK I hzs hq1];exact hx,fun zs hzs=>by rw[rK I hzs hq2];exact hy,I.fresh,rfl,rfl⟩,
   ⟨hz'',(hs2.2 TI (Ne.symm n1)).trans (hk TI _ (Ne.symm n1) n5 n6 n7 hTI),⟨_,_,(hs2.2 TO (Ne.symm n2)).trans Zmb⟩,s1.1.keep fun o q=>(hs2.2 i1 (Ne.symm n3)).trans q,s2.1.keep fun o q=>(hs2.2 i2 (Ne.symm n4)).trans q⟩,fun b hb=>?_⟩
  rw[Ġ (Nat.ne_of_lt (hlt b hb))];exact(hf b hb).1
 done:=by
  intro X hP hw hK hc i pins s σ H E I hf st hg
  subst hP hw hK
  obtain⟨hz,hTI,⟨a,b,hTO⟩,h1,h2⟩:=st
  obtain⟨⟨xs,hq1⟩,⟨ys,hq2⟩,hend'⟩:=hg
  have hend:xs.length=i∨(i<xs.length∧ys.length=i):=by
   rcases hend' with⟨xs',q1,q2⟩|⟨⟨xs',x,q1,q2⟩,ys',q3,q4⟩
   ·left;rw[rK I hq1 q1];exact Vx I q1 q2
   ·right
    rw[rK I hq1 q1,rK I hq2 q3]
    exact⟨(List.getElem?_eq_some_iff.mp q2).1,Vx I q3 q4⟩
  obtain⟨Bo,rv1,p1,_⟩:=rJ I hq1
  obtain⟨its2,rv2,p2,_⟩:=rJ I hq2
  have hl1:=rv1.length
  have hl2:=rv2.length
  have ne1:∀b∈[z,TI,TO,i1,i2],l1≠b:=fun b hb=>Ep I (hf b hb) hq1
  have ne2:∀b∈[z,TI,TO,i1,i2],l2≠b:=fun b hb=>Ep I (hf b hb) hq2
  have hh:X.A.in1.handled=none:=I.ok.hd hc
  simp only[List.nodup_cons,List.mem_cons,List.not_mem_nil,or_false,not_or,List.nodup_nil,not_false_eq_true,and_true] at nd
  obtain⟨⟨n1,n2,n3,n4⟩,⟨n5,n6,n7⟩,⟨n8,n9⟩,n10⟩:=nd
  have D:ZAp z TI TO i1 i2 [i1,l1] [i2,l2]:=by
   refine⟨Ne.symm n1,Ne.symm n2,Ne.symm n3,Ne.symm n4,n5,n6,n7,n8,n9,n10,?_,?_,?_,?_,?_,?_⟩<;>simp only[List.mem_cons,List.not_mem_nil,or_false,not_or]
   ·exact⟨n3,(ne1 z (by simp)).symm⟩
   ·exact⟨n4,(ne2 z (by simp)).symm⟩
   ·exact⟨n8,(ne1 TO (by simp)).symm⟩
   ·exact⟨n9,(ne2 TO (by simp)).symm⟩
   ·exact⟨n10,(ne2 i1 (by simp)).symm⟩
   ·exact⟨Ne.symm n10,(ne1 i2 (by simp)).symm⟩
  refine mY D (nJ (A:=X.A.in1) b1 hh i1 l1 (ne1 i1 (by simp)) Bo.toArray) (nJ (A:=X.A.in1) b2 hh i2 l2 (ne2 i2 (by simp)) its2.toArray) hz hTI hTO ⟨h1,p1⟩ ⟨h2,p2⟩ ?_ fun h' tk hk=>⟨rfl,turns (fp:=[z,TI,TO,i1,i2]) (t':=tk) I (fun b o hb q=>?_) hf⟩
  ·rw[List.size_toArray,List.size_toArray]
   omega
  ·have hne:∀c∈[z,TI,TO,i1,i2],b≠c:=fun c hc e=>hb (e▸hc)
   exact hk b o (hne z (by simp)) (hne TO (by simp)) (hne i1 (by simp)) (hne i2 (by simp)) q
 self:=fun _ _ _ _ _ st h=>wpAny_pyIter_zip st.1 h
section
abbrev zB1(b:Bool)(h:Heap)(l1:Addr):Heap:=h.push {cls:=.type (nmB b),data:=.fields #[.ref l1,.int 0 0]}
abbrev zB2(b b':Bool)(h:Heap)(l1 l2:Addr):Heap:=(zB1 b h l1).push {cls:=.type (nmB b'),data:=.fields #[.ref l2,.int 0 0]}
abbrev zB3(b b':Bool)(h:Heap)(l1 l2:Addr):Heap:=(zB2 b b' h l1 l2).push {cls:=.type "tuple",data:=.seq #[.ref h.objs.size,.ref (zB1 b h l1).objs.size]}
abbrev zB4(b b':Bool)(h:Heap)(l1 l2:Addr):Heap:=(zB3 b b' h l1 l2).push {cls:=.type "tuple",data:=.seq #[.none,.none]}
abbrev zB5(b b':Bool)(h:Heap)(l1 l2:Addr):Heap:=(zB4 b b' h l1 l2).push {cls:=.type "zip",data:=.fields #[.none,.bool false,.bool false,.ref (zB2 b b' h l1 l2).objs.size,.ref (zB3 b b' h l1 l2).objs.size]}
theorem xW{prog:Program}{w:World}{A:Around}{E:Value→Shared→Prop}{s:Shared}{b:Bool}{l:Addr}{its:Array Value}{Q:Value→Shared→Prop}(hl:Gd b s.heap l its)
 (hQ:Q (.ref s.heap.objs.size) {s with heap:=s.heap.push {cls:=.type (nmB b),data:=.fields #[.ref l,.int 0 0]}}):wpAny (model prog w) A (pyIter (.ref l)) Q E s:=by
 cases b with
 |true=>exact wpAny_pyIter_tuple hl hQ
 |false=>exact wpAny_pyIter_list hl hQ
theorem Gd.push{b:Bool}{h:Heap}{l:Addr}{its:Array Value}(x:Gd b h l its)(o:Obj):Gd b (h.push o) l its:=by
 cases b with
 |true=>exact Heap.IsTuple.push x o
 |false=>exact Heap.IsList.push x o
theorem xX(b b':Bool)(l1 l2:Addr)(xs ys:Array Value) :
 Meets (Builtin.«zip.__new__» ⟨[.type "zip",.ref l1,.ref l2],[]⟩) (fun _ R s=>Gd b s.heap l1 xs∧Gd b' s.heap l2 ys∧
  R (.ok (.ret (.ref (zB4 b b' s.heap l1 l2).objs.size))) {s with heap:=zB5 b b' s.heap l1 l2}):=
 .of_wp fun prog w A R s h=>by
   obtain⟨hp,g,d,tk,os⟩:=s;obtain⟨hl1,hl2,h⟩:=h
   have hsub:=sub_zip
   have hL1:Gd b (Shared.heap ⟨hp,g,d,tk,os⟩) l1 xs:=hl1
   have hL2:Gd b' (Shared.heap ⟨hp.push {cls:=.type (nmB b),data:=.fields #[.ref l1,.int 0 0]},g,d,tk,os⟩) l2 ys:=Gd.push hl2 _
   wp_walk using xW hL1,xW hL2
   exact⟨_,rfl,h⟩
variable{prog:Program}{w:World}{A:Around}{E:Value→Shared→Prop}{s:Shared}
theorem Bp{b b':Bool}{l1 l2:Addr}{xs ys:Array Value}{Q:Value→Shared→Prop}(hl1:Gd b s.heap l1 xs)(hl2:Gd b' s.heap l2 ys)
 (h:∀h',IsZip h' (s.heap.objs.size+4) (s.heap.objs.size+2) (s.heap.objs.size+3) .none→IsPair h' (s.heap.objs.size+2) (.ref s.heap.objs.size) (.ref (s.heap.objs.size+1))→
   IsPair h' (s.heap.objs.size+3) .none .none→fH b h' s.heap.objs.size l1 0→fH b' h' (s.heap.objs.size+1) l2 0→h'.objs.size=s.heap.objs.size+5→
   (∀c o,s.heap.get? c=some o→h'.get? c=some o)→Q (.ref (s.heap.objs.size+4)) {s with heap:=h'}) :
 wpAny (model prog w) A (call (.type "zip") [.ref l1,.ref l2]) Q E s:=by
 refine callType_new F.called_zip (by decide) (F.typeCall_zip_2 _ _) (F.newCall_zip_2 _ _) (fun obj=>F.args_object_init_3 obj _ _) F.entry_zip_new
  (xX b b' l1 l2 xs ys) ⟨hl1,hl2,?_⟩
 have z1:(zB1 b s.heap l1).objs.size=s.heap.objs.size+1:=Heap.size_push ..
 have z2:(zB2 b b' s.heap l1 l2).objs.size=s.heap.objs.size+2:=by rw[Heap.size_push,z1]
 have z3:(zB3 b b' s.heap l1 l2).objs.size=s.heap.objs.size+3:=by rw[Heap.size_push,z2]
 have z4:(zB4 b b' s.heap l1 l2).objs.size=s.heap.objs.size+4:=by rw[Heap.size_push,z3]
 have z5:(zB5 b b' s.heap l1 l2).objs.size=s.heap.objs.size+5:=by rw[Heap.size_push,z4]
 have g5:(zB5 b b' s.heap l1 l2).get? (zB4 b b' s.heap l1 l2).objs.size=some _:=Heap.get?_push_size _ rfl
 have g4:(zB5 b b' s.heap l1 l2).get? (zB3 b b' s.heap l1 l2).objs.size=some _:=Heap.get?_push_of_some _ (Heap.get?_push_size _ rfl)
 have g3:(zB5 b b' s.heap l1 l2).get? (zB2 b b' s.heap l1 l2).objs.size=some _:=Heap.get?_push_of_some _ (Heap.get?_push_of_some _ (Heap.get?_push_size _ rfl))
 have g2:(zB5 b b' s.heap l1 l2).get? (zB1 b s.heap l1).objs.size=some _:=Heap.get?_push_of_some _ (Heap.get?_push_of_some _ (Heap.get?_push_of_some _ (Heap.get?_push_size _ rfl)))
 have g1:(zB5 b b' s.heap l1 l2).get? s.heap.objs.size=some _:=Heap.get?_push_of_some _ (Heap.get?_push_of_some _ (Heap.get?_push_of_some _ (Heap.get?_push_of_some _ (Heap.get?_push_size _ rfl))))
 show _∧_
 rw[z2,z3,z4] at g5
 rw[z1,z2] at g3
 rw[z3] at g4
 rw[z1] at g2
 rw[z4]
 exact⟨⟨_,g5,rfl⟩,h _ g5 g3 g4 (.of g1 rfl rfl) (.of g2 rfl rfl) z5 fun c o x=>
  Heap.get?_push_of_some _ (Heap.get?_push_of_some _ (Heap.get?_push_of_some _ (Heap.get?_push_of_some _ (Heap.get?_push_of_some _ x))))⟩
end
section
variable{X:Cx}{elts:List Expr}{k:Nat}{tp:Pos}
def Zmc(K:PySem.W.Frag)(ta:TA):TI:=fun σ H R=>ta σ H fun vs H1=>∃b1 b2 l1 l2,vs=[.ref l1,.ref l2]∧(∃xs,ql K b1 H1 l1 xs)∧(∃xs,ql K b2 H1 l2 xs)∧R (Itz K b1 b2 l1 l2) H1
theorem Zar{e1 e2:Expr}{ta:TA}{p pos:Pos}(hg:Gl X "zip")(hm:X.mg "zip" =none)(ha:PA X [e1,e2] ta)(hs:starEach [e1,e2] X.env=[(false,eval e1 X.env),(false,eval e2 X.env)]:=by exact HY rfl rfl)(hs2:starEach [e2] X.env=[(false,eval e2 X.env)]:=by exact ı rfl) :
 PI X (.Tuple elts k tp) (.Call (.Name "zip" p) [e1,e2] [] pos) (Zmc X.K ta):=by
 intro pins s σ H R I h
 refine Call_ (jW I hg hm boot_zip (PyProof.Rows.callWith_type1 (Ŧ (ha pos pins s σ H _ I h) fun us s1 ⟨vs,H1,I1,r1,q1⟩=>?_) (by rw[hs,hs2]) (by rw[hs2];rfl)))
 obtain⟨b1,b2,l1,l2,e,⟨xs,hq1⟩,⟨ys,hq2⟩,q⟩:=q1
 subst e
 obtain⟨u1,u2,rfl,ru1,ru2⟩:=vals2 r1
 cases ru1
 cases ru2
 obtain⟨Bo,rv1,p1,_⟩:=rJ I1 hq1
 obtain⟨its2,rv2,p2,_⟩:=rJ I1 hq2
 refine Bp p1 p2 fun h' hz hTI hTO h1 h2 hsz hk=>?_
 have I2:Inv X pins σ H1 {s1 with heap:=h'}:=I1.kept (t':=s1.toks) hk
 refine wpAny_pyIter_zip (s:={s1 with heap:=h'}) hz ⟨s1.heap.objs.size+4,[s1.heap.objs.size+4,s1.heap.objs.size+2,s1.heap.objs.size+3,s1.heap.objs.size,s1.heap.objs.size+1],_,_,H1,rfl,I2,Jy b1 b2 l1 l2 _ _ _ _ _ (by simp),⟨hz,hTI,⟨_,_,hTO⟩,h1,h2⟩,fun b hb=>?_,q⟩
 have hb':s1.heap.objs.size≤b:=by
  simp only[List.mem_cons,List.not_mem_nil,or_false] at hb
  rcases hb with rfl|rfl|rfl|rfl|rfl<;>omega
 exact I1.Fb hb' (I1.hok.fresh hb')
end
def jH:List PV→List PV→List PV
 |p::ps,q::qs=>.tup [p,q]::jH ps qs
 |_,_=>[]
theorem xY:∀(ps qs:List PV) (i:Nat) (r:PV),(jH ps qs)[i]?=some r→∃p q,ps[i]?=some p∧qs[i]?=some q∧r=.tup [p,q]
 | [],_,_,_,h=>by simp[jH] at h
 |_::_,[],_,_,h=>by simp[jH] at h
 |p::ps,q::qs,0,r,h=>by
  have h':some (PV.tup [p,q])=some r:=h
  cases h'
  exact⟨p,q,rfl,rfl,rfl⟩
 |p::ps,q::qs,i+1,r,h=>xY ps qs i r h
theorem xZ:∀(ps qs:List PV),(jH ps qs).length=min ps.length qs.length
 | [],_=>by simp[jH]
 |_::_,[]=>by simp[jH]
 |_::ps,_::qs=>by
  show(jH ps qs).length+1=_
  rw[xZ ps qs,List.length_cons,List.length_cons]
  omega
def Ge(m1 m2:M (List PV)):M (List PV):=fun ρ=>(m1 ρ).bind fun ps ρ1=>(m2 ρ1).bind fun qs ρ2=>.ok (jH ps qs) ρ2
def Itb(K:PySem.W.Frag)(b:Bool)(a:Addr):It:=if b=true then Itt K a else Yb K a
theorem oZ{K:KK}{L F:Hp}{b:Bool}{a:Addr}{ps:List PV}(h:fO K L F (Itb K.K b a) ps){c:Ctx}{F2 H:Hp}{σ:L2.St}{ρ:ŏ}(rel:Rel K c F2 H σ ρ)(sF:Same F F2)(sL:Same L H)(i:Nat)(p:PV)(hp:ps[i]?=some p) :
 (∃xs x,ql K.K b H a xs∧xs[i]?=some x)∧∀x,(∀xs,ql K.K b H a xs→xs[i]?=some x)→∃F3,Rel K c F3 H σ ρ∧Same F2 F3∧Rep K F3 p x:=by
 obtain⟨g,_⟩:=h c i F2 H σ ρ rel sF sL
 obtain⟨g1,g2⟩:=g p hp
 cases b with
 |true=>exact⟨g1,fun x hx=>let ⟨F3,r3,s3,_,rp⟩:=g2 x H ⟨rfl,hx⟩;⟨F3,r3,s3,rp⟩⟩
 |false=>exact⟨g1,fun x hx=>let ⟨F3,r3,s3,_,rp⟩:=g2 x H ⟨rfl,hx⟩;⟨F3,r3,s3,rp⟩⟩
theorem uQ{K:KK}{L F:Hp}{b:Bool}{a:Addr}{ps:List PV}(h:fO K L F (Itb K.K b a) ps){c:Ctx}{F2 H:Hp}{σ:L2.St}{ρ:ŏ}(rel:Rel K c F2 H σ ρ)(sF:Same F F2)(sL:Same L H) :
 ∃xs,ql K.K b H a xs∧Ul K.K b H a ps.length xs:=by
 obtain⟨_,st⟩:=h c ps.length F2 H σ ρ rel sF sL
 have st':∃xs,ql K.K b H a xs∧xs.length≤ps.length:=by
  cases b with
  |true=>exact st rfl
  |false=>exact st rfl
 obtain⟨xs,h1,h2⟩:=st'
 exact⟨xs,h1,h2,fun j hj=>(oZ h rel sF sL j _ (List.getElem?_eq_getElem hj)).1⟩
theorem Jz{K:KK}{L F:Hp}{b1 b2:Bool}{a1 a2:Addr}{ps qs:List PV}(h1:fO K L F (Itb K.K b1 a1) ps)(h2:fO K L F (Itb K.K b2 a2) qs):fO K L F (Itz K.K b1 b2 a1 a2) (jH ps qs):=by
 intro c i F2 H σ ρ rel sF sL
 refine⟨fun r hr=>?_,fun hi=>?_⟩
 ·obtain⟨p,q,hp,hq,rfl⟩:=xY ps qs i r hr
  obtain⟨g1,y1⟩:=oZ h1 rel sF sL i p hp
  refine⟨⟨g1,(oZ h2 rel sF sL i q hq).1⟩,fun z H' ⟨x,y,T,e1,e2,hT,ez,eH⟩=>?_⟩
  subst ez eH
  obtain⟨F3,mO,s3,rp⟩:=y1 x e1
  obtain⟨F4,wL,s4,rq⟩:=(oZ h2 mO (sF.trans s3) sL i q hq).2 y e2
  obtain⟨r1,r2⟩:=En wL hT (Rep.same s4 p x rp) rq
  exact⟨_,r1,(s3.trans s4).trans (Same.upd (wL.sub.free hT)),Same.upd hT,r2⟩
 ·rw[xZ] at hi
  obtain⟨xs,x1,x2⟩:=uQ h1 rel sF sL
  obtain⟨ys,y1,y2⟩:=uQ h2 rel sF sL
  refine⟨⟨xs,x1⟩,⟨ys,y1⟩,?_⟩
  by_cases hl:ps.length≤qs.length
  ·left
   have e:i=ps.length:=by omega
   exact⟨xs,x1,e▸x2⟩
  ·right
   have e:i=qs.length:=by omega
   exact⟨(oZ h1 rel sF sL i _ (List.getElem?_eq_getElem (by omega))).1,ys,y1,e▸y2⟩
theorem Zea{K:KK}{c:Ctx}{σ:L2.St}{ρ:ŏ}{F H:Hp}{ps:List PV}{v:V}(h:rSq K c σ ρ F H ps v):∃b a,v=.ref a∧(∃xs,ql K.K b H a xs)∧fO K c.L F (Itb K.K b a) ps:=by
 rcases h with⟨a,e1,e2,e3⟩|⟨a,e1,e2,e3⟩
 ·exact⟨false,a,e1,e2,e3⟩
 ·exact⟨true,a,e1,e2,e3⟩
section
variable{X:Cx}{cm:String→Addr}{E:L2.St→XK}{e e2:Expr}
theorem Zeb{elts:List Expr}{k:Nat}{tp p pos:Pos}{m1 m2:M (List PV)}(hg:Gl X "zip")(hm:X.mg "zip" =none)(h1:PE X e (tG (kk X cm) E (rSq (kk X cm)) m1))(h2:PE X e2 (tG (kk X cm) E (rSq (kk X cm)) m2))
 (hs:starEach [e,e2] X.env=[(false,eval e X.env),(false,eval e2 X.env)]:=by exact HY rfl rfl)(hs2:starEach [e2] X.env=[(false,eval e2 X.env)]:=by exact ı rfl) :
 PI X (.Tuple elts k tp) (.Call (.Name "zip" p) [e,e2] [] pos) (tI (kk X cm) E (Ge m1 m2)):=fun pins s σ H R I h=>Zar hg hm (cB h1 (cB h2 jg hs2) (by rw[hs,hs2])) hs hs2 pins s σ H R I (by
 obtain⟨c,F,ρ,rel,h⟩:=h
 refine⟨c,F,ρ,rel,bJ.bind h fun ps ρ1 v F1 H1 ę s1 s2 q h1=>⟨c,F1,ρ1,ę,bJ.bind h1 fun qs ρ2 u F2 H2 Ŋ s3 s4 q2 h2=>?_⟩⟩
 obtain⟨b1,a1,e1,_,e3⟩:=Zea q
 obtain⟨b2,a2,f1,f2,f3⟩:=Zea q2
 subst e1 f1
 obtain⟨xs,x1,_⟩:=uQ (e3.mono s3) Ŋ (Same.refl _) fun b u e=>(Ŋ.lent b u e).1
 exact⟨b1,b2,a1,a2,rfl,⟨xs,x1⟩,f2,h2 _ F2 H2 Ŋ (Same.refl _) (Same.refl _) (Jz (e3.mono s3) f3)⟩)
end
end P
namespace P
open PySem PySem.Spec PyProof.Rows L2 M2 M3 M4
def Zec(K:PySem.W.Frag)(neg:Bool):R2:=fun x y H Q=>∃d es a xs,Rp K H d x∧y=.ref a∧(aJ K H a xs∨dD K H a xs)∧kE K H es xs∧d.canLay0=true∧PyData.canLayAll0 es=true∧d.depth≤60∧Q (.bl (if neg then !(es.any fun e=>PyData.eqv e d) else es.any fun e=>PyData.eqv e d)) H
open Classical in
noncomputable def Rg(h:Heap)(d:PyData)(y:Value):Bool:=if ∃e as,Reads h y e as∧e.canLay0=true∧PyData.eqv e d=true then true else false
theorem JB{h:Heap}{d e:PyData}{y:Value}{as:List Addr}(r:Reads h y e as)(hc:e.canLay0=true):Rg h d y=PyData.eqv e d:=by
 unfold Rg
 cases q:PyData.eqv e d with
 |true=>rw[if_pos ⟨e,as,r,hc,q⟩]
 |false=>
  rw[if_neg]
  rintro ⟨e',as',r',hc',q'⟩
  have:=SeqAt.Reads.unique e e' y as as' hc r r'
  subst this
  rw[q] at q'
  cases q'
theorem uR{h:Heap}{d:PyData}:∀{us:List Value} {es:List PyData} {as:List Addr},ReadsAll h us es as→PyData.canLayAll0 es=true→us.any (Rg h d)=es.any fun e=>PyData.eqv e d
 |_,_,_,.nil,_=>rfl
 |_,_,_,.cons r rs,hc=>by
  unfold PyData.canLayAll0 at hc
  rw[Bool.and_eq_true] at hc
  rw[List.any_cons,List.any_cons,JB r hc.1,uR rs hc.2]
theorem uT{A:Around}{s:Shared}{d:PyData}{v:Value}{bs:List Addr}(rv:Reads s.heap v d bs)(hd:d.canLay0=true)(hu:A.units+d.depth<cLine):∀{us:List Value} {es:List PyData} {as:List Addr},ReadsAll s.heap us es as→PyData.canLayAll0 es=true→∀u∈us,SeqAt.EqAt A s u v (Rg s.heap d u)
 |_,_,_,.nil,_=>fun u hu=>by cases hu
 |_,_,_,.cons r rs,hc=>fun u hm=>by
  unfold PyData.canLayAll0 at hc
  rw[Bool.and_eq_true] at hc
  rcases List.mem_cons.mp hm with rfl|hm
  ·rw[JB r hc.1]
   exact SeqAt.eqAt_reads _ _ A s _ _ _ _ r rv hc.1 hd (by omega)
  ·exact uT rv hd hu rs hc.2 u hm
section
variable{X:Cx}
theorem Gf(hu:X.A.units+64<cLine):aC X (compareOp .NotIn) (Zec X.K true):=by
 intro pins s σ H x y v u Q I rx ry h
 obtain⟨d,es,a,xs,h1,rfl,hq,h3,h4,h5,h6,q⟩:=h
 cases ry
 obtain⟨as,ra⟩:=Rp.reads I d x v h1 rx
 have hu1:X.A.in1.units+d.depth<cLine:=by
  have:X.A.in1.units=X.A.units+1:=rfl
  omega
 rcases hq with hq|hq
 ·obtain⟨its,r,pl,hz⟩:=I.list hq
  obtain⟨bs,rb⟩:=kE.reads I es xs its h3 r
  refine SeqAt.notIn_listAt (Rg s.heap d) pl.isList (fun w hw=>uT ra h4 hu1 rb h5 w (by simpa using hw)) ⟨.bl _,H,I,rfl,?_⟩
  rw[show its.toArray.any (Rg s.heap d)=its.any (Rg s.heap d) by simp,uR rb h5]
  exact q
 ·obtain⟨its,r,pl,hz⟩:=I.tuple hq
  obtain⟨bs,rb⟩:=kE.reads I es xs its h3 r
  refine SeqAt.notIn_tupleAt (Rg s.heap d) pl (fun w hw=>uT ra h4 hu1 rb h5 w (by simpa using hw)) ⟨.bl _,H,I,rfl,?_⟩
  rw[show its.toArray.any (Rg s.heap d)=its.any (Rg s.heap d) by simp,uR rb h5]
  exact q
end
def inD(neg:Bool)(p q:PV):Option PV:=match q with
 | .lst ps=>if aL p && cF ps && decide (dep p≤60) then some (.bl (if neg then !(ps.any fun y=>eqB y p) else ps.any fun y=>eqB y p)) else none
 | .tup ps=>if aL p && cF ps && decide (dep p≤60) then some (.bl (if neg then !(ps.any fun y=>eqB y p) else ps.any fun y=>eqB y p)) else none
 |_=>none
theorem uU{p:PV}(h:aL p=true):∀{ps:List PV},cF ps=true→(dW ps).any (fun e=>PyData.eqv e (toD p))=ps.any fun y=>eqB y p
 | [],_=>rfl
 |y::ps,hp=>by
  unfold cF at hp
  rw[Bool.and_eq_true] at hp
  unfold dW
  rw[List.any_cons,List.any_cons,uE y p hp.1 h,uU h hp.2]
theorem Zas{K:KK}{neg:Bool}:jB K (Zec K.K neg) (inD neg):=by
 intro c F H σ ρ p q pv v u Q rel r1 r2 e k
 unfold inD at e
 split at e
 ·rename_i ps
  split at e
  ·rename_i hc
   rw[Bool.and_eq_true,Bool.and_eq_true,decide_eq_true_eq] at hc
   cases e
   obtain⟨a,xs,rfl,h1,h2⟩:=r2.lst rel.sub
   refine⟨toD p,dW ps,a,xs,iu rel.sub hc.1.1 r1,rfl,.inl h1,kE.same rel.sub _ _ (h_ ps xs hc.1.2 h2),eY p hc.1.1,gJ ps hc.1.2,by rw[eZ];exact hc.2,?_⟩
   rw[uU hc.1.1 hc.1.2]
   exact k _ F H rel (Same.refl _) (Same.refl _) Rep.bl
  ·cases e
 ·rename_i ps
  split at e
  ·rename_i hc
   rw[Bool.and_eq_true,Bool.and_eq_true,decide_eq_true_eq] at hc
   cases e
   obtain⟨a,xs,rfl,h1,h2⟩:=r2.tup rel.sub
   refine⟨toD p,dW ps,a,xs,iu rel.sub hc.1.1 r1,rfl,.inr h1,kE.same rel.sub _ _ (h_ ps xs hc.1.2 h2),eY p hc.1.1,gJ ps hc.1.2,by rw[eZ];exact hc.2,?_⟩
   rw[uU hc.1.1 hc.1.2]
   exact k _ F H rel (Same.refl _) (Same.refl _) Rep.bl
  ·cases e
 ·cases e
def Gg{α:Type}(m:M α):M α:= fun ρ=>match m ρ with
 | .ok a ρ'=>.ok a ρ'
 |_=>.bad
@[simp] theorem Zmd{α:Type}{m:M α}{ρ:ŏ}:Gg m ρ=(match m ρ with
  | .ok a ρ'=>.ok a ρ'
  |_=>.bad):=rfl
theorem JC{X:Cx}{cm:String→Addr}{E:L2.St→XK}{tg l:Expr}{mi:M (List PV)}(h:PI X tg l (tI (kk X cm) EF mi)):PI X tg l (tI (kk X cm) E (Gg mi)):=fun pins s σ H R I hh=>h pins s σ H R I (by
 obtain⟨c,F,ρ,rel,h'⟩:=hh
 refine⟨c,F,ρ,rel,?_⟩
 unfold Gg at h'
 cases e:mi ρ with
 |ok a ρ'=>rw[e] at h';exact h'
 |exc x ρ'=>rw[e] at h';exact h'.elim
 |bad=>rw[e] at h';exact h')
end P
namespace P
open PySem PySem.Spec PyProof.Rows L2 M2 M3 M4
theorem jJ{x:Int}{n:Nat}(h1: -(2 ^ n:Int)<x)(h2:x<2 ^ n):bits x≤n:=by
 refine intBits_le_iff.mpr ?_
 have e:((2 ^ n:Nat):Int)=(2:Int) ^ n:=by simp
 have:((x.natAbs:Nat):Int)<((2 ^ n:Nat):Int):=by rw[e];omega
 omega
theorem Vy{x y:Int}(h:y≠0)(h1: -18446744073709551616<y)(h2:y<18446744073709551616):fG x y=true:=xr h (Nat.le_trans (jJ (n:=64) (by omega) (by omega)) (by decide))
@[simp] theorem Zkn{x:Int}{n:Nat}(h:n≠0)(h2:n<18446744073709551616):fG x (no_index (OfNat.ofNat n):Int)=true:=by
  have e:(no_index (OfNat.ofNat n):Int)=(n:Int):=rfl
  rw[e]
  exact Vy (by omega) (by omega) (by omega)
@[simp] theorem Zed{x:Int}{n:Nat}(h:n<18446744073709551616):ř x (no_index (OfNat.ofNat n):Int)=true:=by
  have e:(no_index (OfNat.ofNat n):Int)=(n:Int):=rfl
  rw[e]
  exact mul_r (by omega) (by omega)
@[simp] theorem Zee{x:Int}{n:Nat}(h:n<18446744073709551616):ř (no_index (OfNat.ofNat n):Int) x=true:=by
  have e:(no_index (OfNat.ofNat n):Int)=(n:Int):=rfl
  rw[e]
  exact bx (by omega) (by omega)
@[simp] theorem Zko{m n:Nat}(h:m<18446744073709551616)(h2:n≤1000000):wV (no_index (OfNat.ofNat m):Int) (no_index (OfNat.ofNat n):Int)=true:=by
  have e:(no_index (OfNat.ofNat m):Int)=(m:Int):=rfl
  have e2:(no_index (OfNat.ofNat n):Int)=(n:Int):=rfl
  rw[e,e2]
  unfold wV
  simp
  omega
@[simp] theorem Zef{x:Int}{n:Nat}:x.fdiv (no_index (OfNat.ofNat n):Int)=x / (no_index (OfNat.ofNat n):Int):=Int.fdiv_eq_ediv_of_nonneg x (Int.natCast_nonneg n)
@[simp] theorem Zeg{x:Int}{n:Nat}:x.fmod (no_index (OfNat.ofNat n):Int)=x % (no_index (OfNat.ofNat n):Int):=Int.fmod_eq_emod_of_nonneg x (Int.natCast_nonneg n)
end P
namespace P
open PySem PySem.Spec PyProof.Rows L2 M2 M3 M4
theorem add_l{xs ys:List PV}(h:xs.length+ys.length≤16777216):Ľ (.lst xs) (.lst ys)=some (.ow (xs++ys)):=by
 unfold Ľ
 simp[h]
theorem Zat{x y z w:Int}:eqB (.tup [.int x,.int y]) (.tup [.int z,.int w])=(decide (x=z) && decide (y=w)):=by
 rw[eqB.eq_def]
 show dU [.int x,.int y] [.int z,.int w]=_
 rw[dU.eq_def]
 show(eqB (.int x) (.int z) && dU [.int y] [.int w])=_
 rw[dU.eq_def]
 show(eqB (.int x) (.int z) && (eqB (.int y) (.int w) && dU [] []))=_
 have h1:eqB (.int x) (.int z)=decide (x=z):=by rw[eqB.eq_def];rfl
 have h2:eqB (.int y) (.int w)=decide (y=w):=by rw[eqB.eq_def];rfl
 have h3:dU [] []=true:=by rw[dU.eq_def]
 rw[h1,h2,h3,Bool.and_true]
mutual
theorem yc:∀p:PV,aL p=true→eqB p p=true
 | .non,_=>by unfold eqB;rfl
 | .bl b,_=>by unfold eqB;simp
 | .int i,_=>by unfold eqB;simp
 | .str x,_=>by unfold eqB;simp
 | .lst xs,h=>by unfold aL at h;unfold eqB;exact k_ xs h
 | .tup xs,h=>by unfold aL at h;unfold eqB;exact k_ xs h
 | .ins _ _ _,h=>by simp[aL] at h
 | .xc _ _ _,h=>by simp[aL] at h
 | .ty _,h=>by simp[aL] at h
 | .cls _,h=>by simp[aL] at h
theorem k_:∀ps:List PV,cF ps=true→dU ps ps=true
 | [],_=>by unfold dU;rfl
 |p::ps,h=>by
  unfold cF at h
  rw[Bool.and_eq_true] at h
  unfold dU
  rw[yc p h.1,k_ ps h.2]
  rfl
end
theorem Gh{p:PV}(h:aL p=true)(hd:dep p≤60):cG p p=some (.bl false):=by
 unfold cG qy
 rw[h,yc p h,decide_eq_true (by omega:min (dep p) (dep p)≤60)]
 rfl
theorem cO{a b:Str}(ha:PyData.strOk a=true)(hb:PyData.strOk b=true):aG (.str a) (.str b)=some (.bl (decide (a=b))):=by
 have h:eqB (.str a) (.str b)=decide (a=b):=by unfold eqB;rfl
 unfold aG qy
 rw[show aL (.str a)=true by unfold aL;exact ha,show aL (.str b)=true by unfold aL;exact hb,h]
 rfl
theorem yg(ns:List Int):cF (ns.map PV.int)=true:=by
 induction ns with
 |nil=>simp[cF]
 |cons n ns ih=>simp[cF,aL,ih]
theorem yj(ns:List Int):qw (ns.map PV.int)=0:=by
 induction ns with
 |nil=>simp[qw]
 |cons n ns ih=>simp[qw,dep,ih]
end P
namespace P
open PySem PySem.Spec PyProof.Rows L2 M2 M3 M4
section
variable{g:Tg}{mb:M Fl}{mt:M Bool}{me:M PV}
theorem cL{α β:Type}(c:α→PV)(step:β→α→β)(J:β→ŏ→Prop):∀(xs:List α),(∀x∈xs,∀b ρ,J b ρ→∃ρ1 ρ2,g (c x) ρ=some ρ1∧mb ρ1=.ok .nx ρ2∧J (step b x) ρ2)→∀b ρ,J b ρ→∃ρ',forL g mb (xs.map c) ρ=.ok .nx ρ'∧J (xs.foldl step b) ρ'
 | [],_,b,ρ,h=>⟨ρ,rfl,h⟩
 |x::xs,hs,b,ρ,h=>by
  obtain⟨ρ1,ρ2,h1,h2,h3⟩:=hs x (by simp) b ρ h
  obtain⟨ρ',e,h4⟩:=cL c step J xs (fun y hy=>hs y (List.mem_cons_of_mem _ hy)) (step b x) ρ2 h3
  refine⟨ρ',?_,h4⟩
  rw[List.map_cons,forL,h1]
  dsimp only
  rw[h2]
  exact e
theorem bN{α γ:Type}(c:α→PV)(t:α→Option γ)(v:γ→RV)(J:ŏ→Prop):∀(xs:List α),(∀x∈xs,∀ρ,J ρ→∃ρ1,g (c x) ρ=some ρ1∧((∃r ρ2,t x=some r∧mb ρ1=.ok (.rt (v r)) ρ2)∨(∃ρ2,t x=none∧mb ρ1=.ok .nx ρ2∧J ρ2)))→∀ρ,J ρ→
 (∃r ρ',xs.findSome? t=some r∧forL g mb (xs.map c) ρ=.ok (.rt (v r)) ρ')∨(∃ρ',xs.findSome? t=none∧forL g mb (xs.map c) ρ=.ok .nx ρ'∧J ρ')
 | [],_,ρ,h=>.inr ⟨ρ,rfl,rfl,h⟩
 |x::xs,hs,ρ,h=>by
  obtain⟨ρ1,h1,h2⟩:=hs x (by simp) ρ h
  rcases h2 with⟨r,ρ2,e1,e2⟩|⟨ρ2,e1,e2,e3⟩
  ·refine .inl ⟨r,ρ2,by rw[List.findSome?_cons,e1],?_⟩
   rw[List.map_cons,forL,h1]
   dsimp only
   rw[e2]
   rfl
  ·have hf:List.findSome? t (x::xs)=List.findSome? t xs:=by rw[List.findSome?_cons,e1]
   have hl:forL g mb ((x::xs).map c) ρ=forL g mb (xs.map c) ρ2:=by
    rw[List.map_cons,forL,h1]
    dsimp only
    rw[e2]
    rfl
   rw[hf,hl]
   exact bN c t v J xs (fun y hy=>hs y (List.mem_cons_of_mem _ hy)) ρ2 e3
theorem cH{α:Type}(c f:α→PV)(q:α→Bool)(I:ŏ→Prop):∀(xs:List α) (ρ:ŏ) (acc:List PV),I ρ→acc.length+xs.length≤16777216→
 (∀x∈xs,∀ρ,I ρ→∃ρ1 ρ2,g (c x) ρ=some ρ1∧mt ρ1=.ok (q x) ρ2∧(q x=false→I ρ2)∧(q x=true→∃ρ3,me ρ2=.ok (f x) ρ3∧I ρ3))→ŉ g mt me (xs.map c) ρ acc=some (acc++(xs.filter q).map f)
 | [],ρ,acc,_,_,_=>by simp[ŉ]
 |x::xs,ρ,acc,h,hz,hs=>by
  obtain⟨ρ1,ρ2,h1,h2,h3,h4⟩:=hs x List.mem_cons_self ρ h
  cases e:q x with
  |true=>
   obtain⟨ρ3,h5,h6⟩:=h4 e
   rw[e] at h2
   rw[List.map_cons,ŉ,h1]
   dsimp only
   rw[h2]
   dsimp only
   rw[h5]
   dsimp only
   rw[if_pos (by simp at hz;omega),cH c f q I xs ρ3 (acc ++ [f x]) h6 (by simp at hz ⊢;omega) fun y hy=>hs y (List.mem_cons_of_mem _ hy)]
   simp[e]
  |false=>
   rw[e] at h2
   rw[List.map_cons,ŉ,h1]
   dsimp only
   rw[h2]
   dsimp only
   rw[cH c f q I xs ρ2 acc (h3 e) (by simp at hz ⊢;omega) fun y hy=>hs y (List.mem_cons_of_mem _ hy)]
   simp[e]
end
end P
namespace P
open PySem PySem.Spec PyProof.Rows L2 M2 M3 M4
def Zme(K:PySem.W.Frag)(n:Nat)(t:GQ):TG:=fun v σ H Q=>∃a xs,v=.ref a∧aJ K H a xs∧xs.length=n∧t xs σ H Q
section
variable{X:Cx}{cm:String→Addr}{pos:Pos}
theorem Zau{es:List Expr}{k:Nat}{t:GQ}{n:Nat}(hc:X.calm=true)(h:zY X es t)
 (hn:(assignEach es X.env).length=n:=by rfl)(hst:(assignEach es X.env).findIdx? (·.1)=none:=by rfl):PG X (.Tuple es k pos) (Zme X.K n t):=by
 intro pins s σ H v u Q I r hw
 obtain⟨a,xs,e1,hq,hl,hw⟩:=hw
 subst e1
 cases r
 obtain⟨its,rv,ht,hz⟩:=I.list hq
 rw[assign_Tuple]
 refine wpAny_bind (wpAny_standAt ?_)
 unfold unpack
 rw[show(assignEach es X.env).length=its.toArray.size by simp[hn,←hl,rv.length],hst]
 refine wpAny_bind (wpAny_holding (PySem.W.kun_itemsOf (I.ok.hd hc) ht.isList fun h' hx=>?_))
 have I1:Inv X pins σ H {s with heap:=h'}:=I.kept (t':=s.toks) fun b o e=>hx b o (Nat.ne_of_lt (Heap.lt_size e)) e
 exact h pins _ σ H xs _ Q I1 (by simpa using rv) hw
def gS(n:Nat)(gs:GC):Tg:=fun p ρ=>match p with
 | .tup ps=>if ps.length=n then gs ps ρ else none
 | .lst ps=>if ps.length=n then gs ps ρ else none
 |_=>none
@[simp] theorem Zmf{n:Nat}{gs:GC}{ps:List PV}{ρ:ŏ}:gS n gs (.tup ps) ρ=if ps.length=n then gs ps ρ else none:=rfl
@[simp] theorem Zmg{n:Nat}{gs:GC}{ps:List PV}{ρ:ŏ}:gS n gs (.lst ps) ρ=if ps.length=n then gs ps ρ else none:=rfl
theorem Vz{es:List Expr}{k:Nat}{gs:GC}{n:Nat}(hc:X.calm=true)(h:zY X es (tTs (kk X cm) gs))(hn:(assignEach es X.env).length=n:=by rfl)(hst:(assignEach es X.env).findIdx? (·.1)=none:=by rfl):PG X (.Tuple es k pos) (tT (kk X cm) (gS n gs)):=by
 intro pins s σ H v u Q I r hw
 obtain⟨c,F,ρ,p,rel,rp,hw⟩:=hw
 cases p with
 |tup ps=>
  unfold Rep at rp
  obtain⟨a,xs,h1,h2,h3⟩:=rp
  unfold gS at hw
  dsimp only at hw
  split at hw
  ·rename_i hl
   exact GX hc h hn hst pins s σ H v u Q I r ⟨a,xs,h1,Same.tup rel.sub h2,by rw[←h3.length];exact hl,c,F,ρ,ps,rel,h3,hw⟩
  ·exact hw.elim
 |lst ps=>
  unfold Rep at rp
  obtain⟨a,xs,h1,h2,h3⟩:=rp
  unfold gS at hw
  dsimp only at hw
  split at hw
  ·rename_i hl
   exact Zau hc h hn hst pins s σ H v u Q I r ⟨a,xs,h1,rel.sub.seq h2,by rw[←h3.length];exact hl,c,F,ρ,ps,rel,h3,hw⟩
  ·exact hw.elim
 |_=>exact hw.elim
end
end P
namespace P
open PySem PySem.Spec PyProof.Rows L2 M2 M3 M4
section
variable{X:Cx}{cm:String→Addr}{E:L2.St→XK}{a:Expr}{p p1 pos pos1:Pos}{mr:M (List PV)}
end
end P
namespace P
open PySem PySem.Spec PyProof.Rows L2 M2 M3 M4
def Zeh(i:Nat)(m:M Bool):M Bool:=fun ρ=>match ρ[i]? with
 |some (.ot ps qs)=>match m (ρ.set i (.sh (.tup (ps ++ [.lst qs])))) with
  | .ok b _=>.ok b ρ
  |_=>.bad
 |_=>m ρ
section
variable{X:Cx}{cm:String→Addr}{E:L2.St→XK}{e o:Expr}{es:List Expr}{pos:Pos}{m:M Bool}{mo:M RV}{ma:M PV}
def Zei(mo:M RV):M (List yq):=fun ρ=>(mo ρ).bind fun r ρ1=>.ok ([],r) ρ1
def Zav(ma:M PV)(mr:M (List yq)):M (List yq):=fun ρ=>(ma ρ).bind fun p ρ1=>(mr ρ1).bind fun r ρ2=>.ok (p::r.1,r.2) ρ2
def Zej(mr:M (List yq)):M RV:=fun ρ=>(mr ρ).bind fun r ρ1=>if r.1.length<16777216 then(match r.2 with
 | .ow qs=>.ok (.ot r.1 qs) ρ1
 | .sh p=>.ok (.sh (.tup (r.1 ++ [p]))) ρ1
 |_=>.bad) else .bad
def Zek(i j:Nat)(m:M PV):M Fl:=fun ρ=>match ρ[i]? with
 |some (.ot ps _)=>if ps.length=j then(m ρ).bind fun p ρ1=>match ρ1[i]? with
  |some (.ot ps' qs)=>if ps'.length=j∧qs.length<16777216 then .ok .nx (ρ1.set i (.ot ps' (qs ++ [p]))) else .bad
  |_=>.bad
  else .bad
 |_=>.bad
@[simp] theorem Zmh{ps qs:List PV}:(RV.ot ps qs).val=.tup (ps ++ [.lst qs]):=rfl
@[simp] theorem Zmi{ps qs:List PV}:(RV.ot ps qs).slot=.ot ps qs:=rfl
@[simp] theorem Zkp{i:Nat}{ρ:ŏ}:Zeh i m ρ=(match ρ[i]? with
  |some (.ot ps qs)=>match m (ρ.set i (.sh (.tup (ps ++ [.lst qs])))) with
   | .ok b _=>.ok b ρ
   |_=>.bad
  |_=>m ρ):=rfl
@[simp] theorem Zkq{ρ:ŏ}:Zei mo ρ=(mo ρ).bind fun r ρ1=>.ok ([],r) ρ1:=rfl
@[simp] theorem Zel{mr:M (List yq)}{ρ:ŏ}:Zav ma mr ρ=(ma ρ).bind fun p ρ1=>(mr ρ1).bind fun r ρ2=>.ok (p::r.1,r.2) ρ2:=rfl
@[simp] theorem Zem{mr:M (List yq)}{ρ:ŏ}:Zej mr ρ=(mr ρ).bind fun r ρ1=>if r.1.length<16777216 then(match r.2 with
  | .ow qs=>.ok (.ot r.1 qs) ρ1
  | .sh p=>.ok (.sh (.tup (r.1 ++ [p]))) ρ1
  |_=>.bad) else .bad:=rfl
@[simp] theorem Zkr{i j:Nat}{ρ:ŏ}:Zek i j ma ρ=(match ρ[i]? with
  |some (.ot ps _)=>if ps.length=j then(ma ρ).bind fun p ρ1=>match ρ1[i]? with
   |some (.ot ps' qs)=>if ps'.length=j∧qs.length<16777216 then .ok .nx (ρ1.set i (.ot ps' (qs ++ [p]))) else .bad
   |_=>.bad
   else .bad
  |_=>.bad):=rfl
end
end P
namespace P
open PySem PySem.Spec PyProof.Rows L2 M2 M3 M4
section
variable{X:Cx}{K:KK}
end
end P
namespace My
def gd(a b:Int):Int:=((Int.gcd a b:Nat):Int)
theorem Z1H(a b:Int):gd b (Int.fmod a b)=gd a b:=by
 unfold gd
 rw[Int.fmod_def,Int.gcd_sub_mul_left_right,Int.gcd_comm]
theorem Z1I(a:Int){b:Int}(h:b≠0):(Int.fmod a b).natAbs<b.natAbs:=by
 rcases(by omega:0<b∨b<0) with h|h
 ·have h1:=Int.fmod_nonneg_of_pos a h
  have h2:=Int.fmod_lt_of_pos a h
  omega
 ·have e:=Int.neg_fmod_neg a b
  have h1:=Int.fmod_nonneg_of_pos (-a) (show 0 < -b by omega)
  have h2:=Int.fmod_lt_of_pos (-a) (show 0 < -b by omega)
  omega
theorem Z1J(a:Int):gd a 0=if a<0 then -a else a:=by
 unfold gd
 rw[Int.gcd_zero]
 split<;>omega
theorem Z23(a:Int){b:Int}(h:b≠0):0<gd a b:=by
 have:=Int.gcd_ne_zero_right (a:=a) h
 unfold gd
 omega
theorem Z0Z(a b:Int):0≤gd a b:=by
 unfold gd
 omega
theorem Z2s(a:Int){b:Int}(h:b≠0):gd a b≤b.natAbs:=by
 unfold gd
 have:=Int.gcd_dvd_natAbs_right a b
 have:=Nat.le_of_dvd (by omega) this
 omega
def dv(t b:Int):Int:=if b<0 then-gd t b else gd t b
end My
namespace Hu
abbrev Pt:=Um
def tn(a b c:Pt):Int:=(b.1-a.1)*(c.2-a.2)-(b.2-a.2)*(c.1-a.1)
section
variable{S:List Pt}{p:Pt}
end
abbrev Ln:=yr
def hd(l:Ln)(p:Pt):Bool:=decide (l.1*p.1+l.2.1*p.2≤l.2.2)
def Z2(a b:Pt):Ln:=(b.2-a.2,a.1-b.1,(b.2-a.2)*a.1+(a.1-b.1)*a.2)
theorem Z1B{a b s:Pt}:hd (Z2 a b) s=true↔0≤tn a b s:=by
 unfold hd Z2
 rw[decide_eq_true_iff]
 have e:tn a b s=((b.2-a.2)*a.1+(a.1-b.1)*a.2)-((b.2-a.2)*s.1+(a.1-b.1)*s.2):=by simp only[tn];grind
 dsimp only
 omega
def Z1(S:List Pt):List Pt:=S.foldl (fun k x=>if x∈k then k else k ++ [x]) []
theorem Z02(x:Pt):∀(S k:List Pt),x∈S.foldl (fun k x=>if x∈k then k else k ++ [x]) k↔x∈k∨x∈S
 | [],k=>by simp
 |y::S,k=>by
  rw[List.foldl_cons,Z02 x S]
  by_cases h:y∈k
  ·rw[if_pos h]
   constructor
   ·rintro (q|q)
    ·exact .inl q
    ·exact .inr (List.mem_cons_of_mem _ q)
   ·rintro (q|q)
    ·exact .inl q
    ·rcases List.mem_cons.mp q with e|e
     ·exact .inl (e▸h)
     ·exact .inr e
  ·rw[if_neg h]
   simp only[List.mem_append,List.mem_cons,List.not_mem_nil,or_false]
   constructor
   ·rintro ((q|q)|q)
    ·exact .inl q
    ·exact .inr (.inl q)
    ·exact .inr (.inr q)
   ·rintro (q|q|q)
    ·exact .inl (.inl q)
    ·exact .inl (.inr q)
    ·exact .inr q
theorem Zg{x:Pt}{S:List Pt}:x∈Z1 S↔x∈S:=by unfold Z1;rw[Z02];simp
def Zu(S:List Pt):List Ln:=(Z1 S).flatMap fun a=>(Z1 S).filterMap fun b=>if a≠b∧(Z1 S).all (hd (Z2 a b)) then some (Z2 a b) else none
theorem Z10{S:List Pt}{l:Ln}:l∈Zu S↔∃a∈S,∃b∈S,a≠b∧(∀s∈S,0≤tn a b s)∧l=Z2 a b:=by
 unfold Zu
 simp only[List.mem_flatMap,List.mem_filterMap]
 constructor
 ·rintro ⟨a,ha,b,hb,h⟩
  split at h
  ·rename_i hc
   refine⟨a,Zg.mp ha,b,Zg.mp hb,hc.1,fun s hs=>?_,(Option.some.inj h).symm⟩
   exact Z1B.mp (List.all_eq_true.mp hc.2 s (Zg.mpr hs))
  ·cases h
 ·rintro ⟨a,ha,b,hb,h1,h2,rfl⟩
  refine⟨a,Zg.mpr ha,b,Zg.mpr hb,?_⟩
  rw[if_pos ⟨h1,List.all_eq_true.mpr fun s hs=>Z1B.mpr (h2 s (Zg.mp hs))⟩]
def mx(l:List Int):Int:=l.tail.foldl max (l.headD 0)
def mn(l:List Int):Int:=l.tail.foldl min (l.headD 0)
def box(S:List Pt):List Ln:=[(1,0,mx (S.map (·.1))),(-1,0,- mn (S.map (·.1))),(0,1,mx (S.map (·.2))),(0,-1,- mn (S.map (·.2)))]
def Zd(S:List Pt):List Ln:=box S++Zu S
def Zx(S:List Pt)(p:Pt):Option Ln:=(Zd S).find? fun l=>!hd l p
def uV(a b c p:Pt):List Int:=[tn p b c,tn a p c,tn a b p]
def uW(a b p:Pt):List Int:=
 let g:=(b.1-a.1)*(p.1-a.1)+(b.2-a.2)*(p.2-a.2)
 [(b.1-a.1)*(b.1-a.1)+(b.2-a.2)*(b.2-a.2)-g,g]
def Zr(w:List Int):Bool:=decide (w.sum≠0) && w.all fun s=>decide (0≤s*w.sum)
def at_(S:List Pt)(i:Nat):Pt:=S.getD i (0,0)
theorem Z24{S:List Pt}{i:Nat}(h:i<S.length):at_ S i∈S:=by
 unfold at_
 rw[List.getD_eq_getElem?_getD,List.getElem?_eq_getElem h]
 exact List.getElem_mem h
def Z6(n:Nat):List (Nat×Nat):=(List.range n).flatMap fun j=>(List.range j).map fun i=>(i,j)
def Z8(n:Nat):List (yu):=(List.range n).flatMap fun k=>(Z6 k).map fun q=>(q.1,q.2,k)
theorem ZD{n i j:Nat}:(i,j)∈Z6 n↔i<j∧j<n:=by
 unfold Z6
 simp only[List.mem_flatMap,List.mem_range,List.mem_map,Prod.mk.injEq]
 constructor
 ·rintro ⟨k,hk,m,hm,rfl,rfl⟩;exact⟨hm,hk⟩
 ·rintro ⟨h1,h2⟩;exact⟨j,h2,i,h1,rfl,rfl⟩
theorem Z0z{n i j k:Nat}:(i,j,k)∈Z8 n↔i<j∧j<k∧k<n:=by
 unfold Z8
 simp only[List.mem_flatMap,List.mem_range,List.mem_map,Prod.mk.injEq]
 constructor
 ·rintro ⟨m,hm,⟨a,b⟩,hq,rfl,rfl,rfl⟩
  have:=ZD.mp hq
  exact⟨this.1,this.2,hm⟩
 ·rintro ⟨h1,h2,h3⟩;exact⟨k,h3,(i,j),ZD.mpr ⟨h1,h2⟩,rfl,rfl,rfl⟩
def Z25(S:List Pt)(p:Pt):Option (List o_ Nat):=(Z8 S.length).findSome? fun q=>if Zr (uV (at_ S q.1) (at_ S q.2.1) (at_ S q.2.2) p) then some (uV (at_ S q.1) (at_ S q.2.1) (at_ S q.2.2) p,[q.1,q.2.1,q.2.2]) else none
def Z26(S:List Pt)(p:Pt):Option (List o_ Nat):=(Z6 S.length).findSome? fun q=>if Zr (uW (at_ S q.1) (at_ S q.2) p) then some (uW (at_ S q.1) (at_ S q.2) p,[q.1,q.2]) else none
def Z0M(S:List Pt)(p:Pt):List o_ Nat:=((Z25 S p).orElse fun _=>Z26 S p).getD ([1],[0])
structure Z2H(S:List Pt)(p:Pt)(w:List Int)(q:List Nat):Prop where
 len:w.length=q.length
 sum:w.sum≠0
 sign:∀s∈w,0≤s*w.sum
 nd:q.Nodup
 lt:∀i∈q,i<S.length
 x:((w.zip q).map fun a=>a.1*(at_ S a.2).1).sum=w.sum*p.1
 y:((w.zip q).map fun a=>a.1*(at_ S a.2).2).sum=w.sum*p.2
theorem Z0d{w:List Int}:Zr w=true↔w.sum≠0∧∀s∈w,0≤s*w.sum:=by
 unfold Zr
 simp
end Hu
namespace Fr
def lay(l:List Int)(a:List (Uo)):List Int:=a.foldl (fun acc a=>acc.set a.2 a.1) l
end Fr
namespace T
open PySem L2 M2 M3 M4 P
def top(i:Nat):Stmt:=PySem.Challenge.pw_shadowpost_k33_lit_turns.main.body.getD i (.Pass ⟨0,0,0,0⟩)
abbrev yx:Stmt:=top 78
abbrev yC:Stmt:=top 72
abbrev yD:Stmt:=top 73
abbrev yE:Stmt:=top 77
abbrev rM:Stmt:=top 79
abbrev rN:Stmt:=inClass (top 42) 0
abbrev yF:Stmt:=top 75
abbrev yG:Stmt:=top 74
abbrev rP:Stmt:=top 76
abbrev yH:Stmt:=top 54
abbrev yI:Stmt:=top 55
abbrev yJ:Stmt:=top 57
abbrev JD:Stmt:=inClass (top 64) 0
abbrev rQ:Stmt:=top 58
abbrev yK:Stmt:=top 59
abbrev JF:Stmt:=top 60
abbrev JG:Stmt:=top 56
abbrev rT:Stmt:=top 61
abbrev yL:Stmt:=top 70
abbrev pq:Stmt:=top 12
abbrev yM:Stmt:=top 14
abbrev yN:Stmt:=top 13
abbrev yO:Stmt:=top 11
abbrev rW:Stmt:=top 15
abbrev yP:Stmt:=top 16
abbrev yQ:Stmt:=top 28
abbrev JH:Stmt:=top 62
abbrev yR:Stmt:=top 63
abbrev yS:Stmt:=inClass (top 65) 0
abbrev yU:Stmt:=inClass (top 66) 0
abbrev yV:Stmt:=inClass (top 67) 0
abbrev rY:Stmt:=inClass (top 68) 0
abbrev JK:Stmt:=inClass (top 69) 0
abbrev rZ:Stmt:=top 31
abbrev yW:Stmt:=top 35
abbrev yX:Stmt:=top 36
abbrev yZ:Stmt:=top 37
abbrev Gi:Stmt:=top 38
abbrev za:Stmt:=top 39
abbrev zc:Stmt:=top 43
abbrev zf:Stmt:=top 46
abbrev zj:Stmt:=top 45
abbrev zm:Stmt:=top 47
abbrev zp:Stmt:=top 44
abbrev zq:Stmt:=top 17
abbrev su:Stmt:=top 23
abbrev sy:Stmt:=top 24
abbrev JL:Stmt:=top 8
abbrev zu:Stmt:=top 9
abbrev sE:Stmt:=top 22
abbrev zx:Stmt:=top 18
abbrev JM:Stmt:=top 19
abbrev sG:Stmt:=top 21
abbrev zy:Stmt:=top 20
abbrev pA:Stmt:=top 25
abbrev zA:Stmt:=top 26
abbrev zB:Stmt:=top 29
abbrev zE:Stmt:=top 32
abbrev zF:Stmt:=top 33
abbrev zG:Stmt:=top 40
abbrev sI:Stmt:=top 49
abbrev sJ:Stmt:=top 81
abbrev sO:Stmt:=top 80
abbrev zH:Stmt:=top 50
abbrev fJ:Stmt:=top 82
abbrev JN:Stmt:=inClass (top 5) 0
abbrev JQ:Stmt:=inClass (top 6) 0
def Zk:List ((œ)jE):=[]
def Zl:List ((œ)jE):=[]
def Zm:List String:=[]
def Zn:List String:=[]
def bO(c0:Addr)(c1:Addr)(c2:Addr)(c3:Addr)(c4:Addr)(c5:Addr)(c6:Addr)(c7:Addr)(c8:Addr)(c9:Addr)(c10:Addr)(c11:Addr):String→Addr:=fun s=>match s with
 | "YardError" =>c0
 | "NoNumber" =>c1
 | "BadThing" =>c2
 | "NoStone" =>c3
 | "NoTurn" =>c4
 | "Yard" =>c5
 | "Thing" =>c6
 | "Post" =>c7
 | "Fence" =>c8
 | "Sail" =>c9
 | "Cloth" =>c10
 | "House" =>c11
 |_=>0
noncomputable def fu:M Fl:=(Ğ (cU (iQ (dF (Ĉ aG (Ĉ ō (Ĉ aU (Ā 0) (mC (.int 7))) (mC (.int 16))) (mC (.int 11)))) (dF (Ĉ Tf (Ā 1) (mC (.int 6)))))
 (ĳ (Ř (Ĉ ě (Ė (bM (Ą (Ś (Ą (mC (.int 1)) (Ą (mC (.int 20)) Ĝ))) (Ą (Ś (Ą (mC (.int 20)) (Ą (mC (.int 1)) Ĝ))) Ĝ)))) (Ĉ ō (Ā 0) (mC (.int 2))))))
 dO)
 (Ğ (Ĵ 2 (ł Ľ (mC (.int 1)) (Ĉ ō (Ā 0) (dM rm (Ą (mC (.int 5)) (Ą (Ā 1) Ĝ))))))
 (ĳ (Ř (Ś (Ą (Ģ 2) (Ą (Ė (ł Ľ (mC (.int 1)) (Ĉ ō (Ĉ aU (Ā 0) (mC (.int 5))) (dM rm (Ą (mC (.int 4)) (Ą (Ĉ aU (Ā 1) (Ā 2)) Ĝ)))))) Ĝ)))))))
noncomputable def dY:MF:=Ņ 2 3 fu
noncomputable def uX:M Fl:=(Ğ (cU (dF (Ĉ mQ (Ā 1) (dM jC (Ą (Ā 0) Ĝ))))
 (ĳ (Ř (Ĉ ě (Ā 0) (Ā 1))))
 dO)
 (ĳ (Ř (mC (.int 0)))))
noncomputable def Ű:MF:=Ņ 2 2 uX
noncomputable def lq:M Fl:=(cU (dF (Ĉ aG (Ĉ ō (Ā 0) (mC (.int 2))) (mC (.int 0))))
 (Ğ (uD 2 (Ĉ ō (Ā 3) (mC (.int 524287))))
 (Ĵ 3 (Ř (Ĉ aU (Ā 3) (mC (.int 524287))))))
 (Ğ (Ĵ 3 (Ř (Ĉ ō (Ė (ł Ľ (Ė (ł Ľ (Ĉ į (Ā 3) (mC (.int 49157))) (mC (.int 24593)))) (Ĉ į (mC (.int 2)) (Ā 4)))) (mC (.int 8388593)))))
 (uD 2 (Ĉ aU (Ā 3) (mC (.int 16))))))
noncomputable def uY:M Fl:=(Ğ (Ĵ 2 (bM Ĝ))
 (Ğ (Ĵ 3 (Ř (Ĉ aU (Ā 0) (mC (.int 2)))))
 (Ğ (cU (dF (Ĉ aG (Ĉ ō (Ā 0) (mC (.int 2))) (mC (.int 1))))
 (Ĵ 3 (Ř (Ĉ ō (Ā 3) (mC (.int 8388593)))))
 dO)
 (Ğ (cT (aF aA (Ą (Ģ 1) Ĝ)) (gN 4) lq)
 (ĳ (dH 2))))))
noncomputable def iZ:MF:=Ņ 2 5 uY
noncomputable def uZ:M Fl:=(Ğ (cU (dF (Ĉ aG (Ĉ ō (Ĉ ě (Ā 0) (mC (.int 4))) (mC (.int 6))) (mC (.int 4))))
 (ĳ (Ř (mC .non)))
 dO)
 (Ğ (Ĵ 1 (Ř (Ĉ ě (Ė (bM (Ą (mC (.int 1)) (Ą (mC (.int 1)) (Ą (mC (.int 3)) (Ą (Ĉ ou (mC (.int 10)) (mC (.int 5))) Ĝ)))))) (Ĉ ō (Ĉ ě (Ā 0) (mC (.int 3))) (mC (.int 4))))))
 (ĳ (Ř (Ś (Ą (Ĉ į (Ĉ ť (Ĉ ō (Ĉ ě (Ā 0) (mC (.int 0))) (mC (.int 13))) (mC (.int 6))) (Ā 1)) (Ą (Ĉ į (Ĉ ť (Ĉ ō (Ĉ ě (Ā 0) (mC (.int 1))) (mC (.int 13))) (mC (.int 6))) (Ā 1)) (Ą (Ĉ į (Ė (ł Ľ (mC (.int 1)) (Ĉ ō (Ĉ ě (Ā 0) (mC (.int 2))) (mC (.int 5))))) (Ā 1)) Ĝ))))))))
noncomputable def jK:MF:=Ņ 1 2 uZ
noncomputable def u_:M Fl:=(Ğ (Ĵ 8 (Ē iZ (ė (Ė (ł Ľ (Ĉ aU (Ė (Ē Ű (ą 0 (ė (Ė (ł Ľ (Ā 1) (Ā 7))) ď)))) (mC (.int 12))) (Ĉ į (mC (.int 5)) (Ā 7)))) (ė (Ė (ł Ľ (Ĉ į (mC (.int 5)) (Ā 3)) (mC (.int 2)))) ď))))
 (Ğ (Ĵ 9 (Ŗ [8] 1 (aF aA (Ą (Ė (ł Ľ (mC (.int 1)) (Ĉ ō (Ĉ ě (Ā 8) (mC (.int 1))) (Ā 3)))) Ĝ)) (gN 1) ŋ (Ė (Ē jK (ė (Ė (Ba (Ā 0) (mP (Ė (ł Ľ (mC (.int 2)) (Ĉ į (mC (.int 5)) (Ā 1))))) (mP (Ė (ł Ľ (mC (.int 7)) (Ĉ į (mC (.int 5)) (Ā 1))))))) ď)))))
 (uD 6 (Ś (Ą (Ĉ ě (Ā 4) (Ā 7)) (Ą (Ė (ł Ľ (mC (.int 1)) (Ĉ ō (Ĉ į (Ĉ ě (Ā 8) (mC (.int 0))) (mC (.int 1907))) (Ĉ ou (mC (.int 10)) (mC (.int 9)))))) (Ą (Ģ 9) Ĝ)))))))
noncomputable def Bq:M Fl:=(Ğ (Ĵ 4 (bM (Ą (mC (.str "ab")) (Ą (mC (.str "a")) (Ą (mC (.str "abc")) (Ą (mC (.str "b")) (Ą (mC (.str "ba")) (Ą (mC (.str "z")) (Ą (mC (.str "zz")) (Ą (mC (.str "zzz")) (Ą (mC (.str "abcdefgh")) (Ą (mC (.str "abcdefgi")) (Ą (mC (.str "aa")) (Ą (mC (.str "bb")) Ĝ))))))))))))))
 (Ğ (Ĵ 5 (Ř (Ĉ ō (Ė (Ē Ű (ą 0 (ą 1 ď)))) (mC (.int 12)))))
 (Ğ (Ĵ 4 (ł Ľ (Ė (Ba (Ā 4) (mP (Ģ 5)) xg)) (Ė (Ba (Ā 4) xg (mP (Ģ 5))))))
 (Ğ (Ĵ 6 (bM Ĝ))
 (Ğ (cT (aF aA (Ą (Ģ 2) Ĝ)) (gN 7) u_)
 (ĳ (dH 6)))))))
noncomputable def fK:MF:=Ņ 4 10 Bq
noncomputable def Br:M Fl:=(Ğ (iW 0 ["Yard"] "width" (Ģ 1))
 (Ğ (iW 0 ["Yard"] "height" (Ģ 2))
 (Ğ (iW 0 ["Yard"] "things" (Ė (nZ dX (Ą (Ā 3) Ĝ))))
 (iW 0 ["Yard"] "days" (Ė (Ŗ [] 3 (Ő 4) (gT 3 (Ħ (gN 0) (Ħ (gN 1) (Ħ (gN 2) Ŭ)))) ŋ (Ś (Ą (Ģ 0) (Ą (Ģ 1) (Ą (Ė (nZ dX (Ą (Ā 2) Ĝ))) Ĝ))))))))))
noncomputable def jL:MI:=cX 5 5 "Yard" Br
noncomputable def vd:M Fl:=(Ğ (cU (dF (Ĉ aG (Ĉ ō (Ĉ aU (Ā 0) (mC (.int 512))) (mC (.int 12))) (mC (.int 7))))
 (ĳ (ł Ľ (mC (.int 1)) (Ĉ ō (Ĉ į (Ā 0) (mC (.int 1907))) (Ĉ ou (mC (.int 10)) (mC (.int 9))))))
 dO)
 (ĳ (ł Ľ (mC (.int 1)) (Ĉ ō (Ā 0) (mC (.int 9))))))
noncomputable def jM:MF:=Ņ 1 1 vd
noncomputable def vf:M Fl:=(Ğ (cU (dF (Ĉ aG (Ĉ ō (Ĉ aU (Ā 0) (mC (.int 512))) (mC (.int 16))) (mC (.int 5))))
 (ĳ (ł Ľ (Ĉ ť (Ĉ ō (Ĉ į (Ā 0) (mC (.int 3813))) (Ĉ ť (Ĉ į (mC (.int 2)) (Ĉ ou (mC (.int 10)) (mC (.int 9)))) (mC (.int 99)))) (Ĉ ou (mC (.int 10)) (mC (.int 9)))) (mC (.int 50))))
 dO)
 (ĳ (Ř (Ĉ ť (Ĉ ō (Ā 0) (Ė (ł Ľ (Ĉ į (mC (.int 2)) (Ā 1)) (mC (.int 9))))) (mC (.int 4))))))
noncomputable def cu:MF:=Ņ 2 2 vf
noncomputable def jo:M Fl:=(Ğ (Ĵ 2 (Ē iZ (ą 0 (ė (mC (.int 14)) ď))))
 (Ğ (Sy (gS 2 (Ħ (gN 5) (Ħ (gN 6) Ŭ))) (Ė (Ŗ [1,2] 1 (aF aA (Ą (mC (.int 2)) Ĝ)) (gN 2) ŋ (Ė (Ē cu (ė (Ĉ ě (Ā 1) (Ā 2)) (ą 0 ď)))))))
 (Ğ (Ĵ 3 (Ē jM (ė (Ĉ ě (Ā 2) (mC (.int 2))) ď)))
 (Ğ (Ĵ 4 (Ř (Ĉ ō (Ĉ ě (Ā 2) (mC (.int 3))) (mC (.int 5)))))
 (Ğ (cU (dF (Ĉ aG (Ā 4) (mC (.int 0))))
 (ĳ (Ř (Ś (Ą (mC (.str "post")) (Ą (Ė (bM (Ą (Ĉ aU (Ā 5) (mC (.int 2))) (Ą (Ĉ aU (Ā 6) (mC (.int 2))) (Ą (Ģ 3) Ĝ))))) Ĝ)))))
 dO)
 (Ğ (cU (dF (Ĉ aG (Ā 4) (mC (.int 1))))
 (Ğ (Sy (gS 2 (Ħ (gN 7) (Ħ (gN 8) Ŭ))) (Ė (bM (Ą (Ĉ ť (Ė (ł Ľ (Ā 5) (Ĉ ō (Ĉ ě (Ā 2) (mC (.int 4))) (mC (.int 9))))) (mC (.int 4))) (Ą (Ĉ ť (Ė (ł Ľ (Ā 6) (Ĉ ō (Ĉ ě (Ā 2) (mC (.int 5))) (mC (.int 9))))) (mC (.int 4))) Ĝ)))))
 (ĳ (Ř (Ś (Ą (mC (.str "fence")) (Ą (Ė (bM (Ą (Ģ 5) (Ą (Ģ 6) (Ą (Ė (ł Ľ (Ā 7) (dM Jp (Ą (Ĉ aG (Ś (Ą (Ģ 5) (Ą (Ģ 6) Ĝ))) (Ś (Ą (Ģ 7) (Ą (Ģ 8) Ĝ)))) Ĝ)))) (Ą (Ģ 8) (Ą (Ģ 3) Ĝ))))))) Ĝ))))))
 dO)
 (Ğ (cU (dF (Ĉ aG (Ā 4) (mC (.int 2))))
 (ĳ (Ř (Ś (Ą (mC (.str "cloth")) (Ą (Ė (ł Ľ (Ė (ł Ľ (Ė (bM (Ą (Ģ 5) (Ą (Ģ 6) (Ą (Ĉ ō (Ĉ ě (Ā 2) (mC (.int 6))) (mC (.int 10))) Ĝ))))) (Ė (bM (Ą (Ė (Ē cu (ė (Ĉ ě (Ā 2) (mC (.int 7))) (ą 1 ď)))) (Ą (Ė (Ē cu (ė (Ĉ ě (Ā 2) (mC (.int 8))) (ą 1 ď)))) (Ą (Ģ 3) Ĝ))))))) (Ė (bM (Ą (Ė (Ē cu (ė (Ĉ ě (Ā 2) (mC (.int 9))) (ą 1 ď)))) (Ą (Ė (Ē cu (ė (Ĉ ě (Ā 2) (mC (.int 10))) (ą 1 ď)))) (Ą (Ė (Ē jM (ė (Ĉ ě (Ā 2) (mC (.int 11))) ď))) Ĝ))))))) Ĝ)))))
 dO)
 (ĳ (Ř (Ś (Ą (Ĉ ě (Ė (bM (Ą (mC (.str "sail")) (Ą (mC (.str "house")) Ĝ)))) (Ĉ ť (Ā 4) (mC (.int 3)))) (Ą (Ė (bM (Ą (Ģ 5) (Ą (Ģ 6) (Ą (Ė (ł Ľ (Ė (ł Ľ (Ā 5) (mC (.int 1)))) (Ĉ ō (Ĉ ě (Ā 2) (mC (.int 4))) (mC (.int 8))))) (Ą (Ė (ł Ľ (Ė (ł Ľ (Ā 6) (mC (.int 1)))) (Ĉ ō (Ĉ ě (Ā 2) (mC (.int 5))) (mC (.int 8))))) (Ą (Ģ 3) Ĝ))))))) Ĝ))))))))))))
noncomputable def dZ:MF:=Ņ 2 9 jo
noncomputable def Bs:M Fl:=(ĳ (Ř (uy mR mR (jr gG (mC (.int (1000000000)))) (Ā 0) (mC (.int (1000000000))))))
noncomputable def dg:MF:=Ņ 1 1 Bs
noncomputable def Bt:M Fl:=(ĳ (Ř (uy mR mR (mC (.int 1)) (Ā 0) (mC (.int (1000000000))))))
noncomputable def lN:MF:=Ņ 1 1 Bt
noncomputable def vg:M Fl:=(ĳ (Ř (eV (Ĉ aG (dM jC (Ą (Ā 0) Ĝ)) (mC (.int 3))) (eV (Ė (Ē dg (ė (Ĉ ě (Ā 0) (mC (.int 0))) ď))) (eV (Ė (Ē dg (ė (Ĉ ě (Ā 0) (mC (.int 1))) ď))) (Ė (Ē lN (ė (Ĉ ě (Ā 0) (mC (.int 2))) ď))))))))
noncomputable def pB:MF:=Ņ 1 1 vg
noncomputable def fL:M Fl:=(Ğ (iW 0 ["Thing","Post","Fence","Sail","Cloth","House"] "word" (Ģ 1))
 (iW 0 ["Thing","Post","Fence","Sail","Cloth","House"] "numbers" (Ė (nZ dX (Ą (Ā 2) Ĝ)))))
noncomputable def vh:MI:=cX 3 3 "Post" fL
noncomputable def pC:MI:=cX 3 3 "Fence" fL
noncomputable def vm:MI:=cX 3 3 "Sail" fL
noncomputable def pD:MI:=cX 3 3 "Cloth" fL
noncomputable def pF:MI:=cX 3 3 "House" fL
noncomputable def vo:M Fl:=(ĳ (Ř (eV (Ĉ aG (dM jC (Ą (Ā 0) Ĝ)) (mC (.int 5))) (eV (dM mV (Ą (Ė (Ŗ [] 1 (ũ (Ė (Ba (Ā 0) xg (mP (mC (.int 4)))))) (gN 0) ŋ (Ė (Ē dg (ą 0 ď))))) Ĝ)) (Ė (Ē lN (ė (Ĉ ě (Ā 0) (mC (.int 4))) ď)))))))
noncomputable def jN:MF:=Ņ 1 1 vo
noncomputable def vp:M Fl:=(ĳ (Ř (eV (Ė (Ē jN (ą 0 ď))) (Ĉ cG (Ė (Ba (Ā 0) xg (mP (mC (.int 2))))) (Ė (Ba (Ā 0) (mP (mC (.int 2))) (mP (mC (.int 4)))))))))
noncomputable def pG:MF:=Ņ 1 1 vp
noncomputable def Er:M Fl:=(ĳ (Ř (eV (Ė (Ē jN (ą 0 ď))) (eV (Ĉ mQ (Ĉ ě (Ā 0) (mC (.int 0))) (Ĉ ě (Ā 0) (mC (.int 2)))) (Ĉ mQ (Ĉ ě (Ā 0) (mC (.int 1))) (Ĉ ě (Ā 0) (mC (.int 3))))))))
noncomputable def vq:MF:=Ņ 1 1 Er
noncomputable def JR:M Fl:=(ĳ (Ř (eV (Ė (Ē dg (ė (Ĉ ě (Ā 0) (mC (.int 0))) ď))) (eV (Ė (Ē dg (ė (Ĉ ě (Ā 0) (mC (.int 1))) ď))) (uy mR mR (mC (.int 0)) (Ĉ ě (Ā 0) (mC (.int 2))) (mC (.int (1000000000))))))))
noncomputable def Gj:MF:=Ņ 1 1 JR
noncomputable def vA:M Fl:=(ĳ (Ř (eV (Ĉ aG (dM jC (Ą (Ā 0) Ĝ)) (mC (.int 9))) (dM mV (Ą (Ė (Ŗ [0] 1 (ũ (Ś (Ą (mC (.int 0)) (Ą (mC (.int 3)) (Ą (mC (.int 6)) Ĝ))))) (gN 1) ŋ (Ė (Ē Gj (ė (Ė (Ba (Ā 0) (mP (Ģ 1)) (mP (Ė (ł Ľ (Ā 1) (mC (.int 3))))))) ď))))) Ĝ)))))
noncomputable def pH:MF:=Ņ 1 1 vA
noncomputable def gO:M Fl:=(Ğ (cU (iQ (dF (Ĉ aG (Ā 0) (mC (.str "post")))) (cR (Ė (Ē pB (ą 1 ď)))))
 (ĳ (Ř (cj "Post" vh (ą 0 (ą 1 ď)))))
 dO)
 (Ğ (cU (iQ (dF (Ĉ aG (Ā 0) (mC (.str "fence")))) (cR (Ė (Ē pG (ą 1 ď)))))
 (ĳ (Ř (cj "Fence" pC (ą 0 (ą 1 ď)))))
 dO)
 (Ğ (cU (iQ (dF (Ĉ aG (Ā 0) (mC (.str "sail")))) (cR (Ė (Ē vq (ą 1 ď)))))
 (ĳ (Ř (cj "Sail" vm (ą 0 (ą 1 ď)))))
 dO)
 (Ğ (cU (iQ (dF (Ĉ aG (Ā 0) (mC (.str "cloth")))) (cR (Ė (Ē pH (ą 1 ď)))))
 (ĳ (Ř (cj "Cloth" pD (ą 0 (ą 1 ď)))))
 dO)
 (Ğ (cU (iQ (dF (Ĉ aG (Ā 0) (mC (.str "house")))) (cR (Ė (Ē vq (ą 1 ď)))))
 (ĳ (Ř (cj "House" pF (ą 0 (ą 1 ď)))))
 dO)
 (uK "BadThing"))))))
noncomputable def cP:MF:=Ņ 2 2 gO
noncomputable def Bu:M Fl:=(Ğ (Ĵ 1 (Ŗ [] 1 (Ő 0) (gN 0) ŋ (Ĉ ě (Ā 0) (mC (.int 0)))))
 (Ğ (Ĵ 2 (Ŗ [] 1 (Ő 0) (gN 0) ŋ (Ĉ ě (Ā 0) (mC (.int 1)))))
 (ĳ (bM (Ą (Ś (Ą (mC (.int 1)) (Ą (mC (.int 0)) (Ą (dM iY (Ą (Ā 1) Ĝ)) Ĝ)))) (Ą (Ś (Ą (jr gG (mC (.int 1))) (Ą (mC (.int 0)) (Ą (jr gG (dM rE (Ą (Ā 1) Ĝ))) Ĝ)))) (Ą (Ś (Ą (mC (.int 0)) (Ą (mC (.int 1)) (Ą (dM iY (Ą (Ā 2) Ĝ)) Ĝ)))) (Ą (Ś (Ą (mC (.int 0)) (Ą (jr gG (mC (.int 1))) (Ą (jr gG (dM rE (Ą (Ā 2) Ĝ))) Ĝ)))) Ĝ))))))))
noncomputable def sS:MF:=Ņ 1 3 Bu
noncomputable def lu:M Fl:=(cU (dF (Ĉ (inD true) (Ā 2) (Ā 1)))
 (uD 1 (Ģ 2))
 dO)
noncomputable def Bv:M Fl:=(Ğ (Ĵ 1 (bM Ĝ))
 (Ğ (cT (Ő 0) (gN 2) lu)
 (ĳ (dH 1))))
noncomputable def sU:MF:=Ņ 1 3 Bv
noncomputable def Bw:M Fl:=(Ğ (Ĵ 2 (Ř (Ĉ ť (Ĉ ě (Ā 1) (mC (.int 1))) (Ĉ ě (Ā 0) (mC (.int 1))))))
 (Ğ (Ĵ 3 (Ř (Ĉ ť (Ĉ ě (Ā 0) (mC (.int 0))) (Ĉ ě (Ā 1) (mC (.int 0))))))
 (ĳ (Ř (Ś (Ą (Ģ 2) (Ą (Ģ 3) (Ą (Ė (ł Ľ (Ĉ į (Ā 2) (Ĉ ě (Ā 0) (mC (.int 0)))) (Ĉ į (Ā 3) (Ĉ ě (Ā 0) (mC (.int 1)))))) Ĝ))))))))
noncomputable def sV:MF:=Ņ 2 4 Bw
noncomputable def Bx:M Fl:=(ĳ (Ř (Ĉ mR (Ė (ł Ľ (Ĉ į (Ĉ ě (Ā 0) (mC (.int 0))) (Ĉ ě (Ā 1) (mC (.int 0)))) (Ĉ į (Ĉ ě (Ā 0) (mC (.int 1))) (Ĉ ě (Ā 1) (mC (.int 1)))))) (Ĉ ě (Ā 0) (mC (.int 2))))))
noncomputable def i_:MF:=Ņ 2 2 Bx
noncomputable def lA:M Fl:=(Ğ (Ĵ 5 (Ē sV (ą 3 (ą 4 ď))))
 (cU (iQ (dF (Ĉ cG (Ā 3) (Ā 4))) (cR (dM mV (Ą (Ė (Ŗ [5] 1 (Ő 2) (gN 1) ŋ (Ė (Ē i_ (ą 0 (ą 1 ď)))))) Ĝ))))
 (uD 1 (Ģ 5))
 dO))
noncomputable def vB:M Fl:=(cT (Ő 2) (gN 4) lA)
noncomputable def BJ:M Fl:=(Ğ (Ĵ 1 (bM Ĝ))
 (Ğ (Ĵ 2 (Ē sU (ą 0 ď)))
 (Ğ (cT (Ő 2) (gN 3) vB)
 (ĳ (dH 1)))))
noncomputable def sW:MF:=Ņ 1 6 BJ
noncomputable def BK:M Fl:=(ĳ (ł Ľ (Ė (Ē sS (ą 0 ď))) (Ė (Ē sW (ą 0 ď)))))
noncomputable def lO:MF:=Ņ 1 1 BK
noncomputable def BL:M Fl:=(ĳ (Ř (Ś (Ą (Ė (ł Ľ (Ĉ į (Ĉ ě (Ā 1) (mC (.int 2))) (Ĉ ě (Ā 0) (mC (.int 0)))) (Ĉ į (Ĉ ě (Ā 1) (mC (.int 0))) (Ĉ ě (Ā 0) (mC (.int 2)))))) (Ą (Ė (ł Ľ (Ĉ į (Ĉ ě (Ā 1) (mC (.int 2))) (Ĉ ě (Ā 0) (mC (.int 1)))) (Ĉ į (Ĉ ě (Ā 1) (mC (.int 1))) (Ĉ ě (Ā 0) (mC (.int 2)))))) Ĝ)))))
noncomputable def jc:MF:=Ņ 2 2 BL
noncomputable def JT:M Fl:=(ĳ (bM (Ą (Ś (Ą (Ģ 0) (Ą (Ģ 1) (Ą (Ģ 4) Ĝ)))) (Ą (Ś (Ą (Ģ 2) (Ą (Ģ 1) (Ą (Ģ 4) Ĝ)))) (Ą (Ś (Ą (Ģ 2) (Ą (Ģ 3) (Ą (Ģ 4) Ĝ)))) (Ą (Ś (Ą (Ģ 0) (Ą (Ģ 3) (Ą (Ģ 4) Ĝ)))) Ĝ))))))
noncomputable def qG:MF:=Ņ 5 5 JT
noncomputable def BP:M Fl:=(ĳ (ł Ľ (Ė (Ē qG (ą 0 (ą 1 (ą 2 (ą 3 (ė (mC (.int 0)) ď))))))) (Ė (Ē qG (ą 0 (ą 1 (ą 2 (ą 3 (ą 4 ď)))))))))
noncomputable def lQ:MF:=Ņ 5 5 BP
noncomputable def BR:M Fl:=(Ğ (Ĵ 1 (Ř (Ĉ į (mC (.int 2)) (Ĉ ě (jr (aK ["Thing","Post","Fence","Sail","Cloth","House"] "numbers") (Ā 0)) (mC (.int 0))))))
 (Ğ (Ĵ 2 (Ř (Ĉ į (mC (.int 2)) (Ĉ ě (jr (aK ["Thing","Post","Fence","Sail","Cloth","House"] "numbers") (Ā 0)) (mC (.int 1))))))
 (ĳ (Ē lQ (ė (Ĉ ť (Ā 1) (mC (.int 1))) (ė (Ĉ ť (Ā 2) (mC (.int 1))) (ė (Ė (ł Ľ (Ā 1) (mC (.int 1)))) (ė (Ė (ł Ľ (Ā 2) (mC (.int 1)))) (ė (Ĉ ě (jr (aK ["Thing","Post","Fence","Sail","Cloth","House"] "numbers") (Ā 0)) (mC (.int 2))) ď)))))))))
noncomputable def lR:MF:=Ņ 1 3 BR
noncomputable def BW:M Fl:=(Ğ (Ĵ 1 (Ř (jr (aK ["Thing","Post","Fence","Sail","Cloth","House"] "numbers") (Ā 0))))
 (Ğ (Ĵ 2 (Ř (Ś (Ą (Ĉ ě (Ā 1) (mC (.int 0))) (Ą (Ĉ ě (Ā 1) (mC (.int 1))) Ĝ)))))
 (Ğ (Ĵ 3 (Ř (Ś (Ą (Ĉ ě (Ā 1) (mC (.int 2))) (Ą (Ĉ ě (Ā 1) (mC (.int 3))) Ĝ)))))
 (ĳ (bM (Ą (Ė (ł Ľ (Ā 2) (Ś (Ą (mC (.int 0)) Ĝ)))) (Ą (Ė (ł Ľ (Ā 3) (Ś (Ą (mC (.int 0)) Ĝ)))) (Ą (Ė (ł Ľ (Ā 3) (Ś (Ą (Ĉ ě (Ā 1) (mC (.int 4))) Ĝ)))) (Ą (Ė (ł Ľ (Ā 2) (Ś (Ą (Ĉ ě (Ā 1) (mC (.int 4))) Ĝ)))) Ĝ)))))))))
noncomputable def lU:MF:=Ņ 1 4 BW
noncomputable def BX:M Fl:=(Ğ (Ĵ 1 (Ř (jr (aK ["Thing","Post","Fence","Sail","Cloth","House"] "numbers") (Ā 0))))
 (ĳ (Ē qG (ė (Ĉ ě (Ā 1) (mC (.int 0))) (ė (Ĉ ě (Ā 1) (mC (.int 1))) (ė (Ĉ ě (Ā 1) (mC (.int 2))) (ė (Ĉ ě (Ā 1) (mC (.int 3))) (ė (Ĉ ě (Ā 1) (mC (.int 4))) ď))))))))
noncomputable def lV:MF:=Ņ 1 2 BX
noncomputable def BZ:M Fl:=(ĳ (Ŗ [0] 1 (ũ (Ś (Ą (mC (.int 0)) (Ą (mC (.int 3)) (Ą (mC (.int 6)) Ĝ))))) (gN 1) ŋ (dM oK (Ą (Ė (Ba (jr (aK ["Thing","Post","Fence","Sail","Cloth","House"] "numbers") (Ā 0)) (mP (Ģ 1)) (mP (Ė (ł Ľ (Ā 1) (mC (.int 3))))))) Ĝ))))
noncomputable def lW:MF:=Ņ 1 1 BZ
noncomputable def JV:M Fl:=(Ğ (Ĵ 1 (Ř (jr (aK ["Thing","Post","Fence","Sail","Cloth","House"] "numbers") (Ā 0))))
 (ĳ (Ē lQ (ė (Ĉ ě (Ā 1) (mC (.int 0))) (ė (Ĉ ě (Ā 1) (mC (.int 1))) (ė (Ĉ ě (Ā 1) (mC (.int 2))) (ė (Ĉ ě (Ā 1) (mC (.int 3))) (ė (Ĉ ě (Ā 1) (mC (.int 4))) ď))))))))
noncomputable def zJ:MF:=Ņ 1 2 JV
noncomputable def B_:M Fl:=(ĳ (Ŗ [1] 1 (Gg (ũ (Ė (oO "corners" [("Post",lR),("Fence",lU),("Sail",lV),("Cloth",lW),("House",zJ)] (Ģ 0) ď)))) (gN 1) ŋ (Ė (Ē jc (ą 1 (ą 0 ď))))))
noncomputable def jO:MF:=Ņ 2 2 B_
noncomputable def vC:M Fl:=(Ğ (cU (dF (Ĉ mQ (Ā 1) (Ā 0)))
 (ĳ (Ř (mC (.int 0))))
 dO)
 (ĳ (Ř (Ĉ ť (Ĉ wW (mC (.int 1)) (Ė (ł Ľ (Ā 1) (mC (.int 1))))) (Ĉ wW (mC (.int 1)) (Ā 0))))))
noncomputable def jP:MF:=Ņ 2 2 vC
noncomputable def dj:M Fl:=(Ğ (Ĵ 9 (Ř (Ĉ į (Ā 6) (Ā 1))))
 (Ğ (Ĵ 10 (Ř (Ĉ ť (Ā 8) (Ĉ į (Ĉ į (Ā 7) (Ā 1)) (Ā 2)))))
 (cU (dF (Ĉ Tf (Ā 9) (mC (.int 0))))
 (Ĵ 5 (Ř (dM rm (Ą (Ā 5) (Ą (Ĉ aU (Ā 10) (Ā 9)) Ĝ)))))
 (cU (dF (Ĉ mQ (Ā 9) (mC (.int 0))))
 (Ĵ 4 (Ř (dM Ec (Ą (Ā 4) (Ą (jr gG (Ĉ aU (Ā 10) (jr gG (Ā 9)))) Ĝ)))))
 (cU (dF (Ĉ mQ (Ā 10) (mC (.int 0))))
 (ĳ (Ř (mC (.int 0))))
 dO)))))
noncomputable def vD:M Fl:=(Ğ (Ĵ 4 (Ř (mC (.int 0))))
 (Ğ (Ĵ 5 (Ř (Ĉ ť (Ā 3) (mC (.int 1)))))
 (Ğ (cT (Ő 0) (gT 3 (Ħ (gN 6) (Ħ (gN 7) (Ħ (gN 8) Ŭ)))) dj)
 (ĳ (Ē jP (ą 4 (ą 5 ď)))))))
noncomputable def pI:MF:=Ņ 4 11 vD
noncomputable def vG:M Fl:=(xU 4 (Ĉ wW (Ė (Ē pI (ą 3 (ė (Ĉ į (mC (.int 2)) (Ĉ ě (Ā 2) (mC (.int 2)))) (ą 5 (ė (jr (aK ["Yard"] "width") (Ā 0)) ď)))))) (Ĉ į (Ā 5) (jr (aK ["Yard"] "width") (Ā 0)))))
noncomputable def Cd:M Fl:=(Ğ (Ĵ 3 (Ē lO (ė (Ė (Ē jO (ą 1 (ą 2 ď)))) ď)))
 (Ğ (Ĵ 4 (Ř (mC (.int 0))))
 (Ğ (cT (aF aA (Ą (jr (aK ["Yard"] "height") (Ā 0)) Ĝ)) (gN 5) vG)
 (ĳ (dH 4)))))
noncomputable def lX:MF:=Ņ 3 6 Cd
noncomputable def JW:M Fl:=(ĳ (Ŗ [0,1] 1 (ũ (jr (aK ["Yard"] "things") (Ā 0))) (gN 2) ŋ (Ė (Ē lX (ą 0 (ą 2 (ą 1 ď)))))))
noncomputable def Gk:MF:=Ņ 2 2 JW
noncomputable def Ce:M Fl:=(xU 2 (Ģ 3))
noncomputable def vH:M Fl:=(Ğ (cU (dF (Ĉ qC (Ā 1) (mC .non)))
 (ĳ (Ē jP (ė (mC (.int 0)) (ė (Ĉ ť (Ĉ į (jr (aK ["Yard"] "width") (Ā 0)) (jr (aK ["Yard"] "height") (Ā 0))) (mC (.int 1))) ď))))
 dO)
 (Ğ (Ĵ 2 (Ř (mC (.int 0))))
 (Ğ (cT (ũ (Ė (Ē Gk (ą 0 (ą 1 ď))))) (gN 3) Ce)
 (ĳ (dH 2)))))
noncomputable def fM:MF:=Ņ 2 4 vH
noncomputable def Cg:M Fl:=(ĳ (Ř (eV (uy mR mQ (mC (.int 0)) (Ĉ ě (Ā 1) (mC (.int 0))) (jr (aK ["Yard"] "width") (Ā 0))) (uy mR mQ (mC (.int 0)) (Ĉ ě (Ā 1) (mC (.int 1))) (jr (aK ["Yard"] "height") (Ā 0))))))
noncomputable def sX:MF:=Ņ 2 2 Cg
noncomputable def Ci:M Fl:=(cU (dI (cR (Ė (Ē sX (ą 0 (ą 1 ď))))))
 (nH "NoStone" 2 [("stone",1)] (Ą (Ģ 1) Ĝ))
 dO)
noncomputable def lY:MF:=Ņ 2 2 Ci
noncomputable def Cj:M Fl:=(ĳ (Ř (uy mR mQ (mC (.int 0)) (Ā 1) (dM jC (Ą (jr (aK ["Yard"] "days") (Ā 0)) Ĝ)))))
noncomputable def sY:MF:=Ņ 2 2 Cj
noncomputable def Ck:M Fl:=(cU (dI (cR (Ė (Ē sY (ą 0 (ą 1 ď))))))
 (nH "NoTurn" 3 [("day",1),("turn",2)] (Ą (Ģ 1) (Ą (mC .non) Ĝ)))
 dO)
noncomputable def sZ:MF:=Ņ 2 2 Ck
noncomputable def Cm:M Fl:=(ĳ (Ř (Ĉ ě (Ĉ ě (jr (aK ["Yard"] "days") (Ā 0)) (Ā 1)) (mC (.int 2)))))
noncomputable def lZ:MF:=Ņ 2 2 Cm
noncomputable def vI:M Fl:=(cU (dI (cR (Ė (Ē i_ (ą 2 (ą 1 ď))))))
 (ĳ (dH 2))
 dO)
noncomputable def vJ:M Fl:=(Ğ (cT (ũ (Ė (Ē lO (ą 0 ď)))) (gN 2) vI)
 (ĳ (Ř (mC .non))))
noncomputable def pJ:MF:=Ņ 2 3 vJ
noncomputable def pK:M Fl:=(Bm 1 (Ŗ [2] 1 (aF aA (Ą (Ģ 2) Ĝ)) (gN 1) ŋ (Ś (Ą (Ģ 1) (Ą (Ģ 0) Ĝ)))))
noncomputable def Cp:M Fl:=(Ğ (Ĵ 1 (bM Ĝ))
 (Ğ (cT (aF aA (Ą (Ģ 0) Ĝ)) (gN 2) pK)
 (ĳ (dH 1))))
noncomputable def mj:MF:=Ņ 1 3 Cp
noncomputable def pL:M Fl:=(Bm 1 (Ŗ [2] 1 (Gg (ũ (Ė (Ē mj (ą 2 ď))))) (gN 1) ŋ (Ś (Ą (Ĉ ě (Ā 1) (mC (.int 0))) (Ą (Ĉ ě (Ā 1) (mC (.int 1))) (Ą (Ģ 0) Ĝ))))))
noncomputable def Cq:M Fl:=(Ğ (Ĵ 1 (bM Ĝ))
 (Ğ (cT (aF aA (Ą (Ģ 0) Ĝ)) (gN 2) pL)
 (ĳ (dH 1))))
noncomputable def tu:MF:=Ņ 1 3 Cq
noncomputable def VB:M Fl:=(ż (dF (Ĉ cG (Ā 1) (mC (.int 0))))
 (Ğ (Ĵ 2 (Ř (Ĉ ō (Ā 0) (Ā 1))))
 (Ğ (Ĵ 0 (Ř (Ģ 1)))
 (Ĵ 1 (Ř (Ģ 2))))))
noncomputable def JX:M Fl:=(Ğ VB
 (ĳ (Ř (dM Tp (Ą (Ā 0) Ĝ)))))
noncomputable def Gm:MF:=Ņ 2 3 JX
noncomputable def vK:M Fl:=(Ğ (cU (dF (Ĉ aG (Ā 1) (mC (.int 0))))
 (uK "NoNumber")
 dO)
 (Ğ (Ĵ 2 (Ē Gm (ą 0 (ą 1 ď))))
 (Ğ (cU (dF (Ĉ mQ (Ā 1) (mC (.int 0))))
 (Ĵ 2 (Ř (jr gG (Ā 2))))
 dO)
 (ĳ (Ř (Ś (Ą (Ĉ aU (Ā 0) (Ā 2)) (Ą (Ĉ aU (Ā 1) (Ā 2)) Ĝ))))))))
noncomputable def gP:MF:=Ņ 2 3 vK
noncomputable def vL:M Fl:=(Av 4 (Ģ 6) (Ė (Ē gP (ą 5 (ą 3 ď)))))
noncomputable def lB:M Fl:=(Ğ (Ĵ 3 (Ř (dM Bk (Ą (Ā 0) Ĝ))))
 (Ğ (Ĵ 4 (Ŗ [3] 1 (aF aA (Ą (Ģ 2) Ĝ)) (gN 1) ŋ (Ė (Ē gP (ė (mC (.int 0)) (ą 0 ď))))))
 (Ğ (cT (Ge (Jv 0) (Jv 1)) (gT 2 (Ħ (gN 5) (Ħ (gN 6) Ŭ))) vL)
 (ĳ (dH 4)))))
noncomputable def d_:MF:=Ņ 3 7 lB
noncomputable def Cr:M Fl:=(Ğ (Ĵ 3 (Ř (Ĉ į (Ĉ ť (Ĉ ě (Ā 1) (mC (.int 0))) (Ĉ ě (Ā 0) (mC (.int 0)))) (Ĉ ť (Ĉ ě (Ā 2) (mC (.int 1))) (Ĉ ě (Ā 0) (mC (.int 1)))))))
 (ĳ (Ř (Ĉ ť (Ā 3) (Ĉ į (Ĉ ť (Ĉ ě (Ā 1) (mC (.int 1))) (Ĉ ě (Ā 0) (mC (.int 1)))) (Ĉ ť (Ĉ ě (Ā 2) (mC (.int 0))) (Ĉ ě (Ā 0) (mC (.int 0)))))))))
noncomputable def jd:MF:=Ņ 3 4 Cr
noncomputable def JZ:M Fl:=(Ğ (Ĵ 2 (Ř (Ĉ ě (Ā 0) (mC (.int 0)))))
 (Ğ (Ĵ 3 (Ř (Ĉ ě (Ā 0) (mC (.int 1)))))
 (Ğ (Ĵ 4 (Ř (Ĉ ě (Ā 0) (mC (.int 2)))))
 (ĳ (bM (Ą (Ė (Ē jd (ą 1 (ą 3 (ą 4 ď))))) (Ą (Ė (Ē jd (ą 2 (ą 1 (ą 4 ď))))) (Ą (Ė (Ē jd (ą 2 (ą 3 (ą 1 ď))))) Ĝ))))))))
noncomputable def Gn:MF:=Ņ 2 5 JZ
noncomputable def vM:M Fl:=(Ğ (Ĵ 1 (Ř (dM Bk (Ą (Ā 0) Ĝ))))
 (ĳ (Ř (eV (Ĉ cG (Ā 1) (mC (.int 0))) (dM mV (Ą (Ė (Ŗ [1] 1 (Ő 0) (gN 1) ŋ (Ĉ Il (Ĉ į (Ā 1) (Ā 0)) (mC (.int 0))))) Ĝ))))))
noncomputable def jQ:MF:=Ņ 1 2 vM
noncomputable def Cu:M Fl:=(Ğ (Ĵ 2 (Ř (Ĉ ť (Ĉ ě (Ĉ ě (Ā 0) (mC (.int 1))) (mC (.int 0))) (Ĉ ě (Ĉ ě (Ā 0) (mC (.int 0))) (mC (.int 0))))))
 (Ğ (Ĵ 3 (Ř (Ĉ ť (Ĉ ě (Ĉ ě (Ā 0) (mC (.int 1))) (mC (.int 1))) (Ĉ ě (Ĉ ě (Ā 0) (mC (.int 0))) (mC (.int 1))))))
 (Ğ (Ĵ 4 (ł Ľ (Ĉ į (Ā 2) (Ĉ ť (Ĉ ě (Ā 1) (mC (.int 0))) (Ĉ ě (Ĉ ě (Ā 0) (mC (.int 0))) (mC (.int 0))))) (Ĉ į (Ā 3) (Ĉ ť (Ĉ ě (Ā 1) (mC (.int 1))) (Ĉ ě (Ĉ ě (Ā 0) (mC (.int 0))) (mC (.int 1)))))))
 (ĳ (bM (Ą (Ĉ ť (Ė (ł Ľ (Ĉ į (Ā 2) (Ā 2)) (Ĉ į (Ā 3) (Ā 3)))) (Ā 4)) (Ą (Ģ 4) Ĝ)))))))
noncomputable def tD:MF:=Ņ 2 5 Cu
noncomputable def vN:M Fl:=(Ğ (Ĵ 4 (Ē tD (ė (Ė (Ŗ [0] 1 (Ő 3) (gN 1) ŋ (Ĉ ě (Ā 0) (Ā 1)))) (ą 1 ď))))
 (cU (cR (Ė (Ē jQ (ą 4 ď))))
 (ĳ (Ē d_ (ą 4 (ą 3 (ą 2 ď)))))
 dO))
noncomputable def vO:M Fl:=(Ğ (Ĵ 4 (Ē Gn (ė (Ė (Ŗ [0] 1 (Ő 3) (gN 1) ŋ (Ĉ ě (Ā 0) (Ā 1)))) (ą 1 ď))))
 (cU (cR (Ė (Ē jQ (ą 4 ď))))
 (ĳ (Ē d_ (ą 4 (ą 3 (ą 2 ď)))))
 dO))
noncomputable def pN:M Fl:=(Ğ (Ĵ 2 (Ř (dM jC (Ą (Ā 0) Ĝ))))
 (Ğ (cT (ũ (Ė (Ē tu (ą 2 ď)))) (gN 3) vO)
 (Ğ (cT (ũ (Ė (Ē mj (ą 2 ď)))) (gN 3) vN)
 (ĳ (Ē d_ (ė (Ė (bM (Ą (mC (.int 1)) Ĝ))) (ė (Ė (bM (Ą (mC (.int 0)) Ĝ))) (ą 2 ď))))))))
noncomputable def mq:MF:=Ņ 2 5 pN
noncomputable def vP:M Fl:=(Ğ (Ĵ 2 (Ē pJ (ą 0 (ą 1 ď))))
 (Ğ (cU (dF (Ĉ qC (Ā 2) (mC .non)))
 (ĳ (Ř (Ś (Ą (mC (.str "in")) (Ą (Ė (Ē mq (ą 0 (ą 1 ď)))) Ĝ)))))
 dO)
 (ĳ (Ř (Ś (Ą (mC (.str "out")) (Ą (Ģ 2) Ĝ)))))))
noncomputable def pO:MF:=Ņ 2 3 vP
noncomputable def Cv:M Fl:=(ĳ (Ē jc (ė (Ś (Ą (Ĉ į (mC (.int 2)) (Ĉ ě (Ā 0) (mC (.int 0)))) (Ą (Ĉ į (mC (.int 2)) (Ĉ ě (Ā 0) (mC (.int 1)))) (Ą (mC (.int 0)) Ĝ)))) (ą 1 ď))))
noncomputable def tE:MF:=Ņ 2 2 Cv
noncomputable def Cw:M Fl:=(ĳ (Ē pO (ė (Ė (Ē jO (ą 0 (ą 2 ď)))) (ė (Ė (Ē tE (ą 1 (ą 2 ď)))) ď))))
noncomputable def tH:MF:=Ņ 3 3 Cw
noncomputable def vQ:M Fl:=(ĳ (Ř (Ĉ aG (Ĉ ě (Ė (Ē tH (ą 0 (ą 1 (ą 2 ď))))) (mC (.int 0))) (mC (.str "in")))))
noncomputable def mz:MF:=Ņ 3 3 vQ
noncomputable def vR:M Fl:=(cU (cR (Ė (Ē mz (ą 3 (ą 2 (ą 1 ď))))))
 (ĳ (Ř (mC (.bl true))))
 dO)
noncomputable def pP:M Fl:=(Ğ (cU (dF (Ĉ qC (Ā 1) (mC .non)))
 (ĳ (Ř (mC (.bl true))))
 dO)
 (Ğ (cT (ũ (jr (aK ["Yard"] "things") (Ā 0))) (gN 3) vR)
 (ĳ (Ř (mC (.bl false))))))
noncomputable def eE:MF:=Ņ 3 4 pP
noncomputable def Cy:M Fl:=(Ğ (wN (Ė (Ē lY (ą 0 (ą 2 ď)))))
 (Ğ (wN (Ė (Ē sZ (ą 0 (ą 1 ď)))))
 (ĳ (Ŗ [0,2] 2 (Gg (Em (mLs (Ė (Ē lZ (ą 0 (ą 1 ď))))))) (gT 2 (Ħ (gN 2) (Ħ (gN 3) Ŭ))) (dI (cR (Ė (Ē eE (ą 0 (ą 3 (ą 1 ď))))))) (Ģ 2)))))
noncomputable def mD:MF:=Ņ 3 3 Cy
noncomputable def vU:M Fl:=(Ğ (cU (dF (Ĉ qC (Ā 1) (mC .non)))
 (ĳ (Ř (Ĉ qC (Ā 0) (mC .non))))
 dO)
 (Ğ (cU (Sw (dI (cR (dM (cZ Zk Zl Zm Zn) (Ą (Ā 0) (Ą (mC (.ty "tuple")) Ĝ))))) (dF (Ĉ cG (Ā 0) (Ā 1))))
 (ĳ (Ř (mC (.bl false))))
 dO)
 (ĳ (Ř (dM mV (Ą (Ė (Ŗ [] 1 (Ő 0) (gN 0) ŋ (eV (dM (cZ Zk Zl Zm Zn) (Ą (Ā 0) (Ą (mC (.ty "int")) Ĝ))) (Ig (dM (cZ Zk Zl Zm Zn) (Ą (Ā 0) (Ą (mC (.ty "bool")) Ĝ))))))) Ĝ))))))
noncomputable def pQ:MF:=Ņ 2 2 vU
noncomputable def Cz:M Fl:=(Ğ (cU (Sw (dI (cR (dM (cZ Zk Zl Zm Zn) (Ą (Ā 0) (Ą (mC (.ty "list")) Ĝ))))) (dF (Ĉ cG (Ā 0) (Ā 1))))
 (ĳ (Ř (mC (.bl false))))
 dO)
 (ĳ (Ř (dM mV (Ą (Ė (Ŗ [] 1 (Ő 0) (gN 0) ŋ (eV (dM (cZ Zk Zl Zm Zn) (Ą (Ā 0) (Ą (mC (.ty "int")) Ĝ))) (Ig (dM (cZ Zk Zl Zm Zn) (Ą (Ā 0) (Ą (mC (.ty "bool")) Ĝ))))))) Ĝ)))))
noncomputable def mF:MF:=Ņ 2 2 Cz
noncomputable def vV:M Fl:=(cU (dI (cR (Ė (Ē eE (ą 0 (ą 4 (ą 1 ď)))))))
 (ĳ (Ř (Ś (Ą (Ģ 2) (Ą (Ģ 3) Ĝ)))))
 dO)
noncomputable def vW:M Fl:=(cT (Em (mLs (Ė (Ē lZ (ą 0 (ą 2 ď)))))) (gT 2 (Ħ (gN 3) (Ħ (gN 4) Ŭ))) vV)
noncomputable def vX:M Fl:=(Ğ (wN (Ė (Ē lY (ą 0 (ą 1 ď)))))
 (Ğ (cT (aF aA (Ą (dM jC (Ą (jr (aK ["Yard"] "days") (Ā 0)) Ĝ)) Ĝ)) (gN 2) vW)
 (ĳ (Ř (mC .non)))))
noncomputable def pR:MF:=Ņ 2 5 vX
noncomputable def lE:M Fl:=(Ğ (Ĵ 11 (Ŗ [7,6,10] 1 (aF aA (Ą (dM jC (Ą (Ĉ ě (Ā 6) (Ā 10)) Ĝ)) Ĝ)) (gN 3) (dF (Ĉ aG (Ĉ oF (Ĉ wY (Ĉ ě (Ĉ ě (Ā 1) (Ā 2)) (Ā 3)) (Ā 0)) (mC (.int 1))) (mC (.int 0)))) (Ģ 3)))
 (Ğ (cU (iQ (dF (Ĉ qC (Ā 9) (mC .non))) (dF (Ĉ cG (Ā 11) (Ė (bM Ĝ)))))
 (Ĵ 9 (Ř (Ś (Ą (Ģ 10) (Ą (Ĉ ě (Ā 11) (mC (.int 0))) Ĝ)))))
 dO)
 (Ğ (Ĵ 12 (Ē mD (ą 5 (ą 10 (ą 8 ď)))))
 (Ğ (cU (dI (cR (Ė (Ē mF (ą 12 (ą 11 ď))))))
 (ĳ (Ř (mC (.bl false))))
 dO)
 (Ğ (uD 12 (mC (.int 0)))
 (cU (dI (cR (Ė (Ē mF (ė (Ė (Ē mD (ą 5 (ą 10 (ą 8 ď))))) (ą 11 ď))))))
 (ĳ (Ř (mC (.bl false))))
 dO))))))
noncomputable def pU:M Fl:=(Ğ (Ĵ 8 (Ř (Ś (Ą (Ĉ ō (Ā 7) (Ĉ ě (Ā 1) (mC (.int 0)))) (Ą (Ĉ aU (Ā 7) (Ĉ ě (Ā 1) (mC (.int 0)))) Ĝ)))))
 (Ğ (Ĵ 9 (Ř (mC .non)))
 (Ğ (cT (aF aA (Ą (dM jC (Ą (Ā 3) Ĝ)) Ĝ)) (gN 10) lE)
 (cU (dI (cR (Ė (Ē pQ (ė (Ė (Ē pR (ą 5 (ą 8 ď)))) (ą 9 ď))))))
 (ĳ (Ř (mC (.bl false))))
 dO))))
noncomputable def CG:M Fl:=(Ğ (Ĵ 1 (Ē dY (ė (Ė (Ē Ű (ą 0 (ė (mC (.int 0)) ď)))) (ė (mC (.int 9)) ď))))
 (Ğ (Ĵ 2 (Ŗ [1] 1 (ũ (Ė (Ba (Ā 0) (mP (mC (.int 2))) (mP (mC (.int 6)))))) (gN 1) ŋ (Ė (Ē dZ (ą 1 (ė (dM iY (Ą (Ā 0) Ĝ)) ď))))))
 (Ğ (Ĵ 3 (Ē fK (ą 0 (ė (mC (.int 6)) (ė (Ĉ ō (Ė (Ē Ű (ą 0 (ė (mC (.int 1)) ď)))) (mC (.int 4))) (ė (mC (.int 4)) ď))))))
 (Ğ (cU (dF (Ĉ aG (Ĉ ō (Ĉ aU (Ė (Ē Ű (ą 0 (ė (mC (.int 1)) ď)))) (mC (.int 4))) (mC (.int 16))) (mC (.int 9))))
 (Ğ (Ĵ 1 (Ř (Ś (Ą (Ė (ł Ľ (mC (.int 1)) (Ĉ ō (Ė (Ē Ű (ą 0 (ė (mC (.int 0)) ď)))) (mC (.int 2))))) (Ą (mC (.int 1)) Ĝ)))))
 (Ğ (Ĵ 2 (Ba (Ā 2) xg (mP (mC (.int 1)))))
 (Ĵ 3 (Ē fK (ą 0 (ė (mC (.int 6)) (ė (mC (.int 3)) (ė (mC (.int 24)) ď))))))))
 dO)
 (Ğ (Ĵ 4 (Ŗ [] 2 (Ő 2) (gT 2 (Ħ (gN 0) (Ħ (gN 1) Ŭ))) ŋ (Ė (Ē cP (ą 0 (ė (Ė (nZ dX (Ą (Ā 1) Ĝ))) ď))))))
 (Ğ (Ĵ 5 (Ř (cj "Yard" jL (ė (Ĉ ě (Ā 1) (mC (.int 0))) (ė (Ĉ ě (Ā 1) (mC (.int 1))) (ą 4 (ą 3 ď)))))))
 (Ğ (Ĵ 6 (Ŗ [5] 3 (Ő 3) (gT 3 (Ħ (gN 1) (Ħ (gN 2) (Ħ (gN 3) Ŭ)))) ŋ (Ė (Ŗ [0] 1 (Ő 3) (gN 1) ŋ (Ė (Ē fM (ą 0 (ą 1 ď))))))))
 (Ğ (cT (aF aA (Ą (Ĉ į (Ĉ ě (Ā 1) (mC (.int 0))) (Ĉ ě (Ā 1) (mC (.int 1)))) Ĝ)) (gN 7) pU)
 (ĳ (Ř (mC (.bl true))))))))))))
noncomputable def mG:MF:=Ņ 1 13 CG
set_option genInjectivity false
set_option genSizeOf false
structure Adr where
 J_:Addr
 Ka:FuncData
 Kc:Addr
 Kd:FuncData
 Ke:Addr
 Kf:FuncData
 Kg:Addr
 Kh:FuncData
 Kl:Addr
 Km:FuncData
 Ko:Addr
 Kp:FuncData
 Kq:Addr
 Kr:FuncData
 Ks:Addr
 Ku:FuncData
 Kv:Addr
 Kw:FuncData
 Ky:Addr
 Kz:FuncData
 KC:Addr
 KD:FuncData
 KH:Addr
 KJ:FuncData
 mZ:Addr
 CJ:FuncData
 KN:Addr
 KQ:FuncData
 KR:Addr
 KY:FuncData
 Zaw:Addr
 Zax:FuncData
 Zay:Addr
 Zaz:FuncData
 KZ:Addr
 K_:FuncData
 La:Addr
 Lb:FuncData
 Ld:Addr
 Le:FuncData
 Lf:Addr
 Lg:FuncData
 Li:Addr
 Lj:FuncData
 Lk:Addr
 Lp:FuncData
 Lq:Addr
 Lr:FuncData
 Ls:Addr
 Lw:FuncData
 Lx:Addr
 Ly:FuncData
 ZaA:Addr
 ZaB:FuncData
 Lz:Addr
 LC:FuncData
 LQ:Addr
 LR:FuncData
 L_:Addr
 Ma:FuncData
 Mf:Addr
 Mg:FuncData
 Mh:Addr
 Mi:FuncData
 ZaC:Addr
 ZaD:FuncData
 Mj:Addr
 Ml:FuncData
 Mp:Addr
 Mq:FuncData
 Mr:Addr
 Ms:FuncData
 Mt:Addr
 Mu:FuncData
 ZaE:Addr
 ZaF:FuncData
 Mv:Addr
 Mw:FuncData
 Mx:Addr
 Mz:FuncData
 MJ:Addr
 MK:FuncData
 MN:Addr
 MP:FuncData
 M_:Addr
 Nb:FuncData
 Nf:Addr
 Ng:FuncData
 Nh:Addr
 Ni:FuncData
 Nj:Addr
 Nk:FuncData
 Nm:Addr
 Np:FuncData
 ZaG:Addr
 ZaH:FuncData
 Nq:Addr
 Nr:FuncData
 Nt:Addr
 Nu:FuncData
 Nv:Addr
 Nx:FuncData
 ZaI:Addr
 ZaJ:FuncData
 Ny:Addr
 Nz:FuncData
 NK:Addr
 NP:FuncData
 NQ:Addr
 NT:FuncData
 NZ:Addr
 N_:FuncData
 Oa:Addr
 Ob:FuncData
 Oc:Addr
 Od:FuncData
 Oe:Addr
 Og:FuncData
 Oh:Addr
 Oi:FuncData
 Oj:Addr
 Ol:FuncData
 Om:Addr
 Oo:FuncData
 Oq:Addr
 Ot:FuncData
 Ou:Addr
 Ov:FuncData
 Ow:Addr
 Ox:FuncData
 ZaK:Addr
 ZaL:FuncData
 ZaM:Addr
 ZaN:FuncData
 zK:Addr
 CK:Addr
 CN:Addr
 Gp:Addr
 Oz:Addr
 ZaO:Addr
 Uq:Addr
 ZaP:Addr
 Ur:Addr
 ZaQ:Addr
 Us:Addr
 Ut:Addr
 qH:Tok
 vY:Tok
def ĩ(a:Adr):String→Addr:=bO a.zK a.CK a.CN a.Gp a.Oz a.ZaO a.Uq a.ZaP a.Ur a.ZaQ a.Us a.Ut
structure Tx(K:PySem.W.Frag)(mg:Str→Option Value)(a:Adr):Prop where
 VD:Ŷ K "_law_size" "_law_size" yx a.J_ a.Ka
 dY:mg "_law_size" =some (.ref a.J_)
 Zen:Binds K a.Ka ["_law_cell","_law_most"] []
 pW:Ŷ K "_law_at" "_law_at" yC a.Kc a.Kd
 Ű:mg "_law_at" =some (.ref a.Kc)
 tK:Binds K a.Kd ["_law_script","_law_k"] []
 OD:Ŷ K "_law_grains" "_law_grains" yD a.Ke a.Kf
 iZ:mg "_law_grains" =some (.ref a.Ke)
 VF:Binds K a.Kf ["_law_cell","_law_many"] []
 VG:Ŷ K "_law_sky" "_law_sky" yE a.Kg a.Kh
 jK:mg "_law_sky" =some (.ref a.Kg)
 Zeo:Binds K a.Kh ["_law_xs"] []
 OJ:Ŷ K "_law_days" "_law_days" rM a.Kl a.Km
 fK:mg "_law_days" =some (.ref a.Kl)
 VH:Binds K a.Km ["_law_script","_law_start","_law_many","_law_long"] []
 Zep:Ŷ K "__init__" "Yard.__init__" rN a.Ko a.Kp
 Zeq:Binds K a.Kp ["self","width","height","things","days"] []
 O_:Ŷ K "_law_height" "_law_height" yF a.Kq a.Kr
 jM:mg "_law_height" =some (.ref a.Kq)
 VJ:Binds K a.Kr ["_law_number"] []
 tM:Ŷ K "_law_place" "_law_place" yG a.Ks a.Ku
 cu:mg "_law_place" =some (.ref a.Ks)
 zL:Binds K a.Ku ["_law_number","_law_wide"] []
 VL:Ŷ K "_law_thing" "_law_thing" rP a.Kv a.Kw
 dZ:mg "_law_thing" =some (.ref a.Kv)
 Zer:Binds K a.Kw ["_law_cell","_law_wide"] []
 tQ:Ŷ K "is_place" "is_place" yH a.Ky a.Kz
 dg:mg "is_place" =some (.ref a.Ky)
 zM:Binds K a.Kz ["number"] []
 Pa:Ŷ K "is_height" "is_height" yI a.KC a.KD
 lN:mg "is_height" =some (.ref a.KC)
 VN:Binds K a.KD ["number"] []
 VP:Ŷ K "makes_post" "makes_post" yJ a.KH a.KJ
 pB:mg "makes_post" =some (.ref a.KH)
 Zes:Binds K a.KJ ["numbers"] []
 Pb:Ŷ K "__init__" "Thing.__init__" JD a.mZ a.CJ
 Pg:Binds K a.CJ ["self","word","numbers"] []
 Ph:Ŷ K "has_two_ends" "has_two_ends" rQ a.KN a.KQ
 jN:mg "has_two_ends" =some (.ref a.KN)
 VR:Binds K a.KQ ["numbers"] []
 V_:Ŷ K "makes_fence" "makes_fence" yK a.KR a.KY
 pG:mg "makes_fence" =some (.ref a.KR)
 Zet:Binds K a.KY ["numbers"] []
 ZaR:Ŷ K "makes_sail_or_house" "makes_sail_or_house" JF a.Zaw a.Zax
 vq:mg "makes_sail_or_house" =some (.ref a.Zaw)
 Zeu:Binds K a.Zax ["numbers"] []
 Zev:Ŷ K "is_cloth_corner" "is_cloth_corner" JG a.Zay a.Zaz
 Gj:mg "is_cloth_corner" =some (.ref a.Zay)
 Zmj:Binds K a.Zaz ["numbers"] []
 Wa:Ŷ K "makes_cloth" "makes_cloth" rT a.KZ a.K_
 pH:mg "makes_cloth" =some (.ref a.KZ)
 Zew:Binds K a.K_ ["numbers"] []
 Wb:Ŷ K "thing_of" "thing_of" yL a.La a.Lb
 cP:mg "thing_of" =some (.ref a.La)
 Zex:Binds K a.Lb ["word","numbers"] []
 Wc:Ŷ K "box_lines" "box_lines" pq a.Ld a.Le
 sS:mg "box_lines" =some (.ref a.Ld)
 Zey:Binds K a.Le ["points"] []
 Wd:Ŷ K "each_once" "each_once" yM a.Lf a.Lg
 sU:mg "each_once" =some (.ref a.Lf)
 Zez:Binds K a.Lg ["points"] []
 Wf:Ŷ K "line_through" "line_through" yN a.Li a.Lj
 sV:mg "line_through" =some (.ref a.Li)
 ZeA:Binds K a.Lj ["one","other"] []
 Pj:Ŷ K "holds" "holds" yO a.Lk a.Lp
 i_:mg "holds" =some (.ref a.Lk)
 Wg:Binds K a.Lp ["line","pair"] []
 Wh:Ŷ K "edge_lines" "edge_lines" rW a.Lq a.Lr
 sW:mg "edge_lines" =some (.ref a.Lq)
 ZeB:Binds K a.Lr ["points"] []
 Pk:Ŷ K "lines_about" "lines_about" yP a.Ls a.Lw
 lO:mg "lines_about" =some (.ref a.Ls)
 Wi:Binds K a.Lw ["points"] []
 Pn:Ŷ K "cast" "cast" yQ a.Lx a.Ly
 jc:mg "cast" =some (.ref a.Lx)
 Wj:Binds K a.Ly ["point","ray"] []
 Uu:Ŷ K "level_corners" "level_corners" JH a.ZaA a.ZaB
 qG:mg "level_corners" =some (.ref a.ZaA)
 ZaS:Binds K a.ZaB ["x","y","u","v","z"] []
 Pq:Ŷ K "block_corners" "block_corners" yR a.Lz a.LC
 lQ:mg "block_corners" =some (.ref a.Lz)
 Wk:Binds K a.LC ["x","y","u","v","h"] []
 ZeC:Ŷ K "corners" "Post.corners" yS a.LQ a.LR
 ZeD:Binds K a.LR ["self"] []
 ZeE:Ŷ K "corners" "Fence.corners" yU a.L_ a.Ma
 ZeF:Binds K a.Ma ["self"] []
 ZeG:Ŷ K "corners" "Sail.corners" yV a.Mf a.Mg
 ZeH:Binds K a.Mg ["self"] []
 ZeI:Ŷ K "corners" "Cloth.corners" rY a.Mh a.Mi
 ZeJ:Binds K a.Mi ["self"] []
 Zmk:Ŷ K "corners" "House.corners" JK a.ZaC a.ZaD
 Zml:Binds K a.ZaD ["self"] []
 Pr:Ŷ K "corner_casts" "corner_casts" rZ a.Mj a.Ml
 jO:mg "corner_casts" =some (.ref a.Mj)
 Wm:Binds K a.Ml ["thing","ray"] []
 Pu:Ŷ K "span_bits" "span_bits" yW a.Mp a.Mq
 jP:mg "span_bits" =some (.ref a.Mp)
 Wn:Binds K a.Mq ["first","last"] []
 Wo:Ŷ K "row_bits" "row_bits" yX a.Mr a.Ms
 pI:mg "row_bits" =some (.ref a.Mr)
 ZeK:Binds K a.Ms ["lines","unit","q","width"] []
 Wq:Ŷ K "dark_of" "dark_of" yZ a.Mt a.Mu
 lX:mg "dark_of" =some (.ref a.Mt)
 ZeL:Binds K a.Mu ["yard","thing","ray"] []
 ZeM:Ŷ K "darks_of_things" "darks_of_things" Gi a.ZaE a.ZaF
 Gk:mg "darks_of_things" =some (.ref a.ZaE)
 Zmm:Binds K a.ZaF ["yard","ray"] []
 Wr:Ŷ K "dark" "dark" za a.Mv a.Mw
 fM:mg "dark" =some (.ref a.Mv)
 ZeN:Binds K a.Mw ["yard","turn"] []
 Ws:Ŷ K "has_stone" "has_stone" zc a.Mx a.Mz
 sX:mg "has_stone" =some (.ref a.Mx)
 ZeO:Binds K a.Mz ["yard","stone"] []
 Px:Ŷ K "check_stone" "check_stone" zf a.MJ a.MK
 lY:mg "check_stone" =some (.ref a.MJ)
 Wt:Binds K a.MK ["yard","stone"] []
 Wu:Ŷ K "has_day" "has_day" zj a.MN a.MP
 sY:mg "has_day" =some (.ref a.MN)
 ZeP:Binds K a.MP ["yard","day"] []
 Wv:Ŷ K "check_day" "check_day" zm a.M_ a.Nb
 sZ:mg "check_day" =some (.ref a.M_)
 ZeQ:Binds K a.Nb ["yard","day"] []
 Py:Ŷ K "turns_of" "turns_of" zp a.Nf a.Ng
 lZ:mg "turns_of" =some (.ref a.Nf)
 Ww:Binds K a.Ng ["yard","day"] []
 Wx:Ŷ K "parting_line" "parting_line" zq a.Nh a.Ni
 pJ:mg "parting_line" =some (.ref a.Nh)
 ZeR:Binds K a.Ni ["points","point"] []
 Pz:Ŷ K "pairs_below" "pairs_below" su a.Nj a.Nk
 mj:mg "pairs_below" =some (.ref a.Nj)
 Wy:Binds K a.Nk ["many"] []
 Wz:Ŷ K "triples_below" "triples_below" sy a.Nm a.Np
 tu:mg "triples_below" =some (.ref a.Nm)
 ZeS:Binds K a.Np ["many"] []
 ZeT:Ŷ K "greatest_divisor" "greatest_divisor" JL a.ZaG a.ZaH
 Gm:mg "greatest_divisor" =some (.ref a.ZaG)
 Zmn:Binds K a.ZaH ["one","other"] []
 PJ:Ŷ K "ratio" "ratio" zu a.Nq a.Nr
 gP:mg "ratio" =some (.ref a.Nq)
 WD:Binds K a.Nr ["top","bottom"] []
 Es:Ŷ K "spread" "spread" sE a.Nt a.Nu
 d_:mg "spread" =some (.ref a.Nt)
 PK:Binds K a.Nu ["shares","places","many"] []
 Et:Ŷ K "turned" "turned" zx a.Nv a.Nx
 jd:mg "turned" =some (.ref a.Nv)
 PL:Binds K a.Nx ["one","other","third"] []
 ZeU:Ŷ K "shares_of_three" "shares_of_three" JM a.ZaI a.ZaJ
 Gn:mg "shares_of_three" =some (.ref a.ZaI)
 Zmo:Binds K a.ZaJ ["corners","point"] []
 PN:Ŷ K "are_weights" "are_weights" sG a.Ny a.Nz
 jQ:mg "are_weights" =some (.ref a.Ny)
 WK:Binds K a.Nz ["shares"] []
 WL:Ŷ K "shares_of_two" "shares_of_two" zy a.NK a.NP
 tD:mg "shares_of_two" =some (.ref a.NK)
 ZeV:Binds K a.NP ["ends","point"] []
 WM:Ŷ K "weights_of" "weights_of" pA a.NQ a.NT
 mq:mg "weights_of" =some (.ref a.NQ)
 ZeW:Binds K a.NT ["points","point"] []
 WQ:Ŷ K "held" "held" zA a.NZ a.N_
 pO:mg "held" =some (.ref a.NZ)
 ZeX:Binds K a.N_ ["points","point"] []
 WR:Ŷ K "stone_cast" "stone_cast" zB a.Oa a.Ob
 tE:mg "stone_cast" =some (.ref a.Oa)
 ZeY:Binds K a.Ob ["stone","ray"] []
 WT:Ŷ K "shading" "shading" zE a.Oc a.Od
 tH:mg "shading" =some (.ref a.Oc)
 ZeZ:Binds K a.Od ["thing","stone","ray"] []
 WW:Ŷ K "shades" "shades" zF a.Oe a.Og
 mz:mg "shades" =some (.ref a.Oe)
 Ze0:Binds K a.Og ["thing","stone","ray"] []
 P_:Ŷ K "is_dark" "is_dark" zG a.Oh a.Oi
 eE:mg "is_dark" =some (.ref a.Oh)
 WX:Binds K a.Oi ["yard","turn","stone"] []
 Qa:Ŷ K "lit_turns" "lit_turns" sI a.Oj a.Ol
 mD:mg "lit_turns" =some (.ref a.Oj)
 WY:Binds K a.Ol ["yard","day","stone"] []
 W_:Ŷ K "_law_pair" "_law_pair" sJ a.Om a.Oo
 pQ:mg "_law_pair" =some (.ref a.Om)
 Ze1:Binds K a.Oo ["_law_found","_law_due"] []
 Qc:Ŷ K "_law_numbers" "_law_numbers" sO a.Oq a.Ot
 mF:mg "_law_numbers" =some (.ref a.Oq)
 Xa:Binds K a.Ot ["_law_found","_law_due"] []
 Xb:Ŷ K "first_lit" "first_lit" zH a.Ou a.Ov
 pR:mg "first_lit" =some (.ref a.Ou)
 Ze2:Binds K a.Ov ["yard","stone"] []
 Ze3:Ŷ K "law" "law" fJ a.Ow a.Ox
 mG:mg "law" =some (.ref a.Ow)
 Zps:Binds K a.Ox ["_law_script"] []
 Zmp:Ŷ K "__init__" "NoStone.__init__" JN a.ZaK a.ZaL
 Zmq:Binds K a.ZaL ["self","stone"] []
 Zmr:Ŷ K "__init__" "NoTurn.__init__" JQ a.ZaM a.ZaN
 Zms:Binds K a.ZaN ["self","day","turn"] []
 Xc:mg "YardError" =some (.ref (ĩ a "YardError"))
 CP:mg "NoNumber" =some (.ref (ĩ a "NoNumber"))
 CQ:mg "BadThing" =some (.ref (ĩ a "BadThing"))
 Gq:mg "NoStone" =some (.ref (ĩ a "NoStone"))
 Qd:mg "NoTurn" =some (.ref (ĩ a "NoTurn"))
 ZaT:mg "Yard" =some (.ref (ĩ a "Yard"))
 Zks:mg "Thing" =some (.ref (ĩ a "Thing"))
 ZaU:mg "Post" =some (.ref (ĩ a "Post"))
 Uv:mg "Fence" =some (.ref (ĩ a "Fence"))
 ZaV:mg "Sail" =some (.ref (ĩ a "Sail"))
 Uw:mg "Cloth" =some (.ref (ĩ a "Cloth"))
 Ux:mg "House" =some (.ref (ĩ a "House"))
 Xd:PySem.W.excIn K (ĩ a "YardError") zU TJ=true
 Xe:PySem.W.keepIn K (.ref (ĩ a "YardError"))=true
 Xf:ž K (ĩ a "YardError")=true
 CT:PySem.W.excIn K (ĩ a "NoNumber") zU TJ=true
 ZaW:PySem.W.keepIn K (.ref (ĩ a "NoNumber"))=true
 ZaX:ž K (ĩ a "NoNumber")=true
 CV:PySem.W.excIn K (ĩ a "BadThing") zU TJ=true
 ZaY:PySem.W.keepIn K (.ref (ĩ a "BadThing"))=true
 ZaZ:ž K (ĩ a "BadThing")=true
 Gs:XMk K (ĩ a "NoStone") a.ZaK
 Gu:ž K (ĩ a "NoStone")=true
 m_:ň K (ĩ a "NoStone") "stone"
 Qe:XMk K (ĩ a "NoTurn") a.ZaM
 zN:ž K (ĩ a "NoTurn")=true
 vZ:ň K (ĩ a "NoTurn") "day"
 qI:ň K (ĩ a "NoTurn") "turn"
 aH:Cls K (ĩ a "Yard")
 Za0:Mk K (ĩ a "Yard") a.Ko
 bC:ň K (ĩ a "Yard") "width"
 bU:ň K (ĩ a "Yard") "height"
 dw:ň K (ĩ a "Yard") "things"
 dh:ň K (ĩ a "Yard") "days"
 Ť:Cls K (ĩ a "Thing")
 Zkt:Mk K (ĩ a "Thing") a.mZ
 bD:ň K (ĩ a "Thing") "word"
 ĸ:ň K (ĩ a "Thing") "numbers"
 Ŵ:Cls K (ĩ a "Post")
 Za1:Mk K (ĩ a "Post") a.mZ
 bW:ň K (ĩ a "Post") "word"
 ŀ:ň K (ĩ a "Post") "numbers"
 pX:Meth K (ĩ a "Post") "corners" a.LQ
 ŝ:Cls K (ĩ a "Fence")
 Uy:Mk K (ĩ a "Fence") a.mZ
 bF:ň K (ĩ a "Fence") "word"
 Ĺ:ň K (ĩ a "Fence") "numbers"
 ni:Meth K (ĩ a "Fence") "corners" a.L_
 ŵ:Cls K (ĩ a "Sail")
 Za2:Mk K (ĩ a "Sail") a.mZ
 bY:ň K (ĩ a "Sail") "word"
 Ł:ň K (ĩ a "Sail") "numbers"
 pY:Meth K (ĩ a "Sail") "corners" a.Mf
 Ş:Cls K (ĩ a "Cloth")
 Uz:Mk K (ĩ a "Cloth") a.mZ
 bG:ň K (ĩ a "Cloth") "word"
 ĺ:ň K (ĩ a "Cloth") "numbers"
 nj:Meth K (ĩ a "Cloth") "corners" a.Mh
 ş:Cls K (ĩ a "House")
 UG:Mk K (ĩ a "House") a.mZ
 bH:ň K (ĩ a "House") "word"
 Ļ:ň K (ĩ a "House") "numbers"
 nq:Meth K (ĩ a "House") "corners" a.ZaC
 iC:uN (fun C D b=>cY K (ĩ a C)=true∧PySem.W.kitOne K (.ref (ĩ a C)) (.ref (ĩ a D))=some b) Zk
 iT:uN (fun C D b=>cY K (ĩ a C)=true∧PySem.W.kitOne K (.ref (ĩ a C)) (.type D)=some b) Zl
 iD:oM (fun D=>PySem.W.kitOne K (.type "NoneType") (.ref (ĩ a D))=some false) Zm
 iN:oM (fun D=>PySem.W.kitOne K (.type "NoneType") (.type D)=some false) Zn
 je:mg "MOST_HEIGHT" =some (.int (1000000000) a.qH)
 jR:mg "MOST_PLACE" =some (.int (1000000000) a.vY)
 Ze4:mg "abs" =none
 tU:mg "all" =none
 Qf:mg "bool" =none
 mH:mg "enumerate" =none
 Qg:mg "int" =none
 ao:mg "isinstance" =none
 jT:mg "len" =none
 fB:mg "list" =none
 Eu:mg "max" =none
 zO:mg "min" =none
 aq:mg "range" =none
 Xg:mg "sum" =none
 Ew:mg "tuple" =none
 Ze5:mg "zip" =none
theorem Qh:ĕ ["_law_cell","_law_most","_law_width"] ["_law_cell","_law_most"] (ĉ yx):=⟨rfl,rfl,rfl,by decide +kernel,rfl,by decide +kernel,by decide +kernel⟩
theorem Za3:ĕ ["_law_script","_law_k"] ["_law_script","_law_k"] (ĉ yC):=⟨rfl,rfl,rfl,by decide +kernel,rfl,by decide +kernel,by decide +kernel⟩
theorem jq:ĕ ["_law_cell","_law_many","_law_found","_law_number","_law_k"] ["_law_cell","_law_many"] (ĉ yD):=⟨rfl,rfl,rfl,by decide +kernel,rfl,by decide +kernel,by decide +kernel⟩
theorem Qi:ĕ ["_law_xs","_law_scale"] ["_law_xs"] (ĉ yE):=⟨rfl,rfl,rfl,by decide +kernel,rfl,by decide +kernel,by decide +kernel⟩
theorem gQ:ĕ ["_law_script","_law_start","_law_many","_law_long","_law_names","_law_turned","_law_days_here","_law_k","_law_xs","_law_turns"] ["_law_script","_law_start","_law_many","_law_long"] (ĉ rM):=⟨rfl,rfl,rfl,by decide +kernel,rfl,by decide +kernel,by decide +kernel⟩
theorem Za4:ĕ ["self","width","height","things","days"] ["self","width","height","things","days"] (ĉ rN):=⟨rfl,rfl,rfl,by decide +kernel,rfl,by decide +kernel,by decide +kernel⟩
theorem Za5:ĕ ["_law_number"] ["_law_number"] (ĉ yF):=⟨rfl,rfl,rfl,by decide +kernel,rfl,by decide +kernel,by decide +kernel⟩
theorem Za6:ĕ ["_law_number","_law_wide"] ["_law_number","_law_wide"] (ĉ yG):=⟨rfl,rfl,rfl,by decide +kernel,rfl,by decide +kernel,by decide +kernel⟩
theorem gR:ĕ ["_law_cell","_law_wide","_law_xs","_law_h","_law_kind","_law_x","_law_y","_law_u","_law_v"] ["_law_cell","_law_wide"] (ĉ rP):=⟨rfl,rfl,rfl,by decide +kernel,rfl,by decide +kernel,by decide +kernel⟩
theorem Za7:ĕ ["number"] ["number"] (ĉ yH):=⟨rfl,rfl,rfl,by decide +kernel,rfl,by decide +kernel,by decide +kernel⟩
theorem Za8:ĕ ["number"] ["number"] (ĉ yI):=⟨rfl,rfl,rfl,by decide +kernel,rfl,by decide +kernel,by decide +kernel⟩
theorem Za9:ĕ ["numbers"] ["numbers"] (ĉ yJ):=⟨rfl,rfl,rfl,by decide +kernel,rfl,by decide +kernel,by decide +kernel⟩
theorem zP:ĕ ["self","word","numbers"] ["self","word","numbers"] (ĉ JD):=⟨rfl,rfl,rfl,by decide +kernel,rfl,by decide +kernel,by decide +kernel⟩
theorem Za_:ĕ ["numbers"] ["numbers"] (ĉ rQ):=⟨rfl,rfl,rfl,by decide +kernel,rfl,by decide +kernel,by decide +kernel⟩
theorem Zba:ĕ ["numbers"] ["numbers"] (ĉ yK):=⟨rfl,rfl,rfl,by decide +kernel,rfl,by decide +kernel,by decide +kernel⟩
theorem Ze6:ĕ ["numbers"] ["numbers"] (ĉ JF):=⟨rfl,rfl,rfl,by decide +kernel,rfl,by decide +kernel,by decide +kernel⟩
theorem Ze7:ĕ ["numbers"] ["numbers"] (ĉ JG):=⟨rfl,rfl,rfl,by decide +kernel,rfl,by decide +kernel,by decide +kernel⟩
theorem Zbb:ĕ ["numbers"] ["numbers"] (ĉ rT):=⟨rfl,rfl,rfl,by decide +kernel,rfl,by decide +kernel,by decide +kernel⟩
theorem Zbc:ĕ ["word","numbers"] ["word","numbers"] (ĉ yL):=⟨rfl,rfl,rfl,by decide +kernel,rfl,by decide +kernel,by decide +kernel⟩
theorem CW:ĕ ["points","rights","downs"] ["points"] (ĉ pq):=⟨rfl,rfl,rfl,by decide +kernel,rfl,by decide +kernel,by decide +kernel⟩
theorem CZ:ĕ ["points","kept","point"] ["points"] (ĉ yM):=⟨rfl,rfl,rfl,by decide +kernel,rfl,by decide +kernel,by decide +kernel⟩
theorem C_:ĕ ["one","other","l","m"] ["one","other"] (ĉ yN):=⟨rfl,rfl,rfl,by decide +kernel,rfl,by decide +kernel,by decide +kernel⟩
theorem Zbd:ĕ ["line","pair"] ["line","pair"] (ĉ yO):=⟨rfl,rfl,rfl,by decide +kernel,rfl,by decide +kernel,by decide +kernel⟩
theorem lF:ĕ ["points","lines","apart","one","other","line"] ["points"] (ĉ rW):=⟨rfl,rfl,rfl,by decide +kernel,rfl,by decide +kernel,by decide +kernel⟩
theorem Zbe:ĕ ["points"] ["points"] (ĉ yP):=⟨rfl,rfl,rfl,by decide +kernel,rfl,by decide +kernel,by decide +kernel⟩
theorem Zbf:ĕ ["point","ray"] ["point","ray"] (ĉ yQ):=⟨rfl,rfl,rfl,by decide +kernel,rfl,by decide +kernel,by decide +kernel⟩
theorem Ze8:ĕ ["x","y","u","v","z"] ["x","y","u","v","z"] (ĉ JH):=⟨rfl,rfl,rfl,by decide +kernel,rfl,by decide +kernel,by decide +kernel⟩
theorem Zbg:ĕ ["x","y","u","v","h"] ["x","y","u","v","h"] (ĉ yR):=⟨rfl,rfl,rfl,by decide +kernel,rfl,by decide +kernel,by decide +kernel⟩
theorem Dc:ĕ ["self","right","down"] ["self"] (ĉ yS):=⟨rfl,rfl,rfl,by decide +kernel,rfl,by decide +kernel,by decide +kernel⟩
theorem wg:ĕ ["self","given","one","other"] ["self"] (ĉ yU):=⟨rfl,rfl,rfl,by decide +kernel,rfl,by decide +kernel,by decide +kernel⟩
theorem Qj:ĕ ["self","given"] ["self"] (ĉ yV):=⟨rfl,rfl,rfl,by decide +kernel,rfl,by decide +kernel,by decide +kernel⟩
theorem Zbh:ĕ ["self"] ["self"] (ĉ rY):=⟨rfl,rfl,rfl,by decide +kernel,rfl,by decide +kernel,by decide +kernel⟩
theorem Xh:ĕ ["self","given"] ["self"] (ĉ JK):=⟨rfl,rfl,rfl,by decide +kernel,rfl,by decide +kernel,by decide +kernel⟩
theorem Zbi:ĕ ["thing","ray"] ["thing","ray"] (ĉ rZ):=⟨rfl,rfl,rfl,by decide +kernel,rfl,by decide +kernel,by decide +kernel⟩
theorem Zbj:ĕ ["first","last"] ["first","last"] (ĉ yW):=⟨rfl,rfl,rfl,by decide +kernel,rfl,by decide +kernel,by decide +kernel⟩
theorem dz:ĕ ["lines","unit","q","width","first","last","l","m","n","step","room"] ["lines","unit","q","width"] (ĉ yX):=⟨rfl,rfl,rfl,by decide +kernel,rfl,by decide +kernel,by decide +kernel⟩
theorem pZ:ĕ ["yard","thing","ray","lines","bits","q"] ["yard","thing","ray"] (ĉ yZ):=⟨rfl,rfl,rfl,by decide +kernel,rfl,by decide +kernel,by decide +kernel⟩
theorem Ze9:ĕ ["yard","ray"] ["yard","ray"] (ĉ Gi):=⟨rfl,rfl,rfl,by decide +kernel,rfl,by decide +kernel,by decide +kernel⟩
theorem wj:ĕ ["yard","turn","bits","some"] ["yard","turn"] (ĉ za):=⟨rfl,rfl,rfl,by decide +kernel,rfl,by decide +kernel,by decide +kernel⟩
theorem Zbk:ĕ ["yard","stone"] ["yard","stone"] (ĉ zc):=⟨rfl,rfl,rfl,by decide +kernel,rfl,by decide +kernel,by decide +kernel⟩
theorem Zbl:ĕ ["yard","stone"] ["yard","stone"] (ĉ zf):=⟨rfl,rfl,rfl,by decide +kernel,rfl,by decide +kernel,by decide +kernel⟩
theorem Zbm:ĕ ["yard","day"] ["yard","day"] (ĉ zj):=⟨rfl,rfl,rfl,by decide +kernel,rfl,by decide +kernel,by decide +kernel⟩
theorem Zbn:ĕ ["yard","day"] ["yard","day"] (ĉ zm):=⟨rfl,rfl,rfl,by decide +kernel,rfl,by decide +kernel,by decide +kernel⟩
theorem Zbo:ĕ ["yard","day"] ["yard","day"] (ĉ zp):=⟨rfl,rfl,rfl,by decide +kernel,rfl,by decide +kernel,by decide +kernel⟩
theorem Qk:ĕ ["points","point","line"] ["points","point"] (ĉ zq):=⟨rfl,rfl,rfl,by decide +kernel,rfl,by decide +kernel,by decide +kernel⟩
theorem Dd:ĕ ["many","pairs","second"] ["many"] (ĉ su):=⟨rfl,rfl,rfl,by decide +kernel,rfl,by decide +kernel,by decide +kernel⟩
theorem Df:ĕ ["many","triples","third"] ["many"] (ĉ sy):=⟨rfl,rfl,rfl,by decide +kernel,rfl,by decide +kernel,by decide +kernel⟩
theorem Ey:ĕ ["one","other","rest"] ["one","other"] (ĉ JL):=⟨rfl,rfl,rfl,by decide +kernel,rfl,by decide +kernel,by decide +kernel⟩
theorem Dg:ĕ ["top","bottom","divisor"] ["top","bottom"] (ĉ zu):=⟨rfl,rfl,rfl,by decide +kernel,rfl,by decide +kernel,by decide +kernel⟩
theorem qb:ĕ ["shares","places","many","whole","weights","share","place"] ["shares","places","many"] (ĉ sE):=⟨rfl,rfl,rfl,by decide +kernel,rfl,by decide +kernel,by decide +kernel⟩
theorem Ql:ĕ ["one","other","third","right"] ["one","other","third"] (ĉ zx):=⟨rfl,rfl,rfl,by decide +kernel,rfl,by decide +kernel,by decide +kernel⟩
theorem Ez:ĕ ["corners","point","one","other","third"] ["corners","point"] (ĉ JM):=⟨rfl,rfl,rfl,by decide +kernel,rfl,by decide +kernel,by decide +kernel⟩
theorem Qm:ĕ ["shares","whole"] ["shares"] (ĉ sG):=⟨rfl,rfl,rfl,by decide +kernel,rfl,by decide +kernel,by decide +kernel⟩
theorem wu:ĕ ["ends","point","right","down","gone"] ["ends","point"] (ĉ zy):=⟨rfl,rfl,rfl,by decide +kernel,rfl,by decide +kernel,by decide +kernel⟩
theorem lG:ĕ ["points","point","many","places","shares"] ["points","point"] (ĉ pA):=⟨rfl,rfl,rfl,by decide +kernel,rfl,by decide +kernel,by decide +kernel⟩
theorem Qn:ĕ ["points","point","line"] ["points","point"] (ĉ zA):=⟨rfl,rfl,rfl,by decide +kernel,rfl,by decide +kernel,by decide +kernel⟩
theorem Zbp:ĕ ["stone","ray"] ["stone","ray"] (ĉ zB):=⟨rfl,rfl,rfl,by decide +kernel,rfl,by decide +kernel,by decide +kernel⟩
theorem Zbq:ĕ ["thing","stone","ray"] ["thing","stone","ray"] (ĉ zE):=⟨rfl,rfl,rfl,by decide +kernel,rfl,by decide +kernel,by decide +kernel⟩
theorem Zbr:ĕ ["thing","stone","ray"] ["thing","stone","ray"] (ĉ zF):=⟨rfl,rfl,rfl,by decide +kernel,rfl,by decide +kernel,by decide +kernel⟩
theorem Qo:ĕ ["yard","turn","stone","thing"] ["yard","turn","stone"] (ĉ zG):=⟨rfl,rfl,rfl,by decide +kernel,rfl,by decide +kernel,by decide +kernel⟩
theorem Zbs:ĕ ["yard","day","stone"] ["yard","day","stone"] (ĉ sI):=⟨rfl,rfl,rfl,by decide +kernel,rfl,by decide +kernel,by decide +kernel⟩
theorem Zbt:ĕ ["_law_found","_law_due"] ["_law_found","_law_due"] (ĉ sJ):=⟨rfl,rfl,rfl,by decide +kernel,rfl,by decide +kernel,by decide +kernel⟩
theorem Zbu:ĕ ["_law_found","_law_due"] ["_law_found","_law_due"] (ĉ sO):=⟨rfl,rfl,rfl,by decide +kernel,rfl,by decide +kernel,by decide +kernel⟩
theorem wz:ĕ ["yard","stone","day","number","turn"] ["yard","stone"] (ĉ zH):=⟨rfl,rfl,rfl,by decide +kernel,rfl,by decide +kernel,by decide +kernel⟩
theorem ſ:ĕ ["_law_script","_law_size_here","_law_drawn","_law_days_here","_law_things","_law_yard","_law_sets","_law_number","_law_stone","_law_due","_law_day","_law_right","_law_told"] ["_law_script"] (ĉ fJ):=⟨rfl,rfl,rfl,by decide +kernel,rfl,by decide +kernel,by decide +kernel⟩
theorem Ze_:ĕ ["self","stone"] ["self","stone"] (ĉ JN):=⟨rfl,rfl,rfl,by decide +kernel,rfl,by decide +kernel,by decide +kernel⟩
theorem Zfa:ĕ ["self","day","turn"] ["self","day","turn"] (ĉ JQ):=⟨rfl,rfl,rfl,by decide +kernel,rfl,by decide +kernel,by decide +kernel⟩
theorem Z2t{a b:Scope}(h:(a.names.all fun y=>decide (y.2=.free→(b.names.lookup y.1=some .cell∨b.names.lookup y.1=some .free)))=true):∀y∈a.names,y.2=.free→(b.names.lookup y.1=some .cell∨b.names.lookup y.1=some .free):=fun y hy=>of_decide_eq_true (List.all_eq_true.mp h y hy)
section
variable{P:Program}{w:World}{K:PySem.W.Frag}{mg:Str→Option Value}{base:Heap}{a:Adr}
theorem Zfb(T:Tx K mg a):İ P w K mg base (ū P w) 1 a.ZaK a.ZaL ["self","stone"] (spX 2 (ĩ a "NoStone") [("stone",1)]):=
 fnX T.Zmp Ze_ rfl fun cdv A outer s H E=>(uM (Jd T.Gu T.m_ (pv 0) (pv 1)) Je)
theorem Zfc(T:Tx K mg a):İ P w K mg base (ū P w) 1 a.ZaM a.ZaN ["self","day","turn"] (spX 3 (ĩ a "NoTurn") [("day",1),("turn",2)]):=
 fnX T.Zmr Zfa rfl fun cdv A outer s H E=>(uM (Jd T.zN T.vZ (pv 0) (pv 1)) (uM (Jd T.zN T.qI (pv 0) (pv 2)) Je))
theorem Zbv(T:Tx K mg a):İ P w K mg base (ū P w) 1 a.J_ a.Ka ["_law_cell","_law_most"] (ŷ ⟨K,ĩ a⟩ 2 dY):=by
 refine aN (cm:=ĩ a) (mb:=fu) T.VD Qh rfl rfl rfl fun cdv A outer s H E hr=>?_
 have hu:=hr.units
 exact(Ċ (Ũ (PW.pt (w_and (ŕ aB (Š hu) (ā (đ ņ ń (ā (đ Ž ţ (Ă 0) (ā ă))) (ā ă))) (ā ă) (Ĳ _)) (gA (ŕ Vs Vh (Ă 1) (ā ă) (Ĳ _)))))
  (Č (Ĥ (Į (ħ Ĕ ē (ā (Ě (ů (ć (Ō (ć ă (ć ă ĥ))) (ć (Ō (ć ă (ć ă ĥ))) ĥ))))) (ā (đ ņ ń (Ă 0) (ā ă))) (fun _ _=>rfl)))))
  Ŀ)
  (Ċ (Ī (i:=2) Qh.nd rfl (Or.inl rfl) (Ň Ķ ĵ (ā ă) (ā (đ ņ ń (Ă 0) (ā (PE.wk (ĭ (uo rfl) (by rfl) T.zO PyProof.Rows.boot_min (ģ (ā ă) (ģ (Ă 1) ķ))) fun _ _ _ h=>ź uG h))))))
  (Č (Ĥ (Į (Ō (ć (v_var 2) (ć (Ě (Ň Ķ ĵ (ā ă) (ā (đ ņ ń (ā (đ Ž ţ (Ă 0) (ā ă))) (ā (PE.wk (ĭ (uo rfl) (by rfl) T.zO PyProof.Rows.boot_min (ģ (ā ă) (ģ (ā (đ Ž ţ (Ă 1) (Ă 2))) ķ))) fun _ _ _ h=>ź uG h)))))) ĥ))))))))
theorem lH(T:Tx K mg a):İ P w K mg base (ū P w) 1 a.Kc a.Kd ["_law_script","_law_k"] (ŷ ⟨K,ĩ a⟩ 2 Ű):=by
 refine aN (cm:=ĩ a) (mb:=uX) T.pW Za3 rfl rfl rfl fun cdv A outer s H E hr=>?_
 have hu:=hr.units
 exact(Ċ (Ũ (ŕ iU iH (Ă 1) (ā (PE.wk (ĭ eN (by rfl) T.jT PySem.boot_len (ģ (Ă 0) ķ)) fun _ _ _ h=>ź fj h)) (Ĳ _))
  (Č (Ĥ (Į (ħ Ĕ ē (Ă 0) (Ă 1) (fun _ _=>rfl)))))
  Ŀ)
  (Č (Ĥ (Į ă))))
theorem Qp(T:Tx K mg a):İ P w K mg base (ū P w) 1 a.Ke a.Kf ["_law_cell","_law_many"] (ŷ ⟨K,ĩ a⟩ 2 iZ):=by
 refine aN (cm:=ĩ a) (mb:=uY) T.OD jq rfl rfl rfl fun cdv A outer s H E hr=>?_
 have hu:=hr.units
 exact(Ċ (Ī (i:=2) jq.nd rfl (Or.inl rfl) (ů ĥ))
  (Ċ (Ī (i:=3) jq.nd rfl (Or.inl rfl) (Į (đ Ž ţ (Ă 0) (ā ă))))
  (Ċ (Ũ (ŕ aB (Š hu) (ā (đ ņ ń (Ă 0) (ā ă))) (ā ă) (Ĳ _))
  (Č (Ī (i:=3) jq.nd rfl (Or.inl rfl) (Į (đ ņ ń (Ă 3) (ā ă)))))
  Ŀ)
  (Ċ (bf PassesOwn.leaving rfl (Ū rfl T.aq (ć (v_var 1) ĥ)) (Ĩ (i:=4) jq.nd rfl (Or.inl rfl))
  (Č (Ũ (ŕ aB (Š hu) (ā (đ ņ ń (Ă 0) (ā ă))) (ā ă) (Ĳ _))
  (Ċ (PS.wk (cA (lJ PySem.F.plainAttrs_list PySem.F.slot_list_append PySem.F.type_list_append aQ (pv 2) (ć (đ ņ ń (Ă 3) (ā ă)) ĥ))) fun _ _ _ h=>g_ h)
  (Č (Ī (i:=3) jq.nd rfl (Or.inl rfl) (Į (đ Ž ţ (Ă 3) (ā ă))))))
  (Ċ (Ī (i:=3) jq.nd rfl (Or.inl rfl) (Į (đ ņ ń (ā (Ě (Ň Ķ ĵ (ā (Ě (Ň Ķ ĵ (ā (đ ľ ī (Ă 3) (ā ă))) (ā ă)))) (ā (đ ľ ī (ā ă) (Ă 4)))))) (ā ă))))
  (Č (PS.wk (cA (lJ PySem.F.plainAttrs_list PySem.F.slot_list_append PySem.F.type_list_append aQ (pv 2) (ć (đ Ž ţ (Ă 3) (ā ă)) ĥ))) fun _ _ _ h=>g_ h))))))
  (Č (Ĥ (iK 2)))))))
theorem Zbw(T:Tx K mg a):İ P w K mg base (ū P w) 1 a.Kg a.Kh ["_law_xs"] (ŷ ⟨K,ĩ a⟩ 1 jK):=by
 refine aN (cm:=ĩ a) (mb:=uZ) T.VG Qi rfl rfl rfl fun cdv A outer s H E hr=>?_
 have hu:=hr.units
 exact(@Ċ _ _ _ _ _ _ _ (@Ũ _ _ _ _ _ _ _ _ _ _ (@ŕ _ _ _ _ _ _ _ _ _ _ _ (@aB _) (@Š _ hu) (@ā _ _ _ _ _ (@đ _ _ _ _ _ _ _ _ _ _ _ (@ņ _) (@ń _) (@ā _ _ _ _ _ (@ħ _ _ _ _ _ _ _ _ _ _ (@Ĕ _) (@ē _) (@Ă _ _ _ 0 _ _ (by rfl) (by first|exact Or.inl rfl|exact Or.inr (Or.inl rfl)|exact Or.inr (Or.inr rfl)) (by decide) (by decide)) (@ā _ _ _ _ _ (@ă _ _ _ _ _ _)) (fun _ _=>rfl))) (@ā _ _ _ _ _ (@ă _ _ _ _ _ _)))) (@ā _ _ _ _ _ (@ă _ _ _ _ _ _)) (Ĳ _)) (@Č _ _ _ _ _ (@Ĥ _ _ _ _ _ _ (@Į _ _ _ _ _ (@gw _ _ _ _ _)))) (@Ŀ _ _ _)) (@Ċ _ _ _ _ _ _ _ (@Ī _ _ _ _ _ _ 1 _ _ Qi.nd rfl (Or.inl rfl) (@Į _ _ _ _ _ (@ħ _ _ _ _ _ _ _ _ _ _ (@Ĕ _) (@ē _) (@ā _ _ _ _ _ (@Ě _ _ _ _ _ (@ů _ _ _ _ _ _ (@ć _ _ _ _ _ _ _ (@ă _ _ _ _ _ _) (@ć _ _ _ _ _ _ _ (@ă _ _ _ _ _ _) (@ć _ _ _ _ _ _ _ (@ă _ _ _ _ _ _) (@ć _ _ _ _ _ _ _ (@đ _ _ _ _ _ _ _ _ _ _ _ (@oA _) (@nT _) (@ā _ _ _ _ _ (@ă _ _ _ _ _ _)) (@ā _ _ _ _ _ (@ă _ _ _ _ _ _))) (@ĥ _ _ _) (by exact ı rfl)) (by exact ı rfl)) (by exact ı rfl)) (by exact ı rfl))))) (@ā _ _ _ _ _ (@đ _ _ _ _ _ _ _ _ _ _ _ (@ņ _) (@ń _) (@ā _ _ _ _ _ (@ħ _ _ _ _ _ _ _ _ _ _ (@Ĕ _) (@ē _) (@Ă _ _ _ 0 _ _ (by rfl) (by first|exact Or.inl rfl|exact Or.inr (Or.inl rfl)|exact Or.inr (Or.inr rfl)) (by decide) (by decide)) (@ā _ _ _ _ _ (@ă _ _ _ _ _ _)) (fun _ _=>rfl))) (@ā _ _ _ _ _ (@ă _ _ _ _ _ _)))) (fun _ _=>rfl))) (by rfl) (by first|exact .inl rfl|exact .inr rfl|assumption)) (@Č _ _ _ _ _ (@Ĥ _ _ _ _ _ _ (@Į _ _ _ _ _ (@Ō _ _ _ _ _ _ _ (@ć _ _ _ _ _ _ _ (@đ _ _ _ _ _ _ _ _ _ _ _ (@ľ _) (@ī _) (@ā _ _ _ _ _ (@đ _ _ _ _ _ _ _ _ _ _ _ (@ŗ _) (@Ŕ _) (@ā _ _ _ _ _ (@đ _ _ _ _ _ _ _ _ _ _ _ (@ņ _) (@ń _) (@ā _ _ _ _ _ (@ħ _ _ _ _ _ _ _ _ _ _ (@Ĕ _) (@ē _) (@Ă _ _ _ 0 _ _ (by rfl) (by first|exact Or.inl rfl|exact Or.inr (Or.inl rfl)|exact Or.inr (Or.inr rfl)) (by decide) (by decide)) (@ā _ _ _ _ _ (@ă _ _ _ _ _ _)) (fun _ _=>rfl))) (@ā _ _ _ _ _ (@ă _ _ _ _ _ _)))) (@ā _ _ _ _ _ (@ă _ _ _ _ _ _)))) (@Ă _ _ _ 1 _ _ (by rfl) (by first|exact Or.inl rfl|exact Or.inr (Or.inl rfl)|exact Or.inr (Or.inr rfl)) (by decide) (by decide))) (@ć _ _ _ _ _ _ _ (@đ _ _ _ _ _ _ _ _ _ _ _ (@ľ _) (@ī _) (@ā _ _ _ _ _ (@đ _ _ _ _ _ _ _ _ _ _ _ (@ŗ _) (@Ŕ _) (@ā _ _ _ _ _ (@đ _ _ _ _ _ _ _ _ _ _ _ (@ņ _) (@ń _) (@ā _ _ _ _ _ (@ħ _ _ _ _ _ _ _ _ _ _ (@Ĕ _) (@ē _) (@Ă _ _ _ 0 _ _ (by rfl) (by first|exact Or.inl rfl|exact Or.inr (Or.inl rfl)|exact Or.inr (Or.inr rfl)) (by decide) (by decide)) (@ā _ _ _ _ _ (@ă _ _ _ _ _ _)) (fun _ _=>rfl))) (@ā _ _ _ _ _ (@ă _ _ _ _ _ _)))) (@ā _ _ _ _ _ (@ă _ _ _ _ _ _)))) (@Ă _ _ _ 1 _ _ (by rfl) (by first|exact Or.inl rfl|exact Or.inr (Or.inl rfl)|exact Or.inr (Or.inr rfl)) (by decide) (by decide))) (@ć _ _ _ _ _ _ _ (@đ _ _ _ _ _ _ _ _ _ _ _ (@ľ _) (@ī _) (@ā _ _ _ _ _ (@Ě _ _ _ _ _ (@Ň _ _ _ _ _ _ _ _ _ _ _ (@Ķ _) (@ĵ _) (@ā _ _ _ _ _ (@ă _ _ _ _ _ _)) (@ā _ _ _ _ _ (@đ _ _ _ _ _ _ _ _ _ _ _ (@ņ _) (@ń _) (@ā _ _ _ _ _ (@ħ _ _ _ _ _ _ _ _ _ _ (@Ĕ _) (@ē _) (@Ă _ _ _ 0 _ _ (by rfl) (by first|exact Or.inl rfl|exact Or.inr (Or.inl rfl)|exact Or.inr (Or.inr rfl)) (by decide) (by decide)) (@ā _ _ _ _ _ (@ă _ _ _ _ _ _)) (fun _ _=>rfl))) (@ā _ _ _ _ _ (@ă _ _ _ _ _ _))))))) (@Ă _ _ _ 1 _ _ (by rfl) (by first|exact Or.inl rfl|exact Or.inr (Or.inl rfl)|exact Or.inr (Or.inr rfl)) (by decide) (by decide))) (@ĥ _ _ _) (by exact ı rfl)) (by exact ı rfl)) (by exact ı rfl))))))))
theorem Qq(T:Tx K mg a):İ P w K mg base (ū P w) 2 a.Kl a.Km ["_law_script","_law_start","_law_many","_law_long"] (ŷ ⟨K,ĩ a⟩ 4 fK):=by
 refine aN (cm:=ĩ a) (mb:=Bq) T.OJ gQ rfl rfl rfl fun cdv A outer s H E hr=>?_
 have hu:=hr.units
 exact(@Ċ _ _ _ _ _ _ _ (@Ī _ _ _ _ _ _ 4 _ _ gQ.nd rfl (Or.inl rfl) (@ů _ _ _ _ _ _ (@ć _ _ _ _ _ _ _ (@Ů _ _ _ _ _ _) (@ć _ _ _ _ _ _ _ (@Ů _ _ _ _ _ _) (@ć _ _ _ _ _ _ _ (@Ů _ _ _ _ _ _) (@ć _ _ _ _ _ _ _ (@Ů _ _ _ _ _ _) (@ć _ _ _ _ _ _ _ (@Ů _ _ _ _ _ _) (@ć _ _ _ _ _ _ _ (@Ů _ _ _ _ _ _) (@ć _ _ _ _ _ _ _ (@Ů _ _ _ _ _ _) (@ć _ _ _ _ _ _ _ (@Ů _ _ _ _ _ _) (@ć _ _ _ _ _ _ _ (@Ů _ _ _ _ _ _) (@ć _ _ _ _ _ _ _ (@Ů _ _ _ _ _ _) (@ć _ _ _ _ _ _ _ (@Ů _ _ _ _ _ _) (@ć _ _ _ _ _ _ _ (@Ů _ _ _ _ _ _) (@ĥ _ _ _) (by exact ı rfl)) (by exact ı rfl)) (by exact ı rfl)) (by exact ı rfl)) (by exact ı rfl)) (by exact ı rfl)) (by exact ı rfl)) (by exact ı rfl)) (by exact ı rfl)) (by exact ı rfl)) (by exact ı rfl)) (by exact ı rfl))) (by rfl) (by first|exact .inl rfl|exact .inr rfl|assumption)) (@Ċ _ _ _ _ _ _ _ (@Ī _ _ _ _ _ _ 5 _ _ gQ.nd rfl (Or.inl rfl) (@Į _ _ _ _ _ (@đ _ _ _ _ _ _ _ _ _ _ _ (@ņ _) (@ń _) (@ā _ _ _ _ _ (@Ě _ _ _ _ _ (@Đ _ _ _ _ _ _ _ _ _ _ _ _ _ _ _ _ (lH T) ċ (hr.mono (by decide)) rfl T.Ű T.pW.kp T.tK (@ğ _ _ _ _ _ _ _ _ _ _ _ _ _ _ _) (@Ć _ _ _ _ _ 0 _ _ (by rfl) (by first|exact Or.inl rfl|exact Or.inr (Or.inl rfl)|exact Or.inr (Or.inr rfl)) (by decide) (by decide) (@Ć _ _ _ _ _ 1 _ _ (by rfl) (by first|exact Or.inl rfl|exact Or.inr (Or.inl rfl)|exact Or.inr (Or.inr rfl)) (by decide) (by decide) (@Ď _ _ _) (by exact ı rfl)) (by exact ı rfl)) (by decide) (by exact ı rfl) (by rfl)))) (@ā _ _ _ _ _ (@ă _ _ _ _ _ _)))) (by rfl) (by first|exact .inl rfl|exact .inr rfl|assumption)) (@Ċ _ _ _ _ _ _ _ (@Ī _ _ _ _ _ _ 4 _ _ gQ.nd rfl (Or.inl rfl) (@Ň _ _ _ _ _ _ _ _ _ _ _ (@Ķ _) (@ĵ _) (@ā _ _ _ _ _ (@Ě _ _ _ _ _ (@bT _ _ _ _ _ _ _ _ _ _ _ (@Ă _ _ _ 4 _ _ (by rfl) (by first|exact Or.inl rfl|exact Or.inr (Or.inl rfl)|exact Or.inr (Or.inr rfl)) (by decide) (by decide)) (@aO _ _ _ _ _ (@v_var _ _ _ 5 _ _ (by rfl) (by first|exact Or.inl rfl|exact Or.inr (Or.inl rfl)|exact Or.inr (Or.inr rfl)) (by decide) (by decide))) (@oJ _ _ _)))) (@ā _ _ _ _ _ (@Ě _ _ _ _ _ (@bT _ _ _ _ _ _ _ _ _ _ _ (@Ă _ _ _ 4 _ _ (by rfl) (by first|exact Or.inl rfl|exact Or.inr (Or.inl rfl)|exact Or.inr (Or.inr rfl)) (by decide) (by decide)) (@oJ _ _ _) (@aO _ _ _ _ _ (@v_var _ _ _ 5 _ _ (by rfl) (by first|exact Or.inl rfl|exact Or.inr (Or.inl rfl)|exact Or.inr (Or.inr rfl)) (by decide) (by decide))))))) (by rfl) (by first|exact .inl rfl|exact .inr rfl|assumption)) (@Ċ _ _ _ _ _ _ _ (@Ī _ _ _ _ _ _ 6 _ _ gQ.nd rfl (Or.inl rfl) (@ů _ _ _ _ _ _ (@ĥ _ _ _)) (by rfl) (by first|exact .inl rfl|exact .inr rfl|assumption)) (@Ċ _ _ _ _ _ _ _ (@bf _ _ _ _ _ _ _ _ _ _ PassesOwn.leaving rfl (@Ū _ _ _ _ _ _ _ _ rfl T.aq (@ć _ _ _ _ _ _ _ (@v_var _ _ _ 2 _ _ (by rfl) (by first|exact Or.inl rfl|exact Or.inr (Or.inl rfl)|exact Or.inr (Or.inr rfl)) (by decide) (by decide)) (@ĥ _ _ _) (by exact ı rfl)) (by exact ı rfl)) (@Ĩ _ _ _ 7 _ gQ.nd rfl (Or.inl rfl) (by first|exact .inl rfl|exact .inr rfl|assumption)) (@Ċ _ _ _ _ _ _ _ (@Ī _ _ _ _ _ _ 8 _ _ gQ.nd rfl (by first|exact Or.inl rfl|exact Or.inr rfl) (@Đ _ _ _ _ _ _ _ _ _ _ _ _ _ _ _ _ (Qp T) ċ (hr.mono (by decide)) rfl T.iZ T.OD.kp T.VF (@ğ _ _ _ _ _ _ _ _ _ _ _ _ _ _ _) (@Ę _ _ _ _ _ _ _ (@Ě _ _ _ _ _ (@Ň _ _ _ _ _ _ _ _ _ _ _ (@Ķ _) (@ĵ _) (@ā _ _ _ _ _ (@đ _ _ _ _ _ _ _ _ _ _ _ (@Ž _) (@ţ _) (@ā _ _ _ _ _ (@Ě _ _ _ _ _ (@Đ _ _ _ _ _ _ _ _ _ _ _ _ _ _ _ _ (lH T) ċ (hr.mono (by decide)) rfl T.Ű T.pW.kp T.tK (@ğ _ _ _ _ _ _ _ _ _ _ _ _ _ _ _) (@Ć _ _ _ _ _ 0 _ _ (by rfl) (by first|exact Or.inl rfl|exact Or.inr (Or.inl rfl)|exact Or.inr (Or.inr rfl)) (by decide) (by decide) (@Ę _ _ _ _ _ _ _ (@Ě _ _ _ _ _ (@Ň _ _ _ _ _ _ _ _ _ _ _ (@Ķ _) (@ĵ _) (@Ă _ _ _ 1 _ _ (by rfl) (by first|exact Or.inl rfl|exact Or.inr (Or.inl rfl)|exact Or.inr (Or.inr rfl)) (by decide) (by decide)) (@Ă _ _ _ 7 _ _ (by rfl) (by first|exact Or.inl rfl|exact Or.inr (Or.inl rfl)|exact Or.inr (Or.inr rfl)) (by decide) (by decide)))) (@Ď _ _ _) (by exact ı rfl)) (by exact ı rfl)) (by decide) (by exact ı rfl) (by rfl)))) (@ā _ _ _ _ _ (@ă _ _ _ _ _ _)))) (@ā _ _ _ _ _ (@đ _ _ _ _ _ _ _ _ _ _ _ (@ľ _) (@ī _) (@ā _ _ _ _ _ (@ă _ _ _ _ _ _)) (@Ă _ _ _ 7 _ _ (by rfl) (by first|exact Or.inl rfl|exact Or.inr (Or.inl rfl)|exact Or.inr (Or.inr rfl)) (by decide) (by decide)))))) (@Ę _ _ _ _ _ _ _ (@Ě _ _ _ _ _ (@Ň _ _ _ _ _ _ _ _ _ _ _ (@Ķ _) (@ĵ _) (@ā _ _ _ _ _ (@đ _ _ _ _ _ _ _ _ _ _ _ (@ľ _) (@ī _) (@ā _ _ _ _ _ (@ă _ _ _ _ _ _)) (@Ă _ _ _ 3 _ _ (by rfl) (by first|exact Or.inl rfl|exact Or.inr (Or.inl rfl)|exact Or.inr (Or.inr rfl)) (by decide) (by decide)))) (@ā _ _ _ _ _ (@ă _ _ _ _ _ _)))) (@Ď _ _ _) (by exact ı rfl)) (by exact ı rfl)) (by decide) (by exact ı rfl) (by rfl)) (by rfl) (by first|exact .inl rfl|exact .inr rfl|assumption)) (@Ċ _ _ _ _ _ _ _ (jm (i:=9) gQ.nd rfl rfl ["_law_xs","_law_j"] [8] 1 (ĉ rM) rfl rfl (@Ū _ _ _ _ _ _ _ _ rfl T.aq (@ć _ _ _ _ _ _ _ (@Ě _ _ _ _ _ (@Ň _ _ _ _ _ _ _ _ _ _ _ (@Ķ _) (@ĵ _) (@ā _ _ _ _ _ (@ă _ _ _ _ _ _)) (@ā _ _ _ _ _ (@đ _ _ _ _ _ _ _ _ _ _ _ (@ņ _) (@ń _) (@ā _ _ _ _ _ (@ħ _ _ _ _ _ _ _ _ _ _ (@Ĕ _) (@ē _) (@Ă _ _ _ 8 _ _ (by rfl) (by first|exact Or.inl rfl|exact Or.inr (Or.inl rfl)|exact Or.inr (Or.inr rfl)) (by decide) (by decide)) (@ā _ _ _ _ _ (@ă _ _ _ _ _ _)) (fun _ _=>rfl))) (@Ă _ _ _ 3 _ _ (by rfl) (by first|exact Or.inl rfl|exact Or.inr (Or.inl rfl)|exact Or.inr (Or.inr rfl)) (by decide) (by decide)))))) (@ĥ _ _ _) (by exact ı rfl)) (by exact ı rfl)) (fun _ _ _ _ _=>(@Ĩ _ _ _ 1 _ (show(["_law_xs","_law_j"]:List Str).Nodup by decide +kernel) rfl (Or.inl rfl) (Or.inr rfl))) (fun _ _ _ _ _=>(@Ŝ _ _ _)) (fun _ _ _ _ _=>(@Ě _ _ _ _ _ (@Đ _ _ _ _ _ _ _ _ _ _ _ _ _ _ _ _ (Zbw T) ċ (hr.mono (by decide)) rfl T.jK T.VG.kp T.Zeo (@aP _ _ _) (@Ę _ _ _ _ _ _ _ (@Ě _ _ _ _ _ (@bT _ _ _ _ _ _ _ _ _ _ _ (@Ă _ _ _ 0 _ _ (by rfl) (by first|exact Or.inl rfl|exact Or.inr (Or.inl rfl)|exact Or.inr (Or.inr rfl)) (by decide) (by decide)) (@aO _ _ _ _ _ (@Ě _ _ _ _ _ (@Ň _ _ _ _ _ _ _ _ _ _ _ (@Ķ _) (@ĵ _) (@ā _ _ _ _ _ (@ă _ _ _ _ _ _)) (@ā _ _ _ _ _ (@đ _ _ _ _ _ _ _ _ _ _ _ (@ľ _) (@ī _) (@ā _ _ _ _ _ (@ă _ _ _ _ _ _)) (@Ă _ _ _ 1 _ _ (by rfl) (by first|exact Or.inl rfl|exact Or.inr (Or.inl rfl)|exact Or.inr (Or.inr rfl)) (by decide) (by decide))))))) (@aO _ _ _ _ _ (@Ě _ _ _ _ _ (@Ň _ _ _ _ _ _ _ _ _ _ _ (@Ķ _) (@ĵ _) (@ā _ _ _ _ _ (@ă _ _ _ _ _ _)) (@ā _ _ _ _ _ (@đ _ _ _ _ _ _ _ _ _ _ _ (@ľ _) (@ī _) (@ā _ _ _ _ _ (@ă _ _ _ _ _ _)) (@Ă _ _ _ 1 _ _ (by rfl) (by first|exact Or.inl rfl|exact Or.inr (Or.inl rfl)|exact Or.inr (Or.inr rfl)) (by decide) (by decide))))))))) (@Ď _ _ _) (by exact ı rfl)) (by decide) (by exact ı rfl) (by rfl)))) ⟨rfl,⟨rfl,Or.inl rfl⟩,trivial⟩) (@Č _ _ _ _ _ (@PS.wk _ _ _ _ (cA (lJ PySem.F.plainAttrs_list PySem.F.slot_list_append PySem.F.type_list_append aQ (pv 6) (@ć _ _ _ _ _ _ _ (@Ō _ _ _ _ _ _ _ (@ć _ _ _ _ _ _ _ (@ħ _ _ _ _ _ _ _ _ _ _ (@Ĕ _) (@ē _) (@Ă _ _ _ 4 _ _ (by rfl) (by first|exact Or.inl rfl|exact Or.inr (Or.inl rfl)|exact Or.inr (Or.inr rfl)) (by decide) (by decide)) (@Ă _ _ _ 7 _ _ (by rfl) (by first|exact Or.inl rfl|exact Or.inr (Or.inl rfl)|exact Or.inr (Or.inr rfl)) (by decide) (by decide)) (fun _ _=>rfl)) (@ć _ _ _ _ _ _ _ (@Ě _ _ _ _ _ (@Ň _ _ _ _ _ _ _ _ _ _ _ (@Ķ _) (@ĵ _) (@ā _ _ _ _ _ (@ă _ _ _ _ _ _)) (@ā _ _ _ _ _ (@đ _ _ _ _ _ _ _ _ _ _ _ (@ņ _) (@ń _) (@ā _ _ _ _ _ (@đ _ _ _ _ _ _ _ _ _ _ _ (@ľ _) (@ī _) (@ā _ _ _ _ _ (@ħ _ _ _ _ _ _ _ _ _ _ (@Ĕ _) (@ē _) (@Ă _ _ _ 8 _ _ (by rfl) (by first|exact Or.inl rfl|exact Or.inr (Or.inl rfl)|exact Or.inr (Or.inr rfl)) (by decide) (by decide)) (@ā _ _ _ _ _ (@ă _ _ _ _ _ _)) (fun _ _=>rfl))) (@ā _ _ _ _ _ (@ă _ _ _ _ _ _)))) (@ā _ _ _ _ _ (@đ _ _ _ _ _ _ _ _ _ _ _ (@oA _) (@nT _) (@ā _ _ _ _ _ (@ă _ _ _ _ _ _)) (@ā _ _ _ _ _ (@ă _ _ _ _ _ _)))))))) (@ć _ _ _ _ _ _ _ (@v_var _ _ _ 9 _ _ (by rfl) (by first|exact Or.inl rfl|exact Or.inr (Or.inl rfl)|exact Or.inr (Or.inr rfl)) (by decide) (by decide)) (@ĥ _ _ _) (by exact ı rfl)) (by exact ı rfl)) (by exact ı rfl))) (@ĥ _ _ _) (by exact ı rfl)))) (fun _ _ _ h=> @g_ _ _ _ _ _ _ _ _ h))))) (by intro _;rfl)) (@Č _ _ _ _ _ (@Ĥ _ _ _ _ _ _ (@iK _ _ _ 6 _ _ (by rfl) (by first|exact Or.inl rfl|exact Or.inr (Or.inl rfl)|exact Or.inr (Or.inr rfl)) (by decide) (by decide)))))))))
theorem Qs(T:Tx K mg a):İ P w K mg base (ū P w) 1 a.Ko a.Kp ["self","width","height","things","days"] (Rf ⟨K,ĩ a⟩ 5 "Yard" jL):=by
 refine fnI (cm:=ĩ a) (mb:=Br) T.Zep Za4 rfl rfl rfl fun cdv A outer s H E hr=>?_
 have hu:=hr.units
 exact(Ċ (bB (i:=0) ["Yard"] ⟨⟨T.aH,T.bC⟩,trivial⟩ (pv 0) (v_var 1))
  (Ċ (bB (i:=0) ["Yard"] ⟨⟨T.aH,T.bU⟩,trivial⟩ (pv 0) (v_var 2))
  (Ċ (bB (i:=0) ["Yard"] ⟨⟨T.aH,T.dw⟩,trivial⟩ (pv 0) (Ě (PE.wk (ű cV (by rfl) T.fB PyProof.Rows.boot_list (ģ (Ă 3) ķ)) fun _ _ _ h=>wM cW h)))
  (Č (bB (i:=0) ["Yard"] ⟨⟨T.aH,T.dh⟩,trivial⟩ (pv 0) (Ě (ų ["name","times","turns"] [] 3 (ĉ rN) rfl rfl (aD 4) (fun _ _ _ _ _=>(n_ rfl (Œ (Ĩ (i:=0) (show(["name","times","turns"]:List Str).Nodup by decide +kernel) rfl (Or.inl rfl) (hf:=Or.inr rfl)) (Œ (Ĩ (i:=1) (show(["name","times","turns"]:List Str).Nodup by decide +kernel) rfl (Or.inl rfl) (hf:=Or.inr rfl)) (Œ (Ĩ (i:=2) (show(["name","times","turns"]:List Str).Nodup by decide +kernel) rfl (Or.inl rfl) (hf:=Or.inr rfl)) eX))))) (fun _ _ _ _ _=>Ŝ) (fun _ _ _ _ _=>(Ō (ć (v_var 0) (ć (v_var 1) (ć (Ě (PE.wk (ű cV (by rfl) T.fB PyProof.Rows.boot_list (ģ (Ă 2) ķ)) fun _ _ _ h=>wM cW h)) ĥ))))) trivial)))))))
theorem Qt(T:Tx K mg a):İ P w K mg base (ū P w) 1 a.Kq a.Kr ["_law_number"] (ŷ ⟨K,ĩ a⟩ 1 jM):=by
 refine aN (cm:=ĩ a) (mb:=vd) T.O_ Za5 rfl rfl rfl fun cdv A outer s H E hr=>?_
 have hu:=hr.units
 exact(Ċ (Ũ (ŕ aB (Š hu) (ā (đ ņ ń (ā (đ Ž ţ (Ă 0) (ā ă))) (ā ă))) (ā ă) (Ĳ _))
  (Č (Ĥ (Ň Ķ ĵ (ā ă) (ā (đ ņ ń (ā (đ ľ ī (Ă 0) (ā ă))) (ā (đ oA nT (ā ă) (ā ă))))))))
  Ŀ)
  (Č (Ĥ (Ň Ķ ĵ (ā ă) (ā (đ ņ ń (Ă 0) (ā ă)))))))
theorem qd(T:Tx K mg a):İ P w K mg base (ū P w) 1 a.Ks a.Ku ["_law_number","_law_wide"] (ŷ ⟨K,ĩ a⟩ 2 cu):=by
 refine aN (cm:=ĩ a) (mb:=vf) T.tM Za6 rfl rfl rfl fun cdv A outer s H E hr=>?_
 have hu:=hr.units
 exact(Ċ (Ũ (ŕ aB (Š hu) (ā (đ ņ ń (ā (đ Ž ţ (Ă 0) (ā ă))) (ā ă))) (ā ă) (Ĳ _))
  (Č (Ĥ (Ň Ķ ĵ (ā (đ ŗ Ŕ (ā (đ ņ ń (ā (đ ľ ī (Ă 0) (ā ă))) (ā (đ ŗ Ŕ (ā (đ ľ ī (ā ă) (ā (đ oA nT (ā ă) (ā ă))))) (ā ă))))) (ā (đ oA nT (ā ă) (ā ă))))) (ā ă))))
  Ŀ)
  (Č (Ĥ (Į (đ ŗ Ŕ (ā (đ ņ ń (Ă 0) (ā (Ě (Ň Ķ ĵ (ā (đ ľ ī (ā ă) (Ă 1))) (ā ă)))))) (ā ă))))))
theorem Zbx(T:Tx K mg a):İ P w K mg base (ū P w) 2 a.Kv a.Kw ["_law_cell","_law_wide"] (ŷ ⟨K,ĩ a⟩ 2 dZ):=by
 refine aN (cm:=ĩ a) (mb:=jo) T.VL gR rfl rfl rfl fun cdv A outer s H E hr=>?_
 have hu:=hr.units
 exact(Ċ (Ī (i:=2) gR.nd rfl (by first|exact Or.inl rfl|exact Or.inr rfl) (Đ (Qp T) ċ (hr.mono (by decide)) rfl T.iZ T.OD.kp T.VF ğ (Ć 0 (hr:=(Ę ă Ď)))))
  (Ċ (Vm (Ě (ų ["_law_wide","_law_xs","_law_k"] [1,2] 1 (ĉ rP) rfl rfl (Ū rfl T.aq (ć ă ĥ)) (fun _ _ _ _ _=>(Ĩ (i:=2) (show(["_law_wide","_law_xs","_law_k"]:List Str).Nodup by decide +kernel) rfl (Or.inl rfl) (hf:=Or.inr rfl))) (fun _ _ _ _ _=>Ŝ) (fun _ _ _ _ _=>(Ě (Đ (qd T) ċ (hr.mono (by decide)) rfl T.cu T.tM.kp T.zL aP (Ę (ħ Ĕ ē (Ă 1) (Ă 2) (fun _ _=>rfl)) (Ć 0 (hr:=Ď)))))) ⟨rfl,⟨rfl,Or.inl rfl⟩,⟨rfl,⟨rfl,Or.inl rfl⟩,trivial⟩⟩)) (Vz rfl (Œ (Ĩ (i:=5) gR.nd rfl (Or.inl rfl)) (Œ (Ĩ (i:=6) gR.nd rfl (Or.inl rfl)) eX))))
  (Ċ (Ī (i:=3) gR.nd rfl (Or.inl rfl) (Đ (Qt T) ċ (hr.mono (by decide)) rfl T.jM T.O_.kp T.VJ ğ (Ę (ħ Ĕ ē (Ă 2) (ā ă) (fun _ _=>rfl)) Ď)))
  (Ċ (Ī (i:=4) gR.nd rfl (Or.inl rfl) (Į (đ ņ ń (ā (ħ Ĕ ē (Ă 2) (ā ă) (fun _ _=>rfl))) (ā ă))))
  (Ċ (Ũ (ŕ aB (Š hu) (Ă 4) (ā ă) (Ĳ _))
  (Č (Ĥ (Į (Ō (ć Ů (ć (Ě (ů (ć (đ Ž ţ (Ă 5) (ā ă)) (ć (đ Ž ţ (Ă 6) (ā ă)) (ć (v_var 3) ĥ))))) ĥ))))))
  Ŀ)
  (Ċ (Ũ (ŕ aB (Š hu) (Ă 4) (ā ă) (Ĳ _))
  (Ċ (Vm (Ě (ů (ć (đ ŗ Ŕ (ā (Ě (Ň Ķ ĵ (Ă 5) (ā (đ ņ ń (ā (ħ Ĕ ē (Ă 2) (ā ă) (fun _ _=>rfl))) (ā ă)))))) (ā ă)) (ć (đ ŗ Ŕ (ā (Ě (Ň Ķ ĵ (Ă 6) (ā (đ ņ ń (ā (ħ Ĕ ē (Ă 2) (ā ă) (fun _ _=>rfl))) (ā ă)))))) (ā ă)) ĥ)))) (Vz rfl (Œ (Ĩ (i:=7) gR.nd rfl (Or.inl rfl)) (Œ (Ĩ (i:=8) gR.nd rfl (Or.inl rfl)) eX))))
  (Č (Ĥ (Į (Ō (ć Ů (ć (Ě (ů (ć (v_var 5) (ć (v_var 6) (ć (Ě (Ň Ķ ĵ (Ă 7) (ā (PE.wk (ű Zao (by rfl) T.Qg PyProof.Rows.boot_int (ģ (ā (fC aB (Š hu) (ā (Ō (ć (v_var 5) (ć (v_var 6) ĥ)))) (ā (Ō (ć (v_var 7) (ć (v_var 8) ĥ)))) (Ĳ _))) ķ)) fun _ _ _ h=>ź Zap h)))) (ć (v_var 8) (ć (v_var 3) ĥ))))))) ĥ)))))))
  Ŀ)
  (Ċ (Ũ (ŕ aB (Š hu) (Ă 4) (ā ă) (Ĳ _))
  (Č (Ĥ (Į (Ō (ć Ů (ć (Ě (Ň Ķ ĵ (ā (Ě (Ň Ķ ĵ (ā (Ě (ů (ć (v_var 5) (ć (v_var 6) (ć (đ ņ ń (ā (ħ Ĕ ē (Ă 2) (ā ă) (fun _ _=>rfl))) (ā ă)) ĥ)))))) (ā (Ě (ů (ć (Ě (Đ (qd T) ċ (hr.mono (by decide)) rfl T.cu T.tM.kp T.zL ğ (Ę (ħ Ĕ ē (Ă 2) (ā ă) (fun _ _=>rfl)) (Ć 1 (hr:=Ď))))) (ć (Ě (Đ (qd T) ċ (hr.mono (by decide)) rfl T.cu T.tM.kp T.zL ğ (Ę (ħ Ĕ ē (Ă 2) (ā ă) (fun _ _=>rfl)) (Ć 1 (hr:=Ď))))) (ć (v_var 3) ĥ))))))))) (ā (Ě (ů (ć (Ě (Đ (qd T) ċ (hr.mono (by decide)) rfl T.cu T.tM.kp T.zL ğ (Ę (ħ Ĕ ē (Ă 2) (ā ă) (fun _ _=>rfl)) (Ć 1 (hr:=Ď))))) (ć (Ě (Đ (qd T) ċ (hr.mono (by decide)) rfl T.cu T.tM.kp T.zL ğ (Ę (ħ Ĕ ē (Ă 2) (ā ă) (fun _ _=>rfl)) (Ć 1 (hr:=Ď))))) (ć (Ě (Đ (Qt T) ċ (hr.mono (by decide)) rfl T.jM T.O_.kp T.VJ ğ (Ę (ħ Ĕ ē (Ă 2) (ā ă) (fun _ _=>rfl)) Ď))) ĥ)))))))) ĥ))))))
  Ŀ)
  (Č (Ĥ (Į (Ō (ć (ħ Ĕ ē (ā (Ě (ů (ć Ů (ć Ů ĥ))))) (ā (đ ŗ Ŕ (Ă 4) (ā ă))) (fun _ _=>rfl)) (ć (Ě (ů (ć (v_var 5) (ć (v_var 6) (ć (Ě (Ň Ķ ĵ (ā (Ě (Ň Ķ ĵ (Ă 5) (ā ă)))) (ā (đ ņ ń (ā (ħ Ĕ ē (Ă 2) (ā ă) (fun _ _=>rfl))) (ā ă))))) (ć (Ě (Ň Ķ ĵ (ā (Ě (Ň Ķ ĵ (Ă 6) (ā ă)))) (ā (đ ņ ń (ā (ħ Ĕ ē (Ă 2) (ā ă) (fun _ _=>rfl))) (ā ă))))) (ć (v_var 3) ĥ))))))) ĥ)))))))))))))
theorem qe(T:Tx K mg a):İ P w K mg base (ū P w) 1 a.Ky a.Kz ["number"] (ŷ ⟨K,ĩ a⟩ 1 dg):=by
 refine aN (cm:=ĩ a) (mb:=Bs) T.tQ Za7 rfl rfl rfl fun cdv A outer s H E hr=>?_
 have hu:=hr.units
 exact(Č (Ĥ (Į (qY iV iV iI iI (ā (wK gH gj (ā (DW (.int (1000000000)) (nu (v:=.int (1000000000)) rfl T.jR ⟨_,rfl⟩))))) (Ă 0) (ā (DW (.int (1000000000)) (nu (v:=.int (1000000000)) rfl T.jR ⟨_,rfl⟩)))))))
theorem Qu(T:Tx K mg a):İ P w K mg base (ū P w) 1 a.KC a.KD ["number"] (ŷ ⟨K,ĩ a⟩ 1 lN):=by
 refine aN (cm:=ĩ a) (mb:=Bt) T.Pa Za8 rfl rfl rfl fun cdv A outer s H E hr=>?_
 have hu:=hr.units
 exact(Č (Ĥ (Į (qY iV iV iI iI (ā ă) (Ă 0) (ā (DW (.int (1000000000)) (nu (v:=.int (1000000000)) rfl T.je ⟨_,rfl⟩)))))))
theorem Zby(T:Tx K mg a):İ P w K mg base (ū P w) 2 a.KH a.KJ ["numbers"] (ŷ ⟨K,ĩ a⟩ 1 pB):=by
 refine aN (cm:=ĩ a) (mb:=vg) T.VP Za9 rfl rfl rfl fun cdv A outer s H E hr=>?_
 have hu:=hr.units
 exact(Č (Ĥ (Į (v_and (fC aB (Š hu) (ā (PE.wk (ĭ eN (by rfl) T.jT PySem.boot_len (ģ (Ă 0) ķ)) fun _ _ _ h=>ź fj h)) (ā ă) (Ĳ _)) (v_and (Ě (Đ (qe T) ċ (hr.mono (by decide)) rfl T.dg T.tQ.kp T.zM ğ (Ę (ħ Ĕ ē (Ă 0) (ā ă) (fun _ _=>rfl)) Ď))) (v_and (Ě (Đ (qe T) ċ (hr.mono (by decide)) rfl T.dg T.tQ.kp T.zM ğ (Ę (ħ Ĕ ē (Ă 0) (ā ă) (fun _ _=>rfl)) Ď))) (iR (Ě (Đ (Qu T) ċ (hr.mono (by decide)) rfl T.lN T.Pa.kp T.VN ğ (Ę (ħ Ĕ ē (Ă 0) (ā ă) (fun _ _=>rfl)) Ď))))))))))
theorem Qv(T:Tx K mg a):İ P w K mg base (ū P w) 1 a.mZ a.CJ ["self","word","numbers"] (Rf ⟨K,ĩ a⟩ 3 "Post" vh):=by
 refine fnI (cm:=ĩ a) (mb:=fL) T.Pb zP rfl rfl rfl fun cdv A outer s H E hr=>?_
 have hu:=hr.units
 exact(Ċ (bB (i:=0) ["Thing","Post","Fence","Sail","Cloth","House"] ⟨⟨T.Ť,T.bD⟩,⟨⟨T.Ŵ,T.bW⟩,⟨⟨T.ŝ,T.bF⟩,⟨⟨T.ŵ,T.bY⟩,⟨⟨T.Ş,T.bG⟩,⟨⟨T.ş,T.bH⟩,trivial⟩⟩⟩⟩⟩⟩ (pv 0) (v_var 1))
  (Č (bB (i:=0) ["Thing","Post","Fence","Sail","Cloth","House"] ⟨⟨T.Ť,T.ĸ⟩,⟨⟨T.Ŵ,T.ŀ⟩,⟨⟨T.ŝ,T.Ĺ⟩,⟨⟨T.ŵ,T.Ł⟩,⟨⟨T.Ş,T.ĺ⟩,⟨⟨T.ş,T.Ļ⟩,trivial⟩⟩⟩⟩⟩⟩ (pv 0) (Ě (PE.wk (ű cV (by rfl) T.fB PyProof.Rows.boot_list (ģ (Ă 2) ķ)) fun _ _ _ h=>wM cW h)))))
theorem Gv(T:Tx K mg a):İ P w K mg base (ū P w) 1 a.mZ a.CJ ["self","word","numbers"] (Rf ⟨K,ĩ a⟩ 3 "Fence" pC):=by
 refine fnI (cm:=ĩ a) (mb:=fL) T.Pb zP rfl rfl rfl fun cdv A outer s H E hr=>?_
 have hu:=hr.units
 exact(Ċ (bB (i:=0) ["Thing","Post","Fence","Sail","Cloth","House"] ⟨⟨T.Ť,T.bD⟩,⟨⟨T.Ŵ,T.bW⟩,⟨⟨T.ŝ,T.bF⟩,⟨⟨T.ŵ,T.bY⟩,⟨⟨T.Ş,T.bG⟩,⟨⟨T.ş,T.bH⟩,trivial⟩⟩⟩⟩⟩⟩ (pv 0) (v_var 1))
  (Č (bB (i:=0) ["Thing","Post","Fence","Sail","Cloth","House"] ⟨⟨T.Ť,T.ĸ⟩,⟨⟨T.Ŵ,T.ŀ⟩,⟨⟨T.ŝ,T.Ĺ⟩,⟨⟨T.ŵ,T.Ł⟩,⟨⟨T.Ş,T.ĺ⟩,⟨⟨T.ş,T.Ļ⟩,trivial⟩⟩⟩⟩⟩⟩ (pv 0) (Ě (PE.wk (ű cV (by rfl) T.fB PyProof.Rows.boot_list (ģ (Ă 2) ķ)) fun _ _ _ h=>wM cW h)))))
theorem Qw(T:Tx K mg a):İ P w K mg base (ū P w) 1 a.mZ a.CJ ["self","word","numbers"] (Rf ⟨K,ĩ a⟩ 3 "Sail" vm):=by
 refine fnI (cm:=ĩ a) (mb:=fL) T.Pb zP rfl rfl rfl fun cdv A outer s H E hr=>?_
 have hu:=hr.units
 exact(Ċ (bB (i:=0) ["Thing","Post","Fence","Sail","Cloth","House"] ⟨⟨T.Ť,T.bD⟩,⟨⟨T.Ŵ,T.bW⟩,⟨⟨T.ŝ,T.bF⟩,⟨⟨T.ŵ,T.bY⟩,⟨⟨T.Ş,T.bG⟩,⟨⟨T.ş,T.bH⟩,trivial⟩⟩⟩⟩⟩⟩ (pv 0) (v_var 1))
  (Č (bB (i:=0) ["Thing","Post","Fence","Sail","Cloth","House"] ⟨⟨T.Ť,T.ĸ⟩,⟨⟨T.Ŵ,T.ŀ⟩,⟨⟨T.ŝ,T.Ĺ⟩,⟨⟨T.ŵ,T.Ł⟩,⟨⟨T.Ş,T.ĺ⟩,⟨⟨T.ş,T.Ļ⟩,trivial⟩⟩⟩⟩⟩⟩ (pv 0) (Ě (PE.wk (ű cV (by rfl) T.fB PyProof.Rows.boot_list (ģ (Ă 2) ķ)) fun _ _ _ h=>wM cW h)))))
theorem Gw(T:Tx K mg a):İ P w K mg base (ū P w) 1 a.mZ a.CJ ["self","word","numbers"] (Rf ⟨K,ĩ a⟩ 3 "Cloth" pD):=by
 refine fnI (cm:=ĩ a) (mb:=fL) T.Pb zP rfl rfl rfl fun cdv A outer s H E hr=>?_
 have hu:=hr.units
 exact(Ċ (bB (i:=0) ["Thing","Post","Fence","Sail","Cloth","House"] ⟨⟨T.Ť,T.bD⟩,⟨⟨T.Ŵ,T.bW⟩,⟨⟨T.ŝ,T.bF⟩,⟨⟨T.ŵ,T.bY⟩,⟨⟨T.Ş,T.bG⟩,⟨⟨T.ş,T.bH⟩,trivial⟩⟩⟩⟩⟩⟩ (pv 0) (v_var 1))
  (Č (bB (i:=0) ["Thing","Post","Fence","Sail","Cloth","House"] ⟨⟨T.Ť,T.ĸ⟩,⟨⟨T.Ŵ,T.ŀ⟩,⟨⟨T.ŝ,T.Ĺ⟩,⟨⟨T.ŵ,T.Ł⟩,⟨⟨T.Ş,T.ĺ⟩,⟨⟨T.ş,T.Ļ⟩,trivial⟩⟩⟩⟩⟩⟩ (pv 0) (Ě (PE.wk (ű cV (by rfl) T.fB PyProof.Rows.boot_list (ģ (Ă 2) ķ)) fun _ _ _ h=>wM cW h)))))
theorem Gx(T:Tx K mg a):İ P w K mg base (ū P w) 1 a.mZ a.CJ ["self","word","numbers"] (Rf ⟨K,ĩ a⟩ 3 "House" pF):=by
 refine fnI (cm:=ĩ a) (mb:=fL) T.Pb zP rfl rfl rfl fun cdv A outer s H E hr=>?_
 have hu:=hr.units
 exact(Ċ (bB (i:=0) ["Thing","Post","Fence","Sail","Cloth","House"] ⟨⟨T.Ť,T.bD⟩,⟨⟨T.Ŵ,T.bW⟩,⟨⟨T.ŝ,T.bF⟩,⟨⟨T.ŵ,T.bY⟩,⟨⟨T.Ş,T.bG⟩,⟨⟨T.ş,T.bH⟩,trivial⟩⟩⟩⟩⟩⟩ (pv 0) (v_var 1))
  (Č (bB (i:=0) ["Thing","Post","Fence","Sail","Cloth","House"] ⟨⟨T.Ť,T.ĸ⟩,⟨⟨T.Ŵ,T.ŀ⟩,⟨⟨T.ŝ,T.Ĺ⟩,⟨⟨T.ŵ,T.Ł⟩,⟨⟨T.Ş,T.ĺ⟩,⟨⟨T.ş,T.Ļ⟩,trivial⟩⟩⟩⟩⟩⟩ (pv 0) (Ě (PE.wk (ű cV (by rfl) T.fB PyProof.Rows.boot_list (ģ (Ă 2) ķ)) fun _ _ _ h=>wM cW h)))))
theorem Qx(T:Tx K mg a):İ P w K mg base (ū P w) 2 a.KN a.KQ ["numbers"] (ŷ ⟨K,ĩ a⟩ 1 jN):=by
 refine aN (cm:=ĩ a) (mb:=vo) T.Ph Za_ rfl rfl rfl fun cdv A outer s H E hr=>?_
 have hu:=hr.units
 exact(Č (Ĥ (Į (v_and (fC aB (Š hu) (ā (PE.wk (ĭ eN (by rfl) T.jT PySem.boot_len (ģ (Ă 0) ķ)) fun _ _ _ h=>ź fj h)) (ā ă) (Ĳ _)) (v_and (PE.wk (ĭ (kI rfl) (by rfl) T.tU PyProof.Rows.boot_all (ģ (ā (Ě (ų ["number"] [] 1 (ĉ rQ) rfl rfl (dR (Ě (bT (Ă 0) oJ (aO ă)))) (fun _ _ _ _ _=>(Ĩ (i:=0) (show(["number"]:List Str).Nodup by decide +kernel) rfl (Or.inl rfl) (hf:=Or.inr rfl))) (fun _ _ _ _ _=>Ŝ) (fun _ _ _ _ _=>(Ě (Đ (qe T) ċ (hr.mono (by decide)) rfl T.dg T.tQ.kp T.zM aP (Ć 0 (hr:=Ď))))) trivial))) ķ)) fun _ _ _ h=>ź kJ h) (iR (Ě (Đ (Qu T) ċ (hr.mono (by decide)) rfl T.lN T.Pa.kp T.VN ğ (Ę (ħ Ĕ ē (Ă 0) (ā ă) (fun _ _=>rfl)) Ď)))))))))
theorem Zbz(T:Tx K mg a):İ P w K mg base (ū P w) 3 a.KR a.KY ["numbers"] (ŷ ⟨K,ĩ a⟩ 1 pG):=by
 refine aN (cm:=ĩ a) (mb:=vp) T.V_ Zba rfl rfl rfl fun cdv A outer s H E hr=>?_
 have hu:=hr.units
 exact(Č (Ĥ (Į (v_and (Ě (Đ (Qx T) ċ (hr.mono (by decide)) rfl T.jN T.Ph.kp T.VR ğ (Ć 0 (hr:=Ď)))) (iR (fC oH (jh hu) (ā (Ě (bT (Ă 0) oJ (aO ă)))) (ā (Ě (bT (Ă 0) (aO ă) (aO ă)))) (Ĳ _)))))))
theorem Xi(T:Tx K mg a):İ P w K mg base (ū P w) 3 a.Zaw a.Zax ["numbers"] (ŷ ⟨K,ĩ a⟩ 1 vq):=by
 refine aN (cm:=ĩ a) (mb:=Er) T.ZaR Ze6 rfl rfl rfl fun cdv A outer s H E hr=>?_
 have hu:=hr.units
 exact(Č (Ĥ (Į (v_and (Ě (Đ (Qx T) ċ (hr.mono (by decide)) rfl T.jN T.Ph.kp T.VR ğ (Ć 0 (hr:=Ď)))) (v_and (fC iU iH (ā (ħ Ĕ ē (Ă 0) (ā ă) (fun _ _=>rfl))) (ā (ħ Ĕ ē (Ă 0) (ā ă) (fun _ _=>rfl))) (Ĳ _)) (iR (fC iU iH (ā (ħ Ĕ ē (Ă 0) (ā ă) (fun _ _=>rfl))) (ā (ħ Ĕ ē (Ă 0) (ā ă) (fun _ _=>rfl))) (Ĳ _))))))))
theorem Zfd(T:Tx K mg a):İ P w K mg base (ū P w) 2 a.Zay a.Zaz ["numbers"] (ŷ ⟨K,ĩ a⟩ 1 Gj):=by
 refine aN (cm:=ĩ a) (mb:=JR) T.Zev Ze7 rfl rfl rfl fun cdv A outer s H E hr=>?_
 have hu:=hr.units
 exact(Č (Ĥ (Į (v_and (Ě (Đ (qe T) ċ (hr.mono (by decide)) rfl T.dg T.tQ.kp T.zM ğ (Ę (ħ Ĕ ē (Ă 0) (ā ă) (fun _ _=>rfl)) Ď))) (v_and (Ě (Đ (qe T) ċ (hr.mono (by decide)) rfl T.dg T.tQ.kp T.zM ğ (Ę (ħ Ĕ ē (Ă 0) (ā ă) (fun _ _=>rfl)) Ď))) (iR (qY iV iV iI iI (ā ă) (ā (ħ Ĕ ē (Ă 0) (ā ă) (fun _ _=>rfl))) (ā (DW (.int (1000000000)) (nu (v:=.int (1000000000)) rfl T.je ⟨_,rfl⟩))))))))))
theorem ZbA(T:Tx K mg a):İ P w K mg base (ū P w) 3 a.KZ a.K_ ["numbers"] (ŷ ⟨K,ĩ a⟩ 1 pH):=by
 refine aN (cm:=ĩ a) (mb:=vA) T.Wa Zbb rfl rfl rfl fun cdv A outer s H E hr=>?_
 have hu:=hr.units
 exact(@Č _ _ _ _ _ (@Ĥ _ _ _ _ _ _ (@Į _ _ _ _ _ (@v_and _ _ _ _ _ _ _ _ _ (@fC _ _ _ _ _ _ _ _ _ _ _ (@aB _) (@Š _ hu) (@ā _ _ _ _ _ (@PE.wk _ _ _ _ (ĭ eN (by rfl) T.jT PySem.boot_len (@ģ _ _ _ _ _ _ _ (@Ă _ _ _ 0 _ _ (by rfl) (by first|exact Or.inl rfl|exact Or.inr (Or.inl rfl)|exact Or.inr (Or.inr rfl)) (by decide) (by decide)) (@ķ _ _ _) (by exact ı rfl))) (fun _ _ _ h=> @ź _ _ _ _ _ _ (@fj _) _ _ _ h))) (@ā _ _ _ _ _ (@ă _ _ _ _ _ _)) (Ĳ _)) (@iR _ _ _ _ _ _ _ (@PE.wk _ _ _ _ (ĭ (@kI _ rfl) (by rfl) T.tU PyProof.Rows.boot_all (@ģ _ _ _ _ _ _ _ (@ā _ _ _ _ _ (@Ě _ _ _ _ _ (ų ["numbers","place"] [0] 1 (ĉ rT) rfl rfl (@dR _ _ _ _ _ _ (@Ō _ _ _ _ _ _ _ (@ć _ _ _ _ _ _ _ (@ă _ _ _ _ _ _) (@ć _ _ _ _ _ _ _ (@ă _ _ _ _ _ _) (@ć _ _ _ _ _ _ _ (@ă _ _ _ _ _ _) (@ĥ _ _ _) (by exact ı rfl)) (by exact ı rfl)) (by exact ı rfl)))) (fun _ _ _ _ _=>(@Ĩ _ _ _ 1 _ (show(["numbers","place"]:List Str).Nodup by decide +kernel) rfl (Or.inl rfl) (Or.inr rfl))) (fun _ _ _ _ _=>(@Ŝ _ _ _)) (fun _ _ _ _ _=>(@Ě _ _ _ _ _ (@Đ _ _ _ _ _ _ _ _ _ _ _ _ _ _ _ _ (Zfd T) ċ (hr.mono (by decide)) rfl T.Gj T.Zev.kp T.Zmj (@aP _ _ _) (@Ę _ _ _ _ _ _ _ (@Ě _ _ _ _ _ (@bT _ _ _ _ _ _ _ _ _ _ _ (@Ă _ _ _ 0 _ _ (by rfl) (by first|exact Or.inl rfl|exact Or.inr (Or.inl rfl)|exact Or.inr (Or.inr rfl)) (by decide) (by decide)) (@aO _ _ _ _ _ (@v_var _ _ _ 1 _ _ (by rfl) (by first|exact Or.inl rfl|exact Or.inr (Or.inl rfl)|exact Or.inr (Or.inr rfl)) (by decide) (by decide))) (@aO _ _ _ _ _ (@Ě _ _ _ _ _ (@Ň _ _ _ _ _ _ _ _ _ _ _ (@Ķ _) (@ĵ _) (@Ă _ _ _ 1 _ _ (by rfl) (by first|exact Or.inl rfl|exact Or.inr (Or.inl rfl)|exact Or.inr (Or.inr rfl)) (by decide) (by decide)) (@ā _ _ _ _ _ (@ă _ _ _ _ _ _))))))) (@Ď _ _ _) (by exact ı rfl)) (by decide) (by exact ı rfl) (by rfl)))) ⟨rfl,⟨rfl,Or.inl rfl⟩,trivial⟩))) (@ķ _ _ _) (by exact ı rfl))) (fun _ _ _ h=> @ź _ _ _ _ _ _ (@kJ _) _ _ _ h)))))))
theorem ZbB(T:Tx K mg a):İ P w K mg base (ū P w) 4 a.La a.Lb ["word","numbers"] (ŷ ⟨K,ĩ a⟩ 2 cP):=by
 refine aN (cm:=ĩ a) (mb:=gO) T.Wb Zbc rfl rfl rfl fun cdv A outer s H E hr=>?_
 have hu:=hr.units
 exact(Ċ (Ũ (PW.pt (w_and (ŕ aB (Š hu) (Ă 0) (ā Ů) (Ĳ _)) (gA (aZ (ā (Ě (Đ (Zby T) ċ (hr.mono (by decide)) rfl T.pB T.VP.kp T.Zes ğ (Ć 1 (hr:=Ď)))))))))
  (Č (Ĥ (Į (kW T.Za1 (Qv T) cJ (hr.mono (by decide)) rfl T.ZaU T.Pg ğ (Ć 0 (hr:=(Ć 1 (hr:=Ď))))))))
  Ŀ)
  (Ċ (Ũ (PW.pt (w_and (ŕ aB (Š hu) (Ă 0) (ā Ů) (Ĳ _)) (gA (aZ (ā (Ě (Đ (Zbz T) ċ (hr.mono (by decide)) rfl T.pG T.V_.kp T.Zet ğ (Ć 1 (hr:=Ď)))))))))
  (Č (Ĥ (Į (kW T.Uy (Gv T) cJ (hr.mono (by decide)) rfl T.Uv T.Pg ğ (Ć 0 (hr:=(Ć 1 (hr:=Ď))))))))
  Ŀ)
  (Ċ (Ũ (PW.pt (w_and (ŕ aB (Š hu) (Ă 0) (ā Ů) (Ĳ _)) (gA (aZ (ā (Ě (Đ (Xi T) ċ (hr.mono (by decide)) rfl T.vq T.ZaR.kp T.Zeu ğ (Ć 1 (hr:=Ď)))))))))
  (Č (Ĥ (Į (kW T.Za2 (Qw T) cJ (hr.mono (by decide)) rfl T.ZaV T.Pg ğ (Ć 0 (hr:=(Ć 1 (hr:=Ď))))))))
  Ŀ)
  (Ċ (Ũ (PW.pt (w_and (ŕ aB (Š hu) (Ă 0) (ā Ů) (Ĳ _)) (gA (aZ (ā (Ě (Đ (ZbA T) ċ (hr.mono (by decide)) rfl T.pH T.Wa.kp T.Zew ğ (Ć 1 (hr:=Ď)))))))))
  (Č (Ĥ (Į (kW T.Uz (Gw T) cJ (hr.mono (by decide)) rfl T.Uw T.Pg ğ (Ć 0 (hr:=(Ć 1 (hr:=Ď))))))))
  Ŀ)
  (Ċ (Ũ (PW.pt (w_and (ŕ aB (Š hu) (Ă 0) (ā Ů) (Ĳ _)) (gA (aZ (ā (Ě (Đ (Xi T) ċ (hr.mono (by decide)) rfl T.vq T.ZaR.kp T.Zeu ğ (Ć 1 (hr:=Ď)))))))))
  (Č (Ĥ (Į (kW T.UG (Gx T) cJ (hr.mono (by decide)) rfl T.Ux T.Pg ğ (Ć 0 (hr:=(Ć 1 (hr:=Ď))))))))
  Ŀ)
  (Č (xH (C:= "BadThing") rfl rfl nG rfl T.CQ T.CV)))))))
theorem ZbC(T:Tx K mg a):İ P w K mg base (ū P w) 1 a.Ld a.Le ["points"] (ŷ ⟨K,ĩ a⟩ 1 sS):=by
 refine aN (cm:=ĩ a) (mb:=Bu) T.Wc CW rfl rfl rfl fun cdv A outer s H E hr=>?_
 have hu:=hr.units
 exact(Ċ (jm (i:=1) CW.nd rfl rfl ["point"] [] 1 (ĉ pq) rfl rfl (aD 0) (fun _ _ _ _ _=>(Ĩ (i:=0) (show(["point"]:List Str).Nodup by decide +kernel) rfl (Or.inl rfl) (hf:=Or.inr rfl))) (fun _ _ _ _ _=>Ŝ) (fun _ _ _ _ _=>(ħ Ĕ ē (Ă 0) (ā ă) (fun _ _=>rfl))) trivial)
  (Ċ (jm (i:=2) CW.nd rfl rfl ["point"] [] 1 (ĉ pq) rfl rfl (aD 0) (fun _ _ _ _ _=>(Ĩ (i:=0) (show(["point"]:List Str).Nodup by decide +kernel) rfl (Or.inl rfl) (hf:=Or.inr rfl))) (fun _ _ _ _ _=>Ŝ) (fun _ _ _ _ _=>(ħ Ĕ ē (Ă 0) (ā ă) (fun _ _=>rfl))) trivial)
  (Č (Ĥ (ů (ć (Ō (ć ă (ć ă (ć (PE.wk (ĭ (Bj rfl) (by rfl) T.Eu PyProof.Rows.boot_max (ģ (Ă 1) ķ)) fun _ _ _ h=>ź Bl h) ĥ)))) (ć (Ō (ć (wK gH gj (ā ă)) (ć ă (ć (wK gH gj (ā (PE.wk (ĭ (Jr rfl) (by rfl) T.zO PyProof.Rows.boot_min (ģ (Ă 1) ķ)) fun _ _ _ h=>ź Jt h))) ĥ)))) (ć (Ō (ć ă (ć ă (ć (PE.wk (ĭ (Bj rfl) (by rfl) T.Eu PyProof.Rows.boot_max (ģ (Ă 2) ķ)) fun _ _ _ h=>ź Bl h) ĥ)))) (ć (Ō (ć ă (ć (wK gH gj (ā ă)) (ć (wK gH gj (ā (PE.wk (ĭ (Jr rfl) (by rfl) T.zO PyProof.Rows.boot_min (ģ (Ă 2) ķ)) fun _ _ _ h=>ź Jt h))) ĥ)))) ĥ)))))))))
theorem ZbD(T:Tx K mg a):İ P w K mg base (ū P w) 1 a.Lf a.Lg ["points"] (ŷ ⟨K,ĩ a⟩ 1 sU):=by
 refine aN (cm:=ĩ a) (mb:=Bv) T.Wd CZ rfl rfl rfl fun cdv A outer s H E hr=>?_
 have hu:=hr.units
 exact(Ċ (Ī (i:=1) CZ.nd rfl (Or.inl rfl) (ů ĥ))
  (Ċ (bf PassesOwn.leaving rfl (aD 0) (Ĩ (i:=2) CZ.nd rfl (Or.inl rfl))
  (Č (Ũ (ŕ Zas (Gf hu) (Ă 2) (Ă 1) (by with_unfolding_all rfl))
  (Č (PS.wk (cA (lJ PySem.F.plainAttrs_list PySem.F.slot_list_append PySem.F.type_list_append aQ (pv 1) (ć (v_var 2) ĥ))) fun _ _ _ h=>g_ h))
  Ŀ)))
  (Č (Ĥ (iK 1)))))
theorem ZbE(T:Tx K mg a):İ P w K mg base (ū P w) 1 a.Li a.Lj ["one","other"] (ŷ ⟨K,ĩ a⟩ 2 sV):=by
 refine aN (cm:=ĩ a) (mb:=Bw) T.Wf C_ rfl rfl rfl fun cdv A outer s H E hr=>?_
 have hu:=hr.units
 exact(Ċ (Ī (i:=2) C_.nd rfl (Or.inl rfl) (Į (đ ŗ Ŕ (ā (ħ Ĕ ē (Ă 1) (ā ă) (fun _ _=>rfl))) (ā (ħ Ĕ ē (Ă 0) (ā ă) (fun _ _=>rfl))))))
  (Ċ (Ī (i:=3) C_.nd rfl (Or.inl rfl) (Į (đ ŗ Ŕ (ā (ħ Ĕ ē (Ă 0) (ā ă) (fun _ _=>rfl))) (ā (ħ Ĕ ē (Ă 1) (ā ă) (fun _ _=>rfl))))))
  (Č (Ĥ (Į (Ō (ć (v_var 2) (ć (v_var 3) (ć (Ě (Ň Ķ ĵ (ā (đ ľ ī (Ă 2) (ā (ħ Ĕ ē (Ă 0) (ā ă) (fun _ _=>rfl))))) (ā (đ ľ ī (Ă 3) (ā (ħ Ĕ ē (Ă 0) (ā ă) (fun _ _=>rfl))))))) ĥ)))))))))
theorem Qy(T:Tx K mg a):İ P w K mg base (ū P w) 1 a.Lk a.Lp ["line","pair"] (ŷ ⟨K,ĩ a⟩ 2 i_):=by
 refine aN (cm:=ĩ a) (mb:=Bx) T.Pj Zbd rfl rfl rfl fun cdv A outer s H E hr=>?_
 have hu:=hr.units
 exact(Č (Ĥ (Į (fC iV iI (ā (Ě (Ň Ķ ĵ (ā (đ ľ ī (ā (ħ Ĕ ē (Ă 0) (ā ă) (fun _ _=>rfl))) (ā (ħ Ĕ ē (Ă 1) (ā ă) (fun _ _=>rfl))))) (ā (đ ľ ī (ā (ħ Ĕ ē (Ă 0) (ā ă) (fun _ _=>rfl))) (ā (ħ Ĕ ē (Ă 1) (ā ă) (fun _ _=>rfl)))))))) (ā (ħ Ĕ ē (Ă 0) (ā ă) (fun _ _=>rfl))) (Ĳ _)))))
theorem ZbF(T:Tx K mg a):İ P w K mg base (ū P w) 2 a.Lq a.Lr ["points"] (ŷ ⟨K,ĩ a⟩ 1 sW):=by
 refine aN (cm:=ĩ a) (mb:=BJ) T.Wh lF rfl rfl rfl fun cdv A outer s H E hr=>?_
 have hu:=hr.units
 exact(Ċ (Ī (i:=1) lF.nd rfl (Or.inl rfl) (ů ĥ))
  (Ċ (Ī (i:=2) lF.nd rfl (Or.inl rfl) (Đ (ZbD T) ċ (hr.mono (by decide)) rfl T.sU T.Wd.kp T.Zez ğ (Ć 0 (hr:=Ď))))
  (Ċ (bf PassesOwn.leaving rfl (aD 2) (Ĩ (i:=3) lF.nd rfl (Or.inl rfl))
  (Č (bf PassesOwn.leaving rfl (aD 2) (Ĩ (i:=4) lF.nd rfl (Or.inl rfl))
  (Ċ (Ī (i:=5) lF.nd rfl (by first|exact Or.inl rfl|exact Or.inr rfl) (Đ (ZbE T) ċ (hr.mono (by decide)) rfl T.sV T.Wf.kp T.ZeA ğ (Ć 3 (hr:=(Ć 4 (hr:=Ď))))))
  (Č (Ũ (PW.pt (w_and (ŕ oH (jh hu) (Ă 3) (Ă 4) (Ĳ _)) (gA (aZ (ā (PE.wk (ĭ (kI rfl) (by rfl) T.tU PyProof.Rows.boot_all (ģ (ā (Ě (ų ["line","point"] [5] 1 (ĉ rW) rfl rfl (aD 2) (fun _ _ _ _ _=>(Ĩ (i:=1) (show(["line","point"]:List Str).Nodup by decide +kernel) rfl (Or.inl rfl) (hf:=Or.inr rfl))) (fun _ _ _ _ _=>Ŝ) (fun _ _ _ _ _=>(Ě (Đ (Qy T) ċ (hr.mono (by decide)) rfl T.i_ T.Pj.kp T.Wg aP (Ć 0 (hr:=(Ć 1 (hr:=Ď))))))) ⟨rfl,⟨rfl,Or.inl rfl⟩,trivial⟩))) ķ)) fun _ _ _ h=>ź kJ h))))))
  (Č (PS.wk (cA (lJ PySem.F.plainAttrs_list PySem.F.slot_list_append PySem.F.type_list_append aQ (pv 1) (ć (v_var 5) ĥ))) fun _ _ _ h=>g_ h))
  Ŀ))))))
  (Č (Ĥ (iK 1))))))
theorem Qz(T:Tx K mg a):İ P w K mg base (ū P w) 3 a.Ls a.Lw ["points"] (ŷ ⟨K,ĩ a⟩ 1 lO):=by
 refine aN (cm:=ĩ a) (mb:=BK) T.Pk Zbe rfl rfl rfl fun cdv A outer s H E hr=>?_
 have hu:=hr.units
 exact(Č (Ĥ (Ň Ķ ĵ (ā (Ě (Đ (ZbC T) ċ (hr.mono (by decide)) rfl T.sS T.Wc.kp T.Zey ğ (Ć 0 (hr:=Ď))))) (ā (Ě (Đ (ZbF T) ċ (hr.mono (by decide)) rfl T.sW T.Wh.kp T.ZeB ğ (Ć 0 (hr:=Ď))))))))
theorem QB(T:Tx K mg a):İ P w K mg base (ū P w) 1 a.Lx a.Ly ["point","ray"] (ŷ ⟨K,ĩ a⟩ 2 jc):=by
 refine aN (cm:=ĩ a) (mb:=BL) T.Pn Zbf rfl rfl rfl fun cdv A outer s H E hr=>?_
 have hu:=hr.units
 exact(Č (Ĥ (Į (Ō (ć (Ě (Ň Ķ ĵ (ā (đ ľ ī (ā (ħ Ĕ ē (Ă 1) (ā ă) (fun _ _=>rfl))) (ā (ħ Ĕ ē (Ă 0) (ā ă) (fun _ _=>rfl))))) (ā (đ ľ ī (ā (ħ Ĕ ē (Ă 1) (ā ă) (fun _ _=>rfl))) (ā (ħ Ĕ ē (Ă 0) (ā ă) (fun _ _=>rfl))))))) (ć (Ě (Ň Ķ ĵ (ā (đ ľ ī (ā (ħ Ĕ ē (Ă 1) (ā ă) (fun _ _=>rfl))) (ā (ħ Ĕ ē (Ă 0) (ā ă) (fun _ _=>rfl))))) (ā (đ ľ ī (ā (ħ Ĕ ē (Ă 1) (ā ă) (fun _ _=>rfl))) (ā (ħ Ĕ ē (Ă 0) (ā ă) (fun _ _=>rfl))))))) ĥ))))))
theorem QC(T:Tx K mg a):İ P w K mg base (ū P w) 1 a.ZaA a.ZaB ["x","y","u","v","z"] (ŷ ⟨K,ĩ a⟩ 5 qG):=by
 refine aN (cm:=ĩ a) (mb:=JT) T.Uu Ze8 rfl rfl rfl fun cdv A outer s H E hr=>?_
 have hu:=hr.units
 exact(Č (Ĥ (ů (ć (Ō (ć (v_var 0) (ć (v_var 1) (ć (v_var 4) ĥ)))) (ć (Ō (ć (v_var 2) (ć (v_var 1) (ć (v_var 4) ĥ)))) (ć (Ō (ć (v_var 2) (ć (v_var 3) (ć (v_var 4) ĥ)))) (ć (Ō (ć (v_var 0) (ć (v_var 3) (ć (v_var 4) ĥ)))) ĥ)))))))
theorem QD(T:Tx K mg a):İ P w K mg base (ū P w) 2 a.Lz a.LC ["x","y","u","v","h"] (ŷ ⟨K,ĩ a⟩ 5 lQ):=by
 refine aN (cm:=ĩ a) (mb:=BP) T.Pq Zbg rfl rfl rfl fun cdv A outer s H E hr=>?_
 have hu:=hr.units
 exact(Č (Ĥ (Ň Ķ ĵ (ā (Ě (Đ (QC T) ċ (hr.mono (by decide)) rfl T.qG T.Uu.kp T.ZaS ğ (Ć 0 (hr:=(Ć 1 (hr:=(Ć 2 (hr:=(Ć 3 (hr:=(Ę ă Ď)))))))))))) (ā (Ě (Đ (QC T) ċ (hr.mono (by decide)) rfl T.qG T.Uu.kp T.ZaS ğ (Ć 0 (hr:=(Ć 1 (hr:=(Ć 2 (hr:=(Ć 3 (hr:=(Ć 4 (hr:=Ď))))))))))))))))
theorem ZbG(T:Tx K mg a):İ P w K mg base (ū P w) 3 a.LQ a.LR ["self"] (ŷ ⟨K,ĩ a⟩ 1 lR):=by
 refine aN (cm:=ĩ a) (mb:=BR) T.ZeC Dc rfl rfl rfl fun cdv A outer s H E hr=>?_
 have hu:=hr.units
 exact(Ċ (Ī (i:=1) Dc.nd rfl (Or.inl rfl) (Į (đ ľ ī (ā ă) (ā (ħ Ĕ ē (ā (bA ["Thing","Post","Fence","Sail","Cloth","House"] ⟨⟨T.Ť,T.ĸ⟩,⟨⟨T.Ŵ,T.ŀ⟩,⟨⟨T.ŝ,T.Ĺ⟩,⟨⟨T.ŵ,T.Ł⟩,⟨⟨T.Ş,T.ĺ⟩,⟨⟨T.ş,T.Ļ⟩,trivial⟩⟩⟩⟩⟩⟩ (Ă 0))) (ā ă) (fun _ _=>rfl))))))
  (Ċ (Ī (i:=2) Dc.nd rfl (Or.inl rfl) (Į (đ ľ ī (ā ă) (ā (ħ Ĕ ē (ā (bA ["Thing","Post","Fence","Sail","Cloth","House"] ⟨⟨T.Ť,T.ĸ⟩,⟨⟨T.Ŵ,T.ŀ⟩,⟨⟨T.ŝ,T.Ĺ⟩,⟨⟨T.ŵ,T.Ł⟩,⟨⟨T.Ş,T.ĺ⟩,⟨⟨T.ş,T.Ļ⟩,trivial⟩⟩⟩⟩⟩⟩ (Ă 0))) (ā ă) (fun _ _=>rfl))))))
  (Č (Ĥ (Đ (QD T) ċ (hr.mono (by decide)) rfl T.lQ T.Pq.kp T.Wk ğ (Ę (đ ŗ Ŕ (Ă 1) (ā ă)) (Ę (đ ŗ Ŕ (Ă 2) (ā ă)) (Ę (Ě (Ň Ķ ĵ (Ă 1) (ā ă))) (Ę (Ě (Ň Ķ ĵ (Ă 2) (ā ă))) (Ę (ħ Ĕ ē (ā (bA ["Thing","Post","Fence","Sail","Cloth","House"] ⟨⟨T.Ť,T.ĸ⟩,⟨⟨T.Ŵ,T.ŀ⟩,⟨⟨T.ŝ,T.Ĺ⟩,⟨⟨T.ŵ,T.Ł⟩,⟨⟨T.Ş,T.ĺ⟩,⟨⟨T.ş,T.Ļ⟩,trivial⟩⟩⟩⟩⟩⟩ (Ă 0))) (ā ă) (fun _ _=>rfl)) Ď))))))))))
theorem ZbH(T:Tx K mg a):İ P w K mg base (ū P w) 1 a.L_ a.Ma ["self"] (ŷ ⟨K,ĩ a⟩ 1 lU):=by
 refine aN (cm:=ĩ a) (mb:=BW) T.ZeE wg rfl rfl rfl fun cdv A outer s H E hr=>?_
 have hu:=hr.units
 exact(Ċ (Ī (i:=1) wg.nd rfl (Or.inl rfl) (Į (bA ["Thing","Post","Fence","Sail","Cloth","House"] ⟨⟨T.Ť,T.ĸ⟩,⟨⟨T.Ŵ,T.ŀ⟩,⟨⟨T.ŝ,T.Ĺ⟩,⟨⟨T.ŵ,T.Ł⟩,⟨⟨T.Ş,T.ĺ⟩,⟨⟨T.ş,T.Ļ⟩,trivial⟩⟩⟩⟩⟩⟩ (Ă 0))))
  (Ċ (Ī (i:=2) wg.nd rfl (Or.inl rfl) (Į (Ō (ć (ħ Ĕ ē (Ă 1) (ā ă) (fun _ _=>rfl)) (ć (ħ Ĕ ē (Ă 1) (ā ă) (fun _ _=>rfl)) ĥ)))))
  (Ċ (Ī (i:=3) wg.nd rfl (Or.inl rfl) (Į (Ō (ć (ħ Ĕ ē (Ă 1) (ā ă) (fun _ _=>rfl)) (ć (ħ Ĕ ē (Ă 1) (ā ă) (fun _ _=>rfl)) ĥ)))))
  (Č (Ĥ (ů (ć (Ě (Ň Ķ ĵ (Ă 2) (ā (Ō (ć ă ĥ))))) (ć (Ě (Ň Ķ ĵ (Ă 3) (ā (Ō (ć ă ĥ))))) (ć (Ě (Ň Ķ ĵ (Ă 3) (ā (Ō (ć (ħ Ĕ ē (Ă 1) (ā ă) (fun _ _=>rfl)) ĥ))))) (ć (Ě (Ň Ķ ĵ (Ă 2) (ā (Ō (ć (ħ Ĕ ē (Ă 1) (ā ă) (fun _ _=>rfl)) ĥ))))) ĥ))))))))))
theorem ZbI(T:Tx K mg a):İ P w K mg base (ū P w) 2 a.Mf a.Mg ["self"] (ŷ ⟨K,ĩ a⟩ 1 lV):=by
 refine aN (cm:=ĩ a) (mb:=BX) T.ZeG Qj rfl rfl rfl fun cdv A outer s H E hr=>?_
 have hu:=hr.units
 exact(Ċ (Ī (i:=1) Qj.nd rfl (Or.inl rfl) (Į (bA ["Thing","Post","Fence","Sail","Cloth","House"] ⟨⟨T.Ť,T.ĸ⟩,⟨⟨T.Ŵ,T.ŀ⟩,⟨⟨T.ŝ,T.Ĺ⟩,⟨⟨T.ŵ,T.Ł⟩,⟨⟨T.Ş,T.ĺ⟩,⟨⟨T.ş,T.Ļ⟩,trivial⟩⟩⟩⟩⟩⟩ (Ă 0))))
  (Č (Ĥ (Đ (QC T) ċ (hr.mono (by decide)) rfl T.qG T.Uu.kp T.ZaS ğ (Ę (ħ Ĕ ē (Ă 1) (ā ă) (fun _ _=>rfl)) (Ę (ħ Ĕ ē (Ă 1) (ā ă) (fun _ _=>rfl)) (Ę (ħ Ĕ ē (Ă 1) (ā ă) (fun _ _=>rfl)) (Ę (ħ Ĕ ē (Ă 1) (ā ă) (fun _ _=>rfl)) (Ę (ħ Ĕ ē (Ă 1) (ā ă) (fun _ _=>rfl)) Ď)))))))))
theorem ZbJ(T:Tx K mg a):İ P w K mg base (ū P w) 1 a.Mh a.Mi ["self"] (ŷ ⟨K,ĩ a⟩ 1 lW):=by
 refine aN (cm:=ĩ a) (mb:=BZ) T.ZeI Zbh rfl rfl rfl fun cdv A outer s H E hr=>?_
 have hu:=hr.units
 exact(@Č _ _ _ _ _ (@Ĥ _ _ _ _ _ _ (ų ["self","place"] [0] 1 (ĉ rY) rfl rfl (@dR _ _ _ _ _ _ (@Ō _ _ _ _ _ _ _ (@ć _ _ _ _ _ _ _ (@ă _ _ _ _ _ _) (@ć _ _ _ _ _ _ _ (@ă _ _ _ _ _ _) (@ć _ _ _ _ _ _ _ (@ă _ _ _ _ _ _) (@ĥ _ _ _) (by exact ı rfl)) (by exact ı rfl)) (by exact ı rfl)))) (fun _ _ _ _ _=>(@Ĩ _ _ _ 1 _ (show(["self","place"]:List Str).Nodup by decide +kernel) rfl (Or.inl rfl) (Or.inr rfl))) (fun _ _ _ _ _=>(@Ŝ _ _ _)) (fun _ _ _ _ _=>(@PE.wk _ _ _ _ (ű Iw (by rfl) T.Ew PyProof.Rows.boot_tuple (@ģ _ _ _ _ _ _ _ (@ā _ _ _ _ _ (@Ě _ _ _ _ _ (@bT _ _ _ _ _ _ _ _ _ _ _ (@ā _ _ _ _ _ (@bA _ _ _ _ _ _ _ ["Thing","Post","Fence","Sail","Cloth","House"] ⟨⟨T.Ť,T.ĸ⟩,⟨⟨T.Ŵ,T.ŀ⟩,⟨⟨T.ŝ,T.Ĺ⟩,⟨⟨T.ŵ,T.Ł⟩,⟨⟨T.Ş,T.ĺ⟩,⟨⟨T.ş,T.Ļ⟩,trivial⟩⟩⟩⟩⟩⟩ (@Ă _ _ _ 0 _ _ (by rfl) (by first|exact Or.inl rfl|exact Or.inr (Or.inl rfl)|exact Or.inr (Or.inr rfl)) (by decide) (by decide)) (by rfl))) (@aO _ _ _ _ _ (@v_var _ _ _ 1 _ _ (by rfl) (by first|exact Or.inl rfl|exact Or.inr (Or.inl rfl)|exact Or.inr (Or.inr rfl)) (by decide) (by decide))) (@aO _ _ _ _ _ (@Ě _ _ _ _ _ (@Ň _ _ _ _ _ _ _ _ _ _ _ (@Ķ _) (@ĵ _) (@Ă _ _ _ 1 _ _ (by rfl) (by first|exact Or.inl rfl|exact Or.inr (Or.inl rfl)|exact Or.inr (Or.inr rfl)) (by decide) (by decide)) (@ā _ _ _ _ _ (@ă _ _ _ _ _ _)))))))) (@ķ _ _ _) (by exact ı rfl))) (fun _ _ _ h=> @ź _ _ _ _ _ _ (@Iz _) _ _ _ h))) ⟨rfl,⟨rfl,Or.inl rfl⟩,trivial⟩)))
theorem Zfe(T:Tx K mg a):İ P w K mg base (ū P w) 3 a.ZaC a.ZaD ["self"] (ŷ ⟨K,ĩ a⟩ 1 zJ):=by
 refine aN (cm:=ĩ a) (mb:=JV) T.Zmk Xh rfl rfl rfl fun cdv A outer s H E hr=>?_
 have hu:=hr.units
 exact(Ċ (Ī (i:=1) Xh.nd rfl (Or.inl rfl) (Į (bA ["Thing","Post","Fence","Sail","Cloth","House"] ⟨⟨T.Ť,T.ĸ⟩,⟨⟨T.Ŵ,T.ŀ⟩,⟨⟨T.ŝ,T.Ĺ⟩,⟨⟨T.ŵ,T.Ł⟩,⟨⟨T.Ş,T.ĺ⟩,⟨⟨T.ş,T.Ļ⟩,trivial⟩⟩⟩⟩⟩⟩ (Ă 0))))
  (Č (Ĥ (Đ (QD T) ċ (hr.mono (by decide)) rfl T.lQ T.Pq.kp T.Wk ğ (Ę (ħ Ĕ ē (Ă 1) (ā ă) (fun _ _=>rfl)) (Ę (ħ Ĕ ē (Ă 1) (ā ă) (fun _ _=>rfl)) (Ę (ħ Ĕ ē (Ă 1) (ā ă) (fun _ _=>rfl)) (Ę (ħ Ĕ ē (Ă 1) (ā ă) (fun _ _=>rfl)) (Ę (ħ Ĕ ē (Ă 1) (ā ă) (fun _ _=>rfl)) Ď)))))))))
theorem QF(T:Tx K mg a):İ P w K mg base (ū P w) 4 a.Mj a.Ml ["thing","ray"] (ŷ ⟨K,ĩ a⟩ 2 jO):=by
 refine aN (cm:=ĩ a) (mb:=B_) T.Pr Zbi rfl rfl rfl fun cdv A outer s H E hr=>?_
 have hu:=hr.units
 exact(Č (Ĥ (ų ["ray","corner"] [1] 1 (ĉ rZ) rfl rfl (JC (dR (Ě (Tt (Rb:= "corners") (k:=3) (n:=1) (qg:=[("Post",lR),("Fence",lU),("Sail",lV),("Cloth",lW),("House",zJ)]) ⟨⟨T.Ŵ,_,_,_,T.pX,(ZbG T).mono (by decide),T.ZeD,ċ⟩,⟨⟨T.ŝ,_,_,_,T.ni,(ZbH T).mono (by decide),T.ZeF,ċ⟩,⟨⟨T.ŵ,_,_,_,T.pY,(ZbI T).mono (by decide),T.ZeH,ċ⟩,⟨⟨T.Ş,_,_,_,T.nj,(ZbJ T).mono (by decide),T.ZeJ,ċ⟩,⟨⟨T.ş,_,_,_,T.nq,(Zfe T).mono (by decide),T.Zml,ċ⟩,trivial⟩⟩⟩⟩⟩ (hr.mono (by decide)) aP (v_var 0))))) (fun _ _ _ _ _=>(Ĩ (i:=1) (show(["ray","corner"]:List Str).Nodup by decide +kernel) rfl (Or.inl rfl) (hf:=Or.inr rfl))) (fun _ _ _ _ _=>Ŝ) (fun _ _ _ _ _=>(Ě (Đ (QB T) ċ (hr.mono (by decide)) rfl T.jc T.Pn.kp T.Wj aP (Ć 1 (hr:=(Ć 0 (hr:=Ď))))))) ⟨rfl,⟨rfl,Or.inl rfl⟩,trivial⟩)))
theorem QG(T:Tx K mg a):İ P w K mg base (ū P w) 1 a.Mp a.Mq ["first","last"] (ŷ ⟨K,ĩ a⟩ 2 jP):=by
 refine aN (cm:=ĩ a) (mb:=vC) T.Pu Zbj rfl rfl rfl fun cdv A outer s H E hr=>?_
 have hu:=hr.units
 exact(Ċ (Ũ (ŕ iU iH (Ă 1) (Ă 0) (Ĳ _))
  (Č (Ĥ (Į ă)))
  Ŀ)
  (Č (Ĥ (Į (đ ŗ Ŕ (ā (đ Az A_ (ā ă) (ā (Ě (Ň Ķ ĵ (Ă 1) (ā ă)))))) (ā (đ Az A_ (ā ă) (Ă 0))))))))
theorem ZbK(T:Tx K mg a):İ P w K mg base (ū P w) 2 a.Mr a.Ms ["lines","unit","q","width"] (ŷ ⟨K,ĩ a⟩ 4 pI):=by
 refine aN (cm:=ĩ a) (mb:=vD) T.Wo dz rfl rfl rfl fun cdv A outer s H E hr=>?_
 have hu:=hr.units
 exact(Ċ (Ī (i:=4) dz.nd rfl (Or.inl rfl) (Į ă))
  (Ċ (Ī (i:=5) dz.nd rfl (Or.inl rfl) (Į (đ ŗ Ŕ (Ă 3) (ā ă))))
  (Ċ (bf PassesOwn.leaving rfl (aD 0) (n_ rfl (Œ (Ĩ (i:=6) dz.nd rfl (Or.inl rfl)) (Œ (Ĩ (i:=7) dz.nd rfl (Or.inl rfl)) (Œ (Ĩ (i:=8) dz.nd rfl (Or.inl rfl)) eX))))
  (Ċ (Ī (i:=9) dz.nd rfl (Or.inl rfl) (Į (đ ľ ī (Ă 6) (Ă 1))))
  (Ċ (Ī (i:=10) dz.nd rfl (Or.inl rfl) (Į (đ ŗ Ŕ (Ă 8) (ā (đ ľ ī (ā (đ ľ ī (Ă 7) (Ă 1))) (Ă 2))))))
  (Č (Ũ (ŕ Vs Vh (Ă 9) (ā ă) (Ĳ _))
  (Č (Ī (i:=5) dz.nd rfl (Or.inl rfl) (Į (PE.wk (ĭ (uo rfl) (by rfl) T.zO PyProof.Rows.boot_min (ģ (Ă 5) (ģ (ā (đ Ž ţ (Ă 10) (Ă 9))) ķ))) fun _ _ _ h=>ź uG h))))
  (Č (Ũ (ŕ iU iH (Ă 9) (ā ă) (Ĳ _))
  (Č (Ī (i:=4) dz.nd rfl (Or.inl rfl) (Į (PE.wk (ĭ (RQ rfl) (by rfl) T.Eu PyProof.Rows.boot_max (ģ (Ă 4) (ģ (ā (wK gH gj (ā (đ Ž ţ (Ă 10) (ā (wK gH gj (Ă 9))))))) ķ))) fun _ _ _ h=>ź Tq h))))
  (Č (Ũ (ŕ iU iH (Ă 10) (ā ă) (Ĳ _))
  (Č (Ĥ (Į ă)))
  Ŀ)))))))))
  (Č (Ĥ (Đ (QG T) ċ (hr.mono (by decide)) rfl T.jP T.Pu.kp T.Wn ğ (Ć 4 (hr:=(Ć 5 (hr:=Ď))))))))))
theorem ZbL(T:Tx K mg a):İ P w K mg base (ū P w) 5 a.Mt a.Mu ["yard","thing","ray"] (ŷ ⟨K,ĩ a⟩ 3 lX):=by
 refine aN (cm:=ĩ a) (mb:=Cd) T.Wq pZ rfl rfl rfl fun cdv A outer s H E hr=>?_
 have hu:=hr.units
 exact(Ċ (Ī (i:=3) pZ.nd rfl (Or.inl rfl) (Đ (Qz T) ċ (hr.mono (by decide)) rfl T.lO T.Pk.kp T.Wi ğ (Ę (Ě (Đ (QF T) ċ (hr.mono (by decide)) rfl T.jO T.Pr.kp T.Wm ğ (Ć 1 (hr:=(Ć 2 (hr:=Ď)))))) Ď)))
  (Ċ (Ī (i:=4) pZ.nd rfl (Or.inl rfl) (Į ă))
  (Ċ (bf PassesOwn.leaving rfl (Ū rfl T.aq (ć (bA ["Yard"] ⟨⟨T.aH,T.bU⟩,trivial⟩ (Ă 0)) ĥ)) (Ĩ (i:=5) pZ.nd rfl (Or.inl rfl))
  (Č (Jx (i:=4) pZ.nd rfl (Or.inl rfl) (đ Az A_ (ā (Ě (Đ (ZbK T) ċ (hr.mono (by decide)) rfl T.pI T.Wo.kp T.ZeK ğ (Ć 3 (hr:=(Ę (đ ľ ī (ā ă) (ā (ħ Ĕ ē (Ă 2) (ā ă) (fun _ _=>rfl)))) (Ć 5 (hr:=(Ę (bA ["Yard"] ⟨⟨T.aH,T.bC⟩,trivial⟩ (Ă 0)) Ď))))))))) (ā (đ ľ ī (Ă 5) (ā (bA ["Yard"] ⟨⟨T.aH,T.bC⟩,trivial⟩ (Ă 0)))))))))
  (Č (Ĥ (iK 4))))))
theorem Zff(T:Tx K mg a):İ P w K mg base (ū P w) 6 a.ZaE a.ZaF ["yard","ray"] (ŷ ⟨K,ĩ a⟩ 2 Gk):=by
 refine aN (cm:=ĩ a) (mb:=JW) T.ZeM Ze9 rfl rfl rfl fun cdv A outer s H E hr=>?_
 have hu:=hr.units
 exact(Č (Ĥ (ų ["yard","ray","thing"] [0,1] 1 (ĉ Gi) rfl rfl (dR (bA ["Yard"] ⟨⟨T.aH,T.dw⟩,trivial⟩ (Ă 0))) (fun _ _ _ _ _=>(Ĩ (i:=2) (show(["yard","ray","thing"]:List Str).Nodup by decide +kernel) rfl (Or.inl rfl) (hf:=Or.inr rfl))) (fun _ _ _ _ _=>Ŝ) (fun _ _ _ _ _=>(Ě (Đ (ZbL T) ċ (hr.mono (by decide)) rfl T.lX T.Wq.kp T.ZeL aP (Ć 0 (hr:=(Ć 2 (hr:=(Ć 1 (hr:=Ď))))))))) ⟨rfl,⟨rfl,Or.inl rfl⟩,⟨rfl,⟨rfl,Or.inl rfl⟩,trivial⟩⟩)))
theorem ZbM(T:Tx K mg a):İ P w K mg base (ū P w) 7 a.Mv a.Mw ["yard","turn"] (ŷ ⟨K,ĩ a⟩ 2 fM):=by
 refine aN (cm:=ĩ a) (mb:=vH) T.Wr wj rfl rfl rfl fun cdv A outer s H E hr=>?_
 have hu:=hr.units
 exact(Ċ (Ũ (ŕ q_ jY (Ă 1) (ā gw) (Ĳ _))
  (Č (Ĥ (Đ (QG T) ċ (hr.mono (by decide)) rfl T.jP T.Pu.kp T.Wn ğ (Ę ă (Ę (đ ŗ Ŕ (ā (đ ľ ī (ā (bA ["Yard"] ⟨⟨T.aH,T.bC⟩,trivial⟩ (Ă 0))) (ā (bA ["Yard"] ⟨⟨T.aH,T.bU⟩,trivial⟩ (Ă 0))))) (ā ă)) Ď)))))
  Ŀ)
  (Ċ (Ī (i:=2) wj.nd rfl (Or.inl rfl) (Į ă))
  (Ċ (bf PassesOwn.leaving rfl (dR (Ě (Đ (Zff T) ċ (hr.mono (by decide)) rfl T.Gk T.ZeM.kp T.Zmm ğ (Ć 0 (hr:=(Ć 1 (hr:=Ď))))))) (Ĩ (i:=3) wj.nd rfl (Or.inl rfl))
  (Č (Jx (i:=2) wj.nd rfl (Or.inl rfl) (v_var 3))))
  (Č (Ĥ (iK 2))))))
theorem ZbN(T:Tx K mg a):İ P w K mg base (ū P w) 1 a.Mx a.Mz ["yard","stone"] (ŷ ⟨K,ĩ a⟩ 2 sX):=by
 refine aN (cm:=ĩ a) (mb:=Cg) T.Ws Zbk rfl rfl rfl fun cdv A outer s H E hr=>?_
 have hu:=hr.units
 exact(Č (Ĥ (Į (v_and (qY iV iU iI iH (ā ă) (ā (ħ Ĕ ē (Ă 1) (ā ă) (fun _ _=>rfl))) (ā (bA ["Yard"] ⟨⟨T.aH,T.bC⟩,trivial⟩ (Ă 0)))) (iR (qY iV iU iI iH (ā ă) (ā (ħ Ĕ ē (Ă 1) (ā ă) (fun _ _=>rfl))) (ā (bA ["Yard"] ⟨⟨T.aH,T.bU⟩,trivial⟩ (Ă 0)))))))))
theorem QJ(T:Tx K mg a):İ P w K mg base (ū P w) 3 a.MJ a.MK ["yard","stone"] (ŷ ⟨K,ĩ a⟩ 2 lY):=by
 refine aN (cm:=ĩ a) (mb:=Ci) T.Px Zbl rfl rfl rfl fun cdv A outer s H E hr=>?_
 have hu:=hr.units
 exact(Č (Ũ (iM (aZ (ā (Ě (Đ (ZbN T) ċ (hr.mono (by decide)) rfl T.sX T.Ws.kp T.ZeO ğ (Ć 0 (hr:=(Ć 1 (hr:=Ď)))))))))
  (Č (xR (C:= "NoStone") rfl rfl nG T.Gs (Zfb T) (hr.mono (by decide)) rfl T.Gq T.Zmq ğ (ć (v_var 1) ĥ)))
  Ŀ))
theorem ZbO(T:Tx K mg a):İ P w K mg base (ū P w) 1 a.MN a.MP ["yard","day"] (ŷ ⟨K,ĩ a⟩ 2 sY):=by
 refine aN (cm:=ĩ a) (mb:=Cj) T.Wu Zbm rfl rfl rfl fun cdv A outer s H E hr=>?_
 have hu:=hr.units
 exact(Č (Ĥ (Į (qY iV iU iI iH (ā ă) (Ă 1) (ā (PE.wk (ĭ eN (by rfl) T.jT PySem.boot_len (ģ (ā (bA ["Yard"] ⟨⟨T.aH,T.dh⟩,trivial⟩ (Ă 0))) ķ)) fun _ _ _ h=>ź fj h))))))
theorem ZbP(T:Tx K mg a):İ P w K mg base (ū P w) 3 a.M_ a.Nb ["yard","day"] (ŷ ⟨K,ĩ a⟩ 2 sZ):=by
 refine aN (cm:=ĩ a) (mb:=Ck) T.Wv Zbn rfl rfl rfl fun cdv A outer s H E hr=>?_
 have hu:=hr.units
 exact(Č (Ũ (iM (aZ (ā (Ě (Đ (ZbO T) ċ (hr.mono (by decide)) rfl T.sY T.Wu.kp T.ZeP ğ (Ć 0 (hr:=(Ć 1 (hr:=Ď)))))))))
  (Č (xR (C:= "NoTurn") rfl rfl nG T.Qe (Zfc T) (hr.mono (by decide)) rfl T.Qd T.Zms ğ (ć (v_var 1) (ć gw ĥ))))
  Ŀ))
theorem QK(T:Tx K mg a):İ P w K mg base (ū P w) 1 a.Nf a.Ng ["yard","day"] (ŷ ⟨K,ĩ a⟩ 2 lZ):=by
 refine aN (cm:=ĩ a) (mb:=Cm) T.Py Zbo rfl rfl rfl fun cdv A outer s H E hr=>?_
 have hu:=hr.units
 exact(Č (Ĥ (Į (ħ Ĕ ē (ā (ħ Ĕ ē (ā (bA ["Yard"] ⟨⟨T.aH,T.dh⟩,trivial⟩ (Ă 0))) (Ă 1) (fun _ _=>rfl))) (ā ă) (fun _ _=>rfl)))))
theorem ZbQ(T:Tx K mg a):İ P w K mg base (ū P w) 4 a.Nh a.Ni ["points","point"] (ŷ ⟨K,ĩ a⟩ 2 pJ):=by
 refine aN (cm:=ĩ a) (mb:=vJ) T.Wx Qk rfl rfl rfl fun cdv A outer s H E hr=>?_
 have hu:=hr.units
 exact(Ċ (bf PassesOwn.leaving rfl (dR (Ě (Đ (Qz T) ċ (hr.mono (by decide)) rfl T.lO T.Pk.kp T.Wi ğ (Ć 0 (hr:=Ď))))) (Ĩ (i:=2) Qk.nd rfl (Or.inl rfl))
  (Č (Ũ (iM (aZ (ā (Ě (Đ (Qy T) ċ (hr.mono (by decide)) rfl T.i_ T.Pj.kp T.Wg ğ (Ć 2 (hr:=(Ć 1 (hr:=Ď)))))))))
  (Č (Ĥ (iK 2)))
  Ŀ)))
  (Č (Ĥ (Į gw))))
theorem QL(T:Tx K mg a):İ P w K mg base (ū P w) 1 a.Nj a.Nk ["many"] (ŷ ⟨K,ĩ a⟩ 1 mj):=by
 refine aN (cm:=ĩ a) (mb:=Cp) T.Pz Dd rfl rfl rfl fun cdv A outer s H E hr=>?_
 have hu:=hr.units
 exact(Ċ (Ī (i:=1) Dd.nd rfl (Or.inl rfl) (ů ĥ))
  (Ċ (bf PassesOwn.leaving rfl (Ū rfl T.aq (ć (v_var 0) ĥ)) (Ĩ (i:=2) Dd.nd rfl (by first|exact Or.inl rfl|exact Or.inr rfl))
  (Č (PS.wk (cA (lJ PySem.F.plainAttrs_list PySem.F.slot_list_extend PySem.F.type_list_extend qR (pv 1) (cB (ų ["second","first"] [2] 1 (ĉ su) rfl rfl (Ū rfl T.aq (ć (v_var 2) ĥ)) (fun _ _ _ _ _=>(Ĩ (i:=1) (show(["second","first"]:List Str).Nodup by decide +kernel) rfl (Or.inl rfl) (hf:=Or.inr rfl))) (fun _ _ _ _ _=>Ŝ) (fun _ _ _ _ _=>(Ō (ć (v_var 1) (ć (v_var 0) ĥ)))) ⟨rfl,⟨rfl,Or.inl rfl⟩,trivial⟩) jg))) fun _ _ _ h=>Eo h)))
  (Č (Ĥ (iK 1)))))
theorem ZbR(T:Tx K mg a):İ P w K mg base (ū P w) 2 a.Nm a.Np ["many"] (ŷ ⟨K,ĩ a⟩ 1 tu):=by
 refine aN (cm:=ĩ a) (mb:=Cq) T.Wz Df rfl rfl rfl fun cdv A outer s H E hr=>?_
 have hu:=hr.units
 exact(Ċ (Ī (i:=1) Df.nd rfl (Or.inl rfl) (ů ĥ))
  (Ċ (bf PassesOwn.leaving rfl (Ū rfl T.aq (ć (v_var 0) ĥ)) (Ĩ (i:=2) Df.nd rfl (by first|exact Or.inl rfl|exact Or.inr rfl))
  (Č (PS.wk (cA (lJ PySem.F.plainAttrs_list PySem.F.slot_list_extend PySem.F.type_list_extend qR (pv 1) (cB (ų ["third","pair"] [2] 1 (ĉ sy) rfl rfl (JC (dR (Ě (Đ (QL T) ċ (hr.mono (by decide)) rfl T.mj T.Pz.kp T.Wy aP (Ć 2 (hr:=Ď)))))) (fun _ _ _ _ _=>(Ĩ (i:=1) (show(["third","pair"]:List Str).Nodup by decide +kernel) rfl (Or.inl rfl) (hf:=Or.inr rfl))) (fun _ _ _ _ _=>Ŝ) (fun _ _ _ _ _=>(Ō (ć (ħ Ĕ ē (Ă 1) (ā ă) (fun _ _=>rfl)) (ć (ħ Ĕ ē (Ă 1) (ā ă) (fun _ _=>rfl)) (ć (v_var 0) ĥ))))) ⟨rfl,⟨rfl,Or.inl rfl⟩,trivial⟩) jg))) fun _ _ _ h=>Eo h)))
  (Č (Ĥ (iK 1)))))
theorem Zfg(T:Tx K mg a):İ P w K mg base (ū P w) 1 a.ZaG a.ZaH ["one","other"] (ŷ ⟨K,ĩ a⟩ 2 Gm):=by
 refine aN (cm:=ĩ a) (mb:=JX) T.ZeT Ey rfl rfl rfl fun cdv A outer s H E hr=>?_
 have hu:=hr.units
 exact(Ċ (SM PassesOwn.leaving (ŕ oH (jh hu) (Ă 1) (ā ă) (Ĳ _))
  (Ċ (Ī (i:=2) Ey.nd rfl (Or.inl rfl) (Į (đ ņ ń (Ă 0) (Ă 1))))
  (Ċ (Ī (i:=0) Ey.nd rfl (Or.inl rfl) (Į (v_var 1)))
  (Č (Ī (i:=1) Ey.nd rfl (Or.inl rfl) (Į (v_var 2)))))))
  (Č (Ĥ (Į (PE.wk (ĭ YM (by rfl) T.Ze4 PyProof.Rows.boot_abs (ģ (Ă 0) ķ)) fun _ _ _ h=>ź Zaf h)))))
theorem QM(T:Tx K mg a):İ P w K mg base (ū P w) 2 a.Nq a.Nr ["top","bottom"] (ŷ ⟨K,ĩ a⟩ 2 gP):=by
 refine aN (cm:=ĩ a) (mb:=vK) T.PJ Dg rfl rfl rfl fun cdv A outer s H E hr=>?_
 have hu:=hr.units
 exact(Ċ (Ũ (ŕ aB (Š hu) (Ă 1) (ā ă) (Ĳ _))
  (Č (xH (C:= "NoNumber") rfl rfl nG rfl T.CP T.CT))
  Ŀ)
  (Ċ (Ī (i:=2) Dg.nd rfl (Or.inl rfl) (Đ (Zfg T) ċ (hr.mono (by decide)) rfl T.Gm T.ZeT.kp T.Zmn ğ (Ć 0 (hr:=(Ć 1 (hr:=Ď))))))
  (Ċ (Ũ (ŕ iU iH (Ă 1) (ā ă) (Ĳ _))
  (Č (Ī (i:=2) Dg.nd rfl (Or.inl rfl) (Į (wK gH gj (Ă 2)))))
  Ŀ)
  (Č (Ĥ (Į (Ō (ć (đ Ž ţ (Ă 0) (Ă 2)) (ć (đ Ž ţ (Ă 1) (Ă 2)) ĥ)))))))))
theorem Dh(T:Tx K mg a):İ P w K mg base (ū P w) 3 a.Nt a.Nu ["shares","places","many"] (ŷ ⟨K,ĩ a⟩ 3 d_):=by
 refine aN (cm:=ĩ a) (mb:=lB) T.Es qb rfl rfl rfl fun cdv A outer s H E hr=>?_
 have hu:=hr.units
 exact(Ċ (Ī (i:=3) qb.nd rfl (by first|exact Or.inl rfl|exact Or.inr rfl) (Į (PE.wk (ĭ (Jq rfl) (by rfl) T.Xg PyProof.Rows.boot_sum (ģ (Ă 0) ķ)) fun _ _ _ h=>ź Js h)))
  (Ċ (jm (i:=4) qb.nd rfl rfl ["whole","place"] [3] 1 (ĉ sE) rfl rfl (Ū rfl T.aq (ć (v_var 2) ĥ)) (fun _ _ _ _ _=>(Ĩ (i:=1) (show(["whole","place"]:List Str).Nodup by decide +kernel) rfl (Or.inl rfl) (hf:=Or.inr rfl))) (fun _ _ _ _ _=>Ŝ) (fun _ _ _ _ _=>(Ě (Đ (QM T) ċ (hr.mono (by decide)) rfl T.gP T.PJ.kp T.WD aP (Ę ă (Ć 0 (hr:=Ď)))))) ⟨rfl,⟨rfl,Or.inl rfl⟩,trivial⟩)
  (Ċ (bf PassesOwn.leaving rfl (Zeb rfl T.Ze5 (Vv 0) (Vv 1)) (n_ rfl (Œ (Ĩ (i:=5) qb.nd rfl (Or.inl rfl)) (Œ (Ĩ (i:=6) qb.nd rfl (Or.inl rfl)) eX)))
  (Č (SJ (i:=4) (Ě (Đ (QM T) ċ (hr.mono (by decide)) rfl T.gP T.PJ.kp T.WD ğ (Ć 5 (hr:=(Ć 3 (hr:=Ď)))))) (v_var 6) (pv 4))))
  (Č (Ĥ (iK 4))))))
theorem Di(T:Tx K mg a):İ P w K mg base (ū P w) 1 a.Nv a.Nx ["one","other","third"] (ŷ ⟨K,ĩ a⟩ 3 jd):=by
 refine aN (cm:=ĩ a) (mb:=Cr) T.Et Ql rfl rfl rfl fun cdv A outer s H E hr=>?_
 have hu:=hr.units
 exact(Ċ (Ī (i:=3) Ql.nd rfl (Or.inl rfl) (Į (đ ľ ī (ā (đ ŗ Ŕ (ā (ħ Ĕ ē (Ă 1) (ā ă) (fun _ _=>rfl))) (ā (ħ Ĕ ē (Ă 0) (ā ă) (fun _ _=>rfl))))) (ā (đ ŗ Ŕ (ā (ħ Ĕ ē (Ă 2) (ā ă) (fun _ _=>rfl))) (ā (ħ Ĕ ē (Ă 0) (ā ă) (fun _ _=>rfl))))))))
  (Č (Ĥ (Į (đ ŗ Ŕ (Ă 3) (ā (đ ľ ī (ā (đ ŗ Ŕ (ā (ħ Ĕ ē (Ă 1) (ā ă) (fun _ _=>rfl))) (ā (ħ Ĕ ē (Ă 0) (ā ă) (fun _ _=>rfl))))) (ā (đ ŗ Ŕ (ā (ħ Ĕ ē (Ă 2) (ā ă) (fun _ _=>rfl))) (ā (ħ Ĕ ē (Ă 0) (ā ă) (fun _ _=>rfl))))))))))))
theorem Zfh(T:Tx K mg a):İ P w K mg base (ū P w) 2 a.ZaI a.ZaJ ["corners","point"] (ŷ ⟨K,ĩ a⟩ 2 Gn):=by
 refine aN (cm:=ĩ a) (mb:=JZ) T.ZeU Ez rfl rfl rfl fun cdv A outer s H E hr=>?_
 have hu:=hr.units
 exact(Ċ (Ī (i:=2) Ez.nd rfl (Or.inl rfl) (Į (ħ Ĕ ē (Ă 0) (ā ă) (fun _ _=>rfl))))
  (Ċ (Ī (i:=3) Ez.nd rfl (Or.inl rfl) (Į (ħ Ĕ ē (Ă 0) (ā ă) (fun _ _=>rfl))))
  (Ċ (Ī (i:=4) Ez.nd rfl (Or.inl rfl) (Į (ħ Ĕ ē (Ă 0) (ā ă) (fun _ _=>rfl))))
  (Č (Ĥ (ů (ć (Ě (Đ (Di T) ċ (hr.mono (by decide)) rfl T.jd T.Et.kp T.PL ğ (Ć 1 (hr:=(Ć 3 (hr:=(Ć 4 (hr:=Ď)))))))) (ć (Ě (Đ (Di T) ċ (hr.mono (by decide)) rfl T.jd T.Et.kp T.PL ğ (Ć 2 (hr:=(Ć 1 (hr:=(Ć 4 (hr:=Ď)))))))) (ć (Ě (Đ (Di T) ċ (hr.mono (by decide)) rfl T.jd T.Et.kp T.PL ğ (Ć 2 (hr:=(Ć 3 (hr:=(Ć 1 (hr:=Ď)))))))) ĥ)))))))))
theorem QS(T:Tx K mg a):İ P w K mg base (ū P w) 1 a.Ny a.Nz ["shares"] (ŷ ⟨K,ĩ a⟩ 1 jQ):=by
 refine aN (cm:=ĩ a) (mb:=vM) T.PN Qm rfl rfl rfl fun cdv A outer s H E hr=>?_
 have hu:=hr.units
 exact(Ċ (Ī (i:=1) Qm.nd rfl (by first|exact Or.inl rfl|exact Or.inr rfl) (Į (PE.wk (ĭ (Jq rfl) (by rfl) T.Xg PyProof.Rows.boot_sum (ģ (Ă 0) ķ)) fun _ _ _ h=>ź Js h)))
  (Č (Ĥ (Į (v_and (fC oH (jh hu) (Ă 1) (ā ă) (Ĳ _)) (iR (PE.wk (ĭ (kI rfl) (by rfl) T.tU PyProof.Rows.boot_all (ģ (ā (Ě (ų ["whole","share"] [1] 1 (ĉ sG) rfl rfl (aD 0) (fun _ _ _ _ _=>(Ĩ (i:=1) (show(["whole","share"]:List Str).Nodup by decide +kernel) rfl (Or.inl rfl) (hf:=Or.inr rfl))) (fun _ _ _ _ _=>Ŝ) (fun _ _ _ _ _=>(fC ZdJ Zdt (ā (đ ľ ī (Ă 1) (Ă 0))) (ā ă) (Ĳ _))) ⟨rfl,⟨rfl,Or.inl rfl⟩,trivial⟩))) ķ)) fun _ _ _ h=>ź kJ h)))))))
theorem ZbS(T:Tx K mg a):İ P w K mg base (ū P w) 1 a.NK a.NP ["ends","point"] (ŷ ⟨K,ĩ a⟩ 2 tD):=by
 refine aN (cm:=ĩ a) (mb:=Cu) T.WL wu rfl rfl rfl fun cdv A outer s H E hr=>?_
 have hu:=hr.units
 exact(Ċ (Ī (i:=2) wu.nd rfl (Or.inl rfl) (Į (đ ŗ Ŕ (ā (ħ Ĕ ē (ā (ħ Ĕ ē (Ă 0) (ā ă) (fun _ _=>rfl))) (ā ă) (fun _ _=>rfl))) (ā (ħ Ĕ ē (ā (ħ Ĕ ē (Ă 0) (ā ă) (fun _ _=>rfl))) (ā ă) (fun _ _=>rfl))))))
  (Ċ (Ī (i:=3) wu.nd rfl (Or.inl rfl) (Į (đ ŗ Ŕ (ā (ħ Ĕ ē (ā (ħ Ĕ ē (Ă 0) (ā ă) (fun _ _=>rfl))) (ā ă) (fun _ _=>rfl))) (ā (ħ Ĕ ē (ā (ħ Ĕ ē (Ă 0) (ā ă) (fun _ _=>rfl))) (ā ă) (fun _ _=>rfl))))))
  (Ċ (Ī (i:=4) wu.nd rfl (Or.inl rfl) (Ň Ķ ĵ (ā (đ ľ ī (Ă 2) (ā (đ ŗ Ŕ (ā (ħ Ĕ ē (Ă 1) (ā ă) (fun _ _=>rfl))) (ā (ħ Ĕ ē (ā (ħ Ĕ ē (Ă 0) (ā ă) (fun _ _=>rfl))) (ā ă) (fun _ _=>rfl))))))) (ā (đ ľ ī (Ă 3) (ā (đ ŗ Ŕ (ā (ħ Ĕ ē (Ă 1) (ā ă) (fun _ _=>rfl))) (ā (ħ Ĕ ē (ā (ħ Ĕ ē (Ă 0) (ā ă) (fun _ _=>rfl))) (ā ă) (fun _ _=>rfl)))))))))
  (Č (Ĥ (ů (ć (đ ŗ Ŕ (ā (Ě (Ň Ķ ĵ (ā (đ ľ ī (Ă 2) (Ă 2))) (ā (đ ľ ī (Ă 3) (Ă 3)))))) (Ă 4)) (ć (v_var 4) ĥ))))))))
theorem ZbT(T:Tx K mg a):İ P w K mg base (ū P w) 4 a.NQ a.NT ["points","point"] (ŷ ⟨K,ĩ a⟩ 2 mq):=by
 refine aN (cm:=ĩ a) (mb:=pN) T.WM lG rfl rfl rfl fun cdv A outer s H E hr=>?_
 have hu:=hr.units
 exact(Ċ (Ī (i:=2) lG.nd rfl (Or.inl rfl) (Į (PE.wk (ĭ eN (by rfl) T.jT PySem.boot_len (ģ (Ă 0) ķ)) fun _ _ _ h=>ź fj h)))
  (Ċ (bf PassesOwn.leaving rfl (dR (Ě (Đ (ZbR T) ċ (hr.mono (by decide)) rfl T.tu T.Wz.kp T.ZeS ğ (Ć 2 (hr:=Ď))))) (Ĩ (i:=3) lG.nd rfl (Or.inl rfl))
  (Ċ (Ī (i:=4) lG.nd rfl (Or.inl rfl) (Đ (Zfh T) ċ (hr.mono (by decide)) rfl T.Gn T.ZeU.kp T.Zmo ğ (Ę (Ě (ų ["points","place"] [0] 1 (ĉ pA) rfl rfl (aD 3) (fun _ _ _ _ _=>(Ĩ (i:=1) (show(["points","place"]:List Str).Nodup by decide +kernel) rfl (Or.inl rfl) (hf:=Or.inr rfl))) (fun _ _ _ _ _=>Ŝ) (fun _ _ _ _ _=>(ħ Ĕ ē (Ă 0) (Ă 1) (fun _ _=>rfl))) ⟨rfl,⟨rfl,Or.inl rfl⟩,trivial⟩)) (Ć 1 (hr:=Ď)))))
  (Č (Ũ (aZ (ā (Ě (Đ (QS T) ċ (hr.mono (by decide)) rfl T.jQ T.PN.kp T.WK ğ (Ć 4 (hr:=Ď))))))
  (Č (Ĥ (Đ (Dh T) ċ (hr.mono (by decide)) rfl T.d_ T.Es.kp T.PK ğ (Ć 4 (hr:=(Ć 3 (hr:=(Ć 2 (hr:=Ď)))))))))
  Ŀ))))
  (Ċ (bf PassesOwn.leaving rfl (dR (Ě (Đ (QL T) ċ (hr.mono (by decide)) rfl T.mj T.Pz.kp T.Wy ğ (Ć 2 (hr:=Ď))))) (Ĩ (i:=3) lG.nd rfl (Or.inl rfl))
  (Ċ (Ī (i:=4) lG.nd rfl (Or.inl rfl) (Đ (ZbS T) ċ (hr.mono (by decide)) rfl T.tD T.WL.kp T.ZeV ğ (Ę (Ě (ų ["points","place"] [0] 1 (ĉ pA) rfl rfl (aD 3) (fun _ _ _ _ _=>(Ĩ (i:=1) (show(["points","place"]:List Str).Nodup by decide +kernel) rfl (Or.inl rfl) (hf:=Or.inr rfl))) (fun _ _ _ _ _=>Ŝ) (fun _ _ _ _ _=>(ħ Ĕ ē (Ă 0) (Ă 1) (fun _ _=>rfl))) ⟨rfl,⟨rfl,Or.inl rfl⟩,trivial⟩)) (Ć 1 (hr:=Ď)))))
  (Č (Ũ (aZ (ā (Ě (Đ (QS T) ċ (hr.mono (by decide)) rfl T.jQ T.PN.kp T.WK ğ (Ć 4 (hr:=Ď))))))
  (Č (Ĥ (Đ (Dh T) ċ (hr.mono (by decide)) rfl T.d_ T.Es.kp T.PK ğ (Ć 4 (hr:=(Ć 3 (hr:=(Ć 2 (hr:=Ď)))))))))
  Ŀ))))
  (Č (Ĥ (Đ (Dh T) ċ (hr.mono (by decide)) rfl T.d_ T.Es.kp T.PK ğ (Ę (Ě (ů (ć ă ĥ))) (Ę (Ě (ů (ć ă ĥ))) (Ć 2 (hr:=Ď))))))))))
theorem ZbU(T:Tx K mg a):İ P w K mg base (ū P w) 5 a.NZ a.N_ ["points","point"] (ŷ ⟨K,ĩ a⟩ 2 pO):=by
 refine aN (cm:=ĩ a) (mb:=vP) T.WQ Qn rfl rfl rfl fun cdv A outer s H E hr=>?_
 have hu:=hr.units
 exact(Ċ (Ī (i:=2) Qn.nd rfl (Or.inl rfl) (Đ (ZbQ T) ċ (hr.mono (by decide)) rfl T.pJ T.Wx.kp T.ZeR ğ (Ć 0 (hr:=(Ć 1 (hr:=Ď))))))
  (Ċ (Ũ (ŕ q_ jY (Ă 2) (ā gw) (Ĳ _))
  (Č (Ĥ (Į (Ō (ć Ů (ć (Ě (Đ (ZbT T) ċ (hr.mono (by decide)) rfl T.mq T.WM.kp T.ZeW ğ (Ć 0 (hr:=(Ć 1 (hr:=Ď)))))) ĥ))))))
  Ŀ)
  (Č (Ĥ (Į (Ō (ć Ů (ć (v_var 2) ĥ))))))))
theorem ZbV(T:Tx K mg a):İ P w K mg base (ū P w) 2 a.Oa a.Ob ["stone","ray"] (ŷ ⟨K,ĩ a⟩ 2 tE):=by
 refine aN (cm:=ĩ a) (mb:=Cv) T.WR Zbp rfl rfl rfl fun cdv A outer s H E hr=>?_
 have hu:=hr.units
 exact(Č (Ĥ (Đ (QB T) ċ (hr.mono (by decide)) rfl T.jc T.Pn.kp T.Wj ğ (Ę (Ō (ć (đ ľ ī (ā ă) (ā (ħ Ĕ ē (Ă 0) (ā ă) (fun _ _=>rfl)))) (ć (đ ľ ī (ā ă) (ā (ħ Ĕ ē (Ă 0) (ā ă) (fun _ _=>rfl)))) (ć ă ĥ)))) (Ć 1 (hr:=Ď))))))
theorem ZbW(T:Tx K mg a):İ P w K mg base (ū P w) 6 a.Oc a.Od ["thing","stone","ray"] (ŷ ⟨K,ĩ a⟩ 3 tH):=by
 refine aN (cm:=ĩ a) (mb:=Cw) T.WT Zbq rfl rfl rfl fun cdv A outer s H E hr=>?_
 have hu:=hr.units
 exact(Č (Ĥ (Đ (ZbU T) ċ (hr.mono (by decide)) rfl T.pO T.WQ.kp T.ZeX ğ (Ę (Ě (Đ (QF T) ċ (hr.mono (by decide)) rfl T.jO T.Pr.kp T.Wm ğ (Ć 0 (hr:=(Ć 2 (hr:=Ď)))))) (Ę (Ě (Đ (ZbV T) ċ (hr.mono (by decide)) rfl T.tE T.WR.kp T.ZeY ğ (Ć 1 (hr:=(Ć 2 (hr:=Ď)))))) Ď)))))
theorem ZbX(T:Tx K mg a):İ P w K mg base (ū P w) 7 a.Oe a.Og ["thing","stone","ray"] (ŷ ⟨K,ĩ a⟩ 3 mz):=by
 refine aN (cm:=ĩ a) (mb:=vQ) T.WW Zbr rfl rfl rfl fun cdv A outer s H E hr=>?_
 have hu:=hr.units
 exact(Č (Ĥ (Į (fC aB (Š hu) (ā (ħ Ĕ ē (ā (Ě (Đ (ZbW T) ċ (hr.mono (by decide)) rfl T.tH T.WT.kp T.ZeZ ğ (Ć 0 (hr:=(Ć 1 (hr:=(Ć 2 (hr:=Ď))))))))) (ā ă) (fun _ _=>rfl))) (ā Ů) (Ĳ _)))))
theorem QT(T:Tx K mg a):İ P w K mg base (ū P w) 8 a.Oh a.Oi ["yard","turn","stone"] (ŷ ⟨K,ĩ a⟩ 3 eE):=by
 refine aN (cm:=ĩ a) (mb:=pP) T.P_ Qo rfl rfl rfl fun cdv A outer s H E hr=>?_
 have hu:=hr.units
 exact(Ċ (Ũ (ŕ q_ jY (Ă 1) (ā gw) (Ĳ _))
  (Č (Ĥ (Į ux)))
  Ŀ)
  (Ċ (bf PassesOwn.leaving rfl (dR (bA ["Yard"] ⟨⟨T.aH,T.dw⟩,trivial⟩ (Ă 0))) (Ĩ (i:=3) Qo.nd rfl (Or.inl rfl))
  (Č (Ũ (aZ (ā (Ě (Đ (ZbX T) ċ (hr.mono (by decide)) rfl T.mz T.WW.kp T.Ze0 ğ (Ć 3 (hr:=(Ć 2 (hr:=(Ć 1 (hr:=Ď))))))))))
  (Č (Ĥ (Į ux)))
  Ŀ)))
  (Č (Ĥ (Į ux)))))
theorem QV(T:Tx K mg a):İ P w K mg base (ū P w) 9 a.Oj a.Ol ["yard","day","stone"] (ŷ ⟨K,ĩ a⟩ 3 mD):=by
 refine aN (cm:=ĩ a) (mb:=Cy) T.Qa Zbs rfl rfl rfl fun cdv A outer s H E hr=>?_
 have hu:=hr.units
 exact(Ċ (Ar (Ě (Đ (QJ T) ċ (hr.mono (by decide)) rfl T.lY T.Px.kp T.Wt ğ (Ć 0 (hr:=(Ć 2 (hr:=Ď)))))))
  (Ċ (Ar (Ě (Đ (ZbP T) ċ (hr.mono (by decide)) rfl T.sZ T.Wv.kp T.ZeQ ğ (Ć 0 (hr:=(Ć 1 (hr:=Ď)))))))
  (Č (Ĥ (ų ["yard","stone","number","turn"] [0,2] 2 (ĉ sI) rfl rfl (JC (Jw rfl T.mH (Zd7 (Ě (Đ (QK T) ċ (hr.mono (by decide)) rfl T.lZ T.Py.kp T.Ww aP (Ć 0 (hr:=(Ć 1 (hr:=Ď))))))))) (fun _ _ _ _ _=>(n_ rfl (Œ (Ĩ (i:=2) (show(["yard","stone","number","turn"]:List Str).Nodup by decide +kernel) rfl (Or.inl rfl) (hf:=Or.inr rfl)) (Œ (Ĩ (i:=3) (show(["yard","stone","number","turn"]:List Str).Nodup by decide +kernel) rfl (Or.inl rfl) (hf:=Or.inr rfl)) eX)))) (fun _ _ _ _ _=>(Ij (iM (aZ (ā (Ě (Đ (QT T) ċ (hr.mono (by decide)) rfl T.eE T.P_.kp T.WX aP (Ć 0 (hr:=(Ć 3 (hr:=(Ć 1 (hr:=Ď))))))))))))) (fun _ _ _ _ _=>(v_var 2)) ⟨rfl,⟨rfl,Or.inl rfl⟩,⟨rfl,⟨rfl,Or.inl rfl⟩,trivial⟩⟩)))))
theorem ZbY(T:Tx K mg a):İ P w K mg base (ū P w) 1 a.Om a.Oo ["_law_found","_law_due"] (ŷ ⟨K,ĩ a⟩ 2 pQ):=by
 refine aN (cm:=ĩ a) (mb:=vU) T.W_ Zbt rfl rfl rfl fun cdv A outer s H E hr=>?_
 have hu:=hr.units
 exact(Ċ (Ũ (ŕ q_ jY (Ă 1) (ā gw) (Ĳ _))
  (Č (Ĥ (Į (fC q_ jY (Ă 0) (ā gw) (Ĳ _)))))
  Ŀ)
  (Ċ (Ũ (PW.pt (w_or (iM (aZ (ā (PE.wk (ĭ iz (by rfl) T.ao PyProof.Rows.boot_isinstance (ģ (Ă 0) (ģ (ā (DW (.ty "tuple") (gU (v:=.ty "tuple") rfl T.Ew PyProof.Rows.boot_tuple rfl))) ķ))) fun _ _ _ h=>ź (iB T.iC T.iT T.iD T.iN) h)))) (Vk (ŕ oH (jh hu) (Ă 0) (Ă 1) (Ĳ _)))))
  (Č (Ĥ (Į ux)))
  Ŀ)
  (Č (Ĥ (Į (PE.wk (ĭ (kI rfl) (by rfl) T.tU PyProof.Rows.boot_all (ģ (ā (Ě (ų ["_law_one"] [] 1 (ĉ sJ) rfl rfl (aD 0) (fun _ _ _ _ _=>(Ĩ (i:=0) (show(["_law_one"]:List Str).Nodup by decide +kernel) rfl (Or.inl rfl) (hf:=Or.inr rfl))) (fun _ _ _ _ _=>Ŝ) (fun _ _ _ _ _=>(v_and (PE.wk (ĭ iz (by rfl) T.ao PyProof.Rows.boot_isinstance (ģ (Ă 0) (ģ (ā (DW (.ty "int") (gU (v:=.ty "int") rfl T.Qg PyProof.Rows.boot_int rfl))) ķ))) fun _ _ _ h=>ź (iB T.iC T.iT T.iD T.iN) h) (iR (v_not (PE.wk (ĭ iz (by rfl) T.ao PyProof.Rows.boot_isinstance (ģ (Ă 0) (ģ (ā (DW (.ty "bool") (gU (v:=.ty "bool") rfl T.Qf PyProof.Rows.boot_bool rfl))) ķ))) fun _ _ _ h=>ź (iB T.iC T.iT T.iD T.iN) h))))) trivial))) ķ)) fun _ _ _ h=>ź kJ h))))))
theorem QW(T:Tx K mg a):İ P w K mg base (ū P w) 1 a.Oq a.Ot ["_law_found","_law_due"] (ŷ ⟨K,ĩ a⟩ 2 mF):=by
 refine aN (cm:=ĩ a) (mb:=Cz) T.Qc Zbu rfl rfl rfl fun cdv A outer s H E hr=>?_
 have hu:=hr.units
 exact(Ċ (Ũ (PW.pt (w_or (iM (aZ (ā (PE.wk (ĭ iz (by rfl) T.ao PyProof.Rows.boot_isinstance (ģ (Ă 0) (ģ (ā (DW (.ty "list") (gU (v:=.ty "list") rfl T.fB PyProof.Rows.boot_list rfl))) ķ))) fun _ _ _ h=>ź (iB T.iC T.iT T.iD T.iN) h)))) (Vk (ŕ oH (jh hu) (Ă 0) (Ă 1) (Ĳ _)))))
  (Č (Ĥ (Į ux)))
  Ŀ)
  (Č (Ĥ (Į (PE.wk (ĭ (kI rfl) (by rfl) T.tU PyProof.Rows.boot_all (ģ (ā (Ě (ų ["_law_one"] [] 1 (ĉ sO) rfl rfl (aD 0) (fun _ _ _ _ _=>(Ĩ (i:=0) (show(["_law_one"]:List Str).Nodup by decide +kernel) rfl (Or.inl rfl) (hf:=Or.inr rfl))) (fun _ _ _ _ _=>Ŝ) (fun _ _ _ _ _=>(v_and (PE.wk (ĭ iz (by rfl) T.ao PyProof.Rows.boot_isinstance (ģ (Ă 0) (ģ (ā (DW (.ty "int") (gU (v:=.ty "int") rfl T.Qg PyProof.Rows.boot_int rfl))) ķ))) fun _ _ _ h=>ź (iB T.iC T.iT T.iD T.iN) h) (iR (v_not (PE.wk (ĭ iz (by rfl) T.ao PyProof.Rows.boot_isinstance (ģ (Ă 0) (ģ (ā (DW (.ty "bool") (gU (v:=.ty "bool") rfl T.Qf PyProof.Rows.boot_bool rfl))) ķ))) fun _ _ _ h=>ź (iB T.iC T.iT T.iD T.iN) h))))) trivial))) ķ)) fun _ _ _ h=>ź kJ h)))))
theorem ZbZ(T:Tx K mg a):İ P w K mg base (ū P w) 9 a.Ou a.Ov ["yard","stone"] (ŷ ⟨K,ĩ a⟩ 2 pR):=by
 refine aN (cm:=ĩ a) (mb:=vX) T.Xb wz rfl rfl rfl fun cdv A outer s H E hr=>?_
 have hu:=hr.units
 exact(Ċ (Ar (Ě (Đ (QJ T) ċ (hr.mono (by decide)) rfl T.lY T.Px.kp T.Wt ğ (Ć 0 (hr:=(Ć 1 (hr:=Ď)))))))
  (Ċ (bf PassesOwn.leaving rfl (Ū rfl T.aq (ć (PE.wk (ĭ eN (by rfl) T.jT PySem.boot_len (ģ (ā (bA ["Yard"] ⟨⟨T.aH,T.dh⟩,trivial⟩ (Ă 0))) ķ)) fun _ _ _ h=>ź fj h) ĥ)) (Ĩ (i:=2) wz.nd rfl (Or.inl rfl))
  (Č (bf PassesOwn.leaving rfl (Jw rfl T.mH (Zd7 (Ě (Đ (QK T) ċ (hr.mono (by decide)) rfl T.lZ T.Py.kp T.Ww ğ (Ć 0 (hr:=(Ć 2 (hr:=Ď)))))))) (n_ rfl (Œ (Ĩ (i:=3) wz.nd rfl (Or.inl rfl)) (Œ (Ĩ (i:=4) wz.nd rfl (Or.inl rfl)) eX)))
  (Č (Ũ (iM (aZ (ā (Ě (Đ (QT T) ċ (hr.mono (by decide)) rfl T.eE T.P_.kp T.WX ğ (Ć 0 (hr:=(Ć 4 (hr:=(Ć 1 (hr:=Ď)))))))))))
  (Č (Ĥ (Į (Ō (ć (v_var 2) (ć (v_var 3) ĥ))))))
  Ŀ)))))
  (Č (Ĥ (Į gw)))))
theorem Zb0(T:Tx K mg a):İ P w K mg base (ū P w) 10 a.Ow a.Ox ["_law_script"] (ŷ ⟨K,ĩ a⟩ 1 mG):=by
 refine aN (cm:=ĩ a) (mb:=CG) T.Ze3 ſ rfl rfl rfl fun cdv A outer s H E hr=>?_
 have hu:=hr.units
 exact(Ċ (Ī (i:=1) ſ.nd rfl (by first|exact Or.inl rfl|exact Or.inr rfl) (Đ (Zbv T) ċ (hr.mono (by decide)) rfl T.dY T.VD.kp T.Zen ğ (Ę (Ě (Đ (lH T) ċ (hr.mono (by decide)) rfl T.Ű T.pW.kp T.tK ğ (Ć 0 (hr:=(Ę ă Ď))))) (Ę ă Ď))))
  (Ċ (jm (i:=2) ſ.nd rfl rfl ["_law_size_here","_law_cell"] [1] 1 (ĉ fJ) rfl rfl (dR (Ě (bT (Ă 0) (aO ă) (aO ă)))) (fun _ _ _ _ _=>(Ĩ (i:=1) (show(["_law_size_here","_law_cell"]:List Str).Nodup by decide +kernel) rfl (Or.inl rfl) (hf:=Or.inr rfl))) (fun _ _ _ _ _=>Ŝ) (fun _ _ _ _ _=>(Ě (Đ (Zbx T) ċ (hr.mono (by decide)) rfl T.dZ T.VL.kp T.Zer aP (Ć 1 (hr:=(Ę (PE.wk (ĭ (Bj rfl) (by rfl) T.Eu PyProof.Rows.boot_max (ģ (Ă 0) ķ)) fun _ _ _ h=>ź Bl h) Ď)))))) ⟨rfl,⟨rfl,Or.inl rfl⟩,trivial⟩)
  (Ċ (Ī (i:=3) ſ.nd rfl (Or.inl rfl) (Đ (Qq T) ċ (hr.mono (by decide)) rfl T.fK T.OJ.kp T.VH ğ (Ć 0 (hr:=(Ę ă (Ę (đ ņ ń (ā (Ě (Đ (lH T) ċ (hr.mono (by decide)) rfl T.Ű T.pW.kp T.tK ğ (Ć 0 (hr:=(Ę ă Ď)))))) (ā ă)) (Ę ă Ď)))))))
  (Ċ (Ũ (ŕ aB (Š hu) (ā (đ ņ ń (ā (đ Ž ţ (ā (Ě (Đ (lH T) ċ (hr.mono (by decide)) rfl T.Ű T.pW.kp T.tK ğ (Ć 0 (hr:=(Ę ă Ď)))))) (ā ă))) (ā ă))) (ā ă) (Ĳ _))
  (Ċ (Ī (i:=1) ſ.nd rfl (by first|exact Or.inl rfl|exact Or.inr rfl) (Į (Ō (ć (Ě (Ň Ķ ĵ (ā ă) (ā (đ ņ ń (ā (Ě (Đ (lH T) ċ (hr.mono (by decide)) rfl T.Ű T.pW.kp T.tK ğ (Ć 0 (hr:=(Ę ă Ď)))))) (ā ă))))) (ć ă ĥ)))))
  (Ċ (Ī (i:=2) ſ.nd rfl (Or.inl rfl) (bT (Ă 2) oJ (aO ă)))
  (Č (Ī (i:=3) ſ.nd rfl (Or.inl rfl) (Đ (Qq T) ċ (hr.mono (by decide)) rfl T.fK T.OJ.kp T.VH ğ (Ć 0 (hr:=(Ę ă (Ę ă (Ę ă Ď))))))))))
  Ŀ)
  (Ċ (jm (i:=4) ſ.nd rfl rfl ["_law_word","_law_numbers_here"] [] 2 (ĉ fJ) rfl rfl (aD 2) (fun _ _ _ _ _=>(n_ rfl (Œ (Ĩ (i:=0) (show(["_law_word","_law_numbers_here"]:List Str).Nodup by decide +kernel) rfl (Or.inl rfl) (hf:=Or.inr rfl)) (Œ (Ĩ (i:=1) (show(["_law_word","_law_numbers_here"]:List Str).Nodup by decide +kernel) rfl (Or.inl rfl) (hf:=Or.inr rfl)) eX)))) (fun _ _ _ _ _=>Ŝ) (fun _ _ _ _ _=>(Ě (Đ (ZbB T) ċ (hr.mono (by decide)) rfl T.cP T.Wb.kp T.Zex aP (Ć 0 (hr:=(Ę (Ě (PE.wk (ű cV (by rfl) T.fB PyProof.Rows.boot_list (ģ (Ă 1) ķ)) fun _ _ _ h=>wM cW h)) Ď)))))) trivial)
  (Ċ (Ī (i:=5) ſ.nd rfl (by first|exact Or.inl rfl|exact Or.inr rfl) (Į (kW T.Za0 (Qs T) cJ (hr.mono (by decide)) rfl T.ZaT T.Zeq ğ (Ę (ħ Ĕ ē (Ă 1) (ā ă) (fun _ _=>rfl)) (Ę (ħ Ĕ ē (Ă 1) (ā ă) (fun _ _=>rfl)) (Ć 4 (hr:=(Ć 3 (hr:=Ď)))))))))
  (Ċ (Ī (i:=6) ſ.nd rfl (by first|exact Or.inl rfl|exact Or.inr rfl) (ų ["_law_yard","_law_name","_law_many","_law_turns"] [5] 3 (ĉ fJ) rfl rfl (aD 3) (fun _ _ _ _ _=>(n_ rfl (Œ (Ĩ (i:=1) (show(["_law_yard","_law_name","_law_many","_law_turns"]:List Str).Nodup by decide +kernel) rfl (Or.inl rfl) (hf:=Or.inr rfl)) (Œ (Ĩ (i:=2) (show(["_law_yard","_law_name","_law_many","_law_turns"]:List Str).Nodup by decide +kernel) rfl (Or.inl rfl) (hf:=Or.inr rfl)) (Œ (Ĩ (i:=3) (show(["_law_yard","_law_name","_law_many","_law_turns"]:List Str).Nodup by decide +kernel) rfl (Or.inl rfl) (hf:=Or.inr rfl)) eX))))) (fun _ _ _ _ _=>Ŝ) (fun _ _ _ _ _=>(Ě (ų ["_law_yard","_law_turn"] [0] 1 _ rfl rfl (aD 3) (fun _ _ _ _ _=>(Ĩ (i:=1) (show(["_law_yard","_law_turn"]:List Str).Nodup by decide +kernel) rfl (Or.inl rfl) (hf:=Or.inr rfl))) (fun _ _ _ _ _=>Ŝ) (fun _ _ _ _ _=>(Ě (Đ (ZbM T) ċ (hr.mono (by decide)) rfl T.fM T.Wr.kp T.ZeN aP (Ć 0 (hr:=(Ć 1 (hr:=Ď))))))) ⟨rfl,⟨rfl,Or.inl rfl⟩,trivial⟩ (hfree:=Z2t (by kernel_rfl))))) ⟨rfl,⟨rfl,Or.inl rfl⟩,trivial⟩))
  (Ċ (bf PassesOwn.leaving rfl (Ū rfl T.aq (ć (đ ľ ī (ā (ħ Ĕ ē (Ă 1) (ā ă) (fun _ _=>rfl))) (ā (ħ Ĕ ē (Ă 1) (ā ă) (fun _ _=>rfl)))) ĥ)) (Ĩ (i:=7) ſ.nd rfl (by first|exact Or.inl rfl|exact Or.inr rfl))
  (Ċ (Ī (i:=8) ſ.nd rfl (Or.inl rfl) (Į (Ō (ć (đ ņ ń (Ă 7) (ā (ħ Ĕ ē (Ă 1) (ā ă) (fun _ _=>rfl)))) (ć (đ Ž ţ (Ă 7) (ā (ħ Ĕ ē (Ă 1) (ā ă) (fun _ _=>rfl)))) ĥ)))))
  (Ċ (Ī (i:=9) ſ.nd rfl (Or.inl rfl) (Į gw))
  (Ċ (bf PassesOwn.leaving rfl (Ū rfl T.aq (ć (PE.wk (ĭ eN (by rfl) T.jT PySem.boot_len (ģ (Ă 3) ķ)) fun _ _ _ h=>ź fj h) ĥ)) (Ĩ (i:=10) ſ.nd rfl (by first|exact Or.inl rfl|exact Or.inr rfl))
  (Ċ (jm (i:=11) ſ.nd rfl rfl ["_law_number","_law_sets","_law_day","_law_turn"] [7,6,10] 1 (ĉ fJ) rfl rfl (Ū rfl T.aq (ć (PE.wk (ĭ eN (by rfl) T.jT PySem.boot_len (ģ (ā (ħ Ĕ ē (Ă 6) (Ă 10) (fun _ _=>rfl))) ķ)) fun _ _ _ h=>ź fj h) ĥ)) (fun _ _ _ _ _=>(Ĩ (i:=3) (show(["_law_number","_law_sets","_law_day","_law_turn"]:List Str).Nodup by decide +kernel) rfl (Or.inl rfl) (hf:=Or.inr rfl))) (fun _ _ _ _ _=>(Ij (ŕ aB (Š hu) (ā (đ Td Te (ā (đ Zad Zae (ā (ħ Ĕ ē (ā (ħ Ĕ ē (Ă 1) (Ă 2) (fun _ _=>rfl))) (Ă 3) (fun _ _=>rfl))) (Ă 0))) (ā ă))) (ā ă) (Ĳ _)))) (fun _ _ _ _ _=>(v_var 3)) ⟨rfl,⟨rfl,Or.inl rfl⟩,⟨rfl,⟨rfl,Or.inl rfl⟩,⟨rfl,⟨rfl,Or.inl rfl⟩,trivial⟩⟩⟩)
  (Ċ (Ũ (PW.pt (w_and (ŕ q_ jY (Ă 9) (ā gw) (Ĳ _)) (gA (ŕ oH (jh hu) (Ă 11) (ā (Ě (ů ĥ))) (Ĳ _)))))
  (Č (Ī (i:=9) ſ.nd rfl (Or.inl rfl) (Į (Ō (ć (v_var 10) (ć (ħ Ĕ ē (Ă 11) (ā ă) (fun _ _=>rfl)) ĥ))))))
  Ŀ)
  (Ċ (Ī (i:=12) ſ.nd rfl (Or.inl rfl) (Đ (QV T) ċ (hr.mono (by decide)) rfl T.mD T.Qa.kp T.WY ğ (Ć 5 (hr:=(Ć 10 (hr:=(Ć 8 (hr:=Ď))))))))
  (Ċ (Ũ (iM (aZ (ā (Ě (Đ (QW T) ċ (hr.mono (by decide)) rfl T.mF T.Qc.kp T.Xa ğ (Ć 12 (hr:=(Ć 11 (hr:=Ď)))))))))
  (Č (Ĥ (Į ux)))
  Ŀ)
  (Ċ (PS.wk (cA (lJ PySem.F.plainAttrs_list PySem.F.slot_list_append PySem.F.type_list_append aQ (pv 12) (ć ă ĥ))) fun _ _ _ h=>g_ h)
  (Č (Ũ (iM (aZ (ā (Ě (Đ (QW T) ċ (hr.mono (by decide)) rfl T.mF T.Qc.kp T.Xa ğ (Ę (Ě (Đ (QV T) ċ (hr.mono (by decide)) rfl T.mD T.Qa.kp T.WY ğ (Ć 5 (hr:=(Ć 10 (hr:=(Ć 8 (hr:=Ď)))))))) (Ć 11 (hr:=Ď))))))))
  (Č (Ĥ (Į ux)))
  Ŀ))))))))
  (Č (Ũ (iM (aZ (ā (Ě (Đ (ZbY T) ċ (hr.mono (by decide)) rfl T.pQ T.W_.kp T.Ze1 ğ (Ę (Ě (Đ (ZbZ T) ċ (hr.mono (by decide)) rfl T.pR T.Xb.kp T.Ze2 ğ (Ć 5 (hr:=(Ć 8 (hr:=Ď)))))) (Ć 9 (hr:=Ď))))))))
  (Č (Ĥ (Į ux)))
  Ŀ))))))
  (Č (Ĥ (Į ux)))))))))))
end
def pt(p:Hu.Pt):PV:=.tup [.int p.1,.int p.2]
def cQ(l:Hu.Ln):PV:=.tup [.int l.1,.int l.2.1,.int l.2.2]
def Sm(p:Hu.Pt):Prop:=-100000000000000000≤p.1∧p.1≤100000000000000000∧ -100000000000000000≤p.2∧p.2≤100000000000000000
def Xj(l:Hu.Ln):Prop:=-1000000000000000000≤l.1∧l.1≤1000000000000000000∧ -1000000000000000000≤l.2.1∧l.2.1≤1000000000000000000
theorem Z0e{x y:Hu.Pt}:eqB (pt y) (pt x)=decide (y=x):=by
 obtain⟨a,b⟩:=x
 obtain⟨c,d⟩:=y
 unfold pt
 rw[Zat,Bool.eq_iff_iff]
 simp
theorem ZL(x:Hu.Pt):aL (pt x)=true:=by simp[pt,aL,cF]
theorem ZE(x:Hu.Pt):dep (pt x)=1:=by simp[pt,dep,qw]
theorem Z27(S:List Hu.Pt):cF (S.map pt)=true:=by
 induction S with
 |nil=>simp[cF]
 |cons p S ih=>simp[cF,ZL,ih]
theorem Z11(x:Hu.Pt):∀k:List Hu.Pt,(k.map pt).any (fun y=>eqB y (pt x))=decide (x∈k)
 | []=>by simp
 |y::k=>by
  rw[List.map_cons,List.any_cons,Z11 x k,Z0e,Bool.eq_iff_iff]
  simp
  constructor
  ·rintro (e|e)
   ·exact .inl e.symm
   ·exact .inr e
  ·rintro (e|e)
   ·exact .inl e.symm
   ·exact .inr e
theorem Z0f(x:Hu.Pt)(k:List Hu.Pt):inD true (pt x) (.lst (k.map pt))=some (.bl (!decide (x∈k))):=by
 unfold inD
 simp only[ZL,Z27,ZE,Z11]
 rfl
theorem Z0c(x y:Hu.Pt):cG (pt x) (pt y)=some (.bl (!decide (x=y))):=by
 unfold cG qy
 rw[ZL,ZL,ZE,ZE,Z0e]
 rfl
theorem Z1K{a b:Hu.Pt}(ha:Sm a)(hb:Sm b):sV [.sh (pt a),.sh (pt b)]=.ret (.sh (cQ (Hu.Z2 a b))):=by
 obtain⟨a1,a2,a3,a4⟩:=ha
 obtain⟨b1,b2,b3,b4⟩:=hb
 have m1:ř (b.2-a.2) a.1=true:=bx (by omega) (by omega)
 have m2:ř (a.1-b.1) a.2=true:=bx (by omega) (by omega)
 simp[sV,Bw,List.replicate,pt,cQ,Hu.Z2,m1,m2]
theorem Z0g{l:Hu.Ln}(hl:Xj l)(p:Hu.Pt):i_ [.sh (cQ l),.sh (pt p)]=.ret (.sh (.bl (Hu.hd l p))):=by
 obtain⟨a1,a2,a3,a4⟩:=hl
 have m1:ř l.1 p.1=true:=bx (by omega) (by omega)
 have m2:ř l.2.1 p.2=true:=bx (by omega) (by omega)
 simp[i_,Bx,List.replicate,pt,cQ,Hu.hd,m1,m2]
theorem Z0D{a b:Hu.Pt}(ha:Sm a)(hb:Sm b):Xj (Hu.Z2 a b):=by
 obtain⟨a1,a2,a3,a4⟩:=ha
 obtain⟨b1,b2,b3,b4⟩:=hb
 simp only[Xj,Hu.Z2]
 omega
def Sl(s:P.Slot)(ps:List PV):Prop:=s=.sh (.lst ps)∨s=.bw ps
theorem Sl.lend{s:P.Slot}{ps:List PV}(h:Sl s ps):dJ s=some s:=by rcases h with rfl|rfl<;>rfl
theorem Sl.it{s:P.Slot}{ps:List PV}(h:Sl s ps){i:Nat}{ρ:ŏ}(e:ρ[i]?=some s):Ő i ρ=.ok ps ρ:= by
 rcases h with rfl|rfl<;>simp[e]
theorem Z1L{S:List Hu.Pt}{sl:P.Slot}(hs:Sl sl (S.map pt))(hl:S.length≤1000):sU [sl]=.ret (.ow ((Hu.Z1 S).map pt)):=by
 have hlen:∀(xs k:List Hu.Pt),(xs.foldl (fun k x=>if x∈k then k else k ++ [x]) k).length≤k.length+xs.length:=by
  intro xs
  induction xs with
  |nil=>intro k;simp
  |cons x xs ih=>
   intro k
   rw[List.foldl_cons]
   refine Nat.le_trans (ih _) ?_
   split
   ·simp
   ·simp;omega
 have key:∀(xs:List Hu.Pt) (k:List Hu.Pt) (s2:P.Slot),k.length+xs.length≤1000→∃s2',forL (gN 2) lu (xs.map pt) [sl,.ow (k.map pt),s2]=.ok .nx [sl,.ow ((xs.foldl (fun k x=>if x∈k then k else k ++ [x]) k).map pt),s2']:=by
  intro xs
  induction xs with
  |nil=>intro k s2 _;exact⟨s2,rfl⟩
  |cons x xs ih=>
   intro k s2 hk
   rw[List.length_cons] at hk
   by_cases hx:x∈k
   ·obtain⟨s2',e⟩:=ih k (.sh (pt x)) (by omega)
    refine⟨s2',?_⟩
    have hb:lu [sl,.ow (k.map pt),.sh (pt x)]=.ok .nx [sl,.ow (k.map pt),.sh (pt x)]:=by simp[lu,Z0f,hx]
    rw[List.map_cons,List.foldl_cons,if_pos hx,forL]
    simp[hb,e]
   ·obtain⟨s2',e⟩:=ih (k ++ [x]) (.sh (pt x)) (by simp;omega)
    refine⟨s2',?_⟩
    have h3:k.length<16777216:=by omega
    have hb:lu [sl,.ow (k.map pt),.sh (pt x)]=.ok .nx [sl,.ow ((k ++ [x]).map pt),.sh (pt x)]:=by simp[lu,Z0f,hx,h3]
    rw[List.map_cons,List.foldl_cons,if_neg hx,forL]
    simp only[IK,List.set_cons_succ,List.set_cons_zero,hb,Res.aY]
    exact e
 obtain⟨s2,e⟩:=key S [] .no (by simpa using hl)
 have hit:=hs.it (i:=0) (ρ:= [sl,.ow [],.no]) rfl
 simp only[List.map_nil] at e
 simp[sU,Bv,List.replicate,-Bc,hit,e]
 rfl
theorem Z12(x:Int)(l:List Int):iY [.lst ((x::l).map .int)]=some (.int (Hu.mx (x::l))):=by
 show((intsOf ((x::l).map .int)).bind (best max)).map PV.int=_
 rw[jk]
 rfl
theorem Z13(x:Int)(l:List Int):rE [.lst ((x::l).map .int)]=some (.int (Hu.mn (x::l))):=by
 show((intsOf ((x::l).map .int)).bind (best min)).map PV.int=_
 rw[jk]
 rfl
theorem Z28{S:List Hu.Pt}{sl:P.Slot}(hs:Sl sl (S.map pt))(h0:S≠[])(hl:S.length≤1000):sS [sl]=.ret (.ow ((Hu.box S).map cQ)):=by
 have c1:ŉ (gN 0) ŋ (Ĉ ě (Ā 0) (mC (.int 0))) (S.map pt) [.no] []=some ((S.map (·.1)).map .int):=by
  have:=ő (g:=gN 0) (mt:=ŋ) (me:=Ĉ ě (Ā 0) (mC (.int 0))) pt (fun p=>.int p.1) (fun ρ=>∃s,ρ=[s]) S [.no] [] ⟨_,rfl⟩ (by simp;omega) (by
   rintro x hx ρ ⟨s,rfl⟩
   exact⟨[.sh (pt x)],[.sh (pt x)],[.sh (pt x)],by simp,by simp,by simp[pt],_,rfl⟩)
  rw[this]
  simp
 have c2:ŉ (gN 0) ŋ (Ĉ ě (Ā 0) (mC (.int 1))) (S.map pt) [.no] []=some ((S.map (·.2)).map .int):=by
  have:=ő (g:=gN 0) (mt:=ŋ) (me:=Ĉ ě (Ā 0) (mC (.int 1))) pt (fun p=>.int p.2) (fun ρ=>∃s,ρ=[s]) S [.no] [] ⟨_,rfl⟩ (by simp;omega) (by
   rintro x hx ρ ⟨s,rfl⟩
   exact⟨[.sh (pt x)],[.sh (pt x)],[.sh (pt x)],by simp,by simp,by simp[pt],_,rfl⟩)
  rw[this]
  simp
 obtain⟨p,R,rfl⟩:=List.exists_cons_of_ne_nil h0
 have x1:=Z12 p.1 (R.map (·.1))
 have x2:=Z13 p.1 (R.map (·.1))
 have x3:=Z12 p.2 (R.map (·.2))
 have x4:=Z13 p.2 (R.map (·.2))
 have hit:∀s1 s2,Ő 0 [sl,s1,s2]=.ok ((p::R).map pt) [sl,s1,s2]:=fun s1 s2=>hs.it rfl
 have b:(Hu.box (p::R)).map cQ=[.tup [.int 1,.int 0,.int (Hu.mx (p.1::R.map (·.1)))],.tup [.int (-1),.int 0,.int (- Hu.mn (p.1::R.map (·.1)))],.tup [.int 0,.int 1,.int (Hu.mx (p.2::R.map (·.2)))],.tup [.int 0,.int (-1),.int (- Hu.mn (p.2::R.map (·.2)))]]:=rfl
 rw[b]
 generalize (p::R).map pt=ps at hit c1 c2
 rw[List.map_cons] at c1 c2
 generalize (p.1::R.map (·.1)).map PV.int=us at c1 x1 x2
 generalize (p.2::R.map (·.2)).map PV.int=vs at c2 x3 x4
 simp[sS,Bu,List.replicate,-Bc,-Ud,-Ue,hit,c1,c2,x1,x2,x3,x4]
theorem Z03:∀l:List Bool,boolsOf (l.map .bl)=some l
 | []=>rfl
 |x::l=>by rw[List.map_cons,boolsOf,Z03 l];rfl
theorem Z0h(l:List Bool):mV [.lst (l.map .bl)]=some (.bl (l.all id)):=by
 show(boolsOf (l.map .bl)).map (fun bs=>PV.bl (bs.all id))=_
 rw[Z03]
 rfl
theorem Zz(S:List Hu.Pt):(Hu.Z1 S).length≤S.length:=by
 have:∀(xs k:List Hu.Pt),(xs.foldl (fun k x=>if x∈k then k else k ++ [x]) k).length≤k.length+xs.length:=by
  intro xs
  induction xs with
  |nil=>intro k;simp
  |cons x xs ih=>
   intro k
   rw[List.foldl_cons]
   refine Nat.le_trans (ih _) ?_
   split
   ·simp
   ·simp;omega
 have h:=this S []
 rw[List.length_nil,Nat.zero_add] at h
 exact h
theorem Z14{S:List Hu.Pt}(hS:∀p∈S,Sm p)(hl:S.length≤1000){a b:Hu.Pt}(ha:a∈S)(hb:b∈S)(s0 s5:P.Slot)(L:List Hu.Ln)(hL:L.length<16777216) :
 lA [s0,.ow (L.map cQ),.sh (.lst ((Hu.Z1 S).map pt)),.sh (pt a),.sh (pt b),s5]=.ok .nx [s0,.ow ((L++(if a≠b∧(Hu.Z1 S).all (Hu.hd (Hu.Z2 a b)) then[Hu.Z2 a b] else[])).map cQ),.sh (.lst ((Hu.Z1 S).map pt)),.sh (pt a),.sh (pt b),.sh (cQ (Hu.Z2 a b))]:=by
 have hsm:=Z0D (hS a ha) (hS b hb)
 have c1:ŉ (gN 1) ŋ (Ė (Ē i_ (ą 0 (ą 1 ď)))) ((Hu.Z1 S).map pt) [.sh (cQ (Hu.Z2 a b)),.no] []=some (((Hu.Z1 S).map (Hu.hd (Hu.Z2 a b))).map .bl):=by
  have hlen:(Hu.Z1 S).length≤16777216:=by have:=Zz S;omega
  have:=ő (g:=gN 1) (mt:=ŋ) (me:=Ė (Ē i_ (ą 0 (ą 1 ď)))) pt (fun p=>.bl (Hu.hd (Hu.Z2 a b) p)) (fun ρ=>∃s,ρ=[.sh (cQ (Hu.Z2 a b)),s]) (Hu.Z1 S) [.sh (cQ (Hu.Z2 a b)),.no] [] ⟨_,rfl⟩ (by simpa using hlen) (by
   rintro x hx ρ ⟨s,rfl⟩
   exact⟨[.sh (cQ (Hu.Z2 a b)),.sh (pt x)],[.sh (cQ (Hu.Z2 a b)),.sh (pt x)],[.sh (cQ (Hu.Z2 a b)),.sh (pt x)],by simp,by simp,by simp[Z0g hsm],_,rfl⟩)
  rw[this]
  simp
 have c2:=Z0h ((Hu.Z1 S).map (Hu.hd (Hu.Z2 a b)))
 have e1:=Z1K (hS a ha) (hS b hb)
 have e3:((Hu.Z1 S).map (Hu.hd (Hu.Z2 a b))).all id=(Hu.Z1 S).all (Hu.hd (Hu.Z2 a b)):=by simp
 rw[e3] at c2
 generalize ((Hu.Z1 S).map (Hu.hd (Hu.Z2 a b))).map PV.bl=bs at c1 c2
 by_cases h1:a=b
 ·subst h1
  simp[lA,e1,Z0c]
 ·by_cases h2:(Hu.Z1 S).all (Hu.hd (Hu.Z2 a b))=true
  ·rw[h2] at c2
   simp[lA,e1,Z0c,h1,c1,c2,h2,hL,-List.all_eq_true]
  ·rw[Bool.not_eq_true] at h2
   rw[h2] at c2
   simp[lA,e1,Z0c,h1,c1,c2,h2,hL,-List.all_eq_true,-List.all_eq_false]
theorem Z1l{S:List Hu.Pt}(hS:∀p∈S,Sm p)(hl:S.length≤1000){a:Hu.Pt}(ha:a∈S)(s0:P.Slot):∀(xs:List Hu.Pt) (L:List Hu.Ln) (s4 s5:P.Slot),(∀x∈xs,x∈S)→L.length+xs.length<16777216→
 ∃Rh Vn,forL (gN 4) lA (xs.map pt) [s0,.ow (L.map cQ),.sh (.lst ((Hu.Z1 S).map pt)),.sh (pt a),s4,s5]=.ok .nx [s0,.ow ((L++xs.filterMap fun b=>if a≠b∧(Hu.Z1 S).all (Hu.hd (Hu.Z2 a b)) then some (Hu.Z2 a b) else none).map cQ),.sh (.lst ((Hu.Z1 S).map pt)),.sh (pt a),Rh,Vn]:=by
 intro xs
 induction xs with
 |nil=>intro L s4 s5 _ _;exact⟨s4,s5,by simp[forL]⟩
 |cons b xs ih=>
  intro L s4 s5 hx hL
  rw[List.length_cons] at hL
  have hb:=Z14 hS hl ha (hx b (by simp)) s0 s5 L (by omega)
  obtain⟨Rh,Vn,e⟩:=ih (L++(if a≠b∧(Hu.Z1 S).all (Hu.hd (Hu.Z2 a b)) then[Hu.Z2 a b] else[])) (.sh (pt b)) (.sh (cQ (Hu.Z2 a b))) (fun x h=>hx x (List.mem_cons_of_mem _ h)) (by
   rw[List.length_append]
   split
   ·simp;omega
   ·simp;omega)
  refine⟨Rh,Vn,?_⟩
  rw[List.map_cons,forL]
  simp only[IK,List.set_cons_succ,List.set_cons_zero,hb,Res.aY]
  rw[e,List.filterMap_cons]
  by_cases hc:a≠b∧(Hu.Z1 S).all (Hu.hd (Hu.Z2 a b))=true
  ·rw[if_pos hc,if_pos hc]
   simp only[List.append_assoc,List.cons_append,List.nil_append]
  ·rw[if_neg hc,if_neg hc]
   simp only[List.append_nil]
theorem ZC{α β:Type}(f:α→Option β)(l:List α):(l.filterMap f).length≤l.length:=List.length_filterMap_le ..
theorem Z1m{S:List Hu.Pt}(hS:∀p∈S,Sm p)(hl:S.length≤1000)(s0:P.Slot):∀(xs:List Hu.Pt) (L:List Hu.Ln) (s3 s4 s5:P.Slot),(∀x∈xs,x∈S)→L.length+xs.length*1000<10000000→
 ∃s3' Rh Vn,forL (gN 3) vB (xs.map pt) [s0,.ow (L.map cQ),.sh (.lst ((Hu.Z1 S).map pt)),s3,s4,s5]=.ok .nx [s0,.ow ((L++xs.flatMap fun a=>(Hu.Z1 S).filterMap fun b=>if a≠b∧(Hu.Z1 S).all (Hu.hd (Hu.Z2 a b)) then some (Hu.Z2 a b) else none).map cQ),.sh (.lst ((Hu.Z1 S).map pt)),s3',Rh,Vn]:=by
 intro xs
 induction xs with
 |nil=>intro L s3 s4 s5 _ _;exact⟨s3,s4,s5,by simp[forL]⟩
 |cons a xs ih=>
  intro L s3 s4 s5 hx hL
  rw[List.length_cons] at hL
  have ho:=Zz S
  obtain⟨a4,a5,e1⟩:=Z1l hS hl (hx a (by simp)) s0 (Hu.Z1 S) L s4 s5 (fun x h=>Hu.Zg.mp h) (by omega)
  have hf:=ZC (fun b=>if a≠b∧(Hu.Z1 S).all (Hu.hd (Hu.Z2 a b))=true then some (Hu.Z2 a b) else none) (Hu.Z1 S)
  obtain⟨s3',Rh,Vn,e2⟩:=ih (L++(Hu.Z1 S).filterMap fun b=>if a≠b∧(Hu.Z1 S).all (Hu.hd (Hu.Z2 a b))=true then some (Hu.Z2 a b) else none) (.sh (pt a)) a4 a5 (fun x h=>hx x (List.mem_cons_of_mem _ h)) (by rw[List.length_append];omega)
  refine⟨s3',Rh,Vn,?_⟩
  have hb:vB [s0,.ow (L.map cQ),.sh (.lst ((Hu.Z1 S).map pt)),.sh (pt a),s4,s5]=.ok .nx [s0,.ow ((L++(Hu.Z1 S).filterMap fun b=>if a≠b∧(Hu.Z1 S).all (Hu.hd (Hu.Z2 a b))=true then some (Hu.Z2 a b) else none).map cQ),.sh (.lst ((Hu.Z1 S).map pt)),.sh (pt a),a4,a5]:=by
   unfold vB
   simp only[Zah,Bc,List.getElem?_cons_succ,List.getElem?_cons_zero,Res.aY]
   exact e1
  rw[List.map_cons,forL]
  simp only[IK,List.set_cons_succ,List.set_cons_zero,hb,Res.aY]
  rw[e2,List.flatMap_cons,List.append_assoc]
theorem Z1n{S:List Hu.Pt}{sl:P.Slot}(hs:Sl sl (S.map pt))(hS:∀p∈S,Sm p)(hl:S.length≤1000):sW [sl]=.ret (.ow ((Hu.Zu S).map cQ)):=by
 have h1:=Z1L hs hl
 have ho:=Zz S
 obtain⟨s3,s4,s5,e⟩:=Z1m hS hl sl (Hu.Z1 S) [] .no .no .no (fun x h=>Hu.Zg.mp h) (by simp;omega)
 have he:[]++((Hu.Z1 S).flatMap fun a=>(Hu.Z1 S).filterMap fun b=>if a≠b∧(Hu.Z1 S).all (Hu.hd (Hu.Z2 a b))=true then some (Hu.Z2 a b) else none)=Hu.Zu S:=rfl
 rw[he] at e
 generalize Hu.Zu S=ed at e
 generalize (Hu.Z1 S).map pt=os at e h1
 simp only[List.map_nil] at e
 simp[sW,BJ,List.replicate,hs.lend,h1,e]
theorem Z15(S:List Hu.Pt)(hl:S.length≤1000):(Hu.Zu S).length≤1000000:=by
 have ho:=Zz S
 have:∀(xs:List Hu.Pt) (f:Hu.Pt→List Hu.Ln),(∀x,(f x).length≤1000)→(xs.flatMap f).length≤xs.length*1000:=by
  intro xs f hf
  induction xs with
  |nil=>simp
  |cons x xs ih=>rw[List.flatMap_cons,List.length_append,List.length_cons];have:=hf x;omega
 refine Nat.le_trans (this (Hu.Z1 S) _ fun x=>Nat.le_trans (ZC _ _) (by omega)) (by omega)
theorem Z0i{S:List Hu.Pt}{sl:P.Slot}(hs:Sl sl (S.map pt))(hS:∀p∈S,Sm p)(h0:S≠[])(hl:S.length≤1000):lO [sl]=.ret (.ow ((Hu.Zd S).map cQ)):=by
 have h1:=Z28 hs h0 hl
 have h2:=Z1n hs hS hl
 have h3:Ľ (.lst ((Hu.box S).map cQ)) (.lst ((Hu.Zu S).map cQ))=some (.ow ((Hu.Zd S).map cQ)):=by
  rw[add_l (by have:=Z15 S hl;simp[Hu.box];omega),←List.map_append]
  rfl
 simp[lO,BK,List.replicate,hs.lend,h1,h2,h3]
theorem Z16{S:List Hu.Pt}{l:Hu.Ln}(h:l∈Hu.Zd S)(hS:∀p∈S,Sm p):Xj l:=by
 rcases List.mem_append.mp h with h|h
 ·unfold Hu.box at h
  simp only[List.mem_cons,List.not_mem_nil,or_false] at h
  rcases h with e|e|e|e<;>subst e<;>simp only[Xj]<;>omega
 ·obtain⟨a,ha,b,hb,_,_,rfl⟩:=Hu.Z10.mp h
  exact Z0D (hS a ha) (hS b hb)
theorem Z0N(n:Nat):gF 0 n 1=(List.range n).map fun(i:Nat)=>PV.int (i:Int):=by
 unfold gF
 refine List.map_congr_left fun i _=>?_
 simp
theorem Zs{n:Nat}(h:n≤1000):aA [.int (n:Int)]=some ((List.range n).map fun(i:Nat)=>PV.int (i:Int)):=by
 have hs:oh (n:Int)=true:=by unfold oh;simp;omega
 unfold aA
 simp[hs,Z0N]
def Xk(s:P.Slot)(ps:List PV):Prop:=s=.sh (.lst ps)∨s=.bw ps
def aV(x:Int):Bool:=decide (-1000000000≤x∧x≤1000000000)
def zV(x:Int):Bool:=decide (1≤x∧x≤1000000000)
def zW(x:Int):Bool:=decide (0≤x∧x≤1000000000)
theorem ZO(x:Int):dg [.sh (.int x)]=.ret (.sh (.bl (aV x))):=by
 unfold aV
 by_cases h1: -1000000000≤x<;>by_cases h2:x≤1000000000<;>simp[dg,Bs,List.replicate,h1,h2]
theorem Z04(x:Int):lN [.sh (.int x)]=.ret (.sh (.bl (zV x))):=by
 unfold zV
 by_cases h1:1≤x<;>by_cases h2:x≤1000000000<;>simp[lN,Bt,List.replicate,h1,h2]
def Ze:List Int→Bool
 | [p,q,h]=>aV p && aV q && zV h
 |_=>false
def Zf:List Int→Bool
 | [x,y,u,v,h]=>aV x && aV y && aV u && aV v && zV h
 |_=>false
def Zb:List Int→Bool
 | [x,y,u,v,h]=>Zf [x,y,u,v,h] && !(decide (x=u) && decide (y=v))
 |_=>false
def Z7:List Int→Bool
 | [x,y,u,v,h]=>Zf [x,y,u,v,h] && decide (x<u) && decide (y<v)
 |_=>false
def Zc:List Int→Bool
 | [a,b,c,d,e,f,g,h,i]=>aV a && aV b && zW c && (aV d && aV e && zW f) && (aV g && aV h && zW i)
 |_=>false
theorem Z29(a b c:Bool):mV [.lst [.bl a,.bl b,.bl c]]=some (.bl (a && b && c)):=by cases a<;>cases b<;>cases c<;>rfl
theorem Z2a(a b c d:Bool):mV [.lst [.bl a,.bl b,.bl c,.bl d]]=some (.bl (a && b && c && d)):=by cases a<;>cases b<;>cases c<;>cases d<;>rfl
theorem Z0b{xs:List Int}{sl:P.Slot}(hs:Xk sl (xs.map .int)):pB [sl]=.ret (.sh (.bl (Ze xs))):=by
 by_cases hl:xs.length=3
 ·match xs,hl with
  | [a,b,c],_=>
    have h:Ze [a,b,c]=(aV a && aV b && zV c):=rfl
    rw[h]
    rcases hs with rfl|rfl<;>cases ea:aV a<;>cases eb:aV b<;>cases ec:zV c<;>simp[pB,vg,List.replicate,ZO,Z04,ea,eb,ec]
 ·have h:Ze xs=false:=by
   unfold Ze
   split
   ·simp at hl
   ·rfl
  rw[h]
  have hl':¬((xs.length:Nat):Int)=3:=by omega
  rcases hs with rfl|rfl<;>simp[pB,vg,List.replicate,hl']
theorem Z0E{xs:List Int}{sl:P.Slot}(hs:Xk sl (xs.map .int)):jN [sl]=.ret (.sh (.bl (Zf xs))):=by
 by_cases hl:xs.length=5
 ·match xs,hl with
  | [a,b,c,d,e],_=>
    have h:Zf [a,b,c,d,e]=(aV a && aV b && aV c && aV d && zV e):=rfl
    rw[h]
    have hc:cg ([.int a,.int b,.int c,.int d,.int e]:List PV) none (some 4)=[.int a,.int b,.int c,.int d]:=rfl
    have hb:=Z2a (aV a) (aV b) (aV c) (aV d)
    rcases hs with rfl|rfl<;>cases ea:(aV a && aV b && aV c && aV d)<;>cases ec:zV e<;>rw[ea] at hb<;>simp[jN,vo,List.replicate,ZO,Z04,hc,ŉ,hb,ec]
 ·have h:Zf xs=false:=by
   unfold Zf
   split
   ·simp at hl
   ·rfl
  rw[h]
  have hl':¬((xs.length:Nat):Int)=5:=by omega
  rcases hs with rfl|rfl<;>simp[jN,vo,List.replicate,hl']
theorem Z2b(a b c d:Int):cG (.lst [.int a,.int b]) (.lst [.int c,.int d])=some (.bl (!(decide (a=c) && decide (b=d)))):=by
 have h:eqB (.lst [.int a,.int b]) (.lst [.int c,.int d])=(decide (a=c) && decide (b=d)):=by
  simp[eqB,dU]
  rw[Bool.eq_iff_iff]
  simp
 unfold cG qy
 rw[h]
 simp[aL,cF,dep,qw]
theorem Z1C{xs:List Int}(hl:¬xs.length=5):Zf xs=false:=by
 unfold Zf
 split
 ·simp at hl
 ·rfl
theorem Z0O{s:P.Slot}{ps:List PV}(h:Xk s ps):dJ s=some s:=by rcases h with rfl|rfl<;>rfl
theorem Z1o{xs:List Int}{sl:P.Slot}(hs:Xk sl (xs.map .int)):pG [sl]=.ret (.sh (.bl (Zb xs))):=by
 have he:=Z0E hs
 by_cases hl:xs.length=5
 ·match xs,hl with
  | [a,b,c,d,e],_=>
    have h:Zb [a,b,c,d,e]=(Zf [a,b,c,d,e] && !(decide (a=c) && decide (b=d))):=rfl
    rw[h]
    have h1:cg ([.int a,.int b,.int c,.int d,.int e]:List PV) none (some 2)=[.int a,.int b]:=rfl
    have h2:cg ([.int a,.int b,.int c,.int d,.int e]:List PV) (some 2) (some 4)=[.int c,.int d]:=rfl
    have h3:=Z2b a b c d
    generalize Zf [a,b,c,d,e]=q at *
    generalize (!(decide (a=c) && decide (b=d)))=r at *
    rcases hs with rfl|rfl<;>cases q<;>simp_all [pG,vp,List.replicate]
 ·have h:Zb xs=false:=by
   unfold Zb
   split
   ·simp at hl
   ·rfl
  rw[h]
  rw[Z1C hl] at he
  simp[pG,vp,List.replicate,Z0O hs,he]
theorem Z1M{xs:List Int}{sl:P.Slot}(hs:Xk sl (xs.map .int)):vq [sl]=.ret (.sh (.bl (Z7 xs))):=by
 have he:=Z0E hs
 by_cases hl:xs.length=5
 ·match xs,hl with
  | [a,b,c,d,e],_=>
    have h:Z7 [a,b,c,d,e]=(Zf [a,b,c,d,e] && decide (a<c) && decide (b<d)):=rfl
    rw[h]
    generalize Zf [a,b,c,d,e]=q at *
    rcases hs with rfl|rfl<;>simp only[List.map_cons,List.map_nil] at he<;>cases q<;>by_cases h1:a<c<;>by_cases h2:b<d<;>simp[vq,Er,List.replicate,he,h1,h2]
 ·have h:Z7 xs=false:=by
   unfold Z7
   split
   ·simp at hl
   ·rfl
  rw[h]
  rw[Z1C hl] at he
  simp[vq,Er,List.replicate,Z0O hs,he]
theorem ZF(a b c:Int):Gj [.sh (.lst [.int a,.int b,.int c])]=.ret (.sh (.bl (aV a && aV b && zW c))):=by
 unfold zW
 cases ea:aV a<;>cases eb:aV b<;>by_cases h1:0≤c<;>by_cases h2:c≤1000000000<;>simp[Gj,JR,List.replicate,ZO,ea,eb,h1,h2]
theorem Z1p{xs:List Int}{sl:P.Slot}(hs:Xk sl (xs.map .int)):pH [sl]=.ret (.sh (.bl (Zc xs))):=by
 by_cases hl:xs.length=9
 ·match xs,hl with
  | [a,b,c,d,e,f,g,h,i],_=>
    have hc:Zc [a,b,c,d,e,f,g,h,i]=((aV a && aV b && zW c) && (aV d && aV e && zW f) && (aV g && aV h && zW i)):=rfl
    rw[hc]
    have h1:cg ([.int a,.int b,.int c,.int d,.int e,.int f,.int g,.int h,.int i]:List PV) (some 0) (some 3)=[.int a,.int b,.int c]:=rfl
    have h2:cg ([.int a,.int b,.int c,.int d,.int e,.int f,.int g,.int h,.int i]:List PV) (some 3) (some 6)=[.int d,.int e,.int f]:=rfl
    have h3:cg ([.int a,.int b,.int c,.int d,.int e,.int f,.int g,.int h,.int i]:List PV) (some 6) (some 9)=[.int g,.int h,.int i]:=rfl
    have hb:=Z29 (aV a && aV b && zW c) (aV d && aV e && zW f) (aV g && aV h && zW i)
    have k1:=ZF a b c
    have k2:=ZF d e f
    have k3:=ZF g h i
    generalize (aV a && aV b && zW c)=q1 at *
    generalize (aV d && aV e && zW f)=q2 at *
    generalize (aV g && aV h && zW i)=q3 at *
    rcases hs with rfl|rfl<;>simp[pH,vA,List.replicate,ŉ,h1,h2,h3,k1,k2,k3,hb]
 ·have h:Zc xs=false:=by
   unfold Zc
   split
   ·simp at hl
   ·rfl
  rw[h]
  have hl':¬((xs.length:Nat):Int)=9:=by omega
  rcases hs with rfl|rfl<;>simp[pH,vA,List.replicate,hl']
def Za(w:Str):String:=if w= "post" then "Post" else if w= "fence" then "Fence" else if w= "sail" then "Sail" else if w= "cloth" then "Cloth" else "House"
def Z4(C:String)(w:Str)(xs:List Int):PV:=.ins C ["word","numbers"] [.str w,.lst (xs.map .int)]
def Z5(w:Str)(xs:List Int):Bool:=if w= "post" then Ze xs else if w= "fence" then Zb xs else if w= "sail" then Z7 xs else if w= "cloth" then Zc xs else if w= "house" then Z7 xs else false
theorem wn:((Str.ofString "word")=(Str.ofString "numbers"))=False:=eq_false (by decide +kernel)
theorem Zy{C:String}(hC:(["Thing","Post","Fence","Sail","Cloth","House"]:List String).contains C=true)(w:Str){xs:List Int}{sl:P.Slot}(hs:Xk sl (xs.map .int)):cX 3 3 C fL [.sh (.str w),sl]=.ok ["word","numbers"] [.str w,.lst (xs.map .int)]:=by
 rcases hs with rfl|rfl<;>simp[cX,fL,iW,IR.of,List.replicate,putN,xu,hC,wn,-List.contains_eq_mem,-List.contains_cons]
theorem s1:PyData.strOk (Str.ofString "post")=true:=by decide +kernel
theorem s2:PyData.strOk (Str.ofString "fence")=true:=by decide +kernel
theorem s3:PyData.strOk (Str.ofString "sail")=true:=by decide +kernel
theorem s4:PyData.strOk (Str.ofString "cloth")=true:=by decide +kernel
theorem s5:PyData.strOk (Str.ofString "house")=true:=by decide +kernel
theorem d12:(Str.ofString "post" =Str.ofString "fence")=False:=eq_false (by decide +kernel)
theorem d13:(Str.ofString "post" =Str.ofString "sail")=False:=eq_false (by decide +kernel)
theorem d14:(Str.ofString "post" =Str.ofString "cloth")=False:=eq_false (by decide +kernel)
theorem d15:(Str.ofString "post" =Str.ofString "house")=False:=eq_false (by decide +kernel)
theorem d23:(Str.ofString "fence" =Str.ofString "sail")=False:=eq_false (by decide +kernel)
theorem d24:(Str.ofString "fence" =Str.ofString "cloth")=False:=eq_false (by decide +kernel)
theorem d25:(Str.ofString "fence" =Str.ofString "house")=False:=eq_false (by decide +kernel)
theorem d34:(Str.ofString "sail" =Str.ofString "cloth")=False:=eq_false (by decide +kernel)
theorem d35:(Str.ofString "sail" =Str.ofString "house")=False:=eq_false (by decide +kernel)
theorem d45:(Str.ofString "cloth" =Str.ofString "house")=False:=eq_false (by decide +kernel)
theorem Z1q{w:Str}(hw:PyData.strOk w=true){xs:List Int}{sl:P.Slot}(hs:Xk sl (xs.map .int)):cP [.sh (.str w),sl]=if Z5 w xs=true then .ret (.sh (Z4 (Za w) w xs)) else .exc ⟨"BadThing",[],[]⟩:=by
 have e1:=cO hw s1
 have e2:=cO hw s2
 have e3:=cO hw s3
 have e4:=cO hw s4
 have e5:=cO hw s5
 have p1:=Z0b hs
 have p2:=Z1o hs
 have p3:=Z1M hs
 have p4:=Z1p hs
 have i1:vh [.sh (.str w),sl]=_:=Zy (by decide) w hs
 have i2:pC [.sh (.str w),sl]=_:=Zy (by decide) w hs
 have i3:vm [.sh (.str w),sl]=_:=Zy (by decide) w hs
 have i4:pD [.sh (.str w),sl]=_:=Zy (by decide) w hs
 have i5:pF [.sh (.str w),sl]=_:=Zy (by decide) w hs
 have hle:=Z0O hs
 unfold Z5 Za Z4
 by_cases h1:w=Str.ofString "post"
 ·have n2:¬w=Str.ofString "fence" := fun z=>(d12▸(h1.symm.trans z):False)
  have n3:¬w=Str.ofString "sail" := fun z=>(d13▸(h1.symm.trans z):False)
  have n4:¬w=Str.ofString "cloth" := fun z=>(d14▸(h1.symm.trans z):False)
  have n5:¬w=Str.ofString "house" := fun z=>(d15▸(h1.symm.trans z):False)
  rw[decide_eq_true h1] at e1
  rw[decide_eq_false n2] at e2
  rw[decide_eq_false n3] at e3
  rw[decide_eq_false n4] at e4
  rw[decide_eq_false n5] at e5
  have hg:(if w=Str.ofString "post" then Ze xs else if w=Str.ofString "fence" then Zb xs else if w=Str.ofString "sail" then Z7 xs else if w=Str.ofString "cloth" then Zc xs else if w=Str.ofString "house" then Z7 xs else false)=Ze xs:=by rw[if_pos h1]
  have hc:(if w=Str.ofString "post" then "Post" else if w=Str.ofString "fence" then "Fence" else if w=Str.ofString "sail" then "Sail" else if w=Str.ofString "cloth" then "Cloth" else "House")= "Post" := by rw[if_pos h1]
  rw[hg,hc]
  cases q:Ze xs<;>rw[q] at p1<;>simp[cP,gO,cj,List.replicate,e1,e2,e3,e4,e5,hle,p1,i1]
 ·skip
  by_cases h2:w=Str.ofString "fence"
  ·have n1:=h1
   have n3:¬w=Str.ofString "sail" := fun z=>(d23▸(h2.symm.trans z):False)
   have n4:¬w=Str.ofString "cloth" := fun z=>(d24▸(h2.symm.trans z):False)
   have n5:¬w=Str.ofString "house" := fun z=>(d25▸(h2.symm.trans z):False)
   rw[decide_eq_true h2] at e2
   rw[decide_eq_false n1] at e1
   rw[decide_eq_false n3] at e3
   rw[decide_eq_false n4] at e4
   rw[decide_eq_false n5] at e5
   have hg:(if w=Str.ofString "post" then Ze xs else if w=Str.ofString "fence" then Zb xs else if w=Str.ofString "sail" then Z7 xs else if w=Str.ofString "cloth" then Zc xs else if w=Str.ofString "house" then Z7 xs else false)=Zb xs:=by rw[if_neg n1,if_pos h2]
   have hc:(if w=Str.ofString "post" then "Post" else if w=Str.ofString "fence" then "Fence" else if w=Str.ofString "sail" then "Sail" else if w=Str.ofString "cloth" then "Cloth" else "House")= "Fence" := by rw[if_neg n1,if_pos h2]
   rw[hg,hc]
   cases q:Zb xs<;>rw[q] at p2<;>simp[cP,gO,cj,List.replicate,e1,e2,e3,e4,e5,hle,p2,i2]
  ·skip
   by_cases h3:w=Str.ofString "sail"
   ·have n1:=h1
    have n2:=h2
    have n4:¬w=Str.ofString "cloth" := fun z=>(d34▸(h3.symm.trans z):False)
    have n5:¬w=Str.ofString "house" := fun z=>(d35▸(h3.symm.trans z):False)
    rw[decide_eq_true h3] at e3
    rw[decide_eq_false n1] at e1
    rw[decide_eq_false n2] at e2
    rw[decide_eq_false n4] at e4
    rw[decide_eq_false n5] at e5
    have hg:(if w=Str.ofString "post" then Ze xs else if w=Str.ofString "fence" then Zb xs else if w=Str.ofString "sail" then Z7 xs else if w=Str.ofString "cloth" then Zc xs else if w=Str.ofString "house" then Z7 xs else false)=Z7 xs:=by rw[if_neg n1,if_neg n2,if_pos h3]
    have hc:(if w=Str.ofString "post" then "Post" else if w=Str.ofString "fence" then "Fence" else if w=Str.ofString "sail" then "Sail" else if w=Str.ofString "cloth" then "Cloth" else "House")= "Sail" := by rw[if_neg n1,if_neg n2,if_pos h3]
    rw[hg,hc]
    cases q:Z7 xs<;>rw[q] at p3<;>simp[cP,gO,cj,List.replicate,e1,e2,e3,e4,e5,hle,p3,i3]
   ·skip
    by_cases h4:w=Str.ofString "cloth"
    ·have n1:=h1
     have n2:=h2
     have n3:=h3
     have n5:¬w=Str.ofString "house" := fun z=>(d45▸(h4.symm.trans z):False)
     rw[decide_eq_true h4] at e4
     rw[decide_eq_false n1] at e1
     rw[decide_eq_false n2] at e2
     rw[decide_eq_false n3] at e3
     rw[decide_eq_false n5] at e5
     have hg:(if w=Str.ofString "post" then Ze xs else if w=Str.ofString "fence" then Zb xs else if w=Str.ofString "sail" then Z7 xs else if w=Str.ofString "cloth" then Zc xs else if w=Str.ofString "house" then Z7 xs else false)=Zc xs:=by rw[if_neg n1,if_neg n2,if_neg n3,if_pos h4]
     have hc:(if w=Str.ofString "post" then "Post" else if w=Str.ofString "fence" then "Fence" else if w=Str.ofString "sail" then "Sail" else if w=Str.ofString "cloth" then "Cloth" else "House")= "Cloth" := by rw[if_neg n1,if_neg n2,if_neg n3,if_pos h4]
     rw[hg,hc]
     cases q:Zc xs<;>rw[q] at p4<;>simp[cP,gO,cj,List.replicate,e1,e2,e3,e4,e5,hle,p4,i4]
    ·skip
     by_cases h5:w=Str.ofString "house"
     ·have n1:=h1
      have n2:=h2
      have n3:=h3
      have n4:=h4
      rw[decide_eq_true h5] at e5
      rw[decide_eq_false n1] at e1
      rw[decide_eq_false n2] at e2
      rw[decide_eq_false n3] at e3
      rw[decide_eq_false n4] at e4
      have hg:(if w=Str.ofString "post" then Ze xs else if w=Str.ofString "fence" then Zb xs else if w=Str.ofString "sail" then Z7 xs else if w=Str.ofString "cloth" then Zc xs else if w=Str.ofString "house" then Z7 xs else false)=Z7 xs:=by rw[if_neg n1,if_neg n2,if_neg n3,if_neg n4,if_pos h5]
      have hc:(if w=Str.ofString "post" then "Post" else if w=Str.ofString "fence" then "Fence" else if w=Str.ofString "sail" then "Sail" else if w=Str.ofString "cloth" then "Cloth" else "House")= "House" := by rw[if_neg n1,if_neg n2,if_neg n3,if_neg n4]
      rw[hg,hc]
      cases q:Z7 xs<;>rw[q] at p3<;>simp[cP,gO,cj,List.replicate,e1,e2,e3,e4,e5,hle,p3,i5]
     ·skip
      rw[decide_eq_false h1] at e1
      rw[decide_eq_false h2] at e2
      rw[decide_eq_false h3] at e3
      rw[decide_eq_false h4] at e4
      rw[decide_eq_false h5] at e5
      rw[if_neg h1,if_neg h2,if_neg h3,if_neg h4,if_neg h5]
      simp[cP,gO,cj,List.replicate,e1,e2,e3,e4,e5]
abbrev P3:=yr
def c3(p:P3):PV:=.tup [.int p.1,.int p.2.1,.int p.2.2]
def Zt(x y u v z:Int):List P3:=[(x,y,z),(u,y,z),(u,v,z),(x,v,z)]
def ZM(x y u v h:Int):List P3:=Zt x y u v 0++Zt x y u v h
def Z3(C:String)(xs:List Int):List P3:=
 if C= "Post" then(match xs with
  | [p,q,h]=>ZM (2*p-1) (2*q-1) (2*p+1) (2*q+1) h
  |_=>[])
 else if C= "Fence" then(match xs with
  | [x,y,u,v,h]=>[(x,y,0),(u,v,0),(u,v,h),(x,y,h)]
  |_=>[])
 else if C= "Sail" then(match xs with
  | [x,y,u,v,h]=>Zt x y u v h
  |_=>[])
 else if C= "Cloth" then(match xs with
  | [a,b,c,d,e,f,g,h,i]=>[(a,b,c),(d,e,f),(g,h,i)]
  |_=>[])
 else(match xs with
  | [x,y,u,v,h]=>ZM x y u v h
  |_=>[])
def Z9(w:Str)(xs:List Int):List P3:=Z3 (Za w) xs
theorem ZG{C:String}(hC:(["Thing","Post","Fence","Sail","Cloth","House"]:List String).contains C=true)(w:Str)(xs:List Int):aK ["Thing","Post","Fence","Sail","Cloth","House"] (Str.ofString "numbers") (Z4 C w xs)=some (.lst (xs.map .int)):=by
 unfold aK Z4
 dsimp only
 rw[if_pos hC]
 have:(Str.ofString "numbers" == Str.ofString "word")=false:=by decide +kernel
 show List.lookup _ [(_,_),(_,_)]=_
 rw[List.lookup_cons,this]
 simp
theorem Z0j(x y u v z:Int):qG [.sh (.int x),.sh (.int y),.sh (.int u),.sh (.int v),.sh (.int z)]=.ret (.ow ((Zt x y u v z).map c3)):=by
 simp[qG,JT,List.replicate,Zt,c3]
theorem Z0k(x y u v h:Int):lQ [.sh (.int x),.sh (.int y),.sh (.int u),.sh (.int v),.sh (.int h)]=.ret (.ow ((ZM x y u v h).map c3)):=by
 simp[lQ,BP,List.replicate,Z0j,ZM,Zt,add_l]
theorem Z2c{xs:List Int}(h:Ze xs=true)(w:Str):lR [.sh (Z4 "Post" w xs)]=.ret (.ow ((Z3 "Post" xs).map c3)):=by
 match xs,h with
 | [p,q,h],hh=>
   simp[Ze,aV,zV] at hh
   have hf:=ZG (C:= "Post") (by decide) w [p,q,h]
   generalize Z4 "Post" w [p,q,h]=v at *
   have e:=Z0k (2*p-1) (2*q-1) (2*p+1) (2*q+1) h
   simp[lR,BR,List.replicate,hf,e,Z3]
theorem Z1N{xs:List Int}(h:Zb xs=true)(w:Str):lU [.sh (Z4 "Fence" w xs)]=.ret (.ow ((Z3 "Fence" xs).map c3)):=by
 match xs,h with
 | [x,y,u,v,h],hh=>
   have hf:=ZG (C:= "Fence") (by decide) w [x,y,u,v,h]
   generalize Z4 "Fence" w [x,y,u,v,h]=t at *
   simp[lU,BW,List.replicate,hf,Z3,c3,Ľ]
theorem Z2d{xs:List Int}(h:Z7 xs=true)(w:Str):lV [.sh (Z4 "Sail" w xs)]=.ret (.ow ((Z3 "Sail" xs).map c3)):=by
 match xs,h with
 | [x,y,u,v,h],hh=>
   have hf:=ZG (C:= "Sail") (by decide) w [x,y,u,v,h]
   generalize Z4 "Sail" w [x,y,u,v,h]=t at *
   have e:=Z0j x y u v h
   simp[lV,BX,List.replicate,hf,e,Z3]
theorem Z1O{xs:List Int}(h:Z7 xs=true)(w:Str):zJ [.sh (Z4 "House" w xs)]=.ret (.ow ((Z3 "House" xs).map c3)):=by
 match xs,h with
 | [x,y,u,v,h],hh=>
   have hf:=ZG (C:= "House") (by decide) w [x,y,u,v,h]
   generalize Z4 "House" w [x,y,u,v,h]=t at *
   have e:=Z0k x y u v h
   simp[zJ,JV,List.replicate,hf,e,Z3]
theorem Z1P{xs:List Int}(h:Zc xs=true)(w:Str):lW [.sh (Z4 "Cloth" w xs)]=.ret (.ow ((Z3 "Cloth" xs).map c3)):=by
 match xs,h with
 | [a,b,c,d,e,f,g,i,j],hh=>
   have hf:=ZG (C:= "Cloth") (by decide) w [a,b,c,d,e,f,g,i,j]
   generalize Z4 "Cloth" w [a,b,c,d,e,f,g,i,j]=t at *
   simp[lW,BZ,List.replicate,hf,Z3,c3,ŉ,Tn,cg]
   exact⟨rfl,rfl,rfl⟩
def cst(r p:P3):Hu.Pt:=(r.2.2*p.1+r.1*p.2.2,r.2.2*p.2.1+r.2.1*p.2.2)
def RB(r:P3):Prop:=-1000000≤r.1∧r.1≤1000000∧ -1000000≤r.2.1∧r.2.1≤1000000∧ -1000000≤r.2.2∧r.2.2≤1000000
def PB(p:P3):Prop:=-10000000000≤p.1∧p.1≤10000000000∧ -10000000000≤p.2.1∧p.2.1≤10000000000∧ -10000000000≤p.2.2∧p.2.2≤10000000000
theorem Z0F{r:P3}(hr:RB r)(p:P3):jc [.sh (c3 p),.sh (c3 r)]=.ret (.sh (pt (cst r p))):=by
 obtain⟨a1,a2,a3,a4,a5,a6⟩:=hr
 have m1:ř r.2.2 p.1=true:=bx (by omega) (by omega)
 have m2:ř r.2.2 p.2.1=true:=bx (by omega) (by omega)
 have m3:ř r.1 p.2.2=true:=bx (by omega) (by omega)
 have m4:ř r.2.1 p.2.2=true:=bx (by omega) (by omega)
 simp[jc,BL,List.replicate,pt,c3,cst,m1,m2,m3,m4]
theorem ZT{x y A B:Int}(h1: -A≤x)(h2:x≤A)(h3: -B≤y)(h4:y≤B): -(A*B)≤x*y∧x*y≤A*B:=by
 have hA:0≤A:=by omega
 have hB:0≤B:=by omega
 have e:(x*y).natAbs≤A.natAbs*B.natAbs:=by
  rw[Int.natAbs_mul]
  exact Nat.mul_le_mul (by omega) (by omega)
 have e2:((A*B).natAbs)=A.natAbs*B.natAbs:=Int.natAbs_mul A B
 have e3:0≤A*B:=Int.mul_nonneg hA hB
 omega
theorem Z0l{r p:P3}(hr:RB r)(hp:PB p):Sm (cst r p):=by
 obtain⟨a1,a2,a3,a4,a5,a6⟩:=hr
 obtain⟨b1,b2,b3,b4,b5,b6⟩:=hp
 have q1:=ZT a5 a6 b1 b2
 have q2:=ZT a5 a6 b3 b4
 have q3:=ZT a1 a2 b5 b6
 have q4:=ZT a3 a4 b5 b6
 simp only[Sm,cst]
 omega
theorem Z17{w:Str}{xs:List Int}(hg:Z5 w xs=true){mo:M PV}{ρ ρ1:List P.Slot}(ho:mo ρ=.ok (Z4 (Za w) w xs) ρ1):oO (Str.ofString "corners") [("Post",lR),("Fence",lU),("Sail",lV),("Cloth",lW),("House",zJ)] mo ď ρ=.ok (.ow ((Z9 w xs).map c3)) ρ1:=by
 have hn:(["word","numbers"]:List Str).contains (Str.ofString "corners")=false:=by decide +kernel
 have key:∀(C:String) (mf:MF),Za w=C→List.lookup C [("Post",lR),("Fence",lU),("Sail",lV),("Cloth",lW),("House",zJ)]=some mf→mf [.sh (Z4 C w xs)]=.ret (.ow ((Z3 C xs).map c3))→oO (Str.ofString "corners") [("Post",lR),("Fence",lU),("Sail",lV),("Cloth",lW),("House",zJ)] mo ď ρ=.ok (.ow ((Z9 w xs).map c3)) ρ1:=by
  intro C mf hC hl hf
  unfold Z9
  rw[hC] at ho ⊢
  unfold oO
  rw[ho]
  unfold Z4 at *
  simp only[Res.bind]
  rw[hl]
  dsimp only
  rw[if_neg (by rw[hn];decide)]
  simp only[ď,Res.bind]
  rw[hf]
 unfold Z5 at hg
 by_cases e1:w= "post"
 ·rw[if_pos e1] at hg
  exact key "Post" _ (by unfold Za;rw[if_pos e1]) rfl (Z2c hg w)
 rw[if_neg e1] at hg
 by_cases e2:w= "fence"
 ·rw[if_pos e2] at hg
  exact key "Fence" _ (by unfold Za;rw[if_neg e1,if_pos e2]) rfl (Z1N hg w)
 rw[if_neg e2] at hg
 by_cases e3:w= "sail"
 ·rw[if_pos e3] at hg
  exact key "Sail" _ (by unfold Za;rw[if_neg e1,if_neg e2,if_pos e3]) rfl (Z2d hg w)
 rw[if_neg e3] at hg
 by_cases e4:w= "cloth"
 ·rw[if_pos e4] at hg
  exact key "Cloth" _ (by unfold Za;rw[if_neg e1,if_neg e2,if_neg e3,if_pos e4]) rfl (Z1P hg w)
 rw[if_neg e4] at hg
 by_cases e5:w= "house"
 ·rw[if_pos e5] at hg
  exact key "House" _ (by unfold Za;rw[if_neg e1,if_neg e2,if_neg e3,if_neg e4]) rfl (Z1O hg w)
 ·rw[if_neg e5] at hg
  cases hg
theorem Z0P{r:P3}(hr:RB r){L:List P3}(hl:L.length≤100)(s1:P.Slot):ŉ (gN 1) ŋ (Ė (Ē jc (ą 1 (ą 0 ď)))) (L.map c3) [.sh (c3 r),s1] []=some ((L.map (cst r)).map pt):=by
 have:=ő (g:=gN 1) (mt:=ŋ) (me:=Ė (Ē jc (ą 1 (ą 0 ď)))) c3 (fun p=>pt (cst r p)) (fun ρ=>∃s,ρ=[.sh (c3 r),s]) L [.sh (c3 r),s1] [] ⟨_,rfl⟩ (by simp;omega) (by
  rintro p hp ρ ⟨s,rfl⟩
  have e:=Z0F hr p
  generalize c3 r=R at *
  generalize c3 p=Q at *
  exact⟨[R |> .sh,.sh Q],[.sh R,.sh Q],[.sh R,.sh Q],by simp,by simp,by simp[e],_,rfl⟩)
 rw[this]
 simp
theorem Z0m{w:Str}{xs:List Int}(hg:Z5 w xs=true)(hl:(Z9 w xs).length≤100){r:P3}(hr:RB r):jO [.sh (Z4 (Za w) w xs),.sh (c3 r)]=.ret (.ow (((Z9 w xs).map (cst r)).map pt)):=by
 have h1:=Z17 hg (mo:=Ģ 0) (ρ:= [.sh (Z4 (Za w) w xs),.sh (c3 r)]) (ρ1:=[.sh (Z4 (Za w) w xs),.sh (c3 r)]) (by simp)
 have h2:=Z0P hr hl
 generalize ((Z9 w xs).map (cst r)).map pt=Y at *
 generalize (Z9 w xs).map c3=Z at *
 generalize Z4 (Za w) w xs=v at *
 generalize c3 r=R at *
 simp[jO,B_,List.replicate,h1,h2,-Uh]
def wA(s:Hu.Pt):P3:=(2*s.1,2*s.2,0)
theorem Z0n{w:Str}{xs:List Int}(hg:Z5 w xs=true):(Z9 w xs).length≤8∧Z9 w xs≠[]∧∀p∈Z9 w xs,PB p:=by
 have hp:Ze xs=true→(Z3 "Post" xs).length≤8∧Z3 "Post" xs≠[]∧∀p∈Z3 "Post" xs,PB p:=by
  intro h
  match xs,h with
  | [a,b,c],h=>
    simp[Ze,aV,zV] at h
    simp[Z3,ZM,Zt,PB]
    omega
 have hf:Zb xs=true→(Z3 "Fence" xs).length≤8∧Z3 "Fence" xs≠[]∧∀p∈Z3 "Fence" xs,PB p:=by
  intro h
  match xs,h with
  | [a,b,c,d,e],h=>
    simp[Zb,Zf,aV,zV] at h
    simp[Z3,PB]
    omega
 have hs:Z7 xs=true→(Z3 "Sail" xs).length≤8∧Z3 "Sail" xs≠[]∧∀p∈Z3 "Sail" xs,PB p:=by
  intro h
  match xs,h with
  | [a,b,c,d,e],h=>
    simp[Z7,Zf,aV,zV] at h
    simp[Z3,Zt,PB]
    omega
 have hh:Z7 xs=true→(Z3 "House" xs).length≤8∧Z3 "House" xs≠[]∧∀p∈Z3 "House" xs,PB p:=by
  intro h
  match xs,h with
  | [a,b,c,d,e],h=>
    simp[Z7,Zf,aV,zV] at h
    simp[Z3,ZM,Zt,PB]
    omega
 have hc:Zc xs=true→(Z3 "Cloth" xs).length≤8∧Z3 "Cloth" xs≠[]∧∀p∈Z3 "Cloth" xs,PB p:=by
  intro h
  match xs,h with
  | [a,b,c,d,e,f,g,i,j],h=>
    simp[Zc,aV,zW] at h
    simp[Z3,PB]
    omega
 unfold Z5 at hg
 unfold Z9 Za
 by_cases e1:w= "post"
 ·rw[if_pos e1] at hg ⊢;exact hp hg
 rw[if_neg e1] at hg ⊢
 by_cases e2:w= "fence"
 ·rw[if_pos e2] at hg ⊢;exact hf hg
 rw[if_neg e2] at hg ⊢
 by_cases e3:w= "sail"
 ·rw[if_pos e3] at hg ⊢;exact hs hg
 rw[if_neg e3] at hg ⊢
 by_cases e4:w= "cloth"
 ·rw[if_pos e4] at hg ⊢;exact hc hg
 rw[if_neg e4] at hg ⊢
 by_cases e5:w= "house"
 ·rw[if_pos e5] at hg;exact hh hg
 ·rw[if_neg e5] at hg;cases hg
def shB(w:Str)(xs:List Int)(s:Hu.Pt)(r:P3):Bool:=(Hu.Zx ((Z9 w xs).map (cst r)) (cst r (wA s))).isNone
theorem Z18(b:Nat):Builtin.bitNot (b:Int)= -(b:Int)-1:=rfl
theorem Z19(a b:Nat):Builtin.bitOr a b=((a ||| b:Nat):Int):=by
 unfold Builtin.bitOr Builtin.bitAnd
 rw[Z18,Z18]
 have h1:decide (0≤ -(a:Int)-1)=false:=by simp;omega
 have h2:decide (0≤ -(b:Int)-1)=false:=by simp;omega
 rw[h1,h2]
 have e1:(Builtin.bitNot (-(a:Int)-1)).toNat=a:=by unfold Builtin.bitNot;omega
 have e2:(Builtin.bitNot (-(b:Int)-1)).toNat=b:=by unfold Builtin.bitNot;omega
 simp only[e1,e2]
 unfold Builtin.bitNot
 omega
theorem Z1Q(a k:Nat):(a:Int) / 2 ^ k=((a >>> k:Nat):Int):=by
 rw[Nat.shiftRight_eq_div_pow]
 simp
theorem Z1R(a k:Nat):(a:Int) / 2 ^ k % 2=if a.testBit k then 1 else 0:=by
 rw[Z1Q]
 have:(a >>> k) % 2=if a.testBit k then 1 else 0:=by
  rw[Nat.testBit]
  have h:1 &&& (a >>> k)=(a >>> k) % 2:=by rw[Nat.and_comm];exact Nat.and_one_is_mod _
  rw[h]
  have:(a >>> k) % 2=0∨(a >>> k) % 2=1:=by omega
  rcases this with e|e<;>simp[e]
 by_cases q:a.testBit k=true
 ·rw[if_pos q] at this ⊢;omega
 ·rw[if_neg q] at this ⊢;omega
theorem Z2u(a:Int):Builtin.bitAnd a 1=a % 2:=PyProof.Rows.bitAnd_m1 a
theorem Z1r(f l k:Nat)(h:f≤l):(2 ^ (l+1)-2 ^ f).testBit k=(decide (f≤k) && decide (k≤l)):=by
 have e:2 ^ (l+1)-2 ^ f=(2 ^ (l+1-f)-1)*2 ^ f:=by
  rw[Nat.sub_mul,←Nat.pow_add,Nat.one_mul]
  congr 2
  omega
 rw[e,Nat.testBit_mul_two_pow,Nat.testBit_two_pow_sub_one]
 by_cases h1:f≤k
 ·simp[h1]
  by_cases h2:k≤l
  ·simp[h2];omega
  ·simp[h2];omega
 ·simp[h1]
theorem Z0Q{a n:Nat}(h:∀k,n≤k→a.testBit k=false):a<2 ^ n:=Nat.lt_pow_two_of_testBit a h
theorem Z2e{k:Nat}(h:k≤1000000):oE 1 (k:Int)=true:=by unfold oE;simp;omega
theorem Z0G{f l:Int}{w:Nat}(hf:0≤f)(hl:l<w)(hw:w≤1000):∃B:Nat,jP [.sh (.int f),.sh (.int l)]=.ret (.sh (.int B))∧∀k:Nat,B.testBit k=(decide (f≤k) && decide ((k:Int)≤l)):=by
 by_cases h:l<f
 ·refine⟨0,by simp[jP,vC,List.replicate,h],fun k=>?_⟩
  by_cases h1:f≤k
  ·have h2:¬(k:Int)≤l:=by omega
   simp[h2]
  ·simp[h1]
 ·obtain⟨F,rfl⟩:=Int.eq_ofNat_of_zero_le hf
  obtain⟨L,rfl⟩:=Int.eq_ofNat_of_zero_le (by omega:0≤l)
  have e1:=Z2e (k:=L+1) (by omega)
  have e2:=Z2e (k:=F) (by omega)
  have hp:2 ^ F≤2 ^ (L+1):=Nat.pow_le_pow_right (by omega) (by omega)
  refine⟨2 ^ (L+1)-2 ^ F,?_,fun k=>?_⟩
  ·have t1:((L:Int)+1).toNat=L+1:=by omega
   have t2:((L:Int)+1)=((L+1:Nat):Int):=by omega
   simp only[Int.natCast_add,Int.cast_ofNat_Int] at e1
   have h':¬(L:Int)<F:=h
   simp[jP,vC,List.replicate,h',e1,e2,t1]
   rw[Int.natCast_sub hp]
   simp
  ·rw[Z1r F L k (by omega)]
   simp
def inR(L:List Hu.Ln)(u q k:Int):Prop:=∀l∈L,l.1*(u*k)+l.2.1*(u*q)≤l.2.2
theorem Z0H{a b k:Int}(hb:0<b):k≤a.fdiv b↔k*b≤a:=by
 rw[Int.fdiv_eq_ediv_of_nonneg _ (Int.le_of_lt hb)]
 exact Int.le_ediv_iff_mul_le hb
theorem Z0o{u q:Int}{w:Nat}(hu:0<u)(hu2:u≤10000000)(hq:0≤q)(hq2:q≤1000)(s0:P.Slot):∀(L:List Hu.Ln),(∀l∈L,Xj l)→∀(f la:Int) (s6 s7 s8 s9 zT:P.Slot),0≤f→la<w→
 (∃f' QX SQ Xl GD GF zQ,forL (gT 3 (Ħ (gN 6) (Ħ (gN 7) (Ħ (gN 8) Ŭ)))) dj (L.map cQ) [s0,.sh (.int u),.sh (.int q),.sh (.int w),.sh (.int f),.sh (.int la),s6,s7,s8,s9,zT]=.ok .nx [s0,.sh (.int u),.sh (.int q),.sh (.int w),.sh (.int f'),.sh (.int QX),SQ,Xl,GD,GF,zQ]∧0≤f'∧QX<w∧∀k:Int,(f'≤k∧k≤QX)↔(f≤k∧k≤la∧inR L u q k))∨
 (∃ρ',forL (gT 3 (Ħ (gN 6) (Ħ (gN 7) (Ħ (gN 8) Ŭ)))) dj (L.map cQ) [s0,.sh (.int u),.sh (.int q),.sh (.int w),.sh (.int f),.sh (.int la),s6,s7,s8,s9,zT]=.ok (.rt (.sh (.int 0))) ρ'∧∀k:Int,¬inR L u q k)
 | [],_,f,la,s6,s7,s8,s9,zT,h1,h2=>.inl ⟨f,la,s6,s7,s8,s9,zT,rfl,h1,h2,fun k=>by simp[inR]⟩
 |l::L,hS,f,la,s6,s7,s8,s9,zT,h1,h2=>by
  have hl:=hS l List.mem_cons_self
  have ih:=fun(f la:Int) (s6 s7 s8 s9 zT:P.Slot)=>Z0o (w:=w) hu hu2 hq hq2 s0 L (fun x hx=>hS x (List.mem_cons_of_mem _ hx)) f la s6 s7 s8 s9 zT
  have m1:ř l.1 u=true:=bx (by have:=hl.1;omega) (by have:=hl.2.1;omega)
  have m2:ř l.2.1 u=true:=bx (by have:=hl.2.2.1;omega) (by have:=hl.2.2.2;omega)
  have m3:ř (l.2.1*u) q=true:=mul_r (by omega) (by omega)
  have bs:=ZT hl.1 hl.2.1 (show -10000000≤u by omega) hu2
  obtain⟨st,hst⟩:∃st,l.1*u=st:=⟨_,rfl⟩
  obtain⟨ro,hro⟩:∃ro,l.2.2-l.2.1*u*q=ro:=⟨_,rfl⟩
  rw[hst] at bs
  have hin:∀k:Int,inR (l::L) u q k↔(k*st≤ro∧inR L u q k):=fun k=>by
   unfold inR
   rw[List.forall_mem_cons]
   have e:l.1*(u*k)=k*st:=by rw[←hst,←Int.mul_assoc,Int.mul_comm]
   have e2:l.2.1*(u*q)=l.2.1*u*q:=by rw[Int.mul_assoc]
   rw[e,e2]
   constructor
   ·rintro ⟨a,b⟩;exact⟨by omega,b⟩
   ·rintro ⟨a,b⟩;exact⟨by omega,b⟩
  have gg:gT 3 (Ħ (gN 6) (Ħ (gN 7) (Ħ (gN 8) Ŭ))) (cQ l) [s0,.sh (.int u),.sh (.int q),.sh (.int w),.sh (.int f),.sh (.int la),s6,s7,s8,s9,zT]=some [s0,.sh (.int u),.sh (.int q),.sh (.int w),.sh (.int f),.sh (.int la),.sh (.int l.1),.sh (.int l.2.1),.sh (.int l.2.2),s9,zT]:=by simp[cQ]
  rw[List.map_cons,forL,gg]
  dsimp only
  by_cases c1:0<st
  ·have d1:fG ro st=true:=xr (by omega) (Nat.le_trans (jJ (n:=200) (by omega) (by omega)) (by decide))
   have e:dj [s0,.sh (.int u),.sh (.int q),.sh (.int w),.sh (.int f),.sh (.int la),.sh (.int l.1),.sh (.int l.2.1),.sh (.int l.2.2),s9,zT]=.ok .nx [s0,.sh (.int u),.sh (.int q),.sh (.int w),.sh (.int f),.sh (.int (min la (ro.fdiv st))),.sh (.int l.1),.sh (.int l.2.1),.sh (.int l.2.2),.sh (.int st),.sh (.int ro)]:=by
    simp[dj,m1,m2,m3,hst,hro,c1,d1]
    split<;>omega
   rw[e]
   rcases ih f (min la (ro.fdiv st)) (.sh (.int l.1)) (.sh (.int l.2.1)) (.sh (.int l.2.2)) (.sh (.int st)) (.sh (.int ro)) h1 (by omega) with⟨f',QX,SQ,Xl,GD,GF,zQ,q1,q2,q3,q4⟩|⟨ρ',q1,q2⟩
   ·refine .inl ⟨f',QX,SQ,Xl,GD,GF,zQ,q1,q2,q3,fun k=>?_⟩
    rw[q4,hin]
    have:=Z0H (a:=ro) (k:=k) c1
    constructor
    ·rintro ⟨a,b,c⟩;exact⟨a,by omega,this.mp (by omega),c⟩
    ·rintro ⟨a,b,c,d⟩;exact⟨a,by have:=this.mpr c;omega,d⟩
   ·exact .inr ⟨ρ',q1,fun k=>by rw[hin];exact fun h=>q2 k h.2⟩
  ·by_cases c2:st<0
   ·have d1:fG ro (-st)=true:=xr (by omega) (Nat.le_trans (jJ (n:=200) (by omega) (by omega)) (by decide))
    have e:dj [s0,.sh (.int u),.sh (.int q),.sh (.int w),.sh (.int f),.sh (.int la),.sh (.int l.1),.sh (.int l.2.1),.sh (.int l.2.2),s9,zT]=.ok .nx [s0,.sh (.int u),.sh (.int q),.sh (.int w),.sh (.int (max f (-(ro.fdiv (-st))))),.sh (.int la),.sh (.int l.1),.sh (.int l.2.1),.sh (.int l.2.2),.sh (.int st),.sh (.int ro)]:=by
     simp[dj,m1,m2,m3,hst,hro,c1,c2,d1]
     split<;>omega
    rw[e]
    rcases ih (max f (-(ro.fdiv (-st)))) la (.sh (.int l.1)) (.sh (.int l.2.1)) (.sh (.int l.2.2)) (.sh (.int st)) (.sh (.int ro)) (by omega) h2 with⟨f',QX,SQ,Xl,GD,GF,zQ,q1,q2,q3,q4⟩|⟨ρ',q1,q2⟩
    ·refine .inl ⟨f',QX,SQ,Xl,GD,GF,zQ,q1,q2,q3,fun k=>?_⟩
     rw[q4,hin]
     have:=Z0H (a:=ro) (b:=-st) (k:=-k) (by omega)
     rw[Int.neg_mul_neg] at this
     constructor
     ·rintro ⟨a,b,c⟩;exact⟨by omega,b,this.mp (by omega),c⟩
     ·rintro ⟨a,b,c,d⟩;exact⟨by have:=this.mpr c;omega,b,d⟩
    ·exact .inr ⟨ρ',q1,fun k=>by rw[hin];exact fun h=>q2 k h.2⟩
   ·have c0:st=0:=by omega
    subst c0
    by_cases c3:ro<0
    ·refine .inr ⟨_,by simp[dj,m1,m2,m3,hst,hro,c3];rfl,fun k=>?_⟩
     rw[hin]
     rintro ⟨a,_⟩
     omega
    ·have e:dj [s0,.sh (.int u),.sh (.int q),.sh (.int w),.sh (.int f),.sh (.int la),.sh (.int l.1),.sh (.int l.2.1),.sh (.int l.2.2),s9,zT]=.ok .nx [s0,.sh (.int u),.sh (.int q),.sh (.int w),.sh (.int f),.sh (.int la),.sh (.int l.1),.sh (.int l.2.1),.sh (.int l.2.2),.sh (.int 0),.sh (.int ro)]:=by
      simp[dj,m1,m2,m3,hst,hro,c3]
     rw[e]
     rcases ih f la (.sh (.int l.1)) (.sh (.int l.2.1)) (.sh (.int l.2.2)) (.sh (.int 0)) (.sh (.int ro)) h1 h2 with⟨f',QX,SQ,Xl,GD,GF,zQ,q1,q2,q3,q4⟩|⟨ρ',q1,q2⟩
     ·refine .inl ⟨f',QX,SQ,Xl,GD,GF,zQ,q1,q2,q3,fun k=>?_⟩
      rw[q4,hin]
      constructor
      ·rintro ⟨a,b,c⟩;exact⟨a,b,by omega,c⟩
      ·rintro ⟨a,b,c,d⟩;exact⟨a,b,d⟩
     ·exact .inr ⟨ρ',q1,fun k=>by rw[hin];exact fun h=>q2 k h.2⟩
theorem Z2f{u q:Int}{w:Nat}(hu:0<u)(hu2:u≤10000000)(hq:0≤q)(hq2:q≤1000)(hw:w≤1000){L:List Hu.Ln}(hS:∀l∈L,Xj l){sl:P.Slot}(hs:Sl sl (L.map cQ)) :
 ∃B:Nat,pI [sl,.sh (.int u),.sh (.int q),.sh (.int w)]=.ret (.sh (.int B))∧∀k:Nat,B.testBit k=true↔(k<w∧inR L u q k):=by
 rcases Z0o (w:=w) hu hu2 hq hq2 sl L hS 0 (w-1) .no .no .no .no .no (by omega) (by omega) with⟨f',QX,SQ,Xl,GD,GF,zQ,q1,q2,q3,q4⟩|⟨ρ',q1,q2⟩
 ·obtain⟨B,b1,b2⟩:=Z0G (f:=f') (l:=QX) q2 q3 hw
  refine⟨B,by rcases hs with rfl|rfl<;>simp[pI,vD,List.replicate,q1,b1],fun k=>?_⟩
  rw[b2,Bool.and_eq_true,decide_eq_true_eq,decide_eq_true_eq,q4 k]
  constructor
  ·rintro ⟨a,b,c⟩;exact⟨by omega,c⟩
  ·rintro ⟨a,b⟩;exact⟨by omega,by omega,b⟩
 ·refine⟨0,by rcases hs with rfl|rfl<;>simp[pI,vD,List.replicate,q1],fun k=>?_⟩
  simp
  exact fun _=>q2 k
abbrev Th:=Jg Int
def jU(t:Th):PV:=Z4 (Za t.1) t.1 t.2
def fQ:Option P3→PV
 |none=>.non
 |some r=>c3 r
abbrev Dy:=UJ (Option P3)
def bK(d:Dy):PV:=.tup [.str d.1,.int d.2.1,.lst (d.2.2.map fQ)]
def Z0(w h:Int)(T:List Th)(D:List Dy):PV:=.ins "Yard" ["width","height","things","days"] [.int w,.int h,.lst (T.map jU),.lst (D.map bK)]
theorem ywh:(Str.ofString "width" =Str.ofString "height")=False:=eq_false (by decide +kernel)
theorem ywt:(Str.ofString "width" =Str.ofString "things")=False:=eq_false (by decide +kernel)
theorem ywd:(Str.ofString "width" =Str.ofString "days")=False:=eq_false (by decide +kernel)
theorem yht:(Str.ofString "height" =Str.ofString "things")=False:=eq_false (by decide +kernel)
theorem yhd:(Str.ofString "height" =Str.ofString "days")=False:=eq_false (by decide +kernel)
theorem ytd:(Str.ofString "things" =Str.ofString "days")=False:=eq_false (by decide +kernel)
theorem y_w(w h:Int)(T:List Th)(D:List Dy):aK ["Yard"] (Str.ofString "width") (Z0 w h T D)=some (.int w):=by
 unfold aK Z0
 simp
theorem y_h(w h:Int)(T:List Th)(D:List Dy):aK ["Yard"] (Str.ofString "height") (Z0 w h T D)=some (.int h):=by
 have:(Str.ofString "height" == Str.ofString "width")=false:=by decide +kernel
 unfold aK Z0
 simp[List.lookup_cons,this]
theorem y_t(w h:Int)(T:List Th)(D:List Dy):aK ["Yard"] (Str.ofString "things") (Z0 w h T D)=some (.lst (T.map jU)):=by
 have e1:(Str.ofString "things" == Str.ofString "width")=false:=by decide +kernel
 have e2:(Str.ofString "things" == Str.ofString "height")=false:=by decide +kernel
 unfold aK Z0
 simp[List.lookup_cons,e1,e2]
theorem y_d(w h:Int)(T:List Th)(D:List Dy):aK ["Yard"] (Str.ofString "days") (Z0 w h T D)=some (.lst (D.map bK)):=by
 have e1:(Str.ofString "days" == Str.ofString "width")=false:=by decide +kernel
 have e2:(Str.ofString "days" == Str.ofString "height")=false:=by decide +kernel
 have e3:(Str.ofString "days" == Str.ofString "things")=false:=by decide +kernel
 unfold aK Z0
 simp[List.lookup_cons,e1,e2,e3]
theorem Z1a(D:List Dy)(hD:D.length≤100000)(s0 s1 s2:P.Slot):ŉ (gT 3 (Ħ (gN 0) (Ħ (gN 1) (Ħ (gN 2) Ŭ)))) ŋ (Ś (Ą (Ģ 0) (Ą (Ģ 1) (Ą (Ė (nZ dX (Ą (Ā 2) Ĝ))) Ĝ)))) (D.map bK) [s0,s1,s2] []=some (D.map bK):=by
 have h:=ő (g:=gT 3 (Ħ (gN 0) (Ħ (gN 1) (Ħ (gN 2) Ŭ)))) (mt:=ŋ) (me:=Ś (Ą (Ģ 0) (Ą (Ģ 1) (Ą (Ė (nZ dX (Ą (Ā 2) Ĝ))) Ĝ)))) bK bK (fun ρ=>∃a b c,ρ=[a,b,c]) D [s0,s1,s2] [] ⟨_,_,_,rfl⟩ (by simp;omega) (by
  rintro d _ ρ ⟨a,b,c,rfl⟩
  refine⟨[.sh (.str d.1),.sh (.int d.2.1),.sh (.lst (d.2.2.map fQ))],[.sh (.str d.1),.sh (.int d.2.1),.sh (.lst (d.2.2.map fQ))],[.sh (.str d.1),.sh (.int d.2.1),.sh (.lst (d.2.2.map fQ))],by simp[bK],rfl,by simp[bK],_,_,_,rfl⟩)
 simpa using h
theorem Z1S(w h:Int){T:List Th}{D:List Dy}(hT:T.length≤100000)(hD:D.length≤100000){s3 s4:P.Slot}(h3:Sl s3 (T.map jU))(h4:Sl s4 (D.map bK)):jL [.sh (.int w),.sh (.int h),s3,s4]=.ok ["width","height","things","days"] [.int w,.int h,.lst (T.map jU),.lst (D.map bK)]:=by
 have c:=Z1a D hD .no .no .no
 generalize hx:T.map jU=tx at *
 generalize hy:D.map bK=dx at *
 rcases h3 with rfl|rfl<;>rcases h4 with rfl|rfl<;>simp[jL,cX,Br,iW,IR.of,List.replicate,putN,xu,ywh,ywt,ywd,yht,yhd,ytd,c]
theorem Z2g{k q w:Nat}(hw:0<w):(q*w≤k∧k-q*w<w)↔k / w=q:=by
 constructor
 ·rintro ⟨a,b⟩
  exact Nat.div_eq_of_lt_le a (by rw[Nat.add_mul];omega)
 ·rintro rfl
  have h1:=Nat.div_mul_le_self k w
  have h2:=Nat.mod_lt k hw
  have h3:=Nat.mod_eq_sub_div_mul (x:=k) (k:=w)
  omega
theorem Z2h{k q w:Nat}(h:k / w=q):k-q*w=k % w:=by
 subst h
 exact(Nat.mod_eq_sub_div_mul).symm
theorem Z1D{k w h:Nat}(hw:0<w):k / w<h↔k<w*h:=by
 rw[Nat.div_lt_iff_lt_mul hw,Nat.mul_comm]
def bZ(w k:Nat):Hu.Pt:=(((k % w:Nat):Int),((k / w:Nat):Int))
theorem Z1T{S:List Hu.Pt}{r:P3}{p q:Int}:inR (Hu.Zd S) (2*r.2.2) q p↔(Hu.Zx S (cst r (wA (p,q)))).isNone=true:=by
 have e:cst r (wA (p,q))=(2*r.2.2*p,2*r.2.2*q):=by
  unfold cst wA
  simp only[Int.mul_zero,Int.add_zero,Prod.mk.injEq]
  constructor<;>grind
 rw[e]
 unfold Hu.Zx inR Hu.hd
 rw[Option.isNone_iff_eq_none,List.find?_eq_none]
 simp
theorem ZP{α:Type}(y:α):∀(xs b:List α),y∈xs.foldl (fun b x=>x::b) b↔(y∈xs∨y∈b)
 | [],b=>by simp
 |x::xs,b=>by rw[List.foldl_cons,ZP y xs (x::b)];simp;grind
def zR(t:Th)(s:Hu.Pt)(r:P3):Bool:=shB t.1 t.2 s r
theorem Z1b{w h:Nat}(hw:0<w)(hw2:w≤60)(hh:h≤1000)(T:List Th)(Ds:List Dy){t:Th}(hg:Z5 t.1 t.2=true){r:P3}(hr:RB r)(hz:0<r.2.2) :
 ∃D:Nat,lX [.sh (Z0 w h T Ds),.sh (jU t),.sh (c3 r)]=.ret (.sh (.int D))∧∀k,D.testBit k=(decide (k<w*h) && zR t (bZ w k) r):=by
 obtain⟨g1,g2,g3⟩:=Z0n hg
 have hc:=Z0m hg (by omega) hr
 have hS:∀p∈(Z9 t.1 t.2).map (cst r),Sm p:=by
  intro p hp
  obtain⟨q,hq,rfl⟩:=List.mem_map.mp hp
  exact Z0l hr (g3 q hq)
 have hl:=Z0i (sl:=.sh (.lst (((Z9 t.1 t.2).map (cst r)).map pt))) (.inl rfl) hS (by simpa using g2) (by simp;omega)
 have hls:∀l∈Hu.Zd ((Z9 t.1 t.2).map (cst r)),Xj l:=fun l h=>Z16 h hS
 have yw:=y_w w h T Ds
 have yh:=y_h w h T Ds
 have hv:(2:Int)*r.2.2≤10000000:=by have:=hr.2.2.2.2.2;omega
 generalize hX:Hu.Zd ((Z9 t.1 t.2).map (cst r))=X at *
 generalize hY:Z0 w h T Ds=Y at *
 have hr2:ě (c3 r) (.int 2)=some (.int r.2.2):=by simp[c3]
 obtain⟨ρ',e1,D,s5,rfl,hD⟩:=cL (g:=gN 5) (mb:=vG) (fun(q:Nat)=>PV.int q) (fun(b:List Nat) (x:Nat)=>x::b) (fun b ρ=>∃(D:Nat) (s5:P.Slot),ρ=[.sh Y,.sh (jU t),.sh (c3 r),.ow (X.map cQ),.sh (.int D),s5]∧∀k,D.testBit k=true↔(k / w∈b∧zR t (bZ w k) r=true)) (List.range h) (by
  rintro q hq b ρ ⟨D,s5,rfl,hD⟩
  have hq:=List.mem_range.mp hq
  obtain⟨B,b1,b2⟩:=Z2f (u:=2*r.2.2) (q:=q) (w:=w) (by omega) hv (by omega) (by omega) (by omega) hls (sl:=.bw (X.map cQ)) (.inr rfl)
  have hB:B<2 ^ w:=Z0Q fun k hk=>by
   have:=b2 k
   cases e:B.testBit k with
   |false=>rfl
   |true=>have:=(this.mp e).1;omega
  have hB2:B<2 ^ 60:=Nat.lt_of_lt_of_le hB (Nat.pow_le_pow_right (by omega) hw2)
  have hqw:q*w≤1000*60:=Nat.mul_le_mul (by omega) hw2
  have so:oE (B:Int) ((q:Int)*(w:Int))=true:=by
   have:((q:Int)*(w:Int))=((q*w:Nat):Int):=by simp
   rw[this]
   unfold oE
   simp
   omega
  have mo:ř (q:Int) (w:Int)=true:=bx (by omega) (by omega)
  have tn:((q:Int)*(w:Int)).toNat=q*w:=by
   have:((q:Int)*(w:Int))=((q*w:Nat):Int):=by simp
   rw[this];rfl
  obtain⟨Z,hZ⟩:∃Z:Nat,Z=D ||| B*2 ^ (q*w):=⟨_,rfl⟩
  have oe:Builtin.bitOr (D:Int) ((B:Int)*2 ^ (q*w))=(Z:Int):=by
   have ee:(B:Int)*2 ^ (q*w)=((B*2 ^ (q*w):Nat):Int):=by simp
   rw[ee,Z19,hZ]
  have m2:ř 2 r.2.2=true:=bx (by omega) (by omega)
  generalize c3 r=R at *
  have st:vG [.sh Y,.sh (jU t),.sh R,.ow (X.map cQ),.sh (.int D),.sh (.int q)]=.ok .nx [.sh Y,.sh (jU t),.sh R,.ow (X.map cQ),.sh (.int Z),.sh (.int q)]:=by
   simp[vG,hr2,yw,m2,b1,mo,so,tn,oe]
  refine⟨_,_,rfl,st,_,_,rfl,fun k=>?_⟩
  rw[hZ,Nat.testBit_or,Bool.or_eq_true,hD,Nat.testBit_mul_two_pow,Bool.and_eq_true,decide_eq_true_eq,b2,List.mem_cons,←hX,Z1T]
  have key:∀(_:k / w=q),((Hu.Zx ((Z9 t.1 t.2).map (cst r)) (cst r (wA (((k-q*w:Nat):Int),(q:Int))))).isNone=true↔zR t (bZ w k) r=true):=by
   intro hk
   unfold zR shB bZ
   rw[Z2h hk,hk]
  have d:=Z2g (k:=k) (q:=q) hw
  constructor
  ·rintro (⟨a,b⟩|⟨a,b,c⟩)
   ·exact⟨.inr a,b⟩
   ·have:=d.mp ⟨a,b⟩
    exact⟨.inl this,(key this).mp c⟩
  ·rintro ⟨a|a,b⟩
   ·have:=d.mpr a
    exact .inr ⟨this.1,this.2,(key a).mpr b⟩
   ·exact .inl ⟨a,b⟩) [] [.sh Y,.sh (jU t),.sh (c3 r),.ow (X.map cQ),.sh (.int ((0:Nat):Int)),.no] ⟨0,.no,rfl,by simp⟩
 refine⟨D,?_,fun k=>?_⟩
 ·have rr:=Zs hh
  have hc':jO [.sh (jU t),.sh (c3 r)]=.ret (.ow (((Z9 t.1 t.2).map (cst r)).map pt)):=hc
  generalize c3 r=R at *
  generalize jU t=Tv at *
  simp[lX,Cd,List.replicate,hc',hl,yh,rr,-List.map_map] at e1 ⊢
  simp[e1]
 ·have:=hD k
  rw[ZP,List.mem_range,Z1D hw] at this
  rw[Bool.eq_iff_iff,this,Bool.and_eq_true,decide_eq_true_eq]
  simp
def Zo:Nat→(Nat→Bool)→Nat
 |0,_=>0
 |n+1,p=>Zo n p+if p n then 2 ^ n else 0
theorem ZQ(p:Nat→Bool):∀n,Zo n p<2 ^ n
 |0=>by simp[Zo]
 |n+1=>by
  have:=ZQ p n
  unfold Zo
  rw[Nat.pow_succ]
  split<;>omega
theorem Zv(p:Nat→Bool):∀n k,(Zo n p).testBit k=(decide (k<n) && p k)
 |0,k=>by simp[Zo]
 |n+1,k=>by
  have hl:=ZQ p n
  unfold Zo
  by_cases h:k<n
  ·have ih:=Zv p n k
   have h1:k<n+1:=by omega
   split
   ·rw[Nat.add_comm,Nat.testBit_two_pow_add_gt h,ih];simp[h,h1]
   ·rw[Nat.add_zero,ih];simp[h,h1]
  ·by_cases h2:k=n
   ·subst h2
    split
    ·rename_i q
     rw[Nat.add_comm,Nat.testBit_two_pow_add_eq,Nat.testBit_lt_two_pow hl];simp[q]
    ·rename_i q
     rw[Nat.add_zero,Nat.testBit_lt_two_pow hl];simp[q]
   ·have h3:¬k<n+1:=by omega
    have:Zo n p+(if p n=true then 2 ^ n else 0)<2 ^ k:=by
     refine Nat.lt_of_lt_of_le (ZQ p (n+1)) (Nat.pow_le_pow_right (by omega) (by omega))
    rw[Nat.testBit_lt_two_pow this]
    simp[h3]
theorem ZR{n:Nat}{p:Nat→Bool}{D:Nat}(h:∀k,D.testBit k=(decide (k<n) && p k)):D=Zo n p:=Nat.eq_of_testBit_eq fun k=>by rw[h,Zv]
def dk1(w h:Nat)(r:P3)(t:Th):Nat:=Zo (w*h) fun k=>zR t (bZ w k) r
def tW(w:Nat)(T:List Th):Option P3→Nat→Bool
 |none,_=>true
 |some r,k=>T.any fun t=>zR t (bZ w k) r
def Dj(w h:Nat)(T:List Th)(o:Option P3):Nat:=Zo (w*h) (tW w T o)
def Xm(o:Option P3):Prop:=match o with|none=>True|some r=>RB r∧0<r.2.2
theorem Z0R{w h:Nat}(hw:0<w)(hw2:w≤60)(hh:h≤1000)(T:List Th)(Ds:List Dy){t:Th}(hg:Z5 t.1 t.2=true){r:P3}(hr:RB r)(hz:0<r.2.2) :
 lX [.sh (Z0 w h T Ds),.sh (jU t),.sh (c3 r)]=.ret (.sh (.int (dk1 w h r t))):=by
 obtain⟨D,h1,h2⟩:=Z1b hw hw2 hh T Ds hg hr hz
 rw[h1,ZR h2]
 rfl
theorem Z1s{w h:Nat}(hw:0<w)(hw2:w≤60)(hh:h≤1000){T:List Th}(hT:T.length≤1000)(Ds:List Dy)(hg:∀t∈T,Z5 t.1 t.2=true){r:P3}(hr:RB r)(hz:0<r.2.2) :
 Gk [.sh (Z0 w h T Ds),.sh (c3 r)]=.ret (.ow (T.map fun t=>.int (dk1 w h r t))):=by
 have yt:=y_t w h T Ds
 have hc:=ő (g:=gN 2) (mt:=ŋ) (me:=Ė (Ē lX (ą 0 (ą 2 (ą 1 ď))))) jU (fun t=>.int (dk1 w h r t)) (fun ρ=>∃s,ρ=[.sh (Z0 w h T Ds),.sh (c3 r),s]) T [.sh (Z0 w h T Ds),.sh (c3 r),.no] [] ⟨_,rfl⟩ (by simp;omega) (by
  rintro t ht ρ ⟨s,rfl⟩
  have e:=Z0R hw hw2 hh T Ds (hg t ht) hr hz
  generalize Z0 w h T Ds=Y at *
  generalize c3 r=R at *
  generalize jU t=Tv at *
  refine⟨_,_,_,rfl,rfl,by simp[e];rfl,_,rfl⟩)
 generalize Z0 w h T Ds=Y at *
 generalize c3 r=R at *
 simp[Gk,JW,List.replicate,yt]
 simp at hc
 simp[hc]
theorem Z1U{w h:Nat}(hw:0<w)(hw2:w≤60)(hh:h≤1000)(hwh:w*h≤1000){T:List Th}(hT:T.length≤1000)(Ds:List Dy)(hg:∀t∈T,Z5 t.1 t.2=true){o:Option P3}(ho:Xm o) :
 fM [.sh (Z0 w h T Ds),.sh (fQ o)]=.ret (.sh (.int (Dj w h T o))):=by
 have yw:=y_w w h T Ds
 have yh:=y_h w h T Ds
 have mo:ř (w:Int) (h:Int)=true:=bx (by omega) (by omega)
 cases o with
 |none=>
  obtain⟨B,b1,b2⟩:=Z0G (f:=0) (l:=(w:Int)*h-1) (w:=w*h) (by omega) (by rw[Int.natCast_mul];omega) hwh
  have:B=Dj w h T none:=ZR fun k=>by
   rw[b2]
   simp[tW]
   have:((w*h:Nat):Int)=(w:Int)*h:=by simp
   omega
  subst this
  generalize Z0 w h T Ds=Y at *
  simp[fM,vH,List.replicate,fQ,yw,yh,mo,b1,wZ]
 |some r=>
  have ho:RB r∧0<r.2.2:=ho
  have hd:=Z1s hw hw2 hh hT Ds hg ho.1 ho.2
  obtain⟨ρ',e1,D,s3,rfl,hD⟩:=cL (g:=gN 3) (mb:=Ce) (fun(t:Th)=>PV.int (dk1 w h r t)) (fun(b:List Th) (x:Th)=>x::b) (fun b ρ=>∃(D:Nat) (s3:P.Slot),ρ=[.sh (Z0 w h T Ds),.sh (c3 r),.sh (.int D),s3]∧∀k,D.testBit k=true↔(k<w*h∧∃t∈b,zR t (bZ w k) r=true)) T (by
   rintro t ht b ρ ⟨D,s3,rfl,hD⟩
   refine⟨_,_,rfl,by simp[Ce,Z19];exact⟨rfl,rfl⟩,_,_,rfl,fun k=>?_⟩
   rw[Nat.testBit_or,Bool.or_eq_true,hD,dk1,Zv,Bool.and_eq_true,decide_eq_true_eq]
   simp
   grind) [] [.sh (Z0 w h T Ds),.sh (c3 r),.sh (.int ((0:Nat):Int)),.no] ⟨0,.no,rfl,by simp⟩
  have:D=Dj w h T (some r):=ZR fun k=>by
   have:=hD k
   rw[Bool.eq_iff_iff,this]
   simp only[ZP,tW,List.not_mem_nil,or_false,Bool.and_eq_true,decide_eq_true_eq,List.any_eq_true]
  subst this
  have hn:qC (c3 r) .non=some (.bl false):=by simp[c3,wZ]
  generalize Z0 w h T Ds=Y at *
  show fM [.sh Y,.sh (c3 r)]=_
  simp at e1
  generalize c3 r=R at *
  have hn:wZ R=false:=by simpa using hn
  simp[fM,vH,List.replicate,hd,hn,e1]
theorem ZH(ns:List Int)(k:Nat):Ű [.sh (.lst (ns.map .int)),.sh (.int k)]=.ret (.sh (.int (ns.getD k 0))):=by
 by_cases h:k<ns.length
 ·have h':(k:Int)<(ns.length:Int):=by omega
  simp[Ű,uX,List.replicate,h',List.getElem?_eq_getElem h]
 ·have h':¬(k:Int)<(ns.length:Int):=by omega
  simp[Ű,uX,List.replicate,h',List.getElem?_eq_none (Nat.le_of_not_lt h)]
@[simp] theorem ZU(ns:List Int)(k:Nat):Ű [.sh (.lst (ns.map .int)),.sh (.int (no_index (OfNat.ofNat k)))]=.ret (.sh (.int (ns.getD k 0))):=ZH ns k
def Gr(x:Int):Prop:=0≤x∧x<524288
theorem Zq(c:Int)(s1:P.Slot):∀(ks:List Nat) (acc:List Int) (n:Int) (s4:P.Slot),acc.length+ks.length≤100000→(∀k∈ks,k≤100000)→(∀x∈acc,Gr x)→∃(acc':List Int) (n':Int) (Rh:P.Slot),forL (gN 4) lq (ks.map fun(i:Nat)=>PV.int (i:Int)) [.sh (.int c),s1,.ow (acc.map .int),.sh (.int n),s4]=.ok .nx [.sh (.int c),s1,.ow (acc'.map .int),.sh (.int n'),Rh]∧acc'.length=acc.length+ks.length∧∀x∈acc',Gr x
 | [],acc,n,s4,_,_,h=>⟨acc,n,s4,rfl,rfl,h⟩
 |k::ks,acc,n,s4,hl,hk,h=>by
  have hk0:=hk k List.mem_cons_self
  have hl0:acc.length<16777216:=by simp at hl;omega
  rw[List.map_cons,forL]
  have hg:gN 4 (PV.int (k:Int)) [.sh (.int c),s1,.ow (acc.map .int),.sh (.int n),s4]=some [.sh (.int c),s1,.ow (acc.map .int),.sh (.int n),.sh (.int k)]:=rfl
  rw[hg]
  dsimp only
  by_cases h0:c % 2=0
  ·have e:lq [.sh (.int c),s1,.ow (acc.map .int),.sh (.int n),.sh (.int k)]=.ok .nx [.sh (.int c),s1,.ow ((acc ++ [n % 524287]).map .int),.sh (.int (n / 524287)),.sh (.int k)]:=by
    simp[lq,h0,hl0]
   rw[e]
   obtain⟨a,b,d,q1,q2,q3⟩:=Zq c s1 ks (acc ++ [n % 524287]) (n / 524287) (.sh (.int k)) (by simp at hl ⊢;omega) (fun x hx=>hk x (List.mem_cons_of_mem _ hx)) (by
    intro x hx
    rcases List.mem_append.mp hx with hx|hx
    ·exact h x hx
    ·rw[List.mem_singleton.mp hx];unfold Gr;omega)
   exact⟨a,b,d,q1,by simp at q2 ⊢;omega,q3⟩
  ·obtain⟨m,hm⟩:∃m,(n*49157+24593+2*(k:Int)) % 8388593=m:=⟨_,rfl⟩
   have e:lq [.sh (.int c),s1,.ow (acc.map .int),.sh (.int n),.sh (.int k)]=.ok .nx [.sh (.int c),s1,.ow ((acc ++ [m / 16]).map .int),.sh (.int m),.sh (.int k)]:=by
    simp[lq,h0,hl0,hm]
   rw[e]
   obtain⟨a,b,d,q1,q2,q3⟩:=Zq c s1 ks (acc ++ [m / 16]) m (.sh (.int k)) (by simp at hl ⊢;omega) (fun x hx=>hk x (List.mem_cons_of_mem _ hx)) (by
    intro x hx
    rcases List.mem_append.mp hx with hx|hx
    ·exact h x hx
    ·rw[List.mem_singleton.mp hx];unfold Gr;omega)
   exact⟨a,b,d,q1,by simp at q2 ⊢;omega,q3⟩
theorem Z05(c:Int){n:Nat}(hn:n≤1000):∃xs:List Int,iZ [.sh (.int c),.sh (.int n)]=.ret (.ow (xs.map .int))∧xs.length=n∧∀x∈xs,Gr x:=by
 have rr:=Zs hn
 by_cases h:c % 2=1
 ·obtain⟨a,b,d,q1,q2,q3⟩:=Zq c (.sh (.int n)) (List.range n) [] (c / 2 % 8388593) .no (by simp;omega) (fun k hk=>by have:=List.mem_range.mp hk;omega) (by simp)
  refine⟨a,?_,by simpa using q2,q3⟩
  simp at q1
  simp[iZ,uY,List.replicate,h,rr,q1]
 ·obtain⟨a,b,d,q1,q2,q3⟩:=Zq c (.sh (.int n)) (List.range n) [] (c / 2) .no (by simp;omega) (fun k hk=>by have:=List.mem_range.mp hk;omega) (by simp)
  refine⟨a,?_,by simpa using q2,q3⟩
  simp at q1
  simp[iZ,uY,List.replicate,h,rr,q1]
def Pl(x:Int):Prop:=-1000000000+50≤x∧x≤1000000000-50
theorem Zj(n:Int){w:Int}(h1:1≤w)(h2:w≤1000):∃x:Int,cu [.sh (.int n),.sh (.int w)]=.ret (.sh (.int x))∧Pl x:=by
 by_cases h:n / 512 % 16=5
 ·exact⟨n*3813 % 1999999901-1000000000+50,by simp[cu,vf,List.replicate,h],by unfold Pl;omega⟩
 ·have m0:¬(2*w+9=0):=by omega
  have p:=Int.emod_nonneg n (show(2*w+9)≠0 by omega)
  have q:=Int.emod_lt_of_pos n (show 0<(2*w+9) by omega)
  have e:n.fmod (2*w+9)=n % (2*w+9):=Int.fmod_eq_emod_of_nonneg n (by omega)
  exact⟨n % (2*w+9)-4,by simp[cu,vf,List.replicate,h,m0,e],by unfold Pl;omega⟩
theorem ZV(n:Int):∃x:Int,jM [.sh (.int n)]=.ret (.sh (.int x))∧1≤x∧x≤1000000000:=by
 by_cases h:n / 512 % 12=7
 ·exact⟨1+n*1907 % 1000000000,by simp[jM,vd,List.replicate,h],by omega,by omega⟩
 ·exact⟨1+n % 9,by simp[jM,vd,List.replicate,h],by omega,by omega⟩
theorem Z1c{x y h:Int}(a:Pl x)(b:Pl y)(c:1≤h∧h≤1000000000):Z5 "post" [x / 2,y / 2,h]=true:=by
 unfold Pl at a b
 unfold Z5 Ze aV zV
 simp
 omega
theorem Ri{a b:String}(h:decide (Str.ofString a=Str.ofString b)=false):¬(Str.ofString a=Str.ofString b):=of_decide_eq_false h
theorem Z0S{x y u v h:Int}(a:Pl x)(b:Pl y)(hu: -4≤u∧u≤4)(hv: -4≤v∧v≤4)(c:1≤h∧h≤1000000000)(e:Int)(he:e=if u=0∧v=0 then 1 else 0):Z5 "fence" [x,y,x+u+e,y+v,h]=true:=by
 have h1:¬(Str.ofString "fence" =Str.ofString "post"):=Ri (by decide +kernel)
 unfold Pl at a b
 unfold Z5
 rw[if_neg h1,if_pos rfl]
 unfold Zb Zf aV zV
 simp
 split at he<;>omega
theorem Z0p{w:Str}(hw:w= "sail" ∨w= "house"){x y u v h:Int}(a:Pl x)(b:Pl y)(hu:0≤u∧u≤8)(hv:0≤v∧v≤8)(c:1≤h∧h≤1000000000):Z5 w [x,y,x+1+u,y+1+v,h]=true:=by
 have hb:Z7 [x,y,x+1+u,y+1+v,h]=true:=by
  unfold Pl at a b
  unfold Z7 Zf aV zV
  simp
  omega
 unfold Z5
 rcases hw with rfl|rfl
 ·rw[if_neg (Ri (by decide +kernel)),if_neg (Ri (by decide +kernel)),if_pos rfl]
  exact hb
 ·rw[if_neg (Ri (by decide +kernel)),if_neg (Ri (by decide +kernel)),if_neg (Ri (by decide +kernel)),if_neg (Ri (by decide +kernel)),if_pos rfl]
  exact hb
theorem Z0T{x y z a b c d e f:Int}(h1:Pl x)(h2:Pl y)(h3:0≤z∧z≤1000000000)(h4:Pl a)(h5:Pl b)(h6:1≤c∧c≤1000000000)(h7:Pl d)(h8:Pl e)(h9:1≤f∧f≤1000000000):Z5 "cloth" [x,y,z,a,b,c,d,e,f]=true:=by
 unfold Z5
 rw[if_neg (Ri (by decide +kernel)),if_neg (Ri (by decide +kernel)),if_neg (Ri (by decide +kernel)),if_pos rfl]
 unfold Pl at *
 unfold Zc aV zW
 simp
 omega
theorem Z2v:∀(xs:List Int),xs.length=14→∃a b c d e f g h i j k l m n,xs=[a,b,c,d,e,f,g,h,i,j,k,l,m,n]
 | [a,b,c,d,e,f,g,h,i,j,k,l,m,n],_=>⟨a,b,c,d,e,f,g,h,i,j,k,l,m,n,rfl⟩
theorem Z2w(x y:Hu.Pt):aG (pt x) (pt y)=some (.bl (decide (x=y))):=by
 unfold aG qy
 rw[ZL,ZL,ZE,ZE,Z0e]
 rfl
theorem Z0q:aA [.int 2]=some [.int 0,.int 1]:=by rfl
theorem Z1d(c:Int){w:Int}(hw1:1≤w)(hw2:w≤1000):∃t:Th,dZ [.sh (.int c),.sh (.int w)]=.ret (.sh (.tup [.str t.1,.lst (t.2.map .int)]))∧Z5 t.1 t.2=true:=by
 obtain⟨xs,eg,hl,hx⟩:=Z05 c (n:=14) (by omega)
 obtain⟨x0,x1,x2,x3,x4,x5,x6,x7,x8,x9,x10,x11,x12,x13,rfl⟩:=Z2v xs hl
 clear hl hx
 obtain⟨p0,e0,q0⟩:=Zj x0 hw1 hw2
 obtain⟨p1,e1,q1⟩:=Zj x1 hw1 hw2
 obtain⟨z,ez,qz⟩:=ZV x2
 have eg':iZ [.sh (.int c),.sh (.int 14)]=.ret (.ow [.int x0,.int x1,.int x2,.int x3,.int x4,.int x5,.int x6,.int x7,.int x8,.int x9,.int x10,.int x11,.int x12,.int x13]):=eg
 clear eg
 have hc:ŉ (gN 2) ŋ (Ė (Ē cu (ė (Ĉ ě (Ā 1) (Ā 2)) (ą 0 ď)))) [PV.int 0,PV.int 1] [.sh (.int w),.bw [.int x0,.int x1,.int x2,.int x3,.int x4,.int x5,.int x6,.int x7,.int x8,.int x9,.int x10,.int x11,.int x12,.int x13],.no] []=some [.int p0,.int p1]:=by
  simp[ŉ,e0,e1]
 have k:0≤x3 % 5∧x3 % 5<5:=by omega
 obtain⟨kd,hkd⟩:∃kd,x3 % 5=kd:=⟨_,rfl⟩
 rw[hkd] at k
 by_cases k0:kd=0
 ·refine⟨("post",[p0 / 2,p1 / 2,z]),?_,Z1c q0 q1 qz⟩
  simp[dZ,jo,List.replicate,eg',Z0q,hc,ez,hkd,k0]
 ·by_cases k1:kd=1
  ·refine⟨("fence",[p0,p1,p0+(x4 % 9-4)+(if x4 % 9-4=0∧x5 % 9-4=0 then 1 else 0),p1+(x5 % 9-4),z]),?_,Z0S q0 q1 (by omega) (by omega) qz _ rfl⟩
   have hq:=Z2w (p0,p1) (p0+x4 % 9-4,p1+x5 % 9-4)
   unfold pt at hq
   dsimp only at hq
   have hi:(if x4 % 9-4=0∧x5 % 9-4=0 then(1:Int) else 0)=if decide ((p0,p1)=(p0+x4 % 9-4,p1+x5 % 9-4))=true then 1 else 0:=by
    simp only[decide_eq_true_eq,Prod.mk.injEq]
    split<;>split<;>omega
   generalize decide ((p0,p1)=(p0+x4 % 9-4,p1+x5 % 9-4))=bb at *
   have a1:p0+(x4 % 9-4)=p0+x4 % 9-4:=by omega
   have a2:p1+(x5 % 9-4)=p1+x5 % 9-4:=by omega
   rw[a1,a2,hi]
   cases bb<;>simp[dZ,jo,List.replicate,eg',Z0q,hc,ez,hkd,k1,hq]
  ·by_cases k2:kd=2
   ·obtain⟨p7,e7,q7⟩:=Zj x7 hw1 hw2
    obtain⟨p8,e8,q8⟩:=Zj x8 hw1 hw2
    obtain⟨p9,e9,q9⟩:=Zj x9 hw1 hw2
    obtain⟨p10,e10,q10⟩:=Zj x10 hw1 hw2
    obtain⟨z2,ez2,qz2⟩:=ZV x11
    refine⟨("cloth",[p0,p1,x6 % 10,p7,p8,z,p9,p10,z2]),?_,Z0T q0 q1 (by omega) q7 q8 qz q9 q10 qz2⟩
    simp[dZ,jo,List.replicate,eg',Z0q,hc,ez,hkd,k2,e7,e8,e9,e10,ez2,add_l]
   ·by_cases k3:kd=3
    ·refine⟨("sail",[p0,p1,p0+1+x4 % 8,p1+1+x5 % 8,z]),?_,Z0p (.inl rfl) q0 q1 (by omega) (by omega) qz⟩
     simp[dZ,jo,List.replicate,eg',Z0q,hc,ez,hkd,k3]
    ·have k4:kd=4:=by omega
     refine⟨("house",[p0,p1,p0+1+x4 % 8,p1+1+x5 % 8,z]),?_,Z0p (.inr rfl) q0 q1 (by omega) (by omega) qz⟩
     simp[dZ,jo,List.replicate,eg',Z0q,hc,ez,hkd,k4]
theorem Z1V{α:Type}(xs:List α)(a b:Nat)(h1:a≤b)(h2:b≤xs.length):cg xs (some (a:Int)) (some (b:Int))=(xs.drop a).take (b-a):=by
 unfold cg
 rw[HT.nC,HT.nC,Nat.min_eq_left h2,Nat.min_eq_left (Nat.le_trans h1 h2)]
theorem Z2E:∀(xs:List Int),xs.length=5→∃a b c d e,xs=[a,b,c,d,e]
 | [a,b,c,d,e],_=>⟨a,b,c,d,e,rfl⟩
theorem Z2i{xs:List Int}(h:xs.length=5):∃o:Option P3,jK [.sh (.lst (xs.map .int))]=.ret (.sh (fQ o))∧Xm o:=by
 obtain⟨a,b,c,d,e,rfl⟩:=Z2E xs h
 by_cases he:e % 6=4
 ·exact⟨none,by simp[jK,uZ,List.replicate,he,fQ],trivial⟩
 ·have a1:0≤a % 13∧a % 13<13:=by omega
  have b1:0≤b % 13∧b % 13<13:=by omega
  have c1:0≤c % 5∧c % 5<5:=by omega
  have go:∀s:Int,(s=1∨s=3∨s=100000)→ě (.lst [.int 1,.int 1,.int 3,.int 100000]) (.int (d % 4))=some (.int s)→∃o:Option P3,jK [.sh (.lst ([a,b,c,d,e].map .int))]=.ret (.sh (fQ o))∧Xm o:=by
   intro s hs hx
   have m1:∀x:Int,ř x s=true:=fun x=>mul_r (by omega) (by omega)
   refine⟨some ((a % 13-6)*s,(b % 13-6)*s,(1+c % 5)*s),?_,?_⟩
   ·simp[jK,uZ,List.replicate,he,fQ,hx,m1,c3]
   ·rcases hs with rfl|rfl|rfl<;>refine⟨⟨?_,?_,?_,?_,?_,?_⟩,?_⟩<;>dsimp only<;>omega
  have hd:d % 4=0∨d % 4=1∨d % 4=2∨d % 4=3:=by omega
  rcases hd with hd|hd|hd|hd
  ·exact go 1 (by omega) (by rw[hd];rfl)
  ·exact go 1 (by omega) (by rw[hd];rfl)
  ·exact go 3 (by omega) (by rw[hd];rfl)
  ·exact go 100000 (by omega) (by rw[hd];rfl)
theorem Z1t(t:Int)(h:0≤t)(h2:t<12)(N:List Str)(hN:N.length=12):∃L:List Str,Ľ (.lst (cg (N.map PV.str) (some t) none)) (.lst (cg (N.map PV.str) none (some t)))=some (.ow (L.map .str))∧L.length=12:=by
 obtain⟨k,rfl⟩:=Int.eq_ofNat_of_zero_le h
 have e1:cg (N.map PV.str) (some (k:Int)) none=(N.drop k).map PV.str:=by
  unfold cg
  rw[HT.nC,List.length_map,Nat.min_eq_left (by omega)]
  show List.take (N.length-k) _=_
  rw[←List.map_drop]
  exact List.take_of_length_le (by simp)
 have e2:cg (N.map PV.str) none (some (k:Int))=(N.take k).map PV.str:=by
  unfold cg
  rw[HT.nC,List.length_map,Nat.min_eq_left (by omega)]
  show List.take (k-0) (List.drop 0 _)=_
  simp[List.map_take]
 rw[e1,e2,add_l (by simp;omega)]
 exact⟨N.drop k++N.take k,by simp,by simp;omega⟩
def Zp(lg:Nat)(d:Dy):Prop:=(1≤d.2.1∧d.2.1≤1000000000)∧d.2.2.length≤lg∧∀o∈d.2.2,Xm o
theorem sl5{xs:List Int}{n lg j:Nat}(hl:xs.length=5*lg+2)(hj:j<lg):∃ys:List Int,cg (xs.map PV.int) (some (2+5*(j:Int))) (some (7+5*(j:Int)))=ys.map .int∧ys.length=5:=by
 refine⟨(xs.drop (2+5*j)).take 5,?_,by simp;omega⟩
 have:=Z1V (xs.map PV.int) (2+5*j) (7+5*j) (by omega) (by simp;omega)
 have e1:((2+5*j:Nat):Int)=2+5*(j:Int):=by omega
 have e2:((7+5*j:Nat):Int)=7+5*(j:Int):=by omega
 rw[e1,e2] at this
 rw[this,List.map_take,List.map_drop]
 congr 1
 omega
theorem Z0r{xs:List Int}{lg:Nat}(hl:xs.length=5*lg+2)(qJ:lg≤100):∀(js:List Nat),(∀j∈js,j<lg)→∀(acc:List PV) (s1:P.Slot),acc.length+js.length≤1000→∃os:List (Option P3),ŉ (gN 1) ŋ (Ė (Ē jK (ė (Ė (Ba (Ā 0) (mP (Ė (ł Ľ (mC (.int 2)) (Ĉ į (mC (.int 5)) (Ā 1))))) (mP (Ė (ł Ľ (mC (.int 7)) (Ĉ į (mC (.int 5)) (Ā 1))))))) ď))) (js.map fun(i:Nat)=>PV.int (i:Int)) [.bw (xs.map .int),s1] acc=some (acc++os.map fQ)∧os.length=js.length∧∀o∈os,Xm o
 | [],_,acc,s1,_=>⟨[],by simp[ŉ],rfl,by simp⟩
 |j::js,hj,acc,s1,ha=>by
  obtain⟨ys,e1,e2⟩:=sl5 (n:=0) hl (hj j List.mem_cons_self)
  obtain⟨o,e3,e4⟩:=Z2i e2
  obtain⟨os,q1,q2,q3⟩:=Z0r hl qJ js (fun x hx=>hj x (List.mem_cons_of_mem _ hx)) (acc ++ [fQ o]) (.sh (.int j)) (by simp at ha ⊢;omega)
  refine⟨o::os,?_,by simp[q2],?_⟩
  ·have hz:acc.length<16777216:=by simp at ha;omega
   generalize xs.map PV.int=X at *
   generalize ys.map PV.int=Y at *
   rw[List.map_cons,ŉ]
   simp[Tn,e1,e3,hz]
   simpa using q1
  ·intro x hx
   rcases List.mem_cons.mp hx with rfl|hx
   ·exact e4
   ·exact q3 x hx
theorem Z1u(ns:List Int){k lg:Nat}(hk:k<12)(qJ:lg≤100)(hl0:0<lg){L:List Str}(hL:L.length=12)(s2 s5 s8 s9:P.Slot)(D:List Dy)(hD:D.length≤12) :
 ∃(d:Dy) (GD GF:P.Slot),u_ [.sh (.lst (ns.map .int)),.sh (.int 6),s2,.sh (.int lg),.ow (L.map .str),s5,.ow (D.map bK),.sh (.int k),s8,s9]=.ok .nx [.sh (.lst (ns.map .int)),.sh (.int 6),s2,.sh (.int lg),.ow (L.map .str),s5,.ow ((D ++ [d]).map bK),.sh (.int k),GD,GF]∧Zp lg d:=by
 have ha:=ZH ns (6+k)
 have e6:((6+k:Nat):Int)=6+(k:Int):=by omega
 rw[e6] at ha
 obtain⟨v,hv⟩:∃v,ns.getD (6+k) 0=v:=⟨_,rfl⟩
 rw[hv] at ha
 obtain⟨xs,eg,hl,hx⟩:=Z05 (v / 12+5*k) (n:=5*lg+2) (by omega)
 have el:((5*lg+2:Nat):Int)=5*(lg:Int)+2:=by omega
 rw[el] at eg
 have x0:∃a,(xs.map PV.int)[0]?=some (.int a):=⟨xs[0],by simp⟩
 have x1:∃b,(xs.map PV.int)[1]?=some (.int b):=⟨xs[1],by simp⟩
 obtain⟨a,x0⟩:=x0
 obtain⟨b,x1⟩:=x1
 have hm:¬((lg:Int)=0):=by omega
 have hm2:¬lg=0:=by omega
 have hf:b.fmod (lg:Int)=b % lg:=Int.fmod_eq_emod_of_nonneg b (by omega)
 have b1:=Int.emod_nonneg b hm
 have b2:=Int.emod_lt_of_pos b (show 0<(lg:Int) by omega)
 obtain⟨m,hmm⟩:∃m:Nat,1+b % lg=(m:Int):=⟨(1+b % lg).toNat,by omega⟩
 have rr:=Zs (n:=m) (by omega)
 obtain⟨os,q1,q2,q3⟩:=Z0r hl qJ (List.range m) (fun j hj=>by have:=List.mem_range.mp hj;omega) [] .no (by simp;omega)
 have hLk:(L.map PV.str)[k]?=some (.str L[k]):=by simp[hL,hk]
 refine⟨(L[k],1+a*1907 % 1000000000,os),.ow (xs.map .int),.sh (.lst (os.map fQ)),?_,⟨by dsimp only;omega,by simp at q2;dsimp only;omega,q3⟩⟩
 have hz:D.length<16777216:=by omega
 rw[List.nil_append] at q1
 have hdl:(D.map bK).length=D.length:=by simp
 generalize ns.map PV.int=NS at *
 generalize xs.map PV.int=XS at *
 generalize L[k]=nm at *
 generalize hLL:L.map PV.str=LS at *
 have hmp:(D ++ [((nm,1+a*1907 % 1000000000,os):Dy)]).map bK=D.map bK ++ [.tup [.str nm,.int (1+a*1907 % 1000000000),.lst (os.map fQ)]]:=by simp[bK]
 rw[hmp]
 generalize D.map bK=DS at *
 generalize hos:os.map fQ=OS at *
 rw[←hdl] at hz
 simp[u_,ha,eg,x0,x1,hm2,hf,hmm,rr,q1,hLk,hz,-ZU]
theorem Z06(ns:List Int){n lg:Nat}(qJ:lg≤100)(hl0:0<lg){L:List Str}(hL:L.length=12){v:Int}:∀(ks:List Nat),(∀k∈ks,k<12)→∀(D:List Dy) (s7 s8 s9:P.Slot),D.length+ks.length≤12→(∀d∈D,Zp lg d)→∃ρ',forL (gN 7) u_ (ks.map fun(i:Nat)=>PV.int (i:Int)) [.sh (.lst (ns.map .int)),.sh (.int 6),.sh (.int n),.sh (.int lg),.ow (L.map .str),.sh (.int v),.ow (D.map bK),s7,s8,s9]=.ok .nx ρ'∧∃(D':List Dy) (s7 s8 s9:P.Slot),ρ'=[.sh (.lst (ns.map .int)),.sh (.int 6),.sh (.int n),.sh (.int lg),.ow (L.map .str),.sh (.int v),.ow (D'.map bK),s7,s8,s9]∧D'.length=D.length+ks.length∧∀d∈D',Zp lg d
 | [],_,D,s7,s8,s9,_,h=>⟨_,rfl,D,s7,s8,s9,rfl,rfl,h⟩
 |k::ks,hk,D,s7,s8,s9,hl,h=>by
  obtain⟨d,GD,GF,e,hd⟩:=Z1u ns (hk k List.mem_cons_self) qJ hl0 hL (.sh (.int n)) (.sh (.int v)) s8 s9 D (by simp at hl;omega)
  obtain⟨ρ',q1,D',a,b,c,q2,q3,q4⟩:=Z06 ns (n:=n) qJ hl0 hL (v:=v) ks (fun x hx=>hk x (List.mem_cons_of_mem _ hx)) (D ++ [d]) (.sh (.int k)) GD GF (by simp at hl ⊢;omega) (by
   intro x hx
   rcases List.mem_append.mp hx with hx|hx
   ·exact h x hx
   ·rw[List.mem_singleton.mp hx];exact hd)
  refine⟨ρ',?_,D',a,b,c,q2,by simp at q3 ⊢;omega,q4⟩
  rw[List.map_cons,forL]
  have hg:gN 7 (PV.int (k:Int)) [.sh (.lst (ns.map .int)),.sh (.int 6),.sh (.int n),.sh (.int lg),.ow (L.map .str),.sh (.int v),.ow (D.map bK),s7,s8,s9]=some [.sh (.lst (ns.map .int)),.sh (.int 6),.sh (.int n),.sh (.int lg),.ow (L.map .str),.sh (.int v),.ow (D.map bK),.sh (.int k),s8,s9]:=rfl
  rw[hg]
  dsimp only
  rw[e]
  exact q1
theorem Z0I(ns:List Int){n lg:Nat}(hn:n≤12)(qJ:lg≤100)(hl0:0<lg):∃D:List Dy,fK [.sh (.lst (ns.map .int)),.sh (.int 6),.sh (.int n),.sh (.int lg)]=.ret (.ow (D.map bK))∧D.length=n∧∀d∈D,Zp lg d:=by
 have h6:Ű [.sh (.lst (ns.map .int)),.sh (.int 6)]=.ret (.sh (.int (ns.getD 6 0))):=ZH ns 6
 obtain⟨v,hv⟩:∃v,ns.getD 6 0=v:=⟨_,rfl⟩
 rw[hv] at h6
 obtain⟨L,e1,hL⟩:=Z1t (v % 12) (by omega) (by omega) [Str.ofString "ab",Str.ofString "a",Str.ofString "abc",Str.ofString "b",Str.ofString "ba",Str.ofString "z",Str.ofString "zz",Str.ofString "zzz",Str.ofString "abcdefgh",Str.ofString "abcdefgi",Str.ofString "aa",Str.ofString "bb"] rfl
 obtain⟨ρ',q1,D,s7,s8,s9,rfl,q2,q3⟩:=Z06 ns (n:=n) qJ hl0 hL (v:=v % 12) (List.range n) (fun k hk=>by have:=List.mem_range.mp hk;omega) [] .no .no .no (by simp;omega) (by simp)
 have rr:=Zs (n:=n) (by omega)
 refine⟨D,?_,by simpa using q2,q3⟩
 generalize ns.map PV.int=NS at *
 simp only[List.map_cons,List.map_nil] at e1
 simp only[List.map_nil] at q1
 generalize D.map bK=DS at *
 generalize L.map PV.str=LS at *
 simp[fK,Bq,List.replicate,Tn,h6,e1,rr,q1,-ZU]
theorem Z1v(c:Int):∃w h:Nat,dY [.sh (.int c),.sh (.int 9)]=.ret (.sh (.tup [.int w,.int h]))∧1≤w∧w≤20∧1≤h∧h≤20∧w*h≤20:=by
 by_cases h0:c / 7 % 16=11
 ·have hd:c % 2=0∨c % 2=1:=by omega
  rcases hd with hd|hd
  ·exact⟨1,20,by simp[dY,fu,List.replicate,h0,hd],by omega,by omega,by omega,by omega,by omega⟩
  ·exact⟨20,1,by simp[dY,fu,List.replicate,h0,hd],by omega,by omega,by omega,by omega,by omega⟩
 ·have hd:c % 5=0∨c % 5=1∨c % 5=2∨c % 5=3∨c % 5=4:=by omega
  rcases hd with hd|hd|hd|hd|hd
  ·obtain⟨h,hh⟩:∃h:Nat,1+c / 5 % 4=(h:Int):=⟨(1+c / 5 % 4).toNat,by omega⟩
   exact⟨1,h,by simp[dY,fu,List.replicate,h0,hd,hh],by omega,by omega,by omega,by omega,by omega⟩
  ·obtain⟨h,hh⟩:∃h:Nat,1+c / 5 % 4=(h:Int):=⟨(1+c / 5 % 4).toNat,by omega⟩
   exact⟨2,h,by simp[dY,fu,List.replicate,h0,hd,hh],by omega,by omega,by omega,by omega,by omega⟩
  ·obtain⟨h,hh⟩:∃h:Nat,1+c / 5 % 3=(h:Int):=⟨(1+c / 5 % 3).toNat,by omega⟩
   exact⟨3,h,by simp[dY,fu,List.replicate,h0,hd,hh],by omega,by omega,by omega,by omega,by omega⟩
  ·obtain⟨h,hh⟩:∃h:Nat,1+c / 5 % 2=(h:Int):=⟨(1+c / 5 % 2).toNat,by omega⟩
   exact⟨4,h,by simp[dY,fu,List.replicate,h0,hd,hh],by omega,by omega,by omega,by omega,by omega⟩
  ·exact⟨5,1,by simp[dY,fu,List.replicate,h0,hd],by omega,by omega,by omega,by omega,by omega⟩
def Z0s:Option Hu.Ln→PV
 |some l=>cQ l
 |none=>.non
theorem Z0U{S:List Hu.Pt}{sl:P.Slot}(hs:Sl sl (S.map pt))(hS:∀p∈S,Sm p)(h0:S≠[])(hl:S.length≤1000)(p:Hu.Pt):pJ [sl,.sh (pt p)]=.ret (.sh (Z0s (Hu.Zx S p))):=by
 have h1:=Z0i hs hS h0 hl
 have e:(Hu.Zd S).findSome? (fun l=>if Hu.hd l p=true then none else some l)=Hu.Zx S p:=by
  unfold Hu.Zx
  generalize Hu.Zd S=L
  induction L with
  |nil=>rfl
  |cons l L ih=>
   rw[List.findSome?_cons,List.find?_cons]
   cases q:Hu.hd l p with
   |true=>simpa using ih
   |false=>simp
 rcases bN (g:=gN 2) (mb:=vI) cQ (fun l=>if Hu.hd l p=true then none else some l) (fun l=>.sh (cQ l)) (fun ρ=>∃s2,ρ=[sl,.sh (pt p),s2]) (Hu.Zd S) (by
  rintro l hm ρ ⟨s2,rfl⟩
  refine⟨[sl,.sh (pt p),.sh (cQ l)],by simp,?_⟩
  have hh:=Z0g (Z16 hm hS) p
  cases q:Hu.hd l p with
  |true=>
   rw[q] at hh
   exact .inr ⟨[sl,.sh (pt p),.sh (cQ l)],by simp,by simp[vI,hh],_,rfl⟩
  |false=>
   rw[q] at hh
   exact .inl ⟨l,[sl,.sh (pt p),.sh (cQ l)],by simp,by simp[vI,hh]⟩) [sl,.sh (pt p),.no] ⟨_,rfl⟩ with⟨l,ρ',q1,q2⟩|⟨ρ',q1,q2,_⟩
 ·rw[e] at q1
  rw[q1]
  simp[pJ,vJ,List.replicate,hs.lend,h1,q2,Z0s]
 ·rw[e] at q1
  rw[q1]
  simp[pJ,vJ,List.replicate,hs.lend,h1,q2,Z0s]
def qm(q:Nat×Nat):PV:=.tup [.int q.1,.int q.2]
def zX(q:yu):PV:=.tup [.int q.1,.int q.2.1,.int q.2.2]
theorem Z1e(j:Nat)(hj:j≤1000)(acc:List PV)(s0:P.Slot)(ha:acc.length+j≤16777216):pK [s0,.ow acc,.sh (.int j)]=.ok .nx [s0,.ow (acc++((List.range j).map fun i=>(i,j)).map qm),.sh (.int j)]:=by
 have c1:ŉ (gN 1) ŋ (Ś (Ą (Ģ 1) (Ą (Ģ 0) Ĝ))) ((List.range j).map fun(i:Nat)=>PV.int (i:Int)) [.sh (.int j),.no] []=some (((List.range j).map fun i=>(i,j)).map qm):=by
  have:=ő (g:=gN 1) (mt:=ŋ) (me:=Ś (Ą (Ģ 1) (Ą (Ģ 0) Ĝ))) (fun(i:Nat)=>PV.int (i:Int)) (fun i=>qm (i,j)) (fun ρ=>∃s,ρ=[.sh (.int j),s]) (List.range j) [.sh (.int j),.no] [] ⟨_,rfl⟩ (by simp;omega) (by
   rintro x hx ρ ⟨s,rfl⟩
   exact⟨[.sh (.int j),.sh (.int x)],[.sh (.int j),.sh (.int x)],[.sh (.int j),.sh (.int x)],by simp,by simp,by simp[qm],_,rfl⟩)
  rw[this,List.map_map]
  rfl
 have hl:acc.length+(((List.range j).map fun i=>(i,j)).map qm).length≤16777216:=by simpa using ha
 generalize ((List.range j).map fun i=>(i,j)).map qm=qs at c1 hl
 simp[pK,Zs hj,c1,hl]
theorem ZW(k:Nat):Hu.Z6 (k+1)=Hu.Z6 k++(List.range k).map fun i=>(i,k):=by
 unfold Hu.Z6
 rw[List.range_succ,List.flatMap_append]
 simp
theorem Zw:∀n,(Hu.Z6 n).length≤n*n
 |0=>by simp[Hu.Z6]
 |n+1=>by
  have:=Zw n
  rw[ZW,List.length_append,List.length_map,List.length_range,Nat.succ_mul,Nat.mul_succ]
  omega
theorem ZI(k:Nat):Hu.Z8 (k+1)=Hu.Z8 k++(Hu.Z6 k).map fun q=>(q.1,q.2,k):=by
 unfold Hu.Z8
 rw[List.range_succ,List.flatMap_append]
 simp
theorem ZA{g:Tg}{mb:M Fl}(nb:∀ρ ρ',mb ρ≠ .ok .bk ρ'):∀(xs ys:List PV) (ρ ρ1:ŏ),forL g mb xs ρ=.ok .nx ρ1→forL g mb (xs++ys) ρ=forL g mb ys ρ1
 | [],ys,ρ,ρ1,h=>by
   have e:Res.ok Fl.nx ρ=.ok .nx ρ1:=h
   cases e
   rfl
 |x::xs,ys,ρ,ρ1,h=>by
  rw[List.cons_append,forL]
  rw[forL] at h
  cases e:g x ρ with
  |none=>rw[e] at h;cases h
  |some ρ2=>
   rw[e] at h
   dsimp only at h ⊢
   cases e2:mb ρ2 with
   |bad=>rw[e2] at h;cases h
   |exc x ρ3=>rw[e2] at h;cases h
   |ok f ρ3=>
    rw[e2] at h
    cases f with
    |nx=>exact ZA nb xs ys ρ3 ρ1 h
    |ct=>exact ZA nb xs ys ρ3 ρ1 h
    |bk=>exact absurd e2 (nb ρ2 ρ3)
    |rt r=>cases h
theorem Z0t{g:Tg}{mb:M Fl}{p:PV}{ρ ρ1 ρ2:ŏ}(h1:g p ρ=some ρ1)(h2:mb ρ1=.ok .nx ρ2):forL g mb [p] ρ=.ok .nx ρ2:=by
 rw[forL,h1]
 dsimp only
 rw[h2]
 rfl
theorem Z1f{i:Nat}{mo:M RV}{ρ ρ':ŏ}:Bm i mo ρ≠ .ok .bk ρ':=by
 unfold Bm
 intro h
 split at h
 ·cases e:mo ρ with
  |bad=>rw[e] at h;cases h
  |exc x ρ1=>rw[e] at h;cases h
  |ok r ρ1=>
   rw[e] at h
   simp only[Res.aY] at h
   split at h
   ·split at h<;>cases h
   ·cases h
 ·cases h
theorem Z0u(n:Nat)(hn:n≤100):mj [.sh (.int n)]=.ret (.ow ((Hu.Z6 n).map qm)):=by
 have key:∀k,k≤n→∃s2,forL (gN 2) pK ((List.range k).map fun(i:Nat)=>PV.int (i:Int)) [.sh (.int n),.ow [],.no]=.ok .nx [.sh (.int n),.ow ((Hu.Z6 k).map qm),s2]:=by
  intro k
  induction k with
  |zero=>intro _;exact⟨.no,rfl⟩
  |succ k ih=>
   intro hk
   obtain⟨s2,e⟩:=ih (by omega)
   refine⟨.sh (.int k),?_⟩
   rw[List.range_succ,List.map_append,ZA (mb:=pK) (fun _ _=>Z1f) _ _ _ _ e,ZW,List.map_append]
   have hlen:=Zw k
   have hm:k*k≤100*100:=Nat.mul_le_mul (by omega) (by omega)
   exact Z0t rfl (Z1e k (by omega) ((Hu.Z6 k).map qm) (.sh (.int n)) (by rw[List.length_map];omega))
 obtain⟨s2,e⟩:=key n (Nat.le_refl n)
 have hr:=Zs (show n≤1000 by omega)
 simp[mj,Cp,List.replicate,hr,e]
theorem Z0A(k:Nat)(hk:k≤100)(acc:List PV)(s0:P.Slot)(ha:acc.length≤10000000):pL [s0,.ow acc,.sh (.int k)]=.ok .nx [s0,.ow (acc++((Hu.Z6 k).map fun q=>(q.1,q.2,k)).map zX),.sh (.int k)]:=by
 have hlen:=Zw k
 have hm:k*k≤100*100:=Nat.mul_le_mul (by omega) (by omega)
 have c1:ŉ (gN 1) ŋ (Ś (Ą (Ĉ ě (Ā 1) (mC (.int 0))) (Ą (Ĉ ě (Ā 1) (mC (.int 1))) (Ą (Ģ 0) Ĝ)))) ((Hu.Z6 k).map qm) [.sh (.int k),.no] []=some (((Hu.Z6 k).map fun q=>(q.1,q.2,k)).map zX):=by
  have:=ő (g:=gN 1) (mt:=ŋ) (me:=Ś (Ą (Ĉ ě (Ā 1) (mC (.int 0))) (Ą (Ĉ ě (Ā 1) (mC (.int 1))) (Ą (Ģ 0) Ĝ)))) qm (fun q=>zX (q.1,q.2,k)) (fun ρ=>∃s,ρ=[.sh (.int k),s]) (Hu.Z6 k) [.sh (.int k),.no] [] ⟨_,rfl⟩ (by simp;omega) (by
   rintro x hx ρ ⟨s,rfl⟩
   exact⟨[.sh (.int k),.sh (qm x)],[.sh (.int k),.sh (qm x)],[.sh (.int k),.sh (qm x)],by simp,by simp,by simp[qm,zX],_,rfl⟩)
  rw[this,List.map_map]
  rfl
 have hl:acc.length+(((Hu.Z6 k).map fun q=>(q.1,q.2,k)).map zX).length≤16777216:=by simp;omega
 have hp:=Z0u k hk
 generalize ((Hu.Z6 k).map fun q=>(q.1,q.2,k)).map zX=qs at c1 hl
 simp[pL,hp,c1,hl]
theorem ZN:∀n,n≤100→(Hu.Z8 n).length≤n*10000
 |0,_=>by simp[Hu.Z8]
 |n+1,h=>by
  have:=ZN n (by omega)
  have h2:=Zw n
  have hm:n*n≤100*100:=Nat.mul_le_mul (by omega) (by omega)
  rw[ZI,List.length_append,List.length_map]
  omega
theorem Z0V(n:Nat)(hn:n≤100):tu [.sh (.int n)]=.ret (.ow ((Hu.Z8 n).map zX)):=by
 have key:∀k,k≤n→∃s2,forL (gN 2) pL ((List.range k).map fun(i:Nat)=>PV.int (i:Int)) [.sh (.int n),.ow [],.no]=.ok .nx [.sh (.int n),.ow ((Hu.Z8 k).map zX),s2]:=by
  intro k
  induction k with
  |zero=>intro _;exact⟨.no,rfl⟩
  |succ k ih=>
   intro hk
   obtain⟨s2,e⟩:=ih (by omega)
   refine⟨.sh (.int k),?_⟩
   rw[List.range_succ,List.map_append,ZA (mb:=pL) (fun _ _=>Z1f) _ _ _ _ e,ZI,List.map_append]
   have hlen:=ZN k (by omega)
   exact Z0t rfl (Z0A k (by omega) ((Hu.Z8 k).map zX) (.sh (.int n)) (by rw[List.length_map];omega))
 obtain⟨s2,e⟩:=key n (Nat.le_refl n)
 have hr:=Zs (show n≤1000 by omega)
 simp[tu,Cq,List.replicate,hr,e]
def W(x:Int):Prop:=-100000000000000000000000000000000000000000000000000<x∧x<100000000000000000000000000000000000000000000000000
theorem W.bits{x:Int}(h:W x):bits x≤200:=jJ (n:=200) (by have:=h.1;omega) (by have:=h.2;omega)
theorem dif{a b:Int}(h1: -100000000000000000≤a)(h2:a≤100000000000000000)(h3: -100000000000000000≤b)(h4:b≤100000000000000000): -200000000000000000≤a-b∧a-b≤200000000000000000:=by omega
theorem Z00{a b c d:Int}(h1: -c≤a)(h2:a≤c)(h3: -d≤b)(h4:b≤d)(hc:0≤c)(hd:0≤d): -(c*d)≤a*b∧a*b≤c*d:=by
 have e1:(a*b).natAbs=a.natAbs*b.natAbs:=Int.natAbs_mul a b
 have e2:a.natAbs*b.natAbs≤c.natAbs*d.natAbs:=Nat.mul_le_mul (by omega) (by omega)
 have e3:(c*d).natAbs=c.natAbs*d.natAbs:=Int.natAbs_mul c d
 have e4:0≤c*d:=Int.mul_nonneg hc hd
 omega
theorem ZJ{a b c:Hu.Pt}(ha:Sm a)(hb:Sm b)(hc:Sm c):jd [.sh (pt a),.sh (pt b),.sh (pt c)]=.ret (.sh (.int (Hu.tn a b c))):=by
 obtain⟨a1,a2,a3,a4⟩:=ha
 obtain⟨b1,b2,b3,b4⟩:=hb
 obtain⟨c1,c2,c3,c4⟩:=hc
 have m1:ř (b.1-a.1) (c.2-a.2)=true:=bx (by omega) (by omega)
 have m2:ř (b.2-a.2) (c.1-a.1)=true:=bx (by omega) (by omega)
 simp[jd,Cr,List.replicate,pt,Hu.tn,m1,m2]
theorem Z1w{a b c:Hu.Pt}(ha:Sm a)(hb:Sm b)(hc:Sm c): -80000000000000000000000000000000000≤Hu.tn a b c∧Hu.tn a b c≤80000000000000000000000000000000000:=by
 obtain⟨a1,a2,a3,a4⟩:=ha
 obtain⟨b1,b2,b3,b4⟩:=hb
 obtain⟨c1,c2,c3,c4⟩:=hc
 obtain⟨x1,x2⟩:=dif b1 b2 a1 a2
 obtain⟨y1,y2⟩:=dif c3 c4 a3 a4
 obtain⟨z1,z2⟩:=dif b3 b4 a3 a4
 obtain⟨w1,w2⟩:=dif c1 c2 a1 a2
 obtain⟨p1,p2⟩:=Z00 x1 x2 y1 y2 (by decide) (by decide)
 obtain⟨q1,q2⟩:=Z00 z1 z2 w1 w2 (by decide) (by decide)
 unfold Hu.tn
 omega
theorem Z1x{a b c p:Hu.Pt}(ha:Sm a)(hb:Sm b)(hc:Sm c)(hp:Sm p):Gn [.sh (.lst [pt a,pt b,pt c]),.sh (pt p)]=.ret (.ow ((Hu.uV a b c p).map .int)):=by
 simp[Gn,JZ,List.replicate,ZJ hp hb hc,ZJ ha hp hc,ZJ ha hb hp,Hu.uV]
theorem Z2j{a b p:Hu.Pt}(ha:Sm a)(hb:Sm b)(hp:Sm p):tD [.sh (.lst [pt a,pt b]),.sh (pt p)]=.ret (.ow ((Hu.uW a b p).map .int)):=by
 obtain⟨a1,a2,a3,a4⟩:=ha
 obtain⟨b1,b2,b3,b4⟩:=hb
 obtain⟨c1,c2,c3,c4⟩:=hp
 have m1:∀x,ř (b.1-a.1) x=true:=fun x=>bx (by omega) (by omega)
 have m2:∀x,ř (b.2-a.2) x=true:=fun x=>bx (by omega) (by omega)
 simp[tD,Cu,List.replicate,pt,Hu.uW,m1,m2]
theorem Z2x{a b c p:Hu.Pt}(ha:Sm a)(hb:Sm b)(hc:Sm c)(hp:Sm p):∀s∈Hu.uV a b c p,-400000000000000000000000000000000000≤s∧s≤400000000000000000000000000000000000:=by
 have h1:=Z1w hp hb hc
 have h2:=Z1w ha hp hc
 have h3:=Z1w ha hb hp
 intro s hs
 simp only[Hu.uV,List.mem_cons,List.not_mem_nil,or_false] at hs
 rcases hs with e|e|e<;>omega
theorem Z2y{a b p:Hu.Pt}(ha:Sm a)(hb:Sm b)(hp:Sm p):∀s∈Hu.uW a b p,-400000000000000000000000000000000000≤s∧s≤400000000000000000000000000000000000:=by
 obtain⟨a1,a2,a3,a4⟩:=ha
 obtain⟨b1,b2,b3,b4⟩:=hb
 obtain⟨c1,c2,c3,c4⟩:=hp
 obtain⟨x1,x2⟩:=dif b1 b2 a1 a2
 obtain⟨z1,z2⟩:=dif b3 b4 a3 a4
 obtain⟨y1,y2⟩:=dif c1 c2 a1 a2
 obtain⟨w1,w2⟩:=dif c3 c4 a3 a4
 obtain⟨p1,p2⟩:=Z00 x1 x2 y1 y2 (by decide) (by decide)
 obtain⟨q1,q2⟩:=Z00 z1 z2 w1 w2 (by decide) (by decide)
 obtain⟨r1,r2⟩:=Z00 x1 x2 x1 x2 (by decide) (by decide)
 obtain⟨t1,t2⟩:=Z00 z1 z2 z1 z2 (by decide) (by decide)
 intro s hs
 simp only[Hu.uW,List.mem_cons,List.not_mem_nil,or_false] at hs
 rcases hs with e|e<;>omega
def ShB(w:List Int):Prop:=w.length≤3∧∀s∈w,-400000000000000000000000000000000000≤s∧s≤400000000000000000000000000000000000
theorem ShB.sum{w:List Int}(h:ShB w): -2000000000000000000000000000000000000≤w.sum∧w.sum≤2000000000000000000000000000000000000:=by
 obtain⟨h1,h2⟩:=h
 match w,h1,h2 with
 | [],_,_=>simp
 | [a],_,h2=>have:=h2 a (by simp);simp;omega
 | [a,b],_,h2=>have:=h2 a (by simp);have:=h2 b (by simp);simp;omega
 | [a,b,c],_,h2=>have:=h2 a (by simp);have:=h2 b (by simp);have:=h2 c (by simp);simp;omega
theorem ZS{x:Int}(h1: -2000000000000000000000000000000000000≤x)(h2:x≤2000000000000000000000000000000000000):bits x≤200:=jJ (n:=200) (by omega) (by omega)
theorem Z1E{w:List Int}(h:ShB w){sl:P.Slot}(hs:Sl sl (w.map .int)):jQ [sl]=.ret (.sh (.bl (Hu.Zr w))):=by
 obtain⟨s1,s2⟩:=h.sum
 have hb:=ZS s1 s2
 have c1:ŉ (gN 1) ŋ (Ĉ Il (Ĉ į (Ā 1) (Ā 0)) (mC (.int 0))) (w.map .int) [.sh (.int w.sum),.no] []=some ((w.map fun s=>decide (0≤s*w.sum)).map .bl):=by
  have:=ő (g:=gN 1) (mt:=ŋ) (me:=Ĉ Il (Ĉ į (Ā 1) (Ā 0)) (mC (.int 0))) PV.int (fun s=>.bl (decide (0≤s*w.sum))) (fun ρ=>∃s,ρ=[.sh (.int w.sum),s]) w [.sh (.int w.sum),.no] [] ⟨_,rfl⟩ (by have:=h.1;simp;omega) (by
   rintro x hx ρ ⟨s,rfl⟩
   have hx':=h.2 x hx
   have hm:ř x w.sum=true:=ZdV (Nat.le_trans (ZS (by omega) (by omega)) (by decide)) (Nat.le_trans hb (by decide))
   exact⟨[.sh (.int w.sum),.sh (.int x)],[.sh (.int w.sum),.sh (.int x)],[.sh (.int w.sum),.sh (.int x)],by simp,by simp,by simp[hm],_,rfl⟩)
  rw[this,List.map_map]
  rfl
 have c2:=Z0h (w.map fun s=>decide (0≤s*w.sum))
 have c3:(w.map fun s=>decide (0≤s*w.sum)).all id=w.all fun s=>decide (0≤s*w.sum):=by simp
 rw[c3] at c2
 unfold Hu.Zr
 have hsum:Bk [.lst (w.map .int)]=some (.int w.sum):=by simp
 unfold Sl at hs
 generalize (w.map fun s=>decide (0≤s*w.sum)).map PV.bl=bs at c1 c2
 generalize (w.all fun s=>decide (0≤s*w.sum))=q at c2
 generalize w.map PV.int=ws at c1 hsum hs
 generalize w.sum=S at c1 hsum
 by_cases h0:S=0
 ·subst h0
  rcases hs with rfl|rfl<;>simp[jQ,vM,List.replicate,-iG,hsum]
 ·rcases hs with rfl|rfl<;>simp[jQ,vM,List.replicate,-iG,hsum,c1,c2,h0]
theorem Z1F(x y:Int):Gm [.sh (.int x),.sh (.int y)]=.ret (.sh (.int (My.gd x y))):=by
 obtain⟨⟨u,v,r⟩,e1,e2,e3⟩:=Bd (mc:=(dF (Ĉ cG (Ā 1) (mC (.int 0))))) (mb:=(Ğ (Ĵ 2 (Ř (Ĉ ō (Ā 0) (Ā 1)))) (Ğ (Ĵ 0 (Ř (Ģ 1))) (Ĵ 1 (Ř (Ģ 2))))))
  (fun b:Zc3.Slot=>[.sh (.int b.1),.sh (.int b.2.1),b.2.2]) (fun b=>My.gd b.1 b.2.1=My.gd x y) (fun b=>b.2.1.natAbs) (b:=(x,y,.no)) (by
    rintro ⟨u,v,r⟩ e
    by_cases hv:v=0
    ·left;simp[hv]
    ·right;exact⟨by simp[hv],(v,u.fmod v,.sh (.int (u.fmod v))),by simp[hv],(My.Z1H u v).trans e,My.Z1I u hv⟩) rfl
 have hv:v=0:=by simpa using e3
 subst hv
 have e1':VB [.sh (.int x),.sh (.int y),.no]=_:=e1
 simp[Gm,JX,List.replicate,e1',←e2,My.Z1J]
theorem Z1W(t:Int){b:Int}{n:Nat}(h:b≠0)(hb:bits b≤n):bits (My.gd t b)≤n:=by
 refine intBits_le_of_natAbs ?_ hb
 have h1:=My.Z2s t h
 have h2:=My.Z0Z t b
 omega
def rt(t b:Int):Um:=(t.fdiv (My.dv t b),b.fdiv (My.dv t b))
theorem Z0v{t b:Int}(h:b≠0)(hz:bits b≤8000):gP [.sh (.int t),.sh (.int b)]=.ret (.sh (pt (rt t b))):=by
 have g1:=Z1W t h hz
 have g0:=My.Z23 t h
 by_cases hn:b<0
 ·have e:My.dv t b= - My.gd t b:=if_pos hn
  have c:∀i,fG i (- My.gd t b)=true:=fun i=>xr (by omega) (intBits_neg_le g1)
  simp[gP,vK,List.replicate,h,Z1F,hn,c,e,pt,rt]
 ·have e:My.dv t b=My.gd t b:=if_neg hn
  have c:∀i,fG i (My.gd t b)=true:=fun i=>xr (by omega) g1
  simp[gP,vK,List.replicate,h,Z1F,hn,c,e,pt,rt]
theorem ZK{w:List Int}{q:List Nat}{n:Nat}(hw:ShB w)(h0:w.sum≠0)(hl:w.length=q.length)(hq:∀i∈q,i<n)(hn:n≤100){s0 s1:P.Slot}(hs0:Sl s0 (w.map .int))(hs1:s1=.sh (.lst (q.map fun(i:Nat)=>.int (i:Int)))∨s1=.sh (.tup (q.map fun(i:Nat)=>.int (i:Int)))) :
 d_ [s0,s1,.sh (.int n)]=.ret (.ow ((Fr.lay (List.replicate n 0) (w.zip q)).map fun s=>pt (rt s w.sum))):=by
 obtain⟨b1,b2⟩:=hw.sum
 have hb:=Nat.le_trans (ZS b1 b2) (show 200≤8000 by decide)
 have hsum:Bk [.lst (w.map .int)]=some (.int w.sum):=by simp
 have c1:ŉ (gN 1) ŋ (Ė (Ē gP (ė (mC (.int 0)) (ą 0 ď)))) ((List.range n).map fun(i:Nat)=>PV.int (i:Int)) [.sh (.int w.sum),.no] []=some ((List.replicate n (0:Int)).map fun s=>pt (rt s w.sum)):=by
  have:=ő (g:=gN 1) (mt:=ŋ) (me:=Ė (Ē gP (ė (mC (.int 0)) (ą 0 ď)))) (fun(i:Nat)=>PV.int (i:Int)) (fun _=>pt (rt 0 w.sum)) (fun ρ=>∃s,ρ=[.sh (.int w.sum),s]) (List.range n) [.sh (.int w.sum),.no] [] ⟨_,rfl⟩ (by simp;omega) (by
   rintro x hx ρ ⟨s,rfl⟩
   exact⟨[.sh (.int w.sum),.sh (.int x)],[.sh (.int w.sum),.sh (.int x)],[.sh (.int w.sum),.sh (.int x)],by simp,by simp,by simp[Z0v h0 hb],_,rfl⟩)
  rw[this]
  simp[List.map_const']
 have hz:jH (w.map .int) (q.map fun(i:Nat)=>PV.int (i:Int))=(w.zip q).map fun a=>.tup [.int a.1,.int (a.2:Int)]:=by
  clear hw h0 hl hq hs0 hs1 hsum c1 hb b1 b2
  induction w generalizing q with
  |nil=>simp[jH]
  |cons x w ih=>
   cases q with
   |nil=>simp[jH]
   |cons i q=>simp[jH,ih]
 have loop:∀s0' s1',∃ρ',forL (gT 2 (Ħ (gN 5) (Ħ (gN 6) Ŭ))) vL ((w.zip q).map fun a=>.tup [.int a.1,.int (a.2:Int)]) [s0',s1',.sh (.int n),.sh (.int w.sum),.ow ((List.replicate n (0:Int)).map fun s=>pt (rt s w.sum)),.no,.no]=.ok .nx ρ'∧ρ'[4]?=some (.ow ((Fr.lay (List.replicate n 0) (w.zip q)).map fun s=>pt (rt s w.sum))):=by
  intro s0' s1'
  obtain⟨ρ',e,s5,s6,hρ,_⟩:=cL (g:=gT 2 (Ħ (gN 5) (Ħ (gN 6) Ŭ))) (mb:=vL) (fun a:Uo=>.tup [.int a.1,.int (a.2:Int)]) (fun acc a=>acc.set a.2 a.1)
   (fun acc ρ=>∃s5 s6,ρ=[s0',s1',.sh (.int n),.sh (.int w.sum),.ow (acc.map fun s=>pt (rt s w.sum)),s5,s6]∧acc.length=n) (w.zip q) (by
     rintro ⟨x,i⟩ hx acc ρ ⟨s5,s6,rfl,hlen⟩
     have hi:i<n:=hq i (List.of_mem_zip hx).2
     have hix:Gz acc.length (i:Int)=some i:=by
      unfold Gz
      rw[if_pos (by omega),if_pos (by omega)]
      simp
     refine⟨[s0',s1',.sh (.int n),.sh (.int w.sum),.ow (acc.map fun s=>pt (rt s w.sum)),.sh (.int x),.sh (.int i)],[s0',s1',.sh (.int n),.sh (.int w.sum),.ow ((acc.set i x).map fun s=>pt (rt s w.sum)),.sh (.int x),.sh (.int i)],by simp,?_,_,_,rfl,by simpa using hlen⟩
     simp[vL,Z0v h0 hb,hix,List.map_set]) (List.replicate n 0) [s0',s1',.sh (.int n),.sh (.int w.sum),.ow ((List.replicate n (0:Int)).map fun s=>pt (rt s w.sum)),.no,.no] ⟨_,_,rfl,by simp⟩
  refine⟨ρ',e,?_⟩
  subst hρ
  rfl
 have hr:=Zs (show n≤1000 by omega)
 generalize (List.replicate n (0:Int)).map (fun s=>pt (rt s w.sum))=zs at c1 loop
 generalize (Fr.lay (List.replicate n 0) (w.zip q)).map (fun s=>pt (rt s w.sum))=rs at loop
 generalize ((w.zip q).map fun a=>PV.tup [.int a.1,.int (a.2:Int)])=ls at hz loop
 generalize w.map PV.int=ws at hs0 hsum hz
 generalize w.sum=S at hsum c1 loop
 generalize (q.map fun(i:Nat)=>PV.int (i:Int))=qs at hz hs1
 rcases hs0 with rfl|rfl<;>rcases hs1 with rfl|rfl
 ·obtain⟨ρ',e,e4⟩:=loop (.sh (.lst ws)) (.sh (.lst qs))
  simp[d_,lB,List.replicate,-iG,hsum,hr,c1,hz,Ge,e,e4]
 ·obtain⟨ρ',e,e4⟩:=loop (.sh (.lst ws)) (.sh (.tup qs))
  simp[d_,lB,List.replicate,-iG,hsum,hr,c1,hz,Ge,e,e4]
 ·obtain⟨ρ',e,e4⟩:=loop (.bw ws) (.sh (.lst qs))
  simp[d_,lB,List.replicate,-iG,hsum,hr,c1,hz,Ge,e,e4]
 ·obtain⟨ρ',e,e4⟩:=loop (.bw ws) (.sh (.tup qs))
  simp[d_,lB,List.replicate,-iG,hsum,hr,c1,hz,Ge,e,e4]
def Xn(S:List Hu.Pt)(r:List o_ Nat):List PV:=(Fr.lay (List.replicate S.length 0) (r.1.zip r.2)).map fun s=>pt (rt s r.1.sum)
theorem gn{S:List Hu.Pt}{i:Nat}(h:i<S.length):(S.map pt)[i]?=some (pt (Hu.at_ S i)):=by
 unfold Hu.at_
 rw[List.getElem?_map,List.getD_eq_getElem?_getD,List.getElem?_eq_getElem h]
 rfl
theorem Z2z{S:List Hu.Pt}{sl:P.Slot}(hs:Sl sl (S.map pt)){i j k:Nat}(hi:i<S.length)(hj:j<S.length)(hk:k<S.length)(s3:P.Slot):ŉ (gN 1) ŋ (Ĉ ě (Ā 0) (Ā 1)) [.int (i:Int),.int (j:Int),.int (k:Int)] [sl,s3] []=some [pt (Hu.at_ S i),pt (Hu.at_ S j),pt (Hu.at_ S k)]:=by
 rcases hs with rfl|rfl<;>simp[ŉ,gn hi,gn hj,gn hk,-List.getElem?_map]
theorem Z2A{S:List Hu.Pt}{sl:P.Slot}(hs:Sl sl (S.map pt)){i j:Nat}(hi:i<S.length)(hj:j<S.length)(s3:P.Slot):ŉ (gN 1) ŋ (Ĉ ě (Ā 0) (Ā 1)) [.int (i:Int),.int (j:Int)] [sl,s3] []=some [pt (Hu.at_ S i),pt (Hu.at_ S j)]:=by
 rcases hs with rfl|rfl<;>simp[ŉ,gn hi,gn hj,-List.getElem?_map]
theorem Sl.cap{s:P.Slot}{ps:List PV}(h:Sl s ps):wQ s=s:=by rcases h with rfl|rfl<;>rfl
theorem Z2k{a b c p:Hu.Pt}(ha:Sm a)(hb:Sm b)(hc:Sm c)(hp:Sm p):ShB (Hu.uV a b c p):=⟨by simp[Hu.uV],Z2x ha hb hc hp⟩
theorem Z2l{a b p:Hu.Pt}(ha:Sm a)(hb:Sm b)(hp:Sm p):ShB (Hu.uW a b p):=⟨by simp[Hu.uW],Z2y ha hb hp⟩
theorem Z0W{S:List Hu.Pt}{sl:P.Slot}(hs:Sl sl (S.map pt))(hS:∀p∈S,Sm p)(h0:S≠[])(hl:S.length≤100){p:Hu.Pt}(hp:Sm p):mq [sl,.sh (pt p)]=.ret (.ow (Xn S (Hu.Z0M S p))):=by
 have hat:∀i,i<S.length→Sm (Hu.at_ S i):=fun i h=>hS _ (Hu.Z24 h)
 have ht:=Z0V S.length hl
 have hpr:=Z0u S.length hl
 have hlen:jC [.lst (S.map pt)]=some (.int S.length):=by simp
 have F3:=bN (g:=gN 3) (mb:=vO) zX (fun q=>if Hu.Zr (Hu.uV (Hu.at_ S q.1) (Hu.at_ S q.2.1) (Hu.at_ S q.2.2) p)=true then some (Hu.uV (Hu.at_ S q.1) (Hu.at_ S q.2.1) (Hu.at_ S q.2.2) p,[q.1,q.2.1,q.2.2]) else none) (fun r=>.ow (Xn S r)) (fun ρ=>∃s3 s4,ρ=[sl,.sh (pt p),.sh (.int S.length),s3,s4]) (Hu.Z8 S.length) (by
  rintro ⟨i,j,k⟩ hm ρ ⟨s3,s4,rfl⟩
  obtain⟨h1,h2,h3⟩:=Hu.Z0z.mp hm
  have hi:i<S.length:=by omega
  have hj:j<S.length:=by omega
  have hb:=Z2k (hat i hi) (hat j hj) (hat k h3) hp
  have e1:=Z1x (hat i hi) (hat j hj) (hat k h3) hp
  have e2:=Z1E hb (sl:=.bw ((Hu.uV (Hu.at_ S i) (Hu.at_ S j) (Hu.at_ S k) p).map .int)) (.inr rfl)
  have e0:=Z2z hs hi hj h3 .no
  refine⟨[sl,.sh (pt p),.sh (.int S.length),.sh (zX (i,j,k)),s4],rfl,?_⟩
  cases q:Hu.Zr (Hu.uV (Hu.at_ S i) (Hu.at_ S j) (Hu.at_ S k) p) with
  |true=>
   left
   have hg:=Hu.Z0d.mp q
   have e3:=ZK (q:=[i,j,k]) (n:=S.length) hb hg.1 rfl (by simp;omega) hl (s0:=.bw ((Hu.uV (Hu.at_ S i) (Hu.at_ S j) (Hu.at_ S k) p).map .int)) (s1:=.sh (.tup [.int i,.int j,.int k])) (.inr rfl) (.inr rfl)
   rw[q] at e2
   refine⟨_,[sl,.sh (pt p),.sh (.int S.length),.sh (zX (i,j,k)),.ow ((Hu.uV (Hu.at_ S i) (Hu.at_ S j) (Hu.at_ S k) p).map .int)],rfl,?_⟩
   generalize Hu.uV (Hu.at_ S i) (Hu.at_ S j) (Hu.at_ S k) p=w at *
   generalize hws:w.map PV.int=ws at *
   simp[vO,zX,hs.cap,e0,e1,e2,e3,Xn]
  |false=>
   right
   rw[q] at e2
   refine⟨[sl,.sh (pt p),.sh (.int S.length),.sh (zX (i,j,k)),.ow ((Hu.uV (Hu.at_ S i) (Hu.at_ S j) (Hu.at_ S k) p).map .int)],rfl,?_,_,_,rfl⟩
   generalize Hu.uV (Hu.at_ S i) (Hu.at_ S j) (Hu.at_ S k) p=w at *
   generalize hws:w.map PV.int=ws at *
   simp[vO,zX,hs.cap,e0,e1,e2])
 have F2:=bN (g:=gN 3) (mb:=vN) qm (fun q=>if Hu.Zr (Hu.uW (Hu.at_ S q.1) (Hu.at_ S q.2) p)=true then some (Hu.uW (Hu.at_ S q.1) (Hu.at_ S q.2) p,[q.1,q.2]) else none) (fun r=>.ow (Xn S r)) (fun ρ=>∃s3 s4,ρ=[sl,.sh (pt p),.sh (.int S.length),s3,s4]) (Hu.Z6 S.length) (by
  rintro ⟨i,j⟩ hm ρ ⟨s3,s4,rfl⟩
  obtain⟨h1,h2⟩:=Hu.ZD.mp hm
  have hi:i<S.length:=by omega
  have hb:=Z2l (hat i hi) (hat j h2) hp
  have e1:=Z2j (hat i hi) (hat j h2) hp
  have e2:=Z1E hb (sl:=.bw ((Hu.uW (Hu.at_ S i) (Hu.at_ S j) p).map .int)) (.inr rfl)
  have e0:=Z2A hs hi h2 .no
  refine⟨[sl,.sh (pt p),.sh (.int S.length),.sh (qm (i,j)),s4],rfl,?_⟩
  cases q:Hu.Zr (Hu.uW (Hu.at_ S i) (Hu.at_ S j) p) with
  |true=>
   left
   have hg:=Hu.Z0d.mp q
   have e3:=ZK (q:=[i,j]) (n:=S.length) hb hg.1 rfl (by simp;omega) hl (s0:=.bw ((Hu.uW (Hu.at_ S i) (Hu.at_ S j) p).map .int)) (s1:=.sh (.tup [.int i,.int j])) (.inr rfl) (.inr rfl)
   rw[q] at e2
   refine⟨_,[sl,.sh (pt p),.sh (.int S.length),.sh (qm (i,j)),.ow ((Hu.uW (Hu.at_ S i) (Hu.at_ S j) p).map .int)],rfl,?_⟩
   generalize Hu.uW (Hu.at_ S i) (Hu.at_ S j) p=w at *
   generalize hws:w.map PV.int=ws at *
   simp[vN,qm,hs.cap,e0,e1,e2,e3,Xn]
  |false=>
   right
   rw[q] at e2
   refine⟨[sl,.sh (pt p),.sh (.int S.length),.sh (qm (i,j)),.ow ((Hu.uW (Hu.at_ S i) (Hu.at_ S j) p).map .int)],rfl,?_,_,_,rfl⟩
   generalize Hu.uW (Hu.at_ S i) (Hu.at_ S j) p=w at *
   generalize hws:w.map PV.int=ws at *
   simp[vN,qm,hs.cap,e0,e1,e2])
 have e3:(Hu.Z8 S.length).findSome? (fun q=>if Hu.Zr (Hu.uV (Hu.at_ S q.1) (Hu.at_ S q.2.1) (Hu.at_ S q.2.2) p)=true then some (Hu.uV (Hu.at_ S q.1) (Hu.at_ S q.2.1) (Hu.at_ S q.2.2) p,[q.1,q.2.1,q.2.2]) else none)=Hu.Z25 S p:=rfl
 have e2:(Hu.Z6 S.length).findSome? (fun q=>if Hu.Zr (Hu.uW (Hu.at_ S q.1) (Hu.at_ S q.2) p)=true then some (Hu.uW (Hu.at_ S q.1) (Hu.at_ S q.2) p,[q.1,q.2]) else none)=Hu.Z26 S p:=rfl
 rw[e3] at F3
 rw[e2] at F2
 have e1:=ZK (w:=[1]) (q:=[0]) (n:=S.length) ⟨by simp,by simp⟩ (by simp) rfl (by simpa using List.length_pos_iff.mpr h0) hl (s0:=.sh (.lst [.int 1])) (s1:=.sh (.lst [.int 0])) (.inl rfl) (.inl rfl)
 have hw1:(Fr.lay (List.replicate S.length 0) ([1].zip [0])).map (fun s=>pt (rt s [1].sum))=Xn S ([1],[0]):=rfl
 rw[hw1] at e1
 generalize hn:(S.length:Int)=N at *
 generalize (Hu.Z8 S.length).map zX=ts at *
 generalize (Hu.Z6 S.length).map qm=prs at *
 unfold Hu.Z0M
 rcases F3 [sl,.sh (pt p),.sh (.int N),.no,.no] ⟨_,_,rfl⟩ with⟨r,ρ',q1,q2⟩|⟨ρ',q1,q2,s3,s4,hρ⟩
 ·rw[q1]
  rcases hs with rfl|rfl<;>simp[mq,pN,List.replicate,-uH,hlen,ht,q2]
 ·subst hρ
  rw[q1]
  rcases F2 [sl,.sh (pt p),.sh (.int N),s3,s4] ⟨_,_,rfl⟩ with⟨r,ρ',q3,q4⟩|⟨ρ',q3,q4,s3',Rh,hρ⟩
  ·rw[q3]
   rcases hs with rfl|rfl<;>simp[mq,pN,List.replicate,-uH,hlen,ht,hpr,q2,q4]
  ·subst hρ
   rw[q3]
   rcases hs with rfl|rfl<;>simp[mq,pN,List.replicate,-uH,hlen,ht,hpr,q2,q4,e1]
def ZX(S:List Hu.Pt)(p:Hu.Pt):PV:=match Hu.Zx S p with
 |some l=>.tup [.str "out",cQ l]
 |none=>.tup [.str "in",.lst (Xn S (Hu.Z0M S p))]
theorem Z1X{S:List Hu.Pt}{sl:P.Slot}(hs:Sl sl (S.map pt))(hS:∀p∈S,Sm p)(h0:S≠[])(hl:S.length≤100){p:Hu.Pt}(hp:Sm p):pO [sl,.sh (pt p)]=.ret (.sh (ZX S p)):=by
 have h1:=Z0U hs hS h0 (by omega) p
 have h2:=Z0W hs hS h0 hl hp
 unfold ZX
 cases e:Hu.Zx S p with
 |some l=>
  rw[e] at h1
  simp[pO,vP,List.replicate,hs.lend,h1,Z0s,cQ,wZ]
 |none=>
  rw[e] at h1
  simp[pO,vP,List.replicate,hs.lend,h1,Z0s,h2,wZ]
theorem Z1y{r:P3}(hr:RB r)(s:Hu.Pt):tE [.sh (pt s),.sh (c3 r)]=.ret (.sh (pt (cst r (wA s)))):=by
 have e:=Z0F hr (wA s)
 have e':PV.tup [.int (2*s.1),.int (2*s.2),.int 0]=c3 (wA s):=rfl
 generalize hR:c3 r=R at *
 unfold pt
 simp[tE,Cv,List.replicate,e',e]
 rfl
theorem Z0X{w:Str}{xs:List Int}(hg:Z5 w xs=true){r:P3}(hr:RB r){s:Hu.Pt}(hs:PB (wA s)):tH [.sh (Z4 (Za w) w xs),.sh (pt s),.sh (c3 r)]=.ret (.sh (ZX ((Z9 w xs).map (cst r)) (cst r (wA s)))):=by
 obtain⟨g1,g2,g3⟩:=Z0n hg
 have h1:=Z0m hg (by omega) hr
 have h2:=Z1y hr s
 have h3:=Z1X (S:=(Z9 w xs).map (cst r)) (sl:=.sh (.lst (((Z9 w xs).map (cst r)).map pt))) (.inl rfl) (by
  intro p hp
  obtain⟨q,hq,rfl⟩:=List.mem_map.mp hp
  exact Z0l hr (g3 q hq)) (by simpa using g2) (by simp;omega) (p:=cst r (wA s)) (Z0l hr hs)
 generalize ZX ((Z9 w xs).map (cst r)) (cst r (wA s))=V at *
 generalize ((Z9 w xs).map (cst r)).map pt=Y at *
 generalize pt (cst r (wA s))=Z at *
 generalize Z4 (Za w) w xs=v at *
 generalize c3 r=R at *
 generalize pt s=Q at *
 simp[tH,Cw,List.replicate,h1,h2,h3]
theorem sIn:PyData.strOk (Str.ofString "in")=true:=by decide +kernel
theorem Z2F:PyData.strOk (Str.ofString "out")=true:=by decide +kernel
theorem dIO:(Str.ofString "out" =Str.ofString "in")=False:=eq_false (by decide +kernel)
theorem Z1g{w:Str}{xs:List Int}(hg:Z5 w xs=true){r:P3}(hr:RB r){s:Hu.Pt}(hs:PB (wA s)):mz [.sh (Z4 (Za w) w xs),.sh (pt s),.sh (c3 r)]=.ret (.sh (.bl (shB w xs s r))):=by
 have h1:=Z0X hg hr hs
 unfold ZX at h1
 unfold shB
 generalize Z4 (Za w) w xs=v at *
 generalize c3 r=R at *
 generalize pt s=Q at *
 cases e:Hu.Zx ((Z9 w xs).map (cst r)) (cst r (wA s)) with
 |none=>
  rw[e] at h1
  dsimp only at h1
  generalize Xn ((Z9 w xs).map (cst r)) (Hu.Z0M ((Z9 w xs).map (cst r)) (cst r (wA s)))=Y at *
  simp[mz,vQ,List.replicate,h1,cO sIn sIn]
 |some l=>
  rw[e] at h1
  dsimp only at h1
  generalize cQ l=Y at *
  simp[mz,vQ,List.replicate,h1,cO Z2F sIn,dIO]
structure YOk(w h:Nat)(T:List Th):Prop where
 w0:0<w
 w1:w≤60
 h1:h≤1000
 wh:w*h≤1000
 tl:T.length≤1000
 tg:∀t∈T,Z5 t.1 t.2=true
theorem Z2m{w k n:Nat}(hk:k<1000):PB (wA (bZ w k)):=by
 have h1:k % w≤k:=Nat.mod_le k w
 have h2:k / w≤k:=Nat.div_le_self k w
 unfold PB wA bZ
 dsimp only
 generalize k % w=a at *
 generalize k / w=b at *
 omega
theorem Z07{w h:Nat}{T:List Th}(Y:YOk w h T)(D:List Dy){o:Option P3}(ho:Xm o){k:Nat}(hk:k<1000):eE [.sh (Z0 w h T D),.sh (fQ o),.sh (pt (bZ w k))]=.ret (.sh (.bl (tW w T o k))):=by
 cases o with
 |none=>
  generalize Z0 w h T D=Yv at *
  simp[eE,pP,List.replicate,fQ,wZ,tW]
 |some r=>
  have ho:RB r∧0<r.2.2:=ho
  have yt:=y_t w h T D
  have e:T.findSome? (fun t=>if zR t (bZ w k) r=true then some () else none)=if(T.any fun t=>zR t (bZ w k) r)=true then some () else none:=by
   generalize T=T'
   induction T' with
   |nil=>rfl
   |cons t T' ih=>
    rw[List.findSome?_cons,List.any_cons]
    cases q:zR t (bZ w k) r with
    |true=>simp
    |false=>rw[Bool.false_or,←ih];simp
  have hn:wZ (c3 r)=false:=by simp[c3,wZ]
  rcases bN (g:=gN 3) (mb:=vR) jU (fun t=>if zR t (bZ w k) r=true then some () else none) (fun _=>.sh (.bl true)) (fun ρ=>∃s,ρ=[.sh (Z0 w h T D),.sh (c3 r),.sh (pt (bZ w k)),s]) T (by
   rintro t ht ρ ⟨s,rfl⟩
   have es:mz [.sh (jU t),.sh (pt (bZ w k)),.sh (c3 r)]=.ret (.sh (.bl (zR t (bZ w k) r))):=Z1g (Y.tg t ht) ho.1 (Z2m (n:=0) hk)
   refine⟨[.sh (Z0 w h T D),.sh (c3 r),.sh (pt (bZ w k)),.sh (jU t)],rfl,?_⟩
   generalize Z0 w h T D=Yv at *
   generalize c3 r=R at *
   generalize jU t=Tv at *
   generalize hP:pt (bZ w k)=Pv at *
   cases q:zR t (bZ w k) r with
   |true=>
    rw[q] at es
    exact .inl ⟨(),[.sh Yv,.sh R,.sh Pv,.sh Tv],by simp,by simp[vR,es]⟩
   |false=>
    rw[q] at es
    exact .inr ⟨[.sh Yv,.sh R,.sh Pv,.sh Tv],by simp,by simp[vR,es],_,rfl⟩) [.sh (Z0 w h T D),.sh (c3 r),.sh (pt (bZ w k)),.no] ⟨_,rfl⟩ with⟨_,ρ',q1,q2⟩|⟨ρ',q1,q2,_⟩
  ·rw[e] at q1
   have hd:tW w T (some r) k=true:=by
    show(T.any fun t=>zR t (bZ w k) r)=true
    cases q:T.any (fun t=>zR t (bZ w k) r) with
    |true=>rfl
    |false=>rw[q] at q1;simp at q1
   rw[hd]
   show eE [_,.sh (c3 r),_]=_
   generalize Z0 w h T D=Yv at *
   generalize c3 r=R at *
   generalize pt (bZ w k)=Pv at *
   simp[eE,pP,List.replicate,hn,yt,q2]
  ·rw[e] at q1
   have hd:tW w T (some r) k=false:=by
    show(T.any fun t=>zR t (bZ w k) r)=false
    cases q:T.any (fun t=>zR t (bZ w k) r) with
    |false=>rfl
    |true=>rw[q] at q1;simp at q1
   rw[hd]
   show eE [_,.sh (c3 r),_]=_
   generalize Z0 w h T D=Yv at *
   generalize c3 r=R at *
   generalize pt (bZ w k)=Pv at *
   simp[eE,pP,List.replicate,hn,yt,q2]
theorem ZY{w h:Nat}{T:List Th}{D:List Dy}{i:Nat}(hi:i<D.length):lZ [.sh (Z0 w h T D),.sh (.int i)]=.ret (.sh (.lst (D[i].2.2.map fQ))):=by
 have yd:=y_d w h T D
 have hx:(D.map bK)[i]?=some (bK D[i]):=by simp[hi]
 generalize Z0 w h T D=Yv at *
 generalize D.map bK=DV at *
 simp[lZ,Cm,List.replicate,yd,hx]
 simp[bK]
theorem Z08{w h:Nat}{T:List Th}(D:List Dy)(hw:0<w){k:Nat}(hk:k<w*h):lY [.sh (Z0 w h T D),.sh (pt (bZ w k))]=.ret (.sh .non):=by
 have yw:=y_w w h T D
 have yh:=y_h w h T D
 have h1:=Nat.mod_lt k hw
 have h2:=(Z1D (k:=k) (h:=h) hw).mpr hk
 have a1:(0:Int)≤((k % w:Nat):Int):=Int.natCast_nonneg _
 have a2:((k % w:Nat):Int)<(w:Int):=Int.ofNat_lt.mpr h1
 have a3:(0:Int)≤((k / w:Nat):Int):=Int.natCast_nonneg _
 have a4:((k / w:Nat):Int)<(h:Int):=Int.ofNat_lt.mpr h2
 unfold pt bZ
 dsimp only
 generalize Z0 w h T D=Yv at *
 generalize ((k % w:Nat):Int)=x at *
 generalize ((k / w:Nat):Int)=y at *
 have hs:sX [.sh Yv,.sh (.tup [.int x,.int y])]=.ret (.sh (.bl true)):=by
  simp[sX,Cg,List.replicate,yw,yh,a1,a2,a3,a4]
 simp[lY,Ci,List.replicate,hs]
theorem Z1Y{w h:Nat}{T:List Th}{D:List Dy}{i:Nat}(hi:i<D.length):sZ [.sh (Z0 w h T D),.sh (.int i)]=.ret (.sh .non):=by
 have yd:=y_d w h T D
 have hl:(D.map bK).length=D.length:=by simp
 have a1:(i:Int)<((D.map bK).length:Int):=by omega
 generalize Z0 w h T D=Yv at *
 generalize D.map bK=DV at *
 have hs:sY [.sh Yv,.sh (.int i)]=.ret (.sh (.bl true)):=by
  simp[sY,Cj,List.replicate,yd]
  omega
 simp[sZ,Ck,List.replicate,hs]
theorem Z09(f:Nat→PV):∀(n a:Nat),gM a ((List.range' a n).map f)=(List.range' a n).map fun(k:Nat)=>PV.tup [.int k,f k]
 |0,a=>rfl
 |n+1,a=>by
  rw[List.range'_succ,List.map_cons,List.map_cons]
  show _::gM (a+1) _=_
  rw[Z09 f n (a+1)]
theorem Z2B(f:Nat→PV)(n:Nat):gM 0 ((List.range n).map f)=(List.range n).map fun(k:Nat)=>PV.tup [.int k,f k]:=by
 rw[List.range_eq_range']
 exact Z09 f n 0
theorem Z0Y(os:List (Option P3)):(List.range os.length).map (fun j=>os.getD j none)=os:=by
 refine List.ext_getElem (by simp) fun i h1 h2=>?_
 simp at h1
 simp[h1]
theorem Z0J(os:List (Option P3)):gM 0 (os.map fQ)=(List.range os.length).map fun(k:Nat)=>PV.tup [.int k,fQ (os.getD k none)]:=by
 have h:=Z2B (fun j=>fQ (os.getD j none)) os.length
 have e:(List.range os.length).map (fun j=>fQ (os.getD j none))=os.map fQ:=by
  have:=congrArg (List.map fQ) (Z0Y os)
  rw[List.map_map] at this
  exact this
 rw[e] at h
 exact h
theorem Z0w{os:List (Option P3)}{j:Nat}(h:j<os.length):os.getD j none∈os:=by
 rw[List.getD_eq_getElem?_getD,List.getElem?_eq_getElem h]
 exact List.getElem_mem h
def ZB(w:Nat)(T:List Th)(os:List (Option P3))(k:Nat):List Nat:=(List.range os.length).filter fun j=>!tW w T (os.getD j none) k
def nV(j:Nat):PV:=.int (j:Int)
theorem Z0B{w h:Nat}{T:List Th}(Y:YOk w h T){lg:Nat}{D:List Dy}(hD:∀d∈D,Zp lg d)(qJ:lg≤100){i k:Nat}(hi:i<D.length)(hk:k<w*h):mD [.sh (Z0 w h T D),.sh (.int i),.sh (pt (bZ w k))]=.ret (.ow ((ZB w T D[i].2.2 k).map nV)):=by
 have e1:=Z08 (T:=T) D Y.w0 hk
 have e2:=Z1Y (w:=w) (h:=h) (T:=T) hi
 have e3:=ZY (w:=w) (h:=h) (T:=T) hi
 have hd:=hD D[i] (List.getElem_mem hi)
 obtain⟨os,hos⟩:∃os,D[i].2.2=os:=⟨_,rfl⟩
 have hd2:os.length≤lg∧∀o∈os,Xm o:=by rw[←hos];exact hd.2
 rw[hos] at e3 ⊢
 have hc:=cH (g:=gT 2 (Ħ (gN 2) (Ħ (gN 3) Ŭ))) (mt:=dI (cR (Ė (Ē eE (ą 0 (ą 3 (ą 1 ď))))))) (me:=Ģ 2) (fun(j:Nat)=>PV.tup [.int j,fQ (os.getD j none)]) nV (fun j=>!tW w T (os.getD j none) k) (fun ρ=>∃a b,ρ=[.sh (Z0 w h T D),.sh (pt (bZ w k)),a,b]) (List.range os.length) [.sh (Z0 w h T D),.sh (pt (bZ w k)),.no,.no] [] ⟨_,_,rfl⟩ (by simp;omega) (by
  rintro j hj ρ ⟨a,b,rfl⟩
  have hj:=List.mem_range.mp hj
  have ei:=Z07 Y D (hd2.2 _ (Z0w hj)) (k:=k) (by have:=Y.wh;omega)
  generalize os.getD j none=o at *
  generalize Z0 w h T D=Yv at *
  generalize fQ o=O at *
  generalize pt (bZ w k)=Pv at *
  generalize tW w T o k=b at *
  refine⟨[.sh Yv,.sh Pv,.sh (.int j),.sh O],[.sh Yv,.sh Pv,.sh (.int j),.sh O],by simp,by simp[ei],fun _=>⟨_,_,rfl⟩,fun _=>⟨[.sh Yv,.sh Pv,.sh (.int j),.sh O],by simp[nV],_,_,rfl⟩⟩)
 rw[List.nil_append] at hc
 have he:=Z0J os
 rw[←he] at hc
 unfold ZB
 generalize ((List.range os.length).filter fun j=>!tW w T (os.getD j none) k).map nV=R at *
 generalize Z0 w h T D=Yv at *
 generalize pt (bZ w k)=Pv at *
 generalize os.map fQ=OV at *
 simp[mD,Cy,List.replicate,e1,e2,e3,hc]
def Zi(w:Nat)(T:List Th)(k:Nat)(D:List Dy)(i:Nat):Option (Nat×Nat):=((List.range (D.getD i default).2.2.length).find? fun j=>!tW w T ((D.getD i default).2.2.getD j none) k).map fun j=>(i,j)
def pV:Option (Nat×Nat)→PV
 |none=>.non
 |some q=>.tup [.int q.1,.int q.2]
theorem Z0a{α β:Type}(p:α→Bool)(f:α→β):∀l:List α,l.findSome? (fun x=>if p x=true then some (f x) else none)=(l.find? p).map f
 | []=>rfl
 |x::l=>by
  rw[List.findSome?_cons,List.find?_cons]
  cases h:p x with
  |true=>simp
  |false=>simpa using Z0a p f l
theorem Z0C{w h:Nat}{T:List Th}(Y:YOk w h T){lg:Nat}{D:List Dy}(hD:∀d∈D,Zp lg d)(qJ:lg≤100)(hl:D.length≤100){k:Nat}(hk:k<w*h):pR [.sh (Z0 w h T D),.sh (pt (bZ w k))]=.ret (.sh (pV ((List.range D.length).findSome? (Zi w T k D)))):=by
 have e1:=Z08 (T:=T) D Y.w0 hk
 have yd:=y_d w h T D
 have rr:=Zs (n:=D.length) (by omega)
 have main:=bN (g:=gN 2) (mb:=vW) (fun(i:Nat)=>PV.int (i:Int)) (Zi w T k D) (fun q=>.sh (.tup [.int q.1,.int q.2])) (fun ρ=>∃a b c,ρ=[.sh (Z0 w h T D),.sh (pt (bZ w k)),a,b,c]) (List.range D.length) (by
  rintro i hi ρ ⟨a,b,c,rfl⟩
  have hi:=List.mem_range.mp hi
  have e3:=ZY (w:=w) (h:=h) (T:=T) hi
  have hd:=hD D[i] (List.getElem_mem hi)
  have hg:D.getD i default=D[i]:=by rw[List.getD_eq_getElem?_getD,List.getElem?_eq_getElem hi];rfl
  obtain⟨os,hos⟩:∃os,D[i].2.2=os:=⟨_,rfl⟩
  have hd2:os.length≤lg∧∀o∈os,Xm o:=by rw[←hos];exact hd.2
  have hf:Zi w T k D i=(List.range os.length).findSome? (fun j=>if(!tW w T (os.getD j none) k)=true then some (i,j) else none):=by
   unfold Zi
   rw[hg,hos,Z0a]
  rw[hos] at e3
  have inner:=bN (g:=gT 2 (Ħ (gN 3) (Ħ (gN 4) Ŭ))) (mb:=vV) (fun(j:Nat)=>PV.tup [.int j,fQ (os.getD j none)]) (fun j=>if(!tW w T (os.getD j none) k)=true then some (i,j) else none) (fun q=>.sh (.tup [.int ((q.1:Nat):Int),.int ((q.2:Nat):Int)])) (fun ρ=>∃b c,ρ=[.sh (Z0 w h T D),.sh (pt (bZ w k)),.sh (.int i),b,c]) (List.range os.length) (by
   rintro j hj ρ ⟨b,c,rfl⟩
   have hj:=List.mem_range.mp hj
   have ei:=Z07 Y D (hd2.2 _ (Z0w hj)) (k:=k) (by have:=Y.wh;omega)
   generalize os.getD j none=o at *
   generalize Z0 w h T D=Yv at *
   generalize fQ o=O at *
   generalize pt (bZ w k)=Pv at *
   generalize tW w T o k=bb at *
   refine⟨[.sh Yv,.sh Pv,.sh (.int i),.sh (.int j),.sh O],by simp,?_⟩
   cases bb with
   |false=>exact .inl ⟨(i,j),[.sh Yv,.sh Pv,.sh (.int i),.sh (.int j),.sh O],by simp,by simp[vV,ei]⟩
   |true=>exact .inr ⟨[.sh Yv,.sh Pv,.sh (.int i),.sh (.int j),.sh O],by simp,by simp[vV,ei],_,_,rfl⟩) [.sh (Z0 w h T D),.sh (pt (bZ w k)),.sh (.int i),b,c] ⟨_,_,rfl⟩
  rw[←Z0J os,←hf] at inner
  refine⟨[.sh (Z0 w h T D),.sh (pt (bZ w k)),.sh (.int i),b,c],rfl,?_⟩
  rcases inner with⟨r,ρ2,q1,q2⟩|⟨ρ2,q1,q2,b',c',rfl⟩
  ·refine .inl ⟨r,ρ2,q1,?_⟩
   generalize Z0 w h T D=Yv at *
   generalize pt (bZ w k)=Pv at *
   generalize os.map fQ=OV at *
   simp[vW,e3,q2]
  ·refine .inr ⟨[.sh (Z0 w h T D),.sh (pt (bZ w k)),.sh (.int i),b',c'],q1,?_,_,_,_,rfl⟩
   generalize Z0 w h T D=Yv at *
   generalize pt (bZ w k)=Pv at *
   generalize os.map fQ=OV at *
   simp[vW,e3,q2]) [.sh (Z0 w h T D),.sh (pt (bZ w k)),.no,.no,.no] ⟨_,_,_,rfl⟩
 have hdl:(D.map bK).length=D.length:=by simp
 have rr':aA [.int ((D.map bK).length:Int)]=some ((List.range D.length).map fun(i:Nat)=>PV.int (i:Int)):=by rw[hdl];exact rr
 generalize Z0 w h T D=Yv at *
 generalize pt (bZ w k)=Pv at *
 generalize D.map bK=DV at *
 rcases main with⟨r,ρ2,q1,q2⟩|⟨ρ2,q1,q2,_⟩
 ·rw[q1]
  simp[pR,vX,List.replicate,e1,yd,rr',q2,pV]
 ·rw[q1]
  simp[pR,vX,List.replicate,e1,yd,rr',q2,pV]
theorem Z1G(x:Int):cZ Zk Zl Zm Zn [.int x,.ty "int"]=some (.bl true):=rfl
theorem Z1h(x:Int):cZ Zk Zl Zm Zn [.int x,.ty "bool"]=some (.bl false):=rfl
theorem Z2n(x:List PV):cZ Zk Zl Zm Zn [.lst x,.ty "list"]=some (.bl true):=rfl
theorem Z2C(x:List PV):cZ Zk Zl Zm Zn [.tup x,.ty "tuple"]=some (.bl true):=rfl
theorem Z01(L:List Nat):L.map nV=(L.map fun(j:Nat)=>(j:Int)).map .int:=by simp[nV,Function.comp_def]
theorem Z2D(L:List Nat):cG (.lst (L.map nV)) (.lst (L.map nV))=some (.bl false):=by
 rw[Z01]
 exact Gh (by unfold aL;exact yg _) (by unfold dep;have:=yj (L.map fun(j:Nat)=>(j:Int));omega)
theorem ZZ{L:List Nat}(hn:L.length≤1000){s0 s1:P.Slot}(h0:Sl s0 (L.map nV))(h1:Sl s1 (L.map nV)):mF [s0,s1]=.ret (.sh (.bl true)):=by
 have e:=Z2D L
 have hc:=ő (g:=gN 0) (mt:=ŋ) (me:=eV (dM (cZ Zk Zl Zm Zn) (Ą (Ā 0) (Ą (mC (.ty "int")) Ĝ))) (Ig (dM (cZ Zk Zl Zm Zn) (Ą (Ā 0) (Ą (mC (.ty "bool")) Ĝ))))) nV (fun _=>.bl true) (fun ρ=>∃a,ρ=[a]) L [.no] [] ⟨_,rfl⟩ (by simp;omega) (by
  rintro k hk ρ ⟨a,rfl⟩
  exact⟨[.sh (nV k)],_,[.sh (nV k)],rfl,rfl,by simp[nV,Z1G,Z1h],_,rfl⟩)
 rw[List.nil_append] at hc
 have ha:mV [.lst (L.map fun _=>PV.bl true)]=some (.bl true):=by
  have:=Z0h (L.map fun _=>true)
  rw[List.map_map] at this
  have e2:(L.map fun _=>true).all id=true:=by simp
  rw[e2] at this
  exact this
 generalize L.map nV=X at *
 rcases h0 with rfl|rfl<;>rcases h1 with rfl|rfl<;>simp[mF,Cz,List.replicate,e,hc,Z2n,ha]
theorem Z1i(q:Option (Nat×Nat)):pQ [.sh (pV q),.sh (pV q)]=.ret (.sh (.bl true)):=by
 cases q with
 |none=>simp[pQ,vU,List.replicate,pV,wZ]
 |some q=>
  have e:cG (.tup [.int q.1,.int q.2]) (.tup [.int q.1,.int q.2])=some (.bl false):=by
   have:=Z0c ((q.1:Int),(q.2:Int)) ((q.1:Int),(q.2:Int))
   simpa[pt] using this
  simp[pQ,vU,List.replicate,pV,wZ,e,Z2C,Z1G,Z1h,ŉ]
  rfl
def mJ(w h:Nat)(T:List Th)(d:Dy):List PV:=d.2.2.map fun o=>.int (Dj w h T o)
theorem Z1Z{w h:Nat}{T:List Th}(Y:YOk w h T){lg:Nat}{D:List Dy}(hD:∀d∈D,Zp lg d)(qJ:lg≤100)(hl:D.length≤100) :
 ŉ (gT 3 (Ħ (gN 1) (Ħ (gN 2) (Ħ (gN 3) Ŭ)))) ŋ (Ė (Ŗ [0] 1 (Ő 3) (gN 1) ŋ (Ė (Ē fM (ą 0 (ą 1 ď)))))) (D.map bK) [.sh (Z0 w h T D),.no,.no,.no] []=some (D.map fun d=>.lst (mJ w h T d)):=by
 have hc:=ő (g:=gT 3 (Ħ (gN 1) (Ħ (gN 2) (Ħ (gN 3) Ŭ)))) (mt:=ŋ) (me:=Ė (Ŗ [0] 1 (Ő 3) (gN 1) ŋ (Ė (Ē fM (ą 0 (ą 1 ď)))))) bK (fun d=>.lst (mJ w h T d)) (fun ρ=>∃a b c,ρ=[.sh (Z0 w h T D),a,b,c]) D [.sh (Z0 w h T D),.no,.no,.no] [] ⟨_,_,_,rfl⟩ (by simp;omega) (by
  rintro d hd ρ ⟨a,b,c,rfl⟩
  have hdd:=hD d hd
  have hi:=ő (g:=gN 1) (mt:=ŋ) (me:=Ė (Ē fM (ą 0 (ą 1 ď)))) fQ (fun o=>.int (Dj w h T o)) (fun ρ=>∃a,ρ=[.sh (Z0 w h T D),a]) d.2.2 [.sh (Z0 w h T D),.no] [] ⟨_,rfl⟩ (by have:=hdd.2.1;simp;omega) (by
   rintro o ho ρ ⟨a,rfl⟩
   have e:=Z1U Y.w0 Y.w1 Y.h1 Y.wh Y.tl D Y.tg (hdd.2.2 o ho)
   generalize Z0 w h T D=Yv at *
   generalize fQ o=O at *
   refine⟨[.sh Yv,.sh O],_,[.sh Yv,.sh O],rfl,rfl,by simp[e],_,rfl⟩)
  rw[List.nil_append] at hi
  refine⟨[.sh (Z0 w h T D),.sh (.str d.1),.sh (.int d.2.1),.sh (.lst (d.2.2.map fQ))],_,[.sh (Z0 w h T D),.sh (.str d.1),.sh (.int d.2.1),.sh (.lst (d.2.2.map fQ))],by simp[bK],rfl,?_,_,_,_,rfl⟩
  unfold mJ
  generalize Z0 w h T D=Yv at *
  generalize d.2.2.map fQ=OV at *
  simp[hi])
 simpa using hc
theorem Z2o(L:List Nat):cG (.lst (L.map nV)) (.lst [])=some (.bl (!L.isEmpty)):=by
 have h1:aL (.lst (L.map nV))=true:=by rw[Z01];unfold aL;exact yg _
 have h2:dep (.lst (L.map nV))≤60:=by rw[Z01];unfold dep;have:=yj (L.map fun(j:Nat)=>(j:Int));omega
 have h3:aL (.lst [])=true:=rfl
 unfold cG qy
 rw[h1,h3]
 have h4:decide (min (dep (.lst (L.map nV))) (dep (.lst []))≤60)=true:=by rw[decide_eq_true_eq];omega
 rw[h4]
 cases L with
 |nil=>rfl
 |cons x L=>
  show some (PV.bl !eqB (.lst ((x::L).map nV)) (.lst []))=_
  simp[eqB,dU]
theorem Z20{w h:Nat}{T:List Th}{lg:Nat}{D:List Dy}(hD:∀d∈D,Zp lg d)(qJ:lg≤100){i k:Nat}(hi:i<D.length)(hk:k<w*h)(s3:P.Slot) :
 ŉ (gN 3) (dF (Ĉ aG (Ĉ oF (Ĉ wY (Ĉ ě (Ĉ ě (Ā 1) (Ā 2)) (Ā 3)) (Ā 0)) (mC (.int 1))) (mC (.int 0)))) (Ģ 3) ((List.range D[i].2.2.length).map fun(j:Nat)=>PV.int (j:Int)) [.sh (.int k),.bw (D.map fun d=>.lst (mJ w h T d)),.sh (.int i),s3] []=some ((ZB w T D[i].2.2 k).map nV):=by
 have hx:(D.map fun d=>PV.lst (mJ w h T d))[i]?=some (.lst (mJ w h T D[i])):=by simp[hi]
 have hd:=hD D[i] (List.getElem_mem hi)
 obtain⟨os,hos⟩:∃os,D[i].2.2=os:=⟨_,rfl⟩
 have hol:os.length≤lg:=by rw[←hos];exact hd.2.1
 have hq:mJ w h T D[i]=os.map fun o=>PV.int (Dj w h T o):=by unfold mJ;rw[hos]
 rw[hq] at hx
 rw[hos]
 generalize (D.map fun d=>PV.lst (mJ w h T d))=SV at *
 have hc:=cH (g:=gN 3) (mt:=dF (Ĉ aG (Ĉ oF (Ĉ wY (Ĉ ě (Ĉ ě (Ā 1) (Ā 2)) (Ā 3)) (Ā 0)) (mC (.int 1))) (mC (.int 0)))) (me:=Ģ 3) (fun(j:Nat)=>PV.int (j:Int)) nV (fun j=>!tW w T (os.getD j none) k) (fun ρ=>∃a,ρ=[.sh (.int k),.bw SV,.sh (.int i),a]) (List.range os.length) [.sh (.int k),.bw SV,.sh (.int i),s3] [] ⟨_,rfl⟩ (by simp;omega) (by
  rintro j hj ρ ⟨a,rfl⟩
  have hj:=List.mem_range.mp hj
  have hy:(os.map fun o=>PV.int (Dj w h T o))[j]?=some (.int (Dj w h T (os.getD j none))):=by
   rw[List.getD_eq_getElem?_getD,List.getElem?_eq_getElem hj]
   simp[hj]
  generalize os.getD j none=o at *
  have hb:(Dj w h T o).testBit k=tW w T o k:=by rw[Dj,Zv];simp[hk]
  have sb:oF (.int ((Dj w h T o:Int) / 2 ^ k)) (.int 1)=some (.int (if tW w T o k then 1 else 0)):=by
   show some (PV.int (Builtin.bitAnd ((Dj w h T o:Int) / 2 ^ k) 1))=_
   rw[Z2u,Z1R,hb]
  have so:wX (Dj w h T o:Int) (k:Int)=true:=by unfold wX;simp
  generalize Dj w h T o=A at *
  generalize (os.map fun o=>PV.int (Dj w h T o))=OA at *
  refine⟨[.sh (.int k),.bw SV,.sh (.int i),.sh (.int j)],[.sh (.int k),.bw SV,.sh (.int i),.sh (.int j)],rfl,?_,fun _=>⟨_,rfl⟩,fun _=>⟨[.sh (.int k),.bw SV,.sh (.int i),.sh (.int j)],by simp[nV],_,rfl⟩⟩
  cases hd:tW w T o k<;>rw[hd] at sb<;>simp at sb<;>simp[hx,hy,so,sb])
 simpa[ZB] using hc
theorem Z1j(w:Nat)(T:List Th)(k:Nat){D:List Dy}{i:Nat}(hi:i<D.length):Zi w T k D i=(ZB w T D[i].2.2 k).head?.map fun j=>(i,j):=by
 have hg:D.getD i default=D[i]:=by rw[List.getD_eq_getElem?_getD,List.getElem?_eq_getElem hi];rfl
 unfold Zi ZB
 rw[hg,List.head?_filter]
def nxt(w:Nat)(T:List Th)(k:Nat)(D:List Dy)(b:Option (Nat×Nat))(i:Nat):Option (Nat×Nat):=b.or (Zi w T k D i)
theorem Z0K{α β:Type}(f:α→Option β):∀(xs:List α) (b:Option β),xs.foldl (fun b x=>b.or (f x)) b=b.or (xs.findSome? f)
 | [],b=>by simp
 |x::xs,b=>by
  rw[List.foldl_cons,Z0K f xs,List.findSome?_cons]
  cases b with
  |some b=>simp
  |none=>cases f x<;>simp
theorem Z21{w h:Nat}{T:List Th}(Y:YOk w h T){lg:Nat}{D:List Dy}(hD:∀d∈D,Zp lg d)(qJ:lg≤100){i k:Nat}(hi:i<D.length)(hk:k<w*h)(b:Option (Nat×Nat))(z0 z1 z2 z3 z4 QZ Q_:P.Slot):∃y11 y12,lE [z0,z1,z2,z3,z4,.sh (Z0 w h T D),.ow (D.map fun d=>.lst (mJ w h T d)),.sh (.int k),.sh (pt (bZ w k)),.sh (pV b),.sh (.int i),QZ,Q_]=.ok .nx [z0,z1,z2,z3,z4,.sh (Z0 w h T D),.ow (D.map fun d=>.lst (mJ w h T d)),.sh (.int k),.sh (pt (bZ w k)),.sh (pV (nxt w T k D b i)),.sh (.int i),y11,y12]:=by
 have hx:(D.map fun d=>PV.lst (mJ w h T d))[i]?=some (.lst (mJ w h T D[i])):=by simp[hi]
 have hdl:(mJ w h T D[i]).length=D[i].2.2.length:=by simp[mJ]
 have hd:=hD D[i] (List.getElem_mem hi)
 have rr:=Zs (n:=D[i].2.2.length) (by have:=hd.2.1;omega)
 have rr':aA [.int ((mJ w h T D[i]).length:Int)]=some ((List.range D[i].2.2.length).map fun(j:Nat)=>PV.int (j:Int)):=by rw[hdl];exact rr
 have q1:=Z20 (w:=w) (h:=h) (T:=T) hD qJ hi hk .no
 have q2:=Z0B Y hD qJ hi hk
 have hll:(ZB w T D[i].2.2 k).length≤1000:=by
  unfold ZB
  have:=List.length_filter_le (fun j=>!tW w T (D[i].2.2.getD j none) k) (List.range D[i].2.2.length)
  have:=hd.2.1
  simp at *
  omega
 have hf:=Z1j w T k hi
 unfold nxt
 rw[hf]
 generalize ZB w T D[i].2.2 k=L at *
 have q3:=ZZ hll (s0:=.bw (L.map nV)) (s1:=.bw (L.map nV)) (.inr rfl) (.inr rfl)
 have q4:=ZZ hll (s0:=.sh (.lst (L.map nV))) (s1:=.bw (L.map nV)) (.inl rfl) (.inr rfl)
 have q5:=Z2o L
 have hlen:(L.map nV).length<16777216:=by simp;omega
 generalize Z0 w h T D=Yv at *
 generalize pt (bZ w k)=Pv at *
 generalize (D.map fun d=>PV.lst (mJ w h T d))=SV at *
 generalize mJ w h T D[i]=DL at *
 refine⟨.ow (L.map nV),.ow (L.map nV ++ [.int 0]),?_⟩
 cases b with
 |some b=>
  have hn:wZ (pV (some b))=false:=rfl
  have e:(some b).or (L.head?.map fun j=>(i,j))=some b:=rfl
  rw[e]
  generalize pV (some b)=B at *
  generalize L.map nV=LV at *
  simp[lE,hx,rr',q1,hn,q2,q3,hlen,q4]
 |none=>
  have hn:wZ (pV none)=true:=rfl
  cases L with
  |nil=>
   have e:(none:Option (Nat×Nat)).or (([]:List Nat).head?.map fun j=>(i,j))=none:=rfl
   rw[e]
   have q5':cG (.lst (([]:List Nat).map nV)) (.lst [])=some (.bl false):=q5
   generalize pV none=B at *
   generalize ([]:List Nat).map nV=LV at *
   simp[lE,hx,rr',q1,hn,q2,q3,hlen,q4,q5']
  |cons j L=>
   have e:(none:Option (Nat×Nat)).or ((j::L).head?.map fun j=>(i,j))=some (i,j):=rfl
   rw[e]
   have q5':cG (.lst ((j::L).map nV)) (.lst [])=some (.bl true):=q5
   have h0:((j::L).map nV)[0]?=some (.int (j:Int)):=rfl
   have e2:pV (some (i,j))=.tup [.int (i:Int),.int (j:Int)]:=rfl
   rw[e2]
   generalize pV none=B at *
   generalize (j::L).map nV=LV at *
   simp[lE,hx,rr',q1,hn,q2,q3,hlen,q4,q5',h0]
def Zh(t:Th):PV:=.tup [.str t.1,.lst (t.2.map .int)]
theorem Z2p(w h:Nat):iY [.tup [.int w,.int h]]=some (.int ((max w h:Nat):Int)):=by
 show some (PV.int (max (w:Int) h))=_
 congr 2
 omega
theorem Z0x{w h:Nat}(hw:1≤w∧w≤20)(hh:1≤h∧h≤20):∀(cs:List Int) (acc:List PV) (s1:P.Slot),acc.length+cs.length≤1000→∃T:List Th,ŉ (gN 1) ŋ (Ė (Ē dZ (ą 1 (ė (dM iY (Ą (Ā 0) Ĝ)) ď)))) (cs.map .int) [.sh (.tup [.int w,.int h]),s1] acc=some (acc++T.map Zh)∧T.length=cs.length∧∀t∈T,Z5 t.1 t.2=true
 | [],acc,s1,_=>⟨[],by simp[ŉ],rfl,by simp⟩
 |c::cs,acc,s1,ha=>by
  obtain⟨t,e1,e2⟩:=Z1d c (w:=((max w h:Nat):Int)) (by omega) (by omega)
  obtain⟨T,q1,q2,q3⟩:=Z0x hw hh cs (acc ++ [Zh t]) (.sh (.int c)) (by simp at ha ⊢;omega)
  refine⟨t::T,?_,by simp[q2],?_⟩
  ·have hz:acc.length<16777216:=by simp at ha;omega
   have mx:=Z2p w h
   change dZ _=.ret (.sh (Zh t)) at e1
   generalize hR:Zh t=R at *
   generalize ((max w h:Nat):Int)=m at *
   rw[List.map_cons,ŉ]
   simp[mx,e1,hz,hR]
   simpa using q1
  ·intro x hx
   rcases List.mem_cons.mp hx with rfl|hx
   ·exact e2
   ·exact q3 x hx
theorem Z1z{w:Str}{xs:List Int}(h:Z5 w xs=true):PyData.strOk w=true:=by
 unfold Z5 at h
 by_cases e1:w= "post"
 ·rw[e1];exact s1
 rw[if_neg e1] at h
 by_cases e2:w= "fence"
 ·rw[e2];exact s2
 rw[if_neg e2] at h
 by_cases e3:w= "sail"
 ·rw[e3];exact s3
 rw[if_neg e3] at h
 by_cases e4:w= "cloth"
 ·rw[e4];exact s4
 rw[if_neg e4] at h
 by_cases e5:w= "house"
 ·rw[e5];exact s5
 rw[if_neg e5] at h
 cases h
theorem Z1k{T:List Th}(hl:T.length≤1000)(hg:∀t∈T,Z5 t.1 t.2=true)(s0 s1:P.Slot):ŉ (gT 2 (Ħ (gN 0) (Ħ (gN 1) Ŭ))) ŋ (Ė (Ē cP (ą 0 (ė (Ė (nZ dX (Ą (Ā 1) Ĝ))) ď)))) (T.map Zh) [s0,s1] []=some (T.map jU):=by
 have hc:=ő (g:=gT 2 (Ħ (gN 0) (Ħ (gN 1) Ŭ))) (mt:=ŋ) (me:=Ė (Ē cP (ą 0 (ė (Ė (nZ dX (Ą (Ā 1) Ĝ))) ď)))) Zh jU (fun ρ=>∃a b,ρ=[a,b]) T [s0,s1] [] ⟨_,_,rfl⟩ (by simp;omega) (by
  rintro t ht ρ ⟨a,b,rfl⟩
  have e:=Z1q (Z1z (hg t ht)) (xs:=t.2) (sl:=.sh (.lst (t.2.map .int))) (.inl rfl)
  rw[if_pos (hg t ht)] at e
  change cP _=.ret (.sh (jU t)) at e
  refine⟨[.sh (.str t.1),.sh (.lst (t.2.map .int))],_,[.sh (.str t.1),.sh (.lst (t.2.map .int))],by simp[Zh],rfl,?_,_,_,rfl⟩
  generalize t.2.map PV.int=X at *
  generalize jU t=V at *
  simp[e])
 simpa using hc
noncomputable def Z0y:M Fl:=(Ğ (Ĵ 4 (Ŗ [] 2 (Ő 2) (gT 2 (Ħ (gN 0) (Ħ (gN 1) Ŭ))) ŋ (Ė (Ē cP (ą 0 (ė (Ė (nZ dX (Ą (Ā 1) Ĝ))) ď)))))) (Ğ (Ĵ 5 (Ř (cj "Yard" jL (ė (Ĉ ě (Ā 1) (mC (.int 0))) (ė (Ĉ ě (Ā 1) (mC (.int 1))) (ą 4 (ą 3 ď))))))) (Ğ (Ĵ 6 (Ŗ [5] 3 (Ő 3) (gT 3 (Ħ (gN 1) (Ħ (gN 2) (Ħ (gN 3) Ŭ)))) ŋ (Ė (Ŗ [0] 1 (Ő 3) (gN 1) ŋ (Ė (Ē fM (ą 0 (ą 1 ď)))))))) (Ğ (cT (aF aA (Ą (Ĉ į (Ĉ ě (Ā 1) (mC (.int 0))) (Ĉ ě (Ā 1) (mC (.int 1)))) Ĝ)) (gN 7) pU) (ĳ (Ř (mC (.bl true))))))))
theorem Z2q:CG=(Ğ (Ĵ 1 (Ē dY (ė (Ė (Ē Ű (ą 0 (ė (mC (.int 0)) ď)))) (ė (mC (.int 9)) ď)))) (Ğ (Ĵ 2 (Ŗ [1] 1 (ũ (Ė (Ba (Ā 0) (mP (mC (.int 2))) (mP (mC (.int 6)))))) (gN 1) ŋ (Ė (Ē dZ (ą 1 (ė (dM iY (Ą (Ā 0) Ĝ)) ď)))))) (Ğ (Ĵ 3 (Ē fK (ą 0 (ė (mC (.int 6)) (ė (Ĉ ō (Ė (Ē Ű (ą 0 (ė (mC (.int 1)) ď)))) (mC (.int 4))) (ė (mC (.int 4)) ď)))))) (Ğ (cU (dF (Ĉ aG (Ĉ ō (Ĉ aU (Ė (Ē Ű (ą 0 (ė (mC (.int 1)) ď)))) (mC (.int 4))) (mC (.int 16))) (mC (.int 9)))) (Ğ (Ĵ 1 (Ř (Ś (Ą (Ė (ł Ľ (mC (.int 1)) (Ĉ ō (Ė (Ē Ű (ą 0 (ė (mC (.int 0)) ď)))) (mC (.int 2))))) (Ą (mC (.int 1)) Ĝ))))) (Ğ (Ĵ 2 (Ba (Ā 2) xg (mP (mC (.int 1))))) (Ĵ 3 (Ē fK (ą 0 (ė (mC (.int 6)) (ė (mC (.int 3)) (ė (mC (.int 24)) ď)))))))) dO) Z0y)))):=rfl
theorem Z22{w h:Nat}{T:List Th}(Y:YOk w h T){lg:Nat}{D:List Dy}(hD:∀d∈D,Zp lg d)(qJ:lg≤100)(hl:D.length≤100){k:Nat}(hk:k<w*h)(z0 z2 z4 z8 z9 UL QZ Q_:P.Slot):∃y8 y9 y10 y11 y12,pU [z0,.sh (.tup [.int w,.int h]),z2,.sh (.lst (D.map bK)),z4,.sh (Z0 w h T D),.ow (D.map fun d=>.lst (mJ w h T d)),.sh (.int k),z8,z9,UL,QZ,Q_]=.ok .nx [z0,.sh (.tup [.int w,.int h]),z2,.sh (.lst (D.map bK)),z4,.sh (Z0 w h T D),.ow (D.map fun d=>.lst (mJ w h T d)),.sh (.int k),y8,y9,y10,y11,y12]:=by
 have hw:=Y.w0
 have hz:¬w=0:=by omega
 have m1:((k:Int)).fmod (w:Int)=((k % w:Nat):Int):=by rw[Int.fmod_eq_emod_of_nonneg _ (by omega)];rfl
 have m2:((k:Int)).fdiv (w:Int)=((k / w:Nat):Int):=by rw[Int.fdiv_eq_ediv_of_nonneg _ (by omega)];rfl
 have fo:fG (k:Int) (w:Int)=true:=Vy (by omega) (by have:=Y.w1;omega) (by have:=Y.w1;omega)
 have rr:=Zs (n:=D.length) (by omega)
 have hdl:(D.map bK).length=D.length:=by simp
 have rr':aA [.int ((D.map bK).length:Int)]=some ((List.range D.length).map fun(i:Nat)=>PV.int (i:Int)):=by rw[hdl];exact rr
 obtain⟨ρ',e1,y10,y11,y12,rfl⟩:=cL (g:=gN 10) (mb:=lE) (fun(i:Nat)=>PV.int (i:Int)) (fun b i=>nxt w T k D b i) (fun b ρ=>∃a c d,ρ=[z0,.sh (.tup [.int w,.int h]),z2,.sh (.lst (D.map bK)),z4,.sh (Z0 w h T D),.ow (D.map fun d=>.lst (mJ w h T d)),.sh (.int k),.sh (pt (bZ w k)),.sh (pV b),a,c,d]) (List.range D.length) (by
  rintro i hi b ρ ⟨a,c,d,rfl⟩
  have hi:=List.mem_range.mp hi
  obtain⟨y11,y12,e⟩:=Z21 Y hD qJ hi hk b z0 (.sh (.tup [.int w,.int h])) z2 (.sh (.lst (D.map bK))) z4 c d
  exact⟨_,_,rfl,e,_,_,_,rfl⟩) none [z0,.sh (.tup [.int w,.int h]),z2,.sh (.lst (D.map bK)),z4,.sh (Z0 w h T D),.ow (D.map fun d=>.lst (mJ w h T d)),.sh (.int k),.sh (pt (bZ w k)),.sh (pV none),UL,QZ,Q_] ⟨_,_,_,rfl⟩
 have hfo:(List.range D.length).foldl (fun b i=>nxt w T k D b i) none=(List.range D.length).findSome? (Zi w T k D):=by
  have:=Z0K (Zi w T k D) (List.range D.length) none
  simpa[nxt] using this
 rw[hfo] at e1
 have q1:=Z0C Y hD qJ hl hk
 generalize (List.range D.length).findSome? (Zi w T k D)=q at *
 have q2:=Z1i q
 have hs:PV.tup [.int ((k % w:Nat):Int),.int ((k / w:Nat):Int)]=pt (bZ w k):=rfl
 refine⟨.sh (pt (bZ w k)),.sh (pV q),y10,y11,y12,?_⟩
 generalize Z0 w h T D=Yv at *
 generalize pt (bZ w k)=Pv at *
 generalize ((k % w:Nat):Int)=a1 at *
 generalize ((k / w:Nat):Int)=a2 at *
 generalize (D.map fun d=>PV.lst (mJ w h T d))=SV at *
 generalize D.map bK=DV at *
 generalize pV q=Q at *
 change forL _ _ _ [_,_,_,_,_,_,_,_,_,.sh .non,_,_,_]=_ at e1
 simp[pU,hz,m1,m2,fo,hs,rr',e1,q1,q2]
theorem Z0L{w h:Nat}(hw:1≤w∧w≤20)(hh:1≤h∧h≤20)(hwh:w*h≤20){T:List Th}(hT:T.length≤100)(hg:∀t∈T,Z5 t.1 t.2=true){lg:Nat}(qJ:lg≤100){D:List Dy}(hDl:D.length≤12)(hD:∀d∈D,Zp lg d)(z0 z4 z5 z6 z7 z8 z9 UL QZ Q_:P.Slot) :
 FR.of (Z0y [z0,.sh (.tup [.int w,.int h]),.ow (T.map Zh),.ow (D.map bK),z4,z5,z6,z7,z8,z9,UL,QZ,Q_])=.ret (.sh (.bl true)):=by
 have Y:YOk w h T:=⟨by omega,by omega,by omega,by omega,by omega,hg⟩
 have q1:=Z1k (T:=T) (by omega) hg .no .no
 have q2:=Z1S (w:Int) (h:Int) (T:=T) (D:=D) (by omega) (by omega) (s3:=.bw (T.map jU)) (s4:=.bw (D.map bK)) (.inr rfl) (.inr rfl)
 have mo:ř (w:Int) (h:Int)=true:=bx (by omega) (by omega)
 have rr:=Zs (n:=w*h) (by omega)
 rw[Int.natCast_mul] at rr
 have q3:=Z1Z Y hD qJ (by omega)
 obtain⟨ρ',e1,y7,y8,y9,y10,y11,y12,rfl⟩:=cL (g:=gN 7) (mb:=pU) (fun(i:Nat)=>PV.int (i:Int)) (fun(_:Unit) (_:Nat)=>()) (fun _ ρ=>∃a b c d e f,ρ=[z0,.sh (.tup [.int w,.int h]),.sh (.lst (T.map Zh)),.sh (.lst (D.map bK)),.ow (T.map jU),.sh (Z0 w h T D),.ow (D.map fun d=>.lst (mJ w h T d)),a,b,c,d,e,f]) (List.range (w*h)) (by
  rintro k hk _ ρ ⟨a,b,c,d,e,f,rfl⟩
  have hk:=List.mem_range.mp hk
  obtain⟨y8,y9,y10,y11,y12,q⟩:=Z22 Y hD qJ (by omega) hk z0 (.sh (.lst (T.map Zh))) (.ow (T.map jU)) b c d e f
  exact⟨_,_,rfl,q,_,_,_,_,_,_,rfl⟩) () [z0,.sh (.tup [.int w,.int h]),.sh (.lst (T.map Zh)),.sh (.lst (D.map bK)),.ow (T.map jU),.sh (Z0 w h T D),.ow (D.map fun d=>.lst (mJ w h T d)),z7,z8,z9,UL,QZ,Q_] ⟨_,_,_,_,_,_,rfl⟩
 have hY:PV.ins "Yard" ["width","height","things","days"] [.int w,.int h,.lst (T.map jU),.lst (D.map bK)]=Z0 w h T D:=rfl
 generalize Z0 w h T D=Yv at *
 generalize T.map Zh=TR at *
 generalize T.map jU=TV at *
 generalize (D.map fun d=>PV.lst (mJ w h T d))=SV at *
 generalize D.map bK=DV at *
 simp[Z0y,q1,cj,q2,hY,mo,rr,q3,e1]
theorem slI(xs:List Int)(lo hi:Option Int):∃ys:List Int,cg (xs.map PV.int) lo hi=ys.map PV.int∧ys.length≤xs.length:=by
 refine⟨(xs.drop (HT.gW xs.length 0 lo)).take (HT.gW xs.length xs.length hi-HT.gW xs.length 0 lo),?_,by simp;omega⟩
 unfold cg
 rw[List.length_map,List.map_take,List.map_drop]
theorem slR(T:List Th):∃T':List Th,cg (T.map Zh) none (some 1)=T'.map Zh∧T'.length≤T.length∧∀t∈T',t∈T:=by
 refine⟨T.take (HT.gW T.length T.length (some 1)),?_,by simp;omega,fun t ht=>List.mem_of_mem_take ht⟩
 unfold cg
 rw[List.length_map,List.map_take]
 rfl
abbrev FN(nm q:Str)(st:Stmt)(kV dc pm:Value)(an:Option Addr)(cd ct:Value):FuncData:=PySem.W.fnOf nm q (gY st) (bQ st) (ĉ st) .none kV dc pm an cd ct
abbrev LK(K:PySem.W.Frag)(g:Addr)(oc:Value)(od:Option Addr)(f:FuncData)(sl:Array (Option Value)):Prop:=K.lookup g=some ⟨oc,od,.func f,sl⟩
theorem Z2r{l:PySem.W.OpenLaw}{w:World}{K:PySem.W.Frag}{h:Heap}{mg:Str→Option Value}{fa:Addr}(X:K.In h)(G:h.Ns mainGlobals mg)(hfa:mg "law" =some (.ref fa))
 {C0 C1 C2 C3 C4 C5 C6 C7 C8 C9 C10 C11 g0 g1 g2 g3 g4 g5 g6 g7 g8 g9 g10 g11 Rj g13 g14 g15 g16 g17 g18 g19 g20 g21 g22 g23 g24 g25 g26 g27 g28 g29 g30 g31 g32 g33 g34 g35 g36 g37 g38 g39 g40 g41 g42 g43 g44 g45 g46 g47 g48 g49 g50 g51 g52 g53 g54 g55 g56 g57 g58 g59 g60 g61 g62 g63 g64 g65 g66:Addr}{od0 an0 od1 an1 od2 an2 od3 an3 od4 an4 od5 an5 od6 an6 od7 an7 od8 an8 od9 an9 Zmt Zfi Zmu Zfj Zmv Zfk Zmw Zfl Zmx Zfm Zmy Zfn Zmz Zfo ZmA Zfp ZmB Zfq ZmC Zfr ZmD Zfs ZmE Zft ZmF Zfu ZmG Zfv ZmH Zfw ZmI Zfx ZmJ Zfy ZmK Zfz ZmL ZfA ZmM ZfB ZmN ZfC ZmO ZfD ZmP ZfE ZmQ ZfF ZmR ZfG ZmS ZfH ZmT ZfI ZmU ZfJ ZmV ZfK ZmW ZfL ZmX ZfM ZmY ZfN ZmZ ZfO Zm0 ZfP Zm1 ZfQ Zm2 ZfR Zm3 ZfS Zm4 ZfT Zm5 ZfU Zm6 ZfV Zm7 ZfW Zm8 ZfX Zm9 ZfY Zm_ ZfZ Zna Zf0 Znb Zf1 Znc Zf2 Znd Zf3 Zne Zf4 Znf Zf5 Zng Zf6 Znh Zf7 Zni Zf8 Znj Zf9 Znk Zb1 Znl Zf_ Znm Zga:Option Addr}{sl0 sl1 sl2 sl3 sl4 sl5 sl6 sl7 sl8 sl9 Znn Zno Znp Znq Znr Zns Znt Znu Znv Znw Znx Zny Znz ZnA ZnB ZnC ZnD ZnE ZnF ZnG ZnH ZnI ZnJ ZnK ZnL ZnM ZnN ZnO ZnP ZnQ ZnR ZnS ZnT ZnU ZnV ZnW ZnX ZnY ZnZ Zn0 Zn1 Zn2 Zn3 Zn4 Zn5 Zn6 Zn7 Zn8 Zn9 Zn_ Zoa Zob Zoc Zod Zoe Zof Zog:Array (Option Value)}{oc0 kV0 dc0 pm0 cd0 ct0 oc1 kV1 dc1 pm1 cd1 ct1 oc2 kV2 dc2 pm2 cd2 ct2 oc3 kV3 dc3 pm3 cd3 ct3 oc4 kV4 dc4 pm4 cd4 ct4 oc5 kV5 dc5 pm5 cd5 ct5 oc6 kV6 dc6 pm6 cd6 ct6 oc7 kV7 dc7 pm7 cd7 ct7 oc8 kV8 dc8 pm8 cd8 ct8 oc9 kV9 dc9 pm9 cd9 ct9 Zoh Zgb Zgc Zgd Zb2 Zge Zoi Zgf Zgg Zgh Zb3 Zgi Zoj Zgj Zgk Zgl Zb4 Zgm Zok Zgn Zgo Zgp Zb5 Zgq Zol Zgr Zgs Zgt Zb6 Zgu Zom Zgv Zgw Zgx Zb7 Zgy Zon Zgz ZgA ZgB Zb8 ZgC Zoo ZgD ZgE ZgF Zb9 ZgG Zop ZgH ZgI ZgJ Zb_ ZgK Zoq ZgL ZgM ZgN Zca ZgO Zor ZgP ZgQ ZgR Zcb ZgS Zos ZgT ZgU ZgV Zcc ZgW Zot ZgX ZgY ZgZ Zcd Zg0 Zou Zg1 Zg2 Zg3 Zce Zg4 Zov Zg5 Zg6 Zg7 Zcf Zg8 Zow Zg9 Zg_ Zha Zcg Zhb Zox Zhc Zhd Zhe Zch Zhf Zoy Zhg Zhh Zhi Zci Zhj Zoz Zhk Zhl Zhm Zcj Zhn ZoA Zho Zhp Zhq Zck Zhr ZoB Zhs Zht Zhu Zcl Zhv ZoC Zhw Zhx Zhy Zcm Zhz ZoD ZhA ZhB ZhC Zcn ZhD ZoE ZhE ZhF ZhG Zco ZhH ZoF ZhI ZhJ ZhK Zcp ZhL ZoG ZhM ZhN ZhO Zcq ZhP ZoH ZhQ ZhR ZhS Zcr ZhT ZoI ZhU ZhV ZhW Zcs ZhX ZoJ ZhY ZhZ Zh0 Zct Zh1 ZoK Zh2 Zh3 Zh4 Zcu Zh5 ZoL Zh6 Zh7 Zh8 Zcv Zh9 ZoM Zh_ Zia Zib Zcw Zic ZoN Zid Zie Zif Zcx Zig ZoO Zih Zii Zij Zcy Zik ZoP Zil Zim Zin Zcz Zio ZoQ Ziq Zir Zis ZcA Zit ZoR Ziu Ziv Ziw ZcB Zix ZoS Ziy Ziz ZiA ZcC ZiB ZoT ZiC ZiD ZiE ZcD ZiF ZoU ZiG ZiH ZiI ZcE ZiJ ZoV ZiK ZiL ZiM ZcF ZiN ZoW ZiO ZiP ZiQ ZcG ZiR ZoX ZiS ZiT ZiU ZcH ZiV ZoY ZiW ZiX ZiY ZcI ZiZ ZoZ Zi0 Zi1 Zi2 ZcJ Zi3 Zo0 Zi4 Zi5 Zi6 ZcK Zi7 Zo1 Zi8 Zi9 Zi_ ZcL Zja Zo2 Zjb Zjc Zjd ZcM Zje Zo3 Zjf Zjg Zjh ZcN Zji Zo4 Zjj Zjk Zjl ZcO Zjm Zo5 Zjn Zjo Zjp ZcP Zjq Zo6 Zjr Zjs Zjt ZcQ Zju Zo7 Zjv Zjw Zjx ZcR Zjy Zo8 Zjz ZjA ZjB ZcS ZjC Zo9 ZcT ZcU ZcV UW ZcW Zo_ ZjD ZjE ZjF ZcX ZjG Zpa ZjH ZjI ZjJ ZcY ZjK:Value}
 {tk0:Tok}
 {tk1:Tok}
 (u0:PySem.W.nsIn K mainGlobals "YardError" =some (some (.ref C0)))
 (u1:PySem.W.nsIn K mainGlobals "NoNumber" =some (some (.ref C1)))
 (u2:PySem.W.nsIn K mainGlobals "BadThing" =some (some (.ref C2)))
 (u3:PySem.W.nsIn K mainGlobals "NoStone" =some (some (.ref C3)))
 (u4:PySem.W.nsIn K mainGlobals "NoTurn" =some (some (.ref C4)))
 (u5:PySem.W.nsIn K mainGlobals "Yard" =some (some (.ref C5)))
 (u6:PySem.W.nsIn K mainGlobals "Thing" =some (some (.ref C6)))
 (u7:PySem.W.nsIn K mainGlobals "Post" =some (some (.ref C7)))
 (u8:PySem.W.nsIn K mainGlobals "Fence" =some (some (.ref C8)))
 (u9:PySem.W.nsIn K mainGlobals "Sail" =some (some (.ref C9)))
 (u10:PySem.W.nsIn K mainGlobals "Cloth" =some (some (.ref C10)))
 (u11:PySem.W.nsIn K mainGlobals "House" =some (some (.ref C11)))
 (a0:PySem.W.nsIn K mainGlobals "_law_size" =some (some (.ref g0)))
 (l0:LK K g0 oc0 od0 (FN "_law_size" "_law_size" yx kV0 dc0 pm0 an0 cd0 ct0) sl0)
 (c0:PySem.W.codeIn K cd0 "_law_size" =true)(k0:PySem.W.keepIn K (.ref g0)=true)
 (a1:PySem.W.nsIn K mainGlobals "_law_at" =some (some (.ref g1)))
 (l1:LK K g1 oc1 od1 (FN "_law_at" "_law_at" yC kV1 dc1 pm1 an1 cd1 ct1) sl1)
 (c1:PySem.W.codeIn K cd1 "_law_at" =true)(k1:PySem.W.keepIn K (.ref g1)=true)
 (a2:PySem.W.nsIn K mainGlobals "_law_grains" =some (some (.ref g2)))
 (l2:LK K g2 oc2 od2 (FN "_law_grains" "_law_grains" yD kV2 dc2 pm2 an2 cd2 ct2) sl2)
 (c2:PySem.W.codeIn K cd2 "_law_grains" =true)(k2:PySem.W.keepIn K (.ref g2)=true)
 (a3:PySem.W.nsIn K mainGlobals "_law_sky" =some (some (.ref g3)))
 (l3:LK K g3 oc3 od3 (FN "_law_sky" "_law_sky" yE kV3 dc3 pm3 an3 cd3 ct3) sl3)
 (c3:PySem.W.codeIn K cd3 "_law_sky" =true)(k3:PySem.W.keepIn K (.ref g3)=true)
 (a4:PySem.W.nsIn K mainGlobals "_law_days" =some (some (.ref g4)))
 (l4:LK K g4 oc4 od4 (FN "_law_days" "_law_days" rM kV4 dc4 pm4 an4 cd4 ct4) sl4)
 (c4:PySem.W.codeIn K cd4 "_law_days" =true)(k4:PySem.W.keepIn K (.ref g4)=true)
 (a5:PySem.W.findIn K (.ref C5) "__init__" =some (some (.ref g5)))
 (l5:LK K g5 oc5 od5 (FN "__init__" "Yard.__init__" rN kV5 dc5 pm5 an5 cd5 ct5) sl5)
 (c5:PySem.W.codeIn K cd5 "Yard.__init__" =true)(k5:PySem.W.keepIn K (.ref g5)=true)
 (a6:PySem.W.nsIn K mainGlobals "_law_height" =some (some (.ref g6)))
 (l6:LK K g6 oc6 od6 (FN "_law_height" "_law_height" yF kV6 dc6 pm6 an6 cd6 ct6) sl6)
 (c6:PySem.W.codeIn K cd6 "_law_height" =true)(k6:PySem.W.keepIn K (.ref g6)=true)
 (a7:PySem.W.nsIn K mainGlobals "_law_place" =some (some (.ref g7)))
 (l7:LK K g7 oc7 od7 (FN "_law_place" "_law_place" yG kV7 dc7 pm7 an7 cd7 ct7) sl7)
 (c7:PySem.W.codeIn K cd7 "_law_place" =true)(k7:PySem.W.keepIn K (.ref g7)=true)
 (a8:PySem.W.nsIn K mainGlobals "_law_thing" =some (some (.ref g8)))
 (l8:LK K g8 oc8 od8 (FN "_law_thing" "_law_thing" rP kV8 dc8 pm8 an8 cd8 ct8) sl8)
 (c8:PySem.W.codeIn K cd8 "_law_thing" =true)(k8:PySem.W.keepIn K (.ref g8)=true)
 (a9:PySem.W.nsIn K mainGlobals "is_place" =some (some (.ref g9)))
 (l9:LK K g9 oc9 od9 (FN "is_place" "is_place" yH kV9 dc9 pm9 an9 cd9 ct9) sl9)
 (c9:PySem.W.codeIn K cd9 "is_place" =true)(k9:PySem.W.keepIn K (.ref g9)=true)
 (a10:PySem.W.nsIn K mainGlobals "is_height" =some (some (.ref g10)))
 (l10:LK K g10 Zoh Zmt (FN "is_height" "is_height" yI Zgb Zgc Zgd Zfi Zb2 Zge) Znn)
 (c10:PySem.W.codeIn K Zb2 "is_height" =true)(k10:PySem.W.keepIn K (.ref g10)=true)
 (a11:PySem.W.nsIn K mainGlobals "makes_post" =some (some (.ref g11)))
 (l11:LK K g11 Zoi Zmu (FN "makes_post" "makes_post" yJ Zgf Zgg Zgh Zfj Zb3 Zgi) Zno)
 (c11:PySem.W.codeIn K Zb3 "makes_post" =true)(k11:PySem.W.keepIn K (.ref g11)=true)
 (a12:PySem.W.findIn K (.ref C6) "__init__" =some (some (.ref Rj)))
 (l12:LK K Rj Zoj Zmv (FN "__init__" "Thing.__init__" JD Zgj Zgk Zgl Zfk Zb4 Zgm) Znp)
 (c12:PySem.W.codeIn K Zb4 "Thing.__init__" =true)(k12:PySem.W.keepIn K (.ref Rj)=true)
 (a13:PySem.W.nsIn K mainGlobals "has_two_ends" =some (some (.ref g13)))
 (l13:LK K g13 Zok Zmw (FN "has_two_ends" "has_two_ends" rQ Zgn Zgo Zgp Zfl Zb5 Zgq) Znq)
 (c13:PySem.W.codeIn K Zb5 "has_two_ends" =true)(k13:PySem.W.keepIn K (.ref g13)=true)
 (a14:PySem.W.nsIn K mainGlobals "makes_fence" =some (some (.ref g14)))
 (l14:LK K g14 Zol Zmx (FN "makes_fence" "makes_fence" yK Zgr Zgs Zgt Zfm Zb6 Zgu) Znr)
 (c14:PySem.W.codeIn K Zb6 "makes_fence" =true)(k14:PySem.W.keepIn K (.ref g14)=true)
 (a15:PySem.W.nsIn K mainGlobals "makes_sail_or_house" =some (some (.ref g15)))
 (l15:LK K g15 Zom Zmy (FN "makes_sail_or_house" "makes_sail_or_house" JF Zgv Zgw Zgx Zfn Zb7 Zgy) Zns)
 (c15:PySem.W.codeIn K Zb7 "makes_sail_or_house" =true)(k15:PySem.W.keepIn K (.ref g15)=true)
 (a16:PySem.W.nsIn K mainGlobals "is_cloth_corner" =some (some (.ref g16)))
 (l16:LK K g16 Zon Zmz (FN "is_cloth_corner" "is_cloth_corner" JG Zgz ZgA ZgB Zfo Zb8 ZgC) Znt)
 (c16:PySem.W.codeIn K Zb8 "is_cloth_corner" =true)(k16:PySem.W.keepIn K (.ref g16)=true)
 (a17:PySem.W.nsIn K mainGlobals "makes_cloth" =some (some (.ref g17)))
 (l17:LK K g17 Zoo ZmA (FN "makes_cloth" "makes_cloth" rT ZgD ZgE ZgF Zfp Zb9 ZgG) Znu)
 (c17:PySem.W.codeIn K Zb9 "makes_cloth" =true)(k17:PySem.W.keepIn K (.ref g17)=true)
 (a18:PySem.W.nsIn K mainGlobals "thing_of" =some (some (.ref g18)))
 (l18:LK K g18 Zop ZmB (FN "thing_of" "thing_of" yL ZgH ZgI ZgJ Zfq Zb_ ZgK) Znv)
 (c18:PySem.W.codeIn K Zb_ "thing_of" =true)(k18:PySem.W.keepIn K (.ref g18)=true)
 (a19:PySem.W.nsIn K mainGlobals "box_lines" =some (some (.ref g19)))
 (l19:LK K g19 Zoq ZmC (FN "box_lines" "box_lines" pq ZgL ZgM ZgN Zfr Zca ZgO) Znw)
 (c19:PySem.W.codeIn K Zca "box_lines" =true)(k19:PySem.W.keepIn K (.ref g19)=true)
 (a20:PySem.W.nsIn K mainGlobals "each_once" =some (some (.ref g20)))
 (l20:LK K g20 Zor ZmD (FN "each_once" "each_once" yM ZgP ZgQ ZgR Zfs Zcb ZgS) Znx)
 (c20:PySem.W.codeIn K Zcb "each_once" =true)(k20:PySem.W.keepIn K (.ref g20)=true)
 (a21:PySem.W.nsIn K mainGlobals "line_through" =some (some (.ref g21)))
 (l21:LK K g21 Zos ZmE (FN "line_through" "line_through" yN ZgT ZgU ZgV Zft Zcc ZgW) Zny)
 (c21:PySem.W.codeIn K Zcc "line_through" =true)(k21:PySem.W.keepIn K (.ref g21)=true)
 (a22:PySem.W.nsIn K mainGlobals "holds" =some (some (.ref g22)))
 (l22:LK K g22 Zot ZmF (FN "holds" "holds" yO ZgX ZgY ZgZ Zfu Zcd Zg0) Znz)
 (c22:PySem.W.codeIn K Zcd "holds" =true)(k22:PySem.W.keepIn K (.ref g22)=true)
 (a23:PySem.W.nsIn K mainGlobals "edge_lines" =some (some (.ref g23)))
 (l23:LK K g23 Zou ZmG (FN "edge_lines" "edge_lines" rW Zg1 Zg2 Zg3 Zfv Zce Zg4) ZnA)
 (c23:PySem.W.codeIn K Zce "edge_lines" =true)(k23:PySem.W.keepIn K (.ref g23)=true)
 (a24:PySem.W.nsIn K mainGlobals "lines_about" =some (some (.ref g24)))
 (l24:LK K g24 Zov ZmH (FN "lines_about" "lines_about" yP Zg5 Zg6 Zg7 Zfw Zcf Zg8) ZnB)
 (c24:PySem.W.codeIn K Zcf "lines_about" =true)(k24:PySem.W.keepIn K (.ref g24)=true)
 (a25:PySem.W.nsIn K mainGlobals "cast" =some (some (.ref g25)))
 (l25:LK K g25 Zow ZmI (FN "cast" "cast" yQ Zg9 Zg_ Zha Zfx Zcg Zhb) ZnC)
 (c25:PySem.W.codeIn K Zcg "cast" =true)(k25:PySem.W.keepIn K (.ref g25)=true)
 (a26:PySem.W.nsIn K mainGlobals "level_corners" =some (some (.ref g26)))
 (l26:LK K g26 Zox ZmJ (FN "level_corners" "level_corners" JH Zhc Zhd Zhe Zfy Zch Zhf) ZnD)
 (c26:PySem.W.codeIn K Zch "level_corners" =true)(k26:PySem.W.keepIn K (.ref g26)=true)
 (a27:PySem.W.nsIn K mainGlobals "block_corners" =some (some (.ref g27)))
 (l27:LK K g27 Zoy ZmK (FN "block_corners" "block_corners" yR Zhg Zhh Zhi Zfz Zci Zhj) ZnE)
 (c27:PySem.W.codeIn K Zci "block_corners" =true)(k27:PySem.W.keepIn K (.ref g27)=true)
 (a28:PySem.W.findIn K (.ref C7) "corners" =some (some (.ref g28)))
 (l28:LK K g28 Zoz ZmL (FN "corners" "Post.corners" yS Zhk Zhl Zhm ZfA Zcj Zhn) ZnF)
 (c28:PySem.W.codeIn K Zcj "Post.corners" =true)(k28:PySem.W.keepIn K (.ref g28)=true)
 (a29:PySem.W.findIn K (.ref C8) "corners" =some (some (.ref g29)))
 (l29:LK K g29 ZoA ZmM (FN "corners" "Fence.corners" yU Zho Zhp Zhq ZfB Zck Zhr) ZnG)
 (c29:PySem.W.codeIn K Zck "Fence.corners" =true)(k29:PySem.W.keepIn K (.ref g29)=true)
 (a30:PySem.W.findIn K (.ref C9) "corners" =some (some (.ref g30)))
 (l30:LK K g30 ZoB ZmN (FN "corners" "Sail.corners" yV Zhs Zht Zhu ZfC Zcl Zhv) ZnH)
 (c30:PySem.W.codeIn K Zcl "Sail.corners" =true)(k30:PySem.W.keepIn K (.ref g30)=true)
 (a31:PySem.W.findIn K (.ref C10) "corners" =some (some (.ref g31)))
 (l31:LK K g31 ZoC ZmO (FN "corners" "Cloth.corners" rY Zhw Zhx Zhy ZfD Zcm Zhz) ZnI)
 (c31:PySem.W.codeIn K Zcm "Cloth.corners" =true)(k31:PySem.W.keepIn K (.ref g31)=true)
 (a32:PySem.W.findIn K (.ref C11) "corners" =some (some (.ref g32)))
 (l32:LK K g32 ZoD ZmP (FN "corners" "House.corners" JK ZhA ZhB ZhC ZfE Zcn ZhD) ZnJ)
 (c32:PySem.W.codeIn K Zcn "House.corners" =true)(k32:PySem.W.keepIn K (.ref g32)=true)
 (a33:PySem.W.nsIn K mainGlobals "corner_casts" =some (some (.ref g33)))
 (l33:LK K g33 ZoE ZmQ (FN "corner_casts" "corner_casts" rZ ZhE ZhF ZhG ZfF Zco ZhH) ZnK)
 (c33:PySem.W.codeIn K Zco "corner_casts" =true)(k33:PySem.W.keepIn K (.ref g33)=true)
 (a34:PySem.W.nsIn K mainGlobals "span_bits" =some (some (.ref g34)))
 (l34:LK K g34 ZoF ZmR (FN "span_bits" "span_bits" yW ZhI ZhJ ZhK ZfG Zcp ZhL) ZnL)
 (c34:PySem.W.codeIn K Zcp "span_bits" =true)(k34:PySem.W.keepIn K (.ref g34)=true)
 (a35:PySem.W.nsIn K mainGlobals "row_bits" =some (some (.ref g35)))
 (l35:LK K g35 ZoG ZmS (FN "row_bits" "row_bits" yX ZhM ZhN ZhO ZfH Zcq ZhP) ZnM)
 (c35:PySem.W.codeIn K Zcq "row_bits" =true)(k35:PySem.W.keepIn K (.ref g35)=true)
 (a36:PySem.W.nsIn K mainGlobals "dark_of" =some (some (.ref g36)))
 (l36:LK K g36 ZoH ZmT (FN "dark_of" "dark_of" yZ ZhQ ZhR ZhS ZfI Zcr ZhT) ZnN)
 (c36:PySem.W.codeIn K Zcr "dark_of" =true)(k36:PySem.W.keepIn K (.ref g36)=true)
 (a37:PySem.W.nsIn K mainGlobals "darks_of_things" =some (some (.ref g37)))
 (l37:LK K g37 ZoI ZmU (FN "darks_of_things" "darks_of_things" Gi ZhU ZhV ZhW ZfJ Zcs ZhX) ZnO)
 (c37:PySem.W.codeIn K Zcs "darks_of_things" =true)(k37:PySem.W.keepIn K (.ref g37)=true)
 (a38:PySem.W.nsIn K mainGlobals "dark" =some (some (.ref g38)))
 (l38:LK K g38 ZoJ ZmV (FN "dark" "dark" za ZhY ZhZ Zh0 ZfK Zct Zh1) ZnP)
 (c38:PySem.W.codeIn K Zct "dark" =true)(k38:PySem.W.keepIn K (.ref g38)=true)
 (a39:PySem.W.nsIn K mainGlobals "has_stone" =some (some (.ref g39)))
 (l39:LK K g39 ZoK ZmW (FN "has_stone" "has_stone" zc Zh2 Zh3 Zh4 ZfL Zcu Zh5) ZnQ)
 (c39:PySem.W.codeIn K Zcu "has_stone" =true)(k39:PySem.W.keepIn K (.ref g39)=true)
 (a40:PySem.W.nsIn K mainGlobals "check_stone" =some (some (.ref g40)))
 (l40:LK K g40 ZoL ZmX (FN "check_stone" "check_stone" zf Zh6 Zh7 Zh8 ZfM Zcv Zh9) ZnR)
 (c40:PySem.W.codeIn K Zcv "check_stone" =true)(k40:PySem.W.keepIn K (.ref g40)=true)
 (a41:PySem.W.nsIn K mainGlobals "has_day" =some (some (.ref g41)))
 (l41:LK K g41 ZoM ZmY (FN "has_day" "has_day" zj Zh_ Zia Zib ZfN Zcw Zic) ZnS)
 (c41:PySem.W.codeIn K Zcw "has_day" =true)(k41:PySem.W.keepIn K (.ref g41)=true)
 (a42:PySem.W.nsIn K mainGlobals "check_day" =some (some (.ref g42)))
 (l42:LK K g42 ZoN ZmZ (FN "check_day" "check_day" zm Zid Zie Zif ZfO Zcx Zig) ZnT)
 (c42:PySem.W.codeIn K Zcx "check_day" =true)(k42:PySem.W.keepIn K (.ref g42)=true)
 (a43:PySem.W.nsIn K mainGlobals "turns_of" =some (some (.ref g43)))
 (l43:LK K g43 ZoO Zm0 (FN "turns_of" "turns_of" zp Zih Zii Zij ZfP Zcy Zik) ZnU)
 (c43:PySem.W.codeIn K Zcy "turns_of" =true)(k43:PySem.W.keepIn K (.ref g43)=true)
 (a44:PySem.W.nsIn K mainGlobals "parting_line" =some (some (.ref g44)))
 (l44:LK K g44 ZoP Zm1 (FN "parting_line" "parting_line" zq Zil Zim Zin ZfQ Zcz Zio) ZnV)
 (c44:PySem.W.codeIn K Zcz "parting_line" =true)(k44:PySem.W.keepIn K (.ref g44)=true)
 (a45:PySem.W.nsIn K mainGlobals "pairs_below" =some (some (.ref g45)))
 (l45:LK K g45 ZoQ Zm2 (FN "pairs_below" "pairs_below" su Ziq Zir Zis ZfR ZcA Zit) ZnW)
 (c45:PySem.W.codeIn K ZcA "pairs_below" =true)(k45:PySem.W.keepIn K (.ref g45)=true)
 (a46:PySem.W.nsIn K mainGlobals "triples_below" =some (some (.ref g46)))
 (l46:LK K g46 ZoR Zm3 (FN "triples_below" "triples_below" sy Ziu Ziv Ziw ZfS ZcB Zix) ZnX)
 (c46:PySem.W.codeIn K ZcB "triples_below" =true)(k46:PySem.W.keepIn K (.ref g46)=true)
 (a47:PySem.W.nsIn K mainGlobals "greatest_divisor" =some (some (.ref g47)))
 (l47:LK K g47 ZoS Zm4 (FN "greatest_divisor" "greatest_divisor" JL Ziy Ziz ZiA ZfT ZcC ZiB) ZnY)
 (c47:PySem.W.codeIn K ZcC "greatest_divisor" =true)(k47:PySem.W.keepIn K (.ref g47)=true)
 (a48:PySem.W.nsIn K mainGlobals "ratio" =some (some (.ref g48)))
 (l48:LK K g48 ZoT Zm5 (FN "ratio" "ratio" zu ZiC ZiD ZiE ZfU ZcD ZiF) ZnZ)
 (c48:PySem.W.codeIn K ZcD "ratio" =true)(k48:PySem.W.keepIn K (.ref g48)=true)
 (a49:PySem.W.nsIn K mainGlobals "spread" =some (some (.ref g49)))
 (l49:LK K g49 ZoU Zm6 (FN "spread" "spread" sE ZiG ZiH ZiI ZfV ZcE ZiJ) Zn0)
 (c49:PySem.W.codeIn K ZcE "spread" =true)(k49:PySem.W.keepIn K (.ref g49)=true)
 (a50:PySem.W.nsIn K mainGlobals "turned" =some (some (.ref g50)))
 (l50:LK K g50 ZoV Zm7 (FN "turned" "turned" zx ZiK ZiL ZiM ZfW ZcF ZiN) Zn1)
 (c50:PySem.W.codeIn K ZcF "turned" =true)(k50:PySem.W.keepIn K (.ref g50)=true)
 (a51:PySem.W.nsIn K mainGlobals "shares_of_three" =some (some (.ref g51)))
 (l51:LK K g51 ZoW Zm8 (FN "shares_of_three" "shares_of_three" JM ZiO ZiP ZiQ ZfX ZcG ZiR) Zn2)
 (c51:PySem.W.codeIn K ZcG "shares_of_three" =true)(k51:PySem.W.keepIn K (.ref g51)=true)
 (a52:PySem.W.nsIn K mainGlobals "are_weights" =some (some (.ref g52)))
 (l52:LK K g52 ZoX Zm9 (FN "are_weights" "are_weights" sG ZiS ZiT ZiU ZfY ZcH ZiV) Zn3)
 (c52:PySem.W.codeIn K ZcH "are_weights" =true)(k52:PySem.W.keepIn K (.ref g52)=true)
 (a53:PySem.W.nsIn K mainGlobals "shares_of_two" =some (some (.ref g53)))
 (l53:LK K g53 ZoY Zm_ (FN "shares_of_two" "shares_of_two" zy ZiW ZiX ZiY ZfZ ZcI ZiZ) Zn4)
 (c53:PySem.W.codeIn K ZcI "shares_of_two" =true)(k53:PySem.W.keepIn K (.ref g53)=true)
 (a54:PySem.W.nsIn K mainGlobals "weights_of" =some (some (.ref g54)))
 (l54:LK K g54 ZoZ Zna (FN "weights_of" "weights_of" pA Zi0 Zi1 Zi2 Zf0 ZcJ Zi3) Zn5)
 (c54:PySem.W.codeIn K ZcJ "weights_of" =true)(k54:PySem.W.keepIn K (.ref g54)=true)
 (a55:PySem.W.nsIn K mainGlobals "held" =some (some (.ref g55)))
 (l55:LK K g55 Zo0 Znb (FN "held" "held" zA Zi4 Zi5 Zi6 Zf1 ZcK Zi7) Zn6)
 (c55:PySem.W.codeIn K ZcK "held" =true)(k55:PySem.W.keepIn K (.ref g55)=true)
 (a56:PySem.W.nsIn K mainGlobals "stone_cast" =some (some (.ref g56)))
 (l56:LK K g56 Zo1 Znc (FN "stone_cast" "stone_cast" zB Zi8 Zi9 Zi_ Zf2 ZcL Zja) Zn7)
 (c56:PySem.W.codeIn K ZcL "stone_cast" =true)(k56:PySem.W.keepIn K (.ref g56)=true)
 (a57:PySem.W.nsIn K mainGlobals "shading" =some (some (.ref g57)))
 (l57:LK K g57 Zo2 Znd (FN "shading" "shading" zE Zjb Zjc Zjd Zf3 ZcM Zje) Zn8)
 (c57:PySem.W.codeIn K ZcM "shading" =true)(k57:PySem.W.keepIn K (.ref g57)=true)
 (a58:PySem.W.nsIn K mainGlobals "shades" =some (some (.ref g58)))
 (l58:LK K g58 Zo3 Zne (FN "shades" "shades" zF Zjf Zjg Zjh Zf4 ZcN Zji) Zn9)
 (c58:PySem.W.codeIn K ZcN "shades" =true)(k58:PySem.W.keepIn K (.ref g58)=true)
 (a59:PySem.W.nsIn K mainGlobals "is_dark" =some (some (.ref g59)))
 (l59:LK K g59 Zo4 Znf (FN "is_dark" "is_dark" zG Zjj Zjk Zjl Zf5 ZcO Zjm) Zn_)
 (c59:PySem.W.codeIn K ZcO "is_dark" =true)(k59:PySem.W.keepIn K (.ref g59)=true)
 (a60:PySem.W.nsIn K mainGlobals "lit_turns" =some (some (.ref g60)))
 (l60:LK K g60 Zo5 Zng (FN "lit_turns" "lit_turns" sI Zjn Zjo Zjp Zf6 ZcP Zjq) Zoa)
 (c60:PySem.W.codeIn K ZcP "lit_turns" =true)(k60:PySem.W.keepIn K (.ref g60)=true)
 (a61:PySem.W.nsIn K mainGlobals "_law_pair" =some (some (.ref g61)))
 (l61:LK K g61 Zo6 Znh (FN "_law_pair" "_law_pair" sJ Zjr Zjs Zjt Zf7 ZcQ Zju) Zob)
 (c61:PySem.W.codeIn K ZcQ "_law_pair" =true)(k61:PySem.W.keepIn K (.ref g61)=true)
 (a62:PySem.W.nsIn K mainGlobals "_law_numbers" =some (some (.ref g62)))
 (l62:LK K g62 Zo7 Zni (FN "_law_numbers" "_law_numbers" sO Zjv Zjw Zjx Zf8 ZcR Zjy) Zoc)
 (c62:PySem.W.codeIn K ZcR "_law_numbers" =true)(k62:PySem.W.keepIn K (.ref g62)=true)
 (a63:PySem.W.nsIn K mainGlobals "first_lit" =some (some (.ref g63)))
 (l63:LK K g63 Zo8 Znj (FN "first_lit" "first_lit" zH Zjz ZjA ZjB Zf9 ZcS ZjC) Zod)
 (c63:PySem.W.codeIn K ZcS "first_lit" =true)(k63:PySem.W.keepIn K (.ref g63)=true)
 (a64:PySem.W.nsIn K mainGlobals "law" =some (some (.ref g64)))
 (l64:LK K g64 Zo9 Znk (FN "law" "law" fJ ZcT ZcU ZcV Zb1 UW ZcW) Zoe)
 (c64:PySem.W.codeIn K UW "law" =true)(k64:PySem.W.keepIn K (.ref g64)=true)
 (a65:PySem.W.findIn K (.ref C3) "__init__" =some (some (.ref g65)))
 (l65:LK K g65 Zo_ Znl (FN "__init__" "NoStone.__init__" JN ZjD ZjE ZjF Zf_ ZcX ZjG) Zof)
 (c65:PySem.W.codeIn K ZcX "NoStone.__init__" =true)(k65:PySem.W.keepIn K (.ref g65)=true)
 (a66:PySem.W.findIn K (.ref C4) "__init__" =some (some (.ref g66)))
 (l66:LK K g66 Zpa Znm (FN "__init__" "NoTurn.__init__" JQ ZjH ZjI ZjJ Zga ZcY ZjK) Zog)
 (c66:PySem.W.codeIn K ZcY "NoTurn.__init__" =true)(k66:PySem.W.keepIn K (.ref g66)=true)
 (x0:PySem.W.nsIn K mainGlobals "MOST_HEIGHT" =some (some (.int (1000000000) tk0)))
 (x1:PySem.W.nsIn K mainGlobals "MOST_PLACE" =some (some (.int (1000000000) tk1)))
 (z0:PySem.W.nsIn K mainGlobals "abs" =some none)
 (z1:PySem.W.nsIn K mainGlobals "all" =some none)
 (z2:PySem.W.nsIn K mainGlobals "bool" =some none)
 (z3:PySem.W.nsIn K mainGlobals "enumerate" =some none)
 (z4:PySem.W.nsIn K mainGlobals "int" =some none)
 (z5:PySem.W.nsIn K mainGlobals "isinstance" =some none)
 (z6:PySem.W.nsIn K mainGlobals "len" =some none)
 (z7:PySem.W.nsIn K mainGlobals "list" =some none)
 (z8:PySem.W.nsIn K mainGlobals "max" =some none)
 (z9:PySem.W.nsIn K mainGlobals "min" =some none)
 (UL:PySem.W.nsIn K mainGlobals "range" =some none)
 (QZ:PySem.W.nsIn K mainGlobals "sum" =some none)
 (Q_:PySem.W.nsIn K mainGlobals "tuple" =some none)
 (z13:PySem.W.nsIn K mainGlobals "zip" =some none)
 (q0:PySem.W.excIn K (bO C0 C1 C2 C3 C4 C5 C6 C7 C8 C9 C10 C11 "YardError") zU TJ=true)
 (q1:PySem.W.keepIn K (.ref (bO C0 C1 C2 C3 C4 C5 C6 C7 C8 C9 C10 C11 "YardError"))=true)
 (q2:ž K (bO C0 C1 C2 C3 C4 C5 C6 C7 C8 C9 C10 C11 "YardError")=true)
 (q3:PySem.W.excIn K (bO C0 C1 C2 C3 C4 C5 C6 C7 C8 C9 C10 C11 "NoNumber") zU TJ=true)
 (q4:PySem.W.keepIn K (.ref (bO C0 C1 C2 C3 C4 C5 C6 C7 C8 C9 C10 C11 "NoNumber"))=true)
 (q5:ž K (bO C0 C1 C2 C3 C4 C5 C6 C7 C8 C9 C10 C11 "NoNumber")=true)
 (q6:PySem.W.excIn K (bO C0 C1 C2 C3 C4 C5 C6 C7 C8 C9 C10 C11 "BadThing") zU TJ=true)
 (q7:PySem.W.keepIn K (.ref (bO C0 C1 C2 C3 C4 C5 C6 C7 C8 C9 C10 C11 "BadThing"))=true)
 (q8:ž K (bO C0 C1 C2 C3 C4 C5 C6 C7 C8 C9 C10 C11 "BadThing")=true)
 (q9:El K (bO C0 C1 C2 C3 C4 C5 C6 C7 C8 C9 C10 C11 "NoStone") g65=true)
 (q10:ž K (bO C0 C1 C2 C3 C4 C5 C6 C7 C8 C9 C10 C11 "NoStone")=true)
 (q11:PySem.W.findIn K (.ref (bO C0 C1 C2 C3 C4 C5 C6 C7 C8 C9 C10 C11 "NoStone")) "stone" =some none)
 (q12:El K (bO C0 C1 C2 C3 C4 C5 C6 C7 C8 C9 C10 C11 "NoTurn") g66=true)
 (q13:ž K (bO C0 C1 C2 C3 C4 C5 C6 C7 C8 C9 C10 C11 "NoTurn")=true)
 (q14:PySem.W.findIn K (.ref (bO C0 C1 C2 C3 C4 C5 C6 C7 C8 C9 C10 C11 "NoTurn")) "day" =some none)
 (q15:PySem.W.findIn K (.ref (bO C0 C1 C2 C3 C4 C5 C6 C7 C8 C9 C10 C11 "NoTurn")) "turn" =some none)
 (q16:uO K (bO C0 C1 C2 C3 C4 C5 C6 C7 C8 C9 C10 C11 "Yard")=true)
 (q17:Ug K (bO C0 C1 C2 C3 C4 C5 C6 C7 C8 C9 C10 C11 "Yard") g5=true)
 (q18:PySem.W.findIn K (.ref (bO C0 C1 C2 C3 C4 C5 C6 C7 C8 C9 C10 C11 "Yard")) "width" =some none)
 (q19:PySem.W.findIn K (.ref (bO C0 C1 C2 C3 C4 C5 C6 C7 C8 C9 C10 C11 "Yard")) "height" =some none)
 (q20:PySem.W.findIn K (.ref (bO C0 C1 C2 C3 C4 C5 C6 C7 C8 C9 C10 C11 "Yard")) "things" =some none)
 (q21:PySem.W.findIn K (.ref (bO C0 C1 C2 C3 C4 C5 C6 C7 C8 C9 C10 C11 "Yard")) "days" =some none)
 (q22:uO K (bO C0 C1 C2 C3 C4 C5 C6 C7 C8 C9 C10 C11 "Thing")=true)
 (q23:Ug K (bO C0 C1 C2 C3 C4 C5 C6 C7 C8 C9 C10 C11 "Thing") Rj=true)
 (q24:PySem.W.findIn K (.ref (bO C0 C1 C2 C3 C4 C5 C6 C7 C8 C9 C10 C11 "Thing")) "word" =some none)
 (q25:PySem.W.findIn K (.ref (bO C0 C1 C2 C3 C4 C5 C6 C7 C8 C9 C10 C11 "Thing")) "numbers" =some none)
 (q26:uO K (bO C0 C1 C2 C3 C4 C5 C6 C7 C8 C9 C10 C11 "Post")=true)
 (q27:Ug K (bO C0 C1 C2 C3 C4 C5 C6 C7 C8 C9 C10 C11 "Post") Rj=true)
 (q28:PySem.W.findIn K (.ref (bO C0 C1 C2 C3 C4 C5 C6 C7 C8 C9 C10 C11 "Post")) "word" =some none)
 (q29:PySem.W.findIn K (.ref (bO C0 C1 C2 C3 C4 C5 C6 C7 C8 C9 C10 C11 "Post")) "numbers" =some none)
 (q30:oU K (bO C0 C1 C2 C3 C4 C5 C6 C7 C8 C9 C10 C11 "Post") "corners" g28=true)
 (q31:uO K (bO C0 C1 C2 C3 C4 C5 C6 C7 C8 C9 C10 C11 "Fence")=true)
 (q32:Ug K (bO C0 C1 C2 C3 C4 C5 C6 C7 C8 C9 C10 C11 "Fence") Rj=true)
 (q33:PySem.W.findIn K (.ref (bO C0 C1 C2 C3 C4 C5 C6 C7 C8 C9 C10 C11 "Fence")) "word" =some none)
 (q34:PySem.W.findIn K (.ref (bO C0 C1 C2 C3 C4 C5 C6 C7 C8 C9 C10 C11 "Fence")) "numbers" =some none)
 (q35:oU K (bO C0 C1 C2 C3 C4 C5 C6 C7 C8 C9 C10 C11 "Fence") "corners" g29=true)
 (q36:uO K (bO C0 C1 C2 C3 C4 C5 C6 C7 C8 C9 C10 C11 "Sail")=true)
 (q37:Ug K (bO C0 C1 C2 C3 C4 C5 C6 C7 C8 C9 C10 C11 "Sail") Rj=true)
 (q38:PySem.W.findIn K (.ref (bO C0 C1 C2 C3 C4 C5 C6 C7 C8 C9 C10 C11 "Sail")) "word" =some none)
 (q39:PySem.W.findIn K (.ref (bO C0 C1 C2 C3 C4 C5 C6 C7 C8 C9 C10 C11 "Sail")) "numbers" =some none)
 (q40:oU K (bO C0 C1 C2 C3 C4 C5 C6 C7 C8 C9 C10 C11 "Sail") "corners" g30=true)
 (q41:uO K (bO C0 C1 C2 C3 C4 C5 C6 C7 C8 C9 C10 C11 "Cloth")=true)
 (q42:Ug K (bO C0 C1 C2 C3 C4 C5 C6 C7 C8 C9 C10 C11 "Cloth") Rj=true)
 (q43:PySem.W.findIn K (.ref (bO C0 C1 C2 C3 C4 C5 C6 C7 C8 C9 C10 C11 "Cloth")) "word" =some none)
 (q44:PySem.W.findIn K (.ref (bO C0 C1 C2 C3 C4 C5 C6 C7 C8 C9 C10 C11 "Cloth")) "numbers" =some none)
 (q45:oU K (bO C0 C1 C2 C3 C4 C5 C6 C7 C8 C9 C10 C11 "Cloth") "corners" g31=true)
 (q46:uO K (bO C0 C1 C2 C3 C4 C5 C6 C7 C8 C9 C10 C11 "House")=true)
 (q47:Ug K (bO C0 C1 C2 C3 C4 C5 C6 C7 C8 C9 C10 C11 "House") Rj=true)
 (q48:PySem.W.findIn K (.ref (bO C0 C1 C2 C3 C4 C5 C6 C7 C8 C9 C10 C11 "House")) "word" =some none)
 (q49:PySem.W.findIn K (.ref (bO C0 C1 C2 C3 C4 C5 C6 C7 C8 C9 C10 C11 "House")) "numbers" =some none)
 (q50:oU K (bO C0 C1 C2 C3 C4 C5 C6 C7 C8 C9 C10 C11 "House") "corners" g32=true)
 (q51:isC K (bO C0 C1 C2 C3 C4 C5 C6 C7 C8 C9 C10 C11) Zk=true)
 (q52:isT K (bO C0 C1 C2 C3 C4 C5 C6 C7 C8 C9 C10 C11) Zl=true)
 (q53:isD K (bO C0 C1 C2 C3 C4 C5 C6 C7 C8 C9 C10 C11) Zm=true)
 (q54:Uc K Zn=true)
 :∃fd:FuncData,(∀(s:Shared) (v:Value),BindsTo s fd ⟨[v],[]⟩ [("_law_script",v)])∧∀base:Heap,K.In base→base.Ns mainGlobals mg→∃cm,İ l.prog w K mg base (ū l.prog w) 10 fa fd ["_law_script"] (ŷ ⟨K,cm⟩ 1 mG):=by
 have e:=hfa.symm.trans (PySem.W.mg_of X G a64)
 cases e
 have F0:=ġ (st:=yx) l0 c0 k0
 have b0:=F0.binds (ps:=["_law_cell","_law_most"]) fun _ _ _ _ _ _ us hl=>match us,hl with| [_,_],_=>rfl
 have F1:=ġ (st:=yC) l1 c1 k1
 have b1:=F1.binds (ps:=["_law_script","_law_k"]) fun _ _ _ _ _ _ us hl=>match us,hl with| [_,_],_=>rfl
 have F2:=ġ (st:=yD) l2 c2 k2
 have b2:=F2.binds (ps:=["_law_cell","_law_many"]) fun _ _ _ _ _ _ us hl=>match us,hl with| [_,_],_=>rfl
 have F3:=ġ (st:=yE) l3 c3 k3
 have b3:=F3.binds (ps:=["_law_xs"]) fun _ _ _ _ _ _ us hl=>match us,hl with| [_],_=>rfl
 have F4:=ġ (st:=rM) l4 c4 k4
 have b4:=F4.binds (ps:=["_law_script","_law_start","_law_many","_law_long"]) fun _ _ _ _ _ _ us hl=>match us,hl with| [_,_,_,_],_=>rfl
 have F5:=ġ (st:=rN) l5 c5 k5
 have b5:=F5.binds (ps:=["self","width","height","things","days"]) fun _ _ _ _ _ _ us hl=>match us,hl with| [_,_,_,_,_],_=>rfl
 have F6:=ġ (st:=yF) l6 c6 k6
 have b6:=F6.binds (ps:=["_law_number"]) fun _ _ _ _ _ _ us hl=>match us,hl with| [_],_=>rfl
 have F7:=ġ (st:=yG) l7 c7 k7
 have b7:=F7.binds (ps:=["_law_number","_law_wide"]) fun _ _ _ _ _ _ us hl=>match us,hl with| [_,_],_=>rfl
 have F8:=ġ (st:=rP) l8 c8 k8
 have b8:=F8.binds (ps:=["_law_cell","_law_wide"]) fun _ _ _ _ _ _ us hl=>match us,hl with| [_,_],_=>rfl
 have F9:=ġ (st:=yH) l9 c9 k9
 have b9:=F9.binds (ps:=["number"]) fun _ _ _ _ _ _ us hl=>match us,hl with| [_],_=>rfl
 have F10:=ġ (st:=yI) l10 c10 k10
 have b10:=F10.binds (ps:=["number"]) fun _ _ _ _ _ _ us hl=>match us,hl with| [_],_=>rfl
 have F11:=ġ (st:=yJ) l11 c11 k11
 have b11:=F11.binds (ps:=["numbers"]) fun _ _ _ _ _ _ us hl=>match us,hl with| [_],_=>rfl
 have F12:=ġ (st:=JD) l12 c12 k12
 have b12:=F12.binds (ps:=["self","word","numbers"]) fun _ _ _ _ _ _ us hl=>match us,hl with| [_,_,_],_=>rfl
 have F13:=ġ (st:=rQ) l13 c13 k13
 have b13:=F13.binds (ps:=["numbers"]) fun _ _ _ _ _ _ us hl=>match us,hl with| [_],_=>rfl
 have F14:=ġ (st:=yK) l14 c14 k14
 have b14:=F14.binds (ps:=["numbers"]) fun _ _ _ _ _ _ us hl=>match us,hl with| [_],_=>rfl
 have F15:=ġ (st:=JF) l15 c15 k15
 have b15:=F15.binds (ps:=["numbers"]) fun _ _ _ _ _ _ us hl=>match us,hl with| [_],_=>rfl
 have F16:=ġ (st:=JG) l16 c16 k16
 have b16:=F16.binds (ps:=["numbers"]) fun _ _ _ _ _ _ us hl=>match us,hl with| [_],_=>rfl
 have F17:=ġ (st:=rT) l17 c17 k17
 have b17:=F17.binds (ps:=["numbers"]) fun _ _ _ _ _ _ us hl=>match us,hl with| [_],_=>rfl
 have F18:=ġ (st:=yL) l18 c18 k18
 have b18:=F18.binds (ps:=["word","numbers"]) fun _ _ _ _ _ _ us hl=>match us,hl with| [_,_],_=>rfl
 have F19:=ġ (st:=pq) l19 c19 k19
 have b19:=F19.binds (ps:=["points"]) fun _ _ _ _ _ _ us hl=>match us,hl with| [_],_=>rfl
 have F20:=ġ (st:=yM) l20 c20 k20
 have b20:=F20.binds (ps:=["points"]) fun _ _ _ _ _ _ us hl=>match us,hl with| [_],_=>rfl
 have F21:=ġ (st:=yN) l21 c21 k21
 have b21:=F21.binds (ps:=["one","other"]) fun _ _ _ _ _ _ us hl=>match us,hl with| [_,_],_=>rfl
 have F22:=ġ (st:=yO) l22 c22 k22
 have b22:=F22.binds (ps:=["line","pair"]) fun _ _ _ _ _ _ us hl=>match us,hl with| [_,_],_=>rfl
 have F23:=ġ (st:=rW) l23 c23 k23
 have b23:=F23.binds (ps:=["points"]) fun _ _ _ _ _ _ us hl=>match us,hl with| [_],_=>rfl
 have F24:=ġ (st:=yP) l24 c24 k24
 have b24:=F24.binds (ps:=["points"]) fun _ _ _ _ _ _ us hl=>match us,hl with| [_],_=>rfl
 have F25:=ġ (st:=yQ) l25 c25 k25
 have b25:=F25.binds (ps:=["point","ray"]) fun _ _ _ _ _ _ us hl=>match us,hl with| [_,_],_=>rfl
 have F26:=ġ (st:=JH) l26 c26 k26
 have b26:=F26.binds (ps:=["x","y","u","v","z"]) fun _ _ _ _ _ _ us hl=>match us,hl with| [_,_,_,_,_],_=>rfl
 have F27:=ġ (st:=yR) l27 c27 k27
 have b27:=F27.binds (ps:=["x","y","u","v","h"]) fun _ _ _ _ _ _ us hl=>match us,hl with| [_,_,_,_,_],_=>rfl
 have F28:=ġ (st:=yS) l28 c28 k28
 have b28:=F28.binds (ps:=["self"]) fun _ _ _ _ _ _ us hl=>match us,hl with| [_],_=>rfl
 have F29:=ġ (st:=yU) l29 c29 k29
 have b29:=F29.binds (ps:=["self"]) fun _ _ _ _ _ _ us hl=>match us,hl with| [_],_=>rfl
 have F30:=ġ (st:=yV) l30 c30 k30
 have b30:=F30.binds (ps:=["self"]) fun _ _ _ _ _ _ us hl=>match us,hl with| [_],_=>rfl
 have F31:=ġ (st:=rY) l31 c31 k31
 have b31:=F31.binds (ps:=["self"]) fun _ _ _ _ _ _ us hl=>match us,hl with| [_],_=>rfl
 have F32:=ġ (st:=JK) l32 c32 k32
 have b32:=F32.binds (ps:=["self"]) fun _ _ _ _ _ _ us hl=>match us,hl with| [_],_=>rfl
 have F33:=ġ (st:=rZ) l33 c33 k33
 have b33:=F33.binds (ps:=["thing","ray"]) fun _ _ _ _ _ _ us hl=>match us,hl with| [_,_],_=>rfl
 have F34:=ġ (st:=yW) l34 c34 k34
 have b34:=F34.binds (ps:=["first","last"]) fun _ _ _ _ _ _ us hl=>match us,hl with| [_,_],_=>rfl
 have F35:=ġ (st:=yX) l35 c35 k35
 have b35:=F35.binds (ps:=["lines","unit","q","width"]) fun _ _ _ _ _ _ us hl=>match us,hl with| [_,_,_,_],_=>rfl
 have F36:=ġ (st:=yZ) l36 c36 k36
 have b36:=F36.binds (ps:=["yard","thing","ray"]) fun _ _ _ _ _ _ us hl=>match us,hl with| [_,_,_],_=>rfl
 have F37:=ġ (st:=Gi) l37 c37 k37
 have b37:=F37.binds (ps:=["yard","ray"]) fun _ _ _ _ _ _ us hl=>match us,hl with| [_,_],_=>rfl
 have F38:=ġ (st:=za) l38 c38 k38
 have b38:=F38.binds (ps:=["yard","turn"]) fun _ _ _ _ _ _ us hl=>match us,hl with| [_,_],_=>rfl
 have F39:=ġ (st:=zc) l39 c39 k39
 have b39:=F39.binds (ps:=["yard","stone"]) fun _ _ _ _ _ _ us hl=>match us,hl with| [_,_],_=>rfl
 have F40:=ġ (st:=zf) l40 c40 k40
 have b40:=F40.binds (ps:=["yard","stone"]) fun _ _ _ _ _ _ us hl=>match us,hl with| [_,_],_=>rfl
 have F41:=ġ (st:=zj) l41 c41 k41
 have b41:=F41.binds (ps:=["yard","day"]) fun _ _ _ _ _ _ us hl=>match us,hl with| [_,_],_=>rfl
 have F42:=ġ (st:=zm) l42 c42 k42
 have b42:=F42.binds (ps:=["yard","day"]) fun _ _ _ _ _ _ us hl=>match us,hl with| [_,_],_=>rfl
 have F43:=ġ (st:=zp) l43 c43 k43
 have b43:=F43.binds (ps:=["yard","day"]) fun _ _ _ _ _ _ us hl=>match us,hl with| [_,_],_=>rfl
 have F44:=ġ (st:=zq) l44 c44 k44
 have b44:=F44.binds (ps:=["points","point"]) fun _ _ _ _ _ _ us hl=>match us,hl with| [_,_],_=>rfl
 have F45:=ġ (st:=su) l45 c45 k45
 have b45:=F45.binds (ps:=["many"]) fun _ _ _ _ _ _ us hl=>match us,hl with| [_],_=>rfl
 have F46:=ġ (st:=sy) l46 c46 k46
 have b46:=F46.binds (ps:=["many"]) fun _ _ _ _ _ _ us hl=>match us,hl with| [_],_=>rfl
 have F47:=ġ (st:=JL) l47 c47 k47
 have b47:=F47.binds (ps:=["one","other"]) fun _ _ _ _ _ _ us hl=>match us,hl with| [_,_],_=>rfl
 have F48:=ġ (st:=zu) l48 c48 k48
 have b48:=F48.binds (ps:=["top","bottom"]) fun _ _ _ _ _ _ us hl=>match us,hl with| [_,_],_=>rfl
 have F49:=ġ (st:=sE) l49 c49 k49
 have b49:=F49.binds (ps:=["shares","places","many"]) fun _ _ _ _ _ _ us hl=>match us,hl with| [_,_,_],_=>rfl
 have F50:=ġ (st:=zx) l50 c50 k50
 have b50:=F50.binds (ps:=["one","other","third"]) fun _ _ _ _ _ _ us hl=>match us,hl with| [_,_,_],_=>rfl
 have F51:=ġ (st:=JM) l51 c51 k51
 have b51:=F51.binds (ps:=["corners","point"]) fun _ _ _ _ _ _ us hl=>match us,hl with| [_,_],_=>rfl
 have F52:=ġ (st:=sG) l52 c52 k52
 have b52:=F52.binds (ps:=["shares"]) fun _ _ _ _ _ _ us hl=>match us,hl with| [_],_=>rfl
 have F53:=ġ (st:=zy) l53 c53 k53
 have b53:=F53.binds (ps:=["ends","point"]) fun _ _ _ _ _ _ us hl=>match us,hl with| [_,_],_=>rfl
 have F54:=ġ (st:=pA) l54 c54 k54
 have b54:=F54.binds (ps:=["points","point"]) fun _ _ _ _ _ _ us hl=>match us,hl with| [_,_],_=>rfl
 have F55:=ġ (st:=zA) l55 c55 k55
 have b55:=F55.binds (ps:=["points","point"]) fun _ _ _ _ _ _ us hl=>match us,hl with| [_,_],_=>rfl
 have F56:=ġ (st:=zB) l56 c56 k56
 have b56:=F56.binds (ps:=["stone","ray"]) fun _ _ _ _ _ _ us hl=>match us,hl with| [_,_],_=>rfl
 have F57:=ġ (st:=zE) l57 c57 k57
 have b57:=F57.binds (ps:=["thing","stone","ray"]) fun _ _ _ _ _ _ us hl=>match us,hl with| [_,_,_],_=>rfl
 have F58:=ġ (st:=zF) l58 c58 k58
 have b58:=F58.binds (ps:=["thing","stone","ray"]) fun _ _ _ _ _ _ us hl=>match us,hl with| [_,_,_],_=>rfl
 have F59:=ġ (st:=zG) l59 c59 k59
 have b59:=F59.binds (ps:=["yard","turn","stone"]) fun _ _ _ _ _ _ us hl=>match us,hl with| [_,_,_],_=>rfl
 have F60:=ġ (st:=sI) l60 c60 k60
 have b60:=F60.binds (ps:=["yard","day","stone"]) fun _ _ _ _ _ _ us hl=>match us,hl with| [_,_,_],_=>rfl
 have F61:=ġ (st:=sJ) l61 c61 k61
 have b61:=F61.binds (ps:=["_law_found","_law_due"]) fun _ _ _ _ _ _ us hl=>match us,hl with| [_,_],_=>rfl
 have F62:=ġ (st:=sO) l62 c62 k62
 have b62:=F62.binds (ps:=["_law_found","_law_due"]) fun _ _ _ _ _ _ us hl=>match us,hl with| [_,_],_=>rfl
 have F63:=ġ (st:=zH) l63 c63 k63
 have b63:=F63.binds (ps:=["yard","stone"]) fun _ _ _ _ _ _ us hl=>match us,hl with| [_,_],_=>rfl
 have F64:=ġ (st:=fJ) l64 c64 k64
 have b64:=F64.binds (ps:=["_law_script"]) fun _ _ _ _ _ _ us hl=>match us,hl with| [_],_=>rfl
 have F65:=ġ (st:=JN) l65 c65 k65
 have b65:=F65.binds (ps:=["self","stone"]) fun _ _ _ _ _ _ us hl=>match us,hl with| [_,_],_=>rfl
 have F66:=ġ (st:=JQ) l66 c66 k66
 have b66:=F66.binds (ps:=["self","day","turn"]) fun _ _ _ _ _ _ us hl=>match us,hl with| [_,_,_],_=>rfl
 have T:Tx K mg ⟨g0,FN "_law_size" "_law_size" yx kV0 dc0 pm0 an0 cd0 ct0,g1,FN "_law_at" "_law_at" yC kV1 dc1 pm1 an1 cd1 ct1,g2,FN "_law_grains" "_law_grains" yD kV2 dc2 pm2 an2 cd2 ct2,g3,FN "_law_sky" "_law_sky" yE kV3 dc3 pm3 an3 cd3 ct3,g4,FN "_law_days" "_law_days" rM kV4 dc4 pm4 an4 cd4 ct4,g5,FN "__init__" "Yard.__init__" rN kV5 dc5 pm5 an5 cd5 ct5,g6,FN "_law_height" "_law_height" yF kV6 dc6 pm6 an6 cd6 ct6,g7,FN "_law_place" "_law_place" yG kV7 dc7 pm7 an7 cd7 ct7,g8,FN "_law_thing" "_law_thing" rP kV8 dc8 pm8 an8 cd8 ct8,g9,FN "is_place" "is_place" yH kV9 dc9 pm9 an9 cd9 ct9,g10,FN "is_height" "is_height" yI Zgb Zgc Zgd Zfi Zb2 Zge,g11,FN "makes_post" "makes_post" yJ Zgf Zgg Zgh Zfj Zb3 Zgi,Rj,FN "__init__" "Thing.__init__" JD Zgj Zgk Zgl Zfk Zb4 Zgm,g13,FN "has_two_ends" "has_two_ends" rQ Zgn Zgo Zgp Zfl Zb5 Zgq,g14,FN "makes_fence" "makes_fence" yK Zgr Zgs Zgt Zfm Zb6 Zgu,g15,FN "makes_sail_or_house" "makes_sail_or_house" JF Zgv Zgw Zgx Zfn Zb7 Zgy,g16,FN "is_cloth_corner" "is_cloth_corner" JG Zgz ZgA ZgB Zfo Zb8 ZgC,g17,FN "makes_cloth" "makes_cloth" rT ZgD ZgE ZgF Zfp Zb9 ZgG,g18,FN "thing_of" "thing_of" yL ZgH ZgI ZgJ Zfq Zb_ ZgK,g19,FN "box_lines" "box_lines" pq ZgL ZgM ZgN Zfr Zca ZgO,g20,FN "each_once" "each_once" yM ZgP ZgQ ZgR Zfs Zcb ZgS,g21,FN "line_through" "line_through" yN ZgT ZgU ZgV Zft Zcc ZgW,g22,FN "holds" "holds" yO ZgX ZgY ZgZ Zfu Zcd Zg0,g23,FN "edge_lines" "edge_lines" rW Zg1 Zg2 Zg3 Zfv Zce Zg4,g24,FN "lines_about" "lines_about" yP Zg5 Zg6 Zg7 Zfw Zcf Zg8,g25,FN "cast" "cast" yQ Zg9 Zg_ Zha Zfx Zcg Zhb,g26,FN "level_corners" "level_corners" JH Zhc Zhd Zhe Zfy Zch Zhf,g27,FN "block_corners" "block_corners" yR Zhg Zhh Zhi Zfz Zci Zhj,g28,FN "corners" "Post.corners" yS Zhk Zhl Zhm ZfA Zcj Zhn,g29,FN "corners" "Fence.corners" yU Zho Zhp Zhq ZfB Zck Zhr,g30,FN "corners" "Sail.corners" yV Zhs Zht Zhu ZfC Zcl Zhv,g31,FN "corners" "Cloth.corners" rY Zhw Zhx Zhy ZfD Zcm Zhz,g32,FN "corners" "House.corners" JK ZhA ZhB ZhC ZfE Zcn ZhD,g33,FN "corner_casts" "corner_casts" rZ ZhE ZhF ZhG ZfF Zco ZhH,g34,FN "span_bits" "span_bits" yW ZhI ZhJ ZhK ZfG Zcp ZhL,g35,FN "row_bits" "row_bits" yX ZhM ZhN ZhO ZfH Zcq ZhP,g36,FN "dark_of" "dark_of" yZ ZhQ ZhR ZhS ZfI Zcr ZhT,g37,FN "darks_of_things" "darks_of_things" Gi ZhU ZhV ZhW ZfJ Zcs ZhX,g38,FN "dark" "dark" za ZhY ZhZ Zh0 ZfK Zct Zh1,g39,FN "has_stone" "has_stone" zc Zh2 Zh3 Zh4 ZfL Zcu Zh5,g40,FN "check_stone" "check_stone" zf Zh6 Zh7 Zh8 ZfM Zcv Zh9,g41,FN "has_day" "has_day" zj Zh_ Zia Zib ZfN Zcw Zic,g42,FN "check_day" "check_day" zm Zid Zie Zif ZfO Zcx Zig,g43,FN "turns_of" "turns_of" zp Zih Zii Zij ZfP Zcy Zik,g44,FN "parting_line" "parting_line" zq Zil Zim Zin ZfQ Zcz Zio,g45,FN "pairs_below" "pairs_below" su Ziq Zir Zis ZfR ZcA Zit,g46,FN "triples_below" "triples_below" sy Ziu Ziv Ziw ZfS ZcB Zix,g47,FN "greatest_divisor" "greatest_divisor" JL Ziy Ziz ZiA ZfT ZcC ZiB,g48,FN "ratio" "ratio" zu ZiC ZiD ZiE ZfU ZcD ZiF,g49,FN "spread" "spread" sE ZiG ZiH ZiI ZfV ZcE ZiJ,g50,FN "turned" "turned" zx ZiK ZiL ZiM ZfW ZcF ZiN,g51,FN "shares_of_three" "shares_of_three" JM ZiO ZiP ZiQ ZfX ZcG ZiR,g52,FN "are_weights" "are_weights" sG ZiS ZiT ZiU ZfY ZcH ZiV,g53,FN "shares_of_two" "shares_of_two" zy ZiW ZiX ZiY ZfZ ZcI ZiZ,g54,FN "weights_of" "weights_of" pA Zi0 Zi1 Zi2 Zf0 ZcJ Zi3,g55,FN "held" "held" zA Zi4 Zi5 Zi6 Zf1 ZcK Zi7,g56,FN "stone_cast" "stone_cast" zB Zi8 Zi9 Zi_ Zf2 ZcL Zja,g57,FN "shading" "shading" zE Zjb Zjc Zjd Zf3 ZcM Zje,g58,FN "shades" "shades" zF Zjf Zjg Zjh Zf4 ZcN Zji,g59,FN "is_dark" "is_dark" zG Zjj Zjk Zjl Zf5 ZcO Zjm,g60,FN "lit_turns" "lit_turns" sI Zjn Zjo Zjp Zf6 ZcP Zjq,g61,FN "_law_pair" "_law_pair" sJ Zjr Zjs Zjt Zf7 ZcQ Zju,g62,FN "_law_numbers" "_law_numbers" sO Zjv Zjw Zjx Zf8 ZcR Zjy,g63,FN "first_lit" "first_lit" zH Zjz ZjA ZjB Zf9 ZcS ZjC,fa,FN "law" "law" fJ ZcT ZcU ZcV Zb1 UW ZcW,g65,FN "__init__" "NoStone.__init__" JN ZjD ZjE ZjF Zf_ ZcX ZjG,g66,FN "__init__" "NoTurn.__init__" JQ ZjH ZjI ZjJ Zga ZcY ZjK,C0,C1,C2,C3,C4,C5,C6,C7,C8,C9,C10,C11,tk0,tk1⟩:=⟨F0,PySem.W.mg_of X G a0,b0,F1,PySem.W.mg_of X G a1,b1,F2,PySem.W.mg_of X G a2,b2,F3,PySem.W.mg_of X G a3,b3,F4,PySem.W.mg_of X G a4,b4,F5,b5,F6,PySem.W.mg_of X G a6,b6,F7,PySem.W.mg_of X G a7,b7,F8,PySem.W.mg_of X G a8,b8,F9,PySem.W.mg_of X G a9,b9,F10,PySem.W.mg_of X G a10,b10,F11,PySem.W.mg_of X G a11,b11,F12,b12,F13,PySem.W.mg_of X G a13,b13,F14,PySem.W.mg_of X G a14,b14,F15,PySem.W.mg_of X G a15,b15,F16,PySem.W.mg_of X G a16,b16,F17,PySem.W.mg_of X G a17,b17,F18,PySem.W.mg_of X G a18,b18,F19,PySem.W.mg_of X G a19,b19,F20,PySem.W.mg_of X G a20,b20,F21,PySem.W.mg_of X G a21,b21,F22,PySem.W.mg_of X G a22,b22,F23,PySem.W.mg_of X G a23,b23,F24,PySem.W.mg_of X G a24,b24,F25,PySem.W.mg_of X G a25,b25,F26,PySem.W.mg_of X G a26,b26,F27,PySem.W.mg_of X G a27,b27,F28,b28,F29,b29,F30,b30,F31,b31,F32,b32,F33,PySem.W.mg_of X G a33,b33,F34,PySem.W.mg_of X G a34,b34,F35,PySem.W.mg_of X G a35,b35,F36,PySem.W.mg_of X G a36,b36,F37,PySem.W.mg_of X G a37,b37,F38,PySem.W.mg_of X G a38,b38,F39,PySem.W.mg_of X G a39,b39,F40,PySem.W.mg_of X G a40,b40,F41,PySem.W.mg_of X G a41,b41,F42,PySem.W.mg_of X G a42,b42,F43,PySem.W.mg_of X G a43,b43,F44,PySem.W.mg_of X G a44,b44,F45,PySem.W.mg_of X G a45,b45,F46,PySem.W.mg_of X G a46,b46,F47,PySem.W.mg_of X G a47,b47,F48,PySem.W.mg_of X G a48,b48,F49,PySem.W.mg_of X G a49,b49,F50,PySem.W.mg_of X G a50,b50,F51,PySem.W.mg_of X G a51,b51,F52,PySem.W.mg_of X G a52,b52,F53,PySem.W.mg_of X G a53,b53,F54,PySem.W.mg_of X G a54,b54,F55,PySem.W.mg_of X G a55,b55,F56,PySem.W.mg_of X G a56,b56,F57,PySem.W.mg_of X G a57,b57,F58,PySem.W.mg_of X G a58,b58,F59,PySem.W.mg_of X G a59,b59,F60,PySem.W.mg_of X G a60,b60,F61,PySem.W.mg_of X G a61,b61,F62,PySem.W.mg_of X G a62,b62,F63,PySem.W.mg_of X G a63,b63,F64,PySem.W.mg_of X G a64,b64,F65,b65,F66,b66,PySem.W.mg_of X G u0,PySem.W.mg_of X G u1,PySem.W.mg_of X G u2,PySem.W.mg_of X G u3,PySem.W.mg_of X G u4,PySem.W.mg_of X G u5,PySem.W.mg_of X G u6,PySem.W.mg_of X G u7,PySem.W.mg_of X G u8,PySem.W.mg_of X G u9,PySem.W.mg_of X G u10,PySem.W.mg_of X G u11,q0,q1,q2,q3,q4,q5,q6,q7,q8,Jo q9,q10,q11,Jo q12,q13,q14,q15,jl q16,oV q17,q18,q19,q20,q21,jl q22,oV q23,q24,q25,jl q26,oV q27,q28,q29,jF q30,jl q31,oV q32,q33,q34,jF q35,jl q36,oV q37,q38,q39,jF q40,jl q41,oV q42,q43,q44,jF q45,jl q46,oV q47,q48,q49,jF q50,Jk q51,Jl q52,Jm q53,Ek q54,PySem.W.mg_of X G x0,PySem.W.mg_of X G x1,PySem.W.mg_none_of X G z0,PySem.W.mg_none_of X G z1,PySem.W.mg_none_of X G z2,PySem.W.mg_none_of X G z3,PySem.W.mg_none_of X G z4,PySem.W.mg_none_of X G z5,PySem.W.mg_none_of X G z6,PySem.W.mg_none_of X G z7,PySem.W.mg_none_of X G z8,PySem.W.mg_none_of X G z9,PySem.W.mg_none_of X G UL,PySem.W.mg_none_of X G QZ,PySem.W.mg_none_of X G Q_,PySem.W.mg_none_of X G z13⟩
 exact⟨PySem.W.fnOf "law" "law" (gY fJ) (bQ fJ) (ĉ fJ) .none ZcT ZcU ZcV Zb1 UW ZcW,fun s v=>.of_eq rfl,fun base _ _=>⟨_,Zb0 T⟩⟩
theorem Z1A(ns:List Int)(hn:ns.length≤63):mG [.sh (.lst (ns.map .int))]=.ret (.sh (.bl true)):=by
 have k0:Ű [.sh (.lst (ns.map .int)),.sh (.int 0)]=.ret (.sh (.int (ns.getD 0 0))):=ZH ns 0
 have k1:Ű [.sh (.lst (ns.map .int)),.sh (.int 1)]=.ret (.sh (.int (ns.getD 1 0))):=ZH ns 1
 obtain⟨c0,e0⟩:∃c,ns.getD 0 0=c:=⟨_,rfl⟩
 obtain⟨c1,e1⟩:∃c,ns.getD 1 0=c:=⟨_,rfl⟩
 rw[e0] at k0
 rw[e1] at k1
 obtain⟨w,h,hs,w1,w2,h1,h2,wh⟩:=Z1v c0
 obtain⟨ys,hy,hyl⟩:=slI ns (some 2) (some 6)
 obtain⟨T,hT,hTl,hTg⟩:=Z0x ⟨w1,w2⟩ ⟨h1,h2⟩ ys [] .no (by simp;omega)
 rw[List.nil_append] at hT
 obtain⟨m,hm⟩:∃m:Nat,c1 % 4=(m:Int):=⟨(c1 % 4).toNat,by omega⟩
 obtain⟨D,hD,hDl,hDg⟩:=Z0I ns (n:=m) (lg:=4) (by omega) (by omega) (by omega)
 have hD':fK [.sh (.lst (ns.map .int)),.sh (.int 6),.sh (.int m),.sh (.int 4)]=.ret (.ow (D.map bK)):=hD
 by_cases hc:c1 / 4 % 16=9
 ·obtain⟨w',hw',w1',w2'⟩:∃w':Nat,1+c0 % 2=(w':Int)∧1≤w'∧w'≤2:=⟨(1+c0 % 2).toNat,by omega,by omega,by omega⟩
  obtain⟨T',t1,t2,t3⟩:=slR T
  obtain⟨E,hE,hEl,hEg⟩:=Z0I ns (n:=3) (lg:=24) (by omega) (by omega) (by omega)
  have hE':fK [.sh (.lst (ns.map .int)),.sh (.int 6),.sh (.int 3),.sh (.int 24)]=.ret (.ow (E.map bK)):=hE
  have fin:=Z0L (w:=w') (h:=1) ⟨w1',by omega⟩ ⟨by omega,by omega⟩ (by omega) (T:=T') (by omega) (fun t ht=>hTg t (t3 t ht)) (lg:=24) (by omega) (D:=E) (by omega) hEg (.sh (.lst (ns.map .int))) .no .no .no .no .no .no .no .no .no
  generalize ns.map PV.int=NS at *
  generalize ys.map PV.int=YS at *
  generalize T.map Zh=TR at *
  generalize T'.map Zh=TR' at *
  generalize D.map bK=DV at *
  generalize E.map bK=EV at *
  simp[mG,Z2q,List.replicate,k0,k1,hs,Tn,hy,hT,hm,hD',hc,hw',t1,hE',-ZU]
  simpa using fin
 ·have fin:=Z0L (w:=w) (h:=h) ⟨w1,w2⟩ ⟨h1,h2⟩ wh (T:=T) (by omega) hTg (lg:=4) (by omega) (D:=D) (by omega) hDg (.sh (.lst (ns.map .int))) .no .no .no .no .no .no .no .no .no
  generalize ns.map PV.int=NS at *
  generalize ys.map PV.int=YS at *
  generalize T.map Zh=TR at *
  generalize D.map bK=DV at *
  simp[mG,Z2q,List.replicate,k0,k1,hs,Tn,hy,hT,hm,hD',hc,-ZU]
  simpa using fin
theorem Z2G{l:PySem.W.OpenLaw}{q:Program}{loose:List Str}{XP:(Str→Option Value)→Heap→Prop}{YP:World→Heap→Prop}{d:DefRec}{K:Params→PySem.W.Frag}(hn:l.most=some 63)(hdf:d.params.defaults=[])
 (hY:∀(w:World) (h:Heap),YP w h→(K w.params).In h)
 (F:∀(w:World) (mg:Str→Option Value) (fa:Addr) (h:Heap),(K w.params).In h→h.Ns mainGlobals mg→mg d.name=some (.ref fa)→
   ∃fd:FuncData,(∀(s:Shared) (u:Value),BindsTo s fd ⟨[u],[]⟩ [("_law_script",u)])∧∀base:Heap,(K w.params).In base→base.Ns mainGlobals mg→∃cm,İ l.prog w (K w.params) mg base (ū l.prog w) 10 fa fd ["_law_script"] (ŷ ⟨K w.params,cm⟩ 1 mG)) :
 PySem.W.WalkO q loose XP YP l.row.toRowW d [] (fun f vs=>PySem.call f vs):=
 P.FW (k:=10) (x:= "_law_script") (m:=mG) hn hdf ⟨rfl,by decide,by decide⟩ hY F Z1A
end T
namespace PySem.W.Fast
def tw4260295697394229048:=0
def tw11833594427923735684:=0
def tw11545057372061140579:=0
def tw6617646942172694668:=0
def tw3292640784396516010:=0
def tw6027973834246900817:=0
def tw16569402920143431751:=0
def tw9481320640306278920:=0
def tw8864121307324261386:=0
def tw11051333057374636841:=0
def tw16111728072451686344:=0
def tw11821471904878303859:=0
def tw9506811840105201218:=0
def tw14984384350122926819:=0
def tw12892671078794173563:=0
def tw18193470353857772419:=0
def tw9076945794867105316:=0
def tw17418068587949642402:=0
def tw13840281647945213835:=0
def tw3185176504912783545:=0
def tw5046595472372225613:=0
def tw12659891671146774130:=0
def tw8940625225039640974:=0
def tw15959010630108070241:=0
def tw10139557850115108716:=0
def tw10559533811761840436:=0
def tw17075489333619571423:=0
def tw10097912254383353006:=0
def tw2736785353567587429:=0
def tw14674628056383897642:=0
def tw14438603446835406170:=0
def tw7609541974751401805:=0
def tw1348773877129981106:=0
def tw5224752711094620742:=0
def tw11086201159641791549:=0
def tw14956700744315198382:=0
def tw7180982632017253233:=0
def tw11386505559677106355:=0
def tw2381752513249330476:=0
def tw10195376320597113441:=0
def tw2895559519023591791:=0
def tw6291682172426659176:=0
def tw6994295042351265952:=0
def tw6129929542519193854:=0
def tw735281556933538672:=0
def tw3710693480166971166:=0
def tw2906389482739342184:=0
def tw15883089611926475546:=0
def tw1545474999146160202:=0
def tw12516943737513807567:=0
def tw16755657141766665050:=0
def tw16736442565073634423:=0
def tw7352002252246769147:=0
def tw18251430044098236194:=0
def tw17276619953219826181:=0
def tw5630772228999182393:=0
def tw1084939321102439439:=0
def tw11058625775913267408:=0
def tw9059503318184960693:=0
def tw2682309992191344600:=0
def tw1417913395232758598:=0
def tw4573759398565012231:=0
def tw16865491370299329005:=0
def tw5071506646422467461:=0
def tw1816443556519283548:=0
def tw17804865573471299080:=0
def tw12217684174220619366:=0
def tw8643756306555627830:=0
def tw12535010649444113374:=0
def tw3519290475358307448:=0
def tw17164393767998969629:=0
def tw1036745842433560080:=0
def tw14755044396429934080:=0
def tw9090222495508447592:=0
def tw9715325491952603842:=0
def tw15229332996411771929:=0
def tw2552094436441875333:=0
def tw1192427167989224047:=0
def tw6034054787664829829:=0
def tw4698529432732048246:=0
def tw14590138962499369328:=0
def tw10172414102698198960:=0
def tw1015202931193437753:=0
def tw17369465213808290070:=0
def tw10849324777327117434:=0
def tw1107780797261575711:=0
def tw5376016793506309658:=0
def tw6952878528463558255:=0
def tw733114803092517044:=0
def tw4223709481579979472:=0
def tw4123256067231279166:=0
def tw2868722235680623897:=0
def tw7404066014435732636:=0
def tw1560682227265859676:=0
def tw1526845075463242713:=0
def tw5577924375825504663:=0
def tw5409071039542613898:=0
def tw18159271707085997544:=0
def tw82670424002140719:=0
def tw7900407519316040692:=0
def tw3821868627996625599:=0
def tw16028701298029923842:=0
def tw9574999614991768016:=0
def tw4298084394501424235:=0
def tw16512449807338757728:=0
def tw4593374810194903825:=0
def tw4851897376617718548:=0
def tw12130503329867386905:=0
def tw6321470905462953195:=0
def tw2944846873274257821:=0
def tw5861997848676113104:=0
def tw8654681774435536130:=0
def tw3426724521651339639:=0
def tw16146738319114375824:=0
def tw3412684987084037157:=0
def tw17525130853807065540:=0
def tw17671632748214273745:=0
def tw14262534073654071252:=0
def tw10176650035534219385:=0
def tw14595164455371329820:=0
def tw7239659152547574394:=0
def tw6234829346633226965:=0
def tw6940828205232602848:=0
def tw7364447780344601477:=0
def tw10739778370128182349:=0
def tw1247846075342667992:=0
def tw2738585457057329360:=0
def tw14394959646544529056:=0
def tw10545320065164715817:=0
def tw8398349892146122465:=0
def tw11044946650650676225:=0
def tw12837816000623128889:=0
def tw1379223050551984249:=0
def tw12893181724309913097:=0
def tw11765562165135468526:=0
def tw529780267757720821:=0
def tw3206239113811451067:=0
def tw15714540200227874068:=0
def tw7450079201370641114:=0
def tw4447694718894992043:=0
def tw4871098784078286947:=0
def tw2284607999768354055:=0
def tw13696654116404220633:=0
def tw8647344193967298312:=0
def tw14408958287955952733:=0
def tw2171833660940004043:=0
def tw6756894531054652123:=0
def tw2199211381292346486:=0
def tw13920004418740544692:=0
def tw9449934319950412382:=0
def tw18241073865702709276:=0
def tw236473963931012873:=0
def tw12446121826497202836:=0
def tw1613537606414756554:=0
def tw15901843214960927858:=0
def tw11838167669983605182:=0
def tw15164805874917778501:=0
def tw2518538970321363825:=0
def tw12715982732432489778:=0
def tw9764311426007179909:=0
def tw9966269879653355518:=0
def tw891611077787480608:=0
def tw8630005587359549458:=0
def tw17284581386782501447:=0
def tw12542310038854244393:=0
def tw5983350803115251709:=0
def tw9838636611991854589:=0
def tw3802826933627479802:=0
def tw4225746018946957465:=0
def tw12540254898862433646:=0
def tw8443371510379403745:=0
def tw15974214923204372342:=0
def tw16354952938776161362:=0
def tw7229520535754560418:=0
def tw3401978781344249012:=0
def tw16938086286423280502:=0
def tw15167644166939919460:=0
def tw6551960438777929740:=0
def tw12393221057450799933:=0
def tw14460483647626061609:=0
def tw10875799892109285793:=0
def tw11174672919918596062:=0
def tw6240630642553580612:=0
def tw11668492210073675802:=0
def tw10122333533909788913:=0
def tw3833931474814549888:=0
def tw12503260861961256645:=0
def tw16521899435157038281:=0
def tw3156967902459310616:=0
def tw17666616815509116598:=0
def tw1781907856673378337:=0
def tw5369516269409293105:=0
def tw8221673929994336059:=0
def tw12706249442210660015:=0
def tw5896193667536345510:=0
def tw7984373002102245962:=0
def tw16024585121891625723:=0
def tw12226813845021106419:=0
def tw17483469819108220705:=0
def tw13874490960952035189:=0
def tw8809353322172673615:=0
def tw4827185105753277905:=0
def tw16482309722009222895:=0
def tw14339998685045880942:=0
def tw13327247043130469275:=0
def tw5903696657421440561:=0
def tw8492879100795225423:=0
def tw4555509117913001521:=0
def tw9301760791163557652:=0
def tw1251273718736870076:=0
def tw4229776101809052775:=0
def tw1072196529760372807:=0
def tw1852482553068732240:=0
def tw4174515468125285849:=0
def tw3753550991414521770:=0
def tw14709111083980039192:=0
def tw13303410086349406742:=0
def tw15594383703144957484:=0
def tw2513192553916771280:=0
def tw12447636186094473323:=0
def tw2025035946795336729:=0
def tw14023755926223288149:=0
def tw4224667270357446321:=0
def tw17263730650701080635:=0
def tw9750206267087106011:=0
def tw6551932397042668231:=0
def tw17571770721849210404:=0
def tw8661586238449601461:=0
def tw16028381268285697111:=0
def tw14623232111408349158:=0
def tw15979203172864893574:=0
def tw3901562640895613312:=0
def tw1291080887762559585:=0
def tw9059775438076248507:=0
def tw4499300716131804030:=0
def tw13496371863061728160:=0
def tw249507694118143535:=0
def tw5905170774273606713:=0
def tw16128018798092878881:=0
def tw4367786927984578153:=0
def tw12744824431161817998:=0
def tw16887925341757954179:=0
def tw12909784956889007034:=0
def tw7383872176008786055:=0
def tw6525185439433866279:=0
def tw14365943821505846620:=0
def tw8222303176620318756:=0
def tw10366619029272794212:=0
def tw13775069301763347947:=0
def tw5717764192150328735:=0
def tw6582627286647531523:=0
def tw6591742143219023328:=0
def tw6615721705431607624:=0
def tw11817987343165713375:=0
def tw16463640209059077834:=0
def tw1954822674990093316:=0
def tw10121074754656514652:=0
def tw8523453105456133087:=0
def tw3308296869696123913:=0
def tw11538596161315069304:=0
def tw10998628669245404434:=0
def tw164062175461116692:=0
def tw17294687276610448230:=0
def tw2666988135334196246:=0
def tw4728557508072017497:=0
def tw17409449252226851048:=0
def tw3148829302338924015:=0
def tw14670638628036990051:=0
def tw14426129401577932480:=0
def tw12676323168974547510:=0
def tw9573582946231293946:=0
def tw1171618222692973851:=0
def tw7379091316830280694:=0
def tw8959512092646279491:=0
def tw7561676482520980167:=0
def tw5653577897036644884:=0
def tw4568091838400610905:=0
def tw7771215164498175972:=0
def tw12975170370195238064:=0
def tw14765784734581842879:=0
def tw9760212435564802283:=0
def tw13931347116941088143:=0
def tw10625549704439078153:=0
def tw16032642082977484717:=0
def tw13378330652031964932:=0
def tw18118870050687934386:=0
def tw7610761387934954980:=0
def tw18101094959176517831:=0
def tw1307887624059836963:=0
def tw8271999568854779382:=0
def tw13533152808872227378:=0
def tw17781624946559619317:=0
def tw9766466122544310125:=0
def tw17586625000123834885:=0
def tw6409715092219760223:=0
def tw11032499677503066459:=0
def tw16958991733668170812:=0
def tw16613554657403730882:=0
def tw16816418899851701371:=0
def tw13954688346633334675:=0
def tw8669086526836161601:=0
def tw10764514686249485467:=0
def tw10166718190700966302:=0
def tw18178701387809652319:=0
def tw7818310790805035131:=0
def tw4819447266109939099:=0
def tw14486074534148738871:=0
def tw18431077156602704369:=0
def tw4057121049534026507:=0
def tw791297956687219798:=0
def tw14699815656295097753:=0
def tw5329642290894296150:=0
def tw12568719491931115899:=0
def tw14630587076407080517:=0
def tw9712576945416932463:=0
def tw12457290875138913678:=0
def tw2198659440248402314:=0
def tw4714041409487992064:=0
def tw10149751441037404136:=0
def tw9505136021957506791:=0
def tw6928177046841815407:=0
def tw13350440669833029527:=0
def tw2991268845506306367:=0
def tw10555498355959628428:=0
def tw10458329191384873464:=0
def tw10599132199739447372:=0
def tw9593573716248280066:=0
def tw18151698419499320038:=0
def tw17931288447332711776:=0
def tw1584108649282465516:=0
def tw11830617025374902903:=0
def tw3199786579981644189:=0
def tw15723556370023372822:=0
def tw17830457429449749284:=0
def tw1119538069649542661:=0
def tw2840436848014037908:=0
def tw16440083604935220593:=0
def tw11241892239995251263:=0
def tw6362762432053216198:=0
def tw18412815879800629692:=0
def tw15590703464693430912:=0
def tw10901085963702929564:=0
def tw8529415690743372573:=0
def tw158668062378023092:=0
def tw6141268633723425658:=0
def tw394902488000707602:=0
def tw9725940919927825631:=0
def tw12795749177478223901:=0
def tw14143183206189619378:=0
def tw11037994151803062948:=0
def tw18172883163741638864:=0
def tw13326116361256418209:=0
def tw9887128044159803959:=0
def tw15613084333006956883:=0
def tw10655992094061379150:=0
def tw15317658107435501165:=0
def tw15313791050155656472:=0
def tw8467572687025776692:=0
def tw1958912843383214495:=0
def tw16889918049768094175:=0
def tw13814923885296239944:=0
def tw18243447216935683643:=0
def tw9279301088578489496:=0
def tw17642278342251376446:=0
def tw13011295269088945070:=0
def tw16246402877876891534:=0
def tw16665065056288625294:=0
def tw4643032508962748432:=0
def tw7394102588895777840:=0
def tw10149379902707623394:=0
def tw9014408546260340120:=0
def tw15259489618661622914:=0
def tw9178162188060108568:=0
def tw5287340974047957287:=0
def tw7858215003333955425:=0
def tw5605363728914928393:=0
def tw4036361160374036172:=0
def tw6043301161062949160:=0
def tw829876980843243561:=0
def tw6216831943172080697:=0
def tw4572935040380476036:=0
def tw869684825260101198:=0
def tw17847187379789775001:=0
def tw749766741045928044:=0
def tw14625625341566247296:=0
def tw2766197592789659225:=0
def tw15627114016600912869:=0
def tw4016209701069053668:=0
def tw7934551948610222710:=0
def tw11693627490089791724:=0
def tw12808846425153377480:=0
def tw10755241813842565552:=0
def tw9055345686501711970:=0
def tw9391192362702101633:=0
def tw18434603028743078422:=0
def tw17038883669760357208:=0
def tw10475855737137988477:=0
def tw339439428520911105:=0
def tw6025374914213780767:=0
def tw17205122566788541409:=0
def tw11281001733179059039:=0
def tw6143058507381904652:=0
def tw14232247412133894942:=0
def tw6148258369332637930:=0
def tw6869212362206799612:=0
def tw918098135778267085:=0
def tw14586872708905934277:=0
def tw10201545247216086986:=0
def tw17925694328895666536:=0
def tw15950524839282242405:=0
def tw8064975854006248565:=0
def tw4143754291443668980:=0
def tw16874412107655720635:=0
def tw3246652078694745864:=0
def tw4745151618175687441:=0
def tw12085854458629759965:=0
def tw10471160506336847083:=0
def tw14067965967638117892:=0
def tw962358049163403178:=0
def tw11965725839784714598:=0
def tw18215112783565150563:=0
def tw6122145843262151645:=0
def tw6338642864782596191:=0
def tw9771754974793665681:=0
def tw12252059608882936437:=0
def tw4514964976827002911:=0
def tw12295601936096668192:=0
def tw5160040123121116929:=0
def tw1055193704929570418:=0
def tw17376393989313412710:=0
def tw3474190785231024787:=0
def tw9359015522942747786:=0
def tw5067004629725526890:=0
def tw13505580122414674723:=0
def tw263643463941724044:=0
def tw13533522942830777940:=0
def tw17434666159830648185:=0
def tw728903728895334355:=0
def tw12377060213754886508:=0
def tw17058185752500137481:=0
def tw11986593151754056331:=0
def tw9338772555717270006:=0
def tw7540967718157269512:=0
def tw1071313238266007401:=0
def tw13909144639768217069:=0
def tw15575805173901635632:=0
def tw14817335192516845049:=0
def tw13492526018847980640:=0
def tw17236109524057500162:=0
def tw228549704110101214:=0
def tw11654735033684331712:=0
def tw15465079416352539614:=0
def tw16404949757969889028:=0
def tw5651041559180793605:=0
def tw17988482733516419306:=0
def tw451731426850256061:=0
def tw5734117378105725784:=0
def tw1948816704272574119:=0
def tw8851738217784137101:=0
def tw4236464903586154260:=0
def tw8191562064495673784:=0
def tw11540610619673363626:=0
def tw16028969211254236358:=0
def tw5799861086611367831:=0
def tw17632496518800279904:=0
def tw14945210489470671857:=0
def tw5354245529354173041:=0
def tw936907646002564153:=0
def tw4615151035287535258:=0
def tw6838655834158333082:=0
def tw4499977288558565263:=0
def tw2390876602335265303:=0
def tw9734040929173940787:=0
def tw10304988661049685356:=0
def tw1542811048259404932:=0
def tw2143542310928789703:=0
def tw11205735267841293114:=0
def tw1553555226986273885:=0
def tw8496204650679685622:=0
def tw4113769799904827878:=0
def tw14822551540379876801:=0
def tw187318673748472932:=0
def tw8877836101109825087:=0
def tw12821066569714695643:=0
def tw604884562809678738:=0
def tw17110075725495736094:=0
def tw6071270580966878693:=0
def tw6898338622988392772:=0
def tw18133614666793532296:=0
def tw10507466933556790549:=0
def tw9028130986296865012:=0
def tw6832271192436230725:=0
def tw1466100288980985811:=0
def tw6690070224164960350:=0
def tw3344718243735079661:=0
def tw3407025083072538022:=0
def tw9129974442294307934:=0
def tw9744230345065045738:=0
def tw4047143384201774751:=0
def tw8583117557352431221:=0
def tw994837607975834982:=0
def tw1422122051774448373:=0
def tw8502918188665178777:=0
def tw14140967477501652043:=0
def tw3833229444458743428:=0
def tw17687000571699959380:=0
def tw18302458984495522007:=0
def tw6341404357218197480:=0
def tw226425025445579771:=0
def tw2165186067251924034:=0
def tw12963002661833860260:=0
def tw5716065137812142144:=0
def tw18338021110651179477:=0
def tw15652910880522463955:=0
def tw10115558605996619916:=0
def tw8065568176580372005:=0
def tw14905906990459877992:=0
def tw9517129130598919771:=0
def tw14898932511306021114:=0
def tw1485024631939583746:=0
def tw7198756049787592464:=0
def tw7670367570553033651:=0
def tw9821524385706083076:=0
def tw15196698825675768638:=0
def tw7873380708347865143:=0
def tw18256780244242830137:=0
def tw5140329088642879021:=0
def tw9516068898874308149:=0
def tw17465383635463220954:=0
def tw15409827659875054209:=0
def tw14319180079081493476:=0
def tw18258975795638680414:=0
def tw11123303770284651111:=0
def tw3619856344899717853:=0
def tw236163362393303026:=0
def tw17242820844431075429:=0
def tw9311704818940078042:=0
def tw2835189536818038381:=0
def tw8388221158523304524:=0
def tw18372369928803860113:=0
def tw8575590045640844136:=0
def tw14195231694719254104:=0
def tw852247998916641357:=0
def tw14860845995922650738:=0
def tw16211419033339082948:=0
def tw17351432127570352268:=0
def tw4810744593291025506:=0
def tw7787525164979054304:=0
def tw7579957181128526159:=0
def tw10542896514962719825:=0
def tw6950351109282841058:=0
def tw15928918127950563446:=0
def tw9217450412010688676:=0
def tw17168696844578602954:=0
def tw3566840972578222343:=0
def tw16011015829535280140:=0
def tw15756696053393070663:=0
def tw5550222645408505938:=0
def tw13981522953537231989:=0
def tw8029623197004949020:=0
def tw181001746072345361:=0
def tw15541250802614444966:=0
def tw14023388269688891916:=0
def tw15204912270880040209:=0
def tw3358528087029366556:=0
def tw9721434208222535152:=0
def tw13784888945048481759:=0
def tw3891267481891309994:=0
def tw17730525941509793565:=0
def tw1177918547250448069:=0
def tw13108297353595568786:=0
def tw8335537733483875491:=0
def tw13494733333465218067:=0
def tw3834626373621347054:=0
def tw3867881187114440863:=0
def tw10165852970049384325:=0
def tw13126437928782479270:=0
def tw11892601589941877048:=0
def tw10127058610175941157:=0
def tw2090233290607668217:=0
def tw17913118418431315265:=0
end PySem.W.Fast
open PySem PySem.W PyProof.Rows
set_option maxRecDepth 100000 in
set_option maxHeartbeats 0 in
theorem PySem.Challenge.cw_shadowpost_k33_lit_turns_holds : PySem.Challenge.rw_shadowpost_k33_lit_turns.Holds := by
 w_on;o_law;k_head;(case hw=>w_witness2)
 k_fill
 refine T.Z2G (l:=PySem.Challenge.rw_shadowpost_k33_lit_turns) rfl rfl (fun w h Y=>PySem.W.kIn_of Y) ?F
 case F=>
  intro w mg fa h KX G hmg
  refine' T.Z2r KX G hmg ?u0 ?u1 ?u2 ?u3 ?u4 ?u5 ?u6 ?u7 ?u8 ?u9 ?u10 ?u11 ?a0 ?l0 ?c0 ?k0 ?a1 ?l1 ?c1 ?k1 ?a2 ?l2 ?c2 ?k2 ?a3 ?l3 ?c3 ?k3 ?a4 ?l4 ?c4 ?k4 ?a5 ?l5 ?c5 ?k5 ?a6 ?l6 ?c6 ?k6 ?a7 ?l7 ?c7 ?k7 ?a8 ?l8 ?c8 ?k8 ?a9 ?l9 ?c9 ?k9 ?a10 ?l10 ?c10 ?k10 ?a11 ?l11 ?c11 ?k11 ?a12 ?l12 ?c12 ?k12 ?a13 ?l13 ?c13 ?k13 ?a14 ?l14 ?c14 ?k14 ?a15 ?l15 ?c15 ?k15 ?a16 ?l16 ?c16 ?k16 ?a17 ?l17 ?c17 ?k17 ?a18 ?l18 ?c18 ?k18 ?a19 ?l19 ?c19 ?k19 ?a20 ?l20 ?c20 ?k20 ?a21 ?l21 ?c21 ?k21 ?a22 ?l22 ?c22 ?k22 ?a23 ?l23 ?c23 ?k23 ?a24 ?l24 ?c24 ?k24 ?a25 ?l25 ?c25 ?k25 ?a26 ?l26 ?c26 ?k26 ?a27 ?l27 ?c27 ?k27 ?a28 ?l28 ?c28 ?k28 ?a29 ?l29 ?c29 ?k29 ?a30 ?l30 ?c30 ?k30 ?a31 ?l31 ?c31 ?k31 ?a32 ?l32 ?c32 ?k32 ?a33 ?l33 ?c33 ?k33 ?a34 ?l34 ?c34 ?k34 ?a35 ?l35 ?c35 ?k35 ?a36 ?l36 ?c36 ?k36 ?a37 ?l37 ?c37 ?k37 ?a38 ?l38 ?c38 ?k38 ?a39 ?l39 ?c39 ?k39 ?a40 ?l40 ?c40 ?k40 ?a41 ?l41 ?c41 ?k41 ?a42 ?l42 ?c42 ?k42 ?a43 ?l43 ?c43 ?k43 ?a44 ?l44 ?c44 ?k44 ?a45 ?l45 ?c45 ?k45 ?a46 ?l46 ?c46 ?k46 ?a47 ?l47 ?c47 ?k47 ?a48 ?l48 ?c48 ?k48 ?a49 ?l49 ?c49 ?k49 ?a50 ?l50 ?c50 ?k50 ?a51 ?l51 ?c51 ?k51 ?a52 ?l52 ?c52 ?k52 ?a53 ?l53 ?c53 ?k53 ?a54 ?l54 ?c54 ?k54 ?a55 ?l55 ?c55 ?k55 ?a56 ?l56 ?c56 ?k56 ?a57 ?l57 ?c57 ?k57 ?a58 ?l58 ?c58 ?k58 ?a59 ?l59 ?c59 ?k59 ?a60 ?l60 ?c60 ?k60 ?a61 ?l61 ?c61 ?k61 ?a62 ?l62 ?c62 ?k62 ?a63 ?l63 ?c63 ?k63 ?a64 ?l64 ?c64 ?k64 ?a65 ?l65 ?c65 ?k65 ?a66 ?l66 ?c66 ?k66 ?x0 ?x1 ?z0 ?z1 ?z2 ?z3 ?z4 ?z5 ?z6 ?z7 ?z8 ?z9 ?UL ?QZ ?Q_ ?z13 ?q0 ?q1 ?q2 ?q3 ?q4 ?q5 ?q6 ?q7 ?q8 ?q9 ?q10 ?q11 ?q12 ?q13 ?q14 ?q15 ?q16 ?q17 ?q18 ?q19 ?q20 ?q21 ?q22 ?q23 ?q24 ?q25 ?q26 ?q27 ?q28 ?q29 ?q30 ?q31 ?q32 ?q33 ?q34 ?q35 ?q36 ?q37 ?q38 ?q39 ?q40 ?q41 ?q42 ?q43 ?q44 ?q45 ?q46 ?q47 ?q48 ?q49 ?q50 ?q51 ?q52 ?q53 ?q54
  (case u0=>k_is)
  (case u1=>k_is)
  (case u2=>k_is)
  (case u3=>k_is)
  (case u4=>k_is)
  (case u5=>k_is)
  (case u6=>k_is)
  (case u7=>k_is)
  (case u8=>k_is)
  (case u9=>k_is)
  (case u10=>k_is)
  (case u11=>k_is)
  (case a0=>k_is)
  (case l0=>unfold T.LK T.FN;k_is)
  (case c0=>k_is)
  (case k0=>k_is)
  (case a1=>k_is)
  (case l1=>unfold T.LK T.FN;k_is)
  (case c1=>k_is)
  (case k1=>k_is)
  (case a2=>k_is)
  (case l2=>unfold T.LK T.FN;k_is)
  (case c2=>k_is)
  (case k2=>k_is)
  (case a3=>k_is)
  (case l3=>unfold T.LK T.FN;k_is)
  (case c3=>k_is)
  (case k3=>k_is)
  (case a4=>k_is)
  (case l4=>unfold T.LK T.FN;k_is)
  (case c4=>k_is)
  (case k4=>k_is)
  (case a5=>k_is)
  (case l5=>unfold T.LK T.FN;k_is)
  (case c5=>k_is)
  (case k5=>k_is)
  (case a6=>k_is)
  (case l6=>unfold T.LK T.FN;k_is)
  (case c6=>k_is)
  (case k6=>k_is)
  (case a7=>k_is)
  (case l7=>unfold T.LK T.FN;k_is)
  (case c7=>k_is)
  (case k7=>k_is)
  (case a8=>k_is)
  (case l8=>unfold T.LK T.FN;k_is)
  (case c8=>k_is)
  (case k8=>k_is)
  (case a9=>k_is)
  (case l9=>unfold T.LK T.FN;k_is)
  (case c9=>k_is)
  (case k9=>k_is)
  (case a10=>k_is)
  (case l10=>unfold T.LK T.FN;k_is)
  (case c10=>k_is)
  (case k10=>k_is)
  (case a11=>k_is)
  (case l11=>unfold T.LK T.FN;k_is)
  (case c11=>k_is)
  (case k11=>k_is)
  (case a12=>k_is)
  (case l12=>unfold T.LK T.FN;k_is)
  (case c12=>k_is)
  (case k12=>k_is)
  (case a13=>k_is)
  (case l13=>unfold T.LK T.FN;k_is)
  (case c13=>k_is)
  (case k13=>k_is)
  (case a14=>k_is)
  (case l14=>unfold T.LK T.FN;k_is)
  (case c14=>k_is)
  (case k14=>k_is)
  (case a15=>k_is)
  (case l15=>unfold T.LK T.FN;k_is)
  (case c15=>k_is)
  (case k15=>k_is)
  (case a16=>k_is)
  (case l16=>unfold T.LK T.FN;k_is)
  (case c16=>k_is)
  (case k16=>k_is)
  (case a17=>k_is)
  (case l17=>unfold T.LK T.FN;k_is)
  (case c17=>k_is)
  (case k17=>k_is)
  (case a18=>k_is)
  (case l18=>unfold T.LK T.FN;k_is)
  (case c18=>k_is)
  (case k18=>k_is)
  (case a19=>k_is)
  (case l19=>unfold T.LK T.FN;k_is)
  (case c19=>k_is)
  (case k19=>k_is)
  (case a20=>k_is)
  (case l20=>unfold T.LK T.FN;k_is)
  (case c20=>k_is)
  (case k20=>k_is)
  (case a21=>k_is)
  (case l21=>unfold T.LK T.FN;k_is)
  (case c21=>k_is)
  (case k21=>k_is)
  (case a22=>k_is)
  (case l22=>unfold T.LK T.FN;k_is)
  (case c22=>k_is)
  (case k22=>k_is)
  (case a23=>k_is)
  (case l23=>unfold T.LK T.FN;k_is)
  (case c23=>k_is)
  (case k23=>k_is)
  (case a24=>k_is)
  (case l24=>unfold T.LK T.FN;k_is)
  (case c24=>k_is)
  (case k24=>k_is)
  (case a25=>k_is)
  (case l25=>unfold T.LK T.FN;k_is)
  (case c25=>k_is)
  (case k25=>k_is)
  (case a26=>k_is)
  (case l26=>unfold T.LK T.FN;k_is)
  (case c26=>k_is)
  (case k26=>k_is)
  (case a27=>k_is)
  (case l27=>unfold T.LK T.FN;k_is)
  (case c27=>k_is)
  (case k27=>k_is)
  (case a28=>k_is)
  (case l28=>unfold T.LK T.FN;k_is)
  (case c28=>k_is)
  (case k28=>k_is)
  (case a29=>k_is)
  (case l29=>unfold T.LK T.FN;k_is)
  (case c29=>k_is)
  (case k29=>k_is)
  (case a30=>k_is)
  (case l30=>unfold T.LK T.FN;k_is)
  (case c30=>k_is)
  (case k30=>k_is)
  (case a31=>k_is)
  (case l31=>unfold T.LK T.FN;k_is)
  (case c31=>k_is)
  (case k31=>k_is)
  (case a32=>k_is)
  (case l32=>unfold T.LK T.FN;k_is)
  (case c32=>k_is)
  (case k32=>k_is)
  (case a33=>k_is)
  (case l33=>unfold T.LK T.FN;k_is)
  (case c33=>k_is)
  (case k33=>k_is)
  (case a34=>k_is)
  (case l34=>unfold T.LK T.FN;k_is)
  (case c34=>k_is)
  (case k34=>k_is)
  (case a35=>k_is)
  (case l35=>unfold T.LK T.FN;k_is)
  (case c35=>k_is)
  (case k35=>k_is)
  (case a36=>k_is)
  (case l36=>unfold T.LK T.FN;k_is)
  (case c36=>k_is)
  (case k36=>k_is)
  (case a37=>k_is)
  (case l37=>unfold T.LK T.FN;k_is)
  (case c37=>k_is)
  (case k37=>k_is)
  (case a38=>k_is)
  (case l38=>unfold T.LK T.FN;k_is)
  (case c38=>k_is)
  (case k38=>k_is)
  (case a39=>k_is)
  (case l39=>unfold T.LK T.FN;k_is)
  (case c39=>k_is)
  (case k39=>k_is)
  (case a40=>k_is)
  (case l40=>unfold T.LK T.FN;k_is)
  (case c40=>k_is)
  (case k40=>k_is)
  (case a41=>k_is)
  (case l41=>unfold T.LK T.FN;k_is)
  (case c41=>k_is)
  (case k41=>k_is)
  (case a42=>k_is)
  (case l42=>unfold T.LK T.FN;k_is)
  (case c42=>k_is)
  (case k42=>k_is)
  (case a43=>k_is)
  (case l43=>unfold T.LK T.FN;k_is)
  (case c43=>k_is)
  (case k43=>k_is)
  (case a44=>k_is)
  (case l44=>unfold T.LK T.FN;k_is)
  (case c44=>k_is)
  (case k44=>k_is)
  (case a45=>k_is)
  (case l45=>unfold T.LK T.FN;k_is)
  (case c45=>k_is)
  (case k45=>k_is)
  (case a46=>k_is)
  (case l46=>unfold T.LK T.FN;k_is)
  (case c46=>k_is)
  (case k46=>k_is)
  (case a47=>k_is)
  (case l47=>unfold T.LK T.FN;k_is)
  (case c47=>k_is)
  (case k47=>k_is)
  (case a48=>k_is)
  (case l48=>unfold T.LK T.FN;k_is)
  (case c48=>k_is)
  (case k48=>k_is)
  (case a49=>k_is)
  (case l49=>unfold T.LK T.FN;k_is)
  (case c49=>k_is)
  (case k49=>k_is)
  (case a50=>k_is)
  (case l50=>unfold T.LK T.FN;k_is)
  (case c50=>k_is)
  (case k50=>k_is)
  (case a51=>k_is)
  (case l51=>unfold T.LK T.FN;k_is)
  (case c51=>k_is)
  (case k51=>k_is)
  (case a52=>k_is)
  (case l52=>unfold T.LK T.FN;k_is)
  (case c52=>k_is)
  (case k52=>k_is)
  (case a53=>k_is)
  (case l53=>unfold T.LK T.FN;k_is)
  (case c53=>k_is)
  (case k53=>k_is)
  (case a54=>k_is)
  (case l54=>unfold T.LK T.FN;k_is)
  (case c54=>k_is)
  (case k54=>k_is)
  (case a55=>k_is)
  (case l55=>unfold T.LK T.FN;k_is)
  (case c55=>k_is)
  (case k55=>k_is)
  (case a56=>k_is)
  (case l56=>unfold T.LK T.FN;k_is)
  (case c56=>k_is)
  (case k56=>k_is)
  (case a57=>k_is)
  (case l57=>unfold T.LK T.FN;k_is)
  (case c57=>k_is)
  (case k57=>k_is)
  (case a58=>k_is)
  (case l58=>unfold T.LK T.FN;k_is)
  (case c58=>k_is)
  (case k58=>k_is)
  (case a59=>k_is)
  (case l59=>unfold T.LK T.FN;k_is)
  (case c59=>k_is)
  (case k59=>k_is)
  (case a60=>k_is)
  (case l60=>unfold T.LK T.FN;k_is)
  (case c60=>k_is)
  (case k60=>k_is)
  (case a61=>k_is)
  (case l61=>unfold T.LK T.FN;k_is)
  (case c61=>k_is)
  (case k61=>k_is)
  (case a62=>k_is)
  (case l62=>unfold T.LK T.FN;k_is)
  (case c62=>k_is)
  (case k62=>k_is)
  (case a63=>k_is)
  (case l63=>unfold T.LK T.FN;k_is)
  (case c63=>k_is)
  (case k63=>k_is)
  (case a64=>k_is)
  (case l64=>unfold T.LK T.FN;k_is)
  (case c64=>k_is)
  (case k64=>k_is)
  (case a65=>k_is)
  (case l65=>unfold T.LK T.FN;k_is)
  (case c65=>k_is)
  (case k65=>k_is)
  (case a66=>k_is)
  (case l66=>unfold T.LK T.FN;k_is)
  (case c66=>k_is)
  (case k66=>k_is)
  (case x0=>k_is)
  (case x1=>k_is)
  (case z0=>k_is)
  (case z1=>k_is)
  (case z2=>k_is)
  (case z3=>k_is)
  (case z4=>k_is)
  (case z5=>k_is)
  (case z6=>k_is)
  (case z7=>k_is)
  (case z8=>k_is)
  (case z9=>k_is)
  (case UL=>k_is)
  (case QZ=>k_is)
  (case Q_=>k_is)
  (case z13=>k_is)
  (case q0=>kernel_rfl)
  (case q1=>kernel_rfl)
  (case q2=>kernel_rfl)
  (case q3=>kernel_rfl)
  (case q4=>kernel_rfl)
  (case q5=>kernel_rfl)
  (case q6=>kernel_rfl)
  (case q7=>kernel_rfl)
  (case q8=>kernel_rfl)
  (case q9=>kernel_rfl)
  (case q10=>kernel_rfl)
  (case q11=>kernel_rfl)
  (case q12=>kernel_rfl)
  (case q13=>kernel_rfl)
  (case q14=>kernel_rfl)
  (case q15=>kernel_rfl)
  (case q16=>kernel_rfl)
  (case q17=>kernel_rfl)
  (case q18=>kernel_rfl)
  (case q19=>kernel_rfl)
  (case q20=>kernel_rfl)
  (case q21=>kernel_rfl)
  (case q22=>kernel_rfl)
  (case q23=>kernel_rfl)
  (case q24=>kernel_rfl)
  (case q25=>kernel_rfl)
  (case q26=>kernel_rfl)
  (case q27=>kernel_rfl)
  (case q28=>kernel_rfl)
  (case q29=>kernel_rfl)
  (case q30=>kernel_rfl)
  (case q31=>kernel_rfl)
  (case q32=>kernel_rfl)
  (case q33=>kernel_rfl)
  (case q34=>kernel_rfl)
  (case q35=>kernel_rfl)
  (case q36=>kernel_rfl)
  (case q37=>kernel_rfl)
  (case q38=>kernel_rfl)
  (case q39=>kernel_rfl)
  (case q40=>kernel_rfl)
  (case q41=>kernel_rfl)
  (case q42=>kernel_rfl)
  (case q43=>kernel_rfl)
  (case q44=>kernel_rfl)
  (case q45=>kernel_rfl)
  (case q46=>kernel_rfl)
  (case q47=>kernel_rfl)
  (case q48=>kernel_rfl)
  (case q49=>kernel_rfl)
  (case q50=>kernel_rfl)
  (case q51=>kernel_rfl)
  (case q52=>kernel_rfl)
  (case q53=>kernel_rfl)
  (case q54=>kernel_rfl)
